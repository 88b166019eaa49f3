import PyProof.Rows.All
import Wide.All
import OpenK.AllK
import Wide.FinOn
import Lean
import PyProof.EqAt
import PyProof.EqKinds
import PyProof.TupleCall
import KE.KSortTup
import PyProof.Rows.Range3
import PySem.Challenge.RW_nestwright_k59_outer_ones_looked_at
open PySem.W (Frag)
open Array renaming length_toList → dW, getElem?_toList → eZ
open Bool renaming and_eq_true_iff → ar, false_ne_true → aA, and_eq_true → bh, eq_iff_iff → bT, false_eq_true → cC, not_eq_true' → cV, false_and → eQ, or_eq_true_iff → fB
open Int renaming toNat_natCast → aB, mul_pos → aP, ne_of_gt → aT, fdiv_eq_ediv_of_nonneg → aU, zero_mul → aX, eq_of_mul_eq_mul_right → bo, pow_succ → bv, natAbs_mul → bw, eq_ofNat_of_zero_le → bz, mul_zero → bC, mul_eq_zero → bD, mul_comm → bO, natCast_ediv → bP, pow_zero → bR, add_zero → bS, mul_fdiv_cancel_left → bZ, natAbs_natCast → cn, mul_ne_zero → cw, zero_add → cx, mul_one → cy, mul_assoc → cI, pow_pos → cS, one_mul → cT, fmod_eq_emod_of_nonneg → dg, emod_lt_of_pos → dh, mul_neg_of_pos_of_neg → dr, lt_trichotomy → dD, emod_nonneg → dP, natAbs_neg → dS, add_mul → dU, lt_or_gt_of_ne → eh, fmod_nonneg_of_pos → fi, fmod_def → fj, natAbs_dvd_natAbs → fk, pow_add → fv, mul_pow → fw, gcd_eq_zero_iff → fH, natCast_nonneg → fL, fmod_lt_of_pos → fM, gcd_dvd_right → fY
open List renaming length_map → aa, getElem?_eq_some_iff → af, getElem?_eq_getElem → ah, length_append → ai, getD_eq_getElem?_getD → aj, size_toArray → ak, mem_cons → ao, getElem?_map → au, mem_cons_self → av, mem_cons_of_mem → aw, mem_of_getElem? → ay, length_range → az, mem_singleton → aC, length_cons → aE, getElem?_append_right → aF, mem_append_right → aG, getElem?_set_ne → aH, getElem?_append_left → aK, length_take → aM, map_append → aN, not_mem_nil → aO, length_replicate → aQ, getElem?_set → aR, getElem?_eq_none → aV, mem_append → aW, mem_range → bf, mem_map → bg, length_set → bj, getElem?_range → br, filterMap_cons → bt, mem_append_left → bu, getElem?_eq_none_iff → bA, take_length → bE, replicate_succ → bF, nil_append → bH, map_map → bI, length_drop → bJ, mem_map_of_mem → bK, length_reverse → bM, getElem?_take_of_lt → bN, length_singleton → bW, flatten_cons → ca, getElem?_reverse → cm, mem_filter → cr, append_nil → cu, getElem?_cons_succ → cA, all_eq_true → cB, nodup_cons → cF, reverse_cons → cJ, getElem?_of_mem → cL, map_cons → cN, length_eq_zero_iff → cQ, getElem?_replicate → cR, ext_getElem? → cU, getElem?_toArray → cY, map_congr_left → db, append_assoc → dq, any_cons → dw, all_cons → dA, lookup_cons → dF, any_eq_true → dG, take_of_length_le → dI, getElem?_set_self → dJ, range_succ → dM, mem_iff_getElem? → dO, take_zero → dQ, drop_zero → dR, getElem?_drop → dY, filterMap_nil → dZ, append_of_mem → d7, take_add_one → eA, eraseIdxIfInBounds_toArray → eC, mem_reverse → eE, sum_append → eJ, of_mem_zip → eK, forIn_cons → eN, forIn_nil → eP, mem_of_mem_eraseIdx → eS, length_filterMap_le → eU, eq_of_mem_replicate → eV, range_succ_eq_map → eX, all_map → eY, dropLast_eq_take → fh, length_pos_iff → fq, getD_cons_succ → ft, mem_filterMap → fF, getElem?_take → fG, foldl_append → fJ, any_eq_false → fK, zipIdx_cons → fS, getElem_mem → fW
open Nat renaming le_refl → aq, lt_of_lt_of_le → aD, mul_le_mul_right → aI, lt_or_ge → aJ, zero_le → aL, succ_mul → aS, mul_le_mul → aY, ne_of_lt → aZ, lt_irrefl → bc, le_trans → bq, eq_or_lt_of_le → bB, mul_le_mul_left → bG, le_of_lt_succ → bQ, not_lt_zero → bV, lt_succ_self → bX, sub_self → bY, lt_succ_of_lt → ce, mul_succ → ci, pow_pos → cj, sub_zero → cD, mul_comm → cE, min_eq_left → cH, le_of_succ_le → cK, lt_of_le_of_lt → cP, le_mul_of_pos_left → cX, pow_le_pow_right → da, ne_of_gt → de, add_comm → df, le_of_dvd → dE, dvd_mul_left → dH, le_of_lt → dL, add_assoc → dX, pos_of_ne_zero → d8, succ_ne_zero → eF, le_add_right → eG, pow_add → eH, mul_one → eI, eq_of_mul_eq_mul_left → eR, zero_mul → fc, zero_add → ff, min_self → fg, pow_lt_pow_right → fo, gcd_dvd_right → fQ
open Option renaming map_eq_some_iff → ac, ite_none_right_eq_some → ad, bind_eq_some_iff → ae, ite_none_left_eq_some → cZ, getD_none → fE
open Rat renaming intCast_mul → ax, intCast_add → bU, intCast_inj → cG, intCast_pow → cO, pow_zero → cW, pow_succ → dc, mul_eq_zero → dN, intCast_neg → eO, intCast_eq_zero_iff → eW, num_divInt_den → fI, divInt_eq_div → fN
open PySem renaming wpAny_bind → ηB,wpAny_pure → ηP
open PySem.Heap renaming get?_push_of_some → ηH,lt_size → ηL,get?_push_size → ηG
set_option Elab.async false
set_option linter.all false
set_option maxRecDepth 100000
set_option genSizeOf false
set_option bootstrap.genMatcherCode false
local macro_rules|`(tactic| omega) => `(tactic| lia)
namespace L2
open PySem PySem.Spec PyProof.Rows
abbrev xM:=Sum Int Str
def yS:xM->Value->Bool
 | .inl k,v=>Value.isInt k v
 | .inr x,v=>Value.isStrOf x v
def Nw(w:World):xM->Int
 | .inl k=>hashInt k
 | .inr x=>hashStr w x
theorem tD:∀{k:xM} {v:Value},yS k v=true->(∃ i t,k=Sum.inl i/\v=Value.int i t)\/(∃ x t,k=Sum.inr x/\v=Value.str x t)
 | .inl i,v,h=>by
  obtain⟨t,e⟩:=Value.isInt_shape (k:=i) (v:=v) h;exact .inl ⟨i,t,rfl,e⟩
 | .inr x,v,h=>by
  obtain⟨t,e⟩:=Value.isStrOf_shape (x:=x) (v:=v) h;exact .inr ⟨x,t,rfl,e⟩
theorem Dw(i:Int)(t:Tok):yS (.inl i) (.int i t)=true:=by simp[yS,Value.isInt]
theorem Dv(x:Str)(t:Tok):yS (.inr x) (.str x t)=true:=by simp[yS,Value.isStrOf]
theorem JU(a b:Int):decide ((Sum.inl a:xM)=Sum.inl b)=(a == b):=by
 by_cases e:a=b
 ·subst e;simp
 ·have h:¬ (Sum.inl a:xM)=Sum.inl b:=λq=>e (Sum.inl.inj q);rw[decide_eq_false h];exact (beq_eq_false_iff_ne.mpr e).symm
theorem JR(a b:Str):decide ((Sum.inr a:xM)=Sum.inr b)=decide (a=b):=by
 by_cases e:a=b
 ·subst e;simp
 ·have h:¬ (Sum.inr a:xM)=Sum.inr b:=λq=>e (Sum.inr.inj q);rw[decide_eq_false h,decide_eq_false e]
theorem JT(a:Int)(b:Str):decide ((Sum.inl a:xM)=Sum.inr b)=false:=decide_eq_false (λq=>nomatch q)
theorem JS(a:Str)(b:Int):decide ((Sum.inr a:xM)=Sum.inl b)=false:=decide_eq_false (λq=>nomatch q)
def wy(prog:Program)(w:World):PySem.KeyKind prog w xM where
 is:=yS
 hash:=Nw w
 inj:=λv a b ha hb=>by
  rcases tD ha with⟨i,t,rfl,rfl⟩|⟨x,t,rfl,rfl⟩
  ·rcases tD hb with⟨j,u,rfl,e⟩|⟨y,u,rfl,e⟩
   ·injection e with e1 _;rw[e1]
   ·exact nomatch e
  ·rcases tD hb with⟨j,u,rfl,e⟩|⟨y,u,rfl,e⟩
   ·exact nomatch e
   ·injection e with e1 _;rw[e1]
 byValue:=λk v h=>by
  rcases tD h with⟨i,t,rfl,rfl⟩|⟨x,t,rfl,rfl⟩ <;> rfl
 pyHash:=λhv h=>by
  rcases tD hv with⟨i,t,rfl,rfl⟩|⟨x,t,rfl,rfl⟩
  ·exact wpAny_pyHash_int h
  ·exact wpAny_pyHash_str h
 eqBool:=λhu hv h=>by
  rcases tD hu with⟨i,t,rfl,rfl⟩|⟨x,t,rfl,rfl⟩
  ·rcases tD hv with⟨j,u,rfl,rfl⟩|⟨y,u,rfl,rfl⟩
   ·rw[JU] at h;exact wpAny_eqBool_int h
   ·rw[JT] at h;exact SeqAt.EqAt.int_str i t y u _ _ _ _ h
  ·rcases tD hv with⟨j,u,rfl,rfl⟩|⟨y,u,rfl,rfl⟩
   ·rw[JS] at h;exact SeqAt.EqAt.str_int x t j u _ _ _ _ h
   ·rw[JR] at h;exact wpAny_eqBool_str h
 «strs» := λk x t v h=>by
  rcases tD h with⟨i,u,rfl,e⟩|⟨y,u,rfl,e⟩
  ·exact nomatch e
  ·injection e with e1 _;subst e1;cases v <;> rfl
inductive V where
 | non|bl (b:Bool)|int (i:Int)|str (x:Str)|byt (b:Array UInt8)|flt (b:UInt64)|ref (a:Addr)|ty (n:String)
 deriving DecidableEq
def RelV:V->Value->Prop
 | .non,u=>u=Value.none
 | .bl b,u=>u=Value.bool b
 | .int i,u=>∃ t,u=Value.int i t
 | .str x,u=>∃ t,u=Value.str x t
 | .byt b,u=>∃ t,u=Value.bytes b t
 | .flt b,u=>∃ t,u=Value.float b t
 | .ref a,u=>u=Value.ref a
 | .ty n,u=>u=Value.type n
abbrev Vals:List V->List Value->Prop:=Paired RelV
theorem Vals.length(r:Vals xs us):xs.length=us.length:=Paired.length r
theorem Vals.get:∀{xs:List V} {us:List Value} {i:Nat} {x:V},Vals xs us->xs[i]? = some x->∃ u,us[i]? = some u/\RelV x u
 | _,_,_,_,.nil,e=>by simp at e
 | _,_,0,_,.cons r _,e=>by simp at e;subst e;exact⟨_,rfl,r⟩
 | _,_,i+1,x,.cons _ t,e=>by
  obtain⟨u,h1,h2⟩:=Vals.get (i:=i) (x:=x) t (by simpa using e);exact⟨u,by simpa using h1,h2⟩
theorem Vals.set(r:RelV x u):∀{xs:List V} {us:List Value} (i:Nat),Vals xs us->Vals (xs.set i x) (us.set i u)
 | _,_,_,.nil=>.nil
 | _,_,0,.cons _ t=>.cons r t
 | _,_,i+1,.cons q t=>.cons q (Vals.set r i t)
theorem Vals.append:∀{xs ys:List V} {us ws:List Value},Vals xs us->Vals ys ws->Vals (xs++ys) (us++ws)
 | _,_,_,_,.nil,s=>s
 | _,_,_,_,.cons r t,s=>.cons r (Vals.append t s)
theorem Vals.take:∀{xs:List V} {us:List Value} (n:Nat),Vals xs us->Vals (xs.take n) (us.take n)
 | _,_,0,_=>.nil
 | _,_,_+1,.nil=>.nil
 | _,_,n+1,.cons r t=>.cons r (Vals.take n t)
theorem Vals.drop:∀{xs:List V} {us:List Value} (n:Nat),Vals xs us->Vals (xs.drop n) (us.drop n)
 | _,_,0,r=>r
 | _,_,_+1,.nil=>.nil
 | _,_,n+1,.cons _ t=>Vals.drop n t
def Ks:Option V->Option Value->Prop
 | some v,some u=>RelV v u
 | none,none=>True
 | _,_=>False
def KV{κ:Type}:List (κ×V)->List (κ×Value)->Prop:=Paired λ(p:κ×V) (q:κ×Value)=>p.1=q.1/\RelV p.2 q.2
def kV:xM->V
 | .inl i=>.int i
 | .inr x=>.str x
inductive HO where
  | lst (xs:List V)
  | tup (xs:List V)
  | dK (kvs:List (xM×V))|dT (kvs:List (List xM×V))
  | set (S:Int->Bool) (n:Nat)
  | ins (C dx:Addr) (fs:List (Str×V))
  | own (x:Addr)
  | xd (fs:List (Str×V))
  | met (f x:Addr)
  | rng (lo hi:Int)
  | frz (o:Obj) (u:HO)
  | tbl (ps:Array Value)
  | ext (φ:Heap->Prop)
abbrev Hp:=Addr->Option HO
def tJ(H:Hp)(a:Addr)(o:HO):Hp:=λb=>if b=a then some o else H b
theorem sX:tJ H a o a=some o:=by unfold tJ;rw[if_pos rfl]
theorem sS(h:b≠a):tJ H a o b=H b:=by unfold tJ;rw[if_neg h]
theorem Ls{H:Hp}{a b:Addr}{o u:HO}(h:H a=some o)(h':H b=some u)(d:o≠u):a≠b:=by
 intro e;subst e;rw[h] at h';exact d (Option.some.inj h')
theorem sY{H:Hp}{o:HO}(h:H a=some o)(h':H b=none):a≠b:=by
 intro e;subst e;rw[h] at h';cases h'
section
variable(P:Program)(w:World)
def ObjOk(H:Hp)(h:Heap)(a:Addr):HO->Prop
 | .lst xs=>xs.length<=sizeLine/\∃(its:List Value) (n:Nat),Vals xs its/\h.get? a=some { cls:=.type "list",data:=.seq its.toArray n }
 | .tup xs=>xs.length<=sizeLine/\∃ its:List Value,Vals xs its/\IsTup h a its.toArray
 | .dK kvs=>kvs.length<=sizeLine/\(a == sysModules)=false/\∃ vs,KV kvs vs/\h.DictOf (wy P w) a vs
 | .dT kvs=>kvs.length<=sizeLine/\(a == sysModules)=false/\∃ xs:List (List xM×Addr×Value),
   Paired (λ(p:List xM×V) (q:List xM×Addr×Value)=>p.1=q.1/\H q.2.1=some (.tup (p.1.map kV))/\RelV p.2 q.2.2) kvs xs /\
   ∃ o es ep,h.get? a=some o/\o.ExactDict/\o.data = .dict es ep/\es.toList=xs.map (entryOfKey (tupleKind (wy P w)))/\(xs.map (·.1)).Nodup
 | .set S n=>h.SetOf (intKind P w) a S n
 | .ins C dx fs=>H dx=some (.own a)/\fs.length<=1000/\dx≠a/\h.get? a=some (PySem.W.instObj C dx) /\
   ∃ mA,h.Ns1 dx mA/\(∀ f,Ks (fs.lookup f) (mA f))/\PySem.Within mA (fs.map (·.1))
 | .own _=>∃ o,h.get? a=some o
 | .xd fs=>∃ mA,h.Ns1 a mA/\∀ f,Ks (fs.lookup f) (mA f)
 | .rng lo hi=>∃ t u v,h.get? a=some { cls:=.type "range",data:=.fields #[.int lo t,.int hi u,.int 1 v] }
 | .frz o u=>h.get? a=some o/\ObjOk H h a u
 | .tbl ps=>h.get? a=some { cls:=.none,data:=.fields ps }
 | .met f x=>h.get? a=some (PySem.W.methodObj (.ref f) (.ref x))
 | .ext φ=>φ h/\(∃ o,h.get? a=some o)/\∀ h1 h2:Heap,φ h1->(∀ o,h1.get? a=some o->h2.get? a=some o)->φ h2
def HOk(H:Hp)(h:Heap):Prop:=∀ a o,H a=some o->ObjOk P w H h a o
end
section
variable{P:Program}{w:World}{H H':Hp}{h h':Heap}{a:Addr}{o:HO}
theorem ObjOk.lt(x:ObjOk P w H h a o):a<h.objs.size:=by
 cases o with
 | lst xs=>obtain⟨_,_,_,_,e⟩:=x;exact ηL e
 | tup xs=>obtain⟨_,_,_,p⟩:=x;exact p.lt
 | dK kvs=>obtain⟨_,_,_,_,o,_,_,e,_⟩:=x;exact ηL e
 | dT kvs=>obtain⟨_,_,_,_,o,_,_,e,_⟩:=x;exact ηL e
 | set S n=>obtain⟨o,_,_,_,e,_⟩:=x;exact ηL e
 | ins C dx fs=>obtain⟨_,_,_,e,_⟩:=x;exact ηL e
 | own y=>obtain⟨_,e⟩:=x;exact ηL e
 | xd fs=>obtain⟨_,⟨_,_,_,e,_⟩,_⟩:=x;exact ηL e
 | rng lo hi=>obtain⟨_,_,_,e⟩:=x;exact ηL e
 | frz ob u=>obtain⟨e,_⟩:=x;exact ηL e
 | tbl ps=>exact ηL (show h.get? a=some _ from x)
 | met f y=>exact ηL (show h.get? a=some _ from x)
 | ext φ=>obtain⟨_,⟨_,e⟩,_⟩:=x;exact ηL e
theorem Paired.mapP{α β:Type}{F G:α->β->Prop}:∀{l₁:List α} {l₂:List β},Paired F l₁ l₂->(∀ a b,F a b->G a b)->Paired G l₁ l₂
 | _,_,.nil,_=>.nil
 | _,_,.cons r t,f=>.cons (f _ _ r) (Paired.mapP t f)
theorem ObjOk.stay(x:ObjOk P w H h a o)(k:∀ b u,(b=a\/H b=some (.own a))->h.get? b=some u->h'.get? b=some u)
  (ho:∀ b,H b=some (.own a)->H' b=some (.own a)) (ht:∀ b xs,H b=some (.tup xs)->H' b=some (.tup xs)):ObjOk P w H' h' a o:=by
 induction o with
 | lst xs=>obtain⟨z,its,n,r,e⟩:=x;exact⟨z,its,n,r,k _ _ (.inl rfl) e⟩
 | tup xs=>obtain⟨z,its,r,ob,e,c⟩:=x;exact⟨z,its,r,ob,k _ _ (.inl rfl) e,c⟩
 | dK kvs=>obtain⟨z,y,vs,r,ob,es,ep,e,c⟩:=x;exact⟨z,y,vs,r,ob,es,ep,k _ _ (.inl rfl) e,c⟩
 | dT kvs =>
  obtain⟨z,y,xs,r,ob,es,ep,e,c⟩:=x;exact⟨z,y,xs,Paired.mapP r λp q z=>⟨z.1,ht _ _ z.2.1,z.2.2⟩,ob,es,ep,k _ _ (.inl rfl) e,c⟩
 | set S n=>obtain⟨ob,es,ep,t,e,c⟩:=x;exact⟨ob,es,ep,t,k _ _ (.inl rfl) e,c⟩
 | ins C dx fs =>
  obtain⟨d,z,ne,e,mA,⟨od,es,ep,e2,c⟩,r⟩:=x;exact⟨ho _ d,z,ne,k _ _ (.inl rfl) e,mA,⟨od,es,ep,k _ _ (.inr d) e2,c⟩,r⟩
 | own y=>obtain⟨ob,e⟩:=x;exact⟨ob,k _ _ (.inl rfl) e⟩
 | xd fs=>obtain⟨mA,⟨od,es,ep,e,c⟩,r⟩:=x;exact⟨mA,⟨od,es,ep,k _ _ (.inl rfl) e,c⟩,r⟩
 | rng lo hi=>obtain⟨t,u,v,e⟩:=x;exact⟨t,u,v,k _ _ (.inl rfl) e⟩
 | frz ob u ih=>obtain⟨e,q⟩:=x;exact⟨k _ _ (.inl rfl) e,ih q⟩
 | tbl ps =>
  have e:h.get? a=some { cls:=.none,data:=.fields ps }:=x;show h'.get? a=some { cls:=.none,data:=.fields ps };exact k a _ (.inl rfl) e
 | met f y =>
  have e:h.get? a=some (PySem.W.methodObj (.ref f) (.ref y)):=x;show h'.get? a=some (PySem.W.methodObj (.ref f) (.ref y));exact k a _ (.inl rfl) e
 | ext φ=>obtain⟨p,⟨o,e⟩,st⟩:=x;exact⟨st _ _ p λo q=>k _ _ (.inl rfl) q,⟨o,k _ _ (.inl rfl) e⟩,st⟩
theorem HOk.lt(x:HOk P w H h)(e:H a=some o):a<h.objs.size:=(x a o e).lt
theorem HOk.fresh(x:HOk P w H h)(e:h.objs.size<=a):H a=none:=by
 cases q:H a with
 | none=>rfl
 | some u=>exact absurd (aD (x.lt q) e) (bc _)
theorem HOk.kept(x:HOk P w H h)(k:∀ b u,h.get? b=some u->h'.get? b=some u):HOk P w H h':=λa o e =>
 (x a o e).stay (λb u _ q=>k b u q) (λ_ q=>q) λ_ _ q=>q
theorem HOk.laid(x:HOk P w H h)(k:∀ b u,h.get? b=some u->h'.get? b=some u)(hp:h.objs.size<=a)(new:ObjOk P w (tJ H a o) h' a o):HOk P w (tJ H a o) h':=λb u e=>by
 have hn:=x.fresh hp;by_cases hb:b=a
 ·subst hb;rw[sX] at e;cases e;exact new
 ·rw[sS hb] at e;exact (x b u e).stay (λc v _ q=>k c v q) (λc q=>by rw[sS (sY q hn)];exact q) λc xs q=>by rw[sS (sY q hn)];exact q
end
def Rd(H:Hp)(a:Addr)(u:HO):Prop:=H a=some u\/∃ o,H a=some (.frz o u)
theorem Rd.ok(r:Rd H a u)(x:HOk P w H h):ObjOk P w H h a u:=by
 rcases r with r|⟨o,r⟩
 ·exact x a u r
 ·obtain⟨_,q⟩:=x a _ r;exact q
def MF:Option HO->Prop
 | some (.lst _)=>True
 | some (.dK _)=>True
 | some (.dT _)=>True
 | some (.set _ _)=>True
 | some (.ins _ _ _)=>True
 | some (.ext _)=>True
 | _=>False
section
variable{P:Program}{w:World}{H:Hp}{h h':Heap}{x e:Addr}{o':HO}
theorem HOk.write(ok:HOk P w H h)(mu:MF (H x))(he:e=x\/H e=some (.own x))(k:∀ b u,b≠e->h.get? b=some u->h'.get? b=some u)(heo:∃ u,h'.get? e=some u)
  (new:ObjOk P w (tJ H x o') h' x o'):HOk P w (tJ H x o') h':=λb u q=>by
 have nown:∀ c y,H c=some (.own y)->c≠x:=λc y r z=>by subst z;rw[r] at mu;exact mu
 have ntup:∀ c xs,H c=some (.tup xs)->c≠x:=λc xs r z=>by subst z;rw[r] at mu;exact mu
 by_cases hb:b=x
 ·subst hb;rw[sX] at q;cases q;exact new
 ·rw[sS hb] at q;by_cases hbe:b=e
  ·have q':H b=some (.own x):=by
    rcases he with z|z
    ·exact absurd (hbe.trans z) hb
    ·rw[hbe];exact z
   rw[q] at q';cases q';obtain⟨v,hv⟩:=heo;exact⟨v,by rw[hbe];exact hv⟩
  ·refine (ok b u q).stay (λc v hc r=>k c v ?_ r) (λc r=>by rw[sS (nown c b r)];exact r) λc xs r=>by rw[sS (ntup c xs r)];exact r
   rcases hc with rfl|hc
   ·exact hbe
   ·rintro rfl;rcases he with z|z
    ·exact nown c b hc z
    ·rw[hc] at z;cases z;exact hb rfl
end
structure Un (fs ex:List Addr)(H H':Hp)(h h':Heap):Prop where
 keep:∀ b o,h.get? b=some o->H b=none->b ∉ fs->b ∉ ex->h'.get? b=some o
 slot:∀ b o,h.get? b=some o->H b=none->b∈fs->b ∉ ex->∃ sl,h'.get? b=some { o with slots:=sl }
 free:∀ b o,h.get? b=some o->H b=none->b ∉ ex->H' b=none
 there:∀ b o,h.get? b=some o->b ∉ ex->∃ o',h'.get? b=some o'
 tups:∀ b xs,H b=some (.tup xs)->H' b=some (.tup xs)
 frzs:∀ b o u,H b=some (.frz o u)->H' b=some (.frz o u)
 tbls:∀ b ps,H b=some (.tbl ps)->∃ more,H' b=some (.tbl (ps++more))
section
variable{fs fs' ex ex':List Addr}{H H1 H2:Hp}{h h1 h2 h':Heap}{a x e:Addr}{o:HO}
theorem Un.any(u:Un fs ex H H1 h h1)(q:h.get? b=some ob)(n:H b=none)(hx:b ∉ ex):∃ sl,h1.get? b=some { ob with slots:=sl }:=by
 by_cases hb:b∈fs
 ·exact u.slot b ob q n hb hx
 ·exact⟨ob.slots,u.keep b ob q n hb hx⟩
theorem Un.kept(k:∀ b u,h.get? b=some u->h'.get? b=some u):Un fs ex H H h h' :=
 ⟨λb ob q _ _ _=>k b ob q,λb ob q _ _ _=>⟨ob.slots,k b ob q⟩,λ_ _ _ n _=>n,λb ob q _=>⟨ob,k b ob q⟩,λ_ _ q=>q,λ_ _ _ q=>q,λ_ ps q=>⟨#[],by rw[q];simp⟩⟩
theorem Un.refl:Un fs ex H H h h:=Un.kept λ_ _ q=>q
theorem Un.laid(k:∀ b u,h.get? b=some u->h'.get? b=some u)(hp:h.objs.size<=a)(hn:H a=none):Un fs ex H (tJ H a o) h h' where
 keep:=λb u q _ _ _=>k b u q
 slot:=λb u q _ _ _=>⟨u.slots,k b u q⟩
 free:=λb u q n _=>by rw[sS (aZ (aD (ηL q) hp))];exact n
 there:=λb u q _=>⟨u,k b u q⟩
 tups:=λb xs q=>by rw[sS (sY q hn)];exact q
 frzs:=λb u xs q=>by rw[sS (sY q hn)];exact q
 tbls:=λb ps q=>⟨#[],by rw[sS (sY q hn),q];simp⟩
theorem Un.write(mu:MF (H x))(he:e=x\/H e=some (.own x))(k:∀ b u,b≠e->h.get? b=some u->h'.get? b=some u)(heo:∃ u,h'.get? e=some u):Un fs ex H (tJ H x o) h h':=by
 have hx:∀ b,H b=none->b≠x:=λb n z=>by subst z;rw[n] at mu;exact mu
 have hb:∀ b,H b=none->b≠e:=λb n z=>by
  subst z;rcases he with r|r
  ·exact hx b n r
  ·rw[n] at r;cases r
 have hm:∀ b u,H b=some u->¬ MF (some u)->b≠x:=λb u q nm z=>by subst z;rw[q] at mu;exact nm mu
 refine⟨λb u q n _ _=>k b u (hb b n) q,λb u q n _ _=>⟨u.slots,k b u (hb b n) q⟩,λb u q n _=>by rw[sS (hx b n)];exact n,λb u q _=>?_,
  λb xs q=>by rw[sS (hm b _ q λz=>z)];exact q,λb u xs q=>by rw[sS (hm b _ q λz=>z)];exact q,λb ps q=>⟨#[],by rw[sS (hm b _ q λz=>z),q];simp⟩⟩
 by_cases hbe:b=e
 ·subst hbe;exact heo
 ·exact⟨u,k b u hbe q⟩
end
def Mw(h:Heap)(H:Hp):List Addr:=(List.range h.objs.size).filter λa=>(H a).isSome
def yz(h:Heap)(H:Hp):Heap:=PySem.W.hideAll h (Mw h H)
theorem DA(h:Heap)(H:Hp):(yz h H).objs.size=h.objs.size:=PySem.W.hideAll_size _ _
theorem Fa(e:h.get? b=some o)(n:H b=none):(yz h H).get? b=some o :=
 PySem.W.hideAll_get _ e λhm=>by
  have q:(H b).isSome=true:=(cr.mp hm).2;rw[n] at q;simp at q
theorem GY(e:(yz h H).get? b=some o):h.get? b=some o/\H b=none:=by
 have e':h.get? b=some o:=PySem.W.of_hideAll (Mw h H) e;refine⟨e',?_⟩;cases q:H b with
 | none=>rfl
 | some x =>
  have hm:b∈Mw h H:=cr.mpr ⟨bf.mpr (ηL e'),by simp[q]⟩;have z:(yz h H).get? b=none:=PySem.W.hideAll_none (Mw h H) hm;rw[z] at e;cases e
structure Mod (K:Frag)(mg:Str->Option Value)(base:Heap):Prop where
 kin:K.In base
 glob:base.Ns mainGlobals mg
 blt:∃ mb,base.Ns builtinsNs mb/\∀ x:Str,x ≠ "__name__" -> mb x=bootBuiltins x
 nolimit:base.NoLimit
structure Cx where
 prog:Program
 w:World
 K:Frag
 mg:Str->Option Value
 base:Heap
 A:Around
 N:List Str
 s₀:Shared
 H₀:Hp
 env:Env
 outer:List Env
 stack:List Env
 ex:List Addr
 fn:Str->Bool
 calm:Bool
 pn:List (Addr×Obj)
 xe:Value->Shared->Prop
def CC(l:List Env):List Addr:=l.filterMap (·.frame)
abbrev Cx.fs(X:Cx):List Addr:=CC X.outer
def IF(sc:Scope)(x:Str):Prop:=sc.names.lookup x=some .local\/sc.names.lookup x=some .cell\/sc.names.lookup x=some .free
def AZ(sc:Scope)(x:Str):Prop:=sc.names.lookup x=some .local\/sc.names.lookup x=some .cell
def NU(env:Env)(h:Heap)(m:Str->Option Value)(x:Str)(u:Value):Prop :=
 (env.kindOf x=some .local/\m x=some u)\/((env.kindOf x=some .cell\/env.kindOf x=some .free)/\∃ c,env.cells.lookup x=some c/\h.IsCell c (some u))
structure Cx.Ok (X:Cx):Prop where
 mod:Mod X.K X.mg X.base
 kind:X.env.scope.kind = .function
 glob:X.env.globals=mainGlobals
 blt:X.env.builtins=builtinsNs
 above:X.s₀.heap.objs.size<=X.env.locals
 inj:∀ x y c,X.env.cells.lookup x=some c->X.env.cells.lookup y=some c->x=y
 has:∀ x,(X.env.kindOf x=some .cell\/X.env.kindOf x=some .free)->∃ c,X.env.cells.lookup x=some c
 cab:∀ x c,X.fn x=true->X.env.cells.lookup x=some c->X.s₀.heap.objs.size<=c
 hd:X.calm=true->X.A.handled=none
 frames:X.A.frames=some X.stack
 stk:X.stack=X.outer\/(X.stack=X.env::X.outer/\X.env.frame=some X.env.locals)
 exf:∀ b∈X.ex,b≠X.env.locals/\∀ x c,X.env.cells.lookup x=some c->c≠b
 bs:∀ b o,X.base.get? b=some o->X.s₀.heap.get? b=some o/\X.H₀ b=none
 bsz:X.base.objs.size<=X.s₀.heap.objs.size
 noex:∀ b o,X.base.get? b=some o->b ∉ X.ex
 exfs:∀ b∈X.ex,b ∉ X.fs
 funs:X.s₀.heap.FunFrames X.base X.outer
 frf:∀ b∈X.fs,X.H₀ b=none
 sr:X.base.NoSeer/\X.prog.given.tree=none
 rn:∃ e l,X.stack=e::l/\e.scope.isGenerator=false/\e.scope.isCoroutine=false/\e.builtins=builtinsNs/\e.globals=mainGlobals
structure Inv (X:Cx)(pins:List (Addr×Obj))(σ:List (Option V))(H:Hp)(s:Shared):Prop where
 ok:X.Ok
 os:s.os=X.s₀.os
 bare:AllBare s.gens
 base:Un X.fs X.ex X.H₀ H X.s₀.heap s.heap
 loc:∃ m,s.heap.Ns X.env.locals m/\∀(i:Nat) (x:Str) (v:V),X.N[i]? = some x->σ[i]? = some (some v)->IF X.env.scope x->∃ u,RelV v u/\NU X.env s.heap m x u
 cell:∀ x c,X.env.cells.lookup x=some c->∃ v,s.heap.IsCell c v
 free:H X.env.locals=none
 freeC:∀ x c,X.env.cells.lookup x=some c->H c=none
 pin:∀ p∈X.pn++pins,s.heap.get? p.1=some p.2/\H p.1=none/\p.1≠X.env.locals/\p.1 ∉ X.fs/\∀ v,p.2.data ≠ .cell v
 hok:HOk X.prog X.w H s.heap
 len:σ.length=X.N.length
section
variable{X:Cx}{pins:List (Addr×Obj)}{σ:List (Option V)}{H H':Hp}{s:Shared}{h':Heap}
theorem Cx.Ok.nofr(ok:X.Ok)(e:X.base.get? b=some o):b ∉ X.fs:=λhb=>by
 have:=(ok.funs.mem hb).1;rw[e] at this;cases this
theorem Inv.bs(I:Inv X pins σ H s):∀ b o,X.base.get? b=some o->s.heap.get? b=some o/\H b=none:=λb o e =>
 ⟨I.base.keep b o (I.ok.bs b o e).1 (I.ok.bs b o e).2 (I.ok.nofr e) (I.ok.noex b o e),I.base.free b o (I.ok.bs b o e).1 (I.ok.bs b o e).2 (I.ok.noex b o e)⟩
theorem Inv.bk(I:Inv X pins σ H s):∀ b o,X.base.get? b=some o->s.heap.get? b=some o:=λb o e=>(I.bs b o e).1
theorem Inv.mod(I:Inv X pins σ H s):Mod X.K X.mg X.base:=I.ok.mod
theorem Inv.kIn(I:Inv X pins σ H s):X.K.In s.heap:=I.ok.mod.kin.keeps I.bk
theorem Inv.nolimit(I:Inv X pins σ H s):s.heap.NoLimit:=I.ok.mod.nolimit.keeps I.bk
theorem Inv.lt(I:Inv X pins σ H s):X.env.locals<s.heap.objs.size:=let ⟨_,hn,_⟩:=I.loc;hn.lt
theorem Inv.sz(I:Inv X pins σ H s):X.s₀.heap.objs.size<=s.heap.objs.size:=bq I.ok.above (dL I.lt)
theorem Inv.nofs(I:Inv X pins σ H s)(h:s.heap.objs.size<=a):a ∉ X.fs:=λhb=>by
 obtain⟨_,o,ho,_⟩:=I.ok.funs.mem hb;exact absurd (aD (ηL ho) (bq I.sz h)) (bc _)
theorem Inv.cne(I:Inv X pins σ H s):∀ x c,X.env.cells.lookup x=some c->c≠X.env.locals:=λx c e z=>by
 obtain⟨v,o,ho,hd⟩:=I.cell x c e;obtain⟨m,⟨o',es,ep,ho',hd',_⟩,_⟩:=I.loc;rw[z,ho'] at ho;cases ho;rw[hd'] at hd;cases hd
theorem Inv.funs(I:Inv X pins σ H s):s.heap.FunFrames X.base X.outer:=by
 have all:∀(l:List Env),(∀ b∈CC l,b∈X.fs)->X.s₀.heap.FunFrames X.base l->s.heap.FunFrames X.base l:=by
  intro l;induction l with
  | nil=>intro _ _;trivial
  | cons env r ih =>
   intro hs hl;obtain⟨hk,⟨L,o,hf,hn,ho,hd⟩,hr⟩:=hl;have hL:L∈X.fs:=hs L (by unfold CC;rw[bt,hf];exact av);obtain⟨sl,e⟩:=I.base.slot L o ho (I.ok.frf L hL) hL λz=>I.ok.exfs L z hL;exact⟨hk,⟨L,_,hf,hn,e,hd⟩,ih (λb hb=>hs b (by unfold CC;rw[bt,hf];exact aw _ hb)) hr⟩
 exact all X.outer (λ_ hb=>hb) I.ok.funs
theorem Inv.stack(I:Inv X pins σ H s):s.heap.FunFrames X.base X.stack:=by
 rcases I.ok.stk with e|⟨e,hf⟩
 ·rw[e];exact I.funs
 ·rw[e];obtain⟨m,hn,_⟩:=I.loc;refine .cons (by rw[I.ok.kind];decide) hf hn ?_ I.funs;exact Heap.get?_none_of_le (bq I.ok.bsz I.ok.above)
theorem Inv.stkSub(I:Inv X pins σ H s):∀ b∈CC X.stack,b∈X.env.locals::X.fs:=λb hb=>by
 rcases I.ok.stk with e|⟨e,hf⟩
 ·rw[e] at hb;exact aw _ hb
 ·rw[e] at hb;unfold CC at hb;rw[bt,hf] at hb;exact hb
theorem Inv.stkFree(I:Inv X pins σ H s):∀ b∈CC X.stack,H b=none:=λb hb=>by
 rcases ao.mp (I.stkSub b hb) with e|hb
 ·rw[e];exact I.free
 ·obtain⟨_,o,ho,_⟩:=I.ok.funs.mem hb;exact I.base.free b o ho (I.ok.frf b hb) λz=>I.ok.exfs b z hb
theorem Inv.step{t':Nat}{d':Drawn}{ch:List Addr}(I:Inv X pins σ H s)
  (hch:∀ b∈ch,(b∈X.ex\/X.s₀.heap.objs.size<=b)/\b≠X.env.locals/\(∀ x c,X.env.cells.lookup x=some c->c≠b)/\∀ p∈X.pn++pins,p.1≠b)
  (keep:∀ b o,b≠X.env.locals->b ∉ X.fs->b ∉ ch->s.heap.get? b=some o->H b=none->h'.get? b=some o)
  (slot:∀ b o,b≠X.env.locals->b∈X.fs->b ∉ ch->s.heap.get? b=some o->H b=none->∃ sl,h'.get? b=some { o with slots:=sl }) (free:∀ b o,b ∉ ch->s.heap.get? b=some o->H b=none->H' b=none)
  (there:∀ b o,b ∉ ch->s.heap.get? b=some o->∃ o',h'.get? b=some o')
  (tups:∀ b xs,H b=some (.tup xs)->H' b=some (.tup xs)) (frzs:∀ b o u,H b=some (.frz o u)->H' b=some (.frz o u)) (tbls:∀ b ps,H b=some (.tbl ps)->∃ more,H' b=some (.tbl (ps++more)))
  (ns:∀ m,s.heap.Ns X.env.locals m->h'.Ns X.env.locals m) (hok:HOk X.prog X.w H' h') (hg:AllBare g') :
  Inv X pins σ H' { s with heap:=h',gens:=g',drawn:=d',toks:=t' }:=by
 have neL:∀ b o,X.s₀.heap.get? b=some o->b≠X.env.locals:=λb o e=>aZ (aD (ηL e) I.ok.above);have neC:∀ b o,X.s₀.heap.get? b=some o->b ∉ X.ex->b ∉ ch:=λb o e hx hb=>by
  rcases (hch b hb).1 with z|z
  ·exact hx z
  ·exact absurd (aD (ηL e) z) (bc _)
 have cellK:∀ x c,X.env.cells.lookup x=some c->∀ v,s.heap.IsCell c v->h'.IsCell c v:=λx c e v ⟨o,ho,hd⟩=>by
  have nch:c ∉ ch:=λz=>(hch c z).2.2.1 x c e rfl;by_cases hc:c∈X.fs
  ·obtain⟨sl,q⟩:=slot c o (I.cne x c e) hc nch ho (I.freeC x c e);exact⟨_,q,hd⟩
  ·exact⟨o,keep c o (I.cne x c e) hc nch ho (I.freeC x c e),hd⟩
 refine⟨I.ok,I.os,hg,⟨λb o e n hb hx=>?_,λb o e n hb hx=>?_,λb o e n hx=>?_,λb o e hx=>?_,λb xs e=>tups b xs (I.base.tups b xs e),λb o xs e=>frzs b o xs (I.base.frzs b o xs e),λb ps e=>?_⟩,?_,λx c e=>?_,?_,λx c e=>?_,λp hp=>?_,hok,I.len⟩
 ·exact keep b o (neL b o e) hb (neC b o e hx) (I.base.keep b o e n hb hx) (I.base.free b o e n hx)
 ·obtain⟨sl,e1⟩:=I.base.slot b o e n hb hx;obtain⟨sl',e2⟩:=slot b _ (neL b o e) hb (neC b o e hx) e1 (I.base.free b o e n hx);exact⟨sl',e2⟩
 ·obtain⟨o',e1⟩:=I.base.there b o e hx;exact free b o' (neC b o e hx) e1 (I.base.free b o e n hx)
 ·obtain⟨o',e1⟩:=I.base.there b o e hx;exact there b o' (neC b o e hx) e1
 ·obtain⟨m1,e1⟩:=I.base.tbls b ps e;obtain⟨m2,e2⟩:=tbls b _ e1;exact⟨m1++m2,by rw[e2,Array.append_assoc]⟩
 ·obtain⟨m,hn,hl⟩:=I.loc;refine⟨m,ns m hn,λi x v e1 e2 e3=>?_⟩;obtain⟨u,r,l⟩:=hl i x v e1 e2 e3;refine⟨u,r,?_⟩;rcases l with l|⟨k,c,e,z⟩
  ·exact .inl l
  ·exact .inr ⟨k,c,e,cellK x c e _ z⟩
 ·obtain⟨v,z⟩:=I.cell x c e;exact⟨v,cellK x c e v z⟩
 ·obtain⟨m,⟨o,_,_,ho,_⟩,_⟩:=I.loc;exact free _ o (λz=>(hch _ z).2.1 rfl) ho I.free
 ·obtain⟨v,o,ho,hd⟩:=I.cell x c e;exact free c o (λz=>(hch c z).2.2.1 x c e rfl) ho (I.freeC x c e)
 ·obtain⟨e,n,ne,nf,d⟩:=I.pin p hp;have nch:p.1 ∉ ch:=λz=>(hch p.1 z).2.2.2 p hp rfl;exact⟨keep p.1 p.2 ne nf nch e n,free p.1 p.2 nch e n,ne,nf,d⟩
theorem Inv.un(I:Inv X pins σ H s)(u:Un X.fs [] H H' s.heap h')(hok:HOk X.prog X.w H' h'):Inv X pins σ H' { s with heap:=h',toks:=t' }:=by
 obtain⟨m,⟨o,es,ep,ho,r⟩,_⟩:=id I.loc;obtain⟨sl,hL⟩:=u.any ho I.free (by simp);exact I.step (g':=s.gens) (d':=s.drawn) (ch:=[]) (λ_ z=>nomatch z) (λb o _ hb _ e n=>u.keep b o e n hb (by simp)) (λb o _ hb _ e n=>u.slot b o e n hb (by simp)) (λb o _ e n=>u.free b o e n (by simp)) (λb o _ e=>u.there b o e (by simp)) u.tups u.frzs u.tbls (λm' hm=>by
  obtain⟨o',es',ep',ho',r'⟩:=hm;rw[ho] at ho';cases ho';exact⟨_,es',ep',hL,r'⟩) hok I.bare
theorem Inv.call{t':Nat}{d':Drawn}{ch:List Addr}(I:Inv X pins σ H s)(u:Un (CC X.stack) ch H H' s.heap h')(hok:HOk X.prog X.w H' h')(hg:AllBare g')
  (hch:∀ b∈ch,(b∈X.ex\/X.s₀.heap.objs.size<=b)/\b≠X.env.locals/\(∀ x c,X.env.cells.lookup x=some c->c≠b)/\∀ p∈X.pn++pins,p.1≠b) :
  Inv X pins σ H' { s with heap:=h',gens:=g',drawn:=d',toks:=t' }:=by
 obtain⟨m,⟨o,es,ep,ho,r⟩,_⟩:=id I.loc;obtain⟨sl,hL⟩:=u.any ho I.free λz=>(hch _ z).2.1 rfl;exact I.step (ch:=ch) hch (λb o hL hb hc e n=>u.keep b o e n (λz=>(ao.mp (I.stkSub b z)).elim hL hb) hc) (λb o _ _ hc e n=>u.any e n hc) (λb o hc e n=>u.free b o e n hc) (λb o hc e=>u.there b o e hc) u.tups u.frzs u.tbls (λm' hm=>by
  obtain⟨o',es',ep',ho',r'⟩:=hm;rw[ho] at ho';cases ho';exact⟨_,es',ep',hL,r'⟩) hok hg
theorem Inv.turned{t':Nat}(I:Inv X pins σ H s)(k:∀ b o,b≠it->s.heap.get? b=some o->h'.get? b=some o)(hn:H it=none)(hL:it≠X.env.locals)
  (h1:it∈X.ex\/X.s₀.heap.objs.size<=it) (h2:∀ x c,X.env.cells.lookup x=some c->c≠it) (h3:∀ p∈X.pn++pins,p.1≠it):Inv X pins σ H { s with heap:=h',toks:=t' }:=by
 have nit:∀ b u,H b=some u->b≠it:=λb u e z=>by rw[z,hn] at e;cases e
 refine I.step (g':=s.gens) (d':=s.drawn) (ch:=[it]) (λb hb=>?_) (λb o _ _ hc e _=>k b o (λz=>hc (by simp[z])) e) (λb o _ _ hc e _=>⟨o.slots,k b o (λz=>hc (by simp[z])) e⟩) (λ_ _ _ _ n=>n)
  (λb o hc e=>⟨o,k b o (λz=>hc (by simp[z])) e⟩) (λ_ _ e=>e) (λ_ _ _ e=>e) (λb ps e=>⟨#[],by rw[e];simp⟩) (λm hm=>?_) (λb u e=>?_) I.bare
 ·have e:b=it:=by simpa using hb
  subst e;exact⟨h1,hL,h2,h3⟩
 ·obtain⟨o,es,ep,ho,r⟩:=hm;exact⟨o,es,ep,k _ o (Ne.symm hL) ho,r⟩
 ·refine (I.hok b u e).stay (λc v hc q=>k c v ?_ q) (λ_ q=>q) λ_ _ q=>q;rcases hc with z|z
  ·rw[z];exact nit b u e
  ·exact nit c _ z
theorem Inv.tok(I:Inv X pins σ H s)(t:Nat):Inv X pins σ H { s with toks:=t }:=I.un (h':=s.heap) (t':=t) Un.refl I.hok
theorem Inv.kept(I:Inv X pins σ H s)(k:∀ b u,s.heap.get? b=some u->h'.get? b=some u):Inv X pins σ H { s with heap:=h',toks:=t' }:=I.un (Un.kept k) (I.hok.kept k)
theorem Inv.laid(I:Inv X pins σ H s)(k:∀ b u,s.heap.get? b=some u->h'.get? b=some u)(hp:s.heap.objs.size<=a)(new:ObjOk X.prog X.w (tJ H a o) h' a o) :
  Inv X pins σ (tJ H a o) { s with heap:=h',toks:=t' }:=I.un (Un.laid k hp (I.hok.fresh hp)) (I.hok.laid k hp new)
theorem Inv.write(I:Inv X pins σ H s)(mu:MF (H x))(he:e=x\/H e=some (.own x))(k:∀ b u,b≠e->s.heap.get? b=some u->h'.get? b=some u)(heo:∃ u,h'.get? e=some u)
  (new:ObjOk X.prog X.w (tJ H x o) h' x o):Inv X pins σ (tJ H x o) { s with heap:=h',toks:=t' }:=I.un (Un.write mu he k heo) (I.hok.write mu he k heo new)
theorem Inv.pins_of(I:Inv X pins σ H s)(h:∀ p∈pins',s.heap.get? p.1=some p.2/\H p.1=none/\p.1≠X.env.locals/\p.1 ∉ X.fs/\∀ v,p.2.data ≠ .cell v):Inv X pins' σ H s :=
 ⟨I.ok,I.os,I.bare,I.base,I.loc,I.cell,I.free,I.freeC,λp hp=>(aW.mp hp).elim (λz=>I.pin p (bu _ z)) (h p),I.hok,I.len⟩
theorem AD{N:List Str}(hN:N.Nodup){i j:Nat}{x:Str}(a:N[i]? = some x)(b:N[j]? = some x):i=j:=by
 obtain⟨h1,e1⟩:=af.mp a;obtain⟨h2,e2⟩:=af.mp b;exact (List.getElem_inj hN).mp (e1.trans e2.symm)
theorem yF{M:Model}{A:Around}{E:Value->Shared->Prop}{i:Nat}{x:Str}{v:V}{u:Value}{Q:Unit->Shared->Prop}(I:Inv X pins σ H s)(hN:X.N.Nodup)(hi:X.N[i]? = some x)(hx:AZ X.env.scope x)(r:RelV v u)
  (h:∀ s',Inv X pins (σ.set i (some v)) H s'->(∃ a,Heap.SameBut a s.heap s'.heap/\(a=X.env.locals\/X.env.cells.lookup x=some a))->Q () s') (hf:X.fn x=true\/X.env.scope.names.lookup x=some .local:=by first|exact .inl rfl|exact .inr rfl|assumption):wpAny M A (storeName X.env x u) Q E s:=by
 obtain⟨m,hn,hl⟩:=id I.loc;have hcls:(X.env.scope.kind == .class || (X.env.scope.kind == .module && X.env.locals != X.env.globals))=false:=by rw[I.ok.kind];rfl
 have hiσ:i<σ.length:=by rw[I.len];exact (af.mp hi).1
 have cne:=I.cne;have tracked:∀{a:Addr} {h':Heap},(∃ o,s.heap.get? a=some o/\H a=none)->Heap.SameBut a s.heap h'->HOk X.prog X.w H h':=λ{a h'} ha hs b ob e=>by
  obtain⟨_,_,hfree⟩:=ha;refine (I.hok b ob e).stay (λc w' hc q=>(hs.2 c ?_).trans q) (λ_ q=>q) λ_ _ q=>q;rintro rfl;rcases hc with rfl|hc
  ·rw[hfree] at e;cases e
  ·rw[hfree] at hc;cases hc
 rcases hx with hk|hk
 ·refine wpAny_storeName_local hk hn (λh' hn' hs=>?_) hcls;obtain⟨oL,_,_,hoL,_⟩:=id hn;refine h _ ⟨I.ok,I.os,I.bare,⟨λb o e n hb hx=>?_,λb o e n hb hx=>?_,I.base.free,λb o e hx=>?_,I.base.tups,I.base.frzs,I.base.tbls⟩,⟨_,hn',λj y v' e1 e2 e3=>?_⟩,λy c e=>?_,I.free,I.freeC,λp hp=>?_,tracked ⟨oL,hoL,I.free⟩ hs,by simpa using I.len⟩ ⟨_,hs,.inl rfl⟩
  ·exact (hs.2 b (aZ (aD (ηL e) I.ok.above))).trans (I.base.keep b o e n hb hx)
  ·obtain⟨sl,e1⟩:=I.base.slot b o e n hb hx;exact⟨sl,(hs.2 b (aZ (aD (ηL e) I.ok.above))).trans e1⟩
  ·obtain⟨o',e1⟩:=I.base.there b o e hx;exact⟨o',(hs.2 b (aZ (aD (ηL e) I.ok.above))).trans e1⟩
  ·by_cases hj:j=i
   ·subst hj;rw[hi] at e1;cases e1;rw[dJ hiσ] at e2;cases e2;exact⟨u,r,.inl ⟨hk,by simp⟩⟩
   ·rw[aH (Ne.symm hj)] at e2;obtain⟨u',r',q⟩:=hl j y v' e1 e2 e3;refine⟨u',r',?_⟩;rcases q with⟨k,e⟩|⟨k,c,e,z⟩
    ·refine .inl ⟨k,?_⟩;have:y≠x:=λe=>hj (AD hN e1 (e ▸ hi));simp[this,e]
    ·exact .inr ⟨k,c,e,z.sameBut hs (cne y c e)⟩
  ·obtain⟨w',z⟩:=I.cell y c e;exact⟨w',z.sameBut hs (cne y c e)⟩
  ·obtain⟨e,n,ne,nf,d⟩:=I.pin p hp;exact⟨(hs.2 p.1 ne).trans e,n,ne,nf,d⟩
 ·have hfn:X.fn x=true:=by
   rcases hf with z|z
   ·exact z
   ·rw[z] at hk;cases hk
  obtain⟨c,hc⟩:=I.ok.has x (.inl hk);obtain⟨w',z⟩:=I.cell x c hc;refine wpAny_storeName_cell I.ok.kind hk hc z (λh' hc' hs=>?_);obtain⟨oc,hoc,hocd⟩:=id z;refine h { s with heap:=h' } ⟨I.ok,I.os,I.bare,⟨λb o e n hb hx=>?_,λb o e n hb hx=>?_,I.base.free,λb o e hx=>?_,I.base.tups,I.base.frzs,I.base.tbls⟩,⟨m,hn.sameBut hs (Ne.symm (cne x c hc)),λj y v' e1 e2 e3=>?_⟩,λy c' e=>?_,I.free,I.freeC,λp hp=>?_,tracked ⟨oc,hoc,I.freeC x c hc⟩ hs,by simpa using I.len⟩ ⟨c,hs,.inr hc⟩
  ·exact (hs.2 b (aZ (aD (ηL e) (I.ok.cab x c hfn hc)))).trans (I.base.keep b o e n hb hx)
  ·obtain⟨sl,e1⟩:=I.base.slot b o e n hb hx;exact⟨sl,(hs.2 b (aZ (aD (ηL e) (I.ok.cab x c hfn hc)))).trans e1⟩
  ·obtain⟨o',e1⟩:=I.base.there b o e hx;exact⟨o',(hs.2 b (aZ (aD (ηL e) (I.ok.cab x c hfn hc)))).trans e1⟩
  ·by_cases hj:j=i
   ·subst hj;rw[hi] at e1;cases e1;rw[dJ hiσ] at e2;cases e2;exact⟨u,r,.inr ⟨.inl hk,c,hc,hc'⟩⟩
   ·rw[aH (Ne.symm hj)] at e2;obtain⟨u',r',q⟩:=hl j y v' e1 e2 e3;refine⟨u',r',?_⟩;rcases q with q|⟨k,c',e,z'⟩
    ·exact .inl q
    ·refine .inr ⟨k,c',e,z'.sameBut hs ?_⟩;rintro rfl;exact hj (AD hN e1 (I.ok.inj _ _ _ e hc ▸ hi))
  ·by_cases hcc:c'=c
   ·subst hcc;exact⟨_,hc'⟩
   ·obtain⟨w2,z2⟩:=I.cell y c' e;exact⟨w2,z2.sameBut hs hcc⟩
  ·obtain⟨e,n,ne,nf,d⟩:=I.pin p hp;refine⟨(hs.2 p.1 ?_).trans e,n,ne,nf,d⟩;intro q;rw[q,hoc] at e;have q':oc=p.2:=Option.some.inj e;exact d w' (by rw[← q'];exact hocd)
theorem vh(I:Inv X pins σ H s)(hN:X.N.Nodup)(hi:X.N[i]? = some x)(hx:AZ X.env.scope x)(r:RelV v u)
  (h:∀ s',Inv X pins (σ.set i (some v)) H s'->Q () s') (hf:X.fn x=true\/X.env.scope.names.lookup x=some .local:=by first|exact .inl rfl|exact .inr rfl|assumption):wpAny M A (storeName X.env x u) Q E s :=
 yF I hN hi hx r (λs' I' _=>h s' I') hf
theorem Inv.call'(I:Inv X pins σ H s)(ho:s'.os=s.os)(u:Un (CC X.stack) ch H H' s.heap s'.heap)(hok:HOk X.prog X.w H' s'.heap)(hg:AllBare s'.gens)
  (hch:∀ b∈ch,(b∈X.ex\/X.s₀.heap.objs.size<=b)/\b≠X.env.locals/\(∀ x c,X.env.cells.lookup x=some c->c≠b)/\∀ p∈X.pn++pins,p.1≠b):Inv X pins σ H' s':=by
 obtain⟨h',g',d',t',o'⟩:=s';have e:o'=s.os:=ho;subst e;exact I.call (g':=g') (t':=t') (d':=d') u hok hg hch
end
abbrev XK:=Value->Option Addr->Hp->Prop
abbrev St:=List (Option V)
abbrev VK:=V->Hp->Prop
abbrev TE:=St->Hp->VK->Prop
abbrev TT:=St->Hp->(Bool->Hp->Prop)->Prop
abbrev TA:=St->Hp->(List V->Hp->Prop)->Prop
structure Ends where
 nx:St->Hp->Prop
 rt:VK
 bk:St->Hp->Prop:=λ_ _=>False
 ct:St->Hp->Prop:=λ_ _=>False
abbrev TS:=Ends->St->Hp->Prop
def EP(X:Cx)(pins:List (Addr×Obj))(σ:St)(Q:VK)(u:Value)(s':Shared):Prop:=∃ v H',Inv X pins σ H' s'/\RelV v u/\Q v H'
def TP(X:Cx)(pins:List (Addr×Obj))(σ:St)(Q:Bool->Hp->Prop)(b:Bool)(s':Shared):Prop:=∃ H',Inv X pins σ H' s'/\Q b H'
def AP(X:Cx)(pins:List (Addr×Obj))(σ:St)(Q:List V->Hp->Prop)(us:List Value)(s':Shared):Prop:=∃ vs H',Inv X pins σ H' s'/\Vals vs us/\Q vs H'
def SP(X:Cx)(pins:List (Addr×Obj))(D:Ends)(f:Flow)(s':Shared):Prop :=
 match f with
 | .next=>∃ σ' H',Inv X pins σ' H' s'/\D.nx σ' H'
 | .brk=>∃ σ' H',Inv X pins σ' H' s'/\D.bk σ' H'
 | .cont=>∃ σ' H',Inv X pins σ' H' s'/\D.ct σ' H'
 | .ret u=>∃ v σ' H',Inv X pins σ' H' s'/\RelV v u/\D.rt v H'
def PE(X:Cx)(e:Expr)(t:TE):Prop :=
 ∀(pins:List (Addr×Obj)) (s:Shared) (σ:St) (H:Hp) (Q:VK),Inv X pins σ H s->t σ H Q->wpAny (model X.prog X.w) X.A (eval e X.env) (EP X pins σ Q) X.xe s
def PT(X:Cx)(e:Expr)(t:TT):Prop :=
 ∀(pins:List (Addr×Obj)) (s:Shared) (σ:St) (H:Hp) (Q:Bool->Hp->Prop),Inv X pins σ H s->t σ H Q->wpAny (model X.prog X.w) X.A (isTrue e X.env (eval e X.env)) (TP X pins σ Q) X.xe s
def PW(X:Cx)(e:Expr)(t:TT):Prop :=
 ∀(whole:Sem Value) (pins:List (Addr×Obj)) (s:Shared) (σ:St) (H:Hp) (Q:Bool->Hp->Prop),Inv X pins σ H s->t σ H Q->wpAny (model X.prog X.w) X.A (isTrue e X.env whole) (TP X pins σ Q) X.xe s
theorem PW.pt(h:PW X e t):PT X e t:=h _
def PA(X:Cx)(es:List Expr)(t:TA):Prop :=
 ∀(pos:Pos) (pins:List (Addr×Obj)) (s:Shared) (σ:St) (H:Hp) (Q:List V->Hp->Prop),Inv X pins σ H s->t σ H Q->wpAny (model X.prog X.w) X.A (spliced (backTo pos (starEach es X.env))) (AP X pins σ Q) X.xe s
def PS(X:Cx)(st:Stmt)(t:TS):Prop :=
 ∀(pins:List (Addr×Obj)) (s:Shared) (σ:St) (H:Hp) (D:Ends),Inv X pins σ H s->t D σ H->wpAny (model X.prog X.w) X.A (exec st X.env) (SP X pins D) X.xe s
def PSs(X:Cx)(st:List Stmt)(t:TS):Prop :=
 ∀(pins:List (Addr×Obj)) (s:Shared) (σ:St) (H:Hp) (D:Ends),Inv X pins σ H s->t D σ H->wpAny (model X.prog X.w) X.A (execs st X.env) (SP X pins D) X.xe s
theorem tz{α:Type}{t:Sem α}{Q Q':α->Shared->Prop}{M:Model}{A:Around}{E:Value->Shared->Prop}{s:Shared}(h:wpAny M A t Q E s)(hQ:∀ a s,Q a s->Q' a s):wpAny M A t Q' E s:=wpAny_mono h hQ λ_ _ x=>x
section
variable{X:Cx}
def vc(i:Nat):TE:=λσ H Q=>∃ v,σ[i]? = some (some v)/\Q v H
def tC(v:V):TE:=λ_ H Q=>Q v H
theorem Bf(hN:X.N[i]? = some x)(hv:IF X.env.scope x)(hd:(x == ("__debug__" : Str))=false:=by decide)(hcd:(x == ("__classdict__" : Str))=false:=by decide):PE X (.Name x pos) (vc i):=by
 intro pins s σ H Q I h;obtain⟨v,e,h⟩:=h;obtain⟨m,hn,hl⟩:=I.loc;obtain⟨u,r,l⟩:=hl i x v hN e hv;have fin:EP X pins σ Q u s:=⟨v,H,I,r,h⟩;rcases l with⟨hk,hm⟩|⟨hk,c,hc,hcell⟩
 ·exact wpAny_Name (wpAny_loadName_local I.ok.kind hk hn hm fin) hd
 ·rcases hk with hk|hk
  ·exact wpAny_Name (wpAny_loadName_cell I.ok.kind hk hc hcell fin) hd
  ·exact wpAny_Name (wpAny_loadName_free I.ok.kind hk hc hcell fin hcd) hd
theorem sQ:PE X (.Constant (.int i) j pos) (tC (.int i)):=λ_ _ _ H _ I h=>wpAny_Constant_int ⟨.int i,H,I.tok _,⟨_,rfl⟩,h⟩
theorem Lj:PE X (.Constant (.bool b) j pos) (tC (.bl b)):=λ_ _ _ H _ I h=>Constant_bool ⟨.bl b,H,I,rfl,h⟩
theorem Jx:PE X (.Constant .none j pos) (tC .non):=λ_ _ _ H _ I h=>Constant_none ⟨.non,H,I,rfl,h⟩
theorem Ju:PE X (.Constant (.str x) j pos) (tC (.str x)):=λ_ _ _ H _ I h=>Calls.Constant_str ⟨.str x,H,I.tok _,⟨_,rfl⟩,h⟩
def Gl(X:Cx)(x:Str):Prop:=X.env.kindOf x=some .globalImplicit
theorem Cq(I:Inv X pins σ H s)(hg:Gl X x)(hm:X.mg x=some u)(h:Q u s)
  (hd:(x == ("__debug__" : Str))=false:=by decide):wpAny (model X.prog X.w) X.A (eval (.Name x pos) X.env) Q E s :=
 Calls.Name_function_global I.ok.kind hg (Calls.loadGlobal_global (by rw[I.ok.glob];exact I.mod.glob.keeps I.bk) hm h) hd
theorem vy(I:Inv X pins σ H s)(hg:Gl X x)(hm:X.mg x=none)(hv:bootBuiltins x=some u)(h:Q u s)
  (hn:x ≠ "__name__" := by decide) (hd:(x == ("__debug__" : Str))=false:=by decide):wpAny (model X.prog X.w) X.A (eval (.Name x pos) X.env) Q E s:=by
 obtain⟨mb,h1,h2⟩:=I.mod.blt;exact Calls.Name_function_global I.ok.kind hg (Calls.loadGlobal_builtin (by rw[I.ok.glob];exact I.mod.glob.keeps I.bk) hm (by rw[I.ok.blt];exact h1.keeps I.bk) ((h2 x hn).trans hv) h) hd
theorem GJ(hg:Gl X x)(hm:X.mg x=some u)(r:RelV v u)(hd:(x == ("__debug__" : Str))=false:=by decide):PE X (.Name x pos) (tC v) :=
 λ_ _ _ H _ I h=>Cq I hg hm ⟨v,H,I,r,h⟩ hd
theorem GM(hg:Gl X x)(hm:X.mg x=none)(hv:bootBuiltins x=some u)(r:RelV v u)(hn:x ≠ "__name__" := by decide)(hd:(x == ("__debug__" : Str))=false:=by decide):PE X (.Name x pos) (tC v) :=
 λ_ _ _ H _ I h=>vy I hg hm hv ⟨v,H,I,r,h⟩ hn hd
def Ov(ta tb:TE)(k:Int->Int->Hp->Prop):St->Hp->Prop:=λσ H=>ta σ H λx H1=>tb σ H1 λy H2=>∃ i j,x = .int i/\y = .int j/\k i j H2
variable{a b:Expr}{ta tb:TE}{pos:Pos}
def Os(p:Int->Int->Bool)(ta tb:TE):TE:=λσ H Q=>Ov ta tb (λi j H2=>Q (.bl (p i j)) H2) σ H
variable{tA tB':TT}{rest:List Expr}
def KW(t u:TT):TT:=λσ H Q=>t σ H λc H1=>if c=true then u σ H1 Q else Q false H1
def N0(t u:TT):TT:=λσ H Q=>t σ H λc H1=>if c=true then Q true H1 else u σ H1 Q
def MZ(t:TT):TT:=λσ H Q=>t σ H λc H1=>Q (!c) H1
theorem B7(ha:PT X a tA):PW X (.BoolOp .And [a] pos) tA:=by
 intro wh pins s σ H Q I h;refine isTrue_and (tz (ha pins s σ H Q I h) λc s1 e=>?_);cases c with
 | true=>exact isTrue_and_nil e
 | false=>exact e
theorem Jp(ha:PT X a tA):PW X (.BoolOp .Or [a] pos) tA:=by
 intro wh pins s σ H Q I h;refine isTrue_or (tz (ha pins s σ H Q I h) λc s1 e=>?_);cases c with
 | false=>exact isTrue_or_nil e
 | true=>exact e
theorem Es(ha:PT X a tA)(hb:PW X (.BoolOp .And (b::rest) pos) tB'):PW X (.BoolOp .And (a::b::rest) pos) (KW tA tB'):=by
 intro wh pins s σ H Q I h;refine isTrue_and (tz (ha pins s σ H _ I h) λc s1 ⟨H1,I1,q1⟩=>?_);cases c with
 | true=>exact hb wh pins s1 σ H1 Q I1 q1
 | false=>exact⟨H1,I1,q1⟩
theorem Lh(ha:PT X a tA)(hb:PW X (.BoolOp .Or (b::rest) pos) tB'):PW X (.BoolOp .Or (a::b::rest) pos) (N0 tA tB'):=by
 intro wh pins s σ H Q I h;refine isTrue_or (tz (ha pins s σ H _ I h) λc s1 ⟨H1,I1,q1⟩=>?_);cases c with
 | true=>exact⟨H1,I1,q1⟩
 | false=>exact hb wh pins s1 σ H1 Q I1 q1
theorem Jq(ha:PT X a tA):PT X (.UnaryOp .Not a pos) (MZ tA):=by
 intro pins s σ H Q I h;exact isTrue_not (ha pins s σ H (λc H1=>Q (!c) H1) I h)
def KU(ta tb:TE):TE:=λσ H Q=>ta σ H λx H1=>∃ c,x = .bl c/\if c=true then tb σ H1 Q else Q (.bl false) H1
def MY(ta tb:TE):TE:=λσ H Q=>ta σ H λx H1=>∃ c,x = .bl c/\if c=true then Q (.bl true) H1 else tb σ H1 Q
def KQ(ta:TE):TE:=λσ H Q=>ta σ H λx H1=>∃ c,x = .bl c/\Q (.bl (!c)) H1
theorem Jv(h:PE X a t):PE X (.BoolOp op [a] pos) t:=λpins s σ H Q I hw=>BoolOp_one (h pins s σ H Q I hw)
theorem Jy(ha:PE X a ta)(hb:PE X (.BoolOp .And (b::rest) pos) tb):PE X (.BoolOp .And (a::b::rest) pos) (KU ta tb):=by
 intro pins s σ H Q I h;refine BoolOp_and (tz (ha pins s σ H _ I h) λv s1 ⟨x,H1,I1,r1,q1⟩=>?_);obtain⟨c,rfl,q1⟩:=q1;cases r1;refine wpAny_truthy_bool ?_;cases c with
 | true=>exact hb pins s1 σ H1 Q I1 q1
 | false=>exact⟨.bl false,H1,I1,rfl,q1⟩
theorem Li(ha:PE X a ta)(hb:PE X (.BoolOp .Or (b::rest) pos) tb):PE X (.BoolOp .Or (a::b::rest) pos) (MY ta tb):=by
 intro pins s σ H Q I h;refine BoolOp_or (tz (ha pins s σ H _ I h) λv s1 ⟨x,H1,I1,r1,q1⟩=>?_);obtain⟨c,rfl,q1⟩:=q1;cases r1;refine wpAny_truthy_bool ?_;cases c with
 | false=>exact hb pins s1 σ H1 Q I1 q1
 | true=>exact⟨.bl true,H1,I1,rfl,q1⟩
theorem Jw(ha:PE X a ta):PE X (.UnaryOp .Not a pos) (KQ ta):=by
 intro pins s σ H Q I h;refine UnaryOp_ (tz (ha pins s σ H _ I h) λv s1 ⟨x,H1,I1,r1,q1⟩=>?_);obtain⟨c,rfl,q1⟩:=q1;cases r1;exact not_of (wpAny_truthy_bool ⟨.bl (!c),H1,I1,rfl,q1⟩)
def Oq(t:TT)(ta tb:TE):TE:=λσ H Q=>t σ H λc H1=>if c=true then ta σ H1 Q else tb σ H1 Q
theorem EE(hc:PT X c tA)(ha:PE X a ta)(hb:PE X b tb):PE X (.IfExp c a b pos) (Oq tA ta tb):=by
 intro pins s σ H Q I h;refine wpAny_IfExp (tz (hc pins s σ H _ I h) λd s1 ⟨H1,I1,q1⟩=>?_);cases d with
 | true=>exact ha pins s1 σ H1 Q I1 q1
 | false=>exact hb pins s1 σ H1 Q I1 q1
end
def SqL(K:Frag)(H:Hp)(a:Addr)(xs:List V):Prop :=
 Rd H a (.lst xs) \/
  ∃(o:Obj) (its:Array Value) (n:Nat),K.lookup a=some o/\o.cls = .type "list" /\ o.dict=none/\o.data = .seq its n/\its.size<=sizeLine/\Vals xs its.toList
def SqT(K:Frag)(H:Hp)(a:Addr)(xs:List V):Prop :=
 Rd H a (.tup xs) \/
  ∃(o:Obj) (its:Array Value) (n:Nat),K.lookup a=some o/\o.cls = .type "tuple" /\ o.data = .seq its n/\its.size<=sizeLine/\Vals xs its.toList
def NO:Value->Option V
 | .none=>some .non
 | .bool b=>some (.bl b)
 | .int i _=>some (.int i)
 | .str x _=>some (.str x)
 | .bytes b _=>some (.byt b)
 | .float b _=>some (.flt b)
 | .ref a=>some (.ref a)
 | .type n=>some (.ty n)
 | _=>none
theorem RelV.abs(r:RelV x u):NO u=some x:=by
 cases x with
 | non=>cases r;rfl
 | bl _=>cases r;rfl
 | int _=>obtain⟨t,rfl⟩:=r;rfl
 | str _=>obtain⟨t,rfl⟩:=r;rfl
 | byt _=>obtain⟨t,rfl⟩:=r;rfl
 | flt _=>obtain⟨t,rfl⟩:=r;rfl
 | ref _=>cases r;rfl
 | ty _=>cases r;rfl
theorem RelV.inj(r:RelV x u)(q:RelV y u):x=y:=Option.some.inj (r.abs.symm.trans q.abs)
theorem Vals.inj:∀{xs ys:List V} {us:List Value},Vals xs us->Vals ys us->xs=ys
 | _,_,_,.nil,.nil=>rfl
 | _,_,_,.cons r t,.cons r' t'=>by rw[r.inj r',Vals.inj t t']
section
variable{X:Cx}{pins:List (Addr×Obj)}{σ:St}{H:Hp}{s:Shared}{a:Addr}{xs ys:List V}
theorem SqL.of{K:Frag}(h:H a=some (.lst xs)):SqL K H a xs:=.inl (.inl h)
theorem SqT.of{K:Frag}(h:H a=some (.tup xs)):SqT K H a xs:=.inl (.inl h)
theorem Inv.list(I:Inv X pins σ H s)(h:SqL X.K H a xs):∃ its:List Value,Vals xs its/\PlainL s.heap a its.toArray/\xs.length<=sizeLine:=by
 rcases h with h|⟨o,its,n,hk,hc,hd,hs,hz,r⟩
 ·obtain⟨z,its,n,r,e⟩:=h.ok I.hok;exact⟨its,r,⟨_,n,e,rfl,rfl,rfl⟩,z⟩
 ·refine⟨its.toList,r,⟨o,n,I.kIn a o hk,hc,hd,by simpa using hs⟩,?_⟩;have e:=r.length;simp only[dW] at e;omega
theorem Inv.tuple(I:Inv X pins σ H s)(h:SqT X.K H a xs):∃ its:List Value,Vals xs its/\IsTup s.heap a its.toArray/\xs.length<=sizeLine:=by
 rcases h with h|⟨o,its,n,hk,hc,hs,hz,r⟩
 ·obtain⟨z,its,r,p⟩:=h.ok I.hok;exact⟨its,r,p,z⟩
 ·refine⟨its.toList,r,⟨o,I.kIn a o hk,hc,n,by simpa using hs⟩,?_⟩;have e:=r.length;simp only[dW] at e;omega
theorem Inv.list_inj(I:Inv X pins σ H s)(h:SqL X.K H a xs)(h':SqL X.K H a ys):xs=ys:=by
 obtain⟨its,r,⟨o,n,e,_,_,d⟩,_⟩:=I.list h;obtain⟨its',r',⟨o',n',e',_,_,d'⟩,_⟩:=I.list h';rw[e] at e';cases e';rw[d] at d';injection d' with d1 _;have:its=its':=by simpa using congrArg Array.toList d1
 subst this;exact r.inj r'
theorem Inv.tuple_inj(I:Inv X pins σ H s)(h:SqT X.K H a xs)(h':SqT X.K H a ys):xs=ys:=by
 obtain⟨its,r,⟨o,e,_,n,d⟩,_⟩:=I.tuple h;obtain⟨its',r',⟨o',e',_,n',d'⟩,_⟩:=I.tuple h';rw[e] at e';cases e';rw[d] at d';injection d' with d1 _;have:its=its':=by simpa using congrArg Array.toList d1
 subst this;exact r.inj r'
end
abbrev Cx.wish(X:Cx)(E:Value->Shared->Prop):Cx:={ X with xe:=E }
abbrev Cx.nox(X:Cx):Cx:=X.wish λ_ _=>False
theorem Cx.Ok.wish{X:Cx}(ok:X.Ok)(E:Value->Shared->Prop):(X.wish E).Ok :=
 ⟨ok.mod,ok.kind,ok.glob,ok.blt,ok.above,ok.inj,ok.has,ok.cab,ok.hd,ok.frames,ok.stk,ok.exf,ok.bs,ok.bsz,ok.noex,ok.exfs,ok.funs,ok.frf,ok.sr,ok.rn⟩
theorem Cx.Ok.unwish{X:Cx}{E:Value->Shared->Prop}(ok:(X.wish E).Ok):X.Ok :=
 ⟨ok.mod,ok.kind,ok.glob,ok.blt,ok.above,ok.inj,ok.has,ok.cab,ok.hd,ok.frames,ok.stk,ok.exf,ok.bs,ok.bsz,ok.noex,ok.exfs,ok.funs,ok.frf,ok.sr,ok.rn⟩
section
variable{X:Cx}{pins:List (Addr×Obj)}{σ:St}{H:Hp}{s:Shared}{E:Value->Shared->Prop}
theorem Inv.wish(I:Inv X pins σ H s)(E:Value->Shared->Prop):Inv (X.wish E) pins σ H s:=⟨I.ok.wish E,I.os,I.bare,I.base,I.loc,I.cell,I.free,I.freeC,I.pin,I.hok,I.len⟩
theorem Inv.unwish(I:Inv (X.wish E) pins σ H s):Inv X pins σ H s:=⟨I.ok.unwish,I.os,I.bare,I.base,I.loc,I.cell,I.free,I.freeC,I.pin,I.hok,I.len⟩
theorem SP.unwish{D:Ends}{f:Flow}{s':Shared}(h:SP (X.wish E) pins D f s'):SP X pins D f s':=by
 cases f with
 | next=>obtain⟨σ',H',I,q⟩:=h;exact⟨σ',H',I.unwish,q⟩
 | brk=>obtain⟨σ',H',I,q⟩:=h;exact⟨σ',H',I.unwish,q⟩
 | cont=>obtain⟨σ',H',I,q⟩:=h;exact⟨σ',H',I.unwish,q⟩
 | ret u=>obtain⟨v,σ',H',I,r,q⟩:=h;exact⟨v,σ',H',I.unwish,r,q⟩
theorem PSs.nox{st:List Stmt}{t:TS}(h:PSs X.nox st t):PSs X st t:=λpins s σ H D I hw =>
 wpAny_mono (h pins s σ H D (I.wish _) hw) (λ_ _ q=>q.unwish) λ_ _ z=>False.elim z
end
section
variable{X:Cx}{st:Stmt}{rest:List Stmt}{t u:TS}{e:Expr}{te:TE}{pos:Pos}
def HQ:TS:=λD σ H=>D.nx σ H
def KM(t u:TS):TS:=λD σ H=>t { D with nx:=u D } σ H
theorem pss_nil:PSs X [] HQ:=λ_ _ σ H _ I h=>wpAny_execs_nil ⟨σ,H,I,h⟩
theorem uk(h1:PS X st t)(h2:PSs X rest u):PSs X (st::rest) (KM t u):=by
 intro pins s σ H D I h;refine wpAny_execs_cons (tz (h1 pins s σ H { D with nx:=u D } I h) λf s1 q=>?_);cases f with
 | next =>
  obtain⟨σ',H',I',q⟩:=q;exact h2 pins s1 σ' H' D I' q
 | ret v=>exact q
 | brk=>exact q
 | cont=>exact q
theorem uR(h1:PS X st t):PSs X [st] t:=by
 intro pins s σ H D I h;refine wpAny_execs_cons (tz (h1 pins s σ H D I h) λf s1 q=>?_);cases f with
 | next=>exact wpAny_execs_nil q
 | ret v=>exact q
 | brk=>exact q
 | cont=>exact q
def IT:TS:=λD σ H=>D.bk σ H
def KS:TS:=λD σ H=>D.ct σ H
theorem ps_pass:PS X (.Pass pos) HQ:=λ_ _ σ H _ I h=>wpAny_Pass ⟨σ,H,I,h⟩
theorem ps_break:PS X (.Break pos) IT:=λ_ _ σ H _ I h=>wpAny_Break ⟨σ,H,I,h⟩
theorem ps_continue:PS X (.Continue pos) KS:=λ_ _ σ H _ I h=>wpAny_Continue ⟨σ,H,I,h⟩
theorem Inv.quiet(I:Inv X pins σ H s):interactive X.env=false:=by simp[interactive,I.ok.kind]
def KR(te:TE):TS:=λD σ H=>te σ H λ_ H1=>D.nx σ H1
theorem xG(he:PE X e te)(hs:swapsWith e none pos.line X.env=pure false:=by rfl):PS X (.Expr e pos) (KR te):=by
 intro pins s σ H D I h;exact wpAny_Expr_any (tz (he pins s σ H _ I h) λv s1 ⟨x,H1,I1,r1,q1⟩=>⟨σ,H1,I1,q1⟩) I.quiet hs
def MX(te:TE):TS:=λD σ H=>te σ H D.rt
theorem zo(he:PE X e te):PS X (.Return (some e) pos) (MX te):=by
 intro pins s σ H D I h;exact wpAny_Return_some (tz (he pins s σ H _ I h) λv s1 ⟨x,H1,I1,r1,q1⟩=>⟨x,σ,H1,I1,r1,q1⟩)
def KN:TS:=λD _ H=>D.rt .non H
theorem ps_retN:PS X (.Return none pos) KN:=λ_ _ σ H _ I h=>wpAny_Return_none ⟨.non,σ,H,I,rfl,h⟩
def M1(c:TT)(t u:TS):TS:=λD σ H=>c σ H λb H1=>if b=true then t D σ H1 else u D σ H1
theorem Aw{c:Expr}{a b:List Stmt}{tc:TT}(hc:PT X c tc)(ha:PSs X a t)(hb:PSs X b u):PS X (.If c a b pos) (M1 tc t u):=by
 intro pins s σ H D I h;refine wpAny_If (tz (hc pins s σ H _ I h) λd s1 ⟨H1,I1,q1⟩=>?_);cases d with
 | true=>exact ha pins s1 σ H1 D I1 q1
 | false=>exact hb pins s1 σ H1 D I1 q1
end
abbrev TG:=V->St->Hp->(St->Hp->Prop)->Prop
abbrev IG:=List V->St->Hp->(St->Hp->Prop)->Prop
def PG(X:Cx)(target:Expr)(t:TG):Prop :=
 ∀(pins:List (Addr×Obj)) (s:Shared) (σ:St) (H:Hp) (v:V) (u:Value) (Q:St->Hp->Prop),Inv X pins σ H s->RelV v u->t v σ H Q ->
  wpAny (model X.prog X.w) X.A (assign target X.env u) (λ_ s'=>∃ σ' H',Inv X pins σ' H' s'/\Q σ' H') X.xe s
def Ml(X:Cx)(ts:List Expr)(t:IG):Prop :=
 ∀(pins:List (Addr×Obj)) (s:Shared) (σ:St) (H:Hp) (vs:List V) (us:List Value) (Q:St->Hp->Prop),Inv X pins σ H s->Vals vs us->t vs σ H Q ->
  wpAny (model X.prog X.w) X.A (assignInOrder ((assignEach ts X.env).map (·.2)) us) (λ_ s'=>∃ σ' H',Inv X pins σ' H' s'/\Q σ' H') X.xe s
abbrev Gb:=V->V->V->Hp->(Hp->Prop)->Prop
def Kt(X:Cx)(t:Gb):Prop :=
 ∀(pins:List (Addr×Obj)) (s:Shared) (σ:St) (H:Hp) (o i v:V) (ov iv u:Value) (Q:Hp->Prop),Inv X pins σ H s->RelV o ov->RelV i iv->RelV v u->t o i v H Q ->
  wpAny (model X.prog X.w) X.A (setItem ov iv u) (λ_ s'=>∃ H',Inv X pins σ H' s'/\Q H') X.xe s
abbrev Mj:=V->V->Hp->VK->Prop
def Ob(X:Cx)(op:Operator)(t:Mj):Prop :=
 ∀(pins:List (Addr×Obj)) (s:Shared) (σ:St) (H:Hp) (x y:V) (v u:Value) (Q:VK),Inv X pins σ H s->RelV x v->RelV y u->t x y H Q ->
  wpAny (model X.prog X.w) X.A (inplaceOp op v u) (EP X pins σ Q) X.xe s
section
variable{X:Cx}{pos:Pos}
def yW(i:Nat):TG:=λv σ H Q=>Q (σ.set i (some v)) H
theorem Ce(hN:X.N.Nodup)(hi:X.N[i]? = some x)(hx:AZ X.env.scope x)(hf:X.fn x=true\/X.env.scope.names.lookup x=some .local:=by first|exact .inl rfl|exact .inr rfl|assumption):PG X (.Name x pos) (yW i):=by
 intro pins s σ H v u Q I r h;exact wpAny_assign_Name (vh I hN hi hx r (λs' I'=>⟨_,H,I',h⟩) hf)
def LR:IG:=λvs σ H Q=>vs=[]/\Q σ H
def Iw(t:TG)(u:IG):IG:=λvs σ H Q=>∃ v r,vs=v::r/\t v σ H λσ' H'=>u r σ' H' Q
theorem GI:Ml X [] LR:=by
 intro pins s σ H vs us Q I r h;obtain⟨e,h⟩:=h;subst e;cases r;exact assignInOrder_nil ⟨σ,H,I,h⟩
theorem EB(h1:PG X e t)(h2:Ml X es u)
  (hs:(assignEach (e::es) X.env).map (·.2)=assign e X.env::(assignEach es X.env).map (·.2):=by rfl):Ml X (e::es) (Iw t u):=by
 intro pins s σ H vs us Q I r h;obtain⟨v,vr,e1,h⟩:=h;subst e1;cases r with
 | cons r rr =>
  rw[hs];refine assignInOrder_cons (tz (h1 pins s σ H _ _ _ I r h) λ_ s1 ⟨σ1,H1,I1,q1⟩=>?_);exact h2 pins s1 σ1 H1 _ _ Q I1 rr q1
def J2(K:Frag)(n:Nat)(t:IG):TG:=λv σ H Q=>∃ a xs,v = .ref a/\SqT K H a xs/\xs.length=n/\t xs σ H Q
theorem zq(hc:X.calm=true)(h:Ml X es t)
  (hn:(assignEach es X.env).length=n:=by rfl) (hst:(assignEach es X.env).findIdx? (·.1)=none:=by rfl):PG X (.Tuple es k pos) (J2 X.K n t):=by
 intro pins s σ H v u Q I r hw;obtain⟨a,xs,e1,hq,hl,hw⟩:=hw;subst e1;cases r;obtain⟨its,rv,ht,hz⟩:=I.tuple hq;refine assign_Tuple_tuple (I.ok.hd hc) ht (by simp[hn,← hl,rv.length]) hst λh' hx=>?_;have I1:Inv X pins σ H { s with heap:=h' }:=I.kept (t':=s.toks) λb o e=>hx b o (aZ (ηL e)) e;exact h pins _ σ H xs _ Q I1 (by simpa using rv) hw
def LQ(to ti:TE)(t:Gb):TG:=λv σ H Q=>to σ H λo H1=>ti σ H1 λi H2=>t o i v H2 λH3=>Q σ H3
theorem vW{o i:Expr}{to ti:TE}{t:Gb}(ho:PE X o to)(hi:PE X i ti)(hs:Kt X t)
  (ha:∀ v,assign (.Subscript o i pos) X.env v=(do
   let ov ← holding [v] (eval o X.env)
   let iv ← holding [v,ov] (eval i X.env)
   standAt pos
   holding [v,ov,iv] (setItem ov iv v)
   release [v,ov,iv] []):=by intro _;rfl):PG X (.Subscript o i pos) (LQ to ti t):=by
 intro pins s σ H v u Q I r h;rw[ha];refine ηB (wpAny_holding (tz (ho pins s σ H _ I h) λov s1 ⟨x,H1,I1,r1,q1⟩=>?_));refine ηB (wpAny_holding (tz (hi pins s1 σ H1 _ I1 q1) λiv s2 ⟨y,H2,I2,r2,q2⟩=>?_));refine ηB (wpAny_standAt (ηB (wpAny_holding (tz (hs pins s2 σ H2 x y v ov iv u _ I2 r1 r2 r q2) λ_ s3 ⟨H3,I3,q3⟩=>?_))));exact wpAny_release ⟨σ,H3,I3,q3⟩
def IU(te:TE)(g:TG):TS:=λD σ H=>te σ H λx H1=>g x σ H1 D.nx
theorem uS{tg e:Expr}{te:TE}{g:TG}(he:PE X e te)(hg:PG X tg g)(hs:swapsWithSole [tg] e pos.line X.env=pure false:=by rfl)(hw:swappedStores [tg] e X.env=pure none:=by rfl)
  (h1:(assignEach [tg] X.env).map (·.2)=[assign tg X.env]:=by rfl):PS X (.Assign [tg] e pos) (IU te g):=by
 intro pins s σ H D I h;refine wpAny_Assign_stores (tz (he pins s σ H _ I h) λv s1 ⟨x,H1,I1,r1,q1⟩=>?_) hs hw;rw[h1];exact tz (hg pins s1 σ H1 x v _ I1 r1 q1) λ_ s2 q=>q
theorem vv{i:Nat}{x:Str}{e:Expr}{te:TE}{pos':Pos}(hN:X.N.Nodup)(hi:X.N[i]? = some x)(hx:AZ X.env.scope x)(he:PE X e te)(hs:swapsWith e (some (.Name x pos')) pos.line X.env=pure false:=by rfl)(hf:X.fn x=true\/X.env.scope.names.lookup x=some .local:=by first|exact .inl rfl|exact .inr rfl|assumption) :
  PS X (.Assign [.Name x pos'] e pos) (IU te (yW i)):=by
 intro pins s σ H D I h;refine wpAny_Assign_Name (tz (he pins s σ H _ I h) λv s1 ⟨y,H1,I1,r1,q1⟩=>?_) hs;exact vh I1 hN hi hx r1 (λs2 I2=>⟨_,H1,I2,q1⟩) hf
def IS(i j:Nat)(ta:TA):TS:=λD σ H=>ta σ H λvs H1=>∃ v w,vs=[v,w]/\D.nx ((σ.set i (some v)).set j (some w)) H1
theorem Ew(hc:X.calm=true)(hN:X.N.Nodup)(hi:X.N[i]? = some x)(hj:X.N[j]? = some y)(hij:i≠j)
  (hx:X.env.scope.names.lookup x=some .local) (hy:X.env.scope.names.lookup y=some .local) (ha:PA X [a,b] ta)
  (hw:swappedStores [.Tuple [.Name x px,.Name y py] kt pt] (.Tuple [a,b] k2 pt2) X.env=pure (some [x,y]))
  (hs:swapsWithSole [.Tuple [.Name x px,.Name y py] kt pt] (.Tuple [a,b] k2 pt2) pos.line X.env=pure false:=by rfl) :
  PS X (.Assign [.Tuple [.Name x px,.Name y py] kt pt] (.Tuple [a,b] k2 pt2) pos) (IS i j ta):=by
 intro pins s σ H D I h;rw[exec_Assign_arm];refine ηB (wpAny_standAt ?_);rw[hs];refine ηB (ηP ?_);rw[if_neg (by decide)];refine ηB (Tuple_ (tz (ha _ pins s σ H _ I h) λus s1 ⟨vs,H1,I1,r1,q1⟩=>?_));obtain⟨v,w,e1,q1⟩:=q1;subst e1;obtain⟨u1,u2,rfl,rv,rw'⟩:∃ u1 u2,us=[u1,u2]/\RelV v u1/\RelV w u2:=by
  cases r1 with
  | cons p q =>
   cases q with
   | cons p' q' =>
    cases q';exact⟨_,_,rfl,p,p'⟩
 refine wpAny_newObj_type ?_ (by show 2<=sizeLine;decide);have I2:Inv X pins σ H1 { s1 with heap:=s1.heap.push { cls:=.type "tuple",data:=.seq [u1,u2].toArray } }:=I1.kept (t':=s1.toks) λb o e=>ηH _ e;rw[hw];refine ηB (ηP ?_);show wpAny (model X.prog X.w) X.A (do rule "assign.swapped-stores";let items ← unpackItems (.ref s1.heap.objs.size) 2 none;assignInOrder [λv=>bindName X.env y v,λv=>bindName X.env x v] items.reverse;pure Flow.next) ..;refine ηB (wpAny_rule (ηB (unpackItems_tuple (items:=#[u1,u2]) (I.ok.hd hc) (IsTup.new s1.heap _) λh' hx'=>?_)));have I3:=I2.kept (h':=h') (t':=s1.toks) λb o e=>hx' b o (aZ (ηL e)) e;show wpAny _ _ (assignInOrder [λv=>bindName X.env y v,λv=>bindName X.env x v] [u2,u1] >>= λ_=>pure Flow.next) ..;refine ηB (assignInOrder_cons (wpAny_bindName (vh I3 hN hj (.inl hy) rw' (λs2 I4=>?_) (.inr hy))));refine assignInOrder_cons (wpAny_bindName (vh I4 hN hi (.inl hx) rv (λs3 I5=>assignInOrder_nil (ηP ?_)) (.inr hx)));rw[List.set_comm _ _ (Ne.symm hij)] at I5;exact⟨_,H1,I5,q1⟩
def M8(i:Nat)(te:TE)(ti:Mj):TS:=λD σ H=>∃ x,σ[i]? = some (some x)/\te σ H λy H1=>ti x y H1 λz H2=>D.nx (σ.set i (some z)) H2
theorem Js(hN:X.N.Nodup)(hi:X.N[i]? = some x)(hx:AZ X.env.scope x)(he:PE X e te)(ho:Ob X op ti)(hf:X.fn x=true\/X.env.scope.names.lookup x=some .local:=by first|exact .inl rfl|exact .inr rfl|assumption) :
  PS X (.AugAssign (.Name x pos') op e pos) (M8 i te ti):=by
 intro pins s σ H D I h;obtain⟨v,e1,h⟩:=h;obtain⟨m,hn,hl⟩:=I.loc;have vis:IF X.env.scope x:=by rcases hx with k|k;exact .inl k;exact .inr (.inl k)
 obtain⟨u,r,l⟩:=hl i x v hi e1 vis;refine wpAny_AugAssign_Name ?_;have go:wpAny (model X.prog X.w) X.A (eval e X.env) (λw s₂=>wpAny (model X.prog X.w) X.A (inplaceOp op u w) (λr s₃=>wpAny (model X.prog X.w) X.A (storeName X.env x r) (λ_=>SP X pins D .next) X.xe s₃) X.xe s₂) X.xe s:=by
  refine tz (he pins s σ H _ I h) λw s1 ⟨y,H1,I1,r1,q1⟩=>?_;refine tz (ho pins s1 σ H1 v y u w _ I1 r r1 q1) λz s2 ⟨zv,H2,I2,r2,q2⟩=>?_;exact vh I2 hN hi hx r2 (λs3 I3=>⟨_,H2,I3,q2⟩) hf
 rcases l with⟨hk,hm⟩|⟨hk,c,hc,hcell⟩
 ·exact wpAny_loadName_local I.ok.kind hk hn hm go
 ·rcases hk with hk|hk
  ·exact wpAny_loadName_cell I.ok.kind hk hc hcell go
  ·rcases hx with k|k
   ·have:X.env.scope.names.lookup x=some .free:=hk;rw[k] at this;cases this
   ·have:X.env.scope.names.lookup x=some .free:=hk;rw[k] at this;cases this
def KT(to ti te:TE)(tget:V->V->Hp->VK->Prop)(tip:Mj)(tset:Gb):TS:=λD σ H=>to σ H λo H1=>ti σ H1 λi H2=>tget o i H2 λx H3=>te σ H3 λy H4=>tip x y H4 λz H5=>tset o i z H5 λH6=>D.nx σ H6
def Mm(X:Cx)(t:V->V->Hp->VK->Prop):Prop :=
 ∀(pins:List (Addr×Obj)) (s:Shared) (σ:St) (H:Hp) (o i:V) (ov iv:Value) (Q:VK),Inv X pins σ H s->RelV o ov->RelV i iv->t o i H Q ->
  wpAny (model X.prog X.w) X.A (getItem ov iv) (EP X pins σ Q) X.xe s
theorem GF(ho:PE X o to)(hi:PE X i ti)(hg:Mm X tget)(he:PE X e te)(hp:Ob X op tip)(hs:Kt X tset)
  (ha:∀ ov iv new,augStore i ov iv new=(do holding [new,ov,iv] (setItem ov iv new);release [new,ov,iv] [];pure .next):=by intros;rfl):PS X (.AugAssign (.Subscript o i tpos) op e pos) (KT to ti te tget tip tset):=by
 intro pins s σ H D I h;refine wpAny_AugAssign_SubscriptAny (tz (ho pins s σ H _ I h) λov s1 ⟨x1,H1,I1,r1,q1⟩=>?_) ha;refine tz (hi pins s1 σ H1 _ I1 q1) λiv s2 ⟨x2,H2,I2,r2,q2⟩=>?_;refine tz (hg pins s2 σ H2 x1 x2 ov iv _ I2 r1 r2 q2) λold s3 ⟨x3,H3,I3,r3,q3⟩=>?_;refine tz (he pins s3 σ H3 _ I3 q3) λv s4 ⟨x4,H4,I4,r4,q4⟩=>?_;refine tz (hp pins s4 σ H4 x3 x4 old v _ I4 r3 r4 q4) λnew s5 ⟨x5,H5,I5,r5,q5⟩=>?_;exact tz (hs pins s5 σ H5 x1 x2 x5 ov iv new _ I5 r1 r2 r5 q5) λ_ s6 ⟨H6,I6,q6⟩=>⟨σ,H6,I6,q6⟩
end
section
variable{X:Cx}{pos:Pos}
def IR(c:TT)(tb:TS):TS:=λD σ H=>∃ W:Nat->St->Hp->Prop,(∃ m,W m σ H)/\∀ m σ H,W m σ H ->
 c σ H λb H1=>if b=true then ∃ N:St->Hp->Prop,(∀ σ' H',N σ' H'->∃ m',m'<m/\W m' σ' H')/\tb { D with nx:=N,ct:=N,bk:=D.nx } σ H1 else D.nx σ H1
theorem Ev(hp:PassesOwn (model X.prog X.w) X.A X.env X.xe)(hc:PT X c tc)(hb:PSs X body tb):PS X (.While c body [] pos) (IR tc tb):=by
 intro pins s σ H D I h;obtain⟨W,⟨m0,w0⟩,zd⟩:=h;refine wpAny_While (codeAny_whileLoop (λn s'=>∃ σ' H',Inv X pins σ' H' s'/\W n σ' H') ?_ m0 ⟨σ,H,I,w0⟩);rintro n s1 ⟨σ1,H1,I1,w1⟩;refine wpAny_passesOwn hp (tz (hc pins s1 σ1 H1 _ I1 (zd n σ1 H1 w1)) λb s2 ⟨H2,I2,q2⟩=>?_);cases b with
 | true =>
  obtain⟨N,hN,q2⟩:=q2;rw[if_pos rfl];refine wpAny_passesOwn hp (tz (hb pins s2 σ1 H2 _ I2 q2) λf s3 q3=>?_);cases f with
  | next =>
   obtain⟨σ3,H3,I3,n3⟩:=q3;obtain⟨m',hm,w3⟩:=hN σ3 H3 n3;exact⟨m',hm,σ3,H3,I3,w3⟩
  | cont =>
   obtain⟨σ3,H3,I3,n3⟩:=q3;obtain⟨m',hm,w3⟩:=hN σ3 H3 n3;exact⟨m',hm,σ3,H3,I3,w3⟩
  | brk=>exact q3
  | ret v=>exact q3
 | false =>
  rw[if_neg aA];exact wpAny_execs_nil ⟨σ1,H2,I2,q2⟩
end
structure It where
 go:Nat->Hp->Prop
 yld:Nat->Hp->V->Hp->Prop
 stop:Nat->Hp->Prop
def vg(X:Cx)(pins:List (Addr×Obj))(H:Hp)(b:Addr):Prop :=
 H b=none/\b≠X.env.locals/\b ∉ X.fs/\(b∈X.ex\/X.s₀.heap.objs.size<=b)/\(∀ x c,X.env.cells.lookup x=some c->c≠b)/\∀ p∈X.pn++pins,p.1≠b
theorem Inv.fpOk(I:Inv X pins σ H s)(hb:s.heap.objs.size<=b)(hn:H' b=none):vg X pins H' b:=by
 refine⟨hn,de (aD I.lt hb),I.nofs hb,.inr (bq I.sz hb),λx c e z=>?_,λp hp z=>?_⟩
 ·obtain⟨v,q⟩:=I.cell x c e;exact absurd (aD q.lt (by rw[z];exact hb)) (bc _)
 ·exact absurd (aD (ηL (I.pin p hp).1) (by rw[z];exact hb)) (bc _)
structure Turn (P:Program)(w:World)(K:Frag)(tg:Expr)(J:It)(fp:List Addr)(it:Addr)(tn:Nat->Heap->Prop):Prop where
 mem:it∈fp
 obj:∀ i h,tn i h->∀ b∈fp,∃ o,h.get? b=some o/\∀ v,o.data ≠ .cell v
 keep:∀ i h h',tn i h->(∀ b∈fp,∀ o,h.get? b=some o->h'.get? b=some o)->tn i h'
 item:∀(X:Cx),X.prog=P->X.w=w->X.K=K->X.calm=true->∀(i:Nat) (pins:List (Addr×Obj)) (s:Shared) (σ:St) (H:Hp) (E:Value->Shared->Prop),Inv X pins σ H s->(∀ b∈fp,vg X pins H b)->tn i s.heap->J.go i H ->
  wpAny (model P w) X.A (pyNext (.ref it)) (λr s1=>∃ u,r=some u /\
   wpAny (model P w) X.A (letOwnedTupleGo tg (.ref it) u) (λ_ s2=>∃ x H',Inv X pins σ H' s2/\RelV x u/\J.yld i H x H'/\tn (i+1) s2.heap/\∀ b∈fp,H' b=none) E s1) E s
 done:∀(X:Cx),X.prog=P->X.w=w->X.K=K->X.calm=true->∀(i:Nat) (pins:List (Addr×Obj)) (s:Shared) (σ:St) (H:Hp) (E:Value->Shared->Prop),Inv X pins σ H s->(∀ b∈fp,vg X pins H b)->tn i s.heap->J.stop i H ->
  wpAny (model P w) X.A (pyNext (.ref it)) (λr s1=>r=none/\Inv X pins σ H s1) E s
 self:∀(A:Around) (i:Nat) (s:Shared) (Q:Value->Shared->Prop) (E:Value->Shared->Prop),tn i s.heap->Q (.ref it) s->wpAny (model P w) A (pyIter (.ref it)) Q E s
abbrev TI:=St->Hp->(It->Hp->Prop)->Prop
def Oc(X:Cx)(pins:List (Addr×Obj))(σ:St)(tg:Expr)(R:It->Hp->Prop)(itv:Value)(s2:Shared):Prop :=
 ∃(it:Addr) (fp:List Addr) (tn:Nat->Heap->Prop) (J:It) (H':Hp),itv = .ref it/\Inv X pins σ H' s2/\Turn X.prog X.w X.K tg J fp it tn/\tn 0 s2.heap/\(∀ b∈fp,vg X pins H' b)/\R J H'
def PI(X:Cx)(tg iter:Expr)(wi:TI):Prop :=
 ∀(pins:List (Addr×Obj)) (s:Shared) (σ:St) (H:Hp) (R:It->Hp->Prop),Inv X pins σ H s->wi σ H R ->
  wpAny (model X.prog X.w) X.A (eval iter X.env) (λv s1=>wpAny (model X.prog X.w) X.A (pyIter v) (Oc X pins σ tg R) X.xe s1) X.xe s
theorem AJ{M:Model}{A:Around}{E:Value->Shared->Prop}{s:Shared}{tg:Expr}{it:Addr}{u:Value}{o:Obj}{n:String}{vs:Array Value}{Q:Unit->Shared->Prop}(ho:s.heap.get? it=some o)(hc:o.cls = .type n)(hd:o.data = .fields vs)
  (hn:["enumerate", "zip", "dict_itemiterator", "dict_reverseitemiterator", "odict_iterator", "itertools.zip_longest", "itertools.pairwise"].contains n=false) (hQ:Q () s):wpAny M A (letOwnedTupleGo tg (.ref it) u) Q E s:=by
 unfold letOwnedTupleGo;cases tg <;> first
  | exact ηP hQ
  | (cases u <;> first
    | exact ηP hQ
    | (refine ηB (wpAny_load ho ?_)
       rw[hc,hd];show wpAny M A (if (["enumerate", "zip", "dict_itemiterator", "dict_reverseitemiterator", "odict_iterator", "itertools.zip_longest", "itertools.pairwise"].contains n && vs[0]? == some (rawInt _))=true then _ else _) Q E s;rw[if_neg (by intro h;rw[hn,eQ] at h;cases h)];exact ηP hQ))
def Oh(K:Frag)(a:Addr):It :=
 ⟨λi H=>∃ xs x,SqL K H a xs/\xs[i]? = some x,λi H x H'=>H'=H/\∀ xs,SqL K H a xs->xs[i]? = some x,λi H=>∃ xs,SqL K H a xs/\xs.length<=i⟩
def Og(K:Frag)(a:Addr):It :=
 ⟨λi H=>∃ xs x,SqT K H a xs/\xs[i]? = some x,λi H x H'=>H'=H/\∀ xs,SqT K H a xs->xs[i]? = some x,λi H=>∃ xs,SqT K H a xs/\xs.length<=i⟩
def Mo(lo:Int)(n:Nat):It:=⟨λi _=>i<n,λi H x H'=>H'=H/\x = .int (lo+i),λi _=>n<=i⟩
theorem C2{P:Program}{w:World}{K:Frag}{tg:Expr}(a it:Addr):Turn P w K tg (Oh K a) [it] it (λi h=>h.IsListIter it a i) where
 mem:=by simp
 obj:=λi h st b hb=>by
  have e:b=it:=by simpa using hb
  subst e;obtain⟨o,e,c,d⟩:=st;exact⟨o,e,λv z=>by rw[d] at z;cases z⟩
 keep:=λi h h' st k=>st.at λo e=>k it (by simp) o e
 item:=by
  intro X hP hw hK hc i pins s σ H E I hf st hg;subst hP hw hK;obtain⟨xs,x,hq,hx⟩:=hg;obtain⟨its,rv,p,hz⟩:=I.list hq;obtain⟨u,hu,ru⟩:=rv.get hx;obtain⟨f0,f1,f2,f3,f4,f5⟩:=hf it (by simp);refine wpAny_pyNext_list_item st p.isList (x:=u) (by simpa using hu) λh' st' sb=>?_;have I1:Inv X pins σ H { s with heap:=h' }:=I.turned (t':=s.toks) (λb o hb e=>(sb.2 b hb).trans e) f0 f1 f3 f4 f5;obtain⟨o,e,c,d⟩:=id st';exact⟨u,rfl,AJ (s:={ s with heap:=h' }) e c d (by decide) ⟨x,H,I1,ru,⟨rfl,λys hy=>by rw[I.list_inj hy hq];exact hx⟩,st',λb hb=>(hf b hb).1⟩⟩
 done:=by
  intro X hP hw hK hc i pins s σ H E I hf st hg;subst hP hw hK;obtain⟨xs,hq,hx⟩:=hg;obtain⟨its,rv,p,hz⟩:=I.list hq;obtain⟨f0,f1,f2,f3,f4,f5⟩:=hf it (by simp);have hl:=rv.length;exact wpAny_pyNext_list_end (I.ok.hd hc) st p.isList (by simp;omega) λh' eb=>⟨rfl,I.turned (t':=s.toks) (λb o hb e=>eb b o hb e) f0 f1 f3 f4 f5⟩
 self:=λ_ _ _ _ _ st h=>wpAny_pyIter_listiter st h
theorem A3{P:Program}{w:World}{K:Frag}{tg:Expr}(a it:Addr):Turn P w K tg (Og K a) [it] it (λi h=>h.IsTupleIter it a i) where
 mem:=by simp
 obj:=λi h st b hb=>by
  have e:b=it:=by simpa using hb
  subst e;obtain⟨o,e,c,d⟩:=st;exact⟨o,e,λv z=>by rw[d] at z;cases z⟩
 keep:=λi h h' st k=>st.at λo e=>k it (by simp) o e
 item:=by
  intro X hP hw hK hc i pins s σ H E I hf st hg;subst hP hw hK;obtain⟨xs,x,hq,hx⟩:=hg;obtain⟨its,rv,p,hz⟩:=I.tuple hq;obtain⟨u,hu,ru⟩:=rv.get hx;obtain⟨f0,f1,f2,f3,f4,f5⟩:=hf it (by simp);refine wpAny_pyNext_tuple_item st (show s.heap.IsTuple a its.toArray from p) (x:=u) (by simpa using hu) λh' st' sb=>?_;have I1:Inv X pins σ H { s with heap:=h' }:=I.turned (t':=s.toks) (λb o hb e=>(sb.2 b hb).trans e) f0 f1 f3 f4 f5;obtain⟨o,e,c,d⟩:=id st';exact⟨u,rfl,AJ (s:={ s with heap:=h' }) e c d (by decide) ⟨x,H,I1,ru,⟨rfl,λys hy=>by rw[I.tuple_inj hy hq];exact hx⟩,st',λb hb=>(hf b hb).1⟩⟩
 done:=by
  intro X hP hw hK hc i pins s σ H E I hf st hg;subst hP hw hK;obtain⟨xs,hq,hx⟩:=hg;obtain⟨its,rv,p,hz⟩:=I.tuple hq;obtain⟨f0,f1,f2,f3,f4,f5⟩:=hf it (by simp);have hl:=rv.length;exact wpAny_pyNext_tuple_end (I.ok.hd hc) st (show s.heap.IsTuple a its.toArray from p) (by simp;omega) λh' eb=>⟨rfl,I.turned (t':=s.toks) (λb o hb e=>eb b o hb e) f0 f1 f3 f4 f5⟩
 self:=λ_ _ _ _ _ st h=>wpAny_pyIter_tupleiter st h
theorem A4{P:Program}{w:World}{K:Frag}{tg:Expr}(it:Addr)(lo:Int)(n:Nat):Turn P w K tg (Mo lo n) [it] it (λi h=>IsRangeIter h it (lo+(i:Nat)*1) ((n:Int)-(i:Nat)) 1) where
 mem:=by simp
 obj:=λi h st b hb=>by
  have e:b=it:=by simpa using hb
  subst e;exact⟨_,st,λv z=>by
   have z':Data.fields _=Data.cell v:=z;cases z'⟩
 keep:=λi h h' st k=>k it (by simp) _ st
 item:=by
  intro X hP hw hK hc i pins s σ H E I hf st hg;subst hP hw hK;obtain⟨f0,f1,f2,f3,f4,f5⟩:=hf it (by simp);have W:=Walks.range (prog:=X.prog) (w:=X.w) (I.ok.hd hc) it lo 1 n;refine W.item i s _ _ hg st λv h' tk hv st' kk=>?_;obtain⟨t,rfl⟩:=hv;have I1:Inv X pins σ H { s with heap:=h',toks:=tk }:=I.turned (λb o hb e=>kk b o (by simpa using hb) e) f0 f1 f3 f4 f5;refine⟨_,rfl,AJ (s:={ s with heap:=h',toks:=tk }) (n := "range_iterator") st' rfl rfl (by decide) ⟨.int (lo+i),H,I1,⟨t,?_⟩,⟨rfl,rfl⟩,st',λb hb=>(hf b hb).1⟩⟩;rw[cy]
 done:=by
  intro X hP hw hK hc i pins s σ H E I hf st hg;subst hP hw hK;obtain⟨f0,f1,f2,f3,f4,f5⟩:=hf it (by simp);exact wpAny_pyNext_range_end (I.ok.hd hc) st (by have:n<=i:=hg;omega) λh' eb=>⟨rfl,I.turned (t':=s.toks) (λb o hb e=>eb b o hb e) f0 f1 f3 f4 f5⟩
 self:=λ_ _ _ _ _ st h=>wpAny_pyIter_rangeiter st h
section
variable{X:Cx}{tg:Expr}
theorem Au{pins:List (Addr×Obj)}{σ:St}{H:Hp}{s:Shared}{R:It->Hp->Prop}{E:Value->Shared->Prop}{lo hi:Int}{t u v:Tok}{tk:Nat}(I:Inv X pins σ H s)(h1 : -(2^62)<=lo)(h2:lo<2^62)(h3 : -(2^62)<=hi)(h4:hi<2^62)
  (q:R (Mo lo (hi-lo).toNat) H):wpAny (model X.prog X.w) X.A (pyIter (.ref s.heap.objs.size)) (Oc X pins σ tg R) E { s with heap:=s.heap.push { cls:=.type "range",data:=.fields #[.int lo t,.int hi u,.int 1 v] },toks:=tk }:=by
 refine wpAny_pyIter_range (IsRange.new ..) (small_one h1 h2 h3 h4) ?_;have I1:Inv X pins σ H { s with heap:=s.heap.push { cls:=.type "range",data:=.fields #[.int lo t,.int hi u,.int 1 v] },toks:=tk }:=I.kept λb o e=>ηH _ e;refine⟨(s.heap.push { cls:=.type "range",data:=.fields #[.int lo t,.int hi u,.int 1 v] }).objs.size,[(s.heap.push { cls:=.type "range",data:=.fields #[.int lo t,.int hi u,.int 1 v] }).objs.size],_,_,H,rfl,
  I1.kept (t':=tk) λb o e=>ηH _ e,A4 _ lo (hi-lo).toNat,?_,λb hb=>?_,q⟩
 ·have e1:lo+((0:Nat):Int)*1=lo:=by simp
  have e2:(((hi-lo).toNat:Nat):Int)-((0:Nat):Int)=Builtin.Range.rangeSize lo hi 1:=by rw[rangeSize_one];split <;> omega
  show IsRangeIter _ _ (lo+((0:Nat):Int)*1) ((((hi-lo).toNat:Nat):Int)-((0:Nat):Int)) 1;rw[e1,e2];exact ηG _ rfl
 ·have e:b=(s.heap.push { cls:=.type "range",data:=.fields #[.int lo t,.int hi u,.int 1 v] }).objs.size:=by simpa using hb
  subst e;exact I1.fpOk (aq _) (I1.hok.fresh (aq _))
def LK(ta:TA):TI:=λσ H R=>ta σ H λvs H1=>∃ j:Int,vs=[.int j] /\ -(2^62)<=j/\j<2^62/\R (Mo 0 j.toNat) H1
def LJ(ta:TA):TI:=λσ H R=>ta σ H λvs H1=>∃ i j:Int,vs=[.int i,.int j]/\(-(2^62)<=i/\i<2^62 /\ -(2^62)<=j/\j<2^62)/\R (Mo i (j-i).toNat) H1
theorem Df(hg:Gl X "range")(hm:X.mg "range" = none)(ha:PA X [a] ta)(hs:starEach [a] X.env=[(false,eval a X.env)]:=by rfl):PI X tg (.Call (.Name "range" p) [a] [] pos) (LK ta):=by
 intro pins s σ H R I h;refine Call_ (vy I hg hm boot_range (PyProof.Rows.callWith_type1 (tz (ha pos pins s σ H _ I h) λus s1 ⟨vs,H1,I1,r1,q1⟩=>?_) hs rfl));obtain⟨j,e,q1,q2,q⟩:=q1;subst e;cases r1 with
 | cons r rr =>
  cases rr;obtain⟨t,rfl⟩:=r;exact call_range_1 (Au I1 (by omega) (by omega) q1 q2 (by simpa using q))
theorem De(hg:Gl X "range")(hm:X.mg "range" = none)(ha:PA X [a,b] ta)(hs:starEach [a,b] X.env=[(false,eval a X.env),(false,eval b X.env)]:=by rfl)(hs2:starEach [b] X.env=[(false,eval b X.env)]:=by rfl) :
  PI X tg (.Call (.Name "range" p) [a,b] [] pos) (LJ ta):=by
 intro pins s σ H R I h;refine Call_ (vy I hg hm boot_range (PyProof.Rows.callWith_type1 (tz (ha pos pins s σ H _ I h) λus s1 ⟨vs,H1,I1,r1,q1⟩=>?_) (by rw[hs,hs2]) (by rw[hs2];rfl)));obtain⟨i,j,e,⟨q1,q2,q3,q4⟩,q⟩:=q1;subst e;cases r1 with
 | cons r rr =>
  cases rr with
  | cons r' rr =>
   cases rr;obtain⟨t,rfl⟩:=r;obtain⟨t',rfl⟩:=r';exact call_range_2 (Au I1 q1 q2 q3 q4 q)
def M3(wi:TI)(g:TG)(tb:TS):TS:=λD σ H=>wi σ H λJ H1=>∃ W:Nat->Nat->St->Hp->Prop,(∃ m,W 0 m σ H1)/\∀ i m σ H,W i m σ H ->
 (J.stop i H/\D.nx σ H)\/(J.go i H/\∃ N:St->Hp->Prop,(∀ σ' H',N σ' H'->∃ m',m'<m/\W (i+1) m' σ' H')/\∀ x H',J.yld i H x H'->g x σ H' λσ2 H2=>tb { D with nx:=N,ct:=N,bk:=D.nx } σ2 H2)
def x9(fp:List Addr)(h:Heap):List (Addr×Obj):=fp.filterMap λb=>(h.get? b).map λo=>(b,o)
theorem uV(hb:b∈fp)(e:h.get? b=some o):(b,o)∈x9 fp h:=fF.mpr ⟨b,hb,by rw[e];rfl⟩
theorem Dj(hp:p∈x9 fp h):p.1∈fp/\h.get? p.1=some p.2:=by
 obtain⟨b,hb,e⟩:=fF.mp hp;cases q:h.get? b with
 | none=>rw[q] at e;cases e
 | some o =>
  rw[q] at e;have e':(b,o)=p:=Option.some.inj e;subst e';exact⟨hb,q⟩
theorem Inv.pinned(I:Inv X pins σ H s)(hf:∀ b∈fp,vg X pins H b)(ho:∀ b∈fp,∃ o,s.heap.get? b=some o/\∀ v,o.data ≠ .cell v):Inv X (pins++x9 fp s.heap) σ H s :=
 I.pins_of λp hp=>(aW.mp hp).elim (λz=>I.pin p (aG _ z)) λz=>by
  obtain⟨hb,e⟩:=Dj z;obtain⟨f0,f1,f2,_⟩:=hf p.1 hb;obtain⟨o,e',d⟩:=ho p.1 hb;rw[e] at e';cases e';exact⟨e,f0,f1,f2,d⟩
theorem Inv.unpinned(I:Inv X (pins++pl) σ H s):Inv X pins σ H s:=I.pins_of λp hp=>I.pin p (aG _ (bu _ hp))
theorem Jr(hp:PassesOwn (model X.prog X.w) X.A X.env X.xe)(hc:X.calm=true)(hi:PI X tg iter wi)(hg:PG X tg g)(hb:PSs X body tb)
  (hs:∀ x,foldedSetIterable iter X.env x=pure x:=by intro _;rfl):PS X (.For tg iter body [] pos) (M3 wi g tb):=by
 intro pins s σ H D I h;refine wpAny_For (tz (hi pins s σ H _ I h) λv s1 h1=>tz h1 λitv s2 h2=>?_) hs;obtain⟨it,fp,tn,J,H2,e,I2,T,st2,f2,W,⟨m0,w0⟩,zd⟩:=h2;subst e
 -- what stays true of the iterator's objects through the loop
 have stat:∀{H':Hp},(∀ b∈fp,H' b=none)->∀ b∈fp,vg X pins H' b:=λhn b hb=>⟨hn b hb,(f2 b hb).2⟩;refine codeAny_forLoop_any (λn s'=>∃ i σ' H',Inv X pins σ' H' s'/\tn i s'.heap/\(∀ b∈fp,H' b=none)/\W i n σ' H') ?_ m0 ⟨0,σ,H2,I2,st2,λb hb=>(f2 b hb).1,w0⟩;rintro n s3 ⟨i,σ3,H3,I3,st3,fr3,w3⟩;rcases zd i n σ3 H3 w3 with⟨stop,qn⟩|⟨go,N,hN,step⟩
 ·refine wpAny_passesOwn hp (tz (T.done X rfl rfl rfl hc i pins s3 σ3 H3 X.xe I3 (stat fr3) st3 stop) λr s4 ⟨hr,I4⟩=>?_);subst hr;exact wpAny_execs_nil ⟨σ3,H3,I4,qn⟩
 ·refine wpAny_passesOwn hp (tz (T.item X rfl rfl rfl hc i pins s3 σ3 H3 X.xe I3 (stat fr3) st3 go) λr s4 ⟨u,hr,h4⟩=>?_);subst hr;refine wpAny_passesOwn hp (tz h4 λ_ s5 ⟨x,H5,I5,r5,y5,st5,fr5⟩=>?_);have I5':=I5.pinned (stat fr5) (T.obj _ _ st5);refine wpAny_passesOwn hp (tz (hg _ s5 σ3 H5 x u _ I5' r5 (step x H5 y5)) λ_ s6 ⟨σ6,H6,I6,q6⟩=>?_);refine wpAny_passesOwn hp (tz (hb _ s6 σ6 H6 _ I6 q6) λf s7 q7=>?_);have again:∀{σ7:St} {H7:Hp},Inv X (pins++x9 fp s5.heap) σ7 H7 s7->N σ7 H7->∃ m,m<n/\∃ i σ' H',Inv X pins σ' H' s7/\tn i s7.heap/\(∀ b∈fp,H' b=none)/\W i m σ' H':=λ{σ7 H7} I7 n7=>by
   obtain⟨m',hm,w7⟩:=hN σ7 H7 n7;refine⟨m',hm,i+1,σ7,H7,I7.unpinned,T.keep _ _ _ st5 λb hb o e=>(I7.pin (b,o) (aG _ (aG _ (uV hb e)))).1,λb hb=>?_,w7⟩;obtain⟨o,e,d⟩:=T.obj _ _ st5 b hb;exact (I7.pin (b,o) (aG _ (aG _ (uV hb e)))).2.1
  cases f with
  | next=>obtain⟨σ7,H7,I7,n7⟩:=q7;exact again I7 n7
  | cont=>obtain⟨σ7,H7,I7,n7⟩:=q7;exact again I7 n7
  | brk=>obtain⟨σ7,H7,I7,q7⟩:=q7;exact⟨σ7,H7,I7.unpinned,q7⟩
  | ret v=>obtain⟨x7,σ7,H7,I7,r7,q7⟩:=q7;exact⟨x7,σ7,H7,I7.unpinned,r7,q7⟩
end
abbrev R2:=V->V->Hp->VK->Prop
def OpR(X:Cx)(f:Value->Value->Sem Value)(r:R2):Prop :=
 ∀(pins:List (Addr×Obj)) (s:Shared) (σ:St) (H:Hp) (x y:V) (v u:Value) (Q:VK),Inv X pins σ H s->RelV x v->RelV y u->r x y H Q ->
  wpAny (model X.prog X.w) X.A (f v u) (EP X pins σ Q) X.xe s
def NQ(X:Cx)(f:Value->Sem Value)(r:V->Hp->VK->Prop):Prop :=
 ∀(pins:List (Addr×Obj)) (s:Shared) (σ:St) (H:Hp) (x:V) (v:Value) (Q:VK),Inv X pins σ H s->RelV x v->r x H Q ->
  wpAny (model X.prog X.w) X.A (f v) (EP X pins σ Q) X.xe s
def CallR(X:Cx)(f:Value)(r:List V->Hp->VK->Prop):Prop :=
 ∀(pins:List (Addr×Obj)) (s:Shared) (σ:St) (H:Hp) (xs:List V) (us:List Value) (Q:VK),Inv X pins σ H s->Vals xs us->r xs H Q ->
  wpAny (model X.prog X.w) X.A (call f us) (EP X pins σ Q) X.xe s
def NS(X:Cx)(r:V->Hp->(Bool->Hp->Prop)->Prop):Prop :=
 ∀(pins:List (Addr×Obj)) (s:Shared) (σ:St) (H:Hp) (x:V) (v:Value) (Q:Bool->Hp->Prop),Inv X pins σ H s->RelV x v->r x H Q ->
  wpAny (model X.prog X.w) X.A (truthy v) (TP X pins σ Q) X.xe s
def KP(r:R2)(ta tb:TE):TE:=λσ H Q=>ta σ H λx H1=>tb σ H1 λy H2=>r x y H2 Q
def Oo(r:V->Hp->VK->Prop)(ta:TE):TE:=λσ H Q=>ta σ H λx H1=>r x H1 Q
def rI(C:Int->Int->Prop)(g:Int->Int->V):R2:=λx y H Q=>∃ i j,x = .int i/\y = .int j/\C i j/\Q (g i j) H
def Em(g:Int->Int->V):R2:=λx y H Q=>∃ i j,x = .int i/\y = .int j/\Q (g i j) H
def rU(g:Int->V):V->Hp->VK->Prop:=λx H Q=>∃ i,x = .int i/\Q (g i) H
section
variable{X:Cx}{a b c:Expr}{ta tb tc:TE}{pos:Pos}
theorem Kk(ha:PE X a ta)(hb:PE X b tb){pins:List (Addr×Obj)}{s:Shared}{σ:St}{H:Hp}{R:V->V->Hp->Prop}(I:Inv X pins σ H s)
  (h:ta σ H λx H1=>tb σ H1 λy H2=>R x y H2) {Q:Value->Shared->Prop} {f:Value->Value->Sem Value}
  (hf:∀ v u s2 x y H2,Inv X pins σ H2 s2->RelV x v->RelV y u->R x y H2->wpAny (model X.prog X.w) X.A (f v u) Q X.xe s2) :
  wpAny (model X.prog X.w) X.A (eval a X.env) (λv s₁=>wpAny (model X.prog X.w) X.A (eval b X.env) (λu s₂=>wpAny (model X.prog X.w) X.A (f v u) Q X.xe s₂) X.xe s₁) X.xe s:=by
 refine tz (ha pins s σ H _ I h) λv s1 ⟨x,H1,I1,r1,q1⟩=>?_;refine tz (hb pins s1 σ H1 _ I1 q1) λu s2 ⟨y,H2,I2,r2,q2⟩=>?_;exact hf v u s2 x y H2 I2 r1 r2 q2
theorem tK{op:Operator}{r:R2}(ho:OpR X (binaryOp op) r)(ha:PE X a ta)(hb:PE X b tb):PE X (.BinOp a op b pos) (KP r ta tb):=by
 intro pins s σ H Q I h;exact wpAny_BinOp (Kk ha hb I h λv u s2 x y H2 I2 rx ry q=>ho pins s2 σ H2 x y v u Q I2 rx ry q)
theorem H9(ho:NQ X (unaryOp op) r)(ha:PE X a ta):PE X (.UnaryOp op a pos) (Oo r ta):=by
 intro pins s σ H Q I h;exact UnaryOp_ (tz (ha pins s σ H _ I h) λv s1 ⟨x,H1,I1,r1,q1⟩=>ho pins s1 σ H1 x v Q I1 r1 q1)
theorem Ih{f:Value->Value->Sem Value}{C:Int->Int->Prop}{g:Int->Int->Int}
  (rule:∀(i j:Int) (t u:Tok) (s:Shared) (Q:Value->Shared->Prop) (E:Value->Shared->Prop),C i j->Q (.int (g i j) s.toks) { s with toks:=s.toks+1 }->wpAny (model X.prog X.w) X.A (f (.int i t) (.int j u)) Q E s) :
  OpR X f (rI C λi j=>.int (g i j)):=by
 intro pins s σ H x y v u Q I rx ry h;obtain⟨i,j,rfl,rfl,hc,q⟩:=h;obtain⟨t,rfl⟩:=rx;obtain⟨t',rfl⟩:=ry;exact rule i j t t' s _ _ hc ⟨.int (g i j),H,I.tok _,⟨_,rfl⟩,q⟩
theorem GU{f:Value->Value->Sem Value}{g:Int->Int->Int}
  (rule:∀(i j:Int) (t u:Tok) (s:Shared) (Q:Value->Shared->Prop) (E:Value->Shared->Prop),Q (.int (g i j) s.toks) { s with toks:=s.toks+1 }->wpAny (model X.prog X.w) X.A (f (.int i t) (.int j u)) Q E s) :
  OpR X f (Em λi j=>.int (g i j)):=by
 intro pins s σ H x y v u Q I rx ry h;obtain⟨i,j,rfl,rfl,q⟩:=h;obtain⟨t,rfl⟩:=rx;obtain⟨t',rfl⟩:=ry;exact rule i j t t' s _ _ ⟨.int (g i j),H,I.tok _,⟨_,rfl⟩,q⟩
theorem GV{f:Value->Value->Sem Value}{g:Int->Int->Bool}
  (rule:∀(i j:Int) (t u:Tok) (s:Shared) (Q:Value->Shared->Prop) (E:Value->Shared->Prop),Q (.bool (g i j)) s->wpAny (model X.prog X.w) X.A (f (.int i t) (.int j u)) Q E s) :
  OpR X f (Em λi j=>.bl (g i j)):=by
 intro pins s σ H x y v u Q I rx ry h;obtain⟨i,j,rfl,rfl,q⟩:=h;obtain⟨t,rfl⟩:=rx;obtain⟨t',rfl⟩:=ry;exact rule i j t t' s _ _ ⟨.bl (g i j),H,I,rfl,q⟩
def NY(i j:Int):Prop:=0<j/\j<1073741824
def Gf(i j:Int):Prop:=0<=j/\j<=1000000/\i.natAbs<2^64
def CMul(i j:Int):Prop:=(-(2^64)<i/\i<2^64)\/(-(2^64)<j/\j<2^64)
theorem CMul.ok(h:CMul i j):IntMulOk i j:=by
 rcases h with⟨h1,h2⟩|⟨h1,h2⟩
 ·exact .of_left (intBits_le_64 h1 h2)
 ·exact .of_right (intBits_le_64 h1 h2)
theorem uU:OpR X (binaryOp .Add) (Em λi j=>.int (i+j)):=GU λ_ _ _ _ _ _ _ q=>add_int q
theorem JA:OpR X (binaryOp .Sub) (Em λi j=>.int (i-j)):=GU λ_ _ _ _ _ _ _ q=>sub_int q
theorem Bj:OpR X (binaryOp .Mult) (rI CMul λi j=>.int (i*j)):=Ih λ_ _ _ _ _ _ _ hc q=>mul_int q hc.ok
theorem Ck:OpR X (binaryOp .FloorDiv) (rI NY λi j=>.int (i / j)):=Ih λi j _ _ _ _ _ hc q=>by
 have h1:(0:Int)<j:=hc.1;have h2:j<1073741824:=hc.2;exact floordiv_int (by omega) (by rw[aU i (by omega)];exact q) (.inl (PyProof.noPylong_small (by omega)))
theorem vX:OpR X (binaryOp .Mod) (rI (λ_ j=>0<j) λi j=>.int (i%j)):=Ih λi j _ _ _ _ _ hc q=>by
 have h1:(0:Int)<j:=hc;exact mod_int' (by omega) (by rw[dg i (by omega)];exact q)
theorem GR:OpR X (binaryOp .Mod) (rI (λ_ j=>j≠0) λi j=>.int (i.fmod j)):=Ih λ_ _ _ _ _ _ _ hc q=>mod_int' hc q
theorem ES:OpR X (binaryOp .Pow) (rI Gf λi j=>.int (i^j.toNat)):=Ih λ_ _ _ _ _ _ _ hc q=>pow_int_small hc.1 hc.2.1 hc.2.2 q
theorem JB:OpR X (binaryOp .LShift) (rI Gf λi j=>.int (i*2^j.toNat)):=Ih λ_ _ _ _ _ _ _ hc q=>lshift_int_small hc.1 hc.2.1 hc.2.2 q
theorem Ht:OpR X (inplaceOp .Add) (Em λi j=>.int (i+j)):=GU λ_ _ _ _ _ _ _ q=>iadd_int q
theorem Hs:OpR X (inplaceOp .Sub) (Em λi j=>.int (i-j)):=GU λ_ _ _ _ _ _ _ q=>isub_int q
theorem Om{f:Value->Sem Value}{g:Int->Int}
  (rule:∀(i:Int) (t:Tok) (s:Shared) (Q:Value->Shared->Prop) (E:Value->Shared->Prop),Q (.int (g i) s.toks) { s with toks:=s.toks+1 }->wpAny (model X.prog X.w) X.A (f (.int i t)) Q E s) :
  NQ X f (rU λi=>.int (g i)):=by
 intro pins s σ H x v Q I rx h;obtain⟨i,rfl,q⟩:=h;obtain⟨t,rfl⟩:=rx;exact rule i t s _ _ ⟨.int (g i),H,I.tok _,⟨_,rfl⟩,q⟩
theorem DN:NQ X (unaryOp .USub) (rU λi=>.int (-i)):=Om λ_ _ _ _ _ q=>neg_int q
end
def K0:V->V->Bool
 | .non,.non=>true | .non,.int _=>true | .int _,.non=>true | .non,.bl _=>true | .bl _,.non=>true | .non,.str _=>true | .str _,.non=>true
 | .int _,.int _=>true | .bl _,.bl _=>true | .str _,.str _=>true | .byt _,.byt _=>true
 | .int _,.str _=>true | .str _,.int _=>true | .bl _,.str _=>true | .str _,.bl _=>true
 | _,_=>false
def Oz:R2:=λx y H Q=>K0 x y=true/\Q (.bl (decide (x=y))) H
def Oy:R2:=λx y H Q=>K0 x y=true/\Q (.bl (!decide (x=y))) H
theorem CJ:decide (V.int i=V.int j)=(i == j):=by
 rw[bT];simp
theorem FB:decide (V.bl i=V.bl j)=(i == j):=by
 rw[bT];simp
theorem CI:decide (V.str i=V.str j)=(i == j):=by
 rw[bT];simp
theorem CK:decide (V.byt i=V.byt j)=(i.toList == j.toList):=by
 rw[bT];cases i;cases j;simp
section
variable{X:Cx}{a b c:Expr}{ta tb tc:TE}{pos:Pos}
theorem sW(I:Inv X pins σ H s)(q:Q (.bl k) H)(e:k=k'):EP X pins σ Q (.bool k') s:=by
 subst e;exact⟨.bl k,H,I,rfl,q⟩
theorem Ig:OpR X (compareOp .Eq) Oz:=by
 intro pins s σ H x y v u Q I rx ry h;obtain⟨hs,q⟩:=h;cases x with
 | non =>
  cases rx;cases y with
  | non=>cases ry;exact PySem.EqNone.eq_none_none (sW I q (by simp))
  | bl j=>cases ry;exact PySem.EqNone.eq_none_bool (sW I q (by simp))
  | int j=>obtain⟨t',rfl⟩:=ry;exact PySem.EqNone.eq_none_int (sW I q (by simp))
  | str j=>obtain⟨t',rfl⟩:=ry;exact PySem.EqNone.eq_none_str (sW I q (by simp))
  | _=>exact absurd (show false=true from hs) aA
 | bl i =>
  cases rx;cases y with
  | non=>cases ry;exact PySem.EqNone.eq_bool_none (sW I q (by simp))
  | bl j=>cases ry;exact eq_bool (sW I q FB)
  | str j=>obtain⟨t',rfl⟩:=ry;exact PySem.EqMixed.eq_bool_str (sW I q (by simp))
  | _=>exact absurd (show false=true from hs) aA
 | int i =>
  obtain⟨t,rfl⟩:=rx;cases y with
  | non=>cases ry;exact PySem.EqNone.eq_int_none (sW I q (by simp))
  | int j=>obtain⟨t',rfl⟩:=ry;exact eq_int (sW I q CJ)
  | str j=>obtain⟨t',rfl⟩:=ry;exact PySem.EqMixed.eq_int_str (sW I q (by simp))
  | _=>exact absurd (show false=true from hs) aA
 | str i =>
  obtain⟨t,rfl⟩:=rx;cases y with
  | non=>cases ry;exact PySem.EqNone.eq_str_none (sW I q (by simp))
  | bl j=>cases ry;exact PySem.EqMixed.eq_str_bool (sW I q (by simp))
  | int j=>obtain⟨t',rfl⟩:=ry;exact PySem.EqMixed.eq_str_int (sW I q (by simp))
  | str j=>obtain⟨t',rfl⟩:=ry;exact eq_str (sW I q CI)
  | _=>exact absurd (show false=true from hs) aA
 | byt i =>
  obtain⟨t,rfl⟩:=rx;cases y with
  | byt j=>obtain⟨t',rfl⟩:=ry;exact PySem.W.eq_bytes (sW I q CK)
  | _=>exact absurd (show false=true from hs) aA
 | _=>cases y <;> exact absurd (show false=true from hs) aA
theorem Ll:OpR X (compareOp .NotEq) Oy:=by
 intro pins s σ H x y v u Q I rx ry h;obtain⟨hs,q⟩:=h;cases x with
 | non =>
  cases rx;cases y with
  | non=>cases ry;exact PySem.EqNone.ne_none_none (sW I q (by simp))
  | bl j=>cases ry;exact PySem.EqNone.ne_none_bool (sW I q (by simp))
  | int j=>obtain⟨t',rfl⟩:=ry;exact PySem.EqNone.ne_none_int (sW I q (by simp))
  | str j=>obtain⟨t',rfl⟩:=ry;exact PySem.EqNone.ne_none_str (sW I q (by simp))
  | _=>exact absurd (show false=true from hs) aA
 | bl i =>
  cases rx;cases y with
  | non=>cases ry;exact PySem.EqNone.ne_bool_none (sW I q (by simp))
  | bl j=>cases ry;exact ne_bool (sW I q (congrArg not FB))
  | str j=>obtain⟨t',rfl⟩:=ry;exact PySem.EqMixed.ne_bool_str (sW I q (by simp))
  | _=>exact absurd (show false=true from hs) aA
 | int i =>
  obtain⟨t,rfl⟩:=rx;cases y with
  | non=>cases ry;exact PySem.EqNone.ne_int_none (sW I q (by simp))
  | int j=>obtain⟨t',rfl⟩:=ry;exact ne_int (sW I q (congrArg not CJ))
  | str j=>obtain⟨t',rfl⟩:=ry;exact PySem.EqMixed.ne_int_str (sW I q (by simp))
  | _=>exact absurd (show false=true from hs) aA
 | str i =>
  obtain⟨t,rfl⟩:=rx;cases y with
  | non=>cases ry;exact PySem.EqNone.ne_str_none (sW I q (by simp))
  | bl j=>cases ry;exact PySem.EqMixed.ne_str_bool (sW I q (by simp))
  | int j=>obtain⟨t',rfl⟩:=ry;exact PySem.EqMixed.ne_str_int (sW I q (by simp))
  | str j=>obtain⟨t',rfl⟩:=ry;exact ne_str (sW I q (congrArg not CI))
  | _=>exact absurd (show false=true from hs) aA
 | byt i =>
  obtain⟨t,rfl⟩:=rx;cases y with
  | byt j=>obtain⟨t',rfl⟩:=ry;exact PySem.W.ne_bytes (sW I q (congrArg not CK))
  | _=>exact absurd (show false=true from hs) aA
 | _=>cases y <;> exact absurd (show false=true from hs) aA
theorem Ic:OpR X (compareOp .Lt) (Em λi j=>.bl (decide (i<j))):=GV λ_ _ _ _ _ _ _ q=>lt_int q
theorem Lm:OpR X (compareOp .LtE) (Em λi j=>.bl (decide (i<=j))):=GV λ_ _ _ _ _ _ _ q=>le_int q
theorem Id:OpR X (compareOp .Gt) (Em λi j=>.bl (decide (j<i))):=GV λ_ _ _ _ _ _ _ q=>gt_int q
theorem Ie:OpR X (compareOp .GtE) (Em λi j=>.bl (decide (j<=i))):=GV λ_ _ _ _ _ _ _ q=>ge_int q
theorem JD:OpR X (compareOp .Is) (λx y H Q=>y = .non/\Q (.bl (decide (x = .non))) H):=by
 intro pins s σ H x y v u Q I rx ry h;obtain⟨rfl,q⟩:=h;cases ry;refine is_none_gen (sW I q ?_);cases x <;> first
  | (cases rx;rfl)
  | (obtain⟨t,rfl⟩:=rx;rfl)
theorem GO:OpR X (compareOp .IsNot) (λx y H Q=>y = .non/\Q (.bl (!decide (x = .non))) H):=by
 intro pins s σ H x y v u Q I rx ry h;obtain⟨rfl,q⟩:=h;cases ry;refine isnot_none_gen (sW I q ?_);cases x <;> first
  | (cases rx;rfl)
  | (obtain⟨t,rfl⟩:=rx;rfl)
theorem zz(b:Expr)(h:op ≠ .In:=by decide)(h2:op ≠ .NotIn:=by decide):behindInMarks op b=false:=by
 have e1:(op == CmpOp.In)=false:=by cases op <;> first|rfl|exact absurd rfl h
 have e2:(op == CmpOp.NotIn)=false:=by cases op <;> first|rfl|exact absurd rfl h2
 cases b <;> simp[behindInMarks,e1,e2]
theorem GK{r:R2}(ho:OpR X (compareOp op) r)(ha:PE X a ta)(hb:PE X b tb)(hm:behindInMarks op b=false):PE X (.Compare a [op] [b] pos) (KP r ta tb):=by
 intro pins s σ H Q I h;exact wpAny_Compare1 (Kk ha hb I h λv u s2 x y H2 I2 rx ry q=>ho pins s2 σ H2 x y v u Q I2 rx ry q) hm
def DT(t:TE):TT:=λσ H Q=>t σ H λx H'=>∃ k,x = .bl k/\Q k H'
theorem wv{op:CmpOp}{r:R2}(ho:OpR X (compareOp op) r)(ha:PE X a ta)(hb:PE X b tb)(hm:behindInMarks op b=false):PT X (.Compare a [op] [b] pos) (DT (KP r ta tb)):=by
 intro pins s σ H Q I h;refine wpAny_isTrue_Compare1 (tz (ha pins s σ H _ I h) λv s1 ⟨x,H1,I1,r1,q1⟩=>tz (hb pins s1 σ H1 _ I1 q1) λu s2 ⟨y,H2,I2,r2,q2⟩ =>
  tz (ho pins s2 σ H2 x y v u _ I2 r1 r2 q2) λc s3 ⟨z,H3,I3,r3,k,e,q3⟩=>?_) hm
 subst e;cases r3;exact wpAny_truthy_bool ⟨H3,I3,q3⟩
def DU(r r':R2)(ta tb tc:TE):TE:=λσ H Q=>ta σ H λx H1=>tb σ H1 λy H2=>r x y H2 λz H3=>∃ k,z = .bl k /\
 (if k=true then tc σ H3 λw' H4=>r' y w' H4 Q else Q (.bl false) H3)
theorem EF(ho:OpR X (compareOp op) r)(ho':OpR X (compareOp op') r')(ha:PE X a ta)(hb:PE X b tb)(hc:PE X c tc)
  (hm:lastMarks [op,op'] [b,c]=false:=by with_unfolding_all rfl):PE X (.Compare a [op,op'] [b,c] pos) (DU r r' ta tb tc):=by
 intro pins s σ H Q I h;refine Compare_chain (tz (ha pins s σ H _ I h) λv s1 ⟨x,H1,I1,r1,q1⟩=>chain_link (tz (hb pins s1 σ H1 _ I1 q1) λu s2 ⟨y,H2,I2,r2,q2⟩ =>
  tz (ho pins s2 σ H2 x y v u _ I2 r1 r2 q2) λd s3 ⟨z,H3,I3,r3,k,e,q3⟩=>?_)) hm
 subst e;cases r3;refine wpAny_truthy_bool ?_;cases k with
 | false=>exact ite_ff ⟨.bl false,H3,I3,rfl,q3⟩
 | true=>exact ite_tt (chain_last (tz (hc pins s3 σ H3 _ I3 q3) λw' s4 ⟨z',H4,I4,r4,q4⟩=>ho' pins s4 σ H4 y z' u w' Q I4 r2 r4 q4))
theorem Eu(ho:OpR X (compareOp op) r)(ho':OpR X (compareOp op') r')(ha:PE X a ta)(hb:PE X b tb)(hc:PE X c tc)
  (hm:lastMarks [op,op'] [b,c]=false:=by with_unfolding_all rfl):PT X (.Compare a [op,op'] [b,c] pos) (DT (DU r r' ta tb tc)):=by
 intro pins s σ H Q I h;refine isTrue_chain (tz (ha pins s σ H _ I h) λv s1 ⟨x,H1,I1,r1,q1⟩=>test_link (tz (hb pins s1 σ H1 _ I1 q1) λu s2 ⟨y,H2,I2,r2,q2⟩ =>
  tz (ho pins s2 σ H2 x y v u _ I2 r1 r2 q2) λd s3 ⟨z,H3,I3,r3,k,e,q3⟩=>?_)) hm
 subst e;cases r3;refine wpAny_truthy_bool ?_;cases k with
 | false =>
  obtain⟨k',e',q'⟩:=q3;cases e';exact ite_ff ⟨H3,I3,q'⟩
 | true =>
  refine ite_tt (test_last (tz (hc pins s3 σ H3 _ I3 q3) λw' s4 ⟨z',H4,I4,r4,q4⟩=>tz (ho' pins s4 σ H4 y z' u w' _ I4 r2 r4 q4) λd' s5 ⟨z2,H5,I5,r5,k2,e2,q5⟩=>?_));subst e2;cases r5;exact wpAny_truthy_bool ⟨H5,I5,q5⟩
def Mi(K:Frag)(x:V)(H:Hp)(k:Bool):Prop :=
 match x with
 | .non=>k=false
 | .bl b=>k=b
 | .int i=>k=(i != 0)
 | .str y=>y.length<=sizeLine/\k=((y.length:Int) != 0)
 | .byt y=>y.size<=sizeLine/\k=((y.size:Int) != 0)
 | .ref p=>(∃ xs,SqL K H p xs/\k = !xs.isEmpty)\/(∃ xs,SqT K H p xs/\k = !xs.isEmpty)\/∃ kvs,H p=some (.dK kvs)/\k = !kvs.isEmpty
 | _=>False
theorem Bu{κ:Type}{kvs:List (κ×V)}{vs:List (κ×Value)}(r:KV kvs vs):(!vs.isEmpty) = !kvs.isEmpty:=by
 cases r <;> rfl
theorem yf(r:Vals xs its):(!its.toArray.isEmpty) = !xs.isEmpty:=by
 cases r <;> simp
theorem t9:(sizeLine:Nat)<2^63:=by rw[sizeLine_eq];decide
theorem IO:NS X (λx H Q=>∃ k,Mi X.K x H k/\Q k H):=by
 intro pins s σ H x v Q I rx h;obtain⟨k,e,q⟩:=h;have hl:=t9;have hs:sizeLine=16777216:=sizeLine_eq;cases x with
 | non =>
  cases rx;have e':k=false:=e;subst e';exact truthy_none ⟨H,I,q⟩
 | bl b =>
  cases rx;have e':k=b:=e;subst e';exact wpAny_truthy_bool ⟨H,I,q⟩
 | int i =>
  obtain⟨t,rfl⟩:=rx;have e':k=(i != 0):=e;subst e';exact PySem.P.truthy_int ⟨H,I,q⟩
 | str y =>
  obtain⟨t,rfl⟩:=rx;obtain⟨hy,e'⟩:y.length<=sizeLine/\k=((y.length:Int) != 0):=e;subst e';exact PySem.P.truthy_str (by omega) ⟨H,I.tok _,q⟩
 | byt y =>
  obtain⟨t,rfl⟩:=rx;obtain⟨hy,e'⟩:y.size<=sizeLine/\k=((y.size:Int) != 0):=e;subst e';exact PySem.W.truthy_bytes (by omega) ⟨H,I.tok _,q⟩
 | ref p =>
  cases rx;have e':(∃ xs,SqL X.K H p xs/\k = !xs.isEmpty)\/(∃ xs,SqT X.K H p xs/\k = !xs.isEmpty)\/∃ kvs,H p=some (.dK kvs)/\k = !kvs.isEmpty:=e;rcases e' with⟨xs,hx,e'⟩|⟨xs,hx,e'⟩|⟨kvs,hx,e'⟩
  ·subst e';obtain⟨its,r,pl,hz⟩:=I.list hx;have hlen:=r.length;exact wpAny_truthy_list pl.isList (by simp only[ak];omega) ⟨H,I.tok _,by rw[yf r];exact q⟩
  ·subst e';obtain⟨its,r,pl,hz⟩:=I.tuple hx;have hlen:=r.length;exact truthy_tuple pl (by simp only[ak];omega) ⟨H,I.tok _,by rw[yf r];exact q⟩
  ·subst e';obtain⟨hz,hS,vs,r,m⟩:kvs.length<=sizeLine/\(p == sysModules)=false/\∃ vs,KV kvs vs/\s.heap.DictOf (wy X.prog X.w) p vs:=I.hok p _ hx;have hlen:kvs.length=vs.length:=Paired.length r;exact wpAny_truthy_dict hS m (by omega) ⟨H,I.tok _,by rw[Bu r];exact q⟩
 | _=>exact (show False from e).elim
theorem Et(ha:PE X a ta)(he:∀ whole,isTrue a X.env whole=(do let v ← whole;standAt a.pos;holding [v] (truthy v))) :
  PT X a (λσ H Q=>ta σ H λx H'=>∃ k,Mi X.K x H' k/\Q k H'):=by
 intro pins s σ H Q I h;exact isTrue_plain (tz (ha pins s σ H _ I h) λv s1 ⟨x,H1,I1,r1,q1⟩=>IO pins s1 σ H1 x v Q I1 r1 q1) (he _)
theorem Bk:OpR X (binaryOp .Add) (λx y H Q=>∃ i j,x = .str i/\y = .str j/\i.length+j.length<=sizeLine/\Q (.str (i++j)) H):=by
 intro pins s σ H x y v u Q I rx ry h;obtain⟨i,j,rfl,rfl,hz,q⟩:=h;obtain⟨t,rfl⟩:=rx;obtain⟨t',rfl⟩:=ry;exact add_str (λt' tk=>⟨.str (i++j),H,I.tok _,⟨_,rfl⟩,q⟩) hz
theorem AF:OpR X (inplaceOp .Add) (λx y H Q=>∃ i j,x = .str i/\y = .str j/\i.length+j.length<=sizeLine/\Q (.str (i++j)) H):=by
 intro pins s σ H x y v u Q I rx ry h;obtain⟨i,j,rfl,rfl,hz,q⟩:=h;obtain⟨t,rfl⟩:=rx;obtain⟨t',rfl⟩:=ry;exact iadd_str (λt' tk=>⟨.str (i++j),H,I.tok _,⟨_,rfl⟩,q⟩) hz
theorem xO(r:Vals [x] us):∃ u,us=[u]/\RelV x u:=by
 cases r with
 | cons r1 r2=>cases r2;exact⟨_,rfl,r1⟩
theorem KJ(r:Vals [x,y] us):∃ u w',us=[u,w']/\RelV x u/\RelV y w':=by
 cases r with
 | cons r1 r2 =>
  cases r2 with
  | cons r3 r4=>cases r4;exact⟨_,_,rfl,r1,r3⟩
theorem FX:CallR X (.builtin "abs") (λxs H Q=>∃ i,xs=[.int i]/\Q (.int (if i<0 then -i else i)) H):=by
 intro pins s σ H xs us Q I r h;obtain⟨i,rfl,q⟩:=h;obtain⟨u,rfl,t,rfl⟩:=xO r;exact call_abs_int λu tk=>⟨.int (if i<0 then -i else i),H,I.tok _,⟨_,rfl⟩,q⟩
theorem DF(hc:X.calm=true):CallR X (.builtin "max") (λxs H Q=>∃ i j,xs=[.int i,.int j]/\Q (.int (if j > i then j else i)) H):=by
 intro pins s σ H xs us Q I r h;obtain⟨i,j,rfl,q⟩:=h;obtain⟨u,w',rfl,⟨t,rfl⟩,⟨t',rfl⟩⟩:=KJ r;refine max_two_ints (I.ok.hd hc) λh' tk k=>⟨_,H,I.kept k,?_,q⟩;by_cases hj:j > i
 ·rw[if_pos hj,if_pos hj];exact⟨_,rfl⟩
 ·rw[if_neg hj,if_neg hj];exact⟨_,rfl⟩
theorem DG:CallR X (.type "int") (λxs H Q=>(∃ i,xs=[.int i]/\Q (.int i) H)\/∃ k,xs=[.bl k]/\Q (.int (if k then 1 else 0)) H):=by
 intro pins s σ H xs us Q I r h;rcases h with⟨i,rfl,q⟩|⟨k,rfl,q⟩
 ·obtain⟨u,rfl,t,rfl⟩:=xO r;exact call_int_int ⟨.int i,H,I,⟨_,rfl⟩,q⟩
 ·obtain⟨u,rfl,r1⟩:=xO r;cases r1;exact call_int_bool ⟨.int (if k then 1 else 0),H,I.tok _,⟨_,rfl⟩,q⟩
end
structure ObjM (h:Heap)(x dx C:Addr)(mA:Str->Option Value):Prop where
 obj:h.get? x=some (PySem.W.instObj C dx)
 ns:h.Ns1 dx mA
 ne:dx≠x
theorem Dr{h:Heap}{dx:Addr}{mA:Str->Option Value}(n:h.Ns1 dx mA):∃ od,h.get? dx=some od/\∀ name,PySem.W.lookIn name od=some (mA name):=by
 obtain⟨o,es,ep,ho,hd,hk,_,hm⟩:=n;refine⟨o,ho,λname=>?_⟩;have e:=hm name;unfold nsFind findBy at e;rw[← Array.find?_toList] at e;unfold PySem.W.lookIn;rw[hd];dsimp only;split
 ·rename_i y q;rw[q] at e;exact congrArg some e
 ·rename_i q;rw[q] at e;have a:es.toList.any (·.refKey)=false:=by
   rw[fK];intro y hy;obtain⟨z,t,hkey⟩:=hk y (Array.mem_toList_iff.mp hy);simp[DictEntry.refKey,hkey]
  have a':¬ es.toList.any (·.refKey)=true:=by rw[a];exact aA
  rw[if_neg a'];exact congrArg some e
theorem ObjM.look(I:ObjM h x dx C mA):∃ od,PySem.W.InstAt h x (PySem.W.instObj C dx) C (some od)/\∀ name,PySem.W.lookIn name od=some (mA name) :=
 let ⟨od,ho,hl⟩:=Dr I.ns
 ⟨od,⟨I.obj,rfl,rfl,ho⟩,hl⟩
section
variable{P:Program}{w:World}{H H':Hp}{h h':Heap}{a C dx:Addr}{fs fs':List (Str×V)}
theorem Hu(hok:HOk P w H h)(e:H a=some (.ins C dx fs)):∃ mA,ObjM h a dx C mA/\(∀ f,Ks (fs.lookup f) (mA f))/\PySem.Within mA (fs.map (·.1))/\fs.length<=1000/\H dx=some (.own a):=by
 obtain⟨d,z,ne,ob,mA,n,r,q⟩:=(show ObjOk P w H h a (.ins C dx fs) from hok a _ e);exact⟨mA,⟨ob,n,ne⟩,r,q,z,d⟩
end
structure Cls (K:Frag)(C:Addr):Prop where
 pg:PySem.W.plainGet K C Str.empty=true
 hd:PySem.W.hasDictIn K C=true
 po:PySem.W.plainOver K C=true
 sa:PySem.W.findIn K (.ref C) "__setattr__" = some (some (.builtin "object.__setattr__"))
theorem Cls.get{K:Frag}{C:Addr}(c:Cls K C)(f:Str):PySem.W.plainGet K C f=true:=c.pg
section
variable{X:Cx}{pins:List (Addr×Obj)}{σ:St}{H:Hp}{s:Shared}{A:Around}{E:Value->Shared->Prop}{Q:Value->Shared->Prop}{c:Value}{b:Bool}
inductive TyOf (K:Frag) (H:Hp):V->Value->Prop where
 | non:TyOf K H .non (.type "NoneType")
 | bl (x:Bool):TyOf K H (.bl x) (.type "bool")
 | int (i:Int):TyOf K H (.int i) (.type "int")
 | str (x:Str):TyOf K H (.str x) (.type "str")
 | flt (x:UInt64):TyOf K H (.flt x) (.type "float")
 | lst {a:Addr} {xs:List V} (e:H a=some (.lst xs)):TyOf K H (.ref a) (.type "list")
 | frz {a:Addr} {o:Obj} {xs:List V} (e:H a=some (.frz o (.lst xs))):TyOf K H (.ref a) (.type "list")
 | tup {a:Addr} {xs:List V} (e:H a=some (.tup xs)):TyOf K H (.ref a) (.type "tuple")
 | dK {a:Addr} {kvs:List (xM×V)} (e:H a=some (.dK kvs)):TyOf K H (.ref a) (.type "dict")
 | dT {a:Addr} {kvs:List (List xM×V)} (e:H a=some (.dT kvs)):TyOf K H (.ref a) (.type "dict")
 | ins {a C dx:Addr} {fs:List (Str×V)} (e:H a=some (.ins C dx fs)) (cl:Cls K C) (ha:PySem.W.findIn K (.ref C) "__class__" = some (some (.builtin "object.__class__")))
   (hn:PySem.W.specialIn K (.builtin "object.__class__") "__get__" = some (some (.builtin "getset_descriptor.__get__"))) (htk:PySem.W.takesIn K (.builtin "object.__class__")=some true)
   (hm:PySem.W.mroIn K C (.type "object")=some true):TyOf K H (.ref a) (.ref C)
theorem Dx(I:Inv X pins σ H s)(rx:RelV x u)(ty:TyOf X.K H x t)(e:PySem.W.kitOne X.K t c=some b)(h:∀ tk,Q (.bool b) { s with toks:=tk }) :
  wpAny (model X.prog X.w) A (call (.builtin "isinstance") [u,c]) Q E s:=by
 cases ty with
 | non=>cases (show u=Value.none from rx);exact PySem.W.kia_one PySem.W.kitx_none I.kIn True.intro e (λz=>nomatch z) h
 | bl y=>cases (show u=Value.bool y from rx);exact PySem.W.kia_one PySem.W.kitx_bool I.kIn True.intro e (λz=>nomatch z) h
 | int i=>obtain⟨t,q⟩:=(show ∃ t,u=Value.int i t from rx);cases q;exact PySem.W.kia_one PySem.W.kitx_int I.kIn True.intro e (λz=>nomatch z) h
 | str y=>obtain⟨t,q⟩:=(show ∃ t,u=Value.str y t from rx);cases q;exact PySem.W.kia_one PySem.W.kitx_str I.kIn True.intro e (λz=>nomatch z) h
 | flt y=>obtain⟨t,q⟩:=(show ∃ t,u=Value.float y t from rx);cases q;exact PySem.W.kia_one PySem.W.kitx_float I.kIn True.intro e (λz=>nomatch z) h
 | @lst a xs ea =>
  cases (show u=Value.ref a from rx);obtain⟨_,_,n,_,h1⟩:=(show ObjOk X.prog X.w H s.heap a (.lst xs) from I.hok a _ ea);exact PySem.W.kia_one PySem.W.kitx_list I.kIn ⟨_,h1,rfl⟩ e (λz=>nomatch z) h
 | @frz a ob xs ea =>
  cases (show u=Value.ref a from rx);obtain⟨_,_,_,n,_,h1⟩:=(show ObjOk X.prog X.w H s.heap a (.frz ob (.lst xs)) from I.hok a _ ea);exact PySem.W.kia_one PySem.W.kitx_list I.kIn ⟨_,h1,rfl⟩ e (λz=>nomatch z) h
 | @tup a xs ea =>
  cases (show u=Value.ref a from rx);obtain⟨_,_,_,p⟩:=(show ObjOk X.prog X.w H s.heap a (.tup xs) from I.hok a _ ea);obtain⟨o,h1,h2,_⟩:=p;exact PySem.W.kia_one PySem.W.kitx_tuple I.kIn ⟨o,h1,h2⟩ e (λz=>nomatch z) h
 | @dK a kvs ea =>
  cases (show u=Value.ref a from rx);obtain⟨_,_,vs,_,p⟩:=(show ObjOk X.prog X.w H s.heap a (.dK kvs) from I.hok a _ ea);obtain⟨o,es,ep,h1,h2,_⟩:=p;exact PySem.W.kia_one PySem.W.kitx_dict I.kIn ⟨o,h1,h2.1⟩ e (λz=>nomatch z) h
 | @dT a kvs ea =>
  cases (show u=Value.ref a from rx);obtain⟨_,_,xs,_,o,es,ep,h1,h2,_⟩:=(show ObjOk X.prog X.w H s.heap a (.dT kvs) from I.hok a _ ea);exact PySem.W.kia_one PySem.W.kitx_dict I.kIn ⟨o,h1,h2.1⟩ e (λz=>nomatch z) h
 | @ins a C dx fs ea cl ha hn htk hm =>
  cases (show u=Value.ref a from rx);obtain⟨mA,O,_⟩:=Hu I.hok ea;obtain⟨od,J,_⟩:=O.look;exact PySem.W.kia_one (PySem.W.kitx_own (cl.get _) cl.hd ha hn htk hm) I.kIn J e (λz=>nomatch z) h
end
structure Room (k:Nat)(A:Around):Prop where
 hd:A.handled=none
 dp:A.depth+3*k+105<recursionLimit
 un:A.units+16*k+200<cLine
theorem Room.mono(r:Room k A)(h:j<=k):Room j A:=⟨r.hd,by have:=r.dp;omega,by have:=r.un;omega⟩
theorem Room.deeper{k:Nat}{A:Around}(r:Room (k+1) A)(env:Env):Room k (A.deeper env) :=
 ⟨r.hd,by have:=r.dp;show A.depth+1+3*k+105<_;omega,by have:=r.un;show A.units+3+16*k+200<_;omega⟩
theorem Room.depth{k:Nat}{A:Around}(r:Room k A):A.depth<recursionLimit:=by have:=r.dp;omega
theorem Room.units(r:Room k A):A.units+64<cLine:=by have:=r.un;omega
def Gs:TA:=λ_ H Q=>Q [] H
def yD(ta:TE)(tr:TA):TA:=λσ H Q=>ta σ H λx H1=>tr σ H1 λxs H2=>Q (x::xs) H2
section
variable{X:Cx}{e:Expr}{es:List Expr}{te:TE}{t:TA}{pos:Pos}
theorem pa_nil:PA X [] Gs:=λ_ _ _ _ H Q I h=>Calls.spliced_nil ⟨[],H,I,.nil,h⟩
theorem sT(ha:PE X e te)(hr:PA X es t)(hs:starEach (e::es) X.env=(false,eval e X.env)::starEach es X.env:=by rfl):PA X (e::es) (yD te t):=by
 intro pos pins s σ H Q I h;rw[hs];show wpAny _ _ (spliced ((false,eval e X.env)::backTo pos (starEach es X.env))) _ _ s;refine Calls.spliced_cons (tz (ha pins s σ H _ I h) λu s1 ⟨x,H1,I1,r1,q1⟩=>?_);exact tz (hr pos pins s1 σ H1 _ I1 q1) λus s2 ⟨xs,H2,I2,r2,q2⟩=>⟨x::xs,H2,I2,.cons r1 r2,q2⟩
def MV(t:TA):TE:=λσ H Q=>t σ H λxs H1=>xs.length<=sizeLine/\∀ p,H1 p=none->Q (.ref p) (tJ H1 p (.tup xs))
def M0(t:TA):TE:=λσ H Q=>t σ H λxs H1=>xs.length<=sizeLine/\∀ p,H1 p=none->Q (.ref p) (tJ H1 p (.lst xs))
theorem EC(h:PA X es t):PE X (.Tuple es x1 pos) (MV t):=by
 intro pins s σ H Q I hq;refine wpAny_Tuple_spliced (tz (h pos pins s σ H _ I hq) λus s1 ⟨xs,H1,I1,r,z,q⟩=>⟨by rw[← r.length];exact z,?_⟩);have hf:H1 s1.heap.objs.size=none:=I1.hok.fresh (aq _);refine⟨.ref s1.heap.objs.size,tJ H1 s1.heap.objs.size (.tup xs),I1.laid (t':=s1.toks) (λb u e=>ηH _ e) (aq _) ?_,rfl,q _ hf⟩;exact⟨z,us,r,⟨_,ηG _ rfl,rfl,_,rfl⟩⟩
theorem zr(h:PA X es t):PE X (.List es pos) (M0 t):=by
 intro pins s σ H Q I hq;refine wpAny_List_spliced (tz (h pos pins s σ H _ I hq) λus s1 ⟨xs,H1,I1,r,z,q⟩=>⟨by rw[← r.length];exact z,?_⟩);have hf:H1 s1.heap.objs.size=none:=I1.hok.fresh (aq _);refine⟨.ref s1.heap.objs.size,tJ H1 s1.heap.objs.size (.lst xs),I1.laid (t':=s1.toks) (λb u e=>ηH _ e) (aq _) ?_,rfl,q _ hf⟩;exact⟨z,us,0,r,ηG _ rfl⟩
end
abbrev Sp:=List V->Hp->VK->XK->Prop
abbrev Ge:=List Env->Hp->Shared->XK->Value->Shared->Prop
structure Env0 (P:Program)(w:World)(K:Frag)(mg:Str->Option Value)(base:Heap)(A:Around)(outer:List Env)(s:Shared)(H:Hp):Prop where
 frames:A.frames=some outer
 mod:Mod K mg base
 bs:∀ b o,base.get? b=some o->s.heap.get? b=some o/\H b=none
 bsz:base.objs.size<=s.heap.objs.size
 funs:s.heap.FunFrames base outer
 frf:∀ b∈CC outer,H b=none
 hok:HOk P w H s.heap
 bare:AllBare s.gens
 sr:base.NoSeer/\P.given.tree=none
def CE(outer:List Env)(P:Program)(w:World)(H:Hp)(s:Shared)(Q:VK)(u:Value)(s':Shared):Prop :=
 ∃ v H',s'.os=s.os/\AllBare s'.gens/\Un (CC outer) [] H H' s.heap s'.heap/\HOk P w H' s'.heap/\RelV v u/\Q v H'
def CR(CX:Ge)(outer:List Env)(P:Program)(w:World)(H:Hp)(s:Shared)(Q:VK)(E:XK)(r:Result)(s':Shared):Prop :=
 match r with
 | .ok (.ret u)=>CE outer P w H s Q u s'
 | .ok _=>False
 | .error e=>CX outer H s E e s'
structure FnOk (P:Program)(w:World)(K:Frag)(mg:Str->Option Value)(base:Heap)(CX:Ge)(k:Nat)(f:Addr)(fd:FuncData)(ps:List Str)(sp:Sp):Prop where
 len:∀ vs H Q E,sp vs H Q E->vs.length=ps.length
 run:∀(A:Around) (outer:List Env) (s:Shared) (H:Hp) (args:Args) (us:List Value) (vs:List V) (Q:VK) (E:XK),Room k A->Env0 P w K mg base A outer s H->BindsTo s fd args (ps.zip us)->Vals vs us->sp vs H Q E ->
  codeAny (model P w) A (.call (.ref f) args) (CR CX outer P w H s Q E) s
theorem FnOk.imp{P:Program}{w:World}{K:Frag}{mg:Str->Option Value}{base:Heap}{CX:Ge}{k:Nat}{f:Addr}{fd:FuncData}{ps:List Str}{sp sp':Sp}(F:FnOk P w K mg base CX k f fd ps sp)
  (h:∀ vs H Q E,sp' vs H Q E->sp vs H Q E):FnOk P w K mg base CX k f fd ps sp' :=
 ⟨λvs H Q E q=>F.len vs H Q E (h _ _ _ _ q),λA outer s H args us vs Q E hr he hb hv hs=>F.run A outer s H args us vs Q E hr he hb hv (h _ _ _ _ hs)⟩
section
variable{X:Cx}{pins:List (Addr×Obj)}{σ:St}{H:Hp}{s s':Shared}
theorem Inv.env0(I:Inv X pins σ H s):Env0 X.prog X.w X.K X.mg X.base X.A X.stack s H :=
 ⟨I.ok.frames,I.ok.mod,I.bs,bq I.ok.bsz I.sz,I.stack,I.stkFree,I.hok,I.bare,I.ok.sr⟩
theorem Inv.after(I:Inv X pins σ H s)(h:CE X.stack X.prog X.w H s Q u s'):EP X pins σ Q u s':=by
 obtain⟨v,H',os,bare,un,hok,r,q⟩:=h;obtain⟨hh,g,d,t,os'⟩:=s';obtain rfl:os'=s.os:=os;exact⟨v,H',I.call (h':=hh) (g':=g) (d':=d) (t':=t) (ch:=[]) un hok bare (λb z=>absurd z (by simp)),r,q⟩
end
def Al(sp:Sp)(dvs:List V)(E:XK)(t:TA):TE:=λσ H Q=>t σ H λvs H1=>sp (vs++dvs) H1 Q E
def Binds(K:Frag)(fd:FuncData)(ps:List Str)(ds:List Value):Prop :=
 ∀(s:Shared) (us:List Value),K.In s.heap->(us++ds).length=ps.length->BindsTo s fd ⟨us,[]⟩ (ps.zip (us++ds))
theorem Binds.all{K:Frag}{fd:FuncData}{ps:List Str}(h:∀ us:List Value,us.length=ps.length->bindArgs fd ⟨us,[]⟩=pure (ps.zip us)):Binds K fd ps []:=λs us _ hl=>by
 rw[cu] at hl ⊢;exact .of_eq (h us hl)
def BT(CX:Ge)(X:Cx)(E:XK):Prop:=∀(pins:List (Addr×Obj)) (σ:St) (H:Hp) (s:Shared) (e:Value) (s':Shared),Inv X pins σ H s->CX X.stack H s E e s'->X.xe e s'
section
variable{X:Cx}{CX:Ge}{k:Nat}{f C:Addr}{fd:FuncData}{ps:List Str}{sp:Sp}{dvs:List V}{ds:List Value}{E:XK}{x m:Str}{p pos apos:Pos}{e o:Expr}{es:List Expr}{ta:TE}{t:TA}
theorem Ja(F:FnOk X.prog X.w X.K X.mg X.base CX k f fd ps sp)(hr:Room k X.A)(hb:Binds X.K fd ps ds)(hd:Vals dvs ds)(hx:BT CX X E)
  (I:Inv X pins σ H s) (r:Vals vs us) (h:sp (vs++dvs) H Q E):wpAny (model X.prog X.w) X.A (call (.ref f) us) (EP X pins σ Q) X.xe s:=by
 have r2:Vals (vs++dvs) (us++ds):=r.append hd;have hl:(us++ds).length=ps.length:=by rw[← r2.length];exact F.len _ _ _ _ h
 refine wpAny_call (codeAny_mono (F.run X.A X.stack s H ⟨us,[]⟩ (us++ds) (vs++dvs) Q E hr I.env0 (hb s us I.kIn hl) r2 h) λr s' hq=>?_);cases r with
 | error e=>exact hx pins σ H s e s' I hq
 | ok fl =>
  cases fl with
  | ret u=>exact I.after hq
  | next=>exact False.elim hq
  | brk=>exact False.elim hq
  | cont=>exact False.elim hq
theorem GL(F:FnOk X.prog X.w X.K X.mg X.base CX k f fd ps sp)(hr:Room k X.A)(hg:Gl X x)(hm:X.mg x=some (.ref f))(hk:PySem.W.keepIn X.K (.ref f)=true)(hb:Binds X.K fd ps ds)(hd:Vals dvs ds)(hx:BT CX X E)
  (ha:PA X (e::es) t) (hdb:(x == ("__debug__" : Str))=false:=by decide) (he:starEach (e::es) X.env=(false,eval e X.env)::starEach es X.env:=by rfl) (hpl:(backTo pos (starEach es X.env)).any (·.1)=false:=by rfl) :
  PE X (.Call (.Name x p) (e::es) [] pos) (Al sp dvs E t):=by
 intro pins s σ H Q I h;refine wpAny_Call_Name_kw (Cq I hg hm ?_ hdb);refine PySem.W.callWith_K (h₀:=X.base) I.ok.mod.kin hk (tz (ha pos pins s σ H _ I h) λus s1 ⟨vs,H1,I1,r,q⟩=>⟨I1.kIn,?_⟩) he hpl;exact Ja F hr hb hd hx I1 r q
end
structure FnScope (N P:List Str)(sc:Scope):Prop where
 kind:sc.kind = .function
 co:sc.isCoroutine=false
 gen:sc.isGenerator=false
 nd:N.Nodup
 pre:N.take P.length=P
 par:∀ x∈P,sc.names.lookup x=some .local\/sc.names.lookup x=some .cell
 nofree:∀ y∈sc.names,y.2 ≠ .free
theorem yZ{kindOf:Str->Option NameKind}{x:Str}:∀{binds:List (Str×Value)} {m:Str->Option Value},(∀ v,(x,v) ∉ binds)->bindL kindOf binds m x=m x
 | [],_,_=>rfl
 | (n,v)::r,m,h=>by
  unfold bindL;rw[yZ λw hw=>h w (aw _ hw)];split
  ·have:x≠n:=by rintro rfl;exact h v av
   simp[this]
  ·rfl
theorem y7{kindOf:Str->Option NameKind}{x:Str}:∀{binds:List (Str×Value)} {m:Str->Option Value},(∀ v,(x,v) ∉ binds)->bindC kindOf binds m x=m x
 | [],_,_=>rfl
 | (n,v)::r,m,h=>by
  unfold bindC;rw[y7 λw hw=>h w (aw _ hw)];split
  ·rfl
  ·have:x≠n:=by rintro rfl;exact h v av
   simp[this]
theorem y6{kindOf:Str->Option NameKind}{x:Str}{v:Value}:∀{P:List Str} {vs:List Value} {i:Nat} {m:Str->Option Value},P.Nodup->P[i]? = some x->vs[i]? = some v->kindOf x=some .local ->
  bindL kindOf (P.zip vs) m x=some v
 | [],_,_,_,_,h,_,_=>by simp at h
 | _::_,[],_,_,_,_,h,_=>by simp at h
 | p::P,w::vs,0,m,nd,h1,h2,hk=>by
  simp at h1 h2;subst h1;subst h2;show bindL kindOf ((p,w)::P.zip vs) m p=_;unfold bindL;rw[yZ λv hv=>(cF.mp nd).1 (eK hv).1,if_pos hk];simp
 | p::P,w::vs,i+1,m,nd,h1,h2,hk=>by
  show bindL kindOf ((p,w)::P.zip vs) m x=_;unfold bindL;exact y6 (i:=i) (cF.mp nd).2 (by simpa using h1) (by simpa using h2) hk
theorem y8{kindOf:Str->Option NameKind}{x:Str}{v:Value}:∀{P:List Str} {vs:List Value} {i:Nat} {m:Str->Option Value},P.Nodup->P[i]? = some x->vs[i]? = some v->kindOf x≠some .local ->
  bindC kindOf (P.zip vs) m x=some v
 | [],_,_,_,_,h,_,_=>by simp at h
 | _::_,[],_,_,_,_,h,_=>by simp at h
 | p::P,w::vs,0,m,nd,h1,h2,hk=>by
  simp at h1 h2;subst h1;subst h2;show bindC kindOf ((p,w)::P.zip vs) m p=_;unfold bindC;rw[y7 λv hv=>(cF.mp nd).1 (eK hv).1,if_neg hk];simp
 | p::P,w::vs,i+1,m,nd,h1,h2,hk=>by
  show bindC kindOf ((p,w)::P.zip vs) m x=_;unfold bindC;exact y8 (i:=i) (cF.mp nd).2 (by simpa using h1) (by simpa using h2) hk
def start(N:List Str)(vs:List V):St:=vs.map some++List.replicate (N.length-vs.length) none
def BK(CX:Ge)(P:Program)(w:World)(K:Frag)(mg:Str->Option Value)(base:Heap)(N:List Str)(qual:Str)(scope:Scope)(f:Addr)(cd:Value)(A:Around)(outer:List Env)(s:Shared)(H:Hp)(E:XK):Cx where
 prog:=P
 w:=w
 K:=K
 mg:=mg
 base:=base
 A:=A.deeper (envOfC qual scope s.heap.objs.size f cd)
 N:=N
 s₀:=s
 H₀:=H
 env:=envOfC qual scope s.heap.objs.size f cd
 outer:=outer
 stack:=envOfC qual scope s.heap.objs.size f cd::outer
 ex:=[]
 calm:=true
 fn:=λ_=>true
 pn:=[]
 xe:=λe s'=>wpAny (model P w) (A.deeper (envOfC qual scope s.heap.objs.size f cd)) (leaving (envOfC qual scope s.heap.objs.size f cd) e) (λ_ s''=>CX outer H s E e s'') (λe' s''=>CX outer H s E e' s'') s'
theorem AR{sc:Scope}{n:Nat}{x:Str}(h:sc.names.lookup x=some .cell):∃ c,(cellsFrom n sc.names []).lookup x=some c:=by
 have q:=PySem.W.cellsFrom_some sc.names n [] (.inl h);exact Option.isSome_iff_exists.mp q
theorem Dz{CX:Ge}{P:Program}{w:World}{K:Frag}{mg:Str->Option Value}{base:Heap}{N ps:List Str}{qual:Str}{scope:Scope}{f:Addr}{cd:Value}{A:Around}{outer:List Env}{s s1:Shared}{H:Hp}{E:XK}{us:List Value}{vs:List V}
  (S:FnScope N ps scope) (hd:A.handled=none) (e0:Env0 P w K mg base A outer s H) (hl:vs.length=ps.length) (r:Vals vs us)
  (x:InCallC s s.heap.objs.size (bindL (envOfC qual scope s.heap.objs.size f cd).kindOf (ps.zip us) λ_=>none) (cellsFrom (s.heap.objs.size+1) scope.names []) (bindC (envOfC qual scope s.heap.objs.size f cd).kindOf (ps.zip us) λ_=>none) s1) :
  Inv (BK CX P w K mg base N qual scope f cd A outer s H E) [] (start N vs) H s1:=by
 have hpl:ps.length<=N.length:=by have:=congrArg List.length S.pre;rw[aM] at this;omega
 obtain⟨h1,tk,rfl,hk⟩:=x.done;have noA:∀ b:Addr,b ∉ (BK CX P w K mg base N qual scope f cd A outer s H E).ex:=λb z=>absurd (show b∈([]:List Addr) from z) (by simp);refine⟨⟨e0.mod,S.kind,rfl,rfl,aq _,λy z c h1 h2=>?_,λy hy=>?_,λy c _ h=>?_,λ_=>hd,Around.frames_deeper e0.frames,.inr ⟨rfl,rfl⟩,λb z=>absurd z (noA b),e0.bs,e0.bsz,λb _ _=>noA b,λb z=>absurd z (noA b),e0.funs,e0.frf,e0.sr,⟨_,_,rfl,S.gen,S.co,rfl,rfl⟩⟩,
  rfl,e0.bare,Un.kept hk,⟨_,x.toInCall.ns,λi y v h1 h2 h3=>?_⟩,λy c h=>⟨_,x.cell y c h⟩,e0.hok.fresh (aq _),λy c h=>?_,λp hp=>absurd (show p∈([]:List (Addr×Obj)) from hp) (by simp),e0.hok.kept hk,?_⟩
 ·exact name_of_addr x.apart (PySem.mem_of_lookup h1) (PySem.mem_of_lookup h2)
 ·have hy:scope.names.lookup y=some .cell\/scope.names.lookup y=some .free:=hy;rcases hy with hy|hy
  ·exact AR hy
  ·exact absurd rfl (S.nofree _ (PySem.mem_of_lookup hy))
 ·exact dL (x.above y c (PySem.mem_of_lookup h))
 ·have hi:i<vs.length:=by
   unfold start at h2;by_cases hi:i<vs.length
   ·exact hi
   ·rw[aF (by simpa using hi)] at h2;rw[cR] at h2;split at h2 <;> cases h2
  have ha:vs[i]? = some v:=by
   unfold start at h2;rw[aK (by simpa using hi),au] at h2;cases e:vs[i]? with
   | none=>rw[e] at h2;cases h2
   | some a=>rw[e] at h2;cases h2;rfl
  obtain⟨u,hu,rv⟩:=r.get ha;have hp:ps[i]? = some y:=by
   rw[← S.pre,bN (by omega)];exact h1
  have ndP:ps.Nodup:=by rw[← S.pre];exact S.nd.sublist (List.take_sublist _ _)
  refine⟨u,rv,?_⟩;rcases S.par y (ay hp) with k|k
  ·exact .inl ⟨k,y6 ndP hp hu k⟩
  ·obtain⟨c,e⟩:=AR (n:=s.heap.objs.size+1) k;refine .inr ⟨.inl k,c,e,?_⟩;have q:=x.cell y c e;rw[y8 ndP hp hu (by show scope.names.lookup y≠_;rw[k];decide)] at q;exact q
 ·exact e0.hok.fresh (dL (x.above y c (PySem.mem_of_lookup h)))
 ·unfold start;show _=N.length;rw[ai,aa,aQ];omega
theorem LX{CX:Ge}{P:Program}{w:World}{K:Frag}{mg:Str->Option Value}{base:Heap}{k:Nat}{f:Addr}{name qual:Str}{params:Arguments}{body:List Stmt}{scope:Scope}{dV kV doc pm cdv ct oc:Value}{an od:Option Addr}
  {osl:Array (Option Value)} {N ps:List Str} {sp:Sp} (lk:K.lookup f=some ⟨oc,od,.func (PySem.W.fnOf name qual params body scope dV kV doc pm an cdv ct),osl⟩) (hcd:PySem.W.codeIn K cdv qual=true) (S:FnScope N ps scope)
  (len:∀ vs H Q E,sp vs H Q E->vs.length=ps.length)
  (hbody:∀(A:Around) (outer:List Env) (s:Shared) (H:Hp) (vs:List V) (Q:VK) (E:XK),Room k (A.deeper (envOfC qual scope s.heap.objs.size f cdv))->sp vs H Q E ->
   ∃ t,PSs (BK CX P w K mg base N qual scope f cdv A outer s H E) body t/\t { nx:=λ_ H'=>Q .non H',rt:=Q } (start N vs) H) :
  FnOk P w K mg base CX (k+1) f (PySem.W.fnOf name qual params body scope dV kV doc pm an cdv ct) ps sp:=by
 refine⟨len,λA outer s H args us vs Q E hr e0 hb r hsp=>?_⟩;have hl:=len _ _ _ _ hsp;have KX:K.In s.heap:=e0.mod.kin.keeps λb o e=>(e0.bs b o e).1;have lim:s.heap.NoLimit:=e0.mod.nolimit.keeps λb o e=>(e0.bs b o e).1;have hkind:∀ y∈ps.zip us,scope.names.lookup y.1=some .local\/(scope.names.lookup y.1=some .cell/\((cellsFrom (s.heap.objs.size+1) scope.names []).lookup y.1).isSome=true):=fun⟨n,v⟩ hy=>by
  rcases S.par n (eK hy).1 with q|q
  ·exact .inl q
  ·exact .inr ⟨q,PySem.W.cellsFrom_some _ _ _ (.inl q)⟩
 refine codeAny_call_function hr.depth (KX _ _ lk) rfl S.co S.gen rfl (PySem.W.codeRec_of KX hcd) (hb _ _ _ _ ?_);refine wpAny_newFunctionEnv_cells S.kind hkind λenv he s1 x=>?_;subst he;refine⟨lim.keeps x.toInCall.keep,codeAny_func ?_⟩;obtain⟨t,ht,hq⟩:=hbody A outer s H vs Q E (hr.deeper _) hsp;have I:Inv (BK CX P w K mg base N qual scope f cdv A outer s H E) [] (start N vs) H s1:=Dz S hr.hd e0 hl r x;refine wpAny_mono (ht [] s1 (start N vs) H _ I hq) (λfl s' hs=>?_) λe s' hs=>hs;have fin:∀{σ':St} {H':Hp} {v:V} {u:Value},Inv (BK CX P w K mg base N qual scope f cdv A outer s H E) [] σ' H' s'->RelV v u->Q v H'->CE outer P w H s Q u s' :=
  λ{σ' H' v u} J rv q=>⟨v,H',J.os,J.bare,J.base,J.hok,rv,q⟩
 cases fl with
 | ret u =>
  obtain⟨v,σ',H',J,rv,q⟩:=hs;exact fin J rv q
 | next =>
  obtain⟨σ',H',J,q⟩:=hs;exact fin (v:=V.non) (u:=Value.none) J rfl q
 | brk =>
  obtain⟨_,_,_,q⟩:=hs;exact False.elim q
 | cont =>
  obtain⟨_,_,_,q⟩:=hs;exact False.elim q
section
variable{X:Cx}{x:Str}{p pos:Pos}{e:Expr}{es:List Expr}{t:TA}{id T:String}{r:List V->Hp->VK->Prop}
def M6(r:List V->Hp->VK->Prop)(t:TA):TE:=λσ H Q=>t σ H λvs H1=>r vs H1 Q
theorem ww(hc:CallR X (.builtin id) r)(hg:Gl X x)(hm:X.mg x=none)(hv:bootBuiltins x=some (.builtin id))(ha:PA X (e::es) t)(hn:x ≠ "__name__" := by decide)(hdb:(x == ("__debug__" : Str))=false:=by decide)
  (he:starEach (e::es) X.env=(false,eval e X.env)::starEach es X.env:=by rfl) (hpl:(backTo pos (starEach es X.env)).any (·.1)=false:=by rfl):PE X (.Call (.Name x p) (e::es) [] pos) (M6 r t):=by
 intro pins s σ H Q I h;refine wpAny_Call_Name_kw (vy I hg hm hv ?_ hn hdb);exact PyProof.Rows.callWith_builtin1 (tz (ha pos pins s σ H _ I h) λus s1 ⟨vs,H1,I1,r1,q1⟩=>hc pins s1 σ H1 vs us Q I1 r1 q1) he hpl
theorem xb(hc:CallR X (.type T) r)(hg:Gl X x)(hm:X.mg x=none)(hv:bootBuiltins x=some (.type T))(ha:PA X (e::es) t)(hn:x ≠ "__name__" := by decide)(hdb:(x == ("__debug__" : Str))=false:=by decide)
  (he:starEach (e::es) X.env=(false,eval e X.env)::starEach es X.env:=by rfl) (hpl:(backTo pos (starEach es X.env)).any (·.1)=false:=by rfl):PE X (.Call (.Name x p) (e::es) [] pos) (M6 r t):=by
 intro pins s σ H Q I h;refine wpAny_Call_Name_kw (vy I hg hm hv ?_ hn hdb);exact PyProof.Rows.callWith_type1 (tz (ha pos pins s σ H _ I h) λus s1 ⟨vs,H1,I1,r1,q1⟩=>hc pins s1 σ H1 vs us Q I1 r1 q1) he hpl
end
end L2
namespace HT
open PySem PyProof.Rows
section
open PySem.SeqAt
open PySem.AutoSeq1 (wpAny_loadPart')
open PySem.MeetsSeq PySem.MeetsSeq2 PySem.MeetsSeq3
end
section
variable{prog:Program}{w:World}{A:Around}{E:Value->Shared->Prop}{s:Shared}
theorem HH(ht:IsTup s.heap t vs.toArray)(hb:IsTup s.heap b ws.toArray)(hv:vs≠[])
  (h1:ws=[]->Q (.ref t) s) (h2:ws≠[]->Q (.ref s.heap.objs.size) { s with heap:=s.heap.push { cls:=.type "tuple",data:=.seq (vs++ws).toArray } })
  (hsz:vs.length+ws.length<=sizeLine):wpAny (model prog w) A (binaryOp .Add (.ref t) (.ref b)) Q E s:=by
 obtain⟨⟨cls,dd,data,sl⟩,ho,hc,n,hd⟩:=id ht;obtain⟨⟨cls2,dd2,data2,sl2⟩,ho2,hc2,n2,hd2⟩:=id hb;simp only at hc hd hc2 hd2;subst hc hd hc2 hd2;have e:vs.toArray++ws.toArray=(vs++ws).toArray:=by simp
 by_cases hw:ws=[]
 ·exact concat_meets ⟨_,ho,rfl⟩ ⟨_,ho2,rfl⟩ noFill_tuple_add seq_tuple_add PySem.F.slot_tuple_add PySem.F.entry_tuple_add (PySem.F.args_tuple_add_2 _ _)
   (tuple_addW1 t b vs.toArray ws.toArray n n2 dd dd2 sl sl2 (by simpa using hv) (by simp[hw])) ⟨ho,ho2,h1 hw⟩
 ·refine concat_meets ⟨_,ho,rfl⟩ ⟨_,ho2,rfl⟩ noFill_tuple_add seq_tuple_add PySem.F.slot_tuple_add PySem.F.entry_tuple_add (PySem.F.args_tuple_add_2 _ _)
   (tuple_addW2 t b vs.toArray ws.toArray n n2 dd dd2 sl sl2 (by simpa using hv) (by simpa using hw) (by rw[ak,ak];exact hsz)) ⟨ho,ho2,?_⟩
  rw[e];exact h2 hw
def tO(n d:Nat):Option Int->Nat
 | none=>d
 | some v=>if v<0 then (v+(n:Int)).toNat else min v.toNat n
theorem wp(n d:Nat):tO n d none=d:=rfl
theorem xE(n d k:Nat):tO n d (some (k:Int))=min k n:=by
 show (if (k:Int)<0 then ((k:Int)+(n:Int)).toNat else min (k:Int).toNat n)=min k n;rw[if_neg (by omega),aB]
theorem I0(n d:Nat)(hd:d<=n)(o:Option Int):tO n d o<=n:=by
 cases o with
 | none=>exact hd
 | some v =>
  show (if v<0 then (v+(n:Int)).toNat else min v.toNat n)<=n;by_cases hv:v<0
  ·rw[if_pos hv];omega
  ·rw[if_neg hv];exact Nat.min_le_right _ _
theorem CO(v:Int)(n d:Nat):(if v<0 then max (v+(n:Int)) 0 else min v (n:Int))=((tO n d (some v):Nat):Int):=by
 show (if v<0 then max (v+(n:Int)) 0 else min v (n:Int))=(((if v<0 then (v+(n:Int)).toNat else min v.toNat n):Nat):Int);by_cases hv:v<0
 ·simp only[if_pos hv];omega
 ·simp only[if_neg hv];omega
theorem BS(lo hi:Option Int)(n:Nat):Builtin.Slice.sliceAdjust lo hi 1 (n:Int)=(((tO n 0 lo:Nat):Int),((tO n n hi:Nat):Int)):=by
 have h1:¬ ((1:Int)<0):=by omega
 unfold Builtin.Slice.sliceAdjust;simp only[h1,if_false];refine Prod.ext ?_ ?_
 ·cases lo with
  | none=>rfl
  | some v=>exact CO v n 0
 ·cases hi with
  | none=>rfl
  | some v=>exact CO v n n
theorem Be(i j:Nat):Builtin.Slice.slicePlaces (i:Int) (j:Int) 1=j-i:=by
 unfold Builtin.Slice.slicePlaces;have h1:(1:Int) > 0:=by omega
 simp only[h1,if_true,Int.ediv_one];split <;> omega
theorem uQ{v:Value}{o:Option Int}{Q:Option Int->Shared->Prop}(p:IsPart v o)(h:Q o s):wpAny (model prog w) A (Builtin.Slice.slicePartIndex v) Q E s:=by
 cases p with
 | none=>exact slicePart_none h
 | int i t=>exact slicePart_int h
theorem uG{sl:Addr}{vl vu:Value}{lo hi:Option Int}{n:Nat}{Q:Int×Int×Nat->Shared->Prop}(hs:s.heap.IsSliceOf sl vl vu .none)(pl:IsPart vl lo)(pu:IsPart vu hi)
  (h:Q (((tO n 0 lo:Nat):Int),1,tO n n hi-tO n 0 lo) s):wpAny (model prog w) A (Builtin.Slice.sliceApplied (.ref sl) (pure (n:Int))) Q E s:=by
 obtain⟨os,hos,hcs,hds⟩:=id hs;unfold Builtin.Slice.sliceApplied Builtin.Slice.sliceFields;refine ηB (ηB (wpAny_field hos hds (x:=vl) rfl (ηB (wpAny_field hos hds (x:=vu) rfl (ηB (wpAny_field hos hds (x:=.none) rfl (ηP ?_)))))));refine ηB (slicePart_none ?_);show wpAny _ _ (if ((1:Int) == 0)=true then _ else _) _ _ s;rw[if_neg (by decide)];refine ηB (uQ pl (ηB (uQ pu (ηB (ηP ?_)))));show wpAny _ _ (match Builtin.Slice.sliceAdjust lo hi 1 (n:Int) with|(lo,hi)=>pure (lo,(1:Int),Builtin.Slice.slicePlaces lo hi 1)) _ _ s;rw[BS lo hi n];show wpAny _ _ (pure (((tO n 0 lo:Nat):Int),(1:Int),Builtin.Slice.slicePlaces ((tO n 0 lo:Nat):Int) ((tO n n hi:Nat):Int) 1)) _ _ s;rw[Be];exact ηP h
theorem Ez(xs:Array Value)(i k:Nat):((List.range k).filterMap λ(m:Nat)=>xs[((i:Int)+(m:Int)*1).toNat]?).toArray=((xs.toList.drop i).take k).toArray:=by
 have e:(λ(m:Nat)=>xs[((i:Int)+(m:Int)*1).toNat]?)=λm=>xs[i+m]?:=by
  funext m;have:((i:Int)+(m:Int)*1).toNat=i+m:=by omega
  rw[this]
 rw[e];have:=pick_run xs i k;rw[List.filterMap_map] at this;have e2:((λx=>xs[x]?)∘λx=>i+x)=λm=>xs[i+m]?:=rfl;rw[e2] at this;rw[this]
theorem wF{t sl:Addr}{items:Array Value}{vl vu:Value}{lo hi:Option Int}{Q:Value->Shared->Prop}(ht:IsTup s.heap t items)(hs:s.heap.IsSliceOf sl vl vu .none)(pl:IsPart vl lo)(pu:IsPart vu hi)
  (hw:¬ (tO items.size 0 lo=0/\tO items.size items.size hi=items.size))
  (h:Q (.ref s.heap.objs.size) { s with heap:=s.heap.push { cls:=.type "tuple",data:=.seq ((items.toList.drop (tO items.size 0 lo)).take (tO items.size items.size hi-tO items.size 0 lo)).toArray } })
  (hsz:items.size<=sizeLine):wpAny (model prog w) A (getItem (.ref t) (.ref sl)) Q E s:=by
 have htake:sizeOk (.seq ((items.toList.drop (tO items.size 0 lo)).take (tO items.size items.size hi-tO items.size 0 lo)).toArray):=by
  show ((items.toList.drop (tO items.size 0 lo)).take (tO items.size items.size hi-tO items.size 0 lo)).toArray.size<=sizeLine;rw[ak,aM,bJ,dW];omega
 have hj:tO items.size items.size hi<=items.size:=I0 _ _ (aq _) hi;obtain⟨os,hos,hcs,hds⟩:=id hs;have hTs:s.TypeIs (.ref sl) "slice" := ⟨os,hos,hcs⟩;unfold getItem;try with_reducible refine wpAny_holding ?_
 first|refine ηB (ηP ?_)|skip
 refine ηB (wpAny_sequenceKey ht.typeIs (by decide) ?_);refine ηB (wpAny_callSpecial?_slot (name:=Str.ofString "__getitem__") ht.typeIs PyProof.Rows.slot_tuple_getitem
  (wpAny_call_entry PyProof.Rows.slot_tuple_getitem ht.typeIs entry_tuple_getitem ?_ (args_tuple_getitem _ _)))
 show wpAny _ _ (Builtin.Tuple.tupleItemsOf (.ref t) >>= _) _ _ s;refine ηB (tupleItemsOf_ ht ?_);refine ηB (wpAny_typeOf hTs ?_);rw[if_pos (by decide)];refine ηB (uG hs pl pu ?_);have hno:¬ ((((tO items.size 0 lo:Nat):Int) == 0 && (1:Int) == 1 && (tO items.size items.size hi-tO items.size 0 lo) == items.size)=true):=by
  intro q;rw[bh,bh] at q;have q1:((tO items.size 0 lo:Nat):Int)=0:=eq_of_beq q.1.1;have q2:tO items.size items.size hi-tO items.size 0 lo=items.size:=eq_of_beq q.2;exact hw ⟨by omega,by omega⟩
 show wpAny _ _ (if (((tO items.size 0 lo:Nat):Int) == 0 && (1:Int) == 1 && (tO items.size items.size hi-tO items.size 0 lo) == items.size)=true then _ else _) _ _ s;rw[if_neg hno,Ez];first
  | exact ηB (m:=Builtin.Tuple.tupleExact _) (wpAny_newObj_type (ηP ⟨_,rfl,ηP h⟩) htake)
  | exact ηB (m:=Builtin.Tuple.tupleExact _) (wpAny_newObj_type (ηB (ηP (ηP ⟨_,rfl,ηP h⟩))) htake)
  | exact ηB (ηB (m:=Builtin.Tuple.tupleExact _) (wpAny_newObj_type (ηP (ηP ⟨_,rfl,ηP h⟩)) htake))
  | exact ηB (ηB (m:=Builtin.Tuple.tupleExact _) (wpAny_newObj_type (ηP ⟨_,rfl,ηP h⟩) htake))
end
end HT
namespace L2
open PySem PySem.Spec PyProof.Rows
abbrev TO:=St->Hp->(Option Int->Hp->Prop)->Prop
def PO(X:Cx)(e:Option Expr)(t:TO):Prop :=
 ∀(pins:List (Addr×Obj)) (s:Shared) (σ:St) (H:Hp) (Q:Option Int->Hp->Prop),Inv X pins σ H s->t σ H Q ->
  wpAny (model X.prog X.w) X.A (evalPart e X.env) (λu s'=>∃ o H',Inv X pins σ H' s'/\IsPart u o/\Q o H') X.xe s
def Gr:TO:=λ_ H Q=>Q none H
def KO(t:TE):TO:=λσ H Q=>t σ H λx H1=>∃ i,x = .int i/\Q (some i) H1
section
variable{X:Cx}{e:Expr}{te:TE}{lo hi:Option Expr}{tl th:TO}{pos p2:Pos}
theorem po_none:PO X none Gr:=by
 intro pins s σ H Q I h;rw[evalPart_none];exact ηP ⟨none,H,I,.none,h⟩
theorem xH(h:PE X e te):PO X (some e) (KO te):=by
 intro pins s σ H Q I hw;rw[evalPart_some];refine tz (h pins s σ H _ I hw) λu s1 ⟨x,H1,I1,r1,q1⟩=>?_;obtain⟨i,rfl,q⟩:=q1;obtain⟨t,rfl⟩:=r1;exact⟨some i,H1,I1,.int i t,q⟩
def SlR(X:Cx)(r:V->Option Int->Option Int->Hp->VK->Prop):Prop :=
 ∀(pins:List (Addr×Obj)) (s:Shared) (σ:St) (H:Hp) (x:V) (v vl vu:Value) (lo hi:Option Int) (sl:Addr) (Q:VK),Inv X pins σ H s->RelV x v->s.heap.IsSliceOf sl vl vu .none->IsPart vl lo->IsPart vu hi->r x lo hi H Q ->
  ∃ T id,typeLookup (.type T) "__getitem__" = pure (some (.builtin id))/\s.TypeIs v T/\wpAny (model X.prog X.w) X.A (getItem v (.ref sl)) (EP X pins σ Q) X.xe s
theorem SlR.or(h:SlR X r)(h':SlR X r'):SlR X (λx lo hi H Q=>r x lo hi H Q\/r' x lo hi H Q):=by
 intro pins s σ H x v vl vu lo hi sl Q I rx hs pl pu q;rcases q with q|q
 ·exact h pins s σ H x v vl vu lo hi sl Q I rx hs pl pu q
 ·exact h' pins s σ H x v vl vu lo hi sl Q I rx hs pl pu q
def Op(r:V->Option Int->Option Int->Hp->VK->Prop)(te:TE)(tl th:TO):TE:=λσ H Q=>te σ H λx H1=>tl σ H1 λl H2=>th σ H2 λu H3=>r x l u H3 Q
theorem ED(hr:SlR X r)(he:PE X e te)(hl:PO X lo tl)(hu:PO X hi th):PE X (.Subscript e (.Slice lo hi none p2) pos) (Op r te tl th):=by
 intro pins s σ H Q I h;refine Subscript_ (tz (he pins s σ H _ I h) λv s1 ⟨x,H1,I1,r1,q1⟩=>?_);refine wpAny_Slice (tz (hl pins s1 σ H1 _ I1 q1) λvl s2 ⟨l,H2,I2,pl,q2⟩=>tz (hu pins s2 σ H2 _ I2 q2) λvu s3 ⟨u,H3,I3,pu,q3⟩=>?_);rw[evalPart_none];refine ηP ?_;have I4:Inv X pins σ H3 { s3 with heap:=s3.heap.push { cls:=.type "slice",data:=.fields #[vl,vu,.none] } }:=I3.kept (t':=s3.toks) λb ob q=>ηH _ q;obtain⟨T,id,hT,ht,hg⟩:=hr pins { s3 with heap:=s3.heap.push { cls:=.type "slice",data:=.fields #[vl,vu,.none] } } σ H3 x v vl vu l u s3.heap.objs.size Q I4 r1 (Heap.IsSliceOf.new ..) pl pu q3;show wpAny (model X.prog X.w) X.A (subscriptTail e (.Slice lo hi none p2) v (.ref s3.heap.objs.size)) (EP X pins σ Q) X.xe { s3 with heap:=s3.heap.push { cls:=.type "slice",data:=.fields #[vl,vu,.none] } };exact tail_any (ops:=[.ref s3.heap.objs.size,v]) ht hT hg (by with_unfolding_all rfl)
def AN(xs:List V)(lo hi:Option Int):List V:=(xs.drop (HT.tO xs.length 0 lo)).take (HT.tO xs.length xs.length hi-HT.tO xs.length 0 lo)
theorem xz(xs:List V)(lo hi:Option Int):(AN xs lo hi).length<=xs.length:=by
 unfold AN;rw[aM,bJ];omega
def Nd(K:Frag):V->Option Int->Option Int->Hp->VK->Prop:=λx lo hi H Q=>∃ a xs,x = .ref a/\SqT K H a xs /\
 ¬ (HT.tO xs.length 0 lo=0/\HT.tO xs.length xs.length hi=xs.length)/\∀ p,H p=none->Q (.ref p) (tJ H p (.tup (AN xs lo hi)))
theorem sl_tup:SlR X (Nd X.K):=by
 intro pins s σ H x v vl vu lo hi sl Q I rx hs pl pu h;obtain⟨a,xs,rfl,hx,hw,q⟩:=h;cases rx;obtain⟨its,r,ht,hz⟩:=I.tuple hx;have hlen:its.toArray.size=xs.length:=by rw[ak];exact r.length.symm
 refine⟨"tuple",_,PyProof.Rows.slot_tuple_getitem.lookup,ht.typeIs,?_⟩;refine HT.wF ht hs pl pu (by rw[hlen];exact hw) ?_ (by rw[hlen];exact hz);rw[hlen];refine⟨.ref s.heap.objs.size,_,I.laid (t':=s.toks) (o:=.tup (AN xs lo hi)) (λb ob q=>ηH _ q) (aq _) ?_,rfl,q _ (I.hok.fresh (aq _))⟩;exact⟨bq (xz xs lo hi) hz,_,(r.drop (HT.tO xs.length 0 lo)).take (HT.tO xs.length xs.length hi-HT.tO xs.length 0 lo),IsTup.new _ _⟩
def Lb(K:Frag):R2:=λx y H Q=>∃ a b xs ys,x = .ref a/\y = .ref b/\SqT K H a xs/\SqT K H b ys/\xs≠[]/\xs.length+ys.length<=sizeLine /\
 (ys=[]->Q (.ref a) H)/\(ys≠[]->∀ p,H p=none->Q (.ref p) (tJ H p (.tup (xs++ys))))
theorem Vals.nil_iff(r:Vals xs us):us=[]↔xs=[]:=by
 cases r with
 | nil=>simp
 | cons _ _=>simp
theorem GS:OpR X (binaryOp .Add) (Lb X.K):=by
 intro pins s σ H x y v u Q I rx ry h;obtain⟨a,b,xs,ys,rfl,rfl,ha,hb,hx,hz,q1,q2⟩:=h;cases rx;cases ry;obtain⟨its,r1,p1,_⟩:=I.tuple ha;obtain⟨its2,r2,p2,_⟩:=I.tuple hb;refine HT.HH p1 p2 (λz=>hx (r1.nil_iff.mp z)) (λz=>⟨.ref a,H,I,rfl,q1 (r2.nil_iff.mp z)⟩) (λz=>?_) (by rw[← r1.length,← r2.length];exact hz);refine⟨.ref s.heap.objs.size,_,I.laid (t':=s.toks) (o:=.tup (xs++ys)) (λb ob q=>ηH _ q) (aq _) ?_,rfl,q2 (λw=>z (r2.nil_iff.mpr w)) _ (I.hok.fresh (aq _))⟩;exact⟨by rw[ai];exact hz,_,r1.append r2,IsTup.new _ _⟩
end
def zI(n:Nat)(i:Int):Option Nat:=if 0<=i then (if i<n then some i.toNat else none) else if -(n:Int)<=i then some (i+n).toNat else none
def y9{α:Type}(xs:List α)(i:Int):Option α:=(zI xs.length i).bind λj=>xs[j]?
theorem Ct(h:zI n i=some j):seqIndex? i n=some j/\j<n /\ -(n:Int)<=i/\i<n:=by
 unfold zI at h;by_cases h0:0<=i
 ·rw[if_pos h0] at h;by_cases h1:i<n
  ·rw[if_pos h1] at h;have e:i.toNat=j:=Option.some.inj h;exact⟨by rw[seqIndex_of h0 h1,e],by omega,by omega,h1⟩
  ·rw[if_neg h1] at h;cases h
 ·rw[if_neg h0] at h;by_cases h1 : -(n:Int)<=i
  ·rw[if_pos h1] at h;have e:(i+n).toNat=j:=Option.some.inj h;exact⟨by rw[seqIndex_neg (by omega) h1,e],by omega,h1,by omega⟩
  ·rw[if_neg h1] at h;cases h
theorem Ab{α:Type}{xs:List α}{i:Int}{v:α}(h:y9 xs i=some v):∃ j,seqIndex? i xs.length=some j/\xs[j]? = some v/\j<xs.length /\ -(xs.length:Int)<=i/\i<xs.length:=by
 unfold y9 at h;cases e:zI xs.length i with
 | none=>rw[e] at h;cases h
 | some j =>
  rw[e] at h;obtain⟨h1,h2,h3,h4⟩:=Ct e;exact⟨j,h1,h,h2,h3,h4⟩
theorem CU{α:Type}{xs:List α}{j:Nat}{v:α}(h:xs[j]? = some v):y9 xs (j:Int)=some v:=by
 have hj:j<xs.length:=(af.mp h).1;have e:zI xs.length (j:Int)=some j:=by
  unfold zI;rw[if_pos (by omega),if_pos (by omega)];simp
 unfold y9;rw[e];exact h
def xL(b:Expr):Prop:=∀ o i,subscripted b false o i=operate [o,i] (getItem o i)
def IxR(X:Cx)(r:R2):Prop :=
 ∀(value slice:Expr) (pins:List (Addr×Obj)) (s:Shared) (σ:St) (H:Hp) (x y:V) (v u:Value) (Q:VK),Inv X pins σ H s->RelV x v->RelV y u->r x y H Q ->
  subscripted slice false v u=operate [v,u] (getItem v u)->wpAny (model X.prog X.w) X.A (subscriptTail value slice v u) (EP X pins σ Q) X.xe s
def Oe(X:Cx)(id:String)(r:V->List V->Hp->VK->Prop):Prop :=
 ∀(pins:List (Addr×Obj)) (s:Shared) (σ:St) (H:Hp) (x:V) (xs:List V) (v:Value) (us:List Value) (Q:VK),Inv X pins σ H s->RelV x v->Vals xs us->r x xs H Q ->
  wpAny (model X.prog X.w) X.A (call (.builtin id) (v::us)) (EP X pins σ Q) X.xe s
section
variable{X:Cx}{a b:Expr}{ta tb:TE}{pos:Pos}
theorem IxR.or(h:IxR X r)(h':IxR X r'):IxR X (λx y H Q=>r x y H Q\/r' x y H Q):=by
 intro value slice pins s σ H x y v u Q I rx ry q hs;rcases q with q|q
 ·exact h value slice pins s σ H x y v u Q I rx ry q hs
 ·exact h' value slice pins s σ H x y v u Q I rx ry q hs
theorem t7{r:R2}(hr:IxR X r)(ha:PE X a ta)(hb:PE X b tb)(hs:xL b):PE X (.Subscript a b pos) (KP r ta tb):=by
 intro pins s σ H Q I h;exact Subscript_ (Kk ha hb I h λv u s2 x y H2 I2 rx ry q=>hr a b pins s2 σ H2 x y v u Q I2 rx ry q (hs _ _))
def Jm(K:Frag):R2:=λx y H Q=>∃ p xs i v,x = .ref p/\y = .int i/\SqL K H p xs/\y9 xs i=some v/\Q v H
def K6(K:Frag):R2:=λx y H Q=>∃ p xs i v,x = .ref p/\y = .int i/\SqT K H p xs/\y9 xs i=some v/\Q v H
def K7:R2:=λx y H Q=>∃ z i c,x = .str z/\y = .int i/\z.length<=sizeLine/\y9 z.cps.toList i=some c/\Q (.str ⟨#[c]⟩) H
theorem ix_list:IxR X (Jm X.K):=by
 intro value slice pins s σ H x y v u Q I rx ry h hs;obtain⟨p,xs,i,z,rfl,rfl,hq,he,q⟩:=h;cases rx;obtain⟨t,rfl⟩:=ry;obtain⟨its,r,pl,hz⟩:=I.list hq;obtain⟨j,h1,h2,h3,h4,h5⟩:=Ab he;obtain⟨w,ew,rw'⟩:=r.get h2;have hl:=r.length;have hn:=t9;have fin:EP X pins σ Q w s:=⟨z,H,I,rw',q⟩;by_cases h0:0<=i
 ·have hj:i.toNat=j:=by
   rw[seqIndex_of h0 h5] at h1;exact Option.some.inj h1
  exact item_listR pl.isList h0 (by omega) (by rw[hj];simpa using ew) fin hs
 ·have hj:(i+(its.toArray.size:Int)).toNat=j:=by
   rw[seqIndex_neg (by omega) h4] at h1;rw[ak,← hl];exact Option.some.inj h1
  exact subscriptTail_builtinR (x:=w) pl.isList.typeIs slot_list_getitem.lookup
   (wpAny_getItem_list_neg (Q:=λr s'=>r=w/\EP X pins σ Q r s') pl.isList (by omega) (by rw[ak] <;> omega) (by omega) (by rw[hj];simpa using ew) ⟨rfl,fin⟩) hs
theorem ix_tup:IxR X (K6 X.K):=by
 intro value slice pins s σ H x y v u Q I rx ry h hs;obtain⟨p,xs,i,z,rfl,rfl,hq,he,q⟩:=h;cases rx;obtain⟨t,rfl⟩:=ry;obtain⟨its,r,pl,hz⟩:=I.tuple hq;obtain⟨j,h1,h2,h3,h4,h5⟩:=Ab he;obtain⟨w,ew,rw'⟩:=r.get h2;have hl:=r.length;have hn:=t9;have fin:EP X pins σ Q w s:=⟨z,H,I,rw',q⟩;exact subscriptTail_builtinR (x:=w) pl.typeIs slot_tuple_getitem.lookup
  (getItem_tuple (j:=j) (Q:=λr s'=>r=w/\EP X pins σ Q r s') pl (by omega) (by omega) (by rw[ak,← hl];exact h1) (by simpa using ew) ⟨rfl,fin⟩) hs
theorem JV:IxR X K7:=by
 intro value slice pins s σ H x y v u Q I rx ry h hs;obtain⟨z,i,c,rfl,rfl,hz,he,q⟩:=h;obtain⟨t,rfl⟩:=rx;obtain⟨t',rfl⟩:=ry;obtain⟨j,h1,h2,h3,h4,h5⟩:=Ab he;have hl:z.cps.toList.length=z.length:=by simp[Str.length]
 rw[hl] at h1 h4 h5;have hn:=t9;exact tail_any (typeIs_str s z t) slot_str_getitem.lookup (getItem_str (c:=c) (by
  have e1:decide (i < -(2^63:Int))=false:=decide_eq_false (by omega);have e2:decide (i ≥ 2^63)=false:=decide_eq_false (by omega);rw[e1,e2,Bool.or_false]) (by rw[h1];simpa using h2) ⟨.str ⟨#[c]⟩,H,I.tok _,⟨_,rfl⟩,q⟩) hs
def N2(K:Frag):R2:=λx y H Q=>Jm K x y H Q\/K6 K x y H Q\/K7 x y H Q
theorem ix_seq:IxR X (N2 X.K):=ix_list.or (ix_tup.or JV)
theorem Bp(its:List Value)(n j:Nat)(u:Value):Obj.mapSeq (·.setIfInBounds j u) { cls:=.type "list",data:=.seq its.toArray n } = { cls:=.type "list",data:=.seq (its.set j u).toArray n }:=by
 simp[Obj.mapSeq]
theorem Inv.lst{pins:List (Addr×Obj)}{σ:St}{H:Hp}{s:Shared}{p:Addr}{xs:List V}(I:Inv X pins σ H s)(h:H p=some (.lst xs)) :
  ∃(its:List Value) (n:Nat),Vals xs its/\s.heap.get? p=some { cls:=.type "list",data:=.seq its.toArray n }/\xs.length<=sizeLine:=by
 obtain⟨z,its,n,r,e⟩:=I.hok p _ h;exact⟨its,n,r,e,z⟩
theorem Inv.lstUpd{pins:List (Addr×Obj)}{σ:St}{H:Hp}{s:Shared}{p:Addr}{xs ys:List V}{its its':List Value}{n n':Nat}{f:Obj->Obj}(I:Inv X pins σ H s)(h:H p=some (.lst xs))
  (ho:s.heap.get? p=some { cls:=.type "list",data:=.seq its.toArray n }) (hf:f { cls:=.type "list",data:=.seq its.toArray n } = { cls:=.type "list",data:=.seq its'.toArray n' }) (r:Vals ys its') (hz:ys.length<=sizeLine) (t:Nat) :
  Inv X pins σ (tJ H p (.lst ys)) { s with heap:=s.heap.update p f,toks:=t }:=by
 have e:(s.heap.update p f).get? p=some { cls:=.type "list",data:=.seq its'.toArray n' }:=by
  rw[Heap.get?_update_self f ho (by rw[hf] <;> rfl),hf]
 refine I.write (x:=p) (e:=p) (by rw[h];trivial) (.inl rfl) (λb u hb q=>(Heap.get?_update_other _ _ (Ne.symm hb)).trans q) ⟨_,e⟩ ?_;exact⟨hz,its',n',r,e⟩
def HY:V->V->V->Hp->(Hp->Prop)->Prop:=λo i v H Q=>∃ p xs k j,o = .ref p/\i = .int k/\H p=some (.lst xs)/\zI xs.length k=some j/\Q (tJ H p (.lst (xs.set j v)))
theorem ui:Kt X HY:=by
 intro pins s σ H o i v ov iv u Q I ro ri rv h;obtain⟨p,xs,k,j,rfl,rfl,hp,hj,q⟩:=h;cases ro;obtain⟨t,rfl⟩:=ri;obtain⟨its,n,r,ho,hz⟩:=I.lst hp;obtain⟨h1,h2,h3,h4⟩:=Ct hj;have hl:=r.length;have hn:=t9;have I':Inv X pins σ (tJ H p (.lst (xs.set j v))) { s with heap:=s.heap.update p (Obj.mapSeq (·.setIfInBounds j u)) } :=
  I.lstUpd hp ho (Bp its n j u) (r.set rv j) (by rw[bj];exact hz) s.toks
 by_cases h0:0<=k
 ·have hk:k.toNat=j:=by
   rw[seqIndex_of h0 h4] at h1;exact Option.some.inj h1
  exact PySem.W.ki_setAt ho h0 (by omega) (by rw[ak,← hl];exact h4) (by rw[hk];exact⟨_,I',q⟩)
 ·have hk:(k+(its.toArray.size:Int)).toNat=j:=by
   rw[seqIndex_neg (by omega) h3] at h1;rw[ak,← hl];exact Option.some.inj h1
  exact PySem.W.ki_setBack ho (by omega) (by rw[ak,← hl];exact h3) (by omega) (by rw[hk];exact⟨_,I',q⟩)
theorem zj(lo hi:Option Int)(n:Nat):(sliceBounds lo hi none n).1=((HT.tO n 0 lo:Nat):Int)/\(sliceBounds lo hi none n).2.1=((HT.tO n n hi:Nat):Int)/\(sliceBounds lo hi none n).2.2=1:=by
 refine⟨?_,?_,rfl⟩
 ·cases lo with
  | none=>simp[sliceBounds,HT.tO]
  | some i =>
   simp only[sliceBounds,HT.tO,fE,show (1:Int) > 0 by decide,if_true];by_cases h:i<0
   ·simp only[h,if_true] <;> omega
   ·simp only[h,if_false] <;> omega
 ·cases hi with
  | none=>simp[sliceBounds,HT.tO]
  | some i =>
   simp only[sliceBounds,HT.tO,fE,show (1:Int) > 0 by decide,if_true];by_cases h:i<0
   ·simp only[h,if_true] <;> omega
   ·simp only[h,if_false] <;> omega
theorem yx(its:List Value)(lo hi:Option Int):slicePick its.toArray lo hi none=((its.drop (HT.tO its.length 0 lo)).take (HT.tO its.length its.length hi-HT.tO its.length 0 lo)).toArray:=by
 obtain⟨h1,h2,h3⟩:=zj lo hi its.toArray.size;unfold slicePick;rw[h1,h2,h3];simp only[sliceRange_one,pick_run,ak] <;> rfl
def Nf(K:Frag):V->Option Int->Option Int->Hp->VK->Prop:=λx lo hi H Q=>∃ a xs,x = .ref a/\SqL K H a xs/\∀ p,H p=none->Q (.ref p) (tJ H p (.lst (AN xs lo hi)))
theorem sl_list:SlR X (Nf X.K):=by
 intro pins s σ H x v vl vu lo hi sl Q I rx hs pl pu h;obtain⟨a,xs,rfl,hx,q⟩:=h;cases rx;obtain⟨its,r,ht,hz⟩:=I.list hx;have hlen:=r.length;refine⟨"list",_,slot_list_getitem.lookup,ht.isList.typeIs,?_⟩;refine wpAny_getItem_list_slice ht.isList hs pl pu .none (by simp) ?_ (by rw[ak] <;> omega);rw[yx,← hlen];refine⟨.ref s.heap.objs.size,_,I.laid (t':=s.toks) (o:=.lst (AN xs lo hi)) (λb ob q=>ηH _ q) (aq _) ?_,rfl,q _ (I.hok.fresh (aq _))⟩;exact⟨bq (xz xs lo hi) hz,_,0,(r.drop (HT.tO xs.length 0 lo)).take (HT.tO xs.length xs.length hi-HT.tO xs.length 0 lo),ηG _ rfl⟩
def vR:V->Bool
 | .non=>true
 | .bl _=>true
 | .int _=>true
 | .str _=>true
 | _=>false
def Iz:V->V->Bool
 | .non,.non=>true
 | .bl a,.bl b=>a == b
 | .bl a,.int b=>(if a then 1 else 0) == b
 | .int a,.bl b=>a == (if b then 1 else 0)
 | .int a,.int b=>a == b
 | .str a,.str b=>a == b
 | _,_=>false
theorem J8(ry:RelV y u)(rx:RelV x v)(fy:vR y=true)(fx:vR x=true):SeqAt.EqAt A s u v (Iz y x):=by
 cases y with
 | non =>
  cases ry;cases x with
  | non=>cases rx;exact SeqAt.EqAt.same _
  | bl b=>cases rx;exact SeqAt.EqAt.none_bool b
  | int b=>obtain⟨t,rfl⟩:=rx;exact SeqAt.EqAt.none_int b t
  | str b=>obtain⟨t,rfl⟩:=rx;exact SeqAt.EqAt.none_str b t
  | _=>exact absurd (show false=true from fx) aA
 | bl a =>
  cases ry;cases x with
  | non=>cases rx;exact SeqAt.EqAt.bool_none a
  | bl b=>cases rx;exact SeqAt.EqAt.bool_bool a b
  | int b=>obtain⟨t,rfl⟩:=rx;exact SeqAt.EqAt.bool_int a b t
  | str b=>obtain⟨t,rfl⟩:=rx;exact SeqAt.EqAt.bool_str a b t
  | _=>exact absurd (show false=true from fx) aA
 | int a =>
  obtain⟨t',rfl⟩:=ry;cases x with
  | non=>cases rx;exact SeqAt.EqAt.int_none a t'
  | bl b=>cases rx;exact SeqAt.EqAt.int_bool a t' b
  | int b=>obtain⟨t,rfl⟩:=rx;exact SeqAt.EqAt.int_int a t' b t
  | str b=>obtain⟨t,rfl⟩:=rx;exact SeqAt.EqAt.int_str a t' b t
  | _=>exact absurd (show false=true from fx) aA
 | str a =>
  obtain⟨t',rfl⟩:=ry;cases x with
  | non=>cases rx;exact SeqAt.EqAt.str_none a t'
  | bl b=>cases rx;exact SeqAt.EqAt.str_bool a t' b
  | int b=>obtain⟨t,rfl⟩:=rx;exact SeqAt.EqAt.str_int a t' b t
  | str b=>obtain⟨t,rfl⟩:=rx;exact SeqAt.EqAt.str_str a t' b t
  | _=>exact absurd (show false=true from fx) aA
 | _=>exact absurd (show false=true from fy) aA
def BE(x:V)(u:Value):Bool:=match u with
 | .none=>Iz .non x
 | .bool b=>Iz (.bl b) x
 | .int i _=>Iz (.int i) x
 | .str z _=>Iz (.str z) x
 | _=>false
theorem Fp(r:RelV y u)(f:vR y=true):BE x u=Iz y x:=by
 cases y with
 | non=>cases r;rfl
 | bl b=>cases r;rfl
 | int i=>obtain⟨t,rfl⟩:=r;rfl
 | str z=>obtain⟨t,rfl⟩:=r;rfl
 | _=>exact absurd (show false=true from f) aA
theorem wM:∀{xs:List V} {us:List Value},Vals xs us->xs.all vR=true->us.any (BE x)=xs.any λy=>Iz y x
 | _,_,.nil,_=>rfl
 | y::xs,u::us,.cons r t,f=>by
  rw[dA,bh] at f;rw[dw,dw,Fp r f.1,wM t f.2]
theorem vw(rx:RelV x v)(fx:vR x=true):∀{xs:List V} {us:List Value},Vals xs us->xs.all vR=true->∀ u∈us,SeqAt.EqAt A s u v (BE x u)
 | _,_,.nil,_=>λu hu=>by cases hu
 | y::xs,u::us,.cons r t,f=>λu' hu=>by
  rw[dA,bh] at f;rcases ao.mp hu with rfl|hu
  ·rw[Fp r f.1];exact J8 r rx f.1 fx
  ·exact vw rx fx t f.2 u' hu
def KB(x:V)(xs:List V):Bool:=xs.any λy=>Iz y x
def Ni(K:Frag)(neg:Bool):R2:=λx y H Q=>∃ p xs,y = .ref p/\(SqL K H p xs\/SqT K H p xs)/\vR x=true/\xs.all vR=true/\Q (.bl (if neg then !KB x xs else KB x xs)) H
theorem Di:OpR X (compareOp .In) (Ni X.K false):=by
 intro pins s σ H x y v u Q I rx ry h;obtain⟨p,xs,rfl,hq,fx,fs,q⟩:=h;cases ry;rcases hq with hq|hq
 ·obtain⟨its,r,pl,hz⟩:=I.list hq;refine SeqAt.in_listAt (BE x) pl.isList (λw hw=>vw rx fx r fs w (by simpa using hw)) ⟨.bl _,H,I,rfl,?_⟩;rw[show its.toArray.any (BE x)=its.any (BE x) by simp,wM r fs];exact q
 ·obtain⟨its,r,pl,hz⟩:=I.tuple hq;refine SeqAt.in_tupleAt (BE x) pl (λw hw=>vw rx fx r fs w (by simpa using hw)) ⟨.bl _,H,I,rfl,?_⟩;rw[show its.toArray.any (BE x)=its.any (BE x) by simp,wM r fs];exact q
theorem zw:OpR X (compareOp .NotIn) (Ni X.K true):=by
 intro pins s σ H x y v u Q I rx ry h;obtain⟨p,xs,rfl,hq,fx,fs,q⟩:=h;cases ry;rcases hq with hq|hq
 ·obtain⟨its,r,pl,hz⟩:=I.list hq;refine SeqAt.notIn_listAt (BE x) pl.isList (λw hw=>vw rx fx r fs w (by simpa using hw)) ⟨.bl _,H,I,rfl,?_⟩;rw[show its.toArray.any (BE x)=its.any (BE x) by simp,wM r fs];exact q
 ·obtain⟨its,r,pl,hz⟩:=I.tuple hq;refine SeqAt.notIn_tupleAt (BE x) pl (λw hw=>vw rx fx r fs w (by simpa using hw)) ⟨.bl _,H,I,rfl,?_⟩;rw[show its.toArray.any (BE x)=its.any (BE x) by simp,wM r fs];exact q
theorem z6:CallR X (.builtin "len") (λxs H Q=>∃ p ys,xs=[.ref p]/\(SqL X.K H p ys\/SqT X.K H p ys)/\Q (.int ys.length) H):=by
 intro pins s σ H xs us Q I r h;obtain⟨p,ys,rfl,hq,q⟩:=h;obtain⟨u,rfl,rx⟩:=xO r;cases rx;have hn:=t9;rcases hq with hq|hq
 ·obtain⟨its,r',pl,hz⟩:=I.list hq;have hlen:=r'.length;exact Calls.call_len_list pl.isList (by simp only[ak] <;> omega) ⟨.int ys.length,H,I.tok _,⟨s.toks+1,by rw[ak,hlen]⟩,q⟩
 ·obtain⟨its,r',pl,hz⟩:=I.tuple hq;have hlen:=r'.length;exact len_tuple pl (by simp only[ak] <;> omega) ⟨.int ys.length,H,I.tok _,⟨s.toks+1,by rw[ak,hlen]⟩,q⟩
theorem zZ:CallR X (.builtin "len") (λxs H Q=>∃ z,xs=[.str z]/\z.length<=sizeLine/\Q (.int z.length) H):=by
 intro pins s σ H xs us Q I r h;obtain⟨z,rfl,hz,q⟩:=h;obtain⟨u,rfl,t,rfl⟩:=xO r;have hn:=t9;exact len_str (by omega) ⟨.int z.length,H,I.tok _,⟨_,rfl⟩,q⟩
theorem zY:CallR X (.type "list") (λxs H Q=>∃ p ys,xs=[.ref p]/\(SqL X.K H p ys\/SqT X.K H p ys)/\∀ l,H l=none->Q (.ref l) (tJ H l (.lst ys))):=by
 intro pins s σ H xs us Q I r h;obtain⟨p,ys,rfl,hq,q⟩:=h;obtain⟨u,rfl,rx⟩:=xO r;cases rx;have fin:∀(its:List Value),Vals ys its->ys.length<=sizeLine->∀(h':Heap) (c':Nat),(∀ b o',s.heap.get? b=some o'->h'.get? b=some o') ->
   h'.get? s.heap.objs.size=some { cls:=.type "list",dict:=none,data:=.seq its.toArray c',slots:=#[] }->EP X pins σ Q (.ref s.heap.objs.size) { s with heap:=h' }:=λits r' hz h' c' kp e =>
  ⟨.ref s.heap.objs.size,_,I.laid (t':=s.toks) kp (aq _) (show ObjOk X.prog X.w _ h' _ (.lst ys) from⟨hz,its,c',r',e⟩),rfl,q _ (I.hok.fresh (aq _))⟩
 rcases hq with hq|hq
 ·obtain⟨its,r',pl,hz⟩:=I.list hq;have hlen:=r'.length;obtain⟨o,ho,hc,n,hd⟩:=pl.isList;exact call_list_seq p (.inl rfl) ho hc hd (λh' c' kp e=>fin its r' hz h' c' kp e) (by simp only[ak] <;> omega)
 ·obtain⟨its,r',pl,hz⟩:=I.tuple hq;have hlen:=r'.length;obtain⟨o,ho,hc,n,hd⟩:=pl;exact call_list_seq p (.inr rfl) ho hc hd (λh' c' kp e=>fin its r' hz h' c' kp e) (by simp only[ak] <;> omega)
theorem yA:CallR X (.type "tuple") (λxs H Q=>∃ p ys,xs=[.ref p]/\((SqL X.K H p ys/\∀ l,H l=none->Q (.ref l) (tJ H l (.tup ys)))\/(SqT X.K H p ys/\Q (.ref p) H))):=by
 intro pins s σ H xs us Q I r h;obtain⟨p,ys,rfl,h⟩:=h;obtain⟨u,rfl,rx⟩:=xO r;cases rx;rcases h with⟨hq,q⟩|⟨hq,q⟩
 ·obtain⟨its,r',pl,hz⟩:=I.list hq;have hlen:=r'.length;refine call_tuple_list pl.isList (λh' kp=>?_) (by simp only[ak] <;> omega);have I1:Inv X pins σ H { s with heap:=h' }:=I.kept (t':=s.toks) kp;have I2:Inv X pins σ (tJ H h'.objs.size (.tup ys)) { s with heap:=h'.push { cls:=.type "tuple",data:=.seq its.toArray } } :=
   I1.laid (t':=s.toks) (λb o e=>ηH _ e) (aq _) (show ObjOk X.prog X.w _ _ _ (.tup ys) from⟨hz,its,r',IsTup.new _ _⟩)
  exact⟨.ref h'.objs.size,_,I2,rfl,q _ (I1.hok.fresh (aq _))⟩
 ·obtain⟨its,r',pl,hz⟩:=I.tuple hq;exact call_tuple_same pl ⟨.ref p,H,I,rfl,q⟩
def MS(K:Frag)(T:String)(x:V)(H:Hp):Prop:=match x with
 | .str _=>T = "str"
 | .int _=>T = "int"
 | .ref p=>(T = "list" /\ ∃ xs,SqL K H p xs)\/(T = "tuple" /\ ∃ o,K.lookup p=some o/\o.cls = .type "tuple" /\ o.dict=none) \/
   (T = "dict" /\ ((∃ kvs,H p=some (.dK kvs))\/∃ kvs,H p=some (.dT kvs)))\/(T = "set" /\ ∃ S n,H p=some (.set S n))
 | _=>False
theorem DO(I:Inv X pins σ H s)(r:RelV x v)(ty:MS X.K T x H) :
  s.TypeIs v T/\∀ a,v = .ref a->∃ ob,s.heap.get? a=some ob/\ob.dict=none:=by
 cases x with
 | str z =>
  obtain⟨t,rfl⟩:=r;cases (show T = "str" from ty);exact⟨typeIs_str s z t,λ_ e=>nomatch e⟩
 | int i =>
  obtain⟨t,rfl⟩:=r;cases (show T = "int" from ty);exact⟨typeIs_int s i t,λ_ e=>nomatch e⟩
 | ref p =>
  cases r;rcases ty with⟨rfl,xs,hq⟩|⟨rfl,o,hk,hc,hd⟩|⟨rfl,hk⟩|⟨rfl,S,n,hk⟩
  ·obtain⟨its,_,pl,_⟩:=I.list hq;refine⟨pl.isList.typeIs,λa e=>?_⟩;cases e;obtain⟨o,n,e,c,hd,_⟩:=pl;exact⟨o,e,hd⟩
  ·refine⟨⟨o,I.kIn p o hk,hc⟩,λa e=>?_⟩;cases e;exact⟨o,I.kIn _ o hk,hd⟩
  ·have z:∃ o,s.heap.get? p=some o/\o.ExactDict:=by
    rcases hk with⟨kvs,hk⟩|⟨kvs,hk⟩
    ·obtain⟨_,_,_,_,o,_,_,e,ex,_⟩:=I.hok p _ hk;exact⟨o,e,ex⟩
    ·obtain⟨_,_,_,_,o,_,_,e,ex,_⟩:=I.hok p _ hk;exact⟨o,e,ex⟩
   obtain⟨o,e,ex⟩:=z;refine⟨⟨o,e,ex.1⟩,λa e2=>?_⟩;cases e2;exact⟨o,e,ex.2.1⟩
  ·obtain⟨o,_,_,_,e,ex,_⟩:=I.hok p _ hk;refine⟨⟨o,e,ex.1⟩,λa e2=>?_⟩;cases e2;exact⟨o,e,ex.2.1⟩
 | _=>exact False.elim ty
def M7(K:Frag)(T:String)(r:V->List V->Hp->VK->Prop)(to:TE):TE:=λσ H Q=>to σ H λx H1=>MS K T x H1/\r x [] H1 Q
def Ot(K:Frag)(T:String)(r:V->List V->Hp->VK->Prop)(to:TE)(t:TA):TE:=λσ H Q=>to σ H λx H1=>MS K T x H1/\t σ H1 λxs H2=>r x xs H2 Q
variable{o e:Expr}{es:List Expr}{to:TE}{t:TA}{name:Str}{apos cpos:Pos}{T id:String}{r:V->List V->Hp->VK->Prop}
theorem EG(pa:PlainAttrs T)(slot:Slot T name id)(hty:typeOf (.builtin id)=pure (.type "method_descriptor"))(hm:Oe X id r)(ho:PE X o to)
  (hbase:attributeBase o name X.env (eval o X.env)=eval o X.env:=by rfl) (hline:(apos.endLine == cpos.line)=true:=by rfl):PE X (.Call (.Attribute o name apos) [] [] cpos) (M7 X.K T r to):=by
 intro pins s σ H Q I h;refine wpAny_Call_method0_late hbase hline (tz (ho pins s σ H _ I h) λv s1 ⟨x,H1,I1,r1,ty,q1⟩=>?_);obtain⟨h1,h2⟩:=DO I1 r1 ty;exact⟨T,id,pa,slot,hty,h1,h2,Calls.callWith_builtin rfl (PySem.evalArgs_none (hm pins s1 σ H1 x [] v [] Q I1 r1 .nil q1))⟩
theorem Ax(pa:PlainAttrs T)(slot:Slot T name id)(hty:typeOf (.builtin id)=pure (.type "method_descriptor"))(hm:Oe X id r)(ho:PE X o to)(ha:PA X (e::es) t)
  (hbase:attributeBase o name X.env (eval o X.env)=eval o X.env:=by rfl)
  (hfew:((backTo cpos (starEach (e::es) X.env)).all (λx => !x.1) && (backToKw cpos (keywordEach [] X.env)).all (λx=>x.1.isSome)
   && decide ((e::es).length+([]:List Keyword).length+(if ([]:List Keyword).isEmpty then 0 else 1)<30))=true:=by rfl)
  (hline:(apos.endLine == cpos.line)=true:=by rfl) (hs:starEach (e::es) X.env=(false,eval e X.env)::starEach es X.env:=by rfl) (hplain:(backTo cpos (starEach es X.env)).any (·.1)=false:=by rfl) :
  PE X (.Call (.Attribute o name apos) (e::es) [] cpos) (Ot X.K T r to t):=by
 intro pins s σ H Q I h;refine wpAny_Call_method_late hbase hfew hline rfl (tz (ho pins s σ H _ I h) λv s1 ⟨x,H1,I1,r1,ty,q1⟩=>?_);obtain⟨h1,h2⟩:=DO I1 r1 ty;refine⟨T,id,pa,slot,hty,h1,h2,?_⟩;have hA:=ha cpos pins s1 σ H1 _ I1 q1;rw[hs] at hA ⊢;refine Calls.callWith_builtin (by show (false || (backTo cpos (starEach es X.env)).any (·.1))=false;rw[hplain] <;> rfl) (Calls.evalArgs_plain ?_);exact tz hA λus s2 ⟨vs,H2,I2,r2,q2⟩=>hm pins s2 σ H2 x vs v us Q I2 r1 r2 q2
end
def MG(X:Cx)(id:String)(r:V->List V->Hp->VK->Prop):Prop :=
 ∀(pins:List (Addr×Obj)) (s:Shared) (σ:St) (H:Hp) (x:V) (xs:List V) (v:Value) (us:List Value) (Q:VK),Inv X pins σ H s->RelV x v->Vals xs us->r x xs H Q ->
  wpAny (model X.prog X.w) X.A (call (.builtin id) (v::us)) (EP X pins σ Q) X.xe s
theorem Vals.uncons(h:Vals (x::xs) us):∃ u r,us=u::r/\RelV x u/\Vals xs r:=by
 cases h with
 | cons r t=>exact⟨_,_,rfl,r,t⟩
theorem Vals.unnil(h:Vals [] us):us=[]:=by
 cases h;rfl
theorem Vals.one(h:Vals [x] us):∃ u,us=[u]/\RelV x u:=by
 obtain⟨u,r,rfl,h1,h⟩:=h.uncons;rw[h.unnil];exact⟨u,rfl,h1⟩
theorem Vals.two(h:Vals [x,y] us):∃ u v,us=[u,v]/\RelV x u/\RelV y v:=by
 obtain⟨u,r,rfl,h1,h⟩:=h.uncons;obtain⟨v,rfl,h2⟩:=h.one;exact⟨u,v,rfl,h1,h2⟩
theorem Vals.zero:∀{us:List Value},Vals [] us->us=[]
 | _,.nil=>rfl
theorem Vals.dropLast(h:Vals xs us):Vals xs.dropLast us.dropLast:=by
 induction h with
 | nil=>exact .nil
 | cons r t ih =>
  cases t with
  | nil=>exact .nil
  | cons q t'=>exact .cons r ih
theorem Vals.eraseIdx:∀{xs:List V} {us:List Value} (i:Nat),Vals xs us->Vals (xs.eraseIdx i) (us.eraseIdx i)
 | _,_,_,.nil=>.nil
 | _,_,0,.cons _ t=>t
 | _,_,i+1,.cons r t=>.cons r (Vals.eraseIdx i t)
theorem Vals.reverse(h:Vals xs us):Vals xs.reverse us.reverse:=by
 induction h with
 | nil=>exact .nil
 | cons r t ih=>rw[cJ,cJ];exact Vals.append ih (.cons r .nil)
theorem Vals.rep(h:Vals xs us):∀ k:Nat,Vals (List.replicate k xs).flatten (List.replicate k us).flatten
 | 0=>.nil
 | k+1=>by
  rw[bF,bF,ca,ca];exact Vals.append h (Vals.rep h k)
theorem Bz{α:Type}(l:List α):l.eraseIdx (l.length-1)=l.dropLast:=by
 induction l with
 | nil=>rfl
 | cons a r ih =>
  cases r with
  | nil=>rfl
  | cons b r =>
   have e:(a::b::r).length-1=((b::r).length-1)+1:=by
    have h1:(a::b::r).length=r.length+2:=rfl;have h2:(b::r).length=r.length+1:=rfl;omega
   rw[e,List.eraseIdx_cons_succ,ih];all_goals rfl
theorem yR{α:Type}:∀(l:List α) (i:Nat),(l.eraseIdx i).length<=l.length
 | [],_=>aq _
 | _::_,0=>Nat.le_succ _
 | _::r,i+1=>Nat.succ_le_succ (yR r i)
theorem xh(its:List Value):∀(k:Nat) (acc:List Value),
  List.foldl (λx1 x2=>x1++x2) acc.toArray (List.replicate k its.toArray)=(acc++(List.replicate k its).flatten).toArray
 | 0,acc=>by simp
 | k+1,acc=>by
  have e:acc.toArray++its.toArray=(acc++its).toArray:=by simp
  have e2:(acc++its)++(List.replicate k its).flatten=acc++(List.replicate (k+1) its).flatten:=by
   rw[bF,ca,dq]
  rw[← e2,← xh its k (acc++its),← e,bF,List.foldl_cons]
section
variable{X:Cx}{pins:List (Addr×Obj)}{σ:St}{H:Hp}{s:Shared}{l b:Addr}{xs ys zs:List V}
theorem Inv.lset{its its':List Value}{n:Nat}{f:Array Value->Array Value}{t':Nat}(I:Inv X pins σ H s)(hH:H l=some (.lst xs))
  (e:s.heap.get? l=some { cls:=.type "list",data:=.seq its.toArray n }) (hf:f its.toArray=its'.toArray) (hv:Vals ys its') (hz:ys.length<=sizeLine) :
  Inv X pins σ (tJ H l (.lst ys)) { s with heap:=s.heap.update l (Obj.mapSeq f),toks:=t' }:=by
 have q:=PySem.IsL.update e f;rw[hf] at q;refine I.write (x:=l) (e:=l) (by rw[hH];exact trivial) (.inl rfl) (λb' u hb hu=>(Heap.get?_update_other s.heap (Obj.mapSeq f) (Ne.symm hb)).trans hu) ⟨_,q⟩ ?_;exact⟨hz,its',_,hv,q⟩
theorem Inv.lnew(I:Inv X pins σ H s)(hv:Vals ys its)(hz:ys.length<=sizeLine) :
  Inv X pins σ (tJ H s.heap.objs.size (.lst ys)) { s with heap:=s.heap.push { cls:=.type "list",data:=.seq its.toArray },toks:=t' } :=
 I.laid (λ_ _ q=>ηH _ q) (aq _) ⟨hz,its,0,hv,ηG _ rfl⟩
theorem Inv.fresh(I:Inv X pins σ H s):H s.heap.objs.size=none:=I.hok.fresh (aq _)
theorem Inv.lstM(I:Inv X pins σ H s)(hH:H l=some (.lst xs)):xs.length<=sizeLine/\∃(its:List Value) (n:Nat),Vals xs its/\xs.length=its.length/\s.heap.get? l=some { cls:=.type "list",data:=.seq its.toArray n }:=by
 obtain⟨z,its,n,r,e⟩:=I.hok l _ hH;exact⟨z,its,n,r,r.length,e⟩
theorem EU(h:n<=sizeLine):Builtin.List.listTooLong n=false:=by
 unfold Builtin.List.listTooLong;exact decide_eq_false (by omega)
end
section
variable{X:Cx}
def GB:V->List V->Hp->VK->Prop:=λx vs H Q=>∃ l xs y,x = .ref l/\vs=[y]/\H l=some (.lst xs)/\xs.length<sizeLine/\Q .non (tJ H l (.lst (xs++[y])))
theorem yQ:MG X "list.append" GB:=by
 intro pins s σ H x vs v us Q I rx rv h;obtain⟨l,xs,y,rfl,rfl,hH,hz,q⟩:=h;cases rx;obtain⟨u,rfl,ru⟩:=rv.one;obtain⟨z,its,n,r,hl,e⟩:=I.lstM hH;refine call_meets F.slot_list_append ⟨_,e,rfl⟩ F.entry_list_append (F.args_list_append_2 _ _) (PySem.list_append l its.toArray n u (by rw[ak];omega)) ⟨e,?_⟩;refine⟨.non,_,I.lset (its':=its++[u]) hH e (by simp) (r.append (.cons ru .nil)) ?_,rfl,q⟩;rw[ai,bW];omega
def Nh:V->List V->Hp->VK->Prop:=λx vs H Q=>∃ l xs y,x = .ref l/\vs=[]/\H l=some (.lst xs)/\xs[xs.length-1]? = some y/\Q y (tJ H l (.lst xs.dropLast))
theorem EW:MG X "list.pop" Nh:=by
 intro pins s σ H x vs v us Q I rx rv h;obtain⟨l,xs,y,rfl,rfl,hH,hy,q⟩:=h;cases rx;have hus:=rv.zero;subst hus;obtain⟨z,its,n,r,hl,e⟩:=I.lstM hH;obtain⟨u,hu,ru⟩:=r.get hy;have hy':its.toArray[its.toArray.size-1]? = some u:=by
  show its.toArray[its.length-1]? = some u;rw[← eZ,← hl];exact hu
 refine call_meets F.slot_list_pop ⟨_,e,rfl⟩ F.entry_list_pop (F.args_list_pop_1 _) (MeetsSeq.list_pop_last l its.toArray n u hy' (by rw[ak];omega)) ⟨e,?_⟩;refine⟨y,_,I.lset (its':=its.dropLast) hH e ?_ r.dropLast ?_,ru,q⟩
 ·show its.toArray.eraseIdxIfInBounds (its.toArray.size-1)=its.dropLast.toArray;rw[ak,eC,Bz]
 ·rw[List.length_dropLast];omega
def Jl:V->List V->Hp->VK->Prop:=λx vs H Q=>∃ l xs i k y,x = .ref l/\vs=[.int i]/\H l=some (.lst xs) /\ -(2^63)<=i/\i<2^63/\seqIndex? i xs.length=some k/\xs[k]? = some y/\Q y (tJ H l (.lst (xs.eraseIdx k)))
theorem AE:MG X "list.pop" Jl:=by
 intro pins s σ H x vs v us Q I rx rv h;obtain⟨l,xs,i,k,y,rfl,rfl,hH,h1,h2,hk,hy,q⟩:=h;cases rx;obtain⟨u,rfl,ru⟩:=rv.one;obtain⟨t,rfl⟩:=ru;obtain⟨z,its,n,r,hl,e⟩:=I.lstM hH;obtain⟨w,hw,rw'⟩:=r.get hy;refine call_meets F.slot_list_pop ⟨_,e,rfl⟩ F.entry_list_pop (F.args_list_pop_2 _ _)
  (MeetsSeq.list_pop_at l its.toArray n i t k w (fitsIndex_both h1 h2) (by rw[ak,← hl];exact hk) (by rw[← eZ];exact hw) (by rw[ak];omega)) ⟨e,?_⟩
 refine⟨y,_,I.lset (its':=its.eraseIdx k) hH e ?_ (r.eraseIdx k) ?_,rw',q⟩
 ·show its.toArray.eraseIdxIfInBounds k=(its.eraseIdx k).toArray;rw[eC]
 ·have:=yR xs k;omega
def Nj:R2:=λx y H Q=>∃ l b xs zs,x = .ref l/\y = .ref b/\H l=some (.lst xs)/\H b=some (.lst zs)/\xs.length+zs.length<=sizeLine/\∀ p,H p=none->Q (.ref p) (tJ H p (.lst (xs++zs)))
theorem JH:OpR X (binaryOp .Add) Nj:=by
 intro pins s σ H x y v u Q I rx ry h;obtain⟨l,b,xs,zs,rfl,rfl,hH,hB,hz,q⟩:=h;cases rx;cases ry;obtain⟨z,its,n,r,hl,e⟩:=I.lstM hH;obtain⟨z2,its2,n2,r2,hl2,e2⟩:=I.lstM hB;refine PySem.P.add_list e e2 ?_ (by rw[ak,ak];omega);have ea:its.toArray++its2.toArray=(its++its2).toArray:=by simp
 rw[ea];exact⟨.ref _,_,I.lnew (t':=s.toks) (r.append r2) (by rw[ai];omega),rfl,q _ I.fresh⟩
def Ng:R2:=λx y H Q=>∃ l k xs,x = .ref l/\y = .int k/\H l=some (.lst xs) /\ -(2^63)<=k/\k<2^63/\xs.length*k.toNat<=sizeLine /\
 ∀ p,H p=none->Q (.ref p) (tJ H p (.lst (List.replicate k.toNat xs).flatten))
theorem zE{α:Type}(xs:List α)(k:Nat):(List.replicate k xs).flatten.length=k*xs.length:=by
 induction k with
 | zero=>simp
 | succ k ih=>rw[bF,ca,ai,ih,aS,df]
theorem ER:OpR X (binaryOp .Mult) Ng:=by
 intro pins s σ H x y v u Q I rx ry h;obtain⟨l,k,xs,rfl,rfl,hH,h1,h2,hz,q⟩:=h;cases rx;obtain⟨t,rfl⟩:=ry;obtain⟨z,its,n,r,hl,e⟩:=I.lstM hH;have hlen:its.toArray.size*k.toNat<=sizeLine:=by rw[ak,← hl];exact hz
 have hcap:¬ its.toArray.size*k.toNat > (2^63-1) / 8:=by
  have:(sizeLine:Nat)<=(2^63-1) / 8:=by decide
  omega
 have hfit:¬ (!Builtin.List.listFitsIndex k)=true:=by
  rw[fitsIndex_both h1 h2];exact aA
 have hlong:¬ Builtin.List.listTooLong (its.toArray.size*k.toNat)=true:=by
  rw[EU hlen];exact aA
 have hnew:List.foldl (λx1 x2=>x1++x2) #[] (List.replicate (if its.toArray.isEmpty=true then 0 else k.toNat) its.toArray)=(List.replicate k.toNat its).flatten.toArray:=by
  have f0:∀ m:Nat,List.foldl (λx1 x2=>x1++x2) #[] (List.replicate m its.toArray)=(List.replicate m its).flatten.toArray:=λm=>by
   have:=xh its m [];rw[bH] at this;exact this
  rw[f0];cases its with
  | nil=>simp
  | cons a r'=>rw[if_neg (by simp)]
 refine wpAny_binaryOp_repeat_ref (T := "list") (U := "int") (by decide) ⟨_,e,rfl⟩ (λs'=>typeIs_int s' k t) noFill_list_mul F.fills_int_mul F.slot_int_rmul repeat_list F.slot_int_index.lookup
  (call_meets F.slot_int_rmul (typeIs_int s k t) F.entry_int_rmul (F.args_int_rmul_2 _ _) (int___rmul___int_list k t l its.toArray n)
   ⟨e,rfl,⟨_,e,rfl⟩,call_meets F.slot_list_mul ⟨_,e,rfl⟩ F.entry_list_mul (F.args_list_mul_2 _ _) (AutoListH.list___mul___list_int_3 l its.toArray n k t hfit hcap hlong) ⟨e,?_⟩⟩)
 rw[hnew];exact⟨.ref _,_,I.lnew (t':=s.toks) (r.rep k.toNat) (by rw[zE,cE];exact hz),rfl,q _ I.fresh⟩
end
section
variable{prog:Program}{w:World}{A:Around}{E:Value->Shared->Prop}{s:Shared}
set_option maxRecDepth 100000 in
end
end L2
namespace Att
open PySem PySem.W PySem.Calls PyProof.Rows
theorem xA{P:Params}{h:Heap}:∀(ns:List Int) (vs:List Value),WellAll P h vs (ns.map WData.int)->IntsAre vs ns:=by
 intro ns;induction ns with
 | nil =>
  intro vs w;rw[List.map_nil] at w;cases w;exact .nil
 | cons n ns ih =>
  intro vs w;rw[cN] at w;cases w with
  | cons a b =>
   cases a;exact .cons _ _ (ih _ b)
theorem C7{l:OpenLaw}{n:Nat}(hn:l.most=some n){P:Params}{h:Heap}{args:List WData}{vals:List Value}
  (hpre:l.row.toRowW.claim.pre args=true) (hwl:WellAll P h vals args) :
  ∃ a vs ns,vals=[Value.ref a]/\args=[WData.list (ns.map WData.int)]/\h.get? a=some { cls:=.type "list",data:=.seq vs.toArray }/\IntsAre vs ns/\ns.length<=n:=by
 have hsh:WShape.hasAll [] args [.list .int]=true:=(pre_splitW hpre).1;have hc:l.pre.holds [] { args:=args }=true:=(pre_splitW hpre).2;obtain⟨d,r,rfl,h1,h2⟩:=hasAllW_cons hsh;obtain rfl:=hasAllW_nil h2;obtain⟨xs,rfl,h3⟩:=hasW_list h1;obtain⟨ns,rfl⟩:=items_int h3;have hlen:ns.length<=n:=by
  unfold OpenLaw.pre at hc;have h4:(WTm.not (.lt (.lit (.int (n:Int))) (.len (.arg 0)))).holds [] { args:=[.list (ns.map .int)] }=true:=by
   have h4:=(holds_andW hc).1;rw[hn] at h4;exact h4
  have h5:=condW_of h4 (w_not (w_lt w_lit (w_len_list (w_arg rfl))));rw[aa] at h5;refine Nat.le_of_not_lt λq=>?_;have q':(n:Int)<((ns.length:Nat):Int):=by omega
  first
   | (rw[decide_eq_true q'] at h5;exact absurd h5 (by decide))
   | (simp at h5;omega)
 cases hwl with
 | cons w1 w2 =>
  cases w2;cases w1 with
  | list ho hall=>exact⟨_,_,ns,rfl,rfl,ho,xA ns _ hall,hlen⟩
theorem Dc(l:OpenLaw)(args:List WData):l.row.toRowW.claim.post args (.bool true) args=true :=
 postW_of (r:=l.row.toRowW) (X:=(true == true))
  (show WShape.has [] (.bool true) .bool=true by first|rfl|decide|simp[WShape.has,WShape.arms,WShape.armsAll])
  (show (WTm.eq .res (.lit (.bool true))).value [] { args:=args,res:=some (.bool true),after:=args }=some (.bool (true == true)) from w_eq_bool (w_res rfl) w_lit) rfl
theorem AT{l:OpenLaw}{n:Nat}{q:Program}{loose:List Str}{XP:(Str->Option Value)->Heap->Prop}{YP:World->Heap->Prop}{d:DefRec}
  (hn:l.most=some n) (hdf:d.params.defaults=[])
  (call:∀(w:World) (s₀ s₁:Shared) (mg mb:Str->Option Value) (fa:Addr) (o:Obj) (pm cd doc:Value) (a:Addr) (vs:List Value) (ns:List Int),
   Ground q loose [] XP w s₀ mg mb s₁.heap->YP w s₁.heap ->
   s₁.heap.get? fa=some o->o.data = .func (docDef d.name d.params d.body d.scope pm cd doc)->s₁.heap.CodeRec cd d.name->mg d.name=some (.ref fa) ->
   s₁.heap.get? a=some { cls:=.type "list",data:=.seq vs.toArray }->IntsAre vs ns->ns.length<=n->s₁.gens = #[] ->
   codeAny (model l.prog w) callerA (.call (.ref fa) ⟨[.ref a],[]⟩) (λr s'=>r = .ok (.ret (.bool true))/\OldK s₁.heap s'.heap/\s'.os=s₁.os/\AllBare s'.gens) s₁) :
  WalkO q loose XP YP l.row.toRowW d [] (λf vs=>PySem.call f vs):=by
 intro w s₀ s₁ mg mb G Y fa o pm cd doc dV kV ho hd hcd hD hmg hg args vals as hpre hlay hrd hwl hlo;obtain rfl:dV = .none:=Dflts.none hD hdf;obtain rfl:kV = .none:=Dflts.noKw hD;obtain⟨a,vs,ns,rfl,rfl,hobj,hints,hlen⟩:=C7 hn hpre hwl;refine enter_call (codeAny_mono (call w s₀ s₁ mg mb fa o pm cd doc a vs ns G Y ho (fd_plain hd) hcd hmg hobj hints hlen hg) λr s' hq=>?_);obtain⟨rfl,h2,h3,h4⟩:=hq;exact⟨.inl ⟨.bool true,.bool true,[],rfl,λ_=>rfl,.bool true,Dc l _,λ_=>⟨List.Pairwise.nil,λ_ hm=>(nomatch hm)⟩⟩,h2,h3,h4⟩
end Att
namespace L2
open PySem PySem.Spec PyProof.Rows
theorem yC:∀{vs:List Value} {ns:List Int},IntsAre vs ns->Vals (ns.map V.int) vs
 | _,_,.nil=>.nil
 | _,_,.cons n t h=>.cons ⟨t,rfl⟩ (yC h)
def Ku(H:Hp):Prop:=∀ b,H b=none\/∃ o xs,H b=some (.frz o (.lst xs))
theorem E4{P:Program}{w:World}{K:Frag}{mg mb:Str->Option Value}{CX:Ge}{k:Nat}{fa a:Addr}{fd:FuncData}{x:Str}{sp:Sp}{s₁:Shared}{vs:List Value}{ns:List Int}
  (KX:K.In s₁.heap) (hns:s₁.heap.Ns mainGlobals mg) (hb:s₁.heap.Ns builtinsNs mb) (hbb:∀ x:Str,x ≠ "__name__" -> mb x=bootBuiltins x) (hlim:s₁.heap.NoLimit) (hse:s₁.heap.NoSeer) (htr:P.given.tree=none) (hg:s₁.gens = #[])
  (ha:s₁.heap.get? a=some { cls:=.type "list",data:=.seq vs.toArray }) (hi:IntsAre vs ns) (hl:ns.length<=sizeLine) (hr:Room k callerA)
  (F:∀ base:Heap,K.In base->base.Ns mainGlobals mg->FnOk P w K mg base CX k fa fd [x] sp) (hbind:∀(s:Shared) (u:Value),BindsTo s fd ⟨[u],[]⟩ [(x,u)])
  (hsp:∀ H:Hp,Ku H->SqL K H a (ns.map V.int)->sp [.ref a] H (λv _=>v = .bl true) λ_ _ _=>False)
  (hCX:∀ H e s',CX [] H s₁ (λ_ _ _=>False) e s'->False) :
  codeAny (model P w) callerA (.call (.ref fa) ⟨[.ref a],[]⟩) (λr s'=>r = .ok (.ret (.bool true))/\OldK s₁.heap s'.heap/\s'.os=s₁.os/\AllBare s'.gens) s₁:=by
 have rv:=yC hi;have lenV:=hi.length
 -- from an abstract heap in which nothing but the script may be tracked
 have core:∀ H:Hp,Ku H->SqL K H a (ns.map V.int)->HOk P w H s₁.heap->(∀ b,H b≠none->b=a)->(H a≠none->K.lookup a=none) ->
   codeAny (model P w) callerA (.call (.ref fa) ⟨[.ref a],[]⟩) (λr s'=>r = .ok (.ret (.bool true))/\OldK s₁.heap s'.heap/\s'.os=s₁.os/\AllBare s'.gens) s₁:=by
  intro H hO hS hok hA hK;have base_of:∀{b:Addr} {o:Obj},s₁.heap.get? b=some o->H b=none->(yz s₁.heap H).get? b=some o:=λe n=>Fa e n;have noA:∀{b:Addr} {o:Obj} {es:Array DictEntry} {ep:Nat},s₁.heap.get? b=some o->o.data = .dict es ep->H b=none:=λ{b o es ep} e d=>by
   cases q:H b with
   | none=>rfl
   | some u =>
    have e':b=a:=hA b (by rw[q];simp);subst e';rw[ha] at e;cases e;have d':Data.seq vs.toArray _=Data.dict es ep:=d;cases d'
  have nsK:∀{b:Addr} {m:Str->Option Value},s₁.heap.Ns b m->(yz s₁.heap H).Ns b m:=λ{b m} ⟨o,es,ep,e,d,r⟩=>⟨o,es,ep,base_of e (noA e d),d,r⟩;have hKb:K.In (yz s₁.heap H):=λb o e=>base_of (KX b o e) (by
   cases q:H b with
   | none=>rfl
   | some u =>
    have e':b=a:=hA b (by rw[q];simp);subst e';rw[hK (by rw[q];simp)] at e;cases e)
  have hM:Mod K mg (yz s₁.heap H):=⟨hKb,nsK hns,⟨mb,nsK hb,hbb⟩,let ⟨mc,h1,h2⟩:=hlim;⟨mc,nsK h1,h2⟩⟩;have hsr:(yz s₁.heap H).NoSeer:=by
   obtain⟨⟨mc,a1,b1⟩,⟨mm,a2,b2⟩,⟨mi,a3,b3⟩,⟨mq,bm,ob,a4,b4,c4,d4,e4⟩⟩:=hse;refine⟨⟨mc,nsK a1,b1⟩,⟨mm,nsK a2,b2⟩,⟨mi,nsK a3,b3⟩,⟨mq,bm,ob,nsK a4,b4,base_of c4 ?_,d4,e4⟩⟩;cases q:H bm with
   | none=>rfl
   | some u =>
    have e':bm=a:=hA bm (by rw[q];simp);subst e';rw[ha] at c4;cases c4;exact absurd (show (Value.type "list")=Value.type "module" from d4) (by decide)
  have e0:Env0 P w K mg (yz s₁.heap H) callerA [] s₁ H:=⟨rfl,hM,λb o e=>GY e,Nat.le_of_eq (DA _ _),trivial,λb hb=>absurd (show b∈([]:List Addr) from hb) (by simp),hok,.of_eq hg,hsr,htr⟩;refine codeAny_mono ((F _ hKb (nsK hns)).run callerA [] s₁ H ⟨[.ref a],[]⟩ [.ref a] [.ref a] _ _ hr e0 (hbind s₁ (.ref a)) (.cons rfl .nil) (hsp H hO hS)) λr s' h=>?_;cases r with
  | error e=>exact (hCX H e s' h).elim
  | ok fl =>
   cases fl with
   | next=>exact False.elim h
   | brk=>exact False.elim h
   | cont=>exact False.elim h
   | ret u =>
    obtain⟨v,H',os,bare,un,hok',r',q⟩:=h;have q':v = .bl true:=q;subst q';obtain rfl:u=Value.bool true:=r';refine⟨rfl,OldK.of_keep λb o e=>?_,os,bare⟩;cases q:H b with
    | none=>exact un.keep b o e q (by intro z;exact absurd (show b∈([]:List Addr) from z) (by simp)) (by simp)
    | some u =>
     rcases hO b with z|⟨ob,xs,z⟩
     ·rw[q] at z;cases z
     ·have z2:=un.frzs b ob _ z;obtain⟨e1,_⟩:=hok b _ z;obtain⟨e2,_⟩:=hok' b _ z2;rw[e] at e1;cases e1;exact e2
 cases hk:K.lookup a with
 | some o =>
  -- the script is one of the module's own objects
  have e:=KX a o hk;rw[ha] at e;cases e;refine core (λ_=>none) (λ_=>.inl rfl) (.inr ⟨_,vs.toArray,_,hk,rfl,rfl,rfl,by rw[ak,lenV];exact hl,by simpa using rv⟩) (λb u z=>by have z':(none:Option HO)=some u:=z;cases z') (λb z=>absurd rfl z) λz=>absurd rfl z
 | none =>
  refine core (λb=>if b=a then some (.frz { cls:=.type "list",data:=.seq vs.toArray } (.lst (ns.map V.int))) else none) (λb=>?_) (.inl (.inr ⟨{ cls:=.type "list",data:=.seq vs.toArray },if_pos rfl⟩)) (λb u z=>?_) (λb z=>?_) λ_=>hk
  ·by_cases hb:b=a
   ·exact .inr ⟨_,_,if_pos hb⟩
   ·exact .inl (if_neg hb)
  ·by_cases hb:b=a
   ·have z':=(if_pos hb).symm.trans z;cases z';subst hb;exact⟨ha,by rw[aa];exact hl,vs,_,rv,ha⟩
   ·have z':=(if_neg hb).symm.trans z;cases z'
  ·by_cases hb:b=a
   ·exact hb
   ·exact absurd (if_neg hb) z
theorem Gj{l:PySem.W.OpenLaw}{n k:Nat}{q:Program}{loose:List Str}{YP:World->Heap->Prop}{d:DefRec}{K:Params->Frag}{CX:World->Ge}{sp:World->Sp}{x:Str}
  (hn:l.most=some n) (hn2:n<=sizeLine) (hdf:d.params.defaults=[]) (hr:Room k callerA)
  (hY:∀(w:World) (h:Heap),YP w h->(K w.params).In h)
  (F:∀(w:World) (mg:Str->Option Value) (fa:Addr) (h:Heap),(K w.params).In h->h.Ns mainGlobals mg->mg d.name=some (.ref fa) ->
   ∃ fd:FuncData,(∀(s:Shared) (u:Value),BindsTo s fd ⟨[u],[]⟩ [(x,u)]) /\
    ∀ base:Heap,(K w.params).In base->base.Ns mainGlobals mg->FnOk l.prog w (K w.params) mg base (CX w) k fa fd [x] (sp w))
  (hsp:∀(w:World) (H:Hp) (a:Addr) (ns:List Int),ns.length<=n->Ku H->SqL (K w.params) H a (ns.map V.int)->sp w [.ref a] H (λv _=>v = .bl true) λ_ _ _=>False)
  (hCX:∀(w:World) (H:Hp) (s:Shared) (e:Value) (s':Shared),CX w [] H s (λ_ _ _=>False) e s'->False) (hi:importsNone q=true:=by decide +kernel) (ht:l.prog.given.tree=none:=by rfl) :
  PySem.W.WalkO q loose XP YP l.row.toRowW d [] (λf vs=>PySem.call f vs):=by
 refine Att.AT hn hdf λw s₀ s₁ mg mb fa o pm cd doc a vs ns G Y ho hd hcd hmg hobj hints hlen hg=>?_;have KX:=hY w _ Y;obtain⟨fd,hb,hF⟩:=F w mg fa _ KX G.T.g hmg;exact E4 KX G.T.g G.T.b G.T.builtins G.T.nolimit (G.T.seer hi) ht hg hobj hints (bq hlen hn2) hr hF hb (λH hO hS=>hsp w H a ns hlen hO hS) λH e s'=>hCX w H s₁ e s'
def vG(s:Stmt):Arguments:=match s with
 | .FunctionDef _ a _ _ _ _ _ _ _ _=>a
 | _=>{ posonlyargs:=[],args:=[],vararg:=none,kwonlyargs:=[],kw_defaults:=[],kwarg:=none,defaults:=[] }
def uf(s:Stmt):List Stmt:=match s with
 | .FunctionDef _ _ b _ _ _ _ _ _ _=>b
 | _=>[]
def sL(s:Stmt):Scope:=match s with
 | .FunctionDef _ _ _ _ _ _ sc _ _ _=>sc
 | _=>{ kind:=.function,names:=[],isGenerator:=false,isCoroutine:=false }
abbrev CV:Ge:=λ_ _ _ _ _ _=>False
abbrev E0:XK:=λ_ _ _=>False
theorem Lk:BT CV X E0:=λ_ _ _ _ _ _ _ h=>h.elim
structure Fun (K:Frag)(x qual:Str)(st:Stmt)(f:Addr)(fd:FuncData):Prop where
 ex:∃(oc:Value) (od:Option Addr) (kV doc pm:Value) (an:Option Addr) (cdv ct:Value) (osl:Array (Option Value)),
  fd=PySem.W.fnOf x qual (vG st) (uf st) (sL st) .none kV doc pm an cdv ct/\K.lookup f=some ⟨oc,od,.func fd,osl⟩/\PySem.W.codeIn K cdv qual=true
 kp:PySem.W.keepIn K (.ref f)=true
section
variable{P:Program}{w:World}{K:Frag}{mg:Str->Option Value}{base:Heap}
theorem Fun.ok{x qual:Str}{st:Stmt}{f:Addr}{fd:FuncData}{N ps:List Str}{k:Nat}{sp:Sp}(F:Fun K x qual st f fd)(S:FnScope N ps (sL st))(len:∀ vs H Q E,sp vs H Q E->vs.length=ps.length)
  (hbody:∀(cdv:Value) (A:Around) (outer:List Env) (s:Shared) (H:Hp) (vs:List V) (Q:VK) (E:XK),Room k (A.deeper (envOfC qual (sL st) s.heap.objs.size f cdv))->sp vs H Q E ->
   ∃ t,PSs (BK CV P w K mg base N qual (sL st) f cdv A outer s H E).nox (uf st) t/\t { nx:=λ_ H'=>Q .non H',rt:=Q } (start N vs) H):FnOk P w K mg base CV (k+1) f fd ps sp:=by
 obtain⟨oc,od,kV,doc,pm,an,cdv,ct,osl,rfl,lk,hcd⟩:=F.ex;refine LX lk hcd S len λA outer s H vs Q E hr hsp=>?_;obtain⟨t,h,q⟩:=hbody cdv A outer s H vs Q E hr hsp;exact⟨t,h.nox,q⟩
theorem Fun.binds{x qual:Str}{st:Stmt}{f:Addr}{ps:List Str}(F:Fun K x qual st f fd)
  (h:∀(kV doc pm:Value) (an:Option Addr) (cdv ct:Value) (us:List Value),us.length=ps.length->bindArgs (PySem.W.fnOf x qual (vG st) (uf st) (sL st) .none kV doc pm an cdv ct) ⟨us,[]⟩=pure (ps.zip us)):Binds K fd ps []:=by
 obtain⟨oc,od,kV,doc,pm,an,cdv,ct,osl,rfl,lk,hcd⟩:=F.ex;exact .all (h kV doc pm an cdv ct)
theorem J3{x qual:Str}{st:Stmt}{f:Addr}{oc:Value}{od an:Option Addr}{kV doc pm cdv ct:Value}(l:K.lookup f=some ⟨oc,od,.func (PySem.W.fnOf x qual (vG st) (uf st) (sL st) .none kV doc pm an cdv ct),osl⟩)
  (c:PySem.W.codeIn K cdv qual=true) (k:PySem.W.keepIn K (.ref f)=true):Fun K x qual st f (PySem.W.fnOf x qual (vG st) (uf st) (sL st) .none kV doc pm an cdv ct):=⟨⟨oc,od,kV,doc,pm,an,cdv,ct,osl,rfl,l,c⟩,k⟩
end
section
variable{X:Cx}
theorem pv(i:Nat)(hN:X.N[i]? = some x:=by rfl)(hv:IF X.env.scope x:=by first|exact Or.inl rfl|exact Or.inr (Or.inl rfl)|exact Or.inr (Or.inr rfl))(hd:(x == ("__debug__" : Str))=false:=by decide)
  (hcd:(x == ("__classdict__" : Str))=false:=by decide):PE X (.Name x pos) (vc i):=Bf hN hv hd hcd
end
theorem Nx{A B:Prop}(h:B):if false=true then A else B:=by
 rw[if_neg aA];exact h
theorem Hn{c A B:Prop}[Decidable c](h1:c->A)(h2:¬ c->B):if c then A else B:=by
 by_cases h:c
 ·rw[if_pos h];exact h1 h
 ·rw[if_neg h];exact h2 h
def Same(H H':Hp):Prop:=∀ b o,H b=some o->H' b=some o
theorem Same.trans(a:Same H H1)(b:Same H1 H2):Same H H2:=λc o h=>b c o (a c o h)
theorem Same.seq{K:Frag}{H H':Hp}{a:Addr}{xs:List V}(e:Same H H')(h:SqL K H a xs):SqL K H' a xs:=by
 rcases h with (h|⟨o,h⟩)|h
 ·exact .inl (.inl (e _ _ h))
 ·exact .inl (.inr ⟨o,e _ _ h⟩)
 ·exact .inr h
theorem tQ{β:Type}:∀{l:List (Str×β)} {x:Str} {k:β},l.lookup x=some k->(x,k)∈l
 | [],_,_,h=>by simp at h
 | (n,k')::r,x,k,h=>by
  rw[dF] at h;cases e:x == n with
  | true =>
   rw[e] at h;have e':x=n:=eq_of_beq e;have h':some k'=some k:=h;cases h';rw[e'];exact av
  | false =>
   rw[e] at h;exact aw _ (tQ h)
theorem zD{β:Type}:∀{l:List (Str×β)} {x:Str} {k:β},(x,k)∈l->∃ k',l.lookup x=some k'
 | [],_,_,h=>by simp at h
 | (n,k')::r,x,k,h=>by
  rw[dF];cases e:x == n with
  | true=>exact⟨k',rfl⟩
  | false =>
   rcases ao.mp h with q|q
   ·cases q;simp at e
   ·exact zD q
def v8(env:Env)(x:Str)(k:NameKind):NameKind:=if (k == .free && env.scope.kind == .function && env.kindOf x == some .cell) then .cell else k
theorem wA{env:Env}{x:Str}:∀{l:List (Str×NameKind)},
  (l.map λ(n,k)=>if (k == NameKind.free && env.scope.kind == .function && env.kindOf n == some .cell) then (n,NameKind.cell) else (n,k)).lookup x=(l.lookup x).map (v8 env x)
 | []=>rfl
 | (n,k)::r=>by
  rw[cN];have ih:=@wA env x r;have e0:(match ((n,k):Str×NameKind) with|(n,k)=>if (k == NameKind.free && env.scope.kind == .function && env.kindOf n == some .cell) then (n,NameKind.cell) else (n,k))=(n,v8 env n k):=by
   show (if (k == NameKind.free && env.scope.kind == .function && env.kindOf n == some .cell)=true then (n,NameKind.cell) else (n,k))=(n,v8 env n k);unfold v8;split <;> rfl
  rw[e0,dF,dF];cases e:x == n with
  | true =>
   have e':x=n:=eq_of_beq e;subst e';rfl
  | false=>exact ih
def um(cells:List (Str×Addr)):List (Str×NameKind)->List (Str×Addr)->List (Str×Addr)
 | [],acc=>acc
 | (n,k)::r,acc=>if k == .free then um cells r ((n,(cells.lookup n).getD 0)::acc) else um cells r acc
theorem vB:∀{l:List (Str×NameKind)} {acc:List (Str×Addr)},(∀ y∈l,y.2 = .free->∃ c,cells.lookup y.1=some c)->(∀ p∈acc,cells.lookup p.1=some p.2) ->
  ∀ p∈um cells l acc,cells.lookup p.1=some p.2
 | [],acc,_,ha,p,hp=>ha p hp
 | (n,k)::r,acc,hl,ha,p,hp=>by
  unfold um at hp;have hl':∀ y∈r,y.2 = .free->∃ c,cells.lookup y.1=some c:=λy hy=>hl y (aw _ hy);cases hk:k == NameKind.free with
  | true =>
   rw[hk,if_pos rfl] at hp;refine vB hl' (λq hq=>?_) p hp;rcases ao.mp hq with e|e
   ·subst e;obtain⟨c,e⟩:=hl (n,k) av (eq_of_beq hk);show cells.lookup n=some ((cells.lookup n).getD 0);rw[show cells.lookup n=some c from e];rfl
   ·exact ha q e
  | false =>
   rw[hk,if_neg aA] at hp;exact vB hl' ha p hp
theorem yq:∀{l:List (Str×NameKind)} {acc:List (Str×Addr)} {p:Str×Addr},p∈acc->p∈um cells l acc
 | [],_,_,h=>h
 | (n,k)::r,acc,p,h=>by
  unfold um;split
  ·exact yq (aw _ h)
  ·exact yq h
theorem wK:∀{l:List (Str×NameKind)} {acc:List (Str×Addr)} {x:Str},(x,NameKind.free)∈l->∃ c,(x,c)∈um cells l acc
 | [],_,_,h=>by simp at h
 | (n,k)::r,acc,x,h=>by
  unfold um;rcases ao.mp h with e|e
  ·cases e;rw[if_pos (by rfl)];exact⟨_,yq av⟩
  ·split
   ·exact wK e
   ·exact wK e
theorem v7:∀{l:List (Str×NameKind)} {acc:List (Str×Addr)},(∀ y∈l,y.2 = .free->∃ c,env.cells.lookup y.1=some c) ->
  (forIn l acc (λ(x:Str×NameKind) (r:List (Str×Addr))=>(if (x.2 == NameKind.free)=true then do let c ← cellOf env x.1;pure (ForInStep.yield ((x.1,c)::r)) else pure (ForInStep.yield r):Sem _)))=pure (um env.cells l acc)
 | [],_,_=>rfl
 | (n,k)::r,acc,hl=>by
  have hl':∀ y∈r,y.2 = .free->∃ c,env.cells.lookup y.1=some c:=λy hy=>hl y (aw _ hy);rw[eN];unfold um;cases hk:k == NameKind.free with
  | true =>
   obtain⟨c,e⟩:=hl (n,k) av (eq_of_beq hk);have e':env.cells.lookup n=some c:=e;simp only[hk,if_true];rw[show cellOf env n=pure c by unfold cellOf;rw[e']];simp only[pure_bind];rw[v7 hl',e'];rfl
  | false =>
   simp only[hk,cC,if_false,pure_bind];exact v7 hl'
theorem xn:∀{l:List (Str×NameKind)} {acc:List (Str×Addr)} {p:Str×Addr},p∈um cells l acc->p∈acc\/(p.1,NameKind.free)∈l
 | [],_,_,h=>.inl h
 | (n,k)::r,acc,p,h=>by
  unfold um at h;split at h
  ·rename_i hk;rcases xn h with z|z
   ·rcases ao.mp z with e|e
    ·subst e;rw[eq_of_beq hk];exact .inr av
    ·exact .inl e
   ·exact .inr (aw _ z)
  ·exact (xn h).imp id (aw _)
theorem BN:∀{l:List (Str×NameKind)} {n:Nat} {acc:List (Str×Addr)} {p:Str×Addr},p∈cellsFrom n l acc->p∈acc\/(n<=p.2/\(p.1,NameKind.cell)∈l)
 | [],_,_,_,h=>.inl h
 | (x,k)::r,n,acc,p,h=>by
  unfold cellsFrom at h;split at h
  ·rename_i hk;rcases BN h with z|z
   ·rcases ao.mp z with e|e
    ·subst e;rw[eq_of_beq hk];exact .inr ⟨aq _,av⟩
    ·exact .inl e
   ·exact .inr ⟨cK z.1,aw _ z.2⟩
  ·exact (BN h).imp id λz=>⟨z.1,aw _ z.2⟩
theorem yr:∀{l:List (Str×NameKind)} {n:Nat} {acc:List (Str×Addr)} {p:Str×Addr},p∈acc->p∈cellsFrom n l acc
 | [],_,_,_,h=>h
 | (x,k)::r,n,acc,p,h=>by
  unfold cellsFrom;split
  ·exact yr (aw _ h)
  ·exact yr h
theorem FS:∀{l:List (Str×NameKind)} {n:Nat} {acc:List (Str×Addr)} {x:Str},(x,NameKind.cell)∈l->∃ c,(x,c)∈cellsFrom n l acc
 | [],_,_,_,h=>by simp at h
 | (y,k)::r,n,acc,x,h=>by
  unfold cellsFrom;rcases ao.mp h with e|e
  ·cases e;rw[if_pos (by rfl)];exact⟨_,yr av⟩
  ·split <;> exact FS e
theorem BO:∀{l:List (Str×NameKind)} {n:Nat} {acc:List (Str×Addr)},(∀ p∈acc,p.2<n)->(∀ x y c,(x,c)∈acc->(y,c)∈acc->x=y)->∀ x y c,(x,c)∈cellsFrom n l acc->(y,c)∈cellsFrom n l acc->x=y
 | [],_,_,_,h=>h
 | (z,k)::r,n,acc,hl,h=>by
  unfold cellsFrom;split
  ·refine BO (λp hp=>?_) λx y c hx hy=>?_
   ·rcases ao.mp hp with e|e
    ·subst e;exact bX _
    ·exact ce (hl p e)
   ·rcases ao.mp hx with e|e <;> rcases ao.mp hy with e'|e'
    ·cases e;cases e';rfl
    ·cases e;exact absurd (hl _ e') (bc _)
    ·cases e';exact absurd (hl _ e) (bc _)
    ·exact h x y c e e'
  ·exact BO hl h
theorem zQ:∀{l:List (Str×NameKind)} {h:Heap} {acc:List (Str×Addr)} {p:Str×Addr},p∈cellsFrom h.objs.size l acc->p∈acc\/(pushCells h l).IsCell p.2 none
 | [],_,_,_,q=>.inl q
 | (x,k)::r,h,acc,p,q=>by
  unfold cellsFrom at q;unfold pushCells;split at q
  ·rename_i hk;rw[if_pos hk];rw[← Heap.size_push h { cls:=.type "cell",data:=.cell none }] at q;rcases zQ q with z|z
   ·rcases ao.mp z with e|e
    ·subst e;exact .inr ⟨_,pushCells_keeps _ _ _ _ (ηG _ rfl),rfl⟩
    ·exact .inl e
   ·exact .inr z
  ·rename_i hk;rw[if_neg hk];exact zQ q
theorem yn{cells:List (Str×Addr)}{names:List (Str×NameKind)}{n:Nat}{x:Str}{c:Addr}(hfr:∀ y∈names,y.2 = .free->∃ c,cells.lookup y.1=some c)(h:(x,c)∈cellsFrom n names (um cells names [])) :
  (cells.lookup x=some c/\(x,NameKind.free)∈names)\/(n<=c/\(x,NameKind.cell)∈names):=by
 rcases BN h with z|z
 ·refine .inl ⟨vB hfr (λ_ z=>absurd z aO) (x,c) z,?_⟩;rcases xn z with w|w
  ·exact absurd w aO
  ·exact w
 ·exact .inr z
theorem He{M:Model}{A:Around}{E:Value->Shared->Prop}{s:Shared}{scope:Scope}{g:Addr}{cl:List (Str×Addr)}{qual:Str}{env:Env}{Q:Env->Shared->Prop}
  (h:Q (newEnv scope s.heap.objs.size g (cellsFrom (s.heap.objs.size+1) scope.names cl) qual none .none (some env) builtinsNs) { s with heap:=pushCells (s.heap.push { cls:=.type "dict",data:=.dict #[] }) scope.names }) :
  wpAny M A (newFunctionEnv scope g cl [] qual none .none (some env)) Q E s:=by
 simp only[newFunctionEnv,Option.isSome_some,if_true];refine ηB (wpAny_alloc ?_);refine ηB (wpAny_layCells _ (λname kind cells=>by cases hkc:kind == NameKind.cell <;> simp[hkc]) _ _ _ _ ?_);rw[show ({ s with heap:=s.heap.push { cls:=.type "dict",data:=.dict #[] } }:Shared).heap.objs.size=s.heap.objs.size+1 from Heap.size_push ..];refine ηB ?_;rw[eP];exact ηP (ηP h)
def wC(hide:List Nat)(σ:St):St:=hide.foldl (λs i=>s.set i none) σ
theorem hideS_len:∀{hide:List Nat} {σ:St},(wC hide σ).length=σ.length
 | [],_=>rfl
 | i::r,σ=>by
  show (wC r (σ.set i none)).length=_;rw[hideS_len,bj]
theorem yV:∀{hide:List Nat} {σ:St} {i:Nat} {v:V},(wC hide σ)[i]? = some (some v)->i ∉ hide/\σ[i]? = some (some v)
 | [],_,_,_,h=>⟨by simp,h⟩
 | j::r,σ,i,v,h=>by
  obtain⟨h1,h2⟩:=yV (hide:=r) (σ:=σ.set j none) h;by_cases e:j=i
  ·subst e;by_cases hl:j<σ.length
   ·rw[dJ hl] at h2;cases h2
   ·rw[aV (by simp;omega)] at h2;cases h2
  ·rw[aH e] at h2;exact⟨by simp[h1,Ne.symm e],h2⟩
def uY(X:Cx)(scope:Scope)(s2:Shared)(H2:Hp)(fp:List Addr)(pins:List (Addr×Obj))(C:Addr):Cx where
 prog:=X.prog
 w:=X.w
 K:=X.K
 mg:=X.mg
 base:=X.base
 A:=X.A
 N:=X.N
 s₀:=s2
 H₀:=H2
 env:=compEnvC scope (cellsFrom (C+1) scope.names (um X.env.cells scope.names [])) C X.env
 outer:=X.stack
 stack:=X.stack
 ex:=fp
 fn:=λx=>scope.names.lookup x == some .cell
 calm:=X.calm
 pn:=X.pn++pins
 xe:=λ_ _=>False
structure CompS (N:List Str)(out:Scope)(scope:Scope)(hide:List Nat):Prop where
 kind:scope.kind = .function
 one:∀ y∈scope.names,scope.names.lookup y.1=some y.2
 free:∀ y∈scope.names,y.2 = .free->out.names.lookup y.1=some .cell\/out.names.lookup y.1=some .free
 loc:∀ y∈scope.names,y.2 = .local->scope.names.lookup y.1=some .local
 own:∀(i:Nat),i<N.length->(scope.names.lookup (N.getD i "")=some .local\/scope.names.lookup (N.getD i "")=some .cell)->i∈hide
section
variable{X:Cx}{pins:List (Addr×Obj)}{σ:St}{H:Hp}{s:Shared}
theorem OL(S:CompS X.N X.env.scope scope hide)(I:Inv X pins σ H s)(hf:∀ b∈fp,vg X pins H b)(hfo:∀ b∈fp,∃ o,s.heap.get? b=some o)
  (hC:s.heap.objs.size<=C):(uY X scope s H fp pins C).Ok:=by
 have hfr:∀ y∈scope.names,y.2 = .free->∃ c,X.env.cells.lookup y.1=some c:=λy hy e=>I.ok.has y.1 (S.free y hy e);have old:∀ x c,X.env.cells.lookup x=some c->c<s.heap.objs.size:=λx c e=>by
  obtain⟨v,o,ho,_⟩:=I.cell x c e;exact ηL ho
 have cl:∀ p∈um X.env.cells scope.names [],X.env.cells.lookup p.1=some p.2:=vB hfr λ_ z=>absurd z aO;refine⟨I.ok.mod,S.kind,I.ok.glob,I.ok.blt,hC,λx y c e1 e2=>BO (λp hp=>ce (aD (old _ _ (cl p hp)) hC)) (λx y c h1 h2=>I.ok.inj x y c (cl _ h1) (cl _ h2)) x y c (tQ e1) (tQ e2),λx hx=>?_,λx c h e=>?_,I.ok.hd,I.ok.frames,.inl rfl,λb hb=>⟨?_,λx c e=>?_⟩,I.bs,
  bq I.ok.bsz I.sz,λb o e hb=>?_,λb hb z=>?_,I.stack,I.stkFree,I.ok.sr,I.ok.rn⟩
 ·have hx':((scope.names.lookup x).map (v8 X.env x)=some .cell)\/((scope.names.lookup x).map (v8 X.env x)=some .free):=by
   rw[← wA];exact hx
  cases q:scope.names.lookup x with
  | none=>rw[q] at hx';rcases hx' with z|z <;> cases z
  | some k =>
   have mem:=tQ q;have kf:k = .free\/k = .cell:=by
    rw[q] at hx';have hx2:v8 X.env x k = .cell\/v8 X.env x k = .free:=hx'.imp Option.some.inj Option.some.inj;unfold v8 at hx2;by_cases c:(k == NameKind.free && X.env.scope.kind == .function && X.env.kindOf x == some .cell)=true
    ·simp only[bh,beq_iff_eq] at c;exact .inl c.1.1
    ·rw[if_neg c] at hx2;exact hx2.symm
   rcases kf with kf|kf
   ·subst kf;obtain⟨c,hc⟩:=wK (cells:=X.env.cells) (acc:=[]) mem;exact zD (yr hc)
   ·subst kf;obtain⟨c,hc⟩:=FS (n:=C+1) (acc:=um X.env.cells scope.names []) mem;exact zD hc
 ·have h:scope.names.lookup x=some .cell:=eq_of_beq h;rcases yn hfr (tQ e) with⟨_,z⟩|⟨z,_⟩
  ·rw[S.one _ z] at h;cases h
  ·exact bq hC (cK z)
 ·obtain⟨o,e⟩:=hfo b hb;exact aZ (aD (ηL e) hC)
 ·obtain⟨o,e'⟩:=hfo b hb;rcases yn hfr (tQ e) with⟨z,_⟩|⟨z,_⟩
  ·exact (hf b hb).2.2.2.2.1 x c z
  ·exact de (aD (ηL e') (bq hC (cK z)))
 ·rcases (hf b hb).2.2.2.1 with z|z
  ·exact I.ok.noex b o e z
  ·exact absurd (aD (ηL (I.ok.bs b o e).1) z) (bc _)
 ·rcases ao.mp (I.stkSub b z) with q|q
  ·exact (hf b hb).2.1 q
  ·exact (hf b hb).2.2.1 q
theorem Mp(I:Inv X pins σ H s)(h:s.heap.objs.size<=a):a ∉ CC X.stack:=λz=>by
 rcases ao.mp (I.stkSub a z) with q|q
 ·exact absurd (aD I.lt (by rw[← q];exact h)) (bc _)
 ·exact I.nofs h q
theorem NK{scope:Scope}{hide:List Nat}(S:CompS X.N X.env.scope scope hide){fp:List Addr}{C D:Addr}{h4:Heap}{tk:Nat}{ob:Obj}{m:Str->Option Value}(I:Inv X pins σ H s)(hf:∀ b∈fp,vg X pins H b)(hfo:∀ b∈fp,∃ o,s.heap.get? b=some o)
  (hC:s.heap.objs.size<=C) (hD:s.heap.objs.size<=D) (hDC:D≠C) (k:∀ b u,s.heap.get? b=some u->h4.get? b=some u) (hcl:∀ p∈cellsFrom (C+1) scope.names (um X.env.cells scope.names []),p∈um X.env.cells scope.names []\/h4.IsCell p.2 none) (hn:h4.Ns C m) (hDo:h4.get? D=some ob) (hob:∀ v,ob.data ≠ .cell v) :
  Inv (uY X scope s H fp pins C) [(D,ob)] (wC hide σ) H { s with heap:=h4,toks:=tk }:=by
 have ok:=OL S I hf hfo hC;have hfr:∀ y∈scope.names,y.2 = .free->∃ c,X.env.cells.lookup y.1=some c:=λy hy e=>I.ok.has y.1 (S.free y hy e);have sub:∀ x c,(x,c)∈um X.env.cells scope.names []->X.env.cells.lookup x=some c:=λx c e=>vB hfr (λ_ z=>absurd z aO) (x,c) e;have ck:∀ c v,s.heap.IsCell c v->h4.IsCell c v:=λc v ⟨o,ho,hd⟩=>⟨o,k c o ho,hd⟩;refine⟨ok,rfl,I.bare,Un.kept k,⟨m,hn,λi x v e1 e2 e3=>?_⟩,λx c e=>?_,I.hok.fresh hC,λx c e=>?_,λp hp=>?_,I.hok.kept k,hideS_len.trans I.len⟩
 ·obtain⟨n1,n2⟩:=yV e2;have e3':((scope.names.lookup x).map (v8 X.env x)=some .local)\/((scope.names.lookup x).map (v8 X.env x)=some .cell)\/((scope.names.lookup x).map (v8 X.env x)=some .free):=by
   rw[← wA];exact e3
  cases q:scope.names.lookup x with
  | none=>rw[q] at e3';rcases e3' with z|z|z <;> cases z
  | some kd =>
   rw[q] at e3';have e4:v8 X.env x kd = .local\/v8 X.env x kd = .cell\/v8 X.env x kd = .free:=e3'.imp Option.some.inj λz=>z.imp Option.some.inj Option.some.inj;have mem:=tQ q;by_cases kl:kd = .local\/kd = .cell
   ·have hi:X.N[i]? = some x:=e1;obtain⟨hlt,hge⟩:=af.mp hi;refine absurd (S.own i hlt ?_) n1;rw[aj,hi];exact kl.imp (λz=>by rw[← z];exact q) λz=>by rw[← z];exact q
   ·have kf:kd = .free:=by
     unfold v8 at e4;by_cases c:(kd == NameKind.free && X.env.scope.kind == .function && X.env.kindOf x == some .cell)=true
     ·simp only[bh,beq_iff_eq] at c;exact c.1.1
     ·rw[if_neg c] at e4;rcases e4 with z|z|z
      ·exact absurd (.inl z) kl
      ·exact absurd (.inr z) kl
      ·exact z
    subst kf;have kx:=S.free _ mem rfl;obtain⟨m0,_,hl⟩:=I.loc;obtain⟨u,r,l⟩:=hl i x v e1 n2 (.inr kx);refine⟨u,r,?_⟩;rcases l with⟨z,_⟩|⟨_,c,e,z⟩
    ·have z':X.env.scope.names.lookup x=some .local:=z;rw[z'] at kx;rcases kx with w|w <;> cases w
    ·obtain⟨c',hc'⟩:=wK (cells:=X.env.cells) (acc:=[]) mem;obtain⟨c2,hc2⟩:=zD (yr (n:=C+1) (l:=scope.names) hc');have ec:c2=c:=by
      rcases yn hfr (tQ hc2) with⟨w,_⟩|⟨_,w⟩
      ·exact Option.some.inj (w.symm.trans e)
      ·have w1:=S.one _ w;rw[q] at w1;cases w1
     subst ec;refine .inr ⟨?_,c2,hc2,ck c2 _ z⟩;have e5:((relabel scope X.env).names.lookup x)=some (v8 X.env x .free):=by
      show (List.map _ scope.names).lookup x=_;rw[wA,q];rfl
     rcases e4 with w|w|w
     ·unfold v8 at w;split at w <;> cases w
     ·exact .inl (e5.trans (by rw[w]))
     ·exact .inr (e5.trans (by rw[w]))
 ·rcases hcl _ (tQ e) with w|w
  ·obtain⟨v,z⟩:=I.cell x c (sub x c w);exact⟨v,ck c v z⟩
  ·exact⟨_,w⟩
 ·rcases yn hfr (tQ e) with⟨w,_⟩|⟨w,_⟩
  ·exact I.freeC x c w
  ·exact I.hok.fresh (bq hC (cK w))
 ·rcases aW.mp hp with z|z
  ·obtain⟨e,n,ne,nf,d⟩:=I.pin p z;refine⟨k _ _ e,n,aZ (aD (ηL e) hC),λy=>?_,d⟩;rcases ao.mp (I.stkSub _ y) with q|q
   ·exact ne q
   ·exact nf q
  ·have e:p=(D,ob):=by simpa using z
   subst e;exact⟨hDo,I.hok.fresh hD,hDC,Mp I hD,hob⟩
theorem NJ{scope:Scope}{fp:List Addr}{C D:Addr}{n:Nat}{its:List Value}{ys:List V}{pins':List (Addr×Obj)}{τ:St}{H':Hp}{s':Shared}(I:Inv X pins σ H s)(hf:∀ b∈fp,vg X pins H b)
  (hD:s.heap.objs.size<=D) (J:Inv (uY X scope s H fp pins C) pins' τ H' s') (hp:(D,({ cls:=.type "list",data:=.seq its.toArray n }:Obj))∈pins') (hv:Vals ys its) (hz:ys.length<=sizeLine) :
  Inv X pins σ (tJ H' D (.lst ys)) s':=by
 obtain⟨eD,nD,_⟩:=J.pin _ (aG _ hp);have u:Un (CC X.stack) fp H H' s.heap s'.heap:=J.base;have ne:∀ b o,s.heap.get? b=some o->b≠D:=λb o e=>aZ (aD (ηL e) hD);have u':Un (CC X.stack) fp H (tJ H' D (.lst ys)) s.heap s'.heap:=by
  refine⟨u.keep,u.slot,λb o e q hx=>?_,u.there,λb xs e=>?_,λb o v e=>?_,λb ps e=>?_⟩
  ·rw[sS (ne b o e)];exact u.free b o e q hx
  ·have q:=u.tups b xs e;rw[sS (sY q nD)];exact q
  ·have q:=u.frzs b o v e;rw[sS (sY q nD)];exact q
  ·obtain⟨more,q⟩:=u.tbls b ps e;refine⟨more,?_⟩;rw[sS (sY q nD)];exact q
 have hok:HOk X.prog X.w (tJ H' D (.lst ys)) s'.heap:=λb o e=>by
  by_cases hb:b=D
  ·subst hb;rw[sX] at e;cases e;exact⟨hz,its,n,hv,eD⟩
  ·rw[sS hb] at e;exact (J.hok b o e).stay (λ_ _ _ q=>q) (λc q=>by rw[sS (sY q nD)];exact q) λc xs q=>by rw[sS (sY q nD)];exact q
 refine I.call' (show s'.os=s.os from J.os) u' hok J.bare λb hb=>?_;obtain⟨f0,f1,f2,f3,f4,f5⟩:=hf b hb;exact⟨f3,f1,f4,f5⟩
end
abbrev ye(its:List Value)(n:Nat):Obj:={ cls:=.type "list",data:=.seq its.toArray n }
def PTs(X:Cx)(ifs:List Expr)(t:TT):Prop :=
 ∀(pins:List (Addr×Obj)) (s:Shared) (σ:St) (H:Hp) (Q:Bool->Hp->Prop),Inv X pins σ H s->t σ H Q ->
  wpAny (model X.prog X.w) X.A (forIn ifs true λc r=>if r=true then do let ok ← isTrue c X.env (eval c X.env);pure (ForInStep.yield ok) else pure (ForInStep.yield r)) (TP X pins σ Q) X.xe s
def MU:TT:=λ_ H Q=>Q true H
theorem pts_nil:PTs X [] MU:=λ_ _ _ H _ I h=>wpAny_tests_nil ⟨H,I,h⟩
theorem GE(hc:PT X c t):PTs X [c] t:=λpins s σ H Q I h=>wpAny_tests_one (hc pins s σ H Q I h)
theorem Md{Y:Cx}{tg iter elt:Expr}{ifs:List Expr}{scope:Scope}{pos:Pos}{g:TG}{te:TE}{tt:TT}{J:It}{fp:List Addr}{it D:Addr}{tn:Nat->Heap->Prop}{R:Result->Shared->Prop}
  {W:Nat->Nat->St->List V->Hp->Prop} {Z:List V->Hp->Prop} {s:Shared} {σ:St} {H:Hp} {m n0:Nat}
  (T:Turn Y.prog Y.w Y.K tg J fp it tn) (hc:Y.calm=true) (hg:PG Y tg g) (ht:PTs Y ifs tt) (he:PE Y elt te) (hx:∀ e s,Y.xe e s->False)
  (stat:∀ ob H',(∀ b∈fp,H' b=none)->∀ b∈fp,vg Y [(D,ob)] H' b) (hDs:Y.s₀.heap.objs.size<=D) (hDc:∀ x c,Y.env.cells.lookup x=some c->c≠D) (hDp:∀ p∈Y.pn,p.1≠D)
  (zd:∀ k m τ ys H,W k m τ ys H->(J.stop k H/\Z ys H)\/(J.go k H/\ys.length<sizeLine/\∀ x H',J.yld k H x H'->g x τ H' λτ2 H2=>tt τ2 H2 λb H3 =>
   if b=true then te τ2 H3 λv H4=>∃ m',m'<m/\W (k+1) m' τ2 (ys++[v]) H4 else ∃ m',m'<m/\W (k+1) m' τ2 ys H3))
  (out:∀(τ:St) (H':Hp) (s':Shared) (ys:List V) (its:List Value) (n:Nat),Inv Y [(D,ye its n)] τ H' s'->Vals ys its->ys.length<=sizeLine->Z ys H'->R (.ok .next) s')
  (I:Inv Y [(D,ye [] n0)] σ H s) (st:tn 0 s.heap) (fr:∀ b∈fp,H b=none) (w0:W 0 m σ [] H) :
  codeAny (model Y.prog Y.w) Y.A (.compLoop (.ListComp elt [⟨tg,iter,ifs,0⟩] scope pos) 0 (.ref it) (.ref D) Y.env) R s:=by
 refine codeAny_loop rfl (λm s'=>∃ k τ H' ys its n,Inv Y [(D,ye its n)] τ H' s'/\tn k s'.heap/\(∀ b∈fp,H' b=none)/\Vals ys its/\ys.length<=sizeLine/\W k m τ ys H') (λm1 s1 h1=>?_) m ⟨0,σ,H,[],[],n0,I,st,fr,.nil,aL _,w0⟩;obtain⟨k,τ,H1,ys,its,n,I1,st1,fr1,rv,hz,w1⟩:=h1;have no:∀{E:Value->Shared->Prop} {α:Type} {c:Sem α} {Q:α->Shared->Prop} {s:Shared},wpAny (model Y.prog Y.w) Y.A c Q Y.xe s->wpAny (model Y.prog Y.w) Y.A c Q E s:=λ{E α c Q s} h=>wpAny_mono h (λ_ _ q=>q) λe s' q=>(hx e s' q).elim;show wpAny _ Y.A ((compTurn (.ListComp elt [⟨tg,iter,ifs,0⟩] scope pos) 0 (.ref it) (.ref D) Y.env).onRaise _) _ _ s1;refine wpAny_noted ?_;rw[compTurn_list];refine ηB (wpAny_standAt (ηB ?_));rcases zd k m1 τ ys H1 w1 with⟨stop,z⟩|⟨go,hlt,step⟩
 ·refine tz (T.done Y rfl rfl rfl hc k _ s1 τ H1 _ I1 (stat _ _ fr1) st1 stop) λr s2 ⟨hr,I2⟩=>?_;subst hr;exact ηP (out τ H1 s2 ys its n I2 rv hz z)
 ·refine tz (T.item Y rfl rfl rfl hc k _ s1 τ H1 _ I1 (stat _ _ fr1) st1 go) λr s2 ⟨u,hr,h2⟩=>?_;subst hr;refine ηB (tz h2 λ_ s3 ⟨x,H3,I3,r3,y3,st3,fr3⟩=>?_);have I3':=I3.pinned (stat _ _ fr3) (T.obj _ _ st3);refine ηB (no (tz (hg _ s3 τ H3 x u _ I3' r3 (step x H3 y3)) λ_ s4 ⟨τ4,H4,I4,q4⟩=>?_));refine ηB (no (tz (ht _ s4 τ4 H4 _ I4 q4) λok s5 ⟨H5,I5,q5⟩=>?_));have frs5:∀{H':Hp} {s':Shared} {τ':St},Inv Y ([(D,ye its n)]++x9 fp s3.heap) τ' H' s'->tn (k+1) s'.heap/\∀ b∈fp,H' b=none:=λ{H' s' τ'} I'=>by
   refine⟨T.keep _ _ _ st3 λb hb o e=>(I'.pin (b,o) (aG _ (aG _ (uV hb e)))).1,λb hb=>?_⟩;obtain⟨o,e,d⟩:=T.obj _ _ st3 b hb;exact (I'.pin (b,o) (aG _ (aG _ (uV hb e)))).2.1
  cases ok with
  | false =>
   have q5':∃ m',m'<m1/\W (k+1) m' τ4 ys H5:=q5;obtain⟨m',hm,w5⟩:=q5';obtain⟨a1,a2⟩:=frs5 I5;exact ηP ⟨rfl,m',hm,k+1,τ4,H5,ys,its,n,I5.unpinned,a1,a2,rv,hz,w5⟩
  | true =>
   have q5':te τ4 H5 λv H4=>∃ m',m'<m1/\W (k+1) m' τ4 (ys++[v]) H4:=q5;refine ηB (ηB (no (tz (he _ s5 τ4 H5 _ I5 q5') λv s6 ⟨y,H6,I6,r6,m',hm,w6⟩=>?_)));obtain⟨a1,a2⟩:=frs5 I6;have I7:=I6.unpinned;obtain⟨eD,nD,neD,nfD,_⟩:=I7.pin (D,ye its n) (aG _ av);have hlen:=rv.length;have eD':s6.heap.get? D=some { cls:=.type "list",data:=.seq its.toArray n }:=eD;refine ηB (call_meets F.slot_list_append ⟨_,eD',rfl⟩ F.entry_list_append (F.args_list_append_2 _ _) (PySem.list_append D its.toArray n v (by rw[ak];omega)) ⟨eD',?_⟩);have qD:=PySem.IsL.update eD' (·.push v);have I8:Inv Y [] τ4 H6 s6:=I7.pins_of λp hp=>absurd hp aO;have I9:Inv Y [] τ4 H6 { s6 with heap:=s6.heap.update D (Obj.mapSeq (·.push v)) }:=I8.turned (t':=s6.toks) (λb o hb e=>(Heap.get?_update_other s6.heap (Obj.mapSeq (·.push v)) (Ne.symm hb)).trans e) nD neD (.inr hDs) hDc λp hp=>hDp p (by simpa using hp);have ep:its.toArray.push v=(its++[v]).toArray:=by simp
   rw[ep] at qD;obtain⟨n2,qD⟩:∃ n2,(s6.heap.update D (Obj.mapSeq (·.push v))).get? D=some (ye (its++[v]) n2):=⟨_,qD⟩;have I10:Inv Y [(D,ye (its++[v]) n2)] τ4 H6 { s6 with heap:=s6.heap.update D (Obj.mapSeq (·.push v)) }:=I9.pins_of λp hp=>by
    have e:p=(D,ye (its++[v]) n2):=by simpa using hp
    subst e;exact⟨qD,nD,neD,nfD,λv z=>by have z':Data.seq _ _=Data.cell v:=z;cases z'⟩
   refine ηP (ηP ⟨rfl,m',hm,k+1,τ4,H6,ys++[y],its++[v],_,I10,?_,a2,rv.append (.cons r6 .nil),?_,w6⟩)
   ·refine T.keep _ _ _ a1 λb hb o e=>(Heap.get?_update_other s6.heap (Obj.mapSeq (·.push v)) ?_).trans e;have f5:=(stat (ye its n) H6 a2 b hb).2.2.2.2.2;exact f5 (D,ye its n) (aG _ av)
   ·rw[ai,bW];omega
theorem yp(h:∀ y∈scope.names,y.2 = .free->∃ c,env.cells.lookup y.1=some c):closureFor scope env=pure (um env.cells scope.names []):=by
 have q:=v7 (env:=env) (acc:=[]) h;unfold closureFor;show (forIn scope.names [] _ >>= λr=>pure r)=_;refine Eq.trans (congrArg (· >>= λr=>pure r) (Eq.trans ?_ q)) (by simp);refine congrArg (forIn scope.names []) ?_;funext x r;obtain⟨n,k⟩:=x;first
  | rfl
  | (dsimp only;split <;> simp)
def Gd(J:It)(g:TG)(tt:TT)(te:TE)(σ:St)(Q:VK)(H1:Hp):Prop:=∃ W:Nat->Nat->St->List V->Hp->Prop,(∃ m,W 0 m σ [] H1) /\
 ∀ k m τ ys H,W k m τ ys H->(J.stop k H/\∀ D,H D=none->Q (.ref D) (tJ H D (.lst ys)))\/(J.go k H/\ys.length<sizeLine/\∀ x H',J.yld k H x H'->g x τ H' λτ2 H2=>tt τ2 H2 λb H3 =>
   if b=true then te τ2 H3 λv H4=>∃ m',m'<m/\W (k+1) m' τ2 (ys++[v]) H4 else ∃ m',m'<m/\W (k+1) m' τ2 ys H3)
def HR(wi:TI)(hide:List Nat)(g:TG)(tt:TT)(te:TE):TE:=λσ H Q=>wi σ H λJ H1=>Gd J g tt te (wC hide σ) Q H1
theorem F0{X:Cx}{pins:List (Addr×Obj)}{σ:St}{H:Hp}{s:Shared}{elt tg iter:Expr}{ifs:List Expr}{scope:Scope}{pos:Pos}{hide:List Nat}{g:TG}{te:TE}{tt:TT}{J:It}{fp:List Addr}{it:Addr}{tn:Nat->Heap->Prop}{RR:Value->Addr->Result->Shared->Prop}{Q:VK}{E:Value->Shared->Prop}
  (hc:X.calm=true) (S:CompS X.N X.env.scope scope hide)
  (hg:∀ s2 H2 fp pins C,PG (uY X scope s2 H2 fp pins C) tg g) (ht:∀ s2 H2 fp pins C,PTs (uY X scope s2 H2 fp pins C) ifs tt) (he:∀ s2 H2 fp pins C,PE (uY X scope s2 H2 fp pins C) elt te)
  (I:Inv X pins σ H s) (T:Turn X.prog X.w X.K tg J fp it tn) (st:tn 0 s.heap) (hf:∀ b∈fp,vg X pins H b)
  (h:∃ W:Nat->Nat->St->List V->Hp->Prop,(∃ m,W 0 m (wC hide σ) [] H) /\
   ∀ k m τ ys H,W k m τ ys H->(J.stop k H/\∀ D,H D=none->Q (.ref D) (tJ H D (.lst ys)))\/(J.go k H/\ys.length<sizeLine/\∀ x H',J.yld k H x H'->g x τ H' λτ2 H2=>tt τ2 H2 λb H3 =>
    if b=true then te τ2 H3 λv H4=>∃ m',m'<m/\W (k+1) m' τ2 (ys++[v]) H4 else ∃ m',m'<m/\W (k+1) m' τ2 ys H3))
  (hRR:∀ D C s' ys H',Inv X pins σ (tJ H' D (.lst ys)) s'->vg X pins (tJ H' D (.lst ys)) C->(∃ m,s'.heap.Ns C m)->Q (.ref D) (tJ H' D (.lst ys))->RR (.ref D) C (.ok .next) s') :
  wpAny (model X.prog X.w) X.A (newList []) (λacc s3=>wpAny (model X.prog X.w) X.A (newFunctionEnv scope X.env.globals (um X.env.cells scope.names []) [] X.env.qual none .none (some X.env)) (λcenv s4 =>
   codeAny (model X.prog X.w) X.A (.compStart (.ListComp elt [⟨tg,iter,ifs,0⟩] scope pos) 0 (.ref it) acc { cenv with scope:=relabel scope X.env }) (RR acc cenv.locals) s4) E s3) E s:=by
 obtain⟨W,⟨m0,w0⟩,zd⟩:=h;refine wpAny_newList (He ?_) (by simp);dsimp only;generalize hH2:s.heap.push { cls:=.type "list",data:=.seq ([]:List Value).toArray }=H2;have hC:H2.objs.size=s.heap.objs.size+1:=by rw[← hH2,Heap.size_push]
 have k2:∀ b o,H2.get? b=some o->(pushCells (H2.push { cls:=.type "dict",data:=.dict #[] }) scope.names).get? b=some o:=λb o e=>pushCells_keeps _ _ b o (ηH _ e);have hcl:∀ p∈cellsFrom (H2.objs.size+1) scope.names (um X.env.cells scope.names []),p∈um X.env.cells scope.names []\/(pushCells (H2.push { cls:=.type "dict",data:=.dict #[] }) scope.names).IsCell p.2 none:=λp hp=>by
  rw[← Heap.size_push H2 { cls:=.type "dict",data:=.dict #[] }] at hp;exact zQ hp
 have hns₁:(pushCells (H2.push { cls:=.type "dict",data:=.dict #[] }) scope.names).Ns H2.objs.size λ_=>none:=(Heap.Ns.new H2 (.type "dict")).keeps (pushCells_keeps _ _);generalize pushCells (H2.push { cls:=.type "dict",data:=.dict #[] }) scope.names=h₁ at k2 hcl hns₁ ⊢;have k1:∀ b o,s.heap.get? b=some o->h₁.get? b=some o:=λb o e=>k2 b o (hH2 ▸ ηH _ e);have hDC:s.heap.objs.size≠H2.objs.size:=by rw[hC];exact aZ (bX _)
 have eD:h₁.get? s.heap.objs.size=some (ye [] 0):=k2 _ _ (hH2 ▸ ηG _ rfl);have hfo:∀ b∈fp,∃ o,s.heap.get? b=some o:=λb hb=>let ⟨o,e,_⟩:=T.obj _ _ st b hb;⟨o,e⟩;have hle:s.heap.objs.size<=H2.objs.size:=by rw[hC];exact Nat.le_succ _
 have I1:=NK (tk:=s.toks) S I hf hfo hle (aq _) hDC k1 hcl hns₁ eD (λv z=>by have z':Data.seq _ _=Data.cell v:=z;cases z');have sub:∀ x c,(cellsFrom (H2.objs.size+1) scope.names (um X.env.cells scope.names [])).lookup x=some c->X.env.cells.lookup x=some c\/H2.objs.size+1<=c:=λx c e=>(yn (λy hy e=>I.ok.has y.1 (S.free y hy e)) (tQ e)).imp (·.1) (·.1);have st1:tn 0 h₁:=T.keep _ _ _ st λb _ o e=>k1 b o e;have lp:codeAny (model X.prog X.w) X.A (.compLoop (.ListComp elt [⟨tg,iter,ifs,0⟩] scope pos) 0 (.ref it) (.ref s.heap.objs.size) (compEnvC scope (cellsFrom (H2.objs.size+1) scope.names (um X.env.cells scope.names [])) H2.objs.size X.env)) (RR (.ref s.heap.objs.size) H2.objs.size)
   { s with heap:=h₁ }:=by
  refine Md (Y:=uY X scope s H fp pins H2.objs.size) (Z:=λys H=>∀ D,H D=none->Q (.ref D) (tJ H D (.lst ys))) T hc (hg _ _ _ _ _) (ht _ _ _ _ _) (he _ _ _ _ _) (λ_ _ z=>z) (λob H' hn b hb=>?_) (aq _) (λx c e z=>?_) (λp hp z=>?_) zd (λτ H' s' ys its n J rv hz q=>?_) I1 st1 (λb hb=>(hf b hb).1) w0
  ·obtain⟨f0,f1,f2,f3,f4,f5⟩:=hf b hb;obtain⟨o,e⟩:=hfo b hb;have lb:=ηL e;refine⟨hn b hb,aZ (aD lb hle),λz=>?_,.inl hb,λx c e=>(sub x c e).elim (f4 x c) λz=>de (aD lb (bq hle (cK z))),λp hp=>?_⟩
   ·rcases ao.mp (I.stkSub b z) with q|q
    ·exact f1 q
    ·exact f2 q
   ·rcases aW.mp hp with z|z
    ·exact f5 p z
    ·have e:p=(s.heap.objs.size,ob):=by simpa using z
     subst e;exact de lb
  ·rcases sub x c e with w|w
   ·obtain⟨v,o,ho,_⟩:=I.cell x c w;exact absurd (ηL ho) (by rw[z];exact bc _)
   ·rw[z,hC] at w;exact absurd (cK w) (Nat.not_succ_le_self _)
  ·exact absurd (ηL (I.pin p hp).1) (by rw[z];exact bc _)
  ·obtain⟨_,nD,_⟩:=J.pin _ (aG _ av);have nC:H' H2.objs.size=none:=J.free;refine hRR _ _ s' ys H' (NJ I hf (aq _) J av rv hz) (I.fpOk hle ?_) ?_ (q _ nD)
   ·rw[sS (Ne.symm hDC)];exact nC
   ·obtain⟨m,hm,_⟩:=J.loc;exact⟨m,hm⟩
 exact codeAny_compStart_list lp (T.self X.A 0 _ _ _ st1 lp)
section
variable{X:Cx}{elt tg iter:Expr}{ifs:List Expr}{scope:Scope}{pos:Pos}{hide:List Nat}{wi:TI}{g:TG}{te:TE}{tt:TT}
theorem Cf(hc:X.calm=true)(S:CompS X.N X.env.scope scope hide)(hi:PI X tg iter wi)
  (hg:∀ s2 H2 fp pins C,PG (uY X scope s2 H2 fp pins C) tg g) (ht:∀ s2 H2 fp pins C,PTs (uY X scope s2 H2 fp pins C) ifs tt) (he:∀ s2 H2 fp pins C,PE (uY X scope s2 H2 fp pins C) elt te)
  (hs:∀ x,foldedSetIterable iter X.env x=pure x:=by intro _;rfl):PE X (.ListComp elt [⟨tg,iter,ifs,0⟩] scope pos) (HR wi hide g tt te):=by
 intro pins s σ H Q I h;rw[eval_ListComp];refine wpAny_comprehension_free (use:=none) rfl hs (yp λy hy e=>I.ok.has y.1 (S.free y hy e)) S.kind S.loc (tz (hi pins s σ H _ I h) λv s1 h1=>tz h1 λitv s2 h2=>?_);obtain⟨it,fp,tn,J,H2,e,I2,T,st2,f2,q2⟩:=h2;subst e;refine F0 (RR:=λacc C=>compPost (model X.prog X.w) X.A X.xe none (EP X pins σ Q) acc C) hc S hg ht he I2 T st2 f2 q2 λD C s' ys H' I' fC hN q=>?_;obtain⟨m,hm⟩:=hN;obtain⟨f0,f1,f2,f3,f4,f5⟩:=fC;refine⟨m,hm,λh' sb=>⟨.ref D,_,?_,rfl,q⟩⟩;exact I'.turned (t':=s'.toks) (λb o hb e=>(sb.2 b hb).trans e) f0 f1 f3 f4 f5
theorem Cc(hc:X.calm=true)(hN:X.N.Nodup)(hy:X.N[i]? = some y)(hl:AZ X.env.scope y)(S:CompS X.N X.env.scope scope hide)(hi:PI X tg iter wi)
  (hg:∀ s2 H2 fp pins C,PG (uY X scope s2 H2 fp pins C) tg g) (ht:∀ s2 H2 fp pins C,PTs (uY X scope s2 H2 fp pins C) ifs tt) (he:∀ s2 H2 fp pins C,PE (uY X scope s2 H2 fp pins C) elt te)
  (hs:∀ x,foldedSetIterable iter X.env x=pure x:=by intro _;rfl)
  (hsw:swapsWith (.ListComp elt [⟨tg,iter,ifs,0⟩] scope pos) (some (.Name y py)) spos.line X.env=pure true:=by rfl)
  (hf:X.fn y=true\/X.env.scope.names.lookup y=some .local:=by first|exact .inl rfl|exact .inr rfl|assumption) :
  PS X (.Assign [.Name y py] (.ListComp elt [⟨tg,iter,ifs,0⟩] scope pos) spos) (λD σ H=>HR wi hide g tt te σ H λv H1=>D.nx (σ.set i (some v)) H1):=by
 intro pins s σ H D I h;rw[exec_Assign_Name_used _ _ _ _ hsw];refine ηB (wpAny_standAt (ηB ?_));show wpAny _ X.A (do let _ ← comprehension (.ListComp elt [⟨tg,iter,ifs,0⟩] scope pos) scope X.env _ (newList []) false (eval iter X.env) (some (assign (.Name y py) X.env))) _ _ s;refine ηB (tz (wpAny_comprehension_free (use:=some (assign (.Name y py) X.env)) (Q:=λ_ s'=>SP X pins D .next s') rfl hs (yp λy hy e=>I.ok.has y.1 (S.free y hy e)) S.kind S.loc
  (tz (hi pins s σ H _ I h) λv s1 h1=>tz h1 λitv s2 h2=>?_)) (λ_ s' hq=>ηP (ηP hq)))
 obtain⟨it,fp,tn,J,H2,e,I2,T,st2,f2,q2⟩:=h2;subst e;refine F0 (Q:=λv H1=>D.nx (σ.set i (some v)) H1) (RR:=λacc C=>compPost (model X.prog X.w) X.A X.xe (some (assign (.Name y py) X.env)) (λ_ s'=>SP X pins D .next s') acc C) hc S hg ht he I2 T st2 f2 q2 λA C s' ys H' I' fC hNs q=>?_;obtain⟨m,hm⟩:=hNs;obtain⟨f0,f1,f2,f3,f4,f5⟩:=fC;show wpAny _ X.A (assign (.Name y py) X.env (.ref A)) _ _ s';refine wpAny_assign_Name (yF I' hN hy hl (v:=.ref A) rfl (λs'' I'' hch=>?_) hf);obtain⟨a,sb,ha⟩:=hch;have nC:C≠a:=by
  rcases ha with z|z
  ·rw[z];exact f1
  ·exact Ne.symm (f4 _ _ z)
 refine⟨m,hm.sameBut sb nC,λh3 sb3=>⟨_,_,?_,q⟩⟩;exact I''.turned (t':=s''.toks) (λb o hb e=>(sb3.2 b hb).trans e) f0 f1 f3 f4 f5
end
def Lt2(n:Nat)(i:Int):Prop:=i.natAbs<2^n
theorem Lt2.mono(h:Lt2 n i)(l:n<=m):Lt2 m i:=aD h (da (by decide) l)
theorem Lt2.mul(h:Lt2 n i)(l:Lt2 m j):Lt2 (n+m) (i*j):=by
 unfold Lt2;rw[bw,eH];exact Nat.mul_lt_mul'' h l
theorem Lt2.add(h:Lt2 n i)(l:Lt2 n j):Lt2 (n+1) (i+j):=by
 unfold Lt2 at *;rw[Nat.pow_succ];omega
theorem Lt2.sub(h:Lt2 n i)(l:Lt2 n j):Lt2 (n+1) (i-j):=by
 unfold Lt2 at *;rw[Nat.pow_succ];omega
theorem Lt2.of(b:Nat)(h:i.natAbs<=b)(l:b<2^n):Lt2 n i:=cP h l
theorem Lt2.le(h:Lt2 n i)(l:j.natAbs<=i.natAbs):Lt2 n j:=cP l h
def CMulB(i j:Int):Prop:=∃ n m,Lt2 n i/\Lt2 m j/\n+m<=100000000
theorem CMulB.ok(h:CMulB i j):IntMulOk i j:=by
 obtain⟨n,m,h1,h2,h3⟩:=h;have a:=PyProof.Rows.intBits_le h1;have b:=PyProof.Rows.intBits_le h2;unfold IntMulOk;intro z;simp only[bh,decide_eq_true_eq] at z;have z2:((Builtin.Int.intBits i:Int)+(Builtin.Int.intBits j:Int)) > ((2^27:Nat):Int):=of_decide_eq_true z.2;have e:(2^27:Nat)=134217728:=by decide
 rw[e] at z2;omega
def t5(i j:Int):Prop:=j≠0/\∃ n,Lt2 n j/\n<=100000000
theorem Inv.pyl{X:Cx}{pins:List (Addr×Obj)}{σ:St}{H:Hp}{s:Shared}{k:Nat}(I:Inv X pins σ H s)(hr:Room k X.A):PySem.PylongRoom (model X.prog X.w) X.A s:=by
 obtain⟨e,l,h1,h2,h3,h4,h5⟩:=I.ok.rn;exact PySem.PylongRoom.of I.nolimit (by have:=hr.dp;show X.A.depth+100<_;omega) (PySem.SeerAt.of (I.ok.sr.1.keeps I.bk) I.ok.sr.2 (by rw[I.ok.frames,h1]) h2 h3 h4 h5)
theorem N3{X:Cx}{f:Value->Value->Sem Value}{C:Int->Int->Prop}{g:Int->Int->Int}{k:Nat}(hr:Room k X.A)
  (rule:∀(i j:Int) (t u:Tok) (s:Shared) (Q:Value->Shared->Prop) (E:Value->Shared->Prop),PySem.PylongRoom (model X.prog X.w) X.A s->C i j->Q (.int (g i j) s.toks) { s with toks:=s.toks+1 }->wpAny (model X.prog X.w) X.A (f (.int i t) (.int j u)) Q E s) :
  OpR X f (rI C λi j=>.int (g i j)):=by
 intro pins s σ H x y v u Q I rx ry h;obtain⟨i,j,rfl,rfl,hc,q⟩:=h;obtain⟨t,rfl⟩:=rx;obtain⟨t',rfl⟩:=ry;exact rule i j t t' s _ _ (Inv.pyl I hr) hc ⟨.int (g i j),H,I.tok _,⟨_,rfl⟩,q⟩
section
variable{X:Cx}
theorem GQ:OpR X (binaryOp .Mult) (rI CMulB λi j=>.int (i*j)):=Ih λ_ _ _ _ _ _ _ hc q=>mul_int q hc.ok
theorem Az{k:Nat}(hr:Room k X.A):OpR X (binaryOp .FloorDiv) (rI t5 λi j=>.int (i.fdiv j)):=N3 hr λ_ _ _ _ _ _ _ hp hc q=>floordiv_int hc.1 q (.inr hp)
theorem E8:OpR X (inplaceOp .Mult) (rI CMulB λi j=>.int (i*j)):=Ih λ_ _ _ _ _ _ _ hc q=>imul_int q hc.ok
theorem Dy(hr:Room k X.A):OpR X (inplaceOp .FloorDiv) (rI t5 λi j=>.int (i.fdiv j)):=N3 hr λ_ _ _ _ _ _ _ hp hc q=>ifloordiv_int hc.1 q (.inr hp)
end
inductive DV where
 | int (i:Int)|str (x:Str)|non|bl (b:Bool)|tup (xs:List DV)|lst (xs:List DV)
mutual
def Rep(K:Frag)(H:Hp):DV->V->Prop
 | .int i,v=>v = .int i
 | .str x,v=>v = .str x
 | .non,v=>v = .non
 | .bl b,v=>v = .bl b
 | .tup ds,v=>∃ a vs,v = .ref a/\SqT K H a vs/\Reps K H ds vs
 | .lst ds,v=>∃ a vs,v = .ref a/\SqL K H a vs/\Reps K H ds vs
def Reps(K:Frag)(H:Hp):List DV->List V->Prop
 | [],vs=>vs=[]
 | d::ds,vs=>∃ v r,vs=v::r/\Rep K H d v/\Reps K H ds r
end
mutual
def DV.pl:DV->Bool
 | .int _=>true | .str _=>true | .non=>true | .bl _=>false
 | .tup ds=>DV.pls ds
 | .lst ds=>DV.pls ds
def DV.pls:List DV->Bool
 | []=>true
 | d::ds=>DV.pl d && DV.pls ds
end
mutual
def DV.dp:DV->Nat
 | .tup ds=>DV.dps ds+1
 | .lst ds=>DV.dps ds+1
 | _=>0
def DV.dps:List DV->Nat
 | []=>0
 | d::ds=>max (DV.dp d) (DV.dps ds)
end
theorem SqT.same{K:Frag}{H H':Hp}{a:Addr}{xs:List V}(e:Same H H')(h:SqT K H a xs):SqT K H' a xs:=by
 rcases h with (h|⟨o,h⟩)|h
 ·exact .inl (.inl (e _ _ h))
 ·exact .inl (.inr ⟨o,e _ _ h⟩)
 ·exact .inr h
theorem Reps.length{K:Frag}{H:Hp}:∀{ds:List DV} {vs:List V},Reps K H ds vs->ds.length=vs.length
 | [],vs,h=>by
  have h':vs=[]:=by unfold Reps at h;exact h
  rw[h'];rfl
 | d::ds,vs,h=>by
  unfold Reps at h;obtain⟨v,r,e,_,h'⟩:=h;rw[e,aE,aE,Reps.length h']
mutual
theorem Rep.same{K:Frag}{H H':Hp}(e:Same H H'):∀{d:DV} {v:V},Rep K H d v->Rep K H' d v
 | .int i,v,h=>by unfold Rep at *;exact h
 | .str i,v,h=>by unfold Rep at *;exact h
 | .non,v,h=>by unfold Rep at *;exact h
 | .bl i,v,h=>by unfold Rep at *;exact h
 | .tup ds,v,h=>by
  unfold Rep at *;obtain⟨a,vs,h1,h2,h3⟩:=h;exact⟨a,vs,h1,h2.same e,Reps.same e h3⟩
 | .lst ds,v,h=>by
  unfold Rep at *;obtain⟨a,vs,h1,h2,h3⟩:=h;exact⟨a,vs,h1,e.seq h2,Reps.same e h3⟩
theorem Reps.same{K:Frag}{H H':Hp}(e:Same H H'):∀{ds:List DV} {vs:List V},Reps K H ds vs->Reps K H' ds vs
 | [],v,h=>by unfold Reps at *;exact h
 | d::ds,vs,h=>by
  unfold Reps at *;obtain⟨v,r,h1,h2,h3⟩:=h;exact⟨v,r,h1,Rep.same e h2,Reps.same e h3⟩
end
section
variable{X:Cx}{pins:List (Addr×Obj)}{σ:St}{H:Hp}{s:Shared}
mutual
theorem Rep.inj(I:Inv X pins σ H s):∀{d d':DV} {v:V},Rep X.K H d v->Rep X.K H d' v->d=d'
 | .int i,d',v,h,h'=>by
  unfold Rep at h;subst h;cases d' <;> unfold Rep at h' <;> first|(cases h';done)|(cases h';rfl)|(obtain⟨_,_,e,_⟩:=h';cases e)
 | .str i,d',v,h,h'=>by
  unfold Rep at h;subst h;cases d' <;> unfold Rep at h' <;> first|(cases h';done)|(cases h';rfl)|(obtain⟨_,_,e,_⟩:=h';cases e)
 | .non,d',v,h,h'=>by
  unfold Rep at h;subst h;cases d' <;> unfold Rep at h' <;> first|(cases h';done)|(cases h';rfl)|rfl|(obtain⟨_,_,e,_⟩:=h';cases e)
 | .bl i,d',v,h,h'=>by
  unfold Rep at h;subst h;cases d' <;> unfold Rep at h' <;> first|(cases h';done)|(cases h';rfl)|(obtain⟨_,_,e,_⟩:=h';cases e)
 | .tup ds,d',v,h,h'=>by
  unfold Rep at h;obtain⟨a,vs,rfl,h2,h3⟩:=h;cases d' with
  | tup ds' =>
   unfold Rep at h';obtain⟨a',vs',e,h2',h3'⟩:=h';cases e;have:=I.tuple_inj h2 h2';subst this;rw[Reps.inj I h3 h3']
  | lst ds' =>
   unfold Rep at h';obtain⟨a',vs',e,h2',h3'⟩:=h';cases e;obtain⟨_,_,p,_⟩:=I.tuple h2;obtain⟨_,_,p',_⟩:=I.list h2';exact absurd rfl (SeqAt.ne_of_list_tuple p'.isList p)
  | _=>unfold Rep at h';cases h'
 | .lst ds,d',v,h,h'=>by
  unfold Rep at h;obtain⟨a,vs,rfl,h2,h3⟩:=h;cases d' with
  | lst ds' =>
   unfold Rep at h';obtain⟨a',vs',e,h2',h3'⟩:=h';cases e;have:=I.list_inj h2 h2';subst this;rw[Reps.inj I h3 h3']
  | tup ds' =>
   unfold Rep at h';obtain⟨a',vs',e,h2',h3'⟩:=h';cases e;obtain⟨_,_,p,_⟩:=I.tuple h2';obtain⟨_,_,p',_⟩:=I.list h2;exact absurd rfl (SeqAt.ne_of_list_tuple p'.isList p)
  | _=>unfold Rep at h';cases h'
theorem Reps.inj(I:Inv X pins σ H s):∀{ds ds':List DV} {vs:List V},Reps X.K H ds vs->Reps X.K H ds' vs->ds=ds'
 | [],ds',vs,h,h'=>by
  unfold Reps at h;subst h;cases ds' with
  | nil=>rfl
  | cons d r=>unfold Reps at h';obtain⟨_,_,e,_⟩:=h';cases e
 | d::ds,ds',vs,h,h'=>by
  unfold Reps at h;obtain⟨v,r,e,h1,h2⟩:=h;cases ds' with
  | nil=>unfold Reps at h';rw[h'] at e;cases e
  | cons d' r' =>
   unfold Reps at h';obtain⟨v',r2,e',h1',h2'⟩:=h';rw[e] at e';cases e';rw[Rep.inj I h1 h1',Reps.inj I h2 h2']
end
end
theorem all_cons:(List.range (n+1)).all e=(e 0 && (List.range n).all λj=>e (j+1)):=by
 rw[eX,dA,eY];rfl
theorem zB(h:n=m):((List.range (min n m)).all e && n == m)=(List.range n).all e:=by
 subst h;rw[fg];simp
section
variable{X:Cx}{pins:List (Addr×Obj)}{σ:St}{H:Hp}{s:Shared}
mutual
theorem N7(I:Inv X pins σ H s):∀(d d':DV) (A:Around) {x y:V} {u v:Value},Rep X.K H d x->Rep X.K H d' y->RelV x u->RelV y v->d.pl=true->d'.pl=true->A.units+d.dp+1<cLine ->
  ∃ b,SeqAt.EqAt A s u v b/\(b=true↔d=d')
 | .bl _,_,_,_,_,_,_,_,_,_,_,p,_,_=>by unfold DV.pl at p;cases p
 | _,.bl _,_,_,_,_,_,_,_,_,_,_,p,_=>by unfold DV.pl at p;cases p
 | .int i,d',A,x,y,u,v,h,h',rx,ry,_,_,hu=>by
  have hu:A.units<cLine:=by omega
  unfold Rep at h;subst h;obtain⟨t,rfl⟩:=rx;cases d' with
  | bl b=>contradiction
  | int j =>
   unfold Rep at h';subst h';obtain⟨t',rfl⟩:=ry;exact⟨_,SeqAt.EqAt.int_int _ _ _ _,by rw[beq_iff_eq];exact⟨λe=>by rw[e],λe=>by cases e;rfl⟩⟩
  | str z =>
   unfold Rep at h';subst h';obtain⟨t',rfl⟩:=ry;exact⟨_,SeqAt.EqAt.int_str _ _ _ _,by simp⟩
  | non =>
   unfold Rep at h';subst h';cases ry;exact⟨_,SeqAt.EqAt.int_none _ _,by simp⟩
  | tup ds' =>
   unfold Rep at h';obtain⟨a,vs,rfl,h2,_⟩:=h';cases ry;obtain⟨_,_,p,_⟩:=I.tuple h2;exact⟨_,SeqAt.EqAt.int_tuple _ _ p hu,by simp⟩
  | lst ds' =>
   unfold Rep at h';obtain⟨a,vs,rfl,h2,_⟩:=h';cases ry;obtain⟨_,_,p,_⟩:=I.list h2;exact⟨_,SeqAt.EqAt.int_list _ _ p.isList hu,by simp⟩
 | .str i,d',A,x,y,u,v,h,h',rx,ry,_,_,hu=>by
  have hu:A.units<cLine:=by omega
  unfold Rep at h;subst h;obtain⟨t,rfl⟩:=rx;cases d' with
  | bl b=>contradiction
  | int j =>
   unfold Rep at h';subst h';obtain⟨t',rfl⟩:=ry;exact⟨_,SeqAt.EqAt.str_int _ _ _ _,by simp⟩
  | str z =>
   unfold Rep at h';subst h';obtain⟨t',rfl⟩:=ry;exact⟨_,SeqAt.EqAt.str_str _ _ _ _,by rw[beq_iff_eq];exact⟨λe=>by rw[e],λe=>by cases e;rfl⟩⟩
  | non =>
   unfold Rep at h';subst h';cases ry;exact⟨_,SeqAt.EqAt.str_none _ _,by simp⟩
  | tup ds' =>
   unfold Rep at h';obtain⟨a,vs,rfl,h2,_⟩:=h';cases ry;obtain⟨_,_,p,_⟩:=I.tuple h2;exact⟨_,SeqAt.EqAt.str_tuple _ _ p hu,by simp⟩
  | lst ds' =>
   unfold Rep at h';obtain⟨a,vs,rfl,h2,_⟩:=h';cases ry;obtain⟨_,_,p,_⟩:=I.list h2;exact⟨_,SeqAt.EqAt.str_list _ _ p.isList hu,by simp⟩
 | .non,d',A,x,y,u,v,h,h',rx,ry,_,_,hu=>by
  have hu:A.units<cLine:=by omega
  unfold Rep at h;subst h;cases rx;cases d' with
  | bl b=>contradiction
  | int j =>
   unfold Rep at h';subst h';obtain⟨t',rfl⟩:=ry;exact⟨_,SeqAt.EqAt.none_int _ _,by simp⟩
  | str z =>
   unfold Rep at h';subst h';obtain⟨t',rfl⟩:=ry;exact⟨_,SeqAt.EqAt.none_str _ _,by simp⟩
  | non =>
   unfold Rep at h';subst h';cases ry;exact⟨_,SeqAt.EqAt.same _,by simp⟩
  | tup ds' =>
   unfold Rep at h';obtain⟨a,vs,rfl,h2,_⟩:=h';cases ry;obtain⟨_,_,p,_⟩:=I.tuple h2;exact⟨_,SeqAt.EqAt.none_tuple p hu,by simp⟩
  | lst ds' =>
   unfold Rep at h';obtain⟨a,vs,rfl,h2,_⟩:=h';cases ry;obtain⟨_,_,p,_⟩:=I.list h2;exact⟨_,SeqAt.EqAt.none_list p.isList hu,by simp⟩
 | .tup ds,d',A,x,y,u,v,h,h',rx,ry,pp,pp',hu=>by
  have hu0:A.units<cLine:=by omega
  have hd:=h;unfold Rep at h;obtain⟨a,vs,rfl,h2,h3⟩:=h;cases rx;obtain⟨its,rv,p,_⟩:=I.tuple h2;cases d' with
  | bl b=>contradiction
  | int j =>
   unfold Rep at h';subst h';obtain⟨t',rfl⟩:=ry;exact⟨_,SeqAt.EqAt.tuple_int _ _ p hu0,by simp⟩
  | str z =>
   unfold Rep at h';subst h';obtain⟨t',rfl⟩:=ry;exact⟨_,SeqAt.EqAt.tuple_str _ _ p hu0,by simp⟩
  | non =>
   unfold Rep at h';subst h';cases ry;exact⟨_,SeqAt.EqAt.tuple_none p hu0,by simp⟩
  | lst ds' =>
   unfold Rep at h';obtain⟨a',vs',rfl,h2',_⟩:=h';cases ry;obtain⟨_,_,p',_⟩:=I.list h2';exact⟨_,SeqAt.EqAt.tuple_list p p'.isList hu0,by simp⟩
  | tup ds' =>
   have hd':=h';unfold Rep at h';obtain⟨a',vs',rfl,h2',h3'⟩:=h';cases ry;obtain⟨its',rv',p',_⟩:=I.tuple h2';by_cases e:a=a'
   ·subst e;exact⟨true,SeqAt.EqAt.same _,by simp[Rep.inj I hd hd']⟩
   ·unfold DV.pl at pp pp';unfold DV.dp at hu;obtain⟨f,hf,hi⟩:=BF I ds ds' A.in1 h3 h3' rv rv' pp pp' (by show A.units+1+_+1<_;omega);refine⟨_,SeqAt.EqAt.of_refs e (SeqAt.RcAt.tuples p p' hu0 (e:=f) λj h1 h2=>?_),?_⟩
    ·have q:=hf j (by simpa using h1) (by simpa using h2);simpa using q
    ·simp only[ak,DV.tup.injEq];exact hi
 | .lst ds,d',A,x,y,u,v,h,h',rx,ry,pp,pp',hu=>by
  have hu0:A.units<cLine:=by omega
  have hd:=h;unfold Rep at h;obtain⟨a,vs,rfl,h2,h3⟩:=h;cases rx;obtain⟨its,rv,p,_⟩:=I.list h2;cases d' with
  | bl b=>contradiction
  | int j =>
   unfold Rep at h';subst h';obtain⟨t',rfl⟩:=ry;exact⟨_,SeqAt.EqAt.list_int _ _ p.isList hu0,by simp⟩
  | str z =>
   unfold Rep at h';subst h';obtain⟨t',rfl⟩:=ry;exact⟨_,SeqAt.EqAt.list_str _ _ p.isList hu0,by simp⟩
  | non =>
   unfold Rep at h';subst h';cases ry;exact⟨_,SeqAt.EqAt.list_none p.isList hu0,by simp⟩
  | tup ds' =>
   unfold Rep at h';obtain⟨a',vs',rfl,h2',_⟩:=h';cases ry;obtain⟨_,_,p',_⟩:=I.tuple h2';exact⟨_,SeqAt.EqAt.list_tuple p.isList p' hu0,by simp⟩
  | lst ds' =>
   have hd':=h';unfold Rep at h';obtain⟨a',vs',rfl,h2',h3'⟩:=h';cases ry;obtain⟨its',rv',p',_⟩:=I.list h2';by_cases e:a=a'
   ·subst e;exact⟨true,SeqAt.EqAt.same _,by simp[Rep.inj I hd hd']⟩
   ·unfold DV.pl at pp pp';unfold DV.dp at hu;obtain⟨f,hf,hi⟩:=BF I ds ds' A.in1 h3 h3' rv rv' pp pp' (by show A.units+1+_+1<_;omega);by_cases hz:its.length=its'.length
    ·refine⟨_,SeqAt.EqAt.of_refs e (SeqAt.RcAt.lists p.isList p'.isList (by simpa using hz) hu0 (e:=f) λj h1 h2=>?_),?_⟩
     ·have q:=hf j (by simpa using h1) (by simpa using h2);simpa using q
     ·simp only[ak,DV.lst.injEq];rw[zB hz] at hi;exact hi
    ·refine⟨_,SeqAt.EqAt.of_refs e (SeqAt.RcAt.lists_lengths p.isList p'.isList (by simpa using hz) hu0),?_⟩;simp only[cC,false_iff,DV.lst.injEq];intro z;have l1:=h3.length;have l2:=h3'.length;rw[z] at l1;exact hz (by rw[← rv.length,← rv'.length,← l1,← l2])
theorem BF(I:Inv X pins σ H s):∀(ds ds':List DV) (A:Around) {xs ys:List V} {us vs:List Value},Reps X.K H ds xs->Reps X.K H ds' ys->Vals xs us->Vals ys vs->DV.pls ds=true->DV.pls ds'=true->A.units+DV.dps ds+1<cLine ->
  ∃ e:Nat->Bool,(∀ j (h1:j<us.length) (h2:j<vs.length),SeqAt.EqAt A s us[j] vs[j] (e j))/\((((List.range (min us.length vs.length)).all e && us.length == vs.length)=true)↔ds=ds')
 | [],ds',A,xs,ys,us,vs,h,h',rx,ry,_,_,_=>by
  unfold Reps at h;subst h;cases rx;refine⟨λ_=>true,λj h1 _=>absurd h1 (by simp),?_⟩;cases ds' with
  | nil=>unfold Reps at h';subst h';cases ry;simp
  | cons d r=>unfold Reps at h';obtain⟨_,_,rfl,_⟩:=h';cases ry;simp
 | d::ds,ds',A,xs,ys,us,vs,h,h',rx,ry,pp,pp',hu=>by
  unfold Reps at h;obtain⟨x,r,rfl,h1,h2⟩:=h;cases rx with
  | cons rx rxs =>
   cases ds' with
   | nil =>
    unfold Reps at h';subst h';cases ry;exact⟨λ_=>true,λj _ h2=>absurd h2 (by simp),by simp⟩
   | cons d' ds' =>
    unfold Reps at h';obtain⟨y,r',rfl,h1',h2'⟩:=h';cases ry with
    | cons ry rys =>
     unfold DV.pls at pp pp';rw[bh] at pp pp';unfold DV.dps at hu;obtain⟨b,hb,ib⟩:=N7 I d d' A h1 h1' rx ry pp.1 pp'.1 (by omega);obtain⟨e,he,ie⟩:=BF I ds ds' A h2 h2' rxs rys pp.2 pp'.2 (by omega);refine⟨λj=>match j with|0=>b|j+1=>e j,λj=>?_,?_⟩
     ·cases j with
      | zero=>exact λ_ _=>hb
      | succ j=>exact λq1 q2=>he j (by simpa using q1) (by simpa using q2)
     ·rw[aE,aE,Nat.succ_min_succ];have q:∀ n,(List.range (n+1)).all (λj=>match j with|0=>b|j+1=>e j)=(b && (List.range n).all e):=λn=>all_cons;rw[q];have q2:∀ n m:Nat,(n+1 == m+1)=(n == m):=λn m=>by
       rw[bT];simp
      rw[q2,Bool.and_assoc,bh,ib,ie,List.cons.injEq]
end
def K9(K:Frag)(A:Around)(neg:Bool):R2:=λx y H Q=>∃ ds ds',Rep K H (.tup ds) x/\Rep K H (.tup ds') y/\DV.pls ds=true/\DV.pls ds'=true/\A.units+DV.dps ds+2<cLine /\
 ∀ b,(b=true↔ds=ds')->Q (.bl (if neg then !b else b)) H
theorem JG:OpR X (compareOp .Eq) (K9 X.K X.A false):=by
 intro pins s σ H x y u v Q I rx ry h;obtain⟨ds,ds',h1,h2,p1,p2,hu,q⟩:=h;unfold Rep at h1 h2;obtain⟨a,vs,rfl,t1,r1⟩:=h1;obtain⟨a',vs',rfl,t2,r2⟩:=h2;cases rx;cases ry;obtain⟨its,rv,p,_⟩:=I.tuple t1;obtain⟨its',rv',p',_⟩:=I.tuple t2;obtain⟨f,hf,hi⟩:=BF I ds ds' X.A.in1 r1 r2 rv rv' p1 p2 (by show X.A.units+1+_+1<_;omega);refine SeqAt.RcAt.tuples p p' (by omega) (e:=f) (λj h1 h2=>?_) _ _ _ _ ⟨.bl _,H,I,rfl,q _ ?_⟩
 ·have q:=hf j (by simpa using h1) (by simpa using h2);simpa using q
 ·simp only[ak];exact hi
theorem JC:OpR X (compareOp .NotEq) (K9 X.K X.A true):=by
 intro pins s σ H x y u v Q I rx ry h;obtain⟨ds,ds',h1,h2,p1,p2,hu,q⟩:=h;unfold Rep at h1 h2;obtain⟨a,vs,rfl,t1,r1⟩:=h1;obtain⟨a',vs',rfl,t2,r2⟩:=h2;cases rx;cases ry;obtain⟨its,rv,p,_⟩:=I.tuple t1;obtain⟨its',rv',p',_⟩:=I.tuple t2;obtain⟨f,hf,hi⟩:=BF I ds ds' X.A.in1 r1 r2 rv rv' p1 p2 (by show X.A.units+1+_+1<_;omega);refine SeqAt.RcNeAt.tuples p p' (by omega) (e:=f) (λj h1 h2=>?_) _ _ _ _ ⟨.bl _,H,I,rfl,q _ ?_⟩
 ·have q:=hf j (by simpa using h1) (by simpa using h2);simpa using q
 ·simp only[ak];exact hi
theorem Da(bs:List Bool):(List.range bs.length).all (λj=>bs.getD j false)=bs.all id:=by
 induction bs with
 | nil=>rfl
 | cons b r ih =>
  rw[aE,all_cons,dA];exact congrArg (b && ·) ih
theorem FW(hc:X.calm=true):CallR X (.builtin "all") (λxs H Q=>∃ p,∃ bs:List Bool,xs=[.ref p]/\SqL X.K H p (bs.map V.bl)/\Q (.bl (bs.all id)) H):=by
 intro pins s σ H xs us Q I rv h;obtain⟨p,bs,rfl,hp,q⟩:=h;obtain⟨u,rfl,ru⟩:=rv.one;cases ru;obtain⟨its,rv',pl,_⟩:=I.list hp;refine call_all_walk (wpAny_pyIter_list pl.isList ?_);have e:∀ b o,s.heap.get? b=some o->(s.heap.push { cls:=.type "list_iterator",data:=.fields #[.ref p,.int 0 0] }).get? b=some o:=λb o e=>ηH _ e;have hne:p≠s.heap.objs.size:=by
  obtain⟨o,ho,_⟩:=pl.isList;exact aZ (ηL ho)
 have lb:bs.length=its.length:=by rw[← rv'.length,aa]
 refine⟨_,_,_,_,_,_,λj=>bs.getD j false,rfl,Walks.list (A:=X.A.in1) (I.ok.hd hc) _ p hne its.toArray,⟨⟨_,ηG _ rfl,rfl,rfl⟩,pl.isList.at λo ho=>e _ o ho⟩,?_,λh' tk hk=>?_⟩
 ·intro i v s Q E hv hq;have hv':its[i]? = some v:=by simpa using hv
  have hi:i<bs.length:=by
   rw[lb];exact (af.mp hv').1
  obtain⟨u,hu,ru⟩:=rv'.get (i:=i) (x:=.bl bs[i]) (by simp[hi]);rw[hv'] at hu;cases hu;cases ru;have:bs.getD i false=bs[i]:=by simp[List.getD,hi]
  have hq:Q (bs.getD i false) s:=hq;rw[this] at hq;exact wpAny_truthy_bool hq
 ·refine⟨.bl (bs.all id),H,I.kept (t':=tk) λb o ho=>hk b o ?_ (e b o ho),?_,q⟩
  ·simp only[aC];exact aZ (ηL ho)
  ·show Value.bool _=_;rw[← Da,lb];simp
end
structure Def (P:Program)(w:World)(K:Frag)(mg:Str->Option Value)(base:Heap)(x:Str)(k:Nat)(ps:List Str)(sp:Sp):Prop where
 ex:∃ f fd,FnOk P w K mg base CV k f fd ps sp/\mg x=some (.ref f)/\PySem.W.keepIn K (.ref f)=true/\Binds K fd ps []
theorem Def.of{P:Program}{w:World}{K:Frag}{mg:Str->Option Value}{base:Heap}{x q:Str}{k:Nat}{ps:List Str}{sp:Sp}{st:Stmt}{f:Addr}{fd:FuncData}(F:Fun K x q st f fd)(m:mg x=some (.ref f))(b:Binds K fd ps [])
  (ok:FnOk P w K mg base CV k f fd ps sp):Def P w K mg base x k ps sp:=⟨f,fd,ok,m,F.kp,b⟩
theorem Bg(g:Def X.prog X.w X.K X.mg X.base x j ps sp)(hr:Room k X.A)(ha:PA X (e::es) t)(hjk:j<=k:=by first|decide|omega|exact aq _)(hg:Gl X x:=by rfl)
  (hdb:(x == ("__debug__" : Str))=false:=by decide) (he:starEach (e::es) X.env=(false,eval e X.env)::starEach es X.env:=by rfl) (hpl:(backTo pos (starEach es X.env)).any (·.1)=false:=by rfl) :
  PE X (.Call (.Name x p) (e::es) [] pos) (Al sp [] E0 t):=by
 obtain⟨f,fd,F,m,kp,b⟩:=g.ex;exact GL F (hr.mono hjk) hg m kp b .nil Lk ha hdb he hpl
structure Bl (mg:Str->Option Value):Prop where
 len:mg "len" = none
 range:mg "range" = none
 all:mg "all" = none
 any:mg "any" = none
 abs:mg "abs" = none
 int:mg "int" = none
 bool:mg "bool" = none
 str:mg "str" = none
 list:mg "list" = none
 tuple:mg "tuple" = none
 dict:mg "dict" = none
 isinstance:mg "isinstance" = none
 enumerate:mg "enumerate" = none
 reversed:mg "reversed" = none
 sorted:mg "sorted" = none
 max:mg "max" = none
 min:mg "min" = none
 sum:mg "sum" = none
 zip:mg "zip" = none
structure Sm (f:Addr)(H H':Hp):Prop where
 app:∀ b o,b≠f->H b=some o->H' b=some o
 key:∀ l r,H f=some (.lst (.ref l::r))->∃ r',H' f=some (.lst (.ref l::r'))
instance {f:Addr}{H H':Hp}:CoeFun (Sm f H H') (λ_=>∀ b o,b≠f->H b=some o->H' b=some o):=⟨Sm.app⟩
theorem Sm.refl(H:Hp):Sm f H H:=⟨λ_ _ _ h=>h,λl r h=>⟨r,h⟩⟩
theorem Sm.trans(a:Sm f H H1)(b:Sm f H1 H2):Sm f H H2:=⟨λc o n h=>b.app c o n (a.app c o n h),λl r h=>by
 obtain⟨r1,h1⟩:=a.key l r h;exact b.key l r1 h1⟩
theorem Sm.new(h:H p=none)(o:HO):Sm f H (tJ H p o):=⟨λb u _ q=>by rw[sS (sY q h)];exact q,λl r q=>⟨r,by rw[sS (sY q h)];exact q⟩⟩
theorem Same.new(h:H p=none)(o:HO):Same H (tJ H p o):=λb u q=>by rw[sS (sY q h)];exact q
theorem Sm.free(e:Sm f H H')(hl:l≠f)(h:H' l=none):H l=none:=by
 cases q:H l with
 | none=>rfl
 | some o =>
  rw[e.app l o hl q] at h;cases h
end L2
namespace L2
open PySem
theorem BR:bootBuiltins "len" = some (.builtin "len"):=by decide +kernel
theorem Kh:bootBuiltins "abs" = some (.builtin "abs"):=by decide +kernel
theorem Kg:bootBuiltins "all" = some (.builtin "all"):=by decide +kernel
theorem Kf:bootBuiltins "any" = some (.builtin "any"):=by decide +kernel
theorem yB:bootBuiltins "isinstance" = some (.builtin "isinstance"):=by decide +kernel
theorem F5:bootBuiltins "int" = some (.type "int"):=by decide +kernel
theorem HI:bootBuiltins "bool" = some (.type "bool"):=by decide +kernel
theorem Kd:bootBuiltins "str" = some (.type "str"):=by decide +kernel
theorem xK:bootBuiltins "list" = some (.type "list"):=by decide +kernel
theorem AS:bootBuiltins "tuple" = some (.type "tuple"):=by decide +kernel
end L2
namespace L2
open PySem PySem.Spec PyProof.Rows
def M5(t u:TS):TS:=λD σ H=>∃ R:St->Hp->Prop,t { D with nx:=R } σ H/\∀ σ H,R σ H->u D σ H
theorem Cb{X:Cx}{st:Stmt}{more:List Stmt}{t u:TS}(h1:PS X st t)(h2:PSs X more u):PSs X (st::more) (M5 t u):=by
 intro pins s σ H D I h;obtain⟨R,a,b⟩:=h;refine wpAny_execs_cons (tz (h1 pins s σ H { D with nx:=R } I a) λf s1 q=>?_);cases f with
 | next =>
  obtain⟨σ1,H1,I1,r1⟩:=q;exact h2 pins s1 σ1 H1 D I1 (b σ1 H1 r1)
 | brk=>exact q
 | cont=>exact q
 | ret v=>exact q
section
variable{X:Cx}
theorem AY(K:Frag)(hK:X.K=K:=by rfl):IxR X (Jm K):=hK ▸ ix_list
theorem JQ(K:Frag)(hK:X.K=K:=by rfl):CallR X (.builtin "len") (λxs H Q=>∃ p ys,xs=[.ref p]/\(SqL K H p ys\/SqT K H p ys)/\Q (.int ys.length) H):=hK ▸ z6
theorem NN(K:Frag)(hc:X.calm=true:=by rfl)(hK:X.K=K:=by rfl):CallR X (.builtin "all") (λxs H Q=>∃ p,∃ bs:List Bool,xs=[.ref p]/\SqL K H p (bs.map V.bl)/\Q (.bl (bs.all id)) H):=hK ▸ FW hc
theorem Bs(K:Frag)(hK:X.K=K:=by rfl):CallR X (.type "list") (λxs H Q=>∃ p ys,xs=[.ref p]/\(SqL K H p ys\/SqT K H p ys)/\∀ l,H l=none->Q (.ref l) (tJ H l (.lst ys))):=hK ▸ zY
theorem Gk(K:Frag)(hK:X.K=K:=by rfl):CallR X (.type "tuple") (λxs H Q=>∃ p ys,xs=[.ref p]/\((SqL K H p ys/\∀ l,H l=none->Q (.ref l) (tJ H l (.tup ys)))\/(SqT K H p ys/\Q (.ref p) H))):=hK ▸ yA
def La(K:Frag)(neg:Bool):R2:=λx y H Q=>∃ ds ds',Rep K H (.tup ds) x/\Rep K H (.tup ds') y/\DV.pls ds=true/\DV.pls ds'=true/\DV.dps ds<=60/\∀ b,(b=true↔ds=ds')->Q (.bl (if neg then !b else b)) H
theorem OI(K:Frag)(hr:Room k X.A)(hK:X.K=K:=by rfl):OpR X (compareOp .Eq) (La K false):=by
 subst hK;intro pins s σ H x y u v Q I rx ry h;obtain⟨ds,ds',h1,h2,p1,p2,hu,q⟩:=h;exact JG pins s σ H x y u v Q I rx ry ⟨ds,ds',h1,h2,p1,p2,by have:=hr.units;omega,q⟩
theorem OC(K:Frag)(hr:Room k X.A)(hK:X.K=K:=by rfl):OpR X (compareOp .NotEq) (La K true):=by
 subst hK;intro pins s σ H x y u v Q I rx ry h;obtain⟨ds,ds',h1,h2,p1,p2,hu,q⟩:=h;exact JC pins s σ H x y u v Q I rx ry ⟨ds,ds',h1,h2,p1,p2,by have:=hr.units;omega,q⟩
end
end L2
namespace Fr
open L2
def cp(t b:Int):Int:=((Int.gcd t b:Nat):Int)
def part(t b:Int):Int:=if b<0 then -cp t b else cp t b
def top(t b:Int):Int:=t.fdiv (part t b)
def bot(t b:Int):Int:=b.fdiv (part t b)
theorem Fd(a b:Int):Int.gcd b (a.fmod b)=Int.gcd a b:=by
 rw[fj,Int.gcd_sub_mul_left_right,Int.gcd_comm]
theorem CF(a b:Int)(h:b≠0):(a.fmod b).natAbs<b.natAbs:=by
 rcases eh h with hb|hb
 ·have h1:=fM (-a) (b:=-b) (by omega);have h2:=fi (-a) (b:=-b) (by omega);have e:(-a).fmod (-b) = -(a.fmod b):=by
   rw[fj,fj,Int.neg_fdiv_neg,Int.neg_mul];omega
  omega
 ·have h1:=fM a hb;have h2:=fi a hb;omega
theorem xl(h:b≠0):0<cp t b:=by
 unfold cp;have:0<Int.gcd t b:=d8 (by rw[Ne,fH];exact λz=>h z.2);omega
theorem L7(h:b≠0):(cp t b).natAbs<=b.natAbs:=by
 unfold cp;rw[cn];exact dE (by omega) (fQ _ _)
theorem Cg(h:b≠0):part t b≠0:=by
 have:=xl (t:=t) h;unfold part;split <;> omega
theorem Ci(h:b≠0):(part t b).natAbs<=b.natAbs:=by
 have:=L7 (t:=t) h;unfold part;split
 ·rw[dS];exact this
 ·exact this
theorem of{p t' b':Int}(hp:p≠0)(hb:0<b')(hc:Int.gcd t' b'=1):top (p*t') (p*b')=t'/\bot (p*t') (p*b')=b':=by
 have e:part (p*t') (p*b')=p:=by
  unfold part cp;rw[Int.gcd_mul_left,hc,eI];rcases eh hp with h|h
  ·rw[if_pos (Int.mul_neg_of_neg_of_pos h hb)];omega
  ·rw[if_neg (Int.not_lt.mpr (Int.le_of_lt (aP h hb)))];omega
 unfold top bot;rw[e];exact⟨bZ _ hp,bZ _ hp⟩
theorem ex(h:b≠0):∃ p t' b',p≠0/\0<b'/\Int.gcd t' b'=1/\t=p*t'/\b=p*b':=by
 have g0:0<Int.gcd t b:=d8 (by rw[Ne,fH];exact λz=>h z.2);obtain⟨t1,e1⟩:=Int.gcd_dvd_left t b;obtain⟨b1,e2⟩:=fY t b;have hc:Int.gcd t1 b1=1:=by
  have q:Int.gcd ((Int.gcd t b:Int)*t1) ((Int.gcd t b:Int)*b1)=Int.gcd t b:=by rw[← e1,← e2]
  rw[Int.gcd_mul_left,cn] at q;exact eR g0 (by omega)
 have g1:(0:Int)<(Int.gcd t b:Int):=by omega
 by_cases hb:b<0
 ·refine⟨-(Int.gcd t b:Int),-t1,-b1,by omega,?_,by rw[Int.gcd_neg,Int.neg_gcd];exact hc,by rw[Int.neg_mul_neg];exact e1,by rw[Int.neg_mul_neg];exact e2⟩;rcases dD b1 0 with z|z|z
  ·omega
  ·rw[z,bC] at e2;omega
  ·have:=aP g1 z;omega
 ·refine⟨(Int.gcd t b:Int),t1,b1,by omega,?_,hc,e1,e2⟩;rcases dD b1 0 with z|z|z
  ·have:=dr g1 z;omega
  ·rw[z,bC] at e2;omega
  ·exact z
theorem times(h:b≠0)(hq:q≠0):top (t*q) (b*q)=top t b/\bot (t*q) (b*q)=bot t b:=by
 obtain⟨p,t',b',hp,hb,hc,rfl,rfl⟩:=ex (t:=t) h;have e:=of hp hb hc;rw[e.1,e.2];have m1:p*t'*q=(p*q)*t':=by rw[cI,bO t' q,cI]
 have m2:p*b'*q=(p*q)*b':=by rw[cI,bO b' q,cI]
 rw[m1,m2];exact of (cw hp hq) hb hc
theorem low(h:b≠0):0<bot t b/\top t b*b=t*bot t b/\Int.gcd (top t b) (bot t b)=1:=by
 obtain⟨p,t',b',hp,hb,hc,rfl,rfl⟩:=ex (t:=t) h;have e:=of hp hb hc;rw[e.1,e.2];refine⟨hb,?_,hc⟩;rw[Int.mul_left_comm,cI]
theorem vS(h:b≠0):(top t b).natAbs<=t.natAbs/\(bot t b).natAbs<=b.natAbs:=by
 obtain⟨p,t',b',hp,hb,hc,rfl,rfl⟩:=ex (t:=t) h;have e:=of hp hb hc;rw[e.1,e.2,bw,bw];have:0<p.natAbs:=by omega
 exact⟨cX _ this,cX _ this⟩
theorem self(hb:0<b)(hc:Int.gcd t b=1):top t b=t/\bot t b=b:=by
 have:=of (p:=1) (t':=t) (b':=b) (by decide) hb hc;rw[cT,cT] at this;exact this
theorem zc(hb:b≠0)(hd:0<d)(hc:Int.gcd c d=1)(h:t*d=c*b):top t b=c/\bot t b=d:=by
 have e1:=times (t:=t) (b:=b) (q:=d) hb (by omega);have e2:=times (t:=c) (b:=d) (q:=b) (by omega) hb;have e3:=self hd hc;rw[h,bO b d,e2.1,e2.2,e3.1,e3.2] at e1;exact⟨e1.1.symm,e1.2.symm⟩
end Fr
namespace L2
open PySem PySem.Spec PyProof.Rows
def NR(K:Frag)(H:Hp)(x:V)(t:Value):Prop:=TyOf K H x t\/(∃ a xs,x = .ref a/\SqT K H a xs/\t = .type "tuple")\/(∃ a xs,x = .ref a/\SqL K H a xs/\t = .type "list")
section
variable{X:Cx}{pins:List (Addr×Obj)}{σ:St}{H:Hp}{s:Shared}{A:Around}{E:Value->Shared->Prop}{Q:Value->Shared->Prop}
theorem JX(I:Inv X pins σ H s)(rx:RelV x u)(ty:NR X.K H x t)(e:PySem.W.kitOne X.K t c=some b)(h:∀ tk,Q (.bool b) { s with toks:=tk }) :
  wpAny (model X.prog X.w) A (call (.builtin "isinstance") [u,c]) Q E s:=by
 rcases ty with ty|⟨a,xs,rfl,hq,rfl⟩|⟨a,xs,rfl,hq,rfl⟩
 ·exact Dx I rx ty e h
 ·cases rx;obtain⟨its,rv,p,_⟩:=I.tuple hq;obtain⟨o,ho,hc,_⟩:=p;exact PySem.W.kia_one PySem.W.kitx_tuple I.kIn ⟨o,ho,hc⟩ e (λz=>nomatch z) h
 ·cases rx;obtain⟨its,rv,p,_⟩:=I.list hq;obtain⟨o,ho,hc,_⟩:=p.isList;exact PySem.W.kia_one PySem.W.kitx_list I.kIn ⟨o,ho,hc⟩ e (λz=>nomatch z) h
end
section
variable{X:Cx}
theorem OF(K:Frag)(hK:X.K=K:=by rfl):CallR X (.builtin "isinstance") (λxs H Q=>∃ x n t b,xs=[x,.ty n]/\NR K H x t/\PySem.W.kitOne K t (.type n)=some b/\Q (.bl b) H):=by
 subst hK;intro pins s σ H xs us Q I rv h;obtain⟨x,n,t,b,rfl,ty,e,q⟩:=h;obtain⟨u,v,rfl,r1,r2⟩:=rv.two;cases r2;exact JX I r1 ty e λtk=>⟨.bl b,H,I.tok tk,rfl,q⟩
end
section
variable{X:Cx}
def NA(K:Frag)(tl:TE):TI:=λσ H R=>tl σ H λx H1=>∃ a,x = .ref a/\(((∃ xs,SqL K H1 a xs)/\R (Oh K a) H1)\/((∃ xs,SqT K H1 a xs)/\R (Og K a) H1))
theorem OB(K:Frag)(hl:PE X l tl)(hK:X.K=K:=by rfl):PI X tg l (NA K tl):=by
 subst hK;intro pins s σ H R I h;refine tz (hl pins s σ H _ I h) λv s1 ⟨x,H1,I1,r1,q1⟩=>?_;obtain⟨a,e,q1⟩:=q1;subst e;cases r1;have fp1:∀ b∈[s1.heap.objs.size],vg X pins H1 b:=λb hb=>by
  have e:b=s1.heap.objs.size:=by simpa using hb
  subst e;exact I1.fpOk (aq _) (I1.hok.fresh (aq _))
 rcases q1 with⟨⟨xs,hq⟩,q⟩|⟨⟨xs,hq⟩,q⟩
 ·obtain⟨its,rv,p,hz⟩:=I1.list hq;exact wpAny_pyIter_list p.isList ⟨s1.heap.objs.size,[s1.heap.objs.size],_,_,H1,rfl,I1.kept (t':=s1.toks) λb o e=>ηH _ e,C2 a _,⟨_,ηG _ rfl,rfl,rfl⟩,fp1,q⟩
 ·obtain⟨its,rv,p,hz⟩:=I1.tuple hq;exact wpAny_pyIter_tuple (show s1.heap.IsTuple a its.toArray from p) ⟨s1.heap.objs.size,[s1.heap.objs.size],_,_,H1,rfl,I1.kept (t':=s1.toks) λb o e=>ηH _ e,A3 a _,⟨_,ηG _ rfl,rfl,rfl⟩,fp1,q⟩
def Lc(K:Frag):R2:=λx y H Q=>∃ a b ys,x = .ref a/\y = .ref b/\SqT K H a []/\SqT K H b ys/\Q (.ref b) H
theorem Mb(K:Frag)(hK:X.K=K:=by rfl):OpR X (binaryOp .Add) (Lc K):=by
 subst hK;intro pins s σ H x y u v Q I rx ry h;obtain⟨a,b,ys,rfl,rfl,h1,h2,q⟩:=h;cases rx;cases ry;obtain⟨its,rv,p,_⟩:=I.tuple h1;obtain⟨its2,rv2,p2,_⟩:=I.tuple h2;cases rv;obtain⟨⟨cls,dd,data,sl⟩,ho,hc,n,hd⟩:=id p;obtain⟨⟨cls2,dd2,data2,sl2⟩,ho2,hc2,n2,hd2⟩:=id p2;simp only at hc hd hc2 hd2;subst hc hd hc2 hd2;exact concat_meets ⟨_,ho,rfl⟩ ⟨_,ho2,rfl⟩ noFill_tuple_add seq_tuple_add PySem.F.slot_tuple_add PySem.F.entry_tuple_add (PySem.F.args_tuple_add_2 _ _)
  (tuple_addW0 a b ([]:List Value).toArray its2.toArray n n2 dd dd2 sl sl2 (by simp)) ⟨ho,ho2,⟨.ref b,H,I,rfl,q⟩⟩
def HZ(K:Frag)(neg:Bool):R2:=λx y H Q=>∃ ds ds',Rep K H (.lst ds) x/\Rep K H (.lst ds') y/\DV.pls ds=true/\DV.pls ds'=true/\DV.dps ds<=60/\∀ b,(b=true↔ds=ds')->Q (.bl (if neg then !b else b)) H
theorem NE(K:Frag)(hr:Room k X.A)(hK:X.K=K:=by rfl):OpR X (compareOp .Eq) (HZ K false):=by
 subst hK;intro pins s σ H x y u v Q I rx ry h;obtain⟨ds,ds',h1,h2,p1,p2,hu,q⟩:=h;have hun:=hr.units;unfold Rep at h1 h2;obtain⟨a,vs,rfl,t1,r1⟩:=h1;obtain⟨a',vs',rfl,t2,r2⟩:=h2;cases rx;cases ry;obtain⟨its,rv,p,_⟩:=I.list t1;obtain⟨its',rv',p',_⟩:=I.list t2;obtain⟨f,hf,hi⟩:=BF I ds ds' X.A.in1 r1 r2 rv rv' p1 p2 (by show X.A.units+1+_+1<_;omega);by_cases hz:its.length=its'.length
 ·refine SeqAt.RcAt.lists p.isList p'.isList (by simpa using hz) (by omega) (e:=f) (λj h1 h2=>?_) _ _ _ _ ⟨.bl _,H,I,rfl,q _ ?_⟩
  ·have q:=hf j (by simpa using h1) (by simpa using h2);simpa using q
  ·simp only[ak];rw[zB hz] at hi;exact hi
 ·refine SeqAt.RcAt.lists_lengths p.isList p'.isList (by simpa using hz) (by omega) _ _ _ _ ⟨.bl false,H,I,rfl,q false ?_⟩;simp only[cC,false_iff];intro z;have l1:=r1.length;have l2:=r2.length;rw[z] at l1;exact hz (by rw[← rv.length,← rv'.length,← l1,← l2])
theorem Nt(K:Frag)(hr:Room k X.A)(hK:X.K=K:=by rfl):OpR X (compareOp .NotEq) (HZ K true):=by
 subst hK;intro pins s σ H x y u v Q I rx ry h;obtain⟨ds,ds',h1,h2,p1,p2,hu,q⟩:=h;have hun:=hr.units;unfold Rep at h1 h2;obtain⟨a,vs,rfl,t1,r1⟩:=h1;obtain⟨a',vs',rfl,t2,r2⟩:=h2;cases rx;cases ry;obtain⟨its,rv,p,_⟩:=I.list t1;obtain⟨its',rv',p',_⟩:=I.list t2;obtain⟨f,hf,hi⟩:=BF I ds ds' X.A.in1 r1 r2 rv rv' p1 p2 (by show X.A.units+1+_+1<_;omega);by_cases hz:its.length=its'.length
 ·refine SeqAt.RcNeAt.lists p.isList p'.isList (by simpa using hz) (by omega) (e:=f) (λj h1 h2=>?_) _ _ _ _ ⟨.bl _,H,I,rfl,q _ ?_⟩
  ·have q:=hf j (by simpa using h1) (by simpa using h2);simpa using q
  ·simp only[ak];rw[zB hz] at hi;exact hi
 ·refine SeqAt.RcNeAt.lists_lengths p.isList p'.isList (by simpa using hz) (by omega) _ _ _ _ ⟨.bl true,H,I,rfl,q false ?_⟩;simp only[cC,false_iff];intro z;have l1:=r1.length;have l2:=r2.length;rw[z] at l1;exact hz (by rw[← rv.length,← rv'.length,← l1,← l2])
end
end L2
namespace Po
open L2
def gl(b:Nat)(ts:List Int):Nat:=ts.foldl (λg t=>Nat.gcd g t.natAbs) b
theorem J0(ts:List Int):gl 1 ts=1:=by
 induction ts with
 | nil=>rfl
 | cons t ts ih =>
  show gl (Nat.gcd 1 t.natAbs) ts=1;rw[Nat.gcd_one_left];exact ih
theorem yj:∀(ts:List Int) (b:Nat),gl b ts∣b/\∀ t∈ts,gl b ts∣t.natAbs
 | [],b=>⟨Nat.dvd_refl b,λt ht=>absurd ht aO⟩
 | t::ts,b=>by
  have ih:=yj ts (Nat.gcd b t.natAbs);refine⟨Nat.dvd_trans ih.1 (Nat.gcd_dvd_left _ _),λu hu=>?_⟩;rcases ao.mp hu with rfl|hu
  ·exact Nat.dvd_trans ih.1 (fQ _ _)
  ·exact ih.2 u hu
theorem BI{c d:Nat}:∀(ts:List Int) (b:Nat),d∣c*b->(∀ t∈ts,d∣c*t.natAbs)->d∣c*gl b ts
 | [],b,h,_=>h
 | t::ts,b,h,ht=>by
  refine BI ts (Nat.gcd b t.natAbs) ?_ λu hu=>ht u (aw _ hu);rw[← Nat.gcd_mul_left];exact Nat.dvd_gcd h (ht t av)
structure Fm (P:List Int)(B:Int):Prop where
 pos:0<B
 last:P=[]\/P.getD (P.length-1) 0≠0
 gcd:gl B.natAbs P=1
theorem getD_mem{P:List Int}{t:Int}(h:t∈P):∃ k,P.getD k 0=t:=by
 obtain⟨k,hk,e⟩:=List.getElem_of_mem h;exact⟨k,by simp[List.getD,hk,e]⟩
theorem Fw{P P':List Int}{B B':Int}(F:Fm P B)(h:∀ k,P.getD k 0*B'=P'.getD k 0*B):B.natAbs∣B'.natAbs:=by
 have q:=BI (c:=B'.natAbs) (d:=B.natAbs) P B.natAbs (dH _ _) λt ht=>by
  obtain⟨k,rfl⟩:=getD_mem ht;have e:=congrArg Int.natAbs (h k);rw[bw,bw] at e;rw[cE,e];exact dH _ _
 rw[F.gcd,eI] at q;exact q
theorem E3{P P':List Int}(l:P=[]\/P.getD (P.length-1) 0≠0)(h:∀ k,P.getD k 0=P'.getD k 0):P.length<=P'.length:=by
 rcases l with rfl|l
 ·exact aL _
 ·rcases aJ P'.length P.length with z|z
  ·refine absurd ?_ l;rw[h,aj,aV (by omega)];rfl
  ·exact z
theorem zc(F:Fm P B)(F':Fm P' B')(h:∀ k,P.getD k 0*B'=P'.getD k 0*B):P=P'/\B=B':=by
 have d1:=Fw F h;have d2:=Fw F' λk=>(h k).symm;have e:=Nat.dvd_antisymm d1 d2;have p1:=F.pos;have p2:=F'.pos;have eB:B=B':=by omega
 subst eB;have hk:∀ k,P.getD k 0=P'.getD k 0:=λk=>bo (by omega) (h k);have l1:=E3 F.last hk;have l2:=E3 F'.last λk=>(hk k).symm;refine⟨List.ext_getElem (by omega) λk h1 h2=>?_,rfl⟩;have q:=hk k;simp[List.getD,h1,h2] at q;exact q
theorem Fb(g:Nat):∀(ts:List Int) (b:Nat),gl (g*b) (ts.map λt=>(g:Int)*t)=g*gl b ts
 | [],b=>rfl
 | t::ts,b=>by
  show gl (Nat.gcd (g*b) ((g:Int)*t).natAbs) (ts.map λt=>(g:Int)*t)=g*gl (Nat.gcd b t.natAbs) ts;rw[bw,cn,Nat.gcd_mul_left];exact Fb g ts _
theorem Bv(h:0<b)(ts:List Int):0<gl b ts:=Nat.pos_of_dvd_of_pos (yj ts b).1 h
theorem form{ts:List Int}{b:Int}{m:Nat}(hb:0<b)(hm:m<=ts.length)(h0:∀ j,m<=j->ts.getD j 0=0)(hl:m=0\/ts.getD (m-1) 0≠0) :
  Fm ((ts.take m).map λt=>t.fdiv ((gl b.natAbs (ts.take m):Nat):Int)) (b.fdiv ((gl b.natAbs (ts.take m):Nat):Int)) /\
  (∀ k,((ts.take m).map λt=>t.fdiv ((gl b.natAbs (ts.take m):Nat):Int)).getD k 0*b=ts.getD k 0*(b.fdiv ((gl b.natAbs (ts.take m):Nat):Int))):=by
 have g0:0<gl b.natAbs (ts.take m):=Bv (by omega) _;have gd:=yj (ts.take m) b.natAbs;generalize hg:gl b.natAbs (ts.take m)=g at *;have gi:(g:Int)≠0:=by omega
 have ex:∀ t:Int,g∣t.natAbs->t=(g:Int)*t.fdiv (g:Int):=λt ht=>by
  obtain⟨c,e⟩:(g:Int)∣t:=by first|exact Int.ofNat_dvd_left.mpr ht|exact fk.mp (by rw[cn];exact ht)
  rw[e,bZ _ gi]
 have eb:=ex b gd.1;have et:ts.take m=((ts.take m).map λt=>t.fdiv (g:Int)).map λt=>(g:Int)*t:=by
  rw[bI];refine (List.map_id (ts.take m)).symm.trans (db λt ht=>?_);exact ex t (gd.2 t ht)
 have bp:0<b.fdiv (g:Int):=by
  rcases dD (b.fdiv (g:Int)) 0 with z|z|z
  ·have:=dr (show (0:Int)<(g:Int) by omega) z;omega
  ·rw[z,bC] at eb;omega
  ·exact z
 have kk:∀ k,((ts.take m).map λt=>t.fdiv (g:Int)).getD k 0*(g:Int)=ts.getD k 0:=λk=>by
  by_cases hk:k<m
  ·have h1:k<(ts.take m).length:=by rw[aM];omega
   have h2:k<ts.length:=by omega
   have e1:((ts.take m).map λt=>t.fdiv (g:Int)).getD k 0=(ts[k]).fdiv (g:Int):=by
    rw[aj,au,bN hk,ah h2];rfl
   have e2:ts.getD k 0=ts[k]:=by rw[aj,ah h2];rfl
   have mem:ts[k]∈ts.take m:=by
    refine ay (i:=k) ?_;rw[bN hk,ah h2]
   rw[e1,e2,bO];exact (ex _ (gd.2 _ mem)).symm
  ·rw[h0 k (by omega),aj,aV (by rw[aa,aM];omega)];exact aX _
 refine⟨⟨bp,?_,?_⟩,λk=>?_⟩
 ·have hlen:((ts.take m).map λt=>t.fdiv (g:Int)).length=m:=by rw[aa,aM];omega
  rcases hl with z|z
  ·left;subst z;simp
  ·right;rw[hlen];intro c;have q:=kk (m-1);rw[c,aX] at q;exact z q.symm
 ·have q:=Fb g ((ts.take m).map λt=>t.fdiv (g:Int)) (b.fdiv (g:Int)).natAbs;rw[← et] at q;have e:g*(b.fdiv (g:Int)).natAbs=b.natAbs:=by
   conv=>rhs;rw[eb,bw,cn]
  rw[e,hg] at q;exact eR g0 (by omega)
 ·rw[← kk k,cI,← eb]
end Po
namespace L2
open PySem PySem.Spec PyProof.Rows
section
variable{X:Cx}
theorem vC:∀{ns:List Int} {us:List Value},Vals (ns.map V.int) us->∃ xs:List (Int×Tok),us=xs.map (λp=>Value.int p.1 p.2)/\xs.map (·.1)=ns
 | [],_,.nil=>⟨[],rfl,rfl⟩
 | n::ns,_,.cons r t=>by
  obtain⟨tk,e⟩:∃ t,_=Value.int n t:=r;obtain⟨xs,e1,e2⟩:=vC t;exact⟨(n,tk)::xs,by rw[e,e1];rfl,by rw[← e2];rfl⟩
theorem Nu(K:Frag)(hc:X.calm=true:=by rfl)(hK:X.K=K:=by rfl):CallR X (.builtin "max") (λxs H Q=>∃ p,∃ ns:List Int,xs=[.ref p]/\SqL K H p (ns.map V.int)/\ns≠[]/\∀ M,M∈ns->(∀ a∈ns,a<=M)->Q (.int M) H):=by
 subst hK;intro pins s σ H xs us Q I rv h;obtain⟨p,ns,rfl,hp,hn,q⟩:=h;obtain⟨u,rfl,ru⟩:=rv.one;cases ru;obtain⟨its,rv',pl,_⟩:=I.list hp;obtain⟨ys,e1,e2⟩:=vC rv';subst e1;have hl:s.heap.IsList p (intItems ys.toArray):=by
  have:intItems ys.toArray=(ys.map (λp=>Value.int p.1 p.2)).toArray:=by simp[intItems]
  rw[this];exact pl.isList
 have hsz:0<ys.toArray.size:=by
  rcases ys with _|⟨y,ys⟩
  ·exact absurd e2.symm hn
  ·simp
 refine max_intList (I.ok.hd hc) hl hsz λv h' tk hv hk=>?_;obtain⟨t,rfl⟩:=intItems_at hv;obtain⟨h1,h2⟩:=argBest_gt (numAt ys.toArray) (ys.toArray.size-1);refine⟨.int _,H,I.kept (t':=tk) hk,⟨t,rfl⟩,q _ ?_ λa ha=>?_⟩
 ·rw[numAt_eq,← e2];exact PySem.getD_mem (by simp only[ak,aa] at *;omega)
 ·rw[← e2] at ha;obtain⟨j,hj,rfl⟩:=PySem.mem_getD ha;rw[aa] at hj;have:=h2 j (by rw[ak];omega);rw[numAt_eq] at this;exact this
end
def Pol(H:Hp)(v:V)(P:List Int)(B:Int):Prop:=∃ a t,v = .ref a/\H a=some (.tup [.ref t,.int B])/\H t=some (.tup (P.map V.int))
theorem Ke:bootBuiltins "max" = some (.builtin "max"):=by decide +kernel
theorem Kc:bootBuiltins "sum" = some (.builtin "sum"):=by decide +kernel
section
variable{X:Cx}{pins:List (Addr×Obj)}{σ:St}{H:Hp}{s:Shared}{h':Heap}
theorem Inv.turnedL{t':Nat}{fp:List Addr}(I:Inv X pins σ H s)(k:∀ b o,b ∉ fp->s.heap.get? b=some o->h'.get? b=some o)(hf:∀ b∈fp,vg X pins H b):Inv X pins σ H { s with heap:=h',toks:=t' }:=by
 have nit:∀ b u,H b=some u->b ∉ fp:=λb u e z=>by rw[(hf b z).1] at e;cases e
 have hL:X.env.locals ∉ fp:=λz=>(hf _ z).2.1 rfl;refine I.step (g':=s.gens) (d':=s.drawn) (ch:=fp) (λb hb=>⟨(hf b hb).2.2.2.1,(hf b hb).2.1,(hf b hb).2.2.2.2.1,(hf b hb).2.2.2.2.2⟩) (λb o _ _ hc e _=>k b o hc e) (λb o _ _ hc e _=>⟨o.slots,k b o hc e⟩) (λ_ _ _ _ n=>n)
  (λb o hc e=>⟨o,k b o hc e⟩) (λ_ _ e=>e) (λ_ _ _ e=>e) (λb ps e=>⟨#[],by rw[e];simp⟩) (λm ⟨o,es,ep,ho,r⟩=>⟨o,es,ep,k _ o hL ho,r⟩) (λb u e=>?_) I.bare
 refine (I.hok b u e).stay (λc v hc q=>k c v (hc.elim (λz=>by rw[z];exact nit b u e) λz=>nit c _ z) q) (λ_ q=>q) λ_ _ q=>q
end
section
variable{prog:Program}{w:World}{A:Around}{E:Value->Shared->Prop}{s:Shared}
theorem Bo(hit:s.heap.IsTupleIter it t i)(ht:s.heap.IsTuple t items)(hx:items[i]? = some x)
  (hQ:∀ h',h'.IsTupleIter it t (i+1)->Heap.SameBut it s.heap h'->Q x { s with heap:=h' }):wpAny (model prog w) A (Builtin.SmallTypes.nextOf (.ref it)) Q E s:=by
 obtain⟨o,ho,hc,hd⟩:=id hit;obtain⟨ol,hol,_,nl,hdl⟩:=ht;unfold Builtin.SmallTypes.nextOf;refine ηB (wpAny_callSpecial?_slot (name:=Str.ofString "__next__") hit.typeIs F.slot_tuple_iterator_next (wpAny_call_entry F.slot_tuple_iterator_next hit.typeIs F.entry_tuple_iterator_next ?_ (F.args_tuple_iterator_next_1 _)));show wpAny _ _ (field (.ref it) 0 >>= _) _ _ s;refine ηB (wpAny_field ho hd (x:=.ref t) rfl ?_);show wpAny _ _ (if (Value.ref t == Value.none)=true then _ else _) _ _ s;rw[if_neg (show ¬ ((Value.ref t == Value.none)=true) from aA)];show wpAny _ _ (field (.ref it) 1 >>= _) _ _ s;refine ηB (wpAny_field ho hd (x:=.int i 0) rfl ?_);show wpAny _ _ (seqItems? (.ref t) >>= _) _ _ s;refine ηB (wpAny_seqItems hol hdl ?_);simp only[aB,hx];refine ηB (wpAny_setField ho hd (by simp) (ηP ⟨x,rfl,ηP (hQ _ ⟨_,Heap.get?_update_self _ ho (Obj.isFreed_of_fields (Obj.data_mapFields hd _)),(Obj.cls_mapFields ..).trans hc,by rw[Obj.data_mapFields hd];simp[rawInt]⟩ (Heap.SameBut.update ..))⟩))
theorem yP(hh:A.handled=none)(hit:s.heap.IsTupleIter it t i)(ht:s.heap.IsTuple t items)(hx:items[i]? = none)
  (hE:∀ h' e,Heap.ExtBut it s.heap h'->(∃ o,h'.get? e=some o/\o.cls = .type "StopIteration")->E (.ref e) { s with heap:=h' }):wpAny (model prog w) A (Builtin.SmallTypes.nextOf (.ref it)) Q E s:=by
 obtain⟨o,ho,hc,hd⟩:=id hit;obtain⟨ol,hol,_,nl,hdl⟩:=ht;unfold Builtin.SmallTypes.nextOf;refine ηB (wpAny_callSpecial?_slot (name:=Str.ofString "__next__") hit.typeIs F.slot_tuple_iterator_next (wpAny_call_entry F.slot_tuple_iterator_next hit.typeIs F.entry_tuple_iterator_next ?_ (F.args_tuple_iterator_next_1 _)));show wpAny _ _ (field (.ref it) 0 >>= _) _ _ s;refine ηB (wpAny_field ho hd (x:=.ref t) rfl ?_);show wpAny _ _ (if (Value.ref t == Value.none)=true then _ else _) _ _ s;rw[if_neg (show ¬ ((Value.ref t == Value.none)=true) from aA)];show wpAny _ _ (field (.ref it) 1 >>= _) _ _ s;refine ηB (wpAny_field ho hd (x:=.int i 0) rfl ?_);show wpAny _ _ (seqItems? (.ref t) >>= _) _ _ s;refine ηB (wpAny_seqItems hol hdl ?_);simp only[aB,hx];refine ηB (wpAny_rule (ηB (wpAny_setField ho hd (by simp) ?_)));show wpAny _ _ (newExc (.type "StopIteration") [] >>= _) ..;refine ηB ?_;simp only[newExc,newTuple];refine ηB (wpAny_newObj_type ?_ (by size_fits));refine ηB (m:=firstArgMember _ _) (wpAny_of_eq (a:=Value.none) (by first|rfl|(simp only[firstArgMember];rfl)) ?_);refine wpAny_newObj_type ?_ (by size_fits);simp only[raiseNew];refine ηB (wpAny_handled ?_);first|rw[show A.in1.handled=none from hh]|rw[hh]
 refine ηB (ηP (wpAny_throw ?_));exact hE _ _ (((Heap.SameBut.update ..).extBut.push _).push _) ⟨_,ηG _ rfl,rfl⟩
end
theorem Fy{prog:Program}{w:World}{A:Around}(hh:A.handled=none)(it l:Addr)(hne:l≠it)(items:Array Value):Draws prog w A it [it,l] items.size (λi v=>items[i]? = some v) (λi h=>h.IsTupleIter it l i/\h.IsTuple l items) where
 live:=λ_ _ st=>let ⟨o,ho,_⟩:=st.1;⟨o,ho⟩
 frame:=λ_ _ _ st hk=>⟨let ⟨o,ho,r⟩:=st.1;⟨o,hk it (by simp) o ho,r⟩,let ⟨o,ho,r⟩:=st.2;⟨o,hk l (by simp) o ho,r⟩⟩
 item:=λi s Q E hi st hQ=>Bo st.1 st.2 (x:=items[i]) (by simp[hi]) λh' hit' hs'=>hQ _ h' s.toks (by simp[hi]) ⟨hit',let ⟨o,ho,r⟩:=st.2;⟨o,(hs'.2 l hne).trans ho,r⟩⟩ hs'
 done:=λs Q E st hE=>yP hh st.1 st.2 (by simp) hE
theorem DB(l:Addr)(items:Array Value)(n:Nat)(dct:Option Addr)(sl:Array (Option Value)) :
  Meets (Builtin.«enumerate.__new__» ⟨[.type "enumerate",.ref l],[]⟩) (λ_ R s=>s.heap.get? l=some { cls:=.type "tuple",dict:=dct,data:=.seq items n,slots:=sl } /\
   R (.ok (.ret (.ref (s.heap.push { cls:=.type "tuple_iterator",data:=.fields #[.ref l,.int 0 0] }).objs.size)))
    { s with heap:=(s.heap.push { cls:=.type "tuple_iterator",data:=.fields #[.ref l,.int 0 0] }).push { cls:=.type "enumerate",data:=.fields #[.none,.bool false,.ref s.heap.objs.size,rawInt 0,.none,.none] } }) :=
 .of_wp λprog w A R s h=>by
  obtain⟨hp,g,d,tk,os⟩:=s;obtain⟨hl,h⟩:=h;have hsub:=sub_enumerate;have hL:Heap.IsTuple (Shared.heap ⟨hp,g,d,tk,os⟩) l items:=⟨_,hl,rfl,n,rfl⟩
  wp_walk using AutoSeq1.wpAny_loadPart' hl
  refine wpAny_stack_any λst=>ηP ?_;split
  ·rename_i c _ _ _ _ _;cases (c == Value.type "enumerate") <;> (wp_walk using AutoSeq1.wpAny_loadPart' hl,wpAny_pyIter_tuple hL;exact⟨_,rfl,h⟩)
  ·wp_walk using AutoSeq1.wpAny_loadPart' hl,wpAny_pyIter_tuple hL;exact⟨_,rfl,h⟩
def MH(Sq:Hp->List V->Prop):It:=⟨λi H=>∃ xs x,Sq H xs/\xs[i]? = some x,λi H x H'=>∃ p v,x = .ref p/\H p=none/\H'=tJ H p (.tup [.int i,v])/\∀ xs,Sq H xs->xs[i]? = some v,λi H=>∃ xs,Sq H xs/\xs.length<=i⟩
theorem yX{X:Cx}{pins:List (Addr×Obj)}{σ:St}{H:Hp}{s:Shared}{h1 h2:Heap}{e it:Addr}{tk t2:Nat}{i:Nat}{x:V}{u:Value}(I:Inv X pins σ H s)(hf:∀ b∈[e,it],vg X pins H b)(le:e<s.heap.objs.size)(li:it<s.heap.objs.size)(ru:RelV x u)
  (hT:h1.get? s.heap.objs.size=some { cls:=.type "tuple",data:=.seq #[.int i tk,u] }) (hk:∀ b o,b≠e->b≠it->s.heap.get? b=some o->h1.get? b=some o) (hs:Heap.SameBut e h1 h2) :
  Inv X pins σ (tJ H s.heap.objs.size (.tup [.int i,x])) { s with heap:=h2,toks:=t2 }/\∀ b∈[e,it],tJ H s.heap.objs.size (.tup [.int i,x]) b=none:=by
 have lt:∀ b∈[e,it],b≠s.heap.objs.size:=λb hb=>by
  rcases ao.mp hb with z|z
  ·rw[z];exact aZ le
  ·rw[aC.mp z];exact aZ li
 have I1:Inv X pins σ (tJ H s.heap.objs.size (.tup [.int i,x])) { s with heap:=s.heap.push { cls:=.type "tuple",data:=.seq #[.int i tk,u] },toks:=t2 } :=
  I.laid (t':=t2) (λb u e=>ηH _ e) (aq _) ⟨by show 2<=sizeLine;decide,[.int i tk,u],.cons ⟨tk,rfl⟩ (.cons ru .nil),⟨_,ηG _ rfl,rfl,_,rfl⟩⟩
 have nn:∀ b∈[e,it],tJ H s.heap.objs.size (.tup [.int i,x]) b=none:=λb hb=>by
  rw[sS (lt b hb)];exact (hf b hb).1
 refine⟨Inv.turnedL (s:={ s with heap:=s.heap.push { cls:=.type "tuple",data:=.seq #[.int i tk,u] },toks:=t2 }) (t':=t2) (fp:=[e,it]) I1 (λb o hb q=>?_) λb hb=>⟨nn b hb,(hf b hb).2⟩,nn⟩;have be:b≠e:=λz=>hb (by simp[z]);have bi:b≠it:=λz=>hb (by simp[z]);refine (hs.2 b be).trans ?_;rcases Heap.get?_push_cases q with⟨z1,z2⟩|z
 ·rw[z1,z2];exact hT
 ·exact hk b o be bi z
theorem DC{prog:Program}{w:World}{A:Around}{E:Value->Shared->Prop}{s:Shared}{e it l:Addr}{i:Nat}{items:Array Value}{old:Value}{Q:Option Value->Shared->Prop}(hh:A.handled=none)(he:IsEnum s.heap e it i old)(hit:s.heap.IsTupleIter it l i)(hl:s.heap.IsTuple l items)
  (hx:items[i]? = none) (hQ:∀ h',Heap.ExtBut it s.heap h'->Q none { s with heap:=h' }):wpAny (model prog w) A (pyNext (.ref e)) Q E s:=by
 have hT:s.TypeIs (.ref e) "enumerate" := ⟨_,he,rfl⟩;unfold pyNext;refine ηB (wpAny_attempt (wpAny_callSpecial?_slot (name:=Str.ofString "__next__") hT F.slot_enumerate_next (wpAny_call_entry F.slot_enumerate_next hT F.entry_enumerate_next ?_ (F.args_enumerate_next_1 _))));show wpAny _ _ (field (.ref e) 2 >>= _) _ _ _;refine ηB (wpAny_field he rfl (x:=.ref it) rfl ?_);refine ηB (yP (A:=A.in1) hh hit hl hx λh' x he' hx'=>?_);obtain⟨o,ho,hc⟩:=hx';exact ηB (wpAny_isInstance (T := "StopIteration") (b:=true) ⟨o,ho,hc⟩ isSubtype_stop (ηP (hQ _ he')))
theorem BG(hL:s.heap.IsTuple l items)
  (h:∀ h',IsEnum h' (s.heap.objs.size+1) s.heap.objs.size 0 .none->h'.IsTupleIter s.heap.objs.size l 0->h'.objs.size=s.heap.objs.size+2->(∀ b o,s.heap.get? b=some o->h'.get? b=some o)->Q (.ref (s.heap.objs.size+1)) { s with heap:=h' }) :
  wpAny (model prog w) A (call (.type "enumerate") [.ref l]) Q E s:=by
 obtain⟨⟨c,dct,dt,sl⟩,hl,hc,n,hd⟩:=hL;have hc':c = .type "tuple" := hc;have hd':dt = .seq items n:=hd;subst hc' hd';refine callType_new F.called_enumerate (by decide) (F.typeCall_enumerate_1 _) (F.newCall_enumerate_1 _) (λobj=>F.args_object_init_2 obj _) F.entry_enumerate_new (DB l items n dct sl) ⟨hl,?_⟩;have hz:(s.heap.push { cls:=.type "tuple_iterator",data:=.fields #[.ref l,.int 0 0] }).objs.size=s.heap.objs.size+1:=Heap.size_push ..;show _/\_;rw[hz];have he:IsEnum ((s.heap.push { cls:=.type "tuple_iterator",data:=.fields #[.ref l,.int 0 0] }).push { cls:=.type "enumerate",data:=.fields #[.none,.bool false,.ref s.heap.objs.size,rawInt 0,.none,.none] }) (s.heap.objs.size+1) s.heap.objs.size 0 .none:=by
  have:=ηG (s.heap.push { cls:=.type "tuple_iterator",data:=.fields #[.ref l,.int 0 0] }) (o:={ cls:=.type "enumerate",data:=.fields #[.none,.bool false,.ref s.heap.objs.size,rawInt 0,.none,.none] }) rfl;rw[hz] at this;exact this
 exact⟨⟨_,he,rfl⟩,h _ he ⟨_,ηH _ (ηG _ rfl),rfl,rfl⟩ (by rw[Heap.size_push,hz]) λb o x=>ηH _ (ηH _ x)⟩
theorem A6{P:Program}{w:World}{K:Frag}{es:List Expr}{kk:Nat}{ps:Pos}(a e it:Addr)(hei:e≠it):Turn P w K (.Tuple es kk ps) (MH λH xs=>SqL K H a xs) [e,it] e (λi h=>(∃ old,IsEnum h e it i old)/\h.IsListIter it a i) where
 mem:=by simp
 obj:=λi h st b hb=>by
  obtain⟨⟨old,he⟩,o,ho,hc,hd⟩:=st;rcases ao.mp hb with z|z
  ·rw[z];exact⟨_,he,λv q=>by cases q⟩
  ·rw[aC.mp z];exact⟨o,ho,λv q=>by rw[hd] at q;cases q⟩
 keep:=λi h h' st k=>by
  obtain⟨⟨old,he⟩,o,ho,r⟩:=st;exact⟨⟨old,k e (by simp) _ he⟩,o,k it (by simp) o ho,r⟩
 item:=by
  intro X hP hw hK hc i pins s σ H E I hf st hg;subst hP hw hK;obtain⟨xs,x,hq,hx⟩:=hg;obtain⟨its,rv,p,hz⟩:=I.list hq;obtain⟨u,hu,ru⟩:=rv.get hx;obtain⟨⟨old,he⟩,hit⟩:=st;have hl:s.heap.IsList a its.toArray:=p.isList;have hne:a≠it:=λz=>by
   obtain⟨o,ho,c,_⟩:=id hl;obtain⟨o',ho',c',_⟩:=id hit;rw[z,ho'] at ho;cases ho;rw[c'] at c;revert c;decide
  have hae:e≠a:=λz=>by
   obtain⟨o,ho,c,_⟩:=id hl;rw[← z,he] at ho;cases ho;have c':Value.type "enumerate" = Value.type _:=c;revert c';decide
  have le:e<s.heap.objs.size:=ηL he;have li:it<s.heap.objs.size:=by obtain⟨o,ho,_⟩:=id hit;exact ηL ho
  refine wpAny_pyNext_enum_itemD (Draws.list (A:=X.A.in1) (I.ok.hd hc) it a hne its.toArray) he ⟨hit,hl⟩ (by have:=(af.mp hu).1;simpa using this) hei (by simp[hei,hae]) λy h1 tk hP ho hst hT hsz hk=>?_;have hy:its[i]? = some y:=by simpa using hP
  rw[hu] at hy;cases hy;refine⟨_,rfl,wpAny_letOwnedTupleGo_enum ho λh2 he2 hs2=>?_⟩;obtain⟨I2,n2⟩:=yX (t2:=tk+1) I hf le li ru hT hk hs2;refine⟨.ref s.heap.objs.size,_,I2,rfl,⟨_,x,rfl,I.hok.fresh (aq _),rfl,λys hy=>by rw[I.list_inj hy hq];exact hx⟩,⟨⟨_,by simpa using he2⟩,?_⟩,n2⟩;obtain⟨o,ho1,r⟩:=hst.1;exact⟨o,(hs2.2 it hei.symm).trans ho1,r⟩
 done:=by
  intro X hP hw hK hc i pins s σ H E I hf st hg;subst hP hw hK;obtain⟨xs,hq,hx⟩:=hg;obtain⟨its,rv,p,hz⟩:=I.list hq;obtain⟨⟨old,he⟩,hit⟩:=st;have hl:s.heap.IsList a its.toArray:=p.isList;have hne:a≠it:=λz=>by
   obtain⟨o,ho,c,_⟩:=id hl;obtain⟨o',ho',c',_⟩:=id hit;rw[z,ho'] at ho;cases ho;rw[c'] at c;revert c;decide
  obtain⟨f0,f1,f2,f3,f4,f5⟩:=hf it (by simp);have le:=rv.length;refine wpAny_pyNext_enum_end (I.ok.hd hc) he hit hl (by simp;omega) λh' eb=>⟨rfl,I.turned (t':=s.toks) (λb o hb e=>eb b o hb e) f0 f1 f3 f4 f5⟩
 self:=λ_ _ _ _ _ st h=>by
  obtain⟨⟨old,he⟩,_⟩:=st;exact wpAny_pyIter_enum he h
theorem A5{P:Program}{w:World}{K:Frag}{es:List Expr}{kk:Nat}{ps:Pos}(a e it:Addr)(hei:e≠it):Turn P w K (.Tuple es kk ps) (MH λH xs=>SqT K H a xs) [e,it] e (λi h=>(∃ old,IsEnum h e it i old)/\h.IsTupleIter it a i) where
 mem:=by simp
 obj:=λi h st b hb=>by
  obtain⟨⟨old,he⟩,o,ho,hc,hd⟩:=st;rcases ao.mp hb with z|z
  ·rw[z];exact⟨_,he,λv q=>by cases q⟩
  ·rw[aC.mp z];exact⟨o,ho,λv q=>by rw[hd] at q;cases q⟩
 keep:=λi h h' st k=>by
  obtain⟨⟨old,he⟩,o,ho,r⟩:=st;exact⟨⟨old,k e (by simp) _ he⟩,o,k it (by simp) o ho,r⟩
 item:=by
  intro X hP hw hK hc i pins s σ H E I hf st hg;subst hP hw hK;obtain⟨xs,x,hq,hx⟩:=hg;obtain⟨its,rv,p,hz⟩:=I.tuple hq;obtain⟨u,hu,ru⟩:=rv.get hx;obtain⟨⟨old,he⟩,hit⟩:=st;have hl:s.heap.IsTuple a its.toArray:=p;have hne:a≠it:=λz=>by
   obtain⟨o,ho,c,_⟩:=id hl;obtain⟨o',ho',c',_⟩:=id hit;rw[z,ho'] at ho;cases ho;rw[c'] at c;revert c;decide
  have hae:e≠a:=λz=>by
   obtain⟨o,ho,c,_⟩:=id hl;rw[← z,he] at ho;cases ho;have c':Value.type "enumerate" = Value.type _:=c;revert c';decide
  have le:e<s.heap.objs.size:=ηL he;have li:it<s.heap.objs.size:=by obtain⟨o,ho,_⟩:=id hit;exact ηL ho
  refine wpAny_pyNext_enum_itemD (Fy (A:=X.A.in1) (I.ok.hd hc) it a hne its.toArray) he ⟨hit,hl⟩ (by have:=(af.mp hu).1;simpa using this) hei (by simp[hei,hae]) λy h1 tk hP ho hst hT hsz hk=>?_;have hy:its[i]? = some y:=by simpa using hP
  rw[hu] at hy;cases hy;refine⟨_,rfl,wpAny_letOwnedTupleGo_enum ho λh2 he2 hs2=>?_⟩;obtain⟨I2,n2⟩:=yX (t2:=tk+1) I hf le li ru hT hk hs2;refine⟨.ref s.heap.objs.size,_,I2,rfl,⟨_,x,rfl,I.hok.fresh (aq _),rfl,λys hy=>by rw[I.tuple_inj hy hq];exact hx⟩,⟨⟨_,by simpa using he2⟩,?_⟩,n2⟩;obtain⟨o,ho1,r⟩:=hst.1;exact⟨o,(hs2.2 it hei.symm).trans ho1,r⟩
 done:=by
  intro X hP hw hK hc i pins s σ H E I hf st hg;subst hP hw hK;obtain⟨xs,hq,hx⟩:=hg;obtain⟨its,rv,p,hz⟩:=I.tuple hq;obtain⟨⟨old,he⟩,hit⟩:=st;have hl:s.heap.IsTuple a its.toArray:=p;have hne:a≠it:=λz=>by
   obtain⟨o,ho,c,_⟩:=id hl;obtain⟨o',ho',c',_⟩:=id hit;rw[z,ho'] at ho;cases ho;rw[c'] at c;revert c;decide
  obtain⟨f0,f1,f2,f3,f4,f5⟩:=hf it (by simp);have le:=rv.length;refine DC (I.ok.hd hc) he hit hl (by simp;omega) λh' eb=>⟨rfl,I.turned (t':=s.toks) (λb o hb e=>eb b o hb e) f0 f1 f3 f4 f5⟩
 self:=λ_ _ _ _ _ st h=>by
  obtain⟨⟨old,he⟩,_⟩:=st;exact wpAny_pyIter_enum he h
def LM(K:Frag)(ta:TA):TI:=λσ H R=>ta σ H λvs H1=>∃ a,vs=[.ref a]/\(((∃ xs,SqL K H1 a xs)/\R (MH λH xs=>SqL K H a xs) H1)\/((∃ xs,SqT K H1 a xs)/\R (MH λH xs=>SqT K H a xs) H1))
theorem yt:bootBuiltins "enumerate" = some (.type "enumerate"):=by decide +kernel
theorem GH(K:Frag)(hg:Gl X "enumerate")(hm:X.mg "enumerate" = none)(ha:PA X [a] ta)(hK:X.K=K:=by rfl)(hs:starEach [a] X.env=[(false,eval a X.env)]:=by rfl):PI X (.Tuple es kk ps) (.Call (.Name "enumerate" p) [a] [] pos) (LM K ta):=by
 subst hK;intro pins s σ H R I h;refine Call_ (vy I hg hm yt (PyProof.Rows.callWith_type1 (tz (ha pos pins s σ H _ I h) λus s1 ⟨vs,H1,I1,r1,q1⟩=>?_) hs rfl));obtain⟨l,e,q1⟩:=q1;subst e;obtain⟨u,rfl,ru⟩:=Vals.one r1;cases ru;have fp1:∀{h':Heap},∀ b∈[s1.heap.objs.size+1,s1.heap.objs.size],vg X pins H1 b:=λb hb=>by
  have hb':s1.heap.objs.size<=b:=by
   rcases ao.mp hb with z|z
   ·omega
   ·rw[aC.mp z];exact aq _
  exact I1.fpOk hb' (I1.hok.fresh hb')
 rcases q1 with⟨⟨xs,hq⟩,q⟩|⟨⟨xs,hq⟩,q⟩
 ·obtain⟨its,rv,pl,hz⟩:=I1.list hq;refine call_enumerate_list pl.isList λh' he hit hsz hk=>?_;refine wpAny_pyIter_enum he ?_;exact⟨_,[s1.heap.objs.size+1,s1.heap.objs.size],_,_,H1,rfl,I1.kept (t':=s1.toks) hk,A6 l _ _ (Nat.succ_ne_self _),⟨⟨_,he⟩,hit⟩,fp1 (h':=h'),q⟩
 ·obtain⟨its,rv,pl,hz⟩:=I1.tuple hq;refine BG pl λh' he hit hsz hk=>?_;refine wpAny_pyIter_enum he ?_;exact⟨_,[s1.heap.objs.size+1,s1.heap.objs.size],_,_,H1,rfl,I1.kept (t':=s1.toks) hk,A5 l _ _ (Nat.succ_ne_self _),⟨⟨_,he⟩,hit⟩,fp1 (h':=h'),q⟩
theorem NB(K:Frag)(hK:X.K=K:=by rfl):Mm X (λo i H Q=>∃ p xs v,∃ j:Nat,o = .ref p/\i = .int j/\SqL K H p xs/\xs[j]? = some v/\Q v H):=by
 subst hK;intro pins s σ H o i ov iv Q I ro ri h;obtain⟨p,xs,v,j,rfl,rfl,hq,hv,q⟩:=h;cases ro;obtain⟨t,rfl⟩:=ri;obtain⟨its,r,pl,hz⟩:=I.list hq;obtain⟨w,ew,rw'⟩:=r.get hv;have hl:=(af.mp hv).1;have hn:=t9;exact wpAny_getItem_list pl.isList (by omega) (by omega) (by rw[aB];simpa using ew) ⟨v,H,I,rw',q⟩
end L2
namespace HT
open PySem PyProof.Rows
variable{prog:Program}{w:World}{A:Around}{E:Value->Shared->Prop}{s:Shared}
theorem vJ{t sl:Addr}{items:Array Value}{vl vu:Value}{lo hi:Option Int}{Q:Value->Shared->Prop}(ht:IsTup s.heap t items)(hs:s.heap.IsSliceOf sl vl vu .none)(pl:IsPart vl lo)(pu:IsPart vu hi)
  (hw:tO items.size 0 lo=0/\tO items.size items.size hi=items.size) (h:Q (.ref t) s):wpAny (model prog w) A (getItem (.ref t) (.ref sl)) Q E s:=by
 obtain⟨os,hos,hcs,hds⟩:=id hs;have hTs:s.TypeIs (.ref sl) "slice" := ⟨os,hos,hcs⟩;unfold getItem;try with_reducible refine wpAny_holding ?_
 first|refine ηB (ηP ?_)|skip
 refine ηB (wpAny_sequenceKey ht.typeIs (by decide) ?_);refine ηB (wpAny_callSpecial?_slot (name:=Str.ofString "__getitem__") ht.typeIs PyProof.Rows.slot_tuple_getitem (wpAny_call_entry PyProof.Rows.slot_tuple_getitem ht.typeIs entry_tuple_getitem ?_ (args_tuple_getitem _ _)));show wpAny _ _ (Builtin.Tuple.tupleItemsOf (.ref t) >>= _) _ _ s;refine ηB (tupleItemsOf_ ht ?_);refine ηB (wpAny_typeOf hTs ?_);rw[if_pos (by decide)];refine ηB (uG hs pl pu ?_);have hyes:(((tO items.size 0 lo:Nat):Int) == 0 && (1:Int) == 1 && (tO items.size items.size hi-tO items.size 0 lo) == items.size)=true:=by
  rw[hw.1,hw.2];simp
 show wpAny _ _ (if (((tO items.size 0 lo:Nat):Int) == 0 && (1:Int) == 1 && (tO items.size items.size hi-tO items.size 0 lo) == items.size)=true then _ else _) _ _ s;rw[if_pos hyes];refine ηB (m:=Builtin.Tuple.tupleIsExact _) ?_;unfold Builtin.Tuple.tupleIsExact;refine ηB (wpAny_typeOf ht.typeIs (ηP ?_));rw[if_pos (by decide)];first
  | exact ηB (wpAny_rule (ηB (ηP (ηP ⟨_,rfl,ηP h⟩))))
  | exact ηB (wpAny_rule (ηP ⟨_,rfl,ηP h⟩))
  | exact ηB (wpAny_rule (ηB (ηP ⟨_,rfl,ηP h⟩)))
end HT
namespace Po
open L2
theorem Hy{P:List Int}{f:Nat->Int}{B B':Int}(F:Fm P B)(h:∀ k,P.getD k 0*B'=f k*B):B.natAbs∣B'.natAbs:=by
 have q:=BI (c:=B'.natAbs) (d:=B.natAbs) P B.natAbs (dH _ _) λt ht=>by
  obtain⟨k,rfl⟩:=getD_mem ht;have e:=congrArg Int.natAbs (h k);rw[bw,bw] at e;rw[cE,e];exact dH _ _
 rw[F.gcd,eI] at q;exact q
theorem size{P:List Int}{f:Nat->Int}{B b:Int}(F:Fm P B)(hb:0<b)(h:∀ k,P.getD k 0*b=f k*B):B.natAbs<=b.natAbs/\∀ k,(P.getD k 0).natAbs<=(f k).natAbs:=by
 have d:B.natAbs<=b.natAbs:=dE (by omega) (Hy F h);refine⟨d,λk=>?_⟩;have e:=congrArg Int.natAbs (h k);rw[bw,bw] at e;have:(P.getD k 0).natAbs*b.natAbs<=(f k).natAbs*b.natAbs:=by
  rw[e];exact bG _ d
 exact Nat.le_of_mul_le_mul_right this (by omega)
end Po
namespace Cv
open L2
def sm(F:Nat->Int):Nat->Int
 | 0=>0
 | n+1=>sm F n+F n
theorem tL(h:∀ j,j<n->F j=G j):sm F n=sm G n:=by
 induction n with
 | zero=>rfl
 | succ n ih=>rw[sm,sm,ih λj hj=>h j (by omega),h n (by omega)]
theorem uP(h:n<=m)(z:∀ j,n<=j->j<m->F j=0):sm F m=sm F n:=by
 induction m with
 | zero=>rw[show n=0 by omega]
 | succ m ih =>
  rcases bB h with e|e
  ·rw[e]
  ·rw[sm,ih (by omega) λj a b=>z j a (by omega),z m (by omega) (by omega),bS]
def cv(f g:Nat->Int)(k:Nat):Int:=sm (λj=>f j*g (k-j)) (k+1)
def tm(f g:Nat->Int)(i m:Nat):Int:=sm (λj=>if j<=m then f j*g (m-j) else 0) i
theorem vK(hf:∀ j,n<=j->f j=0):tm f g n m=cv f g m:=by
 unfold tm cv;have e1:sm (λj=>if j<=m then f j*g (m-j) else 0) (max n (m+1))=sm (λj=>if j<=m then f j*g (m-j) else 0) n:=uP (by omega) λj a b=>by
  show (if j<=m then f j*g (m-j) else 0)=0;rw[hf j a,aX];split <;> rfl
 have e2:sm (λj=>if j<=m then f j*g (m-j) else 0) (max n (m+1))=sm (λj=>if j<=m then f j*g (m-j) else 0) (m+1):=uP (by omega) λj a b=>if_neg (by omega);rw[← e1,e2];exact tL λj hj=>if_pos (by omega)
theorem zf(f g:Nat->Int)(i m:Nat):tm f g (i+1) m=tm f g i m+(if i<=m then f i*g (m-i) else 0):=rfl
theorem v6(hf:∀ j,a<=j->f j=0)(hg:∀ j,b<=j->g j=0)(h:a+b-1<=k):cv f g k=0:=by
 unfold cv;have:sm (λj=>f j*g (k-j)) (k+1)=sm (λj=>f j*g (k-j)) 0:=uP (aL _) λj _ hj=>by
  show f j*g (k-j)=0;rcases aJ j a with c|c
  ·rw[hg (k-j) (by omega),bC]
  ·rw[hf j c,aX]
 rw[this];rfl
theorem IC(h:∀ j,f j=0):cv f g k=0:=by
 unfold cv;have:sm (λj=>f j*g (k-j)) (k+1)=sm (λj=>f j*g (k-j)) 0:=uP (aL _) λj _ _=>by
  show f j*g (k-j)=0;rw[h j,aX]
 rw[this];rfl
theorem FD(h:∀ j,g j=0):cv f g k=0:=by
 unfold cv;have:sm (λj=>f j*g (k-j)) (k+1)=sm (λj=>f j*g (k-j)) 0:=uP (aL _) λj _ _=>by
  show f j*g (k-j)=0;rw[h,bC]
 rw[this];rfl
theorem HS:∀{i:Nat},i<=2^b->(∀ j,j<i->Lt2 n (F j))->(sm F i).natAbs<=i*2^n
 | 0,_,_=>by simp[sm]
 | i+1,h,hF=>by
  have ih:=HS (b:=b) (i:=i) (by omega) λj hj=>hF j (by omega);have h1:=hF i (by omega);unfold Lt2 at h1;rw[sm,aS];omega
theorem FI(hf:∀ j,Lt2 n (f j))(hg:∀ j,Lt2 m (g j))(hk:k+1<2^b):Lt2 (n+m+b) (cv f g k):=by
 have:=HS (F:=λj=>f j*g (k-j)) (n:=n+m) (b:=b) (i:=k+1) (by omega) λj _=>(hf j).mul (hg _);unfold Lt2 cv;rw[eH 2 (n+m) b];have p:0<2^(n+m):=cj (by decide);refine cP this ?_;rw[cE];exact Nat.mul_lt_mul_of_pos_left hk p
theorem uL(h:∀ j,f j=f' j)(h':∀ j,g j=g' j):cv f g k=cv f' g' k:=tL λj _=>by rw[h,h']
theorem zi(F:Nat->Int)(c:Int)(n:Nat):sm (λj=>F j*c) n=sm F n*c:=by
 induction n with
 | zero=>simp[sm]
 | succ n ih=>rw[sm,sm,ih,dU]
theorem uK(f g:Nat->Int)(c:Int)(k:Nat):cv (λj=>f j*c) g k=cv f g k*c:=by
 unfold cv;rw[← zi];exact tL λj _=>by grind
theorem B3(F:Nat->Int)(n:Nat):sm F (n+1)=F 0+sm (λj=>F (j+1)) n:=by
 induction n with
 | zero=>simp[sm]
 | succ n ih=>rw[sm,ih,sm];omega
theorem DY(F:Nat->Int)(n:Nat):sm F n=sm (λj=>F (n-1-j)) n:=by
 induction n generalizing F with
 | zero=>rfl
 | succ n ih =>
  rw[B3 (λj=>F (n+1-1-j)) n,sm,ih F];have:sm (λj=>F (n-1-j)) n=sm (λj=>F (n+1-1-(j+1))) n:=tL λj hj=>by rw[show n+1-1-(j+1)=n-1-j by omega]
  rw[this,show n+1-1-0=n by omega];omega
theorem vH(f g:Nat->Int)(k:Nat):cv f g k=cv g f k:=by
 unfold cv;rw[DY];refine tL λj hj=>?_;rw[show k+1-1-j=k-j by omega,show k-(k-j)=j by omega,bO]
def fn(P:List Int):Nat->Int:=λj=>P.getD j 0
theorem sV(h:P.length<=j):fn P j=0:=by
 unfold fn;rw[aj,aV h];rfl
theorem Bm:Po.Fm [1] 1:=⟨by decide,.inr (by decide),by decide⟩
end Cv
namespace RV
open PySem PyProof.Rows
theorem Ay:Manifest.owners.lookup (String.ofList ['d','e','s','r','e','v','e','r'].reverse)=some Manifest.sig_reversed:=by kernel_rfl
theorem slot_next:Slot "reversed" "__next__" "reversed.__next__" := .of (owner := "reversed") (n := "__next__") (by rw[typeLookup_type,builtinLookup_eq_fast];kernel_rfl) (by decide +kernel) (by decide +kernel) (by decide +kernel) (by first|exact .inl (by decide +kernel)|exact .inr (by decide +kernel)) (by rw[isSubtype_type];kernel_rfl)
theorem yH:Slot "reversed" "__iter__" "reversed.__iter__" := .of (owner := "reversed") (n := "__iter__") (by rw[typeLookup_type,builtinLookup_eq_fast];kernel_rfl) (by decide +kernel) (by decide +kernel) (by decide +kernel) (by first|exact .inl (by decide +kernel)|exact .inr (by decide +kernel)) (by rw[isSubtype_type];kernel_rfl)
theorem C6:Slot "reversed" "__init__" "object.__init__" := .of (owner := "object") (n := "__init__") (by rw[typeLookup_type,builtinLookup_eq_fast];kernel_rfl) (by decide +kernel) (by decide +kernel) (by decide +kernel) (by first|exact .inl (by decide +kernel)|exact .inr (by decide +kernel)) (by rw[isSubtype_type];kernel_rfl)
theorem yl:entryFor table "reversed.__next__" = some Builtin.«reversed.__next__» := entryFor_of_tree (by kernel_rfl)
theorem BH:entryFor table "reversed.__iter__" = some Builtin.«dict_keyiterator.__iter__» := entryFor_alias (id' := "dict_keyiterator.__iter__") (by kernel_rfl) (by first|rfl|decide +kernel|(unfold String.splitOn;simp +decide [String.splitOnAux])) (by decide +kernel) (by kernel_rfl)
theorem za(a:Value):argsOk "reversed.__next__" ⟨[a],[]⟩:=by
 unfold argsOk;rw[signature?_of (id := "reversed.__next__") (n:=['_','_','t','x','e','n','_','_']) (o:=['d','e','s','r','e','v','e','r']) (by kernel_rfl) Ay];kernel_rfl
theorem DH(a:Value):argsOk "reversed.__iter__" ⟨[a],[]⟩:=by
 unfold argsOk;rw[signature?_of (id := "reversed.__iter__") (n:=['_','_','r','e','t','i','_','_']) (o:=['d','e','s','r','e','v','e','r']) (by kernel_rfl) Ay];kernel_rfl
theorem JO:typeLookup (.type "tuple") "__reversed__" = pure none:=by rw[typeLookup_type,builtinLookup_eq_fast];kernel_rfl
theorem Kb:TypeCalled "reversed" "reversed.__new__" "object.__init__" := ⟨by decide +kernel,by decide +kernel,⟨_,_,F.mro_reversed⟩,F.made_reversed,by decide +kernel,by rw[isSubtype_type];kernel_rfl,C6⟩
theorem Hd:isSubtype (.type "tuple") (.type "dict")=pure false:=by rw[isSubtype_type];kernel_rfl
section
variable{prog:Program}{w:World}{A:Around}{E:Value->Shared->Prop}{s:Shared}
theorem Dn(t:Addr)(items:Array Value)(n:Nat)(dct:Option Addr)(sl:Array (Option Value)) :
  Meets (Builtin.«reversed.__new__» ⟨[.type "reversed",.ref t],[]⟩) (λ_ R s=>s.heap.get? t=some { cls:=.type "tuple",dict:=dct,data:=.seq items n,slots:=sl }/\(items.size:Int)<2^63 /\
   ∀ tk,R (.ok (.ret (.ref s.heap.objs.size))) { s with heap:=s.heap.push { cls:=.type "reversed",data:=.fields #[.ref t,rawInt ((items.size:Int)-1)] },toks:=tk }) :=
 .of_wp λprog w A R s h=>by
  obtain⟨ht,hsz,h⟩:=h;have hT:s.heap.IsTuple t items:=⟨_,ht,rfl,n,rfl⟩;unfold Builtin.«reversed.__new__»;refine ηB (wpAny_of_eq (newClass_reversed _) ?_);try dsimp only
  refine ηB (wpAny_of_eq (a:=()) (by first|rfl|kernel_rfl) ?_);refine ηB (wpAny_of_eq (a:=()) (by first|rfl|kernel_rfl) ?_);try dsimp only
  refine ηB (wpAny_specialOf hT.typeIs JO ?_);try dsimp only
  refine ηB ?_;show wpAny _ _ (isInstance (.ref t) (.type "dict") >>= _) _ _ s;refine ηB (wpAny_isInstance hT.typeIs Hd ?_);try dsimp only
  show wpAny _ _ (if false=true then _ else _) _ _ s;rw[if_neg aA];refine ηB (wpAny_specialOf hT.typeIs PyProof.Rows.slot_tuple_getitem.lookup ?_);try dsimp only
  show wpAny _ _ (if _=true then _ else _) _ _ s;rw[if_pos (by decide)];refine ηP ?_;show wpAny _ _ (if (!true)=true then _ else _) _ _ s;rw[if_neg (by decide)];refine ηB (PyProof.Rows.len_tuple hT hsz ?_);refine ηB (m:=asInt? _) (ηP ?_);try dsimp only
  refine ηB ?_;show wpAny _ _ (newObj (.type "reversed") (.fields #[.ref t,rawInt ((items.size:Int)-1)])) ..;refine wpAny_newObj_type ?_ (by size_fits);exact ηP ⟨_,rfl,h _⟩
theorem FV(hT:s.heap.IsTuple t items)(hsz:(items.size:Int)<2^63)
  (h:∀ tk,Q (.ref s.heap.objs.size) { s with heap:=s.heap.push { cls:=.type "reversed",data:=.fields #[.ref t,rawInt ((items.size:Int)-1)] },toks:=tk }):wpAny (model prog w) A (call (.type "reversed") [.ref t]) Q E s:=by
 obtain⟨⟨c,dct,dt,sl⟩,hl,hc,n,hd⟩:=hT;have hc':c = .type "tuple" := hc;have hd':dt = .seq items n:=hd;subst hc' hd';refine callType_new Kb (by decide) (F.typeCall_reversed_1 _) (F.newCall_reversed_1 _) (λobj=>F.args_object_init_2 obj _) F.entry_reversed_new (Dn t items n dct sl) ⟨hl,hsz,λtk=>?_⟩;exact⟨⟨_,ηG _ rfl,rfl⟩,h tk⟩
def Is(h:Heap)(a t:Addr)(i:Int):Prop:=∃ o,h.get? a=some o/\o.cls = .type "reversed" /\ o.data = .fields #[.ref t,rawInt i]
theorem Is.ty(x:Is s.heap a t i):s.TypeIs (.ref a) "reversed" := let ⟨o,ho,hc,_⟩:=x;⟨o,ho,hc⟩
theorem yT(x:Is s.heap a t i)(h:Q (.ref a) s):wpAny (model prog w) A (pyIter (.ref a)) Q E s:=by
 refine wpAny_pyIter_slot x.ty yH (wpAny_call_entry yH x.ty BH ?_ (DH _));show wpAny _ _ (ret (.ref a)) _ _ s;exact ηP ⟨_,rfl, "reversed",_,x.ty,slot_next.lookup,h⟩
theorem Dm{it t:Addr}{i:Nat}{items:Array Value}{x:Value}(hit:Is s.heap it t (i:Int))(hT:s.heap.IsTuple t items)(hx:items[i]? = some x)(hsz:(items.size:Int)<2^63)
  (hQ:∀ h' tk,Is h' it t ((i:Int)-1)->Heap.SameBut it s.heap h'->Q (some x) { s with heap:=h',toks:=tk }):wpAny (model prog w) A (pyNext (.ref it)) Q E s:=by
 obtain⟨o,ho,hc,hd⟩:=id hit;unfold pyNext;refine ηB (wpAny_attempt (wpAny_callSpecial?_slot (name:=Str.ofString "__next__") hit.ty slot_next (wpAny_call_entry slot_next hit.ty yl ?_ (za _))));unfold Builtin.«reversed.__next__»;refine ηB (wpAny_of_eq (a:=(Value.ref it,[])) rfl ?_);try dsimp only
 refine ηB (wpAny_field ho hd (x:=.ref t) rfl ?_);refine ηB (wpAny_field ho hd (x:=rawInt (i:Int)) rfl ?_);try dsimp only[rawInt]
 rw[if_neg (by omega)];refine ηB (wpAny_specialOf hT.typeIs PyProof.Rows.slot_tuple_getitem.lookup ?_);show wpAny _ _ (if false=true then _ else _) _ _ s;rw[if_neg aA];refine ηB (wpAny_mkInt ?_);have hlt:i<items.size:=(Array.getElem?_eq_some_iff.mp hx).1;refine ηB (wpAny_attempt ?_);refine PyProof.Rows.getItem_tuple (j:=i) (x:=x) hT (by omega) (by omega) (by unfold seqIndex?;simp;omega) hx ?_;try dsimp only
 refine ηB (wpAny_field (s:={ s with toks:=s.toks+1 }) ho hd (x:=rawInt (i:Int)) rfl ?_);try dsimp only[rawInt]
 refine ηB (wpAny_setField (s:={ s with toks:=s.toks+1 }) ho hd (by simp) (ηP ⟨x,rfl,ηP (hQ _ _ ?_ (Heap.SameBut.update ..))⟩));exact⟨_,Heap.get?_update_self _ ho (Obj.isFreed_of_fields (Obj.data_mapFields hd _)),(Obj.cls_mapFields ..).trans hc,by rw[Obj.data_mapFields hd];simp[rawInt]⟩
theorem EV(hh:A.handled=none)(hit:Is s.heap it t (-1))(hQ:∀ h',Heap.ExtBut it s.heap h'->Q none { s with heap:=h' }):wpAny (model prog w) A (pyNext (.ref it)) Q E s:=by
 obtain⟨o,ho,hc,hd⟩:=id hit;unfold pyNext;refine ηB (wpAny_attempt (wpAny_callSpecial?_slot (name:=Str.ofString "__next__") hit.ty slot_next (wpAny_call_entry slot_next hit.ty yl ?_ (za _))));unfold Builtin.«reversed.__next__»;refine ηB (wpAny_of_eq (a:=(Value.ref it,[])) rfl ?_);try dsimp only
 refine ηB (wpAny_field ho hd (x:=.ref t) rfl ?_);refine ηB (wpAny_field ho hd (x:=rawInt (-1)) rfl ?_);try dsimp only[rawInt]
 rw[if_pos (by decide)];refine ηB (wpAny_rule ?_);refine ηB ?_;show wpAny _ _ (setField (.ref it) 1 (rawInt (-1)) >>= _) _ _ s;refine ηB (wpAny_setField ho hd (by simp) ?_);have ho':=Heap.get?_update_self (h:=s.heap) (Obj.mapFields (·.setIfInBounds 1 (rawInt (-1)))) ho (Obj.isFreed_of_fields (Obj.data_mapFields hd _));refine wpAny_setField ho' (Obj.data_mapFields hd _) (by simp) ?_;refine ηB ?_;unfold Builtin.SmallTypes.stopIteration;refine ηB ?_;simp only[newExc,newTuple];refine ηB (wpAny_newObj_type ?_ (by size_fits));refine ηB (m:=firstArgMember _ _) (wpAny_of_eq (a:=Value.none) (by first|rfl|(simp only[firstArgMember];rfl)) ?_);refine wpAny_newObj_type ?_ (by size_fits);simp only[raiseNew];refine ηB (wpAny_handled ?_);first|rw[show A.in1.handled=none from hh]|rw[hh]
 refine ηB (ηP (wpAny_throw ?_));refine ηB (wpAny_isInstance (T := "StopIteration") (b:=true) ⟨_,ηG _ rfl,rfl⟩ isSubtype_stop ?_);refine ηP (hQ _ λb o hb e=>?_);refine ηH _ (ηH _ ?_);exact (Heap.SameBut.update ..).extBut b o hb ((Heap.SameBut.update ..).extBut b o hb e)
end
end RV
namespace L2
open PySem PySem.Spec PyProof.Rows
theorem DP{P:Program}{w:World}{K:Frag}{tg:Expr}(n:Nat)(a it:Addr):Turn P w K tg (⟨λi H=>i<n/\∃ xs x,SqT K H a xs/\xs.length=n/\xs.reverse[i]? = some x,λi H x H'=>H'=H/\∀ xs,SqT K H a xs->xs.reverse[i]? = some x,λi H=>i=n⟩:It) [it] it (λi h=>RV.Is h it a ((n:Int)-1-(i:Int))) where
 mem:=by simp
 obj:=λi h st b hb=>by
  have e:b=it:=by simpa using hb
  subst e;obtain⟨o,e,c,d⟩:=st;exact⟨o,e,λv z=>by rw[d] at z;cases z⟩
 keep:=λi h h' st k=>by
  obtain⟨o,e,r⟩:=st;exact⟨o,k it (by simp) o e,r⟩
 item:=by
  intro X hP hw hK hc i pins s σ H E I hf st hg;subst hP hw hK;obtain⟨hlt,xs,x,hq,hn,hx⟩:=hg;obtain⟨its,rv,p,hz⟩:=I.tuple hq;have hlen:=rv.length;rw[cm (by omega)] at hx;obtain⟨u,hu,ru⟩:=rv.get hx;obtain⟨f0,f1,f2,f3,f4,f5⟩:=hf it (by simp);have e0:(n:Int)-1-(i:Int)=((xs.length-1-i:Nat):Int):=by omega
  have st':RV.Is s.heap it a ((xs.length-1-i:Nat):Int):=by rw[← e0];exact st
  have hn63:=t9;refine RV.Dm (i:=xs.length-1-i) st' (show s.heap.IsTuple a its.toArray from p) (x:=u) (by simpa using hu) (by rw[ak];omega) λh' tk st2 sb=>?_;have I1:Inv X pins σ H { s with heap:=h',toks:=tk }:=I.turned (t':=tk) (λb o hb e=>(sb.2 b hb).trans e) f0 f1 f3 f4 f5;obtain⟨o,e,c,d⟩:=id st2;refine⟨u,rfl,AJ (s:={ s with heap:=h',toks:=tk }) e c d (by decide) ⟨x,H,I1,ru,⟨rfl,λys hy=>?_⟩,?_,λb hb=>(hf b hb).1⟩⟩
  ·rw[I.tuple_inj hy hq,cm (by omega)];exact hx
  ·show RV.Is h' it a ((n:Int)-1-((i+1:Nat):Int));rw[show (n:Int)-1-((i+1:Nat):Int)=((xs.length-1-i:Nat):Int)-1 by omega];exact st2
 done:=by
  intro X hP hw hK hc i pins s σ H E I hf st hg;subst hP hw hK;have hg':i=n:=hg;subst hg';obtain⟨f0,f1,f2,f3,f4,f5⟩:=hf it (by simp);have st':RV.Is s.heap it a (-1):=by
   have e:(i:Int)-1-(i:Int) = -1:=by omega
   rw[← e];exact st
  exact RV.EV (I.ok.hd hc) st' λh' eb=>⟨rfl,I.turned (t':=s.toks) (λb o hb e=>eb b o hb e) f0 f1 f3 f4 f5⟩
 self:=λ_ _ _ _ _ st h=>RV.yT st h
end L2
namespace Hv
open L2
def hv(F:Nat->Int)(t u:Int):Nat->Int
 | 0=>0
 | n+1=>(hv F t u n+F n*t^n)*u
theorem uT(h:Lt2 r u):∀ i,Lt2 (r*i+1) (u^i)
 | 0=>by rw[bR];unfold Lt2;exact aD (show (1:Int).natAbs<2^1 by decide) (da (by decide) (by omega))
 | i+1=>by
  rw[bv];exact ((uT h i).mul h).mono (by rw[ci];omega)
theorem pow_pos{u:Int}(h:0<u):∀ i:Nat,0<u^i
 | 0=>by rw[bR];decide
 | i+1=>by rw[bv];exact aP (pow_pos h i) h
theorem vA(h:∀ j,j<n->F j=G j):hv F t u n=hv G t u n:=by
 induction n with
 | zero=>rfl
 | succ n ih=>rw[hv,hv,ih λj hj=>h j (by omega),h n (by omega)]
theorem yU(h:∀ k,n<=k->F k=0):∀ j,hv F t u (n+j)=hv F t u n*u^j
 | 0=>by rw[Nat.add_zero,bR,cy]
 | j+1=>by rw[← dX,hv,yU h j,h (n+j) (by omega),aX,bS,bv,cI]
theorem zM(F G:Nat->Int)(t u:Int):∀ n,hv (λk=>F k+G k) t u n=hv F t u n+hv G t u n
 | 0=>rfl
 | n+1=>by rw[hv,hv,hv,zM F G t u n];grind
theorem vY(F:Nat->Int)(c t u:Int):∀ n,hv (λk=>F k*c) t u n=hv F t u n*c
 | 0=>by simp[hv]
 | n+1=>by rw[hv,hv,vY F c t u n];grind
theorem zL(h:∀ j,j<n->F j=0):hv F t u n=0:=by
 induction n with
 | zero=>rfl
 | succ n ih=>rw[hv,ih λj hj=>h j (by omega),h n (by omega)];simp
theorem AH(g:Nat->Int)(c t u:Int)(i:Nat):∀ k,hv (λm=>if i<=m then c*g (m-i) else 0) t u (i+k)=c*t^i*hv g t u k
 | 0=>by
  rw[Nat.add_zero,zL λj hj=>if_neg (by omega)];simp[hv]
 | k+1=>by
  rw[← dX,hv,AH g c t u i k,if_pos (by omega),show i+k-i=k by omega,hv,fv];grind
theorem Ip(f g:Nat->Int)(t u:Int)(hg:∀ k,m<=k->g k=0)(n:Nat):∀ i,i<=n->hv (λk=>Cv.tm f g i k) t u (n+m)=hv f t u i*u^(n-i)*hv g t u m
 | 0,_=>by
  rw[zL (F:=λk=>Cv.tm f g 0 k) λj _=>rfl];simp[hv]
 | i+1,h=>by
  have ih:=Ip f g t u hg n i (by omega);have e:hv (λk=>Cv.tm f g (i+1) k) t u (n+m)=hv (λk=>Cv.tm f g i k+(if i<=k then f i*g (k-i) else 0)) t u (n+m):=vA λj _=>rfl;rw[e,zM,ih];obtain⟨d,rfl⟩:∃ d,n=i+1+d:=⟨n-(i+1),by omega⟩;have e2:i+1+d+m=i+(m+(d+1)):=by omega
  rw[e2,AH,yU hg (d+1),hv,show i+1+d-i=d+1 by omega,show i+1+d-(i+1)=d by omega,bv];grind
theorem Iu(hf:∀ k,n<=k->f k=0)(hg:∀ k,m<=k->g k=0):hv (Cv.cv f g) t u (n+m)=hv f t u n*hv g t u m:=by
 have e:=Ip f g t u hg n n (aq _);rw[bY,bR,cy] at e;rw[← e];exact vA λj _=>(Cv.vK hf).symm
end Hv
namespace Pc
open L2 Cv Hv
theorem DZ(F:Nat->Int)(i:Nat):∀ n,sm F (i+n)=sm F i+sm (λj=>F (i+j)) n
 | 0=>by simp[sm]
 | n+1=>by rw[← dX,sm,DZ F i n,sm];omega
theorem Bb(F G:Nat->Int):∀ n,sm (λj=>F j+G j) n=sm F n+sm G n
 | 0=>rfl
 | n+1=>by rw[sm,sm,sm,Bb F G n];omega
theorem FN(f g h:Nat->Int)(k:Nat):cv (λj=>f j+g j) h k=cv f h k+cv g h k:=by
 unfold cv;rw[← Bb];exact tL λj _=>by rw[dU]
theorem FM(f g h:Nat->Int)(k:Nat):cv h (λj=>f j+g j) k=cv h f k+cv h g k:=by
 unfold cv;rw[← Bb];exact tL λj _=>by rw[Int.mul_add]
theorem FH(f g:Nat->Int)(c:Int)(k:Nat):cv f (λj=>g j*c) k=cv f g k*c:=by
 unfold cv;rw[← zi];exact tL λj _=>by grind
theorem FG(g h:Nat->Int)(c:Int)(i k:Nat):cv (λm=>if i<=m then c*g (m-i) else 0) h k=if i<=k then c*cv g h (k-i) else 0:=by
 unfold cv;by_cases hk:i<=k
 ·rw[if_pos hk];obtain⟨d,rfl⟩:∃ d,k=i+d:=⟨k-i,by omega⟩;rw[show i+d+1=i+(d+1) by omega,DZ];have e1:sm (λj=>(if i<=j then c*g (j-i) else 0)*h (i+d-j)) i=0:=by
   rw[uP (n:=0) (aL _) λj _ hj=>by show (if i<=j then _ else 0)*_=0;rw[if_neg (by omega),aX]];rfl
  rw[e1,cx,show i+d-i=d by omega,bO c,← zi];refine tL λj _=>?_;show (if i<=i+j then c*g (i+j-i) else 0)*h (i+d-(i+j))=g j*h (d-j)*c;rw[if_pos (by omega),show i+j-i=j by omega,show i+d-(i+j)=d-j by omega];grind
 ·rw[if_neg hk,uP (n:=0) (aL _) λj _ hj=>by show (if i<=j then _ else 0)*_=0;rw[if_neg (by omega),aX]];rfl
theorem ID(f g h:Nat->Int):∀(n k:Nat),cv (λm=>tm f g n m) h k=tm f (λm=>cv g h m) n k
 | 0,k=>by
  have:cv (λm=>tm f g 0 m) h k=0:=IC λj=>rfl;rw[this];rfl
 | n+1,k=>by
  rw[zf,← ID f g h n k,← FG g h (f n) n k,← FN];rfl
theorem FL(hf:∀ k,n<=k->f k=0)(k:Nat):cv (λm=>cv f g m) h k=cv f (λm=>cv g h m) k:=by
 rw[← vK (g:=λm=>cv g h m) hf,← ID f g h n k];exact uL (λj=>(vK hf).symm) λ_=>rfl
def d0:Nat->Int:=λk=>if k=0 then 1 else 0
theorem FJ(f:Nat->Int)(k:Nat):cv d0 f k=f k:=by
 have:tm d0 f 1 k=cv d0 f k:=vK λj hj=>by show (if j=0 then (1:Int) else 0)=0;rw[if_neg (by omega)]
 rw[← this];show 0+(if 0<=k then d0 0*f (k-0) else 0)=f k;rw[if_pos (aL _),cD];show 0+1*f k=f k;omega
def cp(g:Nat->Int):Nat->(Nat->Int)
 | 0=>d0
 | n+1=>λk=>cv (cp g n) g k
theorem uX(hg:∀ k,m<=k->g k=0):∀(n k:Nat),n*m+1<=k->cp g n k=0
 | 0,k,h=>by show (if k=0 then (1:Int) else 0)=0;rw[if_neg (by omega)]
 | n+1,k,h=>v6 (a:=n*m+1) (b:=m) (uX hg n) hg (by rw[aS] at h;omega)
def pc(F g:Nat->Int)(U:Int):Nat->(Nat->Int)
 | 0=>λ_=>0
 | n+1=>λk=>(pc F g U n k+F n*cp g n k)*U
theorem Bh(hg:∀ k,m<=k->g k=0):∀(n k:Nat),n*m+1<=k->pc F g U n k=0
 | 0,_,_=>rfl
 | n+1,k,h=>by
  rw[aS] at h;show (pc F g U n k+F n*cp g n k)*U=0;rw[Bh hg n k (by omega),uX hg n k (by omega)];simp
theorem E9(hg:∀ k,m<=k->g k=0)(hi:i<L)(h:∀ j,pc F g U L j=U^i*pc F g U (L-i) j+U*cv (cp g (L-i)) M j)(M':Nat->Int)(hM:∀ j,M' j=cv M g j+(if j=0 then F (L-1-i)*U^i else 0)) :
  pc F g U L k=U^(i+1)*pc F g U (L-(i+1)) k+U*cv (cp g (L-(i+1))) M' k:=by
 obtain⟨d,rfl⟩:∃ d,L=i+1+d:=⟨L-(i+1),by omega⟩;rw[h k,show i+1+d-i=d+1 by omega,show i+1+d-(i+1)=d by omega,pc,bv];have e1:cv (cp g (d+1)) M k=cv (cp g d) (λm=>cv M g m) k:=by
  show cv (λm=>cv (cp g d) g m) M k=_;rw[FL (n:=d*m+1) (uX hg d)];exact uL (λ_=>rfl) λj=>vH ..
 have e2:cv (cp g d) M' k=cv (cp g d) (λm=>cv M g m) k+cp g d k*(F d*U^i):=by
  have:cv (cp g d) M' k=cv (cp g d) (λj=>cv M g j+d0 j*(F d*U^i)) k:=uL (λ_=>rfl) λj=>by
   rw[hM j,show i+1+d-1-i=d by omega];unfold d0;by_cases z:j=0
   ·rw[if_pos z,if_pos z,cT]
   ·rw[if_neg z,if_neg z,aX]
  rw[this,FM,FH,vH (cp g d) d0,FJ]
 rw[e1,e2];show U^i*((pc F g U d k+F d*cp g d k)*U)+_=_;grind
theorem JZ:hv d0 t u 1=u:=by
 show (0+d0 0*t^0)*u=u;rw[bR];show (0+1*1)*u=u;omega
theorem Iv(hg:∀ k,m<=k->g k=0):∀ n,hv (cp g n) t u (n*m+1)=hv g t u m^n*u
 | 0=>by
  rw[fc,ff,bR,cT];exact JZ
 | n+1=>by
  rw[show (n+1)*m+1=(n*m+1)+m by rw[aS];omega];show hv (cv (cp g n) g) t u _=_;rw[Iu (uX hg n) hg,Iv hg n,bv];grind
theorem Ir(hg:∀ k,m<=k->g k=0):∀ n,hv (pc F g U n) t u (n*m+1)=u*hv F (hv g t u m) (U*u^m) n
 | 0=>by
  rw[zL (F:=pc F g U 0) λj _=>rfl];simp[hv]
 | n+1=>by
  have e:(n+1)*m+1=(n*m+1)+m:=by rw[aS];omega
  have e1:hv (pc F g U (n+1)) t u ((n+1)*m+1)=(hv (pc F g U n) t u ((n+1)*m+1)+hv (cp g n) t u ((n+1)*m+1)*F n)*U:=by
   rw[← vY (cp g n) (F n),← zM,← vY];exact vA λj _=>by show (pc F g U n j+F n*cp g n j)*U=_;rw[bO (F n)]
  rw[e1,e,yU (Bh hg n) m,yU (uX hg n) m,Ir hg n,Iv hg n,hv];grind
theorem yh(F:Nat->Int)(t u c:Int):∀ n,hv F (t*c) (u*c) n=hv F t u n*c^n
 | 0=>by simp[hv]
 | n+1=>by
  rw[hv,hv,yh F t u c n,fw,bv];grind
structure Wq (P:List Int)(B t u a b:Int):Prop where
 pos:0<b
 is:a*(B*u^P.length)=hv (fn P) t u P.length*b
theorem Wq.at(h:Wq P B t u a b)(hN:P.length<=N):a*(B*u^N)=hv (fn P) t u N*b:=by
 obtain⟨j,rfl⟩:∃ j,N=P.length+j:=⟨N-P.length,by omega⟩;rw[yU (λk hk=>sV hk) j,fv];have:=h.is
 calc a*(B*(u^P.length*u^j))=(a*(B*u^P.length))*u^j:=by grind
  _=hv (fn P) t u P.length*b*u^j:=by rw[this]
  _=_:=by grind
theorem Wq.of_at{P:List Int}{B t u a b:Int}(hu:0<u)(hb:0<b){N:Nat}(hN:P.length<=N)(h:a*(B*u^N)=hv (fn P) t u N*b):Wq P B t u a b:=by
 refine⟨hb,?_⟩;obtain⟨j,rfl⟩:∃ j,N=P.length+j:=⟨N-P.length,by omega⟩;rw[yU (λk hk=>sV hk) j,fv] at h;have U:=pow_pos hu j;refine bo (show u^j≠0 by omega) ?_
 calc a*(B*u^P.length)*u^j=a*(B*(u^P.length*u^j)):=by grind
  _=hv (fn P) t u P.length*u^j*b:=h
  _=_:=by grind
theorem Wq.comp{P G R:List Int}{B U C t u a b x y:Int}(hB:0<B)(hU:0<U)(hu:0<u)(h1:Wq G U t u a b)(h2:Wq P B a b x y)(hR:∀ k,R.getD k 0*(B*U^P.length)=pc (fn P) (fn G) U P.length k*C)(hl:R.length<=P.length*G.length+1):Wq R C t u x y:=by
 refine Wq.of_at hu h2.pos hl ?_;have e0:hv (fn R) t u (P.length*G.length+1)*(B*U^P.length)=u*hv (fn P) (hv (fn G) t u G.length) (U*u^G.length) P.length*C:=by
  rw[← Ir (λk hk=>sV hk),← vY,← vY];exact vA λj _=>hR j
 have e1:=h1.is;have e2:=h2.is;have e3:hv (fn P) (hv (fn G) t u G.length) (U*u^G.length) P.length*b^P.length=hv (fn P) a b P.length*(U*u^G.length)^P.length:=by
  rw[← yh,← yh,← e1,bO b]
 have e4:(U*u^G.length)^P.length*u=U^P.length*u^(P.length*G.length+1):=by
  rw[fw,← Int.pow_mul,bv,cE G.length];grind
 have b0:=pow_pos h1.pos P.length;have U0:=pow_pos hU P.length;generalize hv (fn R) t u (P.length*G.length+1)=r at *;generalize hv (fn P) (hv (fn G) t u G.length) (U*u^G.length) P.length=X2 at *;generalize hv (fn P) a b P.length=X1 at *;generalize (U*u^G.length)^P.length=W at *;generalize u^(P.length*G.length+1)=uN at *;generalize U^P.length=UL at *;generalize b^P.length=bL at *;have nz:B*UL*bL≠0:=aT (aP (aP hB U0) b0);refine bo nz ?_
 calc x*(C*uN)*(B*UL*bL)=(x*(B*bL))*C*(UL*uN):=by grind
  _=(X1*y)*C*(W*u):=by rw[e2,e4]
  _=(X1*W)*y*C*u:=by grind
  _=(X2*bL)*y*C*u:=by rw[e3]
  _=(u*X2*C)*(bL*y):=by grind
  _=(r*(B*UL))*(bL*y):=by rw[e0]
  _=r*y*(B*UL*bL):=by grind
theorem AV{F:Nat->Int}{t:Int}(ht:0<t):∀{n:Nat},(∀ k,k<n->(F k).natAbs<t.natAbs)->sm (λk=>F k*t^k) n=0->∀ k,k<n->F k=0
 | 0,_,_,k,hk=>absurd hk (bV _)
 | n+1,hF,h,k,hk=>by
  rw[B3,bR,cy] at h;have e:sm (λj=>F (j+1)*t^(j+1)) n=sm (λj=>F (j+1)*t^j) n*t:=by
   rw[← zi];exact tL λj _=>by rw[bv];grind
  rw[e] at h;have z:F 0=0:=by
   have d:t∣F 0:=⟨- sm (λj=>F (j+1)*t^j) n,by grind⟩;have l:=hF 0 (by omega);exact Int.eq_zero_of_dvd_of_natAbs_lt_natAbs d l
  rw[z,cx] at h;have h':sm (λj=>F (j+1)*t^j) n=0:=by
   rcases bD.mp h with q|q
   ·exact q
   ·omega
  cases k with
  | zero=>exact z
  | succ k=>exact AV (F:=λj=>F (j+1)) ht (λj hj=>hF (j+1) (by omega)) h' k (by omega)
theorem Iq(F:Nat->Int)(t:Int):∀ n,hv F t 1 n=sm (λk=>F k*t^k) n
 | 0=>rfl
 | n+1=>by rw[hv,Iq F t n,sm,cy]
theorem yy(f:Po.Fm R C)(f':Po.Fm S D)(h:∀ t:Int,0<t->∃ x y,Wq R C t 1 x y/\Wq S D t 1 x y):R=S/\C=D:=by
 refine Po.zc f f' λk=>?_;let N:=max R.length S.length
 let F:Nat->Int:=λj=>fn R j*D-fn S j*C
 have bd:∃ t:Int,0<t/\∀ j,j<N->(F j).natAbs<t.natAbs:=by
  have:∀ n:Nat,∃ t:Int,0<t/\∀ j,j<n->(F j).natAbs<t.natAbs:=by
   intro n;induction n with
   | zero=>exact⟨1,by decide,λj h=>absurd h (bV _)⟩
   | succ n ih =>
    obtain⟨t,t0,ht⟩:=ih;refine⟨t+((F n).natAbs:Int)+1,by omega,λj hj=>?_⟩;rcases bB (bQ hj) with e|e
    ·rw[e];omega
    ·have:=ht j e;omega
  exact this N
 obtain⟨t,t0,ht⟩:=bd;obtain⟨x,y,w1,w2⟩:=h t t0;have e1:=w1.at (N:=N) (by omega);have e2:=w2.at (N:=N) (by omega);rw[Int.one_pow,cy] at e1 e2;have z:sm (λk=>F k*t^k) N=0:=by
  rw[← Iq];have:hv F t 1 N=hv (fn R) t 1 N*D+hv (fn S) t 1 N*(-C):=by
   rw[← vY,← vY,← zM];exact vA λj _=>by show fn R j*D-fn S j*C=_;grind
  rw[this];have y0:=w1.pos;refine bo (show y≠0 by omega) ?_
  calc (hv (fn R) t 1 N*D+hv (fn S) t 1 N * -C)*y=(hv (fn R) t 1 N*y)*D-(hv (fn S) t 1 N*y)*C:=by grind
   _=(x*C)*D-(x*D)*C:=by rw[e1,e2]
   _=0*y:=by grind
 rcases aJ k N with c|c
 ·have:=AV t0 ht z k c;have q:fn R k*D-fn S k*C=0:=this;show fn R k*D=fn S k*C;omega
 ·show fn R k*D=fn S k*C;rw[sV (P:=R) (by omega),sV (P:=S) (by omega)];simp
theorem AO(hg:∀ k,l<=k->g k=0)(hs:∀ k,Lt2 m (g k)):∀ n,n*l<=400->∀ k,Lt2 ((m+9)*n+1) (cp g n k)
 | 0,_,k=>by
  show Lt2 _ (if k=0 then (1:Int) else 0);split
  ·unfold Lt2;exact aD (show (1:Int).natAbs<2^1 by decide) (da (by decide) (by omega))
  ·exact cj (by decide)
 | n+1,h,k=>by
  rw[aS] at h;have ih:=AO hg hs n (by omega);rcases aJ k 500 with c|c
  ·exact (FI (b:=9) ih hs (by omega)).mono (by rw[ci];omega)
  ·rw[uX hg (n+1) k (by rw[aS];omega)];exact cj (by decide)
theorem Ia(hg:∀ k,l<=k->g k=0)(hF:∀ k,Lt2 n (F k))(hs:∀ k,Lt2 m (g k))(hU:Lt2 c U):∀ i,i*l<=400->∀ k,Lt2 (n+(m+c+10)*i+1) (pc F g U i k)
 | 0,_,k=>cj (by decide)
 | i+1,h,k=>by
  rw[aS] at h;have ih:=Ia hg hF hs hU i (by omega) k;have h2:Lt2 (n+(m+c+10)*i+1) (F i*cp g i k):=((hF i).mul (AO hg hs i (by omega) k)).mono (by
   have:(m+9)*i<=(m+c+10)*i:=aI _ (by omega);omega)
  exact ((ih.add h2).mul hU).mono (by rw[ci];omega)
def X:List Int:=[0,1]
theorem NC(k:Nat):fn X k=if k=1 then 1 else 0:=by
 match k with
 | 0=>rfl
 | 1=>rfl
 | k+2 =>
  rw[sV (P:=X) (by show 2<=_;omega),if_neg (by omega)]
theorem NP:Po.Fm X 1:=⟨by decide,.inr (by decide),by decide⟩
theorem L5(f:Nat->Int)(k:Nat):cv f (fn X) k=if k=0 then 0 else f (k-1):=by
 rw[vH,← vK (n:=2) (λj hj=>sV hj)];show 0+(if 0<=k then fn X 0*f (k-0) else 0)+(if 1<=k then fn X 1*f (k-1) else 0)=_;have e0:fn X 0=0:=rfl;have e1:fn X 1=1:=rfl;rw[e0,e1];by_cases z:k=0
 ·subst z;simp
 ·rw[if_neg z,if_pos (show 1<=k by omega)];simp
def Of(P:List Int)(B:Int)(G:List Int)(U:Int)(R:List Int)(C:Int):Prop:=Po.Fm R C/\∀ k,R.getD k 0*(B*U^P.length)=pc (fn P) (fn G) U P.length k*C
theorem Of.len{P G R:List Int}{B U C:Int}(hB:0<B)(hU:0<U)(h:Of P B G U R C):R.length<=P.length*G.length+1:=by
 rcases h.1.last with e|e
 ·subst e;exact aL _
 ·rcases aJ (P.length*G.length+1) R.length with c|c
  ·refine absurd ?_ e;have e3:=h.2 (R.length-1);rw[Bh (m:=G.length) (λk hk=>sV hk) _ _ (by omega),aX] at e3;rcases bD.mp e3 with q|q
   ·exact q
   ·have:=aP hB (pow_pos hU P.length);omega
  ·exact c
structure Pz (n b:Nat)(P:List Int)(B:Int):Prop where
 fm:Po.Fm P B
 tops:∀ k,Lt2 n (P.getD k 0)
 bot:Lt2 b B
theorem Pz.mono(h:Pz n b P B)(l:n<=n')(l':b<=b'):Pz n' b' P B:=⟨h.fm,λk=>(h.tops k).mono l,h.bot.mono l'⟩
theorem Pz.of{n b:Nat}{f:Nat->Int}{B c:Int}(F:Po.Fm P B)(hc:0<c)(h:∀ k,P.getD k 0*c=f k*B)(h1:∀ k,Lt2 n (f k))(h2:Lt2 b c):Pz n b P B :=
 ⟨F,λk=>(h1 k).le ((Po.size F hc h).2 k),h2.le (Po.size F hc h).1⟩
theorem Of.size{P G R:List Int}{B U C:Int}{n b m c:Nat}(h:Of P B G U R C)(z1:Pz n b P B)(z2:Pz m c G U)(hl:P.length*G.length<=400):Pz (n+(m+c+10)*P.length+1) (b+(c*P.length+1)) R C:=by
 have Y:=aP z1.fm.pos (pow_pos z2.fm.pos P.length);exact Pz.of h.1 Y h.2 (λk=>Ia (λk hk=>sV hk) (λk=>z1.tops k) (λk=>z2.tops k) z2.bot P.length hl k) (z1.bot.mul (uT z2.bot P.length))
theorem wJ(hg:∀ k,m<=k->g k=0):∀(n k:Nat),n*(m-1)+1<=k->cp g n k=0
 | 0,k,h=>by show (if k=0 then (1:Int) else 0)=0;rw[if_neg (by omega)]
 | n+1,k,h=>v6 (a:=n*(m-1)+1) (b:=m) (wJ hg n) hg (by rw[aS] at h;omega)
theorem zt(hg:∀ k,m<=k->g k=0):∀(n k:Nat),(n-1)*(m-1)+1<=k->pc F g U n k=0
 | 0,_,_=>rfl
 | n+1,k,h=>by
  rw[Nat.add_sub_cancel] at h;have:(n-1)*(m-1)<=n*(m-1):=aI _ (by omega);show (pc F g U n k+F n*cp g n k)*U=0;rw[zt hg n k (by omega),wJ hg n k (by omega)];simp
theorem Of.deg{P G R:List Int}{B U C:Int}(hB:0<B)(hU:0<U)(h:Of P B G U R C):R.length<=(P.length-1)*(G.length-1)+1:=by
 rcases h.1.last with e|e
 ·subst e;exact aL _
 ·rcases aJ ((P.length-1)*(G.length-1)+1) R.length with c|c
  ·refine absurd ?_ e;have e3:=h.2 (R.length-1);rw[zt (m:=G.length) (λk hk=>sV hk) _ _ (by omega),aX] at e3;rcases bD.mp e3 with q|q
   ·exact q
   ·have:=aP hB (pow_pos hU P.length);omega
  ·exact c
theorem ub{R:List Int}{C c:Int}{f:Nat->Int}{N:Nat}(F:Po.Fm R C)(hc:0<c)(h:∀ k,R.getD k 0*c=f k*C)(hf:∀ k,N<=k->f k=0):R.length<=N:=by
 rcases F.last with e|e
 ·subst e;exact aL _
 ·rcases aJ N R.length with z|z
  ·refine absurd ?_ e;have e3:=h (R.length-1);rw[hf _ (by omega),aX] at e3;rcases bD.mp e3 with q|q
   ·exact q
   ·omega
  ·exact z
theorem Mf:Pz 1 1 X 1:=⟨NP,λk=>by
 show Lt2 1 (fn X k);rw[NC];split <;> (unfold Lt2;decide),by unfold Lt2;decide⟩
end Pc
namespace L2
instance decLt2 (n:Nat)(i:Int):Decidable (Lt2 n i):=inferInstanceAs (Decidable (i.natAbs<2^n))
end L2
namespace Pc
open L2 Cv Hv
def St(ta ba tb bb:Int)(P:List Int)(B:Int):Prop:=Po.Fm P B/\∀ k,P.getD k 0*(ba*bb)=[tb*ba,ta*bb].getD k 0*B
theorem BV(x y:Int)(k:Nat):[x,y].getD (k+2) 0=0:=by simp
theorem IW{R G T:List Int}{M:Nat->Int}{B U W C tb:Int}{k:Nat}(c0:0<C)(hR:∀ j,R.getD j 0*(B*W)=M j*U*C)(hT:T.getD k 0*(C*U)=cv (fn R) (fn G) k*tb):T.getD k 0*(B*(W*U))=cv M (fn G) k*U*tb:=by
 have e1:cv (fn R) (fn G) k*(B*W)=cv M (fn G) k*(U*C):=by
  rw[← uK,← uK];exact uL (λj=>by show R.getD j 0*(B*W)=_;rw[hR j];grind) λ_=>rfl
 refine bo (show C≠0 by omega) ?_;generalize cv (fn R) (fn G) k=X at *;generalize cv M (fn G) k=Y at *;generalize T.getD k 0=Tk at *
 calc Tk*(B*(W*U))*C=(Tk*(C*U))*(B*W):=by grind
  _=(X*tb)*(B*W):=by rw[hT]
  _=(X*(B*W))*tb:=by grind
  _=(Y*(U*C))*tb:=by rw[e1]
  _=_:=by grind
theorem IV{S T E:Int}(t0:0<tb)(e0:0<e)(hT:T*(B*(W*U))=q*U*tb)(hE:E*B=x*e)(hS:S*(tb*e)=(T*e+E*tb)*sb):S*(B*(W*U))=(q+x*W)*U*sb:=by
 refine bo (show tb*e≠0 from aT (aP t0 e0)) ?_
 calc S*(B*(W*U))*(tb*e)=(S*(tb*e))*(B*(W*U)):=by grind
  _=((T*e+E*tb)*sb)*(B*(W*U)):=by rw[hS]
  _=((T*(B*(W*U)))*e+(E*B)*(W*U)*tb)*sb:=by grind
  _=((q*U*tb)*e+(x*e)*(W*U)*tb)*sb:=by rw[hT,hE]
  _=_:=by grind
end Pc
namespace Qp
open L2 Cv Hv Pc
theorem sO{b:Int}(h:0<b):(b:Rat)≠0:=λz=>by
 have:=eW.mp z;omega
theorem tF{b:Int}(h:b≠0):(b:Rat)≠0:=λz=>h (eW.mp z)
theorem xa{b:Rat}(h:b≠0):∀ n:Nat,b^n≠0
 | 0=>by rw[cW];decide
 | n+1=>λz=>by
  rw[dc] at z;rcases dN.mp z with w|w
  ·exact xa h n w
  ·exact h w
theorem zp(a:Rat)(h:b≠0):∀ n:Nat,(a / b)^n*b^n=a^n
 | 0=>by rw[cW,cW,cW];grind
 | n+1=>by
  have ih:=zp a h n;rw[dc,dc,dc,← ih];grind
theorem uc{a b c d:Int}(hb:b≠0)(hd:d≠0):((a:Rat) / (b:Rat)=(c:Rat) / (d:Rat))↔a*d=c*b:=by
 have h1:=tF hb;have h2:=tF hd;constructor
 ·intro h;have:(a:Rat)*(d:Rat)=(c:Rat)*(b:Rat):=by grind
  rw[← ax,← ax] at this;exact cG.mp this
 ·intro h;have:(a:Rat)*(d:Rat)=(c:Rat)*(b:Rat):=by rw[← ax,← ax,h]
  grind
theorem wx(x:Rat):∃ t u:Int,0<u/\x=(t:Rat) / (u:Rat):=by
 refine⟨x.num,(x.den:Int),?_,?_⟩
 ·have:=d8 x.den_nz;omega
 ·have:=fI x;rw[fN] at this;exact this.symm
def ei(F:Nat->Int)(x:Rat):Nat->Rat
 | 0=>0
 | n+1=>ei F x n+(F n:Rat)*x^n
theorem Ft(h:∀ k,n<=k->F k=0):∀ j,ei F x (n+j)=ei F x n
 | 0=>rfl
 | j+1=>by
  rw[← dX,ei,Ft h j,h (n+j) (by omega)];grind
theorem Fv{a b:Int}{x:Rat}(h:∀ k,F k*a=G k*b):∀ n,ei F x n*(a:Rat)=ei G x n*(b:Rat)
 | 0=>by rw[ei,ei];grind
 | n+1=>by
  have ih:=Fv (x:=x) h n;have e:(F n:Rat)*(a:Rat)=(G n:Rat)*(b:Rat):=by rw[← ax,← ax,h n]
  rw[ei,ei];grind
theorem AI(F:Nat->Int)(t:Int)(hu:0<u):∀ n,((hv F t u n:Int):Rat)=(u:Rat)^n*ei F ((t:Rat) / (u:Rat)) n
 | 0=>by rw[hv,ei];grind
 | n+1=>by
  have hn:=sO hu;have ih:=AI F t hu n;have p:=zp (t:Rat) hn n;rw[hv,ei,ax,bU,ax,cO,ih,dc,← p];grind
def E(P:List Int)(B:Int)(x:Rat):Rat:=ei (fn P) x P.length / (B:Rat)
theorem Ms(h:P.length<=N):E P B x=ei (fn P) x N / (B:Rat):=by
 obtain⟨j,rfl⟩:∃ j,N=P.length+j:=⟨N-P.length,by omega⟩;rw[Ft (λk hk=>sV hk) j];rfl
theorem wq{P:List Int}{B t u a b:Int}(hB:0<B)(hu:0<u)(hb:0<b):Wq P B t u a b↔E P B ((t:Rat) / (u:Rat))=(a:Rat) / (b:Rat):=by
 have nB:=sO hB;have nu:=sO hu;have nb:=sO hb;have nU:=xa nu P.length;have key:=AI (fn P) t hu P.length;constructor
 ·intro h;have e:=congrArg (λz:Int=>(z:Rat)) h.is;simp only[ax,cO] at e;rw[key] at e;unfold E;generalize (u:Rat)^P.length=U at *;generalize ei (fn P) ((t:Rat) / (u:Rat)) P.length=X at *;have:(a:Rat)*(B:Rat)=X*(b:Rat):=by
   have:((a:Rat)*(B:Rat)-X*(b:Rat))*U=0:=by grind
   rcases dN.mp this with w|w
   ·grind
   ·exact absurd w nU
  grind
 ·intro h;refine⟨hb,?_⟩;unfold E at h;have:((a*(B*u^P.length):Int):Rat)=((hv (fn P) t u P.length*b:Int):Rat):=by
   simp only[ax,cO];rw[key];generalize (u:Rat)^P.length=U at *;generalize ei (fn P) ((t:Rat) / (u:Rat)) P.length=X at *;have:X*(b:Rat)=(a:Rat)*(B:Rat):=by grind
   grind
  exact cG.mp this
theorem AX(hB:0<B)(hU:0<U)(h:Of P B G U R C)(x:Rat):E R C x=E P B (E G U x):=by
 obtain⟨t,u,hu,rfl⟩:=wx x;obtain⟨a,b,hb,e1⟩:=wx (E G U ((t:Rat) / (u:Rat)));obtain⟨c,d,hd,e2⟩:=wx (E P B ((a:Rat) / (b:Rat)));rw[e1,e2];exact (wq h.1.pos hu hd).mp (Wq.comp hB hU hu ((wq hU hu hb).mpr e1) ((wq hB hb hd).mpr e2) h.2 (h.len hB hU))
theorem IH(f:Po.Fm R C)(f':Po.Fm S D)(h:∀ x,E R C x=E S D x):R=S/\C=D:=by
 refine yy f f' λt ht=>?_;obtain⟨a,b,hb,e⟩:=wx (E R C ((t:Rat) / ((1:Int):Rat)));exact⟨a,b,(wq f.pos (by decide) hb).mpr e,(wq f'.pos (by decide) hb).mpr ((h _).symm.trans e)⟩
theorem Kw{C c:Int}{f:Nat->Int}{x:Rat}{N:Nat}(hC:0<C)(hc:c≠0)(h:∀ k,R.getD k 0*c=f k*C)(hN:R.length<=N):E R C x=ei f x N / (c:Rat):=by
 rw[Ms hN];have e:=Fv (F:=fn R) (G:=f) (x:=x) h N;have n1:=sO hC;have n2:=tF hc;grind
theorem L0{f g:Nat->Int}{n m:Nat}(hf:∀ k,n<=k->f k=0)(hg:∀ k,m<=k->g k=0)(x:Rat):ei (cv f g) x (n+m)=ei f x n*ei g x m:=by
 obtain⟨t,u,hu,rfl⟩:=wx x;have e:=congrArg (λz:Int=>(z:Rat)) (Iu (t:=t) (u:=u) hf hg);simp only[ax] at e;rw[AI _ _ hu,AI _ _ hu,AI _ _ hu] at e;have n1:=xa (sO hu) n;have n2:=xa (sO hu) m;have e3:(u:Rat)^(n+m)=(u:Rat)^n*(u:Rat)^m:=by grind
 rw[e3] at e;generalize (u:Rat)^n=a at *;generalize (u:Rat)^m=b at *;generalize ei (cv f g) ((t:Rat) / (u:Rat)) (n+m)=X at *;generalize ei f ((t:Rat) / (u:Rat)) n=Y at *;generalize ei g ((t:Rat) / (u:Rat)) m=Z at *;have:(X-Y*Z)*(a*b)=0:=by grind
 rcases dN.mp this with w|w
 ·grind
 ·rcases dN.mp w with v|v
  ·exact absurd v n1
  ·exact absurd v n2
theorem OK(F:Nat->Int)(x:Rat):ei F x 1=(F 0:Rat):=by
 show 0+(F 0:Rat)*x^0=_;rw[cW];grind
theorem OJ(F:Nat->Int)(x:Rat):ei F x 2=(F 0:Rat)+(F 1:Rat)*x:=by
 show ei F x 1+(F 1:Rat)*x^1=_;rw[OK,Rat.pow_one]
theorem NV{P:List Int}(h:St ta ba tb bb P B)(h1:0<ba)(h2:0<bb)(x:Rat):E P B x=(ta:Rat) / (ba:Rat)*x+(tb:Rat) / (bb:Rat):=by
 have p:=aP h1 h2;have l:P.length<=2:=ub h.1 p h.2 λk hk=>by
  obtain⟨j,rfl⟩:∃ j,k=j+2:=⟨k-2,by omega⟩;exact BV _ _ _
 rw[Kw h.1.pos (aT p) h.2 l,OJ];show (((tb*ba:Int):Rat)+((ta*bb:Int):Rat)*x) / ((ba*bb:Int):Rat)=_;rw[ax,ax,ax];have n1:=sO h1;have n2:=sO h2;grind
def q(P:List Int)(B:Int)(k:Nat):Rat:=((P.getD k 0:Int):Rat) / (B:Rat)
theorem Db{R:List Int}{C c:Int}{f:Nat->Int}(hC:0<C)(hc:c≠0)(h:∀ k,R.getD k 0*c=f k*C)(k:Nat):q R C k=((f k:Int):Rat) / (c:Rat):=(uc (aT hC) hc).mpr (h k)
theorem Av(h:P.length<=k):q P B k=0:=by
 unfold q;rw[aj,aV h];show ((0:Int):Rat) / _=0;grind
theorem Jo(f:Po.Fm P B)(h:P≠[]):q P B (P.length-1)≠0:=by
 rcases f.last with e|e
 ·exact absurd e h
 ·unfold q;have n1:=tF e;have n2:=sO f.pos;intro z;generalize ((P.getD (P.length-1) 0:Int):Rat)=a at *;grind
end Qp
namespace L2
open PySem Qp
variable{K:Frag}{H H':Hp}{v:V}{r:Rat}{n b n' b':Nat}
theorem Fq.ne{p:Addr}{t u:Int}(hu:0<u)(e:r=(t:Rat) / (u:Rat)):r≠0↔t≠0:=by
 have n1:=sO hu;subst e;constructor
 ·intro h z;subst z;refine h ?_;have:((0:Int):Rat)=0:=rfl;rw[this];grind
 ·intro h z;have h':=tF h;generalize (t:Rat)=a at *;grind
end L2
namespace Qp
open L2 Cv Hv Pc
theorem Ld{B1 B2 C:Int}(h1:0<B1)(h2:0<B2)(hC:0<C)(h:∀ k,R.getD k 0*(B1*B2)=(P1.getD k 0*B2+P2.getD k 0*B1)*C)(k:Nat):q R C k=q P1 B1 k+q P2 B2 k:=by
 have e:=Db (f:=λk=>P1.getD k 0*B2+P2.getD k 0*B1) hC (aT (aP h1 h2)) h k;rw[e];have n1:=sO h1;have n2:=sO h2;unfold q;simp only[ax,bU];grind
end Qp
namespace HT
open PySem PyProof.Rows
variable{prog:Program}{w:World}{A:Around}{E:Value->Shared->Prop}{s:Shared}
theorem AK{α β:Type}{f g:α->Option β}:∀{l:List α},(∀ a∈l,f a=g a)->l.filterMap f=l.filterMap g
 | [],_=>rfl
 | a::l,h=>by
  rw[bt,bt,h a av,AK λb hb=>h b (aw _ hb)]
theorem wT{sl:Addr}{vl vs:Value}{n:Nat}(hs:s.heap.IsSliceOf sl vl .none vs)(pl:IsPart vl (some 1))(ps:IsPart vs (some 2))
  (h:Q (((min 1 n:Nat):Int),2,n / 2) s):wpAny (model prog w) A (Builtin.Slice.sliceApplied (.ref sl) (pure (n:Int))) Q E s:=by
 obtain⟨os,hos,hcs,hds⟩:=id hs;unfold Builtin.Slice.sliceApplied Builtin.Slice.sliceFields;refine ηB (ηB (wpAny_field hos hds (x:=vl) rfl (ηB (wpAny_field hos hds (x:=.none) rfl (ηB (wpAny_field hos hds (x:=vs) rfl (ηP ?_)))))));refine ηB (uQ ps ?_);show wpAny _ _ (if ((2:Int) == 0)=true then _ else _) _ _ s;rw[if_neg (by decide)];refine ηB (uQ pl (ηB (slicePart_none (ηB (ηP ?_)))));show wpAny _ _ (match Builtin.Slice.sliceAdjust (some 1) none 2 (n:Int) with|(lo,hi)=>pure (lo,(2:Int),Builtin.Slice.slicePlaces lo hi 2)) _ _ s;have e:Builtin.Slice.sliceAdjust (some 1) none 2 (n:Int)=(((min 1 n:Nat):Int),(n:Int)):=by
  unfold Builtin.Slice.sliceAdjust;simp;omega
 rw[e];show wpAny _ _ (pure (((min 1 n:Nat):Int),(2:Int),Builtin.Slice.slicePlaces ((min 1 n:Nat):Int) (n:Int) 2)) _ _ s;have e2:Builtin.Slice.slicePlaces ((min 1 n:Nat):Int) (n:Int) 2=n / 2:=by
  unfold Builtin.Slice.slicePlaces;have h1:(2:Int) > 0:=by omega
  simp only[h1,if_true];split <;> omega
 rw[e2];exact ηP h
theorem wE(ht:IsTup s.heap t items)(hs:s.heap.IsSliceOf sl vl .none vs)(pl:IsPart vl (some 1))(ps:IsPart vs (some 2))
  (h:Q (.ref s.heap.objs.size) { s with heap:=s.heap.push { cls:=.type "tuple",data:=.seq ((List.range (items.size / 2)).filterMap λ(m:Nat)=>items[1+m*2]?).toArray } })
  (hsz:items.size<=sizeLine):wpAny (model prog w) A (getItem (.ref t) (.ref sl)) Q E s:=by
 have htake:sizeOk (.seq ((List.range (items.size / 2)).filterMap λ(m:Nat)=>items[1+m*2]?).toArray):=by
  show ((List.range (items.size / 2)).filterMap λ(m:Nat)=>items[1+m*2]?).toArray.size<=sizeLine;rw[ak];have:=eU (λ(m:Nat)=>items[1+m*2]?) (List.range (items.size / 2));rw[az] at this;omega
 obtain⟨os,hos,hcs,hds⟩:=id hs;have hTs:s.TypeIs (.ref sl) "slice" := ⟨os,hos,hcs⟩;unfold getItem;try with_reducible refine wpAny_holding ?_
 first|refine ηB (ηP ?_)|skip
 refine ηB (wpAny_sequenceKey ht.typeIs (by decide) ?_);refine ηB (wpAny_callSpecial?_slot (name:=Str.ofString "__getitem__") ht.typeIs PyProof.Rows.slot_tuple_getitem
  (wpAny_call_entry PyProof.Rows.slot_tuple_getitem ht.typeIs entry_tuple_getitem ?_ (args_tuple_getitem _ _)))
 show wpAny _ _ (Builtin.Tuple.tupleItemsOf (.ref t) >>= _) _ _ s;refine ηB (tupleItemsOf_ ht ?_);refine ηB (wpAny_typeOf hTs ?_);rw[if_pos (by decide)];refine ηB (wT hs pl ps ?_);have hno:¬ ((((min 1 items.size:Nat):Int) == 0 && (2:Int) == 1 && (items.size / 2) == items.size)=true):=by
  intro q;rw[bh,bh] at q;exact absurd q.1.2 (by decide)
 show wpAny _ _ (if (((min 1 items.size:Nat):Int) == 0 && (2:Int) == 1 && (items.size / 2) == items.size)=true then _ else _) _ _ s;have ep:((List.range (items.size / 2)).filterMap λ(m:Nat)=>items[(((min 1 items.size:Nat):Int)+(m:Int)*2).toNat]?).toArray=((List.range (items.size / 2)).filterMap λ(m:Nat)=>items[1+m*2]?).toArray:=by
  congr 1;refine AK λm hm=>?_;have:=bf.mp hm;congr 1;omega
 rw[if_neg hno,ep];first
  | exact ηB (m:=Builtin.Tuple.tupleExact _) (wpAny_newObj_type (ηP ⟨_,rfl,ηP h⟩) htake)
  | exact ηB (m:=Builtin.Tuple.tupleExact _) (wpAny_newObj_type (ηB (ηP (ηP ⟨_,rfl,ηP h⟩))) htake)
  | exact ηB (ηB (m:=Builtin.Tuple.tupleExact _) (wpAny_newObj_type (ηP (ηP ⟨_,rfl,ηP h⟩)) htake))
  | exact ηB (ηB (m:=Builtin.Tuple.tupleExact _) (wpAny_newObj_type (ηP ⟨_,rfl,ηP h⟩) htake))
end HT
namespace L2
open PySem PySem.Spec PyProof.Rows
section
variable{X:Cx}{e:Expr}{te:TE}{lo hi:Option Expr}{se:Expr}{tl th ts:TO}{pos p2:Pos}
def Kr(X:Cx)(r:V->Option Int->Option Int->Option Int->Hp->VK->Prop):Prop :=
 ∀(pins:List (Addr×Obj)) (s:Shared) (σ:St) (H:Hp) (x:V) (v vl vu vs:Value) (lo hi st:Option Int) (sl:Addr) (Q:VK),Inv X pins σ H s->RelV x v->s.heap.IsSliceOf sl vl vu vs->IsPart vl lo->IsPart vu hi->IsPart vs st->r x lo hi st H Q ->
  ∃ T id,typeLookup (.type T) "__getitem__" = pure (some (.builtin id))/\s.TypeIs v T/\wpAny (model X.prog X.w) X.A (getItem v (.ref sl)) (EP X pins σ Q) X.xe s
def MW(r:V->Option Int->Option Int->Option Int->Hp->VK->Prop)(te:TE)(tl th ts:TO):TE:=λσ H Q=>te σ H λx H1=>tl σ H1 λl H2=>th σ H2 λu H3=>ts σ H3 λk H4=>r x l u k H4 Q
theorem yO(hr:Kr X r)(he:PE X e te)(hl:PO X lo tl)(hu:PO X hi th)(hs:PO X (some se) ts):PE X (.Subscript e (.Slice lo hi (some se) p2) pos) (MW r te tl th ts):=by
 intro pins s σ H Q I h;refine Subscript_ (tz (he pins s σ H _ I h) λv s1 ⟨x,H1,I1,r1,q1⟩=>?_);refine wpAny_Slice (tz (hl pins s1 σ H1 _ I1 q1) λvl s2 ⟨l,H2,I2,pl,q2⟩=>tz (hu pins s2 σ H2 _ I2 q2) λvu s3 ⟨u,H3,I3,pu,q3⟩=>tz (hs pins s3 σ H3 _ I3 q3) λvs s4 ⟨k,H4,I4,pk,q4⟩=>?_);have I5:Inv X pins σ H4 { s4 with heap:=s4.heap.push { cls:=.type "slice",data:=.fields #[vl,vu,vs] } }:=I4.kept (t':=s4.toks) λb ob q=>ηH _ q;obtain⟨T,id,hT,ht,hg⟩:=hr pins { s4 with heap:=s4.heap.push { cls:=.type "slice",data:=.fields #[vl,vu,vs] } } σ H4 x v vl vu vs l u k s4.heap.objs.size Q I5 r1 (Heap.IsSliceOf.new ..) pl pu pk q4;show wpAny (model X.prog X.w) X.A (subscriptTail e (.Slice lo hi (some se) p2) v (.ref s4.heap.objs.size)) (EP X pins σ Q) X.xe { s4 with heap:=s4.heap.push { cls:=.type "slice",data:=.fields #[vl,vu,vs] } };exact tail_any (ops:=[v,.ref s4.heap.objs.size]) ht hT hg (by with_unfolding_all rfl)
theorem Nc(K:Frag)(hK:X.K=K:=by rfl):Kr X (λx lo hi st H Q=>lo=none/\hi=none/\st=some (-1)/\∃ a xs,x = .ref a/\SqL K H a xs/\∀ p,H p=none->Q (.ref p) (tJ H p (.lst xs.reverse))):=by
 subst hK;intro pins s σ H x v vl vu vs lo hi st sl Q I rx hs pl pu pk h;obtain⟨rfl,rfl,rfl,a,xs,rfl,hx,q⟩:=h;cases rx;obtain⟨its,r,ht,hz⟩:=I.list hx;have hlen:=r.length;refine⟨"list",_,slot_list_getitem.lookup,ht.isList.typeIs,?_⟩;refine wpAny_getItem_list_slice ht.isList hs pl pu pk (by decide) ?_ (by rw[ak] <;> omega);rw[PySem.W.krv_pick];refine⟨.ref s.heap.objs.size,_,I.laid (t':=s.toks) (o:=.lst xs.reverse) (λb ob q=>ηH _ q) (aq _) ?_,rfl,q _ (I.hok.fresh (aq _))⟩;exact⟨by rw[bM];exact hz,its.reverse,0,r.reverse,ηG _ rfl⟩
def Dk(xs:List V):List V:=(List.range (xs.length / 2)).filterMap λm=>xs[1+m*2]?
theorem Ae(r:Vals xs its):∀ ms:List Nat,Vals (ms.filterMap λm=>xs[1+m*2]?) (ms.filterMap λm=>its.toArray[1+m*2]?)
 | []=>.nil
 | m::ms=>by
  have ih:=Ae r ms;rw[bt,bt];cases hx:xs[1+m*2]? with
  | none =>
   have:its.toArray[1+m*2]? = none:=by
    have h1:=bA.mp hx;rw[cY];exact bA.mpr (by rw[← r.length];exact h1)
   rw[this];exact ih
  | some x =>
   obtain⟨u,hu,ru⟩:=r.get hx;have:its.toArray[1+m*2]? = some u:=by rw[cY];exact hu
   rw[this];exact .cons ru ih
theorem Np(K:Frag)(hK:X.K=K:=by rfl):Kr X (λx lo hi st H Q=>lo=some 1/\hi=none/\st=some 2/\∃ a xs,x = .ref a/\SqT K H a xs/\∀ p,H p=none->Q (.ref p) (tJ H p (.tup (Dk xs)))):=by
 subst hK;intro pins s σ H x v vl vu vs lo hi st sl Q I rx hs pl pu pk h;obtain⟨rfl,rfl,rfl,a,xs,rfl,hx,q⟩:=h;cases rx;cases pu;obtain⟨its,r,ht,hz⟩:=I.tuple hx;have hlen:its.toArray.size=xs.length:=by rw[ak];exact r.length.symm
 refine⟨"tuple",_,PyProof.Rows.slot_tuple_getitem.lookup,ht.typeIs,?_⟩;refine HT.wE ht hs pl pk ?_ (by rw[hlen];exact hz);rw[hlen];refine⟨.ref s.heap.objs.size,_,I.laid (t':=s.toks) (o:=.tup (Dk xs)) (λb ob q=>ηH _ q) (aq _) ?_,rfl,q _ (I.hok.fresh (aq _))⟩;refine⟨?_,_,Ae r _,IsTup.new _ _⟩;have:=eU (λ(m:Nat)=>xs[1+m*2]?) (List.range (xs.length / 2));rw[az] at this;show (Dk xs).length<=sizeLine;unfold Dk;omega
theorem any_cons(b:Bool)(r:List Bool):(List.range (r.length+1)).any (λj=>(b::r).getD j false)=(b || (List.range r.length).any (λj=>r.getD j false)):=by
 rw[eX,dw,List.any_map];rfl
theorem C9(bs:List Bool):(List.range bs.length).any (λj=>bs.getD j false)=bs.any id:=by
 induction bs with
 | nil=>rfl
 | cons b r ih =>
  rw[aE,any_cons,dw];exact congrArg (b || ·) ih
theorem NM(K:Frag)(hc:X.calm=true:=by rfl)(hK:X.K=K:=by rfl):CallR X (.builtin "any") (λxs H Q=>∃ p,∃ bs:List Bool,xs=[.ref p]/\SqL K H p (bs.map V.bl)/\Q (.bl (bs.any id)) H):=by
 subst hK;intro pins s σ H xs us Q I rv h;obtain⟨p,bs,rfl,hp,q⟩:=h;obtain⟨u,rfl,ru⟩:=rv.one;cases ru;obtain⟨its,rv',pl,_⟩:=I.list hp;refine call_any_walk (wpAny_pyIter_list pl.isList ?_);have e:∀ b o,s.heap.get? b=some o->(s.heap.push { cls:=.type "list_iterator",data:=.fields #[.ref p,.int 0 0] }).get? b=some o:=λb o e=>ηH _ e;have hne:p≠s.heap.objs.size:=by
  obtain⟨o,ho,_⟩:=pl.isList;exact aZ (ηL ho)
 have lb:bs.length=its.length:=by rw[← rv'.length,aa]
 refine⟨_,_,_,_,_,_,λj=>bs.getD j false,rfl,Walks.list (A:=X.A.in1) (I.ok.hd hc) _ p hne its.toArray,⟨⟨_,ηG _ rfl,rfl,rfl⟩,pl.isList.at λo ho=>e _ o ho⟩,?_,λh' tk hk=>?_⟩
 ·intro i v s Q E hv hq;have hv':its[i]? = some v:=by simpa using hv
  have hi:i<bs.length:=by
   rw[lb];exact (af.mp hv').1
  obtain⟨u,hu,ru⟩:=rv'.get (i:=i) (x:=.bl bs[i]) (by simp[hi]);rw[hv'] at hu;cases hu;cases ru;have:bs.getD i false=bs[i]:=by simp[List.getD,hi]
  have hq:Q (bs.getD i false) s:=hq;rw[this] at hq;exact wpAny_truthy_bool hq
 ·refine⟨.bl (bs.any id),H,I.kept (t':=tk) λb o ho=>hk b o ?_ (e b o ho),?_,q⟩
  ·simp only[aC];exact aZ (ηL ho)
  ·show Value.bool _=_;rw[← C9,lb];simp
end
def Mk(K:Frag)(H:Hp)(v:V)(P:List Int)(B:Int):Prop:=∃ a t,v = .ref a/\SqT K H a [.ref t,.int B]/\SqT K H t (P.map V.int)
theorem Pol.k{K:Frag}{H:Hp}{v:V}{P:List Int}{B:Int}(h:Pol H v P B):Mk K H v P B:=by
 obtain⟨a,t,e,h1,h2⟩:=h;exact⟨a,t,e,SqT.of h1,SqT.of h2⟩
instance coePolK {K:Frag}{H:Hp}{v:V}{P:List Int}{B:Int}:Coe (Pol H v P B) (Mk K H v P B):=⟨Pol.k⟩
end L2
namespace Ca
open Cv
theorem NH(f g:Nat->Int):cv f g 0=f 0*g 0:=by simp[cv,sm]
end Ca
namespace L2
open PySem
section
variable{X:Cx}
theorem wZ:∀(ns:List Int) (n:Nat),n<=ns.length->preSum (λi=>ns.getD i 0) n=(ns.take n).sum
 | ns,0,_=>by simp[preSum]
 | ns,n+1,h=>by
  have e:ns.take (n+1)=ns.take n++[ns.getD n 0]:=by
   rw[List.take_succ,aj,ah (by omega)];rfl
  rw[e,eJ,← wZ ns n (by omega)];simp[preSum]
theorem Na(K:Frag)(hc:X.calm=true:=by rfl)(hK:X.K=K:=by rfl):CallR X (.builtin "sum") (λxs H Q=>∃ p,∃ ns:List Int,xs=[.ref p]/\SqL K H p (ns.map V.int)/\Q (.int ns.sum) H):=by
 subst hK;intro pins s σ H xs us Q I rv h;obtain⟨p,ns,rfl,hp,q⟩:=h;obtain⟨u,rfl,ru⟩:=rv.one;cases ru;obtain⟨its,rv',pl,_⟩:=I.list hp;obtain⟨ys,e1,e2⟩:=vC rv';subst e1;have hl:s.heap.IsList p (intItems ys.toArray):=by
  have:intItems ys.toArray=(ys.map (λp=>Value.int p.1 p.2)).toArray:=by simp[intItems]
  rw[this];exact pl.isList
 refine sum_intListG (I.ok.hd hc) hl λh' tk t' hk=>?_;refine⟨.int _,H,I.kept (t':=tk) hk,⟨t',rfl⟩,?_⟩;have:preSum (numAt ys.toArray) ys.toArray.size=ns.sum:=by
  have e:numAt ys.toArray=λi=>ns.getD i 0:=by
   funext i;rw[numAt_eq,← e2]
  have l:ys.toArray.size=ns.length:=by rw[← e2];simp
  rw[e,l,wZ ns _ (aq _),bE]
 rw[this];exact q
end
end L2
namespace L2
open PySem PySem.Spec PyProof.Rows
theorem CZ{P:Program}{w:World}{K:Frag}{tg:Expr}(n:Nat)(a it:Addr):Turn P w K tg (⟨λi H=>i<n/\∃ xs x,SqL K H a xs/\xs.length=n/\xs.reverse[i]? = some x,λi H x H'=>H'=H/\∀ xs,SqL K H a xs->xs.reverse[i]? = some x,λi H=>i=n⟩:It) [it] it (λi h=>h.IsRevIter it a ((n:Int)-1-(i:Int))) where
 mem:=by simp
 obj:=λi h st b hb=>by
  have e:b=it:=by simpa using hb
  subst e;obtain⟨o,e,c,d⟩:=st;exact⟨o,e,λv z=>by rw[d] at z;cases z⟩
 keep:=λi h h' st k=>by
  obtain⟨o,e,r⟩:=st;exact⟨o,k it (by simp) o e,r⟩
 item:=by
  intro X hP hw hK hc i pins s σ H E I hf st hg;subst hP hw hK;obtain⟨hlt,xs,x,hq,hn,hx⟩:=hg;obtain⟨its,rv,p,hz⟩:=I.list hq;have hlen:=rv.length;rw[cm (by omega)] at hx;obtain⟨u,hu,ru⟩:=rv.get hx;obtain⟨f0,f1,f2,f3,f4,f5⟩:=hf it (by simp);have e0:(n:Int)-1-(i:Int)=((xs.length-1-i:Nat):Int):=by omega
  have st':s.heap.IsRevIter it a ((xs.length-1-i:Nat):Int):=by rw[← e0];exact st
  refine wpAny_pyNext_rev_item (i:=xs.length-1-i) st' p.isList (x:=u) (by simpa using hu) λh' st2 sb=>?_;have I1:Inv X pins σ H { s with heap:=h' }:=I.turned (t':=s.toks) (λb o hb e=>(sb.2 b hb).trans e) f0 f1 f3 f4 f5;obtain⟨o,e,c,d⟩:=id st2;refine⟨u,rfl,AJ (s:={ s with heap:=h' }) e c d (by decide) ⟨x,H,I1,ru,⟨rfl,λys hy=>?_⟩,?_,λb hb=>(hf b hb).1⟩⟩
  ·rw[I.list_inj hy hq,cm (by omega)];exact hx
  ·show h'.IsRevIter it a ((n:Int)-1-((i+1:Nat):Int));rw[show (n:Int)-1-((i+1:Nat):Int)=((xs.length-1-i:Nat):Int)-1 by omega];exact st2
 done:=by
  intro X hP hw hK hc i pins s σ H E I hf st hg;subst hP hw hK;have hg':i=n:=hg;subst hg';obtain⟨f0,f1,f2,f3,f4,f5⟩:=hf it (by simp);have st':s.heap.IsRevIter it a (-1):=by
   have e:(i:Int)-1-(i:Int) = -1:=by omega
   rw[← e];exact st
  exact wpAny_pyNext_rev_end (I.ok.hd hc) st' λh' eb=>⟨rfl,I.turned (t':=s.toks) (λb o hb e=>eb b o hb e) f0 f1 f3 f4 f5⟩
 self:=λ_ _ _ _ _ st h=>wpAny_pyIter_revIter st h
theorem Dl:fillsNumberSlot (.type "tuple") "mul" = pure false:=PySem.fillsNumberSlot_seq (id := "tuple.__mul__") (r:=some (.builtin "tuple.__rmul__")) F.slot_tuple_mul.lookup (by decide +kernel) F.slot_tuple_rmul.lookup (by decide +kernel)
theorem Jb:seqRepeat? (.type "tuple")=pure (some (.builtin "tuple.__mul__")):=by
 unfold seqRepeat?;rw[PySem.seqSlot_of (T := "tuple") (name := "__mul__") (id := "tuple.__mul__") F.slot_tuple_mul.lookup (by decide +kernel),PySem.seqSlot_of (T := "tuple") (name := "__rmul__") (id := "tuple.__rmul__") F.slot_tuple_rmul.lookup (by decide +kernel)];rfl
theorem Gx(a:Int)(t:Tok)(l:Addr)(items:Array Value)(n:Nat)(dd:Option Addr)(sl:Array (Option Value)):Meets (Builtin.«int.__rmul__» ⟨[.int a t,.ref l],[]⟩) (λ_ R s=>s.heap.get? l=some { cls:=.type "tuple",dict:=dd,data:=.seq items n,slots:=sl }/\R (.ok (.ret Value.notImplemented)) s) :=
 .of_wp λprog w A R s h=>by obtain⟨p1,p2,p3,p4,p5⟩:=s;obtain⟨hl,h⟩:=h;wp_walk;exact⟨_,rfl,h⟩
theorem Hj(l:Addr)(items:Array Value)(n:Nat)(u:Tok)(dd:Option Addr)(sl:Array (Option Value)):Meets (Builtin.«tuple.__mul__» ⟨[.ref l,.int 1 u],[]⟩) (λ_ R s=>s.heap.get? l=some { cls:=.type "tuple",dict:=dd,data:=.seq items n,slots:=sl }/\R (.ok (.ret (.ref l))) s) :=
 .of_wp λprog w A R s h=>by
  obtain⟨p1,p2,p3,p4,p5⟩:=s;obtain⟨hl,h⟩:=h;have f2:=AutoSeq1.sub_tuple_tuple
  wp_walk using AutoSeq1.wpAny_loadPart' hl
  exact⟨_,rfl,h⟩
theorem Hh(l:Addr)(items:Array Value)(n:Nat)(x:Int)(u:Tok)(dd:Option Addr)(sl:Array (Option Value))(h0:items.isEmpty=false)(h1:¬ (decide (x < -(2^63)) || decide (x ≥ 2^63))=true)(h2:(x == 1)=false)(h3:¬ x<=0)(h4:¬ (items.size:Int)*x > (2^63-1) / 8)(h5:Builtin.Tuple.tupleTooMany ((items.size:Int)*x)=false)(h6:(List.foldl (λx1 x2=>x1++x2) #[] (List.replicate x.toNat items)).size<=sizeLine) :
  Meets (Builtin.«tuple.__mul__» ⟨[.ref l,.int x u],[]⟩) (λ_ R s=>s.heap.get? l=some { cls:=.type "tuple",dict:=dd,data:=.seq items n,slots:=sl }/\R (.ok (.ret (.ref s.heap.objs.size))) { s with heap:=s.heap.push { cls:=.type "tuple",data:=.seq (List.foldl (λx1 x2=>x1++x2) #[] (List.replicate x.toNat items)) } }) :=
 .of_wp λprog w A R s h=>by
  obtain⟨p1,p2,p3,p4,p5⟩:=s;obtain⟨hl,h⟩:=h;have f2:=AutoSeq1.sub_tuple_tuple
  wp_walk using AutoSeq1.wpAny_loadPart' hl
  rw[if_neg h1]
  wp_walk using AutoSeq1.wpAny_loadPart' hl
  rw[if_neg h4]
  wp_walk
  exact⟨_,rfl,h⟩
def K4(K:Frag):R2:=λx y H Q=>∃ l xs,∃ k:Nat,x = .ref l/\y = .int k/\SqT K H l xs/\xs≠[]/\1<=k/\xs.length*k<=100000/\(k=1->Q (.ref l) H)/\(k≠1->∀ p,H p=none->Q (.ref p) (tJ H p (.tup (List.replicate k xs).flatten)))
theorem GN:OpR X (binaryOp .Mult) (K4 X.K):=by
 intro pins s σ H x y v u Q I rx ry h;obtain⟨l,xs,k,rfl,rfl,hH,hne,hk,hz,q1,q2⟩:=h;cases rx;obtain⟨t,rfl⟩:=ry;obtain⟨its,rv,p,hz2⟩:=I.tuple hH;obtain⟨⟨cls,dd,data,sl⟩,e,hc,n,hd⟩:=p;simp only at hc hd;subst hc hd;have hl:=rv.length;have sz:100000<=sizeLine:=by rw[sizeLine_eq];decide
 have go:∀ z:Int,z=(k:Int)->wpAny (model X.prog X.w) X.A (call (.builtin "tuple.__mul__") [.ref l,.int z t]) (EP X pins σ Q) X.xe s:=by
  rintro z hzk;by_cases h1:k=1
  ·rw[show z=1 by omega];exact call_meets F.slot_tuple_mul ⟨_,e,rfl⟩ F.entry_tuple_mul (F.args_tuple_mul_2 _ _) (Hj l its.toArray n t dd sl) ⟨e,⟨.ref l,H,I,rfl,q1 h1⟩⟩
  ·have f0:∀ m:Nat,List.foldl (λx1 x2=>x1++x2) #[] (List.replicate m its.toArray)=(List.replicate m its).flatten.toArray:=λm=>by
    have:=xh its m [];rw[bH] at this;exact this
   have zk:z.toNat=k:=by omega
   have im:(its.toArray.size:Int)*z=((xs.length*k:Nat):Int):=by rw[hzk,ak,← hl];exact (Int.natCast_mul _ _).symm
   refine call_meets F.slot_tuple_mul ⟨_,e,rfl⟩ F.entry_tuple_mul (F.args_tuple_mul_2 _ _) (Hh l its.toArray n z t dd sl ?_ ?_ ?_ ?_ ?_ ?_ ?_) ⟨e,?_⟩
   ·cases its with
    | nil=>exact absurd (cQ.mp hl) hne
    | cons=>rfl
   ·simp;have:xs.length*k ≥ k:=cX _ (fq.mpr hne);omega
   ·have:z≠1:=by omega
    simpa using this
   ·omega
   ·rw[im];omega
   ·unfold Builtin.Tuple.tupleTooMany;rw[im];exact decide_eq_false (by omega)
   ·rw[f0,zk,ak,zE,← hl,cE];omega
   ·rw[f0,zk];refine⟨.ref _,_,I.laid (o:=.tup (List.replicate k xs).flatten) (t':=s.toks) (λb u e=>ηH _ e) (aq _) ⟨?_,(List.replicate k its).flatten,rv.rep k,⟨_,ηG _ rfl,rfl,_,rfl⟩⟩,rfl,q2 h1 _ I.fresh⟩;rw[zE,cE];omega
 generalize hzk:(k:Int)=z;refine wpAny_binaryOp_repeat_ref (T := "tuple") (U := "int") (by decide) ⟨_,e,rfl⟩ (λs'=>typeIs_int s' z t) Dl F.fills_int_mul F.slot_int_rmul Jb F.slot_int_index.lookup
  (call_meets F.slot_int_rmul (typeIs_int s z t) F.entry_int_rmul (F.args_int_rmul_2 _ _) (Gx z t l its.toArray n dd sl) ⟨e,rfl,⟨_,e,rfl⟩,go z hzk.symm⟩)
def LZ(C:Addr)(d:Option Addr)(u:Addr):Obj:={ cls:=.ref C,dict:=d,data:=.fields #[.ref u,.none,.none,.none,.bool false,.none] }
def MD(a C:Addr)(d:Option Addr)(u:Addr):HO:=.ext λh=>h.get? a=some (LZ C d u)
end L2
set_option maxHeartbeats 1000000
namespace L2
open PySem PySem.Spec PyProof.Rows
theorem KV.at:∀{kvs:List (xM×V)} {vs:List (xM×Value)} {j:Nat} {kv:xM×V},KV kvs vs->kvs[j]? = some kv->∃ u,vs[j]? = some (kv.1,u)/\RelV kv.2 u
 | _,_,0,_,.cons (b:=q) r t,h=>by cases h;exact⟨q.2,by rw[r.1];rfl,r.2⟩
 | _,_,j+1,_,.cons r t,h=>by
  rw[cA] at h;obtain⟨u,e1,e2⟩:=KV.at t h;exact⟨u,by rw[cA];exact e1,e2⟩
section
variable{X:Cx}
def K8:R2:=λx y H Q=>∃ p kvs k v,x = .ref p/\y=kV k/\H p=some (.dK kvs)/\(k,v)∈kvs/\Q v H
theorem Hl:IxR X K8:=by
 intro value slice pins s σ H x y v u Q I rx ry h hs;obtain⟨p,kvs,k,z,rfl,rfl,hq,he,q⟩:=h;cases rx;obtain⟨hz,hn,vs,rel,dd⟩:kvs.length<=sizeLine/\(p == sysModules)=false/\∃ vs,KV kvs vs/\s.heap.DictOf (wy X.prog X.w) p vs:=I.hok p _ hq;obtain⟨j,hj⟩:=dO.mp he;obtain⟨w,ew,rw'⟩:=rel.at hj;have hk:(wy X.prog X.w).is k u=true:=by
  cases k with
  | inl i=>obtain⟨t,rfl⟩:=ry;exact Dw i t
  | inr x=>obtain⟨t,rfl⟩:=ry;exact Dv x t
 have dd':=dd;obtain⟨o,es,ep,g1,g2,g3,g4,g5,nd⟩:=dd';have hat:valueAt vs k=some w:=by
  unfold valueAt;have hm:(k,w)∈vs:=ay ew;clear dd g3 g4 g5 rel ew;induction vs with
  | nil=>cases hm
  | cons a vs ih =>
   rw[cN,cF] at nd;rcases ao.mp hm with e|e
   ·subst e;simp
   ·have:a.1≠k:=λz=>nd.1 (by rw[z];exact bg.mpr ⟨_,e,rfl⟩);rw[List.find?_cons];rw[decide_eq_false this];exact ih nd.2 e
 have fin:EP X pins σ Q w { s with toks:=s.toks+1 }:=⟨z,H,I.tok _,rw',q⟩;exact subscriptTail_builtinR (x:=w) (T := "dict") ⟨o,g1,g2.1⟩ PySem.F.slot_dict_getitem.lookup (wpAny_getItem_of (Q:=λr s'=>r=w/\EP X pins σ Q r s') hk dd.mapOf hat ⟨rfl,fin⟩) hs
end
end L2
namespace Dp
open PySem L2
abbrev St:=L2.St
def Fl(H:Hp)(f:Addr):Prop:=∃(l:Addr) (ns:List Int) (i c a b:Int),H f=some (.lst [.ref l,.int i,.int c,.int a,.int b])/\H l=some (.lst (ns.map V.int))/\ns.length<=63/\0<=i/\i<=(ns.length:Int)/\0<=c/\0<=a/\a<2147483647
theorem Fl.same(F:Fl H f)(e:Same H H'):Fl H' f:=by
 obtain⟨l,ns,i,c,a,b,h1,h2,h⟩:=F;exact⟨l,ns,i,c,a,b,e _ _ h1,e _ _ h2,h⟩
theorem Fl.lst{H:Hp}{f:Addr}(F:Fl H f):∃ xs,H f=some (.lst xs):=by
 obtain⟨l,ns,i,c,a,b,h1,_⟩:=F;exact⟨_,h1⟩
inductive D where
 | non|bl (b:Bool)|int (i:Int)|str (x:Str)|tup (l:List D)|lst (l:List D)|fl
  | exn (C:Addr) (x:Str) (l:List D)
  | dct (ks:List xM) (l:List D)
def XO(H:Hp)(a C:Addr)(x:Str)(us:List V):Prop:=(us=[]/\∃ u,H a=some (MD a C none u))\/∃ dx u y,us=[y]/\H a=some (MD a C (some dx) u)/\H dx=some (.xd [(x,y)])
mutual
def Rp(K:Frag)(f:Addr)(O:List Addr)(H:Hp):D->V->Prop
 | .non,v=>v = .non
 | .bl b,v=>v = .bl b
 | .int i,v=>v = .int i
 | .str x,v=>v = .str x
 | .tup l,v=>∃ a xs,v = .ref a/\SqT K H a xs/\Rps K f O H l xs
 | .lst l,v=>∃ a xs,v = .ref a/\a ∉ O/\H a=some (.lst xs)/\Rps K f O H l xs
 | .fl,v=>v = .ref f
 | .exn C x l,v=>∃ a us,v = .ref a/\XO H a C x us/\Rps K f O H l us
 | .dct ks l,v=>∃ a us,v = .ref a/\H a=some (.dK (ks.zip us))/\ks.length=us.length/\Rps K f O H l us
def Rps(K:Frag)(f:Addr)(O:List Addr)(H:Hp):List D->List V->Prop
 | [],vs=>vs=[]
 | d::ds,vs=>∃ v r,vs=v::r/\Rp K f O H d v/\Rps K f O H ds r
end
structure Ex (f:Addr)(H H':Hp):Prop where
 sm:Sm f H H'
 fl:Fl H' f
theorem Ex.refl(h:Fl H f):Ex f H H:=⟨Sm.refl H,h⟩
theorem Ex.trans{f:Addr}{H H1 H2:Hp}(a:Ex f H H1)(b:Ex f H1 H2):Ex f H H2:=⟨a.sm.trans b.sm,b.fl⟩
theorem Ex.new(F:Fl H f)(h:H p=none)(o:HO):Ex f H (tJ H p o):=⟨Sm.new h o,F.same (Same.new h o)⟩
variable{K:Frag}{f:Addr}{O O':List Addr}{H H':Hp}
def Kp(O:List Addr)(H H':Hp):Prop:=∀ b o,b ∉ O->H b=some o->H' b=some o
theorem Ex.kp(e:Ex f H H')(h:f∈O):Kp O H H':=λb o n q=>e.sm.app b o (λz=>n (z ▸ h)) q
theorem Kp.refl:Kp O H H:=λ_ _ _ h=>h
theorem _root_.L2.SqT.kp(e:Kp O H H')(hO:∀ b∈O,∃ xs,H b=some (.lst xs))(h:SqT K H a xs):SqT K H' a xs:=by
 rcases h with (h|⟨o,h⟩)|h
 ·refine .inl (.inl (e a _ (λz=>?_) h));obtain⟨xs,q⟩:=hO a z;rw[q] at h;cases h
 ·refine .inl (.inr ⟨o,e a _ (λz=>?_) h⟩);obtain⟨xs,q⟩:=hO a z;rw[q] at h;cases h
 ·exact .inr h
theorem XO.kp(e:Kp O H H')(hO:∀ b∈O,∃ xs,H b=some (.lst xs))(h:XO H a C x us):XO H' a C x us:=by
 rcases h with⟨e1,u,h⟩|⟨dx,u,y,e1,h,hd⟩
 ·refine .inl ⟨e1,u,e a _ (λz=>?_) h⟩;obtain⟨xs,q⟩:=hO a z;rw[q] at h;unfold MD at h;cases h
 ·refine .inr ⟨dx,u,y,e1,e a _ (λz=>?_) h,e dx _ (λz=>?_) hd⟩
  ·obtain⟨xs,q⟩:=hO a z;rw[q] at h;unfold MD at h;cases h
  ·obtain⟨xs,q⟩:=hO dx z;rw[q] at hd;cases hd
mutual
theorem Rp.kp(e:Kp O H H')(hO:∀ b∈O,∃ xs,H b=some (.lst xs)):∀{d:D} {v:V},Rp K f O H d v->Rp K f O H' d v
 | .non,_,h=>h
 | .bl _,_,h=>h
 | .int _,_,h=>h
 | .str _,_,h=>h
 | .fl,_,h=>h
 | .tup l,v,h=>by
  obtain⟨a,xs,e1,h1,h2⟩:=h;exact⟨a,xs,e1,h1.kp e hO,Rps.kp e hO h2⟩
 | .lst l,v,h=>by
  obtain⟨a,xs,e1,n,h1,h2⟩:=h;exact⟨a,xs,e1,n,e a _ n h1,Rps.kp e hO h2⟩
 | .exn C x l,v,h=>by
  obtain⟨a,us,e1,h1,h2⟩:=h;exact⟨a,us,e1,h1.kp e hO,Rps.kp e hO h2⟩
 | .dct ks l,v,h=>by
  obtain⟨a,us,e1,h1,h2,h3⟩:=h;exact⟨a,us,e1,e a _ (λz=>by obtain⟨xs,q⟩:=hO a z;rw[q] at h1;cases h1) h1,h2,Rps.kp e hO h3⟩
theorem Rps.kp(e:Kp O H H')(hO:∀ b∈O,∃ xs,H b=some (.lst xs)):∀{ds:List D} {vs:List V},Rps K f O H ds vs->Rps K f O H' ds vs
 | [],_,h=>h
 | d::ds,_,h=>by
  obtain⟨v,r,e1,h1,h2⟩:=h;exact⟨v,r,e1,Rp.kp e hO h1,Rps.kp e hO h2⟩
end
mutual
theorem Rp.less(e:∀ a∈O',a∈O):∀{d:D} {v:V},Rp K f O H d v->Rp K f O' H d v
 | .non,_,h=>h
 | .bl _,_,h=>h
 | .int _,_,h=>h
 | .str _,_,h=>h
 | .fl,_,h=>h
 | .tup l,v,h=>by
  obtain⟨a,xs,e1,h1,h2⟩:=h;exact⟨a,xs,e1,h1,Rps.less e h2⟩
 | .lst l,v,h=>by
  obtain⟨a,xs,e1,n,h1,h2⟩:=h;exact⟨a,xs,e1,λz=>n (e a z),h1,Rps.less e h2⟩
 | .exn C x l,v,h=>by
  obtain⟨a,us,e1,h1,h2⟩:=h;exact⟨a,us,e1,h1,Rps.less e h2⟩
 | .dct ks l,v,h=>by
  obtain⟨a,us,e1,h1,h2,h3⟩:=h;exact⟨a,us,e1,h1,h2,Rps.less e h3⟩
theorem Rps.less(e:∀ a∈O',a∈O):∀{ds:List D} {vs:List V},Rps K f O H ds vs->Rps K f O' H ds vs
 | [],_,h=>h
 | d::ds,_,h=>by
  obtain⟨v,r,e1,h1,h2⟩:=h;exact⟨v,r,e1,Rp.less e h1,Rps.less e h2⟩
end
theorem Rps.len:∀{ds:List D} {vs:List V},Rps K f O H ds vs->vs.length=ds.length
 | [],_,h=>by rw[show _=[] from h];rfl
 | d::ds,_,h=>by
  obtain⟨v,r,e1,h1,h2⟩:=h;rw[e1,aE,aE,Rps.len h2]
theorem Rps.nil:Rps K f O H [] []:=rfl
theorem Rps.cons(h:Rp K f O H d v)(t:Rps K f O H ds vs):Rps K f O H (d::ds) (v::vs):=⟨v,vs,rfl,h,t⟩
theorem Rps.get:∀{ds:List D} {vs:List V} {i:Nat} {d:D},Rps K f O H ds vs->ds[i]? = some d->∃ v,vs[i]? = some v/\Rp K f O H d v
 | [],_,_,_,_,e=>by simp at e
 | d0::ds,_,i,d,h,e=>by
  obtain⟨v,r,e1,h1,h2⟩:=h;subst e1;cases i with
  | zero =>
   simp at e;subst e;exact⟨v,rfl,h1⟩
  | succ i =>
   obtain⟨w,hw,h⟩:=Rps.get h2 (i:=i) (d:=d) (by simpa using e);exact⟨w,by simpa using hw,h⟩
theorem Rps.append:∀{ds es:List D} {vs ws:List V},Rps K f O H ds vs->Rps K f O H es ws->Rps K f O H (ds++es) (vs++ws)
 | [],_,_,_,h,t=>by rw[show _=[] from h];exact t
 | d::ds,_,_,_,h,t=>by
  obtain⟨v,r,e1,h1,h2⟩:=h;subst e1;exact⟨v,_,rfl,h1,Rps.append h2 t⟩
theorem Rps.take:∀{ds:List D} {vs:List V} (n:Nat),Rps K f O H ds vs->Rps K f O H (ds.take n) (vs.take n)
 | _,_,0,_=>by rw[dQ,dQ];rfl
 | [],_,n+1,h=>by rw[show _=[] from h];rfl
 | d::ds,_,n+1,h=>by
  obtain⟨v,r,e1,h1,h2⟩:=h;subst e1;exact⟨v,_,rfl,h1,Rps.take n h2⟩
theorem Rps.drop:∀{ds:List D} {vs:List V} (n:Nat),Rps K f O H ds vs->Rps K f O H (ds.drop n) (vs.drop n)
 | _,_,0,h=>h
 | [],_,n+1,h=>by rw[show _=[] from h];rfl
 | d::ds,_,n+1,h=>by
  obtain⟨v,r,e1,h1,h2⟩:=h;subst e1;exact Rps.drop n h2
theorem Rps.set(q:Rp K f O H d v):∀{ds:List D} {vs:List V} (n:Nat),Rps K f O H ds vs->Rps K f O H (ds.set n d) (vs.set n v)
 | [],_,n,h=>by rw[show _=[] from h];rfl
 | d0::ds,_,0,h=>by
  obtain⟨w,r,e1,h1,h2⟩:=h;subst e1;exact⟨v,_,rfl,q,h2⟩
 | d0::ds,_,n+1,h=>by
  obtain⟨w,r,e1,h1,h2⟩:=h;subst e1;exact⟨w,_,rfl,h1,Rps.set q n h2⟩
theorem Rps.reverse:∀{ds:List D} {vs:List V},Rps K f O H ds vs->Rps K f O H ds.reverse vs.reverse
 | [],_,h=>by rw[show _=[] from h];rfl
 | d::ds,_,h=>by
  obtain⟨v,r,e1,h1,h2⟩:=h;subst e1;rw[cJ,cJ];exact Rps.append (Rps.reverse h2) ⟨v,[],rfl,h1,rfl⟩
theorem Rps.flat(h:Rps K f O H ds vs):∀ n,Rps K f O H (List.replicate n ds).flatten (List.replicate n vs).flatten
 | 0=>rfl
 | n+1=>by
  rw[bF,bF,ca,ca];exact Rps.append h (Rps.flat h n)
theorem Rps.bls:∀{bs:List Bool} {vs:List V},Rps K f O H (bs.map D.bl) vs->vs=bs.map V.bl
 | [],_,h=>h
 | b::bs,_,h=>by
  obtain⟨v,r,e1,h1,h2⟩:=h;rw[e1,show v=_ from h1,Rps.bls h2];rfl
theorem Rps.ints:∀{bs:List Int} {vs:List V},Rps K f O H (bs.map D.int) vs->vs=bs.map V.int
 | [],_,h=>h
 | b::bs,_,h=>by
  obtain⟨v,r,e1,h1,h2⟩:=h;rw[e1,show v=_ from h1,Rps.ints h2];rfl
inductive SD where
 | no|val (d:D)|own (l:List D)
abbrev SS:=List SD
structure SlD (K:Frag)(f:Addr)(O:List Addr)(σ:St)(H:Hp)(ss:SS):Prop where
 fl:Fl H f
 fO:f∈O
 al:∀ a∈O,∃ xs,H a=some (.lst xs)
 lO:∀ l r,H f=some (.lst (.ref l::r))->l ∉ O
 len:ss.length=σ.length
 val:∀(i:Nat) (d:D),ss[i]? = some (SD.val d)->∃ v,σ[i]? = some (some v)/\Rp K f O H d v
 own:∀(i:Nat) (l:List D),ss[i]? = some (SD.own l)->∃ a xs,σ[i]? = some (some (V.ref a))/\a∈O/\a≠f/\H a=some (.lst xs)/\Rps K f O H l xs
variable{σ:St}{ss:SS}
theorem SlD.ex(R:SlD K f O σ H ss)(e:Ex f H H'):SlD K f O σ H' ss where
 fl:=e.fl
 fO:=R.fO
 al:=λa h=>by
  by_cases z:a=f
  ·subst z;exact e.fl.lst
  ·obtain⟨xs,q⟩:=R.al a h;exact⟨xs,e.sm.app a _ z q⟩
 lO:=λl r h=>by
  obtain⟨l0,ns,i,c,a,b,h1,_⟩:=R.fl;obtain⟨r',h2⟩:=e.sm.key _ _ h1;rw[h2] at h;cases h;exact R.lO _ _ h1
 len:=R.len
 val:=λi d h=>by
  obtain⟨v,h1,h2⟩:=R.val i d h;exact⟨v,h1,h2.kp (e.kp R.fO) R.al⟩
 own:=λi l h=>by
  obtain⟨a,xs,h1,h2,h3,h4,h5⟩:=R.own i l h;exact⟨a,xs,h1,h2,h3,e.sm.app a _ h3 h4,h5.kp (e.kp R.fO) R.al⟩
theorem SlD.up(R:SlD K f O σ H ss)(e:Ex f H H')(h:Rp K f O H d v):Rp K f O H' d v:=h.kp (e.kp R.fO) R.al
theorem SlD.ups(R:SlD K f O σ H ss)(e:Ex f H H')(h:Rps K f O H d v):Rps K f O H' d v:=h.kp (e.kp R.fO) R.al
theorem SlD.new(R:SlD K f O σ H ss)(h:H p=none)(o:HO):Ex f H (tJ H p o):=Ex.new R.fl h o
theorem SlD.nO(R:SlD K f O σ H ss)(h:H p=none):p ∉ O:=λz=>by
 obtain⟨xs,q⟩:=R.al p z;rw[h] at q;cases q
theorem SlD.lst(R:SlD K f O σ H ss){p:Addr}(h:H p=none){ds:List D}{xs:List V}(q:Rps K f O H ds xs):Rp K f O (tJ H p (.lst xs)) (.lst ds) (.ref p) :=
 ⟨p,xs,rfl,R.nO h,sX,R.ups (R.new h _) q⟩
theorem SlD.tup(R:SlD K f O σ H ss){p:Addr}(h:H p=none){ds:List D}{xs:List V}(q:Rps K f O H ds xs):Rp K f O (tJ H p (.tup xs)) (.tup ds) (.ref p) :=
 ⟨p,xs,rfl,SqT.of sX,R.ups (R.new h _) q⟩
structure TEd where
 run:SS->(D->Prop)->Prop
 mono:∀{ss Q Q'},(∀ d,Q d->Q' d)->run ss Q->run ss Q'
structure TTd where
 run:SS->(Bool->Prop)->Prop
 mono:∀{ss Q Q'},(∀ d,Q d->Q' d)->run ss Q->run ss Q'
structure TAd where
 run:SS->(List D->Prop)->Prop
 mono:∀{ss Q Q'},(∀ d,Q d->Q' d)->run ss Q->run ss Q'
structure TOd where
 run:SS->(Option Int->Prop)->Prop
 mono:∀{ss Q Q'},(∀ d,Q d->Q' d)->run ss Q->run ss Q'
structure TGd where
 tg:List Nat
 run:D->SS->(SS->Prop)->Prop
 mono:∀{d ss Q Q'},(∀ d,Q d->Q' d)->run d ss Q->run d ss Q'
def LE(K:Frag)(t:TEd):TE:=λσ H Q=>∃ f O ss,SlD K f O σ H ss/\t.run ss λd=>∀ v H',Ex f H H'->Rp K f O H' d v->Q v H'
def LT(K:Frag)(t:TTd):TT:=λσ H Q=>∃ f O ss,SlD K f O σ H ss/\t.run ss λd=>∀ H',Ex f H H'->Q d H'
def LA(K:Frag)(t:TAd):TA:=λσ H Q=>∃ f O ss,SlD K f O σ H ss/\t.run ss λds=>∀ vs H',Ex f H H'->Rps K f O H' ds vs->Q vs H'
def LO(K:Frag)(t:TOd):TO:=λσ H Q=>∃ f O ss,SlD K f O σ H ss/\t.run ss λd=>∀ H',Ex f H H'->Q d H'
abbrev NT:=List D->(D->Prop)->Prop
def AW(K:Frag)(n:Nat)(sp:NT):Sp:=λvs H Q _=>vs.length=n/\∃ f O ds,Fl H f/\f∈O/\(∀ a∈O,∃ xs,H a=some (.lst xs))/\(∀ l r,H f=some (.lst (.ref l::r))->l ∉ O)/\Rps K f O H ds vs/\sp ds λd=>∀ v H',Ex f H H'->Rp K f O H' d v->Q v H'
variable{X:Cx}
theorem _root_.L2.PE.weak(h:PE X e t)(w:∀ σ H Q,t' σ H Q->t σ H Q):PE X e t':=λpins s σ H Q I q=>h pins s σ H Q I (w σ H Q q)
theorem _root_.L2.PT.weak(h:PT X e t)(w:∀ σ H Q,t' σ H Q->t σ H Q):PT X e t':=λpins s σ H Q I q=>h pins s σ H Q I (w σ H Q q)
theorem _root_.L2.PA.weak(h:PA X e t)(w:∀ σ H Q,t' σ H Q->t σ H Q):PA X e t':=λpos pins s σ H Q I q=>h pos pins s σ H Q I (w σ H Q q)
theorem _root_.L2.PO.weak(h:PO X e t)(w:∀ σ H Q,t' σ H Q->t σ H Q):PO X e t':=λpins s σ H Q I q=>h pins s σ H Q I (w σ H Q q)
def ga(i:Nat):TEd:=⟨λss Q=>match ss[i]? with|some (SD.val d)=>Q d|_=>False,λ{ss Q Q'} h q=>by
 revert q;split
 ·exact h _
 ·exact id⟩
theorem ga.ok(h:PE X e (vc i)):PE X e (LE X.K (ga i)):=h.weak λσ H Q ⟨f,O,ss,R,q⟩=>by
 have q:(match ss[i]? with|some (SD.val d)=>(∀ v H',Ex f H H'->Rp X.K f O H' d v->Q v H')|_=>False):=q;revert q;split
 ·rename_i d e;intro q;obtain⟨v,h1,h2⟩:=R.val i d e;exact⟨v,h1,q v H (Ex.refl R.fl) h2⟩
 ·exact False.elim
def dC(d:D):TEd:=⟨λ_ Q=>Q d,λh q=>h _ q⟩
theorem dC.ok(h:PE X e (tC v))(r:∀ f O H,Rp X.K f O H d v):PE X e (LE X.K (dC d)):=h.weak λσ H Q ⟨f,O,ss,R,q⟩=>q v H (Ex.refl R.fl) (r f O H)
abbrev OD:=D->D->(D->Prop)->Prop
def d2(o:OD)(m:∀{x y Q Q'},(∀ d,Q d->Q' d)->o x y Q->o x y Q')(a b:TEd):TEd:=⟨λss Q=>a.run ss λx=>b.run ss λy=>o x y Q,λh q=>a.mono (λx q=>b.mono (λy q=>m h q) q) q⟩
def RD(K:Frag)(r:R2)(o:OD):Prop:=∀(f:Addr) (O:List Addr) (σ:St) (ss:SS) (H:Hp) (dx dy:D) (x y:V) (Q:VK),SlD K f O σ H ss->Rp K f O H dx x->Rp K f O H dy y->o dx dy (λd=>∀ v H',Ex f H H'->Rp K f O H' d v->Q v H')->r x y H Q
theorem d2.ok(hr:RD X.K r o)(h:PE X e (KP r (LE X.K a) (LE X.K b))):PE X e (LE X.K (d2 o m a b)):=h.weak λσ H Q ⟨f,O,ss,R,q⟩=>by
 refine⟨f,O,ss,R,a.mono (λdx q v1 H1 e1 r1=>?_) q⟩;refine⟨f,O,ss,R.ex e1,b.mono (λdy q v2 H2 e2 r2=>?_) q⟩;exact hr f O σ ss H2 dx dy v1 v2 Q ((R.ex e1).ex e2) ((R.ex e1).up e2 r1) r2 (m (λd q v H' e3 r3=>q v H' (e1.trans (e2.trans e3)) r3) q)
end Dp
namespace L2
open PySem PySem.Spec PyProof.Rows
variable{X:Cx}{pins:List (Addr×Obj)}{σ:St}{H:Hp}{s:Shared}
def Jn(K:Frag)(neg:Bool):R2:=λx y H Q=>∃ d ds,Rep K H d x/\Rep K H (.lst ds) y/\d.pl=true/\DV.pls ds=true/\DV.dps ds<=60/\∀ b,(b=true↔d∈ds)->Q (.bl (if neg then !b else b)) H
theorem At{K:Frag}:∀{ds:List DV} {vs:List V} {us:List Value},Reps K H ds vs->Vals vs us->DV.pls ds=true->DV.dps ds<=60->(∀ w∈us,∃ di∈ds,∃ xi,Rep K H di xi/\RelV xi w/\di.pl=true/\di.dp<=60)/\∀ di∈ds,∃ w∈us,∃ xi,Rep K H di xi/\RelV xi w
 | [],vs,us,h,r,_,_=>by
  unfold Reps at h;subst h;cases r;exact⟨λw h=>absurd h aO,λw h=>absurd h aO⟩
 | d::ds,vs,us,h,r,p,hd=>by
  unfold Reps at h;obtain⟨x,r',rfl,h1,h2⟩:=h;cases r with
  | cons rx rxs =>
   unfold DV.pls at p;rw[bh] at p;unfold DV.dps at hd;obtain⟨i1,i2⟩:=At h2 rxs p.2 (by omega);refine⟨λw hw=>?_,λdi hi=>?_⟩
   ·rcases ao.mp hw with e|e
    ·rw[e];exact⟨d,av,x,h1,rx,p.1,by omega⟩
    ·obtain⟨di,m,z⟩:=i1 w e;exact⟨di,aw _ m,z⟩
   ·rcases ao.mp hi with e|e
    ·rw[e];exact⟨_,av,x,h1,rx⟩
    ·obtain⟨w,m,z⟩:=i2 di e;exact⟨w,aw _ m,z⟩
open Classical in
theorem AG{K:Frag}{k:Nat}(hr:Room k X.A)(hK:X.K=K)(I:Inv X pins σ H s){d:DV}{ds:List DV}{x:V}{v:Value}{vs:List V}{us:List Value}(h1:Rep K H d x)(rx:RelV x v)(r1:Reps K H ds vs)(rv:Vals vs us)(p1:d.pl=true)(p2:DV.pls ds=true)(hd:DV.dps ds<=60) :
  ∃ e:Value->Bool,(∀ w∈us,SeqAt.EqAt X.A.in1 s w v (e w))/\(us.any e=true↔d∈ds):=by
 subst hK;obtain⟨i1,i2⟩:=At r1 rv p2 hd;have hun:=hr.units;have key:∀ w∈us,∀ di∈ds,∀ xi,Rep X.K H di xi->RelV xi w->(decide (∃ xi,RelV xi w/\Rep X.K H d xi)=true↔di=d):=λw hw di hi xi hx rw'=>by
  rw[decide_eq_true_iff];constructor
  ·rintro⟨x',r',h'⟩;rw[RelV.inj r' rw'] at h';exact Rep.inj I hx h'
  ·rintro rfl;exact⟨xi,rw',hx⟩
 refine⟨λw=>decide (∃ xi,RelV xi w/\Rep X.K H d xi),λw hw=>?_,?_⟩
 ·obtain⟨di,hi,xi,hx,rw',pi,dpi⟩:=i1 w hw;obtain⟨b,hb,ib⟩:=N7 I di d X.A.in1 hx h1 rw' rx pi p1 (by show X.A.units+1+_+1<_;omega);have:decide (∃ xi,RelV xi w/\Rep X.K H d xi)=b:=bT.mpr ((key w hw di hi xi hx rw').trans ib.symm);dsimp only;rw[this];exact hb
 ·rw[dG];constructor
  ·rintro⟨w,hw,he⟩;obtain⟨di,hi,xi,hx,rw',_,_⟩:=i1 w hw;exact (key w hw di hi xi hx rw').mp he ▸ hi
  ·intro hm;obtain⟨w,hw,xi,hx,rw'⟩:=i2 d hm;exact⟨w,hw,(key w hw d hm xi hx rw').mpr rfl⟩
theorem JF(K:Frag)(hr:Room k X.A)(hK:X.K=K:=by rfl):OpR X (compareOp .In) (Jn K false):=by
 intro pins s σ H x y u v Q I rx ry h;obtain⟨d,ds,h1,h2,p1,p2,hd,q⟩:=h;unfold Rep at h2;obtain⟨a,vs,rfl,t1,r1⟩:=h2;cases ry;subst hK;obtain⟨its,rv,p,_⟩:=I.list t1;obtain⟨e,he,hi⟩:=AG hr rfl I h1 rx r1 rv p1 p2 hd;refine SeqAt.in_listAt e p.isList (λw hw=>he w (by simpa using hw)) ⟨.bl _,H,I,rfl,?_⟩;rw[show its.toArray.any e=its.any e by simp];exact q _ hi
theorem Dh(K:Frag)(hr:Room k X.A)(hK:X.K=K:=by rfl):OpR X (compareOp .NotIn) (Jn K true):=by
 intro pins s σ H x y u v Q I rx ry h;obtain⟨d,ds,h1,h2,p1,p2,hd,q⟩:=h;unfold Rep at h2;obtain⟨a,vs,rfl,t1,r1⟩:=h2;cases ry;subst hK;obtain⟨its,rv,p,_⟩:=I.list t1;obtain⟨e,he,hi⟩:=AG hr rfl I h1 rx r1 rv p1 p2 hd;refine SeqAt.notIn_listAt e p.isList (λw hw=>he w (by simpa using hw)) ⟨.bl _,H,I,rfl,?_⟩;rw[show its.toArray.any e=its.any e by simp];exact q _ hi
end L2
namespace Dp
open PySem L2
variable{K:Frag}{f:Addr}{O O':List Addr}{H H':Hp}{X:Cx}{σ:St}{ss:SS}
mutual
def D.pl:D->Bool
 | .int _=>true | .str _=>true | .non=>true | .bl _=>false | .fl=>false | .exn _ _ _=>false | .dct _ _=>false
 | .tup ds=>D.pls ds
 | .lst ds=>D.pls ds
def D.pls:List D->Bool
 | []=>true
 | d::ds=>D.pl d && D.pls ds
end
mutual
def D.dp:D->Nat
 | .tup ds=>D.dps ds+1
 | .lst ds=>D.dps ds+1
 | .int _=>0 | .str _=>0 | .non=>0 | .bl _=>0 | .fl=>0 | .exn _ _ _=>0 | .dct _ _=>0
def D.dps:List D->Nat
 | []=>0
 | d::ds=>max (D.dp d) (D.dps ds)
end
mutual
def D.dv:D->DV
 | .int i=>.int i | .str x=>.str x | .non=>.non | .bl b=>.bl b | .fl=>.non | .exn _ _ _=>.non | .dct _ _=>.non
 | .tup ds=>.tup (D.dvs ds)
 | .lst ds=>.lst (D.dvs ds)
def D.dvs:List D->List DV
 | []=>[]
 | d::ds=>D.dv d::D.dvs ds
end
mutual
theorem D.dv_pl:∀{d:D},d.pl=true->d.dv.pl=true
 | .int _,_=>rfl
 | .str _,_=>rfl
 | .non,_=>rfl
 | .bl _,h=>h
 | .fl,h=>by cases h
 | .exn ..,h=>by cases h
 | .dct _ _,h=>by cases h
 | .tup ds,h=>D.dvs_pl (ds:=ds) h
 | .lst ds,h=>D.dvs_pl (ds:=ds) h
theorem D.dvs_pl:∀{ds:List D},D.pls ds=true->DV.pls (D.dvs ds)=true
 | [],_=>rfl
 | d::ds,h=>by
  have h:=ar.mp (show (d.pl && D.pls ds)=true from h);exact ar.mpr ⟨D.dv_pl h.1,D.dvs_pl h.2⟩
end
mutual
theorem D.dv_dp:∀{d:D},d.dv.dp=d.dp
 | .int _=>rfl
 | .str _=>rfl
 | .non=>rfl
 | .bl _=>rfl
 | .fl=>rfl
 | .exn _ _ _=>rfl
 | .dct _ _=>rfl
 | .tup ds=>congrArg (· + 1) (D.dvs_dp (ds:=ds))
 | .lst ds=>congrArg (· + 1) (D.dvs_dp (ds:=ds))
theorem D.dvs_dp:∀{ds:List D},DV.dps (D.dvs ds)=D.dps ds
 | []=>rfl
 | d::ds=>by
  show max (DV.dp d.dv) (DV.dps (D.dvs ds))=max d.dp (D.dps ds);rw[D.dv_dp,D.dvs_dp]
end
mutual
theorem D.dv_inj:∀{d e:D},d.pl=true->e.pl=true->d.dv=e.dv->d=e
 | .int _,e,_,h,q=>by cases e <;> first|(cases q;rfl)|(cases q;done)|cases h
 | .str _,e,_,h,q=>by cases e <;> first|(cases q;rfl)|(cases q;done)|cases h
 | .non,e,_,h,q=>by cases e <;> first|rfl|(cases q;done)|cases h
 | .bl _,_,h,_,_=>by cases h
 | .fl,_,h,_,_=>by cases h
 | .exn ..,_,h,_,_=>by cases h
 | .dct _ _,_,h,_,_=>by cases h
 | .tup ds,e,h1,h2,q=>by
  cases e with
  | tup es =>
   have q:DV.tup (D.dvs ds)=DV.tup (D.dvs es):=q;injection q with q;rw[D.dvs_inj h1 h2 q]
  | int=>cases q
  | str=>cases q
  | non=>cases q
  | bl=>cases h2
  | fl=>cases h2
  | exn=>cases h2
  | dct=>cases h2
  | lst=>cases q
 | .lst ds,e,h1,h2,q=>by
  cases e with
  | lst es =>
   have q:DV.lst (D.dvs ds)=DV.lst (D.dvs es):=q;injection q with q;rw[D.dvs_inj h1 h2 q]
  | int=>cases q
  | str=>cases q
  | non=>cases q
  | bl=>cases h2
  | fl=>cases h2
  | exn=>cases h2
  | dct=>cases h2
  | tup=>cases q
theorem D.dvs_inj:∀{ds es:List D},D.pls ds=true->D.pls es=true->D.dvs ds=D.dvs es->ds=es
 | [],[],_,_,_=>rfl
 | [],_::_,_,_,q=>by cases q
 | _::_,[],_,_,q=>by cases q
 | d::ds,e::es,h1,h2,q=>by
  have h1:=ar.mp (show (d.pl && D.pls ds)=true from h1);have h2:=ar.mp (show (e.pl && D.pls es)=true from h2);have q:d.dv::D.dvs ds=e.dv::D.dvs es:=q;injection q with q1 q2;rw[D.dv_inj h1.1 h2.1 q1,D.dvs_inj h1.2 h2.2 q2]
end
mutual
theorem Rp.rep:∀{d:D} {v:V},d.pl=true->Rp K f O H d v->Rep K H d.dv v
 | .int _,_,_,h=>h
 | .str _,_,_,h=>h
 | .non,_,_,h=>h
 | .bl _,_,h,_=>by cases h
 | .fl,_,h,_=>by cases h
 | .exn ..,_,h,_=>by cases h
 | .dct _ _,_,h,_=>by cases h
 | .tup ds,_,p,h=>by
  obtain⟨a,xs,e,h1,h2⟩:=h;exact⟨a,xs,e,h1,Rps.rep p h2⟩
 | .lst ds,_,p,h=>by
  obtain⟨a,xs,e,_,h1,h2⟩:=h;exact⟨a,xs,e,SqL.of h1,Rps.rep p h2⟩
theorem Rps.rep:∀{ds:List D} {vs:List V},D.pls ds=true->Rps K f O H ds vs->Reps K H (D.dvs ds) vs
 | [],_,_,h=>h
 | d::ds,_,p,h=>by
  have p:=ar.mp (show (d.pl && D.pls ds)=true from p);obtain⟨v,r,e,h1,h2⟩:=h;exact⟨v,r,e,Rp.rep p.1 h1,Rps.rep p.2 h2⟩
end
theorem D.pls_ints(ns:List Int):D.pls (ns.map D.int)=true:=by
 induction ns with
 | nil=>rfl
 | cons n ns ih=>exact ih
theorem OpR.or2(h:OpR X g r)(h':OpR X g r'):OpR X g (λx y H Q=>r x y H Q\/r' x y H Q):=λpins s σ H x y v u Q I rx ry q=>q.elim (h pins s σ H x y v u Q I rx ry) (h' pins s σ H x y v u Q I rx ry)
def oAdd:OD
 | .int i,.int j,Q=>Q (.int (i+j))
 | .str a,.str b,Q=>a.length+b.length<=sizeLine/\Q (.str (a++b))
 | .lst a,.lst b,Q=>a.length+b.length<=sizeLine/\Q (.lst (a++b))
 | .tup a,.tup b,Q=>a.length+b.length<=sizeLine/\Q (.tup (a++b))
 | _,_,_=>False
def oSub:OD
 | .int i,.int j,Q=>Q (.int (i-j))
 | _,_,_=>False
def oMul:OD
 | .int i,.int j,Q=>CMulB i j/\Q (.int (i*j))
 | .lst a,.int k,Q => -(2^63)<=k/\k<2^63/\a.length*k.toNat<=sizeLine/\Q (.lst (List.replicate k.toNat a).flatten)
 | .tup a,.int k,Q=>a≠[]/\1<=k/\a.length*k.toNat<=100000/\Q (.tup (List.replicate k.toNat a).flatten)
 | _,_,_=>False
def oDiv:OD
 | .int i,.int j,Q=>t5 i j/\Q (.int (i.fdiv j))
 | _,_,_=>False
def oMod:OD
 | .int i,.int j,Q=>j≠0/\Q (.int (i.fmod j))
 | _,_,_=>False
def oPow:OD
 | .int i,.int j,Q=>Gf i j/\Q (.int (i^j.toNat))
 | _,_,_=>False
def oShl:OD
 | .int i,.int j,Q=>Gf i j/\Q (.int (i*2^j.toNat))
 | _,_,_=>False
def Bn:OD:=λ_ _ _=>False
def oBin:Operator->OD
 | .Add=>oAdd | .Sub=>oSub | .Mult=>oMul | .FloorDiv=>oDiv | .Mod=>oMod | .Pow=>oPow | .LShift=>oShl|_=>Bn
def oLt:OD
 | .int i,.int j,Q=>Q (.bl (decide (i<j)))
 | _,_,_=>False
def oLe:OD
 | .int i,.int j,Q=>Q (.bl (decide (i<=j)))
 | _,_,_=>False
def oGt:OD
 | .int i,.int j,Q=>Q (.bl (decide (j<i)))
 | _,_,_=>False
def oGe:OD
 | .int i,.int j,Q=>Q (.bl (decide (j<=i)))
 | _,_,_=>False
def oEq(neg:Bool):OD
 | .int i,.int j,Q=>Q (.bl (if neg then !decide (i=j) else decide (i=j)))
 | .bl i,.bl j,Q=>Q (.bl (if neg then !decide (i=j) else decide (i=j)))
 | .str i,.str j,Q=>Q (.bl (if neg then !decide (i=j) else decide (i=j)))
 | .tup a,.tup b,Q=>D.pls a=true/\D.pls b=true/\D.dps a<=60/\∀ k,(k=true↔a=b)->Q (.bl (if neg then !k else k))
 | .lst a,.lst b,Q=>neg=neg/\D.pls a=true/\D.pls b=true/\D.dps a<=60/\∀ k,(k=true↔a=b)->Q (.bl (if neg then !k else k))
 | _,_,_=>False
def oIs(neg:Bool):OD:=λx y Q=>match y with
 | .non=>Q (.bl (match x with | .non => !neg|_=>neg))
 | .bl j=>(match x with | .bl i=>Q (.bl (if neg then !decide (i=j) else decide (i=j)))|_=>False)
 | _=>False
def oIn(neg:Bool):OD:=λx y Q=>(∃(i:Int) (ns:List Int),x = .int i/\(y = .lst (ns.map .int)\/y = .tup (ns.map .int))/\Q (.bl (if neg then !decide (i∈ns) else decide (i∈ns))))\/(∃(i:Str) (ns:List Str),x = .str i/\(y = .lst (ns.map .str)\/y = .tup (ns.map .str))/\Q (.bl (if neg then !decide (i∈ns) else decide (i∈ns))))\/(∃ l,y = .lst l/\x.pl=true/\D.pls l=true/\D.dps l<=60/\∀ k:Bool,(k=true↔x∈l)->Q (.bl (if neg then !k else k)))
theorem oIn.mono:∀{x y Q Q'},(∀ d,Q d->Q' d)->oIn neg x y Q->oIn neg x y Q':=λh q=>q.imp (fun⟨i,ns,e1,e2,q⟩=>⟨i,ns,e1,e2,h _ q⟩) (Or.imp (fun⟨i,ns,e1,e2,q⟩=>⟨i,ns,e1,e2,h _ q⟩) fun⟨l,e,a,b,c,q⟩=>⟨l,e,a,b,c,λk hk=>h _ (q k hk)⟩)
def oCmp:CmpOp->OD
 | .Eq=>oEq false | .NotEq=>oEq true | .Lt=>oLt | .LtE=>oLe | .Gt=>oGt | .GtE=>oGe | .Is=>oIs false | .IsNot=>oIs true | .In=>oIn false | .NotIn=>oIn true
theorem oAdd.mono:∀{x y Q Q'},(∀ d,Q d->Q' d)->oAdd x y Q->oAdd x y Q':=by intro x y Q Q' h;cases x <;> cases y <;> intro q <;> first|exact h _ q|exact q|exact⟨q.1,h _ q.2⟩|exact⟨q.1,q.2.1,q.2.2.1,h _ q.2.2.2⟩|exact⟨q.1,q.2.1,q.2.2.1,λk e=>h _ (q.2.2.2 k e)⟩|exact⟨q.1,q.2.1,q.2.2.1,q.2.2.2.1,λk e=>h _ (q.2.2.2.2 k e)⟩
theorem oSub.mono:∀{x y Q Q'},(∀ d,Q d->Q' d)->oSub x y Q->oSub x y Q':=by intro x y Q Q' h;cases x <;> cases y <;> intro q <;> first|exact h _ q|exact q|exact⟨q.1,h _ q.2⟩|exact⟨q.1,q.2.1,q.2.2.1,h _ q.2.2.2⟩|exact⟨q.1,q.2.1,q.2.2.1,λk e=>h _ (q.2.2.2 k e)⟩|exact⟨q.1,q.2.1,q.2.2.1,q.2.2.2.1,λk e=>h _ (q.2.2.2.2 k e)⟩
theorem oMul.mono:∀{x y Q Q'},(∀ d,Q d->Q' d)->oMul x y Q->oMul x y Q':=by intro x y Q Q' h;cases x <;> cases y <;> intro q <;> first|exact h _ q|exact q|exact⟨q.1,h _ q.2⟩|exact⟨q.1,q.2.1,q.2.2.1,h _ q.2.2.2⟩|exact⟨q.1,q.2.1,q.2.2.1,λk e=>h _ (q.2.2.2 k e)⟩|exact⟨q.1,q.2.1,q.2.2.1,q.2.2.2.1,λk e=>h _ (q.2.2.2.2 k e)⟩
theorem oDiv.mono:∀{x y Q Q'},(∀ d,Q d->Q' d)->oDiv x y Q->oDiv x y Q':=by intro x y Q Q' h;cases x <;> cases y <;> intro q <;> first|exact h _ q|exact q|exact⟨q.1,h _ q.2⟩|exact⟨q.1,q.2.1,q.2.2.1,h _ q.2.2.2⟩|exact⟨q.1,q.2.1,q.2.2.1,λk e=>h _ (q.2.2.2 k e)⟩|exact⟨q.1,q.2.1,q.2.2.1,q.2.2.2.1,λk e=>h _ (q.2.2.2.2 k e)⟩
theorem oMod.mono:∀{x y Q Q'},(∀ d,Q d->Q' d)->oMod x y Q->oMod x y Q':=by intro x y Q Q' h;cases x <;> cases y <;> intro q <;> first|exact h _ q|exact q|exact⟨q.1,h _ q.2⟩|exact⟨q.1,q.2.1,q.2.2.1,h _ q.2.2.2⟩|exact⟨q.1,q.2.1,q.2.2.1,λk e=>h _ (q.2.2.2 k e)⟩|exact⟨q.1,q.2.1,q.2.2.1,q.2.2.2.1,λk e=>h _ (q.2.2.2.2 k e)⟩
theorem oPow.mono:∀{x y Q Q'},(∀ d,Q d->Q' d)->oPow x y Q->oPow x y Q':=by intro x y Q Q' h;cases x <;> cases y <;> intro q <;> first|exact h _ q|exact q|exact⟨q.1,h _ q.2⟩|exact⟨q.1,q.2.1,q.2.2.1,h _ q.2.2.2⟩|exact⟨q.1,q.2.1,q.2.2.1,λk e=>h _ (q.2.2.2 k e)⟩|exact⟨q.1,q.2.1,q.2.2.1,q.2.2.2.1,λk e=>h _ (q.2.2.2.2 k e)⟩
theorem oShl.mono:∀{x y Q Q'},(∀ d,Q d->Q' d)->oShl x y Q->oShl x y Q':=by intro x y Q Q' h;cases x <;> cases y <;> intro q <;> first|exact q|exact⟨q.1,h _ q.2⟩
theorem oBin.mono:∀{x y Q Q'},(∀ d,Q d->Q' d)->oBin op x y Q->oBin op x y Q':=by
 cases op;all_goals first|exact oAdd.mono|exact oSub.mono|exact oMul.mono|exact oDiv.mono|exact oMod.mono|exact oPow.mono|exact oShl.mono|exact λ_ q=>q
theorem oLt.mono:∀{x y Q Q'},(∀ d,Q d->Q' d)->oLt x y Q->oLt x y Q':=by intro x y Q Q' h;cases x <;> cases y <;> intro q <;> first|exact h _ q|exact q|exact⟨q.1,h _ q.2⟩|exact⟨q.1,q.2.1,q.2.2.1,h _ q.2.2.2⟩|exact⟨q.1,q.2.1,q.2.2.1,λk e=>h _ (q.2.2.2 k e)⟩|exact⟨q.1,q.2.1,q.2.2.1,q.2.2.2.1,λk e=>h _ (q.2.2.2.2 k e)⟩
theorem oLe.mono:∀{x y Q Q'},(∀ d,Q d->Q' d)->oLe x y Q->oLe x y Q':=by intro x y Q Q' h;cases x <;> cases y <;> intro q <;> first|exact h _ q|exact q|exact⟨q.1,h _ q.2⟩|exact⟨q.1,q.2.1,q.2.2.1,h _ q.2.2.2⟩|exact⟨q.1,q.2.1,q.2.2.1,λk e=>h _ (q.2.2.2 k e)⟩|exact⟨q.1,q.2.1,q.2.2.1,q.2.2.2.1,λk e=>h _ (q.2.2.2.2 k e)⟩
theorem oGt.mono:∀{x y Q Q'},(∀ d,Q d->Q' d)->oGt x y Q->oGt x y Q':=by intro x y Q Q' h;cases x <;> cases y <;> intro q <;> first|exact h _ q|exact q|exact⟨q.1,h _ q.2⟩|exact⟨q.1,q.2.1,q.2.2.1,h _ q.2.2.2⟩|exact⟨q.1,q.2.1,q.2.2.1,λk e=>h _ (q.2.2.2 k e)⟩|exact⟨q.1,q.2.1,q.2.2.1,q.2.2.2.1,λk e=>h _ (q.2.2.2.2 k e)⟩
theorem oGe.mono:∀{x y Q Q'},(∀ d,Q d->Q' d)->oGe x y Q->oGe x y Q':=by intro x y Q Q' h;cases x <;> cases y <;> intro q <;> first|exact h _ q|exact q|exact⟨q.1,h _ q.2⟩|exact⟨q.1,q.2.1,q.2.2.1,h _ q.2.2.2⟩|exact⟨q.1,q.2.1,q.2.2.1,λk e=>h _ (q.2.2.2 k e)⟩|exact⟨q.1,q.2.1,q.2.2.1,q.2.2.2.1,λk e=>h _ (q.2.2.2.2 k e)⟩
theorem oEq.mono:∀{x y Q Q'},(∀ d,Q d->Q' d)->oEq neg x y Q->oEq neg x y Q':=by intro x y Q Q' h;cases x <;> cases y <;> intro q <;> first|exact h _ q|exact q|exact⟨q.1,h _ q.2⟩|exact⟨q.1,q.2.1,q.2.2.1,h _ q.2.2.2⟩|exact⟨q.1,q.2.1,q.2.2.1,λk e=>h _ (q.2.2.2 k e)⟩|exact⟨q.1,q.2.1,q.2.2.1,q.2.2.2.1,λk e=>h _ (q.2.2.2.2 k e)⟩
theorem oIs.mono:∀{x y Q Q'},(∀ d,Q d->Q' d)->oIs neg x y Q->oIs neg x y Q':=by intro x y Q Q' h;cases x <;> cases y <;> intro q <;> first|exact h _ q|exact q|exact⟨q.1,h _ q.2⟩|exact⟨q.1,q.2.1,q.2.2.1,h _ q.2.2.2⟩|exact⟨q.1,q.2.1,q.2.2.1,λk e=>h _ (q.2.2.2 k e)⟩|exact⟨q.1,q.2.1,q.2.2.1,q.2.2.2.1,λk e=>h _ (q.2.2.2.2 k e)⟩
theorem oCmp.mono:∀{x y Q Q'},(∀ d,Q d->Q' d)->oCmp op x y Q->oCmp op x y Q':=by
 cases op;all_goals first|exact oLt.mono|exact oLe.mono|exact oGt.mono|exact oGe.mono|exact oEq.mono|exact oIs.mono|exact oIn.mono
def Rng(X:Cx)(g:Value->Value->Sem Value)(o:OD):Prop:=∃ r,OpR X g r/\RD X.K r o
theorem Rng.never:Rng X g Bn:=⟨λ_ _ _ _=>False,λ_ _ _ _ _ _ _ _ _ _ _ _ h=>h.elim,λ_ _ _ _ _ _ _ _ _ _ _ _ _ h=>h.elim⟩
theorem Je:Rng X (binaryOp .Add) oAdd:=by
 refine⟨_,OpR.or2 uU (OpR.or2 Bk (OpR.or2 JH (OpR.or2 GS (Mb X.K)))),?_⟩;intro f O σ ss H dx dy x y Q R rx ry h;cases dx <;> cases dy <;> first|(exact False.elim h)|skip
 ·rename_i i j;cases rx;cases ry;exact .inl ⟨i,j,rfl,rfl,h _ H (Ex.refl R.fl) rfl⟩
 ·rename_i i j;cases rx;cases ry;exact .inr (.inl ⟨i,j,rfl,rfl,h.1,h.2 _ H (Ex.refl R.fl) rfl⟩)
 ·rename_i la lb;obtain⟨a,xs,rfl,h1,h2⟩:=rx;obtain⟨b,ys,rfl,h3,h4⟩:=ry;obtain⟨hl,q⟩:=h;cases la with
  | nil =>
   cases (show xs=[] from h2);exact .inr (.inr (.inr (.inr ⟨a,b,ys,rfl,rfl,h1,h3,q _ H (Ex.refl R.fl) ⟨b,ys,rfl,h3,h4⟩⟩)))
  | cons d la =>
   refine .inr (.inr (.inr (.inl ⟨a,b,xs,ys,rfl,rfl,h1,h3,?_,by rw[h2.len,h4.len];exact hl,λe=>?_,λe p hp=>?_⟩)))
   ·obtain⟨v,r,e,_⟩:=h2;rw[e];simp
   ·subst e;cases lb with
    | nil =>
     refine q _ H (Ex.refl R.fl) ⟨a,xs,rfl,h1,?_⟩;rw[cu];exact h2
    | cons=>obtain⟨v,r,e,_⟩:=h4;cases e
   ·exact q _ _ (R.new hp _) (R.tup hp (h2.append h4))
 ·rename_i la lb;obtain⟨a,xs,rfl,n1,h1,h2⟩:=rx;obtain⟨b,ys,rfl,n2,h3,h4⟩:=ry;exact .inr (.inr (.inl ⟨a,b,xs,ys,rfl,rfl,h1,h3,by rw[h2.len,h4.len];exact h.1,λp hp=>h.2 _ _ (R.new hp _) (R.lst hp (h2.append h4))⟩))
theorem wW{g:Value->Value->Sem Value}{C:Int->Int->Prop}{w:Int->Int->Int}{o:OD}(h:OpR X g (rI C λi j=>.int (w i j)))(ho:∀ dx dy Q,o dx dy Q->∃ i j,dx = .int i/\dy = .int j/\C i j/\Q (.int (w i j))):Rng X g o:=by
 refine⟨_,h,λf O σ ss H dx dy x y Q R rx ry h=>?_⟩;obtain⟨i,j,rfl,rfl,c,q⟩:=ho _ _ _ h;cases rx;cases ry;exact⟨i,j,rfl,rfl,c,q _ H (Ex.refl R.fl) rfl⟩
theorem xF{g:Value->Value->Sem Value}{w:Int->Int->Bool}{o:OD}(h:OpR X g (Em λi j=>.bl (w i j)))(ho:∀ dx dy Q,o dx dy Q->∃ i j,dx = .int i/\dy = .int j/\Q (.bl (w i j))):Rng X g o:=by
 refine⟨_,h,λf O σ ss H dx dy x y Q R rx ry h=>?_⟩;obtain⟨i,j,rfl,rfl,q⟩:=ho _ _ _ h;cases rx;cases ry;exact⟨i,j,rfl,rfl,q _ H (Ex.refl R.fl) rfl⟩
theorem Jc:Rng X (binaryOp .Mult) oMul:=by
 refine⟨_,OpR.or2 GQ (OpR.or2 ER GN),?_⟩;intro f O σ ss H dx dy x y Q R rx ry h;cases dx <;> cases dy <;> first|(exact False.elim h)|skip
 ·rename_i i j;cases rx;cases ry;exact .inl ⟨i,j,rfl,rfl,h.1,h.2 _ H (Ex.refl R.fl) rfl⟩
 ·rename_i la k;obtain⟨a,xs,rfl,h1,h2⟩:=rx;cases ry;obtain⟨z1,z2,z3,q⟩:=h;obtain⟨k,rfl⟩:=bz (show 0<=k by omega);rw[aB] at z3 q;refine .inr (.inr ⟨a,xs,k,rfl,rfl,h1,λz=>z1 ?_,by omega,by rw[h2.len];exact z3,λe=>?_,λ_ p hp=>q _ _ (R.new hp _) (R.tup hp (h2.flat _))⟩)
  ·have:=h2.len;rw[z] at this;exact cQ.mp this.symm
  ·refine q _ H (Ex.refl R.fl) ⟨a,xs,rfl,h1,?_⟩;rw[e,bF,List.replicate_zero,ca,List.flatten_nil,cu];exact h2
 ·rename_i la k;obtain⟨a,xs,rfl,n1,h1,h2⟩:=rx;cases ry;exact .inr <| .inl ⟨a,k,xs,rfl,rfl,h1,h.1,h.2.1,by rw[h2.len];exact h.2.2.1,λp hp=>h.2.2.2 _ _ (R.new hp _) (R.lst hp (h2.flat _))⟩
theorem Jd(hr:Room k X.A)(op:Operator):Rng X (binaryOp op) (oBin op):=by
 cases op;case Add=>exact Je
 case Mult=>exact Jc
 case Sub =>
  refine⟨_,JA,λf O σ ss H dx dy x y Q R rx ry h=>?_⟩;cases dx <;> cases dy <;> first|(exact False.elim h)|skip
  cases rx;cases ry;exact⟨_,_,rfl,rfl,h _ H (Ex.refl R.fl) rfl⟩
 case FloorDiv=>exact wW (Az hr) λdx dy Q h=>by cases dx <;> cases dy <;> first|(exact False.elim h)|exact⟨_,_,rfl,rfl,h.1,h.2⟩
 case Mod=>exact wW GR λdx dy Q h=>by cases dx <;> cases dy <;> first|(exact False.elim h)|exact⟨_,_,rfl,rfl,h.1,h.2⟩
 case Pow=>exact wW ES λdx dy Q h=>by cases dx <;> cases dy <;> first|(exact False.elim h)|exact⟨_,_,rfl,rfl,h.1,h.2⟩
 case LShift=>exact wW JB λdx dy Q h=>by cases dx <;> cases dy <;> first|(exact False.elim h)|exact⟨_,_,rfl,rfl,h.1,h.2⟩
 all_goals exact Rng.never
theorem K3(hr:Room k X.A):Rng X (compareOp .Eq) (oEq false):=by
 refine⟨_,OpR.or2 Ig (OpR.or2 (OI X.K hr) (NE X.K hr)),?_⟩;intro f O σ ss H dx dy x y Q R rx ry h;cases dx <;> cases dy <;> first|(exact False.elim h)|skip
 ·rename_i i j;cases rx;cases ry;refine .inl ⟨rfl,?_⟩;have e:(decide (V.bl i=V.bl j))=decide (i=j):=by cases i <;> cases j <;> rfl
  rw[e];exact h _ H (Ex.refl R.fl) rfl
 ·rename_i i j;cases rx;cases ry;refine .inl ⟨rfl,?_⟩;have e:(decide (V.int i=V.int j))=decide (i=j):=by simp
  rw[e];exact h _ H (Ex.refl R.fl) rfl
 ·rename_i i j;cases rx;cases ry;refine .inl ⟨rfl,?_⟩;have e:(decide (V.str i=V.str j))=decide (i=j):=by simp
  rw[e];exact h _ H (Ex.refl R.fl) rfl
 ·rename_i la lb;obtain⟨p1,p2,p3,q⟩:=h;refine .inr (.inl ⟨D.dvs la,D.dvs lb,Rp.rep (d:=.tup la) p1 rx,Rp.rep (d:=.tup lb) p2 ry,D.dvs_pl p1,D.dvs_pl p2,by rw[D.dvs_dp];exact p3,λb hb=>?_⟩);exact q b (hb.trans ⟨λe=>D.dvs_inj p1 p2 e,λe=>by rw[e]⟩) _ H (Ex.refl R.fl) rfl
 ·rename_i la lb;obtain⟨_,p1,p2,p3,q⟩:=h;refine .inr (.inr ⟨D.dvs la,D.dvs lb,Rp.rep (d:=.lst la) p1 rx,Rp.rep (d:=.lst lb) p2 ry,D.dvs_pl p1,D.dvs_pl p2,by rw[D.dvs_dp];exact p3,λb hb=>?_⟩);exact q b (hb.trans ⟨λe=>D.dvs_inj p1 p2 e,λe=>by rw[e]⟩) _ H (Ex.refl R.fl) rfl
theorem K1(hr:Room k X.A):Rng X (compareOp .NotEq) (oEq true):=by
 refine⟨_,OpR.or2 Ll (OpR.or2 (OC X.K hr) (Nt X.K hr)),?_⟩;intro f O σ ss H dx dy x y Q R rx ry h;cases dx <;> cases dy <;> first|(exact False.elim h)|skip
 ·rename_i i j;cases rx;cases ry;refine .inl ⟨rfl,?_⟩;have e:(decide (V.bl i=V.bl j))=decide (i=j):=by cases i <;> cases j <;> rfl
  rw[e];exact h _ H (Ex.refl R.fl) rfl
 ·rename_i i j;cases rx;cases ry;refine .inl ⟨rfl,?_⟩;have e:(decide (V.int i=V.int j))=decide (i=j):=by simp
  rw[e];exact h _ H (Ex.refl R.fl) rfl
 ·rename_i i j;cases rx;cases ry;refine .inl ⟨rfl,?_⟩;have e:(decide (V.str i=V.str j))=decide (i=j):=by simp
  rw[e];exact h _ H (Ex.refl R.fl) rfl
 ·rename_i la lb;obtain⟨p1,p2,p3,q⟩:=h;refine .inr (.inl ⟨D.dvs la,D.dvs lb,Rp.rep (d:=.tup la) p1 rx,Rp.rep (d:=.tup lb) p2 ry,D.dvs_pl p1,D.dvs_pl p2,by rw[D.dvs_dp];exact p3,λb hb=>?_⟩);exact q b (hb.trans ⟨λe=>D.dvs_inj p1 p2 e,λe=>by rw[e]⟩) _ H (Ex.refl R.fl) rfl
 ·rename_i la lb;obtain⟨_,p1,p2,p3,q⟩:=h;refine .inr (.inr ⟨D.dvs la,D.dvs lb,Rp.rep (d:=.lst la) p1 rx,Rp.rep (d:=.lst lb) p2 ry,D.dvs_pl p1,D.dvs_pl p2,by rw[D.dvs_dp];exact p3,λb hb=>?_⟩);exact q b (hb.trans ⟨λe=>D.dvs_inj p1 p2 e,λe=>by rw[e]⟩) _ H (Ex.refl R.fl) rfl
theorem JE:OpR X (compareOp .Is) (λx y H Q=>∃ i j,x = .bl i/\y = .bl j/\Q (.bl (decide (i=j))) H):=by
 intro pins s σ H x y v u Q I rx ry h;obtain⟨i,j,rfl,rfl,q⟩:=h;cases rx;cases ry;exact ηB (ηP (ηP (sW I q (by cases i <;> cases j <;> rfl))))
theorem GP:OpR X (compareOp .IsNot) (λx y H Q=>∃ i j,x = .bl i/\y = .bl j/\Q (.bl (!decide (i=j))) H):=by
 intro pins s σ H x y v u Q I rx ry h;obtain⟨i,j,rfl,rfl,q⟩:=h;cases rx;cases ry;exact ηB (ηP (ηP (sW I q (by cases i <;> cases j <;> rfl))))
theorem K2:Rng X (compareOp .Is) (oIs false):=by
 refine⟨_,OpR.or2 JD JE,λf O σ ss H dx dy x y Q R rx ry h=>?_⟩;cases dy <;> first|(exact False.elim h)|skip
 ·cases ry;refine .inl ⟨rfl,?_⟩;cases dx;case tup=>obtain⟨a,xs,rfl,_⟩:=rx;exact h _ H (Ex.refl R.fl) rfl
  case lst=>obtain⟨a,xs,rfl,_⟩:=rx;exact h _ H (Ex.refl R.fl) rfl
  case exn=>obtain⟨a,xs,rfl,_⟩:=rx;exact h _ H (Ex.refl R.fl) rfl
  case dct=>obtain⟨a,xs,rfl,_⟩:=rx;exact h _ H (Ex.refl R.fl) rfl
  all_goals (cases rx;exact h _ H (Ex.refl R.fl) rfl)
 ·cases ry;cases dx <;> first|(exact False.elim h)|skip
  cases rx;exact .inr ⟨_,_,rfl,rfl,h _ H (Ex.refl R.fl) rfl⟩
theorem Ei:Rng X (compareOp .IsNot) (oIs true):=by
 refine⟨_,OpR.or2 GO GP,λf O σ ss H dx dy x y Q R rx ry h=>?_⟩;cases dy <;> first|(exact False.elim h)|skip
 ·cases ry;refine .inl ⟨rfl,?_⟩;cases dx;case tup=>obtain⟨a,xs,rfl,_⟩:=rx;exact h _ H (Ex.refl R.fl) rfl
  case lst=>obtain⟨a,xs,rfl,_⟩:=rx;exact h _ H (Ex.refl R.fl) rfl
  case exn=>obtain⟨a,xs,rfl,_⟩:=rx;exact h _ H (Ex.refl R.fl) rfl
  case dct=>obtain⟨a,xs,rfl,_⟩:=rx;exact h _ H (Ex.refl R.fl) rfl
  all_goals (cases rx;exact h _ H (Ex.refl R.fl) rfl)
 ·cases ry;cases dx <;> first|(exact False.elim h)|skip
  cases rx;exact .inr ⟨_,_,rfl,rfl,h _ H (Ex.refl R.fl) rfl⟩
theorem Rps.strs:∀{zs:List Str} {vs:List V},Rps K f O H (zs.map D.str) vs->vs=zs.map V.str
 | [],_,h=>h
 | z::zs,_,h=>by
  obtain⟨v,r,e1,h1,h2⟩:=h;rw[e1,Rps.strs h2,show v = .str z from h1];rfl
theorem Cz(i:Int)(ns:List Int):KB (.int i) (ns.map V.int)=decide (i∈ns):=by
 apply bT.mpr;unfold KB;rw[dG,decide_eq_true_iff];constructor
 ·rintro⟨y,hy,e⟩;obtain⟨j,hj,rfl⟩:=bg.mp hy;have e:(j == i)=true:=e;exact beq_iff_eq.mp e ▸ hj
 ·exact λh=>⟨_,bg.mpr ⟨i,h,rfl⟩,show (i == i)=true from beq_self_eq_true i⟩
theorem Cy(i:Str)(ns:List Str):KB (.str i) (ns.map V.str)=decide (i∈ns):=by
 apply bT.mpr;unfold KB;rw[dG,decide_eq_true_iff];constructor
 ·rintro⟨y,hy,e⟩;obtain⟨j,hj,rfl⟩:=bg.mp hy;have e:(j == i)=true:=e;exact beq_iff_eq.mp e ▸ hj
 ·exact λh=>⟨_,bg.mpr ⟨i,h,rfl⟩,show (i == i)=true from beq_self_eq_true i⟩
theorem D.dvs_mem:∀{l:List D},x.pl=true->D.pls l=true->(x.dv∈D.dvs l↔x∈l)
 | [],_,_=>⟨λh=>(by cases h),λh=>by cases h⟩
 | d::l,hx,hl=>by
  have h:=ar.mp (show (d.pl && D.pls l)=true from hl);show x.dv∈d.dv::D.dvs l↔_;rw[ao,ao,D.dvs_mem hx h.2];exact or_congr ⟨λe=>D.dv_inj hx h.1 e,λe=>by rw[e]⟩ Iff.rfl
theorem HX(neg:Bool):RD K (λx y H Q=>Ni K neg x y H Q\/Jn K neg x y H Q) (oIn neg):=by
 rintro f O σ ss H dx dy x y Q R rx ry (⟨i,ns,rfl,hy,q⟩|⟨i,ns,rfl,hy,q⟩|⟨l,rfl,p1,p2,p3,q⟩)
 ·cases rx;have fl:(ns.map V.int).all vR=true:=by rw[eY];exact cB.mpr λ_ _=>rfl
  rcases hy with rfl|rfl
  ·obtain⟨a,xs,rfl,_,h1,r1⟩:=ry;rw[Rps.ints r1] at h1;exact .inl ⟨a,_,rfl,.inl (SqL.of h1),rfl,fl,by rw[Cz];exact q _ H (Ex.refl R.fl) rfl⟩
  ·obtain⟨a,xs,rfl,h1,r1⟩:=ry;rw[Rps.ints r1] at h1;exact .inl ⟨a,_,rfl,.inr h1,rfl,fl,by rw[Cz];exact q _ H (Ex.refl R.fl) rfl⟩
 ·cases rx;have fl:(ns.map V.str).all vR=true:=by rw[eY];exact cB.mpr λ_ _=>rfl
  rcases hy with rfl|rfl
  ·obtain⟨a,xs,rfl,_,h1,r1⟩:=ry;rw[Rps.strs r1] at h1;exact .inl ⟨a,_,rfl,.inl (SqL.of h1),rfl,fl,by rw[Cy];exact q _ H (Ex.refl R.fl) rfl⟩
  ·obtain⟨a,xs,rfl,h1,r1⟩:=ry;rw[Rps.strs r1] at h1;exact .inl ⟨a,_,rfl,.inr h1,rfl,fl,by rw[Cy];exact q _ H (Ex.refl R.fl) rfl⟩
 ·exact .inr ⟨dx.dv,D.dvs l,Rp.rep p1 rx,Rp.rep (d:=.lst l) p2 ry,D.dv_pl p1,D.dvs_pl p2,by rw[D.dvs_dp];exact p3,λb hb=>q b (hb.trans (D.dvs_mem p1 p2)) _ H (Ex.refl R.fl) rfl⟩
theorem wY(hr:Room k X.A)(op:CmpOp):Rng X (compareOp op) (oCmp op):=by
 cases op;case Eq=>exact K3 hr
 case NotEq=>exact K1 hr
 case Lt=>exact xF Ic λdx dy Q h=>by cases dx <;> cases dy <;> first|(exact False.elim h)|exact⟨_,_,rfl,rfl,h⟩
 case LtE=>exact xF Lm λdx dy Q h=>by cases dx <;> cases dy <;> first|(exact False.elim h)|exact⟨_,_,rfl,rfl,h⟩
 case Gt=>exact xF Id λdx dy Q h=>by cases dx <;> cases dy <;> first|(exact False.elim h)|exact⟨_,_,rfl,rfl,h⟩
 case GtE=>exact xF Ie λdx dy Q h=>by cases dx <;> cases dy <;> first|(exact False.elim h)|exact⟨_,_,rfl,rfl,h⟩
 case Is=>exact K2
 case IsNot=>exact Ei
 case In=>exact⟨_,OpR.or2 Di (JF X.K hr),HX false⟩
 case NotIn=>exact⟨_,OpR.or2 zw (Dh X.K hr),HX true⟩
end Dp
namespace Dp
open PySem L2
variable{K:Frag}{f:Addr}{O O':List Addr}{H H':Hp}{X:Cx}{σ:St}{ss:SS}{a b c:Expr}{ta tb tc:TEd}{tA tB:TTd}{pos:Pos}
def gg(op:Operator)(a b:TEd):TEd:=d2 (oBin op) oBin.mono a b
theorem gg.ok(hr:Room k X.A)(ha:PE X a (LE X.K ta))(hb:PE X b (LE X.K tb)):PE X (.BinOp a op b pos) (LE X.K (gg op ta tb)):=by
 obtain⟨r,h,hr⟩:=Jd (X:=X) hr op;exact d2.ok hr (tK h ha hb)
def gy(op:CmpOp)(a b:TEd):TEd:=d2 (oCmp op) oCmp.mono a b
theorem gy.ok(hr:Room k X.A)(ha:PE X a (LE X.K ta))(hb:PE X b (LE X.K tb))(hm:behindInMarks op b=false):PE X (.Compare a [op] [b] pos) (LE X.K (gy op ta tb)):=by
 obtain⟨r,h,hr⟩:=wY hr op;exact d2.ok hr (GK h ha hb hm)
def gu(t:TEd):TTd:=⟨λss Q=>t.run ss λd=>match d with | .bl b=>Q b|_=>False,λ{ss Q Q'} h q=>t.mono (λd q=>by
 revert q;cases d <;> first|exact h _|exact id) q⟩
theorem LE.test(h:LT X.K (gu t) σ H Q):DT (LE X.K t) σ H Q:=by
 obtain⟨f,O,ss,R,q⟩:=h;refine⟨f,O,ss,R,t.mono (λd q v H' e r=>?_) q⟩;cases d <;> first|exact False.elim q|skip
 cases r;exact⟨_,rfl,q H' e⟩
theorem gy.test(hr:Room k X.A)(ha:PE X a (LE X.K ta))(hb:PE X b (LE X.K tb))(hm:behindInMarks op b=false):PT X (.Compare a [op] [b] pos) (LT X.K (gu (gy op ta tb))):=by
 obtain⟨r,h,hr⟩:=wY hr op;refine (wv (pos:=pos) h ha hb hm).weak λσ H Q q=>?_;have q:=LE.test q;obtain⟨f,O,ss,R,q⟩:=q;refine⟨f,O,ss,R,ta.mono (λdx q v1 H1 e1 r1=>?_) q⟩;refine⟨f,O,ss,R.ex e1,tb.mono (λdy q v2 H2 e2 r2=>?_) q⟩;exact hr f O σ ss H2 dx dy v1 v2 _ ((R.ex e1).ex e2) ((R.ex e1).up e2 r1) r2 (oCmp.mono (λd q v H' e3 r3=>q v H' (e1.trans (e2.trans e3)) r3) q)
def ji(op op':CmpOp)(a b c:TEd):TEd:=⟨λss Q=>a.run ss λx=>b.run ss λy=>oCmp op x y λz=>match z with | .bl k=>if k=true then c.run ss λw=>oCmp op' y w Q else Q (.bl false)|_=>False,λ{ss Q Q'} h q=>a.mono (λx q=>b.mono (λy q=>oCmp.mono (λd q=>by
 revert q;cases d <;> first|exact id|skip
 rename_i k;cases k
 ·exact h _
 ·exact c.mono λw q=>oCmp.mono h q) q) q) q⟩
theorem ji.test(hr:Room k X.A)(ha:PE X a (LE X.K ta))(hb:PE X b (LE X.K tb))(hc:PE X c (LE X.K tc))(hm:lastMarks [op,op'] [b,c]=false):PT X (.Compare a [op,op'] [b,c] pos) (LT X.K (gu (ji op op' ta tb tc))):=by
 obtain⟨r,h,h1⟩:=wY hr op;obtain⟨r',h',h2⟩:=wY hr op';refine (Eu (pos:=pos) h h' ha hb hc hm).weak λσ H Q q=>?_;have q:=LE.test q;obtain⟨f,O,ss,R,q⟩:=q;refine⟨f,O,ss,R,ta.mono (λdx q v1 H1 e1 r1=>?_) q⟩;refine⟨f,O,ss,R.ex e1,tb.mono (λdy q v2 H2 e2 r2=>?_) q⟩;have R2:=(R.ex e1).ex e2;refine h1 f O σ ss H2 dx dy v1 v2 _ R2 ((R.ex e1).up e2 r1) r2 (oCmp.mono (λd q v H3 e3 r3=>?_) q);cases d <;> first|exact False.elim q|skip
 rename_i k;cases r3;refine⟨k,rfl,?_⟩;cases k
 ·exact q _ H3 (e1.trans (e2.trans e3)) rfl
 ·have R3:=R2.ex e3;refine⟨f,O,ss,R3,tc.mono (λdz q v4 H4 e4 r4=>?_) q⟩;exact h2 f O σ ss H4 dy dz v2 v4 _ (R3.ex e4) (R3.up e4 (R2.up e3 r2)) r4 (oCmp.mono (λd q v H' e5 r5=>q v H' (e1.trans (e2.trans (e3.trans (e4.trans e5)))) r5) q)
theorem ji.ok(hr:Room k X.A)(ha:PE X a (LE X.K ta))(hb:PE X b (LE X.K tb))(hc:PE X c (LE X.K tc))(hm:lastMarks [op,op'] [b,c]=false):PE X (.Compare a [op,op'] [b,c] pos) (LE X.K (ji op op' ta tb tc)):=by
 obtain⟨r,h,h1⟩:=wY hr op;obtain⟨r',h',h2⟩:=wY hr op';refine (EF (pos:=pos) h h' ha hb hc hm).weak λσ H Q q=>?_;obtain⟨f,O,ss,R,q⟩:=q;refine⟨f,O,ss,R,ta.mono (λdx q v1 H1 e1 r1=>?_) q⟩;refine⟨f,O,ss,R.ex e1,tb.mono (λdy q v2 H2 e2 r2=>?_) q⟩;have R2:=(R.ex e1).ex e2;refine h1 f O σ ss H2 dx dy v1 v2 _ R2 ((R.ex e1).up e2 r1) r2 (oCmp.mono (λd q v H3 e3 r3=>?_) q);cases d <;> first|exact False.elim q|skip
 rename_i k;cases r3;refine⟨k,rfl,?_⟩;cases k
 ·exact q _ H3 (e1.trans (e2.trans e3)) rfl
 ·have R3:=R2.ex e3;refine⟨f,O,ss,R3,tc.mono (λdz q v4 H4 e4 r4=>?_) q⟩;exact h2 f O σ ss H4 dy dz v2 v4 _ (R3.ex e4) (R3.up e4 (R2.up e3 r2)) r4 (oCmp.mono (λd q v H' e5 r5=>q v H' (e1.trans (e2.trans (e3.trans (e4.trans e5)))) r5) q)
def nc(a:TEd):TEd:=⟨λss Q=>a.run ss λd=>match d with | .int i=>Q (.int (-i))|_=>False,λ{ss Q Q'} h q=>a.mono (λd q=>by
 revert q;cases d <;> first|exact h _|exact id) q⟩
theorem nc.ok(ha:PE X a (LE X.K ta)):PE X (.UnaryOp .USub a pos) (LE X.K (nc ta)):=(H9 (pos:=pos) DN ha).weak λσ H Q ⟨f,O,ss,R,q⟩=>⟨f,O,ss,R,ta.mono (λd q v H1 e r=>by
 cases d <;> first|exact False.elim q|skip
 cases r;exact⟨_,rfl,q _ H1 e rfl⟩) q⟩
def truD:D->(Bool->Prop)->Prop
 | .non,Q=>Q false
 | .bl b,Q=>Q b
 | .int i,Q=>Q (i != 0)
 | .str y,Q=>y.length<=sizeLine/\Q ((y.length:Int) != 0)
 | .tup l,Q=>Q (!l.isEmpty)
 | .lst l,Q=>Q (!l.isEmpty)
 | .fl,_=>False
 | .exn _ _ _,_=>False
 | .dct _ _,_=>False
theorem truD.mono:∀{d:D} {Q Q':Bool->Prop},(∀ b,Q b->Q' b)->truD d Q->truD d Q'
 | .non,_,_,h,q=>h _ q
 | .bl _,_,_,h,q=>h _ q
 | .int _,_,_,h,q=>h _ q
 | .str _,_,_,h,q=>⟨q.1,h _ q.2⟩
 | .tup _,_,_,h,q=>h _ q
 | .lst _,_,_,h,q=>h _ q
 | .fl,_,_,_,q=>q
 | .exn ..,_,_,_,q=>q
 | .dct _ _,_,_,_,q=>q
theorem Rps.empty:∀{ds:List D} {vs:List V},Rps K f O H ds vs->vs.isEmpty=ds.isEmpty
 | [],_,h=>by rw[show _=[] from h];rfl
 | _::_,_,h=>by obtain⟨v,r,e,_⟩:=h;rw[e];rfl
def jF(a:TEd):TTd:=⟨λss Q=>a.run ss λd=>truD d Q,λh q=>a.mono (λd q=>truD.mono h q) q⟩
theorem jF.ok(ha:PE X a (LE X.K ta))(he:∀ whole,isTrue a X.env whole=(do let v ← whole;standAt a.pos;holding [v] (truthy v))):PT X a (LT X.K (jF ta)):=(Et ha he).weak λσ H Q ⟨f,O,ss,R,q⟩=>⟨f,O,ss,R,ta.mono (λd q v H1 e r=>by
 cases d;case non=>cases r;exact⟨false,rfl,q H1 e⟩
 case bl=>cases r;exact⟨_,rfl,q H1 e⟩
 case int=>cases r;exact⟨_,rfl,q H1 e⟩
 case str=>cases r;exact⟨_,⟨q.1,rfl⟩,q.2 H1 e⟩
 case tup l =>
  obtain⟨p,xs,rfl,h1,h2⟩:=r;exact⟨_,.inr (.inl ⟨xs,h1,by rw[h2.empty]⟩),q H1 e⟩
 case lst l =>
  obtain⟨p,xs,rfl,_,h1,h2⟩:=r;exact⟨_,.inl ⟨xs,SqL.of h1,by rw[h2.empty]⟩,q H1 e⟩
 case fl=>exact False.elim q
 case exn=>exact False.elim q
 case dct=>exact False.elim q) q⟩
def ju(a b:TTd):TTd:=⟨λss Q=>a.run ss λk=>if k=true then b.run ss Q else Q false,λ{ss Q Q'} h q=>a.mono (λk q=>by
 revert q;cases k
 ·exact h _
 ·exact b.mono h) q⟩
def jS(a b:TTd):TTd:=⟨λss Q=>a.run ss λk=>if k=true then Q true else b.run ss Q,λ{ss Q Q'} h q=>a.mono (λk q=>by
 revert q;cases k
 ·exact b.mono h
 ·exact h _) q⟩
def jG(a:TTd):TTd:=⟨λss Q=>a.run ss λk=>Q (!k),λh q=>a.mono (λk q=>h _ q) q⟩
theorem ju.weak(h:LT X.K (ju tA tB) σ H Q):KW (LT X.K tA) (LT X.K tB) σ H Q:=by
 obtain⟨f,O,ss,S,q⟩:=h;refine⟨f,O,ss,S,tA.mono (λk q H1 e=>?_) q⟩;cases k
 ·exact q H1 e
 ·exact⟨f,O,ss,S.ex e,tB.mono (λk q H2 e2=>q H2 (e.trans e2)) q⟩
theorem jS.weak(h:LT X.K (jS tA tB) σ H Q):N0 (LT X.K tA) (LT X.K tB) σ H Q:=by
 obtain⟨f,O,ss,S,q⟩:=h;refine⟨f,O,ss,S,tA.mono (λk q H1 e=>?_) q⟩;cases k
 ·exact⟨f,O,ss,S.ex e,tB.mono (λk q H2 e2=>q H2 (e.trans e2)) q⟩
 ·exact q H1 e
theorem _root_.L2.PW.weak(h:PW X e t)(w:∀ σ H Q,t' σ H Q->t σ H Q):PW X e t':=λwh pins s σ H Q I q=>h wh pins s σ H Q I (w σ H Q q)
theorem ju.ok(ha:PT X a (LT X.K tA))(hb:PW X (.BoolOp .And (b::rest) pos) (LT X.K tB)):PW X (.BoolOp .And (a::b::rest) pos) (LT X.K (ju tA tB)):=(Es ha hb).weak λ_ _ _=>ju.weak
theorem jS.ok(ha:PT X a (LT X.K tA))(hb:PW X (.BoolOp .Or (b::rest) pos) (LT X.K tB)):PW X (.BoolOp .Or (a::b::rest) pos) (LT X.K (jS tA tB)):=(Lh ha hb).weak λ_ _ _=>jS.weak
theorem jG.ok(ha:PT X a (LT X.K tA)):PT X (.UnaryOp .Not a pos) (LT X.K (jG tA)):=(Jq ha).weak λσ H Q ⟨f,O,ss,S,q⟩=>⟨f,O,ss,S,q⟩
def oO(a b:TEd):TEd:=⟨λss Q=>a.run ss λd=>match d with | .bl k=>if k=true then b.run ss Q else Q (.bl false)|_=>False,λ{ss Q Q'} h q=>a.mono (λd q=>by
 revert q;cases d <;> first|exact id|skip
 rename_i k;cases k
 ·exact h _
 ·exact b.mono h) q⟩
def dOr(a b:TEd):TEd:=⟨λss Q=>a.run ss λd=>match d with | .bl k=>if k=true then Q (.bl true) else b.run ss Q|_=>False,λ{ss Q Q'} h q=>a.mono (λd q=>by
 revert q;cases d <;> first|exact id|skip
 rename_i k;cases k
 ·exact b.mono h
 ·exact h _) q⟩
def rD(a:TEd):TEd:=⟨λss Q=>a.run ss λd=>match d with | .bl k=>Q (.bl (!k))|_=>False,λ{ss Q Q'} h q=>a.mono (λd q=>by
 revert q;cases d <;> first|exact h _|exact id) q⟩
theorem oO.ok(ha:PE X a (LE X.K ta))(hb:PE X (.BoolOp .And (b::rest) pos) (LE X.K tb)):PE X (.BoolOp .And (a::b::rest) pos) (LE X.K (oO ta tb)):=(Jy ha hb).weak λσ H Q ⟨f,O,ss,S,q⟩=>⟨f,O,ss,S,ta.mono (λd q v H1 e r=>by
 cases d <;> first|exact False.elim q|skip
 rename_i k;cases r;refine⟨k,rfl,?_⟩;cases k
 ·exact q _ H1 e rfl
 ·exact⟨f,O,ss,S.ex e,tb.mono (λk q v H2 e2 r=>q v H2 (e.trans e2) r) q⟩) q⟩
theorem dOr.ok(ha:PE X a (LE X.K ta))(hb:PE X (.BoolOp .Or (b::rest) pos) (LE X.K tb)):PE X (.BoolOp .Or (a::b::rest) pos) (LE X.K (dOr ta tb)):=(Li ha hb).weak λσ H Q ⟨f,O,ss,S,q⟩=>⟨f,O,ss,S,ta.mono (λd q v H1 e r=>by
 cases d <;> first|exact False.elim q|skip
 rename_i k;cases r;refine⟨k,rfl,?_⟩;cases k
 ·exact⟨f,O,ss,S.ex e,tb.mono (λk q v H2 e2 r=>q v H2 (e.trans e2) r) q⟩
 ·exact q _ H1 e rfl) q⟩
theorem rD.ok(ha:PE X a (LE X.K ta)):PE X (.UnaryOp .Not a pos) (LE X.K (rD ta)):=(Jw (pos:=pos) ha).weak λσ H Q ⟨f,O,ss,S,q⟩=>⟨f,O,ss,S,ta.mono (λd q v H1 e r=>by
 cases d <;> first|exact False.elim q|skip
 rename_i k;cases r;exact⟨k,rfl,q _ H1 e rfl⟩) q⟩
def ra(c:TTd)(a b:TEd):TEd:=⟨λss Q=>c.run ss λk=>if k=true then a.run ss Q else b.run ss Q,λ{ss Q Q'} h q=>c.mono (λk q=>by
 revert q;cases k
 ·exact b.mono h
 ·exact a.mono h) q⟩
theorem ra.ok(hc:PT X c (LT X.K tA))(ha:PE X a (LE X.K ta))(hb:PE X b (LE X.K tb)):PE X (.IfExp c a b pos) (LE X.K (ra tA ta tb)):=(EE (pos:=pos) hc ha hb).weak λσ H Q ⟨f,O,ss,S,q⟩=>⟨f,O,ss,S,tA.mono (λk q H1 e=>by
 cases k
 ·exact⟨f,O,ss,S.ex e,tb.mono (λk q v H2 e2 r=>q v H2 (e.trans e2) r) q⟩
 ·exact⟨f,O,ss,S.ex e,ta.mono (λk q v H2 e2 r=>q v H2 (e.trans e2) r) q⟩) q⟩
def gb:TAd:=⟨λ_ Q=>Q [],λh q=>h _ q⟩
def fZ(a:TEd)(r:TAd):TAd:=⟨λss Q=>a.run ss λd=>r.run ss λds=>Q (d::ds),λh q=>a.mono (λd q=>r.mono (λds q=>h _ q) q) q⟩
theorem gb.ok:PA X [] (LA X.K gb):=pa_nil.weak λσ H Q ⟨f,O,ss,S,q⟩=>q [] H (Ex.refl S.fl) rfl
theorem fZ.ok(ha:PE X a (LE X.K ta))(hr:PA X es (LA X.K t))(hs:starEach (a::es) X.env=(false,eval a X.env)::starEach es X.env):PA X (a::es) (LA X.K (fZ ta t)):=(sT ha hr hs).weak λσ H Q ⟨f,O,ss,S,q⟩ =>
 ⟨f,O,ss,S,ta.mono (λd q v H1 e r=>⟨f,O,ss,S.ex e,t.mono (λds q vs H2 e2 r2=>q (v::vs) H2 (e.trans e2) ⟨v,vs,rfl,(S.ex e).up e2 r,r2⟩) q⟩) q⟩
def gm(t:TAd):TEd:=⟨λss Q=>t.run ss λds=>ds.length<=sizeLine/\Q (.tup ds),λh q=>t.mono (λds q=>⟨q.1,h _ q.2⟩) q⟩
def gv(t:TAd):TEd:=⟨λss Q=>t.run ss λds=>ds.length<=sizeLine/\Q (.lst ds),λh q=>t.mono (λds q=>⟨q.1,h _ q.2⟩) q⟩
theorem gm.ok(h:PA X es (LA X.K t)):PE X (.Tuple es k pos) (LE X.K (gm t)):=(EC h).weak λσ H Q ⟨f,O,ss,S,q⟩ =>
 ⟨f,O,ss,S,t.mono (λds q vs H1 e r=>⟨by rw[r.len];exact q.1,λp hp=>q.2 _ _ (e.trans ((S.ex e).new hp _)) ((S.ex e).tup hp r)⟩) q⟩
theorem gv.ok(h:PA X es (LA X.K t)):PE X (.List es pos) (LE X.K (gv t)):=(zr h).weak λσ H Q ⟨f,O,ss,S,q⟩ =>
 ⟨f,O,ss,S,t.mono (λds q vs H1 e r=>⟨by rw[r.len];exact q.1,λp hp=>q.2 _ _ (e.trans ((S.ex e).new hp _)) ((S.ex e).lst hp r)⟩) q⟩
def itD(l:List D)(i:Int)(Q:D->Prop):Prop:=match y9 l i with|some d=>Q d|none=>False
theorem itD.mono(h:∀ d,Q d->Q' d):itD l i Q->itD l i Q':=by
 unfold itD;split
 ·exact h _
 ·exact id
theorem itD.rp(r:Rps K f O H l xs)(q:itD l i Q):∃ v d,y9 xs i=some v/\Rp K f O H d v/\Q d:=by
 unfold itD at q;split at q
 ·rename_i d e;unfold y9 at e ⊢;rw[r.len];cases h:zI l.length i with
  | none=>rw[h] at e;cases e
  | some j =>
   rw[h] at e;obtain⟨v,h1,h2⟩:=r.get (show l[j]? = some d from e);exact⟨v,d,h1,h2,q⟩
 ·exact q.elim
def oIx:OD
 | .lst l,.int i,Q=>itD l i Q
 | .tup l,.int i,Q=>itD l i Q
 | .str z,.int i,Q=>z.length<=sizeLine/\∃ c,y9 z.cps.toList i=some c/\Q (.str ⟨#[c]⟩)
 | .dct ks l,.int i,Q=>∃(j:Nat) (d:D),ks[j]? = some (Sum.inl i)/\l[j]? = some d/\Q d
 | .dct ks l,.str x,Q=>∃(j:Nat) (d:D),ks[j]? = some (Sum.inr x)/\l[j]? = some d/\Q d
 | _,_,_=>False
theorem oIx.mono:∀{x y Q Q'},(∀ d,Q d->Q' d)->oIx x y Q->oIx x y Q':=by
 intro x y Q Q' h;cases x <;> cases y <;> intro q <;> first|exact itD.mono h q|exact q|skip
 ·obtain⟨q0,c,q1,q2⟩:=q;exact⟨q0,c,q1,h _ q2⟩
 ·obtain⟨j,d,q0,q1,q2⟩:=q;exact⟨j,d,q0,q1,h _ q2⟩
 ·obtain⟨j,d,q0,q1,q2⟩:=q;exact⟨j,d,q0,q1,h _ q2⟩
def K5(K:Frag):R2:=λx y H Q=>N2 K x y H Q\/K8 x y H Q
theorem E6:IxR X (K5 X.K):=ix_seq.or Hl
theorem FC{ks:List xM}{l:List D}{us:List V}{j:Nat}{k:xM}{d:D}(h1:ks[j]? = some k)(h2:l[j]? = some d)(r:Rps K f O H l us):∃ v,(k,v)∈ks.zip us/\Rp K f O H d v:=by
 obtain⟨v,hv,rv⟩:=r.get h2;exact⟨v,ay (i:=j) (by rw[List.getElem?_zip_eq_some];exact⟨h1,hv⟩),rv⟩
theorem HW:RD X.K (K5 X.K) oIx:=by
 intro f O σ ss H dx dy x y Q R rx ry h;cases dx <;> cases dy <;> first|(exact False.elim h)|skip
 ·rename_i z i;cases rx;cases ry;obtain⟨q0,c,q1,q2⟩:=h;exact .inl (.inr (.inr ⟨z,i,c,rfl,rfl,q0,q1,q2 _ H (Ex.refl R.fl) rfl⟩))
 ·rename_i l i;obtain⟨p,xs,rfl,h1,h2⟩:=rx;cases ry;obtain⟨v,d,e,r,q⟩:=itD.rp h2 h;exact .inl (.inr (.inl ⟨p,xs,i,v,rfl,rfl,h1,e,q v H (Ex.refl R.fl) r⟩))
 ·rename_i l i;obtain⟨p,xs,rfl,_,h1,h2⟩:=rx;cases ry;obtain⟨v,d,e,r,q⟩:=itD.rp h2 h;exact .inl (.inl ⟨p,xs,i,v,rfl,rfl,SqL.of h1,e,q v H (Ex.refl R.fl) r⟩)
 ·rename_i ks l i;obtain⟨p,us,rfl,h1,h2,h3⟩:=rx;cases ry;obtain⟨j,d,e1,e2,q⟩:=h;obtain⟨v,hm,rv⟩:=FC e1 e2 h3;exact .inr ⟨p,_,.inl i,v,rfl,rfl,h1,hm,q v H (Ex.refl R.fl) rv⟩
 ·rename_i ks l x;obtain⟨p,us,rfl,h1,h2,h3⟩:=rx;cases ry;obtain⟨j,d,e1,e2,q⟩:=h;obtain⟨v,hm,rv⟩:=FC e1 e2 h3;exact .inr ⟨p,_,.inr x,v,rfl,rfl,h1,hm,q v H (Ex.refl R.fl) rv⟩
def dIx(a b:TEd):TEd:=d2 oIx oIx.mono a b
theorem dIx.ok(ha:PE X a (LE X.K ta))(hb:PE X b (LE X.K tb))(hs:xL b):PE X (.Subscript a b pos) (LE X.K (dIx ta tb)):=d2.ok HW (t7 E6 ha hb hs)
def itI(l:List D)(y:D)(Q:D->Prop):Prop:=match y with | .int j=>itD l j Q|_=>False
theorem itI.mono(h:∀ d,Q d->Q' d):itI l y Q->itI l y Q':=by
 cases y <;> first|exact id|exact itD.mono h
def mH(i:Nat)(b:TEd):TEd:=⟨λss Q=>match ss[i]? with|some (.val d)=>b.run ss λy=>oIx d y Q|some (.own l)=>b.run ss λy=>itI l y Q|_=>False,λ{ss Q Q'} h q=>by
 revert q;split
 ·exact b.mono λy=>oIx.mono h
 ·exact b.mono λy=>itI.mono h
 ·exact id⟩
theorem mH.ok(ha:PE X a (vc i))(hb:PE X b (LE X.K tb))(hs:xL b):PE X (.Subscript a b pos) (LE X.K (mH i tb)):=(t7 (pos:=pos) E6 ha hb hs).weak λσ H Q ⟨f,O,ss,R,q⟩=>by
 have q:(match ss[i]? with|some (.val d)=>tb.run ss λy=>oIx d y (λd=>∀ v H',Ex f H H'->Rp X.K f O H' d v->Q v H')|some (.own l)=>tb.run ss λy=>itI l y (λd=>∀ v H',Ex f H H'->Rp X.K f O H' d v->Q v H')|_=>False):=q;split at q
 ·rename_i d e;obtain⟨v,h1,h2⟩:=R.val i d e;refine⟨v,h1,f,O,ss,R,tb.mono (λdy q y H1 e1 r1=>?_) q⟩;exact HW f O σ ss H1 d dy v y Q (R.ex e1) (R.up e1 h2) r1 (oIx.mono (λd q v H' e r=>q v H' (e1.trans e) r) q)
 ·rename_i l e;obtain⟨p,xs,h1,h2,h3,h4,h5⟩:=R.own i l e;refine⟨_,h1,f,O,ss,R,tb.mono (λdy q y H1 e1 r1=>?_) q⟩;cases dy <;> first|exact False.elim q|skip
  cases r1;obtain⟨v,d,e,r,q⟩:=itD.rp (R.ups e1 h5) q;exact .inl (.inl ⟨p,xs,_,v,rfl,rfl,SqL.of (e1.sm.app p _ h3 h4),e,q v H1 e1 r⟩)
 ·exact q.elim
def tN{α:Type}(xs:List α)(lo hi:Option Int):List α:=(xs.drop (HT.tO xs.length 0 lo)).take (HT.tO xs.length xs.length hi-HT.tO xs.length 0 lo)
theorem Rps.cut(r:Rps K f O H ds xs)(lo hi:Option Int):Rps K f O H (tN ds lo hi) (AN xs lo hi):=by
 unfold tN AN;rw[r.len];exact (r.drop _).take _
def dNo:TOd:=⟨λ_ Q=>Q none,λh q=>h _ q⟩
def ic(t:TEd):TOd:=⟨λss Q=>t.run ss λd=>match d with | .int i=>Q (some i)|_=>False,λ{ss Q Q'} h q=>t.mono (λd q=>by
 revert q;cases d <;> first|exact h _|exact id) q⟩
theorem dNo.ok:PO X none (LO X.K dNo):=po_none.weak λσ H Q ⟨f,O,ss,S,q⟩=>q H (Ex.refl S.fl)
theorem ic.ok(ha:PE X a (LE X.K ta)):PO X (some a) (LO X.K (ic ta)):=(xH ha).weak λσ H Q ⟨f,O,ss,S,q⟩=>⟨f,O,ss,S,ta.mono (λd q v H1 e r=>by
 cases d <;> first|exact False.elim q|skip
 cases r;exact⟨_,rfl,q H1 e⟩) q⟩
def slD(d:D)(lo hi:Option Int)(Q:D->Prop):Prop:=match d with
 | .lst l=>Q (.lst (tN l lo hi))
 | .tup l=>True/\Q (.tup (tN l lo hi))
 | _=>False
theorem slD.mono(h:∀ d,Q d->Q' d):slD d lo hi Q->slD d lo hi Q':=by
 cases d <;> intro q <;> first|exact h _ q|exact⟨q.1,h _ q.2⟩|exact q
theorem D3:SlR X (λx lo hi H Q=>∃ a xs,x = .ref a/\SqT X.K H a xs/\(HT.tO xs.length 0 lo=0/\HT.tO xs.length xs.length hi=xs.length)/\Q (.ref a) H):=by
 intro pins s σ H x v vl vu lo hi sl Q I rx hs pl pu h;obtain⟨a,xs,e,hx,hw,q⟩:=h;subst e;cases rx;obtain⟨its,r,ht,hz⟩:=I.tuple hx;have hlen:its.toArray.size=xs.length:=by rw[ak];exact r.length.symm
 exact⟨"tuple",_,PyProof.Rows.slot_tuple_getitem.lookup,ht.typeIs,HT.vJ ht hs pl pu (by rw[hlen];exact hw) ⟨.ref a,H,I,rfl,q⟩⟩
def dSl(a:TEd)(l u:TOd):TEd:=⟨λss Q=>a.run ss λd=>l.run ss λlo=>u.run ss λhi=>slD d lo hi Q,λh q=>a.mono (λd q=>l.mono (λlo q=>u.mono (λhi q=>slD.mono h q) q) q) q⟩
theorem dSl.ok(ha:PE X a (LE X.K ta))(hl:PO X lo (LO X.K tl))(hu:PO X hi (LO X.K tu)):PE X (.Subscript a (.Slice lo hi none p2) pos) (LE X.K (dSl ta tl tu)):=by
 refine (ED (pos:=pos) (p2:=p2) (sl_list.or (sl_tup.or D3)) ha hl hu).weak λσ H Q ⟨f,O,ss,S,q⟩=>?_;refine⟨f,O,ss,S,ta.mono (λd q v H1 e1 r=>?_) q⟩;have S1:=S.ex e1;refine⟨f,O,ss,S1,tl.mono (λlo q H2 e2=>?_) q⟩;have S2:=S1.ex e2;refine⟨f,O,ss,S2,tu.mono (λhi q H3 e3=>?_) q⟩;have S3:=S2.ex e3;have r:=S2.up e3 (S1.up e2 r);cases d <;> first|exact False.elim q|skip
 ·have r':=r;obtain⟨p,xs,rfl,h1,h2⟩:=r;by_cases hw:HT.tO xs.length 0 lo=0/\HT.tO xs.length xs.length hi=xs.length
  ·refine .inr (.inr ⟨p,xs,rfl,h1,hw,q.2 _ _ (e1.trans (e2.trans e3)) ?_⟩);unfold tN;rw[← h2.len,hw.1,hw.2,dR,cD,h2.len,bE];exact r'
  ·exact .inr (.inl ⟨p,xs,rfl,h1,hw,λp hp=>q.2 _ _ (e1.trans (e2.trans (e3.trans (S3.new hp _)))) (S3.tup hp (h2.cut _ _))⟩)
 ·rename_i l;obtain⟨p,xs,rfl,_,h1,h2⟩:=r;exact .inl ⟨p,xs,rfl,SqL.of h1,λp hp=>q _ _ (e1.trans (e2.trans (e3.trans (S3.new hp _)))) (S3.lst hp (h2.cut _ _))⟩
def rE(a:TEd):TEd:=⟨λss Q=>a.run ss λd=>match d with | .lst l=>Q (.lst l.reverse)|_=>False,λ{ss Q Q'} h q=>a.mono (λd q=>by
 revert q;cases d <;> first|exact h _|exact id) q⟩
theorem rE.ok{j k:Nat}{p1 p2 p3:Pos}(ha:PE X a (LE X.K ta)):PE X (.Subscript a (.Slice none none (some (.UnaryOp .USub (.Constant (.int 1) j p1) p3)) p2) pos) (LE X.K (rE ta)):=by
 refine (yO (pos:=pos) (p2:=p2) (Nc X.K) ha po_none po_none (xH (H9 (pos:=p3) DN (sQ (j:=j) (pos:=p1))))).weak λσ H Q ⟨f,O,ss,S,q⟩=>?_;refine⟨f,O,ss,S,ta.mono (λd q v H1 e1 r=>?_) q⟩;have S1:=S.ex e1;cases d <;> first|exact False.elim q|skip
 rename_i l;obtain⟨p,xs,rfl,_,h1,h2⟩:=r;exact⟨_,rfl,_,rfl,rfl,rfl,rfl,p,xs,rfl,SqL.of h1,λp hp=>q _ _ (e1.trans (S1.new hp _)) (S1.lst hp h2.reverse)⟩
abbrev BD:=List D->(D->Prop)->Prop
def dB(o:BD)(m:∀{ds Q Q'},(∀ d,Q d->Q' d)->o ds Q->o ds Q')(t:TAd):TEd:=⟨λss Q=>t.run ss λds=>o ds Q,λh q=>t.mono (λds q=>m h q) q⟩
def RC(K:Frag)(r:List V->Hp->VK->Prop)(o:BD):Prop:=∀(f:Addr) (O:List Addr) (σ:St) (ss:SS) (H:Hp) (ds:List D) (vs:List V) (Q:VK),SlD K f O σ H ss->Rps K f O H ds vs->o ds (λd=>∀ v H',Ex f H H'->Rp K f O H' d v->Q v H')->r vs H Q
theorem dB.ok(hr:RC X.K r o)(h:PE X e (M6 r (LA X.K t))):PE X e (LE X.K (dB o m t)):=h.weak λσ H Q ⟨f,O,ss,S,q⟩ =>
 ⟨f,O,ss,S,t.mono (λds q vs H1 e1 r1=>hr f O σ ss H1 ds vs Q (S.ex e1) r1 (m (λd q v H' e r=>q v H' (e1.trans e) r) q)) q⟩
def RB(X:Cx)(g:Value)(o:BD):Prop:=∃ r,CallR X g r/\RC X.K r o
theorem CallR.or2(h:CallR X g r)(h':CallR X g r'):CallR X g (λxs H Q=>r xs H Q\/r' xs H Q):=λpins s σ H xs us Q I rx q=>q.elim (h pins s σ H xs us Q I rx) (h' pins s σ H xs us Q I rx)
def bLen:BD
 | [.lst l],Q=>Q (.int l.length)
 | [.tup l],Q=>Q (.int l.length)
 | [.str z],Q=>z.length<=sizeLine/\Q (.int z.length)
 | _,_=>False
def bAbs:BD
 | [.int i],Q=>Q (.int (if i<0 then -i else i))
 | _,_=>False
def bAll:BD
 | [.lst l],Q=>∃ bs:List Bool,l=bs.map D.bl/\Q (.bl (bs.all id))
 | _,_=>False
def bAny:BD
 | [.lst l],Q=>∃ bs:List Bool,l=bs.map D.bl/\Q (.bl (bs.any id))
 | _,_=>False
def bSum:BD
 | [.lst l],Q=>∃ ns:List Int,l=ns.map D.int/\Q (.int ns.sum)
 | [.tup l],Q=>∃ ns:List Int,l=ns.map D.int/\Q (.int ns.sum)
 | _,_=>False
def bMax:BD
 | [.int i,.int j],Q=>Q (.int (if j > i then j else i))
 | [.lst l],Q=>∃ ns:List Int,l=ns.map D.int/\ns≠[]/\∀ M,M∈ns->(∀ a∈ns,a<=M)->Q (.int M)
 | _,_=>False
def bInt:BD
 | [.int i],Q=>Q (.int i)
 | [.bl k],Q=>Q (.int (if k then 1 else 0))
 | _,_=>False
def bList:BD
 | [.lst l],Q=>Q (.lst l)
 | [.tup l],Q=>Q (.lst l)
 | _,_=>False
def bTuple:BD
 | [.lst l],Q=>Q (.tup l)
 | [.tup l],Q=>Q (.tup l)
 | _,_=>False
end Dp
set_option maxHeartbeats 1000000
set_option maxHeartbeats 1000000
set_option maxHeartbeats 1000000
namespace Dp
open PySem L2
variable{K:Frag}{f:Addr}{O O':List Addr}{H H':Hp}{X:Cx}{σ:St}{ss:SS}{a b c:Expr}{ta tb tc:TEd}{tA tB:TTd}{pos:Pos}
theorem Rps.one(h:Rps K f O H [d] vs):∃ v,vs=[v]/\Rp K f O H d v:=by
 obtain⟨v,r,e,h1,h2⟩:=h;cases (show r=[] from h2);exact⟨v,e,h1⟩
theorem Rps.two(h:Rps K f O H [d,d'] vs):∃ v v',vs=[v,v']/\Rp K f O H d v/\Rp K f O H d' v':=by
 obtain⟨v,r,e,h1,h2⟩:=h;obtain⟨w,e2,h3⟩:=Rps.one h2;subst e2;exact⟨v,w,e,h1,h3⟩
theorem bLen.mono:∀{ds Q Q'},(∀ d,Q d->Q' d)->bLen ds Q->bLen ds Q':=by
 intro ds Q Q' h;unfold bLen;split <;> first|exact h _|exact λq=>⟨q.1,h _ q.2⟩|exact id
theorem bAbs.mono:∀{ds Q Q'},(∀ d,Q d->Q' d)->bAbs ds Q->bAbs ds Q':=by
 intro ds Q Q' h;unfold bAbs;split <;> first|exact h _|exact id
theorem bAll.mono:∀{ds Q Q'},(∀ d,Q d->Q' d)->bAll ds Q->bAll ds Q':=by
 intro ds Q Q' h;unfold bAll;split <;> first|exact fun⟨bs,e,q⟩=>⟨bs,e,h _ q⟩|exact id
theorem bAny.mono:∀{ds Q Q'},(∀ d,Q d->Q' d)->bAny ds Q->bAny ds Q':=by
 intro ds Q Q' h;unfold bAny;split <;> first|exact fun⟨bs,e,q⟩=>⟨bs,e,h _ q⟩|exact id
theorem bSum.mono:∀{ds Q Q'},(∀ d,Q d->Q' d)->bSum ds Q->bSum ds Q':=by
 intro ds Q Q' h;unfold bSum;split <;> first|exact fun⟨bs,e,q⟩=>⟨bs,e,h _ q⟩|exact id
theorem bMax.mono:∀{ds Q Q'},(∀ d,Q d->Q' d)->bMax ds Q->bMax ds Q':=by
 intro ds Q Q' h;unfold bMax;split <;> first|exact h _|exact fun⟨bs,e,n,q⟩=>⟨bs,e,n,λM m l=>h _ (q M m l)⟩|exact id
theorem bInt.mono:∀{ds Q Q'},(∀ d,Q d->Q' d)->bInt ds Q->bInt ds Q':=by
 intro ds Q Q' h;unfold bInt;split <;> first|exact h _|exact id
theorem bList.mono:∀{ds Q Q'},(∀ d,Q d->Q' d)->bList ds Q->bList ds Q':=by
 intro ds Q Q' h;unfold bList;split <;> first|exact h _|exact id
theorem bTuple.mono:∀{ds Q Q'},(∀ d,Q d->Q' d)->bTuple ds Q->bTuple ds Q':=by
 intro ds Q Q' h;unfold bTuple;split <;> first|exact h _|exact id
theorem El:RB X (.builtin "len") bLen:=by
 refine⟨_,CallR.or2 (JQ X.K) zZ,λf O σ ss H ds vs Q S r h=>?_⟩;unfold bLen at h;split at h
 ·obtain⟨v,rfl,p,xs,rfl,_,h1,h2⟩:=Rps.one r;refine .inl ⟨p,xs,rfl,.inl (SqL.of h1),?_⟩;rw[h2.len];exact h _ H (Ex.refl S.fl) rfl
 ·obtain⟨v,rfl,p,xs,rfl,h1,h2⟩:=Rps.one r;refine .inl ⟨p,xs,rfl,.inr h1,?_⟩;rw[h2.len];exact h _ H (Ex.refl S.fl) rfl
 ·obtain⟨v,rfl,e⟩:=Rps.one r;cases e;exact .inr ⟨_,rfl,h.1,h.2 _ H (Ex.refl S.fl) rfl⟩
 ·exact h.elim
theorem Jk:RB X (.builtin "abs") bAbs:=by
 refine⟨_,FX,λf O σ ss H ds vs Q S r h=>?_⟩;unfold bAbs at h;split at h
 ·obtain⟨v,rfl,e⟩:=Rps.one r;cases e;exact⟨_,rfl,h _ H (Ex.refl S.fl) rfl⟩
 ·exact h.elim
theorem Jj(hc:X.calm=true):RB X (.builtin "all") bAll:=by
 refine⟨_,NN X.K hc,λf O σ ss H ds vs Q S r h=>?_⟩;unfold bAll at h;split at h
 ·obtain⟨bs,rfl,h⟩:=h;obtain⟨v,rfl,p,xs,rfl,_,h1,h2⟩:=Rps.one r;cases h2.bls;exact⟨p,bs,rfl,SqL.of h1,h _ H (Ex.refl S.fl) rfl⟩
 ·exact h.elim
theorem Ji(hc:X.calm=true):RB X (.builtin "any") bAny:=by
 refine⟨_,NM X.K hc,λf O σ ss H ds vs Q S r h=>?_⟩;unfold bAny at h;split at h
 ·obtain⟨bs,rfl,h⟩:=h;obtain⟨v,rfl,p,xs,rfl,_,h1,h2⟩:=Rps.one r;cases h2.bls;exact⟨p,bs,rfl,SqL.of h1,h _ H (Ex.refl S.fl) rfl⟩
 ·exact h.elim
theorem M9(K:Frag)(hc:X.calm=true:=by rfl)(hK:X.K=K:=by rfl):CallR X (.builtin "sum") (λxs H Q=>∃ p,∃ ns:List Int,xs=[.ref p]/\SqT K H p (ns.map V.int)/\Q (.int ns.sum) H):=by
 subst hK;intro pins s σ H xs us Q I rv h;obtain⟨p,ns,rfl,hp,q⟩:=h;obtain⟨u,rfl,ru⟩:=rv.one;cases ru;obtain⟨its,rv',pl,_⟩:=I.tuple hp;obtain⟨ys,e1,e2⟩:=vC rv';subst e1;have hl:s.heap.IsTuple p (intItems ys.toArray):=by
  have:intItems ys.toArray=(ys.map (λp=>Value.int p.1 p.2)).toArray:=by simp[intItems]
  rw[this];exact pl
 refine PySem.W.ktm_sumG (I.ok.hd hc) hl λh' tk t' hk=>?_;refine⟨.int _,H,I.kept (t':=tk) hk,⟨t',rfl⟩,?_⟩;have:preSum (numAt ys.toArray) ys.toArray.size=ns.sum:=by
  have e:numAt ys.toArray=λi=>ns.getD i 0:=by
   funext i;rw[numAt_eq,← e2]
  have l:ys.toArray.size=ns.length:=by rw[← e2];simp
  rw[e,l,wZ ns _ (aq _),bE]
 rw[this];exact q
theorem Jf(hc:X.calm=true):RB X (.builtin "sum") bSum:=by
 refine⟨_,CallR.or2 (Na X.K hc) (M9 X.K hc),λf O σ ss H ds vs Q S r h=>?_⟩;unfold bSum at h;split at h
 ·obtain⟨bs,rfl,h⟩:=h;obtain⟨v,rfl,p,xs,rfl,_,h1,h2⟩:=Rps.one r;cases h2.ints;exact .inl ⟨p,bs,rfl,SqL.of h1,h _ H (Ex.refl S.fl) rfl⟩
 ·obtain⟨bs,rfl,h⟩:=h;obtain⟨v,rfl,p,xs,rfl,h1,h2⟩:=Rps.one r;cases h2.ints;exact .inr ⟨p,bs,rfl,h1,h _ H (Ex.refl S.fl) rfl⟩
 ·exact h.elim
theorem Jg(hc:X.calm=true):RB X (.builtin "max") bMax:=by
 refine⟨_,CallR.or2 (DF hc) (Nu X.K hc),λf O σ ss H ds vs Q S r h=>?_⟩;unfold bMax at h;split at h
 ·obtain⟨v,v',rfl,e1,e2⟩:=Rps.two r;cases e1;cases e2;exact .inl ⟨_,_,rfl,h _ H (Ex.refl S.fl) rfl⟩
 ·obtain⟨bs,rfl,n,h⟩:=h;obtain⟨v,rfl,p,xs,rfl,_,h1,h2⟩:=Rps.one r;cases h2.ints;exact .inr ⟨p,bs,rfl,SqL.of h1,n,λM m l=>h M m l _ H (Ex.refl S.fl) rfl⟩
 ·exact h.elim
theorem Jh:RB X (.type "int") bInt:=by
 refine⟨_,DG,λf O σ ss H ds vs Q S r h=>?_⟩;unfold bInt at h;split at h
 ·obtain⟨v,rfl,e⟩:=Rps.one r;cases e;exact .inl ⟨_,rfl,h _ H (Ex.refl S.fl) rfl⟩
 ·obtain⟨v,rfl,e⟩:=Rps.one r;cases e;exact .inr ⟨_,rfl,h _ H (Ex.refl S.fl) rfl⟩
 ·exact h.elim
theorem Gz:RB X (.type "list") bList:=by
 refine⟨_,Bs X.K,λf O σ ss H ds vs Q S r h=>?_⟩;unfold bList at h;split at h
 ·obtain⟨v,rfl,p,xs,rfl,_,h1,h2⟩:=Rps.one r;exact⟨p,xs,rfl,.inl (SqL.of h1),λl hl=>h _ _ (S.new hl _) (S.lst hl h2)⟩
 ·obtain⟨v,rfl,p,xs,rfl,h1,h2⟩:=Rps.one r;exact⟨p,xs,rfl,.inr h1,λl hl=>h _ _ (S.new hl _) (S.lst hl h2)⟩
 ·exact h.elim
theorem Ek:RB X (.type "tuple") bTuple:=by
 refine⟨_,Gk X.K,λf O σ ss H ds vs Q S r h=>?_⟩;unfold bTuple at h;split at h
 ·obtain⟨v,rfl,p,xs,rfl,_,h1,h2⟩:=Rps.one r;exact⟨p,xs,rfl,.inl ⟨SqL.of h1,λl hl=>h _ _ (S.new hl _) (S.tup hl h2)⟩⟩
 ·obtain⟨v,rfl,p,xs,rfl,h1,h2⟩:=Rps.one r;exact⟨p,xs,rfl,.inr ⟨h1,h _ H (Ex.refl S.fl) ⟨p,xs,rfl,h1,h2⟩⟩⟩
 ·exact h.elim
structure BB where
 run:BD
 mono:∀{ds Q Q'},(∀ d,Q d->Q' d)->run ds Q->run ds Q'
inductive Ty where
 | int|bool|tuple|list|str
def Ty.nm:Ty->String
 | .int => "int" | .bool => "bool" | .tuple => "tuple" | .list => "list" | .str => "str"
def N5:Ty->D->Option Bool
 | _,.fl=>none
 | _,.exn _ _ _=>none
 | _,.dct _ _=>none
 | .int,.int _=>some true | .int,.bl _=>some true | .bool,.bl _=>some true | .tuple,.tup _=>some true | .list,.lst _=>some true | .str,.str _=>some true
 | _,_=>some false
def tyTab:List (Str×Ty):=[("int",.int),("bool",.bool),("tuple",.tuple),("list",.list),("str",.str)]
def A2(x:Str):Option Ty:=tyTab.lookup x
def rF(y:Ty)(t:TEd):TEd:=⟨λss Q=>t.run ss λd=>match N5 y d with|some b=>Q (.bl b)|none=>False,λ{ss Q Q'} h q=>t.mono (λd q=>by
 revert q;split
 ·exact h _
 ·exact id) q⟩
theorem CY(B:Bl X.mg)(h:A2 x=some y):X.mg x=none/\x ≠ "__name__" /\ (x == ("__debug__" : Str))=false/\bootBuiltins x=some (.type y.nm):=by
 have m:=tQ h;unfold tyTab at m;rcases ao.mp m with e|m
 ·cases e;exact⟨B.int,by decide,by decide,F5⟩
 rcases ao.mp m with e|m
 ·cases e;exact⟨B.bool,by decide,by decide,HI⟩
 rcases ao.mp m with e|m
 ·cases e;exact⟨B.tuple,by decide,by decide,AS⟩
 rcases ao.mp m with e|m
 ·cases e;exact⟨B.list,by decide,by decide,xK⟩
 rcases ao.mp m with e|m
 ·cases e;exact⟨B.str,by decide,by decide,Kd⟩
 cases m
theorem JY{y:Ty}{d:D}{v:V}{b:Bool}(h:N5 y d=some b)(r:Rp K f O H d v):∃ t,NR K H v t/\PySem.W.kitOne K t (.type y.nm)=some b:=by
 cases d;case non=>cases (show v=_ from r);cases y <;> cases h <;> exact⟨_,.inl .non,rfl⟩
 case bl=>cases (show v=_ from r);cases y <;> cases h <;> exact⟨_,.inl (.bl _),rfl⟩
 case int=>cases (show v=_ from r);cases y <;> cases h <;> exact⟨_,.inl (.int _),rfl⟩
 case str=>cases (show v=_ from r);cases y <;> cases h <;> exact⟨_,.inl (.str _),rfl⟩
 case tup =>
  obtain⟨a,xs,rfl,h1,h2⟩:=r;cases y <;> cases h <;> exact⟨_,.inr (.inl ⟨a,xs,rfl,h1,rfl⟩),rfl⟩
 case lst =>
  obtain⟨a,xs,rfl,_,h1,h2⟩:=r;cases y <;> cases h <;> exact⟨_,.inr (.inr ⟨a,xs,rfl,SqL.of h1,rfl⟩),rfl⟩
 case fl=>cases y <;> cases h
 case exn=>cases y <;> cases h
 case dct=>cases y <;> cases h
theorem rF.ok(B:Bl X.mg)(hy:A2 x=some y)(hg:Gl X "isinstance")(hx:Gl X x)(ha:PE X a (LE X.K ta))(hs:∀ es,starEach (a::es) X.env=(false,eval a X.env)::starEach es X.env):PE X (.Call (.Name "isinstance" p) [a,.Name x p2] [] pos) (LE X.K (rF y ta)):=by
 obtain⟨h1,h2,h3,h4⟩:=CY B hy;refine (ww (p:=p) (pos:=pos) (OF X.K) hg B.isinstance yB (sT ha (sT (GM (v:=.ty y.nm) (pos:=p2) hx h1 h4 rfl h2 h3) pa_nil rfl) (hs _)) (by decide) (by decide) (hs _) rfl).weak λσ H Q ⟨f,O,ss,S,q⟩=>⟨f,O,ss,S,ta.mono (λd q v H1 e r=>?_) q⟩;revert q;split
 ·rename_i b eb;intro q;obtain⟨t,t1,t2⟩:=JY eb r;exact⟨v,y.nm,t,b,rfl,t1,t2,q _ H1 e rfl⟩
 ·exact False.elim
def oz(i:Nat):TEd:=⟨λss Q=>match ss[i]? with|some (.val d)=>bLen [d] Q|some (.own l)=>Q (.int l.length)|_=>False,λ{ss Q Q'} h q=>by
 revert q;split
 ·exact bLen.mono h
 ·exact h _
 ·exact id⟩
theorem oz.ok(hg:Gl X "len")(hm:X.mg "len" = none)(ha:PE X a (vc i))(hs:starEach [a] X.env=[(false,eval a X.env)]):PE X (.Call (.Name "len" p) [a] [] pos) (LE X.K (oz i)):=by
 obtain⟨r,h1,h2⟩:=El (X:=X);refine (ww (p:=p) (pos:=pos) (CallR.or2 h1 (JQ X.K)) hg hm BR (sT ha pa_nil hs) (by decide) (by decide) hs rfl).weak λσ H Q ⟨f,O,ss,S,q⟩=>?_;have q:(match ss[i]? with|some (.val d)=>bLen [d] (λd=>∀ v H',Ex f H H'->Rp X.K f O H' d v->Q v H')|some (.own l)=>(∀ v H',Ex f H H'->Rp X.K f O H' (.int l.length) v->Q v H')|_=>False):=q;split at q
 ·rename_i d e;obtain⟨v,w1,w2⟩:=S.val i d e;exact⟨v,w1,.inl (h2 f O σ ss H [d] [v] Q S ⟨v,[],rfl,w2,rfl⟩ q)⟩
 ·rename_i l e;obtain⟨p0,xs,w1,w2,w3,w4,w5⟩:=S.own i l e;refine⟨_,w1,.inr ⟨p0,xs,rfl,.inl (SqL.of w4),?_⟩⟩;rw[w5.len];exact q _ H (Ex.refl S.fl) rfl
 ·exact q.elim
structure SpB where
 n:Nat
 run:NT
 mono:∀{ds Q Q'},(∀ d,Q d->Q' d)->run ds Q->run ds Q'
def SpB.of(n:Nat){α:Type}(pre:α->List D->Prop)(post:α->D->Prop):SpB:=⟨n,λds Q=>∃ x,pre x ds/\∀ d,post x d->Q d,λh ⟨x,p,q⟩=>⟨x,p,λd r=>h _ (q d r)⟩⟩
def ge(s:SpB)(t:TAd):TEd:=⟨λss Q=>t.run ss λds=>ds.length=s.n/\s.run ds Q,λh q=>t.mono (λds q=>⟨q.1,s.mono h q.2⟩) q⟩
theorem ge.ok(h:PE X e (Al (AW X.K s.n s.run) [] E0 (LA X.K t))):PE X e (LE X.K (ge s t)):=h.weak λσ H Q ⟨f,O,ss,S,q⟩ =>
 ⟨f,O,ss,S,t.mono (λds q vs H1 e1 r1=>by
  have S1:=S.ex e1;refine⟨by rw[cu,r1.len];exact q.1,f,O,ds,S1.fl,S1.fO,S1.al,S1.lO,by rw[cu];exact r1,?_⟩;exact s.mono (λd q v H' e r=>q v H' (e1.trans e) r) q.2) q⟩
end Dp
namespace Dp
open PySem L2
variable{K:Frag}{f:Addr}{O O':List Addr}{H H':Hp}{X:Cx}{σ:St}{ss:SS}{a b c:Expr}{ta tb tc:TEd}{tA tB:TTd}{pos:Pos}
mutual
theorem Rp.moved(e:∀ a∈O',a∈O\/H a=none)(k:Kp O H H')(hO:∀ b∈O,∃ xs,H b=some (.lst xs)):∀{d:D} {v:V},Rp K f O H d v->Rp K f O' H' d v
 | .non,_,h=>h
 | .bl _,_,h=>h
 | .int _,_,h=>h
 | .str _,_,h=>h
 | .fl,_,h=>h
 | .tup l,v,h=>by
  obtain⟨a,xs,e1,h1,h2⟩:=h;exact⟨a,xs,e1,h1.kp k hO,Rps.moved e k hO h2⟩
 | .lst l,v,h=>by
  obtain⟨a,xs,e1,n,h1,h2⟩:=h;refine⟨a,xs,e1,λz=>?_,k a _ n h1,Rps.moved e k hO h2⟩;rcases e a z with q|q
  ·exact n q
  ·rw[h1] at q;cases q
 | .exn C x l,v,h=>by
  obtain⟨a,us,e1,h1,h2⟩:=h;exact⟨a,us,e1,h1.kp k hO,Rps.moved e k hO h2⟩
 | .dct ks l,v,h=>by
  obtain⟨a,us,e1,h1,h2,h3⟩:=h;exact⟨a,us,e1,k a _ (λz=>by obtain⟨xs,q⟩:=hO a z;rw[q] at h1;cases h1) h1,h2,Rps.moved e k hO h3⟩
theorem Rps.moved(e:∀ a∈O',a∈O\/H a=none)(k:Kp O H H')(hO:∀ b∈O,∃ xs,H b=some (.lst xs)):∀{ds:List D} {vs:List V},Rps K f O H ds vs->Rps K f O' H' ds vs
 | [],_,h=>h
 | d::ds,_,h=>by
  obtain⟨v,r,e1,h1,h2⟩:=h;exact⟨v,r,e1,Rp.moved e k hO h1,Rps.moved e k hO h2⟩
end
structure ItD (K:Frag)(f:Addr)(O:List Addr)(J:It)(H1:Hp)(ds:List D):Prop where
 go:∀ H' i,Kp O H1 H'->i<ds.length->J.go i H'
 yld:∀ O' H' i x H'',(∀ a∈O',a∈O\/H1 a=none)->f∈O'->(∀ a∈O',∃ xs,H' a=some (.lst xs))->Kp O H1 H'->Fl H' f->i<ds.length->J.yld i H' x H''->∃ d,ds[i]? = some d/\Ex f H' H''/\Rp K f O' H'' d x
 stop:∀ H',Kp O H1 H'->J.stop ds.length H'
def LI(K:Frag)(t:TAd):TI:=λσ H R=>∃ f O ss,SlD K f O σ H ss/\t.run ss λds=>∀ J H1,Ex f H H1->ItD K f O J H1 ds->R J H1
theorem _root_.L2.PI.weak(h:PI X tg e t)(w:∀ σ H Q,t' σ H Q->t σ H Q):PI X tg e t':=λpins s σ H Q I q=>h pins s σ H Q I (w σ H Q q)
def itemsD:D->(List D->Prop)->Prop
 | .lst l,Q=>Q l
 | .tup l,Q=>Q l
 | _,_=>False
theorem itemsD.mono(h:∀ d,Q d->Q' d):itemsD d Q->itemsD d Q':=by
 cases d <;> first|exact h _|exact id
def gD(t:TEd):TAd:=⟨λss Q=>t.run ss λd=>itemsD d Q,λh q=>t.mono (λd q=>itemsD.mono h q) q⟩
theorem gD.ok(h:PE X a (LE X.K ta)):PI X tg a (LI X.K (gD ta)):=(OB X.K h).weak λσ H R ⟨f,O,ss,S,q⟩=>⟨f,O,ss,S,ta.mono (λd q v H1 e r=>by
 have S1:=S.ex e;cases d <;> first|exact False.elim q|skip
 ·rename_i l;obtain⟨p,xs,rfl,h1,h2⟩:=r;refine⟨p,rfl,.inr ⟨⟨xs,h1⟩,q _ H1 e ⟨λH' i k hi=>?_,λO' H' i x H'' hO hf al k F hi y=>?_,λH' k=>?_⟩⟩⟩
  ·obtain⟨v,hv,_⟩:=h2.get (show l[i]? = some l[i] by simp[hi]);exact⟨xs,v,h1.kp k S1.al,hv⟩
  ·obtain⟨rfl,y⟩:=y;obtain⟨v,hv,r⟩:=h2.get (show l[i]? = some l[i] by simp[hi]);have:=y xs (h1.kp k S1.al);rw[hv] at this;cases this;exact⟨l[i],by simp[hi],Ex.refl F,r.moved hO k S1.al⟩
  ·exact⟨xs,h1.kp k S1.al,by rw[h2.len];exact aq _⟩
 ·rename_i l;obtain⟨p,xs,rfl,n,h1,h2⟩:=r;refine⟨p,rfl,.inl ⟨⟨xs,SqL.of h1⟩,q _ H1 e ⟨λH' i k hi=>?_,λO' H' i x H'' hO hf al k F hi y=>?_,λH' k=>?_⟩⟩⟩
  ·obtain⟨v,hv,_⟩:=h2.get (show l[i]? = some l[i] by simp[hi]);exact⟨xs,v,SqL.of (k p _ n h1),hv⟩
  ·obtain⟨rfl,y⟩:=y;obtain⟨v,hv,r⟩:=h2.get (show l[i]? = some l[i] by simp[hi]);have:=y xs (SqL.of (k p _ n h1));rw[hv] at this;cases this;exact⟨l[i],by simp[hi],Ex.refl F,r.moved hO k S1.al⟩
  ·exact⟨xs,SqL.of (k p _ n h1),by rw[h2.len];exact aq _⟩) q⟩
def uO(lo:Int)(n:Nat):List D:=(List.range n).map λi=>.int (lo+(i:Nat))
theorem td:(uO lo n).length=n:=by simp[uO]
theorem Af(h:i<n):(uO lo n)[i]? = some (.int (lo+(i:Nat))):=by simp[uO,h]
theorem ug(h:(uO lo n)[i]? = some d):i<n/\d = .int (lo+(i:Nat)):=by
 have:=(af.mp h).1;rw[td] at this;rw[Af this] at h;exact⟨this,(Option.some.inj h).symm⟩
theorem Cw:ItD K f O (Mo lo n) H1 (uO lo n):=by
 refine⟨λH' i k hi=>?_,λO' H' i x H'' hO hf al k F hi y=>?_,λH' k=>?_⟩
 ·rw[td] at hi;exact hi
 ·obtain⟨rfl,rfl⟩:=y;rw[td] at hi;exact⟨_,Af hi,Ex.refl F,rfl⟩
 ·rw[td];exact aq _
def rngD:D->(List D->Prop)->Prop
 | .int j,Q => -(2^62)<=j/\j<2^62/\Q (uO 0 j.toNat)
 | _,_=>False
theorem rngD.mono(h:∀ d,Q d->Q' d):rngD d Q->rngD d Q':=by
 cases d <;> first|exact λq=>⟨q.1,q.2.1,h _ q.2.2⟩|exact id
def rngD2:D->D->(List D->Prop)->Prop
 | .int i,.int j,Q=>(-(2^62)<=i/\i<2^62 /\ -(2^62)<=j/\j<2^62)/\Q (uO i (j-i).toNat)
 | _,_,_=>False
theorem rngD2.mono(h:∀ d,Q d->Q' d):rngD2 d d' Q->rngD2 d d' Q':=by
 cases d <;> cases d' <;> first|exact λq=>⟨q.1,h _ q.2⟩|exact id
def jB(t:TEd):TAd:=⟨λss Q=>t.run ss λd=>rngD d Q,λh q=>t.mono (λd q=>rngD.mono h q) q⟩
def ng(t u:TEd):TAd:=⟨λss Q=>t.run ss λd=>u.run ss λd'=>rngD2 d d' Q,λh q=>t.mono (λd q=>u.mono (λd' q=>rngD2.mono h q) q) q⟩
theorem jB.ok(hg:Gl X "range")(hm:X.mg "range" = none)(ha:PE X a (LE X.K ta))(hs:starEach [a] X.env=[(false,eval a X.env)]):PI X tg (.Call (.Name "range" p) [a] [] pos) (LI X.K (jB ta)) :=
 (Df (p:=p) (pos:=pos) hg hm (sT ha pa_nil hs) hs).weak λσ H R ⟨f,O,ss,S,q⟩=>⟨f,O,ss,S,ta.mono (λd q v H1 e r=>by
  cases d <;> first|exact False.elim q|skip
  cases (show v=_ from r);exact⟨_,rfl,q.1,q.2.1,q.2.2 _ H1 e Cw⟩) q⟩
theorem ng.ok(hg:Gl X "range")(hm:X.mg "range" = none)(ha:PE X a (LE X.K ta))(hb:PE X b (LE X.K tb))(hs:starEach [a,b] X.env=[(false,eval a X.env),(false,eval b X.env)])(hs2:starEach [b] X.env=[(false,eval b X.env)]):PI X tg (.Call (.Name "range" p) [a,b] [] pos) (LI X.K (ng ta tb)) :=
 (De (p:=p) (pos:=pos) hg hm (sT ha (sT hb pa_nil hs2) (by rw[hs,hs2])) hs hs2).weak λσ H R ⟨f,O,ss,S,q⟩=>⟨f,O,ss,S,ta.mono (λd q v H1 e r=>⟨f,O,ss,S.ex e,tb.mono (λd' q v' H2 e2 r'=>by
  cases d <;> cases d' <;> first|exact False.elim q|skip
  cases (show v=_ from r);cases (show v'=_ from r');exact⟨_,_,rfl,q.1,q.2 _ H2 (e.trans e2) Cw⟩) q⟩) q⟩
def Sub(σ:St)(ss:SS)(σ':St)(ss':SS):Prop:=∀(i:Nat) (l:List D),ss'[i]? = some (SD.own l)->ss[i]? = some (SD.own l)/\σ'[i]? = σ[i]?
theorem Sub.refl:Sub σ ss σ ss:=λ_ _ h=>⟨h,rfl⟩
theorem Sub.trans(h:Sub σ ss σ1 s1)(k:Sub σ1 s1 σ2 s2):Sub σ ss σ2 s2:=λi l q=>by
 obtain⟨q1,e1⟩:=k i l q;obtain⟨q2,e2⟩:=h i l q1;exact⟨q2,e1.trans e2⟩
def Agr(T:List Nat)(σ σ':St):Prop:=σ'.length=σ.length/\∀ j,j ∉ T->σ'[j]? = σ[j]?
theorem Agr.refl:Agr T σ σ:=⟨rfl,λ_ _=>rfl⟩
theorem Agr.set(h:i∈T):Agr T σ (σ.set i v):=⟨bj,λj n=>aH (by rintro rfl;exact n h)⟩
theorem Agr.trans(a:Agr T σ σ1)(b:Agr T σ1 σ2):Agr T σ σ2:=⟨b.1.trans a.1,λj n=>(b.2 j n).trans (a.2 j n)⟩
def LG(K:Frag)(t:TGd):TG:=λv σ H Q=>∃ f O ss d,SlD K f O σ H ss/\Rp K f O H d v/\t.run d ss λss'=>∀ σ' H',Ex f H H'->SlD K f O σ' H' ss'->Sub σ ss σ' ss'->Agr t.tg σ σ'->Q σ' H'
theorem SlD.set(S:SlD K f O σ H ss)(r:Rp K f O H d v):SlD K f O (σ.set i (some v)) H (ss.set i (.val d)) where
 fl:=S.fl
 fO:=S.fO
 al:=S.al
 lO:=S.lO
 len:=by rw[bj,bj,S.len]
 val:=λj d' h=>by
  by_cases z:i=j
  ·subst z;rw[aR] at h;rw[if_pos rfl] at h;split at h
   ·cases h;rename_i l;exact⟨v,by rw[aR,if_pos rfl,if_pos (by rw[← S.len];exact l)],r⟩
   ·cases h
  ·rw[aH z] at h ⊢;exact S.val j d' h
 own:=λj l h=>by
  by_cases z:i=j
  ·subst z;rw[aR] at h;rw[if_pos rfl] at h;split at h <;> cases h
  ·rw[aH z] at h ⊢;exact S.own j l h
theorem Sub.set:Sub σ ss (σ.set i v) (ss.set i (.val d)):=λj l h=>by
 by_cases z:i=j
 ·subst z;rw[aR] at h;rw[if_pos rfl] at h;split at h <;> cases h
 ·rw[aH z] at h ⊢;exact⟨h,rfl⟩
def gNm(i:Nat):TGd:=⟨[i],λd ss Q=>Q (ss.set i (.val d)),λh q=>h _ q⟩
theorem _root_.L2.PG.weak(h:PG X e t)(w:∀ v σ H Q,t' v σ H Q->t v σ H Q):PG X e t':=λpins s σ H v u Q I r q=>h pins s σ H v u Q I r (w _ σ H Q q)
end Dp
namespace Dp
open PySem L2
variable{K:Frag}{f:Addr}{O O':List Addr}{H H':Hp}{X:Cx}{σ:St}{ss:SS}{a b c:Expr}{ta tb tc:TEd}{tA tB:TTd}{pos:Pos}
theorem gNm.ok{i:Nat}{e:Expr}(h:PG X e (yW i)):PG X e (LG X.K (gNm i)):=h.weak λv σ H Q ⟨f,O,ss,d,S,r,q⟩=>q _ H (Ex.refl S.fl) (S.set r) Sub.set (Agr.set av)
def xR(ss:SS):List Nat->List D->SS
 | i::is,d::ds=>xR (ss.set i (.val d)) is ds
 | _,_=>ss
def gsAll:List Nat->IG
 | []=>LR
 | i::is=>Iw (yW i) (gsAll is)
def vD(σ:St):List Nat->List V->St
 | i::is,v::vs=>vD (σ.set i (some v)) is vs
 | _,_=>σ
theorem gsAll.run:∀{is:List Nat} {vs:List V} {σ:St},vs.length=is.length->Q (vD σ is vs) H->gsAll is vs σ H Q
 | [],[],σ,_,q=>⟨rfl,q⟩
 | [],_::_,_,l,_=>by cases l
 | _::_,[],_,l,_=>by cases l
 | i::is,v::vs,σ,l,q=>⟨v,vs,rfl,gsAll.run (by simpa using l) q⟩
theorem SlD.all:∀{is:List Nat} {vs:List V} {ds:List D} {σ:St} {ss:SS},SlD K f O σ H ss->Rps K f O H ds vs->SlD K f O (vD σ is vs) H (xR ss is ds)
 | [],_,_,_,_,S,_=>S
 | i::is,[],[],_,_,S,_=>S
 | i::is,vs,[],_,_,S,r=>by cases (show vs=[] from r);exact S
 | i::is,vs,d::ds,σ,ss,S,r=>by
  obtain⟨v,r',e,h1,h2⟩:=r;subst e;show SlD K f O (vD (σ.set i (some v)) is r') H (xR (ss.set i (.val d)) is ds);exact SlD.all (S.set h1) h2
theorem Sub.all:∀{is:List Nat} {vs:List V} {ds:List D} {σ:St} {ss:SS},vs.length=ds.length->Sub σ ss (vD σ is vs) (xR ss is ds)
 | [],_,_,_,_,_=>Sub.refl
 | i::is,[],[],_,_,_=>Sub.refl
 | i::is,_::_,[],_,_,l=>by cases l
 | i::is,[],_::_,_,_,l=>by cases l
 | i::is,v::vs,d::ds,σ,ss,l=>Sub.trans Sub.set (Sub.all (by simpa using l))
theorem Agr.all:∀{is T:List Nat} {vs:List V} {σ:St},(∀ i∈is,i∈T)->Agr T σ (vD σ is vs)
 | [],_,_,_,_=>Agr.refl
 | _::_,_,[],_,_=>Agr.refl
 | i::is,T,v::vs,σ,h=>Agr.trans (Agr.set (h i av)) (Agr.all λj hj=>h j (aw _ hj))
def gTp(is:List Nat):TGd:=⟨is,λd ss Q=>match d with | .tup l=>l.length=is.length/\Q (xR ss is l)|_=>False,λ{d ss Q Q'} h q=>by
 revert q;cases d <;> first|exact id|exact λq=>⟨q.1,h _ q.2⟩⟩
theorem gTp.ok{is:List Nat}{e:Expr}(h:PG X e (J2 X.K is.length (gsAll is))):PG X e (LG X.K (gTp is)):=h.weak λv σ H Q ⟨f,O,ss,d,S,r,q⟩=>by
 cases d <;> first|exact False.elim q|skip
 rename_i l;obtain⟨p,xs,rfl,h1,h2⟩:=r;exact⟨p,xs,rfl,h1,h2.len.trans q.1,gsAll.run (h2.len.trans q.1) (q.2 _ H (Ex.refl S.fl) (S.all h2) (Sub.all h2.len) (Agr.all λ_ h=>h))⟩
def wI(l:List D):List D:=(List.range l.length).map λi=>.tup [.int ((i:Nat):Int),l.getD i .non]
theorem tq:(wI l).length=l.length:=by simp[wI]
theorem xk(h:i<l.length):(wI l)[i]? = some (.tup [.int ((i:Nat):Int),l.getD i .non]):=by simp[wI,h]
theorem yY{i:Nat}{d:D}(h:(wI l)[i]? = some d):∃ x,l[i]? = some x/\d = .tup [.int ((i:Nat):Int),x]:=by
 have hi:=(af.mp h).1;rw[tq] at hi;rw[xk hi] at h;refine⟨l[i],by simp[hi],(Option.some.inj h).symm.trans ?_⟩;rw[aj,ah hi];rfl
def iW(t:TEd):TAd:=⟨λss Q=>t.run ss λd=>itemsD d λl=>Q (wI l),λh q=>t.mono (λd q=>itemsD.mono (λl q=>h _ q) q) q⟩
def nh(t:TEd):TAd:=⟨λss Q=>t.run ss λd=>itemsD d λl=>Q l.reverse,λh q=>t.mono (λd q=>itemsD.mono (λl q=>h _ q) q) q⟩
def t8(hide:List Nat)(ss:SS):SS:=hide.foldl (λs i=>s.set i .no) ss
theorem SlD.blank(S:SlD K f O σ H ss):SlD K f O (σ.set i o) H (ss.set i .no) where
 fl:=S.fl
 fO:=S.fO
 al:=S.al
 lO:=S.lO
 len:=by rw[bj,bj,S.len]
 val:=λj d' h=>by
  by_cases z:i=j
  ·subst z;rw[aR] at h;rw[if_pos rfl] at h;split at h <;> cases h
  ·rw[aH z] at h ⊢;exact S.val j d' h
 own:=λj l h=>by
  by_cases z:i=j
  ·subst z;rw[aR] at h;rw[if_pos rfl] at h;split at h <;> cases h
  ·rw[aH z] at h ⊢;exact S.own j l h
theorem SlD.hide:∀{hide:List Nat} {σ:St} {ss:SS},SlD K f O σ H ss->SlD K f O (wC hide σ) H (t8 hide ss)
 | [],_,_,S=>S
 | i::r,σ,ss,S=>SlD.hide (hide:=r) (S.blank (i:=i) (o:=none))
theorem yi:∀{hide:List Nat} {ss:SS} {i:Nat},(i∈hide\/ss[i]? = some SD.no\/ss[i]? = none)->(t8 hide ss)[i]? = some SD.no\/(t8 hide ss)[i]? = none
 | [],ss,i,h=>by
  rcases h with h|h
  ·cases h
  ·exact h
 | j::r,ss,i,h=>by
  refine yi (hide:=r) (ss:=ss.set j .no) ?_;by_cases z:j=i
  ·subst z;right;rw[aR,if_pos rfl];split
   ·exact .inl rfl
   ·exact .inr rfl
  ·rw[aH z];rcases h with h|h
   ·rcases ao.mp h with q|q
    ·exact absurd q.symm z
    ·exact .inl q
   ·exact .inr h
theorem SlD.agr{T:List Nat}{σ':St}(S:SlD K f O σ H ss)(h:Agr T σ σ')(hT:∀ i∈T,ss[i]? = some SD.no\/ss[i]? = none):SlD K f O σ' H ss where
 fl:=S.fl
 fO:=S.fO
 al:=S.al
 lO:=S.lO
 len:=S.len.trans h.1.symm
 val:=λj d q=>by
  rw[h.2 j λz=>?_]
  ·exact S.val j d q
  ·rcases hT j z with w|w <;> rw[w] at q <;> cases q
 own:=λj d q=>by
  rw[h.2 j λz=>?_]
  ·exact S.own j d q
  ·rcases hT j z with w|w <;> rw[w] at q <;> cases q
def gP:TTd:=⟨λ_ Q=>Q true,λh q=>h _ q⟩
def compD(ds:List D)(s0:SS)(g:TGd)(c:TTd)(e:TEd)(Q:D->Prop):Prop:=ds.length<=sizeLine/\∃ I:Nat->List D->Prop,I 0 [] /\
 (∀ i d ys,ds[i]? = some d->ys.length<=i->I i ys->g.run d s0 λs1=>c.run s1 λk=>if k=true then e.run s1 λy=>I (i+1) (ys++[y]) else I (i+1) ys)/\∀ ys,ys.length<=ds.length->I ds.length ys->Q (.lst ys)
theorem compD.mono{ds:List D}{s0:SS}{g:TGd}{c:TTd}{e:TEd}{Q Q':D->Prop}(h:∀ d,Q d->Q' d):compD ds s0 g c e Q->compD ds s0 g c e Q':=fun⟨l,I,q0,q1,q2⟩=>⟨l,I,q0,q1,λys l i=>h _ (q2 ys l i)⟩
def gB(it:TAd)(hide:List Nat)(g:TGd)(c:TTd)(e:TEd):TEd:=⟨λss Q=>it.run ss λds=>compD ds (t8 hide ss) g c e Q,λh q=>it.mono (λds q=>compD.mono h q) q⟩
theorem compD.ok{J:It}{ds:List D}{hide:List Nat}{g:TGd}{c:TTd}{e:TEd}{Q:VK}{H1:Hp}(S:SlD K f O σ H1 ss)(hg:∀ i∈g.tg,i∈hide)(D0:ItD K f O J H1 ds)(h:compD ds (t8 hide ss) g c e λd=>∀ v H',Ex f H1 H'->Rp K f O H' d v->Q v H') :
  Gd J (LG K g) (LT K c) (LE K e) (wC hide σ) Q H1:=by
 obtain⟨hl,I,q0,q1,q2⟩:=h;refine⟨λk m τ ys H=>∃ yd,SlD K f O τ H (t8 hide ss)/\Rps K f O H yd ys/\yd.length<=k/\I k yd/\m=ds.length-k/\k<=ds.length/\Ex f H1 H,⟨_,[],S.hide,rfl,aq _,q0,rfl,aL _,Ex.refl S.fl⟩,?_⟩;rintro k m τ ys H ⟨yd,S1,r1,l1,i1,rfl,k1,e1⟩;have kp:=e1.kp S.fO;rcases aJ k ds.length with hk|hk
 ·refine .inr ⟨D0.go H k kp hk,by rw[r1.len];omega,λx H' y=>?_⟩;obtain⟨d,ed,e2,rd⟩:=D0.yld O H k x H' (λa z=>.inl z) S.fO S1.al kp S1.fl hk y;have S2:=S1.ex e2;refine⟨f,O,_,d,S2,rd,g.mono (λs1 q τ2 H2 e3 S3 _ ag=>?_) (q1 k d yd ed l1 i1)⟩;have S3':SlD K f O τ2 H2 (t8 hide ss):=(S2.ex e3).agr ag λi hi=>yi (.inl (hg i hi));refine⟨f,O,s1,S3,c.mono (λb q H3 e4=>?_) q⟩;cases b with
  | true =>
   refine⟨f,O,s1,S3.ex e4,e.mono (λdy q v H4 e5 rv=>?_) q⟩;have e14:=e2.trans (e3.trans (e4.trans e5));exact⟨ds.length-(k+1),by omega,yd++[dy],(S3'.ex e4).ex e5,(S1.ups e14 r1).append ⟨v,[],rfl,rv,rfl⟩,by rw[ai];simp;omega,q,rfl,hk,e1.trans e14⟩
  | false =>
   have e14:=e2.trans (e3.trans e4);exact⟨ds.length-(k+1),by omega,yd,S3'.ex e4,S1.ups e14 r1,by omega,q,rfl,hk,e1.trans e14⟩
 ·have ek:k=ds.length:=by omega
  subst ek;exact .inl ⟨D0.stop H kp,λp hp=>q2 yd l1 i1 _ _ (e1.trans (S1.new hp _)) (S1.lst hp r1)⟩
theorem gB.ok{scope:Scope}{hide:List Nat}{it:TAd}{g:TGd}{c:TTd}{e:TEd}{tg iter elt:Expr}{ifs:List Expr}(hc:X.calm=true)(Sc:CompS X.N X.env.scope scope hide)(hi:PI X tg iter (LI X.K it))
  (hg:∀ s2 H2 fp pins C,PG (uY X scope s2 H2 fp pins C) tg (LG X.K g)) (ht:∀ s2 H2 fp pins C,PTs (uY X scope s2 H2 fp pins C) ifs (LT X.K c)) (he:∀ s2 H2 fp pins C,PE (uY X scope s2 H2 fp pins C) elt (LE X.K e))
  (hs:∀ x,foldedSetIterable iter X.env x=pure x) (hh:∀ i∈g.tg,i∈hide):PE X (.ListComp elt [⟨tg,iter,ifs,0⟩] scope pos) (LE X.K (gB it hide g c e)) :=
 (Cf (pos:=pos) hc Sc hi hg ht he hs).weak λσ H Q ⟨f,O,ss,S,q⟩=>⟨f,O,ss,S,it.mono (λds q J H1 e1 D0=>compD.ok (S.ex e1) hh D0 (compD.mono (λd q v H' e r=>q v H' (e1.trans e) r) q)) q⟩
end Dp
namespace Dp
open PySem L2
variable{K:Frag}{f:Addr}{O O':List Addr}{H H':Hp}{X:Cx}{σ:St}{ss:SS}{a b:Expr}{ta tb tc:TEd}{tA tB:TTd}{pos:Pos}
theorem iW.ok{es:List Expr}{kk:Nat}{ps p:Pos}(hg:Gl X "enumerate")(hm:X.mg "enumerate" = none)(ha:PE X a (LE X.K ta))(hs:starEach [a] X.env=[(false,eval a X.env)]):PI X (.Tuple es kk ps) (.Call (.Name "enumerate" p) [a] [] pos) (LI X.K (iW ta)) :=
 (GH (p:=p) (pos:=pos) X.K hg hm (sT ha pa_nil hs) rfl hs).weak λσ H R ⟨f,O,ss,S,q⟩=>⟨f,O,ss,S,ta.mono (λd q v H1 e r=>by
  have S1:=S.ex e;cases d <;> first|exact False.elim q|skip
  ·rename_i l;obtain⟨p,xs,rfl,h1,h2⟩:=r;refine⟨p,rfl,.inr ⟨⟨xs,h1⟩,q _ H1 e ⟨λH' i k hi=>?_,λO' H' i x H'' hO hf al k F hi y=>?_,λH' k=>?_⟩⟩⟩
   ·rw[tq] at hi;obtain⟨v,hv,_⟩:=h2.get (show l[i]? = some l[i] by simp[hi]);exact⟨xs,v,h1.kp k S1.al,hv⟩
   ·rw[tq] at hi;obtain⟨p',w,rfl,hp,rfl,y⟩:=y;obtain⟨v,hv,r⟩:=h2.get (show l[i]? = some l[i] by simp[hi]);have:=y xs (h1.kp k S1.al);rw[hv] at this;cases this;refine⟨_,xk hi,Ex.new F hp _,p',_,rfl,SqT.of sX,.int i,_,rfl,rfl,_,[],rfl,?_,rfl⟩;rw[aj,ah hi];exact (r.moved hO k S1.al).kp ((Ex.new F hp _).kp hf) al
   ·rw[tq];exact⟨xs,h1.kp k S1.al,by rw[h2.len];exact aq _⟩
  ·rename_i l;obtain⟨p,xs,rfl,n,h1,h2⟩:=r;refine⟨p,rfl,.inl ⟨⟨xs,SqL.of h1⟩,q _ H1 e ⟨λH' i k hi=>?_,λO' H' i x H'' hO hf al k F hi y=>?_,λH' k=>?_⟩⟩⟩
   ·rw[tq] at hi;obtain⟨v,hv,_⟩:=h2.get (show l[i]? = some l[i] by simp[hi]);exact⟨xs,v,SqL.of (k p _ n h1),hv⟩
   ·rw[tq] at hi;obtain⟨p',w,rfl,hp,rfl,y⟩:=y;obtain⟨v,hv,r⟩:=h2.get (show l[i]? = some l[i] by simp[hi]);have:=y xs (SqL.of (k p _ n h1));rw[hv] at this;cases this;refine⟨_,xk hi,Ex.new F hp _,p',_,rfl,SqT.of sX,.int i,_,rfl,rfl,_,[],rfl,?_,rfl⟩;rw[aj,ah hi];exact (r.moved hO k S1.al).kp ((Ex.new F hp _).kp hf) al
   ·rw[tq];exact⟨xs,SqL.of (k p _ n h1),by rw[h2.len];exact aq _⟩) q⟩
def LL(K:Frag)(ta:TA):TI:=λσ H R=>ta σ H λvs H1=>∃ a xs,vs=[.ref a] /\
 ((SqT K H1 a xs/\R ⟨λi H=>i<xs.length/\∃ ys x,SqT K H a ys/\ys.length=xs.length/\ys.reverse[i]? = some x,λi H x H'=>H'=H/\∀ xs,SqT K H a xs->xs.reverse[i]? = some x,λi H=>i=xs.length⟩ H1) \/
   (SqL K H1 a xs/\R ⟨λi H=>i<xs.length/\∃ ys x,SqL K H a ys/\ys.length=xs.length/\ys.reverse[i]? = some x,λi H x H'=>H'=H/\∀ xs,SqL K H a xs->xs.reverse[i]? = some x,λi H=>i=xs.length⟩ H1))
theorem GG{tg:Expr}{a:Expr}{ta:TA}{p pos:Pos}(hg:Gl X "reversed")(hm:X.mg "reversed" = none)(ha:PA X [a] ta)(hs:starEach [a] X.env=[(false,eval a X.env)]):PI X tg (.Call (.Name "reversed" p) [a] [] pos) (LL X.K ta):=by
 intro pins s σ H R I h;refine PyProof.Rows.Call_ (vy I hg hm PyProof.Rows.boot_reversed (PyProof.Rows.callWith_type1 (tz (ha pos pins s σ H _ I h) λus s1 ⟨vs,H1,I1,r1,q1⟩=>?_) hs rfl));obtain⟨l,xs,e,q1⟩:=q1;subst e;obtain⟨u,rfl,ru⟩:=Vals.one r1;cases ru;rcases q1 with⟨hq,q1⟩|⟨hq,q1⟩
 ·obtain⟨its,rv,pl,hz⟩:=I1.tuple hq;have hlen:=rv.length;have hn63:=t9;refine RV.FV (show s1.heap.IsTuple l its.toArray from pl) (by rw[ak];omega) λtk=>?_;have st:RV.Is (s1.heap.push { cls:=.type "reversed",data:=.fields #[.ref l,rawInt ((its.toArray.size:Int)-1)] }) s1.heap.objs.size l ((xs.length:Int)-1-((0:Nat):Int)):=⟨_,ηG _ rfl,rfl,by
   rw[ak,← hlen,show (xs.length:Int)-1-((0:Nat):Int)=(xs.length:Int)-1 by omega]⟩
  refine RV.yT st ?_;refine⟨_,[s1.heap.objs.size],_,_,H1,rfl,I1.kept (t':=tk) λb o e=>ηH _ e,DP xs.length l _,st,λb hb=>?_,q1⟩;rw[aC.mp hb];exact I1.fpOk (aq _) (I1.hok.fresh (aq _))
 ·obtain⟨its,rv,pl,hz⟩:=I1.list hq;have hlen:=rv.length;refine call_reversed_list pl.isList ?_;have st:(s1.heap.push (revObj l ((its.toArray.size:Int)-1))).IsRevIter s1.heap.objs.size l ((xs.length:Int)-1-((0:Nat):Int)):=⟨_,ηG _ rfl,rfl,by
   show Data.fields #[.ref l,rawInt ((its.toArray.size:Int)-1)]=_;rw[ak,← hlen,show (xs.length:Int)-1-((0:Nat):Int)=(xs.length:Int)-1 by omega]⟩
  refine wpAny_pyIter_revIter st ?_;refine⟨_,[s1.heap.objs.size],_,_,H1,rfl,I1.kept (t':=s1.toks) λb o e=>ηH _ e,CZ xs.length l _,st,λb hb=>?_,q1⟩;rw[aC.mp hb];exact I1.fpOk (aq _) (I1.hok.fresh (aq _))
theorem nh.ok{tg:Expr}{p:Pos}(hg:Gl X "reversed")(hm:X.mg "reversed" = none)(ha:PE X a (LE X.K ta))(hs:starEach [a] X.env=[(false,eval a X.env)]):PI X tg (.Call (.Name "reversed" p) [a] [] pos) (LI X.K (nh ta)) :=
 (GG (p:=p) (pos:=pos) hg hm (sT ha pa_nil hs) hs).weak λσ H R ⟨f,O,ss,S,q⟩=>⟨f,O,ss,S,ta.mono (λd q v H1 e r=>by
  have S1:=S.ex e;cases d <;> first|exact False.elim q|skip
  ·rename_i l;obtain⟨p,xs,rfl,h1,h2⟩:=r;refine⟨p,xs,rfl,.inl ⟨h1,q _ H1 e ⟨λH' i k hi=>?_,λO' H' i x H'' hO hf al k F hi y=>?_,λH' k=>?_⟩⟩⟩
   ·obtain⟨v,hv,_⟩:=h2.reverse.get (show l.reverse[i]? = some l.reverse[i] from ah hi);rw[bM] at hi;exact⟨by rw[h2.len];exact hi,xs,v,h1.kp k S1.al,rfl,hv⟩
   ·obtain⟨rfl,y⟩:=y;obtain⟨v,hv,r⟩:=h2.reverse.get (show l.reverse[i]? = some l.reverse[i] from ah hi);have:=y xs (h1.kp k S1.al);rw[hv] at this;cases this;exact⟨l.reverse[i],ah hi,Ex.refl F,r.moved hO k S1.al⟩
   ·rw[bM,h2.len]
  ·rename_i l;obtain⟨p,xs,rfl,n,h1,h2⟩:=r;refine⟨p,xs,rfl,.inr ⟨SqL.of h1,q _ H1 e ⟨λH' i k hi=>?_,λO' H' i x H'' hO hf al k F hi y=>?_,λH' k=>?_⟩⟩⟩
   ·obtain⟨v,hv,_⟩:=h2.reverse.get (show l.reverse[i]? = some l.reverse[i] from ah hi);rw[bM] at hi;exact⟨by rw[h2.len];exact hi,xs,v,SqL.of (k p _ n h1),rfl,hv⟩
   ·obtain⟨rfl,y⟩:=y;obtain⟨v,hv,r⟩:=h2.reverse.get (show l.reverse[i]? = some l.reverse[i] from ah hi);have:=y xs (SqL.of (k p _ n h1));rw[hv] at this;cases this;exact⟨l.reverse[i],ah hi,Ex.refl F,r.moved hO k S1.al⟩
   ·rw[bM,h2.len]) q⟩
structure Cs where
 f:Addr
 O:List Addr
 H:Hp
 S:List Addr
structure Kpc (c:Cs)(H:Hp):Prop where
 kp:∀ b o,c.H b=some o->b≠c.f->(b∈c.O\/b ∉ c.S)->H b=some o
 key:∀ l r,c.H c.f=some (.lst (.ref l::r))->∃ r',H c.f=some (.lst (.ref l::r'))
structure StR (K:Frag)(c:Cs)(O:List Addr)(σ:St)(H:Hp)(ss:SS):Prop where
 sl:SlD K c.f O σ H ss
 sub:∀ a∈c.O,a∈O
 kp:Kpc c H
 new:∀ a∈O,a∈c.S\/c.H a=none
 own:∀(i:Nat) (l:List D) (a:Addr),ss[i]? = some (SD.own l)->σ[i]? = some (some (V.ref a))->(c.H a=none\/a∈c.S)/\a ∉ c.O/\∀(j:Nat) (l':List D),ss[j]? = some (SD.own l')->σ[j]? = some (some (V.ref a))->j=i
variable{c:Cs}
theorem Kpc.ex(k:Kpc c H)(e:Ex c.f H H'):Kpc c H':=⟨λb o h n z=>e.sm.app b o n (k.kp b o h n z),λl r h=>by
 obtain⟨r',h1⟩:=k.key l r h;exact e.sm.key l r' h1⟩
theorem StR.ex(R:StR K c O σ H ss)(e:Ex c.f H H'):StR K c O σ H' ss:=⟨R.sl.ex e,R.sub,R.kp.ex e,R.new,R.own⟩
theorem StR.to(R:StR K c O σ H ss)(S:SlD K c.f O σ' H ss')(h:Sub σ ss σ' ss'):StR K c O σ' H ss':=⟨S,R.sub,R.kp,R.new,λi l a q e=>by
 obtain⟨q1,e1⟩:=h i l q;obtain⟨w1,w2,w3⟩:=R.own i l a q1 (e1.symm.trans e);refine⟨w1,w2,λj l' q' e'=>?_⟩;obtain⟨q2,e2⟩:=h j l' q';exact w3 j l' q2 (e2.symm.trans e')⟩
def frz1(i:Nat)(ss:SS):SS:=match ss[i]? with|some (.own l)=>ss.set i (.val (.lst l))|_=>ss
def frz(fz:List Nat)(ss:SS):SS:=fz.foldl (λs i=>frz1 i s) ss
theorem StR.frz1(R:StR K c O σ H ss):∃ O',StR K c O' σ H (frz1 i ss):=by
 unfold Dp.frz1;split
 ·rename_i l e;obtain⟨a,xs,h1,h2,h3,h4,h5⟩:=R.sl.own i l e;obtain⟨w1,w2,w3⟩:=R.own i l a e h1;have hs:∀ b∈O.filter (λb=>decide (b≠a)),b∈O:=λb hb=>(cr.mp hb).1;have hl:i<ss.length:=(af.mp e).1;have hlv:(σ.set i (some (V.ref a)))=σ:=by
   apply cU;intro j;by_cases z:i=j
   ·subst z;rw[aR,if_pos rfl,if_pos (by rw[← R.sl.len];exact hl),h1]
   ·rw[aH z]
  refine⟨O.filter (λb=>decide (b≠a)),⟨R.sl.fl,?_,λb hb=>R.sl.al b (hs b hb),λl r q z=>R.sl.lO l r q (hs _ z),by rw[bj];exact R.sl.len,λj d q=>?_,λj l' q=>?_⟩,λb hb=>?_,R.kp,λb hb=>R.new b (hs b hb),λj l' b q e'=>?_⟩
  ·exact cr.mpr ⟨R.sl.fO,by simpa using Ne.symm h3⟩
  ·by_cases z:i=j
   ·subst z;rw[aR,if_pos rfl,if_pos hl] at q;cases q;exact⟨_,h1,a,xs,rfl,λz=>by simpa using (cr.mp z).2,h4,h5.less hs⟩
   ·rw[aH z] at q;obtain⟨v,q1,q2⟩:=R.sl.val j d q;exact⟨v,q1,q2.less hs⟩
  ·by_cases z:i=j
   ·subst z;rw[aR,if_pos rfl,if_pos hl] at q;cases q
   ·rw[aH z] at q;obtain⟨b,ys,q1,q2,q3,q4,q5⟩:=R.sl.own j l' q;refine⟨b,ys,q1,cr.mpr ⟨q2,?_⟩,q3,q4,q5.less hs⟩;have:b≠a:=by
     rintro rfl;exact z (w3 j l' q q1).symm
    simpa using this
  ·have:b≠a:=by
    rintro rfl;exact w2 hb
   exact cr.mpr ⟨R.sub b hb,by simpa using this⟩
  ·by_cases z:i=j
   ·subst z;rw[aR,if_pos rfl,if_pos hl] at q;cases q
   ·rw[aH z] at q;obtain⟨p1,p2,p3⟩:=R.own j l' b q e';refine⟨p1,p2,λk l2 q2 e2=>?_⟩;by_cases z2:i=k
    ·subst z2;rw[aR,if_pos rfl,if_pos hl] at q2;cases q2
    ·rw[aH z2] at q2;exact p3 k l2 q2 e2
 ·exact⟨O,R⟩
theorem StR.frz:∀{fz:List Nat} {ss:SS} {O:List Addr},StR K c O σ H ss->∃ O',StR K c O' σ H (Dp.frz fz ss)
 | [],_,O,R=>⟨O,R⟩
 | i::fz,ss,O,R=>by
  obtain⟨O1,R1⟩:=R.frz1 (i:=i);exact StR.frz (fz:=fz) R1
structure Rt (K:Frag)(c:Cs)(H:Hp)(d:D)(v:V):Prop where
 fl:Fl H c.f
 kp:Kpc c H
 rp:Rp K c.f c.O H d v
theorem StR.rt(R:StR K c O σ H ss)(r:Rp K c.f O H d v):Rt K c H d v:=⟨R.sl.fl,R.kp,r.less R.sub⟩
def Cs.here(c:Cs)(H:Hp)(O:List Addr):Cs:=⟨c.f,c.O,H,O⟩
theorem StR.here(R:StR K c O σ H ss):StR K (c.here H O) O σ H ss:=⟨R.sl,R.sub,⟨λb o h _ _=>h,λl r h=>⟨r,h⟩⟩,λa h=>.inl h,λi l a q e=>by
 obtain⟨a',xs,h1,h2,_⟩:=R.sl.own i l q;rw[h1] at e;cases e;exact⟨.inr h2,(R.own i l a q h1).2⟩⟩
theorem Kpc.back(R:StR K c O1 σ H1 ss)(k:Kpc (c.here H1 O1) H):Kpc c H where
 kp:=λb o h n z=>by
  refine k.kp b o (R.kp.kp b o h n z) n ?_;rcases z with z|z
  ·exact .inl z
  ·refine .inr λy=>?_;rcases R.new b y with w|w
   ·exact z w
   ·rw[w] at h;cases h
 key:=λl r h=>by
  obtain⟨r',h1⟩:=R.kp.key l r h;exact k.key l r' h1
theorem StR.back(R:StR K c O1 σ1 H1 s1)(k:StR K (c.here H1 O1) O σ H ss):StR K c O σ H ss:=by
 have low:∀ a,a ∉ c.O->(a∈O1\/H1 a=none)->a∈c.S\/c.H a=none:=λa n z=>by
  rcases z with z|z
  ·exact R.new a z
  ·cases h:c.H a with
   | none=>exact .inr rfl
   | some o =>
    left;by_cases y:a∈c.S
    ·exact y
    ·exfalso;by_cases w:a=c.f
     ·subst w;obtain⟨xs,q⟩:=R.sl.fl.lst;rw[q] at z;cases z
     ·rw[R.kp.kp a o h w (.inr y)] at z;cases z
 refine⟨k.sl,k.sub,Kpc.back R k.kp,λa h=>?_,λi l a q e=>?_⟩
 ·by_cases z:a∈c.O
  ·rcases R.new a (R.sub a z) with w|w
   ·exact .inl w
   ·exact .inr w
  ·exact low a z (k.new a h)
 ·obtain⟨w1,w2,w3⟩:=k.own i l a q e;exact⟨(low a w2 w1.symm).symm,w2,w3⟩
theorem Rt.back(R:StR K c O1 σ1 H1 s1)(k:Rt K (c.here H1 O1) H d v):Rt K c H d v:=⟨k.fl,Kpc.back R k.kp,k.rp⟩
structure EndsD where
 nx:SS->Prop
 rt:D->Prop
 bk:SS->Prop
 ct:SS->Prop
structure EndsD.Le (E E':EndsD):Prop where
 nx:∀ s,E.nx s->E'.nx s
 rt:∀ d,E.rt d->E'.rt d
 bk:∀ s,E.bk s->E'.bk s
 ct:∀ s,E.ct s->E'.ct s
structure TSd where
 run:EndsD->SS->Prop
 mono:∀{E E' ss},E.Le E'->run E ss->run E' ss
def va(K:Frag)(c:Cs)(D:Ends):EndsD:=⟨λss=>∀ O σ H,StR K c O σ H ss->D.nx σ H,λd=>∀ v H,Rt K c H d v->D.rt v H,λss=>∀ O σ H,StR K c O σ H ss->D.bk σ H,λss=>∀ O σ H,StR K c O σ H ss->D.ct σ H⟩
def LS(K:Frag)(t:TSd):TS:=λD σ H=>∃ c O ss,StR K c O σ H ss/\t.run (va K c D) ss
theorem _root_.L2.PS.weak{st:Stmt}{t t':TS}(h:PS X st t)(w:∀ D σ H,t' D σ H->t D σ H):PS X st t':=λpins s σ H D I q=>h pins s σ H D I (w D σ H q)
theorem _root_.L2.PSs.weak{st:List Stmt}{t t':TS}(h:PSs X st t)(w:∀ D σ H,t' D σ H->t D σ H):PSs X st t':=λpins s σ H D I q=>h pins s σ H D I (w D σ H q)
theorem StR.le(R:StR K c O σ H ss)(h:t.run ss W)(hw:∀ d v H1,StR K c O σ H1 ss->Ex c.f H H1->Rp K c.f O H1 d v->W d->Q v H1):LE K t σ H Q :=
 ⟨c.f,O,ss,R.sl,t.mono (λd q v H1 e r=>hw d v H1 (R.ex e) e r q) h⟩
theorem StR.lt(R:StR K c O σ H ss)(h:t.run ss W)(hw:∀ d H1,StR K c O σ H1 ss->W d->Q d H1):LT K t σ H Q :=
 ⟨c.f,O,ss,R.sl,t.mono (λd q H1 e=>hw d H1 (R.ex e) q) h⟩
def gz:TSd:=⟨λE ss=>E.nx ss,λh q=>h.nx _ q⟩
theorem gz.nil:PSs X [] (LS X.K gz):=pss_nil.weak λD σ H ⟨c,O,ss,R,q⟩=>q O σ H R
theorem gz.pass:PS X (.Pass pos) (LS X.K gz):=ps_pass.weak λD σ H ⟨c,O,ss,R,q⟩=>q O σ H R
def rG:TSd:=⟨λE ss=>E.bk ss,λh q=>h.bk _ q⟩
theorem rG.ok:PS X (.Break pos) (LS X.K rG):=ps_break.weak λD σ H ⟨c,O,ss,R,q⟩=>q O σ H R
def rb:TSd:=⟨λE ss=>E.ct ss,λh q=>h.ct _ q⟩
theorem rb.ok:PS X (.Continue pos) (LS X.K rb):=ps_continue.weak λD σ H ⟨c,O,ss,R,q⟩=>q O σ H R
@[reducible] def EndsD.to(E:EndsD)(P:SS->Prop):EndsD:=⟨P,E.rt,E.bk,E.ct⟩
def dSq(t u:TSd):TSd:=⟨λE ss=>t.run (E.to (u.run E)) ss,λ{E E' ss} h q=>t.mono (E:=E.to (u.run E)) (E':=E'.to (u.run E')) ⟨λs q=>u.mono h q,h.rt,h.bk,h.ct⟩ q⟩
theorem dSq.ok{st:Stmt}{sts:List Stmt}{t u:TSd}(h:PS X st (LS X.K t))(g:PSs X sts (LS X.K u)):PSs X (st::sts) (LS X.K (dSq t u)):=(uk h g).weak λD σ H ⟨c,O,ss,R,q⟩ =>
 ⟨c,O,ss,R,t.mono (E:=(va X.K c D).to (u.run (va X.K c D))) ⟨λs q O' σ' H' R'=>⟨c,O',s,R',q⟩,λ_ q=>q,λ_ q=>q,λ_ q=>q⟩ q⟩
theorem dSq.one{st:Stmt}{t:TSd}(h:PS X st (LS X.K t)):PSs X [st] (LS X.K t):=uR h
def gr(fz:List Nat)(e:TEd):TSd:=⟨λE ss=>e.run (frz fz ss) E.rt,λh q=>e.mono h.rt q⟩
theorem gr.ok{fz:List Nat}(h:PE X a (LE X.K ta)):PS X (.Return (some a) pos) (LS X.K (gr fz ta)):=(zo h).weak λD σ H ⟨c,O,ss,R,q⟩=>by
 obtain⟨O',R⟩:=R.frz (fz:=fz);exact R.le q λd v H1 R1 _ r w=>w v H1 (R1.rt r)
def qR:TSd:=⟨λE ss=>E.rt .non,λh q=>h.rt _ q⟩
theorem qR.ok:PS X (.Return none pos) (LS X.K qR):=ps_retN.weak λD σ H ⟨c,O,ss,R,q⟩=>q .non H (R.rt rfl)
def dIf(fz:List Nat)(k:TTd)(t u:TSd):TSd:=⟨λE ss=>k.run (frz fz ss) λb=>if b=true then t.run E (frz fz ss) else u.run E (frz fz ss),λ{E E' ss} h q=>k.mono (λb q=>by
 revert q;cases b
 ·exact u.mono h
 ·exact t.mono h) q⟩
theorem dIf.ok{fz:List Nat}{st su:List Stmt}{t u:TSd}(hk:PT X a (LT X.K tA))(ht:PSs X st (LS X.K t))(hu:PSs X su (LS X.K u)):PS X (.If a st su pos) (LS X.K (dIf fz tA t u)):=(Aw hk ht hu).weak λD σ H ⟨c,O,ss,R,q⟩=>by
 obtain⟨O',R⟩:=R.frz (fz:=fz);refine R.lt q λb H1 R1 w=>?_;cases b
 ·exact⟨c,O',_,R1,w⟩
 ·exact⟨c,O',_,R1,w⟩
def gk(fz:List Nat)(g:TGd)(e:TEd):TSd:=⟨λE ss=>e.run (frz fz ss) λd=>g.run d (frz fz ss) E.nx,λh q=>e.mono (λd q=>g.mono h.nx q) q⟩
theorem StR.lg(R:StR K c O σ H ss)(r:Rp K c.f O H d v)(h:g.run d ss W)(hw:∀ ss' σ' H1,StR K c O σ' H1 ss'->W ss'->Q σ' H1):LG K g v σ H Q :=
 ⟨c.f,O,ss,d,R.sl,r,g.mono (λs q σ' H1 e S sb ag=>hw s σ' H1 ((R.ex e).to S sb) q) h⟩
theorem gk.ok{fz:List Nat}{tg:Expr}{g:TGd}(h:PE X a (LE X.K ta))(hg:PG X tg (LG X.K g))(hs:swapsWithSole [tg] a pos.line X.env=pure false)(hw:swappedStores [tg] a X.env=pure none)(h1:(assignEach [tg] X.env).map (·.2)=[assign tg X.env]):PS X (.Assign [tg] a pos) (LS X.K (gk fz g ta)):=(uS h hg hs hw h1).weak λD σ H ⟨c,O,ss,R,q⟩=>by
 obtain⟨O',R⟩:=R.frz (fz:=fz);exact R.le q λd v H1 R1 _ r w=>R1.lg r w λs' σ' H2 R2 w=>w O' σ' H2 R2
end Dp
namespace Dp
open PySem L2
variable{K:Frag}{f:Addr}{O O':List Addr}{H H':Hp}{X:Cx}{σ:St}{ss:SS}{a b:Expr}{ta tb tc:TEd}{tA tB:TTd}{pos:Pos}{c:Cs}
theorem sE.ok(hN:X.N.Nodup)(hi:X.N[i]? = some x)(hx:AZ X.env.scope x)(h:PE X a (LE X.K ta))(hs:swapsWith a (some (.Name x p')) pos.line X.env=pure false)(hf:X.fn x=true\/X.env.scope.names.lookup x=some .local) :
  PS X (.Assign [.Name x p'] a pos) (LS X.K (gk fz (gNm i) ta)):=(vv hN hi hx h hs hf).weak λD σ H ⟨c,O,ss,R,q⟩=>by
 obtain⟨O',R⟩:=R.frz (fz:=fz);exact R.le q λd v H1 R1 _ r w=>w O' _ H1 (R1.to (R1.sl.set r) Sub.set)
def jT(fz:List Nat)(i j:Nat)(a b:TEd):TSd:=⟨λE ss=>a.run (frz fz ss) λd=>b.run (frz fz ss) λd'=>E.nx (((frz fz ss).set i (.val d)).set j (.val d')),λh q=>a.mono (λd q=>b.mono (λd' q=>h.nx _ q) q) q⟩
theorem jT.weak{fz:List Nat}{i j:Nat}{D:Ends}{ta tb:TEd}(h:LS X.K (jT fz i j ta tb) D σ H):IS i j (yD (LE X.K ta) (yD (LE X.K tb) Gs)) D σ H:=by
 obtain⟨c,O,ss,R,q⟩:=h;obtain⟨O',R⟩:=R.frz (fz:=fz);refine R.le q λd v H1 R1 e1 r w=>R1.le w λd' v' H2 R2 e2 r' w=>?_;have S:=(R2.sl.set (i:=i) (R1.sl.up e2 r)).set (i:=j) r';exact⟨v,v',rfl,w O' _ H2 (R2.to S (Sub.trans Sub.set Sub.set))⟩
def iR(k:TTd)(t:TSd):TSd:=⟨λE ss=>∃(I:SS->Prop) (μ:SS->Nat),I ss/\∀ s,I s->k.run s λb=>if b=true then t.run ⟨λs'=>I s'/\μ s'<μ s,E.rt,E.nx,λs'=>I s'/\μ s'<μ s⟩ s else E.nx s,λ{E E' ss} h ⟨I,μ,q0,q⟩=>⟨I,μ,q0,λs i=>k.mono (λb q=>by
 revert q;cases b
 ·exact h.nx _
 ·exact t.mono ⟨λ_ q=>q,h.rt,h.nx,λ_ q=>q⟩) (q s i)⟩⟩
theorem iR.ok(hp:PassesOwn (model X.prog X.w) X.A X.env X.xe)(hk:PT X a (LT X.K tA))(ht:PSs X st (LS X.K t)):PS X (.While a st [] pos) (LS X.K (iR tA t)):=(Ev hp hk ht).weak λD σ H ⟨c,O,ss,R,I,μ,q0,q⟩=>by
 refine⟨λm σ H=>∃ O s,StR X.K c O σ H s/\I s/\μ s=m,⟨_,O,ss,R,q0,rfl⟩,?_⟩;rintro m σ H ⟨O,s,R,i0,rfl⟩;refine R.lt (q s i0) λb H1 R1 w=>?_;cases b with
 | false=>exact w O σ H1 R1
 | true =>
  refine⟨λσ' H'=>∃ O' s',StR X.K c O' σ' H' s'/\I s'/\μ s'<μ s,λσ' H' ⟨O',s',R',i',l⟩=>⟨_,l,O',s',R',i',rfl⟩,c,O,s,R1,?_⟩;refine t.mono ?_ w;exact⟨λs' q O' σ' H' R'=>⟨O',s',R',q⟩,λ_ q=>q,λ_ q=>q,λs' q O' σ' H' R'=>⟨O',s',R',q⟩⟩
def ia(fz:List Nat)(it:TAd)(g:TGd)(t:TSd):TSd:=⟨λE ss=>it.run (frz fz ss) λds=>∃ I:Nat->SS->Prop,I 0 (frz fz ss)/\(∀ i d s,ds[i]? = some d->I i s->g.run d s λs1=>t.run ⟨I (i+1),E.rt,E.nx,I (i+1)⟩ s1)/\∀ s,I ds.length s->E.nx s,λ{E E' ss} h q=>it.mono (λds ⟨I,q0,q1,q2⟩=>⟨I,q0,λi d s e i0=>g.mono (λs1 q=>t.mono (E:=⟨I (i+1),E.rt,E.nx,I (i+1)⟩) (E':=⟨I (i+1),E'.rt,E'.nx,I (i+1)⟩) ⟨λ_ q=>q,h.rt,h.nx,λ_ q=>q⟩ q) (q1 i d s e i0),λs i0=>h.nx _ (q2 s i0)⟩) q⟩
theorem ia.ok(hp:PassesOwn (model X.prog X.w) X.A X.env X.xe)(hc:X.calm=true)(hi:PI X tg iter (LI X.K it))(hg:PG X tg (LG X.K g))(ht:PSs X st (LS X.K t))(hs:∀ x,foldedSetIterable iter X.env x=pure x) :
  PS X (.For tg iter st [] pos) (LS X.K (ia fz it g t)):=(Jr hp hc hi hg ht hs).weak λD σ H ⟨c,O,ss,R,q⟩=>by
 obtain⟨O,R⟩:=R.frz (fz:=fz);refine⟨c.f,O,_,R.sl,it.mono (λds q J H1 e1 D0=>?_) q⟩;obtain⟨I,q0,q1,q2⟩:=q;have R1:=R.ex e1;refine⟨λi m σ H=>∃ O2 s,StR X.K (c.here H1 O) O2 σ H s/\I i s/\m=ds.length-i/\i<=ds.length,⟨_,O,_,R1.here,q0,rfl,aL _⟩,?_⟩;rintro i m σ H ⟨O2,s,R2,i0,rfl,hi⟩;have kp:Kp O H1 H:=λb o n h=>R2.kp.kp b o h (λz=>n (by rw[z];exact R.sl.fO)) (.inr n);rcases aJ i ds.length with hk|hk
 ·refine .inr ⟨D0.go H i kp hk,λσ' H'=>∃ O3 s',StR X.K (c.here H1 O) O3 σ' H' s'/\I (i+1) s',λσ' H' ⟨O3,s',R3,i3⟩=>⟨ds.length-(i+1),by omega,O3,s',R3,i3,rfl,hk⟩,λx H' y=>?_⟩;obtain⟨d,ed,e2,rd⟩:=D0.yld O2 H i x H' R2.new R2.sl.fO R2.sl.al kp R2.sl.fl hk y;refine (R2.ex e2).lg rd (q1 i d s ed i0) λs1 σ' H3 R3 w=>?_;refine⟨c.here H1 O,O2,s1,R3,?_⟩;refine t.mono ?_ w;exact⟨λs' q O' σ' H' R'=>⟨O',s',R',q⟩,λd q v H r=>q v H (Rt.back R1 r),λs' q O' σ' H' R'=>q O' σ' H' (StR.back R1 R'),λs' q O' σ' H' R'=>⟨O',s',R',q⟩⟩
 ·have ek:i=ds.length:=by omega
  subst ek;exact .inl ⟨D0.stop H kp,q2 s i0 O2 σ H (StR.back R1 R2)⟩
def LF(K:Frag)(t:TEd):TE:=λσ H Q=>∃ f O ss,SlD K f O σ H ss/\t.run ss λd=>∃ l,d = .lst l/\∀ p xs H',Ex f H H'->H p=none->H' p=some (.lst xs)->Rps K f (p::O) H' l xs->Q (.ref p) H'
theorem StR.mkOwn{l:List D}{p:Addr}{xs:List V}{i:Nat}(R:StR K c O σ H ss)(e:Ex c.f H H')(hp:H p=none)(hx:H' p=some (.lst xs))(r':Rps K c.f (p::O) H' l xs):StR K c (p::O) (σ.set i (some (.ref p))) H' (ss.set i (.own l)):=by
 have mv:∀ b∈p::O,b∈O\/H b=none:=λb hb=>by
  rcases ao.mp hb with z|z
  ·exact .inr (z ▸ hp)
  ·exact .inl z
 have kp:=e.kp R.sl.fO;have np:p ∉ O:=R.sl.nO hp;have npf:p≠c.f:=λz=>np (z ▸ R.sl.fO);have low:c.H p=none\/p∈c.S:=by
  cases h:c.H p with
  | none=>exact .inl rfl
  | some o =>
   right;by_cases y:p∈c.S
   ·exact y
   ·rw[R.kp.kp p o h npf (.inr y)] at hp;cases hp
 have hne:∀(j:Nat) (l':List D) (b:Addr),ss[j]? = some (SD.own l')->σ[j]? = some (some (V.ref b))->b≠p:=λj l' b q1 q2=>by
  obtain⟨b',ys,w1,w2,_⟩:=R.sl.own j l' q1;rw[w1] at q2;cases q2;rintro rfl;exact np w2
 refine⟨⟨e.fl,aw _ R.sl.fO,λb hb=>?_,λl r q=>?_,by rw[bj,bj];exact R.sl.len,λj d q=>?_,λj l' q=>?_⟩,λb hb=>aw _ (R.sub b hb),R.kp.ex e,λb hb=>?_,λj l' b q eb=>?_⟩
 ·rcases ao.mp hb with z|z
  ·exact⟨xs,z ▸ hx⟩
  ·exact (R.sl.ex e).al b z
 ·intro z;rcases ao.mp z with w|w
  ·subst w;obtain⟨l0,ns,i,c',a',b',f1,f2,f3⟩:=R.sl.fl;obtain⟨r',h2⟩:=e.sm.key _ _ f1;rw[h2] at q;cases q;rw[hp] at f2;cases f2
  ·exact (R.sl.ex e).lO _ _ q w
 ·by_cases z:i=j
  ·subst z;rw[aR,if_pos rfl] at q;split at q <;> cases q
  ·rw[aH z] at q ⊢;obtain⟨v,w1,w2⟩:=R.sl.val j d q;exact⟨v,w1,w2.moved mv kp R.sl.al⟩
 ·by_cases z:i=j
  ·subst z;rw[aR,if_pos rfl] at q;split at q
   ·rename_i hl;cases q;exact⟨p,xs,by rw[aR,if_pos rfl,if_pos (by rw[← R.sl.len];exact hl)],av,npf,hx,r'⟩
   ·cases q
  ·rw[aH z] at q ⊢;obtain⟨b,ys,w1,w2,w3,w4,w5⟩:=R.sl.own j l' q;exact⟨b,ys,w1,aw _ w2,w3,e.sm.app b _ w3 w4,w5.moved mv kp R.sl.al⟩
 ·rcases ao.mp hb with z|z
  ·subst z;exact low.symm
  ·exact R.new b z
 ·by_cases z:i=j
  ·subst z;rw[aR,if_pos rfl] at eb;split at eb
   ·cases eb;refine⟨low,λw=>np (R.sub _ w),λj' l2 q2 e2=>?_⟩;by_cases z2:i=j'
    ·exact z2.symm
    ·rw[aH z2] at q2 e2;exact absurd rfl (hne j' l2 _ q2 e2)
   ·cases eb
  ·rw[aH z] at q eb;obtain⟨w1,w2,w3⟩:=R.own j l' b q eb;refine⟨w1,w2,λj' l2 q2 e2=>?_⟩;by_cases z2:i=j'
   ·subst z2;rw[aR,if_pos rfl] at e2;split at e2
    ·cases e2;exact absurd rfl (hne j l' _ q eb)
    ·cases e2
   ·rw[aH z2] at q2 e2;exact w3 j' l2 q2 e2
theorem StR.wr{l l':List D}{i:Nat}{a:Addr}{xs:List V}(R:StR K c O σ H ss)(hs:ss[i]? = some (SD.own l))(ha:σ[i]? = some (some (V.ref a)))(r:Rps K c.f O H l' xs):StR K c O σ (tJ H a (.lst xs)) (ss.set i (.own l')):=by
 obtain⟨a',ys,h1,h2,h3,h4,h5⟩:=R.sl.own i l hs;rw[h1] at ha;cases ha;obtain⟨w1,w2,w3⟩:=R.own i l a hs h1;have hl:i<ss.length:=(af.mp hs).1;have kp:Kp O H (tJ H a (.lst xs)):=λb o n q=>by
  rw[sS (by rintro rfl;exact n h2)];exact q
 have fl:Fl (tJ H a (.lst xs)) c.f:=by
  obtain⟨l0,ns,i,c',a',b',f1,f2,f3⟩:=R.sl.fl;refine⟨l0,ns,i,c',a',b',by rw[sS (Ne.symm h3)];exact f1,?_,f3⟩;rw[sS (by rintro rfl;exact R.sl.lO _ _ f1 h2)];exact f2
 have gt:∀{j:Nat} {s:SD},(ss.set i (.own l'))[j]? = some s->(j=i/\s = .own l')\/(j≠i/\ss[j]? = some s):=λ{j s} q=>by
  by_cases z:i=j
  ·subst z;rw[aR,if_pos rfl,if_pos hl] at q;exact .inl ⟨rfl,(Option.some.inj q).symm⟩
  ·rw[aH z] at q;exact .inr ⟨Ne.symm z,q⟩
 refine⟨⟨fl,R.sl.fO,λb hb=>?_,λl r q=>by rw[sS (Ne.symm h3)] at q;exact R.sl.lO l r q,by rw[bj];exact R.sl.len,λj d q=>?_,λj l2 q=>?_⟩,R.sub,⟨λb o q n z=>?_,λl r q=>?_⟩,R.new,λj l2 b q e=>?_⟩
 ·by_cases z:b=a
  ·subst z;exact⟨xs,sX⟩
  ·rw[sS z];exact R.sl.al b hb
 ·rcases gt q with⟨_,z⟩|⟨_,q⟩
  ·cases z
  ·obtain⟨v,q1,q2⟩:=R.sl.val j d q;exact⟨v,q1,q2.kp kp R.sl.al⟩
 ·rcases gt q with⟨rfl,z⟩|⟨z,q⟩
  ·cases z;exact⟨a,xs,h1,h2,h3,sX,r.kp kp R.sl.al⟩
  ·obtain⟨b,zs,q1,q2,q3,q4,q5⟩:=R.sl.own j l2 q;have nb:b≠a:=by
    rintro rfl;exact z (w3 j l2 q q1)
   exact⟨b,zs,q1,q2,q3,by rw[sS nb];exact q4,q5.kp kp R.sl.al⟩
 ·have nb:b≠a:=by
   rintro rfl;rcases z with z|z
   ·exact w2 z
   ·rcases w1 with w|w
    ·rw[w] at q;cases q
    ·exact z w
  rw[sS nb];exact R.kp.kp b o q n z
 ·obtain⟨r',q1⟩:=R.kp.key l r q;exact⟨r',by rw[sS (Ne.symm h3)];exact q1⟩
 ·have q':∃ l3,ss[j]? = some (SD.own l3):=by
   rcases gt q with⟨rfl,z⟩|⟨z,q⟩
   ·exact⟨l,hs⟩
   ·exact⟨l2,q⟩
  obtain⟨l3,q'⟩:=q';obtain⟨p1,p2,p3⟩:=R.own j l3 b q' e;refine⟨p1,p2,λj' l4 q4 e4=>?_⟩;rcases gt q4 with⟨rfl,z⟩|⟨z,q5⟩
  ·exact p3 _ l hs e4
  ·exact p3 j' l4 q5 e4
end Dp
namespace Dp
open PySem L2
variable{K:Frag}{f:Addr}{O O':List Addr}{H H':Hp}{X:Cx}{σ:St}{ss:SS}{a b:Expr}{ta tb tc:TEd}{tA tB:TTd}{pos:Pos}{c:Cs}
theorem Rps.skip(S:SlD K f O σ H1 ss)(hp:H1 p=none)(r:Rps K f O H1 ds vs):Rps K f (p::O) (tJ H1 p o) ds vs :=
 r.moved (λa z=>by
  rcases ao.mp z with w|w
  ·exact .inr (by rw[w];exact hp)
  ·exact .inl w) ((S.new hp o).kp S.fO) S.al
theorem Ex.low(e:Ex f H H1)(n:p≠f)(h:H1 p=none):H p=none:=e.sm.free n h
theorem gv.okF(h:PA X es (LA X.K t)):PE X (.List es pos) (LF X.K (gv t)):=(zr h).weak λσ H Q ⟨f,O,ss,S,q⟩ =>
 ⟨f,O,ss,S,t.mono (λds q vs H1 e r=>by
  obtain⟨hl,l,el,q⟩:=q;cases el;refine⟨by rw[r.len];exact hl,λp hp=>?_⟩;have S1:=S.ex e;exact q p vs _ (e.trans (S1.new hp _)) (e.low (λz=>S1.nO hp (z ▸ S1.fO)) hp) sX (Rps.skip S1 hp r)) q⟩
theorem sK.okF(ha:PE X a (LE X.K ta))(hb:PE X b (LE X.K tb)):PE X (.BinOp a .Mult b pos) (LF X.K (gg .Mult ta tb)):=(tK (pos:=pos) ER ha hb).weak λσ H Q ⟨f,O,ss,S,q⟩=>by
 refine⟨f,O,ss,S,ta.mono (λdx q v1 H1 e1 r1=>?_) q⟩;refine⟨f,O,ss,S.ex e1,tb.mono (λdy q v2 H2 e2 r2=>?_) q⟩;have S2:=(S.ex e1).ex e2;have r1:=(S.ex e1).up e2 r1;cases dx <;> cases dy <;> first|(exact False.elim q)|skip
 ·obtain⟨_,l,el,_⟩:=q;cases el
 ·obtain⟨_,_,_,l,el,_⟩:=q;cases el
 ·rename_i la k;obtain⟨q1,q2,q3,l,el,q⟩:=q;cases el;obtain⟨p0,xs,rfl,n1,h1,h2⟩:=r1;cases (show v2=_ from r2);refine⟨p0,k,xs,rfl,rfl,h1,q1,q2,by rw[h2.len];exact q3,λp hp=>?_⟩;have e12:=e1.trans e2;exact q p _ _ (e12.trans (S2.new hp _)) (e12.low (λz=>S2.nO hp (z ▸ S2.fO)) hp) sX (Rps.skip S2 hp (h2.flat _))
def jR(t:TEd):TEd:=⟨λss Q=>t.run ss λd=>itemsD d λl=>Q (.lst l),λh q=>t.mono (λd q=>itemsD.mono (λl q=>h _ q) q) q⟩
theorem jR.okF(hg:Gl X "list")(hm:X.mg "list" = none)(ha:PE X a (LE X.K ta))(hs:starEach [a] X.env=[(false,eval a X.env)]):PE X (.Call (.Name "list" p) [a] [] pos) (LF X.K (jR ta)) :=
 (xb (p:=p) (pos:=pos) (Bs X.K) hg hm xK (sT ha pa_nil hs) (by decide) (by decide) hs rfl).weak λσ H Q ⟨f,O,ss,S,q⟩=>⟨f,O,ss,S,ta.mono (λd q v H1 e r=>by
  have S1:=S.ex e;cases d <;> first|exact False.elim q|skip
  ·rename_i l0;obtain⟨l,el,q⟩:=q;cases el;obtain⟨p0,xs,rfl,h1,h2⟩:=r;exact⟨p0,xs,rfl,.inr h1,λp hp=>q p _ _ (e.trans (S1.new hp _)) (e.low (λz=>S1.nO hp (z ▸ S1.fO)) hp) sX (Rps.skip S1 hp h2)⟩
  ·rename_i l0;obtain⟨l,el,q⟩:=q;cases el;obtain⟨p0,xs,rfl,_,h1,h2⟩:=r;exact⟨p0,xs,rfl,.inl (SqL.of h1),λp hp=>q p _ _ (e.trans (S1.new hp _)) (e.low (λz=>S1.nO hp (z ▸ S1.fO)) hp) sX (Rps.skip S1 hp h2)⟩) q⟩
def jj(fz:List Nat)(i:Nat)(e:TEd):TSd:=⟨λE ss=>e.run (frz fz ss) λd=>match d with | .lst l=>E.nx ((frz fz ss).set i (.own l))|_=>False,λ{E E' ss} h q=>e.mono (λd q=>by
 revert q;cases d <;> first|exact h.nx _|exact id) q⟩
theorem jj.ok(hN:X.N.Nodup)(hi:X.N[i]? = some x)(hx:AZ X.env.scope x)(h:PE X a (LF X.K ta))(hs:swapsWith a (some (.Name x p')) pos.line X.env=pure false)(hf:X.fn x=true\/X.env.scope.names.lookup x=some .local) :
  PS X (.Assign [.Name x p'] a pos) (LS X.K (jj fz i ta)):=(vv hN hi hx h hs hf).weak λD σ H ⟨c,O,ss,R,q⟩=>by
 obtain⟨O',R⟩:=R.frz (fz:=fz);refine⟨c.f,O',_,R.sl,ta.mono (λd q=>?_) q⟩;cases d <;> first|exact False.elim q|skip
 rename_i l;exact⟨l,rfl,λp xs H1 e hp hx r=>q _ _ H1 (R.mkOwn e hp hx r)⟩
def pN(fz:List Nat)(i:Nat)(e:TEd):TSd:=⟨λE ss=>match (frz fz ss)[i]? with|some (.own l)=>e.run (frz fz ss) λd=>l.length<sizeLine/\E.nx ((frz fz ss).set i (.own (l++[d])))|_=>False,λ{E E' ss} h q=>by
 revert q;split
 ·exact e.mono λd q=>⟨q.1,h.nx _ q.2⟩
 ·exact id⟩
theorem pN.ok(hx:PE X x (vc i))(hb:attributeBase x "append" X.env (eval x X.env)=eval x X.env)(h:PE X a (LE X.K ta))(hs:starEach [a] X.env=[(false,eval a X.env)])(hl:(ap.endLine == cp.line)=true)(hw:swapsWith (.Call (.Attribute x "append" ap) [a] [] cp) none pos.line X.env=pure false) :
  PS X (.Expr (.Call (.Attribute x "append" ap) [a] [] cp) pos) (LS X.K (pN fz i ta)):=by
 refine (xG (pos:=pos) (Ax (apos:=ap) (cpos:=cp) PySem.F.plainAttrs_list PySem.F.slot_list_append PySem.F.type_list_append yQ hx (sT h pa_nil hs) hb (by rw[hs];rfl) hl hs rfl) hw).weak λD σ H ⟨c,O,ss,R,q⟩=>?_;obtain⟨O',R⟩:=R.frz (fz:=fz);have q:(match (frz fz ss)[i]? with|some (.own l)=>ta.run (frz fz ss) λd=>l.length<sizeLine/\(va X.K c D).nx ((frz fz ss).set i (.own (l++[d])))|_=>False):=q;split at q
 ·rename_i l el;obtain⟨p,xs,h1,h2,h3,h4,h5⟩:=R.sl.own i l el;refine⟨_,h1,.inl ⟨rfl,xs,SqL.of h4⟩,R.le q λd v H1 R1 e1 r w=>?_⟩;have hp:=e1.sm.app p _ h3 h4;have r5:=R.sl.ups e1 h5;refine⟨p,xs,v,rfl,rfl,hp,by rw[r5.len];exact w.1,w.2 O' σ _ (R1.wr el h1 (r5.append ⟨v,[],rfl,r,rfl⟩))⟩
 ·exact q.elim
theorem Rps.dropLast:∀{ds:List D} {vs:List V},Rps K f O H ds vs->Rps K f O H ds.dropLast vs.dropLast:=λ{ds vs} h=>by
 rw[fh,fh,h.len];exact h.take _
def rH(i:Nat):TSd:=⟨λE ss=>match ss[i]? with|some (.own l)=>l≠[]/\E.nx (ss.set i (.own l.dropLast))|_=>False,λ{E E' ss} h q=>by
 revert q;split
 ·exact λq=>⟨q.1,h.nx _ q.2⟩
 ·exact id⟩
theorem rH.ok(hx:PE X x (vc i))(hb:attributeBase x "pop" X.env (eval x X.env)=eval x X.env)(hl:(ap.endLine == cp.line)=true)(hw:swapsWith (.Call (.Attribute x "pop" ap) [] [] cp) none pos.line X.env=pure false) :
  PS X (.Expr (.Call (.Attribute x "pop" ap) [] [] cp) pos) (LS X.K (rH i)):=by
 refine (xG (pos:=pos) (EG (apos:=ap) (cpos:=cp) PySem.F.plainAttrs_list PySem.F.slot_list_pop PySem.F.type_list_pop EW hx hb hl) hw).weak λD σ H ⟨c,O,ss,R,q⟩=>?_;have q:(match ss[i]? with|some (.own l)=>l≠[]/\(va X.K c D).nx (ss.set i (.own l.dropLast))|_=>False):=q;split at q
 ·rename_i l el;obtain⟨p,xs,h1,h2,h3,h4,h5⟩:=R.sl.own i l el;have hne:0<l.length:=fq.mpr q.1;obtain⟨v,hv,_⟩:=h5.get (show l[l.length-1]? = some (l[l.length-1]'(by omega)) by simp);exact⟨_,h1,.inl ⟨rfl,xs,SqL.of h4⟩,p,xs,v,rfl,rfl,h4,by rw[h5.len];exact hv,q.2 O σ _ (R.wr el h1 h5.dropLast)⟩
 ·exact q.elim
def qT(j i:Nat):TSd:=⟨λE ss=>match ss[i]? with|some (.own l)=>∃ d,l[l.length-1]? = some d/\E.nx ((ss.set i (.own l.dropLast)).set j (.val d))|_=>False,λ{E E' ss} h q=>by
 revert q;split
 ·exact fun⟨d,q1,q2⟩=>⟨d,q1,h.nx _ q2⟩
 ·exact id⟩
theorem qT.ok(hN:X.N.Nodup)(hj:X.N[j]? = some y)(hy:AZ X.env.scope y)(hf:X.fn y=true\/X.env.scope.names.lookup y=some .local)(hx:PE X x (vc i))(hb:attributeBase x "pop" X.env (eval x X.env)=eval x X.env)(hl:(ap.endLine == cp.line)=true)(hw:swapsWith (.Call (.Attribute x "pop" ap) [] [] cp) (some (.Name y p')) pos.line X.env=pure false) :
  PS X (.Assign [.Name y p'] (.Call (.Attribute x "pop" ap) [] [] cp) pos) (LS X.K (qT j i)):=by
 refine (vv (pos:=pos) hN hj hy (EG (apos:=ap) (cpos:=cp) PySem.F.plainAttrs_list PySem.F.slot_list_pop PySem.F.type_list_pop EW hx hb hl) hw hf).weak λD σ H ⟨c,O,ss,R,q⟩=>?_;have q:(match ss[i]? with|some (.own l)=>∃ d,l[l.length-1]? = some d/\(va X.K c D).nx ((ss.set i (.own l.dropLast)).set j (.val d))|_=>False):=q;split at q
 ·rename_i l el;obtain⟨p,xs,h1,h2,h3,h4,h5⟩:=R.sl.own i l el;obtain⟨d,q1,q2⟩:=q;obtain⟨v,hv,rv⟩:=h5.get q1;have R2:=R.wr el h1 h5.dropLast;have kp:Kp O H (tJ H p (.lst xs.dropLast)):=λb o n q=>by
   rw[sS (by rintro rfl;exact n h2)];exact q
  refine⟨_,h1,.inl ⟨rfl,xs,SqL.of h4⟩,p,xs,v,rfl,rfl,h4,by rw[h5.len];exact hv,q2 O _ _ (R2.to (R2.sl.set (rv.kp kp R.sl.al)) Sub.set)⟩
 ·exact q.elim
def atD(l:List D)(dk:D)(Q:Nat->Prop):Prop:=match dk with | .int z=>(match zI l.length z with|some j=>Q j|none=>False)|_=>False
theorem atD.mono{l:List D}{dk:D}{Q Q':Nat->Prop}(h:∀ j,Q j->Q' j):atD l dk Q->atD l dk Q':=by
 cases dk <;> first|exact id|skip
 unfold atD;dsimp only;split
 ·exact h _
 ·exact id
def kA(fz:List Nat)(i:Nat)(k e:TEd):TSd:=⟨λE ss=>match (frz fz ss)[i]? with|some (.own l)=>e.run (frz fz ss) λd=>k.run (frz fz ss) λdk=>atD l dk λj=>E.nx ((frz fz ss).set i (.own (l.set j d)))|_=>False,λ{E E' ss} h q=>by
 revert q;split
 ·exact e.mono λd=>k.mono λdk=>atD.mono λj=>h.nx _
 ·exact id⟩
theorem kA.ok(hx:PE X x (vc i))(hk:PE X k (LE X.K tk))(h:PE X a (LE X.K ta))(hs:swapsWithSole [.Subscript x k sp] a pos.line X.env=pure false)(hw:swappedStores [.Subscript x k sp] a X.env=pure none)(h1:(assignEach [.Subscript x k sp] X.env).map (·.2)=[assign (.Subscript x k sp) X.env])
  (hg:PG X (.Subscript x k sp) (LQ (vc i) (LE X.K tk) HY)):PS X (.Assign [.Subscript x k sp] a pos) (LS X.K (kA fz i tk ta)):=by
 refine (uS (pos:=pos) h hg hs hw h1).weak λD σ H ⟨c,O,ss,R,q⟩=>?_;obtain⟨O',R⟩:=R.frz (fz:=fz);have q:(match (frz fz ss)[i]? with|some (.own l)=>ta.run (frz fz ss) λd=>tk.run (frz fz ss) λdk=>atD l dk λj=>(va X.K c D).nx ((frz fz ss).set i (.own (l.set j d)))|_=>False):=q;split at q
 ·rename_i l el;obtain⟨p,xs,g1,g2,g3,g4,g5⟩:=R.sl.own i l el;refine R.le q λd v H1 R1 e1 r w=>⟨_,g1,R1.le w λdk vk H2 R2 e2 rk w=>?_⟩;cases dk <;> first|exact False.elim w|skip
  rename_i z;cases (show vk=_ from rk);unfold atD at w;dsimp only at w;split at w
  ·rename_i j ej;have e12:=e1.trans e2;have r5:=R.sl.ups e12 g5;exact⟨p,xs,z,j,rfl,rfl,e12.sm.app p _ g3 g4,by rw[r5.len];exact ej,w O' σ _ (R2.wr el g1 (r5.set (R1.sl.up e2 r) j))⟩
  ·exact w.elim
 ·exact q.elim
def oAug:Operator->OD
 | .Add=>λx y Q=>match x,y with | .int i,.int j=>Q (.int (i+j)) | .str a,.str b=>a.length+b.length<=sizeLine/\Q (.str (a++b))|_,_=>False
 | .Sub=>oSub
 | .Mult=>λx y Q=>match x,y with | .int i,.int j=>CMulB i j/\Q (.int (i*j))|_,_=>False
 | .FloorDiv=>oDiv
 | _=>Bn
theorem oAug.mono{op:Operator}:∀{x y Q Q'},(∀ d,Q d->Q' d)->oAug op x y Q->oAug op x y Q':=by
 cases op;all_goals first|exact oSub.mono|exact oDiv.mono|exact λ_ q=>q|skip
 all_goals (intro x y Q Q' h;cases x <;> cases y <;> intro q <;> first|exact h _ q|exact q|exact⟨q.1,h _ q.2⟩)
theorem Ej(hr:Room k X.A)(op:Operator):Rng X (inplaceOp op) (oAug op):=by
 cases op;case Add =>
  refine⟨_,OpR.or2 Ht AF,λf O σ ss H dx dy x y Q R rx ry h=>?_⟩;cases dx <;> cases dy <;> first|(exact False.elim h)|skip
  ·cases rx;cases ry;exact .inl ⟨_,_,rfl,rfl,h _ H (Ex.refl R.fl) rfl⟩
  ·cases rx;cases ry;exact .inr ⟨_,_,rfl,rfl,h.1,h.2 _ H (Ex.refl R.fl) rfl⟩
 case Sub =>
  refine⟨_,Hs,λf O σ ss H dx dy x y Q R rx ry h=>?_⟩;cases dx <;> cases dy <;> first|(exact False.elim h)|skip
  cases rx;cases ry;exact⟨_,_,rfl,rfl,h _ H (Ex.refl R.fl) rfl⟩
 case Mult=>exact wW E8 λdx dy Q h=>by cases dx <;> cases dy <;> first|(exact False.elim h)|exact⟨_,_,rfl,rfl,h.1,h.2⟩
 case FloorDiv=>exact wW (Dy hr) λdx dy Q h=>by cases dx <;> cases dy <;> first|(exact False.elim h)|exact⟨_,_,rfl,rfl,h.1,h.2⟩
 all_goals exact Rng.never
def pP(fz:List Nat)(i:Nat)(op:Operator)(e:TEd):TSd:=⟨λE ss=>match (frz fz ss)[i]? with|some (.val x)=>e.run (frz fz ss) λy=>oAug op x y λz=>E.nx ((frz fz ss).set i (.val z))|_=>False,λ{E E' ss} h q=>by
 revert q;split
 ·exact e.mono λy=>oAug.mono λz=>h.nx _
 ·exact id⟩
theorem pP.ok(hk0:Room k0 X.A)(hN:X.N.Nodup)(hi:X.N[i]? = some x)(hx:AZ X.env.scope x)(h:PE X a (LE X.K ta))(hf:X.fn x=true\/X.env.scope.names.lookup x=some .local) :
  PS X (.AugAssign (.Name x p') op a pos) (LS X.K (pP fz i op ta)):=by
 obtain⟨r,hr,hd⟩:=Ej (X:=X) hk0 op;refine (Js (pos:=pos) hN hi hx h (ti:=r) hr hf).weak λD σ H ⟨c,O,ss,R,q⟩=>?_;obtain⟨O',R⟩:=R.frz (fz:=fz);have q:(match (frz fz ss)[i]? with|some (.val x)=>ta.run (frz fz ss) λy=>oAug op x y λz=>(va X.K c D).nx ((frz fz ss).set i (.val z))|_=>False):=q;split at q
 ·rename_i dx ex;obtain⟨v,g1,g2⟩:=R.sl.val i dx ex;refine⟨v,g1,R.le q λdy y H1 R1 e1 ry w=>?_⟩;refine hd c.f O' σ _ H1 dx dy v y _ R1.sl (R.sl.up e1 g2) ry (oAug.mono (λz w v' H2 e2 rz=>?_) w);have R2:=R1.ex e2;exact w O' _ H2 (R2.to (R2.sl.set rz) Sub.set)
 ·exact q.elim
def augD(l:List D)(dk:D)(Q:Nat->D->Prop):Prop:=match dk with | .int z=>0<=z/\(match l[z.toNat]? with|some x=>Q z.toNat x|none=>False)|_=>False
theorem augD.mono{l:List D}{dk:D}{Q Q':Nat->D->Prop}(h:∀ j x,Q j x->Q' j x):augD l dk Q->augD l dk Q':=by
 cases dk <;> first|exact id|skip
 unfold augD;dsimp only;split
 ·exact λq=>⟨q.1,h _ _ q.2⟩
 ·exact id
def ni(fz:List Nat)(i:Nat)(k:TEd)(op:Operator)(e:TEd):TSd:=⟨λE ss=>match (frz fz ss)[i]? with|some (.own l)=>k.run (frz fz ss) λdk=>augD l dk λj x=>e.run (frz fz ss) λy=>oAug op x y λz=>E.nx ((frz fz ss).set i (.own (l.set j z)))|_=>False,λ{E E' ss} h q=>by
 revert q;split
 ·exact k.mono λdk=>augD.mono λj x=>e.mono λy=>oAug.mono λz=>h.nx _
 ·exact id⟩
theorem ni.ok(hk0:Room k0 X.A)(hx:PE X x (vc i))(hk:PE X k (LE X.K tk))(h:PE X a (LE X.K ta))(ha:∀ ov iv new,augStore k ov iv new=(do holding [new,ov,iv] (setItem ov iv new);release [new,ov,iv] [];pure .next)) :
  PS X (.AugAssign (.Subscript x k sp) op a pos) (LS X.K (ni fz i tk op ta)):=by
 obtain⟨r,hr,hd⟩:=Ej (X:=X) hk0 op;refine (GF (pos:=pos) (tpos:=sp) hx hk (NB X.K) h (tip:=r) hr ui ha).weak λD σ H ⟨c,O,ss,R,q⟩=>?_;obtain⟨O',R⟩:=R.frz (fz:=fz);have q:(match (frz fz ss)[i]? with|some (.own l)=>tk.run (frz fz ss) λdk=>augD l dk λj x=>ta.run (frz fz ss) λy=>oAug op x y λz=>(va X.K c D).nx ((frz fz ss).set i (.own (l.set j z)))|_=>False):=q;split at q
 ·rename_i l el;obtain⟨p,xs,g1,g2,g3,g4,g5⟩:=R.sl.own i l el;refine⟨_,g1,R.le q λdk vk H1 R1 e1 rk w=>?_⟩;cases dk <;> first|exact False.elim w|skip
  rename_i z;cases (show vk=_ from rk);obtain⟨z0,w⟩:=w;obtain⟨j,rfl⟩:=bz z0;rw[aB] at w;split at w
  ·rename_i dx hx;obtain⟨v,hv,rv⟩:=g5.get hx;refine⟨p,xs,v,j,rfl,rfl,SqL.of (e1.sm.app p _ g3 g4),hv,R1.le w λdy y H2 R2 e2 ry w=>?_⟩;refine hd c.f O' σ _ H2 dx dy v y _ R2.sl (R1.sl.up e2 (R.sl.up e1 rv)) ry (oAug.mono (λz w v' H3 e3 rz=>?_) w);have R3:=R2.ex e3;have e13:=e1.trans (e2.trans e3);have r5:=R.sl.ups e13 g5;have hj:j<xs.length:=(af.mp hv).1;refine⟨p,xs,_,j,rfl,rfl,e13.sm.app p _ g3 g4,?_,w O' σ _ (R3.wr el g1 (r5.set rz j))⟩;unfold zI;rw[if_pos (by omega),if_pos (by omega),aB]
  ·exact w.elim
 ·exact q.elim
def ownInt(l:D)(b:TEd)(s:SS)(Q:List D->Int->Prop):Prop:=match l with
 | .lst l=>b.run s λd=>match d with | .int z=>Q l z|_=>False
 | _=>False
theorem ownInt.mono{l:D}{b:TEd}{s:SS}{Q Q':List D->Int->Prop}(h:∀ l z,Q l z->Q' l z):ownInt l b s Q->ownInt l b s Q':=by
 cases l <;> first|exact id|skip
 exact b.mono λd q=>by
  revert q;cases d <;> first|exact id|exact h _ _
def qW(fz:List Nat)(i j:Nat)(a b:TEd):TSd:=⟨λE ss=>a.run (frz fz ss) λd=>ownInt d b (frz fz ss) λl z=>E.nx (((frz fz ss).set i (.own l)).set j (.val (.int z))),λh q=>a.mono (λd q=>ownInt.mono (λl z q=>h.nx _ q) q) q⟩
theorem qW.weak{fz:List Nat}{i j:Nat}{D:Ends}{σ:St}{ta tb:TEd}(h:LS X.K (qW fz i j ta tb) D σ H):IS i j (yD (LF X.K ta) (yD (LE X.K tb) Gs)) D σ H:=by
 obtain⟨c,O,ss,R,q⟩:=h;obtain⟨O',R⟩:=R.frz (fz:=fz);refine⟨c.f,O',_,R.sl,ta.mono (λd q=>?_) q⟩;cases d <;> first|exact False.elim q|skip
 rename_i l;refine⟨l,rfl,λp xs H1 e1 hp hx r=>?_⟩;have R1:=R.ex e1;refine R1.le q λd' v' H2 R2 e2 r' w=>?_;cases d' <;> first|exact False.elim w|skip
 rename_i z;cases (show v'=_ from r');have pO:p ∉ O':=λhO=>by
  obtain⟨ys,hy⟩:=R.sl.al p hO;rw[hp] at hy;cases hy
 have kp:=e2.kp R1.sl.fO;have kp':Kp (p::O') H1 H2:=λb o n h=>kp b o (λz=>n (aw _ z)) h;have al':∀ b∈p::O',∃ xs,H1 b=some (.lst xs):=λb hb=>by
  rcases ao.mp hb with z|z
  ·exact⟨xs,z ▸ hx⟩
  ·exact R1.sl.al b z
 have R3:=R.mkOwn (i:=i) (e1.trans e2) hp (kp p _ pO hx) (r.kp kp' al');exact⟨.ref p,.int z,rfl,w (p::O') _ H2 (R3.to (R3.sl.set (i:=j) (d:=.int z) (v:=.int z) rfl) Sub.set)⟩
def startD(n:Nat)(ds:List D):SS:=ds.map SD.val++List.replicate (n-ds.length) SD.no
theorem startD.ok(fl:Fl H f)(fO:f∈O)(al:∀ a∈O,∃ xs,H a=some (.lst xs))(lO:∀ l r,H f=some (.lst (.ref l::r))->l ∉ O)(r:Rps K f O H ds vs):StR K ⟨f,O,H,O⟩ O (L2.start N vs) H (startD N.length ds):=by
 have len:(startD N.length ds).length=(L2.start N vs).length:=by
  unfold startD L2.start;rw[ai,ai,aa,aa,aQ,aQ,r.len]
 have get:∀{i:Nat} {s:SD},(startD N.length ds)[i]? = some s->(∃ d,s = .val d/\ds[i]? = some d)\/s = .no:=λ{i s} h=>by
  unfold startD at h;rcases aJ i (ds.map SD.val).length with z|z
  ·rw[aK z,au] at h;obtain⟨d,h1,h2⟩:=ac.mp h;exact .inl ⟨d,h2.symm,h1⟩
  ·rw[aF z] at h;exact .inr (eV (ay h))
 refine⟨⟨fl,fO,al,lO,len,λi d h=>?_,λi l h=>?_⟩,λ_ h=>h,⟨λ_ _ h _ _=>h,λl r h=>⟨r,h⟩⟩,λa h=>.inl h,λi l a h=>?_⟩
 ·rcases get h with⟨d',e,h1⟩|e
  ·cases e;obtain⟨v,h2,h3⟩:=r.get h1;refine⟨v,?_,h3⟩;unfold L2.start;have hv:=(af.mp h2).1;rw[aK (by rw[aa];exact hv),au,h2];rfl
  ·cases e
 ·rcases get h with⟨d',e,h1⟩|e <;> cases e
 ·rcases get h with⟨d',e,h1⟩|e <;> cases e
@[reducible] def s9(Q:D->Prop):EndsD:=⟨λ_=>Q .non,Q,λ_=>False,λ_=>False⟩
def Does(n:Nat)(t:TSd)(s:SpB):Prop:=∀ ds Q,ds.length=s.n->s.run ds Q->t.run (s9 Q) (startD n ds)
theorem Does.ok(h:Does N.length t s)(hs:AW K s.n s.run vs H Q E):LS K t { nx:=λ_ H'=>Q .non H',rt:=Q } (L2.start N vs) H:=by
 obtain⟨hn,f,O,ds,fl,fO,al,lO,r,q⟩:=hs;refine⟨⟨f,O,H,O⟩,O,_,startD.ok fl fO al lO r,?_⟩;have q:=h ds _ (r.len.symm.trans hn) q;refine t.mono ?_ q;refine⟨λs q O' σ' H' R=>?_,λd q v H' R=>?_,λ_ q=>q.elim,λ_ q=>q.elim⟩
 ·exact q .non H' ⟨⟨λb o n h=>R.kp.kp b o h n (by by_cases z:b∈O;exact .inl z;exact .inr z),R.kp.key⟩,R.sl.fl⟩ rfl
 ·exact q v H' ⟨⟨λb o n h=>R.kp.kp b o h n (by by_cases z:b∈O;exact .inl z;exact .inr z),R.kp.key⟩,R.fl⟩ R.rp
end Dp
namespace Dp
open PySem L2
variable{K:Frag}{f:Addr}{O O':List Addr}{H H':Hp}{X:Cx}{σ:St}{ss:SS}{a b:Expr}{ta tb tc:TEd}{tA tB:TTd}{pos:Pos}{c:Cs}
def Gc(K:Frag)(n:Nat)(sp:NT):Sp:=λvs H Q _=>vs.length=n/\∃ f O ds,Fl H f/\f∈O/\(∀ a∈O,∃ xs,H a=some (.lst xs))/\(∀ l r,H f=some (.lst (.ref l::r))->l ∉ O)/\Rps K f O H ds vs/\sp ds λd=>∃ l,d = .lst l/\∀ p xs H',Ex f H H'->H p=none->H' p=some (.lst xs)->Rps K f (p::O) H' l xs->Q (.ref p) H'
theorem ge.okF{e:Expr}{s:SpB}{t:TAd}(h:PE X e (Al (Gc X.K s.n s.run) [] E0 (LA X.K t))):PE X e (LF X.K (ge s t)):=h.weak λσ H Q ⟨f,O,ss,S,q⟩ =>
 ⟨f,O,ss,S,t.mono (λds q vs H1 e1 r1=>by
  have S1:=S.ex e1;refine⟨by rw[cu,r1.len];exact q.1,f,O,ds,S1.fl,S1.fO,S1.al,S1.lO,by rw[cu];exact r1,?_⟩;exact s.mono (λd ⟨l,el,q⟩=>⟨l,el,λp xs H' e hp hx r=>q p xs H' (e1.trans e) (e1.low (λz=>S1.nO hp (z ▸ S1.fO)) hp) hx r⟩) q.2) q⟩
theorem compD.okF{J:It}{ds:List D}{hide:List Nat}{g:TGd}{c:TTd}{e:TEd}{Q:VK}{H1:Hp}(S:SlD K f O σ H1 ss)(hg:∀ i∈g.tg,i∈hide)(D0:ItD K f O J H1 ds)(h:compD ds (t8 hide ss) g c e λd=>∃ l,d = .lst l/\∀ p xs H',Ex f H1 H'->H1 p=none->H' p=some (.lst xs)->Rps K f (p::O) H' l xs->Q (.ref p) H') :
  Gd J (LG K g) (LT K c) (LE K e) (wC hide σ) Q H1:=by
 obtain⟨hl,I,q0,q1,q2⟩:=h;refine⟨λk m τ ys H=>∃ yd,SlD K f O τ H (t8 hide ss)/\Rps K f O H yd ys/\yd.length<=k/\I k yd/\m=ds.length-k/\k<=ds.length/\Ex f H1 H,⟨_,[],S.hide,rfl,aq _,q0,rfl,aL _,Ex.refl S.fl⟩,?_⟩;rintro k m τ ys H ⟨yd,S1,r1,l1,i1,rfl,k1,e1⟩;have kp:=e1.kp S.fO;rcases aJ k ds.length with hk|hk
 ·refine .inr ⟨D0.go H k kp hk,by rw[r1.len];omega,λx H' y=>?_⟩;obtain⟨d,ed,e2,rd⟩:=D0.yld O H k x H' (λa z=>.inl z) S.fO S1.al kp S1.fl hk y;have S2:=S1.ex e2;refine⟨f,O,_,d,S2,rd,g.mono (λs1 q τ2 H2 e3 S3 _ ag=>?_) (q1 k d yd ed l1 i1)⟩;have S3':SlD K f O τ2 H2 (t8 hide ss):=(S2.ex e3).agr ag λi hi=>yi (.inl (hg i hi));refine⟨f,O,s1,S3,c.mono (λb q H3 e4=>?_) q⟩;cases b with
  | true =>
   refine⟨f,O,s1,S3.ex e4,e.mono (λdy q v H4 e5 rv=>?_) q⟩;have e14:=e2.trans (e3.trans (e4.trans e5));exact⟨ds.length-(k+1),by omega,yd++[dy],(S3'.ex e4).ex e5,(S1.ups e14 r1).append ⟨v,[],rfl,rv,rfl⟩,by rw[ai];simp;omega,q,rfl,hk,e1.trans e14⟩
  | false =>
   have e14:=e2.trans (e3.trans e4);exact⟨ds.length-(k+1),by omega,yd,S3'.ex e4,S1.ups e14 r1,by omega,q,rfl,hk,e1.trans e14⟩
 ·have ek:k=ds.length:=by omega
  subst ek;refine .inl ⟨D0.stop H kp,λp hp=>?_⟩;obtain⟨l,el,q⟩:=q2 yd l1 i1;cases el;exact q p _ _ (e1.trans (S1.new hp _)) (e1.low (λz=>S1.nO hp (z ▸ S1.fO)) hp) sX (Rps.skip S1 hp r1)
theorem gB.okF{scope:Scope}{hide:List Nat}{it:TAd}{g:TGd}{c:TTd}{e:TEd}{tg iter elt:Expr}{ifs:List Expr}(hc:X.calm=true)(Sc:CompS X.N X.env.scope scope hide)(hi:PI X tg iter (LI X.K it))
  (hg:∀ s2 H2 fp pins C,PG (uY X scope s2 H2 fp pins C) tg (LG X.K g)) (ht:∀ s2 H2 fp pins C,PTs (uY X scope s2 H2 fp pins C) ifs (LT X.K c)) (he:∀ s2 H2 fp pins C,PE (uY X scope s2 H2 fp pins C) elt (LE X.K e))
  (hs:∀ x,foldedSetIterable iter X.env x=pure x) (hh:∀ i∈g.tg,i∈hide):PE X (.ListComp elt [⟨tg,iter,ifs,0⟩] scope pos) (LF X.K (gB it hide g c e)) :=
 (Cf (pos:=pos) hc Sc hi hg ht he hs).weak λσ H Q ⟨f,O,ss,S,q⟩=>⟨f,O,ss,S,it.mono (λds q J H1 e1 D0=>compD.okF (S.ex e1) hh D0 (compD.mono (λd ⟨l,el,q⟩=>⟨l,el,λp xs H' e hp hx r=>q p xs H' (e1.trans e) (e1.low (λz=>(S.ex e1).nO hp (z ▸ (S.ex e1).fO)) hp) hx r⟩) q)) q⟩
def rW(pk:List Nat)(k:TTd)(t u:TSd):TSd:=⟨λE ss=>k.run (frz pk ss) λb=>if b=true then t.run E ss else u.run E ss,λ{E E' ss} h q=>k.mono (λb q=>by
 revert q;cases b
 ·exact u.mono h
 ·exact t.mono h) q⟩
theorem rW.ok(hk:PT X a (LT X.K tA))(ht:PSs X st (LS X.K t))(hu:PSs X su (LS X.K u)):PS X (.If a st su pos) (LS X.K (rW pk tA t u)):=(Aw hk ht hu).weak λD σ H ⟨c,O,ss,R,q⟩=>by
 obtain⟨O',R'⟩:=R.frz (fz:=pk);refine⟨c.f,O',_,R'.sl,tA.mono (λb w H1 e=>?_) q⟩;cases b
 ·exact⟨c,O,_,R.ex e,w⟩
 ·exact⟨c,O,_,R.ex e,w⟩
end Dp
namespace ZP
open PySem PySem.Spec PyProof.Rows L2
section
variable{prog:Program}{w:World}{A:Around}{E:Value->Shared->Prop}{s:Shared}{z TI TO i1 i2:Addr}{f1 f2:List Addr}{n1 n2 k:Nat}{P1 P2:Nat->Value->Prop}{S1 S2:Nat->Heap->Prop}{a b:Value}
structure Ap (z TI TO i1 i2:Addr)(f1 f2:List Addr):Prop where
 nd:[z,TI,TO,i1,i2].Nodup
 z1:z ∉ f1
 t1:TO ∉ f1
 j1:i2 ∉ f1
 z2:z ∉ f2
 t2:TO ∉ f2
 j2:i1 ∉ f2
theorem Ap.ne(D:Ap z TI TO i1 i2 f1 f2):TI≠z/\TO≠z/\i1≠z/\i2≠z/\TI≠TO/\TI≠i1/\TI≠i2/\TO≠i1/\TO≠i2/\i1≠i2:=by
 have:=D.nd;simp at this;obtain⟨⟨a1,a2,a3,a4⟩,⟨b1,b2,b3⟩,⟨c1,c2⟩,d⟩:=this;exact⟨Ne.symm a1,Ne.symm a2,Ne.symm a3,Ne.symm a4,b1,b2,b3,c1,c2,d⟩
theorem item(D1:Draws prog w A i1 f1 n1 P1 S1)(D2:Draws prog w A i2 f2 n2 P2 S2)(D:Ap z TI TO i1 i2 f1 f2){Q:Value->Shared->Prop}
  (q0:IsZip s.heap z TI TO .none) (q1:IsPair s.heap TI (.ref i1) (.ref i2)) (q2:IsPair s.heap TO a b) (q3:S1 k s.heap) (q4:S2 k s.heap) (l1:k<n1) (l2:k<n2)
  (go:∀ h' tk x y,P1 k x->P2 k y->IsZip h' z TI TO (rawInt s.heap.objs.size)->IsPair h' TO x y->S1 (k+1) h'->S2 (k+1) h'->IsPair h' s.heap.objs.size x y ->
   (∀ c o,c ∉ [z,TO,i1,i2]->s.heap.get? c=some o->h'.get? c=some o)->Q (.ref s.heap.objs.size) { s with heap:=h',toks:=tk }) :
  wpAny (model prog w) A (Builtin.«zip.__next__» ⟨[.ref z],[]⟩) (λr s'=>∃ v,r = .done (.ret v)/\Q v s') E s:=by
 obtain⟨e1,e2,e3,e4,e5,e6,e7,e8,e9,e10⟩:=D.ne;show wpAny _ _ (field (.ref z) 2 >>= _) _ _ _;refine ηB (wpAny_field q0 rfl (x:=.bool false) rfl ?_);show wpAny _ _ (field (.ref z) 3 >>= _) _ _ _;refine ηB (wpAny_field q0 rfl (x:=.ref TI) rfl ?_);refine ηB (wpAny_seqItems q1 rfl ?_);show wpAny _ _ (Builtin.SmallTypes.ownedTupleIsFree (.ref z) >>= _) _ _ _;refine ηB ?_;unfold Builtin.SmallTypes.ownedTupleIsFree;refine ηB (wpAny_field q0 rfl (x:=.none) rfl (ηP ?_));simp only[if_true];refine ηB (wpAny_rule ?_);refine ηB (wpAny_field q0 rfl (x:=.ref TO) rfl ?_);refine ηB (wpAny_setField_rec q0 (by simp) λg1 r1 s1=>?_);replace r1:IsZip g1 z TI TO .ellipsis:=r1;refine ηB ?_;simp only[fS,List.zipIdx_nil,eN,eP];have at1:S1 k g1:=D1.frame _ _ _ q3 λc hc o e=>s1.extBut _ _ (by rintro rfl;exact D.z1 hc) e;refine ηB (ηB (wpAny_onRaise ?_));show wpAny _ _ (Builtin.SmallTypes.nextOf (.ref i1) >>= _) _ _ _;refine ηB (D1.item k _ _ _ l1 at1 λx g2 tk1 px at2 s2=>ηP ?_);have u2:IsPair g2 TO a b:=s2.extBut _ _ e8 (s1.extBut _ _ e2 q2);refine ηB (wpAny_seqItems (s:={ s with heap:=g2,toks:=tk1 }) u2 rfl ?_);refine ηB (wpAny_updateSeq_pair (s:={ s with heap:=g2,toks:=tk1 }) u2 λg3 u3 s3=>?_);replace u3:IsPair g3 TO x b:=u3;refine ηB (wpAny_letGo (ηP ?_));have to3:∀ c o,c≠z->c≠i1->c≠TO->s.heap.get? c=some o->g3.get? c=some o:=λc o c1 c2 c3 e=>s3.extBut _ _ c3 (s2.extBut _ _ c2 (s1.extBut _ _ c1 e));have at3:S2 k g3:=D2.frame _ _ _ q4 λc hc o e=>to3 c o (by rintro rfl;exact D.z2 hc) (by rintro rfl;exact D.j2 hc) (by rintro rfl;exact D.t2 hc) e;refine ηB (ηB (wpAny_onRaise ?_));show wpAny _ _ (Builtin.SmallTypes.nextOf (.ref i2) >>= _) _ _ _;refine ηB (D2.item k _ _ _ l2 at3 λy g4 tk2 py at4 s4=>ηP ?_);have u4:IsPair g4 TO x b:=s4.extBut _ _ e9 u3;refine ηB (wpAny_seqItems (s:={ s with heap:=g4,toks:=tk2 }) u4 rfl ?_);refine ηB (wpAny_updateSeq_pair (s:={ s with heap:=g4,toks:=tk2 }) u4 λg5 u5 s5=>?_);replace u5:IsPair g5 TO x y:=u5;refine ηB (wpAny_letGo (ηP (ηP ?_)));refine ηB (wpAny_seqItems (s:={ s with heap:=g5,toks:=tk2 }) u5 rfl ?_);refine ηB (wpAny_newTuple ?_);have sz:g5.objs.size=s.heap.objs.size:=by rw[s5.1,show g4.objs.size=g3.objs.size from s4.1,s3.1,show g2.objs.size=g1.objs.size from s2.1,s1.1]
 have to5:∀ c o,c≠z->c≠i1->c≠TO->c≠i2->s.heap.get? c=some o->g5.get? c=some o:=λc o c1 c2 c3 c4 e=>s5.extBut _ _ c3 (s4.extBut _ _ c4 (to3 c o c1 c2 c3 e));have r5:IsZip g5 z TI TO .ellipsis:=s5.extBut _ _ (Ne.symm e2) (s4.extBut _ _ (Ne.symm e4) (s3.extBut _ _ (Ne.symm e2) (s2.extBut _ _ (Ne.symm e3) r1)));have at5:S1 (k+1) g5:=D1.frame _ _ _ at2 λc hc o e=>s5.extBut _ _ (by rintro rfl;exact D.t1 hc) (s4.extBut _ _ (by rintro rfl;exact D.j1 hc) (s3.extBut _ _ (by rintro rfl;exact D.t1 hc) e));have at6:S2 (k+1) g5:=D2.frame _ _ _ at4 λc hc o e=>s5.extBut _ _ (by rintro rfl;exact D.t2 hc) e;show wpAny _ _ (Builtin.SmallTypes.ownedTupleHandOut (.ref z) (.ref g5.objs.size) >>= _) _ _ _;refine ηB ?_;unfold Builtin.SmallTypes.ownedTupleHandOut;have r6:IsZip (g5.push { cls:=.type "tuple",data:=.seq #[x,y] }) z TI TO .ellipsis:=ηH _ r5;refine ηB (wpAny_setField_rec (s:={ s with heap:=g5.push { cls:=.type "tuple",data:=.seq #[x,y] },toks:=tk2 }) r6 (by simp) λg7 r7 s7=>?_);replace r7:IsZip g7 z TI TO (rawInt g5.objs.size):=r7;refine wpAny_setField_rec (s:={ s with heap:=g7,toks:=tk2 }) r7 (by simp) λg8 r8 s8=>?_;replace r8:IsZip g8 z TI TO (rawInt g5.objs.size):=r8;have up:∀ c o,c≠z->g5.get? c=some o->g8.get? c=some o:=λc o c1 e=>s8.extBut _ _ c1 (s7.extBut _ _ c1 (ηH _ e));have nz:g5.objs.size≠z:=de (ηL r5);have r9:IsPair g8 g5.objs.size x y:=s8.extBut _ _ nz (s7.extBut _ _ nz (ηG _ rfl));rw[sz] at r8 r9;refine ηP ⟨_,rfl,?_⟩;show Q (.ref g5.objs.size) _;rw[sz];refine go g8 tk2 x y px py r8 (up _ _ e2 u5) (D1.frame _ _ _ at5 λc hc o e=>up c o (by rintro rfl;exact D.z1 hc) e) (D2.frame _ _ _ at6 λc hc o e=>up c o (by rintro rfl;exact D.z2 hc) e) r9 λc o hc e=>?_;simp at hc;obtain⟨c1,c2,c3,c4⟩:=hc;exact up c o c1 (to5 c o c1 c3 c2 c4 e)
theorem last(D1:Draws prog w A i1 f1 n1 P1 S1)(D2:Draws prog w A i2 f2 n2 P2 S2)(D:Ap z TI TO i1 i2 f1 f2)
  (q0:IsZip s.heap z TI TO .none) (q1:IsPair s.heap TI (.ref i1) (.ref i2)) (q2:IsPair s.heap TO a b) (q3:S1 k s.heap) (q4:S2 k s.heap) (hend:k=n1\/(k<n1/\k=n2))
  (no:∀ h' tk e,(∀ c o,c ∉ [z,TO,i1,i2]->s.heap.get? c=some o->h'.get? c=some o)->(∃ o,h'.get? e=some o/\o.cls = .type "StopIteration")->E (.ref e) { s with heap:=h',toks:=tk }) :
  wpAny (model prog w) A (Builtin.«zip.__next__» ⟨[.ref z],[]⟩) Q E s:=by
 obtain⟨e1,e2,e3,e4,e5,e6,e7,e8,e9,e10⟩:=D.ne;show wpAny _ _ (field (.ref z) 2 >>= _) _ _ _;refine ηB (wpAny_field q0 rfl (x:=.bool false) rfl ?_);show wpAny _ _ (field (.ref z) 3 >>= _) _ _ _;refine ηB (wpAny_field q0 rfl (x:=.ref TI) rfl ?_);refine ηB (wpAny_seqItems q1 rfl ?_);show wpAny _ _ (Builtin.SmallTypes.ownedTupleIsFree (.ref z) >>= _) _ _ _;refine ηB ?_;unfold Builtin.SmallTypes.ownedTupleIsFree;refine ηB (wpAny_field q0 rfl (x:=.none) rfl (ηP ?_));simp only[if_true];refine ηB (wpAny_rule ?_);refine ηB (wpAny_field q0 rfl (x:=.ref TO) rfl ?_);refine ηB (wpAny_setField_rec q0 (by simp) λg1 r1 s1=>?_);replace r1:IsZip g1 z TI TO .ellipsis:=r1;refine ηB ?_;simp only[fS,List.zipIdx_nil,eN,eP];have at1:S1 k g1:=D1.frame _ _ _ q3 λc hc o e=>s1.extBut _ _ (by rintro rfl;exact D.z1 hc) e;refine ηB (ηB (wpAny_onRaise ?_));show wpAny _ _ (Builtin.SmallTypes.nextOf (.ref i1) >>= _) _ _ _;rcases hend with rfl|⟨l1,rfl⟩
 ·refine ηB (D1.done _ _ _ at1 λg2 e s2 he=>?_);obtain⟨oe,ho,hc⟩:=he;have r2:IsZip g2 z TI TO .ellipsis:=s2 _ _ (Ne.symm e3) r1;have ez:e≠z:=by rintro rfl;rw[r2] at ho;cases ho;simp at hc
  refine wpAny_setField_rec (s:={ s with heap:=g2 }) r2 (by simp) λg3 _ s3=>no g3 s.toks e (λc o hc e=>?_) ⟨oe,s3.extBut _ _ ez ho,hc⟩;simp at hc;exact s3.extBut _ _ hc.1 (s2 _ _ hc.2.2.1 (s1.extBut _ _ hc.1 e))
 ·refine ηB (D1.item k _ _ _ l1 at1 λx g2 tk1 px at2 s2=>ηP ?_);have u2:IsPair g2 TO a b:=s2.extBut _ _ e8 (s1.extBut _ _ e2 q2);refine ηB (wpAny_seqItems (s:={ s with heap:=g2,toks:=tk1 }) u2 rfl ?_);refine ηB (wpAny_updateSeq_pair (s:={ s with heap:=g2,toks:=tk1 }) u2 λg3 u3 s3=>?_);refine ηB (wpAny_letGo (ηP ?_));have to3:∀ c o,c≠z->c≠i1->c≠TO->s.heap.get? c=some o->g3.get? c=some o:=λc o c1 c2 c3 e=>s3.extBut _ _ c3 (s2.extBut _ _ c2 (s1.extBut _ _ c1 e));have at3:S2 k g3:=D2.frame _ _ _ q4 λc hc o e=>to3 c o (by rintro rfl;exact D.z2 hc) (by rintro rfl;exact D.j2 hc) (by rintro rfl;exact D.t2 hc) e;refine ηB (ηB (wpAny_onRaise ?_));show wpAny _ _ (Builtin.SmallTypes.nextOf (.ref i2) >>= _) _ _ _;refine ηB (D2.done _ _ _ at3 λg4 e s4 he=>?_);obtain⟨oe,ho,hc⟩:=he;have r4:IsZip g4 z TI TO .ellipsis:=s4 _ _ (Ne.symm e4) (s3.extBut _ _ (Ne.symm e2) (s2.extBut _ _ (Ne.symm e3) r1));have ez:e≠z:=by rintro rfl;rw[r4] at ho;cases ho;simp at hc
  refine wpAny_setField_rec (s:={ s with heap:=g4,toks:=tk1 }) r4 (by simp) λg5 _ s5=>no g5 tk1 e (λc o hc e=>?_) ⟨oe,s5.extBut _ _ ez ho,hc⟩;simp at hc;exact s5.extBut _ _ hc.1 (s4 _ _ hc.2.2.2 (to3 c o hc.1 hc.2.2.1 hc.2.1 e))
theorem Lq(D1:Draws prog w A.in1 i1 f1 n1 P1 S1)(D2:Draws prog w A.in1 i2 f2 n2 P2 S2)(D:Ap z TI TO i1 i2 f1 f2){Q:Option Value->Shared->Prop}
  (q0:IsZip s.heap z TI TO .none) (q1:IsPair s.heap TI (.ref i1) (.ref i2)) (q2:IsPair s.heap TO a b) (q3:S1 k s.heap) (q4:S2 k s.heap) (l1:k<n1) (l2:k<n2)
  (go:∀ h' tk x y,P1 k x->P2 k y->IsZip h' z TI TO (rawInt s.heap.objs.size)->IsPair h' TO x y->S1 (k+1) h'->S2 (k+1) h'->IsPair h' s.heap.objs.size x y ->
   (∀ c o,c ∉ [z,TO,i1,i2]->s.heap.get? c=some o->h'.get? c=some o)->Q (some (.ref s.heap.objs.size)) { s with heap:=h',toks:=tk }):wpAny (model prog w) A (pyNext (.ref z)) Q E s:=by
 have ty:s.TypeIs (.ref z) "zip" := ⟨_,q0,rfl⟩;unfold pyNext;exact ηB (wpAny_attempt (wpAny_callSpecial?_slot (name:=Str.ofString "__next__") ty F.slot_zip_next (wpAny_call_entry F.slot_zip_next ty F.entry_zip_next
  (item D1 D2 D q0 q1 q2 q3 q4 l1 l2 λh' tk x y a1 a2 a3 a4 a5 a6 a7 a8=>ηP (go h' tk x y a1 a2 a3 a4 a5 a6 a7 a8)) (F.args_zip_next_1 _))))
theorem Lr(D1:Draws prog w A.in1 i1 f1 n1 P1 S1)(D2:Draws prog w A.in1 i2 f2 n2 P2 S2)(D:Ap z TI TO i1 i2 f1 f2){Q:Option Value->Shared->Prop}
  (q0:IsZip s.heap z TI TO .none) (q1:IsPair s.heap TI (.ref i1) (.ref i2)) (q2:IsPair s.heap TO a b) (q3:S1 k s.heap) (q4:S2 k s.heap) (hend:k=n1\/(k<n1/\k=n2))
  (no:∀ h' tk,(∀ c o,c ∉ [z,TO,i1,i2]->s.heap.get? c=some o->h'.get? c=some o)->Q none { s with heap:=h',toks:=tk }):wpAny (model prog w) A (pyNext (.ref z)) Q E s:=by
 have ty:s.TypeIs (.ref z) "zip" := ⟨_,q0,rfl⟩;unfold pyNext;refine ηB (wpAny_attempt (wpAny_callSpecial?_slot (name:=Str.ofString "__next__") ty F.slot_zip_next (wpAny_call_entry F.slot_zip_next ty F.entry_zip_next
  (last D1 D2 D q0 q1 q2 q3 q4 hend λh' tk e kp he=>?_) (F.args_zip_next_1 _))))
 obtain⟨o,ho,hc⟩:=he;exact ηB (wpAny_isInstance (T := "StopIteration") (b:=true) ⟨o,ho,hc⟩ isSubtype_stop (ηP (no _ tk kp)))
end
def Itb(c:String)(l:Addr)(h:Heap):Prop:=(c = "list_iterator" /\ ∃ xs,h.IsList l xs)\/(c = "tuple_iterator" /\ ∃ xs,h.IsTuple l xs)
theorem Itb.kp{c:String}{l:Addr}{h h':Heap}(b:Itb c l h)(k:∀ o,h.get? l=some o->h'.get? l=some o):Itb c l h':=by
 rcases b with⟨e,xs,o,ho,r⟩|⟨e,xs,o,ho,r⟩
 ·exact .inl ⟨e,xs,o,k o ho,r⟩
 ·exact .inr ⟨e,xs,o,k o ho,r⟩
abbrev Ho(c:String)(l:Addr):Obj:={ cls:=.type c,data:=.fields #[.ref l,.int 0 0] }
section
variable{prog:Program}{w:World}{A:Around}{E:Value->Shared->Prop}{s:Shared}{l1 l2:Addr}{c1 c2:String}
theorem Cu(b:Itb c l s.heap)(h:Q (.ref s.heap.objs.size) { s with heap:=s.heap.push (Ho c l) }):wpAny (model prog w) A (pyIter (.ref l)) Q E s:=by
 rcases b with⟨rfl,xs,hl⟩|⟨rfl,xs,hl⟩
 ·exact wpAny_pyIter_list hl h
 ·exact wpAny_pyIter_tuple hl h
abbrev Mv(h:Heap)(c1 c2:String)(l1 l2:Addr):Heap:=(h.push (Ho c1 l1)).push (Ho c2 l2)
abbrev Mu(h:Heap)(c1 c2:String)(l1 l2:Addr):Heap:=(Mv h c1 c2 l1 l2).push { cls:=.type "tuple",data:=.seq #[.ref h.objs.size,.ref (h.push (Ho c1 l1)).objs.size] }
abbrev Mt(h:Heap)(c1 c2:String)(l1 l2:Addr):Heap:=(Mu h c1 c2 l1 l2).push { cls:=.type "tuple",data:=.seq #[.none,.none] }
abbrev Kx(h:Heap)(c1 c2:String)(l1 l2:Addr):Heap:=(Mt h c1 c2 l1 l2).push { cls:=.type "zip",data:=.fields #[.none,.bool false,.bool false,.ref (Mv h c1 c2 l1 l2).objs.size,.ref (Mu h c1 c2 l1 l2).objs.size] }
theorem Lx(l1 l2:Addr)(c1 c2:String):Meets (Builtin.«zip.__new__» ⟨[.type "zip",.ref l1,.ref l2],[]⟩) (λ_ R s=>Itb c1 l1 s.heap/\Itb c2 l2 s.heap/\R (.ok (.ret (.ref (Mt s.heap c1 c2 l1 l2).objs.size))) { s with heap:=Kx s.heap c1 c2 l1 l2 }) :=
 .of_wp λprog w A R s h=>by
  obtain⟨hp,g,d,tk,os⟩:=s;obtain⟨b1,b2,h⟩:=h;have hsub:=sub_zip;have x1:Itb c1 l1 (Shared.heap ⟨hp,g,d,tk,os⟩):=b1;have x2:Itb c2 l2 (Shared.heap ⟨hp.push { cls:=.type c1,data:=.fields #[.ref l1,.int 0 0] },g,d,tk,os⟩):=b2.kp λo e=>ηH _ e
  wp_walk using Cu x1,Cu x2
  exact⟨_,rfl,h⟩
theorem Mc(b1:Itb c1 l1 s.heap)(b2:Itb c2 l2 s.heap)
  (h:∀ h',IsZip h' (s.heap.objs.size+4) (s.heap.objs.size+2) (s.heap.objs.size+3) .none->IsPair h' (s.heap.objs.size+2) (.ref s.heap.objs.size) (.ref (s.heap.objs.size+1))->IsPair h' (s.heap.objs.size+3) .none .none ->
   h'.get? s.heap.objs.size=some (Ho c1 l1)->h'.get? (s.heap.objs.size+1)=some (Ho c2 l2)->(∀ c o,s.heap.get? c=some o->h'.get? c=some o)->Q (.ref (s.heap.objs.size+4)) { s with heap:=h' }) :
  wpAny (model prog w) A (call (.type "zip") [.ref l1,.ref l2]) Q E s:=by
 refine callType_new F.called_zip (by decide) (F.typeCall_zip_2 _ _) (F.newCall_zip_2 _ _) (λobj=>F.args_object_init_3 obj _ _) F.entry_zip_new (Lx l1 l2 c1 c2) ⟨b1,b2,?_⟩;have y1:(s.heap.push (Ho c1 l1)).objs.size=s.heap.objs.size+1:=Heap.size_push ..;have y2:(Mv s.heap c1 c2 l1 l2).objs.size=s.heap.objs.size+2:=by rw[Heap.size_push,y1]
 have y3:(Mu s.heap c1 c2 l1 l2).objs.size=s.heap.objs.size+3:=by rw[Heap.size_push,y2]
 have y4:(Mt s.heap c1 c2 l1 l2).objs.size=s.heap.objs.size+4:=by rw[Heap.size_push,y3]
 have v5:(Kx s.heap c1 c2 l1 l2).get? (Mt s.heap c1 c2 l1 l2).objs.size=some _:=ηG _ rfl;have v4:(Kx s.heap c1 c2 l1 l2).get? (Mu s.heap c1 c2 l1 l2).objs.size=some _:=ηH _ (ηG _ rfl);have v3:(Kx s.heap c1 c2 l1 l2).get? (Mv s.heap c1 c2 l1 l2).objs.size=some _:=ηH _ (ηH _ (ηG _ rfl));have v2:(Kx s.heap c1 c2 l1 l2).get? (s.heap.push (Ho c1 l1)).objs.size=some _:=ηH _ (ηH _ (ηH _ (ηG _ rfl)));have v1:(Kx s.heap c1 c2 l1 l2).get? s.heap.objs.size=some _:=ηH _ (ηH _ (ηH _ (ηH _ (ηG _ rfl))));show _/\_;rw[y2,y3,y4] at v5;rw[y1,y2] at v3;rw[y3] at v4;rw[y1] at v2;rw[y4];exact⟨⟨_,v5,rfl⟩,h _ v5 v3 v4 v1 v2 λc o x=>ηH _ (ηH _ (ηH _ (ηH _ (ηH _ x))))⟩
end
def Sq(K:Frag)(t:Bool)(H:Hp)(l:Addr)(xs:List V):Prop:=if t=true then SqT K H l xs else SqL K H l xs
def Ik(t:Bool)(it l:Addr)(i:Nat)(h:Heap):Prop:=if t=true then h.IsTupleIter it l i else h.IsListIter it l i
section
variable{X:Cx}{pins:List (Addr×Obj)}{σ:L2.St}{H:Hp}{s:Shared}{t:Bool}{l it b:Addr}{xs ys:List V}{i:Nat}{h h':Heap}
theorem Sq.inj(I:Inv X pins σ H s)(q:Sq X.K t H l xs)(q':Sq X.K t H l ys):xs=ys:=by
 cases t
 ·exact I.list_inj q q'
 ·exact I.tuple_inj q q'
theorem Sq.ne(I:Inv X pins σ H s)(q:Sq X.K t H l xs)(f:vg X pins H b):l≠b:=by
 rintro rfl;have kn:∀ o,X.K.lookup l=some o->False:=λo e=>by
  have e1:=I.ok.mod.kin l o e;rcases f.2.2.2.1 with z|z
  ·exact I.ok.noex l o e1 z
  ·exact absurd (aD (ηL (I.ok.bs l o e1).1) z) (bc _)
 have rd:∀ u,Rd H l u->False:=λu z=>by
  rcases z with z|⟨o,z⟩ <;> rw[f.1] at z <;> cases z
 cases t
 ·rcases (show SqL X.K H l xs from q) with z|⟨o,_,_,z,_⟩
  ·exact rd _ z
  ·exact kn o z
 ·rcases (show SqT X.K H l xs from q) with z|⟨o,_,_,z,_⟩
  ·exact rd _ z
  ·exact kn o z
theorem Sq.itb(I:Inv X pins σ H s)(q:Sq X.K t H l xs):Itb (if t=true then "tuple_iterator" else "list_iterator") l s.heap:=by
 cases t
 ·obtain⟨its,_,p,_⟩:=I.list q;exact .inl ⟨rfl,_,p.isList⟩
 ·obtain⟨its,_,p,_⟩:=I.tuple q;exact .inr ⟨rfl,_,p⟩
theorem Sq.draws(I:Inv X pins σ H s)(q:Sq X.K t H l xs)(ne:l≠it):∃ its:List Value,Vals xs its/\∃ L:Heap->Prop,L s.heap/\∀ A:Around,A.handled=none->Draws X.prog X.w A it [it,l] its.length (λj v=>its[j]? = some v) (λj h=>Ik t it l j h/\L h):=by
 cases t
 ·obtain⟨its,rv,p,_⟩:=I.list q;refine⟨its,rv,λh=>h.IsList l its.toArray,p.isList,λA hA=>?_⟩;have:=Draws.list (prog:=X.prog) (w:=X.w) hA it l ne its.toArray;simp only[ak,cY] at this;exact this
 ·obtain⟨its,rv,p,_⟩:=I.tuple q;refine⟨its,rv,λh=>h.IsTuple l its.toArray,p,λA hA=>?_⟩;have:=Fy (prog:=X.prog) (w:=X.w) hA it l ne its.toArray;simp only[ak,cY] at this;exact this
theorem Ik.kp(q:Ik t it l i h)(k:∀ o,h.get? it=some o->h'.get? it=some o):Ik t it l i h':=by
 cases t
 ·obtain⟨o,ho,r⟩:=(show h.IsListIter it l i from q);exact⟨o,k o ho,r⟩
 ·obtain⟨o,ho,r⟩:=(show h.IsTupleIter it l i from q);exact⟨o,k o ho,r⟩
theorem Ik.ob(q:Ik t it l i h):∃ o,h.get? it=some o/\∀ v,o.data ≠ .cell v:=by
 cases t
 ·obtain⟨o,ho,_,hd⟩:=(show h.IsListIter it l i from q);exact⟨o,ho,λv z=>by rw[hd] at z;cases z⟩
 ·obtain⟨o,ho,_,hd⟩:=(show h.IsTupleIter it l i from q);exact⟨o,ho,λv z=>by rw[hd] at z;cases z⟩
theorem Ik.new(e:h.get? it=some (Ho (if t=true then "tuple_iterator" else "list_iterator") l)):Ik t it l 0 h:=by
 cases t
 ·exact⟨_,e,rfl,rfl⟩
 ·exact⟨_,e,rfl,rfl⟩
theorem Lz{fp:List Addr}{t2:Nat}{x y:V}{u v:Value}(I:Inv X pins σ H s)(hf:∀ b∈fp,vg X pins H b)(lt:∀ b∈fp,b<s.heap.objs.size)(ru:RelV x u)(rv:RelV y v)
  (hT:IsPair h' s.heap.objs.size u v) (hk:∀ b o,b ∉ fp->s.heap.get? b=some o->h'.get? b=some o) :
  Inv X pins σ (tJ H s.heap.objs.size (.tup [x,y])) { s with heap:=h',toks:=t2 }/\∀ b∈fp,tJ H s.heap.objs.size (.tup [x,y]) b=none:=by
 have I1:Inv X pins σ (tJ H s.heap.objs.size (.tup [x,y])) { s with heap:=s.heap.push { cls:=.type "tuple",data:=.seq #[u,v] },toks:=t2 } :=
  I.laid (t':=t2) (λb u e=>ηH _ e) (aq _) ⟨by show 2<=sizeLine;decide,[u,v],.cons ru (.cons rv .nil),⟨_,ηG _ rfl,rfl,_,rfl⟩⟩
 have nn:∀ b∈fp,tJ H s.heap.objs.size (.tup [x,y]) b=none:=λb hb=>by
  rw[sS (aZ (lt b hb))];exact (hf b hb).1
 refine⟨Inv.turnedL (s:={ s with heap:=s.heap.push { cls:=.type "tuple",data:=.seq #[u,v] },toks:=t2 }) (t':=t2) (fp:=fp) I1 (λb o hb q=>?_) λb hb=>⟨nn b hb,(hf b hb).2⟩,nn⟩;rcases Heap.get?_push_cases q with⟨z1,z2⟩|z
 ·rw[z1,z2];exact hT
 ·exact hk b o hb z
end
theorem KZ{z TI TO i1 i2 c:Addr}(h:c∈[z,TO,i1,i2]):c∈[z,TI,TO,i1,i2]:=by
 simp only[ao,aO,or_false] at h ⊢;rcases h with h|h|h|h <;> simp[h]
def Oi(K:Frag)(t u:Bool)(a b:Addr):It:=⟨λi H=>∃ xs ys x y,Sq K t H a xs/\Sq K u H b ys/\xs[i]? = some x/\ys[i]? = some y,
 λi H v H'=>∃ p x y,v = .ref p/\H p=none/\H'=tJ H p (.tup [x,y])/\(∀ xs,Sq K t H a xs->xs[i]? = some x)/\∀ ys,Sq K u H b ys->ys[i]? = some y,
 λi H=>∃ xs ys,Sq K t H a xs/\Sq K u H b ys/\(i=xs.length\/(i<xs.length/\i=ys.length))⟩
theorem zd{P:Program}{w:World}{K:Frag}{es:List Expr}{kk:Nat}{ps:Pos}{t u:Bool}{a b z TI TO i1 i2:Addr}(nd:[z,TI,TO,i1,i2].Nodup) :
  Turn P w K (.Tuple es kk ps) (Oi K t u a b) [z,TI,TO,i1,i2] z (λi h=>IsZip h z TI TO .none/\IsPair h TI (.ref i1) (.ref i2)/\(∃ p q,IsPair h TO p q)/\Ik t i1 a i h/\Ik u i2 b i h) where
 mem:=by simp
 obj:=λi h st c hc=>by
  obtain⟨h0,h1,⟨p,q,h2⟩,h3,h4⟩:=st;simp only[ao,aO,or_false] at hc;rcases hc with rfl|rfl|rfl|rfl|rfl
  ·exact⟨_,h0,λv z=>by cases z⟩
  ·exact⟨_,h1,λv z=>by cases z⟩
  ·exact⟨_,h2,λv z=>by cases z⟩
  ·exact h3.ob
  ·exact h4.ob
 keep:=λi h h' st k=>by
  obtain⟨h0,h1,⟨p,q,h2⟩,h3,h4⟩:=st;exact⟨k z (by simp) _ h0,k TI (by simp) _ h1,⟨p,q,k TO (by simp) _ h2⟩,h3.kp λo e=>k i1 (by simp) o e,h4.kp λo e=>k i2 (by simp) o e⟩
 item:=by
  intro X hP hw hK hc i pins s σ H E I hf st hg;subst hP hw hK;obtain⟨xs,ys,x,y,s1,s2,e1,e2⟩:=hg;obtain⟨h0,h1,⟨p,q,h2⟩,h3,h4⟩:=st;have na:∀ c∈[z,TI,TO,i1,i2],a≠c:=λc hc=>s1.ne I (hf c hc);have nb:∀ c∈[z,TI,TO,i1,i2],b≠c:=λc hc=>s2.ne I (hf c hc);obtain⟨us,rv1,L1,k1,D1⟩:=s1.draws (it:=i1) I (na i1 (by simp));obtain⟨vs,rv2,L2,k2,D2⟩:=s2.draws (it:=i2) I (nb i2 (by simp));obtain⟨u1,hu,ru⟩:=rv1.get e1;obtain⟨v1,hv,rv⟩:=rv2.get e2;have dn:=nd;simp at dn;obtain⟨⟨a1,a2,a3,a4⟩,⟨b1,b2,b3⟩,⟨c1,c2⟩,d⟩:=dn;have ap:Ap z TI TO i1 i2 [i1,a] [i2,b]:=⟨nd,by simp[a3,Ne.symm (na z (by simp))],by simp[c1,Ne.symm (na TO (by simp))],by simp[Ne.symm d,Ne.symm (na i2 (by simp))],by simp[a4,Ne.symm (nb z (by simp))],by simp[c2,Ne.symm (nb TO (by simp))],by simp[d,Ne.symm (nb i1 (by simp))]⟩;refine Lq (D1 X.A.in1 (I.ok.hd hc)) (D2 X.A.in1 (I.ok.hd hc)) ap h0 h1 h2 ⟨h3,k1⟩ ⟨h4,k2⟩ (af.mp hu).1 (af.mp hv).1 λh' tk x' y' px py z0 z1 z2 z3 z4 kp=>?_;rw[hu] at px;rw[hv] at py;cases px;cases py;refine⟨_,rfl,wpAny_letOwnedTupleGo_zip (s:={ s with heap:=h',toks:=tk }) z0 λh2' y0 hs=>?_⟩;have k2':∀ c o,c ∉ [z,TI,TO,i1,i2]->s.heap.get? c=some o->h2'.get? c=some o:=λc o n e=>hs.extBut c o (λw=>n (by simp[w])) (kp c o (λw=>n (KZ w)) e);have lt:∀ c∈[z,TI,TO,i1,i2],c<s.heap.objs.size:=λc hc=>by
   simp only[ao,aO,or_false] at hc;rcases hc with rfl|rfl|rfl|rfl|rfl
   ·exact ηL h0
   ·exact ηL h1
   ·exact ηL h2
   ·obtain⟨o,ho,_⟩:=h3.ob;exact ηL ho
   ·obtain⟨o,ho,_⟩:=h4.ob;exact ηL ho
  obtain⟨I2,n2⟩:=Lz (t2:=tk) I hf lt ru rv (hs.extBut _ _ (de (lt z (by simp))) z4) k2';refine⟨.ref s.heap.objs.size,_,I2,rfl,⟨_,x,y,rfl,I.hok.fresh (aq _),rfl,λzs hz=>by rw[hz.inj I s1];exact e1,λzs hz=>by rw[hz.inj I s2];exact e2⟩,⟨y0,?_,⟨_,_,hs.extBut _ _ (Ne.symm a2) z1⟩,z2.1.kp λo e=>hs.extBut _ _ (Ne.symm a3) e,z3.1.kp λo e=>hs.extBut _ _ (Ne.symm a4) e⟩,n2⟩;exact hs.extBut _ _ (Ne.symm a1) (kp TI _ (by simp[Ne.symm a1,b1,b2,b3]) h1)
 done:=by
  intro X hP hw hK hc i pins s σ H E I hf st hg;subst hP hw hK;obtain⟨xs,ys,s1,s2,e1⟩:=hg;obtain⟨h0,h1,⟨p,q,h2⟩,h3,h4⟩:=st;have na:∀ c∈[z,TI,TO,i1,i2],a≠c:=λc hc=>s1.ne I (hf c hc);have nb:∀ c∈[z,TI,TO,i1,i2],b≠c:=λc hc=>s2.ne I (hf c hc);obtain⟨us,rv1,L1,k1,D1⟩:=s1.draws (it:=i1) I (na i1 (by simp));obtain⟨vs,rv2,L2,k2,D2⟩:=s2.draws (it:=i2) I (nb i2 (by simp));have dn:=nd;simp at dn;obtain⟨⟨a1,a2,a3,a4⟩,⟨b1,b2,b3⟩,⟨c1,c2⟩,d⟩:=dn;have ap:Ap z TI TO i1 i2 [i1,a] [i2,b]:=⟨nd,by simp[a3,Ne.symm (na z (by simp))],by simp[c1,Ne.symm (na TO (by simp))],by simp[Ne.symm d,Ne.symm (na i2 (by simp))],by simp[a4,Ne.symm (nb z (by simp))],by simp[c2,Ne.symm (nb TO (by simp))],by simp[d,Ne.symm (nb i1 (by simp))]⟩;refine Lr (D1 X.A.in1 (I.ok.hd hc)) (D2 X.A.in1 (I.ok.hd hc)) ap h0 h1 h2 ⟨h3,k1⟩ ⟨h4,k2⟩ (by rw[← rv1.length,← rv2.length];exact e1) λh' tk kp=>⟨rfl,Inv.turnedL (t':=tk) I (fp:=[z,TI,TO,i1,i2]) (λc o n e=>kp c o (λw=>n (KZ w)) e) hf⟩
 self:=λ_ _ _ _ _ st h=>wpAny_pyIter_zip st.1 h
def Nz(K:Frag)(ta:TA):TI:=λσ H R=>ta σ H λvs H1=>∃ t u a b xs ys,vs=[.ref a,.ref b]/\Sq K t H1 a xs/\Sq K u H1 b ys/\R (Oi K t u a b) H1
theorem F7:bootBuiltins "zip" = some (.type "zip"):=by decide +kernel
theorem Jt(hg:Gl X "zip")(hm:X.mg "zip" = none)(ha:PA X [a,b] ta)(hs:starEach [a,b] X.env=[(false,eval a X.env),(false,eval b X.env)])(hs2:starEach [b] X.env=[(false,eval b X.env)]):PI X (.Tuple es kk ps) (.Call (.Name "zip" p) [a,b] [] pos) (Nz X.K ta):=by
 intro pins s σ H R I h;refine Call_ (vy I hg hm F7 (PyProof.Rows.callWith_type1 (tz (ha pos pins s σ H _ I h) λus s1 ⟨vs,H1,I1,r1,q1⟩=>?_) (by rw[hs,hs2]) (by rw[hs2];rfl)));obtain⟨t,u,l1,l2,xs,ys,e,s1',s2',q1⟩:=q1;subst e;obtain⟨w1,w2,rfl,ru,rv⟩:=Vals.two r1;cases ru;cases rv;refine Mc (s1'.itb I1) (s2'.itb I1) λh' z0 z1 z2 z3 z4 kp=>?_;refine wpAny_pyIter_zip z0 ?_;refine⟨_,[s1.heap.objs.size+4,s1.heap.objs.size+2,s1.heap.objs.size+3,s1.heap.objs.size,s1.heap.objs.size+1],_,_,H1,rfl,I1.kept (t':=s1.toks) kp,zd (by simp),⟨z0,z1,⟨_,_,z2⟩,Ik.new z3,Ik.new z4⟩,λc hc=>?_,q1⟩;have le:s1.heap.objs.size<=c:=by
  simp only[ao,aO,or_false] at hc;rcases hc with rfl|rfl|rfl|rfl|rfl <;> first|exact aq _|exact eG _ _
 exact I1.fpOk le (I1.hok.fresh le)
end ZP
namespace L2
open PySem
def GA:V->List V->Hp->VK->Prop:=λx vs H Q=>∃ l xs y,∃ k:Nat,x = .ref l/\vs=[.int k,y]/\H l=some (.lst xs)/\k<=xs.length/\xs.length<sizeLine/\Q .non (tJ H l (.lst (xs.take k++y::xs.drop k)))
theorem Do:MG X "list.insert" GA:=by
 intro pins s σ H x vs v us Q I rx rv h;obtain⟨l,xs,y,k,rfl,rfl,hH,hk,hz,q⟩:=h;cases rx;obtain⟨u0,u,rfl,⟨t,rfl⟩,ru⟩:=rv.two;obtain⟨z,its,n,r,hl,e⟩:=I.lstM hH;have hn:(k:Int)<2^63:=by
  have:=t9;omega
 have hm : -(2^63)<=(k:Int):=Int.le_trans (by decide) (fL k);have hc:¬ (!Builtin.List.listFitsIndex (k:Int))=true:=by rw[fitsIndex_both hm hn];exact aA
 have hi:its.toArray.size<=sizeLine:=by rw[ak,← hl];exact dL hz
 have h0:¬ (k:Int)<0:=Int.not_lt.mpr (fL k);have h1:min (k:Int).toNat its.toArray.size=k:=by rw[aB,ak,cH (by rw[← hl];exact hk)]
 generalize (k:Int)=x at hc h0 h1 ⊢;refine call_meets PySem.F.slot_list_insert ⟨_,e,rfl⟩ PySem.F.entry_list_insert (PySem.F.args_list_insert_3 ..) (PySem.AutoSeq1.list_insert_list_int_val_1 l its.toArray n x t u hc hi) ⟨e,?_⟩;refine⟨.non,_,I.lset (its':=its.take k++u::its.drop k) hH e ?_ (Vals.append (r.take k) (.cons ru (r.drop k))) ?_,rfl,q⟩
 ·show (its.toArray.extract 0 (if x<0 then (x+(its.toArray.size:Int)).toNat else min x.toNat its.toArray.size)).push u++its.toArray.extract (if x<0 then (x+(its.toArray.size:Int)).toNat else min x.toNat its.toArray.size)=_;rw[if_neg h0,h1,PySem.W.kl_ins_eq]
 ·rw[ai,aE,aM,bJ];omega
end L2
namespace Dp
open PySem L2
variable{K:Frag}{f:Addr}{O O':List Addr}{H H':Hp}{X:Cx}{σ:St}{ss:SS}{a b:Expr}{ta tb tc:TEd}{tA tB:TTd}{pos:Pos}{c:Cs}
def wP:List D->List D->List D
 | x::l,y::m=>.tup [x,y]::wP l m
 | _,_=>[]
theorem tS:∀{l m:List D},(wP l m).length=min l.length m.length
 | [],_=>by simp[wP]
 | _::_,[]=>by simp[wP]
 | x::l,y::m=>by simp[wP,tS (l:=l) (m:=m)]
theorem xN:∀{l m:List D} {i:Nat} {x y:D},l[i]? = some x->m[i]? = some y->(wP l m)[i]? = some (.tup [x,y])
 | [],_,_,_,_,h,_=>by simp at h
 | _::_,[],_,_,_,_,h=>by simp at h
 | _::l,_::m,0,_,_,h,h'=>by cases h;cases h';rfl
 | _::l,_::m,i+1,_,_,h,h'=>by
  simp only[cA] at h h';exact xN (l:=l) (m:=m) h h'
theorem v9{i:Nat}{d:D}(h:(wP l m)[i]? = some d):∃ x y,l[i]? = some x/\m[i]? = some y/\d = .tup [x,y]:=by
 have hi:=(af.mp h).1;rw[tS] at hi;have h1:i<l.length:=by omega
 have h2:i<m.length:=by omega
 refine⟨l[i],m[i],ah h1,ah h2,?_⟩;rw[xN (ah h1) (ah h2)] at h;exact (Option.some.inj h).symm
theorem Rp.seq(r:Rp K f O H d v)(al:∀ b∈O,∃ xs,H b=some (.lst xs))(q:itemsD d Q):∃ l t p xs,Q l/\v = .ref p/\Rps K f O H l xs/\∀ H',Kp O H H'->ZP.Sq K t H' p xs:=by
 cases d <;> first|exact False.elim q|skip
 ·rename_i l;obtain⟨p,xs,rfl,h1,h2⟩:=r;exact⟨l,true,p,xs,q,rfl,h2,λH' k=>h1.kp k al⟩
 ·rename_i l;obtain⟨p,xs,rfl,n,h1,h2⟩:=r;exact⟨l,false,p,xs,q,rfl,h2,λH' k=>SqL.of (k p _ n h1)⟩
def oP(t u:TEd):TAd:=⟨λss Q=>t.run ss λd=>u.run ss λd'=>itemsD d λl=>itemsD d' λm=>Q (wP l m),λh q=>t.mono (λd q=>u.mono (λd' q=>itemsD.mono (λl q=>itemsD.mono (λm q=>h _ q) q) q) q) q⟩
theorem oP.ok{es:List Expr}{kk:Nat}{ps p:Pos}(hg:Gl X "zip")(hm:X.mg "zip" = none)(ha:PE X a (LE X.K ta))(hb:PE X b (LE X.K tb))(hs:starEach [a,b] X.env=[(false,eval a X.env),(false,eval b X.env)])(hs2:starEach [b] X.env=[(false,eval b X.env)]) :
  PI X (.Tuple es kk ps) (.Call (.Name "zip" p) [a,b] [] pos) (LI X.K (oP ta tb)) :=
 (ZP.Jt (p:=p) (pos:=pos) hg hm (sT ha (sT hb pa_nil hs2) (by rw[hs,hs2])) hs hs2).weak λσ H R ⟨f,O,ss,S,q⟩=>⟨f,O,ss,S,ta.mono (λd q v H1 e r=>⟨f,O,ss,S.ex e,tb.mono (λd' q v' H2 e2 r'=>by
  have S2:=(S.ex e).ex e2;obtain⟨l,t,p1,xs,q,rfl,hx,k1⟩:=((S.ex e).up e2 r).seq S2.al q;obtain⟨m,u,p2,ys,q,rfl,hy,k2⟩:=r'.seq S2.al q;refine⟨t,u,p1,p2,xs,ys,rfl,k1 H2 Kp.refl,k2 H2 Kp.refl,q _ H2 (e.trans e2) ⟨λH' i k hi=>?_,λO' H' i x H'' hO hf al k F hi y=>?_,λH' k=>?_⟩⟩
  ·rw[tS] at hi;obtain⟨x,h1,_⟩:=hx.get (ah (show i<l.length by omega));obtain⟨y,h2,_⟩:=hy.get (ah (show i<m.length by omega));exact⟨xs,ys,x,y,k1 H' k,k2 H' k,h1,h2⟩
  ·rw[tS] at hi;have l1:i<l.length:=by omega
   have l2:i<m.length:=by omega
   obtain⟨p',x1,y1,rfl,hp,rfl,w1,w2⟩:=y;obtain⟨x,h1,r1⟩:=hx.get (ah l1);obtain⟨y,h2,r2⟩:=hy.get (ah l2);have z1:=w1 xs (k1 H' k);have z2:=w2 ys (k2 H' k);rw[h1] at z1;rw[h2] at z2;cases z1;cases z2;have mv:=(Ex.new F hp (.tup [x1,y1])).kp hf;exact⟨_,xN (ah l1) (ah l2),Ex.new F hp _,p',_,rfl,SqT.of sX,x1,_,rfl,(r1.moved hO k S2.al).kp mv al,y1,[],rfl,(r2.moved hO k S2.al).kp mv al,rfl⟩
  ·rw[tS];refine⟨xs,ys,k1 H' k,k2 H' k,?_⟩;rw[hx.len,hy.len];omega) q⟩) q⟩
mutual
def D.lf:D->Bool
 | .tup ds=>D.lfs ds
 | .lst _=>false | .fl=>false
 | .exn _ _ ds=>D.lfs ds
 | .dct _ ds=>D.lfs ds
 | .int _=>true | .str _=>true | .non=>true | .bl _=>true
def D.lfs:List D->Bool
 | []=>true
 | d::ds=>d.lf && D.lfs ds
end
mutual
theorem Rp.any:∀{d:D} {v:V},d.lf=true->Rp K f O H d v->Rp K f O' H d v
 | .non,_,_,h=>h
 | .bl _,_,_,h=>h
 | .int _,_,_,h=>h
 | .str _,_,_,h=>h
 | .fl,_,z,_=>by cases z
 | .lst _,_,z,_=>by cases z
 | .tup l,v,z,h=>by
  obtain⟨a,xs,e1,h1,h2⟩:=h;exact⟨a,xs,e1,h1,Rps.any z h2⟩
 | .exn C x l,v,z,h=>by
  obtain⟨a,us,e1,h1,h2⟩:=h;exact⟨a,us,e1,h1,Rps.any z h2⟩
 | .dct ks l,v,z,h=>by
  obtain⟨a,us,e1,h1,h2,h3⟩:=h;exact⟨a,us,e1,h1,h2,Rps.any z h3⟩
theorem Rps.any:∀{ds:List D} {vs:List V},D.lfs ds=true->Rps K f O H ds vs->Rps K f O' H ds vs
 | [],_,_,h=>h
 | d::ds,_,z,h=>by
  have z:=ar.mp (show (d.lf && D.lfs ds)=true from z);obtain⟨v,r,e1,h1,h2⟩:=h;exact⟨v,r,e1,Rp.any z.1 h1,Rps.any z.2 h2⟩
end
def oA(pk:List Nat)(i:Nat)(e:TEd):TSd:=⟨λE ss=>e.run (frz pk ss) λd=>d.lf=true/\E.nx (ss.set i (.val d)),λh q=>e.mono (λd q=>⟨q.1,h.nx _ q.2⟩) q⟩
theorem oA.ok{pk:List Nat}{i:Nat}{x:Str}{p':Pos}(hN:X.N.Nodup)(hi:X.N[i]? = some x)(hx:AZ X.env.scope x)(h:PE X a (LE X.K ta))(hs:swapsWith a (some (.Name x p')) pos.line X.env=pure false)(hf:X.fn x=true\/X.env.scope.names.lookup x=some .local) :
  PS X (.Assign [.Name x p'] a pos) (LS X.K (oA pk i ta)):=(vv hN hi hx h hs hf).weak λD σ H ⟨c,O,ss,R,q⟩=>by
 obtain⟨O',R'⟩:=R.frz (fz:=pk);refine⟨c.f,O',_,R'.sl,ta.mono (λd q v H1 e r=>?_) q⟩;have R1:=R.ex e;exact q.2 O _ H1 (R1.to (R1.sl.set (r.any q.1)) Sub.set)
theorem Rps.eraseIdx:∀{ds:List D} {vs:List V} (n:Nat),Rps K f O H ds vs->Rps K f O H (ds.eraseIdx n) (vs.eraseIdx n)
 | [],_,n,h=>by rw[show _=[] from h];rfl
 | d::ds,_,0,h=>by
  obtain⟨v,r,e1,h1,h2⟩:=h;subst e1;exact h2
 | d::ds,_,n+1,h=>by
  obtain⟨v,r,e1,h1,h2⟩:=h;subst e1;exact⟨v,_,rfl,h1,Rps.eraseIdx n h2⟩
def popD(l:List D)(dk:D)(Q:Nat->D->Prop):Prop:=match dk with | .int z=>0<=z/\∃ d,l[z.toNat]? = some d/\Q z.toNat d|_=>False
theorem popD.mono{l:List D}{dk:D}{Q Q':Nat->D->Prop}(h:∀ j x,Q j x->Q' j x):popD l dk Q->popD l dk Q':=by
 cases dk <;> first|exact id|exact fun⟨z,d,q1,q2⟩=>⟨z,d,q1,h _ _ q2⟩
def oB(j i:Nat)(k:TEd):TSd:=⟨λE ss=>match ss[i]? with|some (.own l)=>l.length<=sizeLine/\k.run ss λdk=>popD l dk λn d=>E.nx ((ss.set i (.own (l.eraseIdx n))).set j (.val d))|_=>False,λ{E E' ss} h q=>by
 revert q;split
 ·exact λq=>⟨q.1,k.mono (λdk=>popD.mono λn d=>h.nx _) q.2⟩
 ·exact id⟩
theorem oB.ok{i j:Nat}{y:Str}{x:Expr}{ap cp p':Pos}(hN:X.N.Nodup)(hj:X.N[j]? = some y)(hy:AZ X.env.scope y)(hf:X.fn y=true\/X.env.scope.names.lookup y=some .local)(hx:PE X x (vc i))(hb:attributeBase x "pop" X.env (eval x X.env)=eval x X.env)(h:PE X a (LE X.K ta))(hs:starEach [a] X.env=[(false,eval a X.env)])(hl:(ap.endLine == cp.line)=true)(hw:swapsWith (.Call (.Attribute x "pop" ap) [a] [] cp) (some (.Name y p')) pos.line X.env=pure false) :
  PS X (.Assign [.Name y p'] (.Call (.Attribute x "pop" ap) [a] [] cp) pos) (LS X.K (oB j i ta)):=by
 refine (vv (pos:=pos) hN hj hy (Ax (apos:=ap) (cpos:=cp) PySem.F.plainAttrs_list PySem.F.slot_list_pop PySem.F.type_list_pop AE hx (sT h pa_nil hs) hb (by rw[hs];rfl) hl hs rfl) hw hf).weak λD σ H ⟨c,O,ss,R,q⟩=>?_;have q:(match ss[i]? with|some (.own l)=>l.length<=sizeLine/\ta.run ss λdk=>popD l dk λn d=>(va X.K c D).nx ((ss.set i (.own (l.eraseIdx n))).set j (.val d))|_=>False):=q;split at q
 ·rename_i l el;obtain⟨p,xs,h1,h2,h3,h4,h5⟩:=R.sl.own i l el;refine⟨_,h1,.inl ⟨rfl,xs,SqL.of h4⟩,R.le q.2 λdk v H1 R1 e1 r w=>?_⟩;cases dk <;> first|exact False.elim w|skip
  rename_i z;obtain⟨z0,d,w1,w2⟩:=w;cases (show v=_ from r);obtain⟨k,rfl⟩:=bz z0;rw[aB] at w1 w2;have hp:=e1.sm.app p _ h3 h4;have r5:=R.sl.ups e1 h5;obtain⟨v,hv,rv⟩:=r5.get w1;have hk:=(af.mp hv).1;have hn:=t9;have hz:=q.1;have hle:=r5.len;have R2:=R1.wr el h1 (r5.eraseIdx k);have kp:Kp O H1 (tJ H1 p (.lst (xs.eraseIdx k))):=λb o n q=>by
   rw[sS (by rintro rfl;exact n h2)];exact q
  refine⟨p,xs,k,k,v,rfl,rfl,hp,by omega,by omega,?_,hv,w2 O _ _ (R2.to (R2.sl.set (rv.kp kp R1.sl.al)) Sub.set)⟩;unfold seqIndex?;first|(rw[if_neg (by omega)];simp;omega)|(simp;omega)
 ·exact q.elim
def qX(i j:Nat)(k:TEd):TSd:=⟨λE ss=>match ss[i]?,ss[j]? with|some (.own l),some (.own m)=>i≠j/\l.length<sizeLine/\m.length<=sizeLine/\k.run ss λdk=>popD m dk λn d=>E.nx ((ss.set j (.own (m.eraseIdx n))).set i (.own (l++[d])))|_,_=>False,λ{E E' ss} h q=>by
 revert q;split
 ·exact λq=>⟨q.1,q.2.1,q.2.2.1,k.mono (λdk=>popD.mono λn d=>h.nx _) q.2.2.2⟩
 ·exact id⟩
theorem qX.ok{i j:Nat}{x y:Expr}{ap cp ap2 cp2:Pos}(hx:PE X x (vc i))(hb:attributeBase x "append" X.env (eval x X.env)=eval x X.env)(hl:(ap.endLine == cp.line)=true)(hy:PE X y (vc j))(hb2:attributeBase y "pop" X.env (eval y X.env)=eval y X.env)(hl2:(ap2.endLine == cp2.line)=true)(h:PE X a (LE X.K ta))(hs:starEach [a] X.env=[(false,eval a X.env)])
  (hw:swapsWith (.Call (.Attribute x "append" ap) [.Call (.Attribute y "pop" ap2) [a] [] cp2] [] cp) none pos.line X.env=pure false) :
  PS X (.Expr (.Call (.Attribute x "append" ap) [.Call (.Attribute y "pop" ap2) [a] [] cp2] [] cp) pos) (LS X.K (qX i j ta)):=by
 refine (xG (pos:=pos) (Ax (apos:=ap) (cpos:=cp) PySem.F.plainAttrs_list PySem.F.slot_list_append PySem.F.type_list_append yQ hx (sT (Ax (apos:=ap2) (cpos:=cp2) PySem.F.plainAttrs_list PySem.F.slot_list_pop PySem.F.type_list_pop AE hy (sT h pa_nil hs) hb2 (by rw[hs];rfl) hl2 hs rfl) pa_nil rfl) hb rfl hl rfl rfl) hw).weak λD σ H ⟨c,O,ss,R,q⟩=>?_;have q:(match ss[i]?,ss[j]? with|some (.own l),some (.own m)=>i≠j/\l.length<sizeLine/\m.length<=sizeLine/\ta.run ss λdk=>popD m dk λn d=>(va X.K c D).nx ((ss.set j (.own (m.eraseIdx n))).set i (.own (l++[d])))|_,_=>False):=q;split at q
 ·rename_i l m el em;obtain⟨p,xs,h1,h2,h3,h4,h5⟩:=R.sl.own i l el;obtain⟨p',xs',g1,g2,g3,g4,g5⟩:=R.sl.own j m em;obtain⟨ne,q1,q2,q⟩:=q;refine⟨_,h1,.inl ⟨rfl,xs,SqL.of h4⟩,⟨_,g1,.inl ⟨rfl,xs',SqL.of g4⟩,R.le q λdk v H1 R1 e1 r w=>?_⟩⟩;cases dk <;> first|exact False.elim w|skip
  rename_i z;obtain⟨z0,d,w1,w2⟩:=w;cases (show v=_ from r);obtain⟨k,rfl⟩:=bz z0;rw[aB] at w1 w2;have hp:=e1.sm.app p _ h3 h4;have hp':=e1.sm.app p' _ g3 g4;have r5:=R.sl.ups e1 h5;have r5':=R.sl.ups e1 g5;obtain⟨v,hv,rv⟩:=r5'.get w1;have hk:=(af.mp hv).1;have hn:=t9;have hle:=r5'.len;have pp:p≠p':=by
   rintro rfl;exact ne ((R.own j m p em g1).2.2 i l el h1)
  have R2:=R1.wr em g1 (r5'.eraseIdx k);have kp:Kp O H1 (tJ H1 p' (.lst (xs'.eraseIdx k))):=λb o n q=>by
   rw[sS (by rintro rfl;exact n g2)];exact q
  have el2:(ss.set j (.own (m.eraseIdx k)))[i]? = some (.own l):=by rw[aH (Ne.symm ne)];exact el
  have r6:Rps X.K c.f O (tJ H1 p' (.lst (xs'.eraseIdx k))) (l++[d]) (xs++[v]):=(r5.kp kp R1.sl.al).append ⟨v,[],rfl,rv.kp kp R1.sl.al,rfl⟩;have R3:=R2.wr el2 h1 r6;refine⟨p',xs',k,k,v,rfl,rfl,hp',by omega,by omega,?_,hv,⟨p,xs,v,rfl,rfl,by rw[sS pp];exact hp,by rw[r5.len];exact q1,w2 O σ _ R3⟩⟩;unfold seqIndex?;first|(rw[if_neg (by omega)];simp;omega)|(simp;omega)
 ·exact q.elim
def insD(l:List D)(dk d:D)(Q:Nat->Prop):Prop:=d.lf=true/\l.length<sizeLine/\(match dk with | .int z=>0<=z/\z<=(l.length:Int)/\Q z.toNat|_=>False)
theorem insD.mono{l:List D}{dk d:D}{Q Q':Nat->Prop}(h:∀ j,Q j->Q' j):insD l dk d Q->insD l dk d Q':=by
 cases dk <;> first|exact id|exact fun⟨z1,z2,z3,z4,q⟩=>⟨z1,z2,z3,z4,h _ q⟩
def rX(pk:List Nat)(i:Nat)(k e:TEd):TSd:=⟨λE ss=>match ss[i]? with|some (.own l)=>k.run (frz pk ss) λdk=>e.run (frz pk ss) λd=>insD l dk d λn=>E.nx (ss.set i (.own (l.take n++d::l.drop n)))|_=>False,λ{E E' ss} h q=>by
 revert q;split
 ·exact k.mono λdk=>e.mono λd=>insD.mono λn=>h.nx _
 ·exact id⟩
theorem rX.ok{pk:List Nat}{i:Nat}{x:Expr}{ap cp:Pos}(hx:PE X x (vc i))(hb:attributeBase x "insert" X.env (eval x X.env)=eval x X.env)(h:PE X a (LE X.K ta))(h':PE X b (LE X.K tb))(hs:starEach [a,b] X.env=[(false,eval a X.env),(false,eval b X.env)])(hs2:starEach [b] X.env=[(false,eval b X.env)])(hl:(ap.endLine == cp.line)=true)(hw:swapsWith (.Call (.Attribute x "insert" ap) [a,b] [] cp) none pos.line X.env=pure false) :
  PS X (.Expr (.Call (.Attribute x "insert" ap) [a,b] [] cp) pos) (LS X.K (rX pk i ta tb)):=by
 refine (xG (pos:=pos) (Ax (apos:=ap) (cpos:=cp) PySem.F.plainAttrs_list PySem.F.slot_list_insert PySem.F.type_list_insert Do hx (sT h (sT h' pa_nil hs2) (by rw[hs,hs2])) hb (by rw[hs];rfl) hl (by rw[hs,hs2]) (by rw[hs2];rfl)) hw).weak λD σ H ⟨c,O,ss,R,q⟩=>?_;obtain⟨O',R'⟩:=R.frz (fz:=pk);have q:(match ss[i]? with|some (.own l)=>ta.run (frz pk ss) λdk=>tb.run (frz pk ss) λd=>insD l dk d λn=>(va X.K c D).nx (ss.set i (.own (l.take n++d::l.drop n)))|_=>False):=q;split at q
 ·rename_i l el;obtain⟨p,xs,h1,h2,h3,h4,h5⟩:=R.sl.own i l el;refine⟨_,h1,.inl ⟨rfl,xs,SqL.of h4⟩,⟨c.f,O',_,R'.sl,ta.mono (λdk w v H1 e1 r=>⟨c.f,O',_,(R'.ex e1).sl,tb.mono (λd w v' H2 e2 r'=>?_) w⟩) q⟩⟩;obtain⟨w1,w2,w3⟩:=w;cases dk <;> first|exact False.elim w3|skip
  rename_i z;obtain⟨w3,w4,w5⟩:=w3;cases (show v=_ from r);obtain⟨k,rfl⟩:=bz w3;rw[aB] at w5;have e12:=e1.trans e2;have hp:=e12.sm.app p _ h3 h4;have r5:=R.sl.ups e12 h5;have R2:=R.ex e12;have hle:=r5.len;exact⟨p,xs,v',k,rfl,rfl,hp,by omega,by omega,w5 O σ _ (R2.wr el h1 ((r5.take k).append ⟨v',_,rfl,r'.any w1,r5.drop k⟩))⟩
 ·exact q.elim
theorem sF.ok{fz:List Nat}{scope:Scope}{hide:List Nat}{it:TAd}{g:TGd}{c:TTd}{e:TEd}{tg iter elt:Expr}{ifs:List Expr}{i:Nat}{y:Str}{py ep:Pos}(hc:X.calm=true)(hN:X.N.Nodup)(hy:X.N[i]? = some y)(hl:AZ X.env.scope y)(Sc:CompS X.N X.env.scope scope hide)(hi:PI X tg iter (LI X.K it))
  (hg:∀ s2 H2 fp pins C,PG (uY X scope s2 H2 fp pins C) tg (LG X.K g)) (ht:∀ s2 H2 fp pins C,PTs (uY X scope s2 H2 fp pins C) ifs (LT X.K c)) (he:∀ s2 H2 fp pins C,PE (uY X scope s2 H2 fp pins C) elt (LE X.K e))
  (hs:∀ x,foldedSetIterable iter X.env x=pure x) (hh:∀ i∈g.tg,i∈hide) (hsw:swapsWith (.ListComp elt [⟨tg,iter,ifs,0⟩] scope ep) (some (.Name y py)) pos.line X.env=pure true) (hf:X.fn y=true\/X.env.scope.names.lookup y=some .local) :
  PS X (.Assign [.Name y py] (.ListComp elt [⟨tg,iter,ifs,0⟩] scope ep) pos) (LS X.K (jj fz i (gB it hide g c e))) :=
 (Cc (spos:=pos) hc hN hy hl Sc hi hg ht he hs hsw hf).weak λD σ H ⟨c0,O,ss,R,q⟩=>by
  obtain⟨O',R⟩:=R.frz (fz:=fz);refine⟨c0.f,O',_,R.sl,it.mono (λds q J H1 e1 D0=>?_) q⟩;have R1:=R.ex e1;refine compD.okF R1.sl hh D0 (compD.mono (λd q=>?_) q);cases d <;> first|exact False.elim q|skip
  rename_i l;exact⟨l,rfl,λp xs H' e hp hx r=>q _ _ H' (R.mkOwn (e1.trans e) (e1.low (λz=>R1.sl.nO hp (z ▸ R1.sl.fO)) hp) hx r)⟩
def pQ(fz:List Nat)(i j k:Nat)(a c:TEd):TSd:=⟨λE ss=>a.run (frz fz ss) λd=>c.run (frz fz ss) λd'=>d'.lf=true/\E.nx ((((frz fz ss).set i (.val d)).set j (.own [])).set k (.val d')),λh q=>a.mono (λd q=>c.mono (λd' q=>⟨q.1,h.nx _ q.2⟩) q) q⟩
theorem pQ.ok{fz:List Nat}{i j k kt k2:Nat}{es:List Expr}{pt pt2 pl:Pos}(ha:PE X a (LE X.K ta))(hb:PE X b (LE X.K tb))(hs1:starEach [a,.List [] pl,b] X.env=(false,eval a X.env)::starEach [.List [] pl,b] X.env)(hs3:starEach [b] X.env=[(false,eval b X.env)])(hg:PG X (.Tuple es kt pt) (J2 X.K 3 (gsAll [i,j,k])))
  (hs:swapsWithSole [.Tuple es kt pt] (.Tuple [a,.List [] pl,b] k2 pt2) pos.line X.env=pure false) (hw:swappedStores [.Tuple es kt pt] (.Tuple [a,.List [] pl,b] k2 pt2) X.env=pure none) (h1:(assignEach [.Tuple es kt pt] X.env).map (·.2)=[assign (.Tuple es kt pt) X.env]) :
  PS X (.Assign [.Tuple es kt pt] (.Tuple [a,.List [] pl,b] k2 pt2) pos) (LS X.K (pQ fz i j k ta tb)):=by
 refine (uS (pos:=pos) (EC (sT ha (sT (zr pa_nil) (sT hb pa_nil hs3) rfl) hs1)) hg hs hw h1).weak λD σ H ⟨c0,O,ss,R,q⟩=>?_;obtain⟨O',R⟩:=R.frz (fz:=fz);refine R.le q λd v1 H1 R1 e1 r1 w=>?_;refine⟨aL _,λp hp=>?_⟩;have pO:p ∉ O':=R1.sl.nO hp;have pf:p≠c0.f:=λz=>pO (z ▸ R1.sl.fO);have R2:=R1.ex (R1.sl.new hp (.lst []));refine R2.le w λd' v3 H3 R3 e3 r3 w=>⟨by show 3<=sizeLine;decide,λp' hp'=>?_⟩;have h3:H3 p=some (.lst []):=e3.sm.app p _ pf sX;have e4:=R3.sl.new hp' (.tup [v1,.ref p,v3]);have ne:p≠p':=by rintro rfl;rw[hp'] at h3;cases h3
 have S0:=R1.to (R1.sl.set (i:=i) r1) Sub.set;have S1:=S0.mkOwn (i:=j) (l:=[]) (xs:=[]) ((R1.sl.new hp (.lst [])).trans (e3.trans e4)) hp (by rw[sS ne];exact h3) rfl;have S2:=S1.to (S1.sl.set (i:=k) ((R3.sl.up e4 r3).any (O':=p::O') w.1)) Sub.set;exact⟨p',_,rfl,SqT.of sX,rfl,_,_,rfl,_,_,rfl,_,_,rfl,rfl,w.2 _ _ _ S2⟩
end Dp
namespace Dp
open PySem L2
variable{K:Frag}{f:Addr}{O O':List Addr}{H H':Hp}{X:Cx}{σ:St}{ss:SS}{a:Expr}{ta:TEd}{pos:Pos}
def JL(l:List D):List D:=(List.range (l.length / 2)).filterMap λm=>l[1+m*2]?
theorem Rps.odds(r:Rps K f O H ds vs):∀ ms:List Nat,Rps K f O H (ms.filterMap λm=>ds[1+m*2]?) (ms.filterMap λm=>vs[1+m*2]?)
 | []=>.nil
 | m::ms=>by
  have ih:=Rps.odds r ms;rw[bt,bt];cases hx:ds[1+m*2]? with
  | none =>
   have:vs[1+m*2]? = none:=by
    have h1:=bA.mp hx;exact bA.mpr (by rw[r.len];exact h1)
   rw[this];exact ih
  | some x =>
   obtain⟨u,hu,ru⟩:=r.get hx;rw[hu];exact .cons ru ih
theorem Rps.odd(r:Rps K f O H ds vs):Rps K f O H (JL ds) (Dk vs):=by
 unfold JL Dk;rw[r.len];exact r.odds _
def rJ(a:TEd):TEd:=⟨λss Q=>a.run ss λd=>match d with | .tup l=>Q (.tup (JL l))|_=>False,λ{ss Q Q'} h q=>a.mono (λd q=>by
 revert q;cases d <;> first|exact h _|exact id) q⟩
theorem rJ.ok(ha:PE X a (LE X.K ta)):PE X (.Subscript a (.Slice (some (.Constant (.int 1) j p1)) none (some (.Constant (.int 2) k p3)) p2) pos) (LE X.K (rJ ta)):=by
 refine (yO (pos:=pos) (p2:=p2) (Np X.K) ha (xH (sQ (j:=j) (pos:=p1))) po_none (xH (sQ (j:=k) (pos:=p3)))).weak λσ H Q ⟨f,O,ss,S,q⟩=>?_;refine⟨f,O,ss,S,ta.mono (λd q v H1 e1 r=>?_) q⟩;have S1:=S.ex e1;cases d <;> first|exact False.elim q|skip
 rename_i l;obtain⟨p,xs,rfl,h1,h2⟩:=r;exact⟨_,rfl,_,rfl,rfl,rfl,rfl,p,xs,rfl,h1,λp hp=>q _ _ (e1.trans (S1.new hp _)) (S1.tup hp h2.odd)⟩
end Dp
set_option maxHeartbeats 1000000
namespace Dp
open PySem L2
variable{K:Frag}{X:Cx}{T:Tc}{pos p p2:Pos}{a b e:Expr}{E:FE}{F:FT}
theorem _root_.L2.PTs.weak(h:PTs X es t)(w:∀ σ H Q,t' σ H Q->t σ H Q):PTs X es t':=λpins s σ H Q I q=>h pins s σ H Q I (w σ H Q q)
end Dp
namespace Dp
open PySem L2
variable{P:Program}{w:World}{K:Frag}{mg:Str->Option Value}{base:Heap}
def xQ(K:Frag):Sp:=λvs H Q _=>∃(a:Addr) (ns:List Int),vs=[.ref a]/\SqL K H a (ns.map V.int)/\ns.length<=63/\∀ f H',Same H H'->Fl H' f->H f=none->Q (.ref f) H'
def zh:Sp:=λvs H Q _=>∃(f:Addr) (m:Int),vs=[.ref f,.int m]/\Fl H f/\0<m/\Lt2 9000 m/\∀ d H',0<=d->d<m->Fl H' f->Sm f H H'->Q (.int d) H'
def BZ(K:Frag):Sp:=λvs H Q _=>∃(a:Addr) (ns:List Int),vs=[.ref a]/\SqL K H a (ns.map V.int)/\ns.length<=63/\∀ H',Q (.bl true) H'
def gj:SpB:=.of 2 (α:=Int) (λm ds=>ds=[.fl,.int m]/\0<m/\Lt2 9000 m) (λm d=>∃ i,d = .int i/\0<=i/\i<m)
theorem Dd(g:Def P w K mg base "_law_pick" k ps zh):Def P w K mg base "_law_pick" k ps (AW K gj.n gj.run):=by
 obtain⟨f,fd,F,r⟩:=g.ex;refine⟨f,fd,F.imp (λvs H Q E h=>?_),r⟩;obtain⟨hn,f,O,ds,fl,fO,al,lO,rp,m,⟨rfl,m0,m1⟩,q⟩:=h;obtain⟨v,v',rfl,e1,e2⟩:=Rps.two rp;cases (show v=_ from e1);cases (show v'=_ from e2);exact⟨f,m,rfl,fl,m0,m1,λd H' d0 d1 fl' sm=>q (.int d) ⟨d,rfl,d0,d1⟩ _ H' ⟨sm,fl'⟩ rfl⟩
end Dp
namespace Ca
open Cv
def rv(a:Nat)(f:Nat->Int):Nat->Int:=λj=>if j<=a then f (a-j) else 0
theorem L4(hf:∀ j,a<j->f j=0)(hg:∀ j,b<j->g j=0)(hi:i<=a+b):cv f g (a+b-i)=cv (rv a f) (rv b g) i:=by
 have h1:tm f g (a+1) (a+b-i)=cv f g (a+b-i):=vK λj hj=>hf j (by omega);have h2:tm (rv a f) (rv b g) (a+1) i=cv (rv a f) (rv b g) i:=vK λj hj=>if_neg (by omega);rw[← h1,← h2];unfold tm;rw[DY (λj=>if j<=i then rv a f j*rv b g (i-j) else 0)];refine tL λj hj=>?_;show (if j<=a+b-i then f j*g (a+b-i-j) else 0)=if a+1-1-j<=i then rv a f (a+1-1-j)*rv b g (i-(a+1-1-j)) else 0;have e1:rv a f (a+1-1-j)=f j:=by
  unfold rv;rw[if_pos (by omega),show a-(a+1-1-j)=j by omega]
 rw[e1];by_cases c:a+1-1-j<=i
 ·rw[if_pos c];unfold rv;by_cases d:i-(a+1-1-j)<=b
  ·rw[if_pos d,if_pos (by omega),show b-(i-(a+1-1-j))=a+b-i-j by omega]
  ·rw[if_neg d,if_neg (by omega),bC]
 ·rw[if_neg c,hg (a+b-i-j) (by omega),bC];split <;> rfl
theorem FK(hE:∀ j,0<j->E.getD j 0=0)(j:Nat):cv (fn R) (fn E) j=R.getD j 0*E.getD 0 0:=by
 rw[vH];have:tm (fn E) (fn R) 1 j=cv (fn E) (fn R) j:=vK λi hi=>hE i (by omega);rw[← this];show sm _ 1=_;rw[sm,sm,if_pos (aL _),cx,cD,bO];rfl
end Ca
namespace Pc
open Cv
theorem FF(hf:∀ j,a<j->f j=0)(hg:∀ j,b<j->g j=0):cv f g (a+b)=f a*g b:=by
 have:=Ca.L4 (i:=0) hf hg (aL _);rw[cD,Ca.NH] at this;rw[this];unfold Ca.rv;rw[if_pos (aL _),if_pos (aL _),cD,cD]
theorem BM(hg:∀ j,d<j->g j=0):∀ n,cp g n (n*d)=g d^n
 | 0=>by rw[fc,bR];rfl
 | n+1=>by
  rw[aS];show cv (cp g n) g (n*d+d)=_;rw[FF (λj hj=>wJ (m:=d+1) (λk hk=>hg k (by omega)) n j (by show n*d+1<=j;omega)) hg,BM hg n,bv]
theorem Of.deg_eq(hB:0<B)(hU:0<U)(h:Of P B G U R C)(lp:P.length=n+1)(lg:G.length=d+1)(d1:1<=d)(tp:P.getD n 0≠0)(tg:G.getD d 0≠0):R.length=n*d+1:=by
 have up:=h.deg hB hU;rw[lp,lg] at up;have up':R.length<=n*d+1:=up;rcases aJ (n*d) R.length with c|c
 ·omega
 ·exfalso;have e:=h.2 (n*d);have z:R.getD (n*d) 0=0:=by
   rw[aj,aV c];rfl
  rw[z,aX,lp] at e;have hg:∀ k,d<k->fn G k=0:=λk hk=>sV (by omega);have p0:pc (fn P) (fn G) U n (n*d)=0:=by
   cases n with
   | zero=>rfl
   | succ n=>exact zt (m:=d+1) (λk hk=>hg k (by omega)) (n+1) _ (by show n*d+1<=(n+1)*d;rw[aS];omega)
  have e2:pc (fn P) (fn G) U (n+1) (n*d)=fn P n*fn G d^n*U:=by
   show (pc (fn P) (fn G) U n (n*d)+fn P n*cp (fn G) n (n*d))*U=_;rw[p0,cx,BM hg]
  rw[e2] at e;have c0:=h.1.pos;have:fn P n*fn G d^n*U*C≠0:=cw (cw (cw tp (Int.pow_ne_zero tg)) (aT hU)) (aT c0);exact this e.symm
end Pc
namespace Dp
open PySem L2
def pD(P:List Int)(B:Int):D:=.tup [.tup (P.map .int),.int B]
def fD(t b:Int):D:=.tup [.int t,.int b]
theorem tE:2<=sizeLine:=by rw[sizeLine_eq];decide
theorem vT:1<=sizeLine:=by rw[sizeLine_eq];decide
theorem Ow:0<=sizeLine:=aL _
theorem tX(h:n<=16777216):n<=sizeLine:=by rw[sizeLine_eq];exact h
theorem N6{c:Bool}{A B:Prop}(h1:c=true->A)(h2:c=false->B):if c=true then A else B:=by
 cases c
 ·exact h2 rfl
 ·exact h1 rfl
theorem vf{p:Prop}[Decidable p]{A B:Prop}(h1:p->A)(h2:¬ p->B):if decide p=true then A else B:=by
 by_cases c:p
 ·rw[if_pos (decide_eq_true c)];exact h1 c
 ·rw[if_neg (by simpa using c)];exact h2 c
theorem DJ{p:Prop}[Decidable p]{A B:Prop}(h1:¬ p->A)(h2:p->B):if (!decide p)=true then A else B:=by
 by_cases c:p
 ·rw[if_neg (by simpa using c)];exact h2 c
 ·rw[if_pos (by simpa using c)];exact h1 c
theorem sZ{α:Type}{fs:List α}{i:Nat}{f d:α}(h:fs[i]? = some f):fs.getD i d=f:=by
 rw[aj,h];rfl
theorem sP{α:Type}{fs:List α}{i:Nat}{d:α}(h:fs.length<=i):fs.getD i d=d:=by
 rw[aj,aV h];rfl
theorem vz{ts:List Int}{i:Nat}{x:D}(h:(ts.map D.int)[i]? = some x):i<ts.length/\x = .int (ts.getD i 0):=by
 rw[au] at h;obtain⟨z,hz,rfl⟩:=ac.mp h;rw[sZ hz];exact⟨(af.mp hz).1,rfl⟩
theorem uF{ts:List Int}{i:Nat}(h:i<ts.length):(ts.map D.int)[i]? = some (.int (ts.getD i 0)):=by
 rw[au,aj,ah h];rfl
theorem uo{ts:List Int}{i:Nat}(h:i<ts.length):ts.take (i+1)=ts.take i++[ts.getD i 0]:=by
 rw[List.take_succ_eq_append_getElem h,aj,ah h];rfl
theorem CA(b:Nat)(ts:List Int)(t:Int):Po.gl b (ts++[t])=Nat.gcd (Po.gl b ts) t.natAbs:=by
 unfold Po.gl;rw[fJ];rfl
theorem HK{α:Type}(xs:List α)(x:α):y9 (xs++[x]) (-1)=some x:=by
 unfold y9 zI;rw[if_neg (by omega),if_pos (by rw[ai];simp;omega)];show (xs++[x])[(-1+((xs++[x]).length:Int)).toNat]? = _;rw[ai,aF (by simp;omega)];have:(-1+((xs.length+[x].length:Nat):Int)).toNat-xs.length=0:=by simp;omega
 rw[this];rfl
theorem tv{l:List D}{n:Nat}{d:D}(h:l[n]? = some d)(q:Q d):itD l (n:Int) Q:=by
 unfold itD;rw[CU h];exact q
theorem zK(h:y9 l i=some d)(q:Q d):itD l i Q:=by
 unfold itD;rw[h];exact q
def mI{α:Type}(F:α->Int)(ts:List α):Nat->List D->Prop:=λi ys=>ys=((ts.take i).map F).map D.int
theorem mI.nil{α:Type}{F:α->Int}{ts:List α}:mI F ts 0 []:=rfl
theorem mI.snoc{α:Type}{F:α->Int}{ts:List α}{i:Nat}{ys:List D}{t:α}{z:Int}(h:mI F ts i ys)(ht:ts[i]? = some t)(hz:z=F t):mI F ts (i+1) (ys++[.int z]):=by
 unfold mI at h ⊢;rw[h,hz,eA,ht,aN,aN];rfl
theorem mI.all{α:Type}{F:α->Int}{ts:List α}{n:Nat}{ys:List D}(h:mI F ts n ys)(hn:n=ts.length):ys=(ts.map F).map D.int:=by
 unfold mI at h;rw[h,hn,bE]
theorem wD{ts:List Int}{i:Nat}{x:D}(h:(ts.map D.int)[i]? = some x):∃ z,ts[i]? = some z/\x = .int z:=by
 rw[au] at h;obtain⟨z,hz,rfl⟩:=ac.mp h;exact⟨z,hz,rfl⟩
def oQ:TSd:=(dSq (iR (gu (gy .NotEq (ga 1) (dC (.int 0))))
 (jT [] 0 1 (ga 1) (gg .Mod (ga 0) (ga 1))))
 (gr [] (dB bAbs bAbs.mono (fZ (ga 0) gb))))
def gN:SpB:=.of 2 (α:=Int×Int) (λx ds=>ds=[.int x.1,.int x.2]) (λx d=>d = .int (Fr.cp x.1 x.2))
theorem Ad(x:Int):(if x<0 then -x else x)=((x.natAbs:Nat):Int):=by split <;> omega
theorem mJ:Does 2 oQ gN:=by
 rintro ds Q hn ⟨⟨a,b⟩,rfl,q⟩;refine⟨λs=>∃ a' b':Int,s=[.val (.int a'),.val (.int b')]/\Int.gcd a' b'=Int.gcd a b,λs=>match s with|[_,.val (.int b')]=>b'.natAbs|_=>0,⟨a,b,rfl,rfl⟩,?_⟩;rintro _ ⟨a',b',rfl,hg⟩;refine DJ (p:=b'=0) (λc=>?_) (λc=>?_)
 ·exact⟨c,⟨b',a'.fmod b',rfl,by rw[Fr.Fd];exact hg⟩,Fr.CF a' b' c⟩
 ·subst c;refine q _ ?_;show D.int (if a'<0 then -a' else a') = .int (Fr.cp a b);unfold Fr.cp;rw[Ad,← hg,Int.gcd_zero_right]
def nS:TSd:=(dSq (jT [] 0 1 (dB bAbs bAbs.mono (fZ (ga 0) gb)) (dB bAbs bAbs.mono (fZ (ga 1) gb)))
 (dSq (iR (jF (ga 1))
 (jT [] 0 1 (ga 1) (gg .Mod (ga 0) (ga 1))))
 (gr [] (ga 0))))
def gS:SpB:=.of 2 (α:=Int×Int) (λx ds=>ds=[.int x.1,.int x.2]) (λx d=>d = .int (Fr.cp x.1 x.2))
theorem lJ:Does 2 nS gS:=by
 rintro ds Q hn ⟨⟨a,b⟩,rfl,q⟩;show (dSq (iR _ _) _).run _ [.val (.int (if a<0 then -a else a)),.val (.int (if b<0 then -b else b))];rw[Ad,Ad];refine⟨λs=>∃ a' b':Nat,s=[.val (.int a'),.val (.int b')]/\Nat.gcd a' b'=Int.gcd a b,λs=>match s with|[_,.val (.int b')]=>b'.natAbs|_=>0,⟨a.natAbs,b.natAbs,rfl,rfl⟩,?_⟩;rintro _ ⟨a',b',rfl,hg⟩;refine N6 (c:=((b':Int) != 0)) (λc=>?_) (λc=>?_)
 ·have c':b'≠0:=by
   intro z;subst z;simp at c
  refine⟨by omega,⟨b',a'%b',?_,by rw[Nat.gcd_comm,← Nat.gcd_rec,Nat.gcd_comm];exact hg⟩,?_⟩
  ·show [SD.val (.int b'),.val (.int ((a':Int).fmod b'))]=_;rw[dg _ (by omega)];rfl
  ·show ((a':Int).fmod b').natAbs<(b':Int).natAbs;exact Fr.CF _ _ (by omega)
 ·have c':b'=0:=by
   have:((b':Int)=0):=by simpa using c
   omega
  subst c';refine q _ ?_;show D.int a' = .int (Fr.cp a b);unfold Fr.cp;rw[← hg,Nat.gcd_zero_right]
def nj:TSd:=(dSq (gk [] (gNm 2) (ge gN (fZ (ga 0) (fZ (ga 1) gb))))
 (dSq (dIf [] (gu (gy .Lt (ga 1) (dC (.int 0))))
 (gk [] (gNm 2) (gg .Sub (dC (.int 0)) (ga 2)))
 gz)
 (gr [] (gm (fZ (gg .FloorDiv (ga 0) (ga 2)) (fZ (gg .FloorDiv (ga 1) (ga 2)) gb))))))
def gJ:SpB:=.of 2 (α:=Int×Int) (λx ds=>ds=[.int x.1,.int x.2]/\x.2≠0/\Lt2 9000000 x.2) (λx d=>d=fD (Fr.top x.1 x.2) (Fr.bot x.1 x.2))
theorem kB:Does 3 nj gJ:=by
 rintro ds Q hn ⟨⟨a,b⟩,⟨rfl,h0,hl⟩,q⟩;refine⟨rfl,(a,b),rfl,?_⟩;rintro _ rfl;have fin:∀ p:Int,p=Fr.part a b->t5 a p/\t5 b p/\2<=sizeLine/\Q (.tup [.int (a.fdiv p),.int (b.fdiv p)]):=by
  rintro p rfl;have c:∀ x,t5 x (Fr.part a b):=λx=>⟨Fr.Cg h0,9000000,hl.le (Fr.Ci h0),by decide⟩;exact⟨c _,c _,tE,q _ rfl⟩
 refine vf (p:=b<0) (λc=>?_) (λc=>?_)
 ·exact fin _ (by unfold Fr.part;rw[if_pos c];simp)
 ·exact fin _ (by unfold Fr.part;rw[if_neg c])
theorem AL{ts:List Int}{k:Nat}(h:k<ts.length):(((ts.take (k+1)).map D.int)).dropLast=(ts.take k).map D.int:=by
 rw[uo h,aN];exact List.dropLast_concat
theorem dSq.cut(R:SS->Prop)(h1:t.run (E.to R) ss)(h2:∀ s,R s->u.run E s):(dSq t u).run E ss:=t.mono (E:=E.to R) (E':=E.to (u.run E)) ⟨h2,λ_ z=>z,λ_ z=>z,λ_ z=>z⟩ h1
def oS:TSd:=(gr [0] (gm (fZ (dB bTuple bTuple.mono (fZ (gB (gD (ga 0)) [3] (gNm 3) gP (gg .FloorDiv (ga 3) (ga 2))) gb)) (fZ (gg .FloorDiv (ga 1) (ga 2)) gb))))
def oU:TSd:=dSq (ia [0] (gD (ga 0)) (gNm 3)
 (gk [] (gNm 2) (ge gN (fZ (ga 2) (fZ (ga 3) gb)))))
 oS
def oV:TSd:=dSq (gk [] (gNm 2) (ga 1))
 oU
def kC:TSd:=dSq (iR (ju (gu (gy .Gt (oz 0) (dC (.int 0)))) (gu (gy .Eq (mH 0 (nc (dC (.int 1)))) (dC (.int 0)))))
 (rH 0))
 oV
def qx:TSd:=dSq (jj [0] 0 (jR (ga 0)))
 kC
def gh:SpB:=.of 2 (α:=List Int×Int) (λx ds=>(ds=[.lst (x.1.map .int),.int x.2]\/ds=[.tup (x.1.map .int),.int x.2])/\0<x.2/\Lt2 9000000 x.2/\x.1.length<=1000)
 (λx d=>∃ P B,d=pD P B/\Po.Fm P B/\(∀ k,P.getD k 0*x.2=x.1.getD k 0*B)/\P.length<=x.1.length)
theorem nT:Does 4 qx gh:=by
 rintro ds Q hn ⟨⟨ts,b⟩,⟨hd,hb,hl,hz⟩,q⟩;dsimp only at hd hb hl hz q;have sl:(1000:Nat)<=sizeLine:=by rw[sizeLine_eq];decide
 suffices h:kC.run (s9 Q) [.own (ts.map .int),.val (.int b),.no,.no] by
  rcases hd with rfl|rfl
  ·exact h
  ·exact h
 refine dSq.cut (λs=>∃ m:Nat,s=[.own ((ts.take m).map .int),.val (.int b),.no,.no]/\m<=ts.length/\(∀ j,m<=j->ts.getD j 0=0)/\(m=0\/ts.getD (m-1) 0≠0)) ?_ ?_
 rotate_left
 ·rintro _ ⟨m,rfl,hm,h0,hlast⟩;obtain⟨fm,wr⟩:=Po.form hb hm h0 hlast;have bn:((b.natAbs:Nat):Int)=b:=by omega
  refine⟨λi s=>∃ o,s=[.val (.lst ((ts.take m).map .int)),.val (.int b),.val (.int ((Po.gl b.natAbs ((ts.take m).take i):Nat):Int)),o],⟨.no,?_⟩,?_,?_⟩
  ·show [SD.val _,.val (.int b),.val (.int b),.no]=[SD.val _,.val (.int b),.val (.int ((b.natAbs:Nat):Int)),.no];rw[bn]
  ·rintro i d s hd ⟨o,rfl⟩;obtain⟨hi,rfl⟩:=vz hd;refine⟨rfl,(_,_),rfl,?_⟩;rintro _ rfl;refine⟨.val (.int ((ts.take m).getD i 0)),?_⟩;rw[uo hi,CA];rfl
  ·rintro s ⟨o,rfl⟩;rw[aa,bE];have g0:0<Po.gl b.natAbs (ts.take m):=Po.Bv (by omega) _;have gle:Po.gl b.natAbs (ts.take m)<=b.natAbs:=dE (by omega) (Po.yj _ _).1;generalize Po.gl b.natAbs (ts.take m)=g at *;have cd:∀ x:Int,t5 x (g:Int):=λx=>⟨by omega,9000000,hl.le (by rw[cn];exact gle),by decide⟩;refine⟨by rw[aa,aM];omega,mI (λz=>z.fdiv (g:Int)) (ts.take m),mI.nil,λi d ys hd _ hy=>?_,λys _ hy=>?_⟩
   ·obtain⟨z,hz,rfl⟩:=wD hd;exact⟨cd _,hy.snoc hz rfl⟩
   ·cases hy.all (by rw[aa]);exact⟨cd _,tE,q _ ⟨_,_,rfl,fm,wr,by rw[aa,aM];omega⟩⟩
 ·refine⟨λs=>∃ m:Nat,s=[.own ((ts.take m).map .int),.val (.int b),.no,.no]/\m<=ts.length/\∀ j,m<=j->ts.getD j 0=0,λs=>match s with | .own l::_=>l.length|_=>0,⟨ts.length,by rw[bE],aq _,λj hj=>sP hj⟩,?_⟩;rintro _ ⟨m,rfl,hm,h0⟩;have lm:((ts.take m).map D.int).length=m:=by rw[aa,aM];omega
  refine vf (p:=(0:Int)<(((ts.take m).map D.int).length:Nat)) (λc=>?_) (λc=>?_)
  ·rw[lm] at c;obtain⟨k,rfl⟩:∃ k,m=k+1:=⟨m-1,by omega⟩;have hk:k<ts.length:=by omega
   have la:y9 ((ts.take (k+1)).map D.int) (-1)=some (.int (ts.getD k 0)):=by
    rw[uo hk,aN];exact HK _ _
   refine zK la (vf (p:=ts.getD k 0=0) (λz=>?_) (λz=>?_))
   ·refine⟨λe=>?_,⟨k,?_,by omega,λj hj=>?_⟩,?_⟩
    ·rw[e] at lm;cases lm
    ·show [SD.own _,_,_,_]=_;rw[AL hk]
    ·rcases bB hj with w|w
     ·rw[← w];exact z
     ·exact h0 j w
    ·show (((ts.take (k+1)).map D.int)).dropLast.length<((ts.take (k+1)).map D.int).length;rw[AL hk,lm,aa,aM];omega
   ·exact⟨k+1,rfl,hm,h0,.inr z⟩
  ·rw[lm] at c;exact⟨m,rfl,hm,h0,.inl (by omega)⟩
theorem wj{ts:List Int}{i k:Nat}{z:Int}(h:i<ts.length):(ts.set i z).getD k 0=if k=i then z else ts.getD k 0:=by
 rw[aj,aj,aR];by_cases e:i=k
 ·subst e;rw[if_pos rfl,if_pos h,if_pos rfl];rfl
 ·rw[if_neg e,if_neg (Ne.symm e)]
theorem map_set{ts:List Int}{i:Nat}{z:Int}:(ts.map D.int).set i (.int z)=(ts.set i z).map D.int:=by
 rw[List.map_set]
theorem yG{ts:List Int}{i k:Nat}(h:i<ts.length):(ts.take (i+1)).getD k 0=(ts.take i).getD k 0+(if k=i then ts.getD i 0 else 0):=by
 rw[uo h];by_cases e:k=i
 ·subst e;rw[if_pos rfl,sP (fs:=ts.take k) (by rw[aM];omega)];have:(ts.take k++[ts.getD k 0]).getD k 0=ts.getD k 0:=sZ (by rw[aF (by rw[aM];omega),aM,cH (by omega),bY];rfl);rw[this,cx]
 ·rw[if_neg e,bS,← uo h,aj,aj,fG,fG];by_cases c:k<i
  ·rw[if_pos c,if_pos (by omega)]
  ·rw[if_neg c,if_neg (by omega)]
theorem tI(n:Nat):(List.replicate n [D.int 0]).flatten=(List.replicate n (0:Int)).map D.int:=by
 induction n with
 | zero=>rfl
 | succ n ih=>rw[bF,ca,ih,bF];rfl
theorem xZ(n k:Nat):(List.replicate n (0:Int)).getD k 0=0:=by
 rw[aj,cR];split <;> rfl
theorem uW{ts:List Int}{i:Nat}{d:D}(h:(wI (ts.map D.int))[i]? = some d):i<ts.length/\d = .tup [.int (i:Nat),.int (ts.getD i 0)]:=by
 obtain⟨x,hx,rfl⟩:=yY h;obtain⟨hi,rfl⟩:=vz hx;exact⟨hi,rfl⟩
theorem Ac(h:n<l.length)(q:Q n):atD l (.int (n:Nat)) Q:=by
 unfold atD;dsimp only;have:zI l.length (n:Int)=some n:=by
  unfold zI;rw[if_pos (by omega),if_pos (by omega)];rfl
 rw[this];exact q
def pR:TSd:=(gr [3] (ge gh (fZ (ga 3) (fZ (gg .Mult (dIx (ga 0) (dC (.int 1))) (dIx (ga 1) (dC (.int 1)))) gb))))
def pS:TSd:=dSq (ia [] (iW (dIx (ga 1) (dC (.int 0)))) (gTp [4,5])
 (kA [] 3 (ga 4) (gg .Add (mH 3 (ga 4)) (gg .Mult (ga 5) (dIx (ga 0) (dC (.int 1)))))))
 pR
def jH:TSd:=dSq (ia [] (iW (dIx (ga 0) (dC (.int 0)))) (gTp [4,5])
 (kA [] 3 (ga 4) (gg .Add (mH 3 (ga 4)) (gg .Mult (ga 5) (dIx (ga 1) (dC (.int 1)))))))
 pS
def jI:TSd:=dSq (jj [] 3 (gg .Mult (gv (fZ (dC (.int 0)) gb)) (ga 2)))
 jH
def rc:TSd:=dSq (gk [] (gNm 2) (dB bMax bMax.mono (fZ (dB bLen bLen.mono (fZ (dIx (ga 0) (dC (.int 0))) gb)) (fZ (dB bLen bLen.mono (fZ (dIx (ga 1) (dC (.int 0))) gb)) gb))))
 jI
def gE:SpB:=.of 2 (α:=List Int×Int×List Int×Int×Nat×Nat×Nat×Nat) (λ(P,B,P',B',n,b,m,c) ds=>ds=[pD P B,pD P' B']/\Pc.Pz n b P B/\Pc.Pz m c P' B'/\b+c<=9000000/\n+m<=9000000/\P.length<=900/\P'.length<=900)
 (λ(P,B,P',B',n,b,m,c) d=>∃ R C,d=pD R C/\Po.Fm R C/\∀ k,R.getD k 0*(B*B')=(P.getD k 0*B'+P'.getD k 0*B)*C)
theorem oW:Does 6 rc gE:=by
 rintro ds Q hn ⟨⟨P,B,P',B',n,b,m,c⟩,⟨rfl,G1,G2,hb,hm,l1,l2⟩,q⟩;dsimp only at G1 G2 hb hm l1 l2 q;have sl:(1000:Nat)<=sizeLine:=by rw[sizeLine_eq];decide
 have p1:=G1.fm.pos;have p2:=G2.fm.pos;obtain⟨M,hM⟩:∃ M:Nat,M=max P.length P'.length:=⟨_,rfl⟩;have lb1:=G1.bot;have lb2:=G2.bot;suffices h:jH.run (s9 Q) [.val (pD P B),.val (pD P' B'),.val (.int M),.own ((List.replicate M (0:Int)).map .int),.no,.no] by
  have e0:(if ((P'.map D.int).length:Int) > ((P.map D.int).length:Nat) then ((P'.map D.int).length:Int) else ((P.map D.int).length:Nat))=(M:Nat):=by
   rw[aa,aa];split <;> omega
  suffices h1:jI.run (s9 Q) [.val (pD P B),.val (pD P' B'),.val (.int M),.no,.no,.no] by
   show jI.run (s9 Q) [.val (pD P B),.val (pD P' B'),.val (.int (if ((P'.map D.int).length:Int) > ((P.map D.int).length:Nat) then ((P'.map D.int).length:Int) else ((P.map D.int).length:Nat))),.no,.no,.no];rw[e0];exact h1
  refine⟨by rw[sizeLine_eq];decide,by omega,by omega,by show 1*M<=_;omega,?_⟩;show jH.run (s9 Q) [.val (pD P B),.val (pD P' B'),.val (.int M),.own (List.replicate M [D.int 0]).flatten,.no,.no];rw[tI];exact h
 refine⟨λi s=>∃ F:List Int,∃ o o':SD,s=[.val (pD P B),.val (pD P' B'),.val (.int M),.own (F.map .int),o,o']/\F.length=M/\∀ k,F.getD k 0=(P.take i).getD k 0*B',⟨_,_,_,rfl,aQ,λk=>by rw[xZ,dQ];simp⟩,?_,?_⟩
 ·rintro i d _ hd ⟨F,o,o',rfl,hF,hf⟩;obtain⟨hi,rfl⟩:=uW hd;have hiF:i<F.length:=by omega
  refine⟨rfl,tv (uF hiF) ⟨⟨n,c,G1.tops i,lb2,by omega⟩,Ac (by rw[aa];exact hiF) ⟨F.set i (F.getD i 0+P.getD i 0*B'),.val (.int (i:Nat)),.val (.int (P.getD i 0)),?_,by rw[bj];exact hF,λk=>?_⟩⟩⟩
  ·show [SD.val _,.val _,.val _,.own ((F.map D.int).set i (.int (F.getD i 0+P.getD i 0*B'))),_,_]=_;rw[map_set]
  ·rw[wj hiF,yG hi];by_cases e:k=i
   ·subst e;rw[if_pos rfl,if_pos rfl,hf,dU]
   ·rw[if_neg e,if_neg e,hf,bS]
 ·rintro _ ⟨F,o,o',rfl,hF,hf⟩;rw[tq,aa,bE] at hf;refine⟨λi s=>∃ F:List Int,∃ o o':SD,s=[.val (pD P B),.val (pD P' B'),.val (.int M),.own (F.map .int),o,o']/\F.length=M/\∀ k,F.getD k 0=P.getD k 0*B'+(P'.take i).getD k 0*B,⟨F,_,_,rfl,hF,λk=>by rw[hf,dQ];simp⟩,?_,?_⟩
  ·rintro i d _ hd ⟨F,o,o',rfl,hF,hf⟩;obtain⟨hi,rfl⟩:=uW hd;have hiF:i<F.length:=by omega
   refine⟨rfl,tv (uF hiF) ⟨⟨m,b,G2.tops i,lb1,by omega⟩,Ac (by rw[aa];exact hiF) ⟨F.set i (F.getD i 0+P'.getD i 0*B),.val (.int (i:Nat)),.val (.int (P'.getD i 0)),?_,by rw[bj];exact hF,λk=>?_⟩⟩⟩
   ·show [SD.val _,.val _,.val _,.own ((F.map D.int).set i (.int (F.getD i 0+P'.getD i 0*B))),_,_]=_;rw[map_set]
   ·rw[wj hiF,yG hi];by_cases e:k=i
    ·subst e;rw[if_pos rfl,if_pos rfl,hf,dU,Int.add_assoc]
    ·rw[if_neg e,if_neg e,hf,bS]
  ·rintro _ ⟨F,o,o',rfl,hF,hf⟩;rw[tq,aa,bE] at hf;refine⟨⟨b,c,lb1,lb2,by omega⟩,rfl,(F,B*B'),⟨.inl rfl,aP p1 p2,(lb1.mul lb2).mono hb,by show F.length<=1000;omega⟩,?_⟩;rintro _ ⟨R,C,rfl,fm,hw,_⟩;exact q _ ⟨R,C,rfl,fm,λk=>by rw[hw k,hf k]⟩
def nW:TSd:=(gr [2] (ge gh (fZ (ga 2) (fZ (gg .Mult (dIx (ga 0) (dC (.int 1))) (dIx (ga 1) (dC (.int 1)))) gb))))
def iS:TSd:=dSq (ia [] (iW (dIx (ga 0) (dC (.int 0)))) (gTp [3,4])
 (ia [] (iW (dIx (ga 1) (dC (.int 0)))) (gTp [5,6])
 (kA [] 2 (gg .Add (ga 3) (ga 5)) (gg .Add (mH 2 (gg .Add (ga 3) (ga 5))) (gg .Mult (ga 4) (ga 6))))))
 nW
def pT:TSd:=dSq (jj [] 2 (gg .Mult (gv (fZ (dC (.int 0)) gb)) (gg .Add (dB bLen bLen.mono (fZ (dIx (ga 0) (dC (.int 0))) gb)) (dB bLen bLen.mono (fZ (dIx (ga 1) (dC (.int 0))) gb)))))
 iS
def gG:SpB:=.of 2 (α:=List Int×Int×List Int×Int×Nat×Nat×Nat×Nat) (λ(P,B,P',B',n,b,m,c) ds=>ds=[pD P B,pD P' B']/\Pc.Pz n b P B/\Pc.Pz m c P' B'/\b+c<=9000000/\n+m<=9000000/\P.length<=450/\P'.length<=450)
 (λ(P,B,P',B',n,b,m,c) d=>∃ R C,d=pD R C/\Po.Fm R C/\∀ k,R.getD k 0*(B*B')=Cv.cv (Cv.fn P) (Cv.fn P') k*C)
theorem nq:Does 7 pT gG:=by
 rintro ds Q hn ⟨⟨P1,B1,P2,B2,n,b,m,c⟩,⟨rfl,G1,G2,hb,hm,l1,l2⟩,q⟩;dsimp only at G1 G2 hb hm l1 l2 q;have sl:(1000:Nat)<=sizeLine:=by rw[sizeLine_eq];decide
 have p1:=G1.fm.pos;have p2:=G2.fm.pos;suffices h:iS.run (s9 Q) [.val (pD P1 B1),.val (pD P2 B2),.own ((List.replicate (P1.length+P2.length) (0:Int)).map .int),.no,.no,.no,.no] by
  have e0:(((P1.map D.int).length:Nat):Int)+((P2.map D.int).length:Nat)=((P1.length+P2.length:Nat):Int):=by
   rw[aa,aa];omega
  refine⟨vT,?_,?_,?_,?_⟩
  ·rw[e0];omega
  ·rw[e0];omega
  ·rw[e0];show 1*(P1.length+P2.length)<=_;omega
  ·show iS.run (s9 Q) [.val (pD P1 B1),.val (pD P2 B2),.own (List.replicate ((((P1.map D.int).length:Nat):Int)+((P2.map D.int).length:Nat)).toNat [D.int 0]).flatten,.no,.no,.no,.no];rw[e0,aB,tI];exact h
 refine⟨λi s=>∃(rs:List Int) (o3 o4 o5 o6:SD),s=[.val (pD P1 B1),.val (pD P2 B2),.own (rs.map .int),o3,o4,o5,o6]/\rs.length=P1.length+P2.length/\∀ k,rs.getD k 0=Cv.tm (Cv.fn P1) (Cv.fn P2) i k,⟨_,_,_,_,_,rfl,aQ,λk=>xZ _ _⟩,?_,?_⟩
 ·rintro i d _ hd ⟨rs,o3,o4,o5,o6,rfl,lr,hr⟩;obtain⟨hi,rfl⟩:=uW hd;refine⟨rfl,λk s=>∃(rs:List Int) (o5 o6:SD),s=[.val (pD P1 B1),.val (pD P2 B2),.own (rs.map .int),.val (.int (i:Nat)),.val (.int (P1.getD i 0)),o5,o6]/\rs.length=P1.length+P2.length/\∀ m,rs.getD m 0=Cv.tm (Cv.fn P1) (Cv.fn P2) i m+(if i<=m/\m-i<k then Cv.fn P1 i*Cv.fn P2 (m-i) else 0),⟨rs,_,_,rfl,lr,λm=>by rw[hr m,if_neg (by omega),bS]⟩,?_,?_⟩
  ·rintro k d _ hd ⟨rs',o5',o6',rfl,lr',hr4⟩;obtain⟨hk,rfl⟩:=uW hd;have ik:(i:Int)+(k:Int)=((i+k:Nat):Int):=by omega
   have hiF:i+k<rs'.length:=by omega
   refine⟨rfl,?_⟩;show itI (rs'.map D.int) (.int ((i:Int)+(k:Int))) _;rw[ik];refine tv (uF hiF) ⟨⟨n,m,G1.tops i,G2.tops k,by omega⟩,?_⟩;show atD (rs'.map D.int) (.int ((i:Int)+(k:Int))) _;rw[ik];refine Ac (by rw[aa];exact hiF) ⟨rs'.set (i+k) (rs'.getD (i+k) 0+P1.getD i 0*P2.getD k 0),.val (.int (k:Nat)),.val (.int (P2.getD k 0)),?_,by rw[bj];exact lr',λm=>?_⟩
   ·show [SD.val _,.val _,.own ((rs'.map D.int).set (i+k) (.int (rs'.getD (i+k) 0+P1.getD i 0*P2.getD k 0))),_,_,_,_]=_;rw[map_set]
   ·rw[wj hiF];by_cases e:m=i+k
    ·subst e;rw[if_pos rfl,hr4,if_neg (by omega),if_pos ⟨by omega,by omega⟩,show i+k-i=k by omega,bS];rfl
    ·rw[if_neg e,hr4];congr 1;by_cases c:i<=m/\m-i<k
     ·rw[if_pos c,if_pos ⟨c.1,by omega⟩]
     ·rw[if_neg c,if_neg (by omega)]
  ·rintro _ ⟨rs',o5',o6',rfl,lr',hr4⟩;rw[tq,aa] at hr4;refine⟨rs',_,_,_,_,rfl,lr',λm=>?_⟩;rw[hr4 m,Cv.zf];congr 1;by_cases c:i<=m
   ·rw[if_pos c];by_cases c':m-i<P2.length
    ·rw[if_pos ⟨c,c'⟩]
    ·rw[if_neg (λz=>c' z.2),Cv.sV (P:=P2) (by omega),bC]
   ·rw[if_neg c,if_neg (λz=>c z.1)]
 ·rintro _ ⟨rs,o3,o4,o5,o6,rfl,lr,hr⟩;rw[tq,aa] at hr;refine⟨⟨b,c,G1.bot,G2.bot,by omega⟩,rfl,(rs,B1*B2),⟨.inl rfl,aP p1 p2,(G1.bot.mul G2.bot).mono hb,by show rs.length<=1000;omega⟩,?_⟩;rintro _ ⟨R,C,rfl,fm,hw,_⟩;exact q _ ⟨R,C,rfl,fm,λk=>by rw[hw k];show rs.getD k 0*C=_;rw[hr k,Cv.vK λj h=>Cv.sV h]⟩
def qy:TSd:=(gr [] (ga 2))
def qz:TSd:=dSq (ia [] (nh (dIx (ga 0) (dC (.int 0)))) (gNm 3)
 (gk [] (gNm 2) (ge gE (fZ (ge gG (fZ (ga 2) (fZ (ga 1) gb))) (fZ (ge gh (fZ (gv (fZ (ga 3) gb)) (fZ (dIx (ga 0) (dC (.int 1))) gb))) gb)))))
 qy
def rK:TSd:=dSq (gk [] (gNm 2) (gm (fZ (gm gb) (fZ (dC (.int 1)) gb))))
 qz
def gw:SpB:=.of 2 (α:=List Int×Int×List Int×Int×Nat×Nat×Nat×Nat) (λ(P,B,P',B',n,b,m,c) ds=>ds=[pD P B,pD P' B']/\Pc.Pz n b P B/\Pc.Pz m c P' B'/\b+b+c*P.length<=8900000/\n+(m+c+10)*(P.length+1)<=4000000/\P.length*P'.length<=190/\P.length<=190/\P'.length<=190)
 (λ(P,B,P',B',n,b,m,c) d=>∃ R C,d=pD R C/\Pc.Of P B P' B' R C)
theorem pU:Does 4 rK gw:=by
 rintro ds Q hn ⟨⟨P1,B1,P2,B2,n,b,m,c⟩,⟨rfl,G1,G2,hb,hn,hl,l1,l2⟩,q⟩;dsimp only at G1 G2 hb hn hl l1 l2 q;have p1:=G1.fm.pos;have p2:=G2.fm.pos;have hL:(m+c+10)*P1.length+(m+c+10)=(m+c+10)*(P1.length+1):=by rw[ci]
 have hg:∀ k,P2.length<=k->Cv.fn P2 k=0:=λk h=>Cv.sV h;refine⟨by rw[sizeLine_eq];decide,by rw[sizeLine_eq];decide,λi s=>∃(R:List Int) (C:Int) (o3:SD) (M:Nat->Int),s=[.val (pD P1 B1),.val (pD P2 B2),.val (pD R C),o3]/\Po.Fm R C/\(∀ k,R.getD k 0*(B1*B2^i)=M k*B2*C)/\(∀ k,i*P2.length+1<=k->M k=0)/\(∀ k,Lt2 (n+(m+c+10)*i+1) (M k)) /\
   ∀ k,Pc.pc (Cv.fn P1) (Cv.fn P2) B2 P1.length k=B2^i*Pc.pc (Cv.fn P1) (Cv.fn P2) B2 (P1.length-i) k+B2*Cv.cv (Pc.cp (Cv.fn P2) (P1.length-i)) M k,
  ⟨[],1,.no,λ_=>0,rfl,⟨by decide,.inl rfl,rfl⟩,λk=>by rw[sP (fs:=([]:List Int)) (aL _)];simp,λ_ _=>rfl,λk=>cj (by decide),λk=>by rw[Cv.FD λj=>rfl];simp⟩,?_,?_⟩
 ·rintro i z _ hz ⟨R,C,o3,M,rfl,fx,ex,oM,lM,eM⟩;have hi:i<P1.length:=by have:=(af.mp hz).1;simpa using this
  rw[cm (by rw[aa];exact hi),aa] at hz;obtain⟨_,rfl⟩:=vz hz;have li:(m+c+10)*(i+1)<=(m+c+10)*P1.length:=bG _ hi;rw[ci] at li;have li2:(i+1)*P2.length<=P1.length*P2.length:=aI _ hi;rw[aS] at li2;have li3:c*(i+1)<=c*P1.length:=bG _ hi;rw[ci] at li3;have W:=Hv.pow_pos p2 i;have lW:=Hv.uT G2.bot i;have li5:c*i<=(m+c+10)*i:=aI _ (by omega);have c0:=fx.pos;have zx:Pc.Pz (n+(m+c+10)*i+1+c) (b+(c*i+1)) R C:=Pc.Pz.of fx (aP p1 W) ex (λk=>(lM k).mul G2.bot) (G1.bot.mul lW);have lx:R.length<=i*P2.length+1:=Pc.ub fx (aP p1 W) ex (λk hk=>by rw[oM k hk,aX]);have top:=G1.tops (P1.length-1-i);refine⟨rfl,(R,C,P2,B2,_,_,_,_),⟨rfl,zx,G2,by omega,by omega,by show R.length<=450;omega,by show P2.length<=450;omega⟩,?_⟩;rintro _ ⟨TT,tb,rfl,fT,eT⟩;have t0:=fT.pos;have eT':∀ k,TT.getD k 0*(B1*(B2^i*B2))=Cv.cv M (Cv.fn P2) k*B2*tb:=λk=>Pc.IW c0 ex (eT k);have W2:=aP W p2;have cM:∀ k,Lt2 (n+(m+c+10)*i+1+m+9) (Cv.cv M (Cv.fn P2) k):=λk=>by
   rcases aJ k 500 with cc|cc
   ·exact Cv.FI lM G2.tops (by omega)
   ·rw[Cv.v6 (a:=i*P2.length+1) (b:=P2.length) oM hg (by omega)];exact cj (by decide)
  have oT:∀ k,(i+1)*P2.length+1<=k->Cv.cv M (Cv.fn P2) k=0:=λk hk=>Cv.v6 (a:=i*P2.length+1) (b:=P2.length) oM hg (by rw[aS] at hk;omega);have zT:Pc.Pz (n+(m+c+10)*i+1+m+9+c) (b+(c*i+1+c)) TT tb:=Pc.Pz.of fT (aP p1 W2) eT' (λk=>(cM k).mul G2.bot) (G1.bot.mul (lW.mul G2.bot));have lT:TT.length<=(i+1)*P2.length+1:=Pc.ub fT (aP p1 W2) eT' (λk hk=>by rw[oT k hk,aX]);rw[aS] at lT;refine⟨vT,rfl,([P1.getD (P1.length-1-i) 0],B1),⟨.inl rfl,p1,G1.bot.mono (by omega),by show 1<=1000;decide⟩,?_⟩;rintro _ ⟨E,eb,rfl,fe,ee,le⟩;dsimp only at ee le;have e0:=fe.pos;have ze:Pc.Pz n b E eb:=Pc.Pz.of fe p1 ee (λk=>by
   cases k with
   | zero=>exact top
   | succ k=>rw[sP (fs:=[P1.getD (P1.length-1-i) 0]) (by simp)];exact cj (by decide)) G1.bot
  have le':E.length<=1:=le;refine⟨rfl,(TT,tb,E,eb,_,_,_,_),⟨rfl,zT,ze,by omega,by omega,by show TT.length<=900;omega,by show E.length<=900;omega⟩,?_⟩;rintro _ ⟨R',C',rfl,fx',ex'⟩;refine⟨R',C',_,λj=>Cv.cv M (Cv.fn P2) j+(if j=0 then Cv.fn P1 (P1.length-1-i)*B2^i else 0),rfl,fx',λk=>?_,λk hk=>?_,λk=>?_,λk=>Pc.E9 hg hi eM _ λj=>rfl⟩
  ·rw[bv];have y:=Pc.IV t0 e0 (eT' k) (ee k) (ex' k);rw[y];congr 2;show _=_+_;congr 1;cases k with
   | zero=>rfl
   | succ k=>rw[sP (fs:=[P1.getD (P1.length-1-i) 0]) (by simp),if_neg (by omega),aX]
  ·show Cv.cv M (Cv.fn P2) k+(if k=0 then Cv.fn P1 (P1.length-1-i)*B2^i else 0)=0;rw[oT k hk,if_neg (by omega)];rfl
  ·have y2:Lt2 (n+(m+c+10)*i+1+m+9) (if k=0 then Cv.fn P1 (P1.length-1-i)*B2^i else 0):=by
    split
    ·exact (top.mul lW).mono (by omega)
    ·exact cj (by decide)
   exact ((cM k).add y2).mono (by rw[ci];omega)
 ·rintro _ ⟨R,C,o3,M,rfl,fx,ex,oM,lM,eM⟩;rw[bM,aa] at ex eM;refine q _ ⟨R,C,rfl,fx,λk=>?_⟩;rw[ex k,eM k,bY];show _=(_*0+B2*Cv.cv Pc.d0 M k)*C;rw[Pc.FJ,bC,cx,bO B2]
def FqD(n b:Nat)(d:D)(r:Rat):Prop:=∃ t u:Int,d=fD t u/\0<u/\Int.gcd t u=1/\Lt2 n t/\Lt2 b u/\r=(t:Rat) / (u:Rat)
theorem FqD.of(u0:0<u)(lt:Lt2 n t)(lu:Lt2 b u):FqD n b (fD (Fr.top t u) (Fr.bot t u)) ((t:Rat) / (u:Rat)):=by
 obtain⟨l1,l2,l3⟩:=Fr.low (t:=t) (b:=u) (by omega);obtain⟨m1,m2⟩:=Fr.vS (t:=t) (b:=u) (by omega);exact⟨_,_,rfl,l1,l3,lt.le m1,lu.le m2,(Qp.uc (by omega) (by omega)).mpr l2.symm⟩
theorem FqD.mono(h:FqD n b d r)(l:n<=n')(l':b<=b'):FqD n' b' d r:=by
 obtain⟨t,u,e,h1,h2,h3,h4,h5⟩:=h;exact⟨t,u,e,h1,h2,h3.mono l,h4.mono l',h5⟩
def gO:SpB:=.of 2 (α:=Int) (λm ds=>ds=[.fl,.int m]/\0<=m/\Lt2 8000 m) (λm d=>∃ z,d = .int z /\ -m<=z/\z<=m)
def oX:TSd:=(gr [] (gg .Sub (ge gj (fZ (ga 0) (fZ (gg .Add (gg .Mult (dC (.int 2)) (ga 1)) (dC (.int 1))) gb))) (ga 1)))
theorem mK:Does 2 oX gO:=by
 rintro ds Q hn ⟨m,⟨rfl,m0,m1⟩,q⟩;have two:Lt2 2 2:=by decide
 have lm:Lt2 9000 (2*m+1):=((two.mul m1).add ((show Lt2 1 1 by decide).mono (m:=2+8000) (by omega))).mono (by omega);refine⟨⟨_,_,two,m1,by omega⟩,rfl,2*m+1,⟨rfl,by omega,lm⟩,?_⟩;rintro _ ⟨i,rfl,i0,i1⟩;exact q _ ⟨_,rfl,by omega,by omega⟩
theorem xv(h:m.natAbs<1000)(hn:10<=n:=by decide):Lt2 n m:=by
 unfold Lt2;exact aD (Nat.lt_trans h (show 1000<2^10 by decide)) (da (by decide) hn)
theorem EA(h0:0<=i)(h1:i<4)(qa:Q (.int a))(qb:Q (.int b))(qc:Q (.int c))(qe:Q (.int e)):itD [.int a,.int b,.int c,.int e] i Q:=by
 rcases (by omega:i=0\/i=1\/i=2\/i=3) with rfl|rfl|rfl|rfl
 ·exact qa
 ·exact qb
 ·exact qc
 ·exact qe
def gK:SpB:=.of 2 (α:=Int×Nat) (λ(m,M) ds=>ds=[.fl,.int m]/\1<=m/\Lt2 M m/\2<=M/\M<=4000) (λ(m,M) d=>∃ r,FqD M M d r)
def ka:TSd:=(gr [] (ge gJ (fZ (ge gO (fZ (ga 0) (fZ (ga 1) gb))) (fZ (gg .Add (dC (.int 1)) (ge gj (fZ (ga 0) (fZ (dIx (gv (fZ (dC (.int 1)) (fZ (dC (.int 1)) (fZ (dC (.int 3)) (fZ (ga 1) gb))))) (ge gj (fZ (ga 0) (fZ (dC (.int 4)) gb)))) gb)))) gb))))
theorem jC:Does 2 ka gK:=by
 rintro ds Q hn ⟨⟨m,M⟩,⟨rfl,m1,lm,M2,M4⟩,q⟩;refine⟨rfl,m,⟨rfl,by omega,lm.mono (by omega)⟩,?_⟩;rintro _ ⟨z,rfl,z0,z1⟩;refine⟨tX (n:=4) (by decide),rfl,4,⟨rfl,by decide,xv (by decide)⟩,?_⟩;rintro _ ⟨i,rfl,i0,i1⟩;have l3:Lt2 M 3:=(show Lt2 2 3 by decide).mono M2;have key:∀ u:Int,1<=u->Lt2 M u->([D.fl,.int u].length=gj.n/\gj.run [.fl,.int u] λd=>oAdd (.int 1) d λd=>[D.int z,d].length=gJ.n/\gJ.run [.int z,d] Q):=λu u1 lu=>by
  refine⟨rfl,u,⟨rfl,by omega,lu.mono (by omega)⟩,?_⟩;rintro _ ⟨e,rfl,e0,e1⟩;have lb:Lt2 M (1+e):=lu.le (by omega);refine⟨rfl,(z,1+e),⟨rfl,by show 1+e≠0;omega,lb.mono (by omega)⟩,?_⟩;rintro _ rfl;exact q _ ⟨_,FqD.of (by omega) (lm.le (by omega)) lb⟩
 exact EA i0 i1 (key 1 (by decide) (l3.le (by decide))) (key 1 (by decide) (l3.le (by decide))) (key 3 (by decide) l3) (key m m1 lm)
theorem xw{α:Type}{fs:List α}{i:Nat}{d:α}(h:i<fs.length):fs.getD i d∈fs:=by
 rw[aj,ah h];exact fW h
theorem wO(n:Nat):Lt2 n 0:=cj (by decide)
theorem BJ{ts:List Int}{c B:Int}{P:List Int}{M N:Nat}(fm:Po.Fm P B)(hw:∀ k,P.getD k 0*c=ts.getD k 0*B)(hle:P.length<=ts.length)(hl:ts.length=N+1)(hs:∀ t∈ts,Lt2 M t)(c0:0<c)(lc:Lt2 3 c)(last:ts.getD N 0≠0):Pc.Pz M 3 P B/\P.length=N+1:=by
 have pB:=fm.pos;refine⟨Pc.Pz.of (f:=λk=>ts.getD k 0) fm c0 hw (λk=>?_) lc,?_⟩
 ·rcases aJ k ts.length with z|z
  ·exact hs _ (xw z)
  ·rw[sP z];exact wO _
 ·rcases aJ N P.length with z|z
  ·omega
  ·have e:=hw N;rw[sP z,aX] at e;rcases bD.mp e.symm with y|y
   ·exact absurd y last
   ·omega
theorem OM:(if decide ((0:Int)<d) then (1:Int) else 0)=0\/(if decide ((0:Int)<d) then (1:Int) else 0)=1:=by
 by_cases c:(0:Int)<d
 ·exact .inr (by rw[if_pos (by simpa using c)])
 ·exact .inl (by rw[if_neg (by simpa using c)])
def drI(M:Nat):Nat->List D->Prop:=λi ys=>∃ ts:List Int,ys=ts.map D.int/\ts.length=i/\∀ t∈ts,Lt2 M t
theorem drI.nil:drI M 0 []:=⟨[],rfl,rfl,λt h=>absurd h aO⟩
theorem drI.snoc(h:drI M i ys)(hz:Lt2 M z):drI M (i+1) (ys++[.int z]):=by
 obtain⟨ts,rfl,h1,h2⟩:=h;refine⟨ts++[z],by rw[aN];rfl,by rw[ai,h1];rfl,λt ht=>?_⟩;rcases aW.mp ht with w|w
 ·exact h2 t w
 ·rw[aC.mp w];exact hz
theorem Lu(lz:Lt2 M z)(M4:M<=8000):CMulB z (if decide ((0:Int)<d) then (1:Int) else 0)/\Lt2 M (z*(if decide ((0:Int)<d) then (1:Int) else 0)):=by
 rcases OM (d:=d) with e|e
 ·rw[e];exact⟨⟨M,1,lz,by decide,by omega⟩,by rw[bC];exact wO _⟩
 ·rw[e];exact⟨⟨M,1,lz,by decide,by omega⟩,by rw[cy];exact lz⟩
def gC:SpB:=.of 3 (α:=Nat×Int×Nat) (λ(N,m,M) ds=>ds=[.fl,.int N,.int m]/\N<=100/\1<=m/\Lt2 M m/\M<=4000) (λ(N,m,M) d=>∃ P B,d=pD P B/\Pc.Pz M 3 P B/\P.length=N+1)
def iX:TSd:=(gr [] (ge gh (fZ (gg .Add (ga 3) (gv (fZ (ga 5) gb))) (fZ (gg .Add (dC (.int 1)) (ge gj (fZ (ga 0) (fZ (dIx (gv (fZ (dC (.int 1)) (fZ (dC (.int 1)) (fZ (dC (.int 2)) (fZ (dC (.int 6)) gb))))) (ge gj (fZ (ga 0) (fZ (dC (.int 4)) gb)))) gb)))) gb))))
def lK:TSd:=dSq (gk [] (gNm 5) (dIx (gv (fZ (dC (.int 1)) (fZ (gg .Sub (dC (.int 0)) (dC (.int 1))) (fZ (gg .Add (dC (.int 1)) (ge gj (fZ (ga 0) (fZ (ga 2) gb)))) (fZ (gg .Sub (gg .Sub (dC (.int 0)) (dC (.int 1))) (ge gj (fZ (ga 0) (fZ (ga 2) gb)))) gb))))) (ge gj (fZ (ga 0) (fZ (dC (.int 4)) gb)))))
 iX
def nr:TSd:=dSq (gk [] (gNm 3) (gB (jB (ga 1)) [4] (gNm 4) gP (gg .Mult (ge gO (fZ (ga 0) (fZ (ga 2) gb))) (dB bInt bInt.mono (fZ (gy .Gt (ge gj (fZ (ga 0) (fZ (dC (.int 4)) gb))) (dC (.int 0))) gb)))))
 lK
theorem kD:Does 6 nr gC:=by
 rintro ds Q hn ⟨⟨N,m,M⟩,⟨rfl,hN,m1,lm,M4⟩,q⟩;dsimp only at hN m1 lm M4 q;refine⟨by omega,by omega,by rw[td];exact tX (by omega),drI M,drI.nil,λi d ys hd _ hy=>?_,λys _ hy=>?_⟩
 ·obtain⟨hi,rfl⟩:=ug hd;refine⟨rfl,m,⟨rfl,by omega,lm.mono (by omega)⟩,?_⟩;rintro _ ⟨z,rfl,z0,z1⟩;refine⟨rfl,4,⟨rfl,by decide,xv (by decide)⟩,?_⟩;rintro _ ⟨j,rfl,j0,j1⟩;obtain⟨h1,h2⟩:=Lu (d:=j) (lm.le (j:=z) (by omega)) (by omega);exact⟨h1,hy.snoc h2⟩
 rw[td] at hy;obtain⟨ts,rfl,lt,ht⟩:=hy;have lt:ts.length=N:=by omega
 refine⟨rfl,m,⟨rfl,by omega,lm.mono (by omega)⟩,?_⟩;rintro _ ⟨d1,rfl,d10,d11⟩;refine⟨rfl,m,⟨rfl,by omega,lm.mono (by omega)⟩,?_⟩;rintro _ ⟨d2,rfl,d20,d21⟩;refine⟨tX (n:=4) (by decide),rfl,4,⟨rfl,by decide,xv (by decide)⟩,?_⟩;rintro _ ⟨d3,rfl,d30,d31⟩;have key:∀ u:Int,u≠0->Lt2 M u->iX.run (s9 Q) [.val .fl,.val (.int N),.val (.int m),.val (.lst (ts.map .int)),.no,.val (.int u)]:=λu u0 lu=>by
  refine⟨vT,?_,?_⟩
  ·rw[aa];exact tX (by show ts.length+1<=_;omega)
  refine⟨tX (n:=4) (by decide),rfl,4,⟨rfl,by decide,xv (by decide)⟩,?_⟩;rintro _ ⟨d5,rfl,d50,d51⟩;have fin:∀ c:Int,1<=c->c<=6->([D.fl,.int c].length=gj.n/\gj.run [.fl,.int c] λd=>oAdd (.int 1) d λd=>[D.lst (ts.map .int++[.int u]),d].length=gh.n/\gh.run [.lst (ts.map .int++[.int u]),d] Q):=λc c1 c6=>by
   refine⟨rfl,c,⟨rfl,by omega,xv (by omega)⟩,?_⟩;rintro _ ⟨e,rfl,e0,e1⟩;have b3:Lt2 3 (1+e):=Lt2.of 6 (by omega) (by decide);have em:ts.map D.int++[.int u]=(ts++[u]).map D.int:=by rw[aN];rfl
   have last:(ts++[u]).getD N 0=u:=sZ (by rw[aF (by omega),lt,bY];rfl);rw[em];refine⟨rfl,(ts++[u],1+e),⟨.inl rfl,by show 0<1+e;omega,b3.mono (by decide),by show (ts++[u]).length<=1000;rw[ai,lt];show N+1<=1000;omega⟩,?_⟩;rintro _ ⟨P1,B1,rfl,fm,hw,hle⟩;dsimp only at hw hle;obtain⟨z1,z2⟩:=BJ (M:=M) (N:=N) fm hw hle (by rw[ai,lt];rfl) (λt h=>by
    rcases aW.mp h with y|y
    ·exact ht _ y
    ·rw[aC.mp y];exact lu) (by omega) b3 (by rw[last];exact u0)
   exact q _ ⟨P1,B1,rfl,z1,z2⟩
  exact EA d50 d51 (fin 1 (by decide) (by decide)) (fin 1 (by decide) (by decide)) (fin 2 (by decide) (by decide)) (fin 6 (by decide) (by decide))
 exact EA d30 d31 (key 1 (by decide) (lm.le (by omega))) (key (0-1) (by decide) (lm.le (by omega))) (key (1+d1) (by omega) (lm.le (by omega))) (key (0-1-d2) (by omega) (lm.le (by omega)))
theorem IX(st:Pc.St ta ba tb bb P B)(a0:0<ba)(b0:0<bb)(l1:Lt2 n1 ta)(l2:Lt2 b1 ba)(l3:Lt2 n2 tb)(l4:Lt2 b2 bb):Pc.Pz (n1+n2+b1+b2) (b1+b2) P B :=
 Pc.Pz.of st.1 (aP a0 b0) st.2 (λk=>by
  match k with
  | 0=>exact (l3.mul l2).mono (by omega)
  | 1=>exact (l1.mul l4).mono (by omega)
  | k+2=>exact wO _) (l2.mul l4)
theorem Ox(st:Pc.St ta ba tb bb P B)(a0:0<ba)(b0:0<bb)(l1:Lt2 n1 ta)(l2:Lt2 b1 ba)(l3:Lt2 n2 tb)(l4:Lt2 b2 bb) :
  Pc.Pz (n1+n2+b1+b2) (b1+b2) P B/\(∀ x,Qp.E P B x=(ta:Rat) / (ba:Rat)*x+(tb:Rat) / (bb:Rat))/\P.length<=2/\Qp.q P B 0=(tb:Rat) / (bb:Rat)/\Qp.q P B 1=(ta:Rat) / (ba:Rat):=by
 have p:=aP a0 b0;have q:=λk=>Qp.Db (f:=λk=>[tb*ba,ta*bb].getD k 0) st.1.pos (aT p) st.2 k;refine⟨IX st a0 b0 l1 l2 l3 l4,Qp.NV st a0 b0,Pc.ub st.1 p st.2 λk hk=>?_,?_,?_⟩
 ·obtain⟨j,rfl⟩:∃ j,k=j+2:=⟨k-2,by omega⟩;exact Pc.BV ..
 ·rw[q 0];exact (Qp.uc (aT p) (by omega)).mpr (by show tb*ba*bb=tb*(ba*bb);grind)
 ·rw[q 1];exact (Qp.uc (aT p) (by omega)).mpr (by show ta*bb*ba=ta*(ba*bb);grind)
theorem IY(h:Qp.q P B 1≠0)(l:P.length<=2):P.length=2/\P.getD 1 0≠0:=by
 have n1:P.getD 1 0≠0:=λz=>h (by
  unfold Qp.q;rw[z];show ((0:Int):Rat) / _=0;have:((0:Int):Rat)=0:=rfl;rw[this];grind)
 refine⟨?_,n1⟩;rcases aJ 1 P.length with z|z
 ·omega
 ·exact absurd (sP z) n1
def jv:SpB:=.of 2 (α:=D×D×Rat×Rat×Nat×Nat×Nat×Nat) (λ(d1,d2,r1,r2,n1,b1,n2,b2) ds=>ds=[d1,d2]/\FqD n1 b1 d1 r1/\FqD n2 b2 d2 r2/\b1+b2<=4000/\n1<=100000/\n2<=100000)
 (λ(d1,d2,r1,r2,n1,b1,n2,b2) d=>∃ P B,d=pD P B/\Pc.Pz (n1+n2+b1+b2) (b1+b2) P B/\(∀ x,Qp.E P B x=r1*x+r2)/\P.length<=2/\Qp.q P B 0=r2/\Qp.q P B 1=r1)
def nt:TSd:=(gr [] (ge gh (fZ (gv (fZ (gg .Mult (dIx (ga 1) (dC (.int 0))) (dIx (ga 0) (dC (.int 1)))) (fZ (gg .Mult (dIx (ga 0) (dC (.int 0))) (dIx (ga 1) (dC (.int 1)))) gb))) (fZ (gg .Mult (dIx (ga 0) (dC (.int 1))) (dIx (ga 1) (dC (.int 1)))) gb))))
theorem kE:Does 2 nt jv:=by
 rintro ds Q hn ⟨⟨d1,d2,r1,r2,n1,b1,n2,b2⟩,⟨rfl,⟨ta,ba,rfl,a0,c2,l1,l2,rfl⟩,⟨tb,bb,rfl,b0,e2,l3,l4,rfl⟩,ln,m1,m2⟩,q⟩;dsimp only at ln m1 m2 q;refine⟨⟨_,_,l3,l2,by omega⟩,⟨_,_,l1,l4,by omega⟩,tE,⟨_,_,l2,l4,by omega⟩,rfl,([tb*ba,ta*bb],ba*bb),⟨.inl rfl,aP a0 b0,(l2.mul l4).mono (by omega),by show 2<=1000;decide⟩,?_⟩;rintro _ ⟨P,B,rfl,fm,hw,hle⟩;obtain⟨x1,x2,x3,x4,x5⟩:=Ox ⟨fm,hw⟩ a0 b0 l1 l2 l3 l4;exact q _ ⟨P,B,rfl,x1,x2,x3,x4,x5⟩
theorem xg(l:Lt2 n t):FqD n 1 (fD t 1) (t:Rat):=⟨t,1,rfl,by decide,by simp,l,by decide,by have:((1:Int):Rat)=1:=rfl;rw[this];grind⟩
def gA:SpB:=.of 2 (α:=Int×Nat) (λ(m,M) ds=>ds=[.fl,.int m]/\1<=m/\Lt2 M m/\2<=M/\M<=1000) (λ(m,M) d=>∃ P B,d=pD P B/\Pc.Pz (4*M) (2*M) P B/\P.length=2/\P.getD 1 0≠0)
def il:TSd:=(gr [] (ge jv (fZ (ga 2) (fZ (ge gK (fZ (ga 0) (fZ (ga 1) gb))) gb))))
def kb:TSd:=dSq (gk [] (gNm 2) (dIx (gv (fZ (gm (fZ (dC (.int 1)) (fZ (dC (.int 1)) gb))) (fZ (gm (fZ (gg .Sub (dC (.int 0)) (dC (.int 1))) (fZ (dC (.int 1)) gb))) (fZ (ge gJ (fZ (gg .Add (dC (.int 1)) (ge gj (fZ (ga 0) (fZ (ga 1) gb)))) (fZ (gg .Add (dC (.int 1)) (ge gj (fZ (ga 0) (fZ (dC (.int 3)) gb)))) gb))) gb)))) (ge gj (fZ (ga 0) (fZ (dC (.int 3)) gb)))))
 il
theorem jD:Does 3 kb gA:=by
 rintro ds Q hn ⟨⟨m,M⟩,⟨rfl,m1,lm,M2,M4⟩,q⟩;dsimp only at m1 lm M2 M4 q;refine⟨tE,tE,rfl,m,⟨rfl,by omega,lm.mono (by omega)⟩,?_⟩;rintro _ ⟨d1,rfl,d10,d11⟩;refine⟨rfl,3,⟨rfl,by decide,xv (by decide)⟩,?_⟩;rintro _ ⟨d2,rfl,d20,d21⟩;have b2:Lt2 M (1+d2):=(show Lt2 2 (1+d2) from Lt2.of 3 (by omega) (by decide)).mono M2;refine⟨rfl,(1+d1,1+d2),⟨rfl,by show 1+d2≠0;omega,b2.mono (by omega)⟩,?_⟩;rintro _ rfl;dsimp only;refine⟨tX (n:=3) (by decide),rfl,3,⟨rfl,by decide,xv (by decide)⟩,?_⟩;rintro _ ⟨d3,rfl,d30,d31⟩;have fin:∀(u:D) (r:Rat),FqD M M u r->r≠0->il.run (s9 Q) [.val .fl,.val (.int m),.val u]:=λu r fu r0=>by
  refine⟨rfl,(m,M),⟨rfl,m1,lm,M2,by show M<=4000;omega⟩,?_⟩;rintro _ ⟨r2,f2⟩;refine⟨rfl,(u,_,r,r2,M,M,M,M),⟨rfl,fu,f2,by show M+M<=4000;omega,by show M<=100000;omega,by show M<=100000;omega⟩,?_⟩;rintro _ ⟨P1,B1,rfl,z1,e1,l1,q0,q1⟩;obtain⟨len,n1⟩:=IY (by rw[q1];exact r0) l1;exact q _ ⟨P1,B1,rfl,z1.mono (by show M+M+M+M<=_;omega) (by show M+M<=_;omega),len,n1⟩
 have f3:=FqD.of (t:=1+d1) (u:=1+d2) (by omega) (lm.le (j:=1+d1) (by omega)) b2;have n3:((1+d1:Int):Rat) / ((1+d2:Int):Rat)≠0:=(Fq.ne (p:=0) (by omega) rfl).mpr (by omega);rcases (by omega:d3=0\/d3=1\/d3=2) with rfl|rfl|rfl
 ·exact fin _ _ ((xg (n:=1) (t:=1) (by decide)).mono (by omega) (by omega)) (by decide)
 ·exact fin _ _ ((xg (n:=1) (t:=-1) (by decide)).mono (by omega) (by omega)) (by decide)
 ·exact fin _ _ f3 n3
def gU:SpB:=.of 2 (α:=List Int×Int×Nat×Nat×Nat) (λ(P,B,k,n,b) ds=>ds=[pD P B,.int k]/\Pc.Pz n b P B/\k*P.length<=400/\k<=400/\P.length<=400/\b*k+1+b<=9000000/\(n+9)*k+1+n<=9000000)
 (λ(P,B,k,n,b) d=>∃ R C,d=pD R C/\(∀ j,R.getD j 0*B^k=Pc.cp (Cv.fn P) k j*C)/\Pc.Pz ((n+9)*k+1) (b*k+1) R C/\R.length<=k*P.length+1)
def nX:TSd:=(gr [] (ga 2))
def nY:TSd:=dSq (ia [] (jB (ga 1)) (gNm 3)
 (gk [] (gNm 2) (ge gG (fZ (ga 2) (fZ (ga 0) gb)))))
 nX
def pV:TSd:=dSq (gk [] (gNm 2) (gm (fZ (gm (fZ (dC (.int 1)) gb)) (fZ (dC (.int 1)) gb))))
 nY
theorem nv:Does 4 pV gU:=by
 rintro ds Q hn ⟨⟨P1,B1,k,n,b⟩,⟨rfl,z1,hkl,hk,hl,hb,hn⟩,q⟩;dsimp only at z1 hkl hk hl hb hn q;have B0:=z1.fm.pos;have pz:∀ i,i<=k->∀{R:List Int} {C:Int},Po.Fm R C->(∀ j,R.getD j 0*B1^i=Pc.cp (Cv.fn P1) i j*C)->Pc.Pz ((n+9)*i+1) (b*i+1) R C/\R.length<=i*P1.length+1:=λi hi R C fm e=>by
  have l1:i*P1.length<=k*P1.length:=aI _ hi;exact⟨Pc.Pz.of fm (cS B0) e (Pc.AO (l:=P1.length) (λj hj=>Cv.sV hj) (λj=>z1.tops j) i (by omega)) (Hv.uT z1.bot i),Pc.ub fm (cS B0) e (Pc.uX (λj hj=>Cv.sV hj) i)⟩
 refine⟨vT,tE,by omega,by omega,λi s=>∃(o3:SD) (R:List Int) (C:Int),s=[.val (pD P1 B1),.val (.int k),.val (pD R C),o3]/\Po.Fm R C/\∀ j,R.getD j 0*B1^i=Pc.cp (Cv.fn P1) i j*C,⟨.no,[1],1,rfl,Cv.Bm,λj=>?_⟩,?_,?_⟩
 ·rw[bR];cases j with
  | zero=>rfl
  | succ j=>rfl
 ·rintro i d _ hd ⟨o3,R,C,rfl,fm,he⟩;obtain⟨hi,rfl⟩:=ug hd;have hi:i<k:=by omega
  obtain⟨G,hle⟩:=pz i (by omega) fm he;have l1:i*P1.length<=k*P1.length:=aI _ (by omega);have l2:b*i<=b*k:=bG _ (by omega);have l3:(n+9)*i<=(n+9)*k:=bG _ (by omega);refine⟨rfl,(R,C,P1,B1,_,_,n,b),⟨rfl,G,z1,by omega,by omega,by show R.length<=450;omega,by show P1.length<=450;omega⟩,?_⟩;rintro _ ⟨R',C',rfl,fm',hw⟩;refine⟨_,R',C',rfl,fm',λj=>?_⟩;have e:Cv.cv (Cv.fn R) (Cv.fn P1) j*B1^i=Pc.cp (Cv.fn P1) (i+1) j*C:=by
   show _=Cv.cv (Pc.cp (Cv.fn P1) i) (Cv.fn P1) j*C;rw[← Cv.uK,← Cv.uK];exact Cv.uL (λm=>he m) λ_=>rfl
  have e2:=hw j;refine bo (aT fm.pos) ?_;rw[bv];grind
 ·rintro _ ⟨o3,R,C,rfl,fm,he⟩;rw[td,aB] at he;exact q _ ⟨R,C,rfl,he,(pz k (aq _) fm he).1,(pz k (aq _) fm he).2⟩
def gF:SpB:=.of 1 (α:=List Int×Int) (λ(P,B) ds=>ds=[pD P B]) (λ(P,B) d=>d = .int ((P.length:Int)-1))
def rL:TSd:=(gr [] (gg .Sub (dB bLen bLen.mono (fZ (dIx (ga 0) (dC (.int 0))) gb)) (dC (.int 1))))
theorem pW:Does 1 rL gF:=by
 rintro ds Q hn ⟨⟨P,B⟩,rfl,q⟩;refine q _ ?_;show D.int (((P.map D.int).length:Int)-1)=_;rw[aa]
theorem CL{ts:List Int}{m:Nat}(hm:m<=ts.length):tN (ts.map D.int) none (some (m:Int))=(ts.take m).map D.int:=by
 unfold tN;rw[HT.wp,HT.xE,aa,cH hm,dR,cD,List.map_take]
theorem J1(b:Nat)(ts us:List Int):Po.gl b (ts++us)=Po.gl (Po.gl b ts) us:=by
 unfold Po.gl;rw[fJ]
def io:SpB:=.of 2 (α:=List Int×Int) (λ(ts,b) ds=>ds=[.lst (ts.map .int),.int b]/\0<b/\Lt2 9000000 b/\ts.length<=1000) (λ(ts,b) d=>∃ P B,d=pD P B/\Po.Fm P B/\(∀ k,P.getD k 0*b=ts.getD k 0*B)/\P.length<=ts.length)
def kF:TSd:=(gr [] (gm (fZ (dB bTuple bTuple.mono (fZ (gB (gD (dSl (ga 0) dNo (ic (ga 2)))) [4] (gNm 4) gP (gg .FloorDiv (ga 4) (ga 3))) gb)) (fZ (gg .FloorDiv (ga 1) (ga 3)) gb))))
def oY:TSd:=dSq (ia [] (gD (dSl (ga 0) dNo (ic (ga 2)))) (gNm 4)
 (dSq (dIf [] (gu (gy .Eq (ga 3) (dC (.int 1))))
 rG
 gz)
 (gk [] (gNm 3) (ge gS (fZ (ga 3) (fZ (ga 4) gb))))))
 kF
def oZ:TSd:=dSq (gk [] (gNm 3) (ga 1))
 oY
def jk:TSd:=dSq (iR (ju (gu (gy .Gt (ga 2) (dC (.int 0)))) (gu (gy .Eq (dIx (ga 0) (gg .Sub (ga 2) (dC (.int 1)))) (dC (.int 0)))))
 (pP [] 2 .Sub (dC (.int 1))))
 oZ
def qA:TSd:=dSq (gk [] (gNm 2) (dB bLen bLen.mono (fZ (ga 0) gb)))
 jk
theorem nZ:Does 5 qA io:=by
 rintro ds Q hn ⟨⟨ts,b⟩,⟨rfl,hb,hl,hz⟩,q⟩;dsimp only at hb hl hz q;have bn:((b.natAbs:Nat):Int)=b:=by omega
 suffices h1:jk.run (s9 Q) [.val (.lst (ts.map .int)),.val (.int b),.val (.int ts.length),.no,.no] by
  show jk.run (s9 Q) [.val (.lst (ts.map .int)),.val (.int b),.val (.int ((ts.map D.int).length:Nat)),.no,.no];rw[aa];exact h1
 refine dSq.cut (λs=>∃ m:Nat,s=[.val (.lst (ts.map .int)),.val (.int b),.val (.int m),.no,.no]/\m<=ts.length/\(∀ j,m<=j->ts.getD j 0=0)/\(m=0\/ts.getD (m-1) 0≠0)) ?_ ?_
 ·refine⟨λs=>∃ m:Nat,s=[.val (.lst (ts.map .int)),.val (.int b),.val (.int m),.no,.no]/\m<=ts.length/\∀ j,m<=j->ts.getD j 0=0,λs=>match s with|[_,_,.val (.int m),_,_]=>m.toNat|_=>0,⟨ts.length,rfl,aq _,λj hj=>sP hj⟩,?_⟩;rintro _ ⟨m,rfl,hm,h0⟩;refine vf (p:=(0:Int)<(m:Nat)) (λc=>?_) (λc=>?_)
  ·obtain⟨k,rfl⟩:∃ k,m=k+1:=⟨m-1,by omega⟩;have ek:((k+1:Nat):Int)-1=(k:Int):=by omega
   show itD (ts.map D.int) (((k+1:Nat):Int)-1) _;rw[ek];refine tv (uF (by omega)) (vf (p:=ts.getD k 0=0) (λz=>?_) (λz=>?_))
   ·refine⟨⟨k,?_,by omega,λj hj=>?_⟩,?_⟩
    ·show [_,_,SD.val (.int (((k+1:Nat):Int)-1)),_,_]=_;rw[ek]
    ·rcases bB hj with w|w
     ·rw[← w];exact z
     ·exact h0 j w
    ·show ((((k+1:Nat):Int)-1)).toNat<(((k+1:Nat):Int)).toNat;omega
   ·exact⟨k+1,rfl,hm,h0,.inr z⟩
  ·exact⟨m,rfl,hm,h0,.inl (by omega)⟩
 ·rintro _ ⟨m,rfl,hm,h0,hlast⟩;obtain⟨fm,wr⟩:=Po.form hb hm h0 hlast;have tail:∀ g:Nat,g=Po.gl b.natAbs (ts.take m)->∀ o,kF.run (s9 Q) [.val (.lst (ts.map .int)),.val (.int b),.val (.int m),.val (.int g),o]:=by
   rintro g hg o;rw[← hg] at fm wr;have g0:0<g:=by rw[hg];exact Po.Bv (by omega) _
   have gle:g<=b.natAbs:=by rw[hg];exact dE (by omega) (Po.yj _ _).1
   have cd:∀ x:Int,t5 x (g:Int):=λx=>⟨by omega,9000000,hl.le (by rw[cn];exact gle),by decide⟩;have ec:=CL hm;refine⟨(congrArg (λl:List D=>l.length<=sizeLine) ec).mpr (by rw[aa,aM];exact tX (by omega)),mI (λz=>z.fdiv (g:Int)) (ts.take m),mI.nil,λi d ys hd _ hy=>?_,λys _ hy=>?_⟩
   ·have hd:(tN (ts.map D.int) none (some (m:Int)))[i]? = some d:=hd;rw[ec] at hd;obtain⟨z,hz,rfl⟩:=wD hd;exact⟨cd _,hy.snoc hz rfl⟩
   ·cases hy.all (by rw[ec,aa]);exact⟨cd _,tE,q _ ⟨_,_,rfl,fm,wr,by rw[aa,aM];omega⟩⟩
  have ec:=CL hm;refine⟨λi s=>∃ o,s=[.val (.lst (ts.map .int)),.val (.int b),.val (.int m),.val (.int ((Po.gl b.natAbs ((ts.take m).take i):Nat):Int)),o],⟨.no,?_⟩,?_,?_⟩
  ·show [_,_,_,SD.val (.int b),_]=[_,_,_,SD.val (.int ((b.natAbs:Nat):Int)),_];rw[bn]
  ·rintro i d _ hd ⟨o,rfl⟩;have hd:(tN (ts.map D.int) none (some (m:Int)))[i]? = some d:=hd;rw[ec] at hd;obtain⟨hi,rfl⟩:=vz hd;refine vf (p:=(((Po.gl b.natAbs ((ts.take m).take i):Nat):Int)=1)) (λc=>?_) (λc=>?_)
   ·refine tail _ ?_ _;have e:ts.take m=(ts.take m).take i++(ts.take m).drop i:=(List.take_append_drop i _).symm;have c':Po.gl b.natAbs ((ts.take m).take i)=1:=by omega
    rw[e,J1,List.take_append_of_le_length (by rw[aM];omega),dI (by rw[aM];omega),c',Po.J0]
   ·refine⟨rfl,(_,_),rfl,?_⟩;rintro _ rfl;refine⟨.val (.int ((ts.take m).getD i 0)),?_⟩;rw[uo hi,CA];rfl
  ·rintro _ ⟨o,hs⟩;rw[show (tN (ts.map D.int) none (some (m:Int))).length=(ts.take m).length by rw[ec,aa],bE] at hs;subst hs;exact tail _ rfl _
theorem Jz(P:List Int)(B:Int):D.dps [.tup (P.map D.int),.int B]<=60:=by
 have h:∀ P:List Int,D.dps (P.map D.int)<=1:=by
  intro P;induction P with
  | nil=>decide
  | cons a l ih =>
   show max (D.dp (.int a)) (D.dps (l.map D.int))<=1;have:D.dp (.int a)<=1:=aL _;omega
 show max (D.dps (P.map D.int)+1) (D.dps [.int B])<=60;have e:D.dps [.int B]<=1:=h [B];have:=h P;omega
theorem EL(P:List Int)(B:Int):D.pls [.tup (P.map D.int),.int B]=true:=by
 show (D.pls (P.map D.int) && D.pls [.int B])=true;rw[D.pls_ints];rfl
theorem FqD.same(h:FqD n b d r)(h':FqD n' b' d' r):d=d'/\∃ t u:Int,d=fD t u:=by
 obtain⟨t,u,rfl,u0,g,lt,lu,e⟩:=h;obtain⟨t',u',rfl,u0',g',lt',lu',e'⟩:=h';have c:=(Qp.uc (by omega) (by omega)).mp (e'.symm.trans e);obtain⟨y1,y2⟩:=Fr.zc (t:=t) (b:=u) (by omega) u0' g' (by rw[c]);obtain⟨w1,w2⟩:=Fr.zc (t:=t) (b:=u) (by omega) u0 g rfl;rw[← y1,← y2,w1,w2];exact⟨rfl,_,_,rfl⟩
theorem EY(h:(x.natAbs:Int)<(10:Int)^40):Lt2 133 x:=by
 unfold Lt2;have e:(10:Int)^40=10000000000000000000000000000000000000000:=by decide
 have e2:(2:Nat)^133=10889035741470030830827987437816582766592:=by decide
 rw[e] at h;rw[e2];omega
theorem AU{α:Type}{xs:List α}{j n:Nat}{v:α}(h:xs[n-j]? = some v)(e:xs.length=n)(hj:1<=j)(hn:j<=n):y9 xs (-(j:Int))=some v:=by
 have e:zI xs.length (-(j:Int))=some (n-j):=by
  unfold zI;rw[e,if_neg (by omega),if_pos (by omega)];congr 1;omega
 unfold y9;rw[e];exact h
theorem vZ(f:Po.Fm P B)(l:P.length=n+1):P.getD n 0≠0:=by
 rcases f.last with e|e
 ·rw[e] at l;simp at l
 ·rwa [l] at e
def jJ:SpB:=.of 2 (α:=Int×Int) (λx ds=>ds=[.int x.1,.int x.2]/\x.2≠0/\Lt2 9000000 x.2) (λx d=>d=fD (Fr.top x.1 x.2) (Fr.bot x.1 x.2))
def pb:TSd:=(gr [] (gm (fZ (gg .FloorDiv (ga 0) (ga 2)) (fZ (gg .FloorDiv (ga 1) (ga 2)) gb))))
def pd:TSd:=dSq (dIf [] (gu (gy .Lt (ga 1) (dC (.int 0))))
 (gk [] (gNm 2) (nc (ga 2)))
 gz)
 pb
def qB:TSd:=dSq (gk [] (gNm 2) (ge gS (fZ (ga 0) (fZ (ga 1) gb))))
 pd
theorem n4:Does 3 qB jJ:=by
 rintro ds Q hn ⟨⟨a,b⟩,⟨rfl,h0,hl⟩,q⟩;refine⟨rfl,(a,b),rfl,?_⟩;rintro _ rfl;have fin:∀ p:Int,p=Fr.part a b->t5 a p/\t5 b p/\2<=sizeLine/\Q (.tup [.int (a.fdiv p),.int (b.fdiv p)]):=by
  rintro p rfl;have c:∀ x,t5 x (Fr.part a b):=λx=>⟨Fr.Cg h0,9000000,hl.le (Fr.Ci h0),by decide⟩;exact⟨c _,c _,tE,q _ rfl⟩
 refine vf (p:=b<0) (λc=>?_) (λc=>?_)
 ·exact fin _ (by unfold Fr.part;rw[if_pos c])
 ·exact fin _ (by unfold Fr.part;rw[if_neg c])
def gT:SpB:=.of 2 (α:=List Int×Int×Nat×Nat×Nat) (λ(P,B,k,n,b) ds=>ds=[pD P B,.int k]/\Pc.Pz n b P B/\b<=9000000) (λ(P,B,k,n,b) d=>FqD n b d (Qp.q P B k))
def mL:TSd:=(gr [] (gm (fZ (dC (.int 0)) (fZ (dC (.int 1)) gb))))
def mM:TSd:=dSq (dIf [] (gu (ji .LtE .Lt (dC (.int 0)) (ga 1) (dB bLen bLen.mono (fZ (ga 2) gb))))
 (gr [] (ge jJ (fZ (dIx (ga 2) (ga 1)) (fZ (ga 3) gb))))
 gz)
 mL
def n5:TSd:=dSq (gk [] (gTp [2,3]) (ga 0))
 mM
theorem lL:Does 4 n5 gT:=by
 rintro ds Q hn ⟨⟨P,B,k,n,b⟩,⟨rfl,z1,hb⟩,q⟩;dsimp only at z1 hb q;have p1:=z1.fm.pos;have out:P.length<=k->FqD n b (fD 0 1) (Qp.q P B k):=λc=>by
  rw[Qp.Av c];have:=xg (n:=n) (t:=0) (wO _);refine this.mono (aq _) ?_;cases b with
  | zero =>
   have:B.natAbs<1:=z1.bot;omega
  | succ b=>omega
 refine⟨rfl,?_⟩;refine vf (p:=((k:Nat):Int)<((P.map D.int).length:Nat)) (λc=>?_) (λc=>?_)
 ·rw[aa] at c;refine tv (uF (by omega)) ⟨rfl,(P.getD k 0,B),⟨rfl,by show B≠0;omega,z1.bot.mono hb⟩,?_⟩;rintro _ rfl;exact q _ (FqD.of p1 (z1.tops k) z1.bot)
 ·rw[aa] at c;exact⟨tE,q _ (out (by omega))⟩
def qY:SpB:=.of 1 (α:=List Int×Int×Nat×Nat×Nat) (λ(P,B,k,n,b) ds=>ds=[pD P B]/\P.length=k+1/\Pc.Pz n b P B/\b<=9000000) (λ(P,B,k,n,b) d=>FqD n b d (Qp.q P B k))
def sn:TSd:=(gr [] (ge gT (fZ (ga 0) (fZ (ge gF (fZ (ga 0) gb)) gb))))
theorem re:Does 1 sn qY:=by
 rintro ds Q hn ⟨⟨P,B,k,n,b⟩,⟨rfl,l,z1,hb⟩,q⟩;dsimp only at l z1 hb q;refine⟨rfl,(P,B),rfl,?_⟩;rintro _ rfl;refine⟨rfl,(P,B,k,n,b),⟨?_,z1,hb⟩,q⟩;show [pD P B,.int ((P.length:Int)-1)]=[pD P B,.int (k:Int)];rw[l,show ((k+1:Nat):Int)-1=(k:Int) by omega]
theorem xl(h:a≠0):0<Fr.cp a b:=by
 unfold Fr.cp;have:0<Int.gcd a b:=Int.gcd_pos_of_ne_zero_left b h;omega
theorem yo(a b:Int):Fr.cp a b∣a/\Fr.cp a b∣b:=by
 unfold Fr.cp;exact⟨Int.gcd_dvd_left ..,fY ..⟩
theorem tH{b c:Int}(hc:0<c)(hb:0<b)(d:c∣b):b=c*b.fdiv c/\0<b.fdiv c/\(b.fdiv c).natAbs<=b.natAbs:=by
 obtain⟨q,rfl⟩:=d;rw[bZ _ (by omega)];have q0:0<q:=by
  rcases dD q 0 with z|z|z
  ·have:=dr hc z;omega
  ·rw[z,bC] at hb;omega
  ·exact z
 refine⟨rfl,q0,?_⟩;rw[bw];exact cX _ (by omega)
theorem IZ{l:List Int}{j k:Nat}{z:Int}(h:j<l.length):(l.set j z).getD k 0=if k=j then z else l.getD k 0:=by
 rw[aj,aj,aR];by_cases c:j=k
 ·subst c;rw[if_pos rfl,if_pos h,if_pos rfl];rfl
 ·rw[if_neg c,if_neg (Ne.symm c)]
theorem CS{l:List D}{n:Nat}{d:D}{F:D->Prop}(h:l[n]? = some d)(q:F d):(match l[n]? with|some x=>F x|none=>False):=by
 rw[h];exact q
theorem Fs(ts:List Int):(wI (ts.map D.int)).length=ts.length:=by simp[wI]
theorem F6{b r:Int}(hb:0<b)(hr:0<r):0<b*r.fdiv (Fr.cp b r)/\r∣b*r.fdiv (Fr.cp b r):=by
 have g0:=xl (a:=b) (b:=r) (by omega);obtain⟨g1,g2⟩:=yo b r;obtain⟨e,q0,_⟩:=tH g0 hr g2;refine⟨aP hb q0,?_⟩;obtain⟨c,hc⟩:=g1;refine⟨c,?_⟩;generalize r.fdiv (Fr.cp b r)=q at *;generalize Fr.cp b r=g at *;subst hc e;grind
abbrev xB(fs:List (Int×Int)):List D:=fs.map λf=>fD f.1 f.2
theorem CT{i:Nat}{d:D}(h:(xB fs)[i]? = some d):∃ f,fs[i]? = some f/\d=fD f.1 f.2:=by
 rw[au] at h;obtain⟨p,hp,rfl⟩:=ac.mp h;exact⟨p,hp,rfl⟩
def jU:TSd:=(gr [] (gm (fZ (gB (gD (ga 0)) [2] (gNm 2) gP (gg .Mult (dIx (ga 2) (dC (.int 0))) (gg .FloorDiv (ga 1) (dIx (ga 2) (dC (.int 1)))))) (fZ (ga 1) gb))))
def jV:TSd:=dSq (ia [] (gD (ga 0)) (gNm 2)
 (pP [] 1 .Mult (gg .FloorDiv (dIx (ga 2) (dC (.int 1))) (ge gS (fZ (ga 1) (fZ (dIx (ga 2) (dC (.int 1))) gb))))))
 jU
def iO:TSd:=dSq (gk [] (gNm 1) (dC (.int 1)))
 jV
def Sq(x:D)(A:List Int):Prop:=x = .lst (A.map .int)\/x = .tup (A.map .int)
theorem Sq.it(h:Sq x A):∀ R:List D->Prop,R (A.map .int)->itemsD x R:=λR r=>by
 rcases h with rfl|rfl
 ·exact r
 ·exact r
def iY:SpB:=.of 2 (α:=D×D×List Int×List Int) (λ(x,y,A,B) ds=>ds=[x,y]/\Sq x A/\Sq y B/\A.length<=1000/\B.length<=1000)
 (λ(x,y,A,B) d=>∃ rs:List Int,d = .lst (rs.map .int)/\rs.length=max A.length B.length/\∀ k,rs.getD k 0=A.getD k 0+B.getD k 0)
def kG:TSd:=(gr [4] (ga 4))
def kH:TSd:=dSq (ia [] (iW (ga 3)) (gTp [5,6])
 (ni [] 4 (ga 5) .Add (ga 6)))
 kG
def gI:TSd:=dSq (jj [] 4 (jR (ga 2)))
 kH
def mN:TSd:=dSq (gk [] (gTp [2,3]) (ra (gu (gy .GtE (dB bLen bLen.mono (fZ (ga 0) gb)) (dB bLen bLen.mono (fZ (ga 1) gb)))) (gm (fZ (ga 0) (fZ (ga 1) gb))) (gm (fZ (ga 1) (fZ (ga 0) gb)))))
 gI
theorem HN{s0 s1:SD}{x y:D}{Q:D->Prop}(hx:Sq x L)(hy:Sq y S)(hl:S.length<=L.length)(q:∀ rs:List Int,rs.length=L.length->(∀ k,rs.getD k 0=L.getD k 0+S.getD k 0)->Q (.lst (rs.map .int))) :
  gI.run (s9 Q) [s0,s1,.val x,.val y,.no,.no,.no]:=by
 refine hx.it _ (hy.it _ ⟨λi s=>∃(o5 o6:SD) (rs:List Int),s=[s0,s1,.val x,.val y,.own (rs.map .int),o5,o6]/\rs.length=L.length/\∀ k,rs.getD k 0=L.getD k 0+(if k<i then S.getD k 0 else 0),⟨.no,.no,L,rfl,rfl,λk=>by rw[if_neg (by omega),bS]⟩,?_,?_⟩)
 ·rintro i d _ hd ⟨o5,o6,rs,rfl,lr,hr⟩;obtain⟨hi,rfl⟩:=uW hd;refine⟨rfl,by show (0:Int)<=((i:Nat):Int);omega,?_⟩;refine CS (d:=.int (rs.getD i 0)) (uF (ts:=rs) (i:=i) (by omega)) ⟨.val (.int (i:Nat)),.val (.int (S.getD i 0)),rs.set i (rs.getD i 0+S.getD i 0),?_,by rw[bj,lr],λk=>?_⟩
  ·show [s0,s1,.val x,.val y,.own ((rs.map D.int).set i (.int (rs.getD i 0+S.getD i 0))),.val (.int (i:Nat)),.val (.int (S.getD i 0))]=_;rw[map_set]
  ·rw[IZ (by omega)];by_cases e:k=i
   ·rw[if_pos e,e,hr i,if_neg (by omega),if_pos (by omega)];omega
   ·rw[if_neg e,hr k];by_cases c:k<i
    ·rw[if_pos c,if_pos (by omega)]
    ·rw[if_neg c,if_neg (by omega)]
 ·rintro _ ⟨o5,o6,rs,rfl,lr,hr⟩;refine q rs lr λk=>?_;have h:=hr k;rw[Fs] at h;rw[h];by_cases c:k<S.length
  ·rw[if_pos c]
  ·rw[if_neg c,sP (fs:=S) (by omega)]
theorem kc:Does 7 mN iY:=by
 rintro ds Q hn ⟨⟨x,y,A,B⟩,⟨rfl,hx,hy,la,lb⟩,q⟩;dsimp only at hx hy la lb q;have g1:B.length<=A.length->gI.run (s9 Q) [.val x,.val y,.val x,.val y,.no,.no,.no]:=λc=>HN hx hy c λrs lr hr=>q _ ⟨rs,rfl,by rw[lr];omega,hr⟩;have g2:A.length<=B.length->gI.run (s9 Q) [.val x,.val y,.val y,.val x,.no,.no,.no]:=λc=>HN hy hx c λrs lr hr=>q _ ⟨rs,rfl,by rw[lr];omega,λk=>by rw[hr k];omega⟩;have key:(if decide ((((B.map D.int).length:Nat):Int)<=(((A.map D.int).length:Nat):Int))=true then (2<=sizeLine/\2=2/\gI.run (s9 Q) [.val x,.val y,.val x,.val y,.no,.no,.no]) else (2<=sizeLine/\2=2/\gI.run (s9 Q) [.val x,.val y,.val y,.val x,.no,.no,.no])):=by
  refine vf (λc=>⟨tE,rfl,g1 ?_⟩) (λc=>⟨tE,rfl,g2 ?_⟩)
  ·rw[aa,aa] at c;omega
  ·rw[aa,aa] at c;omega
 rcases hx with rfl|rfl <;> rcases hy with rfl|rfl <;> exact key
def g9:SpB:=.of 2 (α:=D×D×List Int×List Int×Nat×Nat) (λ(x,y,A,B,n,m) ds=>ds=[x,y]/\Sq x A/\Sq y B/\A.length<=450/\B.length<=450/\(∀ i,Lt2 n (A.getD i 0))/\(∀ i,Lt2 m (B.getD i 0))/\n+m<=100000000)
 (λ(x,y,A,B,n,m) d=>∃ rs:List Int,d = .lst (rs.map .int)/\rs.length<=A.length+B.length/\∀ k,rs.getD k 0=Cv.cv (Cv.fn A) (Cv.fn B) k)
def jW:TSd:=(gr [2] (ga 2))
def gW:TSd:=dSq (ia [] (iW (ga 0)) (gTp [3,4])
 (ia [] (iW (ga 1)) (gTp [5,6])
 (ni [] 2 (gg .Add (ga 3) (ga 5)) .Add (gg .Mult (ga 4) (ga 6)))))
 jW
def jX:TSd:=dSq (jj [] 2 (gg .Mult (gv (fZ (dC (.int 0)) gb)) (gg .Sub (gg .Add (dB bLen bLen.mono (fZ (ga 0) gb)) (dB bLen bLen.mono (fZ (ga 1) gb))) (dC (.int 1)))))
 gW
def kI:TSd:=dSq (dIf [] (jS (jG (jF (ga 0))) (jG (jF (ga 1))))
 (gr [] (gv gb))
 gz)
 jX
theorem KL{x y:D}{n m:Nat}{Q:D->Prop}(hx:Sq x A)(hy:Sq y B)(a0:0<A.length)(b0:0<B.length)(hA:∀ i,Lt2 n (A.getD i 0))(hB:∀ i,Lt2 m (B.getD i 0))(hnm:n+m<=100000000)(q:∀ rs:List Int,rs.length<=A.length+B.length->(∀ k,rs.getD k 0=Cv.cv (Cv.fn A) (Cv.fn B) k)->Q (.lst (rs.map .int))) :
  gW.run (s9 Q) [.val x,.val y,.own ((List.replicate (A.length+B.length-1) (0:Int)).map .int),.no,.no,.no,.no]:=by
 refine hx.it _ ⟨λi s=>∃(rs:List Int) (o3 o4 o5 o6:SD),s=[.val x,.val y,.own (rs.map .int),o3,o4,o5,o6]/\rs.length=A.length+B.length-1/\∀ k,rs.getD k 0=Cv.tm (Cv.fn A) (Cv.fn B) i k,⟨_,_,_,_,_,rfl,aQ,λk=>xZ _ _⟩,?_,?_⟩
 ·rintro i d _ hd ⟨rs,o3,o4,o5,o6,rfl,lr,hr⟩;obtain⟨hi,rfl⟩:=uW hd;refine⟨rfl,hy.it _ ⟨λk s=>∃(rs:List Int) (o5 o6:SD),s=[.val x,.val y,.own (rs.map .int),.val (.int (i:Nat)),.val (.int (A.getD i 0)),o5,o6]/\rs.length=A.length+B.length-1/\∀ m,rs.getD m 0=Cv.tm (Cv.fn A) (Cv.fn B) i m+(if i<=m/\m-i<k then Cv.fn A i*Cv.fn B (m-i) else 0),⟨rs,_,_,rfl,lr,λm=>by rw[hr m,if_neg (by omega),bS]⟩,?_,?_⟩⟩
  ·rintro k d _ hd ⟨rs',o5',o6',rfl,lr',hr4⟩;obtain⟨hk,rfl⟩:=uW hd;have hiF:i+k<rs'.length:=by omega
   refine⟨rfl,by show (0:Int)<=(i:Int)+(k:Int);omega,?_⟩;refine CS (d:=.int (rs'.getD (i+k) 0)) (uF (ts:=rs') (i:=i+k) hiF) ⟨⟨n,m,hA i,hB k,hnm⟩,rs'.set (i+k) (rs'.getD (i+k) 0+A.getD i 0*B.getD k 0),.val (.int (k:Nat)),.val (.int (B.getD k 0)),?_,by rw[bj];exact lr',λm=>?_⟩
   ·show [SD.val x,.val y,.own ((rs'.map D.int).set (i+k) (.int (rs'.getD (i+k) 0+A.getD i 0*B.getD k 0))),.val (.int (i:Nat)),.val (.int (A.getD i 0)),.val (.int (k:Nat)),.val (.int (B.getD k 0))]=_;rw[map_set]
   ·rw[wj hiF];by_cases e:m=i+k
    ·subst e;rw[if_pos rfl,hr4,if_neg (by omega),if_pos ⟨by omega,by omega⟩,show i+k-i=k by omega,bS];rfl
    ·rw[if_neg e,hr4];congr 1;by_cases c:i<=m/\m-i<k
     ·rw[if_pos c,if_pos ⟨c.1,by omega⟩]
     ·rw[if_neg c,if_neg (by omega)]
  ·rintro _ ⟨rs',o5',o6',rfl,lr',hr4⟩;rw[tq,aa] at hr4;refine⟨rs',_,_,_,_,rfl,lr',λm=>?_⟩;rw[hr4 m,Cv.zf];congr 1;by_cases c:i<=m
   ·rw[if_pos c];by_cases c':m-i<B.length
    ·rw[if_pos ⟨c,c'⟩]
    ·rw[if_neg (λz=>c' z.2),Cv.sV (P:=B) (by omega),bC]
   ·rw[if_neg c,if_neg (λz=>c z.1)]
 ·rintro _ ⟨rs,o3,o4,o5,o6,rfl,lr,hr⟩;rw[tq,aa] at hr;exact q rs (by omega) λk=>by rw[hr k,Cv.vK λj h=>Cv.sV h]
theorem jK:Does 7 kI g9:=by
 rintro ds Q hn ⟨⟨x,y,A,B,n,m⟩,⟨rfl,hx,hy,la,lb,hA,hB,hnm⟩,q⟩;dsimp only at hx hy la lb hA hB hnm q;have none:(A=[]\/B=[])->0<=sizeLine/\Q (.lst []):=λh=>⟨aL _,q _ ⟨[],rfl,aL _,λk=>by
  rcases h with rfl|rfl
  ·exact (Cv.IC λ_=>rfl).symm
  ·exact (Cv.FD λ_=>rfl).symm⟩⟩
 cases A with
 | nil=>rcases hx with rfl|rfl <;> exact none (.inl rfl)
 | cons a A =>
  cases B with
  | nil=>rcases hx with rfl|rfl <;> rcases hy with rfl|rfl <;> exact none (.inr rfl)
  | cons b B =>
   have go:=KL (Q:=Q) hx hy (Nat.succ_pos _) (Nat.succ_pos _) hA hB hnm λrs lr hr=>q _ ⟨rs,rfl,lr,hr⟩;have e0:((((a::A).map D.int).length:Nat):Int)+((((b::B).map D.int).length:Nat):Int)-1=(((a::A).length+(b::B).length-1:Nat):Int):=by
    rw[aa,aa,aE,aE];omega
   have lN:(a::A).length+(b::B).length-1<=1000:=by omega
   have key:1<=sizeLine /\ -(2^63)<=((((a::A).map D.int).length:Nat):Int)+((((b::B).map D.int).length:Nat):Int)-1/\((((a::A).map D.int).length:Nat):Int)+((((b::B).map D.int).length:Nat):Int)-1<2^63/\1*(((((a::A).map D.int).length:Nat):Int)+((((b::B).map D.int).length:Nat):Int)-1).toNat<=sizeLine /\
     gW.run (s9 Q) [.val x,.val y,.own (List.replicate (((((a::A).map D.int).length:Nat):Int)+((((b::B).map D.int).length:Nat):Int)-1).toNat [D.int 0]).flatten,.no,.no,.no,.no]:=by
    rw[e0,aB,tI];generalize (a::A).length+(b::B).length-1=z at *;exact⟨vT,by omega,by omega,tX (by omega),go⟩
   rcases hx with rfl|rfl <;> rcases hy with rfl|rfl <;> exact key
def pX:SpB:=.of 2 (α:=List Int×Int×List Int×Int×Nat×Nat×Nat×Nat) (λ(P,B,P',B',n,b,m,c) ds=>ds=[pD P B,pD P' B']/\Pc.Pz n b P B/\Pc.Pz m c P' B'/\b+c<=9000000/\n+m<=9000000/\P.length<=450/\P'.length<=450)
 (λ(P,B,P',B',n,b,m,c) d=>∃ R C,d=pD R C/\Po.Fm R C/\∀ k,R.getD k 0*(B*B')=Cv.cv (Cv.fn P) (Cv.fn P') k*C)
def rY:TSd:=(gr [] (ge io (fZ (ge g9 (fZ (dIx (ga 0) (dC (.int 0))) (fZ (dIx (ga 1) (dC (.int 0))) gb))) (fZ (gg .Mult (dIx (ga 0) (dC (.int 1))) (dIx (ga 1) (dC (.int 1)))) gb))))
theorem qC:Does 2 rY pX:=by
 rintro ds Q hn ⟨⟨P1,B1,P2,B2,n,b,m,c⟩,⟨rfl,G1,G2,hb,hm,l1,l2⟩,q⟩;dsimp only at G1 G2 hb hm l1 l2 q;refine⟨rfl,(_,_,P1,P2,n,m),⟨rfl,.inr rfl,.inr rfl,l1,l2,G1.tops,G2.tops,by show n+m<=100000000;omega⟩,?_⟩;rintro _ ⟨rs,rfl,lr,hr⟩;have lr:rs.length<=P1.length+P2.length:=lr;refine⟨⟨b,c,G1.bot,G2.bot,by omega⟩,rfl,(rs,B1*B2),⟨rfl,aP G1.fm.pos G2.fm.pos,(G1.bot.mul G2.bot).mono hb,by show rs.length<=1000;omega⟩,?_⟩;rintro _ ⟨R,C,rfl,fm,hw,_⟩;exact q _ ⟨R,C,rfl,fm,λk=>(hw k).trans (by rw[← hr k])⟩
theorem EX{A:List Int}{c:Int}(k:Nat):(A.map λz=>z*c).getD k 0=A.getD k 0*c:=by
 rw[aj,aj,au];cases A[k]? <;> simp
def oC:SpB:=.of 2 (α:=List Int×Int×Int×Int×Nat×Nat×Nat×Nat) (λ(P,B,t,u,n,b,m,c) ds=>ds=[pD P B,fD t u]/\Pc.Pz n b P B/\0<u/\Lt2 m t/\Lt2 c u/\b+c<=9000000/\n+m<=9000000/\P.length<=900)
 (λ(P,B,t,u,n,b,m,c) d=>∃ R C,d=pD R C/\Po.Fm R C/\(∀ k,R.getD k 0*(B*u)=(P.getD k 0*t)*C)/\R.length<=P.length)
def rM:TSd:=(gr [] (ge io (fZ (gB (gD (dIx (ga 0) (dC (.int 0)))) [2] (gNm 2) gP (gg .Mult (ga 2) (dIx (ga 1) (dC (.int 0))))) (fZ (gg .Mult (dIx (ga 0) (dC (.int 1))) (dIx (ga 1) (dC (.int 1)))) gb))))
theorem pY:Does 3 rM oC:=by
 rintro ds Q hn ⟨⟨P,B,t,u,n,b,m,c⟩,⟨rfl,G1,u0,lt,lu,hb,hm,l1⟩,q⟩;dsimp only at G1 u0 lt lu hb hm l1 q;refine⟨(congrArg (· <= sizeLine) (aa _)).mpr (tX (by omega)),mI (λz=>z*t) P,mI.nil,λi d ys hd _ hy=>?_,λys _ hy=>?_⟩
 ·obtain⟨z,hz,rfl⟩:=wD hd;have e:P.getD i 0=z:=sZ hz;exact⟨⟨n,m,e ▸ G1.tops i,lt,by omega⟩,hy.snoc hz rfl⟩
 cases hy.all (by rw[aa]);refine⟨⟨b,c,G1.bot,lu,by omega⟩,rfl,(P.map (λz=>z*t),B*u),⟨rfl,aP G1.fm.pos u0,(G1.bot.mul lu).mono hb,by show (P.map _).length<=1000;rw[aa];omega⟩,?_⟩;rintro _ ⟨R,C,rfl,fm,hw,hle⟩;have hle:R.length<=(P.map λz=>z*t).length:=hle;rw[aa] at hle;refine q _ ⟨R,C,rfl,fm,λk=>(hw k).trans ?_,hle⟩;show (P.map λz=>z*t).getD k 0*C=P.getD k 0*t*C;rw[EX]
theorem ri:((a*b:Int):Rat)=(a:Rat)*(b:Rat):=ax a b
theorem AM(hA:∀ k,Lt2 n (A.getD k 0))(hP:∀ k,Lt2 m (P.getD k 0))(la:A.length<=250)(lp:P.length<=250)(k:Nat):Lt2 (n+m+9) (Cv.cv (Cv.fn A) (Cv.fn P) k):=by
 rcases aJ k 510 with z|z
 ·exact Cv.FI (b:=9) hA hP (by omega)
 ·rw[Cv.v6 (a:=A.length) (b:=P.length) (λj hj=>Cv.sV hj) (λj hj=>Cv.sV hj) (by omega)];exact wO _
def qE:SpB:=.of 2 (α:=List Int×Int×List Int×Int×Nat×Nat×Nat×Nat) (λ(P,B,P',B',n,b,m,c) ds=>ds=[pD P B,pD P' B']/\Pc.Pz n b P B/\Pc.Pz m c P' B'/\b+c*P.length<=8900000/\n+(m+c+10)*(P.length+1)<=90000000/\P.length*P'.length<=190/\P.length<=190/\P'.length<=190)
 (λ(P,B,P',B',n,b,m,c) d=>∃ R C,d=pD R C/\Pc.Of P B P' B' R C)
def rZ:TSd:=(gr [] (ge io (fZ (gB (gD (ga 6)) [8] (gNm 8) gP (gg .Mult (ga 8) (ga 5))) (fZ (gg .Mult (ga 3) (ga 7)) gb))))
def sd:TSd:=dSq (ia [] (nh (ga 2)) (gNm 8)
 (dSq (gk [] (gNm 6) (ge iY (fZ (ge g9 (fZ (ga 6) (fZ (ga 4) gb))) (fZ (gv (fZ (gg .Mult (ga 8) (ga 7)) gb)) gb))))
 (pP [] 7 .Mult (ga 5))))
 rZ
def sf:TSd:=dSq (jT [] 6 7 (gv gb) (dC (.int 1)))
 sd
def sg:TSd:=dSq (gk [] (gTp [4,5]) (ga 1))
 sf
def sG:TSd:=dSq (gk [] (gTp [2,3]) (ga 0))
 sg
theorem rN:Does 9 sG qE:=by
 rintro ds Q hn ⟨⟨P1,B1,P2,B2,n,b,m,c⟩,⟨rfl,G1,G2,hb,hn,hl,l1,l2⟩,q⟩;dsimp only at G1 G2 hb hn hl l1 l2 q;have p1:=G1.fm.pos;have p2:=G2.fm.pos;have hL:(m+c+10)*P1.length+(m+c+10)=(m+c+10)*(P1.length+1):=by rw[ci]
 have hg:∀ k,P2.length<=k->Cv.fn P2 k=0:=λk h=>Cv.sV h;refine⟨rfl,rfl,aL _,λi s=>∃(rs:List Int) (o:SD),s=[.val (pD P1 B1),.val (pD P2 B2),.val (.tup (P1.map .int)),.val (.int B1),.val (.tup (P2.map .int)),.val (.int B2),.val (.lst (rs.map .int)),.val (.int (B2^i)),o]/\rs.length<=i*P2.length+1/\(∀ k,Lt2 (n+(m+c+10)*i+1) (rs.getD k 0))/\∀ k,Pc.pc (Cv.fn P1) (Cv.fn P2) B2 P1.length k=B2^i*Pc.pc (Cv.fn P1) (Cv.fn P2) B2 (P1.length-i) k+B2*Cv.cv (Pc.cp (Cv.fn P2) (P1.length-i)) (Cv.fn rs) k,
  ⟨[],.no,by rw[bR];rfl,aL _,λk=>by rw[sP (fs:=([]:List Int)) (aL _)];exact wO _,λk=>by rw[Cv.FD λj=>Cv.sV (aL _)];simp⟩,?_,?_⟩
 ·rintro i d _ hd ⟨rs,o,rfl,lr,sr,hr1⟩;have hd:(P1.map D.int).reverse[i]? = some d:=hd;have hi:i<P1.length:=by have:=(af.mp hd).1;simpa using this
  rw[cm (by rw[aa];exact hi),aa] at hd;obtain⟨_,rfl⟩:=vz hd;have hp1:=G1.tops (P1.length-1-i);have li:(m+c+10)*(i+1)<=(m+c+10)*P1.length:=bG _ hi;rw[ci] at li;have li2:(i+1)*P2.length<=P1.length*P2.length:=aI _ hi;rw[aS] at li2;have li3:c*i<=(m+c+10)*i:=aI _ (by omega);have ls:=Hv.uT G2.bot i;refine⟨rfl,(_,_,rs,P2,n+(m+c+10)*i+1,m),⟨rfl,.inl rfl,.inr rfl,by show rs.length<=450;omega,by show P2.length<=450;omega,sr,G2.tops,by show n+(m+c+10)*i+1+m<=100000000;omega⟩,?_⟩;rintro _ ⟨qs,rfl,lq,hq⟩;have lq:qs.length<=rs.length+P2.length:=lq;refine⟨⟨_,_,hp1,ls,by omega⟩,vT,rfl,(_,_,qs,[P1.getD (P1.length-1-i) 0*B2^i]),⟨rfl,.inl rfl,.inl rfl,by show qs.length<=1000;omega,by show 1<=1000;decide⟩,?_⟩;rintro _ ⟨ws,rfl,lw,hw⟩;have lw:ws.length=max qs.length 1:=lw;have hw0:∀ j,Cv.fn ws j=Cv.cv (Cv.fn rs) (Cv.fn P2) j+(if j=0 then Cv.fn P1 (P1.length-1-i)*B2^i else 0):=λj=>by
   have e:ws.getD j 0=qs.getD j 0+[P1.getD (P1.length-1-i) 0*B2^i].getD j 0:=hw j;rw[hq j] at e;cases j with
   | zero=>exact e
   | succ j=>rw[if_neg (by omega)];rw[sP (fs:=[P1.getD (P1.length-1-i) 0*B2^i]) (by simp)] at e;exact e
  refine⟨⟨_,_,ls,G2.bot,by omega⟩,ws,_,by rw[bv];rfl,?_,λk=>?_,λk=>?_⟩
  ·rw[aS];omega
  ·show Lt2 _ (Cv.fn ws k);rw[hw0 k];have y1:Lt2 (n+(m+c+10)*i+1+m+9) (Cv.cv (Cv.fn rs) (Cv.fn P2) k):=AM sr G2.tops (by omega) (by omega) k;have y2:Lt2 (n+(m+c+10)*i+1+m+9) (if k=0 then Cv.fn P1 (P1.length-1-i)*B2^i else 0):=by
    split
    ·exact (hp1.mul ls).mono (by omega)
    ·exact wO _
   exact (y1.add y2).mono (by rw[ci];omega)
  ·exact Pc.E9 hg hi hr1 _ hw0
 ·rintro _ ⟨rs,o,rfl,lr,sr,hr1⟩;rw[bM,aa] at lr sr hr1 ⊢;have hr2:∀ k,Pc.pc (Cv.fn P1) (Cv.fn P2) B2 P1.length k=B2*rs.getD k 0:=λk=>by
   rw[hr1 k,bY];show _*0+B2*Cv.cv Pc.d0 (Cv.fn rs) k=_;rw[Pc.FJ,bC,cx];rfl
  have ls:=Hv.uT G2.bot P1.length;have Y:=aP p1 (Hv.pow_pos p2 P1.length);refine⟨(congrArg (· <= sizeLine) (aa _)).mpr (tX (by omega)),mI (λz=>z*B2) rs,mI.nil,λi d ys hd _ hy=>?_,λys _ hy=>?_⟩
  ·obtain⟨z,hz,rfl⟩:=wD hd;have e:rs.getD i 0=z:=sZ hz;exact⟨⟨_,_,e ▸ sr i,G2.bot,by omega⟩,hy.snoc hz rfl⟩
  cases hy.all (by rw[aa]);refine⟨⟨_,_,G1.bot,ls,by omega⟩,rfl,(rs.map (λz=>z*B2),B1*B2^P1.length),⟨rfl,Y,(G1.bot.mul ls).mono (by omega),by show (rs.map _).length<=1000;rw[aa];omega⟩,?_⟩;rintro _ ⟨R,C,rfl,fm,hw,hle⟩;refine q _ ⟨R,C,rfl,fm,λk=>?_⟩;have h:R.getD k 0*(B1*B2^P1.length)=(rs.map λz=>z*B2).getD k 0*C:=hw k;rw[h,EX,hr2 k,bO B2]
end Dp
namespace Qp
open L2 Cv Hv Pc
def tc(r:Rat):Nat->Nat->Rat
 | 0,k=>if k=0 then 2 else 0
 | 1,k=>if k=1 then 1 else 0
 | n+2,k=>(if k=0 then 0 else tc r (n+1) (k-1))-tc r n k*r
theorem tc.two(r:Rat)(n k:Nat):tc r (n+2) k=(if k=0 then 0 else tc r (n+1) (k-1))-tc r n k*r:=by rw[tc]
theorem Ba(u0:0<u)(lt:Lt2 M t)(lu:Lt2 M u):∀ n:Nat,∃ F:Nat->Int,(∀ k,tc ((t:Rat) / (u:Rat)) n k=((F k:Int):Rat) / ((u^n:Int):Rat))/\(∀ k,Lt2 ((2*M+1)*n+2) (F k))/\∀ k,n<k->F k=0
 | 0=>⟨λk=>if k=0 then 2 else 0,λk=>by
   rw[bR];show (if k=0 then (2:Rat) else 0)=(((if k=0 then 2 else 0):Int):Rat) / _;by_cases c:k=0
   ·rw[if_pos c,if_pos c];show (2:Rat)=(2:Rat) / 1;grind
   ·rw[if_neg c,if_neg c];show (0:Rat)=(0:Rat) / 1;grind,λk=>by
   show Lt2 _ (if k=0 then 2 else 0);split
   ·exact (show Lt2 2 2 by unfold Lt2;decide).mono (by omega)
   ·exact cj (by decide),λk hk=>if_neg (by omega)⟩
 | 1=>⟨λk=>if k=1 then u else 0,λk=>by
   rw[bv,bR,cT];show (if k=1 then (1:Rat) else 0)=(((if k=1 then u else 0):Int):Rat) / _;have:=sO u0;by_cases c:k=1
   ·rw[if_pos c,if_pos c];grind
   ·rw[if_neg c,if_neg c];show (0:Rat)=(0:Rat) / (u:Rat);grind,λk=>by
   show Lt2 _ (if k=1 then u else 0);split
   ·exact lu.mono (by omega)
   ·exact cj (by decide),λk hk=>if_neg (by omega)⟩
 | n+2=>by
  obtain⟨F,f1,f2,f3⟩:=Ba u0 lt lu (n+1);obtain⟨G,g1,g2,g3⟩:=Ba u0 lt lu n;have nu:=sO u0;have np:=xa nu n;have s2:Lt2 (2*M) (t*u):=(lt.mul lu).mono (by omega);refine⟨λk=>(if k=0 then 0 else F (k-1))*u-G k*(t*u),λk=>?_,λk=>?_,λk hk=>?_⟩
  ·rw[tc.two,g1 k];simp only[Rat.intCast_sub,ax,cO];have e1:(u:Rat)^(n+2)=(u:Rat)^n*u*u:=by grind
   have e2:(u:Rat)^(n+1)=(u:Rat)^n*u:=by grind
   by_cases c:k=0
   ·rw[if_pos c,if_pos c,e1];have:((0:Int):Rat)=0:=rfl;rw[this];generalize (u:Rat)^n=w at *;grind
   ·rw[if_neg c,if_neg c,f1 (k-1),cO,e1,e2];generalize (u:Rat)^n=w at *;grind
  ·have a:Lt2 ((2*M+1)*(n+1)+2+M) ((if k=0 then 0 else F (k-1))*u):=by
    refine Lt2.mul ?_ lu;split
    ·exact cj (by decide)
    ·exact f2 _
   have b:=(g2 k).mul s2;refine ((a.mono (m:=(2*M+1)*n+2+(2*M)+(M+1)) ?_).sub (b.mono ?_)).mono ?_ <;> grind
  ·show (if k=0 then 0 else F (k-1))*u-G k*(t*u)=0;rw[if_neg (by omega),f3 (k-1) (by omega),g3 k (by omega)];simp
end Qp
namespace Dp
open PySem L2
theorem OA(p:0<B)(c:0<C)(h:∀ k,R.getD k 0*(1*B)=Cv.cv (Cv.fn Pc.X) (Cv.fn P) k*C)(k:Nat):Qp.q R C k=if k=0 then 0 else Qp.q P B (k-1):=by
 rw[Qp.Db (f:=λk=>Cv.cv (Cv.fn Pc.X) (Cv.fn P) k) c (by omega) h k,Cv.vH,Pc.L5 (Cv.fn P) k,cT];by_cases e:k=0
 ·rw[if_pos e,if_pos e];show (0:Rat) / _=0;grind
 ·rw[if_neg e,if_neg e];rfl
def Tk(r:Rat)(n:Nat)(P:List Int)(B:Int):Prop:=Po.Fm P B/\∀ k,Qp.q P B k=Qp.tc r n k
theorem Tk.pz(h:Tk r n P B)(f:FqD M M d r):Pc.Pz ((2*M+1)*n+2) (M*n+1) P B/\P.length<=n+1:=by
 obtain⟨t,u,_,u0,_,lt,lu,rfl⟩:=f;obtain⟨F,f1,f2,f3⟩:=Qp.Ba u0 lt lu n;have p:0<u^n:=cS u0;have hw:∀ k,P.getD k 0*u^n=F k*B:=λk=>(Qp.uc (aT h.1.pos) (aT p)).mp ((h.2 k).trans (f1 k));exact⟨Pc.Pz.of h.1 p hw f2 (Hv.uT lu n),Pc.ub h.1 p hw λk hk=>f3 k (by omega)⟩
theorem Tk.szs(h:Tk r n P B)(f:FqD M M d r)(hM:M<=21)(hn:n<=13):Pc.Pz 570 280 P B/\P.length<=14:=by
 obtain⟨a,b⟩:=h.pz f;have:M*n<=21*13:=aY hM hn;have:(2*M+1)*n<=43*13:=aY (by omega) hn;exact⟨a.mono (by omega) (by omega),by omega⟩
theorem Tk.zero:Tk r 0 [2] 1:=⟨⟨by decide,.inr (by decide),by decide⟩,λk=>by
 cases k with
 | zero=>show (2:Rat) / 1=2;grind
 | succ k=>show ((([2]:List Int).getD (k+1) 0:Int):Rat) / ((1:Int):Rat)=0;rw[ft,sP (aL _)];show (0:Rat) / 1=0;grind⟩
theorem Tk.one:Tk r 1 Pc.X 1:=⟨Pc.Mf.fm,λk=>by
 match k with
 | 0=>show (0:Rat) / 1=0;grind
 | 1=>show (1:Rat) / 1=1;grind
 | k+2 =>
  rw[Qp.Av (by show 2<=k+2;omega)];show 0=if k+2=1 then 1 else 0;rw[if_neg (by omega)]⟩
def pZ:TSd:=(gr [] (ge gJ (fZ (gg .Add (gg .Mult (dIx (ga 0) (dC (.int 0))) (dIx (ga 1) (dC (.int 1)))) (gg .Mult (dIx (ga 1) (dC (.int 0))) (dIx (ga 0) (dC (.int 1))))) (fZ (gg .Mult (dIx (ga 0) (dC (.int 1))) (dIx (ga 1) (dC (.int 1)))) gb))))
def n8:TSd:=(gr [] (ge gJ (fZ (gg .Mult (dIx (ga 0) (dC (.int 0))) (dIx (ga 1) (dC (.int 0)))) (fZ (gg .Mult (dIx (ga 0) (dC (.int 1))) (dIx (ga 1) (dC (.int 1)))) gb))))
def ii:SpB:=.of 2 (α:=Nat×D×Rat×Nat) (λ(n,d,r,M) ds=>ds=[.int n,d]/\FqD M M d r/\M<=21/\1<=n/\n<=12) (λ(n,d,r,M) e=>∃ P B,e=pD P B/\Tk r n P B)
def kJ:TSd:=(gr [] (mH 2 (ga 0)))
def kK:TSd:=dSq (ia [] (jB (gg .Sub (ga 0) (dC (.int 1)))) (gNm 3)
 (dSq (gk [] (gNm 4) (ge gG (fZ (mH 2 (nc (dC (.int 2)))) (fZ (ge gh (fZ (gv (fZ (gg .Sub (dC (.int 0)) (dIx (ga 1) (dC (.int 0)))) gb)) (fZ (dIx (ga 1) (dC (.int 1))) gb))) gb))))
 (pN [] 2 (ge gE (fZ (ge gG (fZ (gm (fZ (gm (fZ (dC (.int 0)) (fZ (dC (.int 1)) gb))) (fZ (dC (.int 1)) gb))) (fZ (mH 2 (nc (dC (.int 1)))) gb))) (fZ (ga 4) gb))))))
 kJ
def mO:TSd:=dSq (jj [] 2 (gv (fZ (gm (fZ (gm (fZ (dC (.int 2)) gb)) (fZ (dC (.int 1)) gb))) (fZ (gm (fZ (gm (fZ (dC (.int 0)) (fZ (dC (.int 1)) gb))) (fZ (dC (.int 1)) gb))) gb))))
 kK
theorem Ff(a y b c:Rat)(n1:b≠0)(n2:c≠0):a*y / (b*c)=a / b*(y / c):=by grind
theorem DK(t u:Rat):(0-t) / u=0-t / u:=by grind
theorem GD{P S R:List Int}{B U C t u:Int}(b0:0<B)(b8:0<U)(c0:0<C)(u0:0<u)(w:S.getD 0 0*u=t*U)(h:∀ k,R.getD k 0*(B*U)=P.getD k 0*S.getD 0 0*C)(k:Nat):Qp.q R C k=Qp.q P B k*((t:Rat) / (u:Rat)):=by
 rw[Qp.Db (f:=λk=>P.getD k 0*S.getD 0 0) c0 (aT (aP b0 b8)) h k,ax,ax,Ff _ _ _ _ (Qp.sO b0) (Qp.sO b8),(Qp.uc (aT b8) (aT u0)).mpr w];rfl
theorem ke:Does 5 mO ii:=by
 rintro ds Q hn ⟨⟨n,d,r,M⟩,⟨rfl,f,hM,n1,n12⟩,q⟩;dsimp only at f hM n1 n12 q;have en:((n:Int)-1).toNat=n-1:=by omega
 have f':=f;obtain⟨t,u,rfl,u0,g,lt,lu,hr⟩:=f';refine⟨vT,tE,tE,tE,tE,by omega,by omega,λi s=>∃(o3 o4:SD) (xs:List D),s=[.val (.int n),.val (fD t u),.own xs,o3,o4]/\xs.length=i+2/\∀(j:Nat) (x:D),xs[j]? = some x->∃ P B,x=pD P B/\Tk r j P B,⟨.no,.no,_,rfl,rfl,λj x hx=>?_⟩,?_,?_⟩
 ·match j,hx with
  | 0,hx =>
   cases hx;exact⟨[2],1,rfl,Tk.zero⟩
  | 1,hx =>
   cases hx;exact⟨[0,1],1,rfl,Tk.one⟩
 ·rintro i d _ hd ⟨o3,o4,xs,rfl,lx,hxs⟩;obtain⟨hi,rfl⟩:=ug hd;have hi:i<n-1:=by omega
  obtain⟨x0,e0⟩:∃ x,xs[i]? = some x:=⟨xs[i]'(by omega),by simp⟩;obtain⟨x1,e1⟩:∃ x,xs[i+1]? = some x:=⟨xs[i+1]'(by omega),by simp⟩;obtain⟨P0,B0,rfl,h0⟩:=hxs i x0 e0;obtain⟨P1,B1,rfl,h1⟩:=hxs (i+1) x1 e1;obtain⟨z0,l0⟩:=h0.szs f hM (by omega);obtain⟨z1,l1⟩:=h1.szs f hM (by omega);have b0:=h0.1.pos;have b1:=h1.1.pos;refine zK (AU (j:=2) (by rw[show i+2-2=i by omega];exact e0) lx (by decide) (by omega)) ⟨vT,rfl,([0-t],u),⟨.inl rfl,u0,lu.mono (by omega),by show 1<=1000;decide⟩,?_⟩;rintro _ ⟨P8,B8,rfl,f8,w8,l8⟩;have lt':Lt2 M (0-t):=lt.le (by omega);have z8:Pc.Pz M M P8 B8:=Pc.Pz.of f8 u0 w8 (λk=>by
   cases k with
   | zero=>exact lt'
   | succ k=>rw[ft,sP (aL _)];exact wO _) lu
  have l8':P8.length<=1:=l8;refine⟨rfl,(P0,B0,P8,B8,_,_,_,_),⟨rfl,z0,z8,by omega,by omega,by omega,by omega⟩,?_⟩;rintro _ ⟨P9,B9,rfl,f9,w9⟩;have c9:∀ k,Cv.cv (Cv.fn P0) (Cv.fn P8) k=P0.getD k 0*P8.getD 0 0:=Ca.FK λk hk=>sP (by omega);have b8:=f8.pos;have z9:Pc.Pz 600 310 P9 B9:=(Pc.Pz.of f9 (aP b0 b8) w9 (λk=>by rw[c9 k];exact (z0.tops k).mul (z8.tops 0)) (z0.bot.mul z8.bot)).mono (by omega) (by omega);have l9:P9.length<=14:=Pc.ub f9 (aP b0 b8) w9 λk hk=>by
   rw[c9 k,sP (by omega),aX]
  have q9:∀ k,Qp.q P9 B9 k=Qp.q P0 B0 k*(0-r):=λk=>by
   rw[GD (t:=0-t) b0 b8 f9.pos u0 (w8 0) (λk=>by rw[w9 k,c9 k]) k,hr,Rat.intCast_sub];have i0:((0:Int):Rat)=0:=rfl;rw[i0];exact congrArg _ (DK _ _)
  refine⟨tE,tE,zK (AU (j:=1) (by rw[show i+2-1=i+1 by omega];exact e1) lx (by decide) (by omega)) ⟨rfl,(Pc.X,1,P1,B1,1,1,_,_),⟨rfl,Pc.Mf,z1,by decide,by decide,(by show 2<=450;decide),by omega⟩,?_⟩⟩;rintro _ ⟨R,C,rfl,fR,wR⟩;have cc:∀ k,Cv.cv (Cv.fn Pc.X) (Cv.fn P1) k=if k=0 then 0 else P1.getD (k-1) 0:=λk=>by
   rw[Cv.vH];exact Pc.L5 (Cv.fn P1) k
  have zR:Pc.Pz 570 281 R C:=Pc.Pz.of fR (c:=1*B1) (by omega) wR (λk=>by
   rw[cc k];split
   ·exact wO _
   ·exact z1.tops _) (by rw[cT];exact z1.bot.mono (by decide))
  have lR:R.length<=15:=Pc.ub fR (c:=1*B1) (by omega) wR λk hk=>by
   rw[cc k,if_neg (by omega),sP (by omega)]
  refine⟨rfl,(R,C,P9,B9,_,_,_,_),⟨rfl,zR,z9,by decide,by decide,by omega,by omega⟩,?_⟩;rintro _ ⟨V,W,rfl,fV,wV⟩;have hV:Tk r (i+2) V W:=⟨fV,λk=>by
   rw[Qp.Ld fR.pos f9.pos fV.pos wV k,OA b1 fR.pos wR k,q9 k,h0.2 k,Qp.tc.two];by_cases c:k=0
   ·rw[if_pos c,if_pos c];grind
   ·rw[if_neg c,if_neg c,h1.2 (k-1)];grind⟩
  refine⟨(by rw[lx,sizeLine_eq];omega),_,_,xs++[pD V W],rfl,by rw[ai,lx];rfl,λj x hj=>?_⟩;rcases aJ j xs.length with y|y
  ·rw[aK y] at hj;exact hxs j x hj
  ·have ej:j=i+2:=by
    have:=(af.mp hj).1;rw[ai] at this;simp at this;omega
   subst ej;rw[aF (by omega),lx,bY] at hj;cases hj;exact⟨V,W,rfl,hV⟩
 ·rintro _ ⟨o3,o4,xs,rfl,lx,hxs⟩;rw[td,en] at lx;obtain⟨x,ex⟩:∃ x,xs[n]? = some x:=⟨xs[n]'(by omega),by simp⟩;obtain⟨P1,B1,rfl,h⟩:=hxs n x ex;exact tv ex (q _ ⟨P1,B1,rfl,h⟩)
end Dp
namespace Ch
open L2 Cv Hv Pc Qp
abbrev Pl:=List Int×Int
end Ch
namespace Dp
open PySem L2 Ch
abbrev pq(p:Pl):D:=pD p.1 p.2
def pe:TSd:=(gr [] (dC (.bl true)))
def nw:TSd:=dSq (ia [] (gD (ga 0)) (gNm 1)
 (dIf [] (gu (gy .GtE (dB bMax bMax.mono (fZ (gg .Add (gB (gD (dIx (ga 1) (dC (.int 0)))) [2] (gNm 2) gP (dB bAbs bAbs.mono (fZ (ga 2) gb))) (gv (fZ (dIx (ga 1) (dC (.int 1))) gb))) gb)) (gg .Pow (dC (.int 10)) (dC (.int 40)))))
 (gr [] (dC (.bl false)))
 gz))
 pe
theorem wB(h0:0<=i)(h1:i<l.length)(h:∀ x∈l,Q x):itD l i Q:=by
 obtain⟨n,rfl⟩:∃ n:Nat,i=n:=⟨i.toNat,by omega⟩;exact tv (ah (by omega)) (h _ (fW _))
end Dp
namespace Dp
open PySem L2
theorem wu(t k:Nat)(r:Int):(List.replicate t (0:Int)++[r]).getD k 0=if k=t then r else 0:=by
 rcases aJ k t with y|y
 ·rw[if_neg (by omega),aj,aK (by rw[aQ];exact y),cR,if_pos y];rfl
 ·by_cases e:k=t
  ·rw[if_pos e,e,aj,aF (by rw[aQ];exact aq _),aQ,bY];rfl
  ·rw[if_neg e,sP (by rw[ai,aQ];show t+1<=k;omega)]
end Dp
namespace Dt
abbrev Rw:=Nat->Int
abbrev Fm:=List Nat->Int
def ex(a:Rw)(F:Fm):List Nat->List Nat->Int
 | _,[]=>0
 | pre,c::cs=>a c*F (pre++cs)-ex a F (pre++[c]) cs
def dt:List Rw->Fm
 | [],[]=>1
 | [],_::_=>0
 | a::P,cs=>ex a (dt P) [] cs
variable{a b:Rw}{F G:Fm}{P:List Rw}
theorem By:∀{cs pre:List Nat},ex (λx=>a x+b x) F pre cs=ex a F pre cs+ex b F pre cs
 | [],_=>rfl
 | c::cs,pre=>by
  show (a c+b c)*F (pre++cs)-ex (λx=>a x+b x) F (pre++[c]) cs=(a c*F (pre++cs)-ex a F (pre++[c]) cs)+(b c*F (pre++cs)-ex b F (pre++[c]) cs);rw[By,dU];omega
theorem Bx:∀{cs pre:List Nat},ex (λx=>k*a x) F pre cs=k*ex a F pre cs
 | [],_=>by show (0:Int)=k*0;rw[bC]
 | c::cs,pre=>by
  show k*a c*F (pre++cs)-ex (λx=>k*a x) F (pre++[c]) cs=k*(a c*F (pre++cs)-ex a F (pre++[c]) cs);rw[Bx,Int.mul_sub,cI]
theorem wH:∀{cs pre:List Nat},(∀ c∈cs,a c=0)->ex a F pre cs=0
 | [],_,_=>rfl
 | c::cs,pre,h=>by
  show a c*F (pre++cs)-ex a F (pre++[c]) cs=0;rw[h c av,wH λc hc=>h c (aw _ hc)];simp
theorem Fn:∀{cs pre:List Nat},(∀ u c v,u++c::v=pre++cs->pre.length<=u.length->d*F1 (u++v)=p*F2 (u++v)-q*F3 (u++v))->d*ex a F1 pre cs=p*ex a F2 pre cs-q*ex a F3 pre cs
 | [],_,_=>by show d*0=p*0-q*0;simp
 | c::cs,pre,h=>by
  show d*(a c*F1 (pre++cs)-ex a F1 (pre++[c]) cs)=p*(a c*F2 (pre++cs)-ex a F2 (pre++[c]) cs)-q*(a c*F3 (pre++cs)-ex a F3 (pre++[c]) cs);have e1:=h pre c cs rfl (aq _);have e2:=Fn (cs:=cs) (pre:=pre++[c]) λu c' v e l=>h u c' v (e.trans (by simp)) (by rw[ai] at l;exact bq (eG _ _) l);grind
theorem zN:∀{u pre:List Nat},(∀ x∈u,a x=0)->(∀ x∈v,a x=0)->ex a F pre (u++c::v)=(-1)^u.length*(a c*F (pre++u++v))
 | [],pre,_,hv=>by
  show a c*F (pre++v)-ex a F (pre++[c]) v=_;rw[wH hv,cu];simp
 | x::u,pre,hu,hv=>by
  show a x*F (pre++(u++c::v))-ex a F (pre++[x]) (u++c::v)=_;rw[hu x av,zN (λy hy=>hu y (aw _ hy)) hv];have e:pre++[x]++u++v=pre++(x::u)++v:=by simp
  rw[e,aE,bv];grind
def KF(F:Fm):Prop:=∀ u x y v,F (u++x::y::v) = - F (u++y::x::v)
theorem Ix(h:KF F):∀{cs:List Nat} {q:List Nat},ex a F (p++x::y::q) cs = - ex a F (p++y::x::q) cs
 | [],_=>rfl
 | c::cs,q=>by
  show a c*F (p++x::y::q++cs)-ex a F (p++x::y::q++[c]) cs = -(a c*F (p++y::x::q++cs)-ex a F (p++y::x::q++[c]) cs);have e1:p++x::y::q++cs=p++x::y::(q++cs):=by simp
  have e2:p++y::x::q++cs=p++y::x::(q++cs):=by simp
  have e3:p++x::y::q++[c]=p++x::y::(q++[c]):=by simp
  have e4:p++y::x::q++[c]=p++y::x::(q++[c]):=by simp
  rw[e1,e2,e3,e4,h p x y,Ix h (cs:=cs) (q:=q++[c])];grind
theorem Fo(h:KF F):∀{u pre:List Nat},ex a F pre (u++x::y::v) = - ex a F pre (u++y::x::v)
 | [],pre=>by
  show a x*F (pre++y::v)-(a y*F (pre++[x]++v)-ex a F (pre++[x]++[y]) v) = -(a y*F (pre++x::v)-(a x*F (pre++[y]++v)-ex a F (pre++[y]++[x]) v));have e1:pre++[x]++v=pre++x::v:=by simp
  have e2:pre++[y]++v=pre++y::v:=by simp
  have e3:pre++[x]++[y]=pre++x::y::[]:=by simp
  have e4:pre++[y]++[x]=pre++y::x::[]:=by simp
  rw[e1,e2,e3,e4,Ix h (cs:=v) (q:=[])];omega
 | z::u,pre=>by
  show a z*F (pre++(u++x::y::v))-ex a F (pre++[z]) (u++x::y::v) = -(a z*F (pre++(u++y::x::v))-ex a F (pre++[z]) (u++y::x::v));rw[Fo h,← dq,← dq,h (pre++u) x y v];grind
theorem IB(h:cs≠[]):dt [] cs=0:=by
 cases cs with
 | nil=>exact absurd rfl h
 | cons=>rfl
theorem Kn:∀ P:List Rw,KF (dt P)
 | []=>λu x y v=>by rw[IB (by simp),IB (by simp)];rfl
 | a::P=>λu x y v=>Fo (Kn P)
theorem mv(h:KF F):∀{u w:List Nat},F (w++u++c::v)=(-1)^u.length*F (w++c::u++v)
 | [],w=>by simp
 | x::u,w=>by
  have e:w++x::u++c::v=w++[x]++u++c::v:=by simp
  rw[e,mv h (u:=u) (w:=w++[x])];have e2:w++[x]++c::u++v=w++x::c::(u++v):=by simp
  have e3:w++c::x::u++v=w++c::x::(u++v):=by simp
  rw[e2,e3,h w x c,aE,bv];grind
theorem rep(h:KF F):F (w++c::u++c::v)=0:=by
 have e:w++c::u++c::v=w++[c]++u++c::v:=by simp
 rw[e,mv h];have e2:w++[c]++c::u++v=w++c::c::(u++v):=by simp
 have:=h w c c (u++v);rw[e2,show F (w++c::c::(u++v))=0 by omega,bC]
theorem Gy(h:KF F)(hc:c∈cs):F (w++c::cs)=0:=by
 obtain⟨u,v,rfl⟩:=d7 hc;have e:w++c::(u++c::v)=w++c::u++c::v:=by simp
 rw[e,rep h]
def Lin(P:List Rw)(f:Rw):Prop:=∀ K:Rw->Prop,K (λ_=>0)->(∀ f g,K f->K g->K λx=>f x+g x)->(∀(c:Int) f,K f->K λx=>c*f x)->(∀ p∈P,K p)->K f
theorem Lin.mem(h:p∈P):Lin P p:=λK _ _ _ hp=>hp p h
theorem Lin.add(h:Lin P f)(k:Lin P g):Lin P λx=>f x+g x:=λK z a m hp=>a _ _ (h K z a m hp) (k K z a m hp)
theorem Lin.mul(c:Int)(h:Lin P f):Lin P λx=>c*f x:=λK z a m hp=>m _ _ (h K z a m hp)
theorem Lin.mono(h:Lin P f)(hs:∀ p∈P,p∈P'):Lin P' f:=λK z a m hp=>h K z a m λp h=>hp p (hs p h)
theorem Lin.zero:Lin P λ_=>0:=λK z _ _ _=>z
theorem E1{P:List Rw}{f:List Nat->Rw}:∀{cs pre:List Nat},(∀ w,Lin P (f w))->Lin P λx=>ex a (λw=>f w x) pre cs
 | [],_,_=>Lin.zero
 | c::cs,pre,h=>by
  have e:(λx=>ex a (λw=>f w x) pre (c::cs))=λx=>a c*f (pre++cs) x+(-1)*ex a (λw=>f w x) (pre++[c]) cs:=by
   funext x;show a c*f (pre++cs) x-ex a (λw=>f w x) (pre++[c]) cs=_;omega
  rw[e];exact ((h _).mul _).add ((E1 h).mul _)
theorem Bw:∀{cs pre:List Nat},ex a F (x::pre) cs=ex a (λw=>F (x::w)) pre cs
 | [],_=>rfl
 | c::cs,pre=>by
  show a c*F (x::(pre++cs))-ex a F (x::(pre++[c])) cs=a c*F (x::(pre++cs))-ex a (λw=>F (x::w)) (pre++[c]) cs;rw[Bw]
theorem ue:dt (a::P) (x::cs)=a x*dt P cs-ex a (λw=>dt P (x::w)) [] cs:=by
 show a x*dt P ([]++cs)-ex a (dt P) ([]++[x]) cs=_;rw[bH,bH,Bw]
theorem MC:∀(P:List Rw) (E:List Nat),Lin P λx=>dt P (x::E)
 | [],_=>Lin.zero
 | a::P,E=>by
  have e:(λx=>dt (a::P) (x::E))=λx=>dt P E*a x+(-1)*ex a (λw=>dt P (x::w)) [] E:=by
   funext x;rw[ue,bO (dt P E)];omega
  rw[e];exact ((Lin.mem av).mul _).add ((E1 λw=>(MC P w).mono λp h=>aw _ h).mul _)
theorem Nv(P:List Rw)(y:Nat)(E:List Nat):Lin P λx=>dt P (y::x::E):=by
 have e:(λx=>dt P (y::x::E))=λx=>(-1)*dt P (x::y::E):=by
  funext x;have:=Kn P [] y x E;simp only[bH] at this;rw[this];omega
 rw[e];exact (MC P (y::E)).mul _
def Sp(P:List Rw)(cs:List Nat):Prop:=∀ p∈P,∀ x,dt (p::P) (x::cs)=0
theorem key(S:Sp P cs)(hc:cs=u++c::v)(h0:dt P cs≠0)(h1:dt (a::P) (y::cs)≠0)(x:Nat) :
  dt P cs*dt (a::P) (y::x::(u++v))=dt (a::P) (y::cs)*dt P (x::(u++v))-dt P (y::(u++v))*dt (a::P) (x::cs):=by
 have A:=Kn (a::P);have A0:=Kn P;have L:=Nv (a::P) y (u++v);have k:=L (λf=>∀ x,dt P cs*dt (a::P) (y::cs)*f x=dt (a::P) (y::cs)*ex f (λw=>dt P (x::w)) [] cs-dt (a::P) (x::cs)*ex f (λw=>dt P (y::w)) [] cs+dt P cs*dt (a::P) (x::cs)*f y)
  (λx=>by rw[wH (λ_ _=>rfl),wH (λ_ _=>rfl)];simp) (λf g hf hg x=>by
   have e1:=hf x;have e2:=hg x;rw[By,By];grind) (λm f hf x=>by
   have e1:=hf x;rw[Bx,Bx];grind) (λp hp x=>by
   rcases ao.mp hp with z|z
   ·subst z;have e1:=ue (a:=p) (P:=P) (x:=x) (cs:=cs);have e2:=ue (a:=p) (P:=P) (x:=y) (cs:=cs);grind
   ·have e1:=ue (a:=p) (P:=P) (x:=x) (cs:=cs);have e2:=ue (a:=p) (P:=P) (x:=y) (cs:=cs);have e3:=S p z x;have e4:=S p z y;grind)
 have kx:=k x;have zy:dt (a::P) (y::y::(u++v))=0:=Gy (w:=[]) A av;have zu:∀ z∈u,dt (a::P) (y::z::(u++v))=0:=λz hz=>Gy (w:=[y]) A (bu _ hz);have zv:∀ z∈v,dt (a::P) (y::z::(u++v))=0:=λz hz=>Gy (w:=[y]) A (aG _ hz);have o1:=zN (a:=λx=>dt (a::P) (y::x::(u++v))) (F:=λw=>dt P (x::w)) (c:=c) (pre:=[]) zu zv;have o2:=zN (a:=λx=>dt (a::P) (y::x::(u++v))) (F:=λw=>dt P (y::w)) (c:=c) (pre:=[]) zu zv;rw[← hc,bH] at o1 o2;have m1:dt (a::P) (y::cs)=(-1)^u.length*dt (a::P) (y::c::(u++v)):=by
  have:=mv A (c:=c) (v:=v) (u:=u) (w:=[y]);rw[hc];simpa using this
 have sq:(-1:Int)^u.length*(-1)^u.length=1:=by
  rw[← fw];exact Int.one_pow
 rw[o1,o2] at kx;dsimp only at kx;rw[zy] at kx;generalize dt (a::P) (y::c::(u++v))=g at *;generalize dt P cs=d at *;generalize dt (a::P) (y::cs)=d' at *;generalize dt (a::P) (y::x::(u++v))=gx at *;generalize dt P (x::(u++v))=fx at *;generalize dt P (y::(u++v))=fy at *;generalize dt (a::P) (x::cs)=bx at *;generalize (-1:Int)^u.length=s at *;have e:d'*(d*gx)=d'*(d'*fx-fy*bx):=by grind
 exact Int.eq_of_mul_eq_mul_left h1 e
theorem step(S:Sp P cs)(h0:dt P cs≠0)(h1:dt (a::P) (y::cs)≠0)(x:Nat) :
  dt P cs*dt (b::a::P) (x::y::cs)=dt (a::P) (y::cs)*dt (b::P) (x::cs)-dt (b::P) (y::cs)*dt (a::P) (x::cs):=by
 have e0:=ue (a:=b) (P:=a::P) (x:=x) (cs:=y::cs);have e1:ex b (λw=>dt (a::P) (x::w)) [] (y::cs)=b y*dt (a::P) (x::cs)-ex b (λw=>dt (a::P) (x::y::w)) [] cs:=by
  show b y*dt (a::P) (x::([]++cs))-ex b (λw=>dt (a::P) (x::w)) ([]++[y]) cs=_;rw[bH,bH,Bw]
 have e2:=ue (a:=b) (P:=P) (x:=x) (cs:=cs);have e3:=ue (a:=b) (P:=P) (x:=y) (cs:=cs);have e4:(-dt P cs)*ex b (λw=>dt (a::P) (x::y::w)) [] cs=dt (a::P) (y::cs)*ex b (λw=>dt P (x::w)) [] cs-dt (a::P) (x::cs)*ex b (λw=>dt P (y::w)) [] cs:=by
  refine Fn λu c v e _=>?_;have k:=key S (by simpa using e.symm) h0 h1 x;have s:=Kn (a::P) [] x y (u++v);simp only[bH] at s;rw[s];grind
 grind
theorem Sp.step(S:Sp P cs)(h0:dt P cs≠0)(h1:dt (a::P) (y::cs)≠0):Sp (a::P) (y::cs):=λp hp x=>by
 have k:=Dt.step (b:=p) S h0 h1 x;have e:dt P cs*dt (p::a::P) (x::y::cs)=0:=by
  rw[k];rcases ao.mp hp with z|z
  ·subst z;rw[bO,Int.sub_self]
  ·rw[S p z x,S p z y];simp
 rcases bD.mp e with z|z
 ·exact absurd z h0
 ·exact z
theorem Sp.nil:Sp [] []:=λ_ h=>absurd h aO
theorem Iy:∀{cs pre:List Nat},(∀ x,(a x).natAbs<=B)->(∀ w,w.length+1=pre.length+cs.length->(F w).natAbs<=M)->(ex a F pre cs).natAbs<=cs.length*(B*M)
 | [],_,_,_=>by show (0:Int).natAbs<=_;simp
 | c::cs,pre,ha,hF=>by
  have h1:=hF (pre++cs) (by rw[ai,aE];omega);have h2:=Iy (cs:=cs) (pre:=pre++[c]) ha λw hw=>hF w (by rw[ai,bW] at hw;rw[aE];omega);show (a c*F (pre++cs)-ex a F (pre++[c]) cs).natAbs<=_;have h3:(a c*F (pre++cs)).natAbs<=B*M:=by
   rw[bw];exact aY (ha c) h1
  rw[aE,aS];omega
end Dt
namespace Dp
open PySem L2
def xY(N:Nat)(f:Nat->Int):List D:=(List.range N).map λx=>.int (f x)
def tV(N:Nat)(f:Nat->Int):D:=.lst (xY N f)
theorem uB(h:c<N):(xY N f)[c]? = some (.int (f c)):=by simp[xY,h]
theorem uv:(xY N f).length=N:=by simp[xY]
theorem As(h:(xY N f)[c]? = some d):c<N/\d = .int (f c):=by
 have:=(af.mp h).1;rw[uv] at this;rw[uB this] at h;exact⟨this,(Option.some.inj h).symm⟩
theorem rowL_snoc:xY (N+1) f=xY N f++[.int (f N)]:=by
 unfold xY;rw[dM,aN];rfl
theorem Gw(ts:List Int):ts.map D.int=xY ts.length λx=>ts.getD x 0:=by
 apply cU;intro i;rcases aJ i ts.length with h|h
 ·rw[uF h,uB h]
 ·rw[aV (by rw[aa];exact h),aV (by rw[uv];exact h)]
def hJ:SpB:=.of 4 (α:=Nat×(Nat->Int)×(Nat->Int)×Nat×Int×Nat) (λ(N,f,g,c,d,W) ds=>ds=[tV N f,tV N g,.int c,.int d]/\c<N/\N<=100/\d≠0/\Lt2 9000000 d/\W<=10000000/\(∀ x,Lt2 W (f x))/\∀ x,Lt2 W (g x))
 (λ(N,f,g,c,d,W) r=>r=tV N λx=>(g c*f x-f c*g x).fdiv d)
def rf:TSd:=(gr [] (gB (oP (ga 0) (ga 1)) [4,5] (gTp [4,5]) gP (gg .FloorDiv (gg .Sub (gg .Mult (dIx (ga 1) (ga 2)) (ga 4)) (gg .Mult (dIx (ga 0) (ga 2)) (ga 5))) (ga 3))))
theorem ph:Does 6 rf hJ:=by
 rintro ds Q hn ⟨⟨N,f,g,c,d,W⟩,⟨rfl,hc,hN,d0,dl,hW,hf,hg⟩,q⟩;dsimp only at hc hN d0 dl hW hf hg q;refine⟨by rw[tS,uv,uv];exact tX (by omega),λi ys=>ys=xY i λx=>(g c*f x-f c*g x).fdiv d,rfl,?_,?_⟩
 ·rintro i _ ys hd _ rfl;obtain⟨x,y,hx,hy,rfl⟩:=v9 hd;obtain⟨hi,rfl⟩:=As hx;obtain⟨_,rfl⟩:=As hy;refine⟨rfl,tv (uB hc) ⟨⟨_,_,hg c,hf i,by omega⟩,tv (uB hc) ⟨⟨_,_,hf c,hg i,by omega⟩,⟨d0,9000000,dl,by decide⟩,rowL_snoc.symm⟩⟩⟩
 ·rintro ys _ rfl;rw[tS,uv,uv,fg];exact q _ rfl
def iT:SpB:=.of 2 (α:=List (Nat->Int)×Nat×Nat) (λ(L,N,c) ds=>ds=[.lst (L.map (tV N)),.int c]/\c<N)
 (λ(L,N,c) d=>(d = .non/\∀ f∈L,f c=0)\/∃(k:Nat) (f:Nat->Int),d = .int k/\L[k]? = some f/\f c≠0)
def ny:TSd:=(gr [] (dC .non))
def pj:TSd:=dSq (ia [] (iW (ga 0)) (gTp [2,3])
 (dIf [] (gu (gy .NotEq (dIx (ga 3) (ga 1)) (dC (.int 0))))
 (gr [] (ga 2))
 gz))
 ny
theorem mP:Does 4 pj iT:=by
 rintro ds Q hn ⟨⟨L,N,c⟩,⟨rfl,hc⟩,q⟩;dsimp only at hc q;refine⟨λi s=>∃ o1 o2,s=[.val (.lst (L.map (tV N))),.val (.int c),o1,o2]/\∀(j:Nat) (f:Nat->Int),j<i->L[j]? = some f->f c=0,⟨.no,.no,rfl,λj f h=>absurd h (bV _)⟩,?_,?_⟩
 ·rintro i _ _ hd ⟨o1,o2,rfl,hz⟩;obtain⟨x,hx,rfl⟩:=yY hd;rw[au] at hx;obtain⟨f,hf,rfl⟩:=ac.mp hx;refine⟨rfl,tv (uB hc) ?_⟩;refine DJ (p:=f c=0) (λh=>?_) (λh=>?_)
  ·exact q _ (.inr ⟨i,f,rfl,hf,h⟩)
  ·refine⟨_,_,rfl,λj g hj hg=>?_⟩;rcases bB (bQ hj) with z|z
   ·rw[z,hf] at hg;cases hg;exact h
   ·exact hz j g z hg
 ·rintro _ ⟨o1,o2,rfl,hz⟩;rw[tq,aa] at hz;refine q _ (.inl ⟨rfl,λf hf=>?_⟩);obtain⟨j,hj⟩:=cL hf;exact hz j f (af.mp hj).1 hj
def sN(us:Nat->Nat):Nat->Nat
 | 0=>0
 | i+1=>sN us i+us i
theorem D8:∀{n:Nat},i<=n->sN us i<=sN us n
 | 0,h=>by rw[show i=0 by omega];exact aq _
 | n+1,h=>by
  rcases bB h with z|z
  ·rw[z];exact aq _
  ·exact bq (D8 (bQ z)) (eG _ _)
def KC(fs:List (Int×Int))(us:Nat->Nat)(m:Nat):Prop:=(∀ i f,fs[i]? = some f->0<f.2/\Lt2 m f.1/\Lt2 (us i) f.2)/\fs.length<=100/\sN us fs.length<=4000000/\m<=9000000
def gM:SpB:=.of 1 (α:=List (Int×Int)×(Nat->Nat)×Nat) (λ(fs,us,m) ds=>(ds=[.lst (xB fs)]\/ds=[.tup (xB fs)])/\KC fs us m)
 (λ(fs,us,m) d=>∃ b0:Int,d = .tup [.lst ((fs.map λf=>f.1*b0.fdiv f.2).map .int),.int b0]/\0<b0/\Lt2 (sN us fs.length+1) b0/\∀(j:Nat) (f:Int×Int),fs[j]? = some f->f.2∣b0)
theorem AA(hx:∀ R:List D->Prop,R (xB fs)->itemsD x R)(hF:KC fs us m)(q:∀ d,(∃ b0:Int,d = .tup [.lst ((fs.map λf=>f.1*b0.fdiv f.2).map .int),.int b0]/\0<b0/\Lt2 (sN us fs.length+1) b0/\∀(j:Nat) (f:Int×Int),fs[j]? = some f->f.2∣b0)->Q d):iO.run (s9 Q) (startD 3 [x]):=by
 obtain⟨sizes,hl,hz,hm8⟩:=hF;have us8:∀{i:Nat},i<fs.length->us i<=4000000:=λ{i} h=>by
  have h1:sN us (i+1)<=sN us fs.length:=D8 h;have h2:sN us (i+1)=sN us i+us i:=rfl;omega
 refine hx _ ⟨λi s=>∃(o:SD) (b0:Int),s=[.val x,.val (.int b0),o]/\0<b0/\Lt2 (sN us i+1) b0/\∀(j:Nat) (f:Int×Int),j<i->fs[j]? = some f->f.2∣b0,⟨.no,1,rfl,by decide,by unfold sN Lt2;decide,λj f h=>absurd h (bV _)⟩,?_,?_⟩
 ·rintro i d _ hd ⟨o,b0,rfl,h0,hl0,hd0⟩;obtain⟨f,hf,rfl⟩:=CT hd;obtain⟨b1,l1,l2⟩:=sizes i f hf;have hi:i<fs.length:=(af.mp hf).1;have g0:=xl (a:=b0) (b:=f.2) (by omega);obtain⟨e,q0,ql⟩:=tH g0 b1 (yo b0 f.2).2;obtain⟨k1,k2⟩:=F6 h0 b1;have gl:(Fr.cp b0 f.2).natAbs<=f.2.natAbs:=dE (by omega) (fk.mpr (yo b0 f.2).2);have u8:=us8 hi;have s8:sN us (i+1)<=sN us fs.length:=D8 hi;have se:sN us (i+1)=sN us i+us i:=rfl;refine⟨rfl,(b0,f.2),rfl,?_⟩;rintro _ rfl;refine⟨⟨by show Fr.cp b0 f.2≠0;omega,us i,l2.le gl,by omega⟩,⟨_,_,hl0,l2.le ql,by omega⟩,_,_,rfl,k1,(hl0.mul (l2.le ql)).mono (by omega),λj g hj hg=>?_⟩;rcases bB (bQ hj) with z|z
  ·rw[z,hf] at hg;cases hg;exact k2
  ·exact Int.dvd_mul_of_dvd_left (hd0 j g z hg)
 ·rintro _ ⟨o,b0,rfl,h0,hl0,hd0⟩;rw[aa] at hl0 hd0;have hd1:∀(j:Nat) (f:Int×Int),fs[j]? = some f->f.2∣b0:=λj f h=>hd0 j f (af.mp h).1 h;refine hx _ ⟨(congrArg (· <= sizeLine) (aa _)).mpr (tX (by omega)),mI (λf:Int×Int=>f.1*b0.fdiv f.2) fs,mI.nil,λi d ys hd _ hy=>?_,λys _ hy=>?_⟩
  ·obtain⟨f,hf,rfl⟩:=CT hd;obtain⟨b1,l1,l2⟩:=sizes i f hf;have u8:=us8 (af.mp hf).1;obtain⟨e,q0,ql⟩:=tH b1 h0 (hd1 _ _ hf);exact⟨⟨by show f.2≠0;omega,us i,l2,by omega⟩,⟨_,_,l1,hl0.le ql,by omega⟩,hy.snoc hf rfl⟩
  ·cases hy.all (by rw[aa]);exact⟨tE,q _ ⟨b0,rfl,h0,hl0,hd1⟩⟩
theorem jl:Does 3 iO gM:=by
 rintro ds Q hn ⟨⟨fs,us,m⟩,⟨rfl|rfl,hF⟩,q⟩
 ·exact AA (λR r=>r) hF q
 ·exact AA (λR r=>r) hF q
def Frs2(fs:List (Int×Int))(f:Int×Int)(u1 u2 v:Nat):Prop:=(∀ p∈fs,0<p.2/\Lt2 v p.1/\Lt2 u1 p.2)/\(0<f.2/\Lt2 v f.1/\Lt2 u2 f.2)/\fs.length<=99/\u1*fs.length+u2<=4000000/\v<=100000
theorem Frs2.pos(h:Frs2 fs f u1 u2 v)(hp:p∈fs++[f]):0<p.2/\Lt2 v p.1:=by
 rcases aW.mp hp with z|z
 ·exact⟨(h.1 p z).1,(h.1 p z).2.1⟩
 ·rw[aC.mp z];exact⟨h.2.1.1,h.2.1.2.1⟩
theorem D7:sN (λi=>if i<n then u1 else u2) (n+1)=u1*n+u2:=by
 have:∀ k,k<=n->sN (λi=>if i<n then u1 else u2) k=u1*k:=λk=>by
  induction k with
  | zero=>exact λ_=>rfl
  | succ k ih =>
   intro h;show sN _ k+(if k<n then u1 else u2)=_;rw[ih (by omega),if_pos (by omega),ci]
 show sN _ n+(if n<n then u1 else u2)=_;rw[this n (aq _),if_neg (bc _)]
theorem Frs2.frz{fs:List (Int×Int)}{f:Int×Int}{u1 u2 v:Nat}(h:Frs2 fs f u1 u2 v):KC (fs++[f]) (λi=>if i<fs.length then u1 else u2) v:=by
 refine⟨λi p hp=>?_,?_,?_,bq h.2.2.2.2 (by decide)⟩
 ·show 0<p.2/\Lt2 v p.1/\Lt2 (if i<fs.length then u1 else u2) p.2;rcases aJ i fs.length with z|z
  ·rw[aK z] at hp;rw[if_pos z];exact h.1 p (ay hp)
  ·rw[aF z] at hp;rw[if_neg (Nat.not_lt.mpr z),aC.mp (ay hp)];exact h.2.1
 ·rw[ai,bW];have:=h.2.2.1;omega
 ·rw[ai,bW,D7];exact h.2.2.2.1
def kL:SpB:=.of 1 (α:=List (Int×Int)×(Int×Int)×Nat×Nat×Nat) (λ(fs,f,u1,u2,v) ds=>ds=[.tup [.tup (xB fs),fD f.1 f.2]]/\Frs2 fs f u1 u2 v)
 (λ(fs,f,u1,u2,v) d=>∃(b0:Int) (g:Nat->Int),d=tV (fs.length+1) g/\0<b0/\(∀ x,Lt2 (v+(u1*fs.length+u2+1)) (g x))/\∀ k p,(fs++[f])[k]? = some p->g k*p.2=p.1*b0)
def oa:TSd:=(gr [] (ga 3))
def og:TSd:=dSq (gk [] (gTp [3,4]) (ge gM (fZ (gg .Add (dB bList bList.mono (fZ (ga 1) gb)) (gv (fZ (ga 2) gb))) gb)))
 oa
def p6:TSd:=dSq (gk [] (gTp [1,2]) (ga 0))
 og
theorem nA:Does 5 p6 kL:=by
 rintro ds Q hn ⟨⟨fs,f,u1,u2,v⟩,⟨rfl,hF⟩,q⟩;dsimp only at hF q;have hl1:=hF.2.2.1;have e:xB fs++[fD f.1 f.2]=xB (fs++[f]):=by rw[xB,xB,aN];rfl
 refine⟨rfl,vT,by rw[aa];exact tX (by show fs.length+1<=_;omega),rfl,(fs++[f],_,v),⟨Or.inl (by show [D.lst (xB fs++[fD f.1 f.2])]=_;rw[e]),hF.frz⟩,?_⟩;rintro _ ⟨b0,rfl,h0,hl0,hd⟩;refine⟨rfl,q _ ⟨b0,λx=>((fs++[f]).map λf=>f.1*b0.fdiv f.2).getD x 0,?_,h0,λx=>?_,λk p hp=>?_⟩⟩
 ·show D.lst _=D.lst _;rw[Gw,aa,ai];rfl
 ·show Lt2 _ (((fs++[f]).map λf=>f.1*b0.fdiv f.2).getD x 0);cases hx:(fs++[f])[x]? with
  | none =>
   rw[sP (by rw[aa];exact bA.mp hx)];exact wO _
  | some p =>
   rw[sZ (f:=p.1*b0.fdiv p.2) (by rw[au,hx];rfl)];obtain⟨p1,p2⟩:=hF.pos (ay hx);obtain⟨e,q0,ql⟩:=tH p1 h0 (hd _ _ hx);have hl0':Lt2 (u1*fs.length+u2+1) b0:=by
    have h:=hl0;rw[ai,bW,D7] at h;exact h
   exact p2.mul (hl0'.le ql)
 ·show ((fs++[f]).map λf=>f.1*b0.fdiv f.2).getD k 0*p.2=_;rw[sZ (f:=p.1*b0.fdiv p.2) (by rw[au,hp];rfl)];obtain⟨p1,p2⟩:=hF.pos (ay hp);obtain⟨e,q0,ql⟩:=tH p1 h0 (hd _ _ hp);generalize b0.fdiv p.2=z at *;subst e;grind
end Dp
namespace Dt
variable{a b:Rw}{P:List Rw}{cs:List Nat}
def sI:Nat->(Nat->Int)->Int
 | 0,_=>0
 | n+1,f=>sI n f+f n
theorem D9:∀ n,sI n (λc=>f c-g c)=sI n f-sI n g
 | 0=>rfl
 | n+1=>by
  show sI n (λc=>f c-g c)+(f n-g n)=(sI n f+f n)-(sI n g+g n);rw[D9 n];omega
theorem Ea(h:∀ x,x≠c->f x=0):∀ n,sI n f=if c<n then f c else 0
 | 0=>by rw[if_neg (bV _)];rfl
 | n+1=>by
  show sI n f+f n=_;rw[Ea h n];by_cases e:n=c
  ·subst e;rw[if_neg (bc _),if_pos (bX _),cx]
  ·rw[h n e,bS];by_cases l:c<n
   ·rw[if_pos l,if_pos (ce l)]
   ·rw[if_neg l,if_neg (by omega)]
def rs:Nat->(Nat->Rat)->Rat
 | 0,_=>0
 | n+1,f=>rs n f+f n
theorem sM{f g:Nat->Rat}:∀{n},(∀ c,c<n->f c=g c)->rs n f=rs n g
 | 0,_=>rfl
 | n+1,h=>by
  show rs n f+f n=rs n g+g n;rw[sM λc l=>h c (ce l),h n (bX _)]
theorem zn{f g:Nat->Rat}:∀ n,rs n (λc=>f c+g c)=rs n f+rs n g
 | 0=>by show (0:Rat)=0+0;grind
 | n+1=>by
  show rs n _+_=(rs n f+f n)+(rs n g+g n);rw[zn n];grind
theorem tY{k:Rat}{f:Nat->Rat}:∀ n,rs n (λc=>k*f c)=k*rs n f
 | 0=>by show (0:Rat)=k*0;grind
 | n+1=>by
  show rs n _+_=k*(rs n f+f n);rw[tY n];grind
theorem ud:∀ n,rs n (λ_=>0)=0
 | 0=>rfl
 | n+1=>by
  show rs n _+0=0;rw[ud n];grind
theorem Ee(h:∀ x,x≠c->f x=0):∀ n,rs n f=if c<n then f c else 0
 | 0=>by rw[if_neg (bV _)];rfl
 | n+1=>by
  show rs n f+f n=_;rw[Ee h n];by_cases e:n=c
  ·subst e;rw[if_neg (bc _),if_pos (bX _)];grind
  ·rw[h n e];by_cases l:c<n
   ·rw[if_pos l,if_pos (ce l)];grind
   ·rw[if_neg l,if_neg (by omega)];grind
theorem Ef{f:Nat->Int}:∀ n,((sI n f:Int):Rat)=rs n λc=>(f c:Rat)
 | 0=>rfl
 | n+1=>by
  show ((sI n f+f n:Int):Rat)=rs n _+(f n:Rat);rw[bU,Ef n]
theorem zl{f:Nat->Nat->Rat}:∀ n m,rs n (λi=>rs m λj=>f i j)=rs m λj=>rs n λi=>f i j
 | 0,m=>(ud m).symm
 | n+1,m=>by
  show rs n _+rs m _=_;rw[zl n m,← zn];rfl
def dl(c:Nat):Rw:=λx=>if x=c then 1 else 0
theorem CH(h:x≠c):dl c x=0:=if_neg h
def tk(P:List Rw)(cs:List Nat)(c:Nat):Rw:=λx=>ex (dl c) (λw=>dt P (x::w)) [] cs
theorem A9(h:c ∉ cs):tk P cs c x=0:=wH λy hy=>CH (by rintro rfl;exact h hy)
theorem Aj(h1:c ∉ u)(h2:c ∉ v):tk P (u++c::v) c x=(-1)^u.length*dt P (x::(u++v)):=by
 have:=zN (a:=dl c) (F:=λw=>dt P (x::w)) (c:=c) (pre:=[]) (u:=u) (v:=v) (λy hy=>CH (by rintro rfl;exact h1 hy)) (λy hy=>CH (by rintro rfl;exact h2 hy));refine this.trans ?_;rw[show dl c c=1 from if_pos rfl,cT,bH]
theorem IQ(h:y ∉ cs):tk P (y::cs) y x=dt P (x::cs):=by
 have:=Aj (P:=P) (u:=[]) (v:=cs) (c:=y) (x:=x) aO h;simpa using this
theorem Il{u v:List Nat}{c:Nat}(h:(u++c::v).Nodup):c ∉ u/\c ∉ v:=by
 rw[List.nodup_append] at h;obtain⟨_,h2,h3⟩:=h;exact⟨λz=>h3 c z c av rfl,(cF.mp h2).1⟩
theorem Gq(S:Sp P cs)(nd:cs.Nodup)(hy:y ∉ cs)(hc:c∈cs)(h0:dt P cs≠0)(h1:dt (a::P) (y::cs)≠0)(x:Nat) :
  dt P cs*tk (a::P) (y::cs) c x=dt (a::P) (y::cs)*tk P cs c x-tk P cs c y*dt (a::P) (x::cs):=by
 obtain⟨u,v,e⟩:=d7 hc;have nd':=nd;rw[e] at nd';obtain⟨n1,n2⟩:=Il nd';have k:=key (a:=a) S e h0 h1 x;have t1:=Aj (P:=P) (x:=x) n1 n2;have t2:=Aj (P:=P) (x:=y) n1 n2;have n3:c ∉ y::u:=λz=>by
  rcases ao.mp z with z|z
  ·exact hy (z ▸ hc)
  ·exact n1 z
 have t3:=Aj (P:=a::P) (x:=x) n3 n2;have s:=Kn (a::P) [] x y (u++v);simp only[bH] at s;have e3:tk (a::P) (y::cs) c x=(-1)^(u.length+1)*dt (a::P) (x::y::(u++v)):=by
  rw[e];exact t3
 rw[← e] at t1 t2;rw[e3,t1,t2,s,bv];generalize (-1:Int)^u.length=z;grind
theorem Fk:∀{cs pre:List Nat},(∀ c∈cs,c<n)->ex b Φ pre cs=sI n λc=>b c*ex (dl c) Φ pre cs
 | [],pre,_=>by
  have:∀ n,sI n (λc=>b c*ex (dl c) Φ pre [])=0:=λn=>by
   induction n with
   | zero=>rfl
   | succ n ih =>
    show sI n _+b n*0=0;rw[ih];simp
  exact (this n).symm
 | k::cs,pre,h=>by
  have ih:ex b Φ (pre++[k]) cs=sI n λc=>b c*ex (dl c) Φ (pre++[k]) cs:=Fk λc hc=>h c (aw _ hc);have e:(λc=>b c*ex (dl c) Φ pre (k::cs))=λc=>b c*dl c k*Φ (pre++cs)-b c*ex (dl c) Φ (pre++[k]) cs:=by
   funext c;show b c*(dl c k*Φ (pre++cs)-ex (dl c) Φ (pre++[k]) cs)=_;grind
  rw[e,D9,← ih,Ea (c:=k) (λx hx=>by rw[CH (Ne.symm hx)];simp),if_pos (h k av),show dl k k=1 from if_pos rfl];show b k*Φ (pre++cs)-ex b Φ (pre++[k]) cs=_;simp
theorem met(hc:∀ c∈cs,c<n)(h:dt (b::P) (n::cs)=0):dt P cs*b n=sI n λc=>b c*tk P cs c n:=by
 have e:=ue (a:=b) (P:=P) (x:=n) (cs:=cs);rw[h] at e;have s:=Fk (b:=b) (Φ:=λw=>dt P (n::w)) (n:=n) (pre:=[]) hc;rw[bO,show b n*dt P cs=ex b (λw=>dt P (n::w)) [] cs by omega,s];rfl
theorem Lw{n:Nat}{d B:Int}{q:Nat->Rat}{due:Rat}{t:Nat->Int}(h:d*b n=sI n λc=>b c*t c)(hd:d≠0)(hB:B≠0)(hq:∀ c,c<n->(b c:Rat)=B*q c)(hn:(b n:Rat)=B*due):rs n (λc=>q c*((t c:Rat) / (d:Rat)))=due:=by
 have e:((d*b n:Int):Rat)=((sI n λc=>b c*t c:Int):Rat):=by rw[h]
 rw[Ef,ax,hn] at e;have hd':(d:Rat)≠0:=by exact_mod_cast hd
 have hB':(B:Rat)≠0:=by exact_mod_cast hB
 have e2:rs n (λc=>((b c*t c:Int):Rat))=(B*d)*rs n λc=>q c*((t c:Rat) / (d:Rat)):=by
  rw[← tY];refine sM λc hc=>?_;rw[ax,hq c hc];grind
 rw[e2] at e;grind
theorem Lin.co{R:List Rw}{f:Rw}(h:Lin R f):∃ κ:Nat->Rat,∀ x,(f x:Rat)=rs R.length λi=>κ i*((R.getD i λ_=>0) x:Rat):=by
 refine h (λf=>∃ κ:Nat->Rat,∀ x,(f x:Rat)=rs R.length λi=>κ i*((R.getD i λ_=>0) x:Rat)) ⟨λ_=>0,λx=>?_⟩ (λf g ⟨k,hk⟩ ⟨l,hl⟩=>⟨λi=>k i+l i,λx=>?_⟩) (λc f ⟨k,hk⟩=>⟨λi=>c*k i,λx=>?_⟩) λp hp=>?_
 ·rw[sM (g:=λ_=>0) λc _=>by grind,ud];rfl
 ·rw[bU,hk,hl,← zn];exact sM λc _=>by grind
 ·rw[ax,hk,← tY];exact sM λc _=>by grind
 ·obtain⟨j,hj⟩:=cL hp;refine⟨λi=>if i=j then 1 else 0,λx=>?_⟩;have e:rs R.length (λi=>(if i=j then (1:Rat) else 0)*((R.getD i λ_=>0) x:Rat))=(1:Rat)*(p x:Rat):=by
   rw[Ee (c:=j) (λi hi=>by rw[if_neg hi];grind),if_pos (af.mp hj).1,if_pos rfl,aj,hj];rfl
  refine Eq.trans ?_ e.symm;grind
theorem barred{R:List Rw}{f:Rw}{n:Nat}{B:Nat->Int}{q:Nat->Nat->Rat}{due:Nat->Rat}(h:Lin R f)(h0:∀ c,c<n->f c=0)(h1:f n≠0)(hB:∀ i,i<R.length->B i≠0)
  (hq:∀ i c,i<R.length->c<n->((R.getD i λ_=>0) c:Rat)=B i*q i c) (hn:∀ i,i<R.length->((R.getD i λ_=>0) n:Rat)=B i*due i) :
  ∃ y:Nat->Rat,(∀ c,c<n->rs R.length (λi=>y i*q i c)=0)/\rs R.length (λi=>y i*due i)=1:=by
 obtain⟨κ,hκ⟩:=h.co;have f1:(f n:Rat)≠0:=by exact_mod_cast h1
 refine⟨λi=>κ i*B i / (f n:Rat),λc hc=>?_,?_⟩
 ·have e:=hκ c;rw[h0 c hc] at e;have e2:rs R.length (λi=>κ i*(B i:Rat) / (f n:Rat)*q i c)=(1 / (f n:Rat))*rs R.length λi=>κ i*((R.getD i λ_=>0) c:Rat):=by
   rw[← tY];refine sM λi hi=>?_;rw[hq i c hi hc];grind
  rw[e2,← e];grind
 ·have e2:rs R.length (λi=>κ i*(B i:Rat) / (f n:Rat)*due i)=(1 / (f n:Rat))*rs R.length λi=>κ i*((R.getD i λ_=>0) n:Rat):=by
   rw[← tY];refine sM λi hi=>?_;rw[hn i hi];grind
  rw[e2,← hκ n];grind
theorem zm:∀{n},k<=n->(∀ c,k<=c->c<n->f c=0)->rs n f=rs k f
 | 0,h,_=>by rw[show k=0 by omega]
 | n+1,h,hz=>by
  rcases bB h with z|z
  ·rw[z]
  ·show rs n f+f n=rs k f;rw[zm (bQ z) λc h1 h2=>hz c h1 (ce h2),hz n (bQ z) (bX _)];grind
theorem Lin.col{R:List Rw}{f:Rw}{c:Nat}{κ:Nat->Rat}(h:Lin R f)(hR:∀ p∈R,(p c:Rat)=rs c λk=>κ k*(p k:Rat)):(f c:Rat)=rs c λk=>κ k*(f k:Rat):=by
 refine h (λf=>(f c:Rat)=rs c λk=>κ k*(f k:Rat)) ?_ (λf g hf hg=>?_) (λm f hf=>?_) hR
 ·rw[sM (g:=λ_=>0) λk _=>by grind,ud];rfl
 ·rw[bU,hf,hg,← zn];exact sM λk _=>by rw[bU];grind
 ·rw[ax,hf,← tY];exact sM λk _=>by rw[ax];grind
abbrev Rb:=Rw×Nat
def wt(P:List Rb):Nat:=(P.map λp=>p.2+4).sum
theorem Fx:∀{P:List Rb} {cs:List Nat},(∀ p∈P,∀ x,(p.1 x).natAbs<2^p.2)->cs.length=P.length->P.length<=16->(dt (P.map (·.1)) cs).natAbs<=2^wt P
 | [],[],_,_,_=>by show (1:Int).natAbs<=2^0;decide
 | [],_::_,_,h,_=>by simp at h
 | a::P,cs,hP,hl,h16=>by
  rw[aE] at hl h16;have ih:∀ w:List Nat,w.length+1=([]:List Nat).length+cs.length->(dt (P.map (·.1)) w).natAbs<=2^wt P:=λw hw=>by
   rw[List.length_nil,hl] at hw;exact Fx (λp hp=>hP p (aw _ hp)) (by omega) (by omega)
  have:=Iy (a:=a.1) (F:=dt (P.map (·.1))) (cs:=cs) (pre:=[]) (λx=>dL (hP a av x)) ih;show (ex a.1 (dt (P.map (·.1))) [] cs).natAbs<=2^((a.2+4)+wt P);refine bq this ?_;rw[hl,eH,eH];refine bq (aI (2^a.2*2^wt P) (show P.length+1<=2^4 from h16)) (Nat.le_of_eq ?_);rw[← Nat.mul_assoc,cE (2^4)]
structure Go (R:List Rb)(col:Nat)(P A:List Rb)(cs:List Nat):Prop where
 perm:(P++A).Perm R
 len:cs.length=P.length
 lc:cs.length<=col
 nd:cs.Nodup
 lt:∀ c∈cs,c<col
 sp:Sp (P.map (·.1)) cs
 ne:dt (P.map (·.1)) cs≠0
 zero:∀ b∈A,∀ c,c<col->dt (b.1::P.map (·.1)) (c::cs)=0
 piv:∀ c∈cs,∃ f,Lin (R.map (·.1)) f/\(∀ k,k<c->f k=0)/\f c≠0
variable{R A Q:List Rb}{col:Nat}
theorem Go.start:Go R 0 [] R []:=⟨.refl _,rfl,aq _,List.nodup_nil,λ_ h=>absurd h aO,Sp.nil,by decide,λ_ _ c h=>absurd h (bV _),λ_ h=>absurd h aO⟩
theorem Go.skip(G:Go R col Q A cs)(h:∀ b∈A,dt (b.1::Q.map (·.1)) (col::cs)=0):Go R (col+1) Q A cs :=
 ⟨G.perm,G.len,Nat.le_succ_of_le G.lc,G.nd,λc hc=>ce (G.lt c hc),G.sp,G.ne,λb hb c hc=>by
  rcases bB (bQ hc) with z|z
  ·rw[z];exact h b hb
  ·exact G.zero b hb c z,G.piv⟩
theorem CG{a:Rb}:∀{A:List Rb} {k:Nat},A[k]? = some a->(a::A.eraseIdx k).Perm A
 | [],_,h=>by simp at h
 | b::A,0,h=>by
  cases h;exact .refl _
 | b::A,k+1,h=>by
  rw[cA] at h;exact (List.Perm.swap b a _).trans ((CG h).cons b)
theorem Go.take{a:Rb}(G:Go R col Q A cs)(hk:A[k]? = some a)(h:dt (a.1::Q.map (·.1)) (col::cs)≠0):Go R (col+1) (a::Q) (A.eraseIdx k) (col::cs):=by
 obtain⟨hl,e⟩:=af.mp hk;have hy:col ∉ cs:=λz=>bc _ (G.lt col z);refine⟨?_,by rw[aE,aE,G.len],by rw[aE];exact Nat.succ_le_succ G.lc,cF.mpr ⟨hy,G.nd⟩,λc hc=>?_,G.sp.step G.ne h,h,λb hb c hc=>?_,λc hc=>?_⟩
 ·have p1:(a::A.eraseIdx k).Perm A:=CG hk;refine List.Perm.trans ?_ G.perm;rw[List.cons_append];exact (List.perm_middle.symm).trans (p1.append_left Q)
 ·rcases ao.mp hc with z|z
  ·rw[z];exact bX _
  ·exact ce (G.lt c z)
 ·show dt (b.1::a.1::Q.map (·.1)) (c::col::cs)=0;have hb':b∈A:=eS hb;rcases bB (bQ hc) with z|z
  ·rw[z];exact Gy (w:=[]) (Kn _) av
  ·have s:=Dt.step (a:=a.1) (b:=b.1) G.sp G.ne h c;rw[G.zero b hb' c z,G.zero a (ay hk) c z] at s;rw[bC,bC,Int.sub_zero] at s;rcases bD.mp s with s|s
   ·exact absurd s G.ne
   ·exact s
 ·rcases ao.mp hc with z|z
  ·subst z;refine⟨_,(MC (a.1::Q.map (·.1)) cs).mono λp hp=>?_,λk hk'=>G.zero a (ay hk) k hk',h⟩;rcases ao.mp hp with w|w
   ·rw[w];exact bK (f:=λx:Rb=>x.1) (G.perm.subset (aG _ (ay hk)))
   ·obtain⟨g,hg,rfl⟩:=bg.mp w;exact bK (f:=λx:Rb=>x.1) (G.perm.subset (bu _ hg))
  ·exact G.piv c z
theorem Go.wt(G:Go R col Q A cs):wt Q+wt A=wt R:=by
 have:=(G.perm.map λp:Rb=>p.2+4).sum_nat;rw[aN,eJ] at this;exact this
end Dt
namespace Dp
open PySem L2 Dt
theorem ur{α:Type}{xs:List α}{l:List D}{F G:α->D}{s0:SS}{g:TGd}{e:TEd}{Q:D->Prop}(el:l=xs.map F)(hl:xs.length<=16777216)(h:∀ x∈xs,g.run (F x) s0 λs1=>e.run s1 λy=>y=G x)(q:Q (.lst (xs.map G))):compD l s0 g gP e Q:=by
 subst el;refine⟨by rw[aa];exact tX hl,λi ys=>ys=(xs.take i).map G,rfl,?_,?_⟩
 ·rintro i d ys hd _ rfl;rw[au] at hd;obtain⟨x,hx,rfl⟩:=ac.mp hd;refine g.mono (λs1 w=>?_) (h x (ay hx));refine e.mono (λy w=>?_) w;show (xs.take i).map G++[y]=_;rw[w,eA,hx,aN];rfl
 ·rintro ys _ rfl;rw[aa,bE];exact q
theorem zO{t u:TSd}{E:EndsD}{ss:SS}:(dSq t u).run E ss=t.run (E.to (u.run E)) ss:=rfl
theorem KK{E:EndsD}{ss:SS}:(E.to f).nx ss=f ss:=rfl
theorem Eb{α:Type}{xs:List α}{l:List D}{F G:α->D}{fz hide:List Nat}{i j:Nat}{g:TGd}{te:TEd}{E:EndsD}{ss:SS}(hj:(frz fz ss)[j]? = some (.val (.lst l)))(el:l=xs.map F)(hl:xs.length<=16777216)(h:∀ x∈xs,g.run (F x) (t8 hide (frz fz ss)) λs1=>te.run s1 λy=>y=G x)(q:E.nx ((frz fz ss).set i (.own (xs.map G)))) :
  (jj fz i (gB (gD (ga j)) hide g gP te)).run E ss:=by
 show (match (frz fz ss)[j]? with|some (SD.val d)=>itemsD d λds=>compD ds (t8 hide (frz fz ss)) g gP te λd=>(match d with | .lst l=>E.nx ((frz fz ss).set i (.own l))|_=>False)|_=>False);rw[hj];exact ur (Q:=λd=>(match d with | .lst l=>E.nx ((frz fz ss).set i (.own l))|_=>False)) el hl h q
theorem Ed{α:Type}{xs:List α}{l:List D}{F G:α->D}{hide:List Nat}{i j k:Nat}{g:TGd}{te:TEd}{E:EndsD}{ss:SS}{v:D}(hj:ss[j]? = some (.val (.lst l)))(hk:ss[k]? = some (.val v))(el:l=xs.map F)(hl:xs.length<=1000)(h:∀ x∈xs,g.run (F x) (t8 hide ss) λs1=>te.run s1 λy=>y=G x)(q:E.nx (ss.set i (.val (.lst (xs.map G++[v]))))) :
  (gk [] (gNm i) (gg .Add (gB (gD (ga j)) hide g gP te) (gv (fZ (ga k) gb)))).run E ss:=by
 show (match ss[j]? with|some (SD.val d)=>itemsD d λds=>compD ds (t8 hide ss) g gP te λx=>(match ss[k]? with|some (SD.val d)=>1<=sizeLine/\oAdd x (.lst [d]) λd=>E.nx (ss.set i (.val d))|_=>False)|_=>False);rw[hj];refine ur (Q:=λx=>(match ss[k]? with|some (SD.val d)=>1<=sizeLine/\oAdd x (.lst [d]) λd=>E.nx (ss.set i (.val d))|_=>False)) el (by omega) h ?_;rw[hk];refine⟨vT,?_,q⟩;rw[aa];exact tX (by show xs.length+1<=_;omega)
theorem wQ{n i:Nat}{d:D}(h:(uO 0 n)[i]? = some d):i<n/\d = .int (i:Int):=by
 obtain⟨h1,h2⟩:=ug h;exact⟨h1,by rw[h2,cx]⟩
theorem BC{α β:Type}{f:α->β}:∀{l:List α} {k:Nat},(l.map f).eraseIdx k=(l.eraseIdx k).map f
 | [],_=>rfl
 | _::_,0=>rfl
 | x::l,k+1=>by
  show f x::(l.map f).eraseIdx k=f x::(l.eraseIdx k).map f;rw[BC]
abbrev Ro:=List (Int×Int)×(Int×Int)×Nat×Nat×Nat
def uw(r:Ro):D:=.tup [.tup (xB r.1),fD r.2.1.1 r.2.1.2]
def qf(p:Int×Int):Rat:=(p.1:Rat) / (p.2:Rat)
def qr(r:Ro)(c:Nat):Rat:=qf (r.1.getD c (0,1))
def wb(n:Nat)(r:Ro):Nat:=r.2.2.2.2+(r.2.2.1*n+r.2.2.2.1+1)
def r0:Ro:=([],(0,1),0,0,0)
structure NuOk (rs:List Ro)(n E W:Nat):Prop where
 ne:rs≠[]
 len:rs.length<=15
 n15:n<=15
 row:∀ r∈rs,r.1.length=n/\Frs2 r.1 r.2.1 r.2.2.1 r.2.2.2.1 r.2.2.2.2/\wb n r+4<=E
 w:n*E<=W\/(rs.map λr=>wb n r+4).sum<=W
 we:W+E<=9000000
 w9:W<=8000000
def Kv(rs:List Ro)(n:Nat)(T:Nat->Int):Prop:=∀ c,c<n->(∃ κ:Nat->Rat,∀ r∈rs,qr r c=Dt.rs c λk=>κ k*qr r k)->T c=0
def BU(rs:List Ro)(n W:Nat)(d:D):Prop :=
 (d = .non/\∃ y:Nat->Rat,(∀ c,c<n->Dt.rs rs.length (λi=>y i*qr (rs.getD i r0) c)=0)/\Dt.rs rs.length (λi=>y i*qf (rs.getD i r0).2.1)=1) \/
 ∃(T:Nat->Int) (D0:Int),D0≠0/\Lt2 (W+1) D0/\(∀ c,Lt2 (W+1) (T c))/\d = .tup ((List.range n).map λc=>fD (Fr.top (T c) D0) (Fr.bot (T c) D0))/\(∀ r∈rs,Dt.rs n (λc=>qr r c*((T c:Rat) / (D0:Rat)))=qf r.2.1)/\Kv rs n T
def kg:SpB:=.of 1 (α:=List Ro×Nat×Nat×Nat) (λ(rs,n,E,W) ds=>(ds=[.lst (rs.map uw)]\/ds=[.tup (rs.map uw)])/\NuOk rs n E W) (λ(rs,n,E,W) d=>BU rs n W d)
def p7:TSd:=(gr [10] (dB bTuple bTuple.mono (fZ (ga 10) gb)))
def mD:TSd:=dSq (ia [5] (oP (ga 5) (ga 4)) (gTp [7,2])
 (kA [] 10 (ga 7) (ge jJ (fZ (dIx (ga 2) (ga 3)) (fZ (ga 6) gb)))))
 p7
def p8:TSd:=dSq (jj [] 10 (gg .Mult (gv (fZ (gm (fZ (dC (.int 0)) (fZ (dC (.int 1)) gb))) gb)) (ga 3)))
 mD
def jL:TSd:=dSq (dIf [1] (jF (dB bAny bAny.mono (fZ (gB (gD (ga 1)) [2] (gNm 2) gP (gy .NotEq (dIx (ga 2) (ga 3)) (dC (.int 0)))) gb)))
 (gr [] (dC .non))
 gz)
 p8
def p9:TSd:=dSq (ia [] (jB (ga 3)) (gNm 7)
 (dSq (oA [1] 8 (ge iT (fZ (ga 1) (fZ (ga 7) gb))))
 (dSq (dIf [] (gu (gy .Is (ga 8) (dC .non)))
 rb
 gz)
 (dSq (oB 9 1 (ga 8))
 (dSq (jj [1] 1 (gB (gD (ga 1)) [2] (gNm 2) gP (ge hJ (fZ (ga 2) (fZ (ga 9) (fZ (ga 7) (fZ (ga 6) gb)))))))
 (dSq (gk [] (gNm 4) (gg .Add (gB (gD (ga 4)) [2] (gNm 2) gP (ge hJ (fZ (ga 2) (fZ (ga 9) (fZ (ga 7) (fZ (ga 6) gb)))))) (gv (fZ (ga 9) gb))))
 (dSq (pN [] 5 (ga 7))
 (gk [] (gNm 6) (dIx (ga 9) (ga 7))))))))))
 jL
def mE:TSd:=dSq (pQ [] 4 5 6 (gv gb) (dC (.int 1)))
 p9
def qd:TSd:=dSq (gk [] (gNm 3) (gg .Sub (dB bLen bLen.mono (fZ (mH 1 (dC (.int 0))) gb)) (dC (.int 1))))
 mE
def oD:TSd:=dSq (jj [] 1 (gB (gD (ga 0)) [2] (gNm 2) gP (ge kL (fZ (ga 2) gb))))
 qd
def Mh(n:Nat)(r:Ro)(g:Rb):Prop:=g.2=wb n r/\(∀ x,Lt2 g.2 (g.1 x))/\∃ B:Int,0<B/\∀ k p,(r.1++[r.2.1])[k]? = some p->g.1 k*p.2=p.1*B
abbrev sU(P:List Rb):List Rw:=P.map (·.1)
def lr(P:List Rb)(cs:List Nat)(b:Rb):Rw:=λx=>dt (b.1::sU P) (x::cs)
section
variable{rs:List Ro}{R P A:List Rb}{n E W col:Nat}{cs:List Nat}
theorem KG(h:∀ p∈P,p.2+4<=E):wt P<=P.length*E:=by
 induction P with
 | nil=>exact aL _
 | cons a P ih =>
  have h1:=ih λp hp=>h p (aw _ hp);have h2:=h a av;show (a.2+4)+wt P<=(P.length+1)*E;rw[aS];omega
structure Sz (R:List Rb)(n E W:Nat):Prop where
 bit:∀ p∈R,∀ x,(p.1 x).natAbs<2^p.2
 e:∀ p∈R,p.2+4<=E
 w:n*E<=W\/wt R<=W
 n15:n<=15
theorem Sz.wt(Z:Sz R n E W)(G:Go R col P A cs)(hc:col<=n):wt P<=W:=by
 rcases Z.w with w|w
 ·have h1:=KG (P:=P) λp hp=>Z.e p (G.perm.subset (bu _ hp));have h2:P.length*E<=n*E:=aI _ (by have:=G.len;have:=G.lc;omega);omega
 ·have:=G.wt;omega
theorem Sz.dt(Z:Sz R n E W)(G:Go R col P A cs)(hc:col<=n){ws:List Nat}(hw:ws.length=P.length):Lt2 (W+1) (dt (sU P) ws):=by
 have h:=Fx (P:=P) (cs:=ws) (λp hp=>Z.bit p (G.perm.subset (bu _ hp))) hw (by have:=G.len;have:=G.lc;have:=Z.n15;omega);refine cP h ?_;exact fo (by decide) (by have:=Z.wt G hc;omega)
theorem Sz.lr(Z:Sz R n E W)(G:Go R col P A cs)(hc:col<=n)(hb:b∈A)(x:Nat):Lt2 (W+E+1) (lr P cs b x):=by
 have h:=Fx (P:=b::P) (cs:=x::cs) (λp hp=>Z.bit p (G.perm.subset (by
  rcases ao.mp hp with z|z
  ·exact aG _ (z ▸ hb)
  ·exact bu _ z))) (by rw[aE,aE,G.len]) (by have:=G.len;have:=G.lc;have:=Z.n15;rw[aE];omega)
 refine cP h ?_;refine fo (by decide) ?_;have h1:=Z.wt G hc;have h2:=Z.e b (G.perm.subset (aG _ hb));show (b.2+4)+Dt.wt P<W+E+1;omega
theorem Sz.tk(Z:Sz R n E W)(G:Go R col P A cs)(hc:col<=n)(c x:Nat):Lt2 (W+1) (tk (sU P) cs c x):=by
 by_cases h:c∈cs
 ·obtain⟨u,v,e⟩:=d7 h;have nd:=G.nd;rw[e] at nd;obtain⟨n1,n2⟩:=Il nd;rw[e,Aj n1 n2];have hl:(x::(u++v)).length=P.length:=by
   have:=G.len;rw[e,ai,aE] at this;rw[aE,ai];omega
  have:=Z.dt G hc hl;unfold Lt2 at this ⊢;rw[bw,Int.natAbs_pow];show (1:Nat)^_*_<_;rw[Nat.one_pow,Nat.one_mul];exact this
 ·rw[A9 h];exact wO _
theorem Hk(G:Go R col P A cs)(h:lr P cs a col≠0)(x:Nat):(lr P cs a col*lr P cs b x-lr P cs b col*lr P cs a x).fdiv (dt (sU P) cs)=lr (a::P) (col::cs) b x:=by
 have s:=Dt.step (a:=a.1) (b:=b.1) G.sp G.ne h x;show (dt (a.1::sU P) (col::cs)*dt (b.1::sU P) (x::cs)-dt (b.1::sU P) (col::cs)*dt (a.1::sU P) (x::cs)).fdiv (dt (sU P) cs)=dt (b.1::a.1::sU P) (x::col::cs);rw[← s,bZ _ G.ne]
theorem DR(G:Go R col P A cs)(h:lr P cs a col≠0)(hc:c∈cs)(x:Nat):(lr P cs a col*tk (sU P) cs c x-tk (sU P) cs c col*lr P cs a x).fdiv (dt (sU P) cs)=tk (sU (a::P)) (col::cs) c x:=by
 have s:=Gq (a:=a.1) G.sp G.nd (λz=>bc _ (G.lt col z)) hc G.ne h x;show (dt (a.1::sU P) (col::cs)*tk (sU P) cs c x-tk (sU P) cs c col*dt (a.1::sU P) (x::cs)).fdiv (dt (sU P) cs)=tk (a.1::sU P) (col::cs) c x;rw[← s,bZ _ G.ne]
end
def vx(n:Nat)(P A:List Rb)(cs:List Nat):List D:=(A.map (lr P cs)).map (tV (n+1))
def xP(n:Nat)(P:List Rb)(cs:List Nat):List D:=cs.reverse.map λc=>tV (n+1) (tk (sU P) cs c)
def xm(cs:List Nat):List D:=cs.reverse.map λc:Nat=>.int (c:Int)
def Nq(x:D)(n:Nat)(P A:List Rb)(cs:List Nat)(o2 o7 o8 o9:SD):SS:=[.val x,.own (vx n P A cs),o2,.val (.int n),.val (.lst (xP n P cs)),.own (xm cs),.val (.int (dt (sU P) cs)),o7,o8,o9,.no]
def Kz(x:D)(R:List Rb)(n:Nat)(i:Nat)(s:SS):Prop:=∃ P A cs o2 o7 o8 o9,s=Nq x n P A cs o2 o7 o8 o9/\Go R i P A cs
def rg:TSd:=(dSq (oA [1] 8 (ge iT (fZ (ga 1) (fZ (ga 7) gb))))
 (dSq (dIf [] (gu (gy .Is (ga 8) (dC .non)))
 rb
 gz)
 (dSq (oB 9 1 (ga 8))
 (dSq (jj [1] 1 (gB (gD (ga 1)) [2] (gNm 2) gP (ge hJ (fZ (ga 2) (fZ (ga 9) (fZ (ga 7) (fZ (ga 6) gb)))))))
 (dSq (gk [] (gNm 4) (gg .Add (gB (gD (ga 4)) [2] (gNm 2) gP (ge hJ (fZ (ga 2) (fZ (ga 9) (fZ (ga 7) (fZ (ga 6) gb)))))) (gv (fZ (ga 9) gb))))
 (dSq (pN [] 5 (ga 7))
 (gk [] (gNm 6) (dIx (ga 9) (ga 7)))))))))
theorem DS(G:Go R col P A cs):(cs.reverse.map λc=>tV (n+1) (tk (sU (a::P)) (col::cs) c))++[tV (n+1) (lr P cs a)]=xP n (a::P) (col::cs):=by
 unfold xP;rw[cJ,aN];have e:lr P cs a=tk (sU (a::P)) (col::cs) col:=by
  funext x;exact (IQ (P:=sU (a::P)) λz=>bc _ (G.lt col z)).symm
 rw[e];rfl
def rO:TSd:=(dSq (jj [1] 1 (gB (gD (ga 1)) [2] (gNm 2) gP (ge hJ (fZ (ga 2) (fZ (ga 9) (fZ (ga 7) (fZ (ga 6) gb)))))))
 (dSq (gk [] (gNm 4) (gg .Add (gB (gD (ga 4)) [2] (gNm 2) gP (ge hJ (fZ (ga 2) (fZ (ga 9) (fZ (ga 7) (fZ (ga 6) gb)))))) (gv (fZ (ga 9) gb))))
 (dSq (pN [] 5 (ga 7))
 (gk [] (gNm 6) (dIx (ga 9) (ga 7))))))
theorem Ha{x:D}{R P A:List Rb}{cs:List Nat}{n E W col k:Nat}{a:Rb}{o2:SD}{rt:D->Prop}{bk:SS->Prop}(Z:Sz R n E W)(hW:W+E<=9000000)(hW9:W<=8000000)(hR:R.length<=15)(hc:col<n)(G:Go R col P A cs)(ha:A[k]? = some a)(hf:lr P cs a col≠0) :
  rO.run ⟨Kz x R n (col+1),rt,bk,Kz x R n (col+1)⟩ [.val x,.own ((vx n P A cs).eraseIdx k),o2,.val (.int n),.val (.lst (xP n P cs)),.own (xm cs),.val (.int (dt (sU P) cs)),.val (.int col),.val (.int k),.val (tV (n+1) (lr P cs a)),.no]:=by
 have n15:=Z.n15;have hN:n+1<=100:=by omega
 have hA:A.length<=15:=by
  have:=G.perm.length_eq;rw[ai] at this;omega
 have hcs:cs.length<=15:=by have:=G.lc;omega
 have ha':=ay ha;have e:(vx n P A cs).eraseIdx k=(A.eraseIdx k).map λb=>tV (n+1) (lr P cs b):=by
  unfold vx;rw[BC,BC,bI];rfl
 have sub:∀ b∈A.eraseIdx k,b∈A:=λb hb=>eS hb;have d9:Lt2 9000000 (dt (sU P) cs):=(Z.dt G (by omega) G.len).mono (by omega);unfold rO;rw[zO];refine Eb (xs:=A.eraseIdx k) (l:=(vx n P A cs).eraseIdx k) (F:=λb=>tV (n+1) (lr P cs b)) (G:=λb=>tV (n+1) (lr (a::P) (col::cs) b)) (by rfl) e (by have:=List.length_eraseIdx_le A k;omega) (λb hb=>?_) ?_
 ·refine⟨rfl,(n+1,lr P cs b,lr P cs a,col,dt (sU P) cs,W+E+1),⟨rfl,by show col<n+1;omega,hN,G.ne,d9,by show W+E+1<=10000000;omega,λx=>Z.lr G (by omega) (sub b hb) x,λx=>Z.lr G (by omega) ha' x⟩,?_⟩;rintro _ rfl;exact congrArg (tV (n+1)) (funext λx=>Hk G hf x)
 rw[KK,zO];refine Ed (xs:=cs.reverse) (l:=xP n P cs) (F:=λc=>tV (n+1) (tk (sU P) cs c)) (G:=λc=>tV (n+1) (tk (sU (a::P)) (col::cs) c)) (v:=tV (n+1) (lr P cs a)) (by rfl) (by rfl) rfl (by rw[bM];omega) (λc hc'=>?_) ?_
 ·refine⟨rfl,(n+1,tk (sU P) cs c,lr P cs a,col,dt (sU P) cs,W+E+1),⟨rfl,by show col<n+1;omega,hN,G.ne,d9,by show W+E+1<=10000000;omega,λx=>(Z.tk G (by omega) c x).mono (by omega),λx=>Z.lr G (by omega) ha' x⟩,?_⟩;rintro _ rfl;exact congrArg (tV (n+1)) (funext λx=>DR G hf (eE.mp hc') x)
 refine⟨?_,?_⟩
 ·show (xm cs).length<sizeLine;unfold xm;rw[aa,bM];have:=tX (n:=16) (by decide);omega
 refine tv (uB (show col<n+1 by omega)) ?_;refine⟨a::P,A.eraseIdx k,col::cs,o2,.val (.int col),.val (.int k),.val (tV (n+1) (lr P cs a)),?_,G.take ha hf⟩;unfold Nq;have e3:xm cs++[.int (col:Int)]=xm (col::cs):=by
  unfold xm;rw[cJ,aN];rfl
 have e4:vx n (a::P) (A.eraseIdx k) (col::cs)=(A.eraseIdx k).map λb=>tV (n+1) (lr (a::P) (col::cs) b):=by
  unfold vx;rw[bI];rfl
 rw[← e3,e4,← DS G (a:=a)];rfl
theorem Hc{x:D}{R:List Rb}{n E W col:Nat}{s:SS}{rt:D->Prop}{bk:SS->Prop}(Z:Sz R n E W)(hW:W+E<=9000000)(hW9:W<=8000000)(hR:R.length<=15)(hc:col<n)(h:Kz x R n col s):rg.run ⟨Kz x R n (col+1),rt,bk,Kz x R n (col+1)⟩ (s.set 7 (.val (.int col))):=by
 obtain⟨P,A,cs,o2,o7,o8,o9,rfl,G⟩:=h;have hA:A.length<=15:=by
  have:=G.perm.length_eq;rw[ai] at this;omega
 refine⟨rfl,(A.map (lr P cs),n+1,col),⟨rfl,by show col<n+1;omega⟩,?_⟩;rintro d (⟨rfl,hz⟩|⟨k,f,rfl,hk,hf⟩)
 ·refine⟨rfl,?_⟩;refine⟨P,A,cs,_,_,_,_,rfl,G.skip λb hb=>?_⟩;exact hz _ (bK hb)
 ·rw[au] at hk;obtain⟨a,ha,rfl⟩:=ac.mp hk;refine⟨rfl,?_⟩;have hlen:(vx n P A cs).length=A.length:=by unfold vx;rw[aa,aa]
  refine⟨by rw[hlen];exact tX (by omega),by omega,tV (n+1) (lr P cs a),?_,Ha Z hW hW9 hR hc G ha hf⟩;show (vx n P A cs)[((k:Nat):Int).toNat]? = _;unfold vx;rw[aB,au,au,ha];rfl
theorem Ec{α:Type}{xs:List α}{l:List D}{F:α->D}{G:α->Bool}{fz hide:List Nat}{j:Nat}{g:TGd}{te:TEd}{t u:TSd}{E:EndsD}{ss:SS}(hj:(frz fz ss)[j]? = some (.val (.lst l)))(el:l=xs.map F)(hl:xs.length<=16777216)(h:∀ x∈xs,g.run (F x) (t8 hide (frz fz ss)) λs1=>te.run s1 λy=>y = .bl (G x))(q:if xs.any G=true then t.run E (frz fz ss) else u.run E (frz fz ss)) :
  (dIf fz (jF (dB bAny bAny.mono (fZ (gB (gD (ga j)) hide g gP te) gb))) t u).run E ss:=by
 show (match (frz fz ss)[j]? with|some (SD.val d)=>itemsD d λds=>compD ds (t8 hide (frz fz ss)) g gP te λd=>bAny [d] λd=>truD d λb=>if b=true then t.run E (frz fz ss) else u.run E (frz fz ss)|_=>False);rw[hj];refine ur (G:=λx=>.bl (G x)) (Q:=λd=>bAny [d] λd=>truD d λb=>if b=true then t.run E (frz fz ss) else u.run E (frz fz ss)) el hl h ⟨xs.map G,by rw[bI];rfl,?_⟩;show if ((xs.map G).any id)=true then _ else _;rw[List.any_map];exact q
def uh(n:Nat)(f:Nat->D):List D:=(List.range n).map f
theorem C3{n c:Nat}{f:Nat->D}{v:D}(h:c<n):(uh n f).set c v=uh n λx=>if x=c then v else f x:=by
 apply cU;intro i;unfold uh;rw[aR,aa,az];by_cases e:c=i
 ·subst e;rw[if_pos rfl,if_pos h];simp[h]
 ·rw[if_neg e];rcases aJ i n with l|l
  ·simp[l,Ne.symm e]
  ·rw[aV (by simpa using l),aV (by simpa using l)]
theorem C4{n:Nat}{v:D}:(List.replicate n [v]).flatten=uh n λ_=>v:=by
 induction n with
 | zero=>rfl
 | succ n ih =>
  rw[List.replicate_succ',List.flatten_append,ih];unfold uh;rw[dM,aN];rfl
theorem Hx{d:Int}(h:d≠0):fD (Fr.top 0 d) (Fr.bot 0 d)=fD 0 1:=by
 obtain⟨h1,h2⟩:=Fr.zc (t:=0) (b:=d) (c:=0) (d:=1) h (by decide) (by decide) (by simp);rw[h1,h2]
theorem JN{x:D}{R P A:List Rb}{cs:List Nat}{n E W:Nat}{o2 o7 o8 o9:SD}{Q:D->Prop}(Z:Sz R n E W)(hW9:W<=8000000)(hR:R.length<=15)(G:Go R n P A cs)
  (q1:∀ b∈A,lr P cs b n≠0->Q .non) (q2:(∀ b∈A,lr P cs b n=0)->Q (.tup (uh n λc=>fD (Fr.top (tk (sU P) cs c n) (dt (sU P) cs)) (Fr.bot (tk (sU P) cs c n) (dt (sU P) cs))))) :
  jL.run (s9 Q) (Nq x n P A cs o2 o7 o8 o9):=by
 have n15:=Z.n15;have hA:A.length<=15:=by
  have:=G.perm.length_eq;rw[ai] at this;omega
 have d9:Lt2 9000000 (dt (sU P) cs):=(Z.dt G (by omega) G.len).mono (by omega);unfold jL;rw[zO];refine Ec (xs:=A) (l:=vx n P A cs) (F:=λb=>tV (n+1) (lr P cs b)) (G:=λb => !decide (lr P cs b n=0)) (by rfl) (by unfold vx;rw[bI];rfl) (by omega) (λb hb=>tv (uB (bX n)) rfl) ?_;refine N6 (λh=>?_) (λh=>?_)
 ·obtain⟨b,hb,hz⟩:=dG.mp h;exact q1 b hb (by simpa using hz)
 ·have hz:∀ b∈A,lr P cs b n=0:=λb hb=>by
   have:=fK.mp h b hb;simpa using this
  refine⟨tE,vT,by omega,by omega,?_,?_⟩
  ·rw[aB];exact tX (by show 1*n<=_;omega)
  have key:∀ t,t=uh n (λ_=>fD 0 1)->mD.run (s9 Q) [.val x,.val (.lst (vx n P A cs)),o2,.val (.int n),.val (.lst (xP n P cs)),.own (xm cs),.val (.int (dt (sU P) cs)),o7,o8,o9,.own t]:=λt ht=>by
   subst ht;refine⟨λi s=>∃ o2 o7,s=[.val x,.val (.lst (vx n P A cs)),o2,.val (.int n),.val (.lst (xP n P cs)),.val (.lst (xm cs)),.val (.int (dt (sU P) cs)),o7,o8,o9,.own (uh n λc=>if c∈cs.reverse.take i then fD (Fr.top (tk (sU P) cs c n) (dt (sU P) cs)) (Fr.bot (tk (sU P) cs c n) (dt (sU P) cs)) else fD 0 1)],⟨o2,o7,rfl⟩,?_,?_⟩
   ·rintro i d _ hd ⟨o2,o7,rfl⟩;obtain⟨y,z,hy,hz,rfl⟩:=v9 hd;unfold xm at hy;unfold xP at hz;rw[au] at hy hz;obtain⟨c,hc,rfl⟩:=ac.mp hy;rw[hc] at hz;cases hz;have hcn:c<n:=G.lt c (eE.mp (ay hc));refine⟨rfl,tv (uB (bX n)) ⟨rfl,(tk (sU P) cs c n,dt (sU P) cs),⟨rfl,G.ne,d9⟩,?_⟩⟩;rintro _ rfl;have hix:zI (uh n λc=>if c∈cs.reverse.take i then fD (Fr.top (tk (sU P) cs c n) (dt (sU P) cs)) (Fr.bot (tk (sU P) cs c n) (dt (sU P) cs)) else fD 0 1).length (c:Int)=some c:=by
     unfold uh zI;rw[aa,az,if_pos (by omega),if_pos (by omega),aB]
    show (match zI _ (c:Int) with|some j=>_|none=>False);rw[hix];refine⟨.val (tV (n+1) (tk (sU P) cs c)),.val (.int c),?_⟩;have e:(uh n λc=>if c∈cs.reverse.take (i+1) then fD (Fr.top (tk (sU P) cs c n) (dt (sU P) cs)) (Fr.bot (tk (sU P) cs c n) (dt (sU P) cs)) else fD 0 1)=(uh n λc=>if c∈cs.reverse.take i then fD (Fr.top (tk (sU P) cs c n) (dt (sU P) cs)) (Fr.bot (tk (sU P) cs c n) (dt (sU P) cs)) else fD 0 1).set c (fD (Fr.top (tk (sU P) cs c n) (dt (sU P) cs)) (Fr.bot (tk (sU P) cs c n) (dt (sU P) cs))):=by
     rw[C3 hcn];refine congrArg (uh n) (funext λy=>?_);rw[eA,hc,show (some c).toList=[c] from rfl];by_cases ey:y=c
     ·subst ey;rw[if_pos rfl,if_pos (aG _ av)]
     ·rw[if_neg ey];by_cases hm:y∈cs.reverse.take i
      ·rw[if_pos hm,if_pos (bu _ hm)]
      ·rw[if_neg hm,if_neg];intro z;rcases aW.mp z with z|z
       ·exact hm z
       ·exact ey (aC.mp z)
    rw[e];rfl
   ·rintro _ ⟨o2,o7,rfl⟩;have hl:(wP (xm cs) (xP n P cs)).length=cs.reverse.length:=by
     rw[tS];unfold xm xP;rw[aa,aa,fg]
    refine q2 hz |> λw=>?_;have e:(uh n λc=>if c∈cs.reverse.take (wP (xm cs) (xP n P cs)).length then fD (Fr.top (tk (sU P) cs c n) (dt (sU P) cs)) (Fr.bot (tk (sU P) cs c n) (dt (sU P) cs)) else fD 0 1)=uh n λc=>fD (Fr.top (tk (sU P) cs c n) (dt (sU P) cs)) (Fr.bot (tk (sU P) cs c n) (dt (sU P) cs)):=by
     rw[hl,bE];refine congrArg (uh n) (funext λy=>?_);by_cases hm:y∈cs.reverse
     ·rw[if_pos hm]
     ·rw[if_neg hm,A9 λz=>hm (eE.mpr z),Hx G.ne]
    rw[← e] at w;exact w
  exact key _ (by rw[aB];exact C4)
theorem DM{n:Nat}{r:Ro}{g:Rb}{u1 u2 v:Nat}(hl:r.1.length=n)(hF:Frs2 r.1 r.2.1 u1 u2 v){B:Int}(hB:∀ k p,(r.1++[r.2.1])[k]? = some p->g.1 k*p.2=p.1*B):(∀ c,c<n->(g.1 c:Rat)=B*qr r c)/\(g.1 n:Rat)=B*qf r.2.1:=by
 have one:∀ k p,(r.1++[r.2.1])[k]? = some p->(g.1 k:Rat)=B*qf p:=λk p hp=>by
  have h:=hB k p hp;have p0:=(hF.pos (ay hp)).1;have p1:(p.2:Rat)≠0:=Qp.sO p0;have e:((g.1 k*p.2:Int):Rat)=((p.1*B:Int):Rat):=by rw[h]
  rw[ax,ax] at e;unfold qf;grind
 refine⟨λc hc=>?_,one n _ ?_⟩
 ·have hc':c<r.1.length:=by omega
  have e:(r.1++[r.2.1])[c]? = some (r.1.getD c (0,1)):=by
   rw[aK hc',aj,ah hc'];rfl
  exact one c _ e
 ·rw[← hl,aF (aq _),bY];rfl
theorem Hb{rs:List Ro}{R P A:List Rb}{cs:List Nat}{n E W:Nat}{Q:D->Prop}(O:NuOk rs n E W)(hRl:R.length=rs.length)(hR:∀(j:Nat) (g:Rb) (r:Ro),R[j]? = some g->rs[j]? = some r->Mh n r g)(Z:Sz R n E W)(G:Go R n P A cs)(q:∀ d,BU rs n W d->Q d) :
  (∀ b∈A,lr P cs b n≠0->Q .non)/\((∀ b∈A,lr P cs b n=0)->Q (.tup (uh n λc=>fD (Fr.top (tk (sU P) cs c n) (dt (sU P) cs)) (Fr.bot (tk (sU P) cs c n) (dt (sU P) cs))))):=by
 have at_:∀ i,i<R.length->∃ g r,R[i]? = some g/\rs[i]? = some r/\Mh n r g:=λi hi=>by
  have h1:=ah hi;have h2:=ah (l:=rs) (i:=i) (by omega);exact⟨_,_,h1,h2,hR i _ _ h1 h2⟩
 constructor
 ·intro b hb hne;have hB:∀ i:Nat,∃ B:Int,i<R.length->B≠0/\(∀ c,c<n->((sU R).getD i (λ_=>0) c:Rat)=B*qr (rs.getD i r0) c)/\((sU R).getD i (λ_=>0) n:Rat)=B*qf (rs.getD i r0).2.1:=λi=>by
   by_cases hi:i<R.length
   ·obtain⟨g,r,h1,h2,_,_,B,hB0,hB⟩:=at_ i hi;obtain⟨w1,w2,w3⟩:=O.row r (ay h2);obtain⟨z1,z2⟩:=DM (g:=g) w1 w2 hB;have e1:(sU R).getD i (λ_=>0)=g.1:=sZ (by rw[au,h1];rfl);have e2:rs.getD i r0=r:=sZ h2;rw[e1,e2];exact⟨B,λ_=>⟨by omega,z1,z2⟩⟩
   ·exact⟨1,λh=>absurd h hi⟩
  obtain⟨B,hB⟩:=Classical.axiomOfChoice hB;have L:Lin (sU R) (lr P cs b):=(MC (b.1::sU P) cs).mono λp hp=>by
   rcases ao.mp hp with z|z
   ·rw[z];exact bK (f:=λx:Rb=>x.1) (G.perm.subset (aG _ hb))
   ·obtain⟨g,hg,rfl⟩:=bg.mp z;exact bK (f:=λx:Rb=>x.1) (G.perm.subset (bu _ hg))
  have len:(sU R).length=rs.length:=by rw[aa,hRl]
  have:=barred (q:=λi c=>qr (rs.getD i r0) c) (due:=λi=>qf (rs.getD i r0).2.1) L (λc hc=>G.zero b hb c hc) hne (B:=B) (λi hi=>(hB i (by rw[len] at hi;omega)).1) (λi c hi hc=>(hB i (by rw[len] at hi;omega)).2.1 c hc) (λi hi=>(hB i (by rw[len] at hi;omega)).2.2);rw[len] at this;exact q _ (.inl ⟨rfl,this⟩)
 ·intro hz;refine q _ (.inr ⟨λc=>tk (sU P) cs c n,dt (sU P) cs,G.ne,Z.dt G (aq _) G.len,λc=>Z.tk G (aq _) c n,rfl,λr hr=>?_,λc hc ⟨κ,hκ⟩=>?_⟩)
  rotate_left
  ·by_cases hm:c∈cs
   rotate_left
   ·exact A9 hm
   exfalso;obtain⟨f,L,f0,f1⟩:=G.piv c hm;have hp:∀ p∈sU R,(p c:Rat)=Dt.rs c λk=>κ k*(p k:Rat):=λp hp=>by
    obtain⟨g,hg,rfl⟩:=bg.mp hp;obtain⟨i,hi⟩:=cL hg;obtain⟨g',r,h1,h2,_,_,B,hB0,hB⟩:=at_ i (af.mp hi).1;rw[hi] at h1;cases h1;have hr:=ay h2;obtain⟨w1,w2,w3⟩:=O.row r hr;obtain⟨z1,z2⟩:=DM (g:=g) w1 w2 hB;rw[z1 c hc,hκ r hr,← tY];exact sM λk hk=>by rw[z1 k (by omega)];grind
   have e:=L.col hp;rw[sM (g:=λ_=>0) (λk hk=>by rw[f0 k hk];grind),ud] at e;exact f1 (by exact_mod_cast e)
  obtain⟨i,hi⟩:=cL hr;obtain⟨g,r',h1,h2,_,_,B,hB0,hB⟩:=at_ i (by rw[hRl];exact (af.mp hi).1);rw[hi] at h2;cases h2;obtain⟨w1,w2,w3⟩:=O.row r hr;obtain⟨z1,z2⟩:=DM (g:=g) w1 w2 hB;have h0:dt (g.1::sU P) (n::cs)=0:=by
   rcases aW.mp (G.perm.mem_iff.mpr (ay h1)) with z|z
   ·exact G.sp g.1 (bK (f:=λx:Rb=>x.1) z) n
   ·exact hz g z
  exact Lw (b:=g.1) (met G.lt h0) G.ne (by omega) z1 z2
theorem Lo{rs:List Ro}{R:List Rb}{n E W:Nat}(O:NuOk rs n E W)(hRl:R.length=rs.length)(hR:∀(j:Nat) (g:Rb) (r:Ro),R[j]? = some g->rs[j]? = some r->Mh n r g):Sz R n E W:=by
 have at_:∀ g∈R,∃ r∈rs,Mh n r g:=λg hg=>by
  obtain⟨i,hi⟩:=cL hg;have h2:=ah (l:=rs) (i:=i) (by rw[← hRl];exact (af.mp hi).1);exact⟨_,ay h2,hR i _ _ hi h2⟩
 refine⟨λg hg x=>?_,λg hg=>?_,?_,O.n15⟩
 ·obtain⟨r,hr,w1,w2,_⟩:=at_ g hg;exact w2 x
 ·obtain⟨r,hr,w1,w2,_⟩:=at_ g hg;rw[w1];exact (O.row r hr).2.2
 ·have e:(R.map λp=>p.2+4)=rs.map λr=>wb n r+4:=by
   apply cU;intro i;rw[au,au];cases h:R[i]? with
   | none =>
    rw[aV (by rw[← hRl];exact bA.mp h)];rfl
   | some g =>
    have h2:=ah (l:=rs) (i:=i) (by rw[← hRl];exact (af.mp h).1);rw[h2];show some (g.2+4)=some (wb n _+4);rw[(hR i _ _ h h2).1]
  refine O.w.imp id λw=>?_;show (R.map λp=>p.2+4).sum<=W;rw[e];exact w
theorem Ij{x:D}{rs:List Ro}{n E W:Nat}{Q:D->Prop}(hx:∀ K:List D->Prop,K (rs.map uw)->itemsD x K)(O:NuOk rs n E W)(q:∀ d,BU rs n W d->Q d):oD.run (s9 Q) (startD 11 [x]):=by
 have n15:=O.n15;have l15:=O.len;refine hx _ ⟨by rw[aa];exact tX (by omega),λi ys=>∃ gs:List Rb,ys=gs.map (λg=>tV (n+1) g.1)/\gs.length=i/\∀(j:Nat) (g:Rb) (r:Ro),gs[j]? = some g->rs[j]? = some r->Mh n r g,⟨[],rfl,rfl,λj g r h=>by simp at h⟩,?_,?_⟩
 ·rintro i d _ hd _ ⟨gs,rfl,hl,hg⟩;rw[au] at hd;obtain⟨r,hr,rfl⟩:=ac.mp hd;obtain⟨w1,w2,w3⟩:=O.row r (ay hr);refine⟨rfl,(r.1,r.2.1,r.2.2.1,r.2.2.2.1,r.2.2.2.2),⟨rfl,w2⟩,?_⟩;rintro _ ⟨b0,g,rfl,hb0,hb1,hb2⟩;rw[w1] at hb1;refine⟨gs++[(g,wb n r)],by rw[aN,← w1];rfl,by rw[ai,hl];rfl,λj g' r' hg' hr'=>?_⟩;rcases aJ j gs.length with z|z
  ·rw[aK z] at hg';exact hg j g' r' hg' hr'
  ·rw[aF z] at hg';have z2:=(af.mp hg').1;have z3:j=i:=by
    rw[bW] at z2;omega
   subst z3;rw[hr] at hr';cases hr';rw[hl,bY] at hg';cases hg';exact⟨rfl,hb1,b0,hb0,hb2⟩
 ·rintro _ _ ⟨R,rfl,hl,hR⟩;rw[aa] at hl;have Z:=Lo O hl hR;have R0:R≠[]:=λz=>O.ne (cQ.mp (by rw[← hl,z];rfl));obtain⟨g,R',e⟩:∃ g R',R=g::R':=by
   cases R with
   | nil=>exact absurd rfl R0
   | cons g R'=>exact⟨g,R',rfl⟩
  have e0:(R.map λg=>tV (n+1) g.1)[0]? = some (tV (n+1) g.1):=by rw[e];rfl
  refine tv (n:=0) e0 ?_;have key:∀ z:Int,z=n->mE.run (s9 Q) [.val x,.own (R.map λg=>tV (n+1) g.1),.no,.val (.int z),.no,.no,.no,.no,.no,.no,.no]:=by
   rintro _ rfl;refine⟨Ow,rfl,?_⟩;refine⟨by omega,by omega,Kz x R n,⟨[],R,[],.no,.no,.no,.no,?_,Go.start⟩,?_,?_⟩
   ·have e1:(R.map λg=>tV (n+1) g.1)=vx n [] R []:=by
     unfold vx;rw[bI];refine db λb _=>congrArg (tV (n+1)) (funext λx=>?_);have:=ue (a:=b.1) (P:=[]) (x:=x) (cs:=[]);show b.1 x=dt [b.1] [x];rw[this];show b.1 x=b.1 x*1-0;omega
    rw[e1];rfl
   ·intro i d s hd hi;rw[aB] at hd;obtain⟨hin,rfl⟩:=wQ hd;exact Hc Z O.we O.w9 (by omega) hin hi
   ·intro s hs;rw[aB,td] at hs;obtain⟨P,A,cs,o2,o7,o8,o9,rfl,G⟩:=hs;obtain⟨p1,p2⟩:=Hb O hl hR Z G q;exact JN Z O.w9 (by omega) G p1 p2
  exact key _ (by rw[uv];omega)
theorem pr:Does 11 oD kg:=by
 rintro ds Q hn ⟨⟨rs,n,E,W⟩,⟨rfl|rfl,O⟩,q⟩
 ·exact Ij (λK k=>k) O q
 ·exact Ij (λK k=>k) O q
def yw(rs:List Ro)(u v c:Nat):Ro:=(rs.map λr=>r.1.getD c (0,1),(0,1),u,1,v)
def Ak(rs:List Ro)(u v:Nat):Ro:=(rs.map λr=>r.2.1,(1,1),u,1,v)
def wd(rs:List Ro)(n u1 v1 u2 v2:Nat):List Ro:=(List.range n).map (yw rs u1 v1)++[Ak rs u2 v2]
theorem CW:uO 0 n=(List.range n).map λi=>.int ((i:Nat):Int):=by
 unfold uO;exact db λi _=>by rw[cx]
def jw:SpB:=.of 1 (α:=List Ro×Nat×Nat×Nat×Nat×Nat) (λ(rs,n,_) ds=>(ds=[.lst (rs.map uw)]\/ds=[.tup (rs.map uw)])/\rs≠[]/\rs.length<=15/\n<=15/\∀ r∈rs,r.1.length=n)
 (λ(rs,n,u1,v1,u2,v2) d=>d = .lst ((wd rs n u1 v1 u2 v2).map uw))
def lQ:TSd:=(gr [] (gg .Add (ga 2) (gv (fZ (gm (fZ (dB bTuple bTuple.mono (fZ (gB (gD (ga 0)) [3,4] (gTp [3,4]) gP (ga 4)) gb)) (fZ (gm (fZ (dC (.int 1)) (fZ (dC (.int 1)) gb))) gb))) gb))))
def iZ:TSd:=dSq (gk [] (gNm 2) (gB (jB (ga 1)) [5] (gNm 5) gP (gm (fZ (dB bTuple bTuple.mono (fZ (gB (gD (ga 0)) [3,4] (gTp [3,4]) gP (dIx (ga 3) (ga 5))) gb)) (fZ (gm (fZ (dC (.int 0)) (fZ (dC (.int 1)) gb))) gb)))))
 lQ
def jM:TSd:=dSq (gk [] (gNm 1) (dB bLen bLen.mono (fZ (dIx (dIx (ga 0) (dC (.int 0))) (dC (.int 0))) gb)))
 iZ
theorem J4(h:c<fs.length):(xB fs)[c]? = some (fD (fs.getD c (0,1)).1 (fs.getD c (0,1)).2):=by
 rw[au,aj,ah h];rfl
theorem HP{x:D}{rs:List Ro}{Q:D->Prop}(hi:∀ r K,rs[0]? = some r->K (uw r)->oIx x (.int 0) K)(hx:∀ K:List D->Prop,K (rs.map uw)->itemsD x K)(h0:rs≠[])(hm:rs.length<=15)(hn:n<=15)(hl:∀ r∈rs,r.1.length=n)(q:Q (.lst ((wd rs n u1 v1 u2 v2).map uw))):jM.run (s9 Q) (startD 6 [x]):=by
 obtain⟨r,rs',e⟩:∃ r rs',rs=r::rs':=by
  cases rs with
  | nil=>exact absurd rfl h0
  | cons r rs'=>exact⟨r,rs',rfl⟩
 have hr:r.1.length=n:=hl r (by rw[e];exact av);refine hi r _ (by rw[e];rfl) ?_;have key:∀ z:Int,z=n->iZ.run (s9 Q) [.val x,.val (.int z),.no,.no,.no,.no]:=by
  rintro _ rfl;refine⟨by omega,by omega,?_⟩;refine ur (xs:=List.range n) (F:=λi=>.int ((i:Nat):Int)) (G:=λc=>uw (yw rs u1 v1 c)) (by rw[aB];exact CW) (by rw[az];omega) (λc hc=>?_) ?_
  ·have hc:=bf.mp hc;refine hx _ (ur (xs:=rs) (F:=uw) (G:=λr=>fD (r.1.getD c (0,1)).1 (r.1.getD c (0,1)).2) rfl (by omega) (λr hr=>⟨rfl,tv (J4 (by rw[hl r hr];exact hc)) rfl⟩) ?_);refine⟨tE,tE,?_⟩;unfold uw yw;show D.tup [.tup _,_]=D.tup [.tup _,_];rw[xB,bI];rfl
  ·refine hx _ (ur (xs:=rs) (F:=uw) (G:=λr=>fD r.2.1.1 r.2.1.2) rfl (by omega) (λr hr=>⟨rfl,rfl⟩) ?_);refine⟨tE,tE,vT,?_,?_⟩
   ·rw[aa,az];exact tX (by show n+1<=_;omega)
   have e1:((List.range n).map λc=>uw (yw rs u1 v1 c))++[D.tup [.tup (rs.map λr=>fD r.2.1.1 r.2.1.2),.tup [.int 1,.int 1]]]=(wd rs n u1 v1 u2 v2).map uw:=by
    unfold wd;rw[aN,bI];refine congrArg (_ ++ ·) ?_;unfold uw Ak;rw[List.map_singleton,xB,bI];rfl
   rw[← e1] at q;exact q
 exact key _ (by rw[aa,hr])
theorem kM:Does 6 jM jw:=by
 rintro ds Q hn ⟨⟨rs,n,u1,v1,u2,v2⟩,⟨rfl|rfl,h0,hm,hn',hl⟩,q⟩
 ·exact HP (λr K hr k=>tv (n:=0) (by rw[au,hr];rfl) k) (λK k=>k) h0 hm hn' hl (q _ rfl)
 ·exact HP (λr K hr k=>tv (n:=0) (by rw[au,hr];rfl) k) (λK k=>k) h0 hm hn' hl (q _ rfl)
def tx(n:Nat)(T:Nat->Int)(D0:Int):D:=.tup ((List.range n).map λc=>fD (Fr.top (T c) D0) (Fr.bot (T c) D0))
def Kq(rs:List Ro)(n W:Nat)(d:D):Prop:=∃(T:Nat->Int) (D0:Int),D0≠0/\Lt2 (W+1) D0/\(∀ c,Lt2 (W+1) (T c)) /\
 ((d = .tup [.str "numbers",tx n T D0]/\Kv rs n T/\∀ r∈rs,Dt.rs n (λc=>qr r c*((T c:Rat) / (D0:Rat)))=qf r.2.1) \/
   (d = .tup [.str "weights",tx rs.length T D0]/\Kv (wd rs n 0 0 0 0) rs.length T/\(∀ c,c<n->Dt.rs rs.length (λi=>qr (rs.getD i r0) c*((T i:Rat) / (D0:Rat)))=0)/\Dt.rs rs.length (λi=>qf (rs.getD i r0).2.1*((T i:Rat) / (D0:Rat)))=1))
def oE:SpB:=.of 1 (α:=List Ro×Nat×(Nat×Nat×Nat×Nat)×Nat×Nat×Nat) (λ(rs,n,(u1,v1,u2,v2),E,E',W) ds=>(ds=[.lst (rs.map uw)]\/ds=[.tup (rs.map uw)])/\NuOk rs n E W/\NuOk (wd rs n u1 v1 u2 v2) rs.length E' W)
 (λ(rs,n,(_,_,_,_),_,_,W) d=>Kq rs n W d)
def qF:TSd:=(gr [] (gm (fZ (dC (.str "weights")) (fZ (ge kg (fZ (ge jw (fZ (ga 0) gb)) gb)) gb))))
def qG:TSd:=dSq (dIf [] (gu (gy .IsNot (ga 1) (dC .non)))
 (gr [] (gm (fZ (dC (.str "numbers")) (fZ (ga 1) gb))))
 gz)
 qF
def rP:TSd:=dSq (gk [] (gNm 1) (ge kg (fZ (ga 0) gb)))
 qG
theorem xC{rs:List Ro}{n u1 v1 u2 v2:Nat}:(wd rs n u1 v1 u2 v2).length=n+1:=by
 unfold wd;rw[ai,aa,az];rfl
theorem DQ{rs:List Ro}{n u1 v1 u2 v2 c:Nat}(h:c<n):(wd rs n u1 v1 u2 v2).getD c r0=yw rs u1 v1 c:=by
 unfold wd;refine sZ ?_;rw[aK (by rw[aa,az];exact h),au,br h];rfl
theorem BX{rs:List Ro}{n u1 v1 u2 v2:Nat}:(wd rs n u1 v1 u2 v2).getD n r0=Ak rs u2 v2:=by
 unfold wd;refine sZ ?_;rw[aF (by rw[aa,az];exact aq _),aa,az,bY];rfl
theorem Ep{rs:List Ro}{u v c i:Nat}(h:i<rs.length):qr (yw rs u v c) i=qr (rs.getD i r0) c:=by
 unfold qr yw;rw[sZ (fs:=rs.map λr=>r.1.getD c (0,1)) (f:=(rs.getD i r0).1.getD c (0,1))];rw[au,aj (l:=rs),ah h];rfl
theorem Eo{rs:List Ro}{u v i:Nat}(h:i<rs.length):qr (Ak rs u v) i=qf (rs.getD i r0).2.1:=by
 unfold qr Ak;rw[sZ (fs:=rs.map λr=>r.2.1) (f:=(rs.getD i r0).2.1)];rw[au,aj (l:=rs),ah h];rfl
theorem ET{rs:List Ro}{n u1 v1 u2 v2:Nat}{y z:Nat->Rat}(h1:∀ c,c<n->Dt.rs rs.length (λi=>y i*qr (rs.getD i r0) c)=0)(h2:Dt.rs rs.length (λi=>y i*qf (rs.getD i r0).2.1)=1)
  (h3:∀ i,i<rs.length->Dt.rs (n+1) (λj=>z j*qr ((wd rs n u1 v1 u2 v2).getD j r0) i)=0) (h4:Dt.rs (n+1) (λj=>z j*qf ((wd rs n u1 v1 u2 v2).getD j r0).2.1)=1):False:=by
 have e4:Dt.rs (n+1) (λj=>z j*qf ((wd rs n u1 v1 u2 v2).getD j r0).2.1)=z n:=by
  show Dt.rs n _+z n*qf ((wd rs n u1 v1 u2 v2).getD n r0).2.1=z n;rw[BX,sM (g:=λ_=>0) (λc hc=>by rw[DQ hc];show z c*(((0:Int):Rat) / ((1:Int):Rat))=0;grind),ud];show 0+z n*(((1:Int):Rat) / ((1:Int):Rat))=z n;grind
 rw[e4] at h4;have s:Dt.rs rs.length (λi=>y i*Dt.rs (n+1) (λj=>z j*qr ((wd rs n u1 v1 u2 v2).getD j r0) i))=0:=by
  rw[sM (g:=λ_=>0) (λi hi=>by rw[h3 i hi];grind),ud]
 have e:Dt.rs rs.length (λi=>y i*Dt.rs (n+1) (λj=>z j*qr ((wd rs n u1 v1 u2 v2).getD j r0) i))=Dt.rs (n+1) λj=>z j*Dt.rs rs.length λi=>y i*qr ((wd rs n u1 v1 u2 v2).getD j r0) i:=by
  have a1:Dt.rs rs.length (λi=>y i*Dt.rs (n+1) (λj=>z j*qr ((wd rs n u1 v1 u2 v2).getD j r0) i))=Dt.rs rs.length λi=>Dt.rs (n+1) λj=>z j*(y i*qr ((wd rs n u1 v1 u2 v2).getD j r0) i):=sM λi _=>by
   rw[← tY];exact sM λj _=>by grind
  rw[a1,zl];exact sM λj _=>tY _
 rw[e] at s;have e5:Dt.rs (n+1) (λj=>z j*Dt.rs rs.length λi=>y i*qr ((wd rs n u1 v1 u2 v2).getD j r0) i)=z n:=by
  show Dt.rs n _+z n*Dt.rs rs.length (λi=>y i*qr ((wd rs n u1 v1 u2 v2).getD n r0) i)=z n;rw[sM (n:=n) (g:=λ_=>0) (λc hc=>by rw[DQ hc,sM (g:=λi=>y i*qr (rs.getD i r0) c) (λi hi=>by rw[Ep hi]),h1 c hc];grind),ud,BX,sM (g:=λi=>y i*qf (rs.getD i r0).2.1) (λi hi=>by rw[Eo hi]),h2];grind
 rw[e5,h4] at s;exact absurd s (by decide)
theorem Hw{rs:List Ro}{n m u1 v1 u2 v2:Nat}{T:Nat->Int}(h:Kv (wd rs n u1 v1 u2 v2) m T):Kv (wd rs n 0 0 0 0) m T:=λc hc ⟨κ,hκ⟩=>h c hc ⟨κ,λr hr=>by
 rcases aW.mp hr with z|z
 ·obtain⟨k,hk,rfl⟩:=bg.mp z;exact hκ (yw rs 0 0 k) (bu _ (bK hk))
 ·rw[aC.mp z];exact hκ (Ak rs 0 0) (aG _ av)⟩
theorem qg:Does 2 rP oE:=by
 rintro ds Q hn ⟨⟨rs,n,⟨u1,v1,u2,v2⟩,E,E',W⟩,⟨hds,O,O'⟩,q⟩;obtain⟨x,rfl⟩:∃ x,ds=[x]:=by rcases hds with rfl|rfl <;> exact⟨_,rfl⟩
 dsimp only at q;refine⟨rfl,(rs,n,E,W),⟨hds,O⟩,?_⟩;rintro d (⟨rfl,y,y1,y2⟩|⟨T,D0,d0,l0,lT,rfl,hr,hN⟩)
 ·refine⟨rfl,(rs,n,u1,v1,u2,v2),⟨hds,O.ne,O.len,O.n15,λr hr=>(O.row r hr).1⟩,?_⟩;rintro _ rfl;refine⟨rfl,(wd rs n u1 v1 u2 v2,rs.length,E',W),⟨.inl rfl,O'⟩,?_⟩;rintro d (⟨rfl,z,z1,z2⟩|⟨T,D0,d0,l0,lT,rfl,hr,hN⟩)
  ·rw[xC] at z1 z2;exact (ET y1 y2 z1 z2).elim
  ·refine⟨tE,q _ ⟨T,D0,d0,l0,lT,.inr ⟨rfl,Hw hN,λc hc=>?_,?_⟩⟩⟩
   ·have h:=hr (yw rs u1 v1 c) (bu _ (bK (bf.mpr hc)));rw[sM (g:=λi=>qr (rs.getD i r0) c*((T i:Rat) / (D0:Rat))) (λi hi=>by rw[Ep hi])] at h;rw[h];show ((0:Int):Rat) / ((1:Int):Rat)=0;grind
   ·have h:=hr (Ak rs u2 v2) (aG _ av);rw[sM (g:=λi=>qf (rs.getD i r0).2.1*((T i:Rat) / (D0:Rat))) (λi hi=>by rw[Eo hi])] at h;rw[h];show ((1:Int):Rat) / ((1:Int):Rat)=1;grind
 ·exact⟨tE,q _ ⟨T,D0,d0,l0,lT,.inl ⟨rfl,hN,hr⟩⟩⟩
theorem FqD.sharp{d:D}{r:Rat}(h:FqD n b d r){T U:Int}(hU:U≠0)(e:r=(T:Rat) / (U:Rat))(l1:Lt2 n' T)(l2:Lt2 b' U):FqD n' b' d r:=by
 obtain⟨t,u,e0,z1,z2,z3,z4,z5⟩:=h;have c:=(Qp.uc (by omega) hU).mp (z5.symm.trans e);obtain⟨y1,y2⟩:=Fr.zc (t:=T) (b:=U) hU z1 z2 c.symm;have x4:=Fr.vS (t:=T) hU;rw[y1,y2] at x4;exact⟨t,u,e0,z1,z2,l1.le x4.1,l2.le x4.2,z5⟩
def HM(n b:Nat)(p:Int×Int):Prop:=0<p.2/\Int.gcd p.1 p.2=1/\Lt2 n p.1/\Lt2 b p.2
def ix:SpB:=.of 2 (α:=D×D×Rat×Rat×Nat×Nat×Nat×Nat) (λ(d1,d2,r1,r2,n1,b1,n2,b2) ds=>ds=[d1,d2]/\FqD n1 b1 d1 r1/\FqD n2 b2 d2 r2/\b1+b2<=9000000/\n1+b2<=9000000/\n2+b1<=9000000)
 (λ(d1,d2,r1,r2,n1,b1,n2,b2) d=>FqD (max (n1+b2) (n2+b1)+1) (b1+b2) d (r1+r2))
theorem lY:Does 2 pZ ix:=by
 rintro ds Q hn ⟨⟨d1,d2,r1,r2,n1,b1,n2,b2⟩,⟨rfl,⟨t1,u1,rfl,p1,g1,lt1,lu1,rfl⟩,⟨t2,u2,rfl,p2,g2,lt2,lu2,rfl⟩,hb,h1,h2⟩,q⟩;dsimp only at hb h1 h2 q;have p12:=aP p1 p2;refine⟨⟨_,_,lt1,lu2,by omega⟩,⟨_,_,lt2,lu1,by omega⟩,⟨_,_,lu1,lu2,by omega⟩,rfl,(t1*u2+t2*u1,u1*u2),⟨rfl,aT p12,(lu1.mul lu2).mono hb⟩,?_⟩;rintro _ rfl;have f:=FqD.of (t:=t1*u2+t2*u1) (u:=u1*u2) p12 (((lt1.mul lu2).mono (m:=max (n1+b2) (n2+b1)) (Nat.le_max_left _ _)).add ((lt2.mul lu1).mono (Nat.le_max_right _ _))) (lu1.mul lu2);refine q _ ?_;have h3:(u1:Rat)≠0:=Qp.sO p1;have h4:(u2:Rat)≠0:=Qp.sO p2;have e:((t1*u2+t2*u1:Int):Rat) / ((u1*u2:Int):Rat)=(t1:Rat) / (u1:Rat)+(t2:Rat) / (u2:Rat):=by
  rw[bU,ri,ri,ri];grind
 rw[← e];exact f
end Dp
namespace Dp
open PySem L2 Dt Ch
theorem tM(W:Nat->D->Prop)(hl:ds.length<=16777216)(h:∀ i d,ds[i]? = some d->g.run d s0 λs1=>e.run s1 (W i))(q:∀ ys:List D,ys.length=ds.length->(∀ i y,ys[i]? = some y->W i y)->Q (.lst ys)):compD ds s0 g gP e Q:=by
 refine⟨tX hl,λi ys=>ys.length=i/\∀ j y,ys[j]? = some y->W j y,⟨rfl,λj y h=>by cases h⟩,?_,?_⟩
 ·rintro i d ys hd _ ⟨l,hw⟩;refine g.mono (λs1 w=>?_) (h i d hd);refine e.mono (λy w=>?_) w;refine⟨by rw[ai,l];rfl,λj z hz=>?_⟩;rcases aJ j ys.length with c|c
  ·rw[aK c] at hz;exact hw j z hz
  ·rw[aF c] at hz;obtain⟨z1,z2⟩:=af.mp hz;have e0:j-ys.length=0:=by simp at z1;omega
   have ej:j=i:=by omega
   subst ej;simp[e0] at hz;rw[← hz];exact w
 ·rintro ys _ ⟨l,hw⟩;exact q ys l hw
theorem Bc:∀ b,rs (a+b) f=rs a f+rs b λc=>f (a+c)
 | 0=>by show rs a f=rs a f+0;grind
 | b+1=>by
  show rs (a+b) f+f (a+b)=rs a f+(rs b (λc=>f (a+c))+f (a+b));rw[Bc b];grind
theorem Eg(b:Nat):rs (b+1) f=f 0+rs b λc=>f (c+1):=by
 rw[df,Bc b];show 0+f 0+rs b (λc=>f (1+c))=_;rw[sM (f:=λc=>f (1+c)) (g:=λc=>f (c+1)) λc _=>by rw[df]];grind
theorem Fu:∀ N,Qp.ei F x N / (B:Rat)=rs N λj=>((F j:Int):Rat) / (B:Rat)*x^j
 | 0=>by show (0:Rat) / _=0;grind
 | N+1=>by
  show (Qp.ei F x N+(F N:Rat)*x^N) / (B:Rat)=rs N _+_;rw[← Fu N];grind
theorem Mq(h:P.length<=N):Qp.E P B x=rs N λj=>Qp.q P B j*x^j:=by
 rw[Qp.Ms h,Fu];rfl
def IsPw(P:List Int)(B:Int)(k:Nat)(R:Pl):Prop:=Po.Fm R.1 R.2/\∀ j,R.1.getD j 0*B^k=Pc.cp (Cv.fn P) k j*R.2
def cq(P:List Int)(B:Int)(k j:Nat):Rat:=((Pc.cp (Cv.fn P) k j:Int):Rat) / ((B^k:Int):Rat)
section
variable{P:List Int}{B:Int}{k m n b:Nat}{R:Pl}
theorem IsPw.q(h:IsPw P B k R)(hB:0<B)(j:Nat):Qp.q R.1 R.2 j=cq P B k j:=Qp.Db h.1.pos (aT (cS hB)) h.2 j
theorem BL(l:P.length<=m+1)(h:k*m+1<=j):cq P B k j=0:=by
 unfold cq;rw[Pc.wJ (m:=m+1) (λi hi=>Cv.sV (by omega)) k j h];show ((0:Int):Rat) / _=0;grind
theorem IsPw.len(h:IsPw P B k R)(hB:0<B)(l:P.length<=m+1):R.1.length<=k*m+1:=Pc.ub h.1 (cS hB) h.2 (Pc.wJ (m:=m+1) (λi hi=>Cv.sV (by omega)) k)
theorem IsPw.pz(h:IsPw P B k R)(z:Pc.Pz n b P B)(l:k*P.length<=400):Pc.Pz ((n+9)*k+1) (b*k+1) R.1 R.2:=Pc.Pz.of h.1 (cS z.fm.pos) h.2 (Pc.AO (l:=P.length) (λj hj=>Cv.sV hj) (λj=>z.tops j) k l) (Hv.uT z.bot k)
theorem IA(hg:∀ k,m<=k->g k=0)(x:Rat):∀ k,Qp.ei (Pc.cp g k) x (k*m+1)=Qp.ei g x m^k
 | 0=>by
  rw[fc];show 0+((if 0=0 then (1:Int) else 0:Int):Rat)*x^0=_;rw[if_pos rfl,cW,cW];show (0:Rat)+1*1=1;grind
 | k+1=>by
  rw[show (k+1)*m+1=(k*m+1)+m by rw[aS];omega];show Qp.ei (Cv.cv (Pc.cp g k) g) x _=_;rw[Qp.L0 (Pc.uX hg k) hg,IA hg x k,dc]
theorem Mr(hB:0<B)(l:P.length<=m+1)(h:k*m+1<=N):rs N (λj=>cq P B k j*x^j)=Qp.E P B x^k:=by
 have e:=IA (g:=Cv.fn P) (m:=P.length) (λj hj=>Cv.sV hj) x k;have e1:Qp.E P B x^k=Qp.ei (Cv.fn P) x P.length^k / ((B^k:Int):Rat):=by
  unfold Qp.E;rw[cO];have h1:=Qp.zp (Qp.ei (Cv.fn P) x P.length) (Qp.sO hB) k;have h2:=Qp.xa (Qp.sO hB) k;rw[← h1];generalize (B:Rat)^k=z at *;grind
 have c1:k*P.length+1<=N+k*P.length+1:=by omega
 have e2:rs (N+(k*P.length+1)) (λj=>cq P B k j*x^j)=rs N λj=>cq P B k j*x^j:=zm (by omega) λc h1 _=>by rw[BL l (by omega)];grind
 have e3:Qp.ei (Pc.cp (Cv.fn P) k) x (k*P.length+1+N)=Qp.ei (Pc.cp (Cv.fn P) k) x (k*P.length+1):=Qp.Ft (Pc.uX (λj hj=>Cv.sV hj) k) N;rw[← e2,e1,← e,← e3,df N,Fu];rfl
end
def kN:SpB:=.of 2 (α:=List Int×Int×Nat×Nat×Nat) (λ(P,B,k,n,b) ds=>ds=[pD P B,.int k]/\Pc.Pz n b P B/\k*P.length<=400/\k<=400/\P.length<=400/\b*k+1+b<=9000000/\(n+9)*k+1+n<=9000000)
 (λ(P,B,k,n,b) d=>∃ R,d=pq R/\IsPw P B k R)
def hZ:SpB:=.of 1 (α:=List (Int×Int)×(Nat->Nat)×Nat) (λ(fs,us,m) ds=>(ds=[.lst (xB fs)]\/ds=[.tup (xB fs)])/\KC fs us m)
 (λ(fs,us,m) d=>∃ P B,d=pD P B/\Po.Fm P B/\(∀ k,P.getD k 0*(fs.getD k (0,1)).2=(fs.getD k (0,1)).1*B)/\P.length<=fs.length)
def qH:TSd:=(gr [] (ge io (fZ (ga 1) (fZ (ga 2) gb))))
def rQ:TSd:=dSq (gk [] (gTp [1,2]) (ge gM (fZ (ga 0) gb)))
 qH
theorem qh:Does 3 rQ hZ:=by
 rintro ds Q hn ⟨⟨fs,us,m⟩,⟨hds,hF⟩,q⟩;have hF':=hF;obtain⟨hb,hl,hz,hm8⟩:=hF';obtain⟨x,rfl⟩:∃ x,ds=[x]:=by rcases hds with rfl|rfl <;> exact⟨_,rfl⟩
 refine⟨rfl,(fs,us,m),⟨hds,hF⟩,?_⟩;rintro _ ⟨b0,rfl,h0,hl0,hd⟩;refine⟨rfl,rfl,(fs.map λf=>f.1*b0.fdiv f.2,b0),⟨rfl,h0,Lt2.mono hl0 (by show sN us fs.length+1<=9000000;omega),by show (fs.map λf=>f.1*b0.fdiv f.2).length<=1000;rw[aa];omega⟩,?_⟩;rintro _ ⟨P,B,rfl,fm,hw,hle⟩;have hle:P.length<=(fs.map λf=>f.1*b0.fdiv f.2).length:=hle;rw[aa] at hle;refine q _ ⟨P,B,rfl,fm,λk=>?_,hle⟩
 ·have hk:P.getD k 0*b0=(fs.map λf=>f.1*b0.fdiv f.2).getD k 0*B:=hw k;show P.getD k 0*(fs.getD k (0,1)).2=(fs.getD k (0,1)).1*B;cases hf:fs[k]? with
  | none =>
   rw[sP (fs:=fs.map λf=>f.1*b0.fdiv f.2) (by rw[aa];exact bA.mp hf),aX] at hk;rw[sP (fs:=fs) (bA.mp hf)];rcases bD.mp hk with z|z
   ·rw[z];simp
   ·omega
  | some f =>
   have b1:=(hb k f hf).1;obtain⟨e,q0,ql⟩:=tH b1 h0 (hd _ _ hf);rw[sZ (fs:=fs.map λf=>f.1*b0.fdiv f.2) (f:=f.1*b0.fdiv f.2) (by rw[au,hf];rfl)] at hk;rw[sZ hf];generalize b0.fdiv f.2=c at *;have:(P.getD k 0*f.2)*c=(f.1*B)*c:=by
    rw[e] at hk;grind
   exact bo (by omega) this
def rh:TSd:=(gr [] (ga 2))
def rj:TSd:=dSq (ia [] (jB (ga 1)) (gNm 3)
 (gk [] (gNm 2) (ge pX (fZ (ga 2) (fZ (ga 0) gb)))))
 rh
def sh:TSd:=dSq (gk [] (gNm 2) (ge hZ (fZ (gv (fZ (gm (fZ (dC (.int 1)) (fZ (dC (.int 1)) gb))) gb)) gb)))
 rj
theorem qI:Does 4 sh kN:=by
 rintro ds Q hn ⟨⟨P1,B1,k,n,b⟩,⟨rfl,z1,hkl,hk,hl,hb,hn⟩,q⟩;dsimp only at z1 hkl hk hl hb hn q;have B0:=z1.fm.pos;refine⟨tE,vT,rfl,([(1,1)],λ_=>1,1),⟨.inl rfl,λi f hf=>?_,by show 1<=100;omega,by show sN (λ_=>1) 1<=4000000;exact (by decide:0+1<=4000000),by show 1<=9000000;omega⟩,?_⟩
 ·cases i with
  | zero=>cases hf;exact⟨by decide,by decide,by decide⟩
  | succ i=>cases hf
 rintro _ ⟨P0,C0,rfl,f0,w0,l0⟩;obtain⟨rfl,rfl⟩:P0=[1]/\C0=1:=Po.zc f0 Cv.Bm λj=>by
  have e:P0.getD j 0*([(1,1)].getD j (0,1):Int×Int).2=([(1,1)].getD j (0,1):Int×Int).1*C0:=w0 j;cases j with
  | zero=>exact e
  | succ j=>exact e
 refine⟨by omega,by omega,λi s=>∃(o3:SD) (R:Pl),s=[.val (pD P1 B1),.val (.int k),.val (pq R),o3]/\IsPw P1 B1 i R,⟨.no,([1],1),rfl,Cv.Bm,λj=>?_⟩,?_,?_⟩
 ·rw[bR];cases j with
  | zero=>rfl
  | succ j=>rfl
 ·rintro i d _ hd ⟨o3,R,rfl,hR⟩;obtain⟨hi,rfl⟩:=ug hd;have hi:i<k:=by omega
  have l1:i*P1.length<=k*P1.length:=aI _ (by omega);have l2:b*i<=b*k:=bG _ (by omega);have l3:(n+9)*i<=(n+9)*k:=bG _ (by omega);have G:=hR.pz z1 (by omega);have hle:=hR.len B0 (m:=P1.length) (by omega);refine⟨rfl,(R.1,R.2,P1,B1,_,_,n,b),⟨rfl,G,z1,by omega,by omega,by show R.1.length<=450;omega,by show P1.length<=450;omega⟩,?_⟩;rintro _ ⟨R',C',rfl,fm',hw⟩;refine⟨_,(R',C'),rfl,fm',λj=>?_⟩;have e:Cv.cv (Cv.fn R.1) (Cv.fn P1) j*B1^i=Pc.cp (Cv.fn P1) (i+1) j*R.2:=by
   show _=Cv.cv (Pc.cp (Cv.fn P1) i) (Cv.fn P1) j*R.2;rw[← Cv.uK,← Cv.uK];exact Cv.uL (λm=>hR.2 m) λ_=>rfl
  have e2:=hw j;have fm:=hR.1;show R'.getD j 0*B1^(i+1)=Pc.cp (Cv.fn P1) (i+1) j*C';have e2:R'.getD j 0*(R.2*B1)=Cv.cv (Cv.fn R.1) (Cv.fn P1) j*C':=hw j;refine bo (aT fm.pos) ?_;rw[bv];grind
 ·rintro _ ⟨o3,R,rfl,hR⟩;rw[td,aB] at hR;exact q _ ⟨R,rfl,hR⟩
def i4:SpB:=.of 3 (α:=List Int×Int×Nat×Nat×Nat×Nat) (λ(P,B,lo,hi,n,b) ds=>ds=[pD P B,.int lo,.int hi]/\lo<=hi/\Pc.Pz n b P B/\hi*P.length<=400/\hi<=400/\P.length<=400/\b*hi+1+b<=9000000/\(n+9)*hi+1+n<=9000000)
 (λ(P,B,lo,hi,n,b) d=>∃ Rs:List D,d = .lst Rs/\Rs.length=hi-lo/\∀ i y,Rs[i]? = some y->∃ R,y=pq R/\IsPw P B (lo+i) R)
def rR:TSd:=(gr [] (gB (ng (ga 1) (ga 2)) [3] (gNm 3) gP (ge kN (fZ (ga 0) (fZ (ga 3) gb)))))
theorem qj:Does 4 rR i4:=by
 rintro ds Q hn ⟨⟨P,B,lo,hi,n,b⟩,⟨rfl,hlo,z,h1,h2,h3,h4,h5⟩,q⟩;dsimp only at hlo z h1 h2 h3 h4 h5 q;refine⟨⟨by omega,by omega,by omega,by omega⟩,?_⟩;have hlen:(uO (lo:Int) ((hi:Int)-(lo:Int)).toNat).length=hi-lo:=by rw[td];omega
 refine tM (λi y=>∃ R,y=pq R/\IsPw P B (lo+i) R) (by rw[hlen];omega) (λi d hd=>?_) λys l hw=>q _ ⟨ys,rfl,by rw[l,hlen],hw⟩;obtain⟨hi',rfl⟩:=ug hd;have li:lo+i<=hi:=by omega
 have l1:(lo+i)*P.length<=hi*P.length:=aI _ li;have l2:b*(lo+i)<=b*hi:=bG _ li;have l3:(n+9)*(lo+i)<=(n+9)*hi:=bG _ li;refine⟨rfl,(P,B,lo+i,n,b),⟨rfl,z,by show (lo+i)*P.length<=400;omega,by show lo+i<=400;omega,h3,by show b*(lo+i)+1+b<=9000000;omega,by show (n+9)*(lo+i)+1+n<=9000000;omega⟩,?_⟩;intro d hd;exact hd
end Dp
namespace Dp
open PySem L2 Dt
theorem CD(h:FqD n b d r)(h':FqD n' b' d' r')(q:∀ k:Bool,(k=true↔r=r')->Q (.bl k)):oEq false d d' Q:=by
 obtain⟨t,u,rfl,h1,h2,h3,h4,h5⟩:=h;obtain⟨t',u',rfl,h1',h2',h3',h4',h5'⟩:=h';refine⟨rfl,rfl,(show (0:Nat)<=60 by decide),λk hk=>q k (hk.trans ⟨λe=>?_,λe=>?_⟩)⟩
 ·cases e;rw[h5,h5']
 ·have f1:FqD n b (fD t u) r:=⟨t,u,rfl,h1,h2,h3,h4,h5⟩;have f2:FqD n' b' (fD t' u') r:=⟨t',u',rfl,h1',h2',h3',h4',by rw[e,h5']⟩;have:=(FqD.same f1 f2).1;unfold fD at this;injection this
theorem J5:FqD 1 1 (fD 0 1) 0:=xg (n:=1) (t:=0) (wO _)
end Dp
namespace Dp
open PySem L2 Dt Ch
def nd(r:Rat):Int×Int:=(r.num,(r.den:Int))
theorem En(r:Rat):qf (nd r)=r:=by
 have:=fI r;rw[fN] at this;exact this
theorem FqD.nd(h:FqD n b d r):d=fD (nd r).1 (nd r).2/\HM n b (nd r):=by
 obtain⟨t,u,rfl,h1,h2,h3,h4,h5⟩:=h;have e:(t:Rat) / (u:Rat)=((Dp.nd r).1:Rat) / ((Dp.nd r).2:Rat):=h5.symm.trans (En r).symm;have d0:0<(Dp.nd r).2:=Int.natCast_pos.mpr r.den_pos;have g0:Int.gcd (Dp.nd r).1 (Dp.nd r).2=1:=r.reduced;have e1:=(Qp.uc (by omega) (by omega)).mp e;obtain⟨y1,y2⟩:=Fr.zc (t:=t) (b:=u) (by omega) d0 g0 e1;obtain⟨z1,z2⟩:=Fr.zc (t:=t) (b:=u) (c:=t) (d:=u) (by omega) h1 h2 rfl;have k1:(Dp.nd r).1=t:=y1.symm.trans z1;have k2:(Dp.nd r).2=u:=y2.symm.trans z2;refine⟨by rw[k1,k2],?_,?_,?_,?_⟩
 ·rw[k2];exact h1
 ·rw[k1,k2];exact h2
 ·rw[k1];exact h3
 ·rw[k2];exact h4
theorem x6{ys:List D}{n:Nat}{G:Nat->D}(l:ys.length=n)(h:∀ i y,ys[i]? = some y->y=G i):ys=(List.range n).map G:=by
 refine cU λi=>?_;rw[au];rcases aJ i n with c|c
 ·rw[br c];have e:=ah (l:=ys) (i:=i) (by omega);rw[e];exact congrArg some (h i _ e)
 ·rw[aV (by omega),aV (by rw[az];exact c)];rfl
def Dgo(m k:Nat):Prop:=1<=m/\m<=6/\1<=k/\k<=6/\Nat.lcm m k<=12
theorem Fz:∀ m∈List.range 7,∀ k∈List.range 7,1<=m->1<=k->Nat.lcm m k<=12->(Nat.lcm m k / m*m=Nat.lcm m k/\Nat.lcm m k / k*k=Nat.lcm m k/\1<=Nat.lcm m k / m/\Nat.lcm m k / m<=6/\1<=Nat.lcm m k / k/\Nat.lcm m k / k<=6/\Nat.lcm m k / m+Nat.lcm m k / k<=7/\1<=Nat.lcm m k/\Nat.lcm m k=Nat.lcm k m):=by decide +kernel
structure Hi (m k L a b:Nat):Prop where
 m1:1<=m
 m6:m<=6
 k1:1<=k
 k6:k<=6
 eL:Nat.lcm m k=L
 ea:L / m=a
 eb:L / k=b
 am:a*m=L
 bk:b*k=L
 a1:1<=a
 a6:a<=6
 b1:1<=b
 b6:b<=6
 ab:a+b<=7
 L1:1<=L
 L12:L<=12
theorem Dgo.hi(h:Dgo m k):∃ L a b,Hi m k L a b:=by
 obtain⟨h1,h2,h3,h4,h5⟩:=h;obtain⟨e1,e2,e3,e4,e5,e6,e7,e8,_⟩:=Fz m (bf.mpr (by omega)) k (bf.mpr (by omega)) h1 h3 h5;exact⟨_,_,_,h1,h2,h3,h4,rfl,rfl,rfl,e1,e2,e3,e4,e5,e6,e7,e8,h5⟩
theorem Hi.swap(h:Hi m k L a b):Hi k m L b a:=by
 have e:=(Fz m (bf.mpr (by have:=h.m6;omega)) k (bf.mpr (by have:=h.k6;omega)) h.m1 h.k1 (by rw[h.eL];exact h.L12)).2.2.2.2.2.2.2.2;exact⟨h.k1,h.k6,h.m1,h.m6,by rw[← e];exact h.eL,h.eb,h.ea,h.bk,h.am,h.b1,h.b6,h.a1,h.a6,by have:=h.ab;omega,h.L1,h.L12⟩
def gR:SpB:=.of 2 (α:=Nat×Nat) (λ(m,k) ds=>ds=[.int m,.int k]/\1<=m/\1<=k/\m<=1000/\k<=1000) (λ(m,k) d=>d = .int (Nat.lcm m k:Nat))
def lZ:TSd:=(gr [] (gg .FloorDiv (gg .Mult (ga 0) (ga 1)) (ge gS (fZ (ga 0) (fZ (ga 1) gb)))))
theorem tf(h0:0<=n)(h:n<2000000):Lt2 21 n:=by
 unfold Lt2;have:(2:Nat)^21=2097152:=by decide
 omega
theorem Cr{m k:Nat}(m1:1<=m)(k1:1<=k):Int.fdiv ((m:Int)*(k:Int)) (Fr.cp (m:Int) (k:Int))=((Nat.lcm m k:Nat):Int):=by
 have e:Fr.cp (m:Int) (k:Int)=((Nat.gcd m k:Nat):Int):=rfl;rw[e,← Int.natCast_mul,aU _ (by omega),← bP];rfl
theorem jY:Does 2 lZ gR:=by
 rintro ds Q hn ⟨⟨m,k⟩,⟨rfl,m1,k1,m9,k9⟩,q⟩;dsimp only at m1 k1 m9 k9 q;have g0:0<Fr.cp (m:Int) (k:Int):=xl (by omega);have gl:Fr.cp (m:Int) (k:Int)<=m:=Int.le_of_dvd (by omega) (yo (m:Int) (k:Int)).1;refine⟨⟨21,21,tf (by omega) (by omega),tf (by omega) (by omega),by omega⟩,rfl,((m:Int),(k:Int)),rfl,?_⟩;rintro _ rfl;refine⟨⟨by show Fr.cp (m:Int) (k:Int)≠0;omega,21,tf (by show (0:Int)<=Fr.cp (m:Int) (k:Int);omega) (by show Fr.cp (m:Int) (k:Int)<_;omega),by omega⟩,q _ ?_⟩;show D.int (Int.fdiv ((m:Int)*(k:Int)) (Fr.cp (m:Int) (k:Int)))=_;rw[Cr m1 k1]
section
variable(P:List Int)(B:Int)(P':List Int)(B':Int)(a b L:Nat)
def Fi(c j:Nat):Rat:=if c<a then -(cq P B c j) else cq P' B' (c-a+1) j
def Gg(j:Nat):Ro:=((List.range (a+b)).map λc=>nd (Fi P B P' B' a c j),nd (cq P B a j),860,860,860)
def ve:List Ro:=(List.range (L+1)).map (Gg P B P' B' a b)
def uq(y:Nat->Rat)(j:Nat):Rat:=if j<a then y j else if j=a then 1 else 0
def vq(y:Nat->Rat)(j:Nat):Rat:=if j=0 then 0 else if j<=b then y (a+j-1) else 0
def NW(U V:Pl)(T:Nat->Int)(D0:Int):Prop:=Po.Fm U.1 U.2/\Po.Fm V.1 V.2/\(∀ j,Qp.q U.1 U.2 j=uq a (λc=>(T c:Rat) / (D0:Rat)) j)/\(∀ j,Qp.q V.1 V.2 j=vq a b (λc=>(T c:Rat) / (D0:Rat)) j)
def KD(d:D):Prop:=∃(T:Nat->Int) (D0:Int),D0≠0/\Lt2 100001 D0/\(∀ c,Lt2 100001 (T c)) /\
 ((∃ U V:Pl,d = .tup [.str "outer",pq U,pq V]/\NW a b U V T D0/\Kv (ve P B P' B' a b L) (a+b) T/\∀ r∈ve P B P' B' a b L,Dt.rs (a+b) (λc=>qr r c*((T c:Rat) / (D0:Rat)))=qf r.2.1) \/
   (d = .tup [.str "none",tx (L+1) T D0]/\Kv (wd (ve P B P' B' a b L) (a+b) 0 0 0 0) (ve P B P' B' a b L).length T/\(∀ c,c<a+b->Dt.rs (ve P B P' B' a b L).length (λi=>qr ((ve P B P' B' a b L).getD i r0) c*((T i:Rat) / (D0:Rat)))=0)/\Dt.rs (ve P B P' B' a b L).length (λi=>qf ((ve P B P' B' a b L).getD i r0).2.1*((T i:Rat) / (D0:Rat)))=1))
end
section
variable{P:List Int}{B:Int}{P':List Int}{B':Int}{a b L:Nat}
theorem tZ:(ve P B P' B' a b L).length=L+1:=by
 unfold ve;rw[aa,az]
theorem Eh(h:j<L+1):(ve P B P' B' a b L).getD j r0=Gg P B P' B' a b j:=by
 unfold ve;refine sZ ?_;rw[au,br h];rfl
theorem Gv(h:j<L+1):Gg P B P' B' a b j∈ve P B P' B' a b L:=bK (bf.mpr h)
theorem H0(h:c<a+b):qr (Gg P B P' B' a b j) c=Fi P B P' B' a c j:=by
 unfold qr Gg;show qf (((List.range (a+b)).map λc=>nd (Fi P B P' B' a c j)).getD c (0,1))=_;rw[sZ (f:=nd (Fi P B P' B' a c j)) (by rw[au,br h];rfl),En]
theorem H8:qf (Gg P B P' B' a b j).2.1=cq P B a j:=En _
end
def gZ:SpB:=.of 2 (α:=List Int×Int×List Int×Int×Nat×Nat×Nat×Nat×Nat) (λ(P,B,P',B',m,k,L,a,b) ds=>ds=[pD P B,pD P' B']/\Pc.Pz 133 133 P B/\Pc.Pz 133 133 P' B'/\P.length=m+1/\P'.length=k+1/\Hi m k L a b)
 (λ(P,B,P',B',m,k,L,a,b) d=>KD P B P' B' a b L d)
def ij:TSd:=(gr [] (gm (fZ (dC (.str "outer")) (fZ (ge hZ (fZ (gg .Add (dSl (ga 11) dNo (ic (ga 3))) (gm (fZ (gm (fZ (dC (.int 1)) (fZ (dC (.int 1)) gb))) gb))) gb)) (fZ (ge hZ (fZ (gg .Add (gm (fZ (gm (fZ (dC (.int 0)) (fZ (dC (.int 1)) gb))) gb)) (dSl (ga 11) (ic (ga 3)) dNo)) gb)) gb)))))
def ma:TSd:=dSq (dIf [] (gu (gy .Eq (ga 10) (dC (.str "weights"))))
 (gr [] (gm (fZ (dC (.str "none")) (fZ (ga 11) gb))))
 gz)
 ij
def i5:TSd:=dSq (gk [] (gTp [10,11]) (ge oE (fZ (dB bTuple bTuple.mono (fZ (ga 8) gb)) gb)))
 ma
def i7:TSd:=dSq (gk [] (gNm 8) (gB (jB (gg .Add (ga 2) (dC (.int 1)))) [9] (gNm 9) gP (gm (fZ (dB bTuple bTuple.mono (fZ (gB (gD (ga 6)) [7] (gNm 7) gP (ge gT (fZ (ga 7) (fZ (ga 9) gb)))) gb)) (fZ (ge gT (fZ (ga 5) (fZ (ga 9) gb))) gb)))))
 i5
def md:TSd:=dSq (gk [] (gNm 6) (gg .Add (gB (gD (ge i4 (fZ (ga 0) (fZ (dC (.int 0)) (fZ (ga 3) gb))))) [7] (gNm 7) gP (ge oC (fZ (ga 7) (fZ (gm (fZ (nc (dC (.int 1))) (fZ (dC (.int 1)) gb))) gb)))) (ge i4 (fZ (ga 1) (fZ (dC (.int 1)) (fZ (gg .Add (ga 4) (dC (.int 1))) gb))))))
 i7
def i8:TSd:=dSq (gk [] (gNm 5) (ge kN (fZ (ga 0) (fZ (ga 3) gb))))
 md
def me:TSd:=dSq (jT [] 3 4 (gg .FloorDiv (ga 2) (ge gF (fZ (ga 0) gb))) (gg .FloorDiv (ga 2) (ge gF (fZ (ga 1) gb))))
 i8
def nE:TSd:=dSq (gk [] (gNm 2) (ge gR (fZ (ge gF (fZ (ga 0) gb)) (fZ (ge gF (fZ (ga 1) gb)) gb))))
 me
theorem IsPw.z8(h:IsPw P B k R)(z:Pc.Pz 133 133 P B)(l:P.length<=7)(k6:k<=6):Pc.Pz 860 860 R.1 R.2:=by
 have l1:k*P.length<=6*7:=aY k6 l;exact (h.pz z (by omega)).mono (by omega) (by omega)
theorem FP(z:Pc.Pz 133 133 P B)(l:P.length<=7)(k6:k<=6):∃ t u:Int,0<u/\Lt2 860 t/\Lt2 860 u/\cq P B k j=(t:Rat) / (u:Rat):=by
 have l1:k*P.length<=6*7:=aY k6 l;exact⟨_,_,cS z.fm.pos,(Pc.AO (l:=P.length) (λj hj=>Cv.sV hj) (λj=>z.tops j) k (by omega) j).mono (by omega),(Hv.uT z.bot k).mono (by omega),rfl⟩
theorem Br(h:0<u)(l1:Lt2 n t)(l2:Lt2 b u):HM n b (nd ((t:Rat) / (u:Rat))):=(FqD.nd (FqD.of h l1 l2)).2
section
variable{P:List Int}{B:Int}{P':List Int}{B':Int}{m k a b L:Nat}(z:Pc.Pz 133 133 P B)(z':Pc.Pz 133 133 P' B')(lP:P.length=m+1)(lP':P'.length=k+1)(h:Hi m k L a b)
include z lP h in
theorem Co(j:Nat):HM 860 860 (nd (cq P B a j)):=by
 have h1:=h.m6;have h2:=h.a6;obtain⟨t,u,u0,l1,l2,e⟩:=FP (j:=j) z (by omega) h2;rw[e];exact Br u0 l1 l2
include z z' lP lP' h in
theorem EZ(hc:c<a+b)(j:Nat):HM 860 860 (nd (Fi P B P' B' a c j)):=by
 have h1:=h.m6;have h2:=h.a6;have h3:=h.k6;have h4:=h.b6;unfold Fi;by_cases d:c<a
 ·rw[if_pos d];obtain⟨t,u,u0,l1,l2,e⟩:=FP (k:=c) (j:=j) z (by omega) (by omega);rw[e,show -((t:Rat) / (u:Rat))=((-t:Int):Rat) / (u:Rat) by rw[eO];grind];exact Br u0 (by unfold Lt2 at *;rw[dS];exact l1) l2
 ·rw[if_neg d];obtain⟨t,u,u0,l1,l2,e⟩:=FP (k:=c-a+1) (j:=j) z' (by omega) (by omega);rw[e];exact Br u0 l1 l2
theorem DX{α:Type}{f:α->Nat}{c:Nat}:∀{l:List α},(∀ r∈l,f r<=c)->(l.map f).sum<=l.length*c
 | [],_=>aL _
 | x::l,h=>by
  rw[cN,List.sum_cons,aE,aS,df];exact Nat.add_le_add (DX λr hr=>h r (aw _ hr)) (h x av)
include z z' lP lP' h in
theorem Lp:NuOk (ve P B P' B' a b L) (a+b) 7745 100000:=by
 have h1:=h.ab;have h2:=h.L12;refine⟨λe=>?_,by rw[tZ];omega,by omega,λr hr=>?_,.inl (by omega),by omega,by omega⟩
 ·have:=tZ (P:=P) (B:=B) (P':=P') (B':=B') (a:=a) (b:=b) (L:=L);rw[e] at this;simp at this
 ·obtain⟨j,hj,rfl⟩:=bg.mp hr;have ll:(Gg P B P' B' a b j).1.length=a+b:=by show ((List.range (a+b)).map _).length=_;rw[aa,az]
  refine⟨ll,⟨λp hp=>?_,?_,?_,?_,by show 860<=100000;omega⟩,?_⟩
  ·obtain⟨c,hc,rfl⟩:=bg.mp hp;have w:=EZ z z' lP lP' h (bf.mp hc) j;exact⟨w.1,w.2.2.1,w.2.2.2⟩
  ·have w:=Co z lP h j;exact⟨w.1,w.2.2.1,w.2.2.2⟩
  ·rw[ll];omega
  ·rw[ll];show 860*(a+b)+860<=4000000;omega
  ·show 860+(860*(a+b)+860+1)+4<=7745;omega
include z z' lP lP' h in
theorem JM:NuOk (wd (ve P B P' B' a b L) (a+b) 860 860 860 860) (ve P B P' B' a b L).length 12046 100000:=by
 have h1:=h.ab;have h2:=h.L12;have hw:∀ r∈wd (ve P B P' B' a b L) (a+b) 860 860 860 860,wb (ve P B P' B' a b L).length r+4<=12046:=λr hr=>by
  rw[tZ];rcases aW.mp hr with y|y
  ·obtain⟨c,hc,rfl⟩:=bg.mp y;show 860+(860*(L+1)+1+1)+4<=12046;omega
  ·rw[aC.mp y];show 860+(860*(L+1)+1+1)+4<=12046;omega
 have hs:=DX hw;rw[xC] at hs;refine⟨λe=>?_,by rw[xC];omega,by rw[tZ];omega,λr hr=>?_,.inr (by omega),by omega,by omega⟩
 ·have:=xC (rs:=ve P B P' B' a b L) (n:=a+b) (u1:=860) (v1:=860) (u2:=860) (v2:=860);rw[e] at this;simp at this
 ·have hw:=hw r hr;rcases aW.mp hr with y|y
  ·obtain⟨c,hc,rfl⟩:=bg.mp y;have hc:=bf.mp hc;have ll:(yw (ve P B P' B' a b L) 860 860 c).1.length=(ve P B P' B' a b L).length:=by show ((ve P B P' B' a b L).map _).length=_;rw[aa]
   refine⟨ll,⟨λp hp=>?_,⟨(by decide:(0:Int)<1),(show Lt2 860 0 from wO _),(by decide:Lt2 1 1)⟩,by rw[ll,tZ];omega,by rw[ll,tZ];show 860*(L+1)+1<=4000000;omega,by show 860<=100000;omega⟩,hw⟩;obtain⟨r,hr,rfl⟩:=bg.mp hp;obtain⟨j,hj,rfl⟩:=bg.mp hr;have w:=EZ z z' lP lP' h hc j;rw[show (Gg P B P' B' a b j).1.getD c (0,1)=nd (Fi P B P' B' a c j) from sZ (by show ((List.range (a+b)).map _)[c]? = _;rw[au,br hc];rfl)];exact⟨w.1,w.2.2.1,w.2.2.2⟩
  ·rw[aC.mp y] at hw ⊢;have ll:(Ak (ve P B P' B' a b L) 860 860).1.length=(ve P B P' B' a b L).length:=by show ((ve P B P' B' a b L).map _).length=_;rw[aa]
   refine⟨ll,⟨λp hp=>?_,⟨(by decide:(0:Int)<1),(show Lt2 860 1 from (show Lt2 1 1 by decide).mono (by omega)),(by decide:Lt2 1 1)⟩,by rw[ll,tZ];omega,by rw[ll,tZ];show 860*(L+1)+1<=4000000;omega,by show 860<=100000;omega⟩,hw⟩;obtain⟨r,hr,rfl⟩:=bg.mp hp;obtain⟨j,hj,rfl⟩:=bg.mp hr;have w:=Co z lP h j;exact⟨w.1,w.2.2.1,w.2.2.2⟩
def wN(T:Nat->Int)(D0:Int)(c:Nat):Int×Int:=(Fr.top (T c) D0,Fr.bot (T c) D0)
theorem x8{T:Nat->Int}{D0:Int}{c:Nat}(h0:D0≠0):qf (wN T D0 c)=(T c:Rat) / (D0:Rat):=by
 obtain⟨l1,l2,l3⟩:=Fr.low (t:=T c) (b:=D0) h0;exact (Qp.uc (by show Fr.bot (T c) D0≠0;omega) h0).mpr l2
theorem Fe{fs:List (Int×Int)}(hl:fs.length<=7)(hf:∀ f∈fs,0<f.2/\Lt2 100001 f.1/\Lt2 100001 f.2):KC fs (λ_=>100001) 100001:=by
 refine⟨λi f hi=>hf f (ay hi),by omega,?_,by omega⟩;have e:∀ n,sN (λ_=>100001) n=n*100001:=λn=>by
  induction n with
  | zero=>rfl
  | succ n ih=>show sN (λ_=>100001) n+100001=_;rw[ih,aS]
 rw[e];omega
theorem Fh{T:Nat->Int}{D0:Int}(h0:D0≠0)(l0:Lt2 100001 D0)(lT:∀ c,Lt2 100001 (T c))(c:Nat):0<(wN T D0 c).2/\Lt2 100001 (wN T D0 c).1/\Lt2 100001 (wN T D0 c).2:=by
 have y:=Fr.vS (t:=T c) (b:=D0) h0;exact⟨(Fr.low (t:=T c) h0).1,(lT c).le y.1,l0.le y.2⟩
theorem Er{R:List Int}{C:Int}{fs:List (Int×Int)}(fm:Po.Fm R C)(hf:∀ f∈fs,0<f.2)(h:∀ k,R.getD k 0*(fs.getD k (0,1)).2=(fs.getD k (0,1)).1*C)(j:Nat):Qp.q R C j=qf (fs.getD j (0,1)):=by
 have p:0<(fs.getD j (0,1)).2:=by
  cases e:fs[j]? with
  | none=>rw[aj,e];decide
  | some f=>rw[sZ e];exact hf f (ay e)
 exact (Qp.uc (aT fm.pos) (by omega)).mpr (h j)
end
theorem FO{l:List D}{a:Nat}(h:a<=l.length):tN l none (some (a:Int))=l.take a:=by
 unfold tN;rw[HT.wp,HT.xE,cH h,dR,cD]
theorem ym{l:List D}{a:Nat}(h:a<=l.length):tN l (some (a:Int)) none=l.drop a:=by
 unfold tN;rw[HT.wp,HT.xE,cH h,dI (by rw[bJ];exact aq _)]
theorem Ka{x y r us rw:D}{U V W:SD}{a b L:Nat}{T:Nat->Int}{D0:Int}{Q:D->Prop}(a1:a<=6)(b1:b<=6)(h0:D0≠0)(l0:Lt2 100001 D0)(lT:∀ c,Lt2 100001 (T c))(q:∀ U V:Pl,NW a b U V T D0->Q (.tup [.str "outer",pq U,pq V])) :
  ij.run (s9 Q) [.val x,.val y,.val (.int L),.val (.int a),.val (.int b),.val r,.val us,U,.val rw,V,W,.val (tx (a+b) T D0)]:=by
 have lr:((List.range (a+b)).map λc=>fD (Fr.top (T c) D0) (Fr.bot (T c) D0)).length=a+b:=by rw[aa,az]
 have e1:((List.range (a+b)).map λc=>fD (Fr.top (T c) D0) (Fr.bot (T c) D0)).take a++[D.tup [.int 1,.int 1]]=xB ((List.range a).map (wN T D0)++[(1,1)]):=by
  rw[xB,aN,bI,← List.map_take,List.take_range,cH (by omega)];rfl
 have e2:[D.tup [.int 0,.int 1]]++((List.range (a+b)).map λc=>fD (Fr.top (T c) D0) (Fr.bot (T c) D0)).drop a=xB ([(0,1)]++(List.range b).map λc=>wN T D0 (a+c)):=by
  rw[xB,aN,bI];refine congrArg (λz:List D=>[D.tup [.int 0,.int 1]]++z) ?_;rw[List.range_add,aN,List.drop_append_of_le_length (by rw[aa,az];exact aq _),List.drop_of_length_le (by rw[aa,az];exact aq _),bH,bI];rfl
 have o1:∀ f∈(List.range a).map (wN T D0)++[(1,1)],0<f.2/\Lt2 100001 f.1/\Lt2 100001 f.2:=λf hf=>by
  rcases aW.mp hf with y|y
  ·obtain⟨c,_,rfl⟩:=bg.mp y;exact Fh h0 l0 lT c
  ·rw[aC.mp y];exact⟨by decide,(show Lt2 1 1 by decide).mono (by omega),(show Lt2 1 1 by decide).mono (by omega)⟩
 have o2:∀ f∈[((0:Int),(1:Int))]++(List.range b).map (λc=>wN T D0 (a+c)),0<f.2/\Lt2 100001 f.1/\Lt2 100001 f.2:=λf hf=>by
  rcases aW.mp hf with y|y
  ·rw[aC.mp y];exact⟨by decide,wO _,(show Lt2 1 1 by decide).mono (by omega)⟩
  ·obtain⟨c,_,rfl⟩:=bg.mp y;exact Fh h0 l0 lT (a+c)
 have n1:((List.range a).map (wN T D0)++[((1:Int),(1:Int))]).length=a+1:=by rw[ai,aa,az];rfl
 have n2:([((0:Int),(1:Int))]++(List.range b).map λc=>wN T D0 (a+c)).length=b+1:=by rw[ai,aa,az,df];rfl
 have key:∀ l l':List D,l=xB ((List.range a).map (wN T D0)++[(1,1)])->l'=xB ([(0,1)]++(List.range b).map λc=>wN T D0 (a+c)) ->
   ((ge hZ (fZ (dC (.tup l)) gb)).run [] λd=>(ge hZ (fZ (dC (.tup l')) gb)).run [] λd'=>3<=sizeLine/\Q (.tup [.str "outer",d,d'])):=by
  rintro _ _ rfl rfl;refine⟨rfl,(_,_,_),⟨.inr rfl,Fe (by rw[n1];omega) o1⟩,?_⟩;rintro _ ⟨U,C,rfl,fU,wU,lU⟩;refine⟨rfl,(_,_,_),⟨.inr rfl,Fe (by rw[n2];omega) o2⟩,?_⟩;rintro _ ⟨V,C',rfl,fV,wV,lV⟩;refine⟨tX (by omega),q (U,C) (V,C') ⟨fU,fV,λj=>?_,λj=>?_⟩⟩
  ·have e:=Er fU (λf hf=>(o1 f hf).1) wU j;show Qp.q U C j=_;rw[e];unfold uq;by_cases c:j<a
   ·rw[if_pos c,sZ (f:=wN T D0 j) (by rw[aK (by rw[aa,az];exact c),au,br c];rfl),x8 h0]
   ·rw[if_neg c];by_cases c':j=a
    ·rw[if_pos c',sZ (f:=(1,1)) (by rw[aF (by rw[aa,az];omega),aa,az,c',bY];rfl)];show ((1:Int):Rat) / ((1:Int):Rat)=1;grind
    ·rw[if_neg c',sP (by rw[n1];omega)];show ((0:Int):Rat) / ((1:Int):Rat)=0;grind
  ·have e:=Er fV (λf hf=>(o2 f hf).1) wV j;show Qp.q V C' j=_;rw[e];unfold vq;cases j with
   | zero =>
    rw[if_pos rfl];show ((0:Int):Rat) / ((1:Int):Rat)=0;grind
   | succ j =>
    rw[if_neg (eF j)];by_cases c:j+1<=b
    ·rw[if_pos c,sZ (f:=wN T D0 (a+j)) (by show ((List.range b).map λc=>wN T D0 (a+c))[j]? = _;rw[au,br c];rfl),x8 h0];rfl
    ·rw[if_neg c,sP (by rw[n2];omega)];show ((0:Int):Rat) / ((1:Int):Rat)=0;grind
 have c1:=FO (l:=(List.range (a+b)).map λc=>fD (Fr.top (T c) D0) (Fr.bot (T c) D0)) (a:=a) (by omega);have c2:=ym (l:=(List.range (a+b)).map λc=>fD (Fr.top (T c) D0) (Fr.bot (T c) D0)) (a:=a) (by omega);have k:=key _ _ (by rw[← e1,← c1]) (by rw[← e2,← c2]);obtain⟨k1,k2⟩:=k;have lt1:(((List.range (a+b)).map λc=>fD (Fr.top (T c) D0) (Fr.bot (T c) D0)).take a).length=a:=by rw[aM,lr];omega
 have lt2:(((List.range (a+b)).map λc=>fD (Fr.top (T c) D0) (Fr.bot (T c) D0)).drop a).length=b:=by rw[bJ,lr];omega
 refine⟨trivial,tE,vT,?_,k1,hZ.mono (λd kd=>?_) k2⟩
 ·rw[c1,lt1];exact tX (by show a+1<=_;omega)
 ·obtain⟨k3,k4⟩:=kd;refine⟨tE,vT,trivial,?_,k3,hZ.mono (λd' kd'=>?_) k4⟩
  ·rw[c2,lt2];exact tX (by show 1+b<=_;omega)
  ·exact kd'
section
variable{P:List Int}{B:Int}{P':List Int}{B':Int}{m k a b L:Nat}{Q:D->Prop}
theorem OE(K:List D->Prop)(h:K l):itemsD (.lst l) K:=h
theorem DD{r us:D}{U V:SD}(z:Pc.Pz 133 133 P B)(z':Pc.Pz 133 133 P' B')(lP:P.length=m+1)(lP':P'.length=k+1)(h:Hi m k L a b)(q:∀ d,KD P B P' B' a b L d->Q d) :
  i5.run (s9 Q) [.val (pD P B),.val (pD P' B'),.val (.int L),.val (.int a),.val (.int b),.val r,.val us,U,.val (.lst ((ve P B P' B' a b L).map uw)),V,.no,.no]:=by
 have a6:=h.a6;have b6:=h.b6;refine⟨rfl,(ve P B P' B' a b L,a+b,(860,860,860,860),7745,12046,100000),⟨.inr rfl,Lp z z' lP lP' h,JM z z' lP lP' h⟩,?_⟩;rintro _ ⟨T,D0,d0,l0,lT,⟨rfl,N,w⟩|⟨rfl,N,w1,w2⟩⟩
 ·refine⟨rfl,?_⟩;show ij.run (s9 Q) [.val (pD P B),.val (pD P' B'),.val (.int L),.val (.int a),.val (.int b),.val r,.val us,U,.val (.lst ((ve P B P' B' a b L).map uw)),V,.val (.str "numbers"),.val (tx (a+b) T D0)];exact Ka a6 b6 d0 l0 lT λU V t=>q _ ⟨T,D0,d0,l0,lT,.inl ⟨U,V,rfl,t,N,w⟩⟩
 ·refine⟨rfl,tE,q _ ⟨T,D0,d0,l0,lT,.inr ⟨?_,N,w1,w2⟩⟩⟩;rw[tZ]
theorem HC(hx:∀ K:List D->Prop,K us->itemsD x K)(z:Pc.Pz 133 133 P B)(z':Pc.Pz 133 133 P' B')(lP:P.length=m+1)(lP':P'.length=k+1)(h:Hi m k L a b)(hR:IsPw P B a R)(lu:us.length=a+b)(hu:∀ i y,us[i]? = some y->∃ S:Pl,y=pq S/\Pc.Pz 860 860 S.1 S.2/\∀ j,Qp.q S.1 S.2 j=Fi P B P' B' a i j)(q:∀ d,KD P B P' B' a b L d->Q d) :
  i7.run (s9 Q) [.val (pD P B),.val (pD P' B'),.val (.int L),.val (.int a),.val (.int b),.val (pq R),.val x,.no,.no,.no,.no,.no]:=by
 have ab:=h.ab;have L12:=h.L12;have m6:=h.m6;refine⟨by omega,by omega,?_⟩;have hlen:(uO 0 ((L:Int)+1).toNat).length=L+1:=by rw[td];omega
 refine tM (λi y=>y=uw (Gg P B P' B' a b i)) (by rw[hlen];omega) (λi d hd=>?_) λys l hw=>?_
 ·obtain⟨hi,rfl⟩:=wQ hd;refine hx _ (tM (λc y=>y=fD (nd (Fi P B P' B' a c i)).1 (nd (Fi P B P' B' a c i)).2) (by omega) (λc d hd=>?_) λfs lf hf=>?_)
  ·obtain⟨S,rfl,zS,qS⟩:=hu c d hd;refine⟨rfl,(S.1,S.2,i,860,860),⟨rfl,zS,by show 860<=9000000;omega⟩,?_⟩;intro d hd;have e:=(FqD.nd hd).1;rw[qS i] at e;exact e
  ·have ef:=x6 (lf.trans lu) hf;subst ef;refine⟨rfl,(R.1,R.2,i,860,860),⟨rfl,hR.z8 z (by omega) h.a6,by show 860<=9000000;omega⟩,?_⟩;intro d hd;have e:=(FqD.nd hd).1;rw[hR.q z.fm.pos i] at e;refine⟨tE,?_⟩;rw[e];unfold uw Gg;show D.tup [.tup _,_]=D.tup [.tup (xB _),_];rw[xB,bI];rfl
 ·have e:=x6 (l.trans hlen) hw;have e2:ys=(ve P B P' B' a b L).map uw:=by rw[e];unfold ve;rw[bI];rfl
  rw[e2];exact DD z z' lP lP' h q
end
theorem kO:Does 12 nE gZ:=by
 rintro ds Q hn ⟨⟨P,B,P',B',m,k,L,a,b⟩,⟨rfl,z,z',lP,lP',h⟩,q⟩;dsimp only at z z' lP lP' h q;have ab:=h.ab;have L12:=h.L12;have m6:=h.m6;have k6:=h.k6;have a6:=h.a6;have b6:=h.b6;have m1:=h.m1;have k1:=h.k1;have d1:((P.length:Int)-1)=(m:Int):=by omega
 have d2:((P'.length:Int)-1)=(k:Int):=by omega
 have w1:a*P.length<=6*7:=aY a6 (by omega);have w2:(b+1)*P'.length<=7*7:=aY (by omega) (by omega);refine⟨rfl,(P,B),rfl,?_⟩;rintro _ rfl;refine⟨rfl,(P',B'),rfl,?_⟩;rintro _ rfl;refine⟨rfl,(m,k),⟨by show [D.int ((P.length:Int)-1),D.int ((P'.length:Int)-1)]=_;rw[d1,d2],m1,k1,by show m<=1000;omega,by show k<=1000;omega⟩,?_⟩;rintro _ rfl;rw[h.eL];refine⟨rfl,(P,B),rfl,?_⟩;rintro _ rfl;show (t5 ((L:Nat):Int) ((P.length:Int)-1))/\_;rw[d1];refine⟨⟨by omega,21,tf (by omega) (by omega),by omega⟩,rfl,(P',B'),rfl,?_⟩;rintro _ rfl;show (t5 ((L:Nat):Int) ((P'.length:Int)-1))/\_;rw[d2];refine⟨⟨by omega,21,tf (by omega) (by omega),by omega⟩,?_⟩;have fa:Int.fdiv ((L:Nat):Int) (m:Int)=(a:Int):=by
  rw[aU _ (by omega),← bP,h.ea]
 have fb:Int.fdiv ((L:Nat):Int) (k:Int)=(b:Int):=by
  rw[aU _ (by omega),← bP,h.eb]
 show i8.run (s9 Q) [.val (pD P B),.val (pD P' B'),.val (.int (L:Nat)),.val (.int (Int.fdiv ((L:Nat):Int) (m:Int))),.val (.int (Int.fdiv ((L:Nat):Int) (k:Int))),.no,.no,.no,.no,.no,.no,.no];rw[fa,fb];refine⟨rfl,(P,B,a,133,133),⟨rfl,z,by show a*P.length<=400;omega,by show a<=400;omega,by show P.length<=400;omega,by show 133*a+1+133<=9000000;omega,by show (133+9)*a+1+133<=9000000;omega⟩,?_⟩;rintro _ ⟨R,rfl,hR⟩;refine⟨rfl,(P,B,0,a,133,133),⟨rfl,aL _,z,by show a*P.length<=400;omega,by show a<=400;omega,by show P.length<=400;omega,by show 133*a+1+133<=9000000;omega,by show (133+9)*a+1+133<=9000000;omega⟩,?_⟩;rintro _ ⟨Rs,rfl,lR,hRs⟩;have lR:Rs.length=a-0:=lR;refine OE (l:=Rs) _ (tM (λi y=>∃ S:Pl,y=pq S/\Pc.Pz 860 860 S.1 S.2/\∀ j,Qp.q S.1 S.2 j = -(cq P B i j)) (by omega) (λi d hd=>?_) λys ly hy=>?_)
 ·obtain⟨S,rfl,hS⟩:=hRs i d hd;have hi:i<Rs.length:=(af.mp hd).1;rw[ff] at hS;have zS:=hS.z8 z (by omega) (by omega);have lS:=hS.len z.fm.pos (m:=m) (by omega);have l9:i*m<=6*6:=aY (by omega) (by omega);refine⟨tE,rfl,(S.1,S.2,-1,1,860,860,1,1),⟨rfl,zS,by decide,by decide,by decide,by show 860+1<=9000000;omega,by show 860+1<=9000000;omega,by show S.1.length<=900;omega⟩,?_⟩;rintro _ ⟨V,C,rfl,fm,hw,_⟩;have hw:∀ j,V.getD j 0*(S.2*1)=(S.1.getD j 0 * -1)*C:=hw;refine⟨(V,C),rfl,Pc.Pz.of fm (by rw[cy];exact zS.fm.pos) hw (λj=>?_) (by rw[cy];exact zS.bot),λj=>?_⟩
  ·have:=zS.tops j;unfold Lt2 at *;rw[bw];simpa using this
  ·show Qp.q V C j=_;rw[Qp.Db fm.pos (by rw[cy];exact aT zS.fm.pos) hw j,← hS.q z.fm.pos j];unfold Qp.q;rw[cy,ax];show _*((-1:Int):Rat) / _=_;rw[show ((-1:Int):Rat) = -1 from rfl];grind
 refine⟨rfl,(P',B',1,b+1,133,133),⟨rfl,by show 1<=b+1;omega,z',by show (b+1)*P'.length<=400;omega,by show b+1<=400;omega,by show P'.length<=400;omega,by show 133*(b+1)+1+133<=9000000;omega,by show (133+9)*(b+1)+1+133<=9000000;omega⟩,?_⟩;rintro _ ⟨Vs,rfl,lV,hVs⟩;have lV:Vs.length=b+1-1:=lV;refine⟨tX (by omega),?_⟩;refine HC (x:=.lst (ys++Vs)) (us:=ys++Vs) (λK k=>k) z z' lP lP' h hR (by rw[ai];omega) (λi y hy'=>?_) q;rcases aJ i ys.length with c|c
 ·rw[aK c] at hy';obtain⟨S,e1,e2,e3⟩:=hy i y hy';refine⟨S,e1,e2,λj=>?_⟩;rw[e3];unfold Fi;rw[if_pos (by omega)]
 ·rw[aF c] at hy';obtain⟨S,e1,hS⟩:=hVs _ y hy';have hi:i-ys.length<Vs.length:=(af.mp hy').1;refine⟨S,e1,hS.z8 z' (by omega) (by omega),λj=>?_⟩;rw[hS.q z'.fm.pos j];unfold Fi;rw[if_neg (by omega)];congr 1;omega
theorem CM{g w:Nat->Rat}{h:Nat->Nat->Rat}{M:Nat}(n:Nat):rs n (λi=>g i*rs M (λj=>h i j*w j))=rs M (λj=>rs n (λi=>g i*h i j)*w j):=by
 rw[sM (f:=λi=>g i*rs M (λj=>h i j*w j)) (g:=λi=>rs M λj=>w j*(g i*h i j)) λi _=>by
  rw[← tY];exact sM λj _=>by grind]
 rw[zl];exact sM λj _=>by rw[tY];grind
theorem E2{R:List Int}{C:Int}{N:Nat}(f:Po.Fm R C)(h:Qp.q R C N≠0)(h0:∀ j,N<j->Qp.q R C j=0):R.length=N+1:=by
 rcases aJ N R.length with c|c
 ·rcases aJ (N+1) R.length with c'|c'
  ·exact absurd (h0 (R.length-1) (by omega)) (Qp.Jo f (by rintro rfl;simp at c))
  ·omega
 ·exact absurd (Qp.Av c) h
section
variable{P:List Int}{B:Int}{P':List Int}{B':Int}{m k a b L:Nat}
theorem IK{y:Nat->Rat}{f:Nat->Rat}:rs (a+1) (λi=>uq a y i*f i)=rs a (λi=>y i*f i)+f a:=by
 show rs a _+uq a y a*f a=_;rw[sM (g:=λi=>y i*f i) λi hi=>by unfold uq;rw[if_pos hi]];unfold uq;rw[if_neg (bc _),if_pos rfl];grind
theorem IJ{y:Nat->Rat}{f:Nat->Rat}:rs (b+1) (λi=>vq a b y i*f i)=rs b (λi=>y (a+i)*f (i+1)):=by
 rw[Eg,sM (g:=λi=>y (a+i)*f (i+1)) λi hi=>by
  unfold vq;rw[if_neg (eF i),if_pos (show i+1<=b from hi)];rfl]
 unfold vq;rw[if_pos rfl];grind
theorem HE{y:Nat->Rat}(w:∀ r∈ve P B P' B' a b L,Dt.rs (a+b) (λc=>qr r c*y c)=qf r.2.1){j:Nat}(hj:j<L+1):rs (a+1) (λi=>uq a y i*cq P B i j)=rs (b+1) (λi=>vq a b y i*cq P' B' i j):=by
 have e:=w _ (Gv hj);rw[H8,sM (g:=λc=>Fi P B P' B' a c j*y c) (λc hc=>by rw[H0 hc]),Bc,sM (n:=a) (g:=λc=>(-1)*(y c*cq P B c j)) (λc hc=>by unfold Fi;rw[if_pos hc];grind),tY,
  sM (n:=b) (g:=λi=>y (a+i)*cq P' B' (i+1) j) (λc hc=>by unfold Fi;rw[if_neg (by omega),show a+c-a+1=c+1 by omega];grind)] at e
 rw[IK,IJ,← e];grind
theorem HB(f:Po.Fm P B)(lP:P.length=m+1):cq P B a (a*m)≠0:=by
 unfold cq;rw[Pc.BM (d:=m) (λj hj=>Cv.sV (by omega)) a];have l:P.getD m 0≠0:=by
  rcases f.last with e|e
  ·rw[e] at lP;simp at lP
  ·rw[lP] at e;exact e
 have n1:((Cv.fn P m^a:Int):Rat)≠0:=Qp.tF (Int.pow_ne_zero l);have n2:((B^a:Int):Rat)≠0:=Qp.sO (cS f.pos);intro z;generalize ((Cv.fn P m^a:Int):Rat)=s at *;generalize ((B^a:Int):Rat)=t at *;grind
structure Ou (P:List Int)(B:Int)(P':List Int)(B':Int)(a b L:Nat)(U V:Pl):Prop where
 zU:Pc.Pz 200002 200002 U.1 U.2
 zV:Pc.Pz 200002 200002 V.1 V.2
 lU:U.1.length=a+1
 lV:V.1.length=b+1
 one:U.1.getD a 0=U.2
 nil:V.1.getD 0 0=0
 same:∀ x,Qp.E U.1 U.2 (Qp.E P B x)=Qp.E V.1 V.2 (Qp.E P' B' x)
 coef:∀ j,j<L+1->rs (a+1) (λi=>Qp.q U.1 U.2 i*cq P B i j)=rs (b+1) (λi=>Qp.q V.1 V.2 i*cq P' B' i j)
 vb:Qp.q V.1 V.2 b≠0
theorem B6{R:List Int}{C D0:Int}{t:Nat->Int}{n:Nat}(f:Po.Fm R C)(h0:D0≠0)(l0:Lt2 n D0)(lt:∀ j,Lt2 n (t j))(h:∀ j,Qp.q R C j=(t j:Rat) / (D0:Rat)):Pc.Pz n n R C:=by
 have key:∀{t:Nat->Int} {D0:Int},0<D0->Lt2 n D0->(∀ j,Lt2 n (t j))->(∀ j,Qp.q R C j=(t j:Rat) / (D0:Rat))->Pc.Pz n n R C:=λ{t D0} p l0 lt h=>Pc.Pz.of f p (λj=>(Qp.uc (aT f.pos) (aT p)).mp (h j)) lt l0;rcases eh h0 with c|c
 ·refine key (t:=λj => -(t j)) (D0:=-D0) (by omega) (by unfold Lt2 at *;rw[dS];exact l0) (λj=>by have:=lt j;unfold Lt2 at *;rw[dS];exact this) λj=>?_;rw[h j,eO,eO];have:=Qp.tF h0;grind
 ·exact key c l0 lt h
theorem FR{T:Nat->Int}{D0:Int}{U V:Pl}(fP:Po.Fm P B)(fP':Po.Fm P' B')(lP:P.length=m+1)(lP':P'.length=k+1)(h:Hi m k L a b)(h0:D0≠0)(l0:Lt2 100001 D0)(lT:∀ c,Lt2 100001 (T c))(t:NW a b U V T D0)
  (w:∀ r∈ve P B P' B' a b L,Dt.rs (a+b) (λc=>qr r c*((T c:Rat) / (D0:Rat)))=qf r.2.1):Ou P B P' B' a b L U V:=by
 obtain⟨fU,fV,qU,qV⟩:=t;have am:=h.am;have bk:=h.bk;have m1:=h.m1;have k1:=h.k1;have nD:=Qp.tF h0;have coef:∀ j,j<L+1->rs (a+1) (λi=>Qp.q U.1 U.2 i*cq P B i j)=rs (b+1) (λi=>Qp.q V.1 V.2 i*cq P' B' i j):=λj hj=>by
  rw[sM (g:=λi=>uq a (λc=>(T c:Rat) / (D0:Rat)) i*cq P B i j) (λi _=>by rw[qU]),sM (f:=λi=>Qp.q V.1 V.2 i*cq P' B' i j) (g:=λi=>vq a b (λc=>(T c:Rat) / (D0:Rat)) i*cq P' B' i j) (λi _=>by rw[qV])];exact HE w hj
 have ua:Qp.q U.1 U.2 a=1:=by rw[qU];unfold uq;rw[if_neg (bc _),if_pos rfl]
 have v0:Qp.q V.1 V.2 0=0:=by rw[qV];unfold vq;rw[if_pos rfl]
 have vb:Qp.q V.1 V.2 b≠0:=λz=>by
  have e:=coef L (by omega);have e1:rs (a+1) (λi=>Qp.q U.1 U.2 i*cq P B i L)=cq P B a L:=by
   show rs a _+Qp.q U.1 U.2 a*cq P B a L=_;rw[ua,sM (g:=λ_=>0) (λi hi=>by
    have:(i+1)*m<=a*m:=aI _ hi;rw[aS] at this;rw[BL (m:=m) (by omega) (by omega)];grind),ud]
   grind
  have e2:rs (b+1) (λi=>Qp.q V.1 V.2 i*cq P' B' i L)=0:=by
   show rs b _+Qp.q V.1 V.2 b*cq P' B' b L=_;rw[z,sM (g:=λ_=>0) (λi hi=>by
    have:(i+1)*k<=b*k:=aI _ hi;rw[aS] at this;rw[BL (m:=k) (by omega) (by omega)];grind),ud]
   grind
  rw[e1,e2,← am] at e;exact HB fP lP e
 have lU:=E2 fU (by rw[ua];decide) λj hj=>by rw[qU];unfold uq;rw[if_neg (by omega),if_neg (by omega)]
 have lV:=E2 fV vb λj hj=>by rw[qV];unfold vq;rw[if_neg (by omega),if_neg (by omega)]
 have one:(Lt2 200002 D0):=l0.mono (by omega);refine⟨?_,?_,lU,lV,?_,?_,λx=>?_,coef,vb⟩
 ·refine B6 (t:=λj=>if j<a then T j else if j=a then D0 else 0) fU h0 one (λj=>?_) λj=>?_
  ·show Lt2 _ (if j<a then T j else if j=a then D0 else 0);split
   ·exact (lT j).mono (by omega)
   ·split
    ·exact one
    ·exact wO _
  ·rw[qU];unfold uq;show _=((if j<a then T j else if j=a then D0 else 0:Int):Rat) / (D0:Rat);split
   ·rfl
   ·split
    ·grind
    ·show (0:Rat)=((0:Int):Rat) / (D0:Rat);grind
 ·refine B6 (t:=λj=>if j=0 then 0 else if j<=b then T (a+j-1) else 0) fV h0 one (λj=>?_) λj=>?_
  ·show Lt2 _ (if j=0 then 0 else if j<=b then T (a+j-1) else 0);split
   ·exact wO _
   ·split
    ·exact (lT _).mono (by omega)
    ·exact wO _
  ·rw[qV];unfold vq;show _=((if j=0 then 0 else if j<=b then T (a+j-1) else 0:Int):Rat) / (D0:Rat);split
   ·show (0:Rat)=((0:Int):Rat) / (D0:Rat);grind
   ·split
    ·rfl
    ·show (0:Rat)=((0:Int):Rat) / (D0:Rat);grind
 ·have e:((U.1.getD a 0:Int):Rat) / (U.2:Rat)=1:=ua;have nU:=Qp.sO fU.pos;have:((U.1.getD a 0:Int):Rat)=(U.2:Rat):=by grind
  exact cG.mp this
 ·have e:((V.1.getD 0 0:Int):Rat) / (V.2:Rat)=0:=v0;have nV:=Qp.sO fV.pos;have:((V.1.getD 0 0:Int):Rat)=((0:Int):Rat):=by
   show _=(0:Rat);grind
  exact cG.mp this
 ·rw[Mq (N:=a+1) (by omega),Mq (P:=V.1) (N:=b+1) (by omega)];rw[sM (g:=λi=>Qp.q U.1 U.2 i*rs (L+1) (λj=>cq P B i j*x^j)) (λi hi=>by
   have:i*m<=a*m:=aI _ (by omega);rw[Mr (m:=m) fP.pos (by omega) (by omega)]),
   sM (f:=λj=>Qp.q V.1 V.2 j*Qp.E P' B' x^j) (g:=λi=>Qp.q V.1 V.2 i*rs (L+1) (λj=>cq P' B' i j*x^j)) (λi hi=>by
   have:i*k<=b*k:=aI _ (by omega);rw[Mr (m:=k) fP'.pos (by omega) (by omega)])]
  rw[CM,CM];exact sM λj hj=>by rw[coef j hj]
structure We (P:List Int)(B:Int)(P':List Int)(B':Int)(a b L:Nat)(y:Nat->Rat):Prop where
 f0:∀ c,c<a->rs (L+1) (λi=>cq P B c i*y i)=0
 g0:∀ c,1<=c->c<=b->rs (L+1) (λi=>cq P' B' c i*y i)=0
 f1:rs (L+1) (λi=>cq P B a i*y i)=1
theorem HD(h:∀ c,c<a+b->Dt.rs (ve P B P' B' a b L).length (λi=>qr ((ve P B P' B' a b L).getD i r0) c*y i)=0)(h1:Dt.rs (ve P B P' B' a b L).length (λi=>qf ((ve P B P' B' a b L).getD i r0).2.1*y i)=1):We P B P' B' a b L y:=by
 rw[tZ] at h1;have h:∀ c,c<a+b->rs (L+1) (λi=>Fi P B P' B' a c i*y i)=0:=λc hc=>by
  have e:=h c hc;rw[tZ,sM (g:=λi=>Fi P B P' B' a c i*y i) (λi hi=>by rw[Eh hi,H0 hc])] at e;exact e
 refine⟨λc hc=>?_,λc c1 cb=>?_,?_⟩
 ·have e:=h c (by omega);rw[sM (g:=λi=>(-1)*(cq P B c i*y i)) (λi _=>by unfold Fi;rw[if_pos hc];grind),tY] at e;grind
 ·have e:=h (a+(c-1)) (by omega);rw[sM (g:=λi=>cq P' B' c i*y i) (λi _=>by unfold Fi;rw[if_neg (by omega),show a+(c-1)-a+1=c by omega])] at e;exact e
 ·rw[sM (g:=λi=>qf ((ve P B P' B' a b L).getD i r0).2.1*y i) (λi hi=>by rw[Eh hi,H8])];exact h1
def NX(P:List Int)(B:Int)(P':List Int)(B':Int)(a b L:Nat)(d:D):Prop:=(∃ U V,d = .tup [.str "outer",pq U,pq V]/\Ou P B P' B' a b L U V)\/∃(T:Nat->Int) (D0:Int),d = .tup [.str "none",tx (L+1) T D0]/\D0≠0/\Lt2 100001 D0/\(∀ c,Lt2 100001 (T c))/\We P B P' B' a b L λi=>(T i:Rat) / (D0:Rat)
theorem NI(fP:Po.Fm P B)(fP':Po.Fm P' B')(lP:P.length=m+1)(lP':P'.length=k+1)(h:Hi m k L a b)(c:KD P B P' B' a b L d):NX P B P' B' a b L d:=by
 obtain⟨T,D0,h0,l0,lT,⟨U,V,e,t,_,w⟩|⟨e,_,w1,w2⟩⟩:=c
 ·exact .inl ⟨U,V,e,FR fP fP' lP lP' h h0 l0 lT t w⟩
 ·exact .inr ⟨T,D0,e,h0,l0,lT,HD w1 w2⟩
end
def iu:SpB:=.of 2 (α:=List Int×Int×List Int×Int×Nat×Nat×Nat×Nat×Nat) (λ(P,B,P',B',m,k,L,a,b) ds=>ds=[pD P B,pD P' B']/\P.length=m+1/\P'.length=k+1/\Hi m k L a b) (λ(P,B,P',B',m,k,L,a,b) d=>d = .tup [.int (L:Nat),.int (a:Nat),.int (b:Nat)])
def j7:TSd:=(gr [] (gm (fZ (ga 4) (fZ (gg .FloorDiv (ga 4) (ga 2)) (fZ (gg .FloorDiv (ga 4) (ga 3)) gb)))))
def j8:TSd:=dSq (gk [] (gNm 4) (gg .FloorDiv (gg .Mult (ga 2) (ga 3)) (ge gN (fZ (ga 2) (fZ (ga 3) gb)))))
 j7
def qk:TSd:=dSq (jT [] 2 3 (gg .Sub (dB bLen bLen.mono (fZ (dIx (ga 0) (dC (.int 0))) gb)) (dC (.int 1))) (gg .Sub (dB bLen bLen.mono (fZ (dIx (ga 1) (dC (.int 0))) gb)) (dC (.int 1))))
 j8
theorem nF:Does 5 qk iu:=by
 rintro ds Q hn ⟨⟨P,B,P',B',m,k,L,a,b⟩,⟨rfl,lP,lP',h⟩,q⟩;dsimp only at lP lP' h q;have m1:=h.m1;have k1:=h.k1;have m6:=h.m6;have k6:=h.k6;have L12:=h.L12;have key:∀ z z':Int,z=m->z'=k->j8.run (s9 Q) [.val (pD P B),.val (pD P' B'),.val (.int z),.val (.int z'),.no]:=by
  rintro _ _ rfl rfl;have g0:0<Fr.cp (m:Int) (k:Int):=xl (by omega);have gl:Fr.cp (m:Int) (k:Int)<=m:=Int.le_of_dvd (by omega) (yo (m:Int) (k:Int)).1;refine⟨⟨21,21,tf (by omega) (by omega),tf (by omega) (by omega),by omega⟩,rfl,((m:Int),(k:Int)),rfl,?_⟩;rintro _ rfl;refine⟨⟨by show Fr.cp (m:Int) (k:Int)≠0;omega,21,tf (by show (0:Int)<=Fr.cp (m:Int) (k:Int);omega) (by show Fr.cp (m:Int) (k:Int)<_;omega),by omega⟩,?_⟩;show j7.run (s9 Q) [.val (pD P B),.val (pD P' B'),.val (.int m),.val (.int k),.val (.int (Int.fdiv ((m:Int)*(k:Int)) (Fr.cp (m:Int) (k:Int))))];rw[Cr m1 k1,h.eL];refine⟨⟨by omega,21,tf (by omega) (by omega),by omega⟩,⟨by omega,21,tf (by omega) (by omega),by omega⟩,tX (by show 3<=16777216;omega),q _ ?_⟩;show D.tup [.int (L:Nat),.int (Int.fdiv ((L:Nat):Int) (m:Int)),.int (Int.fdiv ((L:Nat):Int) (k:Int))]=_;rw[aU _ (by omega),← bP,h.ea,aU _ (by omega),← bP,h.eb]
 exact key _ _ (by rw[aa];omega) (by rw[aa];omega)
def gV:SpB:=.of 2 (α:=Int×Int×D×Rat×Nat×Nat×Nat×Nat) (λ(t,u,d2,r2,n1,b1,n2,b2) ds=>ds=[fD t u,d2]/\0<u/\Lt2 n1 t/\Lt2 b1 u/\FqD n2 b2 d2 r2/\b1+b2<=9000000/\n1+n2<=9000000)
 (λ(t,u,d2,r2,n1,b1,n2,b2) d=>FqD (n1+n2) (b1+b2) d ((t:Rat) / (u:Rat)*r2))
theorem kh:Does 2 n8 gV:=by
 rintro ds Q hn ⟨⟨t1,u1,d2,r2,n1,b1,n2,b2⟩,⟨rfl,p1,lt1,lu1,⟨t2,u2,rfl,p2,g2,lt2,lu2,rfl⟩,hb,h1⟩,q⟩;dsimp only at p1 lt1 lu1 hb h1 q;have p12:=aP p1 p2;refine⟨⟨_,_,lt1,lt2,by omega⟩,⟨_,_,lu1,lu2,by omega⟩,rfl,(t1*t2,u1*u2),⟨rfl,aT p12,(lu1.mul lu2).mono hb⟩,?_⟩;rintro _ rfl;have f:=FqD.of (t:=t1*t2) (u:=u1*u2) p12 (lt1.mul lt2) (lu1.mul lu2);refine q _ ?_;have h3:(u1:Rat)≠0:=Qp.sO p1;have h4:(u2:Rat)≠0:=Qp.sO p2;have e:((t1*t2:Int):Rat) / ((u1*u2:Int):Rat)=(t1:Rat) / (u1:Rat)*((t2:Rat) / (u2:Rat)):=by
  rw[ri,ri];grind
 rw[← e];exact f
def pw:TSd:=(gr [] (ga 2))
def pA:TSd:=dSq (ia [] (oP (dIx (ga 0) (dC (.int 0))) (ga 1)) (gTp [3,4])
 (gk [] (gNm 2) (ge ix (fZ (ga 2) (fZ (ge gV (fZ (gm (fZ (ga 3) (fZ (dIx (ga 0) (dC (.int 1))) gb))) (fZ (ga 4) gb))) gb)))))
 pw
def qJ:TSd:=dSq (gk [] (gNm 2) (gm (fZ (dC (.int 0)) (fZ (dC (.int 1)) gb))))
 pA
theorem yg:∀{A B:List Int},A.map D.int=B.map D.int->A=B
 | [],[],_=>rfl
 | x::A,y::B,h=>by
  injection h with h1 h2;injection h1 with h1;rw[h1,yg h2]
theorem EM(P:List Int)(B:Int):D.dps [.tup (P.map D.int),.int B]<=60:=bq (Jz P B) (by decide)
theorem Cj(q:∀ k:Bool,(k=true↔A=A'/\B=B')->Q (.bl k)):oCmp .Eq (pD A B) (pD A' B') Q :=
 ⟨EL _ _,EL _ _,EM _ _,λk hk=>q k (hk.trans ⟨λe=>by
  injection e with e1 e2;injection e2 with e2 _;injection e1 with e1;injection e2 with e2;exact⟨yg e1,e2⟩,fun⟨a,b⟩=>by rw[a,b]⟩)⟩
def jZ:TSd:=(gr [] (gy .Eq (ge gw (fZ (ga 2) (fZ (ga 0) gb))) (ge gw (fZ (ga 3) (fZ (ga 1) gb)))))
def iq:TSd:=dSq (dIf [] (jS (gu (gy .NotEq (dB bLen bLen.mono (fZ (dIx (ga 2) (dC (.int 0))) gb)) (gg .Add (ga 5) (dC (.int 1))))) (jS (gu (gy .NotEq (dB bLen bLen.mono (fZ (dIx (ga 3) (dC (.int 0))) gb)) (gg .Add (ga 6) (dC (.int 1))))) (jS (gu (gy .NotEq (dIx (dIx (ga 2) (dC (.int 0))) (nc (dC (.int 1)))) (dIx (ga 2) (dC (.int 1))))) (gu (gy .NotEq (dIx (dIx (ga 3) (dC (.int 0))) (dC (.int 0))) (dC (.int 0)))))))
 (gr [] (dC (.bl false)))
 gz)
 jZ
def kP:TSd:=dSq (gk [] (gTp [4,5,6]) (ge iu (fZ (ga 0) (fZ (ga 1) gb))))
 iq
theorem Km{ts:List Int}{a:Nat}(h:ts.length=a+1):y9 (ts.map D.int) (-1)=some (.int (ts.getD a 0)):=by
 unfold y9 zI;rw[if_neg (by decide),aa,h,if_pos (by omega)];show (ts.map D.int)[(((a+1:Nat):Int) + -1).toNat]? = _;rw[show (((a+1:Nat):Int) + -1).toNat=a by omega];exact uF (by omega)
theorem LW(h:FqD n b d r)(h':FqD n' b' d' r')(q:∀ k:Bool,(k=true↔r=r')->Q (.bl (!k))):oEq true d d' Q:=by
 obtain⟨t,u,rfl,h1,h2,h3,h4,h5⟩:=h;obtain⟨t',u',rfl,h1',h2',h3',h4',h5'⟩:=h';refine⟨rfl,rfl,(show (0:Nat)<=60 by decide),λk hk=>q k (hk.trans ⟨λe=>?_,λe=>?_⟩)⟩
 ·cases e;rw[h5,h5']
 ·have f1:FqD n b (fD t u) r:=⟨t,u,rfl,h1,h2,h3,h4,h5⟩;have f2:FqD n' b' (fD t' u') r:=⟨t',u',rfl,h1',h2',h3',h4',by rw[e,h5']⟩;have:=(FqD.same f1 f2).1;unfold fD at this;injection this
section
variable{P:List Int}{B:Int}{P':List Int}{B':Int}{m k a b L:Nat}{Q:D->Prop}{T:Nat->Int}{D0:Int}
theorem Bq(z:Pc.Pz 133 133 P B)(lP:P.length=m+1)(m6:m<=6)(i6:i<=6)(q:∀ R:Pl,IsPw P B i R->Q (pq R)):[pD P B,.int (i:Int)].length=gU.n/\gU.run [pD P B,.int (i:Int)] Q:=by
 have w:i*P.length<=6*7:=aY i6 (by omega);refine⟨rfl,(P,B,i,133,133),⟨rfl,z,by show i*P.length<=400;omega,by show i<=400;omega,by show P.length<=400;omega,by show 133*i+1+133<=9000000;omega,by show (133+9)*i+1+133<=9000000;omega⟩,?_⟩;rintro _ ⟨R,C,rfl,hw,zR,_⟩;exact q (R,C) ⟨zR.fm,hw⟩
end
def MJ(d:D):Prop:=∃ m k:Nat,d = .tup [.int (m:Nat),.int (k:Nat)]/\Dgo m k
def jN:SpB:=.of 1 (α:=Unit) (λ_ ds=>ds=[.fl]) (λ_ d=>MJ d)
def mQ:TSd:=(gr [] (dIx (ga 1) (ge gj (fZ (ga 0) (fZ (dC (.int 20)) gb)))))
def mR:TSd:=dSq (gk [] (gNm 1) (gg .Add (ga 1) (gv (fZ (gm (fZ (dC (.int 4)) (fZ (dC (.int 4)) gb))) (fZ (gm (fZ (dC (.int 6)) (fZ (dC (.int 6)) gb))) (fZ (gm (fZ (dC (.int 1)) (fZ (dC (.int 3)) gb))) (fZ (gm (fZ (dC (.int 5)) (fZ (dC (.int 5)) gb))) (fZ (gm (fZ (dC (.int 2)) (fZ (dC (.int 3)) gb))) (fZ (gm (fZ (dC (.int 3)) (fZ (dC (.int 2)) gb))) (fZ (gm (fZ (dC (.int 1)) (fZ (dC (.int 4)) gb))) gb))))))))))
 mQ
def mS:TSd:=dSq (gk [] (gNm 1) (gv (fZ (gm (fZ (dC (.int 2)) (fZ (dC (.int 3)) gb))) (fZ (gm (fZ (dC (.int 3)) (fZ (dC (.int 2)) gb))) (fZ (gm (fZ (dC (.int 2)) (fZ (dC (.int 4)) gb))) (fZ (gm (fZ (dC (.int 4)) (fZ (dC (.int 2)) gb))) (fZ (gm (fZ (dC (.int 3)) (fZ (dC (.int 6)) gb))) (fZ (gm (fZ (dC (.int 6)) (fZ (dC (.int 3)) gb))) (fZ (gm (fZ (dC (.int 2)) (fZ (dC (.int 6)) gb))) (fZ (gm (fZ (dC (.int 6)) (fZ (dC (.int 2)) gb))) (fZ (gm (fZ (dC (.int 1)) (fZ (dC (.int 6)) gb))) (fZ (gm (fZ (dC (.int 5)) (fZ (dC (.int 1)) gb))) (fZ (gm (fZ (dC (.int 1)) (fZ (dC (.int 1)) gb))) (fZ (gm (fZ (dC (.int 2)) (fZ (dC (.int 2)) gb))) (fZ (gm (fZ (dC (.int 3)) (fZ (dC (.int 3)) gb))) gb)))))))))))))))
 mR
def oi:TSd:=dSq (dIf [] (gu (gy .Eq (ge gj (fZ (ga 0) (fZ (dC (.int 8)) gb))) (dC (.int 0))))
 (gr [] (dIx (gv (fZ (gm (fZ (dC (.int 3)) (fZ (dC (.int 4)) gb))) (fZ (gm (fZ (dC (.int 4)) (fZ (dC (.int 3)) gb))) (fZ (gm (fZ (dC (.int 2)) (fZ (dC (.int 5)) gb))) (fZ (gm (fZ (dC (.int 5)) (fZ (dC (.int 2)) gb))) (fZ (gm (fZ (dC (.int 4)) (fZ (dC (.int 6)) gb))) (fZ (gm (fZ (dC (.int 6)) (fZ (dC (.int 4)) gb))) gb))))))) (ge gj (fZ (ga 0) (fZ (dC (.int 6)) gb)))))
 gz)
 mS
theorem xy(h:1<=m/\m<=6/\1<=k/\k<=6/\Nat.lcm m k<=12):MJ (.tup [.int (m:Nat),.int (k:Nat)]):=⟨m,k,rfl,h⟩
theorem tG{p:D->Prop}{x:D}{l:List D}(h:p x)(hl:∀ y∈l,p y):∀ y∈x::l,p y:=λy hy=>by
 rcases ao.mp hy with e|e
 ·rw[e];exact h
 ·exact hl y e
theorem Im{p:D->Prop}:∀ y∈([]:List D),p y:=λy hy=>absurd hy aO
theorem NG:∀ y∈([.tup [.int 3,.int 4],.tup [.int 4,.int 3],.tup [.int 2,.int 5],.tup [.int 5,.int 2],.tup [.int 4,.int 6],.tup [.int 6,.int 4]]:List D),MJ y:=tG (xy (m:=3) (k:=4) (by decide +kernel)) (tG (xy (m:=4) (k:=3) (by decide +kernel)) (tG (xy (m:=2) (k:=5) (by decide +kernel)) (tG (xy (m:=5) (k:=2) (by decide +kernel)) (tG (xy (m:=4) (k:=6) (by decide +kernel)) (tG (xy (m:=6) (k:=4) (by decide +kernel)) Im)))))
theorem L3:∀ y∈([.tup [.int 2,.int 3],.tup [.int 3,.int 2],.tup [.int 2,.int 4],.tup [.int 4,.int 2],.tup [.int 3,.int 6],.tup [.int 6,.int 3],.tup [.int 2,.int 6],.tup [.int 6,.int 2],.tup [.int 1,.int 6],.tup [.int 5,.int 1],.tup [.int 1,.int 1],.tup [.int 2,.int 2],.tup [.int 3,.int 3],.tup [.int 4,.int 4],.tup [.int 6,.int 6],.tup [.int 1,.int 3],.tup [.int 5,.int 5],.tup [.int 2,.int 3],.tup [.int 3,.int 2],.tup [.int 1,.int 4]]:List D),MJ y:=tG (xy (m:=2) (k:=3) (by decide +kernel)) (tG (xy (m:=3) (k:=2) (by decide +kernel)) (tG (xy (m:=2) (k:=4) (by decide +kernel)) (tG (xy (m:=4) (k:=2) (by decide +kernel)) (tG (xy (m:=3) (k:=6) (by decide +kernel)) (tG (xy (m:=6) (k:=3) (by decide +kernel)) (tG (xy (m:=2) (k:=6) (by decide +kernel)) (tG (xy (m:=6) (k:=2) (by decide +kernel)) (tG (xy (m:=1) (k:=6) (by decide +kernel)) (tG (xy (m:=5) (k:=1) (by decide +kernel)) (tG (xy (m:=1) (k:=1) (by decide +kernel)) (tG (xy (m:=2) (k:=2) (by decide +kernel)) (tG (xy (m:=3) (k:=3) (by decide +kernel)) (tG (xy (m:=4) (k:=4) (by decide +kernel)) (tG (xy (m:=6) (k:=6) (by decide +kernel)) (tG (xy (m:=1) (k:=3) (by decide +kernel)) (tG (xy (m:=5) (k:=5) (by decide +kernel)) (tG (xy (m:=2) (k:=3) (by decide +kernel)) (tG (xy (m:=3) (k:=2) (by decide +kernel)) (tG (xy (m:=1) (k:=4) (by decide +kernel)) Im)))))))))))))))))))
theorem mf:Does 2 oi jN:=by
 rintro ds Q hn ⟨_,rfl,q⟩;refine⟨rfl,8,⟨rfl,by decide,xv (by decide)⟩,?_⟩;rintro _ ⟨j,rfl,j0,j1⟩;refine vf (p:=j=0) (λ_=>?_) (λ_=>?_)
 ·refine⟨tE,tE,tE,tE,tE,tE,tX (by show 6<=16777216;omega),rfl,6,⟨rfl,by decide,xv (by decide)⟩,?_⟩;rintro _ ⟨i,rfl,i0,i1⟩;exact wB i0 i1 λx hx=>q x (NG x hx)
 ·refine⟨tE,tE,tE,tE,tE,tE,tE,tE,tE,tE,tE,tE,tE,tX (by show 13<=16777216;omega),?_⟩;refine⟨tE,tE,tE,tE,tE,tE,tE,tX (by show 7<=16777216;omega),tX (by show 20<=16777216;omega),?_⟩;refine⟨rfl,20,⟨rfl,by decide,xv (by decide)⟩,?_⟩;rintro _ ⟨i,rfl,i0,i1⟩;exact wB i0 i1 λx hx=>q x (L3 x hx)
def Pr2(N m k:Nat)(d:D):Prop:=∃ P B Q C,d = .tup [pD P B,pD Q C]/\Pc.Pz N N P B/\P.length=m+1/\Pc.Pz N N Q C/\Q.length=k+1
def i9:SpB:=.of 3 (α:=Unit) (λ_ _=>False) (λ_ _=>True)
theorem zC{l:List Int}{b:Int}{n:Nat}{Q:D->Prop}(b0:0<b)(lb:b<8)(ll:l.length=n+1)(top:l.getD n 0≠0)(small:∀ k,Lt2 3 (l.getD k 0))(n12:n<=12)(q:∀ P B,Pc.Pz 3 3 P B->P.length=n+1->(∀ k,P.getD k 0*b=l.getD k 0*B)->Q (pD P B)):[D.lst (l.map .int),.int b].length=gh.n/\gh.run [.lst (l.map .int),.int b] Q:=by
 refine⟨rfl,(l,b),⟨.inl rfl,b0,xv (by show b.natAbs<1000;omega),by show l.length<=1000;omega⟩,?_⟩;rintro _ ⟨P,B,rfl,fm,hw,hle⟩;have hw:∀ k,P.getD k 0*b=l.getD k 0*B:=hw;have hle:P.length<=l.length:=hle;refine q P B (Pc.Pz.of fm b0 hw small (by unfold Lt2;show b.natAbs<8;omega)) ?_ hw;rcases aJ n P.length with c|c
 ·omega
 ·have e:=hw n;rw[sP c,aX] at e;rcases bD.mp e.symm with y|y
  ·exact absurd y top
  ·exact absurd y (aT fm.pos)
theorem No:Lt2 3 1:=by unfold Lt2;decide
theorem wa(n k:Nat):Lt2 3 ((List.replicate n (0:Int)++[1]).getD k 0):=by
 rw[wu];split
 ·exact No
 ·exact wO _
theorem zb(n:Nat):(List.replicate n (0:Int)++[1]).length=n+1:=by rw[ai,aQ];rfl
theorem Ol{te tb:TEd}{ss:SS}{n:Nat}{b:Int}{Q:D->Prop}(ht:∀ K:D->Prop,K (.int (n:Int))->te.run ss K)(hb:∀ K:D->Prop,K (.int b)->tb.run ss K)(b0:0<b)(lb:b<8)(hn:n<=12)(q:∀ P B,Pc.Pz 3 3 P B->P.length=n+1->Q (pD P B)) :
  (ge gh (fZ (gg .Add (gg .Mult (gv (fZ (dC (.int 0)) gb)) te) (gv (fZ (dC (.int 1)) gb))) (fZ tb gb))).run ss Q:=by
 refine⟨vT,ht _ ⟨by omega,by omega,?_,vT,?_,hb _ ?_⟩⟩
 ·show 1*(n:Int).toNat<=sizeLine;exact tX (by omega)
 ·show ((List.replicate (n:Int).toNat [D.int 0]).flatten).length+1<=sizeLine;rw[aB,tI,aa,aQ];exact tX (by omega)
 ·have e:(List.replicate (n:Int).toNat [D.int 0]).flatten++[D.int 1]=(List.replicate n (0:Int)++[1]).map D.int:=by
   rw[aB,tI,aN];rfl
  show [D.lst ((List.replicate (n:Int).toNat [D.int 0]).flatten++[D.int 1]),.int b].length=_/\gh.run [D.lst ((List.replicate (n:Int).toNat [D.int 0]).flatten++[D.int 1]),.int b] Q;rw[e];exact zC b0 lb (zb n) (by rw[wu,if_pos rfl];decide) (wa n) hn λP B z l _=>q P B z l
theorem xp{te:TEd}{ss:SS}{n:Nat}{Q:D->Prop}(ht:∀ K:D->Prop,K (.int (n:Int))->te.run ss K)(hn:n<=12)(q:∀ P B,Pc.Pz 3 3 P B->P.length=n+1->Q (pD P B)) :
  (ge gh (fZ (gg .Add (gg .Mult (gv (fZ (dC (.int 0)) gb)) te) (gv (fZ (dC (.int 1)) gb))) (fZ (dC (.int 1)) gb))).run ss Q:=Ol ht (λ_ k=>k) (by decide) (by decide) hn q
theorem yb{A W:List Int}{a V:Int}{n s e b e' b':Nat}{Q:D->Prop}(zA:Pc.Pz e b A a)(lA:A.length=n+1)(zW:Pc.Pz e' b' W V)(lW:W.length=s+1)(s1:1<=s)(n6:n<=6)(s6:s<=6)(h1:e<=3000)(h2:b<=3000)(h3:e'<=3000)(h4:b'<=3000)
  (q:∀ R C,Pc.Pz (e+(e'+b'+10)*(n+1)+1) (b+(b'*(n+1)+1)) R C->R.length=n*s+1->Q (pD R C)):[pD A a,pD W V].length=gw.n/\gw.run [pD A a,pD W V] Q:=by
 have lp:A.length*W.length<=7*7:=aY (by omega) (by omega);have c1:b'*A.length<=3000*7:=aY h4 (by omega);have c2:(e'+b'+10)*(A.length+1)<=6010*8:=aY (by omega) (by omega);refine⟨rfl,(A,a,W,V,e,b,e',b'),⟨rfl,zA,zW,by show b+b+b'*A.length<=8900000;omega,by show e+(e'+b'+10)*(A.length+1)<=4000000;omega,by show A.length*W.length<=190;omega,by show A.length<=190;omega,by show W.length<=190;omega⟩,?_⟩;rintro _ ⟨R,C,rfl,o⟩;have o:Pc.Of A a W V R C:=o;have z:=o.size zA zW (by omega);rw[lA] at z;exact q R C z (Pc.Of.deg_eq zA.fm.pos zW.fm.pos o lA lW s1 (vZ zA.fm lA) (vZ zW.fm lW))
theorem xJ(m k:Nat):Int.fmod (m:Int) (k:Int)=((m%k:Nat):Int):=by
 rw[dg _ (by omega),← Int.natCast_emod]
theorem vF(m k:Nat):Int.fdiv (m:Int) (k:Int)=((m / k:Nat):Int):=by
 rw[aU _ (by omega),← bP]
def ja:SpB:=.of 3 (α:=Nat×Nat) (λ(m,k) ds=>ds=[.fl,.int m,.int k]/\Dgo m k/\m%k=0) (λ(m,k) d=>Pr2 600 m k d)
def jx:SpB:=.of 3 (α:=Nat×Nat) (λ(m,k) ds=>ds=[.fl,.int m,.int k]/\Dgo m k) (λ(m,k) d=>Pr2 600 m k d)
def kQ:TSd:=(gr [] (gm (fZ (ge gh (fZ (gg .Add (gg .Mult (gv (fZ (dC (.int 0)) gb)) (ga 1)) (gv (fZ (dC (.int 1)) gb))) (fZ (dC (.int 1)) gb))) (fZ (ge gh (fZ (gg .Add (gg .Mult (gv (fZ (dC (.int 0)) gb)) (ga 2)) (gv (fZ (dC (.int 1)) gb))) (fZ (dC (.int 1)) gb))) gb))))
def kR:TSd:=dSq (dIf [] (gu (gy .Eq (gg .Mod (ga 2) (ga 1)) (dC (.int 0))))
 (dSq (gk [] (gTp [3,4]) (ge i9 (fZ (ga 0) (fZ (ga 2) (fZ (ga 1) gb)))))
 (gr [] (gm (fZ (ga 4) (fZ (ga 3) gb)))))
 gz)
 kQ
def mT:TSd:=dSq (dIf [] (gu (gy .Eq (gg .Mod (ga 1) (ga 2)) (dC (.int 0))))
 (dSq (gk [] (gNm 3) (ge gC (fZ (ga 0) (fZ (ga 2) (fZ (dC (.int 3)) gb)))))
 (gr [] (gm (fZ (ge gw (fZ (ge gC (fZ (ga 0) (fZ (gg .FloorDiv (ga 1) (ga 2)) (fZ (dC (.int 2)) gb)))) (fZ (ga 3) gb))) (fZ (ga 3) gb)))))
 gz)
 kR
def mh:TSd:=(gr [] (gm (fZ (ge gh (fZ (gg .Add (gg .Mult (gv (fZ (dC (.int 0)) gb)) (ga 1)) (gv (fZ (dC (.int 1)) gb))) (fZ (dC (.int 1)) gb))) (fZ (ge gh (fZ (gg .Add (gg .Mult (gv (fZ (dC (.int 0)) gb)) (ga 2)) (gv (fZ (dC (.int 1)) gb))) (fZ (dC (.int 1)) gb))) gb))))
def mj:TSd:=dSq (dIf [] (gu (gy .Eq (gg .Mod (ga 2) (ga 1)) (dC (.int 0))))
 (dSq (gk [] (gTp [3,4]) (ge ja (fZ (ga 0) (fZ (ga 2) (fZ (ga 1) gb)))))
 (gr [] (gm (fZ (ga 4) (fZ (ga 3) gb)))))
 gz)
 mh
def nG:TSd:=dSq (dIf [] (gu (gy .Eq (gg .Mod (ga 1) (ga 2)) (dC (.int 0))))
 (dSq (gk [] (gNm 3) (ge gC (fZ (ga 0) (fZ (ga 2) (fZ (dC (.int 3)) gb)))))
 (gr [] (gm (fZ (ge gw (fZ (ge gC (fZ (ga 0) (fZ (gg .FloorDiv (ga 1) (ga 2)) (fZ (dC (.int 2)) gb)))) (fZ (ga 3) gb))) (fZ (ga 3) gb)))))
 gz)
 mj
def sv:TSd:=(dSq (gk [] (gNm 3) (ge gC (fZ (ga 0) (fZ (ga 2) (fZ (dC (.int 3)) gb)))))
 (gr [] (gm (fZ (ge gw (fZ (ge gC (fZ (ga 0) (fZ (gg .FloorDiv (ga 1) (ga 2)) (fZ (dC (.int 2)) gb)))) (fZ (ga 3) gb))) (fZ (ga 3) gb)))))
theorem Ly{m k:Nat}{Q:D->Prop}(h:Dgo m k)(hm:m%k=0)(q:∀ d,Pr2 600 m k d->Q d):sv.run (s9 Q) [.val .fl,.val (.int (m:Nat)),.val (.int (k:Nat)),.no,.no]:=by
 obtain⟨m1,m6,k1,k6,_⟩:=h;have mk:m / k*k=m:=Nat.div_mul_cancel (Nat.dvd_of_mod_eq_zero hm);have d6:m / k<=m:=Nat.div_le_self _ _;refine⟨rfl,(k,3,2),⟨rfl,by show k<=100;omega,by decide,by unfold Lt2;decide,by decide⟩,?_⟩;rintro _ ⟨G,U,rfl,zG,lG⟩;have zG:Pc.Pz 2 3 G U:=zG;have lG:G.length=k+1:=lG;refine⟨⟨by omega,21,tf (by omega) (by omega),by omega⟩,rfl,(m / k,2,2),⟨?_,by show m / k<=100;omega,by decide,by unfold Lt2;decide,by decide⟩,?_⟩
 ·show [D.fl,.int (Int.fdiv (m:Int) (k:Int)),.int 2]=_;rw[vF]
 rintro _ ⟨A,a,rfl,zA,lA⟩;have zA:Pc.Pz 2 3 A a:=zA;have lA:A.length=m / k+1:=lA;refine yb zA lA zG lG k1 (by omega) k6 (by omega) (by omega) (by omega) (by omega) λR C zR lR=>⟨tE,q _ ⟨R,C,G,U,rfl,zR.mono (by omega) (by omega),by rw[lR,mk],zG.mono (by omega) (by omega),lG⟩⟩
theorem ki:Does 5 mT ja:=by
 rintro ds Q hn ⟨⟨m,k⟩,⟨rfl,h,hm⟩,q⟩;dsimp only at h hm q;have k1:=h.2.2.1;have k6:=h.2.2.2.1;have e:Int.fmod (m:Int) (k:Int)=0:=by rw[xJ,hm];rfl
 refine⟨by omega,?_⟩;exact vf (p:=Int.fmod (m:Int) (k:Int)=0) (λ_=>Ly h hm q) (λc=>absurd e c)
theorem kS:Does 5 nG jx:=by
 rintro ds Q hn ⟨⟨m,k⟩,⟨rfl,h⟩,q⟩;dsimp only at h q;have h':Dgo k m:=⟨h.2.2.1,h.2.2.2.1,h.1,h.2.1,by rw[Nat.lcm_comm];exact h.2.2.2.2⟩;obtain⟨m1,m6,k1,k6,_⟩:=id h;refine⟨by omega,?_⟩;refine vf (p:=Int.fmod (m:Int) (k:Int)=0) (λc=>Ly h (by rw[xJ] at c;omega) q) (λ_=>?_);refine⟨by omega,?_⟩;refine vf (p:=Int.fmod (k:Int) (m:Int)=0) (λc=>?_) (λ_=>?_)
 ·refine⟨rfl,(k,m),⟨rfl,h',by rw[xJ] at c;omega⟩,?_⟩;rintro _ ⟨P,B,R,C,rfl,zP,lP,zR,lR⟩;exact⟨rfl,tE,q _ ⟨R,C,P,B,rfl,zR,lR,zP,lP⟩⟩
 ·refine xp (te:=ga 1) (ss:=[.val .fl,.val (.int (m:Nat)),.val (.int (k:Nat)),.no,.no]) (λK k=>k) (n:=m) (by omega) λP B zP lP=>?_;refine xp (te:=ga 2) (ss:=[.val .fl,.val (.int (m:Nat)),.val (.int (k:Nat)),.no,.no]) (λK k=>k) (n:=k) (by omega) λR C zR lR=>?_;exact⟨tE,q _ ⟨P,B,R,C,rfl,zP.mono (by omega) (by omega),lP,zR.mono (by omega) (by omega),lR⟩⟩
theorem C5{A P R:List Int}{α B C:Int}{a b:Nat}(fA:Po.Fm A α)(fP:Po.Fm P B)(f:Po.Fm R C)(lA:A.length=a+1)(lP:P.length=b+1)(h:∀ k,R.getD k 0*(α*B)=Cv.cv (Cv.fn A) (Cv.fn P) k*C):R.length=a+b+1:=by
 have p:=aP fA.pos fP.pos;have l1:=Pc.ub f p h (N:=a+b+1) λk hk=>Cv.v6 (a:=a+1) (b:=b+1) (λj hj=>Cv.sV (by omega)) (λj hj=>Cv.sV (by omega)) (by omega);rcases aJ (a+b) R.length with c|c
 ·omega
 ·have e:=h (a+b);rw[sP c,aX,Pc.FF (λj hj=>Cv.sV (by omega)) (λj hj=>Cv.sV (by omega))] at e;rcases bD.mp e.symm with y|y
  ·rcases bD.mp y with y|y
   ·exact absurd y (vZ fA lA)
   ·exact absurd y (vZ fP lP)
  ·exact absurd y (aT f.pos)
theorem NF:∀ m∈List.range 7,∀ k∈List.range 7,1<=m->1<=k->Nat.lcm m k<=12->(1<=Nat.gcd m k/\1<=m / Nat.gcd m k/\1<=k / Nat.gcd m k/\Nat.lcm (k / Nat.gcd m k) (m / Nat.gcd m k)<=12/\m / Nat.gcd m k*Nat.gcd m k=m/\k / Nat.gcd m k*Nat.gcd m k=k/\m / Nat.gcd m k<=6/\k / Nat.gcd m k<=6/\Nat.gcd m k<=6/\(k<=m->k / Nat.gcd m k<=m / Nat.gcd m k)):=by decide +kernel
theorem Pr2.mono{N N' m k:Nat}{d:D}(h:Pr2 N m k d)(l:N<=N'):Pr2 N' m k d:=by
 obtain⟨P,B,Q,C,e,z,l1,z',l2⟩:=h;exact⟨P,B,Q,C,e,z.mono l l,l1,z'.mono l l,l2⟩
def kT:SpB:=.of 3 (α:=Nat×Nat) (λ(m,k) ds=>ds=[.fl,.int m,.int k]/\Dgo m k/\k<=m) (λ(m,k) d=>Pr2 250 m k d)
def mF:SpB:=.of 3 (α:=Nat×Nat) (λ(m,k) ds=>ds=[.fl,.int m,.int k]/\Dgo m k) (λ(m,k) d=>Pr2 600 m k d)
def oj:TSd:=(gr [] (gm (fZ (ge gw (fZ (ga 5) (fZ (ga 7) gb))) (fZ (ge gw (fZ (ga 4) (fZ (ga 7) gb))) gb))))
def om:TSd:=dSq (gk [] (gNm 7) (ge gh (fZ (gg .Add (gg .Mult (gv (fZ (dC (.int 0)) gb)) (ga 3)) (gv (fZ (dC (.int 1)) gb))) (fZ (dC (.int 1)) gb))))
 oj
def j9:TSd:=dSq (dIf [] (gu (gy .Lt (ga 1) (ga 2)))
 (gk [] (gTp [4,5]) (ge i9 (fZ (ga 0) (fZ (ga 2) (fZ (ga 1) gb)))))
 (dSq (gk [] (gNm 5) (ge gh (fZ (gg .Add (gg .Mult (gv (fZ (dC (.int 0)) gb)) (gg .Mod (ga 1) (ga 2))) (gv (fZ (dC (.int 1)) gb))) (fZ (dC (.int 1)) gb))))
 (dSq (ia [] (jB (gg .FloorDiv (ga 1) (ga 2))) (gNm 6)
 (gk [] (gNm 5) (ge gG (fZ (ga 5) (fZ (ge gh (fZ (gg .Add (gg .Add (gv (fZ (ge gO (fZ (ga 0) (fZ (dC (.int 3)) gb))) gb)) (gg .Mult (gv (fZ (dC (.int 0)) gb)) (gg .Sub (ga 2) (dC (.int 1))))) (gv (fZ (dC (.int 1)) gb))) (fZ (dC (.int 1)) gb))) gb)))))
 (gk [] (gNm 4) (ge gh (fZ (gg .Add (gg .Mult (gv (fZ (dC (.int 0)) gb)) (ga 2)) (gv (fZ (dC (.int 1)) gb))) (fZ (dC (.int 1)) gb)))))))
 om
def on:TSd:=dSq (jT [] 1 2 (gg .FloorDiv (ga 1) (ga 3)) (gg .FloorDiv (ga 2) (ga 3)))
 j9
def qm:TSd:=dSq (gk [] (gNm 3) (ge gN (fZ (ga 1) (fZ (ga 2) gb))))
 on
def pC:TSd:=(gr [] (gm (fZ (ge gw (fZ (ga 5) (fZ (ga 7) gb))) (fZ (ge gw (fZ (ga 4) (fZ (ga 7) gb))) gb))))
def jm:TSd:=dSq (gk [] (gNm 7) (ge gh (fZ (gg .Add (gg .Mult (gv (fZ (dC (.int 0)) gb)) (ga 3)) (gv (fZ (dC (.int 1)) gb))) (fZ (dC (.int 1)) gb))))
 pC
def kU:TSd:=dSq (dIf [] (gu (gy .Lt (ga 1) (ga 2)))
 (gk [] (gTp [4,5]) (ge kT (fZ (ga 0) (fZ (ga 2) (fZ (ga 1) gb)))))
 (dSq (gk [] (gNm 5) (ge gh (fZ (gg .Add (gg .Mult (gv (fZ (dC (.int 0)) gb)) (gg .Mod (ga 1) (ga 2))) (gv (fZ (dC (.int 1)) gb))) (fZ (dC (.int 1)) gb))))
 (dSq (ia [] (jB (gg .FloorDiv (ga 1) (ga 2))) (gNm 6)
 (gk [] (gNm 5) (ge gG (fZ (ga 5) (fZ (ge gh (fZ (gg .Add (gg .Add (gv (fZ (ge gO (fZ (ga 0) (fZ (dC (.int 3)) gb))) gb)) (gg .Mult (gv (fZ (dC (.int 0)) gb)) (gg .Sub (ga 2) (dC (.int 1))))) (gv (fZ (dC (.int 1)) gb))) (fZ (dC (.int 1)) gb))) gb)))))
 (gk [] (gNm 4) (ge gh (fZ (gg .Add (gg .Mult (gv (fZ (dC (.int 0)) gb)) (ga 2)) (gv (fZ (dC (.int 1)) gb))) (fZ (dC (.int 1)) gb)))))))
 jm
def pE:TSd:=dSq (jT [] 1 2 (gg .FloorDiv (ga 1) (ga 3)) (gg .FloorDiv (ga 2) (ga 3)))
 kU
def qK:TSd:=dSq (gk [] (gNm 3) (ge gN (fZ (ga 1) (fZ (ga 2) gb))))
 pE
def sx:TSd:=(gk [] (gNm 4) (ge gh (fZ (gg .Add (gg .Mult (gv (fZ (dC (.int 0)) gb)) (ga 2)) (gv (fZ (dC (.int 1)) gb))) (fZ (dC (.int 1)) gb))))
def rS:TSd:=dSq (ia [] (jB (gg .FloorDiv (ga 1) (ga 2))) (gNm 6)
 (gk [] (gNm 5) (ge gG (fZ (ga 5) (fZ (ge gh (fZ (gg .Add (gg .Add (gv (fZ (ge gO (fZ (ga 0) (fZ (dC (.int 3)) gb))) gb)) (gg .Mult (gv (fZ (dC (.int 0)) gb)) (gg .Sub (ga 2) (dC (.int 1))))) (gv (fZ (dC (.int 1)) gb))) (fZ (dC (.int 1)) gb))) gb)))))
 sx
def sy:TSd:=dSq (gk [] (gNm 5) (ge gh (fZ (gg .Add (gg .Mult (gv (fZ (dC (.int 0)) gb)) (gg .Mod (ga 1) (ga 2))) (gv (fZ (dC (.int 1)) gb))) (fZ (dC (.int 1)) gb))))
 rS
def sA:TSd:=(gk [] (gNm 5) (ge gG (fZ (ga 5) (fZ (ge gh (fZ (gg .Add (gg .Add (gv (fZ (ge gO (fZ (ga 0) (fZ (dC (.int 3)) gb))) gb)) (gg .Mult (gv (fZ (dC (.int 0)) gb)) (gg .Sub (ga 2) (dC (.int 1))))) (gv (fZ (dC (.int 1)) gb))) (fZ (dC (.int 1)) gb))) gb))))
theorem NL{m k g:Nat}{F:List Int}{V:Int}{o4 o6:SD}{E:EndsD}{l n b:Nat}(k1:1<=k)(k6:k<=6)(z:Pc.Pz n b F V)(lF:F.length=l+1)(l50:l<=50)(n9:n<=500)(b9:b<=500)(hE:∀ R C,Pc.Pz (n+12) (b+3) R C->R.length=l+k+1->E.nx [.val .fl,.val (.int (m:Nat)),.val (.int (k:Nat)),.val (.int (g:Nat)),o4,.val (pD R C),o6,.no]) :
  sA.run E [.val .fl,.val (.int (m:Nat)),.val (.int (k:Nat)),.val (.int (g:Nat)),o4,.val (pD F V),o6,.no]:=by
 refine⟨rfl,3,⟨rfl,by decide,by unfold Lt2;exact xv (m:=3) (by decide)⟩,?_⟩;rintro _ ⟨z0,rfl,z1,z2⟩;have z1 : -(3:Int)<=z0:=z1;have z2:z0<=3:=z2;have ek:((k:Int)-1).toNat=k-1:=by omega
 refine⟨vT,vT,by omega,by omega,?_,?_,vT,?_,?_⟩
 ·show 1*((k:Int)-1).toNat<=sizeLine;exact tX (by omega)
 ·show 1+((List.replicate ((k:Int)-1).toNat [D.int 0]).flatten).length<=sizeLine;rw[tI,aa,aQ];exact tX (by omega)
 ·show ([D.int z0]++(List.replicate ((k:Int)-1).toNat [D.int 0]).flatten).length+1<=sizeLine;rw[tI,ai,aa,aQ];exact tX (by show 1+((k:Int)-1).toNat+1<=_;omega)
 have e:[D.int z0]++(List.replicate ((k:Int)-1).toNat [D.int 0]).flatten++[D.int 1]=(z0::(List.replicate (k-1) (0:Int)++[1])).map D.int:=by
  rw[ek,tI,cN,aN];rfl
 have ll:(z0::(List.replicate (k-1) (0:Int)++[1])).length=k+1:=by rw[aE,zb];omega
 have at':∀ j,(z0::(List.replicate (k-1) (0:Int)++[1])).getD (j+1) 0=(List.replicate (k-1) (0:Int)++[1]).getD j 0:=λj=>rfl;show [D.lst ([D.int z0]++(List.replicate ((k:Int)-1).toNat [D.int 0]).flatten++[D.int 1]),.int 1].length=_/\gh.run [D.lst ([D.int z0]++(List.replicate ((k:Int)-1).toNat [D.int 0]).flatten++[D.int 1]),.int 1] _;rw[e];refine zC (n:=k) (by decide) (by decide) ll ?_ ?_ (by omega) λX x zX lX _=>?_
 ·obtain⟨j,rfl⟩:∃ j,k=j+1:=⟨k-1,by omega⟩;rw[at',wu,if_pos (by omega)];decide
 ·intro j;cases j with
  | zero=>show Lt2 3 z0;unfold Lt2;show z0.natAbs<8;omega
  | succ j=>rw[at'];exact wa _ _
 refine⟨rfl,(F,V,X,x,n,b,3,3),⟨rfl,z,zX,by show b+3<=9000000;omega,by show n+3<=9000000;omega,by show F.length<=450;omega,by show X.length<=450;omega⟩,?_⟩;rintro _ ⟨R,C,rfl,fR,hR⟩;have hR:∀ j,R.getD j 0*(V*x)=Cv.cv (Cv.fn F) (Cv.fn X) j*C:=hR;refine hE R C (Pc.Pz.of fR (aP z.fm.pos zX.fm.pos) hR (λj=>(AM z.tops zX.tops (by omega) (by omega) j).mono (by omega)) (z.bot.mul zX.bot)) (C5 z.fm zX.fm fR lF lX hR)
theorem CQ(m6:m<=6)(k1:1<=k)(km:k<=m)(hE:∀ F V G U o6,Pc.Pz 100 100 F V->F.length=m+1->Pc.Pz 3 3 G U->G.length=k+1->E.nx [.val .fl,.val (.int (m:Nat)),.val (.int (k:Nat)),.val (.int (g:Nat)),.val (pD G U),.val (pD F V),o6,.no]) :
  sy.run E [.val .fl,.val (.int (m:Nat)),.val (.int (k:Nat)),.val (.int (g:Nat)),.no,.no,.no,.no]:=by
 have hd:m%k+m / k*k=m:=by rw[cE];exact Nat.mod_add_div m k
 have d6:m / k<=m:=Nat.div_le_self _ _;have r6:m%k<=m:=Nat.mod_le _ _;refine xp (te:=gg .Mod (ga 1) (ga 2)) (ss:=[.val .fl,.val (.int (m:Nat)),.val (.int (k:Nat)),.val (.int (g:Nat)),.no,.no,.no,.no]) (n:=m%k) (λK q=>⟨by omega,by show K (.int (Int.fmod (m:Int) (k:Int)));rw[xJ];exact q⟩) (by omega) λF V zF lF=>?_;show rS.run E [.val .fl,.val (.int (m:Nat)),.val (.int (k:Nat)),.val (.int (g:Nat)),.no,.val (pD F V),.no,.no];have ef:(Int.fdiv (m:Int) (k:Int)).toNat=m / k:=by rw[vF,aB]
 refine⟨⟨by omega,21,tf (by omega) (by omega),by omega⟩,?_,?_,λi s=>∃ F V o6,s=[.val .fl,.val (.int (m:Nat)),.val (.int (k:Nat)),.val (.int (g:Nat)),.no,.val (pD F V),o6,.no]/\Pc.Pz (3+12*i) (3+3*i) F V/\F.length=m%k+i*k+1,⟨F,V,.no,rfl,zF.mono (by omega) (by omega),by rw[lF];omega⟩,?_,?_⟩
 ·show -(2^62)<=Int.fdiv (m:Int) (k:Int);rw[vF];omega
 ·show Int.fdiv (m:Int) (k:Int)<2^62;rw[vF];omega
 ·rintro i d _ hd' ⟨F,V,o6,rfl,zF,lF⟩;obtain⟨hi,rfl⟩:=ug hd';have hi:i<m / k:=by rw[← ef];exact hi
  have ik:i*k<=m / k*k:=aI _ (by omega);exact NL k1 (by omega) zF lF (by omega) (by omega) (by omega) λR C zR lR=>⟨R,C,_,rfl,zR.mono (by omega) (by omega),by rw[lR,aS];omega⟩
 ·rintro _ ⟨F,V,o6,rfl,zF,lF⟩;have eu:(uO 0 (Int.fdiv (m:Int) (k:Int)).toNat).length=m / k:=by rw[td,ef]
  have zF:Pc.Pz (3+12*(uO 0 (Int.fdiv (m:Int) (k:Int)).toNat).length) (3+3*(uO 0 (Int.fdiv (m:Int) (k:Int)).toNat).length) F V:=zF;have lF:F.length=m%k+(uO 0 (Int.fdiv (m:Int) (k:Int)).toNat).length*k+1:=lF;rw[eu] at zF lF;refine xp (te:=ga 2) (ss:=[.val .fl,.val (.int (m:Nat)),.val (.int (k:Nat)),.val (.int (g:Nat)),.no,.val (pD F V),o6,.no]) (n:=k) (λK q=>q) (by omega) λG U zG lG=>?_;exact hE F V G U o6 (zF.mono (by omega) (by omega)) (by omega) zG lG
theorem Aa{m k g:Nat}{F G:List Int}{V U:Int}{o6:SD}{N:Nat}{Q:D->Prop}(m6:m<=6)(k6:k<=6)(g1:1<=g)(g6:g<=6)(zF:Pc.Pz N N F V)(lF:F.length=m+1)(zG:Pc.Pz N N G U)(lG:G.length=k+1)(hN:N<=460)(q:∀ d,Pr2 (N+150) (m*g) (k*g) d->Q d) :
  jm.run (s9 Q) [.val .fl,.val (.int (m:Nat)),.val (.int (k:Nat)),.val (.int (g:Nat)),.val (pD G U),.val (pD F V),o6,.no]:=by
 refine xp (te:=ga 3) (ss:=[.val .fl,.val (.int (m:Nat)),.val (.int (k:Nat)),.val (.int (g:Nat)),.val (pD G U),.val (pD F V),o6,.no]) (n:=g) (λK q=>q) (by omega) λX x zX lX=>?_;refine yb zF lF zX lX g1 m6 g6 (by omega) (by omega) (by omega) (by omega) λR C zR lR=>?_;refine yb zG lG zX lX g1 k6 g6 (by omega) (by omega) (by omega) (by omega) λR' C' zR' lR'=>?_;exact⟨tE,q _ ⟨R,C,R',C',rfl,zR.mono (by omega) (by omega),lR,zR'.mono (by omega) (by omega),lR'⟩⟩
section
variable{m k:Nat}{Q:D->Prop}
theorem CP(h:Dgo m k)(t:TSd)(hq:∀ m' k' g:Nat,Nat.gcd m k=g->m / g=m'->k / g=k'->t.run (s9 Q) [.val .fl,.val (.int (m':Nat)),.val (.int (k':Nat)),.val (.int (g:Nat)),.no,.no,.no,.no]) :
  (dSq (gk [] (gNm 3) (ge gN (fZ (ga 1) (fZ (ga 2) gb)))) (dSq (jT [] 1 2 (gg .FloorDiv (ga 1) (ga 3)) (gg .FloorDiv (ga 2) (ga 3))) t)).run (s9 Q) [.val .fl,.val (.int (m:Nat)),.val (.int (k:Nat)),.no,.no,.no,.no,.no]:=by
 obtain⟨m1,m6,k1,k6,lk⟩:=h;obtain⟨g1,a1,b1,_,_,_,a6,b6,g6,_⟩:=NF m (bf.mpr (by omega)) k (bf.mpr (by omega)) m1 k1 lk;refine⟨rfl,((m:Int),(k:Int)),rfl,?_⟩;rintro _ rfl;have eg:Fr.cp (m:Int) (k:Int)=((Nat.gcd m k:Nat):Int):=rfl;have w:=hq _ _ _ rfl rfl rfl;rw[← vF,← vF,← eg] at w;have nz:t5 (m:Int) (Fr.cp (m:Int) (k:Int))/\t5 (k:Int) (Fr.cp (m:Int) (k:Int)):=by
  rw[eg];exact⟨⟨by omega,21,tf (by omega) (by omega),by omega⟩,⟨by omega,21,tf (by omega) (by omega),by omega⟩⟩
 exact⟨nz.1,nz.2,w⟩
end
theorem nH:Does 8 qm kT:=by
 rintro ds Q hn ⟨⟨m,k⟩,⟨rfl,h,km⟩,q⟩;dsimp only at h km q;obtain⟨g1,a1,b1,_,ea,eb,a6,b6,g6,le⟩:=NF m (bf.mpr (by have:=h.2.1;omega)) k (bf.mpr (by have:=h.2.2.2.1;omega)) h.1 h.2.2.1 h.2.2.2.2;have le:=le km;refine CP h j9 λm' k' g e1 e2 e3=>?_;rw[e1] at g1 ea eb g6 a1 b1 a6 b6 le;rw[e2] at ea a1 a6 le;rw[e3] at eb b1 b6 le;refine vf (p:=(m':Int)<(k':Int)) (λc=>by omega) (λ_=>?_);refine CQ a6 b1 le λF V G U o6 zF lF zG lG=>?_;refine Aa a6 b6 g1 g6 zF lF (zG.mono (by omega) (by omega)) lG (by omega) λd hd=>q d ?_;rw[ea,eb] at hd;exact hd
theorem oo:Does 8 qK mF:=by
 rintro ds Q hn ⟨⟨m,k⟩,⟨rfl,h⟩,q⟩;dsimp only at h q;obtain⟨g1,a1,b1,l12,ea,eb,a6,b6,g6,_⟩:=NF m (bf.mpr (by have:=h.2.1;omega)) k (bf.mpr (by have:=h.2.2.2.1;omega)) h.1 h.2.2.1 h.2.2.2.2;refine CP h kU λm' k' g e1 e2 e3=>?_;rw[e1] at g1 ea eb g6 a1 b1 a6 b6 l12;rw[e2] at ea a1 a6 l12;rw[e3] at eb b1 b6 l12;refine vf (p:=(m':Int)<(k':Int)) (λc=>?_) (λc=>?_)
 ·refine⟨rfl,(k',m'),⟨rfl,⟨b1,b6,a1,a6,l12⟩,by show m'<=k';omega⟩,?_⟩;rintro _ ⟨G,U,F,V,rfl,zG,lG,zF,lF⟩;refine⟨rfl,?_⟩;show jm.run (s9 Q) [.val .fl,.val (.int (m':Nat)),.val (.int (k':Nat)),.val (.int (g:Nat)),.val (pD G U),.val (pD F V),.no,.no];refine Aa a6 b6 g1 g6 zF lF zG lG (by omega) λd hd=>q d ?_;rw[ea,eb] at hd;exact hd.mono (by omega)
 ·refine CQ a6 b1 (by omega) λF V G U o6 zF lF zG lG=>?_;refine Aa a6 b6 g1 g6 zF lF (zG.mono (by omega) (by omega)) lG (by omega) λd hd=>q d ?_;rw[ea,eb] at hd;exact hd.mono (by omega)
def Od(d:D):Prop:=∃ P B R C m k,d = .tup [pD P B,pD R C]/\Po.Fm P B/\P.length=m+1/\Po.Fm R C/\R.length=k+1/\Dgo m k
def iP:SpB:=.of 1 (α:=Unit) (λ_ ds=>ds=[.fl]) (λ_ d=>Od d)
def kj:TSd:=(gr [] (gm (fZ (ga 4) (fZ (ga 5) gb))))
def iy:TSd:=dSq (dIf [] (gu (gy .Eq (ge gj (fZ (ga 0) (fZ (dC (.int 4)) gb))) (dC (.int 0))))
 (gk [] (gNm 4) (ge gE (fZ (ga 4) (fZ (ge gh (fZ (gg .Add (gg .Mult (gv (fZ (dC (.int 0)) gb)) (ge gj (fZ (ga 0) (fZ (gg .Sub (dB bLen bLen.mono (fZ (dIx (ga 4) (dC (.int 0))) gb)) (dC (.int 1))) gb)))) (gv (fZ (dC (.int 1)) gb))) (fZ (gg .Add (dC (.int 1)) (ge gj (fZ (ga 0) (fZ (dC (.int 3)) gb)))) gb))) gb))))
 gz)
 kj
def ko:TSd:=dSq (gk [] (gNm 5) (ge gw (fZ (ge gw (fZ (ge gA (fZ (ga 0) (fZ (dC (.int 3)) gb))) (fZ (ga 5) gb))) (fZ (ga 7) gb))))
 iy
def kq:TSd:=dSq (gk [] (gNm 4) (ge gw (fZ (ge gw (fZ (ge gA (fZ (ga 0) (fZ (dC (.int 3)) gb))) (fZ (ga 4) gb))) (fZ (ga 7) gb))))
 ko
def iz:TSd:=dSq (gk [] (gNm 7) (ge gA (fZ (ga 0) (fZ (dC (.int 2)) gb))))
 kq
def iA:TSd:=dSq (dIf [] (gu (gy .Eq (ga 3) (dC (.int 1))))
 (jT [] 4 5 (ge gh (fZ (gg .Add (gg .Mult (gv (fZ (dC (.int 0)) gb)) (ga 1)) (gv (fZ (dC (.int 1)) gb))) (fZ (dC (.int 1)) gb))) (ge gh (fZ (gg .Add (gg .Mult (gv (fZ (dC (.int 0)) gb)) (ga 2)) (gv (fZ (dC (.int 1)) gb))) (fZ (dC (.int 1)) gb))))
 (dIf [] (gu (gy .Eq (ga 3) (dC (.int 2))))
 (dSq (gk [] (gNm 6) (ge gK (fZ (ga 0) (fZ (dC (.int 3)) gb))))
 (jT [] 4 5 (ge ii (fZ (ga 1) (fZ (ga 6) gb))) (ge ii (fZ (ga 2) (fZ (ga 6) gb)))))
 (dIf [] (gu (gy .Lt (ga 3) (dC (.int 5))))
 (gk [] (gTp [4,5]) (ge mF (fZ (ga 0) (fZ (ga 1) (fZ (ga 2) gb)))))
 (gk [] (gTp [4,5]) (ge jx (fZ (ga 0) (fZ (ga 1) (fZ (ga 2) gb))))))))
 iz
def iB:TSd:=dSq (dIf [] (gu (gy .Eq (ga 3) (dC (.int 0))))
 (gr [] (gm (fZ (ge gC (fZ (ga 0) (fZ (ga 1) (fZ (dC (.int 4)) gb)))) (fZ (ge gC (fZ (ga 0) (fZ (ga 2) (fZ (dC (.int 4)) gb)))) gb))))
 gz)
 iA
def kr:TSd:=dSq (gk [] (gNm 3) (ge gj (fZ (ga 0) (fZ (dC (.int 6)) gb))))
 iB
def mn:TSd:=dSq (gk [] (gTp [1,2]) (ge jN (fZ (ga 0) gb)))
 kr
theorem xD(r:Rat):∀ n,Qp.tc r (n+1) (n+1)=1/\∀ k,n+1<k->Qp.tc r (n+1) k=0
 | 0=>⟨by show (if 1=1 then (1:Rat) else 0)=1;rw[if_pos rfl],λk hk=>by show (if k=1 then (1:Rat) else 0)=0;rw[if_neg (by omega)]⟩
 | 1=>by
  obtain⟨h1,h2⟩:=xD r 0;have z:∀ k,1<=k->Qp.tc r 0 k=0:=λk hk=>by show (if k=0 then (2:Rat) else 0)=0;rw[if_neg (by omega)]
  refine⟨?_,λk hk=>?_⟩
  ·rw[Qp.tc.two,if_neg (by omega),z 2 (by omega),show 0+1+1-1=0+1 from rfl,h1];grind
  ·rw[Qp.tc.two,if_neg (by omega),z k (by omega),h2 (k-1) (by omega)];grind
 | n+2=>by
  obtain⟨h1,h2⟩:=xD r (n+1);obtain⟨h3,h4⟩:=xD r n;refine⟨?_,λk hk=>?_⟩
  ·rw[Qp.tc.two,if_neg (by omega),h4 (n+2+1) (by omega),show n+2+1-1=n+1+1 from rfl,h1];grind
  ·rw[Qp.tc.two,if_neg (by omega),h4 k (by omega),h2 (k-1) (by omega)];grind
theorem Tk.len(h:Tk r n P B)(n1:1<=n):P.length=n+1:=by
 obtain⟨j,rfl⟩:∃ j,n=j+1:=⟨n-1,by omega⟩;obtain⟨h1,h2⟩:=xD r j;exact E2 h.1 (by rw[h.2,h1];decide) λk hk=>by rw[h.2,h2 k hk]
section
variable{m k:Nat}{Q:D->Prop}{form:Int}
def sB:TSd:=(dIf [] (gu (gy .Eq (ge gj (fZ (ga 0) (fZ (dC (.int 4)) gb))) (dC (.int 0))))
 (gk [] (gNm 4) (ge gE (fZ (ga 4) (fZ (ge gh (fZ (gg .Add (gg .Mult (gv (fZ (dC (.int 0)) gb)) (ge gj (fZ (ga 0) (fZ (gg .Sub (dB bLen bLen.mono (fZ (dIx (ga 4) (dC (.int 0))) gb)) (dC (.int 1))) gb)))) (gv (fZ (dC (.int 1)) gb))) (fZ (gg .Add (dC (.int 1)) (ge gj (fZ (ga 0) (fZ (dC (.int 3)) gb)))) gb))) gb))))
 gz)
theorem Nn{F G:List Int}{V U:Int}{o6 o7:SD}{E:EndsD}(m1:1<=m)(m6:m<=6)(zF:Pc.Pz 3000 3000 F V)(lF:F.length=m+1)(hE:∀ F V,Po.Fm F V->F.length=m+1->E.nx [.val .fl,.val (.int (m:Nat)),.val (.int (k:Nat)),.val (.int form),.val (pD F V),.val (pD G U),o6,o7]) :
  sB.run E [.val .fl,.val (.int (m:Nat)),.val (.int (k:Nat)),.val (.int form),.val (pD F V),.val (pD G U),o6,o7]:=by
 refine⟨rfl,4,⟨rfl,by decide,xv (by decide)⟩,?_⟩;rintro _ ⟨j,rfl,j0,j1⟩;refine vf (p:=j=0) (λ_=>?_) (λ_=>hE F V zF.fm lF);have el:(((F.map D.int).length:Nat):Int)-1=(m:Int):=by rw[aa];omega
 refine⟨vT,rfl,(((F.map D.int).length:Nat):Int)-1,⟨rfl,by rw[el];omega,xv (by rw[el];omega)⟩,?_⟩;rintro _ ⟨i,rfl,i0,i1⟩;have i1:i<(((F.map D.int).length:Nat):Int)-1:=i1;rw[el] at i1;obtain⟨n,rfl⟩:=bz i0;refine⟨by omega,by omega,?_,vT,?_,rfl,3,⟨rfl,by decide,xv (by decide)⟩,?_⟩
 ·show 1*(n:Int).toNat<=sizeLine;exact tX (by omega)
 ·show ((List.replicate (n:Int).toNat [D.int 0]).flatten).length+1<=sizeLine;rw[aB,tI,aa,aQ];exact tX (by omega)
 rintro _ ⟨b,rfl,b0,b1⟩;have b0:(0:Int)<=b:=b0;have b1:b<3:=b1;have e:(List.replicate (n:Int).toNat [D.int 0]).flatten++[D.int 1]=(List.replicate n (0:Int)++[1]).map D.int:=by
  rw[aB,tI,aN];rfl
 show [D.lst ((List.replicate (n:Int).toNat [D.int 0]).flatten++[D.int 1]),.int (1+b)].length=_/\gh.run [D.lst ((List.replicate (n:Int).toNat [D.int 0]).flatten++[D.int 1]),.int (1+b)] _;rw[e];refine zC (by omega) (by omega) (zb n) (by rw[wu,if_pos rfl];decide) (wa n) (by omega) λX x zX lX _=>?_;refine⟨rfl,(F,V,X,x,3000,3000,3,3),⟨rfl,zF,zX,by decide,by decide,by show F.length<=900;omega,by show X.length<=900;omega⟩,?_⟩;rintro _ ⟨R,C,rfl,fR,hR⟩;have hR:∀ k,R.getD k 0*(V*x)=(F.getD k 0*x+X.getD k 0*V)*C:=hR;have l1:R.length<=m+1:=Pc.ub fR (aP zF.fm.pos zX.fm.pos) hR λk hk=>by
  rw[sP (fs:=F) (by omega),sP (fs:=X) (by omega)];simp
 refine hE R C fR ?_;rcases aJ m R.length with c|c
 ·omega
 ·have e:=hR m;rw[sP c,sP (fs:=X) (by omega),aX,aX,bS] at e;rcases bD.mp e.symm with y|y
  ·rcases bD.mp y with y|y
   ·exact absurd y (vZ zF.fm lF)
   ·exact absurd y (aT zX.fm.pos)
  ·exact absurd y (aT fR.pos)
theorem Ib{F W:List Int}{V w:Int}{n:Nat}{Q:D->Prop}(n1:1<=n)(n6:n<=6)(zF:Pc.Pz 600 600 F V)(lF:F.length=n+1)(zW:Pc.Pz 8 4 W w)(lW:W.length=2)(q:∀ R C,Pc.Pz 3000 3000 R C->R.length=n+1->Q (pD R C)) :
  [D.fl,.int 3].length=gA.n/\gA.run [.fl,.int 3] λd=>[d,pD F V].length=gw.n/\gw.run [d,pD F V] λd=>[d,pD W w].length=gw.n/\gw.run [d,pD W w] Q:=by
 refine⟨rfl,(3,2),⟨rfl,by decide,by unfold Lt2;decide,by decide,by decide⟩,?_⟩;rintro _ ⟨S,s,rfl,zS,lS,_⟩;have zS:Pc.Pz 8 4 S s:=zS;refine yb zS (n:=1) lS zF lF n1 (by omega) n6 (by omega) (by omega) (by omega) (by omega) λR C zR lR=>?_;rw[Nat.one_mul] at lR;refine yb zR lR zW (s:=1) lW (by omega) n6 (by omega) (by omega) (by omega) (by omega) (by omega) λR' C' zR' lR'=>?_;rw[eI] at lR';exact q R' C' (zR'.mono (by omega) (by omega)) lR'
theorem GT{F G:List Int}{V U:Int}{o6:SD}(h:Dgo m k)(zF:Pc.Pz 600 600 F V)(lF:F.length=m+1)(zG:Pc.Pz 600 600 G U)(lG:G.length=k+1)(q:∀ d,Od d->Q d) :
  iz.run (s9 Q) [.val .fl,.val (.int (m:Nat)),.val (.int (k:Nat)),.val (.int form),.val (pD F V),.val (pD G U),o6,.no]:=by
 obtain⟨m1,m6,k1,k6,lk⟩:=id h;refine⟨rfl,(2,2),⟨rfl,by decide,by unfold Lt2;decide,by decide,by decide⟩,?_⟩;rintro _ ⟨W,w,rfl,zW,lW,_⟩;have zW:Pc.Pz 8 4 W w:=zW;refine Ib m1 m6 zF lF zW lW λF1 V1 zF1 lF1=>?_;refine Ib k1 k6 zG lG zW lW λG1 U1 zG1 lG1=>?_;show iy.run (s9 Q) [.val .fl,.val (.int (m:Nat)),.val (.int (k:Nat)),.val (.int form),.val (pD F1 V1),.val (pD G1 U1),o6,.val (pD W w)];refine dSq.cut (λs=>∃ F V,s=[.val .fl,.val (.int (m:Nat)),.val (.int (k:Nat)),.val (.int form),.val (pD F V),.val (pD G1 U1),o6,.val (pD W w)]/\Po.Fm F V/\F.length=m+1) ?_ ?_
 ·exact Nn m1 m6 zF1 lF1 λF V f l=>⟨F,V,rfl,f,l⟩
 ·rintro _ ⟨F2,V2,rfl,f2,l2⟩;exact⟨tE,q _ ⟨F2,V2,G1,U1,m,k,rfl,f2,l2,zG1.fm,lG1,h⟩⟩
end
theorem j3:Does 8 mn iP:=by
 rintro ds Q hn ⟨_,rfl,q⟩;refine⟨rfl,(),rfl,?_⟩;rintro _ ⟨m,k,rfl,h⟩;refine⟨rfl,rfl,6,⟨rfl,by decide,xv (by decide)⟩,?_⟩;rintro _ ⟨form,rfl,f0,f1⟩;obtain⟨m1,m6,k1,k6,lk⟩:=id h;show iB.run (s9 Q) [.val .fl,.val (.int (m:Nat)),.val (.int (k:Nat)),.val (.int form),.no,.no,.no,.no];refine vf (p:=form=0) (λ_=>?_) (λ_=>?_)
 ·refine⟨rfl,(m,4,3),⟨rfl,by show m<=100;omega,by decide,by unfold Lt2;decide,by decide⟩,?_⟩;rintro _ ⟨P,B,rfl,zP,lP⟩;refine⟨rfl,(k,4,3),⟨rfl,by show k<=100;omega,by decide,by unfold Lt2;decide,by decide⟩,?_⟩;rintro _ ⟨R,C,rfl,zR,lR⟩;exact⟨tE,q _ ⟨P,B,R,C,m,k,rfl,zP.fm,lP,zR.fm,lR,h⟩⟩
 show iA.run (s9 Q) [.val .fl,.val (.int (m:Nat)),.val (.int (k:Nat)),.val (.int form),.no,.no,.no,.no];refine vf (p:=form=1) (λ_=>?_) (λ_=>?_)
 ·refine xp (te:=ga 1) (ss:=[.val .fl,.val (.int (m:Nat)),.val (.int (k:Nat)),.val (.int form),.no,.no,.no,.no]) (λK q=>q) (n:=m) (by omega) λP B zP lP=>?_;refine xp (te:=ga 2) (ss:=[.val .fl,.val (.int (m:Nat)),.val (.int (k:Nat)),.val (.int form),.no,.no,.no,.no]) (λK q=>q) (n:=k) (by omega) λR C zR lR=>?_;exact GT h (zP.mono (by omega) (by omega)) lP (zR.mono (by omega) (by omega)) lR q
 refine vf (p:=form=2) (λ_=>?_) (λ_=>?_)
 ·refine⟨rfl,(3,2),⟨rfl,by decide,by unfold Lt2;decide,by decide,by decide⟩,?_⟩;rintro d ⟨r,hr⟩;have hr:FqD 2 2 d r:=hr;refine⟨rfl,(m,d,r,2),⟨rfl,hr,by show 2<=21;omega,m1,by show m<=12;omega⟩,?_⟩;rintro _ ⟨P,B,rfl,tP⟩;refine⟨rfl,(k,d,r,2),⟨rfl,hr,by show 2<=21;omega,k1,by show k<=12;omega⟩,?_⟩;rintro _ ⟨R,C,rfl,tR⟩;have tP:Tk r m P B:=tP;have tR:Tk r k R C:=tR;exact GT h ((tP.szs hr (by omega) (by omega)).1.mono (by omega) (by omega)) (tP.len m1) ((tR.szs hr (by omega) (by omega)).1.mono (by omega) (by omega)) (tR.len k1) q
 refine vf (p:=form<5) (λ_=>?_) (λ_=>?_)
 ·refine⟨rfl,(m,k),⟨rfl,h⟩,?_⟩;rintro _ ⟨P,B,R,C,rfl,zP,lP,zR,lR⟩;exact⟨rfl,GT h zP lP zR lR q⟩
 ·refine⟨rfl,(m,k),⟨rfl,h⟩,?_⟩;rintro _ ⟨P,B,R,C,rfl,zP,lP,zR,lR⟩;exact⟨rfl,GT h zP lP zR lR q⟩
abbrev Gi:EndsD:=⟨λ_=>False,λd=>d = .bl true,λ_=>False,λ_=>False⟩
section
variable{P R:List Int}{B C:Int}{m k L a b:Nat}
structure K58 (P:List Int)(B:Int)(R:List Int)(C:Int)(m k L a b:Nat):Prop where
 z:Pc.Pz 133 133 P B
 z':Pc.Pz 133 133 R C
 l:P.length=m+1
 l':R.length=k+1
 h:Hi m k L a b
theorem K58.swap(h:K58 P B R C m k L a b):K58 R C P B k m L b a:=⟨h.z',h.z,h.l',h.l,h.h.swap⟩
theorem K58.r(h:K58 P B R C m k L a b)(c:KD P B R C a b L d):NX P B R C a b L d:=NI h.z.fm h.z'.fm h.l h.l' h.h c
theorem K58.co(h:K58 P B R C m k L a b)(q:∀ d,KD P B R C a b L d->Q d):[pD P B,pD R C].length=gZ.n/\gZ.run [pD P B,pD R C] Q:=⟨rfl,(P,B,R,C,m,k,L,a,b),⟨rfl,h.z,h.z',h.l,h.l',h.h⟩,q⟩
end
end Dp
namespace Dp
open PySem L2
variable{P:Program}{w:World}{K:Frag}{mg:Str->Option Value}{base:Heap}
theorem KI(k:Nat):FnOk P w K mg base CV k f fd ps (AW K i9.n i9.run) :=
 ⟨λvs H Q E ⟨_,_,_,_,_,_,_,_,_,_,h,_⟩=>h.elim,λA outer s H args us vs Q E _ _ _ _ ⟨_,_,_,_,_,_,_,_,_,_,h,_⟩=>h.elim⟩
end Dp
namespace Dp
open PySem L2 Dt Ch
def Mn(P:List Int)(B:Int)(P':List Int)(B':Int)(a b:Nat)(U V:Pl):Prop:=U.1.length=a+1/\V.1.length=b+1/\U.1.getD a 0=U.2/\V.1.getD 0 0=0/\∀ x,Qp.E U.1 U.2 (Qp.E P B x)=Qp.E V.1 V.2 (Qp.E P' B' x)
theorem u7{p:Prop}{Q:D->Prop}(q:∀ c:Bool,(c=true↔p)->Q (.bl c))(h:¬ p):Q (.bl false):=q false ⟨λe=>(by cases e),λe=>(h e).elim⟩
theorem Lf(f:Po.Fm U C):Qp.q U C a=1↔U.getD a 0=C:=by
 have n:=Qp.sO f.pos;show ((U.getD a 0:Int):Rat) / (C:Rat)=1↔_;constructor
 ·intro e;have:((U.getD a 0:Int):Rat)=(C:Rat):=by grind
  exact cG.mp this
 ·intro e;rw[e];grind
theorem Lg(f:Po.Fm U C):Qp.q U C a=0↔U.getD a 0=0:=by
 have n:=Qp.sO f.pos;show ((U.getD a 0:Int):Rat) / (C:Rat)=0↔_;constructor
 ·intro e;have:((U.getD a 0:Int):Rat)=((0:Int):Rat):=by show _=(0:Rat);grind
  exact cG.mp this
 ·intro e;rw[e];show (0:Rat) / _=0;grind
def iC:SpB:=.of 4 (α:=List Int×Int×List Int×Int×Pl×Pl×Nat×Nat×Nat×Nat×Nat) (λ(P,B,P',B',U,V,m,k,L,a,b) ds=>ds=[pD P B,pD P' B',pq U,pq V]/\Pc.Pz 133 133 P B/\Pc.Pz 133 133 P' B'/\P.length=m+1/\P'.length=k+1/\Hi m k L a b/\Pc.Pz 200002 200002 U.1 U.2/\Pc.Pz 200002 200002 V.1 V.2)
 (λ(P,B,P',B',U,V,m,k,L,a,b) d=>∃ c:Bool,d = .bl c/\(c=true↔Mn P B P' B' a b U V))
def j4:TSd:=(gr [] (oO (gy .Eq (ge qY (fZ (ga 2) gb)) (gm (fZ (dC (.int 1)) (fZ (dC (.int 1)) gb)))) (oO (gy .Eq (ge gT (fZ (ga 3) (fZ (dC (.int 0)) gb))) (gm (fZ (dC (.int 0)) (fZ (dC (.int 1)) gb)))) (gy .Eq (ge qE (fZ (ga 2) (fZ (ga 0) gb))) (ge qE (fZ (ga 3) (fZ (ga 1) gb)))))))
def ir:TSd:=dSq (dIf [] (jS (gu (gy .NotEq (ge gF (fZ (ga 2) gb)) (gg .FloorDiv (ga 4) (ge gF (fZ (ga 0) gb))))) (gu (gy .NotEq (ge gF (fZ (ga 3) gb)) (gg .FloorDiv (ga 4) (ge gF (fZ (ga 1) gb))))))
 (gr [] (dC (.bl false)))
 gz)
 j4
def kW:TSd:=dSq (gk [] (gNm 4) (ge gR (fZ (ge gF (fZ (ga 0) gb)) (fZ (ge gF (fZ (ga 1) gb)) gb))))
 ir
theorem jO:Does 5 kW iC:=by
 rintro ds Q hn ⟨⟨P,B,P',B',⟨U,C⟩,⟨V,C'⟩,m,k,L,a,b⟩,⟨rfl,z,z',lP,lP',h,zU,zV⟩,q⟩;dsimp only at z z' lP lP' h zU zV q;have q:∀ c:Bool,(c=true↔Mn P B P' B' a b (U,C) (V,C'))->Q (.bl c):=λc hc=>q _ ⟨c,rfl,hc⟩;have a6:=h.a6;have b6:=h.b6;have m6:=h.m6;have k6:=h.k6;have m1:=h.m1;have k1:=h.k1;have L12:=h.L12;have d1:((P.length:Int)-1)=(m:Int):=by omega
 have d2:((P'.length:Int)-1)=(k:Int):=by omega
 have fa:Int.fdiv ((L:Nat):Int) (m:Int)=(a:Int):=by
  rw[aU _ (by omega),← bP,h.ea]
 have fb:Int.fdiv ((L:Nat):Int) (k:Int)=(b:Int):=by
  rw[aU _ (by omega),← bP,h.eb]
 refine⟨rfl,(P,B),rfl,?_⟩;rintro _ rfl;refine⟨rfl,(P',B'),rfl,?_⟩;rintro _ rfl;refine⟨rfl,(m,k),⟨by show [D.int ((P.length:Int)-1),D.int ((P'.length:Int)-1)]=_;rw[d1,d2],m1,k1,by show m<=1000;omega,by show k<=1000;omega⟩,?_⟩;rintro _ rfl;rw[h.eL];show ir.run (s9 Q) [.val (pD P B),.val (pD P' B'),.val (pD U C),.val (pD V C'),.val (.int (L:Nat))];refine dSq.cut (λs=>s=[.val (pD P B),.val (pD P' B'),.val (pD U C),.val (pD V C'),.val (.int (L:Nat))]/\U.length=a+1/\V.length=b+1) ?_ ?_
 ·refine⟨rfl,(U,C),rfl,?_⟩;rintro _ rfl;refine⟨rfl,(P,B),rfl,?_⟩;rintro _ rfl;show (t5 ((L:Nat):Int) ((P.length:Int)-1))/\_;rw[d1];refine⟨⟨by omega,21,tf (by omega) (by omega),by omega⟩,?_⟩;refine DJ (p:=((U.length:Int)-1)=Int.fdiv ((L:Nat):Int) (m:Int)) (λc=>u7 q λs=>?_) (λc1=>?_)
  ·have l1:U.length=a+1:=s.1;rw[fa] at c;omega
  rw[fa] at c1;refine⟨rfl,(V,C'),rfl,?_⟩;rintro _ rfl;refine⟨rfl,(P',B'),rfl,?_⟩;rintro _ rfl;show (t5 ((L:Nat):Int) ((P'.length:Int)-1))/\_;rw[d2];refine⟨⟨by omega,21,tf (by omega) (by omega),by omega⟩,?_⟩;refine DJ (p:=((V.length:Int)-1)=Int.fdiv ((L:Nat):Int) (k:Int)) (λc=>u7 q λs=>?_) (λc2=>?_)
  ·have l1:V.length=b+1:=s.2.1;rw[fb] at c;omega
  rw[fb] at c2;exact⟨rfl,by omega,by omega⟩
 rintro _ ⟨rfl,lU,lV⟩;have w1:U.length*P.length<=7*7:=aY (by omega) (by omega);have w2:V.length*P'.length<=7*7:=aY (by omega) (by omega);refine⟨rfl,(U,C,a,200002,200002),⟨rfl,lU,zU,by show 200002<=9000000;omega⟩,?_⟩;intro d hd;refine⟨tE,CD hd (xg (n:=1) (t:=1) (by decide)) λkk hk=>?_⟩;rw[show ((1:Int):Rat)=1 from rfl,Lf zU.fm] at hk;cases kk
 ·exact u7 q λs=>absurd (hk.mpr s.2.2.1) (by decide)
 have one:=hk.mp rfl;refine⟨rfl,(V,C',0,200002,200002),⟨rfl,zV,by show 200002<=9000000;omega⟩,?_⟩;intro d hd;refine⟨tE,CD hd J5 λkk hk=>?_⟩;rw[Lg zV.fm] at hk;cases kk
 ·exact u7 q λs=>absurd (hk.mpr s.2.2.2.1) (by decide)
 have nil:=hk.mp rfl;refine⟨rfl,(U,C,P,B,200002,200002,133,133),⟨rfl,zU,z,by show 200002+133*U.length<=8900000;omega,by show 200002+(133+133+10)*(U.length+1)<=90000000;omega,by show U.length*P.length<=190;omega,by show U.length<=190;omega,by show P.length<=190;omega⟩,?_⟩;rintro _ ⟨R,D,rfl,oR⟩;refine⟨rfl,(V,C',P',B',200002,200002,133,133),⟨rfl,zV,z',by show 200002+133*V.length<=8900000;omega,by show 200002+(133+133+10)*(V.length+1)<=90000000;omega,by show V.length*P'.length<=190;omega,by show V.length<=190;omega,by show P'.length<=190;omega⟩,?_⟩;rintro _ ⟨R',D',rfl,oR'⟩;have oR:Pc.Of U C P B R D:=oR;have oR':Pc.Of V C' P' B' R' D':=oR';refine Cj λkk hk=>q kk (hk.trans ⟨?_,λs=>?_⟩)
 ·rintro⟨rfl,rfl⟩;exact⟨lU,lV,one,nil,λx=>by rw[← Qp.AX zU.fm.pos z.fm.pos oR,Qp.AX zV.fm.pos z'.fm.pos oR']⟩
 ·exact Qp.IH oR.1 oR'.1 λx=>by rw[Qp.AX zU.fm.pos z.fm.pos oR,Qp.AX zV.fm.pos z'.fm.pos oR'];exact s.2.2.2.2 x
def ip:SpB:=.of 4 (α:=List Int×Int×List Int×Int×Pl×Pl×Nat×Nat×Nat×Nat×Nat) (λ(P,B,P',B',U,V,m,k,L,a,b) ds=>ds=[pD P B,pD P' B',pq U,pq V]/\Pc.Pz 133 133 P B/\Pc.Pz 133 133 P' B'/\P.length=m+1/\P'.length=k+1/\Hi m k L a b/\Pc.Pz 200002 200002 U.1 U.2/\Pc.Pz 200002 200002 V.1 V.2)
 (λ(P,B,P',B',U,V,m,k,L,a,b) d=>∃ c:Bool,d = .bl c/\(c=true↔Mn P B P' B' a b U V))
theorem jn:Does 7 kP ip:=by
 rintro ds Q hn ⟨⟨P,B,P',B',⟨U,C⟩,⟨V,C'⟩,m,k,L,a,b⟩,⟨rfl,z,z',lP,lP',h,zU,zV⟩,q⟩;dsimp only at z z' lP lP' h zU zV q;have q:∀ c:Bool,(c=true↔Mn P B P' B' a b (U,C) (V,C'))->Q (.bl c):=λc hc=>q _ ⟨c,rfl,hc⟩;have a6:=h.a6;have b6:=h.b6;have m6:=h.m6;have k6:=h.k6;refine⟨rfl,(P,B,P',B',m,k,L,a,b),⟨rfl,lP,lP',h⟩,?_⟩;rintro _ rfl;refine⟨rfl,?_⟩;show iq.run (s9 Q) [.val (pD P B),.val (pD P' B'),.val (pD U C),.val (pD V C'),.val (.int (L:Nat)),.val (.int (a:Nat)),.val (.int (b:Nat))];refine dSq.cut (λs=>s=[.val (pD P B),.val (pD P' B'),.val (pD U C),.val (pD V C'),.val (.int (L:Nat)),.val (.int (a:Nat)),.val (.int (b:Nat))]/\U.length=a+1/\V.length=b+1/\U.getD a 0=C/\V.getD 0 0=0) ?_ ?_
 ·refine DJ (p:=((U.map D.int).length:Int)=(a:Int)+1) (λc=>u7 q λs=>c ?_) (λc=>?_)
  ·have l1:U.length=a+1:=s.1;rw[aa];omega
  rw[aa] at c;have lU:U.length=a+1:=by omega
  refine DJ (p:=((V.map D.int).length:Int)=(b:Int)+1) (λc=>u7 q λs=>c ?_) (λc=>?_)
  ·have l1:V.length=b+1:=s.2.1;rw[aa];omega
  rw[aa] at c;have lV:V.length=b+1:=by omega
  refine zK (Km lU) ?_;refine DJ (p:=U.getD a 0=C) (λc=>u7 q λs=>c s.2.2.1) (λone=>?_);refine tv (n:=0) (d:=.int (V.getD 0 0)) (uF (by omega)) ?_;exact DJ (p:=V.getD 0 0=0) (λc=>u7 q λs=>c s.2.2.2.1) (λnil=>⟨rfl,lU,lV,one,nil⟩)
 ·rintro _ ⟨rfl,lU,lV,one,nil⟩;have w1:U.length*P.length<=7*7:=aY (by omega) (by omega);have w2:V.length*P'.length<=7*7:=aY (by omega) (by omega);refine⟨rfl,(U,C,P,B,200002,200002,133,133),⟨rfl,zU,z,by show 200002+200002+133*U.length<=8900000;omega,by show 200002+(133+133+10)*(U.length+1)<=4000000;omega,by show U.length*P.length<=190;omega,by show U.length<=190;omega,by show P.length<=190;omega⟩,?_⟩;rintro _ ⟨R,D,rfl,oR⟩;refine⟨rfl,(V,C',P',B',200002,200002,133,133),⟨rfl,zV,z',by show 200002+200002+133*V.length<=8900000;omega,by show 200002+(133+133+10)*(V.length+1)<=4000000;omega,by show V.length*P'.length<=190;omega,by show V.length<=190;omega,by show P'.length<=190;omega⟩,?_⟩;rintro _ ⟨R',D',rfl,oR'⟩;have oR:Pc.Of U C P B R D:=oR;have oR':Pc.Of V C' P' B' R' D':=oR';refine Cj λkk hk=>q kk (hk.trans ⟨?_,λs=>?_⟩)
  ·rintro⟨rfl,rfl⟩;exact⟨lU,lV,one,nil,λx=>by rw[← Qp.AX zU.fm.pos z.fm.pos oR,Qp.AX zV.fm.pos z'.fm.pos oR']⟩
  ·exact Qp.IH oR.1 oR'.1 λx=>by rw[Qp.AX zU.fm.pos z.fm.pos oR,Qp.AX zV.fm.pos z'.fm.pos oR'];exact s.2.2.2.2 x
def Gh(P:List Int)(B:Int)(P':List Int)(B':Int)(a b L:Nat)(y:Nat->Rat):Prop:=(∀ c,c<a->rs (L+1) (λi=>cq P B c i*y i)=0)/\(∀ c,1<=c->c<=b->rs (L+1) (λi=>cq P' B' c i*y i)=0)/\rs (L+1) (λi=>cq P B a i*y i)≠0
def gq(P:List Int)(B:Int)(P':List Int)(B':Int)(a L:Nat)(y:Nat->Rat)(i:Nat):Rat:=if i<a then rs (L+1) (λj=>cq P B i j*y j) else rs (L+1) (λj=>cq P' B' (i-a+1) j*y j)
theorem nos_gq:Gh P B P' B' a b L y↔(∀ i,i<a+b->gq P B P' B' a L y i=0)/\rs (L+1) (λi=>cq P B a i*y i)≠0:=by
 unfold Gh gq;constructor
 ·rintro⟨h1,h2,h3⟩;refine⟨λi hi=>?_,h3⟩;by_cases c:i<a
  ·rw[if_pos c];exact h1 i c
  ·rw[if_neg c];exact h2 _ (by omega) (by omega)
 ·rintro⟨h,h3⟩;refine⟨λc hc=>?_,λc c1 cb=>?_,h3⟩
  ·have:=h c (by omega);rw[if_pos hc] at this;exact this
  ·have:=h (a+(c-1)) (by omega);rw[if_neg (by omega),show a+(c-1)-a+1=c by omega] at this;exact this
theorem F8{ys:List D}{p:Nat->Prop}(h:∀(i:Nat) (y:D),ys[i]? = some y->∃ c:Bool,y = .bl c/\(c=true↔p i)):∃ bs:List Bool,ys=bs.map D.bl/\(bs.all id=true↔∀ i,i<ys.length->p i):=by
 induction ys generalizing p with
 | nil=>exact⟨[],rfl,⟨λ_ i hi=>absurd hi (bV _),λ_=>rfl⟩⟩
 | cons y ys ih =>
  obtain⟨c,rfl,hc⟩:=h 0 y rfl;obtain⟨bs,rfl,hb⟩:=ih (p:=λi=>p (i+1)) λi y hy=>h (i+1) y hy;refine⟨c::bs,rfl,?_⟩;rw[dA,bh];constructor
  ·rintro⟨h1,h2⟩ i hi;cases i with
   | zero=>exact hc.mp h1
   | succ i=>exact hb.mp h2 i (by rw[aE] at hi;omega)
  ·intro q;exact⟨hc.mpr (q 0 (by rw[aE];omega)),hb.mpr λi hi=>q (i+1) (by rw[aE];omega)⟩
def gX:SpB:=.of 2 (α:=Pl×(Nat->Int)×Int×Nat) (λ(p,T,D0,n) ds=>ds=[pq p,tx n T D0]/\Pc.Pz 860 860 p.1 p.2/\p.1.length<=n/\n<=13/\D0≠0/\Lt2 100200 D0/\∀ c,Lt2 100200 (T c))
 (λ(p,T,D0,n) d=>FqD 200000 200000 d (rs n λi=>Qp.q p.1 p.2 i*((T i:Rat) / (D0:Rat))))
theorem mU:Does 5 qJ gX:=by
 rintro ds Q hn ⟨⟨⟨P,B⟩,T,D0,n⟩,⟨rfl,z,lP,n13,d0,l0,lT⟩,q⟩;dsimp only at z lP n13 d0 l0 lT q;have B0:=z.fm.pos;have nB:=Qp.sO B0;have nD:=Qp.tF d0;have BD:B*D0≠0:=cw (by omega) d0;refine⟨tE,⟨λi s=>∃(o3 o4:SD) (d:D) (M:Int),s=[.val (pD P B),.val (tx n T D0),.val d,o3,o4]/\FqD 200000 200000 d (rs i λj=>Qp.q P B j*((T j:Rat) / (D0:Rat)))/\Lt2 (101060+i) M/\(rs i λj=>Qp.q P B j*((T j:Rat) / (D0:Rat)))=(M:Rat) / ((B*D0:Int):Rat),⟨.no,.no,fD 0 1,0,rfl,?_,wO _,?_⟩,?_,?_⟩⟩
 ·exact (xg (n:=200000) (t:=0) (wO _)).mono (aq _) (by omega)
 ·show (0:Rat)=((0:Int):Rat) / _;rw[show ((0:Int):Rat)=0 from rfl];grind
 ·rintro i _ _ hd ⟨o3,o4,d,M,rfl,hd1,lM,e⟩;obtain⟨dx,dy,h1,h2,rfl⟩:=v9 hd;obtain⟨hi,rfl⟩:=vz h1;have hi:i<P.length:=hi;have lP:P.length<=n:=lP;have hin:i<n:=by omega
  have h2:((List.range n).map λc=>fD (Fr.top (T c) D0) (Fr.bot (T c) D0))[i]? = some dy:=h2;rw[au,br hin] at h2;cases h2;have Fg:FqD 100200 100200 (fD (Fr.top (T i) D0) (Fr.bot (T i) D0)) ((T i:Rat) / (D0:Rat)):=by
   obtain⟨y1,y2,y3⟩:=Fr.low (t:=T i) (b:=D0) d0;have y:=Fr.vS (t:=T i) (b:=D0) d0;exact⟨_,_,rfl,y1,y3,(lT i).le y.1,l0.le y.2,(x8 (c:=i) d0).symm⟩
  refine⟨rfl,tE,rfl,(P.getD i 0,B,_,_,860,860,100200,100200),⟨rfl,B0,z.tops i,z.bot,Fg,by show 860+100200<=9000000;omega,by show 860+100200<=9000000;omega⟩,?_⟩;intro d2 hd2;have hd2:FqD (860+100200) (860+100200) d2 (((P.getD i 0:Int):Rat) / (B:Rat)*((T i:Rat) / (D0:Rat))):=hd2;refine⟨rfl,(d,d2,_,_,200000,200000,860+100200,860+100200),⟨rfl,hd1,hd2,by show 200000+(860+100200)<=9000000;omega,by show 200000+(860+100200)<=9000000;omega,by show 860+100200+200000<=9000000;omega⟩,?_⟩;intro d3 hd3;have hd3':=hd3;dsimp only at hd3';have er:rs (i+1) (λj=>Qp.q P B j*((T j:Rat) / (D0:Rat)))=(rs i λj=>Qp.q P B j*((T j:Rat) / (D0:Rat)))+((P.getD i 0:Int):Rat) / (B:Rat)*((T i:Rat) / (D0:Rat)):=rfl;have eq:rs (i+1) (λj=>Qp.q P B j*((T j:Rat) / (D0:Rat)))=((M+P.getD i 0*T i:Int):Rat) / ((B*D0:Int):Rat):=by
   rw[er,e,bU,ax,ax];grind
  have lM':Lt2 (101060+(i+1)) (M+P.getD i 0*T i):=(lM.add ((((z.tops i).mul (lT i)).mono (m:=101060+i) (by omega)))).mono (by omega);refine⟨_,_,d3,M+P.getD i 0*T i,rfl,?_,lM',eq⟩;rw[← er] at hd3';exact hd3'.sharp BD eq (lM'.mono (by omega)) ((z.bot.mul l0).mono (by omega))
 ·rintro _ ⟨o3,o4,d,M,rfl,hd1,_⟩;have ez:(wP (P.map D.int) ((List.range n).map λc=>fD (Fr.top (T c) D0) (Fr.bot (T c) D0))).length=P.length:=by
   rw[tS,aa,aa,az];omega
  have hd1:FqD 200000 200000 d (rs (wP (P.map D.int) ((List.range n).map λc=>fD (Fr.top (T c) D0) (Fr.bot (T c) D0))).length λj=>Qp.q P B j*((T j:Rat) / (D0:Rat))):=hd1;rw[ez] at hd1;refine q _ ?_;show FqD 200000 200000 d (rs n λi=>Qp.q P B i*((T i:Rat) / (D0:Rat)));rw[zm (k:=P.length) lP λc h1 _=>by rw[Qp.Av h1];grind];exact hd1
def jy:SpB:=.of 3 (α:=List Int×Int×List Int×Int×(Nat->Int)×Int×Nat×Nat×Nat×Nat×Nat×Nat) (λ(P,B,P',B',T,D0,n,m,k,L,a,b) ds=>ds=[pD P B,pD P' B',tx n T D0]/\Pc.Pz 133 133 P B/\Pc.Pz 133 133 P' B'/\P.length=m+1/\P'.length=k+1/\Hi m k L a b/\D0≠0/\Lt2 100200 D0/\(∀ c,Lt2 100200 (T c)))
 (λ(P,B,P',B',T,D0,n,m,k,L,a,b) d=>∃ c:Bool,d = .bl c/\(c=true↔n=L+1/\Gh P B P' B' a b L λi=>(T i:Rat) / (D0:Rat)))
def jb:TSd:=(gr [] (oO (dB bAll bAll.mono (fZ (gB (gD (ga 6)) [8] (gNm 8) gP (gy .Eq (ge gX (fZ (ga 8) (fZ (ga 2) gb))) (gm (fZ (dC (.int 0)) (fZ (dC (.int 1)) gb))))) gb)) (gy .NotEq (ge gX (fZ (ge gU (fZ (ga 0) (fZ (ga 4) gb))) (fZ (ga 2) gb))) (gm (fZ (dC (.int 0)) (fZ (dC (.int 1)) gb))))))
def mo:TSd:=dSq (gk [] (gNm 6) (gg .Add (gB (jB (ga 4)) [7] (gNm 7) gP (ge gU (fZ (ga 0) (fZ (ga 7) gb)))) (gB (ng (dC (.int 1)) (gg .Add (ga 5) (dC (.int 1)))) [7] (gNm 7) gP (ge gU (fZ (ga 1) (fZ (ga 7) gb))))))
 jb
def jc:TSd:=dSq (dIf [] (gu (gy .NotEq (dB bLen bLen.mono (fZ (ga 2) gb)) (gg .Add (ga 3) (dC (.int 1)))))
 (gr [] (dC (.bl false)))
 gz)
 mo
def nI:TSd:=dSq (gk [] (gTp [3,4,5]) (ge iu (fZ (ga 0) (fZ (ga 1) gb))))
 jc
section
variable{P:List Int}{B:Int}{P':List Int}{B':Int}{m k a b L:Nat}{Q:D->Prop}{T:Nat->Int}{D0:Int}
theorem xf(z:Pc.Pz 133 133 P B)(lP:P.length=m+1)(m6:m<=6)(i6:i<=6)(im:i*m<=L)(L12:L<=12)(d0:D0≠0)(l0:Lt2 100200 D0)(lT:∀ c,Lt2 100200 (T c))(hR:IsPw P B i R)(q:∀ d,FqD 200000 200000 d (rs (L+1) λj=>cq P B i j*((T j:Rat) / (D0:Rat)))->Q d):[pq R,tx (L+1) T D0].length=gX.n/\gX.run [pq R,tx (L+1) T D0] Q:=by
 refine⟨rfl,(R,T,D0,L+1),⟨rfl,hR.z8 z (by omega) i6,bq (hR.len z.fm.pos (m:=m) (by omega)) (by show i*m+1<=L+1;omega),by show L+1<=13;omega,d0,l0,lT⟩,λd hd=>q d ?_⟩;have hd:FqD 200000 200000 d (rs (L+1) λj=>Qp.q R.1 R.2 j*((T j:Rat) / (D0:Rat))):=hd;rw[sM (g:=λj=>cq P B i j*((T j:Rat) / (D0:Rat))) (λj _=>by rw[hR.q z.fm.pos j])] at hd;exact hd
theorem F9{x:D}(hx:∀ K:List D->Prop,K us->itemsD x K)(z:Pc.Pz 133 133 P B)(z':Pc.Pz 133 133 P' B')(lP:P.length=m+1)(lP':P'.length=k+1)(h:Hi m k L a b)(d0:D0≠0)(l0:Lt2 100200 D0)(lT:∀ c,Lt2 100200 (T c))(lu:us.length=a+b)
  (hu:∀ i y,us[i]? = some y->∃ R:Pl,y=pq R/\((i<a/\IsPw P B i R)\/(a<=i/\IsPw P' B' (i-a+1) R))) (q:∀ c:Bool,(c=true↔Gh P B P' B' a b L λi=>(T i:Rat) / (D0:Rat))->Q (.bl c)):jb.run (s9 Q) [.val (pD P B),.val (pD P' B'),.val (tx (L+1) T D0),.val (.int (L:Nat)),.val (.int (a:Nat)),.val (.int (b:Nat)),.val x,.no,.no]:=by
 have ab:=h.ab;have a6:=h.a6;have b6:=h.b6;have m6:=h.m6;have k6:=h.k6;have L12:=h.L12;have am:=h.am;have bk:=h.bk;have f01:FqD 1 1 (.tup [.int 0,.int 1]) 0:=J5;refine hx _ (tM (λi y=>∃ c:Bool,y = .bl c/\(c=true↔gq P B P' B' a L (λi=>(T i:Rat) / (D0:Rat)) i=0)) (by omega) (λi d hd=>?_) λys ly hy=>?_)
 ·obtain⟨R,rfl,hR⟩:=hu i d hd;have hi:i<us.length:=(af.mp hd).1;unfold gq;rcases hR with⟨c,hR⟩|⟨c,hR⟩
  ·have im:(i+1)*m<=a*m:=aI _ c;rw[aS] at im;refine xf z lP m6 (by omega) (by omega) L12 d0 l0 lT hR λd hd=>?_;exact⟨tE,CD hd f01 λkk hk=>⟨kk,rfl,by rw[if_pos c];exact hk⟩⟩
  ·have im:(i-a+1)*k<=b*k:=aI _ (by omega);refine xf z' lP' k6 (by omega) (by omega) L12 d0 l0 lT hR λd hd=>?_;exact⟨tE,CD hd f01 λkk hk=>⟨kk,rfl,by rw[if_neg (by omega)];exact hk⟩⟩
 ·obtain⟨bs,e1,e2⟩:=F8 hy;rw[ly,lu] at e2;refine⟨bs,e1,?_⟩;generalize bs.all id=c0 at e2;cases c0
  ·exact u7 q λs=>absurd (e2.mpr (nos_gq.mp s).1) (by decide)
  have e3:=e2.mp rfl;refine Bq z lP m6 a6 λR hR=>?_;refine xf z lP m6 a6 (by omega) L12 d0 l0 lT hR λd hd=>?_;refine⟨tE,LW hd f01 λkk hk=>q _ ?_⟩;rw[nos_gq];cases kk
  ·exact⟨λ_=>⟨e3,λe=>absurd (hk.mpr e) (by decide)⟩,λ_=>rfl⟩
  ·exact⟨λe=>(by cases e),λs=>absurd (hk.mp rfl) s.2⟩
end
theorem kX:Does 9 nI jy:=by
 rintro ds Q hn ⟨⟨P,B,P',B',T,D0,n,m,k,L,a,b⟩,⟨rfl,z,z',lP,lP',h,d0,l0,lT⟩,q⟩;dsimp only at z z' lP lP' h d0 l0 lT q;have q:∀ c:Bool,(c=true↔n=L+1/\Gh P B P' B' a b L λi=>(T i:Rat) / (D0:Rat))->Q (.bl c):=λc hc=>q _ ⟨c,rfl,hc⟩;have ab:=h.ab;have a6:=h.a6;have b6:=h.b6;have m6:=h.m6;have k6:=h.k6;refine⟨rfl,(P,B,P',B',m,k,L,a,b),⟨rfl,lP,lP',h⟩,?_⟩;rintro _ rfl;refine⟨rfl,?_⟩;show jc.run (s9 Q) [.val (pD P B),.val (pD P' B'),.val (tx n T D0),.val (.int (L:Nat)),.val (.int (a:Nat)),.val (.int (b:Nat)),.no,.no,.no];refine dSq.cut (λs=>s=[.val (pD P B),.val (pD P' B'),.val (tx n T D0),.val (.int (L:Nat)),.val (.int (a:Nat)),.val (.int (b:Nat)),.no,.no,.no]/\n=L+1) ?_ ?_
 ·refine DJ (p:=(((List.range n).map λc=>fD (Fr.top (T c) D0) (Fr.bot (T c) D0)).length:Int)=(L:Int)+1) (λc=>u7 q λs=>c ?_) (λc=>⟨rfl,?_⟩)
  ·rw[aa,az,s.1];omega
  ·rw[aa,az] at c;omega
 rintro _ ⟨rfl,rfl⟩;refine⟨by omega,by omega,?_⟩;have h1:(uO 0 ((a:Int)).toNat).length=a:=by rw[td];omega
 have h2:(uO 1 ((b:Int)+1-1).toNat).length=b:=by rw[td];omega
 refine tM (λi y=>∃ R:Pl,y=pq R/\IsPw P B i R) (by rw[h1];omega) (λi d hd=>?_) λys ly hy=>?_
 ·obtain⟨hi,rfl⟩:=wQ hd;exact Bq z lP m6 (by omega) λR hR=>⟨R,rfl,hR⟩
 refine⟨⟨by omega,by omega,by omega,by omega⟩,?_⟩;refine tM (λi y=>∃ R:Pl,y=pq R/\IsPw P' B' (i+1) R) (by rw[h2];omega) (λi d hd=>?_) λzs lz hz=>?_
 ·obtain⟨hi,rfl⟩:=ug hd;rw[show (1:Int)+(i:Int)=((i+1:Nat):Int) by omega];exact Bq z' lP' k6 (by omega) λR hR=>⟨R,rfl,hR⟩
 have ly:ys.length=a:=ly.trans h1;have lz:zs.length=b:=lz.trans h2;refine⟨tX (by omega),?_⟩;refine F9 (x:=.lst (ys++zs)) (us:=ys++zs) (λK k=>k) z z' lP lP' h d0 l0 lT (by rw[ai];omega) (λi y hi=>?_) (λc hc=>q c (hc.trans ⟨λs=>⟨rfl,s⟩,λs=>s.2⟩));rcases aJ i ys.length with c|c
 ·rw[aK c] at hi;obtain⟨R,e,hR⟩:=hy i y hi;exact⟨R,e,.inl ⟨by omega,hR⟩⟩
 ·rw[aF c,ly] at hi;obtain⟨R,e,hR⟩:=hz _ y hi;exact⟨R,e,.inr ⟨by omega,hR⟩⟩
theorem DW:∀ N,((((List.range N).map f).sum:Int):Rat)=rs N λj=>(f j:Rat)
 | 0=>rfl
 | N+1=>by
  rw[dM,aN,eJ];show (((List.map f (List.range N)).sum+(f N+0):Int):Rat)=rs N _+_;rw[bS,bU,DW N]
def iD:SpB:=.of 2 (α:=List Int×List Int×Int) (λ(ws,P,B) ds=>ds=[.lst (ws.map .int),pD P B]/\P.length<=ws.length/\P.length<=1000/\(∀ i,Lt2 9000000 (ws.getD i 0))/\∀ i,Lt2 9000000 (P.getD i 0))
 (λ(ws,P,B) d=>∃ s:Int,d = .int s/\(s:Rat)=rs P.length λi=>((ws.getD i 0*P.getD i 0:Int):Rat))
def rl:TSd:=(gr [] (dB bSum bSum.mono (fZ (gB (oP (ga 0) (dIx (ga 1) (dC (.int 0)))) [2,3] (gTp [2,3]) gP (gg .Mult (ga 2) (ga 3))) gb)))
theorem pF:Does 4 rl iD:=by
 rintro ds Q hn ⟨⟨ws,P,B⟩,⟨rfl,hl,h9,lw,lp⟩,q⟩;dsimp only at hl h9 lw lp q;have ez:(wP (ws.map D.int) (P.map D.int)).length=P.length:=by
  rw[tS,aa,aa];omega
 refine⟨by rw[ez];exact tX (by omega),λi ys=>ys=((List.range i).map λj=>ws.getD j 0*P.getD j 0).map D.int,rfl,?_,?_⟩
 ·rintro i d ys hd _ rfl;obtain⟨x,y,hx,hy,rfl⟩:=v9 hd;obtain⟨hi,rfl⟩:=vz hx;obtain⟨_,rfl⟩:=vz hy;refine⟨rfl,⟨_,_,lw i,lp i,by omega⟩,?_⟩;show _=List.map D.int (List.map (λj=>ws.getD j 0*P.getD j 0) (List.range (i+1)));rw[dM,aN,aN];rfl
 ·rintro ys _ rfl;rw[ez];exact⟨_,rfl,q _ ⟨_,rfl,DW _⟩⟩
theorem wz{R:Pl}{ws:List Int}{y:Nat->Rat}{b0:Int}{N:Nat}{s:Int}(r0:0<R.2)(b1:0<b0)(hw:∀ j,j<N->((ws.getD j 0:Int):Rat)=(b0:Rat)*y j)(lR:R.1.length<=N)(hs:(s:Rat)=rs R.1.length λi=>((ws.getD i 0*R.1.getD i 0:Int):Rat)):s=0↔rs N (λj=>Qp.q R.1 R.2 j*y j)=0:=by
 have n1:=Qp.sO r0;have n2:=Qp.sO b1;rw[zm (k:=R.1.length) lR λc h1 _=>by rw[Qp.Av h1];grind];have e:(s:Rat)=((b0:Rat)*(R.2:Rat))*rs R.1.length λj=>Qp.q R.1 R.2 j*y j:=by
  rw[hs,← tY];refine sM λc hc=>?_;rw[ax,hw c (by omega)];show _=_*(((R.1.getD c 0:Int):Rat) / (R.2:Rat)*_);generalize ((R.1.getD c 0:Int):Rat)=t;grind
 constructor
 ·rintro rfl;have e:(0:Rat)=_:=e;grind
 ·intro z;rw[z] at e;have:(s:Rat)=((0:Int):Rat):=by show _=(0:Rat);grind
  exact cG.mp this
def jz:SpB:=.of 3 (α:=List Int×Int×List Int×Int×(Nat->Int)×Int×Nat×Nat×Nat×Nat×Nat×Nat) (λ(P,B,P',B',T,D0,n,m,k,L,a,b) ds=>ds=[pD P B,pD P' B',tx n T D0]/\Pc.Pz 133 133 P B/\Pc.Pz 133 133 P' B'/\P.length=m+1/\P'.length=k+1/\Hi m k L a b/\D0≠0/\Lt2 100200 D0/\(∀ c,Lt2 100200 (T c)))
 (λ(P,B,P',B',T,D0,n,m,k,L,a,b) d=>∃ c:Bool,d = .bl c/\(c=true↔n=L+1/\Gh P B P' B' a b L λi=>(T i:Rat) / (D0:Rat)))
def jd:TSd:=(gr [] (oO (dB bAll bAll.mono (fZ (gB (gD (ga 8)) [9] (gNm 9) gP (gy .Eq (ge iD (fZ (ga 4) (fZ (ga 9) gb))) (dC (.int 0)))) gb)) (gy .NotEq (ge iD (fZ (ga 4) (fZ (ge kN (fZ (ga 0) (fZ (ga 6) gb))) gb))) (dC (.int 0)))))
def je:TSd:=dSq (gk [] (gNm 8) (gg .Add (ge i4 (fZ (ga 0) (fZ (dC (.int 0)) (fZ (ga 6) gb)))) (ge i4 (fZ (ga 1) (fZ (dC (.int 1)) (fZ (gg .Add (ga 7) (dC (.int 1))) gb))))))
 jd
def mr:TSd:=dSq (jT [] 6 7 (gg .FloorDiv (ga 3) (ge gF (fZ (ga 0) gb))) (gg .FloorDiv (ga 3) (ge gF (fZ (ga 1) gb))))
 je
def mt:TSd:=dSq (gk [] (gTp [4,5]) (ge gM (fZ (ga 2) gb)))
 mr
def jf:TSd:=dSq (dIf [] (gu (gy .NotEq (dB bLen bLen.mono (fZ (ga 2) gb)) (gg .Add (ga 3) (dC (.int 1)))))
 (gr [] (dC (.bl false)))
 gz)
 mt
def nJ:TSd:=dSq (gk [] (gNm 3) (ge gR (fZ (ge gF (fZ (ga 0) gb)) (fZ (ge gF (fZ (ga 1) gb)) gb))))
 jf
section
variable{P:List Int}{B:Int}{P':List Int}{B':Int}{m k a b L:Nat}{Q:D->Prop}{T:Nat->Int}{D0:Int}
theorem LU(hn:n<=13)(h0:D0≠0)(l0:Lt2 100200 D0)(lT:∀ c,Lt2 100200 (T c)):KC ((List.range n).map (wN T D0)) (λ_=>100200) 100200:=by
 refine⟨λi f hi=>?_,by rw[aa,az];omega,?_,by omega⟩
 ·obtain⟨c,_,rfl⟩:=bg.mp (ay hi);have y:=Fr.vS (t:=T c) (b:=D0) h0;exact⟨(Fr.low (t:=T c) h0).1,(lT c).le y.1,l0.le y.2⟩
 ·have e:∀ n,sN (λ_=>100200) n=n*100200:=λn=>by
   induction n with
   | zero=>rfl
   | succ n ih=>show sN (λ_=>100200) n+100200=_;rw[ih,aS]
  rw[e,aa,az];omega
theorem Nb(hn:n<=13):sN (λ_=>100200) n+1<=1302601:=by
 have e:∀ n,sN (λ_=>100200) n=n*100200:=λn=>by
  induction n with
  | zero=>rfl
  | succ n ih=>show sN (λ_=>100200) n+100200=_;rw[ih,aS]
 rw[e];omega
structure Wh59 (T:Nat->Int)(D0:Int)(N:Nat)(ws:List Int)(b0:Int):Prop where
 p:0<b0
 len:ws.length=N
 sz:∀ i,Lt2 9000000 (ws.getD i 0)
 w:∀ j,j<N->((ws.getD j 0:Int):Rat)=(b0:Rat)*((T j:Rat) / (D0:Rat))
theorem KH(hn:n<=13)(h0:D0≠0)(lT:∀ c,Lt2 100200 (T c))(b1:0<b0)(lb:Lt2 1302601 b0)(dv:∀(j:Nat) (f:Int×Int),((List.range n).map (wN T D0))[j]? = some f->f.2∣b0):Wh59 T D0 n (((List.range n).map (wN T D0)).map λf=>f.1*b0.fdiv f.2) b0:=by
 have at_:∀ j,j<n->(((List.range n).map (wN T D0)).map λf=>f.1*b0.fdiv f.2).getD j 0=(wN T D0 j).1*b0.fdiv (wN T D0 j).2:=λj hj=>sZ (by rw[au,au,br hj];rfl);have dj:∀ j,j<n->(wN T D0 j).2∣b0:=λj hj=>dv j _ (by rw[au,br hj];rfl);refine⟨b1,by rw[aa,aa,az],λi=>?_,λj hj=>?_⟩
 ·rcases aJ i n with c|c
  ·rw[at_ i c];obtain⟨e,q0,ql⟩:=tH (Fr.low (t:=T i) h0).1 b1 (dj i c);have y:=Fr.vS (t:=T i) (b:=D0) h0;exact (((lT i).le y.1).mul (lb.le ql)).mono (by omega)
  ·rw[sP (by rw[aa,aa,az];exact c)];exact wO _
 ·rw[at_ j hj];have p2:=(Fr.low (t:=T j) h0).1;obtain⟨e,q0,ql⟩:=tH p2 b1 (dj j hj);have f2:=Qp.sO p2;rw[← x8 (T:=T) (c:=j) h0];unfold qf;have e:(b0:Rat)=((wN T D0 j).2:Rat)*((b0.fdiv (wN T D0 j).2:Int):Rat):=by rw[← ax];exact congrArg _ e
  rw[ax];have f2:((wN T D0 j).2:Rat)≠0:=f2;generalize ((b0.fdiv (wN T D0 j).2:Int):Rat)=t at *;rw[e];grind
theorem A1(z:Pc.Pz 133 133 P B)(lP:P.length=m+1)(m6:m<=6)(i6:i<=6)(im:i*m<=L)(L12:L<=12)(hR:IsPw P B i R)(hw:Wh59 T D0 (L+1) ws b0)(q:∀ s:Int,(s=0↔rs (L+1) (λj=>cq P B i j*((T j:Rat) / (D0:Rat)))=0)->Q (.int s)):[D.lst (ws.map .int),pq R].length=iD.n/\iD.run [.lst (ws.map .int),pq R] Q:=by
 have lR:=hR.len z.fm.pos (m:=m) (by omega);have z8:=hR.z8 z (by omega) i6;have lw:=hw.len;refine⟨rfl,(ws,R.1,R.2),⟨rfl,by show R.1.length<=ws.length;omega,by show R.1.length<=1000;omega,hw.sz,λj=>(z8.tops j).mono (by omega)⟩,?_⟩;rintro _ ⟨s,rfl,hs⟩;refine q s ?_;have w:=wz (y:=λj=>(T j:Rat) / (D0:Rat)) (N:=L+1) z8.fm.pos hw.p hw.w (by omega) hs;rw[sM (g:=λj=>cq P B i j*((T j:Rat) / (D0:Rat))) (λj _=>by rw[hR.q z.fm.pos j])] at w;exact w
theorem II(hx:∀ K:List D->Prop,K us->itemsD x K)(z:Pc.Pz 133 133 P B)(z':Pc.Pz 133 133 P' B')(lP:P.length=m+1)(lP':P'.length=k+1)(h:Hi m k L a b)(hw:Wh59 T D0 (L+1) ws b0)(lu:us.length=a+b)
  (hu:∀ i y,us[i]? = some y->∃ R:Pl,y=pq R/\((i<a/\IsPw P B i R)\/(a<=i/\IsPw P' B' (i-a+1) R))) (q:∀ c:Bool,(c=true↔Gh P B P' B' a b L λi=>(T i:Rat) / (D0:Rat))->Q (.bl c)):jd.run (s9 Q) [.val (pD P B),.val (pD P' B'),.val (tx (L+1) T D0),.val (.int (L:Nat)),.val (.lst (ws.map .int)),.val (.int b0),.val (.int (a:Nat)),.val (.int (b:Nat)),.val x,.no]:=by
 have ab:=h.ab;have a6:=h.a6;have b6:=h.b6;have m6:=h.m6;have k6:=h.k6;have L12:=h.L12;have am:=h.am;have bk:=h.bk;have w1:a*P.length<=6*7:=aY a6 (by omega);refine hx _ (tM (λi y=>∃ c:Bool,y = .bl c/\(c=true↔gq P B P' B' a L (λi=>(T i:Rat) / (D0:Rat)) i=0)) (by omega) (λi d hd=>?_) λys ly hy=>?_)
 ·obtain⟨R,rfl,hR⟩:=hu i d hd;have hi:i<us.length:=(af.mp hd).1;unfold gq;rcases hR with⟨c,hR⟩|⟨c,hR⟩
  ·have im:(i+1)*m<=a*m:=aI _ c;rw[aS] at im;refine A1 z lP m6 (by omega) (by omega) L12 hR hw λs hs=>⟨decide (s=0),rfl,?_⟩;rw[if_pos c,decide_eq_true_iff];exact hs
  ·have im:(i-a+1)*k<=b*k:=aI _ (by omega);refine A1 z' lP' k6 (by omega) (by omega) L12 hR hw λs hs=>⟨decide (s=0),rfl,?_⟩;rw[if_neg (by omega),decide_eq_true_iff];exact hs
 ·obtain⟨bs,e1,e2⟩:=F8 hy;rw[ly,lu] at e2;refine⟨bs,e1,?_⟩;generalize bs.all id=c0 at e2;cases c0
  ·exact u7 q λs=>absurd (e2.mpr (nos_gq.mp s).1) (by decide)
  have e3:=e2.mp rfl;refine⟨rfl,(P,B,a,133,133),⟨rfl,z,by show a*P.length<=400;omega,by show a<=400;omega,by show P.length<=400;omega,by show 133*a+1+133<=9000000;omega,by show (133+9)*a+1+133<=9000000;omega⟩,?_⟩;rintro _ ⟨R,rfl,hR⟩;refine A1 z lP m6 a6 (by omega) L12 hR hw λs hs=>?_;refine q (!decide (s=0)) ?_;rw[nos_gq,cV,decide_eq_false_iff_not];exact⟨λc=>⟨e3,λe=>c (hs.mpr e)⟩,fun⟨_,c⟩ e=>c (hs.mp e)⟩
end
theorem kY:Does 10 nJ jz:=by
 rintro ds Q hn ⟨⟨P,B,P',B',T,D0,n,m,k,L,a,b⟩,⟨rfl,z,z',lP,lP',h,d0,l0,lT⟩,q⟩;dsimp only at z z' lP lP' h d0 l0 lT q;have q:∀ c:Bool,(c=true↔n=L+1/\Gh P B P' B' a b L λi=>(T i:Rat) / (D0:Rat))->Q (.bl c):=λc hc=>q _ ⟨c,rfl,hc⟩;have ab:=h.ab;have a6:=h.a6;have b6:=h.b6;have m6:=h.m6;have k6:=h.k6;have m1:=h.m1;have k1:=h.k1;have L12:=h.L12;have d1:((P.length:Int)-1)=(m:Int):=by omega
 have d2:((P'.length:Int)-1)=(k:Int):=by omega
 have fa:Int.fdiv ((L:Nat):Int) (m:Int)=(a:Int):=by
  rw[aU _ (by omega),← bP,h.ea]
 have fb:Int.fdiv ((L:Nat):Int) (k:Int)=(b:Int):=by
  rw[aU _ (by omega),← bP,h.eb]
 have w1:a*P.length<=6*7:=aY a6 (by omega);have w2:(b+1)*P'.length<=7*7:=aY (by omega) (by omega);refine⟨rfl,(P,B),rfl,?_⟩;rintro _ rfl;refine⟨rfl,(P',B'),rfl,?_⟩;rintro _ rfl;refine⟨rfl,(m,k),⟨by show [D.int ((P.length:Int)-1),D.int ((P'.length:Int)-1)]=_;rw[d1,d2],m1,k1,by show m<=1000;omega,by show k<=1000;omega⟩,?_⟩;rintro _ rfl;rw[h.eL];show jf.run (s9 Q) [.val (pD P B),.val (pD P' B'),.val (tx n T D0),.val (.int (L:Nat)),.no,.no,.no,.no,.no,.no];refine dSq.cut (λs=>s=[.val (pD P B),.val (pD P' B'),.val (tx n T D0),.val (.int (L:Nat)),.no,.no,.no,.no,.no,.no]/\n=L+1) ?_ ?_
 ·refine DJ (p:=(((List.range n).map λc=>fD (Fr.top (T c) D0) (Fr.bot (T c) D0)).length:Int)=(L:Int)+1) (λc=>u7 q λs=>c ?_) (λc=>⟨rfl,?_⟩)
  ·rw[aa,az,s.1];omega
  ·rw[aa,az] at c;omega
 rintro _ ⟨rfl,rfl⟩;have q:∀ c:Bool,(c=true↔Gh P B P' B' a b L λi=>(T i:Rat) / (D0:Rat))->Q (.bl c):=λc hc=>q c (hc.trans ⟨λs=>⟨rfl,s⟩,λs=>s.2⟩);refine⟨rfl,((List.range (L+1)).map (wN T D0),λ_=>100200,100200),⟨.inr ?_,LU (by omega) d0 l0 lT⟩,?_⟩
 ·show [tx (L+1) T D0]=_;unfold tx xB;rw[bI];rfl
 rintro _ ⟨b0,rfl,b1,lb,dv⟩;rw[aa,az] at lb;have hw:=KH (by omega) d0 lT b1 (lb.mono (Nb (by omega))) dv;generalize (((List.range (L+1)).map (wN T D0)).map λf=>f.1*b0.fdiv f.2)=ws at hw;refine⟨rfl,?_⟩;refine⟨rfl,(P,B),rfl,?_⟩;rintro _ rfl;show (t5 ((L:Nat):Int) ((P.length:Int)-1))/\_;rw[d1];refine⟨⟨by omega,21,tf (by omega) (by omega),by omega⟩,rfl,(P',B'),rfl,?_⟩;rintro _ rfl;show (t5 ((L:Nat):Int) ((P'.length:Int)-1))/\_;rw[d2];refine⟨⟨by omega,21,tf (by omega) (by omega),by omega⟩,?_⟩;show je.run (s9 Q) [.val (pD P B),.val (pD P' B'),.val (tx (L+1) T D0),.val (.int (L:Nat)),.val (.lst (ws.map .int)),.val (.int b0),.val (.int (Int.fdiv ((L:Nat):Int) (m:Int))),.val (.int (Int.fdiv ((L:Nat):Int) (k:Int))),.no,.no];rw[fa,fb];refine⟨rfl,(P,B,0,a,133,133),⟨rfl,aL _,z,by show a*P.length<=400;omega,by show a<=400;omega,by show P.length<=400;omega,by show 133*a+1+133<=9000000;omega,by show (133+9)*a+1+133<=9000000;omega⟩,?_⟩;rintro _ ⟨Rs,rfl,lR,hRs⟩;have lR:Rs.length=a-0:=lR;refine⟨rfl,(P',B',1,b+1,133,133),⟨rfl,by show 1<=b+1;omega,z',by show (b+1)*P'.length<=400;omega,by show b+1<=400;omega,by show P'.length<=400;omega,by show 133*(b+1)+1+133<=9000000;omega,by show (133+9)*(b+1)+1+133<=9000000;omega⟩,?_⟩;rintro _ ⟨Vs,rfl,lV,hVs⟩;have lV:Vs.length=b+1-1:=lV;refine⟨tX (by omega),?_⟩;refine II (x:=.lst (Rs++Vs)) (us:=Rs++Vs) (λK k=>k) z z' lP lP' h hw (by rw[ai];omega) (λi y hi=>?_) q;rcases aJ i Rs.length with c|c
 ·rw[aK c] at hi;obtain⟨R,e,hR⟩:=hRs i y hi;rw[ff] at hR;exact⟨R,e,.inl ⟨by omega,hR⟩⟩
 ·rw[aF c] at hi;obtain⟨R,e,hR⟩:=hVs _ y hi;refine⟨R,e,.inr ⟨by omega,?_⟩⟩;rw[show 1+(i-Rs.length)=i-a+1 by omega] at hR;exact hR
inductive Tq
 | ou (U V:Pl)
 | no (T:Nat->Int) (D0:Int) (n:Nat)
def Tq.d:Tq->D
 | .ou U V=>.tup [.str "outer",pq U,pq V]
 | .no T D0 n=>.tup [.str "none",tx n T D0]
def Tq.ok:Tq->Prop
 | .ou U V=>Pc.Pz 200002 200002 U.1 U.2/\Pc.Pz 200002 200002 V.1 V.2
 | .no T D0 _=>D0≠0/\Lt2 100200 D0/\∀ c,Lt2 100200 (T c)
def Tq.so(P:List Int)(B:Int)(P':List Int)(B':Int)(a b L:Nat):Tq->Prop
 | .ou U V=>Mn P B P' B' a b U V
 | .no T D0 n=>n=L+1/\Gh P B P' B' a b L λi=>(T i:Rat) / (D0:Rat)
def gH:SpB:=.of 3 (α:=List Int×Int×List Int×Int×Tq×Nat×Nat×Nat×Nat×Nat) (λ(P,B,P',B',t,m,k,L,a,b) ds=>ds=[pD P B,pD P' B',t.d]/\Pc.Pz 133 133 P B/\Pc.Pz 133 133 P' B'/\P.length=m+1/\P'.length=k+1/\Hi m k L a b/\t.ok)
 (λ(P,B,P',B',t,m,k,L,a,b) d=>∃ c:Bool,d = .bl c/\(c=true↔t.so P B P' B' a b L))
def hX:SpB:=.of 3 (α:=List Int×Int×List Int×Int×Tq×Nat×Nat×Nat×Nat×Nat) (λ(P,B,P',B',t,m,k,L,a,b) ds=>ds=[pD P B,pD P' B',t.d]/\Pc.Pz 133 133 P B/\Pc.Pz 133 133 P' B'/\P.length=m+1/\P'.length=k+1/\Hi m k L a b/\t.ok)
 (λ(P,B,P',B',t,m,k,L,a,b) d=>∃ c:Bool,d = .bl c/\(c=true↔t.so P B P' B' a b L))
def mV:TSd:=(gr [] (dC (.bl false)))
def mW:TSd:=dSq (dIf [] (ju (gu (gy .Eq (dIx (ga 2) (dC (.int 0))) (dC (.str "none")))) (gu (gy .Eq (dB bLen bLen.mono (fZ (ga 2) gb)) (dC (.int 2)))))
 (gr [] (ge jz (fZ (ga 0) (fZ (ga 1) (fZ (dIx (ga 2) (dC (.int 1))) gb)))))
 gz)
 mV
def iU:TSd:=dSq (dIf [] (ju (gu (gy .Eq (dIx (ga 2) (dC (.int 0))) (dC (.str "outer")))) (gu (gy .Eq (dB bLen bLen.mono (fZ (ga 2) gb)) (dC (.int 3)))))
 (gr [] (ge iC (fZ (ga 0) (fZ (ga 1) (fZ (dIx (ga 2) (dC (.int 1))) (fZ (dIx (ga 2) (dC (.int 2))) gb))))))
 gz)
 mW
theorem mw:Does 3 iU gH:=by
 rintro ds Q hn ⟨⟨P,B,P',B',t,m,k,L,a,b⟩,⟨rfl,z,z',lP,lP',h,o⟩,q⟩;dsimp only at z z' lP lP' h o q;cases t with
 | ou U V =>
  obtain⟨o1,o2⟩:Pc.Pz 200002 200002 U.1 U.2/\Pc.Pz 200002 200002 V.1 V.2:=o;show iU.run (s9 Q) [.val (pD P B),.val (pD P' B'),.val (.tup [.str "outer",pq U,pq V])];exact⟨rfl,(P,B,P',B',U,V,m,k,L,a,b),⟨rfl,z,z',lP,lP',h,o1,o2⟩,q⟩
 | no T D0 n =>
  obtain⟨o1,o2,o3⟩:D0≠0/\Lt2 100200 D0/\∀ c,Lt2 100200 (T c):=o;show iU.run (s9 Q) [.val (pD P B),.val (pD P' B'),.val (.tup [.str "none",tx n T D0])];refine dSq.cut (λs=>s=[.val (pD P B),.val (pD P' B'),.val (.tup [.str "none",tx n T D0])]) ?_ ?_
  ·exact rfl
  rintro _ rfl;exact⟨rfl,(P,B,P',B',T,D0,n,m,k,L,a,b),⟨rfl,z,z',lP,lP',h,o1,o2,o3⟩,q⟩
def qo:TSd:=(gr [] (ge ip (fZ (ga 0) (fZ (ga 1) (fZ (dIx (ga 2) (dC (.int 1))) (fZ (dIx (ga 2) (dC (.int 2))) gb))))))
def mx:TSd:=dSq (dIf [] (gu (gy .Eq (dIx (ga 2) (dC (.int 0))) (dC (.str "none"))))
 (gr [] (ge jy (fZ (ga 0) (fZ (ga 1) (fZ (dIx (ga 2) (dC (.int 1))) gb)))))
 gz)
 qo
theorem pG:Does 3 mx hX:=by
 rintro ds Q hn ⟨⟨P,B,P',B',t,m,k,L,a,b⟩,⟨rfl,z,z',lP,lP',h,o⟩,q⟩;dsimp only at z z' lP lP' h o q;cases t with
 | ou U V =>
  obtain⟨o1,o2⟩:Pc.Pz 200002 200002 U.1 U.2/\Pc.Pz 200002 200002 V.1 V.2:=o;show mx.run (s9 Q) [.val (pD P B),.val (pD P' B'),.val (.tup [.str "outer",pq U,pq V])];refine dSq.cut (λs=>s=[.val (pD P B),.val (pD P' B'),.val (.tup [.str "outer",pq U,pq V])]) ?_ ?_
  ·exact rfl
  rintro _ rfl;exact⟨rfl,(P,B,P',B',U,V,m,k,L,a,b),⟨rfl,z,z',lP,lP',h,o1,o2⟩,q⟩
 | no T D0 n =>
  obtain⟨o1,o2,o3⟩:D0≠0/\Lt2 100200 D0/\∀ c,Lt2 100200 (T c):=o;show mx.run (s9 Q) [.val (pD P B),.val (pD P' B'),.val (.tup [.str "none",tx n T D0])];exact⟨rfl,(P,B,P',B',T,D0,n,m,k,L,a,b),⟨rfl,z,z',lP,lP',h,o1,o2,o3⟩,q⟩
theorem Oj{ss:SS}{n:Nat}{Q:D->Prop}(ht:∀ K:D->Prop,K (.int (n:Int))->te.run ss K)(hb:∀ K:D->Prop,(∀ b:Int,0<b->b<8->K (.int b))->tb.run ss K)(hn:n<=12)(q:∀ P B,Pc.Pz 3 3 P B->P.length=n+1->Q (pD P B)) :
  (ge gh (fZ (gg .Add (gg .Mult (gv (fZ (dC (.int 0)) gb)) te) (gv (fZ (dC (.int 1)) gb))) (fZ tb gb))).run ss Q:=by
 refine⟨vT,ht _ ⟨by omega,by omega,?_,vT,?_,hb _ λb b0 lb=>?_⟩⟩
 ·show 1*(n:Int).toNat<=sizeLine;exact tX (by omega)
 ·show ((List.replicate (n:Int).toNat [D.int 0]).flatten).length+1<=sizeLine;rw[aB,tI,aa,aQ];exact tX (by omega)
 ·have e:(List.replicate (n:Int).toNat [D.int 0]).flatten++[D.int 1]=(List.replicate n (0:Int)++[1]).map D.int:=by
   rw[aB,tI,aN];rfl
  show [D.lst ((List.replicate (n:Int).toNat [D.int 0]).flatten++[D.int 1]),.int b].length=_/\gh.run [D.lst ((List.replicate (n:Int).toNat [D.int 0]).flatten++[D.int 1]),.int b] Q;rw[e];exact zC b0 lb (zb n) (by rw[wu,if_pos rfl];decide) (wa n) hn λP B z l _=>q P B z l
def gQ:SpB:=.of 2 (α:=List Int×Int) (λ(P,B) ds=>ds=[.fl,pD P B]/\Pc.Pz 200002 200002 P B/\1<=P.length/\P.length<=10) (λ(P,B) d=>∃ R C,d=pD R C/\Po.Fm R C/\R.length<=15)
def ig:TSd:=(gr [] (ge gG (fZ (ga 1) (fZ (ge gh (fZ (gv (fZ (dIx (gv (fZ (dC (.int 2)) (fZ (gg .Sub (dC (.int 0)) (dC (.int 1))) gb))) (ge gj (fZ (ga 0) (fZ (dC (.int 2)) gb)))) gb)) (fZ (dC (.int 1)) gb))) gb))))
def jo:TSd:=dSq (dIf [] (ju (gu (gy .Eq (ga 2) (dC (.int 3)))) (gu (gy .Lt (dB bLen bLen.mono (fZ (dIx (ga 1) (dC (.int 0))) gb)) (dC (.int 13)))))
 (gr [] (ge gE (fZ (ga 1) (fZ (ge gh (fZ (gg .Add (gg .Mult (gv (fZ (dC (.int 0)) gb)) (dB bLen bLen.mono (fZ (dIx (ga 1) (dC (.int 0))) gb))) (gv (fZ (dC (.int 1)) gb))) (fZ (dC (.int 1)) gb))) gb))))
 gz)
 ig
def jp:TSd:=dSq (dIf [] (gu (gy .Eq (ga 2) (dC (.int 2))))
 (gr [] (ge gE (fZ (ga 1) (fZ (ge gA (fZ (ga 0) (fZ (dC (.int 3)) gb))) gb))))
 gz)
 jo
def jq:TSd:=dSq (dIf [] (gu (gy .Eq (ga 2) (dC (.int 1))))
 (gr [] (ge gE (fZ (ga 1) (fZ (ge gh (fZ (gg .Add (gg .Mult (gv (fZ (dC (.int 0)) gb)) (gg .Sub (dB bLen bLen.mono (fZ (dIx (ga 1) (dC (.int 0))) gb)) (dC (.int 1)))) (gv (fZ (dC (.int 1)) gb))) (fZ (dC (.int 1)) gb))) gb))))
 gz)
 jp
def jr:TSd:=dSq (dIf [] (gu (gy .Eq (ga 2) (dC (.int 0))))
 (gr [] (ge gE (fZ (ga 1) (fZ (ge gh (fZ (gg .Add (gg .Mult (gv (fZ (dC (.int 0)) gb)) (ga 3)) (gv (fZ (dC (.int 1)) gb))) (fZ (gg .Add (dC (.int 1)) (ge gj (fZ (ga 0) (fZ (dC (.int 4)) gb)))) gb))) gb))))
 gz)
 jq
def jt:TSd:=dSq (gk [] (gNm 3) (ge gj (fZ (ga 0) (fZ (dB bLen bLen.mono (fZ (dIx (ga 1) (dC (.int 0))) gb)) gb))))
 jr
def jP:TSd:=dSq (gk [] (gNm 2) (ge gj (fZ (ga 0) (fZ (dC (.int 5)) gb))))
 jt
section
variable{P:List Int}{B:Int}{Q:D->Prop}
theorem yE{X:List Int}{x:Int}{n b:Nat}(zP:Pc.Pz 200002 200002 P B)(lP:P.length<=10)(zX:Pc.Pz n b X x)(lX:X.length<=15)(hn:n<=100)(hb:b<=100)(q:∀ R C,Po.Fm R C->R.length<=15->Q (pD R C)):[pD P B,pD X x].length=gE.n/\gE.run [pD P B,pD X x] Q:=by
 refine⟨rfl,(P,B,X,x,200002,200002,n,b),⟨rfl,zP,zX,by show 200002+b<=9000000;omega,by show 200002+n<=9000000;omega,by show P.length<=900;omega,by show X.length<=900;omega⟩,?_⟩;rintro _ ⟨R,C,rfl,fR,hR⟩;have hR:∀ k,R.getD k 0*(B*x)=(P.getD k 0*x+X.getD k 0*B)*C:=hR;refine q R C fR (Pc.ub fR (aP zP.fm.pos zX.fm.pos) hR λk hk=>?_);rw[sP (fs:=P) (by omega),sP (fs:=X) (by omega)];simp
theorem Bd{te tb:TEd}{n:Nat}{f i:Int}(zP:Pc.Pz 200002 200002 P B)(lP:P.length<=10)(ht:∀ K:D->Prop,K (.int (n:Int))->te.run [.val .fl,.val (pD P B),.val (.int f),.val (.int i)] K)(hb:∀ K:D->Prop,(∀ b:Int,0<b->b<8->K (.int b))->tb.run [.val .fl,.val (pD P B),.val (.int f),.val (.int i)] K)(hn:n<=12)(q:∀ R C,Po.Fm R C->R.length<=15->Q (pD R C)) :
  (ge gE (fZ (ga 1) (fZ (ge gh (fZ (gg .Add (gg .Mult (gv (fZ (dC (.int 0)) gb)) te) (gv (fZ (dC (.int 1)) gb))) (fZ tb gb))) gb))).run [.val .fl,.val (pD P B),.val (.int f),.val (.int i)] Q :=
 Oj (Q:=λd=>[pD P B,d].length=gE.n/\gE.run [pD P B,d] Q) ht hb hn λX x zX lX=>yE zP lP zX (by omega) (by omega) (by omega) q
end
theorem jg:Does 4 jP gQ:=by
 rintro ds Q hn ⟨⟨P,B⟩,⟨rfl,zP,l1,lP⟩,q⟩;dsimp only at zP l1 lP q;have q:∀ R C,Po.Fm R C->R.length<=15->Q (pD R C):=λR C f l=>q _ ⟨R,C,rfl,f,l⟩;have el:(((P.map D.int).length:Nat):Int)=(P.length:Int):=by rw[aa]
 refine⟨rfl,5,⟨rfl,by decide,xv (by decide)⟩,?_⟩;rintro _ ⟨f,rfl,f0,f1⟩;refine⟨rfl,(((P.map D.int).length:Nat):Int),⟨rfl,by rw[el];omega,xv (by rw[el];omega)⟩,?_⟩;rintro _ ⟨i,rfl,i0,i1⟩;have i1:i<(((P.map D.int).length:Nat):Int):=i1;rw[el] at i1;obtain⟨n,rfl⟩:=bz i0;refine vf (p:=f=0) (λ_=>?_) (λ_=>?_)
 ·refine Bd (n:=n) zP lP (λK k=>k) (λK k=>⟨rfl,4,⟨rfl,by decide,xv (by decide)⟩,?_⟩) (by omega) q;rintro _ ⟨b,rfl,b0,b1⟩;have b0:(0:Int)<=b:=b0;have b1:b<4:=b1;exact k (1+b) (by omega) (by omega)
 refine vf (p:=f=1) (λ_=>?_) (λ_=>?_)
 ·refine Bd (n:=P.length-1) zP lP (λK k=>?_) (λK k=>k 1 (by decide) (by decide)) (by omega) q;show K (.int ((((P.map D.int).length:Nat):Int)-1));rw[el,show (P.length:Int)-1=((P.length-1:Nat):Int) by omega];exact k
 refine vf (p:=f=2) (λ_=>?_) (λ_=>?_)
 ·refine⟨rfl,(3,2),⟨rfl,by decide,by unfold Lt2;decide,by decide,by decide⟩,?_⟩;rintro _ ⟨W,w,rfl,zW,lW,_⟩;have zW:Pc.Pz 8 4 W w:=zW;have lW:W.length=2:=lW;exact yE zP lP zW (by omega) (by omega) (by omega) q
 have last:ig.run (s9 Q) [.val .fl,.val (pD P B),.val (.int f),.val (.int (n:Int))]:=by
  refine⟨tE,rfl,2,⟨rfl,by decide,xv (by decide)⟩,?_⟩;rintro _ ⟨i,rfl,i0,i1⟩;refine wB i0 i1 λx hx=>?_;obtain⟨c,rfl,hc⟩:∃ c:Int,x = .int c/\Lt2 2 c:=by
   rcases ao.mp hx with e|hx
   ·exact⟨2,e,by unfold Lt2;decide⟩
   ·exact⟨0-1,aC.mp hx,by unfold Lt2;decide⟩
  refine⟨vT,rfl,([c],1),⟨.inl rfl,(by decide:(0:Int)<1),xv (m:=1) (by decide),by show 1<=1000;decide⟩,?_⟩;rintro _ ⟨X,x,rfl,fX,wX,lX⟩;have wX:∀ k,X.getD k 0*1=[c].getD k 0*x:=wX;have lX:X.length<=1:=lX;have zX:Pc.Pz 2 2 X x:=Pc.Pz.of fX (by decide) wX (λk=>by
   cases k with
   | zero=>exact hc
   | succ k=>rw[sP (fs:=[c]) (by simp)];exact wO _) (by unfold Lt2;decide)
  refine⟨rfl,(P,B,X,x,200002,200002,2,2),⟨rfl,zP,zX,by show 200002+2<=9000000;omega,by show 200002+2<=9000000;omega,by show P.length<=450;omega,by show X.length<=450;omega⟩,?_⟩;rintro _ ⟨R,C,rfl,fR,hR⟩;have hR:∀ k,R.getD k 0*(B*x)=Cv.cv (Cv.fn P) (Cv.fn X) k*C:=hR;exact q R C fR (Pc.ub fR (aP zP.fm.pos zX.fm.pos) hR λk hk=>Cv.v6 (a:=P.length) (b:=X.length) (λj hj=>Cv.sV hj) (λj hj=>Cv.sV hj) (by omega))
 refine vf (p:=f=3) (λ_=>?_) (λ_=>last);refine vf (p:=(((P.map D.int).length:Nat):Int)<13) (λ_=>?_) (λ_=>last);refine Bd (n:=P.length) zP lP (λK k=>?_) (λK k=>k 1 (by decide) (by decide)) (by omega) q;show K (.int (((P.map D.int).length:Nat):Int));rw[el];exact k
def fr(r:Rat):D:=fD (nd r).1 (nd r).2
theorem xx(h:FqD n b d r):d=fr r:=(FqD.nd h).1
theorem wG{T:Nat->Int}{D0:Int}{n:Nat}(h0:D0≠0)(l0:Lt2 n D0)(lT:∀ c,Lt2 n (T c))(i:Nat):FqD n n (fD (Fr.top (T i) D0) (Fr.bot (T i) D0)) ((T i:Rat) / (D0:Rat)):=by
 obtain⟨y1,y2,y3⟩:=Fr.low (t:=T i) (b:=D0) h0;have y:=Fr.vS (t:=T i) (b:=D0) h0;exact⟨_,_,rfl,y1,y3,(lT i).le y.1,l0.le y.2,(x8 (c:=i) h0).symm⟩
theorem Gp{T:Nat->Int}{D0:Int}{k n:Nat}(h0:D0≠0)(l0:Lt2 n D0)(lT:∀ c,Lt2 n (T c)):tx k T D0 = .tup ((List.range k).map λc=>fr ((T c:Rat) / (D0:Rat))):=by
 unfold tx;congr 1;exact db λc _=>xx (wG h0 l0 lT c)
def WO(d:D):Prop:=∃ T D0 n,d=tx n T D0/\D0≠0/\Lt2 100200 D0/\∀ c,Lt2 100200 (T c)
theorem wc{l:List D}{n:Nat}{T:Nat->Int}{D0:Int}(h0:D0≠0)(l0:Lt2 100200 D0)(lT:∀ c,Lt2 100200 (T c))(len:l.length=n)(h:∀ i,i<n->l[i]? = some (fr ((T i:Rat) / (D0:Rat)))):WO (.tup l):=by
 refine⟨T,D0,n,?_,h0,l0,lT⟩;rw[Gp h0 l0 lT];congr 1;refine x6 len λi y hy=>?_;have:=h i (by have:=(af.mp hy).1;omega);rw[hy] at this;exact Option.some.inj this
theorem Lv{a c:List D}{x:D}{k i:Nat}(la:a.length=k):(a++[x]++c)[i]? = if i<k then a[i]? else if i=k then some x else c[i-k-1]?:=by
 rw[dq];by_cases h:i<k
 ·rw[if_pos h,aK (by omega)]
 ·rw[if_neg h,aF (by omega),la];by_cases e:i=k
  ·rw[if_pos e,e,bY];rfl
  ·rw[if_neg e,show i-k=(i-k-1)+1 by omega];rfl
theorem Dq{a c:List D}{k i:Nat}(la:a.length=k):(a++c)[i]? = if i<k then a[i]? else c[i-k]?:=by
 by_cases h:i<k
 ·rw[if_pos h,aK (by omega)]
 ·rw[if_neg h,aF (by omega),la]
def gY:SpB:=.of 2 (α:=(Nat->Int)×Int×Nat) (λ(T,D0,n) ds=>ds=[.fl,tx n T D0]/\D0≠0/\Lt2 100001 D0/\(∀ c,Lt2 100001 (T c))/\1<=n/\n<=13) (λ_ d=>WO d)
def iG:TSd:=(gr [] (gg .Mult (gm (fZ (gm (fZ (dC (.int 0)) (fZ (dC (.int 1)) gb))) gb)) (dB bLen bLen.mono (fZ (ga 1) gb))))
def iH:TSd:=dSq (dIf [] (gu (gy .Eq (ga 2) (dC (.int 4))))
 (gr [] (gg .Add (ga 1) (gm (fZ (gm (fZ (dC (.int 0)) (fZ (dC (.int 1)) gb))) gb))))
 gz)
 iG
def iI:TSd:=dSq (dIf [] (gu (gy .Eq (ga 2) (dC (.int 3))))
 (gr [] (dB bTuple bTuple.mono (fZ (gB (gD (ga 1)) [5] (gNm 5) gP (ge gV (fZ (ga 5) (fZ (ga 4) gb)))) gb)))
 gz)
 iH
def iJ:TSd:=dSq (dIf [] (gu (gy .Eq (ga 2) (dC (.int 2))))
 (gr [] (gg .Add (dSl (ga 1) dNo (ic (ga 3))) (dSl (ga 1) (ic (gg .Add (ga 3) (dC (.int 1)))) dNo)))
 gz)
 iI
def iK:TSd:=dSq (dIf [] (gu (gy .Eq (ga 2) (dC (.int 1))))
 (gr [] (gg .Add (gg .Add (dSl (ga 1) dNo (ic (ga 3))) (gm (fZ (ga 4) gb))) (dSl (ga 1) (ic (ga 3)) dNo)))
 gz)
 iJ
def iL:TSd:=dSq (dIf [] (gu (gy .Eq (ga 2) (dC (.int 0))))
 (gr [] (gg .Add (gg .Add (dSl (ga 1) dNo (ic (ga 3))) (gm (fZ (ge ix (fZ (dIx (ga 1) (ga 3)) (fZ (ga 4) gb))) gb))) (dSl (ga 1) (ic (gg .Add (ga 3) (dC (.int 1)))) dNo)))
 gz)
 iK
def iM:TSd:=dSq (gk [] (gNm 4) (ge gK (fZ (ga 0) (fZ (dC (.int 9)) gb))))
 iL
def iN:TSd:=dSq (gk [] (gNm 3) (ge gj (fZ (ga 0) (fZ (dB bLen bLen.mono (fZ (ga 1) gb)) gb))))
 iM
def jh:TSd:=dSq (gk [] (gNm 2) (ge gj (fZ (ga 0) (fZ (dC (.int 6)) gb))))
 iN
section
variable{T:Nat->Int}{D0 t u:Int}{n:Nat}
theorem GC{T D0 u:Int}(h0:D0≠0)(u0:0<u):((T*u:Int):Rat) / ((D0*u:Int):Rat)=(T:Rat) / (D0:Rat):=by
 have a:=Qp.tF h0;have b:=Qp.sO u0;rw[ax,ax];generalize (T:Rat)=x;grind
theorem Nm{T D0 t u:Int}(h0:D0≠0)(u0:0<u):((T*u+t*D0:Int):Rat) / ((D0*u:Int):Rat)=(T:Rat) / (D0:Rat)+(t:Rat) / (u:Rat):=by
 have a:=Qp.tF h0;have b:=Qp.sO u0;rw[bU,ax,ax,ax];generalize (T:Rat)=x;generalize (t:Rat)=y;grind
theorem Nk(h0:D0≠0)(u0:0<u):((t*D0:Int):Rat) / ((D0*u:Int):Rat)=(t:Rat) / (u:Rat):=by
 have a:=Qp.tF h0;have b:=Qp.sO u0;rw[ax,ax];generalize (t:Rat)=y;grind
theorem Nl{T D0 t u:Int}(h0:D0≠0)(u0:0<u):((T*t:Int):Rat) / ((D0*u:Int):Rat)=(T:Rat) / (D0:Rat)*((t:Rat) / (u:Rat)):=by
 have a:=Qp.tF h0;have b:=Qp.sO u0;rw[ax,ax];generalize (T:Rat)=x;generalize (t:Rat)=y;grind
def ml(T:Nat->Int)(D0:Int)(n:Nat):List D:=(List.range n).map λc=>fD (Fr.top (T c) D0) (Fr.bot (T c) D0)
theorem tj:(ml T D0 n).length=n:=by unfold ml;rw[aa,az]
theorem u9(h0:D0≠0)(l0:Lt2 100001 D0)(lT:∀ c,Lt2 100001 (T c)){i:Nat}(h:i<n):(ml T D0 n)[i]? = some (fr ((T i:Rat) / (D0:Rat))):=by
 unfold ml;rw[au,br h];exact congrArg some (xx (wG h0 l0 lT i))
variable(h0:D0≠0)(l0:Lt2 100001 D0)(lT:∀ c,Lt2 100001 (T c))(u0:0<u)(lt:Lt2 4 t)(lu:Lt2 4 u)
include h0 l0 lT u0 lt lu in
theorem MR{j:Nat}(hj:j<n):WO (.tup ((ml T D0 n).take j++[fr ((T j:Rat) / (D0:Rat)+(t:Rat) / (u:Rat))]++(ml T D0 n).drop (j+1))):=by
 have la:((ml T D0 n).take j).length=j:=by rw[aM,tj];omega
 refine wc (n:=n) (T:=λc=>if c=j then T c*u+t*D0 else T c*u) (D0:=D0*u) (cw h0 (by omega)) ((l0.mul lu).mono (by omega)) (λc=>?_) ?_ λi hi=>?_
 ·show Lt2 _ (if c=j then T c*u+t*D0 else T c*u);split
  ·exact (((lT c).mul lu).add ((lt.mul l0).mono (by omega))).mono (by omega)
  ·exact ((lT c).mul lu).mono (by omega)
 ·rw[ai,ai,la,bJ,tj];show j+1+(n-(j+1))=n;omega
 ·rw[Lv la];by_cases c:i<j
  ·rw[if_pos c,bN c,u9 h0 l0 lT hi,if_neg (by omega),GC h0 u0]
  ·rw[if_neg c];by_cases e:i=j
   ·rw[if_pos e,if_pos e,Nm h0 u0,e]
   ·rw[if_neg e,if_neg e,GC h0 u0,dY,u9 h0 l0 lT (by omega),show j+1+(i-j-1)=i by omega]
include h0 l0 lT u0 lt lu in
theorem MQ{j:Nat}(hj:j<n):WO (.tup ((ml T D0 n).take j++[fr ((t:Rat) / (u:Rat))]++(ml T D0 n).drop j)):=by
 have la:((ml T D0 n).take j).length=j:=by rw[aM,tj];omega
 refine wc (n:=n+1) (T:=λc=>if c<j then T c*u else if c=j then t*D0 else T (c-1)*u) (D0:=D0*u) (cw h0 (by omega)) ((l0.mul lu).mono (by omega)) (λc=>?_) ?_ λi hi=>?_
 ·show Lt2 _ (if c<j then T c*u else if c=j then t*D0 else T (c-1)*u);split
  ·exact ((lT c).mul lu).mono (by omega)
  ·split
   ·exact (lt.mul l0).mono (by omega)
   ·exact ((lT _).mul lu).mono (by omega)
 ·rw[ai,ai,la,bJ,tj];show j+1+(n-j)=n+1;omega
 ·rw[Lv la];by_cases c:i<j
  ·rw[if_pos c,bN c,u9 h0 l0 lT (by omega),if_pos c,GC h0 u0]
  ·rw[if_neg c,if_neg c];by_cases e:i=j
   ·rw[if_pos e,if_pos e,Nk h0 u0]
   ·rw[if_neg e,if_neg e,GC h0 u0,dY,u9 h0 l0 lT (by omega),show j+(i-j-1)=i-1 by omega]
include h0 l0 lT in
theorem MP{j:Nat}(hj:j<n):WO (.tup ((ml T D0 n).take j++(ml T D0 n).drop (j+1))):=by
 have la:((ml T D0 n).take j).length=j:=by rw[aM,tj];omega
 refine wc (n:=n-1) (T:=λc=>if c<j then T c else T (c+1)) (D0:=D0) h0 (l0.mono (by omega)) (λc=>?_) ?_ λi hi=>?_
 ·show Lt2 _ (if c<j then T c else T (c+1));split
  ·exact (lT c).mono (by omega)
  ·exact (lT _).mono (by omega)
 ·rw[ai,la,bJ,tj];omega
 ·rw[Dq la];by_cases c:i<j
  ·rw[if_pos c,if_pos c,bN c,u9 h0 l0 lT (by omega)]
  ·rw[if_neg c,if_neg c,dY,u9 h0 l0 lT (by omega),show j+1+(i-j)=i+1 by omega]
include h0 l0 lT u0 lt lu in
theorem MO{ys:List D}(ly:ys.length=n)(hy:∀ i y,ys[i]? = some y->y=fr ((T i:Rat) / (D0:Rat)*((t:Rat) / (u:Rat)))):WO (.tup ys):=by
 refine wc (n:=n) (T:=λc=>T c*t) (D0:=D0*u) (cw h0 (by omega)) ((l0.mul lu).mono (by omega)) (λc=>((lT c).mul lt).mono (by omega)) ly λi hi=>?_;rw[Nl h0 u0,ah (by omega)];exact congrArg some (hy i _ (ah (by omega)))
theorem LV:D.tup [.int 0,.int 1]=fr 0:=xx J5
include h0 l0 lT in
theorem MN:WO (.tup (ml T D0 n++[.tup [.int 0,.int 1]])):=by
 refine wc (n:=n+1) (T:=λc=>if c<n then T c else 0) (D0:=D0) h0 (l0.mono (by omega)) (λc=>?_) ?_ λi hi=>?_
 ·show Lt2 _ (if c<n then T c else 0);split
  ·exact (lT c).mono (by omega)
  ·exact wO _
 ·rw[ai,tj];rfl
 ·rw[Dq tj];by_cases c:i<n
  ·rw[if_pos c,if_pos c,u9 h0 l0 lT c]
  ·rw[if_neg c,if_neg c,show i-n=0 by omega,LV,show ((0:Int):Rat) / (D0:Rat)=0 by show (0:Rat) / _=0;grind];rfl
theorem MM:WO (.tup (List.replicate n (.tup [.int 0,.int 1]))):=by
 refine wc (n:=n) (T:=λ_=>0) (D0:=1) (by decide) ((show Lt2 1 1 by decide).mono (by omega)) (λc=>wO _) (aQ ..) λi hi=>?_;rw[cR,if_pos hi,LV];exact congrArg some (congrArg fr (by show (0:Rat)=(0:Rat) / (1:Rat);grind))
end
theorem iE:Does 6 jh gY:=by
 rintro ds Q hn ⟨⟨T,D0,n⟩,⟨rfl,h0,l0,lT,n1,n13⟩,q⟩;dsimp only at h0 l0 lT n1 n13 q;have q:∀ d,WO d->Q d:=q;have el:(((ml T D0 n).length:Nat):Int)=(n:Int):=by rw[tj]
 refine⟨rfl,6,⟨rfl,by decide,xv (by decide)⟩,?_⟩;rintro _ ⟨f,rfl,f0,f1⟩;refine⟨rfl,(((ml T D0 n).length:Nat):Int),⟨rfl,by rw[el];omega,xv (by rw[el];omega)⟩,?_⟩;rintro _ ⟨i,rfl,i0,i1⟩;have i1:i<(((ml T D0 n).length:Nat):Int):=i1;rw[el] at i1;obtain⟨j,rfl⟩:=bz i0;have hj:j<n:=by omega
 refine⟨rfl,(9,4),⟨rfl,by decide,by unfold Lt2;decide,by decide,by decide⟩,?_⟩;rintro _ ⟨x,t,u,rfl,u0,g0,lt,lu,rfl⟩;have lt:Lt2 4 t:=lt;have lu:Lt2 4 u:=lu;have hx:FqD 4 4 (fD t u) ((t:Rat) / (u:Rat)):=⟨t,u,rfl,u0,g0,lt,lu,rfl⟩;have c1:=FO (l:=ml T D0 n) (a:=j) (by rw[tj];omega);have c2:=ym (l:=ml T D0 n) (a:=j) (by rw[tj];omega);have c3:=ym (l:=ml T D0 n) (a:=j+1) (by rw[tj];omega);have e3:((j+1:Nat):Int)=(j:Int)+1:=by omega
 rw[e3] at c3;have t1:((ml T D0 n).take j).length<=13:=by rw[aM,tj];omega
 have t2:((ml T D0 n).drop j).length<=13:=by rw[bJ,tj];omega
 have t3:((ml T D0 n).drop (j+1)).length<=13:=by rw[bJ,tj];omega
 refine vf (p:=f=0) (λ_=>?_) (λ_=>?_)
 ·refine⟨trivial,tv (n:=j) (u9 h0 l0 lT hj) ⟨rfl,(_,_,_,_,100001,100001,4,4),⟨rfl,(xx (wG h0 l0 lT j)) ▸ wG h0 l0 lT j,hx,by show 100001+4<=9000000;omega,by show 100001+4<=9000000;omega,by show 4+100001<=9000000;omega⟩,?_⟩⟩;intro d hd;have e:=xx hd;subst e;refine⟨vT,?_,trivial,?_,?_⟩
  ·show (tN (ml T D0 n) none (some (j:Int))).length+1<=sizeLine;rw[c1];exact tX (by omega)
  ·show (tN (ml T D0 n) none (some (j:Int))++[_]).length+(tN (ml T D0 n) (some ((j:Int)+1)) none).length<=sizeLine;rw[c1,c3,ai];exact tX (by show _+1+_<=_;omega)
  ·show Q (.tup (tN (ml T D0 n) none (some (j:Int))++[fr _]++tN (ml T D0 n) (some ((j:Int)+1)) none));rw[c1,c3];exact q _ (MR h0 l0 lT u0 lt lu hj)
 refine vf (p:=f=1) (λ_=>?_) (λ_=>?_)
 ·refine⟨trivial,vT,?_,trivial,?_,?_⟩
  ·show (tN (ml T D0 n) none (some (j:Int))).length+1<=sizeLine;rw[c1];exact tX (by omega)
  ·show (tN (ml T D0 n) none (some (j:Int))++[_]).length+(tN (ml T D0 n) (some (j:Int)) none).length<=sizeLine;rw[c1,c2,ai];exact tX (by show _+1+_<=_;omega)
  ·show Q (.tup (tN (ml T D0 n) none (some (j:Int))++[fD t u]++tN (ml T D0 n) (some (j:Int)) none));rw[c1,c2,xx hx];exact q _ (MQ h0 l0 lT u0 lt lu hj)
 refine vf (p:=f=2) (λ_=>?_) (λ_=>?_)
 ·refine⟨trivial,trivial,?_,?_⟩
  ·show (tN (ml T D0 n) none (some (j:Int))).length+(tN (ml T D0 n) (some ((j:Int)+1)) none).length<=sizeLine;rw[c1,c3];exact tX (by omega)
  ·show Q (.tup (tN (ml T D0 n) none (some (j:Int))++tN (ml T D0 n) (some ((j:Int)+1)) none));rw[c1,c3];exact q _ (MP h0 l0 lT hj)
 refine vf (p:=f=3) (λ_=>?_) (λ_=>?_)
 ·refine (tM (ds:=ml T D0 n) (s0:=t8 [5] [.val .fl,.val (tx n T D0),.val (.int f),.val (.int (j:Int)),.val (fD t u),.no]) (g:=gNm 5) (e:=ge gV (fZ (ga 5) (fZ (ga 4) gb))) (Q:=λd=>bTuple [d] Q) (λi y=>y=fr ((T i:Rat) / (D0:Rat)*((t:Rat) / (u:Rat)))) (by show (ml T D0 n).length<=_;rw[tj];omega) (λi d hd=>?_) λys ly hy=>?_)
  ·have hd:(ml T D0 n)[i]? = some d:=hd;have hi:i<n:=by have:=(af.mp hd).1;rw[tj] at this;exact this
   have Fg:=wG h0 l0 lT i;obtain⟨v,w,e,w0,_,lv,lw,ev⟩:=Fg;unfold ml at hd;rw[au,br hi] at hd;have hd:=Option.some.inj hd;have hd:fD (Fr.top (T i) D0) (Fr.bot (T i) D0)=d:=hd;rw[← hd,e,ev];refine⟨rfl,(v,w,fD t u,(t:Rat) / (u:Rat),100001,100001,4,4),⟨rfl,w0,lv,lw,hx,by show 100001+4<=9000000;omega,by show 100001+4<=9000000;omega⟩,?_⟩;intro d hd;exact xx hd
  ·exact q _ (MO h0 l0 lT u0 lt lu (ly.trans tj) hy)
 refine vf (p:=f=4) (λ_=>?_) (λ_=>?_)
 ·refine⟨tE,vT,?_,q _ (MN h0 l0 lT)⟩;show (ml T D0 n).length+1<=sizeLine;rw[tj];exact tX (by omega)
 ·refine⟨tE,vT,by simp,?_,?_,?_⟩
  ·show 1<=(((ml T D0 n).length:Nat):Int);rw[el];omega
  ·show 1*(((ml T D0 n).length:Nat):Int).toNat<=100000;rw[el];omega
  ·show Q (.tup (List.replicate (((ml T D0 n).length:Nat):Int).toNat [D.tup [.int 0,.int 1]]).flatten);rw[el,aB,List.flatten_replicate_singleton];exact q _ MM
def Tq.tk:Tq->Prop
 | .ou U V=>Pc.Pz 200002 200002 U.1 U.2/\Pc.Pz 200002 200002 V.1 V.2/\(2<=U.1.length/\U.1.length<=7)/\2<=V.1.length/\V.1.length<=7
 | .no T D0 n=>D0≠0/\Lt2 100001 D0/\(∀ c,Lt2 100001 (T c))/\1<=n/\n<=13
def Tq.lo:Tq->Prop
 | .ou U V=>Po.Fm U.1 U.2/\Po.Fm V.1 V.2/\U.1.length<=15/\V.1.length<=15
 | .no T D0 _=>D0≠0/\Lt2 100200 D0/\∀ c,Lt2 100200 (T c)
def OQ(d:D):Prop:=∃ t:Tq,d=t.d/\t.lo
theorem EQ(h:WO d):OQ (.tup [.str "none",d]):=by
 obtain⟨T,D0,n,rfl,h⟩:=h;exact⟨.no T D0 n,rfl,h⟩
theorem ya{U V:List Int}{B C:Int}(fU:Po.Fm U B)(fV:Po.Fm V C)(lU:U.length<=15)(lV:V.length<=15):OQ (.tup [.str "outer",pD U B,pD V C]):=⟨.ou (U,B) (V,C),rfl,fU,fV,lU,lV⟩
def nK:SpB:=.of 2 (α:=Tq) (λt ds=>ds=[.fl,t.d]/\t.tk) (λ_ d=>OQ d)
def qp:TSd:=(gr [] (dIx (gv (fZ (gm (fZ (dC (.str "outer")) (fZ (gm (fZ (gm gb) (fZ (dC (.int 1)) gb))) (fZ (dIx (ga 1) (dC (.int 2))) gb)))) (fZ (gm (fZ (dC (.str "outer")) (fZ (dIx (ga 1) (dC (.int 1))) (fZ (gm (fZ (gm gb) (fZ (dC (.int 1)) gb))) gb)))) gb))) (ge gj (fZ (ga 0) (fZ (dC (.int 2)) gb)))))
def my:TSd:=dSq (dIf [] (gu (gy .Eq (dIx (ga 1) (dC (.int 0))) (dC (.str "none"))))
 (gr [] (gm (fZ (dC (.str "none")) (fZ (dIx (gv (fZ (gm gb) (fZ (dSl (gg .Mult (dIx (ga 1) (dC (.int 1))) (dC (.int 4))) dNo (ic (dC (.int 24)))) gb))) (ge gj (fZ (ga 0) (fZ (dC (.int 2)) gb)))) gb))))
 gz)
 qp
section
variable{T:Nat->Int}{D0:Int}{n:Nat}(h0:D0≠0)(l0:Lt2 100001 D0)(lT:∀ c,Lt2 100001 (T c))
include h0 l0 lT in
theorem ML:WO (.tup ((ml T D0 n++(ml T D0 n++(ml T D0 n++(ml T D0 n++[])))).take 24)):=by
 refine wc (n:=min 24 (4*n)) (T:=λc=>if c<n then T c else if c<2*n then T (c-n) else if c<3*n then T (c-2*n) else T (c-3*n)) (D0:=D0) h0 (l0.mono (by omega)) (λc=>?_) ?_ λi hi=>?_
 ·show Lt2 _ (if c<n then T c else if c<2*n then T (c-n) else if c<3*n then T (c-2*n) else T (c-3*n));split
  ·exact (lT _).mono (by omega)
  ·split
   ·exact (lT _).mono (by omega)
   ·split
    ·exact (lT _).mono (by omega)
    ·exact (lT _).mono (by omega)
 ·simp only[aM,ai,tj,List.length_nil];omega
 ·rw[bN (by omega),Dq tj];by_cases c:i<n
  ·rw[if_pos c,if_pos c,u9 h0 l0 lT c]
  rw[if_neg c,if_neg c,Dq tj];by_cases c:i<2*n
  ·rw[if_pos (by omega),if_pos c,u9 h0 l0 lT (by omega)]
  rw[if_neg (by omega),if_neg c,Dq tj];by_cases c:i<3*n
  ·rw[if_pos (by omega),if_pos c,u9 h0 l0 lT (by omega),show i-n-n=i-2*n by omega]
  rw[if_neg (by omega),if_neg c,Dq tj,if_pos (by omega),u9 h0 l0 lT (by omega),show i-n-n-n=i-3*n by omega]
theorem MK:WO (.tup []):=wc (n:=0) (T:=λ_=>0) (D0:=1) (by decide) ((show Lt2 1 1 by decide).mono (by omega)) (λc=>wO _) rfl λi hi=>absurd hi (bV _)
end
theorem L6{l:List D}:tN l none (some 24)=l.take 24:=by
 unfold tN;rw[HT.wp,show (24:Int)=((24:Nat):Int) from rfl,HT.xE,dR,cD];rcases aJ l.length 24 with c|c
 ·rw[Nat.min_eq_right (by omega),bE,dI (by omega)]
 ·rw[cH c]
theorem Fj:Po.Fm [] 1:=⟨by decide,.inl rfl,rfl⟩
theorem pH:Does 2 my nK:=by
 rintro ds Q hn ⟨t,⟨rfl,k⟩,q⟩;dsimp only at k q;have q:∀ d,OQ d->Q d:=q;cases t with
 | no T D0 n =>
  obtain⟨h0,l0,lT,n1,n13⟩:D0≠0/\Lt2 100001 D0/\(∀ c,Lt2 100001 (T c))/\1<=n/\n<=13:=k;have ne:ml T D0 n≠[]:=λe=>by have:=tj (T:=T) (D0:=D0) (n:=n);rw[e] at this;simp at this;omega
  show my.run (s9 Q) [.val .fl,.val (.tup [.str "none",.tup (ml T D0 n)])];refine⟨aL _,ne,by decide,?_,trivial,tE,rfl,2,⟨rfl,by decide,xv (by decide)⟩,?_⟩
  ·show (ml T D0 n).length*4<=100000;rw[tj];omega
  rintro _ ⟨i,rfl,i0,i1⟩;refine wB i0 i1 λx hx=>⟨tE,q _ (EQ ?_)⟩;rcases ao.mp hx with rfl|hx
  ·exact MK
  ·rw[aC.mp hx,L6];exact ML h0 l0 lT
 | ou U V =>
  obtain⟨z1,z2,l1,l2⟩:Pc.Pz 200002 200002 U.1 U.2/\Pc.Pz 200002 200002 V.1 V.2/\(2<=U.1.length/\U.1.length<=7)/\2<=V.1.length/\V.1.length<=7:=k;show my.run (s9 Q) [.val .fl,.val (.tup [.str "outer",pq U,pq V])];refine⟨aL _,tE,tX (by show 3<=_;omega),aL _,tE,tX (by show 3<=_;omega),tE,rfl,2,⟨rfl,by decide,xv (by decide)⟩,?_⟩;rintro _ ⟨i,rfl,i0,i1⟩;refine wB i0 i1 λx hx=>q _ ?_;rcases ao.mp hx with rfl|hx
  ·exact ya Fj z2.fm (aL _) (by omega)
  ·rw[aC.mp hx];exact ya z1.fm Fj (by omega) (aL _)
def iF:SpB:=.of 4 (α:=List Int×Int×List Int×Int×Nat×Nat×Nat×Nat×Nat×Tq) (λ(P,B,R,C,m,k,L,a,b,t) ds=>ds=[.fl,pD P B,pD R C,t.d]/\Po.Fm P B/\Po.Fm R C/\P.length=m+1/\R.length=k+1/\Hi m k L a b/\t.tk) (λ_ d=>OQ d)
def kZ:TSd:=(gr [] (gm (fZ (dC (.str "outer")) (fZ (ga 7) (fZ (ge gQ (fZ (ga 0) (fZ (ga 8) gb))) gb)))))
def ld:TSd:=dSq (dIf [] (gu (gy .Lt (ga 4) (dC (.int 6))))
 (gr [] (gm (fZ (dC (.str "outer")) (fZ (ge gQ (fZ (ga 0) (fZ (ga 7) gb))) (fZ (ga 8) gb)))))
 gz)
 kZ
def lh:TSd:=dSq (dIf [] (gu (gy .Eq (ga 4) (dC (.int 3))))
 (dSq (gk [] (gNm 9) (ge gA (fZ (ga 0) (fZ (dC (.int 3)) gb))))
 (gr [] (gm (fZ (dC (.str "outer")) (fZ (ge gw (fZ (ga 9) (fZ (ga 7) gb))) (fZ (ge gw (fZ (ga 9) (fZ (ga 8) gb))) gb))))))
 gz)
 ld
def iQ:TSd:=dSq (dIf [] (gu (gy .Eq (ga 4) (dC (.int 2))))
 (gr [] (gm (fZ (dC (.str "outer")) (fZ (ga 8) (fZ (ga 7) gb)))))
 gz)
 lh
def lj:TSd:=dSq (gk [] (gTp [7,8]) (dSl (ga 3) (ic (dC (.int 1))) dNo))
 iQ
def lB:TSd:=dSq (dIf [] (gu (gy .Eq (dIx (ga 3) (dC (.int 0))) (dC (.str "none"))))
 (gr [] (gm (fZ (dC (.str "none")) (fZ (ge gY (fZ (ga 0) (fZ (dIx (ga 3) (dC (.int 1))) gb))) gb))))
 gz)
 lj
def lC:TSd:=dSq (dIf [] (gu (gy .Eq (ga 4) (dC (.int 1))))
 (gr [] (gm (fZ (dC (.str "outer")) (fZ (ga 1) (fZ (ga 2) gb)))))
 gz)
 lB
def lD:TSd:=dSq (dIf [] (gu (gy .Eq (ga 4) (dC (.int 0))))
 (dSq (gk [] (gNm 5) (dIx (ge iu (fZ (ga 1) (fZ (ga 2) gb))) (dC (.int 0))))
 (gr [] (gm (fZ (dC (.str "none")) (fZ (dB bTuple bTuple.mono (fZ (gB (jB (gg .Add (ga 5) (dC (.int 1)))) [6] (gNm 6) gP (ge gK (fZ (ga 0) (fZ (dC (.int 3)) gb)))) gb)) gb)))))
 gz)
 lC
def lE:TSd:=dSq (dIf [] (gu (gy .Gt (ga 4) (dC (.int 7))))
 (gr [] (ge nK (fZ (ga 0) (fZ (ga 3) gb))))
 gz)
 lD
def mX:TSd:=dSq (gk [] (gNm 4) (ge gj (fZ (ga 0) (fZ (dC (.int 10)) gb))))
 lE
theorem DL(h:∀(i:Nat) (y:D),ys[i]? = some y->∃ r,FqD 2 2 y r):WO (.tup ys):=by
 have key:∀ i:Nat,∃ z:Int,Lt2 5 z/\(i<ys.length->ys[i]? = some (fr ((z:Rat) / ((6:Int):Rat)))):=λi=>by
  rcases aJ i ys.length with c|c
  ·obtain⟨r,hr⟩:=h i _ (ah c);have e:=xx hr;obtain⟨t,u,_,u0,_,lt,lu,rfl⟩:=hr;have lt:t.natAbs<4:=lt;have lu:u.natAbs<4:=lu;have s6:∀ z:Int,Lt2 5 z->z*u=t*6->∃ z:Int,Lt2 5 z/\(i<ys.length->ys[i]? = some (fr ((z:Rat) / ((6:Int):Rat)))):=λz lz hz=>⟨z,lz,λ_=>by
    rw[ah c,e,(Qp.uc (by decide) (by omega)).mpr hz]⟩
   rcases (by omega:u=1\/u=2\/u=3) with rfl|rfl|rfl
   ·exact s6 (6*t) (by unfold Lt2;show _<32;omega) (by omega)
   ·exact s6 (3*t) (by unfold Lt2;show _<32;omega) (by omega)
   ·exact s6 (2*t) (by unfold Lt2;show _<32;omega) (by omega)
  ·exact⟨0,wO _,λx=>absurd x (by omega)⟩
 obtain⟨T,hT⟩:=Classical.axiomOfChoice key;exact wc (n:=ys.length) (T:=T) (D0:=6) (by decide) ((show Lt2 3 6 by decide).mono (by omega)) (λc=>(hT c).1.mono (by omega)) rfl λi hi=>(hT i).2 hi
theorem Cp(zW:Pc.Pz 8 4 W w)(lW:W.length=2)(zU:Pc.Pz 200002 200002 U C)(l1:2<=U.length)(l7:U.length<=7)(q:∀ R D,Po.Fm R D->R.length<=15->Q (pD R D)):[pD W w,pD U C].length=gw.n/\gw.run [pD W w,pD U C] Q:=by
 refine⟨rfl,(W,w,U,C,8,4,200002,200002),⟨rfl,zW,zU,by show 4+4+200002*W.length<=8900000;omega,by show 8+(200002+200002+10)*(W.length+1)<=4000000;omega,?_,by show W.length<=190;omega,by show U.length<=190;omega⟩,?_⟩
 ·show W.length*U.length<=190;rw[lW];omega
 rintro _ ⟨R,D,rfl,o⟩;have o:Pc.Of W w U C R D:=o;have l:=Pc.Of.deg_eq zW.fm.pos zU.fm.pos o (n:=1) lW (d:=U.length-1) (by omega) (by omega) (vZ zW.fm lW) (vZ zU.fm (by omega));exact q R D o.1 (by omega)
theorem jQ:Does 10 mX iF:=by
 rintro ds Q hn ⟨⟨P,B,R,C,m,k,L,a,b,t⟩,⟨rfl,fP,fR,lP,lR,h,tk⟩,q⟩;dsimp only at fP fR lP lR h tk q;have q:∀ d,OQ d->Q d:=q;have L12:=h.L12;have m6:=h.m6;have k6:=h.k6;refine⟨rfl,10,⟨rfl,by decide,xv (by decide)⟩,?_⟩;rintro _ ⟨f,rfl,f0,f1⟩;refine vf (p:=(7:Int)<f) (λ_=>⟨rfl,t,⟨rfl,tk⟩,q⟩) (λ_=>?_);refine vf (p:=f=0) (λ_=>?_) (λ_=>?_)
 ·refine⟨rfl,(P,B,R,C,m,k,L,a,b),⟨rfl,lP,lR,h⟩,?_⟩;rintro _ rfl;refine⟨by omega,by omega,?_⟩;refine tM (λi y=>∃ r,FqD 2 2 y r) (by rw[td];omega) (λi d hd=>?_) λys ly hy=>⟨tE,q _ (EQ (DL hy))⟩;exact⟨rfl,(3,2),⟨rfl,by decide,by unfold Lt2;decide,by decide,by decide⟩,λd hd=>hd⟩
 refine vf (p:=f=1) (λ_=>⟨tX (by show 3<=_;omega),q _ (ya fP fR (by omega) (by omega))⟩) (λ_=>?_);cases t with
 | no T D0 n =>
  obtain⟨h0,l0,lT,n1,n13⟩:D0≠0/\Lt2 100001 D0/\(∀ c,Lt2 100001 (T c))/\1<=n/\n<=13:=tk;exact⟨rfl,(T,D0,n),⟨rfl,h0,l0,lT,n1,n13⟩,λd hd=>⟨tE,q _ (EQ hd)⟩⟩
 | ou U V =>
  obtain⟨z1,z2,l1,l2⟩:Pc.Pz 200002 200002 U.1 U.2/\Pc.Pz 200002 200002 V.1 V.2/\(2<=U.1.length/\U.1.length<=7)/\2<=V.1.length/\V.1.length<=7:=tk;refine⟨trivial,rfl,?_⟩;show iQ.run (s9 Q) [.val .fl,.val (pD P B),.val (pD R C),.val (.tup [.str "outer",pq U,pq V]),.val (.int f),.no,.no,.val (pq U),.val (pq V),.no];refine vf (p:=f=2) (λ_=>⟨tX (by show 3<=_;omega),q _ (ya z2.fm z1.fm (by omega) (by omega))⟩) (λ_=>?_);refine vf (p:=f=3) (λ_=>?_) (λ_=>?_)
  ·refine⟨rfl,(3,2),⟨rfl,by decide,by unfold Lt2;decide,by decide,by decide⟩,?_⟩;rintro _ ⟨W,w,rfl,zW,lW,_⟩;refine Cp zW lW z1 l1.1 l1.2 λR1 D1 f1 g1=>?_;refine Cp zW lW z2 l2.1 l2.2 λR2 D2 f2 g2=>?_;exact⟨tX (by show 3<=_;omega),q _ (ya f1 f2 g1 g2)⟩
  refine vf (p:=f<6) (λ_=>?_) (λ_=>?_)
  ·refine⟨rfl,(U.1,U.2),⟨rfl,z1,by show 1<=U.1.length;omega,by show U.1.length<=10;omega⟩,?_⟩;rintro _ ⟨R1,D1,rfl,f1,g1⟩;exact⟨tX (by show 3<=_;omega),q _ (ya f1 z2.fm g1 (by omega))⟩
  ·refine⟨rfl,(V.1,V.2),⟨rfl,z2,by show 1<=V.1.length;omega,by show V.1.length<=10;omega⟩,?_⟩;rintro _ ⟨R1,D1,rfl,f1,g1⟩;exact⟨tX (by show 3<=_;omega),q _ (ya z1.fm f1 (by omega) g1)⟩
def gL:SpB:=.of 1 (α:=List Pl) (λcs ds=>(ds=[.lst (cs.map pq)]\/ds=[.tup (cs.map pq)])/\(∀ p∈cs,0<p.2/\p.1.length<=1000)) (λcs d=>∃ c:Bool,d = .bl c/\(c=true->∀ p∈cs,Lt2 133 p.2/\∀ i,Lt2 133 (p.1.getD i 0)))
theorem mY:Does 3 nw gL:=by
 rintro ds Q hn ⟨cs,⟨hds,hp⟩,q⟩;dsimp only at hds hp q;have cp:Gf 10 40:=⟨by decide,by decide,by decide⟩;have go:∀ x:D,(∀ K:List D->Prop,K (cs.map pq)->itemsD x K)->nw.run (s9 Q) [.val x,.no,.no]:=λx hx=>by
  refine hx _ ⟨λi s=>(∃ o o':SD,s=[.val x,o,o'])/\∀ j p,j<i->cs[j]? = some p->Lt2 133 p.2/\∀ i,Lt2 133 (p.1.getD i 0),⟨⟨.no,.no,rfl⟩,λj p h=>absurd h (bV _)⟩,?_,?_⟩
  ·rintro i d _ hd ⟨⟨o,o',rfl⟩,hI⟩;have hd:(cs.map pq)[i]? = some d:=hd;rw[au] at hd;obtain⟨p,hp1,rfl⟩:=ac.mp hd;obtain⟨b0,ll⟩:=hp p (ay hp1);refine⟨(congrArg (· <= sizeLine) (aa _)).mpr (tX (by omega)),mI (λz:Int=>((z.natAbs:Nat):Int)) p.1,mI.nil,λj d ys hd _ hy=>?_,λys _ hy=>?_⟩
   ·obtain⟨z,hz,rfl⟩:=wD hd;exact hy.snoc hz (Ad z)
   cases hy.all (by rw[aa]);refine⟨vT,by rw[aa,aa];exact tX (by show p.1.length+1<=_;omega),p.1.map (λz:Int=>((z.natAbs:Nat):Int))++[p.2],by rw[aN];rfl,by simp,λM hM hle=>⟨cp,?_⟩⟩;refine vf (p:=(10:Int)^40<=M) (λc=>q _ ⟨false,rfl,λz=>by cases z⟩) (λc=>⟨⟨_,_,rfl⟩,λj p' hj hp'=>?_⟩);rcases bB (bQ hj) with e|e
   ·rw[e,hp1] at hp';cases hp';have lt:∀ a∈p.1.map (λz:Int=>((z.natAbs:Nat):Int))++[p.2],a<(10:Int)^40:=λa ha=>by
     have:=hle a ha;omega
    refine⟨?_,λi=>?_⟩
    ·have:=lt p.2 (by simp);exact EY (by rw[Int.natAbs_of_nonneg (by omega)];exact this)
    ·rcases aJ i p.1.length with x|x
     ·exact EY (lt _ (aW.mpr (.inl (bg.mpr ⟨_,xw x,rfl⟩))))
     ·rw[sP x];exact wO _
   ·exact hI j p' e hp'
  ·rintro _ ⟨⟨o,o',rfl⟩,hI⟩;rw[aa] at hI;refine q _ ⟨true,rfl,λ_ p hp=>?_⟩;obtain⟨j,hj⟩:=dO.mp hp;exact hI j p (af.mp hj).1 hj
 rcases hds with rfl|rfl
 ·exact go _ λK k=>k
 ·exact go _ λK k=>k
def oF:TSd:=(gr [] (gy .Is (ge gH (fZ (ga 2) (fZ (ga 3) (fZ (ga 4) gb)))) (dC (.bl true))))
def oG:TSd:=dSq (ia [] (gD (gv (fZ (gm (fZ (ga 3) (fZ (ga 2) gb))) (fZ (gm (fZ (ga 2) (fZ (ga 2) gb))) gb)))) (gTp [10,11])
 (dIf [] (gu (gy .NotEq (ge gH (fZ (ga 10) (fZ (ga 11) (fZ (ga 4) gb)))) (ge hX (fZ (ga 10) (fZ (ga 11) (fZ (ga 4) gb))))))
 (gr [] (dC (.bl false)))
 gz))
 oF
def mz:TSd:=dSq (ia [] (gD (gg .Add (gg .Add (ga 7) (gv (fZ (ga 4) gb))) (dSl (ga 7) dNo (ic (dC (.int 2)))))) (gNm 8)
 (dSq (gk [] (gNm 9) (ge gH (fZ (ga 2) (fZ (ga 3) (fZ (ga 8) gb)))))
 (dIf [] (jS (jG (jF (rF .bool (ga 9)))) (gu (gy .NotEq (ga 9) (ge hX (fZ (ga 2) (fZ (ga 3) (fZ (ga 8) gb)))))))
 (gr [] (dC (.bl false)))
 gz)))
 oG
def oH:TSd:=dSq (gk [] (gNm 7) (gB (gD (ga 5)) [8] (gNm 8) (jS (gu (gy .Eq (dIx (ga 8) (dC (.int 0))) (dC (.str "none")))) (jF (ge gL (fZ (dSl (ga 8) (ic (dC (.int 1))) dNo) gb)))) (ga 8)))
 mz
def oI:TSd:=dSq (gk [] (gNm 5) (gB (jB (dC (.int 4))) [6] (gNm 6) gP (ge iF (fZ (ga 1) (fZ (ga 2) (fZ (ga 3) (fZ (ga 4) gb)))))))
 oH
def oJ:TSd:=dSq (dIf [] (jS (gu (gy .IsNot (ge gH (fZ (ga 2) (fZ (ga 3) (fZ (ga 4) gb)))) (dC (.bl true)))) (jG (jF (ge hX (fZ (ga 2) (fZ (ga 3) (fZ (ga 4) gb)))))))
 (gr [] (dC (.bl false)))
 gz)
 oI
def oK:TSd:=dSq (gk [] (gNm 4) (ge gZ (fZ (ga 2) (fZ (ga 3) gb))))
 oJ
def oN:TSd:=dSq (dIf [] (jG (jF (ge gL (fZ (gv (fZ (ga 2) (fZ (ga 3) gb))) gb))))
 (gr [] (dC (.bl true)))
 gz)
 oK
def si:TSd:=dSq (gk [] (gTp [2,3]) (ge iP (fZ (ga 1) gb)))
 oN
theorem FQ(W:D->Prop)(hl:ds.length<=100)(h:∀ d∈ds,g.run d s0 λs1=>c.run s1 λk=>if k=true then e.run s1 W else True)(q:∀ ys:List D,ys.length<=ds.length->(∀ y∈ys,W y)->Q (.lst ys)):compD ds s0 g c e Q:=by
 refine⟨tX (by omega),λ_ ys=>∀ y∈ys,W y,λy hy=>absurd hy aO,λi d ys hd _ hy=>?_,λys l hy=>q ys l hy⟩;refine g.mono (λs1 w=>c.mono (λk w=>?_) w) (h d (ay hd));cases k
 ·exact hy
 ·have w:e.run s1 W:=w;refine e.mono (λy w=>?_) w;intro z hz;rcases aW.mp hz with x|x
  ·exact hy z x
  ·rw[aC.mp x];exact w
theorem Hz{l:List D}{lo hi:Option Int}{y:D}(h:y∈tN l lo hi):y∈l:=List.mem_of_mem_drop (List.mem_of_mem_take h)
theorem HA{l:List D}{lo hi:Option Int}:(tN l lo hi).length<=l.length:=by
 unfold tN;rw[aM,bJ];omega
def ME(d:D):Prop:=∃ t:Tq,d=t.d/\t.ok
section
variable{P R:List Int}{B C:Int}{m k L a b:Nat}
theorem K58.oh{t:Tq}(h:K58 P B R C m k L a b)(o:t.ok){Q:D->Prop}(q:∀ c:Bool,(c=true↔t.so P B R C a b L)->Q (.bl c)):[pD P B,pD R C,t.d].length=gH.n/\gH.run [pD P B,pD R C,t.d] Q:=⟨rfl,(P,B,R,C,t,m,k,L,a,b),⟨rfl,h.z,h.z',h.l,h.l',h.h,o⟩,λ_ ⟨c,e,hc⟩=>by rw[e];exact q c hc⟩
theorem K58.du{t:Tq}(h:K58 P B R C m k L a b)(o:t.ok){Q:D->Prop}(q:∀ c:Bool,(c=true↔t.so P B R C a b L)->Q (.bl c)):[pD P B,pD R C,t.d].length=hX.n/\hX.run [pD P B,pD R C,t.d] Q:=⟨rfl,(P,B,R,C,t,m,k,L,a,b),⟨rfl,h.z,h.z',h.l,h.l',h.h,o⟩,λ_ ⟨c,e,hc⟩=>by rw[e];exact q c hc⟩
theorem L8(h:K58 P B R C m k L a b)(c:NX P B R C a b L d):∃ t:Tq,d=t.d/\t.tk/\t.ok/\t.so P B R C a b L:=by
 have a1:=h.h.a1;have a6:=h.h.a6;have b1:=h.h.b1;have b6:=h.h.b6;have L12:=h.h.L12;rcases c with⟨U,V,rfl,o⟩|⟨T,D0,rfl,d0,l0,lT,w⟩
 ·have lU:=o.lU;have lV:=o.lV;exact⟨.ou U V,rfl,⟨o.zU,o.zV,⟨by omega,by omega⟩,by omega,by omega⟩,⟨o.zU,o.zV⟩,lU,lV,o.one,o.nil,o.same⟩
 ·exact⟨.no T D0 (L+1),rfl,⟨d0,l0,lT,by omega,by omega⟩,⟨d0,l0.mono (by omega),λc=>(lT c).mono (by omega)⟩,rfl,w.f0,w.g0,by rw[w.f1];decide⟩
theorem J6(fP:Po.Fm P B)(lP:P.length=m+1)(fR:Po.Fm R C)(lR:R.length=k+1)(h:Hi m k L a b)(q0:Q (.bl false))(q1:K58 P B R C m k L a b->Q (.bl true)):[D.lst [pD P B,pD R C]].length=gL.n/\gL.run [.lst [pD P B,pD R C]] Q:=by
 have m6:=h.m6;have k6:=h.k6;refine⟨rfl,[(P,B),(R,C)],⟨.inl rfl,λp hp=>?_⟩,?_⟩
 ·rcases ao.mp hp with z|hp
  ·rw[z];exact⟨fP.pos,by show P.length<=1000;omega⟩
  ·rw[aC.mp hp];exact⟨fR.pos,by show R.length<=1000;omega⟩
 rintro _ ⟨c,rfl,hc⟩;cases c with
 | false=>exact q0
 | true =>
  have hc:=hc rfl;have b1:=hc (P,B) (av ..);have b2:=hc (R,C) (aw _ (av ..));exact q1 ⟨⟨fP,b1.2,b1.1⟩,⟨fR,b2.2,b2.1⟩,lP,lR,h⟩
theorem Ga{U V:Pl}(fU:Po.Fm U.1 U.2)(fV:Po.Fm V.1 V.2)(lU:U.1.length<=15)(lV:V.1.length<=15){Q:D->Prop}(q:∀ c:Bool,(c=true->ME (.tup [.str "outer",pq U,pq V]))->Q (.bl c)):[D.tup [pq U,pq V]].length=gL.n/\gL.run [.tup [pq U,pq V]] Q:=by
 refine⟨rfl,[U,V],⟨.inr rfl,λp hp=>?_⟩,?_⟩
 ·rcases ao.mp hp with z|hp
  ·rw[z];exact⟨fU.pos,by omega⟩
  ·rw[aC.mp hp];exact⟨fV.pos,by omega⟩
 rintro _ ⟨c,rfl,hc⟩;refine q c λe=>?_;have hc:=hc e;have b1:=hc U (av ..);have b2:=hc V (aw _ (av ..));exact⟨.ou U V,rfl,⟨fU,λi=>(b1.2 i).mono (by omega),b1.1.mono (by omega)⟩,⟨fV,λi=>(b2.2 i).mono (by omega),b2.1.mono (by omega)⟩⟩
theorem LB{t:Tq}{o5 o6 o7 o8 o9 o10 o11:SD}(h:K58 P B R C m k L a b)(ok:t.ok)(so:t.so P B R C a b L):oF.run Gi [.no,.val .fl,.val (pD P B),.val (pD R C),.val t.d,o5,o6,o7,o8,o9,o10,o11]:=by
 refine h.oh ok λc1 h1=>?_;obtain rfl:c1=true:=h1.mpr so;exact rfl
theorem E5{P1 R1 P' R':List Int}{B1 C1 B' C':Int}{m1 k1 L1 a1 b1:Nat}{t:Tq}{E:EndsD}{o5 o6 o7 o8 o9:SD}(h:K58 P1 B1 R1 C1 m1 k1 L1 a1 b1)(ok:t.ok)(q:E.nx [.no,.val .fl,.val (pD P' B'),.val (pD R' C'),.val t.d,o5,o6,o7,o8,o9,.val (pD P1 B1),.val (pD R1 C1)]) :
  (dIf [] (gu (gy .NotEq (ge gH (fZ (ga 10) (fZ (ga 11) (fZ (ga 4) gb)))) (ge hX (fZ (ga 10) (fZ (ga 11) (fZ (ga 4) gb)))))) (gr [] (dC (.bl false))) gz).run E [.no,.val .fl,.val (pD P' B'),.val (pD R' C'),.val t.d,o5,o6,o7,o8,o9,.val (pD P1 B1),.val (pD R1 C1)]:=by
 refine h.oh ok λc1 h1=>?_;refine h.du ok λc2 h2=>?_;obtain rfl:c1=c2:=bT.mpr (h1.trans h2.symm);exact DJ (p:=c1=c1) (λz=>absurd rfl z) (λ_=>q)
theorem LC{t:Tq}{o5 o6 o7 o8 o9:SD}(h:K58 P B R C m k L a b)(ok:t.ok)(so:t.so P B R C a b L):oG.run Gi [.no,.val .fl,.val (pD P B),.val (pD R C),.val t.d,o5,o6,o7,o8,o9,.no,.no]:=by
 have m6:=h.h.m6;have dm:Dgo m m:=⟨h.h.m1,h.h.m6,h.h.m1,h.h.m6,by rw[Nat.lcm_self];omega⟩;obtain⟨L1,a1,b1,H⟩:=dm.hi;have h1:K58 P B P B m m L1 a1 b1:=⟨h.z,h.z,h.l,h.l,H⟩;refine⟨tE,tE,tE,λi s=>∃ o10 o11,s=[.no,.val .fl,.val (pD P B),.val (pD R C),.val t.d,o5,o6,o7,o8,o9,o10,o11],⟨_,_,rfl⟩,?_,?_⟩
 ·rintro i d _ hd ⟨o10,o11,rfl⟩;have hd:[D.tup [pD R C,pD P B],.tup [pD P B,pD P B]][i]? = some d:=hd;cases i with
  | zero =>
   have hd:=Option.some.inj hd;subst hd;exact⟨rfl,E5 h.swap ok ⟨_,_,rfl⟩⟩
  | succ i =>
   cases i with
   | zero =>
    have hd:=Option.some.inj hd;subst hd;exact⟨rfl,E5 h1 ok ⟨_,_,rfl⟩⟩
   | succ i=>exact absurd hd (by simp)
 ·rintro _ ⟨o10,o11,rfl⟩;exact LB h ok so
theorem LD{t:Tq}{ys:List D}{o5:SD}(h:K58 P B R C m k L a b)(ok:t.ok)(so:t.so P B R C a b L)(ly:ys.length<=4)(hy:∀ y∈ys,ME y):mz.run Gi [.no,.val .fl,.val (pD P B),.val (pD R C),.val t.d,o5,.no,.val (.lst ys),.no,.no,.no,.no]:=by
 have lc:=HA (l:=ys) (lo:=none) (hi:=some 2);refine⟨vT,tX (by show ys.length+1<=_;omega),tX (by rw[ai];show ys.length+1+_<=_;omega),λi s=>∃ o8 o9,s=[.no,.val .fl,.val (pD P B),.val (pD R C),.val t.d,o5,.no,.val (.lst ys),o8,o9,.no,.no],⟨_,_,rfl⟩,?_,?_⟩
 ·rintro i d _ hd ⟨o8,o9,rfl⟩;obtain⟨t',rfl,ok'⟩:ME d:=by
   have hd:(ys++[t.d]++tN ys none (some 2))[i]? = some d:=hd;rcases aW.mp (ay hd) with x|x
   ·rcases aW.mp x with x|x
    ·exact hy d x
    ·exact⟨t,aC.mp x,ok⟩
   ·exact hy d (Hz x)
  refine h.oh ok' λc1 h1=>?_;refine h.du ok' λc2 h2=>?_;obtain rfl:c1=c2:=bT.mpr (h1.trans h2.symm);exact DJ (p:=c1=c1) (λz=>absurd rfl z) (λ_=>⟨_,_,rfl⟩)
 ·rintro _ ⟨o8,o9,rfl⟩;exact LC h ok so
end
theorem C8:si.run Gi (.no :: .val .fl::List.replicate 10 .no):=by
 refine⟨rfl,(),rfl,?_⟩;rintro _ ⟨P,B,R,C,m,k,rfl,fP,lP,fR,lR,hd⟩;refine⟨rfl,?_⟩;obtain⟨L,a,b,H⟩:=hd.hi;show oN.run Gi [.no,.val .fl,.val (pD P B),.val (pD R C),.no,.no,.no,.no,.no,.no,.no,.no];refine⟨tE,J6 fP lP fR lR H rfl λh=>?_⟩;show oK.run Gi [.no,.val .fl,.val (pD P B),.val (pD R C),.no,.no,.no,.no,.no,.no,.no,.no];refine h.co λd c=>?_;obtain⟨t,rfl,tk,ok,so⟩:=L8 h (h.r c);show oJ.run Gi [.no,.val .fl,.val (pD P B),.val (pD R C),.val t.d,.no,.no,.no,.no,.no,.no,.no];refine h.oh ok λc1 h1=>?_;obtain rfl:c1=true:=h1.mpr so;refine h.du ok λc2 h2=>?_;obtain rfl:c2=true:=h2.mpr so;show oI.run Gi [.no,.val .fl,.val (pD P B),.val (pD R C),.val t.d,.no,.no,.no,.no,.no,.no,.no];refine⟨by decide,by decide,?_⟩;refine tM (λi y=>OQ y) (by rw[td];decide) (λi d hd=>?_) λys ly hy=>?_
 ·exact⟨rfl,(P,B,R,C,m,k,L,a,b,t),⟨rfl,h.z.fm,h.z'.fm,h.l,h.l',h.h,tk⟩,λd hd=>hd⟩
 have ly:ys.length=4:=by rw[ly,td];rfl
 show oH.run Gi [.no,.val .fl,.val (pD P B),.val (pD R C),.val t.d,.val (.lst ys),.no,.no,.no,.no,.no,.no];refine FQ (ds:=ys) (s0:=t8 [8] [.no,.val .fl,.val (pD P B),.val (pD R C),.val t.d,.val (.lst ys),.no,.no,.no,.no,.no,.no]) (g:=gNm 8) (c:=jS (gu (gy .Eq (dIx (ga 8) (dC (.int 0))) (dC (.str "none")))) (jF (ge gL (fZ (dSl (ga 8) (ic (dC (.int 1))) dNo) gb)))) (e:=ga 8) (Q:=λd=>mz.run Gi [.no,.val .fl,.val (pD P B),.val (pD R C),.val t.d,.val (.lst ys),.no,.val d,.no,.no,.no,.no]) ME (by omega) (λd hd=>?_) λzs lz hz=>?_
 ·obtain⟨i,hi⟩:=dO.mp hd;obtain⟨t',rfl,lo⟩:=hy i d hi;cases t' with
  | no T D0 n=>exact⟨.no T D0 n,rfl,lo⟩
  | ou U V =>
   obtain⟨f1,f2,g1,g2⟩:Po.Fm U.1 U.2/\Po.Fm V.1 V.2/\U.1.length<=15/\V.1.length<=15:=lo;refine⟨trivial,Ga f1 f2 g1 g2 λc hc=>?_⟩;cases c
   ·exact trivial
   ·exact hc rfl
 ·exact LD h ok so (by omega) hz
end Dp
namespace Ds
section
open PySem L2 Dp
variable{X:Cx}
def bTb:List (Str×Bool×String×BB):=[("len",true, "len",⟨bLen,bLen.mono⟩),("abs",true, "abs",⟨bAbs,bAbs.mono⟩),("all",true, "all",⟨bAll,bAll.mono⟩),("any",true, "any",⟨bAny,bAny.mono⟩),("sum",true, "sum",⟨bSum,bSum.mono⟩),("max",true, "max",⟨bMax,bMax.mono⟩),("int",false, "int",⟨bInt,bInt.mono⟩),("list",false, "list",⟨bList,bList.mono⟩),("tuple",false, "tuple",⟨bTuple,bTuple.mono⟩)]
def Oa(x:Str):Option (Bool×String×BB):=bTb.lookup x
theorem Kl{j:Nat}(hr:Room j X.A)(hc:X.calm=true)(B:Bl X.mg){x:Str}{k:Bool}{id:String}{o:BB}(h:Oa x=some (k,id,o)):X.mg x=none/\x ≠ "__name__" /\ (x == ("__debug__" : Str))=false/\(if k then bootBuiltins x=some (.builtin id)/\RB X (.builtin id) o.run else bootBuiltins x=some (.type id)/\RB X (.type id) o.run):=by
 have m:=tQ h;unfold bTb at m;rcases ao.mp m with e|m
 ·cases e;exact⟨B.len,by decide,by decide,BR,El⟩
 rcases ao.mp m with e|m
 ·cases e;exact⟨B.abs,by decide,by decide,Kh,Jk⟩
 rcases ao.mp m with e|m
 ·cases e;exact⟨B.all,by decide,by decide,Kg,Jj hc⟩
 rcases ao.mp m with e|m
 ·cases e;exact⟨B.any,by decide,by decide,Kf,Ji hc⟩
 rcases ao.mp m with e|m
 ·cases e;exact⟨B.sum,by decide,by decide,Kc,Jf hc⟩
 rcases ao.mp m with e|m
 ·cases e;exact⟨B.max,by decide,by decide,Ke,Jg hc⟩
 rcases ao.mp m with e|m
 ·cases e;exact⟨B.int,by decide,by decide,F5,Jh⟩
 rcases ao.mp m with e|m
 ·cases e;exact⟨B.list,by decide,by decide,xK,Gz⟩
 rcases ao.mp m with e|m
 ·cases e;exact⟨B.tuple,by decide,by decide,AS,Ek⟩
 cases m
end
section
open PySem L2 Dp
variable{K:Frag}{f:Addr}{O O':List Addr}{H H':Hp}{X:Cx}{σ:L2.St}{ss:SS}{a b:Expr}{ta tb tc:TEd}{tA tB:TTd}{pos:Pos}{c:Cs}
structure Tc where
 N:List Str
 sc:Scope
 G:List (Str×Nat×SpB)
 gc:List (Str×D)
 k:Nat
 fz:List (Nat×List Nat):=[]
 own:List Nat:=[]
 mu:List Nat:=[]
 gn:List (Str×Nat×SpB):=[]
def Tc.pk(T:Tc)(p:Pos):List Nat:=(T.fz.lookup (p.line+1000000)).getD []
def Tc.frz(T:Tc)(p:Pos):List Nat:=(T.fz.lookup p.line).getD []
def Hm(x:Str):List Str->Option Nat
 | []=>none
 | y::r=>if x=y then some 0 else (Hm x r).map (· + 1)
theorem zJ:∀{N:List Str} {i:Nat},Hm x N=some i->N[i]? = some x
 | [],_,h=>by cases h
 | y::r,i,h=>by
  unfold Hm at h;by_cases e:x=y
  ·rw[if_pos e] at h;cases h;rw[e];rfl
  ·rw[if_neg e] at h;obtain⟨j,h1,rfl⟩:=ac.mp h;rw[cA];exact zJ h1
def LH:Option NameKind->Bool
 | some .local=>true|some .cell=>true|some .free=>true|_=>false
def Ky(x:Str):Bool:=!(x == ("__debug__" : Str)) && !(x == ("__classdict__" : Str))
def Tc.slot(T:Tc)(x:Str):Option Nat:=if LH (T.sc.names.lookup x) && Ky x then Hm x T.N else none
def Tc.isG(T:Tc)(x:Str):Bool:=(T.sc.names.lookup x == some .globalImplicit) && Ky x
structure CtxOk (T:Tc)(X:Cx):Prop where
 N:X.N=T.N
 nd:X.N.Nodup
 calm:X.calm=true
 room:Room T.k X.A
 vis:∀ x,LH (T.sc.names.lookup x)=true->IF X.env.scope x
 gl:∀ x,T.sc.names.lookup x=some .globalImplicit->Gl X x
 loc:∀ x,T.sc.names.lookup x=some .local->X.env.scope.names.lookup x=some .local
 cf:∀ x,(T.sc.names.lookup x=some .cell\/T.sc.names.lookup x=some .free)->(X.env.scope.names.lookup x=some .cell\/X.env.scope.names.lookup x=some .free)
 fn:∀ x j s,(x,j,s)∈T.G->∃ ps,Def X.prog X.w X.K X.mg X.base x j ps (AW X.K s.n s.run)
 gc:∀ x d,(x,d)∈T.gc->∃ v u,X.mg x=some u/\RelV v u/\∀ f O H,Rp X.K f O H d v
 bl:Bl X.mg
 cel:∀ x,T.sc.names.lookup x=some .cell->X.env.scope.names.lookup x=some .cell/\X.fn x=true
 gn:∀ x j s,(x,j,s)∈T.gn->∃ ps,Def X.prog X.w X.K X.mg X.base x j ps (Gc X.K s.n s.run)
theorem Ii(h:Ky x=true):(x == ("__debug__" : Str))=false:=by
 unfold Ky at h;rw[ar] at h;exact cV _ |>.mp h.1
theorem Ln(h:Ky x=true):(x == ("__classdict__" : Str))=false:=by
 unfold Ky at h;rw[ar] at h;exact cV _ |>.mp h.2
variable{T:Tc}
theorem CtxOk.var(C:CtxOk T X)(h:T.slot x=some i):PE X (.Name x p) (vc i):=by
 unfold Tc.slot at h;split at h
 ·rename_i e;obtain⟨e1,e2⟩:=ar.mp e;exact Bf (by rw[C.N];exact zJ h) (C.vis x e1) (Ii e2) (Ln e2)
 ·cases h
theorem CtxOk.slot(C:CtxOk T X)(h:T.slot x=some i):X.N[i]? = some x:=by
 unfold Tc.slot at h;split at h
 ·rw[C.N];exact zJ h
 ·cases h
def DI:Option NameKind->Bool
 | some .local=>true|some .cell=>true|_=>false
theorem CtxOk.tgt(C:CtxOk T X)(hl:DI (T.sc.names.lookup x)=true)(hs:T.slot x=some i):PG X (.Name x p) (yW i):=by
 cases q:T.sc.names.lookup x with
 | none=>rw[q] at hl;cases hl
 | some k =>
  rw[q] at hl;cases k <;> first|(cases hl;done)|skip
  ·exact Ce C.nd (C.slot hs) (.inl (C.loc x q)) (.inr (C.loc x q))
  ·exact Ce C.nd (C.slot hs) (.inr (C.cel x q).1) (.inl (C.cel x q).2)
theorem CtxOk.isG(C:CtxOk T X)(h:T.isG x=true):Gl X x/\(x == ("__debug__" : Str))=false:=by
 obtain⟨e1,e2⟩:=ar.mp h;exact⟨C.gl x (eq_of_beq e1),Ii e2⟩
def tw:Expr->Bool
 | .Starred .. => false | .Slice .. => false | .Set .. => false | .SetComp .. => false | .DictComp .. => false
 | _=>true
theorem sR(h:tw e=true)(es:List Expr)(env:Env):starEach (e::es) env=(false,eval e env)::starEach es env:=by
 cases e <;> first|rfl|cases h
theorem Cl(h:tw e=true):xL e:=by
 cases e <;> first|exact λ_ _=>rfl|cases h
theorem xI(h:tw e=true)(op:CmpOp):behindInMarks op e=false:=by
 cases e <;> first|rfl|cases h
theorem uJ(h:tw e=true)(env:Env)(x:Value):foldedSetIterable e env x=pure x:=by
 cases e <;> first|rfl|cases h
def ul:Expr->Bool
 | .ListComp .. => true | .SetComp .. => true | .DictComp .. => true
 | _=>false
theorem vE(h:ul e=false)(t:Option Expr)(l:Nat)(env:Env):swapsWith e t l env=pure false:=by
 cases e <;> first|rfl|cases h
def IE:Expr->Bool
 | .UnaryOp .Not _ _=>false | .BoolOp .. => false | .IfExp .. => false | .Compare .. => false
 | _=>true
theorem F4(h:IE e=true)(env:Env)(whole:Sem Value):isTrue e env whole=(do let v ← whole;standAt e.pos;holding [v] (truthy v)):=by
 cases e with
 | UnaryOp op a p=>cases op <;> first|rfl|cases h
 | BoolOp=>cases h
 | IfExp=>cases h
 | Compare=>cases h
 | _=>rfl
def uE(N:List Str)(scope:Scope):List Nat:=(List.range N.length).filter λi=>DI (scope.names.lookup (N.getD i ""))
def D4(out scope:Scope):Bool:=decide (scope.kind = .function) && scope.names.all (λy=>decide (scope.names.lookup y.1=some y.2)) && scope.names.all (λy=>decide (y.2 ≠ .free) || decide (out.names.lookup y.1=some .cell) || decide (out.names.lookup y.1=some .free))
theorem CtxOk.compS(C:CtxOk T X)(h:D4 T.sc scope=true):CompS X.N X.env.scope scope (uE T.N scope):=by
 unfold D4 at h;rw[ar,ar] at h;obtain⟨⟨h1,h2⟩,h3⟩:=h;have one:∀ y∈scope.names,scope.names.lookup y.1=some y.2:=λy hy=>of_decide_eq_true (cB.mp h2 y hy);refine⟨of_decide_eq_true h1,one,λy hy e=>?_,λy hy e=>e ▸ one y hy,λi hi e=>?_⟩
 ·have:=cB.mp h3 y hy;rw[Bool.or_eq_true,Bool.or_eq_true] at this;rcases this with (w|w)|w
  ·exact absurd e (of_decide_eq_true w)
  ·exact C.cf _ (.inl (of_decide_eq_true w))
  ·exact C.cf _ (.inr (of_decide_eq_true w))
 ·rw[C.N] at hi e;exact cr.mpr ⟨bf.mpr hi,by rcases e with e|e <;> rw[e] <;> rfl⟩
theorem CtxOk.inner(C:CtxOk T X)(s2:Shared)(H2:Hp)(fp:List Addr)(pins:List (Addr×Obj))(A:Addr):CtxOk { T with sc:=scope } (uY X scope s2 H2 fp pins A) where
 N:=C.N
 nd:=C.nd
 calm:=C.calm
 room:=C.room
 vis:=λx h=>by
  have e:(uY X scope s2 H2 fp pins A).env.scope.names.lookup x=(scope.names.lookup x).map (v8 X.env x):=wA;have h:LH (scope.names.lookup x)=true:=h;unfold IF;rw[e];cases q:scope.names.lookup x with
  | none=>rw[q] at h;cases h
  | some k =>
   rw[q] at h;cases k
   ·exact .inl rfl
   ·exact .inr (.inl rfl)
   ·show some (v8 X.env x .free)=_\/some (v8 X.env x .free)=_\/some (v8 X.env x .free)=_;unfold v8;split
    ·exact .inr (.inl rfl)
    ·exact .inr (.inr rfl)
   ·cases h
   ·cases h
 gl:=λx h=>by
  have e:(uY X scope s2 H2 fp pins A).env.scope.names.lookup x=(scope.names.lookup x).map (v8 X.env x):=wA;have h:scope.names.lookup x=some .globalImplicit:=h;unfold Gl Env.kindOf;rw[e,h];rfl
 loc:=λx h=>by
  have e:(uY X scope s2 H2 fp pins A).env.scope.names.lookup x=(scope.names.lookup x).map (v8 X.env x):=wA;have h:scope.names.lookup x=some .local:=h;rw[e,h];rfl
 cf:=λx h=>by
  have e:(uY X scope s2 H2 fp pins A).env.scope.names.lookup x=(scope.names.lookup x).map (v8 X.env x):=wA;have h:scope.names.lookup x=some .cell\/scope.names.lookup x=some .free:=h;rw[e];rcases h with h|h
  ·rw[h];exact .inl rfl
  ·rw[h];show some (v8 X.env x .free)=_\/some (v8 X.env x .free)=_;unfold v8;split
   ·exact .inl rfl
   ·exact .inr rfl
 fn:=C.fn
 gc:=C.gc
 bl:=C.bl
 cel:=λx h=>by
  have e:(uY X scope s2 H2 fp pins A).env.scope.names.lookup x=(scope.names.lookup x).map (v8 X.env x):=wA;have h:scope.names.lookup x=some .cell:=h;refine⟨by rw[e,h];rfl,?_⟩;show (scope.names.lookup x == some .cell)=true;rw[h];rfl
 gn:=C.gn
def MT:Const->Option D
 | .int i=>some (.int i) | .bool b=>some (.bl b) | .str x=>some (.str x) | .none=>some .non|_=>none
def LP(T:Tc)(x:Str):Option D:=T.gc.lookup x
def Ah(T:Tc):List Expr->Option (List Nat)
 | []=>some []
 | .Name x _::r=>if DI (T.sc.names.lookup x)=true then (T.slot x).bind λi=>(Ah T r).map (i :: ·) else none
 | _=>none
def Mz(T:Tc):Expr->Option TGd
 | .Name x _=>if DI (T.sc.names.lookup x)=true then (T.slot x).map gNm else none
 | .Tuple es _ _=>(Ah T es).map gTp
 | _=>none
def zH(T:Tc)(x:Str)(as:List Expr):Option Nat:=if x = "len" then (match as with
 | [.Name y _]=>(T.slot y).bind λi=>if T.mu.contains i then some i else none
 | _=>none) else none
theorem Du(h:zH T x as=some i):x = "len" /\ ∃ y p,as=[.Name y p]/\T.slot y=some i:=by
 unfold zH at h;split at h
 ·rename_i ex;split at h
  ·rename_i y p;obtain⟨j,h1,h⟩:=ae.mp h;split at h
   ·cases h;exact⟨ex,y,p,rfl,h1⟩
   ·cases h
  ·cases h
 ·cases h
abbrev FE:=Expr->Option TEd
abbrev FT:=Expr->Option TTd
abbrev FA:=List Expr->Option TAd
def two(E:FE)(a b:Expr)(k:TEd->TEd->TEd):Option TEd:=(E a).bind λta=>(E b).map λtb=>k ta tb
def Ma(E:FE)(a:Expr):List CmpOp->List Expr->Option TEd
 | [op],[b]=>if tw b then two E a b (gy op) else none
 | [op,op'],[b,c]=>if tw b && tw c then (E a).bind λta=>(E b).bind λtb=>(E c).map λtc=>ji op op' ta tb tc else none
 | _,_=>none
def L9(E:FE)(a:Expr):List CmpOp->List Expr->Option TTd
 | [op],[b]=>if tw b then (two E a b (gy op)).map gu else none
 | [op,op'],[b,c]=>if tw b && tw c then (E a).bind λta=>(E b).bind λtb=>(E c).map λtc=>gu (ji op op' ta tb tc) else none
 | _,_=>none
def NZ(E:FE)(a:Expr):UnaryOp->Option TEd
 | .USub=>(E a).map nc
 | .Not=>(E a).map rD
 | _=>none
def N9(E:FE)(p:Pos)(op:BoolOp):List Expr->Option TEd
 | [a]=>E a
 | a::b::r=>(E a).bind λta=>(E (.BoolOp op (b::r) p)).map λtb=>match op with | .And=>oO ta tb | .Or=>dOr ta tb
 | []=>none
def N8(F:FT)(p:Pos)(op:BoolOp):List Expr->Option TTd
 | [a]=>F a
 | a::b::r=>(F a).bind λta=>(F (.BoolOp op (b::r) p)).map λtb=>match op with | .And=>ju ta tb | .Or=>jS ta tb
 | []=>none
def AC(E:FE):Option Expr->Option TOd
 | none=>some dNo
 | some e=>(E e).map ic
def Hr:Expr->Bool
 | .UnaryOp .USub (.Constant (.int i) _ _) _=>i == 1
 | _=>false
def KA(k:Int):Expr->Bool
 | .Constant (.int i) _ _=>i == k
 | _=>false
def JK(E:FE)(a:Expr)(lo hi:Option Expr)(m:Expr):Option TEd:=match lo with
 | some l=>if KA 1 l && hi.isNone && KA 2 m then (E a).map rJ else none
 | none=>none
def Nr(T:Tc)(x:Str):Option TEd:=match T.slot x with
 | some i=>some (ga i)
 | none=>if T.isG x then (LP T x).map dC else none
def EO(T:Tc):Expr->Option Nat
 | .Name x _=>(T.slot x).bind λi=>if T.mu.contains i then some i else none
 | _=>none
def N4(E:FE)(T:Tc)(a b:Expr):Option TEd:=if tw b then (match EO T a with
  | some i=>(E b).map (mH i)
  | none=>two E a b dIx) else none
def KY(E:FE)(T:Tc)(a:Expr):Expr->Option TEd
 | .Slice lo hi st _=>(match st with
  | none=>(E a).bind λta=>(AC E lo).bind λtl=>(AC E hi).map λtu=>dSl ta tl tu
  | some m=>if lo.isNone && hi.isNone && Hr m then (E a).map rE else JK E a lo hi m)
 | b=>N4 E T a b
def FZ(E:FE)(A:FA)(T:Tc)(x:Str)(as:List Expr):Option TEd:=match T.G.lookup x with
 | some (j,s)=>if decide (j<=T.k) && !as.isEmpty then (A as).map (ge s) else none
 | none=>if x = "isinstance" then (match as with
   | [a,.Name y _]=>if tw a && T.isG y then ((A2 y).bind λty=>(E a).map (rF ty)) else none
   | _=>none)
  else (Oa x).bind λo=>match zH T x as with
   | some i=>some (oz i)
   | none=>if as.isEmpty then none else (A as).map (dB o.2.2.run o.2.2.mono)
def JW(E:FE)(T:Tc)(tg e:Expr):Option TAd:=match e with
 | .Call (.Name x _) [a] [] _=>if x = "range" then (if tw a && T.isG "range" then (E a).map jB else none)
  else if x = "enumerate" then (match tg with
   | .Tuple .. => if tw a && T.isG "enumerate" then (E a).map iW else none
   | _=>none)
  else if x = "reversed" then (if tw a && T.isG "reversed" then (E a).map nh else none)
  else (E e).map gD
 | .Call (.Name x _) [a,b] [] _=>if x = "range" then (if tw a && tw b && T.isG "range" then (E a).bind λta=>(E b).map (ng ta) else none)
  else if x = "zip" then (match tg with
   | .Tuple .. => if tw a && tw b && T.isG "zip" then (E a).bind λta=>(E b).map (oP ta) else none
   | _=>none)
  else (E e).map gD
 | e=>(E e).map gD
def CN(I:Option TAd)(E:FE)(F:FT)(T:Tc)(e tg:Expr)(ifs:List Expr)(sc:Scope):Option TEd:=I.bind λti=>(Mz { T with sc:=sc } tg).bind λg =>
 if g.tg.all (λi=>(uE T.N sc).contains i) then (E e).bind λte=>(match ifs with
  | []=>some (gB ti (uE T.N sc) g gP te)
  | [k]=>(F k).map λtk=>gB ti (uE T.N sc) g tk te
  | _=>none) else none
def wL(E:FE):FA
 | []=>some gb
 | e::r=>if tw e then (E e).bind λte=>(wL E r).map λtr=>fZ te tr else none
def z7(E:FE)(T:Tc)(cp:Pos)(as:List Expr)(ks:List Keyword):Expr->Option TEd
 | .Name x _=>if ks.isEmpty then (if T.isG x then FZ E (wL E) T x as else none) else none
 | _=>none
def Fc:List Comprehension->Option (Expr×Expr×List Expr)
 | [⟨tg,it,ifs,0⟩]=>if tw it then some (tg,it,ifs) else none
 | _=>none
mutual
def tT:Nat->Tc->Expr->Option TEd
 | 0,_,_=>none
 | n+1,T,e=>match e with
  | .Name x _=>Nr T x
  | .Constant k _ _=>(MT k).map dC
  | .BinOp a op b _=>two (tT n T) a b (gg op)
  | .Compare a ops bs _=>Ma (tT n T) a ops bs
  | .UnaryOp op a _=>NZ (tT n T) a op
  | .BoolOp op vs p=>N9 (tT n T) p op vs
  | .IfExp k a b _=>(Ag n T k).bind λtk=>two (tT n T) a b (ra tk)
  | .Tuple es _ _=>(wL (tT n T) es).map gm
  | .List es _=>(wL (tT n T) es).map gv
  | .Subscript a b _=>KY (tT n T) T a b
  | .Call g as ks p=>z7 (tT n T) T p as ks g
  | .ListComp e gs sc _=>if D4 T.sc sc then (Fc gs).bind λ(tg,it,ifs)=>CN (JW (tT n T) T tg it) (tT n { T with sc:=sc }) (Ag n { T with sc:=sc }) T e tg ifs sc else none
  | _=>none
def Ag:Nat->Tc->Expr->Option TTd
 | 0,_,_=>none
 | n+1,T,e=>match e with
  | .Compare a ops bs _=>L9 (tT n T) a ops bs
  | .UnaryOp op a p=>if op = .Not then (Ag n T a).map jG else (tT n T (.UnaryOp op a p)).map jF
  | .BoolOp op vs p=>N8 (Ag n T) p op vs
  | .IfExp .. => none
  | e=>(tT n T e).map jF
end
end
section
open PySem L2 Dp
variable{K:Frag}{X:Cx}{T:Tc}{pos p p2:Pos}{a b e:Expr}{E:FE}{F:FT}
def yv(X:Cx)(E:FE):Prop:=∀{e:Expr} {t:TEd},E e=some t->PE X e (LE X.K t)
def MI(X:Cx)(F:FT):Prop:=∀{e:Expr} {t:TTd},F e=some t->PT X e (LT X.K t)
theorem LN(C:CtxOk T X)(hg:T.isG x=true)(h:LP T x=some d):PE X (.Name x p) (LE X.K (dC d)):=by
 obtain⟨g1,g2⟩:=C.isG hg;obtain⟨v,u,h1,h2,h3⟩:=C.gc x d (tQ h);exact dC.ok (GJ g1 h1 h2 g2) h3
theorem IP(h:MT k=some d):PE X (.Constant k j pos) (LE X.K (dC d)):=by
 cases k <;> first|(cases h;done)|skip
 all_goals (cases h)
 all_goals first|exact dC.ok sQ λ_ _ _=>rfl|exact dC.ok Lj λ_ _ _=>rfl|exact dC.ok Ju λ_ _ _=>rfl|exact dC.ok Jx λ_ _ _=>rfl
theorem wg(C:CtxOk T X):∀{es:List Expr} {is:List Nat},Ah T es=some is->Ml X es (gsAll is)/\(assignEach es X.env).length=is.length/\(assignEach es X.env).findIdx? (·.1)=none
 | [],is,h=>by
  cases h;exact⟨GI,rfl,rfl⟩
 | a::r,is,h=>by
  cases a <;> first|(cases h;done)|skip
  rename_i x p;obtain⟨hl,h⟩:=ad.mp (show (if DI (T.sc.names.lookup x)=true then (T.slot x).bind λi=>(Ah T r).map (i :: ·) else none)=some is from h);obtain⟨i,h1,h⟩:=ae.mp h;obtain⟨is',h2,rfl⟩:=ac.mp h;obtain⟨q1,q2,q3⟩:=wg C h2;refine⟨EB (C.tgt hl h1) q1 rfl,?_,?_⟩
  ·show ((false,assign (.Name x p) X.env)::assignEach r X.env).length=_;rw[aE,q2];rfl
  ·show ((false,assign (.Name x p) X.env)::assignEach r X.env).findIdx? (·.1)=none;rw[List.findIdx?_cons,q3];rfl
theorem A8(C:CtxOk T X)(h:Mz T e=some g):PG X e (LG X.K g):=by
 cases e <;> first|(cases h;done)|skip
 ·rename_i x p;obtain⟨hl,h⟩:=ad.mp (show (if DI (T.sc.names.lookup x)=true then (T.slot x).map gNm else none)=some g from h);obtain⟨i,h1,rfl⟩:=ac.mp h;exact gNm.ok (C.tgt hl h1)
 ·rename_i es k p;obtain⟨is,h1,rfl⟩:=ac.mp (show (Ah T es).map gTp=some g from h);obtain⟨q1,q2,q3⟩:=wg C h1;exact gTp.ok (zq C.calm q1 q2 q3)
theorem wS(h:two E a b k=some t):∃ ta tb,E a=some ta/\E b=some tb/\t=k ta tb:=by
 obtain⟨ta,h1,h⟩:=ae.mp h;obtain⟨tb,h2,rfl⟩:=ac.mp h;exact⟨ta,tb,h1,h2,rfl⟩
theorem HG(C:CtxOk T X)(ih:yv X E):∀{ops:List CmpOp} {bs:List Expr} {t:TEd},Ma E a ops bs=some t->PE X (.Compare a ops bs pos) (LE X.K t)
 | [op],[b],t,h=>by
  obtain⟨hn,h⟩:=ad.mp h;obtain⟨ta,tb,h1,h2,rfl⟩:=wS h;exact gy.ok C.room (ih h1) (ih h2) (xI hn _)
 | [op,op'],[b,c],t,h=>by
  obtain⟨hn,h⟩:=ad.mp h;obtain⟨n1,n2⟩:=ar.mp hn;obtain⟨ta,h1,h⟩:=ae.mp h;obtain⟨tb,h2,h⟩:=ae.mp h;obtain⟨tc,h3,rfl⟩:=ac.mp h;exact ji.ok C.room (ih h1) (ih h2) (ih h3) (xI n2 _)
 | [],_,_,h=>by cases h
 | [_],[],_,h=>by cases h
 | [_],_::_::_,_,h=>by cases h
 | [_,_],[],_,h=>by cases h
 | [_,_],[_],_,h=>by cases h
 | [_,_],_::_::_::_,_,h=>by cases h
 | _::_::_::_,_,_,h=>by cases h
theorem HF(C:CtxOk T X)(ih:yv X E):∀{ops:List CmpOp} {bs:List Expr} {t:TTd},L9 E a ops bs=some t->PT X (.Compare a ops bs pos) (LT X.K t)
 | [op],[b],t,h=>by
  obtain⟨hn,h⟩:=ad.mp h;obtain⟨t0,h0,rfl⟩:=ac.mp h;obtain⟨ta,tb,h1,h2,rfl⟩:=wS h0;exact gy.test C.room (ih h1) (ih h2) (xI hn _)
 | [op,op'],[b,c],t,h=>by
  obtain⟨hn,h⟩:=ad.mp h;obtain⟨n1,n2⟩:=ar.mp hn;obtain⟨ta,h1,h⟩:=ae.mp h;obtain⟨tb,h2,h⟩:=ae.mp h;obtain⟨tc,h3,rfl⟩:=ac.mp h;exact ji.test C.room (ih h1) (ih h2) (ih h3) (xI n2 _)
 | [],_,_,h=>by cases h
 | [_],[],_,h=>by cases h
 | [_],_::_::_,_,h=>by cases h
 | [_,_],[],_,h=>by cases h
 | [_,_],[_],_,h=>by cases h
 | [_,_],_::_::_::_,_,h=>by cases h
 | _::_::_::_,_,_,h=>by cases h
theorem IL(ih:yv X E)(h:NZ E a op=some t):PE X (.UnaryOp op a pos) (LE X.K t):=by
 cases op <;> first|(cases h;done)|skip
 ·obtain⟨ta,h1,rfl⟩:=ac.mp (show (E a).map rD=some t from h);exact rD.ok (ih h1)
 ·obtain⟨ta,h1,rfl⟩:=ac.mp (show (E a).map nc=some t from h);exact nc.ok (ih h1)
theorem Kj(ih:yv X E):∀{op:BoolOp} {vs:List Expr} {t:TEd},N9 E p op vs=some t->PE X (.BoolOp op vs p) (LE X.K t)
 | _,[a],_,h=>Jv (ih h)
 | .And,a::b::r,t,h=>by
  obtain⟨ta,h1,h⟩:=ae.mp h;obtain⟨tb,h2,rfl⟩:=ac.mp h;exact oO.ok (ih h1) (ih h2)
 | .Or,a::b::r,t,h=>by
  obtain⟨ta,h1,h⟩:=ae.mp h;obtain⟨tb,h2,rfl⟩:=ac.mp h;exact dOr.ok (ih h1) (ih h2)
 | _,[],_,h=>by cases h
theorem Ki(ih:MI X F)(iw:∀{op:BoolOp} {vs:List Expr} {p:Pos} {t:TTd},F (.BoolOp op vs p)=some t->PW X (.BoolOp op vs p) (LT X.K t)):∀{op:BoolOp} {vs:List Expr} {t:TTd},N8 F p op vs=some t->PW X (.BoolOp op vs p) (LT X.K t)
 | .And,[a],_,h=>B7 (ih h)
 | .Or,[a],_,h=>Jp (ih h)
 | .And,a::b::r,t,h=>by
  obtain⟨ta,h1,h⟩:=ae.mp h;obtain⟨tb,h2,rfl⟩:=ac.mp h;exact ju.ok (ih h1) (iw h2)
 | .Or,a::b::r,t,h=>by
  obtain⟨ta,h1,h⟩:=ae.mp h;obtain⟨tb,h2,rfl⟩:=ac.mp h;exact jS.ok (ih h1) (iw h2)
 | _,[],_,h=>by cases h
theorem AB(ih:yv X E):∀{o:Option Expr} {t:TOd},AC E o=some t->PO X o (LO X.K t)
 | none,_,h=>by
  cases h;exact dNo.ok
 | some e,t,h=>by
  obtain⟨ta,h1,rfl⟩:=ac.mp h;exact ic.ok (ih h1)
theorem Hq(h:Hr m=true):∃ j p1 p3,m = .UnaryOp .USub (.Constant (.int 1) j p1) p3:=by
 unfold Hr at h;split at h
 ·rename_i i j p1 p3;have e:i=1:=eq_of_beq h;exact⟨j,p1,p3,by rw[e]⟩
 ·cases h
theorem EN(C:CtxOk T X)(h:EO T a=some i):PE X a (vc i):=by
 cases a <;> first|(cases h;done)|skip
 obtain⟨j,h1,h⟩:=ae.mp h;obtain⟨_,h⟩:=ad.mp h;cases h;exact C.var h1
theorem E7(h:KA k m=true):∃ j p1,m = .Constant (.int k) j p1:=by
 unfold KA at h;split at h
 ·rename_i i j p1;have e:i=k:=eq_of_beq h;exact⟨j,p1,by rw[e]⟩
 ·cases h
theorem GZ(ih:yv X E)(h:JK E a lo hi m=some t):PE X (.Subscript a (.Slice lo hi (some m) p2) pos) (LE X.K t):=by
 cases lo with
 | none=>cases h
 | some l =>
  obtain⟨hm,h⟩:=ad.mp (show (if KA 1 l && hi.isNone && KA 2 m then (E a).map rJ else none)=some t from h);obtain⟨hm,m2⟩:=ar.mp hm;obtain⟨l1,h2⟩:=ar.mp hm;cases hi with
  | some _=>cases h2
  | none =>
   obtain⟨j,p1,rfl⟩:=E7 l1;obtain⟨k,p3,rfl⟩:=E7 m2;obtain⟨ta,h1,rfl⟩:=ac.mp h;exact rJ.ok (ih h1)
theorem Gu(C:CtxOk T X)(ih:yv X E)(h:KY E T a b=some t):PE X (.Subscript a b pos) (LE X.K t):=by
 have key:∀{b:Expr},N4 E T a b=some t->PE X (.Subscript a b pos) (LE X.K t):=λ{b} h=>by
  obtain⟨hn,h⟩:=ad.mp h;cases ho:EO T a with
  | some i =>
   rw[ho] at h;obtain⟨tb,h2,rfl⟩:=ac.mp h;exact mH.ok (EN C ho) (ih h2) (Cl hn)
  | none =>
   rw[ho] at h;obtain⟨ta,tb,h1,h2,rfl⟩:=wS h;exact dIx.ok (ih h1) (ih h2) (Cl hn)
 cases b;case Slice lo hi st p2 =>
  cases st with
  | none =>
   obtain⟨tk,h0,h⟩:=ae.mp (show (E a).bind (λta=>(AC E lo).bind λtl=>(AC E hi).map λtu=>dSl ta tl tu)=some t from h);obtain⟨ta,h1,h⟩:=ae.mp h;obtain⟨tb,h2,rfl⟩:=ac.mp h;exact dSl.ok (ih h0) (AB ih h1) (AB ih h2)
  | some m =>
   have h:(if lo.isNone && hi.isNone && Hr m then (E a).map rE else JK E a lo hi m)=some t:=h;split at h
   rotate_left
   ·exact GZ ih h
   rename_i hm;obtain⟨hm,m1⟩:=ar.mp hm;obtain⟨l1,l2⟩:=ar.mp hm;cases lo <;> cases hi <;> first|(cases l1;done)|(cases l2;done)|skip
   obtain⟨j,p1,p3,rfl⟩:=Hq m1;obtain⟨ta,h1,rfl⟩:=ac.mp h;exact rE.ok (k:=0) (ih h1)
 all_goals exact key h
theorem uD(ih:yv X E):∀{es:List Expr} {t:TAd},wL E es=some t->PA X es (LA X.K t)
 | [],t,h=>by
  cases h;exact gb.ok
 | e::r,t,h=>by
  obtain⟨hn,h⟩:=ad.mp h;obtain⟨ta,h1,h⟩:=ae.mp h;obtain⟨tb,h2,rfl⟩:=ac.mp h;exact fZ.ok (ih h1) (uD ih h2) (sR hn _ _)
theorem uM(h:wL E (a::r)=some t):starEach (a::r) X.env=(false,eval a X.env)::starEach r X.env:=sR (ad.mp h).1 _ _
theorem yu:∀{r:List Expr} {t:TAd},wL E r=some t->(backTo pos (starEach r X.env)).any (·.1)=false
 | [],_,_=>rfl
 | a::r,t,h=>by
  rw[uM h];obtain⟨hn,h⟩:=ad.mp h;obtain⟨ta,h1,h⟩:=ae.mp h;obtain⟨tb,h2,rfl⟩:=ac.mp h;have:=yu h2;unfold backTo at this ⊢;rw[cN,dw,this];rfl
theorem vI(h:wL E (a::r)=some t):(backTo pos (starEach r X.env)).any (·.1)=false:=by
 obtain⟨hn,h⟩:=ad.mp h;obtain⟨ta,h1,h⟩:=ae.mp h;obtain⟨tb,h2,rfl⟩:=ac.mp h;exact yu h2
theorem FY(C:CtxOk T X)(ih:yv X E){x:Str}{as:List Expr}{t:TEd}(hg:T.isG x=true)(h:FZ E (wL E) T x as=some t):PE X (.Call (.Name x p) as [] pos) (LE X.K t):=by
 obtain⟨g1,g2⟩:=C.isG hg;unfold FZ at h;cases e1:T.G.lookup x with
 | some js =>
  obtain⟨j,s⟩:=js;rw[e1] at h;obtain⟨hk,h⟩:=ad.mp h;obtain⟨k1,k2⟩:=ar.mp hk;obtain⟨tb,h2,rfl⟩:=ac.mp h;cases as with
  | nil=>cases k2
  | cons a r =>
   obtain⟨ps,d⟩:=C.fn x j s (tQ e1);exact ge.ok (Bg d C.room (uD ih h2) (of_decide_eq_true k1) g1 g2 (uM h2) (vI h2))
 | none =>
  rw[e1] at h;dsimp only at h;by_cases ex:x = "isinstance"
  ·subst ex;rw[if_pos rfl] at h;split at h
   ·obtain⟨hn,h⟩:=ad.mp h;obtain⟨n1,n2⟩:=ar.mp hn;obtain⟨ty,h1,h⟩:=ae.mp h;obtain⟨tb,h2,rfl⟩:=ac.mp h;exact rF.ok C.bl h1 g1 (C.isG n2).1 (ih h2) λes=>sR n1 es _
   ·cases h
  ·rw[if_neg ex] at h;obtain⟨⟨k,id,o⟩,e0,h3⟩:=ae.mp h;obtain⟨b1,b2,b3,b4⟩:=Kl C.room C.calm C.bl e0;cases e2:zH T x as with
   | some i =>
    rw[e2] at h3;have h4:some (oz i)=some t:=h3;obtain⟨rfl,y,p2,rfl,e3⟩:=Du e2;cases h4;exact oz.ok g1 C.bl.len (C.var e3) rfl
   | none =>
    rw[e2] at h3;obtain⟨hne,h5⟩:=cZ.mp (show (if as.isEmpty=true then none else (wL E as).map (dB o.run o.mono))=some t from h3);obtain⟨tb,h2,rfl⟩:=ac.mp h5;cases as with
    | nil=>exact absurd rfl hne
    | cons a r =>
     cases k with
     | true =>
      obtain⟨b5,rr,b6,b7⟩:=b4;exact dB.ok b7 (ww b6 g1 b1 b5 (uD ih h2) b2 b3 (uM h2) (vI h2))
     | false =>
      obtain⟨b5,rr,b6,b7⟩:=b4;exact dB.ok b7 (xb b6 g1 b1 b5 (uD ih h2) b2 b3 (uM h2) (vI h2))
theorem BQ(C:CtxOk T X)(ih:yv X E)(h:z7 E T pos as ks g=some t):PE X (.Call g as ks pos) (LE X.K t):=by
 unfold z7 at h;split at h
 ·split at h
  ·rename_i k0;obtain⟨hg,h1⟩:=ad.mp h;cases List.isEmpty_iff.mp k0;exact FY C ih hg h1
  ·cases h
 ·cases h
theorem Bt(C:CtxOk T X)(ih:yv X E)(h:JW E T tg e=some t):PI X tg e (LI X.K t):=by
 have wk:(E e).map gD=some t->PI X tg e (LI X.K t):=λh=>by
  obtain⟨ta,h1,rfl⟩:=ac.mp h;exact gD.ok (ih h1)
 unfold JW at h;split at h
 ·rename_i x p1 a p2;by_cases ex:x = "range"
  ·subst ex;obtain⟨hn,h⟩:=ad.mp (show (if tw a && T.isG "range" then (E a).map jB else none)=some t from h);obtain⟨n1,n2⟩:=ar.mp hn;obtain⟨ta,h1,rfl⟩:=ac.mp h;exact jB.ok (C.isG n2).1 C.bl.range (ih h1) (sR n1 _ _)
  ·rw[if_neg ex] at h;by_cases ex:x = "enumerate"
   ·subst ex;cases tg <;> first|(cases h;done)|skip
    obtain⟨hn,h⟩:=ad.mp (show (if tw a && T.isG "enumerate" then (E a).map iW else none)=some t from h);obtain⟨n1,n2⟩:=ar.mp hn;obtain⟨ta,h1,rfl⟩:=ac.mp h;exact iW.ok (C.isG n2).1 C.bl.enumerate (ih h1) (sR n1 _ _)
   ·rw[if_neg ex] at h;by_cases ex:x = "reversed"
    ·subst ex;obtain⟨hn,h⟩:=ad.mp (show (if tw a && T.isG "reversed" then (E a).map nh else none)=some t from h);obtain⟨n1,n2⟩:=ar.mp hn;obtain⟨ta,h1,rfl⟩:=ac.mp h;exact nh.ok (C.isG n2).1 C.bl.reversed (ih h1) (sR n1 _ _)
    ·rw[if_neg ex] at h;exact wk h
 ·rename_i x p1 a b p2;by_cases ex:x = "range"
  ·subst ex;obtain⟨hn,h⟩:=ad.mp (show (if tw a && tw b && T.isG "range" then (E a).bind λta=>(E b).map (ng ta) else none)=some t from h);obtain⟨n1,n2⟩:=ar.mp hn;obtain⟨n0,n1⟩:=ar.mp n1;obtain⟨ta,h1,h⟩:=ae.mp h;obtain⟨tb,h2,rfl⟩:=ac.mp h;exact ng.ok (C.isG n2).1 C.bl.range (ih h1) (ih h2) (by rw[sR n0,sR n1];rfl) (sR n1 _ _)
  ·rw[if_neg ex] at h;by_cases ex:x = "zip"
   ·subst ex;cases tg <;> first|(cases h;done)|skip
    obtain⟨hn,h⟩:=ad.mp (show (if tw a && tw b && T.isG "zip" then (E a).bind λta=>(E b).map (oP ta) else none)=some t from h);obtain⟨n1,n2⟩:=ar.mp hn;obtain⟨n0,n1⟩:=ar.mp n1;obtain⟨ta,h1,h⟩:=ae.mp h;obtain⟨tb,h2,rfl⟩:=ac.mp h;exact oP.ok (C.isG n2).1 C.bl.zip (ih h1) (ih h2) (by rw[sR n0,sR n1];rfl) (sR n1 _ _)
   ·rw[if_neg ex] at h;exact wk h
 ·exact wk h
theorem AQ(C:CtxOk T X)(h:CN I E F T e tg ifs sc=some t)(ih:∀ s2 H2 fp pins A,yv (uY X sc s2 H2 fp pins A) E)(ihF:∀ s2 H2 fp pins A,MI (uY X sc s2 H2 fp pins A) F) :
  ∃ ti g te tk,I=some ti/\t=gB ti (uE T.N sc) g tk te/\(∀ i∈g.tg,i∈uE T.N sc)/\(∀ s2 H2 fp pins A,PG (uY X sc s2 H2 fp pins A) tg (LG X.K g))/\(∀ s2 H2 fp pins A,PTs (uY X sc s2 H2 fp pins A) ifs (LT X.K tk))/\∀ s2 H2 fp pins A,PE (uY X sc s2 H2 fp pins A) e (LE X.K te):=by
 obtain⟨ti,h1,h⟩:=ae.mp h;obtain⟨g,h2,h⟩:=ae.mp h;obtain⟨hg,h⟩:=ad.mp h;obtain⟨te,h3,h⟩:=ae.mp h;have hh:∀ i∈g.tg,i∈uE T.N sc:=λi hi=>by simpa using cB.mp hg i hi
 match ifs,h with
 | [],h =>
  cases h;exact⟨ti,g,te,gP,h1,rfl,hh,λ_ _ _ _ _=>A8 (C.inner ..) h2,λ_ _ _ _ _=>pts_nil.weak λσ H Q ⟨f,O,ss,S,q⟩=>q H (Ex.refl S.fl),λ_ _ _ _ _=>ih _ _ _ _ _ h3⟩
 | [k],h =>
  obtain⟨tk,h4,rfl⟩:=ac.mp h;exact⟨ti,g,te,tk,h1,rfl,hh,λ_ _ _ _ _=>A8 (C.inner ..) h2,λ_ _ _ _ _=>GE (ihF _ _ _ _ _ h4),λ_ _ _ _ _=>ih _ _ _ _ _ h3⟩
 | _::_::_,h=>cases h
theorem CB(h:Fc gs=some (tg,it,ifs)):gs=[⟨tg,it,ifs,0⟩]/\tw it=true:=by
 unfold Fc at h;split at h
 ·obtain⟨hn,h⟩:=ad.mp h;cases h;exact⟨rfl,hn⟩
 ·cases h
structure TrOk (n:Nat):Prop where
 e:∀{T:Tc} {X:Cx},CtxOk T X->yv X (tT n T)
 t:∀{T:Tc} {X:Cx},CtxOk T X->MI X (Ag n T)
 w:∀{T:Tc} {X:Cx} {op:BoolOp} {vs:List Expr} {p:Pos} {t:TTd},CtxOk T X->Ag n T (.BoolOp op vs p)=some t->PW X (.BoolOp op vs p) (LT X.K t)
theorem BW(ih:yv X E)(hb:IE e=true)(h:(E e).map jF=some t):PT X e (LT X.K t):=by
 obtain⟨ta,h1,rfl⟩:=ac.mp h;exact jF.ok (ih h1) λw=>F4 hb _ w
theorem wf:∀ n,TrOk n
 | 0=>⟨λ_ _ _ h=>(by cases h),λ_ _ _ h=>(by cases h),λ_ h=>(by cases h)⟩
 | n+1=>by
  have ih:=wf n;have hw:∀{T:Tc} {X:Cx} {op:BoolOp} {vs:List Expr} {p:Pos} {t:TTd},CtxOk T X->Ag (n+1) T (.BoolOp op vs p)=some t->PW X (.BoolOp op vs p) (LT X.K t):=λC h=>Ki (ih.t C) (ih.w C) h;refine⟨λ{T X} C {e t} h=>?_,λ{T X} C {e t} h=>?_,hw⟩
  ·cases e <;> first|(cases h;done)|skip
   case Name x p =>
    have h:Nr T x=some t:=h;unfold Nr at h;cases hs:T.slot x with
    | some i =>
     rw[hs] at h;cases h;exact ga.ok (C.var hs)
    | none =>
     rw[hs] at h;obtain⟨hg,h⟩:=ad.mp h;obtain⟨d,h1,rfl⟩:=ac.mp h;exact LN C hg h1
   case Constant k j p =>
    obtain⟨d,h1,rfl⟩:=ac.mp (show (MT k).map dC=some t from h);exact IP h1
   case BinOp a op b p =>
    obtain⟨ta,tb,h1,h2,rfl⟩:=wS (show two (tT n T) a b (gg op)=some t from h);exact gg.ok C.room (ih.e C h1) (ih.e C h2)
   case Compare=>exact HG C (ih.e C) h
   case UnaryOp=>exact IL (ih.e C) h
   case BoolOp=>exact Kj (ih.e C) h
   case IfExp k a b p =>
    obtain⟨tk,h0,h⟩:=ae.mp (show (Ag n T k).bind (λtk=>two (tT n T) a b (ra tk))=some t from h);obtain⟨ta,tb,h1,h2,rfl⟩:=wS h;exact ra.ok (ih.t C h0) (ih.e C h1) (ih.e C h2)
   case Tuple es k p =>
    obtain⟨ta,h1,rfl⟩:=ac.mp (show (wL (tT n T) es).map gm=some t from h);exact gm.ok (uD (ih.e C) h1)
   case List es p =>
    obtain⟨ta,h1,rfl⟩:=ac.mp (show (wL (tT n T) es).map gv=some t from h);exact gv.ok (uD (ih.e C) h1)
   case Subscript=>exact Gu C (ih.e C) h
   case Call g as ks p =>
    exact BQ C (ih.e C) h
   case ListComp e gs sc p =>
    obtain⟨hs,h⟩:=ad.mp (show (if D4 T.sc sc then (Fc gs).bind λ(tg,it,ifs)=>CN (JW (tT n T) T tg it) (tT n { T with sc:=sc }) (Ag n { T with sc:=sc }) T e tg ifs sc else none)=some t from h);obtain⟨⟨tg,it,ifs⟩,h1,h2⟩:=ae.mp h;obtain⟨rfl,hn⟩:=CB h1;obtain⟨ti,g,te,tk,q1,rfl,q2,q3,q4,q5⟩:=AQ C h2 (λ_ _ _ _ _=>ih.e (C.inner ..)) (λ_ _ _ _ _=>ih.t (C.inner ..));exact gB.ok C.calm (C.compS hs) (Bt C (ih.e C) q1) q3 q4 q5 (λx=>uJ hn _ x) q2
  ·cases e;case Compare=>exact HF C (ih.e C) h
   case UnaryOp op a p =>
    have h:(if op = .Not then (Ag n T a).map jG else (tT n T (.UnaryOp op a p)).map jF)=some t:=h;by_cases eo:op = .Not
    ·subst eo;obtain⟨ta,h1,rfl⟩:=ac.mp (show (Ag n T a).map jG=some t from h);exact jG.ok (ih.t C h1)
    ·rw[if_neg eo] at h;refine BW (ih.e C) ?_ h;cases op <;> first|rfl|exact absurd rfl eo
   case BoolOp=>exact (hw C h).pt
   case IfExp=>cases h
   all_goals exact BW (ih.e C) rfl h
end
section
open PySem L2 Dp
variable{K:Frag}{X:Cx}{T:Tc}{pos:Pos}
structure CtxS (T:Tc)(X:Cx):Prop extends CtxOk T X where
 scope:X.env.scope=T.sc
 bk:X.env.blockKind = .function
 xe:X.xe=λ_ _=>False
 fnT:∀ x,X.fn x=true
theorem CtxS.L(C:CtxS T X)(h:DI (T.sc.names.lookup x)=true):AZ X.env.scope x:=by
 unfold L2.AZ;rw[C.scope];cases q:T.sc.names.lookup x with
 | none=>rw[q] at h;cases h
 | some k=>rw[q] at h;cases k <;> first|exact .inl rfl|exact .inr rfl|cases h
theorem sJ.ok(hc:X.calm=true)(hN:X.N.Nodup)(hy:X.N[i]? = some y)(hl:AZ X.env.scope y)(Sc:CompS X.N X.env.scope scope hide)(hi:PI X tg iter (LI X.K it))
  (hg:∀ s2 H2 fp pins C,PG (uY X scope s2 H2 fp pins C) tg (LG X.K g)) (ht:∀ s2 H2 fp pins C,PTs (uY X scope s2 H2 fp pins C) ifs (LT X.K c)) (he:∀ s2 H2 fp pins C,PE (uY X scope s2 H2 fp pins C) elt (LE X.K e))
  (hs:∀ x,foldedSetIterable iter X.env x=pure x) (hh:∀ i∈g.tg,i∈hide) (hsw:swapsWith (.ListComp elt [⟨tg,iter,ifs,0⟩] scope ep) (some (.Name y py)) pos.line X.env=pure true) (hf:X.fn y=true\/X.env.scope.names.lookup y=some .local) :
  PS X (.Assign [.Name y py] (.ListComp elt [⟨tg,iter,ifs,0⟩] scope ep) pos) (LS X.K (gk fz (gNm i) (gB it hide g c e))) :=
 (Cc (spos:=pos) hc hN hy hl Sc hi hg ht he hs hsw hf).weak λD σ H ⟨c0,O,ss,R,q⟩=>by
  obtain⟨O',R⟩:=R.frz (fz:=fz);refine⟨c0.f,O',_,R.sl,it.mono (λds q J H1 e1 D0=>?_) q⟩;refine compD.ok (R.sl.ex e1) hh D0 (compD.mono (λd q v H' e r=>?_) q);have R2:=R.ex (e1.trans e);exact q O' _ H' (R2.to (R2.sl.set r) Sub.set)
def MA(T:Tc)(x:Str)(px ep:Pos)(sc:Scope):Bool:=(T.sc.names.lookup x == some .local) && (px.line == ep.line) && !(sc.names.any λ(n,k)=>n == x && (k == .local || k == .cell))
theorem zg(C:CtxS T X):swapsWith (.ListComp e gs sc ep) (some (.Name x px)) l X.env=pure (MA T x px ep sc):=by
 unfold swapsWith MA;show (pure (X.env.blockKind == .function && X.env.kindOf x == some .local && px.line == ep.line && !(sc.names.any λ(n,k)=>n == x && (k == .local || k == .cell))):Sem Bool)=_;rw[C.bk];unfold Env.kindOf;rw[C.scope];rfl
def EK(T:Tc)(x y:Str)(px py:Pos)(a b:Expr):Bool:=tw a && tw b && (T.sc.names.lookup x == some .local) && (T.sc.names.lookup y == some .local) && (py.line == px.line) && !(x == y) && !(foldedForSure 8 a && foldedForSure 8 b) && !(constantsAlone 8 a && constantsAlone 8 b)
theorem EH(C:CtxS T X)(h:EK T x y px py a b=true):swappedStores [.Tuple [.Name x px,.Name y py] kt pt] (.Tuple [a,b] k2 pt2) X.env=pure (some [x,y]):=by
 unfold EK at h;simp only[bh,cV] at h;obtain⟨⟨⟨⟨⟨⟨⟨h1,h2⟩,h3⟩,h4⟩,h5⟩,h6⟩,h7⟩,h8⟩:=h;have s1:∀{e:Expr},tw e=true->(match e with | .Starred .. => true|_=>false)=false:=λ{e} h=>by cases e <;> first|rfl|cases h
 have k1:X.env.kindOf x == some .local:=by unfold Env.kindOf;rw[C.scope];exact h3
 have k2:X.env.kindOf y == some .local:=by unfold Env.kindOf;rw[C.scope];exact h4
 have n1:(y == x)=false:=by
  cases q:y == x with
  | false=>rfl
  | true =>
   have:=eq_of_beq q;subst this;rw[beq_self_eq_true] at h6;cases h6
 have k1':=eq_of_beq k1;have k2':=eq_of_beq k2;have h5':py.line=px.line:=eq_of_beq h5;have ed:([x,y]:List Str).eraseDups=[x,y]:=by
  rw[List.eraseDups_cons];simp[n1];rfl
 unfold swappedStores;have ep:∀(x:Str) (p:Pos),(Expr.Name x p).pos=p:=λ_ _=>rfl;simp[C.bk,bt,dZ,k1',k2',ep,h5',ed];rw[if_neg,if_neg,if_neg]
 ·rintro⟨q1,q2⟩;rw[q1,q2] at h8;cases h8
 ·rintro⟨q1,q2⟩;rw[q1,q2] at h7;cases h7
 ·rintro (q|q)
  ·cases a <;> first|(cases h1;done)|cases q
  ·cases b <;> first|(cases h2;done)|cases q
def BP(T:Tc)(x y:Str)(a b:Expr):Bool:=!((T.sc.names.lookup x == some .local) && (T.sc.names.lookup y == some .local)) || (foldedForSure 8 a && foldedForSure 8 b)
theorem DE(C:CtxS T X)(h:BP T x y a b=true):swappedStores [.Tuple [.Name x px,.Name y py] kt pt] (.Tuple [a,b] k2 pt2) X.env=pure none:=by
 unfold BP at h;rcases fB.mp h with h|h
 ·have h:(X.env.kindOf x == some .local)=false\/(X.env.kindOf y == some .local)=false:=by
   unfold Env.kindOf;rw[C.scope];revert h;cases T.sc.names.lookup x == some .local <;> cases T.sc.names.lookup y == some .local <;> simp
  unfold swappedStores;simp only[bt,dZ];rcases h with h|h <;> simp only[h,eQ,cC,if_false];all_goals (split <;> first|rfl|skip)
  all_goals (split <;> first|rfl|skip)
  all_goals (repeat' split) <;> first|rfl|simp_all
 ·have e:[a,b].all (foldedForSure 8)=true:=by
   show (foldedForSure 8 a && (foldedForSure 8 b && true))=true;rw[Bool.and_true];exact h
  unfold swappedStores;dsimp only;rw[if_pos e];repeat' split
  all_goals rfl
def yc:Expr->Option (Str×Str×Pos×List Expr×Pos)
 | .Call (.Attribute (.Name x _) m ap) as [] cp=>if ap.endLine == cp.line then some (x,m,ap,as,cp) else none
 | _=>none
theorem xc(h:yc e=some (x,m,ap,as,cp)):(∃ p,e = .Call (.Attribute (.Name x p) m ap) as [] cp)/\(ap.endLine == cp.line)=true:=by
 unfold yc at h;split at h
 ·obtain⟨hl,h⟩:=ad.mp h;cases h;exact⟨⟨_,rfl⟩,hl⟩
 ·cases h
def Hg(E:FE)(T:Tc)(x:Str)(as:List Expr):Option TEd:=match T.gn.lookup x with
 | some (j,s)=>if decide (j<=T.k) && T.isG x then (wL E as).map (ge s) else none
 | none=>none
def Hf(E:FE)(T:Tc):Expr->Option TEd
 | .List es _=>(wL E es).map gv
 | .BinOp a .Mult b _=>two E a b (gg .Mult)
 | .Call (.Name x _) [a] [] _=>if x = "list" then (if tw a && T.isG "list" then (E a).map jR else none) else Hg E T x [a]
 | .Call (.Name x _) [a,b] [] _=>Hg E T x [a,b]
 | _=>none
def Io:Expr->Bool
 | .Tuple .. => true|_=>false
def MB(n:Nat)(T:Tc)(p:Pos)(i:Nat)(e:Expr):Option TSd:=match yc e with
 | some (y,m,_,as,_)=>if m = "pop" then (match as with
  | []=>(T.slot y).map (qT i)
  | [k]=>if tw k then (T.slot y).bind λj=>(tT n T k).map (oB i j) else none
  | _=>none) else none
 | none=>if T.own.contains p.line then (if ul e then (tT n T e).map (jj (T.frz p) i) else (Hf (tT n T) T e).map (jj (T.frz p) i)) else if (T.pk p).isEmpty then (tT n T e).map (gk (T.frz p) (gNm i)) else if ul e then none else (tT n T e).map (oA (T.pk p) i)
def EJ:List Expr->Expr->Option (Str×Pos×Str×Pos×Expr×Expr)
 | [.Name x px,.Name y py],.Tuple [a,b] _ _=>some (x,px,y,py,a,b)
 | _,_=>none
theorem EI(h:EJ es e=some (x,px,y,py,a,b)):es=[.Name x px,.Name y py]/\∃ k p,e = .Tuple [a,b] k p:=by
 unfold EJ at h;split at h
 ·cases h;exact⟨rfl,_,_,rfl⟩
 ·cases h
def Bi:List Expr->Expr->Option (Str×Str×Str×Expr×Pos×Expr×Nat×Pos)
 | [.Name x _,.Name y _,.Name z _],.Tuple [a,.List [] pl,c] k p=>some (x,y,z,a,pl,c,k,p)
 | _,_=>none
theorem Dg(h:Bi es e=some (x,y,z,a,pl,c,k,p)):(∃ px py pz,es=[.Name x px,.Name y py,.Name z pz])/\e = .Tuple [a,.List [] pl,c] k p:=by
 unfold Bi at h;split at h
 ·cases h;exact⟨⟨_,_,_,rfl⟩,rfl⟩
 ·cases h
theorem FU(C:CtxS T X)(h:(T.sc.names.lookup z == some .local)=false):swappedStores [.Tuple [.Name x px,.Name y py,.Name z pz] kt pt] (.Tuple [a,b,c] k2 pt2) X.env=pure none:=by
 have h:(X.env.kindOf z == some .local)=false:=by
  unfold Env.kindOf;rw[C.scope];exact h
 unfold swappedStores;simp only[bt,dZ,h,eQ,cC,if_false];all_goals (split <;> first|rfl|skip)
 all_goals (split <;> first|rfl|skip)
 all_goals (repeat' split) <;> first|rfl|simp_all
def IN(n:Nat)(T:Tc)(p:Pos)(es:List Expr)(e:Expr):Option TSd:=match Bi es e with
 | some (_,_,z,a,_,c,_,_)=>if tw a && tw c && !(T.sc.names.lookup z == some .local) then (match Ah T es with
  | some [i,j,k]=>(tT n T a).bind λta=>(tT n T c).map (pQ (T.frz p) i j k ta)
  | _=>none) else none
 | none=>none
def IM(n:Nat)(T:Tc)(p:Pos)(es:List Expr)(e:Expr):Option TSd:=match EJ es e with
 | some (x,px,y,py,a,b)=>if EK T x y px py a b then (T.slot x).bind λi=>(T.slot y).bind λj=>(if T.own.contains p.line then (Hf (tT n T) T a).bind λta=>(tT n T b).map (qW (T.frz p) i j ta) else (tT n T a).bind λta=>(tT n T b).map (jT (T.frz p) i j ta)) else if BP T x y a b then (Ah T es).bind λis=>(tT n T e).map (gk (T.frz p) (gTp is)) else none
 | none=>if T.own.contains p.line then IN n T p es e else if Io e || ul e then none else (Ah T es).bind λis=>(tT n T e).map (gk (T.frz p) (gTp is))
def Me(n:Nat)(T:Tc)(p:Pos)(e:Expr):Expr->Option TSd
 | .Name x _=>if DI (T.sc.names.lookup x)=true then (T.slot x).bind λi=>MB n T p i e else none
 | .Subscript a k _=>(match a with
  | .Name x _=>if tw k && !ul e then (T.slot x).bind λi=>(tT n T k).bind λtk=>(tT n T e).map (kA (T.frz p) i tk) else none
  | _=>none)
 | .Tuple es _ _=>IM n T p es e
 | _=>none
def Cd(e:Expr):Option (Str×Expr):=match yc e with
 | some (y,m,_,[k],_)=>if m = "pop" then some (y,k) else none
 | _=>none
theorem Ey(h:Cd e=some (y,k)):∃ p ap cp,e = .Call (.Attribute (.Name y p) "pop" ap) [k] [] cp/\(ap.endLine == cp.line)=true:=by
 unfold Cd at h;split at h
 ·rename_i y' m ap k' cp em;obtain⟨⟨p,rfl⟩,hl⟩:=xc em;obtain⟨rfl,h⟩:=ad.mp h;cases h;exact⟨p,ap,cp,rfl,hl⟩
 ·cases h
def ND(n:Nat)(T:Tc)(p:Pos)(e:Expr):Option TSd:=match yc e with
 | some (x,m,_,as,_)=>if m = "append" then (match as with
   | [e]=>(match Cd e with
    | some (y,k)=>if tw k then (T.slot x).bind λi=>(T.slot y).bind λj=>(tT n T k).map (qX i j) else none
    | none=>if tw e then (T.slot x).bind λi=>(tT n T e).map (pN (T.frz p) i) else none)
   | _=>none)
  else if m = "pop" then (if as.isEmpty then (T.slot x).map rH else none)
  else if m = "insert" then (match as with
   | [a,b]=>if tw a && tw b then (T.slot x).bind λi=>(tT n T a).bind λta=>(tT n T b).map (rX (T.pk p) i ta) else none
   | _=>none)
  else none
 | none=>none
def Ny(T:Tc)(p:Pos)(k:TTd)(a b:TSd):TSd:=if (T.pk p).isEmpty then dIf (T.frz p) k a b else rW (T.pk p) k a b
mutual
def Mx:Nat->Tc->Stmt->Option TSd
 | 0,_,_=>none
 | n+1,T,st=>match st with
  | .Return o p=>(match o with
   | some e=>(tT n T e).map (gr (T.frz p))
   | none=>some qR)
  | .Pass _=>some gz
  | .Break _=>some rG
  | .Continue _=>some rb
  | .Expr e p=>ND n T p e
  | .Assign tgs e p=>(match tgs with
   | [tg]=>Me n T p e tg
   | _=>none)
  | .AugAssign tg op e p=>(match tg with
   | .Name x _=>if DI (T.sc.names.lookup x)=true then (T.slot x).bind λi=>(tT n T e).map (pP (T.frz p) i op) else none
   | .Subscript a k _=>(match a with
    | .Name x _=>if tw k then (T.slot x).bind λi=>(tT n T k).bind λtk=>(tT n T e).map (ni (T.frz p) i tk op) else none
    | _=>none)
   | _=>none)
  | .If k a b p=>(Ag n T k).bind λtk=>(BY n T a).bind λta=>(BY n T b).map λtb=>Ny T p tk ta tb
  | .While k a r _=>(match r with
   | []=>(Ag n T k).bind λtk=>(BY n T a).map (iR tk)
   | _=>none)
  | .For tg it a r p=>(match r with
   | []=>if tw it then (JW (tT n T) T tg it).bind λti=>(Mz T tg).bind λg=>(BY n T a).map (ia (T.frz p) ti g) else none
   | _=>none)
  | _=>none
def BY:Nat->Tc->List Stmt->Option TSd
 | 0,_,_=>none
 | n+1,T,sts=>match sts with
  | []=>some gz
  | st::r=>(match r with
   | []=>Mx n T st
   | _=>(Mx n T st).bind λt=>(BY n T r).map (dSq t))
end
theorem Cn(C:CtxOk T X)(ih:yv X E)(h:Hg E T x (a::as)=some t):PE X (.Call (.Name x p) (a::as) [] pos) (LF X.K t):=by
 unfold Hg at h;cases e1:T.gn.lookup x with
 | none=>rw[e1] at h;cases h
 | some js =>
  obtain⟨j,s⟩:=js;rw[e1] at h;obtain⟨hk,h⟩:=ad.mp h;obtain⟨k1,k2⟩:=ar.mp hk;obtain⟨tb,h2,rfl⟩:=ac.mp h;obtain⟨g1,g2⟩:=C.isG k2;obtain⟨ps,d⟩:=C.gn x j s (tQ e1);exact ge.okF (Bg d C.room (uD ih h2) (of_decide_eq_true k1) g1 g2 (uM h2) (vI h2))
theorem Cm(C:CtxOk T X)(ih:yv X E)(h:Hf E T e=some t):PE X e (LF X.K t)/\ul e=false:=by
 unfold Hf at h;split at h
 ·obtain⟨ta,h1,rfl⟩:=ac.mp h;exact⟨gv.okF (uD ih h1),rfl⟩
 ·obtain⟨ta,tb,h1,h2,rfl⟩:=wS h;exact⟨sK.okF (ih h1) (ih h2),rfl⟩
 ·rename_i x p1 a p2;by_cases ex:x = "list"
  ·rw[if_pos ex] at h;obtain⟨hn,h4⟩:=ad.mp h;obtain⟨n1,n2⟩:=ar.mp hn;obtain⟨ta,h1,rfl⟩:=ac.mp h4;subst ex;exact⟨jR.okF (C.isG n2).1 C.bl.list (ih h1) (sR n1 _ _),rfl⟩
  ·rw[if_neg ex] at h;exact⟨Cn C ih h,rfl⟩
 ·exact⟨Cn C ih h,rfl⟩
 ·cases h
theorem uC(h:ul e=false)(t:Expr)(l:Nat)(env:Env):swapsWithSole [t] e l env=pure false:=vE h (some t) l env
theorem Ai(C:CtxOk T X)(h:tT n T (.ListComp e gs sc p)=some t):∃ tg it ifs ti g te tk,gs=[⟨tg,it,ifs,0⟩]/\tw it=true/\CompS X.N X.env.scope sc (uE T.N sc)/\PI X tg it (LI X.K ti)/\t=gB ti (uE T.N sc) g tk te/\(∀ i∈g.tg,i∈uE T.N sc)/\(∀ s2 H2 fp pins A,PG (uY X sc s2 H2 fp pins A) tg (LG X.K g))/\(∀ s2 H2 fp pins A,PTs (uY X sc s2 H2 fp pins A) ifs (LT X.K tk))/\∀ s2 H2 fp pins A,PE (uY X sc s2 H2 fp pins A) e (LE X.K te):=by
 cases n with
 | zero=>cases h
 | succ n =>
  have ih:=wf n;obtain⟨hs,h⟩:=ad.mp (show (if D4 T.sc sc then (Fc gs).bind λ(tg,it,ifs)=>CN (JW (tT n T) T tg it) (tT n { T with sc:=sc }) (Ag n { T with sc:=sc }) T e tg ifs sc else none)=some t from h);obtain⟨⟨tg,it,ifs⟩,h1,h2⟩:=ae.mp h;obtain⟨rfl,hn⟩:=CB h1;obtain⟨ti,g,te,tk,q1,q0,q2,q3,q4,q5⟩:=AQ C h2 (λ_ _ _ _ _=>ih.e (C.inner ..)) (λ_ _ _ _ _=>ih.t (C.inner ..));exact⟨tg,it,ifs,ti,g,te,tk,rfl,hn,C.compS hs,Bt C (ih.e C) q1,q0,q2,q3,q4,q5⟩
theorem JP(C:CtxS T X)(hl:DI (T.sc.names.lookup x)=true)(hs:T.slot x=some i)(h:MB n T p i e=some t):PS X (.Assign [.Name x px] e p) (LS X.K t):=by
 have ih:yv X (tT n T):=(wf n).e C.toCtxOk;have hf:X.fn x=true\/X.env.scope.names.lookup x=some .local:=.inl (C.fnT x);unfold MB at h;split at h
 ·rename_i y m ap as cp em;obtain⟨⟨p1,rfl⟩,hn⟩:=xc em;obtain⟨rfl,h3⟩:=ad.mp h;match as,h3 with
  | [],h3 =>
   obtain⟨j,h1,rfl⟩:=ac.mp h3;exact qT.ok C.nd (C.slot hs) (C.L hl) hf (C.var h1) rfl hn rfl
  | [k],h3 =>
   obtain⟨nk,h3⟩:=ad.mp h3;obtain⟨j,h1,h3⟩:=ae.mp h3;obtain⟨tk,h2,rfl⟩:=ac.mp h3;exact oB.ok C.nd (C.slot hs) (C.L hl) hf (C.var h1) rfl (ih h2) (sR nk _ _) hn rfl
  | _::_::_,h3=>cases h3
 ·by_cases ho:T.own.contains p.line=true
  ·rw[if_pos ho] at h;by_cases hq:ul e=true
   ·rw[if_pos hq] at h;obtain⟨ta,h1,rfl⟩:=ac.mp h;cases e <;> first|(cases hq;done)|skip
    ·rename_i e gs sc ep _;obtain⟨tg,it,ifs,ti,g,te,tk,rfl,hn,q0,qi,rfl,q2,q3,q4,q5⟩:=Ai C.toCtxOk h1;cases sw:MA T x px ep sc with
     | false=>exact jj.ok C.nd (C.slot hs) (C.L hl) (gB.okF C.calm q0 qi q3 q4 q5 (λx=>uJ hn _ x) q2) (by rw[zg C,sw]) hf
     | true=>exact sF.ok C.calm C.nd (C.slot hs) (C.L hl) q0 qi q3 q4 q5 (λx=>uJ hn _ x) q2 (by rw[zg C,sw]) hf
    ·cases n <;> cases h1
    ·cases n <;> cases h1
   ·rw[if_neg hq] at h;obtain⟨ta,h1,rfl⟩:=ac.mp h;obtain⟨q1,q2⟩:=Cm C.toCtxOk ih h1;exact jj.ok C.nd (C.slot hs) (C.L hl) q1 (vE q2 ..) hf
  ·rw[if_neg ho] at h;by_cases hk:(T.pk p).isEmpty=true
   rotate_left
   ·rw[if_neg hk] at h;obtain⟨hc,h⟩:=cZ.mp h;obtain⟨ta,h1,rfl⟩:=ac.mp h;exact oA.ok C.nd (C.slot hs) (C.L hl) (ih h1) (vE (by simpa using hc) ..) hf
   rw[if_pos hk] at h;obtain⟨ta,h1,rfl⟩:=ac.mp h;have gen:ul e=false->PS X (.Assign [.Name x px] e p) (LS X.K (gk (T.frz p) (gNm i) ta)):=λhc=>sE.ok C.nd (C.slot hs) (C.L hl) (ih h1) (vE hc ..) hf;cases e;case ListComp e gs sc ep hmm =>
    obtain⟨tg,it,ifs,ti,g,te,tk,rfl,hn,q0,qi,rfl,q2,q3,q4,q5⟩:=Ai C.toCtxOk h1;cases sw:MA T x px ep sc with
    | false=>exact sE.ok C.nd (C.slot hs) (C.L hl) (ih h1) (by rw[zg C,sw]) hf
    | true=>exact sJ.ok C.calm C.nd (C.slot hs) (C.L hl) q0 qi q3 q4 q5 (λx=>uJ hn _ x) q2 (by rw[zg C,sw]) hf
   case SetComp=>cases n <;> cases h1
   case DictComp=>cases n <;> cases h1
   all_goals exact gen rfl
theorem Gn(C:CtxS T X)(h:IN n T p es e=some t):PS X (.Assign [.Tuple es kt pt] e p) (LS X.K t):=by
 have ih:yv X (tT n T):=(wf n).e C.toCtxOk;unfold IN at h;split at h
 ·rename_i x y z a pl c k p2 eo;obtain⟨⟨px,py,pz,rfl⟩,rfl⟩:=Dg eo;obtain⟨hn,h⟩:=ad.mp h;obtain⟨hn,n3⟩:=ar.mp hn;obtain⟨n1,n2⟩:=ar.mp hn;split at h
  ·rename_i i j k hg;obtain⟨ta,h1,h⟩:=ae.mp h;obtain⟨tb,h2,rfl⟩:=ac.mp h;obtain⟨q1,q2,q3⟩:=wg C.toCtxOk hg;exact pQ.ok (ih h1) (ih h2) (sR n1 _ _) (sR n2 _ _) (zq C.calm q1 q2 q3) (uC rfl ..) (FU C (by simpa using n3)) rfl
  ·cases h
 ·cases h
theorem Gm(C:CtxS T X)(h:IM n T p es e=some t):PS X (.Assign [.Tuple es kt pt] e p) (LS X.K t):=by
 have ih:yv X (tT n T):=(wf n).e C.toCtxOk;unfold IM at h;split at h
 ·rename_i x px y py a b eo;obtain⟨rfl,k,p2,rfl⟩:=EI eo;by_cases hp:EK T x y px py a b=true
  rotate_left
  ·rw[if_neg hp] at h;obtain⟨hc,h⟩:=ad.mp h;obtain⟨is,h1,h⟩:=ae.mp h;obtain⟨ta,h2,rfl⟩:=ac.mp h;obtain⟨q1,q2,q3⟩:=wg C.toCtxOk h1;exact gk.ok (ih h2) (gTp.ok (zq C.calm q1 q2 q3)) (uC rfl ..) (DE C hc) rfl
  rw[if_pos hp] at h;obtain⟨i,h1,h⟩:=ae.mp h;obtain⟨j,h2,h⟩:=ae.mp h;have hp':=hp;unfold EK at hp';simp only[bh,cV] at hp';obtain⟨⟨⟨⟨⟨⟨⟨w1,w2⟩,w3⟩,w4⟩,w5⟩,w6⟩,w7⟩,w8⟩:=hp';have ne:i≠j:=by
   rintro rfl;have a1:=C.slot h1;have a2:=C.slot h2;rw[a1] at a2;cases a2;rw[beq_self_eq_true] at w6;cases w6
  by_cases ow:T.own.contains p.line=true
  ·rw[if_pos ow] at h;obtain⟨ta,h3,h⟩:=ae.mp h;obtain⟨tb,h4,rfl⟩:=ac.mp h;exact (Ew (pos:=p) C.calm C.nd (C.slot h1) (C.slot h2) ne (C.loc _ (eq_of_beq w3)) (C.loc _ (eq_of_beq w4)) (sT (Cm C.toCtxOk ih h3).1 (sT (ih h4) pa_nil (sR w2 _ _)) (sR w1 _ _)) (EH C hp) rfl).weak λD σ H q=>qW.weak q
  ·rw[if_neg ow] at h;obtain⟨ta,h3,h⟩:=ae.mp h;obtain⟨tb,h4,rfl⟩:=ac.mp h;exact (Ew (pos:=p) C.calm C.nd (C.slot h1) (C.slot h2) ne (C.loc _ (eq_of_beq w3)) (C.loc _ (eq_of_beq w4)) (sT (ih h3) (sT (ih h4) pa_nil (sR w2 _ _)) (sR w1 _ _)) (EH C hp) rfl).weak λD σ H q=>jT.weak q
 ·by_cases ow:T.own.contains p.line=true
  ·rw[if_pos ow] at h;exact Gn C h
  rw[if_neg ow] at h;obtain⟨hn,h⟩:=cZ.mp h;obtain⟨is,h1,h⟩:=ae.mp h;obtain⟨ta,h2,rfl⟩:=ac.mp h;obtain⟨q1,q2,q3⟩:=wg C.toCtxOk h1;have hn2:Io e=false/\ul e=false:=by simpa using hn
  refine gk.ok (ih h2) (gTp.ok (zq C.calm q1 q2 q3)) (uC hn2.2 ..) ?_ rfl;have:=hn2.1;cases e <;> first|rfl|cases this
theorem HL(C:CtxS T X)(h:Me n T p e tg=some t):PS X (.Assign [tg] e p) (LS X.K t):=by
 have ih:yv X (tT n T):=(wf n).e C.toCtxOk;cases tg <;> first|(cases h;done)|skip
 case Name x px =>
  obtain⟨hl,h⟩:=ad.mp (show (if DI (T.sc.names.lookup x)=true then (T.slot x).bind λi=>MB n T p i e else none)=some t from h);obtain⟨i,h1,h⟩:=ae.mp h;exact JP C hl h1 h
 case Subscript a k sp =>
  cases a <;> first|(cases h;done)|skip
  rename_i x q;obtain⟨hn,h⟩:=ad.mp (show (if tw k && !ul e then (T.slot x).bind λi=>(tT n T k).bind λtk=>(tT n T e).map (kA (T.frz p) i tk) else none)=some t from h);obtain⟨n1,n2⟩:=ar.mp hn;obtain⟨i,h1,h⟩:=ae.mp h;obtain⟨tk,h2,h⟩:=ae.mp h;obtain⟨ta,h3,rfl⟩:=ac.mp h;have hc:ul e=false:=by simpa using n2
  refine kA.ok (C.var h1) (ih h2) (ih h3) (uC hc ..) ?_ rfl (vW (C.var h1) (ih h2) ui ?_)
  ·cases e <;> rfl
  ·intro v;cases k <;> first|rfl|cases n1
 case Tuple es k pt=>exact Gm C h
theorem J7(C:CtxS T X)(h:ND n T p e=some t):PS X (.Expr e p) (LS X.K t):=by
 have ih:yv X (tT n T):=(wf n).e C.toCtxOk;unfold ND at h;split at h
 ·rename_i x m ap as cp em;obtain⟨⟨p1,rfl⟩,hl⟩:=xc em;by_cases e1:m = "append"
  ·subst e1;rw[if_pos rfl] at h;match as,h with
   | [e],h =>
    cases ep:Cd e with
    | some yk =>
     obtain⟨y,k⟩:=yk;simp only[ep] at h;obtain⟨hn,h⟩:=ad.mp h;obtain⟨i,h1,h⟩:=ae.mp h;obtain⟨j,h2,h⟩:=ae.mp h;obtain⟨ta,h3,rfl⟩:=ac.mp h;obtain⟨p2,ap2,cp2,rfl,hl2⟩:=Ey ep;exact qX.ok (C.var h1) rfl hl (C.var h2) rfl hl2 (ih h3) (sR hn _ _) rfl
    | none =>
    simp only[ep] at h;obtain⟨hn,h⟩:=ad.mp h;obtain⟨i,h1,h⟩:=ae.mp h;obtain⟨ta,h2,rfl⟩:=ac.mp h;exact pN.ok (C.var h1) rfl (ih h2) (sR hn _ _) hl rfl
   | [],h=>cases h
   | _::_::_,h=>cases h
  ·rw[if_neg e1] at h;by_cases e2:m = "pop"
   ·subst e2;rw[if_pos rfl] at h;obtain⟨ha,h4⟩:=ad.mp h;obtain⟨i,h1,rfl⟩:=ac.mp h4;cases as with
    | cons=>cases ha
    | nil=>exact rH.ok (C.var h1) rfl hl rfl
   ·rw[if_neg e2] at h;by_cases e3:m = "insert"
    ·subst e3;rw[if_pos rfl] at h;match as,h with
     | [a,b],h =>
      obtain⟨hn,h⟩:=ad.mp h;obtain⟨n1,n2⟩:=ar.mp hn;obtain⟨i,h1,h⟩:=ae.mp h;obtain⟨ta,h2,h⟩:=ae.mp h;obtain⟨tb,h3,rfl⟩:=ac.mp h;exact rX.ok (C.var h1) rfl (ih h2) (ih h3) (by rw[sR n1,sR n2];rfl) (sR n2 _ _) hl rfl
     | [],h=>cases h
     | [_],h=>cases h
     | _::_::_::_,h=>cases h
    rw[if_neg e3] at h;cases h
 ·cases h
theorem A7:∀ n,(∀{T:Tc} {X:Cx} {st:Stmt} {t:TSd},CtxS T X->Mx n T st=some t->PS X st (LS X.K t))/\(∀{T:Tc} {X:Cx} {sts:List Stmt} {t:TSd},CtxS T X->BY n T sts=some t->PSs X sts (LS X.K t))
 | 0=>⟨λ_ h=>(by cases h),λ_ h=>(by cases h)⟩
 | n+1=>by
  have ihS:=A7 n;constructor
  ·intro T X st t C h;have C':=C.toCtxOk;have ih:yv X (tT n T):=(wf n).e C';have it:MI X (Ag n T):=(wf n).t C';have hp:PassesOwn (model X.prog X.w) X.A X.env X.xe:=by
    rw[C.xe];exact PassesOwn.never
   cases st <;> first|(cases h;done)|skip
   case Return o p =>
    cases o with
    | none =>
     cases h;exact qR.ok
    | some e =>
     obtain⟨ta,h1,rfl⟩:=ac.mp (show (tT n T e).map (gr (T.frz p))=some t from h);exact gr.ok (ih h1)
   case Pass=>cases h;exact gz.pass
   case Break=>cases h;exact rG.ok
   case Continue=>cases h;exact rb.ok
   case Expr=>exact J7 C h
   case Assign tgs e p =>
    match tgs,h with
    | [tg],h=>exact HL C h
    | [],h=>cases h
    | _::_::_,h=>cases h
   case AugAssign tg op e p =>
    cases tg <;> first|(cases h;done)|skip
    case Name x px =>
     obtain⟨hl,h⟩:=ad.mp (show (if DI (T.sc.names.lookup x)=true then (T.slot x).bind λi=>(tT n T e).map (pP (T.frz p) i op) else none)=some t from h);obtain⟨i,h1,h⟩:=ae.mp h;obtain⟨ta,h2,rfl⟩:=ac.mp h;exact pP.ok C.room C.nd (C'.slot h1) (C.L hl) (ih h2) (.inl (C.fnT _))
    case Subscript a k sp =>
     cases a <;> first|(cases h;done)|skip
     rename_i x q;obtain⟨hn,h⟩:=ad.mp (show (if tw k then (T.slot x).bind λi=>(tT n T k).bind λtk=>(tT n T e).map (ni (T.frz p) i tk op) else none)=some t from h);obtain⟨i,h1,h⟩:=ae.mp h;obtain⟨tk,h2,h⟩:=ae.mp h;obtain⟨ta,h3,rfl⟩:=ac.mp h;refine ni.ok C.room (C.var h1) (ih h2) (ih h3) ?_;cases k <;> first|(intros;rfl)|cases hn
   case If k a b p =>
    obtain⟨tk,h0,h⟩:=ae.mp (show (Ag n T k).bind (λtk=>(BY n T a).bind λta=>(BY n T b).map λtb=>Ny T p tk ta tb)=some t from h);obtain⟨ta,h1,h⟩:=ae.mp h;obtain⟨tb,h2,rfl⟩:=ac.mp h;unfold Ny;split
    ·exact dIf.ok (it h0) (ihS.2 C h1) (ihS.2 C h2)
    ·exact rW.ok (it h0) (ihS.2 C h1) (ihS.2 C h2)
   case While k a r p =>
    cases r with
    | cons=>cases h
    | nil =>
     obtain⟨tk,h0,h⟩:=ae.mp (show (Ag n T k).bind (λtk=>(BY n T a).map (iR tk))=some t from h);obtain⟨ta,h1,rfl⟩:=ac.mp h;exact iR.ok hp (it h0) (ihS.2 C h1)
   case For tg i a r p =>
    cases r with
    | cons=>cases h
    | nil =>
     obtain⟨hn,h⟩:=ad.mp (show (if tw i then (JW (tT n T) T tg i).bind λti=>(Mz T tg).bind λg=>(BY n T a).map (ia (T.frz p) ti g) else none)=some t from h);obtain⟨ti,h0,h⟩:=ae.mp h;obtain⟨g,h1,h⟩:=ae.mp h;obtain⟨tb,h2,rfl⟩:=ac.mp h;exact ia.ok hp C.calm (Bt C' ih h0) (A8 C' h1) (ihS.2 C h2) λx=>uJ hn _ x
  ·intro T X sts t C h;match sts,h with
   | [],h =>
    cases h;exact gz.nil
   | [st],h=>exact dSq.one (ihS.1 C h)
   | st::s2::r,h =>
    obtain⟨ta,h1,h⟩:=ae.mp (show (Mx n T st).bind (λt=>(BY n T (s2::r)).map (dSq t))=some t from h);obtain⟨tb,h2,rfl⟩:=ac.mp h;exact dSq.ok (ihS.1 C h1) (ihS.2 C h2)
theorem J9(B:Bl mg)(S:FnScope N ps (sL st))
  (hG:∀ x j s,(x,j,s)∈G->∃ ps,Def P w K mg base x j ps (AW K s.n s.run)) (hgc:∀ x d,(x,d)∈gc->∃ v u,mg x=some u/\RelV v u/\∀ f O H,Rp K f O H d v) (hgn:∀ x j s,(x,j,s)∈gn->∃ ps,Def P w K mg base x j ps (Gc K s.n s.run)) (hr:Room k (A.deeper (PyProof.Rows.envOfC qual (sL st) s0.heap.objs.size f cdv))) :
  CtxS ⟨N,sL st,G,gc,k,fz,own,mu,gn⟩ (BK CV P w K mg base N qual (sL st) f cdv A outer s0 H E).nox:=by
 refine⟨⟨rfl,S.nd,rfl,hr,λx h=>?_,λx h=>h,λx h=>h,λx h=>h,hG,hgc,B,λx h=>⟨h,rfl⟩,hgn⟩,rfl,?_,rfl,λ_=>rfl⟩
 ·have h:LH ((sL st).names.lookup x)=true:=h;unfold IF;show (sL st).names.lookup x=_\/(sL st).names.lookup x=_\/(sL st).names.lookup x=_;cases q:(sL st).names.lookup x with
  | none=>rw[q] at h;cases h
  | some k=>rw[q] at h;cases k <;> first|exact .inl rfl|exact .inr (.inl rfl)|exact .inr (.inr rfl)|cases h
 ·show (if (sL st).kind.isAnnotationScope then ScopeKind.function else (sL st).kind) = .function;rw[S.kind];rfl
theorem JJ(F:Fun K x qual st f fd)(B:Bl mg)(S:FnScope N ps (sL st))(hn:s.n=ps.length)
  (hG:∀ x j s,(x,j,s)∈G->∃ ps,Def P w K mg base x j ps (AW K s.n s.run)) (hgc:∀ x d,(x,d)∈gc->∃ v u,mg x=some u/\RelV v u/\∀ f O H,Rp K f O H d v) (hgn:∀ x j s,(x,j,s)∈gn->∃ ps,Def P w K mg base x j ps (Gc K s.n s.run))
  (ht:BY n ⟨N,sL st,G,gc,k,fz,own,mu,gn⟩ (uf st)=some t) (h:Does N.length t s):FnOk P w K mg base CV (k+1) f fd ps (AW K s.n s.run) :=
 F.ok S (λvs H Q E q=>q.1.trans hn) (λcdv A outer s0 H vs Q E hr q=>⟨LS K t,(A7 n).2 (J9 B S hG hgc hgn hr) ht,h.ok q⟩)
end
section
open PySem L2 Dp
variable{P:Program}{w:World}{K:Frag}{mg:Str->Option Value}{base:Heap}
theorem JI(F:Fun K "law" "law" st f0 fd)(B:Bl mg)(S:FnScope ("_law_script" :: "_law_flow_here" :: N) ["_law_script"] (sL st))
  (g:Def P w K mg base "_law_flow" 1 ["_law_script"] (xQ K)) (hG:∀ x j s,(x,j,s)∈G->∃ ps,Def P w K mg base x j ps (AW K s.n s.run)) (hgc:∀ x d,(x,d)∈gc->∃ v u,mg x=some u/\RelV v u/\∀ f O H,Rp K f O H d v)
  (hb:uf st = .Assign [.Name "_law_flow_here" p1] (.Call (.Name "_law_flow" p2) [.Name "_law_script" p3] [] p4) p5::rest) (hk:1<=k) (hv:(sL st).names.lookup ("_law_script" : Str)=some .local\/(sL st).names.lookup ("_law_script" : Str)=some .cell) (hl:(sL st).names.lookup ("_law_flow_here" : Str)=some .local\/(sL st).names.lookup ("_law_flow_here" : Str)=some .cell) (hg:(sL st).names.lookup ("_law_flow" : Str)=some .globalImplicit)
  (ht:BY n ⟨"_law_script" :: "_law_flow_here" :: N,sL st,G,gc,k,fz,own,mu,[]⟩ rest=some t) (h:t.run ⟨λ_=>False,λd=>d = .bl true,λ_=>False,λ_=>False⟩ (.no :: .val .fl::List.replicate N.length .no)) :
  FnOk P w K mg base CV (k+1) f0 fd ["_law_script"] (BZ K):=by
 refine F.ok S (λvs H Q E h=>?_) (λcdv A outer s H vs Q E hr q=>?_)
 ·obtain⟨a,ns,rfl,_⟩:=h;rfl
 obtain⟨a,ns,rfl,hS,h63,q⟩:=q;refine⟨KM (IU (Al (xQ K) [] E0 (yD (vc 0) Gs)) (yW 1)) (LS K t),?_,?_⟩
 ·rw[hb];refine uk (vv S.nd rfl hl (Bg g hr (sT (Bf rfl ?_ rfl rfl) pa_nil rfl) hk hg rfl rfl rfl) rfl (.inl rfl)) ?_
  ·rcases hv with z|z
   ·exact .inl z
   ·exact .inr (.inl z)
  refine (A7 n).2 (T:=⟨"_law_script" :: "_law_flow_here" :: N,sL st,G,gc,k,fz,own,mu,[]⟩) ⟨⟨rfl,S.nd,rfl,hr,λx h=>?_,λx h=>h,λx h=>h,λx h=>h,hG,hgc,B,λx h=>⟨h,rfl⟩,λ_ _ _ h=>absurd h aO⟩,rfl,?_,rfl,λ_=>rfl⟩ ht
  ·have h:LH ((sL st).names.lookup x)=true:=h;unfold IF;show (sL st).names.lookup x=_\/(sL st).names.lookup x=_\/(sL st).names.lookup x=_;cases q:(sL st).names.lookup x with
   | none=>rw[q] at h;cases h
   | some k=>rw[q] at h;cases k <;> first|exact .inl rfl|exact .inr (.inl rfl)|exact .inr (.inr rfl)|cases h
  ·show (if (sL st).kind.isAnnotationScope then ScopeKind.function else (sL st).kind) = .function;rw[S.kind];rfl
 ·refine⟨_,rfl,a,ns,rfl,hS,h63,λf H1 e1 fl hf=>?_⟩;have ef:(L2.start ("_law_script" :: "_law_flow_here" :: N) [V.ref a]).set 1 (some (V.ref f))=some (.ref a)::some (.ref f)::List.replicate N.length none:=rfl;show LS K t _ ((L2.start ("_law_script" :: "_law_flow_here" :: N) [V.ref a]).set 1 (some (V.ref f))) H1;rw[ef];have gt:∀{i:Nat} {x:SD},(SD.no::SD.val .fl::List.replicate N.length SD.no)[i]? = some x->x = .no\/(i=1/\x = .val .fl):=λ{i x} h=>by
   match i,h with
   | 0,h=>cases h;exact .inl rfl
   | 1,h=>cases h;exact .inr ⟨rfl,rfl⟩
   | i+2,h=>exact .inl (eV (ay (show (List.replicate N.length SD.no)[i]? = some x from h)))
  refine⟨⟨f,[f],H1,[f]⟩,[f],SD.no::SD.val .fl::List.replicate N.length SD.no,⟨⟨fl,aC.mpr rfl,λb hb=>?_,λl r e z=>?_,by simp,λi d hd=>?_,λi l hd=>?_⟩,λ_ h=>h,⟨λ_ _ h _ _=>h,λl r h=>⟨r,h⟩⟩,λb h=>.inl h,λi l b hd=>?_⟩,?_⟩
  ·rw[aC.mp hb];exact fl.lst
  ·have z:=aC.mp z;subst z;obtain⟨l0,ns0,i,c,a0,b,h1,h2,_⟩:=fl;rw[h1] at e;cases e;rw[h1] at h2;cases ns0 <;> cases h2
  ·rcases gt hd with e|⟨rfl,e⟩
   ·cases e
   ·cases e;exact⟨_,rfl,rfl⟩
  ·rcases gt hd with e|⟨_,e⟩ <;> cases e
  ·rcases gt hd with e|⟨_,e⟩ <;> cases e
  ·refine t.mono ?_ h;refine⟨λs z=>z.elim,λd z v H' R=>?_,λs z=>z.elim,λs z=>z.elim⟩;subst z;cases (show v=_ from R.rp);exact q H'
end
section
open PySem L2 Dp
variable{P:Program}{w:World}{K:Frag}{mg:Str->Option Value}{base:Heap}
theorem OG:∀(x:Str) (j:Nat) (s:SpB),(x,j,s)∈([]:List (Str×Nat×SpB))->∃ ps,Def P w K mg base x j ps (AW K s.n s.run):=λ_ _ _ h=>absurd h aO
theorem tW(g:Def P w K mg base y i ps (AW K r.n r.run))(h:∀(x:Str) (j:Nat) (s:SpB),(x,j,s)∈G->∃ ps,Def P w K mg base x j ps (AW K s.n s.run)):∀(x:Str) (j:Nat) (s:SpB),(x,j,s)∈(y,i,r)::G->∃ ps,Def P w K mg base x j ps (AW K s.n s.run):=λx j s e=>by
 rcases ao.mp e with e|e
 ·cases e;exact⟨ps,g⟩
 ·exact h x j s e
theorem t4:∀(x:Str) (d:D),(x,d)∈([]:List (Str×D))->∃ v u,mg x=some u/\RelV v u/\∀ f O H,Rp K f O H d v:=λ_ _ h=>absurd h aO
end
section
open PySem L2 Dp
variable{P:Program}{w:World}{K:Frag}{mg:Str->Option Value}{base:Heap}
structure Sl (K:Frag)(f:Addr)(x:Str)(st:Stmt):Prop where
 a:PySem.W.nsIn K mainGlobals x=some (some (.ref f))
 ex:∃ fd,Fun K x x st f fd
theorem sl{f:Addr}{x:Str}{st:Stmt}{oc:Value}{od an:Option Addr}{osl:Array (Option Value)}{kV doc pm cdv ct:Value}(a:PySem.W.nsIn K mainGlobals x=some (some (.ref f)))(l:K.lookup f=some ⟨oc,od,.func (PySem.W.fnOf x x (vG st) (uf st) (sL st) .none kV doc pm an cdv ct),osl⟩)(c:PySem.W.codeIn K cdv x=true)(k:PySem.W.keepIn K (.ref f)=true):Sl K f x st:=⟨a,_,J3 l c k⟩
abbrev Mg(K:Frag)(mg:Str->Option Value):Prop:=∀(x:Str) (f:Addr),PySem.W.nsIn K mainGlobals x=some (some (.ref f))->mg x=some (.ref f)
def N1(N ps:List Str)(sc:Scope):Bool:=decide (N.Nodup) && decide (N.take ps.length=ps) && (ps.all λx=>decide (sc.names.lookup x=some .local) || decide (sc.names.lookup x=some .cell)) && sc.names.all λy=>decide (y.2 ≠ .free)
theorem sc{sc:Scope}(h:N1 N ps sc=true)(h1:sc.kind = .function)(h2:sc.isCoroutine=false)(h3:sc.isGenerator=false):FnScope N ps sc:=by
 unfold N1 at h;obtain⟨h,d⟩:=ar.mp h;obtain⟨h,c⟩:=ar.mp h;obtain⟨a,b⟩:=ar.mp h;refine⟨h1,h2,h3,of_decide_eq_true a,of_decide_eq_true b,λx hx=>?_,λy hy=>of_decide_eq_true (cB.mp d y hy)⟩;rcases fB.mp (cB.mp c x hx) with z|z
 ·exact .inl (of_decide_eq_true z)
 ·exact .inr (of_decide_eq_true z)
abbrev o0:List (Nat×List Nat)×List Nat×List Nat:=([],[],[])
abbrev BA(x:Str)(st:Stmt)(kV doc pm:Value)(an:Option Addr)(cdv ct:Value)(us:List Value):=bindArgs (PySem.W.fnOf x x (vG st) (uf st) (sL st) .none kV doc pm an cdv ct) ⟨us,[]⟩
theorem OH:∀(x:Str) (j:Nat) (s:SpB),(x,j,s)∈([]:List (Str×Nat×SpB))->∃ ps,Def P w K mg base x j ps (Gc K s.n s.run):=λ_ _ _ h=>absurd h aO
theorem t6(k:Nat)(H:List (Nat×List Nat)×List Nat×List Nat)(S:Sl K f x st)(W:Mg K mg)(B:Bl mg)(C:FnScope N ps (sL st))(hn:s.n=ps.length)
  (hG:∀ x j s,(x,j,s)∈G->∃ ps,Def P w K mg base x j ps (AW K s.n s.run)) (hgc:∀ x d,(x,d)∈gc->∃ v u,mg x=some u/\RelV v u/\∀ f O H,Rp K f O H d v)
  (hb:∀(kV doc pm:Value) (an:Option Addr) (cdv ct:Value) (us:List Value),us.length=ps.length->BA x st kV doc pm an cdv ct us=pure (ps.zip us))
  (ht:BY 40 ⟨N,sL st,G,gc,k,H.1,H.2.1,H.2.2,[]⟩ (uf st)=some t) (h:Does N.length t s):Def P w K mg base x (k+1) ps (AW K s.n s.run):=by
 obtain⟨a,fd,F⟩:=S;exact .of F (W _ _ a) (F.binds hb) (JJ (n:=40) (fz:=H.1) (own:=H.2.1) (mu:=H.2.2) F B C hn hG hgc OH ht h)
theorem u0{us:List Value}{n:Nat}(h:us.length=n+1):∃ a r,us=a::r/\r.length=n:=by
 cases us with
 | nil=>exact absurd h (eF n).symm
 | cons a r=>exact⟨a,r,rfl,Nat.succ.inj h⟩
theorem u1{us:List Value}(h:us.length=1):∃ a,us=[a]:=by
 obtain⟨a,r,rfl,h1⟩:=u0 (n:=0) h;exact⟨a,by rw[cQ.mp h1]⟩
theorem u2{us:List Value}(h:us.length=2):∃ a b,us=[a,b]:=by
 obtain⟨a,r,rfl,h1⟩:=u0 (n:=1) h;obtain⟨b,rfl⟩:=u1 h1;exact⟨a,b,rfl⟩
theorem u3{us:List Value}(h:us.length=3):∃ a b c,us=[a,b,c]:=by
 obtain⟨a,r,rfl,h1⟩:=u0 (n:=2) h;obtain⟨b,c,rfl⟩:=u2 h1;exact⟨a,b,c,rfl⟩
theorem b1(h:∀(kV doc pm:Value) (an:Option Addr) (cdv ct u:Value),BA x st kV doc pm an cdv ct [u]=pure [(p,u)]):∀(kV doc pm:Value) (an:Option Addr) (cdv ct:Value) (us:List Value),us.length=[p].length->BA x st kV doc pm an cdv ct us=pure ([p].zip us):=λ_ _ _ _ _ _ us hl=>by
 obtain⟨_,rfl⟩:=u1 hl;exact h ..
theorem b2(h:∀(kV doc pm:Value) (an:Option Addr) (cdv ct u v:Value),BA x st kV doc pm an cdv ct [u,v]=pure [(p,u),(q,v)]):∀(kV doc pm:Value) (an:Option Addr) (cdv ct:Value) (us:List Value),us.length=[p,q].length->BA x st kV doc pm an cdv ct us=pure ([p,q].zip us):=λ_ _ _ _ _ _ us hl=>by
 obtain⟨_,_,rfl⟩:=u2 hl;exact h ..
theorem b3(h:∀(kV doc pm:Value) (an:Option Addr) (cdv ct u v z:Value),BA x st kV doc pm an cdv ct [u,v,z]=pure [(p,u),(q,v),(r,z)]):∀(kV doc pm:Value) (an:Option Addr) (cdv ct:Value) (us:List Value),us.length=[p,q,r].length->BA x st kV doc pm an cdv ct us=pure ([p,q,r].zip us):=λ_ _ _ _ _ _ us hl=>by
 obtain⟨_,_,_,rfl⟩:=u3 hl;exact h ..
theorem b4(h:∀(kV doc pm:Value) (an:Option Addr) (cdv ct u v z y:Value),BA x st kV doc pm an cdv ct [u,v,z,y]=pure [(p,u),(q,v),(r,z),(s,y)]):∀(kV doc pm:Value) (an:Option Addr) (cdv ct:Value) (us:List Value),us.length=[p,q,r,s].length->BA x st kV doc pm an cdv ct us=pure ([p,q,r,s].zip us):=λ_ _ _ _ _ _ us hl=>by
 obtain⟨a,l,rfl,h1⟩:=u0 (n:=3) hl;obtain⟨_,_,_,rfl⟩:=u3 h1;exact h ..
end
end Ds
set_option maxHeartbeats 4000000
namespace My
open PySem L2
def top(i:Nat):Stmt:=PySem.Challenge.pw_nestwright_k59_outer_ones_looked_at.main.body.getD i (.Pass ⟨0,0,0,0⟩)
abbrev vQ:Stmt:=top 1
abbrev xX:Stmt:=top 2
abbrev xS:Stmt:=top 4
abbrev uy:Stmt:=top 5
abbrev D5:Stmt:=top 6
abbrev vP:Stmt:=top 7
abbrev Ar:Stmt:=top 8
abbrev D6:Stmt:=top 9
abbrev uZ:Stmt:=top 10
abbrev ux:Stmt:=top 11
abbrev B4:Stmt:=top 12
abbrev An:Stmt:=top 13
abbrev B5:Stmt:=top 14
abbrev HU:Stmt:=top 16
abbrev xo:Stmt:=top 18
abbrev yN:Stmt:=top 19
abbrev wo:Stmt:=top 20
abbrev yJ:Stmt:=top 21
abbrev vj:Stmt:=top 22
abbrev Am:Stmt:=top 23
abbrev uH:Stmt:=top 25
abbrev Ao:Stmt:=top 26
abbrev vt:Stmt:=top 27
abbrev uz:Stmt:=top 28
abbrev yI:Stmt:=top 29
abbrev vi:Stmt:=top 30
abbrev vL:Stmt:=top 31
abbrev vV:Stmt:=top 33
abbrev vU:Stmt:=top 34
abbrev wm:Stmt:=top 35
abbrev vo:Stmt:=top 36
abbrev xu:Stmt:=top 37
abbrev vN:Stmt:=top 38
abbrev xT:Stmt:=top 39
abbrev yK:Stmt:=top 40
abbrev xq:Stmt:=top 41
abbrev Aq:Stmt:=top 42
abbrev vm:Stmt:=top 43
abbrev wl:Stmt:=top 44
abbrev uu:Stmt:=top 45
abbrev vp:Stmt:=top 46
abbrev ut:Stmt:=top 47
abbrev vM:Stmt:=top 48
abbrev xV:Stmt:=top 49
abbrev xt:Stmt:=top 50
abbrev xr:Stmt:=top 51
abbrev xU:Stmt:=top 52
abbrev uA:Stmt:=top 53
abbrev wn:Stmt:=top 54
abbrev vO:Stmt:=top 55
abbrev vn:Stmt:=top 56
abbrev xW:Stmt:=top 57
abbrev uI:Stmt:=top 58
abbrev uj:Stmt:=top 59
abbrev tU:Stmt:=top 60
abbrev yL:Stmt:=top 61
abbrev u6:Stmt:=top 62
abbrev yM:Stmt:=top 63
abbrev HV:Stmt:=top 64
section
variable{P:Program}{w:World}{K:Frag}{mg:Str->Option Value}{base:Heap}
def Flow(H:Hp)(f:Addr):Prop:=∃(l:Addr) (ns:List Int) (i c a b:Int),H f=some (.lst [.ref l,.int i,.int c,.int a,.int b])/\H l=some (.lst (ns.map V.int))/\ns.length<=63/\0<=i/\i<=(ns.length:Int)/\0<=c/\0<=a/\a<2147483647
theorem LY{H:Hp}{f l:Addr}{ns:List Int}{x:Addr}{r:List V}(h1:H f=some (.lst (.ref x::r)))(h2:H l=some (.lst (ns.map V.int))):l≠f:=by
 refine Ls h2 h1 λz=>?_;injection z with z;cases ns with
 | nil=>cases z
 | cons n ns=>rw[cN] at z;injection z with z1;cases z1
theorem xj{H:Hp}{f l:Addr}{ns:List Int}{i c a b i' c' a' b':Int}(h1:H f=some (.lst [.ref l,.int i,.int c,.int a,.int b]))(h2:H l=some (.lst (ns.map V.int))) :
  tJ H f (.lst [.ref l,.int i',.int c',.int a',.int b']) f=some (.lst [.ref l,.int i',.int c',.int a',.int b'])/\tJ H f (.lst [.ref l,.int i',.int c',.int a',.int b']) l=some (.lst (ns.map V.int))/\Sm f H (tJ H f (.lst [.ref l,.int i',.int c',.int a',.int b'])):=by
 refine⟨sX,?_,λb o n e=>?_,λx r e=>?_⟩
 ·rw[sS (LY h1 h2)];exact h2
 ·rw[sS n];exact e
 ·rw[h1] at e;injection e with e;injection e with e;injection e with e _;rw[← e];exact⟨_,sX⟩
theorem HJ{ns:List Int}{i:Int}(h0:0<=i)(h:i<(ns.length:Int)):∃ z,y9 (ns.map V.int) i=some (V.int z):=by
 obtain⟨k,rfl⟩:=bz h0;exact⟨ns[k]'(by omega),CU (by rw[au,ah (by omega)];rfl)⟩
def xQ(K:Frag):Sp:=λvs H Q _=>∃(a:Addr) (ns:List Int),vs=[.ref a]/\SqL K H a (ns.map V.int)/\ns.length<=63/\∀ f H',Same H H'->Flow H' f->H f=none->Q (.ref f) H'
def zh:Sp:=λvs H Q _=>∃(f:Addr) (m:Int),vs=[.ref f,.int m]/\Flow H f/\0<m/\Lt2 9000 m/\∀ d H',0<=d->d<m->Flow H' f->Sm f H H'->Q (.int d) H'
theorem qZ:FnScope ["_law_script"] ["_law_script"] (sL vV):=⟨rfl,rfl,rfl,by decide +kernel,rfl,by decide +kernel,by decide +kernel⟩
theorem GX{f:Addr}{fd:FuncData}(F:Fun K "_law_flow" "_law_flow" vV f fd)(B:Bl mg):FnOk P w K mg base CV 1 f fd ["_law_script"] (xQ K):=by
 refine F.ok qZ (λvs H Q E h=>?_) (λcdv A outer s H vs Q E hr h=>?_)
 ·obtain⟨a,ns,rfl,_⟩:=h;rfl
 obtain⟨a,ns,rfl,hS,h63,q⟩:=h;have nd:=qZ.nd;refine⟨_,(uR (@zo _ _ _ _ (@zr _ _ _ _ (@sT _ _ _ _ _ (@xb _ _ _ _ _ _ _ _ _ (Bs K) rfl B.list xK (@sT _ _ _ _ _ (pv 0) pa_nil (by rfl)) (by decide) (by decide) (by rfl) (by rfl)) (@sT _ _ _ _ _ sQ (@sT _ _ _ _ _ sQ (@sT _ _ _ _ _ sQ (@sT _ _ _ _ _ sQ pa_nil (by rfl)) (by rfl)) (by rfl)) (by rfl)) (by rfl))))),?_⟩;refine⟨_,rfl,a,_,rfl,.inl hS,λl hl=>⟨(by show 5<=sizeLine;decide),λp hp=>?_⟩⟩;have hpl:l≠p:=sY sX hp;refine q p _ ((Same.new hl _).trans (Same.new hp _)) ⟨l,ns,0,0,1,0,sX,?_,h63,by decide,by omega,by decide,by decide,by decide⟩ ?_
 ·rw[sS hpl];exact sX
 ·rw[sS (Ne.symm hpl)] at hp;exact hp
theorem q8:FnScope ["_law_flow_here", "_law_many", "_law_cell", "_law_digit"] ["_law_flow_here", "_law_many"] (sL vU):=⟨rfl,rfl,rfl,by decide +kernel,rfl,by decide +kernel,by decide +kernel⟩
theorem GW{f0:Addr}{fd:FuncData}(F:Fun K "_law_pick" "_law_pick" vU f0 fd)(B:Bl mg):FnOk P w K mg base CV 1 f0 fd ["_law_flow_here", "_law_many"] zh:=by
 refine F.ok q8 (λvs H Q E h=>?_) (λcdv A outer s H vs Q E hr h=>?_)
 ·obtain⟨a,ns,rfl,_⟩:=h;rfl
 obtain⟨f,m,rfl,hF,hm0,hm1,q⟩:=h;have nd:=q8.nd;refine⟨_,(Cb (@Aw _ _ _ _ _ _ _ _ (PW.pt (Es (@wv _ _ _ _ _ _ _ _ Ig (@t7 _ _ _ _ _ _ _ (AY K) (pv 0) sQ (λ_ _=>rfl)) sQ (zz _)) (B7 (@wv _ _ _ _ _ _ _ _ Ic (@t7 _ _ _ _ _ _ _ (AY K) (pv 0) sQ (λ_ _=>rfl)) (@ww _ _ _ _ _ _ _ _ _ (JQ K) rfl B.len BR (@sT _ _ _ _ _ (@t7 _ _ _ _ _ _ _ (AY K) (pv 0) sQ (λ_ _=>rfl)) pa_nil (by rfl)) (by decide) (by decide) (by rfl) (by rfl)) (zz _))))) (uk (@vv _ _ 2 _ _ _ _ nd rfl (by first|exact Or.inl rfl|exact Or.inr rfl) (@t7 _ _ _ _ _ _ _ (AY K) (@t7 _ _ _ _ _ _ _ (AY K) (pv 0) sQ (λ_ _=>rfl)) (@t7 _ _ _ _ _ _ _ (AY K) (pv 0) sQ (λ_ _=>rfl)) (λ_ _=>rfl)) (by rfl) (by first|exact .inl rfl|exact .inr rfl|assumption))
  (uk (@uS _ _ _ _ _ _ (@tK _ _ _ _ _ _ _ _ uU (@t7 _ _ _ _ _ _ _ (AY K) (pv 0) sQ (λ_ _=>rfl)) sQ) (@vW _ _ _ _ _ _ _ (pv 0) sQ ui (λ_=>rfl)) (by rfl) (by rfl) (by rfl))
  (uR (@Aw _ _ _ _ _ _ _ _ (@wv _ _ _ _ _ _ _ _ Ie (pv 2) (@tK _ _ _ _ _ _ _ _ ES sQ sQ) (zz _)) (uR (@uS _ _ _ _ _ _ (pv 2) (@vW _ _ _ _ _ _ _ (pv 0) sQ ui (λ_=>rfl)) (by rfl) (by rfl) (by rfl))) (uR (@uS _ _ _ _ _ _ (@tK _ _ _ _ _ _ _ _ vX (@tK _ _ _ _ _ _ _ _ uU (@tK _ _ _ _ _ _ _ _ uU (@tK _ _ _ _ _ _ _ _ Bj (@t7 _ _ _ _ _ _ _ (AY K) (pv 0) sQ (λ_ _=>rfl)) sQ) (@tK _ _ _ _ _ _ _ _ vX (pv 2) sQ)) sQ) sQ) (@vW _ _ _ _ _ _ _ (pv 0) sQ ui (λ_=>rfl)) (by rfl) (by rfl) (by rfl))))))) pss_nil)
  (Cb (@Aw _ _ _ _ _ _ _ _ (@wv _ _ _ _ _ _ _ _ Id (@t7 _ _ _ _ _ _ _ (AY K) (pv 0) sQ (λ_ _=>rfl)) sQ (zz _)) (uk (@vv _ _ 3 _ _ _ _ nd rfl (by first|exact Or.inl rfl|exact Or.inr rfl) (@tK _ _ _ _ _ _ _ _ vX (@t7 _ _ _ _ _ _ _ (AY K) (pv 0) sQ (λ_ _=>rfl)) (pv 1)) (by rfl) (by first|exact .inl rfl|exact .inr rfl|assumption))
  (uk (@uS _ _ _ _ _ _ (@tK _ _ _ _ _ _ _ _ (@Az _ _ hr) (@t7 _ _ _ _ _ _ _ (AY K) (pv 0) sQ (λ_ _=>rfl)) (pv 1)) (@vW _ _ _ _ _ _ _ (pv 0) sQ ui (λ_=>rfl)) (by rfl) (by rfl) (by rfl))
  (uR (@zo _ _ _ _ (pv 3))))) pss_nil)
  (uk (@uS _ _ _ _ _ _ (@tK _ _ _ _ _ _ _ _ uU (@t7 _ _ _ _ _ _ _ (AY K) (pv 0) sQ (λ_ _=>rfl)) sQ) (@vW _ _ _ _ _ _ _ (pv 0) sQ ui (λ_=>rfl)) (by rfl) (by rfl) (by rfl))
  (uk (@uS _ _ _ _ _ _ (@tK _ _ _ _ _ _ _ _ vX (@tK _ _ _ _ _ _ _ _ uU (@tK _ _ _ _ _ _ _ _ uU (@tK _ _ _ _ _ _ _ _ Bj (@t7 _ _ _ _ _ _ _ (AY K) (pv 0) sQ (λ_ _=>rfl)) sQ) sQ) (@t7 _ _ _ _ _ _ _ (AY K) (pv 0) sQ (λ_ _=>rfl))) sQ) (@vW _ _ _ _ _ _ _ (pv 0) sQ ui (λ_=>rfl)) (by rfl) (by rfl) (by rfl))
  (uR (@zo _ _ _ _ (@tK _ _ _ _ _ _ _ _ vX (@tK _ _ _ _ _ _ _ _ Ck (@tK _ _ _ _ _ _ _ _ vX (@tK _ _ _ _ _ _ _ _ Bj (@tK _ _ _ _ _ _ _ _ uU (@tK _ _ _ _ _ _ _ _ vX (@t7 _ _ _ _ _ _ _ (AY K) (pv 0) sQ (λ_ _=>rfl)) sQ) sQ) (@tK _ _ _ _ _ _ _ _ uU (@tK _ _ _ _ _ _ _ _ Ck (@t7 _ _ _ _ _ _ _ (AY K) (pv 0) sQ (λ_ _=>rfl)) sQ) sQ)) sQ) sQ) (pv 1)))))))),?_⟩
 obtain⟨l,ns,i,c,a,b,h1,h2,h63,i0,i1,c0,a0,a1⟩:=hF;have hf:=SqL.of (K:=K) h1;refine⟨λσ' H'=>(∃ o1 o2,σ'=[some (.ref f),some (.int m),o1,o2])/\Flow H' f/\Sm f H H',?_,?_⟩
 ·refine⟨_,rfl,f,_,2,_,rfl,rfl,hf,rfl,rfl,_,rfl,?_⟩;refine Hn (λcz=>?_) (λcz=>?_)
  ·refine⟨_,rfl,f,_,1,_,rfl,rfl,hf,rfl,_,rfl,f,_,0,_,rfl,rfl,hf,rfl,l,_,rfl,.inl (SqL.of h2),_,_,rfl,rfl,_,rfl,?_⟩;refine Hn (λcl=>?_) (λcl=>?_)
   ·have cl':i<(((ns.map V.int).length:Nat):Int):=of_decide_eq_true cl;rw[aa] at cl';obtain⟨z,hz⟩:=HJ i0 cl';obtain⟨g1,g2,g3⟩:=xj (i':=i+1) (c':=c) (a':=a) (b':=b) h1 h2;have gf:=SqL.of (K:=K) g1;refine⟨_,rfl,f,_,0,_,rfl,rfl,hf,rfl,_,rfl,f,_,1,_,rfl,rfl,hf,rfl,l,_,i,_,rfl,rfl,SqL.of h2,hz,?_⟩;refine⟨_,rfl,f,_,1,_,rfl,rfl,hf,rfl,_,_,rfl,rfl,_,rfl,f,_,1,1,rfl,rfl,h1,rfl,?_⟩;refine⟨_,rfl,_,_,rfl,rfl,⟨by decide,by decide,by decide⟩,_,_,rfl,rfl,_,rfl,?_⟩;refine Hn (λcg=>?_) (λcg=>?_)
    ·have cg':(10:Int)^(18:Int).toNat<=z:=of_decide_eq_true cg;have cg2:(0:Int)<=z:=Int.le_trans (by decide) cg';obtain⟨k1,k2,k3⟩:=xj (i':=i+1) (c':=z) (a':=a) (b':=b) g1 g2;refine⟨_,rfl,_,rfl,f,_,2,2,rfl,rfl,g1,rfl,?_⟩;exact⟨⟨_,_,rfl⟩,⟨l,ns,i+1,z,a,b,k1,k2,h63,by omega,by omega,cg2,a0,a1⟩,g3.trans k3⟩
    ·obtain⟨k1,k2,k3⟩:=xj (i':=i+1) (c':=c) (a':=(a*40013+z%1000003+1)%2147483647) (b':=b) g1 g2;refine⟨_,rfl,f,_,3,_,rfl,rfl,gf,rfl,_,_,rfl,rfl,.inr ⟨by decide,by decide⟩,_,rfl,_,_,rfl,rfl,(by show (0:Int)<_;decide),_,_,rfl,rfl,_,_,rfl,rfl,_,_,rfl,rfl,(by show (0:Int)<_;decide),_,rfl,f,_,3,3,rfl,rfl,g1,rfl,?_⟩;exact⟨⟨_,_,rfl⟩,⟨l,ns,i+1,c,_,b,k1,k2,h63,by omega,by omega,c0,dP _ (by decide),dh _ (by decide)⟩,g3.trans k3⟩
   ·exact⟨⟨_,_,rfl⟩,⟨l,ns,i,c,a,b,h1,h2,h63,i0,i1,c0,a0,a1⟩,Sm.refl H⟩
  ·exact Nx ⟨⟨_,_,rfl⟩,⟨l,ns,i,c,a,b,h1,h2,h63,i0,i1,c0,a0,a1⟩,Sm.refl H⟩
 ·rintro _ H1 ⟨⟨o1,o2,rfl⟩,hF1,sm1⟩;clear hf h1 h2 i0 i1 c0 a0 a1 h63;obtain⟨l,ns,i,c,a,b,h1,h2,h63,i0,i1,c0,a0,a1⟩:=hF1;have hf:=SqL.of (K:=K) h1;refine⟨λσ' H'=>σ'=[some (.ref f),some (.int m),o1,o2]/\H'=H1,?_,?_⟩
  ·refine⟨_,rfl,f,_,2,_,rfl,rfl,hf,rfl,_,_,rfl,rfl,_,rfl,?_⟩;refine Hn (λcz=>?_) (λcz=>?_)
   ·obtain⟨k1,k2,k3⟩:=xj (i':=i) (c':=c.fdiv m) (a':=a) (b':=b) h1 h2;refine⟨_,rfl,f,_,2,_,rfl,rfl,hf,rfl,_,rfl,_,_,rfl,rfl,hm0,?_⟩;have fe:c.fdiv m=c / m:=aU _ (by omega:(0:Int)<=m);refine⟨_,rfl,f,_,2,_,rfl,rfl,hf,rfl,_,rfl,_,_,rfl,rfl,⟨by omega,9000,hm1,by decide⟩,_,rfl,f,_,2,2,rfl,rfl,h1,rfl,?_⟩;refine⟨_,rfl,q _ _ (dP _ (by omega)) (dh _ hm0) ⟨l,ns,i,c.fdiv m,a,b,k1,k2,h63,i0,i1,by rw[fe];exact Int.ediv_nonneg c0 (by omega),a0,a1⟩ (sm1.trans k3)⟩
   ·exact⟨rfl,rfl⟩
  ·rintro _ _ ⟨rfl,rfl⟩;obtain⟨g1,g2,g3⟩:=xj (i':=i) (c':=c) (a':=a) (b':=b+1) h1 h2;have gf:=SqL.of (K:=K) g1;refine⟨_,rfl,f,_,4,_,rfl,rfl,hf,rfl,_,_,rfl,rfl,_,rfl,f,_,4,4,rfl,rfl,h1,rfl,?_⟩;obtain⟨k1,k2,k3⟩:=xj (i':=i) (c':=c) (a':=(a*48271+12820163+(b+1))%2147483647) (b':=b+1) g1 g2;have kf:=SqL.of (K:=K) k1;refine⟨_,rfl,f,_,3,_,rfl,rfl,gf,rfl,_,_,rfl,rfl,.inr ⟨by decide,by decide⟩,_,_,rfl,rfl,_,rfl,f,_,4,_,rfl,rfl,gf,rfl,_,_,rfl,rfl,_,_,rfl,rfl,(by show (0:Int)<_;decide),_,rfl,f,_,3,3,rfl,rfl,g1,rfl,?_⟩;have n0:=dP (a*48271+12820163+(b+1)) (show (2147483647:Int)≠0 by decide);have n1:=dh (a*48271+12820163+(b+1)) (show (0:Int)<2147483647 by decide);refine⟨_,rfl,f,_,3,_,rfl,rfl,kf,rfl,_,_,rfl,rfl,(by show (0:Int)<_;decide),_,_,rfl,rfl,_,rfl,f,_,3,_,rfl,rfl,kf,rfl,_,_,rfl,rfl,⟨by decide,by decide⟩,_,_,rfl,rfl,_,_,rfl,rfl,.inl ⟨by omega,by omega⟩,_,_,rfl,rfl,(by show (0:Int)<_;decide),_,_,rfl,rfl,⟨by decide,by decide⟩,_,rfl,_,_,rfl,rfl,hm0,?_⟩;exact q _ _ (dP _ (by omega)) (dh _ hm0) ⟨l,ns,i,c,_,b+1,k1,k2,h63,i0,i1,c0,n0,n1⟩ ((sm1.trans g3).trans k3)
theorem nL:FnScope ["one", "other"] ["one", "other"] (sL vQ):=Ds.sc (by kernel_rfl) rfl rfl rfl
theorem qq:FnScope ["top", "bottom", "part"] ["top", "bottom"] (sL xX):=Ds.sc (by kernel_rfl) rfl rfl rfl
theorem qt:FnScope ["tops", "bottom", "many", "part", "top"] ["tops", "bottom"] (sL xS):=Ds.sc (by kernel_rfl) rfl rfl rfl
theorem ku:FnScope ["some", "bottom", "r"] ["some"] (sL uy):=Ds.sc (by kernel_rfl) rfl rfl rfl
theorem sj:FnScope ["some", "tops", "bottom"] ["some"] (sL D5):=Ds.sc (by kernel_rfl) rfl rfl rfl
theorem nM:FnScope ["p", "k", "tops", "bottom"] ["p", "k"] (sL vP):=Ds.sc (by kernel_rfl) rfl rfl rfl
theorem rm:FnScope ["p"] ["p"] (sL Ar):=Ds.sc (by kernel_rfl) rfl rfl rfl
theorem sk:FnScope ["p"] ["p"] (sL D6):=Ds.sc (by kernel_rfl) rfl rfl rfl
theorem mB:FnScope ["tops", "others", "longer", "shorter", "made", "k", "top"] ["tops", "others"] (sL uZ):=Ds.sc (by kernel_rfl) rfl rfl rfl
theorem kw:FnScope ["tops", "others", "made", "i", "top", "k", "other"] ["tops", "others"] (sL ux):=Ds.sc (by kernel_rfl) rfl rfl rfl
theorem rT:FnScope ["p", "other"] ["p", "other"] (sL B4):=Ds.sc (by kernel_rfl) rfl rfl rfl
theorem rq:FnScope ["p", "r", "top"] ["p", "r"] (sL An):=Ds.sc (by kernel_rfl) rfl rfl rfl
theorem rV:FnScope ["p", "k", "made", "step"] ["p", "k"] (sL B5):=Ds.sc (by kernel_rfl) rfl rfl rfl
theorem sC:FnScope ["f", "g", "tops", "bottom", "inner", "under", "made", "scale", "top"] ["f", "g"] (sL HU):=Ds.sc (by kernel_rfl) rfl rfl rfl
theorem pI:FnScope ["row", "some", "due", "tops", "bottom"] ["row"] (sL xo):=Ds.sc (by kernel_rfl) rfl rfl rfl
theorem qL:FnScope ["row", "by", "column", "last", "top", "other"] ["row", "by", "column", "last"] (sL yN):=Ds.sc (by kernel_rfl) rfl rfl rfl
theorem oq:FnScope ["rows", "column", "at", "row"] ["rows", "column"] (sL wo):=Ds.sc (by kernel_rfl) rfl rfl rfl
theorem qM:FnScope ["rows", "left", "row", "many", "taken_rows", "columns", "last", "column", "at", "by", "told"] ["rows"] (sL yJ):=Ds.sc (by kernel_rfl) rfl rfl rfl
theorem mZ:FnScope ["rows", "many", "told", "some", "due", "column"] ["rows"] (sL vj):=Ds.sc (by kernel_rfl) rfl rfl rfl
theorem rA:FnScope ["rows", "some"] ["rows"] (sL Am):=Ds.sc (by kernel_rfl) rfl rfl rfl
theorem lH:FnScope ["m", "k"] ["m", "k"] (sL uH):=Ds.sc (by kernel_rfl) rfl rfl rfl
theorem rB:FnScope ["p", "low", "high", "k"] ["p", "low", "high"] (sL Ao):=Ds.sc (by kernel_rfl) rfl rfl rfl
theorem m3:FnScope ["f", "g", "most", "many", "other_many", "due", "unknown", "p", "rows", "at", "word", "some"] ["f", "g"] (sL vt):=Ds.sc (by kernel_rfl) rfl rfl rfl
theorem ky:FnScope ["f", "g", "u", "v", "most"] ["f", "g", "u", "v"] (sL uz):=Ds.sc (by kernel_rfl) rfl rfl rfl
theorem qN:FnScope ["whole", "p", "weight", "top"] ["whole", "p"] (sL yI):=Ds.sc (by kernel_rfl) rfl rfl rfl
theorem m4:FnScope ["f", "g", "weights", "most", "whole", "bottom", "many", "other_many", "barred", "p"] ["f", "g", "weights"] (sL vi):=Ds.sc (by kernel_rfl) rfl rfl rfl
theorem nN:FnScope ["f", "g", "told"] ["f", "g", "told"] (sL vL):=Ds.sc (by kernel_rfl) rfl rfl rfl
theorem ot:FnScope ["_law_a", "_law_b"] ["_law_a", "_law_b"] (sL wm):=Ds.sc (by kernel_rfl) rfl rfl rfl
theorem m5:FnScope ["_law_top", "_law_bottom", "_law_part"] ["_law_top", "_law_bottom"] (sL vo):=Ds.sc (by kernel_rfl) rfl rfl rfl
theorem pJ:FnScope ["_law_one", "_law_other"] ["_law_one", "_law_other"] (sL xu):=Ds.sc (by kernel_rfl) rfl rfl rfl
theorem nP:FnScope ["_law_one", "_law_other"] ["_law_one", "_law_other"] (sL vN):=Ds.sc (by kernel_rfl) rfl rfl rfl
theorem qu:FnScope ["_law_tops", "_law_bottom", "_law_part", "_law_top"] ["_law_tops", "_law_bottom"] (sL xT):=Ds.sc (by kernel_rfl) rfl rfl rfl
theorem qO:FnScope ["_law_p", "_law_q", "_law_many", "_law_found", "_law_k", "_law_top"] ["_law_p", "_law_q"] (sL yK):=Ds.sc (by kernel_rfl) rfl rfl rfl
theorem pK:FnScope ["_law_p", "_law_q", "_law_found", "_law_k", "_law_top", "_law_j", "_law_other"] ["_law_p", "_law_q"] (sL xq):=Ds.sc (by kernel_rfl) rfl rfl rfl
theorem rC:FnScope ["_law_p", "_law_q", "_law_found", "_law_top"] ["_law_p", "_law_q"] (sL Aq):=Ds.sc (by kernel_rfl) rfl rfl rfl
theorem m7:FnScope ["_law_a", "_law_b"] ["_law_a", "_law_b"] (sL vm):=Ds.sc (by kernel_rfl) rfl rfl rfl
theorem ox:FnScope ["_law_flow_here", "_law_most"] ["_law_flow_here", "_law_most"] (sL wl):=Ds.sc (by kernel_rfl) rfl rfl rfl
theorem j5:FnScope ["_law_flow_here", "_law_most"] ["_law_flow_here", "_law_most"] (sL uu):=Ds.sc (by kernel_rfl) rfl rfl rfl
theorem m8:FnScope ["_law_flow_here", "_law_many", "_law_most", "_law_tops", "_law_k", "_law_first"] ["_law_flow_here", "_law_many", "_law_most"] (sL vp):=Ds.sc (by kernel_rfl) rfl rfl rfl
theorem j6:FnScope ["_law_flow_here", "_law_most", "_law_first"] ["_law_flow_here", "_law_most"] (sL ut):=Ds.sc (by kernel_rfl) rfl rfl rfl
theorem nQ:FnScope ["_law_n", "_law_a", "_law_found", "_law_k", "_law_less"] ["_law_n", "_law_a"] (sL vM):=Ds.sc (by kernel_rfl) rfl rfl rfl
theorem qv:FnScope ["_law_some", "_law_p", "_law_top"] ["_law_some"] (sL xV):=Ds.sc (by kernel_rfl) rfl rfl rfl
theorem pL:FnScope ["_law_p", "_law_k", "_law_found", "_law_turn"] ["_law_p", "_law_k"] (sL xt):=Ds.sc (by kernel_rfl) rfl rfl rfl
theorem pM:FnScope ["_law_f", "_law_g", "_law_m", "_law_k", "_law_most"] ["_law_f", "_law_g"] (sL xr):=Ds.sc (by kernel_rfl) rfl rfl rfl
theorem qw:FnScope ["_law_p", "_law_weights", "_law_found", "_law_top", "_law_weight"] ["_law_p", "_law_weights"] (sL xU):=Ds.sc (by kernel_rfl) rfl rfl rfl
theorem kz:FnScope ["_law_f", "_law_g", "_law_u", "_law_v", "_law_most", "_law_high", "_law_wide"] ["_law_f", "_law_g", "_law_u", "_law_v"] (sL uA):=Ds.sc (by kernel_rfl) rfl rfl rfl
theorem oy:FnScope ["_law_f", "_law_g", "_law_weights", "_law_most", "_law_high", "_law_wide", "_law_some", "_law_k", "_law_p"] ["_law_f", "_law_g", "_law_weights"] (sL wn):=Ds.sc (by kernel_rfl) rfl rfl rfl
theorem nR:FnScope ["_law_flow_here", "_law_some"] ["_law_flow_here"] (sL vO):=Ds.sc (by kernel_rfl) rfl rfl rfl
theorem jA:FnScope ["_law_flow_here", "_law_m", "_law_k", "_law_g", "_law_f"] ["_law_flow_here", "_law_m", "_law_k"] (sL vn):=Ds.sc (by kernel_rfl) rfl rfl rfl
theorem mG:FnScope ["_law_flow_here", "_law_m", "_law_k", "_law_part", "_law_g", "_law_f", "_law_turn", "_law_below"] ["_law_flow_here", "_law_m", "_law_k"] (sL xW):=Ds.sc (by kernel_rfl) rfl rfl rfl
theorem lI:FnScope ["_law_flow_here", "_law_m", "_law_k", "_law_form", "_law_f", "_law_g", "_law_a", "_law_own"] ["_law_flow_here"] (sL uI):=Ds.sc (by kernel_rfl) rfl rfl rfl
theorem jE:FnScope ["_law_flow_here", "_law_p", "_law_form", "_law_at"] ["_law_flow_here", "_law_p"] (sL uj):=Ds.sc (by kernel_rfl) rfl rfl rfl
theorem iV:FnScope ["_law_flow_here", "_law_weights", "_law_form", "_law_at", "_law_by", "_law_one"] ["_law_flow_here", "_law_weights"] (sL tU):=Ds.sc (by kernel_rfl) rfl rfl rfl
theorem qP:FnScope ["_law_flow_here", "_law_told"] ["_law_flow_here", "_law_told"] (sL yL):=Ds.sc (by kernel_rfl) rfl rfl rfl
theorem mC:FnScope ["_law_flow_here", "_law_f", "_law_g", "_law_told", "_law_form", "_law_most", "_law_k", "_law_u", "_law_v", "_law_line"] ["_law_flow_here", "_law_f", "_law_g", "_law_told"] (sL u6):=Ds.sc (by kernel_rfl) rfl rfl rfl
theorem qQ:FnScope ["_law_f", "_law_g", "_law_told"] ["_law_f", "_law_g", "_law_told"] (sL yM):=Ds.sc (by kernel_rfl) rfl rfl rfl
theorem sD:FnScope ["_law_script", "_law_flow_here", "_law_f", "_law_g", "_law_told", "_law_some", "_law_k", "_law_asked", "_law_one", "_law_found", "_law_other", "_law_third"] ["_law_script"] (sL HV):=Ds.sc (by kernel_rfl) rfl rfl rfl
end
theorem vd{P:Program}{w:World}{K:Frag}{mg:Str->Option Value}{base:Heap}{x:Str}{st:Stmt}{f:Addr}{ps:List Str}(k:Nat)(S:Ds.Sl K f x st)(W:Ds.Mg K mg)
  (hb:∀(kV doc pm:Value) (an:Option Addr) (cdv ct:Value) (us:List Value),us.length=ps.length->Ds.BA x st kV doc pm an cdv ct us=pure (ps.zip us)):Def P w K mg base x k ps (Dp.AW K Dp.i9.n Dp.i9.run):=by
 obtain⟨a,fd,F⟩:=S;exact .of F (W _ _ a) (F.binds hb) (Dp.KI k)
theorem Ko{l:PySem.W.OpenLaw}{w:World}{K:Frag}{h:Heap}{mg:Str->Option Value}{fa:Addr}{f1 f2 f3 f4 f5 f6 f7 f8 f9 f10 f11 f12 f13 f14 f15 f16 f17 f18 f19 f20 f21 f22 f23 f24 f25 f26 f27 f28 f29 f30 f31 f32 f33 f34 f35 f36 f37 f38 f39 f40 f41 f42 f43 f44 f45 f46 f47 f48 f49 f50 f51 f52 f53 f54 f55 f56 f57 f58 f59:Addr}(X:K.In h)(G:h.Ns mainGlobals mg)(hfa:mg "law" = some (.ref fa))
  (h1:Ds.Sl K f1 "common_part" vQ)
  (h2:Ds.Sl K f2 "fraction" xX)
  (h3:Ds.Sl K f3 "one_form" xS)
  (h4:Ds.Sl K f4 "over_one_bottom" uy)
  (h5:Ds.Sl K f5 "poly" D5)
  (h6:Ds.Sl K f6 "fraction_at" vP)
  (h7:Ds.Sl K f7 "degree" Ar)
  (h8:Ds.Sl K f8 "lead" D6)
  (h9:Ds.Sl K f9 "tops_together" uZ)
  (h10:Ds.Sl K f10 "tops_multiplied" ux)
  (h11:Ds.Sl K f11 "times" B4)
  (h12:Ds.Sl K f12 "scaled" An)
  (h13:Ds.Sl K f13 "power" B5)
  (h14:Ds.Sl K f14 "put" HU)
  (h15:Ds.Sl K f15 "whole_row" xo)
  (h16:Ds.Sl K f16 "cleared" yN)
  (h17:Ds.Sl K f17 "first_with" wo)
  (h18:Ds.Sl K f18 "numbers" yJ)
  (h19:Ds.Sl K f19 "turned_about" vj)
  (h20:Ds.Sl K f20 "solved" Am)
  (h21:Ds.Sl K f21 "least_multiple" uH)
  (h22:Ds.Sl K f22 "powers" Ao)
  (h23:Ds.Sl K f23 "common_outer" vt)
  (h24:Ds.Sl K f24 "outer_ones_hold" uz)
  (h25:Ds.Sl K f25 "weighed" yI)
  (h26:Ds.Sl K f26 "weights_hold" vi)
  (h27:Ds.Sl K f27 "outer_holds" vL)
  (h28:Ds.Sl K f28 "_law_flow" vV)
  (h29:Ds.Sl K f29 "_law_pick" vU)
  (h30:Ds.Sl K f30 "_law_common" wm)
  (h31:Ds.Sl K f31 "_law_fraction" vo)
  (h32:Ds.Sl K f32 "_law_added" xu)
  (h33:Ds.Sl K f33 "_law_product" vN)
  (h34:Ds.Sl K f34 "_law_poly" xT)
  (h35:Ds.Sl K f35 "_law_sum" yK)
  (h36:Ds.Sl K f36 "_law_times" xq)
  (h37:Ds.Sl K f37 "_law_of" Aq)
  (h38:Ds.Sl K f38 "_law_straight" vm)
  (h39:Ds.Sl K f39 "_law_number" wl)
  (h40:Ds.Sl K f40 "_law_any_fraction" uu)
  (h41:Ds.Sl K f41 "_law_any_poly" vp)
  (h42:Ds.Sl K f42 "_law_any_straight" ut)
  (h43:Ds.Sl K f43 "_law_turning" vM)
  (h44:Ds.Sl K f44 "_law_fits" xV)
  (h45:Ds.Sl K f45 "_law_power" xt)
  (h46:Ds.Sl K f46 "_law_shape" xr)
  (h47:Ds.Sl K f47 "_law_left" xU)
  (h48:Ds.Sl K f48 "_law_outer_shown" uA)
  (h49:Ds.Sl K f49 "_law_barred" wn)
  (h50:Ds.Sl K f50 "_law_degrees" vO)
  (h51:Ds.Sl K f51 "_law_multiple" vn)
  (h52:Ds.Sl K f52 "_law_bent" xW)
  (h53:Ds.Sl K f53 "_law_outer_pair" uI)
  (h54:Ds.Sl K f54 "_law_poly_otherwise" uj)
  (h55:Ds.Sl K f55 "_law_weights_otherwise" tU)
  (h56:Ds.Sl K f56 "_law_odd" yL)
  (h57:Ds.Sl K f57 "_law_otherwise" u6)
  (h58:Ds.Sl K f58 "_law_due" yM)
  (h59:Ds.Sl K f59 "law" HV)
  (z_len:PySem.W.nsIn K mainGlobals "len" = some none)
  (z_range:PySem.W.nsIn K mainGlobals "range" = some none)
  (z_all:PySem.W.nsIn K mainGlobals "all" = some none)
  (z_any:PySem.W.nsIn K mainGlobals "any" = some none)
  (z_abs:PySem.W.nsIn K mainGlobals "abs" = some none)
  (z_int:PySem.W.nsIn K mainGlobals "int" = some none)
  (z_bool:PySem.W.nsIn K mainGlobals "bool" = some none)
  (z_str:PySem.W.nsIn K mainGlobals "str" = some none)
  (z_list:PySem.W.nsIn K mainGlobals "list" = some none)
  (z_tuple:PySem.W.nsIn K mainGlobals "tuple" = some none)
  (z_dict:PySem.W.nsIn K mainGlobals "dict" = some none)
  (z_isinstance:PySem.W.nsIn K mainGlobals "isinstance" = some none)
  (z_enumerate:PySem.W.nsIn K mainGlobals "enumerate" = some none)
  (z_reversed:PySem.W.nsIn K mainGlobals "reversed" = some none)
  (z_sorted:PySem.W.nsIn K mainGlobals "sorted" = some none)
  (z_max:PySem.W.nsIn K mainGlobals "max" = some none)
  (z_min:PySem.W.nsIn K mainGlobals "min" = some none)
  (z_sum:PySem.W.nsIn K mainGlobals "sum" = some none)
  (z_zip:PySem.W.nsIn K mainGlobals "zip" = some none)
  : ∃ fd:FuncData,(∀(s:Shared) (v:Value),BindsTo s fd ⟨[v],[]⟩ [("_law_script",v)])/\∀ base:Heap,K.In base->base.Ns mainGlobals mg->FnOk l.prog w K mg base CV 8 fa fd ["_law_script"] (Dp.BZ K):=by
 have B:Bl mg:=⟨PySem.W.mg_none_of X G z_len,PySem.W.mg_none_of X G z_range,PySem.W.mg_none_of X G z_all,PySem.W.mg_none_of X G z_any,PySem.W.mg_none_of X G z_abs,PySem.W.mg_none_of X G z_int,PySem.W.mg_none_of X G z_bool,PySem.W.mg_none_of X G z_str,PySem.W.mg_none_of X G z_list,PySem.W.mg_none_of X G z_tuple,PySem.W.mg_none_of X G z_dict,PySem.W.mg_none_of X G z_isinstance,PySem.W.mg_none_of X G z_enumerate,PySem.W.mg_none_of X G z_reversed,PySem.W.mg_none_of X G z_sorted,PySem.W.mg_none_of X G z_max,PySem.W.mg_none_of X G z_min,PySem.W.mg_none_of X G z_sum,PySem.W.mg_none_of X G z_zip⟩;have W:Ds.Mg K mg:=λ_ _ a=>PySem.W.mg_of X G a;obtain⟨a,fd,F⟩:=h59;cases hfa.symm.trans (W _ _ a);refine⟨fd,?_,λbase _ _=>?_⟩
 ·obtain⟨oc,od,kV,doc,pm,an,cdv,ct,osl,rfl,lk,hcd⟩:=F.ex;exact λs v=>.of_eq rfl
 have gf:Def l.prog w K mg base "_law_flow" 1 ["_law_script"] (xQ K):=by
  obtain⟨a,fd,F⟩:=h28;exact .of F (W _ _ a) (F.binds (Ds.b1 λ_ _ _ _ _ _ _=>rfl)) (GX F B)
 have gp:Def l.prog w K mg base "_law_pick" 1 ["_law_flow_here", "_law_many"] (Dp.AW K Dp.gj.n Dp.gj.run):=by
  obtain⟨a,fd,F⟩:=h29;exact Dp.Dd (.of F (W _ _ a) (F.binds (Ds.b2 λ_ _ _ _ _ _ _ _=>rfl)) (GW F B))
 have G0:=Ds.tW gp Ds.OG;have G1:=Ds.tW (Ds.t6 0 Ds.o0 h1 W B nL rfl G0 Ds.t4 (Ds.b2 λ_ _ _ _ _ _ _ _=>rfl) (by kernel_rfl) Dp.lJ) G0;have G7:=Ds.tW (Ds.t6 0 Ds.o0 h7 W B rm rfl G1 Ds.t4 (Ds.b1 λ_ _ _ _ _ _ _=>rfl) (by kernel_rfl) Dp.pW) G1;have G9:=Ds.tW (Ds.t6 0 ([(45,[4])],[42],[4]) h9 W B mB rfl G7 Ds.t4 (Ds.b2 λ_ _ _ _ _ _ _ _=>rfl) (by kernel_rfl) Dp.kc) G7;have G10:=Ds.tW (Ds.t6 0 ([(53,[2])],[49],[2]) h10 W B kw rfl G9 Ds.t4 (Ds.b2 λ_ _ _ _ _ _ _ _=>rfl) (by kernel_rfl) Dp.jK) G9;have G16:=Ds.tW (Ds.t6 0 Ds.o0 h16 W B qL rfl G10 Ds.t4 (Ds.b4 λ_ _ _ _ _ _ _ _ _ _=>rfl) (by kernel_rfl) Dp.ph) G10;have G17:=Ds.tW (Ds.t6 0 Ds.o0 h17 W B oq rfl G16 Ds.t4 (Ds.b2 λ_ _ _ _ _ _ _ _=>rfl) (by kernel_rfl) Dp.mP) G16;have G19:=Ds.tW (Ds.t6 0 Ds.o0 h19 W B mZ rfl G17 Ds.t4 (Ds.b1 λ_ _ _ _ _ _ _=>rfl) (by kernel_rfl) Dp.kM) G17;have G25:=Ds.tW (Ds.t6 0 Ds.o0 h25 W B qN rfl G19 Ds.t4 (Ds.b2 λ_ _ _ _ _ _ _ _=>rfl) (by kernel_rfl) Dp.pF) G19;have G30:=Ds.tW (Ds.t6 0 Ds.o0 h30 W B ot rfl G25 Ds.t4 (Ds.b2 λ_ _ _ _ _ _ _ _=>rfl) (by kernel_rfl) Dp.mJ) G25;have G44:=Ds.tW (Ds.t6 0 Ds.o0 h44 W B qv rfl G30 Ds.t4 (Ds.b1 λ_ _ _ _ _ _ _=>rfl) (by kernel_rfl) Dp.mY) G30;have G2:=Ds.tW (Ds.t6 1 Ds.o0 h2 W B qq rfl G44 Ds.t4 (Ds.b2 λ_ _ _ _ _ _ _ _=>rfl) (by kernel_rfl) Dp.n4) G44;have G3:=Ds.tW (Ds.t6 1 Ds.o0 h3 W B qt rfl G2 Ds.t4 (Ds.b2 λ_ _ _ _ _ _ _ _=>rfl) (by kernel_rfl) Dp.nZ) G2;have G4:=Ds.tW (Ds.t6 1 Ds.o0 h4 W B ku rfl G3 Ds.t4 (Ds.b1 λ_ _ _ _ _ _ _=>rfl) (by kernel_rfl) Dp.jl) G3;have G21:=Ds.tW (Ds.t6 1 Ds.o0 h21 W B lH rfl G4 Ds.t4 (Ds.b2 λ_ _ _ _ _ _ _ _=>rfl) (by kernel_rfl) Dp.jY) G4;have G31:=Ds.tW (Ds.t6 1 Ds.o0 h31 W B m5 rfl G21 Ds.t4 (Ds.b2 λ_ _ _ _ _ _ _ _=>rfl) (by kernel_rfl) Dp.kB) G21;have G34:=Ds.tW (Ds.t6 1 ([(180,[0]),(184,[0]),(186,[0])],[180],[0]) h34 W B qu rfl G31 Ds.t4 (Ds.b2 λ_ _ _ _ _ _ _ _=>rfl) (by kernel_rfl) Dp.nT) G31;have G39:=Ds.tW (Ds.t6 1 Ds.o0 h39 W B ox rfl G34 Ds.t4 (Ds.b2 λ_ _ _ _ _ _ _ _=>rfl) (by kernel_rfl) Dp.mK) G34;have G46:=Ds.tW (Ds.t6 1 Ds.o0 h46 W B pM rfl G39 Ds.t4 (Ds.b2 λ_ _ _ _ _ _ _ _=>rfl) (by kernel_rfl) Dp.nF) G39;have G50:=Ds.tW (Ds.t6 1 Ds.o0 h50 W B nR rfl G46 Ds.t4 (Ds.b1 λ_ _ _ _ _ _ _=>rfl) (by kernel_rfl) Dp.mf) G46;have G56:=Ds.tW (Ds.t6 1 Ds.o0 h56 W B qP rfl G50 Ds.t4 (Ds.b2 λ_ _ _ _ _ _ _ _=>rfl) (by kernel_rfl) Dp.pH) G50;have G5:=Ds.tW (Ds.t6 2 Ds.o0 h5 W B sj rfl G56 Ds.t4 (Ds.b1 λ_ _ _ _ _ _ _=>rfl) (by kernel_rfl) Dp.qh) G56;have G6:=Ds.tW (Ds.t6 2 Ds.o0 h6 W B nM rfl G5 Ds.t4 (Ds.b2 λ_ _ _ _ _ _ _ _=>rfl) (by kernel_rfl) Dp.lL) G5;have G11:=Ds.tW (Ds.t6 2 Ds.o0 h11 W B rT rfl G6 Ds.t4 (Ds.b2 λ_ _ _ _ _ _ _ _=>rfl) (by kernel_rfl) Dp.qC) G6;have G12:=Ds.tW (Ds.t6 2 Ds.o0 h12 W B rq rfl G11 Ds.t4 (Ds.b2 λ_ _ _ _ _ _ _ _=>rfl) (by kernel_rfl) Dp.pY) G11;have G14:=Ds.tW (Ds.t6 2 Ds.o0 h14 W B sC rfl G12 Ds.t4 (Ds.b2 λ_ _ _ _ _ _ _ _=>rfl) (by kernel_rfl) Dp.rN) G12;have G15:=Ds.tW (Ds.t6 2 Ds.o0 h15 W B pI rfl G14 Ds.t4 (Ds.b1 λ_ _ _ _ _ _ _=>rfl) (by kernel_rfl) Dp.nA) G14;have G32:=Ds.tW (Ds.t6 2 Ds.o0 h32 W B pJ rfl G15 Ds.t4 (Ds.b2 λ_ _ _ _ _ _ _ _=>rfl) (by kernel_rfl) Dp.lY) G15;have G33:=Ds.tW (Ds.t6 2 Ds.o0 h33 W B nP rfl G32 Ds.t4 (Ds.b2 λ_ _ _ _ _ _ _ _=>rfl) (by kernel_rfl) Dp.kh) G32;have G35:=Ds.tW (Ds.t6 2 ([(194,[3])],[189],[3]) h35 W B qO rfl G33 Ds.t4 (Ds.b2 λ_ _ _ _ _ _ _ _=>rfl) (by kernel_rfl) Dp.oW) G33;have G36:=Ds.tW (Ds.t6 2 ([(200,[2])],[196],[2]) h36 W B pK rfl G35 Ds.t4 (Ds.b2 λ_ _ _ _ _ _ _ _=>rfl) (by kernel_rfl) Dp.nq) G35;have G38:=Ds.tW (Ds.t6 2 Ds.o0 h38 W B m7 rfl G36 Ds.t4 (Ds.b2 λ_ _ _ _ _ _ _ _=>rfl) (by kernel_rfl) Dp.kE) G36;have G40:=Ds.tW (Ds.t6 2 Ds.o0 h40 W B j5 rfl G38 Ds.t4 (Ds.b2 λ_ _ _ _ _ _ _ _=>rfl) (by kernel_rfl) Dp.jC) G38;have G41:=Ds.tW (Ds.t6 2 Ds.o0 h41 W B m8 rfl G40 Ds.t4 (Ds.b3 λ_ _ _ _ _ _ _ _ _=>rfl) (by kernel_rfl) Dp.kD) G40;have G8:=Ds.tW (Ds.t6 3 Ds.o0 h8 W B sk rfl G41 Ds.t4 (Ds.b1 λ_ _ _ _ _ _ _=>rfl) (by kernel_rfl) Dp.re) G41;have G13:=Ds.tW (Ds.t6 3 Ds.o0 h13 W B rV rfl G8 Ds.t4 (Ds.b2 λ_ _ _ _ _ _ _ _=>rfl) (by kernel_rfl) Dp.qI) G8;have G18:=Ds.tW (Ds.t6 3 ([(93,[1]),(97,[1]),(100,[5]),(102,[10]),(1000089,[1])],[85,87,93,99],[1,5,10]) h18 W B qM rfl G13 Ds.t4 (Ds.b1 λ_ _ _ _ _ _ _=>rfl) (by kernel_rfl) Dp.pr) G13;have G37:=Ds.tW (Ds.t6 3 Ds.o0 h37 W B rC rfl G18 Ds.t4 (Ds.b2 λ_ _ _ _ _ _ _ _=>rfl) (by kernel_rfl) Dp.pU) G18;have G42:=Ds.tW (Ds.t6 3 Ds.o0 h42 W B j6 rfl G37 Ds.t4 (Ds.b2 λ_ _ _ _ _ _ _ _=>rfl) (by kernel_rfl) Dp.jD) G37;have G43:=Ds.tW (Ds.t6 3 ([],[220],[2]) h43 W B nQ rfl G42 Ds.t4 (Ds.b2 λ_ _ _ _ _ _ _ _=>rfl) (by kernel_rfl) Dp.ke) G42;have G45:=Ds.tW (Ds.t6 3 Ds.o0 h45 W B pL rfl G43 Ds.t4 (Ds.b2 λ_ _ _ _ _ _ _ _=>rfl) (by kernel_rfl) Dp.nv) G43;have G47:=Ds.tW (Ds.t6 3 Ds.o0 h47 W B qw rfl G45 Ds.t4 (Ds.b2 λ_ _ _ _ _ _ _ _=>rfl) (by kernel_rfl) Dp.mU) G45;have G55:=Ds.tW (Ds.t6 3 Ds.o0 h55 W B iV rfl G47 Ds.t4 (Ds.b2 λ_ _ _ _ _ _ _ _=>rfl) (by kernel_rfl) Dp.iE) G47;have G20:=Ds.tW (Ds.t6 4 Ds.o0 h20 W B rA rfl G55 Ds.t4 (Ds.b1 λ_ _ _ _ _ _ _=>rfl) (by kernel_rfl) Dp.qg) G55;have G22:=Ds.tW (Ds.t6 4 Ds.o0 h22 W B rB rfl G20 Ds.t4 (Ds.b3 λ_ _ _ _ _ _ _ _ _=>rfl) (by kernel_rfl) Dp.qj) G20;have G24:=Ds.tW (Ds.t6 4 Ds.o0 h24 W B ky rfl G22 Ds.t4 (Ds.b4 λ_ _ _ _ _ _ _ _ _ _=>rfl) (by kernel_rfl) Dp.jO) G22;have G48:=Ds.tW (Ds.t6 4 Ds.o0 h48 W B kz rfl G24 Ds.t4 (Ds.b4 λ_ _ _ _ _ _ _ _ _ _=>rfl) (by kernel_rfl) Dp.jn) G24;have G49:=Ds.tW (Ds.t6 4 Ds.o0 h49 W B oy rfl G48 Ds.t4 (Ds.b3 λ_ _ _ _ _ _ _ _ _=>rfl) (by kernel_rfl) Dp.kX) G48;have G54:=Ds.tW (Ds.t6 4 Ds.o0 h54 W B jE rfl G49 Ds.t4 (Ds.b2 λ_ _ _ _ _ _ _ _=>rfl) (by kernel_rfl) Dp.jg) G49;have G23:=Ds.tW (Ds.t6 5 Ds.o0 h23 W B m3 rfl G54 Ds.t4 (Ds.b2 λ_ _ _ _ _ _ _ _=>rfl) (by kernel_rfl) Dp.kO) G54;have G26:=Ds.tW (Ds.t6 5 Ds.o0 h26 W B m4 rfl G23 Ds.t4 (Ds.b3 λ_ _ _ _ _ _ _ _ _=>rfl) (by kernel_rfl) Dp.kY) G23;have V51:=Ds.tW (vd 4 h51 W (Ds.b3 λ_ _ _ _ _ _ _ _ _=>rfl)) G26;have A51:=Ds.tW (Ds.t6 4 Ds.o0 h51 W B jA rfl V51 Ds.t4 (Ds.b3 λ_ _ _ _ _ _ _ _ _=>rfl) (by kernel_rfl) Dp.ki) V51;have G51:=Ds.tW (Ds.t6 5 Ds.o0 h51 W B jA rfl A51 Ds.t4 (Ds.b3 λ_ _ _ _ _ _ _ _ _=>rfl) (by kernel_rfl) Dp.kS) A51;have V52:=Ds.tW (vd 4 h52 W (Ds.b3 λ_ _ _ _ _ _ _ _ _=>rfl)) G51;have A52:=Ds.tW (Ds.t6 4 Ds.o0 h52 W B mG rfl V52 Ds.t4 (Ds.b3 λ_ _ _ _ _ _ _ _ _=>rfl) (by kernel_rfl) Dp.nH) V52;have G52:=Ds.tW (Ds.t6 5 Ds.o0 h52 W B mG rfl A52 Ds.t4 (Ds.b3 λ_ _ _ _ _ _ _ _ _=>rfl) (by kernel_rfl) Dp.oo) A52;have G57:=Ds.tW (Ds.t6 5 Ds.o0 h57 W B mC rfl G52 Ds.t4 (Ds.b4 λ_ _ _ _ _ _ _ _ _ _=>rfl) (by kernel_rfl) Dp.jQ) G52;have G58:=Ds.tW (Ds.t6 5 Ds.o0 h58 W B qQ rfl G57 Ds.t4 (Ds.b3 λ_ _ _ _ _ _ _ _ _=>rfl) (by kernel_rfl) Dp.pG) G57;have G27:=Ds.tW (Ds.t6 6 Ds.o0 h27 W B nN rfl G58 Ds.t4 (Ds.b3 λ_ _ _ _ _ _ _ _ _=>rfl) (by kernel_rfl) Dp.mw) G58;have G53:=Ds.tW (Ds.t6 6 Ds.o0 h53 W B lI rfl G27 Ds.t4 (Ds.b1 λ_ _ _ _ _ _ _=>rfl) (by kernel_rfl) Dp.j3) G27;exact Ds.JI (n:=40) (k:=7) (gc:=[]) (fz:=[]) (own:=[]) (mu:=[]) F B sD gf G53 Ds.t4 rfl (by decide) (by first|exact Or.inl rfl|exact Or.inr rfl) (by first|exact Or.inl rfl|exact Or.inr rfl) rfl (by kernel_rfl) Dp.C8
theorem walk{l:PySem.W.OpenLaw}{q:Program}{loose:List Str}{YP:World->Heap->Prop}{d:DefRec}{K:Params->Frag}(hn:l.most=some 63)(hdf:d.params.defaults=[])
  (hY:∀(w:World) (h:Heap),YP w h->(K w.params).In h)
  (F:∀(w:World) (mg:Str->Option Value) (fa:Addr) (h:Heap),(K w.params).In h->h.Ns mainGlobals mg->mg d.name=some (.ref fa) ->
   ∃ fd:FuncData,(∀(s:Shared) (u:Value),BindsTo s fd ⟨[u],[]⟩ [("_law_script",u)])/\∀ base:Heap,(K w.params).In base->base.Ns mainGlobals mg->FnOk l.prog w (K w.params) mg base CV 8 fa fd ["_law_script"] (Dp.BZ (K w.params))) (hi:PyProof.Rows.importsNone q=true) (ht:l.prog.given.tree=none) :
  PySem.W.WalkO q loose XP YP l.row.toRowW d [] (λf vs=>PySem.call f vs) :=
 L2.Gj (n:=63) (k:=8) (x := "_law_script") (CX:=λ_=>CV) (sp:=λw=>Dp.BZ (K w.params)) hn (by decide) hdf ⟨rfl,by decide,by decide⟩ hY F (λ_ _ a ns hl _ hS=>⟨a,ns,rfl,hS,hl,λ_=>rfl⟩) (λ_ _ _ _ _ z=>z) hi ht
end My
def PySem.W.Fast.tw15515999275585912816:Unit:=()
def PySem.W.Fast.tw17356859144970090443:Unit:=()
def PySem.W.Fast.tw13358535147338654305:Unit:=()
def PySem.W.Fast.tw2523589263083487295:Unit:=()
def PySem.W.Fast.tw11469023348883194402:Unit:=()
def PySem.W.Fast.tw15199499416001651449:Unit:=()
def PySem.W.Fast.tw3475384544517637977:Unit:=()
def PySem.W.Fast.tw10540464153910232116:Unit:=()
def PySem.W.Fast.tw2228542024885567366:Unit:=()
def PySem.W.Fast.tw18191891934033606604:Unit:=()
def PySem.W.Fast.tw4153148226399365081:Unit:=()
def PySem.W.Fast.tw16490441314377970144:Unit:=()
def PySem.W.Fast.tw18416549244779365182:Unit:=()
def PySem.W.Fast.tw17895843175985584557:Unit:=()
def PySem.W.Fast.tw1734761236791587157:Unit:=()
def PySem.W.Fast.tw4330078031950168780:Unit:=()
def PySem.W.Fast.tw13354639420109126196:Unit:=()
def PySem.W.Fast.tw3728992746038682002:Unit:=()
def PySem.W.Fast.tw5161677302841099101:Unit:=()
def PySem.W.Fast.tw3723055261916291701:Unit:=()
def PySem.W.Fast.tw1622348219046778415:Unit:=()
def PySem.W.Fast.tw11611040699345563106:Unit:=()
def PySem.W.Fast.tw7303571386318984312:Unit:=()
def PySem.W.Fast.tw1013631172249133358:Unit:=()
def PySem.W.Fast.tw15036632296030334919:Unit:=()
def PySem.W.Fast.tw11682296472654982063:Unit:=()
def PySem.W.Fast.tw1150877896186564874:Unit:=()
def PySem.W.Fast.tw8233585438787500059:Unit:=()
def PySem.W.Fast.tw3005925421274586529:Unit:=()
def PySem.W.Fast.tw14593608316006045597:Unit:=()
def PySem.W.Fast.tw3528971673279710238:Unit:=()
def PySem.W.Fast.tw5810312934593779504:Unit:=()
def PySem.W.Fast.tw5720556139059072520:Unit:=()
def PySem.W.Fast.tw6384987996619945537:Unit:=()
def PySem.W.Fast.tw7912904226290949121:Unit:=()
def PySem.W.Fast.tw12716272736231849197:Unit:=()
def PySem.W.Fast.tw3853782935607430269:Unit:=()
def PySem.W.Fast.tw16000655567566547367:Unit:=()
def PySem.W.Fast.tw3183963584169726970:Unit:=()
def PySem.W.Fast.tw8452996448246004202:Unit:=()
def PySem.W.Fast.tw17051122879918160970:Unit:=()
def PySem.W.Fast.tw14594530730408367018:Unit:=()
def PySem.W.Fast.tw13585299993362815007:Unit:=()
def PySem.W.Fast.tw15716871842824502338:Unit:=()
def PySem.W.Fast.tw5123748661442930704:Unit:=()
def PySem.W.Fast.tw4275195055913382411:Unit:=()
def PySem.W.Fast.tw15743271526699537675:Unit:=()
def PySem.W.Fast.tw9075909774408325075:Unit:=()
def PySem.W.Fast.tw3875736312213917741:Unit:=()
def PySem.W.Fast.tw2708800073944569363:Unit:=()
def PySem.W.Fast.tw6595054929461458540:Unit:=()
def PySem.W.Fast.tw6792088236916171227:Unit:=()
def PySem.W.Fast.tw10641677413411315843:Unit:=()
def PySem.W.Fast.tw10853587388068400429:Unit:=()
def PySem.W.Fast.tw12579370355549970467:Unit:=()
def PySem.W.Fast.tw3015157652379013057:Unit:=()
def PySem.W.Fast.tw10667703276510685414:Unit:=()
def PySem.W.Fast.tw15131327847500878302:Unit:=()
def PySem.W.Fast.tw12619491980192188523:Unit:=()
def PySem.W.Fast.tw4411103611824007687:Unit:=()
def PySem.W.Fast.tw7971078853021124418:Unit:=()
def PySem.W.Fast.tw3686728615545202954:Unit:=()
def PySem.W.Fast.tw4793582343916354809:Unit:=()
def PySem.W.Fast.tw16556238939132196445:Unit:=()
def PySem.W.Fast.tw2061113104706804165:Unit:=()
def PySem.W.Fast.tw11512303750444210875:Unit:=()
def PySem.W.Fast.tw7898120531822591303:Unit:=()
def PySem.W.Fast.tw3770328009297182839:Unit:=()
def PySem.W.Fast.tw16568716414643834992:Unit:=()
def PySem.W.Fast.tw17982465085006186424:Unit:=()
def PySem.W.Fast.tw1804570416298818919:Unit:=()
def PySem.W.Fast.tw3157721773533998280:Unit:=()
def PySem.W.Fast.tw7042886226780409798:Unit:=()
def PySem.W.Fast.tw1079905700715484042:Unit:=()
def PySem.W.Fast.tw4596620278923584295:Unit:=()
def PySem.W.Fast.tw2799434587268860455:Unit:=()
open PySem PySem.W PyProof.Rows
set_option maxRecDepth 100000 in
set_option maxHeartbeats 0 in
theorem PySem.Challenge.cw_nestwright_k59_outer_ones_looked_at_holds : PySem.Challenge.rw_nestwright_k59_outer_ones_looked_at.Holds := by
 w_on;o_law;k_head;(case hw=>w_witness2)
 k_fill
 refine My.walk (l:=PySem.Challenge.rw_nestwright_k59_outer_ones_looked_at) rfl rfl (fun w h Y=>PySem.W.kIn_of Y) ?F ?hi rfl
 (case hi=>kernel_rfl)
 case F =>
  intro w mg fa h KX G hmg;refine' My.Ko KX G hmg (Ds.sl ?a1 ?l1 ?c1 ?k1) (Ds.sl ?a2 ?l2 ?c2 ?k2) (Ds.sl ?a3 ?l3 ?c3 ?k3) (Ds.sl ?a4 ?l4 ?c4 ?k4) (Ds.sl ?a5 ?l5 ?c5 ?k5) (Ds.sl ?a6 ?l6 ?c6 ?k6) (Ds.sl ?a7 ?l7 ?c7 ?k7) (Ds.sl ?a8 ?l8 ?c8 ?k8) (Ds.sl ?a9 ?l9 ?c9 ?k9) (Ds.sl ?a10 ?l10 ?c10 ?k10) (Ds.sl ?a11 ?l11 ?c11 ?k11) (Ds.sl ?a12 ?l12 ?c12 ?k12) (Ds.sl ?a13 ?l13 ?c13 ?k13) (Ds.sl ?a14 ?l14 ?c14 ?k14) (Ds.sl ?a15 ?l15 ?c15 ?k15) (Ds.sl ?a16 ?l16 ?c16 ?k16) (Ds.sl ?a17 ?l17 ?c17 ?k17) (Ds.sl ?a18 ?l18 ?c18 ?k18) (Ds.sl ?a19 ?l19 ?c19 ?k19) (Ds.sl ?a20 ?l20 ?c20 ?k20) (Ds.sl ?a21 ?l21 ?c21 ?k21) (Ds.sl ?a22 ?l22 ?c22 ?k22) (Ds.sl ?a23 ?l23 ?c23 ?k23) (Ds.sl ?a24 ?l24 ?c24 ?k24) (Ds.sl ?a25 ?l25 ?c25 ?k25) (Ds.sl ?a26 ?l26 ?c26 ?k26) (Ds.sl ?a27 ?l27 ?c27 ?k27) (Ds.sl ?a28 ?l28 ?c28 ?k28) (Ds.sl ?a29 ?l29 ?c29 ?k29) (Ds.sl ?a30 ?l30 ?c30 ?k30) (Ds.sl ?a31 ?l31 ?c31 ?k31) (Ds.sl ?a32 ?l32 ?c32 ?k32) (Ds.sl ?a33 ?l33 ?c33 ?k33) (Ds.sl ?a34 ?l34 ?c34 ?k34) (Ds.sl ?a35 ?l35 ?c35 ?k35) (Ds.sl ?a36 ?l36 ?c36 ?k36) (Ds.sl ?a37 ?l37 ?c37 ?k37) (Ds.sl ?a38 ?l38 ?c38 ?k38) (Ds.sl ?a39 ?l39 ?c39 ?k39) (Ds.sl ?a40 ?l40 ?c40 ?k40) (Ds.sl ?a41 ?l41 ?c41 ?k41) (Ds.sl ?a42 ?l42 ?c42 ?k42) (Ds.sl ?a43 ?l43 ?c43 ?k43) (Ds.sl ?a44 ?l44 ?c44 ?k44) (Ds.sl ?a45 ?l45 ?c45 ?k45) (Ds.sl ?a46 ?l46 ?c46 ?k46) (Ds.sl ?a47 ?l47 ?c47 ?k47) (Ds.sl ?a48 ?l48 ?c48 ?k48) (Ds.sl ?a49 ?l49 ?c49 ?k49) (Ds.sl ?a50 ?l50 ?c50 ?k50) (Ds.sl ?a51 ?l51 ?c51 ?k51) (Ds.sl ?a52 ?l52 ?c52 ?k52) (Ds.sl ?a53 ?l53 ?c53 ?k53) (Ds.sl ?a54 ?l54 ?c54 ?k54) (Ds.sl ?a55 ?l55 ?c55 ?k55) (Ds.sl ?a56 ?l56 ?c56 ?k56) (Ds.sl ?a57 ?l57 ?c57 ?k57) (Ds.sl ?a58 ?l58 ?c58 ?k58) (Ds.sl ?a59 ?l59 ?c59 ?k59) ?z_len ?z_range ?z_all ?z_any ?z_abs ?z_int ?z_bool ?z_str ?z_list ?z_tuple ?z_dict ?z_isinstance ?z_enumerate ?z_reversed ?z_sorted ?z_max ?z_min ?z_sum ?z_zip
  (case a1=>k_is);(case l1=>k_is);(case c1=>k_is);(case k1=>k_is)
  (case a2=>k_is);(case l2=>k_is);(case c2=>k_is);(case k2=>k_is)
  (case a3=>k_is);(case l3=>k_is);(case c3=>k_is);(case k3=>k_is)
  (case a4=>k_is);(case l4=>k_is);(case c4=>k_is);(case k4=>k_is)
  (case a5=>k_is);(case l5=>k_is);(case c5=>k_is);(case k5=>k_is)
  (case a6=>k_is);(case l6=>k_is);(case c6=>k_is);(case k6=>k_is)
  (case a7=>k_is);(case l7=>k_is);(case c7=>k_is);(case k7=>k_is)
  (case a8=>k_is);(case l8=>k_is);(case c8=>k_is);(case k8=>k_is)
  (case a9=>k_is);(case l9=>k_is);(case c9=>k_is);(case k9=>k_is)
  (case a10=>k_is);(case l10=>k_is);(case c10=>k_is);(case k10=>k_is)
  (case a11=>k_is);(case l11=>k_is);(case c11=>k_is);(case k11=>k_is)
  (case a12=>k_is);(case l12=>k_is);(case c12=>k_is);(case k12=>k_is)
  (case a13=>k_is);(case l13=>k_is);(case c13=>k_is);(case k13=>k_is)
  (case a14=>k_is);(case l14=>k_is);(case c14=>k_is);(case k14=>k_is)
  (case a15=>k_is);(case l15=>k_is);(case c15=>k_is);(case k15=>k_is)
  (case a16=>k_is);(case l16=>k_is);(case c16=>k_is);(case k16=>k_is)
  (case a17=>k_is);(case l17=>k_is);(case c17=>k_is);(case k17=>k_is)
  (case a18=>k_is);(case l18=>k_is);(case c18=>k_is);(case k18=>k_is)
  (case a19=>k_is);(case l19=>k_is);(case c19=>k_is);(case k19=>k_is)
  (case a20=>k_is);(case l20=>k_is);(case c20=>k_is);(case k20=>k_is)
  (case a21=>k_is);(case l21=>k_is);(case c21=>k_is);(case k21=>k_is)
  (case a22=>k_is);(case l22=>k_is);(case c22=>k_is);(case k22=>k_is)
  (case a23=>k_is);(case l23=>k_is);(case c23=>k_is);(case k23=>k_is)
  (case a24=>k_is);(case l24=>k_is);(case c24=>k_is);(case k24=>k_is)
  (case a25=>k_is);(case l25=>k_is);(case c25=>k_is);(case k25=>k_is)
  (case a26=>k_is);(case l26=>k_is);(case c26=>k_is);(case k26=>k_is)
  (case a27=>k_is);(case l27=>k_is);(case c27=>k_is);(case k27=>k_is)
  (case a28=>k_is);(case l28=>k_is);(case c28=>k_is);(case k28=>k_is)
  (case a29=>k_is);(case l29=>k_is);(case c29=>k_is);(case k29=>k_is)
  (case a30=>k_is);(case l30=>k_is);(case c30=>k_is);(case k30=>k_is)
  (case a31=>k_is);(case l31=>k_is);(case c31=>k_is);(case k31=>k_is)
  (case a32=>k_is);(case l32=>k_is);(case c32=>k_is);(case k32=>k_is)
  (case a33=>k_is);(case l33=>k_is);(case c33=>k_is);(case k33=>k_is)
  (case a34=>k_is);(case l34=>k_is);(case c34=>k_is);(case k34=>k_is)
  (case a35=>k_is);(case l35=>k_is);(case c35=>k_is);(case k35=>k_is)
  (case a36=>k_is);(case l36=>k_is);(case c36=>k_is);(case k36=>k_is)
  (case a37=>k_is);(case l37=>k_is);(case c37=>k_is);(case k37=>k_is)
  (case a38=>k_is);(case l38=>k_is);(case c38=>k_is);(case k38=>k_is)
  (case a39=>k_is);(case l39=>k_is);(case c39=>k_is);(case k39=>k_is)
  (case a40=>k_is);(case l40=>k_is);(case c40=>k_is);(case k40=>k_is)
  (case a41=>k_is);(case l41=>k_is);(case c41=>k_is);(case k41=>k_is)
  (case a42=>k_is);(case l42=>k_is);(case c42=>k_is);(case k42=>k_is)
  (case a43=>k_is);(case l43=>k_is);(case c43=>k_is);(case k43=>k_is)
  (case a44=>k_is);(case l44=>k_is);(case c44=>k_is);(case k44=>k_is)
  (case a45=>k_is);(case l45=>k_is);(case c45=>k_is);(case k45=>k_is)
  (case a46=>k_is);(case l46=>k_is);(case c46=>k_is);(case k46=>k_is)
  (case a47=>k_is);(case l47=>k_is);(case c47=>k_is);(case k47=>k_is)
  (case a48=>k_is);(case l48=>k_is);(case c48=>k_is);(case k48=>k_is)
  (case a49=>k_is);(case l49=>k_is);(case c49=>k_is);(case k49=>k_is)
  (case a50=>k_is);(case l50=>k_is);(case c50=>k_is);(case k50=>k_is)
  (case a51=>k_is);(case l51=>k_is);(case c51=>k_is);(case k51=>k_is)
  (case a52=>k_is);(case l52=>k_is);(case c52=>k_is);(case k52=>k_is)
  (case a53=>k_is);(case l53=>k_is);(case c53=>k_is);(case k53=>k_is)
  (case a54=>k_is);(case l54=>k_is);(case c54=>k_is);(case k54=>k_is)
  (case a55=>k_is);(case l55=>k_is);(case c55=>k_is);(case k55=>k_is)
  (case a56=>k_is);(case l56=>k_is);(case c56=>k_is);(case k56=>k_is)
  (case a57=>k_is);(case l57=>k_is);(case c57=>k_is);(case k57=>k_is)
  (case a58=>k_is);(case l58=>k_is);(case c58=>k_is);(case k58=>k_is)
  (case a59=>k_is);(case l59=>k_is);(case c59=>k_is);(case k59=>k_is)
  (case z_len=>k_is)
  (case z_range=>k_is)
  (case z_all=>k_is)
  (case z_any=>k_is)
  (case z_abs=>k_is)
  (case z_int=>k_is)
  (case z_bool=>k_is)
  (case z_str=>k_is)
  (case z_list=>k_is)
  (case z_tuple=>k_is)
  (case z_dict=>k_is)
  (case z_isinstance=>k_is)
  (case z_enumerate=>k_is)
  (case z_reversed=>k_is)
  (case z_sorted=>k_is)
  (case z_max=>k_is)
  (case z_min=>k_is)
  (case z_sum=>k_is)
  (case z_zip=>k_is)
