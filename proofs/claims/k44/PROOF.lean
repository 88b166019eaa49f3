import PyProof.Rows.All
import Wide.All
import OpenK.AllK
import Wide.FinOn
import Lean
import PyProof.EqAt
import PyProof.EqKinds
import PyProof.TupleCall
import KE.KSortTup
import PyProof.Rows.Range3
import KE.KRevIter
import PyProof.ListRange
import PySem.Challenge.RW_nestwright_k44_led_along_places
open PySem.W (Frag)
open Array renaming length_toList → cr, getElem?_toList → d7, getElem?_eq_getElem → fw
open Bool renaming and_eq_true_iff → au, false_ne_true → aA, and_eq_true → bw, eq_iff_iff → bY, false_eq_true → cQ, not_eq_true' → cZ, or_eq_true_iff → gB
open Int renaming ne_of_gt → ax, mul_pos → az, eq_of_mul_eq_mul_right → aH, zero_mul → aI, natAbs_mul → aO, toNat_natCast → aS, pow_zero → aU, pow_succ → aV, natAbs_dvd_natAbs → a6, natAbs_natCast → a8, mul_comm → bh, mul_ne_zero → br, pow_pos → bB, eq_ofNat_of_zero_le → bD, mul_one → bH, mul_assoc → bI, mul_zero → bJ, pow_ne_zero → bP, add_zero → bQ, zero_add → bT, one_mul → bV, mul_eq_zero → bZ, mul_fdiv_cancel_left → cq, pow_add → cy, fdiv_eq_ediv_of_nonneg → cJ, mul_fdiv_cancel → dm, emod_lt_of_pos → dD, mul_neg_of_pos_of_neg → dE, eq_of_mul_eq_mul_left → dF, lt_trichotomy → dM, dvd_mul_right → dN, dvd_trans → dQ, dvd_mul_of_dvd_left → dX, emod_nonneg → eI, dvd_add → eJ, add_mul → eK, lt_or_gt_of_ne → eU, mul_dvd_mul → fk, natAbs_pow → fI, fmod_eq_emod_of_nonneg → fJ, dvd_mul_of_dvd_right → fX, fmod_nonneg_of_pos → gh, fmod_def → gk, dvd_refl → gn, mul_pow → gA, gcd_eq_zero_iff → gG, sub_add_cancel → gK, fmod_lt_of_pos → gL, gcd_dvd_right → gO
open List renaming length_map → aa, getD_eq_getElem?_getD → ac, getElem?_eq_some_iff → aj, size_toArray → ak, mem_cons → am, getElem?_eq_getElem → ao, length_append → aq, getElem?_append_right → av, mem_cons_of_mem → ay, mem_cons_self → aE, getElem?_set_ne → aF, getElem?_map → aJ, not_mem_nil → aK, mem_of_getElem? → aL, length_reverse → aN, getElem?_set → aP, getElem?_append_left → aR, mem_singleton → aW, mem_append_right → aY, length_take → aZ, map_append → a5, length_cons → a7, getElem?_eq_none → bg, length_set → bj, getElem?_reverse → bu, replicate_succ → bv, mem_append → bz, mem_iff_getElem? → bA, take_length → bF, getD_cons_succ → bN, length_eq_zero_iff → bR, flatten_cons → bS, length_replicate → bW, mem_filter → bX, getElem?_cons_succ → cu, all_eq_true → cw, drop_eq_getElem_cons → cK, length_pos_iff → cL, filterMap_cons → cO, take_succ_eq_append_getElem → cV, reverse_cons → cY, getElem_mem → c7, nodup_cons → c8, append_nil → dc, mem_map → dj, take_zero → du, getElem?_take → dw, drop_zero → dA, map_cons → dJ, getElem?_take_of_lt → dL, map_reverse → dR, lookup_cons → dS, getElem?_replicate → dU, take_of_length_le → dY, getElem?_set_self → dZ, take_append_drop → d9, length_singleton → eA, dropLast_eq_take → eE, all_cons → eO, length_range → eV, length_drop → eZ, any_eq_true → e6, eq_nil_of_length_eq_zero → e7, of_mem_zip → e8, nil_append → e9, dropLast_concat_getLast → fi, take_left → fv, getElem?_eq_none_iff → fF, eq_of_mem_replicate → fM, any_cons → fU, all_map → fY, mem_append_left → gq, length_dropLast → gr, dropLast_concat → gu, getElem?_range → gz, mem_filterMap → gE, filterMap_nil → gF, foldl_append → gH, ext_getElem? → gI, append_assoc → gJ
open Nat renaming le_refl → af, mul_le_mul_left → ai, lt_or_ge → ar, zero_le → aB, le_trans → aC, lt_of_lt_of_le → aD, add_sub_cancel → aG, ne_of_lt → aQ, mul_comm → aT, mul_le_mul → aX, succ_mul → a9, sub_self → bc, le_mul_of_pos_left → bo, mul_le_mul_right → bq, lt_irrefl → bt, sub_zero → bx, mul_succ → bC, lt_of_le_of_lt → bE, pow_pos → bG, eq_or_lt_of_le → bK, le_mul_of_pos_right → bM, not_lt_zero → bO, pow_le_pow_right → b9, le_of_dvd → ce, le_of_succ_le → cI, eq_zero_or_pos → cR, min_eq_left → df, div_le_self → dh, ne_of_gt → dq, mul_lt_mul_of_pos_right → dr, pow_add → dG, mul_one → dH, le_of_lt_succ → dI, mul_assoc → dO, add_assoc → dP, dvd_mul_left → dW, pos_of_ne_zero → eQ, le_of_lt → eX, mul_lt_mul_of_pos_left → fB, mul_div_le → fE, eq_of_mul_eq_mul_left → fL, zero_mul → fZ, zero_add → f6, succ_pos → f7, mul_zero → gb, gcd_comm → gg, one_mul → gv, mul_pos → gw, le_succ → gx, add_le_add_right → gy, lt_mul_div_succ → gD, lt_succ_of_lt → gM, gcd_dvd_right → gN
open Option renaming map_eq_some_iff → ab, ite_none_right_eq_some → ae, bind_eq_some_iff → ah, ite_none_left_eq_some → eY, getD_none → gC
open Rat renaming intCast_mul → aw, pow_zero → cC, pow_succ → cE, intCast_pow → cF, mul_eq_zero → cP, intCast_eq_zero_iff → cU, intCast_inj → de, intCast_add → d8, intCast_sub → fj
open PySem renaming wpAny_bind → ηB,wpAny_pure → ηP
open PySem.Heap renaming get?_push_of_some → ηH,lt_size → ηL,get?_push_size → ηG
set_option Elab.async false
set_option linter.all false
set_option maxRecDepth 100000
set_option genSizeOf false
set_option bootstrap.genMatcherCode false
local macro_rules|`(tactic| omega) => `(tactic| lia)
namespace L2
open PySem PySem.Spec PyProof.Rows
abbrev uX:=Sum Int Str
def vW:uX->Value->Bool
 | .inl k,v=>Value.isInt k v
 | .inr x,v=>Value.isStrOf x v
def Kv(w:World):uX->Int
 | .inl k=>hashInt k
 | .inr x=>hashStr w x
theorem rb:∀{k:uX} {v:Value},vW k v=true->(∃ i t,k=Sum.inl i/\v=Value.int i t)\/(∃ x t,k=Sum.inr x/\v=Value.str x t)
 | .inl i,v,h=>by
  obtain⟨t,e⟩:=Value.isInt_shape (k:=i) (v:=v) h;exact .inl ⟨i,t,rfl,e⟩
 | .inr x,v,h=>by
  obtain⟨t,e⟩:=Value.isStrOf_shape (x:=x) (v:=v) h;exact .inr ⟨x,t,rfl,e⟩
theorem AT(i:Int)(t:Tok):vW (.inl i) (.int i t)=true:=by simp [vW,Value.isInt]
theorem AS(x:Str)(t:Tok):vW (.inr x) (.str x t)=true:=by simp [vW,Value.isStrOf]
theorem GW(a b:Int):decide ((Sum.inl a:uX)=Sum.inl b)=(a == b):=by
 by_cases e:a=b
 ·subst e;simp
 ·have h:¬ (Sum.inl a:uX)=Sum.inl b:=λq=>e (Sum.inl.inj q);rw [decide_eq_false h];exact (beq_eq_false_iff_ne.mpr e).symm
theorem GT(a b:Str):decide ((Sum.inr a:uX)=Sum.inr b)=decide (a=b):=by
 by_cases e:a=b
 ·subst e;simp
 ·have h:¬ (Sum.inr a:uX)=Sum.inr b:=λq=>e (Sum.inr.inj q);rw [decide_eq_false h,decide_eq_false e]
theorem GV(a:Int)(b:Str):decide ((Sum.inl a:uX)=Sum.inr b)=false:=decide_eq_false (λq=>nomatch q)
theorem GU(a:Str)(b:Int):decide ((Sum.inr a:uX)=Sum.inl b)=false:=decide_eq_false (λq=>nomatch q)
def ub(prog:Program)(w:World):PySem.KeyKind prog w uX where
 is:=vW
 hash:=Kv w
 inj:=λv a b ha hb=>by
  rcases rb ha with⟨i,t,rfl,rfl⟩|⟨x,t,rfl,rfl⟩
  ·rcases rb hb with⟨j,u,rfl,e⟩|⟨y,u,rfl,e⟩
   ·injection e with e1 _;rw [e1]
   ·exact nomatch e
  ·rcases rb hb with⟨j,u,rfl,e⟩|⟨y,u,rfl,e⟩
   ·exact nomatch e
   ·injection e with e1 _;rw [e1]
 byValue:=λk v h=>by
  rcases rb h with⟨i,t,rfl,rfl⟩|⟨x,t,rfl,rfl⟩ <;> rfl
 pyHash:=λhv h=>by
  rcases rb hv with⟨i,t,rfl,rfl⟩|⟨x,t,rfl,rfl⟩
  ·exact wpAny_pyHash_int h
  ·exact wpAny_pyHash_str h
 eqBool:=λhu hv h=>by
  rcases rb hu with⟨i,t,rfl,rfl⟩|⟨x,t,rfl,rfl⟩
  ·rcases rb hv with⟨j,u,rfl,rfl⟩|⟨y,u,rfl,rfl⟩
   ·rw [GW] at h;exact wpAny_eqBool_int h
   ·rw [GV] at h;exact SeqAt.EqAt.int_str i t y u _ _ _ _ h
  ·rcases rb hv with⟨j,u,rfl,rfl⟩|⟨y,u,rfl,rfl⟩
   ·rw [GU] at h;exact SeqAt.EqAt.str_int x t j u _ _ _ _ h
   ·rw [GT] at h;exact wpAny_eqBool_str h
 «strs» := λk x t v h=>by
  rcases rb h with⟨i,u,rfl,e⟩|⟨y,u,rfl,e⟩
  ·exact nomatch e
  ·injection e with e1 _;subst e1;cases v <;> rfl
end L2
namespace L2
open PySem PySem.Spec PyProof.Rows
inductive V where
 | non|bl (b:Bool)|int (i:Int)|str (x:Str)|byt (b:Array UInt8)|flt (b:UInt64)|ref (a:Addr)|ty (n:String)
 deriving DecidableEq
def RelV:V->Value->Prop
 | .non,u=>u=Value.none
 | .bl b,u=>u=Value.bool b
 | .int i,u=>∃ t,u=Value.int i t
 | .str x,u=>∃ t,u=Value.str x t
 | .byt b,u=>∃ t,u=Value.bytes b t
 | .flt b,u=>∃ t,u=Value.float b t
 | .ref a,u=>u=Value.ref a
 | .ty n,u=>u=Value.type n
abbrev Vals:List V->List Value->Prop:=Paired RelV
theorem Vals.length{xs:List V}{us:List Value}(r:Vals xs us):xs.length=us.length:=Paired.length r
theorem Vals.get:∀{xs:List V} {us:List Value} {i:Nat} {x:V},Vals xs us->xs[i]? = some x->∃ u,us[i]? = some u/\RelV x u
 | _,_,_,_,.nil,e=>by simp at e
 | _,_,0,_,.cons r _,e=>by simp at e;subst e;exact⟨_,rfl,r⟩
 | _,_,i+1,x,.cons _ t,e=>by
  obtain⟨u,h1,h2⟩:=Vals.get (i:=i) (x:=x) t (by simpa using e);exact⟨u,by simpa using h1,h2⟩
theorem Vals.set{x:V}{u:Value}(r:RelV x u):∀{xs:List V} {us:List Value} (i:Nat),Vals xs us->Vals (xs.set i x) (us.set i u)
 | _,_,_,.nil=>.nil
 | _,_,0,.cons _ t=>.cons r t
 | _,_,i+1,.cons q t=>.cons q (Vals.set r i t)
theorem Vals.append:∀{xs ys:List V} {us ws:List Value},Vals xs us->Vals ys ws->Vals (xs++ys) (us++ws)
 | _,_,_,_,.nil,s=>s
 | _,_,_,_,.cons r t,s=>.cons r (Vals.append t s)
theorem Vals.take:∀{xs:List V} {us:List Value} (n:Nat),Vals xs us->Vals (xs.take n) (us.take n)
 | _,_,0,_=>.nil
 | _,_,_+1,.nil=>.nil
 | _,_,n+1,.cons r t=>.cons r (Vals.take n t)
theorem Vals.drop:∀{xs:List V} {us:List Value} (n:Nat),Vals xs us->Vals (xs.drop n) (us.drop n)
 | _,_,0,r=>r
 | _,_,_+1,.nil=>.nil
 | _,_,n+1,.cons _ t=>Vals.drop n t
def HF:Option V->Option Value->Prop
 | some v,some u=>RelV v u
 | none,none=>True
 | _,_=>False
def KV{κ:Type}:List (κ×V)->List (κ×Value)->Prop:=Paired λ(p:κ×V) (q:κ×Value)=>p.1=q.1/\RelV p.2 q.2
def kV:uX->V
 | .inl i=>.int i
 | .inr x=>.str x
inductive HO where
  | lst (xs:List V)
  | tup (xs:List V)
  | dK (kvs:List (uX×V))|dT (kvs:List (List uX×V))
  | set (S:Int->Bool) (n:Nat)
  | ins (C dx:Addr) (fs:List (Str×V))
  | own (x:Addr)
  | xd (fs:List (Str×V))
  | met (f x:Addr)
  | rng (lo hi:Int)
  | frz (o:Obj) (u:HO)
  | tbl (ps:Array Value)
  | ext (φ:Heap->Prop)
abbrev Hp:=Addr->Option HO
def rD(H:Hp)(a:Addr)(o:HO):Hp:=λb=>if b=a then some o else H b
theorem qP{H:Hp}{a:Addr}{o:HO}:rD H a o a=some o:=by unfold rD;rw [if_pos rfl]
theorem qM{H:Hp}{a b:Addr}{o:HO}(h:b≠a):rD H a o b=H b:=by unfold rD;rw [if_neg h]
theorem IQ{H:Hp}{a b:Addr}{o u:HO}(h:H a=some o)(h':H b=some u)(d:o≠u):a≠b:=by
 intro e;subst e;rw [h] at h';exact d (Option.some.inj h')
theorem qV{H:Hp}{a b:Addr}{o:HO}(h:H a=some o)(h':H b=none):a≠b:=by
 intro e;subst e;rw [h] at h';cases h'
section
variable(P:Program)(w:World)
def ObjOk(H:Hp)(h:Heap)(a:Addr):HO->Prop
 | .lst xs=>xs.length<=sizeLine/\∃(its:List Value) (n:Nat),Vals xs its/\h.get? a=some { cls:=.type "list",data:=.seq its.toArray n }
 | .tup xs=>xs.length<=sizeLine/\∃ its:List Value,Vals xs its/\IsTup h a its.toArray
 | .dK kvs=>kvs.length<=sizeLine/\(a == sysModules)=false/\∃ vs,KV kvs vs/\h.DictOf (ub P w) a vs
 | .dT kvs=>kvs.length<=sizeLine/\(a == sysModules)=false/\∃ xs:List (List uX×Addr×Value),
   Paired (λ(p:List uX×V) (q:List uX×Addr×Value)=>p.1=q.1/\H q.2.1=some (.tup (p.1.map kV))/\RelV p.2 q.2.2) kvs xs /\
   ∃ o es ep,h.get? a=some o/\o.ExactDict/\o.data = .dict es ep/\es.toList=xs.map (entryOfKey (tupleKind (ub P w)))/\(xs.map (·.1)).Nodup
 | .set S n=>h.SetOf (intKind P w) a S n
 | .ins C dx fs=>H dx=some (.own a)/\fs.length<=1000/\dx≠a/\h.get? a=some (PySem.W.instObj C dx) /\
   ∃ mA,h.Ns1 dx mA/\(∀ f,HF (fs.lookup f) (mA f))/\PySem.Within mA (fs.map (·.1))
 | .own _=>∃ o,h.get? a=some o
 | .xd fs=>∃ mA,h.Ns1 a mA/\∀ f,HF (fs.lookup f) (mA f)
 | .rng lo hi=>∃ t u v,h.get? a=some { cls:=.type "range",data:=.fields #[.int lo t,.int hi u,.int 1 v] }
 | .frz o u=>h.get? a=some o/\ObjOk H h a u
 | .tbl ps=>h.get? a=some { cls:=.none,data:=.fields ps }
 | .met f x=>h.get? a=some (PySem.W.methodObj (.ref f) (.ref x))
 | .ext φ=>φ h/\(∃ o,h.get? a=some o)/\∀ h1 h2:Heap,φ h1->(∀ o,h1.get? a=some o->h2.get? a=some o)->φ h2
def HOk(H:Hp)(h:Heap):Prop:=∀ a o,H a=some o->ObjOk P w H h a o
end
section
variable{P:Program}{w:World}{H H':Hp}{h h':Heap}{a:Addr}{o:HO}
theorem ObjOk.lt(x:ObjOk P w H h a o):a<h.objs.size:=by
 cases o with
 | lst xs=>obtain⟨_,_,_,_,e⟩:=x;exact ηL e
 | tup xs=>obtain⟨_,_,_,p⟩:=x;exact p.lt
 | dK kvs=>obtain⟨_,_,_,_,o,_,_,e,_⟩:=x;exact ηL e
 | dT kvs=>obtain⟨_,_,_,_,o,_,_,e,_⟩:=x;exact ηL e
 | set S n=>obtain⟨o,_,_,_,e,_⟩:=x;exact ηL e
 | ins C dx fs=>obtain⟨_,_,_,e,_⟩:=x;exact ηL e
 | own y=>obtain⟨_,e⟩:=x;exact ηL e
 | xd fs=>obtain⟨_,⟨_,_,_,e,_⟩,_⟩:=x;exact ηL e
 | rng lo hi=>obtain⟨_,_,_,e⟩:=x;exact ηL e
 | frz ob u=>obtain⟨e,_⟩:=x;exact ηL e
 | tbl ps=>exact ηL (show h.get? a=some _ from x)
 | met f y=>exact ηL (show h.get? a=some _ from x)
 | ext φ=>obtain⟨_,⟨_,e⟩,_⟩:=x;exact ηL e
theorem Paired.mapP{α β:Type}{F G:α->β->Prop}:∀{l₁:List α} {l₂:List β},Paired F l₁ l₂->(∀ a b,F a b->G a b)->Paired G l₁ l₂
 | _,_,.nil,_=>.nil
 | _,_,.cons r t,f=>.cons (f _ _ r) (Paired.mapP t f)
theorem ObjOk.stay(x:ObjOk P w H h a o)(k:∀ b u,(b=a\/H b=some (.own a))->h.get? b=some u->h'.get? b=some u)
  (ho:∀ b,H b=some (.own a)->H' b=some (.own a)) (ht:∀ b xs,H b=some (.tup xs)->H' b=some (.tup xs)):ObjOk P w H' h' a o:=by
 induction o with
 | lst xs=>obtain⟨z,its,n,r,e⟩:=x;exact⟨z,its,n,r,k _ _ (.inl rfl) e⟩
 | tup xs=>obtain⟨z,its,r,ob,e,c⟩:=x;exact⟨z,its,r,ob,k _ _ (.inl rfl) e,c⟩
 | dK kvs=>obtain⟨z,y,vs,r,ob,es,ep,e,c⟩:=x;exact⟨z,y,vs,r,ob,es,ep,k _ _ (.inl rfl) e,c⟩
 | dT kvs =>
  obtain⟨z,y,xs,r,ob,es,ep,e,c⟩:=x;exact⟨z,y,xs,Paired.mapP r λp q z=>⟨z.1,ht _ _ z.2.1,z.2.2⟩,ob,es,ep,k _ _ (.inl rfl) e,c⟩
 | set S n=>obtain⟨ob,es,ep,t,e,c⟩:=x;exact⟨ob,es,ep,t,k _ _ (.inl rfl) e,c⟩
 | ins C dx fs =>
  obtain⟨d,z,ne,e,mA,⟨od,es,ep,e2,c⟩,r⟩:=x;exact⟨ho _ d,z,ne,k _ _ (.inl rfl) e,mA,⟨od,es,ep,k _ _ (.inr d) e2,c⟩,r⟩
 | own y=>obtain⟨ob,e⟩:=x;exact⟨ob,k _ _ (.inl rfl) e⟩
 | xd fs=>obtain⟨mA,⟨od,es,ep,e,c⟩,r⟩:=x;exact⟨mA,⟨od,es,ep,k _ _ (.inl rfl) e,c⟩,r⟩
 | rng lo hi=>obtain⟨t,u,v,e⟩:=x;exact⟨t,u,v,k _ _ (.inl rfl) e⟩
 | frz ob u ih=>obtain⟨e,q⟩:=x;exact⟨k _ _ (.inl rfl) e,ih q⟩
 | tbl ps =>
  have e:h.get? a=some { cls:=.none,data:=.fields ps }:=x;show h'.get? a=some { cls:=.none,data:=.fields ps };exact k a _ (.inl rfl) e
 | met f y =>
  have e:h.get? a=some (PySem.W.methodObj (.ref f) (.ref y)):=x;show h'.get? a=some (PySem.W.methodObj (.ref f) (.ref y));exact k a _ (.inl rfl) e
 | ext φ=>obtain⟨p,⟨o,e⟩,st⟩:=x;exact⟨st _ _ p λo q=>k _ _ (.inl rfl) q,⟨o,k _ _ (.inl rfl) e⟩,st⟩
theorem HOk.lt(x:HOk P w H h)(e:H a=some o):a<h.objs.size:=(x a o e).lt
theorem HOk.fresh(x:HOk P w H h)(e:h.objs.size<=a):H a=none:=by
 cases q:H a with
 | none=>rfl
 | some u=>exact absurd (aD (x.lt q) e) (bt _)
theorem HOk.kept(x:HOk P w H h)(k:∀ b u,h.get? b=some u->h'.get? b=some u):HOk P w H h':=λa o e =>
 (x a o e).stay (λb u _ q=>k b u q) (λ_ q=>q) λ_ _ q=>q
theorem HOk.laid(x:HOk P w H h)(k:∀ b u,h.get? b=some u->h'.get? b=some u)(hp:h.objs.size<=a)(new:ObjOk P w (rD H a o) h' a o):HOk P w (rD H a o) h':=λb u e=>by
 have hn:=x.fresh hp;by_cases hb:b=a
 ·subst hb;rw [qP] at e;cases e;exact new
 ·rw [qM hb] at e;exact (x b u e).stay (λc v _ q=>k c v q) (λc q=>by rw [qM (qV q hn)];exact q) λc xs q=>by rw [qM (qV q hn)];exact q
end
def Rd(H:Hp)(a:Addr)(u:HO):Prop:=H a=some u\/∃ o,H a=some (.frz o u)
theorem Rd.ok{P:Program}{w:World}{H:Hp}{h:Heap}{a:Addr}{u:HO}(r:Rd H a u)(x:HOk P w H h):ObjOk P w H h a u:=by
 rcases r with r|⟨o,r⟩
 ·exact x a u r
 ·obtain⟨_,q⟩:=x a _ r;exact q
def JQ:Option HO->Prop
 | some (.lst _)=>True
 | some (.dK _)=>True
 | some (.dT _)=>True
 | some (.set _ _)=>True
 | some (.ins _ _ _)=>True
 | some (.ext _)=>True
 | _=>False
section
variable{P:Program}{w:World}{H:Hp}{h h':Heap}{x e:Addr}{o':HO}
theorem HOk.write(ok:HOk P w H h)(mu:JQ (H x))(he:e=x\/H e=some (.own x))(k:∀ b u,b≠e->h.get? b=some u->h'.get? b=some u)(heo:∃ u,h'.get? e=some u)
  (new:ObjOk P w (rD H x o') h' x o'):HOk P w (rD H x o') h':=λb u q=>by
 have nown:∀ c y,H c=some (.own y)->c≠x:=λc y r z=>by subst z;rw [r] at mu;exact mu
 have ntup:∀ c xs,H c=some (.tup xs)->c≠x:=λc xs r z=>by subst z;rw [r] at mu;exact mu
 by_cases hb:b=x
 ·subst hb;rw [qP] at q;cases q;exact new
 ·rw [qM hb] at q;by_cases hbe:b=e
  ·have q':H b=some (.own x):=by
    rcases he with z|z
    ·exact absurd (hbe.trans z) hb
    ·rw [hbe];exact z
   rw [q] at q';cases q';obtain⟨v,hv⟩:=heo;exact⟨v,by rw [hbe];exact hv⟩
  ·refine (ok b u q).stay (λc v hc r=>k c v ?_ r) (λc r=>by rw [qM (nown c b r)];exact r) λc xs r=>by rw [qM (ntup c xs r)];exact r
   rcases hc with rfl|hc
   ·exact hbe
   ·rintro rfl;rcases he with z|z
    ·exact nown c b hc z
    ·rw [hc] at z;cases z;exact hb rfl
end
structure Un (fs ex:List Addr)(H H':Hp)(h h':Heap):Prop where
 keep:∀ b o,h.get? b=some o->H b=none->b ∉ fs->b ∉ ex->h'.get? b=some o
 slot:∀ b o,h.get? b=some o->H b=none->b∈fs->b ∉ ex->∃ sl,h'.get? b=some { o with slots:=sl }
 free:∀ b o,h.get? b=some o->H b=none->b ∉ ex->H' b=none
 there:∀ b o,h.get? b=some o->b ∉ ex->∃ o',h'.get? b=some o'
 tups:∀ b xs,H b=some (.tup xs)->H' b=some (.tup xs)
 frzs:∀ b o u,H b=some (.frz o u)->H' b=some (.frz o u)
 tbls:∀ b ps,H b=some (.tbl ps)->∃ more,H' b=some (.tbl (ps++more))
section
variable{fs fs' ex ex':List Addr}{H H1 H2:Hp}{h h1 h2 h':Heap}{a x e:Addr}{o:HO}
theorem Un.any(u:Un fs ex H H1 h h1){b:Addr}{ob:Obj}(q:h.get? b=some ob)(n:H b=none)(hx:b ∉ ex):∃ sl,h1.get? b=some { ob with slots:=sl }:=by
 by_cases hb:b∈fs
 ·exact u.slot b ob q n hb hx
 ·exact⟨ob.slots,u.keep b ob q n hb hx⟩
theorem Un.kept(k:∀ b u,h.get? b=some u->h'.get? b=some u):Un fs ex H H h h' :=
 ⟨λb ob q _ _ _=>k b ob q,λb ob q _ _ _=>⟨ob.slots,k b ob q⟩,λ_ _ _ n _=>n,λb ob q _=>⟨ob,k b ob q⟩,λ_ _ q=>q,λ_ _ _ q=>q,λ_ ps q=>⟨#[],by rw [q];simp⟩⟩
theorem Un.refl:Un fs ex H H h h:=Un.kept λ_ _ q=>q
theorem Un.laid(k:∀ b u,h.get? b=some u->h'.get? b=some u)(hp:h.objs.size<=a)(hn:H a=none):Un fs ex H (rD H a o) h h' where
 keep:=λb u q _ _ _=>k b u q
 slot:=λb u q _ _ _=>⟨u.slots,k b u q⟩
 free:=λb u q n _=>by rw [qM (aQ (aD (ηL q) hp))];exact n
 there:=λb u q _=>⟨u,k b u q⟩
 tups:=λb xs q=>by rw [qM (qV q hn)];exact q
 frzs:=λb u xs q=>by rw [qM (qV q hn)];exact q
 tbls:=λb ps q=>⟨#[],by rw [qM (qV q hn),q];simp⟩
theorem Un.write(mu:JQ (H x))(he:e=x\/H e=some (.own x))(k:∀ b u,b≠e->h.get? b=some u->h'.get? b=some u)(heo:∃ u,h'.get? e=some u):Un fs ex H (rD H x o) h h':=by
 have hx:∀ b,H b=none->b≠x:=λb n z=>by subst z;rw [n] at mu;exact mu
 have hb:∀ b,H b=none->b≠e:=λb n z=>by
  subst z;rcases he with r|r
  ·exact hx b n r
  ·rw [n] at r;cases r
 have hm:∀ b u,H b=some u->¬ JQ (some u)->b≠x:=λb u q nm z=>by subst z;rw [q] at mu;exact nm mu
 refine⟨λb u q n _ _=>k b u (hb b n) q,λb u q n _ _=>⟨u.slots,k b u (hb b n) q⟩,λb u q n _=>by rw [qM (hx b n)];exact n,λb u q _=>?_,
  λb xs q=>by rw [qM (hm b _ q λz=>z)];exact q,λb u xs q=>by rw [qM (hm b _ q λz=>z)];exact q,λb ps q=>⟨#[],by rw [qM (hm b _ q λz=>z),q];simp⟩⟩
 by_cases hbe:b=e
 ·subst hbe;exact heo
 ·exact⟨u,k b u hbe q⟩
end
def JG(h:Heap)(H:Hp):List Addr:=(List.range h.objs.size).filter λa=>(H a).isSome
def vH(h:Heap)(H:Hp):Heap:=PySem.W.hideAll h (JG h H)
theorem AX(h:Heap)(H:Hp):(vH h H).objs.size=h.objs.size:=PySem.W.hideAll_size _ _
theorem CJ{h:Heap}{H:Hp}{b:Addr}{o:Obj}(e:h.get? b=some o)(n:H b=none):(vH h H).get? b=some o :=
 PySem.W.hideAll_get _ e λhm=>by
  have q:(H b).isSome=true:=(bX.mp hm).2;rw [n] at q;simp at q
theorem Ek{h:Heap}{H:Hp}{b:Addr}{o:Obj}(e:(vH h H).get? b=some o):h.get? b=some o/\H b=none:=by
 have e':h.get? b=some o:=PySem.W.of_hideAll (JG h H) e;refine⟨e',?_⟩;cases q:H b with
 | none=>rfl
 | some x =>
  have hm:b∈JG h H:=bX.mpr ⟨List.mem_range.mpr (ηL e'),by simp [q]⟩;have z:(vH h H).get? b=none:=PySem.W.hideAll_none (JG h H) hm;rw [z] at e;cases e
end L2
namespace L2
open PySem PySem.Spec PyProof.Rows
structure Mod (K:Frag)(mg:Str->Option Value)(base:Heap):Prop where
 kin:K.In base
 glob:base.Ns mainGlobals mg
 blt:∃ mb,base.Ns builtinsNs mb/\∀ x:Str,x ≠ "__name__" -> mb x=bootBuiltins x
 nolimit:base.NoLimit
structure Cx where
 prog:Program
 w:World
 K:Frag
 mg:Str->Option Value
 base:Heap
 A:Around
 N:List Str
 s₀:Shared
 H₀:Hp
 env:Env
 outer:List Env
 stack:List Env
 ex:List Addr
 fn:Str->Bool
 calm:Bool
 pn:List (Addr×Obj)
 xe:Value->Shared->Prop
def zX(l:List Env):List Addr:=l.filterMap (·.frame)
abbrev Cx.fs(X:Cx):List Addr:=zX X.outer
def FJ(sc:Scope)(x:Str):Prop:=sc.names.lookup x=some .local\/sc.names.lookup x=some .cell\/sc.names.lookup x=some .free
def Bc(sc:Scope)(x:Str):Prop:=sc.names.lookup x=some .local\/sc.names.lookup x=some .cell
def KO(env:Env)(h:Heap)(m:Str->Option Value)(x:Str)(u:Value):Prop :=
 (env.kindOf x=some .local/\m x=some u)\/((env.kindOf x=some .cell\/env.kindOf x=some .free)/\∃ c,env.cells.lookup x=some c/\h.IsCell c (some u))
structure Cx.Ok (X:Cx):Prop where
 mod:Mod X.K X.mg X.base
 kind:X.env.scope.kind = .function
 glob:X.env.globals=mainGlobals
 blt:X.env.builtins=builtinsNs
 above:X.s₀.heap.objs.size<=X.env.locals
 inj:∀ x y c,X.env.cells.lookup x=some c->X.env.cells.lookup y=some c->x=y
 has:∀ x,(X.env.kindOf x=some .cell\/X.env.kindOf x=some .free)->∃ c,X.env.cells.lookup x=some c
 cab:∀ x c,X.fn x=true->X.env.cells.lookup x=some c->X.s₀.heap.objs.size<=c
 hd:X.calm=true->X.A.handled=none
 frames:X.A.frames=some X.stack
 stk:X.stack=X.outer\/(X.stack=X.env::X.outer/\X.env.frame=some X.env.locals)
 exf:∀ b∈X.ex,b≠X.env.locals/\∀ x c,X.env.cells.lookup x=some c->c≠b
 bs:∀ b o,X.base.get? b=some o->X.s₀.heap.get? b=some o/\X.H₀ b=none
 bsz:X.base.objs.size<=X.s₀.heap.objs.size
 noex:∀ b o,X.base.get? b=some o->b ∉ X.ex
 exfs:∀ b∈X.ex,b ∉ X.fs
 funs:X.s₀.heap.FunFrames X.base X.outer
 frf:∀ b∈X.fs,X.H₀ b=none
 sr:X.base.NoSeer/\X.prog.given.tree=none
 rn:∃ e l,X.stack=e::l/\e.scope.isGenerator=false/\e.scope.isCoroutine=false/\e.builtins=builtinsNs/\e.globals=mainGlobals
structure Inv (X:Cx)(pins:List (Addr×Obj))(σ:List (Option V))(H:Hp)(s:Shared):Prop where
 ok:X.Ok
 os:s.os=X.s₀.os
 bare:AllBare s.gens
 base:Un X.fs X.ex X.H₀ H X.s₀.heap s.heap
 loc:∃ m,s.heap.Ns X.env.locals m/\∀(i:Nat) (x:Str) (v:V),X.N[i]? = some x->σ[i]? = some (some v)->FJ X.env.scope x->∃ u,RelV v u/\KO X.env s.heap m x u
 cell:∀ x c,X.env.cells.lookup x=some c->∃ v,s.heap.IsCell c v
 free:H X.env.locals=none
 freeC:∀ x c,X.env.cells.lookup x=some c->H c=none
 pin:∀ p∈X.pn++pins,s.heap.get? p.1=some p.2/\H p.1=none/\p.1≠X.env.locals/\p.1 ∉ X.fs/\∀ v,p.2.data ≠ .cell v
 hok:HOk X.prog X.w H s.heap
 len:σ.length=X.N.length
section
variable{X:Cx}{pins:List (Addr×Obj)}{σ:List (Option V)}{H H':Hp}{s:Shared}{h':Heap}
theorem Cx.Ok.nofr(ok:X.Ok){b:Addr}{o:Obj}(e:X.base.get? b=some o):b ∉ X.fs:=λhb=>by
 have:=(ok.funs.mem hb).1;rw [e] at this;cases this
theorem Inv.bs(I:Inv X pins σ H s):∀ b o,X.base.get? b=some o->s.heap.get? b=some o/\H b=none:=λb o e =>
 ⟨I.base.keep b o (I.ok.bs b o e).1 (I.ok.bs b o e).2 (I.ok.nofr e) (I.ok.noex b o e),I.base.free b o (I.ok.bs b o e).1 (I.ok.bs b o e).2 (I.ok.noex b o e)⟩
theorem Inv.bk(I:Inv X pins σ H s):∀ b o,X.base.get? b=some o->s.heap.get? b=some o:=λb o e=>(I.bs b o e).1
theorem Inv.mod(I:Inv X pins σ H s):Mod X.K X.mg X.base:=I.ok.mod
theorem Inv.kIn(I:Inv X pins σ H s):X.K.In s.heap:=I.ok.mod.kin.keeps I.bk
theorem Inv.nolimit(I:Inv X pins σ H s):s.heap.NoLimit:=I.ok.mod.nolimit.keeps I.bk
theorem Inv.lt(I:Inv X pins σ H s):X.env.locals<s.heap.objs.size:=let ⟨_,hn,_⟩:=I.loc;hn.lt
theorem Inv.sz(I:Inv X pins σ H s):X.s₀.heap.objs.size<=s.heap.objs.size:=aC I.ok.above (eX I.lt)
theorem Inv.nofs(I:Inv X pins σ H s){a:Addr}(h:s.heap.objs.size<=a):a ∉ X.fs:=λhb=>by
 obtain⟨_,o,ho,_⟩:=I.ok.funs.mem hb;exact absurd (aD (ηL ho) (aC I.sz h)) (bt _)
theorem Inv.cne(I:Inv X pins σ H s):∀ x c,X.env.cells.lookup x=some c->c≠X.env.locals:=λx c e z=>by
 obtain⟨v,o,ho,hd⟩:=I.cell x c e;obtain⟨m,⟨o',es,ep,ho',hd',_⟩,_⟩:=I.loc;rw [z,ho'] at ho;cases ho;rw [hd'] at hd;cases hd
theorem Inv.funs(I:Inv X pins σ H s):s.heap.FunFrames X.base X.outer:=by
 have all:∀(l:List Env),(∀ b∈zX l,b∈X.fs)->X.s₀.heap.FunFrames X.base l->s.heap.FunFrames X.base l:=by
  intro l;induction l with
  | nil=>intro _ _;trivial
  | cons env r ih =>
   intro hs hl;obtain⟨hk,⟨L,o,hf,hn,ho,hd⟩,hr⟩:=hl;have hL:L∈X.fs:=hs L (by unfold zX;rw [cO,hf];exact aE);obtain⟨sl,e⟩:=I.base.slot L o ho (I.ok.frf L hL) hL λz=>I.ok.exfs L z hL;exact⟨hk,⟨L,_,hf,hn,e,hd⟩,ih (λb hb=>hs b (by unfold zX;rw [cO,hf];exact ay _ hb)) hr⟩
 exact all X.outer (λ_ hb=>hb) I.ok.funs
theorem Inv.stack(I:Inv X pins σ H s):s.heap.FunFrames X.base X.stack:=by
 rcases I.ok.stk with e|⟨e,hf⟩
 ·rw [e];exact I.funs
 ·rw [e];obtain⟨m,hn,_⟩:=I.loc;refine .cons (by rw [I.ok.kind];decide) hf hn ?_ I.funs;exact Heap.get?_none_of_le (aC I.ok.bsz I.ok.above)
theorem Inv.stkSub(I:Inv X pins σ H s):∀ b∈zX X.stack,b∈X.env.locals::X.fs:=λb hb=>by
 rcases I.ok.stk with e|⟨e,hf⟩
 ·rw [e] at hb;exact ay _ hb
 ·rw [e] at hb;unfold zX at hb;rw [cO,hf] at hb;exact hb
theorem Inv.stkFree(I:Inv X pins σ H s):∀ b∈zX X.stack,H b=none:=λb hb=>by
 rcases am.mp (I.stkSub b hb) with e|hb
 ·rw [e];exact I.free
 ·obtain⟨_,o,ho,_⟩:=I.ok.funs.mem hb;exact I.base.free b o ho (I.ok.frf b hb) λz=>I.ok.exfs b z hb
theorem Inv.step{g':Array GenState}{t':Nat}{d':Drawn}{ch:List Addr}(I:Inv X pins σ H s)
  (hch:∀ b∈ch,(b∈X.ex\/X.s₀.heap.objs.size<=b)/\b≠X.env.locals/\(∀ x c,X.env.cells.lookup x=some c->c≠b)/\∀ p∈X.pn++pins,p.1≠b)
  (keep:∀ b o,b≠X.env.locals->b ∉ X.fs->b ∉ ch->s.heap.get? b=some o->H b=none->h'.get? b=some o)
  (slot:∀ b o,b≠X.env.locals->b∈X.fs->b ∉ ch->s.heap.get? b=some o->H b=none->∃ sl,h'.get? b=some { o with slots:=sl }) (free:∀ b o,b ∉ ch->s.heap.get? b=some o->H b=none->H' b=none)
  (there:∀ b o,b ∉ ch->s.heap.get? b=some o->∃ o',h'.get? b=some o')
  (tups:∀ b xs,H b=some (.tup xs)->H' b=some (.tup xs)) (frzs:∀ b o u,H b=some (.frz o u)->H' b=some (.frz o u)) (tbls:∀ b ps,H b=some (.tbl ps)->∃ more,H' b=some (.tbl (ps++more)))
  (ns:∀ m,s.heap.Ns X.env.locals m->h'.Ns X.env.locals m) (hok:HOk X.prog X.w H' h') (hg:AllBare g') :
  Inv X pins σ H' { s with heap:=h',gens:=g',drawn:=d',toks:=t' }:=by
 have neL:∀ b o,X.s₀.heap.get? b=some o->b≠X.env.locals:=λb o e=>aQ (aD (ηL e) I.ok.above);have neC:∀ b o,X.s₀.heap.get? b=some o->b ∉ X.ex->b ∉ ch:=λb o e hx hb=>by
  rcases (hch b hb).1 with z|z
  ·exact hx z
  ·exact absurd (aD (ηL e) z) (bt _)
 have cellK:∀ x c,X.env.cells.lookup x=some c->∀ v,s.heap.IsCell c v->h'.IsCell c v:=λx c e v ⟨o,ho,hd⟩=>by
  have nch:c ∉ ch:=λz=>(hch c z).2.2.1 x c e rfl;by_cases hc:c∈X.fs
  ·obtain⟨sl,q⟩:=slot c o (I.cne x c e) hc nch ho (I.freeC x c e);exact⟨_,q,hd⟩
  ·exact⟨o,keep c o (I.cne x c e) hc nch ho (I.freeC x c e),hd⟩
 refine⟨I.ok,I.os,hg,⟨λb o e n hb hx=>?_,λb o e n hb hx=>?_,λb o e n hx=>?_,λb o e hx=>?_,λb xs e=>tups b xs (I.base.tups b xs e),λb o xs e=>frzs b o xs (I.base.frzs b o xs e),λb ps e=>?_⟩,?_,λx c e=>?_,?_,λx c e=>?_,λp hp=>?_,hok,I.len⟩
 ·exact keep b o (neL b o e) hb (neC b o e hx) (I.base.keep b o e n hb hx) (I.base.free b o e n hx)
 ·obtain⟨sl,e1⟩:=I.base.slot b o e n hb hx;obtain⟨sl',e2⟩:=slot b _ (neL b o e) hb (neC b o e hx) e1 (I.base.free b o e n hx);exact⟨sl',e2⟩
 ·obtain⟨o',e1⟩:=I.base.there b o e hx;exact free b o' (neC b o e hx) e1 (I.base.free b o e n hx)
 ·obtain⟨o',e1⟩:=I.base.there b o e hx;exact there b o' (neC b o e hx) e1
 ·obtain⟨m1,e1⟩:=I.base.tbls b ps e;obtain⟨m2,e2⟩:=tbls b _ e1;exact⟨m1++m2,by rw [e2,Array.append_assoc]⟩
 ·obtain⟨m,hn,hl⟩:=I.loc;refine⟨m,ns m hn,λi x v e1 e2 e3=>?_⟩;obtain⟨u,r,l⟩:=hl i x v e1 e2 e3;refine⟨u,r,?_⟩;rcases l with l|⟨k,c,e,z⟩
  ·exact .inl l
  ·exact .inr ⟨k,c,e,cellK x c e _ z⟩
 ·obtain⟨v,z⟩:=I.cell x c e;exact⟨v,cellK x c e v z⟩
 ·obtain⟨m,⟨o,_,_,ho,_⟩,_⟩:=I.loc;exact free _ o (λz=>(hch _ z).2.1 rfl) ho I.free
 ·obtain⟨v,o,ho,hd⟩:=I.cell x c e;exact free c o (λz=>(hch c z).2.2.1 x c e rfl) ho (I.freeC x c e)
 ·obtain⟨e,n,ne,nf,d⟩:=I.pin p hp;have nch:p.1 ∉ ch:=λz=>(hch p.1 z).2.2.2 p hp rfl;exact⟨keep p.1 p.2 ne nf nch e n,free p.1 p.2 nch e n,ne,nf,d⟩
theorem Inv.un{t':Nat}(I:Inv X pins σ H s)(u:Un X.fs [] H H' s.heap h')(hok:HOk X.prog X.w H' h'):Inv X pins σ H' { s with heap:=h',toks:=t' }:=by
 obtain⟨m,⟨o,es,ep,ho,r⟩,_⟩:=id I.loc;obtain⟨sl,hL⟩:=u.any ho I.free (by simp);exact I.step (g':=s.gens) (d':=s.drawn) (ch:=[]) (λ_ z=>nomatch z) (λb o _ hb _ e n=>u.keep b o e n hb (by simp)) (λb o _ hb _ e n=>u.slot b o e n hb (by simp)) (λb o _ e n=>u.free b o e n (by simp)) (λb o _ e=>u.there b o e (by simp)) u.tups u.frzs u.tbls (λm' hm=>by
  obtain⟨o',es',ep',ho',r'⟩:=hm;rw [ho] at ho';cases ho';exact⟨_,es',ep',hL,r'⟩) hok I.bare
theorem Inv.call{g':Array GenState}{t':Nat}{d':Drawn}{ch:List Addr}(I:Inv X pins σ H s)(u:Un (zX X.stack) ch H H' s.heap h')(hok:HOk X.prog X.w H' h')(hg:AllBare g')
  (hch:∀ b∈ch,(b∈X.ex\/X.s₀.heap.objs.size<=b)/\b≠X.env.locals/\(∀ x c,X.env.cells.lookup x=some c->c≠b)/\∀ p∈X.pn++pins,p.1≠b) :
  Inv X pins σ H' { s with heap:=h',gens:=g',drawn:=d',toks:=t' }:=by
 obtain⟨m,⟨o,es,ep,ho,r⟩,_⟩:=id I.loc;obtain⟨sl,hL⟩:=u.any ho I.free λz=>(hch _ z).2.1 rfl;exact I.step (ch:=ch) hch (λb o hL hb hc e n=>u.keep b o e n (λz=>(am.mp (I.stkSub b z)).elim hL hb) hc) (λb o _ _ hc e n=>u.any e n hc) (λb o hc e n=>u.free b o e n hc) (λb o hc e=>u.there b o e hc) u.tups u.frzs u.tbls (λm' hm=>by
  obtain⟨o',es',ep',ho',r'⟩:=hm;rw [ho] at ho';cases ho';exact⟨_,es',ep',hL,r'⟩) hok hg
theorem Inv.turned{t':Nat}{it:Addr}(I:Inv X pins σ H s)(k:∀ b o,b≠it->s.heap.get? b=some o->h'.get? b=some o)(hn:H it=none)(hL:it≠X.env.locals)
  (h1:it∈X.ex\/X.s₀.heap.objs.size<=it) (h2:∀ x c,X.env.cells.lookup x=some c->c≠it) (h3:∀ p∈X.pn++pins,p.1≠it):Inv X pins σ H { s with heap:=h',toks:=t' }:=by
 have nit:∀ b u,H b=some u->b≠it:=λb u e z=>by rw [z,hn] at e;cases e
 refine I.step (g':=s.gens) (d':=s.drawn) (ch:=[it]) (λb hb=>?_) (λb o _ _ hc e _=>k b o (λz=>hc (by simp [z])) e) (λb o _ _ hc e _=>⟨o.slots,k b o (λz=>hc (by simp [z])) e⟩) (λ_ _ _ _ n=>n)
  (λb o hc e=>⟨o,k b o (λz=>hc (by simp [z])) e⟩) (λ_ _ e=>e) (λ_ _ _ e=>e) (λb ps e=>⟨#[],by rw [e];simp⟩) (λm hm=>?_) (λb u e=>?_) I.bare
 ·have e:b=it:=by simpa using hb
  subst e;exact⟨h1,hL,h2,h3⟩
 ·obtain⟨o,es,ep,ho,r⟩:=hm;exact⟨o,es,ep,k _ o (Ne.symm hL) ho,r⟩
 ·refine (I.hok b u e).stay (λc v hc q=>k c v ?_ q) (λ_ q=>q) λ_ _ q=>q;rcases hc with z|z
  ·rw [z];exact nit b u e
  ·exact nit c _ z
theorem Inv.tok(I:Inv X pins σ H s)(t:Nat):Inv X pins σ H { s with toks:=t }:=I.un (h':=s.heap) (t':=t) Un.refl I.hok
theorem Inv.kept{t':Nat}(I:Inv X pins σ H s)(k:∀ b u,s.heap.get? b=some u->h'.get? b=some u):Inv X pins σ H { s with heap:=h',toks:=t' }:=I.un (Un.kept k) (I.hok.kept k)
theorem Inv.laid{a:Addr}{o:HO}{t':Nat}(I:Inv X pins σ H s)(k:∀ b u,s.heap.get? b=some u->h'.get? b=some u)(hp:s.heap.objs.size<=a)(new:ObjOk X.prog X.w (rD H a o) h' a o) :
  Inv X pins σ (rD H a o) { s with heap:=h',toks:=t' }:=I.un (Un.laid k hp (I.hok.fresh hp)) (I.hok.laid k hp new)
theorem Inv.write{x e:Addr}{o:HO}{t':Nat}(I:Inv X pins σ H s)(mu:JQ (H x))(he:e=x\/H e=some (.own x))(k:∀ b u,b≠e->s.heap.get? b=some u->h'.get? b=some u)(heo:∃ u,h'.get? e=some u)
  (new:ObjOk X.prog X.w (rD H x o) h' x o):Inv X pins σ (rD H x o) { s with heap:=h',toks:=t' }:=I.un (Un.write mu he k heo) (I.hok.write mu he k heo new)
theorem Inv.pins_of{pins':List (Addr×Obj)}(I:Inv X pins σ H s)(h:∀ p∈pins',s.heap.get? p.1=some p.2/\H p.1=none/\p.1≠X.env.locals/\p.1 ∉ X.fs/\∀ v,p.2.data ≠ .cell v):Inv X pins' σ H s :=
 ⟨I.ok,I.os,I.bare,I.base,I.loc,I.cell,I.free,I.freeC,λp hp=>(bz.mp hp).elim (λz=>I.pin p (gq _ z)) (h p),I.hok,I.len⟩
theorem xz{N:List Str}(hN:N.Nodup){i j:Nat}{x:Str}(a:N[i]? = some x)(b:N[j]? = some x):i=j:=by
 obtain⟨h1,e1⟩:=aj.mp a;obtain⟨h2,e2⟩:=aj.mp b;exact (List.getElem_inj hN).mp (e1.trans e2.symm)
theorem vO{M:Model}{A:Around}{E:Value->Shared->Prop}{i:Nat}{x:Str}{v:V}{u:Value}{Q:Unit->Shared->Prop}(I:Inv X pins σ H s)(hN:X.N.Nodup)(hi:X.N[i]? = some x)(hx:Bc X.env.scope x)(r:RelV v u)
  (h:∀ s',Inv X pins (σ.set i (some v)) H s'->(∃ a,Heap.SameBut a s.heap s'.heap/\(a=X.env.locals\/X.env.cells.lookup x=some a))->Q () s') (hf:X.fn x=true\/X.env.scope.names.lookup x=some .local:=by first|exact .inl rfl|exact .inr rfl|assumption):wpAny M A (storeName X.env x u) Q E s:=by
 obtain⟨m,hn,hl⟩:=id I.loc;have hcls:(X.env.scope.kind == .class || (X.env.scope.kind == .module && X.env.locals != X.env.globals))=false:=by rw [I.ok.kind];rfl
 have hiσ:i<σ.length:=by rw [I.len];exact (aj.mp hi).1
 have cne:=I.cne;have tracked:∀{a:Addr} {h':Heap},(∃ o,s.heap.get? a=some o/\H a=none)->Heap.SameBut a s.heap h'->HOk X.prog X.w H h':=λ{a h'} ha hs b ob e=>by
  obtain⟨_,_,hfree⟩:=ha;refine (I.hok b ob e).stay (λc w' hc q=>(hs.2 c ?_).trans q) (λ_ q=>q) λ_ _ q=>q;rintro rfl;rcases hc with rfl|hc
  ·rw [hfree] at e;cases e
  ·rw [hfree] at hc;cases hc
 rcases hx with hk|hk
 ·refine wpAny_storeName_local hk hn (λh' hn' hs=>?_) hcls;obtain⟨oL,_,_,hoL,_⟩:=id hn;refine h _ ⟨I.ok,I.os,I.bare,⟨λb o e n hb hx=>?_,λb o e n hb hx=>?_,I.base.free,λb o e hx=>?_,I.base.tups,I.base.frzs,I.base.tbls⟩,⟨_,hn',λj y v' e1 e2 e3=>?_⟩,λy c e=>?_,I.free,I.freeC,λp hp=>?_,tracked ⟨oL,hoL,I.free⟩ hs,by simpa using I.len⟩ ⟨_,hs,.inl rfl⟩
  ·exact (hs.2 b (aQ (aD (ηL e) I.ok.above))).trans (I.base.keep b o e n hb hx)
  ·obtain⟨sl,e1⟩:=I.base.slot b o e n hb hx;exact⟨sl,(hs.2 b (aQ (aD (ηL e) I.ok.above))).trans e1⟩
  ·obtain⟨o',e1⟩:=I.base.there b o e hx;exact⟨o',(hs.2 b (aQ (aD (ηL e) I.ok.above))).trans e1⟩
  ·by_cases hj:j=i
   ·subst hj;rw [hi] at e1;cases e1;rw [dZ hiσ] at e2;cases e2;exact⟨u,r,.inl ⟨hk,by simp⟩⟩
   ·rw [aF (Ne.symm hj)] at e2;obtain⟨u',r',q⟩:=hl j y v' e1 e2 e3;refine⟨u',r',?_⟩;rcases q with⟨k,e⟩|⟨k,c,e,z⟩
    ·refine .inl ⟨k,?_⟩;have:y≠x:=λe=>hj (xz hN e1 (e ▸ hi));simp [this,e]
    ·exact .inr ⟨k,c,e,z.sameBut hs (cne y c e)⟩
  ·obtain⟨w',z⟩:=I.cell y c e;exact⟨w',z.sameBut hs (cne y c e)⟩
  ·obtain⟨e,n,ne,nf,d⟩:=I.pin p hp;exact⟨(hs.2 p.1 ne).trans e,n,ne,nf,d⟩
 ·have hfn:X.fn x=true:=by
   rcases hf with z|z
   ·exact z
   ·rw [z] at hk;cases hk
  obtain⟨c,hc⟩:=I.ok.has x (.inl hk);obtain⟨w',z⟩:=I.cell x c hc;refine wpAny_storeName_cell I.ok.kind hk hc z (λh' hc' hs=>?_);obtain⟨oc,hoc,hocd⟩:=id z;refine h { s with heap:=h' } ⟨I.ok,I.os,I.bare,⟨λb o e n hb hx=>?_,λb o e n hb hx=>?_,I.base.free,λb o e hx=>?_,I.base.tups,I.base.frzs,I.base.tbls⟩,⟨m,hn.sameBut hs (Ne.symm (cne x c hc)),λj y v' e1 e2 e3=>?_⟩,λy c' e=>?_,I.free,I.freeC,λp hp=>?_,tracked ⟨oc,hoc,I.freeC x c hc⟩ hs,by simpa using I.len⟩ ⟨c,hs,.inr hc⟩
  ·exact (hs.2 b (aQ (aD (ηL e) (I.ok.cab x c hfn hc)))).trans (I.base.keep b o e n hb hx)
  ·obtain⟨sl,e1⟩:=I.base.slot b o e n hb hx;exact⟨sl,(hs.2 b (aQ (aD (ηL e) (I.ok.cab x c hfn hc)))).trans e1⟩
  ·obtain⟨o',e1⟩:=I.base.there b o e hx;exact⟨o',(hs.2 b (aQ (aD (ηL e) (I.ok.cab x c hfn hc)))).trans e1⟩
  ·by_cases hj:j=i
   ·subst hj;rw [hi] at e1;cases e1;rw [dZ hiσ] at e2;cases e2;exact⟨u,r,.inr ⟨.inl hk,c,hc,hc'⟩⟩
   ·rw [aF (Ne.symm hj)] at e2;obtain⟨u',r',q⟩:=hl j y v' e1 e2 e3;refine⟨u',r',?_⟩;rcases q with q|⟨k,c',e,z'⟩
    ·exact .inl q
    ·refine .inr ⟨k,c',e,z'.sameBut hs ?_⟩;rintro rfl;exact hj (xz hN e1 (I.ok.inj _ _ _ e hc ▸ hi))
  ·by_cases hcc:c'=c
   ·subst hcc;exact⟨_,hc'⟩
   ·obtain⟨w2,z2⟩:=I.cell y c' e;exact⟨w2,z2.sameBut hs hcc⟩
  ·obtain⟨e,n,ne,nf,d⟩:=I.pin p hp;refine⟨(hs.2 p.1 ?_).trans e,n,ne,nf,d⟩;intro q;rw [q,hoc] at e;have q':oc=p.2:=Option.some.inj e;exact d w' (by rw [← q'];exact hocd)
theorem sX{M:Model}{A:Around}{E:Value->Shared->Prop}{i:Nat}{x:Str}{v:V}{u:Value}{Q:Unit->Shared->Prop}(I:Inv X pins σ H s)(hN:X.N.Nodup)(hi:X.N[i]? = some x)(hx:Bc X.env.scope x)(r:RelV v u)
  (h:∀ s',Inv X pins (σ.set i (some v)) H s'->Q () s') (hf:X.fn x=true\/X.env.scope.names.lookup x=some .local:=by first|exact .inl rfl|exact .inr rfl|assumption):wpAny M A (storeName X.env x u) Q E s :=
 vO I hN hi hx r (λs' I' _=>h s' I') hf
theorem Inv.call'{s':Shared}{ch:List Addr}(I:Inv X pins σ H s)(ho:s'.os=s.os)(u:Un (zX X.stack) ch H H' s.heap s'.heap)(hok:HOk X.prog X.w H' s'.heap)(hg:AllBare s'.gens)
  (hch:∀ b∈ch,(b∈X.ex\/X.s₀.heap.objs.size<=b)/\b≠X.env.locals/\(∀ x c,X.env.cells.lookup x=some c->c≠b)/\∀ p∈X.pn++pins,p.1≠b):Inv X pins σ H' s':=by
 obtain⟨h',g',d',t',o'⟩:=s';have e:o'=s.os:=ho;subst e;exact I.call (g':=g') (t':=t') (d':=d') u hok hg hch
end
abbrev XK:=Value->Option Addr->Hp->Prop
abbrev St:=List (Option V)
abbrev VK:=V->Hp->Prop
abbrev TE:=St->Hp->VK->Prop
abbrev TT:=St->Hp->(Bool->Hp->Prop)->Prop
abbrev TA:=St->Hp->(List V->Hp->Prop)->Prop
structure Ends where
 nx:St->Hp->Prop
 rt:VK
 bk:St->Hp->Prop:=λ_ _=>False
 ct:St->Hp->Prop:=λ_ _=>False
abbrev TS:=Ends->St->Hp->Prop
def EP(X:Cx)(pins:List (Addr×Obj))(σ:St)(Q:VK)(u:Value)(s':Shared):Prop:=∃ v H',Inv X pins σ H' s'/\RelV v u/\Q v H'
def TP(X:Cx)(pins:List (Addr×Obj))(σ:St)(Q:Bool->Hp->Prop)(b:Bool)(s':Shared):Prop:=∃ H',Inv X pins σ H' s'/\Q b H'
def AP(X:Cx)(pins:List (Addr×Obj))(σ:St)(Q:List V->Hp->Prop)(us:List Value)(s':Shared):Prop:=∃ vs H',Inv X pins σ H' s'/\Vals vs us/\Q vs H'
def SP(X:Cx)(pins:List (Addr×Obj))(D:Ends)(f:Flow)(s':Shared):Prop :=
 match f with
 | .next=>∃ σ' H',Inv X pins σ' H' s'/\D.nx σ' H'
 | .brk=>∃ σ' H',Inv X pins σ' H' s'/\D.bk σ' H'
 | .cont=>∃ σ' H',Inv X pins σ' H' s'/\D.ct σ' H'
 | .ret u=>∃ v σ' H',Inv X pins σ' H' s'/\RelV v u/\D.rt v H'
def PE(X:Cx)(e:Expr)(t:TE):Prop :=
 ∀(pins:List (Addr×Obj)) (s:Shared) (σ:St) (H:Hp) (Q:VK),Inv X pins σ H s->t σ H Q->wpAny (model X.prog X.w) X.A (eval e X.env) (EP X pins σ Q) X.xe s
def PT(X:Cx)(e:Expr)(t:TT):Prop :=
 ∀(pins:List (Addr×Obj)) (s:Shared) (σ:St) (H:Hp) (Q:Bool->Hp->Prop),Inv X pins σ H s->t σ H Q->wpAny (model X.prog X.w) X.A (isTrue e X.env (eval e X.env)) (TP X pins σ Q) X.xe s
def PW(X:Cx)(e:Expr)(t:TT):Prop :=
 ∀(whole:Sem Value) (pins:List (Addr×Obj)) (s:Shared) (σ:St) (H:Hp) (Q:Bool->Hp->Prop),Inv X pins σ H s->t σ H Q->wpAny (model X.prog X.w) X.A (isTrue e X.env whole) (TP X pins σ Q) X.xe s
theorem PW.pt{X:Cx}{e:Expr}{t:TT}(h:PW X e t):PT X e t:=h _
def PA(X:Cx)(es:List Expr)(t:TA):Prop :=
 ∀(pos:Pos) (pins:List (Addr×Obj)) (s:Shared) (σ:St) (H:Hp) (Q:List V->Hp->Prop),Inv X pins σ H s->t σ H Q->wpAny (model X.prog X.w) X.A (spliced (backTo pos (starEach es X.env))) (AP X pins σ Q) X.xe s
def PS(X:Cx)(st:Stmt)(t:TS):Prop :=
 ∀(pins:List (Addr×Obj)) (s:Shared) (σ:St) (H:Hp) (D:Ends),Inv X pins σ H s->t D σ H->wpAny (model X.prog X.w) X.A (exec st X.env) (SP X pins D) X.xe s
def PSs(X:Cx)(st:List Stmt)(t:TS):Prop :=
 ∀(pins:List (Addr×Obj)) (s:Shared) (σ:St) (H:Hp) (D:Ends),Inv X pins σ H s->t D σ H->wpAny (model X.prog X.w) X.A (execs st X.env) (SP X pins D) X.xe s
theorem q8{α:Type}{t:Sem α}{Q Q':α->Shared->Prop}{M:Model}{A:Around}{E:Value->Shared->Prop}{s:Shared}(h:wpAny M A t Q E s)(hQ:∀ a s,Q a s->Q' a s):wpAny M A t Q' E s:=wpAny_mono h hQ λ_ _ x=>x
end L2
namespace L2
open PySem PySem.Spec PyProof.Rows
section
variable{X:Cx}
def t6(i:Nat):TE:=λσ H Q=>∃ v,σ[i]? = some (some v)/\Q v H
def tC(v:V):TE:=λ_ H Q=>Q v H
theorem yp{i:Nat}{x:Str}{pos:Pos}(hN:X.N[i]? = some x)(hv:FJ X.env.scope x)(hd:(x == ("__debug__" : Str))=false:=by decide)(hcd:(x == ("__classdict__" : Str))=false:=by decide):PE X (.Name x pos) (t6 i):=by
 intro pins s σ H Q I h;obtain⟨v,e,h⟩:=h;obtain⟨m,hn,hl⟩:=I.loc;obtain⟨u,r,l⟩:=hl i x v hN e hv;have fin:EP X pins σ Q u s:=⟨v,H,I,r,h⟩;rcases l with⟨hk,hm⟩|⟨hk,c,hc,hcell⟩
 ·exact wpAny_Name (wpAny_loadName_local I.ok.kind hk hn hm fin) hd
 ·rcases hk with hk|hk
  ·exact wpAny_Name (wpAny_loadName_cell I.ok.kind hk hc hcell fin) hd
  ·exact wpAny_Name (wpAny_loadName_free I.ok.kind hk hc hcell fin hcd) hd
theorem qL{i j pos}:PE X (.Constant (.int i) j pos) (tC (.int i)):=λ_ _ _ H _ I h=>wpAny_Constant_int ⟨.int i,H,I.tok _,⟨_,rfl⟩,h⟩
theorem B5{b j pos}:PE X (.Constant (.bool b) j pos) (tC (.bl b)):=λ_ _ _ H _ I h=>Constant_bool ⟨.bl b,H,I,rfl,h⟩
theorem GA{j pos}:PE X (.Constant .none j pos) (tC .non):=λ_ _ _ H _ I h=>Constant_none ⟨.non,H,I,rfl,h⟩
theorem Gy{x j pos}:PE X (.Constant (.str x) j pos) (tC (.str x)):=λ_ _ _ H _ I h=>Calls.Constant_str ⟨.str x,H,I.tok _,⟨_,rfl⟩,h⟩
def Gl(X:Cx)(x:Str):Prop:=X.env.kindOf x=some .globalImplicit
theorem zK{E:Value->Shared->Prop}{pins:List (Addr×Obj)}{s:Shared}{σ:St}{H:Hp}{x:Str}{u:Value}{pos:Pos}{Q:Value->Shared->Prop}(I:Inv X pins σ H s)(hg:Gl X x)(hm:X.mg x=some u)(h:Q u s)
  (hd:(x == ("__debug__" : Str))=false:=by decide):wpAny (model X.prog X.w) X.A (eval (.Name x pos) X.env) Q E s :=
 Calls.Name_function_global I.ok.kind hg (Calls.loadGlobal_global (by rw [I.ok.glob];exact I.mod.glob.keeps I.bk) hm h) hd
theorem rZ{E:Value->Shared->Prop}{pins:List (Addr×Obj)}{s:Shared}{σ:St}{H:Hp}{x:Str}{u:Value}{pos:Pos}{Q:Value->Shared->Prop}(I:Inv X pins σ H s)(hg:Gl X x)(hm:X.mg x=none)(hv:bootBuiltins x=some u)(h:Q u s)
  (hn:x ≠ "__name__" := by decide) (hd:(x == ("__debug__" : Str))=false:=by decide):wpAny (model X.prog X.w) X.A (eval (.Name x pos) X.env) Q E s:=by
 obtain⟨mb,h1,h2⟩:=I.mod.blt;exact Calls.Name_function_global I.ok.kind hg (Calls.loadGlobal_builtin (by rw [I.ok.glob];exact I.mod.glob.keeps I.bk) hm (by rw [I.ok.blt];exact h1.keeps I.bk) ((h2 x hn).trans hv) h) hd
theorem D6{x:Str}{v:V}{u:Value}{pos:Pos}(hg:Gl X x)(hm:X.mg x=some u)(r:RelV v u)(hd:(x == ("__debug__" : Str))=false:=by decide):PE X (.Name x pos) (tC v) :=
 λ_ _ _ H _ I h=>zK I hg hm ⟨v,H,I,r,h⟩ hd
theorem sg{x:Str}{v:V}{u:Value}{pos:Pos}(hg:Gl X x)(hm:X.mg x=none)(hv:bootBuiltins x=some u)(r:RelV v u)(hn:x ≠ "__name__" := by decide)(hd:(x == ("__debug__" : Str))=false:=by decide):PE X (.Name x pos) (tC v) :=
 λ_ _ _ H _ I h=>rZ I hg hm hv ⟨v,H,I,r,h⟩ hn hd
def Lw(ta tb:TE)(k:Int->Int->Hp->Prop):St->Hp->Prop:=λσ H=>ta σ H λx H1=>tb σ H1 λy H2=>∃ i j,x = .int i/\y = .int j/\k i j H2
variable{a b:Expr}{ta tb:TE}{pos:Pos}
def Lu(p:Int->Int->Bool)(ta tb:TE):TE:=λσ H Q=>Lw ta tb (λi j H2=>Q (.bl (p i j)) H2) σ H
variable{tA tB':TT}{rest:List Expr}
def Ij(t u:TT):TT:=λσ H Q=>t σ H λc H1=>if c=true then u σ H1 Q else Q false H1
def KU(t u:TT):TT:=λσ H Q=>t σ H λc H1=>if c=true then Q true H1 else u σ H1 Q
def J1(t:TT):TT:=λσ H Q=>t σ H λc H1=>Q (!c) H1
theorem zo(ha:PT X a tA):PW X (.BoolOp .And [a] pos) tA:=by
 intro wh pins s σ H Q I h;refine isTrue_and (q8 (ha pins s σ H Q I h) λc s1 e=>?_);cases c with
 | true=>exact isTrue_and_nil e
 | false=>exact e
theorem Gn(ha:PT X a tA):PW X (.BoolOp .Or [a] pos) tA:=by
 intro wh pins s σ H Q I h;refine isTrue_or (q8 (ha pins s σ H Q I h) λc s1 e=>?_);cases c with
 | false=>exact isTrue_or_nil e
 | true=>exact e
theorem BO(ha:PT X a tA)(hb:PW X (.BoolOp .And (b::rest) pos) tB'):PW X (.BoolOp .And (a::b::rest) pos) (Ij tA tB'):=by
 intro wh pins s σ H Q I h;refine isTrue_and (q8 (ha pins s σ H _ I h) λc s1 ⟨H1,I1,q1⟩=>?_);cases c with
 | true=>exact hb wh pins s1 σ H1 Q I1 q1
 | false=>exact⟨H1,I1,q1⟩
theorem IC(ha:PT X a tA)(hb:PW X (.BoolOp .Or (b::rest) pos) tB'):PW X (.BoolOp .Or (a::b::rest) pos) (KU tA tB'):=by
 intro wh pins s σ H Q I h;refine isTrue_or (q8 (ha pins s σ H _ I h) λc s1 ⟨H1,I1,q1⟩=>?_);cases c with
 | true=>exact⟨H1,I1,q1⟩
 | false=>exact hb wh pins s1 σ H1 Q I1 q1
theorem Gq(ha:PT X a tA):PT X (.UnaryOp .Not a pos) (J1 tA):=by
 intro pins s σ H Q I h;exact isTrue_not (ha pins s σ H (λc H1=>Q (!c) H1) I h)
def Ii(ta tb:TE):TE:=λσ H Q=>ta σ H λx H1=>∃ c,x = .bl c/\if c=true then tb σ H1 Q else Q (.bl false) H1
def J0(ta tb:TE):TE:=λσ H Q=>ta σ H λx H1=>∃ c,x = .bl c/\if c=true then Q (.bl true) H1 else tb σ H1 Q
def Ie(ta:TE):TE:=λσ H Q=>ta σ H λx H1=>∃ c,x = .bl c/\Q (.bl (!c)) H1
theorem yq{op}{t:TE}(h:PE X a t):PE X (.BoolOp op [a] pos) t:=λpins s σ H Q I hw=>BoolOp_one (h pins s σ H Q I hw)
theorem yu(ha:PE X a ta)(hb:PE X (.BoolOp .And (b::rest) pos) tb):PE X (.BoolOp .And (a::b::rest) pos) (Ii ta tb):=by
 intro pins s σ H Q I h;refine BoolOp_and (q8 (ha pins s σ H _ I h) λv s1 ⟨x,H1,I1,r1,q1⟩=>?_);obtain⟨c,rfl,q1⟩:=q1;cases r1;refine wpAny_truthy_bool ?_;cases c with
 | true=>exact hb pins s1 σ H1 Q I1 q1
 | false=>exact⟨.bl false,H1,I1,rfl,q1⟩
theorem ID(ha:PE X a ta)(hb:PE X (.BoolOp .Or (b::rest) pos) tb):PE X (.BoolOp .Or (a::b::rest) pos) (J0 ta tb):=by
 intro pins s σ H Q I h;refine BoolOp_or (q8 (ha pins s σ H _ I h) λv s1 ⟨x,H1,I1,r1,q1⟩=>?_);obtain⟨c,rfl,q1⟩:=q1;cases r1;refine wpAny_truthy_bool ?_;cases c with
 | false=>exact hb pins s1 σ H1 Q I1 q1
 | true=>exact⟨.bl true,H1,I1,rfl,q1⟩
theorem Gz(ha:PE X a ta):PE X (.UnaryOp .Not a pos) (Ie ta):=by
 intro pins s σ H Q I h;refine UnaryOp_ (q8 (ha pins s σ H _ I h) λv s1 ⟨x,H1,I1,r1,q1⟩=>?_);obtain⟨c,rfl,q1⟩:=q1;cases r1;exact not_of (wpAny_truthy_bool ⟨.bl (!c),H1,I1,rfl,q1⟩)
def Ls(t:TT)(ta tb:TE):TE:=λσ H Q=>t σ H λc H1=>if c=true then ta σ H1 Q else tb σ H1 Q
theorem BY{c:Expr}(hc:PT X c tA)(ha:PE X a ta)(hb:PE X b tb):PE X (.IfExp c a b pos) (Ls tA ta tb):=by
 intro pins s σ H Q I h;refine wpAny_IfExp (q8 (hc pins s σ H _ I h) λd s1 ⟨H1,I1,q1⟩=>?_);cases d with
 | true=>exact ha pins s1 σ H1 Q I1 q1
 | false=>exact hb pins s1 σ H1 Q I1 q1
end
end L2
namespace L2
open PySem PySem.Spec PyProof.Rows
def SqL(K:Frag)(H:Hp)(a:Addr)(xs:List V):Prop :=
 Rd H a (.lst xs) \/
  ∃(o:Obj) (its:Array Value) (n:Nat),K.lookup a=some o/\o.cls = .type "list" /\ o.dict=none/\o.data = .seq its n/\its.size<=sizeLine/\Vals xs its.toList
def SqT(K:Frag)(H:Hp)(a:Addr)(xs:List V):Prop :=
 Rd H a (.tup xs) \/
  ∃(o:Obj) (its:Array Value) (n:Nat),K.lookup a=some o/\o.cls = .type "tuple" /\ o.data = .seq its n/\its.size<=sizeLine/\Vals xs its.toList
def KJ:Value->Option V
 | .none=>some .non
 | .bool b=>some (.bl b)
 | .int i _=>some (.int i)
 | .str x _=>some (.str x)
 | .bytes b _=>some (.byt b)
 | .float b _=>some (.flt b)
 | .ref a=>some (.ref a)
 | .type n=>some (.ty n)
 | _=>none
theorem RelV.abs{x:V}{u:Value}(r:RelV x u):KJ u=some x:=by
 cases x with
 | non=>cases r;rfl
 | bl _=>cases r;rfl
 | int _=>obtain⟨t,rfl⟩:=r;rfl
 | str _=>obtain⟨t,rfl⟩:=r;rfl
 | byt _=>obtain⟨t,rfl⟩:=r;rfl
 | flt _=>obtain⟨t,rfl⟩:=r;rfl
 | ref _=>cases r;rfl
 | ty _=>cases r;rfl
theorem RelV.inj{x y:V}{u:Value}(r:RelV x u)(q:RelV y u):x=y:=Option.some.inj (r.abs.symm.trans q.abs)
theorem Vals.inj:∀{xs ys:List V} {us:List Value},Vals xs us->Vals ys us->xs=ys
 | _,_,_,.nil,.nil=>rfl
 | _,_,_,.cons r t,.cons r' t'=>by rw [r.inj r',Vals.inj t t']
section
variable{X:Cx}{pins:List (Addr×Obj)}{σ:St}{H:Hp}{s:Shared}{a:Addr}{xs ys:List V}
theorem SqL.of{K:Frag}(h:H a=some (.lst xs)):SqL K H a xs:=.inl (.inl h)
theorem SqT.of{K:Frag}(h:H a=some (.tup xs)):SqT K H a xs:=.inl (.inl h)
theorem Inv.list(I:Inv X pins σ H s)(h:SqL X.K H a xs):∃ its:List Value,Vals xs its/\PlainL s.heap a its.toArray/\xs.length<=sizeLine:=by
 rcases h with h|⟨o,its,n,hk,hc,hd,hs,hz,r⟩
 ·obtain⟨z,its,n,r,e⟩:=h.ok I.hok;exact⟨its,r,⟨_,n,e,rfl,rfl,rfl⟩,z⟩
 ·refine⟨its.toList,r,⟨o,n,I.kIn a o hk,hc,hd,by simpa using hs⟩,?_⟩;have e:=r.length;simp only [cr] at e;omega
theorem Inv.tuple(I:Inv X pins σ H s)(h:SqT X.K H a xs):∃ its:List Value,Vals xs its/\IsTup s.heap a its.toArray/\xs.length<=sizeLine:=by
 rcases h with h|⟨o,its,n,hk,hc,hs,hz,r⟩
 ·obtain⟨z,its,r,p⟩:=h.ok I.hok;exact⟨its,r,p,z⟩
 ·refine⟨its.toList,r,⟨o,I.kIn a o hk,hc,n,by simpa using hs⟩,?_⟩;have e:=r.length;simp only [cr] at e;omega
theorem Inv.list_inj(I:Inv X pins σ H s)(h:SqL X.K H a xs)(h':SqL X.K H a ys):xs=ys:=by
 obtain⟨its,r,⟨o,n,e,_,_,d⟩,_⟩:=I.list h;obtain⟨its',r',⟨o',n',e',_,_,d'⟩,_⟩:=I.list h';rw [e] at e';cases e';rw [d] at d';injection d' with d1 _;have:its=its':=by simpa using congrArg Array.toList d1
 subst this;exact r.inj r'
theorem Inv.tuple_inj(I:Inv X pins σ H s)(h:SqT X.K H a xs)(h':SqT X.K H a ys):xs=ys:=by
 obtain⟨its,r,⟨o,e,_,n,d⟩,_⟩:=I.tuple h;obtain⟨its',r',⟨o',e',_,n',d'⟩,_⟩:=I.tuple h';rw [e] at e';cases e';rw [d] at d';injection d' with d1 _;have:its=its':=by simpa using congrArg Array.toList d1
 subst this;exact r.inj r'
end
abbrev Cx.wish(X:Cx)(E:Value->Shared->Prop):Cx:={ X with xe:=E }
abbrev Cx.nox(X:Cx):Cx:=X.wish λ_ _=>False
theorem Cx.Ok.wish{X:Cx}(ok:X.Ok)(E:Value->Shared->Prop):(X.wish E).Ok :=
 ⟨ok.mod,ok.kind,ok.glob,ok.blt,ok.above,ok.inj,ok.has,ok.cab,ok.hd,ok.frames,ok.stk,ok.exf,ok.bs,ok.bsz,ok.noex,ok.exfs,ok.funs,ok.frf,ok.sr,ok.rn⟩
theorem Cx.Ok.unwish{X:Cx}{E:Value->Shared->Prop}(ok:(X.wish E).Ok):X.Ok :=
 ⟨ok.mod,ok.kind,ok.glob,ok.blt,ok.above,ok.inj,ok.has,ok.cab,ok.hd,ok.frames,ok.stk,ok.exf,ok.bs,ok.bsz,ok.noex,ok.exfs,ok.funs,ok.frf,ok.sr,ok.rn⟩
section
variable{X:Cx}{pins:List (Addr×Obj)}{σ:St}{H:Hp}{s:Shared}{E:Value->Shared->Prop}
theorem Inv.wish(I:Inv X pins σ H s)(E:Value->Shared->Prop):Inv (X.wish E) pins σ H s:=⟨I.ok.wish E,I.os,I.bare,I.base,I.loc,I.cell,I.free,I.freeC,I.pin,I.hok,I.len⟩
theorem Inv.unwish(I:Inv (X.wish E) pins σ H s):Inv X pins σ H s:=⟨I.ok.unwish,I.os,I.bare,I.base,I.loc,I.cell,I.free,I.freeC,I.pin,I.hok,I.len⟩
theorem SP.unwish{D:Ends}{f:Flow}{s':Shared}(h:SP (X.wish E) pins D f s'):SP X pins D f s':=by
 cases f with
 | next=>obtain⟨σ',H',I,q⟩:=h;exact⟨σ',H',I.unwish,q⟩
 | brk=>obtain⟨σ',H',I,q⟩:=h;exact⟨σ',H',I.unwish,q⟩
 | cont=>obtain⟨σ',H',I,q⟩:=h;exact⟨σ',H',I.unwish,q⟩
 | ret u=>obtain⟨v,σ',H',I,r,q⟩:=h;exact⟨v,σ',H',I.unwish,r,q⟩
theorem PSs.nox{st:List Stmt}{t:TS}(h:PSs X.nox st t):PSs X st t:=λpins s σ H D I hw =>
 wpAny_mono (h pins s σ H D (I.wish _) hw) (λ_ _ q=>q.unwish) λ_ _ z=>False.elim z
end
section
variable{X:Cx}{st:Stmt}{rest:List Stmt}{t u:TS}{e:Expr}{te:TE}{pos:Pos}
def E4:TS:=λD σ H=>D.nx σ H
def Ia(t u:TS):TS:=λD σ H=>t { D with nx:=u D } σ H
theorem pss_nil:PSs X [] E4:=λ_ _ σ H _ I h=>wpAny_execs_nil ⟨σ,H,I,h⟩
theorem rR(h1:PS X st t)(h2:PSs X rest u):PSs X (st::rest) (Ia t u):=by
 intro pins s σ H D I h;refine wpAny_execs_cons (q8 (h1 pins s σ H { D with nx:=u D } I h) λf s1 q=>?_);cases f with
 | next =>
  obtain⟨σ',H',I',q⟩:=q;exact h2 pins s1 σ' H' D I' q
 | ret v=>exact q
 | brk=>exact q
 | cont=>exact q
theorem rL(h1:PS X st t):PSs X [st] t:=by
 intro pins s σ H D I h;refine wpAny_execs_cons (q8 (h1 pins s σ H D I h) λf s1 q=>?_);cases f with
 | next=>exact wpAny_execs_nil q
 | ret v=>exact q
 | brk=>exact q
 | cont=>exact q
def FV:TS:=λD σ H=>D.bk σ H
theorem ps_pass:PS X (.Pass pos) E4:=λ_ _ σ H _ I h=>wpAny_Pass ⟨σ,H,I,h⟩
theorem ps_break:PS X (.Break pos) FV:=λ_ _ σ H _ I h=>wpAny_Break ⟨σ,H,I,h⟩
theorem Inv.quiet{pins:List (Addr×Obj)}{σ:St}{H:Hp}{s:Shared}(I:Inv X pins σ H s):interactive X.env=false:=by simp [interactive,I.ok.kind]
def Ig(te:TE):TS:=λD σ H=>te σ H λ_ H1=>D.nx σ H1
theorem zq(he:PE X e te)(hs:swapsWith e none pos.line X.env=pure false:=by rfl):PS X (.Expr e pos) (Ig te):=by
 intro pins s σ H D I h;exact wpAny_Expr_any (q8 (he pins s σ H _ I h) λv s1 ⟨x,H1,I1,r1,q1⟩=>⟨σ,H1,I1,q1⟩) I.quiet hs
def JZ(te:TE):TS:=λD σ H=>te σ H D.rt
theorem sZ(he:PE X e te):PS X (.Return (some e) pos) (JZ te):=by
 intro pins s σ H D I h;exact wpAny_Return_some (q8 (he pins s σ H _ I h) λv s1 ⟨x,H1,I1,r1,q1⟩=>⟨x,σ,H1,I1,r1,q1⟩)
def Ib:TS:=λD _ H=>D.rt .non H
theorem ps_retN:PS X (.Return none pos) Ib:=λ_ _ σ H _ I h=>wpAny_Return_none ⟨.non,σ,H,I,rfl,h⟩
def J3(c:TT)(t u:TS):TS:=λD σ H=>c σ H λb H1=>if b=true then t D σ H1 else u D σ H1
theorem vd{c:Expr}{a b:List Stmt}{tc:TT}(hc:PT X c tc)(ha:PSs X a t)(hb:PSs X b u):PS X (.If c a b pos) (J3 tc t u):=by
 intro pins s σ H D I h;refine wpAny_If (q8 (hc pins s σ H _ I h) λd s1 ⟨H1,I1,q1⟩=>?_);cases d with
 | true=>exact ha pins s1 σ H1 D I1 q1
 | false=>exact hb pins s1 σ H1 D I1 q1
end
abbrev TG:=V->St->Hp->(St->Hp->Prop)->Prop
abbrev DF:=List V->St->Hp->(St->Hp->Prop)->Prop
def PG(X:Cx)(target:Expr)(t:TG):Prop :=
 ∀(pins:List (Addr×Obj)) (s:Shared) (σ:St) (H:Hp) (v:V) (u:Value) (Q:St->Hp->Prop),Inv X pins σ H s->RelV v u->t v σ H Q ->
  wpAny (model X.prog X.w) X.A (assign target X.env u) (λ_ s'=>∃ σ' H',Inv X pins σ' H' s'/\Q σ' H') X.xe s
def HQ(X:Cx)(ts:List Expr)(t:DF):Prop :=
 ∀(pins:List (Addr×Obj)) (s:Shared) (σ:St) (H:Hp) (vs:List V) (us:List Value) (Q:St->Hp->Prop),Inv X pins σ H s->Vals vs us->t vs σ H Q ->
  wpAny (model X.prog X.w) X.A (assignInOrder ((assignEach ts X.env).map (·.2)) us) (λ_ s'=>∃ σ' H',Inv X pins σ' H' s'/\Q σ' H') X.xe s
abbrev Dw:=V->V->V->Hp->(Hp->Prop)->Prop
def HG(X:Cx)(t:Dw):Prop :=
 ∀(pins:List (Addr×Obj)) (s:Shared) (σ:St) (H:Hp) (o i v:V) (ov iv u:Value) (Q:Hp->Prop),Inv X pins σ H s->RelV o ov->RelV i iv->RelV v u->t o i v H Q ->
  wpAny (model X.prog X.w) X.A (setItem ov iv u) (λ_ s'=>∃ H',Inv X pins σ H' s'/\Q H') X.xe s
abbrev Jx:=V->V->Hp->VK->Prop
def Lb(X:Cx)(op:Operator)(t:Jx):Prop :=
 ∀(pins:List (Addr×Obj)) (s:Shared) (σ:St) (H:Hp) (x y:V) (v u:Value) (Q:VK),Inv X pins σ H s->RelV x v->RelV y u->t x y H Q ->
  wpAny (model X.prog X.w) X.A (inplaceOp op v u) (EP X pins σ Q) X.xe s
section
variable{X:Cx}{pos:Pos}
def v5(i:Nat):TG:=λv σ H Q=>Q (σ.set i (some v)) H
theorem wE{i:Nat}{x:Str}(hN:X.N.Nodup)(hi:X.N[i]? = some x)(hx:Bc X.env.scope x)(hf:X.fn x=true\/X.env.scope.names.lookup x=some .local:=by first|exact .inl rfl|exact .inr rfl|assumption):PG X (.Name x pos) (v5 i):=by
 intro pins s σ H v u Q I r h;exact wpAny_assign_Name (sX I hN hi hx r (λs' I'=>⟨_,H,I',h⟩) hf)
def Jg:DF:=λvs σ H Q=>vs=[]/\Q σ H
def Fy(t:TG)(u:DF):DF:=λvs σ H Q=>∃ v r,vs=v::r/\t v σ H λσ' H'=>u r σ' H' Q
theorem D5:HQ X [] Jg:=by
 intro pins s σ H vs us Q I r h;obtain⟨e,h⟩:=h;subst e;cases r;exact assignInOrder_nil ⟨σ,H,I,h⟩
theorem BV{e:Expr}{es:List Expr}{t:TG}{u:DF}(h1:PG X e t)(h2:HQ X es u)
  (hs:(assignEach (e::es) X.env).map (·.2)=assign e X.env::(assignEach es X.env).map (·.2):=by rfl):HQ X (e::es) (Fy t u):=by
 intro pins s σ H vs us Q I r h;obtain⟨v,vr,e1,h⟩:=h;subst e1;cases r with
 | cons r rr =>
  rw [hs];refine assignInOrder_cons (q8 (h1 pins s σ H _ _ _ I r h) λ_ s1 ⟨σ1,H1,I1,q1⟩=>?_);exact h2 pins s1 σ1 H1 _ _ Q I1 rr q1
def Je(K:Frag)(n:Nat)(t:DF):TG:=λv σ H Q=>∃ a xs,v = .ref a/\SqT K H a xs/\xs.length=n/\t xs σ H Q
theorem yo{es:List Expr}{k:Nat}{t:DF}{n:Nat}(hc:X.calm=true)(h:HQ X es t)
  (hn:(assignEach es X.env).length=n:=by rfl) (hst:(assignEach es X.env).findIdx? (·.1)=none:=by rfl):PG X (.Tuple es k pos) (Je X.K n t):=by
 intro pins s σ H v u Q I r hw;obtain⟨a,xs,e1,hq,hl,hw⟩:=hw;subst e1;cases r;obtain⟨its,rv,ht,hz⟩:=I.tuple hq;refine assign_Tuple_tuple (I.ok.hd hc) ht (by simp [hn,← hl,rv.length]) hst λh' hx=>?_;have I1:Inv X pins σ H { s with heap:=h' }:=I.kept (t':=s.toks) λb o e=>hx b o (aQ (ηL e)) e;exact h pins _ σ H xs _ Q I1 (by simpa using rv) hw
def Jf(to ti:TE)(t:Dw):TG:=λv σ H Q=>to σ H λo H1=>ti σ H1 λi H2=>t o i v H2 λH3=>Q σ H3
theorem tT{o i:Expr}{to ti:TE}{t:Dw}(ho:PE X o to)(hi:PE X i ti)(hs:HG X t)
  (ha:∀ v,assign (.Subscript o i pos) X.env v=(do
   let ov ← holding [v] (eval o X.env)
   let iv ← holding [v,ov] (eval i X.env)
   standAt pos
   holding [v,ov,iv] (setItem ov iv v)
   release [v,ov,iv] []):=by intro _;rfl):PG X (.Subscript o i pos) (Jf to ti t):=by
 intro pins s σ H v u Q I r h;rw [ha];refine ηB (wpAny_holding (q8 (ho pins s σ H _ I h) λov s1 ⟨x,H1,I1,r1,q1⟩=>?_));refine ηB (wpAny_holding (q8 (hi pins s1 σ H1 _ I1 q1) λiv s2 ⟨y,H2,I2,r2,q2⟩=>?_));refine ηB (wpAny_standAt (ηB (wpAny_holding (q8 (hs pins s2 σ H2 x y v ov iv u _ I2 r1 r2 r q2) λ_ s3 ⟨H3,I3,q3⟩=>?_))));exact wpAny_release ⟨σ,H3,I3,q3⟩
def FW(te:TE)(g:TG):TS:=λD σ H=>te σ H λx H1=>g x σ H1 D.nx
theorem s9{tg e:Expr}{te:TE}{g:TG}(he:PE X e te)(hg:PG X tg g)(hs:swapsWithSole [tg] e pos.line X.env=pure false:=by rfl)(hw:swappedStores [tg] e X.env=pure none:=by rfl)
  (h1:(assignEach [tg] X.env).map (·.2)=[assign tg X.env]:=by rfl):PS X (.Assign [tg] e pos) (FW te g):=by
 intro pins s σ H D I h;refine wpAny_Assign_stores (q8 (he pins s σ H _ I h) λv s1 ⟨x,H1,I1,r1,q1⟩=>?_) hs hw;rw [h1];exact q8 (hg pins s1 σ H1 x v _ I1 r1 q1) λ_ s2 q=>q
theorem uu{i:Nat}{x:Str}{e:Expr}{te:TE}{pos':Pos}(hN:X.N.Nodup)(hi:X.N[i]? = some x)(hx:Bc X.env.scope x)(he:PE X e te)(hs:swapsWith e (some (.Name x pos')) pos.line X.env=pure false:=by rfl)(hf:X.fn x=true\/X.env.scope.names.lookup x=some .local:=by first|exact .inl rfl|exact .inr rfl|assumption) :
  PS X (.Assign [.Name x pos'] e pos) (FW te (v5 i)):=by
 intro pins s σ H D I h;refine wpAny_Assign_Name (q8 (he pins s σ H _ I h) λv s1 ⟨y,H1,I1,r1,q1⟩=>?_) hs;exact sX I1 hN hi hx r1 (λs2 I2=>⟨_,H1,I2,q1⟩) hf
def FU(i j:Nat)(ta:TA):TS:=λD σ H=>ta σ H λvs H1=>∃ v w,vs=[v,w]/\D.nx ((σ.set i (some v)).set j (some w)) H1
theorem BR{i j:Nat}{x y:Str}{a b:Expr}{ta:TA}{px py pt:Pos}{kt k2 pt2}(hc:X.calm=true)(hN:X.N.Nodup)(hi:X.N[i]? = some x)(hj:X.N[j]? = some y)(hij:i≠j)
  (hx:X.env.scope.names.lookup x=some .local) (hy:X.env.scope.names.lookup y=some .local) (ha:PA X [a,b] ta)
  (hw:swappedStores [.Tuple [.Name x px,.Name y py] kt pt] (.Tuple [a,b] k2 pt2) X.env=pure (some [x,y]))
  (hs:swapsWithSole [.Tuple [.Name x px,.Name y py] kt pt] (.Tuple [a,b] k2 pt2) pos.line X.env=pure false:=by rfl) :
  PS X (.Assign [.Tuple [.Name x px,.Name y py] kt pt] (.Tuple [a,b] k2 pt2) pos) (FU i j ta):=by
 intro pins s σ H D I h;rw [exec_Assign_arm];refine ηB (wpAny_standAt ?_);rw [hs];refine ηB (ηP ?_);rw [if_neg (by decide)];refine ηB (Tuple_ (q8 (ha _ pins s σ H _ I h) λus s1 ⟨vs,H1,I1,r1,q1⟩=>?_));obtain⟨v,w,e1,q1⟩:=q1;subst e1;obtain⟨u1,u2,rfl,rv,rw'⟩:∃ u1 u2,us=[u1,u2]/\RelV v u1/\RelV w u2:=by
  cases r1 with
  | cons p q =>
   cases q with
   | cons p' q' =>
    cases q';exact⟨_,_,rfl,p,p'⟩
 refine wpAny_newObj_type ?_ (by show 2<=sizeLine;decide);have I2:Inv X pins σ H1 { s1 with heap:=s1.heap.push { cls:=.type "tuple",data:=.seq [u1,u2].toArray } }:=I1.kept (t':=s1.toks) λb o e=>ηH _ e;rw [hw];refine ηB (ηP ?_);show wpAny (model X.prog X.w) X.A (do rule "assign.swapped-stores";let items ← unpackItems (.ref s1.heap.objs.size) 2 none;assignInOrder [λv=>bindName X.env y v,λv=>bindName X.env x v] items.reverse;pure Flow.next) _ _ _;refine ηB (wpAny_rule (ηB (unpackItems_tuple (items:=#[u1,u2]) (I.ok.hd hc) (IsTup.new s1.heap _) λh' hx'=>?_)));have I3:=I2.kept (h':=h') (t':=s1.toks) λb o e=>hx' b o (aQ (ηL e)) e;show wpAny _ _ (assignInOrder [λv=>bindName X.env y v,λv=>bindName X.env x v] [u2,u1] >>= λ_=>pure Flow.next) _ _ _;refine ηB (assignInOrder_cons (wpAny_bindName (sX I3 hN hj (.inl hy) rw' (λs2 I4=>?_) (.inr hy))));refine assignInOrder_cons (wpAny_bindName (sX I4 hN hi (.inl hx) rv (λs3 I5=>assignInOrder_nil (ηP ?_)) (.inr hx)));rw [List.set_comm _ _ (Ne.symm hij)] at I5;exact⟨_,H1,I5,q1⟩
def J8(i:Nat)(te:TE)(ti:Jx):TS:=λD σ H=>∃ x,σ[i]? = some (some x)/\te σ H λy H1=>ti x y H1 λz H2=>D.nx (σ.set i (some z)) H2
theorem Gu{i:Nat}{x:Str}{e:Expr}{te:TE}{op:Operator}{ti:Jx}{pos':Pos}(hN:X.N.Nodup)(hi:X.N[i]? = some x)(hx:Bc X.env.scope x)(he:PE X e te)(ho:Lb X op ti)(hf:X.fn x=true\/X.env.scope.names.lookup x=some .local:=by first|exact .inl rfl|exact .inr rfl|assumption) :
  PS X (.AugAssign (.Name x pos') op e pos) (J8 i te ti):=by
 intro pins s σ H D I h;obtain⟨v,e1,h⟩:=h;obtain⟨m,hn,hl⟩:=I.loc;have vis:FJ X.env.scope x:=by rcases hx with k|k;exact .inl k;exact .inr (.inl k)
 obtain⟨u,r,l⟩:=hl i x v hi e1 vis;refine wpAny_AugAssign_Name ?_;have go:wpAny (model X.prog X.w) X.A (eval e X.env) (λw s₂=>wpAny (model X.prog X.w) X.A (inplaceOp op u w) (λr s₃=>wpAny (model X.prog X.w) X.A (storeName X.env x r) (λ_=>SP X pins D .next) X.xe s₃) X.xe s₂) X.xe s:=by
  refine q8 (he pins s σ H _ I h) λw s1 ⟨y,H1,I1,r1,q1⟩=>?_;refine q8 (ho pins s1 σ H1 v y u w _ I1 r r1 q1) λz s2 ⟨zv,H2,I2,r2,q2⟩=>?_;exact sX I2 hN hi hx r2 (λs3 I3=>⟨_,H2,I3,q2⟩) hf
 rcases l with⟨hk,hm⟩|⟨hk,c,hc,hcell⟩
 ·exact wpAny_loadName_local I.ok.kind hk hn hm go
 ·rcases hk with hk|hk
  ·exact wpAny_loadName_cell I.ok.kind hk hc hcell go
  ·rcases hx with k|k
   ·have:X.env.scope.names.lookup x=some .free:=hk;rw [k] at this;cases this
   ·have:X.env.scope.names.lookup x=some .free:=hk;rw [k] at this;cases this
def Ih(to ti te:TE)(tget:V->V->Hp->VK->Prop)(tip:Jx)(tset:Dw):TS:=λD σ H=>to σ H λo H1=>ti σ H1 λi H2=>tget o i H2 λx H3=>te σ H3 λy H4=>tip x y H4 λz H5=>tset o i z H5 λH6=>D.nx σ H6
def JA(X:Cx)(t:V->V->Hp->VK->Prop):Prop :=
 ∀(pins:List (Addr×Obj)) (s:Shared) (σ:St) (H:Hp) (o i:V) (ov iv:Value) (Q:VK),Inv X pins σ H s->RelV o ov->RelV i iv->t o i H Q ->
  wpAny (model X.prog X.w) X.A (getItem ov iv) (EP X pins σ Q) X.xe s
theorem DZ{o i e:Expr}{to ti te:TE}{tget:V->V->Hp->VK->Prop}{tip:Jx}{tset:Dw}{op:Operator}{tpos:Pos}(ho:PE X o to)(hi:PE X i ti)(hg:JA X tget)(he:PE X e te)(hp:Lb X op tip)(hs:HG X tset)
  (ha:∀ ov iv new,augStore i ov iv new=(do holding [new,ov,iv] (setItem ov iv new);release [new,ov,iv] [];pure .next):=by intros;rfl):PS X (.AugAssign (.Subscript o i tpos) op e pos) (Ih to ti te tget tip tset):=by
 intro pins s σ H D I h;refine wpAny_AugAssign_SubscriptAny (q8 (ho pins s σ H _ I h) λov s1 ⟨x1,H1,I1,r1,q1⟩=>?_) ha;refine q8 (hi pins s1 σ H1 _ I1 q1) λiv s2 ⟨x2,H2,I2,r2,q2⟩=>?_;refine q8 (hg pins s2 σ H2 x1 x2 ov iv _ I2 r1 r2 q2) λold s3 ⟨x3,H3,I3,r3,q3⟩=>?_;refine q8 (he pins s3 σ H3 _ I3 q3) λv s4 ⟨x4,H4,I4,r4,q4⟩=>?_;refine q8 (hp pins s4 σ H4 x3 x4 old v _ I4 r3 r4 q4) λnew s5 ⟨x5,H5,I5,r5,q5⟩=>?_;exact q8 (hs pins s5 σ H5 x1 x2 x5 ov iv new _ I5 r1 r2 r5 q5) λ_ s6 ⟨H6,I6,q6⟩=>⟨σ,H6,I6,q6⟩
end
section
variable{X:Cx}{pos:Pos}
def FS(c:TT)(tb:TS):TS:=λD σ H=>∃ W:Nat->St->Hp->Prop,(∃ m,W m σ H)/\∀ m σ H,W m σ H ->
 c σ H λb H1=>if b=true then ∃ N:St->Hp->Prop,(∀ σ' H',N σ' H'->∃ m',m'<m/\W m' σ' H')/\tb { D with nx:=N,ct:=N,bk:=D.nx } σ H1 else D.nx σ H1
theorem BQ{c:Expr}{body:List Stmt}{tc:TT}{tb:TS}(hp:PassesOwn (model X.prog X.w) X.A X.env X.xe)(hc:PT X c tc)(hb:PSs X body tb):PS X (.While c body [] pos) (FS tc tb):=by
 intro pins s σ H D I h;obtain⟨W,⟨m0,w0⟩,wo⟩:=h;refine wpAny_While (codeAny_whileLoop (λn s'=>∃ σ' H',Inv X pins σ' H' s'/\W n σ' H') ?_ m0 ⟨σ,H,I,w0⟩);rintro n s1 ⟨σ1,H1,I1,w1⟩;refine wpAny_passesOwn hp (q8 (hc pins s1 σ1 H1 _ I1 (wo n σ1 H1 w1)) λb s2 ⟨H2,I2,q2⟩=>?_);cases b with
 | true =>
  obtain⟨N,hN,q2⟩:=q2;rw [if_pos rfl];refine wpAny_passesOwn hp (q8 (hb pins s2 σ1 H2 _ I2 q2) λf s3 q3=>?_);cases f with
  | next =>
   obtain⟨σ3,H3,I3,n3⟩:=q3;obtain⟨m',hm,w3⟩:=hN σ3 H3 n3;exact⟨m',hm,σ3,H3,I3,w3⟩
  | cont =>
   obtain⟨σ3,H3,I3,n3⟩:=q3;obtain⟨m',hm,w3⟩:=hN σ3 H3 n3;exact⟨m',hm,σ3,H3,I3,w3⟩
  | brk=>exact q3
  | ret v=>exact q3
 | false =>
  rw [if_neg aA];exact wpAny_execs_nil ⟨σ1,H2,I2,q2⟩
end
structure It where
 go:Nat->Hp->Prop
 yld:Nat->Hp->V->Hp->Prop
 stop:Nat->Hp->Prop
def sU(X:Cx)(pins:List (Addr×Obj))(H:Hp)(b:Addr):Prop :=
 H b=none/\b≠X.env.locals/\b ∉ X.fs/\(b∈X.ex\/X.s₀.heap.objs.size<=b)/\(∀ x c,X.env.cells.lookup x=some c->c≠b)/\∀ p∈X.pn++pins,p.1≠b
theorem Inv.fpOk{X:Cx}{pins:List (Addr×Obj)}{σ:St}{H H':Hp}{s:Shared}{b:Addr}(I:Inv X pins σ H s)(hb:s.heap.objs.size<=b)(hn:H' b=none):sU X pins H' b:=by
 refine⟨hn,dq (aD I.lt hb),I.nofs hb,.inr (aC I.sz hb),λx c e z=>?_,λp hp z=>?_⟩
 ·obtain⟨v,q⟩:=I.cell x c e;exact absurd (aD q.lt (by rw [z];exact hb)) (bt _)
 ·exact absurd (aD (ηL (I.pin p hp).1) (by rw [z];exact hb)) (bt _)
structure Turn (P:Program)(w:World)(K:Frag)(tg:Expr)(J:It)(fp:List Addr)(it:Addr)(tn:Nat->Heap->Prop):Prop where
 mem:it∈fp
 obj:∀ i h,tn i h->∀ b∈fp,∃ o,h.get? b=some o/\∀ v,o.data ≠ .cell v
 keep:∀ i h h',tn i h->(∀ b∈fp,∀ o,h.get? b=some o->h'.get? b=some o)->tn i h'
 item:∀(X:Cx),X.prog=P->X.w=w->X.K=K->X.calm=true->∀(i:Nat) (pins:List (Addr×Obj)) (s:Shared) (σ:St) (H:Hp) (E:Value->Shared->Prop),Inv X pins σ H s->(∀ b∈fp,sU X pins H b)->tn i s.heap->J.go i H ->
  wpAny (model P w) X.A (pyNext (.ref it)) (λr s1=>∃ u,r=some u /\
   wpAny (model P w) X.A (letOwnedTupleGo tg (.ref it) u) (λ_ s2=>∃ x H',Inv X pins σ H' s2/\RelV x u/\J.yld i H x H'/\tn (i+1) s2.heap/\∀ b∈fp,H' b=none) E s1) E s
 done:∀(X:Cx),X.prog=P->X.w=w->X.K=K->X.calm=true->∀(i:Nat) (pins:List (Addr×Obj)) (s:Shared) (σ:St) (H:Hp) (E:Value->Shared->Prop),Inv X pins σ H s->(∀ b∈fp,sU X pins H b)->tn i s.heap->J.stop i H ->
  wpAny (model P w) X.A (pyNext (.ref it)) (λr s1=>r=none/\Inv X pins σ H s1) E s
 self:∀(A:Around) (i:Nat) (s:Shared) (Q:Value->Shared->Prop) (E:Value->Shared->Prop),tn i s.heap->Q (.ref it) s->wpAny (model P w) A (pyIter (.ref it)) Q E s
abbrev TI:=St->Hp->(It->Hp->Prop)->Prop
def Lc(X:Cx)(pins:List (Addr×Obj))(σ:St)(tg:Expr)(R:It->Hp->Prop)(itv:Value)(s2:Shared):Prop :=
 ∃(it:Addr) (fp:List Addr) (tn:Nat->Heap->Prop) (J:It) (H':Hp),itv = .ref it/\Inv X pins σ H' s2/\Turn X.prog X.w X.K tg J fp it tn/\tn 0 s2.heap/\(∀ b∈fp,sU X pins H' b)/\R J H'
def PI(X:Cx)(tg iter:Expr)(wi:TI):Prop :=
 ∀(pins:List (Addr×Obj)) (s:Shared) (σ:St) (H:Hp) (R:It->Hp->Prop),Inv X pins σ H s->wi σ H R ->
  wpAny (model X.prog X.w) X.A (eval iter X.env) (λv s1=>wpAny (model X.prog X.w) X.A (pyIter v) (Lc X pins σ tg R) X.xe s1) X.xe s
theorem xG{M:Model}{A:Around}{E:Value->Shared->Prop}{s:Shared}{tg:Expr}{it:Addr}{u:Value}{o:Obj}{n:String}{vs:Array Value}{Q:Unit->Shared->Prop}(ho:s.heap.get? it=some o)(hc:o.cls = .type n)(hd:o.data = .fields vs)
  (hn:["enumerate", "zip", "dict_itemiterator", "dict_reverseitemiterator", "odict_iterator", "itertools.zip_longest", "itertools.pairwise"].contains n=false) (hQ:Q () s):wpAny M A (letOwnedTupleGo tg (.ref it) u) Q E s:=by
 unfold letOwnedTupleGo;cases tg <;> first
  | exact ηP hQ
  | (cases u <;> first
    | exact ηP hQ
    | (refine ηB (wpAny_load ho ?_)
       rw [hc,hd];show wpAny M A (if (["enumerate", "zip", "dict_itemiterator", "dict_reverseitemiterator", "odict_iterator", "itertools.zip_longest", "itertools.pairwise"].contains n && vs[0]? == some (rawInt _))=true then _ else _) Q E s;rw [if_neg (by intro h;rw [hn,Bool.false_and] at h;cases h)];exact ηP hQ))
def Lj(K:Frag)(a:Addr):It :=
 ⟨λi H=>∃ xs x,SqL K H a xs/\xs[i]? = some x,λi H x H'=>H'=H/\∀ xs,SqL K H a xs->xs[i]? = some x,λi H=>∃ xs,SqL K H a xs/\xs.length<=i⟩
def Li(K:Frag)(a:Addr):It :=
 ⟨λi H=>∃ xs x,SqT K H a xs/\xs[i]? = some x,λi H x H'=>H'=H/\∀ xs,SqT K H a xs->xs[i]? = some x,λi H=>∃ xs,SqT K H a xs/\xs.length<=i⟩
def HR(lo:Int)(n:Nat):It:=⟨λi _=>i<n,λi H x H'=>H'=H/\x = .int (lo+i),λi _=>n<=i⟩
theorem Aq{P:Program}{w:World}{K:Frag}{tg:Expr}(a it:Addr):Turn P w K tg (Lj K a) [it] it (λi h=>h.IsListIter it a i) where
 mem:=by simp
 obj:=λi h st b hb=>by
  have e:b=it:=by simpa using hb
  subst e;obtain⟨o,e,c,d⟩:=st;exact⟨o,e,λv z=>by rw [d] at z;cases z⟩
 keep:=λi h h' st k=>st.at λo e=>k it (by simp) o e
 item:=by
  intro X hP hw hK hc i pins s σ H E I hf st hg;subst hP hw hK;obtain⟨xs,x,hq,hx⟩:=hg;obtain⟨its,rv,p,hz⟩:=I.list hq;obtain⟨u,hu,ru⟩:=rv.get hx;obtain⟨f0,f1,f2,f3,f4,f5⟩:=hf it (by simp);refine wpAny_pyNext_list_item st p.isList (x:=u) (by simpa using hu) λh' st' sb=>?_;have I1:Inv X pins σ H { s with heap:=h' }:=I.turned (t':=s.toks) (λb o hb e=>(sb.2 b hb).trans e) f0 f1 f3 f4 f5;obtain⟨o,e,c,d⟩:=id st';exact⟨u,rfl,xG (s:={ s with heap:=h' }) e c d (by decide) ⟨x,H,I1,ru,⟨rfl,λys hy=>by rw [I.list_inj hy hq];exact hx⟩,st',λb hb=>(hf b hb).1⟩⟩
 done:=by
  intro X hP hw hK hc i pins s σ H E I hf st hg;subst hP hw hK;obtain⟨xs,hq,hx⟩:=hg;obtain⟨its,rv,p,hz⟩:=I.list hq;obtain⟨f0,f1,f2,f3,f4,f5⟩:=hf it (by simp);have hl:=rv.length;exact wpAny_pyNext_list_end (I.ok.hd hc) st p.isList (by simp;omega) λh' eb=>⟨rfl,I.turned (t':=s.toks) (λb o hb e=>eb b o hb e) f0 f1 f3 f4 f5⟩
 self:=λ_ _ _ _ _ st h=>wpAny_pyIter_listiter st h
theorem ya{P:Program}{w:World}{K:Frag}{tg:Expr}(a it:Addr):Turn P w K tg (Li K a) [it] it (λi h=>h.IsTupleIter it a i) where
 mem:=by simp
 obj:=λi h st b hb=>by
  have e:b=it:=by simpa using hb
  subst e;obtain⟨o,e,c,d⟩:=st;exact⟨o,e,λv z=>by rw [d] at z;cases z⟩
 keep:=λi h h' st k=>st.at λo e=>k it (by simp) o e
 item:=by
  intro X hP hw hK hc i pins s σ H E I hf st hg;subst hP hw hK;obtain⟨xs,x,hq,hx⟩:=hg;obtain⟨its,rv,p,hz⟩:=I.tuple hq;obtain⟨u,hu,ru⟩:=rv.get hx;obtain⟨f0,f1,f2,f3,f4,f5⟩:=hf it (by simp);refine wpAny_pyNext_tuple_item st (show s.heap.IsTuple a its.toArray from p) (x:=u) (by simpa using hu) λh' st' sb=>?_;have I1:Inv X pins σ H { s with heap:=h' }:=I.turned (t':=s.toks) (λb o hb e=>(sb.2 b hb).trans e) f0 f1 f3 f4 f5;obtain⟨o,e,c,d⟩:=id st';exact⟨u,rfl,xG (s:={ s with heap:=h' }) e c d (by decide) ⟨x,H,I1,ru,⟨rfl,λys hy=>by rw [I.tuple_inj hy hq];exact hx⟩,st',λb hb=>(hf b hb).1⟩⟩
 done:=by
  intro X hP hw hK hc i pins s σ H E I hf st hg;subst hP hw hK;obtain⟨xs,hq,hx⟩:=hg;obtain⟨its,rv,p,hz⟩:=I.tuple hq;obtain⟨f0,f1,f2,f3,f4,f5⟩:=hf it (by simp);have hl:=rv.length;exact wpAny_pyNext_tuple_end (I.ok.hd hc) st (show s.heap.IsTuple a its.toArray from p) (by simp;omega) λh' eb=>⟨rfl,I.turned (t':=s.toks) (λb o hb e=>eb b o hb e) f0 f1 f3 f4 f5⟩
 self:=λ_ _ _ _ _ st h=>wpAny_pyIter_tupleiter st h
theorem yb{P:Program}{w:World}{K:Frag}{tg:Expr}(it:Addr)(lo:Int)(n:Nat):Turn P w K tg (HR lo n) [it] it (λi h=>IsRangeIter h it (lo+(i:Nat)*1) ((n:Int)-(i:Nat)) 1) where
 mem:=by simp
 obj:=λi h st b hb=>by
  have e:b=it:=by simpa using hb
  subst e;exact⟨_,st,λv z=>by
   have z':Data.fields _=Data.cell v:=z;cases z'⟩
 keep:=λi h h' st k=>k it (by simp) _ st
 item:=by
  intro X hP hw hK hc i pins s σ H E I hf st hg;subst hP hw hK;obtain⟨f0,f1,f2,f3,f4,f5⟩:=hf it (by simp);have W:=Walks.range (prog:=X.prog) (w:=X.w) (I.ok.hd hc) it lo 1 n;refine W.item i s _ _ hg st λv h' tk hv st' kk=>?_;obtain⟨t,rfl⟩:=hv;have I1:Inv X pins σ H { s with heap:=h',toks:=tk }:=I.turned (λb o hb e=>kk b o (by simpa using hb) e) f0 f1 f3 f4 f5;refine⟨_,rfl,xG (s:={ s with heap:=h',toks:=tk }) (n := "range_iterator") st' rfl rfl (by decide) ⟨.int (lo+i),H,I1,⟨t,?_⟩,⟨rfl,rfl⟩,st',λb hb=>(hf b hb).1⟩⟩;rw [bH]
 done:=by
  intro X hP hw hK hc i pins s σ H E I hf st hg;subst hP hw hK;obtain⟨f0,f1,f2,f3,f4,f5⟩:=hf it (by simp);exact wpAny_pyNext_range_end (I.ok.hd hc) st (by have:n<=i:=hg;omega) λh' eb=>⟨rfl,I.turned (t':=s.toks) (λb o hb e=>eb b o hb e) f0 f1 f3 f4 f5⟩
 self:=λ_ _ _ _ _ st h=>wpAny_pyIter_rangeiter st h
end L2
namespace L2
open PySem PySem.Spec PyProof.Rows
section
variable{X:Cx}{tg:Expr}
theorem xq{pins:List (Addr×Obj)}{σ:St}{H:Hp}{s:Shared}{R:It->Hp->Prop}{E:Value->Shared->Prop}{lo hi:Int}{t u v:Tok}{tk:Nat}(I:Inv X pins σ H s)(h1 : -(2^62)<=lo)(h2:lo<2^62)(h3 : -(2^62)<=hi)(h4:hi<2^62)
  (q:R (HR lo (hi-lo).toNat) H):wpAny (model X.prog X.w) X.A (pyIter (.ref s.heap.objs.size)) (Lc X pins σ tg R) E { s with heap:=s.heap.push { cls:=.type "range",data:=.fields #[.int lo t,.int hi u,.int 1 v] },toks:=tk }:=by
 refine wpAny_pyIter_range (IsRange.new ..) (small_one h1 h2 h3 h4) ?_;have I1:Inv X pins σ H { s with heap:=s.heap.push { cls:=.type "range",data:=.fields #[.int lo t,.int hi u,.int 1 v] },toks:=tk }:=I.kept λb o e=>ηH _ e;refine⟨(s.heap.push { cls:=.type "range",data:=.fields #[.int lo t,.int hi u,.int 1 v] }).objs.size,[(s.heap.push { cls:=.type "range",data:=.fields #[.int lo t,.int hi u,.int 1 v] }).objs.size],_,_,H,rfl,
  I1.kept (t':=tk) λb o e=>ηH _ e,yb _ lo (hi-lo).toNat,?_,λb hb=>?_,q⟩
 ·have e1:lo+((0:Nat):Int)*1=lo:=by simp
  have e2:(((hi-lo).toNat:Nat):Int)-((0:Nat):Int)=Builtin.Range.rangeSize lo hi 1:=by rw [rangeSize_one];split <;> omega
  show IsRangeIter _ _ (lo+((0:Nat):Int)*1) ((((hi-lo).toNat:Nat):Int)-((0:Nat):Int)) 1;rw [e1,e2];exact ηG _ rfl
 ·have e:b=(s.heap.push { cls:=.type "range",data:=.fields #[.int lo t,.int hi u,.int 1 v] }).objs.size:=by simpa using hb
  subst e;exact I1.fpOk (af _) (I1.hok.fresh (af _))
def IW(ta:TA):TI:=λσ H R=>ta σ H λvs H1=>∃ j:Int,vs=[.int j] /\ -(2^62)<=j/\j<2^62/\R (HR 0 j.toNat) H1
def IV(ta:TA):TI:=λσ H R=>ta σ H λvs H1=>∃ i j:Int,vs=[.int i,.int j]/\(-(2^62)<=i/\i<2^62 /\ -(2^62)<=j/\j<2^62)/\R (HR i (j-i).toNat) H1
theorem vR{a:Expr}{ta:TA}{p pos:Pos}(hg:Gl X "range")(hm:X.mg "range" = none)(ha:PA X [a] ta)(hs:starEach [a] X.env=[(false,eval a X.env)]:=by rfl):PI X tg (.Call (.Name "range" p) [a] [] pos) (IW ta):=by
 intro pins s σ H R I h;refine Call_ (rZ I hg hm boot_range (PyProof.Rows.callWith_type1 (q8 (ha pos pins s σ H _ I h) λus s1 ⟨vs,H1,I1,r1,q1⟩=>?_) hs rfl));obtain⟨j,e,q1,q2,q⟩:=q1;subst e;cases r1 with
 | cons r rr =>
  cases rr;obtain⟨t,rfl⟩:=r;exact call_range_1 (xq I1 (by omega) (by omega) q1 q2 (by simpa using q))
theorem AB{a b:Expr}{ta:TA}{p pos:Pos}(hg:Gl X "range")(hm:X.mg "range" = none)(ha:PA X [a,b] ta)(hs:starEach [a,b] X.env=[(false,eval a X.env),(false,eval b X.env)]:=by rfl)(hs2:starEach [b] X.env=[(false,eval b X.env)]:=by rfl) :
  PI X tg (.Call (.Name "range" p) [a,b] [] pos) (IV ta):=by
 intro pins s σ H R I h;refine Call_ (rZ I hg hm boot_range (PyProof.Rows.callWith_type1 (q8 (ha pos pins s σ H _ I h) λus s1 ⟨vs,H1,I1,r1,q1⟩=>?_) (by rw [hs,hs2]) (by rw [hs2];rfl)));obtain⟨i,j,e,⟨q1,q2,q3,q4⟩,q⟩:=q1;subst e;cases r1 with
 | cons r rr =>
  cases rr with
  | cons r' rr =>
   cases rr;obtain⟨t,rfl⟩:=r;obtain⟨t',rfl⟩:=r';exact call_range_2 (xq I1 q1 q2 q3 q4 q)
def J4(wi:TI)(g:TG)(tb:TS):TS:=λD σ H=>wi σ H λJ H1=>∃ W:Nat->Nat->St->Hp->Prop,(∃ m,W 0 m σ H1)/\∀ i m σ H,W i m σ H ->
 (J.stop i H/\D.nx σ H)\/(J.go i H/\∃ N:St->Hp->Prop,(∀ σ' H',N σ' H'->∃ m',m'<m/\W (i+1) m' σ' H')/\∀ x H',J.yld i H x H'->g x σ H' λσ2 H2=>tb { D with nx:=N,ct:=N,bk:=D.nx } σ2 H2)
def ve(fp:List Addr)(h:Heap):List (Addr×Obj):=fp.filterMap λb=>(h.get? b).map λo=>(b,o)
theorem sM{fp:List Addr}{h:Heap}{b:Addr}{o:Obj}(hb:b∈fp)(e:h.get? b=some o):(b,o)∈ve fp h:=gE.mpr ⟨b,hb,by rw [e];rfl⟩
theorem AG{fp:List Addr}{h:Heap}{p:Addr×Obj}(hp:p∈ve fp h):p.1∈fp/\h.get? p.1=some p.2:=by
 obtain⟨b,hb,e⟩:=gE.mp hp;cases q:h.get? b with
 | none=>rw [q] at e;cases e
 | some o =>
  rw [q] at e;have e':(b,o)=p:=Option.some.inj e;subst e';exact⟨hb,q⟩
theorem Inv.pinned{pins:List (Addr×Obj)}{σ:St}{H:Hp}{s:Shared}{fp:List Addr}(I:Inv X pins σ H s)(hf:∀ b∈fp,sU X pins H b)(ho:∀ b∈fp,∃ o,s.heap.get? b=some o/\∀ v,o.data ≠ .cell v):Inv X (pins++ve fp s.heap) σ H s :=
 I.pins_of λp hp=>(bz.mp hp).elim (λz=>I.pin p (aY _ z)) λz=>by
  obtain⟨hb,e⟩:=AG z;obtain⟨f0,f1,f2,_⟩:=hf p.1 hb;obtain⟨o,e',d⟩:=ho p.1 hb;rw [e] at e';cases e';exact⟨e,f0,f1,f2,d⟩
theorem Inv.unpinned{pins pl:List (Addr×Obj)}{σ:St}{H:Hp}{s:Shared}(I:Inv X (pins++pl) σ H s):Inv X pins σ H s:=I.pins_of λp hp=>I.pin p (aY _ (gq _ hp))
theorem Gr{iter:Expr}{body:List Stmt}{wi:TI}{g:TG}{tb:TS}{pos:Pos}(hp:PassesOwn (model X.prog X.w) X.A X.env X.xe)(hc:X.calm=true)(hi:PI X tg iter wi)(hg:PG X tg g)(hb:PSs X body tb)
  (hs:∀ x,foldedSetIterable iter X.env x=pure x:=by intro _;rfl):PS X (.For tg iter body [] pos) (J4 wi g tb):=by
 intro pins s σ H D I h;refine wpAny_For (q8 (hi pins s σ H _ I h) λv s1 h1=>q8 h1 λitv s2 h2=>?_) hs;obtain⟨it,fp,tn,J,H2,e,I2,T,st2,f2,W,⟨m0,w0⟩,wo⟩:=h2;subst e
 -- what stays true of the iterator's objects through the loop
 have stat:∀{H':Hp},(∀ b∈fp,H' b=none)->∀ b∈fp,sU X pins H' b:=λhn b hb=>⟨hn b hb,(f2 b hb).2⟩;refine codeAny_forLoop_any (λn s'=>∃ i σ' H',Inv X pins σ' H' s'/\tn i s'.heap/\(∀ b∈fp,H' b=none)/\W i n σ' H') ?_ m0 ⟨0,σ,H2,I2,st2,λb hb=>(f2 b hb).1,w0⟩;rintro n s3 ⟨i,σ3,H3,I3,st3,fr3,w3⟩;rcases wo i n σ3 H3 w3 with⟨stop,qn⟩|⟨go,N,hN,step⟩
 ·refine wpAny_passesOwn hp (q8 (T.done X rfl rfl rfl hc i pins s3 σ3 H3 X.xe I3 (stat fr3) st3 stop) λr s4 ⟨hr,I4⟩=>?_);subst hr;exact wpAny_execs_nil ⟨σ3,H3,I4,qn⟩
 ·refine wpAny_passesOwn hp (q8 (T.item X rfl rfl rfl hc i pins s3 σ3 H3 X.xe I3 (stat fr3) st3 go) λr s4 ⟨u,hr,h4⟩=>?_);subst hr;refine wpAny_passesOwn hp (q8 h4 λ_ s5 ⟨x,H5,I5,r5,y5,st5,fr5⟩=>?_);have I5':=I5.pinned (stat fr5) (T.obj _ _ st5);refine wpAny_passesOwn hp (q8 (hg _ s5 σ3 H5 x u _ I5' r5 (step x H5 y5)) λ_ s6 ⟨σ6,H6,I6,q6⟩=>?_);refine wpAny_passesOwn hp (q8 (hb _ s6 σ6 H6 _ I6 q6) λf s7 q7=>?_);have again:∀{σ7:St} {H7:Hp},Inv X (pins++ve fp s5.heap) σ7 H7 s7->N σ7 H7->∃ m,m<n/\∃ i σ' H',Inv X pins σ' H' s7/\tn i s7.heap/\(∀ b∈fp,H' b=none)/\W i m σ' H':=λ{σ7 H7} I7 n7=>by
   obtain⟨m',hm,w7⟩:=hN σ7 H7 n7;refine⟨m',hm,i+1,σ7,H7,I7.unpinned,T.keep _ _ _ st5 λb hb o e=>(I7.pin (b,o) (aY _ (aY _ (sM hb e)))).1,λb hb=>?_,w7⟩;obtain⟨o,e,d⟩:=T.obj _ _ st5 b hb;exact (I7.pin (b,o) (aY _ (aY _ (sM hb e)))).2.1
  cases f with
  | next=>obtain⟨σ7,H7,I7,n7⟩:=q7;exact again I7 n7
  | cont=>obtain⟨σ7,H7,I7,n7⟩:=q7;exact again I7 n7
  | brk=>obtain⟨σ7,H7,I7,q7⟩:=q7;exact⟨σ7,H7,I7.unpinned,q7⟩
  | ret v=>obtain⟨x7,σ7,H7,I7,r7,q7⟩:=q7;exact⟨x7,σ7,H7,I7.unpinned,r7,q7⟩
end
end L2
namespace L2
open PySem PySem.Spec PyProof.Rows
abbrev R2:=V->V->Hp->VK->Prop
def OpR(X:Cx)(f:Value->Value->Sem Value)(r:R2):Prop :=
 ∀(pins:List (Addr×Obj)) (s:Shared) (σ:St) (H:Hp) (x y:V) (v u:Value) (Q:VK),Inv X pins σ H s->RelV x v->RelV y u->r x y H Q ->
  wpAny (model X.prog X.w) X.A (f v u) (EP X pins σ Q) X.xe s
def KL(X:Cx)(f:Value->Sem Value)(r:V->Hp->VK->Prop):Prop :=
 ∀(pins:List (Addr×Obj)) (s:Shared) (σ:St) (H:Hp) (x:V) (v:Value) (Q:VK),Inv X pins σ H s->RelV x v->r x H Q ->
  wpAny (model X.prog X.w) X.A (f v) (EP X pins σ Q) X.xe s
def CallR(X:Cx)(f:Value)(r:List V->Hp->VK->Prop):Prop :=
 ∀(pins:List (Addr×Obj)) (s:Shared) (σ:St) (H:Hp) (xs:List V) (us:List Value) (Q:VK),Inv X pins σ H s->Vals xs us->r xs H Q ->
  wpAny (model X.prog X.w) X.A (call f us) (EP X pins σ Q) X.xe s
def KM(X:Cx)(r:V->Hp->(Bool->Hp->Prop)->Prop):Prop :=
 ∀(pins:List (Addr×Obj)) (s:Shared) (σ:St) (H:Hp) (x:V) (v:Value) (Q:Bool->Hp->Prop),Inv X pins σ H s->RelV x v->r x H Q ->
  wpAny (model X.prog X.w) X.A (truthy v) (TP X pins σ Q) X.xe s
def Id(r:R2)(ta tb:TE):TE:=λσ H Q=>ta σ H λx H1=>tb σ H1 λy H2=>r x y H2 Q
def Lq(r:V->Hp->VK->Prop)(ta:TE):TE:=λσ H Q=>ta σ H λx H1=>r x H1 Q
def rI(C:Int->Int->Prop)(g:Int->Int->V):R2:=λx y H Q=>∃ i j,x = .int i/\y = .int j/\C i j/\Q (g i j) H
def BJ(g:Int->Int->V):R2:=λx y H Q=>∃ i j,x = .int i/\y = .int j/\Q (g i j) H
def rU(g:Int->V):V->Hp->VK->Prop:=λx H Q=>∃ i,x = .int i/\Q (g i) H
section
variable{X:Cx}{a b c:Expr}{ta tb tc:TE}{pos:Pos}
theorem Hz(ha:PE X a ta)(hb:PE X b tb){pins:List (Addr×Obj)}{s:Shared}{σ:St}{H:Hp}{R:V->V->Hp->Prop}(I:Inv X pins σ H s)
  (h:ta σ H λx H1=>tb σ H1 λy H2=>R x y H2) {Q:Value->Shared->Prop} {f:Value->Value->Sem Value}
  (hf:∀ v u s2 x y H2,Inv X pins σ H2 s2->RelV x v->RelV y u->R x y H2->wpAny (model X.prog X.w) X.A (f v u) Q X.xe s2) :
  wpAny (model X.prog X.w) X.A (eval a X.env) (λv s₁=>wpAny (model X.prog X.w) X.A (eval b X.env) (λu s₂=>wpAny (model X.prog X.w) X.A (f v u) Q X.xe s₂) X.xe s₁) X.xe s:=by
 refine q8 (ha pins s σ H _ I h) λv s1 ⟨x,H1,I1,r1,q1⟩=>?_;refine q8 (hb pins s1 σ H1 _ I1 q1) λu s2 ⟨y,H2,I2,r2,q2⟩=>?_;exact hf v u s2 x y H2 I2 r1 r2 q2
theorem rC{op:Operator}{r:R2}(ho:OpR X (binaryOp op) r)(ha:PE X a ta)(hb:PE X b tb):PE X (.BinOp a op b pos) (Id r ta tb):=by
 intro pins s σ H Q I h;exact wpAny_BinOp (Hz ha hb I h λv u s2 x y H2 I2 rx ry q=>ho pins s2 σ H2 x y v u Q I2 rx ry q)
theorem Fd{op:UnaryOp}{r:V->Hp->VK->Prop}(ho:KL X (unaryOp op) r)(ha:PE X a ta):PE X (.UnaryOp op a pos) (Lq r ta):=by
 intro pins s σ H Q I h;exact UnaryOp_ (q8 (ha pins s σ H _ I h) λv s1 ⟨x,H1,I1,r1,q1⟩=>ho pins s1 σ H1 x v Q I1 r1 q1)
theorem Fj{f:Value->Value->Sem Value}{C:Int->Int->Prop}{g:Int->Int->Int}
  (rule:∀(i j:Int) (t u:Tok) (s:Shared) (Q:Value->Shared->Prop) (E:Value->Shared->Prop),C i j->Q (.int (g i j) s.toks) { s with toks:=s.toks+1 }->wpAny (model X.prog X.w) X.A (f (.int i t) (.int j u)) Q E s) :
  OpR X f (rI C λi j=>.int (g i j)):=by
 intro pins s σ H x y v u Q I rx ry h;obtain⟨i,j,rfl,rfl,hc,q⟩:=h;obtain⟨t,rfl⟩:=rx;obtain⟨t',rfl⟩:=ry;exact rule i j t t' s _ _ hc ⟨.int (g i j),H,I.tok _,⟨_,rfl⟩,q⟩
theorem Eg{f:Value->Value->Sem Value}{g:Int->Int->Int}
  (rule:∀(i j:Int) (t u:Tok) (s:Shared) (Q:Value->Shared->Prop) (E:Value->Shared->Prop),Q (.int (g i j) s.toks) { s with toks:=s.toks+1 }->wpAny (model X.prog X.w) X.A (f (.int i t) (.int j u)) Q E s) :
  OpR X f (BJ λi j=>.int (g i j)):=by
 intro pins s σ H x y v u Q I rx ry h;obtain⟨i,j,rfl,rfl,q⟩:=h;obtain⟨t,rfl⟩:=rx;obtain⟨t',rfl⟩:=ry;exact rule i j t t' s _ _ ⟨.int (g i j),H,I.tok _,⟨_,rfl⟩,q⟩
theorem Eh{f:Value->Value->Sem Value}{g:Int->Int->Bool}
  (rule:∀(i j:Int) (t u:Tok) (s:Shared) (Q:Value->Shared->Prop) (E:Value->Shared->Prop),Q (.bool (g i j)) s->wpAny (model X.prog X.w) X.A (f (.int i t) (.int j u)) Q E s) :
  OpR X f (BJ λi j=>.bl (g i j)):=by
 intro pins s σ H x y v u Q I rx ry h;obtain⟨i,j,rfl,rfl,q⟩:=h;obtain⟨t,rfl⟩:=rx;obtain⟨t',rfl⟩:=ry;exact rule i j t t' s _ _ ⟨.bl (g i j),H,I,rfl,q⟩
def KR(i j:Int):Prop:=0<j/\j<1073741824
def DD(i j:Int):Prop:=0<=j/\j<=1000000/\i.natAbs<2^64
def CMul(i j:Int):Prop:=(-(2^64)<i/\i<2^64)\/(-(2^64)<j/\j<2^64)
theorem CMul.ok{i j:Int}(h:CMul i j):IntMulOk i j:=by
 rcases h with⟨h1,h2⟩|⟨h1,h2⟩
 ·exact .of_left (intBits_le_64 h1 h2)
 ·exact .of_right (intBits_le_64 h1 h2)
theorem sJ:OpR X (binaryOp .Add) (BJ λi j=>.int (i+j)):=Eg λ_ _ _ _ _ _ _ q=>add_int q
theorem GB:OpR X (binaryOp .Sub) (BJ λi j=>.int (i-j)):=Eg λ_ _ _ _ _ _ _ q=>sub_int q
theorem yv:OpR X (binaryOp .Mult) (rI CMul λi j=>.int (i*j)):=Fj λ_ _ _ _ _ _ _ hc q=>mul_int q hc.ok
theorem zD:OpR X (binaryOp .FloorDiv) (rI KR λi j=>.int (i / j)):=Fj λi j _ _ _ _ _ hc q=>by
 have h1:(0:Int)<j:=hc.1;have h2:j<1073741824:=hc.2;exact floordiv_int (by omega) (by rw [cJ i (by omega)];exact q) (.inl (PyProof.noPylong_small (by omega)))
theorem tU:OpR X (binaryOp .Mod) (rI (λ_ j=>0<j) λi j=>.int (i%j)):=Fj λi j _ _ _ _ _ hc q=>by
 have h1:(0:Int)<j:=hc;exact mod_int' (by omega) (by rw [fJ i (by omega)];exact q)
theorem Ee:OpR X (binaryOp .Mod) (rI (λ_ j=>j≠0) λi j=>.int (i.fmod j)):=Fj λ_ _ _ _ _ _ _ hc q=>mod_int' hc q
theorem Cj:OpR X (binaryOp .Pow) (rI DD λi j=>.int (i^j.toNat)):=Fj λ_ _ _ _ _ _ _ hc q=>pow_int_small hc.1 hc.2.1 hc.2.2 q
theorem GC:OpR X (binaryOp .LShift) (rI DD λi j=>.int (i*2^j.toNat)):=Fj λ_ _ _ _ _ _ _ hc q=>lshift_int_small hc.1 hc.2.1 hc.2.2 q
theorem EE:OpR X (inplaceOp .Add) (BJ λi j=>.int (i+j)):=Eg λ_ _ _ _ _ _ _ q=>iadd_int q
theorem ED:OpR X (inplaceOp .Sub) (BJ λi j=>.int (i-j)):=Eg λ_ _ _ _ _ _ _ q=>isub_int q
theorem Lp{f:Value->Sem Value}{g:Int->Int}
  (rule:∀(i:Int) (t:Tok) (s:Shared) (Q:Value->Shared->Prop) (E:Value->Shared->Prop),Q (.int (g i) s.toks) { s with toks:=s.toks+1 }->wpAny (model X.prog X.w) X.A (f (.int i t)) Q E s) :
  KL X f (rU λi=>.int (g i)):=by
 intro pins s σ H x v Q I rx h;obtain⟨i,rfl,q⟩:=h;obtain⟨t,rfl⟩:=rx;exact rule i t s _ _ ⟨.int (g i),H,I.tok _,⟨_,rfl⟩,q⟩
theorem Bj:KL X (unaryOp .USub) (rU λi=>.int (-i)):=Lp λ_ _ _ _ _ q=>neg_int q
end
def F4:V->V->Bool
 | .non,.non=>true | .non,.int _=>true | .int _,.non=>true | .non,.bl _=>true | .bl _,.non=>true | .non,.str _=>true | .str _,.non=>true
 | .int _,.int _=>true | .bl _,.bl _=>true | .str _,.str _=>true | .byt _,.byt _=>true
 | .int _,.str _=>true | .str _,.int _=>true | .bl _,.str _=>true | .str _,.bl _=>true
 | _,_=>false
def Lz:R2:=λx y H Q=>F4 x y=true/\Q (.bl (decide (x=y))) H
def Ly:R2:=λx y H Q=>F4 x y=true/\Q (.bl (!decide (x=y))) H
theorem Ad{i j:Int}:decide (V.int i=V.int j)=(i == j):=by
 rw [bY];simp
theorem C1{i j:Bool}:decide (V.bl i=V.bl j)=(i == j):=by
 rw [bY];simp
theorem Ac{i j:Str}:decide (V.str i=V.str j)=(i == j):=by
 rw [bY];simp
theorem Ae{i j:Array UInt8}:decide (V.byt i=V.byt j)=(i.toList == j.toList):=by
 rw [bY];cases i;cases j;simp
section
variable{X:Cx}{a b c:Expr}{ta tb tc:TE}{pos:Pos}
theorem qO{pins:List (Addr×Obj)}{σ:St}{H:Hp}{s:Shared}{Q:VK}{k k':Bool}(I:Inv X pins σ H s)(q:Q (.bl k) H)(e:k=k'):EP X pins σ Q (.bool k') s:=by
 subst e;exact⟨.bl k,H,I,rfl,q⟩
theorem xw:OpR X (compareOp .Eq) Lz:=by
 intro pins s σ H x y v u Q I rx ry h;obtain⟨hs,q⟩:=h;cases x with
 | non =>
  cases rx;cases y with
  | non=>cases ry;exact PySem.EqNone.eq_none_none (qO I q (by simp))
  | bl j=>cases ry;exact PySem.EqNone.eq_none_bool (qO I q (by simp))
  | int j=>obtain⟨t',rfl⟩:=ry;exact PySem.EqNone.eq_none_int (qO I q (by simp))
  | str j=>obtain⟨t',rfl⟩:=ry;exact PySem.EqNone.eq_none_str (qO I q (by simp))
  | _=>exact absurd (show false=true from hs) aA
 | bl i =>
  cases rx;cases y with
  | non=>cases ry;exact PySem.EqNone.eq_bool_none (qO I q (by simp))
  | bl j=>cases ry;exact eq_bool (qO I q C1)
  | str j=>obtain⟨t',rfl⟩:=ry;exact PySem.EqMixed.eq_bool_str (qO I q (by simp))
  | _=>exact absurd (show false=true from hs) aA
 | int i =>
  obtain⟨t,rfl⟩:=rx;cases y with
  | non=>cases ry;exact PySem.EqNone.eq_int_none (qO I q (by simp))
  | int j=>obtain⟨t',rfl⟩:=ry;exact eq_int (qO I q Ad)
  | str j=>obtain⟨t',rfl⟩:=ry;exact PySem.EqMixed.eq_int_str (qO I q (by simp))
  | _=>exact absurd (show false=true from hs) aA
 | str i =>
  obtain⟨t,rfl⟩:=rx;cases y with
  | non=>cases ry;exact PySem.EqNone.eq_str_none (qO I q (by simp))
  | bl j=>cases ry;exact PySem.EqMixed.eq_str_bool (qO I q (by simp))
  | int j=>obtain⟨t',rfl⟩:=ry;exact PySem.EqMixed.eq_str_int (qO I q (by simp))
  | str j=>obtain⟨t',rfl⟩:=ry;exact eq_str (qO I q Ac)
  | _=>exact absurd (show false=true from hs) aA
 | byt i =>
  obtain⟨t,rfl⟩:=rx;cases y with
  | byt j=>obtain⟨t',rfl⟩:=ry;exact PySem.W.eq_bytes (qO I q Ae)
  | _=>exact absurd (show false=true from hs) aA
 | _=>cases y <;> exact absurd (show false=true from hs) aA
theorem Ck:OpR X (compareOp .NotEq) Ly:=by
 intro pins s σ H x y v u Q I rx ry h;obtain⟨hs,q⟩:=h;cases x with
 | non =>
  cases rx;cases y with
  | non=>cases ry;exact PySem.EqNone.ne_none_none (qO I q (by simp))
  | bl j=>cases ry;exact PySem.EqNone.ne_none_bool (qO I q (by simp))
  | int j=>obtain⟨t',rfl⟩:=ry;exact PySem.EqNone.ne_none_int (qO I q (by simp))
  | str j=>obtain⟨t',rfl⟩:=ry;exact PySem.EqNone.ne_none_str (qO I q (by simp))
  | _=>exact absurd (show false=true from hs) aA
 | bl i =>
  cases rx;cases y with
  | non=>cases ry;exact PySem.EqNone.ne_bool_none (qO I q (by simp))
  | bl j=>cases ry;exact ne_bool (qO I q (congrArg not C1))
  | str j=>obtain⟨t',rfl⟩:=ry;exact PySem.EqMixed.ne_bool_str (qO I q (by simp))
  | _=>exact absurd (show false=true from hs) aA
 | int i =>
  obtain⟨t,rfl⟩:=rx;cases y with
  | non=>cases ry;exact PySem.EqNone.ne_int_none (qO I q (by simp))
  | int j=>obtain⟨t',rfl⟩:=ry;exact ne_int (qO I q (congrArg not Ad))
  | str j=>obtain⟨t',rfl⟩:=ry;exact PySem.EqMixed.ne_int_str (qO I q (by simp))
  | _=>exact absurd (show false=true from hs) aA
 | str i =>
  obtain⟨t,rfl⟩:=rx;cases y with
  | non=>cases ry;exact PySem.EqNone.ne_str_none (qO I q (by simp))
  | bl j=>cases ry;exact PySem.EqMixed.ne_str_bool (qO I q (by simp))
  | int j=>obtain⟨t',rfl⟩:=ry;exact PySem.EqMixed.ne_str_int (qO I q (by simp))
  | str j=>obtain⟨t',rfl⟩:=ry;exact ne_str (qO I q (congrArg not Ac))
  | _=>exact absurd (show false=true from hs) aA
 | byt i =>
  obtain⟨t,rfl⟩:=rx;cases y with
  | byt j=>obtain⟨t',rfl⟩:=ry;exact PySem.W.ne_bytes (qO I q (congrArg not Ae))
  | _=>exact absurd (show false=true from hs) aA
 | _=>cases y <;> exact absurd (show false=true from hs) aA
theorem Fg:OpR X (compareOp .Lt) (BJ λi j=>.bl (decide (i<j))):=Eh λ_ _ _ _ _ _ _ q=>lt_int q
theorem IK:OpR X (compareOp .LtE) (BJ λi j=>.bl (decide (i<=j))):=Eh λ_ _ _ _ _ _ _ q=>le_int q
theorem Fh:OpR X (compareOp .Gt) (BJ λi j=>.bl (decide (j<i))):=Eh λ_ _ _ _ _ _ _ q=>gt_int q
theorem Fi:OpR X (compareOp .GtE) (BJ λi j=>.bl (decide (j<=i))):=Eh λ_ _ _ _ _ _ _ q=>ge_int q
theorem GE:OpR X (compareOp .Is) (λx y H Q=>y = .non/\Q (.bl (decide (x = .non))) H):=by
 intro pins s σ H x y v u Q I rx ry h;obtain⟨rfl,q⟩:=h;cases ry;refine is_none_gen (qO I q ?_);cases x <;> first
  | (cases rx;rfl)
  | (obtain⟨t,rfl⟩:=rx;rfl)
theorem Ea:OpR X (compareOp .IsNot) (λx y H Q=>y = .non/\Q (.bl (!decide (x = .non))) H):=by
 intro pins s σ H x y v u Q I rx ry h;obtain⟨rfl,q⟩:=h;cases ry;refine isnot_none_gen (qO I q ?_);cases x <;> first
  | (cases rx;rfl)
  | (obtain⟨t,rfl⟩:=rx;rfl)
theorem sL(b:Expr){op:CmpOp}(h:op ≠ .In:=by decide)(h2:op ≠ .NotIn:=by decide):behindInMarks op b=false:=by
 have e1:(op == CmpOp.In)=false:=by cases op <;> first|rfl|exact absurd rfl h
 have e2:(op == CmpOp.NotIn)=false:=by cases op <;> first|rfl|exact absurd rfl h2
 cases b <;> simp [behindInMarks,e1,e2]
theorem uP{op:CmpOp}{r:R2}(ho:OpR X (compareOp op) r)(ha:PE X a ta)(hb:PE X b tb)(hm:behindInMarks op b=false):PE X (.Compare a [op] [b] pos) (Id r ta tb):=by
 intro pins s σ H Q I h;exact wpAny_Compare1 (Hz ha hb I h λv u s2 x y H2 I2 rx ry q=>ho pins s2 σ H2 x y v u Q I2 rx ry q) hm
def Br(t:TE):TT:=λσ H Q=>t σ H λx H'=>∃ k,x = .bl k/\Q k H'
theorem sI{op:CmpOp}{r:R2}(ho:OpR X (compareOp op) r)(ha:PE X a ta)(hb:PE X b tb)(hm:behindInMarks op b=false):PT X (.Compare a [op] [b] pos) (Br (Id r ta tb)):=by
 intro pins s σ H Q I h;refine wpAny_isTrue_Compare1 (q8 (ha pins s σ H _ I h) λv s1 ⟨x,H1,I1,r1,q1⟩=>q8 (hb pins s1 σ H1 _ I1 q1) λu s2 ⟨y,H2,I2,r2,q2⟩ =>
  q8 (ho pins s2 σ H2 x y v u _ I2 r1 r2 q2) λc s3 ⟨z,H3,I3,r3,k,e,q3⟩=>?_) hm
 subst e;cases r3;exact wpAny_truthy_bool ⟨H3,I3,q3⟩
def Bs(r r':R2)(ta tb tc:TE):TE:=λσ H Q=>ta σ H λx H1=>tb σ H1 λy H2=>r x y H2 λz H3=>∃ k,z = .bl k /\
 (if k=true then tc σ H3 λw' H4=>r' y w' H4 Q else Q (.bl false) H3)
theorem BZ{op op':CmpOp}{r r':R2}(ho:OpR X (compareOp op) r)(ho':OpR X (compareOp op') r')(ha:PE X a ta)(hb:PE X b tb)(hc:PE X c tc)
  (hm:lastMarks [op,op'] [b,c]=false:=by with_unfolding_all rfl):PE X (.Compare a [op,op'] [b,c] pos) (Bs r r' ta tb tc):=by
 intro pins s σ H Q I h;refine Compare_chain (q8 (ha pins s σ H _ I h) λv s1 ⟨x,H1,I1,r1,q1⟩=>chain_link (q8 (hb pins s1 σ H1 _ I1 q1) λu s2 ⟨y,H2,I2,r2,q2⟩ =>
  q8 (ho pins s2 σ H2 x y v u _ I2 r1 r2 q2) λd s3 ⟨z,H3,I3,r3,k,e,q3⟩=>?_)) hm
 subst e;cases r3;refine wpAny_truthy_bool ?_;cases k with
 | false=>exact ite_ff ⟨.bl false,H3,I3,rfl,q3⟩
 | true=>exact ite_tt (chain_last (q8 (hc pins s3 σ H3 _ I3 q3) λw' s4 ⟨z',H4,I4,r4,q4⟩=>ho' pins s4 σ H4 y z' u w' Q I4 r2 r4 q4))
theorem BP{op op':CmpOp}{r r':R2}(ho:OpR X (compareOp op) r)(ho':OpR X (compareOp op') r')(ha:PE X a ta)(hb:PE X b tb)(hc:PE X c tc)
  (hm:lastMarks [op,op'] [b,c]=false:=by with_unfolding_all rfl):PT X (.Compare a [op,op'] [b,c] pos) (Br (Bs r r' ta tb tc)):=by
 intro pins s σ H Q I h;refine isTrue_chain (q8 (ha pins s σ H _ I h) λv s1 ⟨x,H1,I1,r1,q1⟩=>test_link (q8 (hb pins s1 σ H1 _ I1 q1) λu s2 ⟨y,H2,I2,r2,q2⟩ =>
  q8 (ho pins s2 σ H2 x y v u _ I2 r1 r2 q2) λd s3 ⟨z,H3,I3,r3,k,e,q3⟩=>?_)) hm
 subst e;cases r3;refine wpAny_truthy_bool ?_;cases k with
 | false =>
  obtain⟨k',e',q'⟩:=q3;cases e';exact ite_ff ⟨H3,I3,q'⟩
 | true =>
  refine ite_tt (test_last (q8 (hc pins s3 σ H3 _ I3 q3) λw' s4 ⟨z',H4,I4,r4,q4⟩=>q8 (ho' pins s4 σ H4 y z' u w' _ I4 r2 r4 q4) λd' s5 ⟨z2,H5,I5,r5,k2,e2,q5⟩=>?_));subst e2;cases r5;exact wpAny_truthy_bool ⟨H5,I5,q5⟩
def HD(K:Frag)(x:V)(H:Hp)(k:Bool):Prop :=
 match x with
 | .non=>k=false
 | .bl b=>k=b
 | .int i=>k=(i != 0)
 | .str y=>y.length<=sizeLine/\k=((y.length:Int) != 0)
 | .byt y=>y.size<=sizeLine/\k=((y.size:Int) != 0)
 | .ref p=>(∃ xs,SqL K H p xs/\k = !xs.isEmpty)\/(∃ xs,SqT K H p xs/\k = !xs.isEmpty)\/∃ kvs,H p=some (.dK kvs)/\k = !kvs.isEmpty
 | _=>False
theorem yF{κ:Type}{kvs:List (κ×V)}{vs:List (κ×Value)}(r:KV kvs vs):(!vs.isEmpty) = !kvs.isEmpty:=by
 cases r <;> rfl
theorem vh{xs:List V}{its:List Value}(r:Vals xs its):(!its.toArray.isEmpty) = !xs.isEmpty:=by
 cases r <;> simp
theorem sx:(sizeLine:Nat)<2^63:=by rw [sizeLine_eq];decide
theorem FP:KM X (λx H Q=>∃ k,HD X.K x H k/\Q k H):=by
 intro pins s σ H x v Q I rx h;obtain⟨k,e,q⟩:=h;have hl:=sx;have hs:sizeLine=16777216:=sizeLine_eq;cases x with
 | non =>
  cases rx;have e':k=false:=e;subst e';exact truthy_none ⟨H,I,q⟩
 | bl b =>
  cases rx;have e':k=b:=e;subst e';exact wpAny_truthy_bool ⟨H,I,q⟩
 | int i =>
  obtain⟨t,rfl⟩:=rx;have e':k=(i != 0):=e;subst e';exact PySem.P.truthy_int ⟨H,I,q⟩
 | str y =>
  obtain⟨t,rfl⟩:=rx;obtain⟨hy,e'⟩:y.length<=sizeLine/\k=((y.length:Int) != 0):=e;subst e';exact PySem.P.truthy_str (by omega) ⟨H,I.tok _,q⟩
 | byt y =>
  obtain⟨t,rfl⟩:=rx;obtain⟨hy,e'⟩:y.size<=sizeLine/\k=((y.size:Int) != 0):=e;subst e';exact PySem.W.truthy_bytes (by omega) ⟨H,I.tok _,q⟩
 | ref p =>
  cases rx;have e':(∃ xs,SqL X.K H p xs/\k = !xs.isEmpty)\/(∃ xs,SqT X.K H p xs/\k = !xs.isEmpty)\/∃ kvs,H p=some (.dK kvs)/\k = !kvs.isEmpty:=e;rcases e' with⟨xs,hx,e'⟩|⟨xs,hx,e'⟩|⟨kvs,hx,e'⟩
  ·subst e';obtain⟨its,r,pl,hz⟩:=I.list hx;have hlen:=r.length;exact wpAny_truthy_list pl.isList (by simp only [ak];omega) ⟨H,I.tok _,by rw [vh r];exact q⟩
  ·subst e';obtain⟨its,r,pl,hz⟩:=I.tuple hx;have hlen:=r.length;exact truthy_tuple pl (by simp only [ak];omega) ⟨H,I.tok _,by rw [vh r];exact q⟩
  ·subst e';obtain⟨hz,hS,vs,r,m⟩:kvs.length<=sizeLine/\(p == sysModules)=false/\∃ vs,KV kvs vs/\s.heap.DictOf (ub X.prog X.w) p vs:=I.hok p _ hx;have hlen:kvs.length=vs.length:=Paired.length r;exact wpAny_truthy_dict hS m (by omega) ⟨H,I.tok _,by rw [yF r];exact q⟩
 | _=>exact (show False from e).elim
theorem xt(ha:PE X a ta)(he:∀ whole,isTrue a X.env whole=(do let v ← whole;standAt a.pos;holding [v] (truthy v))) :
  PT X a (λσ H Q=>ta σ H λx H'=>∃ k,HD X.K x H' k/\Q k H'):=by
 intro pins s σ H Q I h;exact isTrue_plain (q8 (ha pins s σ H _ I h) λv s1 ⟨x,H1,I1,r1,q1⟩=>FP pins s1 σ H1 x v Q I1 r1 q1) (he _)
theorem yw:OpR X (binaryOp .Add) (λx y H Q=>∃ i j,x = .str i/\y = .str j/\i.length+j.length<=sizeLine/\Q (.str (i++j)) H):=by
 intro pins s σ H x y v u Q I rx ry h;obtain⟨i,j,rfl,rfl,hz,q⟩:=h;obtain⟨t,rfl⟩:=rx;obtain⟨t',rfl⟩:=ry;exact add_str (λt' tk=>⟨.str (i++j),H,I.tok _,⟨_,rfl⟩,q⟩) hz
theorem xB:OpR X (inplaceOp .Add) (λx y H Q=>∃ i j,x = .str i/\y = .str j/\i.length+j.length<=sizeLine/\Q (.str (i++j)) H):=by
 intro pins s σ H x y v u Q I rx ry h;obtain⟨i,j,rfl,rfl,hz,q⟩:=h;obtain⟨t,rfl⟩:=rx;obtain⟨t',rfl⟩:=ry;exact iadd_str (λt' tk=>⟨.str (i++j),H,I.tok _,⟨_,rfl⟩,q⟩) hz
theorem uZ{x:V}{us:List Value}(r:Vals [x] us):∃ u,us=[u]/\RelV x u:=by
 cases r with
 | cons r1 r2=>cases r2;exact⟨_,rfl,r1⟩
theorem EX{x y:V}{us:List Value}(r:Vals [x,y] us):∃ u w',us=[u,w']/\RelV x u/\RelV y w':=by
 cases r with
 | cons r1 r2 =>
  cases r2 with
  | cons r3 r4=>cases r4;exact⟨_,_,rfl,r1,r3⟩
theorem Dk:CallR X (.builtin "abs") (λxs H Q=>∃ i,xs=[.int i]/\Q (.int (if i<0 then -i else i)) H):=by
 intro pins s σ H xs us Q I r h;obtain⟨i,rfl,q⟩:=h;obtain⟨u,rfl,t,rfl⟩:=uZ r;exact call_abs_int λu tk=>⟨.int (if i<0 then -i else i),H,I.tok _,⟨_,rfl⟩,q⟩
theorem A9(hc:X.calm=true):CallR X (.builtin "max") (λxs H Q=>∃ i j,xs=[.int i,.int j]/\Q (.int (if j > i then j else i)) H):=by
 intro pins s σ H xs us Q I r h;obtain⟨i,j,rfl,q⟩:=h;obtain⟨u,w',rfl,⟨t,rfl⟩,⟨t',rfl⟩⟩:=EX r;refine max_two_ints (I.ok.hd hc) λh' tk k=>⟨_,H,I.kept k,?_,q⟩;by_cases hj:j > i
 ·rw [if_pos hj,if_pos hj];exact⟨_,rfl⟩
 ·rw [if_neg hj,if_neg hj];exact⟨_,rfl⟩
theorem A7(hc:X.calm=true):CallR X (.builtin "min") (λxs H Q=>∃ i j,xs=[.int i,.int j]/\Q (.int (if j<i then j else i)) H):=by
 intro pins s σ H xs us Q I r h;obtain⟨i,j,rfl,q⟩:=h;obtain⟨u,w',rfl,⟨t,rfl⟩,⟨t',rfl⟩⟩:=EX r;refine min_two_ints (I.ok.hd hc) λh' tk k=>⟨_,H,I.kept k,?_,q⟩;by_cases hj:j<i
 ·rw [if_pos hj,if_pos hj];exact⟨_,rfl⟩
 ·rw [if_neg hj,if_neg hj];exact⟨_,rfl⟩
theorem Ba:CallR X (.type "int") (λxs H Q=>(∃ i,xs=[.int i]/\Q (.int i) H)\/∃ k,xs=[.bl k]/\Q (.int (if k then 1 else 0)) H):=by
 intro pins s σ H xs us Q I r h;rcases h with⟨i,rfl,q⟩|⟨k,rfl,q⟩
 ·obtain⟨u,rfl,t,rfl⟩:=uZ r;exact call_int_int ⟨.int i,H,I,⟨_,rfl⟩,q⟩
 ·obtain⟨u,rfl,r1⟩:=uZ r;cases r1;exact call_int_bool ⟨.int (if k then 1 else 0),H,I.tok _,⟨_,rfl⟩,q⟩
end
end L2
namespace L2
open PySem PySem.Spec PyProof.Rows
structure ObjM (h:Heap)(x dx C:Addr)(mA:Str->Option Value):Prop where
 obj:h.get? x=some (PySem.W.instObj C dx)
 ns:h.Ns1 dx mA
 ne:dx≠x
theorem AN{h:Heap}{dx:Addr}{mA:Str->Option Value}(n:h.Ns1 dx mA):∃ od,h.get? dx=some od/\∀ name,PySem.W.lookIn name od=some (mA name):=by
 obtain⟨o,es,ep,ho,hd,hk,_,hm⟩:=n;refine⟨o,ho,λname=>?_⟩;have e:=hm name;unfold nsFind findBy at e;rw [← Array.find?_toList] at e;unfold PySem.W.lookIn;rw [hd];dsimp only;split
 ·rename_i y q;rw [q] at e;exact congrArg some e
 ·rename_i q;rw [q] at e;have a:es.toList.any (·.refKey)=false:=by
   rw [List.any_eq_false];intro y hy;obtain⟨z,t,hkey⟩:=hk y (Array.mem_toList_iff.mp hy);simp [DictEntry.refKey,hkey]
  have a':¬ es.toList.any (·.refKey)=true:=by rw [a];exact aA
  rw [if_neg a'];exact congrArg some e
theorem ObjM.look{h:Heap}{x dx C:Addr}{mA:Str->Option Value}(I:ObjM h x dx C mA):∃ od,PySem.W.InstAt h x (PySem.W.instObj C dx) C (some od)/\∀ name,PySem.W.lookIn name od=some (mA name) :=
 let ⟨od,ho,hl⟩:=AN I.ns
 ⟨od,⟨I.obj,rfl,rfl,ho⟩,hl⟩
section
variable{P:Program}{w:World}{H H':Hp}{h h':Heap}{a C dx:Addr}{fs fs':List (Str×V)}
theorem EF(hok:HOk P w H h)(e:H a=some (.ins C dx fs)):∃ mA,ObjM h a dx C mA/\(∀ f,HF (fs.lookup f) (mA f))/\PySem.Within mA (fs.map (·.1))/\fs.length<=1000/\H dx=some (.own a):=by
 obtain⟨d,z,ne,ob,mA,n,r,q⟩:=(show ObjOk P w H h a (.ins C dx fs) from hok a _ e);exact⟨mA,⟨ob,n,ne⟩,r,q,z,d⟩
end
structure Cls (K:Frag)(C:Addr):Prop where
 pg:PySem.W.plainGet K C Str.empty=true
 hd:PySem.W.hasDictIn K C=true
 po:PySem.W.plainOver K C=true
 sa:PySem.W.findIn K (.ref C) "__setattr__" = some (some (.builtin "object.__setattr__"))
theorem Cls.get{K:Frag}{C:Addr}(c:Cls K C)(f:Str):PySem.W.plainGet K C f=true:=c.pg
section
variable{X:Cx}{pins:List (Addr×Obj)}{σ:St}{H:Hp}{s:Shared}{A:Around}{E:Value->Shared->Prop}{Q:Value->Shared->Prop}{c:Value}{b:Bool}
inductive TyOf (K:Frag) (H:Hp):V->Value->Prop where
 | non:TyOf K H .non (.type "NoneType")
 | bl (x:Bool):TyOf K H (.bl x) (.type "bool")
 | int (i:Int):TyOf K H (.int i) (.type "int")
 | str (x:Str):TyOf K H (.str x) (.type "str")
 | flt (x:UInt64):TyOf K H (.flt x) (.type "float")
 | lst {a:Addr} {xs:List V} (e:H a=some (.lst xs)):TyOf K H (.ref a) (.type "list")
 | frz {a:Addr} {o:Obj} {xs:List V} (e:H a=some (.frz o (.lst xs))):TyOf K H (.ref a) (.type "list")
 | tup {a:Addr} {xs:List V} (e:H a=some (.tup xs)):TyOf K H (.ref a) (.type "tuple")
 | dK {a:Addr} {kvs:List (uX×V)} (e:H a=some (.dK kvs)):TyOf K H (.ref a) (.type "dict")
 | dT {a:Addr} {kvs:List (List uX×V)} (e:H a=some (.dT kvs)):TyOf K H (.ref a) (.type "dict")
 | ins {a C dx:Addr} {fs:List (Str×V)} (e:H a=some (.ins C dx fs)) (cl:Cls K C) (ha:PySem.W.findIn K (.ref C) "__class__" = some (some (.builtin "object.__class__")))
   (hn:PySem.W.specialIn K (.builtin "object.__class__") "__get__" = some (some (.builtin "getset_descriptor.__get__"))) (htk:PySem.W.takesIn K (.builtin "object.__class__")=some true)
   (hm:PySem.W.mroIn K C (.type "object")=some true):TyOf K H (.ref a) (.ref C)
theorem AU{x:V}{u t:Value}(I:Inv X pins σ H s)(rx:RelV x u)(ty:TyOf X.K H x t)(e:PySem.W.kitOne X.K t c=some b)(h:∀ tk,Q (.bool b) { s with toks:=tk }) :
  wpAny (model X.prog X.w) A (call (.builtin "isinstance") [u,c]) Q E s:=by
 cases ty with
 | non=>cases (show u=Value.none from rx);exact PySem.W.kia_one PySem.W.kitx_none I.kIn True.intro e (λz=>nomatch z) h
 | bl y=>cases (show u=Value.bool y from rx);exact PySem.W.kia_one PySem.W.kitx_bool I.kIn True.intro e (λz=>nomatch z) h
 | int i=>obtain⟨t,q⟩:=(show ∃ t,u=Value.int i t from rx);cases q;exact PySem.W.kia_one PySem.W.kitx_int I.kIn True.intro e (λz=>nomatch z) h
 | str y=>obtain⟨t,q⟩:=(show ∃ t,u=Value.str y t from rx);cases q;exact PySem.W.kia_one PySem.W.kitx_str I.kIn True.intro e (λz=>nomatch z) h
 | flt y=>obtain⟨t,q⟩:=(show ∃ t,u=Value.float y t from rx);cases q;exact PySem.W.kia_one PySem.W.kitx_float I.kIn True.intro e (λz=>nomatch z) h
 | @lst a xs ea =>
  cases (show u=Value.ref a from rx);obtain⟨_,_,n,_,h1⟩:=(show ObjOk X.prog X.w H s.heap a (.lst xs) from I.hok a _ ea);exact PySem.W.kia_one PySem.W.kitx_list I.kIn ⟨_,h1,rfl⟩ e (λz=>nomatch z) h
 | @frz a ob xs ea =>
  cases (show u=Value.ref a from rx);obtain⟨_,_,_,n,_,h1⟩:=(show ObjOk X.prog X.w H s.heap a (.frz ob (.lst xs)) from I.hok a _ ea);exact PySem.W.kia_one PySem.W.kitx_list I.kIn ⟨_,h1,rfl⟩ e (λz=>nomatch z) h
 | @tup a xs ea =>
  cases (show u=Value.ref a from rx);obtain⟨_,_,_,p⟩:=(show ObjOk X.prog X.w H s.heap a (.tup xs) from I.hok a _ ea);obtain⟨o,h1,h2,_⟩:=p;exact PySem.W.kia_one PySem.W.kitx_tuple I.kIn ⟨o,h1,h2⟩ e (λz=>nomatch z) h
 | @dK a kvs ea =>
  cases (show u=Value.ref a from rx);obtain⟨_,_,vs,_,p⟩:=(show ObjOk X.prog X.w H s.heap a (.dK kvs) from I.hok a _ ea);obtain⟨o,es,ep,h1,h2,_⟩:=p;exact PySem.W.kia_one PySem.W.kitx_dict I.kIn ⟨o,h1,h2.1⟩ e (λz=>nomatch z) h
 | @dT a kvs ea =>
  cases (show u=Value.ref a from rx);obtain⟨_,_,xs,_,o,es,ep,h1,h2,_⟩:=(show ObjOk X.prog X.w H s.heap a (.dT kvs) from I.hok a _ ea);exact PySem.W.kia_one PySem.W.kitx_dict I.kIn ⟨o,h1,h2.1⟩ e (λz=>nomatch z) h
 | @ins a C dx fs ea cl ha hn htk hm =>
  cases (show u=Value.ref a from rx);obtain⟨mA,O,_⟩:=EF I.hok ea;obtain⟨od,J,_⟩:=O.look;exact PySem.W.kia_one (PySem.W.kitx_own (cl.get _) cl.hd ha hn htk hm) I.kIn J e (λz=>nomatch z) h
end
end L2
namespace L2
open PySem PySem.Spec PyProof.Rows
structure Room (k:Nat)(A:Around):Prop where
 hd:A.handled=none
 dp:A.depth+3*k+105<recursionLimit
 un:A.units+16*k+200<cLine
theorem Room.mono{j k:Nat}{A:Around}(r:Room k A)(h:j<=k):Room j A:=⟨r.hd,by have:=r.dp;omega,by have:=r.un;omega⟩
theorem Room.deeper{k:Nat}{A:Around}(r:Room (k+1) A)(env:Env):Room k (A.deeper env) :=
 ⟨r.hd,by have:=r.dp;show A.depth+1+3*k+105<_;omega,by have:=r.un;show A.units+3+16*k+200<_;omega⟩
theorem Room.depth{k:Nat}{A:Around}(r:Room k A):A.depth<recursionLimit:=by have:=r.dp;omega
theorem Room.units{k:Nat}{A:Around}(r:Room k A):A.units+64<cLine:=by have:=r.un;omega
def DM:TA:=λ_ H Q=>Q [] H
def vM(ta:TE)(tr:TA):TA:=λσ H Q=>ta σ H λx H1=>tr σ H1 λxs H2=>Q (x::xs) H2
section
variable{X:Cx}{e:Expr}{es:List Expr}{te:TE}{t:TA}{pos:Pos}
theorem pa_nil:PA X [] DM:=λ_ _ _ _ H Q I h=>Calls.spliced_nil ⟨[],H,I,.nil,h⟩
theorem qK(ha:PE X e te)(hr:PA X es t)(hs:starEach (e::es) X.env=(false,eval e X.env)::starEach es X.env:=by rfl):PA X (e::es) (vM te t):=by
 intro pos pins s σ H Q I h;rw [hs];show wpAny _ _ (spliced ((false,eval e X.env)::backTo pos (starEach es X.env))) _ _ s;refine Calls.spliced_cons (q8 (ha pins s σ H _ I h) λu s1 ⟨x,H1,I1,r1,q1⟩=>?_);exact q8 (hr pos pins s1 σ H1 _ I1 q1) λus s2 ⟨xs,H2,I2,r2,q2⟩=>⟨x::xs,H2,I2,.cons r1 r2,q2⟩
def JX(t:TA):TE:=λσ H Q=>t σ H λxs H1=>xs.length<=sizeLine/\∀ p,H1 p=none->Q (.ref p) (rD H1 p (.tup xs))
def J2(t:TA):TE:=λσ H Q=>t σ H λxs H1=>xs.length<=sizeLine/\∀ p,H1 p=none->Q (.ref p) (rD H1 p (.lst xs))
theorem BW{x1}(h:PA X es t):PE X (.Tuple es x1 pos) (JX t):=by
 intro pins s σ H Q I hq;refine wpAny_Tuple_spliced (q8 (h pos pins s σ H _ I hq) λus s1 ⟨xs,H1,I1,r,z,q⟩=>⟨by rw [← r.length];exact z,?_⟩);have hf:H1 s1.heap.objs.size=none:=I1.hok.fresh (af _);refine⟨.ref s1.heap.objs.size,rD H1 s1.heap.objs.size (.tup xs),I1.laid (t':=s1.toks) (λb u e=>ηH _ e) (af _) ?_,rfl,q _ hf⟩;exact⟨z,us,r,⟨_,ηG _ rfl,rfl,_,rfl⟩⟩
theorem yr(h:PA X es t):PE X (.List es pos) (J2 t):=by
 intro pins s σ H Q I hq;refine wpAny_List_spliced (q8 (h pos pins s σ H _ I hq) λus s1 ⟨xs,H1,I1,r,z,q⟩=>⟨by rw [← r.length];exact z,?_⟩);have hf:H1 s1.heap.objs.size=none:=I1.hok.fresh (af _);refine⟨.ref s1.heap.objs.size,rD H1 s1.heap.objs.size (.lst xs),I1.laid (t':=s1.toks) (λb u e=>ηH _ e) (af _) ?_,rfl,q _ hf⟩;exact⟨z,us,0,r,ηG _ rfl⟩
end
abbrev Sp:=List V->Hp->VK->XK->Prop
abbrev DC:=List Env->Hp->Shared->XK->Value->Shared->Prop
structure Env0 (P:Program)(w:World)(K:Frag)(mg:Str->Option Value)(base:Heap)(A:Around)(outer:List Env)(s:Shared)(H:Hp):Prop where
 frames:A.frames=some outer
 mod:Mod K mg base
 bs:∀ b o,base.get? b=some o->s.heap.get? b=some o/\H b=none
 bsz:base.objs.size<=s.heap.objs.size
 funs:s.heap.FunFrames base outer
 frf:∀ b∈zX outer,H b=none
 hok:HOk P w H s.heap
 bare:AllBare s.gens
 sr:base.NoSeer/\P.given.tree=none
def CE(outer:List Env)(P:Program)(w:World)(H:Hp)(s:Shared)(Q:VK)(u:Value)(s':Shared):Prop :=
 ∃ v H',s'.os=s.os/\AllBare s'.gens/\Un (zX outer) [] H H' s.heap s'.heap/\HOk P w H' s'.heap/\RelV v u/\Q v H'
def CR(CX:DC)(outer:List Env)(P:Program)(w:World)(H:Hp)(s:Shared)(Q:VK)(E:XK)(r:Result)(s':Shared):Prop :=
 match r with
 | .ok (.ret u)=>CE outer P w H s Q u s'
 | .ok _=>False
 | .error e=>CX outer H s E e s'
structure FnOk (P:Program)(w:World)(K:Frag)(mg:Str->Option Value)(base:Heap)(CX:DC)(k:Nat)(f:Addr)(fd:FuncData)(ps:List Str)(sp:Sp):Prop where
 len:∀ vs H Q E,sp vs H Q E->vs.length=ps.length
 run:∀(A:Around) (outer:List Env) (s:Shared) (H:Hp) (args:Args) (us:List Value) (vs:List V) (Q:VK) (E:XK),Room k A->Env0 P w K mg base A outer s H->BindsTo s fd args (ps.zip us)->Vals vs us->sp vs H Q E ->
  codeAny (model P w) A (.call (.ref f) args) (CR CX outer P w H s Q E) s
theorem FnOk.imp{P:Program}{w:World}{K:Frag}{mg:Str->Option Value}{base:Heap}{CX:DC}{k:Nat}{f:Addr}{fd:FuncData}{ps:List Str}{sp sp':Sp}(F:FnOk P w K mg base CX k f fd ps sp)
  (h:∀ vs H Q E,sp' vs H Q E->sp vs H Q E):FnOk P w K mg base CX k f fd ps sp' :=
 ⟨λvs H Q E q=>F.len vs H Q E (h _ _ _ _ q),λA outer s H args us vs Q E hr he hb hv hs=>F.run A outer s H args us vs Q E hr he hb hv (h _ _ _ _ hs)⟩
section
variable{X:Cx}{pins:List (Addr×Obj)}{σ:St}{H:Hp}{s s':Shared}
theorem Inv.env0(I:Inv X pins σ H s):Env0 X.prog X.w X.K X.mg X.base X.A X.stack s H :=
 ⟨I.ok.frames,I.ok.mod,I.bs,aC I.ok.bsz I.sz,I.stack,I.stkFree,I.hok,I.bare,I.ok.sr⟩
theorem Inv.after{Q:VK}{u:Value}(I:Inv X pins σ H s)(h:CE X.stack X.prog X.w H s Q u s'):EP X pins σ Q u s':=by
 obtain⟨v,H',os,bare,un,hok,r,q⟩:=h;obtain⟨hh,g,d,t,os'⟩:=s';obtain rfl:os'=s.os:=os;exact⟨v,H',I.call (h':=hh) (g':=g) (d':=d) (t':=t) (ch:=[]) un hok bare (λb z=>absurd z (by simp)),r,q⟩
end
def zm(sp:Sp)(dvs:List V)(E:XK)(t:TA):TE:=λσ H Q=>t σ H λvs H1=>sp (vs++dvs) H1 Q E
def Binds(K:Frag)(fd:FuncData)(ps:List Str)(ds:List Value):Prop :=
 ∀(s:Shared) (us:List Value),K.In s.heap->(us++ds).length=ps.length->BindsTo s fd ⟨us,[]⟩ (ps.zip (us++ds))
theorem Binds.all{K:Frag}{fd:FuncData}{ps:List Str}(h:∀ us:List Value,us.length=ps.length->bindArgs fd ⟨us,[]⟩=pure (ps.zip us)):Binds K fd ps []:=λs us _ hl=>by
 rw [dc] at hl ⊢;exact .of_eq (h us hl)
def y7(CX:DC)(X:Cx)(E:XK):Prop:=∀(pins:List (Addr×Obj)) (σ:St) (H:Hp) (s:Shared) (e:Value) (s':Shared),Inv X pins σ H s->CX X.stack H s E e s'->X.xe e s'
section
variable{X:Cx}{CX:DC}{k:Nat}{f C:Addr}{fd:FuncData}{ps:List Str}{sp:Sp}{dvs:List V}{ds:List Value}{E:XK}{x m:Str}{p pos apos:Pos}{e o:Expr}{es:List Expr}{ta:TE}{t:TA}
theorem F6{pins:List (Addr×Obj)}{σ:St}{H:Hp}{s:Shared}{Q:VK}{us:List Value}{vs:List V}(F:FnOk X.prog X.w X.K X.mg X.base CX k f fd ps sp)(hr:Room k X.A)(hb:Binds X.K fd ps ds)(hd:Vals dvs ds)(hx:y7 CX X E)
  (I:Inv X pins σ H s) (r:Vals vs us) (h:sp (vs++dvs) H Q E):wpAny (model X.prog X.w) X.A (call (.ref f) us) (EP X pins σ Q) X.xe s:=by
 have r2:Vals (vs++dvs) (us++ds):=r.append hd;have hl:(us++ds).length=ps.length:=by rw [← r2.length];exact F.len _ _ _ _ h
 refine wpAny_call (codeAny_mono (F.run X.A X.stack s H ⟨us,[]⟩ (us++ds) (vs++dvs) Q E hr I.env0 (hb s us I.kIn hl) r2 h) λr s' hq=>?_);cases r with
 | error e=>exact hx pins σ H s e s' I hq
 | ok fl =>
  cases fl with
  | ret u=>exact I.after hq
  | next=>exact False.elim hq
  | brk=>exact False.elim hq
  | cont=>exact False.elim hq
theorem D7(F:FnOk X.prog X.w X.K X.mg X.base CX k f fd ps sp)(hr:Room k X.A)(hg:Gl X x)(hm:X.mg x=some (.ref f))(hk:PySem.W.keepIn X.K (.ref f)=true)(hb:Binds X.K fd ps ds)(hd:Vals dvs ds)(hx:y7 CX X E)
  (ha:PA X (e::es) t) (hdb:(x == ("__debug__" : Str))=false:=by decide) (he:starEach (e::es) X.env=(false,eval e X.env)::starEach es X.env:=by rfl) (hpl:(backTo pos (starEach es X.env)).any (·.1)=false:=by rfl) :
  PE X (.Call (.Name x p) (e::es) [] pos) (zm sp dvs E t):=by
 intro pins s σ H Q I h;refine wpAny_Call_Name_kw (zK I hg hm ?_ hdb);refine PySem.W.callWith_K (h₀:=X.base) I.ok.mod.kin hk (q8 (ha pos pins s σ H _ I h) λus s1 ⟨vs,H1,I1,r,q⟩=>⟨I1.kIn,?_⟩) he hpl;exact F6 F hr hb hd hx I1 r q
end
structure FnScope (N P:List Str)(sc:Scope):Prop where
 kind:sc.kind = .function
 co:sc.isCoroutine=false
 gen:sc.isGenerator=false
 nd:N.Nodup
 pre:N.take P.length=P
 par:∀ x∈P,sc.names.lookup x=some .local\/sc.names.lookup x=some .cell
 nofree:∀ y∈sc.names,y.2 ≠ .free
theorem wa{kindOf:Str->Option NameKind}{x:Str}:∀{binds:List (Str×Value)} {m:Str->Option Value},(∀ v,(x,v) ∉ binds)->bindL kindOf binds m x=m x
 | [],_,_=>rfl
 | (n,v)::r,m,h=>by
  unfold bindL;rw [wa λw hw=>h w (ay _ hw)];split
  ·have:x≠n:=by rintro rfl;exact h v aE
   simp [this]
  ·rfl
theorem wc{kindOf:Str->Option NameKind}{x:Str}:∀{binds:List (Str×Value)} {m:Str->Option Value},(∀ v,(x,v) ∉ binds)->bindC kindOf binds m x=m x
 | [],_,_=>rfl
 | (n,v)::r,m,h=>by
  unfold bindC;rw [wc λw hw=>h w (ay _ hw)];split
  ·rfl
  ·have:x≠n:=by rintro rfl;exact h v aE
   simp [this]
theorem wb{kindOf:Str->Option NameKind}{x:Str}{v:Value}:∀{P:List Str} {vs:List Value} {i:Nat} {m:Str->Option Value},P.Nodup->P[i]? = some x->vs[i]? = some v->kindOf x=some .local ->
  bindL kindOf (P.zip vs) m x=some v
 | [],_,_,_,_,h,_,_=>by simp at h
 | _::_,[],_,_,_,_,h,_=>by simp at h
 | p::P,w::vs,0,m,nd,h1,h2,hk=>by
  simp at h1 h2;subst h1;subst h2;show bindL kindOf ((p,w)::P.zip vs) m p=_;unfold bindL;rw [wa λv hv=>(c8.mp nd).1 (e8 hv).1,if_pos hk];simp
 | p::P,w::vs,i+1,m,nd,h1,h2,hk=>by
  show bindL kindOf ((p,w)::P.zip vs) m x=_;unfold bindL;exact wb (i:=i) (c8.mp nd).2 (by simpa using h1) (by simpa using h2) hk
theorem we{kindOf:Str->Option NameKind}{x:Str}{v:Value}:∀{P:List Str} {vs:List Value} {i:Nat} {m:Str->Option Value},P.Nodup->P[i]? = some x->vs[i]? = some v->kindOf x≠some .local ->
  bindC kindOf (P.zip vs) m x=some v
 | [],_,_,_,_,h,_,_=>by simp at h
 | _::_,[],_,_,_,_,h,_=>by simp at h
 | p::P,w::vs,0,m,nd,h1,h2,hk=>by
  simp at h1 h2;subst h1;subst h2;show bindC kindOf ((p,w)::P.zip vs) m p=_;unfold bindC;rw [wc λv hv=>(c8.mp nd).1 (e8 hv).1,if_neg hk];simp
 | p::P,w::vs,i+1,m,nd,h1,h2,hk=>by
  show bindC kindOf ((p,w)::P.zip vs) m x=_;unfold bindC;exact we (i:=i) (c8.mp nd).2 (by simpa using h1) (by simpa using h2) hk
def start(N:List Str)(vs:List V):St:=vs.map some++List.replicate (N.length-vs.length) none
def yP(CX:DC)(P:Program)(w:World)(K:Frag)(mg:Str->Option Value)(base:Heap)(N:List Str)(qual:Str)(scope:Scope)(f:Addr)(cd:Value)(A:Around)(outer:List Env)(s:Shared)(H:Hp)(E:XK):Cx where
 prog:=P
 w:=w
 K:=K
 mg:=mg
 base:=base
 A:=A.deeper (envOfC qual scope s.heap.objs.size f cd)
 N:=N
 s₀:=s
 H₀:=H
 env:=envOfC qual scope s.heap.objs.size f cd
 outer:=outer
 stack:=envOfC qual scope s.heap.objs.size f cd::outer
 ex:=[]
 calm:=true
 fn:=λ_=>true
 pn:=[]
 xe:=λe s'=>wpAny (model P w) (A.deeper (envOfC qual scope s.heap.objs.size f cd)) (leaving (envOfC qual scope s.heap.objs.size f cd) e) (λ_ s''=>CX outer H s E e s'') (λe' s''=>CX outer H s E e' s'') s'
theorem xU{sc:Scope}{n:Nat}{x:Str}(h:sc.names.lookup x=some .cell):∃ c,(cellsFrom n sc.names []).lookup x=some c:=by
 have q:=PySem.W.cellsFrom_some sc.names n [] (.inl h);exact Option.isSome_iff_exists.mp q
theorem AW{CX:DC}{P:Program}{w:World}{K:Frag}{mg:Str->Option Value}{base:Heap}{N ps:List Str}{qual:Str}{scope:Scope}{f:Addr}{cd:Value}{A:Around}{outer:List Env}{s s1:Shared}{H:Hp}{E:XK}{us:List Value}{vs:List V}
  (S:FnScope N ps scope) (hd:A.handled=none) (e0:Env0 P w K mg base A outer s H) (hl:vs.length=ps.length) (r:Vals vs us)
  (x:InCallC s s.heap.objs.size (bindL (envOfC qual scope s.heap.objs.size f cd).kindOf (ps.zip us) λ_=>none) (cellsFrom (s.heap.objs.size+1) scope.names []) (bindC (envOfC qual scope s.heap.objs.size f cd).kindOf (ps.zip us) λ_=>none) s1) :
  Inv (yP CX P w K mg base N qual scope f cd A outer s H E) [] (start N vs) H s1:=by
 have hpl:ps.length<=N.length:=by have:=congrArg List.length S.pre;rw [aZ] at this;omega
 obtain⟨h1,tk,rfl,hk⟩:=x.done;have noA:∀ b:Addr,b ∉ (yP CX P w K mg base N qual scope f cd A outer s H E).ex:=λb z=>absurd (show b∈([]:List Addr) from z) (by simp);refine⟨⟨e0.mod,S.kind,rfl,rfl,af _,λy z c h1 h2=>?_,λy hy=>?_,λy c _ h=>?_,λ_=>hd,Around.frames_deeper e0.frames,.inr ⟨rfl,rfl⟩,λb z=>absurd z (noA b),e0.bs,e0.bsz,λb _ _=>noA b,λb z=>absurd z (noA b),e0.funs,e0.frf,e0.sr,⟨_,_,rfl,S.gen,S.co,rfl,rfl⟩⟩,
  rfl,e0.bare,Un.kept hk,⟨_,x.toInCall.ns,λi y v h1 h2 h3=>?_⟩,λy c h=>⟨_,x.cell y c h⟩,e0.hok.fresh (af _),λy c h=>?_,λp hp=>absurd (show p∈([]:List (Addr×Obj)) from hp) (by simp),e0.hok.kept hk,?_⟩
 ·exact name_of_addr x.apart (PySem.mem_of_lookup h1) (PySem.mem_of_lookup h2)
 ·have hy:scope.names.lookup y=some .cell\/scope.names.lookup y=some .free:=hy;rcases hy with hy|hy
  ·exact xU hy
  ·exact absurd rfl (S.nofree _ (PySem.mem_of_lookup hy))
 ·exact eX (x.above y c (PySem.mem_of_lookup h))
 ·have hi:i<vs.length:=by
   unfold start at h2;by_cases hi:i<vs.length
   ·exact hi
   ·rw [av (by simpa using hi)] at h2;rw [dU] at h2;split at h2 <;> cases h2
  have ha:vs[i]? = some v:=by
   unfold start at h2;rw [aR (by simpa using hi),aJ] at h2;cases e:vs[i]? with
   | none=>rw [e] at h2;cases h2
   | some a=>rw [e] at h2;cases h2;rfl
  obtain⟨u,hu,rv⟩:=r.get ha;have hp:ps[i]? = some y:=by
   rw [← S.pre,dL (by omega)];exact h1
  have ndP:ps.Nodup:=by rw [← S.pre];exact S.nd.sublist (List.take_sublist _ _)
  refine⟨u,rv,?_⟩;rcases S.par y (aL hp) with k|k
  ·exact .inl ⟨k,wb ndP hp hu k⟩
  ·obtain⟨c,e⟩:=xU (n:=s.heap.objs.size+1) k;refine .inr ⟨.inl k,c,e,?_⟩;have q:=x.cell y c e;rw [we ndP hp hu (by show scope.names.lookup y≠_;rw [k];decide)] at q;exact q
 ·exact e0.hok.fresh (eX (x.above y c (PySem.mem_of_lookup h)))
 ·unfold start;show _=N.length;rw [aq,aa,bW];omega
theorem Jh{CX:DC}{P:Program}{w:World}{K:Frag}{mg:Str->Option Value}{base:Heap}{k:Nat}{f:Addr}{name qual:Str}{params:Arguments}{body:List Stmt}{scope:Scope}{dV kV doc pm cdv ct oc:Value}{an od:Option Addr}
  {osl:Array (Option Value)} {N ps:List Str} {sp:Sp} (lk:K.lookup f=some ⟨oc,od,.func (PySem.W.fnOf name qual params body scope dV kV doc pm an cdv ct),osl⟩) (hcd:PySem.W.codeIn K cdv qual=true) (S:FnScope N ps scope)
  (len:∀ vs H Q E,sp vs H Q E->vs.length=ps.length)
  (hbody:∀(A:Around) (outer:List Env) (s:Shared) (H:Hp) (vs:List V) (Q:VK) (E:XK),Room k (A.deeper (envOfC qual scope s.heap.objs.size f cdv))->sp vs H Q E ->
   ∃ t,PSs (yP CX P w K mg base N qual scope f cdv A outer s H E) body t/\t { nx:=λ_ H'=>Q .non H',rt:=Q } (start N vs) H) :
  FnOk P w K mg base CX (k+1) f (PySem.W.fnOf name qual params body scope dV kV doc pm an cdv ct) ps sp:=by
 refine⟨len,λA outer s H args us vs Q E hr e0 hb r hsp=>?_⟩;have hl:=len _ _ _ _ hsp;have KX:K.In s.heap:=e0.mod.kin.keeps λb o e=>(e0.bs b o e).1;have lim:s.heap.NoLimit:=e0.mod.nolimit.keeps λb o e=>(e0.bs b o e).1;have hkind:∀ y∈ps.zip us,scope.names.lookup y.1=some .local\/(scope.names.lookup y.1=some .cell/\((cellsFrom (s.heap.objs.size+1) scope.names []).lookup y.1).isSome=true):=fun⟨n,v⟩ hy=>by
  rcases S.par n (e8 hy).1 with q|q
  ·exact .inl q
  ·exact .inr ⟨q,PySem.W.cellsFrom_some _ _ _ (.inl q)⟩
 refine codeAny_call_function hr.depth (KX _ _ lk) rfl S.co S.gen rfl (PySem.W.codeRec_of KX hcd) (hb _ _ _ _ ?_);refine wpAny_newFunctionEnv_cells S.kind hkind λenv he s1 x=>?_;subst he;refine⟨lim.keeps x.toInCall.keep,codeAny_func ?_⟩;obtain⟨t,ht,hq⟩:=hbody A outer s H vs Q E (hr.deeper _) hsp;have I:Inv (yP CX P w K mg base N qual scope f cdv A outer s H E) [] (start N vs) H s1:=AW S hr.hd e0 hl r x;refine wpAny_mono (ht [] s1 (start N vs) H _ I hq) (λfl s' hs=>?_) λe s' hs=>hs;have fin:∀{σ':St} {H':Hp} {v:V} {u:Value},Inv (yP CX P w K mg base N qual scope f cdv A outer s H E) [] σ' H' s'->RelV v u->Q v H'->CE outer P w H s Q u s' :=
  λ{σ' H' v u} J rv q=>⟨v,H',J.os,J.bare,J.base,J.hok,rv,q⟩
 cases fl with
 | ret u =>
  obtain⟨v,σ',H',J,rv,q⟩:=hs;exact fin J rv q
 | next =>
  obtain⟨σ',H',J,q⟩:=hs;exact fin (v:=V.non) (u:=Value.none) J rfl q
 | brk =>
  obtain⟨_,_,_,q⟩:=hs;exact False.elim q
 | cont =>
  obtain⟨_,_,_,q⟩:=hs;exact False.elim q
end L2
namespace L2
open PySem PySem.Spec PyProof.Rows
section
variable{X:Cx}{x:Str}{p pos:Pos}{e:Expr}{es:List Expr}{t:TA}{id T:String}{r:List V->Hp->VK->Prop}
def J6(r:List V->Hp->VK->Prop)(t:TA):TE:=λσ H Q=>t σ H λvs H1=>r vs H1 Q
theorem ra(hc:CallR X (.builtin id) r)(hg:Gl X x)(hm:X.mg x=none)(hv:bootBuiltins x=some (.builtin id))(ha:PA X (e::es) t)(hn:x ≠ "__name__" := by decide)(hdb:(x == ("__debug__" : Str))=false:=by decide)
  (he:starEach (e::es) X.env=(false,eval e X.env)::starEach es X.env:=by rfl) (hpl:(backTo pos (starEach es X.env)).any (·.1)=false:=by rfl):PE X (.Call (.Name x p) (e::es) [] pos) (J6 r t):=by
 intro pins s σ H Q I h;refine wpAny_Call_Name_kw (rZ I hg hm hv ?_ hn hdb);exact PyProof.Rows.callWith_builtin1 (q8 (ha pos pins s σ H _ I h) λus s1 ⟨vs,H1,I1,r1,q1⟩=>hc pins s1 σ H1 vs us Q I1 r1 q1) he hpl
theorem uw(hc:CallR X (.type T) r)(hg:Gl X x)(hm:X.mg x=none)(hv:bootBuiltins x=some (.type T))(ha:PA X (e::es) t)(hn:x ≠ "__name__" := by decide)(hdb:(x == ("__debug__" : Str))=false:=by decide)
  (he:starEach (e::es) X.env=(false,eval e X.env)::starEach es X.env:=by rfl) (hpl:(backTo pos (starEach es X.env)).any (·.1)=false:=by rfl):PE X (.Call (.Name x p) (e::es) [] pos) (J6 r t):=by
 intro pins s σ H Q I h;refine wpAny_Call_Name_kw (rZ I hg hm hv ?_ hn hdb);exact PyProof.Rows.callWith_type1 (q8 (ha pos pins s σ H _ I h) λus s1 ⟨vs,H1,I1,r1,q1⟩=>hc pins s1 σ H1 vs us Q I1 r1 q1) he hpl
end
end L2
namespace HT
open PySem PyProof.Rows
section
open PySem.SeqAt
open PySem.AutoSeq1 (wpAny_loadPart')
open PySem.MeetsSeq PySem.MeetsSeq2 PySem.MeetsSeq3
end
section
variable{prog:Program}{w:World}{A:Around}{E:Value->Shared->Prop}{s:Shared}
theorem ES{t b:Addr}{vs ws:List Value}{Q:Value->Shared->Prop}(ht:IsTup s.heap t vs.toArray)(hb:IsTup s.heap b ws.toArray)(hv:vs≠[])
  (h1:ws=[]->Q (.ref t) s) (h2:ws≠[]->Q (.ref s.heap.objs.size) { s with heap:=s.heap.push { cls:=.type "tuple",data:=.seq (vs++ws).toArray } })
  (hsz:vs.length+ws.length<=sizeLine):wpAny (model prog w) A (binaryOp .Add (.ref t) (.ref b)) Q E s:=by
 obtain⟨⟨cls,dd,data,sl⟩,ho,hc,n,hd⟩:=id ht;obtain⟨⟨cls2,dd2,data2,sl2⟩,ho2,hc2,n2,hd2⟩:=id hb;simp only at hc hd hc2 hd2;subst hc hd hc2 hd2;have e:vs.toArray++ws.toArray=(vs++ws).toArray:=by simp
 by_cases hw:ws=[]
 ·exact concat_meets ⟨_,ho,rfl⟩ ⟨_,ho2,rfl⟩ noFill_tuple_add seq_tuple_add PySem.F.slot_tuple_add PySem.F.entry_tuple_add (PySem.F.args_tuple_add_2 _ _)
   (tuple_addW1 t b vs.toArray ws.toArray n n2 dd dd2 sl sl2 (by simpa using hv) (by simp [hw])) ⟨ho,ho2,h1 hw⟩
 ·refine concat_meets ⟨_,ho,rfl⟩ ⟨_,ho2,rfl⟩ noFill_tuple_add seq_tuple_add PySem.F.slot_tuple_add PySem.F.entry_tuple_add (PySem.F.args_tuple_add_2 _ _)
   (tuple_addW2 t b vs.toArray ws.toArray n n2 dd dd2 sl sl2 (by simpa using hv) (by simpa using hw) (by rw [ak,ak];exact hsz)) ⟨ho,ho2,?_⟩
  rw [e];exact h2 hw
def rF(n d:Nat):Option Int->Nat
 | none=>d
 | some v=>if v<0 then (v+(n:Int)).toNat else min v.toNat n
theorem u9(n d:Nat):rF n d none=d:=rfl
theorem wy(n d k:Nat):rF n d (some (k:Int))=min k n:=by
 show (if (k:Int)<0 then ((k:Int)+(n:Int)).toNat else min (k:Int).toNat n)=min k n;rw [if_neg (by omega),aS]
theorem F5(n d:Nat)(hd:d<=n)(o:Option Int):rF n d o<=n:=by
 cases o with
 | none=>exact hd
 | some v =>
  show (if v<0 then (v+(n:Int)).toNat else min v.toNat n)<=n;by_cases hv:v<0
  ·rw [if_pos hv];omega
  ·rw [if_neg hv];exact Nat.min_le_right _ _
theorem Aj(v:Int)(n d:Nat):(if v<0 then max (v+(n:Int)) 0 else min v (n:Int))=((rF n d (some v):Nat):Int):=by
 show (if v<0 then max (v+(n:Int)) 0 else min v (n:Int))=(((if v<0 then (v+(n:Int)).toNat else min v.toNat n):Nat):Int);by_cases hv:v<0
 ·simp only [if_pos hv];omega
 ·simp only [if_neg hv];omega
theorem y6(lo hi:Option Int)(n:Nat):Builtin.Slice.sliceAdjust lo hi 1 (n:Int)=(((rF n 0 lo:Nat):Int),((rF n n hi:Nat):Int)):=by
 have h1:¬ ((1:Int)<0):=by omega
 unfold Builtin.Slice.sliceAdjust;simp only [h1,if_false];refine Prod.ext ?_ ?_
 ·cases lo with
  | none=>rfl
  | some v=>exact Aj v n 0
 ·cases hi with
  | none=>rfl
  | some v=>exact Aj v n n
theorem ym(i j:Nat):Builtin.Slice.slicePlaces (i:Int) (j:Int) 1=j-i:=by
 unfold Builtin.Slice.slicePlaces;have h1:(1:Int) > 0:=by omega
 simp only [h1,if_true,Int.ediv_one];split <;> omega
theorem u6{v:Value}{o:Option Int}{Q:Option Int->Shared->Prop}(p:IsPart v o)(h:Q o s):wpAny (model prog w) A (Builtin.Slice.slicePartIndex v) Q E s:=by
 cases p with
 | none=>exact slicePart_none h
 | int i t=>exact slicePart_int h
theorem sB{sl:Addr}{vl vu:Value}{lo hi:Option Int}{n:Nat}{Q:Int×Int×Nat->Shared->Prop}(hs:s.heap.IsSliceOf sl vl vu .none)(pl:IsPart vl lo)(pu:IsPart vu hi)
  (h:Q (((rF n 0 lo:Nat):Int),1,rF n n hi-rF n 0 lo) s):wpAny (model prog w) A (Builtin.Slice.sliceApplied (.ref sl) (pure (n:Int))) Q E s:=by
 obtain⟨os,hos,hcs,hds⟩:=id hs;unfold Builtin.Slice.sliceApplied Builtin.Slice.sliceFields;refine ηB (ηB (wpAny_field hos hds (x:=vl) rfl (ηB (wpAny_field hos hds (x:=vu) rfl (ηB (wpAny_field hos hds (x:=.none) rfl (ηP ?_)))))));refine ηB (slicePart_none ?_);show wpAny _ _ (if ((1:Int) == 0)=true then _ else _) _ _ s;rw [if_neg (by decide)];refine ηB (u6 pl (ηB (u6 pu (ηB (ηP ?_)))));show wpAny _ _ (match Builtin.Slice.sliceAdjust lo hi 1 (n:Int) with|(lo,hi)=>pure (lo,(1:Int),Builtin.Slice.slicePlaces lo hi 1)) _ _ s;rw [y6 lo hi n];show wpAny _ _ (pure (((rF n 0 lo:Nat):Int),(1:Int),Builtin.Slice.slicePlaces ((rF n 0 lo:Nat):Int) ((rF n n hi:Nat):Int) 1)) _ _ s;rw [ym];exact ηP h
theorem BT(xs:Array Value)(i k:Nat):((List.range k).filterMap λ(m:Nat)=>xs[((i:Int)+(m:Int)*1).toNat]?).toArray=((xs.toList.drop i).take k).toArray:=by
 have e:(λ(m:Nat)=>xs[((i:Int)+(m:Int)*1).toNat]?)=λm=>xs[i+m]?:=by
  funext m;have:((i:Int)+(m:Int)*1).toNat=i+m:=by omega
  rw [this]
 rw [e];have:=pick_run xs i k;rw [List.filterMap_map] at this;have e2:((λx=>xs[x]?)∘λx=>i+x)=λm=>xs[i+m]?:=rfl;rw [e2] at this;rw [this]
theorem ud{t sl:Addr}{items:Array Value}{vl vu:Value}{lo hi:Option Int}{Q:Value->Shared->Prop}(ht:IsTup s.heap t items)(hs:s.heap.IsSliceOf sl vl vu .none)(pl:IsPart vl lo)(pu:IsPart vu hi)
  (hw:¬ (rF items.size 0 lo=0/\rF items.size items.size hi=items.size))
  (h:Q (.ref s.heap.objs.size) { s with heap:=s.heap.push { cls:=.type "tuple",data:=.seq ((items.toList.drop (rF items.size 0 lo)).take (rF items.size items.size hi-rF items.size 0 lo)).toArray } })
  (hsz:items.size<=sizeLine):wpAny (model prog w) A (getItem (.ref t) (.ref sl)) Q E s:=by
 have htake:sizeOk (.seq ((items.toList.drop (rF items.size 0 lo)).take (rF items.size items.size hi-rF items.size 0 lo)).toArray):=by
  show ((items.toList.drop (rF items.size 0 lo)).take (rF items.size items.size hi-rF items.size 0 lo)).toArray.size<=sizeLine;rw [ak,aZ,eZ,cr];omega
 have hj:rF items.size items.size hi<=items.size:=F5 _ _ (af _) hi;obtain⟨os,hos,hcs,hds⟩:=id hs;have hTs:s.TypeIs (.ref sl) "slice" := ⟨os,hos,hcs⟩;unfold getItem;try with_reducible refine wpAny_holding ?_
 first|refine ηB (ηP ?_)|skip
 refine ηB (wpAny_sequenceKey ht.typeIs (by decide) ?_);refine ηB (wpAny_callSpecial?_slot (name:=Str.ofString "__getitem__") ht.typeIs PyProof.Rows.slot_tuple_getitem
  (wpAny_call_entry PyProof.Rows.slot_tuple_getitem ht.typeIs entry_tuple_getitem ?_ (args_tuple_getitem _ _)))
 show wpAny _ _ (Builtin.Tuple.tupleItemsOf (.ref t) >>= _) _ _ s;refine ηB (tupleItemsOf_ ht ?_);refine ηB (wpAny_typeOf hTs ?_);rw [if_pos (by decide)];refine ηB (sB hs pl pu ?_);have hno:¬ ((((rF items.size 0 lo:Nat):Int) == 0 && (1:Int) == 1 && (rF items.size items.size hi-rF items.size 0 lo) == items.size)=true):=by
  intro q;rw [bw,bw] at q;have q1:((rF items.size 0 lo:Nat):Int)=0:=eq_of_beq q.1.1;have q2:rF items.size items.size hi-rF items.size 0 lo=items.size:=eq_of_beq q.2;exact hw ⟨by omega,by omega⟩
 show wpAny _ _ (if (((rF items.size 0 lo:Nat):Int) == 0 && (1:Int) == 1 && (rF items.size items.size hi-rF items.size 0 lo) == items.size)=true then _ else _) _ _ s;rw [if_neg hno,BT];first
  | exact ηB (m:=Builtin.Tuple.tupleExact _) (wpAny_newObj_type (ηP ⟨_,rfl,ηP h⟩) htake)
  | exact ηB (m:=Builtin.Tuple.tupleExact _) (wpAny_newObj_type (ηB (ηP (ηP ⟨_,rfl,ηP h⟩))) htake)
  | exact ηB (ηB (m:=Builtin.Tuple.tupleExact _) (wpAny_newObj_type (ηP (ηP ⟨_,rfl,ηP h⟩)) htake))
  | exact ηB (ηB (m:=Builtin.Tuple.tupleExact _) (wpAny_newObj_type (ηP ⟨_,rfl,ηP h⟩) htake))
end
end HT
namespace L2
open PySem PySem.Spec PyProof.Rows
abbrev TO:=St->Hp->(Option Int->Hp->Prop)->Prop
def PO(X:Cx)(e:Option Expr)(t:TO):Prop :=
 ∀(pins:List (Addr×Obj)) (s:Shared) (σ:St) (H:Hp) (Q:Option Int->Hp->Prop),Inv X pins σ H s->t σ H Q ->
  wpAny (model X.prog X.w) X.A (evalPart e X.env) (λu s'=>∃ o H',Inv X pins σ H' s'/\IsPart u o/\Q o H') X.xe s
def DL:TO:=λ_ H Q=>Q none H
def Ic(t:TE):TO:=λσ H Q=>t σ H λx H1=>∃ i,x = .int i/\Q (some i) H1
section
variable{X:Cx}{e:Expr}{te:TE}{lo hi:Option Expr}{tl th:TO}{pos p2:Pos}
theorem po_none:PO X none DL:=by
 intro pins s σ H Q I h;rw [evalPart_none];exact ηP ⟨none,H,I,.none,h⟩
theorem zr(h:PE X e te):PO X (some e) (Ic te):=by
 intro pins s σ H Q I hw;rw [evalPart_some];refine q8 (h pins s σ H _ I hw) λu s1 ⟨x,H1,I1,r1,q1⟩=>?_;obtain⟨i,rfl,q⟩:=q1;obtain⟨t,rfl⟩:=r1;exact⟨some i,H1,I1,.int i t,q⟩
def SlR(X:Cx)(r:V->Option Int->Option Int->Hp->VK->Prop):Prop :=
 ∀(pins:List (Addr×Obj)) (s:Shared) (σ:St) (H:Hp) (x:V) (v vl vu:Value) (lo hi:Option Int) (sl:Addr) (Q:VK),Inv X pins σ H s->RelV x v->s.heap.IsSliceOf sl vl vu .none->IsPart vl lo->IsPart vu hi->r x lo hi H Q ->
  ∃ T id,typeLookup (.type T) "__getitem__" = pure (some (.builtin id))/\s.TypeIs v T/\wpAny (model X.prog X.w) X.A (getItem v (.ref sl)) (EP X pins σ Q) X.xe s
theorem SlR.or{r r':V->Option Int->Option Int->Hp->VK->Prop}(h:SlR X r)(h':SlR X r'):SlR X (λx lo hi H Q=>r x lo hi H Q\/r' x lo hi H Q):=by
 intro pins s σ H x v vl vu lo hi sl Q I rx hs pl pu q;rcases q with q|q
 ·exact h pins s σ H x v vl vu lo hi sl Q I rx hs pl pu q
 ·exact h' pins s σ H x v vl vu lo hi sl Q I rx hs pl pu q
def Lr(r:V->Option Int->Option Int->Hp->VK->Prop)(te:TE)(tl th:TO):TE:=λσ H Q=>te σ H λx H1=>tl σ H1 λl H2=>th σ H2 λu H3=>r x l u H3 Q
theorem BX{r:V->Option Int->Option Int->Hp->VK->Prop}(hr:SlR X r)(he:PE X e te)(hl:PO X lo tl)(hu:PO X hi th):PE X (.Subscript e (.Slice lo hi none p2) pos) (Lr r te tl th):=by
 intro pins s σ H Q I h;refine Subscript_ (q8 (he pins s σ H _ I h) λv s1 ⟨x,H1,I1,r1,q1⟩=>?_);refine wpAny_Slice (q8 (hl pins s1 σ H1 _ I1 q1) λvl s2 ⟨l,H2,I2,pl,q2⟩=>q8 (hu pins s2 σ H2 _ I2 q2) λvu s3 ⟨u,H3,I3,pu,q3⟩=>?_);rw [evalPart_none];refine ηP ?_;have I4:Inv X pins σ H3 { s3 with heap:=s3.heap.push { cls:=.type "slice",data:=.fields #[vl,vu,.none] } }:=I3.kept (t':=s3.toks) λb ob q=>ηH _ q;obtain⟨T,id,hT,ht,hg⟩:=hr pins { s3 with heap:=s3.heap.push { cls:=.type "slice",data:=.fields #[vl,vu,.none] } } σ H3 x v vl vu l u s3.heap.objs.size Q I4 r1 (Heap.IsSliceOf.new ..) pl pu q3;show wpAny (model X.prog X.w) X.A (subscriptTail e (.Slice lo hi none p2) v (.ref s3.heap.objs.size)) (EP X pins σ Q) X.xe { s3 with heap:=s3.heap.push { cls:=.type "slice",data:=.fields #[vl,vu,.none] } };exact tail_any (ops:=[.ref s3.heap.objs.size,v]) ht hT hg (by with_unfolding_all rfl)
def xQ(xs:List V)(lo hi:Option Int):List V:=(xs.drop (HT.rF xs.length 0 lo)).take (HT.rF xs.length xs.length hi-HT.rF xs.length 0 lo)
theorem uJ(xs:List V)(lo hi:Option Int):(xQ xs lo hi).length<=xs.length:=by
 unfold xQ;rw [aZ,eZ];omega
def Kf(K:Frag):V->Option Int->Option Int->Hp->VK->Prop:=λx lo hi H Q=>∃ a xs,x = .ref a/\SqT K H a xs /\
 ¬ (HT.rF xs.length 0 lo=0/\HT.rF xs.length xs.length hi=xs.length)/\∀ p,H p=none->Q (.ref p) (rD H p (.tup (xQ xs lo hi)))
theorem sl_tup:SlR X (Kf X.K):=by
 intro pins s σ H x v vl vu lo hi sl Q I rx hs pl pu h;obtain⟨a,xs,rfl,hx,hw,q⟩:=h;cases rx;obtain⟨its,r,ht,hz⟩:=I.tuple hx;have hlen:its.toArray.size=xs.length:=by rw [ak];exact r.length.symm
 refine⟨"tuple",_,PyProof.Rows.slot_tuple_getitem.lookup,ht.typeIs,?_⟩;refine HT.ud ht hs pl pu (by rw [hlen];exact hw) ?_ (by rw [hlen];exact hz);rw [hlen];refine⟨.ref s.heap.objs.size,_,I.laid (t':=s.toks) (o:=.tup (xQ xs lo hi)) (λb ob q=>ηH _ q) (af _) ?_,rfl,q _ (I.hok.fresh (af _))⟩;exact⟨aC (uJ xs lo hi) hz,_,(r.drop (HT.rF xs.length 0 lo)).take (HT.rF xs.length xs.length hi-HT.rF xs.length 0 lo),IsTup.new _ _⟩
def IA(K:Frag):R2:=λx y H Q=>∃ a b xs ys,x = .ref a/\y = .ref b/\SqT K H a xs/\SqT K H b ys/\xs≠[]/\xs.length+ys.length<=sizeLine /\
 (ys=[]->Q (.ref a) H)/\(ys≠[]->∀ p,H p=none->Q (.ref p) (rD H p (.tup (xs++ys))))
theorem Vals.nil_iff{xs:List V}{us:List Value}(r:Vals xs us):us=[]↔xs=[]:=by
 cases r with
 | nil=>simp
 | cons _ _=>simp
theorem Ef:OpR X (binaryOp .Add) (IA X.K):=by
 intro pins s σ H x y v u Q I rx ry h;obtain⟨a,b,xs,ys,rfl,rfl,ha,hb,hx,hz,q1,q2⟩:=h;cases rx;cases ry;obtain⟨its,r1,p1,_⟩:=I.tuple ha;obtain⟨its2,r2,p2,_⟩:=I.tuple hb;refine HT.ES p1 p2 (λz=>hx (r1.nil_iff.mp z)) (λz=>⟨.ref a,H,I,rfl,q1 (r2.nil_iff.mp z)⟩) (λz=>?_) (by rw [← r1.length,← r2.length];exact hz);refine⟨.ref s.heap.objs.size,_,I.laid (t':=s.toks) (o:=.tup (xs++ys)) (λb ob q=>ηH _ q) (af _) ?_,rfl,q2 (λw=>z (r2.nil_iff.mpr w)) _ (I.hok.fresh (af _))⟩;exact⟨by rw [aq];exact hz,_,r1.append r2,IsTup.new _ _⟩
end
end L2
namespace L2
open PySem PySem.Spec PyProof.Rows
def xA(n:Nat)(i:Int):Option Nat:=if 0<=i then (if i<n then some i.toNat else none) else if -(n:Int)<=i then some (i+n).toNat else none
def vB{α:Type}(xs:List α)(i:Int):Option α:=(xA xs.length i).bind λj=>xs[j]?
theorem zN{n:Nat}{i:Int}{j:Nat}(h:xA n i=some j):seqIndex? i n=some j/\j<n /\ -(n:Int)<=i/\i<n:=by
 unfold xA at h;by_cases h0:0<=i
 ·rw [if_pos h0] at h;by_cases h1:i<n
  ·rw [if_pos h1] at h;have e:i.toNat=j:=Option.some.inj h;exact⟨by rw [seqIndex_of h0 h1,e],by omega,by omega,h1⟩
  ·rw [if_neg h1] at h;cases h
 ·rw [if_neg h0] at h;by_cases h1 : -(n:Int)<=i
  ·rw [if_pos h1] at h;have e:(i+n).toNat=j:=Option.some.inj h;exact⟨by rw [seqIndex_neg (by omega) h1,e],by omega,h1,by omega⟩
  ·rw [if_neg h1] at h;cases h
theorem xj{α:Type}{xs:List α}{i:Int}{v:α}(h:vB xs i=some v):∃ j,seqIndex? i xs.length=some j/\xs[j]? = some v/\j<xs.length /\ -(xs.length:Int)<=i/\i<xs.length:=by
 unfold vB at h;cases e:xA xs.length i with
 | none=>rw [e] at h;cases h
 | some j =>
  rw [e] at h;obtain⟨h1,h2,h3,h4⟩:=zN e;exact⟨j,h1,h,h2,h3,h4⟩
theorem sq{α:Type}{xs:List α}{j:Nat}{v:α}(h:xs[j]? = some v):vB xs (j:Int)=some v:=by
 have hj:j<xs.length:=(aj.mp h).1;have e:xA xs.length (j:Int)=some j:=by
  unfold xA;rw [if_pos (by omega),if_pos (by omega)];simp
 unfold vB;rw [e];exact h
def uW(b:Expr):Prop:=∀ o i,subscripted b false o i=operate [o,i] (getItem o i)
def IxR(X:Cx)(r:R2):Prop :=
 ∀(value slice:Expr) (pins:List (Addr×Obj)) (s:Shared) (σ:St) (H:Hp) (x y:V) (v u:Value) (Q:VK),Inv X pins σ H s->RelV x v->RelV y u->r x y H Q ->
  subscripted slice false v u=operate [v,u] (getItem v u)->wpAny (model X.prog X.w) X.A (subscriptTail value slice v u) (EP X pins σ Q) X.xe s
def Lf(X:Cx)(id:String)(r:V->List V->Hp->VK->Prop):Prop :=
 ∀(pins:List (Addr×Obj)) (s:Shared) (σ:St) (H:Hp) (x:V) (xs:List V) (v:Value) (us:List Value) (Q:VK),Inv X pins σ H s->RelV x v->Vals xs us->r x xs H Q ->
  wpAny (model X.prog X.w) X.A (call (.builtin id) (v::us)) (EP X pins σ Q) X.xe s
section
variable{X:Cx}{a b:Expr}{ta tb:TE}{pos:Pos}
theorem IxR.or{r r':R2}(h:IxR X r)(h':IxR X r'):IxR X (λx y H Q=>r x y H Q\/r' x y H Q):=by
 intro value slice pins s σ H x y v u Q I rx ry q hs;rcases q with q|q
 ·exact h value slice pins s σ H x y v u Q I rx ry q hs
 ·exact h' value slice pins s σ H x y v u Q I rx ry q hs
theorem rK{r:R2}(hr:IxR X r)(ha:PE X a ta)(hb:PE X b tb)(hs:uW b):PE X (.Subscript a b pos) (Id r ta tb):=by
 intro pins s σ H Q I h;exact Subscript_ (Hz ha hb I h λv u s2 x y H2 I2 rx ry q=>hr a b pins s2 σ H2 x y v u Q I2 rx ry q (hs _ _))
def Gj(K:Frag):R2:=λx y H Q=>∃ p xs i v,x = .ref p/\y = .int i/\SqL K H p xs/\vB xs i=some v/\Q v H
def Iv(K:Frag):R2:=λx y H Q=>∃ p xs i v,x = .ref p/\y = .int i/\SqT K H p xs/\vB xs i=some v/\Q v H
def Iw:R2:=λx y H Q=>∃ z i c,x = .str z/\y = .int i/\z.length<=sizeLine/\vB z.cps.toList i=some c/\Q (.str ⟨#[c]⟩) H
theorem ix_list:IxR X (Gj X.K):=by
 intro value slice pins s σ H x y v u Q I rx ry h hs;obtain⟨p,xs,i,z,rfl,rfl,hq,he,q⟩:=h;cases rx;obtain⟨t,rfl⟩:=ry;obtain⟨its,r,pl,hz⟩:=I.list hq;obtain⟨j,h1,h2,h3,h4,h5⟩:=xj he;obtain⟨w,ew,rw'⟩:=r.get h2;have hl:=r.length;have hn:=sx;have fin:EP X pins σ Q w s:=⟨z,H,I,rw',q⟩;by_cases h0:0<=i
 ·have hj:i.toNat=j:=by
   rw [seqIndex_of h0 h5] at h1;exact Option.some.inj h1
  exact item_listR pl.isList h0 (by omega) (by rw [hj];simpa using ew) fin hs
 ·have hj:(i+(its.toArray.size:Int)).toNat=j:=by
   rw [seqIndex_neg (by omega) h4] at h1;rw [ak,← hl];exact Option.some.inj h1
  exact subscriptTail_builtinR (x:=w) pl.isList.typeIs slot_list_getitem.lookup
   (wpAny_getItem_list_neg (Q:=λr s'=>r=w/\EP X pins σ Q r s') pl.isList (by omega) (by rw [ak] <;> omega) (by omega) (by rw [hj];simpa using ew) ⟨rfl,fin⟩) hs
theorem ix_tup:IxR X (Iv X.K):=by
 intro value slice pins s σ H x y v u Q I rx ry h hs;obtain⟨p,xs,i,z,rfl,rfl,hq,he,q⟩:=h;cases rx;obtain⟨t,rfl⟩:=ry;obtain⟨its,r,pl,hz⟩:=I.tuple hq;obtain⟨j,h1,h2,h3,h4,h5⟩:=xj he;obtain⟨w,ew,rw'⟩:=r.get h2;have hl:=r.length;have hn:=sx;have fin:EP X pins σ Q w s:=⟨z,H,I,rw',q⟩;exact subscriptTail_builtinR (x:=w) pl.typeIs slot_tuple_getitem.lookup
  (getItem_tuple (j:=j) (Q:=λr s'=>r=w/\EP X pins σ Q r s') pl (by omega) (by omega) (by rw [ak,← hl];exact h1) (by simpa using ew) ⟨rfl,fin⟩) hs
theorem GX:IxR X Iw:=by
 intro value slice pins s σ H x y v u Q I rx ry h hs;obtain⟨z,i,c,rfl,rfl,hz,he,q⟩:=h;obtain⟨t,rfl⟩:=rx;obtain⟨t',rfl⟩:=ry;obtain⟨j,h1,h2,h3,h4,h5⟩:=xj he;have hl:z.cps.toList.length=z.length:=by simp [Str.length]
 rw [hl] at h1 h4 h5;have hn:=sx;exact tail_any (typeIs_str s z t) slot_str_getitem.lookup (getItem_str (c:=c) (by
  have e1:decide (i < -(2^63:Int))=false:=decide_eq_false (by omega);have e2:decide (i ≥ 2^63)=false:=decide_eq_false (by omega);rw [e1,e2,Bool.or_false]) (by rw [h1];simpa using h2) ⟨.str ⟨#[c]⟩,H,I.tok _,⟨_,rfl⟩,q⟩) hs
def JJ(K:Frag):R2:=λx y H Q=>Gj K x y H Q\/Iv K x y H Q\/Iw x y H Q
theorem ix_seq:IxR X (JJ X.K):=ix_list.or (ix_tup.or GX)
theorem yC(its:List Value)(n j:Nat)(u:Value):Obj.mapSeq (·.setIfInBounds j u) { cls:=.type "list",data:=.seq its.toArray n } = { cls:=.type "list",data:=.seq (its.set j u).toArray n }:=by
 simp [Obj.mapSeq]
theorem Inv.lst{pins:List (Addr×Obj)}{σ:St}{H:Hp}{s:Shared}{p:Addr}{xs:List V}(I:Inv X pins σ H s)(h:H p=some (.lst xs)) :
  ∃(its:List Value) (n:Nat),Vals xs its/\s.heap.get? p=some { cls:=.type "list",data:=.seq its.toArray n }/\xs.length<=sizeLine:=by
 obtain⟨z,its,n,r,e⟩:=I.hok p _ h;exact⟨its,n,r,e,z⟩
theorem Inv.lstUpd{pins:List (Addr×Obj)}{σ:St}{H:Hp}{s:Shared}{p:Addr}{xs ys:List V}{its its':List Value}{n n':Nat}{f:Obj->Obj}(I:Inv X pins σ H s)(h:H p=some (.lst xs))
  (ho:s.heap.get? p=some { cls:=.type "list",data:=.seq its.toArray n }) (hf:f { cls:=.type "list",data:=.seq its.toArray n } = { cls:=.type "list",data:=.seq its'.toArray n' }) (r:Vals ys its') (hz:ys.length<=sizeLine) (t:Nat) :
  Inv X pins σ (rD H p (.lst ys)) { s with heap:=s.heap.update p f,toks:=t }:=by
 have e:(s.heap.update p f).get? p=some { cls:=.type "list",data:=.seq its'.toArray n' }:=by
  rw [Heap.get?_update_self f ho (by rw [hf] <;> rfl),hf]
 refine I.write (x:=p) (e:=p) (by rw [h];trivial) (.inl rfl) (λb u hb q=>(Heap.get?_update_other _ _ (Ne.symm hb)).trans q) ⟨_,e⟩ ?_;exact⟨hz,its',n',r,e⟩
def E9:V->V->V->Hp->(Hp->Prop)->Prop:=λo i v H Q=>∃ p xs k j,o = .ref p/\i = .int k/\H p=some (.lst xs)/\xA xs.length k=some j/\Q (rD H p (.lst (xs.set j v)))
theorem rQ:HG X E9:=by
 intro pins s σ H o i v ov iv u Q I ro ri rv h;obtain⟨p,xs,k,j,rfl,rfl,hp,hj,q⟩:=h;cases ro;obtain⟨t,rfl⟩:=ri;obtain⟨its,n,r,ho,hz⟩:=I.lst hp;obtain⟨h1,h2,h3,h4⟩:=zN hj;have hl:=r.length;have hn:=sx;have I':Inv X pins σ (rD H p (.lst (xs.set j v))) { s with heap:=s.heap.update p (Obj.mapSeq (·.setIfInBounds j u)) } :=
  I.lstUpd hp ho (yC its n j u) (r.set rv j) (by rw [bj];exact hz) s.toks
 by_cases h0:0<=k
 ·have hk:k.toNat=j:=by
   rw [seqIndex_of h0 h4] at h1;exact Option.some.inj h1
  exact PySem.W.ki_setAt ho h0 (by omega) (by rw [ak,← hl];exact h4) (by rw [hk];exact⟨_,I',q⟩)
 ·have hk:(k+(its.toArray.size:Int)).toNat=j:=by
   rw [seqIndex_neg (by omega) h3] at h1;rw [ak,← hl];exact Option.some.inj h1
  exact PySem.W.ki_setBack ho (by omega) (by rw [ak,← hl];exact h3) (by omega) (by rw [hk];exact⟨_,I',q⟩)
theorem wx(lo hi:Option Int)(n:Nat):(sliceBounds lo hi none n).1=((HT.rF n 0 lo:Nat):Int)/\(sliceBounds lo hi none n).2.1=((HT.rF n n hi:Nat):Int)/\(sliceBounds lo hi none n).2.2=1:=by
 refine⟨?_,?_,rfl⟩
 ·cases lo with
  | none=>simp [sliceBounds,HT.rF]
  | some i =>
   simp only [sliceBounds,HT.rF,gC,show (1:Int) > 0 by decide,if_true];by_cases h:i<0
   ·simp only [h,if_true] <;> omega
   ·simp only [h,if_false] <;> omega
 ·cases hi with
  | none=>simp [sliceBounds,HT.rF]
  | some i =>
   simp only [sliceBounds,HT.rF,gC,show (1:Int) > 0 by decide,if_true];by_cases h:i<0
   ·simp only [h,if_true] <;> omega
   ·simp only [h,if_false] <;> omega
theorem vE(its:List Value)(lo hi:Option Int):slicePick its.toArray lo hi none=((its.drop (HT.rF its.length 0 lo)).take (HT.rF its.length its.length hi-HT.rF its.length 0 lo)).toArray:=by
 obtain⟨h1,h2,h3⟩:=wx lo hi its.toArray.size;unfold slicePick;rw [h1,h2,h3];simp only [sliceRange_one,pick_run,ak] <;> rfl
def Kg(K:Frag):V->Option Int->Option Int->Hp->VK->Prop:=λx lo hi H Q=>∃ a xs,x = .ref a/\SqL K H a xs/\∀ p,H p=none->Q (.ref p) (rD H p (.lst (xQ xs lo hi)))
theorem sl_list:SlR X (Kg X.K):=by
 intro pins s σ H x v vl vu lo hi sl Q I rx hs pl pu h;obtain⟨a,xs,rfl,hx,q⟩:=h;cases rx;obtain⟨its,r,ht,hz⟩:=I.list hx;have hlen:=r.length;refine⟨"list",_,slot_list_getitem.lookup,ht.isList.typeIs,?_⟩;refine wpAny_getItem_list_slice ht.isList hs pl pu .none (by simp) ?_ (by rw [ak] <;> omega);rw [vE,← hlen];refine⟨.ref s.heap.objs.size,_,I.laid (t':=s.toks) (o:=.lst (xQ xs lo hi)) (λb ob q=>ηH _ q) (af _) ?_,rfl,q _ (I.hok.fresh (af _))⟩;exact⟨aC (uJ xs lo hi) hz,_,0,(r.drop (HT.rF xs.length 0 lo)).take (HT.rF xs.length xs.length hi-HT.rF xs.length 0 lo),ηG _ rfl⟩
def tP:V->Bool
 | .non=>true
 | .bl _=>true
 | .int _=>true
 | .str _=>true
 | _=>false
def Fz:V->V->Bool
 | .non,.non=>true
 | .bl a,.bl b=>a == b
 | .bl a,.int b=>(if a then 1 else 0) == b
 | .int a,.bl b=>a == (if b then 1 else 0)
 | .int a,.int b=>a == b
 | .str a,.str b=>a == b
 | _,_=>false
theorem Hi{A:Around}{s:Shared}{y x:V}{u v:Value}(ry:RelV y u)(rx:RelV x v)(fy:tP y=true)(fx:tP x=true):SeqAt.EqAt A s u v (Fz y x):=by
 cases y with
 | non =>
  cases ry;cases x with
  | non=>cases rx;exact SeqAt.EqAt.same _
  | bl b=>cases rx;exact SeqAt.EqAt.none_bool b
  | int b=>obtain⟨t,rfl⟩:=rx;exact SeqAt.EqAt.none_int b t
  | str b=>obtain⟨t,rfl⟩:=rx;exact SeqAt.EqAt.none_str b t
  | _=>exact absurd (show false=true from fx) aA
 | bl a =>
  cases ry;cases x with
  | non=>cases rx;exact SeqAt.EqAt.bool_none a
  | bl b=>cases rx;exact SeqAt.EqAt.bool_bool a b
  | int b=>obtain⟨t,rfl⟩:=rx;exact SeqAt.EqAt.bool_int a b t
  | str b=>obtain⟨t,rfl⟩:=rx;exact SeqAt.EqAt.bool_str a b t
  | _=>exact absurd (show false=true from fx) aA
 | int a =>
  obtain⟨t',rfl⟩:=ry;cases x with
  | non=>cases rx;exact SeqAt.EqAt.int_none a t'
  | bl b=>cases rx;exact SeqAt.EqAt.int_bool a t' b
  | int b=>obtain⟨t,rfl⟩:=rx;exact SeqAt.EqAt.int_int a t' b t
  | str b=>obtain⟨t,rfl⟩:=rx;exact SeqAt.EqAt.int_str a t' b t
  | _=>exact absurd (show false=true from fx) aA
 | str a =>
  obtain⟨t',rfl⟩:=ry;cases x with
  | non=>cases rx;exact SeqAt.EqAt.str_none a t'
  | bl b=>cases rx;exact SeqAt.EqAt.str_bool a t' b
  | int b=>obtain⟨t,rfl⟩:=rx;exact SeqAt.EqAt.str_int a t' b t
  | str b=>obtain⟨t,rfl⟩:=rx;exact SeqAt.EqAt.str_str a t' b t
  | _=>exact absurd (show false=true from fx) aA
 | _=>exact absurd (show false=true from fy) aA
def yI(x:V)(u:Value):Bool:=match u with
 | .none=>Fz .non x
 | .bool b=>Fz (.bl b) x
 | .int i _=>Fz (.int i) x
 | .str z _=>Fz (.str z) x
 | _=>false
theorem CP{x y:V}{u:Value}(r:RelV y u)(f:tP y=true):yI x u=Fz y x:=by
 cases y with
 | non=>cases r;rfl
 | bl b=>cases r;rfl
 | int i=>obtain⟨t,rfl⟩:=r;rfl
 | str z=>obtain⟨t,rfl⟩:=r;rfl
 | _=>exact absurd (show false=true from f) aA
theorem ul{x:V}:∀{xs:List V} {us:List Value},Vals xs us->xs.all tP=true->us.any (yI x)=xs.any λy=>Fz y x
 | _,_,.nil,_=>rfl
 | y::xs,u::us,.cons r t,f=>by
  rw [eO,bw] at f;rw [fU,fU,CP r f.1,ul t f.2]
theorem tf{A:Around}{s:Shared}{x:V}{v:Value}(rx:RelV x v)(fx:tP x=true):∀{xs:List V} {us:List Value},Vals xs us->xs.all tP=true->∀ u∈us,SeqAt.EqAt A s u v (yI x u)
 | _,_,.nil,_=>λu hu=>by cases hu
 | y::xs,u::us,.cons r t,f=>λu' hu=>by
  rw [eO,bw] at f;rcases am.mp hu with rfl|hu
  ·rw [CP r f.1];exact Hi r rx f.1 fx
  ·exact tf rx fx t f.2 u' hu
def HL(x:V)(xs:List V):Bool:=xs.any λy=>Fz y x
def Kj(K:Frag)(neg:Bool):R2:=λx y H Q=>∃ p xs,y = .ref p/\(SqL K H p xs\/SqT K H p xs)/\tP x=true/\xs.all tP=true/\Q (.bl (if neg then !HL x xs else HL x xs)) H
theorem AF:OpR X (compareOp .In) (Kj X.K false):=by
 intro pins s σ H x y v u Q I rx ry h;obtain⟨p,xs,rfl,hq,fx,fs,q⟩:=h;cases ry;rcases hq with hq|hq
 ·obtain⟨its,r,pl,hz⟩:=I.list hq;refine SeqAt.in_listAt (yI x) pl.isList (λw hw=>tf rx fx r fs w (by simpa using hw)) ⟨.bl _,H,I,rfl,?_⟩;rw [show its.toArray.any (yI x)=its.any (yI x) by simp,ul r fs];exact q
 ·obtain⟨its,r,pl,hz⟩:=I.tuple hq;refine SeqAt.in_tupleAt (yI x) pl (λw hw=>tf rx fx r fs w (by simpa using hw)) ⟨.bl _,H,I,rfl,?_⟩;rw [show its.toArray.any (yI x)=its.any (yI x) by simp,ul r fs];exact q
theorem wH:OpR X (compareOp .NotIn) (Kj X.K true):=by
 intro pins s σ H x y v u Q I rx ry h;obtain⟨p,xs,rfl,hq,fx,fs,q⟩:=h;cases ry;rcases hq with hq|hq
 ·obtain⟨its,r,pl,hz⟩:=I.list hq;refine SeqAt.notIn_listAt (yI x) pl.isList (λw hw=>tf rx fx r fs w (by simpa using hw)) ⟨.bl _,H,I,rfl,?_⟩;rw [show its.toArray.any (yI x)=its.any (yI x) by simp,ul r fs];exact q
 ·obtain⟨its,r,pl,hz⟩:=I.tuple hq;refine SeqAt.notIn_tupleAt (yI x) pl (λw hw=>tf rx fx r fs w (by simpa using hw)) ⟨.bl _,H,I,rfl,?_⟩;rw [show its.toArray.any (yI x)=its.any (yI x) by simp,ul r fs];exact q
theorem xc:CallR X (.builtin "len") (λxs H Q=>∃ p ys,xs=[.ref p]/\(SqL X.K H p ys\/SqT X.K H p ys)/\Q (.int ys.length) H):=by
 intro pins s σ H xs us Q I r h;obtain⟨p,ys,rfl,hq,q⟩:=h;obtain⟨u,rfl,rx⟩:=uZ r;cases rx;have hn:=sx;rcases hq with hq|hq
 ·obtain⟨its,r',pl,hz⟩:=I.list hq;have hlen:=r'.length;exact Calls.call_len_list pl.isList (by simp only [ak] <;> omega) ⟨.int ys.length,H,I.tok _,⟨s.toks+1,by rw [ak,hlen]⟩,q⟩
 ·obtain⟨its,r',pl,hz⟩:=I.tuple hq;have hlen:=r'.length;exact len_tuple pl (by simp only [ak] <;> omega) ⟨.int ys.length,H,I.tok _,⟨s.toks+1,by rw [ak,hlen]⟩,q⟩
theorem xb:CallR X (.builtin "len") (λxs H Q=>∃ z,xs=[.str z]/\z.length<=sizeLine/\Q (.int z.length) H):=by
 intro pins s σ H xs us Q I r h;obtain⟨z,rfl,hz,q⟩:=h;obtain⟨u,rfl,t,rfl⟩:=uZ r;have hn:=sx;exact len_str (by omega) ⟨.int z.length,H,I.tok _,⟨_,rfl⟩,q⟩
theorem xa:CallR X (.type "list") (λxs H Q=>∃ p ys,xs=[.ref p]/\(SqL X.K H p ys\/SqT X.K H p ys)/\∀ l,H l=none->Q (.ref l) (rD H l (.lst ys))):=by
 intro pins s σ H xs us Q I r h;obtain⟨p,ys,rfl,hq,q⟩:=h;obtain⟨u,rfl,rx⟩:=uZ r;cases rx;have fin:∀(its:List Value),Vals ys its->ys.length<=sizeLine->∀(h':Heap) (c':Nat),(∀ b o',s.heap.get? b=some o'->h'.get? b=some o') ->
   h'.get? s.heap.objs.size=some { cls:=.type "list",dict:=none,data:=.seq its.toArray c',slots:=#[] }->EP X pins σ Q (.ref s.heap.objs.size) { s with heap:=h' }:=λits r' hz h' c' kp e =>
  ⟨.ref s.heap.objs.size,_,I.laid (t':=s.toks) kp (af _) (show ObjOk X.prog X.w _ h' _ (.lst ys) from⟨hz,its,c',r',e⟩),rfl,q _ (I.hok.fresh (af _))⟩
 rcases hq with hq|hq
 ·obtain⟨its,r',pl,hz⟩:=I.list hq;have hlen:=r'.length;obtain⟨o,ho,hc,n,hd⟩:=pl.isList;exact call_list_seq p (.inl rfl) ho hc hd (λh' c' kp e=>fin its r' hz h' c' kp e) (by simp only [ak] <;> omega)
 ·obtain⟨its,r',pl,hz⟩:=I.tuple hq;have hlen:=r'.length;obtain⟨o,ho,hc,n,hd⟩:=pl;exact call_list_seq p (.inr rfl) ho hc hd (λh' c' kp e=>fin its r' hz h' c' kp e) (by simp only [ak] <;> omega)
theorem vI:CallR X (.type "tuple") (λxs H Q=>∃ p ys,xs=[.ref p]/\((SqL X.K H p ys/\∀ l,H l=none->Q (.ref l) (rD H l (.tup ys)))\/(SqT X.K H p ys/\Q (.ref p) H))):=by
 intro pins s σ H xs us Q I r h;obtain⟨p,ys,rfl,h⟩:=h;obtain⟨u,rfl,rx⟩:=uZ r;cases rx;rcases h with⟨hq,q⟩|⟨hq,q⟩
 ·obtain⟨its,r',pl,hz⟩:=I.list hq;have hlen:=r'.length;refine call_tuple_list pl.isList (λh' kp=>?_) (by simp only [ak] <;> omega);have I1:Inv X pins σ H { s with heap:=h' }:=I.kept (t':=s.toks) kp;have I2:Inv X pins σ (rD H h'.objs.size (.tup ys)) { s with heap:=h'.push { cls:=.type "tuple",data:=.seq its.toArray } } :=
   I1.laid (t':=s.toks) (λb o e=>ηH _ e) (af _) (show ObjOk X.prog X.w _ _ _ (.tup ys) from⟨hz,its,r',IsTup.new _ _⟩)
  exact⟨.ref h'.objs.size,_,I2,rfl,q _ (I1.hok.fresh (af _))⟩
 ·obtain⟨its,r',pl,hz⟩:=I.tuple hq;exact call_tuple_same pl ⟨.ref p,H,I,rfl,q⟩
def JV(K:Frag)(T:String)(x:V)(H:Hp):Prop:=match x with
 | .str _=>T = "str"
 | .int _=>T = "int"
 | .ref p=>(T = "list" /\ ∃ xs,SqL K H p xs)\/(T = "tuple" /\ ∃ o,K.lookup p=some o/\o.cls = .type "tuple" /\ o.dict=none) \/
   (T = "dict" /\ ((∃ kvs,H p=some (.dK kvs))\/∃ kvs,H p=some (.dT kvs)))\/(T = "set" /\ ∃ S n,H p=some (.set S n))
 | _=>False
theorem Bm{pins:List (Addr×Obj)}{σ:St}{H:Hp}{s:Shared}{T:String}{x:V}{v:Value}(I:Inv X pins σ H s)(r:RelV x v)(ty:JV X.K T x H) :
  s.TypeIs v T/\∀ a,v = .ref a->∃ ob,s.heap.get? a=some ob/\ob.dict=none:=by
 cases x with
 | str z =>
  obtain⟨t,rfl⟩:=r;cases (show T = "str" from ty);exact⟨typeIs_str s z t,λ_ e=>nomatch e⟩
 | int i =>
  obtain⟨t,rfl⟩:=r;cases (show T = "int" from ty);exact⟨typeIs_int s i t,λ_ e=>nomatch e⟩
 | ref p =>
  cases r;rcases ty with⟨rfl,xs,hq⟩|⟨rfl,o,hk,hc,hd⟩|⟨rfl,hk⟩|⟨rfl,S,n,hk⟩
  ·obtain⟨its,_,pl,_⟩:=I.list hq;refine⟨pl.isList.typeIs,λa e=>?_⟩;cases e;obtain⟨o,n,e,c,hd,_⟩:=pl;exact⟨o,e,hd⟩
  ·refine⟨⟨o,I.kIn p o hk,hc⟩,λa e=>?_⟩;cases e;exact⟨o,I.kIn _ o hk,hd⟩
  ·have z:∃ o,s.heap.get? p=some o/\o.ExactDict:=by
    rcases hk with⟨kvs,hk⟩|⟨kvs,hk⟩
    ·obtain⟨_,_,_,_,o,_,_,e,ex,_⟩:=I.hok p _ hk;exact⟨o,e,ex⟩
    ·obtain⟨_,_,_,_,o,_,_,e,ex,_⟩:=I.hok p _ hk;exact⟨o,e,ex⟩
   obtain⟨o,e,ex⟩:=z;refine⟨⟨o,e,ex.1⟩,λa e2=>?_⟩;cases e2;exact⟨o,e,ex.2.1⟩
  ·obtain⟨o,_,_,_,e,ex,_⟩:=I.hok p _ hk;refine⟨⟨o,e,ex.1⟩,λa e2=>?_⟩;cases e2;exact⟨o,e,ex.2.1⟩
 | _=>exact False.elim ty
def J7(K:Frag)(T:String)(r:V->List V->Hp->VK->Prop)(to:TE):TE:=λσ H Q=>to σ H λx H1=>JV K T x H1/\r x [] H1 Q
def Lv(K:Frag)(T:String)(r:V->List V->Hp->VK->Prop)(to:TE)(t:TA):TE:=λσ H Q=>to σ H λx H1=>JV K T x H1/\t σ H1 λxs H2=>r x xs H2 Q
variable{o e:Expr}{es:List Expr}{to:TE}{t:TA}{name:Str}{apos cpos:Pos}{T id:String}{r:V->List V->Hp->VK->Prop}
theorem B4(pa:PlainAttrs T)(slot:Slot T name id)(hty:typeOf (.builtin id)=pure (.type "method_descriptor"))(hm:Lf X id r)(ho:PE X o to)
  (hbase:attributeBase o name X.env (eval o X.env)=eval o X.env:=by rfl) (hline:(apos.endLine == cpos.line)=true:=by rfl):PE X (.Call (.Attribute o name apos) [] [] cpos) (J7 X.K T r to):=by
 intro pins s σ H Q I h;refine wpAny_Call_method0_late hbase hline (q8 (ho pins s σ H _ I h) λv s1 ⟨x,H1,I1,r1,ty,q1⟩=>?_);obtain⟨h1,h2⟩:=Bm I1 r1 ty;exact⟨T,id,pa,slot,hty,h1,h2,Calls.callWith_builtin rfl (PySem.evalArgs_none (hm pins s1 σ H1 x [] v [] Q I1 r1 .nil q1))⟩
theorem IE(pa:PlainAttrs T)(slot:Slot T name id)(hty:typeOf (.builtin id)=pure (.type "method_descriptor"))(hm:Lf X id r)(ho:PE X o to)(ha:PA X (e::es) t)
  (hbase:attributeBase o name X.env (eval o X.env)=eval o X.env:=by rfl)
  (hfew:((backTo cpos (starEach (e::es) X.env)).all (λx => !x.1) && (backToKw cpos (keywordEach [] X.env)).all (λx=>x.1.isSome)
   && decide ((e::es).length+([]:List Keyword).length+(if ([]:List Keyword).isEmpty then 0 else 1)<30))=true:=by rfl)
  (hline:(apos.endLine == cpos.line)=true:=by rfl) (hs:starEach (e::es) X.env=(false,eval e X.env)::starEach es X.env:=by rfl) (hplain:(backTo cpos (starEach es X.env)).any (·.1)=false:=by rfl) :
  PE X (.Call (.Attribute o name apos) (e::es) [] cpos) (Lv X.K T r to t):=by
 intro pins s σ H Q I h;refine wpAny_Call_method_late hbase hfew hline rfl (q8 (ho pins s σ H _ I h) λv s1 ⟨x,H1,I1,r1,ty,q1⟩=>?_);obtain⟨h1,h2⟩:=Bm I1 r1 ty;refine⟨T,id,pa,slot,hty,h1,h2,?_⟩;have hA:=ha cpos pins s1 σ H1 _ I1 q1;rw [hs] at hA ⊢;refine Calls.callWith_builtin (by show (false || (backTo cpos (starEach es X.env)).any (·.1))=false;rw [hplain] <;> rfl) (Calls.evalArgs_plain ?_);exact q8 hA λus s2 ⟨vs,H2,I2,r2,q2⟩=>hm pins s2 σ H2 x vs v us Q I2 r1 r2 q2
end
end L2
namespace L2
open PySem PySem.Spec PyProof.Rows
def Lg(X:Cx)(id:String)(r:V->List V->Hp->VK->Prop):Prop :=
 ∀(pins:List (Addr×Obj)) (s:Shared) (σ:St) (H:Hp) (x:V) (xs:List V) (v:Value) (us:List Value) (Q:VK),Inv X pins σ H s->RelV x v->Vals xs us->r x xs H Q ->
  wpAny (model X.prog X.w) X.A (call (.builtin id) (v::us)) (EP X pins σ Q) X.xe s
theorem Vals.uncons{x:V}{xs:List V}{us:List Value}(h:Vals (x::xs) us):∃ u r,us=u::r/\RelV x u/\Vals xs r:=by
 cases h with
 | cons r t=>exact⟨_,_,rfl,r,t⟩
theorem Vals.unnil{us:List Value}(h:Vals [] us):us=[]:=by
 cases h;rfl
theorem Vals.one{x:V}{us:List Value}(h:Vals [x] us):∃ u,us=[u]/\RelV x u:=by
 obtain⟨u,r,rfl,h1,h⟩:=h.uncons;rw [h.unnil];exact⟨u,rfl,h1⟩
theorem Vals.two{x y:V}{us:List Value}(h:Vals [x,y] us):∃ u v,us=[u,v]/\RelV x u/\RelV y v:=by
 obtain⟨u,r,rfl,h1,h⟩:=h.uncons;obtain⟨v,rfl,h2⟩:=h.one;exact⟨u,v,rfl,h1,h2⟩
theorem Vals.zero:∀{us:List Value},Vals [] us->us=[]
 | _,.nil=>rfl
theorem Vals.dropLast{xs:List V}{us:List Value}(h:Vals xs us):Vals xs.dropLast us.dropLast:=by
 induction h with
 | nil=>exact .nil
 | cons r t ih =>
  cases t with
  | nil=>exact .nil
  | cons q t'=>exact .cons r ih
theorem Vals.reverse{xs:List V}{us:List Value}(h:Vals xs us):Vals xs.reverse us.reverse:=by
 induction h with
 | nil=>exact .nil
 | cons r t ih=>rw [cY,cY];exact Vals.append ih (.cons r .nil)
theorem Vals.rep{xs:List V}{us:List Value}(h:Vals xs us):∀ k:Nat,Vals (List.replicate k xs).flatten (List.replicate k us).flatten
 | 0=>.nil
 | k+1=>by
  rw [bv,bv,bS,bS];exact Vals.append h (Vals.rep h k)
theorem yH{α:Type}(l:List α):l.eraseIdx (l.length-1)=l.dropLast:=by
 induction l with
 | nil=>rfl
 | cons a r ih =>
  cases r with
  | nil=>rfl
  | cons b r =>
   have e:(a::b::r).length-1=((b::r).length-1)+1:=by
    have h1:(a::b::r).length=r.length+2:=rfl;have h2:(b::r).length=r.length+1:=rfl;omega
   rw [e,List.eraseIdx_cons_succ,ih];all_goals rfl
theorem uz(its:List Value):∀(k:Nat) (acc:List Value),
  List.foldl (λx1 x2=>x1++x2) acc.toArray (List.replicate k its.toArray)=(acc++(List.replicate k its).flatten).toArray
 | 0,acc=>by simp
 | k+1,acc=>by
  have e:acc.toArray++its.toArray=(acc++its).toArray:=by simp
  have e2:(acc++its)++(List.replicate k its).flatten=acc++(List.replicate (k+1) its).flatten:=by
   rw [bv,bS,gJ]
  rw [← e2,← uz its k (acc++its),← e,bv,List.foldl_cons]
section
variable{X:Cx}{pins:List (Addr×Obj)}{σ:St}{H:Hp}{s:Shared}{l b:Addr}{xs ys zs:List V}
theorem Inv.lset{its its':List Value}{n:Nat}{f:Array Value->Array Value}{t':Nat}(I:Inv X pins σ H s)(hH:H l=some (.lst xs))
  (e:s.heap.get? l=some { cls:=.type "list",data:=.seq its.toArray n }) (hf:f its.toArray=its'.toArray) (hv:Vals ys its') (hz:ys.length<=sizeLine) :
  Inv X pins σ (rD H l (.lst ys)) { s with heap:=s.heap.update l (Obj.mapSeq f),toks:=t' }:=by
 have q:=PySem.IsL.update e f;rw [hf] at q;refine I.write (x:=l) (e:=l) (by rw [hH];exact trivial) (.inl rfl) (λb' u hb hu=>(Heap.get?_update_other s.heap (Obj.mapSeq f) (Ne.symm hb)).trans hu) ⟨_,q⟩ ?_;exact⟨hz,its',_,hv,q⟩
theorem Inv.lnew{its:List Value}{t':Nat}(I:Inv X pins σ H s)(hv:Vals ys its)(hz:ys.length<=sizeLine) :
  Inv X pins σ (rD H s.heap.objs.size (.lst ys)) { s with heap:=s.heap.push { cls:=.type "list",data:=.seq its.toArray },toks:=t' } :=
 I.laid (λ_ _ q=>ηH _ q) (af _) ⟨hz,its,0,hv,ηG _ rfl⟩
theorem Inv.fresh(I:Inv X pins σ H s):H s.heap.objs.size=none:=I.hok.fresh (af _)
theorem Inv.lstM(I:Inv X pins σ H s)(hH:H l=some (.lst xs)):xs.length<=sizeLine/\∃(its:List Value) (n:Nat),Vals xs its/\xs.length=its.length/\s.heap.get? l=some { cls:=.type "list",data:=.seq its.toArray n }:=by
 obtain⟨z,its,n,r,e⟩:=I.hok l _ hH;exact⟨z,its,n,r,r.length,e⟩
theorem Cl{n:Nat}(h:n<=sizeLine):Builtin.List.listTooLong n=false:=by
 unfold Builtin.List.listTooLong;exact decide_eq_false (by omega)
end
section
variable{X:Cx}
def DT:V->List V->Hp->VK->Prop:=λx vs H Q=>∃ l xs y,x = .ref l/\vs=[y]/\H l=some (.lst xs)/\xs.length<sizeLine/\Q .non (rD H l (.lst (xs++[y])))
theorem AM:Lg X "list.append" DT:=by
 intro pins s σ H x vs v us Q I rx rv h;obtain⟨l,xs,y,rfl,rfl,hH,hz,q⟩:=h;cases rx;obtain⟨u,rfl,ru⟩:=rv.one;obtain⟨z,its,n,r,hl,e⟩:=I.lstM hH;refine call_meets F.slot_list_append ⟨_,e,rfl⟩ F.entry_list_append (F.args_list_append_2 _ _) (PySem.list_append l its.toArray n u (by rw [ak];omega)) ⟨e,?_⟩;refine⟨.non,_,I.lset (its':=its++[u]) hH e (by simp) (r.append (.cons ru .nil)) ?_,rfl,q⟩;rw [aq,eA];omega
def Ki:V->List V->Hp->VK->Prop:=λx vs H Q=>∃ l xs y,x = .ref l/\vs=[]/\H l=some (.lst xs)/\xs[xs.length-1]? = some y/\Q y (rD H l (.lst xs.dropLast))
theorem Cr:Lg X "list.pop" Ki:=by
 intro pins s σ H x vs v us Q I rx rv h;obtain⟨l,xs,y,rfl,rfl,hH,hy,q⟩:=h;cases rx;have hus:=rv.zero;subst hus;obtain⟨z,its,n,r,hl,e⟩:=I.lstM hH;obtain⟨u,hu,ru⟩:=r.get hy;have hy':its.toArray[its.toArray.size-1]? = some u:=by
  show its.toArray[its.length-1]? = some u;rw [← d7,← hl];exact hu
 refine call_meets F.slot_list_pop ⟨_,e,rfl⟩ F.entry_list_pop (F.args_list_pop_1 _) (MeetsSeq.list_pop_last l its.toArray n u hy' (by rw [ak];omega)) ⟨e,?_⟩;refine⟨y,_,I.lset (its':=its.dropLast) hH e ?_ r.dropLast ?_,ru,q⟩
 ·show its.toArray.eraseIdxIfInBounds (its.toArray.size-1)=its.dropLast.toArray;rw [ak,List.eraseIdxIfInBounds_toArray,yH]
 ·rw [gr];omega
def Kk:R2:=λx y H Q=>∃ l b xs zs,x = .ref l/\y = .ref b/\H l=some (.lst xs)/\H b=some (.lst zs)/\xs.length+zs.length<=sizeLine/\∀ p,H p=none->Q (.ref p) (rD H p (.lst (xs++zs)))
theorem GI:OpR X (binaryOp .Add) Kk:=by
 intro pins s σ H x y v u Q I rx ry h;obtain⟨l,b,xs,zs,rfl,rfl,hH,hB,hz,q⟩:=h;cases rx;cases ry;obtain⟨z,its,n,r,hl,e⟩:=I.lstM hH;obtain⟨z2,its2,n2,r2,hl2,e2⟩:=I.lstM hB;refine PySem.P.add_list e e2 ?_ (by rw [ak,ak];omega);have ea:its.toArray++its2.toArray=(its++its2).toArray:=by simp
 rw [ea];exact⟨.ref _,_,I.lnew (t':=s.toks) (r.append r2) (by rw [aq];omega),rfl,q _ I.fresh⟩
def Kh:R2:=λx y H Q=>∃ l k xs,x = .ref l/\y = .int k/\H l=some (.lst xs) /\ -(2^63)<=k/\k<2^63/\xs.length*k.toNat<=sizeLine /\
 ∀ p,H p=none->Q (.ref p) (rD H p (.lst (List.replicate k.toNat xs).flatten))
theorem wL{α:Type}(xs:List α)(k:Nat):(List.replicate k xs).flatten.length=k*xs.length:=by
 induction k with
 | zero=>simp
 | succ k ih=>rw [bv,bS,aq,ih,a9,Nat.add_comm]
theorem Ci:OpR X (binaryOp .Mult) Kh:=by
 intro pins s σ H x y v u Q I rx ry h;obtain⟨l,k,xs,rfl,rfl,hH,h1,h2,hz,q⟩:=h;cases rx;obtain⟨t,rfl⟩:=ry;obtain⟨z,its,n,r,hl,e⟩:=I.lstM hH;have hlen:its.toArray.size*k.toNat<=sizeLine:=by rw [ak,← hl];exact hz
 have hcap:¬ its.toArray.size*k.toNat > (2^63-1) / 8:=by
  have:(sizeLine:Nat)<=(2^63-1) / 8:=by decide
  omega
 have hfit:¬ (!Builtin.List.listFitsIndex k)=true:=by
  rw [fitsIndex_both h1 h2];exact aA
 have hlong:¬ Builtin.List.listTooLong (its.toArray.size*k.toNat)=true:=by
  rw [Cl hlen];exact aA
 have hnew:List.foldl (λx1 x2=>x1++x2) #[] (List.replicate (if its.toArray.isEmpty=true then 0 else k.toNat) its.toArray)=(List.replicate k.toNat its).flatten.toArray:=by
  have f0:∀ m:Nat,List.foldl (λx1 x2=>x1++x2) #[] (List.replicate m its.toArray)=(List.replicate m its).flatten.toArray:=λm=>by
   have:=uz its m [];rw [e9] at this;exact this
  rw [f0];cases its with
  | nil=>simp
  | cons a r'=>rw [if_neg (by simp)]
 refine wpAny_binaryOp_repeat_ref (T := "list") (U := "int") (by decide) ⟨_,e,rfl⟩ (λs'=>typeIs_int s' k t) noFill_list_mul F.fills_int_mul F.slot_int_rmul repeat_list F.slot_int_index.lookup
  (call_meets F.slot_int_rmul (typeIs_int s k t) F.entry_int_rmul (F.args_int_rmul_2 _ _) (int___rmul___int_list k t l its.toArray n)
   ⟨e,rfl,⟨_,e,rfl⟩,call_meets F.slot_list_mul ⟨_,e,rfl⟩ F.entry_list_mul (F.args_list_mul_2 _ _) (AutoListH.list___mul___list_int_3 l its.toArray n k t hfit hcap hlong) ⟨e,?_⟩⟩)
 rw [hnew];exact⟨.ref _,_,I.lnew (t':=s.toks) (r.rep k.toNat) (by rw [wL,aT];exact hz),rfl,q _ I.fresh⟩
end
section
variable{prog:Program}{w:World}{A:Around}{E:Value->Shared->Prop}{s:Shared}
set_option maxRecDepth 100000 in
end
end L2
namespace Att
open PySem PySem.W PySem.Calls PyProof.Rows
theorem uK{P:Params}{h:Heap}:∀(ns:List Int) (vs:List Value),WellAll P h vs (ns.map WData.int)->IntsAre vs ns:=by
 intro ns;induction ns with
 | nil =>
  intro vs w;rw [List.map_nil] at w;cases w;exact .nil
 | cons n ns ih =>
  intro vs w;rw [dJ] at w;cases w with
  | cons a b =>
   cases a;exact .cons _ _ (ih _ b)
theorem Au{l:OpenLaw}{n:Nat}(hn:l.most=some n){P:Params}{h:Heap}{args:List WData}{vals:List Value}
  (hpre:l.row.toRowW.claim.pre args=true) (hwl:WellAll P h vals args) :
  ∃ a vs ns,vals=[Value.ref a]/\args=[WData.list (ns.map WData.int)]/\h.get? a=some { cls:=.type "list",data:=.seq vs.toArray }/\IntsAre vs ns/\ns.length<=n:=by
 have hsh:WShape.hasAll [] args [.list .int]=true:=(pre_splitW hpre).1;have hc:l.pre.holds [] { args:=args }=true:=(pre_splitW hpre).2;obtain⟨d,r,rfl,h1,h2⟩:=hasAllW_cons hsh;obtain rfl:=hasAllW_nil h2;obtain⟨xs,rfl,h3⟩:=hasW_list h1;obtain⟨ns,rfl⟩:=items_int h3;have hlen:ns.length<=n:=by
  unfold OpenLaw.pre at hc;have h4:(WTm.not (.lt (.lit (.int (n:Int))) (.len (.arg 0)))).holds [] { args:=[.list (ns.map .int)] }=true:=by
   have h4:=(holds_andW hc).1;rw [hn] at h4;exact h4
  have h5:=condW_of h4 (w_not (w_lt w_lit (w_len_list (w_arg rfl))));rw [aa] at h5;refine Nat.le_of_not_lt λq=>?_;have q':(n:Int)<((ns.length:Nat):Int):=by omega
  first
   | (rw [decide_eq_true q'] at h5;exact absurd h5 (by decide))
   | (simp at h5;omega)
 cases hwl with
 | cons w1 w2 =>
  cases w2;cases w1 with
  | list ho hall=>exact⟨_,_,ns,rfl,rfl,ho,uK ns _ hall,hlen⟩
theorem Az(l:OpenLaw)(args:List WData):l.row.toRowW.claim.post args (.bool true) args=true :=
 postW_of (r:=l.row.toRowW) (X:=(true == true))
  (show WShape.has [] (.bool true) .bool=true by first|rfl|decide|simp [WShape.has,WShape.arms,WShape.armsAll])
  (show (WTm.eq .res (.lit (.bool true))).value [] { args:=args,res:=some (.bool true),after:=args }=some (.bool (true == true)) from w_eq_bool (w_res rfl) w_lit) rfl
theorem xV{l:OpenLaw}{n:Nat}{q:Program}{loose:List Str}{XP:(Str->Option Value)->Heap->Prop}{YP:World->Heap->Prop}{d:DefRec}
  (hn:l.most=some n) (hdf:d.params.defaults=[])
  (call:∀(w:World) (s₀ s₁:Shared) (mg mb:Str->Option Value) (fa:Addr) (o:Obj) (pm cd doc:Value) (a:Addr) (vs:List Value) (ns:List Int),
   Ground q loose [] XP w s₀ mg mb s₁.heap->YP w s₁.heap ->
   s₁.heap.get? fa=some o->o.data = .func (docDef d.name d.params d.body d.scope pm cd doc)->s₁.heap.CodeRec cd d.name->mg d.name=some (.ref fa) ->
   s₁.heap.get? a=some { cls:=.type "list",data:=.seq vs.toArray }->IntsAre vs ns->ns.length<=n->s₁.gens = #[] ->
   codeAny (model l.prog w) callerA (.call (.ref fa) ⟨[.ref a],[]⟩) (λr s'=>r = .ok (.ret (.bool true))/\OldK s₁.heap s'.heap/\s'.os=s₁.os/\AllBare s'.gens) s₁) :
  WalkO q loose XP YP l.row.toRowW d [] (λf vs=>PySem.call f vs):=by
 intro w s₀ s₁ mg mb G Y fa o pm cd doc dV kV ho hd hcd hD hmg hg args vals as hpre hlay hrd hwl hlo;obtain rfl:dV = .none:=Dflts.none hD hdf;obtain rfl:kV = .none:=Dflts.noKw hD;obtain⟨a,vs,ns,rfl,rfl,hobj,hints,hlen⟩:=Au hn hpre hwl;refine enter_call (codeAny_mono (call w s₀ s₁ mg mb fa o pm cd doc a vs ns G Y ho (fd_plain hd) hcd hmg hobj hints hlen hg) λr s' hq=>?_);obtain⟨rfl,h2,h3,h4⟩:=hq;exact⟨.inl ⟨.bool true,.bool true,[],rfl,λ_=>rfl,.bool true,Az l _,λ_=>⟨List.Pairwise.nil,λ_ hm=>(nomatch hm)⟩⟩,h2,h3,h4⟩
end Att
namespace L2
open PySem PySem.Spec PyProof.Rows
theorem vK:∀{vs:List Value} {ns:List Int},IntsAre vs ns->Vals (ns.map V.int) vs
 | _,_,.nil=>.nil
 | _,_,.cons n t h=>.cons ⟨t,rfl⟩ (vK h)
def HH(H:Hp):Prop:=∀ b,H b=none\/∃ o xs,H b=some (.frz o (.lst xs))
theorem CC{P:Program}{w:World}{K:Frag}{mg mb:Str->Option Value}{CX:DC}{k:Nat}{fa a:Addr}{fd:FuncData}{x:Str}{sp:Sp}{s₁:Shared}{vs:List Value}{ns:List Int}
  (KX:K.In s₁.heap) (hns:s₁.heap.Ns mainGlobals mg) (hb:s₁.heap.Ns builtinsNs mb) (hbb:∀ x:Str,x ≠ "__name__" -> mb x=bootBuiltins x) (hlim:s₁.heap.NoLimit) (hse:s₁.heap.NoSeer) (htr:P.given.tree=none) (hg:s₁.gens = #[])
  (ha:s₁.heap.get? a=some { cls:=.type "list",data:=.seq vs.toArray }) (hi:IntsAre vs ns) (hl:ns.length<=sizeLine) (hr:Room k callerA)
  (F:∀ base:Heap,K.In base->base.Ns mainGlobals mg->FnOk P w K mg base CX k fa fd [x] sp) (hbind:∀(s:Shared) (u:Value),BindsTo s fd ⟨[u],[]⟩ [(x,u)])
  (hsp:∀ H:Hp,HH H->SqL K H a (ns.map V.int)->sp [.ref a] H (λv _=>v = .bl true) λ_ _ _=>False)
  (hCX:∀ H e s',CX [] H s₁ (λ_ _ _=>False) e s'->False) :
  codeAny (model P w) callerA (.call (.ref fa) ⟨[.ref a],[]⟩) (λr s'=>r = .ok (.ret (.bool true))/\OldK s₁.heap s'.heap/\s'.os=s₁.os/\AllBare s'.gens) s₁:=by
 have rv:=vK hi;have lenV:=hi.length
 -- from an abstract heap in which nothing but the script may be tracked
 have core:∀ H:Hp,HH H->SqL K H a (ns.map V.int)->HOk P w H s₁.heap->(∀ b,H b≠none->b=a)->(H a≠none->K.lookup a=none) ->
   codeAny (model P w) callerA (.call (.ref fa) ⟨[.ref a],[]⟩) (λr s'=>r = .ok (.ret (.bool true))/\OldK s₁.heap s'.heap/\s'.os=s₁.os/\AllBare s'.gens) s₁:=by
  intro H hO hS hok hA hK;have base_of:∀{b:Addr} {o:Obj},s₁.heap.get? b=some o->H b=none->(vH s₁.heap H).get? b=some o:=λe n=>CJ e n;have noA:∀{b:Addr} {o:Obj} {es:Array DictEntry} {ep:Nat},s₁.heap.get? b=some o->o.data = .dict es ep->H b=none:=λ{b o es ep} e d=>by
   cases q:H b with
   | none=>rfl
   | some u =>
    have e':b=a:=hA b (by rw [q];simp);subst e';rw [ha] at e;cases e;have d':Data.seq vs.toArray _=Data.dict es ep:=d;cases d'
  have nsK:∀{b:Addr} {m:Str->Option Value},s₁.heap.Ns b m->(vH s₁.heap H).Ns b m:=λ{b m} ⟨o,es,ep,e,d,r⟩=>⟨o,es,ep,base_of e (noA e d),d,r⟩;have hKb:K.In (vH s₁.heap H):=λb o e=>base_of (KX b o e) (by
   cases q:H b with
   | none=>rfl
   | some u =>
    have e':b=a:=hA b (by rw [q];simp);subst e';rw [hK (by rw [q];simp)] at e;cases e)
  have hM:Mod K mg (vH s₁.heap H):=⟨hKb,nsK hns,⟨mb,nsK hb,hbb⟩,let ⟨mc,h1,h2⟩:=hlim;⟨mc,nsK h1,h2⟩⟩;have hsr:(vH s₁.heap H).NoSeer:=by
   obtain⟨⟨mc,a1,b1⟩,⟨mm,a2,b2⟩,⟨mi,a3,b3⟩,⟨mq,bm,ob,a4,b4,c4,d4,e4⟩⟩:=hse;refine⟨⟨mc,nsK a1,b1⟩,⟨mm,nsK a2,b2⟩,⟨mi,nsK a3,b3⟩,⟨mq,bm,ob,nsK a4,b4,base_of c4 ?_,d4,e4⟩⟩;cases q:H bm with
   | none=>rfl
   | some u =>
    have e':bm=a:=hA bm (by rw [q];simp);subst e';rw [ha] at c4;cases c4;exact absurd (show (Value.type "list")=Value.type "module" from d4) (by decide)
  have e0:Env0 P w K mg (vH s₁.heap H) callerA [] s₁ H:=⟨rfl,hM,λb o e=>Ek e,Nat.le_of_eq (AX _ _),trivial,λb hb=>absurd (show b∈([]:List Addr) from hb) (by simp),hok,.of_eq hg,hsr,htr⟩;refine codeAny_mono ((F _ hKb (nsK hns)).run callerA [] s₁ H ⟨[.ref a],[]⟩ [.ref a] [.ref a] _ _ hr e0 (hbind s₁ (.ref a)) (.cons rfl .nil) (hsp H hO hS)) λr s' h=>?_;cases r with
  | error e=>exact (hCX H e s' h).elim
  | ok fl =>
   cases fl with
   | next=>exact False.elim h
   | brk=>exact False.elim h
   | cont=>exact False.elim h
   | ret u =>
    obtain⟨v,H',os,bare,un,hok',r',q⟩:=h;have q':v = .bl true:=q;subst q';obtain rfl:u=Value.bool true:=r';refine⟨rfl,OldK.of_keep λb o e=>?_,os,bare⟩;cases q:H b with
    | none=>exact un.keep b o e q (by intro z;exact absurd (show b∈([]:List Addr) from z) (by simp)) (by simp)
    | some u =>
     rcases hO b with z|⟨ob,xs,z⟩
     ·rw [q] at z;cases z
     ·have z2:=un.frzs b ob _ z;obtain⟨e1,_⟩:=hok b _ z;obtain⟨e2,_⟩:=hok' b _ z2;rw [e] at e1;cases e1;exact e2
 cases hk:K.lookup a with
 | some o =>
  -- the script is one of the module's own objects
  have e:=KX a o hk;rw [ha] at e;cases e;refine core (λ_=>none) (λ_=>.inl rfl) (.inr ⟨_,vs.toArray,_,hk,rfl,rfl,rfl,by rw [ak,lenV];exact hl,by simpa using rv⟩) (λb u z=>by have z':(none:Option HO)=some u:=z;cases z') (λb z=>absurd rfl z) λz=>absurd rfl z
 | none =>
  refine core (λb=>if b=a then some (.frz { cls:=.type "list",data:=.seq vs.toArray } (.lst (ns.map V.int))) else none) (λb=>?_) (.inl (.inr ⟨{ cls:=.type "list",data:=.seq vs.toArray },if_pos rfl⟩)) (λb u z=>?_) (λb z=>?_) λ_=>hk
  ·by_cases hb:b=a
   ·exact .inr ⟨_,_,if_pos hb⟩
   ·exact .inl (if_neg hb)
  ·by_cases hb:b=a
   ·have z':=(if_pos hb).symm.trans z;cases z';subst hb;exact⟨ha,by rw [aa];exact hl,vs,_,rv,ha⟩
   ·have z':=(if_neg hb).symm.trans z;cases z'
  ·by_cases hb:b=a
   ·exact hb
   ·exact absurd (if_neg hb) z
end L2
namespace L2
open PySem PySem.Spec PyProof.Rows
theorem DH{l:PySem.W.OpenLaw}{n k:Nat}{q:Program}{loose:List Str}{XP:(Str->Option Value)->Heap->Prop}{YP:World->Heap->Prop}{d:DefRec}{K:Params->Frag}{CX:World->DC}{sp:World->Sp}{x:Str}
  (hn:l.most=some n) (hn2:n<=sizeLine) (hdf:d.params.defaults=[]) (hr:Room k callerA)
  (hY:∀(w:World) (h:Heap),YP w h->(K w.params).In h)
  (F:∀(w:World) (mg:Str->Option Value) (fa:Addr) (h:Heap),(K w.params).In h->h.Ns mainGlobals mg->mg d.name=some (.ref fa) ->
   ∃ fd:FuncData,(∀(s:Shared) (u:Value),BindsTo s fd ⟨[u],[]⟩ [(x,u)]) /\
    ∀ base:Heap,(K w.params).In base->base.Ns mainGlobals mg->FnOk l.prog w (K w.params) mg base (CX w) k fa fd [x] (sp w))
  (hsp:∀(w:World) (H:Hp) (a:Addr) (ns:List Int),ns.length<=n->HH H->SqL (K w.params) H a (ns.map V.int)->sp w [.ref a] H (λv _=>v = .bl true) λ_ _ _=>False)
  (hCX:∀(w:World) (H:Hp) (s:Shared) (e:Value) (s':Shared),CX w [] H s (λ_ _ _=>False) e s'->False) (hi:importsNone q=true:=by decide +kernel) (ht:l.prog.given.tree=none:=by rfl) :
  PySem.W.WalkO q loose XP YP l.row.toRowW d [] (λf vs=>PySem.call f vs):=by
 refine Att.xV hn hdf λw s₀ s₁ mg mb fa o pm cd doc a vs ns G Y ho hd hcd hmg hobj hints hlen hg=>?_;have KX:=hY w _ Y;obtain⟨fd,hb,hF⟩:=F w mg fa _ KX G.T.g hmg;exact CC KX G.T.g G.T.b G.T.builtins G.T.nolimit (G.T.seer hi) ht hg hobj hints (aC hlen hn2) hr hF hb (λH hO hS=>hsp w H a ns hlen hO hS) λH e s'=>hCX w H s₁ e s'
end L2
namespace L2
open PySem PySem.Spec PyProof.Rows
def sk(s:Stmt):Arguments:=match s with
 | .FunctionDef _ a _ _ _ _ _ _ _ _=>a
 | _=>{ posonlyargs:=[],args:=[],vararg:=none,kwonlyargs:=[],kw_defaults:=[],kwarg:=none,defaults:=[] }
def rE(s:Stmt):List Stmt:=match s with
 | .FunctionDef _ _ b _ _ _ _ _ _ _=>b
 | _=>[]
def qI(s:Stmt):Scope:=match s with
 | .FunctionDef _ _ _ _ _ _ sc _ _ _=>sc
 | _=>{ kind:=.function,names:=[],isGenerator:=false,isCoroutine:=false }
abbrev x9:DC:=λ_ _ _ _ _ _=>False
abbrev E0:XK:=λ_ _ _=>False
theorem IG{X:Cx}:y7 x9 X E0:=λ_ _ _ _ _ _ _ h=>h.elim
structure Fun (K:Frag)(x qual:Str)(st:Stmt)(f:Addr)(fd:FuncData):Prop where
 ex:∃(oc:Value) (od:Option Addr) (kV doc pm:Value) (an:Option Addr) (cdv ct:Value) (osl:Array (Option Value)),
  fd=PySem.W.fnOf x qual (sk st) (rE st) (qI st) .none kV doc pm an cdv ct/\K.lookup f=some ⟨oc,od,.func fd,osl⟩/\PySem.W.codeIn K cdv qual=true
 kp:PySem.W.keepIn K (.ref f)=true
section
variable{P:Program}{w:World}{K:Frag}{mg:Str->Option Value}{base:Heap}
theorem Fun.ok{x qual:Str}{st:Stmt}{f:Addr}{fd:FuncData}{N ps:List Str}{k:Nat}{sp:Sp}(F:Fun K x qual st f fd)(S:FnScope N ps (qI st))(len:∀ vs H Q E,sp vs H Q E->vs.length=ps.length)
  (hbody:∀(cdv:Value) (A:Around) (outer:List Env) (s:Shared) (H:Hp) (vs:List V) (Q:VK) (E:XK),Room k (A.deeper (envOfC qual (qI st) s.heap.objs.size f cdv))->sp vs H Q E ->
   ∃ t,PSs (yP x9 P w K mg base N qual (qI st) f cdv A outer s H E).nox (rE st) t/\t { nx:=λ_ H'=>Q .non H',rt:=Q } (start N vs) H):FnOk P w K mg base x9 (k+1) f fd ps sp:=by
 obtain⟨oc,od,kV,doc,pm,an,cdv,ct,osl,rfl,lk,hcd⟩:=F.ex;refine Jh lk hcd S len λA outer s H vs Q E hr hsp=>?_;obtain⟨t,h,q⟩:=hbody cdv A outer s H vs Q E hr hsp;exact⟨t,h.nox,q⟩
theorem Fun.binds{x qual:Str}{st:Stmt}{f:Addr}{fd:FuncData}{ps:List Str}(F:Fun K x qual st f fd)
  (h:∀(kV doc pm:Value) (an:Option Addr) (cdv ct:Value) (us:List Value),us.length=ps.length->bindArgs (PySem.W.fnOf x qual (sk st) (rE st) (qI st) .none kV doc pm an cdv ct) ⟨us,[]⟩=pure (ps.zip us)):Binds K fd ps []:=by
 obtain⟨oc,od,kV,doc,pm,an,cdv,ct,osl,rfl,lk,hcd⟩:=F.ex;exact .all (h kV doc pm an cdv ct)
theorem Hf{x qual:Str}{st:Stmt}{f:Addr}{oc:Value}{od an:Option Addr}{osl:Array (Option Value)}{kV doc pm cdv ct:Value}(l:K.lookup f=some ⟨oc,od,.func (PySem.W.fnOf x qual (sk st) (rE st) (qI st) .none kV doc pm an cdv ct),osl⟩)
  (c:PySem.W.codeIn K cdv qual=true) (k:PySem.W.keepIn K (.ref f)=true):Fun K x qual st f (PySem.W.fnOf x qual (sk st) (rE st) (qI st) .none kV doc pm an cdv ct):=⟨⟨oc,od,kV,doc,pm,an,cdv,ct,osl,rfl,l,c⟩,k⟩
end
section
variable{X:Cx}
theorem pv(i:Nat){x:Str}{pos:Pos}(hN:X.N[i]? = some x:=by rfl)(hv:FJ X.env.scope x:=by first|exact Or.inl rfl|exact Or.inr (Or.inl rfl)|exact Or.inr (Or.inr rfl))(hd:(x == ("__debug__" : Str))=false:=by decide)
  (hcd:(x == ("__classdict__" : Str))=false:=by decide):PE X (.Name x pos) (t6 i):=yp hN hv hd hcd
end
theorem GZ{A B:Prop}(h:B):if false=true then A else B:=by
 rw [if_neg aA];exact h
theorem GY{A B:Prop}(h:A):if true=true then A else B:=by
 rw [if_pos rfl];exact h
theorem Ez{c A B:Prop}[Decidable c](h1:c->A)(h2:¬ c->B):if c then A else B:=by
 by_cases h:c
 ·rw [if_pos h];exact h1 h
 ·rw [if_neg h];exact h2 h
theorem Fp{c A B:Prop}[Decidable c](hc:c)(h:B):if (!decide c)=true then A else B:=by
 rw [decide_eq_true hc];exact GZ h
def Same(H H':Hp):Prop:=∀ b o,H b=some o->H' b=some o
theorem Same.trans{H H1 H2:Hp}(a:Same H H1)(b:Same H1 H2):Same H H2:=λc o h=>b c o (a c o h)
theorem Same.seq{K:Frag}{H H':Hp}{a:Addr}{xs:List V}(e:Same H H')(h:SqL K H a xs):SqL K H' a xs:=by
 rcases h with (h|⟨o,h⟩)|h
 ·exact .inl (.inl (e _ _ h))
 ·exact .inl (.inr ⟨o,e _ _ h⟩)
 ·exact .inr h
end L2
namespace L2
open PySem PySem.Spec PyProof.Rows
theorem rM{β:Type}:∀{l:List (Str×β)} {x:Str} {k:β},l.lookup x=some k->(x,k)∈l
 | [],_,_,h=>by simp at h
 | (n,k')::r,x,k,h=>by
  rw [dS] at h;cases e:x == n with
  | true =>
   rw [e] at h;have e':x=n:=eq_of_beq e;have h':some k'=some k:=h;cases h';rw [e'];exact aE
  | false =>
   rw [e] at h;exact ay _ (rM h)
theorem wK{β:Type}:∀{l:List (Str×β)} {x:Str} {k:β},(x,k)∈l->∃ k',l.lookup x=some k'
 | [],_,_,h=>by simp at h
 | (n,k')::r,x,k,h=>by
  rw [dS];cases e:x == n with
  | true=>exact⟨k',rfl⟩
  | false =>
   rcases am.mp h with q|q
   ·cases q;simp at e
   ·exact wK q
def t4(env:Env)(x:Str)(k:NameKind):NameKind:=if (k == .free && env.scope.kind == .function && env.kindOf x == some .cell) then .cell else k
theorem uc{env:Env}{x:Str}:∀{l:List (Str×NameKind)},
  (l.map λ(n,k)=>if (k == NameKind.free && env.scope.kind == .function && env.kindOf n == some .cell) then (n,NameKind.cell) else (n,k)).lookup x=(l.lookup x).map (t4 env x)
 | []=>rfl
 | (n,k)::r=>by
  rw [dJ];have ih:=@uc env x r;have e0:(match ((n,k):Str×NameKind) with|(n,k)=>if (k == NameKind.free && env.scope.kind == .function && env.kindOf n == some .cell) then (n,NameKind.cell) else (n,k))=(n,t4 env n k):=by
   show (if (k == NameKind.free && env.scope.kind == .function && env.kindOf n == some .cell)=true then (n,NameKind.cell) else (n,k))=(n,t4 env n k);unfold t4;split <;> rfl
  rw [e0,dS,dS];cases e:x == n with
  | true =>
   have e':x=n:=eq_of_beq e;subst e';rfl
  | false=>exact ih
def rV(cells:List (Str×Addr)):List (Str×NameKind)->List (Str×Addr)->List (Str×Addr)
 | [],acc=>acc
 | (n,k)::r,acc=>if k == .free then rV cells r ((n,(cells.lookup n).getD 0)::acc) else rV cells r acc
theorem tD{cells:List (Str×Addr)}:∀{l:List (Str×NameKind)} {acc:List (Str×Addr)},(∀ y∈l,y.2 = .free->∃ c,cells.lookup y.1=some c)->(∀ p∈acc,cells.lookup p.1=some p.2) ->
  ∀ p∈rV cells l acc,cells.lookup p.1=some p.2
 | [],acc,_,ha,p,hp=>ha p hp
 | (n,k)::r,acc,hl,ha,p,hp=>by
  unfold rV at hp;have hl':∀ y∈r,y.2 = .free->∃ c,cells.lookup y.1=some c:=λy hy=>hl y (ay _ hy);cases hk:k == NameKind.free with
  | true =>
   rw [hk,if_pos rfl] at hp;refine tD hl' (λq hq=>?_) p hp;rcases am.mp hq with e|e
   ·subst e;obtain⟨c,e⟩:=hl (n,k) aE (eq_of_beq hk);show cells.lookup n=some ((cells.lookup n).getD 0);rw [show cells.lookup n=some c from e];rfl
   ·exact ha q e
  | false =>
   rw [hk,if_neg aA] at hp;exact tD hl' ha p hp
theorem vw{cells:List (Str×Addr)}:∀{l:List (Str×NameKind)} {acc:List (Str×Addr)} {p:Str×Addr},p∈acc->p∈rV cells l acc
 | [],_,_,h=>h
 | (n,k)::r,acc,p,h=>by
  unfold rV;split
  ·exact vw (ay _ h)
  ·exact vw h
theorem uj{cells:List (Str×Addr)}:∀{l:List (Str×NameKind)} {acc:List (Str×Addr)} {x:Str},(x,NameKind.free)∈l->∃ c,(x,c)∈rV cells l acc
 | [],_,_,h=>by simp at h
 | (n,k)::r,acc,x,h=>by
  unfold rV;rcases am.mp h with e|e
  ·cases e;rw [if_pos (by rfl)];exact⟨_,vw aE⟩
  ·split
   ·exact uj e
   ·exact uj e
theorem t3{env:Env}:∀{l:List (Str×NameKind)} {acc:List (Str×Addr)},(∀ y∈l,y.2 = .free->∃ c,env.cells.lookup y.1=some c) ->
  (forIn l acc (λ(x:Str×NameKind) (r:List (Str×Addr))=>(if (x.2 == NameKind.free)=true then do let c ← cellOf env x.1;pure (ForInStep.yield ((x.1,c)::r)) else pure (ForInStep.yield r):Sem _)))=pure (rV env.cells l acc)
 | [],_,_=>rfl
 | (n,k)::r,acc,hl=>by
  have hl':∀ y∈r,y.2 = .free->∃ c,env.cells.lookup y.1=some c:=λy hy=>hl y (ay _ hy);rw [List.forIn_cons];unfold rV;cases hk:k == NameKind.free with
  | true =>
   obtain⟨c,e⟩:=hl (n,k) aE (eq_of_beq hk);have e':env.cells.lookup n=some c:=e;simp only [hk,if_true];rw [show cellOf env n=pure c by unfold cellOf;rw [e']];simp only [pure_bind];rw [t3 hl',e'];rfl
  | false =>
   simp only [hk,cQ,if_false,pure_bind];exact t3 hl'
theorem uC{cells:List (Str×Addr)}:∀{l:List (Str×NameKind)} {acc:List (Str×Addr)} {p:Str×Addr},p∈rV cells l acc->p∈acc\/(p.1,NameKind.free)∈l
 | [],_,_,h=>.inl h
 | (n,k)::r,acc,p,h=>by
  unfold rV at h;split at h
  ·rename_i hk;rcases uC h with z|z
   ·rcases am.mp z with e|e
    ·subst e;rw [eq_of_beq hk];exact .inr aE
    ·exact .inl e
   ·exact .inr (ay _ z)
  ·exact (uC h).imp id (ay _)
theorem yU:∀{l:List (Str×NameKind)} {n:Nat} {acc:List (Str×Addr)} {p:Str×Addr},p∈cellsFrom n l acc->p∈acc\/(n<=p.2/\(p.1,NameKind.cell)∈l)
 | [],_,_,_,h=>.inl h
 | (x,k)::r,n,acc,p,h=>by
  unfold cellsFrom at h;split at h
  ·rename_i hk;rcases yU h with z|z
   ·rcases am.mp z with e|e
    ·subst e;rw [eq_of_beq hk];exact .inr ⟨af _,aE⟩
    ·exact .inl e
   ·exact .inr ⟨cI z.1,ay _ z.2⟩
  ·exact (yU h).imp id λz=>⟨z.1,ay _ z.2⟩
theorem vx:∀{l:List (Str×NameKind)} {n:Nat} {acc:List (Str×Addr)} {p:Str×Addr},p∈acc->p∈cellsFrom n l acc
 | [],_,_,_,h=>h
 | (x,k)::r,n,acc,p,h=>by
  unfold cellsFrom;split
  ·exact vx (ay _ h)
  ·exact vx h
theorem De:∀{l:List (Str×NameKind)} {n:Nat} {acc:List (Str×Addr)} {x:Str},(x,NameKind.cell)∈l->∃ c,(x,c)∈cellsFrom n l acc
 | [],_,_,_,h=>by simp at h
 | (y,k)::r,n,acc,x,h=>by
  unfold cellsFrom;rcases am.mp h with e|e
  ·cases e;rw [if_pos (by rfl)];exact⟨_,vx aE⟩
  ·split <;> exact De e
theorem yV:∀{l:List (Str×NameKind)} {n:Nat} {acc:List (Str×Addr)},(∀ p∈acc,p.2<n)->(∀ x y c,(x,c)∈acc->(y,c)∈acc->x=y)->∀ x y c,(x,c)∈cellsFrom n l acc->(y,c)∈cellsFrom n l acc->x=y
 | [],_,_,_,h=>h
 | (z,k)::r,n,acc,hl,h=>by
  unfold cellsFrom;split
  ·refine yV (λp hp=>?_) λx y c hx hy=>?_
   ·rcases am.mp hp with e|e
    ·subst e;exact Nat.lt_succ_self _
    ·exact gM (hl p e)
   ·rcases am.mp hx with e|e <;> rcases am.mp hy with e'|e'
    ·cases e;cases e';rfl
    ·cases e;exact absurd (hl _ e') (bt _)
    ·cases e';exact absurd (hl _ e) (bt _)
    ·exact h x y c e e'
  ·exact yV hl h
theorem wZ:∀{l:List (Str×NameKind)} {h:Heap} {acc:List (Str×Addr)} {p:Str×Addr},p∈cellsFrom h.objs.size l acc->p∈acc\/(pushCells h l).IsCell p.2 none
 | [],_,_,_,q=>.inl q
 | (x,k)::r,h,acc,p,q=>by
  unfold cellsFrom at q;unfold pushCells;split at q
  ·rename_i hk;rw [if_pos hk];rw [← Heap.size_push h { cls:=.type "cell",data:=.cell none }] at q;rcases wZ q with z|z
   ·rcases am.mp z with e|e
    ·subst e;exact .inr ⟨_,pushCells_keeps _ _ _ _ (ηG _ rfl),rfl⟩
    ·exact .inl e
   ·exact .inr z
  ·rename_i hk;rw [if_neg hk];exact wZ q
theorem vp{cells:List (Str×Addr)}{names:List (Str×NameKind)}{n:Nat}{x:Str}{c:Addr}(hfr:∀ y∈names,y.2 = .free->∃ c,cells.lookup y.1=some c)(h:(x,c)∈cellsFrom n names (rV cells names [])) :
  (cells.lookup x=some c/\(x,NameKind.free)∈names)\/(n<=c/\(x,NameKind.cell)∈names):=by
 rcases yU h with z|z
 ·refine .inl ⟨tD hfr (λ_ z=>absurd z aK) (x,c) z,?_⟩;rcases uC z with w|w
  ·exact absurd w aK
  ·exact w
 ·exact .inr z
theorem En{M:Model}{A:Around}{E:Value->Shared->Prop}{s:Shared}{scope:Scope}{g:Addr}{cl:List (Str×Addr)}{qual:Str}{env:Env}{Q:Env->Shared->Prop}
  (h:Q (newEnv scope s.heap.objs.size g (cellsFrom (s.heap.objs.size+1) scope.names cl) qual none .none (some env) builtinsNs) { s with heap:=pushCells (s.heap.push { cls:=.type "dict",data:=.dict #[] }) scope.names }) :
  wpAny M A (newFunctionEnv scope g cl [] qual none .none (some env)) Q E s:=by
 simp only [newFunctionEnv,Option.isSome_some,if_true];refine ηB (wpAny_alloc ?_);refine ηB (wpAny_layCells _ (λname kind cells=>by cases hkc:kind == NameKind.cell <;> simp [hkc]) _ _ _ _ ?_);rw [show ({ s with heap:=s.heap.push { cls:=.type "dict",data:=.dict #[] } }:Shared).heap.objs.size=s.heap.objs.size+1 from Heap.size_push ..];refine ηB ?_;rw [List.forIn_nil];exact ηP (ηP h)
def uH(hide:List Nat)(σ:St):St:=hide.foldl (λs i=>s.set i none) σ
theorem hideS_len:∀{hide:List Nat} {σ:St},(uH hide σ).length=σ.length
 | [],_=>rfl
 | i::r,σ=>by
  show (uH r (σ.set i none)).length=_;rw [hideS_len,bj]
theorem v3:∀{hide:List Nat} {σ:St} {i:Nat} {v:V},(uH hide σ)[i]? = some (some v)->i ∉ hide/\σ[i]? = some (some v)
 | [],_,_,_,h=>⟨by simp,h⟩
 | j::r,σ,i,v,h=>by
  obtain⟨h1,h2⟩:=v3 (hide:=r) (σ:=σ.set j none) h;by_cases e:j=i
  ·subst e;by_cases hl:j<σ.length
   ·rw [dZ hl] at h2;cases h2
   ·rw [bg (by simp;omega)] at h2;cases h2
  ·rw [aF e] at h2;exact⟨by simp [h1,Ne.symm e],h2⟩
def tO(X:Cx)(scope:Scope)(s2:Shared)(H2:Hp)(fp:List Addr)(pins:List (Addr×Obj))(C:Addr):Cx where
 prog:=X.prog
 w:=X.w
 K:=X.K
 mg:=X.mg
 base:=X.base
 A:=X.A
 N:=X.N
 s₀:=s2
 H₀:=H2
 env:=compEnvC scope (cellsFrom (C+1) scope.names (rV X.env.cells scope.names [])) C X.env
 outer:=X.stack
 stack:=X.stack
 ex:=fp
 fn:=λx=>scope.names.lookup x == some .cell
 calm:=X.calm
 pn:=X.pn++pins
 xe:=λ_ _=>False
structure CompS (N:List Str)(out:Scope)(scope:Scope)(hide:List Nat):Prop where
 kind:scope.kind = .function
 one:∀ y∈scope.names,scope.names.lookup y.1=some y.2
 free:∀ y∈scope.names,y.2 = .free->out.names.lookup y.1=some .cell\/out.names.lookup y.1=some .free
 loc:∀ y∈scope.names,y.2 = .local->scope.names.lookup y.1=some .local
 own:∀(i:Nat),i<N.length->(scope.names.lookup (N.getD i "")=some .local\/scope.names.lookup (N.getD i "")=some .cell)->i∈hide
section
variable{X:Cx}{pins:List (Addr×Obj)}{σ:St}{H:Hp}{s:Shared}
theorem LY{scope:Scope}{hide:List Nat}(S:CompS X.N X.env.scope scope hide){fp:List Addr}{C:Addr}(I:Inv X pins σ H s)(hf:∀ b∈fp,sU X pins H b)(hfo:∀ b∈fp,∃ o,s.heap.get? b=some o)
  (hC:s.heap.objs.size<=C):(tO X scope s H fp pins C).Ok:=by
 have hfr:∀ y∈scope.names,y.2 = .free->∃ c,X.env.cells.lookup y.1=some c:=λy hy e=>I.ok.has y.1 (S.free y hy e);have old:∀ x c,X.env.cells.lookup x=some c->c<s.heap.objs.size:=λx c e=>by
  obtain⟨v,o,ho,_⟩:=I.cell x c e;exact ηL ho
 have cl:∀ p∈rV X.env.cells scope.names [],X.env.cells.lookup p.1=some p.2:=tD hfr λ_ z=>absurd z aK;refine⟨I.ok.mod,S.kind,I.ok.glob,I.ok.blt,hC,λx y c e1 e2=>yV (λp hp=>gM (aD (old _ _ (cl p hp)) hC)) (λx y c h1 h2=>I.ok.inj x y c (cl _ h1) (cl _ h2)) x y c (rM e1) (rM e2),λx hx=>?_,λx c h e=>?_,I.ok.hd,I.ok.frames,.inl rfl,λb hb=>⟨?_,λx c e=>?_⟩,I.bs,
  aC I.ok.bsz I.sz,λb o e hb=>?_,λb hb z=>?_,I.stack,I.stkFree,I.ok.sr,I.ok.rn⟩
 ·have hx':((scope.names.lookup x).map (t4 X.env x)=some .cell)\/((scope.names.lookup x).map (t4 X.env x)=some .free):=by
   rw [← uc];exact hx
  cases q:scope.names.lookup x with
  | none=>rw [q] at hx';rcases hx' with z|z <;> cases z
  | some k =>
   have mem:=rM q;have kf:k = .free\/k = .cell:=by
    rw [q] at hx';have hx2:t4 X.env x k = .cell\/t4 X.env x k = .free:=hx'.imp Option.some.inj Option.some.inj;unfold t4 at hx2;by_cases c:(k == NameKind.free && X.env.scope.kind == .function && X.env.kindOf x == some .cell)=true
    ·simp only [bw,beq_iff_eq] at c;exact .inl c.1.1
    ·rw [if_neg c] at hx2;exact hx2.symm
   rcases kf with kf|kf
   ·subst kf;obtain⟨c,hc⟩:=uj (cells:=X.env.cells) (acc:=[]) mem;exact wK (vx hc)
   ·subst kf;obtain⟨c,hc⟩:=De (n:=C+1) (acc:=rV X.env.cells scope.names []) mem;exact wK hc
 ·have h:scope.names.lookup x=some .cell:=eq_of_beq h;rcases vp hfr (rM e) with⟨_,z⟩|⟨z,_⟩
  ·rw [S.one _ z] at h;cases h
  ·exact aC hC (cI z)
 ·obtain⟨o,e⟩:=hfo b hb;exact aQ (aD (ηL e) hC)
 ·obtain⟨o,e'⟩:=hfo b hb;rcases vp hfr (rM e) with⟨z,_⟩|⟨z,_⟩
  ·exact (hf b hb).2.2.2.2.1 x c z
  ·exact dq (aD (ηL e') (aC hC (cI z)))
 ·rcases (hf b hb).2.2.2.1 with z|z
  ·exact I.ok.noex b o e z
  ·exact absurd (aD (ηL (I.ok.bs b o e).1) z) (bt _)
 ·rcases am.mp (I.stkSub b z) with q|q
  ·exact (hf b hb).2.1 q
  ·exact (hf b hb).2.2.1 q
theorem JB(I:Inv X pins σ H s){a:Addr}(h:s.heap.objs.size<=a):a ∉ zX X.stack:=λz=>by
 rcases am.mp (I.stkSub a z) with q|q
 ·exact absurd (aD I.lt (by rw [← q];exact h)) (bt _)
 ·exact I.nofs h q
theorem KI{scope:Scope}{hide:List Nat}(S:CompS X.N X.env.scope scope hide){fp:List Addr}{C D:Addr}{h4:Heap}{tk:Nat}{ob:Obj}{m:Str->Option Value}(I:Inv X pins σ H s)(hf:∀ b∈fp,sU X pins H b)(hfo:∀ b∈fp,∃ o,s.heap.get? b=some o)
  (hC:s.heap.objs.size<=C) (hD:s.heap.objs.size<=D) (hDC:D≠C) (k:∀ b u,s.heap.get? b=some u->h4.get? b=some u) (hcl:∀ p∈cellsFrom (C+1) scope.names (rV X.env.cells scope.names []),p∈rV X.env.cells scope.names []\/h4.IsCell p.2 none) (hn:h4.Ns C m) (hDo:h4.get? D=some ob) (hob:∀ v,ob.data ≠ .cell v) :
  Inv (tO X scope s H fp pins C) [(D,ob)] (uH hide σ) H { s with heap:=h4,toks:=tk }:=by
 have ok:=LY S I hf hfo hC;have hfr:∀ y∈scope.names,y.2 = .free->∃ c,X.env.cells.lookup y.1=some c:=λy hy e=>I.ok.has y.1 (S.free y hy e);have sub:∀ x c,(x,c)∈rV X.env.cells scope.names []->X.env.cells.lookup x=some c:=λx c e=>tD hfr (λ_ z=>absurd z aK) (x,c) e;have ck:∀ c v,s.heap.IsCell c v->h4.IsCell c v:=λc v ⟨o,ho,hd⟩=>⟨o,k c o ho,hd⟩;refine⟨ok,rfl,I.bare,Un.kept k,⟨m,hn,λi x v e1 e2 e3=>?_⟩,λx c e=>?_,I.hok.fresh hC,λx c e=>?_,λp hp=>?_,I.hok.kept k,hideS_len.trans I.len⟩
 ·obtain⟨n1,n2⟩:=v3 e2;have e3':((scope.names.lookup x).map (t4 X.env x)=some .local)\/((scope.names.lookup x).map (t4 X.env x)=some .cell)\/((scope.names.lookup x).map (t4 X.env x)=some .free):=by
   rw [← uc];exact e3
  cases q:scope.names.lookup x with
  | none=>rw [q] at e3';rcases e3' with z|z|z <;> cases z
  | some kd =>
   rw [q] at e3';have e4:t4 X.env x kd = .local\/t4 X.env x kd = .cell\/t4 X.env x kd = .free:=e3'.imp Option.some.inj λz=>z.imp Option.some.inj Option.some.inj;have mem:=rM q;by_cases kl:kd = .local\/kd = .cell
   ·have hi:X.N[i]? = some x:=e1;obtain⟨hlt,hge⟩:=aj.mp hi;refine absurd (S.own i hlt ?_) n1;rw [ac,hi];exact kl.imp (λz=>by rw [← z];exact q) λz=>by rw [← z];exact q
   ·have kf:kd = .free:=by
     unfold t4 at e4;by_cases c:(kd == NameKind.free && X.env.scope.kind == .function && X.env.kindOf x == some .cell)=true
     ·simp only [bw,beq_iff_eq] at c;exact c.1.1
     ·rw [if_neg c] at e4;rcases e4 with z|z|z
      ·exact absurd (.inl z) kl
      ·exact absurd (.inr z) kl
      ·exact z
    subst kf;have kx:=S.free _ mem rfl;obtain⟨m0,_,hl⟩:=I.loc;obtain⟨u,r,l⟩:=hl i x v e1 n2 (.inr kx);refine⟨u,r,?_⟩;rcases l with⟨z,_⟩|⟨_,c,e,z⟩
    ·have z':X.env.scope.names.lookup x=some .local:=z;rw [z'] at kx;rcases kx with w|w <;> cases w
    ·obtain⟨c',hc'⟩:=uj (cells:=X.env.cells) (acc:=[]) mem;obtain⟨c2,hc2⟩:=wK (vx (n:=C+1) (l:=scope.names) hc');have ec:c2=c:=by
      rcases vp hfr (rM hc2) with⟨w,_⟩|⟨_,w⟩
      ·exact Option.some.inj (w.symm.trans e)
      ·have w1:=S.one _ w;rw [q] at w1;cases w1
     subst ec;refine .inr ⟨?_,c2,hc2,ck c2 _ z⟩;have e5:((relabel scope X.env).names.lookup x)=some (t4 X.env x .free):=by
      show (List.map _ scope.names).lookup x=_;rw [uc,q];rfl
     rcases e4 with w|w|w
     ·unfold t4 at w;split at w <;> cases w
     ·exact .inl (e5.trans (by rw [w]))
     ·exact .inr (e5.trans (by rw [w]))
 ·rcases hcl _ (rM e) with w|w
  ·obtain⟨v,z⟩:=I.cell x c (sub x c w);exact⟨v,ck c v z⟩
  ·exact⟨_,w⟩
 ·rcases vp hfr (rM e) with⟨w,_⟩|⟨w,_⟩
  ·exact I.freeC x c w
  ·exact I.hok.fresh (aC hC (cI w))
 ·rcases bz.mp hp with z|z
  ·obtain⟨e,n,ne,nf,d⟩:=I.pin p z;refine⟨k _ _ e,n,aQ (aD (ηL e) hC),λy=>?_,d⟩;rcases am.mp (I.stkSub _ y) with q|q
   ·exact ne q
   ·exact nf q
  ·have e:p=(D,ob):=by simpa using z
   subst e;exact⟨hDo,I.hok.fresh hD,hDC,JB I hD,hob⟩
theorem KH{scope:Scope}{fp:List Addr}{C D:Addr}{n:Nat}{its:List Value}{ys:List V}{pins':List (Addr×Obj)}{τ:St}{H':Hp}{s':Shared}(I:Inv X pins σ H s)(hf:∀ b∈fp,sU X pins H b)
  (hD:s.heap.objs.size<=D) (J:Inv (tO X scope s H fp pins C) pins' τ H' s') (hp:(D,({ cls:=.type "list",data:=.seq its.toArray n }:Obj))∈pins') (hv:Vals ys its) (hz:ys.length<=sizeLine) :
  Inv X pins σ (rD H' D (.lst ys)) s':=by
 obtain⟨eD,nD,_⟩:=J.pin _ (aY _ hp);have u:Un (zX X.stack) fp H H' s.heap s'.heap:=J.base;have ne:∀ b o,s.heap.get? b=some o->b≠D:=λb o e=>aQ (aD (ηL e) hD);have u':Un (zX X.stack) fp H (rD H' D (.lst ys)) s.heap s'.heap:=by
  refine⟨u.keep,u.slot,λb o e q hx=>?_,u.there,λb xs e=>?_,λb o v e=>?_,λb ps e=>?_⟩
  ·rw [qM (ne b o e)];exact u.free b o e q hx
  ·have q:=u.tups b xs e;rw [qM (qV q nD)];exact q
  ·have q:=u.frzs b o v e;rw [qM (qV q nD)];exact q
  ·obtain⟨more,q⟩:=u.tbls b ps e;refine⟨more,?_⟩;rw [qM (qV q nD)];exact q
 have hok:HOk X.prog X.w (rD H' D (.lst ys)) s'.heap:=λb o e=>by
  by_cases hb:b=D
  ·subst hb;rw [qP] at e;cases e;exact⟨hz,its,n,hv,eD⟩
  ·rw [qM hb] at e;exact (J.hok b o e).stay (λ_ _ _ q=>q) (λc q=>by rw [qM (qV q nD)];exact q) λc xs q=>by rw [qM (qV q nD)];exact q
 refine I.call' (show s'.os=s.os from J.os) u' hok J.bare λb hb=>?_;obtain⟨f0,f1,f2,f3,f4,f5⟩:=hf b hb;exact⟨f3,f1,f4,f5⟩
end
abbrev vg(its:List Value)(n:Nat):Obj:={ cls:=.type "list",data:=.seq its.toArray n }
def PTs(X:Cx)(ifs:List Expr)(t:TT):Prop :=
 ∀(pins:List (Addr×Obj)) (s:Shared) (σ:St) (H:Hp) (Q:Bool->Hp->Prop),Inv X pins σ H s->t σ H Q ->
  wpAny (model X.prog X.w) X.A (forIn ifs true λc r=>if r=true then do let ok ← isTrue c X.env (eval c X.env);pure (ForInStep.yield ok) else pure (ForInStep.yield r)) (TP X pins σ Q) X.xe s
def H9:TT:=λ_ H Q=>Q true H
theorem pts_nil{X:Cx}:PTs X [] H9:=λ_ _ _ H _ I h=>wpAny_tests_nil ⟨H,I,h⟩
theorem DX{X:Cx}{c:Expr}{t:TT}(hc:PT X c t):PTs X [c] t:=λpins s σ H Q I h=>wpAny_tests_one (hc pins s σ H Q I h)
theorem Js{Y:Cx}{tg iter elt:Expr}{ifs:List Expr}{scope:Scope}{pos:Pos}{g:TG}{te:TE}{tt:TT}{J:It}{fp:List Addr}{it D:Addr}{tn:Nat->Heap->Prop}{R:Result->Shared->Prop}
  {W:Nat->Nat->St->List V->Hp->Prop} {Z:List V->Hp->Prop} {s:Shared} {σ:St} {H:Hp} {m n0:Nat}
  (T:Turn Y.prog Y.w Y.K tg J fp it tn) (hc:Y.calm=true) (hg:PG Y tg g) (ht:PTs Y ifs tt) (he:PE Y elt te) (hx:∀ e s,Y.xe e s->False)
  (stat:∀ ob H',(∀ b∈fp,H' b=none)->∀ b∈fp,sU Y [(D,ob)] H' b) (hDs:Y.s₀.heap.objs.size<=D) (hDc:∀ x c,Y.env.cells.lookup x=some c->c≠D) (hDp:∀ p∈Y.pn,p.1≠D)
  (wo:∀ k m τ ys H,W k m τ ys H->(J.stop k H/\Z ys H)\/(J.go k H/\ys.length<sizeLine/\∀ x H',J.yld k H x H'->g x τ H' λτ2 H2=>tt τ2 H2 λb H3 =>
   if b=true then te τ2 H3 λv H4=>∃ m',m'<m/\W (k+1) m' τ2 (ys++[v]) H4 else ∃ m',m'<m/\W (k+1) m' τ2 ys H3))
  (out:∀(τ:St) (H':Hp) (s':Shared) (ys:List V) (its:List Value) (n:Nat),Inv Y [(D,vg its n)] τ H' s'->Vals ys its->ys.length<=sizeLine->Z ys H'->R (.ok .next) s')
  (I:Inv Y [(D,vg [] n0)] σ H s) (st:tn 0 s.heap) (fr:∀ b∈fp,H b=none) (w0:W 0 m σ [] H) :
  codeAny (model Y.prog Y.w) Y.A (.compLoop (.ListComp elt [⟨tg,iter,ifs,0⟩] scope pos) 0 (.ref it) (.ref D) Y.env) R s:=by
 refine codeAny_loop rfl (λm s'=>∃ k τ H' ys its n,Inv Y [(D,vg its n)] τ H' s'/\tn k s'.heap/\(∀ b∈fp,H' b=none)/\Vals ys its/\ys.length<=sizeLine/\W k m τ ys H') (λm1 s1 h1=>?_) m ⟨0,σ,H,[],[],n0,I,st,fr,.nil,aB _,w0⟩;obtain⟨k,τ,H1,ys,its,n,I1,st1,fr1,rv,hz,w1⟩:=h1;have no:∀{E:Value->Shared->Prop} {α:Type} {c:Sem α} {Q:α->Shared->Prop} {s:Shared},wpAny (model Y.prog Y.w) Y.A c Q Y.xe s->wpAny (model Y.prog Y.w) Y.A c Q E s:=λ{E α c Q s} h=>wpAny_mono h (λ_ _ q=>q) λe s' q=>(hx e s' q).elim;show wpAny _ Y.A ((compTurn (.ListComp elt [⟨tg,iter,ifs,0⟩] scope pos) 0 (.ref it) (.ref D) Y.env).onRaise _) _ _ s1;refine wpAny_noted ?_;rw [compTurn_list];refine ηB (wpAny_standAt (ηB ?_));rcases wo k m1 τ ys H1 w1 with⟨stop,z⟩|⟨go,hlt,step⟩
 ·refine q8 (T.done Y rfl rfl rfl hc k _ s1 τ H1 _ I1 (stat _ _ fr1) st1 stop) λr s2 ⟨hr,I2⟩=>?_;subst hr;exact ηP (out τ H1 s2 ys its n I2 rv hz z)
 ·refine q8 (T.item Y rfl rfl rfl hc k _ s1 τ H1 _ I1 (stat _ _ fr1) st1 go) λr s2 ⟨u,hr,h2⟩=>?_;subst hr;refine ηB (q8 h2 λ_ s3 ⟨x,H3,I3,r3,y3,st3,fr3⟩=>?_);have I3':=I3.pinned (stat _ _ fr3) (T.obj _ _ st3);refine ηB (no (q8 (hg _ s3 τ H3 x u _ I3' r3 (step x H3 y3)) λ_ s4 ⟨τ4,H4,I4,q4⟩=>?_));refine ηB (no (q8 (ht _ s4 τ4 H4 _ I4 q4) λok s5 ⟨H5,I5,q5⟩=>?_));have frs5:∀{H':Hp} {s':Shared} {τ':St},Inv Y ([(D,vg its n)]++ve fp s3.heap) τ' H' s'->tn (k+1) s'.heap/\∀ b∈fp,H' b=none:=λ{H' s' τ'} I'=>by
   refine⟨T.keep _ _ _ st3 λb hb o e=>(I'.pin (b,o) (aY _ (aY _ (sM hb e)))).1,λb hb=>?_⟩;obtain⟨o,e,d⟩:=T.obj _ _ st3 b hb;exact (I'.pin (b,o) (aY _ (aY _ (sM hb e)))).2.1
  cases ok with
  | false =>
   have q5':∃ m',m'<m1/\W (k+1) m' τ4 ys H5:=q5;obtain⟨m',hm,w5⟩:=q5';obtain⟨a1,a2⟩:=frs5 I5;exact ηP ⟨rfl,m',hm,k+1,τ4,H5,ys,its,n,I5.unpinned,a1,a2,rv,hz,w5⟩
  | true =>
   have q5':te τ4 H5 λv H4=>∃ m',m'<m1/\W (k+1) m' τ4 (ys++[v]) H4:=q5;refine ηB (ηB (no (q8 (he _ s5 τ4 H5 _ I5 q5') λv s6 ⟨y,H6,I6,r6,m',hm,w6⟩=>?_)));obtain⟨a1,a2⟩:=frs5 I6;have I7:=I6.unpinned;obtain⟨eD,nD,neD,nfD,_⟩:=I7.pin (D,vg its n) (aY _ aE);have hlen:=rv.length;have eD':s6.heap.get? D=some { cls:=.type "list",data:=.seq its.toArray n }:=eD;refine ηB (call_meets F.slot_list_append ⟨_,eD',rfl⟩ F.entry_list_append (F.args_list_append_2 _ _) (PySem.list_append D its.toArray n v (by rw [ak];omega)) ⟨eD',?_⟩);have qD:=PySem.IsL.update eD' (·.push v);have I8:Inv Y [] τ4 H6 s6:=I7.pins_of λp hp=>absurd hp aK;have I9:Inv Y [] τ4 H6 { s6 with heap:=s6.heap.update D (Obj.mapSeq (·.push v)) }:=I8.turned (t':=s6.toks) (λb o hb e=>(Heap.get?_update_other s6.heap (Obj.mapSeq (·.push v)) (Ne.symm hb)).trans e) nD neD (.inr hDs) hDc λp hp=>hDp p (by simpa using hp);have ep:its.toArray.push v=(its++[v]).toArray:=by simp
   rw [ep] at qD;obtain⟨n2,qD⟩:∃ n2,(s6.heap.update D (Obj.mapSeq (·.push v))).get? D=some (vg (its++[v]) n2):=⟨_,qD⟩;have I10:Inv Y [(D,vg (its++[v]) n2)] τ4 H6 { s6 with heap:=s6.heap.update D (Obj.mapSeq (·.push v)) }:=I9.pins_of λp hp=>by
    have e:p=(D,vg (its++[v]) n2):=by simpa using hp
    subst e;exact⟨qD,nD,neD,nfD,λv z=>by have z':Data.seq _ _=Data.cell v:=z;cases z'⟩
   refine ηP (ηP ⟨rfl,m',hm,k+1,τ4,H6,ys++[y],its++[v],_,I10,?_,a2,rv.append (.cons r6 .nil),?_,w6⟩)
   ·refine T.keep _ _ _ a1 λb hb o e=>(Heap.get?_update_other s6.heap (Obj.mapSeq (·.push v)) ?_).trans e;have f5:=(stat (vg its n) H6 a2 b hb).2.2.2.2.2;exact f5 (D,vg its n) (aY _ aE)
   ·rw [aq,eA];omega
theorem vv{scope:Scope}{env:Env}(h:∀ y∈scope.names,y.2 = .free->∃ c,env.cells.lookup y.1=some c):closureFor scope env=pure (rV env.cells scope.names []):=by
 have q:=t3 (env:=env) (acc:=[]) h;unfold closureFor;show (forIn scope.names [] _ >>= λr=>pure r)=_;refine Eq.trans (congrArg (· >>= λr=>pure r) (Eq.trans ?_ q)) (by simp);refine congrArg (forIn scope.names []) ?_;funext x r;obtain⟨n,k⟩:=x;first
  | rfl
  | (dsimp only;split <;> simp)
def DB(J:It)(g:TG)(tt:TT)(te:TE)(σ:St)(Q:VK)(H1:Hp):Prop:=∃ W:Nat->Nat->St->List V->Hp->Prop,(∃ m,W 0 m σ [] H1) /\
 ∀ k m τ ys H,W k m τ ys H->(J.stop k H/\∀ D,H D=none->Q (.ref D) (rD H D (.lst ys)))\/(J.go k H/\ys.length<sizeLine/\∀ x H',J.yld k H x H'->g x τ H' λτ2 H2=>tt τ2 H2 λb H3 =>
   if b=true then te τ2 H3 λv H4=>∃ m',m'<m/\W (k+1) m' τ2 (ys++[v]) H4 else ∃ m',m'<m/\W (k+1) m' τ2 ys H3)
def E5(wi:TI)(hide:List Nat)(g:TG)(tt:TT)(te:TE):TE:=λσ H Q=>wi σ H λJ H1=>DB J g tt te (uH hide σ) Q H1
theorem Dn{X:Cx}{pins:List (Addr×Obj)}{σ:St}{H:Hp}{s:Shared}{elt tg iter:Expr}{ifs:List Expr}{scope:Scope}{pos:Pos}{hide:List Nat}{g:TG}{te:TE}{tt:TT}{J:It}{fp:List Addr}{it:Addr}{tn:Nat->Heap->Prop}{RR:Value->Addr->Result->Shared->Prop}{Q:VK}{E:Value->Shared->Prop}
  (hc:X.calm=true) (S:CompS X.N X.env.scope scope hide)
  (hg:∀ s2 H2 fp pins C,PG (tO X scope s2 H2 fp pins C) tg g) (ht:∀ s2 H2 fp pins C,PTs (tO X scope s2 H2 fp pins C) ifs tt) (he:∀ s2 H2 fp pins C,PE (tO X scope s2 H2 fp pins C) elt te)
  (I:Inv X pins σ H s) (T:Turn X.prog X.w X.K tg J fp it tn) (st:tn 0 s.heap) (hf:∀ b∈fp,sU X pins H b)
  (h:∃ W:Nat->Nat->St->List V->Hp->Prop,(∃ m,W 0 m (uH hide σ) [] H) /\
   ∀ k m τ ys H,W k m τ ys H->(J.stop k H/\∀ D,H D=none->Q (.ref D) (rD H D (.lst ys)))\/(J.go k H/\ys.length<sizeLine/\∀ x H',J.yld k H x H'->g x τ H' λτ2 H2=>tt τ2 H2 λb H3 =>
    if b=true then te τ2 H3 λv H4=>∃ m',m'<m/\W (k+1) m' τ2 (ys++[v]) H4 else ∃ m',m'<m/\W (k+1) m' τ2 ys H3))
  (hRR:∀ D C s' ys H',Inv X pins σ (rD H' D (.lst ys)) s'->sU X pins (rD H' D (.lst ys)) C->(∃ m,s'.heap.Ns C m)->Q (.ref D) (rD H' D (.lst ys))->RR (.ref D) C (.ok .next) s') :
  wpAny (model X.prog X.w) X.A (newList []) (λacc s3=>wpAny (model X.prog X.w) X.A (newFunctionEnv scope X.env.globals (rV X.env.cells scope.names []) [] X.env.qual none .none (some X.env)) (λcenv s4 =>
   codeAny (model X.prog X.w) X.A (.compStart (.ListComp elt [⟨tg,iter,ifs,0⟩] scope pos) 0 (.ref it) acc { cenv with scope:=relabel scope X.env }) (RR acc cenv.locals) s4) E s3) E s:=by
 obtain⟨W,⟨m0,w0⟩,wo⟩:=h;refine wpAny_newList (En ?_) (by simp);dsimp only;generalize hH2:s.heap.push { cls:=.type "list",data:=.seq ([]:List Value).toArray }=H2;have hC:H2.objs.size=s.heap.objs.size+1:=by rw [← hH2,Heap.size_push]
 have k2:∀ b o,H2.get? b=some o->(pushCells (H2.push { cls:=.type "dict",data:=.dict #[] }) scope.names).get? b=some o:=λb o e=>pushCells_keeps _ _ b o (ηH _ e);have hcl:∀ p∈cellsFrom (H2.objs.size+1) scope.names (rV X.env.cells scope.names []),p∈rV X.env.cells scope.names []\/(pushCells (H2.push { cls:=.type "dict",data:=.dict #[] }) scope.names).IsCell p.2 none:=λp hp=>by
  rw [← Heap.size_push H2 { cls:=.type "dict",data:=.dict #[] }] at hp;exact wZ hp
 have hns₁:(pushCells (H2.push { cls:=.type "dict",data:=.dict #[] }) scope.names).Ns H2.objs.size λ_=>none:=(Heap.Ns.new H2 (.type "dict")).keeps (pushCells_keeps _ _);generalize pushCells (H2.push { cls:=.type "dict",data:=.dict #[] }) scope.names=h₁ at k2 hcl hns₁ ⊢;have k1:∀ b o,s.heap.get? b=some o->h₁.get? b=some o:=λb o e=>k2 b o (hH2 ▸ ηH _ e);have hDC:s.heap.objs.size≠H2.objs.size:=by rw [hC];exact aQ (Nat.lt_succ_self _)
 have eD:h₁.get? s.heap.objs.size=some (vg [] 0):=k2 _ _ (hH2 ▸ ηG _ rfl);have hfo:∀ b∈fp,∃ o,s.heap.get? b=some o:=λb hb=>let ⟨o,e,_⟩:=T.obj _ _ st b hb;⟨o,e⟩;have hle:s.heap.objs.size<=H2.objs.size:=by rw [hC];exact gx _
 have I1:=KI (tk:=s.toks) S I hf hfo hle (af _) hDC k1 hcl hns₁ eD (λv z=>by have z':Data.seq _ _=Data.cell v:=z;cases z');have sub:∀ x c,(cellsFrom (H2.objs.size+1) scope.names (rV X.env.cells scope.names [])).lookup x=some c->X.env.cells.lookup x=some c\/H2.objs.size+1<=c:=λx c e=>(vp (λy hy e=>I.ok.has y.1 (S.free y hy e)) (rM e)).imp (·.1) (·.1);have st1:tn 0 h₁:=T.keep _ _ _ st λb _ o e=>k1 b o e;have lp:codeAny (model X.prog X.w) X.A (.compLoop (.ListComp elt [⟨tg,iter,ifs,0⟩] scope pos) 0 (.ref it) (.ref s.heap.objs.size) (compEnvC scope (cellsFrom (H2.objs.size+1) scope.names (rV X.env.cells scope.names [])) H2.objs.size X.env)) (RR (.ref s.heap.objs.size) H2.objs.size)
   { s with heap:=h₁ }:=by
  refine Js (Y:=tO X scope s H fp pins H2.objs.size) (Z:=λys H=>∀ D,H D=none->Q (.ref D) (rD H D (.lst ys))) T hc (hg _ _ _ _ _) (ht _ _ _ _ _) (he _ _ _ _ _) (λ_ _ z=>z) (λob H' hn b hb=>?_) (af _) (λx c e z=>?_) (λp hp z=>?_) wo (λτ H' s' ys its n J rv hz q=>?_) I1 st1 (λb hb=>(hf b hb).1) w0
  ·obtain⟨f0,f1,f2,f3,f4,f5⟩:=hf b hb;obtain⟨o,e⟩:=hfo b hb;have lb:=ηL e;refine⟨hn b hb,aQ (aD lb hle),λz=>?_,.inl hb,λx c e=>(sub x c e).elim (f4 x c) λz=>dq (aD lb (aC hle (cI z))),λp hp=>?_⟩
   ·rcases am.mp (I.stkSub b z) with q|q
    ·exact f1 q
    ·exact f2 q
   ·rcases bz.mp hp with z|z
    ·exact f5 p z
    ·have e:p=(s.heap.objs.size,ob):=by simpa using z
     subst e;exact dq lb
  ·rcases sub x c e with w|w
   ·obtain⟨v,o,ho,_⟩:=I.cell x c w;exact absurd (ηL ho) (by rw [z];exact bt _)
   ·rw [z,hC] at w;exact absurd (cI w) (Nat.not_succ_le_self _)
  ·exact absurd (ηL (I.pin p hp).1) (by rw [z];exact bt _)
  ·obtain⟨_,nD,_⟩:=J.pin _ (aY _ aE);have nC:H' H2.objs.size=none:=J.free;refine hRR _ _ s' ys H' (KH I hf (af _) J aE rv hz) (I.fpOk hle ?_) ?_ (q _ nD)
   ·rw [qM (Ne.symm hDC)];exact nC
   ·obtain⟨m,hm,_⟩:=J.loc;exact⟨m,hm⟩
 exact codeAny_compStart_list lp (T.self X.A 0 _ _ _ st1 lp)
section
variable{X:Cx}{elt tg iter:Expr}{ifs:List Expr}{scope:Scope}{pos:Pos}{hide:List Nat}{wi:TI}{g:TG}{te:TE}{tt:TT}
theorem zu(hc:X.calm=true)(S:CompS X.N X.env.scope scope hide)(hi:PI X tg iter wi)
  (hg:∀ s2 H2 fp pins C,PG (tO X scope s2 H2 fp pins C) tg g) (ht:∀ s2 H2 fp pins C,PTs (tO X scope s2 H2 fp pins C) ifs tt) (he:∀ s2 H2 fp pins C,PE (tO X scope s2 H2 fp pins C) elt te)
  (hs:∀ x,foldedSetIterable iter X.env x=pure x:=by intro _;rfl):PE X (.ListComp elt [⟨tg,iter,ifs,0⟩] scope pos) (E5 wi hide g tt te):=by
 intro pins s σ H Q I h;rw [eval_ListComp];refine wpAny_comprehension_free (use:=none) rfl hs (vv λy hy e=>I.ok.has y.1 (S.free y hy e)) S.kind S.loc (q8 (hi pins s σ H _ I h) λv s1 h1=>q8 h1 λitv s2 h2=>?_);obtain⟨it,fp,tn,J,H2,e,I2,T,st2,f2,q2⟩:=h2;subst e;refine Dn (RR:=λacc C=>compPost (model X.prog X.w) X.A X.xe none (EP X pins σ Q) acc C) hc S hg ht he I2 T st2 f2 q2 λD C s' ys H' I' fC hN q=>?_;obtain⟨m,hm⟩:=hN;obtain⟨f0,f1,f2,f3,f4,f5⟩:=fC;refine⟨m,hm,λh' sb=>⟨.ref D,_,?_,rfl,q⟩⟩;exact I'.turned (t':=s'.toks) (λb o hb e=>(sb.2 b hb).trans e) f0 f1 f3 f4 f5
theorem DY{i:Nat}{y:Str}{py spos:Pos}(hc:X.calm=true)(hN:X.N.Nodup)(hy:X.N[i]? = some y)(hl:Bc X.env.scope y)(S:CompS X.N X.env.scope scope hide)(hi:PI X tg iter wi)
  (hg:∀ s2 H2 fp pins C,PG (tO X scope s2 H2 fp pins C) tg g) (ht:∀ s2 H2 fp pins C,PTs (tO X scope s2 H2 fp pins C) ifs tt) (he:∀ s2 H2 fp pins C,PE (tO X scope s2 H2 fp pins C) elt te)
  (hs:∀ x,foldedSetIterable iter X.env x=pure x:=by intro _;rfl)
  (hsw:swapsWith (.ListComp elt [⟨tg,iter,ifs,0⟩] scope pos) (some (.Name y py)) spos.line X.env=pure true:=by rfl)
  (hf:X.fn y=true\/X.env.scope.names.lookup y=some .local:=by first|exact .inl rfl|exact .inr rfl|assumption) :
  PS X (.Assign [.Name y py] (.ListComp elt [⟨tg,iter,ifs,0⟩] scope pos) spos) (λD σ H=>E5 wi hide g tt te σ H λv H1=>D.nx (σ.set i (some v)) H1):=by
 intro pins s σ H D I h;rw [exec_Assign_Name_used _ _ _ _ hsw];refine ηB (wpAny_standAt (ηB ?_));show wpAny _ X.A (do let _ ← comprehension (.ListComp elt [⟨tg,iter,ifs,0⟩] scope pos) scope X.env _ (newList []) false (eval iter X.env) (some (assign (.Name y py) X.env))) _ _ s;refine ηB (q8 (wpAny_comprehension_free (use:=some (assign (.Name y py) X.env)) (Q:=λ_ s'=>SP X pins D .next s') rfl hs (vv λy hy e=>I.ok.has y.1 (S.free y hy e)) S.kind S.loc
  (q8 (hi pins s σ H _ I h) λv s1 h1=>q8 h1 λitv s2 h2=>?_)) (λ_ s' hq=>ηP (ηP hq)))
 obtain⟨it,fp,tn,J,H2,e,I2,T,st2,f2,q2⟩:=h2;subst e;refine Dn (Q:=λv H1=>D.nx (σ.set i (some v)) H1) (RR:=λacc C=>compPost (model X.prog X.w) X.A X.xe (some (assign (.Name y py) X.env)) (λ_ s'=>SP X pins D .next s') acc C) hc S hg ht he I2 T st2 f2 q2 λA C s' ys H' I' fC hNs q=>?_;obtain⟨m,hm⟩:=hNs;obtain⟨f0,f1,f2,f3,f4,f5⟩:=fC;show wpAny _ X.A (assign (.Name y py) X.env (.ref A)) _ _ s';refine wpAny_assign_Name (vO I' hN hy hl (v:=.ref A) rfl (λs'' I'' hch=>?_) hf);obtain⟨a,sb,ha⟩:=hch;have nC:C≠a:=by
  rcases ha with z|z
  ·rw [z];exact f1
  ·exact Ne.symm (f4 _ _ z)
 refine⟨m,hm.sameBut sb nC,λh3 sb3=>⟨_,_,?_,q⟩⟩;exact I''.turned (t':=s''.toks) (λb o hb e=>(sb3.2 b hb).trans e) f0 f1 f3 f4 f5
end
end L2
namespace L2
open PySem PySem.Spec PyProof.Rows
def Lt2(n:Nat)(i:Int):Prop:=i.natAbs<2^n
theorem Lt2.mono{n m:Nat}{i:Int}(h:Lt2 n i)(l:n<=m):Lt2 m i:=aD h (b9 (by decide) l)
theorem Lt2.mul{n m:Nat}{i j:Int}(h:Lt2 n i)(l:Lt2 m j):Lt2 (n+m) (i*j):=by
 unfold Lt2;rw [aO,dG];exact Nat.mul_lt_mul'' h l
theorem Lt2.add{n:Nat}{i j:Int}(h:Lt2 n i)(l:Lt2 n j):Lt2 (n+1) (i+j):=by
 unfold Lt2 at *;rw [Nat.pow_succ];omega
theorem Lt2.sub{n:Nat}{i j:Int}(h:Lt2 n i)(l:Lt2 n j):Lt2 (n+1) (i-j):=by
 unfold Lt2 at *;rw [Nat.pow_succ];omega
theorem Lt2.of{n:Nat}{i:Int}(b:Nat)(h:i.natAbs<=b)(l:b<2^n):Lt2 n i:=bE h l
theorem Lt2.le{n:Nat}{i j:Int}(h:Lt2 n i)(l:j.natAbs<=i.natAbs):Lt2 n j:=bE l h
def CMulB(i j:Int):Prop:=∃ n m,Lt2 n i/\Lt2 m j/\n+m<=100000000
theorem CMulB.ok{i j:Int}(h:CMulB i j):IntMulOk i j:=by
 obtain⟨n,m,h1,h2,h3⟩:=h;have a:=PyProof.Rows.intBits_le h1;have b:=PyProof.Rows.intBits_le h2;unfold IntMulOk;intro z;simp only [bw,decide_eq_true_eq] at z;have z2:((Builtin.Int.intBits i:Int)+(Builtin.Int.intBits j:Int)) > ((2^27:Nat):Int):=of_decide_eq_true z.2;have e:(2^27:Nat)=134217728:=by decide
 rw [e] at z2;omega
def sS(i j:Int):Prop:=j≠0/\∃ n,Lt2 n j/\n<=100000000
theorem Inv.pyl{X:Cx}{pins:List (Addr×Obj)}{σ:St}{H:Hp}{s:Shared}{k:Nat}(I:Inv X pins σ H s)(hr:Room k X.A):PySem.PylongRoom (model X.prog X.w) X.A s:=by
 obtain⟨e,l,h1,h2,h3,h4,h5⟩:=I.ok.rn;exact PySem.PylongRoom.of I.nolimit (by have:=hr.dp;show X.A.depth+100<_;omega) (PySem.SeerAt.of (I.ok.sr.1.keeps I.bk) I.ok.sr.2 (by rw [I.ok.frames,h1]) h2 h3 h4 h5)
theorem KW{X:Cx}{f:Value->Value->Sem Value}{C:Int->Int->Prop}{g:Int->Int->Int}{k:Nat}(hr:Room k X.A)
  (rule:∀(i j:Int) (t u:Tok) (s:Shared) (Q:Value->Shared->Prop) (E:Value->Shared->Prop),PySem.PylongRoom (model X.prog X.w) X.A s->C i j->Q (.int (g i j) s.toks) { s with toks:=s.toks+1 }->wpAny (model X.prog X.w) X.A (f (.int i t) (.int j u)) Q E s) :
  OpR X f (rI C λi j=>.int (g i j)):=by
 intro pins s σ H x y v u Q I rx ry h;obtain⟨i,j,rfl,rfl,hc,q⟩:=h;obtain⟨t,rfl⟩:=rx;obtain⟨t',rfl⟩:=ry;exact rule i j t t' s _ _ (Inv.pyl I hr) hc ⟨.int (g i j),H,I.tok _,⟨_,rfl⟩,q⟩
section
variable{X:Cx}
theorem Ec:OpR X (binaryOp .Mult) (rI CMulB λi j=>.int (i*j)):=Fj λ_ _ _ _ _ _ _ hc q=>mul_int q hc.ok
theorem xv{k:Nat}(hr:Room k X.A):OpR X (binaryOp .FloorDiv) (rI sS λi j=>.int (i.fdiv j)):=KW hr λ_ _ _ _ _ _ _ hp hc q=>floordiv_int hc.1 q (.inr hp)
theorem CG:OpR X (inplaceOp .Mult) (rI CMulB λi j=>.int (i*j)):=Fj λ_ _ _ _ _ _ _ hc q=>imul_int q hc.ok
theorem AV{k:Nat}(hr:Room k X.A):OpR X (inplaceOp .FloorDiv) (rI sS λi j=>.int (i.fdiv j)):=KW hr λ_ _ _ _ _ _ _ hp hc q=>ifloordiv_int hc.1 q (.inr hp)
end
inductive DV where
 | int (i:Int)|str (x:Str)|non|bl (b:Bool)|tup (xs:List DV)|lst (xs:List DV)
mutual
def Rep(K:Frag)(H:Hp):DV->V->Prop
 | .int i,v=>v = .int i
 | .str x,v=>v = .str x
 | .non,v=>v = .non
 | .bl b,v=>v = .bl b
 | .tup ds,v=>∃ a vs,v = .ref a/\SqT K H a vs/\Reps K H ds vs
 | .lst ds,v=>∃ a vs,v = .ref a/\SqL K H a vs/\Reps K H ds vs
def Reps(K:Frag)(H:Hp):List DV->List V->Prop
 | [],vs=>vs=[]
 | d::ds,vs=>∃ v r,vs=v::r/\Rep K H d v/\Reps K H ds r
end
mutual
def DV.pl:DV->Bool
 | .int _=>true | .str _=>true | .non=>true | .bl _=>false
 | .tup ds=>DV.pls ds
 | .lst ds=>DV.pls ds
def DV.pls:List DV->Bool
 | []=>true
 | d::ds=>DV.pl d && DV.pls ds
end
mutual
def DV.dp:DV->Nat
 | .tup ds=>DV.dps ds+1
 | .lst ds=>DV.dps ds+1
 | _=>0
def DV.dps:List DV->Nat
 | []=>0
 | d::ds=>max (DV.dp d) (DV.dps ds)
end
theorem SqT.same{K:Frag}{H H':Hp}{a:Addr}{xs:List V}(e:Same H H')(h:SqT K H a xs):SqT K H' a xs:=by
 rcases h with (h|⟨o,h⟩)|h
 ·exact .inl (.inl (e _ _ h))
 ·exact .inl (.inr ⟨o,e _ _ h⟩)
 ·exact .inr h
theorem Reps.length{K:Frag}{H:Hp}:∀{ds:List DV} {vs:List V},Reps K H ds vs->ds.length=vs.length
 | [],vs,h=>by
  have h':vs=[]:=by unfold Reps at h;exact h
  rw [h'];rfl
 | d::ds,vs,h=>by
  unfold Reps at h;obtain⟨v,r,e,_,h'⟩:=h;rw [e,a7,a7,Reps.length h']
mutual
theorem Rep.same{K:Frag}{H H':Hp}(e:Same H H'):∀{d:DV} {v:V},Rep K H d v->Rep K H' d v
 | .int i,v,h=>by unfold Rep at *;exact h
 | .str i,v,h=>by unfold Rep at *;exact h
 | .non,v,h=>by unfold Rep at *;exact h
 | .bl i,v,h=>by unfold Rep at *;exact h
 | .tup ds,v,h=>by
  unfold Rep at *;obtain⟨a,vs,h1,h2,h3⟩:=h;exact⟨a,vs,h1,h2.same e,Reps.same e h3⟩
 | .lst ds,v,h=>by
  unfold Rep at *;obtain⟨a,vs,h1,h2,h3⟩:=h;exact⟨a,vs,h1,e.seq h2,Reps.same e h3⟩
theorem Reps.same{K:Frag}{H H':Hp}(e:Same H H'):∀{ds:List DV} {vs:List V},Reps K H ds vs->Reps K H' ds vs
 | [],v,h=>by unfold Reps at *;exact h
 | d::ds,vs,h=>by
  unfold Reps at *;obtain⟨v,r,h1,h2,h3⟩:=h;exact⟨v,r,h1,Rep.same e h2,Reps.same e h3⟩
end
section
variable{X:Cx}{pins:List (Addr×Obj)}{σ:St}{H:Hp}{s:Shared}
mutual
theorem Rep.inj(I:Inv X pins σ H s):∀{d d':DV} {v:V},Rep X.K H d v->Rep X.K H d' v->d=d'
 | .int i,d',v,h,h'=>by
  unfold Rep at h;subst h;cases d' <;> unfold Rep at h' <;> first|(cases h';done)|(cases h';rfl)|(obtain⟨_,_,e,_⟩:=h';cases e)
 | .str i,d',v,h,h'=>by
  unfold Rep at h;subst h;cases d' <;> unfold Rep at h' <;> first|(cases h';done)|(cases h';rfl)|(obtain⟨_,_,e,_⟩:=h';cases e)
 | .non,d',v,h,h'=>by
  unfold Rep at h;subst h;cases d' <;> unfold Rep at h' <;> first|(cases h';done)|(cases h';rfl)|rfl|(obtain⟨_,_,e,_⟩:=h';cases e)
 | .bl i,d',v,h,h'=>by
  unfold Rep at h;subst h;cases d' <;> unfold Rep at h' <;> first|(cases h';done)|(cases h';rfl)|(obtain⟨_,_,e,_⟩:=h';cases e)
 | .tup ds,d',v,h,h'=>by
  unfold Rep at h;obtain⟨a,vs,rfl,h2,h3⟩:=h;cases d' with
  | tup ds' =>
   unfold Rep at h';obtain⟨a',vs',e,h2',h3'⟩:=h';cases e;have:=I.tuple_inj h2 h2';subst this;rw [Reps.inj I h3 h3']
  | lst ds' =>
   unfold Rep at h';obtain⟨a',vs',e,h2',h3'⟩:=h';cases e;obtain⟨_,_,p,_⟩:=I.tuple h2;obtain⟨_,_,p',_⟩:=I.list h2';exact absurd rfl (SeqAt.ne_of_list_tuple p'.isList p)
  | _=>unfold Rep at h';cases h'
 | .lst ds,d',v,h,h'=>by
  unfold Rep at h;obtain⟨a,vs,rfl,h2,h3⟩:=h;cases d' with
  | lst ds' =>
   unfold Rep at h';obtain⟨a',vs',e,h2',h3'⟩:=h';cases e;have:=I.list_inj h2 h2';subst this;rw [Reps.inj I h3 h3']
  | tup ds' =>
   unfold Rep at h';obtain⟨a',vs',e,h2',h3'⟩:=h';cases e;obtain⟨_,_,p,_⟩:=I.tuple h2';obtain⟨_,_,p',_⟩:=I.list h2;exact absurd rfl (SeqAt.ne_of_list_tuple p'.isList p)
  | _=>unfold Rep at h';cases h'
theorem Reps.inj(I:Inv X pins σ H s):∀{ds ds':List DV} {vs:List V},Reps X.K H ds vs->Reps X.K H ds' vs->ds=ds'
 | [],ds',vs,h,h'=>by
  unfold Reps at h;subst h;cases ds' with
  | nil=>rfl
  | cons d r=>unfold Reps at h';obtain⟨_,_,e,_⟩:=h';cases e
 | d::ds,ds',vs,h,h'=>by
  unfold Reps at h;obtain⟨v,r,e,h1,h2⟩:=h;cases ds' with
  | nil=>unfold Reps at h';rw [h'] at e;cases e
  | cons d' r' =>
   unfold Reps at h';obtain⟨v',r2,e',h1',h2'⟩:=h';rw [e] at e';cases e';rw [Rep.inj I h1 h1',Reps.inj I h2 h2']
end
end
theorem all_cons{e:Nat->Bool}{n:Nat}:(List.range (n+1)).all e=(e 0 && (List.range n).all λj=>e (j+1)):=by
 rw [List.range_succ_eq_map,eO,fY];rfl
theorem wI{e:Nat->Bool}{n m:Nat}(h:n=m):((List.range (min n m)).all e && n == m)=(List.range n).all e:=by
 subst h;rw [Nat.min_self];simp
section
variable{X:Cx}{pins:List (Addr×Obj)}{σ:St}{H:Hp}{s:Shared}
mutual
theorem K1(I:Inv X pins σ H s):∀(d d':DV) (A:Around) {x y:V} {u v:Value},Rep X.K H d x->Rep X.K H d' y->RelV x u->RelV y v->d.pl=true->d'.pl=true->A.units+d.dp+1<cLine ->
  ∃ b,SeqAt.EqAt A s u v b/\(b=true↔d=d')
 | .bl _,_,_,_,_,_,_,_,_,_,_,p,_,_=>by unfold DV.pl at p;cases p
 | _,.bl _,_,_,_,_,_,_,_,_,_,_,p,_=>by unfold DV.pl at p;cases p
 | .int i,d',A,x,y,u,v,h,h',rx,ry,_,_,hu=>by
  have hu:A.units<cLine:=by omega
  unfold Rep at h;subst h;obtain⟨t,rfl⟩:=rx;cases d' with
  | bl b=>contradiction
  | int j =>
   unfold Rep at h';subst h';obtain⟨t',rfl⟩:=ry;exact⟨_,SeqAt.EqAt.int_int _ _ _ _,by rw [beq_iff_eq];exact⟨λe=>by rw [e],λe=>by cases e;rfl⟩⟩
  | str z =>
   unfold Rep at h';subst h';obtain⟨t',rfl⟩:=ry;exact⟨_,SeqAt.EqAt.int_str _ _ _ _,by simp⟩
  | non =>
   unfold Rep at h';subst h';cases ry;exact⟨_,SeqAt.EqAt.int_none _ _,by simp⟩
  | tup ds' =>
   unfold Rep at h';obtain⟨a,vs,rfl,h2,_⟩:=h';cases ry;obtain⟨_,_,p,_⟩:=I.tuple h2;exact⟨_,SeqAt.EqAt.int_tuple _ _ p hu,by simp⟩
  | lst ds' =>
   unfold Rep at h';obtain⟨a,vs,rfl,h2,_⟩:=h';cases ry;obtain⟨_,_,p,_⟩:=I.list h2;exact⟨_,SeqAt.EqAt.int_list _ _ p.isList hu,by simp⟩
 | .str i,d',A,x,y,u,v,h,h',rx,ry,_,_,hu=>by
  have hu:A.units<cLine:=by omega
  unfold Rep at h;subst h;obtain⟨t,rfl⟩:=rx;cases d' with
  | bl b=>contradiction
  | int j =>
   unfold Rep at h';subst h';obtain⟨t',rfl⟩:=ry;exact⟨_,SeqAt.EqAt.str_int _ _ _ _,by simp⟩
  | str z =>
   unfold Rep at h';subst h';obtain⟨t',rfl⟩:=ry;exact⟨_,SeqAt.EqAt.str_str _ _ _ _,by rw [beq_iff_eq];exact⟨λe=>by rw [e],λe=>by cases e;rfl⟩⟩
  | non =>
   unfold Rep at h';subst h';cases ry;exact⟨_,SeqAt.EqAt.str_none _ _,by simp⟩
  | tup ds' =>
   unfold Rep at h';obtain⟨a,vs,rfl,h2,_⟩:=h';cases ry;obtain⟨_,_,p,_⟩:=I.tuple h2;exact⟨_,SeqAt.EqAt.str_tuple _ _ p hu,by simp⟩
  | lst ds' =>
   unfold Rep at h';obtain⟨a,vs,rfl,h2,_⟩:=h';cases ry;obtain⟨_,_,p,_⟩:=I.list h2;exact⟨_,SeqAt.EqAt.str_list _ _ p.isList hu,by simp⟩
 | .non,d',A,x,y,u,v,h,h',rx,ry,_,_,hu=>by
  have hu:A.units<cLine:=by omega
  unfold Rep at h;subst h;cases rx;cases d' with
  | bl b=>contradiction
  | int j =>
   unfold Rep at h';subst h';obtain⟨t',rfl⟩:=ry;exact⟨_,SeqAt.EqAt.none_int _ _,by simp⟩
  | str z =>
   unfold Rep at h';subst h';obtain⟨t',rfl⟩:=ry;exact⟨_,SeqAt.EqAt.none_str _ _,by simp⟩
  | non =>
   unfold Rep at h';subst h';cases ry;exact⟨_,SeqAt.EqAt.same _,by simp⟩
  | tup ds' =>
   unfold Rep at h';obtain⟨a,vs,rfl,h2,_⟩:=h';cases ry;obtain⟨_,_,p,_⟩:=I.tuple h2;exact⟨_,SeqAt.EqAt.none_tuple p hu,by simp⟩
  | lst ds' =>
   unfold Rep at h';obtain⟨a,vs,rfl,h2,_⟩:=h';cases ry;obtain⟨_,_,p,_⟩:=I.list h2;exact⟨_,SeqAt.EqAt.none_list p.isList hu,by simp⟩
 | .tup ds,d',A,x,y,u,v,h,h',rx,ry,pp,pp',hu=>by
  have hu0:A.units<cLine:=by omega
  have hd:=h;unfold Rep at h;obtain⟨a,vs,rfl,h2,h3⟩:=h;cases rx;obtain⟨its,rv,p,_⟩:=I.tuple h2;cases d' with
  | bl b=>contradiction
  | int j =>
   unfold Rep at h';subst h';obtain⟨t',rfl⟩:=ry;exact⟨_,SeqAt.EqAt.tuple_int _ _ p hu0,by simp⟩
  | str z =>
   unfold Rep at h';subst h';obtain⟨t',rfl⟩:=ry;exact⟨_,SeqAt.EqAt.tuple_str _ _ p hu0,by simp⟩
  | non =>
   unfold Rep at h';subst h';cases ry;exact⟨_,SeqAt.EqAt.tuple_none p hu0,by simp⟩
  | lst ds' =>
   unfold Rep at h';obtain⟨a',vs',rfl,h2',_⟩:=h';cases ry;obtain⟨_,_,p',_⟩:=I.list h2';exact⟨_,SeqAt.EqAt.tuple_list p p'.isList hu0,by simp⟩
  | tup ds' =>
   have hd':=h';unfold Rep at h';obtain⟨a',vs',rfl,h2',h3'⟩:=h';cases ry;obtain⟨its',rv',p',_⟩:=I.tuple h2';by_cases e:a=a'
   ·subst e;exact⟨true,SeqAt.EqAt.same _,by simp [Rep.inj I hd hd']⟩
   ·unfold DV.pl at pp pp';unfold DV.dp at hu;obtain⟨f,hf,hi⟩:=yJ I ds ds' A.in1 h3 h3' rv rv' pp pp' (by show A.units+1+_+1<_;omega);refine⟨_,SeqAt.EqAt.of_refs e (SeqAt.RcAt.tuples p p' hu0 (e:=f) λj h1 h2=>?_),?_⟩
    ·have q:=hf j (by simpa using h1) (by simpa using h2);simpa using q
    ·simp only [ak,DV.tup.injEq];exact hi
 | .lst ds,d',A,x,y,u,v,h,h',rx,ry,pp,pp',hu=>by
  have hu0:A.units<cLine:=by omega
  have hd:=h;unfold Rep at h;obtain⟨a,vs,rfl,h2,h3⟩:=h;cases rx;obtain⟨its,rv,p,_⟩:=I.list h2;cases d' with
  | bl b=>contradiction
  | int j =>
   unfold Rep at h';subst h';obtain⟨t',rfl⟩:=ry;exact⟨_,SeqAt.EqAt.list_int _ _ p.isList hu0,by simp⟩
  | str z =>
   unfold Rep at h';subst h';obtain⟨t',rfl⟩:=ry;exact⟨_,SeqAt.EqAt.list_str _ _ p.isList hu0,by simp⟩
  | non =>
   unfold Rep at h';subst h';cases ry;exact⟨_,SeqAt.EqAt.list_none p.isList hu0,by simp⟩
  | tup ds' =>
   unfold Rep at h';obtain⟨a',vs',rfl,h2',_⟩:=h';cases ry;obtain⟨_,_,p',_⟩:=I.tuple h2';exact⟨_,SeqAt.EqAt.list_tuple p.isList p' hu0,by simp⟩
  | lst ds' =>
   have hd':=h';unfold Rep at h';obtain⟨a',vs',rfl,h2',h3'⟩:=h';cases ry;obtain⟨its',rv',p',_⟩:=I.list h2';by_cases e:a=a'
   ·subst e;exact⟨true,SeqAt.EqAt.same _,by simp [Rep.inj I hd hd']⟩
   ·unfold DV.pl at pp pp';unfold DV.dp at hu;obtain⟨f,hf,hi⟩:=yJ I ds ds' A.in1 h3 h3' rv rv' pp pp' (by show A.units+1+_+1<_;omega);by_cases hz:its.length=its'.length
    ·refine⟨_,SeqAt.EqAt.of_refs e (SeqAt.RcAt.lists p.isList p'.isList (by simpa using hz) hu0 (e:=f) λj h1 h2=>?_),?_⟩
     ·have q:=hf j (by simpa using h1) (by simpa using h2);simpa using q
     ·simp only [ak,DV.lst.injEq];rw [wI hz] at hi;exact hi
    ·refine⟨_,SeqAt.EqAt.of_refs e (SeqAt.RcAt.lists_lengths p.isList p'.isList (by simpa using hz) hu0),?_⟩;simp only [cQ,false_iff,DV.lst.injEq];intro z;have l1:=h3.length;have l2:=h3'.length;rw [z] at l1;exact hz (by rw [← rv.length,← rv'.length,← l1,← l2])
theorem yJ(I:Inv X pins σ H s):∀(ds ds':List DV) (A:Around) {xs ys:List V} {us vs:List Value},Reps X.K H ds xs->Reps X.K H ds' ys->Vals xs us->Vals ys vs->DV.pls ds=true->DV.pls ds'=true->A.units+DV.dps ds+1<cLine ->
  ∃ e:Nat->Bool,(∀ j (h1:j<us.length) (h2:j<vs.length),SeqAt.EqAt A s us[j] vs[j] (e j))/\((((List.range (min us.length vs.length)).all e && us.length == vs.length)=true)↔ds=ds')
 | [],ds',A,xs,ys,us,vs,h,h',rx,ry,_,_,_=>by
  unfold Reps at h;subst h;cases rx;refine⟨λ_=>true,λj h1 _=>absurd h1 (by simp),?_⟩;cases ds' with
  | nil=>unfold Reps at h';subst h';cases ry;simp
  | cons d r=>unfold Reps at h';obtain⟨_,_,rfl,_⟩:=h';cases ry;simp
 | d::ds,ds',A,xs,ys,us,vs,h,h',rx,ry,pp,pp',hu=>by
  unfold Reps at h;obtain⟨x,r,rfl,h1,h2⟩:=h;cases rx with
  | cons rx rxs =>
   cases ds' with
   | nil =>
    unfold Reps at h';subst h';cases ry;exact⟨λ_=>true,λj _ h2=>absurd h2 (by simp),by simp⟩
   | cons d' ds' =>
    unfold Reps at h';obtain⟨y,r',rfl,h1',h2'⟩:=h';cases ry with
    | cons ry rys =>
     unfold DV.pls at pp pp';rw [bw] at pp pp';unfold DV.dps at hu;obtain⟨b,hb,ib⟩:=K1 I d d' A h1 h1' rx ry pp.1 pp'.1 (by omega);obtain⟨e,he,ie⟩:=yJ I ds ds' A h2 h2' rxs rys pp.2 pp'.2 (by omega);refine⟨λj=>match j with|0=>b|j+1=>e j,λj=>?_,?_⟩
     ·cases j with
      | zero=>exact λ_ _=>hb
      | succ j=>exact λq1 q2=>he j (by simpa using q1) (by simpa using q2)
     ·rw [a7,a7,Nat.succ_min_succ];have q:∀ n,(List.range (n+1)).all (λj=>match j with|0=>b|j+1=>e j)=(b && (List.range n).all e):=λn=>all_cons;rw [q];have q2:∀ n m:Nat,(n+1 == m+1)=(n == m):=λn m=>by
       rw [bY];simp
      rw [q2,Bool.and_assoc,bw,ib,ie,List.cons.injEq]
end
def Iy(K:Frag)(A:Around)(neg:Bool):R2:=λx y H Q=>∃ ds ds',Rep K H (.tup ds) x/\Rep K H (.tup ds') y/\DV.pls ds=true/\DV.pls ds'=true/\A.units+DV.dps ds+2<cLine /\
 ∀ b,(b=true↔ds=ds')->Q (.bl (if neg then !b else b)) H
theorem GH:OpR X (compareOp .Eq) (Iy X.K X.A false):=by
 intro pins s σ H x y u v Q I rx ry h;obtain⟨ds,ds',h1,h2,p1,p2,hu,q⟩:=h;unfold Rep at h1 h2;obtain⟨a,vs,rfl,t1,r1⟩:=h1;obtain⟨a',vs',rfl,t2,r2⟩:=h2;cases rx;cases ry;obtain⟨its,rv,p,_⟩:=I.tuple t1;obtain⟨its',rv',p',_⟩:=I.tuple t2;obtain⟨f,hf,hi⟩:=yJ I ds ds' X.A.in1 r1 r2 rv rv' p1 p2 (by show X.A.units+1+_+1<_;omega);refine SeqAt.RcAt.tuples p p' (by omega) (e:=f) (λj h1 h2=>?_) _ _ _ _ ⟨.bl _,H,I,rfl,q _ ?_⟩
 ·have q:=hf j (by simpa using h1) (by simpa using h2);simpa using q
 ·simp only [ak];exact hi
theorem GD:OpR X (compareOp .NotEq) (Iy X.K X.A true):=by
 intro pins s σ H x y u v Q I rx ry h;obtain⟨ds,ds',h1,h2,p1,p2,hu,q⟩:=h;unfold Rep at h1 h2;obtain⟨a,vs,rfl,t1,r1⟩:=h1;obtain⟨a',vs',rfl,t2,r2⟩:=h2;cases rx;cases ry;obtain⟨its,rv,p,_⟩:=I.tuple t1;obtain⟨its',rv',p',_⟩:=I.tuple t2;obtain⟨f,hf,hi⟩:=yJ I ds ds' X.A.in1 r1 r2 rv rv' p1 p2 (by show X.A.units+1+_+1<_;omega);refine SeqAt.RcNeAt.tuples p p' (by omega) (e:=f) (λj h1 h2=>?_) _ _ _ _ ⟨.bl _,H,I,rfl,q _ ?_⟩
 ·have q:=hf j (by simpa using h1) (by simpa using h2);simpa using q
 ·simp only [ak];exact hi
theorem Ax(bs:List Bool):(List.range bs.length).all (λj=>bs.getD j false)=bs.all id:=by
 induction bs with
 | nil=>rfl
 | cons b r ih =>
  rw [a7,all_cons,eO];exact congrArg (b && ·) ih
theorem Dj(hc:X.calm=true):CallR X (.builtin "all") (λxs H Q=>∃ p,∃ bs:List Bool,xs=[.ref p]/\SqL X.K H p (bs.map V.bl)/\Q (.bl (bs.all id)) H):=by
 intro pins s σ H xs us Q I rv h;obtain⟨p,bs,rfl,hp,q⟩:=h;obtain⟨u,rfl,ru⟩:=rv.one;cases ru;obtain⟨its,rv',pl,_⟩:=I.list hp;refine call_all_walk (wpAny_pyIter_list pl.isList ?_);have e:∀ b o,s.heap.get? b=some o->(s.heap.push { cls:=.type "list_iterator",data:=.fields #[.ref p,.int 0 0] }).get? b=some o:=λb o e=>ηH _ e;have hne:p≠s.heap.objs.size:=by
  obtain⟨o,ho,_⟩:=pl.isList;exact aQ (ηL ho)
 have lb:bs.length=its.length:=by rw [← rv'.length,aa]
 refine⟨_,_,_,_,_,_,λj=>bs.getD j false,rfl,Walks.list (A:=X.A.in1) (I.ok.hd hc) _ p hne its.toArray,⟨⟨_,ηG _ rfl,rfl,rfl⟩,pl.isList.at λo ho=>e _ o ho⟩,?_,λh' tk hk=>?_⟩
 ·intro i v s Q E hv hq;have hv':its[i]? = some v:=by simpa using hv
  have hi:i<bs.length:=by
   rw [lb];exact (aj.mp hv').1
  obtain⟨u,hu,ru⟩:=rv'.get (i:=i) (x:=.bl bs[i]) (by simp [hi]);rw [hv'] at hu;cases hu;cases ru;have:bs.getD i false=bs[i]:=by simp [List.getD,hi]
  have hq:Q (bs.getD i false) s:=hq;rw [this] at hq;exact wpAny_truthy_bool hq
 ·refine⟨.bl (bs.all id),H,I.kept (t':=tk) λb o ho=>hk b o ?_ (e b o ho),?_,q⟩
  ·simp only [aW];exact aQ (ηL ho)
  ·show Value.bool _=_;rw [← Ax,lb];simp
end
end L2
namespace L2
open PySem PySem.Spec PyProof.Rows
structure Def (P:Program)(w:World)(K:Frag)(mg:Str->Option Value)(base:Heap)(x:Str)(k:Nat)(ps:List Str)(sp:Sp):Prop where
 ex:∃ f fd,FnOk P w K mg base x9 k f fd ps sp/\mg x=some (.ref f)/\PySem.W.keepIn K (.ref f)=true/\Binds K fd ps []
theorem Def.of{P:Program}{w:World}{K:Frag}{mg:Str->Option Value}{base:Heap}{x q:Str}{k:Nat}{ps:List Str}{sp:Sp}{st:Stmt}{f:Addr}{fd:FuncData}(F:Fun K x q st f fd)(m:mg x=some (.ref f))(b:Binds K fd ps [])
  (ok:FnOk P w K mg base x9 k f fd ps sp):Def P w K mg base x k ps sp:=⟨f,fd,ok,m,F.kp,b⟩
theorem yt{X:Cx}{e:Expr}{es:List Expr}{t:TA}{x:Str}{p pos:Pos}{j k:Nat}{ps:List Str}{sp:Sp}(g:Def X.prog X.w X.K X.mg X.base x j ps sp)(hr:Room k X.A)(ha:PA X (e::es) t)(hjk:j<=k:=by first|decide|omega|exact af _)(hg:Gl X x:=by rfl)
  (hdb:(x == ("__debug__" : Str))=false:=by decide) (he:starEach (e::es) X.env=(false,eval e X.env)::starEach es X.env:=by rfl) (hpl:(backTo pos (starEach es X.env)).any (·.1)=false:=by rfl) :
  PE X (.Call (.Name x p) (e::es) [] pos) (zm sp [] E0 t):=by
 obtain⟨f,fd,F,m,kp,b⟩:=g.ex;exact D7 F (hr.mono hjk) hg m kp b .nil IG ha hdb he hpl
structure Bl (mg:Str->Option Value):Prop where
 len:mg "len" = none
 range:mg "range" = none
 all:mg "all" = none
 any:mg "any" = none
 abs:mg "abs" = none
 int:mg "int" = none
 bool:mg "bool" = none
 str:mg "str" = none
 list:mg "list" = none
 tuple:mg "tuple" = none
 dict:mg "dict" = none
 isinstance:mg "isinstance" = none
 enumerate:mg "enumerate" = none
 reversed:mg "reversed" = none
 sorted:mg "sorted" = none
 max:mg "max" = none
 min:mg "min" = none
 sum:mg "sum" = none
 zip:mg "zip" = none
structure Sm (f:Addr)(H H':Hp):Prop where
 app:∀ b o,b≠f->H b=some o->H' b=some o
 key:∀ l r,H f=some (.lst (.ref l::r))->∃ r',H' f=some (.lst (.ref l::r'))
instance {f:Addr}{H H':Hp}:CoeFun (Sm f H H') (λ_=>∀ b o,b≠f->H b=some o->H' b=some o):=⟨Sm.app⟩
theorem Sm.refl{f:Addr}(H:Hp):Sm f H H:=⟨λ_ _ _ h=>h,λl r h=>⟨r,h⟩⟩
theorem Sm.trans{f:Addr}{H H1 H2:Hp}(a:Sm f H H1)(b:Sm f H1 H2):Sm f H H2:=⟨λc o n h=>b.app c o n (a.app c o n h),λl r h=>by
 obtain⟨r1,h1⟩:=a.key l r h;exact b.key l r1 h1⟩
theorem Same.sm{f:Addr}{H H':Hp}(h:Same H H'):Sm f H H':=⟨λb o _ e=>h b o e,λl r e=>⟨r,h _ _ e⟩⟩
theorem Sm.new{f p:Addr}{H:Hp}(h:H p=none)(o:HO):Sm f H (rD H p o):=⟨λb u _ q=>by rw [qM (qV q h)];exact q,λl r q=>⟨r,by rw [qM (qV q h)];exact q⟩⟩
theorem Same.new{p:Addr}{H:Hp}(h:H p=none)(o:HO):Same H (rD H p o):=λb u q=>by rw [qM (qV q h)];exact q
theorem Sm.free{f:Addr}{H H':Hp}(e:Sm f H H'){l:Addr}(hl:l≠f)(h:H' l=none):H l=none:=by
 cases q:H l with
 | none=>rfl
 | some o =>
  rw [e.app l o hl q] at h;cases h
def Ld(Pv:Nat->St->List V->Hp->Prop)(n i:Nat)(τ:St)(ys:List V)(v:V)(H:Hp):Prop :=
 ∃ m',m'<n-i/\m'=n-(i+1)/\i+1<=n/\(ys++[v]).length=i+1/\Pv (i+1) τ (ys++[v]) H
theorem LJ{Pv:Nat->St->List V->Hp->Prop}{n i:Nat}{τ:St}{ys:List V}{v:V}{H:Hp}(hi:i<n)(hl:ys.length=i)(p:Pv (i+1) τ (ys++[v]) H):Ld Pv n i τ ys v H :=
 ⟨n-(i+1),by omega,rfl,hi,by rw [aq,eA,hl],p⟩
theorem yT{lo:Int}{n:Nat}{g:TG}{te:TE}{Q:VK}{σ:St}{H:Hp}(hn:n<=sizeLine)(Pv:Nat->St->List V->Hp->Prop)(h0:Pv 0 σ [] H)
  (hs:∀ i τ ys H,i<n->ys.length=i->Pv i τ ys H->g (.int (lo+i)) τ H λτ2 H2=>te τ2 H2 λv H3=>Ld Pv n i τ2 ys v H3)
  (hd:∀ τ ys H D,ys.length=n->Pv n τ ys H->H D=none->Q (.ref D) (rD H D (.lst ys))) :
  DB (HR lo n) g H9 te σ Q H:=by
 refine⟨λi m τ ys H=>m=n-i/\i<=n/\ys.length=i/\Pv i τ ys H,⟨n,by simp,aB _,rfl,h0⟩,?_⟩;rintro i m τ ys H ⟨rfl,hi,hl,p⟩;by_cases hlt:i<n
 ·refine .inr ⟨hlt,by omega,λx H' y=>?_⟩;obtain⟨e,y⟩:=y;subst e y;exact hs i τ ys _ hlt hl p
 ·have e:i=n:=by omega
  subst e;exact .inl ⟨af _,λD hD=>hd τ ys H D hl p hD⟩
end L2
namespace L2
open PySem
theorem uD:bootBuiltins "len" = some (.builtin "len"):=by decide +kernel
theorem Hw:bootBuiltins "abs" = some (.builtin "abs"):=by decide +kernel
theorem Dq:bootBuiltins "all" = some (.builtin "all"):=by decide +kernel
theorem re:bootBuiltins "isinstance" = some (.builtin "isinstance"):=by decide +kernel
theorem Hu:bootBuiltins "int" = some (.type "int"):=by decide +kernel
theorem Ak:bootBuiltins "bool" = some (.type "bool"):=by decide +kernel
theorem tK:bootBuiltins "list" = some (.type "list"):=by decide +kernel
theorem uk:bootBuiltins "tuple" = some (.type "tuple"):=by decide +kernel
end L2
namespace L2
open PySem PySem.Spec PyProof.Rows
def J5(t u:TS):TS:=λD σ H=>∃ R:St->Hp->Prop,t { D with nx:=R } σ H/\∀ σ H,R σ H->u D σ H
theorem t8{X:Cx}{st:Stmt}{more:List Stmt}{t u:TS}(h1:PS X st t)(h2:PSs X more u):PSs X (st::more) (J5 t u):=by
 intro pins s σ H D I h;obtain⟨R,a,b⟩:=h;refine wpAny_execs_cons (q8 (h1 pins s σ H { D with nx:=R } I a) λf s1 q=>?_);cases f with
 | next =>
  obtain⟨σ1,H1,I1,r1⟩:=q;exact h2 pins s1 σ1 H1 D I1 (b σ1 H1 r1)
 | brk=>exact q
 | cont=>exact q
 | ret v=>exact q
end L2
namespace L2
open PySem PySem.Spec PyProof.Rows
section
variable{X:Cx}
theorem x8(K:Frag)(hK:X.K=K:=by rfl):IxR X (Gj K):=hK ▸ ix_list
theorem AQ(K:Frag)(hK:X.K=K:=by rfl):CallR X (.builtin "len") (λxs H Q=>∃ p ys,xs=[.ref p]/\(SqL K H p ys\/SqT K H p ys)/\Q (.int ys.length) H):=hK ▸ xc
theorem Jw(K:Frag)(hc:X.calm=true:=by rfl)(hK:X.K=K:=by rfl):CallR X (.builtin "all") (λxs H Q=>∃ p,∃ bs:List Bool,xs=[.ref p]/\SqL K H p (bs.map V.bl)/\Q (.bl (bs.all id)) H):=hK ▸ Dj hc
theorem yD(K:Frag)(hK:X.K=K:=by rfl):CallR X (.type "list") (λxs H Q=>∃ p ys,xs=[.ref p]/\(SqL K H p ys\/SqT K H p ys)/\∀ l,H l=none->Q (.ref l) (rD H l (.lst ys))):=hK ▸ xa
theorem DI(K:Frag)(hK:X.K=K:=by rfl):CallR X (.type "tuple") (λxs H Q=>∃ p ys,xs=[.ref p]/\((SqL K H p ys/\∀ l,H l=none->Q (.ref l) (rD H l (.tup ys)))\/(SqT K H p ys/\Q (.ref p) H))):=hK ▸ vI
theorem LC(K:Frag){a:Expr}{ta:TE}(ha:PE X a ta)(he:∀ whole,isTrue a X.env whole=(do let v ← whole;standAt a.pos;holding [v] (truthy v)))(hK:X.K=K:=by rfl) :
  PT X a (λσ H Q=>ta σ H λx H'=>∃ k,HD K x H' k/\Q k H'):=hK ▸ xt ha he
def Iz(K:Frag)(neg:Bool):R2:=λx y H Q=>∃ ds ds',Rep K H (.tup ds) x/\Rep K H (.tup ds') y/\DV.pls ds=true/\DV.pls ds'=true/\DV.dps ds<=60/\∀ b,(b=true↔ds=ds')->Q (.bl (if neg then !b else b)) H
theorem LR(K:Frag){k:Nat}(hr:Room k X.A)(hK:X.K=K:=by rfl):OpR X (compareOp .Eq) (Iz K false):=by
 subst hK;intro pins s σ H x y u v Q I rx ry h;obtain⟨ds,ds',h1,h2,p1,p2,hu,q⟩:=h;exact GH pins s σ H x y u v Q I rx ry ⟨ds,ds',h1,h2,p1,p2,by have:=hr.units;omega,q⟩
theorem LK(K:Frag){k:Nat}(hr:Room k X.A)(hK:X.K=K:=by rfl):OpR X (compareOp .NotEq) (Iz K true):=by
 subst hK;intro pins s σ H x y u v Q I rx ry h;obtain⟨ds,ds',h1,h2,p1,p2,hu,q⟩:=h;exact GD pins s σ H x y u v Q I rx ry ⟨ds,ds',h1,h2,p1,p2,by have:=hr.units;omega,q⟩
end
end L2
namespace Fr
open L2
def cp(t b:Int):Int:=((Int.gcd t b:Nat):Int)
def tM(t b:Int):Int:=if b<0 then -cp t b else cp t b
def top(t b:Int):Int:=t.fdiv (tM t b)
def bot(t b:Int):Int:=b.fdiv (tM t b)
theorem CM(a b:Int):Int.gcd b (a.fmod b)=Int.gcd a b:=by
 rw [gk,Int.gcd_sub_mul_left_right,Int.gcd_comm]
theorem zY(a b:Int)(h:b≠0):(a.fmod b).natAbs<b.natAbs:=by
 rcases eU h with hb|hb
 ·have h1:=gL (-a) (b:=-b) (by omega);have h2:=gh (-a) (b:=-b) (by omega);have e:(-a).fmod (-b) = -(a.fmod b):=by
   rw [gk,gk,Int.neg_fdiv_neg,Int.neg_mul];omega
  omega
 ·have h1:=gL a hb;have h2:=gh a hb;omega
theorem tz{t b:Int}(h:b≠0):0<cp t b:=by
 unfold cp;have:0<Int.gcd t b:=eQ (by rw [Ne,gG];exact λz=>h z.2);omega
theorem Jn{t b:Int}(h:b≠0):(cp t b).natAbs<=b.natAbs:=by
 unfold cp;rw [a8];exact ce (by omega) (gN _ _)
theorem zw{t b:Int}(h:b≠0):tM t b≠0:=by
 have:=tz (t:=t) h;unfold tM;split <;> omega
theorem zy{t b:Int}(h:b≠0):(tM t b).natAbs<=b.natAbs:=by
 have:=Jn (t:=t) h;unfold tM;split
 ·rw [Int.natAbs_neg];exact this
 ·exact this
theorem of{p t' b':Int}(hp:p≠0)(hb:0<b')(hc:Int.gcd t' b'=1):top (p*t') (p*b')=t'/\bot (p*t') (p*b')=b':=by
 have e:tM (p*t') (p*b')=p:=by
  unfold tM cp;rw [Int.gcd_mul_left,hc,dH];rcases eU hp with h|h
  ·rw [if_pos (Int.mul_neg_of_neg_of_pos h hb)];omega
  ·rw [if_neg (Int.not_lt.mpr (Int.le_of_lt (az h hb)))];omega
 unfold top bot;rw [e];exact⟨cq _ hp,cq _ hp⟩
theorem ex{t b:Int}(h:b≠0):∃ p t' b',p≠0/\0<b'/\Int.gcd t' b'=1/\t=p*t'/\b=p*b':=by
 have g0:0<Int.gcd t b:=eQ (by rw [Ne,gG];exact λz=>h z.2);obtain⟨t1,e1⟩:=Int.gcd_dvd_left t b;obtain⟨b1,e2⟩:=gO t b;have hc:Int.gcd t1 b1=1:=by
  have q:Int.gcd ((Int.gcd t b:Int)*t1) ((Int.gcd t b:Int)*b1)=Int.gcd t b:=by rw [← e1,← e2]
  rw [Int.gcd_mul_left,a8] at q;exact fL g0 (by omega)
 have g1:(0:Int)<(Int.gcd t b:Int):=by omega
 by_cases hb:b<0
 ·refine⟨-(Int.gcd t b:Int),-t1,-b1,by omega,?_,by rw [Int.gcd_neg,Int.neg_gcd];exact hc,by rw [Int.neg_mul_neg];exact e1,by rw [Int.neg_mul_neg];exact e2⟩;rcases dM b1 0 with z|z|z
  ·omega
  ·rw [z,bJ] at e2;omega
  ·have:=az g1 z;omega
 ·refine⟨(Int.gcd t b:Int),t1,b1,by omega,?_,hc,e1,e2⟩;rcases dM b1 0 with z|z|z
  ·have:=dE g1 z;omega
  ·rw [z,bJ] at e2;omega
  ·exact z
theorem E1{t b q:Int}(h:b≠0)(hq:q≠0):top (t*q) (b*q)=top t b/\bot (t*q) (b*q)=bot t b:=by
 obtain⟨p,t',b',hp,hb,hc,rfl,rfl⟩:=ex (t:=t) h;have e:=of hp hb hc;rw [e.1,e.2];have m1:p*t'*q=(p*q)*t':=by rw [bI,bh t' q,bI]
 have m2:p*b'*q=(p*q)*b':=by rw [bI,bh b' q,bI]
 rw [m1,m2];exact of (br hp hq) hb hc
theorem low{t b:Int}(h:b≠0):0<bot t b/\top t b*b=t*bot t b/\Int.gcd (top t b) (bot t b)=1:=by
 obtain⟨p,t',b',hp,hb,hc,rfl,rfl⟩:=ex (t:=t) h;have e:=of hp hb hc;rw [e.1,e.2];refine⟨hb,?_,hc⟩;rw [Int.mul_left_comm,bI]
theorem Bp{t b:Int}(h:b≠0):(top t b).natAbs<=t.natAbs/\(bot t b).natAbs<=b.natAbs:=by
 obtain⟨p,t',b',hp,hb,hc,rfl,rfl⟩:=ex (t:=t) h;have e:=of hp hb hc;rw [e.1,e.2,aO,aO];have:0<p.natAbs:=by omega
 exact⟨bo _ this,bo _ this⟩
theorem self{t b:Int}(hb:0<b)(hc:Int.gcd t b=1):top t b=t/\bot t b=b:=by
 have:=of (p:=1) (t':=t) (b':=b) (by decide) hb hc;rw [bV,bV] at this;exact this
theorem uniq{t b c d:Int}(hb:b≠0)(hd:0<d)(hc:Int.gcd c d=1)(h:t*d=c*b):top t b=c/\bot t b=d:=by
 have e1:=E1 (t:=t) (b:=b) (q:=d) hb (by omega);have e2:=E1 (t:=c) (b:=d) (q:=b) (by omega) hb;have e3:=self hd hc;rw [h,bh b d,e2.1,e2.2,e3.1,e3.2] at e1;exact⟨e1.1.symm,e1.2.symm⟩
end Fr
namespace L2
open PySem PySem.Spec PyProof.Rows
def HP(K:Frag)(H:Hp)(x:V)(t:Value):Prop:=TyOf K H x t\/(∃ a xs,x = .ref a/\SqT K H a xs/\t = .type "tuple")\/(∃ a xs,x = .ref a/\SqL K H a xs/\t = .type "list")
section
variable{X:Cx}{pins:List (Addr×Obj)}{σ:St}{H:Hp}{s:Shared}{A:Around}{E:Value->Shared->Prop}{Q:Value->Shared->Prop}
theorem Hb{x:V}{u t c:Value}{b:Bool}(I:Inv X pins σ H s)(rx:RelV x u)(ty:HP X.K H x t)(e:PySem.W.kitOne X.K t c=some b)(h:∀ tk,Q (.bool b) { s with toks:=tk }) :
  wpAny (model X.prog X.w) A (call (.builtin "isinstance") [u,c]) Q E s:=by
 rcases ty with ty|⟨a,xs,rfl,hq,rfl⟩|⟨a,xs,rfl,hq,rfl⟩
 ·exact AU I rx ty e h
 ·cases rx;obtain⟨its,rv,p,_⟩:=I.tuple hq;obtain⟨o,ho,hc,_⟩:=p;exact PySem.W.kia_one PySem.W.kitx_tuple I.kIn ⟨o,ho,hc⟩ e (λz=>nomatch z) h
 ·cases rx;obtain⟨its,rv,p,_⟩:=I.list hq;obtain⟨o,ho,hc,_⟩:=p.isList;exact PySem.W.kia_one PySem.W.kitx_list I.kIn ⟨o,ho,hc⟩ e (λz=>nomatch z) h
theorem EA{x:V}{u t:Value}{b:Bool}{tp:Addr}{dd:Option Addr}{its:List Value}{n:Nat}{sl:Array (Option Value)}(I:Inv X pins σ H s)(rx:RelV x u)(ty:HP X.K H x t)(hs:∀ C,t ≠ .ref C)
  (htp:s.heap.get? tp=some ⟨.type "tuple",dd,.seq its.toArray n,sl⟩) (e:PySem.W.kitAny X.K t its=some b) (h:∀ tk,Q (.bool b) { s with toks:=tk }) :
  wpAny (model X.prog X.w) A (call (.builtin "isinstance") [u,.ref tp]) Q E s:=by
 rcases ty with ty|⟨a,xs,rfl,hq,rfl⟩|⟨a,xs,rfl,hq,rfl⟩
 ·cases ty with
  | non=>cases (show u=Value.none from rx);exact PySem.W.kia_tup PySem.W.kitx_none I.kIn True.intro htp e (λz=>nomatch z) h
  | bl y=>cases (show u=Value.bool y from rx);exact PySem.W.kia_tup PySem.W.kitx_bool I.kIn True.intro htp e (λz=>nomatch z) h
  | int i=>obtain⟨t,q⟩:=(show ∃ t,u=Value.int i t from rx);cases q;exact PySem.W.kia_tup PySem.W.kitx_int I.kIn True.intro htp e (λz=>nomatch z) h
  | str y=>obtain⟨t,q⟩:=(show ∃ t,u=Value.str y t from rx);cases q;exact PySem.W.kia_tup PySem.W.kitx_str I.kIn True.intro htp e (λz=>nomatch z) h
  | flt y=>obtain⟨t,q⟩:=(show ∃ t,u=Value.float y t from rx);cases q;exact PySem.W.kia_tup PySem.W.kitx_float I.kIn True.intro htp e (λz=>nomatch z) h
  | @lst a xs ea =>
   cases (show u=Value.ref a from rx);obtain⟨_,_,n,_,h1⟩:=(show ObjOk X.prog X.w H s.heap a (.lst xs) from I.hok a _ ea);exact PySem.W.kia_tup PySem.W.kitx_list I.kIn ⟨_,h1,rfl⟩ htp e (λz=>nomatch z) h
  | @frz a ob xs ea =>
   cases (show u=Value.ref a from rx);obtain⟨q1,_,_,n,_,h1⟩:=(show ObjOk X.prog X.w H s.heap a (.frz ob (.lst xs)) from I.hok a _ ea);exact PySem.W.kia_tup PySem.W.kitx_list I.kIn ⟨_,h1,rfl⟩ htp e (λz=>nomatch z) h
  | @tup a xs ea =>
   cases (show u=Value.ref a from rx);obtain⟨its',rv,p,_⟩:=I.tuple (SqT.of ea);obtain⟨o,ho,hc,_⟩:=p;exact PySem.W.kia_tup PySem.W.kitx_tuple I.kIn ⟨o,ho,hc⟩ htp e (λz=>nomatch z) h
  | @dK a kvs ea =>
   cases (show u=Value.ref a from rx);obtain⟨_,_,vs,_,p⟩:=(show ObjOk X.prog X.w H s.heap a (.dK kvs) from I.hok a _ ea);obtain⟨o,es,ep,h1,h2,_⟩:=p;exact PySem.W.kia_tup PySem.W.kitx_dict I.kIn ⟨o,h1,h2.1⟩ htp e (λz=>nomatch z) h
  | @dT a kvs ea =>
   cases (show u=Value.ref a from rx);obtain⟨_,_,xs,_,o,es,ep,h1,h2,_⟩:=(show ObjOk X.prog X.w H s.heap a (.dT kvs) from I.hok a _ ea);exact PySem.W.kia_tup PySem.W.kitx_dict I.kIn ⟨o,h1,h2.1⟩ htp e (λz=>nomatch z) h
  | ins=>exact absurd rfl (hs _)
 ·cases rx;obtain⟨its',rv,p,_⟩:=I.tuple hq;obtain⟨o,ho,hc,_⟩:=p;exact PySem.W.kia_tup PySem.W.kitx_tuple I.kIn ⟨o,ho,hc⟩ htp e (λz=>nomatch z) h
 ·cases rx;obtain⟨its',rv,p,_⟩:=I.list hq;obtain⟨o,ho,hc,_⟩:=p.isList;exact PySem.W.kia_tup PySem.W.kitx_list I.kIn ⟨o,ho,hc⟩ htp e (λz=>nomatch z) h
end
section
variable{X:Cx}
theorem HK(K:Frag)(hK:X.K=K:=by rfl):CallR X (.builtin "isinstance") (λxs H Q=>∃ x n t b,xs=[x,.ty n]/\HP K H x t/\PySem.W.kitOne K t (.type n)=some b/\Q (.bl b) H):=by
 subst hK;intro pins s σ H xs us Q I rv h;obtain⟨x,n,t,b,rfl,ty,e,q⟩:=h;obtain⟨u,v,rfl,r1,r2⟩:=rv.two;cases r2;exact Hb I r1 ty e λtk=>⟨.bl b,H,I.tok tk,rfl,q⟩
theorem zd:∀{ns:List String} {us:List Value},Vals (ns.map V.ty) us->us=ns.map Value.type
 | [],_,.nil=>rfl
 | n::ns,_,.cons r t=>by
  have r':_=Value.type n:=r;rw [r',zd t];rfl
theorem Kw(K:Frag)(hK:X.K=K:=by rfl):CallR X (.builtin "isinstance") (λxs H Q=>∃ x tp t b,∃ ns:List String,xs=[x,.ref tp]/\HP K H x t/\(∀ C,t ≠ .ref C)/\H tp=some (.tup (ns.map V.ty))/\PySem.W.kitAny K t (ns.map Value.type)=some b/\Q (.bl b) H):=by
 subst hK;intro pins s σ H xs us Q I rv h;obtain⟨x,tp,t,b,ns,rfl,ty,hs,htp,e,q⟩:=h;obtain⟨u,v,rfl,r1,r2⟩:=rv.two;cases r2;obtain⟨its,rv',p,_⟩:=I.tuple (SqT.of htp);obtain⟨⟨cl,dd,dt,sl⟩,ho,hc,n,hd⟩:=p;have hc':cl = .type "tuple" := hc;have hd':dt = .seq its.toArray n:=hd;subst hc' hd';refine EA I r1 ty hs ho ?_ λtk=>⟨.bl b,H,I.tok tk,rfl,q⟩;rw [zd rv'];exact e
theorem KZ(K:Frag)(hK:X.K=K:=by rfl):IxR X (JJ K):=hK ▸ ix_seq
end
end L2
namespace L2
open PySem PySem.Spec PyProof.Rows
mutual
def DV.wd:DV->Nat
 | .tup ds=>max ds.length (DV.wds ds)
 | .lst ds=>max ds.length (DV.wds ds)
 | _=>0
def DV.wds:List DV->Nat
 | []=>0
 | d::ds=>max (DV.wd d) (DV.wds ds)
end
theorem y9:∀{ds:List DV} {d:DV},d∈ds->d.wd<=DV.wds ds/\d.dp<=DV.dps ds
 | [],_,h=>absurd h aK
 | e::ds,d,h=>by
  unfold DV.wds DV.dps;rcases am.mp h with rfl|h
  ·exact⟨Nat.le_max_left _ _,Nat.le_max_left _ _⟩
  ·have:=y9 h;omega
theorem Reps.get{K:Frag}{H:Hp}:∀{ds:List DV} {vs:List V} {i:Nat} {v:V},Reps K H ds vs->vs[i]? = some v->∃ d,ds[i]? = some d/\Rep K H d v
 | [],vs,i,v,h,e=>by
  unfold Reps at h;subst h;simp at e
 | d::ds,vs,i,v,h,e=>by
  unfold Reps at h;obtain⟨v',r,rfl,h1,h2⟩:=h;cases i with
  | zero =>
   simp at e;subst e;exact⟨d,rfl,h1⟩
  | succ i =>
   simp at e;obtain⟨d',a,b⟩:=Reps.get h2 e;exact⟨d',by simpa using a,b⟩
def SqX(K:Frag)(tt:String)(H:Hp)(a:Addr)(xs:List V):Prop:=(tt = "tuple" /\ SqT K H a xs)\/(tt = "list" /\ SqL K H a xs)
theorem SqX.same{K:Frag}{tt:String}{H H':Hp}{a:Addr}{xs:List V}(h:SqX K tt H a xs)(e:Same H H'):SqX K tt H' a xs:=h.imp (λz=>⟨z.1,z.2.same e⟩) λz=>⟨z.1,e.seq z.2⟩
theorem SqX.len{K:Frag}{tt:String}{H:Hp}{a:Addr}{xs:List V}(h:SqX K tt H a xs):SqL K H a xs\/SqT K H a xs:=h.elim (λz=>.inr z.2) λz=>.inl z.2
theorem SqX.ty{K:Frag}{tt:String}{H:Hp}{a:Addr}{xs:List V}(h:SqX K tt H a xs):HP K H (.ref a) (.type tt):=h.elim (λz=>.inr (.inl ⟨a,xs,rfl,z.2,by rw [z.1]⟩)) λz=>.inr (.inr ⟨a,xs,rfl,z.2,by rw [z.1]⟩)
theorem SqX.ix{K:Frag}{tt:String}{H:Hp}{a:Addr}{xs:List V}{i:Int}{v:V}{Q:VK}(h:SqX K tt H a xs)(e:vB xs i=some v)(q:Q v H):JJ K (.ref a) (.int i) H Q :=
 h.elim (λz=>.inr (.inl ⟨a,xs,i,v,rfl,rfl,z.2,e,q⟩)) λz=>.inl ⟨a,xs,i,v,rfl,rfl,z.2,e,q⟩
theorem SqX.kit{K:Frag}{tt:String}{H:Hp}{a:Addr}{xs:List V}(h:SqX K tt H a xs):PySem.W.kitAny K (.type tt) [.type "list",.type "tuple"]=some true/\(∃ b,PySem.W.kitOne K (.type tt) (.type "list")=some b)/\∃ b,PySem.W.kitOne K (.type tt) (.type "tuple")=some b:=by
 rcases h with⟨rfl,_⟩|⟨rfl,_⟩
 ·exact⟨rfl,⟨_,rfl⟩,⟨_,rfl⟩⟩
 ·exact⟨rfl,⟨_,rfl⟩,⟨_,rfl⟩⟩
def KP(K:Frag)(x:V):Prop:=∃ t bb,(∀ H,HP K H x t)/\(∀ C,t ≠ .ref C)/\PySem.W.kitAny K t [.type "list",.type "tuple"]=some false/\PySem.W.kitOne K t (.type "bool")=some bb/\F4 x x=true
theorem Aw{K:Frag}{H:Hp}{d:DV}{x y:V}(hx:Rep K H d x)(hy:Rep K H d y):(x=y/\KP K x) \/
  ∃ tt a a' xs ys ds,x = .ref a/\y = .ref a'/\SqX K tt H a xs/\SqX K tt H a' ys/\Reps K H ds xs/\Reps K H ds ys/\d.dp=DV.dps ds+1/\DV.wds ds<=d.wd/\ds.length<=d.wd:=by
 cases d with
 | int i=>unfold Rep at hx hy;subst hx hy;exact .inl ⟨rfl,.type "int",false,λH=>.inl (.int _),nofun,rfl,rfl,rfl⟩
 | str i=>unfold Rep at hx hy;subst hx hy;exact .inl ⟨rfl,.type "str",false,λH=>.inl (.str _),nofun,rfl,rfl,rfl⟩
 | non=>unfold Rep at hx hy;subst hx hy;exact .inl ⟨rfl,.type "NoneType",false,λH=>.inl .non,nofun,rfl,rfl,rfl⟩
 | bl i=>unfold Rep at hx hy;subst hx hy;exact .inl ⟨rfl,.type "bool",true,λH=>.inl (.bl _),nofun,rfl,rfl,rfl⟩
 | tup ds =>
  unfold Rep at hx hy;obtain⟨a,xs,rfl,h1,h2⟩:=hx;obtain⟨a',ys,rfl,h1',h2'⟩:=hy;exact .inr ⟨"tuple",a,a',xs,ys,ds,rfl,rfl,.inl ⟨rfl,h1⟩,.inl ⟨rfl,h1'⟩,h2,h2',by rw [DV.dp],by rw [DV.wd];omega,by rw [DV.wd];omega⟩
 | lst ds =>
  unfold Rep at hx hy;obtain⟨a,xs,rfl,h1,h2⟩:=hx;obtain⟨a',ys,rfl,h1',h2'⟩:=hy;exact .inr ⟨"list",a,a',xs,ys,ds,rfl,rfl,.inr ⟨rfl,h1⟩,.inr ⟨rfl,h1'⟩,h2,h2',by rw [DV.dp],by rw [DV.wd];omega,by rw [DV.wd];omega⟩
end L2
namespace L2
open PySem PySem.Spec PyProof.Rows
section
variable{X:Cx}
def Kx(K:Frag)(tl:TE):TI:=λσ H R=>tl σ H λx H1=>∃ a,x = .ref a/\(((∃ xs,SqL K H1 a xs)/\R (Lj K a) H1)\/((∃ xs,SqT K H1 a xs)/\R (Li K a) H1))
theorem LD(K:Frag){tg l:Expr}{tl:TE}(hl:PE X l tl)(hK:X.K=K:=by rfl):PI X tg l (Kx K tl):=by
 subst hK;intro pins s σ H R I h;refine q8 (hl pins s σ H _ I h) λv s1 ⟨x,H1,I1,r1,q1⟩=>?_;obtain⟨a,e,q1⟩:=q1;subst e;cases r1;have fp1:∀ b∈[s1.heap.objs.size],sU X pins H1 b:=λb hb=>by
  have e:b=s1.heap.objs.size:=by simpa using hb
  subst e;exact I1.fpOk (af _) (I1.hok.fresh (af _))
 rcases q1 with⟨⟨xs,hq⟩,q⟩|⟨⟨xs,hq⟩,q⟩
 ·obtain⟨its,rv,p,hz⟩:=I1.list hq;exact wpAny_pyIter_list p.isList ⟨s1.heap.objs.size,[s1.heap.objs.size],_,_,H1,rfl,I1.kept (t':=s1.toks) λb o e=>ηH _ e,Aq a _,⟨_,ηG _ rfl,rfl,rfl⟩,fp1,q⟩
 ·obtain⟨its,rv,p,hz⟩:=I1.tuple hq;exact wpAny_pyIter_tuple (show s1.heap.IsTuple a its.toArray from p) ⟨s1.heap.objs.size,[s1.heap.objs.size],_,_,H1,rfl,I1.kept (t':=s1.toks) λb o e=>ηH _ e,ya a _,⟨_,ηG _ rfl,rfl,rfl⟩,fp1,q⟩
def IB(K:Frag):R2:=λx y H Q=>∃ a b ys,x = .ref a/\y = .ref b/\SqT K H a []/\SqT K H b ys/\Q (.ref b) H
theorem Jq(K:Frag)(hK:X.K=K:=by rfl):OpR X (binaryOp .Add) (IB K):=by
 subst hK;intro pins s σ H x y u v Q I rx ry h;obtain⟨a,b,ys,rfl,rfl,h1,h2,q⟩:=h;cases rx;cases ry;obtain⟨its,rv,p,_⟩:=I.tuple h1;obtain⟨its2,rv2,p2,_⟩:=I.tuple h2;cases rv;obtain⟨⟨cls,dd,data,sl⟩,ho,hc,n,hd⟩:=id p;obtain⟨⟨cls2,dd2,data2,sl2⟩,ho2,hc2,n2,hd2⟩:=id p2;simp only at hc hd hc2 hd2;subst hc hd hc2 hd2;exact concat_meets ⟨_,ho,rfl⟩ ⟨_,ho2,rfl⟩ noFill_tuple_add seq_tuple_add PySem.F.slot_tuple_add PySem.F.entry_tuple_add (PySem.F.args_tuple_add_2 _ _)
  (tuple_addW0 a b ([]:List Value).toArray its2.toArray n n2 dd dd2 sl sl2 (by simp)) ⟨ho,ho2,⟨.ref b,H,I,rfl,q⟩⟩
def Fa(K:Frag)(neg:Bool):R2:=λx y H Q=>∃ ds ds',Rep K H (.lst ds) x/\Rep K H (.lst ds') y/\DV.pls ds=true/\DV.pls ds'=true/\DV.dps ds<=60/\∀ b,(b=true↔ds=ds')->Q (.bl (if neg then !b else b)) H
theorem KC(K:Frag){k:Nat}(hr:Room k X.A)(hK:X.K=K:=by rfl):OpR X (compareOp .Eq) (Fa K false):=by
 subst hK;intro pins s σ H x y u v Q I rx ry h;obtain⟨ds,ds',h1,h2,p1,p2,hu,q⟩:=h;have hun:=hr.units;unfold Rep at h1 h2;obtain⟨a,vs,rfl,t1,r1⟩:=h1;obtain⟨a',vs',rfl,t2,r2⟩:=h2;cases rx;cases ry;obtain⟨its,rv,p,_⟩:=I.list t1;obtain⟨its',rv',p',_⟩:=I.list t2;obtain⟨f,hf,hi⟩:=yJ I ds ds' X.A.in1 r1 r2 rv rv' p1 p2 (by show X.A.units+1+_+1<_;omega);by_cases hz:its.length=its'.length
 ·refine SeqAt.RcAt.lists p.isList p'.isList (by simpa using hz) (by omega) (e:=f) (λj h1 h2=>?_) _ _ _ _ ⟨.bl _,H,I,rfl,q _ ?_⟩
  ·have q:=hf j (by simpa using h1) (by simpa using h2);simpa using q
  ·simp only [ak];rw [wI hz] at hi;exact hi
 ·refine SeqAt.RcAt.lists_lengths p.isList p'.isList (by simpa using hz) (by omega) _ _ _ _ ⟨.bl false,H,I,rfl,q false ?_⟩;simp only [cQ,false_iff];intro z;have l1:=r1.length;have l2:=r2.length;rw [z] at l1;exact hz (by rw [← rv.length,← rv'.length,← l1,← l2])
theorem Kr(K:Frag){k:Nat}(hr:Room k X.A)(hK:X.K=K:=by rfl):OpR X (compareOp .NotEq) (Fa K true):=by
 subst hK;intro pins s σ H x y u v Q I rx ry h;obtain⟨ds,ds',h1,h2,p1,p2,hu,q⟩:=h;have hun:=hr.units;unfold Rep at h1 h2;obtain⟨a,vs,rfl,t1,r1⟩:=h1;obtain⟨a',vs',rfl,t2,r2⟩:=h2;cases rx;cases ry;obtain⟨its,rv,p,_⟩:=I.list t1;obtain⟨its',rv',p',_⟩:=I.list t2;obtain⟨f,hf,hi⟩:=yJ I ds ds' X.A.in1 r1 r2 rv rv' p1 p2 (by show X.A.units+1+_+1<_;omega);by_cases hz:its.length=its'.length
 ·refine SeqAt.RcNeAt.lists p.isList p'.isList (by simpa using hz) (by omega) (e:=f) (λj h1 h2=>?_) _ _ _ _ ⟨.bl _,H,I,rfl,q _ ?_⟩
  ·have q:=hf j (by simpa using h1) (by simpa using h2);simpa using q
  ·simp only [ak];rw [wI hz] at hi;exact hi
 ·refine SeqAt.RcNeAt.lists_lengths p.isList p'.isList (by simpa using hz) (by omega) _ _ _ _ ⟨.bl true,H,I,rfl,q false ?_⟩;simp only [cQ,false_iff];intro z;have l1:=r1.length;have l2:=r2.length;rw [z] at l1;exact hz (by rw [← rv.length,← rv'.length,← l1,← l2])
end
end L2
namespace Po
open L2
def gl(b:Nat)(ts:List Int):Nat:=ts.foldl (λg t=>Nat.gcd g t.natAbs) b
theorem Hd(ts:List Int):gl 1 ts=1:=by
 induction ts with
 | nil=>rfl
 | cons t ts ih =>
  show gl (Nat.gcd 1 t.natAbs) ts=1;rw [Nat.gcd_one_left];exact ih
theorem vm:∀(ts:List Int) (b:Nat),gl b ts∣b/\∀ t∈ts,gl b ts∣t.natAbs
 | [],b=>⟨Nat.dvd_refl b,λt ht=>absurd ht aK⟩
 | t::ts,b=>by
  have ih:=vm ts (Nat.gcd b t.natAbs);refine⟨Nat.dvd_trans ih.1 (Nat.gcd_dvd_left _ _),λu hu=>?_⟩;rcases am.mp hu with rfl|hu
  ·exact Nat.dvd_trans ih.1 (gN _ _)
  ·exact ih.2 u hu
theorem yN{c d:Nat}:∀(ts:List Int) (b:Nat),d∣c*b->(∀ t∈ts,d∣c*t.natAbs)->d∣c*gl b ts
 | [],b,h,_=>h
 | t::ts,b,h,ht=>by
  refine yN ts (Nat.gcd b t.natAbs) ?_ λu hu=>ht u (ay _ hu);rw [← Nat.gcd_mul_left];exact Nat.dvd_gcd h (ht t aE)
structure Fm (P:List Int)(B:Int):Prop where
 pos:0<B
 last:P=[]\/P.getD (P.length-1) 0≠0
 gcd:gl B.natAbs P=1
theorem getD_mem{P:List Int}{t:Int}(h:t∈P):∃ k,P.getD k 0=t:=by
 obtain⟨k,hk,e⟩:=List.getElem_of_mem h;exact⟨k,by simp [List.getD,hk,e]⟩
theorem wU{P P':List Int}{B B':Int}(F:Fm P B)(h:∀ k,P.getD k 0*B'=P'.getD k 0*B):B.natAbs∣B'.natAbs:=by
 have q:=yN (c:=B'.natAbs) (d:=B.natAbs) P B.natAbs (dW _ _) λt ht=>by
  obtain⟨k,rfl⟩:=getD_mem ht;have e:=congrArg Int.natAbs (h k);rw [aO,aO] at e;rw [aT,e];exact dW _ _
 rw [F.gcd,dH] at q;exact q
theorem CA{P P':List Int}(l:P=[]\/P.getD (P.length-1) 0≠0)(h:∀ k,P.getD k 0=P'.getD k 0):P.length<=P'.length:=by
 rcases l with rfl|l
 ·exact aB _
 ·rcases ar P'.length P.length with z|z
  ·refine absurd ?_ l;rw [h,ac,bg (by omega)];rfl
  ·exact z
theorem uniq{P P':List Int}{B B':Int}(F:Fm P B)(F':Fm P' B')(h:∀ k,P.getD k 0*B'=P'.getD k 0*B):P=P'/\B=B':=by
 have d1:=wU F h;have d2:=wU F' λk=>(h k).symm;have e:=Nat.dvd_antisymm d1 d2;have p1:=F.pos;have p2:=F'.pos;have eB:B=B':=by omega
 subst eB;have hk:∀ k,P.getD k 0=P'.getD k 0:=λk=>aH (by omega) (h k);have l1:=CA F.last hk;have l2:=CA F'.last λk=>(hk k).symm;refine⟨List.ext_getElem (by omega) λk h1 h2=>?_,rfl⟩;have q:=hk k;simp [List.getD,h1,h2] at q;exact q
theorem CK(g:Nat):∀(ts:List Int) (b:Nat),gl (g*b) (ts.map λt=>(g:Int)*t)=g*gl b ts
 | [],b=>rfl
 | t::ts,b=>by
  show gl (Nat.gcd (g*b) ((g:Int)*t).natAbs) (ts.map λt=>(g:Int)*t)=g*gl (Nat.gcd b t.natAbs) ts;rw [aO,a8,Nat.gcd_mul_left];exact CK g ts _
theorem yG{b:Nat}(h:0<b)(ts:List Int):0<gl b ts:=Nat.pos_of_dvd_of_pos (vm ts b).1 h
theorem form{ts:List Int}{b:Int}{m:Nat}(hb:0<b)(hm:m<=ts.length)(h0:∀ j,m<=j->ts.getD j 0=0)(hl:m=0\/ts.getD (m-1) 0≠0) :
  Fm ((ts.take m).map λt=>t.fdiv ((gl b.natAbs (ts.take m):Nat):Int)) (b.fdiv ((gl b.natAbs (ts.take m):Nat):Int)) /\
  (∀ k,((ts.take m).map λt=>t.fdiv ((gl b.natAbs (ts.take m):Nat):Int)).getD k 0*b=ts.getD k 0*(b.fdiv ((gl b.natAbs (ts.take m):Nat):Int))):=by
 have g0:0<gl b.natAbs (ts.take m):=yG (by omega) _;have gd:=vm (ts.take m) b.natAbs;generalize hg:gl b.natAbs (ts.take m)=g at *;have gi:(g:Int)≠0:=by omega
 have ex:∀ t:Int,g∣t.natAbs->t=(g:Int)*t.fdiv (g:Int):=λt ht=>by
  obtain⟨c,e⟩:(g:Int)∣t:=by first|exact Int.ofNat_dvd_left.mpr ht|exact a6.mp (by rw [a8];exact ht)
  rw [e,cq _ gi]
 have eb:=ex b gd.1;have et:ts.take m=((ts.take m).map λt=>t.fdiv (g:Int)).map λt=>(g:Int)*t:=by
  rw [List.map_map];refine (List.map_id (ts.take m)).symm.trans (List.map_congr_left λt ht=>?_);exact ex t (gd.2 t ht)
 have bp:0<b.fdiv (g:Int):=by
  rcases dM (b.fdiv (g:Int)) 0 with z|z|z
  ·have:=dE (show (0:Int)<(g:Int) by omega) z;omega
  ·rw [z,bJ] at eb;omega
  ·exact z
 have kk:∀ k,((ts.take m).map λt=>t.fdiv (g:Int)).getD k 0*(g:Int)=ts.getD k 0:=λk=>by
  by_cases hk:k<m
  ·have h1:k<(ts.take m).length:=by rw [aZ];omega
   have h2:k<ts.length:=by omega
   have e1:((ts.take m).map λt=>t.fdiv (g:Int)).getD k 0=(ts[k]).fdiv (g:Int):=by
    rw [ac,aJ,dL hk,ao h2];rfl
   have e2:ts.getD k 0=ts[k]:=by rw [ac,ao h2];rfl
   have mem:ts[k]∈ts.take m:=by
    refine aL (i:=k) ?_;rw [dL hk,ao h2]
   rw [e1,e2,bh];exact (ex _ (gd.2 _ mem)).symm
  ·rw [h0 k (by omega),ac,bg (by rw [aa,aZ];omega)];exact aI _
 refine⟨⟨bp,?_,?_⟩,λk=>?_⟩
 ·have hlen:((ts.take m).map λt=>t.fdiv (g:Int)).length=m:=by rw [aa,aZ];omega
  rcases hl with z|z
  ·left;subst z;simp
  ·right;rw [hlen];intro c;have q:=kk (m-1);rw [c,aI] at q;exact z q.symm
 ·have q:=CK g ((ts.take m).map λt=>t.fdiv (g:Int)) (b.fdiv (g:Int)).natAbs;rw [← et] at q;have e:g*(b.fdiv (g:Int)).natAbs=b.natAbs:=by
   conv=>rhs;rw [eb,aO,a8]
  rw [e,hg] at q;exact fL g0 (by omega)
 ·rw [← kk k,bI,← eb]
end Po
namespace L2
open PySem PySem.Spec PyProof.Rows
section
variable{X:Cx}
theorem tF:∀{ns:List Int} {us:List Value},Vals (ns.map V.int) us->∃ xs:List (Int×Tok),us=xs.map (λp=>Value.int p.1 p.2)/\xs.map (·.1)=ns
 | [],_,.nil=>⟨[],rfl,rfl⟩
 | n::ns,_,.cons r t=>by
  obtain⟨tk,e⟩:∃ t,_=Value.int n t:=r;obtain⟨xs,e1,e2⟩:=tF t;exact⟨(n,tk)::xs,by rw [e,e1];rfl,by rw [← e2];rfl⟩
theorem Kt(K:Frag)(hc:X.calm=true:=by rfl)(hK:X.K=K:=by rfl):CallR X (.builtin "max") (λxs H Q=>∃ p,∃ ns:List Int,xs=[.ref p]/\SqL K H p (ns.map V.int)/\ns≠[]/\∀ M,M∈ns->(∀ a∈ns,a<=M)->Q (.int M) H):=by
 subst hK;intro pins s σ H xs us Q I rv h;obtain⟨p,ns,rfl,hp,hn,q⟩:=h;obtain⟨u,rfl,ru⟩:=rv.one;cases ru;obtain⟨its,rv',pl,_⟩:=I.list hp;obtain⟨ys,e1,e2⟩:=tF rv';subst e1;have hl:s.heap.IsList p (intItems ys.toArray):=by
  have:intItems ys.toArray=(ys.map (λp=>Value.int p.1 p.2)).toArray:=by simp [intItems]
  rw [this];exact pl.isList
 have hsz:0<ys.toArray.size:=by
  rcases ys with _|⟨y,ys⟩
  ·exact absurd e2.symm hn
  ·simp
 refine max_intList (I.ok.hd hc) hl hsz λv h' tk hv hk=>?_;obtain⟨t,rfl⟩:=intItems_at hv;obtain⟨h1,h2⟩:=argBest_gt (numAt ys.toArray) (ys.toArray.size-1);refine⟨.int _,H,I.kept (t':=tk) hk,⟨t,rfl⟩,q _ ?_ λa ha=>?_⟩
 ·rw [numAt_eq,← e2];exact PySem.getD_mem (by simp only [ak,aa] at *;omega)
 ·rw [← e2] at ha;obtain⟨j,hj,rfl⟩:=PySem.mem_getD ha;rw [aa] at hj;have:=h2 j (by rw [ak];omega);rw [numAt_eq] at this;exact this
end
theorem uf:∀ ts:List Int,DV.dps (ts.map DV.int)=0/\DV.wds (ts.map DV.int)=0
 | []=>by unfold DV.dps DV.wds;exact⟨rfl,rfl⟩
 | t::ts=>by
  show DV.dps (DV.int t::ts.map DV.int)=0/\DV.wds (DV.int t::ts.map DV.int)=0;unfold DV.dps DV.wds;rw [(uf ts).1,(uf ts).2];exact⟨rfl,rfl⟩
def pd(P:List Int)(B:Int):List DV:=[.tup (P.map DV.int),.int B]
def Pol(H:Hp)(v:V)(P:List Int)(B:Int):Prop:=∃ a t,v = .ref a/\H a=some (.tup [.ref t,.int B])/\H t=some (.tup (P.map V.int))
theorem IF(P:List Int)(B:Int):(DV.tup (pd P B)).wd<=max 2 P.length/\(DV.tup (pd P B)).dp=2:=by
 unfold pd;simp [DV.wd,DV.wds,DV.dp,DV.dps,(uf P).1,(uf P).2]
theorem Ht:bootBuiltins "max" = some (.builtin "max"):=by decide +kernel
theorem Hs:bootBuiltins "min" = some (.builtin "min"):=by decide +kernel
theorem Hr:bootBuiltins "sum" = some (.builtin "sum"):=by decide +kernel
end L2
namespace L2
open PySem PySem.Spec PyProof.Rows
section
variable{X:Cx}{pins:List (Addr×Obj)}{σ:St}{H:Hp}{s:Shared}{h':Heap}
theorem Inv.turnedL{t':Nat}{fp:List Addr}(I:Inv X pins σ H s)(k:∀ b o,b ∉ fp->s.heap.get? b=some o->h'.get? b=some o)(hf:∀ b∈fp,sU X pins H b):Inv X pins σ H { s with heap:=h',toks:=t' }:=by
 have nit:∀ b u,H b=some u->b ∉ fp:=λb u e z=>by rw [(hf b z).1] at e;cases e
 have hL:X.env.locals ∉ fp:=λz=>(hf _ z).2.1 rfl;refine I.step (g':=s.gens) (d':=s.drawn) (ch:=fp) (λb hb=>⟨(hf b hb).2.2.2.1,(hf b hb).2.1,(hf b hb).2.2.2.2.1,(hf b hb).2.2.2.2.2⟩) (λb o _ _ hc e _=>k b o hc e) (λb o _ _ hc e _=>⟨o.slots,k b o hc e⟩) (λ_ _ _ _ n=>n)
  (λb o hc e=>⟨o,k b o hc e⟩) (λ_ _ e=>e) (λ_ _ _ e=>e) (λb ps e=>⟨#[],by rw [e];simp⟩) (λm ⟨o,es,ep,ho,r⟩=>⟨o,es,ep,k _ o hL ho,r⟩) (λb u e=>?_) I.bare
 refine (I.hok b u e).stay (λc v hc q=>k c v (hc.elim (λz=>by rw [z];exact nit b u e) λz=>nit c _ z) q) (λ_ q=>q) λ_ _ q=>q
end
section
variable{prog:Program}{w:World}{A:Around}{E:Value->Shared->Prop}{s:Shared}
theorem yA{it t:Addr}{i:Nat}{items:Array Value}{x:Value}{Q:Value->Shared->Prop}(hit:s.heap.IsTupleIter it t i)(ht:s.heap.IsTuple t items)(hx:items[i]? = some x)
  (hQ:∀ h',h'.IsTupleIter it t (i+1)->Heap.SameBut it s.heap h'->Q x { s with heap:=h' }):wpAny (model prog w) A (Builtin.SmallTypes.nextOf (.ref it)) Q E s:=by
 obtain⟨o,ho,hc,hd⟩:=id hit;obtain⟨ol,hol,_,nl,hdl⟩:=ht;unfold Builtin.SmallTypes.nextOf;refine ηB (wpAny_callSpecial?_slot (name:=Str.ofString "__next__") hit.typeIs F.slot_tuple_iterator_next (wpAny_call_entry F.slot_tuple_iterator_next hit.typeIs F.entry_tuple_iterator_next ?_ (F.args_tuple_iterator_next_1 _)));show wpAny _ _ (field (.ref it) 0 >>= _) _ _ s;refine ηB (wpAny_field ho hd (x:=.ref t) rfl ?_);show wpAny _ _ (if (Value.ref t == Value.none)=true then _ else _) _ _ s;rw [if_neg (show ¬ ((Value.ref t == Value.none)=true) from aA)];show wpAny _ _ (field (.ref it) 1 >>= _) _ _ s;refine ηB (wpAny_field ho hd (x:=.int i 0) rfl ?_);show wpAny _ _ (seqItems? (.ref t) >>= _) _ _ s;refine ηB (wpAny_seqItems hol hdl ?_);simp only [aS,hx];refine ηB (wpAny_setField ho hd (by simp) (ηP ⟨x,rfl,ηP (hQ _ ⟨_,Heap.get?_update_self _ ho (Obj.isFreed_of_fields (Obj.data_mapFields hd _)),(Obj.cls_mapFields ..).trans hc,by rw [Obj.data_mapFields hd];simp [rawInt]⟩ (Heap.SameBut.update ..))⟩))
theorem vT{it t:Addr}{i:Nat}{items:Array Value}{Q:Value->Shared->Prop}(hh:A.handled=none)(hit:s.heap.IsTupleIter it t i)(ht:s.heap.IsTuple t items)(hx:items[i]? = none)
  (hE:∀ h' e,Heap.ExtBut it s.heap h'->(∃ o,h'.get? e=some o/\o.cls = .type "StopIteration")->E (.ref e) { s with heap:=h' }):wpAny (model prog w) A (Builtin.SmallTypes.nextOf (.ref it)) Q E s:=by
 obtain⟨o,ho,hc,hd⟩:=id hit;obtain⟨ol,hol,_,nl,hdl⟩:=ht;unfold Builtin.SmallTypes.nextOf;refine ηB (wpAny_callSpecial?_slot (name:=Str.ofString "__next__") hit.typeIs F.slot_tuple_iterator_next (wpAny_call_entry F.slot_tuple_iterator_next hit.typeIs F.entry_tuple_iterator_next ?_ (F.args_tuple_iterator_next_1 _)));show wpAny _ _ (field (.ref it) 0 >>= _) _ _ s;refine ηB (wpAny_field ho hd (x:=.ref t) rfl ?_);show wpAny _ _ (if (Value.ref t == Value.none)=true then _ else _) _ _ s;rw [if_neg (show ¬ ((Value.ref t == Value.none)=true) from aA)];show wpAny _ _ (field (.ref it) 1 >>= _) _ _ s;refine ηB (wpAny_field ho hd (x:=.int i 0) rfl ?_);show wpAny _ _ (seqItems? (.ref t) >>= _) _ _ s;refine ηB (wpAny_seqItems hol hdl ?_);simp only [aS,hx];refine ηB (wpAny_rule (ηB (wpAny_setField ho hd (by simp) ?_)));show wpAny _ _ (newExc (.type "StopIteration") [] >>= _) _ _ _;refine ηB ?_;simp only [newExc,newTuple];refine ηB (wpAny_newObj_type ?_ (by size_fits));refine ηB (m:=firstArgMember _ _) (wpAny_of_eq (a:=Value.none) (by first|rfl|(simp only [firstArgMember];rfl)) ?_);refine wpAny_newObj_type ?_ (by size_fits);simp only [raiseNew];refine ηB (wpAny_handled ?_);first|rw [show A.in1.handled=none from hh]|rw [hh]
 refine ηB (ηP (wpAny_throw ?_));exact hE _ _ (((Heap.SameBut.update ..).extBut.push _).push _) ⟨_,ηG _ rfl,rfl⟩
end
theorem Hk{prog:Program}{w:World}{A:Around}(hh:A.handled=none)(it l:Addr)(hne:l≠it)(items:Array Value):Draws prog w A it [it,l] items.size (λi v=>items[i]? = some v) (λi h=>h.IsTupleIter it l i/\h.IsTuple l items) where
 live:=λ_ _ st=>let ⟨o,ho,_⟩:=st.1;⟨o,ho⟩
 frame:=λ_ _ _ st hk=>⟨let ⟨o,ho,r⟩:=st.1;⟨o,hk it (by simp) o ho,r⟩,let ⟨o,ho,r⟩:=st.2;⟨o,hk l (by simp) o ho,r⟩⟩
 item:=λi s Q E hi st hQ=>yA st.1 st.2 (x:=items[i]) (by simp [hi]) λh' hit' hs'=>hQ _ h' s.toks (by simp [hi]) ⟨hit',let ⟨o,ho,r⟩:=st.2;⟨o,(hs'.2 l hne).trans ho,r⟩⟩ hs'
 done:=λs Q E st hE=>vT hh st.1 st.2 (by simp) hE
theorem AY(l:Addr)(items:Array Value)(n:Nat)(dct:Option Addr)(sl:Array (Option Value)) :
  Meets (Builtin.«enumerate.__new__» ⟨[.type "enumerate",.ref l],[]⟩) (λ_ R s=>s.heap.get? l=some { cls:=.type "tuple",dict:=dct,data:=.seq items n,slots:=sl } /\
   R (.ok (.ret (.ref (s.heap.push { cls:=.type "tuple_iterator",data:=.fields #[.ref l,.int 0 0] }).objs.size)))
    { s with heap:=(s.heap.push { cls:=.type "tuple_iterator",data:=.fields #[.ref l,.int 0 0] }).push { cls:=.type "enumerate",data:=.fields #[.none,.bool false,.ref s.heap.objs.size,rawInt 0,.none,.none] } }) :=
 .of_wp λprog w A R s h=>by
  obtain⟨hp,g,d,tk,os⟩:=s;obtain⟨hl,h⟩:=h;have hsub:=sub_enumerate;have hL:Heap.IsTuple (Shared.heap ⟨hp,g,d,tk,os⟩) l items:=⟨_,hl,rfl,n,rfl⟩
  wp_walk using AutoSeq1.wpAny_loadPart' hl
  refine wpAny_stack_any λst=>ηP ?_;split
  ·rename_i c _ _ _ _ _;cases (c == Value.type "enumerate") <;> (wp_walk using AutoSeq1.wpAny_loadPart' hl,wpAny_pyIter_tuple hL;exact⟨_,rfl,h⟩)
  ·wp_walk using AutoSeq1.wpAny_loadPart' hl,wpAny_pyIter_tuple hL;exact⟨_,rfl,h⟩
def JR(Sq:Hp->List V->Prop):It:=⟨λi H=>∃ xs x,Sq H xs/\xs[i]? = some x,λi H x H'=>∃ p v,x = .ref p/\H p=none/\H'=rD H p (.tup [.int i,v])/\∀ xs,Sq H xs->xs[i]? = some v,λi H=>∃ xs,Sq H xs/\xs.length<=i⟩
theorem v6{X:Cx}{pins:List (Addr×Obj)}{σ:St}{H:Hp}{s:Shared}{h1 h2:Heap}{e it:Addr}{tk t2:Nat}{i:Nat}{x:V}{u:Value}(I:Inv X pins σ H s)(hf:∀ b∈[e,it],sU X pins H b)(le:e<s.heap.objs.size)(li:it<s.heap.objs.size)(ru:RelV x u)
  (hT:h1.get? s.heap.objs.size=some { cls:=.type "tuple",data:=.seq #[.int i tk,u] }) (hk:∀ b o,b≠e->b≠it->s.heap.get? b=some o->h1.get? b=some o) (hs:Heap.SameBut e h1 h2) :
  Inv X pins σ (rD H s.heap.objs.size (.tup [.int i,x])) { s with heap:=h2,toks:=t2 }/\∀ b∈[e,it],rD H s.heap.objs.size (.tup [.int i,x]) b=none:=by
 have lt:∀ b∈[e,it],b≠s.heap.objs.size:=λb hb=>by
  rcases am.mp hb with z|z
  ·rw [z];exact aQ le
  ·rw [aW.mp z];exact aQ li
 have I1:Inv X pins σ (rD H s.heap.objs.size (.tup [.int i,x])) { s with heap:=s.heap.push { cls:=.type "tuple",data:=.seq #[.int i tk,u] },toks:=t2 } :=
  I.laid (t':=t2) (λb u e=>ηH _ e) (af _) ⟨by show 2<=sizeLine;decide,[.int i tk,u],.cons ⟨tk,rfl⟩ (.cons ru .nil),⟨_,ηG _ rfl,rfl,_,rfl⟩⟩
 have nn:∀ b∈[e,it],rD H s.heap.objs.size (.tup [.int i,x]) b=none:=λb hb=>by
  rw [qM (lt b hb)];exact (hf b hb).1
 refine⟨Inv.turnedL (s:={ s with heap:=s.heap.push { cls:=.type "tuple",data:=.seq #[.int i tk,u] },toks:=t2 }) (t':=t2) (fp:=[e,it]) I1 (λb o hb q=>?_) λb hb=>⟨nn b hb,(hf b hb).2⟩,nn⟩;have be:b≠e:=λz=>hb (by simp [z]);have bi:b≠it:=λz=>hb (by simp [z]);refine (hs.2 b be).trans ?_;rcases Heap.get?_push_cases q with⟨z1,z2⟩|z
 ·rw [z1,z2];exact hT
 ·exact hk b o be bi z
theorem AZ{prog:Program}{w:World}{A:Around}{E:Value->Shared->Prop}{s:Shared}{e it l:Addr}{i:Nat}{items:Array Value}{old:Value}{Q:Option Value->Shared->Prop}(hh:A.handled=none)(he:IsEnum s.heap e it i old)(hit:s.heap.IsTupleIter it l i)(hl:s.heap.IsTuple l items)
  (hx:items[i]? = none) (hQ:∀ h',Heap.ExtBut it s.heap h'->Q none { s with heap:=h' }):wpAny (model prog w) A (pyNext (.ref e)) Q E s:=by
 have hT:s.TypeIs (.ref e) "enumerate" := ⟨_,he,rfl⟩;unfold pyNext;refine ηB (wpAny_attempt (wpAny_callSpecial?_slot (name:=Str.ofString "__next__") hT F.slot_enumerate_next (wpAny_call_entry F.slot_enumerate_next hT F.entry_enumerate_next ?_ (F.args_enumerate_next_1 _))));show wpAny _ _ (field (.ref e) 2 >>= _) _ _ _;refine ηB (wpAny_field he rfl (x:=.ref it) rfl ?_);refine ηB (vT (A:=A.in1) hh hit hl hx λh' x he' hx'=>?_);obtain⟨o,ho,hc⟩:=hx';exact ηB (wpAny_isInstance (T := "StopIteration") (b:=true) ⟨o,ho,hc⟩ isSubtype_stop (ηP (hQ _ he')))
theorem yK{prog:Program}{w:World}{A:Around}{E:Value->Shared->Prop}{s:Shared}{l:Addr}{items:Array Value}{Q:Value->Shared->Prop}(hL:s.heap.IsTuple l items)
  (h:∀ h',IsEnum h' (s.heap.objs.size+1) s.heap.objs.size 0 .none->h'.IsTupleIter s.heap.objs.size l 0->h'.objs.size=s.heap.objs.size+2->(∀ b o,s.heap.get? b=some o->h'.get? b=some o)->Q (.ref (s.heap.objs.size+1)) { s with heap:=h' }) :
  wpAny (model prog w) A (call (.type "enumerate") [.ref l]) Q E s:=by
 obtain⟨⟨c,dct,dt,sl⟩,hl,hc,n,hd⟩:=hL;have hc':c = .type "tuple" := hc;have hd':dt = .seq items n:=hd;subst hc' hd';refine callType_new F.called_enumerate (by decide) (F.typeCall_enumerate_1 _) (F.newCall_enumerate_1 _) (λobj=>F.args_object_init_2 obj _) F.entry_enumerate_new (AY l items n dct sl) ⟨hl,?_⟩;have hz:(s.heap.push { cls:=.type "tuple_iterator",data:=.fields #[.ref l,.int 0 0] }).objs.size=s.heap.objs.size+1:=Heap.size_push ..;show _/\_;rw [hz];have he:IsEnum ((s.heap.push { cls:=.type "tuple_iterator",data:=.fields #[.ref l,.int 0 0] }).push { cls:=.type "enumerate",data:=.fields #[.none,.bool false,.ref s.heap.objs.size,rawInt 0,.none,.none] }) (s.heap.objs.size+1) s.heap.objs.size 0 .none:=by
  have:=ηG (s.heap.push { cls:=.type "tuple_iterator",data:=.fields #[.ref l,.int 0 0] }) (o:={ cls:=.type "enumerate",data:=.fields #[.none,.bool false,.ref s.heap.objs.size,rawInt 0,.none,.none] }) rfl;rw [hz] at this;exact this
 exact⟨⟨_,he,rfl⟩,h _ he ⟨_,ηH _ (ηG _ rfl),rfl,rfl⟩ (by rw [Heap.size_push,hz]) λb o x=>ηH _ (ηH _ x)⟩
theorem ye{P:Program}{w:World}{K:Frag}{es:List Expr}{kk:Nat}{ps:Pos}(a e it:Addr)(hei:e≠it):Turn P w K (.Tuple es kk ps) (JR λH xs=>SqL K H a xs) [e,it] e (λi h=>(∃ old,IsEnum h e it i old)/\h.IsListIter it a i) where
 mem:=by simp
 obj:=λi h st b hb=>by
  obtain⟨⟨old,he⟩,o,ho,hc,hd⟩:=st;rcases am.mp hb with z|z
  ·rw [z];exact⟨_,he,λv q=>by cases q⟩
  ·rw [aW.mp z];exact⟨o,ho,λv q=>by rw [hd] at q;cases q⟩
 keep:=λi h h' st k=>by
  obtain⟨⟨old,he⟩,o,ho,r⟩:=st;exact⟨⟨old,k e (by simp) _ he⟩,o,k it (by simp) o ho,r⟩
 item:=by
  intro X hP hw hK hc i pins s σ H E I hf st hg;subst hP hw hK;obtain⟨xs,x,hq,hx⟩:=hg;obtain⟨its,rv,p,hz⟩:=I.list hq;obtain⟨u,hu,ru⟩:=rv.get hx;obtain⟨⟨old,he⟩,hit⟩:=st;have hl:s.heap.IsList a its.toArray:=p.isList;have hne:a≠it:=λz=>by
   obtain⟨o,ho,c,_⟩:=id hl;obtain⟨o',ho',c',_⟩:=id hit;rw [z,ho'] at ho;cases ho;rw [c'] at c;revert c;decide
  have hae:e≠a:=λz=>by
   obtain⟨o,ho,c,_⟩:=id hl;rw [← z,he] at ho;cases ho;have c':Value.type "enumerate" = Value.type _:=c;revert c';decide
  have le:e<s.heap.objs.size:=ηL he;have li:it<s.heap.objs.size:=by obtain⟨o,ho,_⟩:=id hit;exact ηL ho
  refine wpAny_pyNext_enum_itemD (Draws.list (A:=X.A.in1) (I.ok.hd hc) it a hne its.toArray) he ⟨hit,hl⟩ (by have:=(aj.mp hu).1;simpa using this) hei (by simp [hei,hae]) λy h1 tk hP ho hst hT hsz hk=>?_;have hy:its[i]? = some y:=by simpa using hP
  rw [hu] at hy;cases hy;refine⟨_,rfl,wpAny_letOwnedTupleGo_enum ho λh2 he2 hs2=>?_⟩;obtain⟨I2,n2⟩:=v6 (t2:=tk+1) I hf le li ru hT hk hs2;refine⟨.ref s.heap.objs.size,_,I2,rfl,⟨_,x,rfl,I.hok.fresh (af _),rfl,λys hy=>by rw [I.list_inj hy hq];exact hx⟩,⟨⟨_,by simpa using he2⟩,?_⟩,n2⟩;obtain⟨o,ho1,r⟩:=hst.1;exact⟨o,(hs2.2 it hei.symm).trans ho1,r⟩
 done:=by
  intro X hP hw hK hc i pins s σ H E I hf st hg;subst hP hw hK;obtain⟨xs,hq,hx⟩:=hg;obtain⟨its,rv,p,hz⟩:=I.list hq;obtain⟨⟨old,he⟩,hit⟩:=st;have hl:s.heap.IsList a its.toArray:=p.isList;have hne:a≠it:=λz=>by
   obtain⟨o,ho,c,_⟩:=id hl;obtain⟨o',ho',c',_⟩:=id hit;rw [z,ho'] at ho;cases ho;rw [c'] at c;revert c;decide
  obtain⟨f0,f1,f2,f3,f4,f5⟩:=hf it (by simp);have le:=rv.length;refine wpAny_pyNext_enum_end (I.ok.hd hc) he hit hl (by simp;omega) λh' eb=>⟨rfl,I.turned (t':=s.toks) (λb o hb e=>eb b o hb e) f0 f1 f3 f4 f5⟩
 self:=λ_ _ _ _ _ st h=>by
  obtain⟨⟨old,he⟩,_⟩:=st;exact wpAny_pyIter_enum he h
theorem yc{P:Program}{w:World}{K:Frag}{es:List Expr}{kk:Nat}{ps:Pos}(a e it:Addr)(hei:e≠it):Turn P w K (.Tuple es kk ps) (JR λH xs=>SqT K H a xs) [e,it] e (λi h=>(∃ old,IsEnum h e it i old)/\h.IsTupleIter it a i) where
 mem:=by simp
 obj:=λi h st b hb=>by
  obtain⟨⟨old,he⟩,o,ho,hc,hd⟩:=st;rcases am.mp hb with z|z
  ·rw [z];exact⟨_,he,λv q=>by cases q⟩
  ·rw [aW.mp z];exact⟨o,ho,λv q=>by rw [hd] at q;cases q⟩
 keep:=λi h h' st k=>by
  obtain⟨⟨old,he⟩,o,ho,r⟩:=st;exact⟨⟨old,k e (by simp) _ he⟩,o,k it (by simp) o ho,r⟩
 item:=by
  intro X hP hw hK hc i pins s σ H E I hf st hg;subst hP hw hK;obtain⟨xs,x,hq,hx⟩:=hg;obtain⟨its,rv,p,hz⟩:=I.tuple hq;obtain⟨u,hu,ru⟩:=rv.get hx;obtain⟨⟨old,he⟩,hit⟩:=st;have hl:s.heap.IsTuple a its.toArray:=p;have hne:a≠it:=λz=>by
   obtain⟨o,ho,c,_⟩:=id hl;obtain⟨o',ho',c',_⟩:=id hit;rw [z,ho'] at ho;cases ho;rw [c'] at c;revert c;decide
  have hae:e≠a:=λz=>by
   obtain⟨o,ho,c,_⟩:=id hl;rw [← z,he] at ho;cases ho;have c':Value.type "enumerate" = Value.type _:=c;revert c';decide
  have le:e<s.heap.objs.size:=ηL he;have li:it<s.heap.objs.size:=by obtain⟨o,ho,_⟩:=id hit;exact ηL ho
  refine wpAny_pyNext_enum_itemD (Hk (A:=X.A.in1) (I.ok.hd hc) it a hne its.toArray) he ⟨hit,hl⟩ (by have:=(aj.mp hu).1;simpa using this) hei (by simp [hei,hae]) λy h1 tk hP ho hst hT hsz hk=>?_;have hy:its[i]? = some y:=by simpa using hP
  rw [hu] at hy;cases hy;refine⟨_,rfl,wpAny_letOwnedTupleGo_enum ho λh2 he2 hs2=>?_⟩;obtain⟨I2,n2⟩:=v6 (t2:=tk+1) I hf le li ru hT hk hs2;refine⟨.ref s.heap.objs.size,_,I2,rfl,⟨_,x,rfl,I.hok.fresh (af _),rfl,λys hy=>by rw [I.tuple_inj hy hq];exact hx⟩,⟨⟨_,by simpa using he2⟩,?_⟩,n2⟩;obtain⟨o,ho1,r⟩:=hst.1;exact⟨o,(hs2.2 it hei.symm).trans ho1,r⟩
 done:=by
  intro X hP hw hK hc i pins s σ H E I hf st hg;subst hP hw hK;obtain⟨xs,hq,hx⟩:=hg;obtain⟨its,rv,p,hz⟩:=I.tuple hq;obtain⟨⟨old,he⟩,hit⟩:=st;have hl:s.heap.IsTuple a its.toArray:=p;have hne:a≠it:=λz=>by
   obtain⟨o,ho,c,_⟩:=id hl;obtain⟨o',ho',c',_⟩:=id hit;rw [z,ho'] at ho;cases ho;rw [c'] at c;revert c;decide
  obtain⟨f0,f1,f2,f3,f4,f5⟩:=hf it (by simp);have le:=rv.length;refine AZ (I.ok.hd hc) he hit hl (by simp;omega) λh' eb=>⟨rfl,I.turned (t':=s.toks) (λb o hb e=>eb b o hb e) f0 f1 f3 f4 f5⟩
 self:=λ_ _ _ _ _ st h=>by
  obtain⟨⟨old,he⟩,_⟩:=st;exact wpAny_pyIter_enum he h
def IY(K:Frag)(ta:TA):TI:=λσ H R=>ta σ H λvs H1=>∃ a,vs=[.ref a]/\(((∃ xs,SqL K H1 a xs)/\R (JR λH xs=>SqL K H a xs) H1)\/((∃ xs,SqT K H1 a xs)/\R (JR λH xs=>SqT K H a xs) H1))
theorem vA:bootBuiltins "enumerate" = some (.type "enumerate"):=by decide +kernel
theorem D4{X:Cx}(K:Frag){es:List Expr}{kk:Nat}{ps:Pos}{a:Expr}{ta:TA}{p pos:Pos}(hg:Gl X "enumerate")(hm:X.mg "enumerate" = none)(ha:PA X [a] ta)(hK:X.K=K:=by rfl)(hs:starEach [a] X.env=[(false,eval a X.env)]:=by rfl):PI X (.Tuple es kk ps) (.Call (.Name "enumerate" p) [a] [] pos) (IY K ta):=by
 subst hK;intro pins s σ H R I h;refine Call_ (rZ I hg hm vA (PyProof.Rows.callWith_type1 (q8 (ha pos pins s σ H _ I h) λus s1 ⟨vs,H1,I1,r1,q1⟩=>?_) hs rfl));obtain⟨l,e,q1⟩:=q1;subst e;obtain⟨u,rfl,ru⟩:=Vals.one r1;cases ru;have fp1:∀{h':Heap},∀ b∈[s1.heap.objs.size+1,s1.heap.objs.size],sU X pins H1 b:=λb hb=>by
  have hb':s1.heap.objs.size<=b:=by
   rcases am.mp hb with z|z
   ·omega
   ·rw [aW.mp z];exact af _
  exact I1.fpOk hb' (I1.hok.fresh hb')
 rcases q1 with⟨⟨xs,hq⟩,q⟩|⟨⟨xs,hq⟩,q⟩
 ·obtain⟨its,rv,pl,hz⟩:=I1.list hq;refine call_enumerate_list pl.isList λh' he hit hsz hk=>?_;refine wpAny_pyIter_enum he ?_;exact⟨_,[s1.heap.objs.size+1,s1.heap.objs.size],_,_,H1,rfl,I1.kept (t':=s1.toks) hk,ye l _ _ (Nat.succ_ne_self _),⟨⟨_,he⟩,hit⟩,fp1 (h':=h'),q⟩
 ·obtain⟨its,rv,pl,hz⟩:=I1.tuple hq;refine yK pl λh' he hit hsz hk=>?_;refine wpAny_pyIter_enum he ?_;exact⟨_,[s1.heap.objs.size+1,s1.heap.objs.size],_,_,H1,rfl,I1.kept (t':=s1.toks) hk,yc l _ _ (Nat.succ_ne_self _),⟨⟨_,he⟩,hit⟩,fp1 (h':=h'),q⟩
theorem Kz{X:Cx}(K:Frag)(hK:X.K=K:=by rfl):JA X (λo i H Q=>∃ p xs v,∃ j:Nat,o = .ref p/\i = .int j/\SqL K H p xs/\xs[j]? = some v/\Q v H):=by
 subst hK;intro pins s σ H o i ov iv Q I ro ri h;obtain⟨p,xs,v,j,rfl,rfl,hq,hv,q⟩:=h;cases ro;obtain⟨t,rfl⟩:=ri;obtain⟨its,r,pl,hz⟩:=I.list hq;obtain⟨w,ew,rw'⟩:=r.get hv;have hl:=(aj.mp hv).1;have hn:=sx;exact wpAny_getItem_list pl.isList (by omega) (by omega) (by rw [aS];simpa using ew) ⟨v,H,I,rw',q⟩
end L2
namespace HT
open PySem PyProof.Rows
variable{prog:Program}{w:World}{A:Around}{E:Value->Shared->Prop}{s:Shared}
theorem tN{t sl:Addr}{items:Array Value}{vl vu:Value}{lo hi:Option Int}{Q:Value->Shared->Prop}(ht:IsTup s.heap t items)(hs:s.heap.IsSliceOf sl vl vu .none)(pl:IsPart vl lo)(pu:IsPart vu hi)
  (hw:rF items.size 0 lo=0/\rF items.size items.size hi=items.size) (h:Q (.ref t) s):wpAny (model prog w) A (getItem (.ref t) (.ref sl)) Q E s:=by
 obtain⟨os,hos,hcs,hds⟩:=id hs;have hTs:s.TypeIs (.ref sl) "slice" := ⟨os,hos,hcs⟩;unfold getItem;try with_reducible refine wpAny_holding ?_
 first|refine ηB (ηP ?_)|skip
 refine ηB (wpAny_sequenceKey ht.typeIs (by decide) ?_);refine ηB (wpAny_callSpecial?_slot (name:=Str.ofString "__getitem__") ht.typeIs PyProof.Rows.slot_tuple_getitem (wpAny_call_entry PyProof.Rows.slot_tuple_getitem ht.typeIs entry_tuple_getitem ?_ (args_tuple_getitem _ _)));show wpAny _ _ (Builtin.Tuple.tupleItemsOf (.ref t) >>= _) _ _ s;refine ηB (tupleItemsOf_ ht ?_);refine ηB (wpAny_typeOf hTs ?_);rw [if_pos (by decide)];refine ηB (sB hs pl pu ?_);have hyes:(((rF items.size 0 lo:Nat):Int) == 0 && (1:Int) == 1 && (rF items.size items.size hi-rF items.size 0 lo) == items.size)=true:=by
  rw [hw.1,hw.2];simp
 show wpAny _ _ (if (((rF items.size 0 lo:Nat):Int) == 0 && (1:Int) == 1 && (rF items.size items.size hi-rF items.size 0 lo) == items.size)=true then _ else _) _ _ s;rw [if_pos hyes];refine ηB (m:=Builtin.Tuple.tupleIsExact _) ?_;unfold Builtin.Tuple.tupleIsExact;refine ηB (wpAny_typeOf ht.typeIs (ηP ?_));rw [if_pos (by decide)];first
  | exact ηB (wpAny_rule (ηB (ηP (ηP ⟨_,rfl,ηP h⟩))))
  | exact ηB (wpAny_rule (ηP ⟨_,rfl,ηP h⟩))
  | exact ηB (wpAny_rule (ηB (ηP ⟨_,rfl,ηP h⟩)))
end HT
namespace Po
open L2
theorem EI{P:List Int}{f:Nat->Int}{B B':Int}(F:Fm P B)(h:∀ k,P.getD k 0*B'=f k*B):B.natAbs∣B'.natAbs:=by
 have q:=yN (c:=B'.natAbs) (d:=B.natAbs) P B.natAbs (dW _ _) λt ht=>by
  obtain⟨k,rfl⟩:=getD_mem ht;have e:=congrArg Int.natAbs (h k);rw [aO,aO] at e;rw [aT,e];exact dW _ _
 rw [F.gcd,dH] at q;exact q
theorem size{P:List Int}{f:Nat->Int}{B b:Int}(F:Fm P B)(hb:0<b)(h:∀ k,P.getD k 0*b=f k*B):B.natAbs<=b.natAbs/\∀ k,(P.getD k 0).natAbs<=(f k).natAbs:=by
 have d:B.natAbs<=b.natAbs:=ce (by omega) (EI F h);refine⟨d,λk=>?_⟩;have e:=congrArg Int.natAbs (h k);rw [aO,aO] at e;have:(P.getD k 0).natAbs*b.natAbs<=(f k).natAbs*b.natAbs:=by
  rw [e];exact ai _ d
 exact Nat.le_of_mul_le_mul_right this (by omega)
end Po
namespace Cv
open L2
def sm(F:Nat->Int):Nat->Int
 | 0=>0
 | n+1=>sm F n+F n
theorem qT{F G:Nat->Int}{n:Nat}(h:∀ j,j<n->F j=G j):sm F n=sm G n:=by
 induction n with
 | zero=>rfl
 | succ n ih=>rw [sm,sm,ih λj hj=>h j (by omega),h n (by omega)]
theorem sG{F:Nat->Int}{n m:Nat}(h:n<=m)(z:∀ j,n<=j->j<m->F j=0):sm F m=sm F n:=by
 induction m with
 | zero=>rw [show n=0 by omega]
 | succ m ih =>
  rcases bK h with e|e
  ·rw [e]
  ·rw [sm,ih (by omega) λj a b=>z j a (by omega),z m (by omega) (by omega),bQ]
def cv(f g:Nat->Int)(k:Nat):Int:=sm (λj=>f j*g (k-j)) (k+1)
def tm(f g:Nat->Int)(i m:Nat):Int:=sm (λj=>if j<=m then f j*g (m-j) else 0) i
theorem sW{f g:Nat->Int}{n m:Nat}(hf:∀ j,n<=j->f j=0):tm f g n m=cv f g m:=by
 unfold tm cv;have e1:sm (λj=>if j<=m then f j*g (m-j) else 0) (max n (m+1))=sm (λj=>if j<=m then f j*g (m-j) else 0) n:=sG (by omega) λj a b=>by
  show (if j<=m then f j*g (m-j) else 0)=0;rw [hf j a,aI];split <;> rfl
 have e2:sm (λj=>if j<=m then f j*g (m-j) else 0) (max n (m+1))=sm (λj=>if j<=m then f j*g (m-j) else 0) (m+1):=sG (by omega) λj a b=>if_neg (by omega);rw [← e1,e2];exact qT λj hj=>if_pos (by omega)
theorem wp(f g:Nat->Int)(i m:Nat):tm f g (i+1) m=tm f g i m+(if i<=m then f i*g (m-i) else 0):=rfl
theorem rH{f g:Nat->Int}{a b k:Nat}(hf:∀ j,a<=j->f j=0)(hg:∀ j,b<=j->g j=0)(h:a+b-1<=k):cv f g k=0:=by
 unfold cv;have:sm (λj=>f j*g (k-j)) (k+1)=sm (λj=>f j*g (k-j)) 0:=sG (aB _) λj _ hj=>by
  show f j*g (k-j)=0;rcases ar j a with c|c
  ·rw [hg (k-j) (by omega),bJ]
  ·rw [hf j c,aI]
 rw [this];rfl
theorem uI{f g:Nat->Int}{k:Nat}(h:∀ j,f j=0):cv f g k=0:=by
 unfold cv;have:sm (λj=>f j*g (k-j)) (k+1)=sm (λj=>f j*g (k-j)) 0:=sG (aB _) λj _ _=>by
  show f j*g (k-j)=0;rw [h j,aI]
 rw [this];rfl
theorem C4{f g:Nat->Int}{k:Nat}(h:∀ j,g j=0):cv f g k=0:=by
 unfold cv;have:sm (λj=>f j*g (k-j)) (k+1)=sm (λj=>f j*g (k-j)) 0:=sG (aB _) λj _ _=>by
  show f j*g (k-j)=0;rw [h,bJ]
 rw [this];rfl
theorem Bw{F:Nat->Int}{n b:Nat}:∀{i:Nat},i<=2^b->(∀ j,j<i->Lt2 n (F j))->(sm F i).natAbs<=i*2^n
 | 0,_,_=>by simp [sm]
 | i+1,h,hF=>by
  have ih:=Bw (b:=b) (i:=i) (by omega) λj hj=>hF j (by omega);have h1:=hF i (by omega);unfold Lt2 at h1;rw [sm,a9];omega
theorem Af{f g:Nat->Int}{n m k b:Nat}(hf:∀ j,Lt2 n (f j))(hg:∀ j,Lt2 m (g j))(hk:k+1<2^b):Lt2 (n+m+b) (cv f g k):=by
 have:=Bw (F:=λj=>f j*g (k-j)) (n:=n+m) (b:=b) (i:=k+1) (by omega) λj _=>(hf j).mul (hg _);unfold Lt2 cv;rw [dG 2 (n+m) b];have p:0<2^(n+m):=bG (by decide);refine bE this ?_;rw [aT];exact fB hk p
theorem rc{f g f' g':Nat->Int}{k:Nat}(h:∀ j,f j=f' j)(h':∀ j,g j=g' j):cv f g k=cv f' g' k:=qT λj _=>by rw [h,h']
theorem sH(F:Nat->Int)(c:Int)(n:Nat):sm (λj=>F j*c) n=sm F n*c:=by
 induction n with
 | zero=>simp [sm]
 | succ n ih=>rw [sm,sm,ih,eK]
theorem sd(f g:Nat->Int)(c:Int)(k:Nat):cv (λj=>f j*c) g k=cv f g k*c:=by
 unfold cv;rw [← sH];exact qT λj _=>by grind
theorem tI(F:Nat->Int)(n:Nat):sm F (n+1)=F 0+sm (λj=>F (j+1)) n:=by
 induction n with
 | zero=>simp [sm]
 | succ n ih=>rw [sm,ih,sm];omega
theorem Bv(F:Nat->Int)(n:Nat):sm F n=sm (λj=>F (n-1-j)) n:=by
 induction n generalizing F with
 | zero=>rfl
 | succ n ih =>
  rw [tI (λj=>F (n+1-1-j)) n,sm,ih F];have:sm (λj=>F (n-1-j)) n=sm (λj=>F (n+1-1-(j+1))) n:=qT λj hj=>by rw [show n+1-1-(j+1)=n-1-j by omega]
  rw [this,show n+1-1-0=n by omega];omega
theorem so(f g:Nat->Int)(k:Nat):cv f g k=cv g f k:=by
 unfold cv;rw [Bv];refine qT λj hj=>?_;rw [show k+1-1-j=k-j by omega,show k-(k-j)=j by omega,bh]
def fn(P:List Int):Nat->Int:=λj=>P.getD j 0
theorem qJ{P:List Int}{j:Nat}(h:P.length<=j):fn P j=0:=by
 unfold fn;rw [ac,bg h];rfl
theorem GJ:Po.Fm [1] 1:=⟨by decide,.inr (by decide),by decide⟩
end Cv
namespace RV
open PySem PyProof.Rows
theorem xu:Manifest.owners.lookup (String.ofList ['d','e','s','r','e','v','e','r'].reverse)=some Manifest.sig_reversed:=by kernel_rfl
theorem slot_next:Slot "reversed" "__next__" "reversed.__next__" := .of (owner := "reversed") (n := "__next__") (by rw [typeLookup_type,builtinLookup_eq_fast];kernel_rfl) (by decide +kernel) (by decide +kernel) (by decide +kernel) (by first|exact .inl (by decide +kernel)|exact .inr (by decide +kernel)) (by rw [isSubtype_type];kernel_rfl)
theorem vQ:Slot "reversed" "__iter__" "reversed.__iter__" := .of (owner := "reversed") (n := "__iter__") (by rw [typeLookup_type,builtinLookup_eq_fast];kernel_rfl) (by decide +kernel) (by decide +kernel) (by decide +kernel) (by first|exact .inl (by decide +kernel)|exact .inr (by decide +kernel)) (by rw [isSubtype_type];kernel_rfl)
theorem As:Slot "reversed" "__init__" "object.__init__" := .of (owner := "object") (n := "__init__") (by rw [typeLookup_type,builtinLookup_eq_fast];kernel_rfl) (by decide +kernel) (by decide +kernel) (by decide +kernel) (by first|exact .inl (by decide +kernel)|exact .inr (by decide +kernel)) (by rw [isSubtype_type];kernel_rfl)
theorem vn:entryFor table "reversed.__next__" = some Builtin.«reversed.__next__» := entryFor_of_tree (by kernel_rfl)
theorem yL:entryFor table "reversed.__iter__" = some Builtin.«dict_keyiterator.__iter__» := entryFor_alias (id' := "dict_keyiterator.__iter__") (by kernel_rfl) (by first|rfl|decide +kernel|(unfold String.splitOn;simp +decide [String.splitOnAux])) (by decide +kernel) (by kernel_rfl)
theorem wf(a:Value):argsOk "reversed.__next__" ⟨[a],[]⟩:=by
 unfold argsOk;rw [signature?_of (id := "reversed.__next__") (n:=['_','_','t','x','e','n','_','_']) (o:=['d','e','s','r','e','v','e','r']) (by kernel_rfl) xu];kernel_rfl
theorem Bb(a:Value):argsOk "reversed.__iter__" ⟨[a],[]⟩:=by
 unfold argsOk;rw [signature?_of (id := "reversed.__iter__") (n:=['_','_','r','e','t','i','_','_']) (o:=['d','e','s','r','e','v','e','r']) (by kernel_rfl) xu];kernel_rfl
theorem GO:typeLookup (.type "tuple") "__reversed__" = pure none:=by rw [typeLookup_type,builtinLookup_eq_fast];kernel_rfl
theorem Ho:TypeCalled "reversed" "reversed.__new__" "object.__init__" := ⟨by decide +kernel,by decide +kernel,⟨_,_,F.mro_reversed⟩,F.made_reversed,by decide +kernel,by rw [isSubtype_type];kernel_rfl,As⟩
theorem Em:isSubtype (.type "tuple") (.type "dict")=pure false:=by rw [isSubtype_type];kernel_rfl
section
variable{prog:Program}{w:World}{A:Around}{E:Value->Shared->Prop}{s:Shared}
theorem AL(t:Addr)(items:Array Value)(n:Nat)(dct:Option Addr)(sl:Array (Option Value)) :
  Meets (Builtin.«reversed.__new__» ⟨[.type "reversed",.ref t],[]⟩) (λ_ R s=>s.heap.get? t=some { cls:=.type "tuple",dict:=dct,data:=.seq items n,slots:=sl }/\(items.size:Int)<2^63 /\
   ∀ tk,R (.ok (.ret (.ref s.heap.objs.size))) { s with heap:=s.heap.push { cls:=.type "reversed",data:=.fields #[.ref t,rawInt ((items.size:Int)-1)] },toks:=tk }) :=
 .of_wp λprog w A R s h=>by
  obtain⟨ht,hsz,h⟩:=h;have hT:s.heap.IsTuple t items:=⟨_,ht,rfl,n,rfl⟩;unfold Builtin.«reversed.__new__»;refine ηB (wpAny_of_eq (newClass_reversed _) ?_);try dsimp only
  refine ηB (wpAny_of_eq (a:=()) (by first|rfl|kernel_rfl) ?_);refine ηB (wpAny_of_eq (a:=()) (by first|rfl|kernel_rfl) ?_);try dsimp only
  refine ηB (wpAny_specialOf hT.typeIs GO ?_);try dsimp only
  refine ηB ?_;show wpAny _ _ (isInstance (.ref t) (.type "dict") >>= _) _ _ s;refine ηB (wpAny_isInstance hT.typeIs Em ?_);try dsimp only
  show wpAny _ _ (if false=true then _ else _) _ _ s;rw [if_neg aA];refine ηB (wpAny_specialOf hT.typeIs PyProof.Rows.slot_tuple_getitem.lookup ?_);try dsimp only
  show wpAny _ _ (if _=true then _ else _) _ _ s;rw [if_pos (by decide)];refine ηP ?_;show wpAny _ _ (if (!true)=true then _ else _) _ _ s;rw [if_neg (by decide)];refine ηB (PyProof.Rows.len_tuple hT hsz ?_);refine ηB (m:=asInt? _) (ηP ?_);try dsimp only
  refine ηB ?_;show wpAny _ _ (newObj (.type "reversed") (.fields #[.ref t,rawInt ((items.size:Int)-1)])) _ _ _;refine wpAny_newObj_type ?_ (by size_fits);exact ηP ⟨_,rfl,h _⟩
theorem Di{t:Addr}{items:Array Value}{Q:Value->Shared->Prop}(hT:s.heap.IsTuple t items)(hsz:(items.size:Int)<2^63)
  (h:∀ tk,Q (.ref s.heap.objs.size) { s with heap:=s.heap.push { cls:=.type "reversed",data:=.fields #[.ref t,rawInt ((items.size:Int)-1)] },toks:=tk }):wpAny (model prog w) A (call (.type "reversed") [.ref t]) Q E s:=by
 obtain⟨⟨c,dct,dt,sl⟩,hl,hc,n,hd⟩:=hT;have hc':c = .type "tuple" := hc;have hd':dt = .seq items n:=hd;subst hc' hd';refine callType_new Ho (by decide) (F.typeCall_reversed_1 _) (F.newCall_reversed_1 _) (λobj=>F.args_object_init_2 obj _) F.entry_reversed_new (AL t items n dct sl) ⟨hl,hsz,λtk=>?_⟩;exact⟨⟨_,ηG _ rfl,rfl⟩,h tk⟩
def Is(h:Heap)(a t:Addr)(i:Int):Prop:=∃ o,h.get? a=some o/\o.cls = .type "reversed" /\ o.data = .fields #[.ref t,rawInt i]
theorem Is.ty{a t:Addr}{i:Int}(x:Is s.heap a t i):s.TypeIs (.ref a) "reversed" := let ⟨o,ho,hc,_⟩:=x;⟨o,ho,hc⟩
theorem vX{a t:Addr}{i:Int}{Q:Value->Shared->Prop}(x:Is s.heap a t i)(h:Q (.ref a) s):wpAny (model prog w) A (pyIter (.ref a)) Q E s:=by
 refine wpAny_pyIter_slot x.ty vQ (wpAny_call_entry vQ x.ty yL ?_ (Bb _));show wpAny _ _ (ret (.ref a)) _ _ s;exact ηP ⟨_,rfl, "reversed",_,x.ty,slot_next.lookup,h⟩
theorem AK{it t:Addr}{i:Nat}{items:Array Value}{x:Value}{Q:Option Value->Shared->Prop}(hit:Is s.heap it t (i:Int))(hT:s.heap.IsTuple t items)(hx:items[i]? = some x)(hsz:(items.size:Int)<2^63)
  (hQ:∀ h' tk,Is h' it t ((i:Int)-1)->Heap.SameBut it s.heap h'->Q (some x) { s with heap:=h',toks:=tk }):wpAny (model prog w) A (pyNext (.ref it)) Q E s:=by
 obtain⟨o,ho,hc,hd⟩:=id hit;unfold pyNext;refine ηB (wpAny_attempt (wpAny_callSpecial?_slot (name:=Str.ofString "__next__") hit.ty slot_next (wpAny_call_entry slot_next hit.ty vn ?_ (wf _))));unfold Builtin.«reversed.__next__»;refine ηB (wpAny_of_eq (a:=(Value.ref it,[])) rfl ?_);try dsimp only
 refine ηB (wpAny_field ho hd (x:=.ref t) rfl ?_);refine ηB (wpAny_field ho hd (x:=rawInt (i:Int)) rfl ?_);try dsimp only [rawInt]
 rw [if_neg (by omega)];refine ηB (wpAny_specialOf hT.typeIs PyProof.Rows.slot_tuple_getitem.lookup ?_);show wpAny _ _ (if false=true then _ else _) _ _ s;rw [if_neg aA];refine ηB (wpAny_mkInt ?_);have hlt:i<items.size:=(Array.getElem?_eq_some_iff.mp hx).1;refine ηB (wpAny_attempt ?_);refine PyProof.Rows.getItem_tuple (j:=i) (x:=x) hT (by omega) (by omega) (by unfold seqIndex?;simp;omega) hx ?_;try dsimp only
 refine ηB (wpAny_field (s:={ s with toks:=s.toks+1 }) ho hd (x:=rawInt (i:Int)) rfl ?_);try dsimp only [rawInt]
 refine ηB (wpAny_setField (s:={ s with toks:=s.toks+1 }) ho hd (by simp) (ηP ⟨x,rfl,ηP (hQ _ _ ?_ (Heap.SameBut.update ..))⟩));exact⟨_,Heap.get?_update_self _ ho (Obj.isFreed_of_fields (Obj.data_mapFields hd _)),(Obj.cls_mapFields ..).trans hc,by rw [Obj.data_mapFields hd];simp [rawInt]⟩
theorem Co{it t:Addr}{Q:Option Value->Shared->Prop}(hh:A.handled=none)(hit:Is s.heap it t (-1))(hQ:∀ h',Heap.ExtBut it s.heap h'->Q none { s with heap:=h' }):wpAny (model prog w) A (pyNext (.ref it)) Q E s:=by
 obtain⟨o,ho,hc,hd⟩:=id hit;unfold pyNext;refine ηB (wpAny_attempt (wpAny_callSpecial?_slot (name:=Str.ofString "__next__") hit.ty slot_next (wpAny_call_entry slot_next hit.ty vn ?_ (wf _))));unfold Builtin.«reversed.__next__»;refine ηB (wpAny_of_eq (a:=(Value.ref it,[])) rfl ?_);try dsimp only
 refine ηB (wpAny_field ho hd (x:=.ref t) rfl ?_);refine ηB (wpAny_field ho hd (x:=rawInt (-1)) rfl ?_);try dsimp only [rawInt]
 rw [if_pos (by decide)];refine ηB (wpAny_rule ?_);refine ηB ?_;show wpAny _ _ (setField (.ref it) 1 (rawInt (-1)) >>= _) _ _ s;refine ηB (wpAny_setField ho hd (by simp) ?_);have ho':=Heap.get?_update_self (h:=s.heap) (Obj.mapFields (·.setIfInBounds 1 (rawInt (-1)))) ho (Obj.isFreed_of_fields (Obj.data_mapFields hd _));refine wpAny_setField ho' (Obj.data_mapFields hd _) (by simp) ?_;refine ηB ?_;unfold Builtin.SmallTypes.stopIteration;refine ηB ?_;simp only [newExc,newTuple];refine ηB (wpAny_newObj_type ?_ (by size_fits));refine ηB (m:=firstArgMember _ _) (wpAny_of_eq (a:=Value.none) (by first|rfl|(simp only [firstArgMember];rfl)) ?_);refine wpAny_newObj_type ?_ (by size_fits);simp only [raiseNew];refine ηB (wpAny_handled ?_);first|rw [show A.in1.handled=none from hh]|rw [hh]
 refine ηB (ηP (wpAny_throw ?_));refine ηB (wpAny_isInstance (T := "StopIteration") (b:=true) ⟨_,ηG _ rfl,rfl⟩ isSubtype_stop ?_);refine ηP (hQ _ λb o hb e=>?_);refine ηH _ (ηH _ ?_);exact (Heap.SameBut.update ..).extBut b o hb ((Heap.SameBut.update ..).extBut b o hb e)
end
end RV
namespace L2
open PySem PySem.Spec PyProof.Rows
theorem Bn{P:Program}{w:World}{K:Frag}{tg:Expr}(n:Nat)(a it:Addr):Turn P w K tg (⟨λi H=>i<n/\∃ xs x,SqT K H a xs/\xs.length=n/\xs.reverse[i]? = some x,λi H x H'=>H'=H/\∀ xs,SqT K H a xs->xs.reverse[i]? = some x,λi H=>i=n⟩:It) [it] it (λi h=>RV.Is h it a ((n:Int)-1-(i:Int))) where
 mem:=by simp
 obj:=λi h st b hb=>by
  have e:b=it:=by simpa using hb
  subst e;obtain⟨o,e,c,d⟩:=st;exact⟨o,e,λv z=>by rw [d] at z;cases z⟩
 keep:=λi h h' st k=>by
  obtain⟨o,e,r⟩:=st;exact⟨o,k it (by simp) o e,r⟩
 item:=by
  intro X hP hw hK hc i pins s σ H E I hf st hg;subst hP hw hK;obtain⟨hlt,xs,x,hq,hn,hx⟩:=hg;obtain⟨its,rv,p,hz⟩:=I.tuple hq;have hlen:=rv.length;rw [bu (by omega)] at hx;obtain⟨u,hu,ru⟩:=rv.get hx;obtain⟨f0,f1,f2,f3,f4,f5⟩:=hf it (by simp);have e0:(n:Int)-1-(i:Int)=((xs.length-1-i:Nat):Int):=by omega
  have st':RV.Is s.heap it a ((xs.length-1-i:Nat):Int):=by rw [← e0];exact st
  have hn63:=sx;refine RV.AK (i:=xs.length-1-i) st' (show s.heap.IsTuple a its.toArray from p) (x:=u) (by simpa using hu) (by rw [ak];omega) λh' tk st2 sb=>?_;have I1:Inv X pins σ H { s with heap:=h',toks:=tk }:=I.turned (t':=tk) (λb o hb e=>(sb.2 b hb).trans e) f0 f1 f3 f4 f5;obtain⟨o,e,c,d⟩:=id st2;refine⟨u,rfl,xG (s:={ s with heap:=h',toks:=tk }) e c d (by decide) ⟨x,H,I1,ru,⟨rfl,λys hy=>?_⟩,?_,λb hb=>(hf b hb).1⟩⟩
  ·rw [I.tuple_inj hy hq,bu (by omega)];exact hx
  ·show RV.Is h' it a ((n:Int)-1-((i+1:Nat):Int));rw [show (n:Int)-1-((i+1:Nat):Int)=((xs.length-1-i:Nat):Int)-1 by omega];exact st2
 done:=by
  intro X hP hw hK hc i pins s σ H E I hf st hg;subst hP hw hK;have hg':i=n:=hg;subst hg';obtain⟨f0,f1,f2,f3,f4,f5⟩:=hf it (by simp);have st':RV.Is s.heap it a (-1):=by
   have e:(i:Int)-1-(i:Int) = -1:=by omega
   rw [← e];exact st
  exact RV.Co (I.ok.hd hc) st' λh' eb=>⟨rfl,I.turned (t':=s.toks) (λb o hb e=>eb b o hb e) f0 f1 f3 f4 f5⟩
 self:=λ_ _ _ _ _ st h=>RV.vX st h
end L2
namespace Hv
open L2
def hv(F:Nat->Int)(t u:Int):Nat->Int
 | 0=>0
 | n+1=>(hv F t u n+F n*t^n)*u
theorem rA{r:Nat}{u:Int}(h:Lt2 r u):∀ i,Lt2 (r*i+1) (u^i)
 | 0=>by rw [aU];unfold Lt2;exact aD (show (1:Int).natAbs<2^1 by decide) (b9 (by decide) (by omega))
 | i+1=>by
  rw [aV];exact ((rA h i).mul h).mono (by rw [bC];omega)
theorem pow_pos{u:Int}(h:0<u):∀ i:Nat,0<u^i
 | 0=>by rw [aU];decide
 | i+1=>by rw [aV];exact az (pow_pos h i) h
theorem tj{F G:Nat->Int}{t u:Int}{n:Nat}(h:∀ j,j<n->F j=G j):hv F t u n=hv G t u n:=by
 induction n with
 | zero=>rfl
 | succ n ih=>rw [hv,hv,ih λj hj=>h j (by omega),h n (by omega)]
theorem v0{F:Nat->Int}{t u:Int}{n:Nat}(h:∀ k,n<=k->F k=0):∀ j,hv F t u (n+j)=hv F t u n*u^j
 | 0=>by rw [Nat.add_zero,aU,bH]
 | j+1=>by rw [← dP,hv,v0 h j,h (n+j) (by omega),aI,bQ,aV,bI]
theorem wQ(F G:Nat->Int)(t u:Int):∀ n,hv (λk=>F k+G k) t u n=hv F t u n+hv G t u n
 | 0=>rfl
 | n+1=>by rw [hv,hv,hv,wQ F G t u n];grind
theorem tW(F:Nat->Int)(c t u:Int):∀ n,hv (λk=>F k*c) t u n=hv F t u n*c
 | 0=>by simp [hv]
 | n+1=>by rw [hv,hv,tW F c t u n];grind
theorem wP{F:Nat->Int}{t u:Int}{n:Nat}(h:∀ j,j<n->F j=0):hv F t u n=0:=by
 induction n with
 | zero=>rfl
 | succ n ih=>rw [hv,ih λj hj=>h j (by omega),h n (by omega)];simp
theorem xD(g:Nat->Int)(c t u:Int)(i:Nat):∀ k,hv (λm=>if i<=m then c*g (m-i) else 0) t u (i+k)=c*t^i*hv g t u k
 | 0=>by
  rw [Nat.add_zero,wP λj hj=>if_neg (by omega)];simp [hv]
 | k+1=>by
  rw [← dP,hv,xD g c t u i k,if_pos (by omega),show i+k-i=k by omega,hv,cy];grind
theorem Ft(f g:Nat->Int)(t u:Int){m:Nat}(hg:∀ k,m<=k->g k=0)(n:Nat):∀ i,i<=n->hv (λk=>Cv.tm f g i k) t u (n+m)=hv f t u i*u^(n-i)*hv g t u m
 | 0,_=>by
  rw [wP (F:=λk=>Cv.tm f g 0 k) λj _=>rfl];simp [hv]
 | i+1,h=>by
  have ih:=Ft f g t u hg n i (by omega);have e:hv (λk=>Cv.tm f g (i+1) k) t u (n+m)=hv (λk=>Cv.tm f g i k+(if i<=k then f i*g (k-i) else 0)) t u (n+m):=tj λj _=>rfl;rw [e,wQ,ih];obtain⟨d,rfl⟩:∃ d,n=i+1+d:=⟨n-(i+1),by omega⟩;have e2:i+1+d+m=i+(m+(d+1)):=by omega
  rw [e2,xD,v0 hg (d+1),hv,show i+1+d-i=d+1 by omega,show i+1+d-(i+1)=d by omega,aV];grind
theorem Fw{f g:Nat->Int}{t u:Int}{n m:Nat}(hf:∀ k,n<=k->f k=0)(hg:∀ k,m<=k->g k=0):hv (Cv.cv f g) t u (n+m)=hv f t u n*hv g t u m:=by
 have e:=Ft f g t u hg n n (af _);rw [bc,aU,bH] at e;rw [← e];exact tj λj _=>(Cv.sW hf).symm
end Hv
namespace Pc
open L2 Cv Hv
theorem Bx(F:Nat->Int)(i:Nat):∀ n,sm F (i+n)=sm F i+sm (λj=>F (i+j)) n
 | 0=>by simp [sm]
 | n+1=>by rw [← dP,sm,Bx F i n,sm];omega
theorem tR(F G:Nat->Int):∀ n,sm (λj=>F j+G j) n=sm F n+sm G n
 | 0=>rfl
 | n+1=>by rw [sm,sm,sm,tR F G n];omega
theorem xP(f g h:Nat->Int)(k:Nat):cv (λj=>f j+g j) h k=cv f h k+cv g h k:=by
 unfold cv;rw [← tR];exact qT λj _=>by rw [eK]
theorem C9(f g h:Nat->Int)(k:Nat):cv h (λj=>f j+g j) k=cv h f k+cv h g k:=by
 unfold cv;rw [← tR];exact qT λj _=>by rw [Int.mul_add]
theorem C7(f g:Nat->Int)(c:Int)(k:Nat):cv f (λj=>g j*c) k=cv f g k*c:=by
 unfold cv;rw [← sH];exact qT λj _=>by grind
theorem xL(g h:Nat->Int)(c:Int)(i k:Nat):cv (λm=>if i<=m then c*g (m-i) else 0) h k=if i<=k then c*cv g h (k-i) else 0:=by
 unfold cv;by_cases hk:i<=k
 ·rw [if_pos hk];obtain⟨d,rfl⟩:∃ d,k=i+d:=⟨k-i,by omega⟩;rw [show i+d+1=i+(d+1) by omega,Bx];have e1:sm (λj=>(if i<=j then c*g (j-i) else 0)*h (i+d-j)) i=0:=by
   rw [sG (n:=0) (aB _) λj _ hj=>by show (if i<=j then _ else 0)*_=0;rw [if_neg (by omega),aI]];rfl
  rw [e1,bT,show i+d-i=d by omega,bh c,← sH];refine qT λj _=>?_;show (if i<=i+j then c*g (i+j-i) else 0)*h (i+d-(i+j))=g j*h (d-j)*c;rw [if_pos (by omega),show i+j-i=j by omega,show i+d-(i+j)=d-j by omega];grind
 ·rw [if_neg hk,sG (n:=0) (aB _) λj _ hj=>by show (if i<=j then _ else 0)*_=0;rw [if_neg (by omega),aI]];rfl
theorem FD(f g h:Nat->Int):∀(n k:Nat),cv (λm=>tm f g n m) h k=tm f (λm=>cv g h m) n k
 | 0,k=>by
  have:cv (λm=>tm f g 0 m) h k=0:=uI λj=>rfl;rw [this];rfl
 | n+1,k=>by
  rw [wp,← FD f g h n k,← xL g h (f n) n k,← xP];rfl
theorem ug{f g h:Nat->Int}{n:Nat}(hf:∀ k,n<=k->f k=0)(k:Nat):cv (λm=>cv f g m) h k=cv f (λm=>cv g h m) k:=by
 rw [← sW (g:=λm=>cv g h m) hf,← FD f g h n k];exact rc (λj=>(sW hf).symm) λ_=>rfl
def d0:Nat->Int:=λk=>if k=0 then 1 else 0
theorem xO(f:Nat->Int)(k:Nat):cv d0 f k=f k:=by
 have:tm d0 f 1 k=cv d0 f k:=sW λj hj=>by show (if j=0 then (1:Int) else 0)=0;rw [if_neg (by omega)]
 rw [← this];show 0+(if 0<=k then d0 0*f (k-0) else 0)=f k;rw [if_pos (aB _),bx];show 0+1*f k=f k;omega
def cp(g:Nat->Int):Nat->(Nat->Int)
 | 0=>d0
 | n+1=>λk=>cv (cp g n) g k
theorem tY{g:Nat->Int}{m:Nat}(hg:∀ k,m<=k->g k=0):∀(n k:Nat),n*m+1<=k->cp g n k=0
 | 0,k,h=>by show (if k=0 then (1:Int) else 0)=0;rw [if_neg (by omega)]
 | n+1,k,h=>rH (a:=n*m+1) (b:=m) (tY hg n) hg (by rw [a9] at h;omega)
def pc(F g:Nat->Int)(U:Int):Nat->(Nat->Int)
 | 0=>λ_=>0
 | n+1=>λk=>(pc F g U n k+F n*cp g n k)*U
theorem wF{F g:Nat->Int}{U:Int}{m:Nat}(hg:∀ k,m<=k->g k=0):∀(n k:Nat),n*m+1<=k->pc F g U n k=0
 | 0,_,_=>rfl
 | n+1,k,h=>by
  rw [a9] at h;show (pc F g U n k+F n*cp g n k)*U=0;rw [wF hg n k (by omega),tY hg n k (by omega)];simp
theorem CH{F g M:Nat->Int}{U:Int}{L i k:Nat}{m:Nat}(hg:∀ k,m<=k->g k=0)(hi:i<L)(h:∀ j,pc F g U L j=U^i*pc F g U (L-i) j+U*cv (cp g (L-i)) M j)(M':Nat->Int)(hM:∀ j,M' j=cv M g j+(if j=0 then F (L-1-i)*U^i else 0)) :
  pc F g U L k=U^(i+1)*pc F g U (L-(i+1)) k+U*cv (cp g (L-(i+1))) M' k:=by
 obtain⟨d,rfl⟩:∃ d,L=i+1+d:=⟨L-(i+1),by omega⟩;rw [h k,show i+1+d-i=d+1 by omega,show i+1+d-(i+1)=d by omega,pc,aV];have e1:cv (cp g (d+1)) M k=cv (cp g d) (λm=>cv M g m) k:=by
  show cv (λm=>cv (cp g d) g m) M k=_;rw [ug (n:=d*m+1) (tY hg d)];exact rc (λ_=>rfl) λj=>so _ _ _
 have e2:cv (cp g d) M' k=cv (cp g d) (λm=>cv M g m) k+cp g d k*(F d*U^i):=by
  have:cv (cp g d) M' k=cv (cp g d) (λj=>cv M g j+d0 j*(F d*U^i)) k:=rc (λ_=>rfl) λj=>by
   rw [hM j,show i+1+d-1-i=d by omega];unfold d0;by_cases z:j=0
   ·rw [if_pos z,if_pos z,bV]
   ·rw [if_neg z,if_neg z,aI]
  rw [this,C9,C7,so (cp g d) d0,xO]
 rw [e1,e2];show U^i*((pc F g U d k+F d*cp g d k)*U)+_=_;grind
theorem Hc{t u:Int}:hv d0 t u 1=u:=by
 show (0+d0 0*t^0)*u=u;rw [aU];show (0+1*1)*u=u;omega
theorem Fx{g:Nat->Int}{t u:Int}{m:Nat}(hg:∀ k,m<=k->g k=0):∀ n,hv (cp g n) t u (n*m+1)=hv g t u m^n*u
 | 0=>by
  rw [fZ,f6,aU,bV];exact Hc
 | n+1=>by
  rw [show (n+1)*m+1=(n*m+1)+m by rw [a9];omega];show hv (cv (cp g n) g) t u _=_;rw [Fw (tY hg n) hg,Fx hg n,aV];grind
theorem Fv{F g:Nat->Int}{U t u:Int}{m:Nat}(hg:∀ k,m<=k->g k=0):∀ n,hv (pc F g U n) t u (n*m+1)=u*hv F (hv g t u m) (U*u^m) n
 | 0=>by
  rw [wP (F:=pc F g U 0) λj _=>rfl];simp [hv]
 | n+1=>by
  have e:(n+1)*m+1=(n*m+1)+m:=by rw [a9];omega
  have e1:hv (pc F g U (n+1)) t u ((n+1)*m+1)=(hv (pc F g U n) t u ((n+1)*m+1)+hv (cp g n) t u ((n+1)*m+1)*F n)*U:=by
   rw [← tW (cp g n) (F n),← wQ,← tW];exact tj λj _=>by show (pc F g U n j+F n*cp g n j)*U=_;rw [bh (F n)]
  rw [e1,e,v0 (wF hg n) m,v0 (tY hg n) m,Fv hg n,Fx hg n,hv];grind
theorem vj(F:Nat->Int)(t u c:Int):∀ n,hv F (t*c) (u*c) n=hv F t u n*c^n
 | 0=>by simp [hv]
 | n+1=>by
  rw [hv,hv,vj F t u c n,gA,aV];grind
structure Wq (P:List Int)(B t u a b:Int):Prop where
 pos:0<b
 is:a*(B*u^P.length)=hv (fn P) t u P.length*b
theorem Wq.at{P:List Int}{B t u a b:Int}(h:Wq P B t u a b){N:Nat}(hN:P.length<=N):a*(B*u^N)=hv (fn P) t u N*b:=by
 obtain⟨j,rfl⟩:∃ j,N=P.length+j:=⟨N-P.length,by omega⟩;rw [v0 (λk hk=>qJ hk) j,cy];have:=h.is
 calc a*(B*(u^P.length*u^j))=(a*(B*u^P.length))*u^j:=by grind
  _=hv (fn P) t u P.length*b*u^j:=by rw [this]
  _=_:=by grind
theorem Wq.of_at{P:List Int}{B t u a b:Int}(hu:0<u)(hb:0<b){N:Nat}(hN:P.length<=N)(h:a*(B*u^N)=hv (fn P) t u N*b):Wq P B t u a b:=by
 refine⟨hb,?_⟩;obtain⟨j,rfl⟩:∃ j,N=P.length+j:=⟨N-P.length,by omega⟩;rw [v0 (λk hk=>qJ hk) j,cy] at h;have U:=pow_pos hu j;refine aH (show u^j≠0 by omega) ?_
 calc a*(B*u^P.length)*u^j=a*(B*(u^P.length*u^j)):=by grind
  _=hv (fn P) t u P.length*u^j*b:=h
  _=_:=by grind
theorem Wq.comp{P G R:List Int}{B U C t u a b x y:Int}(hB:0<B)(hU:0<U)(hu:0<u)(h1:Wq G U t u a b)(h2:Wq P B a b x y)(hR:∀ k,R.getD k 0*(B*U^P.length)=pc (fn P) (fn G) U P.length k*C)(hl:R.length<=P.length*G.length+1):Wq R C t u x y:=by
 refine Wq.of_at hu h2.pos hl ?_;have e0:hv (fn R) t u (P.length*G.length+1)*(B*U^P.length)=u*hv (fn P) (hv (fn G) t u G.length) (U*u^G.length) P.length*C:=by
  rw [← Fv (λk hk=>qJ hk),← tW,← tW];exact tj λj _=>hR j
 have e1:=h1.is;have e2:=h2.is;have e3:hv (fn P) (hv (fn G) t u G.length) (U*u^G.length) P.length*b^P.length=hv (fn P) a b P.length*(U*u^G.length)^P.length:=by
  rw [← vj,← vj,← e1,bh b]
 have e4:(U*u^G.length)^P.length*u=U^P.length*u^(P.length*G.length+1):=by
  rw [gA,← Int.pow_mul,aV,aT G.length];grind
 have b0:=pow_pos h1.pos P.length;have U0:=pow_pos hU P.length;generalize hv (fn R) t u (P.length*G.length+1)=r at *;generalize hv (fn P) (hv (fn G) t u G.length) (U*u^G.length) P.length=X2 at *;generalize hv (fn P) a b P.length=X1 at *;generalize (U*u^G.length)^P.length=W at *;generalize u^(P.length*G.length+1)=uN at *;generalize U^P.length=UL at *;generalize b^P.length=bL at *;have nz:B*UL*bL≠0:=ax (az (az hB U0) b0);refine aH nz ?_
 calc x*(C*uN)*(B*UL*bL)=(x*(B*bL))*C*(UL*uN):=by grind
  _=(X1*y)*C*(W*u):=by rw [e2,e4]
  _=(X1*W)*y*C*u:=by grind
  _=(X2*bL)*y*C*u:=by rw [e3]
  _=(u*X2*C)*(bL*y):=by grind
  _=(r*(B*UL))*(bL*y):=by rw [e0]
  _=r*y*(B*UL*bL):=by grind
theorem xX{F:Nat->Int}{t:Int}(ht:0<t):∀{n:Nat},(∀ k,k<n->(F k).natAbs<t.natAbs)->sm (λk=>F k*t^k) n=0->∀ k,k<n->F k=0
 | 0,_,_,k,hk=>absurd hk (bO _)
 | n+1,hF,h,k,hk=>by
  rw [tI,aU,bH] at h;have e:sm (λj=>F (j+1)*t^(j+1)) n=sm (λj=>F (j+1)*t^j) n*t:=by
   rw [← sH];exact qT λj _=>by rw [aV];grind
  rw [e] at h;have z:F 0=0:=by
   have d:t∣F 0:=⟨- sm (λj=>F (j+1)*t^j) n,by grind⟩;have l:=hF 0 (by omega);exact Int.eq_zero_of_dvd_of_natAbs_lt_natAbs d l
  rw [z,bT] at h;have h':sm (λj=>F (j+1)*t^j) n=0:=by
   rcases bZ.mp h with q|q
   ·exact q
   ·omega
  cases k with
  | zero=>exact z
  | succ k=>exact xX (F:=λj=>F (j+1)) ht (λj hj=>hF (j+1) (by omega)) h' k (by omega)
theorem Fu(F:Nat->Int)(t:Int):∀ n,hv F t 1 n=sm (λk=>F k*t^k) n
 | 0=>rfl
 | n+1=>by rw [hv,Fu F t n,sm,bH]
theorem vF{R S:List Int}{C D:Int}(f:Po.Fm R C)(f':Po.Fm S D)(h:∀ t:Int,0<t->∃ x y,Wq R C t 1 x y/\Wq S D t 1 x y):R=S/\C=D:=by
 refine Po.uniq f f' λk=>?_;let N:=max R.length S.length
 let F:Nat->Int:=λj=>fn R j*D-fn S j*C
 have bd:∃ t:Int,0<t/\∀ j,j<N->(F j).natAbs<t.natAbs:=by
  have:∀ n:Nat,∃ t:Int,0<t/\∀ j,j<n->(F j).natAbs<t.natAbs:=by
   intro n;induction n with
   | zero=>exact⟨1,by decide,λj h=>absurd h (bO _)⟩
   | succ n ih =>
    obtain⟨t,t0,ht⟩:=ih;refine⟨t+((F n).natAbs:Int)+1,by omega,λj hj=>?_⟩;rcases bK (dI hj) with e|e
    ·rw [e];omega
    ·have:=ht j e;omega
  exact this N
 obtain⟨t,t0,ht⟩:=bd;obtain⟨x,y,w1,w2⟩:=h t t0;have e1:=w1.at (N:=N) (by omega);have e2:=w2.at (N:=N) (by omega);rw [Int.one_pow,bH] at e1 e2;have z:sm (λk=>F k*t^k) N=0:=by
  rw [← Fu];have:hv F t 1 N=hv (fn R) t 1 N*D+hv (fn S) t 1 N*(-C):=by
   rw [← tW,← tW,← wQ];exact tj λj _=>by show fn R j*D-fn S j*C=_;grind
  rw [this];have y0:=w1.pos;refine aH (show y≠0 by omega) ?_
  calc (hv (fn R) t 1 N*D+hv (fn S) t 1 N * -C)*y=(hv (fn R) t 1 N*y)*D-(hv (fn S) t 1 N*y)*C:=by grind
   _=(x*C)*D-(x*D)*C:=by rw [e1,e2]
   _=0*y:=by grind
 rcases ar k N with c|c
 ·have:=xX t0 ht z k c;have q:fn R k*D-fn S k*C=0:=this;show fn R k*D=fn S k*C;omega
 ·show fn R k*D=fn S k*C;rw [qJ (P:=R) (by omega),qJ (P:=S) (by omega)];simp
theorem Db{g:Nat->Int}{m l:Nat}(hg:∀ k,l<=k->g k=0)(hs:∀ k,Lt2 m (g k)):∀ n,n*l<=400->∀ k,Lt2 ((m+9)*n+1) (cp g n k)
 | 0,_,k=>by
  show Lt2 _ (if k=0 then (1:Int) else 0);split
  ·unfold Lt2;exact aD (show (1:Int).natAbs<2^1 by decide) (b9 (by decide) (by omega))
  ·exact bG (by decide)
 | n+1,h,k=>by
  rw [a9] at h;have ih:=Db hg hs n (by omega);rcases ar k 500 with c|c
  ·exact (Af (b:=9) ih hs (by omega)).mono (by rw [bC];omega)
  ·rw [tY hg (n+1) k (by rw [a9];omega)];exact bG (by decide)
theorem Ff{F g:Nat->Int}{U:Int}{n m c l:Nat}(hg:∀ k,l<=k->g k=0)(hF:∀ k,Lt2 n (F k))(hs:∀ k,Lt2 m (g k))(hU:Lt2 c U):∀ i,i*l<=400->∀ k,Lt2 (n+(m+c+10)*i+1) (pc F g U i k)
 | 0,_,k=>bG (by decide)
 | i+1,h,k=>by
  rw [a9] at h;have ih:=Ff hg hF hs hU i (by omega) k;have h2:Lt2 (n+(m+c+10)*i+1) (F i*cp g i k):=((hF i).mul (Db hg hs i (by omega) k)).mono (by
   have:(m+9)*i<=(m+c+10)*i:=bq _ (by omega);omega)
  exact ((ih.add h2).mul hU).mono (by rw [bC];omega)
def X:List Int:=[0,1]
theorem KA(k:Nat):fn X k=if k=1 then 1 else 0:=by
 match k with
 | 0=>rfl
 | 1=>rfl
 | k+2 =>
  rw [qJ (P:=X) (by show 2<=_;omega),if_neg (by omega)]
theorem KK:Po.Fm X 1:=⟨by decide,.inr (by decide),by decide⟩
theorem Jm(f:Nat->Int)(k:Nat):cv f (fn X) k=if k=0 then 0 else f (k-1):=by
 rw [so,← sW (n:=2) (λj hj=>qJ hj)];show 0+(if 0<=k then fn X 0*f (k-0) else 0)+(if 1<=k then fn X 1*f (k-1) else 0)=_;have e0:fn X 0=0:=rfl;have e1:fn X 1=1:=rfl;rw [e0,e1];by_cases z:k=0
 ·subst z;simp
 ·rw [if_neg z,if_pos (show 1<=k by omega)];simp
def Of(P:List Int)(B:Int)(G:List Int)(U:Int)(R:List Int)(C:Int):Prop:=Po.Fm R C/\∀ k,R.getD k 0*(B*U^P.length)=pc (fn P) (fn G) U P.length k*C
theorem Of.len{P G R:List Int}{B U C:Int}(hB:0<B)(hU:0<U)(h:Of P B G U R C):R.length<=P.length*G.length+1:=by
 rcases h.1.last with e|e
 ·subst e;exact aB _
 ·rcases ar (P.length*G.length+1) R.length with c|c
  ·refine absurd ?_ e;have e3:=h.2 (R.length-1);rw [wF (m:=G.length) (λk hk=>qJ hk) _ _ (by omega),aI] at e3;rcases bZ.mp e3 with q|q
   ·exact q
   ·have:=az hB (pow_pos hU P.length);omega
  ·exact c
structure Pz (n b:Nat)(P:List Int)(B:Int):Prop where
 fm:Po.Fm P B
 tops:∀ k,Lt2 n (P.getD k 0)
 bot:Lt2 b B
theorem Pz.mono{n b n' b':Nat}{P:List Int}{B:Int}(h:Pz n b P B)(l:n<=n')(l':b<=b'):Pz n' b' P B:=⟨h.fm,λk=>(h.tops k).mono l,h.bot.mono l'⟩
theorem Pz.of{n b:Nat}{P:List Int}{f:Nat->Int}{B c:Int}(F:Po.Fm P B)(hc:0<c)(h:∀ k,P.getD k 0*c=f k*B)(h1:∀ k,Lt2 n (f k))(h2:Lt2 b c):Pz n b P B :=
 ⟨F,λk=>(h1 k).le ((Po.size F hc h).2 k),h2.le (Po.size F hc h).1⟩
theorem Of.size{P G R:List Int}{B U C:Int}{n b m c:Nat}(h:Of P B G U R C)(z1:Pz n b P B)(z2:Pz m c G U)(hl:P.length*G.length<=400):Pz (n+(m+c+10)*P.length+1) (b+(c*P.length+1)) R C:=by
 have Y:=az z1.fm.pos (pow_pos z2.fm.pos P.length);exact Pz.of h.1 Y h.2 (λk=>Ff (λk hk=>qJ hk) (λk=>z1.tops k) (λk=>z2.tops k) z2.bot P.length hl k) (z1.bot.mul (rA z2.bot P.length))
theorem uU{g:Nat->Int}{m:Nat}(hg:∀ k,m<=k->g k=0):∀(n k:Nat),n*(m-1)+1<=k->cp g n k=0
 | 0,k,h=>by show (if k=0 then (1:Int) else 0)=0;rw [if_neg (by omega)]
 | n+1,k,h=>rH (a:=n*(m-1)+1) (b:=m) (uU hg n) hg (by rw [a9] at h;omega)
theorem uQ{F g:Nat->Int}{U:Int}{m:Nat}(hg:∀ k,m<=k->g k=0):∀(n k:Nat),(n-1)*(m-1)+1<=k->pc F g U n k=0
 | 0,_,_=>rfl
 | n+1,k,h=>by
  rw [aG] at h;have:(n-1)*(m-1)<=n*(m-1):=bq _ (by omega);show (pc F g U n k+F n*cp g n k)*U=0;rw [uQ hg n k (by omega),uU hg n k (by omega)];simp
theorem Of.deg{P G R:List Int}{B U C:Int}(hB:0<B)(hU:0<U)(h:Of P B G U R C):R.length<=(P.length-1)*(G.length-1)+1:=by
 rcases h.1.last with e|e
 ·subst e;exact aB _
 ·rcases ar ((P.length-1)*(G.length-1)+1) R.length with c|c
  ·refine absurd ?_ e;have e3:=h.2 (R.length-1);rw [uQ (m:=G.length) (λk hk=>qJ hk) _ _ (by omega),aI] at e3;rcases bZ.mp e3 with q|q
   ·exact q
   ·have:=az hB (pow_pos hU P.length);omega
  ·exact c
theorem rh{R:List Int}{C c:Int}{f:Nat->Int}{N:Nat}(F:Po.Fm R C)(hc:0<c)(h:∀ k,R.getD k 0*c=f k*C)(hf:∀ k,N<=k->f k=0):R.length<=N:=by
 rcases F.last with e|e
 ·subst e;exact aB _
 ·rcases ar N R.length with z|z
  ·refine absurd ?_ e;have e3:=h (R.length-1);rw [hf _ (by omega),aI] at e3;rcases bZ.mp e3 with q|q
   ·exact q
   ·omega
  ·exact z
theorem Du:Pz 1 1 X 1:=⟨KK,λk=>by
 show Lt2 1 (fn X k);rw [KA];split <;> (unfold Lt2;decide),by unfold Lt2;decide⟩
end Pc
namespace L2
instance decLt2 (n:Nat)(i:Int):Decidable (Lt2 n i):=inferInstanceAs (Decidable (i.natAbs<2^n))
end L2
namespace Pc
open L2 Cv Hv
theorem KF(g:Nat->Int)(k:Nat):cp g 1 k=g k:=xO g k
theorem LH(F g:Nat->Int)(U:Int)(k:Nat):pc F g U 2 k=(F 0*d0 k*U+F 1*g k)*U:=by
 show ((0+F 0*d0 k)*U+F 1*cp g 1 k)*U=_;rw [KF,bT]
theorem Of.two{P G S:List Int}{B U D:Int}(h2:P.length=2)(hU:0<U)(h:Of P B G U S D)(k:Nat):S.getD k 0*(B*U)=(P.getD 0 0*d0 k*U+P.getD 1 0*G.getD k 0)*D:=by
 have q:=h.2 k;rw [h2,LH] at q;have q':S.getD k 0*(B*U^2)=(P.getD 0 0*d0 k*U+P.getD 1 0*G.getD k 0)*U*D:=q;refine aH (show U≠0 by omega) ?_;rw [show (U:Int)^2=U*U by rw [aV,aV,aU,bV]] at q';grind
def St(ta ba tb bb:Int)(P:List Int)(B:Int):Prop:=Po.Fm P B/\∀ k,P.getD k 0*(ba*bb)=[tb*ba,ta*bb].getD k 0*B
theorem wn(x y:Int)(k:Nat):[x,y].getD (k+2) 0=0:=by simp
theorem FZ{R G T:List Int}{M:Nat->Int}{B U W C tb:Int}{k:Nat}(c0:0<C)(hR:∀ j,R.getD j 0*(B*W)=M j*U*C)(hT:T.getD k 0*(C*U)=cv (fn R) (fn G) k*tb):T.getD k 0*(B*(W*U))=cv M (fn G) k*U*tb:=by
 have e1:cv (fn R) (fn G) k*(B*W)=cv M (fn G) k*(U*C):=by
  rw [← sd,← sd];exact rc (λj=>by show R.getD j 0*(B*W)=_;rw [hR j];grind) λ_=>rfl
 refine aH (show C≠0 by omega) ?_;generalize cv (fn R) (fn G) k=X at *;generalize cv M (fn G) k=Y at *;generalize T.getD k 0=Tk at *
 calc Tk*(B*(W*U))*C=(Tk*(C*U))*(B*W):=by grind
  _=(X*tb)*(B*W):=by rw [hT]
  _=(X*(B*W))*tb:=by grind
  _=(Y*(U*C))*tb:=by rw [e1]
  _=_:=by grind
theorem FY{S T E:Int}{B W U tb e sb q x:Int}(t0:0<tb)(e0:0<e)(hT:T*(B*(W*U))=q*U*tb)(hE:E*B=x*e)(hS:S*(tb*e)=(T*e+E*tb)*sb):S*(B*(W*U))=(q+x*W)*U*sb:=by
 refine aH (show tb*e≠0 from ax (az t0 e0)) ?_
 calc S*(B*(W*U))*(tb*e)=(S*(tb*e))*(B*(W*U)):=by grind
  _=((T*e+E*tb)*sb)*(B*(W*U)):=by rw [hS]
  _=((T*(B*(W*U)))*e+(E*B)*(W*U)*tb)*sb:=by grind
  _=((q*U*tb)*e+(x*e)*(W*U)*tb)*sb:=by rw [hT,hE]
  _=_:=by grind
end Pc
namespace Qp
open L2 Cv Hv Pc
theorem qF{b:Int}(h:0<b):(b:Rat)≠0:=λz=>by
 have:=cU.mp z;omega
theorem rS{b:Int}(h:b≠0):(b:Rat)≠0:=λz=>h (cU.mp z)
theorem tS{b:Rat}(h:b≠0):∀ n:Nat,b^n≠0
 | 0=>by rw [cC];decide
 | n+1=>λz=>by
  rw [cE] at z;rcases cP.mp z with w|w
  ·exact tS h n w
  ·exact h w
theorem wC(a:Rat){b:Rat}(h:b≠0):∀ n:Nat,(a / b)^n*b^n=a^n
 | 0=>by rw [cC,cC,cC];grind
 | n+1=>by
  have ih:=wC a h n;rw [cE,cE,cE,← ih];grind
theorem rG{a b c d:Int}(hb:b≠0)(hd:d≠0):((a:Rat) / (b:Rat)=(c:Rat) / (d:Rat))↔a*d=c*b:=by
 have h1:=rS hb;have h2:=rS hd;constructor
 ·intro h;have:(a:Rat)*(d:Rat)=(c:Rat)*(b:Rat):=by grind
  rw [← aw,← aw] at this;exact de.mp this
 ·intro h;have:(a:Rat)*(d:Rat)=(c:Rat)*(b:Rat):=by rw [← aw,← aw,h]
  grind
theorem rX(x:Rat):∃ t u:Int,0<u/\x=(t:Rat) / (u:Rat):=by
 refine⟨x.num,(x.den:Int),?_,?_⟩
 ·have:=eQ x.den_nz;omega
 ·have:=Rat.num_divInt_den x;rw [Rat.divInt_eq_div] at this;exact this.symm
def ei(F:Nat->Int)(x:Rat):Nat->Rat
 | 0=>0
 | n+1=>ei F x n+(F n:Rat)*x^n
theorem xJ{F:Nat->Int}{x:Rat}{n:Nat}(h:∀ k,n<=k->F k=0):∀ j,ei F x (n+j)=ei F x n
 | 0=>rfl
 | j+1=>by
  rw [← dP,ei,xJ h j,h (n+j) (by omega)];grind
theorem wT{F G:Nat->Int}{a b:Int}{x:Rat}(h:∀ k,F k*a=G k*b):∀ n,ei F x n*(a:Rat)=ei G x n*(b:Rat)
 | 0=>by rw [ei,ei];grind
 | n+1=>by
  have ih:=wT (x:=x) h n;have e:(F n:Rat)*(a:Rat)=(G n:Rat)*(b:Rat):=by rw [← aw,← aw,h n]
  rw [ei,ei];grind
theorem yM(F G:Nat->Int)(x:Rat):∀ n,ei (λk=>F k+G k) x n=ei F x n+ei G x n
 | 0=>by rw [ei,ei,ei];grind
 | n+1=>by
  rw [ei,ei,ei,yM F G x n,d8];grind
theorem tX(F:Nat->Int)(c:Int)(x:Rat):∀ n,ei (λk=>F k*c) x n=ei F x n*(c:Rat)
 | 0=>by rw [ei,ei];grind
 | n+1=>by
  rw [ei,ei,tX F c x n,aw];grind
theorem xE(F:Nat->Int)(t:Int){u:Int}(hu:0<u):∀ n,((hv F t u n:Int):Rat)=(u:Rat)^n*ei F ((t:Rat) / (u:Rat)) n
 | 0=>by rw [hv,ei];grind
 | n+1=>by
  have hn:=qF hu;have ih:=xE F t hu n;have p:=wC (t:Rat) hn n;rw [hv,ei,aw,d8,aw,cF,ih,cE,← p];grind
def E(P:List Int)(B:Int)(x:Rat):Rat:=ei (fn P) x P.length / (B:Rat)
theorem xZ{P:List Int}{B:Int}{x:Rat}{N:Nat}(h:P.length<=N):E P B x=ei (fn P) x N / (B:Rat):=by
 obtain⟨j,rfl⟩:∃ j,N=P.length+j:=⟨N-P.length,by omega⟩;rw [xJ (λk hk=>qJ hk) j];rfl
theorem wq{P:List Int}{B t u a b:Int}(hB:0<B)(hu:0<u)(hb:0<b):Wq P B t u a b↔E P B ((t:Rat) / (u:Rat))=(a:Rat) / (b:Rat):=by
 have nB:=qF hB;have nu:=qF hu;have nb:=qF hb;have nU:=tS nu P.length;have key:=xE (fn P) t hu P.length;constructor
 ·intro h;have e:=congrArg (λz:Int=>(z:Rat)) h.is;simp only [aw,cF] at e;rw [key] at e;unfold E;generalize (u:Rat)^P.length=U at *;generalize ei (fn P) ((t:Rat) / (u:Rat)) P.length=X at *;have:(a:Rat)*(B:Rat)=X*(b:Rat):=by
   have:((a:Rat)*(B:Rat)-X*(b:Rat))*U=0:=by grind
   rcases cP.mp this with w|w
   ·grind
   ·exact absurd w nU
  grind
 ·intro h;refine⟨hb,?_⟩;unfold E at h;have:((a*(B*u^P.length):Int):Rat)=((hv (fn P) t u P.length*b:Int):Rat):=by
   simp only [aw,cF];rw [key];generalize (u:Rat)^P.length=U at *;generalize ei (fn P) ((t:Rat) / (u:Rat)) P.length=X at *;have:X*(b:Rat)=(a:Rat)*(B:Rat):=by grind
   grind
  exact de.mp this
theorem Dz{P G R:List Int}{B U C:Int}(hB:0<B)(hU:0<U)(h:Of P B G U R C)(x:Rat):E R C x=E P B (E G U x):=by
 obtain⟨t,u,hu,rfl⟩:=rX x;obtain⟨a,b,hb,e1⟩:=rX (E G U ((t:Rat) / (u:Rat)));obtain⟨c,d,hd,e2⟩:=rX (E P B ((a:Rat) / (b:Rat)));rw [e1,e2];exact (wq h.1.pos hu hd).mp (Wq.comp hB hU hu ((wq hU hu hb).mpr e1) ((wq hB hb hd).mpr e2) h.2 (h.len hB hU))
theorem tQ{R S:List Int}{C D:Int}(f:Po.Fm R C)(f':Po.Fm S D)(h:∀ x,E R C x=E S D x):R=S/\C=D:=by
 refine vF f f' λt ht=>?_;obtain⟨a,b,hb,e⟩:=rX (E R C ((t:Rat) / ((1:Int):Rat)));exact⟨a,b,(wq f.pos (by decide) hb).mpr e,(wq f'.pos (by decide) hb).mpr ((h _).symm.trans e)⟩
theorem vD{R:List Int}{C c:Int}{f:Nat->Int}{x:Rat}{N:Nat}(hC:0<C)(hc:c≠0)(h:∀ k,R.getD k 0*c=f k*C)(hN:R.length<=N):E R C x=ei f x N / (c:Rat):=by
 rw [xZ hN];have e:=wT (F:=fn R) (G:=f) (x:=x) h N;have n1:=qF hC;have n2:=rS hc;grind
theorem An{P1 P2 R:List Int}{B1 B2 C:Int}(h1:0<B1)(h2:0<B2)(hC:0<C)(h:∀ k,R.getD k 0*(B1*B2)=(P1.getD k 0*B2+P2.getD k 0*B1)*C)(x:Rat):E R C x=E P1 B1 x+E P2 B2 x:=by
 have l1:P1.length<=P1.length+P2.length+R.length:=by omega
 have l2:P2.length<=P1.length+P2.length+R.length:=by omega
 have l3:R.length<=P1.length+P2.length+R.length:=by omega
 rw [vD hC (ax (az h1 h2)) h l3,xZ l1,xZ l2,yM,tX,tX,aw];have n1:=qF h1;have n2:=qF h2;show (ei (fn P1) x _*_+ei (fn P2) x _*_) / _=_;generalize ei (fn P1) x (P1.length+P2.length+R.length)=X;generalize ei (fn P2) x (P1.length+P2.length+R.length)=Y;grind
theorem FB{f g:Nat->Int}{n m:Nat}(hf:∀ k,n<=k->f k=0)(hg:∀ k,m<=k->g k=0)(x:Rat):ei (cv f g) x (n+m)=ei f x n*ei g x m:=by
 obtain⟨t,u,hu,rfl⟩:=rX x;have e:=congrArg (λz:Int=>(z:Rat)) (Fw (t:=t) (u:=u) hf hg);simp only [aw] at e;rw [xE _ _ hu,xE _ _ hu,xE _ _ hu] at e;have n1:=tS (qF hu) n;have n2:=tS (qF hu) m;have e3:(u:Rat)^(n+m)=(u:Rat)^n*(u:Rat)^m:=by grind
 rw [e3] at e;generalize (u:Rat)^n=a at *;generalize (u:Rat)^m=b at *;generalize ei (cv f g) ((t:Rat) / (u:Rat)) (n+m)=X at *;generalize ei f ((t:Rat) / (u:Rat)) n=Y at *;generalize ei g ((t:Rat) / (u:Rat)) m=Z at *;have:(X-Y*Z)*(a*b)=0:=by grind
 rcases cP.mp this with w|w
 ·grind
 ·rcases cP.mp w with v|v
  ·exact absurd v n1
  ·exact absurd v n2
theorem uY{P1 P2 R:List Int}{B1 B2 C:Int}(h1:0<B1)(h2:0<B2)(f:Po.Fm R C)(h:∀ k,R.getD k 0*(B1*B2)=cv (fn P1) (fn P2) k*C)(x:Rat):E R C x=E P1 B1 x*E P2 B2 x:=by
 have hC:=f.pos;have p12:=az h1 h2;have l:R.length<=P1.length+P2.length:=rh f p12 h λk hk=>rH (a:=P1.length) (b:=P2.length) (λj h=>qJ h) (λj h=>qJ h) (by omega);rw [vD hC (ax p12) h l,FB (λk h=>qJ h) (λk h=>qJ h),aw];have n1:=qF h1;have n2:=qF h2;unfold E;grind
theorem KD(F:Nat->Int)(x:Rat):ei F x 1=(F 0:Rat):=by
 show 0+(F 0:Rat)*x^0=_;rw [cC];grind
theorem K2(F:Nat->Int)(x:Rat):ei F x 2=(F 0:Rat)+(F 1:Rat)*x:=by
 show ei F x 1+(F 1:Rat)*x^1=_;rw [KD,Rat.pow_one]
theorem FK{P:List Int}{B:Int}(l:P.length<=2)(x:Rat):E P B x=((P.getD 0 0:Int):Rat) / (B:Rat)+((P.getD 1 0:Int):Rat) / (B:Rat)*x:=by
 rw [xZ l,K2];show (((P.getD 0 0:Int):Rat)+((P.getD 1 0:Int):Rat)*x) / _=_;grind
theorem xk{R:List Int}{C c b:Int}(f:Po.Fm R C)(hb:0<b)(h:∀ k,R.getD k 0*b=[c].getD k 0*C)(x:Rat):E R C x=(c:Rat) / (b:Rat):=by
 have l:R.length<=1:=rh f hb h λk hk=>by
  obtain⟨j,rfl⟩:∃ j,k=j+1:=⟨k-1,by omega⟩;simp
 rw [vD f.pos (ax hb) h l,KD];rfl
theorem KQ{ta ba tb bb B:Int}{P:List Int}(h:St ta ba tb bb P B)(h1:0<ba)(h2:0<bb)(x:Rat):E P B x=(ta:Rat) / (ba:Rat)*x+(tb:Rat) / (bb:Rat):=by
 have p:=az h1 h2;have l:P.length<=2:=rh h.1 p h.2 λk hk=>by
  obtain⟨j,rfl⟩:∃ j,k=j+2:=⟨k-2,by omega⟩;exact wn _ _ _
 rw [vD h.1.pos (ax p) h.2 l,K2];show (((tb*ba:Int):Rat)+((ta*bb:Int):Rat)*x) / ((ba*bb:Int):Rat)=_;rw [aw,aw,aw];have n1:=qF h1;have n2:=qF h2;grind
theorem JU(x:Rat):E X 1 x=x:=by
 rw [FK (by decide)];show ((0:Int):Rat) / ((1:Int):Rat)+((1:Int):Rat) / ((1:Int):Rat)*x=x;grind
def q(P:List Int)(B:Int)(k:Nat):Rat:=((P.getD k 0:Int):Rat) / (B:Rat)
theorem wz{R:List Int}{C c:Int}{f:Nat->Int}(hC:0<C)(hc:c≠0)(h:∀ k,R.getD k 0*c=f k*C)(k:Nat):q R C k=((f k:Int):Rat) / (c:Rat):=(rG (ax hC) hc).mpr (h k)
theorem sQ{P:List Int}{B:Int}{k:Nat}(h:P.length<=k):q P B k=0:=by
 unfold q;rw [ac,bg h];show ((0:Int):Rat) / _=0;grind
theorem sY{P:List Int}{B:Int}(f:Po.Fm P B)(h:P≠[]):q P B (P.length-1)≠0:=by
 rcases f.last with e|e
 ·exact absurd e h
 ·unfold q;have n1:=rS e;have n2:=qF f.pos;intro z;generalize ((P.getD (P.length-1) 0:Int):Rat)=a at *;grind
theorem FH{g:Nat->Int}(hg:∀ k,2<=k->g k=0):∀ n,cp g n n=g 1^n/\cp g (n+1) n=(n+1:Int)*g 1^n*g 0/\∀ k,n<k->cp g n k=0
 | 0=>by
  refine⟨by rw [aU];rfl,?_,λk hk=>by show (if k=0 then (1:Int) else 0)=0;rw [if_neg (by omega)]⟩;rw [KF];simp
 | n+1=>by
  obtain⟨h1,h2,h3⟩:=FH hg n;have hz:∀(f:Nat->Int) (k:Nat),cv f g (k+1)=f (k+1)*g 0+f k*g 1:=λf k=>by
   rw [so];have:tm g f 2 (k+1)=cv g f (k+1):=sW hg;rw [← this];show (0+(if 0<=k+1 then g 0*f (k+1-0) else 0))+(if 1<=k+1 then g 1*f (k+1-1) else 0)=_;rw [if_pos (by omega),if_pos (by omega),bx,aG];grind
  have a1:cp g (n+1) (n+1)=g 1^(n+1):=by
   show cv (cp g n) g (n+1)=_;rw [hz,h3 (n+1) (by omega),h1,aV];grind
  refine⟨a1,?_,λk hk=>?_⟩
  ·show cv (cp g (n+1)) g (n+1)=_;rw [hz,a1,h2,aV];push_cast;grind
  ·obtain⟨j,rfl⟩:∃ j,k=j+1:=⟨k-1,by omega⟩;show cv (cp g n) g (j+1)=0;rw [hz,h3 (j+1) (by omega),h3 j (by omega)];simp
theorem Fe{F g:Nat->Int}{U:Int}(hg:∀ k,2<=k->g k=0)(n:Nat):pc F g U (n+1) n=F n*g 1^n*U/\(∀ k,n<k->pc F g U (n+1) k=0):=by
 have z:∀ n k,n<=k->pc F g U n k=0:=λn k hk=>by
  cases n with
  | zero=>rfl
  | succ n=>exact uQ (m:=2) hg (n+1) k (by omega)
 refine⟨?_,λk hk=>z _ _ hk⟩;show (pc F g U n n+F n*cp g n n)*U=_;rw [z n n (af _),(FH hg n).1];grind
theorem IM{P G R:List Int}{B U C:Int}(f:Po.Fm P B)(fG:Po.Fm G U)(lG:G.length=2)(hP:P≠[])(g1:G.getD 1 0≠0)(h:Of P B G U R C) :
  R.length=P.length/\q R C (P.length-1)=q P B (P.length-1)*q G U 1^(P.length-1):=by
 have hB:=f.pos;have hU:=fG.pos;have hC:=h.1.pos;have hg:∀ k,2<=k->fn G k=0:=λk hk=>qJ (by omega);obtain⟨n,hn⟩:∃ n,P.length=n+1:=⟨P.length-1,by cases P;exact absurd rfl hP;simp⟩;have hW:=az hB (pow_pos hU (n+1));have h2:=h.2;rw [hn] at h2;have e:=wz hC (ax hW) h2 n;rw [(Fe hg n).1,aw,aw,aw,cF,cF] at e;have nB:=qF hB;have nU:=qF hU;have nUn:=tS nU n;have e2:q R C n=q P B n*q G U 1^n:=by
  rw [e];show ((P.getD n 0:Int):Rat)*((G.getD 1 0:Int):Rat)^n*(U:Rat) / ((B:Rat)*(U:Rat)^(n+1))=((P.getD n 0:Int):Rat) / (B:Rat)*(((G.getD 1 0:Int):Rat) / (U:Rat))^n;have p:=wC ((G.getD 1 0:Int):Rat) nU n;rw [← p,cE];generalize (((G.getD 1 0:Int):Rat) / (U:Rat))^n=Z;generalize (U:Rat)^n=W at *;grind
 have l1:R.length<=n+1:=rh h.1 hW h2 λk hk=>(Fe hg n).2 k (by omega);rw [hn,aG];refine⟨?_,e2⟩;rcases ar R.length (n+1) with z|z
 ·have z1:=sQ (B:=C) (show R.length<=n by omega);rw [z1] at e2;have z2:=sY f hP;rw [hn,aG] at z2;have z3:q G U 1≠0:=by
   unfold q;have n1:=rS g1;generalize ((G.getD 1 0:Int):Rat)=a at *;intro z;grind
  have z4:=tS z3 n;rcases cP.mp e2.symm with w|w
  ·exact absurd w z2
  ·exact absurd w z4
 ·omega
end Qp
namespace L2
open PySem Qp
variable{K:Frag}{H H':Hp}{v:V}{r:Rat}{n b n' b':Nat}
theorem Fq.ne{p:Addr}{t u:Int}(hu:0<u)(e:r=(t:Rat) / (u:Rat)):r≠0↔t≠0:=by
 have n1:=qF hu;subst e;constructor
 ·intro h z;subst z;refine h ?_;have:((0:Int):Rat)=0:=rfl;rw [this];grind
 ·intro h z;have h':=rS h;generalize (t:Rat)=a at *;grind
end L2
namespace Qp
open L2 Cv Hv Pc
theorem sv{P:List Int}{B:Int}:E P B 0=q P B 0:=by
 unfold E q;have:∀ n,0<n->ei (fn P) 0 n=((P.getD 0 0:Int):Rat):=by
  intro n hn;induction n with
  | zero=>omega
  | succ n ih =>
   rw [ei];cases n with
   | zero =>
    rw [ei,cC];show 0+((P.getD 0 0:Int):Rat)*1=_;grind
   | succ n =>
    rw [ih (by omega),cE];grind
 cases hP:P.length with
 | zero =>
  have:P=[]:=bR.mp hP;subst this;show 0 / _=((0:Int):Rat) / _;rfl
 | succ n=>rw [this (n+1) (by omega)]
theorem Fb{P1 P2 R:List Int}{B1 B2 C:Int}(h1:0<B1)(h2:0<B2)(hC:0<C)(h:∀ k,R.getD k 0*(B1*B2)=(P1.getD k 0*B2+P2.getD k 0*B1)*C)(k:Nat):q R C k=q P1 B1 k+q P2 B2 k:=by
 have e:=wz (f:=λk=>P1.getD k 0*B2+P2.getD k 0*B1) hC (ax (az h1 h2)) h k;rw [e];have n1:=qF h1;have n2:=qF h2;unfold q;simp only [aw,d8];grind
end Qp
namespace L2
open PySem PySem.Spec PyProof.Rows
section
variable{X:Cx}{e:Expr}{te:TE}{lo hi:Option Expr}{se:Expr}{tl th ts:TO}{pos p2:Pos}
def Jy(X:Cx)(r:V->Option Int->Option Int->Option Int->Hp->VK->Prop):Prop :=
 ∀(pins:List (Addr×Obj)) (s:Shared) (σ:St) (H:Hp) (x:V) (v vl vu vs:Value) (lo hi st:Option Int) (sl:Addr) (Q:VK),Inv X pins σ H s->RelV x v->s.heap.IsSliceOf sl vl vu vs->IsPart vl lo->IsPart vu hi->IsPart vs st->r x lo hi st H Q ->
  ∃ T id,typeLookup (.type T) "__getitem__" = pure (some (.builtin id))/\s.TypeIs v T/\wpAny (model X.prog X.w) X.A (getItem v (.ref sl)) (EP X pins σ Q) X.xe s
def JY(r:V->Option Int->Option Int->Option Int->Hp->VK->Prop)(te:TE)(tl th ts:TO):TE:=λσ H Q=>te σ H λx H1=>tl σ H1 λl H2=>th σ H2 λu H3=>ts σ H3 λk H4=>r x l u k H4 Q
theorem AD{r:V->Option Int->Option Int->Option Int->Hp->VK->Prop}(hr:Jy X r)(he:PE X e te)(hl:PO X lo tl)(hu:PO X hi th)(hs:PO X (some se) ts):PE X (.Subscript e (.Slice lo hi (some se) p2) pos) (JY r te tl th ts):=by
 intro pins s σ H Q I h;refine Subscript_ (q8 (he pins s σ H _ I h) λv s1 ⟨x,H1,I1,r1,q1⟩=>?_);refine wpAny_Slice (q8 (hl pins s1 σ H1 _ I1 q1) λvl s2 ⟨l,H2,I2,pl,q2⟩=>q8 (hu pins s2 σ H2 _ I2 q2) λvu s3 ⟨u,H3,I3,pu,q3⟩=>q8 (hs pins s3 σ H3 _ I3 q3) λvs s4 ⟨k,H4,I4,pk,q4⟩=>?_);have I5:Inv X pins σ H4 { s4 with heap:=s4.heap.push { cls:=.type "slice",data:=.fields #[vl,vu,vs] } }:=I4.kept (t':=s4.toks) λb ob q=>ηH _ q;obtain⟨T,id,hT,ht,hg⟩:=hr pins { s4 with heap:=s4.heap.push { cls:=.type "slice",data:=.fields #[vl,vu,vs] } } σ H4 x v vl vu vs l u k s4.heap.objs.size Q I5 r1 (Heap.IsSliceOf.new ..) pl pu pk q4;show wpAny (model X.prog X.w) X.A (subscriptTail e (.Slice lo hi (some se) p2) v (.ref s4.heap.objs.size)) (EP X pins σ Q) X.xe { s4 with heap:=s4.heap.push { cls:=.type "slice",data:=.fields #[vl,vu,vs] } };exact tail_any (ops:=[v,.ref s4.heap.objs.size]) ht hT hg (by with_unfolding_all rfl)
theorem Ke(K:Frag)(hK:X.K=K:=by rfl):Jy X (λx lo hi st H Q=>lo=none/\hi=none/\st=some (-1)/\∃ a xs,x = .ref a/\SqL K H a xs/\∀ p,H p=none->Q (.ref p) (rD H p (.lst xs.reverse))):=by
 subst hK;intro pins s σ H x v vl vu vs lo hi st sl Q I rx hs pl pu pk h;obtain⟨rfl,rfl,rfl,a,xs,rfl,hx,q⟩:=h;cases rx;obtain⟨its,r,ht,hz⟩:=I.list hx;have hlen:=r.length;refine⟨"list",_,slot_list_getitem.lookup,ht.isList.typeIs,?_⟩;refine wpAny_getItem_list_slice ht.isList hs pl pu pk (by decide) ?_ (by rw [ak] <;> omega);rw [PySem.W.krv_pick];refine⟨.ref s.heap.objs.size,_,I.laid (t':=s.toks) (o:=.lst xs.reverse) (λb ob q=>ηH _ q) (af _) ?_,rfl,q _ (I.hok.fresh (af _))⟩;exact⟨by rw [aN];exact hz,its.reverse,0,r.reverse,ηG _ rfl⟩
end
def Jz(K:Frag)(H:Hp)(v:V)(P:List Int)(B:Int):Prop:=∃ a t,v = .ref a/\SqT K H a [.ref t,.int B]/\SqT K H t (P.map V.int)
theorem Pol.k{K:Frag}{H:Hp}{v:V}{P:List Int}{B:Int}(h:Pol H v P B):Jz K H v P B:=by
 obtain⟨a,t,e,h1,h2⟩:=h;exact⟨a,t,e,SqT.of h1,SqT.of h2⟩
instance coePolK {K:Frag}{H:Hp}{v:V}{P:List Int}{B:Int}:Coe (Pol H v P B) (Jz K H v P B):=⟨Pol.k⟩
end L2
namespace Ca
open Cv
theorem tR(F G:Nat->Int)(n:Nat):sm (λj=>F j+G j) n=sm F n+sm G n:=by
 induction n with
 | zero=>rfl
 | succ n ih=>rw [sm,sm,sm,ih];omega
theorem F2{F:Nat->Int}{d:Int}{n:Nat}(h:∀ j,j<n->d∣F j):d∣sm F n:=by
 induction n with
 | zero=>exact Int.dvd_zero d
 | succ n ih=>exact eJ (ih λj hj=>h j (by omega)) (h n (by omega))
theorem xM{f g f' g':Nat->Int}{k:Nat}(h:∀ j,j<=k->f j=f' j)(h':∀ j,j<=k->g j=g' j):cv f g k=cv f' g' k :=
 qT λj hj=>by rw [h j (by omega),h' (k-j) (by omega)]
theorem Ag(f f' g:Nat->Int)(k:Nat):cv (λj=>f j+f' j) g k=cv f g k+cv f' g k:=by
 unfold cv;rw [← tR];exact qT λj _=>eK _ _ _
theorem C6(f g:Nat->Int)(c:Int)(k:Nat):cv (λj=>c*f j) g k=c*cv f g k:=by
 rw [bh,← sd];exact rc (λj=>bh _ _) λ_=>rfl
theorem xN(f g:Nat->Int)(k:Nat):cv f g (k+1)=f 0*g (k+1)+cv (λj=>f (j+1)) g k:=by
 unfold cv;rw [tI];congr 1;exact qT λj _=>by rw [show k+1-(j+1)=k-j by omega]
theorem yR(f g:Nat->Int):cv f g 0=f 0*g 0:=by simp [cv,sm]
theorem ug(f g h:Nat->Int)(k:Nat):cv (cv f g) h k=cv f (cv g h) k:=by
 induction k generalizing f g h with
 | zero=>rw [yR,yR,yR,yR,bI]
 | succ k ih =>
  rw [xN (cv f g) h,xN f (cv g h),yR];have e:cv (λj=>cv f g (j+1)) h k=cv (λj=>f 0*g (j+1)+cv (λj=>f (j+1)) g j) h k:=rc (λj=>xN f g j) λ_=>rfl;rw [e,Ag,C6,ih,xN g h];grind
theorem yQ(f g:Nat->Int)(k:Nat):cv f g (k+1)=f 0*g (k+1)+sm (λj=>f (j+1)*g (k-j)) k+f (k+1)*g 0:=by
 rw [xN];unfold cv;rw [sm,bc];exact (Int.add_assoc _ _ _).symm
def pw(g:Nat->Int):Nat->Nat->Int
 | 0=>λj=>if j=0 then 1 else 0
 | m+1=>cv (pw g m) g
theorem Ay{g:Nat->Int}(h:g 0=1):∀ m,pw g m 0=1
 | 0=>rfl
 | m+1=>by show cv _ _ 0=1;rw [yR,Ay h m,h];rfl
theorem yk{g:Nat->Int}{k:Int}(h:g 0=1)(hg:∀ i,k∣g (i+1)):∀ m i,(k*k∣pw g m (i+1)-m*g (i+1))/\k∣pw g m (i+1)
 | 0,i=>⟨by simp [pw],by simp [pw]⟩
 | m+1,i=>by
  obtain⟨a,b⟩:=yk h hg m i;have e:pw g (m+1) (i+1)=cv (pw g m) g (i+1):=rfl;rw [yQ,Ay h,h] at e;have d:k*k∣sm (λj=>pw g m (j+1)*g (i-j)) i:=F2 λj hj=>by
   rw [show i-j=(i-j-1)+1 by omega];exact fk (yk h hg m j).2 (hg _)
  have q:k*k∣pw g (m+1) (i+1)-(m+1:Nat)*g (i+1):=by
   rw [show pw g (m+1) (i+1)-((m+1:Nat):Int)*g (i+1)=sm (λj=>pw g m (j+1)*g (i-j)) i+(pw g m (i+1)-m*g (i+1)) by rw [e];grind];exact eJ d a
  refine⟨q,?_⟩;have q2:k∣pw g (m+1) (i+1)-(m+1:Nat)*g (i+1):=dQ (dN k k) q;have q3:k∣((m+1:Nat):Int)*g (i+1):=fX (hg i);have:=eJ q2 q3;rwa [gK] at this
theorem yj{g g':Nat->Int}{s:Nat}(h:g 0=1)(hh:∀ i,i<=s->g' i=g i):∀ m,(∀ i,i<=s->pw g' m i=pw g m i)/\pw g' m (s+1)=pw g m (s+1)+m*(g' (s+1)-g (s+1))
 | 0=>⟨λ_ _=>rfl,by simp [pw]⟩
 | m+1=>by
  obtain⟨a,b⟩:=yj h hh m;have h':g' 0=1:=by rw [hh 0 (aB _),h]
  refine⟨λi hi=>xM (λj hj=>a j (by omega)) λj hj=>hh j (by omega),?_⟩;show cv (pw g' m) g' (s+1)=cv (pw g m) g (s+1)+_;rw [yQ,yQ,Ay h',Ay h,h,h',b];have:sm (λj=>pw g' m (j+1)*g' (s-j)) s=sm (λj=>pw g m (j+1)*g (s-j)) s:=qT λj hj=>by rw [a (j+1) (by omega),hh (s-j) (by omega)]
  rw [this];grind
theorem Im{a:Nat->Int}{k:Nat}(hk:0<k)(h0:a 0=1)(ha:∀ i,(k*k:Int)∣a (i+1)):∀ s:Nat,∃ g:Nat->Int,g 0=1/\(∀ i,(k:Int)∣g (i+1))/\∀ j,j<=s->pw g k j=a j
 | 0=>⟨λi=>if i=0 then 1 else 0,rfl,λi=>by simp,λj hj=>by
   rw [show j=0 by omega,h0];exact Ay (by rfl) k⟩
 | s+1=>by
  obtain⟨g,g0,gd,ge⟩:=Im hk h0 ha s;have m1:=(yk g0 gd k s).1;have m2:(k*k:Int)∣pw g k (s+1):=by
   have:(k*k:Int)∣k*g (s+1):=fk (gn _) (gd s);have:=eJ m1 this;rwa [gK] at this
  obtain⟨t,ht⟩:=Int.dvd_sub (ha s) m2;have hh:∀ i,i<=s->(if i=s+1 then g i+k*t else g i)=g i:=λi hi=>if_neg (by omega);have P:=yj (g':=λi=>if i=s+1 then g i+k*t else g i) g0 hh k;refine⟨λi=>if i=s+1 then g i+k*t else g i,?_,λi=>?_,λj hj=>?_⟩
  ·exact (hh 0 (aB _)).trans g0
  ·show (k:Int)∣if i+1=s+1 then _ else _;split
   ·exact eJ (gd i) (dN _ _)
   ·exact gd i
  ·rcases ar s j with c|c
   ·rw [show j=s+1 by omega,P.2];simp only [if_true];grind
   ·rw [P.1 j c,ge j c]
def th(f:Nat->Int):Nat->Int:=λj=>j*f j
theorem HZ(f g:Nat->Int)(k:Nat):th (cv f g) k=cv (th f) g k+cv f (th g) k:=by
 unfold th cv;rw [← tR,bh,← sH];refine qT λj hj=>?_;have:((k-j:Nat):Int)=k-j:=by omega
 show f j*g (k-j)*k=j*f j*g (k-j)+f j*(((k-j:Nat):Int)*g (k-j));rw [this];grind
theorem E2(g:Nat->Int):∀ m j,cv (th (pw g m)) g j=m*cv (pw g m) (th g) j
 | 0,j=>by
  rw [Int.natCast_zero,aI];refine uI λi=>?_;show (i:Int)*(if i=0 then 1 else 0)=0;split
  ·rw [‹i=0›];rfl
  ·exact bJ _
 | m+1,j=>by
  have e:cv (th (pw g (m+1))) g j=cv (λi=>cv (th (pw g m)) g i+cv (pw g m) (th g) i) g j:=rc (λi=>HZ _ _ i) λ_=>rfl;have e1:cv (cv (th (pw g m)) g) g j=cv (λi=>m*cv (pw g m) (th g) i) g j:=rc (λi=>E2 g m i) λ_=>rfl;have e2:cv (cv (pw g m) (th g)) g j=cv (pw g (m+1)) (th g) j:=by
   rw [ug];show _=cv (cv (pw g m) g) (th g) j;rw [ug];exact rc (λ_=>rfl) λi=>so _ _ i
  rw [e,Ag];have e3:cv (λi=>cv (th (pw g m)) g i) g j=m*cv (pw g (m+1)) (th g) j:=by
   refine Eq.trans (show _=cv (cv (th (pw g m)) g) g j from rfl) ?_;rw [e1,C6,← e2]
  have e4:cv (λi=>cv (pw g m) (th g) i) g j=cv (pw g (m+1)) (th g) j:=e2;rw [e3,e4];grind
theorem step{a g:Nat->Int}{k s j:Nat}(g0:g 0=1)(h0:a 0=1)(h:∀ j,j<=s->pw g k j=a j)(hj:j<=s) :
  sm (λi=>(((i+1:Nat):Int)*(k+1)-j*k)*a (i+1)*g (j-(i+1))) j=j*k*g j:=by
 have e:=E2 g k j;have e1:cv (th (pw g k)) g j=cv (th a) g j:=xM (λi hi=>by unfold th;rw [h i (by omega)]) λ_ _=>rfl;have e2:cv (pw g k) (th g) j=cv a (th g) j:=xM (λi hi=>h i (by omega)) λ_ _=>rfl;rw [e1,e2] at e;unfold cv at e;rw [tI,tI] at e;have z:th a 0=0:=by simp [th]
 have z2:th g (j-0)=j*g j:=rfl;rw [z,z2,h0,aI,bT,bV,Int.mul_add] at e;have q:sm (λi=>(((i+1:Nat):Int)*(k+1)-j*k)*a (i+1)*g (j-(i+1))) j=sm (λi=>th a (i+1)*g (j-(i+1))+a (i+1)*th g (j-(i+1))*(-k)) j:=qT λi hi=>by
  unfold th;have:((j-(i+1):Nat):Int)=j-(i+1:Nat):=by omega
  rw [this];grind
 rw [q,tR,sH (λi=>a (i+1)*th g (j-(i+1)))];grind
end Ca
namespace Ca
open Cv L2
theorem DP{a g:Nat->Int}{k s A:Nat}(hk:0<k)(k7:k<=100)(s7:s<=100)(g0:g 0=1)(ha:∀ i,Lt2 A (a i))
  (h:∀ j,j<=s->sm (λi=>(((i+1:Nat):Int)*(k+1)-j*k)*a (i+1)*g (j-(i+1))) j=j*k*g j):∀ j,j<=s->Lt2 ((A+22)*j+1) (g j):=by
 intro j;induction j using Nat.strongRecOn with
 | ind j ih =>
  intro hj;rcases cR j with e|e
  ·subst e;rw [g0];exact Lt2.mono (n:=1) (by unfold Lt2;decide) (by omega)
  ·have e1:=h j hj;have m1:(A+22)*j=(A+22)*(j-1)+(A+22):=by
    rw [show j=(j-1)+1 by omega,bC];rfl
   have hF:∀ i,i<j->Lt2 (15+A+((A+22)*(j-1)+1)) ((((i+1:Nat):Int)*(k+1)-j*k)*a (i+1)*g (j-(i+1))):=λi hi=>by
    have c1:(i+1)*(k+1)<=100*101:=aX (by omega) (by omega);have c2:j*k<=100*100:=aX (by omega) (by omega);have l1:Lt2 15 (((i+1:Nat):Int)*(k+1)-j*k):=by
     have c1':(((i+1:Nat):Int)*(k+1))=(((i+1)*(k+1):Nat):Int):=by push_cast;rfl
     have c2':((j:Int)*k)=((j*k:Nat):Int):=by push_cast;rfl
     rw [c1',c2'];unfold Lt2;omega
    have l3:=(ih (j-(i+1)) (by omega) (by omega)).mono (m:=(A+22)*(j-1)+1) (Nat.succ_le_succ (ai _ (by omega)));exact (l1.mul (ha _)).mul l3
   have b:=Bw (b:=7) (i:=j) (by omega) hF;rw [e1] at b;have p:(g j).natAbs<=((j:Int)*k*g j).natAbs:=by
    rw [aO];refine bo _ ?_;have:0<j*k:=gw e hk;have q:((j:Int)*k)=((j*k:Nat):Int):=by push_cast;rfl
    rw [q];omega
   unfold Lt2;rw [show (A+22)*j+1=7+(15+A+((A+22)*(j-1)+1)) by omega,dG];refine bE (aC p b) ?_;exact dr (show j<2^7 by omega) (bG (by decide))
theorem FX(ns:List Int):ns.sum=sm (λi=>ns.getD i 0) ns.length:=by
 induction ns with
 | nil=>rfl
 | cons n ns ih =>
  rw [List.sum_cons,a7,tI,ih];rfl
end Ca
namespace Ca
open Cv L2
theorem Jj{P:Nat->Int}{n k:Nat}{c l:Int}(hl:P n=l)(h0:l≠0)(hc:c=((l.natAbs:Nat):Int)*k*k) :
  ∀ j,j<=n->l*(P (n-j)*c^j).fdiv l=P (n-j)*c^j/\(j=0->(P (n-j)*c^j).fdiv l=1)/\(0<j->(k*k:Int)∣(P (n-j)*c^j).fdiv l):=by
 intro j hj;cases j with
 | zero =>
  rw [bx,hl,aU,bH];have:l.fdiv l=1:=by
   have:=dm 1 h0;rwa [bV] at this
  rw [this];exact⟨bH _,λ_=>rfl,λh=>absurd h (bt _)⟩
 | succ j =>
  obtain⟨z,hz⟩:∃ z:Int,((l.natAbs:Nat):Int)=z*l/\True:=by
   rcases Int.natAbs_eq l with e|e
   ·exact⟨1,by omega,trivial⟩
   ·exact⟨-1,by omega,trivial⟩
  have e:P (n-(j+1))*c^(j+1)=(P (n-(j+1))*z*c^j*(k*k))*l:=by
   rw [aV];have:c=z*l*k*k:=by rw [hc,hz.1]
   calc P (n-(j+1))*(c^j*c)=P (n-(j+1))*c^j*c:=by grind
    _=P (n-(j+1))*c^j*(z*l*k*k):=congrArg _ this
    _=_:=by grind
  rw [e,dm _ h0];exact⟨bh _ _,λh=>absurd h (by omega),λ_=>Int.dvd_mul_left _ _⟩
def Cand(P:Nat->Int)(k s:Nat)(R:Nat->Int)(C:Int):Prop :=
 ∃(c:Int) (g:Nat->Int),0<c/\g 0=1/\(∀ j,j<s->P (k*s-j)*c^j=P (k*s)*pw g k j)/\(∀ i,i<s->R (s-i)*c^i=g i*C)/\R 0=0
theorem Kd{c C:Int}{R g:Nat->Int}{s:Nat}(hc:0<c)(h:∀ m,m<s->R (m+1)*c^(s-1)=g (s-(m+1))*c^m*C):∀ i,i<s->R (s-i)*c^i=g i*C:=by
 intro i hi;have e:=h (s-i-1) (by omega);rw [show s-i-1+1=s-i by omega,show s-(s-i)=i by omega,show s-1=(s-i-1)+i by omega,cy] at e;have p:c^(s-i-1)≠0:=bP (by omega);refine aH p ?_;grind
end Ca
namespace L2
open PySem
section
variable{X:Cx}
theorem uv:∀(ns:List Int) (n:Nat),n<=ns.length->preSum (λi=>ns.getD i 0) n=(ns.take n).sum
 | ns,0,_=>by simp [preSum]
 | ns,n+1,h=>by
  have e:ns.take (n+1)=ns.take n++[ns.getD n 0]:=by
   rw [List.take_succ,ac,ao (by omega)];rfl
  rw [e,List.sum_append,← uv ns n (by omega)];simp [preSum]
theorem Kb(K:Frag)(hc:X.calm=true:=by rfl)(hK:X.K=K:=by rfl):CallR X (.builtin "sum") (λxs H Q=>∃ p,∃ ns:List Int,xs=[.ref p]/\SqL K H p (ns.map V.int)/\Q (.int ns.sum) H):=by
 subst hK;intro pins s σ H xs us Q I rv h;obtain⟨p,ns,rfl,hp,q⟩:=h;obtain⟨u,rfl,ru⟩:=rv.one;cases ru;obtain⟨its,rv',pl,_⟩:=I.list hp;obtain⟨ys,e1,e2⟩:=tF rv';subst e1;have hl:s.heap.IsList p (intItems ys.toArray):=by
  have:intItems ys.toArray=(ys.map (λp=>Value.int p.1 p.2)).toArray:=by simp [intItems]
  rw [this];exact pl.isList
 refine sum_intListG (I.ok.hd hc) hl λh' tk t' hk=>?_;refine⟨.int _,H,I.kept (t':=tk) hk,⟨t',rfl⟩,?_⟩;have:preSum (numAt ys.toArray) ys.toArray.size=ns.sum:=by
  have e:numAt ys.toArray=λi=>ns.getD i 0:=by
   funext i;rw [numAt_eq,← e2]
  have l:ys.toArray.size=ns.length:=by rw [← e2];simp
  rw [e,l,uv ns _ (af _),bF]
 rw [this];exact q
end
end L2
namespace L2
open PySem PySem.Spec PyProof.Rows
theorem Ao{P:Program}{w:World}{K:Frag}{tg:Expr}(n:Nat)(a it:Addr):Turn P w K tg (⟨λi H=>i<n/\∃ xs x,SqL K H a xs/\xs.length=n/\xs.reverse[i]? = some x,λi H x H'=>H'=H/\∀ xs,SqL K H a xs->xs.reverse[i]? = some x,λi H=>i=n⟩:It) [it] it (λi h=>h.IsRevIter it a ((n:Int)-1-(i:Int))) where
 mem:=by simp
 obj:=λi h st b hb=>by
  have e:b=it:=by simpa using hb
  subst e;obtain⟨o,e,c,d⟩:=st;exact⟨o,e,λv z=>by rw [d] at z;cases z⟩
 keep:=λi h h' st k=>by
  obtain⟨o,e,r⟩:=st;exact⟨o,k it (by simp) o e,r⟩
 item:=by
  intro X hP hw hK hc i pins s σ H E I hf st hg;subst hP hw hK;obtain⟨hlt,xs,x,hq,hn,hx⟩:=hg;obtain⟨its,rv,p,hz⟩:=I.list hq;have hlen:=rv.length;rw [bu (by omega)] at hx;obtain⟨u,hu,ru⟩:=rv.get hx;obtain⟨f0,f1,f2,f3,f4,f5⟩:=hf it (by simp);have e0:(n:Int)-1-(i:Int)=((xs.length-1-i:Nat):Int):=by omega
  have st':s.heap.IsRevIter it a ((xs.length-1-i:Nat):Int):=by rw [← e0];exact st
  refine wpAny_pyNext_rev_item (i:=xs.length-1-i) st' p.isList (x:=u) (by simpa using hu) λh' st2 sb=>?_;have I1:Inv X pins σ H { s with heap:=h' }:=I.turned (t':=s.toks) (λb o hb e=>(sb.2 b hb).trans e) f0 f1 f3 f4 f5;obtain⟨o,e,c,d⟩:=id st2;refine⟨u,rfl,xG (s:={ s with heap:=h' }) e c d (by decide) ⟨x,H,I1,ru,⟨rfl,λys hy=>?_⟩,?_,λb hb=>(hf b hb).1⟩⟩
  ·rw [I.list_inj hy hq,bu (by omega)];exact hx
  ·show h'.IsRevIter it a ((n:Int)-1-((i+1:Nat):Int));rw [show (n:Int)-1-((i+1:Nat):Int)=((xs.length-1-i:Nat):Int)-1 by omega];exact st2
 done:=by
  intro X hP hw hK hc i pins s σ H E I hf st hg;subst hP hw hK;have hg':i=n:=hg;subst hg';obtain⟨f0,f1,f2,f3,f4,f5⟩:=hf it (by simp);have st':s.heap.IsRevIter it a (-1):=by
   have e:(i:Int)-1-(i:Int) = -1:=by omega
   rw [← e];exact st
  exact wpAny_pyNext_rev_end (I.ok.hd hc) st' λh' eb=>⟨rfl,I.turned (t':=s.toks) (λb o hb e=>eb b o hb e) f0 f1 f3 f4 f5⟩
 self:=λ_ _ _ _ _ st h=>wpAny_pyIter_revIter st h
end L2
namespace L2
open PySem PySem.Spec PyProof.Rows
theorem AJ:fillsNumberSlot (.type "tuple") "mul" = pure false:=PySem.fillsNumberSlot_seq (id := "tuple.__mul__") (r:=some (.builtin "tuple.__rmul__")) F.slot_tuple_mul.lookup (by decide +kernel) F.slot_tuple_rmul.lookup (by decide +kernel)
theorem F8:seqRepeat? (.type "tuple")=pure (some (.builtin "tuple.__mul__")):=by
 unfold seqRepeat?;rw [PySem.seqSlot_of (T := "tuple") (name := "__mul__") (id := "tuple.__mul__") F.slot_tuple_mul.lookup (by decide +kernel),PySem.seqSlot_of (T := "tuple") (name := "__rmul__") (id := "tuple.__rmul__") F.slot_tuple_rmul.lookup (by decide +kernel)];rfl
theorem DQ(a:Int)(t:Tok)(l:Addr)(items:Array Value)(n:Nat)(dd:Option Addr)(sl:Array (Option Value)):Meets (Builtin.«int.__rmul__» ⟨[.int a t,.ref l],[]⟩) (λ_ R s=>s.heap.get? l=some { cls:=.type "tuple",dict:=dd,data:=.seq items n,slots:=sl }/\R (.ok (.ret Value.notImplemented)) s) :=
 .of_wp λprog w A R s h=>by obtain⟨p1,p2,p3,p4,p5⟩:=s;obtain⟨hl,h⟩:=h;wp_walk;exact⟨_,rfl,h⟩
theorem Er(l:Addr)(items:Array Value)(n:Nat)(u:Tok)(dd:Option Addr)(sl:Array (Option Value)):Meets (Builtin.«tuple.__mul__» ⟨[.ref l,.int 1 u],[]⟩) (λ_ R s=>s.heap.get? l=some { cls:=.type "tuple",dict:=dd,data:=.seq items n,slots:=sl }/\R (.ok (.ret (.ref l))) s) :=
 .of_wp λprog w A R s h=>by
  obtain⟨p1,p2,p3,p4,p5⟩:=s;obtain⟨hl,h⟩:=h;have f2:=AutoSeq1.sub_tuple_tuple
  wp_walk using AutoSeq1.wpAny_loadPart' hl
  exact⟨_,rfl,h⟩
theorem Ep(l:Addr)(items:Array Value)(n:Nat)(x:Int)(u:Tok)(dd:Option Addr)(sl:Array (Option Value))(h0:items.isEmpty=false)(h1:¬ (decide (x < -(2^63)) || decide (x ≥ 2^63))=true)(h2:(x == 1)=false)(h3:¬ x<=0)(h4:¬ (items.size:Int)*x > (2^63-1) / 8)(h5:Builtin.Tuple.tupleTooMany ((items.size:Int)*x)=false)(h6:(List.foldl (λx1 x2=>x1++x2) #[] (List.replicate x.toNat items)).size<=sizeLine) :
  Meets (Builtin.«tuple.__mul__» ⟨[.ref l,.int x u],[]⟩) (λ_ R s=>s.heap.get? l=some { cls:=.type "tuple",dict:=dd,data:=.seq items n,slots:=sl }/\R (.ok (.ret (.ref s.heap.objs.size))) { s with heap:=s.heap.push { cls:=.type "tuple",data:=.seq (List.foldl (λx1 x2=>x1++x2) #[] (List.replicate x.toNat items)) } }) :=
 .of_wp λprog w A R s h=>by
  obtain⟨p1,p2,p3,p4,p5⟩:=s;obtain⟨hl,h⟩:=h;have f2:=AutoSeq1.sub_tuple_tuple
  wp_walk using AutoSeq1.wpAny_loadPart' hl
  rw [if_neg h1]
  wp_walk using AutoSeq1.wpAny_loadPart' hl
  rw [if_neg h4]
  wp_walk
  exact⟨_,rfl,h⟩
def Ir(K:Frag):R2:=λx y H Q=>∃ l xs,∃ k:Nat,x = .ref l/\y = .int k/\SqT K H l xs/\xs≠[]/\1<=k/\xs.length*k<=100000/\(k=1->Q (.ref l) H)/\(k≠1->∀ p,H p=none->Q (.ref p) (rD H p (.tup (List.replicate k xs).flatten)))
theorem D9{X:Cx}:OpR X (binaryOp .Mult) (Ir X.K):=by
 intro pins s σ H x y v u Q I rx ry h;obtain⟨l,xs,k,rfl,rfl,hH,hne,hk,hz,q1,q2⟩:=h;cases rx;obtain⟨t,rfl⟩:=ry;obtain⟨its,rv,p,hz2⟩:=I.tuple hH;obtain⟨⟨cls,dd,data,sl⟩,e,hc,n,hd⟩:=p;simp only at hc hd;subst hc hd;have hl:=rv.length;have sz:100000<=sizeLine:=by rw [sizeLine_eq];decide
 have go:∀ z:Int,z=(k:Int)->wpAny (model X.prog X.w) X.A (call (.builtin "tuple.__mul__") [.ref l,.int z t]) (EP X pins σ Q) X.xe s:=by
  rintro z hzk;by_cases h1:k=1
  ·rw [show z=1 by omega];exact call_meets F.slot_tuple_mul ⟨_,e,rfl⟩ F.entry_tuple_mul (F.args_tuple_mul_2 _ _) (Er l its.toArray n t dd sl) ⟨e,⟨.ref l,H,I,rfl,q1 h1⟩⟩
  ·have f0:∀ m:Nat,List.foldl (λx1 x2=>x1++x2) #[] (List.replicate m its.toArray)=(List.replicate m its).flatten.toArray:=λm=>by
    have:=uz its m [];rw [e9] at this;exact this
   have zk:z.toNat=k:=by omega
   have im:(its.toArray.size:Int)*z=((xs.length*k:Nat):Int):=by rw [hzk,ak,← hl];exact (Int.natCast_mul _ _).symm
   refine call_meets F.slot_tuple_mul ⟨_,e,rfl⟩ F.entry_tuple_mul (F.args_tuple_mul_2 _ _) (Ep l its.toArray n z t dd sl ?_ ?_ ?_ ?_ ?_ ?_ ?_) ⟨e,?_⟩
   ·cases its with
    | nil=>exact absurd (bR.mp hl) hne
    | cons=>rfl
   ·simp;have:xs.length*k ≥ k:=bo _ (cL.mpr hne);omega
   ·have:z≠1:=by omega
    simpa using this
   ·omega
   ·rw [im];omega
   ·unfold Builtin.Tuple.tupleTooMany;rw [im];exact decide_eq_false (by omega)
   ·rw [f0,zk,ak,wL,← hl,aT];omega
   ·rw [f0,zk];refine⟨.ref _,_,I.laid (o:=.tup (List.replicate k xs).flatten) (t':=s.toks) (λb u e=>ηH _ e) (af _) ⟨?_,(List.replicate k its).flatten,rv.rep k,⟨_,ηG _ rfl,rfl,_,rfl⟩⟩,rfl,q2 h1 _ I.fresh⟩;rw [wL,aT];omega
 generalize hzk:(k:Int)=z;refine wpAny_binaryOp_repeat_ref (T := "tuple") (U := "int") (by decide) ⟨_,e,rfl⟩ (λs'=>typeIs_int s' z t) AJ F.fills_int_mul F.slot_int_rmul F8 F.slot_int_index.lookup
  (call_meets F.slot_int_rmul (typeIs_int s z t) F.entry_int_rmul (F.args_int_rmul_2 _ _) (DQ z t l its.toArray n dd sl) ⟨e,rfl,⟨_,e,rfl⟩,go z hzk.symm⟩)
end L2
namespace L2
open PySem PySem.Spec PyProof.Rows
def Jk(C:Addr)(d:Option Addr)(u:Addr):Obj:={ cls:=.ref C,dict:=d,data:=.fields #[.ref u,.none,.none,.none,.bool false,.none] }
def JN(a C:Addr)(d:Option Addr)(u:Addr):HO:=.ext λh=>h.get? a=some (Jk C d u)
end L2
set_option maxHeartbeats 1000000
namespace L2
open PySem PySem.Spec PyProof.Rows
theorem KV.at:∀{kvs:List (uX×V)} {vs:List (uX×Value)} {j:Nat} {kv:uX×V},KV kvs vs->kvs[j]? = some kv->∃ u,vs[j]? = some (kv.1,u)/\RelV kv.2 u
 | _,_,0,_,.cons (b:=q) r t,h=>by cases h;exact⟨q.2,by rw [r.1];rfl,r.2⟩
 | _,_,j+1,_,.cons r t,h=>by
  rw [cu] at h;obtain⟨u,e1,e2⟩:=KV.at t h;exact⟨u,by rw [cu];exact e1,e2⟩
section
variable{X:Cx}
def Ix:R2:=λx y H Q=>∃ p kvs k v,x = .ref p/\y=kV k/\H p=some (.dK kvs)/\(k,v)∈kvs/\Q v H
theorem Ew:IxR X Ix:=by
 intro value slice pins s σ H x y v u Q I rx ry h hs;obtain⟨p,kvs,k,z,rfl,rfl,hq,he,q⟩:=h;cases rx;obtain⟨hz,hn,vs,rel,dd⟩:kvs.length<=sizeLine/\(p == sysModules)=false/\∃ vs,KV kvs vs/\s.heap.DictOf (ub X.prog X.w) p vs:=I.hok p _ hq;obtain⟨j,hj⟩:=bA.mp he;obtain⟨w,ew,rw'⟩:=rel.at hj;have hk:(ub X.prog X.w).is k u=true:=by
  cases k with
  | inl i=>obtain⟨t,rfl⟩:=ry;exact AT i t
  | inr x=>obtain⟨t,rfl⟩:=ry;exact AS x t
 have dd':=dd;obtain⟨o,es,ep,g1,g2,g3,g4,g5,nd⟩:=dd';have hat:valueAt vs k=some w:=by
  unfold valueAt;have hm:(k,w)∈vs:=aL ew;clear dd g3 g4 g5 rel ew;induction vs with
  | nil=>cases hm
  | cons a vs ih =>
   rw [dJ,c8] at nd;rcases am.mp hm with e|e
   ·subst e;simp
   ·have:a.1≠k:=λz=>nd.1 (by rw [z];exact dj.mpr ⟨_,e,rfl⟩);rw [List.find?_cons];rw [decide_eq_false this];exact ih nd.2 e
 have fin:EP X pins σ Q w { s with toks:=s.toks+1 }:=⟨z,H,I.tok _,rw',q⟩;exact subscriptTail_builtinR (x:=w) (T := "dict") ⟨o,g1,g2.1⟩ PySem.F.slot_dict_getitem.lookup (wpAny_getItem_of (Q:=λr s'=>r=w/\EP X pins σ Q r s') hk dd.mapOf hat ⟨rfl,fin⟩) hs
end
end L2
namespace Dp
open PySem L2
abbrev St:=L2.St
def Fl(H:Hp)(f:Addr):Prop:=∃(l:Addr) (ns:List Int) (i c a b:Int),H f=some (.lst [.ref l,.int i,.int c,.int a,.int b])/\H l=some (.lst (ns.map V.int))/\ns.length<=63/\0<=i/\i<=(ns.length:Int)/\0<=c/\0<=a/\a<2147483647
theorem Fl.same{H H':Hp}{f:Addr}(F:Fl H f)(e:Same H H'):Fl H' f:=by
 obtain⟨l,ns,i,c,a,b,h1,h2,h⟩:=F;exact⟨l,ns,i,c,a,b,e _ _ h1,e _ _ h2,h⟩
theorem Fl.lst{H:Hp}{f:Addr}(F:Fl H f):∃ xs,H f=some (.lst xs):=by
 obtain⟨l,ns,i,c,a,b,h1,_⟩:=F;exact⟨_,h1⟩
inductive D where
 | non|bl (b:Bool)|int (i:Int)|str (x:Str)|tup (l:List D)|lst (l:List D)|fl
  | exn (C:Addr) (x:Str) (l:List D)
  | dct (ks:List uX) (l:List D)
def XO(H:Hp)(a C:Addr)(x:Str)(us:List V):Prop:=(us=[]/\∃ u,H a=some (JN a C none u))\/∃ dx u y,us=[y]/\H a=some (JN a C (some dx) u)/\H dx=some (.xd [(x,y)])
mutual
def Rp(K:Frag)(f:Addr)(O:List Addr)(H:Hp):D->V->Prop
 | .non,v=>v = .non
 | .bl b,v=>v = .bl b
 | .int i,v=>v = .int i
 | .str x,v=>v = .str x
 | .tup l,v=>∃ a xs,v = .ref a/\SqT K H a xs/\Rps K f O H l xs
 | .lst l,v=>∃ a xs,v = .ref a/\a ∉ O/\H a=some (.lst xs)/\Rps K f O H l xs
 | .fl,v=>v = .ref f
 | .exn C x l,v=>∃ a us,v = .ref a/\XO H a C x us/\Rps K f O H l us
 | .dct ks l,v=>∃ a us,v = .ref a/\H a=some (.dK (ks.zip us))/\ks.length=us.length/\Rps K f O H l us
def Rps(K:Frag)(f:Addr)(O:List Addr)(H:Hp):List D->List V->Prop
 | [],vs=>vs=[]
 | d::ds,vs=>∃ v r,vs=v::r/\Rp K f O H d v/\Rps K f O H ds r
end
structure Ex (f:Addr)(H H':Hp):Prop where
 sm:Sm f H H'
 fl:Fl H' f
theorem Ex.refl{f:Addr}{H:Hp}(h:Fl H f):Ex f H H:=⟨Sm.refl H,h⟩
theorem Ex.trans{f:Addr}{H H1 H2:Hp}(a:Ex f H H1)(b:Ex f H1 H2):Ex f H H2:=⟨a.sm.trans b.sm,b.fl⟩
theorem Ex.new{f p:Addr}{H:Hp}(F:Fl H f)(h:H p=none)(o:HO):Ex f H (rD H p o):=⟨Sm.new h o,F.same (Same.new h o)⟩
variable{K:Frag}{f:Addr}{O O':List Addr}{H H':Hp}
def Kp(O:List Addr)(H H':Hp):Prop:=∀ b o,b ∉ O->H b=some o->H' b=some o
theorem Ex.kp(e:Ex f H H')(h:f∈O):Kp O H H':=λb o n q=>e.sm.app b o (λz=>n (z ▸ h)) q
theorem _root_.L2.SqT.kp{a:Addr}{xs:List V}(e:Kp O H H')(hO:∀ b∈O,∃ xs,H b=some (.lst xs))(h:SqT K H a xs):SqT K H' a xs:=by
 rcases h with (h|⟨o,h⟩)|h
 ·refine .inl (.inl (e a _ (λz=>?_) h));obtain⟨xs,q⟩:=hO a z;rw [q] at h;cases h
 ·refine .inl (.inr ⟨o,e a _ (λz=>?_) h⟩);obtain⟨xs,q⟩:=hO a z;rw [q] at h;cases h
 ·exact .inr h
theorem XO.kp{a C:Addr}{x:Str}{us:List V}(e:Kp O H H')(hO:∀ b∈O,∃ xs,H b=some (.lst xs))(h:XO H a C x us):XO H' a C x us:=by
 rcases h with⟨e1,u,h⟩|⟨dx,u,y,e1,h,hd⟩
 ·refine .inl ⟨e1,u,e a _ (λz=>?_) h⟩;obtain⟨xs,q⟩:=hO a z;rw [q] at h;unfold JN at h;cases h
 ·refine .inr ⟨dx,u,y,e1,e a _ (λz=>?_) h,e dx _ (λz=>?_) hd⟩
  ·obtain⟨xs,q⟩:=hO a z;rw [q] at h;unfold JN at h;cases h
  ·obtain⟨xs,q⟩:=hO dx z;rw [q] at hd;cases hd
mutual
theorem Rp.kp(e:Kp O H H')(hO:∀ b∈O,∃ xs,H b=some (.lst xs)):∀{d:D} {v:V},Rp K f O H d v->Rp K f O H' d v
 | .non,_,h=>h
 | .bl _,_,h=>h
 | .int _,_,h=>h
 | .str _,_,h=>h
 | .fl,_,h=>h
 | .tup l,v,h=>by
  obtain⟨a,xs,e1,h1,h2⟩:=h;exact⟨a,xs,e1,h1.kp e hO,Rps.kp e hO h2⟩
 | .lst l,v,h=>by
  obtain⟨a,xs,e1,n,h1,h2⟩:=h;exact⟨a,xs,e1,n,e a _ n h1,Rps.kp e hO h2⟩
 | .exn C x l,v,h=>by
  obtain⟨a,us,e1,h1,h2⟩:=h;exact⟨a,us,e1,h1.kp e hO,Rps.kp e hO h2⟩
 | .dct ks l,v,h=>by
  obtain⟨a,us,e1,h1,h2,h3⟩:=h;exact⟨a,us,e1,e a _ (λz=>by obtain⟨xs,q⟩:=hO a z;rw [q] at h1;cases h1) h1,h2,Rps.kp e hO h3⟩
theorem Rps.kp(e:Kp O H H')(hO:∀ b∈O,∃ xs,H b=some (.lst xs)):∀{ds:List D} {vs:List V},Rps K f O H ds vs->Rps K f O H' ds vs
 | [],_,h=>h
 | d::ds,_,h=>by
  obtain⟨v,r,e1,h1,h2⟩:=h;exact⟨v,r,e1,Rp.kp e hO h1,Rps.kp e hO h2⟩
end
mutual
theorem Rp.less(e:∀ a∈O',a∈O):∀{d:D} {v:V},Rp K f O H d v->Rp K f O' H d v
 | .non,_,h=>h
 | .bl _,_,h=>h
 | .int _,_,h=>h
 | .str _,_,h=>h
 | .fl,_,h=>h
 | .tup l,v,h=>by
  obtain⟨a,xs,e1,h1,h2⟩:=h;exact⟨a,xs,e1,h1,Rps.less e h2⟩
 | .lst l,v,h=>by
  obtain⟨a,xs,e1,n,h1,h2⟩:=h;exact⟨a,xs,e1,λz=>n (e a z),h1,Rps.less e h2⟩
 | .exn C x l,v,h=>by
  obtain⟨a,us,e1,h1,h2⟩:=h;exact⟨a,us,e1,h1,Rps.less e h2⟩
 | .dct ks l,v,h=>by
  obtain⟨a,us,e1,h1,h2,h3⟩:=h;exact⟨a,us,e1,h1,h2,Rps.less e h3⟩
theorem Rps.less(e:∀ a∈O',a∈O):∀{ds:List D} {vs:List V},Rps K f O H ds vs->Rps K f O' H ds vs
 | [],_,h=>h
 | d::ds,_,h=>by
  obtain⟨v,r,e1,h1,h2⟩:=h;exact⟨v,r,e1,Rp.less e h1,Rps.less e h2⟩
end
theorem Rps.len:∀{ds:List D} {vs:List V},Rps K f O H ds vs->vs.length=ds.length
 | [],_,h=>by rw [show _=[] from h];rfl
 | d::ds,_,h=>by
  obtain⟨v,r,e1,h1,h2⟩:=h;rw [e1,a7,a7,Rps.len h2]
theorem Rps.get:∀{ds:List D} {vs:List V} {i:Nat} {d:D},Rps K f O H ds vs->ds[i]? = some d->∃ v,vs[i]? = some v/\Rp K f O H d v
 | [],_,_,_,_,e=>by simp at e
 | d0::ds,_,i,d,h,e=>by
  obtain⟨v,r,e1,h1,h2⟩:=h;subst e1;cases i with
  | zero =>
   simp at e;subst e;exact⟨v,rfl,h1⟩
  | succ i =>
   obtain⟨w,hw,h⟩:=Rps.get h2 (i:=i) (d:=d) (by simpa using e);exact⟨w,by simpa using hw,h⟩
theorem Rps.append:∀{ds es:List D} {vs ws:List V},Rps K f O H ds vs->Rps K f O H es ws->Rps K f O H (ds++es) (vs++ws)
 | [],_,_,_,h,t=>by rw [show _=[] from h];exact t
 | d::ds,_,_,_,h,t=>by
  obtain⟨v,r,e1,h1,h2⟩:=h;subst e1;exact⟨v,_,rfl,h1,Rps.append h2 t⟩
theorem Rps.take:∀{ds:List D} {vs:List V} (n:Nat),Rps K f O H ds vs->Rps K f O H (ds.take n) (vs.take n)
 | _,_,0,_=>by rw [du,du];rfl
 | [],_,n+1,h=>by rw [show _=[] from h];rfl
 | d::ds,_,n+1,h=>by
  obtain⟨v,r,e1,h1,h2⟩:=h;subst e1;exact⟨v,_,rfl,h1,Rps.take n h2⟩
theorem Rps.drop:∀{ds:List D} {vs:List V} (n:Nat),Rps K f O H ds vs->Rps K f O H (ds.drop n) (vs.drop n)
 | _,_,0,h=>h
 | [],_,n+1,h=>by rw [show _=[] from h];rfl
 | d::ds,_,n+1,h=>by
  obtain⟨v,r,e1,h1,h2⟩:=h;subst e1;exact Rps.drop n h2
theorem Rps.set{d:D}{v:V}(q:Rp K f O H d v):∀{ds:List D} {vs:List V} (n:Nat),Rps K f O H ds vs->Rps K f O H (ds.set n d) (vs.set n v)
 | [],_,n,h=>by rw [show _=[] from h];rfl
 | d0::ds,_,0,h=>by
  obtain⟨w,r,e1,h1,h2⟩:=h;subst e1;exact⟨v,_,rfl,q,h2⟩
 | d0::ds,_,n+1,h=>by
  obtain⟨w,r,e1,h1,h2⟩:=h;subst e1;exact⟨w,_,rfl,h1,Rps.set q n h2⟩
theorem Rps.reverse:∀{ds:List D} {vs:List V},Rps K f O H ds vs->Rps K f O H ds.reverse vs.reverse
 | [],_,h=>by rw [show _=[] from h];rfl
 | d::ds,_,h=>by
  obtain⟨v,r,e1,h1,h2⟩:=h;subst e1;rw [cY,cY];exact Rps.append (Rps.reverse h2) ⟨v,[],rfl,h1,rfl⟩
theorem Rps.flat{ds:List D}{vs:List V}(h:Rps K f O H ds vs):∀ n,Rps K f O H (List.replicate n ds).flatten (List.replicate n vs).flatten
 | 0=>rfl
 | n+1=>by
  rw [bv,bv,bS,bS];exact Rps.append h (Rps.flat h n)
theorem Rps.bls:∀{bs:List Bool} {vs:List V},Rps K f O H (bs.map D.bl) vs->vs=bs.map V.bl
 | [],_,h=>h
 | b::bs,_,h=>by
  obtain⟨v,r,e1,h1,h2⟩:=h;rw [e1,show v=_ from h1,Rps.bls h2];rfl
theorem Rps.ints:∀{bs:List Int} {vs:List V},Rps K f O H (bs.map D.int) vs->vs=bs.map V.int
 | [],_,h=>h
 | b::bs,_,h=>by
  obtain⟨v,r,e1,h1,h2⟩:=h;rw [e1,show v=_ from h1,Rps.ints h2];rfl
inductive SD where
 | no|val (d:D)|own (l:List D)
abbrev SS:=List SD
structure SlD (K:Frag)(f:Addr)(O:List Addr)(σ:St)(H:Hp)(ss:SS):Prop where
 fl:Fl H f
 fO:f∈O
 al:∀ a∈O,∃ xs,H a=some (.lst xs)
 lO:∀ l r,H f=some (.lst (.ref l::r))->l ∉ O
 len:ss.length=σ.length
 val:∀(i:Nat) (d:D),ss[i]? = some (SD.val d)->∃ v,σ[i]? = some (some v)/\Rp K f O H d v
 own:∀(i:Nat) (l:List D),ss[i]? = some (SD.own l)->∃ a xs,σ[i]? = some (some (V.ref a))/\a∈O/\a≠f/\H a=some (.lst xs)/\Rps K f O H l xs
variable{σ:St}{ss:SS}
theorem SlD.ex(R:SlD K f O σ H ss)(e:Ex f H H'):SlD K f O σ H' ss where
 fl:=e.fl
 fO:=R.fO
 al:=λa h=>by
  by_cases z:a=f
  ·subst z;exact e.fl.lst
  ·obtain⟨xs,q⟩:=R.al a h;exact⟨xs,e.sm.app a _ z q⟩
 lO:=λl r h=>by
  obtain⟨l0,ns,i,c,a,b,h1,_⟩:=R.fl;obtain⟨r',h2⟩:=e.sm.key _ _ h1;rw [h2] at h;cases h;exact R.lO _ _ h1
 len:=R.len
 val:=λi d h=>by
  obtain⟨v,h1,h2⟩:=R.val i d h;exact⟨v,h1,h2.kp (e.kp R.fO) R.al⟩
 own:=λi l h=>by
  obtain⟨a,xs,h1,h2,h3,h4,h5⟩:=R.own i l h;exact⟨a,xs,h1,h2,h3,e.sm.app a _ h3 h4,h5.kp (e.kp R.fO) R.al⟩
theorem SlD.up(R:SlD K f O σ H ss)(e:Ex f H H'){d:D}{v:V}(h:Rp K f O H d v):Rp K f O H' d v:=h.kp (e.kp R.fO) R.al
theorem SlD.ups(R:SlD K f O σ H ss)(e:Ex f H H'){d:List D}{v:List V}(h:Rps K f O H d v):Rps K f O H' d v:=h.kp (e.kp R.fO) R.al
theorem SlD.new(R:SlD K f O σ H ss){p:Addr}(h:H p=none)(o:HO):Ex f H (rD H p o):=Ex.new R.fl h o
theorem SlD.nO(R:SlD K f O σ H ss){p:Addr}(h:H p=none):p ∉ O:=λz=>by
 obtain⟨xs,q⟩:=R.al p z;rw [h] at q;cases q
theorem SlD.lst(R:SlD K f O σ H ss){p:Addr}(h:H p=none){ds:List D}{xs:List V}(q:Rps K f O H ds xs):Rp K f O (rD H p (.lst xs)) (.lst ds) (.ref p) :=
 ⟨p,xs,rfl,R.nO h,qP,R.ups (R.new h _) q⟩
theorem SlD.tup(R:SlD K f O σ H ss){p:Addr}(h:H p=none){ds:List D}{xs:List V}(q:Rps K f O H ds xs):Rp K f O (rD H p (.tup xs)) (.tup ds) (.ref p) :=
 ⟨p,xs,rfl,SqT.of qP,R.ups (R.new h _) q⟩
structure TEd where
 run:SS->(D->Prop)->Prop
 mono:∀{ss Q Q'},(∀ d,Q d->Q' d)->run ss Q->run ss Q'
structure TTd where
 run:SS->(Bool->Prop)->Prop
 mono:∀{ss Q Q'},(∀ d,Q d->Q' d)->run ss Q->run ss Q'
structure TAd where
 run:SS->(List D->Prop)->Prop
 mono:∀{ss Q Q'},(∀ d,Q d->Q' d)->run ss Q->run ss Q'
structure TOd where
 run:SS->(Option Int->Prop)->Prop
 mono:∀{ss Q Q'},(∀ d,Q d->Q' d)->run ss Q->run ss Q'
structure TGd where
 tg:List Nat
 run:D->SS->(SS->Prop)->Prop
 mono:∀{d ss Q Q'},(∀ d,Q d->Q' d)->run d ss Q->run d ss Q'
def LE(K:Frag)(t:TEd):TE:=λσ H Q=>∃ f O ss,SlD K f O σ H ss/\t.run ss λd=>∀ v H',Ex f H H'->Rp K f O H' d v->Q v H'
def LT(K:Frag)(t:TTd):TT:=λσ H Q=>∃ f O ss,SlD K f O σ H ss/\t.run ss λd=>∀ H',Ex f H H'->Q d H'
def LA(K:Frag)(t:TAd):TA:=λσ H Q=>∃ f O ss,SlD K f O σ H ss/\t.run ss λds=>∀ vs H',Ex f H H'->Rps K f O H' ds vs->Q vs H'
def LO(K:Frag)(t:TOd):TO:=λσ H Q=>∃ f O ss,SlD K f O σ H ss/\t.run ss λd=>∀ H',Ex f H H'->Q d H'
abbrev La:=List D->(D->Prop)->Prop
def xl(K:Frag)(n:Nat)(sp:La):Sp:=λvs H Q _=>vs.length=n/\∃ f O ds,Fl H f/\f∈O/\(∀ a∈O,∃ xs,H a=some (.lst xs))/\(∀ l r,H f=some (.lst (.ref l::r))->l ∉ O)/\Rps K f O H ds vs/\sp ds λd=>∀ v H',Ex f H H'->Rp K f O H' d v->Q v H'
variable{X:Cx}
theorem _root_.L2.PE.weak{e:Expr}{t t':TE}(h:PE X e t)(w:∀ σ H Q,t' σ H Q->t σ H Q):PE X e t':=λpins s σ H Q I q=>h pins s σ H Q I (w σ H Q q)
theorem _root_.L2.PT.weak{e:Expr}{t t':TT}(h:PT X e t)(w:∀ σ H Q,t' σ H Q->t σ H Q):PT X e t':=λpins s σ H Q I q=>h pins s σ H Q I (w σ H Q q)
theorem _root_.L2.PA.weak{e:List Expr}{t t':TA}(h:PA X e t)(w:∀ σ H Q,t' σ H Q->t σ H Q):PA X e t':=λpos pins s σ H Q I q=>h pos pins s σ H Q I (w σ H Q q)
theorem _root_.L2.PO.weak{e:Option Expr}{t t':TO}(h:PO X e t)(w:∀ σ H Q,t' σ H Q->t σ H Q):PO X e t':=λpins s σ H Q I q=>h pins s σ H Q I (w σ H Q q)
def gQ(i:Nat):TEd:=⟨λss Q=>match ss[i]? with|some (SD.val d)=>Q d|_=>False,λ{ss Q Q'} h q=>by
 revert q;split
 ·exact h _
 ·exact id⟩
theorem gQ.ok{i:Nat}{e:Expr}(h:PE X e (t6 i)):PE X e (LE X.K (gQ i)):=h.weak λσ H Q ⟨f,O,ss,R,q⟩=>by
 have q:(match ss[i]? with|some (SD.val d)=>(∀ v H',Ex f H H'->Rp X.K f O H' d v->Q v H')|_=>False):=q;revert q;split
 ·rename_i d e;intro q;obtain⟨v,h1,h2⟩:=R.val i d e;exact⟨v,h1,q v H (Ex.refl R.fl) h2⟩
 ·exact False.elim
def dC(d:D):TEd:=⟨λ_ Q=>Q d,λh q=>h _ q⟩
theorem dC.ok{e:Expr}{d:D}{v:V}(h:PE X e (tC v))(r:∀ f O H,Rp X.K f O H d v):PE X e (LE X.K (dC d)):=h.weak λσ H Q ⟨f,O,ss,R,q⟩=>q v H (Ex.refl R.fl) (r f O H)
abbrev OD:=D->D->(D->Prop)->Prop
def d2(o:OD)(m:∀{x y Q Q'},(∀ d,Q d->Q' d)->o x y Q->o x y Q')(a b:TEd):TEd:=⟨λss Q=>a.run ss λx=>b.run ss λy=>o x y Q,λh q=>a.mono (λx q=>b.mono (λy q=>m h q) q) q⟩
def RD(K:Frag)(r:R2)(o:OD):Prop:=∀(f:Addr) (O:List Addr) (σ:St) (ss:SS) (H:Hp) (dx dy:D) (x y:V) (Q:VK),SlD K f O σ H ss->Rp K f O H dx x->Rp K f O H dy y->o dx dy (λd=>∀ v H',Ex f H H'->Rp K f O H' d v->Q v H')->r x y H Q
theorem d2.ok{e:Expr}{a b:TEd}{r:R2}{o:OD}{m}(hr:RD X.K r o)(h:PE X e (Id r (LE X.K a) (LE X.K b))):PE X e (LE X.K (d2 o m a b)):=h.weak λσ H Q ⟨f,O,ss,R,q⟩=>by
 refine⟨f,O,ss,R,a.mono (λdx q v1 H1 e1 r1=>?_) q⟩;refine⟨f,O,ss,R.ex e1,b.mono (λdy q v2 H2 e2 r2=>?_) q⟩;exact hr f O σ ss H2 dx dy v1 v2 Q ((R.ex e1).ex e2) ((R.ex e1).up e2 r1) r2 (m (λd q v H' e3 r3=>q v H' (e1.trans (e2.trans e3)) r3) q)
end Dp
namespace L2
open PySem PySem.Spec PyProof.Rows
variable{X:Cx}{pins:List (Addr×Obj)}{σ:St}{H:Hp}{s:Shared}
def Gk(K:Frag)(neg:Bool):R2:=λx y H Q=>∃ d ds,Rep K H d x/\Rep K H (.lst ds) y/\d.pl=true/\DV.pls ds=true/\DV.dps ds<=60/\∀ b,(b=true↔d∈ds)->Q (.bl (if neg then !b else b)) H
theorem xp{K:Frag}:∀{ds:List DV} {vs:List V} {us:List Value},Reps K H ds vs->Vals vs us->DV.pls ds=true->DV.dps ds<=60->(∀ w∈us,∃ di∈ds,∃ xi,Rep K H di xi/\RelV xi w/\di.pl=true/\di.dp<=60)/\∀ di∈ds,∃ w∈us,∃ xi,Rep K H di xi/\RelV xi w
 | [],vs,us,h,r,_,_=>by
  unfold Reps at h;subst h;cases r;exact⟨λw h=>absurd h aK,λw h=>absurd h aK⟩
 | d::ds,vs,us,h,r,p,hd=>by
  unfold Reps at h;obtain⟨x,r',rfl,h1,h2⟩:=h;cases r with
  | cons rx rxs =>
   unfold DV.pls at p;rw [bw] at p;unfold DV.dps at hd;obtain⟨i1,i2⟩:=xp h2 rxs p.2 (by omega);refine⟨λw hw=>?_,λdi hi=>?_⟩
   ·rcases am.mp hw with e|e
    ·rw [e];exact⟨d,aE,x,h1,rx,p.1,by omega⟩
    ·obtain⟨di,m,z⟩:=i1 w e;exact⟨di,ay _ m,z⟩
   ·rcases am.mp hi with e|e
    ·rw [e];exact⟨_,aE,x,h1,rx⟩
    ·obtain⟨w,m,z⟩:=i2 di e;exact⟨w,ay _ m,z⟩
open Classical in
theorem xC{K:Frag}{k:Nat}(hr:Room k X.A)(hK:X.K=K)(I:Inv X pins σ H s){d:DV}{ds:List DV}{x:V}{v:Value}{vs:List V}{us:List Value}(h1:Rep K H d x)(rx:RelV x v)(r1:Reps K H ds vs)(rv:Vals vs us)(p1:d.pl=true)(p2:DV.pls ds=true)(hd:DV.dps ds<=60) :
  ∃ e:Value->Bool,(∀ w∈us,SeqAt.EqAt X.A.in1 s w v (e w))/\(us.any e=true↔d∈ds):=by
 subst hK;obtain⟨i1,i2⟩:=xp r1 rv p2 hd;have hun:=hr.units;have key:∀ w∈us,∀ di∈ds,∀ xi,Rep X.K H di xi->RelV xi w->(decide (∃ xi,RelV xi w/\Rep X.K H d xi)=true↔di=d):=λw hw di hi xi hx rw'=>by
  rw [decide_eq_true_iff];constructor
  ·rintro⟨x',r',h'⟩;rw [RelV.inj r' rw'] at h';exact Rep.inj I hx h'
  ·rintro rfl;exact⟨xi,rw',hx⟩
 refine⟨λw=>decide (∃ xi,RelV xi w/\Rep X.K H d xi),λw hw=>?_,?_⟩
 ·obtain⟨di,hi,xi,hx,rw',pi,dpi⟩:=i1 w hw;obtain⟨b,hb,ib⟩:=K1 I di d X.A.in1 hx h1 rw' rx pi p1 (by show X.A.units+1+_+1<_;omega);have:decide (∃ xi,RelV xi w/\Rep X.K H d xi)=b:=bY.mpr ((key w hw di hi xi hx rw').trans ib.symm);dsimp only;rw [this];exact hb
 ·rw [e6];constructor
  ·rintro⟨w,hw,he⟩;obtain⟨di,hi,xi,hx,rw',_,_⟩:=i1 w hw;exact (key w hw di hi xi hx rw').mp he ▸ hi
  ·intro hm;obtain⟨w,hw,xi,hx,rw'⟩:=i2 d hm;exact⟨w,hw,(key w hw d hm xi hx rw').mpr rfl⟩
theorem GG(K:Frag){k:Nat}(hr:Room k X.A)(hK:X.K=K:=by rfl):OpR X (compareOp .In) (Gk K false):=by
 intro pins s σ H x y u v Q I rx ry h;obtain⟨d,ds,h1,h2,p1,p2,hd,q⟩:=h;unfold Rep at h2;obtain⟨a,vs,rfl,t1,r1⟩:=h2;cases ry;subst hK;obtain⟨its,rv,p,_⟩:=I.list t1;obtain⟨e,he,hi⟩:=xC hr rfl I h1 rx r1 rv p1 p2 hd;refine SeqAt.in_listAt e p.isList (λw hw=>he w (by simpa using hw)) ⟨.bl _,H,I,rfl,?_⟩;rw [show its.toArray.any e=its.any e by simp];exact q _ hi
theorem AE(K:Frag){k:Nat}(hr:Room k X.A)(hK:X.K=K:=by rfl):OpR X (compareOp .NotIn) (Gk K true):=by
 intro pins s σ H x y u v Q I rx ry h;obtain⟨d,ds,h1,h2,p1,p2,hd,q⟩:=h;unfold Rep at h2;obtain⟨a,vs,rfl,t1,r1⟩:=h2;cases ry;subst hK;obtain⟨its,rv,p,_⟩:=I.list t1;obtain⟨e,he,hi⟩:=xC hr rfl I h1 rx r1 rv p1 p2 hd;refine SeqAt.notIn_listAt e p.isList (λw hw=>he w (by simpa using hw)) ⟨.bl _,H,I,rfl,?_⟩;rw [show its.toArray.any e=its.any e by simp];exact q _ hi
end L2
namespace Dp
open PySem L2
variable{K:Frag}{f:Addr}{O O':List Addr}{H H':Hp}{X:Cx}{σ:St}{ss:SS}
mutual
def D.pl:D->Bool
 | .int _=>true | .str _=>true | .non=>true | .bl _=>false | .fl=>false | .exn _ _ _=>false | .dct _ _=>false
 | .tup ds=>D.pls ds
 | .lst ds=>D.pls ds
def D.pls:List D->Bool
 | []=>true
 | d::ds=>D.pl d && D.pls ds
end
mutual
def D.dp:D->Nat
 | .tup ds=>D.dps ds+1
 | .lst ds=>D.dps ds+1
 | .int _=>0 | .str _=>0 | .non=>0 | .bl _=>0 | .fl=>0 | .exn _ _ _=>0 | .dct _ _=>0
def D.dps:List D->Nat
 | []=>0
 | d::ds=>max (D.dp d) (D.dps ds)
end
mutual
def D.dv:D->DV
 | .int i=>.int i | .str x=>.str x | .non=>.non | .bl b=>.bl b | .fl=>.non | .exn _ _ _=>.non | .dct _ _=>.non
 | .tup ds=>.tup (D.dvs ds)
 | .lst ds=>.lst (D.dvs ds)
def D.dvs:List D->List DV
 | []=>[]
 | d::ds=>D.dv d::D.dvs ds
end
mutual
theorem D.dv_pl:∀{d:D},d.pl=true->d.dv.pl=true
 | .int _,_=>rfl
 | .str _,_=>rfl
 | .non,_=>rfl
 | .bl _,h=>h
 | .fl,h=>by cases h
 | .exn _ _ _,h=>by cases h
 | .dct _ _,h=>by cases h
 | .tup ds,h=>D.dvs_pl (ds:=ds) h
 | .lst ds,h=>D.dvs_pl (ds:=ds) h
theorem D.dvs_pl:∀{ds:List D},D.pls ds=true->DV.pls (D.dvs ds)=true
 | [],_=>rfl
 | d::ds,h=>by
  have h:=au.mp (show (d.pl && D.pls ds)=true from h);exact au.mpr ⟨D.dv_pl h.1,D.dvs_pl h.2⟩
end
mutual
theorem D.dv_dp:∀{d:D},d.dv.dp=d.dp
 | .int _=>rfl
 | .str _=>rfl
 | .non=>rfl
 | .bl _=>rfl
 | .fl=>rfl
 | .exn _ _ _=>rfl
 | .dct _ _=>rfl
 | .tup ds=>congrArg (· + 1) (D.dvs_dp (ds:=ds))
 | .lst ds=>congrArg (· + 1) (D.dvs_dp (ds:=ds))
theorem D.dvs_dp:∀{ds:List D},DV.dps (D.dvs ds)=D.dps ds
 | []=>rfl
 | d::ds=>by
  show max (DV.dp d.dv) (DV.dps (D.dvs ds))=max d.dp (D.dps ds);rw [D.dv_dp,D.dvs_dp]
end
mutual
theorem D.dv_inj:∀{d e:D},d.pl=true->e.pl=true->d.dv=e.dv->d=e
 | .int _,e,_,h,q=>by cases e <;> first|(cases q;rfl)|(cases q;done)|cases h
 | .str _,e,_,h,q=>by cases e <;> first|(cases q;rfl)|(cases q;done)|cases h
 | .non,e,_,h,q=>by cases e <;> first|rfl|(cases q;done)|cases h
 | .bl _,_,h,_,_=>by cases h
 | .fl,_,h,_,_=>by cases h
 | .exn _ _ _,_,h,_,_=>by cases h
 | .dct _ _,_,h,_,_=>by cases h
 | .tup ds,e,h1,h2,q=>by
  cases e with
  | tup es =>
   have q:DV.tup (D.dvs ds)=DV.tup (D.dvs es):=q;injection q with q;rw [D.dvs_inj h1 h2 q]
  | int=>cases q
  | str=>cases q
  | non=>cases q
  | bl=>cases h2
  | fl=>cases h2
  | exn=>cases h2
  | dct=>cases h2
  | lst=>cases q
 | .lst ds,e,h1,h2,q=>by
  cases e with
  | lst es =>
   have q:DV.lst (D.dvs ds)=DV.lst (D.dvs es):=q;injection q with q;rw [D.dvs_inj h1 h2 q]
  | int=>cases q
  | str=>cases q
  | non=>cases q
  | bl=>cases h2
  | fl=>cases h2
  | exn=>cases h2
  | dct=>cases h2
  | tup=>cases q
theorem D.dvs_inj:∀{ds es:List D},D.pls ds=true->D.pls es=true->D.dvs ds=D.dvs es->ds=es
 | [],[],_,_,_=>rfl
 | [],_::_,_,_,q=>by cases q
 | _::_,[],_,_,q=>by cases q
 | d::ds,e::es,h1,h2,q=>by
  have h1:=au.mp (show (d.pl && D.pls ds)=true from h1);have h2:=au.mp (show (e.pl && D.pls es)=true from h2);have q:d.dv::D.dvs ds=e.dv::D.dvs es:=q;injection q with q1 q2;rw [D.dv_inj h1.1 h2.1 q1,D.dvs_inj h1.2 h2.2 q2]
end
mutual
theorem Rp.rep:∀{d:D} {v:V},d.pl=true->Rp K f O H d v->Rep K H d.dv v
 | .int _,_,_,h=>h
 | .str _,_,_,h=>h
 | .non,_,_,h=>h
 | .bl _,_,h,_=>by cases h
 | .fl,_,h,_=>by cases h
 | .exn _ _ _,_,h,_=>by cases h
 | .dct _ _,_,h,_=>by cases h
 | .tup ds,_,p,h=>by
  obtain⟨a,xs,e,h1,h2⟩:=h;exact⟨a,xs,e,h1,Rps.rep p h2⟩
 | .lst ds,_,p,h=>by
  obtain⟨a,xs,e,_,h1,h2⟩:=h;exact⟨a,xs,e,SqL.of h1,Rps.rep p h2⟩
theorem Rps.rep:∀{ds:List D} {vs:List V},D.pls ds=true->Rps K f O H ds vs->Reps K H (D.dvs ds) vs
 | [],_,_,h=>h
 | d::ds,_,p,h=>by
  have p:=au.mp (show (d.pl && D.pls ds)=true from p);obtain⟨v,r,e,h1,h2⟩:=h;exact⟨v,r,e,Rp.rep p.1 h1,Rps.rep p.2 h2⟩
end
theorem OpR.or2{g:Value->Value->Sem Value}{r r':R2}(h:OpR X g r)(h':OpR X g r'):OpR X g (λx y H Q=>r x y H Q\/r' x y H Q):=λpins s σ H x y v u Q I rx ry q=>q.elim (h pins s σ H x y v u Q I rx ry) (h' pins s σ H x y v u Q I rx ry)
def oAdd:OD
 | .int i,.int j,Q=>Q (.int (i+j))
 | .str a,.str b,Q=>a.length+b.length<=sizeLine/\Q (.str (a++b))
 | .lst a,.lst b,Q=>a.length+b.length<=sizeLine/\Q (.lst (a++b))
 | .tup a,.tup b,Q=>a.length+b.length<=sizeLine/\Q (.tup (a++b))
 | _,_,_=>False
def oSub:OD
 | .int i,.int j,Q=>Q (.int (i-j))
 | _,_,_=>False
def oMul:OD
 | .int i,.int j,Q=>CMulB i j/\Q (.int (i*j))
 | .lst a,.int k,Q => -(2^63)<=k/\k<2^63/\a.length*k.toNat<=sizeLine/\Q (.lst (List.replicate k.toNat a).flatten)
 | .tup a,.int k,Q=>a≠[]/\1<=k/\a.length*k.toNat<=100000/\Q (.tup (List.replicate k.toNat a).flatten)
 | _,_,_=>False
def oDiv:OD
 | .int i,.int j,Q=>sS i j/\Q (.int (i.fdiv j))
 | _,_,_=>False
def oMod:OD
 | .int i,.int j,Q=>j≠0/\Q (.int (i.fmod j))
 | _,_,_=>False
def oPow:OD
 | .int i,.int j,Q=>DD i j/\Q (.int (i^j.toNat))
 | _,_,_=>False
def oShl:OD
 | .int i,.int j,Q=>DD i j/\Q (.int (i*2^j.toNat))
 | _,_,_=>False
def yz:OD:=λ_ _ _=>False
def oBin:Operator->OD
 | .Add=>oAdd | .Sub=>oSub | .Mult=>oMul | .FloorDiv=>oDiv | .Mod=>oMod | .Pow=>oPow | .LShift=>oShl|_=>yz
def oLt:OD
 | .int i,.int j,Q=>Q (.bl (decide (i<j)))
 | _,_,_=>False
def oLe:OD
 | .int i,.int j,Q=>Q (.bl (decide (i<=j)))
 | _,_,_=>False
def oGt:OD
 | .int i,.int j,Q=>Q (.bl (decide (j<i)))
 | _,_,_=>False
def oGe:OD
 | .int i,.int j,Q=>Q (.bl (decide (j<=i)))
 | _,_,_=>False
def oEq(neg:Bool):OD
 | .int i,.int j,Q=>Q (.bl (if neg then !decide (i=j) else decide (i=j)))
 | .bl i,.bl j,Q=>Q (.bl (if neg then !decide (i=j) else decide (i=j)))
 | .str i,.str j,Q=>Q (.bl (if neg then !decide (i=j) else decide (i=j)))
 | .tup a,.tup b,Q=>D.pls a=true/\D.pls b=true/\D.dps a<=60/\∀ k,(k=true↔a=b)->Q (.bl (if neg then !k else k))
 | .lst a,.lst b,Q=>neg=neg/\D.pls a=true/\D.pls b=true/\D.dps a<=60/\∀ k,(k=true↔a=b)->Q (.bl (if neg then !k else k))
 | _,_,_=>False
def oIs(neg:Bool):OD:=λx y Q=>match y with
 | .non=>Q (.bl (match x with | .non => !neg|_=>neg))
 | .bl j=>(match x with | .bl i=>Q (.bl (if neg then !decide (i=j) else decide (i=j)))|_=>False)
 | _=>False
def oIn(neg:Bool):OD:=λx y Q=>(∃(i:Int) (ns:List Int),x = .int i/\(y = .lst (ns.map .int)\/y = .tup (ns.map .int))/\Q (.bl (if neg then !decide (i∈ns) else decide (i∈ns))))\/(∃(i:Str) (ns:List Str),x = .str i/\(y = .lst (ns.map .str)\/y = .tup (ns.map .str))/\Q (.bl (if neg then !decide (i∈ns) else decide (i∈ns))))\/(∃ l,y = .lst l/\x.pl=true/\D.pls l=true/\D.dps l<=60/\∀ k:Bool,(k=true↔x∈l)->Q (.bl (if neg then !k else k)))
theorem oIn.mono{neg:Bool}:∀{x y Q Q'},(∀ d,Q d->Q' d)->oIn neg x y Q->oIn neg x y Q':=λh q=>q.imp (fun⟨i,ns,e1,e2,q⟩=>⟨i,ns,e1,e2,h _ q⟩) (Or.imp (fun⟨i,ns,e1,e2,q⟩=>⟨i,ns,e1,e2,h _ q⟩) fun⟨l,e,a,b,c,q⟩=>⟨l,e,a,b,c,λk hk=>h _ (q k hk)⟩)
def oCmp:CmpOp->OD
 | .Eq=>oEq false | .NotEq=>oEq true | .Lt=>oLt | .LtE=>oLe | .Gt=>oGt | .GtE=>oGe | .Is=>oIs false | .IsNot=>oIs true | .In=>oIn false | .NotIn=>oIn true
theorem oAdd.mono:∀{x y Q Q'},(∀ d,Q d->Q' d)->oAdd x y Q->oAdd x y Q':=by intro x y Q Q' h;cases x <;> cases y <;> intro q <;> first|exact h _ q|exact q|exact⟨q.1,h _ q.2⟩|exact⟨q.1,q.2.1,q.2.2.1,h _ q.2.2.2⟩|exact⟨q.1,q.2.1,q.2.2.1,λk e=>h _ (q.2.2.2 k e)⟩|exact⟨q.1,q.2.1,q.2.2.1,q.2.2.2.1,λk e=>h _ (q.2.2.2.2 k e)⟩
theorem oSub.mono:∀{x y Q Q'},(∀ d,Q d->Q' d)->oSub x y Q->oSub x y Q':=by intro x y Q Q' h;cases x <;> cases y <;> intro q <;> first|exact h _ q|exact q|exact⟨q.1,h _ q.2⟩|exact⟨q.1,q.2.1,q.2.2.1,h _ q.2.2.2⟩|exact⟨q.1,q.2.1,q.2.2.1,λk e=>h _ (q.2.2.2 k e)⟩|exact⟨q.1,q.2.1,q.2.2.1,q.2.2.2.1,λk e=>h _ (q.2.2.2.2 k e)⟩
theorem oMul.mono:∀{x y Q Q'},(∀ d,Q d->Q' d)->oMul x y Q->oMul x y Q':=by intro x y Q Q' h;cases x <;> cases y <;> intro q <;> first|exact h _ q|exact q|exact⟨q.1,h _ q.2⟩|exact⟨q.1,q.2.1,q.2.2.1,h _ q.2.2.2⟩|exact⟨q.1,q.2.1,q.2.2.1,λk e=>h _ (q.2.2.2 k e)⟩|exact⟨q.1,q.2.1,q.2.2.1,q.2.2.2.1,λk e=>h _ (q.2.2.2.2 k e)⟩
theorem oDiv.mono:∀{x y Q Q'},(∀ d,Q d->Q' d)->oDiv x y Q->oDiv x y Q':=by intro x y Q Q' h;cases x <;> cases y <;> intro q <;> first|exact h _ q|exact q|exact⟨q.1,h _ q.2⟩|exact⟨q.1,q.2.1,q.2.2.1,h _ q.2.2.2⟩|exact⟨q.1,q.2.1,q.2.2.1,λk e=>h _ (q.2.2.2 k e)⟩|exact⟨q.1,q.2.1,q.2.2.1,q.2.2.2.1,λk e=>h _ (q.2.2.2.2 k e)⟩
theorem oMod.mono:∀{x y Q Q'},(∀ d,Q d->Q' d)->oMod x y Q->oMod x y Q':=by intro x y Q Q' h;cases x <;> cases y <;> intro q <;> first|exact h _ q|exact q|exact⟨q.1,h _ q.2⟩|exact⟨q.1,q.2.1,q.2.2.1,h _ q.2.2.2⟩|exact⟨q.1,q.2.1,q.2.2.1,λk e=>h _ (q.2.2.2 k e)⟩|exact⟨q.1,q.2.1,q.2.2.1,q.2.2.2.1,λk e=>h _ (q.2.2.2.2 k e)⟩
theorem oPow.mono:∀{x y Q Q'},(∀ d,Q d->Q' d)->oPow x y Q->oPow x y Q':=by intro x y Q Q' h;cases x <;> cases y <;> intro q <;> first|exact h _ q|exact q|exact⟨q.1,h _ q.2⟩|exact⟨q.1,q.2.1,q.2.2.1,h _ q.2.2.2⟩|exact⟨q.1,q.2.1,q.2.2.1,λk e=>h _ (q.2.2.2 k e)⟩|exact⟨q.1,q.2.1,q.2.2.1,q.2.2.2.1,λk e=>h _ (q.2.2.2.2 k e)⟩
theorem oShl.mono:∀{x y Q Q'},(∀ d,Q d->Q' d)->oShl x y Q->oShl x y Q':=by intro x y Q Q' h;cases x <;> cases y <;> intro q <;> first|exact q|exact⟨q.1,h _ q.2⟩
theorem oBin.mono{op:Operator}:∀{x y Q Q'},(∀ d,Q d->Q' d)->oBin op x y Q->oBin op x y Q':=by
 cases op;all_goals first|exact oAdd.mono|exact oSub.mono|exact oMul.mono|exact oDiv.mono|exact oMod.mono|exact oPow.mono|exact oShl.mono|exact λ_ q=>q
theorem oLt.mono:∀{x y Q Q'},(∀ d,Q d->Q' d)->oLt x y Q->oLt x y Q':=by intro x y Q Q' h;cases x <;> cases y <;> intro q <;> first|exact h _ q|exact q|exact⟨q.1,h _ q.2⟩|exact⟨q.1,q.2.1,q.2.2.1,h _ q.2.2.2⟩|exact⟨q.1,q.2.1,q.2.2.1,λk e=>h _ (q.2.2.2 k e)⟩|exact⟨q.1,q.2.1,q.2.2.1,q.2.2.2.1,λk e=>h _ (q.2.2.2.2 k e)⟩
theorem oLe.mono:∀{x y Q Q'},(∀ d,Q d->Q' d)->oLe x y Q->oLe x y Q':=by intro x y Q Q' h;cases x <;> cases y <;> intro q <;> first|exact h _ q|exact q|exact⟨q.1,h _ q.2⟩|exact⟨q.1,q.2.1,q.2.2.1,h _ q.2.2.2⟩|exact⟨q.1,q.2.1,q.2.2.1,λk e=>h _ (q.2.2.2 k e)⟩|exact⟨q.1,q.2.1,q.2.2.1,q.2.2.2.1,λk e=>h _ (q.2.2.2.2 k e)⟩
theorem oGt.mono:∀{x y Q Q'},(∀ d,Q d->Q' d)->oGt x y Q->oGt x y Q':=by intro x y Q Q' h;cases x <;> cases y <;> intro q <;> first|exact h _ q|exact q|exact⟨q.1,h _ q.2⟩|exact⟨q.1,q.2.1,q.2.2.1,h _ q.2.2.2⟩|exact⟨q.1,q.2.1,q.2.2.1,λk e=>h _ (q.2.2.2 k e)⟩|exact⟨q.1,q.2.1,q.2.2.1,q.2.2.2.1,λk e=>h _ (q.2.2.2.2 k e)⟩
theorem oGe.mono:∀{x y Q Q'},(∀ d,Q d->Q' d)->oGe x y Q->oGe x y Q':=by intro x y Q Q' h;cases x <;> cases y <;> intro q <;> first|exact h _ q|exact q|exact⟨q.1,h _ q.2⟩|exact⟨q.1,q.2.1,q.2.2.1,h _ q.2.2.2⟩|exact⟨q.1,q.2.1,q.2.2.1,λk e=>h _ (q.2.2.2 k e)⟩|exact⟨q.1,q.2.1,q.2.2.1,q.2.2.2.1,λk e=>h _ (q.2.2.2.2 k e)⟩
theorem oEq.mono{neg:Bool}:∀{x y Q Q'},(∀ d,Q d->Q' d)->oEq neg x y Q->oEq neg x y Q':=by intro x y Q Q' h;cases x <;> cases y <;> intro q <;> first|exact h _ q|exact q|exact⟨q.1,h _ q.2⟩|exact⟨q.1,q.2.1,q.2.2.1,h _ q.2.2.2⟩|exact⟨q.1,q.2.1,q.2.2.1,λk e=>h _ (q.2.2.2 k e)⟩|exact⟨q.1,q.2.1,q.2.2.1,q.2.2.2.1,λk e=>h _ (q.2.2.2.2 k e)⟩
theorem oIs.mono{neg:Bool}:∀{x y Q Q'},(∀ d,Q d->Q' d)->oIs neg x y Q->oIs neg x y Q':=by intro x y Q Q' h;cases x <;> cases y <;> intro q <;> first|exact h _ q|exact q|exact⟨q.1,h _ q.2⟩|exact⟨q.1,q.2.1,q.2.2.1,h _ q.2.2.2⟩|exact⟨q.1,q.2.1,q.2.2.1,λk e=>h _ (q.2.2.2 k e)⟩|exact⟨q.1,q.2.1,q.2.2.1,q.2.2.2.1,λk e=>h _ (q.2.2.2.2 k e)⟩
theorem oCmp.mono{op:CmpOp}:∀{x y Q Q'},(∀ d,Q d->Q' d)->oCmp op x y Q->oCmp op x y Q':=by
 cases op;all_goals first|exact oLt.mono|exact oLe.mono|exact oGt.mono|exact oGe.mono|exact oEq.mono|exact oIs.mono|exact oIn.mono
def Rng(X:Cx)(g:Value->Value->Sem Value)(o:OD):Prop:=∃ r,OpR X g r/\RD X.K r o
theorem Rng.never{g:Value->Value->Sem Value}:Rng X g yz:=⟨λ_ _ _ _=>False,λ_ _ _ _ _ _ _ _ _ _ _ _ h=>h.elim,λ_ _ _ _ _ _ _ _ _ _ _ _ _ h=>h.elim⟩
theorem Gc:Rng X (binaryOp .Add) oAdd:=by
 refine⟨_,OpR.or2 sJ (OpR.or2 yw (OpR.or2 GI (OpR.or2 Ef (Jq X.K)))),?_⟩;intro f O σ ss H dx dy x y Q R rx ry h;cases dx <;> cases dy <;> first|(exact False.elim h)|skip
 ·rename_i i j;cases rx;cases ry;exact .inl ⟨i,j,rfl,rfl,h _ H (Ex.refl R.fl) rfl⟩
 ·rename_i i j;cases rx;cases ry;exact .inr (.inl ⟨i,j,rfl,rfl,h.1,h.2 _ H (Ex.refl R.fl) rfl⟩)
 ·rename_i la lb;obtain⟨a,xs,rfl,h1,h2⟩:=rx;obtain⟨b,ys,rfl,h3,h4⟩:=ry;obtain⟨hl,q⟩:=h;cases la with
  | nil =>
   cases (show xs=[] from h2);exact .inr (.inr (.inr (.inr ⟨a,b,ys,rfl,rfl,h1,h3,q _ H (Ex.refl R.fl) ⟨b,ys,rfl,h3,h4⟩⟩)))
  | cons d la =>
   refine .inr (.inr (.inr (.inl ⟨a,b,xs,ys,rfl,rfl,h1,h3,?_,by rw [h2.len,h4.len];exact hl,λe=>?_,λe p hp=>?_⟩)))
   ·obtain⟨v,r,e,_⟩:=h2;rw [e];simp
   ·subst e;cases lb with
    | nil =>
     refine q _ H (Ex.refl R.fl) ⟨a,xs,rfl,h1,?_⟩;rw [dc];exact h2
    | cons=>obtain⟨v,r,e,_⟩:=h4;cases e
   ·exact q _ _ (R.new hp _) (R.tup hp (h2.append h4))
 ·rename_i la lb;obtain⟨a,xs,rfl,n1,h1,h2⟩:=rx;obtain⟨b,ys,rfl,n2,h3,h4⟩:=ry;exact .inr (.inr (.inl ⟨a,b,xs,ys,rfl,rfl,h1,h3,by rw [h2.len,h4.len];exact h.1,λp hp=>h.2 _ _ (R.new hp _) (R.lst hp (h2.append h4))⟩))
theorem ur{g:Value->Value->Sem Value}{C:Int->Int->Prop}{w:Int->Int->Int}{o:OD}(h:OpR X g (rI C λi j=>.int (w i j)))(ho:∀ dx dy Q,o dx dy Q->∃ i j,dx = .int i/\dy = .int j/\C i j/\Q (.int (w i j))):Rng X g o:=by
 refine⟨_,h,λf O σ ss H dx dy x y Q R rx ry h=>?_⟩;obtain⟨i,j,rfl,rfl,c,q⟩:=ho _ _ _ h;cases rx;cases ry;exact⟨i,j,rfl,rfl,c,q _ H (Ex.refl R.fl) rfl⟩
theorem uM{g:Value->Value->Sem Value}{w:Int->Int->Bool}{o:OD}(h:OpR X g (BJ λi j=>.bl (w i j)))(ho:∀ dx dy Q,o dx dy Q->∃ i j,dx = .int i/\dy = .int j/\Q (.bl (w i j))):Rng X g o:=by
 refine⟨_,h,λf O σ ss H dx dy x y Q R rx ry h=>?_⟩;obtain⟨i,j,rfl,rfl,q⟩:=ho _ _ _ h;cases rx;cases ry;exact⟨i,j,rfl,rfl,q _ H (Ex.refl R.fl) rfl⟩
theorem F9:Rng X (binaryOp .Mult) oMul:=by
 refine⟨_,OpR.or2 Ec (OpR.or2 Ci D9),?_⟩;intro f O σ ss H dx dy x y Q R rx ry h;cases dx <;> cases dy <;> first|(exact False.elim h)|skip
 ·rename_i i j;cases rx;cases ry;exact .inl ⟨i,j,rfl,rfl,h.1,h.2 _ H (Ex.refl R.fl) rfl⟩
 ·rename_i la k;obtain⟨a,xs,rfl,h1,h2⟩:=rx;cases ry;obtain⟨z1,z2,z3,q⟩:=h;obtain⟨k,rfl⟩:=bD (show 0<=k by omega);rw [aS] at z3 q;refine .inr (.inr ⟨a,xs,k,rfl,rfl,h1,λz=>z1 ?_,by omega,by rw [h2.len];exact z3,λe=>?_,λ_ p hp=>q _ _ (R.new hp _) (R.tup hp (h2.flat _))⟩)
  ·have:=h2.len;rw [z] at this;exact bR.mp this.symm
  ·refine q _ H (Ex.refl R.fl) ⟨a,xs,rfl,h1,?_⟩;rw [e,bv,List.replicate_zero,bS,List.flatten_nil,dc];exact h2
 ·rename_i la k;obtain⟨a,xs,rfl,n1,h1,h2⟩:=rx;cases ry;exact .inr <| .inl ⟨a,k,xs,rfl,rfl,h1,h.1,h.2.1,by rw [h2.len];exact h.2.2.1,λp hp=>h.2.2.2 _ _ (R.new hp _) (R.lst hp (h2.flat _))⟩
theorem Gb{k:Nat}(hr:Room k X.A)(op:Operator):Rng X (binaryOp op) (oBin op):=by
 cases op;case Add=>exact Gc
 case Mult=>exact F9
 case Sub =>
  refine⟨_,GB,λf O σ ss H dx dy x y Q R rx ry h=>?_⟩;cases dx <;> cases dy <;> first|(exact False.elim h)|skip
  cases rx;cases ry;exact⟨_,_,rfl,rfl,h _ H (Ex.refl R.fl) rfl⟩
 case FloorDiv=>exact ur (xv hr) λdx dy Q h=>by cases dx <;> cases dy <;> first|(exact False.elim h)|exact⟨_,_,rfl,rfl,h.1,h.2⟩
 case Mod=>exact ur Ee λdx dy Q h=>by cases dx <;> cases dy <;> first|(exact False.elim h)|exact⟨_,_,rfl,rfl,h.1,h.2⟩
 case Pow=>exact ur Cj λdx dy Q h=>by cases dx <;> cases dy <;> first|(exact False.elim h)|exact⟨_,_,rfl,rfl,h.1,h.2⟩
 case LShift=>exact ur GC λdx dy Q h=>by cases dx <;> cases dy <;> first|(exact False.elim h)|exact⟨_,_,rfl,rfl,h.1,h.2⟩
 all_goals exact Rng.never
theorem Iq{k:Nat}(hr:Room k X.A):Rng X (compareOp .Eq) (oEq false):=by
 refine⟨_,OpR.or2 xw (OpR.or2 (LR X.K hr) (KC X.K hr)),?_⟩;intro f O σ ss H dx dy x y Q R rx ry h;cases dx <;> cases dy <;> first|(exact False.elim h)|skip
 ·rename_i i j;cases rx;cases ry;refine .inl ⟨rfl,?_⟩;have e:(decide (V.bl i=V.bl j))=decide (i=j):=by cases i <;> cases j <;> rfl
  rw [e];exact h _ H (Ex.refl R.fl) rfl
 ·rename_i i j;cases rx;cases ry;refine .inl ⟨rfl,?_⟩;have e:(decide (V.int i=V.int j))=decide (i=j):=by simp
  rw [e];exact h _ H (Ex.refl R.fl) rfl
 ·rename_i i j;cases rx;cases ry;refine .inl ⟨rfl,?_⟩;have e:(decide (V.str i=V.str j))=decide (i=j):=by simp
  rw [e];exact h _ H (Ex.refl R.fl) rfl
 ·rename_i la lb;obtain⟨p1,p2,p3,q⟩:=h;refine .inr (.inl ⟨D.dvs la,D.dvs lb,Rp.rep (d:=.tup la) p1 rx,Rp.rep (d:=.tup lb) p2 ry,D.dvs_pl p1,D.dvs_pl p2,by rw [D.dvs_dp];exact p3,λb hb=>?_⟩);exact q b (hb.trans ⟨λe=>D.dvs_inj p1 p2 e,λe=>by rw [e]⟩) _ H (Ex.refl R.fl) rfl
 ·rename_i la lb;obtain⟨_,p1,p2,p3,q⟩:=h;refine .inr (.inr ⟨D.dvs la,D.dvs lb,Rp.rep (d:=.lst la) p1 rx,Rp.rep (d:=.lst lb) p2 ry,D.dvs_pl p1,D.dvs_pl p2,by rw [D.dvs_dp];exact p3,λb hb=>?_⟩);exact q b (hb.trans ⟨λe=>D.dvs_inj p1 p2 e,λe=>by rw [e]⟩) _ H (Ex.refl R.fl) rfl
theorem Io{k:Nat}(hr:Room k X.A):Rng X (compareOp .NotEq) (oEq true):=by
 refine⟨_,OpR.or2 Ck (OpR.or2 (LK X.K hr) (Kr X.K hr)),?_⟩;intro f O σ ss H dx dy x y Q R rx ry h;cases dx <;> cases dy <;> first|(exact False.elim h)|skip
 ·rename_i i j;cases rx;cases ry;refine .inl ⟨rfl,?_⟩;have e:(decide (V.bl i=V.bl j))=decide (i=j):=by cases i <;> cases j <;> rfl
  rw [e];exact h _ H (Ex.refl R.fl) rfl
 ·rename_i i j;cases rx;cases ry;refine .inl ⟨rfl,?_⟩;have e:(decide (V.int i=V.int j))=decide (i=j):=by simp
  rw [e];exact h _ H (Ex.refl R.fl) rfl
 ·rename_i i j;cases rx;cases ry;refine .inl ⟨rfl,?_⟩;have e:(decide (V.str i=V.str j))=decide (i=j):=by simp
  rw [e];exact h _ H (Ex.refl R.fl) rfl
 ·rename_i la lb;obtain⟨p1,p2,p3,q⟩:=h;refine .inr (.inl ⟨D.dvs la,D.dvs lb,Rp.rep (d:=.tup la) p1 rx,Rp.rep (d:=.tup lb) p2 ry,D.dvs_pl p1,D.dvs_pl p2,by rw [D.dvs_dp];exact p3,λb hb=>?_⟩);exact q b (hb.trans ⟨λe=>D.dvs_inj p1 p2 e,λe=>by rw [e]⟩) _ H (Ex.refl R.fl) rfl
 ·rename_i la lb;obtain⟨_,p1,p2,p3,q⟩:=h;refine .inr (.inr ⟨D.dvs la,D.dvs lb,Rp.rep (d:=.lst la) p1 rx,Rp.rep (d:=.lst lb) p2 ry,D.dvs_pl p1,D.dvs_pl p2,by rw [D.dvs_dp];exact p3,λb hb=>?_⟩);exact q b (hb.trans ⟨λe=>D.dvs_inj p1 p2 e,λe=>by rw [e]⟩) _ H (Ex.refl R.fl) rfl
theorem GF:OpR X (compareOp .Is) (λx y H Q=>∃ i j,x = .bl i/\y = .bl j/\Q (.bl (decide (i=j))) H):=by
 intro pins s σ H x y v u Q I rx ry h;obtain⟨i,j,rfl,rfl,q⟩:=h;cases rx;cases ry;exact ηB (ηP (ηP (qO I q (by cases i <;> cases j <;> rfl))))
theorem Eb:OpR X (compareOp .IsNot) (λx y H Q=>∃ i j,x = .bl i/\y = .bl j/\Q (.bl (!decide (i=j))) H):=by
 intro pins s σ H x y v u Q I rx ry h;obtain⟨i,j,rfl,rfl,q⟩:=h;cases rx;cases ry;exact ηB (ηP (ηP (qO I q (by cases i <;> cases j <;> rfl))))
theorem Ip:Rng X (compareOp .Is) (oIs false):=by
 refine⟨_,OpR.or2 GE GF,λf O σ ss H dx dy x y Q R rx ry h=>?_⟩;cases dy <;> first|(exact False.elim h)|skip
 ·cases ry;refine .inl ⟨rfl,?_⟩;cases dx;case tup=>obtain⟨a,xs,rfl,_⟩:=rx;exact h _ H (Ex.refl R.fl) rfl
  case lst=>obtain⟨a,xs,rfl,_⟩:=rx;exact h _ H (Ex.refl R.fl) rfl
  case exn=>obtain⟨a,xs,rfl,_⟩:=rx;exact h _ H (Ex.refl R.fl) rfl
  case dct=>obtain⟨a,xs,rfl,_⟩:=rx;exact h _ H (Ex.refl R.fl) rfl
  all_goals (cases rx;exact h _ H (Ex.refl R.fl) rfl)
 ·cases ry;cases dx <;> first|(exact False.elim h)|skip
  cases rx;exact .inr ⟨_,_,rfl,rfl,h _ H (Ex.refl R.fl) rfl⟩
theorem BF:Rng X (compareOp .IsNot) (oIs true):=by
 refine⟨_,OpR.or2 Ea Eb,λf O σ ss H dx dy x y Q R rx ry h=>?_⟩;cases dy <;> first|(exact False.elim h)|skip
 ·cases ry;refine .inl ⟨rfl,?_⟩;cases dx;case tup=>obtain⟨a,xs,rfl,_⟩:=rx;exact h _ H (Ex.refl R.fl) rfl
  case lst=>obtain⟨a,xs,rfl,_⟩:=rx;exact h _ H (Ex.refl R.fl) rfl
  case exn=>obtain⟨a,xs,rfl,_⟩:=rx;exact h _ H (Ex.refl R.fl) rfl
  case dct=>obtain⟨a,xs,rfl,_⟩:=rx;exact h _ H (Ex.refl R.fl) rfl
  all_goals (cases rx;exact h _ H (Ex.refl R.fl) rfl)
 ·cases ry;cases dx <;> first|(exact False.elim h)|skip
  cases rx;exact .inr ⟨_,_,rfl,rfl,h _ H (Ex.refl R.fl) rfl⟩
theorem Rps.strs:∀{zs:List Str} {vs:List V},Rps K f O H (zs.map D.str) vs->vs=zs.map V.str
 | [],_,h=>h
 | z::zs,_,h=>by
  obtain⟨v,r,e1,h1,h2⟩:=h;rw [e1,Rps.strs h2,show v = .str z from h1];rfl
theorem zU(i:Int)(ns:List Int):HL (.int i) (ns.map V.int)=decide (i∈ns):=by
 apply bY.mpr;unfold HL;rw [e6,decide_eq_true_iff];constructor
 ·rintro⟨y,hy,e⟩;obtain⟨j,hj,rfl⟩:=dj.mp hy;have e:(j == i)=true:=e;exact beq_iff_eq.mp e ▸ hj
 ·exact λh=>⟨_,dj.mpr ⟨i,h,rfl⟩,show (i == i)=true from beq_self_eq_true i⟩
theorem zQ(i:Str)(ns:List Str):HL (.str i) (ns.map V.str)=decide (i∈ns):=by
 apply bY.mpr;unfold HL;rw [e6,decide_eq_true_iff];constructor
 ·rintro⟨y,hy,e⟩;obtain⟨j,hj,rfl⟩:=dj.mp hy;have e:(j == i)=true:=e;exact beq_iff_eq.mp e ▸ hj
 ·exact λh=>⟨_,dj.mpr ⟨i,h,rfl⟩,show (i == i)=true from beq_self_eq_true i⟩
theorem D.dvs_mem{x:D}:∀{l:List D},x.pl=true->D.pls l=true->(x.dv∈D.dvs l↔x∈l)
 | [],_,_=>⟨λh=>(by cases h),λh=>by cases h⟩
 | d::l,hx,hl=>by
  have h:=au.mp (show (d.pl && D.pls l)=true from hl);show x.dv∈d.dv::D.dvs l↔_;rw [am,am,D.dvs_mem hx h.2];exact or_congr ⟨λe=>D.dv_inj hx h.1 e,λe=>by rw [e]⟩ Iff.rfl
theorem E8(neg:Bool):RD K (λx y H Q=>Kj K neg x y H Q\/Gk K neg x y H Q) (oIn neg):=by
 rintro f O σ ss H dx dy x y Q R rx ry (⟨i,ns,rfl,hy,q⟩|⟨i,ns,rfl,hy,q⟩|⟨l,rfl,p1,p2,p3,q⟩)
 ·cases rx;have fl:(ns.map V.int).all tP=true:=by rw [fY];exact cw.mpr λ_ _=>rfl
  rcases hy with rfl|rfl
  ·obtain⟨a,xs,rfl,_,h1,r1⟩:=ry;rw [Rps.ints r1] at h1;exact .inl ⟨a,_,rfl,.inl (SqL.of h1),rfl,fl,by rw [zU];exact q _ H (Ex.refl R.fl) rfl⟩
  ·obtain⟨a,xs,rfl,h1,r1⟩:=ry;rw [Rps.ints r1] at h1;exact .inl ⟨a,_,rfl,.inr h1,rfl,fl,by rw [zU];exact q _ H (Ex.refl R.fl) rfl⟩
 ·cases rx;have fl:(ns.map V.str).all tP=true:=by rw [fY];exact cw.mpr λ_ _=>rfl
  rcases hy with rfl|rfl
  ·obtain⟨a,xs,rfl,_,h1,r1⟩:=ry;rw [Rps.strs r1] at h1;exact .inl ⟨a,_,rfl,.inl (SqL.of h1),rfl,fl,by rw [zQ];exact q _ H (Ex.refl R.fl) rfl⟩
  ·obtain⟨a,xs,rfl,h1,r1⟩:=ry;rw [Rps.strs r1] at h1;exact .inl ⟨a,_,rfl,.inr h1,rfl,fl,by rw [zQ];exact q _ H (Ex.refl R.fl) rfl⟩
 ·exact .inr ⟨dx.dv,D.dvs l,Rp.rep p1 rx,Rp.rep (d:=.lst l) p2 ry,D.dv_pl p1,D.dvs_pl p2,by rw [D.dvs_dp];exact p3,λb hb=>q b (hb.trans (D.dvs_mem p1 p2)) _ H (Ex.refl R.fl) rfl⟩
theorem ut{k:Nat}(hr:Room k X.A)(op:CmpOp):Rng X (compareOp op) (oCmp op):=by
 cases op;case Eq=>exact Iq hr
 case NotEq=>exact Io hr
 case Lt=>exact uM Fg λdx dy Q h=>by cases dx <;> cases dy <;> first|(exact False.elim h)|exact⟨_,_,rfl,rfl,h⟩
 case LtE=>exact uM IK λdx dy Q h=>by cases dx <;> cases dy <;> first|(exact False.elim h)|exact⟨_,_,rfl,rfl,h⟩
 case Gt=>exact uM Fh λdx dy Q h=>by cases dx <;> cases dy <;> first|(exact False.elim h)|exact⟨_,_,rfl,rfl,h⟩
 case GtE=>exact uM Fi λdx dy Q h=>by cases dx <;> cases dy <;> first|(exact False.elim h)|exact⟨_,_,rfl,rfl,h⟩
 case Is=>exact Ip
 case IsNot=>exact BF
 case In=>exact⟨_,OpR.or2 AF (GG X.K hr),E8 false⟩
 case NotIn=>exact⟨_,OpR.or2 wH (AE X.K hr),E8 true⟩
end Dp
namespace Dp
open PySem L2
variable{K:Frag}{f:Addr}{O O':List Addr}{H H':Hp}{X:Cx}{σ:St}{ss:SS}{a b c:Expr}{ta tb tc:TEd}{tA tB:TTd}{pos:Pos}
def gU(op:Operator)(a b:TEd):TEd:=d2 (oBin op) oBin.mono a b
theorem gU.ok{k:Nat}{op:Operator}(hr:Room k X.A)(ha:PE X a (LE X.K ta))(hb:PE X b (LE X.K tb)):PE X (.BinOp a op b pos) (LE X.K (gU op ta tb)):=by
 obtain⟨r,h,hr⟩:=Gb (X:=X) hr op;exact d2.ok hr (rC h ha hb)
def il(op:CmpOp)(a b:TEd):TEd:=d2 (oCmp op) oCmp.mono a b
theorem il.ok{k:Nat}{op:CmpOp}(hr:Room k X.A)(ha:PE X a (LE X.K ta))(hb:PE X b (LE X.K tb))(hm:behindInMarks op b=false):PE X (.Compare a [op] [b] pos) (LE X.K (il op ta tb)):=by
 obtain⟨r,h,hr⟩:=ut hr op;exact d2.ok hr (uP h ha hb hm)
def g9(t:TEd):TTd:=⟨λss Q=>t.run ss λd=>match d with | .bl b=>Q b|_=>False,λ{ss Q Q'} h q=>t.mono (λd q=>by
 revert q;cases d <;> first|exact h _|exact id) q⟩
theorem LE.test{t:TEd}{σ:St}{H:Hp}{Q:Bool->Hp->Prop}(h:LT X.K (g9 t) σ H Q):Br (LE X.K t) σ H Q:=by
 obtain⟨f,O,ss,R,q⟩:=h;refine⟨f,O,ss,R,t.mono (λd q v H' e r=>?_) q⟩;cases d <;> first|exact False.elim q|skip
 cases r;exact⟨_,rfl,q H' e⟩
theorem il.test{k:Nat}{op:CmpOp}(hr:Room k X.A)(ha:PE X a (LE X.K ta))(hb:PE X b (LE X.K tb))(hm:behindInMarks op b=false):PT X (.Compare a [op] [b] pos) (LT X.K (g9 (il op ta tb))):=by
 obtain⟨r,h,hr⟩:=ut hr op;refine (sI (pos:=pos) h ha hb hm).weak λσ H Q q=>?_;have q:=LE.test q;obtain⟨f,O,ss,R,q⟩:=q;refine⟨f,O,ss,R,ta.mono (λdx q v1 H1 e1 r1=>?_) q⟩;refine⟨f,O,ss,R.ex e1,tb.mono (λdy q v2 H2 e2 r2=>?_) q⟩;exact hr f O σ ss H2 dx dy v1 v2 _ ((R.ex e1).ex e2) ((R.ex e1).up e2 r1) r2 (oCmp.mono (λd q v H' e3 r3=>q v H' (e1.trans (e2.trans e3)) r3) q)
def jo(op op':CmpOp)(a b c:TEd):TEd:=⟨λss Q=>a.run ss λx=>b.run ss λy=>oCmp op x y λz=>match z with | .bl k=>if k=true then c.run ss λw=>oCmp op' y w Q else Q (.bl false)|_=>False,λ{ss Q Q'} h q=>a.mono (λx q=>b.mono (λy q=>oCmp.mono (λd q=>by
 revert q;cases d <;> first|exact id|skip
 rename_i k;cases k
 ·exact h _
 ·exact c.mono λw q=>oCmp.mono h q) q) q) q⟩
theorem jo.test{k:Nat}{op op':CmpOp}(hr:Room k X.A)(ha:PE X a (LE X.K ta))(hb:PE X b (LE X.K tb))(hc:PE X c (LE X.K tc))(hm:lastMarks [op,op'] [b,c]=false):PT X (.Compare a [op,op'] [b,c] pos) (LT X.K (g9 (jo op op' ta tb tc))):=by
 obtain⟨r,h,h1⟩:=ut hr op;obtain⟨r',h',h2⟩:=ut hr op';refine (BP (pos:=pos) h h' ha hb hc hm).weak λσ H Q q=>?_;have q:=LE.test q;obtain⟨f,O,ss,R,q⟩:=q;refine⟨f,O,ss,R,ta.mono (λdx q v1 H1 e1 r1=>?_) q⟩;refine⟨f,O,ss,R.ex e1,tb.mono (λdy q v2 H2 e2 r2=>?_) q⟩;have R2:=(R.ex e1).ex e2;refine h1 f O σ ss H2 dx dy v1 v2 _ R2 ((R.ex e1).up e2 r1) r2 (oCmp.mono (λd q v H3 e3 r3=>?_) q);cases d <;> first|exact False.elim q|skip
 rename_i k;cases r3;refine⟨k,rfl,?_⟩;cases k
 ·exact q _ H3 (e1.trans (e2.trans e3)) rfl
 ·have R3:=R2.ex e3;refine⟨f,O,ss,R3,tc.mono (λdz q v4 H4 e4 r4=>?_) q⟩;exact h2 f O σ ss H4 dy dz v2 v4 _ (R3.ex e4) (R3.up e4 (R2.up e3 r2)) r4 (oCmp.mono (λd q v H' e5 r5=>q v H' (e1.trans (e2.trans (e3.trans (e4.trans e5)))) r5) q)
theorem jo.ok{k:Nat}{op op':CmpOp}(hr:Room k X.A)(ha:PE X a (LE X.K ta))(hb:PE X b (LE X.K tb))(hc:PE X c (LE X.K tc))(hm:lastMarks [op,op'] [b,c]=false):PE X (.Compare a [op,op'] [b,c] pos) (LE X.K (jo op op' ta tb tc)):=by
 obtain⟨r,h,h1⟩:=ut hr op;obtain⟨r',h',h2⟩:=ut hr op';refine (BZ (pos:=pos) h h' ha hb hc hm).weak λσ H Q q=>?_;obtain⟨f,O,ss,R,q⟩:=q;refine⟨f,O,ss,R,ta.mono (λdx q v1 H1 e1 r1=>?_) q⟩;refine⟨f,O,ss,R.ex e1,tb.mono (λdy q v2 H2 e2 r2=>?_) q⟩;have R2:=(R.ex e1).ex e2;refine h1 f O σ ss H2 dx dy v1 v2 _ R2 ((R.ex e1).up e2 r1) r2 (oCmp.mono (λd q v H3 e3 r3=>?_) q);cases d <;> first|exact False.elim q|skip
 rename_i k;cases r3;refine⟨k,rfl,?_⟩;cases k
 ·exact q _ H3 (e1.trans (e2.trans e3)) rfl
 ·have R3:=R2.ex e3;refine⟨f,O,ss,R3,tc.mono (λdz q v4 H4 e4 r4=>?_) q⟩;exact h2 f O σ ss H4 dy dz v2 v4 _ (R3.ex e4) (R3.up e4 (R2.up e3 r2)) r4 (oCmp.mono (λd q v H' e5 r5=>q v H' (e1.trans (e2.trans (e3.trans (e4.trans e5)))) r5) q)
def jP(a:TEd):TEd:=⟨λss Q=>a.run ss λd=>match d with | .int i=>Q (.int (-i))|_=>False,λ{ss Q Q'} h q=>a.mono (λd q=>by
 revert q;cases d <;> first|exact h _|exact id) q⟩
theorem jP.ok(ha:PE X a (LE X.K ta)):PE X (.UnaryOp .USub a pos) (LE X.K (jP ta)):=(Fd (pos:=pos) Bj ha).weak λσ H Q ⟨f,O,ss,R,q⟩=>⟨f,O,ss,R,ta.mono (λd q v H1 e r=>by
 cases d <;> first|exact False.elim q|skip
 cases r;exact⟨_,rfl,q _ H1 e rfl⟩) q⟩
def truD:D->(Bool->Prop)->Prop
 | .non,Q=>Q false
 | .bl b,Q=>Q b
 | .int i,Q=>Q (i != 0)
 | .str y,Q=>y.length<=sizeLine/\Q ((y.length:Int) != 0)
 | .tup l,Q=>Q (!l.isEmpty)
 | .lst l,Q=>Q (!l.isEmpty)
 | .fl,_=>False
 | .exn _ _ _,_=>False
 | .dct _ _,_=>False
theorem truD.mono:∀{d:D} {Q Q':Bool->Prop},(∀ b,Q b->Q' b)->truD d Q->truD d Q'
 | .non,_,_,h,q=>h _ q
 | .bl _,_,_,h,q=>h _ q
 | .int _,_,_,h,q=>h _ q
 | .str _,_,_,h,q=>⟨q.1,h _ q.2⟩
 | .tup _,_,_,h,q=>h _ q
 | .lst _,_,_,h,q=>h _ q
 | .fl,_,_,_,q=>q
 | .exn _ _ _,_,_,_,q=>q
 | .dct _ _,_,_,_,q=>q
theorem Rps.empty:∀{ds:List D} {vs:List V},Rps K f O H ds vs->vs.isEmpty=ds.isEmpty
 | [],_,h=>by rw [show _=[] from h];rfl
 | _::_,_,h=>by obtain⟨v,r,e,_⟩:=h;rw [e];rfl
def kb(a:TEd):TTd:=⟨λss Q=>a.run ss λd=>truD d Q,λh q=>a.mono (λd q=>truD.mono h q) q⟩
theorem kb.ok(ha:PE X a (LE X.K ta))(he:∀ whole,isTrue a X.env whole=(do let v ← whole;standAt a.pos;holding [v] (truthy v))):PT X a (LT X.K (kb ta)):=(xt ha he).weak λσ H Q ⟨f,O,ss,R,q⟩=>⟨f,O,ss,R,ta.mono (λd q v H1 e r=>by
 cases d;case non=>cases r;exact⟨false,rfl,q H1 e⟩
 case bl=>cases r;exact⟨_,rfl,q H1 e⟩
 case int=>cases r;exact⟨_,rfl,q H1 e⟩
 case str=>cases r;exact⟨_,⟨q.1,rfl⟩,q.2 H1 e⟩
 case tup l =>
  obtain⟨p,xs,rfl,h1,h2⟩:=r;exact⟨_,.inr (.inl ⟨xs,h1,by rw [h2.empty]⟩),q H1 e⟩
 case lst l =>
  obtain⟨p,xs,rfl,_,h1,h2⟩:=r;exact⟨_,.inl ⟨xs,SqL.of h1,by rw [h2.empty]⟩,q H1 e⟩
 case fl=>exact False.elim q
 case exn=>exact False.elim q
 case dct=>exact False.elim q) q⟩
def iL(a b:TTd):TTd:=⟨λss Q=>a.run ss λk=>if k=true then b.run ss Q else Q false,λ{ss Q Q'} h q=>a.mono (λk q=>by
 revert q;cases k
 ·exact h _
 ·exact b.mono h) q⟩
def mJ(a b:TTd):TTd:=⟨λss Q=>a.run ss λk=>if k=true then Q true else b.run ss Q,λ{ss Q Q'} h q=>a.mono (λk q=>by
 revert q;cases k
 ·exact b.mono h
 ·exact h _) q⟩
def ju(a:TTd):TTd:=⟨λss Q=>a.run ss λk=>Q (!k),λh q=>a.mono (λk q=>h _ q) q⟩
theorem iL.weak{σ:St}{H:Hp}{Q:Bool->Hp->Prop}(h:LT X.K (iL tA tB) σ H Q):Ij (LT X.K tA) (LT X.K tB) σ H Q:=by
 obtain⟨f,O,ss,S,q⟩:=h;refine⟨f,O,ss,S,tA.mono (λk q H1 e=>?_) q⟩;cases k
 ·exact q H1 e
 ·exact⟨f,O,ss,S.ex e,tB.mono (λk q H2 e2=>q H2 (e.trans e2)) q⟩
theorem mJ.weak{σ:St}{H:Hp}{Q:Bool->Hp->Prop}(h:LT X.K (mJ tA tB) σ H Q):KU (LT X.K tA) (LT X.K tB) σ H Q:=by
 obtain⟨f,O,ss,S,q⟩:=h;refine⟨f,O,ss,S,tA.mono (λk q H1 e=>?_) q⟩;cases k
 ·exact⟨f,O,ss,S.ex e,tB.mono (λk q H2 e2=>q H2 (e.trans e2)) q⟩
 ·exact q H1 e
theorem _root_.L2.PW.weak{e:Expr}{t t':TT}(h:PW X e t)(w:∀ σ H Q,t' σ H Q->t σ H Q):PW X e t':=λwh pins s σ H Q I q=>h wh pins s σ H Q I (w σ H Q q)
theorem iL.ok{rest:List Expr}(ha:PT X a (LT X.K tA))(hb:PW X (.BoolOp .And (b::rest) pos) (LT X.K tB)):PW X (.BoolOp .And (a::b::rest) pos) (LT X.K (iL tA tB)):=(BO ha hb).weak λ_ _ _=>iL.weak
theorem mJ.ok{rest:List Expr}(ha:PT X a (LT X.K tA))(hb:PW X (.BoolOp .Or (b::rest) pos) (LT X.K tB)):PW X (.BoolOp .Or (a::b::rest) pos) (LT X.K (mJ tA tB)):=(IC ha hb).weak λ_ _ _=>mJ.weak
theorem ju.ok(ha:PT X a (LT X.K tA)):PT X (.UnaryOp .Not a pos) (LT X.K (ju tA)):=(Gq ha).weak λσ H Q ⟨f,O,ss,S,q⟩=>⟨f,O,ss,S,q⟩
def pW(a b:TEd):TEd:=⟨λss Q=>a.run ss λd=>match d with | .bl k=>if k=true then b.run ss Q else Q (.bl false)|_=>False,λ{ss Q Q'} h q=>a.mono (λd q=>by
 revert q;cases d <;> first|exact id|skip
 rename_i k;cases k
 ·exact h _
 ·exact b.mono h) q⟩
def dOr(a b:TEd):TEd:=⟨λss Q=>a.run ss λd=>match d with | .bl k=>if k=true then Q (.bl true) else b.run ss Q|_=>False,λ{ss Q Q'} h q=>a.mono (λd q=>by
 revert q;cases d <;> first|exact id|skip
 rename_i k;cases k
 ·exact b.mono h
 ·exact h _) q⟩
def pJ(a:TEd):TEd:=⟨λss Q=>a.run ss λd=>match d with | .bl k=>Q (.bl (!k))|_=>False,λ{ss Q Q'} h q=>a.mono (λd q=>by
 revert q;cases d <;> first|exact h _|exact id) q⟩
theorem pW.ok{rest:List Expr}(ha:PE X a (LE X.K ta))(hb:PE X (.BoolOp .And (b::rest) pos) (LE X.K tb)):PE X (.BoolOp .And (a::b::rest) pos) (LE X.K (pW ta tb)):=(yu ha hb).weak λσ H Q ⟨f,O,ss,S,q⟩=>⟨f,O,ss,S,ta.mono (λd q v H1 e r=>by
 cases d <;> first|exact False.elim q|skip
 rename_i k;cases r;refine⟨k,rfl,?_⟩;cases k
 ·exact q _ H1 e rfl
 ·exact⟨f,O,ss,S.ex e,tb.mono (λk q v H2 e2 r=>q v H2 (e.trans e2) r) q⟩) q⟩
theorem dOr.ok{rest:List Expr}(ha:PE X a (LE X.K ta))(hb:PE X (.BoolOp .Or (b::rest) pos) (LE X.K tb)):PE X (.BoolOp .Or (a::b::rest) pos) (LE X.K (dOr ta tb)):=(ID ha hb).weak λσ H Q ⟨f,O,ss,S,q⟩=>⟨f,O,ss,S,ta.mono (λd q v H1 e r=>by
 cases d <;> first|exact False.elim q|skip
 rename_i k;cases r;refine⟨k,rfl,?_⟩;cases k
 ·exact⟨f,O,ss,S.ex e,tb.mono (λk q v H2 e2 r=>q v H2 (e.trans e2) r) q⟩
 ·exact q _ H1 e rfl) q⟩
theorem pJ.ok(ha:PE X a (LE X.K ta)):PE X (.UnaryOp .Not a pos) (LE X.K (pJ ta)):=(Gz (pos:=pos) ha).weak λσ H Q ⟨f,O,ss,S,q⟩=>⟨f,O,ss,S,ta.mono (λd q v H1 e r=>by
 cases d <;> first|exact False.elim q|skip
 rename_i k;cases r;exact⟨k,rfl,q _ H1 e rfl⟩) q⟩
def pj(c:TTd)(a b:TEd):TEd:=⟨λss Q=>c.run ss λk=>if k=true then a.run ss Q else b.run ss Q,λ{ss Q Q'} h q=>c.mono (λk q=>by
 revert q;cases k
 ·exact b.mono h
 ·exact a.mono h) q⟩
theorem pj.ok(hc:PT X c (LT X.K tA))(ha:PE X a (LE X.K ta))(hb:PE X b (LE X.K tb)):PE X (.IfExp c a b pos) (LE X.K (pj tA ta tb)):=(BY (pos:=pos) hc ha hb).weak λσ H Q ⟨f,O,ss,S,q⟩=>⟨f,O,ss,S,tA.mono (λk q H1 e=>by
 cases k
 ·exact⟨f,O,ss,S.ex e,tb.mono (λk q v H2 e2 r=>q v H2 (e.trans e2) r) q⟩
 ·exact⟨f,O,ss,S.ex e,ta.mono (λk q v H2 e2 r=>q v H2 (e.trans e2) r) q⟩) q⟩
def gR:TAd:=⟨λ_ Q=>Q [],λh q=>h _ q⟩
def gP(a:TEd)(r:TAd):TAd:=⟨λss Q=>a.run ss λd=>r.run ss λds=>Q (d::ds),λh q=>a.mono (λd q=>r.mono (λds q=>h _ q) q) q⟩
theorem gR.ok:PA X [] (LA X.K gR):=pa_nil.weak λσ H Q ⟨f,O,ss,S,q⟩=>q [] H (Ex.refl S.fl) rfl
theorem gP.ok{es:List Expr}{t:TAd}(ha:PE X a (LE X.K ta))(hr:PA X es (LA X.K t))(hs:starEach (a::es) X.env=(false,eval a X.env)::starEach es X.env):PA X (a::es) (LA X.K (gP ta t)):=(qK ha hr hs).weak λσ H Q ⟨f,O,ss,S,q⟩ =>
 ⟨f,O,ss,S,ta.mono (λd q v H1 e r=>⟨f,O,ss,S.ex e,t.mono (λds q vs H2 e2 r2=>q (v::vs) H2 (e.trans e2) ⟨v,vs,rfl,(S.ex e).up e2 r,r2⟩) q⟩) q⟩
def g7(t:TAd):TEd:=⟨λss Q=>t.run ss λds=>ds.length<=sizeLine/\Q (.tup ds),λh q=>t.mono (λds q=>⟨q.1,h _ q.2⟩) q⟩
def ir(t:TAd):TEd:=⟨λss Q=>t.run ss λds=>ds.length<=sizeLine/\Q (.lst ds),λh q=>t.mono (λds q=>⟨q.1,h _ q.2⟩) q⟩
theorem g7.ok{es:List Expr}{t:TAd}{k:Nat}(h:PA X es (LA X.K t)):PE X (.Tuple es k pos) (LE X.K (g7 t)):=(BW h).weak λσ H Q ⟨f,O,ss,S,q⟩ =>
 ⟨f,O,ss,S,t.mono (λds q vs H1 e r=>⟨by rw [r.len];exact q.1,λp hp=>q.2 _ _ (e.trans ((S.ex e).new hp _)) ((S.ex e).tup hp r)⟩) q⟩
theorem ir.ok{es:List Expr}{t:TAd}(h:PA X es (LA X.K t)):PE X (.List es pos) (LE X.K (ir t)):=(yr h).weak λσ H Q ⟨f,O,ss,S,q⟩ =>
 ⟨f,O,ss,S,t.mono (λds q vs H1 e r=>⟨by rw [r.len];exact q.1,λp hp=>q.2 _ _ (e.trans ((S.ex e).new hp _)) ((S.ex e).lst hp r)⟩) q⟩
def itD(l:List D)(i:Int)(Q:D->Prop):Prop:=match vB l i with|some d=>Q d|none=>False
theorem itD.mono{l:List D}{i:Int}{Q Q':D->Prop}(h:∀ d,Q d->Q' d):itD l i Q->itD l i Q':=by
 unfold itD;split
 ·exact h _
 ·exact id
theorem itD.rp{l:List D}{xs:List V}{i:Int}{Q:D->Prop}(r:Rps K f O H l xs)(q:itD l i Q):∃ v d,vB xs i=some v/\Rp K f O H d v/\Q d:=by
 unfold itD at q;split at q
 ·rename_i d e;unfold vB at e ⊢;rw [r.len];cases h:xA l.length i with
  | none=>rw [h] at e;cases e
  | some j =>
   rw [h] at e;obtain⟨v,h1,h2⟩:=r.get (show l[j]? = some d from e);exact⟨v,d,h1,h2,q⟩
 ·exact q.elim
def oIx:OD
 | .lst l,.int i,Q=>itD l i Q
 | .tup l,.int i,Q=>itD l i Q
 | .str z,.int i,Q=>z.length<=sizeLine/\∃ c,vB z.cps.toList i=some c/\Q (.str ⟨#[c]⟩)
 | .dct ks l,.int i,Q=>∃(j:Nat) (d:D),ks[j]? = some (Sum.inl i)/\l[j]? = some d/\Q d
 | .dct ks l,.str x,Q=>∃(j:Nat) (d:D),ks[j]? = some (Sum.inr x)/\l[j]? = some d/\Q d
 | _,_,_=>False
theorem oIx.mono:∀{x y Q Q'},(∀ d,Q d->Q' d)->oIx x y Q->oIx x y Q':=by
 intro x y Q Q' h;cases x <;> cases y <;> intro q <;> first|exact itD.mono h q|exact q|skip
 ·obtain⟨q0,c,q1,q2⟩:=q;exact⟨q0,c,q1,h _ q2⟩
 ·obtain⟨j,d,q0,q1,q2⟩:=q;exact⟨j,d,q0,q1,h _ q2⟩
 ·obtain⟨j,d,q0,q1,q2⟩:=q;exact⟨j,d,q0,q1,h _ q2⟩
def Iu(K:Frag):R2:=λx y H Q=>JJ K x y H Q\/Ix x y H Q
theorem CF:IxR X (Iu X.K):=ix_seq.or Ew
theorem C2{ks:List uX}{l:List D}{us:List V}{j:Nat}{k:uX}{d:D}(h1:ks[j]? = some k)(h2:l[j]? = some d)(r:Rps K f O H l us):∃ v,(k,v)∈ks.zip us/\Rp K f O H d v:=by
 obtain⟨v,hv,rv⟩:=r.get h2;exact⟨v,aL (i:=j) (by rw [List.getElem?_zip_eq_some];exact⟨h1,hv⟩),rv⟩
theorem E7:RD X.K (Iu X.K) oIx:=by
 intro f O σ ss H dx dy x y Q R rx ry h;cases dx <;> cases dy <;> first|(exact False.elim h)|skip
 ·rename_i z i;cases rx;cases ry;obtain⟨q0,c,q1,q2⟩:=h;exact .inl (.inr (.inr ⟨z,i,c,rfl,rfl,q0,q1,q2 _ H (Ex.refl R.fl) rfl⟩))
 ·rename_i l i;obtain⟨p,xs,rfl,h1,h2⟩:=rx;cases ry;obtain⟨v,d,e,r,q⟩:=itD.rp h2 h;exact .inl (.inr (.inl ⟨p,xs,i,v,rfl,rfl,h1,e,q v H (Ex.refl R.fl) r⟩))
 ·rename_i l i;obtain⟨p,xs,rfl,_,h1,h2⟩:=rx;cases ry;obtain⟨v,d,e,r,q⟩:=itD.rp h2 h;exact .inl (.inl ⟨p,xs,i,v,rfl,rfl,SqL.of h1,e,q v H (Ex.refl R.fl) r⟩)
 ·rename_i ks l i;obtain⟨p,us,rfl,h1,h2,h3⟩:=rx;cases ry;obtain⟨j,d,e1,e2,q⟩:=h;obtain⟨v,hm,rv⟩:=C2 e1 e2 h3;exact .inr ⟨p,_,.inl i,v,rfl,rfl,h1,hm,q v H (Ex.refl R.fl) rv⟩
 ·rename_i ks l x;obtain⟨p,us,rfl,h1,h2,h3⟩:=rx;cases ry;obtain⟨j,d,e1,e2,q⟩:=h;obtain⟨v,hm,rv⟩:=C2 e1 e2 h3;exact .inr ⟨p,_,.inr x,v,rfl,rfl,h1,hm,q v H (Ex.refl R.fl) rv⟩
def dIx(a b:TEd):TEd:=d2 oIx oIx.mono a b
theorem dIx.ok(ha:PE X a (LE X.K ta))(hb:PE X b (LE X.K tb))(hs:uW b):PE X (.Subscript a b pos) (LE X.K (dIx ta tb)):=d2.ok E7 (rK CF ha hb hs)
def itI(l:List D)(y:D)(Q:D->Prop):Prop:=match y with | .int j=>itD l j Q|_=>False
theorem itI.mono{l:List D}{y:D}{Q Q':D->Prop}(h:∀ d,Q d->Q' d):itI l y Q->itI l y Q':=by
 cases y <;> first|exact id|exact itD.mono h
def jB(i:Nat)(b:TEd):TEd:=⟨λss Q=>match ss[i]? with|some (.val d)=>b.run ss λy=>oIx d y Q|some (.own l)=>b.run ss λy=>itI l y Q|_=>False,λ{ss Q Q'} h q=>by
 revert q;split
 ·exact b.mono λy=>oIx.mono h
 ·exact b.mono λy=>itI.mono h
 ·exact id⟩
theorem jB.ok{i:Nat}(ha:PE X a (t6 i))(hb:PE X b (LE X.K tb))(hs:uW b):PE X (.Subscript a b pos) (LE X.K (jB i tb)):=(rK (pos:=pos) CF ha hb hs).weak λσ H Q ⟨f,O,ss,R,q⟩=>by
 have q:(match ss[i]? with|some (.val d)=>tb.run ss λy=>oIx d y (λd=>∀ v H',Ex f H H'->Rp X.K f O H' d v->Q v H')|some (.own l)=>tb.run ss λy=>itI l y (λd=>∀ v H',Ex f H H'->Rp X.K f O H' d v->Q v H')|_=>False):=q;split at q
 ·rename_i d e;obtain⟨v,h1,h2⟩:=R.val i d e;refine⟨v,h1,f,O,ss,R,tb.mono (λdy q y H1 e1 r1=>?_) q⟩;exact E7 f O σ ss H1 d dy v y Q (R.ex e1) (R.up e1 h2) r1 (oIx.mono (λd q v H' e r=>q v H' (e1.trans e) r) q)
 ·rename_i l e;obtain⟨p,xs,h1,h2,h3,h4,h5⟩:=R.own i l e;refine⟨_,h1,f,O,ss,R,tb.mono (λdy q y H1 e1 r1=>?_) q⟩;cases dy <;> first|exact False.elim q|skip
  cases r1;obtain⟨v,d,e,r,q⟩:=itD.rp (R.ups e1 h5) q;exact .inl (.inl ⟨p,xs,_,v,rfl,rfl,SqL.of (e1.sm.app p _ h3 h4),e,q v H1 e1 r⟩)
 ·exact q.elim
def sT{α:Type}(xs:List α)(lo hi:Option Int):List α:=(xs.drop (HT.rF xs.length 0 lo)).take (HT.rF xs.length xs.length hi-HT.rF xs.length 0 lo)
theorem Rps.cut{ds:List D}{xs:List V}(r:Rps K f O H ds xs)(lo hi:Option Int):Rps K f O H (sT ds lo hi) (xQ xs lo hi):=by
 unfold sT xQ;rw [r.len];exact (r.drop _).take _
def dNo:TOd:=⟨λ_ Q=>Q none,λh q=>h _ q⟩
def kU(t:TEd):TOd:=⟨λss Q=>t.run ss λd=>match d with | .int i=>Q (some i)|_=>False,λ{ss Q Q'} h q=>t.mono (λd q=>by
 revert q;cases d <;> first|exact h _|exact id) q⟩
theorem dNo.ok:PO X none (LO X.K dNo):=po_none.weak λσ H Q ⟨f,O,ss,S,q⟩=>q H (Ex.refl S.fl)
theorem kU.ok(ha:PE X a (LE X.K ta)):PO X (some a) (LO X.K (kU ta)):=(zr ha).weak λσ H Q ⟨f,O,ss,S,q⟩=>⟨f,O,ss,S,ta.mono (λd q v H1 e r=>by
 cases d <;> first|exact False.elim q|skip
 cases r;exact⟨_,rfl,q H1 e⟩) q⟩
def slD(d:D)(lo hi:Option Int)(Q:D->Prop):Prop:=match d with
 | .lst l=>Q (.lst (sT l lo hi))
 | .tup l=>True/\Q (.tup (sT l lo hi))
 | _=>False
theorem slD.mono{d:D}{lo hi:Option Int}{Q Q':D->Prop}(h:∀ d,Q d->Q' d):slD d lo hi Q->slD d lo hi Q':=by
 cases d <;> intro q <;> first|exact h _ q|exact⟨q.1,h _ q.2⟩|exact q
theorem By:SlR X (λx lo hi H Q=>∃ a xs,x = .ref a/\SqT X.K H a xs/\(HT.rF xs.length 0 lo=0/\HT.rF xs.length xs.length hi=xs.length)/\Q (.ref a) H):=by
 intro pins s σ H x v vl vu lo hi sl Q I rx hs pl pu h;obtain⟨a,xs,e,hx,hw,q⟩:=h;subst e;cases rx;obtain⟨its,r,ht,hz⟩:=I.tuple hx;have hlen:its.toArray.size=xs.length:=by rw [ak];exact r.length.symm
 exact⟨"tuple",_,PyProof.Rows.slot_tuple_getitem.lookup,ht.typeIs,HT.tN ht hs pl pu (by rw [hlen];exact hw) ⟨.ref a,H,I,rfl,q⟩⟩
def dSl(a:TEd)(l u:TOd):TEd:=⟨λss Q=>a.run ss λd=>l.run ss λlo=>u.run ss λhi=>slD d lo hi Q,λh q=>a.mono (λd q=>l.mono (λlo q=>u.mono (λhi q=>slD.mono h q) q) q) q⟩
theorem dSl.ok{lo hi:Option Expr}{tl tu:TOd}{p2:Pos}(ha:PE X a (LE X.K ta))(hl:PO X lo (LO X.K tl))(hu:PO X hi (LO X.K tu)):PE X (.Subscript a (.Slice lo hi none p2) pos) (LE X.K (dSl ta tl tu)):=by
 refine (BX (pos:=pos) (p2:=p2) (sl_list.or (sl_tup.or By)) ha hl hu).weak λσ H Q ⟨f,O,ss,S,q⟩=>?_;refine⟨f,O,ss,S,ta.mono (λd q v H1 e1 r=>?_) q⟩;have S1:=S.ex e1;refine⟨f,O,ss,S1,tl.mono (λlo q H2 e2=>?_) q⟩;have S2:=S1.ex e2;refine⟨f,O,ss,S2,tu.mono (λhi q H3 e3=>?_) q⟩;have S3:=S2.ex e3;have r:=S2.up e3 (S1.up e2 r);cases d <;> first|exact False.elim q|skip
 ·have r':=r;obtain⟨p,xs,rfl,h1,h2⟩:=r;by_cases hw:HT.rF xs.length 0 lo=0/\HT.rF xs.length xs.length hi=xs.length
  ·refine .inr (.inr ⟨p,xs,rfl,h1,hw,q.2 _ _ (e1.trans (e2.trans e3)) ?_⟩);unfold sT;rw [← h2.len,hw.1,hw.2,dA,bx,h2.len,bF];exact r'
  ·exact .inr (.inl ⟨p,xs,rfl,h1,hw,λp hp=>q.2 _ _ (e1.trans (e2.trans (e3.trans (S3.new hp _)))) (S3.tup hp (h2.cut _ _))⟩)
 ·rename_i l;obtain⟨p,xs,rfl,_,h1,h2⟩:=r;exact .inl ⟨p,xs,rfl,SqL.of h1,λp hp=>q _ _ (e1.trans (e2.trans (e3.trans (S3.new hp _)))) (S3.lst hp (h2.cut _ _))⟩
def oC(a:TEd):TEd:=⟨λss Q=>a.run ss λd=>match d with | .lst l=>Q (.lst l.reverse)|_=>False,λ{ss Q Q'} h q=>a.mono (λd q=>by
 revert q;cases d <;> first|exact h _|exact id) q⟩
theorem oC.ok{j k:Nat}{p1 p2 p3:Pos}(ha:PE X a (LE X.K ta)):PE X (.Subscript a (.Slice none none (some (.UnaryOp .USub (.Constant (.int 1) j p1) p3)) p2) pos) (LE X.K (oC ta)):=by
 refine (AD (pos:=pos) (p2:=p2) (Ke X.K) ha po_none po_none (zr (Fd (pos:=p3) Bj (qL (j:=j) (pos:=p1))))).weak λσ H Q ⟨f,O,ss,S,q⟩=>?_;refine⟨f,O,ss,S,ta.mono (λd q v H1 e1 r=>?_) q⟩;have S1:=S.ex e1;cases d <;> first|exact False.elim q|skip
 rename_i l;obtain⟨p,xs,rfl,_,h1,h2⟩:=r;exact⟨_,rfl,_,rfl,rfl,rfl,rfl,p,xs,rfl,SqL.of h1,λp hp=>q _ _ (e1.trans (S1.new hp _)) (S1.lst hp h2.reverse)⟩
abbrev BD:=List D->(D->Prop)->Prop
def dB(o:BD)(m:∀{ds Q Q'},(∀ d,Q d->Q' d)->o ds Q->o ds Q')(t:TAd):TEd:=⟨λss Q=>t.run ss λds=>o ds Q,λh q=>t.mono (λds q=>m h q) q⟩
def RC(K:Frag)(r:List V->Hp->VK->Prop)(o:BD):Prop:=∀(f:Addr) (O:List Addr) (σ:St) (ss:SS) (H:Hp) (ds:List D) (vs:List V) (Q:VK),SlD K f O σ H ss->Rps K f O H ds vs->o ds (λd=>∀ v H',Ex f H H'->Rp K f O H' d v->Q v H')->r vs H Q
theorem dB.ok{e:Expr}{r:List V->Hp->VK->Prop}{o:BD}{m}{t:TAd}(hr:RC X.K r o)(h:PE X e (J6 r (LA X.K t))):PE X e (LE X.K (dB o m t)):=h.weak λσ H Q ⟨f,O,ss,S,q⟩ =>
 ⟨f,O,ss,S,t.mono (λds q vs H1 e1 r1=>hr f O σ ss H1 ds vs Q (S.ex e1) r1 (m (λd q v H' e r=>q v H' (e1.trans e) r) q)) q⟩
def RB(X:Cx)(g:Value)(o:BD):Prop:=∃ r,CallR X g r/\RC X.K r o
theorem CallR.or2{g:Value}{r r':List V->Hp->VK->Prop}(h:CallR X g r)(h':CallR X g r'):CallR X g (λxs H Q=>r xs H Q\/r' xs H Q):=λpins s σ H xs us Q I rx q=>q.elim (h pins s σ H xs us Q I rx) (h' pins s σ H xs us Q I rx)
def bLen:BD
 | [.lst l],Q=>Q (.int l.length)
 | [.tup l],Q=>Q (.int l.length)
 | [.str z],Q=>z.length<=sizeLine/\Q (.int z.length)
 | _,_=>False
def bAbs:BD
 | [.int i],Q=>Q (.int (if i<0 then -i else i))
 | _,_=>False
def bAll:BD
 | [.lst l],Q=>∃ bs:List Bool,l=bs.map D.bl/\Q (.bl (bs.all id))
 | _,_=>False
def bSum:BD
 | [.lst l],Q=>∃ ns:List Int,l=ns.map D.int/\Q (.int ns.sum)
 | [.tup l],Q=>∃ ns:List Int,l=ns.map D.int/\Q (.int ns.sum)
 | _,_=>False
def bMax:BD
 | [.int i,.int j],Q=>Q (.int (if j > i then j else i))
 | [.lst l],Q=>∃ ns:List Int,l=ns.map D.int/\ns≠[]/\∀ M,M∈ns->(∀ a∈ns,a<=M)->Q (.int M)
 | _,_=>False
def bMin:BD
 | [.int i,.int j],Q=>Q (.int (if j<i then j else i))
 | _,_=>False
def bInt:BD
 | [.int i],Q=>Q (.int i)
 | [.bl k],Q=>Q (.int (if k then 1 else 0))
 | _,_=>False
def bList:BD
 | [.lst l],Q=>Q (.lst l)
 | [.tup l],Q=>Q (.lst l)
 | _,_=>False
def bTuple:BD
 | [.lst l],Q=>Q (.tup l)
 | [.tup l],Q=>Q (.tup l)
 | _,_=>False
end Dp
set_option maxHeartbeats 1000000
set_option maxHeartbeats 1000000
set_option maxHeartbeats 1000000
namespace Dp
open PySem L2
variable{K:Frag}{f:Addr}{O O':List Addr}{H H':Hp}{X:Cx}{σ:St}{ss:SS}{a b c:Expr}{ta tb tc:TEd}{tA tB:TTd}{pos:Pos}
theorem Rps.one{d:D}{vs:List V}(h:Rps K f O H [d] vs):∃ v,vs=[v]/\Rp K f O H d v:=by
 obtain⟨v,r,e,h1,h2⟩:=h;cases (show r=[] from h2);exact⟨v,e,h1⟩
theorem Rps.two{d d':D}{vs:List V}(h:Rps K f O H [d,d'] vs):∃ v v',vs=[v,v']/\Rp K f O H d v/\Rp K f O H d' v':=by
 obtain⟨v,r,e,h1,h2⟩:=h;obtain⟨w,e2,h3⟩:=Rps.one h2;subst e2;exact⟨v,w,e,h1,h3⟩
theorem bLen.mono:∀{ds Q Q'},(∀ d,Q d->Q' d)->bLen ds Q->bLen ds Q':=by
 intro ds Q Q' h;unfold bLen;split <;> first|exact h _|exact λq=>⟨q.1,h _ q.2⟩|exact id
theorem bAbs.mono:∀{ds Q Q'},(∀ d,Q d->Q' d)->bAbs ds Q->bAbs ds Q':=by
 intro ds Q Q' h;unfold bAbs;split <;> first|exact h _|exact id
theorem bAll.mono:∀{ds Q Q'},(∀ d,Q d->Q' d)->bAll ds Q->bAll ds Q':=by
 intro ds Q Q' h;unfold bAll;split <;> first|exact fun⟨bs,e,q⟩=>⟨bs,e,h _ q⟩|exact id
theorem bSum.mono:∀{ds Q Q'},(∀ d,Q d->Q' d)->bSum ds Q->bSum ds Q':=by
 intro ds Q Q' h;unfold bSum;split <;> first|exact fun⟨bs,e,q⟩=>⟨bs,e,h _ q⟩|exact id
theorem bMax.mono:∀{ds Q Q'},(∀ d,Q d->Q' d)->bMax ds Q->bMax ds Q':=by
 intro ds Q Q' h;unfold bMax;split <;> first|exact h _|exact fun⟨bs,e,n,q⟩=>⟨bs,e,n,λM m l=>h _ (q M m l)⟩|exact id
theorem bMin.mono:∀{ds Q Q'},(∀ d,Q d->Q' d)->bMin ds Q->bMin ds Q':=by
 intro ds Q Q' h;unfold bMin;split <;> first|exact h _|exact id
theorem bInt.mono:∀{ds Q Q'},(∀ d,Q d->Q' d)->bInt ds Q->bInt ds Q':=by
 intro ds Q Q' h;unfold bInt;split <;> first|exact h _|exact id
theorem bList.mono:∀{ds Q Q'},(∀ d,Q d->Q' d)->bList ds Q->bList ds Q':=by
 intro ds Q Q' h;unfold bList;split <;> first|exact h _|exact id
theorem bTuple.mono:∀{ds Q Q'},(∀ d,Q d->Q' d)->bTuple ds Q->bTuple ds Q':=by
 intro ds Q Q' h;unfold bTuple;split <;> first|exact h _|exact id
theorem BI:RB X (.builtin "len") bLen:=by
 refine⟨_,CallR.or2 (AQ X.K) xb,λf O σ ss H ds vs Q S r h=>?_⟩;unfold bLen at h;split at h
 ·obtain⟨v,rfl,p,xs,rfl,_,h1,h2⟩:=Rps.one r;refine .inl ⟨p,xs,rfl,.inl (SqL.of h1),?_⟩;rw [h2.len];exact h _ H (Ex.refl S.fl) rfl
 ·obtain⟨v,rfl,p,xs,rfl,h1,h2⟩:=Rps.one r;refine .inl ⟨p,xs,rfl,.inr h1,?_⟩;rw [h2.len];exact h _ H (Ex.refl S.fl) rfl
 ·obtain⟨v,rfl,e⟩:=Rps.one r;cases e;exact .inr ⟨_,rfl,h.1,h.2 _ H (Ex.refl S.fl) rfl⟩
 ·exact h.elim
theorem Gi:RB X (.builtin "abs") bAbs:=by
 refine⟨_,Dk,λf O σ ss H ds vs Q S r h=>?_⟩;unfold bAbs at h;split at h
 ·obtain⟨v,rfl,e⟩:=Rps.one r;cases e;exact⟨_,rfl,h _ H (Ex.refl S.fl) rfl⟩
 ·exact h.elim
theorem Gh(hc:X.calm=true):RB X (.builtin "all") bAll:=by
 refine⟨_,Jw X.K hc,λf O σ ss H ds vs Q S r h=>?_⟩;unfold bAll at h;split at h
 ·obtain⟨bs,rfl,h⟩:=h;obtain⟨v,rfl,p,xs,rfl,_,h1,h2⟩:=Rps.one r;cases h2.bls;exact⟨p,bs,rfl,SqL.of h1,h _ H (Ex.refl S.fl) rfl⟩
 ·exact h.elim
theorem Ka(K:Frag)(hc:X.calm=true:=by rfl)(hK:X.K=K:=by rfl):CallR X (.builtin "sum") (λxs H Q=>∃ p,∃ ns:List Int,xs=[.ref p]/\SqT K H p (ns.map V.int)/\Q (.int ns.sum) H):=by
 subst hK;intro pins s σ H xs us Q I rv h;obtain⟨p,ns,rfl,hp,q⟩:=h;obtain⟨u,rfl,ru⟩:=rv.one;cases ru;obtain⟨its,rv',pl,_⟩:=I.tuple hp;obtain⟨ys,e1,e2⟩:=tF rv';subst e1;have hl:s.heap.IsTuple p (intItems ys.toArray):=by
  have:intItems ys.toArray=(ys.map (λp=>Value.int p.1 p.2)).toArray:=by simp [intItems]
  rw [this];exact pl
 refine PySem.W.ktm_sumG (I.ok.hd hc) hl λh' tk t' hk=>?_;refine⟨.int _,H,I.kept (t':=tk) hk,⟨t',rfl⟩,?_⟩;have:preSum (numAt ys.toArray) ys.toArray.size=ns.sum:=by
  have e:numAt ys.toArray=λi=>ns.getD i 0:=by
   funext i;rw [numAt_eq,← e2]
  have l:ys.toArray.size=ns.length:=by rw [← e2];simp
  rw [e,l,uv ns _ (af _),bF]
 rw [this];exact q
theorem Gd(hc:X.calm=true):RB X (.builtin "sum") bSum:=by
 refine⟨_,CallR.or2 (Kb X.K hc) (Ka X.K hc),λf O σ ss H ds vs Q S r h=>?_⟩;unfold bSum at h;split at h
 ·obtain⟨bs,rfl,h⟩:=h;obtain⟨v,rfl,p,xs,rfl,_,h1,h2⟩:=Rps.one r;cases h2.ints;exact .inl ⟨p,bs,rfl,SqL.of h1,h _ H (Ex.refl S.fl) rfl⟩
 ·obtain⟨bs,rfl,h⟩:=h;obtain⟨v,rfl,p,xs,rfl,h1,h2⟩:=Rps.one r;cases h2.ints;exact .inr ⟨p,bs,rfl,h1,h _ H (Ex.refl S.fl) rfl⟩
 ·exact h.elim
theorem Gf(hc:X.calm=true):RB X (.builtin "max") bMax:=by
 refine⟨_,CallR.or2 (A9 hc) (Kt X.K hc),λf O σ ss H ds vs Q S r h=>?_⟩;unfold bMax at h;split at h
 ·obtain⟨v,v',rfl,e1,e2⟩:=Rps.two r;cases e1;cases e2;exact .inl ⟨_,_,rfl,h _ H (Ex.refl S.fl) rfl⟩
 ·obtain⟨bs,rfl,n,h⟩:=h;obtain⟨v,rfl,p,xs,rfl,_,h1,h2⟩:=Rps.one r;cases h2.ints;exact .inr ⟨p,bs,rfl,SqL.of h1,n,λM m l=>h M m l _ H (Ex.refl S.fl) rfl⟩
 ·exact h.elim
theorem Ge(hc:X.calm=true):RB X (.builtin "min") bMin:=by
 refine⟨_,A7 hc,λf O σ ss H ds vs Q S r h=>?_⟩;unfold bMin at h;split at h
 ·obtain⟨v,v',rfl,e1,e2⟩:=Rps.two r;cases e1;cases e2;exact⟨_,_,rfl,h _ H (Ex.refl S.fl) rfl⟩
 ·exact h.elim
theorem Gg:RB X (.type "int") bInt:=by
 refine⟨_,Ba,λf O σ ss H ds vs Q S r h=>?_⟩;unfold bInt at h;split at h
 ·obtain⟨v,rfl,e⟩:=Rps.one r;cases e;exact .inl ⟨_,rfl,h _ H (Ex.refl S.fl) rfl⟩
 ·obtain⟨v,rfl,e⟩:=Rps.one r;cases e;exact .inr ⟨_,rfl,h _ H (Ex.refl S.fl) rfl⟩
 ·exact h.elim
theorem DS:RB X (.type "list") bList:=by
 refine⟨_,yD X.K,λf O σ ss H ds vs Q S r h=>?_⟩;unfold bList at h;split at h
 ·obtain⟨v,rfl,p,xs,rfl,_,h1,h2⟩:=Rps.one r;exact⟨p,xs,rfl,.inl (SqL.of h1),λl hl=>h _ _ (S.new hl _) (S.lst hl h2)⟩
 ·obtain⟨v,rfl,p,xs,rfl,h1,h2⟩:=Rps.one r;exact⟨p,xs,rfl,.inr h1,λl hl=>h _ _ (S.new hl _) (S.lst hl h2)⟩
 ·exact h.elim
theorem BH:RB X (.type "tuple") bTuple:=by
 refine⟨_,DI X.K,λf O σ ss H ds vs Q S r h=>?_⟩;unfold bTuple at h;split at h
 ·obtain⟨v,rfl,p,xs,rfl,_,h1,h2⟩:=Rps.one r;exact⟨p,xs,rfl,.inl ⟨SqL.of h1,λl hl=>h _ _ (S.new hl _) (S.tup hl h2)⟩⟩
 ·obtain⟨v,rfl,p,xs,rfl,h1,h2⟩:=Rps.one r;exact⟨p,xs,rfl,.inr ⟨h1,h _ H (Ex.refl S.fl) ⟨p,xs,rfl,h1,h2⟩⟩⟩
 ·exact h.elim
structure BB where
 run:BD
 mono:∀{ds Q Q'},(∀ d,Q d->Q' d)->run ds Q->run ds Q'
def kc(i:Nat):TEd:=⟨λss Q=>match ss[i]? with|some (.val d)=>bLen [d] Q|some (.own l)=>Q (.int l.length)|_=>False,λ{ss Q Q'} h q=>by
 revert q;split
 ·exact bLen.mono h
 ·exact h _
 ·exact id⟩
theorem kc.ok{i:Nat}{p:Pos}(hg:Gl X "len")(hm:X.mg "len" = none)(ha:PE X a (t6 i))(hs:starEach [a] X.env=[(false,eval a X.env)]):PE X (.Call (.Name "len" p) [a] [] pos) (LE X.K (kc i)):=by
 obtain⟨r,h1,h2⟩:=BI (X:=X);refine (ra (p:=p) (pos:=pos) (CallR.or2 h1 (AQ X.K)) hg hm uD (qK ha pa_nil hs) (by decide) (by decide) hs rfl).weak λσ H Q ⟨f,O,ss,S,q⟩=>?_;have q:(match ss[i]? with|some (.val d)=>bLen [d] (λd=>∀ v H',Ex f H H'->Rp X.K f O H' d v->Q v H')|some (.own l)=>(∀ v H',Ex f H H'->Rp X.K f O H' (.int l.length) v->Q v H')|_=>False):=q;split at q
 ·rename_i d e;obtain⟨v,w1,w2⟩:=S.val i d e;exact⟨v,w1,.inl (h2 f O σ ss H [d] [v] Q S ⟨v,[],rfl,w2,rfl⟩ q)⟩
 ·rename_i l e;obtain⟨p0,xs,w1,w2,w3,w4,w5⟩:=S.own i l e;refine⟨_,w1,.inr ⟨p0,xs,rfl,.inl (SqL.of w4),?_⟩⟩;rw [w5.len];exact q _ H (Ex.refl S.fl) rfl
 ·exact q.elim
structure SpB where
 n:Nat
 run:La
 mono:∀{ds Q Q'},(∀ d,Q d->Q' d)->run ds Q->run ds Q'
def SpB.of(n:Nat){α:Type}(pre:α->List D->Prop)(post:α->D->Prop):SpB:=⟨n,λds Q=>∃ x,pre x ds/\∀ d,post x d->Q d,λh ⟨x,p,q⟩=>⟨x,p,λd r=>h _ (q d r)⟩⟩
def gS(s:SpB)(t:TAd):TEd:=⟨λss Q=>t.run ss λds=>ds.length=s.n/\s.run ds Q,λh q=>t.mono (λds q=>⟨q.1,s.mono h q.2⟩) q⟩
theorem gS.ok{e:Expr}{s:SpB}{t:TAd}(h:PE X e (zm (xl X.K s.n s.run) [] E0 (LA X.K t))):PE X e (LE X.K (gS s t)):=h.weak λσ H Q ⟨f,O,ss,S,q⟩ =>
 ⟨f,O,ss,S,t.mono (λds q vs H1 e1 r1=>by
  have S1:=S.ex e1;refine⟨by rw [dc,r1.len];exact q.1,f,O,ds,S1.fl,S1.fO,S1.al,S1.lO,by rw [dc];exact r1,?_⟩;exact s.mono (λd q v H' e r=>q v H' (e1.trans e) r) q.2) q⟩
end Dp
namespace Dp
open PySem L2
variable{K:Frag}{f:Addr}{O O':List Addr}{H H':Hp}{X:Cx}{σ:St}{ss:SS}{a b c:Expr}{ta tb tc:TEd}{tA tB:TTd}{pos:Pos}
mutual
theorem Rp.moved(e:∀ a∈O',a∈O\/H a=none)(k:Kp O H H')(hO:∀ b∈O,∃ xs,H b=some (.lst xs)):∀{d:D} {v:V},Rp K f O H d v->Rp K f O' H' d v
 | .non,_,h=>h
 | .bl _,_,h=>h
 | .int _,_,h=>h
 | .str _,_,h=>h
 | .fl,_,h=>h
 | .tup l,v,h=>by
  obtain⟨a,xs,e1,h1,h2⟩:=h;exact⟨a,xs,e1,h1.kp k hO,Rps.moved e k hO h2⟩
 | .lst l,v,h=>by
  obtain⟨a,xs,e1,n,h1,h2⟩:=h;refine⟨a,xs,e1,λz=>?_,k a _ n h1,Rps.moved e k hO h2⟩;rcases e a z with q|q
  ·exact n q
  ·rw [h1] at q;cases q
 | .exn C x l,v,h=>by
  obtain⟨a,us,e1,h1,h2⟩:=h;exact⟨a,us,e1,h1.kp k hO,Rps.moved e k hO h2⟩
 | .dct ks l,v,h=>by
  obtain⟨a,us,e1,h1,h2,h3⟩:=h;exact⟨a,us,e1,k a _ (λz=>by obtain⟨xs,q⟩:=hO a z;rw [q] at h1;cases h1) h1,h2,Rps.moved e k hO h3⟩
theorem Rps.moved(e:∀ a∈O',a∈O\/H a=none)(k:Kp O H H')(hO:∀ b∈O,∃ xs,H b=some (.lst xs)):∀{ds:List D} {vs:List V},Rps K f O H ds vs->Rps K f O' H' ds vs
 | [],_,h=>h
 | d::ds,_,h=>by
  obtain⟨v,r,e1,h1,h2⟩:=h;exact⟨v,r,e1,Rp.moved e k hO h1,Rps.moved e k hO h2⟩
end
structure ItD (K:Frag)(f:Addr)(O:List Addr)(J:It)(H1:Hp)(ds:List D):Prop where
 go:∀ H' i,Kp O H1 H'->i<ds.length->J.go i H'
 yld:∀ O' H' i x H'',(∀ a∈O',a∈O\/H1 a=none)->f∈O'->(∀ a∈O',∃ xs,H' a=some (.lst xs))->Kp O H1 H'->Fl H' f->i<ds.length->J.yld i H' x H''->∃ d,ds[i]? = some d/\Ex f H' H''/\Rp K f O' H'' d x
 stop:∀ H',Kp O H1 H'->J.stop ds.length H'
def LI(K:Frag)(t:TAd):TI:=λσ H R=>∃ f O ss,SlD K f O σ H ss/\t.run ss λds=>∀ J H1,Ex f H H1->ItD K f O J H1 ds->R J H1
theorem _root_.L2.PI.weak{tg e:Expr}{t t':TI}(h:PI X tg e t)(w:∀ σ H Q,t' σ H Q->t σ H Q):PI X tg e t':=λpins s σ H Q I q=>h pins s σ H Q I (w σ H Q q)
def itemsD:D->(List D->Prop)->Prop
 | .lst l,Q=>Q l
 | .tup l,Q=>Q l
 | _,_=>False
theorem itemsD.mono{d:D}{Q Q':List D->Prop}(h:∀ d,Q d->Q' d):itemsD d Q->itemsD d Q':=by
 cases d <;> first|exact h _|exact id
def iG(t:TEd):TAd:=⟨λss Q=>t.run ss λd=>itemsD d Q,λh q=>t.mono (λd q=>itemsD.mono h q) q⟩
theorem iG.ok{tg:Expr}(h:PE X a (LE X.K ta)):PI X tg a (LI X.K (iG ta)):=(LD X.K h).weak λσ H R ⟨f,O,ss,S,q⟩=>⟨f,O,ss,S,ta.mono (λd q v H1 e r=>by
 have S1:=S.ex e;cases d <;> first|exact False.elim q|skip
 ·rename_i l;obtain⟨p,xs,rfl,h1,h2⟩:=r;refine⟨p,rfl,.inr ⟨⟨xs,h1⟩,q _ H1 e ⟨λH' i k hi=>?_,λO' H' i x H'' hO hf al k F hi y=>?_,λH' k=>?_⟩⟩⟩
  ·obtain⟨v,hv,_⟩:=h2.get (show l[i]? = some l[i] by simp [hi]);exact⟨xs,v,h1.kp k S1.al,hv⟩
  ·obtain⟨rfl,y⟩:=y;obtain⟨v,hv,r⟩:=h2.get (show l[i]? = some l[i] by simp [hi]);have:=y xs (h1.kp k S1.al);rw [hv] at this;cases this;exact⟨l[i],by simp [hi],Ex.refl F,r.moved hO k S1.al⟩
  ·exact⟨xs,h1.kp k S1.al,by rw [h2.len];exact af _⟩
 ·rename_i l;obtain⟨p,xs,rfl,n,h1,h2⟩:=r;refine⟨p,rfl,.inl ⟨⟨xs,SqL.of h1⟩,q _ H1 e ⟨λH' i k hi=>?_,λO' H' i x H'' hO hf al k F hi y=>?_,λH' k=>?_⟩⟩⟩
  ·obtain⟨v,hv,_⟩:=h2.get (show l[i]? = some l[i] by simp [hi]);exact⟨xs,v,SqL.of (k p _ n h1),hv⟩
  ·obtain⟨rfl,y⟩:=y;obtain⟨v,hv,r⟩:=h2.get (show l[i]? = some l[i] by simp [hi]);have:=y xs (SqL.of (k p _ n h1));rw [hv] at this;cases this;exact⟨l[i],by simp [hi],Ex.refl F,r.moved hO k S1.al⟩
  ·exact⟨xs,SqL.of (k p _ n h1),by rw [h2.len];exact af _⟩) q⟩
def sA(lo:Int)(n:Nat):List D:=(List.range n).map λi=>.int (lo+(i:Nat))
theorem qQ{lo:Int}{n:Nat}:(sA lo n).length=n:=by simp [sA]
theorem xm{lo:Int}{n i:Nat}(h:i<n):(sA lo n)[i]? = some (.int (lo+(i:Nat))):=by simp [sA,h]
theorem rg{lo:Int}{n i:Nat}{d:D}(h:(sA lo n)[i]? = some d):i<n/\d = .int (lo+(i:Nat)):=by
 have:=(aj.mp h).1;rw [qQ] at this;rw [xm this] at h;exact⟨this,(Option.some.inj h).symm⟩
theorem zO{lo:Int}{n:Nat}{H1:Hp}:ItD K f O (HR lo n) H1 (sA lo n):=by
 refine⟨λH' i k hi=>?_,λO' H' i x H'' hO hf al k F hi y=>?_,λH' k=>?_⟩
 ·rw [qQ] at hi;exact hi
 ·obtain⟨rfl,rfl⟩:=y;rw [qQ] at hi;exact⟨_,xm hi,Ex.refl F,rfl⟩
 ·rw [qQ];exact af _
def rngD:D->(List D->Prop)->Prop
 | .int j,Q => -(2^62)<=j/\j<2^62/\Q (sA 0 j.toNat)
 | _,_=>False
theorem rngD.mono{d:D}{Q Q':List D->Prop}(h:∀ d,Q d->Q' d):rngD d Q->rngD d Q':=by
 cases d <;> first|exact λq=>⟨q.1,q.2.1,h _ q.2.2⟩|exact id
def rngD2:D->D->(List D->Prop)->Prop
 | .int i,.int j,Q=>(-(2^62)<=i/\i<2^62 /\ -(2^62)<=j/\j<2^62)/\Q (sA i (j-i).toNat)
 | _,_,_=>False
theorem rngD2.mono{d d':D}{Q Q':List D->Prop}(h:∀ d,Q d->Q' d):rngD2 d d' Q->rngD2 d d' Q':=by
 cases d <;> cases d' <;> first|exact λq=>⟨q.1,h _ q.2⟩|exact id
def je(t:TEd):TAd:=⟨λss Q=>t.run ss λd=>rngD d Q,λh q=>t.mono (λd q=>rngD.mono h q) q⟩
def ke(t u:TEd):TAd:=⟨λss Q=>t.run ss λd=>u.run ss λd'=>rngD2 d d' Q,λh q=>t.mono (λd q=>u.mono (λd' q=>rngD2.mono h q) q) q⟩
theorem je.ok{tg:Expr}{p:Pos}(hg:Gl X "range")(hm:X.mg "range" = none)(ha:PE X a (LE X.K ta))(hs:starEach [a] X.env=[(false,eval a X.env)]):PI X tg (.Call (.Name "range" p) [a] [] pos) (LI X.K (je ta)) :=
 (vR (p:=p) (pos:=pos) hg hm (qK ha pa_nil hs) hs).weak λσ H R ⟨f,O,ss,S,q⟩=>⟨f,O,ss,S,ta.mono (λd q v H1 e r=>by
  cases d <;> first|exact False.elim q|skip
  cases (show v=_ from r);exact⟨_,rfl,q.1,q.2.1,q.2.2 _ H1 e zO⟩) q⟩
theorem ke.ok{tg:Expr}{p:Pos}(hg:Gl X "range")(hm:X.mg "range" = none)(ha:PE X a (LE X.K ta))(hb:PE X b (LE X.K tb))(hs:starEach [a,b] X.env=[(false,eval a X.env),(false,eval b X.env)])(hs2:starEach [b] X.env=[(false,eval b X.env)]):PI X tg (.Call (.Name "range" p) [a,b] [] pos) (LI X.K (ke ta tb)) :=
 (AB (p:=p) (pos:=pos) hg hm (qK ha (qK hb pa_nil hs2) (by rw [hs,hs2])) hs hs2).weak λσ H R ⟨f,O,ss,S,q⟩=>⟨f,O,ss,S,ta.mono (λd q v H1 e r=>⟨f,O,ss,S.ex e,tb.mono (λd' q v' H2 e2 r'=>by
  cases d <;> cases d' <;> first|exact False.elim q|skip
  cases (show v=_ from r);cases (show v'=_ from r');exact⟨_,_,rfl,q.1,q.2 _ H2 (e.trans e2) zO⟩) q⟩) q⟩
def Sub(σ:St)(ss:SS)(σ':St)(ss':SS):Prop:=∀(i:Nat) (l:List D),ss'[i]? = some (SD.own l)->ss[i]? = some (SD.own l)/\σ'[i]? = σ[i]?
theorem Sub.refl:Sub σ ss σ ss:=λ_ _ h=>⟨h,rfl⟩
theorem Sub.trans{σ1 σ2:St}{s1 s2:SS}(h:Sub σ ss σ1 s1)(k:Sub σ1 s1 σ2 s2):Sub σ ss σ2 s2:=λi l q=>by
 obtain⟨q1,e1⟩:=k i l q;obtain⟨q2,e2⟩:=h i l q1;exact⟨q2,e1.trans e2⟩
def Agr(T:List Nat)(σ σ':St):Prop:=σ'.length=σ.length/\∀ j,j ∉ T->σ'[j]? = σ[j]?
theorem Agr.refl{T:List Nat}:Agr T σ σ:=⟨rfl,λ_ _=>rfl⟩
theorem Agr.set{T:List Nat}{i:Nat}{v:Option V}(h:i∈T):Agr T σ (σ.set i v):=⟨bj,λj n=>aF (by rintro rfl;exact n h)⟩
theorem Agr.trans{T:List Nat}{σ1 σ2:St}(a:Agr T σ σ1)(b:Agr T σ1 σ2):Agr T σ σ2:=⟨b.1.trans a.1,λj n=>(b.2 j n).trans (a.2 j n)⟩
def LG(K:Frag)(t:TGd):TG:=λv σ H Q=>∃ f O ss d,SlD K f O σ H ss/\Rp K f O H d v/\t.run d ss λss'=>∀ σ' H',Ex f H H'->SlD K f O σ' H' ss'->Sub σ ss σ' ss'->Agr t.tg σ σ'->Q σ' H'
theorem SlD.set(S:SlD K f O σ H ss){i:Nat}{d:D}{v:V}(r:Rp K f O H d v):SlD K f O (σ.set i (some v)) H (ss.set i (.val d)) where
 fl:=S.fl
 fO:=S.fO
 al:=S.al
 lO:=S.lO
 len:=by rw [bj,bj,S.len]
 val:=λj d' h=>by
  by_cases z:i=j
  ·subst z;rw [aP] at h;rw [if_pos rfl] at h;split at h
   ·cases h;rename_i l;exact⟨v,by rw [aP,if_pos rfl,if_pos (by rw [← S.len];exact l)],r⟩
   ·cases h
  ·rw [aF z] at h ⊢;exact S.val j d' h
 own:=λj l h=>by
  by_cases z:i=j
  ·subst z;rw [aP] at h;rw [if_pos rfl] at h;split at h <;> cases h
  ·rw [aF z] at h ⊢;exact S.own j l h
theorem Sub.set{i:Nat}{d:D}{v:Option V}:Sub σ ss (σ.set i v) (ss.set i (.val d)):=λj l h=>by
 by_cases z:i=j
 ·subst z;rw [aP] at h;rw [if_pos rfl] at h;split at h <;> cases h
 ·rw [aF z] at h ⊢;exact⟨h,rfl⟩
def gNm(i:Nat):TGd:=⟨[i],λd ss Q=>Q (ss.set i (.val d)),λh q=>h _ q⟩
theorem _root_.L2.PG.weak{e:Expr}{t t':TG}(h:PG X e t)(w:∀ v σ H Q,t' v σ H Q->t v σ H Q):PG X e t':=λpins s σ H v u Q I r q=>h pins s σ H v u Q I r (w _ σ H Q q)
end Dp
namespace Dp
open PySem L2
variable{K:Frag}{f:Addr}{O O':List Addr}{H H':Hp}{X:Cx}{σ:St}{ss:SS}{a b c:Expr}{ta tb tc:TEd}{tA tB:TTd}{pos:Pos}
theorem gNm.ok{i:Nat}{e:Expr}(h:PG X e (v5 i)):PG X e (LG X.K (gNm i)):=h.weak λv σ H Q ⟨f,O,ss,d,S,r,q⟩=>q _ H (Ex.refl S.fl) (S.set r) Sub.set (Agr.set aE)
def uq(ss:SS):List Nat->List D->SS
 | i::is,d::ds=>uq (ss.set i (.val d)) is ds
 | _,_=>ss
def gsAll:List Nat->DF
 | []=>Jg
 | i::is=>Fy (v5 i) (gsAll is)
def tJ(σ:St):List Nat->List V->St
 | i::is,v::vs=>tJ (σ.set i (some v)) is vs
 | _,_=>σ
theorem gsAll.run{Q:St->Hp->Prop}:∀{is:List Nat} {vs:List V} {σ:St},vs.length=is.length->Q (tJ σ is vs) H->gsAll is vs σ H Q
 | [],[],σ,_,q=>⟨rfl,q⟩
 | [],_::_,_,l,_=>by cases l
 | _::_,[],_,l,_=>by cases l
 | i::is,v::vs,σ,l,q=>⟨v,vs,rfl,gsAll.run (by simpa using l) q⟩
theorem SlD.all:∀{is:List Nat} {vs:List V} {ds:List D} {σ:St} {ss:SS},SlD K f O σ H ss->Rps K f O H ds vs->SlD K f O (tJ σ is vs) H (uq ss is ds)
 | [],_,_,_,_,S,_=>S
 | i::is,[],[],_,_,S,_=>S
 | i::is,vs,[],_,_,S,r=>by cases (show vs=[] from r);exact S
 | i::is,vs,d::ds,σ,ss,S,r=>by
  obtain⟨v,r',e,h1,h2⟩:=r;subst e;show SlD K f O (tJ (σ.set i (some v)) is r') H (uq (ss.set i (.val d)) is ds);exact SlD.all (S.set h1) h2
theorem Sub.all:∀{is:List Nat} {vs:List V} {ds:List D} {σ:St} {ss:SS},vs.length=ds.length->Sub σ ss (tJ σ is vs) (uq ss is ds)
 | [],_,_,_,_,_=>Sub.refl
 | i::is,[],[],_,_,_=>Sub.refl
 | i::is,_::_,[],_,_,l=>by cases l
 | i::is,[],_::_,_,_,l=>by cases l
 | i::is,v::vs,d::ds,σ,ss,l=>Sub.trans Sub.set (Sub.all (by simpa using l))
theorem Agr.all:∀{is T:List Nat} {vs:List V} {σ:St},(∀ i∈is,i∈T)->Agr T σ (tJ σ is vs)
 | [],_,_,_,_=>Agr.refl
 | _::_,_,[],_,_=>Agr.refl
 | i::is,T,v::vs,σ,h=>Agr.trans (Agr.set (h i aE)) (Agr.all λj hj=>h j (ay _ hj))
def gTp(is:List Nat):TGd:=⟨is,λd ss Q=>match d with | .tup l=>l.length=is.length/\Q (uq ss is l)|_=>False,λ{d ss Q Q'} h q=>by
 revert q;cases d <;> first|exact id|exact λq=>⟨q.1,h _ q.2⟩⟩
theorem gTp.ok{is:List Nat}{e:Expr}(h:PG X e (Je X.K is.length (gsAll is))):PG X e (LG X.K (gTp is)):=h.weak λv σ H Q ⟨f,O,ss,d,S,r,q⟩=>by
 cases d <;> first|exact False.elim q|skip
 rename_i l;obtain⟨p,xs,rfl,h1,h2⟩:=r;exact⟨p,xs,rfl,h1,h2.len.trans q.1,gsAll.run (h2.len.trans q.1) (q.2 _ H (Ex.refl S.fl) (S.all h2) (Sub.all h2.len) (Agr.all λ_ h=>h))⟩
def sj(l:List D):List D:=(List.range l.length).map λi=>.tup [.int ((i:Nat):Int),l.getD i .non]
theorem qZ{l:List D}:(sj l).length=l.length:=by simp [sj]
theorem uB{l:List D}{i:Nat}(h:i<l.length):(sj l)[i]? = some (.tup [.int ((i:Nat):Int),l.getD i .non]):=by simp [sj,h]
theorem v7{l:List D}{i:Nat}{d:D}(h:(sj l)[i]? = some d):∃ x,l[i]? = some x/\d = .tup [.int ((i:Nat):Int),x]:=by
 have hi:=(aj.mp h).1;rw [qZ] at hi;rw [uB hi] at h;refine⟨l[i],by simp [hi],(Option.some.inj h).symm.trans ?_⟩;rw [ac,ao hi];rfl
def iN(t:TEd):TAd:=⟨λss Q=>t.run ss λd=>itemsD d λl=>Q (sj l),λh q=>t.mono (λd q=>itemsD.mono (λl q=>h _ q) q) q⟩
def kW(t:TEd):TAd:=⟨λss Q=>t.run ss λd=>itemsD d λl=>Q l.reverse,λh q=>t.mono (λd q=>itemsD.mono (λl q=>h _ q) q) q⟩
def tq(hide:List Nat)(ss:SS):SS:=hide.foldl (λs i=>s.set i .no) ss
theorem SlD.blank(S:SlD K f O σ H ss){i:Nat}{o:Option V}:SlD K f O (σ.set i o) H (ss.set i .no) where
 fl:=S.fl
 fO:=S.fO
 al:=S.al
 lO:=S.lO
 len:=by rw [bj,bj,S.len]
 val:=λj d' h=>by
  by_cases z:i=j
  ·subst z;rw [aP] at h;rw [if_pos rfl] at h;split at h <;> cases h
  ·rw [aF z] at h ⊢;exact S.val j d' h
 own:=λj l h=>by
  by_cases z:i=j
  ·subst z;rw [aP] at h;rw [if_pos rfl] at h;split at h <;> cases h
  ·rw [aF z] at h ⊢;exact S.own j l h
theorem SlD.hide:∀{hide:List Nat} {σ:St} {ss:SS},SlD K f O σ H ss->SlD K f O (uH hide σ) H (tq hide ss)
 | [],_,_,S=>S
 | i::r,σ,ss,S=>SlD.hide (hide:=r) (S.blank (i:=i) (o:=none))
theorem xF:∀{hide:List Nat} {ss:SS} {i:Nat},(i∈hide\/ss[i]? = some SD.no\/ss[i]? = none)->(tq hide ss)[i]? = some SD.no\/(tq hide ss)[i]? = none
 | [],ss,i,h=>by
  rcases h with h|h
  ·cases h
  ·exact h
 | j::r,ss,i,h=>by
  refine xF (hide:=r) (ss:=ss.set j .no) ?_;by_cases z:j=i
  ·subst z;right;rw [aP,if_pos rfl];split
   ·exact .inl rfl
   ·exact .inr rfl
  ·rw [aF z];rcases h with h|h
   ·rcases am.mp h with q|q
    ·exact absurd q.symm z
    ·exact .inl q
   ·exact .inr h
theorem SlD.agr{T:List Nat}{σ':St}(S:SlD K f O σ H ss)(h:Agr T σ σ')(hT:∀ i∈T,ss[i]? = some SD.no\/ss[i]? = none):SlD K f O σ' H ss where
 fl:=S.fl
 fO:=S.fO
 al:=S.al
 lO:=S.lO
 len:=S.len.trans h.1.symm
 val:=λj d q=>by
  rw [h.2 j λz=>?_]
  ·exact S.val j d q
  ·rcases hT j z with w|w <;> rw [w] at q <;> cases q
 own:=λj d q=>by
  rw [h.2 j λz=>?_]
  ·exact S.own j d q
  ·rcases hT j z with w|w <;> rw [w] at q <;> cases q
def iQ:TTd:=⟨λ_ Q=>Q true,λh q=>h _ q⟩
def compD(ds:List D)(s0:SS)(g:TGd)(c:TTd)(e:TEd)(Q:D->Prop):Prop:=ds.length<=sizeLine/\∃ I:Nat->List D->Prop,I 0 [] /\
 (∀ i d ys,ds[i]? = some d->ys.length<=i->I i ys->g.run d s0 λs1=>c.run s1 λk=>if k=true then e.run s1 λy=>I (i+1) (ys++[y]) else I (i+1) ys)/\∀ ys,ys.length<=ds.length->I ds.length ys->Q (.lst ys)
theorem compD.mono{ds:List D}{s0:SS}{g:TGd}{c:TTd}{e:TEd}{Q Q':D->Prop}(h:∀ d,Q d->Q' d):compD ds s0 g c e Q->compD ds s0 g c e Q':=fun⟨l,I,q0,q1,q2⟩=>⟨l,I,q0,q1,λys l i=>h _ (q2 ys l i)⟩
def iz(it:TAd)(hide:List Nat)(g:TGd)(c:TTd)(e:TEd):TEd:=⟨λss Q=>it.run ss λds=>compD ds (tq hide ss) g c e Q,λh q=>it.mono (λds q=>compD.mono h q) q⟩
theorem compD.ok{J:It}{ds:List D}{hide:List Nat}{g:TGd}{c:TTd}{e:TEd}{Q:VK}{H1:Hp}(S:SlD K f O σ H1 ss)(hg:∀ i∈g.tg,i∈hide)(D0:ItD K f O J H1 ds)(h:compD ds (tq hide ss) g c e λd=>∀ v H',Ex f H1 H'->Rp K f O H' d v->Q v H') :
  DB J (LG K g) (LT K c) (LE K e) (uH hide σ) Q H1:=by
 obtain⟨hl,I,q0,q1,q2⟩:=h;refine⟨λk m τ ys H=>∃ yd,SlD K f O τ H (tq hide ss)/\Rps K f O H yd ys/\yd.length<=k/\I k yd/\m=ds.length-k/\k<=ds.length/\Ex f H1 H,⟨_,[],S.hide,rfl,af _,q0,rfl,aB _,Ex.refl S.fl⟩,?_⟩;rintro k m τ ys H ⟨yd,S1,r1,l1,i1,rfl,k1,e1⟩;have kp:=e1.kp S.fO;rcases ar k ds.length with hk|hk
 ·refine .inr ⟨D0.go H k kp hk,by rw [r1.len];omega,λx H' y=>?_⟩;obtain⟨d,ed,e2,rd⟩:=D0.yld O H k x H' (λa z=>.inl z) S.fO S1.al kp S1.fl hk y;have S2:=S1.ex e2;refine⟨f,O,_,d,S2,rd,g.mono (λs1 q τ2 H2 e3 S3 _ ag=>?_) (q1 k d yd ed l1 i1)⟩;have S3':SlD K f O τ2 H2 (tq hide ss):=(S2.ex e3).agr ag λi hi=>xF (.inl (hg i hi));refine⟨f,O,s1,S3,c.mono (λb q H3 e4=>?_) q⟩;cases b with
  | true =>
   refine⟨f,O,s1,S3.ex e4,e.mono (λdy q v H4 e5 rv=>?_) q⟩;have e14:=e2.trans (e3.trans (e4.trans e5));exact⟨ds.length-(k+1),by omega,yd++[dy],(S3'.ex e4).ex e5,(S1.ups e14 r1).append ⟨v,[],rfl,rv,rfl⟩,by rw [aq];simp;omega,q,rfl,hk,e1.trans e14⟩
  | false =>
   have e14:=e2.trans (e3.trans e4);exact⟨ds.length-(k+1),by omega,yd,S3'.ex e4,S1.ups e14 r1,by omega,q,rfl,hk,e1.trans e14⟩
 ·have ek:k=ds.length:=by omega
  subst ek;exact .inl ⟨D0.stop H kp,λp hp=>q2 yd l1 i1 _ _ (e1.trans (S1.new hp _)) (S1.lst hp r1)⟩
theorem iz.ok{scope:Scope}{hide:List Nat}{it:TAd}{g:TGd}{c:TTd}{e:TEd}{tg iter elt:Expr}{ifs:List Expr}(hc:X.calm=true)(Sc:CompS X.N X.env.scope scope hide)(hi:PI X tg iter (LI X.K it))
  (hg:∀ s2 H2 fp pins C,PG (tO X scope s2 H2 fp pins C) tg (LG X.K g)) (ht:∀ s2 H2 fp pins C,PTs (tO X scope s2 H2 fp pins C) ifs (LT X.K c)) (he:∀ s2 H2 fp pins C,PE (tO X scope s2 H2 fp pins C) elt (LE X.K e))
  (hs:∀ x,foldedSetIterable iter X.env x=pure x) (hh:∀ i∈g.tg,i∈hide):PE X (.ListComp elt [⟨tg,iter,ifs,0⟩] scope pos) (LE X.K (iz it hide g c e)) :=
 (zu (pos:=pos) hc Sc hi hg ht he hs).weak λσ H Q ⟨f,O,ss,S,q⟩=>⟨f,O,ss,S,it.mono (λds q J H1 e1 D0=>compD.ok (S.ex e1) hh D0 (compD.mono (λd q v H' e r=>q v H' (e1.trans e) r) q)) q⟩
end Dp
namespace Dp
open PySem L2
variable{K:Frag}{f:Addr}{O O':List Addr}{H H':Hp}{X:Cx}{σ:St}{ss:SS}{a b:Expr}{ta tb tc:TEd}{tA tB:TTd}{pos:Pos}
theorem iN.ok{es:List Expr}{kk:Nat}{ps p:Pos}(hg:Gl X "enumerate")(hm:X.mg "enumerate" = none)(ha:PE X a (LE X.K ta))(hs:starEach [a] X.env=[(false,eval a X.env)]):PI X (.Tuple es kk ps) (.Call (.Name "enumerate" p) [a] [] pos) (LI X.K (iN ta)) :=
 (D4 (p:=p) (pos:=pos) X.K hg hm (qK ha pa_nil hs) rfl hs).weak λσ H R ⟨f,O,ss,S,q⟩=>⟨f,O,ss,S,ta.mono (λd q v H1 e r=>by
  have S1:=S.ex e;cases d <;> first|exact False.elim q|skip
  ·rename_i l;obtain⟨p,xs,rfl,h1,h2⟩:=r;refine⟨p,rfl,.inr ⟨⟨xs,h1⟩,q _ H1 e ⟨λH' i k hi=>?_,λO' H' i x H'' hO hf al k F hi y=>?_,λH' k=>?_⟩⟩⟩
   ·rw [qZ] at hi;obtain⟨v,hv,_⟩:=h2.get (show l[i]? = some l[i] by simp [hi]);exact⟨xs,v,h1.kp k S1.al,hv⟩
   ·rw [qZ] at hi;obtain⟨p',w,rfl,hp,rfl,y⟩:=y;obtain⟨v,hv,r⟩:=h2.get (show l[i]? = some l[i] by simp [hi]);have:=y xs (h1.kp k S1.al);rw [hv] at this;cases this;refine⟨_,uB hi,Ex.new F hp _,p',_,rfl,SqT.of qP,.int i,_,rfl,rfl,_,[],rfl,?_,rfl⟩;rw [ac,ao hi];exact (r.moved hO k S1.al).kp ((Ex.new F hp _).kp hf) al
   ·rw [qZ];exact⟨xs,h1.kp k S1.al,by rw [h2.len];exact af _⟩
  ·rename_i l;obtain⟨p,xs,rfl,n,h1,h2⟩:=r;refine⟨p,rfl,.inl ⟨⟨xs,SqL.of h1⟩,q _ H1 e ⟨λH' i k hi=>?_,λO' H' i x H'' hO hf al k F hi y=>?_,λH' k=>?_⟩⟩⟩
   ·rw [qZ] at hi;obtain⟨v,hv,_⟩:=h2.get (show l[i]? = some l[i] by simp [hi]);exact⟨xs,v,SqL.of (k p _ n h1),hv⟩
   ·rw [qZ] at hi;obtain⟨p',w,rfl,hp,rfl,y⟩:=y;obtain⟨v,hv,r⟩:=h2.get (show l[i]? = some l[i] by simp [hi]);have:=y xs (SqL.of (k p _ n h1));rw [hv] at this;cases this;refine⟨_,uB hi,Ex.new F hp _,p',_,rfl,SqT.of qP,.int i,_,rfl,rfl,_,[],rfl,?_,rfl⟩;rw [ac,ao hi];exact (r.moved hO k S1.al).kp ((Ex.new F hp _).kp hf) al
   ·rw [qZ];exact⟨xs,SqL.of (k p _ n h1),by rw [h2.len];exact af _⟩) q⟩
def IX(K:Frag)(ta:TA):TI:=λσ H R=>ta σ H λvs H1=>∃ a xs,vs=[.ref a] /\
 ((SqT K H1 a xs/\R ⟨λi H=>i<xs.length/\∃ ys x,SqT K H a ys/\ys.length=xs.length/\ys.reverse[i]? = some x,λi H x H'=>H'=H/\∀ xs,SqT K H a xs->xs.reverse[i]? = some x,λi H=>i=xs.length⟩ H1) \/
   (SqL K H1 a xs/\R ⟨λi H=>i<xs.length/\∃ ys x,SqL K H a ys/\ys.length=xs.length/\ys.reverse[i]? = some x,λi H x H'=>H'=H/\∀ xs,SqL K H a xs->xs.reverse[i]? = some x,λi H=>i=xs.length⟩ H1))
theorem D3{tg:Expr}{a:Expr}{ta:TA}{p pos:Pos}(hg:Gl X "reversed")(hm:X.mg "reversed" = none)(ha:PA X [a] ta)(hs:starEach [a] X.env=[(false,eval a X.env)]):PI X tg (.Call (.Name "reversed" p) [a] [] pos) (IX X.K ta):=by
 intro pins s σ H R I h;refine PyProof.Rows.Call_ (rZ I hg hm PyProof.Rows.boot_reversed (PyProof.Rows.callWith_type1 (q8 (ha pos pins s σ H _ I h) λus s1 ⟨vs,H1,I1,r1,q1⟩=>?_) hs rfl));obtain⟨l,xs,e,q1⟩:=q1;subst e;obtain⟨u,rfl,ru⟩:=Vals.one r1;cases ru;rcases q1 with⟨hq,q1⟩|⟨hq,q1⟩
 ·obtain⟨its,rv,pl,hz⟩:=I1.tuple hq;have hlen:=rv.length;have hn63:=sx;refine RV.Di (show s1.heap.IsTuple l its.toArray from pl) (by rw [ak];omega) λtk=>?_;have st:RV.Is (s1.heap.push { cls:=.type "reversed",data:=.fields #[.ref l,rawInt ((its.toArray.size:Int)-1)] }) s1.heap.objs.size l ((xs.length:Int)-1-((0:Nat):Int)):=⟨_,ηG _ rfl,rfl,by
   rw [ak,← hlen,show (xs.length:Int)-1-((0:Nat):Int)=(xs.length:Int)-1 by omega]⟩
  refine RV.vX st ?_;refine⟨_,[s1.heap.objs.size],_,_,H1,rfl,I1.kept (t':=tk) λb o e=>ηH _ e,Bn xs.length l _,st,λb hb=>?_,q1⟩;rw [aW.mp hb];exact I1.fpOk (af _) (I1.hok.fresh (af _))
 ·obtain⟨its,rv,pl,hz⟩:=I1.list hq;have hlen:=rv.length;refine call_reversed_list pl.isList ?_;have st:(s1.heap.push (revObj l ((its.toArray.size:Int)-1))).IsRevIter s1.heap.objs.size l ((xs.length:Int)-1-((0:Nat):Int)):=⟨_,ηG _ rfl,rfl,by
   show Data.fields #[.ref l,rawInt ((its.toArray.size:Int)-1)]=_;rw [ak,← hlen,show (xs.length:Int)-1-((0:Nat):Int)=(xs.length:Int)-1 by omega]⟩
  refine wpAny_pyIter_revIter st ?_;refine⟨_,[s1.heap.objs.size],_,_,H1,rfl,I1.kept (t':=s1.toks) λb o e=>ηH _ e,Ao xs.length l _,st,λb hb=>?_,q1⟩;rw [aW.mp hb];exact I1.fpOk (af _) (I1.hok.fresh (af _))
theorem kW.ok{tg:Expr}{p:Pos}(hg:Gl X "reversed")(hm:X.mg "reversed" = none)(ha:PE X a (LE X.K ta))(hs:starEach [a] X.env=[(false,eval a X.env)]):PI X tg (.Call (.Name "reversed" p) [a] [] pos) (LI X.K (kW ta)) :=
 (D3 (p:=p) (pos:=pos) hg hm (qK ha pa_nil hs) hs).weak λσ H R ⟨f,O,ss,S,q⟩=>⟨f,O,ss,S,ta.mono (λd q v H1 e r=>by
  have S1:=S.ex e;cases d <;> first|exact False.elim q|skip
  ·rename_i l;obtain⟨p,xs,rfl,h1,h2⟩:=r;refine⟨p,xs,rfl,.inl ⟨h1,q _ H1 e ⟨λH' i k hi=>?_,λO' H' i x H'' hO hf al k F hi y=>?_,λH' k=>?_⟩⟩⟩
   ·obtain⟨v,hv,_⟩:=h2.reverse.get (show l.reverse[i]? = some l.reverse[i] from ao hi);rw [aN] at hi;exact⟨by rw [h2.len];exact hi,xs,v,h1.kp k S1.al,rfl,hv⟩
   ·obtain⟨rfl,y⟩:=y;obtain⟨v,hv,r⟩:=h2.reverse.get (show l.reverse[i]? = some l.reverse[i] from ao hi);have:=y xs (h1.kp k S1.al);rw [hv] at this;cases this;exact⟨l.reverse[i],ao hi,Ex.refl F,r.moved hO k S1.al⟩
   ·rw [aN,h2.len]
  ·rename_i l;obtain⟨p,xs,rfl,n,h1,h2⟩:=r;refine⟨p,xs,rfl,.inr ⟨SqL.of h1,q _ H1 e ⟨λH' i k hi=>?_,λO' H' i x H'' hO hf al k F hi y=>?_,λH' k=>?_⟩⟩⟩
   ·obtain⟨v,hv,_⟩:=h2.reverse.get (show l.reverse[i]? = some l.reverse[i] from ao hi);rw [aN] at hi;exact⟨by rw [h2.len];exact hi,xs,v,SqL.of (k p _ n h1),rfl,hv⟩
   ·obtain⟨rfl,y⟩:=y;obtain⟨v,hv,r⟩:=h2.reverse.get (show l.reverse[i]? = some l.reverse[i] from ao hi);have:=y xs (SqL.of (k p _ n h1));rw [hv] at this;cases this;exact⟨l.reverse[i],ao hi,Ex.refl F,r.moved hO k S1.al⟩
   ·rw [aN,h2.len]) q⟩
structure Cs where
 f:Addr
 O:List Addr
 H:Hp
 S:List Addr
structure Kpc (c:Cs)(H:Hp):Prop where
 kp:∀ b o,c.H b=some o->b≠c.f->(b∈c.O\/b ∉ c.S)->H b=some o
 key:∀ l r,c.H c.f=some (.lst (.ref l::r))->∃ r',H c.f=some (.lst (.ref l::r'))
structure StR (K:Frag)(c:Cs)(O:List Addr)(σ:St)(H:Hp)(ss:SS):Prop where
 sl:SlD K c.f O σ H ss
 sub:∀ a∈c.O,a∈O
 kp:Kpc c H
 new:∀ a∈O,a∈c.S\/c.H a=none
 own:∀(i:Nat) (l:List D) (a:Addr),ss[i]? = some (SD.own l)->σ[i]? = some (some (V.ref a))->(c.H a=none\/a∈c.S)/\a ∉ c.O/\∀(j:Nat) (l':List D),ss[j]? = some (SD.own l')->σ[j]? = some (some (V.ref a))->j=i
variable{c:Cs}
theorem Kpc.ex(k:Kpc c H)(e:Ex c.f H H'):Kpc c H':=⟨λb o h n z=>e.sm.app b o n (k.kp b o h n z),λl r h=>by
 obtain⟨r',h1⟩:=k.key l r h;exact e.sm.key l r' h1⟩
theorem StR.ex(R:StR K c O σ H ss)(e:Ex c.f H H'):StR K c O σ H' ss:=⟨R.sl.ex e,R.sub,R.kp.ex e,R.new,R.own⟩
theorem StR.to{σ':St}{ss':SS}(R:StR K c O σ H ss)(S:SlD K c.f O σ' H ss')(h:Sub σ ss σ' ss'):StR K c O σ' H ss':=⟨S,R.sub,R.kp,R.new,λi l a q e=>by
 obtain⟨q1,e1⟩:=h i l q;obtain⟨w1,w2,w3⟩:=R.own i l a q1 (e1.symm.trans e);refine⟨w1,w2,λj l' q' e'=>?_⟩;obtain⟨q2,e2⟩:=h j l' q';exact w3 j l' q2 (e2.symm.trans e')⟩
def frz1(i:Nat)(ss:SS):SS:=match ss[i]? with|some (.own l)=>ss.set i (.val (.lst l))|_=>ss
def frz(fz:List Nat)(ss:SS):SS:=fz.foldl (λs i=>frz1 i s) ss
theorem StR.frz1(R:StR K c O σ H ss){i:Nat}:∃ O',StR K c O' σ H (frz1 i ss):=by
 unfold Dp.frz1;split
 ·rename_i l e;obtain⟨a,xs,h1,h2,h3,h4,h5⟩:=R.sl.own i l e;obtain⟨w1,w2,w3⟩:=R.own i l a e h1;have hs:∀ b∈O.filter (λb=>decide (b≠a)),b∈O:=λb hb=>(bX.mp hb).1;have hl:i<ss.length:=(aj.mp e).1;have hlv:(σ.set i (some (V.ref a)))=σ:=by
   apply gI;intro j;by_cases z:i=j
   ·subst z;rw [aP,if_pos rfl,if_pos (by rw [← R.sl.len];exact hl),h1]
   ·rw [aF z]
  refine⟨O.filter (λb=>decide (b≠a)),⟨R.sl.fl,?_,λb hb=>R.sl.al b (hs b hb),λl r q z=>R.sl.lO l r q (hs _ z),by rw [bj];exact R.sl.len,λj d q=>?_,λj l' q=>?_⟩,λb hb=>?_,R.kp,λb hb=>R.new b (hs b hb),λj l' b q e'=>?_⟩
  ·exact bX.mpr ⟨R.sl.fO,by simpa using Ne.symm h3⟩
  ·by_cases z:i=j
   ·subst z;rw [aP,if_pos rfl,if_pos hl] at q;cases q;exact⟨_,h1,a,xs,rfl,λz=>by simpa using (bX.mp z).2,h4,h5.less hs⟩
   ·rw [aF z] at q;obtain⟨v,q1,q2⟩:=R.sl.val j d q;exact⟨v,q1,q2.less hs⟩
  ·by_cases z:i=j
   ·subst z;rw [aP,if_pos rfl,if_pos hl] at q;cases q
   ·rw [aF z] at q;obtain⟨b,ys,q1,q2,q3,q4,q5⟩:=R.sl.own j l' q;refine⟨b,ys,q1,bX.mpr ⟨q2,?_⟩,q3,q4,q5.less hs⟩;have:b≠a:=by
     rintro rfl;exact z (w3 j l' q q1).symm
    simpa using this
  ·have:b≠a:=by
    rintro rfl;exact w2 hb
   exact bX.mpr ⟨R.sub b hb,by simpa using this⟩
  ·by_cases z:i=j
   ·subst z;rw [aP,if_pos rfl,if_pos hl] at q;cases q
   ·rw [aF z] at q;obtain⟨p1,p2,p3⟩:=R.own j l' b q e';refine⟨p1,p2,λk l2 q2 e2=>?_⟩;by_cases z2:i=k
    ·subst z2;rw [aP,if_pos rfl,if_pos hl] at q2;cases q2
    ·rw [aF z2] at q2;exact p3 k l2 q2 e2
 ·exact⟨O,R⟩
theorem StR.frz:∀{fz:List Nat} {ss:SS} {O:List Addr},StR K c O σ H ss->∃ O',StR K c O' σ H (Dp.frz fz ss)
 | [],_,O,R=>⟨O,R⟩
 | i::fz,ss,O,R=>by
  obtain⟨O1,R1⟩:=R.frz1 (i:=i);exact StR.frz (fz:=fz) R1
structure Rt (K:Frag)(c:Cs)(H:Hp)(d:D)(v:V):Prop where
 fl:Fl H c.f
 kp:Kpc c H
 rp:Rp K c.f c.O H d v
theorem StR.rt(R:StR K c O σ H ss){d:D}{v:V}(r:Rp K c.f O H d v):Rt K c H d v:=⟨R.sl.fl,R.kp,r.less R.sub⟩
def Cs.here(c:Cs)(H:Hp)(O:List Addr):Cs:=⟨c.f,c.O,H,O⟩
theorem StR.here(R:StR K c O σ H ss):StR K (c.here H O) O σ H ss:=⟨R.sl,R.sub,⟨λb o h _ _=>h,λl r h=>⟨r,h⟩⟩,λa h=>.inl h,λi l a q e=>by
 obtain⟨a',xs,h1,h2,_⟩:=R.sl.own i l q;rw [h1] at e;cases e;exact⟨.inr h2,(R.own i l a q h1).2⟩⟩
theorem Kpc.back{O1:List Addr}{H1:Hp}(R:StR K c O1 σ H1 ss)(k:Kpc (c.here H1 O1) H):Kpc c H where
 kp:=λb o h n z=>by
  refine k.kp b o (R.kp.kp b o h n z) n ?_;rcases z with z|z
  ·exact .inl z
  ·refine .inr λy=>?_;rcases R.new b y with w|w
   ·exact z w
   ·rw [w] at h;cases h
 key:=λl r h=>by
  obtain⟨r',h1⟩:=R.kp.key l r h;exact k.key l r' h1
theorem StR.back{O1:List Addr}{H1:Hp}{σ1:St}{s1:SS}(R:StR K c O1 σ1 H1 s1)(k:StR K (c.here H1 O1) O σ H ss):StR K c O σ H ss:=by
 have low:∀ a,a ∉ c.O->(a∈O1\/H1 a=none)->a∈c.S\/c.H a=none:=λa n z=>by
  rcases z with z|z
  ·exact R.new a z
  ·cases h:c.H a with
   | none=>exact .inr rfl
   | some o =>
    left;by_cases y:a∈c.S
    ·exact y
    ·exfalso;by_cases w:a=c.f
     ·subst w;obtain⟨xs,q⟩:=R.sl.fl.lst;rw [q] at z;cases z
     ·rw [R.kp.kp a o h w (.inr y)] at z;cases z
 refine⟨k.sl,k.sub,Kpc.back R k.kp,λa h=>?_,λi l a q e=>?_⟩
 ·by_cases z:a∈c.O
  ·rcases R.new a (R.sub a z) with w|w
   ·exact .inl w
   ·exact .inr w
  ·exact low a z (k.new a h)
 ·obtain⟨w1,w2,w3⟩:=k.own i l a q e;exact⟨(low a w2 w1.symm).symm,w2,w3⟩
theorem Rt.back{O1:List Addr}{H1:Hp}{σ1:St}{s1:SS}(R:StR K c O1 σ1 H1 s1){d:D}{v:V}(k:Rt K (c.here H1 O1) H d v):Rt K c H d v:=⟨k.fl,Kpc.back R k.kp,k.rp⟩
structure EndsD where
 nx:SS->Prop
 rt:D->Prop
 bk:SS->Prop
 ct:SS->Prop
structure EndsD.Le (E E':EndsD):Prop where
 nx:∀ s,E.nx s->E'.nx s
 rt:∀ d,E.rt d->E'.rt d
 bk:∀ s,E.bk s->E'.bk s
 ct:∀ s,E.ct s->E'.ct s
structure TSd where
 run:EndsD->SS->Prop
 mono:∀{E E' ss},E.Le E'->run E ss->run E' ss
def ue(K:Frag)(c:Cs)(D:Ends):EndsD:=⟨λss=>∀ O σ H,StR K c O σ H ss->D.nx σ H,λd=>∀ v H,Rt K c H d v->D.rt v H,λss=>∀ O σ H,StR K c O σ H ss->D.bk σ H,λss=>∀ O σ H,StR K c O σ H ss->D.ct σ H⟩
def LS(K:Frag)(t:TSd):TS:=λD σ H=>∃ c O ss,StR K c O σ H ss/\t.run (ue K c D) ss
theorem _root_.L2.PS.weak{st:Stmt}{t t':TS}(h:PS X st t)(w:∀ D σ H,t' D σ H->t D σ H):PS X st t':=λpins s σ H D I q=>h pins s σ H D I (w D σ H q)
theorem _root_.L2.PSs.weak{st:List Stmt}{t t':TS}(h:PSs X st t)(w:∀ D σ H,t' D σ H->t D σ H):PSs X st t':=λpins s σ H D I q=>h pins s σ H D I (w D σ H q)
theorem StR.le{t:TEd}{Q:VK}(R:StR K c O σ H ss){W:D->Prop}(h:t.run ss W)(hw:∀ d v H1,StR K c O σ H1 ss->Ex c.f H H1->Rp K c.f O H1 d v->W d->Q v H1):LE K t σ H Q :=
 ⟨c.f,O,ss,R.sl,t.mono (λd q v H1 e r=>hw d v H1 (R.ex e) e r q) h⟩
theorem StR.lt{t:TTd}{Q:Bool->Hp->Prop}(R:StR K c O σ H ss){W:Bool->Prop}(h:t.run ss W)(hw:∀ d H1,StR K c O σ H1 ss->W d->Q d H1):LT K t σ H Q :=
 ⟨c.f,O,ss,R.sl,t.mono (λd q H1 e=>hw d H1 (R.ex e) q) h⟩
def ii:TSd:=⟨λE ss=>E.nx ss,λh q=>h.nx _ q⟩
theorem ii.nil:PSs X [] (LS X.K ii):=pss_nil.weak λD σ H ⟨c,O,ss,R,q⟩=>q O σ H R
theorem ii.pass:PS X (.Pass pos) (LS X.K ii):=ps_pass.weak λD σ H ⟨c,O,ss,R,q⟩=>q O σ H R
def pK:TSd:=⟨λE ss=>E.bk ss,λh q=>h.bk _ q⟩
theorem pK.ok:PS X (.Break pos) (LS X.K pK):=ps_break.weak λD σ H ⟨c,O,ss,R,q⟩=>q O σ H R
@[reducible] def EndsD.to(E:EndsD)(P:SS->Prop):EndsD:=⟨P,E.rt,E.bk,E.ct⟩
def dSq(t u:TSd):TSd:=⟨λE ss=>t.run (E.to (u.run E)) ss,λ{E E' ss} h q=>t.mono (E:=E.to (u.run E)) (E':=E'.to (u.run E')) ⟨λs q=>u.mono h q,h.rt,h.bk,h.ct⟩ q⟩
theorem dSq.ok{st:Stmt}{sts:List Stmt}{t u:TSd}(h:PS X st (LS X.K t))(g:PSs X sts (LS X.K u)):PSs X (st::sts) (LS X.K (dSq t u)):=(rR h g).weak λD σ H ⟨c,O,ss,R,q⟩ =>
 ⟨c,O,ss,R,t.mono (E:=(ue X.K c D).to (u.run (ue X.K c D))) ⟨λs q O' σ' H' R'=>⟨c,O',s,R',q⟩,λ_ q=>q,λ_ q=>q,λ_ q=>q⟩ q⟩
theorem dSq.one{st:Stmt}{t:TSd}(h:PS X st (LS X.K t)):PSs X [st] (LS X.K t):=rL h
def hJ(fz:List Nat)(e:TEd):TSd:=⟨λE ss=>e.run (frz fz ss) E.rt,λh q=>e.mono h.rt q⟩
theorem hJ.ok{fz:List Nat}(h:PE X a (LE X.K ta)):PS X (.Return (some a) pos) (LS X.K (hJ fz ta)):=(sZ h).weak λD σ H ⟨c,O,ss,R,q⟩=>by
 obtain⟨O',R⟩:=R.frz (fz:=fz);exact R.le q λd v H1 R1 _ r w=>w v H1 (R1.rt r)
def oW:TSd:=⟨λE ss=>E.rt .non,λh q=>h.rt _ q⟩
theorem oW.ok:PS X (.Return none pos) (LS X.K oW):=ps_retN.weak λD σ H ⟨c,O,ss,R,q⟩=>q .non H (R.rt rfl)
def dIf(fz:List Nat)(k:TTd)(t u:TSd):TSd:=⟨λE ss=>k.run (frz fz ss) λb=>if b=true then t.run E (frz fz ss) else u.run E (frz fz ss),λ{E E' ss} h q=>k.mono (λb q=>by
 revert q;cases b
 ·exact u.mono h
 ·exact t.mono h) q⟩
theorem dIf.ok{fz:List Nat}{st su:List Stmt}{t u:TSd}(hk:PT X a (LT X.K tA))(ht:PSs X st (LS X.K t))(hu:PSs X su (LS X.K u)):PS X (.If a st su pos) (LS X.K (dIf fz tA t u)):=(vd hk ht hu).weak λD σ H ⟨c,O,ss,R,q⟩=>by
 obtain⟨O',R⟩:=R.frz (fz:=fz);refine R.lt q λb H1 R1 w=>?_;cases b
 ·exact⟨c,O',_,R1,w⟩
 ·exact⟨c,O',_,R1,w⟩
def gV(fz:List Nat)(g:TGd)(e:TEd):TSd:=⟨λE ss=>e.run (frz fz ss) λd=>g.run d (frz fz ss) E.nx,λh q=>e.mono (λd q=>g.mono h.nx q) q⟩
theorem StR.lg{g:TGd}{d:D}{v:V}{Q:St->Hp->Prop}{W:SS->Prop}(R:StR K c O σ H ss)(r:Rp K c.f O H d v)(h:g.run d ss W)(hw:∀ ss' σ' H1,StR K c O σ' H1 ss'->W ss'->Q σ' H1):LG K g v σ H Q :=
 ⟨c.f,O,ss,d,R.sl,r,g.mono (λs q σ' H1 e S sb ag=>hw s σ' H1 ((R.ex e).to S sb) q) h⟩
theorem gV.ok{fz:List Nat}{tg:Expr}{g:TGd}(h:PE X a (LE X.K ta))(hg:PG X tg (LG X.K g))(hs:swapsWithSole [tg] a pos.line X.env=pure false)(hw:swappedStores [tg] a X.env=pure none)(h1:(assignEach [tg] X.env).map (·.2)=[assign tg X.env]):PS X (.Assign [tg] a pos) (LS X.K (gV fz g ta)):=(s9 h hg hs hw h1).weak λD σ H ⟨c,O,ss,R,q⟩=>by
 obtain⟨O',R⟩:=R.frz (fz:=fz);exact R.le q λd v H1 R1 _ r w=>R1.lg r w λs' σ' H2 R2 w=>w O' σ' H2 R2
end Dp
namespace Dp
open PySem L2
variable{K:Frag}{f:Addr}{O O':List Addr}{H H':Hp}{X:Cx}{σ:St}{ss:SS}{a b:Expr}{ta tb tc:TEd}{tA tB:TTd}{pos:Pos}{c:Cs}
theorem qw.ok{fz:List Nat}{i:Nat}{x:Str}{p':Pos}(hN:X.N.Nodup)(hi:X.N[i]? = some x)(hx:Bc X.env.scope x)(h:PE X a (LE X.K ta))(hs:swapsWith a (some (.Name x p')) pos.line X.env=pure false)(hf:X.fn x=true\/X.env.scope.names.lookup x=some .local) :
  PS X (.Assign [.Name x p'] a pos) (LS X.K (gV fz (gNm i) ta)):=(uu hN hi hx h hs hf).weak λD σ H ⟨c,O,ss,R,q⟩=>by
 obtain⟨O',R⟩:=R.frz (fz:=fz);exact R.le q λd v H1 R1 _ r w=>w O' _ H1 (R1.to (R1.sl.set r) Sub.set)
def kg(fz:List Nat)(i j:Nat)(a b:TEd):TSd:=⟨λE ss=>a.run (frz fz ss) λd=>b.run (frz fz ss) λd'=>E.nx (((frz fz ss).set i (.val d)).set j (.val d')),λh q=>a.mono (λd q=>b.mono (λd' q=>h.nx _ q) q) q⟩
theorem kg.weak{fz:List Nat}{i j:Nat}{D:Ends}{ta tb:TEd}(h:LS X.K (kg fz i j ta tb) D σ H):FU i j (vM (LE X.K ta) (vM (LE X.K tb) DM)) D σ H:=by
 obtain⟨c,O,ss,R,q⟩:=h;obtain⟨O',R⟩:=R.frz (fz:=fz);refine R.le q λd v H1 R1 e1 r w=>R1.le w λd' v' H2 R2 e2 r' w=>?_;have S:=(R2.sl.set (i:=i) (R1.sl.up e2 r)).set (i:=j) r';exact⟨v,v',rfl,w O' _ H2 (R2.to S (Sub.trans Sub.set Sub.set))⟩
def iR(k:TTd)(t:TSd):TSd:=⟨λE ss=>∃(I:SS->Prop) (μ:SS->Nat),I ss/\∀ s,I s->k.run s λb=>if b=true then t.run ⟨λs'=>I s'/\μ s'<μ s,E.rt,E.nx,λs'=>I s'/\μ s'<μ s⟩ s else E.nx s,λ{E E' ss} h ⟨I,μ,q0,q⟩=>⟨I,μ,q0,λs i=>k.mono (λb q=>by
 revert q;cases b
 ·exact h.nx _
 ·exact t.mono ⟨λ_ q=>q,h.rt,h.nx,λ_ q=>q⟩) (q s i)⟩⟩
theorem iR.ok{st:List Stmt}{t:TSd}(hp:PassesOwn (model X.prog X.w) X.A X.env X.xe)(hk:PT X a (LT X.K tA))(ht:PSs X st (LS X.K t)):PS X (.While a st [] pos) (LS X.K (iR tA t)):=(BQ hp hk ht).weak λD σ H ⟨c,O,ss,R,I,μ,q0,q⟩=>by
 refine⟨λm σ H=>∃ O s,StR X.K c O σ H s/\I s/\μ s=m,⟨_,O,ss,R,q0,rfl⟩,?_⟩;rintro m σ H ⟨O,s,R,i0,rfl⟩;refine R.lt (q s i0) λb H1 R1 w=>?_;cases b with
 | false=>exact w O σ H1 R1
 | true =>
  refine⟨λσ' H'=>∃ O' s',StR X.K c O' σ' H' s'/\I s'/\μ s'<μ s,λσ' H' ⟨O',s',R',i',l⟩=>⟨_,l,O',s',R',i',rfl⟩,c,O,s,R1,?_⟩;refine t.mono ?_ w;exact⟨λs' q O' σ' H' R'=>⟨O',s',R',q⟩,λ_ q=>q,λ_ q=>q,λs' q O' σ' H' R'=>⟨O',s',R',q⟩⟩
def iA(fz:List Nat)(it:TAd)(g:TGd)(t:TSd):TSd:=⟨λE ss=>it.run (frz fz ss) λds=>∃ I:Nat->SS->Prop,I 0 (frz fz ss)/\(∀ i d s,ds[i]? = some d->I i s->g.run d s λs1=>t.run ⟨I (i+1),E.rt,E.nx,I (i+1)⟩ s1)/\∀ s,I ds.length s->E.nx s,λ{E E' ss} h q=>it.mono (λds ⟨I,q0,q1,q2⟩=>⟨I,q0,λi d s e i0=>g.mono (λs1 q=>t.mono (E:=⟨I (i+1),E.rt,E.nx,I (i+1)⟩) (E':=⟨I (i+1),E'.rt,E'.nx,I (i+1)⟩) ⟨λ_ q=>q,h.rt,h.nx,λ_ q=>q⟩ q) (q1 i d s e i0),λs i0=>h.nx _ (q2 s i0)⟩) q⟩
theorem iA.ok{fz:List Nat}{tg iter:Expr}{st:List Stmt}{it:TAd}{g:TGd}{t:TSd}(hp:PassesOwn (model X.prog X.w) X.A X.env X.xe)(hc:X.calm=true)(hi:PI X tg iter (LI X.K it))(hg:PG X tg (LG X.K g))(ht:PSs X st (LS X.K t))(hs:∀ x,foldedSetIterable iter X.env x=pure x) :
  PS X (.For tg iter st [] pos) (LS X.K (iA fz it g t)):=(Gr hp hc hi hg ht hs).weak λD σ H ⟨c,O,ss,R,q⟩=>by
 obtain⟨O,R⟩:=R.frz (fz:=fz);refine⟨c.f,O,_,R.sl,it.mono (λds q J H1 e1 D0=>?_) q⟩;obtain⟨I,q0,q1,q2⟩:=q;have R1:=R.ex e1;refine⟨λi m σ H=>∃ O2 s,StR X.K (c.here H1 O) O2 σ H s/\I i s/\m=ds.length-i/\i<=ds.length,⟨_,O,_,R1.here,q0,rfl,aB _⟩,?_⟩;rintro i m σ H ⟨O2,s,R2,i0,rfl,hi⟩;have kp:Kp O H1 H:=λb o n h=>R2.kp.kp b o h (λz=>n (by rw [z];exact R.sl.fO)) (.inr n);rcases ar i ds.length with hk|hk
 ·refine .inr ⟨D0.go H i kp hk,λσ' H'=>∃ O3 s',StR X.K (c.here H1 O) O3 σ' H' s'/\I (i+1) s',λσ' H' ⟨O3,s',R3,i3⟩=>⟨ds.length-(i+1),by omega,O3,s',R3,i3,rfl,hk⟩,λx H' y=>?_⟩;obtain⟨d,ed,e2,rd⟩:=D0.yld O2 H i x H' R2.new R2.sl.fO R2.sl.al kp R2.sl.fl hk y;refine (R2.ex e2).lg rd (q1 i d s ed i0) λs1 σ' H3 R3 w=>?_;refine⟨c.here H1 O,O2,s1,R3,?_⟩;refine t.mono ?_ w;exact⟨λs' q O' σ' H' R'=>⟨O',s',R',q⟩,λd q v H r=>q v H (Rt.back R1 r),λs' q O' σ' H' R'=>q O' σ' H' (StR.back R1 R'),λs' q O' σ' H' R'=>⟨O',s',R',q⟩⟩
 ·have ek:i=ds.length:=by omega
  subst ek;exact .inl ⟨D0.stop H kp,q2 s i0 O2 σ H (StR.back R1 R2)⟩
def LF(K:Frag)(t:TEd):TE:=λσ H Q=>∃ f O ss,SlD K f O σ H ss/\t.run ss λd=>∃ l,d = .lst l/\∀ p xs H',Ex f H H'->H p=none->H' p=some (.lst xs)->Rps K f (p::O) H' l xs->Q (.ref p) H'
theorem StR.mkOwn{l:List D}{p:Addr}{xs:List V}{i:Nat}(R:StR K c O σ H ss)(e:Ex c.f H H')(hp:H p=none)(hx:H' p=some (.lst xs))(r':Rps K c.f (p::O) H' l xs):StR K c (p::O) (σ.set i (some (.ref p))) H' (ss.set i (.own l)):=by
 have mv:∀ b∈p::O,b∈O\/H b=none:=λb hb=>by
  rcases am.mp hb with z|z
  ·exact .inr (z ▸ hp)
  ·exact .inl z
 have kp:=e.kp R.sl.fO;have np:p ∉ O:=R.sl.nO hp;have npf:p≠c.f:=λz=>np (z ▸ R.sl.fO);have low:c.H p=none\/p∈c.S:=by
  cases h:c.H p with
  | none=>exact .inl rfl
  | some o =>
   right;by_cases y:p∈c.S
   ·exact y
   ·rw [R.kp.kp p o h npf (.inr y)] at hp;cases hp
 have hne:∀(j:Nat) (l':List D) (b:Addr),ss[j]? = some (SD.own l')->σ[j]? = some (some (V.ref b))->b≠p:=λj l' b q1 q2=>by
  obtain⟨b',ys,w1,w2,_⟩:=R.sl.own j l' q1;rw [w1] at q2;cases q2;rintro rfl;exact np w2
 refine⟨⟨e.fl,ay _ R.sl.fO,λb hb=>?_,λl r q=>?_,by rw [bj,bj];exact R.sl.len,λj d q=>?_,λj l' q=>?_⟩,λb hb=>ay _ (R.sub b hb),R.kp.ex e,λb hb=>?_,λj l' b q eb=>?_⟩
 ·rcases am.mp hb with z|z
  ·exact⟨xs,z ▸ hx⟩
  ·exact (R.sl.ex e).al b z
 ·intro z;rcases am.mp z with w|w
  ·subst w;obtain⟨l0,ns,i,c',a',b',f1,f2,f3⟩:=R.sl.fl;obtain⟨r',h2⟩:=e.sm.key _ _ f1;rw [h2] at q;cases q;rw [hp] at f2;cases f2
  ·exact (R.sl.ex e).lO _ _ q w
 ·by_cases z:i=j
  ·subst z;rw [aP,if_pos rfl] at q;split at q <;> cases q
  ·rw [aF z] at q ⊢;obtain⟨v,w1,w2⟩:=R.sl.val j d q;exact⟨v,w1,w2.moved mv kp R.sl.al⟩
 ·by_cases z:i=j
  ·subst z;rw [aP,if_pos rfl] at q;split at q
   ·rename_i hl;cases q;exact⟨p,xs,by rw [aP,if_pos rfl,if_pos (by rw [← R.sl.len];exact hl)],aE,npf,hx,r'⟩
   ·cases q
  ·rw [aF z] at q ⊢;obtain⟨b,ys,w1,w2,w3,w4,w5⟩:=R.sl.own j l' q;exact⟨b,ys,w1,ay _ w2,w3,e.sm.app b _ w3 w4,w5.moved mv kp R.sl.al⟩
 ·rcases am.mp hb with z|z
  ·subst z;exact low.symm
  ·exact R.new b z
 ·by_cases z:i=j
  ·subst z;rw [aP,if_pos rfl] at eb;split at eb
   ·cases eb;refine⟨low,λw=>np (R.sub _ w),λj' l2 q2 e2=>?_⟩;by_cases z2:i=j'
    ·exact z2.symm
    ·rw [aF z2] at q2 e2;exact absurd rfl (hne j' l2 _ q2 e2)
   ·cases eb
  ·rw [aF z] at q eb;obtain⟨w1,w2,w3⟩:=R.own j l' b q eb;refine⟨w1,w2,λj' l2 q2 e2=>?_⟩;by_cases z2:i=j'
   ·subst z2;rw [aP,if_pos rfl] at e2;split at e2
    ·cases e2;exact absurd rfl (hne j l' _ q eb)
    ·cases e2
   ·rw [aF z2] at q2 e2;exact w3 j' l2 q2 e2
theorem StR.wr{l l':List D}{i:Nat}{a:Addr}{xs:List V}(R:StR K c O σ H ss)(hs:ss[i]? = some (SD.own l))(ha:σ[i]? = some (some (V.ref a)))(r:Rps K c.f O H l' xs):StR K c O σ (rD H a (.lst xs)) (ss.set i (.own l')):=by
 obtain⟨a',ys,h1,h2,h3,h4,h5⟩:=R.sl.own i l hs;rw [h1] at ha;cases ha;obtain⟨w1,w2,w3⟩:=R.own i l a hs h1;have hl:i<ss.length:=(aj.mp hs).1;have kp:Kp O H (rD H a (.lst xs)):=λb o n q=>by
  rw [qM (by rintro rfl;exact n h2)];exact q
 have fl:Fl (rD H a (.lst xs)) c.f:=by
  obtain⟨l0,ns,i,c',a',b',f1,f2,f3⟩:=R.sl.fl;refine⟨l0,ns,i,c',a',b',by rw [qM (Ne.symm h3)];exact f1,?_,f3⟩;rw [qM (by rintro rfl;exact R.sl.lO _ _ f1 h2)];exact f2
 have gt:∀{j:Nat} {s:SD},(ss.set i (.own l'))[j]? = some s->(j=i/\s = .own l')\/(j≠i/\ss[j]? = some s):=λ{j s} q=>by
  by_cases z:i=j
  ·subst z;rw [aP,if_pos rfl,if_pos hl] at q;exact .inl ⟨rfl,(Option.some.inj q).symm⟩
  ·rw [aF z] at q;exact .inr ⟨Ne.symm z,q⟩
 refine⟨⟨fl,R.sl.fO,λb hb=>?_,λl r q=>by rw [qM (Ne.symm h3)] at q;exact R.sl.lO l r q,by rw [bj];exact R.sl.len,λj d q=>?_,λj l2 q=>?_⟩,R.sub,⟨λb o q n z=>?_,λl r q=>?_⟩,R.new,λj l2 b q e=>?_⟩
 ·by_cases z:b=a
  ·subst z;exact⟨xs,qP⟩
  ·rw [qM z];exact R.sl.al b hb
 ·rcases gt q with⟨_,z⟩|⟨_,q⟩
  ·cases z
  ·obtain⟨v,q1,q2⟩:=R.sl.val j d q;exact⟨v,q1,q2.kp kp R.sl.al⟩
 ·rcases gt q with⟨rfl,z⟩|⟨z,q⟩
  ·cases z;exact⟨a,xs,h1,h2,h3,qP,r.kp kp R.sl.al⟩
  ·obtain⟨b,zs,q1,q2,q3,q4,q5⟩:=R.sl.own j l2 q;have nb:b≠a:=by
    rintro rfl;exact z (w3 j l2 q q1)
   exact⟨b,zs,q1,q2,q3,by rw [qM nb];exact q4,q5.kp kp R.sl.al⟩
 ·have nb:b≠a:=by
   rintro rfl;rcases z with z|z
   ·exact w2 z
   ·rcases w1 with w|w
    ·rw [w] at q;cases q
    ·exact z w
  rw [qM nb];exact R.kp.kp b o q n z
 ·obtain⟨r',q1⟩:=R.kp.key l r q;exact⟨r',by rw [qM (Ne.symm h3)];exact q1⟩
 ·have q':∃ l3,ss[j]? = some (SD.own l3):=by
   rcases gt q with⟨rfl,z⟩|⟨z,q⟩
   ·exact⟨l,hs⟩
   ·exact⟨l2,q⟩
  obtain⟨l3,q'⟩:=q';obtain⟨p1,p2,p3⟩:=R.own j l3 b q' e;refine⟨p1,p2,λj' l4 q4 e4=>?_⟩;rcases gt q4 with⟨rfl,z⟩|⟨z,q5⟩
  ·exact p3 _ l hs e4
  ·exact p3 j' l4 q5 e4
end Dp
namespace Dp
open PySem L2
variable{K:Frag}{f:Addr}{O O':List Addr}{H H':Hp}{X:Cx}{σ:St}{ss:SS}{a b:Expr}{ta tb tc:TEd}{tA tB:TTd}{pos:Pos}{c:Cs}
theorem Rps.skip{p:Addr}{H1:Hp}(S:SlD K f O σ H1 ss)(hp:H1 p=none){o:HO}{ds:List D}{vs:List V}(r:Rps K f O H1 ds vs):Rps K f (p::O) (rD H1 p o) ds vs :=
 r.moved (λa z=>by
  rcases am.mp z with w|w
  ·exact .inr (by rw [w];exact hp)
  ·exact .inl w) ((S.new hp o).kp S.fO) S.al
theorem Ex.low{H1:Hp}(e:Ex f H H1){p:Addr}(n:p≠f)(h:H1 p=none):H p=none:=e.sm.free n h
theorem ir.okF{es:List Expr}{t:TAd}(h:PA X es (LA X.K t)):PE X (.List es pos) (LF X.K (ir t)):=(yr h).weak λσ H Q ⟨f,O,ss,S,q⟩ =>
 ⟨f,O,ss,S,t.mono (λds q vs H1 e r=>by
  obtain⟨hl,l,el,q⟩:=q;cases el;refine⟨by rw [r.len];exact hl,λp hp=>?_⟩;have S1:=S.ex e;exact q p vs _ (e.trans (S1.new hp _)) (e.low (λz=>S1.nO hp (z ▸ S1.fO)) hp) qP (Rps.skip S1 hp r)) q⟩
theorem qE.okF(ha:PE X a (LE X.K ta))(hb:PE X b (LE X.K tb)):PE X (.BinOp a .Mult b pos) (LF X.K (gU .Mult ta tb)):=(rC (pos:=pos) Ci ha hb).weak λσ H Q ⟨f,O,ss,S,q⟩=>by
 refine⟨f,O,ss,S,ta.mono (λdx q v1 H1 e1 r1=>?_) q⟩;refine⟨f,O,ss,S.ex e1,tb.mono (λdy q v2 H2 e2 r2=>?_) q⟩;have S2:=(S.ex e1).ex e2;have r1:=(S.ex e1).up e2 r1;cases dx <;> cases dy <;> first|(exact False.elim q)|skip
 ·obtain⟨_,l,el,_⟩:=q;cases el
 ·obtain⟨_,_,_,l,el,_⟩:=q;cases el
 ·rename_i la k;obtain⟨q1,q2,q3,l,el,q⟩:=q;cases el;obtain⟨p0,xs,rfl,n1,h1,h2⟩:=r1;cases (show v2=_ from r2);refine⟨p0,k,xs,rfl,rfl,h1,q1,q2,by rw [h2.len];exact q3,λp hp=>?_⟩;have e12:=e1.trans e2;exact q p _ _ (e12.trans (S2.new hp _)) (e12.low (λz=>S2.nO hp (z ▸ S2.fO)) hp) qP (Rps.skip S2 hp (h2.flat _))
def ja(t:TEd):TEd:=⟨λss Q=>t.run ss λd=>itemsD d λl=>Q (.lst l),λh q=>t.mono (λd q=>itemsD.mono (λl q=>h _ q) q) q⟩
theorem ja.okF{p:Pos}(hg:Gl X "list")(hm:X.mg "list" = none)(ha:PE X a (LE X.K ta))(hs:starEach [a] X.env=[(false,eval a X.env)]):PE X (.Call (.Name "list" p) [a] [] pos) (LF X.K (ja ta)) :=
 (uw (p:=p) (pos:=pos) (yD X.K) hg hm tK (qK ha pa_nil hs) (by decide) (by decide) hs rfl).weak λσ H Q ⟨f,O,ss,S,q⟩=>⟨f,O,ss,S,ta.mono (λd q v H1 e r=>by
  have S1:=S.ex e;cases d <;> first|exact False.elim q|skip
  ·rename_i l0;obtain⟨l,el,q⟩:=q;cases el;obtain⟨p0,xs,rfl,h1,h2⟩:=r;exact⟨p0,xs,rfl,.inr h1,λp hp=>q p _ _ (e.trans (S1.new hp _)) (e.low (λz=>S1.nO hp (z ▸ S1.fO)) hp) qP (Rps.skip S1 hp h2)⟩
  ·rename_i l0;obtain⟨l,el,q⟩:=q;cases el;obtain⟨p0,xs,rfl,_,h1,h2⟩:=r;exact⟨p0,xs,rfl,.inl (SqL.of h1),λp hp=>q p _ _ (e.trans (S1.new hp _)) (e.low (λz=>S1.nO hp (z ▸ S1.fO)) hp) qP (Rps.skip S1 hp h2)⟩) q⟩
def jC(fz:List Nat)(i:Nat)(e:TEd):TSd:=⟨λE ss=>e.run (frz fz ss) λd=>match d with | .lst l=>E.nx ((frz fz ss).set i (.own l))|_=>False,λ{E E' ss} h q=>e.mono (λd q=>by
 revert q;cases d <;> first|exact h.nx _|exact id) q⟩
theorem jC.ok{fz:List Nat}{i:Nat}{x:Str}{p':Pos}(hN:X.N.Nodup)(hi:X.N[i]? = some x)(hx:Bc X.env.scope x)(h:PE X a (LF X.K ta))(hs:swapsWith a (some (.Name x p')) pos.line X.env=pure false)(hf:X.fn x=true\/X.env.scope.names.lookup x=some .local) :
  PS X (.Assign [.Name x p'] a pos) (LS X.K (jC fz i ta)):=(uu hN hi hx h hs hf).weak λD σ H ⟨c,O,ss,R,q⟩=>by
 obtain⟨O',R⟩:=R.frz (fz:=fz);refine⟨c.f,O',_,R.sl,ta.mono (λd q=>?_) q⟩;cases d <;> first|exact False.elim q|skip
 rename_i l;exact⟨l,rfl,λp xs H1 e hp hx r=>q _ _ H1 (R.mkOwn e hp hx r)⟩
def kh(fz:List Nat)(i:Nat)(e:TEd):TSd:=⟨λE ss=>match (frz fz ss)[i]? with|some (.own l)=>e.run (frz fz ss) λd=>l.length<sizeLine/\E.nx ((frz fz ss).set i (.own (l++[d])))|_=>False,λ{E E' ss} h q=>by
 revert q;split
 ·exact e.mono λd q=>⟨q.1,h.nx _ q.2⟩
 ·exact id⟩
theorem kh.ok{fz:List Nat}{i:Nat}{x:Expr}{ap cp:Pos}(hx:PE X x (t6 i))(hb:attributeBase x "append" X.env (eval x X.env)=eval x X.env)(h:PE X a (LE X.K ta))(hs:starEach [a] X.env=[(false,eval a X.env)])(hl:(ap.endLine == cp.line)=true)(hw:swapsWith (.Call (.Attribute x "append" ap) [a] [] cp) none pos.line X.env=pure false) :
  PS X (.Expr (.Call (.Attribute x "append" ap) [a] [] cp) pos) (LS X.K (kh fz i ta)):=by
 refine (zq (pos:=pos) (IE (apos:=ap) (cpos:=cp) PySem.F.plainAttrs_list PySem.F.slot_list_append PySem.F.type_list_append AM hx (qK h pa_nil hs) hb (by rw [hs];rfl) hl hs rfl) hw).weak λD σ H ⟨c,O,ss,R,q⟩=>?_;obtain⟨O',R⟩:=R.frz (fz:=fz);have q:(match (frz fz ss)[i]? with|some (.own l)=>ta.run (frz fz ss) λd=>l.length<sizeLine/\(ue X.K c D).nx ((frz fz ss).set i (.own (l++[d])))|_=>False):=q;split at q
 ·rename_i l el;obtain⟨p,xs,h1,h2,h3,h4,h5⟩:=R.sl.own i l el;refine⟨_,h1,.inl ⟨rfl,xs,SqL.of h4⟩,R.le q λd v H1 R1 e1 r w=>?_⟩;have hp:=e1.sm.app p _ h3 h4;have r5:=R.sl.ups e1 h5;refine⟨p,xs,v,rfl,rfl,hp,by rw [r5.len];exact w.1,w.2 O' σ _ (R1.wr el h1 (r5.append ⟨v,[],rfl,r,rfl⟩))⟩
 ·exact q.elim
theorem Rps.dropLast:∀{ds:List D} {vs:List V},Rps K f O H ds vs->Rps K f O H ds.dropLast vs.dropLast:=λ{ds vs} h=>by
 rw [eE,eE,h.len];exact h.take _
def pL(i:Nat):TSd:=⟨λE ss=>match ss[i]? with|some (.own l)=>l≠[]/\E.nx (ss.set i (.own l.dropLast))|_=>False,λ{E E' ss} h q=>by
 revert q;split
 ·exact λq=>⟨q.1,h.nx _ q.2⟩
 ·exact id⟩
theorem pL.ok{i:Nat}{x:Expr}{ap cp:Pos}(hx:PE X x (t6 i))(hb:attributeBase x "pop" X.env (eval x X.env)=eval x X.env)(hl:(ap.endLine == cp.line)=true)(hw:swapsWith (.Call (.Attribute x "pop" ap) [] [] cp) none pos.line X.env=pure false) :
  PS X (.Expr (.Call (.Attribute x "pop" ap) [] [] cp) pos) (LS X.K (pL i)):=by
 refine (zq (pos:=pos) (B4 (apos:=ap) (cpos:=cp) PySem.F.plainAttrs_list PySem.F.slot_list_pop PySem.F.type_list_pop Cr hx hb hl) hw).weak λD σ H ⟨c,O,ss,R,q⟩=>?_;have q:(match ss[i]? with|some (.own l)=>l≠[]/\(ue X.K c D).nx (ss.set i (.own l.dropLast))|_=>False):=q;split at q
 ·rename_i l el;obtain⟨p,xs,h1,h2,h3,h4,h5⟩:=R.sl.own i l el;have hne:0<l.length:=cL.mpr q.1;obtain⟨v,hv,_⟩:=h5.get (show l[l.length-1]? = some (l[l.length-1]'(by omega)) by simp);exact⟨_,h1,.inl ⟨rfl,xs,SqL.of h4⟩,p,xs,v,rfl,rfl,h4,by rw [h5.len];exact hv,q.2 O σ _ (R.wr el h1 h5.dropLast)⟩
 ·exact q.elim
def mo(j i:Nat):TSd:=⟨λE ss=>match ss[i]? with|some (.own l)=>∃ d,l[l.length-1]? = some d/\E.nx ((ss.set i (.own l.dropLast)).set j (.val d))|_=>False,λ{E E' ss} h q=>by
 revert q;split
 ·exact fun⟨d,q1,q2⟩=>⟨d,q1,h.nx _ q2⟩
 ·exact id⟩
theorem mo.ok{i j:Nat}{y:Str}{x:Expr}{ap cp p':Pos}(hN:X.N.Nodup)(hj:X.N[j]? = some y)(hy:Bc X.env.scope y)(hf:X.fn y=true\/X.env.scope.names.lookup y=some .local)(hx:PE X x (t6 i))(hb:attributeBase x "pop" X.env (eval x X.env)=eval x X.env)(hl:(ap.endLine == cp.line)=true)(hw:swapsWith (.Call (.Attribute x "pop" ap) [] [] cp) (some (.Name y p')) pos.line X.env=pure false) :
  PS X (.Assign [.Name y p'] (.Call (.Attribute x "pop" ap) [] [] cp) pos) (LS X.K (mo j i)):=by
 refine (uu (pos:=pos) hN hj hy (B4 (apos:=ap) (cpos:=cp) PySem.F.plainAttrs_list PySem.F.slot_list_pop PySem.F.type_list_pop Cr hx hb hl) hw hf).weak λD σ H ⟨c,O,ss,R,q⟩=>?_;have q:(match ss[i]? with|some (.own l)=>∃ d,l[l.length-1]? = some d/\(ue X.K c D).nx ((ss.set i (.own l.dropLast)).set j (.val d))|_=>False):=q;split at q
 ·rename_i l el;obtain⟨p,xs,h1,h2,h3,h4,h5⟩:=R.sl.own i l el;obtain⟨d,q1,q2⟩:=q;obtain⟨v,hv,rv⟩:=h5.get q1;have R2:=R.wr el h1 h5.dropLast;have kp:Kp O H (rD H p (.lst xs.dropLast)):=λb o n q=>by
   rw [qM (by rintro rfl;exact n h2)];exact q
  refine⟨_,h1,.inl ⟨rfl,xs,SqL.of h4⟩,p,xs,v,rfl,rfl,h4,by rw [h5.len];exact hv,q2 O _ _ (R2.to (R2.sl.set (rv.kp kp R.sl.al)) Sub.set)⟩
 ·exact q.elim
def atD(l:List D)(dk:D)(Q:Nat->Prop):Prop:=match dk with | .int z=>(match xA l.length z with|some j=>Q j|none=>False)|_=>False
theorem atD.mono{l:List D}{dk:D}{Q Q':Nat->Prop}(h:∀ j,Q j->Q' j):atD l dk Q->atD l dk Q':=by
 cases dk <;> first|exact id|skip
 unfold atD;dsimp only;split
 ·exact h _
 ·exact id
def jv(fz:List Nat)(i:Nat)(k e:TEd):TSd:=⟨λE ss=>match (frz fz ss)[i]? with|some (.own l)=>e.run (frz fz ss) λd=>k.run (frz fz ss) λdk=>atD l dk λj=>E.nx ((frz fz ss).set i (.own (l.set j d)))|_=>False,λ{E E' ss} h q=>by
 revert q;split
 ·exact e.mono λd=>k.mono λdk=>atD.mono λj=>h.nx _
 ·exact id⟩
theorem jv.ok{fz:List Nat}{i:Nat}{x k:Expr}{tk:TEd}{sp:Pos}(hx:PE X x (t6 i))(hk:PE X k (LE X.K tk))(h:PE X a (LE X.K ta))(hs:swapsWithSole [.Subscript x k sp] a pos.line X.env=pure false)(hw:swappedStores [.Subscript x k sp] a X.env=pure none)(h1:(assignEach [.Subscript x k sp] X.env).map (·.2)=[assign (.Subscript x k sp) X.env])
  (hg:PG X (.Subscript x k sp) (Jf (t6 i) (LE X.K tk) E9)):PS X (.Assign [.Subscript x k sp] a pos) (LS X.K (jv fz i tk ta)):=by
 refine (s9 (pos:=pos) h hg hs hw h1).weak λD σ H ⟨c,O,ss,R,q⟩=>?_;obtain⟨O',R⟩:=R.frz (fz:=fz);have q:(match (frz fz ss)[i]? with|some (.own l)=>ta.run (frz fz ss) λd=>tk.run (frz fz ss) λdk=>atD l dk λj=>(ue X.K c D).nx ((frz fz ss).set i (.own (l.set j d)))|_=>False):=q;split at q
 ·rename_i l el;obtain⟨p,xs,g1,g2,g3,g4,g5⟩:=R.sl.own i l el;refine R.le q λd v H1 R1 e1 r w=>⟨_,g1,R1.le w λdk vk H2 R2 e2 rk w=>?_⟩;cases dk <;> first|exact False.elim w|skip
  rename_i z;cases (show vk=_ from rk);unfold atD at w;dsimp only at w;split at w
  ·rename_i j ej;have e12:=e1.trans e2;have r5:=R.sl.ups e12 g5;exact⟨p,xs,z,j,rfl,rfl,e12.sm.app p _ g3 g4,by rw [r5.len];exact ej,w O' σ _ (R2.wr el g1 (r5.set (R1.sl.up e2 r) j))⟩
  ·exact w.elim
 ·exact q.elim
def oAug:Operator->OD
 | .Add=>λx y Q=>match x,y with | .int i,.int j=>Q (.int (i+j)) | .str a,.str b=>a.length+b.length<=sizeLine/\Q (.str (a++b))|_,_=>False
 | .Sub=>oSub
 | .Mult=>λx y Q=>match x,y with | .int i,.int j=>CMulB i j/\Q (.int (i*j))|_,_=>False
 | .FloorDiv=>oDiv
 | _=>yz
theorem oAug.mono{op:Operator}:∀{x y Q Q'},(∀ d,Q d->Q' d)->oAug op x y Q->oAug op x y Q':=by
 cases op;all_goals first|exact oSub.mono|exact oDiv.mono|exact λ_ q=>q|skip
 all_goals (intro x y Q Q' h;cases x <;> cases y <;> intro q <;> first|exact h _ q|exact q|exact⟨q.1,h _ q.2⟩)
theorem BG{k:Nat}(hr:Room k X.A)(op:Operator):Rng X (inplaceOp op) (oAug op):=by
 cases op;case Add =>
  refine⟨_,OpR.or2 EE xB,λf O σ ss H dx dy x y Q R rx ry h=>?_⟩;cases dx <;> cases dy <;> first|(exact False.elim h)|skip
  ·cases rx;cases ry;exact .inl ⟨_,_,rfl,rfl,h _ H (Ex.refl R.fl) rfl⟩
  ·cases rx;cases ry;exact .inr ⟨_,_,rfl,rfl,h.1,h.2 _ H (Ex.refl R.fl) rfl⟩
 case Sub =>
  refine⟨_,ED,λf O σ ss H dx dy x y Q R rx ry h=>?_⟩;cases dx <;> cases dy <;> first|(exact False.elim h)|skip
  cases rx;cases ry;exact⟨_,_,rfl,rfl,h _ H (Ex.refl R.fl) rfl⟩
 case Mult=>exact ur CG λdx dy Q h=>by cases dx <;> cases dy <;> first|(exact False.elim h)|exact⟨_,_,rfl,rfl,h.1,h.2⟩
 case FloorDiv=>exact ur (AV hr) λdx dy Q h=>by cases dx <;> cases dy <;> first|(exact False.elim h)|exact⟨_,_,rfl,rfl,h.1,h.2⟩
 all_goals exact Rng.never
def mK(fz:List Nat)(i:Nat)(op:Operator)(e:TEd):TSd:=⟨λE ss=>match (frz fz ss)[i]? with|some (.val x)=>e.run (frz fz ss) λy=>oAug op x y λz=>E.nx ((frz fz ss).set i (.val z))|_=>False,λ{E E' ss} h q=>by
 revert q;split
 ·exact e.mono λy=>oAug.mono λz=>h.nx _
 ·exact id⟩
theorem mK.ok{k0:Nat}{fz:List Nat}{i:Nat}{x:Str}{op:Operator}{p':Pos}(hk0:Room k0 X.A)(hN:X.N.Nodup)(hi:X.N[i]? = some x)(hx:Bc X.env.scope x)(h:PE X a (LE X.K ta))(hf:X.fn x=true\/X.env.scope.names.lookup x=some .local) :
  PS X (.AugAssign (.Name x p') op a pos) (LS X.K (mK fz i op ta)):=by
 obtain⟨r,hr,hd⟩:=BG (X:=X) hk0 op;refine (Gu (pos:=pos) hN hi hx h (ti:=r) hr hf).weak λD σ H ⟨c,O,ss,R,q⟩=>?_;obtain⟨O',R⟩:=R.frz (fz:=fz);have q:(match (frz fz ss)[i]? with|some (.val x)=>ta.run (frz fz ss) λy=>oAug op x y λz=>(ue X.K c D).nx ((frz fz ss).set i (.val z))|_=>False):=q;split at q
 ·rename_i dx ex;obtain⟨v,g1,g2⟩:=R.sl.val i dx ex;refine⟨v,g1,R.le q λdy y H1 R1 e1 ry w=>?_⟩;refine hd c.f O' σ _ H1 dx dy v y _ R1.sl (R.sl.up e1 g2) ry (oAug.mono (λz w v' H2 e2 rz=>?_) w);have R2:=R1.ex e2;exact w O' _ H2 (R2.to (R2.sl.set rz) Sub.set)
 ·exact q.elim
def augD(l:List D)(dk:D)(Q:Nat->D->Prop):Prop:=match dk with | .int z=>0<=z/\(match l[z.toNat]? with|some x=>Q z.toNat x|none=>False)|_=>False
theorem augD.mono{l:List D}{dk:D}{Q Q':Nat->D->Prop}(h:∀ j x,Q j x->Q' j x):augD l dk Q->augD l dk Q':=by
 cases dk <;> first|exact id|skip
 unfold augD;dsimp only;split
 ·exact λq=>⟨q.1,h _ _ q.2⟩
 ·exact id
def kX(fz:List Nat)(i:Nat)(k:TEd)(op:Operator)(e:TEd):TSd:=⟨λE ss=>match (frz fz ss)[i]? with|some (.own l)=>k.run (frz fz ss) λdk=>augD l dk λj x=>e.run (frz fz ss) λy=>oAug op x y λz=>E.nx ((frz fz ss).set i (.own (l.set j z)))|_=>False,λ{E E' ss} h q=>by
 revert q;split
 ·exact k.mono λdk=>augD.mono λj x=>e.mono λy=>oAug.mono λz=>h.nx _
 ·exact id⟩
theorem kX.ok{k0:Nat}{fz:List Nat}{i:Nat}{x k:Expr}{tk:TEd}{op:Operator}{sp:Pos}(hk0:Room k0 X.A)(hx:PE X x (t6 i))(hk:PE X k (LE X.K tk))(h:PE X a (LE X.K ta))(ha:∀ ov iv new,augStore k ov iv new=(do holding [new,ov,iv] (setItem ov iv new);release [new,ov,iv] [];pure .next)) :
  PS X (.AugAssign (.Subscript x k sp) op a pos) (LS X.K (kX fz i tk op ta)):=by
 obtain⟨r,hr,hd⟩:=BG (X:=X) hk0 op;refine (DZ (pos:=pos) (tpos:=sp) hx hk (Kz X.K) h (tip:=r) hr rQ ha).weak λD σ H ⟨c,O,ss,R,q⟩=>?_;obtain⟨O',R⟩:=R.frz (fz:=fz);have q:(match (frz fz ss)[i]? with|some (.own l)=>tk.run (frz fz ss) λdk=>augD l dk λj x=>ta.run (frz fz ss) λy=>oAug op x y λz=>(ue X.K c D).nx ((frz fz ss).set i (.own (l.set j z)))|_=>False):=q;split at q
 ·rename_i l el;obtain⟨p,xs,g1,g2,g3,g4,g5⟩:=R.sl.own i l el;refine⟨_,g1,R.le q λdk vk H1 R1 e1 rk w=>?_⟩;cases dk <;> first|exact False.elim w|skip
  rename_i z;cases (show vk=_ from rk);obtain⟨z0,w⟩:=w;obtain⟨j,rfl⟩:=bD z0;rw [aS] at w;split at w
  ·rename_i dx hx;obtain⟨v,hv,rv⟩:=g5.get hx;refine⟨p,xs,v,j,rfl,rfl,SqL.of (e1.sm.app p _ g3 g4),hv,R1.le w λdy y H2 R2 e2 ry w=>?_⟩;refine hd c.f O' σ _ H2 dx dy v y _ R2.sl (R1.sl.up e2 (R.sl.up e1 rv)) ry (oAug.mono (λz w v' H3 e3 rz=>?_) w);have R3:=R2.ex e3;have e13:=e1.trans (e2.trans e3);have r5:=R.sl.ups e13 g5;have hj:j<xs.length:=(aj.mp hv).1;refine⟨p,xs,_,j,rfl,rfl,e13.sm.app p _ g3 g4,?_,w O' σ _ (R3.wr el g1 (r5.set rz j))⟩;unfold xA;rw [if_pos (by omega),if_pos (by omega),aS]
  ·exact w.elim
 ·exact q.elim
def ownInt(l:D)(b:TEd)(s:SS)(Q:List D->Int->Prop):Prop:=match l with
 | .lst l=>b.run s λd=>match d with | .int z=>Q l z|_=>False
 | _=>False
theorem ownInt.mono{l:D}{b:TEd}{s:SS}{Q Q':List D->Int->Prop}(h:∀ l z,Q l z->Q' l z):ownInt l b s Q->ownInt l b s Q':=by
 cases l <;> first|exact id|skip
 exact b.mono λd q=>by
  revert q;cases d <;> first|exact id|exact h _ _
def oi(fz:List Nat)(i j:Nat)(a b:TEd):TSd:=⟨λE ss=>a.run (frz fz ss) λd=>ownInt d b (frz fz ss) λl z=>E.nx (((frz fz ss).set i (.own l)).set j (.val (.int z))),λh q=>a.mono (λd q=>ownInt.mono (λl z q=>h.nx _ q) q) q⟩
theorem oi.weak{fz:List Nat}{i j:Nat}{D:Ends}{σ:St}{ta tb:TEd}(h:LS X.K (oi fz i j ta tb) D σ H):FU i j (vM (LF X.K ta) (vM (LE X.K tb) DM)) D σ H:=by
 obtain⟨c,O,ss,R,q⟩:=h;obtain⟨O',R⟩:=R.frz (fz:=fz);refine⟨c.f,O',_,R.sl,ta.mono (λd q=>?_) q⟩;cases d <;> first|exact False.elim q|skip
 rename_i l;refine⟨l,rfl,λp xs H1 e1 hp hx r=>?_⟩;have R1:=R.ex e1;refine R1.le q λd' v' H2 R2 e2 r' w=>?_;cases d' <;> first|exact False.elim w|skip
 rename_i z;cases (show v'=_ from r');have pO:p ∉ O':=λhO=>by
  obtain⟨ys,hy⟩:=R.sl.al p hO;rw [hp] at hy;cases hy
 have kp:=e2.kp R1.sl.fO;have kp':Kp (p::O') H1 H2:=λb o n h=>kp b o (λz=>n (ay _ z)) h;have al':∀ b∈p::O',∃ xs,H1 b=some (.lst xs):=λb hb=>by
  rcases am.mp hb with z|z
  ·exact⟨xs,z ▸ hx⟩
  ·exact R1.sl.al b z
 have R3:=R.mkOwn (i:=i) (e1.trans e2) hp (kp p _ pO hx) (r.kp kp' al');exact⟨.ref p,.int z,rfl,w (p::O') _ H2 (R3.to (R3.sl.set (i:=j) (d:=.int z) (v:=.int z) rfl) Sub.set)⟩
def startD(n:Nat)(ds:List D):SS:=ds.map SD.val++List.replicate (n-ds.length) SD.no
theorem startD.ok{N:List Str}{ds:List D}{vs:List V}(fl:Fl H f)(fO:f∈O)(al:∀ a∈O,∃ xs,H a=some (.lst xs))(lO:∀ l r,H f=some (.lst (.ref l::r))->l ∉ O)(r:Rps K f O H ds vs):StR K ⟨f,O,H,O⟩ O (L2.start N vs) H (startD N.length ds):=by
 have len:(startD N.length ds).length=(L2.start N vs).length:=by
  unfold startD L2.start;rw [aq,aq,aa,aa,bW,bW,r.len]
 have get:∀{i:Nat} {s:SD},(startD N.length ds)[i]? = some s->(∃ d,s = .val d/\ds[i]? = some d)\/s = .no:=λ{i s} h=>by
  unfold startD at h;rcases ar i (ds.map SD.val).length with z|z
  ·rw [aR z,aJ] at h;obtain⟨d,h1,h2⟩:=ab.mp h;exact .inl ⟨d,h2.symm,h1⟩
  ·rw [av z] at h;exact .inr (fM (aL h))
 refine⟨⟨fl,fO,al,lO,len,λi d h=>?_,λi l h=>?_⟩,λ_ h=>h,⟨λ_ _ h _ _=>h,λl r h=>⟨r,h⟩⟩,λa h=>.inl h,λi l a h=>?_⟩
 ·rcases get h with⟨d',e,h1⟩|e
  ·cases e;obtain⟨v,h2,h3⟩:=r.get h1;refine⟨v,?_,h3⟩;unfold L2.start;have hv:=(aj.mp h2).1;rw [aR (by rw [aa];exact hv),aJ,h2];rfl
  ·cases e
 ·rcases get h with⟨d',e,h1⟩|e <;> cases e
 ·rcases get h with⟨d',e,h1⟩|e <;> cases e
@[reducible] def qX(Q:D->Prop):EndsD:=⟨λ_=>Q .non,Q,λ_=>False,λ_=>False⟩
def Does(n:Nat)(t:TSd)(s:SpB):Prop:=∀ ds Q,ds.length=s.n->s.run ds Q->t.run (qX Q) (startD n ds)
theorem Does.ok{t:TSd}{s:SpB}{N:List Str}(h:Does N.length t s){vs:List V}{Q:VK}{E:XK}(hs:xl K s.n s.run vs H Q E):LS K t { nx:=λ_ H'=>Q .non H',rt:=Q } (L2.start N vs) H:=by
 obtain⟨hn,f,O,ds,fl,fO,al,lO,r,q⟩:=hs;refine⟨⟨f,O,H,O⟩,O,_,startD.ok fl fO al lO r,?_⟩;have q:=h ds _ (r.len.symm.trans hn) q;refine t.mono ?_ q;refine⟨λs q O' σ' H' R=>?_,λd q v H' R=>?_,λ_ q=>q.elim,λ_ q=>q.elim⟩
 ·exact q .non H' ⟨⟨λb o n h=>R.kp.kp b o h n (by by_cases z:b∈O;exact .inl z;exact .inr z),R.kp.key⟩,R.sl.fl⟩ rfl
 ·exact q v H' ⟨⟨λb o n h=>R.kp.kp b o h n (by by_cases z:b∈O;exact .inl z;exact .inr z),R.kp.key⟩,R.fl⟩ R.rp
end Dp
namespace Dp
open PySem L2
variable{K:Frag}{f:Addr}{O O':List Addr}{H H':Hp}{X:Cx}{σ:St}{ss:SS}{a b:Expr}{ta tb tc:TEd}{tA tB:TTd}{pos:Pos}{c:Cs}
mutual
def D.lf:D->Bool
 | .tup ds=>D.lfs ds
 | .lst _=>false | .fl=>false
 | .exn _ _ ds=>D.lfs ds
 | .dct _ ds=>D.lfs ds
 | .int _=>true | .str _=>true | .non=>true | .bl _=>true
def D.lfs:List D->Bool
 | []=>true
 | d::ds=>d.lf && D.lfs ds
end
mutual
theorem Rp.any:∀{d:D} {v:V},d.lf=true->Rp K f O H d v->Rp K f O' H d v
 | .non,_,_,h=>h
 | .bl _,_,_,h=>h
 | .int _,_,_,h=>h
 | .str _,_,_,h=>h
 | .fl,_,z,_=>by cases z
 | .lst _,_,z,_=>by cases z
 | .tup l,v,z,h=>by
  obtain⟨a,xs,e1,h1,h2⟩:=h;exact⟨a,xs,e1,h1,Rps.any z h2⟩
 | .exn C x l,v,z,h=>by
  obtain⟨a,us,e1,h1,h2⟩:=h;exact⟨a,us,e1,h1,Rps.any z h2⟩
 | .dct ks l,v,z,h=>by
  obtain⟨a,us,e1,h1,h2,h3⟩:=h;exact⟨a,us,e1,h1,h2,Rps.any z h3⟩
theorem Rps.any:∀{ds:List D} {vs:List V},D.lfs ds=true->Rps K f O H ds vs->Rps K f O' H ds vs
 | [],_,_,h=>h
 | d::ds,_,z,h=>by
  have z:=au.mp (show (d.lf && D.lfs ds)=true from z);obtain⟨v,r,e1,h1,h2⟩:=h;exact⟨v,r,e1,Rp.any z.1 h1,Rps.any z.2 h2⟩
end
end Dp
set_option maxHeartbeats 1000000
namespace L2
open PySem PySem.Spec PyProof.Rows
section
variable{prog:Program}{w:World}{A:Around}{E:Value->Shared->Prop}
theorem v8(hh:A.handled=none){I l:Addr}{items:Array Value}(ne:l≠I):∀(n i:Nat) (s:Shared) (Q:List Value->Shared->Prop),s.heap.IsListIter I l i->s.heap.IsList l items->i+n<=items.size ->
  (∀(h':Heap) (tk:Nat),h'.IsListIter I l (i+n)->(∀ b o,b≠I->s.heap.get? b=some o->h'.get? b=some o)->Q ((items.toList.drop i).take n) { s with heap:=h',toks:=tk })->wpAny (model prog w) A (draw (.ref I) n) Q E s
 | 0,i,s,Q,hi,hl,hn,q=>by
  have:=q s.heap s.toks (by simpa using hi) λb o _ e=>e;rw [du] at this;exact ηP this
 | n+1,i,s,Q,hi,hl,hn,q=>by
  have W:=Walks.list (prog:=prog) (w:=w) (A:=A) hh I l ne items;show wpAny (model prog w) A (draw (.ref I) (n+1)) Q E s;unfold draw;refine ηB (W.item i s _ _ (by omega) ⟨hi,hl⟩ λv h' tk hv hst k=>?_);have k:∀ b o,b≠I->s.heap.get? b=some o->h'.get? b=some o:=λb o hb e=>k b o (by simpa using hb) e;dsimp only;refine ηB (wpAny_holding ?_);refine v8 hh ne n (i+1) _ _ hst.1 hst.2 (by omega) λh2 tk2 a1 a2=>?_;refine ηP ?_;have e:(items.toList.drop i).take (n+1)=v::(items.toList.drop (i+1)).take n:=by
   have hi':i<items.toList.length:=by rw [cr];omega
   rw [cK hi',List.take_succ_cons];congr 1;have hv':items.toList[i]? = some v:=by rw [d7];exact hv
   rw [ao hi'] at hv';exact Option.some.inj hv'
  rw [← e];exact q h2 tk2 (by rw [show i+(n+1)=i+1+n by omega];exact a1) λb o hb e=>a2 b o hb (k b o hb e)
theorem um(hh:A.handled=none){s:Shared}{l:Addr}{items:Array Value}{Q:List Value->Shared->Prop}(hl:s.heap.IsList l items)
  (h:∀(h':Heap) (tk:Nat),(∀ b o,s.heap.get? b=some o->h'.get? b=some o)->Q items.toList { s with heap:=h',toks:=tk }):wpAny (model prog w) A (unpackItems (.ref l) items.size none) Q E s:=by
 have hl0:=hl;obtain⟨o,h1,h2,h3⟩:=hl;have hT:s.TypeIs (.ref l) "list" := ⟨o,h1,h2⟩;have hlt:=ηL h1;unfold unpackItems;refine ηB ?_;refine ηB (wpAny_specialOf hT F.slot_list_iter.lookup (ηP ?_));rw [if_neg (by decide)];refine ηB (wpAny_holding ?_);refine wpAny_pyIter_list hl0 ?_;have ne:l≠s.heap.objs.size:=aQ hlt;refine ηB (wpAny_holding (v8 hh ne items.size 0 _ _ ⟨_,ηG _ rfl,rfl,rfl⟩ ⟨o,ηH _ h1,h2,h3⟩ (by omega) λh' tk a1 a2=>?_));rw [dA,dY (by rw [cr];exact af _)];rw [if_neg (by rw [cr];exact bt _)];have W:=Walks.list (prog:=prog) (w:=w) (A:=A) hh s.heap.objs.size l ne items;refine ηB (wpAny_holding (W.done _ _ _ ⟨by simpa using a1,⟨o,a2 _ _ ne (ηH _ h1),h2,h3⟩⟩ λh2' tk2 k=>?_));refine ηP ?_;refine h h2' tk2 λb o' e=>k b o' (by intro z;rw [aW.mp z] at e;exact absurd (ηL e) (bt _)) (a2 b o' (aQ (ηL e)) (ηH _ e))
end
section
variable{X:Cx}{pos:Pos}
def Jd(K:Frag)(n:Nat)(t:DF):TG:=λv σ H Q=>∃ a xs,v = .ref a/\SqL K H a xs/\xs.length=n/\t xs σ H Q
theorem Gx{es:List Expr}{k:Nat}{t:DF}{n:Nat}(hc:X.calm=true)(h:HQ X es t)
  (hn:(assignEach es X.env).length=n:=by rfl) (hst:(assignEach es X.env).findIdx? (·.1)=none:=by rfl):PG X (.Tuple es k pos) (Jd X.K n t):=by
 intro pins s σ H v u Q I r hw;obtain⟨a,xs,e1,hq,hl,hw⟩:=hw;subst e1;cases r;obtain⟨its,rv,ht,hz⟩:=I.list hq;have e:(assignEach es X.env).length=its.toArray.size:=by simp [hn,← hl,rv.length]
 rw [assign_Tuple];refine ηB (wpAny_standAt ?_);unfold unpack;rw [e,hst];refine ηB (wpAny_holding (um (I.ok.hd hc) ht.isList λh' tk hx=>?_));have I1:Inv X pins σ H { s with heap:=h',toks:=tk }:=I.kept hx;exact h pins _ σ H xs _ Q I1 (by simpa using rv) hw
end
end L2
namespace L2
open PySem PySem.Spec PyProof.Rows
section
variable{prog:Program}{w:World}{A:Around}{E:Value->Shared->Prop}{s:Shared}
theorem CI:typeLookup (Value.type "list_reverseiterator") (Str.ofString "__length_hint__")=pure (some (.builtin "list_reverseiterator.__length_hint__")):=by kernel_rfl
theorem AI:typeLookup (Value.type "list_reverseiterator") (Str.ofString "__len__")=pure none:=by kernel_rfl
theorem vY{its:List Value}{acc:Array Value}(h:ItemsOf (λi v=>its.toArray[its.toArray.size-1-i]? = some v) acc its.toArray.size):acc.toList=its.reverse:=by
 obtain⟨h0,h2⟩:=h;have h1:acc.size=its.length:=h0.trans ak;clear h0;apply gI;intro j;rw [d7];by_cases hj:j<its.length
 ·have:=h2 j _ (fw (by omega));rw [ak,List.getElem?_toArray] at this;rw [fw (by omega),bu hj,this]
 ·rw [Array.getElem?_eq_none (by omega),bg (by rw [aN];omega)]
theorem zZ{I l S:Addr}{items:Array Value}{r:Value}{R:Result->Shared->Prop}(hh:A.handled=none)(ne:l≠I)(nI:S≠I)(nl:S≠l)(hr:s.heap.IsRevIter I l ((items.size:Int)-1))(hl:s.heap.IsList l items)(hn:items.size<=sizeLine)(hS:∃ c,s.heap.get? S=some { cls:=.type "list",data:=.seq #[] c })
  (h:∀(s':Shared) (acc:Array Value) (c:Nat),Moved [S,I] (λa b=>b=a) s s'->s'.heap.get? S=some { cls:=.type "list",data:=.seq acc c }->ItemsOf (λi v=>items[items.size-1-i]? = some v) acc items.size->R (.ok (.ret r)) s') :
  wpAny (model prog w) A.in1 (Builtin.List.listExtendWith (.ref S) (.ref I) r)
   (λfin s'=>match fin with
    | .done f=>R (.ok f) s'
    | .again c'=>c'.quiet=true/\codeAny (model prog w) A c' R s')
   (λe s'=>R (.error e) s') s:=by
 have hr0:=hr;obtain⟨o,h1,h2,h3⟩:=hr;have hT:s.TypeIs (.ref I) "list_reverseiterator" := ⟨o,h1,h2⟩;unfold Builtin.List.listExtendWith;refine ηB (wpAny_typeOf hT ?_);have hne:(S == I)=false:=by
  rw [beq_eq_false_iff_ne];exact nI
 rw [if_neg (show ¬ (Builtin.List.listSameRef (Value.ref S) (Value.ref I) || Value.type "list_reverseiterator" == Value.type "list" || Value.type "list_reverseiterator" == Value.type "tuple")=true by
  show ¬ (((S == I) || false || false)=true);rw [hne];decide)]
 refine ηB (wpAny_pyIter_revIter hr0 ?_);refine ηB (wpAny_holding ?_);unfold Builtin.List.listLengthHint;refine ηB (wpAny_specialOf hT AI ?_);dsimp only;rw [if_neg (show ¬ ((none:Option Value).isSome=true) from aA)];refine ηB (wpAny_specialOf hT CI ?_);dsimp only;rw [show splitId "list_reverseiterator.__length_hint__" = some ("list_reverseiterator", "__length_hint__") by kernel_rfl];dsimp only;refine ηB (wpAny_isInstance hT (b:=true) (by rw [isSubtype_type];kernel_rfl) ?_);rw [if_neg (show ¬ ((!true)=true) from aA)];refine wpAny_of_eq (a:=false) ?_ ?_
 ·first|rfl|kernel_rfl
 split
 ·rename_i z;exact absurd z (by decide +kernel)
 obtain⟨c0,hS⟩:=hS;refine ηP ⟨plainId_quiet F.plain_extend_loop _,?_⟩;refine codeAny_extend_loopS (Walks.toS (Walks.listRev (A:=A.in1) hh I l ne items)) hn S ?_ _ items.size 0 _ #[] c0 rfl (aB _) ?_ hS ?_ ?_
 ·intro z;rcases am.mp z with z|z
  ·exact nI z
  ·exact nl (aW.mp z)
 ·exact⟨aB _,by simpa using hr0,hl⟩
 ·exact⟨rfl,λj v z=>by simp at z⟩
 ·intro s' acc c M hg it;exact h s' acc c M hg it
theorem xT{I l:Addr}{items:Array Value}{Q:List Value->Shared->Prop}(hh:A.handled=none)(ne:l≠I)(hr:s.heap.IsRevIter I l ((items.size:Int)-1))(hl:s.heap.IsList l items)(hn:items.size<=sizeLine)
  (h:∀(s':Shared) (acc:Array Value),Moved [I] (λa b=>b=a) s s'->ItemsOf (λi v=>items[items.size-1-i]? = some v) acc items.size->Q acc.toList s'):wpAny (model prog w) A (collect (.ref I)) Q E s:=by
 have hI:I<s.heap.objs.size:=by
  obtain⟨o,h1,_⟩:=hr;exact ηL h1
 have hL:l<s.heap.objs.size:=by
  obtain⟨o,h1,_⟩:=hl;exact ηL h1
 unfold collect;refine ηB (wpAny_runValue (codeAny_builtin F.entry_proto_collect ?_));rw [Around.under_plainId F.plain_proto_collect _];unfold Builtin.«proto.collect»;dsimp only;unfold newList;refine ηB (wpAny_newObj_type ?_);refine ηP ⟨plainId_quiet F.plain_list_iadd _,codeAny_builtin F.entry_list_iadd ?_⟩;rw [Around.under_plainId F.plain_list_iadd _];have e0:∀{b:Addr} {o:Obj},s.heap.get? b=some o->(s.heap.push { cls:=.type "list",data:=.seq #[] }).get? b=some o:=λ{b o} e=>ηH _ e;unfold Builtin.«list.__iadd__»;refine ηB (wpAny_of_eq (a:=(Value.ref s.heap.objs.size,[Value.ref I])) (by first|rfl|kernel_rfl) ?_);dsimp only;obtain⟨o,h1,h2,h3⟩:=hr;obtain⟨o',g1,g2⟩:=hl;have hS:(s.heap.push { cls:=.type "list",data:=.seq #[] }).get? s.heap.objs.size=some { cls:=.type "list",data:=.seq #[] }:=ηG s.heap rfl;refine zZ (R:=λr s'=>match r with
  | .ok (.ret v)=>wpAny (model prog w) A (match v with
   | .ref a=>do
    let o ← load a
    match o.data with
    | .seq xs _=>pure xs.toList
    | _=>unsupported "internal:collect"
   | _=>unsupported "internal:collect") Q E s'
  | .ok _=>False
  | .error e=>E e s') (s:={ s with heap:=s.heap.push { cls:=.type "list",data:=.seq #[] } }) (items:=items) hh ne (dq hI) (dq hL) ⟨o,e0 h1,h2,h3⟩ ⟨o',e0 g1,g2⟩ hn ⟨0,hS⟩ λs' acc c M hg it=>?_
 refine ηB (wpAny_load hg (ηP (h s' acc ⟨λb o hb e=>M.heap b o ?_ (e0 e),M.gens,M.drawn,M.os,M.toks⟩ it)));intro z;rcases am.mp z with z|z
 ·rw [z] at e;exact absurd (ηL e) (bt _)
 ·exact hb z
theorem vt{I l:Addr}{items:Array Value}{Q:Value->Shared->Prop}(hh:A.handled=none)(ne:l≠I)(hr:s.heap.IsRevIter I l ((items.size:Int)-1))(hl:s.heap.IsList l items)(hn:items.size<=sizeLine)
  (h:∀(s':Shared) (acc:Array Value),Moved [I] (λa b=>b=a) s s'->ItemsOf (λi v=>items[items.size-1-i]? = some v) acc items.size->Q (.ref s'.heap.objs.size) { s' with heap:=s'.heap.push { cls:=.type "tuple",data:=.seq acc } }) :
  codeAny (model prog w) A (.call (.builtin "tuple.__new__") { pos:=[.type "tuple",.ref I] }) (wants Q E) s:=by
 have hT:s.TypeIs (.ref I) "list_reverseiterator" := by
  obtain⟨o,h1,h2,h3⟩:=hr;exact⟨o,h1,h2⟩
 refine codeAny_of_tree (ηB (wpAny_of_eq (F.newCall_tuple_1 (.ref I)) (ηP ⟨plainId_quiet F.plain_tuple_new _,codeAny_builtin F.entry_tuple_new ?_⟩)));rw [Around.under_plainId F.plain_tuple_new _];unfold Builtin.«tuple.__new__»;refine ηB (ηP (wpAny_ite_false rfl ?_));refine ηB (wpAny_of_eq sub_tuple_self (wpAny_ite_false rfl ?_));refine wpAny_ite_false rfl ?_;refine ηB (wpAny_of_eq madeHere_tuple ?_);refine ηB (wpAny_of_eq init_tuple_lookup (wpAny_ite_true rfl ?_));refine ηB (wpAny_ite_true rfl (ηP ?_));refine ηB ?_;unfold checkCount;refine wpAny_ite_false rfl (wpAny_ite_false rfl (wpAny_ite_false rfl (ηP ?_)));refine wpAny_ite_true rfl ?_;refine ηB ?_;unfold Builtin.Tuple.tupleIsExact;refine ηB (wpAny_typeOf hT (ηP (wpAny_ite_false rfl ?_)));refine ηB (xT (A:=A.in1) hh ne hr hl hn λs' acc M it=>?_);refine ηB (ηP ?_);have ea:acc.toList.toArray=acc:=by simp
 rw [ea];refine ηB ?_;unfold Builtin.Tuple.tupleExact;refine wpAny_newObj_type (data:=.seq acc) ?_ ?_
 ·exact ηP (h s' acc M it)
 ·show acc.size<=sizeLine;rw [it.1];exact hn
theorem vz{I l:Addr}{items:Array Value}{Q:Value->Shared->Prop}(hh:A.handled=none)(ne:l≠I)(hr:s.heap.IsRevIter I l ((items.size:Int)-1))(hl:s.heap.IsList l items)(hn:items.size<=sizeLine)
  (h:∀(s':Shared) (acc:Array Value),Moved [I] (λa b=>b=a) s s'->ItemsOf (λi v=>items[items.size-1-i]? = some v) acc items.size->Q (.ref s'.heap.objs.size) { s' with heap:=s'.heap.push { cls:=.type "tuple",data:=.seq acc } }) :
  wpAny (model prog w) A (call (.type "tuple") [.ref I]) Q E s :=
 callType_codes (Q₁:=λobj s₁=>s₁.TypeIs obj "tuple" /\ Q obj s₁) F.called_tuple (F.typeCall_tuple_1 (.ref I)) F.entry_object_init
  (vt (A:=A.in1) hh ne hr hl hn λs' acc hm hacc=>⟨⟨_,ηG s'.1 rfl,rfl⟩,h s' acc hm hacc⟩)
  λobj s₁ h₁=>⟨h₁.left,F.args_object_init_2 obj (.ref I),object_init_meets F.called_tuple.init.lookup F.called_tuple.made (by decide) prog w A.in1 (wants (λr s₂=>r=Value.none/\Q obj s₂) E) s₁ ⟨h₁.left,rfl,h₁.right⟩⟩
theorem vJ{I l:Addr}{items:Array Value}{Q:Value->Shared->Prop}(hh:A.handled=none)(ne:l≠I)(hr:s.heap.IsRevIter I l ((items.size:Int)-1))(hl:s.heap.IsList l items)(hn:items.size<=sizeLine)
  (h:∀(s':Shared) (acc:Array Value) (c:Nat),(∀ b o,b≠I->s.heap.get? b=some o->s'.heap.get? b=some o)->s'.gens=s.gens->s'.drawn=s.drawn->s'.os=s.os->s'.heap.get? s.heap.objs.size=some { cls:=.type "list",data:=.seq acc c }->ItemsOf (λi v=>items[items.size-1-i]? = some v) acc items.size->Q (.ref s.heap.objs.size) s') :
  wpAny (model prog w) A (call (.type "list") [.ref I]) Q E s:=by
 have hI:I<s.heap.objs.size:=by
  obtain⟨o,h1,_⟩:=hr;exact ηL h1
 have hL:l<s.heap.objs.size:=by
  obtain⟨o,h1,_⟩:=hl;exact ηL h1
 refine callType_codes (Q₁:=λobj s₁=>obj = .ref s.heap.objs.size/\s₁ = { s with heap:=s.heap.push { cls:=.type "list",data:=.seq #[] } }) F.called_list (F.typeCall_list_1 (.ref I)) F.entry_list_init (code_list_new (.ref I) ⟨rfl,rfl⟩) λobj s₁ h₁=>?_;obtain⟨e1,e2⟩:=h₁;subst e1 e2;have e0:∀{b:Addr} {o:Obj},s.heap.get? b=some o->(s.heap.push { cls:=.type "list",data:=.seq #[] }).get? b=some o:=λ{b o} e=>ηH _ e;have hS:(s.heap.push { cls:=.type "list",data:=.seq #[] }).get? s.heap.objs.size=some { cls:=.type "list",data:=.seq #[] }:=ηG s.heap rfl;refine⟨⟨_,hS,rfl⟩,F.args_list_init_2 _ _,?_⟩;unfold Builtin.«list.__init__»;refine ηB (ηB (wpAny_seqItems hS rfl (ηP (ηB (wpAny_updateSeq hS rfl ?_ ?_ ?_)))))
 ·have hS2:=Heap.get?_update_self (Obj.mapSeq λx => #[]) hS rfl;have oth:=λ(b:Addr) (o:Obj) (hb:b≠s.heap.objs.size) (e:(s.heap.push { cls:=.type "list",data:=.seq #[] }).get? b=some o)=>Eq.trans (Heap.get?_update_other (s.heap.push { cls:=.type "list",data:=.seq #[] }) (Obj.mapSeq λx => #[]) (Ne.symm hb)) e;obtain⟨o,h1,h2,h3⟩:=hr;obtain⟨o',g1,g2⟩:=hl;refine ηB (wpAny_letGo ?_);refine zZ (A:=A.in1) (items:=items) hh ne (Ne.symm (aQ hI)) (Ne.symm (aQ hL)) ⟨o,oth _ _ (aQ hI) (e0 h1),h2,h3⟩ ⟨o',oth _ _ (aQ hL) (e0 g1),g2⟩ hn ⟨_,hS2⟩ λs' acc c M hg it=>?_;refine⟨rfl,h s' acc c (λb o hb e=>M.heap b o ?_ (oth _ _ (aQ (ηL e)) (e0 e))) ?_ ?_ ?_ hg it⟩
  ·intro z;rcases am.mp z with z|z
   ·rw [z] at e;exact absurd (ηL e) (bt _)
   ·exact hb (aW.mp z)
  ·exact M.gens
  ·exact M.drawn
  ·exact M.os
 ·rw [ak,sizeLine_eq];decide
 ·rw [ak,sizeLine_eq];decide
end
theorem DW{h:Heap}{b:Addr}{o o':Obj}(hb:b≠h.objs.size)(e:(h.push o').get? b=some o):h.get? b=some o:=by
 unfold Heap.get? Heap.push at e;unfold Heap.get?;rw [Array.getElem?_push,if_neg hb] at e;exact e
section
variable{X:Cx}{a b:Expr}{ta:TA}{p p2 pos pos2:Pos}
def DK(K:Frag)(ta:TA):TE:=λσ H Q=>ta σ H λvs H1=>∃(l:Addr) (xs:List V),vs=[.ref l]/\SqL K H1 l xs/\∀ q,H1 q=none->Q (.ref q) (rD H1 q (.tup xs.reverse))
theorem AC(hg':Gl X "tuple")(hm':X.mg "tuple" = none)(hg:Gl X "reversed")(hm:X.mg "reversed" = none)(hc:X.calm=true)(ha:PA X [a] ta)(hs:starEach [a] X.env=[(false,eval a X.env)]) :
  PE X (.Call (.Name "tuple" p2) [.Call (.Name "reversed" p) [a] [] pos2] [] pos) (DK X.K ta):=by
 intro pins s σ H Q I h;refine Call_ (rZ I hg' hm' boot_tuple (PyProof.Rows.callWith_type1 ?_ rfl rfl));show wpAny _ _ (spliced ((false,eval (.Call (.Name "reversed" p) [a] [] pos2) X.env)::backTo pos [])) _ _ s;refine Calls.spliced_cons ?_;refine Call_ (rZ I hg hm boot_reversed (PyProof.Rows.callWith_type1 (q8 (ha pos2 pins s σ H _ I h) λus s2 ⟨vs,H2,I2,r2,l,xs,e,hq,q⟩=>?_) hs rfl));subst e;obtain⟨u,rfl,ru⟩:=Vals.one r2;cases ru;obtain⟨its,rv,pl,hz⟩:=I2.list hq;refine call_reversed_list pl.isList ?_;refine Calls.spliced_nil ?_;have I3:Inv X pins σ H2 { s2 with heap:=s2.heap.push (revObj l ((its.toArray.size:Int)-1)) }:=I2.kept (t':=s2.toks) λb o e=>ηH _ e;obtain⟨f0,f1,f2,f3,f4,f5⟩:sU X pins H2 s2.heap.objs.size:=I2.fpOk (af _) (I2.hok.fresh (af _));have hlen:=rv.length;have ne:l≠s2.heap.objs.size:=by
  obtain⟨ob,g1,_⟩:=pl.isList;exact aQ (ηL g1)
 refine vz (l:=l) (items:=its.toArray) (I3.ok.hd hc) ne ⟨_,ηG _ rfl,rfl,rfl⟩ ?_ (by rw [ak];omega) λs' acc M it=>?_
 ·obtain⟨ob,g1,g2⟩:=pl.isList;exact⟨ob,ηH _ g1,g2⟩
 ·have ea:=vY it;obtain⟨m1,m2,m3,m4,m5⟩:=M;cases s';cases m2;cases m3;cases m4;have I4:=I3.turned (t':=‹Nat›) (λb o hb e=>m1 b o (by simpa using hb) e) f0 f1 f3 f4 f5;have rr:Vals xs.reverse acc.toList:=ea ▸ rv.reverse;have eacc:acc=acc.toList.toArray:=by simp
  refine⟨.ref _,_,I4.laid (t':=‹Nat›) (λb o e=>ηH _ e) (af _) (show ObjOk X.prog X.w _ _ _ (.tup xs.reverse) from⟨by rw [aN];exact hz,acc.toList,rr,?_⟩),rfl,q _ (I4.hok.fresh (af _))⟩;rw [eacc];exact IsTup.new _ _
def DN(K:Frag)(ta:TA):TE:=λσ H Q=>ta σ H λvs H1=>∃(l:Addr) (xs:List V),vs=[.ref l]/\SqL K H1 l xs/\∀ q,H1 q=none->Q (.ref q) (rD H1 q (.lst xs.reverse))
theorem vS(hg':Gl X "list")(hm':X.mg "list" = none)(hg:Gl X "reversed")(hm:X.mg "reversed" = none)(hc:X.calm=true)(ha:PA X [a] ta)(hs:starEach [a] X.env=[(false,eval a X.env)]) :
  PE X (.Call (.Name "list" p2) [.Call (.Name "reversed" p) [a] [] pos2] [] pos) (DN X.K ta):=by
 intro pins s σ H Q I h;refine Call_ (rZ I hg' hm' boot_list (PyProof.Rows.callWith_type1 ?_ rfl rfl));show wpAny _ _ (spliced ((false,eval (.Call (.Name "reversed" p) [a] [] pos2) X.env)::backTo pos [])) _ _ s;refine Calls.spliced_cons ?_;refine Call_ (rZ I hg hm boot_reversed (PyProof.Rows.callWith_type1 (q8 (ha pos2 pins s σ H _ I h) λus s2 ⟨vs,H2,I2,r2,l,xs,e,hq,q⟩=>?_) hs rfl));subst e;obtain⟨u,rfl,ru⟩:=Vals.one r2;cases ru;obtain⟨its,rv,pl,hz⟩:=I2.list hq;refine call_reversed_list pl.isList ?_;refine Calls.spliced_nil ?_;have I3:Inv X pins σ H2 { s2 with heap:=s2.heap.push (revObj l ((its.toArray.size:Int)-1)) }:=I2.kept (t':=s2.toks) λb o e=>ηH _ e;obtain⟨f0,f1,f2,f3,f4,f5⟩:sU X pins H2 s2.heap.objs.size:=I2.fpOk (af _) (I2.hok.fresh (af _));have hlen:=rv.length;have ne:l≠s2.heap.objs.size:=by
  obtain⟨ob,g1,_⟩:=pl.isList;exact aQ (ηL g1)
 refine vJ (l:=l) (items:=its.toArray) (I3.ok.hd hc) ne ⟨_,ηG _ rfl,rfl,rfl⟩ ?_ (by rw [ak];omega) λs' acc c m1 m2 m3 m4 hg it=>?_
 ·obtain⟨ob,g1,g2⟩:=pl.isList;exact⟨ob,ηH _ g1,g2⟩
 ·have ea:=vY it;obtain⟨hp',gp',dp',tp',op'⟩:=s';dsimp only at m1 m2 m3 m4 hg;cases m2;cases m3;cases m4;have rr:Vals xs.reverse acc.toList:=ea ▸ rv.reverse;have eacc:acc=acc.toList.toArray:=by simp
  rw [eacc] at hg;generalize hh3:s2.heap.push (revObj l ((its.toArray.size:Int)-1))=h3 at *;have g3:h3.get? s2.heap.objs.size=some (revObj l ((its.toArray.size:Int)-1)):=by rw [← hh3];exact ηG _ rfl
  have hA0:s2.heap.objs.size≠h3.objs.size:=aQ (ηL g3);have hL1:(h3.push { cls:=.type "list",data:=.seq acc.toList.toArray c }).get? h3.objs.size=some { cls:=.type "list",data:=.seq acc.toList.toArray c }:=ηG _ rfl;have fr:=I3.hok.fresh (af _);have I4:=I3.laid (a:=h3.objs.size) (o:=.lst xs.reverse) (t':=s2.toks) (h':=h3.push { cls:=.type "list",data:=.seq acc.toList.toArray c }) (λb o e=>ηH _ e) (af _) (show ObjOk X.prog X.w _ _ _ (.lst xs.reverse) from⟨by rw [aN];exact hz,acc.toList,c,rr,hL1⟩);have I5:=I4.turned (it:=s2.heap.objs.size) (h':=hp') (t':=tp') (λb o hb e=>?_) ?_ f1 f3 f4 f5
  ·exact⟨.ref _,_,I5,rfl,q _ fr⟩
  ·by_cases eb:b=h3.objs.size
   ·subst eb;rw [hL1] at e;cases e;exact hg
   ·exact m1 b o hb (DW eb e)
  ·rw [qM hA0];exact f0
end
end L2
namespace Dp
open PySem L2
variable{K:Frag}{f:Addr}{O O':List Addr}{H H':Hp}{X:Cx}{σ:St}{ss:SS}{a b:Expr}{ta tb:TEd}{p p2 pos pos2:Pos}
def oj(t:TEd):TEd:=⟨λss Q=>t.run ss λd=>∃ l,d = .lst l/\Q (.tup l.reverse),λh q=>t.mono (λd ⟨l,e,q⟩=>⟨l,e,h _ q⟩) q⟩
theorem oj.ok(hg':Gl X "tuple")(hm':X.mg "tuple" = none)(hg:Gl X "reversed")(hm:X.mg "reversed" = none)(hc:X.calm=true)(ha:PE X a (LE X.K ta))(hs:starEach [a] X.env=[(false,eval a X.env)]) :
  PE X (.Call (.Name "tuple" p2) [.Call (.Name "reversed" p) [a] [] pos2] [] pos) (LE X.K (oj ta)):=by
 refine (AC hg' hm' hg hm hc (qK ha pa_nil hs) hs).weak λσ H Q ⟨f,O,ss,S,q⟩=>?_;refine⟨f,O,ss,S,ta.mono (λd q v H1 e r=>?_) q⟩;obtain⟨l,rfl,q⟩:=q;obtain⟨a,xs,rfl,n,h1,h2⟩:=r;have S1:=S.ex e;exact⟨a,xs,rfl,SqL.of h1,λq' hq=>q _ _ (e.trans (S1.new hq _)) (S1.tup hq h2.reverse)⟩
def jw(t:TEd):TEd:=⟨λss Q=>t.run ss λd=>∃ l,d = .lst l/\Q (.lst l.reverse),λh q=>t.mono (λd ⟨l,e,q⟩=>⟨l,e,h _ q⟩) q⟩
theorem jw.ok(hg':Gl X "list")(hm':X.mg "list" = none)(hg:Gl X "reversed")(hm:X.mg "reversed" = none)(hc:X.calm=true)(ha:PE X a (LE X.K ta))(hs:starEach [a] X.env=[(false,eval a X.env)]) :
  PE X (.Call (.Name "list" p2) [.Call (.Name "reversed" p) [a] [] pos2] [] pos) (LE X.K (jw ta)):=by
 refine (vS hg' hm' hg hm hc (qK ha pa_nil hs) hs).weak λσ H Q ⟨f,O,ss,S,q⟩=>?_;refine⟨f,O,ss,S,ta.mono (λd q v H1 e r=>?_) q⟩;obtain⟨l,rfl,q⟩:=q;obtain⟨a,xs,rfl,n,h1,h2⟩:=r;have S1:=S.ex e;exact⟨a,xs,rfl,SqL.of h1,λq' hq=>q _ _ (e.trans (S1.new hq _)) (S1.lst hq h2.reverse)⟩
theorem jw.okF(hg':Gl X "list")(hm':X.mg "list" = none)(hg:Gl X "reversed")(hm:X.mg "reversed" = none)(hc:X.calm=true)(ha:PE X a (LE X.K ta))(hs:starEach [a] X.env=[(false,eval a X.env)]) :
  PE X (.Call (.Name "list" p2) [.Call (.Name "reversed" p) [a] [] pos2] [] pos) (LF X.K (jw ta)):=by
 refine (vS hg' hm' hg hm hc (qK ha pa_nil hs) hs).weak λσ H Q ⟨f,O,ss,S,q⟩=>?_;refine⟨f,O,ss,S,ta.mono (λd q v H1 e r=>?_) q⟩;obtain⟨l0,rfl,q⟩:=q;obtain⟨l,el,q⟩:=q;cases el;obtain⟨a,xs,rfl,n,h1,h2⟩:=r;have S1:=S.ex e;exact⟨a,xs,rfl,SqL.of h1,λp hp=>q p _ _ (e.trans (S1.new hp _)) (e.low (λz=>S1.nO hp (z ▸ S1.fO)) hp) qP (Rps.skip S1 hp h2.reverse)⟩
def gTl(is:List Nat):TGd:=⟨is,λd ss Q=>match d with | .lst l=>l.length=is.length/\Q (uq ss is l)|_=>False,λ{d ss Q Q'} h q=>by
 revert q;cases d <;> first|exact id|exact λq=>⟨q.1,h _ q.2⟩⟩
theorem gTl.ok{is:List Nat}{e:Expr}(h:PG X e (Jd X.K is.length (gsAll is))):PG X e (LG X.K (gTl is)):=h.weak λv σ H Q ⟨f,O,ss,d,S,r,q⟩=>by
 cases d <;> first|exact False.elim q|skip
 rename_i l;obtain⟨p,xs,rfl,_,h1,h2⟩:=r;exact⟨p,xs,rfl,SqL.of h1,h2.len.trans q.1,gsAll.run (h2.len.trans q.1) (q.2 _ H (Ex.refl S.fl) (S.all h2) (Sub.all h2.len) (Agr.all λ_ h=>h))⟩
end Dp
namespace Dp
open PySem L2
variable{K:Frag}{X:Cx}{T:Tc}{pos p p2:Pos}{a b e:Expr}{E:FE}{F:FT}
theorem _root_.L2.PTs.weak{es:List Expr}{t t':TT}(h:PTs X es t)(w:∀ σ H Q,t' σ H Q->t σ H Q):PTs X es t':=λpins s σ H Q I q=>h pins s σ H Q I (w σ H Q q)
end Dp
namespace Dp
open PySem L2
variable{P:Program}{w:World}{K:Frag}{mg:Str->Option Value}{base:Heap}
def u5(K:Frag):Sp:=λvs H Q _=>∃(a:Addr) (ns:List Int),vs=[.ref a]/\SqL K H a (ns.map V.int)/\ns.length<=63/\∀ f H',Same H H'->Fl H' f->H f=none->Q (.ref f) H'
def wu:Sp:=λvs H Q _=>∃(f:Addr) (m:Int),vs=[.ref f,.int m]/\Fl H f/\0<m/\Lt2 9000 m/\∀ d H',0<=d->d<m->Fl H' f->Sm f H H'->Q (.int d) H'
def zn(K:Frag):Sp:=λvs H Q _=>∃(a:Addr) (ns:List Int),vs=[.ref a]/\SqL K H a (ns.map V.int)/\ns.length<=63/\∀ H',Q (.bl true) H'
def gT:SpB:=.of 2 (α:=Int) (λm ds=>ds=[.fl,.int m]/\0<m/\Lt2 9000 m) (λm d=>∃ i,d = .int i/\0<=i/\i<m)
theorem AA{k:Nat}{ps:List Str}(g:Def P w K mg base "_law_pick" k ps wu):Def P w K mg base "_law_pick" k ps (xl K gT.n gT.run):=by
 obtain⟨f,fd,F,r⟩:=g.ex;refine⟨f,fd,F.imp (λvs H Q E h=>?_),r⟩;obtain⟨hn,f,O,ds,fl,fO,al,lO,rp,m,⟨rfl,m0,m1⟩,q⟩:=h;obtain⟨v,v',rfl,e1,e2⟩:=Rps.two rp;cases (show v=_ from e1);cases (show v'=_ from e2);exact⟨f,m,rfl,fl,m0,m1,λd H' d0 d1 fl' sm=>q (.int d) ⟨d,rfl,d0,d1⟩ _ H' ⟨sm,fl'⟩ rfl⟩
end Dp
namespace Ca
open Cv
def rv(a:Nat)(f:Nat->Int):Nat->Int:=λj=>if j<=a then f (a-j) else 0
theorem FF{f g:Nat->Int}{a b i:Nat}(hf:∀ j,a<j->f j=0)(hg:∀ j,b<j->g j=0)(hi:i<=a+b):cv f g (a+b-i)=cv (rv a f) (rv b g) i:=by
 have h1:tm f g (a+1) (a+b-i)=cv f g (a+b-i):=sW λj hj=>hf j (by omega);have h2:tm (rv a f) (rv b g) (a+1) i=cv (rv a f) (rv b g) i:=sW λj hj=>if_neg (by omega);rw [← h1,← h2];unfold tm;rw [Bv (λj=>if j<=i then rv a f j*rv b g (i-j) else 0)];refine qT λj hj=>?_;show (if j<=a+b-i then f j*g (a+b-i-j) else 0)=if a+1-1-j<=i then rv a f (a+1-1-j)*rv b g (i-(a+1-1-j)) else 0;have e1:rv a f (a+1-1-j)=f j:=by
  unfold rv;rw [if_pos (by omega),show a-(a+1-1-j)=j by omega]
 rw [e1];by_cases c:a+1-1-j<=i
 ·rw [if_pos c];unfold rv;by_cases d:i-(a+1-1-j)<=b
  ·rw [if_pos d,if_pos (by omega),show b-(i-(a+1-1-j))=a+b-i-j by omega]
  ·rw [if_neg d,if_neg (by omega),bJ]
 ·rw [if_neg c,hg (a+b-i-j) (by omega),bJ];split <;> rfl
theorem wA{f:Nat->Int}{s:Nat}(hf:∀ j,s<j->f j=0):∀ k j,k*s<j->pw f k j=0
 | 0,j,h=>if_neg (by omega)
 | k+1,j,h=>by
  rw [a9] at h;exact rH (a:=k*s+1) (b:=s+1) (λi hi=>wA hf k i (by omega)) (λi hi=>hf i (by omega)) (by omega)
theorem BL{f:Nat->Int}{s:Nat}(hf:∀ j,s<j->f j=0):∀ k i,i<=k*s->pw f k (k*s-i)=pw (rv s f) k i
 | 0,i,h=>by
  rw [show i=0 by omega];show pw f 0 (0*s-0)=_;rw [fZ];rfl
 | k+1,i,h=>by
  show cv (pw f k) f ((k+1)*s-i)=cv (pw (rv s f) k) (rv s f) i;rw [a9] at h ⊢;rw [FF (λj hj=>wA hf k j hj) hf h];refine xM (λj hj=>?_) λ_ _=>rfl;unfold rv;by_cases c:j<=k*s
  ·rw [if_pos c];exact BL hf k j c
  ·rw [if_neg c];exact (wA (s:=s) (λj hj=>if_neg (by omega)) k j (by omega)).symm
theorem Fc{f g:Nat->Int}{n:Nat}(h:∀ j,j<=n->f j=g j):∀ k j,j<=n->pw f k j=pw g k j
 | 0,_,_=>rfl
 | k+1,j,hj=>xM (λi hi=>Fc h k i (by omega)) λi hi=>h i (by omega)
theorem wB(f:Nat->Int)(c:Int):∀ k j,pw (λi=>f i*c^i) k j=pw f k j*c^j
 | 0,j=>by
  show (if j=0 then (1:Int) else 0)=(if j=0 then 1 else 0)*c^j;split
  ·rw [‹j=0›,aU,bH]
  ·rw [aI]
 | k+1,j=>by
  show cv (pw (λi=>f i*c^i) k) (λi=>f i*c^i) j=cv (pw f k) f j*c^j;unfold cv;rw [← sH];refine qT λi hi=>?_;rw [wB f c k i];have:c^j=c^i*c^(j-i):=by rw [← cy,show i+(j-i)=j by omega]
  rw [this];grind
theorem BK(f:Nat->Int)(c:Int):∀ k j,pw (λi=>f i*c) k j=pw f k j*c^k
 | 0,j=>by rw [aU,bH];rfl
 | k+1,j=>by
  show cv (pw (λi=>f i*c) k) (λi=>f i*c) j=cv (pw f k) f j*c^(k+1);unfold cv;rw [← sH];refine qT λi hi=>?_;rw [BK f c k i,aV];grind
end Ca
namespace Ca
open Cv
theorem BN(g:Nat->Int):∀ k,pw g k=Pc.cp g k
 | 0=>rfl
 | k+1=>by show cv (pw g k) g=_;rw [BN g k];rfl
theorem C8{R E:List Int}(hE:∀ j,0<j->E.getD j 0=0)(j:Nat):cv (fn R) (fn E) j=R.getD j 0*E.getD 0 0:=by
 rw [so];have:tm (fn E) (fn R) 1 j=cv (fn E) (fn R) j:=sW λi hi=>hE i (by omega);rw [← this];show sm _ 1=_;rw [sm,sm,if_pos (aB _),bT,bx,bh];rfl
end Ca
namespace Pc
open Cv
theorem wW{f g:Nat->Int}{a b:Nat}(hf:∀ j,a<j->f j=0)(hg:∀ j,b<j->g j=0):cv f g (a+b)=f a*g b:=by
 have:=Ca.FF (i:=0) hf hg (aB _);rw [bx,Ca.yR] at this;rw [this];unfold Ca.rv;rw [if_pos (aB _),if_pos (aB _),bx,bx]
theorem wX{g:Nat->Int}{d:Nat}(hg:∀ j,d<j->g j=0):∀ n,cp g n (n*d)=g d^n
 | 0=>by rw [fZ,aU];rfl
 | n+1=>by
  rw [a9];show cv (cp g n) g (n*d+d)=_;rw [wW (λj hj=>uU (m:=d+1) (λk hk=>hg k (by omega)) n j (by show n*d+1<=j;omega)) hg,wX hg n,aV]
theorem Of.deg_eq{P G R:List Int}{B U C:Int}(hB:0<B)(hU:0<U)(h:Of P B G U R C){n d:Nat}(lp:P.length=n+1)(lg:G.length=d+1)(d1:1<=d)(tp:P.getD n 0≠0)(tg:G.getD d 0≠0):R.length=n*d+1:=by
 have up:=h.deg hB hU;rw [lp,lg] at up;have up':R.length<=n*d+1:=up;rcases ar (n*d) R.length with c|c
 ·omega
 ·exfalso;have e:=h.2 (n*d);have z:R.getD (n*d) 0=0:=by
   rw [ac,bg c];rfl
  rw [z,aI,lp] at e;have hg:∀ k,d<k->fn G k=0:=λk hk=>qJ (by omega);have p0:pc (fn P) (fn G) U n (n*d)=0:=by
   cases n with
   | zero=>rfl
   | succ n=>exact uQ (m:=d+1) (λk hk=>hg k (by omega)) (n+1) _ (by show n*d+1<=(n+1)*d;rw [a9];omega)
  have e2:pc (fn P) (fn G) U (n+1) (n*d)=fn P n*fn G d^n*U:=by
   show (pc (fn P) (fn G) U n (n*d)+fn P n*cp (fn G) n (n*d))*U=_;rw [p0,bT,wX hg]
  rw [e2] at e;have c0:=h.1.pos;have:fn P n*fn G d^n*U*C≠0:=br (br (br tp (bP tg)) (ax hU)) (ax c0);exact this e.symm
end Pc
namespace Dp
open PySem L2
def pD(P:List Int)(B:Int):D:=.tup [.tup (P.map .int),.int B]
def fD(t b:Int):D:=.tup [.int t,.int b]
theorem rJ:2<=sizeLine:=by rw [sizeLine_eq];decide
theorem Ar:1<=sizeLine:=by rw [sizeLine_eq];decide
theorem sE{n:Nat}(h:n<=16777216):n<=sizeLine:=by rw [sizeLine_eq];exact h
theorem LN{c:Bool}{A B:Prop}(h1:c=true->A)(h2:c=false->B):if c=true then A else B:=by
 cases c
 ·exact h2 rfl
 ·exact h1 rfl
theorem vG{p:Prop}[Decidable p]{A B:Prop}(h1:p->A)(h2:¬ p->B):if decide p=true then A else B:=by
 by_cases c:p
 ·rw [if_pos (decide_eq_true c)];exact h1 c
 ·rw [if_neg (by simpa using c)];exact h2 c
theorem LM{p:Prop}[Decidable p]{A B:Prop}(h1:¬ p->A)(h2:p->B):if (!decide p)=true then A else B:=by
 by_cases c:p
 ·rw [if_neg (by simpa using c)];exact h2 c
 ·rw [if_pos (by simpa using c)];exact h1 c
theorem rf{α:Type}{fs:List α}{i:Nat}{f d:α}(h:fs[i]? = some f):fs.getD i d=f:=by
 rw [ac,h];rfl
theorem qG{α:Type}{fs:List α}{i:Nat}{d:α}(h:fs.length<=i):fs.getD i d=d:=by
 rw [ac,bg h];rfl
theorem vi{ts:List Int}{i:Nat}{x:D}(h:(ts.map D.int)[i]? = some x):i<ts.length/\x = .int (ts.getD i 0):=by
 rw [aJ] at h;obtain⟨z,hz,rfl⟩:=ab.mp h;rw [rf hz];exact⟨(aj.mp hz).1,rfl⟩
theorem rB{ts:List Int}{i:Nat}(h:i<ts.length):(ts.map D.int)[i]? = some (.int (ts.getD i 0)):=by
 rw [aJ,ac,ao h];rfl
theorem rY{ts:List Int}{i:Nat}(h:i<ts.length):ts.take (i+1)=ts.take i++[ts.getD i 0]:=by
 rw [cV h,ac,ao h];rfl
theorem zV(b:Nat)(ts:List Int)(t:Int):Po.gl b (ts++[t])=Nat.gcd (Po.gl b ts) t.natAbs:=by
 unfold Po.gl;rw [gH];rfl
theorem EV{α:Type}(xs:List α)(x:α):vB (xs++[x]) (-1)=some x:=by
 unfold vB xA;rw [if_neg (by omega),if_pos (by rw [aq];simp;omega)];show (xs++[x])[(-1+((xs++[x]).length:Int)).toNat]? = _;rw [aq,av (by simp;omega)];have:(-1+((xs.length+[x].length:Nat):Int)).toNat-xs.length=0:=by simp;omega
 rw [this];rfl
theorem rl{l:List D}{n:Nat}{d:D}{Q:D->Prop}(h:l[n]? = some d)(q:Q d):itD l (n:Int) Q:=by
 unfold itD;rw [sq h];exact q
theorem rT{l:List D}{i:Int}{d:D}{Q:D->Prop}(h:vB l i=some d)(q:Q d):itD l i Q:=by
 unfold itD;rw [h];exact q
def mI{α:Type}(F:α->Int)(ts:List α):Nat->List D->Prop:=λi ys=>ys=((ts.take i).map F).map D.int
theorem mI.nil{α:Type}{F:α->Int}{ts:List α}:mI F ts 0 []:=rfl
theorem mI.snoc{α:Type}{F:α->Int}{ts:List α}{i:Nat}{ys:List D}{t:α}{z:Int}(h:mI F ts i ys)(ht:ts[i]? = some t)(hz:z=F t):mI F ts (i+1) (ys++[.int z]):=by
 unfold mI at h ⊢;rw [h,hz,List.take_add_one,ht,a5,a5];rfl
theorem mI.all{α:Type}{F:α->Int}{ts:List α}{n:Nat}{ys:List D}(h:mI F ts n ys)(hn:n=ts.length):ys=(ts.map F).map D.int:=by
 unfold mI at h;rw [h,hn,bF]
theorem uT{ts:List Int}{i:Nat}{x:D}(h:(ts.map D.int)[i]? = some x):∃ z,ts[i]? = some z/\x = .int z:=by
 rw [aJ] at h;obtain⟨z,hz,rfl⟩:=ab.mp h;exact⟨z,hz,rfl⟩
def nw:TSd:=(dSq (iR (g9 (il .NotEq (gQ 1) (dC (.int 0))))
 (kg [] 0 1 (gQ 1) (gU .Mod (gQ 0) (gQ 1))))
 (hJ [] (dB bAbs bAbs.mono (gP (gQ 0) gR))))
def jf:SpB:=.of 2 (α:=Int×Int) (λx ds=>ds=[.int x.1,.int x.2]) (λx d=>d = .int (Fr.cp x.1 x.2))
theorem sP(x:Int):(if x<0 then -x else x)=((x.natAbs:Nat):Int):=by split <;> omega
theorem k4:Does 2 nw jf:=by
 rintro ds Q hn ⟨⟨a,b⟩,rfl,q⟩;refine⟨λs=>∃ a' b':Int,s=[.val (.int a'),.val (.int b')]/\Int.gcd a' b'=Int.gcd a b,λs=>match s with|[_,.val (.int b')]=>b'.natAbs|_=>0,⟨a,b,rfl,rfl⟩,?_⟩;rintro _ ⟨a',b',rfl,hg⟩;refine LM (p:=b'=0) (λc=>?_) (λc=>?_)
 ·exact⟨c,⟨b',a'.fmod b',rfl,by rw [Fr.CM];exact hg⟩,Fr.zY a' b' c⟩
 ·subst c;refine q _ ?_;show D.int (if a'<0 then -a' else a') = .int (Fr.cp a b);unfold Fr.cp;rw [sP,← hg,Int.gcd_zero_right]
def mL:TSd:=(dSq (kg [] 0 1 (dB bAbs bAbs.mono (gP (gQ 0) gR)) (dB bAbs bAbs.mono (gP (gQ 1) gR)))
 (dSq (iR (kb (gQ 1))
 (kg [] 0 1 (gQ 1) (gU .Mod (gQ 0) (gQ 1))))
 (hJ [] (gQ 0))))
def iB:SpB:=.of 2 (α:=Int×Int) (λx ds=>ds=[.int x.1,.int x.2]) (λx d=>d = .int (Fr.cp x.1 x.2))
theorem kM:Does 2 mL iB:=by
 rintro ds Q hn ⟨⟨a,b⟩,rfl,q⟩;show (dSq (iR _ _) _).run _ [.val (.int (if a<0 then -a else a)),.val (.int (if b<0 then -b else b))];rw [sP,sP];refine⟨λs=>∃ a' b':Nat,s=[.val (.int a'),.val (.int b')]/\Nat.gcd a' b'=Int.gcd a b,λs=>match s with|[_,.val (.int b')]=>b'.natAbs|_=>0,⟨a.natAbs,b.natAbs,rfl,rfl⟩,?_⟩;rintro _ ⟨a',b',rfl,hg⟩;refine LN (c:=((b':Int) != 0)) (λc=>?_) (λc=>?_)
 ·have c':b'≠0:=by
   intro z;subst z;simp at c
  refine⟨by omega,⟨b',a'%b',?_,by rw [gg,← Nat.gcd_rec,gg];exact hg⟩,?_⟩
  ·show [SD.val (.int b'),.val (.int ((a':Int).fmod b'))]=_;rw [fJ _ (by omega)];rfl
  ·show ((a':Int).fmod b').natAbs<(b':Int).natAbs;exact Fr.zY _ _ (by omega)
 ·have c':b'=0:=by
   have:((b':Int)=0):=by simpa using c
   omega
  subst c';refine q _ ?_;show D.int a' = .int (Fr.cp a b);unfold Fr.cp;rw [← hg,Nat.gcd_zero_right]
def mr:TSd:=(dSq (gV [] (gNm 2) (gS jf (gP (gQ 0) (gP (gQ 1) gR))))
 (dSq (dIf [] (g9 (il .Lt (gQ 1) (dC (.int 0))))
 (gV [] (gNm 2) (gU .Sub (dC (.int 0)) (gQ 2)))
 ii)
 (hJ [] (g7 (gP (gU .FloorDiv (gQ 0) (gQ 2)) (gP (gU .FloorDiv (gQ 1) (gQ 2)) gR))))))
def iq:SpB:=.of 2 (α:=Int×Int) (λx ds=>ds=[.int x.1,.int x.2]/\x.2≠0/\Lt2 9000000 x.2) (λx d=>d=fD (Fr.top x.1 x.2) (Fr.bot x.1 x.2))
theorem ki:Does 3 mr iq:=by
 rintro ds Q hn ⟨⟨a,b⟩,⟨rfl,h0,hl⟩,q⟩;refine⟨rfl,(a,b),rfl,?_⟩;rintro _ rfl;have fin:∀ p:Int,p=Fr.tM a b->sS a p/\sS b p/\2<=sizeLine/\Q (.tup [.int (a.fdiv p),.int (b.fdiv p)]):=by
  rintro p rfl;have c:∀ x,sS x (Fr.tM a b):=λx=>⟨Fr.zw h0,9000000,hl.le (Fr.zy h0),by decide⟩;exact⟨c _,c _,rJ,q _ rfl⟩
 refine vG (p:=b<0) (λc=>?_) (λc=>?_)
 ·exact fin _ (by unfold Fr.tM;rw [if_pos c];simp)
 ·exact fin _ (by unfold Fr.tM;rw [if_neg c])
theorem xK{ts:List Int}{k:Nat}(h:k<ts.length):(((ts.take (k+1)).map D.int)).dropLast=(ts.take k).map D.int:=by
 rw [rY h,a5];exact gu
theorem dSq.cut{t u:TSd}{E:EndsD}{ss:SS}(R:SS->Prop)(h1:t.run (E.to R) ss)(h2:∀ s,R s->u.run E s):(dSq t u).run E ss:=t.mono (E:=E.to R) (E':=E.to (u.run E)) ⟨h2,λ_ z=>z,λ_ z=>z,λ_ z=>z⟩ h1
def nA:TSd:=(hJ [0] (g7 (gP (dB bTuple bTuple.mono (gP (iz (iG (gQ 0)) [3] (gNm 3) iQ (gU .FloorDiv (gQ 3) (gQ 2))) gR)) (gP (gU .FloorDiv (gQ 1) (gQ 2)) gR))))
def nE:TSd:=dSq (iA [0] (iG (gQ 0)) (gNm 3)
 (gV [] (gNm 2) (gS jf (gP (gQ 2) (gP (gQ 3) gR)))))
 nA
def nF:TSd:=dSq (gV [] (gNm 2) (gQ 1))
 nE
def kj:TSd:=dSq (iR (iL (g9 (il .Gt (kc 0) (dC (.int 0)))) (g9 (il .Eq (jB 0 (jP (dC (.int 1)))) (dC (.int 0)))))
 (pL 0))
 nF
def oE:TSd:=dSq (jC [0] 0 (ja (gQ 0)))
 kj
def iu:SpB:=.of 2 (α:=List Int×Int) (λx ds=>(ds=[.lst (x.1.map .int),.int x.2]\/ds=[.tup (x.1.map .int),.int x.2])/\0<x.2/\Lt2 9000000 x.2/\x.1.length<=1000)
 (λx d=>∃ P B,d=pD P B/\Po.Fm P B/\(∀ k,P.getD k 0*x.2=x.1.getD k 0*B)/\P.length<=x.1.length)
theorem mM:Does 4 oE iu:=by
 rintro ds Q hn ⟨⟨ts,b⟩,⟨hd,hb,hl,hz⟩,q⟩;dsimp only at hd hb hl hz q;have sl:(1000:Nat)<=sizeLine:=by rw [sizeLine_eq];decide
 suffices h:kj.run (qX Q) [.own (ts.map .int),.val (.int b),.no,.no] by
  rcases hd with rfl|rfl
  ·exact h
  ·exact h
 refine dSq.cut (λs=>∃ m:Nat,s=[.own ((ts.take m).map .int),.val (.int b),.no,.no]/\m<=ts.length/\(∀ j,m<=j->ts.getD j 0=0)/\(m=0\/ts.getD (m-1) 0≠0)) ?_ ?_
 rotate_left
 ·rintro _ ⟨m,rfl,hm,h0,hlast⟩;obtain⟨fm,wr⟩:=Po.form hb hm h0 hlast;have bn:((b.natAbs:Nat):Int)=b:=by omega
  refine⟨λi s=>∃ o,s=[.val (.lst ((ts.take m).map .int)),.val (.int b),.val (.int ((Po.gl b.natAbs ((ts.take m).take i):Nat):Int)),o],⟨.no,?_⟩,?_,?_⟩
  ·show [SD.val _,.val (.int b),.val (.int b),.no]=[SD.val _,.val (.int b),.val (.int ((b.natAbs:Nat):Int)),.no];rw [bn]
  ·rintro i d s hd ⟨o,rfl⟩;obtain⟨hi,rfl⟩:=vi hd;refine⟨rfl,(_,_),rfl,?_⟩;rintro _ rfl;refine⟨.val (.int ((ts.take m).getD i 0)),?_⟩;rw [rY hi,zV];rfl
  ·rintro s ⟨o,rfl⟩;rw [aa,bF];have g0:0<Po.gl b.natAbs (ts.take m):=Po.yG (by omega) _;have gle:Po.gl b.natAbs (ts.take m)<=b.natAbs:=ce (by omega) (Po.vm _ _).1;generalize Po.gl b.natAbs (ts.take m)=g at *;have cd:∀ x:Int,sS x (g:Int):=λx=>⟨by omega,9000000,hl.le (by rw [a8];exact gle),by decide⟩;refine⟨by rw [aa,aZ];omega,mI (λz=>z.fdiv (g:Int)) (ts.take m),mI.nil,λi d ys hd _ hy=>?_,λys _ hy=>?_⟩
   ·obtain⟨z,hz,rfl⟩:=uT hd;exact⟨cd _,hy.snoc hz rfl⟩
   ·cases hy.all (by rw [aa]);exact⟨cd _,rJ,q _ ⟨_,_,rfl,fm,wr,by rw [aa,aZ];omega⟩⟩
 ·refine⟨λs=>∃ m:Nat,s=[.own ((ts.take m).map .int),.val (.int b),.no,.no]/\m<=ts.length/\∀ j,m<=j->ts.getD j 0=0,λs=>match s with | .own l::_=>l.length|_=>0,⟨ts.length,by rw [bF],af _,λj hj=>qG hj⟩,?_⟩;rintro _ ⟨m,rfl,hm,h0⟩;have lm:((ts.take m).map D.int).length=m:=by rw [aa,aZ];omega
  refine vG (p:=(0:Int)<(((ts.take m).map D.int).length:Nat)) (λc=>?_) (λc=>?_)
  ·rw [lm] at c;obtain⟨k,rfl⟩:∃ k,m=k+1:=⟨m-1,by omega⟩;have hk:k<ts.length:=by omega
   have la:vB ((ts.take (k+1)).map D.int) (-1)=some (.int (ts.getD k 0)):=by
    rw [rY hk,a5];exact EV _ _
   refine rT la (vG (p:=ts.getD k 0=0) (λz=>?_) (λz=>?_))
   ·refine⟨λe=>?_,⟨k,?_,by omega,λj hj=>?_⟩,?_⟩
    ·rw [e] at lm;cases lm
    ·show [SD.own _,_,_,_]=_;rw [xK hk]
    ·rcases bK hj with w|w
     ·rw [← w];exact z
     ·exact h0 j w
    ·show (((ts.take (k+1)).map D.int)).dropLast.length<((ts.take (k+1)).map D.int).length;rw [xK hk,lm,aa,aZ];omega
   ·exact⟨k+1,rfl,hm,h0,.inr z⟩
  ·rw [lm] at c;exact⟨m,rfl,hm,h0,.inl (by omega)⟩
theorem t7{ts:List Int}{i k:Nat}{z:Int}(h:i<ts.length):(ts.set i z).getD k 0=if k=i then z else ts.getD k 0:=by
 rw [ac,ac,aP];by_cases e:i=k
 ·subst e;rw [if_pos rfl,if_pos h,if_pos rfl];rfl
 ·rw [if_neg e,if_neg (Ne.symm e)]
theorem map_set{ts:List Int}{i:Nat}{z:Int}:(ts.map D.int).set i (.int z)=(ts.set i z).map D.int:=by
 rw [List.map_set]
theorem vP{ts:List Int}{i k:Nat}(h:i<ts.length):(ts.take (i+1)).getD k 0=(ts.take i).getD k 0+(if k=i then ts.getD i 0 else 0):=by
 rw [rY h];by_cases e:k=i
 ·subst e;rw [if_pos rfl,qG (fs:=ts.take k) (by rw [aZ];omega)];have:(ts.take k++[ts.getD k 0]).getD k 0=ts.getD k 0:=rf (by rw [av (by rw [aZ];omega),aZ,df (by omega),bc];rfl);rw [this,bT]
 ·rw [if_neg e,bQ,← rY h,ac,ac,dw,dw];by_cases c:k<i
  ·rw [if_pos c,if_pos (by omega)]
  ·rw [if_neg c,if_neg (by omega)]
theorem va(n:Nat):(List.replicate n [D.int 0]).flatten=(List.replicate n (0:Int)).map D.int:=by
 induction n with
 | zero=>rfl
 | succ n ih=>rw [bv,bS,ih,bv];rfl
theorem vb(n k:Nat):(List.replicate n (0:Int)).getD k 0=0:=by
 rw [ac,dU];split <;> rfl
theorem rP{ts:List Int}{i:Nat}{d:D}(h:(sj (ts.map D.int))[i]? = some d):i<ts.length/\d = .tup [.int (i:Nat),.int (ts.getD i 0)]:=by
 obtain⟨x,hx,rfl⟩:=v7 h;obtain⟨hi,rfl⟩:=vi hx;exact⟨hi,rfl⟩
theorem uV{l:List D}{n:Nat}{Q:Nat->Prop}(h:n<l.length)(q:Q n):atD l (.int (n:Nat)) Q:=by
 unfold atD;dsimp only;have:xA l.length (n:Int)=some n:=by
  unfold xA;rw [if_pos (by omega),if_pos (by omega)];rfl
 rw [this];exact q
def om:TSd:=(hJ [3] (gS iu (gP (gQ 3) (gP (gU .Mult (dIx (gQ 0) (dC (.int 1))) (dIx (gQ 1) (dC (.int 1)))) gR))))
def on:TSd:=dSq (iA [] (iN (dIx (gQ 1) (dC (.int 0)))) (gTp [4,5])
 (jv [] 3 (gQ 4) (gU .Add (jB 3 (gQ 4)) (gU .Mult (gQ 5) (dIx (gQ 0) (dC (.int 1)))))))
 om
def jD:TSd:=dSq (iA [] (iN (dIx (gQ 0) (dC (.int 0)))) (gTp [4,5])
 (jv [] 3 (gQ 4) (gU .Add (jB 3 (gQ 4)) (gU .Mult (gQ 5) (dIx (gQ 1) (dC (.int 1)))))))
 on
def jE:TSd:=dSq (jC [] 3 (gU .Mult (ir (gP (dC (.int 0)) gR)) (gQ 2)))
 jD
def pC:TSd:=dSq (gV [] (gNm 2) (dB bMax bMax.mono (gP (dB bLen bLen.mono (gP (dIx (gQ 0) (dC (.int 0))) gR)) (gP (dB bLen bLen.mono (gP (dIx (gQ 1) (dC (.int 0))) gR)) gR))))
 jE
def j3:SpB:=.of 2 (α:=List Int×Int×List Int×Int×Nat×Nat×Nat×Nat) (λ(P,B,P',B',n,b,m,c) ds=>ds=[pD P B,pD P' B']/\Pc.Pz n b P B/\Pc.Pz m c P' B'/\b+c<=9000000/\n+m<=9000000/\P.length<=900/\P'.length<=900)
 (λ(P,B,P',B',n,b,m,c) d=>∃ R C,d=pD R C/\Po.Fm R C/\∀ k,R.getD k 0*(B*B')=(P.getD k 0*B'+P'.getD k 0*B)*C)
theorem nG:Does 6 pC j3:=by
 rintro ds Q hn ⟨⟨P,B,P',B',n,b,m,c⟩,⟨rfl,G1,G2,hb,hm,l1,l2⟩,q⟩;dsimp only at G1 G2 hb hm l1 l2 q;have sl:(1000:Nat)<=sizeLine:=by rw [sizeLine_eq];decide
 have p1:=G1.fm.pos;have p2:=G2.fm.pos;obtain⟨M,hM⟩:∃ M:Nat,M=max P.length P'.length:=⟨_,rfl⟩;have lb1:=G1.bot;have lb2:=G2.bot;suffices h:jD.run (qX Q) [.val (pD P B),.val (pD P' B'),.val (.int M),.own ((List.replicate M (0:Int)).map .int),.no,.no] by
  have e0:(if ((P'.map D.int).length:Int) > ((P.map D.int).length:Nat) then ((P'.map D.int).length:Int) else ((P.map D.int).length:Nat))=(M:Nat):=by
   rw [aa,aa];split <;> omega
  suffices h1:jE.run (qX Q) [.val (pD P B),.val (pD P' B'),.val (.int M),.no,.no,.no] by
   show jE.run (qX Q) [.val (pD P B),.val (pD P' B'),.val (.int (if ((P'.map D.int).length:Int) > ((P.map D.int).length:Nat) then ((P'.map D.int).length:Int) else ((P.map D.int).length:Nat))),.no,.no,.no];rw [e0];exact h1
  refine⟨by rw [sizeLine_eq];decide,by omega,by omega,by show 1*M<=_;omega,?_⟩;show jD.run (qX Q) [.val (pD P B),.val (pD P' B'),.val (.int M),.own (List.replicate M [D.int 0]).flatten,.no,.no];rw [va];exact h
 refine⟨λi s=>∃ F:List Int,∃ o o':SD,s=[.val (pD P B),.val (pD P' B'),.val (.int M),.own (F.map .int),o,o']/\F.length=M/\∀ k,F.getD k 0=(P.take i).getD k 0*B',⟨_,_,_,rfl,bW,λk=>by rw [vb,du];simp⟩,?_,?_⟩
 ·rintro i d _ hd ⟨F,o,o',rfl,hF,hf⟩;obtain⟨hi,rfl⟩:=rP hd;have hiF:i<F.length:=by omega
  refine⟨rfl,rl (rB hiF) ⟨⟨n,c,G1.tops i,lb2,by omega⟩,uV (by rw [aa];exact hiF) ⟨F.set i (F.getD i 0+P.getD i 0*B'),.val (.int (i:Nat)),.val (.int (P.getD i 0)),?_,by rw [bj];exact hF,λk=>?_⟩⟩⟩
  ·show [SD.val _,.val _,.val _,.own ((F.map D.int).set i (.int (F.getD i 0+P.getD i 0*B'))),_,_]=_;rw [map_set]
  ·rw [t7 hiF,vP hi];by_cases e:k=i
   ·subst e;rw [if_pos rfl,if_pos rfl,hf,eK]
   ·rw [if_neg e,if_neg e,hf,bQ]
 ·rintro _ ⟨F,o,o',rfl,hF,hf⟩;rw [qZ,aa,bF] at hf;refine⟨λi s=>∃ F:List Int,∃ o o':SD,s=[.val (pD P B),.val (pD P' B'),.val (.int M),.own (F.map .int),o,o']/\F.length=M/\∀ k,F.getD k 0=P.getD k 0*B'+(P'.take i).getD k 0*B,⟨F,_,_,rfl,hF,λk=>by rw [hf,du];simp⟩,?_,?_⟩
  ·rintro i d _ hd ⟨F,o,o',rfl,hF,hf⟩;obtain⟨hi,rfl⟩:=rP hd;have hiF:i<F.length:=by omega
   refine⟨rfl,rl (rB hiF) ⟨⟨m,b,G2.tops i,lb1,by omega⟩,uV (by rw [aa];exact hiF) ⟨F.set i (F.getD i 0+P'.getD i 0*B),.val (.int (i:Nat)),.val (.int (P'.getD i 0)),?_,by rw [bj];exact hF,λk=>?_⟩⟩⟩
   ·show [SD.val _,.val _,.val _,.own ((F.map D.int).set i (.int (F.getD i 0+P'.getD i 0*B))),_,_]=_;rw [map_set]
   ·rw [t7 hiF,vP hi];by_cases e:k=i
    ·subst e;rw [if_pos rfl,if_pos rfl,hf,eK,Int.add_assoc]
    ·rw [if_neg e,if_neg e,hf,bQ]
  ·rintro _ ⟨F,o,o',rfl,hF,hf⟩;rw [qZ,aa,bF] at hf;refine⟨⟨b,c,lb1,lb2,by omega⟩,rfl,(F,B*B'),⟨.inl rfl,az p1 p2,(lb1.mul lb2).mono hb,by show F.length<=1000;omega⟩,?_⟩;rintro _ ⟨R,C,rfl,fm,hw,_⟩;exact q _ ⟨R,C,rfl,fm,λk=>by rw [hw k,hf k]⟩
end Dp
namespace Dp
open PySem L2
def mN:TSd:=(hJ [2] (gS iu (gP (gQ 2) (gP (gU .Mult (dIx (gQ 0) (dC (.int 1))) (dIx (gQ 1) (dC (.int 1)))) gR))))
def jg:TSd:=dSq (iA [] (iN (dIx (gQ 0) (dC (.int 0)))) (gTp [3,4])
 (iA [] (iN (dIx (gQ 1) (dC (.int 0)))) (gTp [5,6])
 (jv [] 2 (gU .Add (gQ 3) (gQ 5)) (gU .Add (jB 2 (gU .Add (gQ 3) (gQ 5))) (gU .Mult (gQ 4) (gQ 6))))))
 mN
def oq:TSd:=dSq (jC [] 2 (gU .Mult (ir (gP (dC (.int 0)) gR)) (gU .Add (dB bLen bLen.mono (gP (dIx (gQ 0) (dC (.int 0))) gR)) (dB bLen bLen.mono (gP (dIx (gQ 1) (dC (.int 0))) gR)))))
 jg
def ia:SpB:=.of 2 (α:=List Int×Int×List Int×Int×Nat×Nat×Nat×Nat) (λ(P,B,P',B',n,b,m,c) ds=>ds=[pD P B,pD P' B']/\Pc.Pz n b P B/\Pc.Pz m c P' B'/\b+c<=9000000/\n+m<=9000000/\P.length<=450/\P'.length<=450)
 (λ(P,B,P',B',n,b,m,c) d=>∃ R C,d=pD R C/\Po.Fm R C/\∀ k,R.getD k 0*(B*B')=Cv.cv (Cv.fn P) (Cv.fn P') k*C)
theorem ms:Does 7 oq ia:=by
 rintro ds Q hn ⟨⟨P1,B1,P2,B2,n,b,m,c⟩,⟨rfl,G1,G2,hb,hm,l1,l2⟩,q⟩;dsimp only at G1 G2 hb hm l1 l2 q;have sl:(1000:Nat)<=sizeLine:=by rw [sizeLine_eq];decide
 have p1:=G1.fm.pos;have p2:=G2.fm.pos;suffices h:jg.run (qX Q) [.val (pD P1 B1),.val (pD P2 B2),.own ((List.replicate (P1.length+P2.length) (0:Int)).map .int),.no,.no,.no,.no] by
  have e0:(((P1.map D.int).length:Nat):Int)+((P2.map D.int).length:Nat)=((P1.length+P2.length:Nat):Int):=by
   rw [aa,aa];omega
  refine⟨Ar,?_,?_,?_,?_⟩
  ·rw [e0];omega
  ·rw [e0];omega
  ·rw [e0];show 1*(P1.length+P2.length)<=_;omega
  ·show jg.run (qX Q) [.val (pD P1 B1),.val (pD P2 B2),.own (List.replicate ((((P1.map D.int).length:Nat):Int)+((P2.map D.int).length:Nat)).toNat [D.int 0]).flatten,.no,.no,.no,.no];rw [e0,aS,va];exact h
 refine⟨λi s=>∃(rs:List Int) (o3 o4 o5 o6:SD),s=[.val (pD P1 B1),.val (pD P2 B2),.own (rs.map .int),o3,o4,o5,o6]/\rs.length=P1.length+P2.length/\∀ k,rs.getD k 0=Cv.tm (Cv.fn P1) (Cv.fn P2) i k,⟨_,_,_,_,_,rfl,bW,λk=>vb _ _⟩,?_,?_⟩
 ·rintro i d _ hd ⟨rs,o3,o4,o5,o6,rfl,lr,hr⟩;obtain⟨hi,rfl⟩:=rP hd;refine⟨rfl,λk s=>∃(rs:List Int) (o5 o6:SD),s=[.val (pD P1 B1),.val (pD P2 B2),.own (rs.map .int),.val (.int (i:Nat)),.val (.int (P1.getD i 0)),o5,o6]/\rs.length=P1.length+P2.length/\∀ m,rs.getD m 0=Cv.tm (Cv.fn P1) (Cv.fn P2) i m+(if i<=m/\m-i<k then Cv.fn P1 i*Cv.fn P2 (m-i) else 0),⟨rs,_,_,rfl,lr,λm=>by rw [hr m,if_neg (by omega),bQ]⟩,?_,?_⟩
  ·rintro k d _ hd ⟨rs',o5',o6',rfl,lr',hr4⟩;obtain⟨hk,rfl⟩:=rP hd;have ik:(i:Int)+(k:Int)=((i+k:Nat):Int):=by omega
   have hiF:i+k<rs'.length:=by omega
   refine⟨rfl,?_⟩;show itI (rs'.map D.int) (.int ((i:Int)+(k:Int))) _;rw [ik];refine rl (rB hiF) ⟨⟨n,m,G1.tops i,G2.tops k,by omega⟩,?_⟩;show atD (rs'.map D.int) (.int ((i:Int)+(k:Int))) _;rw [ik];refine uV (by rw [aa];exact hiF) ⟨rs'.set (i+k) (rs'.getD (i+k) 0+P1.getD i 0*P2.getD k 0),.val (.int (k:Nat)),.val (.int (P2.getD k 0)),?_,by rw [bj];exact lr',λm=>?_⟩
   ·show [SD.val _,.val _,.own ((rs'.map D.int).set (i+k) (.int (rs'.getD (i+k) 0+P1.getD i 0*P2.getD k 0))),_,_,_,_]=_;rw [map_set]
   ·rw [t7 hiF];by_cases e:m=i+k
    ·subst e;rw [if_pos rfl,hr4,if_neg (by omega),if_pos ⟨by omega,by omega⟩,show i+k-i=k by omega,bQ];rfl
    ·rw [if_neg e,hr4];congr 1;by_cases c:i<=m/\m-i<k
     ·rw [if_pos c,if_pos ⟨c.1,by omega⟩]
     ·rw [if_neg c,if_neg (by omega)]
  ·rintro _ ⟨rs',o5',o6',rfl,lr',hr4⟩;rw [qZ,aa] at hr4;refine⟨rs',_,_,_,_,rfl,lr',λm=>?_⟩;rw [hr4 m,Cv.wp];congr 1;by_cases c:i<=m
   ·rw [if_pos c];by_cases c':m-i<P2.length
    ·rw [if_pos ⟨c,c'⟩]
    ·rw [if_neg (λz=>c' z.2),Cv.qJ (P:=P2) (by omega),bJ]
   ·rw [if_neg c,if_neg (λz=>c z.1)]
 ·rintro _ ⟨rs,o3,o4,o5,o6,rfl,lr,hr⟩;rw [qZ,aa] at hr;refine⟨⟨b,c,G1.bot,G2.bot,by omega⟩,rfl,(rs,B1*B2),⟨.inl rfl,az p1 p2,(G1.bot.mul G2.bot).mono hb,by show rs.length<=1000;omega⟩,?_⟩;rintro _ ⟨R,C,rfl,fm,hw,_⟩;exact q _ ⟨R,C,rfl,fm,λk=>by rw [hw k];show rs.getD k 0*C=_;rw [hr k,Cv.sW λj h=>Cv.qJ h]⟩
def oF:TSd:=(hJ [] (gQ 2))
def oG:TSd:=dSq (iA [] (kW (dIx (gQ 0) (dC (.int 0)))) (gNm 3)
 (gV [] (gNm 2) (gS j3 (gP (gS ia (gP (gQ 2) (gP (gQ 1) gR))) (gP (gS iu (gP (ir (gP (gQ 3) gR)) (gP (dIx (gQ 0) (dC (.int 1))) gR))) gR)))))
 oF
def pM:TSd:=dSq (gV [] (gNm 2) (g7 (gP (g7 gR) (gP (dC (.int 1)) gR))))
 oG
def gX:SpB:=.of 2 (α:=List Int×Int×List Int×Int×Nat×Nat×Nat×Nat) (λ(P,B,P',B',n,b,m,c) ds=>ds=[pD P B,pD P' B']/\Pc.Pz n b P B/\Pc.Pz m c P' B'/\b+b+c*P.length<=8900000/\n+(m+c+10)*(P.length+1)<=4000000/\P.length*P'.length<=190/\P.length<=190/\P'.length<=190)
 (λ(P,B,P',B',n,b,m,c) d=>∃ R C,d=pD R C/\Pc.Of P B P' B' R C)
theorem ot:Does 4 pM gX:=by
 rintro ds Q hn ⟨⟨P1,B1,P2,B2,n,b,m,c⟩,⟨rfl,G1,G2,hb,hn,hl,l1,l2⟩,q⟩;dsimp only at G1 G2 hb hn hl l1 l2 q;have p1:=G1.fm.pos;have p2:=G2.fm.pos;have hL:(m+c+10)*P1.length+(m+c+10)=(m+c+10)*(P1.length+1):=by rw [bC]
 have hg:∀ k,P2.length<=k->Cv.fn P2 k=0:=λk h=>Cv.qJ h;refine⟨by rw [sizeLine_eq];decide,by rw [sizeLine_eq];decide,λi s=>∃(R:List Int) (C:Int) (o3:SD) (M:Nat->Int),s=[.val (pD P1 B1),.val (pD P2 B2),.val (pD R C),o3]/\Po.Fm R C/\(∀ k,R.getD k 0*(B1*B2^i)=M k*B2*C)/\(∀ k,i*P2.length+1<=k->M k=0)/\(∀ k,Lt2 (n+(m+c+10)*i+1) (M k)) /\
   ∀ k,Pc.pc (Cv.fn P1) (Cv.fn P2) B2 P1.length k=B2^i*Pc.pc (Cv.fn P1) (Cv.fn P2) B2 (P1.length-i) k+B2*Cv.cv (Pc.cp (Cv.fn P2) (P1.length-i)) M k,
  ⟨[],1,.no,λ_=>0,rfl,⟨by decide,.inl rfl,rfl⟩,λk=>by rw [qG (fs:=([]:List Int)) (aB _)];simp,λ_ _=>rfl,λk=>bG (by decide),λk=>by rw [Cv.C4 λj=>rfl];simp⟩,?_,?_⟩
 ·rintro i z _ hz ⟨R,C,o3,M,rfl,fx,ex,oM,lM,eM⟩;have hi:i<P1.length:=by have:=(aj.mp hz).1;simpa using this
  rw [bu (by rw [aa];exact hi),aa] at hz;obtain⟨_,rfl⟩:=vi hz;have li:(m+c+10)*(i+1)<=(m+c+10)*P1.length:=ai _ hi;rw [bC] at li;have li2:(i+1)*P2.length<=P1.length*P2.length:=bq _ hi;rw [a9] at li2;have li3:c*(i+1)<=c*P1.length:=ai _ hi;rw [bC] at li3;have W:=Hv.pow_pos p2 i;have lW:=Hv.rA G2.bot i;have li5:c*i<=(m+c+10)*i:=bq _ (by omega);have c0:=fx.pos;have zx:Pc.Pz (n+(m+c+10)*i+1+c) (b+(c*i+1)) R C:=Pc.Pz.of fx (az p1 W) ex (λk=>(lM k).mul G2.bot) (G1.bot.mul lW);have lx:R.length<=i*P2.length+1:=Pc.rh fx (az p1 W) ex (λk hk=>by rw [oM k hk,aI]);have top:=G1.tops (P1.length-1-i);refine⟨rfl,(R,C,P2,B2,_,_,_,_),⟨rfl,zx,G2,by omega,by omega,by show R.length<=450;omega,by show P2.length<=450;omega⟩,?_⟩;rintro _ ⟨TT,tb,rfl,fT,eT⟩;have t0:=fT.pos;have eT':∀ k,TT.getD k 0*(B1*(B2^i*B2))=Cv.cv M (Cv.fn P2) k*B2*tb:=λk=>Pc.FZ c0 ex (eT k);have W2:=az W p2;have cM:∀ k,Lt2 (n+(m+c+10)*i+1+m+9) (Cv.cv M (Cv.fn P2) k):=λk=>by
   rcases ar k 500 with cc|cc
   ·exact Cv.Af lM G2.tops (by omega)
   ·rw [Cv.rH (a:=i*P2.length+1) (b:=P2.length) oM hg (by omega)];exact bG (by decide)
  have oT:∀ k,(i+1)*P2.length+1<=k->Cv.cv M (Cv.fn P2) k=0:=λk hk=>Cv.rH (a:=i*P2.length+1) (b:=P2.length) oM hg (by rw [a9] at hk;omega);have zT:Pc.Pz (n+(m+c+10)*i+1+m+9+c) (b+(c*i+1+c)) TT tb:=Pc.Pz.of fT (az p1 W2) eT' (λk=>(cM k).mul G2.bot) (G1.bot.mul (lW.mul G2.bot));have lT:TT.length<=(i+1)*P2.length+1:=Pc.rh fT (az p1 W2) eT' (λk hk=>by rw [oT k hk,aI]);rw [a9] at lT;refine⟨Ar,rfl,([P1.getD (P1.length-1-i) 0],B1),⟨.inl rfl,p1,G1.bot.mono (by omega),by show 1<=1000;decide⟩,?_⟩;rintro _ ⟨E,eb,rfl,fe,ee,le⟩;dsimp only at ee le;have e0:=fe.pos;have ze:Pc.Pz n b E eb:=Pc.Pz.of fe p1 ee (λk=>by
   cases k with
   | zero=>exact top
   | succ k=>rw [qG (fs:=[P1.getD (P1.length-1-i) 0]) (by simp)];exact bG (by decide)) G1.bot
  have le':E.length<=1:=le;refine⟨rfl,(TT,tb,E,eb,_,_,_,_),⟨rfl,zT,ze,by omega,by omega,by show TT.length<=900;omega,by show E.length<=900;omega⟩,?_⟩;rintro _ ⟨R',C',rfl,fx',ex'⟩;refine⟨R',C',_,λj=>Cv.cv M (Cv.fn P2) j+(if j=0 then Cv.fn P1 (P1.length-1-i)*B2^i else 0),rfl,fx',λk=>?_,λk hk=>?_,λk=>?_,λk=>Pc.CH hg hi eM _ λj=>rfl⟩
  ·rw [aV];have y:=Pc.FY t0 e0 (eT' k) (ee k) (ex' k);rw [y];congr 2;show _=_+_;congr 1;cases k with
   | zero=>rfl
   | succ k=>rw [qG (fs:=[P1.getD (P1.length-1-i) 0]) (by simp),if_neg (by omega),aI]
  ·show Cv.cv M (Cv.fn P2) k+(if k=0 then Cv.fn P1 (P1.length-1-i)*B2^i else 0)=0;rw [oT k hk,if_neg (by omega)];rfl
  ·have y2:Lt2 (n+(m+c+10)*i+1+m+9) (if k=0 then Cv.fn P1 (P1.length-1-i)*B2^i else 0):=by
    split
    ·exact (top.mul lW).mono (by omega)
    ·exact bG (by decide)
   exact ((cM k).add y2).mono (by rw [bC];omega)
 ·rintro _ ⟨R,C,o3,M,rfl,fx,ex,oM,lM,eM⟩;rw [aN,aa] at ex eM;refine q _ ⟨R,C,rfl,fx,λk=>?_⟩;rw [ex k,eM k,bc];show _=(_*0+B2*Cv.cv Pc.d0 M k)*C;rw [Pc.xO,bJ,bT,bh B2]
end Dp
namespace Dp
open PySem L2
def FqD(n b:Nat)(d:D)(r:Rat):Prop:=∃ t u:Int,d=fD t u/\0<u/\Int.gcd t u=1/\Lt2 n t/\Lt2 b u/\r=(t:Rat) / (u:Rat)
theorem FqD.of{t u:Int}{n b:Nat}(u0:0<u)(lt:Lt2 n t)(lu:Lt2 b u):FqD n b (fD (Fr.top t u) (Fr.bot t u)) ((t:Rat) / (u:Rat)):=by
 obtain⟨l1,l2,l3⟩:=Fr.low (t:=t) (b:=u) (by omega);obtain⟨m1,m2⟩:=Fr.Bp (t:=t) (b:=u) (by omega);exact⟨_,_,rfl,l1,l3,lt.le m1,lu.le m2,(Qp.rG (by omega) (by omega)).mpr l2.symm⟩
theorem FqD.mono{n b n' b':Nat}{d:D}{r:Rat}(h:FqD n b d r)(l:n<=n')(l':b<=b'):FqD n' b' d r:=by
 obtain⟨t,u,e,h1,h2,h3,h4,h5⟩:=h;exact⟨t,u,e,h1,h2,h3.mono l,h4.mono l',h5⟩
def jh:SpB:=.of 2 (α:=Int) (λm ds=>ds=[.fl,.int m]/\0<=m/\Lt2 8000 m) (λm d=>∃ z,d = .int z /\ -m<=z/\z<=m)
def nH:TSd:=(hJ [] (gU .Sub (gS gT (gP (gQ 0) (gP (gU .Add (gU .Mult (dC (.int 2)) (gQ 1)) (dC (.int 1))) gR))) (gQ 1)))
theorem k8:Does 2 nH jh:=by
 rintro ds Q hn ⟨m,⟨rfl,m0,m1⟩,q⟩;have two:Lt2 2 2:=by decide
 have lm:Lt2 9000 (2*m+1):=((two.mul m1).add ((show Lt2 1 1 by decide).mono (m:=2+8000) (by omega))).mono (by omega);refine⟨⟨_,_,two,m1,by omega⟩,rfl,2*m+1,⟨rfl,by omega,lm⟩,?_⟩;rintro _ ⟨i,rfl,i0,i1⟩;exact q _ ⟨_,rfl,by omega,by omega⟩
theorem vV{m:Int}{n:Nat}(h:m.natAbs<1000)(hn:10<=n:=by decide):Lt2 n m:=by
 unfold Lt2;exact aD (Nat.lt_trans h (show 1000<2^10 by decide)) (b9 (by decide) hn)
theorem BU{a b c e:Int}{i:Int}(h0:0<=i)(h1:i<4){Q:D->Prop}(qa:Q (.int a))(qb:Q (.int b))(qc:Q (.int c))(qe:Q (.int e)):itD [.int a,.int b,.int c,.int e] i Q:=by
 rcases (by omega:i=0\/i=1\/i=2\/i=3) with rfl|rfl|rfl|rfl
 ·exact qa
 ·exact qb
 ·exact qc
 ·exact qe
def h9:SpB:=.of 2 (α:=Int×Nat) (λ(m,M) ds=>ds=[.fl,.int m]/\1<=m/\Lt2 M m/\2<=M/\M<=4000) (λ(m,M) d=>∃ r,FqD M M d r)
def j4:TSd:=(hJ [] (gS iq (gP (gS jh (gP (gQ 0) (gP (gQ 1) gR))) (gP (gU .Add (dC (.int 1)) (gS gT (gP (gQ 0) (gP (dIx (ir (gP (dC (.int 1)) (gP (dC (.int 1)) (gP (dC (.int 3)) (gP (gQ 1) gR))))) (gS gT (gP (gQ 0) (gP (dC (.int 4)) gR)))) gR)))) gR))))
theorem jx:Does 2 j4 h9:=by
 rintro ds Q hn ⟨⟨m,M⟩,⟨rfl,m1,lm,M2,M4⟩,q⟩;refine⟨rfl,m,⟨rfl,by omega,lm.mono (by omega)⟩,?_⟩;rintro _ ⟨z,rfl,z0,z1⟩;refine⟨sE (n:=4) (by decide),rfl,4,⟨rfl,by decide,vV (by decide)⟩,?_⟩;rintro _ ⟨i,rfl,i0,i1⟩;have l3:Lt2 M 3:=(show Lt2 2 3 by decide).mono M2;have key:∀ u:Int,1<=u->Lt2 M u->([D.fl,.int u].length=gT.n/\gT.run [.fl,.int u] λd=>oAdd (.int 1) d λd=>[D.int z,d].length=iq.n/\iq.run [.int z,d] Q):=λu u1 lu=>by
  refine⟨rfl,u,⟨rfl,by omega,lu.mono (by omega)⟩,?_⟩;rintro _ ⟨e,rfl,e0,e1⟩;have lb:Lt2 M (1+e):=lu.le (by omega);refine⟨rfl,(z,1+e),⟨rfl,by show 1+e≠0;omega,lb.mono (by omega)⟩,?_⟩;rintro _ rfl;exact q _ ⟨_,FqD.of (by omega) (lm.le (by omega)) lb⟩
 exact BU i0 i1 (key 1 (by decide) (l3.le (by decide))) (key 1 (by decide) (l3.le (by decide))) (key 3 (by decide) l3) (key m m1 lm)
theorem tv{α:Type}{fs:List α}{i:Nat}{d:α}(h:i<fs.length):fs.getD i d∈fs:=by
 rw [ac,ao h];exact c7 h
theorem uL(n:Nat):Lt2 n 0:=bG (by decide)
theorem yO{ts:List Int}{c B:Int}{P:List Int}{M N:Nat}(fm:Po.Fm P B)(hw:∀ k,P.getD k 0*c=ts.getD k 0*B)(hle:P.length<=ts.length)(hl:ts.length=N+1)(hs:∀ t∈ts,Lt2 M t)(c0:0<c)(lc:Lt2 3 c)(last:ts.getD N 0≠0):Pc.Pz M 3 P B/\P.length=N+1:=by
 have pB:=fm.pos;refine⟨Pc.Pz.of (f:=λk=>ts.getD k 0) fm c0 hw (λk=>?_) lc,?_⟩
 ·rcases ar k ts.length with z|z
  ·exact hs _ (tv z)
  ·rw [qG z];exact uL _
 ·rcases ar N P.length with z|z
  ·omega
  ·have e:=hw N;rw [qG z,aI] at e;rcases bZ.mp e.symm with y|y
   ·exact absurd y last
   ·omega
theorem LZ{d:Int}:(if decide ((0:Int)<d) then (1:Int) else 0)=0\/(if decide ((0:Int)<d) then (1:Int) else 0)=1:=by
 by_cases c:(0:Int)<d
 ·exact .inr (by rw [if_pos (by simpa using c)])
 ·exact .inl (by rw [if_neg (by simpa using c)])
def drI(M:Nat):Nat->List D->Prop:=λi ys=>∃ ts:List Int,ys=ts.map D.int/\ts.length=i/\∀ t∈ts,Lt2 M t
theorem drI.nil{M:Nat}:drI M 0 []:=⟨[],rfl,rfl,λt h=>absurd h aK⟩
theorem drI.snoc{M i:Nat}{ys:List D}{z:Int}(h:drI M i ys)(hz:Lt2 M z):drI M (i+1) (ys++[.int z]):=by
 obtain⟨ts,rfl,h1,h2⟩:=h;refine⟨ts++[z],by rw [a5];rfl,by rw [aq,h1];rfl,λt ht=>?_⟩;rcases bz.mp ht with w|w
 ·exact h2 t w
 ·rw [aW.mp w];exact hz
theorem IR{M:Nat}{z d:Int}(lz:Lt2 M z)(M4:M<=8000):CMulB z (if decide ((0:Int)<d) then (1:Int) else 0)/\Lt2 M (z*(if decide ((0:Int)<d) then (1:Int) else 0)):=by
 rcases LZ (d:=d) with e|e
 ·rw [e];exact⟨⟨M,1,lz,by decide,by omega⟩,by rw [bJ];exact uL _⟩
 ·rw [e];exact⟨⟨M,1,lz,by decide,by omega⟩,by rw [bH];exact lz⟩
def hX:SpB:=.of 3 (α:=Nat×Int×Nat) (λ(N,m,M) ds=>ds=[.fl,.int N,.int m]/\N<=100/\1<=m/\Lt2 M m/\M<=4000) (λ(N,m,M) d=>∃ P B,d=pD P B/\Pc.Pz M 3 P B/\P.length=N+1)
def ji:TSd:=(hJ [] (gS iu (gP (gU .Add (gQ 3) (ir (gP (gQ 5) gR))) (gP (gU .Add (dC (.int 1)) (gS gT (gP (gQ 0) (gP (dIx (ir (gP (dC (.int 1)) (gP (dC (.int 1)) (gP (dC (.int 2)) (gP (dC (.int 6)) gR))))) (gS gT (gP (gQ 0) (gP (dC (.int 4)) gR)))) gR)))) gR))))
def kN:TSd:=dSq (gV [] (gNm 5) (dIx (ir (gP (dC (.int 1)) (gP (gU .Sub (dC (.int 0)) (dC (.int 1))) (gP (gU .Add (dC (.int 1)) (gS gT (gP (gQ 0) (gP (gQ 2) gR)))) (gP (gU .Sub (gU .Sub (dC (.int 0)) (dC (.int 1))) (gS gT (gP (gQ 0) (gP (gQ 2) gR)))) gR))))) (gS gT (gP (gQ 0) (gP (dC (.int 4)) gR)))))
 ji
def mt:TSd:=dSq (gV [] (gNm 3) (iz (je (gQ 1)) [4] (gNm 4) iQ (gU .Mult (gS jh (gP (gQ 0) (gP (gQ 2) gR))) (dB bInt bInt.mono (gP (il .Gt (gS gT (gP (gQ 0) (gP (dC (.int 4)) gR))) (dC (.int 0))) gR)))))
 kN
theorem ko:Does 6 mt hX:=by
 rintro ds Q hn ⟨⟨N,m,M⟩,⟨rfl,hN,m1,lm,M4⟩,q⟩;dsimp only at hN m1 lm M4 q;refine⟨by omega,by omega,by rw [qQ];exact sE (by omega),drI M,drI.nil,λi d ys hd _ hy=>?_,λys _ hy=>?_⟩
 ·obtain⟨hi,rfl⟩:=rg hd;refine⟨rfl,m,⟨rfl,by omega,lm.mono (by omega)⟩,?_⟩;rintro _ ⟨z,rfl,z0,z1⟩;refine⟨rfl,4,⟨rfl,by decide,vV (by decide)⟩,?_⟩;rintro _ ⟨j,rfl,j0,j1⟩;obtain⟨h1,h2⟩:=IR (d:=j) (lm.le (j:=z) (by omega)) (by omega);exact⟨h1,hy.snoc h2⟩
 rw [qQ] at hy;obtain⟨ts,rfl,lt,ht⟩:=hy;have lt:ts.length=N:=by omega
 refine⟨rfl,m,⟨rfl,by omega,lm.mono (by omega)⟩,?_⟩;rintro _ ⟨d1,rfl,d10,d11⟩;refine⟨rfl,m,⟨rfl,by omega,lm.mono (by omega)⟩,?_⟩;rintro _ ⟨d2,rfl,d20,d21⟩;refine⟨sE (n:=4) (by decide),rfl,4,⟨rfl,by decide,vV (by decide)⟩,?_⟩;rintro _ ⟨d3,rfl,d30,d31⟩;have key:∀ u:Int,u≠0->Lt2 M u->ji.run (qX Q) [.val .fl,.val (.int N),.val (.int m),.val (.lst (ts.map .int)),.no,.val (.int u)]:=λu u0 lu=>by
  refine⟨Ar,?_,?_⟩
  ·rw [aa];exact sE (by show ts.length+1<=_;omega)
  refine⟨sE (n:=4) (by decide),rfl,4,⟨rfl,by decide,vV (by decide)⟩,?_⟩;rintro _ ⟨d5,rfl,d50,d51⟩;have fin:∀ c:Int,1<=c->c<=6->([D.fl,.int c].length=gT.n/\gT.run [.fl,.int c] λd=>oAdd (.int 1) d λd=>[D.lst (ts.map .int++[.int u]),d].length=iu.n/\iu.run [.lst (ts.map .int++[.int u]),d] Q):=λc c1 c6=>by
   refine⟨rfl,c,⟨rfl,by omega,vV (by omega)⟩,?_⟩;rintro _ ⟨e,rfl,e0,e1⟩;have b3:Lt2 3 (1+e):=Lt2.of 6 (by omega) (by decide);have em:ts.map D.int++[.int u]=(ts++[u]).map D.int:=by rw [a5];rfl
   have last:(ts++[u]).getD N 0=u:=rf (by rw [av (by omega),lt,bc];rfl);rw [em];refine⟨rfl,(ts++[u],1+e),⟨.inl rfl,by show 0<1+e;omega,b3.mono (by decide),by show (ts++[u]).length<=1000;rw [aq,lt];show N+1<=1000;omega⟩,?_⟩;rintro _ ⟨P1,B1,rfl,fm,hw,hle⟩;dsimp only at hw hle;obtain⟨z1,z2⟩:=yO (M:=M) (N:=N) fm hw hle (by rw [aq,lt];rfl) (λt h=>by
    rcases bz.mp h with y|y
    ·exact ht _ y
    ·rw [aW.mp y];exact lu) (by omega) b3 (by rw [last];exact u0)
   exact q _ ⟨P1,B1,rfl,z1,z2⟩
  exact BU d50 d51 (fin 1 (by decide) (by decide)) (fin 1 (by decide) (by decide)) (fin 2 (by decide) (by decide)) (fin 6 (by decide) (by decide))
 exact BU d30 d31 (key 1 (by decide) (lm.le (by omega))) (key (0-1) (by decide) (lm.le (by omega))) (key (1+d1) (by omega) (lm.le (by omega))) (key (0-1-d2) (by omega) (lm.le (by omega)))
end Dp
namespace Dp
open PySem L2
theorem F0{ta ba tb bb B:Int}{P:List Int}{n1 b1 n2 b2:Nat}(st:Pc.St ta ba tb bb P B)(a0:0<ba)(b0:0<bb)(l1:Lt2 n1 ta)(l2:Lt2 b1 ba)(l3:Lt2 n2 tb)(l4:Lt2 b2 bb):Pc.Pz (n1+n2+b1+b2) (b1+b2) P B :=
 Pc.Pz.of st.1 (az a0 b0) st.2 (λk=>by
  match k with
  | 0=>exact (l3.mul l2).mono (by omega)
  | 1=>exact (l1.mul l4).mono (by omega)
  | k+2=>exact uL _) (l2.mul l4)
theorem Lx{ta ba tb bb B:Int}{P:List Int}{n1 b1 n2 b2:Nat}(st:Pc.St ta ba tb bb P B)(a0:0<ba)(b0:0<bb)(l1:Lt2 n1 ta)(l2:Lt2 b1 ba)(l3:Lt2 n2 tb)(l4:Lt2 b2 bb) :
  Pc.Pz (n1+n2+b1+b2) (b1+b2) P B/\(∀ x,Qp.E P B x=(ta:Rat) / (ba:Rat)*x+(tb:Rat) / (bb:Rat))/\P.length<=2/\Qp.q P B 0=(tb:Rat) / (bb:Rat)/\Qp.q P B 1=(ta:Rat) / (ba:Rat):=by
 have p:=az a0 b0;have q:=λk=>Qp.wz (f:=λk=>[tb*ba,ta*bb].getD k 0) st.1.pos (ax p) st.2 k;refine⟨F0 st a0 b0 l1 l2 l3 l4,Qp.KQ st a0 b0,Pc.rh st.1 p st.2 λk hk=>?_,?_,?_⟩
 ·obtain⟨j,rfl⟩:∃ j,k=j+2:=⟨k-2,by omega⟩;exact Pc.wn _ _ _
 ·rw [q 0];exact (Qp.rG (ax p) (by omega)).mpr (by show tb*ba*bb=tb*(ba*bb);grind)
 ·rw [q 1];exact (Qp.rG (ax p) (by omega)).mpr (by show ta*bb*ba=ta*(ba*bb);grind)
theorem yi{P:List Int}{B:Int}(h:Qp.q P B 1≠0)(l:P.length<=2):P.length=2/\P.getD 1 0≠0:=by
 have n1:P.getD 1 0≠0:=λz=>h (by
  unfold Qp.q;rw [z];show ((0:Int):Rat) / _=0;have:((0:Int):Rat)=0:=rfl;rw [this];grind)
 refine⟨?_,n1⟩;rcases ar 1 P.length with z|z
 ·omega
 ·exact absurd (qG z) n1
def iH:SpB:=.of 2 (α:=D×D×Rat×Rat×Nat×Nat×Nat×Nat) (λ(d1,d2,r1,r2,n1,b1,n2,b2) ds=>ds=[d1,d2]/\FqD n1 b1 d1 r1/\FqD n2 b2 d2 r2/\b1+b2<=4000/\n1<=100000/\n2<=100000)
 (λ(d1,d2,r1,r2,n1,b1,n2,b2) d=>∃ P B,d=pD P B/\Pc.Pz (n1+n2+b1+b2) (b1+b2) P B/\(∀ x,Qp.E P B x=r1*x+r2)/\P.length<=2/\Qp.q P B 0=r2/\Qp.q P B 1=r1)
def mw:TSd:=(hJ [] (gS iu (gP (ir (gP (gU .Mult (dIx (gQ 1) (dC (.int 0))) (dIx (gQ 0) (dC (.int 1)))) (gP (gU .Mult (dIx (gQ 0) (dC (.int 0))) (dIx (gQ 1) (dC (.int 1)))) gR))) (gP (gU .Mult (dIx (gQ 0) (dC (.int 1))) (dIx (gQ 1) (dC (.int 1)))) gR))))
theorem kq:Does 2 mw iH:=by
 rintro ds Q hn ⟨⟨d1,d2,r1,r2,n1,b1,n2,b2⟩,⟨rfl,⟨ta,ba,rfl,a0,c2,l1,l2,rfl⟩,⟨tb,bb,rfl,b0,e2,l3,l4,rfl⟩,ln,m1,m2⟩,q⟩;dsimp only at ln m1 m2 q;refine⟨⟨_,_,l3,l2,by omega⟩,⟨_,_,l1,l4,by omega⟩,rJ,⟨_,_,l2,l4,by omega⟩,rfl,([tb*ba,ta*bb],ba*bb),⟨.inl rfl,az a0 b0,(l2.mul l4).mono (by omega),by show 2<=1000;decide⟩,?_⟩;rintro _ ⟨P,B,rfl,fm,hw,hle⟩;obtain⟨x1,x2,x3,x4,x5⟩:=Lx ⟨fm,hw⟩ a0 b0 l1 l2 l3 l4;exact q _ ⟨P,B,rfl,x1,x2,x3,x4,x5⟩
theorem r9{n:Nat}{t:Int}(l:Lt2 n t):FqD n 1 (fD t 1) (t:Rat):=⟨t,1,rfl,by decide,by simp,l,by decide,by have:((1:Int):Rat)=1:=rfl;rw [this];grind⟩
def gY:SpB:=.of 2 (α:=Int×Nat) (λ(m,M) ds=>ds=[.fl,.int m]/\1<=m/\Lt2 M m/\2<=M/\M<=1000) (λ(m,M) d=>∃ P B,d=pD P B/\Pc.Pz (4*M) (2*M) P B/\P.length=2/\P.getD 1 0≠0)
def iO:TSd:=(hJ [] (gS iH (gP (gQ 2) (gP (gS h9 (gP (gQ 0) (gP (gQ 1) gR))) gR))))
def j5:TSd:=dSq (gV [] (gNm 2) (dIx (ir (gP (g7 (gP (dC (.int 1)) (gP (dC (.int 1)) gR))) (gP (g7 (gP (gU .Sub (dC (.int 0)) (dC (.int 1))) (gP (dC (.int 1)) gR))) (gP (gS iq (gP (gU .Add (dC (.int 1)) (gS gT (gP (gQ 0) (gP (gQ 1) gR)))) (gP (gU .Add (dC (.int 1)) (gS gT (gP (gQ 0) (gP (dC (.int 3)) gR)))) gR))) gR)))) (gS gT (gP (gQ 0) (gP (dC (.int 3)) gR)))))
 iO
theorem jy:Does 3 j5 gY:=by
 rintro ds Q hn ⟨⟨m,M⟩,⟨rfl,m1,lm,M2,M4⟩,q⟩;dsimp only at m1 lm M2 M4 q;refine⟨rJ,rJ,rfl,m,⟨rfl,by omega,lm.mono (by omega)⟩,?_⟩;rintro _ ⟨d1,rfl,d10,d11⟩;refine⟨rfl,3,⟨rfl,by decide,vV (by decide)⟩,?_⟩;rintro _ ⟨d2,rfl,d20,d21⟩;have b2:Lt2 M (1+d2):=(show Lt2 2 (1+d2) from Lt2.of 3 (by omega) (by decide)).mono M2;refine⟨rfl,(1+d1,1+d2),⟨rfl,by show 1+d2≠0;omega,b2.mono (by omega)⟩,?_⟩;rintro _ rfl;dsimp only;refine⟨sE (n:=3) (by decide),rfl,3,⟨rfl,by decide,vV (by decide)⟩,?_⟩;rintro _ ⟨d3,rfl,d30,d31⟩;have fin:∀(u:D) (r:Rat),FqD M M u r->r≠0->iO.run (qX Q) [.val .fl,.val (.int m),.val u]:=λu r fu r0=>by
  refine⟨rfl,(m,M),⟨rfl,m1,lm,M2,by show M<=4000;omega⟩,?_⟩;rintro _ ⟨r2,f2⟩;refine⟨rfl,(u,_,r,r2,M,M,M,M),⟨rfl,fu,f2,by show M+M<=4000;omega,by show M<=100000;omega,by show M<=100000;omega⟩,?_⟩;rintro _ ⟨P1,B1,rfl,z1,e1,l1,q0,q1⟩;obtain⟨len,n1⟩:=yi (by rw [q1];exact r0) l1;exact q _ ⟨P1,B1,rfl,z1.mono (by show M+M+M+M<=_;omega) (by show M+M<=_;omega),len,n1⟩
 have f3:=FqD.of (t:=1+d1) (u:=1+d2) (by omega) (lm.le (j:=1+d1) (by omega)) b2;have n3:((1+d1:Int):Rat) / ((1+d2:Int):Rat)≠0:=(Fq.ne (p:=0) (by omega) rfl).mpr (by omega);rcases (by omega:d3=0\/d3=1\/d3=2) with rfl|rfl|rfl
 ·exact fin _ _ ((r9 (n:=1) (t:=1) (by decide)).mono (by omega) (by omega)) (by decide)
 ·exact fin _ _ ((r9 (n:=1) (t:=-1) (by decide)).mono (by omega) (by omega)) (by decide)
 ·exact fin _ _ f3 n3
def jj:SpB:=.of 2 (α:=List Int×Int×Nat×Nat×Nat) (λ(P,B,k,n,b) ds=>ds=[pD P B,.int k]/\Pc.Pz n b P B/\b<=9000000) (λ(P,B,k,n,b) d=>FqD n b d (Qp.q P B k))
def kr:SpB:=.of 2 (α:=List Int×Int×Nat×Nat×Nat) (λ(P,B,k,n,b) ds=>ds=[pD P B,.int k]/\Pc.Pz n b P B/\k*P.length<=400/\k<=400/\P.length<=400/\b*k+1+b<=9000000/\(n+9)*k+1+n<=9000000)
 (λ(P,B,k,n,b) d=>∃ R C,d=pD R C/\(∀ j,R.getD j 0*B^k=Pc.cp (Cv.fn P) k j*C)/\Pc.Pz ((n+9)*k+1) (b*k+1) R C/\R.length<=k*P.length+1)
def mO:TSd:=(hJ [] (gQ 2))
def mP:TSd:=dSq (iA [] (je (gQ 1)) (gNm 3)
 (gV [] (gNm 2) (gS ia (gP (gQ 2) (gP (gQ 0) gR)))))
 mO
def ou:TSd:=dSq (gV [] (gNm 2) (g7 (gP (g7 (gP (dC (.int 1)) gR)) (gP (dC (.int 1)) gR))))
 mP
theorem mx:Does 4 ou kr:=by
 rintro ds Q hn ⟨⟨P1,B1,k,n,b⟩,⟨rfl,z1,hkl,hk,hl,hb,hn⟩,q⟩;dsimp only at z1 hkl hk hl hb hn q;have B0:=z1.fm.pos;have pz:∀ i,i<=k->∀{R:List Int} {C:Int},Po.Fm R C->(∀ j,R.getD j 0*B1^i=Pc.cp (Cv.fn P1) i j*C)->Pc.Pz ((n+9)*i+1) (b*i+1) R C/\R.length<=i*P1.length+1:=λi hi R C fm e=>by
  have l1:i*P1.length<=k*P1.length:=bq _ hi;exact⟨Pc.Pz.of fm (bB B0) e (Pc.Db (l:=P1.length) (λj hj=>Cv.qJ hj) (λj=>z1.tops j) i (by omega)) (Hv.rA z1.bot i),Pc.rh fm (bB B0) e (Pc.tY (λj hj=>Cv.qJ hj) i)⟩
 refine⟨Ar,rJ,by omega,by omega,λi s=>∃(o3:SD) (R:List Int) (C:Int),s=[.val (pD P1 B1),.val (.int k),.val (pD R C),o3]/\Po.Fm R C/\∀ j,R.getD j 0*B1^i=Pc.cp (Cv.fn P1) i j*C,⟨.no,[1],1,rfl,Cv.GJ,λj=>?_⟩,?_,?_⟩
 ·rw [aU];cases j with
  | zero=>rfl
  | succ j=>rfl
 ·rintro i d _ hd ⟨o3,R,C,rfl,fm,he⟩;obtain⟨hi,rfl⟩:=rg hd;have hi:i<k:=by omega
  obtain⟨G,hle⟩:=pz i (by omega) fm he;have l1:i*P1.length<=k*P1.length:=bq _ (by omega);have l2:b*i<=b*k:=ai _ (by omega);have l3:(n+9)*i<=(n+9)*k:=ai _ (by omega);refine⟨rfl,(R,C,P1,B1,_,_,n,b),⟨rfl,G,z1,by omega,by omega,by show R.length<=450;omega,by show P1.length<=450;omega⟩,?_⟩;rintro _ ⟨R',C',rfl,fm',hw⟩;refine⟨_,R',C',rfl,fm',λj=>?_⟩;have e:Cv.cv (Cv.fn R) (Cv.fn P1) j*B1^i=Pc.cp (Cv.fn P1) (i+1) j*C:=by
   show _=Cv.cv (Pc.cp (Cv.fn P1) i) (Cv.fn P1) j*C;rw [← Cv.sd,← Cv.sd];exact Cv.rc (λm=>he m) λ_=>rfl
  have e2:=hw j;refine aH (ax fm.pos) ?_;rw [aV];grind
 ·rintro _ ⟨o3,R,C,rfl,fm,he⟩;rw [qQ,aS] at he;exact q _ ⟨R,C,rfl,he,(pz k (af _) fm he).1,(pz k (af _) fm he).2⟩
end Dp
namespace Dp
open PySem L2
def gZ:SpB:=.of 2 (α:=Int×Nat×Nat) (λ(n,k,M) ds=>ds=[.int n,.int k]/\Lt2 M n/\k<=200/\(M+1)*(k+1)<=4000000) (λ(n,k,M) d=>d = .int (n^k))
def k9:TSd:=(hJ [] (gQ 2))
def lE:TSd:=dSq (iA [] (je (gQ 1)) (gNm 3)
 (mK [] 2 .Mult (gQ 0)))
 k9
def mQ:TSd:=dSq (gV [] (gNm 2) (dC (.int 1)))
 lE
theorem kO:Does 4 mQ gZ:=by
 rintro ds Q hn ⟨⟨n,k,M⟩,⟨rfl,ln,hk,hM⟩,q⟩;dsimp only at ln hk hM q;refine⟨by omega,by omega,λi s=>∃ o,s=[.val (.int n),.val (.int k),.val (.int (n^i)),o],⟨.no,by rw [aU];rfl⟩,?_,?_⟩
 ·rintro i d _ hd ⟨o,rfl⟩;obtain⟨hi,rfl⟩:=rg hd;have hi:i<k:=by omega
  have lp:=Hv.rA ln i;have l1:M*i<=(M+1)*(k+1):=aX (by omega) (by omega);have l2:M<=(M+1)*(k+1):=aC (by omega) (bM (M+1) (by omega));exact⟨⟨_,_,lp,ln,by omega⟩,_,by rw [aV];rfl⟩
 ·rintro _ ⟨o,rfl⟩;rw [qQ,aS];exact q _ rfl
def iE:SpB:=.of 1 (α:=List Int×Int) (λ(P,B) ds=>ds=[pD P B]) (λ(P,B) d=>d = .int ((P.length:Int)-1))
def pN:TSd:=(hJ [] (gU .Sub (dB bLen bLen.mono (gP (dIx (gQ 0) (dC (.int 0))) gR)) (dC (.int 1))))
theorem ox:Does 1 pN iE:=by
 rintro ds Q hn ⟨⟨P,B⟩,rfl,q⟩;refine q _ ?_;show D.int (((P.map D.int).length:Int)-1)=_;rw [aa]
theorem Ah{ts:List Int}{m:Nat}(hm:m<=ts.length):sT (ts.map D.int) none (some (m:Int))=(ts.take m).map D.int:=by
 unfold sT;rw [HT.u9,HT.wy,aa,df hm,dA,bx,List.map_take]
theorem He(b:Nat)(ts us:List Int):Po.gl b (ts++us)=Po.gl (Po.gl b ts) us:=by
 unfold Po.gl;rw [gH]
def iI:SpB:=.of 2 (α:=List Int×Int) (λ(ts,b) ds=>ds=[.lst (ts.map .int),.int b]/\0<b/\Lt2 9000000 b/\ts.length<=1000) (λ(ts,b) d=>∃ P B,d=pD P B/\Po.Fm P B/\(∀ k,P.getD k 0*b=ts.getD k 0*B)/\P.length<=ts.length)
def ku:TSd:=(hJ [] (g7 (gP (dB bTuple bTuple.mono (gP (iz (iG (dSl (gQ 0) dNo (kU (gQ 2)))) [4] (gNm 4) iQ (gU .FloorDiv (gQ 4) (gQ 3))) gR)) (gP (gU .FloorDiv (gQ 1) (gQ 3)) gR))))
def nJ:TSd:=dSq (iA [] (iG (dSl (gQ 0) dNo (kU (gQ 2)))) (gNm 4)
 (dSq (dIf [] (g9 (il .Eq (gQ 3) (dC (.int 1))))
 pK
 ii)
 (gV [] (gNm 3) (gS iB (gP (gQ 3) (gP (gQ 4) gR))))))
 ku
def nK:TSd:=dSq (gV [] (gNm 3) (gQ 1))
 nJ
def jp:TSd:=dSq (iR (iL (g9 (il .Gt (gQ 2) (dC (.int 0)))) (g9 (il .Eq (dIx (gQ 0) (gU .Sub (gQ 2) (dC (.int 1)))) (dC (.int 0)))))
 (mK [] 2 .Sub (dC (.int 1))))
 nK
def oH:TSd:=dSq (gV [] (gNm 2) (dB bLen bLen.mono (gP (gQ 0) gR)))
 jp
theorem mR:Does 5 oH iI:=by
 rintro ds Q hn ⟨⟨ts,b⟩,⟨rfl,hb,hl,hz⟩,q⟩;dsimp only at hb hl hz q;have bn:((b.natAbs:Nat):Int)=b:=by omega
 suffices h1:jp.run (qX Q) [.val (.lst (ts.map .int)),.val (.int b),.val (.int ts.length),.no,.no] by
  show jp.run (qX Q) [.val (.lst (ts.map .int)),.val (.int b),.val (.int ((ts.map D.int).length:Nat)),.no,.no];rw [aa];exact h1
 refine dSq.cut (λs=>∃ m:Nat,s=[.val (.lst (ts.map .int)),.val (.int b),.val (.int m),.no,.no]/\m<=ts.length/\(∀ j,m<=j->ts.getD j 0=0)/\(m=0\/ts.getD (m-1) 0≠0)) ?_ ?_
 ·refine⟨λs=>∃ m:Nat,s=[.val (.lst (ts.map .int)),.val (.int b),.val (.int m),.no,.no]/\m<=ts.length/\∀ j,m<=j->ts.getD j 0=0,λs=>match s with|[_,_,.val (.int m),_,_]=>m.toNat|_=>0,⟨ts.length,rfl,af _,λj hj=>qG hj⟩,?_⟩;rintro _ ⟨m,rfl,hm,h0⟩;refine vG (p:=(0:Int)<(m:Nat)) (λc=>?_) (λc=>?_)
  ·obtain⟨k,rfl⟩:∃ k,m=k+1:=⟨m-1,by omega⟩;have ek:((k+1:Nat):Int)-1=(k:Int):=by omega
   show itD (ts.map D.int) (((k+1:Nat):Int)-1) _;rw [ek];refine rl (rB (by omega)) (vG (p:=ts.getD k 0=0) (λz=>?_) (λz=>?_))
   ·refine⟨⟨k,?_,by omega,λj hj=>?_⟩,?_⟩
    ·show [_,_,SD.val (.int (((k+1:Nat):Int)-1)),_,_]=_;rw [ek]
    ·rcases bK hj with w|w
     ·rw [← w];exact z
     ·exact h0 j w
    ·show ((((k+1:Nat):Int)-1)).toNat<(((k+1:Nat):Int)).toNat;omega
   ·exact⟨k+1,rfl,hm,h0,.inr z⟩
  ·exact⟨m,rfl,hm,h0,.inl (by omega)⟩
 ·rintro _ ⟨m,rfl,hm,h0,hlast⟩;obtain⟨fm,wr⟩:=Po.form hb hm h0 hlast;have tail:∀ g:Nat,g=Po.gl b.natAbs (ts.take m)->∀ o,ku.run (qX Q) [.val (.lst (ts.map .int)),.val (.int b),.val (.int m),.val (.int g),o]:=by
   rintro g hg o;rw [← hg] at fm wr;have g0:0<g:=by rw [hg];exact Po.yG (by omega) _
   have gle:g<=b.natAbs:=by rw [hg];exact ce (by omega) (Po.vm _ _).1
   have cd:∀ x:Int,sS x (g:Int):=λx=>⟨by omega,9000000,hl.le (by rw [a8];exact gle),by decide⟩;have ec:=Ah hm;refine⟨(congrArg (λl:List D=>l.length<=sizeLine) ec).mpr (by rw [aa,aZ];exact sE (by omega)),mI (λz=>z.fdiv (g:Int)) (ts.take m),mI.nil,λi d ys hd _ hy=>?_,λys _ hy=>?_⟩
   ·have hd:(sT (ts.map D.int) none (some (m:Int)))[i]? = some d:=hd;rw [ec] at hd;obtain⟨z,hz,rfl⟩:=uT hd;exact⟨cd _,hy.snoc hz rfl⟩
   ·cases hy.all (by rw [ec,aa]);exact⟨cd _,rJ,q _ ⟨_,_,rfl,fm,wr,by rw [aa,aZ];omega⟩⟩
  have ec:=Ah hm;refine⟨λi s=>∃ o,s=[.val (.lst (ts.map .int)),.val (.int b),.val (.int m),.val (.int ((Po.gl b.natAbs ((ts.take m).take i):Nat):Int)),o],⟨.no,?_⟩,?_,?_⟩
  ·show [_,_,_,SD.val (.int b),_]=[_,_,_,SD.val (.int ((b.natAbs:Nat):Int)),_];rw [bn]
  ·rintro i d _ hd ⟨o,rfl⟩;have hd:(sT (ts.map D.int) none (some (m:Int)))[i]? = some d:=hd;rw [ec] at hd;obtain⟨hi,rfl⟩:=vi hd;refine vG (p:=(((Po.gl b.natAbs ((ts.take m).take i):Nat):Int)=1)) (λc=>?_) (λc=>?_)
   ·refine tail _ ?_ _;have e:ts.take m=(ts.take m).take i++(ts.take m).drop i:=(d9 i _).symm;have c':Po.gl b.natAbs ((ts.take m).take i)=1:=by omega
    rw [e,He,List.take_append_of_le_length (by rw [aZ];omega),dY (by rw [aZ];omega),c',Po.Hd]
   ·refine⟨rfl,(_,_),rfl,?_⟩;rintro _ rfl;refine⟨.val (.int ((ts.take m).getD i 0)),?_⟩;rw [rY hi,zV];rfl
  ·rintro _ ⟨o,hs⟩;rw [show (sT (ts.map D.int) none (some (m:Int))).length=(ts.take m).length by rw [ec,aa],bF] at hs;subst hs;exact tail _ rfl _
end Dp
namespace Dp
open PySem L2
def nI(F:Nat->Int):Nat->List D->Prop:=λi ys=>∃ rs:List Int,ys=rs.map D.int/\rs.length=i/\∀ k,k<i->rs.getD k 0=F k
theorem nI.nil{F:Nat->Int}:nI F 0 []:=⟨[],rfl,rfl,λk hk=>absurd hk (bO _)⟩
theorem ww(rs:List Int)(z:Int)(i:Nat):(rs++[z]).getD i 0=if i=rs.length then z else rs.getD i 0:=by
 rw [ac,ac];by_cases c:i=rs.length
 ·rw [if_pos c,c];simp
 ·rw [if_neg c];rcases ar i rs.length with h|h
  ·rw [aR h]
  ·rw [bg (by simp;omega),bg h]
theorem nI.snoc{F:Nat->Int}{i:Nat}{ys:List D}{z:Int}(h:nI F i ys)(hz:z=F i):nI F (i+1) (ys++[.int z]):=by
 obtain⟨rs,rfl,l,h⟩:=h;refine⟨rs++[z],by simp,by rw [aq,l];rfl,λk hk=>?_⟩;rw [ww,l];by_cases e:k=i
 ·rw [if_pos e,e];exact hz
 ·rw [if_neg e];exact h k (by omega)
def jF:SpB:=.of 2 (α:=List Int×Int×Nat×Nat×Nat×Nat) (λ(ts,c,n,M,C,Z) ds=>ds=[.tup (ts.map .int),.int c]/\ts.length=n+1/\n<=100/\(∀ i,Lt2 M (ts.getD i 0))/\Lt2 C c/\M<=9000000/\Lt2 Z (ts.getD n 0)/\Z<=9000000/\(C+1)*(n+1)<=4000000/\ts.getD n 0≠0)
 (λ(ts,c,n,M,C,Z) d=>∃ rs:List Int,d = .lst (rs.map .int)/\rs.length=n+1/\∀ i,i<=n->rs.getD i 0=(ts.getD i 0*c^(n-i)).fdiv (ts.getD n 0))
def jq:TSd:=(hJ [] (iz (iN (gQ 0)) [3,4] (gTp [3,4]) iQ (gU .FloorDiv (gU .Mult (gQ 4) (gS gZ (gP (gQ 1) (gP (gU .Sub (gQ 2) (gQ 3)) gR)))) (dIx (gQ 0) (gQ 2)))))
def oI:TSd:=dSq (gV [] (gNm 2) (gU .Sub (dB bLen bLen.mono (gP (gQ 0) gR)) (dC (.int 1))))
 jq
theorem mS:Does 5 oI jF:=by
 rintro ds Q hn ⟨⟨ts,c,n,M,C,Z⟩,⟨rfl,ln,hn,hM,hC,M9,hZ,Z9,hz,hL⟩,q⟩;dsimp only at ln hn hM hC M9 hZ Z9 hz hL q;suffices h1:jq.run (qX Q) [.val (.tup (ts.map .int)),.val (.int c),.val (.int n),.no,.no] by
  show jq.run (qX Q) [.val (.tup (ts.map .int)),.val (.int c),.val (.int (((ts.map D.int).length:Int)-1)),.no,.no];rw [aa,ln,show ((n+1:Nat):Int)-1=(n:Int) by omega];exact h1
 have le:(sj (ts.map D.int)).length=n+1:=by simp [sj,ln]
 refine⟨(congrArg (· <= sizeLine) le).mpr (sE (by omega)),nI (λk=>(ts.getD k 0*c^(n-k)).fdiv (ts.getD n 0)),nI.nil,λi d ys hd _ hy=>?_,λys _ hy=>?_⟩
 ·obtain⟨hi,rfl⟩:=rP hd;have hz2:(C+1)*(n-i+1)<=4000000:=aC (ai _ (by omega)) hz;have hz3:C*(n-i)<=4000000:=aC (aX (gx _) (gx _)) hz2;refine⟨rfl,rfl,(c,n-i,C),⟨?_,hC,by omega,hz2⟩,?_⟩
  ·show [D.int c,.int ((n:Int)-(i:Int))]=[D.int c,.int ((n-i:Nat):Int)];rw [show (n:Int)-(i:Int)=((n-i:Nat):Int) by omega]
  ·rintro _ rfl;exact⟨⟨M,C*(n-i)+1,hM i,Hv.rA hC (n-i),by omega⟩,rl (rB (by omega)) ⟨⟨hL,Z,hZ,by omega⟩,hy.snoc rfl⟩⟩
 ·have hy:nI _ (sj (ts.map D.int)).length ys:=hy;rw [le] at hy;obtain⟨rs,rfl,l,h⟩:=hy;exact q _ ⟨rs,rfl,l,λi hi=>h i (by omega)⟩
theorem vZ(rs:List Int)(z:Int):rs.map D.int++[D.int z]=(rs++[z]).map D.int:=by simp
end Dp
namespace Dp
open PySem L2
theorem EG{l x:Int}{n:Nat}(h0:l≠0)(h:l*x.fdiv l=x)(hx:Lt2 n x):Lt2 n (x.fdiv l):=by
 refine hx.le ?_;generalize x.fdiv l=y at h;rw [← h,aO];exact bo _ (by omega)
theorem BE{rs:List Int}{n j:Nat}(h:rs.length=n+1)(hj:j<=n):rs.reverse.getD j 0=rs.getD (n-j) 0:=by
 rw [ac,bu (by omega),ac,h];congr 2
end Dp
namespace Dp
open PySem L2
theorem FqD.same{n b n' b':Nat}{d d':D}{r:Rat}(h:FqD n b d r)(h':FqD n' b' d' r):d=d'/\∃ t u:Int,d=fD t u:=by
 obtain⟨t,u,rfl,u0,g,lt,lu,e⟩:=h;obtain⟨t',u',rfl,u0',g',lt',lu',e'⟩:=h';have c:=(Qp.rG (by omega) (by omega)).mp (e'.symm.trans e);obtain⟨y1,y2⟩:=Fr.uniq (t:=t) (b:=u) (by omega) u0' g' (by rw [c]);obtain⟨w1,w2⟩:=Fr.uniq (t:=t) (b:=u) (by omega) u0 g rfl;rw [← y1,← y2,w1,w2];exact⟨rfl,_,_,rfl⟩
end Dp
namespace Dp
open PySem L2
theorem Cu{x:Int}(h:(x.natAbs:Int)<(10:Int)^40):Lt2 133 x:=by
 unfold Lt2;have e:(10:Int)^40=10000000000000000000000000000000000000000:=by decide
 have e2:(2:Nat)^133=10889035741470030830827987437816582766592:=by decide
 rw [e] at h;rw [e2];omega
end Dp
namespace Dp
open PySem L2
theorem tE{α:Type}{xs:List α}{j n:Nat}{v:α}(h:xs[n-j]? = some v)(e:xs.length=n)(hj:1<=j)(hn:j<=n):vB xs (-(j:Int))=some v:=by
 have e:xA xs.length (-(j:Int))=some (n-j):=by
  unfold xA;rw [e,if_neg (by omega),if_pos (by omega)];congr 1;omega
 unfold vB;rw [e];exact h
end Dp
namespace Dp
open PySem L2
theorem rN{P:List Int}{B:Int}{n:Nat}(f:Po.Fm P B)(l:P.length=n+1):P.getD n 0≠0:=by
 rcases f.last with e|e
 ·rw [e] at l;simp at l
 ·rwa [l] at e
end Dp
namespace Dp
open PySem L2
def jG:SpB:=.of 2 (α:=Int×Int) (λx ds=>ds=[.int x.1,.int x.2]/\x.2≠0/\Lt2 9000000 x.2) (λx d=>d=fD (Fr.top x.1 x.2) (Fr.bot x.1 x.2))
def nL:TSd:=(hJ [] (g7 (gP (gU .FloorDiv (gQ 0) (gQ 2)) (gP (gU .FloorDiv (gQ 1) (gQ 2)) gR))))
def nM:TSd:=dSq (dIf [] (g9 (il .Lt (gQ 1) (dC (.int 0))))
 (gV [] (gNm 2) (jP (gQ 2)))
 ii)
 nL
def oJ:TSd:=dSq (gV [] (gNm 2) (gS iB (gP (gQ 0) (gP (gQ 1) gR))))
 nM
theorem mT:Does 3 oJ jG:=by
 rintro ds Q hn ⟨⟨a,b⟩,⟨rfl,h0,hl⟩,q⟩;refine⟨rfl,(a,b),rfl,?_⟩;rintro _ rfl;have fin:∀ p:Int,p=Fr.tM a b->sS a p/\sS b p/\2<=sizeLine/\Q (.tup [.int (a.fdiv p),.int (b.fdiv p)]):=by
  rintro p rfl;have c:∀ x,sS x (Fr.tM a b):=λx=>⟨Fr.zw h0,9000000,hl.le (Fr.zy h0),by decide⟩;exact⟨c _,c _,rJ,q _ rfl⟩
 refine vG (p:=b<0) (λc=>?_) (λc=>?_)
 ·exact fin _ (by unfold Fr.tM;rw [if_pos c])
 ·exact fin _ (by unfold Fr.tM;rw [if_neg c])
theorem FqD.ofN{t u:Int}{n b:Nat}(u0:u≠0)(lt:Lt2 n t)(lu:Lt2 b u):FqD n b (fD (Fr.top t u) (Fr.bot t u)) ((t:Rat) / (u:Rat)):=by
 obtain⟨l1,l2,l3⟩:=Fr.low (t:=t) (b:=u) u0;obtain⟨m1,m2⟩:=Fr.Bp (t:=t) (b:=u) u0;exact⟨_,_,rfl,l1,l3,lt.le m1,lu.le m2,(Qp.rG u0 (by omega)).mpr l2.symm⟩
def my:SpB:=.of 2 (α:=D×D×Rat×Rat×Nat×Nat×Nat×Nat) (λ(d1,d2,r1,r2,n1,b1,n2,b2) ds=>ds=[d1,d2]/\FqD n1 b1 d1 r1/\FqD n2 b2 d2 r2/\r2≠0/\b1+n2<=9000000/\n1+b2<=9000000)
 (λ(d1,d2,r1,r2,n1,b1,n2,b2) d=>FqD (n1+b2) (b1+n2) d (r1 / r2))
def pE:TSd:=(hJ [] (gS jG (gP (gU .Mult (dIx (gQ 0) (dC (.int 0))) (dIx (gQ 1) (dC (.int 1)))) (gP (gU .Mult (dIx (gQ 0) (dC (.int 1))) (dIx (gQ 1) (dC (.int 0)))) gR))))
theorem nN:Does 2 pE my:=by
 rintro ds Q hn ⟨⟨d1,d2,r1,r2,n1,b1,n2,b2⟩,⟨rfl,f1,f2,z2,hb,hn⟩,q⟩;dsimp only at f1 f2 z2 hb hn q;obtain⟨t1,u1,rfl,p1,g1,lt1,lu1,e1⟩:=f1;obtain⟨t2,u2,rfl,p2,g2,lt2,lu2,e2⟩:=f2;have t20:t2≠0:=(Fq.ne (p:=0) p2 e2).mp z2;refine⟨⟨_,_,lt1,lu2,by omega⟩,⟨_,_,lu1,lt2,by omega⟩,rfl,(t1*u2,u1*t2),⟨rfl,br (by omega) t20,(lu1.mul lt2).mono (by omega)⟩,?_⟩;rintro _ rfl;have:=FqD.ofN (t:=t1*u2) (u:=u1*t2) (br (by omega) t20) (lt1.mul lu2) (lu1.mul lt2);refine q _ ?_;rw [e1,e2];have e:((t1*u2:Int):Rat) / ((u1*t2:Int):Rat)=(t1:Rat) / (u1:Rat) / ((t2:Rat) / (u2:Rat)):=by
  have h1:(u1:Rat)≠0:=by exact_mod_cast ax p1
  have h2:(u2:Rat)≠0:=by exact_mod_cast ax p2
  have h3:(t2:Rat)≠0:=by exact_mod_cast t20
  rw [aw,aw];grind
 rw [← e];exact this
def i5:SpB:=.of 2 (α:=List Int×Int×Nat×Nat×Nat) (λ(P,B,k,n,b) ds=>ds=[pD P B,.int k]/\Pc.Pz n b P B/\b<=9000000) (λ(P,B,k,n,b) d=>FqD n b d (Qp.q P B k))
def lI:TSd:=(hJ [] (g7 (gP (dC (.int 0)) (gP (dC (.int 1)) gR))))
def lJ:TSd:=dSq (dIf [] (g9 (jo .LtE .Lt (dC (.int 0)) (gQ 1) (dB bLen bLen.mono (gP (gQ 2) gR))))
 (hJ [] (gS jG (gP (dIx (gQ 2) (gQ 1)) (gP (gQ 3) gR))))
 ii)
 lI
def mU:TSd:=dSq (gV [] (gTp [2,3]) (gQ 0))
 lJ
theorem kP:Does 4 mU i5:=by
 rintro ds Q hn ⟨⟨P,B,k,n,b⟩,⟨rfl,z1,hb⟩,q⟩;dsimp only at z1 hb q;have p1:=z1.fm.pos;have out:P.length<=k->FqD n b (fD 0 1) (Qp.q P B k):=λc=>by
  rw [Qp.sQ c];have:=r9 (n:=n) (t:=0) (uL _);refine this.mono (af _) ?_;cases b with
  | zero =>
   have:B.natAbs<1:=z1.bot;omega
  | succ b=>omega
 refine⟨rfl,?_⟩;refine vG (p:=((k:Nat):Int)<((P.map D.int).length:Nat)) (λc=>?_) (λc=>?_)
 ·rw [aa] at c;refine rl (rB (by omega)) ⟨rfl,(P.getD k 0,B),⟨rfl,by show B≠0;omega,z1.bot.mono hb⟩,?_⟩;rintro _ rfl;exact q _ (FqD.of p1 (z1.tops k) z1.bot)
 ·rw [aa] at c;exact⟨rJ,q _ (out (by omega))⟩
def oX:SpB:=.of 1 (α:=List Int×Int×Nat×Nat×Nat) (λ(P,B,k,n,b) ds=>ds=[pD P B]/\P.length=k+1/\Pc.Pz n b P B/\b<=9000000) (λ(P,B,k,n,b) d=>FqD n b d (Qp.q P B k))
def qu:TSd:=(hJ [] (gS i5 (gP (gQ 0) (gP (gS iE (gP (gQ 0) gR)) gR))))
theorem pF:Does 1 qu oX:=by
 rintro ds Q hn ⟨⟨P,B,k,n,b⟩,⟨rfl,l,z1,hb⟩,q⟩;dsimp only at l z1 hb q;refine⟨rfl,(P,B),rfl,?_⟩;rintro _ rfl;refine⟨rfl,(P,B,k,n,b),⟨?_,z1,hb⟩,q⟩;show [pD P B,.int ((P.length:Int)-1)]=[pD P B,.int (k:Int)];rw [l,show ((k+1:Nat):Int)-1=(k:Int) by omega]
end Dp
namespace Dp
open PySem L2
theorem tz{a b:Int}(h:a≠0):0<Fr.cp a b:=by
 unfold Fr.cp;have:0<Int.gcd a b:=Int.gcd_pos_of_ne_zero_left b h;omega
theorem tZ(a b:Int):Fr.cp a b∣a/\Fr.cp a b∣b:=by
 unfold Fr.cp;exact⟨Int.gcd_dvd_left ..,gO ..⟩
theorem rj{b c:Int}(hc:0<c)(hb:0<b)(d:c∣b):b=c*b.fdiv c/\0<b.fdiv c/\(b.fdiv c).natAbs<=b.natAbs:=by
 obtain⟨q,rfl⟩:=d;rw [cq _ (by omega)];have q0:0<q:=by
  rcases dM q 0 with z|z|z
  ·have:=dE hc z;omega
  ·rw [z,bJ] at hb;omega
  ·exact z
 refine⟨rfl,q0,?_⟩;rw [aO];exact bo _ (by omega)
theorem CT{m x:Int}(h:0<m):m∣x*m.fdiv (Fr.cp m x):=by
 have g0:=tz (a:=m) (b:=x) (by omega);obtain⟨g1,y,hy⟩:=tZ m x;obtain⟨e,_,_⟩:=rj g0 h g1;generalize m.fdiv (Fr.cp m x)=q at *;generalize Fr.cp m x=g at *;refine⟨y,?_⟩;rw [hy,e];grind
end Dp
namespace Dp
open PySem L2
def FM(W:Nat->Int)(v:Nat)(c:Int):Nat->Int:=λj=>W j+(if v<=j then c*Pc.d0 (j-v) else 0)
theorem Bi{W:Nat->Int}{v:Nat}{c:Int}(h:W v=0):FM W v c v=c:=by
 unfold FM Pc.d0;rw [h,if_pos (af _),if_pos (bc _)];omega
theorem wl{W:Nat->Int}{v j:Nat}{c:Int}(h:j≠v):FM W v c j=W j:=by
 unfold FM Pc.d0;by_cases z:v<=j
 ·rw [if_pos z,if_neg (by omega)];omega
 ·rw [if_neg z];omega
theorem Hl(W g:Nat->Int)(v:Nat)(c:Int)(k:Nat):Cv.cv (FM W v c) g k=Cv.cv W g k+(if v<=k then c*g (k-v) else 0):=by
 unfold FM;rw [Pc.xP,Pc.xL,Pc.xO]
def oK:TSd:=(hJ [2,4] (g7 (gP (oC (gQ 4)) (gP (gQ 2) gR))))
def j6:TSd:=dSq (iR (g9 (il .Gt (kc 2) (gQ 3)))
 (dSq (mo 5 2)
 (dSq (kh [] 4 (gQ 5))
 (iA [] (je (gQ 3)) (gNm 6)
 (kX [] 2 (gU .Add (gU .Sub (kc 2) (gQ 3)) (gQ 6)) .Sub (gU .Mult (gQ 5) (dIx (gQ 1) (gQ 6))))))))
 oK
def oN:TSd:=dSq (jC [] 4 (ir gR))
 j6
def pP:TSd:=dSq (oi [] 2 3 (ja (gQ 0)) (gU .Sub (dB bLen bLen.mono (gP (gQ 1) gR)) (dC (.int 1))))
 oN
theorem EJ{l:List Int}{k:Nat}(h:k<l.length-1):l.dropLast.getD k 0=l.getD k 0:=by
 rw [ac,ac,eE,dw,if_pos h]
theorem Bz{l:List Int}{j k:Nat}{z:Int}(h:j<l.length):(l.set j z).getD k 0=if k=j then z else l.getD k 0:=by
 rw [ac,ac,aP];by_cases c:j=k
 ·subst c;rw [if_pos rfl,if_pos h,if_pos rfl];rfl
 ·rw [if_neg c,if_neg (Ne.symm c)]
theorem xh{l:List D}{n:Nat}{d:D}{F:D->Prop}(h:l[n]? = some d)(q:F d):(match l[n]? with|some x=>F x|none=>False):=by
 rw [h];exact q
end Dp
namespace Dg
open Cv
theorem K3(f g:Nat->Int)(e:Int)(k:Nat):cv f g k*e=sm (λj=>f j*g (k-j)*e) (k+1):=(sH _ _ _).symm
theorem wo{c ov un B U Gs C:Int}{s n t:Nat}{G b R L:Nat->Int}(hb:∀ j,j<=s->b j*Gs=G j*c^(s-j))(hG:∀ j,s<j->G j=0)(hb0:∀ j,s<j->b j=0)(hl:Gs*ov=un*U)(u0:0<un)(ht:s*(t+1)<=n)
  (hR:∀ k,R k*(B*un^(t+1)*c^(n-s*(t+1)))=L k*c^k*ov^(t+1)*C) (k:Nat):cv R G k*(B*un^t*c^(n-s*t))=cv L b k*(c^k*ov^t*(C*U)):=by
 have st:s*(t+1)=s*t+s:=bC s t;have ec:c^(n-s*t)=c^(n-s*(t+1))*c^s:=by
  rw [← cy];congr 1;omega
 have key:cv R G k*(B*un^(t+1)*c^(n-s*(t+1))*c^s)=cv L b k*(c^k*ov^(t+1)*C*Gs):=by
  rw [K3,K3];refine qT λj hj=>?_;rcases ar s (k-j) with z|z
  ·rw [hG _ z,hb0 _ z];simp
  ·have e1:=hR j;have e2:=hb (k-j) z;have e3:c^s=c^(s-(k-j))*c^(k-j):=by
    rw [← cy];congr 1;omega
   have e4:c^k=c^j*c^(k-j):=by
    rw [← cy];congr 1;omega
   rw [e3,e4];generalize c^(s-(k-j))=x at *;generalize c^(k-j)=y at *;generalize B*un^(t+1)*c^(n-s*(t+1))=w at *;generalize ov^(t+1)=v at *;generalize c^j=cj at *
   calc R j*G (k-j)*(w*(x*y))=(R j*w)*(G (k-j)*x)*y:=by grind
    _=L j*b (k-j)*(cj*y*v*C*Gs):=by rw [e1,← e2];grind
 refine aH (ax u0) ?_
 calc cv R G k*(B*un^t*c^(n-s*t))*un=cv R G k*(B*un^(t+1)*c^(n-s*(t+1))*c^s):=by rw [ec,aV];grind
  _=cv L b k*(c^k*ov^(t+1)*C*Gs):=key
  _=cv L b k*(c^k*ov^t*(C*U))*un:=by
   rw [aV];have:cv L b k*(c^k*(ov^t*ov)*C*Gs)=cv L b k*(c^k*ov^t*C)*(Gs*ov):=by grind
   rw [this,hl];grind
theorem HX{E C U p2 X Y w:Int}(h:X*E=Y*(w*(C*U))){p D:Int}(hp:p*E=D*w*p2):(X*p2+p*(C*U))*E=(D+Y)*w*(C*U*p2):=by
 calc (X*p2+p*(C*U))*E=(X*E)*p2+(p*E)*(C*U):=by grind
  _=(D+Y)*w*(C*U*p2):=by rw [h,hp];grind
end Dg
namespace Dp
open PySem L2
theorem sC{z:Int}{M:Nat}(h:Lt2 M z){k m:Nat}(hk:k<=m):Lt2 (M*m+1) (z^k):=(Hv.rA h k).mono (gy (ai _ hk) 1)
end Dp
namespace Dp
open PySem L2
theorem tw(ts:List Int):(sj (ts.map D.int)).length=ts.length:=by simp [sj]
end Dp
namespace Dp
open PySem L2
theorem Dr{b r:Int}(hb:0<b)(hr:0<r):0<b*r.fdiv (Fr.cp b r)/\r∣b*r.fdiv (Fr.cp b r):=by
 have g0:=tz (a:=b) (b:=r) (by omega);obtain⟨g1,g2⟩:=tZ b r;obtain⟨e,q0,_⟩:=rj g0 hr g2;refine⟨az hb q0,?_⟩;obtain⟨c,hc⟩:=g1;refine⟨c,?_⟩;generalize r.fdiv (Fr.cp b r)=q at *;generalize Fr.cp b r=g at *;subst hc e;grind
abbrev HM(fs:List (Int×Int)):List D:=fs.map λf=>fD f.1 f.2
theorem Al{fs:List (Int×Int)}{i:Nat}{d:D}(h:(HM fs)[i]? = some d):∃ f,fs[i]? = some f/\d=fD f.1 f.2:=by
 rw [aJ] at h;obtain⟨p,hp,rfl⟩:=ab.mp h;exact⟨p,hp,rfl⟩
end Dp
namespace Dp
open PySem L2
def Sq(x:D)(A:List Int):Prop:=x = .lst (A.map .int)\/x = .tup (A.map .int)
theorem Sq.it{x:D}{A:List Int}(h:Sq x A):∀ R:List D->Prop,R (A.map .int)->itemsD x R:=λR r=>by
 rcases h with rfl|rfl
 ·exact r
 ·exact r
def jl:SpB:=.of 2 (α:=D×D×List Int×List Int) (λ(x,y,A,B) ds=>ds=[x,y]/\Sq x A/\Sq y B/\A.length<=1000/\B.length<=1000)
 (λ(x,y,A,B) d=>∃ rs:List Int,d = .lst (rs.map .int)/\rs.length=max A.length B.length/\∀ k,rs.getD k 0=A.getD k 0+B.getD k 0)
def kw:TSd:=(hJ [4] (gQ 4))
def ky:TSd:=dSq (iA [] (iN (gQ 3)) (gTp [5,6])
 (kX [] 4 (gQ 5) .Add (gQ 6)))
 kw
def ip:TSd:=dSq (jC [] 4 (ja (gQ 2)))
 ky
def lV:TSd:=dSq (gV [] (gTp [2,3]) (pj (g9 (il .GtE (dB bLen bLen.mono (gP (gQ 0) gR)) (dB bLen bLen.mono (gP (gQ 1) gR)))) (g7 (gP (gQ 0) (gP (gQ 1) gR))) (g7 (gP (gQ 1) (gP (gQ 0) gR)))))
 ip
theorem EZ{s0 s1:SD}{x y:D}{L S:List Int}{Q:D->Prop}(hx:Sq x L)(hy:Sq y S)(hl:S.length<=L.length)(q:∀ rs:List Int,rs.length=L.length->(∀ k,rs.getD k 0=L.getD k 0+S.getD k 0)->Q (.lst (rs.map .int))) :
  ip.run (qX Q) [s0,s1,.val x,.val y,.no,.no,.no]:=by
 refine hx.it _ (hy.it _ ⟨λi s=>∃(o5 o6:SD) (rs:List Int),s=[s0,s1,.val x,.val y,.own (rs.map .int),o5,o6]/\rs.length=L.length/\∀ k,rs.getD k 0=L.getD k 0+(if k<i then S.getD k 0 else 0),⟨.no,.no,L,rfl,rfl,λk=>by rw [if_neg (by omega),bQ]⟩,?_,?_⟩)
 ·rintro i d _ hd ⟨o5,o6,rs,rfl,lr,hr⟩;obtain⟨hi,rfl⟩:=rP hd;refine⟨rfl,by show (0:Int)<=((i:Nat):Int);omega,?_⟩;refine xh (d:=.int (rs.getD i 0)) (rB (ts:=rs) (i:=i) (by omega)) ⟨.val (.int (i:Nat)),.val (.int (S.getD i 0)),rs.set i (rs.getD i 0+S.getD i 0),?_,by rw [bj,lr],λk=>?_⟩
  ·show [s0,s1,.val x,.val y,.own ((rs.map D.int).set i (.int (rs.getD i 0+S.getD i 0))),.val (.int (i:Nat)),.val (.int (S.getD i 0))]=_;rw [map_set]
  ·rw [Bz (by omega)];by_cases e:k=i
   ·rw [if_pos e,e,hr i,if_neg (by omega),if_pos (by omega)];omega
   ·rw [if_neg e,hr k];by_cases c:k<i
    ·rw [if_pos c,if_pos (by omega)]
    ·rw [if_neg c,if_neg (by omega)]
 ·rintro _ ⟨o5,o6,rs,rfl,lr,hr⟩;refine q rs lr λk=>?_;have h:=hr k;rw [tw] at h;rw [h];by_cases c:k<S.length
  ·rw [if_pos c]
  ·rw [if_neg c,qG (fs:=S) (by omega)]
theorem j7:Does 7 lV jl:=by
 rintro ds Q hn ⟨⟨x,y,A,B⟩,⟨rfl,hx,hy,la,lb⟩,q⟩;dsimp only at hx hy la lb q;have g1:B.length<=A.length->ip.run (qX Q) [.val x,.val y,.val x,.val y,.no,.no,.no]:=λc=>EZ hx hy c λrs lr hr=>q _ ⟨rs,rfl,by rw [lr];omega,hr⟩;have g2:A.length<=B.length->ip.run (qX Q) [.val x,.val y,.val y,.val x,.no,.no,.no]:=λc=>EZ hy hx c λrs lr hr=>q _ ⟨rs,rfl,by rw [lr];omega,λk=>by rw [hr k];omega⟩;have key:(if decide ((((B.map D.int).length:Nat):Int)<=(((A.map D.int).length:Nat):Int))=true then (2<=sizeLine/\2=2/\ip.run (qX Q) [.val x,.val y,.val x,.val y,.no,.no,.no]) else (2<=sizeLine/\2=2/\ip.run (qX Q) [.val x,.val y,.val y,.val x,.no,.no,.no])):=by
  refine vG (λc=>⟨rJ,rfl,g1 ?_⟩) (λc=>⟨rJ,rfl,g2 ?_⟩)
  ·rw [aa,aa] at c;omega
  ·rw [aa,aa] at c;omega
 rcases hx with rfl|rfl <;> rcases hy with rfl|rfl <;> exact key
def i6:SpB:=.of 2 (α:=D×D×List Int×List Int×Nat×Nat) (λ(x,y,A,B,n,m) ds=>ds=[x,y]/\Sq x A/\Sq y B/\A.length<=450/\B.length<=450/\(∀ i,Lt2 n (A.getD i 0))/\(∀ i,Lt2 m (B.getD i 0))/\n+m<=100000000)
 (λ(x,y,A,B,n,m) d=>∃ rs:List Int,d = .lst (rs.map .int)/\rs.length<=A.length+B.length/\∀ k,rs.getD k 0=Cv.cv (Cv.fn A) (Cv.fn B) k)
def jQ:TSd:=(hJ [2] (gQ 2))
def iF:TSd:=dSq (iA [] (iN (gQ 0)) (gTp [3,4])
 (iA [] (iN (gQ 1)) (gTp [5,6])
 (kX [] 2 (gU .Add (gQ 3) (gQ 5)) .Add (gU .Mult (gQ 4) (gQ 6)))))
 jQ
def jR:TSd:=dSq (jC [] 2 (gU .Mult (ir (gP (dC (.int 0)) gR)) (gU .Sub (gU .Add (dB bLen bLen.mono (gP (gQ 0) gR)) (dB bLen bLen.mono (gP (gQ 1) gR))) (dC (.int 1)))))
 iF
def kz:TSd:=dSq (dIf [] (mJ (ju (kb (gQ 0))) (ju (kb (gQ 1))))
 (hJ [] (ir gR))
 ii)
 jR
theorem HY{x y:D}{A B:List Int}{n m:Nat}{Q:D->Prop}(hx:Sq x A)(hy:Sq y B)(a0:0<A.length)(b0:0<B.length)(hA:∀ i,Lt2 n (A.getD i 0))(hB:∀ i,Lt2 m (B.getD i 0))(hnm:n+m<=100000000)(q:∀ rs:List Int,rs.length<=A.length+B.length->(∀ k,rs.getD k 0=Cv.cv (Cv.fn A) (Cv.fn B) k)->Q (.lst (rs.map .int))) :
  iF.run (qX Q) [.val x,.val y,.own ((List.replicate (A.length+B.length-1) (0:Int)).map .int),.no,.no,.no,.no]:=by
 refine hx.it _ ⟨λi s=>∃(rs:List Int) (o3 o4 o5 o6:SD),s=[.val x,.val y,.own (rs.map .int),o3,o4,o5,o6]/\rs.length=A.length+B.length-1/\∀ k,rs.getD k 0=Cv.tm (Cv.fn A) (Cv.fn B) i k,⟨_,_,_,_,_,rfl,bW,λk=>vb _ _⟩,?_,?_⟩
 ·rintro i d _ hd ⟨rs,o3,o4,o5,o6,rfl,lr,hr⟩;obtain⟨hi,rfl⟩:=rP hd;refine⟨rfl,hy.it _ ⟨λk s=>∃(rs:List Int) (o5 o6:SD),s=[.val x,.val y,.own (rs.map .int),.val (.int (i:Nat)),.val (.int (A.getD i 0)),o5,o6]/\rs.length=A.length+B.length-1/\∀ m,rs.getD m 0=Cv.tm (Cv.fn A) (Cv.fn B) i m+(if i<=m/\m-i<k then Cv.fn A i*Cv.fn B (m-i) else 0),⟨rs,_,_,rfl,lr,λm=>by rw [hr m,if_neg (by omega),bQ]⟩,?_,?_⟩⟩
  ·rintro k d _ hd ⟨rs',o5',o6',rfl,lr',hr4⟩;obtain⟨hk,rfl⟩:=rP hd;have hiF:i+k<rs'.length:=by omega
   refine⟨rfl,by show (0:Int)<=(i:Int)+(k:Int);omega,?_⟩;refine xh (d:=.int (rs'.getD (i+k) 0)) (rB (ts:=rs') (i:=i+k) hiF) ⟨⟨n,m,hA i,hB k,hnm⟩,rs'.set (i+k) (rs'.getD (i+k) 0+A.getD i 0*B.getD k 0),.val (.int (k:Nat)),.val (.int (B.getD k 0)),?_,by rw [bj];exact lr',λm=>?_⟩
   ·show [SD.val x,.val y,.own ((rs'.map D.int).set (i+k) (.int (rs'.getD (i+k) 0+A.getD i 0*B.getD k 0))),.val (.int (i:Nat)),.val (.int (A.getD i 0)),.val (.int (k:Nat)),.val (.int (B.getD k 0))]=_;rw [map_set]
   ·rw [t7 hiF];by_cases e:m=i+k
    ·subst e;rw [if_pos rfl,hr4,if_neg (by omega),if_pos ⟨by omega,by omega⟩,show i+k-i=k by omega,bQ];rfl
    ·rw [if_neg e,hr4];congr 1;by_cases c:i<=m/\m-i<k
     ·rw [if_pos c,if_pos ⟨c.1,by omega⟩]
     ·rw [if_neg c,if_neg (by omega)]
  ·rintro _ ⟨rs',o5',o6',rfl,lr',hr4⟩;rw [qZ,aa] at hr4;refine⟨rs',_,_,_,_,rfl,lr',λm=>?_⟩;rw [hr4 m,Cv.wp];congr 1;by_cases c:i<=m
   ·rw [if_pos c];by_cases c':m-i<B.length
    ·rw [if_pos ⟨c,c'⟩]
    ·rw [if_neg (λz=>c' z.2),Cv.qJ (P:=B) (by omega),bJ]
   ·rw [if_neg c,if_neg (λz=>c z.1)]
 ·rintro _ ⟨rs,o3,o4,o5,o6,rfl,lr,hr⟩;rw [qZ,aa] at hr;exact q rs (by omega) λk=>by rw [hr k,Cv.sW λj h=>Cv.qJ h]
theorem jH:Does 7 kz i6:=by
 rintro ds Q hn ⟨⟨x,y,A,B,n,m⟩,⟨rfl,hx,hy,la,lb,hA,hB,hnm⟩,q⟩;dsimp only at hx hy la lb hA hB hnm q;have none:(A=[]\/B=[])->0<=sizeLine/\Q (.lst []):=λh=>⟨aB _,q _ ⟨[],rfl,aB _,λk=>by
  rcases h with rfl|rfl
  ·exact (Cv.uI λ_=>rfl).symm
  ·exact (Cv.C4 λ_=>rfl).symm⟩⟩
 cases A with
 | nil=>rcases hx with rfl|rfl <;> exact none (.inl rfl)
 | cons a A =>
  cases B with
  | nil=>rcases hx with rfl|rfl <;> rcases hy with rfl|rfl <;> exact none (.inr rfl)
  | cons b B =>
   have go:=HY (Q:=Q) hx hy (f7 _) (f7 _) hA hB hnm λrs lr hr=>q _ ⟨rs,rfl,lr,hr⟩;have e0:((((a::A).map D.int).length:Nat):Int)+((((b::B).map D.int).length:Nat):Int)-1=(((a::A).length+(b::B).length-1:Nat):Int):=by
    rw [aa,aa,a7,a7];omega
   have lN:(a::A).length+(b::B).length-1<=1000:=by omega
   have key:1<=sizeLine /\ -(2^63)<=((((a::A).map D.int).length:Nat):Int)+((((b::B).map D.int).length:Nat):Int)-1/\((((a::A).map D.int).length:Nat):Int)+((((b::B).map D.int).length:Nat):Int)-1<2^63/\1*(((((a::A).map D.int).length:Nat):Int)+((((b::B).map D.int).length:Nat):Int)-1).toNat<=sizeLine /\
     iF.run (qX Q) [.val x,.val y,.own (List.replicate (((((a::A).map D.int).length:Nat):Int)+((((b::B).map D.int).length:Nat):Int)-1).toNat [D.int 0]).flatten,.no,.no,.no,.no]:=by
    rw [e0,aS,va];generalize (a::A).length+(b::B).length-1=z at *;exact⟨Ar,by omega,by omega,sE (by omega),go⟩
   rcases hx with rfl|rfl <;> rcases hy with rfl|rfl <;> exact key
end Dp
namespace Dp
open PySem L2
theorem GR{A:List Int}{c:Int}(k:Nat):(A.map λz=>z*c).getD k 0=A.getD k 0*c:=by
 rw [ac,ac,aJ];cases A[k]? <;> simp
end Dp
namespace Dp
open PySem L2
theorem ri{a b:Int}:((a*b:Int):Rat)=(a:Rat)*(b:Rat):=aw a b
end Dp
namespace Dp
open PySem L2
theorem C5{A P:List Int}{n m:Nat}(hA:∀ k,Lt2 n (A.getD k 0))(hP:∀ k,Lt2 m (P.getD k 0))(la:A.length<=250)(lp:P.length<=250)(k:Nat):Lt2 (n+m+9) (Cv.cv (Cv.fn A) (Cv.fn P) k):=by
 rcases ar k 510 with z|z
 ·exact Cv.Af (b:=9) hA hP (by omega)
 ·rw [Cv.rH (a:=A.length) (b:=P.length) (λj hj=>Cv.qJ hj) (λj hj=>Cv.qJ hj) (by omega)];exact uL _
def pQ:SpB:=.of 2 (α:=List Int×Int×List Int×Int×Nat×Nat×Nat×Nat) (λ(P,B,P',B',n,b,m,c) ds=>ds=[pD P B,pD P' B']/\Pc.Pz n b P B/\Pc.Pz m c P' B'/\b+c*P.length<=8900000/\n+(m+c+10)*(P.length+1)<=90000000/\P.length*P'.length<=190/\P.length<=190/\P'.length<=190)
 (λ(P,B,P',B',n,b,m,c) d=>∃ R C,d=pD R C/\Pc.Of P B P' B' R C)
def pX:TSd:=(hJ [] (gS iI (gP (iz (iG (gQ 6)) [8] (gNm 8) iQ (gU .Mult (gQ 8) (gQ 5))) (gP (gU .Mult (gQ 3) (gQ 7)) gR))))
def pY:TSd:=dSq (iA [] (kW (gQ 2)) (gNm 8)
 (dSq (gV [] (gNm 6) (gS jl (gP (gS i6 (gP (gQ 6) (gP (gQ 4) gR))) (gP (ir (gP (gU .Mult (gQ 8) (gQ 7)) gR)) gR))))
 (mK [] 7 .Mult (gQ 5))))
 pX
def pZ:TSd:=dSq (kg [] 6 7 (ir gR) (dC (.int 1)))
 pY
def p8:TSd:=dSq (gV [] (gTp [4,5]) (gQ 1))
 pZ
def qx:TSd:=dSq (gV [] (gTp [2,3]) (gQ 0))
 p8
theorem pR:Does 9 qx pQ:=by
 rintro ds Q hn ⟨⟨P1,B1,P2,B2,n,b,m,c⟩,⟨rfl,G1,G2,hb,hn,hl,l1,l2⟩,q⟩;dsimp only at G1 G2 hb hn hl l1 l2 q;have p1:=G1.fm.pos;have p2:=G2.fm.pos;have hL:(m+c+10)*P1.length+(m+c+10)=(m+c+10)*(P1.length+1):=by rw [bC]
 have hg:∀ k,P2.length<=k->Cv.fn P2 k=0:=λk h=>Cv.qJ h;refine⟨rfl,rfl,aB _,λi s=>∃(rs:List Int) (o:SD),s=[.val (pD P1 B1),.val (pD P2 B2),.val (.tup (P1.map .int)),.val (.int B1),.val (.tup (P2.map .int)),.val (.int B2),.val (.lst (rs.map .int)),.val (.int (B2^i)),o]/\rs.length<=i*P2.length+1/\(∀ k,Lt2 (n+(m+c+10)*i+1) (rs.getD k 0))/\∀ k,Pc.pc (Cv.fn P1) (Cv.fn P2) B2 P1.length k=B2^i*Pc.pc (Cv.fn P1) (Cv.fn P2) B2 (P1.length-i) k+B2*Cv.cv (Pc.cp (Cv.fn P2) (P1.length-i)) (Cv.fn rs) k,
  ⟨[],.no,by rw [aU];rfl,aB _,λk=>by rw [qG (fs:=([]:List Int)) (aB _)];exact uL _,λk=>by rw [Cv.C4 λj=>Cv.qJ (aB _)];simp⟩,?_,?_⟩
 ·rintro i d _ hd ⟨rs,o,rfl,lr,sr,hr1⟩;have hd:(P1.map D.int).reverse[i]? = some d:=hd;have hi:i<P1.length:=by have:=(aj.mp hd).1;simpa using this
  rw [bu (by rw [aa];exact hi),aa] at hd;obtain⟨_,rfl⟩:=vi hd;have hp1:=G1.tops (P1.length-1-i);have li:(m+c+10)*(i+1)<=(m+c+10)*P1.length:=ai _ hi;rw [bC] at li;have li2:(i+1)*P2.length<=P1.length*P2.length:=bq _ hi;rw [a9] at li2;have li3:c*i<=(m+c+10)*i:=bq _ (by omega);have ls:=Hv.rA G2.bot i;refine⟨rfl,(_,_,rs,P2,n+(m+c+10)*i+1,m),⟨rfl,.inl rfl,.inr rfl,by show rs.length<=450;omega,by show P2.length<=450;omega,sr,G2.tops,by show n+(m+c+10)*i+1+m<=100000000;omega⟩,?_⟩;rintro _ ⟨qs,rfl,lq,hq⟩;have lq:qs.length<=rs.length+P2.length:=lq;refine⟨⟨_,_,hp1,ls,by omega⟩,Ar,rfl,(_,_,qs,[P1.getD (P1.length-1-i) 0*B2^i]),⟨rfl,.inl rfl,.inl rfl,by show qs.length<=1000;omega,by show 1<=1000;decide⟩,?_⟩;rintro _ ⟨ws,rfl,lw,hw⟩;have lw:ws.length=max qs.length 1:=lw;have hw0:∀ j,Cv.fn ws j=Cv.cv (Cv.fn rs) (Cv.fn P2) j+(if j=0 then Cv.fn P1 (P1.length-1-i)*B2^i else 0):=λj=>by
   have e:ws.getD j 0=qs.getD j 0+[P1.getD (P1.length-1-i) 0*B2^i].getD j 0:=hw j;rw [hq j] at e;cases j with
   | zero=>exact e
   | succ j=>rw [if_neg (by omega)];rw [qG (fs:=[P1.getD (P1.length-1-i) 0*B2^i]) (by simp)] at e;exact e
  refine⟨⟨_,_,ls,G2.bot,by omega⟩,ws,_,by rw [aV];rfl,?_,λk=>?_,λk=>?_⟩
  ·rw [a9];omega
  ·show Lt2 _ (Cv.fn ws k);rw [hw0 k];have y1:Lt2 (n+(m+c+10)*i+1+m+9) (Cv.cv (Cv.fn rs) (Cv.fn P2) k):=C5 sr G2.tops (by omega) (by omega) k;have y2:Lt2 (n+(m+c+10)*i+1+m+9) (if k=0 then Cv.fn P1 (P1.length-1-i)*B2^i else 0):=by
    split
    ·exact (hp1.mul ls).mono (by omega)
    ·exact uL _
   exact (y1.add y2).mono (by rw [bC];omega)
  ·exact Pc.CH hg hi hr1 _ hw0
 ·rintro _ ⟨rs,o,rfl,lr,sr,hr1⟩;rw [aN,aa] at lr sr hr1 ⊢;have hr2:∀ k,Pc.pc (Cv.fn P1) (Cv.fn P2) B2 P1.length k=B2*rs.getD k 0:=λk=>by
   rw [hr1 k,bc];show _*0+B2*Cv.cv Pc.d0 (Cv.fn rs) k=_;rw [Pc.xO,bJ,bT];rfl
  have ls:=Hv.rA G2.bot P1.length;have Y:=az p1 (Hv.pow_pos p2 P1.length);refine⟨(congrArg (· <= sizeLine) (aa _)).mpr (sE (by omega)),mI (λz=>z*B2) rs,mI.nil,λi d ys hd _ hy=>?_,λys _ hy=>?_⟩
  ·obtain⟨z,hz,rfl⟩:=uT hd;have e:rs.getD i 0=z:=rf hz;exact⟨⟨_,_,e ▸ sr i,G2.bot,by omega⟩,hy.snoc hz rfl⟩
  cases hy.all (by rw [aa]);refine⟨⟨_,_,G1.bot,ls,by omega⟩,rfl,(rs.map (λz=>z*B2),B1*B2^P1.length),⟨rfl,Y,(G1.bot.mul ls).mono (by omega),by show (rs.map _).length<=1000;rw [aa];omega⟩,?_⟩;rintro _ ⟨R,C,rfl,fm,hw,hle⟩;refine q _ ⟨R,C,rfl,fm,λk=>?_⟩;have h:R.getD k 0*(B1*B2^P1.length)=(rs.map λz=>z*B2).getD k 0*C:=hw k;rw [h,GR,hr2 k,bh B2]
end Dp
namespace Dp
open PySem L2
variable{P:Program}{w:World}{K:Frag}{mg:Str->Option Value}{base:Heap}
def sF(K:Frag)(n:Nat):Sp:=λvs H Q _=>∃(d:DV) (x y:V),vs=[x,y]/\Rep K H d x/\Rep K H d y/\d.dp<n/\d.wd<=100000/\∀ H',Same H H'->Q (.bl true) H'
def iy(n:Nat):SpB:=.of 2 (α:=D) (λd ds=>ds=[d,d]/\d.pl=true/\d.dp<n/\d.dv.wd<=100000) (λ_ r=>r = .bl true)
theorem y4{n k:Nat}{ps:List Str}(g:Def P w K mg base "_law_alike" k ps (sF K n)):Def P w K mg base "_law_alike" k ps (xl K (iy n).n (iy n).run):=by
 obtain⟨f,fd,F,r⟩:=g.ex;refine⟨f,fd,F.imp (λvs H Q E h=>?_),r⟩;obtain⟨hn,f,O,ds,fl,fO,al,lO,rp,d,⟨rfl,hp,hd,hw⟩,q⟩:=h;obtain⟨v,v',rfl,e1,e2⟩:=Rps.two rp;exact⟨d.dv,v,v',rfl,Rp.rep hp e1,Rp.rep hp e2,by rw [D.dv_dp];exact hd,hw,λH' s=>q (.bl true) rfl _ H' ⟨s.sm,fl.same s⟩ rfl⟩
end Dp
namespace Qp
open L2 Cv Hv Pc
def tc(r:Rat):Nat->Nat->Rat
 | 0,k=>if k=0 then 2 else 0
 | 1,k=>if k=1 then 1 else 0
 | n+2,k=>(if k=0 then 0 else tc r (n+1) (k-1))-tc r n k*r
theorem tc.two(r:Rat)(n k:Nat):tc r (n+2) k=(if k=0 then 0 else tc r (n+1) (k-1))-tc r n k*r:=by rw [tc]
def er(f:Nat->Rat)(x:Rat):Nat->Rat
 | 0=>0
 | n+1=>er f x n+f n*x^n
theorem Hh{P:List Int}{B:Int}{f:Nat->Rat}(h:∀ k,q P B k=f k)(x:Rat):∀ n,er f x n=ei (fn P) x n / (B:Rat)
 | 0=>by unfold er ei;grind
 | n+1=>by
  rw [er,ei,Hh h x n,← h n];show _+(((P.getD n 0:Int):Rat) / (B:Rat))*_=(_+((P.getD n 0:Int):Rat)*_) / _;grind
theorem yh{t u:Int}{M:Nat}(u0:0<u)(lt:Lt2 M t)(lu:Lt2 M u):∀ n:Nat,∃ F:Nat->Int,(∀ k,tc ((t:Rat) / (u:Rat)) n k=((F k:Int):Rat) / ((u^n:Int):Rat))/\(∀ k,Lt2 ((2*M+1)*n+2) (F k))/\∀ k,n<k->F k=0
 | 0=>⟨λk=>if k=0 then 2 else 0,λk=>by
   rw [aU];show (if k=0 then (2:Rat) else 0)=(((if k=0 then 2 else 0):Int):Rat) / _;by_cases c:k=0
   ·rw [if_pos c,if_pos c];show (2:Rat)=(2:Rat) / 1;grind
   ·rw [if_neg c,if_neg c];show (0:Rat)=(0:Rat) / 1;grind,λk=>by
   show Lt2 _ (if k=0 then 2 else 0);split
   ·exact (show Lt2 2 2 by unfold Lt2;decide).mono (by omega)
   ·exact bG (by decide),λk hk=>if_neg (by omega)⟩
 | 1=>⟨λk=>if k=1 then u else 0,λk=>by
   rw [aV,aU,bV];show (if k=1 then (1:Rat) else 0)=(((if k=1 then u else 0):Int):Rat) / _;have:=qF u0;by_cases c:k=1
   ·rw [if_pos c,if_pos c];grind
   ·rw [if_neg c,if_neg c];show (0:Rat)=(0:Rat) / (u:Rat);grind,λk=>by
   show Lt2 _ (if k=1 then u else 0);split
   ·exact lu.mono (by omega)
   ·exact bG (by decide),λk hk=>if_neg (by omega)⟩
 | n+2=>by
  obtain⟨F,f1,f2,f3⟩:=yh u0 lt lu (n+1);obtain⟨G,g1,g2,g3⟩:=yh u0 lt lu n;have nu:=qF u0;have np:=tS nu n;have s2:Lt2 (2*M) (t*u):=(lt.mul lu).mono (by omega);refine⟨λk=>(if k=0 then 0 else F (k-1))*u-G k*(t*u),λk=>?_,λk=>?_,λk hk=>?_⟩
  ·rw [tc.two,g1 k];simp only [fj,aw,cF];have e1:(u:Rat)^(n+2)=(u:Rat)^n*u*u:=by grind
   have e2:(u:Rat)^(n+1)=(u:Rat)^n*u:=by grind
   by_cases c:k=0
   ·rw [if_pos c,if_pos c,e1];have:((0:Int):Rat)=0:=rfl;rw [this];generalize (u:Rat)^n=w at *;grind
   ·rw [if_neg c,if_neg c,f1 (k-1),cF,e1,e2];generalize (u:Rat)^n=w at *;grind
  ·have a:Lt2 ((2*M+1)*(n+1)+2+M) ((if k=0 then 0 else F (k-1))*u):=by
    refine Lt2.mul ?_ lu;split
    ·exact bG (by decide)
    ·exact f2 _
   have b:=(g2 k).mul s2;refine ((a.mono (m:=(2*M+1)*n+2+(2*M)+(M+1)) ?_).sub (b.mono ?_)).mono ?_ <;> grind
  ·show (if k=0 then 0 else F (k-1))*u-G k*(t*u)=0;rw [if_neg (by omega),f3 (k-1) (by omega),g3 k (by omega)];simp
end Qp
namespace Dp
open PySem L2
theorem LB{P R:List Int}{B C:Int}(p:0<B)(c:0<C)(h:∀ k,R.getD k 0*(1*B)=Cv.cv (Cv.fn Pc.X) (Cv.fn P) k*C)(k:Nat):Qp.q R C k=if k=0 then 0 else Qp.q P B (k-1):=by
 rw [Qp.wz (f:=λk=>Cv.cv (Cv.fn Pc.X) (Cv.fn P) k) c (by omega) h k,Cv.so,Pc.Jm (Cv.fn P) k,bV];by_cases e:k=0
 ·rw [if_pos e,if_pos e];show (0:Rat) / _=0;grind
 ·rw [if_neg e,if_neg e];rfl
def Tk(r:Rat)(n:Nat)(P:List Int)(B:Int):Prop:=Po.Fm P B/\∀ k,Qp.q P B k=Qp.tc r n k
theorem Tk.pz{r:Rat}{n M:Nat}{P:List Int}{B:Int}{d:D}(h:Tk r n P B)(f:FqD M M d r):Pc.Pz ((2*M+1)*n+2) (M*n+1) P B/\P.length<=n+1:=by
 obtain⟨t,u,_,u0,_,lt,lu,rfl⟩:=f;obtain⟨F,f1,f2,f3⟩:=Qp.yh u0 lt lu n;have p:0<u^n:=bB u0;have hw:∀ k,P.getD k 0*u^n=F k*B:=λk=>(Qp.rG (ax h.1.pos) (ax p)).mp ((h.2 k).trans (f1 k));exact⟨Pc.Pz.of h.1 p hw f2 (Hv.rA lu n),Pc.rh h.1 p hw λk hk=>f3 k (by omega)⟩
theorem Tk.szs{r:Rat}{n M:Nat}{P:List Int}{B:Int}{d:D}(h:Tk r n P B)(f:FqD M M d r)(hM:M<=21)(hn:n<=13):Pc.Pz 570 280 P B/\P.length<=14:=by
 obtain⟨a,b⟩:=h.pz f;have:M*n<=21*13:=aX hM hn;have:(2*M+1)*n<=43*13:=aX (by omega) hn;exact⟨a.mono (by omega) (by omega),by omega⟩
theorem Tk.zero{r:Rat}:Tk r 0 [2] 1:=⟨⟨by decide,.inr (by decide),by decide⟩,λk=>by
 cases k with
 | zero=>show (2:Rat) / 1=2;grind
 | succ k=>show ((([2]:List Int).getD (k+1) 0:Int):Rat) / ((1:Int):Rat)=0;rw [bN,qG (aB _)];show (0:Rat) / 1=0;grind⟩
theorem Tk.one{r:Rat}:Tk r 1 Pc.X 1:=⟨Pc.Du.fm,λk=>by
 match k with
 | 0=>show (0:Rat) / 1=0;grind
 | 1=>show (1:Rat) / 1=1;grind
 | k+2 =>
  rw [Qp.sQ (by show 2<=k+2;omega)];show 0=if k+2=1 then 1 else 0;rw [if_neg (by omega)]⟩
end Dp
namespace Dp
open PySem L2
def p9:SpB:=.of 2 (α:=D×D×Rat×Rat×Nat×Nat×Nat×Nat) (λ(d1,d2,r1,r2,n1,b1,n2,b2) ds=>ds=[d1,d2]/\FqD n1 b1 d1 r1/\FqD n2 b2 d2 r2/\b1+b2<=9000000/\n1+b2<=9000000/\n2+b1<=9000000)
 (λ(d1,d2,r1,r2,n1,b1,n2,b2) d=>FqD (n1+b2+(n2+b1)+1) (b1+b2) d (r1+r2))
def io:SpB:=.of 2 (α:=D×D×Rat×Rat×Nat×Nat×Nat×Nat) (λ(d1,d2,r1,r2,n1,b1,n2,b2) ds=>ds=[d1,d2]/\FqD n1 b1 d1 r1/\FqD n2 b2 d2 r2/\b1+b2<=9000000/\n1+n2<=9000000)
 (λ(d1,d2,r1,r2,n1,b1,n2,b2) d=>FqD (n1+n2) (b1+b2) d (r1*r2))
def mV:TSd:=(hJ [] (gS iq (gP (gU .Mult (dIx (gQ 0) (dC (.int 0))) (dIx (gQ 1) (dC (.int 0)))) (gP (gU .Mult (dIx (gQ 0) (dC (.int 1))) (dIx (gQ 1) (dC (.int 1)))) gR))))
theorem kQ:Does 2 mV io:=by
 rintro ds Q hn ⟨⟨d1,d2,r1,r2,n1,b1,n2,b2⟩,⟨rfl,⟨t1,u1,rfl,p1,g1,lt1,lu1,rfl⟩,⟨t2,u2,rfl,p2,g2,lt2,lu2,rfl⟩,hb,h1⟩,q⟩;dsimp only at hb h1 q;have p12:=az p1 p2;refine⟨⟨_,_,lt1,lt2,by omega⟩,⟨_,_,lu1,lu2,by omega⟩,rfl,(t1*t2,u1*u2),⟨rfl,ax p12,(lu1.mul lu2).mono hb⟩,?_⟩;rintro _ rfl;have f:=FqD.of (t:=t1*t2) (u:=u1*u2) p12 (lt1.mul lt2) (lu1.mul lu2);refine q _ ?_;have h3:(u1:Rat)≠0:=Qp.qF p1;have h4:(u2:Rat)≠0:=Qp.qF p2;have e:((t1*t2:Int):Rat) / ((u1*u2:Int):Rat)=(t1:Rat) / (u1:Rat)*((t2:Rat) / (u2:Rat)):=by
  rw [ri,ri];grind
 rw [← e];exact f
end Dp
namespace Dp
open PySem L2
def g8:SpB:=.of 2 (α:=Nat×D×Rat×Nat) (λ(n,d,r,M) ds=>ds=[.int n,d]/\FqD M M d r/\M<=21/\1<=n/\n<=12) (λ(n,d,r,M) e=>∃ P B,e=pD P B/\Tk r n P B)
def kA:TSd:=(hJ [] (jB 2 (gQ 0)))
def kB:TSd:=dSq (iA [] (je (gU .Sub (gQ 0) (dC (.int 1)))) (gNm 3)
 (dSq (gV [] (gNm 4) (gS ia (gP (jB 2 (jP (dC (.int 2)))) (gP (gS iu (gP (ir (gP (gU .Sub (dC (.int 0)) (dIx (gQ 1) (dC (.int 0)))) gR)) (gP (dIx (gQ 1) (dC (.int 1))) gR))) gR))))
 (kh [] 2 (gS j3 (gP (gS ia (gP (g7 (gP (g7 (gP (dC (.int 0)) (gP (dC (.int 1)) gR))) (gP (dC (.int 1)) gR))) (gP (jB 2 (jP (dC (.int 1)))) gR))) (gP (gQ 4) gR))))))
 kA
def lX:TSd:=dSq (jC [] 2 (ir (gP (g7 (gP (g7 (gP (dC (.int 2)) gR)) (gP (dC (.int 1)) gR))) (gP (g7 (gP (g7 (gP (dC (.int 0)) (gP (dC (.int 1)) gR))) (gP (dC (.int 1)) gR))) gR))))
 kB
theorem CN(a y b c:Rat)(n1:b≠0)(n2:c≠0):a*y / (b*c)=a / b*(y / c):=by grind
theorem Bh(t u:Rat):(0-t) / u=0-t / u:=by grind
theorem DU{P S R:List Int}{B U C t u:Int}(b0:0<B)(b8:0<U)(c0:0<C)(u0:0<u)(w:S.getD 0 0*u=t*U)(h:∀ k,R.getD k 0*(B*U)=P.getD k 0*S.getD 0 0*C)(k:Nat):Qp.q R C k=Qp.q P B k*((t:Rat) / (u:Rat)):=by
 rw [Qp.wz (f:=λk=>P.getD k 0*S.getD 0 0) c0 (ax (az b0 b8)) h k,aw,aw,CN _ _ _ _ (Qp.qF b0) (Qp.qF b8),(Qp.rG (ax b8) (ax u0)).mpr w];rfl
theorem j8:Does 5 lX g8:=by
 rintro ds Q hn ⟨⟨n,d,r,M⟩,⟨rfl,f,hM,n1,n12⟩,q⟩;dsimp only at f hM n1 n12 q;have en:((n:Int)-1).toNat=n-1:=by omega
 have f':=f;obtain⟨t,u,rfl,u0,g,lt,lu,hr⟩:=f';refine⟨Ar,rJ,rJ,rJ,rJ,by omega,by omega,λi s=>∃(o3 o4:SD) (xs:List D),s=[.val (.int n),.val (fD t u),.own xs,o3,o4]/\xs.length=i+2/\∀(j:Nat) (x:D),xs[j]? = some x->∃ P B,x=pD P B/\Tk r j P B,⟨.no,.no,_,rfl,rfl,λj x hx=>?_⟩,?_,?_⟩
 ·match j,hx with
  | 0,hx =>
   cases hx;exact⟨[2],1,rfl,Tk.zero⟩
  | 1,hx =>
   cases hx;exact⟨[0,1],1,rfl,Tk.one⟩
 ·rintro i d _ hd ⟨o3,o4,xs,rfl,lx,hxs⟩;obtain⟨hi,rfl⟩:=rg hd;have hi:i<n-1:=by omega
  obtain⟨x0,e0⟩:∃ x,xs[i]? = some x:=⟨xs[i]'(by omega),by simp⟩;obtain⟨x1,e1⟩:∃ x,xs[i+1]? = some x:=⟨xs[i+1]'(by omega),by simp⟩;obtain⟨P0,B0,rfl,h0⟩:=hxs i x0 e0;obtain⟨P1,B1,rfl,h1⟩:=hxs (i+1) x1 e1;obtain⟨z0,l0⟩:=h0.szs f hM (by omega);obtain⟨z1,l1⟩:=h1.szs f hM (by omega);have b0:=h0.1.pos;have b1:=h1.1.pos;refine rT (tE (j:=2) (by rw [show i+2-2=i by omega];exact e0) lx (by decide) (by omega)) ⟨Ar,rfl,([0-t],u),⟨.inl rfl,u0,lu.mono (by omega),by show 1<=1000;decide⟩,?_⟩;rintro _ ⟨P8,B8,rfl,f8,w8,l8⟩;have lt':Lt2 M (0-t):=lt.le (by omega);have z8:Pc.Pz M M P8 B8:=Pc.Pz.of f8 u0 w8 (λk=>by
   cases k with
   | zero=>exact lt'
   | succ k=>rw [bN,qG (aB _)];exact uL _) lu
  have l8':P8.length<=1:=l8;refine⟨rfl,(P0,B0,P8,B8,_,_,_,_),⟨rfl,z0,z8,by omega,by omega,by omega,by omega⟩,?_⟩;rintro _ ⟨P9,B9,rfl,f9,w9⟩;have c9:∀ k,Cv.cv (Cv.fn P0) (Cv.fn P8) k=P0.getD k 0*P8.getD 0 0:=Ca.C8 λk hk=>qG (by omega);have b8:=f8.pos;have z9:Pc.Pz 600 310 P9 B9:=(Pc.Pz.of f9 (az b0 b8) w9 (λk=>by rw [c9 k];exact (z0.tops k).mul (z8.tops 0)) (z0.bot.mul z8.bot)).mono (by omega) (by omega);have l9:P9.length<=14:=Pc.rh f9 (az b0 b8) w9 λk hk=>by
   rw [c9 k,qG (by omega),aI]
  have q9:∀ k,Qp.q P9 B9 k=Qp.q P0 B0 k*(0-r):=λk=>by
   rw [DU (t:=0-t) b0 b8 f9.pos u0 (w8 0) (λk=>by rw [w9 k,c9 k]) k,hr,fj];have i0:((0:Int):Rat)=0:=rfl;rw [i0];exact congrArg _ (Bh _ _)
  refine⟨rJ,rJ,rT (tE (j:=1) (by rw [show i+2-1=i+1 by omega];exact e1) lx (by decide) (by omega)) ⟨rfl,(Pc.X,1,P1,B1,1,1,_,_),⟨rfl,Pc.Du,z1,by decide,by decide,(by show 2<=450;decide),by omega⟩,?_⟩⟩;rintro _ ⟨R,C,rfl,fR,wR⟩;have cc:∀ k,Cv.cv (Cv.fn Pc.X) (Cv.fn P1) k=if k=0 then 0 else P1.getD (k-1) 0:=λk=>by
   rw [Cv.so];exact Pc.Jm (Cv.fn P1) k
  have zR:Pc.Pz 570 281 R C:=Pc.Pz.of fR (c:=1*B1) (by omega) wR (λk=>by
   rw [cc k];split
   ·exact uL _
   ·exact z1.tops _) (by rw [bV];exact z1.bot.mono (by decide))
  have lR:R.length<=15:=Pc.rh fR (c:=1*B1) (by omega) wR λk hk=>by
   rw [cc k,if_neg (by omega),qG (by omega)]
  refine⟨rfl,(R,C,P9,B9,_,_,_,_),⟨rfl,zR,z9,by decide,by decide,by omega,by omega⟩,?_⟩;rintro _ ⟨V,W,rfl,fV,wV⟩;have hV:Tk r (i+2) V W:=⟨fV,λk=>by
   rw [Qp.Fb fR.pos f9.pos fV.pos wV k,LB b1 fR.pos wR k,q9 k,h0.2 k,Qp.tc.two];by_cases c:k=0
   ·rw [if_pos c,if_pos c];grind
   ·rw [if_neg c,if_neg c,h1.2 (k-1)];grind⟩
  refine⟨(by rw [lx,sizeLine_eq];omega),_,_,xs++[pD V W],rfl,by rw [aq,lx];rfl,λj x hj=>?_⟩;rcases ar j xs.length with y|y
  ·rw [aR y] at hj;exact hxs j x hj
  ·have ej:j=i+2:=by
    have:=(aj.mp hj).1;rw [aq] at this;simp at this;omega
   subst ej;rw [av (by omega),lx,bc] at hj;cases hj;exact⟨V,W,rfl,hV⟩
 ·rintro _ ⟨o3,o4,xs,rfl,lx,hxs⟩;rw [qQ,en] at lx;obtain⟨x,ex⟩:∃ x,xs[n]? = some x:=⟨xs[n]'(by omega),by simp⟩;obtain⟨P1,B1,rfl,h⟩:=hxs n x ex;exact rl ex (q _ ⟨P1,B1,rfl,h⟩)
theorem BS(P:List Int):D.pls (P.map D.int)=true:=by
 induction P with
 | nil=>rfl
 | cons a P ih=>exact ih
theorem CS(P:List Int):D.dvs (P.map D.int)=P.map DV.int:=by
 induction P with
 | nil=>rfl
 | cons a P ih=>exact congrArg (DV.int a :: ·) ih
theorem A1(P:List Int):D.dps (P.map D.int)=0:=by
 induction P with
 | nil=>rfl
 | cons a P ih=>show max 0 (D.dps (P.map D.int))=0;rw [ih];rfl
theorem II(P:List Int)(B:Int):(pD P B).pl=true:=by
 show (D.pls (P.map D.int) && true)=true;rw [BS];rfl
theorem IJ(P:List Int)(B:Int):(pD P B).dp=2:=by
 show max (D.dps (P.map D.int)+1) 0+1=2;rw [A1];rfl
theorem IH(P:List Int)(B:Int):(pD P B).dv.wd<=max 2 P.length:=by
 have e:(pD P B).dv=DV.tup [.tup (P.map DV.int),.int B]:=by
  show DV.tup [.tup (D.dvs (P.map D.int)),.int B]=_;rw [CS]
 rw [e];exact (IF P B).1
end Dp
namespace Ch
open L2 Cv Hv Pc Qp
abbrev Pl:=List Int×Int
def ld(c:Pl):Rat:=q c.1 c.2 (c.1.length-1)
theorem sh{P1 G S:List Int}{B U D:Int}(f1:Po.Fm P1 B)(f2:Po.Fm G U)(l2:G.length=2)(g1:G.getD 1 0≠0)(h3:3<=P1.length)(o:Of P1 B G U S D):S.length=P1.length/\ld (S,D)=ld (P1,B)*q G U 1^(P1.length-1):=by
 obtain⟨a,b⟩:=IM f1 f2 l2 (by intro e;rw [e] at h3;simp at h3) g1 o;refine⟨a,?_⟩;show q S D (S.length-1)=_;rw [a];exact b
end Ch
namespace Ch
open L2 Cv Hv Pc Qp
theorem tV{P1 G S:List Int}{B U D:Int}(l1:P1.length=2)(n1:P1.getD 1 0≠0)(f1:Po.Fm P1 B)(f2:Po.Fm G U)(h3:3<=G.length)(o:Of P1 B G U S D):S.length=G.length/\ld (S,D)=q P1 B 1*ld (G,U):=by
 have hB:=f1.pos;have hU:=f2.pos;have hD:=o.1.pos;have hW:=az hB hU;have t:=o.two l1 hU;have d0':∀ k,1<=k->d0 k=0:=λk hk=>by show (if k=0 then (1:Int) else 0)=0;rw [if_neg (by omega)]
 have qk:∀ k,1<=k->q S D k=q P1 B 1*q G U k:=λk hk=>by
  have e:=wz (f:=λk=>P1.getD 0 0*d0 k*U+P1.getD 1 0*G.getD k 0) hD (ax hW) t k;rw [e,d0' k hk];have n1:=qF hB;have n2:=qF hU;unfold q;simp only [aw,d8];have z:((0:Int):Rat)=0:=rfl;rw [z];grind
 have ql:ld (G,U)≠0:=sY (P:=G) (B:=U) f2 (by intro e;rw [e] at h3;simp at h3);have qp:q P1 B 1≠0:=by
  unfold q;have a:=rS n1;have b:=qF hB;generalize ((P1.getD 1 0:Int):Rat)=x at *;intro z;grind
 have len:S.length=G.length:=by
  have l1':S.length<=G.length:=rh o.1 hW t λk hk=>by
   rw [d0' k (by omega)];have:G.getD k 0=0:=qJ hk;rw [this];simp
  have l2:G.length-1<S.length:=by
   rcases ar (G.length-1) S.length with z|z
   ·exact z
   ·have e:=qk (G.length-1) (by omega);rw [sQ z] at e;rcases cP.mp e.symm with w|w
    ·exact absurd w qp
    ·exact absurd w ql
  omega
 refine⟨len,?_⟩;show q S D (S.length-1)=_;rw [len];exact qk _ (by omega)
end Ch
namespace Dp
open PySem L2 Ch
abbrev pq(p:Pl):D:=pD p.1 p.2
abbrev cD(cs:List Pl):D:=.tup (cs.map pq)
end Dp
namespace Dp
open PySem L2 Ch
theorem yx{a:Rat}(h:a≠0):1 / a≠0:=by
 intro z;have:a*(1 / a)=1:=by grind
 rw [z,Rat.mul_zero] at this;exact absurd this (by decide)
end Dp
namespace Dp
open PySem L2 Ch
theorem H8(p s a B:Rat)(nb:B≠0)(na:a≠0)(hs:s*s=1)(ha:a*s≠0):(0-p*s) / (a*s)=(0-p / B) / (a / B):=by
 have:s≠0:=λz=>by rw [z] at hs;grind
 grind
theorem H0(s a B:Rat)(nb:B≠0)(na:a≠0)(hs:s*s=1)(ha:a*s≠0):B*s / (a*s)=1 / (a / B):=by
 have:s≠0:=λz=>by rw [z] at hs;grind
 grind
def ic:SpB:=.of 1 (α:=List Int×Int×Nat×Nat) (λ(P,B,n,b) ds=>ds=[pD P B]/\Pc.Pz n b P B/\P.length=2/\P.getD 1 0≠0/\n<=8000/\b<=8000)
 (λ(P,B,n,b) d=>∃ R C,d=pD R C/\Pc.Pz (n+b+1) n R C/\R.length<=2/\Qp.q R C 1=1 / Qp.q P B 1/\Qp.q R C 0=(0-Qp.q P B 0) / Qp.q P B 1)
def iW:TSd:=(hJ [] (gS iu (gP (ir (gP (gU .Sub (dC (.int 0)) (gU .Mult (gQ 1) (gQ 3))) (gP (gU .Mult (dIx (gQ 0) (dC (.int 1))) (gQ 3)) gR))) (gP (dB bAbs bAbs.mono (gP (gQ 2) gR)) gR))))
def jS:TSd:=dSq (gV [] (gNm 3) (dIx (ir (gP (gU .Sub (dC (.int 0)) (dC (.int 1))) (gP (dC (.int 1)) gR))) (dB bInt bInt.mono (gP (il .Gt (gQ 2) (dC (.int 0))) gR))))
 iW
def kC:TSd:=dSq (gV [] (gTp [1,2]) (dIx (gQ 0) (dC (.int 0))))
 jS
theorem jI:Does 4 kC ic:=by
 rintro ds Q hn ⟨⟨P,B,n,b⟩,⟨rfl,z,l2,p1,hn,hb⟩,q⟩;dsimp only at z l2 p1 hn hb q;obtain⟨x,y,rfl⟩:∃ x y,P=[x,y]:=by
  match P,l2 with
  | [x,y],_=>exact⟨x,y,rfl⟩
 have p1:y≠0:=p1;have B0:=z.fm.pos;have lx:Lt2 n x:=z.tops 0;have ly:Lt2 n y:=z.tops 1;have key:∀ s:Int,Lt2 1 s->s*s=1->y*s=(y.natAbs:Int)->iW.run (qX Q) [.val (pD [x,y] B),.val (.int x),.val (.int y),.val (.int s)]:=λs ls ss ys=>by
  have a0:(0:Int)<((y.natAbs:Nat):Int):=by omega
  have la:Lt2 n ((y.natAbs:Nat):Int):=by unfold Lt2;rw [a8];exact ly
  refine⟨⟨n,1,lx,ls,by omega⟩,⟨b,1,z.bot,ls,by omega⟩,rJ,rfl,([0-x*s,B*s],((y.natAbs:Nat):Int)),⟨.inl ?_,a0,la.mono (by omega),by show 2<=1000;decide⟩,?_⟩
  ·show [D.lst [.int (0-x*s),.int (B*s)],.int (if y<0 then -y else y)]=_;rw [sP];rfl
  rintro _ ⟨R,C,rfl,fR,wR,lR⟩;have wR:∀ k,R.getD k 0*((y.natAbs:Nat):Int)=[0-x*s,B*s].getD k 0*C:=wR;have qq:=λk=>Qp.wz (f:=λk=>[0-x*s,B*s].getD k 0) fR.pos (ax a0) wR k;have ys':((y.natAbs:Int):Rat)=(y:Rat)*(s:Rat):=by rw [← ys,aw]
  have hs:(s:Rat)*(s:Rat)=1:=by rw [← aw,ss];rfl
  have ny:(y:Rat)≠0:=Qp.rS p1;have nB:=Qp.qF B0;have nys:(y:Rat)*(s:Rat)≠0:=by rw [← ys'];exact Qp.qF a0
  refine q _ ⟨R,C,rfl,?_,lR,?_,?_⟩
  ·refine Pc.Pz.of fR a0 wR (λk=>?_) la;match k with
   | 0=>exact (((lx.mul ls).mono (m:=n+1) (af _)).le (by show (0-x*s).natAbs<=(x*s).natAbs;omega)).mono (by omega)
   | 1=>exact (z.bot.mul ls).mono (by omega)
   | k+2=>rw [Pc.wn];exact uL _
  ·rw [qq 1];show ((B*s:Int):Rat) / ((y.natAbs:Int):Rat)=1 / ((y:Rat) / (B:Rat));rw [ys',aw];exact H0 _ _ _ nB ny hs nys
  ·rw [qq 0];show ((0-x*s:Int):Rat) / ((y.natAbs:Int):Rat)=(0-(x:Rat) / (B:Rat)) / ((y:Rat) / (B:Rat));rw [ys',fj,aw];exact H8 _ _ _ _ nB ny hs nys
 refine⟨rfl,rJ,?_⟩;by_cases c:0<y
 ·refine rT (d:=.int 1) ?_ (key 1 (by unfold Lt2;decide) (by decide) (by omega));show vB _ (if decide (0<y)=true then (1:Int) else 0)=_;rw [if_pos (by simpa using c)];rfl
 ·refine rT (d:=.int (0-1)) ?_ (key (0-1) (by unfold Lt2;decide) (by decide) (by omega));show vB _ (if decide (0<y)=true then (1:Int) else 0)=_;rw [if_neg (by simpa using c)];rfl
def kY:SpB:=.of 1 (α:=List Pl) (λcs ds=>ds=[cD cs]/\(∀ p∈cs,0<p.2/\p.1.length<=1000)) (λcs d=>∃ c:Bool,d = .bl c/\(c=true->∀ p∈cs,Lt2 133 p.2/\∀ i,Lt2 133 (p.1.getD i 0)))
def nP:TSd:=(hJ [] (dC (.bl true)))
def oO:TSd:=dSq (iA [] (iG (gQ 0)) (gNm 1)
 (dIf [] (g9 (il .GtE (dB bMax bMax.mono (gP (gU .Add (iz (iG (dIx (gQ 1) (dC (.int 0)))) [2] (gNm 2) iQ (dB bAbs bAbs.mono (gP (gQ 2) gR))) (ir (gP (dIx (gQ 1) (dC (.int 1))) gR))) gR)) (gU .Pow (dC (.int 10)) (dC (.int 40)))))
 (hJ [] (dC (.bl false)))
 ii))
 nP
theorem mX:Does 3 oO kY:=by
 rintro ds Q hn ⟨cs,⟨rfl,hp⟩,q⟩;dsimp only at hp q;have cp:DD 10 40:=⟨by decide,by decide,by decide⟩;refine⟨λi s=>(∃ o o':SD,s=[.val (cD cs),o,o'])/\∀ j p,j<i->cs[j]? = some p->Lt2 133 p.2/\∀ i,Lt2 133 (p.1.getD i 0),⟨⟨.no,.no,rfl⟩,λj p h=>absurd h (bO _)⟩,?_,?_⟩
 ·rintro i d _ hd ⟨⟨o,o',rfl⟩,hI⟩;have hd:(cs.map pq)[i]? = some d:=hd;rw [aJ] at hd;obtain⟨p,hp1,rfl⟩:=ab.mp hd;obtain⟨b0,ll⟩:=hp p (aL hp1);refine⟨(congrArg (· <= sizeLine) (aa _)).mpr (sE (by omega)),mI (λz:Int=>((z.natAbs:Nat):Int)) p.1,mI.nil,λj d ys hd _ hy=>?_,λys _ hy=>?_⟩
  ·obtain⟨z,hz,rfl⟩:=uT hd;exact hy.snoc hz (sP z)
  cases hy.all (by rw [aa]);refine⟨Ar,by rw [aa,aa];exact sE (by show p.1.length+1<=_;omega),p.1.map (λz:Int=>((z.natAbs:Nat):Int))++[p.2],by rw [a5];rfl,by simp,λM hM hle=>⟨cp,?_⟩⟩;refine vG (p:=(10:Int)^40<=M) (λc=>q _ ⟨false,rfl,λz=>by cases z⟩) (λc=>⟨⟨_,_,rfl⟩,λj p' hj hp'=>?_⟩);rcases bK (dI hj) with e|e
  ·rw [e,hp1] at hp';cases hp';have lt:∀ a∈p.1.map (λz:Int=>((z.natAbs:Nat):Int))++[p.2],a<(10:Int)^40:=λa ha=>by
    have:=hle a ha;omega
   refine⟨?_,λi=>?_⟩
   ·have:=lt p.2 (by simp);exact Cu (by rw [Int.natAbs_of_nonneg (by omega)];exact this)
   ·rcases ar i p.1.length with x|x
    ·exact Cu (lt _ (bz.mpr (.inl (dj.mpr ⟨_,tv x,rfl⟩))))
    ·rw [qG x];exact uL _
  ·exact hI j p' e hp'
 ·rintro _ ⟨⟨o,o',rfl⟩,hI⟩;rw [aa] at hI;refine q _ ⟨true,rfl,λ_ p hp=>?_⟩;obtain⟨j,hj⟩:=bA.mp hp;exact hI j p (aj.mp hj).1 hj
end Dp
namespace Dp
open PySem L2 Ch
theorem tx(cs:List Pl):D.pls (cs.map pq)=true:=by
 induction cs with
 | nil=>rfl
 | cons c cs ih=>exact au.mpr ⟨II _ _,ih⟩
theorem v9(cs:List Pl):D.dps (cs.map pq)<=2:=by
 induction cs with
 | nil=>exact aB _
 | cons c cs ih=>show max (D.dp (pq c)) (D.dps (cs.map pq))<=2;rw [IJ];omega
theorem Hn(cs:List Pl):(D.dvs (cs.map pq)).length=cs.length:=by
 induction cs with
 | nil=>rfl
 | cons c cs ih=>exact congrArg (· + 1) ih
theorem FG:∀{cs:List Pl},(∀ c∈cs,c.1.length<=13)->DV.wds (D.dvs (cs.map pq))<=13
 | [],_=>aB _
 | c::cs,h=>by
  have:DV.wd (D.dv (pq c))<=max 2 c.1.length:=IH c.1 c.2;have:=h c aE;have:=FG λd hd=>h d (ay _ hd);show max (DV.wd (D.dv (pq c))) (DV.wds (D.dvs (cs.map pq)))<=13;omega
end Dp
namespace Dp
open PySem L2
theorem Bu{c m x:Int}(h:0<m)(hc:c∣m)(hx:c∣x):c*m.fdiv (Fr.cp m x)∣m:=by
 have g0:=tz (a:=m) (b:=x) (by omega);obtain⟨e,_,_⟩:=rj g0 h (tZ m x).1;have hg:c∣Fr.cp m x:=by
  unfold Fr.cp;exact Int.dvd_coe_gcd hc hx
 obtain⟨y,hy⟩:=hg;generalize m.fdiv (Fr.cp m x)=q at *;generalize Fr.cp m x=g at *;refine⟨y,?_⟩;rw [e,hy];grind
def kD:TSd:=(hJ [] (gQ 3))
def kE:TSd:=dSq (iA [] (ke (dC (.int 1)) (gU .Add (gQ 1) (dC (.int 1)))) (gNm 4)
 (mK [] 3 .Mult (gU .FloorDiv (gQ 2) (gS iB (gP (gQ 2) (gP (gU .Mult (dIx (gQ 0) (gU .Sub (gQ 1) (gQ 4))) (gS gZ (gP (gQ 3) (gP (gQ 4) gR)))) gR))))))
 kD
def iJ:TSd:=dSq (gV [] (gNm 3) (dC (.int 1)))
 kE
def lY:TSd:=dSq (kg [] 1 2 (gU .Sub (dB bLen bLen.mono (gP (gQ 0) gR)) (dC (.int 1))) (dB bAbs bAbs.mono (gP (dIx (gQ 0) (jP (dC (.int 1)))) gR)))
 iJ
end Dp
namespace Dp
open PySem L2
theorem Gp(a:Int){m n:Nat}(h:m<=n):a^m∣a^n:=⟨a^(n-m),by rw [← cy];congr 1;omega⟩
theorem Hj{P:List Int}{B c:Int}{f:Nat->Int}(F:Po.Fm P B)(h:∀ k,P.getD k 0*c=f k*B):B∣c:=a6.mp (Po.wU (P':=(List.range P.length).map f) F λk=>by
 rcases ar k P.length with z|z
 ·rw [h k,ac,aJ,gz z];rfl
 ·rw [qG z,qG (by rw [aa,eV];exact z)];simp)
end Dp
namespace Ap
open L2 Cv Hv Pc Qp
theorem zM(ts:List Int):∀ n,n<=ts.length->(∀ j,n<=j->ts.getD j 0=0)->∃ m,m<=ts.length/\(∀ j,m<=j->ts.getD j 0=0)/\(m=0\/ts.getD (m-1) 0≠0)
 | 0,_,h=>⟨0,aB _,h,.inl rfl⟩
 | n+1,l,h=>by
  by_cases c:ts.getD n 0=0
  ·refine zM ts n (by omega) λj hj=>?_;rcases bK hj with e|e
   ·rw [← e];exact c
   ·exact h j e
  ·exact⟨n+1,l,h,.inr c⟩
theorem has{F:Nat->Int}{n:Nat}{c:Int}(hc:0<c)(hF:∀ k,n<=k->F k=0):∃ R C,Po.Fm R C/\∀ k,R.getD k 0*c=F k*C:=by
 have e:∀ k,((List.range n).map F).getD k 0=F k:=λk=>by
  rw [ac,aJ];rcases ar k n with z|z
  ·rw [gz z];rfl
  ·rw [bg (by rw [eV];exact z)];exact (hF k z).symm
 obtain⟨m,h1,h2,h3⟩:=zM ((List.range n).map F) n (by rw [aa,eV];exact af _) λj hj=>by rw [e];exact hF j hj
 obtain⟨f,w⟩:=Po.form hc h1 h2 h3;exact⟨_,_,f,λk=>by rw [w k,e]⟩
def Pf(f:Rat->Rat):Prop:=∃ R C,Po.Fm R C/\∀ x,E R C x=f x
theorem Pf.of{P:List Int}{B:Int}(f:Po.Fm P B):Pf (E P B):=⟨P,B,f,λ_=>rfl⟩
theorem Pf.add{f g:Rat->Rat}(hf:Pf f)(hg:Pf g):Pf λx=>f x+g x:=by
 obtain⟨P1,B1,f1,e1⟩:=hf;obtain⟨P2,B2,f2,e2⟩:=hg;obtain⟨R,C,fR,w⟩:=has (F:=λk=>P1.getD k 0*B2+P2.getD k 0*B1) (n:=P1.length+P2.length) (az f1.pos f2.pos) λk hk=>by
  have a:P1.getD k 0=0:=qJ (by omega);have b:P2.getD k 0=0:=qJ (by omega);rw [a,b];simp
 exact⟨R,C,fR,λx=>by rw [An f1.pos f2.pos fR.pos w,e1,e2]⟩
theorem Pf.mul{f g:Rat->Rat}(hf:Pf f)(hg:Pf g):Pf λx=>f x*g x:=by
 obtain⟨P1,B1,f1,e1⟩:=hf;obtain⟨P2,B2,f2,e2⟩:=hg;obtain⟨R,C,fR,w⟩:=has (F:=cv (fn P1) (fn P2)) (n:=P1.length+P2.length) (az f1.pos f2.pos) λk hk=>rH (a:=P1.length) (b:=P2.length) (λj h=>qJ h) (λj h=>qJ h) (by omega);exact⟨R,C,fR,λx=>by rw [uY f1.pos f2.pos fR w,e1,e2]⟩
theorem Pf.const(r:Rat):Pf λ_=>r:=by
 obtain⟨t,u,hu,rfl⟩:=rX r;obtain⟨R,C,fR,w⟩:=has (F:=λk=>[t].getD k 0) (n:=1) hu λk hk=>by
  obtain⟨j,rfl⟩:∃ j,k=j+1:=⟨k-1,by omega⟩;simp
 exact⟨R,C,fR,λx=>xk fR hu w x⟩
theorem Pf.sub{f g:Rat->Rat}(hf:Pf f)(hg:Pf g):Pf λx=>f x-g x:=by
 obtain⟨R,C,f,e⟩:=hf.add ((Pf.const (-1)).mul hg);exact⟨R,C,f,λx=>by rw [e];grind⟩
theorem Ku{P1 P2 R:List Int}{B1 B2 C:Int}(f1:Po.Fm P1 B1)(f2:Po.Fm P2 B2)(fR:Po.Fm R C)(n1:P1≠[])(n2:P2≠[])(h:∀ x,E R C x=E P1 B1 x*E P2 B2 x):P1.length+P2.length=R.length+1:=by
 have p:=az f1.pos f2.pos;obtain⟨S,D,fS,w⟩:=has (F:=cv (fn P1) (fn P2)) (n:=P1.length+P2.length) p λk hk=>rH (a:=P1.length) (b:=P2.length) (λj h=>qJ h) (λj h=>qJ h) (by omega);obtain⟨rfl,rfl⟩:=tQ fR fS λx=>by rw [h,uY f1.pos f2.pos fS w]
 have l1:0<P1.length:=cL.mpr n1;have l2:0<P2.length:=cL.mpr n2;have t1:P1.getD (P1.length-1) 0≠0:=f1.last.resolve_left n1;have t2:P2.getD (P2.length-1) 0≠0:=f2.last.resolve_left n2;have top:=wW (f:=fn P1) (g:=fn P2) (a:=P1.length-1) (b:=P2.length-1) (λj hj=>qJ (by omega)) (λj hj=>qJ (by omega));have e:=w (P1.length-1+(P2.length-1));rw [top] at e;have ne:R.getD (P1.length-1+(P2.length-1)) 0≠0:=λz=>by
  rw [z,aI] at e;exact br (br t1 t2) (ax fR.pos) e.symm
 have up:R.length<=P1.length-1+(P2.length-1)+1:=rh fR p w λk hk=>rH (a:=P1.length) (b:=P2.length) (λj h=>qJ h) (λj h=>qJ h) (by omega);have dn:P1.length-1+(P2.length-1)<R.length:=by
  rcases ar (P1.length-1+(P2.length-1)) R.length with z|z
  ·exact z
  ·exact absurd (qJ (P:=R) z) ne
 omega
abbrev Pl:=List Int×Int
def Ed(y x:Rat):List Pl->Rat
 | []=>0
 | p::ps=>E p.1 p.2 x+y*Ed y x ps
theorem Ed.pf{h:Rat->Rat}(hh:Pf h):∀{ps:List Pl},(∀ p∈ps,Po.Fm p.1 p.2)->Pf λx=>Ed (h x) x ps
 | [],_=>Pf.const 0
 | p::ps,f=>(Pf.of (f p aE)).add (hh.mul (Ed.pf hh λq hq=>f q (ay _ hq)))
theorem wg(B:Int)(x:Rat):E [] B x=0:=by
 show (0:Rat) / _=0;grind
theorem Ed.uniq{G:List Int}{U:Int}{s:Nat}(fG:Po.Fm G U)(lG:G.length=s+1):∀{ps qs:List Pl},ps.length=qs.length->(∀ p∈ps,Po.Fm p.1 p.2/\p.1.length<=s)->(∀ p∈qs,Po.Fm p.1 p.2/\p.1.length<=s)->(∀ x,Ed (E G U x) x ps=Ed (E G U x) x qs)->ps=qs
 | [],[],_,_,_,_=>rfl
 | p::ps,q::qs,l,hp,hq,h=>by
  have hp':∀ r∈ps,Po.Fm r.1 r.2/\r.1.length<=s:=λr hr=>hp r (ay _ hr);have hq':∀ r∈qs,Po.Fm r.1 r.2/\r.1.length<=s:=λr hr=>hq r (ay _ hr);obtain⟨fp,lp⟩:=hp p aE;obtain⟨fq,lq⟩:=hq q aE;obtain⟨W,w,fW,eW⟩:=(Ed.pf (Pf.of fG) λr hr=>(hp' r hr).1).sub (Ed.pf (Pf.of fG) λr hr=>(hq' r hr).1)
  -- the rests are the same
  obtain⟨D,d,fD,wD⟩:=has (F:=λk=>q.1.getD k 0*p.2+p.1.getD k 0*(-1)*q.2) (n:=s) (az fq.pos fp.pos) λk hk=>by
   have a:p.1.getD k 0=0:=qJ (by omega);have b:q.1.getD k 0=0:=qJ (by omega);rw [a,b];simp
  have eD:∀ x,E D d x=E q.1 q.2 x-E p.1 p.2 x:=λx=>by
   have fm:∀ k,(p.1.map λz=>z*(-1)).getD k 0=p.1.getD k 0*(-1):=λk=>by
    rw [ac,ac,aJ];cases p.1[k]? <;> simp
   have e1:=An (P1:=q.1) (P2:=p.1.map λz=>z*(-1)) (R:=D) (C:=d) fq.pos fp.pos fD.pos (λk=>by rw [fm];exact wD k) x;have e2:E (p.1.map λz=>z*(-1)) p.2 x = -E p.1 p.2 x:=by
    have:∀ n,ei (fn (p.1.map λz=>z*(-1))) x n=ei (fn p.1) x n*((-1:Int):Rat):=λn=>by
     rw [← tX];congr 1;funext k;exact fm k
    unfold E;rw [this,aa];show _*(-1:Rat) / _=_;grind
   rw [e1,e2];grind
  have lD:D.length<=s:=rh fD (az fq.pos fp.pos) wD λk hk=>by
   have a:p.1.getD k 0=0:=qJ (by omega);have b:q.1.getD k 0=0:=qJ (by omega);rw [a,b];simp
  have key:∀ x,E D d x=E G U x*E W w x:=λx=>by
   have a:E p.1 p.2 x+E G U x*Ed (E G U x) x ps=E q.1 q.2 x+E G U x*Ed (E G U x) x qs:=h x;rw [eD,eW];grind
  have W0:W=[]:=Classical.byContradiction λnW=>by
   have:=Ku fG fW fD (by intro z;rw [z] at lG;simp at lG) nW key;have:0<W.length:=cL.mpr nW;omega
  have t:∀ x,Ed (E G U x) x ps=Ed (E G U x) x qs:=λx=>by
   have a:=eW x;rw [W0,wg] at a;grind
  have e:=Ed.uniq fG lG (by simpa using l) hp' hq' t;have c:∀ x,E p.1 p.2 x=E q.1 q.2 x:=λx=>by
   have a:E p.1 p.2 x+E G U x*Ed (E G U x) x ps=E q.1 q.2 x+E G U x*Ed (E G U x) x qs:=h x;rw [t x] at a;grind
  obtain⟨y1,y2⟩:=tQ fp fq c;rw [e,show p=q from Prod.ext y1 y2]
end Ap
namespace Dp
open PySem L2
theorem lcm_dvd{b r D:Int}(hb:0<b)(hr:0<r)(h1:b∣D)(h2:r∣D):b*r.fdiv (Fr.cp b r)∣D:=by
 have g0:=tz (a:=b) (b:=r) (by omega);obtain⟨e,q0,_⟩:=rj g0 hr (tZ b r).2;have l:=Nat.lcm_dvd (a6.mpr h1) (a6.mpr h2);refine a6.mp ?_;have eg:Fr.cp b r=((Nat.gcd b.natAbs r.natAbs:Nat):Int):=rfl;rw [aO];have e2:r.natAbs=Nat.gcd b.natAbs r.natAbs*(r.fdiv (Fr.cp b r)).natAbs:=by
  have:=congrArg Int.natAbs e;rw [aO,eg,a8] at this;rw [eg];exact this
 have g1:0<Nat.gcd b.natAbs r.natAbs:=Nat.gcd_pos_of_pos_left _ (by omega);unfold Nat.lcm at l;generalize (r.fdiv (Fr.cp b r)).natAbs=q at *;generalize hg:Nat.gcd b.natAbs r.natAbs=g at *;rw [e2,show b.natAbs*(g*q)=g*(b.natAbs*q) by grind,Nat.mul_div_cancel_left _ g1] at l;exact l
def Lk(fs:List (Int×Int))(Dv:Int)(m:Nat):Prop:=(∀ f∈fs,0<f.2/\Lt2 m f.1/\f.2∣Dv)/\fs.length<=100/\0<Dv/\Lt2 8990000 Dv/\m<=10000000
def iP:SpB:=.of 1 (α:=List (Int×Int)×Int×Nat) (λ(fs,D,m) ds=>ds=[.lst (HM fs)]/\Lk fs D m)
 (λ(fs,D,m) d=>∃ b0:Int,d = .tup [.lst ((fs.map λf=>f.1*b0.fdiv f.2).map .int),.int b0]/\0<b0/\Lt2 8990000 b0/\b0∣D/\∀(j:Nat) (f:Int×Int),fs[j]? = some f->f.2∣b0)
def jz:TSd:=(hJ [] (g7 (gP (iz (iG (gQ 0)) [2] (gNm 2) iQ (gU .Mult (dIx (gQ 2) (dC (.int 0))) (gU .FloorDiv (gQ 1) (dIx (gQ 2) (dC (.int 1)))))) (gP (gQ 1) gR))))
def jA:TSd:=dSq (iA [] (iG (gQ 0)) (gNm 2)
 (mK [] 1 .Mult (gU .FloorDiv (dIx (gQ 2) (dC (.int 1))) (gS iB (gP (gQ 1) (gP (dIx (gQ 2) (dC (.int 1))) gR))))))
 jz
def jT:TSd:=dSq (gV [] (gNm 1) (dC (.int 1)))
 jA
theorem jr:Does 3 jT iP:=by
 rintro ds Q hn ⟨⟨fs,D1,m⟩,⟨rfl,hb,hl,D0,lD,hm⟩,q⟩;dsimp only at hb hl D0 lD hm q;have sizes:∀{i:Nat} {f:Int×Int},fs[i]? = some f->0<f.2/\Lt2 m f.1/\f.2∣D1:=λh=>hb _ (aL h);have small:∀{c:Int},c∣D1->Lt2 8990000 c:=λh=>lD.le (ce (by omega) (a6.mpr h));refine⟨λi s=>∃(o:SD) (b0:Int),s=[.val (.lst (HM fs)),.val (.int b0),o]/\0<b0/\b0∣D1/\∀(j:Nat) (f:Int×Int),j<i->fs[j]? = some f->f.2∣b0,⟨.no,1,rfl,by decide,Int.one_dvd _,λj f h=>absurd h (bO _)⟩,?_,?_⟩
 ·rintro i d _ hd ⟨o,b0,rfl,h0,hl0,hd0⟩;obtain⟨f,hf,rfl⟩:=Al hd;obtain⟨b1,l1,l2⟩:=sizes hf;have g0:=tz (a:=b0) (b:=f.2) (by omega);obtain⟨e,q0,ql⟩:=rj g0 b1 (tZ b0 f.2).2;obtain⟨k1,k2⟩:=Dr h0 b1;have gl:(Fr.cp b0 f.2).natAbs<=f.2.natAbs:=ce (by omega) (a6.mpr (tZ b0 f.2).2);refine⟨rfl,(b0,f.2),rfl,?_⟩;rintro _ rfl;refine⟨⟨by show Fr.cp b0 f.2≠0;omega,8990000,(small l2).le gl,by decide⟩,⟨_,_,small hl0,(small l2).le ql,by decide⟩,_,_,rfl,k1,lcm_dvd h0 b1 hl0 l2,λj g hj hg=>?_⟩;rcases bK (dI hj) with z|z
  ·rw [z,hf] at hg;cases hg;exact k2
  ·exact dX (hd0 j g z hg)
 ·rintro _ ⟨o,b0,rfl,h0,hl0,hd0⟩;rw [aa] at hd0;have hd1:∀(j:Nat) (f:Int×Int),fs[j]? = some f->f.2∣b0:=λj f h=>hd0 j f (aj.mp h).1 h;refine⟨(congrArg (· <= sizeLine) (aa _)).mpr (sE (by omega)),mI (λf:Int×Int=>f.1*b0.fdiv f.2) fs,mI.nil,λi d ys hd _ hy=>?_,λys _ hy=>?_⟩
  ·obtain⟨f,hf,rfl⟩:=Al hd;obtain⟨b1,l1,l2⟩:=sizes hf;obtain⟨e,q0,ql⟩:=rj b1 h0 (hd1 _ _ hf);exact⟨⟨by show f.2≠0;omega,8990000,small l2,by decide⟩,⟨_,_,l1,(small hl0).le ql,by omega⟩,hy.snoc hf rfl⟩
  ·cases hy.all (by rw [aa]);exact⟨rJ,q _ ⟨b0,rfl,h0,small hl0,hl0,hd1⟩⟩
def nh:SpB:=.of 1 (α:=List (Int×Int)×Int×Nat) (λ(fs,D,m) ds=>ds=[.lst (HM fs)]/\Lk fs D m)
 (λ(fs,D,m) d=>∃ P B,d=pD P B/\Po.Fm P B/\(∀ k,P.getD k 0*(fs.getD k (0,1)).2=(fs.getD k (0,1)).1*B)/\P.length<=fs.length/\B∣D)
def oP:TSd:=(hJ [] (gS iI (gP (gQ 1) (gP (gQ 2) gR))))
def pS:TSd:=dSq (gV [] (gTp [1,2]) (gS iP (gP (gQ 0) gR)))
 oP
theorem oy:Does 3 pS nh:=by
 rintro ds Q hn ⟨⟨fs,D1,m⟩,⟨rfl,hF⟩,q⟩;have hF':=hF;obtain⟨hb,hl,D0,lD,hm8⟩:=hF';refine⟨rfl,(fs,D1,m),⟨rfl,hF⟩,?_⟩;rintro _ ⟨b0,rfl,h0,hl0,hbD,hd⟩;refine⟨rfl,rfl,(fs.map λf=>f.1*b0.fdiv f.2,b0),⟨rfl,h0,Lt2.mono hl0 (by decide),by show (fs.map λf=>f.1*b0.fdiv f.2).length<=1000;rw [aa];omega⟩,?_⟩;rintro _ ⟨P,B,rfl,fm,hw,hle⟩;have hle:P.length<=(fs.map λf=>f.1*b0.fdiv f.2).length:=hle;rw [aa] at hle;refine q _ ⟨P,B,rfl,fm,λk=>?_,hle,dQ (a6.mp (Po.wU fm hw)) hbD⟩;have hk:P.getD k 0*b0=(fs.map λf=>f.1*b0.fdiv f.2).getD k 0*B:=hw k;show P.getD k 0*(fs.getD k (0,1)).2=(fs.getD k (0,1)).1*B;cases hf:fs[k]? with
 | none =>
  rw [qG (fs:=fs.map λf=>f.1*b0.fdiv f.2) (by rw [aa];exact fF.mp hf),aI] at hk;rw [qG (fs:=fs) (fF.mp hf)];rcases bZ.mp hk with z|z
  ·rw [z];simp
  ·omega
 | some f =>
  have hm:(fs.map λf=>f.1*b0.fdiv f.2).getD k 0=f.1*b0.fdiv f.2:=rf (by rw [aJ,hf];rfl);rw [hm] at hk;rw [rf hf];have b1:=(hb f (aL hf)).1;obtain⟨e,q0,_⟩:=rj b1 h0 (hd k f hf);refine aH (ax q0) ?_;generalize b0.fdiv f.2=y at *;grind
open Cv Qp in
theorem CU{N N':Nat->Int}{e e' U p2:Int}{G p1:List Int}(h0:∀ k,13<=k->N k=0)(h1:∀ k,13<=k->N' k=0)(e0:0<e)(e1:0<e')(U0:0<U)(p0:0<p2)(h:∀ k,(cv N' (fn G) k*p2+p1.getD k 0*(e'*U))*e=N k*(e'*U*p2))(x:Rat) :
  ei N x 13 / (e:Rat)=E p1 p2 x+E G U x*(ei N' x 13 / (e':Rat)):=by
 have l:=wT (F:=λk=>cv N' (fn G) k*p2+p1.getD k 0*(e'*U)) (G:=N) (x:=x) h (13+G.length+p1.length);rw [yM,tX,tX] at l;have a1:ei (cv N' (fn G)) x (13+G.length+p1.length)=ei N' x 13*ei (fn G) x G.length:=by
  rw [xJ (λk hk=>rH (a:=13) (b:=G.length) (λj hj=>h1 j hj) (λj hj=>qJ hj) (by omega)),FB (λk hk=>h1 k hk) (λk hk=>qJ hk)]
 have a2:ei (λk=>p1.getD k 0) x (13+G.length+p1.length)=ei (fn p1) x p1.length:=by
  rw [show 13+G.length+p1.length=p1.length+(13+G.length) by omega];exact xJ (λk hk=>qJ hk) _
 have a3:ei N x (13+G.length+p1.length)=ei N x 13:=by
  rw [show 13+G.length+p1.length=13+(G.length+p1.length) by omega];exact xJ h0 _
 rw [a1,a2,a3] at l;unfold E;simp only [aw] at l;have n1:=qF e0;have n2:=qF e1;have n3:=qF U0;have n4:=qF p0;generalize ei N' x 13=X at *;generalize ei (fn G) x G.length=Y at *;generalize ei (fn p1) x p1.length=Z at *;generalize ei N x 13=V at *;generalize (e:Rat)=a at *;generalize (e':Rat)=b at *;generalize (U:Rat)=c at *;generalize (p2:Rat)=d at *;have k1:V / a=(X*Y*d+Z*(b*c)) / (b*c*d):=by grind
 rw [k1];grind
end Dp
namespace Dp
open PySem L2
theorem Aa{F:Nat->Int}(h:∀ k,F k=0)(x:Rat):∀ n,Qp.ei F x n=0
 | 0=>rfl
 | n+1=>by
  rw [Qp.ei,Aa h x n,h n];show (0:Rat)+0*_=0;grind
theorem vy{P R:Nat->Int}{k s:Nat}{C:Int}(h:Ca.Cand P k s R C)(s1:1<=s):R s=C/\R 0=0:=by
 obtain⟨c,g,c0,g0,h1,h2,h3⟩:=h;have:=h2 0 (by omega);rw [bx,aU,bH,g0,bV] at this;exact⟨this,h3⟩
theorem Df{P G:List Int}{s:Nat}{U:Int}(lG:G.length=s+1)(lP:P.length=s+1)(fG:Po.Fm G U)(h:Ca.Cand (λi=>P.getD i 0) 1 s (λi=>G.getD i 0) U)(hL:P.getD s 0≠0):U.natAbs<=(P.getD s 0).natAbs:=by
 obtain⟨c,g,c0,g0,h1,h2,h3⟩:=h;have key:∀ k,G.getD k 0*P.getD s 0=(if k=0 then 0 else P.getD k 0)*U:=λk=>by
  by_cases c1:k=0
  ·subst c1;have h3:G.getD 0 0=0:=h3;rw [if_pos rfl,h3];simp
  rw [if_neg c1];rcases ar s k with z|z
  ·rw [qG (fs:=G) (i:=k) (by omega),qG (fs:=P) (i:=k) (by omega)];simp
  ·have a:P.getD (1*s-(s-k)) 0*c^(s-k)=P.getD (1*s) 0*Ca.pw g 1 (s-k):=h1 (s-k) (by omega);have b:G.getD (s-(s-k)) 0*c^(s-k)=g (s-k)*U:=h2 (s-k) (by omega);rw [gv,show s-(s-k)=k by omega] at a;rw [show s-(s-k)=k by omega] at b;rw [Ca.BN,Pc.KF] at a;refine aH (show c^(s-k)≠0 from bP (ax c0)) ?_
   calc G.getD k 0*P.getD s 0*c^(s-k)=(G.getD k 0*c^(s-k))*P.getD s 0:=by grind
    _=g (s-k)*U*P.getD s 0:=by rw [b]
    _=(P.getD s 0*g (s-k))*U:=by grind
    _=P.getD k 0*U*c^(s-k):=by rw [← a];grind
 rcases eU hL with z|z
 ·have:=(Po.size (f:=λk => -(if k=0 then 0 else P.getD k 0)) (b:=-P.getD s 0) fG (by omega) λk=>by rw [Int.mul_neg,key k,Int.neg_mul]).1;rwa [Int.natAbs_neg] at this
 ·exact (Po.size (f:=λk=>if k=0 then 0 else P.getD k 0) (b:=P.getD s 0) fG z key).1
end Dp
namespace Dp
open PySem L2
theorem xI{t u a c:Int}(u0:0<u)(g:Int.gcd t u=1)(c0:0<c)(e:(t:Rat) / (u:Rat)=(a:Rat) / (c:Rat)):u∣c:=by
 have h:=(Qp.rG (ax u0) (ax c0)).mp e;have d:u∣t*c:=⟨a,by rw [h,bh]⟩;have d:=a6.mpr d;rw [aO] at d;exact a6.mp (Nat.Coprime.dvd_of_dvd_mul_left (show Nat.gcd u.natAbs t.natAbs=1 by rw [gg];exact g) d)
theorem wS(f:Nat->Rat)(y:Rat):∀ n,Qp.er f y (n+1)=f 0+y*Qp.er (λk=>f (k+1)) y n
 | 0=>by unfold Qp.er Qp.er;grind
 | n+1=>by
  rw [Qp.er,wS f y n,Qp.er];grind
theorem JC{P:List Int}{B:Int}(l:P.length<=1)(x:Rat):Qp.E P B x=Qp.q P B 0:=by
 rw [Qp.xZ (N:=1) l,Qp.KD];rfl
theorem FC{y x:Rat}:∀{Ps:List (List Int×Int)} {f:Nat->Rat},(∀ p∈Ps,p.1.length<=1)->(∀ j p,Ps[j]? = some p->f j=Qp.q p.1 p.2 0)->Ap.Ed y x Ps=Qp.er f y Ps.length
 | [],_,_,_=>rfl
 | p::Ps,f,h,hf=>by
  show Qp.E p.1 p.2 x+y*Ap.Ed y x Ps=_;rw [a7,wS,JC (h p aE),hf 0 p rfl,FC (λq hq=>h q (ay _ hq)) λj q hq=>hf (j+1) q hq]
theorem Bd{R:List Int}{C:Int}{N:Nat}(l:R.length<=N)(y:Rat):Qp.E R C y=Qp.er (Qp.q R C) y N:=by
 rw [Qp.Hh (λ_=>rfl),Qp.xZ l]
end Dp
namespace Ca
open Cv
theorem Go{g g':Nat->Int}{k s:Nat}(hk:0<k)(g0:g 0=1)(g0':g' 0=1)(h:∀ j,j<s->pw g k j=pw g' k j):∀ j,j<s->g j=g' j:=by
 have go:∀ n,∀ j,j<n->j<s->g j=g' j:=by
  intro n;induction n with
  | zero=>intro j hj;omega
  | succ n ih =>
   intro j hj js;rcases ar j n with z|z
   ·exact ih j z js
   ·have e:j=n:=by omega
    subst e;cases j with
    | zero=>rw [g0,g0']
    | succ j =>
     have p:=(yj (g:=g) (g':=g') (s:=j) g0 (λi hi=>(ih i (by omega) (by omega)).symm) k).2;rw [h (j+1) js] at p;have:(k:Int)*(g' (j+1)-g (j+1))=0:=by omega
     rcases bZ.mp this with w|w <;> omega
 exact λj hj=>go s j hj hj
theorem Cand.uniq{P:Nat->Int}{k s:Nat}{R R':List Int}{C C':Int}(hk:0<k)(hP:P (k*s)≠0)(f:Po.Fm R C)(f':Po.Fm R' C')(l:R.length=s+1)(l':R'.length=s+1)(h:Cand P k s (λi=>R.getD i 0) C)(h':Cand P k s (λi=>R'.getD i 0) C'):R=R'/\C=C':=by
 obtain⟨c,g,c0,g0,h1,h2,h3⟩:=h;obtain⟨c',g',c0',g0',h1',h2',h3'⟩:=h';have e:∀ j,j<s->g j*c'^j=g' j*c^j:=by
  refine Go (g:=λi=>g i*c'^i) (g':=λi=>g' i*c^i) hk ?_ ?_ λj hj=>?_
  ·show g 0*c'^0=1;rw [g0];simp
  ·show g' 0*c^0=1;rw [g0'];simp
  ·rw [wB,wB];refine dF hP ?_;have a:=h1 j hj;have b:=h1' j hj
   calc P (k*s)*(pw g k j*c'^j)=(P (k*s)*pw g k j)*c'^j:=by grind
    _=P (k*s-j)*c'^j*c^j:=by rw [← a];grind
    _=(P (k*s)*pw g' k j)*c^j:=by rw [← b]
    _=P (k*s)*(pw g' k j*c^j):=by grind
 refine Po.uniq f f' λi=>?_;rcases ar s i with z|z
 ·have a:R.getD i 0=0:=qJ (by omega);have b:R'.getD i 0=0:=qJ (by omega);rw [a,b];simp
 by_cases c1:i=0
 ·subst c1;have h3:R.getD 0 0=0:=h3;have h3':R'.getD 0 0=0:=h3';rw [h3,h3'];simp
 have a:R.getD (s-(s-i)) 0*c^(s-i)=g (s-i)*C:=h2 (s-i) (by omega);have b:R'.getD (s-(s-i)) 0*c'^(s-i)=g' (s-i)*C':=h2' (s-i) (by omega);rw [show s-(s-i)=i by omega] at a b;have x:=e (s-i) (by omega);have p1:c^(s-i)≠0:=bP (ax c0);have p2:c'^(s-i)≠0:=bP (ax c0');refine aH (br p1 p2) ?_;generalize c^(s-i)=y at *;generalize c'^(s-i)=y' at *;generalize g (s-i)=u at *;generalize g' (s-i)=u' at *
 calc R.getD i 0*C'*(y*y')=(R.getD i 0*y)*y'*C':=by grind
  _=(u*y')*C*C':=by rw [a];grind
  _=(u'*C')*y*C:=by rw [x];grind
  _=R'.getD i 0*C*(y*y'):=by rw [← b];grind
end Ca
namespace Ap
open L2 Cv Hv Pc Qp
theorem Ed.pad(y x:Rat):∀(ps:List Pl) (n:Nat),Ed y x (ps++List.replicate n ([],1))=Ed y x ps
 | [],0=>rfl
 | [],n+1=>by
  have:=Ed.pad y x [] n;rw [bv];show E [] 1 x+y*Ed y x (List.replicate n ([],1))=0;have e:Ed y x (List.replicate n ([],1))=0:=this;rw [e,wg];grind
 | p::ps,n=>by
  show _+y*Ed y x (ps++List.replicate n ([],1))=_+y*Ed y x ps;rw [Ed.pad y x ps n]
theorem Cm:Po.Fm ([]:List Int) 1:=⟨by decide,.inl rfl,by decide⟩
theorem Ed.uniq2{G:List Int}{U:Int}{s:Nat}(fG:Po.Fm G U)(lG:G.length=s+1){ps qs:List Pl}(hp:∀ p∈ps,Po.Fm p.1 p.2/\p.1.length<=s)(hq:∀ p∈qs,Po.Fm p.1 p.2/\p.1.length<=s)(h:∀ x,Ed (E G U x) x ps=Ed (E G U x) x qs)(t:Nat):ps.getD t ([],1)=qs.getD t ([],1):=by
 have rep:∀(n:Nat) (p:Pl),p∈List.replicate n (([],1):Pl)->Po.Fm p.1 p.2/\p.1.length<=s:=λn p hp=>by
  rw [(List.mem_replicate.mp hp).2];exact⟨Cm,aB _⟩
 have e:=Ed.uniq fG lG (ps:=ps++List.replicate qs.length ([],1)) (qs:=qs++List.replicate ps.length ([],1)) (by simp;omega) (λp h=>by
  rcases bz.mp h with z|z
  ·exact hp p z
  ·exact rep _ p z) (λp h=>by
  rcases bz.mp h with z|z
  ·exact hq p z
  ·exact rep _ p z) (λx=>by rw [Ed.pad,Ed.pad,h])
 have g:∀(l:List Pl) (n:Nat),(l++List.replicate n (([],1):Pl)).getD t ([],1)=l.getD t ([],1):=λl n=>by
  rw [ac,ac];rcases ar t l.length with z|z
  ·rw [aR z]
  ·rw [av z,bg z,dU];split <;> rfl
 have:=congrArg (λl:List Pl=>l.getD t ([],1)) e;rwa [g,g] at this
end Ap
namespace Dp
open PySem L2
def Lh(P:List Int)(B:Int)(k s:Nat):Prop:=∃ G U R C,Po.Fm G U/\G.length=s+1/\Ca.Cand (λi=>P.getD i 0) k s (λi=>G.getD i 0) U/\Po.Fm R C/\∀ x,Qp.E P B x=Qp.E R C (Qp.E G U x)
theorem Dc(r:Rat):∃ p:List Int×Int,Po.Fm p.1 p.2/\p.1.length<=1/\∀ x,Qp.E p.1 p.2 x=r:=by
 obtain⟨t,u,hu,rfl⟩:=Qp.rX r;have h1:∀ k,1<=k->([t]:List Int).getD k 0=0:=λk hk=>qG hk;obtain⟨R,C,fR,w⟩:=Ap.has (F:=λk=>[t].getD k 0) (n:=1) hu h1;exact⟨(R,C),fR,Pc.rh fR hu w h1,λx=>Qp.xk fR hu w x⟩
theorem wY:∀(n:Nat) (f:Nat->Rat),∃ Cs:List (List Int×Int),Cs.length=n/\(∀ p∈Cs,Po.Fm p.1 p.2/\p.1.length<=1)/\∀ x y,Ap.Ed y x Cs=Qp.er f y n
 | 0,f=>⟨[],rfl,λp h=>absurd h aK,λx y=>rfl⟩
 | n+1,f=>by
  obtain⟨Cs,l,h,e⟩:=wY n λk=>f (k+1);obtain⟨p,fp,lp,ep⟩:=Dc (f 0);refine⟨p::Cs,by rw [a7,l],λq hq=>?_,λx y=>?_⟩
  ·rcases am.mp hq with z|z
   ·rw [z];exact⟨fp,lp⟩
   ·exact h q z
  ·show Qp.E p.1 p.2 x+y*Ap.Ed y x Cs=_;rw [wS,ep,e]
theorem mem_getD{α:Type}{l:List α}{t:Nat}{d:α}{p:α->Prop}(h:∀ x∈l,p x)(hd:p d):p (l.getD t d):=by
 rcases ar t l.length with z|z
 ·exact h _ (tv z)
 ·rw [qG z];exact hd
end Dp
namespace Ap
open L2 Cv Hv Pc Qp
def Pl'(n:Nat)(f:Rat->Rat):Prop:=∃ R C,Po.Fm R C/\(∀ x,E R C x=f x)/\R.length<=n
theorem Pl'.of{P:List Int}{B:Int}(f:Po.Fm P B):Pl' P.length (E P B):=⟨P,B,f,λ_=>rfl,af _⟩
theorem Pl'.mono{n m:Nat}{f:Rat->Rat}(h:Pl' n f)(l:n<=m):Pl' m f:=by
 obtain⟨R,C,a,b,c⟩:=h;exact⟨R,C,a,b,by omega⟩
theorem Pl'.congr{n:Nat}{f g:Rat->Rat}(h:Pl' n f)(e:∀ x,f x=g x):Pl' n g:=by
 obtain⟨R,C,a,b,c⟩:=h;exact⟨R,C,a,λx=>by rw [b,e],c⟩
theorem Pl'.add{n:Nat}{f g:Rat->Rat}(hf:Pl' n f)(hg:Pl' n g):Pl' n λx=>f x+g x:=by
 obtain⟨P1,B1,f1,e1,l1⟩:=hf;obtain⟨P2,B2,f2,e2,l2⟩:=hg;have z:∀ k,n<=k->P1.getD k 0*B2+P2.getD k 0*B1=0:=λk hk=>by
  have a:P1.getD k 0=0:=qJ (by omega);have b:P2.getD k 0=0:=qJ (by omega);rw [a,b];simp
 obtain⟨R,C,fR,w⟩:=has (F:=λk=>P1.getD k 0*B2+P2.getD k 0*B1) (n:=n) (az f1.pos f2.pos) z;exact⟨R,C,fR,λx=>by rw [An f1.pos f2.pos fR.pos w,e1,e2],rh fR (az f1.pos f2.pos) w z⟩
theorem Pl'.mul{n m:Nat}{f g:Rat->Rat}(hf:Pl' n f)(hg:Pl' (m+1) g):Pl' (n+m) λx=>f x*g x:=by
 obtain⟨P1,B1,f1,e1,l1⟩:=hf;obtain⟨P2,B2,f2,e2,l2⟩:=hg;have z:∀ k,n+m<=k->cv (fn P1) (fn P2) k=0:=λk hk=>rH (a:=n) (b:=m+1) (λj h=>qJ (by omega)) (λj h=>qJ (by omega)) (by omega);obtain⟨R,C,fR,w⟩:=has (F:=cv (fn P1) (fn P2)) (n:=n+m) (az f1.pos f2.pos) z;exact⟨R,C,fR,λx=>by rw [uY f1.pos f2.pos fR w,e1,e2],rh fR (az f1.pos f2.pos) w z⟩
theorem Pl'.const(r:Rat):Pl' 1 λ_=>r:=by
 obtain⟨t,u,hu,rfl⟩:=rX r;have z:∀ k,1<=k->([t]:List Int).getD k 0=0:=λk hk=>by
  obtain⟨j,rfl⟩:∃ j,k=j+1:=⟨k-1,by omega⟩;simp
 obtain⟨R,C,fR,w⟩:=has (F:=λk=>[t].getD k 0) (n:=1) hu z;exact⟨R,C,fR,λx=>xk fR hu w x,rh fR hu w z⟩
theorem Pl'.smul{n:Nat}{f:Rat->Rat}(r:Rat)(hf:Pl' n f):Pl' n λx=>r*f x:=(hf.mul (m:=0) (Pl'.const r)).congr λx=>Rat.mul_comm _ _
theorem Pl'.x:Pl' 2 λx=>x:=⟨X,1,⟨by decide,.inr (by decide),by decide⟩,JU,af _⟩
theorem Pl'.pow{s:Nat}{f:Rat->Rat}(hf:Pl' (s+1) f):∀ k:Nat,Pl' (s*k+1) λx=>f x^k
 | 0=>(Pl'.const 1).congr λx=>by rw [cC]
 | k+1=>((Pl'.pow hf k).mul hf).congr (λx=>by rw [cE]) |>.mono (by rw [bC];omega)
theorem Pl'.comp{P:List Int}{B:Int}{s:Nat}{g:Rat->Rat}(hg:Pl' (s+1) g):Pl' (s*(P.length-1)+1) λx=>E P B (g x):=by
 have go:∀ n,Pl' (s*(n-1)+1) λx=>er (q P B) (g x) n:=by
  intro n;induction n with
  | zero=>exact (Pl'.const 0).mono (by omega)
  | succ n ih =>
   have a:Pl' (s*n+1) λx=>q P B n*g x^n:=(hg.pow n).smul _;exact ((ih.mono (gy (ai _ (by omega)) 1)).add a).congr λx=>rfl
 refine (go P.length).congr λx=>?_;rw [Hh (λ_=>rfl)];rfl
theorem Gm{A D:List Int}{a d:Int}(fA:Po.Fm A a)(fD:Po.Fm D d)(h:∀ x,E A a x=E D d x)(i:Nat):q A a i=q D d i:=by
 obtain⟨rfl,rfl⟩:=tQ fA fD h;rfl
theorem vc{A H D:List Int}{a c d:Int}{u:Rat}(fA:Po.Fm A a)(fH:Po.Fm H c)(fD:Po.Fm D d)(h:∀ x,E A a x=u*E H c x+E D d x)(i:Nat):q A a i=u*q H c i+q D d i:=by
 obtain⟨t,v,hv,rfl⟩:=rX u;have p1:=az fH.pos hv;have z1:∀ k,H.length<=k->H.getD k 0*t=0:=λk hk=>by
  have:H.getD k 0=0:=qJ hk;rw [this];simp
 obtain⟨S,e,fS,w⟩:=has (F:=λk=>H.getD k 0*t) (n:=H.length) p1 z1;have eS:∀ x,E S e x=(t:Rat) / (v:Rat)*E H c x:=λx=>by
  rw [vD (N:=S.length+H.length) fS.pos (ax p1) w (by omega),tX,xZ (P:=H) (N:=S.length+H.length) (by omega),aw];have n1:=qF fH.pos;have n2:=qF hv;show ei (fn H) x _*_ / _=_;generalize ei (fn H) x (S.length+H.length)=y;grind
 have qS:q S e i=(t:Rat) / (v:Rat)*q H c i:=by
  rw [wz (f:=λk=>H.getD k 0*t) fS.pos (ax p1) w i,aw,aw];have n1:=qF fH.pos;have n2:=qF hv;unfold q;grind
 have p2:=az fS.pos fD.pos;obtain⟨V,b,fV,w2⟩:=has (F:=λk=>S.getD k 0*d+D.getD k 0*e) (n:=S.length+D.length) p2 λk hk=>by
  have x:S.getD k 0=0:=qJ (by omega);have y:D.getD k 0=0:=qJ (by omega);rw [x,y];simp
 rw [Gm fA fV (λx=>by rw [h,An fS.pos fD.pos fV.pos w2,eS]) i,Fb fS.pos fD.pos fV.pos w2,qS]
end Ap
namespace Ca
open L2 Cv Hv Pc Qp
theorem yl{G:List Int}{U:Int}(fG:Po.Fm G U)(k:Nat):∃ H C,Po.Fm H C/\(∀ x,E H C x=E G U x^k)/\∀ i,q H C i=((pw (fn G) k i:Int):Rat) / ((U^k:Int):Rat):=by
 induction k with
 | zero =>
  refine⟨[1],1,⟨by decide,.inr (by decide),by decide⟩,λx=>?_,λi=>?_⟩
  ·rw [cC];unfold E;show (0+((1:Int):Rat)*x^0) / ((1:Int):Rat)=1;rw [cC];show (0+(1:Rat)*1) / 1=1;grind
  ·rw [aU];unfold q;congr 1;cases i with
   | zero=>rfl
   | succ i=>rfl
 | succ k ih =>
  obtain⟨H,C,fH,eH,qH⟩:=ih;have p:=az fH.pos fG.pos;obtain⟨S,D,fS,w⟩:=Ap.has (F:=cv (fn H) (fn G)) (n:=H.length+G.length) p λj hj=>rH (a:=H.length) (b:=G.length) (λi h=>qJ h) (λi h=>qJ h) (by omega);refine⟨S,D,fS,λx=>by rw [uY fH.pos fG.pos fS w,eH,cE],λi=>?_⟩;have pU:(0:Int)<U^k:=bB fG.pos;have hk:∀ j,fn H j*U^k=pw (fn G) k j*C:=λj=>(rG (ax fH.pos) (ax pU)).mp (qH j);have e:cv (fn H) (fn G) i*U^k=pw (fn G) (k+1) i*C:=by
   show _=cv (pw (fn G) k) (fn G) i*C;rw [← sd,← sd];exact rc hk λ_=>rfl
  rw [wz (f:=λk=>cv (fn H) (fn G) k) fS.pos (ax p) w i];refine (rG (ax p) (ax (bB fG.pos))).mpr ?_;rw [aV]
  calc cv (fn H) (fn G) i*(U^k*U)=(cv (fn H) (fn G) i*U^k)*U:=by grind
   _=pw (fn G) (k+1) i*(C*U):=by rw [e];grind
end Ca
namespace Ca
open L2 Cv Hv Pc Qp
def Sem(P:List Int)(B:Int)(k s:Nat)(G:List Int)(U:Int):Prop:=∃ r:Rat->Rat,Ap.Pl' (k*s-s+1) r/\∀ x,E P B x=q P B (k*s)*E G U x^k+r x
theorem E6{G g:Nat->Int}{c U:Int}{k s j:Nat}(h:∀ i,i<s->G (s-i)*c^i=g i*U)(hj:j<s):pw (rv s G) k j*c^j=pw g k j*U^k:=by
 rw [← wB,← BK];refine Fc (n:=j) (λi hi=>?_) k j (af _);show rv s G i*c^i=g i*U;rw [← h i (by omega)];unfold rv;rw [if_pos (by omega)]
theorem Cand.sem{P G:List Int}{B U:Int}{k s:Nat}(fP:Po.Fm P B)(lP:P.length=k*s+1)(fG:Po.Fm G U)(lG:G.length=s+1)(k1:1<=k)(s1:1<=s)(h:Cand (λi=>P.getD i 0) k s (λi=>G.getD i 0) U):Sem P B k s G U:=by
 obtain⟨c,g,c0,g0,h1,h2,h3⟩:=h;obtain⟨H,C,fH,eH,qH⟩:=yl fG k;have ks:s<=k*s:=bo _ k1;obtain⟨R,D,fR,eR⟩:=(Ap.Pf.of fP).add ((Ap.Pf.const (-q P B (k*s))).mul (Ap.Pf.of fH));have eR:∀ x,E R D x=E P B x + -q P B (k*s)*E H C x:=eR;have qR:∀ i,q R D i = -q P B (k*s)*q H C i+q P B i:=Ap.vc fR fH fP λx=>by rw [eR];grind
 have z:∀ i,k*s-s+1<=i->q R D i=0:=λi hi=>by
  rw [qR,qH];rcases ar (k*s) i with w|w
  ·rw [wA (λj hj=>qJ (by omega)) k i w,sQ (P:=P) (k:=i) (by omega)];show _*((0:Rat) / _)+0=0;grind
  ·obtain⟨j,hj,rfl⟩:∃ j,j<s/\i=k*s-j:=⟨k*s-i,by omega,by omega⟩;rw [BL (λj hj=>qJ (by omega)) k j (by omega)];have a:=E6 (G:=fn G) (k:=k) h2 hj;have b:P.getD (k*s-j) 0*c^j=P.getD (k*s) 0*pw g k j:=h1 j hj;have cj:c^j≠0:=bP (ax c0);have e:P.getD (k*s-j) 0*U^k=P.getD (k*s) 0*pw (rv s (fn G)) k j:=by
    refine aH cj ?_
    calc P.getD (k*s-j) 0*U^k*c^j=(P.getD (k*s-j) 0*c^j)*U^k:=by grind
     _=P.getD (k*s) 0*(pw g k j*U^k):=by rw [b];grind
     _=P.getD (k*s) 0*pw (rv s (fn G)) k j*c^j:=by rw [← a];grind
   have e2:=congrArg (λz:Int=>(z:Rat)) e;simp only [aw] at e2;have n1:=qF fP.pos;have n2:=qF (show 0<U^k from bB fG.pos);unfold q;generalize ((pw (rv s (fn G)) k j:Int):Rat)=y at *;generalize ((P.getD (k*s) 0:Int):Rat)=p at *;generalize ((P.getD (k*s-j) 0:Int):Rat)=p' at *;generalize ((U^k:Int):Rat)=u at *;have:p'=p*y / u:=by grind
   rw [this];grind
 refine⟨E R D,⟨R,D,fR,λ_=>rfl,?_⟩,λx=>by rw [eR,eH];grind⟩;rcases ar (k*s-s+1) R.length with w|w
 ·exact absurd (z (R.length-1) (by omega)) (sY fR (by intro e;rw [e] at w;simp at w))
 ·exact w
theorem Sem.cand{P G:List Int}{B U:Int}{k s:Nat}(fP:Po.Fm P B)(fG:Po.Fm G U)(lG:G.length=s+1)(k1:1<=k)(s1:1<=s)(mon:G.getD s 0=U)(G0:G.getD 0 0=0)(h:Sem P B k s G U):Cand (λi=>P.getD i 0) k s (λi=>G.getD i 0) U:=by
 obtain⟨r,⟨R,D,fR,eR,lR⟩,e⟩:=h;obtain⟨H,C,fH,eH,qH⟩:=yl fG k;have ks:s<=k*s:=bo _ k1;have qq:=Ap.vc (u:=q P B (k*s)) fP fH fR λx=>by rw [e,eH,eR]
 have hg:∀ i,i<s->fn G (s-i)*U^i=(if i=0 then 1 else G.getD (s-i) 0*U^(i-1))*U:=λi hi=>by
  cases i with
  | zero =>
   rw [if_pos rfl,bx,aU];show G.getD s 0*1=1*U;rw [mon];omega
  | succ i =>
   rw [if_neg (by omega),aG,aV,bI];rfl
 refine⟨U,λi=>if i=0 then 1 else G.getD (s-i) 0*U^(i-1),fG.pos,rfl,λj hj=>?_,hg,G0⟩;have a:=E6 (k:=k) hg hj;have b:=qq (k*s-j);rw [qH,BL (λj hj=>qJ (by omega)) k j (by omega),sQ (P:=R) (by omega)] at b;have pU:(0:Int)<U^k:=bB fG.pos;have e2:P.getD (k*s-j) 0*U^k=P.getD (k*s) 0*pw (rv s (fn G)) k j:=by
  have n1:=qF fP.pos;have n2:=qF pU;unfold q at b;have:((P.getD (k*s-j) 0*U^k:Int):Rat)=((P.getD (k*s) 0*pw (rv s (fn G)) k j:Int):Rat):=by
   rw [aw,aw];generalize ((pw (rv s (fn G)) k j:Int):Rat)=y at *;generalize ((P.getD (k*s) 0:Int):Rat)=p at *;generalize ((P.getD (k*s-j) 0:Int):Rat)=p' at *;generalize ((U^k:Int):Rat)=u at *;have:p'=p*(y / u):=by grind
   rw [this];grind
  exact de.mp this
 refine aH (ax pU) ?_
 calc P.getD (k*s-j) 0*U^j*U^k=(P.getD (k*s-j) 0*U^k)*U^j:=by grind
  _=P.getD (k*s) 0*(pw (rv s (fn G)) k j*U^j):=by rw [e2];grind
  _=_:=by rw [a];grind
end Ca
namespace Ap
open L2 Cv Hv Pc Qp
theorem Ed.same{y x:Rat}:∀{ps qs:List Pl},(∀ t,ps.getD t ([],1)=qs.getD t ([],1))->Ed y x ps=Ed y x qs
 | [],[],_=>rfl
 | [],q::qs,h=>by
  have a:=h 0;have b:=Ed.same (ps:=[]) (qs:=qs) (y:=y) (x:=x) λt=>by have:=h (t+1);rw [bN] at this;exact this
  have a:(([],1):Pl)=q:=a;show 0=E q.1 q.2 x+y*Ed y x qs;rw [← a,← b];show (0:Rat)=E [] 1 x+y*0;rw [wg];grind
 | p::ps,[],h=>by
  have a:=h 0;have b:=Ed.same (ps:=ps) (qs:=[]) (y:=y) (x:=x) λt=>by have:=h (t+1);rw [bN] at this;exact this
  have a:p=(([],1):Pl):=a;show E p.1 p.2 x+y*Ed y x ps=0;rw [a,b];show E [] 1 x+y*0=(0:Rat);rw [wg];grind
 | p::ps,q::qs,h=>by
  have a:p=q:=h 0;have b:=Ed.same (ps:=ps) (qs:=qs) (y:=y) (x:=x) λt=>by have:=h (t+1);rw [bN,bN] at this;exact this
  show E p.1 p.2 x+y*Ed y x ps=E q.1 q.2 x+y*Ed y x qs;rw [a,b]
end Ap
namespace Dp
open PySem L2 Qp
theorem IN{P W:List Int}{B V:Int}(fP:Po.Fm P B)(fW:Po.Fm W V):∃ R C,Pc.Of P B W V R C:=by
 have p:0<B*V^P.length:=az fP.pos (bB fW.pos);obtain⟨R,C,fR,w⟩:=Ap.has (F:=Pc.pc (Cv.fn P) (Cv.fn W) V P.length) (n:=P.length*W.length+1) p λk hk=>Pc.wF (λj hj=>Cv.qJ hj) P.length k hk;exact⟨R,C,fR,w⟩
end Dp
namespace Dp
open PySem L2
theorem D2(l:List Nat):D.pls (l.map λs=>D.int ((s:Nat):Int))=true:=by
 induction l with
 | nil=>rfl
 | cons a l ih=>exact ih
theorem EK(l:List Nat):D.dps (l.map λs=>D.int ((s:Nat):Int))=0:=by
 induction l with
 | nil=>rfl
 | cons a l ih=>show max 0 (D.dps (l.map λs=>D.int ((s:Nat):Int)))=0;rw [ih];rfl
end Dp
namespace Dp
open PySem L2
def Cn(P:List Int)(k s:Nat)(G:List Int)(U:Int):Prop:=Po.Fm G U/\G.length=s+1/\Ca.Cand (λi=>P.getD i 0) k s (λi=>G.getD i 0) U
end Dp
namespace Dp
open PySem L2
def L4(P:List Int)(B:Int)(G:List Int)(U:Int):Prop:=∃ R C,Po.Fm R C/\∀ x,Qp.E P B x=Qp.E R C (Qp.E G U x)
theorem Cg{G R R':List Int}{U C C':Int}{s:Nat}(fG:Po.Fm G U)(lG:G.length=s+1)(s1:1<=s)(fR:Po.Fm R C)(fR':Po.Fm R' C')(h:∀ x,Qp.E R C (Qp.E G U x)=Qp.E R' C' (Qp.E G U x)):R=R'/\C=C':=by
 obtain⟨Cs,lC,hC,eC⟩:=wY R.length (Qp.q R C);obtain⟨Ds,lD,hD,eD⟩:=wY R'.length (Qp.q R' C');have u:=Ap.Ed.uniq2 fG lG (ps:=Cs) (qs:=Ds) (λq hq=>⟨(hC q hq).1,aC (hC q hq).2 s1⟩) (λq hq=>⟨(hD q hq).1,aC (hD q hq).2 s1⟩) (λx=>by rw [eC,eD,← Bd (af _),← Bd (af _),h]);exact Qp.tQ fR fR' λy=>by rw [Bd (af R.length),← eC 0 y,Ap.Ed.same u,eD,← Bd (af _)]
end Dp
namespace Dp
open PySem L2
theorem yn{p:Prop}[Decidable p]{a b:D}{Q:D->Prop}(h1:p->Q b)(h2:¬ p->Q a):bInt [.bl (decide p)] λd=>oIx (.lst [a,b]) d Q:=by
 by_cases c:p
 ·rw [decide_eq_true c];exact h1 c
 ·rw [decide_eq_false c];exact h2 c
end Dp
namespace Dp
open PySem L2
def nQ:TSd:=(hJ [] (g7 (gP (dC (.int 0)) (gP (dC (.int 1)) gR))))
def oQ:TSd:=dSq (dIf [] (g9 (il .Lt (gQ 1) (dB bLen bLen.mono (gP (dIx (gQ 0) (dC (.int 0))) gR))))
 (hJ [] (gS iq (gP (dIx (dIx (gQ 0) (dC (.int 0))) (gQ 1)) (gP (dIx (gQ 0) (dC (.int 1))) gR))))
 ii)
 nQ
theorem mY:Does 2 oQ jj:=by
 rintro ds Q hn ⟨⟨P,B,k,n,b⟩,⟨rfl,z1,hb⟩,q⟩;dsimp only at z1 hb q;have p1:=z1.fm.pos;refine vG (p:=((k:Nat):Int)<((P.map D.int).length:Nat)) (λc=>?_) (λc=>?_)
 ·rw [aa] at c;refine rl (rB (by omega)) ⟨rfl,(P.getD k 0,B),⟨rfl,by show B≠0;omega,z1.bot.mono hb⟩,?_⟩;rintro _ rfl;exact q _ (FqD.of p1 (z1.tops k) z1.bot)
 ·rw [aa] at c;refine⟨rJ,q _ ?_⟩;rw [Qp.sQ (by omega)];have:=r9 (n:=n) (t:=0) (uL _);refine this.mono (af _) ?_;cases b with
  | zero =>
   have:B.natAbs<1:=z1.bot;omega
  | succ b=>omega
def ig:SpB:=kr
def nR:TSd:=(hJ [] (gQ 2))
def nS:TSd:=dSq (iA [] (je (gQ 1)) (gNm 3)
 (gV [] (gNm 2) (gS ia (gP (gQ 2) (gP (gQ 0) gR)))))
 nR
def oR:TSd:=dSq (gV [] (gNm 2) (g7 (gP (g7 (gP (dC (.int 1)) gR)) (gP (dC (.int 1)) gR))))
 nS
theorem mZ:Does 4 oR ig:=mx
end Dp
namespace Dp
open PySem L2
theorem vq{ds:List D}{s0:SS}{g:TGd}{e:TEd}{Q:D->Prop}(W:Nat->D->Prop)(hl:ds.length<=16777216)(h:∀ i d,ds[i]? = some d->g.run d s0 λs1=>e.run s1 (W i))(q:∀ ys:List D,ys.length=ds.length->(∀ i y,ys[i]? = some y->W i y)->Q (.lst ys)):compD ds s0 g iQ e Q:=by
 refine⟨sE hl,λi ys=>ys.length=i/\∀ j y,ys[j]? = some y->W j y,⟨rfl,λj y h=>by cases h⟩,?_,?_⟩
 ·rintro i d ys hd _ ⟨l,hw⟩;refine g.mono (λs1 w=>?_) (h i d hd);refine e.mono (λy w=>?_) w;refine⟨by rw [aq,l];rfl,λj z hz=>?_⟩;rcases ar j ys.length with c|c
  ·rw [aR c] at hz;exact hw j z hz
  ·rw [av c] at hz;obtain⟨z1,z2⟩:=aj.mp hz;have e0:j-ys.length=0:=by simp at z1;omega
   have ej:j=i:=by omega
   subst ej;simp [e0] at hz;rw [← hz];exact w
 ·rintro ys _ ⟨l,hw⟩;exact q ys l hw
end Dp
namespace Dp
open PySem L2 Ch
theorem xW{l:List D}{j n:Nat}{Q:Nat->Prop}(e:l.length=n)(hj:1<=j)(hn:j<=n)(q:Q (n-j)):atD l (.int (-(j:Int))) Q:=by
 have e:xA l.length (-(j:Int))=some (n-j):=by
  unfold xA;rw [e,if_neg (by omega),if_pos (by omega)];congr 1;omega
 unfold atD;dsimp only;rw [e];exact q
def Dx(d:Pl):Prop:=d.1.getD (d.1.length-1) 0=d.2/\d.1.getD 0 0=0
theorem GQ{P R:List Int}{B C:Int}{n:Nat}(n1:1<=n)(fP:Po.Fm P B)(lP:P.length=n+1)(fR:Po.Fm R C)(eR:∀ x,Qp.E R C x=(Qp.E P B x-Qp.E P B 0)*(1 / Qp.q P B n)):R.length=n+1/\Dx (R,C):=by
 have q0:Qp.q P B n≠0:=by
  have:=Qp.sY fP (by rintro rfl;simp at lP);rw [lP] at this;exact this
 generalize hq:Qp.q P B n=c at *;obtain⟨N,e,fN,eN,lN⟩:=(((Ap.Pl'.of fP).mono (m:=n+1) (by omega)).smul (1 / c)).add ((Ap.Pl'.const (-Qp.E P B 0*(1 / c))).mono (by omega));obtain⟨T,f,fT,eT,lT⟩:=Ap.Pl'.const (-Qp.E P B 0*(1 / c));have qN:=Ap.vc (u:=1 / c) fN fP fT λx=>by rw [eN,eT]
 have n1':Qp.q N e n=1:=by
  rw [qN,hq,Qp.sQ (P:=T) (k:=n) (by omega)];grind
 have eN:∀ x,Qp.E N e x=(Qp.E P B x-Qp.E P B 0)*(1 / c):=λx=>by rw [eN];grind
 obtain⟨rfl,rfl⟩:=Qp.tQ fR fN λx=>by rw [eR,eN]
 have e0:=fN.pos;have nC:R.getD n 0=C:=by
  have h:((R.getD n 0:Int):Rat) / (C:Rat)=((1:Int):Rat) / ((1:Int):Rat):=by
   have:Qp.q R C n=((1:Int):Rat) / ((1:Int):Rat):=by rw [n1'];show (1:Rat)=1 / 1;grind
   exact this
  have:=(Qp.rG (ax e0) (by decide)).mp h;omega
 have lR:R.length=n+1:=by
  rcases ar n R.length with w|w
  ·omega
  ·rw [qG w] at nC;omega
 refine⟨lR,?_,?_⟩
 ·show R.getD (R.length-1) 0=C;rw [lR,aG];exact nC
 ·have h:Qp.q R C 0=0:=by
   rw [← Qp.sv,eN];grind
  have n2:=Qp.qF e0;unfold Qp.q at h;have:((R.getD 0 0:Int):Rat)=0:=by
   generalize ((R.getD 0 0:Int):Rat)=y at *;have:y=y / (C:Rat)*C:=by grind
   rw [this,h];grind
  exact cU.mp this
def ni:TSd:=(dSq (gV [] (gNm 4) (gS iH (gP (gS jj (gP (gQ 3) (gP (gU .Sub (dB bLen bLen.mono (gP (dIx (gQ 3) (dC (.int 0))) gR)) (dC (.int 1))) gR))) (gP (gS jj (gP (gQ 3) (gP (dC (.int 0)) gR))) gR))))
 (dSq (kh [] 1 (gS gX (gP (gS ic (gP (gQ 4) gR)) (gP (gQ 3) gR))))
 (jv [] 2 (jP (dC (.int 1))) (gS gX (gP (jB 2 (jP (dC (.int 1)))) (gP (gQ 4) gR))))))
def pT:TSd:=dSq (mo 3 2)
 ni
theorem AH{us found:List Pl}{p l:Pl}{dl dp n b m c:Nat}{d0:D}{o3 o4:SD}{E:EndsD}(zl:Pc.Pz n b l.1 l.2)(ll:l.1.length=dl+1)(dl2:2<=dl)(dl6:dl<=6)(zp:Pc.Pz m c p.1 p.2)(lp:p.1.length=dp+1)(dp2:2<=dp)(dp6:dp<=6)(nb:n+b<=3900)(b2:b<=2000)(mc:m<=30000)(mc':c<=30000)(lf:found.length<=100)(lu:us.length<=100)
  (hE:∀(d p':Pl) o3 o4,Po.Fm d.1 d.2->d.1.length=dl+1->Dx d->Pc.Pz (m+(2*n+4*b+10)*(dp+1)+1) (c+(2*b*(dp+1)+1)) p'.1 p'.2->p'.1.length=dp+1->E.nx [.val d0,.own ((found++[d]).map pq),.own ((us++[p']).map pq),o3,o4]) :
  pT.run E [.val d0,.own (found.map pq),.own ((us++[p,l]).map pq),o3,o4]:=by
 have fl:=zl.fm;have e1:(us++[p,l]).map pq=(us.map pq++[pq p])++[pq l]:=by rw [a5];simp
 have e2:(us.map pq++[pq p]++[pq l]).dropLast=us.map pq++[pq p]:=gu;have q0:Qp.q l.1 l.2 dl≠0:=by
  have:=Qp.sY fl (by intro e;rw [e] at ll;simp at ll);rw [ll] at this;exact this
 rw [e1];refine⟨pq l,?_,?_⟩
 ·simp
 show (ni).run E [.val d0,.own (found.map pq),.own (us.map pq++[pq p]++[pq l]).dropLast,.val (pq l),o4];rw [e2];have ed:(((l.1.map D.int).length:Nat):Int)-1=((dl:Nat):Int):=by rw [aa,ll];omega
 refine⟨rfl,(l.1,l.2,dl,n,b),⟨congrArg (λz=>[pq l,.int z]) ed,zl,by show b<=9000000;omega⟩,?_⟩;rintro d1 f1;refine⟨rfl,(l.1,l.2,0,n,b),⟨rfl,zl,by show b<=9000000;omega⟩,?_⟩;rintro d2 f2;have f1:FqD n b d1 (Qp.q l.1 l.2 dl):=f1;have f2:FqD n b d2 (Qp.q l.1 l.2 0):=f2;refine⟨rfl,(d1,d2,_,_,n,b,n,b),⟨rfl,f1,f2,by show b+b<=4000;omega,by show n<=100000;omega,by show n<=100000;omega⟩,?_⟩;rintro _ ⟨G,U,rfl,zG,eG,lG,g0,g1⟩;have g1:Qp.q G U 1=Qp.q l.1 l.2 dl:=g1;have g0:Qp.q G U 0=Qp.q l.1 l.2 0:=g0;have zG:Pc.Pz (2*n+2*b) (2*b) G U:=zG.mono (by show n+n+b+b<=_;omega) (by show b+b<=_;omega);obtain⟨len,n1⟩:=yi (by rw [g1];exact q0) lG;refine⟨rfl,(G,U,2*n+2*b,2*b),⟨rfl,zG,len,n1,by show 2*n+2*b<=8000;omega,by show 2*b<=8000;omega⟩,?_⟩;rintro _ ⟨T,A,rfl,zT,lT,t1,t0⟩;have zT:Pc.Pz (2*n+2*b+2*b+1) (2*n+2*b) T A:=zT;have lT:T.length<=2:=lT;have t1:Qp.q T A 1=1 / Qp.q G U 1:=t1;have t0:Qp.q T A 0=(0-Qp.q G U 0) / Qp.q G U 1:=t0;rw [g1] at t1 t0;rw [g0] at t0;have w1:(n+b+10)*(T.length+1)<=(n+b+10)*3:=ai _ (by omega);have w2:b*T.length<=b*2:=ai _ lT;have w3:T.length*l.1.length<=2*7:=aX lT (by omega);refine⟨rfl,(T,A,l.1,l.2,_,_,n,b),⟨rfl,zT,zl,by show 2*n+2*b+(2*n+2*b)+b*T.length<=8900000;omega,by show 2*n+2*b+2*b+1+(n+b+10)*(T.length+1)<=4000000;omega,by show T.length*l.1.length<=190;omega,by show T.length<=190;omega,by show l.1.length<=190;omega⟩,?_⟩;rintro _ ⟨R,C,rfl,o⟩;have o:Pc.Of T A l.1 l.2 R C:=o;have eR:∀ x,Qp.E R C x=(Qp.E l.1 l.2 x-Qp.E l.1 l.2 0)*(1 / Qp.q l.1 l.2 dl):=λx=>by
  have eT:Qp.E T A (Qp.E l.1 l.2 x)=Qp.q T A 0+Qp.q T A 1*Qp.E l.1 l.2 x:=Qp.FK lT _;rw [Qp.Dz zT.fm.pos fl.pos o,eT,t1,t0,Qp.sv];grind
 obtain⟨lR,neR⟩:=GQ (by omega) fl ll o.1 eR;have atp:vB (us.map pq++[pq p]) (-1)=some (pq p):=tE (j:=1) (n:=us.length+1) (by rw [aG,av (by rw [aa];exact af _),aa,bc];rfl) (by rw [aq,aa];rfl) (by decide) (by omega);have w4:(2*n+2*b+2*b+10)*(p.1.length+1)<=(2*n+2*b+2*b+10)*8:=ai _ (by omega);have w5:2*b*p.1.length<=2*b*7:=ai _ (by omega);have w6:p.1.length*G.length<=7*2:=aX (by omega) (by omega);refine⟨(congrArg (· < sizeLine) (aa _)).mpr (by rw [sizeLine_eq];omega),rT atp ⟨rfl,(p.1,p.2,G,U,m,c,2*n+2*b,2*b),⟨rfl,zp,zG,by show c+c+2*b*p.1.length<=8900000;omega,by show m+(2*n+2*b+2*b+10)*(p.1.length+1)<=4000000;omega,by show p.1.length*G.length<=190;omega,by show p.1.length<=190;omega,by show G.length<=190;omega⟩,?_⟩⟩;rintro _ ⟨S,D1,rfl,os⟩;have os:Pc.Of p.1 p.2 G U S D1:=os;obtain⟨lS,_⟩:=Ch.sh zp.fm zG.fm len n1 (by omega) os;have zS:=os.size zp zG (by omega);refine xW (j:=1) (n:=us.length+1) (by rw [aq,aa];rfl) (by decide) (by omega) ?_;have e3:(us.map pq++[pq p]).set (us.length+1-1) (pD S D1)=(us++[(S,D1)]).map pq:=by
  rw [aG,List.set_append,if_neg (by rw [aa];exact bt _),aa,bc,a5];rfl
 show E.nx [.val d0,.own (found.map pq++[pD R C]),.own ((us.map pq++[pq p]).set (us.length+1-1) (pD S D1)),.val (pq l),.val (pD G U)];rw [e3,show found.map pq++[pD R C]=(found++[(R,C)]).map pq by rw [a5];rfl];refine hE (R,C) (S,D1) _ _ o.1 lR neR (zS.mono ?_ ?_) (by show S.length=_;rw [lS,lp])
 ·rw [lp,show 2*n+2*b+2*b+10=2*n+4*b+10 by omega];exact af _
 ·rw [lp];exact af _
def rW(n b:Nat):Nat->Nat×Nat
 | 0=>(n,b)
 | j+1=>(n+(2*(rW n b j).1+4*(rW n b j).2+10)*7+1,b+(2*(rW n b j).2*7+1))
def KN(es:List Pl):Prop:=(∀ c∈es,Po.Fm c.1 c.2)/\∀ i c,es[i]? = some c->1<=i->Dx c
def ij:SpB:=.of 1 (α:=List Pl×Nat×Nat) (λ(cs,n,b) ds=>ds=[cD cs]/\2<=cs.length/\cs.length<=3/\(∀ c∈cs,3<=c.1.length/\c.1.length<=7)/\(∃ c0 ts,cs=c0::ts/\Pc.Pz 20000 20000 c0.1 c0.2/\∀ c∈ts,Pc.Pz n b c.1 c.2)/\∀ j,j+2<=cs.length->(rW n b j).1+(rW n b j).2<=3900/\(rW n b j).2<=2000)
 (λ(cs,n,b) d=>∃ es,d=cD es/\es.length=cs.length/\(∀ i:Nat,(es.getD i ([],1)).1.length=(cs.getD i ([],1)).1.length)/\KN es)
def jJ:TSd:=(hJ [1] (oj (gQ 1)))
def mB:TSd:=dSq (kh [] 1 (jB 2 (dC (.int 0))))
 jJ
def mC:TSd:=dSq (iR (g9 (il .Gt (kc 2) (dC (.int 1))))
 (dSq (mo 3 2)
 (dSq (gV [] (gNm 4) (gS iH (gP (gS jj (gP (gQ 3) (gP (gU .Sub (dB bLen bLen.mono (gP (dIx (gQ 3) (dC (.int 0))) gR)) (dC (.int 1))) gR))) (gP (gS jj (gP (gQ 3) (gP (dC (.int 0)) gR))) gR))))
 (dSq (kh [] 1 (gS gX (gP (gS ic (gP (gQ 4) gR)) (gP (gQ 3) gR))))
 (jv [] 2 (jP (dC (.int 1))) (gS gX (gP (jB 2 (jP (dC (.int 1)))) (gP (gQ 4) gR))))))))
 mB
def mD:TSd:=dSq (jC [] 2 (ja (gQ 0)))
 mC
def nV:TSd:=dSq (jC [] 1 (ir gR))
 mD
theorem vN{n b:Nat}:∀ j,n<=(rW n b j).1/\b<=(rW n b j).2
 | 0=>⟨af _,af _⟩
 | j+1=>⟨by show n<=n+_+1;omega,by show b<=b+_;omega⟩
theorem l5:Does 5 nV ij:=by
 rintro ds Q hn ⟨⟨cs,n,b⟩,⟨rfl,l2,l3,hl,⟨c0,ts,rfl,z0,zt⟩,hs⟩,q⟩;dsimp only at l2 l3 hl zt hs q;refine⟨aB _,λst=>∃(us found:List Pl) (l:Pl) (o3 o4:SD),st=[.val (cD (c0::ts)),.own (found.map pq),.own ((us++[l]).map pq),o3,o4]/\us=(c0::ts).take us.length/\us.length+1+found.length=(c0::ts).length/\l.1.length=((c0::ts).getD us.length ([],1)).1.length/\Po.Fm l.1 l.2/\(1<=us.length->Pc.Pz (rW n b found.length).1 (rW n b found.length).2 l.1 l.2)/\(∀ j d,found[j]? = some d->Po.Fm d.1 d.2/\Dx d/\d.1.length=((c0::ts).getD (ts.length-j) ([],1)).1.length),λst=>match st with|[_,_,.own l,_,_]=>l.length|_=>0,?_,?_⟩
 ·obtain⟨us,l,e⟩:∃ us l,c0::ts=us++[l]:=⟨(c0::ts).dropLast,(c0::ts).getLast (by simp),(fi _).symm⟩;have lu:us.length+1=(c0::ts).length:=by rw [e,aq];rfl
  have gl:(c0::ts)[us.length]? = some l:=by rw [e,av (af _),bc];rfl
  have gm:l∈c0::ts:=aL gl;refine⟨us,[],l,.no,.no,by rw [← e];rfl,by rw [e,fv],by show us.length+1+0=_;omega,by rw [rf gl],?_,λh1=>?_,λj d h=>by simp at h⟩
  ·rcases am.mp gm with y|y
   ·rw [y];exact z0.fm
   ·exact (zt _ y).fm
  ·refine zt l ?_;obtain⟨i,hi⟩:∃ i,us.length=i+1:=⟨us.length-1,by omega⟩;rw [hi,cu] at gl;exact aL gl
 rintro _ ⟨us,found,l,o3,o4,rfl,eu,lu,ll,fl,zl,hf⟩;have lts:(c0::ts).length=ts.length+1:=rfl;have eL:((us++[l]).map pq).length=us.length+1:=by rw [aa,aq];rfl
 refine vG (p:=(1:Int)<(((us++[l]).map pq).length:Nat)) (λcc=>?_) (λcc=>?_)
 ·rw [eL] at cc;obtain⟨vs,p,rfl⟩:∃ vs p,us=vs++[p]:=⟨us.dropLast,us.getLast (by rintro rfl;simp at cc),(fi _).symm⟩;have lv:(vs++[p]).length=vs.length+1:=by rw [aq];rfl
  rw [lv] at eu lu ll zl cc;have gp:(c0::ts)[vs.length]? = some p:=by
   have e1:(vs++[p])[vs.length]? = some p:=by rw [av (af _),bc];rfl
   rw [eu,dw,if_pos (by omega)] at e1;exact e1
  have ev:vs=(c0::ts).take vs.length:=by
   have e1:(vs++[p]).take vs.length=vs:=fv;rw [eu,List.take_take,df (by omega)] at e1;exact e1.symm
  have mp:=aL gp;have zp:Pc.Pz 20000 20000 p.1 p.2/\(1<=vs.length->Pc.Pz n b p.1 p.2):=by
   refine⟨?_,λh1=>?_⟩
   ·have h39:=(hs 0 (by omega)).1;rcases am.mp mp with y|y
    ·rw [y];exact z0
    ·exact (zt _ y).mono (by have:(rW n b 0).1=n:=rfl;omega) (by have:(rW n b 0).2=b:=rfl;omega)
   ·refine zt p ?_;obtain⟨i,hi⟩:∃ i,vs.length=i+1:=⟨vs.length-1,by omega⟩;rw [hi,cu] at gp;exact aL gp
  obtain⟨p3,p7⟩:=hl p mp;have lgl:(c0::ts)[vs.length+1]? = some ((c0::ts).getD (vs.length+1) ([],1)):=by
   rw [ac,ao (by omega)];rfl
  obtain⟨q3,q7⟩:=hl _ (aL lgl);rw [← ll] at q3 q7;obtain⟨h39,h20⟩:=hs found.length (by omega);have lp:p.1.length=((c0::ts).getD vs.length ([],1)).1.length:=by rw [rf gp]
  rw [show vs++[p]++[l]=vs++[p,l] by simp];obtain⟨m,c,hm,hc,zp',hmc⟩:∃ m c:Nat,m<=30000/\c<=30000/\Pc.Pz m c p.1 p.2/\(1<=vs.length->m=n/\c=b):=by
   by_cases hv:1<=vs.length
   ·exact⟨n,b,by have:=(vN (n:=n) (b:=b) found.length).1;omega,by have:=(vN (n:=n) (b:=b) found.length).2;omega,zp.2 hv,λ_=>⟨rfl,rfl⟩⟩
   ·exact⟨20000,20000,by decide,by decide,zp.1,λh=>absurd h hv⟩
  refine AH (dl:=l.1.length-1) (dp:=p.1.length-1) (zl (by omega)) (by omega) (by omega) (by omega) zp' (by omega) (by omega) (by omega) h39 h20 hm hc (by omega) (by omega) λd p' o3 o4 fd ld nd zp2 lp'=>⟨⟨vs,found++[d],p',o3,o4,rfl,ev,by rw [aq];show vs.length+1+(found.length+1)=_;omega,by rw [lp',← lp];omega,zp2.fm,λh1=>?_,λj e hj=>?_⟩,?_⟩
  ·obtain⟨rfl,rfl⟩:=hmc h1;rw [aq];refine zp2.mono ?_ ?_
   ·show _<=m+(2*(rW m c found.length).1+4*(rW m c found.length).2+10)*7+1;have:(2*(rW m c found.length).1+4*(rW m c found.length).2+10)*(p.1.length-1+1)<=(2*(rW m c found.length).1+4*(rW m c found.length).2+10)*7:=ai _ (by omega);omega
   ·show _<=c+(2*(rW m c found.length).2*7+1);have:2*(rW m c found.length).2*(p.1.length-1+1)<=2*(rW m c found.length).2*7:=ai _ (by omega);omega
  ·rcases ar j found.length with y|y
   ·rw [aR y] at hj;exact hf j e hj
   ·have ej:j=found.length:=by
     have:=(aj.mp hj).1;rw [aq] at this;simp at this;omega
    subst ej;rw [av (af _),bc] at hj;cases hj;refine⟨fd,nd,?_⟩;rw [ld,show ts.length-found.length=vs.length+1 by omega,← ll];omega
  ·show ((vs++[p']).map pq).length<((vs++[p,l]).map pq).length;simp
 ·rw [eL] at cc;have u0:us=[]:=bR.mp (by omega);subst u0;have lu:0+1+found.length=(c0::ts).length:=lu;show itD (([]++[l]:List Pl).map pq) ((0:Nat):Int) (λd=>(found.map pq).length<sizeLine/\jJ.run (qX Q) [.val (cD (c0::ts)),.own (found.map pq++[d]),.own (([]++[l]:List Pl).map pq),o3,o4]);refine rl (n:=0) (d:=pq l) rfl ⟨(congrArg (· < sizeLine) (aa _)).mpr (by rw [sizeLine_eq];omega),⟨_,rfl,?_⟩⟩;have e1:found.map pq++[pq l]=(found++[l]).map pq:=by rw [a5];rfl
  show Q (.tup (found.map pq++[pq l]).reverse);rw [e1,← dR];have lfl:(found++[l]).length=found.length+1:=by rw [aq];rfl
  have key:∀ i (d:Pl),(found++[l]).reverse[i]? = some d->Po.Fm d.1 d.2/\(1<=i->Dx d)/\d.1.length=((c0::ts).getD i ([],1)).1.length:=λi d hd=>by
   have hi:=(aj.mp hd).1;rw [aN,lfl] at hi;rw [bu (by rw [lfl];exact hi),lfl] at hd;rcases cR i with y|y
   ·subst y;rw [bx,aG,av (af _),bc] at hd;cases hd;exact⟨fl,λh=>absurd h (by decide),ll⟩
   ·rw [aR (by omega)] at hd;obtain⟨a1,a2,a3⟩:=hf _ d hd;refine⟨a1,λ_=>a2,?_⟩;rw [a3];congr 3;omega
  refine q _ ⟨(found++[l]).reverse,rfl,by rw [aN,lfl];omega,λi=>?_,⟨λc hc=>?_,λi c hc hi=>(key i c hc).2.1 hi⟩⟩
  ·rcases ar i (found.length+1) with y|y
   ·have e2:(found++[l]).reverse[i]? = some ((found++[l]).reverse[i]'(by rw [aN,lfl];exact y)):=ao _;rw [rf e2];exact (key i _ e2).2.2
   ·rw [qG (by rw [aN,lfl];exact y),qG (by omega)]
  ·obtain⟨i,hi⟩:=bA.mp hc;exact (key i c hi).1
end Dp
namespace Dp
open PySem L2 Ch
theorem vf{l:List D}{i:Int}{Q:D->Prop}(h0:0<=i)(h1:i<(l.length:Int))(h:∀ d∈l,Q d):itD l i Q:=by
 obtain⟨n,rfl⟩:=bD h0;have hn:n<l.length:=by omega
 exact rl (ao hn) (h _ (c7 hn))
theorem BM{P R:List Int}{B C:Int}{k d:Nat}(fP:Po.Fm P B)(lP:P.length=d+1)(fR:Po.Fm R C)(h:∀ j,R.getD j 0*B^k=Pc.cp (Cv.fn P) k j*C):R.length=k*d+1:=by
 have hg:∀ j,d<j->Cv.fn P j=0:=λj hj=>Cv.qJ (by omega);have Bk:B^k≠0:=bP (ax fP.pos);have tp:=rN fP lP;have up:R.length<=k*d+1:=Pc.rh fR (bB fP.pos:0<B^k) h λj hj=>Pc.uU (m:=d+1) (λk hk=>hg k (by omega)) k j (by show k*d+1<=j;exact hj);rcases ar (k*d) R.length with c|c
 ·omega
 ·exfalso;have e:=h (k*d);rw [qG c,aI,Pc.wX hg] at e;exact br (bP (show Cv.fn P d≠0 from tp)) (ax fR.pos) e.symm
theorem FR{P Q R:List Int}{B C E:Int}{a b:Nat}(fP:Po.Fm P B)(lP:P.length=a+1)(fQ:Po.Fm Q C)(lQ:Q.length=b+1)(fR:Po.Fm R E)(h:∀ k,R.getD k 0*(B*C)=Cv.cv (Cv.fn P) (Cv.fn Q) k*E):R.length=a+b+1:=by
 have hP:∀ j,a<j->Cv.fn P j=0:=λj hj=>Cv.qJ (by omega);have hQ:∀ j,b<j->Cv.fn Q j=0:=λj hj=>Cv.qJ (by omega);have p:=az fP.pos fQ.pos;have up:R.length<=a+b+1:=Pc.rh fR p h λj hj=>Cv.rH (a:=a+1) (b:=b+1) (λj h=>hP j h) (λj h=>hQ j h) (by omega);rcases ar (a+b) R.length with c|c
 ·omega
 ·exfalso;have e:=h (a+b);rw [qG c,aI,Pc.wW hP hQ] at e;exact br (br (show Cv.fn P a≠0 from rN fP lP) (show Cv.fn Q b≠0 from rN fQ lQ)) (ax fR.pos) e.symm
theorem cX{m:Nat}(hm:m<=6){Q:D->Prop}(q:∀ R C,Pc.Pz 61 7 R C->R.length=m+1->Q (pD R C)):[pD Pc.X 1,.int (m:Int)].length=ig.n/\ig.run [pD Pc.X 1,.int (m:Int)] Q:=by
 refine⟨rfl,(Pc.X,1,m,1,1),⟨rfl,Pc.Du,by show m*2<=400;omega,by show m<=400;omega,by decide,by show 1*m+1+1<=9000000;omega,by show (1+9)*m+1+1<=9000000;omega⟩,?_⟩;rintro _ ⟨R,C,rfl,hR,zR,_⟩;have lR:=BM (d:=1) Pc.Du.fm rfl zR.fm hR;exact q R C (zR.mono (by show (1+9)*m+1<=61;omega) (by show 1*m+1<=7;omega)) (by rw [lR,dH])
theorem cH{P:List Int}{B:Int}{d k:Nat}(z:Pc.Pz 2 3 P B)(lP:P.length=d+1)(hk:k<=5)(hd:d<=5){Q:D->Prop}(q:∀ R C,Pc.Pz 56 16 R C->R.length=k*d+1->Q (pD R C)):[pD P B,.int (k:Int)].length=ig.n/\ig.run [pD P B,.int (k:Int)] Q:=by
 have kl:k*P.length<=5*6:=aX hk (by omega);refine⟨rfl,(P,B,k,2,3),⟨rfl,z,by show k*P.length<=400;omega,by show k<=400;omega,by show P.length<=400;omega,by show 3*k+1+3<=9000000;omega,by show (2+9)*k+1+2<=9000000;omega⟩,?_⟩;rintro _ ⟨R,C,rfl,hR,zR,_⟩;have lR:=BM z.fm lP zR.fm hR;exact q R C (zR.mono (by show (2+9)*k+1<=56;omega) (by show 3*k+1<=16;omega)) lR
theorem cT{P P':List Int}{B B':Int}{n b m c x y:Nat}(z:Pc.Pz n b P B)(z':Pc.Pz m c P' B')(l:P.length=x+1)(l':P'.length=y+1)(hx:x<=10)(hy:y<=10)(h1:b+c<=300)(h2:n+m<=390){Q:D->Prop}(q:∀ R C,Pc.Pz 400 300 R C->R.length=x+y+1->Q (pD R C)):[pD P B,pD P' B'].length=ia.n/\ia.run [pD P B,pD P' B'] Q:=by
 refine⟨rfl,(P,B,P',B',n,b,m,c),⟨rfl,z,z',by show b+c<=9000000;omega,by show n+m<=9000000;omega,by show P.length<=450;omega,by show P'.length<=450;omega⟩,?_⟩;rintro _ ⟨R,C,rfl,fR,hR⟩;refine q R C (Pc.Pz.of fR (az z.fm.pos z'.fm.pos) hR (λk=>?_) ((z.bot.mul z'.bot).mono (by omega))) (FR z.fm l z'.fm l' fR hR);rcases ar k 31 with y|y
 ·exact (Cv.Af (b:=5) z.tops z'.tops (by omega)).mono (by omega)
 ·rw [Cv.rH (a:=x+1) (b:=11) (λj h=>Cv.qJ (by omega)) (λj h=>Cv.qJ (by omega)) (by omega)];exact uL _
def DG(P:List Int)(B:Int):Prop:=Pc.Pz 8 4 P B/\P.length=2/\P.getD 1 0≠0
theorem cA{A L1 L2:List Int}{α B1 B2:Int}{n b d:Nat}(z:Pc.Pz n b A α)(lA:A.length=d+1)(d2:2<=d)(d6:d<=6)(h1:n<=3000)(h2:b<=3000)(s1:DG L1 B1)(s2:DG L2 B2){Q:D->Prop}(q:∀ R C,Pc.Pz 20000 20000 R C->R.length=d+1->Q (pD R C)):[pD A α,pD L2 B2].length=gX.n/\gX.run [pD A α,pD L2 B2] λe=>[pD L1 B1,e].length=gX.n/\gX.run [pD L1 B1,e] Q:=by
 obtain⟨z1,l1,n1⟩:=s1;obtain⟨z2,l2,n2⟩:=s2;refine⟨rfl,(A,α,L2,B2,n,b,8,4),⟨rfl,z,z2,by show b+b+4*A.length<=8900000;omega,by show n+(8+4+10)*(A.length+1)<=4000000;omega,by show A.length*L2.length<=190;rw [l2];omega,by show A.length<=190;omega,by show L2.length<=190;omega⟩,?_⟩;rintro _ ⟨S,D1,rfl,o⟩;have o:Pc.Of A α L2 B2 S D1:=o;obtain⟨lS,_⟩:=sh z.fm z2.fm l2 n2 (by omega) o;have zS:=(o.size z z2 (by rw [l2];omega)).mono (n':=n+180) (b':=b+40) (by omega) (by omega);refine⟨rfl,(L1,B1,S,D1,8,4,n+180,b+40),⟨rfl,z1,zS,by show 4+4+(b+40)*L1.length<=8900000;rw [l1];omega,by show 8+(n+180+(b+40)+10)*(L1.length+1)<=4000000;rw [l1];omega,by show L1.length*S.length<=190;rw [l1];omega,by show L1.length<=190;omega,by show S.length<=190;omega⟩,?_⟩;rintro _ ⟨R,C,rfl,o'⟩;have o':Pc.Of L1 B1 S D1 R C:=o';obtain⟨lR,_⟩:=tV l1 n1 z1.fm zS.fm (by omega) o';have zR:=o'.size z1 zS (by rw [l1];omega);rw [l1] at zR;exact q R C (zR.mono (by omega) (by omega)) (by rw [lR,lS,lA])
theorem cB{A L2 L3:List Int}{α B2 B3:Int}{n b d:Nat}(z:Pc.Pz n b A α)(lA:A.length=d+1)(d2:2<=d)(d6:d<=6)(h1:n<=400)(h2:b<=300)(s2:DG L2 B2)(s3:DG L3 B3){Q:D->Prop}(q:∀ R C,Pc.Pz 2000 800 R C->R.length=d+1->Q (pD R C)):[pD L2 B2].length=ic.n/\ic.run [pD L2 B2] λe0=>[pD A α,pD L3 B3].length=gX.n/\gX.run [pD A α,pD L3 B3] λe=>[e0,e].length=gX.n/\gX.run [e0,e] Q:=by
 obtain⟨z1,l1,n1⟩:=s2;obtain⟨z2,l2,n2⟩:=s3;refine⟨rfl,(L2,B2,8,4),⟨rfl,z1,l1,n1,by decide,by decide⟩,?_⟩;rintro _ ⟨T,τ,rfl,zT,lT,t1,t0⟩;have zT:Pc.Pz 13 8 T τ:=zT;have lT:T.length<=2:=lT;have t1:Qp.q T τ 1=1 / Qp.q L2 B2 1:=t1;have q1:Qp.q L2 B2 1≠0:=by
  have:=Qp.sY z1.fm (by intro e;rw [e] at l1;simp at l1);rw [l1] at this;exact this
 obtain⟨lT,nT⟩:=yi (by rw [t1];exact yx q1) lT;refine⟨rfl,(A,α,L3,B3,n,b,8,4),⟨rfl,z,z2,by show b+b+4*A.length<=8900000;omega,by show n+(8+4+10)*(A.length+1)<=4000000;omega,by show A.length*L3.length<=190;rw [l2];omega,by show A.length<=190;omega,by show L3.length<=190;omega⟩,?_⟩;rintro _ ⟨S,D1,rfl,o⟩;have o:Pc.Of A α L3 B3 S D1:=o;obtain⟨lS,_⟩:=sh z.fm z2.fm l2 n2 (by omega) o;have zS:=(o.size z z2 (by rw [l2];omega)).mono (n':=n+180) (b':=b+40) (by omega) (by omega);refine⟨rfl,(T,τ,S,D1,13,8,n+180,b+40),⟨rfl,zT,zS,by show 8+8+(b+40)*T.length<=8900000;rw [lT];omega,by show 13+(n+180+(b+40)+10)*(T.length+1)<=4000000;rw [lT];omega,by show T.length*S.length<=190;rw [lT];omega,by show T.length<=190;omega,by show S.length<=190;omega⟩,?_⟩;rintro _ ⟨R,C,rfl,o'⟩;have o':Pc.Of T τ S D1 R C:=o';obtain⟨lR,_⟩:=tV lT nT zT.fm zS.fm (by omega) o';have zR:=o'.size zT zS (by rw [lT];omega);rw [lT] at zR;exact q R C (zR.mono (by omega) (by omega)) (by rw [lR,lS,lA])
theorem c3{g:TGd}{e:TEd}{s0:SS}{Q:D->Prop}(h:∀(i:Nat) (d:D),(sA 0 3)[i]? = some d->g.run d s0 λs1=>e.run s1 λy=>∃ P B,y=pD P B/\DG P B)(q:∀ P1 B1 P2 B2 P3 B3,DG P1 B1->DG P2 B2->DG P3 B3->Q (.lst [pD P1 B1,pD P2 B2,pD P3 B3])):compD (sA 0 3) s0 g iQ e Q:=by
 refine vq (λ_ y=>∃ P B,y=pD P B/\DG P B) (by rw [qQ];decide) h λys ly hy=>?_;rw [qQ] at ly;match ys,ly,hy with
 | [y1,y2,y3],_,hy =>
  obtain⟨P1,B1,rfl,s1⟩:=hy 0 y1 rfl;obtain⟨P2,B2,rfl,s2⟩:=hy 1 y2 rfl;obtain⟨P3,B3,rfl,s3⟩:=hy 2 y3 rfl;exact q _ _ _ _ _ _ s1 s2 s3
theorem JP{Q:D->Prop}(q:∀ P B,DG P B->Q (pD P B)):[D.fl,.int 3].length=gY.n/\gY.run [.fl,.int 3] Q:=by
 refine⟨rfl,(3,2),⟨rfl,by decide,by unfold Lt2;decide,by decide,by decide⟩,?_⟩;rintro _ ⟨P,B,rfl,z,l,n⟩;exact q P B ⟨z,l,n⟩
def jZ:SpB:=.of 2 (α:=Unit) (λ_ ds=>ds=[.fl,.int 3]) (λ_ d=>∃ A α B β,∃ m k:Nat,∃ w:D,d = .tup [pD A α,pD B β,w]/\Pc.Pz 20000 20000 A α/\Pc.Pz 2000 800 B β/\A.length=m+1/\B.length=k+1/\2<=m/\m<=6/\2<=k/\k<=6/\m*k<=12)
def jK:TSd:=(hJ [] (g7 (gP (gS gX (gP (gQ 12) (gP (gS gX (gP (gQ 5) (gP (gQ 13) gR))) gR))) (gP (gS gX (gP (gS ic (gP (gQ 13) gR)) (gP (gS gX (gP (gQ 6) (gP (gQ 14) gR))) gR))) (gP (gQ 4) gR)))))
def i7:TSd:=dSq (gV [] (gTl [12,13,14]) (iz (je (dC (.int 3))) [11] (gNm 11) iQ (gS gY (gP (gQ 0) (gP (gQ 1) gR)))))
 jK
def mE:TSd:=dSq (dIf [] (g9 (il .Eq (gQ 4) (dC (.int 0))))
 (dSq (gV [] (gNm 7) (gS hX (gP (gQ 0) (gP (gS gT (gP (gQ 0) (gP (gU .Add (gU .FloorDiv (gQ 2) (gQ 3)) (dC (.int 1))) gR))) (gP (gQ 1) gR)))))
 (dSq (gV [] (gNm 8) (gU .Sub (gQ 2) (gU .Mult (gQ 3) (gU .Sub (dB bLen bLen.mono (gP (dIx (gQ 7) (dC (.int 0))) gR)) (dC (.int 1))))))
 (gV [] (gNm 5) (gS ia (gP (gS ig (gP (g7 (gP (g7 (gP (dC (.int 0)) (gP (dC (.int 1)) gR))) (gP (dC (.int 1)) gR))) (gP (gQ 8) gR))) (gP (gS ig (gP (gQ 7) (gP (gQ 3) gR))) gR))))))
 (dIf [] (g9 (il .Eq (gQ 4) (dC (.int 1))))
 (dSq (gV [] (gNm 7) (gS hX (gP (gQ 0) (gP (gS gT (gP (gQ 0) (gP (gU .Add (gU .FloorDiv (gQ 3) (gQ 2)) (dC (.int 1))) gR))) (gP (gQ 1) gR)))))
 (dSq (gV [] (gNm 8) (gU .Sub (gQ 3) (gU .Mult (gQ 2) (gU .Sub (dB bLen bLen.mono (gP (dIx (gQ 7) (dC (.int 0))) gR)) (dC (.int 1))))))
 (gV [] (gNm 6) (gS ia (gP (gS ig (gP (g7 (gP (g7 (gP (dC (.int 0)) (gP (dC (.int 1)) gR))) (gP (dC (.int 1)) gR))) (gP (gQ 8) gR))) (gP (gS gX (gP (gQ 7) (gP (gQ 5) gR))) gR))))))
 (dSq (gV [] (gNm 9) (gS h9 (gP (gQ 0) (gP (gQ 1) gR))))
 (dSq (gV [] (gNm 9) (dIx (ir (gP (gQ 9) (gP (g7 (gP (dC (.int 1)) (gP (dC (.int 1)) gR))) gR))) (dB bInt bInt.mono (gP (il .Eq (dIx (gQ 9) (dC (.int 0))) (dC (.int 0))) gR))))
 (dSq (gV [] (gNm 10) (g7 (gP (dC (.int 1)) (gP (dC (.int 1)) gR))))
 (dSq (iA [] (je (gQ 3)) (gNm 11)
 (gV [] (gNm 10) (gS io (gP (gQ 10) (gP (gQ 9) gR)))))
 (kg [] 5 6 (gS g8 (gP (gQ 2) (gP (gQ 10) gR))) (gS g8 (gP (gQ 3) (gP (gQ 9) gR))))))))))
 i7
def mF:TSd:=dSq (kg [] 5 6 (gS ig (gP (g7 (gP (g7 (gP (dC (.int 0)) (gP (dC (.int 1)) gR))) (gP (dC (.int 1)) gR))) (gP (gQ 2) gR))) (gS ig (gP (g7 (gP (g7 (gP (dC (.int 0)) (gP (dC (.int 1)) gR))) (gP (dC (.int 1)) gR))) (gP (gQ 3) gR))))
 mE
def i8:TSd:=dSq (gV [] (gNm 4) (gS gT (gP (gQ 0) (gP (dC (.int 3)) gR))))
 mF
def nX:TSd:=dSq (gV [] (gTp [2,3]) (dIx (ir (gP (g7 (gP (dC (.int 3)) (gP (dC (.int 2)) gR))) (gP (g7 (gP (dC (.int 2)) (gP (dC (.int 3)) gR))) (gP (g7 (gP (dC (.int 5)) (gP (dC (.int 2)) gR))) (gP (g7 (gP (dC (.int 2)) (gP (dC (.int 5)) gR))) (gP (g7 (gP (dC (.int 4)) (gP (dC (.int 3)) gR))) (gP (g7 (gP (dC (.int 3)) (gP (dC (.int 4)) gR))) gR))))))) (gS gT (gP (gQ 0) (gP (dC (.int 6)) gR)))))
 i8
theorem Cd{A Bq:List Int}{α β:Int}{m k:Nat}{w:D}{o7 o8 o9 o10 o11:SD}{Q:D->Prop}(zA:Pc.Pz 400 300 A α)(zB:Pc.Pz 400 300 Bq β)(lA:A.length=m+1)(lB:Bq.length=k+1)(m2:2<=m)(m6:m<=6)(k2:2<=k)(k6:k<=6)
  (q:∀ R C S D,Pc.Pz 20000 20000 R C->Pc.Pz 2000 800 S D->R.length=m+1->S.length=k+1->Q (.tup [pD R C,pD S D,w])) :
  i7.run (qX Q) [.val .fl,.val (.int 3),.val (.int m),.val (.int k),.val w,.val (pD A α),.val (pD Bq β),o7,o8,o9,o10,o11,.no,.no,.no]:=by
 have key:compD (sA 0 3) (tq [11] [.val .fl,.val (.int 3),.val (.int m),.val (.int k),.val w,.val (pD A α),.val (pD Bq β),o7,o8,o9,o10,o11,.no,.no,.no]) (gNm 11) iQ (gS gY (gP (gQ 0) (gP (gQ 1) gR))) λd=>(gTl [12,13,14]).run d [.val .fl,.val (.int 3),.val (.int m),.val (.int k),.val w,.val (pD A α),.val (pD Bq β),o7,o8,o9,o10,o11,.no,.no,.no] (jK.run (qX Q)):=by
  refine c3 (λi d hd=>JP λP B s=>⟨P,B,rfl,s⟩) λP1 B1 P2 B2 P3 B3 s1 s2 s3=>⟨rfl,?_⟩;refine cA zA lA m2 m6 (by decide) (by decide) s1 s2 λR C zR lR=>?_;exact cB zB lB k2 k6 (by decide) (by decide) s2 s3 λS D zS lS=>⟨sE (n:=3) (by decide),q R C S D zR zS lR lS⟩
 exact⟨by decide,by decide,key⟩
theorem K5{Q:D->Prop}(q:∀ d r,FqD 2 2 d r->Q d):[D.fl,.int 3].length=h9.n/\h9.run [.fl,.int 3] Q:=by
 refine⟨rfl,(3,2),⟨rfl,by decide,by unfold Lt2;decide,by decide,by decide⟩,?_⟩;rintro d ⟨r,f⟩;exact q d r f
theorem KG{d1 d2:D}{r1 r2:Rat}{i M:Nat}(f1:FqD (1+M*i) (1+M*i) d1 r1)(f2:FqD M M d2 r2)(hi:i<=20)(hM:M<=40){Q:D->Prop}(q:∀ d r,FqD (1+M*(i+1)) (1+M*(i+1)) d r->Q d):[d1,d2].length=io.n/\io.run [d1,d2] Q:=by
 have h:M*i<=40*20:=aX hM hi;refine⟨rfl,(d1,d2,r1,r2,1+M*i,1+M*i,M,M),⟨rfl,f1,f2,by show 1+M*i+M<=9000000;omega,by show 1+M*i+M<=9000000;omega⟩,?_⟩;intro d f;have f:FqD (1+M*i+M) (1+M*i+M) d (r1*r2):=f;exact q d _ (by rw [bC,← dP];exact f)
theorem JM{n b:Nat}(hn:1<=n)(hb:1<=b):FqD n b (fD 1 1) 1:=by
 have:=r9 (n:=1) (t:=1) (by unfold Lt2;decide);exact this.mono hn hb
theorem tH(r:Rat):∀ n,Qp.tc r (n+1) (n+1)=1/\∀ k,n+1<k->Qp.tc r (n+1) k=0
 | 0=>⟨by show (if 1=1 then (1:Rat) else 0)=1;rw [if_pos rfl],λk hk=>by show (if k=1 then (1:Rat) else 0)=0;rw [if_neg (by omega)]⟩
 | 1=>by
  obtain⟨h1,h2⟩:=tH r 0;have z:∀ k,1<=k->Qp.tc r 0 k=0:=λk hk=>by show (if k=0 then (2:Rat) else 0)=0;rw [if_neg (by omega)]
  refine⟨?_,λk hk=>?_⟩
  ·rw [Qp.tc.two,if_neg (by omega),z 2 (by omega),show 0+1+1-1=0+1 from rfl,h1];grind
  ·rw [Qp.tc.two,if_neg (by omega),z k (by omega),h2 (k-1) (by omega)];grind
 | n+2=>by
  obtain⟨h1,h2⟩:=tH r (n+1);obtain⟨h3,h4⟩:=tH r n;refine⟨?_,λk hk=>?_⟩
  ·rw [Qp.tc.two,if_neg (by omega),h4 (n+2+1) (by omega),show n+2+1-1=n+1+1 from rfl,h1];grind
  ·rw [Qp.tc.two,if_neg (by omega),h4 k (by omega),h2 (k-1) (by omega)];grind
theorem Et{R:List Int}{C:Int}{N:Nat}(f:Po.Fm R C)(h:Qp.q R C N≠0)(h0:∀ j,N<j->Qp.q R C j=0):R.length=N+1:=by
 rcases ar N R.length with c|c
 ·rcases ar (N+1) R.length with c'|c'
  ·exact absurd (h0 (R.length-1) (by omega)) (Qp.sY f (by rintro rfl;simp at c))
  ·omega
 ·exact absurd (Qp.sQ c) h
theorem Tk.len45{r:Rat}{n:Nat}{P:List Int}{B:Int}(h:Tk r n P B)(n1:1<=n):P.length=n+1:=by
 obtain⟨j,rfl⟩:∃ j,n=j+1:=⟨n-1,by omega⟩;obtain⟨h1,h2⟩:=tH r j;exact Et h.1 (by rw [h.2,h1];decide) λk hk=>by rw [h.2,h2 k hk]
theorem JO{n M:Nat}{d:D}{r:Rat}(f:FqD M M d r)(hM:M<=13)(n2:2<=n)(n6:n<=6){Q:D->Prop}(q:∀ P B,Pc.Pz 400 300 P B->P.length=n+1->Q (pD P B)):[.int (n:Int),d].length=g8.n/\g8.run [.int (n:Int),d] Q:=by
 refine⟨rfl,(n,d,r,M),⟨rfl,f,by show M<=21;omega,by show 1<=n;omega,by show n<=12;omega⟩,?_⟩;rintro _ ⟨P,B,rfl,t⟩;have t:Tk r n P B:=t;obtain⟨z,_⟩:=t.pz f;have h1:(2*M+1)*n<=27*6:=aX (by omega) n6;have h2:M*n<=13*6:=aX hM n6;exact q P B (z.mono (by omega) (by omega)) (t.len45 (by omega))
theorem Jl{m k:Nat}(k1:1<=k):((m:Int)).fdiv (k:Int)=((m / k:Nat):Int):=by
 rw [cJ _ (by omega)];exact (Int.natCast_ediv _ _).symm
theorem Jr{m k:Nat}(m5:m<=5)(k2:2<=k)(k5:k<=5){Q:D->Prop}(q:∀ P B,∀ d:Nat,Pc.Pz 2 3 P B->P.length=d+1->d*k<=m->d<=5->Q (pD P B)):sS (m:Int) (k:Int)/\[D.fl,.int ((m:Int).fdiv (k:Int)+1)].length=gT.n/\gT.run [D.fl,.int ((m:Int).fdiv (k:Int)+1)] λe=>[.fl,e,.int 3].length=hX.n/\hX.run [.fl,e,.int 3] Q:=by
 have lk:Lt2 4 ((k:Nat):Int):=by unfold Lt2;omega
 have em:=Jl (m:=m) (k:=k) (by omega);have le:m / k<=m:=dh _ _;have mul:m / k*k<=m:=Nat.div_mul_le_self m k;rw [em];generalize m / k=z at *;refine⟨⟨by omega,4,lk,by decide⟩,rfl,((z:Int)+1),⟨rfl,by omega,vV (by omega)⟩,?_⟩;rintro _ ⟨dd,rfl,d0,d1⟩;obtain⟨d,rfl⟩:=bD d0;have dk:d*k<=m:=aC (bq k (show d<=z by omega)) mul;refine⟨rfl,(d,3,2),⟨rfl,by show d<=100;omega,by decide,by unfold Lt2;decide,by decide⟩,?_⟩;rintro _ ⟨P,B,rfl,zP,lP⟩;exact q P B d zP lP dk (by omega)
theorem K4{m k d:Nat}{P:List Int}(k5:k<=5)(lP:P.length=d+1)(dk:d*k<=m)(d5:d<=5):CMulB (k:Int) ((((P.map D.int).length:Nat):Int)-1)/\(m:Int)-(k:Int)*((((P.map D.int).length:Nat):Int)-1)=((m-d*k:Nat):Int):=by
 have lk:Lt2 4 ((k:Nat):Int):=by unfold Lt2;omega
 rw [aa,lP];refine⟨⟨4,4,lk,by unfold Lt2;omega,by decide⟩,?_⟩;have:(k:Int)*(((d+1:Nat):Int)-1)=((d*k:Nat):Int):=by
  rw [show ((d+1:Nat):Int)-1=(d:Int) by omega];push_cast;exact bh _ _
 rw [this];omega
def nY:TSd:=(gV [] (gNm 5) (gS ia (gP (gS ig (gP (g7 (gP (g7 (gP (dC (.int 0)) (gP (dC (.int 1)) gR))) (gP (dC (.int 1)) gR))) (gP (gQ 8) gR))) (gP (gS ig (gP (gQ 7) (gP (gQ 3) gR))) gR))))
def qd:TSd:=dSq (gV [] (gNm 8) (gU .Sub (gQ 2) (gU .Mult (gQ 3) (gU .Sub (dB bLen bLen.mono (gP (dIx (gQ 7) (dC (.int 0))) gR)) (dC (.int 1))))))
 nY
def qy:TSd:=dSq (gV [] (gNm 7) (gS hX (gP (gQ 0) (gP (gS gT (gP (gQ 0) (gP (gU .Add (gU .FloorDiv (gQ 2) (gQ 3)) (dC (.int 1))) gR))) (gP (gQ 1) gR)))))
 qd
def nZ:TSd:=(gV [] (gNm 6) (gS ia (gP (gS ig (gP (g7 (gP (g7 (gP (dC (.int 0)) (gP (dC (.int 1)) gR))) (gP (dC (.int 1)) gR))) (gP (gQ 8) gR))) (gP (gS gX (gP (gQ 7) (gP (gQ 5) gR))) gR))))
def qf:TSd:=dSq (gV [] (gNm 8) (gU .Sub (gQ 3) (gU .Mult (gQ 2) (gU .Sub (dB bLen bLen.mono (gP (dIx (gQ 7) (dC (.int 0))) gR)) (dC (.int 1))))))
 nZ
def qz:TSd:=dSq (gV [] (gNm 7) (gS hX (gP (gQ 0) (gP (gS gT (gP (gQ 0) (gP (gU .Add (gU .FloorDiv (gQ 3) (gQ 2)) (dC (.int 1))) gR))) (gP (gQ 1) gR)))))
 qf
def qh:TSd:=(kg [] 5 6 (gS g8 (gP (gQ 2) (gP (gQ 10) gR))) (gS g8 (gP (gQ 3) (gP (gQ 9) gR))))
def qj:TSd:=dSq (iA [] (je (gQ 3)) (gNm 11)
 (gV [] (gNm 10) (gS io (gP (gQ 10) (gP (gQ 9) gR)))))
 qh
def oY:TSd:=dSq (gV [] (gNm 10) (g7 (gP (dC (.int 1)) (gP (dC (.int 1)) gR))))
 qj
def qm:TSd:=dSq (gV [] (gNm 9) (dIx (ir (gP (gQ 9) (gP (g7 (gP (dC (.int 1)) (gP (dC (.int 1)) gR))) gR))) (dB bInt bInt.mono (gP (il .Eq (dIx (gQ 9) (dC (.int 0))) (dC (.int 0))) gR))))
 oY
def qA:TSd:=dSq (gV [] (gNm 9) (gS h9 (gP (gQ 0) (gP (gQ 1) gR))))
 qm
section
variable{m k:Nat}{A0 B0:List Int}{α0 β0:Int}{w:D}{E:EndsD}
theorem Kn(m5:m<=5)(k2:2<=k)(k5:k<=5)(hE:∀ A α o7 o8,Pc.Pz 400 300 A α->A.length=m+1->E.nx [.val .fl,.val (.int 3),.val (.int m),.val (.int k),.val w,.val (pD A α),.val (pD B0 β0),o7,o8,.no,.no,.no,.no,.no,.no]) :
  qy.run E [.val .fl,.val (.int 3),.val (.int m),.val (.int k),.val w,.val (pD A0 α0),.val (pD B0 β0),.no,.no,.no,.no,.no,.no,.no,.no]:=by
 refine Jr m5 k2 k5 λP B d zP lP dk d5=>?_;obtain⟨c1,er⟩:=K4 k5 lP dk d5;refine⟨c1,?_⟩;suffices h:nY.run E [.val .fl,.val (.int 3),.val (.int m),.val (.int k),.val w,.val (pD A0 α0),.val (pD B0 β0),.val (pD P B),.val (.int ((m-d*k:Nat):Int)),.no,.no,.no,.no,.no,.no] by
  show nY.run E [.val .fl,.val (.int 3),.val (.int m),.val (.int k),.val w,.val (pD A0 α0),.val (pD B0 β0),.val (pD P B),.val (.int ((m:Int)-(k:Int)*((((P.map D.int).length:Nat):Int)-1))),.no,.no,.no,.no,.no,.no];rw [er];exact h
 refine⟨rJ,rJ,cX (m:=m-d*k) (by omega) λR C zR lR=>cH zP lP k5 d5 λS D' zS lS=>?_⟩;have kd:k*d<=5:=by rw [aT];omega
 exact cT zR zS lR lS (by omega) (by omega) (by decide) (by decide) λA α zA lA=>hE A α _ _ zA (by rw [lA,aT k d];omega)
theorem Km(m2:2<=m)(m5:m<=5)(k5:k<=5)(zA:Pc.Pz 61 7 A0 α0)(lA:A0.length=m+1)(hE:∀ A α o7 o8,Pc.Pz 400 300 A α->A.length=k+1->E.nx [.val .fl,.val (.int 3),.val (.int m),.val (.int k),.val w,.val (pD A0 α0),.val (pD A α),o7,o8,.no,.no,.no,.no,.no,.no]) :
  qz.run E [.val .fl,.val (.int 3),.val (.int m),.val (.int k),.val w,.val (pD A0 α0),.val (pD B0 β0),.no,.no,.no,.no,.no,.no,.no,.no]:=by
 refine Jr k5 m2 m5 λP B d zP lP dk d5=>?_;obtain⟨c1,er⟩:=K4 m5 lP dk d5;refine⟨c1,?_⟩;suffices h:nZ.run E [.val .fl,.val (.int 3),.val (.int m),.val (.int k),.val w,.val (pD A0 α0),.val (pD B0 β0),.val (pD P B),.val (.int ((k-d*m:Nat):Int)),.no,.no,.no,.no,.no,.no] by
  show nZ.run E [.val .fl,.val (.int 3),.val (.int m),.val (.int k),.val w,.val (pD A0 α0),.val (pD B0 β0),.val (pD P B),.val (.int ((k:Int)-(m:Int)*((((P.map D.int).length:Nat):Int)-1))),.no,.no,.no,.no,.no,.no];rw [er];exact h
 have d2:d*2<=d*m:=ai _ m2;refine⟨rJ,rJ,cX (m:=k-d*m) (by omega) λR C zR lR=>?_⟩;have w3:P.length*A0.length<=3*6:=aX (by omega) (by omega);refine⟨rfl,(P,B,A0,α0,2,3,61,7),⟨rfl,zP,zA,by show 3+3+7*P.length<=8900000;omega,by show 2+(61+7+10)*(P.length+1)<=4000000;omega,by show P.length*A0.length<=190;omega,by show P.length<=190;omega,by show A0.length<=190;omega⟩,?_⟩;rintro _ ⟨S,D1,rfl,o⟩;have o:Pc.Of P B A0 α0 S D1:=o;have lS:=o.deg_eq zP.fm.pos zA.fm.pos lP lA (by omega) (rN zP.fm lP) (rN zA.fm lA);have zS:=(o.size zP zA (by omega)).mono (n':=300) (b':=100) (by omega) (by omega);exact cT zR zS lR lS (by omega) (by omega) (by decide) (by decide) λA α zA' lA'=>hE A α _ _ zA' (by rw [lA'];omega)
theorem Kl(m2:2<=m)(m5:m<=5)(k2:2<=k)(k5:k<=5)(hE:∀ A α Bq β o9 o10 o11,Pc.Pz 400 300 A α->A.length=m+1->Pc.Pz 400 300 Bq β->Bq.length=k+1->E.nx [.val .fl,.val (.int 3),.val (.int m),.val (.int k),.val w,.val (pD A α),.val (pD Bq β),.no,.no,o9,o10,o11,.no,.no,.no]) :
  qA.run E [.val .fl,.val (.int 3),.val (.int m),.val (.int k),.val w,.val (pD A0 α0),.val (pD B0 β0),.no,.no,.no,.no,.no,.no,.no,.no]:=by
 refine K5 λd r f=>?_;have fin:∀(d:D) (r:Rat),FqD 2 2 d r->oY.run E [.val .fl,.val (.int 3),.val (.int m),.val (.int k),.val w,.val (pD A0 α0),.val (pD B0 β0),.no,.no,.val d,.no,.no,.no,.no,.no]:=λd r f=>by
  refine⟨rJ,by omega,by omega,λi st=>∃(x:D) (r':Rat) (o11:SD),st=[.val .fl,.val (.int 3),.val (.int m),.val (.int k),.val w,.val (pD A0 α0),.val (pD B0 β0),.no,.no,.val d,.val x,o11,.no,.no,.no]/\FqD (1+2*i) (1+2*i) x r',⟨fD 1 1,1,_,rfl,JM (by omega) (by omega)⟩,?_,?_⟩
  ·rintro i e _ hd ⟨x,r',o11,rfl,fx⟩;obtain⟨hi,rfl⟩:=rg hd;exact KG fx f (by omega) (by decide) λx2 r2 f2=>⟨x2,r2,_,rfl,f2⟩
  ·rintro _ ⟨x,r',o11,rfl,fx⟩;rw [qQ,aS] at fx;exact JO fx (by omega) m2 (by omega) λA α zA lA=>JO f (by decide) k2 (by omega) λBq β zB lB=>hE A α Bq β _ _ _ zA lA zB lB
 obtain⟨t,u,rfl,u0,g,lt,lu,rfl⟩:=id f;refine⟨rJ,rJ,yn (p:=t=0) (λc=>fin _ 1 (JM (by decide) (by decide))) (λc=>fin _ _ f)⟩
end
theorem D8{m k:Nat}{Q:D->Prop}(m2:2<=m)(m5:m<=5)(k2:2<=k)(k5:k<=5)(q:∀ R C S D w,Pc.Pz 20000 20000 R C->Pc.Pz 2000 800 S D->R.length=m+1->S.length=k+1->Q (.tup [pD R C,pD S D,w])) :
  i8.run (qX Q) [.val .fl,.val (.int 3),.val (.int m),.val (.int k),.no,.no,.no,.no,.no,.no,.no,.no,.no,.no,.no]:=by
 refine⟨rfl,3,⟨rfl,by decide,vV (by decide)⟩,?_⟩;rintro _ ⟨w,rfl,w0,w1⟩;refine⟨rJ,rJ,cX (m:=m) (by omega) λA α zA lA=>⟨rJ,rJ,cX (m:=k) (by omega) λBq β zB lB=>?_⟩⟩;have fin:∀{A Bq:List Int} {α β:Int} {o7 o8 o9 o10 o11:SD},Pc.Pz 400 300 A α->Pc.Pz 400 300 Bq β->A.length=m+1->Bq.length=k+1->i7.run (qX Q) [.val .fl,.val (.int 3),.val (.int m),.val (.int k),.val (.int w),.val (pD A α),.val (pD Bq β),o7,o8,o9,o10,o11,.no,.no,.no]:=λzA zB lA lB=>Cd zA zB lA lB m2 (by omega) k2 (by omega) λR C S D zR zS lR lS=>q R C S D _ zR zS lR lS;have zA4:=zA.mono (n':=400) (b':=300) (by decide) (by decide);have zB4:=zB.mono (n':=400) (b':=300) (by decide) (by decide);refine vG (p:=w=0) (λc=>?_) (λc=>vG (p:=w=1) (λc=>?_) (λc=>?_))
 ·exact Kn m5 k2 k5 λA' α' o7 o8 zA' lA'=>fin zA' zB4 lA' lB
 ·exact Km m2 m5 k5 zA lA λA' α' o7 o8 zA' lA'=>fin zA4 zA' lA lA'
 ·exact Kl m2 m5 k2 k5 λA' α' B' β' o9 o10 o11 zA' lA' zB' lB'=>fin zA' zB' lA' lB'
theorem l6:Does 15 nX jZ:=by
 rintro ds Q hn ⟨_,rfl,q⟩;have go:∀ m k:Nat,2<=m->m<=5->2<=k->k<=5->m*k<=12->i8.run (qX Q) [.val .fl,.val (.int 3),.val (.int m),.val (.int k),.no,.no,.no,.no,.no,.no,.no,.no,.no,.no,.no]:=λm k m2 m5 k2 k5 mk=>D8 m2 m5 k2 k5 λR C S D w zR zS lR lS=>q _ ⟨R,C,S,D,m,k,w,rfl,zR,zS,lR,lS,m2,by omega,k2,by omega,mk⟩;refine⟨rJ,rJ,rJ,rJ,rJ,rJ,sE (n:=6) (by decide),rfl,6,⟨rfl,by decide,vV (by decide)⟩,?_⟩;rintro _ ⟨j,rfl,j0,j1⟩;refine vf j0 (by exact j1) λd hd=>?_;simp only [am,aK,or_false] at hd;rcases hd with rfl|rfl|rfl|rfl|rfl|rfl
 ·exact⟨rfl,go 3 2 (by decide) (by decide) (by decide) (by decide) (by decide)⟩
 ·exact⟨rfl,go 2 3 (by decide) (by decide) (by decide) (by decide) (by decide)⟩
 ·exact⟨rfl,go 5 2 (by decide) (by decide) (by decide) (by decide) (by decide)⟩
 ·exact⟨rfl,go 2 5 (by decide) (by decide) (by decide) (by decide) (by decide)⟩
 ·exact⟨rfl,go 4 3 (by decide) (by decide) (by decide) (by decide) (by decide)⟩
 ·exact⟨rfl,go 3 4 (by decide) (by decide) (by decide) (by decide) (by decide)⟩
end Dp
namespace Dp
open PySem L2 Ch
def jm:SpB:=.of 2 (α:=Unit) (λ_ ds=>ds=[.fl,.int 3]) (λ_ d=>∃ A α B β,∃ m k:Nat,d = .tup [pD A α,pD B β]/\Pc.Pz 20000 20000 A α/\Pc.Pz 2000 800 B β/\A.length=m+1/\B.length=k+1/\2<=m/\m<=6/\2<=k/\k<=6/\m*k<=12)
def kF:TSd:=(hJ [] (g7 (gP (gQ 12) (gP (gS gX (gP (gS ic (gP (gQ 10) gR)) (gP (gS gX (gP (gQ 8) (gP (gQ 11) gR))) gR))) gR))))
def jb:TSd:=dSq (gV [] (gNm 12) (gS gX (gP (gQ 9) (gP (gS gX (gP (gQ 7) (gP (gQ 10) gR))) gR))))
 kF
def jc:TSd:=dSq (gV [] (gTl [9,10,11]) (iz (je (dC (.int 3))) [6] (gNm 6) iQ (gS gY (gP (gQ 0) (gP (gQ 1) gR)))))
 jb
def kG:TSd:=dSq (kg [] 7 8 (gS g8 (gP (gQ 2) (gP (gQ 5) gR))) (gS g8 (gP (gQ 3) (gP (gQ 4) gR))))
 jc
def kH:TSd:=dSq (iA [] (je (gQ 3)) (gNm 6)
 (gV [] (gNm 5) (gS io (gP (gQ 5) (gP (gQ 4) gR)))))
 kG
def jd:TSd:=dSq (gV [] (gNm 5) (g7 (gP (dC (.int 1)) (gP (dC (.int 1)) gR))))
 kH
def kI:TSd:=dSq (gV [] (gNm 4) (dIx (ir (gP (g7 (gP (dC (.int 0)) (gP (dC (.int 1)) gR))) (gP (gS h9 (gP (gQ 0) (gP (gQ 1) gR))) gR))) (gS gT (gP (gQ 0) (gP (dC (.int 2)) gR)))))
 jd
def iK:TSd:=dSq (gV [] (gNm 1) (dB bMin bMin.mono (gP (gQ 1) (gP (dC (.int 3)) gR))))
 kI
def l7:TSd:=dSq (gV [] (gTp [2,3]) (dIx (ir (gP (g7 (gP (dC (.int 4)) (gP (dC (.int 2)) gR))) (gP (g7 (gP (dC (.int 2)) (gP (dC (.int 4)) gR))) (gP (g7 (gP (dC (.int 6)) (gP (dC (.int 2)) gR))) (gP (g7 (gP (dC (.int 2)) (gP (dC (.int 6)) gR))) gR))))) (gS gT (gP (gQ 0) (gP (dC (.int 4)) gR)))))
 iK
theorem CO{A Bq:List Int}{α β:Int}{m k:Nat}{o4 o5 o6:SD}{Q:D->Prop}(zA:Pc.Pz 400 300 A α)(zB:Pc.Pz 400 300 Bq β)(lA:A.length=m+1)(lB:Bq.length=k+1)(m2:2<=m)(m6:m<=6)(k2:2<=k)(k6:k<=6)
  (q:∀ R C S D,Pc.Pz 20000 20000 R C->Pc.Pz 2000 800 S D->R.length=m+1->S.length=k+1->Q (.tup [pD R C,pD S D])) :
  jc.run (qX Q) [.val .fl,.val (.int 3),.val (.int m),.val (.int k),o4,o5,o6,.val (pD A α),.val (pD Bq β),.no,.no,.no,.no]:=by
 have key:compD (sA 0 3) (tq [6] [.val .fl,.val (.int 3),.val (.int m),.val (.int k),o4,o5,o6,.val (pD A α),.val (pD Bq β),.no,.no,.no,.no]) (gNm 6) iQ (gS gY (gP (gQ 0) (gP (gQ 1) gR))) λd=>(gTl [9,10,11]).run d [.val .fl,.val (.int 3),.val (.int m),.val (.int k),o4,o5,o6,.val (pD A α),.val (pD Bq β),.no,.no,.no,.no] (jb.run (qX Q)):=by
  refine c3 (λi d hd=>JP λP B s=>⟨P,B,rfl,s⟩) λP1 B1 P2 B2 P3 B3 s1 s2 s3=>⟨rfl,?_⟩;refine cA zA lA m2 m6 (by decide) (by decide) s1 s2 λR C zR lR=>?_;exact cB zB lB k2 k6 (by decide) (by decide) s2 s3 λS D zS lS=>⟨rJ,q R C S D zR zS lR lS⟩
 exact⟨by decide,by decide,key⟩
theorem EH{m k:Nat}{Q:D->Prop}(m2:2<=m)(m6:m<=6)(k2:2<=k)(k6:k<=6)(q:∀ R C S D,Pc.Pz 20000 20000 R C->Pc.Pz 2000 800 S D->R.length=m+1->S.length=k+1->Q (.tup [pD R C,pD S D])) :
  iK.run (qX Q) [.val .fl,.val (.int 3),.val (.int m),.val (.int k),.no,.no,.no,.no,.no,.no,.no,.no,.no]:=by
 have fin:∀(d:D) (r:Rat),FqD 2 2 d r->jd.run (qX Q) [.val .fl,.val (.int 3),.val (.int m),.val (.int k),.val d,.no,.no,.no,.no,.no,.no,.no,.no]:=λd r f=>by
  refine⟨rJ,by omega,by omega,λi st=>∃(x:D) (r':Rat) (o6:SD),st=[.val .fl,.val (.int 3),.val (.int m),.val (.int k),.val d,.val x,o6,.no,.no,.no,.no,.no,.no]/\FqD (1+2*i) (1+2*i) x r',⟨fD 1 1,1,_,rfl,JM (by omega) (by omega)⟩,?_,?_⟩
  ·rintro i e _ hd ⟨x,r',o11,rfl,fx⟩;obtain⟨hi,rfl⟩:=rg hd;exact KG fx f (by omega) (by decide) λx2 r2 f2=>⟨x2,r2,_,rfl,f2⟩
  ·rintro _ ⟨x,r',o11,rfl,fx⟩;rw [qQ,aS] at fx;exact JO fx (by omega) m2 m6 λA α zA lA=>JO f (by decide) k2 k6 λBq β zB lB=>CO zA zB lA lB m2 m6 k2 k6 q
 refine⟨rJ,K5 λd r f=>⟨rJ,rfl,2,⟨rfl,by decide,vV (by decide)⟩,?_⟩⟩;rintro _ ⟨j,rfl,j0,j1⟩;refine vf j0 (by exact j1) λe he=>?_;simp only [am,aK,or_false] at he;rcases he with rfl|rfl
 ·exact fin _ ((0:Int):Rat) ((r9 (n:=2) (t:=0) (uL _)).mono (af _) (by decide))
 ·exact fin _ r f
theorem j9:Does 13 l7 jm:=by
 rintro ds Q hn ⟨_,rfl,q⟩;have go:∀ m k:Nat,2<=m->m<=6->2<=k->k<=6->m*k<=12->iK.run (qX Q) [.val .fl,.val (.int 3),.val (.int m),.val (.int k),.no,.no,.no,.no,.no,.no,.no,.no,.no]:=λm k m2 m6 k2 k6 mk=>EH m2 m6 k2 k6 λR C S D zR zS lR lS=>q _ ⟨R,C,S,D,m,k,rfl,zR,zS,lR,lS,m2,m6,k2,k6,mk⟩;refine⟨rJ,rJ,rJ,rJ,sE (n:=4) (by decide),rfl,4,⟨rfl,by decide,vV (by decide)⟩,?_⟩;rintro _ ⟨j,rfl,j0,j1⟩;refine vf j0 (by exact j1) λd hd=>?_;simp only [am,aK,or_false] at hd;rcases hd with rfl|rfl|rfl|rfl
 ·exact⟨rfl,go 4 2 (by decide) (by decide) (by decide) (by decide) (by decide)⟩
 ·exact⟨rfl,go 2 4 (by decide) (by decide) (by decide) (by decide) (by decide)⟩
 ·exact⟨rfl,go 6 2 (by decide) (by decide) (by decide) (by decide) (by decide)⟩
 ·exact⟨rfl,go 2 6 (by decide) (by decide) (by decide) (by decide) (by decide)⟩
def Dgs(l:List Nat):Prop:=(∃ m k,l=[m,k]/\2<=m/\m<=6/\2<=k/\k<=6/\m*k<=12)\/l=[2,2,2]\/l=[2,3,2]\/l=[2,2,3]\/l=[3,2,2]
def FL(es:List Pl):Prop:=KN es/\∃ l:List Nat,Dgs l/\es.length=l.length/\∀ i:Nat,i<l.length->(es.getD i ([],1)).1.length=l.getD i 0+1
theorem Dgs.all{l:List Nat}(h:Dgs l):2<=l.length/\l.length<=3/\∀ i,i<l.length->2<=l.getD i 0/\l.getD i 0<=6:=by
 rcases h with⟨m,k,rfl,m2,m6,k2,k6,mk⟩|rfl|rfl|rfl|rfl
 ·refine⟨af _,by show 2<=3;decide,λi hi=>?_⟩;match i,hi with
  | 0,_=>exact⟨m2,m6⟩
  | 1,_=>exact⟨k2,k6⟩
 all_goals exact⟨by decide,by decide,by decide⟩
theorem cN{cs:List Pl}{l:List Nat}{n b:Nat}(hl:Dgs l)(ll:cs.length=l.length)(hd:∀ i:Nat,i<l.length->(cs.getD i ([],1)).1.length=l.getD i 0+1)(h0:∃ c0 ts,cs=c0::ts/\Pc.Pz 20000 20000 c0.1 c0.2/\∀ c∈ts,Pc.Pz n b c.1 c.2)(hs:∀ j,j+2<=l.length->(rW n b j).1+(rW n b j).2<=3900/\(rW n b j).2<=2000){Q:D->Prop}(q:∀ es,FL es->Q (cD es)):[cD cs].length=ij.n/\ij.run [cD cs] Q:=by
 obtain⟨a1,a2,a3⟩:=hl.all;refine⟨rfl,(cs,n,b),⟨rfl,by omega,by omega,λc hc=>?_,h0,λj hj=>hs j (by omega)⟩,?_⟩
 ·obtain⟨i,hi⟩:=bA.mp hc;have hi':=(aj.mp hi).1;have e:=hd i (by omega);rw [rf hi] at e;have:=a3 i (by omega);omega
 ·rintro _ ⟨es,rfl,le,he,ne⟩;exact q es ⟨ne,l,hl,by rw [le,ll],λi hi=>by rw [he i];exact hd i hi⟩
def i9:SpB:=.of 2 (α:=Unit) (λ_ ds=>ds=[.fl,.int 3]) (λ_ d=>∃ es,d=cD es/\FL es)
def iC:TSd:=(hJ [4] (gS ij (gP (dB bTuple bTuple.mono (gP (gQ 4) gR)) gR)))
def iD:TSd:=dSq (jv [] 4 (jP (dC (.int 1))) (gS gX (gP (jB 4 (jP (dC (.int 1)))) (gP (gS gY (gP (gQ 0) (gP (gQ 1) gR))) gR))))
 iC
def iX:TSd:=dSq (jv [] 4 (dC (.int 0)) (gS gX (gP (gS gY (gP (gQ 0) (gP (gQ 1) gR))) (gP (jB 4 (dC (.int 0))) gR))))
 iD
def iY:TSd:=dSq (jC [11] 4 (jw (gQ 11)))
 iX
def jU:TSd:=dSq (iA [] (kW (gQ 9)) (gNm 5)
 (dSq (kh [] 11 (gS g8 (gP (gQ 5) (gP (gQ 10) gR))))
 (dSq (gV [] (gNm 12) (g7 (gP (dC (.int 1)) (gP (dC (.int 1)) gR))))
 (dSq (iA [] (je (gQ 5)) (gNm 13)
 (gV [] (gNm 12) (gS io (gP (gQ 12) (gP (gQ 10) gR)))))
 (gV [] (gNm 10) (gQ 12))))))
 iY
def iZ:TSd:=dSq (jC [] 11 (ir gR))
 jU
def i4:TSd:=dSq (gV [] (gNm 10) (dIx (ir (gP (g7 (gP (dC (.int 0)) (gP (dC (.int 1)) gR))) (gP (gS h9 (gP (gQ 0) (gP (dC (.int 2)) gR))) gR))) (gS gT (gP (gQ 0) (gP (dC (.int 2)) gR)))))
 iZ
def jV:TSd:=dSq (gV [] (gNm 9) (dIx (ir (gP (ir (gP (dC (.int 2)) (gP (dC (.int 2)) (gP (dC (.int 3)) gR)))) (gP (ir (gP (dC (.int 2)) (gP (dC (.int 3)) (gP (dC (.int 2)) gR)))) (gP (ir (gP (dC (.int 3)) (gP (dC (.int 2)) (gP (dC (.int 2)) gR)))) gR)))) (gS gT (gP (gQ 0) (gP (dC (.int 3)) gR)))))
 i4
def jW:TSd:=dSq (dIf [] (g9 (il .Lt (gQ 2) (dC (.int 3))))
 (dSq (gV [] (gTp [6,7,8]) (gS jZ (gP (gQ 0) (gP (gQ 1) gR))))
 (hJ [] (gS ij (gP (g7 (gP (gQ 6) (gP (gQ 7) gR))) gR))))
 ii)
 jV
def jX:TSd:=dSq (dIf [] (g9 (il .Eq (gQ 2) (dC (.int 0))))
 (dSq (gV [] (gNm 3) (ir (gP (g7 (gP (dC (.int 2)) (gP (dC (.int 2)) gR))) (gP (g7 (gP (dC (.int 2)) (gP (dC (.int 3)) gR))) (gP (g7 (gP (dC (.int 3)) (gP (dC (.int 2)) gR))) (gP (g7 (gP (dC (.int 4)) (gP (dC (.int 2)) gR))) (gP (g7 (gP (dC (.int 2)) (gP (dC (.int 4)) gR))) (gP (g7 (gP (dC (.int 3)) (gP (dC (.int 3)) gR))) (gP (g7 (gP (dC (.int 2)) (gP (dC (.int 2)) (gP (dC (.int 2)) gR)))) (gP (g7 (gP (dC (.int 2)) (gP (dC (.int 3)) (gP (dC (.int 2)) gR)))) gR))))))))))
 (dSq (gV [] (gNm 3) (gU .Add (gQ 3) (ir (gP (g7 (gP (dC (.int 2)) (gP (dC (.int 2)) (gP (dC (.int 3)) gR)))) (gP (g7 (gP (dC (.int 6)) (gP (dC (.int 2)) gR))) (gP (g7 (gP (dC (.int 2)) (gP (dC (.int 6)) gR))) (gP (g7 (gP (dC (.int 3)) (gP (dC (.int 2)) (gP (dC (.int 2)) gR)))) gR)))))))
 (dSq (gV [] (gNm 4) (dB bTuple bTuple.mono (gP (iz (iG (dIx (gQ 3) (gS gT (gP (gQ 0) (gP (dC (.int 12)) gR))))) [5] (gNm 5) iQ (gS hX (gP (gQ 0) (gP (gQ 5) (gP (gQ 1) gR))))) gR)))
 (hJ [4] (gS ij (gP (gQ 4) gR))))))
 ii)
 jW
def jY:TSd:=dSq (dIf [] (g9 (il .Eq (gQ 2) (dC (.int 4))))
 (hJ [] (gS ij (gP (gS jm (gP (gQ 0) (gP (gQ 1) gR))) gR)))
 ii)
 jX
def kJ:TSd:=dSq (gV [] (gNm 2) (gS gT (gP (gQ 0) (gP (dC (.int 5)) gR))))
 jY
theorem EY{A B:List Int}{α β:Int}{m k:Nat}(zA:Pc.Pz 20000 20000 A α)(zB:Pc.Pz 2000 800 B β)(lA:A.length=m+1)(lB:B.length=k+1)(m2:2<=m)(m6:m<=6)(k2:2<=k)(k6:k<=6)(mk:m*k<=12){Q:D->Prop}(q:∀ es,FL es->Q (cD es)):[D.tup [pD A α,pD B β]].length=ij.n/\ij.run [D.tup [pD A α,pD B β]] Q:=by
 refine cN (cs:=[(A,α),(B,β)]) (l:=[m,k]) (n:=2000) (b:=800) (.inl ⟨m,k,rfl,m2,m6,k2,k6,mk⟩) rfl (λi hi=>?_) ⟨(A,α),[(B,β)],rfl,zA,λc hc=>?_⟩ (λj hj=>?_) q
 ·match i,hi with
  | 0,_=>exact lA
  | 1,_=>exact lB
 ·rw [aW.mp hc];exact zB
 ·have:j=0:=by have:j+2<=2:=hj;omega
  subst this;exact⟨by decide,by decide⟩
def oZ:TSd:=(hJ [4] (gS ij (gP (gQ 4) gR)))
theorem EN{l:List Nat}{x3:SD}{w:D}{E:EndsD}(hl:Dgs l)(q:∀ es,FL es->E.rt (cD es)){Q':D->Prop}(hQ:∀ ys:List D,ys.length=l.length->(∀(i:Nat) y,ys[i]? = some y->∃ P B,y=pD P B/\Pc.Pz 2 3 P B/\P.length=l.getD i 0+1)->Q' (.lst ys)) :
  compD (l.map λn:Nat=>D.int (n:Int)) (tq [5] [.val .fl,.val (.int 3),.val w,x3,.no,.no,.no,.no,.no,.no,.no,.no,.no,.no]) (gNm 5) iQ (gS hX (gP (gQ 0) (gP (gQ 5) (gP (gQ 1) gR)))) Q':=by
 obtain⟨a1,a2,a3⟩:=hl.all;refine vq (λi y=>∃ P B,y=pD P B/\Pc.Pz 2 3 P B/\P.length=l.getD i 0+1) (by rw [aa];omega) (λi d hd=>?_) λys ly hy=>hQ ys (by rw [ly,aa]) hy;rw [aJ] at hd;obtain⟨n,hn,rfl⟩:=ab.mp hd;have hi:=(aj.mp hn).1;have en:l.getD i 0=n:=rf hn;have:=a3 i hi;refine⟨rfl,(n,3,2),⟨rfl,by show n<=100;omega,by decide,by unfold Lt2;decide,by decide⟩,?_⟩;rintro _ ⟨P,B,rfl,zP,lP⟩;exact⟨P,B,rfl,zP,by rw [en];exact lP⟩
theorem CB{l:List Nat}:∀{ys:List D} (s:Nat),(∀(i:Nat) y,ys[i]? = some y->∃ P B,y=pD P B/\Pc.Pz 2 3 P B/\P.length=l.getD (s+i) 0+1)->∃ cs:List Pl,ys=cs.map pq/\cs.length=ys.length/\(∀ c∈cs,Pc.Pz 2 3 c.1 c.2)/\∀ i,i<ys.length->(cs.getD i ([],1)).1.length=l.getD (s+i) 0+1
 | [],s,_=>⟨[],rfl,rfl,λc hc=>(by simp at hc),λi hi=>absurd hi (bO _)⟩
 | y::ys,s,h=>by
  obtain⟨P,B,rfl,z,lP⟩:=h 0 y rfl;obtain⟨cs,rfl,lc,hz,hd⟩:=CB (l:=l) (ys:=ys) (s+1) λi y hy=>by
   rw [show s+1+i=s+(i+1) by omega];exact h (i+1) y hy
  refine⟨(P,B)::cs,rfl,by rw [a7,a7,lc],λc hc=>?_,λi hi=>?_⟩
  ·rcases am.mp hc with e|e
   ·rw [e];exact z
   ·exact hz c e
  ·cases i with
   | zero=>exact lP
   | succ i =>
    rw [bN,show s+(i+1)=s+1+i by omega];exact hd i (by simpa using hi)
theorem Bg{l:List Nat}{x3:SD}{w:D}{E:EndsD}(hl:Dgs l)(q:∀ es,FL es->E.rt (cD es)) :
  compD (l.map λn:Nat=>D.int (n:Int)) (tq [5] [.val .fl,.val (.int 3),.val w,x3,.no,.no,.no,.no,.no,.no,.no,.no,.no,.no]) (gNm 5) iQ (gS hX (gP (gQ 0) (gP (gQ 5) (gP (gQ 1) gR)))) λd=>bTuple [d] λd=>oZ.run E [.val .fl,.val (.int 3),.val w,x3,.val d,.no,.no,.no,.no,.no,.no,.no,.no,.no]:=by
 refine EN hl q λys ly hy=>?_;obtain⟨cs,rfl,lc,hz,hd⟩:=CB (l:=l) (ys:=ys) 0 λi y h=>by rw [f6];exact hy i y h
 obtain⟨a1,a2,a3⟩:=hl.all;show oZ.run E [.val .fl,.val (.int 3),.val w,x3,.val (cD cs),.no,.no,.no,.no,.no,.no,.no,.no,.no];have ll:cs.length=l.length:=by rw [lc,ly]
 refine cN (n:=2) (b:=3) hl ll (λi hi=>by have:=hd i (by omega);rw [f6] at this;exact this) ?_ (λj hj=>?_) q
 ·match cs,hz,ll with
  | c0::ts,hz,_=>exact⟨c0,ts,rfl,(hz c0 aE).mono (by decide) (by decide),λc hc=>hz c (ay _ hc)⟩
  | [],_,ll=>exact absurd ll (by simp;omega)
 ·rcases (by omega:j=0\/j=1) with rfl|rfl
  ·exact⟨by decide,by decide⟩
  ·exact⟨by decide,by decide⟩
section
variable{w x3:SD}{Q:D->Prop}
def qo:TSd:=(dSq (kh [] 11 (gS g8 (gP (gQ 5) (gP (gQ 10) gR))))
 (dSq (gV [] (gNm 12) (g7 (gP (dC (.int 1)) (gP (dC (.int 1)) gR))))
 (dSq (iA [] (je (gQ 5)) (gNm 13)
 (gV [] (gNm 12) (gS io (gP (gQ 12) (gP (gQ 10) gR)))))
 (gV [] (gNm 10) (gQ 12)))))
theorem vo{i n M:Nat}{fs:List Pl}{t lay:D}{r:Rat}{o12 o13:SD}{E:EndsD}(hi:i<=2)(hM:M<=16)(n2:2<=n)(n3:n<=3)(lf:fs.length=i)(f:FqD M M t r)
  (hE:∀ P B t' r' o12 o13,Pc.Pz ((2*M+1)*n+2) (M*n+1) P B->P.length=n+1->FqD (1+M*n) (1+M*n) t' r'->E.nx [.val .fl,.val (.int 3),w,x3,.no,.val (.int (n:Nat)),.no,.no,.no,.val lay,.val t',.own ((fs++[(P,B)]).map pq),o12,o13]) :
  qo.run E [.val .fl,.val (.int 3),w,x3,.no,.val (.int (n:Nat)),.no,.no,.no,.val lay,.val t,.own (fs.map pq),o12,o13]:=by
 refine⟨rfl,(n,t,r,M),⟨rfl,f,by show M<=21;omega,by show 1<=n;omega,by show n<=12;omega⟩,?_⟩;rintro _ ⟨P,B,rfl,tk⟩;have tk:Tk r n P B:=tk;obtain⟨zP,_⟩:=tk.pz f;refine⟨(congrArg (· < sizeLine) (aa _)).mpr (by rw [sizeLine_eq];omega),rJ,by omega,by omega,λj st=>∃(x:D) (r':Rat) (o13:SD),st=[.val .fl,.val (.int 3),w,x3,.no,.val (.int (n:Nat)),.no,.no,.no,.val lay,.val t,.own (fs.map pq++[pD P B]),.val x,o13]/\FqD (1+M*j) (1+M*j) x r',⟨fD 1 1,1,_,rfl,JM (by omega) (by omega)⟩,?_,?_⟩
 ·rintro j e _ hd ⟨x,r',o13,rfl,fx⟩;obtain⟨hj,rfl⟩:=rg hd;exact KG fx f (by omega) (by omega) λx2 r2 f2=>⟨x2,r2,_,rfl,f2⟩
 ·rintro _ ⟨x,r',o13,rfl,fx⟩;rw [qQ,aS] at fx;have e:fs.map pq++[pD P B]=(fs++[(P,B)]).map pq:=by rw [a5];rfl
  show E.nx [.val .fl,.val (.int 3),w,x3,.no,.val (.int (n:Nat)),.no,.no,.no,.val lay,.val x,.own (fs.map pq++[pD P B]),.val x,o13];rw [e];exact hE P B x r' _ _ zP (tk.len45 (by omega)) fx
theorem Ju{l:List D}{n:Nat}{Q:Nat->Prop}(h:n<l.length)(q:Q n):atD l (.int (n:Int)) Q:=uV h q
theorem EM{a b c:Nat}{f0 f1 f2:Pl}{lay t:D}{o5 o12 o13:SD}(hl:Dgs [a,b,c])(h3:a<=3/\b<=3/\c<=3)(z0:Pc.Pz 17 7 f0.1 f0.2)(l0:f0.1.length=c+1)(z1:Pc.Pz 110 30 f1.1 f1.2)(l1:f1.1.length=b+1)(z2:Pc.Pz 110 60 f2.1 f2.2)(l2:f2.1.length=a+1)(q:∀ es,FL es->Q (cD es)) :
  iY.run (qX Q) [.val .fl,.val (.int 3),w,x3,.no,o5,.no,.no,.no,.val lay,.val t,.own ([f0,f1,f2].map pq),o12,o13]:=by
 obtain⟨_,_,a3⟩:=hl.all;have ha:=a3 0 (show 0<3 by decide);have hc:=a3 2 (show 2<3 by decide);have ha:2<=a/\a<=6:=ha;have hc:2<=c/\c<=6:=hc;refine⟨_,rfl,?_⟩;show iX.run (qX Q) [.val .fl,.val (.int 3),w,x3,.own [pq f2,pq f1,pq f0],o5,.no,.no,.no,.val lay,.val t,.val (.lst ([f0,f1,f2].map pq)),o12,o13];refine JP λP1 B1 s1=>?_;obtain⟨zs,ls,ns⟩:=s1;show itD [pq f2,pq f1,pq f0] ((0:Nat):Int) (λd=>[pD P1 B1,d].length=gX.n/\gX.run [pD P1 B1,d] λd=>atD [pq f2,pq f1,pq f0] (.int ((0:Nat):Int)) λj=>iD.run (qX Q) [.val .fl,.val (.int 3),w,x3,.own ([pq f2,pq f1,pq f0].set j d),o5,.no,.no,.no,.val lay,.val t,.val (.lst ([f0,f1,f2].map pq)),o12,o13]);refine rl (n:=0) (d:=pq f2) rfl ⟨rfl,(P1,B1,f2.1,f2.2,8,4,110,60),⟨rfl,zs,z2,by show 4+4+60*P1.length<=8900000;omega,by show 8+(110+60+10)*(P1.length+1)<=4000000;omega,by show P1.length*f2.1.length<=190;rw [ls];omega,by show P1.length<=190;omega,by show f2.1.length<=190;omega⟩,?_⟩;rintro _ ⟨R,C,rfl,o⟩;have o:Pc.Of P1 B1 f2.1 f2.2 R C:=o;obtain⟨lR,_⟩:=tV ls ns zs.fm z2.fm (by omega) o;have zR:=o.size zs z2 (by rw [ls];omega);rw [ls] at zR;refine Ju (n:=0) (by show 0<3;decide) ?_;show iD.run (qX Q) [.val .fl,.val (.int 3),w,x3,.own [pD R C,pq f1,pq f0],o5,.no,.no,.no,.val lay,.val t,.val (.lst ([f0,f1,f2].map pq)),o12,o13];have at0:vB [pD R C,pq f1,pq f0] (-1)=some (pq f0):=tE (j:=1) (n:=3) rfl rfl (by decide) (by decide);show itD [pD R C,pq f1,pq f0] (-1) (λd0=>[D.fl,.int 3].length=gY.n/\gY.run [D.fl,.int 3] λd1=>[d0,d1].length=gX.n/\gX.run [d0,d1] λd=>atD [pD R C,pq f1,pq f0] (.int (-((1:Nat):Int))) λj=>iC.run (qX Q) [.val .fl,.val (.int 3),w,x3,.own ([pD R C,pq f1,pq f0].set j d),o5,.no,.no,.no,.val lay,.val t,.val (.lst ([f0,f1,f2].map pq)),o12,o13]);refine rT at0 (JP λP2 B2 s2=>?_);obtain⟨zt,lt,nt⟩:=s2;refine⟨rfl,(f0.1,f0.2,P2,B2,17,7,8,4),⟨rfl,z0,zt,by show 7+7+4*f0.1.length<=8900000;omega,by show 17+(8+4+10)*(f0.1.length+1)<=4000000;omega,by show f0.1.length*P2.length<=190;rw [lt];omega,by show f0.1.length<=190;omega,by show P2.length<=190;omega⟩,?_⟩;rintro _ ⟨S,D1,rfl,o'⟩;have o':Pc.Of f0.1 f0.2 P2 B2 S D1:=o';obtain⟨lS,_⟩:=sh z0.fm zt.fm lt nt (by omega) o';have zS:=o'.size z0 zt (by rw [lt];omega);refine xW (j:=1) (n:=3) rfl (by decide) (by decide) ?_;show iC.run (qX Q) [.val .fl,.val (.int 3),w,x3,.own [pD R C,pq f1,pD S D1],o5,.no,.no,.no,.val lay,.val t,.val (.lst ([f0,f1,f2].map pq)),o12,o13];refine cN (cs:=[(R,C),f1,(S,D1)]) (l:=[a,b,c]) (n:=110) (b:=30) hl rfl (λi hi=>?_) ⟨(R,C),[f1,(S,D1)],rfl,zR.mono (by omega) (by omega),λd hd=>?_⟩ (λj hj=>?_) q
 ·match i,hi with
  | 0,_=>show R.length=a+1;rw [lR,l2]
  | 1,_=>exact l1
  | 2,_=>show S.length=c+1;rw [lS,l0]
 ·simp only [am,aK,or_false] at hd;rcases hd with rfl|rfl
  ·exact z1
  ·exact zS.mono (by show _<=110;omega) (by show _<=30;omega)
 ·have:j+2<=3:=hj;rcases (by omega:j=0\/j=1) with rfl|rfl
  ·exact⟨by decide,by decide⟩
  ·exact⟨by decide,by decide⟩
theorem C3{a b c:Nat}{d:D}{r:Rat}(hl:Dgs [a,b,c])(h3:a<=3/\b<=3/\c<=3)(m1:2*c<=6)(m2:(1+2*c)*b<=15)(s1:(2*(1+2*c)+1)*b+2<=110/\(1+2*c)*b+1<=30)(f:FqD 2 2 d r)(q:∀ es,FL es->Q (cD es)) :
  iZ.run (qX Q) [.val .fl,.val (.int 3),w,x3,.no,.no,.no,.no,.no,.val (.lst [.int (a:Nat),.int (b:Nat),.int (c:Nat)]),.val d,.no,.no,.no]:=by
 obtain⟨_,_,a3⟩:=hl.all;have ha:2<=a/\a<=6:=a3 0 (show 0<3 by decide);have hb:2<=b/\b<=6:=a3 1 (show 1<3 by decide);have hc:2<=c/\c<=6:=a3 2 (show 2<3 by decide);refine⟨aB _,λi st=>∃(fs:List Pl) (t:D) (r':Rat) (o5 o12 o13:SD),st=[.val .fl,.val (.int 3),w,x3,.no,o5,.no,.no,.no,.val (.lst [.int (a:Nat),.int (b:Nat),.int (c:Nat)]),.val t,.own (fs.map pq),o12,o13]/\((i=0/\fs=[]/\FqD 2 2 t r')\/(i=1/\FqD (1+2*c) (1+2*c) t r'/\∃ f0:Pl,fs=[f0]/\Pc.Pz 17 7 f0.1 f0.2/\f0.1.length=c+1)\/(i=2/\FqD (1+(1+2*c)*b) (1+(1+2*c)*b) t r'/\∃ f0 f1:Pl,fs=[f0,f1]/\Pc.Pz 17 7 f0.1 f0.2/\f0.1.length=c+1/\Pc.Pz 110 30 f1.1 f1.2/\f1.1.length=b+1)\/(i=3/\∃ f0 f1 f2:Pl,fs=[f0,f1,f2]/\Pc.Pz 17 7 f0.1 f0.2/\f0.1.length=c+1/\Pc.Pz 110 30 f1.1 f1.2/\f1.1.length=b+1/\Pc.Pz 110 60 f2.1 f2.2/\f2.1.length=a+1)),⟨[],d,r,.no,.no,.no,rfl,.inl ⟨rfl,rfl,f⟩⟩,?_,?_⟩
 ·rintro i e _ hd ⟨fs,t,r',o5,o12,o13,rfl,h⟩;have hi:i<3:=(aj.mp hd).1;rcases h with⟨rfl,rfl,ft⟩|⟨rfl,ft,f0,rfl,z0,l0⟩|⟨rfl,ft,f0,f1,rfl,z0,l0,z1,l1⟩|⟨rfl,_⟩
  ·cases hd;exact vo (i:=0) (n:=c) (M:=2) (fs:=[]) (by decide) (by decide) hc.1 h3.2.2 rfl ft λP B t' r' o12 o13 z l f'=>⟨[(P,B)],t',r',_,o12,o13,rfl,.inr (.inl ⟨rfl,f',(P,B),rfl,z.mono (by omega) (by omega),l⟩)⟩
  ·cases hd;exact vo (i:=1) (n:=b) (M:=1+2*c) (fs:=[f0]) (by decide) (by omega) hb.1 h3.2.1 rfl ft λP B t' r' o12 o13 z l f'=>⟨[f0,(P,B)],t',r',_,o12,o13,rfl,.inr (.inr (.inl ⟨rfl,f',f0,(P,B),rfl,z0,l0,z.mono s1.1 s1.2,l⟩))⟩
  ·cases hd;have w1:(2*(1+(1+2*c)*b)+1)*a<=33*3:=aX (by omega) h3.1;have w2:(1+(1+2*c)*b)*a<=16*3:=aX (by omega) h3.1;exact vo (i:=2) (n:=a) (M:=1+(1+2*c)*b) (fs:=[f0,f1]) (by decide) (by omega) ha.1 h3.1 rfl ft λP B t' r' o12 o13 z l f'=>⟨[f0,f1,(P,B)],t',r',_,o12,o13,rfl,.inr (.inr (.inr ⟨rfl,f0,f1,(P,B),rfl,z0,l0,z1,l1,z.mono (by omega) (by omega),l⟩))⟩
  ·omega
 ·rintro _ ⟨fs,t,r',o5,o12,o13,rfl,h⟩;have e3:([D.int (a:Nat),.int (b:Nat),.int (c:Nat)].reverse).length=3:=rfl;rw [e3] at h;rcases h with⟨h,_⟩|⟨h,_⟩|⟨h,_⟩|⟨_,f0,f1,f2,rfl,z0,l0,z1,l1,z2,l2⟩
  ·exact absurd h (by decide)
  ·exact absurd h (by decide)
  ·exact absurd h (by decide)
  ·exact EM hl h3 z0 l0 z1 l1 z2 l2 q
end
theorem jL:Does 14 kJ i9:=by
 rintro ds Q hn ⟨_,rfl,q⟩;have q:∀ es,FL es->Q (cD es):=λes h=>q _ ⟨es,rfl,h⟩;refine⟨rfl,5,⟨rfl,by decide,vV (by decide)⟩,?_⟩;rintro _ ⟨w,rfl,w0,w1⟩;refine vG (p:=w=4) (λ_=>?_) (λn4=>vG (p:=w=0) (λ_=>?_) (λn0=>vG (p:=w<3) (λ_=>?_) (λn3=>?_)))
 ·refine⟨rfl,(),rfl,?_⟩;rintro _ ⟨A,α,B,β,m,k,rfl,zA,zB,lA,lB,m2,m6,k2,k6,mk⟩;exact EY zA zB lA lB m2 m6 k2 k6 mk q
 ·refine⟨rJ,rJ,rJ,rJ,rJ,rJ,sE (n:=3) (by decide),sE (n:=3) (by decide),sE (n:=8) (by decide),sE (n:=3) (by decide),rJ,rJ,sE (n:=3) (by decide),sE (n:=4) (by decide),sE (n:=12) (by decide),rfl,12,⟨rfl,by decide,vV (by decide)⟩,?_⟩;rintro _ ⟨j,rfl,j0,j1⟩;refine vf j0 (by exact j1) λd hd=>?_;simp only [am,List.cons_append,e9,aK,or_false] at hd;have two:∀ m k:Nat,2<=m->m<=6->2<=k->k<=6->m*k<=12->Dgs [m,k]:=λm k h1 h2 h3 h4 h5=>.inl ⟨m,k,rfl,h1,h2,h3,h4,h5⟩;rcases hd with rfl|rfl|rfl|rfl|rfl|rfl|rfl|rfl|rfl|rfl|rfl|rfl
  ·exact Bg (l:=[2,2]) (two 2 2 (by decide) (by decide) (by decide) (by decide) (by decide)) q
  ·exact Bg (l:=[2,3]) (two 2 3 (by decide) (by decide) (by decide) (by decide) (by decide)) q
  ·exact Bg (l:=[3,2]) (two 3 2 (by decide) (by decide) (by decide) (by decide) (by decide)) q
  ·exact Bg (l:=[4,2]) (two 4 2 (by decide) (by decide) (by decide) (by decide) (by decide)) q
  ·exact Bg (l:=[2,4]) (two 2 4 (by decide) (by decide) (by decide) (by decide) (by decide)) q
  ·exact Bg (l:=[3,3]) (two 3 3 (by decide) (by decide) (by decide) (by decide) (by decide)) q
  ·exact Bg (l:=[2,2,2]) (.inr (.inl rfl)) q
  ·exact Bg (l:=[2,3,2]) (.inr (.inr (.inl rfl))) q
  ·exact Bg (l:=[2,2,3]) (.inr (.inr (.inr (.inl rfl)))) q
  ·exact Bg (l:=[6,2]) (two 6 2 (by decide) (by decide) (by decide) (by decide) (by decide)) q
  ·exact Bg (l:=[2,6]) (two 2 6 (by decide) (by decide) (by decide) (by decide) (by decide)) q
  ·exact Bg (l:=[3,2,2]) (.inr (.inr (.inr (.inr rfl)))) q
 ·refine⟨rfl,(),rfl,?_⟩;rintro _ ⟨A,α,B,β,m,k,w',rfl,zA,zB,lA,lB,m2,m6,k2,k6,mk⟩;exact⟨rfl,rJ,EY zA zB lA lB m2 m6 k2 k6 mk q⟩
 ·refine⟨sE (n:=3) (by decide),sE (n:=3) (by decide),sE (n:=3) (by decide),sE (n:=3) (by decide),rfl,3,⟨rfl,by decide,vV (by decide)⟩,?_⟩;rintro _ ⟨j,rfl,j0,j1⟩;refine vf j0 (by exact j1) λd hd=>?_;simp only [am,aK,or_false] at hd;have fr:∀(a b c:Nat),Dgs [a,b,c]->(a<=3/\b<=3/\c<=3)->2*c<=6->(1+2*c)*b<=15->(2*(1+2*c)+1)*b+2<=110/\(1+2*c)*b+1<=30->i4.run (qX Q) [.val .fl,.val (.int 3),.val (.int w),.no,.no,.no,.no,.no,.no,.val (.lst [.int (a:Nat),.int (b:Nat),.int (c:Nat)]),.no,.no,.no,.no]:=λa b c hl h3 m1 m2 s1=>by
   refine⟨rJ,rfl,(2,2),⟨rfl,by decide,by unfold Lt2;decide,by decide,by decide⟩,?_⟩;rintro e ⟨r,f⟩;have f:FqD 2 2 e r:=f;refine⟨rJ,rfl,2,⟨rfl,by decide,vV (by decide)⟩,?_⟩;rintro _ ⟨i,rfl,i0,i1⟩;refine vf i0 (by exact i1) λx hx=>?_;simp only [am,aK,or_false] at hx;rcases hx with rfl|rfl
   ·exact C3 hl h3 m1 m2 s1 (r:=((0:Int):Rat)) ((r9 (n:=2) (t:=0) (uL _)).mono (af _) (by decide)) q
   ·exact C3 hl h3 m1 m2 s1 f q
  rcases hd with rfl|rfl|rfl
  ·exact fr 2 2 3 (.inr (.inr (.inr (.inl rfl)))) (by decide) (by decide) (by decide) (by decide)
  ·exact fr 2 3 2 (.inr (.inr (.inl rfl))) (by decide) (by decide) (by decide) (by decide)
  ·exact fr 3 2 2 (.inr (.inr (.inr (.inr rfl)))) (by decide) (by decide) (by decide) (by decide)
end Dp
namespace Ap
open L2 Cv Hv Pc Qp
theorem Eu{R:List Int}{C:Int}{m:Nat}(f:Po.Fm R C)(l:R.length<=m+1)(z:q R C m=0):R.length<=m:=by
 rcases ar m R.length with y|y
 ·have:=sY f (by rintro rfl;simp at y);rw [show R.length-1=m by omega] at this;exact absurd z this
 ·exact y
end Ap
namespace Dp
open PySem L2
theorem xR{R A p:List Int}{C α c:Int}{d s:Nat}(fR:Po.Fm R C)(lR:R.length=d+1)(fA:Po.Fm A α)(lA:A.length=s+1)(s1:1<=s)(fp:Po.Fm p c)(e:∀ x,Qp.E p c x=Qp.E R C (Qp.E A α x)):p.length=d*s+1:=by
 obtain⟨S,cS,o⟩:=IN fR fA;have l:=Pc.Of.deg_eq fR.pos fA.pos o lR lA s1 (rN fR lR) (rN fA lA);obtain⟨rfl,rfl⟩:=Qp.tQ fp o.1 λx=>by rw [e,Qp.Dz fR.pos fA.pos o]
 exact l
end Dp
namespace Dp
open PySem L2 Cv Hv Pc Qp
theorem uO{A:List Int}{α:Int}{s:Nat}(fA:Po.Fm A α)(lA:A.length=s+1)(mon:A.getD s 0=α)(k:Nat):∃ H C,Po.Fm H C/\(∀ x,E H C x=E A α x^k)/\q H C (k*s)=1:=by
 obtain⟨H,C,fH,eH,qH⟩:=Ca.yl fA k;refine⟨H,C,fH,eH,?_⟩;rw [qH,Ca.BN,wX (λi hi=>qJ (by omega)),show fn A s=α from mon];have n2:=qF (show 0<α^k from bB fA.pos);generalize ((α^k:Int):Rat)=u at *;grind
theorem vL{W:List Int}{w:Int}{l:Nat}(fW:Po.Fm W w)(lW:W.length=l+1):∃ r,Ap.Pl' l r/\∀ y,E W w y=q W w l*y^l+r y:=by
 obtain⟨H,C,fH,eH,qH⟩:=uO (A:=Pc.X) (α:=1) (s:=1) ⟨by decide,.inr (by decide),by decide⟩ rfl rfl l;rw [dH] at qH;have pH:Ap.Pl' (l+1) (E H C):=((Ap.Pl'.x.pow (s:=1) l).congr λx=>by rw [eH,JU]).mono (by omega);obtain⟨D,e,fD,eD,lD⟩:=((Ap.Pl'.of fW).mono (m:=l+1) (by omega)).add (pH.smul (-(q W w l)));have eD:∀ x,E D e x=E W w x + -(q W w l)*E H C x:=eD;have qe:=Ap.vc (u:=q W w l) fW fH fD (λx=>by rw [eD x];grind) l;rw [qH] at qe;have z:q D e l=0:=by grind
 refine⟨E D e,⟨D,e,fD,λ_=>rfl,Ap.Eu fD lD z⟩,λy=>?_⟩;rw [eD y,eH,JU];grind
theorem Ct{W A G:List Int}{w α U:Int}{l s:Nat}(fW:Po.Fm W w)(lW:W.length=l+1)(l1:1<=l)(mW:W.getD l 0=w)(fA:Po.Fm A α)(lA:A.length=s+1)(s1:1<=s)(mA:A.getD s 0=α)(fG:Po.Fm G U)(eG:∀ x,E G U x=E W w (E A α x)):G.getD (l*s) 0=U:=by
 obtain⟨r,⟨R,C,fR,eR,lR⟩,e⟩:=vL fW lW;obtain⟨H,c,fH,eH,qH⟩:=uO fA lA mA l;have pA:Ap.Pl' (s+1) (E A α):=lA ▸ Ap.Pl'.of fA;obtain⟨S,d,fS,eS,lS⟩:=Ap.Pl'.comp (P:=R) (B:=C) pA;have eS:∀ x,E S d x=E R C (E A α x):=eS;have qW:q W w l=1:=by
  unfold q;rw [mW];have:=qF fW.pos;grind
 have ls:l*s=s*(l-1)+s:=by
  obtain⟨j,rfl⟩:∃ j,l=j+1:=⟨l-1,by omega⟩;rw [aG,a9,aT]
 have b:s*(R.length-1)<=s*(l-1):=ai _ (by omega);have qe:=Ap.vc (u:=1) fG fH fS (λx=>by rw [eG,e,eS,eR,eH,qW]) (l*s);rw [qH,sQ (P:=S) (by omega)] at qe;have qe:q G U (l*s)=((1:Int):Rat) / ((1:Int):Rat):=by rw [qe];grind
 have:=(rG (ax fG.pos) (by decide)).mp qe;omega
theorem F3{P G:List Int}{B U:Int}{k s:Nat}{c:Rat}{r:Rat->Rat}(k1:1<=k)(s1:1<=s)(fP:Po.Fm P B)(fG:Po.Fm G U)(lG:G.length=s+1)(mG:G.getD s 0=U)(hr:Ap.Pl' (k*s-s+1) r)(e:∀ x,E P B x=c*E G U x^k+r x):Ca.Sem P B k s G U:=by
 have ks:s<=k*s:=bo _ k1;obtain⟨H,C,fH,eH,qH⟩:=uO fG lG mG k;have hr':=hr;obtain⟨S,d,fS,eS,lS⟩:=hr';have qe:=Ap.vc (u:=c) fP fH fS (λx=>by rw [e,eH,eS]) (k*s);rw [qH,sQ (P:=S) (by omega)] at qe;have qe:q P B (k*s)=c:=by rw [qe];grind
 exact⟨r,hr,λx=>by rw [qe];exact e x⟩
theorem EO{P R A W G:List Int}{B C α w U:Int}{k l s:Nat}(k1:1<=k)(l1:1<=l)(s1:1<=s)(fP:Po.Fm P B)(fA:Po.Fm A α)(lA:A.length=s+1)(mA:A.getD s 0=α)(A0:A.getD 0 0=0)(fR:Po.Fm R C)(lR:R.length=k*l+1)(eP:∀ x,E P B x=E R C (E A α x))(cW:Cn R k l W w)(fG:Po.Fm G U)(eG:∀ x,E G U x=E W w (E A α x)):Cn P k (l*s) G U:=by
 obtain⟨fW,lW,cW⟩:=cW;obtain⟨mW,W0⟩:=vy cW l1;have lG:=xR fW lW fA lA s1 fG eG;have mG:=Ct fW lW l1 mW fA lA s1 mA fG eG;have ls1:1<=l*s:=gw l1 s1;obtain⟨r,⟨S,d,fS,eS,lS⟩,e⟩:=cW.sem fR lR fW lW k1 l1;have pA:Ap.Pl' (s+1) (E A α):=lA ▸ Ap.Pl'.of fA;have pr:Ap.Pl' (k*(l*s)-l*s+1) λx=>r (E A α x):=((Ap.Pl'.comp (P:=S) (B:=d) pA).congr λx=>eS _).mono (by
  have b:s*(S.length-1)<=s*(k*l-l):=ai _ (by omega);have b2:s*(k*l-l)=k*(l*s)-l*s:=by rw [Nat.mul_sub,show s*(k*l)=k*(l*s) by rw [aT s,dO],aT s l]
  omega)
 have sm:=F3 k1 ls1 fP fG lG mG pr (c:=q R C (k*l)) λx=>by rw [eP,e,eG]
 refine⟨fG,lG,sm.cand fP fG lG k1 ls1 mG ?_⟩;have z:q G U 0=((0:Int):Rat) / ((1:Int):Rat):=by
  have a0:E A α 0=0:=by
   rw [sv];unfold q;rw [A0];show (0:Rat) / _=0;grind
  rw [← sv,eG,a0,sv];unfold q;rw [show W.getD 0 0=0 from W0];show (0:Rat) / _=(0:Rat) / _;grind
 have:=(rG (ax fG.pos) (by decide)).mp z;omega
end Dp
namespace Dp
open PySem L2 Cv Hv Pc Qp
theorem sh{P R A:List Int}{B C α:Int}{k s:Nat}(k1:1<=k)(s1:1<=s)(fP:Po.Fm P B)(fA:Po.Fm A α)(lA:A.length=s+1)(mA:A.getD s 0=α)(fR:Po.Fm R C)(lR:R.length=k+1)(e:∀ x,E P B x=E R C (E A α x)):q P B (k*s)=q R C k:=by
 obtain⟨r,⟨S,d,fS,eS,lS⟩,er⟩:=vL fR lR;obtain⟨H,c,fH,eH,qH⟩:=uO fA lA mA k;have pA:Ap.Pl' (s+1) (E A α):=lA ▸ Ap.Pl'.of fA;obtain⟨T,t,fT,eT,lT⟩:=Ap.Pl'.comp (P:=S) (B:=d) pA;have eT:∀ x,E T t x=E S d (E A α x):=eT;have ks:k*s=s*(k-1)+s:=by
  obtain⟨j,rfl⟩:∃ j,k=j+1:=⟨k-1,by omega⟩;rw [aG,a9,aT]
 have b:s*(S.length-1)<=s*(k-1):=ai _ (by omega);have qe:=Ap.vc (u:=q R C k) fP fH fT (λx=>by rw [e,er,eT,eS,eH]) (k*s);rw [qH,sQ (P:=T) (by omega)] at qe;rw [qe];grind
theorem zC{P R A:List Int}{B C α:Int}{k s:Nat}(s1:1<=s)(fP:Po.Fm P B)(lP:P.length=k*s+1)(fA:Po.Fm A α)(lA:A.length=s+1)(fR:Po.Fm R C)(e:∀ x,E P B x=E R C (E A α x)):R.length=k+1:=by
 rcases cR R.length with y|y
 ·have r0:R=[]:=bR.mp y;have:P=[]:=(tQ fP Ap.Cm λx=>by rw [e,r0,Ap.wg,Ap.wg]).1;rw [this] at lP;simp at lP
 ·obtain⟨d,hd⟩:∃ d,R.length=d+1:=⟨R.length-1,by omega⟩;have h:=xR fR hd fA lA s1 fP e;rw [lP] at h;have:d=k:=Nat.eq_of_mul_eq_mul_right s1 (by omega);omega
end Dp
namespace Dp
open PySem L2 Ch
theorem Dd{P:List Int}{m:Nat}:Cn P m 1 Pc.X 1:=by
 refine⟨Pc.Du.fm,rfl,1,λ_=>1,by decide,rfl,λj hj=>?_,λi hi=>?_,rfl⟩
 ·have e:j=0:=by omega
  subst e;rw [Ca.Ay (g:=λ_=>1) rfl,bx,aU]
 ·have e:i=0:=by omega
  subst e;rfl
theorem A5{H A:List Int}{V α:Int}{k s:Nat}(k1:1<=k)(s1:1<=s)(fH:Po.Fm H V)(lH:H.length=k*s+1)(fA:Po.Fm A α)(lA:A.length=s+1)(mA:A.getD s 0=α)(A0:A.getD 0 0=0)(h:L4 H V A α):Cn H k s A α:=by
 obtain⟨W,w,fW,eW⟩:=h;have lW:=zC s1 fH lH fA lA fW eW;have c:=EO (l:=1) k1 (af _) s1 fH fA lA mA A0 fW (by rw [dH];exact lW) eW Dd fA λx=>by rw [Qp.JU]
 rw [gv] at c;exact c
def JD(f g h:Pl):Prop:=∀ x,Qp.E f.1 f.2 x=Qp.E g.1 g.2 (Qp.E h.1 h.2 x)
structure Nt2 (f g h:Pl)(k s:Nat):Prop where
 fg:Po.Fm g.1 g.2
 fh:Po.Fm h.1 h.2
 lh:h.1.length=s+1
 ne:Dx h
 e:JD f g h
theorem Nt2.cn{f g h:Pl}{k s:Nat}(n:Nt2 f g h k s)(k1:1<=k)(s1:1<=s)(ff:Po.Fm f.1 f.2)(lf:f.1.length=k*s+1):Cn f.1 k s h.1 h.2:=by
 obtain⟨n1,n2⟩:=n.ne;rw [n.lh,aG] at n1;exact A5 k1 s1 ff lf n.fh n.lh n1 n2 ⟨g.1,g.2,n.fg,n.e⟩
theorem Nt2.lg{f g h:Pl}{k s:Nat}(n:Nt2 f g h k s)(k1:1<=k)(s1:1<=s)(ff:Po.Fm f.1 f.2)(lf:f.1.length=k*s+1):g.1.length=k+1:=zC s1 ff lf n.fh n.lh n.fg n.e
theorem Nt2.uniq{f g h g' h':Pl}{k s:Nat}(n:Nt2 f g h k s)(n':Nt2 f g' h' k s)(k1:1<=k)(s1:1<=s)(ff:Po.Fm f.1 f.2)(lf:f.1.length=k*s+1):g=g'/\h=h':=by
 have c:=n.cn k1 s1 ff lf;have c':=n'.cn k1 s1 ff lf;obtain⟨e1,e2⟩:=Ca.Cand.uniq k1 (rN ff lf) c.1 c'.1 c.2.1 c'.2.1 c.2.2 c'.2.2;have eh:h=h':=Prod.ext e1 e2;subst eh;obtain⟨e3,e4⟩:=Cg n.fh n.lh s1 n.fg n'.fg λx=>by rw [← n.e x,n'.e x]
 exact⟨Prod.ext e3 e4,rfl⟩
theorem Nt2.ne1{f g h a b:Pl}{k s:Nat}(n:Nt2 f g h k s)(k1:1<=k)(s1:1<=s)(ff:Po.Fm f.1 f.2)(lf:f.1.length=k*s+1)(m:Nt2 f a b s k)(na:Dx a):Dx g:=by
 have lg:=n.lg k1 s1 ff lf;have la:=m.lg s1 k1 ff (by rw [aT];exact lf);obtain⟨h1,h2⟩:=n.ne;obtain⟨b1,b2⟩:=m.ne;obtain⟨a1,a2⟩:=na;rw [n.lh,aG] at h1;rw [m.lh,aG] at b1;rw [la,aG] at a1;have q1:=sh k1 s1 ff n.fh n.lh h1 n.fg lg n.e;have q2:=sh s1 k1 ff m.fh m.lh b1 m.fg la m.e;rw [aT] at q2;have qa:Qp.q a.1 a.2 s=1:=by
  unfold Qp.q;rw [a1];have:=Qp.qF m.fg.pos;grind
 have qg:Qp.q g.1 g.2 k=1:=by rw [← q1,q2,qa]
 have z0:∀ c:Pl,Po.Fm c.1 c.2->c.1.getD 0 0=0->Qp.E c.1 c.2 0=0:=λc fc h=>by
  rw [Qp.sv];unfold Qp.q;rw [h];have:((0:Int):Rat)=0:=rfl;rw [this];grind
 have e0:Qp.E g.1 g.2 0=0:=by
  have x1:=n.e 0;have x2:=m.e 0;rw [z0 h n.fh h2] at x1;rw [z0 b m.fh b2,z0 a m.fg a2] at x2;rw [← x1,x2]
 refine⟨?_,?_⟩
 ·rw [lg,aG];unfold Qp.q at qg;have n2:=Qp.qF n.fg.pos;have:((g.1.getD k 0:Int):Rat)=(g.2:Rat):=by
   generalize ((g.1.getD k 0:Int):Rat)=y at *;have:y=y / (g.2:Rat)*(g.2:Rat):=by grind
   rw [this,qg];grind
  exact de.mp this
 ·rw [Qp.sv] at e0;unfold Qp.q at e0;have n2:=Qp.qF n.fg.pos;have:((g.1.getD 0 0:Int):Rat)=0:=by
   generalize ((g.1.getD 0 0:Int):Rat)=y at *;have:y=y / (g.2:Rat)*(g.2:Rat):=by grind
   rw [this,e0];grind
  exact cU.mp this
theorem HB{u v:List Pl}{a b:Pl}:((u++a::b::v).map pq)[u.length]? = some (pq a)/\((u++a::b::v).map pq)[u.length+1]? = some (pq b):=by
 rw [aJ,aJ,av (af _),av (by omega),bc,show u.length+1-u.length=1 by omega];exact⟨rfl,rfl⟩
theorem Da{l:List D}{a:Nat}(h:a<=l.length):sT l none (some (a:Int))=l.take a:=by
 unfold sT;rw [HT.u9,HT.wy,df h,dA,bx]
theorem yS{l:List D}{a:Nat}(h:a<=l.length):sT l (some (a:Int)) none=l.drop a:=by
 unfold sT;rw [HT.u9,HT.wy,df h,dY (by rw [eZ];exact af _)]
end Dp
namespace Dp
open PySem L2 Ch
abbrev p0:Pl:=([],1)
structure Stt (L:List Pl)(l:List Nat)(zs:Nat->Nat×Nat):Prop where
 nea:KN L
 len:L.length=l.length
 dg:∀ i,i<l.length->(L.getD i p0).1.length=l.getD i 0+1
 sz:∀ i,i<l.length->Pc.Pz (zs i).1 (zs i).2 (L.getD i p0).1 (L.getD i p0).2
def Xr(i da db:Nat)(e:Nat×Nat)(L L':List Pl):Prop:=∃ u a b v f g h,L=u++a::b::v/\u.length=i/\L'=u++g::h::v/\Pc.Pz e.1 e.2 f.1 f.2/\f.1.length=db*da+1/\Nt2 f a b da db/\Nt2 f g h db da
theorem Xr.symm{i da db:Nat}{e:Nat×Nat}{L L':List Pl}(h:Xr i da db e L L'):Xr i db da e L' L:=by
 obtain⟨u,a,b,v,f,g,h,rfl,hu,rfl,z,lf,n1,n2⟩:=h;exact⟨u,g,h,v,f,a,b,rfl,hu,rfl,z,by rw [lf,aT],n2,n1⟩
theorem zI{u u' v v':List Pl}{a b a' b':Pl}(h:u++a::b::v=u'++a'::b'::v')(l:u.length=u'.length):u=u'/\a=a'/\b=b'/\v=v':=by
 obtain⟨h1,h2⟩:=List.append_inj h l;injection h2 with h3 h4;injection h4 with h5 h6;exact⟨h1,h3,h5,h6⟩
theorem Xr.uniq{i da db:Nat}{e e':Nat×Nat}{L M M':List Pl}(d1:1<=da)(d2:1<=db)(h:Xr i da db e L M)(h':Xr i da db e' L M'):M=M':=by
 obtain⟨u,a,b,v,f,g,h,rfl,hu,rfl,z,lf,n1,n2⟩:=h;obtain⟨u',a',b',v',f',g',h',e1,hu',rfl,z',lf',m1,m2⟩:=h';obtain⟨rfl,rfl,rfl,rfl⟩:=zI e1 (by omega);have ef:f=f':=by
  obtain⟨x1,x2⟩:=Qp.tQ z.fm z'.fm λx=>by rw [n1.e x,m1.e x]
  exact Prod.ext x1 x2
 subst ef;obtain⟨rfl,rfl⟩:=n2.uniq m2 d2 d1 z.fm lf;rfl
theorem F1{L:List Pl}{i:Nat}(h:i+1<L.length):∃ u v,L=u++L.getD i p0::L.getD (i+1) p0::v/\u.length=i:=by
 refine⟨L.take i,L.drop (i+2),?_,by rw [aZ];omega⟩;have e1:L.drop i=L.getD i p0::L.drop (i+1):=by
  rw [cK (by omega),ac,ao (by omega)];rfl
 have e2:L.drop (i+1)=L.getD (i+1) p0::L.drop (i+2):=by
  rw [cK (by omega),ac,ao (by omega)];rfl
 rw [← e2,← e1,d9]
theorem xH{u v:List Pl}{a b:Pl}:(u++a::b::v).getD u.length p0=a/\(u++a::b::v).getD (u.length+1) p0=b:=by
 rw [ac,ac,av (af _),av (by omega),bc,show u.length+1-u.length=1 by omega];exact⟨rfl,rfl⟩
theorem Ja{u v:List Pl}{a b g h:Pl}{t:Nat}(h1:t≠u.length)(h2:t≠u.length+1):(u++g::h::v)[t]? = (u++a::b::v)[t]?:=by
 rcases ar t u.length with y|y
 ·rw [aR y,aR y]
 ·rw [av y,av y];obtain⟨s,hs⟩:∃ s,t-u.length=s+2:=⟨t-u.length-2,by omega⟩;rw [hs];rfl
theorem Xr.st{i da db:Nat}{e:Nat×Nat}{L L':List Pl}{l l':List Nat}{zs zs':Nat->Nat×Nat}(d1:1<=da)(d2:1<=db)(s:Stt L l zs)(h:Xr i da db e L L')(hi:i+1<l.length)(ll:l'.length=l.length)(a1:l'.getD i 0=db)(a2:l'.getD (i+1) 0=da)(a3:∀ t,t≠i->t≠i+1->l'.getD t 0=l.getD t 0/\zs' t=zs t)(z1:Pc.Pz (zs' i).1 (zs' i).2 (L'.getD i p0).1 (L'.getD i p0).2)(z2:Pc.Pz (zs' (i+1)).1 (zs' (i+1)).2 (L'.getD (i+1) p0).1 (L'.getD (i+1) p0).2):Stt L' l' zs':=by
 obtain⟨u,a,b,v,f,g,h,rfl,hu,rfl,z,lf,n1,n2⟩:=h;subst hu;obtain⟨x1,x2⟩:=xH (u:=u) (v:=v) (a:=g) (b:=h);have lg:=n2.lg d2 d1 z.fm lf;have fo:∀(t:Nat),t≠u.length->t≠u.length+1->(u++g::h::v)[t]? = (u++a::b::v)[t]?:=λt h1 h2=>Ja h1 h2;have go:∀(t:Nat),t≠u.length->t≠u.length+1->(u++g::h::v).getD t p0=(u++a::b::v).getD t p0:=λt h1 h2=>by
  rw [ac,ac,fo t h1 h2]
 have le:(u++g::h::v).length=(u++a::b::v).length:=by rw [aq,aq];rfl
 have at0:(u++g::h::v)[u.length]? = some g:=by rw [av (af _),bc];rfl
 have at1:(u++g::h::v)[u.length+1]? = some h:=by rw [av (by omega),show u.length+1-u.length=1 by omega];rfl
 have bt0:(u++a::b::v)[u.length]? = some a:=by rw [av (af _),bc];rfl
 refine⟨⟨λc hc=>?_,λt c hc ht=>?_⟩,by rw [le,s.len,ll],λt ht=>?_,λt ht=>?_⟩
 ·rcases bz.mp hc with y|y
  ·exact s.nea.1 c (bz.mpr (.inl y))
  ·rcases am.mp y with y|y
   ·rw [y];exact n2.fg
   ·rcases am.mp y with y|y
    ·rw [y];exact n2.fh
    ·exact s.nea.1 c (bz.mpr (.inr (ay _ (ay _ y))))
 ·by_cases e1:t=u.length
  ·subst e1;rw [at0] at hc;cases hc;exact n2.ne1 d2 d1 z.fm lf n1 (s.nea.2 _ a bt0 ht)
  ·by_cases e2:t=u.length+1
   ·subst e2;rw [at1] at hc;cases hc;exact n2.ne
   ·rw [fo t e1 e2] at hc;exact s.nea.2 t c hc ht
 ·by_cases e1:t=u.length
  ·subst e1;rw [x1,a1,lg]
  ·by_cases e2:t=u.length+1
   ·subst e2;rw [x2,a2,n2.lh]
   ·rw [go t e1 e2,(a3 t e1 e2).1];exact s.dg t (by omega)
 ·by_cases e1:t=u.length
  ·rw [e1];exact z1
  ·by_cases e2:t=u.length+1
   ·rw [e2];exact z2
   ·rw [go t e1 e2,(a3 t e1 e2).2];exact s.sz t (by omega)
end Dp
namespace Dp
open PySem L2
def Wt(y:Nat)(R:List Int)(C:Int)(s:Nat):Prop:=∀ j,j<=s->(R.getD (s-j) 0).natAbs<=C.natAbs*2^(y*j)
theorem Wt.pz{y b s:Nat}{R:List Int}{C:Int}(h:Wt y R C s)(fm:Po.Fm R C)(l:R.length=s+1)(hb:Lt2 b C):Pc.Pz (b+y*s) b R C:=by
 refine⟨fm,λi=>?_,hb⟩;rcases ar s i with z|z
 ·rw [qG (by omega)];exact uL _
 ·have w:=h (s-i) (by omega);rw [show s-(s-i)=i by omega] at w;have p:2^(y*(s-i))<=2^(y*s):=b9 (by decide) (ai _ (by omega));have hb:C.natAbs<2^b:=hb;show (R.getD i 0).natAbs<2^(b+y*s);rw [dG];exact bE w (bE (ai _ p) (dr hb (bG (by decide))))
end Dp
namespace Dp
open PySem L2
def jn:SpB:=.of 1 (α:=List Int×Nat×Nat×Nat) (λ(ts,n,M,Z) ds=>ds=[.tup (ts.map .int)]/\ts.length=n+1/\n<=20/\(∀ i,Lt2 M (ts.getD i 0))/\M<=9000000/\Lt2 Z (ts.getD n 0)/\(Z+1)*(n+2)<=390000/\ts.getD n 0≠0)
 (λ(ts,n,M,Z) d=>∃ c:Int,d = .int c/\0<c/\Lt2 Z c/\∀ j,j<=n->ts.getD n 0∣ts.getD (n-j) 0*c^j)
theorem ka:Does 5 lY jn:=by
 rintro ds Q hn ⟨⟨ts,n,M,Z⟩,⟨rfl,ln,n20,hM,M3,hZ,Z9,hL⟩,q⟩;dsimp only at ln n20 hM M3 hZ Z9 hL q;have Zl:Z+1<=(Z+1)*(n+2):=bM _ (by omega);obtain⟨m,hm⟩:∃ m:Int,m=(((ts.getD n 0).natAbs:Nat):Int):=⟨_,rfl⟩;have m0:0<m:=by omega
 have lm:Lt2 Z m:=by rw [hm];exact hZ.le (by rw [a8];exact af _)
 have dv:∀ y:Int,m∣y↔ts.getD n 0∣y:=λy=>by rw [hm];exact Int.natAbs_dvd
 have small:∀ c:Int,0<c->c∣m->Lt2 Z c:=λc c0 hc=>lm.le (ce (by omega) (a6.mpr hc));suffices h1:iJ.run (qX Q) [.val (.tup (ts.map .int)),.val (.int n),.val (.int m),.no,.no] by
  refine rT (tE (j:=1) (n:=n+1) (v:=.int (ts.getD n 0)) (rB (by omega)) (by rw [aa,ln]) (by decide) (by omega)) ?_;show iJ.run (qX Q) [.val (.tup (ts.map .int)),.val (.int (((ts.map D.int).length:Int)-1)),.val (.int (if ts.getD n 0<0 then -(ts.getD n 0) else ts.getD n 0)),.no,.no];rw [aa,ln,show ((n+1:Nat):Int)-1=(n:Int) by omega,sP,← hm];exact h1
 have en:((n:Int)+1-1).toNat=n:=by omega
 refine⟨⟨by omega,by omega,by omega,by omega⟩,λi s=>∃(c:Int) (o:SD),s=[.val (.tup (ts.map .int)),.val (.int n),.val (.int m),.val (.int c),o]/\0<c/\c∣m/\∀ j,j<=i->ts.getD n 0∣ts.getD (n-j) 0*c^j,⟨1,.no,rfl,by decide,Int.one_dvd _,λj hj=>?_⟩,?_,?_⟩
 ·rw [show j=0 by omega,bx];exact dN _ _
 ·rintro i d _ hd ⟨c,o,rfl,c0,cm,hj⟩;obtain⟨hi,rfl⟩:=rg hd;have hi:i<n:=by omega
  have e1:(1:Int)+(i:Int)=((i+1:Nat):Int):=by omega
  rw [e1];have em:(n:Int)-((i+1:Nat):Int)=((n-(i+1):Nat):Int):=by omega
  have lc:=small c c0 cm;have b2:(Z+1)*(i+1+1)<=(Z+1)*(n+2):=ai _ (by omega);have b3:Z*(i+1)<=(Z+1)*(n+2):=aX (by omega) (by omega);refine rT (d:=.int (ts.getD (n-(i+1)) 0)) (by rw [em];exact sq (rB (by omega))) ⟨rfl,(c,i+1,Z),⟨rfl,lc,by omega,by omega⟩,?_⟩;rintro _ rfl;refine⟨⟨_,_,hM _,Hv.rA lc (i+1),by omega⟩,rfl,(m,ts.getD (n-(i+1)) 0*c^(i+1)),rfl,?_⟩;rintro _ rfl;dsimp only;have g0:=tz (a:=m) (b:=ts.getD (n-(i+1)) 0*c^(i+1)) (by omega);have gd:=(tZ m (ts.getD (n-(i+1)) 0*c^(i+1))).1;obtain⟨e,q0,ql⟩:=rj g0 m0 gd;have nx:=CT (x:=ts.getD (n-(i+1)) 0*c^(i+1)) m0;have gl:(Fr.cp m (ts.getD (n-(i+1)) 0*c^(i+1))).natAbs<=m.natAbs:=ce (by omega) (a6.mpr gd);have lq:=lm.le ql;have cx:c∣ts.getD (n-(i+1)) 0*c^(i+1):=fX ⟨c^i,by rw [aV,bh]⟩;refine⟨⟨by omega,Z,lm.le gl,by omega⟩,⟨_,_,lc,lq,by omega⟩,_,_,rfl,az c0 q0,Bu m0 cm cx,λj hj'=>?_⟩;generalize m.fdiv (Fr.cp m (ts.getD (n-(i+1)) 0*c^(i+1)))=y at *;rw [gA,← bI];rcases bK hj' with z|z
  ·subst z;have ey:y^(i+1)=y*y^i:=by rw [aV,bh]
   rw [ey,← bI];exact dX ((dv _).mp nx)
  ·exact dX (hj j (by omega))
 ·rintro _ ⟨c,o,rfl,c0,cm,hj⟩;rw [qQ,en] at hj;exact q _ ⟨c,rfl,c0,small c c0 cm,hj⟩
def jM:SpB:=.of 2 (α:=List Int×List Int×Nat×Nat×Nat×Nat) (λ(L,b,s,N,A,w) ds=>ds=[.lst (L.map .int),.lst (b.map .int)]/\b.length=s+1/\b.getD s 0=1/\1<=s/\s<=100/\L.length<=N+1/\N<=100/\(∀ i,Lt2 (A+w*(N-i)) (L.getD i 0))/\(∀ i,i<=s->Lt2 (w*(s-i)+1) (b.getD i 0))/\A+w*N<=40000000)
 (λ(L,b,s,N,A,w) d=>∃ K R:List Int,d = .tup [.lst (K.map .int),.lst (R.map .int)]/\K.length=L.length-s/\R.length=min L.length s/\(∀ k,L.getD k 0=R.getD k 0+Cv.cv (Cv.fn K) (Cv.fn b) k)/\(∀ i,Lt2 (A+2*(L.length-s)+w*(N-s-i)) (K.getD i 0))/\(∀ i,Lt2 (A+2*(L.length-s)+w*(N-i)) (R.getD i 0)))
theorem m7:Does 7 pP jM:=by
 rintro ds Q hn ⟨⟨L,b,s,N,A,w⟩,⟨rfl,lb,b1,s1,s2,ll,N1,hA,hZ,A8⟩,q⟩;dsimp only at lb b1 s1 s2 ll N1 hA hZ A8 q;suffices h2:j6.run (qX Q) [.val (.lst (L.map .int)),.val (.lst (b.map .int)),.own (L.map .int),.val (.int s),.own [],.no,.no] by
  refine⟨aB _,?_⟩;show j6.run (qX Q) [.val (.lst (L.map .int)),.val (.lst (b.map .int)),.own (L.map .int),.val (.int (((b.map D.int).length:Int)-1)),.own [],.no,.no];rw [aa,lb,show ((s+1:Nat):Int)-1=(s:Int) by omega];exact h2
 refine⟨λst=>∃(o5 o6:SD) (l M:List Int) (W:Nat->Int),st=[.val (.lst (L.map .int)),.val (.lst (b.map .int)),.own (l.map .int),.val (.int s),.own (M.map .int),o5,o6]/\l.length+M.length=L.length/\(M.length=0\/s<=l.length) /\
   (∀ k,L.getD k 0=l.getD k 0+Cv.cv W (Cv.fn b) k)/\(∀ v,v+s<l.length->W v=0)/\(∀ u,u<M.length->M.getD u 0=W (L.length-s-1-u))/\(∀ v,L.length<=v+s->W v=0)/\(∀ i,Lt2 (A+2*M.length+w*(N-i)) (l.getD i 0))/\(∀ i,Lt2 (A+2*M.length+w*(N-s-i)) (W i)),
  λst=>match st with|[_,_,.own l,_,_,_,_]=>l.length|_=>0,⟨.no,.no,L,[],λ_=>0,rfl,rfl,.inl rfl,λk=>?_,λ_ _=>rfl,λu hu=>absurd hu (bO _),λ_ _=>rfl,λi=>(hA i).mono (by simp),λ_=>uL _⟩,?_⟩
 ·rw [Cv.uI λ_=>rfl,bQ]
 rintro _ ⟨o5,o6,l,M,W,rfl,lM,hs,hW,w0,hM,wt,hl,hw⟩;refine vG (p:=(s:Int)<(((l.map D.int).length:Nat):Int)) (λc=>?_) (λc=>?_)
 ·rw [aa] at c;obtain⟨p,hp⟩:∃ p,l.length=p+1:=⟨l.length-1,by omega⟩;have sp:s<=p:=by omega
  have lt:Lt2 (A+2*M.length+w*(N-p)) (l.getD p 0):=hl p;have wN:w*(N-p)<=w*N:=ai _ (Nat.sub_le _ _);refine⟨.int (l.getD p 0),by rw [aa,hp];exact rB (by omega),?_⟩;refine⟨by rw [aa,sizeLine_eq];omega,?_⟩;generalize hm:l.getD p 0=m at *;refine⟨by omega,by omega,λi st=>∃(o6:SD) (r:List Int),st=[.val (.lst (L.map .int)),.val (.lst (b.map .int)),.own (r.map .int),.val (.int s),.own ((M++[m]).map .int),.val (.int m),o6]/\r.length=p/\∀ k,k<p->r.getD k 0=l.getD k 0-(if p-s<=k/\k<p-s+i then m*b.getD (k-(p-s)) 0 else 0),⟨o6,l.dropLast,?_,by rw [gr,hp];rfl,λk hk=>?_⟩,?_,?_⟩
  ·show [SD.val (.lst (L.map .int)),.val (.lst (b.map .int)),.own (l.map D.int).dropLast,.val (.int s),.own (M.map D.int++[.int m]),.val (.int m),o6]=_;rw [vZ,List.map_dropLast]
  ·rw [EJ (by omega),if_neg (by omega)];omega
  ·rintro i d _ hd ⟨o6,r,rfl,lr,hr⟩;obtain⟨hi,rfl⟩:=rg hd;have hi:i<s:=by omega
   have ei:(((r.map D.int).length:Nat):Int)-(s:Int)+(0+(i:Int))=((p-s+i:Nat):Int):=by rw [aa,lr];omega
   have e0:(0:Int)+(i:Int)=(i:Int):=by omega
   refine⟨(congrArg (λz:Int=>0<=z) ei).mpr (by omega),?_⟩;have et:((((r.map D.int).length:Nat):Int)-(s:Int)+(0+(i:Int))).toNat=p-s+i:=by rw [ei,aS]
   refine xh (d:=.int (r.getD (p-s+i) 0)) (by rw [et];exact rB (by omega)) ?_;refine rT (d:=.int (b.getD i 0)) (by rw [e0];exact sq (rB (by omega))) ?_;have wi:w*(N-p)+w*(s-i)<=w*N:=by
    rw [← Nat.mul_add];exact ai _ (by omega)
   refine⟨⟨_,_,lt,hZ i (by omega),by omega⟩,.val (.int (0+(i:Int))),r.set (p-s+i) (r.getD (p-s+i) 0-m*b.getD i 0),?_,by rw [bj,lr],λk hk=>?_⟩
   ·show [SD.val (.lst (L.map .int)),.val (.lst (b.map .int)),.own ((r.map D.int).set ((((r.map D.int).length:Nat):Int)-(s:Int)+(0+(i:Int))).toNat (.int (r.getD (p-s+i) 0-m*b.getD i 0))),.val (.int s),.own ((M++[m]).map .int),.val (.int m),.val (.int (0+(i:Int)))]=_;rw [et,map_set]
   ·rw [Bz (by omega)];by_cases c:k=p-s+i
    ·rw [if_pos c,hr _ (by omega),if_neg (by omega),if_pos (by omega),c,show p-s+i-(p-s)=i by omega];omega
    ·rw [if_neg c,hr k hk];by_cases c2:p-s<=k/\k<p-s+i
     ·rw [if_pos c2,if_pos (by omega)]
     ·rw [if_neg c2,if_neg (by omega)]
  ·rintro _ ⟨o6,r,rfl,lr,hr⟩;rw [qQ,aS] at hr;have wv:W (p-s)=0:=w0 _ (by omega);have key:∀ k,l.getD k 0=r.getD k 0+(if p-s<=k then m*Cv.fn b (k-(p-s)) else 0):=λk=>by
    unfold Cv.fn;rcases Nat.lt_trichotomy k p with z|z|z
    ·rw [hr k z];by_cases c2:p-s<=k
     ·rw [if_pos (by omega),if_pos c2];omega
     ·rw [if_neg (by omega),if_neg c2];omega
    ·subst z;rw [qG (fs:=r) (by omega),if_pos (by omega),show k-(k-s)=s by omega,b1,hm];omega
    ·rw [qG (fs:=l) (by omega),qG (fs:=r) (by omega),qG (fs:=b) (by omega)];split <;> omega
   have mz:2*(M++[m]).length=2*M.length+2:=by rw [aq];exact bC _ _
   refine⟨⟨_,_,r,M++[m],FM W (p-s) m,rfl,by rw [aq,lr];simp;omega,.inr (by omega),λk=>?_,λv hv=>?_,λu hu=>?_,λv hv=>?_,λi=>?_,λi=>?_⟩,?_⟩
   ·rw [hW k,key k,Hl];omega
   ·rw [wl (by omega)];exact w0 v (by omega)
   ·rw [ww];by_cases e:u=M.length
    ·rw [if_pos e,show L.length-s-1-u=p-s by omega,Bi wv]
    ·rw [if_neg e];rw [aq] at hu;have hu:u<M.length+1:=hu;rw [hM u (by omega),wl (by omega)]
   ·rw [wl (by omega)];exact wt v hv
   ·rw [mz];rcases ar i p with z|z
    ·rw [hr i z];split
     ·rename_i ci;have wi:w*(N-p)+w*(s-(i-(p-s)))=w*(N-i):=by
       rw [← Nat.mul_add];congr 1;omega
      rw [show A+(2*M.length+2)+w*(N-i)=(A+2*M.length+w*(N-i)+1)+1 by omega];exact ((hl i).mono (by omega)).sub ((lt.mul (hZ (i-(p-s)) (by omega))).mono (by omega))
     ·rw [Int.sub_zero];exact (hl i).mono (by omega)
    ·rw [qG (by omega)];exact uL _
   ·rw [mz];by_cases e:i=p-s
    ·rw [e,Bi wv];rw [show N-s-(p-s)=N-p by omega];exact lt.mono (by omega)
    ·rw [wl e];exact (hw i).mono (by omega)
   ·show (r.map D.int).length<(l.map D.int).length;rw [aa,aa];omega
 ·rw [aa] at c;have fK:∀ v,M.reverse.getD v 0=W v:=λv=>by
   rcases ar v M.length with z|z
   ·rw [ac,bu z,← ac,hM _ (by omega)];congr 1;omega
   ·rw [qG (by rw [aN];exact z)];exact (wt v (by omega)).symm
  refine⟨rJ,q _ ⟨M.reverse,l,?_,by rw [aN];omega,by omega,λk=>?_,λi=>?_,λi=>?_⟩⟩
  ·show D.tup [.lst (M.map D.int).reverse,.lst (l.map D.int)]=_;rw [← dR]
  ·rw [hW k];congr 1;exact Cv.rc (λj=>(fK j).symm) λ_=>rfl
  ·rw [fK];exact (hw i).mono (by omega)
  ·exact (hl i).mono (by omega)
end Dp
namespace Dp
open PySem L2
def eB(b0 b:Nat):Nat:=b0+b*12+20
def yB(a w b:Nat):Nat:=a+420+(w+b)*12
def DA(P:List Int)(B:Int)(G:List Int)(U:Int)(s n z e y:Nat)(Ps:List (List Int×Int)):Prop:=∃(N:Nat->Nat->Int) (E:Nat->Int) (Dv:Int),(0<Dv/\Lt2 z Dv/\B∣Dv)/\Ps≠[]/\Ps.length<=20/\(∀ t k,13<=k->N t k=0)/\(∀ t,0<E t/\Lt2 e (E t))/\(∀ t k,Lt2 y (N t k))/\(∀ k,N Ps.length k=0)/\(∀ k,N 0 k*B=P.getD k 0*E 0) /\
 (∀ t p,Ps[t]? = some p->(1<=t->p.2∣Dv)/\Pc.Pz y e p.1 p.2/\p.1.length<=s/\(t+1=Ps.length->p.1≠[])/\∀(R:Nat->Int) (C:Int),0<C->(∀ k,R k*E (t+1)=N (t+1) k*C)->∀ k,(Cv.cv R (Cv.fn G) k*p.2+p.1.getD k 0*(C*U))*E t=N t k*(C*U*p.2))
theorem CV{P:List Int}{B:Int}{G:List Int}{U:Int}{s n a b0 z e y:Nat}(z1:Pc.Pz a b0 P B)(ln:P.length=n+1)(n2:n<=12)(lt:n<s)(h1:b0<=z)(h2:b0+1<=e)(h3:a<=y):DA P B G U s n z e y [(P,B)]:=by
 have B0:=z1.fm.pos;refine⟨λt k=>if t=0 then P.getD k 0 else 0,λt=>if t=0 then B else 1,B,⟨B0,z1.bot.mono (by omega),gn _⟩,by simp,by show 1<=20;decide,λt k hk=>?_,λt=>?_,λt k=>?_,λk=>rfl,λk=>rfl,λt p hp=>?_⟩
 ·dsimp only;split
  ·exact qG (by omega)
  ·rfl
 ·dsimp only;split
  ·exact⟨B0,z1.bot.mono (by omega)⟩
  ·exact⟨by decide,Lt2.mono (n:=1) (by decide) (by omega)⟩
 ·dsimp only;split
  ·exact (z1.tops k).mono (by omega)
  ·exact uL _
 ·match t,hp with
  | 0,hp =>
   cases hp;refine⟨λh=>absurd h (by decide),z1.mono (by omega) (by omega),by show P.length<=s;omega,λ_ h=>?_,λR C C0 hR k=>?_⟩
   ·have h:P=[]:=h;rw [h] at ln;cases ln
   ·have r0:∀ k,R k=0:=λk=>by
     have:R k*(if (0:Nat)+1=0 then B else 1)=(if (0:Nat)+1=0 then P.getD k 0 else 0)*C:=hR k;rw [if_neg (by decide),if_neg (by decide)] at this;omega
    rw [Cv.uI r0];dsimp only;rw [if_pos rfl,if_pos rfl];grind
def HN(P:List Int)(B:Int)(G:List Int)(U c ov un:Int)(b:List Int)(n s A w y:Nat)(i:Nat)(st:SS):Prop :=
 ∃(o7 o8 o12 o13 o14:SD) (l:List Int) (Ps:List (List Int×Int)) (L Dt:Nat->Nat->Int),st=[.val (pD P B),.val (pD G U),.val (.int n),.val (.int s),.val (.int c),.val (.lst (b.map .int)),.val (.lst (l.map .int)),o7,o8,.val (.int ov),.val (.int un),.own (Ps.map λp=>pD p.1 p.2),o12,o13,o14] /\
  Ps.length=i/\l.length=n+1-s*i/\(∀ k,l.getD k 0=L i k)/\(0<l.length->l.getD (l.length-1) 0≠0)/\(∀ k,L 0 k=P.getD k 0*c^(n-k))/\(∀ t,t<=i->∀ k,Lt2 (A+26*t+w*(n-s*t-k)) (L t k)/\(n<k->L t k=0))/\(∀ t k,t<i->L t k=Dt t k+Cv.cv (L (t+1)) (Cv.fn b) k) /\
  (∀ t p,Ps[t]? = some p->Po.Fm p.1 p.2/\p.1.length<=s/\(∀ k,Lt2 y (Dt t k*(c^k*ov^t)))/\(t=n / s->p.1≠[])/\∀ k,p.1.getD k 0*(B*un^t*c^(n-s*t))=Dt t k*(c^k*ov^t)*p.2)
theorem CW{P:List Int}{B:Int}{G:List Int}{U c ov un:Int}{b:List Int}{n s a b0 bb A w y:Nat}{st:SS}(hu1:un=1)(hA:A<=a+2)(hy:y=yB a w bb)(z1:Pc.Pz a b0 P B)(ln:P.length=n+1)(n2:n<=12)(s1:1<=s)(sn:s<=n)(c0:0<c)(lc:Lt2 bb c)(u0:0<un)(lu:Lt2 1 un)(lo:Lt2 1 ov)(hb:∀ j,j<=s->Cv.fn b j*G.getD s 0=Cv.fn G j*c^(s-j))(lb:b.length=s+1)(lG:G.length=s+1)(hl:G.getD s 0*ov=un*U)
  (h:HN P B G U c ov un b n s A w y (n / s+1) st):∃ o7 o8 o12 o13 o14 x,∃ Ps:List (List Int×Int),st=[.val (pD P B),.val (pD G U),.val (.int n),.val (.int s),.val (.int c),.val (.lst (b.map .int)),x,o7,o8,.val (.int ov),.val (.int un),.own (Ps.map λp=>pD p.1 p.2),o12,o13,o14]/\DA P B G U s n (b0+bb*(n-s)+1) (eB b0 bb) y Ps:=by
 obtain⟨o7,o8,o12,o13,o14,l,Ps,L,Dt,rfl,lP,ll,hL,_,h0,hs,hr,hd⟩:=h;have B0:=z1.fm.pos;have ns:s*(n / s)<=n:=fE n s;have ns2:n<s*(n / s+1):=gD n (by omega);have T12:n / s<=12:=aC (dh _ _) n2;have le:l=[]:=by
  apply e7;rw [ll];omega
 have LT:∀ k,L (n / s+1) k=0:=λk=>by rw [← hL k,le];rfl
 refine⟨o7,o8,o12,o13,o14,_,Ps,rfl,λt k=>if t<=n / s then L t k*(c^k*ov^t) else 0,λt=>if t<=n / s then B*un^t*c^(n-s*t) else 1,B*c^(n-s),⟨az B0 (bB c0),(z1.bot.mul (Hv.rA lc (n-s))).mono (by omega),dN _ _⟩,?_,by omega,λt k hk=>?_,λt=>?_,λt k=>?_,λk=>?_,λk=>?_,λt p hp=>?_⟩
 ·intro z;rw [z] at lP;cases lP
 ·dsimp only;split
  ·rw [(hs t (by omega) k).2 (by omega),aI]
  ·rfl
 ·dsimp only;split
  ·rename_i tl;refine⟨az (az B0 (bB u0)) (bB c0),?_⟩;exact ((z1.bot.mul (sC lu (show t<=12 by omega))).mul (sC lc (show n-s*t<=12 by omega))).mono (by unfold eB;omega)
  ·exact⟨by decide,Lt2.mono (n:=1) (by decide) (by unfold eB;omega)⟩
 ·dsimp only;split
  ·rename_i tl;obtain⟨x1,x2⟩:=hs t (by omega) k;rcases ar n k with z|z
   ·rw [x2 z,aI];exact uL _
   ·have wk:w*(n-s*t-k)<=w*12:=ai _ (by omega);exact (x1.mul ((sC lc (show k<=12 by omega)).mul (sC lo (show t<=12 by omega)))).mono (by rw [hy];unfold yB;omega)
  ·exact uL _
 ·rw [lP];exact if_neg (by omega)
 ·show (if 0<=n / s then L 0 k*(c^k*ov^0) else 0)*B=P.getD k 0*(if 0<=n / s then B*un^0*c^(n-s*0) else 1);rw [if_pos (aB _),if_pos (aB _),h0 k,aU,aU,gb,bx];rcases ar n k with z|z
  ·rw [qG (fs:=P) (by omega)];simp
  ·have e:c^n=c^(n-k)*c^k:=by
    rw [← cy];congr 1;omega
   rw [e];grind
 ·have tl:t<=n / s:=by
   have:=(aj.mp hp).1;omega
  obtain⟨d1,d2,d3,d4,d5⟩:=hd t p hp;have E0:0<B*un^t*c^(n-s*t):=az (az B0 (bB u0)) (bB c0);have El:Lt2 (eB b0 bb) (B*un^t*c^(n-s*t)):=((z1.bot.mul (sC lu (show t<=12 by omega))).mul (sC lc (show n-s*t<=12 by omega))).mono (by unfold eB;omega);have dv:1<=t->p.2∣B*c^(n-s):=λt1=>by
   have h1:p.2∣B*un^t*c^(n-s*t):=Hj d1 d5;rw [hu1,Int.one_pow,bH] at h1;have:s*1<=s*t:=ai s t1;exact dQ h1 (fk (gn _) (Gp _ (by omega)))
  refine⟨dv,Pc.Pz.of d1 E0 d5 d3 El,d2,λe=>d4 (by omega),λR C C0 hR k=>?_⟩;have hR:∀ k,R k*(if t+1<=n / s then B*un^(t+1)*c^(n-s*(t+1)) else 1)=(if t+1<=n / s then L (t+1) k*(c^k*ov^(t+1)) else 0)*C:=hR;show (Cv.cv R (Cv.fn G) k*p.2+p.1.getD k 0*(C*U))*(if t<=n / s then B*un^t*c^(n-s*t) else 1)=(if t<=n / s then L t k*(c^k*ov^t) else 0)*(C*U*p.2);rw [if_pos tl,if_pos tl,hr t k (by omega)];refine Dg.HX ?_ (d5 k);rcases ar t (n / s) with z|z
  ·have st:s*(t+1)<=n:=aC (ai s z) ns;refine Dg.wo (Gs:=G.getD s 0) hb (λj hj=>Cv.qJ (by omega)) (λj hj=>Cv.qJ (by omega)) hl u0 st (λk=>?_) k;have:=hR k;rw [if_pos (by omega),if_pos (by omega)] at this;rw [this,← bI]
  ·have r0:∀ k,R k=0:=λk=>by
    have:=hR k;rw [if_neg (by omega),if_neg (by omega)] at this;omega
   have e:t+1=n / s+1:=by omega
   rw [Cv.uI r0,e,Cv.uI LT];simp
theorem CY{P:List Int}{B:Int}{G:List Int}{U c ov un:Int}{b:List Int}{n s i a bb A w y:Nat}{l K R ts p1:List Int}{p2:Int}{Ps:List (List Int×Int)}{L Dt:Nat->Nat->Int}(o7 o8 o12 o13 o14:SD)(n2:n<=12)(s1:1<=s)(s8:s<=12)(hi:i<=n / s)(hA:A<=a+2)(hy:y=yB a w bb)(c0:0<c)(lc:Lt2 bb c)(o0:ov≠0)(lo:Lt2 1 ov)(E0:0<B*un^i*c^(n-s*i))(lb:b.length=s+1)(b1:b.getD s 0=1)
  (lP:Ps.length=i) (ll:l.length=n+1-s*i) (hL:∀ k,l.getD k 0=L i k) (ht:0<l.length->l.getD (l.length-1) 0≠0) (h0:∀ k,L 0 k=P.getD k 0*c^(n-k)) (hs:∀ t,t<=i->∀ k,Lt2 (A+26*t+w*(n-s*t-k)) (L t k)/\(n<k->L t k=0)) (hr:∀ t k,t<i->L t k=Dt t k+Cv.cv (L (t+1)) (Cv.fn b) k)
  (hd:∀ t p,Ps[t]? = some p->Po.Fm p.1 p.2/\p.1.length<=s/\(∀ k,Lt2 y (Dt t k*(c^k*ov^t)))/\(t=n / s->p.1≠[])/\∀ k,p.1.getD k 0*(B*un^t*c^(n-s*t))=Dt t k*(c^k*ov^t)*p.2)
  (lK:K.length=l.length-s) (lR:R.length=min l.length s) (hK:∀ k,l.getD k 0=R.getD k 0+Cv.cv (Cv.fn K) (Cv.fn b) k) (sK:∀ j,Lt2 (A+26*i+2*(l.length-s)+w*(n-s*i-s-j)) (K.getD j 0)) (sR:∀ j,Lt2 (A+26*i+2*(l.length-s)+w*(n-s*i-j)) (R.getD j 0))
  (lt:ts.length=R.length) (et:∀ k,k<R.length->ts.getD k 0=R.getD k 0*c^k*ov^i) (fm:Po.Fm p1 p2) (hw:∀ k,p1.getD k 0*(B*un^i*c^(n-s*i))=ts.getD k 0*p2) (hle:p1.length<=ts.length) :
  HN P B G U c ov un b n s A w y (i+1) [.val (pD P B),.val (pD G U),.val (.int n),.val (.int s),.val (.int c),.val (.lst (b.map .int)),.val (.lst (K.map .int)),o7,o8,.val (.int ov),.val (.int un),.own ((Ps.map λp=>pD p.1 p.2)++[pD p1 p2]),o12,o13,o14]:=by
 have ns:s*(n / s)<=n:=fE n s;have si:s*i<=n:=aC (ai s hi) ns;have st:s*(i+1)=s*i+s:=bC s i;have i12:i<=12:=aC hi (aC (dh _ _) n2);have tsk:∀ k,ts.getD k 0=R.getD k 0*(c^k*ov^i):=λk=>by
  rcases ar k R.length with z|z
  ·rw [et k z,bI]
  ·rw [qG (by omega),qG z,aI]
 refine⟨o7,o8,o12,o13,o14,K,Ps++[(p1,p2)],λt k=>if t<=i then L t k else K.getD k 0,λt k=>if t<i then Dt t k else R.getD k 0,by rw [a5];rfl,by rw [aq,lP];rfl,by rw [lK,ll,st];omega,λk=>(if_neg (by omega)).symm,λhk=>?_,λk=>?_,λt tl k=>?_,λt k tl=>?_,λt p hp=>?_⟩
 ·have ls:s<l.length:=by omega
  have e:=hK (l.length-1);rw [qG (fs:=R) (by omega),bT] at e;have e2:=Pc.wW (f:=Cv.fn K) (g:=Cv.fn b) (a:=K.length-1) (b:=s) (λj hj=>Cv.qJ (by omega)) (λj hj=>Cv.qJ (by omega));rw [show K.length-1+s=l.length-1 by omega] at e2;rw [e2] at e;have b1':Cv.fn b s=1:=b1;rw [b1',bH] at e;have:=ht (by omega);rw [e] at this;exact this
 ·show (if 0<=i then L 0 k else K.getD k 0)=_;rw [if_pos (aB _)];exact h0 k
 ·dsimp only;split
  ·exact hs t (by assumption) k
  ·rw [show t=i+1 by omega];refine⟨(sK k).mono ?_,λh=>qG (by omega)⟩;rw [show n-s*(i+1)-k=n-s*i-s-k by omega];omega
 ·dsimp only;rcases ar t i with z|z
  ·rw [if_pos (by omega),if_pos z,hr t k z];congr 1;exact Cv.rc (λj=>(if_pos (by omega)).symm) λ_=>rfl
  ·have e:t=i:=by omega
   subst e;rw [if_pos (af _),if_neg (by omega),← hL k,hK k];congr 1;exact Cv.rc (λj=>(if_neg (by omega)).symm) λ_=>rfl
 ·rcases ar t Ps.length with z|z
  ·rw [aR z] at hp;have e:(λk=>if t<i then Dt t k else R.getD k 0)=Dt t:=funext λk=>if_pos (by omega);obtain⟨d1,d2,d3,d4,d5⟩:=hd t p hp;refine⟨d1,d2,λk=>?_,d4,λk=>?_⟩
   ·dsimp only;rw [if_pos (by omega)];exact d3 k
   ·dsimp only;rw [if_pos (by omega)];exact d5 k
  ·have e:t=i:=by
    have:=(aj.mp hp).1;rw [aq] at this;simp at this;omega
   subst e;rw [av z,lP,bc] at hp;cases hp;refine⟨fm,by show p1.length<=s;omega,λk=>?_,λhn hp=>?_,λk=>?_⟩
   ·dsimp only;rw [if_neg (by omega)];rcases ar k R.length with y|y
    ·have wk:w*(n-s*t-k)<=w*12:=ai _ (by omega);exact ((sR k).mul ((sC lc (show k<=12 by omega)).mul (sC lo (show t<=12 by omega)))).mono (by rw [hy];unfold yB;omega)
    ·rw [qG y,aI];exact uL _
   ·have hp:p1=[]:=hp;subst hp;have l1:0<l.length:=by omega
    have ls:l.length<=s:=by
     have:=gD n (show 0<s by omega);rw [← hn] at this;omega
    have e:=hK (l.length-1);have kn:K=[]:=e7 (by omega);have k0:∀ j,Cv.fn K j=0:=λj=>by rw [kn];rfl
    rw [Cv.uI k0,bQ] at e;have w:=hw (l.length-1);rw [tsk,← e] at w;have w:(0:Int)*(B*un^t*c^(n-s*t))=_:=w;rw [aI] at w;exact br (br (ht l1) (br (bP (ax c0)) (bP o0))) (ax fm.pos) w.symm
   ·dsimp only;rw [if_neg (by omega),← tsk];exact hw k
theorem A2{P:List Int}{B:Int}{G:List Int}{U c ov un:Int}{bs:List Int}{n s i a b0 bb A w y:Nat}{st:SS}{E:EndsD}(hA:A<=a+2)(hyB:y=yB a w bb)(cap:a+b0+(w+bb)*15<=8000000)(cap2:(bb+1)*14<=390000)(n2:n<=12)(s1:1<=s)(s8:s<=12)(hi:i<=n / s)(B0:0<B)(lB:Lt2 b0 B)(c0:0<c)(lc:Lt2 bb c)(o0:ov≠0)(lo:Lt2 1 ov)(u0:0<un)(lu:Lt2 1 un)(lb:bs.length=s+1)(b1:bs.getD s 0=1)(hZ:∀ j,j<=s->Lt2 (w*(s-j)+1) (bs.getD j 0))
  (hE:∀ st,HN P B G U c ov un bs n s A w y (i+1) st->E.nx st) (h:HN P B G U c ov un bs n s A w y i st):((dSq (gV [] (gTp [6,12]) (gS jM (gP (gQ 6) (gP (gQ 5) gR))))
 (dSq (gV [] (gNm 13) (iz (iN (gQ 12)) [8,14] (gTp [14,8]) iQ (gU .Mult (gU .Mult (gQ 8) (gS gZ (gP (gQ 4) (gP (gQ 14) gR)))) (gS gZ (gP (gQ 9) (gP (gQ 7) gR))))))
 (kh [] 11 (gS iI (gP (gQ 13) (gP (gU .Mult (gU .Mult (dIx (gQ 0) (dC (.int 1))) (gS gZ (gP (gQ 10) (gP (gQ 7) gR)))) (gS gZ (gP (gQ 4) (gP (gU .Sub (gQ 2) (gU .Mult (gQ 3) (gQ 7))) gR)))) gR)))))):TSd).run E (st.set 7 (.val (.int (0+(i:Int))))):=by
 obtain⟨o7,o8,o12,o13,o14,l,Ps,L,Dt,rfl,lP,ll,hL,ht,h0,hs,hr,hd⟩:=h;have ns:s*(n / s)<=n:=fE n s;have si:s*i<=n:=aC (ai s hi) ns;have i12:i<=12:=aC hi (aC (dh _ _) n2);have e0:(0:Int)+(i:Int)=(i:Int):=by omega
 rw [e0];have wN:w*(n-s*i)<=w*12:=ai _ (by omega);refine⟨rfl,(l,bs,s,n-s*i,A+26*i,w),⟨rfl,lb,b1,s1,by show s<=100;omega,by show l.length<=n-s*i+1;omega,by show n-s*i<=100;omega,λk=>by rw [hL k];exact (hs i (af _) k).1,hZ,by show A+26*i+w*(n-s*i)<=40000000;omega⟩,?_⟩;rintro _ ⟨K,R,rfl,lK,lR,hK,sK,sR⟩;have lR8:R.length<=12:=by have lR:R.length=min l.length s:=lR;omega
 refine⟨rfl,(congrArg (· <= sizeLine) (tw R)).mpr (sE (by omega)),nI (λk=>R.getD k 0*c^k*ov^i),nI.nil,λk d ys hd' _ hy=>?_,λys _ hy=>?_⟩
 ·obtain⟨hk,rfl⟩:=rP hd';have lr:=sR k;have wk:w*(n-s*i-k)<=w*12:=ai _ (by omega);have bk:(bb+1)*(k+1)<=(bb+1)*14:=ai _ (by omega);have lk:=sC lc (show k<=12 by omega);have li:=sC lo (show i<=12 by omega);refine⟨rfl,rfl,(c,k,bb),⟨rfl,lc,by show k<=200;omega,by show (bb+1)*(k+1)<=4000000;omega⟩,?_⟩;rintro _ rfl;refine⟨⟨_,_,lr,lk,by omega⟩,rfl,(ov,i,1),⟨rfl,lo,by show i<=200;omega,by show (1+1)*(i+1)<=4000000;omega⟩,?_⟩;rintro _ rfl;exact⟨⟨_,_,lr.mul lk,li,by omega⟩,hy.snoc rfl⟩
 have hy:nI _ (sj (R.map D.int)).length ys:=hy;rw [tw] at hy;obtain⟨ts,rfl,lt,et⟩:=hy;have ui:=sC lu (show i<=12 by omega);have ci:=sC lc (show n-s*i<=12 by omega);have E0:0<B*un^i*c^(n-s*i):=az (az B0 (bB u0)) (bB c0);refine⟨rfl,(un,i,1),⟨rfl,lu,by show i<=200;omega,by show (1+1)*(i+1)<=4000000;omega⟩,?_⟩;rintro _ rfl;have ls:Lt2 7 ((s:Nat):Int):=by unfold Lt2;omega
 have li:Lt2 7 ((i:Nat):Int):=by unfold Lt2;omega
 have es:(n:Int)-(s:Int)*(i:Int)=((n-s*i:Nat):Int):=by
  have:(s:Int)*(i:Int)=((s*i:Nat):Int):=by push_cast;rfl
  omega
 refine⟨⟨_,_,lB,ui,by omega⟩,⟨_,_,ls,li,by decide⟩,rfl,(c,n-s*i,bb),⟨congrArg (λz=>[D.int c,.int z]) es,lc,by show n-s*i<=200;omega,by show (bb+1)*(n-s*i+1)<=4000000;exact aC (ai _ (by omega)) (aC cap2 (by decide))⟩,?_⟩;rintro _ rfl;refine⟨⟨_,_,lB.mul ui,ci,by omega⟩,rfl,(ts,B*un^i*c^(n-s*i)),⟨rfl,E0,((lB.mul ui).mul ci).mono (by omega),by show ts.length<=1000;omega⟩,?_⟩;rintro _ ⟨p1,p2,rfl,fm,hw,hle⟩;refine⟨by rw [aa,lP,sizeLine_eq];omega,hE _ ?_⟩;exact CY _ _ _ _ _ n2 s1 s8 hi hA hyB c0 lc o0 lo E0 lb b1 lP ll hL ht h0 hs hr hd lK lR hK sK sR lt et fm hw hle
end Dp
namespace Dp
open PySem L2
theorem EL{P G:List Int}{B U:Int}{s n z0 e0 y0:Nat}{Ps:List (List Int×Int)}(B0:0<B)(U0:0<U)(lP:P.length<=13)(h:DA P B G U s n z0 e0 y0 Ps)(x:Rat):Qp.E P B x=Ap.Ed (Qp.E G U x) x Ps:=by
 obtain⟨N,E,Dv,_,ne,l20,hN,hE,sN,hT,h0,hp⟩:=h;have step:∀ t p,Ps[t]? = some p->Qp.ei (N t) x 13 / (E t:Rat)=Qp.E p.1 p.2 x+Qp.E G U x*(Qp.ei (N (t+1)) x 13 / (E (t+1):Rat)):=λt p ht=>by
  obtain⟨_,z,_,_,hr⟩:=hp t p ht;exact CU (hN t) (hN (t+1)) (hE t).1 (hE (t+1)).1 U0 z.fm.pos (hr (N (t+1)) (E (t+1)) (hE (t+1)).1 λ_=>rfl) x
 have go:∀ j t,t+j=Ps.length->Qp.ei (N t) x 13 / (E t:Rat)=Ap.Ed (Qp.E G U x) x (Ps.drop t):=by
  intro j;induction j with
  | zero =>
   intro t ht;rw [show t=Ps.length by omega,Aa hT,List.drop_length];show (0:Rat) / _=0;grind
  | succ j ih =>
   intro t ht;have lt:t<Ps.length:=by omega
   rw [step t _ (ao lt),ih (t+1) (by omega),cK lt];rfl
 have z:=go Ps.length 0 (by omega);rw [dA] at z;rw [← z,Qp.xZ lP];have l:=Qp.wT (F:=N 0) (G:=Cv.fn P) (x:=x) h0 13;have n1:=Qp.qF B0;have n2:=Qp.qF (hE 0).1;grind
def gW(a Z n:Nat):Nat:=a+(Z+8)*n+24
def bU(Z k s:Nat):Nat:=if k=1 then Z else (Z+8)*(s-1)+1
def zB(b0 Z k s:Nat):Nat:=b0+bU Z k s*(k*s-s)+1
def tB(a b0 Z k s:Nat):Nat:=yB a (gW a Z (k*s)+bU Z k s) (bU Z k s)+zB b0 Z k s
theorem Dh{P G:List Int}{U:Int}{k s Z:Nat}(lP:P.length=k*s+1)(k1:1<=k)(s1:1<=s)(ks:k*s<=12)(hL:P.getD (k*s) 0≠0)(lZ:Lt2 Z (P.getD (k*s) 0))(c:Cn P k s G U)(hU:U.natAbs<=((P.getD (k*s) 0).natAbs*k*k)^(s-1)):Lt2 (bU Z k s) U:=by
 obtain⟨fG,lG,cG⟩:=c;unfold bU;split
 ·rename_i e;subst e;rw [gv] at lP hL lZ;exact lZ.le (Df lG lP fG cG hL)
 ·have k12:k<=12:=aC (bM _ s1) ks;have kk:k*k<=12*12:=aX k12 k12;have lc:Lt2 (Z+8) ((((P.getD (k*s) 0).natAbs*k*k:Nat)):Int):=by
   unfold Lt2;rw [a8,dO,dG];have lZ:(P.getD (k*s) 0).natAbs<2^Z:=lZ;exact bE (ai _ (show k*k<=2^8 by omega)) (dr lZ (by decide))
  have:=Hv.rA lc (s-1);unfold Lt2 at this ⊢;rw [fI,a8] at this;exact bE hU this
def y8(P:List Int)(B:Int)(k s:Nat)(G:List Int)(U:Int)(Ps:List (List Int×Int)):Prop:=Cn P k s G U/\Ps≠[]/\Ps.length<=20/\(∀ p∈Ps,Po.Fm p.1 p.2/\p.1.length<=s)/\∀ x,Qp.E P B x=Ap.Ed (Qp.E G U x) x Ps
def HE(P:List Int)(B:Int)(k s a b0 Z:Nat)(d:D):Prop:=∃ G U Ps,y8 P B k s G U Ps/\Wt (gW a Z (k*s)) G U s/\Lt2 (bU Z k s) U/\((∃(i:Nat) (p:List Int×Int),d = .tup [.str "barred",pD G U,.int (i:Int)]/\Ps[i]? = some p/\2<=p.1.length/\∀ j q,j<i->Ps[j]? = some q->q.1.length<=1) \/
 (∃ R C,d = .tup [.str "made",pD R C,pD G U]/\Pc.Pz (tB a b0 Z k s) (zB b0 Z k s) R C/\(∀ q∈Ps,q.1.length<=1)/\R.length<=20/\∀ x y,Qp.E R C y=Ap.Ed y x Ps))
end Dp
namespace Dp
open PySem L2
theorem xg{P:List Int}{B:Int}{k s:Nat}{G:List Int}{U:Int}{Ps:List (List Int×Int)}{i:Nat}{p:List Int×Int}(k1:1<=k)(s1:1<=s)(hP:P.getD (k*s) 0≠0)(a:y8 P B k s G U Ps)(hi:Ps[i]? = some p)(h2:2<=p.1.length):¬ Lh P B k s:=by
 rintro⟨G',U',R,C,fG',lG',cG',fR,e⟩;obtain⟨⟨fG,lG,cG⟩,_,_,hz,ed⟩:=a;obtain⟨rfl,rfl⟩:=Ca.Cand.uniq k1 hP fG fG' lG lG' cG cG';obtain⟨Cs,lC,hC,eC⟩:=wY R.length (Qp.q R C);have u:=Ap.Ed.uniq2 fG lG (ps:=Ps) (qs:=Cs) (λq hq=>hz q hq) (λq hq=>⟨(hC q hq).1,aC (hC q hq).2 s1⟩) (λx=>by rw [← ed,e,eC,Bd (af _)]) i;rw [rf hi] at u;have:(Cs.getD i ([],1)).1.length<=1:=mem_getD (p:=λq:List Int×Int=>q.1.length<=1) (λq hq=>(hC q hq).2) (aB _);rw [← u] at this;omega
end Dp
namespace Dp
open PySem L2 Ch
def jN:SpB:=.of 3 (α:=List Int×Nat×Nat×Nat×(Nat->Int)) (λ(fs,k,s,A,g) ds=>ds=[.lst (fs.map .int),.int k,.int s]/\1<=k/\k<=100/\1<=s/\s<=12/\s<=fs.length/\A<=750000/\(∀ i,Lt2 A (fs.getD i 0))/\fs.getD 0 0=1/\g 0=1/\(∀ j,j<=s-1->Ca.pw g k j=fs.getD j 0))
 (λ(fs,k,s,A,g) d=>∃ rs:List Int,d = .lst (rs.map .int)/\rs.length=s/\(∀ j,j<s->rs.getD j 0=g j)/\(∀ j,j<s->Lt2 ((A+22)*j+1) (g j)))
def ma:TSd:=(hJ [3] (gQ 3))
def md:TSd:=dSq (iA [] (ke (dC (.int 1)) (gQ 2)) (gNm 4)
 (dSq (gV [] (gNm 5) (iz (ke (dC (.int 1)) (gU .Add (gQ 4) (dC (.int 1)))) [6] (gNm 6) iQ (gU .Mult (gU .Mult (gU .Sub (gU .Mult (gQ 6) (gU .Add (gQ 1) (dC (.int 1)))) (gU .Mult (gQ 4) (gQ 1))) (dIx (gQ 0) (gQ 6))) (jB 3 (gU .Sub (gQ 4) (gQ 6))))))
 (kh [] 3 (gU .FloorDiv (dB bSum bSum.mono (gP (gQ 5) gR)) (gU .Mult (gQ 4) (gQ 1))))))
 ma
def m8:TSd:=dSq (jC [] 3 (ir (gP (dC (.int 1)) gR)))
 md
theorem kR:Does 7 m8 jN:=by
 rintro ds Q hn ⟨⟨fs,k,n,M,g⟩,⟨rfl,k1,k2,n1,n2,ln,M9,hM,f0,g0,hg⟩,q⟩;dsimp only at k1 k2 n1 n2 ln M9 hM f0 g0 hg q;have hst:∀ j,j<=n-1->_:=λj hj=>Ca.step (a:=λi=>fs.getD i 0) g0 f0 hg hj;have hlt:=Ca.DP (A:=M) k1 k2 (show n-1<=100 by omega) g0 hM hst;have en:((n:Int)-1).toNat=n-1:=by omega
 refine⟨Ar,⟨by omega,by omega,by omega,by omega⟩,λi s=>∃(o4 o5 o6:SD) (rs:List Int),s=[.val (.lst (fs.map .int)),.val (.int k),.val (.int n),.own (rs.map .int),o4,o5,o6]/\rs.length=i+1/\∀ j,j<i+1->rs.getD j 0=g j,⟨.no,.no,.no,[1],rfl,rfl,λj hj=>?_⟩,?_,?_⟩
 ·rw [show j=0 by omega,g0];rfl
 ·rintro i d _ hd ⟨o4,o5,o6,rs,rfl,lr,hrs⟩;obtain⟨hi,rfl⟩:=rg hd;have hi':i+1<=n-1:=by omega
  have e1:(1:Int)+(i:Int)=((i+1:Nat):Int):=by omega
  rw [e1];have c2:(i+1)*k<=100*100:=aX (by omega) (by omega);have lk:Lt2 7 ((k:Nat):Int):=by unfold Lt2;omega
  have lk1:Lt2 7 ((k:Int)+1):=by unfold Lt2;omega
  have lj:Lt2 7 ((i+1:Nat):Int):=by unfold Lt2;omega
  have lu:(sA 1 (((i+1:Nat):Int)+1-1).toNat).length=i+1:=by rw [qQ];omega
  refine⟨⟨by omega,by omega,by omega,by omega⟩,(congrArg (· <= sizeLine) lu).mpr (sE (by omega)),nI (λj=>(((j+1:Nat):Int)*(k+1)-((i+1:Nat):Int)*k)*fs.getD (j+1) 0*g (i+1-(j+1))),nI.nil,λm d ys hd _ hy=>?_,λys _ hy=>?_⟩
  ·obtain⟨hm,rfl⟩:=rg hd;have hm:m<i+1:=by omega
   have e2:(1:Int)+(m:Int)=((m+1:Nat):Int):=by omega
   rw [e2];have lm:Lt2 7 ((m+1:Nat):Int):=by unfold Lt2;omega
   have l1:Lt2 15 (((m+1:Nat):Int)*(k+1)-((i+1:Nat):Int)*k):=(lm.mul lk1).sub (lj.mul lk);have l3:=hlt (i+1-(m+1)) (by omega);have m3:(M+22)*(i+1-(m+1))<=750022*12:=aX (by omega) (by omega);have ej:((i+1:Nat):Int)-((m+1:Nat):Int)=((i+1-(m+1):Nat):Int):=by omega
   refine⟨⟨_,_,lm,lk1,by decide⟩,⟨_,_,lj,lk,by decide⟩,rl (rB (by omega)) ⟨⟨_,_,l1,hM (m+1),by omega⟩,rT (d:=.int (g (i+1-(m+1)))) ?_ ⟨⟨_,_,l1.mul (hM (m+1)),l3,by omega⟩,hy.snoc rfl⟩⟩⟩;rw [ej,← hrs (i+1-(m+1)) (by omega)];exact sq (rB (by omega))
  ·have hy:nI _ (sA 1 (((i+1:Nat):Int)+1-1).toNat).length ys:=hy;rw [lu] at hy;obtain⟨us,rfl,lu,hus⟩:=hy;have es:us.sum=((i+1:Nat):Int)*k*g (i+1):=by
    rw [Ca.FX,lu,← hst (i+1) hi'];exact Cv.qT λj hj=>hus j hj
   have jk:((i+1:Nat):Int)*k≠0:=by
    have:0<(i+1)*k:=gw (by omega) k1;have e:((i+1:Nat):Int)*k=(((i+1)*k:Nat):Int):=by push_cast;rfl
    rw [e];omega
   refine⟨us,rfl,⟨_,_,lj,lk,by decide⟩,⟨jk,_,lj.mul lk,by decide⟩,(by rw [aa,sizeLine_eq];omega),?_⟩;refine⟨_,_,_,rs++[_],congrArg (λl=>[SD.val (.lst (fs.map .int)),.val (.int k),.val (.int n),.own l,_,_,_]) (vZ _ _),by rw [aq,lr];rfl,λj hj=>?_⟩;rw [ww,lr];by_cases e:j=i+1
   ·rw [if_pos e,e,es,bh,dm _ jk]
   ·rw [if_neg e];exact hrs j (by omega)
 ·rintro _ ⟨o4,o5,o6,rs,rfl,lr,hrs⟩;rw [qQ,en] at lr hrs;exact q _ ⟨rs,rfl,by omega,λj hj=>hrs j (by omega),λj hj=>hlt j (by omega)⟩
def jO:SpB:=.of 2 (α:=List Int×Int×Nat×Nat×Nat×Nat) (λ(P,B,k,s,M,Z) ds=>ds=[pD P B,.int s]/\P.length=k*s+1/\1<=k/\1<=s/\k*s<=12/\(∀ i,Lt2 M (P.getD i 0))/\Lt2 Z (P.getD (k*s) 0)/\M+(Z+8)*(k*s)<=700000/\Z<=30000/\P.getD (k*s) 0≠0)
 (λ(P,B,k,s,M,Z) d=>∃ R C,d=pD R C/\Cn P k s R C/\Wt (M+(Z+8)*(k*s)+24) R C s/\C.natAbs<=((P.getD (k*s) 0).natAbs*k*k)^(s-1))
def me:TSd:=(hJ [] (gS iI (gP (gU .Add (ir (gP (dC (.int 0)) gR)) (gQ 7)) (gP (gS gZ (gP (gQ 4) (gP (gU .Sub (gQ 1) (dC (.int 1))) gR))) gR))))
def mf:TSd:=dSq (gV [] (gNm 7) (iz (ke (dC (.int 1)) (gU .Add (gQ 1) (dC (.int 1)))) [8] (gNm 8) iQ (gU .Mult (dIx (gQ 6) (gU .Sub (gQ 1) (gQ 8))) (gS gZ (gP (gQ 4) (gP (gU .Sub (gQ 8) (dC (.int 1))) gR))))))
 me
def iS:TSd:=dSq (gV [] (gNm 6) (gS jN (gP (gQ 5) (gP (gQ 3) (gP (gQ 1) gR)))))
 mf
def iT:TSd:=dSq (gV [] (gNm 5) (oC (gS jF (gP (dIx (gQ 0) (dC (.int 0))) (gP (gQ 4) gR)))))
 iS
def iU:TSd:=dSq (gV [] (gNm 4) (gU .Mult (gU .Mult (dB bAbs bAbs.mono (gP (dIx (dIx (gQ 0) (dC (.int 0))) (gQ 2)) gR)) (gQ 3)) (gQ 3)))
 iT
def iV:TSd:=dSq (gV [] (gNm 3) (gU .FloorDiv (gQ 2) (gQ 1)))
 iU
def m9:TSd:=dSq (gV [] (gNm 2) (gS iE (gP (gQ 0) gR)))
 iV
theorem kS:Does 9 m9 jO:=by
 rintro ds Q hn ⟨⟨ts,b,k,m,M,Z⟩,⟨rfl,ln,k1,m1,km,hM,hZ,hz,Z3,hL⟩,q⟩;dsimp only at ln k1 m1 km hM hZ hz Z3 hL q;have km1:k<=k*m:=bM _ m1;have km2:m<=k*m:=bo _ k1;refine⟨rfl,(ts,b),rfl,?_⟩;rintro _ rfl;have ek:((k*m:Nat):Int).fdiv (m:Int)=(k:Int):=by
  rw [show ((k*m:Nat):Int)=(k:Int)*m by push_cast;rfl];exact dm _ (by omega)
 have lk:Lt2 4 ((k:Nat):Int):=by unfold Lt2;omega
 have lm:Lt2 7 ((m:Nat):Int):=by unfold Lt2;omega
 have ll:Lt2 Z (((ts.getD (k*m) 0).natAbs:Nat):Int):=hZ.le (by rw [a8];exact af _);suffices h1:iV.run (qX Q) [.val (pD ts b),.val (.int m),.val (.int ((k*m:Nat):Int)),.no,.no,.no,.no,.no,.no] by
  show iV.run (qX Q) [.val (pD ts b),.val (.int m),.val (.int ((ts.length:Int)-1)),.no,.no,.no,.no,.no,.no];rw [ln,show ((k*m+1:Nat):Int)-1=((k*m:Nat):Int) by omega];exact h1
 refine⟨⟨by omega,7,lm,by decide⟩,?_⟩;suffices h2:iU.run (qX Q) [.val (pD ts b),.val (.int m),.val (.int ((k*m:Nat):Int)),.val (.int k),.no,.no,.no,.no,.no] by
  show iU.run (qX Q) [.val (pD ts b),.val (.int m),.val (.int ((k*m:Nat):Int)),.val (.int (((k*m:Nat):Int).fdiv (m:Int))),.no,.no,.no,.no,.no];rw [ek];exact h2
 obtain⟨c,hc⟩:∃ c:Int,c=(((ts.getD (k*m) 0).natAbs:Nat):Int)*k*k:=⟨_,rfl⟩;have lc:Lt2 (Z+8) c:=by rw [hc];exact ((ll.mul lk).mul lk).mono (by omega)
 have m100:(Z+8+1)*(k*m+1)<=(Z+9)*13:=ai _ (by omega);suffices h3:iT.run (qX Q) [.val (pD ts b),.val (.int m),.val (.int ((k*m:Nat):Int)),.val (.int k),.val (.int c),.no,.no,.no,.no] by
  refine rl (rB (by omega)) ⟨(congrArg (CMulB · _) (sP _)).mpr ⟨_,_,ll,lk,by omega⟩,(congrArg (λz=>CMulB (z*_) _) (sP _)).mpr ⟨_,_,ll.mul lk,lk,by omega⟩,?_⟩;show iT.run (qX Q) [.val (pD ts b),.val (.int m),.val (.int ((k*m:Nat):Int)),.val (.int k),.val (.int ((if ts.getD (k*m) 0<0 then -(ts.getD (k*m) 0) else ts.getD (k*m) 0)*k*k)),.no,.no,.no,.no];rw [sP,← hc];exact h3
 refine⟨rfl,(ts,c,k*m,M,Z+8,Z),⟨rfl,ln,by show k*m<=100;omega,hM,lc,by show M<=9000000;omega,hZ,by show Z<=9000000;omega,by show (Z+8+1)*(k*m+1)<=4000000;omega,hL⟩,?_⟩;rintro _ ⟨rs,rfl,lrs,hrs⟩;suffices h4:iS.run (qX Q) [.val (pD ts b),.val (.int m),.val (.int ((k*m:Nat):Int)),.val (.int k),.val (.int c),.val (.lst (rs.reverse.map .int)),.no,.no,.no] by
  show iS.run (qX Q) [.val (pD ts b),.val (.int m),.val (.int ((k*m:Nat):Int)),.val (.int k),.val (.int c),.val (.lst (rs.map D.int).reverse),.no,.no,.no];rw [← dR];exact h4
 have fa:=Ca.Jj (P:=λi=>ts.getD i 0) (n:=k*m) (k:=k) (c:=c) rfl hL hc;have ea:∀ j,j<=k*m->rs.reverse.getD j 0=(ts.getD (k*m-j) 0*c^j).fdiv (ts.getD (k*m) 0):=λj hj=>by
  rw [BE lrs hj,hrs _ (by omega),show k*m-(k*m-j)=j by omega]
 have lr:rs.reverse.length=k*m+1:=by rw [aN,lrs]
 have a0:rs.reverse.getD 0 0=1:=by rw [ea 0 (aB _)];exact (fa 0 (aB _)).2.1 rfl
 have ad:∀ i,(k*k:Int)∣rs.reverse.getD (i+1) 0:=λi=>by
  rcases ar (k*m) (i+1) with z|z
  ·rw [qG (by omega)];exact Int.dvd_zero _
  ·rw [ea _ z];exact (fa _ z).2.2 (f7 _)
 have al:∀ i,Lt2 (M+(Z+8)*(k*m)+1) (rs.reverse.getD i 0):=λi=>by
  rcases ar (k*m) i with z|z
  ·rw [qG (by omega)];exact uL _
  ·rw [ea _ z];refine EG hL (fa _ z).1 (((hM _).mul (Hv.rA lc i)).mono ?_);have:(Z+8)*i<=(Z+8)*(k*m):=ai _ z;omega
 obtain⟨g,g0,gd,ge⟩:=Ca.Im k1 (a:=λi=>rs.reverse.getD i 0) a0 ad (m-1);refine⟨rfl,(rs.reverse,k,m,M+(Z+8)*(k*m)+1,g),⟨rfl,k1,by show k<=100;omega,m1,by show m<=12;omega,by omega,by show M+(Z+8)*(k*m)+1<=750000;omega,al,a0,g0,ge⟩,?_⟩;rintro _ ⟨us,rfl,lu,hus,hul⟩;generalize hA:M+(Z+8)*(k*m)+1=A at *;have c0:0<c:=by
  rw [hc];have x1:0<(ts.getD (k*m) 0).natAbs:=by omega
  exact az (az (by omega) (by omega)) (by omega)
 have zc:(Z+8+1)*(m+1)<=(Z+9)*13:=ai _ (by omega);have lq:(sA 1 ((m:Int)+1-1).toNat).length=m:=by rw [qQ];omega
 refine⟨⟨by omega,by omega,by omega,by omega⟩,(congrArg (· <= sizeLine) lq).mpr (sE (by omega)),nI (λj=>g (m-(j+1))*c^j),nI.nil,λi d ys hd _ hy=>?_,λys _ hy=>?_⟩
 ·obtain⟨hi,rfl⟩:=rg hd;have hi:i<m:=by omega
  have e1:(1:Int)+(i:Int)=((i+1:Nat):Int):=by omega
  rw [e1];have em:(m:Int)-((i+1:Nat):Int)=((m-(i+1):Nat):Int):=by omega
  have zi:(Z+8)*i<=(Z+8+1)*(m+1):=aX (by omega) (by omega);have zg:(A+22)*(m-(i+1))<=(A+22)*100:=ai _ (by omega);refine rT (d:=.int (g (m-(i+1)))) ?_ ⟨rfl,(c,i,Z+8),⟨?_,lc,by show i<=200;omega,?_⟩,?_⟩
  ·rw [em,← hus (m-(i+1)) (by omega)];exact sq (rB (by omega))
  ·show [D.int c,.int (((i+1:Nat):Int)-1)]=[D.int c,.int (i:Int)];rw [show ((i+1:Nat):Int)-1=(i:Int) by omega]
  ·exact aC (ai _ (show i+1<=m+1 by omega)) (by omega)
  ·rintro _ rfl;exact⟨⟨_,_,hul (m-(i+1)) (by omega),Hv.rA lc i,by omega⟩,hy.snoc rfl⟩
 have hy:nI _ (sA 1 ((m:Int)+1-1).toNat).length ys:=hy;rw [lq] at hy;obtain⟨ws,rfl,lw,hws⟩:=hy;have z2:(Z+8)*(m-1)<=(Z+8)*12:=ai _ (by omega);have lcm:Lt2 9000000 (c^(m-1)):=(Hv.rA lc (m-1)).mono (by omega);have pc:0<c^(m-1):=bB c0;refine⟨Ar,(congrArg (λn=>1+n<=sizeLine) (aa _)).mpr (sE (by omega)),rfl,(c,m-1,Z+8),⟨?_,lc,by show m-1<=200;omega,?_⟩,?_⟩
 ·show [D.int c,.int ((m:Int)-1)]=[D.int c,.int ((m-1:Nat):Int)];rw [show (m:Int)-1=((m-1:Nat):Int) by omega]
 ·exact aC (ai _ (show m-1+1<=m+1 by omega)) (by omega)
 rintro _ rfl;refine⟨rfl,(0::ws,c^(m-1)),⟨rfl,pc,lcm,by rw [a7];omega⟩,?_⟩;rintro _ ⟨R,C,rfl,fm,hw,hle⟩;have hw':∀ j,j<m->R.getD (j+1) 0*c^(m-1)=g (m-(j+1))*c^j*C:=λj hj=>by
  have:=hw (j+1);rw [bN,hws j hj] at this;exact this
 have r1:=Ca.Kd (R:=λi=>R.getD i 0) (g:=g) c0 hw';have r0:R.getD 0 0=0:=by
  have:=hw 0;rw [List.getD_cons_zero,aI] at this;exact (bZ.mp this).resolve_right (by omega)
 have rm:R.getD m 0=C:=by
  have:=r1 0 m1;rw [aU,bH,g0,bV] at this;exact this
 have lR:R.length=m+1:=by
  have l1:R.length<=m+1:=by rw [a7,lw] at hle;exact hle
  rcases ar m R.length with x|x
  ·omega
  ·rw [qG x] at rm;have:=fm.pos;omega
 refine q _ ⟨R,C,rfl,⟨fm,lR,c,g,c0,g0,λj hj=>?_,r1,r0⟩,λj hj=>?_,?_⟩
 ·have:=(fa j (by omega)).1;rw [ge j (by omega),ea j (by omega)];exact this.symm
 ·rcases ar j m with x|x
  ·have e:=congrArg Int.natAbs (r1 j x);rw [aO,aO,fI] at e;have e:(R.getD (m-j) 0).natAbs*c.natAbs^j=(g j).natAbs*C.natAbs:=e;have cj:1<=c.natAbs^j:=bG (by omega);have gj:(g j).natAbs<=2^((M+(Z+8)*(k*m)+24)*j):=by
    rcases cR j with y|y
    ·rw [y,g0];exact af 1
    ·have h:=hul j x;refine aC (eX h) (b9 (by decide) ?_);have:(A+22)*j+j=(A+23)*j:=(a9 (A+22) j ▸ rfl);rw [show M+(Z+8)*(k*m)+24=A+23 by omega];omega
   calc (R.getD (m-j) 0).natAbs<=(R.getD (m-j) 0).natAbs*c.natAbs^j:=bM _ cj
    _=C.natAbs*(g j).natAbs:=by rw [e,aT]
    _<=_:=ai _ gj
  ·rw [show m-j=0 by omega,r0];exact aB _
 ·have e:=(Po.size fm pc hw).1;rw [fI,hc,aO,aO,a8,a8] at e;exact e
end Dp
namespace Dp
open PySem L2 Ch
def kZ:SpB:=.of 2 (α:=List Int×Int×List Int×Int×Nat×Nat×Nat×Nat×Nat×Nat) (λ(P,B,G,U,n,s,a,b0,b,y) ds=>ds=[pD P B,pD G U]/\Pc.Pz a b0 P B/\P.length=n+1/\1<=n/\n<=12/\Po.Fm G U/\Lt2 b U/\Wt y G U s/\G.length=s+1/\1<=s/\s<=12/\G.getD s 0=U/\a+b0+(y+b+b)*15<=8000000/\(b+1)*14<=390000/\b+y*12<=9000000)
 (λ(P,B,G,U,n,s,a,b0,b,y) d=>∃ Ps:List (List Int×Int),d = .tup (Ps.map λp=>pD p.1 p.2)/\DA P B G U s n (b0+b*(n-s)+1) (eB b0 b) (yB a (y+b) b) Ps)
def n5:TSd:=(hJ [11] (dB bTuple bTuple.mono (gP (gQ 11) gR)))
def n8:TSd:=dSq (iA [] (je (gU .Add (gU .FloorDiv (gQ 2) (gQ 3)) (dC (.int 1)))) (gNm 7)
 (dSq (gV [] (gTp [6,12]) (gS jM (gP (gQ 6) (gP (gQ 5) gR))))
 (dSq (gV [] (gNm 13) (iz (iN (gQ 12)) [8,14] (gTp [14,8]) iQ (gU .Mult (gU .Mult (gQ 8) (gS gZ (gP (gQ 4) (gP (gQ 14) gR)))) (gS gZ (gP (gQ 9) (gP (gQ 7) gR))))))
 (kh [] 11 (gS iI (gP (gQ 13) (gP (gU .Mult (gU .Mult (dIx (gQ 0) (dC (.int 1))) (gS gZ (gP (gQ 10) (gP (gQ 7) gR)))) (gS gZ (gP (gQ 4) (gP (gU .Sub (gQ 2) (gU .Mult (gQ 3) (gQ 7))) gR)))) gR)))))))
 n5
def n9:TSd:=dSq (jC [] 11 (ir gR))
 n8
def oa:TSd:=dSq (gV [] (gTp [9,10]) (gS my (gP (g7 (gP (dC (.int 1)) (gP (dC (.int 1)) gR))) (gP (gS oX (gP (gQ 1) gR)) gR))))
 n9
def oe:TSd:=dSq (gV [] (gNm 6) (iz (iN (dIx (gQ 0) (dC (.int 0)))) [7,8] (gTp [7,8]) iQ (gU .Mult (gQ 8) (gS gZ (gP (gQ 4) (gP (gU .Sub (gQ 2) (gQ 7)) gR))))))
 oa
def og:TSd:=dSq (gV [] (gNm 5) (gS jF (gP (dIx (gQ 1) (dC (.int 0))) (gP (gQ 4) gR))))
 oe
def kK:TSd:=dSq (gV [] (gNm 4) (gS jn (gP (dIx (gQ 1) (dC (.int 0))) gR)))
 og
def jt:TSd:=dSq (dIf [] (g9 (il .Lt (gQ 2) (gQ 3)))
 (hJ [] (g7 (gP (gQ 0) gR)))
 ii)
 kK
def oS:TSd:=dSq (gV [] (gTp [2,3]) (g7 (gP (gS iE (gP (gQ 0) gR)) (gP (gS iE (gP (gQ 1) gR)) gR))))
 jt
theorem A3{P G:List Int}{B U:Int}{n s a b0 b y:Nat}{Q:D->Prop}(z1:Pc.Pz a b0 P B)(ln:P.length=n+1)(n1:1<=n)(n2:n<=12)(fG:Po.Fm G U)(lU:Lt2 b U)(wG:Wt y G U s)(cap:a+b0+(y+b+b)*15<=8000000)(cap2:(b+1)*14<=390000)(cap3:b+y*12<=9000000)(mon:G.getD s 0=U)(lG:G.length=s+1)(s1:1<=s)(s8:s<=12)(sn:s<=n)(q:∀ d,(∃ Ps:List (List Int×Int),d = .tup (Ps.map λp=>pD p.1 p.2)/\DA P B G U s n (b0+b*(n-s)+1) (eB b0 b) (yB a (y+b) b) Ps)->Q d) :
  kK.run (qX Q) [.val (pD P B),.val (pD G U),.val (.int n),.val (.int s),.no,.no,.no,.no,.no,.no,.no,.no,.no,.no,.no]:=by
 have tG:G.getD s 0≠0:=rN fG lG;have U0:=fG.pos;have z2:=wG.pz fG lG lU;have ys:y*s<=y*12:=ai _ s8;have bs1:(b+1)*(s+2)<=(b+1)*14:=ai _ (by omega);have B0:=z1.fm.pos;refine⟨rfl,(G,s,b+y*s,b),⟨rfl,lG,by show s<=20;omega,z2.tops,by show b+y*s<=9000000;omega,by rw [mon];exact lU,by show (b+1)*(s+2)<=390000;omega,tG⟩,?_⟩;rintro _ ⟨c,rfl,c0,lc,hdv⟩;have lc:Lt2 b c:=lc;refine⟨rfl,(G,c,s,b+y*s,b,b),⟨rfl,lG,by show s<=100;omega,z2.tops,lc,by show b+y*s<=9000000;omega,by rw [mon];exact lU,by show b<=9000000;omega,by show (b+1)*(s+1)<=4000000;exact aC (ai _ (by omega)) (aC cap2 (by decide)),tG⟩,?_⟩;rintro _ ⟨bs,rfl,lb,hb⟩;have lb:bs.length=s+1:=lb;have hx:∀ i,i<=s->G.getD s 0*bs.getD i 0=G.getD i 0*c^(s-i):=λi hi=>by
  have hb:bs.getD i 0=(G.getD i 0*c^(s-i)).fdiv (G.getD s 0):=hb i hi;have hdv:G.getD s 0∣G.getD (s-(s-i)) 0*c^(s-i):=hdv (s-i) (by omega);rw [show s-(s-i)=i by omega] at hdv;obtain⟨y,hy⟩:=hdv;rw [hb,hy,cq _ tG]
 have b1:bs.getD s 0=1:=by
  have:=hx s (af _);rw [bc,aU] at this;exact dF tG this
 have hZ:∀ j,j<=s->Lt2 ((y+b)*(s-j)+1) (bs.getD j 0):=λj z=>by
  have h:=congrArg Int.natAbs (hx j z);rw [aO,aO,mon] at h;have g:=wG (s-j) (by omega);rw [show s-(s-j)=j by omega] at g;have cl:(c^(s-j)).natAbs<2^(b*(s-j)+1):=Hv.rA lc (s-j);have u0:0<U.natAbs:=by omega
  have k:U.natAbs*(bs.getD j 0).natAbs<=U.natAbs*(2^(y*(s-j))*(c^(s-j)).natAbs):=by
   rw [h,← dO];exact bq _ g
  have k:=Nat.le_of_mul_le_mul_left k u0;show (bs.getD j 0).natAbs<2^((y+b)*(s-j)+1);rw [show (y+b)*(s-j)+1=y*(s-j)+(b*(s-j)+1) by rw [Nat.add_mul];omega,dG];exact bE k (fB cl (bG (by decide)))
 refine⟨(congrArg (· <= sizeLine) (tw P)).mpr (sE (by omega)),nI (λk=>P.getD k 0*c^(n-k)),nI.nil,λi d ys hd _ hy=>?_,λys _ hy=>?_⟩
 ·obtain⟨hi,rfl⟩:=rP hd;refine⟨rfl,rfl,(c,n-i,b),⟨?_,lc,by show n-i<=200;omega,by show (b+1)*(n-i+1)<=4000000;exact aC (ai _ (by omega)) (aC cap2 (by decide))⟩,?_⟩
  ·show [D.int c,.int ((n:Int)-(i:Int))]=[D.int c,.int ((n-i:Nat):Int)];rw [show (n:Int)-(i:Int)=((n-i:Nat):Int) by omega]
  ·rintro _ rfl;exact⟨⟨_,_,z1.tops i,sC lc (show n-i<=12 by omega),by omega⟩,hy.snoc rfl⟩
 have hy:nI _ (sj (P.map D.int)).length ys:=hy;rw [tw,ln] at hy;obtain⟨l0,rfl,l0l,hl0⟩:=hy;refine⟨rJ,rfl,(G,U,s,b+y*s,b),⟨rfl,lG,z2,by show b<=9000000;omega⟩,?_⟩;rintro dl fl;have uR:(U:Rat)≠0:=Qp.qF U0;have q1:Qp.q G U s=((1:Int):Rat):=by
  unfold Qp.q;rw [mon];show _=(1:Rat);grind
 have fl:FqD (b+y*s) b dl (Qp.q G U s):=fl;rw [q1] at fl;obtain⟨rfl,_⟩:=fl.same (r9 (n:=1) (t:=1) (by decide));refine⟨rfl,(fD 1 1,fD 1 1,((1:Int):Rat),((1:Int):Rat),1,1,1,1),⟨rfl,r9 (by decide),r9 (by decide),by decide,by decide,by decide⟩,?_⟩;rintro do1 fo;have fo:FqD 2 2 do1 (((1:Int):Rat) / ((1:Int):Rat)):=fo;rw [show ((1:Int):Rat) / ((1:Int):Rat)=((1:Int):Rat) by show (1:Rat) / 1=1;grind] at fo;obtain⟨rfl,_⟩:=fo.same (r9 (n:=1) (t:=1) (by decide));obtain⟨ov,hov⟩:∃ ov:Int,ov=1:=⟨_,rfl⟩;obtain⟨un,hun⟩:∃ un:Int,un=1:=⟨_,rfl⟩;have lo:Lt2 1 ov:=by rw [hov];unfold Lt2;decide
 have lu:Lt2 1 un:=by rw [hun];unfold Lt2;decide
 have u0:0<un:=by omega
 have o0:ov≠0:=by omega
 have hl:G.getD s 0*ov=un*U:=by rw [mon,hov,hun];omega
 have eo:fD 1 1=fD ov un:=by rw [hov,hun]
 rw [eo];have ef:(n:Int).fdiv (s:Int)=((n / s:Nat):Int):=by
  rw [cJ _ (by omega)];rfl
 have T12:n / s<=12:=aC (dh _ _) n2;have ls:Lt2 7 ((s:Nat):Int):=by unfold Lt2;omega
 have eT:((n:Int).fdiv (s:Int)+1).toNat=n / s+1:=by rw [ef];exact aS (n / s+1)
 have t0:(0:Int)<=((n / s:Nat):Int):=Int.natCast_nonneg _;have t1:((n / s:Nat):Int)<=12:=by exact_mod_cast T12
 have w1 : -(2^62)<=(n:Int).fdiv (s:Int)+1:=by
  rw [ef];generalize ((n / s:Nat):Int)=z at *;omega
 have w2:(n:Int).fdiv (s:Int)+1<2^62:=by
  rw [ef];generalize ((n / s:Nat):Int)=z at *;omega
 have s0:(s:Int)≠0:=by omega
 refine⟨rfl,aB _,⟨s0,7,ls,by decide⟩,w1,w2,HN P B G U c ov un bs n s (a+2) (y+b) (yB a (y+b) b),?_,?_,?_⟩
 ·refine⟨.no,.no,.no,.no,.no,l0,[],λt k=>P.getD k 0*c^(n-k),λ_ _=>0,rfl,rfl,by rw [l0l];rfl,λk=>?_,λ_=>?_,λk=>rfl,λt ht k=>⟨?_,λhk=>?_⟩,λt k ht=>absurd ht (bO _),λt p hp=>by cases hp⟩
  ·rcases ar k (n+1) with z|z
   ·exact hl0 k z
   ·show l0.getD k 0=P.getD k 0*c^(n-k);rw [qG (by omega),qG (fs:=P) (by omega),aI]
  ·have e:=hl0 n (by omega);dsimp only at e;rw [l0l,aG,e,bc,aU,bH];exact rN z1.fm ln
  ·rw [show t=0 by omega,gb,gb,bx];exact ((z1.tops k).mul (Hv.rA lc (n-k))).mono (by rw [Nat.add_mul];omega)
  ·show P.getD k 0*c^(n-k)=0;rw [qG (by omega),aI]
 ·rintro i d st hd hS;have hd:(sA 0 ((n:Int).fdiv (s:Int)+1).toNat)[i]? = some d:=hd;rw [eT] at hd;obtain⟨hi,rfl⟩:=rg hd;exact A2 (a:=a) (b0:=b0) (by omega) rfl (by omega) cap2 n2 s1 s8 (by omega) B0 z1.bot c0 lc o0 lo u0 lu lb b1 hZ (λ_ h=>h) hS
 ·rintro st hS;have hS:HN P B G U c ov un bs n s (a+2) (y+b) (yB a (y+b) b) (sA 0 ((n:Int).fdiv (s:Int)+1).toNat).length st:=hS;rw [qQ,eT] at hS;obtain⟨o7,o8,o12,o13,o14,x,Ps,rfl,hD⟩:=CW hun (af _) rfl z1 ln n2 s1 sn c0 lc u0 lu lo (λj hj=>by rw [bh];exact hx j hj) lb lG hl hS;exact q _ ⟨Ps,rfl,hD⟩
theorem nc:Does 15 oS kZ:=by
 rintro ds Q hn ⟨⟨P,B,G,U,n,s,a,b0,b,y⟩,⟨rfl,z1,ln,n1,n2,fG,lU,wG,lG,s1,s8,mon,cap,cap2,cap3⟩,q⟩;dsimp only at z1 ln n1 n2 fG lU wG lG s1 s8 mon cap cap2 cap3 q;refine⟨rfl,(P,B),rfl,?_⟩;rintro _ rfl;refine⟨rfl,(G,U),rfl,?_⟩;rintro _ rfl;refine⟨rJ,rfl,?_⟩;suffices h1:jt.run (qX Q) [.val (pD P B),.val (pD G U),.val (.int n),.val (.int s),.no,.no,.no,.no,.no,.no,.no,.no,.no,.no,.no] by
  show jt.run (qX Q) [.val (pD P B),.val (pD G U),.val (.int ((P.length:Int)-1)),.val (.int ((G.length:Int)-1)),.no,.no,.no,.no,.no,.no,.no,.no,.no,.no,.no];rw [ln,lG,show ((n+1:Nat):Int)-1=(n:Int) by omega,show ((s+1:Nat):Int)-1=(s:Int) by omega];exact h1
 refine vG (p:=(n:Int)<(s:Int)) (λc=>?_) (λc=>?_)
 ·exact⟨Ar,q _ ⟨[(P,B)],rfl,CV z1 ln n2 (by omega) (by omega) (by unfold eB;omega) (by unfold yB;omega)⟩⟩
 ·exact A3 z1 ln n1 n2 fG lU wG cap cap2 cap3 mon lG s1 s8 (by omega) q
def xY(a b0 Z n:Nat):Prop:=a+(Z+8)*n<=300000/\b0<=1000000/\Z<=27000/\(Z+8)*(n-1) / 2<=26000
theorem ET{a b0 Z k s:Nat}(h:xY a b0 Z (k*s))(k1:1<=k)(s1:1<=s):bU Z k s<=27000:=by
 obtain⟨_,_,h1,h2⟩:=h;unfold bU;split
 ·exact h1
 ·rename_i k2;have:2*s<=k*s:=bq _ (by omega);have h3:(Z+8)*(2*(s-1))<=(Z+8)*(k*s-1):=ai _ (by omega);have h4:(Z+8)*(2*(s-1))=2*((Z+8)*(s-1)):=by rw [← dO,aT (Z+8) 2,dO]
  omega
def mH:SpB:=.of 2 (α:=List Int×Int×Nat×Nat×Nat×Nat×Nat) (λ(P,B,k,s,a,b0,Z) ds=>ds=[pD P B,.int s]/\Pc.Pz a b0 P B/\P.length=k*s+1/\1<=k/\1<=s/\k*s<=12/\Lt2 Z (P.getD (k*s) 0)/\xY a b0 Z (k*s)) (λ(P,B,k,s,a,b0,Z) d=>HE P B k s a b0 Z d)
def oz:TSd:=(hJ [] (g7 (gP (dC (.str "made")) (gP (gS nh (gP (iz (iG (gQ 3)) [5] (gNm 5) iQ (gS i5 (gP (gQ 5) (gP (dC (.int 0)) gR)))) gR)) (gP (gQ 2) gR)))))
def oA:TSd:=dSq (iA [] (iN (gQ 3)) (gTp [4,5])
 (dIf [] (g9 (il .GtE (gS iE (gP (gQ 5) gR)) (dC (.int 1))))
 (hJ [] (g7 (gP (dC (.str "barred")) (gP (gQ 2) (gP (gQ 4) gR)))))
 ii))
 oz
def oB:TSd:=dSq (gV [] (gNm 3) (gS kZ (gP (gQ 0) (gP (gQ 2) gR))))
 oA
def pG:TSd:=dSq (gV [] (gNm 2) (gS jO (gP (gQ 0) (gP (gQ 1) gR))))
 oB
theorem oh:Does 6 pG mH:=by
 rintro ds Q hn ⟨⟨P,B,k,s,a,b0,Zl⟩,⟨rfl,z,lP,k1,s1,ks,lZ,hsz⟩,q⟩;dsimp only at z lP k1 s1 ks lZ hsz q;have s12:s<=k*s:=bo _ k1;have hL:=rN z.fm lP;have hb:=ET hsz k1 s1;have hsz':=hsz;obtain⟨c1,c2,c3,_⟩:=hsz';refine⟨rfl,(P,B,k,s,a,Zl),⟨rfl,lP,k1,s1,ks,z.tops,lZ,by show a+(Zl+8)*(k*s)<=700000;omega,by show Zl<=30000;omega,hL⟩,?_⟩;rintro _ ⟨G,U,rfl,cn,wG,hU⟩;have wG:Wt (gW a Zl (k*s)) G U s:=wG;have lU:=Dh lP k1 s1 ks hL lZ cn hU;have cn':=cn;obtain⟨fG,lG,hC⟩:=cn';obtain⟨mon,G0⟩:=vy hC s1;have G0:G.getD 0 0=0:=G0;have U0:=fG.pos;have B0:=z.fm.pos;have hg:gW a Zl (k*s)<=300024:=by unfold gW;omega
 generalize hgW:gW a Zl (k*s)=y at *;generalize hbU:bU Zl k s=b at *;have yy:y*12<=300024*12:=bq _ hg;refine⟨rfl,(P,B,G,U,k*s,s,a,b0,b,y),⟨rfl,z,lP,by show 1<=k*s;omega,ks,fG,lU,wG,lG,s1,by show s<=12;omega,mon,by show a+b0+(y+b+b)*15<=8000000;omega,by show (b+1)*14<=390000;omega,by show b+y*12<=9000000;omega⟩,?_⟩;rintro _ ⟨Ps,rfl,hD⟩;have ed:=EL B0 U0 (by omega) hD;obtain⟨N,E,Dv,⟨D0,lD,BD⟩,ne,l20,_,_,_,_,_,hp⟩:=hD;have lD:Lt2 (b0+b*(k*s-s)+1) Dv:=lD;have bk:b*(k*s-s)<=b*12:=ai _ (by omega);have hy:yB a (y+b) b<=9000000:=by unfold yB;omega
 have he:eB b0 b<=9000000:=by unfold eB;omega
 have ezB:zB b0 Zl k s=b0+b*(k*s-s)+1:=by unfold zB;rw [hbU]
 have etB:tB a b0 Zl k s=yB a (y+b) b+(b0+b*(k*s-s)+1):=by unfold tB;rw [ezB,hbU,hgW]
 have hz:∀ p∈Ps,Pc.Pz (yB a (y+b) b) (eB b0 b) p.1 p.2/\p.1.length<=s:=λp h=>by
  obtain⟨t,ht⟩:=bA.mp h;exact⟨(hp t p ht).2.1,(hp t p ht).2.2.1⟩
 have ap:y8 P B k s G U Ps:=⟨cn,ne,l20,λp h=>⟨(hz p h).1.fm,(hz p h).2⟩,ed⟩;generalize yB a (y+b) b=yy at *;generalize eB b0 b=ee at *;generalize hzz:b0+b*(k*s-s)+1=zz at *;refine⟨λi st=>(∃ o4 o5:SD,st=[.val (pD P B),.val (.int s),.val (pD G U),.val (.tup (Ps.map λp=>pD p.1 p.2)),o4,o5])/\∀ j q,j<i->Ps[j]? = some q->q.1.length<=1,⟨⟨.no,.no,rfl⟩,λj q h=>absurd h (bO _)⟩,?_,?_⟩
 ·rintro i d _ hd ⟨⟨o4,o5,rfl⟩,hI⟩;obtain⟨x,hx,rfl⟩:=v7 hd;rw [aJ] at hx;obtain⟨p,hp1,rfl⟩:=ab.mp hx;refine⟨rfl,rfl,(p.1,p.2),rfl,?_⟩;rintro _ rfl;refine vG (p:=(1:Int)<=(p.1.length:Int)-1) (λc=>?_) (λc=>?_)
  ·exact⟨sE (n:=3) (by decide),q _ ⟨G,U,Ps,ap,by rw [hgW];exact wG,by rw [hbU];exact lU,.inl ⟨i,p,rfl,hp1,by omega,hI⟩⟩⟩
  ·refine⟨⟨_,_,rfl⟩,λj r hj hr=>?_⟩;rcases bK (dI hj) with e|e
   ·rw [e,hp1] at hr;cases hr;omega
   ·exact hI j r e hr
 ·rintro _ ⟨⟨o4,o5,rfl⟩,hI⟩;rw [qZ,aa] at hI;have one:∀ r∈Ps,r.1.length<=1:=λr hr=>by
   obtain⟨t,ht⟩:=bA.mp hr;exact hI t r (aj.mp ht).1 ht
  refine⟨(congrArg (· <= sizeLine) (aa _)).mpr (sE (by omega)),λi ys=>∃ fs:List (Int×Int),ys=HM fs/\fs.length=i/\∀(j:Nat) (f:Int×Int),fs[j]? = some f->∃ p:List Int×Int,Ps[j]? = some p/\0<f.2/\Int.gcd f.1 f.2=1/\Lt2 yy f.1/\Qp.q p.1 p.2 0=(f.1:Rat) / (f.2:Rat),⟨[],rfl,rfl,λj f h=>by cases h⟩,λi d ys hd _ hy=>?_,λys _ hy=>?_⟩
  ·rw [aJ] at hd;obtain⟨p,hp1,rfl⟩:=ab.mp hd;have zp:=(hz p (aL hp1)).1;refine⟨rfl,(p.1,p.2,0,yy,ee),⟨rfl,zp,he⟩,?_⟩;rintro _ ⟨t,u,rfl,u0,g,lt,lu,er⟩;obtain⟨fs,rfl,lf,hf⟩:=hy;refine⟨fs++[(t,u)],by unfold HM;rw [a5];rfl,by rw [aq,lf];rfl,λj f hj=>?_⟩;rcases ar j fs.length with y|y
   ·rw [aR y] at hj;exact hf j f hj
   ·have ej:j=i:=by
     have:=(aj.mp hj).1;rw [aq] at this;simp at this;omega
    subst ej;rw [av (by omega),lf,bc] at hj;cases hj;exact⟨p,hp1,u0,g,lt,er⟩
  ·obtain⟨fs,rfl,lf,hf⟩:=hy;rw [aa] at lf;have dv:∀ f∈fs,0<f.2/\Lt2 yy f.1/\f.2∣Dv:=λf h=>by
    obtain⟨j,hj⟩:=bA.mp h;obtain⟨p,hp1,u0,g,lt,er⟩:=hf j f hj;refine⟨u0,lt,?_⟩;cases j with
    | zero =>
     have e0:Qp.q P B 0=Qp.q p.1 p.2 0:=by
      have a:=ed 0;have b0:Qp.E G U 0=0:=by
       rw [Qp.sv];unfold Qp.q;rw [G0];show (0:Rat) / _=0;grind
      rw [b0] at a;cases Ps with
      | nil=>exact absurd rfl ne
      | cons p' Ps =>
       cases hp1;have a:Qp.E P B 0=Qp.E p.1 p.2 0+0*_:=a;rw [Rat.zero_mul,Rat.add_zero,Qp.sv,Qp.sv] at a;exact a
     refine dQ (xI (a:=P.getD 0 0) u0 g B0 ?_) BD;rw [← er,← e0];rfl
    | succ j =>
     have zp:=(hz p (aL hp1)).1;refine dQ (xI (a:=p.1.getD 0 0) u0 g zp.fm.pos ?_) ((hp (j+1) p hp1).1 (by omega));rw [← er];rfl
   refine⟨rfl,(fs,Dv,yy),⟨rfl,dv,by omega,D0,lD.mono (by omega),by show yy<=10000000;omega⟩,?_⟩;rintro _ ⟨R,C,rfl,fR,wR,lR,CD⟩;have wR:∀ k,R.getD k 0*(fs.getD k (0,1)).2=(fs.getD k (0,1)).1*C:=wR;have lR:R.length<=fs.length:=lR;have lC:Lt2 zz C:=lD.le (ce (by omega) (a6.mpr CD));refine⟨sE (n:=3) (by decide),q _ ⟨G,U,Ps,ap,by rw [hgW];exact wG,by rw [hbU];exact lU,.inr ⟨R,C,rfl,⟨fR,λk=>?_,by rw [ezB];exact lC⟩,one,by omega,λx y=>?_⟩⟩⟩
   ·rcases ar k fs.length with y|y
    ·obtain⟨f,hf1⟩:∃ f,fs[k]? = some f:=⟨fs[k],ao y⟩;have w:=wR k;rw [rf hf1] at w;obtain⟨u0,lt,_⟩:=dv f (aL hf1);rw [etB];refine (lt.mul lC).le ?_;rw [← w,aO];exact bM _ (by omega)
    ·rw [qG (by omega)];exact uL _
   ·rw [Bd (N:=Ps.length) (by omega),FC (f:=Qp.q R C) one λj p hj=>?_];have lj:j<fs.length:=by rw [lf];exact (aj.mp hj).1
    obtain⟨f,hf1⟩:∃ f,fs[j]? = some f:=⟨fs[j],ao lj⟩;obtain⟨p',hp',u0,g,lt,er⟩:=hf j f hf1;rw [hj] at hp';cases hp';rw [er];have w:=wR j;rw [rf hf1] at w;exact (Qp.rG (ax fR.pos) (ax u0)).mpr w
end Dp
namespace Dp
open PySem L2 Ch
theorem Nt2.mad{f g h:Pl}{k s:Nat}(n:Nt2 f g h k s)(k1:1<=k)(s1:1<=s)(ff:Po.Fm f.1 f.2)(lf:f.1.length=k*s+1):Lh f.1 f.2 k s:=by
 have c:=n.cn k1 s1 ff lf;exact⟨h.1,h.2,g.1,g.2,c.1,c.2.1,c.2.2,n.fg,n.e⟩
def g6:SpB:=.of 2 (α:=List Pl×Pl×Pl×List Pl×Nat×Nat×Nat×Nat×Nat×Nat×Nat×Nat×Nat) (λ(u,a,b,v,da,db,na,ca,nb,cb,nf,bf,Zf) ds=>ds=[cD (u++a::b::v),.int (u.length:Nat)]/\u.length<=2/\v.length<=2/\a.1.length=da+1/\b.1.length=db+1/\2<=da/\da<=6/\2<=db/\db<=6/\(da≠db->da*db<=12/\Pc.Pz na ca a.1 a.2/\Pc.Pz nb cb b.1 b.2/\ca+cb*7<=8900000/\na+(nb+cb+10)*8<=90000000/\xY nf bf Zf (db*da)/\∀ f:Pl,Pc.Of a.1 a.2 b.1 b.2 f.1 f.2->Pc.Pz nf bf f.1 f.2/\Lt2 Zf (f.1.getD (db*da) 0)))
 (λ(u,a,b,v,da,db,na,ca,nb,cb,nf,bf,Zf) d=>(d = .non/\(da=db\/∀ f g h,Po.Fm f.1 f.2->JD f a b->¬ Nt2 f g h db da))\/∃ f g h,d=cD (u++g::h::v)/\da≠db/\Pc.Pz nf bf f.1 f.2/\Lt2 Zf (f.1.getD (db*da) 0)/\f.1.length=db*da+1/\JD f a b/\Nt2 f g h db da/\g.1.length=db+1/\Pc.Pz (tB nf bf Zf db da) (zB bf Zf db da) g.1 g.2/\Wt (gW nf Zf (db*da)) h.1 h.2 da/\Lt2 (bU Zf db da) h.2)
def mh:TSd:=(hJ [] (gU .Add (gU .Add (dSl (gQ 0) dNo (kU (gQ 1))) (g7 (gP (gQ 5) (gP (gQ 6) gR)))) (dSl (gQ 0) (kU (gU .Add (gQ 1) (dC (.int 2)))) dNo)))
def mj:TSd:=dSq (dIf [] (g9 (il .Eq (gQ 4) (dC (.str "barred"))))
 (hJ [] (dC .non))
 ii)
 mh
def ml:TSd:=dSq (gV [] (gTp [4,5,6]) (gS mH (gP (gS pQ (gP (gQ 2) (gP (gQ 3) gR))) (gP (gS iE (gP (gQ 2) gR)) gR))))
 mj
def mn:TSd:=dSq (dIf [] (g9 (il .Eq (gS iE (gP (gQ 2) gR)) (gS iE (gP (gQ 3) gR))))
 (hJ [] (dC .non))
 ii)
 ml
def ng:TSd:=dSq (kg [] 2 3 (dIx (gQ 0) (gQ 1)) (dIx (gQ 0) (gU .Add (gQ 1) (dC (.int 1)))))
 mn
theorem kT:Does 7 ng g6:=by
 rintro ds Q hn ⟨⟨u,a,b,v,da,db,na,ca,nb,cb,nf,bf,Zf⟩,⟨rfl,lu,lv,la,lb,da2,da6,db2,db6,hne⟩,q⟩;dsimp only at lu lv la lb da2 da6 db2 db6 hne q;obtain⟨at0,at1⟩:=HB (u:=u) (v:=v) (a:=a) (b:=b);refine rl at0 (rl (n:=u.length+1) at1 ?_);refine⟨rfl,(a.1,a.2),rfl,?_⟩;rintro _ rfl;refine⟨rfl,(b.1,b.2),rfl,?_⟩;rintro _ rfl;refine vG (p:=((a.1.length:Nat):Int)-1=((b.1.length:Nat):Int)-1) (λcc=>?_) (λcc=>?_)
 ·exact q _ (.inl ⟨rfl,.inl (by omega)⟩)
 ·have nd:da≠db:=by omega
  obtain⟨dd,za,zb,h1,h2,hz,hf⟩:=hne nd;have w1:cb*a.1.length<=cb*7:=ai _ (by omega);have w2:(nb+cb+10)*(a.1.length+1)<=(nb+cb+10)*8:=ai _ (by omega);have w3:a.1.length*b.1.length<=7*7:=aX (by omega) (by omega);refine⟨rfl,(a.1,a.2,b.1,b.2,na,ca,nb,cb),⟨rfl,za,zb,by show ca+cb*a.1.length<=8900000;omega,by show na+(nb+cb+10)*(a.1.length+1)<=90000000;omega,by show a.1.length*b.1.length<=190;omega,by show a.1.length<=190;omega,by show b.1.length<=190;omega⟩,?_⟩;rintro _ ⟨F,B,rfl,o⟩;have o:Pc.Of a.1 a.2 b.1 b.2 F B:=o;have eF:JD (F,B) a b:=λx=>Qp.Dz za.fm.pos zb.fm.pos o x;have lF:F.length=da*db+1:=o.deg_eq za.fm.pos zb.fm.pos la lb (by omega) (rN za.fm la) (rN zb.fm lb);have lf:F.length=db*da+1:=by rw [lF,aT]
  obtain⟨zF,zL⟩:=hf (F,B) o;have zF:Pc.Pz nf bf F B:=zF;refine⟨rfl,(a.1,a.2),rfl,?_⟩;rintro _ rfl;have ed:((a.1.length:Nat):Int)-1=((da:Nat):Int):=by rw [la];omega
  refine⟨rfl,(F,B,db,da,nf,bf,Zf),⟨congrArg (λz=>[pD F B,.int z]) ed,zF,lf,by show 1<=db;omega,by show 1<=da;omega,by show db*da<=12;rw [aT];exact dd,zL,hz⟩,?_⟩;rintro _ ⟨G,U,Ps,ap,wG,lU,(⟨i,p,rfl,hi,h2p,_⟩|⟨R,C,rfl,zR,one,lR,eR⟩)⟩
  ·refine⟨rfl,?_⟩;refine q _ (.inl ⟨rfl,.inr λf g h ff ef n=>?_⟩);obtain⟨e1,e2⟩:=Qp.tQ ff o.1 λx=>by rw [ef x,← eF x]
   have lf':f.1.length=db*da+1:=by rw [e1];exact lf
   have m:=n.mad (by omega) (by omega) ff lf';rw [e1,e2] at m;exact xg (by omega) (by omega) (rN o.1 lf) ap hi h2p m
  ·have cn:Cn F db da G U:=ap.1;have ed2:=ap.2.2.2.2;have e:∀ x,Qp.E F B x=Qp.E R C (Qp.E G U x):=λx=>by rw [ed2 x,eR]
   obtain⟨m1,m2⟩:=vy cn.2.2 (show 1<=da by omega);have nt:Nt2 (F,B) (R,C) (G,U) db da:=⟨zR.fm,cn.1,cn.2.1,⟨by show G.getD (G.length-1) 0=U;rw [cn.2.1,aG];exact m1,m2⟩,e⟩;have lL:((u++a::b::v).map pq).length=u.length+(v.length+2):=by rw [aa,aq];rfl
   have e1:sT ((u++a::b::v).map pq) none (some ((u.length:Nat):Int))=u.map pq:=by
    rw [Da (by rw [lL];omega),a5,← aa (f:=pq) (as:=u),fv]
   have e2:sT ((u++a::b::v).map pq) (some (((u.length:Nat):Int)+2)) none=v.map pq:=by
    rw [show ((u.length:Nat):Int)+2=((u.length+2:Nat):Int) by omega,yS (by rw [lL];omega),a5,List.drop_append,aa,show u.length+2-u.length=2 by omega,List.drop_of_length_le (by rw [aa];omega)];rfl
   refine⟨rfl,?_⟩;refine⟨trivial,?_⟩;refine⟨sE (n:=2) (by decide),?_⟩;show oAdd (.tup (sT ((u++a::b::v).map pq) none (some ((u.length:Nat):Int)))) (.tup [pD R C,pD G U]) λd=>slD (cD (u++a::b::v)) (some (((u.length:Nat):Int)+2)) none λd'=>oAdd d d' Q;rw [e1];refine⟨by rw [aa];exact sE (by show u.length+2<=_;omega),⟨trivial,?_⟩⟩;show oAdd (.tup (u.map pq++[pD R C,pD G U])) (.tup (sT ((u++a::b::v).map pq) (some (((u.length:Nat):Int)+2)) none)) Q;rw [e2];have e3:u.map pq++[pD R C,pD G U]++v.map pq=(u++(R,C)::(G,U)::v).map pq:=by rw [a5,gJ];rfl
   refine⟨by rw [aq,aa,aa];exact sE (by show u.length+2+v.length<=_;omega),?_⟩;rw [e3];exact q _ (.inr ⟨(F,B),(R,C),(G,U),rfl,nd,zF,zL,lf,eF,nt,nt.lg (by omega) (by omega) o.1 lf,zR,wG,lU⟩)
end Dp
namespace Dp
open PySem L2 Ch
theorem Ev{a b f:Pl}{da db n m bf:Nat}(d1:1<=da)(d2:1<=db)(pa:Pc.Pz n m a.1 a.2)(la:a.1.length=da+1)(fb:Po.Fm b.1 b.2)(lb:b.1.length=db+1)(nb:Dx b)(ff:Po.Fm f.1 f.2)(lf:Lt2 bf f.2)(e:JD f a b):Lt2 (n+bf) (f.1.getD (da*db) 0)/\(Dx a->Lt2 bf (f.1.getD (da*db) 0)):=by
 have b1:=nb.1;rw [lb,aG] at b1;have q:=sh d1 d2 ff fb lb b1 pa.fm la e;unfold Qp.q at q;have n1:=Qp.qF ff.pos;have n2:=Qp.qF pa.fm.pos;have h:((f.1.getD (da*db) 0:Int):Rat)*(a.2:Rat)=((a.1.getD da 0:Int):Rat)*(f.2:Rat):=by
  generalize ((f.1.getD (da*db) 0:Int):Rat)=x at *;generalize ((a.1.getD da 0:Int):Rat)=y at *;have e1:x=x / (f.2:Rat)*(f.2:Rat):=by grind
  have e2:y=y / (a.2:Rat)*(a.2:Rat):=by grind
  generalize hz:x / (f.2:Rat)=z at *;rw [← q] at e2;rw [e1,e2];grind
 have h':f.1.getD (da*db) 0*a.2=a.1.getD da 0*f.2:=by
  rw [← aw,← aw] at h;exact de.mp h
 have p:=pa.fm.pos;refine⟨?_,λna=>?_⟩
 ·have t:=(pa.tops da).mul lf;rw [← h'] at t;unfold Lt2 at t ⊢;rw [aO] at t;exact bE (bM _ (by omega)) t
 ·have a1:=na.1;rw [la,aG] at a1;rw [a1,bh] at h';have:=dF (by omega) h';rw [this];exact lf
end Dp
namespace Dp
open PySem L2 Ch
def GM(zs:Nat->Nat×Nat)(i:Nat):Prop:=(zs i).2+(zs (i+1)).2*7<=8900000/\(zs i).1+((zs (i+1)).1+(zs (i+1)).2+10)*8<=90000000
abbrev E3:=Nat×Nat×Nat
def X4(i da db:Nat)(e:E3)(L L':List Pl):Prop:=∃ u a b v f g h,L=u++a::b::v/\u.length=i/\L'=u++g::h::v/\Pc.Pz e.1 e.2.1 f.1 f.2/\Lt2 e.2.2 (f.1.getD (db*da) 0)/\f.1.length=db*da+1/\Nt2 f a b da db/\Nt2 f g h db da
theorem X4.xr{i da db:Nat}{e:E3}{L L':List Pl}(h:X4 i da db e L L'):Xr i da db (e.1,e.2.1) L L':=by
 obtain⟨u,a,b,v,f,g,h,rfl,hu,rfl,z,_,lf,n1,n2⟩:=h;exact⟨u,a,b,v,f,g,h,rfl,hu,rfl,z,lf,n1,n2⟩
theorem X4.symm{i da db:Nat}{e:E3}{L L':List Pl}(h:X4 i da db e L L'):X4 i db da e L' L:=by
 obtain⟨u,a,b,v,f,g,h,rfl,hu,rfl,z,zl,lf,n1,n2⟩:=h;exact⟨u,g,h,v,f,a,b,rfl,hu,rfl,z,by rw [aT];exact zl,by rw [lf,aT],n2,n1⟩
def hT(e:E3)(k s:Nat):Nat:=bU e.2.2 k s+gW e.1 e.2.2 (k*s)*s
theorem sD{L:List Pl}{l:List Nat}{zs:Nat->Nat×Nat}{i da db:Nat}{e:E3}{Q:D->Prop}(s:Stt L l zs)(hi:i+1<l.length)(l3:l.length<=3)(hda:l.getD i 0=da)(hdb:l.getD (i+1) 0=db)(da2:2<=da)(da6:da<=6)(db2:2<=db)(db6:db<=6)
  (hB:da≠db->da*db<=12/\GM zs i/\xY e.1 e.2.1 e.2.2 (db*da)/\∀ f:Pl,Pc.Of (L.getD i p0).1 (L.getD i p0).2 (L.getD (i+1) p0).1 (L.getD (i+1) p0).2 f.1 f.2->Pc.Pz e.1 e.2.1 f.1 f.2/\Lt2 e.2.2 (f.1.getD (db*da) 0))
  (hA:da=db->Q .non) (hN:da≠db->(∀ e' L',¬ Xr i da db e' L L')->Q .non)
  (hY:da≠db->∀ L',X4 i da db e L L'->Pc.Pz (tB e.1 e.2.1 e.2.2 db da) (zB e.2.1 e.2.2 db da) (L'.getD i p0).1 (L'.getD i p0).2->Pc.Pz (hT e db da) (bU e.2.2 db da) (L'.getD (i+1) p0).1 (L'.getD (i+1) p0).2->Q (cD L')) :
  [cD L,.int (i:Nat)].length=g6.n/\g6.run [cD L,.int (i:Nat)] Q:=by
 have hi':i+1<L.length:=by rw [s.len];exact hi
 obtain⟨u,v,eL,hu⟩:=F1 hi';have lv:u.length+(v.length+2)=L.length:=by
  have:=congrArg List.length eL;rw [aq] at this;exact this.symm
 have sl:=s.len;have la:=s.dg i (by omega);have lb:=s.dg (i+1) hi;have za:=s.sz i (by omega);have zb:=s.sz (i+1) hi;have nb:=s.nea.2 (i+1) (L.getD (i+1) p0) (by rw [ac,ao hi'];rfl) (by omega);have fa:=za.fm;have fb:=zb.fm;rw [hda] at la;rw [hdb] at lb;generalize L.getD i p0=a at *;generalize L.getD (i+1) p0=b at *;subst eL;subst hu;refine⟨rfl,(u,a,b,v,da,db,(zs u.length).1,(zs u.length).2,(zs (u.length+1)).1,(zs (u.length+1)).2,e.1,e.2.1,e.2.2),⟨rfl,by omega,by omega,la,lb,da2,da6,db2,db6,λnd=>?_⟩,?_⟩
 ·obtain⟨h1,⟨h2,h3⟩,h4,h6⟩:=hB nd;exact⟨h1,za,zb,h2,h3,h4,h6⟩
 ·rintro _ (⟨rfl,(h|h)⟩|⟨f,g,h,rfl,nd,zf,zl,lf,ef,nt,lg,zg,wh,uh⟩)
  ·exact hA h
  ·by_cases nd:da=db
   ·exact hA nd
   ·refine hN nd λe' L' x=>?_;obtain⟨u',a',b',v',f,g,h',e1,hu',rfl,z,lf,n1,n2⟩:=x;obtain⟨rfl,rfl,rfl,rfl⟩:=zI e1 (by omega);exact h f g h' z.fm n1.e n2
  ·obtain⟨x1,x2⟩:=xH (u:=u) (v:=v) (a:=g) (b:=h);exact hY nd _ ⟨u,a,b,v,f,g,h,rfl,rfl,rfl,zf,zl,lf,⟨fa,fb,lb,nb,ef⟩,nt⟩ (by rw [x1];exact zg) (by rw [x2];exact wh.pz nt.fh nt.lh uh)
end Dp
namespace Dp
open PySem L2 Ch
def IO(da:Nat)(a b:Nat×Nat):Nat×Nat:=(a.1+(b.1+b.2+10)*(da+1)+1,a.2+(b.2*(da+1)+1))
def Dy(a b:Nat×Nat):Prop:=a.1<=b.1/\a.2<=b.2
section
variable{n k0:Nat}{dg:Nat->List Nat}{pl:Nat->Nat}{zz:Nat->Nat->Nat×Nat}{eb:Nat->Nat×Nat}
variable{S:Nat->List Pl}{lo hi:Nat}
theorem GN{a b f:Pl}{da:Nat}{za zb e:Nat×Nat}(la:a.1.length=da+1)(h6:da<=6)(lb:b.1.length<=7)(pa:Pc.Pz za.1 za.2 a.1 a.2)(pb:Pc.Pz zb.1 zb.2 b.1 b.2)(o:Pc.Of a.1 a.2 b.1 b.2 f.1 f.2)(h:Dy (IO da za zb) e):Pc.Pz e.1 e.2 f.1 f.2:=by
 have w:a.1.length*b.1.length<=7*7:=aX (by omega) lb;have z:=o.size pa pb (by omega);rw [la] at z;exact z.mono h.1 h.2
end
end Dp
namespace Dp
open PySem L2 Ch
def JL(i n:Nat)(e:E3):Prop:=(i=0->n+e.2.1<=e.2.2)/\e.2.1<=e.2.2
theorem CQ{i da db:Nat}{e:E3}{L L':List Pl}(x:X4 i da db e L L'){f:Pl}(o:Pc.Of (L.getD i p0).1 (L.getD i p0).2 (L.getD (i+1) p0).1 (L.getD (i+1) p0).2 f.1 f.2):Pc.Pz e.1 e.2.1 f.1 f.2/\Lt2 e.2.2 (f.1.getD (db*da) 0):=by
 obtain⟨u,a,b,v,f',g,h,rfl,hu,rfl,z,zl,lf,n1,n2⟩:=x;subst hu;obtain⟨x1,x2⟩:=xH (u:=u) (v:=v) (a:=a) (b:=b);rw [x1,x2] at o;obtain⟨e1,e2⟩:=Qp.tQ o.1 z.fm λx=>by rw [Qp.Dz n1.fg.pos n1.fh.pos o,n1.e x]
 rw [e1,e2];exact⟨z,zl⟩
theorem IP{L:List Pl}{l:List Nat}{zs:Nat->Nat×Nat}{i da db:Nat}{e:E3}(s:Stt L l zs)(hi:i+1<l.length)(hda:l.getD i 0=da)(hdb:l.getD (i+1) 0=db)(d1:2<=da/\da<=6)(d2:2<=db/\db<=6){f:Pl}(o:Pc.Of (L.getD i p0).1 (L.getD i p0).2 (L.getD (i+1) p0).1 (L.getD (i+1) p0).2 f.1 f.2)(r1:Dy (IO da (zs i) (zs (i+1))) (e.1,e.2.1))(r0:JL i (zs i).1 e):Pc.Pz e.1 e.2.1 f.1 f.2/\Lt2 e.2.2 (f.1.getD (db*da) 0):=by
 have la:=s.dg i (by omega);have lb:=s.dg (i+1) hi;rw [hda] at la;rw [hdb] at lb;have za:=s.sz i (by omega);have zb:=s.sz (i+1) hi;have sl:=s.len;have hh:∀ t,t<l.length->0<t->Dx (L.getD t p0):=λt ht t0=>s.nea.2 t _ (by rw [ac,ao (by omega)];rfl) (by omega);have zf:Pc.Pz e.1 e.2.1 f.1 f.2:=GN la d1.2 (by omega) za zb o r1;obtain⟨l1,l2⟩:=Ev (f:=f) (by omega) (by omega) za la zb.fm lb (hh (i+1) hi (by omega)) zf.fm zf.bot λx=>Qp.Dz za.fm.pos zb.fm.pos o x;refine⟨zf,?_⟩;rw [aT];rcases cR i with h|h
 ·exact l1.mono (r0.1 h)
 ·exact (l2 (hh i (by omega) h)).mono r0.2
structure Line4 (n k0:Nat)(dg:Nat->List Nat)(pl:Nat->Nat)(zz:Nat->Nat->Nat×Nat)(eb:Nat->E3):Prop where
 hlen:∀ j,j<n->2<=(dg j).length/\(dg j).length<=3/\∀ i,i<(dg j).length->2<=(dg j).getD i 0/\(dg j).getD i 0<=6
 hnb:∀ j i,j<n->i+1<(dg j).length->(dg j).getD i 0≠(dg j).getD (i+1) 0->(j+1<n/\i=pl j)\/∃ j',j=j'+1/\i=pl j'
 hpl:∀ j,j+1<n->pl j+1<(dg j).length/\(dg j).getD (pl j) 0≠(dg j).getD (pl j+1) 0/\(dg j).getD (pl j) 0*(dg j).getD (pl j+1) 0<=12/\(dg (j+1)).length=(dg j).length/\(dg (j+1)).getD (pl j) 0=(dg j).getD (pl j+1) 0/\(dg (j+1)).getD (pl j+1) 0=(dg j).getD (pl j) 0/\∀ t,t≠pl j->t≠pl j+1->(dg (j+1)).getD t 0=(dg j).getD t 0/\zz (j+1) t=zz j t
 hok:∀ j,j+1<n->GM (zz j) (pl j)/\GM (zz (j+1)) (pl j)/\xY (eb j).1 (eb j).2.1 (eb j).2.2 ((dg j).getD (pl j) 0*(dg j).getD (pl j+1) 0)
 hrt:∀ j,j+1<n->k0<=j->Dy (IO ((dg j).getD (pl j) 0) (zz j (pl j)) (zz j (pl j+1))) ((eb j).1,(eb j).2.1)/\JL (pl j) (zz j (pl j)).1 (eb j)/\Dy (tB (eb j).1 (eb j).2.1 (eb j).2.2 ((dg j).getD (pl j+1) 0) ((dg j).getD (pl j) 0),zB (eb j).2.1 (eb j).2.2 ((dg j).getD (pl j+1) 0) ((dg j).getD (pl j) 0)) (zz (j+1) (pl j))/\Dy (hT (eb j) ((dg j).getD (pl j+1) 0) ((dg j).getD (pl j) 0),bU (eb j).2.2 ((dg j).getD (pl j+1) 0) ((dg j).getD (pl j) 0)) (zz (j+1) (pl j+1))
 hlf:∀ j,j+1<n->j<k0->Dy (IO ((dg j).getD (pl j+1) 0) (zz (j+1) (pl j)) (zz (j+1) (pl j+1))) ((eb j).1,(eb j).2.1)/\JL (pl j) (zz (j+1) (pl j)).1 (eb j)/\Dy (tB (eb j).1 (eb j).2.1 (eb j).2.2 ((dg j).getD (pl j) 0) ((dg j).getD (pl j+1) 0),zB (eb j).2.1 (eb j).2.2 ((dg j).getD (pl j) 0) ((dg j).getD (pl j+1) 0)) (zz j (pl j))/\Dy (hT (eb j) ((dg j).getD (pl j) 0) ((dg j).getD (pl j+1) 0),bU (eb j).2.2 ((dg j).getD (pl j) 0) ((dg j).getD (pl j+1) 0)) (zz j (pl j+1))
section
variable{n k0:Nat}{dg:Nat->List Nat}{pl:Nat->Nat}{zz:Nat->Nat->Nat×Nat}{eb:Nat->E3}
structure Wk4 (k0:Nat)(dg:Nat->List Nat)(pl:Nat->Nat)(zz:Nat->Nat->Nat×Nat)(eb:Nat->E3)(n:Nat)(S:Nat->List Pl)(lo hi:Nat):Prop where
 a:lo<=k0
 b:k0<=hi
 c:hi<n
 st:∀ j,lo<=j->j<=hi->Stt (S j) (dg j) (zz j)
 ed:∀ j,lo<=j->j<hi->X4 (pl j) ((dg j).getD (pl j) 0) ((dg j).getD (pl j+1) 0) (eb j) (S j) (S (j+1))
variable{S:Nat->List Pl}{lo hi:Nat}
theorem IZ(P:Line4 n k0 dg pl zz eb)(w:Wk4 k0 dg pl zz eb n S lo hi){k:Nat}(k1:lo<=k)(k2:k<hi){Q:D->Prop}(q:Q (cD (S (k+1)))):[cD (S k),.int (pl k:Nat)].length=g6.n/\g6.run [cD (S k),.int (pl k:Nat)] Q:=by
 have hc:=w.c;obtain⟨p1,p2,p3,p4,p5,p6,p7⟩:=P.hpl k (by omega);obtain⟨l1,l2,l3⟩:=P.hlen k (by omega);obtain⟨o1,o2,o3⟩:=P.hok k (by omega);have x:=w.ed k k1 k2;have d1:=l3 (pl k) (by omega);have d2:=l3 (pl k+1) p1;exact sD (e:=eb k) (w.st k k1 (by omega)) p1 l2 rfl rfl d1.1 d1.2 d2.1 d2.2 (λ_=>⟨p3,o1,by rw [aT];exact o3,λf o=>CQ x o⟩) (λh=>absurd h p2) (λ_ h=>absurd x.xr (h _ _)) λ_ L' x' _ _=>by
  rw [x'.xr.uniq (by omega) (by omega) x.xr];exact q
theorem I0(P:Line4 n k0 dg pl zz eb)(w:Wk4 k0 dg pl zz eb n S lo hi){k:Nat}(k1:lo<=k)(k2:k<hi){Q:D->Prop}(q:Q (cD (S k))):[cD (S (k+1)),.int (pl k:Nat)].length=g6.n/\g6.run [cD (S (k+1)),.int (pl k:Nat)] Q:=by
 have hc:=w.c;obtain⟨p1,p2,p3,p4,p5,p6,p7⟩:=P.hpl k (by omega);obtain⟨l1,l2,l3⟩:=P.hlen k (by omega);obtain⟨m1,m2,m3⟩:=P.hlen (k+1) (by omega);obtain⟨o1,o2,o3⟩:=P.hok k (by omega);have x:=(w.ed k k1 k2).symm;have d1:=l3 (pl k) (by omega);have d2:=l3 (pl k+1) p1;exact sD (e:=eb k) (w.st (k+1) (by omega) k2) (by rw [p4];exact p1) m2 p5 p6 d2.1 d2.2 d1.1 d1.2 (λ_=>⟨by rw [aT];exact p3,o2,o3,λf o=>CQ x o⟩) (λh=>absurd h.symm p2) (λ_ h=>absurd x.xr (h _ _)) λ_ L' x' _ _=>by
  rw [x'.xr.uniq (by omega) (by omega) x.xr];exact q
end
end Dp
namespace Dp
open PySem L2 Ch
def JF(i:Nat)(v w:Nat×Nat)(f:Nat->Nat×Nat):Nat->Nat×Nat:=λt=>if t=i then v else if t=i+1 then w else f t
theorem u4{i t:Nat}{v w:Nat×Nat}{f:Nat->Nat×Nat}(h1:t≠i)(h2:t≠i+1):JF i v w f t=f t:=by
 unfold JF;rw [if_neg h1,if_neg h2]
def HJ(db da i:Nat)(e:E3)(f:Nat->Nat×Nat):Nat->Nat×Nat:=JF i (tB e.1 e.2.1 e.2.2 db da,zB e.2.1 e.2.2 db da) (hT e db da,bU e.2.2 db da) f
def Be:Nat->Nat×Nat:=λ_=>(133,133)
theorem zJ{l:List Nat}(hl:(∃ m,l=[m,m]/\2<=m/\m<=6)\/l=[2,2,2]):Line4 1 0 (λ_=>l) (λ_=>0) (λ_=>Be) λ_=>(0,0,0):=by
 refine⟨λj hj=>?_,λj i hj hi he=>?_,λj hj=>?_,λj hj=>?_,λj hj=>?_,λj hj=>?_⟩
 ·rcases hl with⟨m,rfl,m2,m6⟩|rfl
  ·refine⟨af _,by show 2<=3;decide,λi hi=>?_⟩;match i,hi with
   | 0,_=>exact⟨m2,m6⟩
   | 1,_=>exact⟨m2,m6⟩
  ·exact⟨by decide,by decide,by decide⟩
 ·exfalso;rcases hl with⟨m,rfl,m2,m6⟩|rfl
  ·have:i=0:=by have:i+1<2:=hi;omega
   subst this;exact he rfl
  ·have:i+1<3:=hi;rcases (by omega:i=0\/i=1) with rfl|rfl
   ·exact he rfl
   ·exact he rfl
 ·omega
 ·omega
 ·omega
 ·omega
def A4:Nat->List Nat
 | 0=>[2,2,3]
 | 1=>[2,3,2]
 | _+2=>[3,2,2]
def Gw:Nat->Nat
 | 0=>1
 | _+1=>0
def HV:Nat->Nat×Nat:=HJ 3 2 1 (962,533,533) Be
def LW:Nat->E3
 | 0=>(962,533,533)
 | _+1=>(211898,8240,8373)
def Ln:Nat->Nat->Nat×Nat
 | 0=>Be
 | 1=>HV
 | _+2=>HJ 3 2 0 (211898,8240,8373) HV
def LV:Nat->E3
 | 0=>(1238,666,666)
 | _+1=>(962,533,666)
def Lm:Nat->Nat->Nat×Nat
 | 0=>HJ 2 3 1 (1238,666,666) Be
 | 1=>Be
 | _+2=>HJ 3 2 0 (962,533,666) Be
def HU:Nat->Nat×Nat:=HJ 2 3 0 (1238,666,799) Be
def LU:Nat->E3
 | 0=>(21032,2148,2148)
 | _+1=>(1238,666,799)
def Ll:Nat->Nat->Nat×Nat
 | 0=>HJ 2 3 1 (21032,2148,2148) HU
 | 1=>HU
 | _+2=>Be
theorem GS:∀ j,j<3->2<=(A4 j).length/\(A4 j).length<=3/\∀ i,i<(A4 j).length->2<=(A4 j).getD i 0/\(A4 j).getD i 0<=6:=by
 intro j hj;rcases (by omega:j=0\/j=1\/j=2) with rfl|rfl|rfl <;> exact⟨by decide,by decide,by decide⟩
theorem Ks:∀ j i,j<3->i+1<(A4 j).length->(A4 j).getD i 0≠(A4 j).getD (i+1) 0->(j+1<3/\i=Gw j)\/∃ j',j=j'+1/\i=Gw j':=by
 intro j i hj hi he;rcases (by omega:j=0\/j=1\/j=2) with rfl|rfl|rfl
 ·have:i+1<3:=hi;rcases (by omega:i=0\/i=1) with rfl|rfl
  ·exact absurd rfl he
  ·exact .inl ⟨by decide,rfl⟩
 ·have:i+1<3:=hi;rcases (by omega:i=0\/i=1) with rfl|rfl
  ·exact .inl ⟨by decide,rfl⟩
  ·exact .inr ⟨0,rfl,rfl⟩
 ·have:i+1<3:=hi;rcases (by omega:i=0\/i=1) with rfl|rfl
  ·exact .inr ⟨1,rfl,rfl⟩
  ·exact absurd rfl he
theorem CZ{j t:Nat}(hj:j+1<3)(h1:t≠Gw j)(h2:t≠Gw j+1):(A4 (j+1)).getD t 0=(A4 j).getD t 0:=by
 rcases (by omega:j=0\/j=1) with rfl|rfl
 ·match t,h1,h2 with
  | 0,_,_=>rfl
  | 1,h1,_=>exact absurd rfl h1
  | 2,_,h2=>exact absurd rfl h2
  | t+3,_,_=>rfl
 ·match t,h1,h2 with
  | 0,h1,_=>exact absurd rfl h1
  | 1,_,h2=>exact absurd rfl h2
  | 2,_,_=>rfl
  | t+3,_,_=>rfl
theorem Cz:Line4 3 0 A4 Gw Ln LW:=by
 refine⟨GS,Ks,λj hj=>?_,λj hj=>?_,λj hj h0=>?_,λj hj h0=>by omega⟩
 ·refine⟨?_,?_,?_,?_,?_,?_,λt h1 h2=>⟨CZ hj h1 h2,?_⟩⟩
  rotate_left 6
  ·rcases (by omega:j=0\/j=1) with rfl|rfl
   ·exact u4 h1 h2
   ·exact u4 h1 h2
  all_goals rcases (by omega:j=0\/j=1) with rfl|rfl <;> decide
 ·rcases (by omega:j=0\/j=1) with rfl|rfl <;> exact⟨⟨by decide,by decide⟩,⟨by decide,by decide⟩,⟨by decide,by decide,by decide,by decide⟩⟩
 ·rcases (by omega:j=0\/j=1) with rfl|rfl <;> exact⟨⟨by decide,by decide⟩,⟨by decide,by decide⟩,⟨by decide,by decide⟩,⟨by decide,by decide⟩⟩
theorem Cy:Line4 3 1 A4 Gw Lm LV:=by
 refine⟨GS,Ks,λj hj=>?_,λj hj=>?_,λj hj h0=>?_,λj hj h0=>?_⟩
 ·refine⟨?_,?_,?_,?_,?_,?_,λt h1 h2=>⟨CZ hj h1 h2,?_⟩⟩
  rotate_left 6
  ·rcases (by omega:j=0\/j=1) with rfl|rfl
   ·exact (u4 h1 h2).symm
   ·exact u4 h1 h2
  all_goals rcases (by omega:j=0\/j=1) with rfl|rfl <;> decide
 ·rcases (by omega:j=0\/j=1) with rfl|rfl <;> exact⟨⟨by decide,by decide⟩,⟨by decide,by decide⟩,⟨by decide,by decide,by decide,by decide⟩⟩
 ·have e:j=1:=by omega
  subst e;exact⟨⟨by decide,by decide⟩,⟨by decide,by decide⟩,⟨by decide,by decide⟩,⟨by decide,by decide⟩⟩
 ·have e:j=0:=by omega
  subst e;exact⟨⟨by decide,by decide⟩,⟨by decide,by decide⟩,⟨by decide,by decide⟩,⟨by decide,by decide⟩⟩
theorem Cw:Line4 3 2 A4 Gw Ll LU:=by
 refine⟨GS,Ks,λj hj=>?_,λj hj=>?_,λj hj h0=>by omega,λj hj h0=>?_⟩
 ·refine⟨?_,?_,?_,?_,?_,?_,λt h1 h2=>⟨CZ hj h1 h2,?_⟩⟩
  rotate_left 6
  ·rcases (by omega:j=0\/j=1) with rfl|rfl
   ·exact (u4 h1 h2).symm
   ·exact (u4 h1 h2).symm
  all_goals rcases (by omega:j=0\/j=1) with rfl|rfl <;> decide
 ·rcases (by omega:j=0\/j=1) with rfl|rfl <;> exact⟨⟨by decide,by decide⟩,⟨by decide,by decide⟩,⟨by decide,by decide,by decide,by decide⟩⟩
 ·rcases (by omega:j=0\/j=1) with rfl|rfl <;> exact⟨⟨by decide,by decide⟩,⟨by decide,by decide⟩,⟨by decide,by decide⟩,⟨by decide,by decide⟩⟩
def LX(m k:Nat):Nat->List Nat
 | 0=>[m,k]
 | _+1=>[k,m]
def Lo:Nat->Nat->Nat×Nat
 | 0=>Be
 | _+1=>JF 0 (420000,74000) (106000,6100) Be
theorem Es{m k:Nat}(ne:m≠k)(m2:2<=m)(m6:m<=6)(k2:2<=k)(k6:k<=6)(mk:m*k<=12):Line4 2 0 (LX m k) (λ_=>0) Lo λ_=>(2066,1065,1198):=by
 refine⟨λj hj=>?_,λj i hj hi he=>?_,λj hj=>?_,λj hj=>?_,λj hj h0=>?_,λj hj h0=>by omega⟩
 ·rcases (by omega:j=0\/j=1) with rfl|rfl
  ·refine⟨af _,by show 2<=3;decide,λi hi=>?_⟩;match i,hi with
   | 0,_=>exact⟨m2,m6⟩
   | 1,_=>exact⟨k2,k6⟩
  ·refine⟨af _,by show 2<=3;decide,λi hi=>?_⟩;match i,hi with
   | 0,_=>exact⟨k2,k6⟩
   | 1,_=>exact⟨m2,m6⟩
 ·rcases (by omega:j=0\/j=1) with rfl|rfl
  ·have:i+1<2:=hi;exact .inl ⟨by decide,by omega⟩
  ·have:i+1<2:=hi;exact .inr ⟨0,rfl,by omega⟩
 ·have e1:j=0:=by omega
  subst e1;refine⟨by show 0+1<2;decide,ne,mk,rfl,rfl,rfl,λt h1 h2=>?_⟩;refine⟨?_,u4 h1 h2⟩;match t,h1,h2 with
  | t+2,_,_=>rfl
 ·have e1:j=0:=by omega
  subst e1;refine⟨⟨by decide,by decide⟩,⟨by decide,by decide⟩,?_⟩;show 2066+(1198+8)*(m*k)<=300000/\1065<=1000000/\1198<=27000/\(1198+8)*(m*k-1) / 2<=26000;generalize m*k=n at *;exact⟨by omega,by decide,by decide,by omega⟩
 ·have e1:j=0:=by omega
  subst e1;show Dy (IO m (133,133) (133,133)) (2066,1065)/\JL 0 133 (2066,1065,1198)/\Dy (tB 2066 1065 1198 k m,zB 1065 1198 k m) (420000,74000)/\Dy (hT (2066,1065,1198) k m,bU 1198 k m) (106000,6100);have hm:m=2\/m=3\/m=4\/m=5\/m=6:=by omega
  have hk:k=2\/k=3\/k=4\/k=5\/k=6:=by omega
  rcases hm with rfl|rfl|rfl|rfl|rfl <;> rcases hk with rfl|rfl|rfl|rfl|rfl <;> first|(exfalso;omega)|exact⟨⟨by decide,by decide⟩,⟨by decide,by decide⟩,⟨by decide,by decide⟩,⟨by decide,by decide⟩⟩
theorem AO{l:List Nat}(h:Dgs l):∃ n k0 dg pl zz eb,Line4 n k0 dg pl zz eb/\k0<n/\n<=3/\dg k0=l/\∀ i,zz k0 i=(133,133):=by
 rcases h with⟨m,k,rfl,m2,m6,k2,k6,mk⟩|rfl|rfl|rfl|rfl
 ·by_cases e:m=k
  ·subst e;exact⟨1,0,_,_,_,_,zJ (.inl ⟨m,rfl,m2,m6⟩),by decide,by decide,rfl,λi=>rfl⟩
  ·exact⟨2,0,_,_,_,_,Es e m2 m6 k2 k6 mk,by decide,by decide,rfl,λi=>rfl⟩
 ·exact⟨1,0,_,_,_,_,zJ (.inr rfl),by decide,by decide,rfl,λi=>rfl⟩
 ·exact⟨3,1,_,_,_,_,Cy,by decide,by decide,rfl,λi=>rfl⟩
 ·exact⟨3,0,_,_,_,_,Cz,by decide,by decide,rfl,λi=>rfl⟩
 ·exact⟨3,2,_,_,_,_,Cw,by decide,by decide,rfl,λi=>rfl⟩
end Dp
namespace Dp
open PySem L2 Ch
section
variable{n k0:Nat}{dg:Nat->List Nat}{pl:Nat->Nat}{zz:Nat->Nat->Nat×Nat}{eb:Nat->E3}{S:Nat->List Pl}{lo hi:Nat}
theorem HW(P:Line4 n k0 dg pl zz eb)(w:Wk4 k0 dg pl zz eb n S lo hi){k i:Nat}(k1:lo<=k)(k2:k<=hi)(hi':i+1<(dg k).length){Q:D->Prop}(qN:((dg k).getD i 0=(dg k).getD (i+1) 0\/∀ e' L',¬ Xr i ((dg k).getD i 0) ((dg k).getD (i+1) 0) e' (S k) L')->Q .non)(qY:∀ S' lo' hi' k' e,Wk4 k0 dg pl zz eb n S' lo' hi'->lo'<=k'->k'<=hi'->S' k0=S k0->(dg k).getD i 0≠(dg k).getD (i+1) 0->Xr i ((dg k).getD i 0) ((dg k).getD (i+1) 0) e (S k) (S' k')->Q (cD (S' k'))):[cD (S k),.int (i:Nat)].length=g6.n/\g6.run [cD (S k),.int (i:Nat)] Q:=by
 have hc:=w.c;have ha:=w.a;have hb:=w.b;obtain⟨l1,l2,l3⟩:=P.hlen k (by omega);have d1:=l3 i (by omega);have d2:=l3 (i+1) hi';by_cases ee:(dg k).getD i 0=(dg k).getD (i+1) 0
 ·exact sD (e:=(0,0,0)) (w.st k k1 k2) hi' l2 rfl rfl d1.1 d1.2 d2.1 d2.2 (λh=>absurd ee h) (λh=>qN (.inl h)) (λh=>absurd ee h) (λh=>absurd ee h)
 ·rcases P.hnb k i (by omega) hi' ee with⟨kn,rfl⟩|⟨j,rfl,rfl⟩
  ·rcases ar k hi with y|y
   ·exact IZ P w k1 y (qY S lo hi (k+1) (_,_) w (by omega) y rfl ee (w.ed k k1 y).xr)
   ·have ek:k=hi:=by omega
    subst ek;obtain⟨p1,p2,p3,p4,p5,p6,p7⟩:=P.hpl k kn;obtain⟨o1,o2,o3⟩:=P.hok k kn;obtain⟨r1,r0,r2,r3⟩:=P.hrt k kn hb;have s:=w.st k k1 k2;have la:=s.dg (pl k) (by omega);have lb:=s.dg (pl k+1) p1;refine sD (e:=eb k) s p1 l2 rfl rfl d1.1 d1.2 d2.1 d2.2 (λ_=>⟨p3,o1,by rw [aT];exact o3,λf o=>IP s p1 rfl rfl d1 d2 o r1 r0⟩) (λh=>absurd h p2) (λ_ h=>qN (.inr h)) λ_ L' x zg zh=>?_;have s':Stt L' (dg (k+1)) (zz (k+1)):=x.xr.st (by omega) (by omega) s p1 p4 p5 p6 p7 (zg.mono r2.1 r2.2) (zh.mono r3.1 r3.2);obtain⟨S',e1,e2⟩:∃ S':Nat->List Pl,S' (k+1)=L'/\∀ j,j≠k+1->S' j=S j:=⟨λj=>if j=k+1 then L' else S j,if_pos rfl,λj h=>if_neg h⟩;have:=qY S' lo (k+1) (k+1) (_,_) ⟨ha,by omega,kn,λj j1 j2=>?_,λj j1 j2=>?_⟩ (by omega) (af _) (e2 k0 (by omega)) ee (by rw [e1];exact x.xr)
    ·rw [e1] at this;exact this
    ·by_cases ej:j=k+1
     ·subst ej;rw [e1];exact s'
     ·rw [e2 j ej];exact w.st j j1 (by omega)
    ·by_cases ej:j=k
     ·subst ej;rw [e1,e2 j (by omega)];exact x
     ·rw [e2 j (by omega),e2 (j+1) (by omega)];exact w.ed j j1 (by omega)
  ·rcases ar j lo with y|y
   ·have ek:lo=j+1:=by omega
    subst ek;have kn:j+1<n:=by omega
    obtain⟨p1,p2,p3,p4,p5,p6,p7⟩:=P.hpl j kn;obtain⟨o1,o2,o3⟩:=P.hok j kn;obtain⟨r1,r0,r2,r3⟩:=P.hlf j kn (by omega);have s:=w.st (j+1) k1 k2;rw [p5] at d1;rw [p6] at d2;have la:=s.dg (pl j) (by omega);have lb:=s.dg (pl j+1) (by omega);rw [p5] at la;refine sD (e:=eb j) s hi' l2 p5 p6 d1.1 d1.2 d2.1 d2.2 (λ_=>⟨by rw [aT];exact p3,o2,o3,λf o=>IP s hi' p5 p6 d1 d2 o r1 r0⟩) (λh=>absurd h.symm p2) (λ_ h=>qN (.inr (by rw [p5,p6];exact h))) λ_ L' x zg zh=>?_;have s':Stt L' (dg j) (zz j):=x.xr.st (by omega) (by omega) s hi' p4.symm rfl rfl (λt h1 h2=>⟨(p7 t h1 h2).1.symm,(p7 t h1 h2).2.symm⟩) (zg.mono r2.1 r2.2) (zh.mono r3.1 r3.2);obtain⟨S',e1,e2⟩:∃ S':Nat->List Pl,S' j=L'/\∀ t,t≠j->S' t=S t:=⟨λt=>if t=j then L' else S t,if_pos rfl,λt h=>if_neg h⟩;have:=qY S' j hi j (_,_) ⟨by omega,hb,hc,λt j1 j2=>?_,λt j1 j2=>?_⟩ (af _) (by omega) (e2 k0 (by omega)) ee (by rw [e1,p5,p6];exact x.xr)
    ·rw [e1] at this;exact this
    ·by_cases ej:t=j
     ·subst ej;rw [e1];exact s'
     ·rw [e2 t ej];exact w.st t (by omega) j2
    ·by_cases ej:t=j
     ·subst ej;rw [e1,e2 (t+1) (by omega)];exact x.symm
     ·rw [e2 t ej,e2 (t+1) (by omega)];exact w.ed t (by omega) j2
   ·exact I0 P w y (by omega) (qY S lo hi j (_,_) w y (by omega) rfl ee (by obtain⟨p1,p2,p3,p4,p5,p6,p7⟩:=P.hpl j (by omega);rw [p5,p6];exact (w.ed j y (by omega)).symm.xr))
end
end Dp
namespace Dp
open PySem L2 Ch
def Ab(L:List Pl)(i:Nat):Nat:=(L.getD i p0).1.length-1
def Nx(L:List Pl)(i:Nat)(L':List Pl):Prop:=1<=Ab L i/\1<=Ab L (i+1)/\Ab L i≠Ab L (i+1)/\∃ e,Xr i (Ab L i) (Ab L (i+1)) e L L'
theorem Nx.uniq{L M M':List Pl}{i:Nat}(h:Nx L i M)(h':Nx L i M'):M=M':=by
 obtain⟨a,b,_,e,x⟩:=h;obtain⟨_,_,_,e',x'⟩:=h';exact x.uniq a b x'
theorem Nx.back{L M:List Pl}{i:Nat}(h:Nx L i M):Nx M i L:=by
 obtain⟨a,b,c,e,x⟩:=h;have y:=x.symm;obtain⟨u,a',b',v,f,g,h,rfl,hu,rfl,z,lf,n1,n2⟩:=x;subst hu;have lg:=n2.lg b a z.fm lf;have lh:=n2.lh;have d1:Ab (u++g::h::v) u.length=Ab (u++a'::b'::v) (u.length+1):=by
  show ((u++g::h::v).getD u.length p0).1.length-1=_;rw [(xH (u:=u) (v:=v) (a:=g) (b:=h)).1,lg];omega
 have d2:Ab (u++g::h::v) (u.length+1)=Ab (u++a'::b'::v) u.length:=by
  show ((u++g::h::v).getD (u.length+1) p0).1.length-1=_;rw [(xH (u:=u) (v:=v) (a:=g) (b:=h)).2,lh];omega
 refine⟨by rw [d1];exact b,by rw [d2];exact a,by rw [d1,d2];exact λe=>c e.symm,e,?_⟩;rw [d1,d2];exact y
def On(L:List Pl)(i:Nat)(o:Option (List Pl)):Prop:=(o=none/\∀ L',¬ Nx L i L')\/∃ L',o=some L'/\Nx L i L'
theorem On.uniq{L:List Pl}{i:Nat}{o o':Option (List Pl)}(h:On L i o)(h':On L i o'):o=o':=by
 rcases h with⟨rfl,h⟩|⟨M,rfl,h⟩ <;> rcases h' with⟨rfl,h'⟩|⟨M',rfl,h'⟩
 ·rfl
 ·exact absurd h' (h _)
 ·exact absurd h (h' _)
 ·rw [h.uniq h']
inductive Wl:List Pl->List Nat->Option (List Pl)->Prop
 | nil (L):Wl L [] (some L)
 | stop {L i r} (h:On L i none):Wl L (i::r) none
 | step {L i r M o} (h:On L i (some M)) (t:Wl M r o):Wl L (i::r) o
theorem Wl.uniq{L:List Pl}{ps:List Nat}{o o':Option (List Pl)}(h:Wl L ps o)(h':Wl L ps o'):o=o':=by
 induction h with
 | nil L=>cases h';rfl
 | stop h=>cases h' with
  | stop g=>rfl
  | step g t=>exact absurd (h.uniq g) (by simp)
 | step h t ih=>cases h' with
  | stop g=>exact absurd (h.uniq g) (by simp)
  | step g t' =>
   have:=h.uniq g;cases this;exact ih t'
theorem Wl.snoc{L M:List Pl}{ps:List Nat}{i:Nat}{o:Option (List Pl)}(h:Wl L ps (some M))(g:On M i o):Wl L (ps++[i]) o:=by
 generalize hm:some M=m at h;induction h with
 | nil L =>
  cases hm;cases o with
  | none=>exact .stop g
  | some N=>exact .step g (.nil N)
 | stop h=>cases hm
 | step h t ih=>exact .step h (ih hm)
theorem Wl.stay{L:List Pl}{ps:List Nat}{i:Nat}(h:Wl L ps none):Wl L (ps++[i]) none:=by
 generalize hm:(none:Option (List Pl))=m at h;induction h with
 | nil L=>cases hm
 | stop h=>exact .stop h
 | step h t ih=>exact .step h (ih hm)
theorem Wl.back{L M:List Pl}{ps:List Nat}(h:Wl L ps (some M)):Wl M ps.reverse (some L):=by
 generalize hm:some M=m at h;induction h with
 | nil L=>cases hm;exact .nil _
 | stop h=>cases hm
 | step h t ih =>
  rw [cY];refine (ih hm).snoc ?_;rcases h with⟨h,_⟩|⟨N,e,h⟩
  ·cases h
  ·cases e;exact .inr ⟨_,rfl,h.back⟩
def At(L0 L:List Pl):Prop:=∃ n k0 dg pl zz eb S lo hi k,Line4 n k0 dg pl zz eb/\Wk4 k0 dg pl zz eb n S lo hi/\lo<=k/\k<=hi/\S k0=L0/\S k=L
def oD:Option (List Pl)->D
 | none=>.non
 | some L=>cD L
theorem Am{L0 L:List Pl}{i:Nat}(h:At L0 L)(hi':i+1<L.length){Q:D->Prop}(q:∀ o,On L i o->(∀ L',o=some L'->At L0 L')->Q (oD o)):[cD L,.int (i:Nat)].length=g6.n/\g6.run [cD L,.int (i:Nat)] Q:=by
 obtain⟨n,k0,dg,pl,zz,eb,S,lo,hi,k,P,w,k1,k2,rfl,rfl⟩:=h;have s:=w.st k k1 k2;have hc:=w.c;have hl:i+1<(dg k).length:=by rw [← s.len];exact hi'
 have e0:Ab (S k) i=(dg k).getD i 0:=by unfold Ab;rw [s.dg i (by omega),aG]
 have e1:Ab (S k) (i+1)=(dg k).getD (i+1) 0:=by unfold Ab;rw [s.dg (i+1) hl,aG]
 have l3:=(P.hlen k (by omega)).2.2;have d0:=(l3 i (by omega)).1;have d1:=(l3 (i+1) hl).1;refine HW P w k1 k2 hl (λh=>?_) (λS' lo' hi' k' e w' a b c ne x=>?_)
 ·refine q none (.inl ⟨rfl,λL' x=>?_⟩) (λ_ h=>by cases h);obtain⟨_,_,ne,e,x⟩:=x;rw [e0,e1] at ne x;rcases h with h|h
  ·exact ne h
  ·exact h _ _ x
 ·refine q (some (S' k')) (.inr ⟨_,rfl,by rw [e0];omega,by rw [e1];omega,by rw [e0,e1];exact ne,e,by rw [e0,e1];exact x⟩) (λL' h=>?_);cases h;exact⟨n,k0,dg,pl,zz,eb,S',lo',hi',k',P,w',a,b,c,rfl⟩
end Dp
namespace Dp
open PySem L2 Ch
theorem Wl.stays{L:List Pl}{ps:List Nat}(qs:List Nat)(h:Wl L ps none):Wl L (ps++qs) none:=by
 generalize hm:(none:Option (List Pl))=m at h;induction h with
 | nil L=>cases hm
 | stop h=>exact .stop h
 | step h t ih=>exact .step h (ih hm)
theorem At.len{L0 L:List Pl}(h:At L0 L):L.length=L0.length/\2<=L0.length/\L0.length<=3:=by
 obtain⟨n,k0,dg,pl,zz,eb,S,lo,hi,k,P,w,k1,k2,rfl,rfl⟩:=h;have hc:=w.c;have ha:=w.a;have hb:=w.b;have c:∀ j,j<n->(dg j).length=(dg 0).length:=by
  intro j;induction j with
  | zero=>intro _;rfl
  | succ j ih =>
   intro hj;obtain⟨p1,p2,p3,p4,_⟩:=P.hpl j hj;rw [p4,ih (by omega)]
 have s:=(w.st k k1 k2).len;have s0:=(w.st k0 ha hb).len;have h1:=c k (by omega);have h2:=c k0 (by omega);obtain⟨l1,l2,_⟩:=P.hlen k0 (by omega);exact⟨by omega,by omega,by omega⟩
def DE(b:Bool)(ps:List Nat):D:=if b then .tup (ps.map λn:Nat=>.int n) else .lst (ps.map λn:Nat=>.int n)
def iM:SpB:=.of 2 (α:=List Pl×List Pl×List Nat×Bool) (λ(L0,L,ps,b) ds=>ds=[cD L,DE b ps]/\(ps≠[]->At L0 L)/\(∀ i∈ps,i+1<L0.length)/\ps.length<=10) (λ(L0,L,ps,b) d=>∃ o,d=oD o/\Wl L ps o/\(At L0 L->∀ L',o=some L'->At L0 L'))
def qr:TSd:=(hJ [] (gQ 0))
def qB:TSd:=dSq (iA [] (iG (gQ 1)) (gNm 2)
 (dSq (gV [] (gNm 0) (gS g6 (gP (gQ 0) (gP (gQ 2) gR))))
 (dIf [] (g9 (il .Is (gQ 0) (dC .non)))
 (hJ [] (dC .non))
 ii)))
 qr
theorem pV:Does 3 qB iM:=by
 rintro ds Q hn ⟨⟨L0,L,ps,b⟩,⟨rfl,hA,hp,h10⟩,q⟩;dsimp only at hA hp h10 q;have step:∀(i:Nat) (d:D),(ps.map λn:Nat=>D.int (n:Int))[i]? = some d->∃ h:i<ps.length,d = .int (ps[i]:Nat):=λi d h=>by
  rw [aJ] at h;obtain⟨x,hx,rfl⟩:=ab.mp h;obtain⟨h1,rfl⟩:=aj.mp hx;exact⟨h1,rfl⟩
 have lm:(ps.map λn:Nat=>D.int (n:Int)).length=ps.length:=aa _;cases b;all_goals
  refine⟨λi st=>∃(M:List Pl) (o:SD),st=[.val (cD M),.val (DE _ ps),o]/\Wl L (ps.take i) (some M)/\(At L0 L->At L0 M),⟨L,.no,rfl,.nil L,λh=>h⟩,?_,?_⟩
  ·rintro i d _ hd ⟨M,o,rfl,hw,ha⟩;obtain⟨hi,rfl⟩:=step i d hd;have a0:At L0 L:=hA (by rintro rfl;exact absurd hi (bO _));have tk:ps.take (i+1)=ps.take i++[ps[i]]:=cV hi;refine Am (ha a0) (by rw [(ha a0).len.1];exact hp _ (c7 hi)) λoo hO hAt=>?_;cases oo with
   | none =>
    refine q _ ⟨none,rfl,?_,λ_ _ h=>by cases h⟩;have z:=(hw.snoc hO).stays (ps.drop (i+1));rw [← tk,d9] at z;exact z
   | some N =>
    refine⟨N,_,rfl,?_,λ_=>hAt N rfl⟩;rw [tk];exact hw.snoc hO
  ·rintro _ ⟨M,o,rfl,hw,ha⟩;have hw:Wl L (ps.take (ps.map λn:Nat=>D.int (n:Int)).length) (some M):=hw;rw [lm,bF] at hw;exact q _ ⟨some M,rfl,hw,λh L' e=>by cases e;exact ha h⟩
end Dp
namespace Dp
open PySem L2 Ch
abbrev HS:EndsD:=⟨λ_=>False,λd=>d = .bl true,λ_=>False,λ_=>False⟩
noncomputable section
def pI:TSd:=(hJ [] (dC (.bl true)))
def nj:TSd:=dSq (iA [] (je (dC (.int 2))) (gNm 4)
 (dSq (gV [] (gNm 5) (iz (je (gS gT (gP (gQ 1) (gP (dC (.int 5)) gR)))) [6] (gNm 6) iQ (gS gT (gP (gQ 1) (gP (gU .Sub (dB bLen bLen.mono (gP (gQ 2) gR)) (dC (.int 1))) gR)))))
 (dSq (gV [] (gNm 7) (dB bList bList.mono (gP (gQ 5) gR)))
 (dSq (gV [] (gNm 8) (gQ 2))
 (dSq (iA [] (iG (gQ 5)) (gNm 9)
 (dIf [] (g9 (il .IsNot (gQ 8) (dC .non)))
 (gV [] (gNm 8) (gS g6 (gP (gQ 8) (gP (gQ 9) gR))))
 ii))
 (dSq (gV [] (gNm 10) (dIx (ir (gP (gQ 5) (gP (dB bTuple bTuple.mono (gP (gQ 5) gR)) gR))) (gS gT (gP (gQ 1) (gP (dC (.int 2)) gR)))))
 (dSq (gV [] (gNm 11) (gS iM (gP (gQ 2) (gP (gQ 10) gR))))
 (dSq (dIf [] (iL (g9 (il .Is (gQ 8) (dC .non))) (g9 (il .IsNot (gQ 11) (dC .non))))
 (hJ [] (dC (.bl false)))
 ii)
 (dSq (dIf [] (iL (g9 (il .IsNot (gQ 8) (dC .non))) (ju (kb (gS (iy 4) (gP (gQ 11) (gP (gQ 8) gR))))))
 (hJ [] (dC (.bl false)))
 ii)
 (dSq (dIf [] (iL (g9 (il .IsNot (gQ 8) (dC .non))) (g9 (il .NotEq (gS iM (gP (gQ 11) (gP (jw (gQ 7)) gR))) (gQ 2))))
 (hJ [] (dC (.bl false)))
 ii)
 (dIf [] (g9 (il .NotEq (gQ 5) (gQ 7)))
 (hJ [] (dC (.bl false)))
 ii)))))))))))
 pI
def nk:TSd:=dSq (dIf [] (mJ (g9 (il .NotEq (gS iM (gP (gQ 3) (gP (ir gR) gR))) (gQ 3))) (g9 (il .NotEq (gS iM (gP (gQ 3) (gP (g7 gR) gR))) (gQ 3))))
 (hJ [] (dC (.bl false)))
 ii)
 nj
def nq:TSd:=dSq (gV [] (gNm 3) (g7 (gP (gS hX (gP (gQ 1) (gP (gU .Add (dC (.int 2)) (gS gT (gP (gQ 1) (gP (dC (.int 6)) gR)))) (gP (dC (.int 4)) gR)))) gR)))
 nk
def nr:TSd:=dSq (dIf [] (mJ (g9 (il .NotEq (gS iM (gP (gQ 2) (gP (ir gR) gR))) (gQ 2))) (g9 (il .NotEq (gS iM (gP (gQ 2) (gP (g7 gR) gR))) (gQ 2))))
 (hJ [] (dC (.bl false)))
 ii)
 nq
def nv:TSd:=dSq (dIf [] (ju (kb (gS kY (gP (gQ 2) gR))))
 (hJ [] (dC (.bl true)))
 ii)
 nr
def qt:TSd:=dSq (gV [] (gNm 2) (gS i9 (gP (gQ 1) (gP (dC (.int 3)) gR))))
 nv
end
theorem ua(L:List Pl)(b:Bool){Q:D->Prop}(q:Q (cD L)):[cD L,DE b []].length=iM.n/\iM.run [cD L,DE b []] Q:=by
 refine⟨rfl,(L,L,[],b),⟨rfl,λh=>absurd rfl h,λ_ h=>absurd h aK,by decide⟩,?_⟩;rintro _ ⟨o,rfl,w,_⟩;cases w;exact q
noncomputable section
def oU:TSd:=(dSq (gV [] (gNm 7) (dB bList bList.mono (gP (gQ 5) gR)))
 (dSq (gV [] (gNm 8) (gQ 2))
 (dSq (iA [] (iG (gQ 5)) (gNm 9)
 (dIf [] (g9 (il .IsNot (gQ 8) (dC .non)))
 (gV [] (gNm 8) (gS g6 (gP (gQ 8) (gP (gQ 9) gR))))
 ii))
 (dSq (gV [] (gNm 10) (dIx (ir (gP (gQ 5) (gP (dB bTuple bTuple.mono (gP (gQ 5) gR)) gR))) (gS gT (gP (gQ 1) (gP (dC (.int 2)) gR)))))
 (dSq (gV [] (gNm 11) (gS iM (gP (gQ 2) (gP (gQ 10) gR))))
 (dSq (dIf [] (iL (g9 (il .Is (gQ 8) (dC .non))) (g9 (il .IsNot (gQ 11) (dC .non))))
 (hJ [] (dC (.bl false)))
 ii)
 (dSq (dIf [] (iL (g9 (il .IsNot (gQ 8) (dC .non))) (ju (kb (gS (iy 4) (gP (gQ 11) (gP (gQ 8) gR))))))
 (hJ [] (dC (.bl false)))
 ii)
 (dSq (dIf [] (iL (g9 (il .IsNot (gQ 8) (dC .non))) (g9 (il .NotEq (gS iM (gP (gQ 11) (gP (jw (gQ 7)) gR))) (gQ 2))))
 (hJ [] (dC (.bl false)))
 ii)
 (dIf [] (g9 (il .NotEq (gQ 5) (gQ 7)))
 (hJ [] (dC (.bl false)))
 ii)))))))))
end
theorem At.small{L0 L:List Pl}(h:At L0 L):∀ c∈L,c.1.length<=13:=by
 obtain⟨n,k0,dg,pl,zz,eb,S,lo,hi,k,P,w,k1,k2,rfl,rfl⟩:=h;intro c hc;have hc':=w.c;have s:=w.st k k1 k2;obtain⟨i,hi⟩:=bA.mp hc;have hi':=(aj.mp hi).1;have e:=s.dg i (by rw [← s.len];exact hi');rw [rf hi] at e;have:=((P.hlen k (by omega)).2.2 i (by rw [← s.len];exact hi')).2;omega
theorem At.wd{L0 L:List Pl}(h:At L0 L):(cD L).dv.wd<=100000:=by
 have h1:=FG h.small;have h2:=Hn L;have h3:=h.len;show max (D.dvs (L.map pq)).length (DV.wds (D.dvs (L.map pq)))<=100000;omega
theorem Hq(L:List Pl):(cD L).dp<4:=Nat.lt_succ_of_le (Nat.succ_le_succ (v9 L))
noncomputable section
def oV:TSd:=(dSq (gV [] (gNm 11) (gS iM (gP (gQ 2) (gP (gQ 10) gR))))
 (dSq (dIf [] (iL (g9 (il .Is (gQ 8) (dC .non))) (g9 (il .IsNot (gQ 11) (dC .non))))
 (hJ [] (dC (.bl false)))
 ii)
 (dSq (dIf [] (iL (g9 (il .IsNot (gQ 8) (dC .non))) (ju (kb (gS (iy 4) (gP (gQ 11) (gP (gQ 8) gR))))))
 (hJ [] (dC (.bl false)))
 ii)
 (dSq (dIf [] (iL (g9 (il .IsNot (gQ 8) (dC .non))) (g9 (il .NotEq (gS iM (gP (gQ 11) (gP (jw (gQ 7)) gR))) (gQ 2))))
 (hJ [] (dC (.bl false)))
 ii)
 (dIf [] (g9 (il .NotEq (gQ 5) (gQ 7)))
 (hJ [] (dC (.bl false)))
 ii)))))
end
theorem Fo{es:List Pl}(a:At es es){ps:List Nat}(hp:∀ i∈ps,i+1<es.length)(h10:ps.length<=10){o:Option (List Pl)}(hw:Wl es ps o)(hA:∀ L',o=some L'->At es L'){E:EndsD}{e:Pl}{o4 o6 o9 o11:SD}(b:Bool)(q:∀ o5 o6 o7 o8 o9 o10 o11,E.nx [.no,.val .fl,.val (cD es),.val (cD [e]),o4,o5,o6,o7,o8,o9,o10,o11]):oV.run E [.no,.val .fl,.val (cD es),.val (cD [e]),o4,.val (DE false ps),o6,.val (DE false ps),.val (oD o),o9,.val (DE b ps),o11]:=by
 have pp:D.pls (ps.map λn:Nat=>D.int (n:Int))=true:=D2 ps;have pd:D.dps (ps.map λn:Nat=>D.int (n:Int))<=60:=by
  rw [EK];decide
 refine⟨rfl,(es,es,ps,b),⟨rfl,λ_=>a,hp,h10⟩,?_⟩;rintro _ ⟨o',rfl,w',hA'⟩;have eo:=w'.uniq hw;subst eo;cases o' with
 | none =>
  refine⟨rfl,pp,pp,pd,λk hk=>?_⟩;rw [hk.mpr rfl];exact q _ _ _ _ _ _ _
 | some M =>
  refine⟨rfl,cD M,⟨rfl,tx M,Hq M,(hA M rfl).wd⟩,?_⟩;rintro _ rfl;refine⟨_,rfl,?_⟩;refine⟨rfl,(es,M,ps.reverse,false),⟨?_,λ_=>hA M rfl,λi hi=>hp i (List.mem_reverse.mp hi),by show ps.reverse.length<=10;rw [aN];exact h10⟩,?_⟩
  ·show [cD M,D.lst _]=[cD M,D.lst (ps.reverse.map _)];rw [dR]
  rintro _ ⟨o'',rfl,w2,_⟩;have e2:=w2.uniq hw.back;subst e2;refine⟨tx es,tx es,aC (v9 es) (by decide),λk hk=>?_⟩;rw [hk.mpr rfl];refine⟨rfl,pp,pp,pd,λk hk=>?_⟩;rw [hk.mpr rfl];exact q _ _ _ _ _ _ _
theorem IS{es:List Pl}(a:At es es){ps:List Nat}(hp:∀ i∈ps,i+1<es.length)(h10:ps.length<=10){E:EndsD}{e:Pl}{o4 o6 o7 o8 o9 o10 o11:SD}(q:∀ o5 o6 o7 o8 o9 o10 o11,E.nx [.no,.val .fl,.val (cD es),.val (cD [e]),o4,o5,o6,o7,o8,o9,o10,o11]):oU.run E [.no,.val .fl,.val (cD es),.val (cD [e]),o4,.val (DE false ps),o6,o7,o8,o9,o10,o11]:=by
 have lm:(ps.map λn:Nat=>D.int (n:Int)).length=ps.length:=aa _;refine⟨λi st=>∃(o:Option (List Pl)) (o9:SD),st=[.no,.val .fl,.val (cD es),.val (cD [e]),o4,.val (DE false ps),o6,.val (DE false ps),.val (oD o),o9,o10,o11]/\Wl es (ps.take i) o/\∀ L',o=some L'->At es L',⟨some es,o9,rfl,.nil es,λL' h=>by cases h;exact a⟩,?_,?_⟩
 ·rintro i d _ hd ⟨o,o9,rfl,hw,hA⟩;have hd:(ps.map λn:Nat=>D.int (n:Int))[i]? = some d:=hd;rw [aJ] at hd;obtain⟨x,hx,rfl⟩:=ab.mp hd;obtain⟨hi,rfl⟩:=aj.mp hx;have tk:ps.take (i+1)=ps.take i++[ps[i]]:=cV hi;cases o with
  | none=>exact⟨none,_,rfl,by rw [tk];exact hw.stay,λ_ h=>by cases h⟩
  | some M =>
   have aM:=hA M rfl;refine Am aM (by rw [aM.len.1];exact hp _ (c7 hi)) λoo hO hAt=>?_;exact⟨oo,_,rfl,by rw [tk];exact hw.snoc hO,hAt⟩
 ·rintro _ ⟨o,o9,rfl,hw,hA⟩;have hw:Wl es (ps.take (ps.map λn:Nat=>D.int (n:Int)).length) o:=hw;rw [lm,bF] at hw;refine⟨rJ,rfl,2,⟨rfl,by decide,vV (by decide)⟩,?_⟩;rintro _ ⟨i,rfl,i0,i1⟩;refine vf i0 (by exact i1) λd hd=>?_;simp only [am,aK,or_false] at hd;rcases hd with rfl|rfl
  ·exact Fo a hp h10 hw hA false q
  ·exact Fo a hp h10 hw hA true q
theorem IT{es:List Pl}(a:At es es)(e:Pl):nj.run HS [.no,.val .fl,.val (cD es),.val (cD [e]),.no,.no,.no,.no,.no,.no,.no,.no]:=by
 obtain⟨_,l2,l3⟩:=a.len;refine⟨by omega,by omega,λi st=>∃ o4 o5 o6 o7 o8 o9 o10 o11:SD,st=[.no,.val .fl,.val (cD es),.val (cD [e]),o4,o5,o6,o7,o8,o9,o10,o11],⟨_,_,_,_,_,_,_,_,rfl⟩,?_,?_⟩
 ·rintro i d _ hd ⟨o4,o5,o6,o7,o8,o9,o10,o11,rfl⟩;refine⟨rfl,5,⟨rfl,by decide,vV (by decide)⟩,?_⟩;rintro _ ⟨m,rfl,m0,m1⟩;obtain⟨c,rfl⟩:=bD m0;have lu:(sA 0 ((c:Int)).toNat).length=c:=by rw [qQ,aS]
  refine⟨by omega,by omega,(congrArg (· <= sizeLine) lu).mpr (sE (by omega)),λj ys=>∃ ns:List Nat,ys=ns.map (λn:Nat=>D.int (n:Int))/\ns.length=j/\∀ i∈ns,i+1<es.length,⟨[],rfl,rfl,λ_ h=>absurd h aK⟩,λj d ys hd _ hy=>?_,λys _ hy=>?_⟩
  ·obtain⟨ns,rfl,ln,hn⟩:=hy;have el:(((es.map pq).length:Nat):Int)-1=((es.length-1:Nat):Int):=by rw [aa];omega
   refine⟨rfl,((es.length-1:Nat):Int),⟨congrArg (λz=>[D.fl,.int z]) el,by omega,vV (by omega)⟩,?_⟩;rintro _ ⟨x,rfl,x0,x1⟩;obtain⟨y,rfl⟩:=bD x0;refine⟨ns++[y],by rw [a5];rfl,by rw [aq,ln];rfl,λi hi=>?_⟩;rcases bz.mp hi with h|h
   ·exact hn i h
   ·rw [aW.mp h];omega
  ·obtain⟨ns,rfl,ln,hn⟩:=hy;have ln:ns.length=(sA 0 ((c:Int)).toNat).length:=ln;rw [lu] at ln;exact IS a hn (by omega) λo5' o6' o7' o8' o9' o10' o11'=>⟨_,_,_,_,_,_,_,_,rfl⟩
 ·rintro _ ⟨o4,o5,o6,o7,o8,o9,o10,o11,rfl⟩;exact rfl
theorem Av:qt.run HS (.no :: .val .fl::List.replicate 10 .no):=by
 refine⟨rfl,(),rfl,?_⟩;rintro _ ⟨es,rfl,⟨ne,l,hl,le,hd⟩⟩;show nv.run HS [.no,.val .fl,.val (cD es),.no,.no,.no,.no,.no,.no,.no,.no,.no];obtain⟨a1,a2,a3⟩:=hl.all;have mem:∀ c∈es,3<=c.1.length/\c.1.length<=7:=λc hc=>by
  obtain⟨i,hi⟩:=bA.mp hc;have hi':=(aj.mp hi).1;have e:=hd i (by omega);rw [rf hi] at e;have:=a3 i (by omega);omega
 refine⟨rfl,es,⟨rfl,λc hc=>⟨(ne.1 c hc).pos,by have:=mem c hc;omega⟩⟩,?_⟩;rintro _ ⟨c1,rfl,h1⟩;cases c1
 ·exact rfl
 have h1:∀ p∈es,Lt2 133 p.2/\∀ i,Lt2 133 (p.1.getD i 0):=h1 rfl;have pz:∀ c∈es,Pc.Pz 133 133 c.1 c.2:=λc hc=>⟨ne.1 c hc,(h1 c hc).2,(h1 c hc).1⟩;obtain⟨n,k0,dg,pl,zz,eb,P,kn,n3,e0,ez⟩:=AO hl;have s0:Stt es (dg k0) (zz k0):=by
  rw [e0];refine⟨ne,le,hd,λi hi=>?_⟩;rw [ez];have hi':i<es.length:=by omega
  exact pz _ (by rw [ac,ao hi'];exact c7 hi')
 have w0:Wk4 k0 dg pl zz eb n (λ_=>es) k0 k0:=⟨af _,af _,kn,λj h1 h2=>by
  have:j=k0:=by omega
  subst this;exact s0,λj h1 h2=>by omega⟩
 have at0:At es es:=⟨n,k0,dg,pl,zz,eb,λ_=>es,k0,k0,k0,P,w0,af _,af _,rfl,rfl⟩;show nr.run HS [.no,.val .fl,.val (cD es),.no,.no,.no,.no,.no,.no,.no,.no,.no];refine⟨aB _,ua es false ?_⟩;refine⟨tx es,tx es,aC (v9 es) (by decide),λk hk=>?_⟩;rw [hk.mpr rfl];refine⟨aB _,ua es true ?_⟩;refine⟨tx es,tx es,aC (v9 es) (by decide),λk hk=>?_⟩;rw [hk.mpr rfl];show nq.run HS [.no,.val .fl,.val (cD es),.no,.no,.no,.no,.no,.no,.no,.no,.no];refine⟨rfl,6,⟨rfl,by decide,vV (by decide)⟩,?_⟩;rintro _ ⟨m,rfl,m0,m1⟩;obtain⟨y,rfl⟩:=bD m0;refine⟨rfl,(2+y,4,3),⟨?_,by show 2+y<=100;omega,by decide,by unfold Lt2;decide,by decide⟩,?_⟩
 ·show [D.fl,.int (2+(y:Int)),.int 4]=[D.fl,.int ((2+y:Nat):Int),.int ((4:Nat):Int)];rw [show (2:Int)+(y:Int)=((2+y:Nat):Int) by omega];rfl
 rintro _ ⟨P1,B1,rfl,z1,lP⟩;refine⟨Ar,?_⟩;show nk.run HS [.no,.val .fl,.val (cD es),.val (cD [(P1,B1)]),.no,.no,.no,.no,.no,.no,.no,.no];refine⟨aB _,ua [(P1,B1)] false ?_⟩;refine⟨tx [(P1,B1)],tx [(P1,B1)],aC (v9 [(P1,B1)]) (by decide),λk hk=>?_⟩;rw [hk.mpr rfl];refine⟨aB _,ua [(P1,B1)] true ?_⟩;refine⟨tx [(P1,B1)],tx [(P1,B1)],aC (v9 [(P1,B1)]) (by decide),λk hk=>?_⟩;rw [hk.mpr rfl];exact IT at0 (P1,B1)
end Dp
namespace Ds
section
open PySem L2 Dp
variable{X:Cx}
def bTb:List (Str×Bool×String×BB):=[("len",true, "len",⟨bLen,bLen.mono⟩),("abs",true, "abs",⟨bAbs,bAbs.mono⟩),("all",true, "all",⟨bAll,bAll.mono⟩),("sum",true, "sum",⟨bSum,bSum.mono⟩),("max",true, "max",⟨bMax,bMax.mono⟩),("min",true, "min",⟨bMin,bMin.mono⟩),("int",false, "int",⟨bInt,bInt.mono⟩),("list",false, "list",⟨bList,bList.mono⟩),("tuple",false, "tuple",⟨bTuple,bTuple.mono⟩)]
def K9(x:Str):Option (Bool×String×BB):=bTb.lookup x
theorem HA{j:Nat}(hr:Room j X.A)(hc:X.calm=true)(B:Bl X.mg){x:Str}{k:Bool}{id:String}{o:BB}(h:K9 x=some (k,id,o)):X.mg x=none/\x ≠ "__name__" /\ (x == ("__debug__" : Str))=false/\(if k then bootBuiltins x=some (.builtin id)/\RB X (.builtin id) o.run else bootBuiltins x=some (.type id)/\RB X (.type id) o.run):=by
 have m:=rM h;unfold bTb at m;rcases am.mp m with e|m
 ·cases e;exact⟨B.len,by decide,by decide,uD,BI⟩
 rcases am.mp m with e|m
 ·cases e;exact⟨B.abs,by decide,by decide,Hw,Gi⟩
 rcases am.mp m with e|m
 ·cases e;exact⟨B.all,by decide,by decide,Dq,Gh hc⟩
 rcases am.mp m with e|m
 ·cases e;exact⟨B.sum,by decide,by decide,Hr,Gd hc⟩
 rcases am.mp m with e|m
 ·cases e;exact⟨B.max,by decide,by decide,Ht,Gf hc⟩
 rcases am.mp m with e|m
 ·cases e;exact⟨B.min,by decide,by decide,Hs,Ge hc⟩
 rcases am.mp m with e|m
 ·cases e;exact⟨B.int,by decide,by decide,Hu,Gg⟩
 rcases am.mp m with e|m
 ·cases e;exact⟨B.list,by decide,by decide,tK,DS⟩
 rcases am.mp m with e|m
 ·cases e;exact⟨B.tuple,by decide,by decide,uk,BH⟩
 cases m
end
section
open PySem L2 Dp
variable{K:Frag}{f:Addr}{O O':List Addr}{H H':Hp}{X:Cx}{σ:L2.St}{ss:SS}{a b:Expr}{ta tb tc:TEd}{tA tB:TTd}{pos:Pos}{c:Cs}
structure Tc where
 N:List Str
 sc:Scope
 G:List (Str×Nat×SpB)
 gc:List (Str×D)
 k:Nat
 fz:List (Nat×List Nat):=[]
 own:List Nat:=[]
 mu:List Nat:=[]
def Tc.frz(T:Tc)(p:Pos):List Nat:=(T.fz.lookup p.line).getD []
def Ey(x:Str):List Str->Option Nat
 | []=>none
 | y::r=>if x=y then some 0 else (Ey x r).map (· + 1)
theorem wO{x:Str}:∀{N:List Str} {i:Nat},Ey x N=some i->N[i]? = some x
 | [],_,h=>by cases h
 | y::r,i,h=>by
  unfold Ey at h;by_cases e:x=y
  ·rw [if_pos e] at h;cases h;rw [e];rfl
  ·rw [if_neg e] at h;obtain⟨j,h1,rfl⟩:=ab.mp h;rw [cu];exact wO h1
def IU:Option NameKind->Bool
 | some .local=>true|some .cell=>true|some .free=>true|_=>false
def HI(x:Str):Bool:=!(x == ("__debug__" : Str)) && !(x == ("__classdict__" : Str))
def Tc.slot(T:Tc)(x:Str):Option Nat:=if IU (T.sc.names.lookup x) && HI x then Ey x T.N else none
def Tc.isG(T:Tc)(x:Str):Bool:=(T.sc.names.lookup x == some .globalImplicit) && HI x
structure CtxOk (T:Tc)(X:Cx):Prop where
 N:X.N=T.N
 nd:X.N.Nodup
 calm:X.calm=true
 room:Room T.k X.A
 vis:∀ x,IU (T.sc.names.lookup x)=true->FJ X.env.scope x
 gl:∀ x,T.sc.names.lookup x=some .globalImplicit->Gl X x
 loc:∀ x,T.sc.names.lookup x=some .local->X.env.scope.names.lookup x=some .local
 cf:∀ x,(T.sc.names.lookup x=some .cell\/T.sc.names.lookup x=some .free)->(X.env.scope.names.lookup x=some .cell\/X.env.scope.names.lookup x=some .free)
 fn:∀ x j s,(x,j,s)∈T.G->∃ ps,Def X.prog X.w X.K X.mg X.base x j ps (xl X.K s.n s.run)
 gc:∀ x d,(x,d)∈T.gc->∃ v u,X.mg x=some u/\RelV v u/\∀ f O H,Rp X.K f O H d v
 bl:Bl X.mg
 cel:∀ x,T.sc.names.lookup x=some .cell->X.env.scope.names.lookup x=some .cell/\X.fn x=true
theorem Fk{x:Str}(h:HI x=true):(x == ("__debug__" : Str))=false:=by
 unfold HI at h;rw [au] at h;exact cZ _ |>.mp h.1
theorem IL{x:Str}(h:HI x=true):(x == ("__classdict__" : Str))=false:=by
 unfold HI at h;rw [au] at h;exact cZ _ |>.mp h.2
variable{T:Tc}
theorem CtxOk.var(C:CtxOk T X){x:Str}{i:Nat}{p:Pos}(h:T.slot x=some i):PE X (.Name x p) (t6 i):=by
 unfold Tc.slot at h;split at h
 ·rename_i e;obtain⟨e1,e2⟩:=au.mp e;exact yp (by rw [C.N];exact wO h) (C.vis x e1) (Fk e2) (IL e2)
 ·cases h
theorem CtxOk.slot(C:CtxOk T X){x:Str}{i:Nat}(h:T.slot x=some i):X.N[i]? = some x:=by
 unfold Tc.slot at h;split at h
 ·rw [C.N];exact wO h
 ·cases h
def Bf:Option NameKind->Bool
 | some .local=>true|some .cell=>true|_=>false
theorem CtxOk.tgt(C:CtxOk T X){x:Str}{i:Nat}{p:Pos}(hl:Bf (T.sc.names.lookup x)=true)(hs:T.slot x=some i):PG X (.Name x p) (v5 i):=by
 cases q:T.sc.names.lookup x with
 | none=>rw [q] at hl;cases hl
 | some k =>
  rw [q] at hl;cases k <;> first|(cases hl;done)|skip
  ·exact wE C.nd (C.slot hs) (.inl (C.loc x q)) (.inr (C.loc x q))
  ·exact wE C.nd (C.slot hs) (.inr (C.cel x q).1) (.inl (C.cel x q).2)
theorem CtxOk.isG(C:CtxOk T X){x:Str}(h:T.isG x=true):Gl X x/\(x == ("__debug__" : Str))=false:=by
 obtain⟨e1,e2⟩:=au.mp h;exact⟨C.gl x (eq_of_beq e1),Fk e2⟩
def rq:Expr->Bool
 | .Starred .. => false | .Slice .. => false | .Set .. => false | .SetComp .. => false | .DictComp .. => false
 | _=>true
theorem qU{e:Expr}(h:rq e=true)(es:List Expr)(env:Env):starEach (e::es) env=(false,eval e env)::starEach es env:=by
 cases e <;> first|rfl|cases h
theorem zE{e:Expr}(h:rq e=true):uW e:=by
 cases e <;> first|exact λ_ _=>rfl|cases h
theorem uS{e:Expr}(h:rq e=true)(op:CmpOp):behindInMarks op e=false:=by
 cases e <;> first|rfl|cases h
theorem uy{e:Expr}(h:rq e=true)(env:Env)(x:Value):foldedSetIterable e env x=pure x:=by
 cases e <;> first|rfl|cases h
def r8:Expr->Bool
 | .ListComp .. => true | .SetComp .. => true | .DictComp .. => true
 | _=>false
theorem ux{e:Expr}(h:r8 e=false)(t:Option Expr)(l:Nat)(env:Env):swapsWith e t l env=pure false:=by
 cases e <;> first|rfl|cases h
def FI:Expr->Bool
 | .UnaryOp .Not _ _=>false | .BoolOp .. => false | .IfExp .. => false | .Compare .. => false
 | _=>true
theorem Do{e:Expr}(h:FI e=true)(env:Env)(whole:Sem Value):isTrue e env whole=(do let v ← whole;standAt e.pos;holding [v] (truthy v)):=by
 cases e with
 | UnaryOp op a p=>cases op <;> first|rfl|cases h
 | BoolOp=>cases h
 | IfExp=>cases h
 | Compare=>cases h
 | _=>rfl
def sy(N:List Str)(scope:Scope):List Nat:=(List.range N.length).filter λi=>Bf (scope.names.lookup (N.getD i ""))
def BC(out scope:Scope):Bool:=decide (scope.kind = .function) && scope.names.all (λy=>decide (scope.names.lookup y.1=some y.2)) && scope.names.all (λy=>decide (y.2 ≠ .free) || decide (out.names.lookup y.1=some .cell) || decide (out.names.lookup y.1=some .free))
theorem CtxOk.compS(C:CtxOk T X){scope:Scope}(h:BC T.sc scope=true):CompS X.N X.env.scope scope (sy T.N scope):=by
 unfold BC at h;rw [au,au] at h;obtain⟨⟨h1,h2⟩,h3⟩:=h;have one:∀ y∈scope.names,scope.names.lookup y.1=some y.2:=λy hy=>of_decide_eq_true (cw.mp h2 y hy);refine⟨of_decide_eq_true h1,one,λy hy e=>?_,λy hy e=>e ▸ one y hy,λi hi e=>?_⟩
 ·have:=cw.mp h3 y hy;rw [Bool.or_eq_true,Bool.or_eq_true] at this;rcases this with (w|w)|w
  ·exact absurd e (of_decide_eq_true w)
  ·exact C.cf _ (.inl (of_decide_eq_true w))
  ·exact C.cf _ (.inr (of_decide_eq_true w))
 ·rw [C.N] at hi e;exact bX.mpr ⟨List.mem_range.mpr hi,by rcases e with e|e <;> rw [e] <;> rfl⟩
theorem CtxOk.inner(C:CtxOk T X){scope:Scope}(s2:Shared)(H2:Hp)(fp:List Addr)(pins:List (Addr×Obj))(A:Addr):CtxOk { T with sc:=scope } (tO X scope s2 H2 fp pins A) where
 N:=C.N
 nd:=C.nd
 calm:=C.calm
 room:=C.room
 vis:=λx h=>by
  have e:(tO X scope s2 H2 fp pins A).env.scope.names.lookup x=(scope.names.lookup x).map (t4 X.env x):=uc;have h:IU (scope.names.lookup x)=true:=h;unfold FJ;rw [e];cases q:scope.names.lookup x with
  | none=>rw [q] at h;cases h
  | some k =>
   rw [q] at h;cases k
   ·exact .inl rfl
   ·exact .inr (.inl rfl)
   ·show some (t4 X.env x .free)=_\/some (t4 X.env x .free)=_\/some (t4 X.env x .free)=_;unfold t4;split
    ·exact .inr (.inl rfl)
    ·exact .inr (.inr rfl)
   ·cases h
   ·cases h
 gl:=λx h=>by
  have e:(tO X scope s2 H2 fp pins A).env.scope.names.lookup x=(scope.names.lookup x).map (t4 X.env x):=uc;have h:scope.names.lookup x=some .globalImplicit:=h;unfold Gl Env.kindOf;rw [e,h];rfl
 loc:=λx h=>by
  have e:(tO X scope s2 H2 fp pins A).env.scope.names.lookup x=(scope.names.lookup x).map (t4 X.env x):=uc;have h:scope.names.lookup x=some .local:=h;rw [e,h];rfl
 cf:=λx h=>by
  have e:(tO X scope s2 H2 fp pins A).env.scope.names.lookup x=(scope.names.lookup x).map (t4 X.env x):=uc;have h:scope.names.lookup x=some .cell\/scope.names.lookup x=some .free:=h;rw [e];rcases h with h|h
  ·rw [h];exact .inl rfl
  ·rw [h];show some (t4 X.env x .free)=_\/some (t4 X.env x .free)=_;unfold t4;split
   ·exact .inl rfl
   ·exact .inr rfl
 fn:=C.fn
 gc:=C.gc
 bl:=C.bl
 cel:=λx h=>by
  have e:(tO X scope s2 H2 fp pins A).env.scope.names.lookup x=(scope.names.lookup x).map (t4 X.env x):=uc;have h:scope.names.lookup x=some .cell:=h;refine⟨by rw [e,h];rfl,?_⟩;show (scope.names.lookup x == some .cell)=true;rw [h];rfl
def JW:Const->Option D
 | .int i=>some (.int i) | .bool b=>some (.bl b) | .str x=>some (.str x) | .none=>some .non|_=>none
def Jc(T:Tc)(x:Str):Option D:=T.gc.lookup x
def xo(T:Tc):List Expr->Option (List Nat)
 | []=>some []
 | .Name x _::r=>if Bf (T.sc.names.lookup x)=true then (T.slot x).bind λi=>(xo T r).map (i :: ·) else none
 | _=>none
def JI(T:Tc):Expr->Option TGd
 | .Name x _=>if Bf (T.sc.names.lookup x)=true then (T.slot x).map gNm else none
 | .Tuple es _ _=>(xo T es).map gTp
 | _=>none
def wM(T:Tc)(x:Str)(as:List Expr):Option Nat:=if x = "len" then (match as with
 | [.Name y _]=>(T.slot y).bind λi=>if T.mu.contains i then some i else none
 | _=>none) else none
theorem AR{x:Str}{as:List Expr}{i:Nat}(h:wM T x as=some i):x = "len" /\ ∃ y p,as=[.Name y p]/\T.slot y=some i:=by
 unfold wM at h;split at h
 ·rename_i ex;split at h
  ·rename_i y p;obtain⟨j,h1,h⟩:=ah.mp h;split at h
   ·cases h;exact⟨ex,y,p,rfl,h1⟩
   ·cases h
  ·cases h
 ·cases h
abbrev FE:=Expr->Option TEd
abbrev FT:=Expr->Option TTd
abbrev FA:=List Expr->Option TAd
def two(E:FE)(a b:Expr)(k:TEd->TEd->TEd):Option TEd:=(E a).bind λta=>(E b).map λtb=>k ta tb
def Jp(E:FE)(a:Expr):List CmpOp->List Expr->Option TEd
 | [op],[b]=>if rq b then two E a b (il op) else none
 | [op,op'],[b,c]=>if rq b && rq c then (E a).bind λta=>(E b).bind λtb=>(E c).map λtc=>jo op op' ta tb tc else none
 | _,_=>none
def Jo(E:FE)(a:Expr):List CmpOp->List Expr->Option TTd
 | [op],[b]=>if rq b then (two E a b (il op)).map g9 else none
 | [op,op'],[b,c]=>if rq b && rq c then (E a).bind λta=>(E b).bind λtb=>(E c).map λtc=>g9 (jo op op' ta tb tc) else none
 | _,_=>none
def KS(E:FE)(a:Expr):UnaryOp->Option TEd
 | .USub=>(E a).map jP
 | .Not=>(E a).map pJ
 | _=>none
def K7(E:FE)(p:Pos)(op:BoolOp):List Expr->Option TEd
 | [a]=>E a
 | a::b::r=>(E a).bind λta=>(E (.BoolOp op (b::r) p)).map λtb=>match op with | .And=>pW ta tb | .Or=>dOr ta tb
 | []=>none
def K6(F:FT)(p:Pos)(op:BoolOp):List Expr->Option TTd
 | [a]=>F a
 | a::b::r=>(F a).bind λta=>(F (.BoolOp op (b::r) p)).map λtb=>match op with | .And=>iL ta tb | .Or=>mJ ta tb
 | []=>none
def xy(E:FE):Option Expr->Option TOd
 | none=>some dNo
 | some e=>(E e).map kU
def EC:Expr->Bool
 | .UnaryOp .USub (.Constant (.int i) _ _) _=>i == 1
 | _=>false
def Kq(T:Tc)(x:Str):Option TEd:=match T.slot x with
 | some i=>some (gQ i)
 | none=>if T.isG x then (Jc T x).map dC else none
def Cf(T:Tc):Expr->Option Nat
 | .Name x _=>(T.slot x).bind λi=>if T.mu.contains i then some i else none
 | _=>none
def K0(E:FE)(T:Tc)(a b:Expr):Option TEd:=if rq b then (match Cf T a with
  | some i=>(E b).map (jB i)
  | none=>two E a b dIx) else none
def Ik(E:FE)(T:Tc)(a:Expr):Expr->Option TEd
 | .Slice lo hi st _=>(match st with
  | none=>(E a).bind λta=>(xy E lo).bind λtl=>(xy E hi).map λtu=>dSl ta tl tu
  | some m=>if lo.isNone && hi.isNone && EC m then (E a).map oC else none)
 | b=>K0 E T a b
def Dm(E:FE)(A:FA)(T:Tc)(x:Str)(as:List Expr):Option TEd:=match T.G.lookup x with
 | some (j,s)=>if decide (j<=T.k) && !as.isEmpty then (A as).map (gS s) else none
 | none=>(K9 x).bind λo=>match wM T x as with
   | some i=>some (kc i)
   | none=>if as.isEmpty then none else (A as).map (dB o.2.2.run o.2.2.mono)
def Ha(E:FE)(T:Tc)(tg e:Expr):Option TAd:=match e with
 | .Call (.Name x _) [a] [] _=>if x = "range" then (if rq a && T.isG "range" then (E a).map je else none)
  else if x = "enumerate" then (match tg with
   | .Tuple .. => if rq a && T.isG "enumerate" then (E a).map iN else none
   | _=>none)
  else if x = "reversed" then (if rq a && T.isG "reversed" then (E a).map kW else none)
  else (E e).map iG
 | .Call (.Name x _) [a,b] [] _=>if x = "range" then (if rq a && rq b && T.isG "range" then (E a).bind λta=>(E b).map (ke ta) else none)
  else (E e).map iG
 | e=>(E e).map iG
def Ai(I:Option TAd)(E:FE)(F:FT)(T:Tc)(e tg:Expr)(ifs:List Expr)(sc:Scope):Option TEd:=I.bind λti=>(JI { T with sc:=sc } tg).bind λg =>
 if g.tg.all (λi=>(sy T.N sc).contains i) then (E e).bind λte=>(match ifs with
  | []=>some (iz ti (sy T.N sc) g iQ te)
  | [k]=>(F k).map λtk=>iz ti (sy T.N sc) g tk te
  | _=>none) else none
def uF(E:FE):FA
 | []=>some gR
 | e::r=>if rq e then (E e).bind λte=>(uF E r).map λtr=>gP te tr else none
def Cq(E:FE)(T:Tc)(x:Str):List Expr->Option TEd
 | [.Call (.Name y _) [a] [] _]=>if y = "reversed" then (if rq a && T.isG "reversed" && T.isG x then (if x = "tuple" then (E a).map oj else (if x = "list" then (E a).map jw else none)) else none) else none
 | _=>none
def xf(E:FE)(T:Tc)(cp:Pos)(as:List Expr)(ks:List Keyword):Expr->Option TEd
 | .Name x _=>if ks.isEmpty then (match Cq E T x as with
  | some t=>some t
  | none=>if T.isG x then Dm E (uF E) T x as else none) else none
 | _=>none
def CL:List Comprehension->Option (Expr×Expr×List Expr)
 | [⟨tg,it,ifs,0⟩]=>if rq it then some (tg,it,ifs) else none
 | _=>none
mutual
def rO:Nat->Tc->Expr->Option TEd
 | 0,_,_=>none
 | n+1,T,e=>match e with
  | .Name x _=>Kq T x
  | .Constant k _ _=>(JW k).map dC
  | .BinOp a op b _=>two (rO n T) a b (gU op)
  | .Compare a ops bs _=>Jp (rO n T) a ops bs
  | .UnaryOp op a _=>KS (rO n T) a op
  | .BoolOp op vs p=>K7 (rO n T) p op vs
  | .IfExp k a b _=>(xn n T k).bind λtk=>two (rO n T) a b (pj tk)
  | .Tuple es _ _=>(uF (rO n T) es).map g7
  | .List es _=>(uF (rO n T) es).map ir
  | .Subscript a b _=>Ik (rO n T) T a b
  | .Call g as ks p=>xf (rO n T) T p as ks g
  | .ListComp e gs sc _=>if BC T.sc sc then (CL gs).bind λ(tg,it,ifs)=>Ai (Ha (rO n T) T tg it) (rO n { T with sc:=sc }) (xn n { T with sc:=sc }) T e tg ifs sc else none
  | _=>none
def xn:Nat->Tc->Expr->Option TTd
 | 0,_,_=>none
 | n+1,T,e=>match e with
  | .Compare a ops bs _=>Jo (rO n T) a ops bs
  | .UnaryOp op a p=>if op = .Not then (xn n T a).map ju else (rO n T (.UnaryOp op a p)).map kb
  | .BoolOp op vs p=>K6 (xn n T) p op vs
  | .IfExp .. => none
  | e=>(rO n T e).map kb
end
end
section
open PySem L2 Dp
variable{K:Frag}{X:Cx}{T:Tc}{pos p p2:Pos}{a b e:Expr}{E:FE}{F:FT}
def wj(X:Cx)(E:FE):Prop:=∀{e:Expr} {t:TEd},E e=some t->PE X e (LE X.K t)
def JT(X:Cx)(F:FT):Prop:=∀{e:Expr} {t:TTd},F e=some t->PT X e (LT X.K t)
theorem Jb(C:CtxOk T X){x:Str}{d:D}(hg:T.isG x=true)(h:Jc T x=some d):PE X (.Name x p) (LE X.K (dC d)):=by
 obtain⟨g1,g2⟩:=C.isG hg;obtain⟨v,u,h1,h2,h3⟩:=C.gc x d (rM h);exact dC.ok (D6 g1 h1 h2 g2) h3
theorem FQ{k:Const}{d:D}{j:Nat}(h:JW k=some d):PE X (.Constant k j pos) (LE X.K (dC d)):=by
 cases k <;> first|(cases h;done)|skip
 all_goals (cases h)
 all_goals first|exact dC.ok qL λ_ _ _=>rfl|exact dC.ok B5 λ_ _ _=>rfl|exact dC.ok Gy λ_ _ _=>rfl|exact dC.ok GA λ_ _ _=>rfl
theorem t5(C:CtxOk T X):∀{es:List Expr} {is:List Nat},xo T es=some is->HQ X es (gsAll is)/\(assignEach es X.env).length=is.length/\(assignEach es X.env).findIdx? (·.1)=none
 | [],is,h=>by
  cases h;exact⟨D5,rfl,rfl⟩
 | a::r,is,h=>by
  cases a <;> first|(cases h;done)|skip
  rename_i x p;obtain⟨hl,h⟩:=ae.mp (show (if Bf (T.sc.names.lookup x)=true then (T.slot x).bind λi=>(xo T r).map (i :: ·) else none)=some is from h);obtain⟨i,h1,h⟩:=ah.mp h;obtain⟨is',h2,rfl⟩:=ab.mp h;obtain⟨q1,q2,q3⟩:=t5 C h2;refine⟨BV (C.tgt hl h1) q1 rfl,?_,?_⟩
  ·show ((false,assign (.Name x p) X.env)::assignEach r X.env).length=_;rw [a7,q2];rfl
  ·show ((false,assign (.Name x p) X.env)::assignEach r X.env).findIdx? (·.1)=none;rw [List.findIdx?_cons,q3];rfl
theorem yg(C:CtxOk T X){e:Expr}{g:TGd}(h:JI T e=some g):PG X e (LG X.K g):=by
 cases e <;> first|(cases h;done)|skip
 ·rename_i x p;obtain⟨hl,h⟩:=ae.mp (show (if Bf (T.sc.names.lookup x)=true then (T.slot x).map gNm else none)=some g from h);obtain⟨i,h1,rfl⟩:=ab.mp h;exact gNm.ok (C.tgt hl h1)
 ·rename_i es k p;obtain⟨is,h1,rfl⟩:=ab.mp (show (xo T es).map gTp=some g from h);obtain⟨q1,q2,q3⟩:=t5 C h1;exact gTp.ok (yo C.calm q1 q2 q3)
theorem uo{k:TEd->TEd->TEd}{t:TEd}(h:two E a b k=some t):∃ ta tb,E a=some ta/\E b=some tb/\t=k ta tb:=by
 obtain⟨ta,h1,h⟩:=ah.mp h;obtain⟨tb,h2,rfl⟩:=ab.mp h;exact⟨ta,tb,h1,h2,rfl⟩
theorem ER(C:CtxOk T X)(ih:wj X E):∀{ops:List CmpOp} {bs:List Expr} {t:TEd},Jp E a ops bs=some t->PE X (.Compare a ops bs pos) (LE X.K t)
 | [op],[b],t,h=>by
  obtain⟨hn,h⟩:=ae.mp h;obtain⟨ta,tb,h1,h2,rfl⟩:=uo h;exact il.ok C.room (ih h1) (ih h2) (uS hn _)
 | [op,op'],[b,c],t,h=>by
  obtain⟨hn,h⟩:=ae.mp h;obtain⟨n1,n2⟩:=au.mp hn;obtain⟨ta,h1,h⟩:=ah.mp h;obtain⟨tb,h2,h⟩:=ah.mp h;obtain⟨tc,h3,rfl⟩:=ab.mp h;exact jo.ok C.room (ih h1) (ih h2) (ih h3) (uS n2 _)
 | [],_,_,h=>by cases h
 | [_],[],_,h=>by cases h
 | [_],_::_::_,_,h=>by cases h
 | [_,_],[],_,h=>by cases h
 | [_,_],[_],_,h=>by cases h
 | [_,_],_::_::_::_,_,h=>by cases h
 | _::_::_::_,_,_,h=>by cases h
theorem EQ(C:CtxOk T X)(ih:wj X E):∀{ops:List CmpOp} {bs:List Expr} {t:TTd},Jo E a ops bs=some t->PT X (.Compare a ops bs pos) (LT X.K t)
 | [op],[b],t,h=>by
  obtain⟨hn,h⟩:=ae.mp h;obtain⟨t0,h0,rfl⟩:=ab.mp h;obtain⟨ta,tb,h1,h2,rfl⟩:=uo h0;exact il.test C.room (ih h1) (ih h2) (uS hn _)
 | [op,op'],[b,c],t,h=>by
  obtain⟨hn,h⟩:=ae.mp h;obtain⟨n1,n2⟩:=au.mp hn;obtain⟨ta,h1,h⟩:=ah.mp h;obtain⟨tb,h2,h⟩:=ah.mp h;obtain⟨tc,h3,rfl⟩:=ab.mp h;exact jo.test C.room (ih h1) (ih h2) (ih h3) (uS n2 _)
 | [],_,_,h=>by cases h
 | [_],[],_,h=>by cases h
 | [_],_::_::_,_,h=>by cases h
 | [_,_],[],_,h=>by cases h
 | [_,_],[_],_,h=>by cases h
 | [_,_],_::_::_::_,_,h=>by cases h
 | _::_::_::_,_,_,h=>by cases h
theorem FN(ih:wj X E){op:UnaryOp}{t:TEd}(h:KS E a op=some t):PE X (.UnaryOp op a pos) (LE X.K t):=by
 cases op <;> first|(cases h;done)|skip
 ·obtain⟨ta,h1,rfl⟩:=ab.mp (show (E a).map pJ=some t from h);exact pJ.ok (ih h1)
 ·obtain⟨ta,h1,rfl⟩:=ab.mp (show (E a).map jP=some t from h);exact jP.ok (ih h1)
theorem Hy(ih:wj X E):∀{op:BoolOp} {vs:List Expr} {t:TEd},K7 E p op vs=some t->PE X (.BoolOp op vs p) (LE X.K t)
 | _,[a],_,h=>yq (ih h)
 | .And,a::b::r,t,h=>by
  obtain⟨ta,h1,h⟩:=ah.mp h;obtain⟨tb,h2,rfl⟩:=ab.mp h;exact pW.ok (ih h1) (ih h2)
 | .Or,a::b::r,t,h=>by
  obtain⟨ta,h1,h⟩:=ah.mp h;obtain⟨tb,h2,rfl⟩:=ab.mp h;exact dOr.ok (ih h1) (ih h2)
 | _,[],_,h=>by cases h
theorem Hx(ih:JT X F)(iw:∀{op:BoolOp} {vs:List Expr} {p:Pos} {t:TTd},F (.BoolOp op vs p)=some t->PW X (.BoolOp op vs p) (LT X.K t)):∀{op:BoolOp} {vs:List Expr} {t:TTd},K6 F p op vs=some t->PW X (.BoolOp op vs p) (LT X.K t)
 | .And,[a],_,h=>zo (ih h)
 | .Or,[a],_,h=>Gn (ih h)
 | .And,a::b::r,t,h=>by
  obtain⟨ta,h1,h⟩:=ah.mp h;obtain⟨tb,h2,rfl⟩:=ab.mp h;exact iL.ok (ih h1) (iw h2)
 | .Or,a::b::r,t,h=>by
  obtain⟨ta,h1,h⟩:=ah.mp h;obtain⟨tb,h2,rfl⟩:=ab.mp h;exact mJ.ok (ih h1) (iw h2)
 | _,[],_,h=>by cases h
theorem xx(ih:wj X E):∀{o:Option Expr} {t:TOd},xy E o=some t->PO X o (LO X.K t)
 | none,_,h=>by
  cases h;exact dNo.ok
 | some e,t,h=>by
  obtain⟨ta,h1,rfl⟩:=ab.mp h;exact kU.ok (ih h1)
theorem EB{m:Expr}(h:EC m=true):∃ j p1 p3,m = .UnaryOp .USub (.Constant (.int 1) j p1) p3:=by
 unfold EC at h;split at h
 ·rename_i i j p1 p3;have e:i=1:=eq_of_beq h;exact⟨j,p1,p3,by rw [e]⟩
 ·cases h
theorem Ce(C:CtxOk T X){i:Nat}(h:Cf T a=some i):PE X a (t6 i):=by
 cases a <;> first|(cases h;done)|skip
 obtain⟨j,h1,h⟩:=ah.mp h;obtain⟨_,h⟩:=ae.mp h;cases h;exact C.var h1
theorem DO(C:CtxOk T X)(ih:wj X E){t:TEd}(h:Ik E T a b=some t):PE X (.Subscript a b pos) (LE X.K t):=by
 have key:∀{b:Expr},K0 E T a b=some t->PE X (.Subscript a b pos) (LE X.K t):=λ{b} h=>by
  obtain⟨hn,h⟩:=ae.mp h;cases ho:Cf T a with
  | some i =>
   rw [ho] at h;obtain⟨tb,h2,rfl⟩:=ab.mp h;exact jB.ok (Ce C ho) (ih h2) (zE hn)
  | none =>
   rw [ho] at h;obtain⟨ta,tb,h1,h2,rfl⟩:=uo h;exact dIx.ok (ih h1) (ih h2) (zE hn)
 cases b;case Slice lo hi st p2 =>
  cases st with
  | none =>
   obtain⟨tk,h0,h⟩:=ah.mp (show (E a).bind (λta=>(xy E lo).bind λtl=>(xy E hi).map λtu=>dSl ta tl tu)=some t from h);obtain⟨ta,h1,h⟩:=ah.mp h;obtain⟨tb,h2,rfl⟩:=ab.mp h;exact dSl.ok (ih h0) (xx ih h1) (xx ih h2)
  | some m =>
   have h:(if lo.isNone && hi.isNone && EC m then (E a).map oC else none)=some t:=h;split at h
   rotate_left
   ·cases h
   rename_i hm;obtain⟨hm,m1⟩:=au.mp hm;obtain⟨l1,l2⟩:=au.mp hm;cases lo <;> cases hi <;> first|(cases l1;done)|(cases l2;done)|skip
   obtain⟨j,p1,p3,rfl⟩:=EB m1;obtain⟨ta,h1,rfl⟩:=ab.mp h;exact oC.ok (k:=0) (ih h1)
 all_goals exact key h
theorem sO(ih:wj X E):∀{es:List Expr} {t:TAd},uF E es=some t->PA X es (LA X.K t)
 | [],t,h=>by
  cases h;exact gR.ok
 | e::r,t,h=>by
  obtain⟨hn,h⟩:=ae.mp h;obtain⟨ta,h1,h⟩:=ah.mp h;obtain⟨tb,h2,rfl⟩:=ab.mp h;exact gP.ok (ih h1) (sO ih h2) (qU hn _ _)
theorem tL{r:List Expr}{t:TAd}(h:uF E (a::r)=some t):starEach (a::r) X.env=(false,eval a X.env)::starEach r X.env:=qU (ae.mp h).1 _ _
theorem vC:∀{r:List Expr} {t:TAd},uF E r=some t->(backTo pos (starEach r X.env)).any (·.1)=false
 | [],_,_=>rfl
 | a::r,t,h=>by
  rw [tL h];obtain⟨hn,h⟩:=ae.mp h;obtain⟨ta,h1,h⟩:=ah.mp h;obtain⟨tb,h2,rfl⟩:=ab.mp h;have:=vC h2;unfold backTo at this ⊢;rw [dJ,fU,this];rfl
theorem uE{r:List Expr}{t:TAd}(h:uF E (a::r)=some t):(backTo pos (starEach r X.env)).any (·.1)=false:=by
 obtain⟨hn,h⟩:=ae.mp h;obtain⟨ta,h1,h⟩:=ah.mp h;obtain⟨tb,h2,rfl⟩:=ab.mp h;exact vC h2
theorem Dl(C:CtxOk T X)(ih:wj X E){x:Str}{as:List Expr}{t:TEd}(hg:T.isG x=true)(h:Dm E (uF E) T x as=some t):PE X (.Call (.Name x p) as [] pos) (LE X.K t):=by
 obtain⟨g1,g2⟩:=C.isG hg;unfold Dm at h;cases e1:T.G.lookup x with
 | some js =>
  obtain⟨j,s⟩:=js;rw [e1] at h;obtain⟨hk,h⟩:=ae.mp h;obtain⟨k1,k2⟩:=au.mp hk;obtain⟨tb,h2,rfl⟩:=ab.mp h;cases as with
  | nil=>cases k2
  | cons a r =>
   obtain⟨ps,d⟩:=C.fn x j s (rM e1);exact gS.ok (yt d C.room (sO ih h2) (of_decide_eq_true k1) g1 g2 (tL h2) (uE h2))
 | none =>
  rw [e1] at h;dsimp only at h;obtain⟨⟨k,id,o⟩,e0,h3⟩:=ah.mp h;obtain⟨b1,b2,b3,b4⟩:=HA C.room C.calm C.bl e0;cases e2:wM T x as with
  | some i =>
   rw [e2] at h3;have h4:some (kc i)=some t:=h3;obtain⟨rfl,y,p2,rfl,e3⟩:=AR e2;cases h4;exact kc.ok g1 C.bl.len (C.var e3) rfl
  | none =>
   rw [e2] at h3;obtain⟨hne,h5⟩:=eY.mp (show (if as.isEmpty=true then none else (uF E as).map (dB o.run o.mono))=some t from h3);obtain⟨tb,h2,rfl⟩:=ab.mp h5;cases as with
   | nil=>exact absurd rfl hne
   | cons a r =>
    cases k with
    | true =>
     obtain⟨b5,rr,b6,b7⟩:=b4;exact dB.ok b7 (ra b6 g1 b1 b5 (sO ih h2) b2 b3 (tL h2) (uE h2))
    | false =>
     obtain⟨b5,rr,b6,b7⟩:=b4;exact dB.ok b7 (uw b6 g1 b1 b5 (sO ih h2) b2 b3 (tL h2) (uE h2))
theorem Cp(C:CtxOk T X)(ih:wj X E){x:Str}{as:List Expr}{t:TEd}(h:Cq E T x as=some t):PE X (.Call (.Name x p) as [] pos) (LE X.K t):=by
 unfold Cq at h;split at h
 ·rename_i y p1 a p2;obtain⟨ey,h1⟩:=ae.mp h;obtain⟨hn,h2⟩:=ae.mp h1;clear h h1;subst ey;obtain⟨hn2,n3⟩:=au.mp hn;obtain⟨n1,n2⟩:=au.mp hn2;by_cases e1:x = "tuple"
  ·subst e1;rw [if_pos rfl] at h2;obtain⟨ta,h3,rfl⟩:=ab.mp h2;exact oj.ok (C.isG n3).1 C.bl.tuple (C.isG n2).1 C.bl.reversed C.calm (ih h3) (qU n1 _ _)
  ·rw [if_neg e1] at h2;obtain⟨e2,h3⟩:=ae.mp h2;clear h2;subst e2;obtain⟨ta,h4,rfl⟩:=ab.mp h3;exact jw.ok (C.isG n3).1 C.bl.list (C.isG n2).1 C.bl.reversed C.calm (ih h4) (qU n1 _ _)
 ·cases h
theorem yX(C:CtxOk T X)(ih:wj X E){g:Expr}{as:List Expr}{ks:List Keyword}{t:TEd}(h:xf E T pos as ks g=some t):PE X (.Call g as ks pos) (LE X.K t):=by
 unfold xf at h;split at h
 ·split at h
  ·rename_i k0;cases List.isEmpty_iff.mp k0;split at h
   ·rename_i t' ht;cases h;exact Cp C ih ht
   ·obtain⟨hg,h1⟩:=ae.mp h;exact Dl C ih hg h1
  ·cases h
 ·cases h
theorem yE(C:CtxOk T X)(ih:wj X E){tg e:Expr}{t:TAd}(h:Ha E T tg e=some t):PI X tg e (LI X.K t):=by
 have wk:(E e).map iG=some t->PI X tg e (LI X.K t):=λh=>by
  obtain⟨ta,h1,rfl⟩:=ab.mp h;exact iG.ok (ih h1)
 unfold Ha at h;split at h
 ·rename_i x p1 a p2;by_cases ex:x = "range"
  ·subst ex;obtain⟨hn,h⟩:=ae.mp (show (if rq a && T.isG "range" then (E a).map je else none)=some t from h);obtain⟨n1,n2⟩:=au.mp hn;obtain⟨ta,h1,rfl⟩:=ab.mp h;exact je.ok (C.isG n2).1 C.bl.range (ih h1) (qU n1 _ _)
  ·rw [if_neg ex] at h;by_cases ex:x = "enumerate"
   ·subst ex;cases tg <;> first|(cases h;done)|skip
    obtain⟨hn,h⟩:=ae.mp (show (if rq a && T.isG "enumerate" then (E a).map iN else none)=some t from h);obtain⟨n1,n2⟩:=au.mp hn;obtain⟨ta,h1,rfl⟩:=ab.mp h;exact iN.ok (C.isG n2).1 C.bl.enumerate (ih h1) (qU n1 _ _)
   ·rw [if_neg ex] at h;by_cases ex:x = "reversed"
    ·subst ex;obtain⟨hn,h⟩:=ae.mp (show (if rq a && T.isG "reversed" then (E a).map kW else none)=some t from h);obtain⟨n1,n2⟩:=au.mp hn;obtain⟨ta,h1,rfl⟩:=ab.mp h;exact kW.ok (C.isG n2).1 C.bl.reversed (ih h1) (qU n1 _ _)
    ·rw [if_neg ex] at h;exact wk h
 ·rename_i x p1 a b p2;by_cases ex:x = "range"
  ·subst ex;obtain⟨hn,h⟩:=ae.mp (show (if rq a && rq b && T.isG "range" then (E a).bind λta=>(E b).map (ke ta) else none)=some t from h);obtain⟨n1,n2⟩:=au.mp hn;obtain⟨n0,n1⟩:=au.mp n1;obtain⟨ta,h1,h⟩:=ah.mp h;obtain⟨tb,h2,rfl⟩:=ab.mp h;exact ke.ok (C.isG n2).1 C.bl.range (ih h1) (ih h2) (by rw [qU n0,qU n1];rfl) (qU n1 _ _)
  ·rw [if_neg ex] at h;exact wk h
 ·exact wk h
theorem xS{I:Option TAd}{e tg:Expr}{ifs:List Expr}{sc:Scope}{t:TEd}(C:CtxOk T X)(h:Ai I E F T e tg ifs sc=some t)(ih:∀ s2 H2 fp pins A,wj (tO X sc s2 H2 fp pins A) E)(ihF:∀ s2 H2 fp pins A,JT (tO X sc s2 H2 fp pins A) F) :
  ∃ ti g te tk,I=some ti/\t=iz ti (sy T.N sc) g tk te/\(∀ i∈g.tg,i∈sy T.N sc)/\(∀ s2 H2 fp pins A,PG (tO X sc s2 H2 fp pins A) tg (LG X.K g))/\(∀ s2 H2 fp pins A,PTs (tO X sc s2 H2 fp pins A) ifs (LT X.K tk))/\∀ s2 H2 fp pins A,PE (tO X sc s2 H2 fp pins A) e (LE X.K te):=by
 obtain⟨ti,h1,h⟩:=ah.mp h;obtain⟨g,h2,h⟩:=ah.mp h;obtain⟨hg,h⟩:=ae.mp h;obtain⟨te,h3,h⟩:=ah.mp h;have hh:∀ i∈g.tg,i∈sy T.N sc:=λi hi=>by simpa using cw.mp hg i hi
 match ifs,h with
 | [],h =>
  cases h;exact⟨ti,g,te,iQ,h1,rfl,hh,λ_ _ _ _ _=>yg (C.inner ..) h2,λ_ _ _ _ _=>pts_nil.weak λσ H Q ⟨f,O,ss,S,q⟩=>q H (Ex.refl S.fl),λ_ _ _ _ _=>ih _ _ _ _ _ h3⟩
 | [k],h =>
  obtain⟨tk,h4,rfl⟩:=ab.mp h;exact⟨ti,g,te,tk,h1,rfl,hh,λ_ _ _ _ _=>yg (C.inner ..) h2,λ_ _ _ _ _=>DX (ihF _ _ _ _ _ h4),λ_ _ _ _ _=>ih _ _ _ _ _ h3⟩
 | _::_::_,h=>cases h
theorem zW{gs:List Comprehension}{tg it:Expr}{ifs:List Expr}(h:CL gs=some (tg,it,ifs)):gs=[⟨tg,it,ifs,0⟩]/\rq it=true:=by
 unfold CL at h;split at h
 ·obtain⟨hn,h⟩:=ae.mp h;cases h;exact⟨rfl,hn⟩
 ·cases h
structure TrOk (n:Nat):Prop where
 e:∀{T:Tc} {X:Cx},CtxOk T X->wj X (rO n T)
 t:∀{T:Tc} {X:Cx},CtxOk T X->JT X (xn n T)
 w:∀{T:Tc} {X:Cx} {op:BoolOp} {vs:List Expr} {p:Pos} {t:TTd},CtxOk T X->xn n T (.BoolOp op vs p)=some t->PW X (.BoolOp op vs p) (LT X.K t)
theorem zj(ih:wj X E){t:TTd}(hb:FI e=true)(h:(E e).map kb=some t):PT X e (LT X.K t):=by
 obtain⟨ta,h1,rfl⟩:=ab.mp h;exact kb.ok (ih h1) λw=>Do hb _ w
theorem uG:∀ n,TrOk n
 | 0=>⟨λ_ _ _ h=>(by cases h),λ_ _ _ h=>(by cases h),λ_ h=>(by cases h)⟩
 | n+1=>by
  have ih:=uG n;have hw:∀{T:Tc} {X:Cx} {op:BoolOp} {vs:List Expr} {p:Pos} {t:TTd},CtxOk T X->xn (n+1) T (.BoolOp op vs p)=some t->PW X (.BoolOp op vs p) (LT X.K t):=λC h=>Hx (ih.t C) (ih.w C) h;refine⟨λ{T X} C {e t} h=>?_,λ{T X} C {e t} h=>?_,hw⟩
  ·cases e <;> first|(cases h;done)|skip
   case Name x p =>
    have h:Kq T x=some t:=h;unfold Kq at h;cases hs:T.slot x with
    | some i =>
     rw [hs] at h;cases h;exact gQ.ok (C.var hs)
    | none =>
     rw [hs] at h;obtain⟨hg,h⟩:=ae.mp h;obtain⟨d,h1,rfl⟩:=ab.mp h;exact Jb C hg h1
   case Constant k j p =>
    obtain⟨d,h1,rfl⟩:=ab.mp (show (JW k).map dC=some t from h);exact FQ h1
   case BinOp a op b p =>
    obtain⟨ta,tb,h1,h2,rfl⟩:=uo (show two (rO n T) a b (gU op)=some t from h);exact gU.ok C.room (ih.e C h1) (ih.e C h2)
   case Compare=>exact ER C (ih.e C) h
   case UnaryOp=>exact FN (ih.e C) h
   case BoolOp=>exact Hy (ih.e C) h
   case IfExp k a b p =>
    obtain⟨tk,h0,h⟩:=ah.mp (show (xn n T k).bind (λtk=>two (rO n T) a b (pj tk))=some t from h);obtain⟨ta,tb,h1,h2,rfl⟩:=uo h;exact pj.ok (ih.t C h0) (ih.e C h1) (ih.e C h2)
   case Tuple es k p =>
    obtain⟨ta,h1,rfl⟩:=ab.mp (show (uF (rO n T) es).map g7=some t from h);exact g7.ok (sO (ih.e C) h1)
   case List es p =>
    obtain⟨ta,h1,rfl⟩:=ab.mp (show (uF (rO n T) es).map ir=some t from h);exact ir.ok (sO (ih.e C) h1)
   case Subscript=>exact DO C (ih.e C) h
   case Call g as ks p =>
    exact yX C (ih.e C) h
   case ListComp e gs sc p =>
    obtain⟨hs,h⟩:=ae.mp (show (if BC T.sc sc then (CL gs).bind λ(tg,it,ifs)=>Ai (Ha (rO n T) T tg it) (rO n { T with sc:=sc }) (xn n { T with sc:=sc }) T e tg ifs sc else none)=some t from h);obtain⟨⟨tg,it,ifs⟩,h1,h2⟩:=ah.mp h;obtain⟨rfl,hn⟩:=zW h1;obtain⟨ti,g,te,tk,q1,rfl,q2,q3,q4,q5⟩:=xS C h2 (λ_ _ _ _ _=>ih.e (C.inner ..)) (λ_ _ _ _ _=>ih.t (C.inner ..));exact iz.ok C.calm (C.compS hs) (yE C (ih.e C) q1) q3 q4 q5 (λx=>uy hn _ x) q2
  ·cases e;case Compare=>exact EQ C (ih.e C) h
   case UnaryOp op a p =>
    have h:(if op = .Not then (xn n T a).map ju else (rO n T (.UnaryOp op a p)).map kb)=some t:=h;by_cases eo:op = .Not
    ·subst eo;obtain⟨ta,h1,rfl⟩:=ab.mp (show (xn n T a).map ju=some t from h);exact ju.ok (ih.t C h1)
    ·rw [if_neg eo] at h;refine zj (ih.e C) ?_ h;cases op <;> first|rfl|exact absurd rfl eo
   case BoolOp=>exact (hw C h).pt
   case IfExp=>cases h
   all_goals exact zj (ih.e C) rfl h
end
section
open PySem L2 Dp
variable{K:Frag}{X:Cx}{T:Tc}{pos:Pos}
structure CtxS (T:Tc)(X:Cx):Prop extends CtxOk T X where
 scope:X.env.scope=T.sc
 bk:X.env.blockKind = .function
 xe:X.xe=λ_ _=>False
 fnT:∀ x,X.fn x=true
theorem CtxS.L(C:CtxS T X){x:Str}(h:Bf (T.sc.names.lookup x)=true):Bc X.env.scope x:=by
 unfold L2.Bc;rw [C.scope];cases q:T.sc.names.lookup x with
 | none=>rw [q] at h;cases h
 | some k=>rw [q] at h;cases k <;> first|exact .inl rfl|exact .inr rfl|cases h
theorem qC.ok{fz:List Nat}{scope:Scope}{hide:List Nat}{it:TAd}{g:TGd}{c:TTd}{e:TEd}{tg iter elt:Expr}{ifs:List Expr}{i:Nat}{y:Str}{py ep:Pos}(hc:X.calm=true)(hN:X.N.Nodup)(hy:X.N[i]? = some y)(hl:Bc X.env.scope y)(Sc:CompS X.N X.env.scope scope hide)(hi:PI X tg iter (LI X.K it))
  (hg:∀ s2 H2 fp pins C,PG (tO X scope s2 H2 fp pins C) tg (LG X.K g)) (ht:∀ s2 H2 fp pins C,PTs (tO X scope s2 H2 fp pins C) ifs (LT X.K c)) (he:∀ s2 H2 fp pins C,PE (tO X scope s2 H2 fp pins C) elt (LE X.K e))
  (hs:∀ x,foldedSetIterable iter X.env x=pure x) (hh:∀ i∈g.tg,i∈hide) (hsw:swapsWith (.ListComp elt [⟨tg,iter,ifs,0⟩] scope ep) (some (.Name y py)) pos.line X.env=pure true) (hf:X.fn y=true\/X.env.scope.names.lookup y=some .local) :
  PS X (.Assign [.Name y py] (.ListComp elt [⟨tg,iter,ifs,0⟩] scope ep) pos) (LS X.K (gV fz (gNm i) (iz it hide g c e))) :=
 (DY (spos:=pos) hc hN hy hl Sc hi hg ht he hs hsw hf).weak λD σ H ⟨c0,O,ss,R,q⟩=>by
  obtain⟨O',R⟩:=R.frz (fz:=fz);refine⟨c0.f,O',_,R.sl,it.mono (λds q J H1 e1 D0=>?_) q⟩;refine compD.ok (R.sl.ex e1) hh D0 (compD.mono (λd q v H' e r=>?_) q);have R2:=R.ex (e1.trans e);exact q O' _ H' (R2.to (R2.sl.set r) Sub.set)
def J9(T:Tc)(x:Str)(px ep:Pos)(sc:Scope):Bool:=(T.sc.names.lookup x == some .local) && (px.line == ep.line) && !(sc.names.any λ(n,k)=>n == x && (k == .local || k == .cell))
theorem Bt(C:CtxS T X){e:Expr}{gs:List Comprehension}{x:Str}{px ep:Pos}{sc:Scope}{l:Nat}:swapsWith (.ListComp e gs sc ep) (some (.Name x px)) l X.env=pure (J9 T x px ep sc):=by
 unfold swapsWith J9;show (pure (X.env.blockKind == .function && X.env.kindOf x == some .local && px.line == ep.line && !(sc.names.any λ(n,k)=>n == x && (k == .local || k == .cell))):Sem Bool)=_;rw [C.bk];unfold Env.kindOf;rw [C.scope];rfl
def Cc(T:Tc)(x y:Str)(px py:Pos)(a b:Expr):Bool:=rq a && rq b && (T.sc.names.lookup x == some .local) && (T.sc.names.lookup y == some .local) && (py.line == px.line) && !(x == y) && !(foldedForSure 8 a && foldedForSure 8 b) && !(constantsAlone 8 a && constantsAlone 8 b)
theorem B6(C:CtxS T X){x y:Str}{px py pt pt2:Pos}{a b:Expr}{kt k2:Nat}(h:Cc T x y px py a b=true):swappedStores [.Tuple [.Name x px,.Name y py] kt pt] (.Tuple [a,b] k2 pt2) X.env=pure (some [x,y]):=by
 unfold Cc at h;simp only [bw,cZ] at h;obtain⟨⟨⟨⟨⟨⟨⟨h1,h2⟩,h3⟩,h4⟩,h5⟩,h6⟩,h7⟩,h8⟩:=h;have s1:∀{e:Expr},rq e=true->(match e with | .Starred .. => true|_=>false)=false:=λ{e} h=>by cases e <;> first|rfl|cases h
 have k1:X.env.kindOf x == some .local:=by unfold Env.kindOf;rw [C.scope];exact h3
 have k2:X.env.kindOf y == some .local:=by unfold Env.kindOf;rw [C.scope];exact h4
 have n1:(y == x)=false:=by
  cases q:y == x with
  | false=>rfl
  | true =>
   have:=eq_of_beq q;subst this;rw [beq_self_eq_true] at h6;cases h6
 have k1':=eq_of_beq k1;have k2':=eq_of_beq k2;have h5':py.line=px.line:=eq_of_beq h5;have ed:([x,y]:List Str).eraseDups=[x,y]:=by
  rw [List.eraseDups_cons];simp [n1];rfl
 unfold swappedStores;have ep:∀(x:Str) (p:Pos),(Expr.Name x p).pos=p:=λ_ _=>rfl;simp [C.bk,cO,gF,k1',k2',ep,h5',ed];rw [if_neg,if_neg,if_neg]
 ·rintro⟨q1,q2⟩;rw [q1,q2] at h8;cases h8
 ·rintro⟨q1,q2⟩;rw [q1,q2] at h7;cases h7
 ·rintro (q|q)
  ·cases a <;> first|(cases h1;done)|cases q
  ·cases b <;> first|(cases h2;done)|cases q
def yW(T:Tc)(x y:Str)(a b:Expr):Bool:=!((T.sc.names.lookup x == some .local) && (T.sc.names.lookup y == some .local)) || (foldedForSure 8 a && foldedForSure 8 b)
theorem A6(C:CtxS T X){x y:Str}{px py pt pt2:Pos}{a b:Expr}{kt k2:Nat}(h:yW T x y a b=true):swappedStores [.Tuple [.Name x px,.Name y py] kt pt] (.Tuple [a,b] k2 pt2) X.env=pure none:=by
 unfold yW at h;rcases gB.mp h with h|h
 ·have h:(X.env.kindOf x == some .local)=false\/(X.env.kindOf y == some .local)=false:=by
   unfold Env.kindOf;rw [C.scope];revert h;cases T.sc.names.lookup x == some .local <;> cases T.sc.names.lookup y == some .local <;> simp
  unfold swappedStores;simp only [cO,gF];rcases h with h|h <;> simp only [h,Bool.false_and,cQ,if_false];all_goals (split <;> first|rfl|skip)
  all_goals (split <;> first|rfl|skip)
  all_goals (repeat' split) <;> first|rfl|simp_all
 ·have e:[a,b].all (foldedForSure 8)=true:=by
   show (foldedForSure 8 a && (foldedForSure 8 b && true))=true;rw [Bool.and_true];exact h
  unfold swappedStores;dsimp only;rw [if_pos e];repeat' split
  all_goals rfl
def wJ:Expr->Option (Str×Str×Pos×List Expr×Pos)
 | .Call (.Attribute (.Name x _) m ap) as [] cp=>if ap.endLine == cp.line then some (x,m,ap,as,cp) else none
 | _=>none
theorem vU{e:Expr}{x m:Str}{ap cp:Pos}{as:List Expr}(h:wJ e=some (x,m,ap,as,cp)):(∃ p,e = .Call (.Attribute (.Name x p) m ap) as [] cp)/\(ap.endLine == cp.line)=true:=by
 unfold wJ at h;split at h
 ·obtain⟨hl,h⟩:=ae.mp h;cases h;exact⟨⟨_,rfl⟩,hl⟩
 ·cases h
def F7:Expr->Option Expr
 | .Call (.Name y _) [u] [] _=>if y = "reversed" then some u else none
 | _=>none
theorem DR{e u:Expr}(h:F7 e=some u):∃ p q,e = .Call (.Name "reversed" p) [u] [] q:=by
 unfold F7 at h;split at h
 ·obtain⟨rfl,h⟩:=ae.mp h;cases h;exact⟨_,_,rfl⟩
 ·cases h
def Eo(E:FE)(T:Tc):Expr->Option TEd
 | .List es _=>(uF E es).map ir
 | .BinOp a .Mult b _=>two E a b (gU .Mult)
 | .Call (.Name x _) [a] [] _=>if x = "list" then (match F7 a with
  | some u=>if rq u && T.isG "reversed" && T.isG "list" then (E u).map jw else none
  | none=>if rq a && T.isG "list" then (E a).map ja else none) else none
 | _=>none
def Fs:Expr->Bool
 | .Tuple .. => true|_=>false
def JK(n:Nat)(T:Tc)(p:Pos)(i:Nat)(e:Expr):Option TSd:=match wJ e with
 | some (y,m,_,as,_)=>if m = "pop" then (match as with
  | []=>(T.slot y).map (mo i)
  | _=>none) else none
 | none=>if T.own.contains p.line then ((Eo (rO n T) T e).map (jC (T.frz p) i)) else (rO n T e).map (gV (T.frz p) (gNm i))
def Cb:List Expr->Expr->Option (Str×Pos×Str×Pos×Expr×Expr)
 | [.Name x px,.Name y py],.Tuple [a,b] _ _=>some (x,px,y,py,a,b)
 | _,_=>none
theorem B7{es:List Expr}{e a b:Expr}{x y:Str}{px py:Pos}(h:Cb es e=some (x,px,y,py,a,b)):es=[.Name x px,.Name y py]/\∃ k p,e = .Tuple [a,b] k p:=by
 unfold Cb at h;split at h
 ·cases h;exact⟨rfl,_,_,rfl⟩
 ·cases h
def FO(n:Nat)(T:Tc)(p:Pos)(es:List Expr)(e:Expr):Option TSd:=match Cb es e with
 | some (x,px,y,py,a,b)=>if Cc T x y px py a b then (T.slot x).bind λi=>(T.slot y).bind λj=>(if T.own.contains p.line then (Eo (rO n T) T a).bind λta=>(rO n T b).map (oi (T.frz p) i j ta) else (rO n T a).bind λta=>(rO n T b).map (kg (T.frz p) i j ta)) else if yW T x y a b then (xo T es).bind λis=>(rO n T e).map (gV (T.frz p) (gTp is)) else none
 | none=>if r8 e then (xo T es).bind λis=>(rO n T e).map (gV (T.frz p) (gTl is)) else if Fs e || r8 e then none else (xo T es).bind λis=>(rO n T e).map (gV (T.frz p) (gTp is))
def Jv(n:Nat)(T:Tc)(p:Pos)(e:Expr):Expr->Option TSd
 | .Name x _=>if Bf (T.sc.names.lookup x)=true then (T.slot x).bind λi=>JK n T p i e else none
 | .Subscript a k _=>(match a with
  | .Name x _=>if rq k && !r8 e then (T.slot x).bind λi=>(rO n T k).bind λtk=>(rO n T e).map (jv (T.frz p) i tk) else none
  | _=>none)
 | .Tuple es _ _=>FO n T p es e
 | _=>none
def KB(n:Nat)(T:Tc)(p:Pos)(e:Expr):Option TSd:=match wJ e with
 | some (x,m,_,as,_)=>if m = "append" then (match as with
   | [e]=>(if rq e then (T.slot x).bind λi=>(rO n T e).map (kh (T.frz p) i) else none)
   | _=>none)
  else if m = "pop" then (match as with
   | []=>(T.slot x).map pL
   | _=>none)
  else none
 | none=>none
mutual
def JH:Nat->Tc->Stmt->Option TSd
 | 0,_,_=>none
 | n+1,T,st=>match st with
  | .Return o p=>(match o with
   | some e=>(rO n T e).map (hJ (T.frz p))
   | none=>some oW)
  | .Pass _=>some ii
  | .Break _=>some pK
  | .Expr e p=>KB n T p e
  | .Assign tgs e p=>(match tgs with
   | [tg]=>Jv n T p e tg
   | _=>none)
  | .AugAssign tg op e p=>(match tg with
   | .Name x _=>if Bf (T.sc.names.lookup x)=true then (T.slot x).bind λi=>(rO n T e).map (mK (T.frz p) i op) else none
   | .Subscript a k _=>(match a with
    | .Name x _=>if rq k then (T.slot x).bind λi=>(rO n T k).bind λtk=>(rO n T e).map (kX (T.frz p) i tk op) else none
    | _=>none)
   | _=>none)
  | .If k a b p=>(xn n T k).bind λtk=>(x6 n T a).bind λta=>(x6 n T b).map λtb=>dIf (T.frz p) tk ta tb
  | .While k a r _=>(match r with
   | []=>(xn n T k).bind λtk=>(x6 n T a).map (iR tk)
   | _=>none)
  | .For tg it a r p=>(match r with
   | []=>if rq it then (Ha (rO n T) T tg it).bind λti=>(JI T tg).bind λg=>(x6 n T a).map (iA (T.frz p) ti g) else none
   | _=>none)
  | _=>none
def x6:Nat->Tc->List Stmt->Option TSd
 | 0,_,_=>none
 | n+1,T,sts=>match sts with
  | []=>some ii
  | st::r=>(match r with
   | []=>JH n T st
   | _=>(JH n T st).bind λt=>(x6 n T r).map (dSq t))
end
theorem zH(C:CtxOk T X){E:FE}(ih:wj X E){e:Expr}{t:TEd}(h:Eo E T e=some t):PE X e (LF X.K t)/\r8 e=false:=by
 unfold Eo at h;split at h
 ·obtain⟨ta,h1,rfl⟩:=ab.mp h;exact⟨ir.okF (sO ih h1),rfl⟩
 ·obtain⟨ta,tb,h1,h2,rfl⟩:=uo h;exact⟨qE.okF (ih h1) (ih h2),rfl⟩
 ·rename_i x p1 a p2;by_cases ex:x = "list"
  ·rw [if_pos ex] at h;subst ex;split at h
   ·rename_i u eu;obtain⟨p,q,rfl⟩:=DR eu;obtain⟨hn,h4⟩:=ae.mp h;obtain⟨hn,n3⟩:=au.mp hn;obtain⟨n1,n2⟩:=au.mp hn;obtain⟨ta,h1,rfl⟩:=ab.mp h4;exact⟨jw.okF (C.isG n3).1 C.bl.list (C.isG n2).1 C.bl.reversed C.calm (ih h1) (qU n1 _ _),rfl⟩
   ·obtain⟨hn,h4⟩:=ae.mp h;obtain⟨n1,n2⟩:=au.mp hn;obtain⟨ta,h1,rfl⟩:=ab.mp h4;exact⟨ja.okF (C.isG n2).1 C.bl.list (ih h1) (qU n1 _ _),rfl⟩
  ·rw [if_neg ex] at h;cases h
 ·cases h
theorem td{e:Expr}(h:r8 e=false)(t:Expr)(l:Nat)(env:Env):swapsWithSole [t] e l env=pure false:=ux h (some t) l env
theorem Bo{n:Nat}(C:CtxOk T X){e:Expr}{gs:List Comprehension}{sc:Scope}{p:Pos}{t:TEd}(h:rO n T (.ListComp e gs sc p)=some t):∃ tg it ifs ti g te tk,gs=[⟨tg,it,ifs,0⟩]/\rq it=true/\CompS X.N X.env.scope sc (sy T.N sc)/\PI X tg it (LI X.K ti)/\t=iz ti (sy T.N sc) g tk te/\(∀ i∈g.tg,i∈sy T.N sc)/\(∀ s2 H2 fp pins A,PG (tO X sc s2 H2 fp pins A) tg (LG X.K g))/\(∀ s2 H2 fp pins A,PTs (tO X sc s2 H2 fp pins A) ifs (LT X.K tk))/\∀ s2 H2 fp pins A,PE (tO X sc s2 H2 fp pins A) e (LE X.K te):=by
 cases n with
 | zero=>cases h
 | succ n =>
  have ih:=uG n;obtain⟨hs,h⟩:=ae.mp (show (if BC T.sc sc then (CL gs).bind λ(tg,it,ifs)=>Ai (Ha (rO n T) T tg it) (rO n { T with sc:=sc }) (xn n { T with sc:=sc }) T e tg ifs sc else none)=some t from h);obtain⟨⟨tg,it,ifs⟩,h1,h2⟩:=ah.mp h;obtain⟨rfl,hn⟩:=zW h1;obtain⟨ti,g,te,tk,q1,q0,q2,q3,q4,q5⟩:=xS C h2 (λ_ _ _ _ _=>ih.e (C.inner ..)) (λ_ _ _ _ _=>ih.t (C.inner ..));exact⟨tg,it,ifs,ti,g,te,tk,rfl,hn,C.compS hs,yE C (ih.e C) q1,q0,q2,q3,q4,q5⟩
theorem GP{n:Nat}(C:CtxS T X){i:Nat}{x:Str}{e:Expr}{t:TSd}{px p:Pos}(hl:Bf (T.sc.names.lookup x)=true)(hs:T.slot x=some i)(h:JK n T p i e=some t):PS X (.Assign [.Name x px] e p) (LS X.K t):=by
 have ih:wj X (rO n T):=(uG n).e C.toCtxOk;have hf:X.fn x=true\/X.env.scope.names.lookup x=some .local:=.inl (C.fnT x);unfold JK at h;split at h
 ·rename_i y m ap as cp em;obtain⟨⟨p1,rfl⟩,hn⟩:=vU em;obtain⟨rfl,h3⟩:=ae.mp h;match as,h3 with
  | [],h3 =>
   obtain⟨j,h1,rfl⟩:=ab.mp h3;exact mo.ok C.nd (C.slot hs) (C.L hl) hf (C.var h1) rfl hn rfl
  | _::_,h3=>cases h3
 ·by_cases ho:T.own.contains p.line=true
  ·rw [if_pos ho] at h;obtain⟨ta,h1,rfl⟩:=ab.mp h;obtain⟨q1,q2⟩:=zH C.toCtxOk ih h1;exact jC.ok C.nd (C.slot hs) (C.L hl) q1 (ux q2 _ _ _) hf
  ·rw [if_neg ho] at h;obtain⟨ta,h1,rfl⟩:=ab.mp h;have gen:r8 e=false->PS X (.Assign [.Name x px] e p) (LS X.K (gV (T.frz p) (gNm i) ta)):=λhc=>qw.ok C.nd (C.slot hs) (C.L hl) (ih h1) (ux hc _ _ _) hf;cases e;case ListComp e gs sc ep hmm =>
    obtain⟨tg,it,ifs,ti,g,te,tk,rfl,hn,q0,qi,rfl,q2,q3,q4,q5⟩:=Bo C.toCtxOk h1;cases sw:J9 T x px ep sc with
    | false=>exact qw.ok C.nd (C.slot hs) (C.L hl) (ih h1) (by rw [Bt C,sw]) hf
    | true=>exact qC.ok C.calm C.nd (C.slot hs) (C.L hl) q0 qi q3 q4 q5 (λx=>uy hn _ x) q2 (by rw [Bt C,sw]) hf
   case SetComp=>cases n <;> cases h1
   case DictComp=>cases n <;> cases h1
   all_goals exact gen rfl
theorem DJ{n:Nat}(C:CtxS T X){es:List Expr}{e:Expr}{t:TSd}{p pt:Pos}{kt:Nat}(h:FO n T p es e=some t):PS X (.Assign [.Tuple es kt pt] e p) (LS X.K t):=by
 have ih:wj X (rO n T):=(uG n).e C.toCtxOk;unfold FO at h;split at h
 ·rename_i x px y py a b eo;obtain⟨rfl,k,p2,rfl⟩:=B7 eo;by_cases hp:Cc T x y px py a b=true
  rotate_left
  ·rw [if_neg hp] at h;obtain⟨hc,h⟩:=ae.mp h;obtain⟨is,h1,h⟩:=ah.mp h;obtain⟨ta,h2,rfl⟩:=ab.mp h;obtain⟨q1,q2,q3⟩:=t5 C.toCtxOk h1;exact gV.ok (ih h2) (gTp.ok (yo C.calm q1 q2 q3)) (td rfl _ _ _) (A6 C hc) rfl
  rw [if_pos hp] at h;obtain⟨i,h1,h⟩:=ah.mp h;obtain⟨j,h2,h⟩:=ah.mp h;have hp':=hp;unfold Cc at hp';simp only [bw,cZ] at hp';obtain⟨⟨⟨⟨⟨⟨⟨w1,w2⟩,w3⟩,w4⟩,w5⟩,w6⟩,w7⟩,w8⟩:=hp';have ne:i≠j:=by
   rintro rfl;have a1:=C.slot h1;have a2:=C.slot h2;rw [a1] at a2;cases a2;rw [beq_self_eq_true] at w6;cases w6
  by_cases ow:T.own.contains p.line=true
  ·rw [if_pos ow] at h;obtain⟨ta,h3,h⟩:=ah.mp h;obtain⟨tb,h4,rfl⟩:=ab.mp h;exact (BR (pos:=p) C.calm C.nd (C.slot h1) (C.slot h2) ne (C.loc _ (eq_of_beq w3)) (C.loc _ (eq_of_beq w4)) (qK (zH C.toCtxOk ih h3).1 (qK (ih h4) pa_nil (qU w2 _ _)) (qU w1 _ _)) (B6 C hp) rfl).weak λD σ H q=>oi.weak q
  ·rw [if_neg ow] at h;obtain⟨ta,h3,h⟩:=ah.mp h;obtain⟨tb,h4,rfl⟩:=ab.mp h;exact (BR (pos:=p) C.calm C.nd (C.slot h1) (C.slot h2) ne (C.loc _ (eq_of_beq w3)) (C.loc _ (eq_of_beq w4)) (qK (ih h3) (qK (ih h4) pa_nil (qU w2 _ _)) (qU w1 _ _)) (B6 C hp) rfl).weak λD σ H q=>kg.weak q
 ·by_cases hc:r8 e=true
  ·rw [if_pos hc] at h;obtain⟨is,h1,h⟩:=ah.mp h;obtain⟨ta,h2,rfl⟩:=ab.mp h;obtain⟨q1,q2,q3⟩:=t5 C.toCtxOk h1;have hx:=ih h2;cases e <;> first|(cases hc;done)|skip
   all_goals exact gV.ok hx (gTl.ok (Gx C.calm q1 q2 q3)) rfl rfl rfl
  rw [if_neg hc] at h;obtain⟨hn,h⟩:=eY.mp h;obtain⟨is,h1,h⟩:=ah.mp h;obtain⟨ta,h2,rfl⟩:=ab.mp h;obtain⟨q1,q2,q3⟩:=t5 C.toCtxOk h1;have hn2:Fs e=false/\r8 e=false:=by simpa using hn
  refine gV.ok (ih h2) (gTp.ok (yo C.calm q1 q2 q3)) (td hn2.2 _ _ _) ?_ rfl;have:=hn2.1;cases e <;> first|rfl|cases this
theorem EW{n:Nat}(C:CtxS T X){tg e:Expr}{t:TSd}{p:Pos}(h:Jv n T p e tg=some t):PS X (.Assign [tg] e p) (LS X.K t):=by
 have ih:wj X (rO n T):=(uG n).e C.toCtxOk;cases tg <;> first|(cases h;done)|skip
 case Name x px =>
  obtain⟨hl,h⟩:=ae.mp (show (if Bf (T.sc.names.lookup x)=true then (T.slot x).bind λi=>JK n T p i e else none)=some t from h);obtain⟨i,h1,h⟩:=ah.mp h;exact GP C hl h1 h
 case Subscript a k sp =>
  cases a <;> first|(cases h;done)|skip
  rename_i x q;obtain⟨hn,h⟩:=ae.mp (show (if rq k && !r8 e then (T.slot x).bind λi=>(rO n T k).bind λtk=>(rO n T e).map (jv (T.frz p) i tk) else none)=some t from h);obtain⟨n1,n2⟩:=au.mp hn;obtain⟨i,h1,h⟩:=ah.mp h;obtain⟨tk,h2,h⟩:=ah.mp h;obtain⟨ta,h3,rfl⟩:=ab.mp h;have hc:r8 e=false:=by simpa using n2
  refine jv.ok (C.var h1) (ih h2) (ih h3) (td hc _ _ _) ?_ rfl (tT (C.var h1) (ih h2) rQ ?_)
  ·cases e <;> rfl
  ·intro v;cases k <;> first|rfl|cases n1
 case Tuple es k pt=>exact DJ C h
theorem Hg{n:Nat}(C:CtxS T X){e:Expr}{t:TSd}{p:Pos}(h:KB n T p e=some t):PS X (.Expr e p) (LS X.K t):=by
 have ih:wj X (rO n T):=(uG n).e C.toCtxOk;unfold KB at h;split at h
 ·rename_i x m ap as cp em;obtain⟨⟨p1,rfl⟩,hl⟩:=vU em;by_cases e1:m = "append"
  ·subst e1;rw [if_pos rfl] at h;match as,h with
   | [e],h =>
    obtain⟨hn,h⟩:=ae.mp h;obtain⟨i,h1,h⟩:=ah.mp h;obtain⟨ta,h2,rfl⟩:=ab.mp h;exact kh.ok (C.var h1) rfl (ih h2) (qU hn _ _) hl rfl
   | [],h=>cases h
   | _::_::_,h=>cases h
  ·rw [if_neg e1] at h;by_cases e2:m = "pop"
   ·subst e2;rw [if_pos rfl] at h;match as,h with
    | [],h =>
     obtain⟨i,h1,rfl⟩:=ab.mp h;exact pL.ok (C.var h1) rfl hl rfl
    | _::_,h=>cases h
   ·rw [if_neg e2] at h;cases h
 ·cases h
theorem yf:∀ n,(∀{T:Tc} {X:Cx} {st:Stmt} {t:TSd},CtxS T X->JH n T st=some t->PS X st (LS X.K t))/\(∀{T:Tc} {X:Cx} {sts:List Stmt} {t:TSd},CtxS T X->x6 n T sts=some t->PSs X sts (LS X.K t))
 | 0=>⟨λ_ h=>(by cases h),λ_ h=>(by cases h)⟩
 | n+1=>by
  have ihS:=yf n;constructor
  ·intro T X st t C h;have C':=C.toCtxOk;have ih:wj X (rO n T):=(uG n).e C';have it:JT X (xn n T):=(uG n).t C';have hp:PassesOwn (model X.prog X.w) X.A X.env X.xe:=by
    rw [C.xe];exact PassesOwn.never
   cases st <;> first|(cases h;done)|skip
   case Return o p =>
    cases o with
    | none =>
     cases h;exact oW.ok
    | some e =>
     obtain⟨ta,h1,rfl⟩:=ab.mp (show (rO n T e).map (hJ (T.frz p))=some t from h);exact hJ.ok (ih h1)
   case Pass=>cases h;exact ii.pass
   case Break=>cases h;exact pK.ok
   case Expr=>exact Hg C h
   case Assign tgs e p =>
    match tgs,h with
    | [tg],h=>exact EW C h
    | [],h=>cases h
    | _::_::_,h=>cases h
   case AugAssign tg op e p =>
    cases tg <;> first|(cases h;done)|skip
    case Name x px =>
     obtain⟨hl,h⟩:=ae.mp (show (if Bf (T.sc.names.lookup x)=true then (T.slot x).bind λi=>(rO n T e).map (mK (T.frz p) i op) else none)=some t from h);obtain⟨i,h1,h⟩:=ah.mp h;obtain⟨ta,h2,rfl⟩:=ab.mp h;exact mK.ok C.room C.nd (C'.slot h1) (C.L hl) (ih h2) (.inl (C.fnT _))
    case Subscript a k sp =>
     cases a <;> first|(cases h;done)|skip
     rename_i x q;obtain⟨hn,h⟩:=ae.mp (show (if rq k then (T.slot x).bind λi=>(rO n T k).bind λtk=>(rO n T e).map (kX (T.frz p) i tk op) else none)=some t from h);obtain⟨i,h1,h⟩:=ah.mp h;obtain⟨tk,h2,h⟩:=ah.mp h;obtain⟨ta,h3,rfl⟩:=ab.mp h;refine kX.ok C.room (C.var h1) (ih h2) (ih h3) ?_;cases k <;> first|(intros;rfl)|cases hn
   case If k a b p =>
    obtain⟨tk,h0,h⟩:=ah.mp (show (xn n T k).bind (λtk=>(x6 n T a).bind λta=>(x6 n T b).map λtb=>dIf (T.frz p) tk ta tb)=some t from h);obtain⟨ta,h1,h⟩:=ah.mp h;obtain⟨tb,h2,rfl⟩:=ab.mp h;exact dIf.ok (it h0) (ihS.2 C h1) (ihS.2 C h2)
   case While k a r p =>
    cases r with
    | cons=>cases h
    | nil =>
     obtain⟨tk,h0,h⟩:=ah.mp (show (xn n T k).bind (λtk=>(x6 n T a).map (iR tk))=some t from h);obtain⟨ta,h1,rfl⟩:=ab.mp h;exact iR.ok hp (it h0) (ihS.2 C h1)
   case For tg i a r p =>
    cases r with
    | cons=>cases h
    | nil =>
     obtain⟨hn,h⟩:=ae.mp (show (if rq i then (Ha (rO n T) T tg i).bind λti=>(JI T tg).bind λg=>(x6 n T a).map (iA (T.frz p) ti g) else none)=some t from h);obtain⟨ti,h0,h⟩:=ah.mp h;obtain⟨g,h1,h⟩:=ah.mp h;obtain⟨tb,h2,rfl⟩:=ab.mp h;exact iA.ok hp C.calm (yE C' ih h0) (yg C' h1) (ihS.2 C h2) λx=>uy hn _ x
  ·intro T X sts t C h;match sts,h with
   | [],h =>
    cases h;exact ii.nil
   | [st],h=>exact dSq.one (ihS.1 C h)
   | st::s2::r,h =>
    obtain⟨ta,h1,h⟩:=ah.mp (show (JH n T st).bind (λt=>(x6 n T (s2::r)).map (dSq t))=some t from h);obtain⟨tb,h2,rfl⟩:=ab.mp h;exact dSq.ok (ihS.1 C h1) (ihS.2 C h2)
theorem Hm{P:Program}{w:World}{mg:Str->Option Value}{base:Heap}{qual:Str}{st:Stmt}{f:Addr}{N ps:List Str}{k:Nat}{G:List (Str×Nat×SpB)}{gc:List (Str×D)}{fz:List (Nat×List Nat)}{own mu:List Nat}{cdv:Value}{A:Around}{outer:List Env}{s0:Shared}{H:Hp}{E:XK}(B:Bl mg)(S:FnScope N ps (qI st))
  (hG:∀ x j s,(x,j,s)∈G->∃ ps,Def P w K mg base x j ps (xl K s.n s.run)) (hgc:∀ x d,(x,d)∈gc->∃ v u,mg x=some u/\RelV v u/\∀ f O H,Rp K f O H d v) (hr:Room k (A.deeper (PyProof.Rows.envOfC qual (qI st) s0.heap.objs.size f cdv))) :
  CtxS ⟨N,qI st,G,gc,k,fz,own,mu⟩ (yP x9 P w K mg base N qual (qI st) f cdv A outer s0 H E).nox:=by
 refine⟨⟨rfl,S.nd,rfl,hr,λx h=>?_,λx h=>h,λx h=>h,λx h=>h,hG,hgc,B,λx h=>⟨h,rfl⟩⟩,rfl,?_,rfl,λ_=>rfl⟩
 ·have h:IU ((qI st).names.lookup x)=true:=h;unfold FJ;show (qI st).names.lookup x=_\/(qI st).names.lookup x=_\/(qI st).names.lookup x=_;cases q:(qI st).names.lookup x with
  | none=>rw [q] at h;cases h
  | some k=>rw [q] at h;cases k <;> first|exact .inl rfl|exact .inr (.inl rfl)|exact .inr (.inr rfl)|cases h
 ·show (if (qI st).kind.isAnnotationScope then ScopeKind.function else (qI st).kind) = .function;rw [S.kind];rfl
theorem GL{P:Program}{w:World}{mg:Str->Option Value}{base:Heap}{x qual:Str}{st:Stmt}{f:Addr}{fd:FuncData}{N ps:List Str}{n k:Nat}{t:TSd}{s:SpB}{G:List (Str×Nat×SpB)}{gc:List (Str×D)}{fz:List (Nat×List Nat)}{own mu:List Nat}(F:Fun K x qual st f fd)(B:Bl mg)(S:FnScope N ps (qI st))(hn:s.n=ps.length)
  (hG:∀ x j s,(x,j,s)∈G->∃ ps,Def P w K mg base x j ps (xl K s.n s.run)) (hgc:∀ x d,(x,d)∈gc->∃ v u,mg x=some u/\RelV v u/\∀ f O H,Rp K f O H d v)
  (ht:x6 n ⟨N,qI st,G,gc,k,fz,own,mu⟩ (rE st)=some t) (h:Does N.length t s):FnOk P w K mg base x9 (k+1) f fd ps (xl K s.n s.run) :=
 F.ok S (λvs H Q E q=>q.1.trans hn) (λcdv A outer s0 H vs Q E hr q=>⟨LS K t,(yf n).2 (Hm B S hG hgc hr) ht,h.ok q⟩)
end
section
open PySem L2 Dp
variable{P:Program}{w:World}{K:Frag}{mg:Str->Option Value}{base:Heap}
theorem GK{st:Stmt}{f0:Addr}{fd:FuncData}{N:List Str}{n k:Nat}{t:TSd}{rest:List Stmt}{p1 p2 p3 p4 p5:Pos}{G:List (Str×Nat×SpB)}{gc:List (Str×D)}{fz:List (Nat×List Nat)}{own mu:List Nat}(F:Fun K "law" "law" st f0 fd)(B:Bl mg)(S:FnScope ("_law_script" :: "_law_flow_here" :: N) ["_law_script"] (qI st))
  (g:Def P w K mg base "_law_flow" 1 ["_law_script"] (u5 K)) (hG:∀ x j s,(x,j,s)∈G->∃ ps,Def P w K mg base x j ps (xl K s.n s.run)) (hgc:∀ x d,(x,d)∈gc->∃ v u,mg x=some u/\RelV v u/\∀ f O H,Rp K f O H d v)
  (hb:rE st = .Assign [.Name "_law_flow_here" p1] (.Call (.Name "_law_flow" p2) [.Name "_law_script" p3] [] p4) p5::rest) (hk:1<=k) (hv:(qI st).names.lookup ("_law_script" : Str)=some .local\/(qI st).names.lookup ("_law_script" : Str)=some .cell) (hl:(qI st).names.lookup ("_law_flow_here" : Str)=some .local\/(qI st).names.lookup ("_law_flow_here" : Str)=some .cell) (hg:(qI st).names.lookup ("_law_flow" : Str)=some .globalImplicit)
  (ht:x6 n ⟨"_law_script" :: "_law_flow_here" :: N,qI st,G,gc,k,fz,own,mu⟩ rest=some t) (h:t.run ⟨λ_=>False,λd=>d = .bl true,λ_=>False,λ_=>False⟩ (.no :: .val .fl::List.replicate N.length .no)) :
  FnOk P w K mg base x9 (k+1) f0 fd ["_law_script"] (zn K):=by
 refine F.ok S (λvs H Q E h=>?_) (λcdv A outer s H vs Q E hr q=>?_)
 ·obtain⟨a,ns,rfl,_⟩:=h;rfl
 obtain⟨a,ns,rfl,hS,h63,q⟩:=q;refine⟨Ia (FW (zm (u5 K) [] E0 (vM (t6 0) DM)) (v5 1)) (LS K t),?_,?_⟩
 ·rw [hb];refine rR (uu S.nd rfl hl (yt g hr (qK (yp rfl ?_ rfl rfl) pa_nil rfl) hk hg rfl rfl rfl) rfl (.inl rfl)) ?_
  ·rcases hv with z|z
   ·exact .inl z
   ·exact .inr (.inl z)
  refine (yf n).2 (T:=⟨"_law_script" :: "_law_flow_here" :: N,qI st,G,gc,k,fz,own,mu⟩) ⟨⟨rfl,S.nd,rfl,hr,λx h=>?_,λx h=>h,λx h=>h,λx h=>h,hG,hgc,B,λx h=>⟨h,rfl⟩⟩,rfl,?_,rfl,λ_=>rfl⟩ ht
  ·have h:IU ((qI st).names.lookup x)=true:=h;unfold FJ;show (qI st).names.lookup x=_\/(qI st).names.lookup x=_\/(qI st).names.lookup x=_;cases q:(qI st).names.lookup x with
   | none=>rw [q] at h;cases h
   | some k=>rw [q] at h;cases k <;> first|exact .inl rfl|exact .inr (.inl rfl)|exact .inr (.inr rfl)|cases h
  ·show (if (qI st).kind.isAnnotationScope then ScopeKind.function else (qI st).kind) = .function;rw [S.kind];rfl
 ·refine⟨_,rfl,a,ns,rfl,hS,h63,λf H1 e1 fl hf=>?_⟩;have ef:(L2.start ("_law_script" :: "_law_flow_here" :: N) [V.ref a]).set 1 (some (V.ref f))=some (.ref a)::some (.ref f)::List.replicate N.length none:=rfl;show LS K t _ ((L2.start ("_law_script" :: "_law_flow_here" :: N) [V.ref a]).set 1 (some (V.ref f))) H1;rw [ef];have gt:∀{i:Nat} {x:SD},(SD.no::SD.val .fl::List.replicate N.length SD.no)[i]? = some x->x = .no\/(i=1/\x = .val .fl):=λ{i x} h=>by
   match i,h with
   | 0,h=>cases h;exact .inl rfl
   | 1,h=>cases h;exact .inr ⟨rfl,rfl⟩
   | i+2,h=>exact .inl (fM (aL (show (List.replicate N.length SD.no)[i]? = some x from h)))
  refine⟨⟨f,[f],H1,[f]⟩,[f],SD.no::SD.val .fl::List.replicate N.length SD.no,⟨⟨fl,aW.mpr rfl,λb hb=>?_,λl r e z=>?_,by simp,λi d hd=>?_,λi l hd=>?_⟩,λ_ h=>h,⟨λ_ _ h _ _=>h,λl r h=>⟨r,h⟩⟩,λb h=>.inl h,λi l b hd=>?_⟩,?_⟩
  ·rw [aW.mp hb];exact fl.lst
  ·have z:=aW.mp z;subst z;obtain⟨l0,ns0,i,c,a0,b,h1,h2,_⟩:=fl;rw [h1] at e;cases e;rw [h1] at h2;cases ns0 <;> cases h2
  ·rcases gt hd with e|⟨rfl,e⟩
   ·cases e
   ·cases e;exact⟨_,rfl,rfl⟩
  ·rcases gt hd with e|⟨_,e⟩ <;> cases e
  ·rcases gt hd with e|⟨_,e⟩ <;> cases e
  ·refine t.mono ?_ h;refine⟨λs z=>z.elim,λd z v H' R=>?_,λs z=>z.elim,λs z=>z.elim⟩;subst z;cases (show v=_ from R.rp);exact q H'
end
section
open PySem L2 Dp
variable{P:Program}{w:World}{K:Frag}{mg:Str->Option Value}{base:Heap}
theorem LP:∀(x:Str) (j:Nat) (s:SpB),(x,j,s)∈([]:List (Str×Nat×SpB))->∃ ps,Def P w K mg base x j ps (xl K s.n s.run):=λ_ _ _ h=>absurd h aK
theorem Ky{y:Str}{i:Nat}{r:SpB}{ps:List Str}{G:List (Str×Nat×SpB)}(g:Def P w K mg base y i ps (xl K r.n r.run))(h:∀(x:Str) (j:Nat) (s:SpB),(x,j,s)∈G->∃ ps,Def P w K mg base x j ps (xl K s.n s.run)):∀(x:Str) (j:Nat) (s:SpB),(x,j,s)∈(y,i,r)::G->∃ ps,Def P w K mg base x j ps (xl K s.n s.run):=λx j s e=>by
 rcases am.mp e with e|e
 ·cases e;exact⟨ps,g⟩
 ·exact h x j s e
theorem LQ:∀(x:Str) (d:D),(x,d)∈([]:List (Str×D))->∃ v u,mg x=some u/\RelV v u/\∀ f O H,Rp K f O H d v:=λ_ _ h=>absurd h aK
end
section
open PySem L2 Dp
variable{P:Program}{w:World}{K:Frag}{mg:Str->Option Value}{base:Heap}
structure Sl (K:Frag)(f:Addr)(x:Str)(st:Stmt):Prop where
 a:PySem.W.nsIn K mainGlobals x=some (some (.ref f))
 ex:∃ fd,Fun K x x st f fd
theorem sl{f:Addr}{x:Str}{st:Stmt}{oc:Value}{od an:Option Addr}{osl:Array (Option Value)}{kV doc pm cdv ct:Value}(a:PySem.W.nsIn K mainGlobals x=some (some (.ref f)))(l:K.lookup f=some ⟨oc,od,.func (PySem.W.fnOf x x (sk st) (rE st) (qI st) .none kV doc pm an cdv ct),osl⟩)(c:PySem.W.codeIn K cdv x=true)(k:PySem.W.keepIn K (.ref f)=true):Sl K f x st:=⟨a,_,Hf l c k⟩
abbrev Mg(K:Frag)(mg:Str->Option Value):Prop:=∀(x:Str) (f:Addr),PySem.W.nsIn K mainGlobals x=some (some (.ref f))->mg x=some (.ref f)
def Kc(N ps:List Str)(sc:Scope):Bool:=decide (N.Nodup) && decide (N.take ps.length=ps) && (ps.all λx=>decide (sc.names.lookup x=some .local) || decide (sc.names.lookup x=some .cell)) && sc.names.all λy=>decide (y.2 ≠ .free)
theorem sc{N ps:List Str}{sc:Scope}(h:Kc N ps sc=true)(h1:sc.kind = .function)(h2:sc.isCoroutine=false)(h3:sc.isGenerator=false):FnScope N ps sc:=by
 unfold Kc at h;obtain⟨h,d⟩:=au.mp h;obtain⟨h,c⟩:=au.mp h;obtain⟨a,b⟩:=au.mp h;refine⟨h1,h2,h3,of_decide_eq_true a,of_decide_eq_true b,λx hx=>?_,λy hy=>of_decide_eq_true (cw.mp d y hy)⟩;rcases gB.mp (cw.mp c x hx) with z|z
 ·exact .inl (of_decide_eq_true z)
 ·exact .inr (of_decide_eq_true z)
abbrev o0:List (Nat×List Nat)×List Nat×List Nat:=([],[],[])
abbrev BA(x:Str)(st:Stmt)(kV doc pm:Value)(an:Option Addr)(cdv ct:Value)(us:List Value):=bindArgs (PySem.W.fnOf x x (sk st) (rE st) (qI st) .none kV doc pm an cdv ct) ⟨us,[]⟩
theorem LL{x:Str}{st:Stmt}{f:Addr}{N ps:List Str}(k:Nat)(H:List (Nat×List Nat)×List Nat×List Nat){t:TSd}{s:SpB}{G:List (Str×Nat×SpB)}{gc:List (Str×D)}(S:Sl K f x st)(W:Mg K mg)(B:Bl mg)(C:FnScope N ps (qI st))(hn:s.n=ps.length)
  (hG:∀ x j s,(x,j,s)∈G->∃ ps,Def P w K mg base x j ps (xl K s.n s.run)) (hgc:∀ x d,(x,d)∈gc->∃ v u,mg x=some u/\RelV v u/\∀ f O H,Rp K f O H d v)
  (hb:∀(kV doc pm:Value) (an:Option Addr) (cdv ct:Value) (us:List Value),us.length=ps.length->BA x st kV doc pm an cdv ct us=pure (ps.zip us))
  (ht:x6 40 ⟨N,qI st,G,gc,k,H.1,H.2.1,H.2.2⟩ (rE st)=some t) (h:Does N.length t s):Def P w K mg base x (k+1) ps (xl K s.n s.run):=by
 obtain⟨a,fd,F⟩:=S;exact .of F (W _ _ a) (F.binds hb) (GL (n:=40) (fz:=H.1) (own:=H.2.1) (mu:=H.2.2) F B C hn hG hgc ht h)
theorem u0{us:List Value}{n:Nat}(h:us.length=n+1):∃ a r,us=a::r/\r.length=n:=by
 cases us with
 | nil=>exact absurd h (Nat.succ_ne_zero n).symm
 | cons a r=>exact⟨a,r,rfl,Nat.succ.inj h⟩
theorem u1{us:List Value}(h:us.length=1):∃ a,us=[a]:=by
 obtain⟨a,r,rfl,h1⟩:=u0 (n:=0) h;exact⟨a,by rw [bR.mp h1]⟩
theorem u2{us:List Value}(h:us.length=2):∃ a b,us=[a,b]:=by
 obtain⟨a,r,rfl,h1⟩:=u0 (n:=1) h;obtain⟨b,rfl⟩:=u1 h1;exact⟨a,b,rfl⟩
theorem u3{us:List Value}(h:us.length=3):∃ a b c,us=[a,b,c]:=by
 obtain⟨a,r,rfl,h1⟩:=u0 (n:=2) h;obtain⟨b,c,rfl⟩:=u2 h1;exact⟨a,b,c,rfl⟩
theorem b1{x:Str}{st:Stmt}{p:Str}(h:∀(kV doc pm:Value) (an:Option Addr) (cdv ct u:Value),BA x st kV doc pm an cdv ct [u]=pure [(p,u)]):∀(kV doc pm:Value) (an:Option Addr) (cdv ct:Value) (us:List Value),us.length=[p].length->BA x st kV doc pm an cdv ct us=pure ([p].zip us):=λ_ _ _ _ _ _ us hl=>by
 obtain⟨_,rfl⟩:=u1 hl;exact h ..
theorem b2{x:Str}{st:Stmt}{p q:Str}(h:∀(kV doc pm:Value) (an:Option Addr) (cdv ct u v:Value),BA x st kV doc pm an cdv ct [u,v]=pure [(p,u),(q,v)]):∀(kV doc pm:Value) (an:Option Addr) (cdv ct:Value) (us:List Value),us.length=[p,q].length->BA x st kV doc pm an cdv ct us=pure ([p,q].zip us):=λ_ _ _ _ _ _ us hl=>by
 obtain⟨_,_,rfl⟩:=u2 hl;exact h ..
theorem b3{x:Str}{st:Stmt}{p q r:Str}(h:∀(kV doc pm:Value) (an:Option Addr) (cdv ct u v z:Value),BA x st kV doc pm an cdv ct [u,v,z]=pure [(p,u),(q,v),(r,z)]):∀(kV doc pm:Value) (an:Option Addr) (cdv ct:Value) (us:List Value),us.length=[p,q,r].length->BA x st kV doc pm an cdv ct us=pure ([p,q,r].zip us):=λ_ _ _ _ _ _ us hl=>by
 obtain⟨_,_,_,rfl⟩:=u3 hl;exact h ..
end
section
open PySem L2 Dp
variable{P:Program}{w:World}{K:Frag}{mg:Str->Option Value}{base:Heap}
def Gv(s:Stmt):List Str:=(sk s).args.map (·.arg)
def KY(s:Stmt):List Str:=(qI s).names.filterMap λy=>if y.2 = .local\/y.2 = .cell then some y.1 else none
def Ko(N:List Str)(st:Stmt)(m n:Nat):Bool:=Kc N (Gv st) (qI st) && (match (qI st).kind with | .function=>true|_=>false) && !(qI st).isCoroutine && !(qI st).isGenerator && decide (N.length=m) && decide (n=(Gv st).length)
def SlS(tp:Nat->Stmt)(K:Frag):List (Str×Nat)->Prop
 | []=>True
 | y::r=>(∃ f,Sl K f y.1 (tp y.2))/\SlS tp K r
theorem SlS.c{tp:Nat->Stmt}{x:Str}{i:Nat}{r:List (Str×Nat)}{f:Addr}{oc:Value}{od an:Option Addr}{osl:Array (Option Value)}{kV doc pm cdv ct:Value}(a:PySem.W.nsIn K mainGlobals x=some (some (.ref f)))(l:K.lookup f=some ⟨oc,od,.func (PySem.W.fnOf x x (sk (tp i)) (rE (tp i)) (qI (tp i)) .none kV doc pm an cdv ct),osl⟩)(c:PySem.W.codeIn K cdv x=true)(k:PySem.W.keepIn K (.ref f)=true)(h:SlS tp K r):SlS tp K ((x,i)::r):=⟨⟨f,sl a l c k⟩,h⟩
theorem SlS.g{tp:Nat->Stmt}{x:Str}{i:Nat}:∀{L:List (Str×Nat)} (j:Nat) (_:SlS tp K L) (_:L[j]? = some (x,i)),∃ f,Sl K f x (tp i)
 | _::_,0,h,e=>by cases e;exact h.1
 | _::r,j+1,h,e=>SlS.g (L:=r) j h.2 (by simpa using e)
def ZsO(K:Frag):List Str->Prop
 | []=>True
 | x::r=>PySem.W.nsIn K mainGlobals x=some none/\ZsO K r
theorem ZsO.c{x:Str}{r:List Str}(a:PySem.W.nsIn K mainGlobals x=some none)(h:ZsO K r):ZsO K (x::r):=⟨a,h⟩
abbrev K8:List Str:=["len", "range", "all", "any", "abs", "int", "bool", "str", "list", "tuple", "dict", "isinstance", "enumerate", "reversed", "sorted", "max", "min", "sum", "zip"]
theorem Jt{h:Heap}(X:K.In h)(G:h.Ns mainGlobals mg)(z:ZsO K K8):Bl mg:=by
 have n:=@PySem.W.mg_none_of K h mg;obtain⟨z1,z2,z3,z4,z5,z6,z7,z8,z9,z10,z11,z12,Be,z14,z15,z16,z17,z18,z19,-⟩:=z;exact⟨n X G z1,n X G z2,n X G z3,n X G z4,n X G z5,n X G z6,n X G z7,n X G z8,n X G z9,n X G z10,n X G z11,n X G z12,n X G Be,n X G z14,n X G z15,n X G z16,n X G z17,n X G z18,n X G z19⟩
structure EvO (P:Program)(w:World)(K:Frag)(mg:Str->Option Value)(base:Heap)(tp:Nat->Stmt)(L:List (Str×Nat))(gc:List (Str×D)):Prop where
 S:SlS tp K L
 W:Mg K mg
 B:Bl mg
 c:∀ x d,(x,d)∈gc->∃ v u,mg x=some u/\RelV v u/\∀ f O H,Rp K f O H d v
abbrev JS(P:Program)(w:World)(K:Frag)(mg:Str->Option Value)(base:Heap)(G:List (Str×Nat×SpB)):Prop:=∀ x j s,(x,j,s)∈G->∃ ps,Def P w K mg base x j ps (xl K s.n s.run)
abbrev JE(st:Stmt):Prop:=∀(x:Str) (kV doc pm:Value) (an:Option Addr) (cdv ct:Value) (us:List Value),us.length=(Gv st).length->BA x st kV doc pm an cdv ct us=pure ((Gv st).zip us)
theorem Fn{tp:Nat->Stmt}{L:List (Str×Nat)}{gc:List (Str×D)}(E:EvO P w K mg base tp L gc)(j k:Nat){x:Str}{i:Nat}(e:L[j]? = some (x,i))(H:List (Nat×List Nat)×List Nat×List Nat){m:Nat}{t:TSd}{s:SpB}{G:List (Str×Nat×SpB)}(hG:JS P w K mg base G)(h:Does m t s)(N:List Str)(hb:JE (tp i))(hc:Ko N (tp i) m s.n=true:=by kernel_rfl)
  (ht:x6 40 ⟨N,qI (tp i),G,gc,k,H.1,H.2.1,H.2.2⟩ (rE (tp i))=some t:=by kernel_rfl):JS P w K mg base ((x,k+1,s)::G):=by
 obtain⟨f,S⟩:=E.S.g j e;unfold Ko at hc;simp only [bw,cZ,decide_eq_true_eq] at hc;obtain⟨⟨⟨⟨⟨c1,c2⟩,c3⟩,c4⟩,rfl⟩,c5⟩:=hc;refine Ky (LL k H S E.W E.B (sc c1 ?_ c3 c4) c5 hG E.c (hb x) ht h) hG;split at c2
 ·assumption
 ·cases c2
theorem sV{tp:Nat->Stmt}{L:List (Str×Nat)}{gc:List (Str×D)}(E:EvO P w K mg base tp L gc)(j k:Nat){x:Str}{i:Nat}(e:L[j]? = some (x,i))(H:List (Nat×List Nat)×List Nat×List Nat){m:Nat}{t:TSd}{s:SpB}{G:List (Str×Nat×SpB)}(hG:JS P w K mg base G)(h:Does m t s)(hb:JE (tp i))(hc:Ko (KY (tp i)) (tp i) m s.n=true:=by kernel_rfl)
  (ht:x6 40 ⟨KY (tp i),qI (tp i),G,gc,k,H.1,H.2.1,H.2.2⟩ (rE (tp i))=some t:=by kernel_rfl):JS P w K mg base ((x,k+1,s)::G):=Fn E j k e H hG h _ hb hc ht
theorem h1{st:Stmt}{p:Str}(e:Gv st=[p])(h:∀(x:Str) (kV doc pm:Value) (an:Option Addr) (cdv ct u:Value),BA x st kV doc pm an cdv ct [u]=pure [(p,u)]:=by exact λ_ _ _ _ _ _ _ _=>rfl):JE st:=λx _ _ _ _ _ _ us hl=>by
 rw [e] at hl ⊢;exact b1 (h x) _ _ _ _ _ _ us hl
theorem h2{st:Stmt}{p q:Str}(e:Gv st=[p,q])(h:∀(x:Str) (kV doc pm:Value) (an:Option Addr) (cdv ct u v:Value),BA x st kV doc pm an cdv ct [u,v]=pure [(p,u),(q,v)]:=by exact λ_ _ _ _ _ _ _ _ _=>rfl):JE st:=λx _ _ _ _ _ _ us hl=>by
 rw [e] at hl ⊢;exact b2 (h x) _ _ _ _ _ _ us hl
theorem h3{st:Stmt}{p q r:Str}(e:Gv st=[p,q,r])(h:∀(x:Str) (kV doc pm:Value) (an:Option Addr) (cdv ct u v z:Value),BA x st kV doc pm an cdv ct [u,v,z]=pure [(p,u),(q,v),(r,z)]:=by exact λ_ _ _ _ _ _ _ _ _ _=>rfl):JE st:=λx _ _ _ _ _ _ us hl=>by
 rw [e] at hl ⊢;exact b3 (h x) _ _ _ _ _ _ us hl
end
end Ds
set_option maxHeartbeats 4000000
namespace My
open PySem L2
def top(i:Nat):Stmt:=PySem.Challenge.pw_nestwright_k44_led_along_places.main.body.getD i (.Pass ⟨0,0,0,0⟩)
abbrev u8:Stmt:=top 30
abbrev u7:Stmt:=top 31
abbrev sf:Stmt:=top 32
abbrev Il:Stmt:=top 54
section
variable{P:Program}{w:World}{K:Frag}{mg:Str->Option Value}{base:Heap}
def Flow(H:Hp)(f:Addr):Prop:=∃(l:Addr) (ns:List Int) (i c a b:Int),H f=some (.lst [.ref l,.int i,.int c,.int a,.int b])/\H l=some (.lst (ns.map V.int))/\ns.length<=63/\0<=i/\i<=(ns.length:Int)/\0<=c/\0<=a/\a<2147483647
theorem Ji{H:Hp}{f l:Addr}{ns:List Int}{x:Addr}{r:List V}(h1:H f=some (.lst (.ref x::r)))(h2:H l=some (.lst (ns.map V.int))):l≠f:=by
 refine IQ h2 h1 λz=>?_;injection z with z;cases ns with
 | nil=>cases z
 | cons n ns=>rw [dJ] at z;injection z with z1;cases z1
theorem uA{H:Hp}{f l:Addr}{ns:List Int}{i c a b i' c' a' b':Int}(h1:H f=some (.lst [.ref l,.int i,.int c,.int a,.int b]))(h2:H l=some (.lst (ns.map V.int))) :
  rD H f (.lst [.ref l,.int i',.int c',.int a',.int b']) f=some (.lst [.ref l,.int i',.int c',.int a',.int b'])/\rD H f (.lst [.ref l,.int i',.int c',.int a',.int b']) l=some (.lst (ns.map V.int))/\Sm f H (rD H f (.lst [.ref l,.int i',.int c',.int a',.int b'])):=by
 refine⟨qP,?_,λb o n e=>?_,λx r e=>?_⟩
 ·rw [qM (Ji h1 h2)];exact h2
 ·rw [qM n];exact e
 ·rw [h1] at e;injection e with e;injection e with e;injection e with e _;rw [← e];exact⟨_,qP⟩
theorem EU{ns:List Int}{i:Int}(h0:0<=i)(h:i<(ns.length:Int)):∃ z,vB (ns.map V.int) i=some (V.int z):=by
 obtain⟨k,rfl⟩:=bD h0;exact⟨ns[k]'(by omega),sq (by rw [aJ,ao (by omega)];rfl)⟩
def u5(K:Frag):Sp:=λvs H Q _=>∃(a:Addr) (ns:List Int),vs=[.ref a]/\SqL K H a (ns.map V.int)/\ns.length<=63/\∀ f H',Same H H'->Flow H' f->H f=none->Q (.ref f) H'
def wu:Sp:=λvs H Q _=>∃(f:Addr) (m:Int),vs=[.ref f,.int m]/\Flow H f/\0<m/\Lt2 9000 m/\∀ d H',0<=d->d<m->Flow H' f->Sm f H H'->Q (.int d) H'
theorem pe:FnScope ["_law_script"] ["_law_script"] (qI u8):=⟨rfl,rfl,rfl,by decide +kernel,rfl,by decide +kernel,by decide +kernel⟩
theorem Ej{f:Addr}{fd:FuncData}(F:Fun K "_law_flow" "_law_flow" u8 f fd)(B:Bl mg):FnOk P w K mg base x9 1 f fd ["_law_script"] (u5 K):=by
 refine F.ok pe (λvs H Q E h=>?_) (λcdv A outer s H vs Q E hr h=>?_)
 ·obtain⟨a,ns,rfl,_⟩:=h;rfl
 obtain⟨a,ns,rfl,hS,h63,q⟩:=h;have nd:=pe.nd;refine⟨_,(rL (@sZ _ _ _ _ (@yr _ _ _ _ (@qK _ _ _ _ _ (@uw _ _ _ _ _ _ _ _ _ (yD K) rfl B.list tK (@qK _ _ _ _ _ (pv 0) pa_nil (by rfl)) (by decide) (by decide) (by rfl) (by rfl)) (@qK _ _ _ _ _ qL (@qK _ _ _ _ _ qL (@qK _ _ _ _ _ qL (@qK _ _ _ _ _ qL pa_nil (by rfl)) (by rfl)) (by rfl)) (by rfl)) (by rfl))))),?_⟩;refine⟨_,rfl,a,_,rfl,.inl hS,λl hl=>⟨(by show 5<=sizeLine;decide),λp hp=>?_⟩⟩;have hpl:l≠p:=qV qP hp;refine q p _ ((Same.new hl _).trans (Same.new hp _)) ⟨l,ns,0,0,1,0,qP,?_,h63,by decide,by omega,by decide,by decide,by decide⟩ ?_
 ·rw [qM hpl];exact qP
 ·rw [qM (Ne.symm hpl)] at hp;exact hp
theorem ph:FnScope ["_law_flow_here", "_law_many", "_law_cell", "_law_digit"] ["_law_flow_here", "_law_many"] (qI u7):=⟨rfl,rfl,rfl,by decide +kernel,rfl,by decide +kernel,by decide +kernel⟩
theorem Ei{f0:Addr}{fd:FuncData}(F:Fun K "_law_pick" "_law_pick" u7 f0 fd)(B:Bl mg):FnOk P w K mg base x9 1 f0 fd ["_law_flow_here", "_law_many"] wu:=by
 refine F.ok ph (λvs H Q E h=>?_) (λcdv A outer s H vs Q E hr h=>?_)
 ·obtain⟨a,ns,rfl,_⟩:=h;rfl
 obtain⟨f,m,rfl,hF,hm0,hm1,q⟩:=h;have nd:=ph.nd;refine⟨_,(t8 (@vd _ _ _ _ _ _ _ _ (PW.pt (BO (@sI _ _ _ _ _ _ _ _ xw (@rK _ _ _ _ _ _ _ (x8 K) (pv 0) qL (λ_ _=>rfl)) qL (sL _)) (zo (@sI _ _ _ _ _ _ _ _ Fg (@rK _ _ _ _ _ _ _ (x8 K) (pv 0) qL (λ_ _=>rfl)) (@ra _ _ _ _ _ _ _ _ _ (AQ K) rfl B.len uD (@qK _ _ _ _ _ (@rK _ _ _ _ _ _ _ (x8 K) (pv 0) qL (λ_ _=>rfl)) pa_nil (by rfl)) (by decide) (by decide) (by rfl) (by rfl)) (sL _))))) (rR (@uu _ _ 2 _ _ _ _ nd rfl (by first|exact Or.inl rfl|exact Or.inr rfl) (@rK _ _ _ _ _ _ _ (x8 K) (@rK _ _ _ _ _ _ _ (x8 K) (pv 0) qL (λ_ _=>rfl)) (@rK _ _ _ _ _ _ _ (x8 K) (pv 0) qL (λ_ _=>rfl)) (λ_ _=>rfl)) (by rfl) (by first|exact .inl rfl|exact .inr rfl|assumption))
  (rR (@s9 _ _ _ _ _ _ (@rC _ _ _ _ _ _ _ _ sJ (@rK _ _ _ _ _ _ _ (x8 K) (pv 0) qL (λ_ _=>rfl)) qL) (@tT _ _ _ _ _ _ _ (pv 0) qL rQ (λ_=>rfl)) (by rfl) (by rfl) (by rfl))
  (rL (@vd _ _ _ _ _ _ _ _ (@sI _ _ _ _ _ _ _ _ Fi (pv 2) (@rC _ _ _ _ _ _ _ _ Cj qL qL) (sL _)) (rL (@s9 _ _ _ _ _ _ (pv 2) (@tT _ _ _ _ _ _ _ (pv 0) qL rQ (λ_=>rfl)) (by rfl) (by rfl) (by rfl))) (rL (@s9 _ _ _ _ _ _ (@rC _ _ _ _ _ _ _ _ tU (@rC _ _ _ _ _ _ _ _ sJ (@rC _ _ _ _ _ _ _ _ sJ (@rC _ _ _ _ _ _ _ _ yv (@rK _ _ _ _ _ _ _ (x8 K) (pv 0) qL (λ_ _=>rfl)) qL) (@rC _ _ _ _ _ _ _ _ tU (pv 2) qL)) qL) qL) (@tT _ _ _ _ _ _ _ (pv 0) qL rQ (λ_=>rfl)) (by rfl) (by rfl) (by rfl))))))) pss_nil)
  (t8 (@vd _ _ _ _ _ _ _ _ (@sI _ _ _ _ _ _ _ _ Fh (@rK _ _ _ _ _ _ _ (x8 K) (pv 0) qL (λ_ _=>rfl)) qL (sL _)) (rR (@uu _ _ 3 _ _ _ _ nd rfl (by first|exact Or.inl rfl|exact Or.inr rfl) (@rC _ _ _ _ _ _ _ _ tU (@rK _ _ _ _ _ _ _ (x8 K) (pv 0) qL (λ_ _=>rfl)) (pv 1)) (by rfl) (by first|exact .inl rfl|exact .inr rfl|assumption))
  (rR (@s9 _ _ _ _ _ _ (@rC _ _ _ _ _ _ _ _ (@xv _ _ hr) (@rK _ _ _ _ _ _ _ (x8 K) (pv 0) qL (λ_ _=>rfl)) (pv 1)) (@tT _ _ _ _ _ _ _ (pv 0) qL rQ (λ_=>rfl)) (by rfl) (by rfl) (by rfl))
  (rL (@sZ _ _ _ _ (pv 3))))) pss_nil)
  (rR (@s9 _ _ _ _ _ _ (@rC _ _ _ _ _ _ _ _ sJ (@rK _ _ _ _ _ _ _ (x8 K) (pv 0) qL (λ_ _=>rfl)) qL) (@tT _ _ _ _ _ _ _ (pv 0) qL rQ (λ_=>rfl)) (by rfl) (by rfl) (by rfl))
  (rR (@s9 _ _ _ _ _ _ (@rC _ _ _ _ _ _ _ _ tU (@rC _ _ _ _ _ _ _ _ sJ (@rC _ _ _ _ _ _ _ _ sJ (@rC _ _ _ _ _ _ _ _ yv (@rK _ _ _ _ _ _ _ (x8 K) (pv 0) qL (λ_ _=>rfl)) qL) qL) (@rK _ _ _ _ _ _ _ (x8 K) (pv 0) qL (λ_ _=>rfl))) qL) (@tT _ _ _ _ _ _ _ (pv 0) qL rQ (λ_=>rfl)) (by rfl) (by rfl) (by rfl))
  (rL (@sZ _ _ _ _ (@rC _ _ _ _ _ _ _ _ tU (@rC _ _ _ _ _ _ _ _ zD (@rC _ _ _ _ _ _ _ _ tU (@rC _ _ _ _ _ _ _ _ yv (@rC _ _ _ _ _ _ _ _ sJ (@rC _ _ _ _ _ _ _ _ tU (@rK _ _ _ _ _ _ _ (x8 K) (pv 0) qL (λ_ _=>rfl)) qL) qL) (@rC _ _ _ _ _ _ _ _ sJ (@rC _ _ _ _ _ _ _ _ zD (@rK _ _ _ _ _ _ _ (x8 K) (pv 0) qL (λ_ _=>rfl)) qL) qL)) qL) qL) (pv 1)))))))),?_⟩
 obtain⟨l,ns,i,c,a,b,h1,h2,h63,i0,i1,c0,a0,a1⟩:=hF;have hf:=SqL.of (K:=K) h1;refine⟨λσ' H'=>(∃ o1 o2,σ'=[some (.ref f),some (.int m),o1,o2])/\Flow H' f/\Sm f H H',?_,?_⟩
 ·refine⟨_,rfl,f,_,2,_,rfl,rfl,hf,rfl,rfl,_,rfl,?_⟩;refine Ez (λcz=>?_) (λcz=>?_)
  ·refine⟨_,rfl,f,_,1,_,rfl,rfl,hf,rfl,_,rfl,f,_,0,_,rfl,rfl,hf,rfl,l,_,rfl,.inl (SqL.of h2),_,_,rfl,rfl,_,rfl,?_⟩;refine Ez (λcl=>?_) (λcl=>?_)
   ·have cl':i<(((ns.map V.int).length:Nat):Int):=of_decide_eq_true cl;rw [aa] at cl';obtain⟨z,hz⟩:=EU i0 cl';obtain⟨g1,g2,g3⟩:=uA (i':=i+1) (c':=c) (a':=a) (b':=b) h1 h2;have gf:=SqL.of (K:=K) g1;refine⟨_,rfl,f,_,0,_,rfl,rfl,hf,rfl,_,rfl,f,_,1,_,rfl,rfl,hf,rfl,l,_,i,_,rfl,rfl,SqL.of h2,hz,?_⟩;refine⟨_,rfl,f,_,1,_,rfl,rfl,hf,rfl,_,_,rfl,rfl,_,rfl,f,_,1,1,rfl,rfl,h1,rfl,?_⟩;refine⟨_,rfl,_,_,rfl,rfl,⟨by decide,by decide,by decide⟩,_,_,rfl,rfl,_,rfl,?_⟩;refine Ez (λcg=>?_) (λcg=>?_)
    ·have cg':(10:Int)^(18:Int).toNat<=z:=of_decide_eq_true cg;have cg2:(0:Int)<=z:=Int.le_trans (by decide) cg';obtain⟨k1,k2,k3⟩:=uA (i':=i+1) (c':=z) (a':=a) (b':=b) g1 g2;refine⟨_,rfl,_,rfl,f,_,2,2,rfl,rfl,g1,rfl,?_⟩;exact⟨⟨_,_,rfl⟩,⟨l,ns,i+1,z,a,b,k1,k2,h63,by omega,by omega,cg2,a0,a1⟩,g3.trans k3⟩
    ·obtain⟨k1,k2,k3⟩:=uA (i':=i+1) (c':=c) (a':=(a*40013+z%1000003+1)%2147483647) (b':=b) g1 g2;refine⟨_,rfl,f,_,3,_,rfl,rfl,gf,rfl,_,_,rfl,rfl,.inr ⟨by decide,by decide⟩,_,rfl,_,_,rfl,rfl,(by show (0:Int)<_;decide),_,_,rfl,rfl,_,_,rfl,rfl,_,_,rfl,rfl,(by show (0:Int)<_;decide),_,rfl,f,_,3,3,rfl,rfl,g1,rfl,?_⟩;exact⟨⟨_,_,rfl⟩,⟨l,ns,i+1,c,_,b,k1,k2,h63,by omega,by omega,c0,eI _ (by decide),dD _ (by decide)⟩,g3.trans k3⟩
   ·exact⟨⟨_,_,rfl⟩,⟨l,ns,i,c,a,b,h1,h2,h63,i0,i1,c0,a0,a1⟩,Sm.refl H⟩
  ·exact GZ ⟨⟨_,_,rfl⟩,⟨l,ns,i,c,a,b,h1,h2,h63,i0,i1,c0,a0,a1⟩,Sm.refl H⟩
 ·rintro _ H1 ⟨⟨o1,o2,rfl⟩,hF1,sm1⟩;clear hf h1 h2 i0 i1 c0 a0 a1 h63;obtain⟨l,ns,i,c,a,b,h1,h2,h63,i0,i1,c0,a0,a1⟩:=hF1;have hf:=SqL.of (K:=K) h1;refine⟨λσ' H'=>σ'=[some (.ref f),some (.int m),o1,o2]/\H'=H1,?_,?_⟩
  ·refine⟨_,rfl,f,_,2,_,rfl,rfl,hf,rfl,_,_,rfl,rfl,_,rfl,?_⟩;refine Ez (λcz=>?_) (λcz=>?_)
   ·obtain⟨k1,k2,k3⟩:=uA (i':=i) (c':=c.fdiv m) (a':=a) (b':=b) h1 h2;refine⟨_,rfl,f,_,2,_,rfl,rfl,hf,rfl,_,rfl,_,_,rfl,rfl,hm0,?_⟩;have fe:c.fdiv m=c / m:=cJ _ (by omega:(0:Int)<=m);refine⟨_,rfl,f,_,2,_,rfl,rfl,hf,rfl,_,rfl,_,_,rfl,rfl,⟨by omega,9000,hm1,by decide⟩,_,rfl,f,_,2,2,rfl,rfl,h1,rfl,?_⟩;refine⟨_,rfl,q _ _ (eI _ (by omega)) (dD _ hm0) ⟨l,ns,i,c.fdiv m,a,b,k1,k2,h63,i0,i1,by rw [fe];exact Int.ediv_nonneg c0 (by omega),a0,a1⟩ (sm1.trans k3)⟩
   ·exact⟨rfl,rfl⟩
  ·rintro _ _ ⟨rfl,rfl⟩;obtain⟨g1,g2,g3⟩:=uA (i':=i) (c':=c) (a':=a) (b':=b+1) h1 h2;have gf:=SqL.of (K:=K) g1;refine⟨_,rfl,f,_,4,_,rfl,rfl,hf,rfl,_,_,rfl,rfl,_,rfl,f,_,4,4,rfl,rfl,h1,rfl,?_⟩;obtain⟨k1,k2,k3⟩:=uA (i':=i) (c':=c) (a':=(a*48271+12820163+(b+1))%2147483647) (b':=b+1) g1 g2;have kf:=SqL.of (K:=K) k1;refine⟨_,rfl,f,_,3,_,rfl,rfl,gf,rfl,_,_,rfl,rfl,.inr ⟨by decide,by decide⟩,_,_,rfl,rfl,_,rfl,f,_,4,_,rfl,rfl,gf,rfl,_,_,rfl,rfl,_,_,rfl,rfl,(by show (0:Int)<_;decide),_,rfl,f,_,3,3,rfl,rfl,g1,rfl,?_⟩;have n0:=eI (a*48271+12820163+(b+1)) (show (2147483647:Int)≠0 by decide);have n1:=dD (a*48271+12820163+(b+1)) (show (0:Int)<2147483647 by decide);refine⟨_,rfl,f,_,3,_,rfl,rfl,kf,rfl,_,_,rfl,rfl,(by show (0:Int)<_;decide),_,_,rfl,rfl,_,rfl,f,_,3,_,rfl,rfl,kf,rfl,_,_,rfl,rfl,⟨by decide,by decide⟩,_,_,rfl,rfl,_,_,rfl,rfl,.inl ⟨by omega,by omega⟩,_,_,rfl,rfl,(by show (0:Int)<_;decide),_,_,rfl,rfl,⟨by decide,by decide⟩,_,rfl,_,_,rfl,rfl,hm0,?_⟩;exact q _ _ (eI _ (by omega)) (dD _ hm0) ⟨l,ns,i,c,_,b+1,k1,k2,h63,i0,i1,c0,n0,n1⟩ ((sm1.trans g3).trans k3)
def sF(K:Frag)(n:Nat):Sp:=λvs H Q _=>∃(d:DV) (x y:V),vs=[x,y]/\Rep K H d x/\Rep K H d y/\d.dp<n/\d.wd<=100000/\∀ H',Same H H'->Q (.bl true) H'
theorem kL:FnScope ["_law_found", "_law_due", "_law_k"] ["_law_found", "_law_due"] (qI sf):=⟨rfl,rfl,rfl,by decide +kernel,rfl,by decide +kernel,by decide +kernel⟩
theorem yY{n:Nat}{f0:Addr}{fd:FuncData}(F:Fun K "_law_alike" "_law_alike" sf f0 fd)(B:Bl mg)(g_law_alike:Def P w K mg base "_law_alike" n ["_law_found", "_law_due"] (sF K n)):FnOk P w K mg base x9 (n+1) f0 fd ["_law_found", "_law_due"] (sF K (n+1)):=by
 refine F.ok kL (λvs H Q E h=>?_) (λcdv A outer s H vs Q E hr h=>?_)
 ·obtain⟨d,x,y,rfl,_⟩:=h;rfl
 obtain⟨d,x,y,rfl,hx,hy,hd,hw,q⟩:=h;have nd:=kL.nd;refine⟨_,(t8 (@vd _ _ _ _ _ _ _ _ (LC K (@ra _ _ _ _ _ _ _ _ _ (Kw K) rfl B.isinstance re (@qK _ _ _ _ _ (pv 1) (@qK _ _ _ _ _ (@BW _ _ _ _ _ (@qK _ _ _ _ _ (@sg _ _ (.ty "list") _ _ rfl B.list tK rfl (by decide) (by decide)) (@qK _ _ _ _ _ (@sg _ _ (.ty "tuple") _ _ rfl B.tuple uk rfl (by decide) (by decide)) pa_nil (by rfl)) (by rfl))) pa_nil (by rfl)) (by rfl)) (by decide) (by decide) (by rfl) (by rfl)) (λ_=>rfl)) (t8 (@vd _ _ _ _ _ _ _ _ (@sI _ _ _ _ _ _ _ _ Ck (@ra _ _ _ _ _ _ _ _ _ (HK K) rfl B.isinstance re (@qK _ _ _ _ _ (pv 0) (@qK _ _ _ _ _ (@sg _ _ (.ty "list") _ _ rfl B.list tK rfl (by decide) (by decide)) pa_nil (by rfl)) (by rfl)) (by decide) (by decide) (by rfl) (by rfl)) (@ra _ _ _ _ _ _ _ _ _ (HK K) rfl B.isinstance re (@qK _ _ _ _ _ (pv 1) (@qK _ _ _ _ _ (@sg _ _ (.ty "list") _ _ rfl B.list tK rfl (by decide) (by decide)) pa_nil (by rfl)) (by rfl)) (by decide) (by decide) (by rfl) (by rfl)) (sL _)) (rL (@sZ _ _ _ _ B5)) pss_nil)
  (t8 (@vd _ _ _ _ _ _ _ _ (@sI _ _ _ _ _ _ _ _ Ck (@ra _ _ _ _ _ _ _ _ _ (HK K) rfl B.isinstance re (@qK _ _ _ _ _ (pv 0) (@qK _ _ _ _ _ (@sg _ _ (.ty "tuple") _ _ rfl B.tuple uk rfl (by decide) (by decide)) pa_nil (by rfl)) (by rfl)) (by decide) (by decide) (by rfl) (by rfl)) (@ra _ _ _ _ _ _ _ _ _ (HK K) rfl B.isinstance re (@qK _ _ _ _ _ (pv 1) (@qK _ _ _ _ _ (@sg _ _ (.ty "tuple") _ _ rfl B.tuple uk rfl (by decide) (by decide)) pa_nil (by rfl)) (by rfl)) (by decide) (by decide) (by rfl) (by rfl)) (sL _)) (rL (@sZ _ _ _ _ B5)) pss_nil)
  (rL (@sZ _ _ _ _ (yu (@uP _ _ _ _ _ _ _ _ xw (@ra _ _ _ _ _ _ _ _ _ (AQ K) rfl B.len uD (@qK _ _ _ _ _ (pv 0) pa_nil (by rfl)) (by decide) (by decide) (by rfl) (by rfl)) (@ra _ _ _ _ _ _ _ _ _ (AQ K) rfl B.len uD (@qK _ _ _ _ _ (pv 1) pa_nil (by rfl)) (by decide) (by decide) (by rfl) (by rfl)) (sL _)) (@yq _ _ _ _ _ (@ra _ _ _ _ _ _ _ _ _ (Jw K) rfl B.all Dq (@qK _ _ _ _ _ (@zu _ _ _ _ _ _ _ _ _ _ _ _ rfl (show CompS ["_law_found", "_law_due", "_law_k"] (qI sf) _ [2] from by exact⟨rfl,by decide +kernel,by decide +kernel,by decide +kernel,by decide +kernel⟩) (vR rfl B.range (@qK _ _ _ _ _ (@ra _ _ _ _ _ _ _ _ _ (AQ K) rfl B.len uD (@qK _ _ _ _ _ (pv 1) pa_nil (by rfl)) (by decide) (by decide) (by rfl) (by rfl)) pa_nil (by rfl))) (λ_ _ _ _ _=>(@wE _ _ 2 _ nd rfl (by first|exact Or.inl rfl|exact Or.inr rfl) (by first|exact .inl rfl|exact .inr rfl|assumption))) (λ_ _ _ _ _=>pts_nil) (λ_ _ _ _ _=>(@yt _ _ _ _ _ _ _ _ _ _ _ g_law_alike hr (@qK _ _ _ _ _ (@rK _ _ _ _ _ _ _ (KZ K) (pv 0) (pv 2) (λ_ _=>rfl)) (@qK _ _ _ _ _ (@rK _ _ _ _ _ _ _ (KZ K) (pv 1) (pv 2) (λ_ _=>rfl)) pa_nil (by rfl)) (by rfl)) (by first|decide|omega|exact af _) (by rfl) (by decide) (by rfl) (by rfl))) (by intro _;rfl)) pa_nil (by rfl)) (by decide) (by decide) (by rfl) (by rfl)))))))) pss_nil)
  (rL (@sZ _ _ _ _ (yu (@uP _ _ _ _ _ _ _ _ xw (@ra _ _ _ _ _ _ _ _ _ (HK K) rfl B.isinstance re (@qK _ _ _ _ _ (pv 0) (@qK _ _ _ _ _ (@sg _ _ (.ty "bool") _ _ rfl B.bool Ak rfl (by decide) (by decide)) pa_nil (by rfl)) (by rfl)) (by decide) (by decide) (by rfl) (by rfl)) (@ra _ _ _ _ _ _ _ _ _ (HK K) rfl B.isinstance re (@qK _ _ _ _ _ (pv 1) (@qK _ _ _ _ _ (@sg _ _ (.ty "bool") _ _ rfl B.bool Ak rfl (by decide) (by decide)) pa_nil (by rfl)) (by rfl)) (by decide) (by decide) (by rfl) (by rfl)) (sL _)) (@yq _ _ _ _ _ (@uP _ _ _ _ _ _ _ _ xw (pv 0) (pv 1) (sL _))))))),?_⟩
 rcases Aw hx hy with⟨rfl,t,bb,ty,hs,k1,k2,sc⟩|⟨tt,a,a',xs,ys,ds,rfl,rfl,q1,q2,r1,r2,e1,e2,e3⟩
 ·refine⟨λσ H'=>σ=[some x,some x,none]/\Same H H',?_,?_⟩
  ·refine⟨_,rfl,(by show 2<=sizeLine;decide),λp hp=>?_⟩;refine⟨x,p,t,false,["list", "tuple"],rfl,ty _,hs,qP,k1,_,rfl,?_⟩;exact GZ ⟨rfl,Same.new hp _⟩
  ·rintro _ H1 ⟨rfl,s1⟩;refine⟨_,rfl,_,_,_,_,rfl,ty _,k2,_,rfl,_,_,_,_,rfl,ty _,k2,rfl,_,rfl,?_⟩;rw [decide_eq_true rfl];refine GY ?_;refine⟨_,rfl,_,rfl,sc,?_⟩;rw [decide_eq_true rfl];exact q H1 s1
 ·have l1:=r1.length;have l2:=r2.length;obtain⟨k0,⟨b1,k1⟩,⟨b2,k2⟩⟩:=q1.kit;refine⟨λσ H'=>False,?_,λ_ _ z=>z.elim⟩;refine⟨_,rfl,(by show 2<=sizeLine;decide),λp hp=>?_⟩;have s1:=Same.new hp (.tup [.ty "list",.ty "tuple"]);refine⟨_,p,.type tt,true,["list", "tuple"],rfl,(q2.same s1).ty,nofun,qP,k0,_,rfl,?_⟩;refine GY ?_;have e1':=q1.same s1;have e2':=q2.same s1;refine⟨λσ H'=>σ=[some (.ref a),some (.ref a'),none]/\H'=rD H p (.tup [.ty "list",.ty "tuple"]),?_,?_⟩
  ·refine⟨_,rfl,_,_,_,_,rfl,e1'.ty,k1,_,rfl,_,_,_,_,rfl,e2'.ty,k1,rfl,_,rfl,?_⟩;exact Fp rfl ⟨rfl,rfl⟩
  ·rintro _ _ ⟨rfl,rfl⟩;refine⟨λσ H'=>σ=[some (.ref a),some (.ref a'),none]/\H'=rD H p (.tup [.ty "list",.ty "tuple"]),?_,?_⟩
   ·refine⟨_,rfl,_,_,_,_,rfl,e1'.ty,k2,_,rfl,_,_,_,_,rfl,e2'.ty,k2,rfl,_,rfl,?_⟩;exact Fp rfl ⟨rfl,rfl⟩
   ·rintro _ _ ⟨rfl,rfl⟩;refine⟨_,rfl,a,xs,rfl,e1'.len,_,rfl,a',ys,rfl,e2'.len,rfl,_,rfl,?_⟩;rw [decide_eq_true (show V.int (xs.length:Int)=V.int (ys.length:Int) by rw [← l1,← l2])];refine GY ?_;refine⟨_,rfl,a',ys,rfl,e2'.len,_,rfl,by omega,by omega,?_⟩;rw [aS];refine yT (n:=ys.length) (by rw [sizeLine_eq];omega) (λi τ zs H'=>(∃ o,τ=[some (.ref a),some (.ref a'),o])/\Same H H'/\zs=(List.replicate i true).map V.bl) ⟨⟨none,rfl⟩,s1,rfl⟩ ?_ ?_
    ·rintro i _ _ H1 hi hl ⟨⟨o,rfl⟩,s2,rfl⟩;obtain⟨v1,hv1⟩:∃ v,xs[i]? = some v:=⟨xs[i]'(by omega),ao _⟩;obtain⟨v2,hv2⟩:∃ v,ys[i]? = some v:=⟨ys[i]'hi,ao _⟩;obtain⟨d1,hd1,rp1⟩:=(r1.same s2).get hv1;obtain⟨d2,hd2,rp2⟩:=(r2.same s2).get hv2;rw [hd1] at hd2;cases hd2;have wm:=y9 (aL hd1);have ei:(0:Int)+(i:Int)=(i:Int):=bT _;refine⟨_,rfl,_,rfl,(q1.same s2).ix (by rw [ei];exact sq hv1) ?_⟩;refine⟨_,rfl,_,rfl,(q2.same s2).ix (by rw [ei];exact sq hv2) ?_⟩;refine⟨d1,v1,v2,rfl,rp1,rp2,by omega,by omega,λH2 s3=>?_⟩;refine LJ hi hl ⟨⟨_,rfl⟩,s2.trans s3,?_⟩;rw [List.replicate_succ',a5];rfl
    ·rintro _ _ H1 D hl ⟨⟨o,rfl⟩,s2,rfl⟩ hD;refine⟨D,_,rfl,SqL.of qP,?_⟩;have:(List.replicate ys.length true).all id=true:=by simp
     rw [this];exact q _ (s2.trans (Same.new hD _))
theorem yZ{f0:Addr}{fd:FuncData}:FnOk P w K mg base x9 0 f0 fd ["_law_found", "_law_due"] (sF K 0):=by
 have no:∀ vs H Q E,¬ sF K 0 vs H Q E:=λvs H Q E h=>by
  obtain⟨d,x,y,_,_,_,h1,_⟩:=h;omega
 exact⟨λvs H Q E h=>absurd h (no vs H Q E),λA outer s H args us vs Q E _ _ _ _ h=>absurd h (no vs H Q E)⟩
theorem t9{f0:Addr}{fd:FuncData}(F:Fun K "_law_alike" "_law_alike" sf f0 fd)(B:Bl mg)(m:mg "_law_alike" = some (.ref f0))(b:Binds K fd ["_law_found", "_law_due"] []):∀ n,FnOk P w K mg base x9 n f0 fd ["_law_found", "_law_due"] (sF K n)
 | 0=>yZ
 | n+1=>yY F B (.of F m b (t9 F B m b n))
theorem qv:FnScope ["_law_script", "_law_flow_here", "_law_chain", "_law_one", "_law_turn", "_law_places", "_law_k", "_law_kept", "_law_due", "_law_i", "_law_handed", "_law_found"] ["_law_script"] (qI Il):=Ds.sc (by kernel_rfl) rfl rfl rfl
end
def KT:List (Str×Nat):=("common_part",1)::("fraction",2)::("divided",3)::("one_form",5)::("over_one_bottom",6)::("poly",7)::("fraction_at",8)::("degree",9)::("lead",10)::("tops_together",11)::("tops_multiplied",12)::("whole_power",14)::("in_steps",16)::("root_tops",17)::("candidate",18)::("whole_steps",19)::("parted",20)::("digits",21)::("apart",23)::("put",25)::("exchanged",27)::("led",28)::("_law_flow",30)::("_law_pick",31)::("_law_alike",32)::("_law_common",33)::("_law_fraction",34)::("_law_product",35)::("_law_poly",36)::("_law_sum",37)::("_law_times",38)::("_law_of",39)::("_law_straight",40)::("_law_turned_back",41)::("_law_number",42)::("_law_any_fraction",43)::("_law_any_poly",44)::("_law_any_straight",45)::("_law_turning",46)::("_law_at",47)::("_law_high",48)::("_law_neat",49)::("_law_pair",50)::("_law_even_pair",51)::("_law_drawn_chain",52)::("_law_fits",53)::("law",54)::[]
theorem HC{l:PySem.W.OpenLaw}{w:World}{K:Frag}{h:Heap}{mg:Str->Option Value}{fa:Addr}(X:K.In h)(G:h.Ns mainGlobals mg)(hfa:mg "law" = some (.ref fa))(S:Ds.SlS top K KT)(Z:Ds.ZsO K Ds.K8)
  : ∃ fd:FuncData,(∀(s:Shared) (v:Value),BindsTo s fd ⟨[v],[]⟩ [("_law_script",v)])/\∀ base:Heap,K.In base->base.Ns mainGlobals mg->FnOk l.prog w K mg base x9 9 fa fd ["_law_script"] (Dp.zn K):=by
 have B:Bl mg:=Ds.Jt X G Z;have W:Ds.Mg K mg:=λ_ _ a=>PySem.W.mg_of X G a;obtain⟨f,a,fd,F⟩:=S.g (x := "law") 46 rfl;cases hfa.symm.trans (W _ _ a);refine⟨fd,?_,λbase _ _=>?_⟩
 ·obtain⟨oc,od,kV,doc,pm,an,cdv,ct,osl,rfl,lk,hcd⟩:=F.ex;exact λs v=>.of_eq rfl
 have E:Ds.EvO l.prog w K mg base top KT []:=⟨S,W,B,Ds.LQ⟩;have gf:Def l.prog w K mg base "_law_flow" 1 ["_law_script"] (u5 K):=by
  obtain⟨f,a,fd,F⟩:=S.g (x := "_law_flow") 22 rfl;exact .of F (W _ _ a) (F.binds (Ds.b1 λ_ _ _ _ _ _ _=>rfl)) (Ej F B)
 have gp:Def l.prog w K mg base "_law_pick" 1 ["_law_flow_here", "_law_many"] (Dp.xl K Dp.gT.n Dp.gT.run):=by
  obtain⟨f,a,fd,F⟩:=S.g (x := "_law_pick") 23 rfl;exact Dp.AA (.of F (W _ _ a) (F.binds (Ds.b2 λ_ _ _ _ _ _ _ _=>rfl)) (Ei F B))
 have G0:=Ds.Ky gp Ds.LP;have ga:Def l.prog w K mg base "_law_alike" 4 ["_law_found", "_law_due"] (Dp.xl K (Dp.iy 4).n (Dp.iy 4).run):=by
  obtain⟨f,a,fd,F⟩:=S.g (x := "_law_alike") 24 rfl;exact Dp.y4 (.of F (W _ _ a) (F.binds (Ds.b2 λ_ _ _ _ _ _ _ _=>rfl)) (t9 F B (W _ _ a) (F.binds (Ds.b2 λ_ _ _ _ _ _ _ _=>rfl)) 4))
 have Ga:=Ds.Ky ga G0;have G0:=Ds.sV E 0 0 rfl Ds.o0 Ga Dp.kM (Ds.h2 rfl);have G7:=Ds.sV E 7 0 rfl Ds.o0 G0 Dp.ox (Ds.h1 rfl);have G9:=Ds.sV E 9 0 rfl ([(47,[4])],[44],[4]) G7 Dp.j7 (Ds.h2 rfl);have G10:=Ds.sV E 10 0 rfl ([(55,[2])],[51],[2]) G9 Dp.jH (Ds.h2 rfl);have G11:=Ds.sV E 11 0 rfl Ds.o0 G10 Dp.kO (Ds.h2 rfl);have G13:=Ds.Fn E 13 0 rfl ([(71,[3])],[67],[3]) G11 Dp.kR ["falling", "k", "s", "made", "j", "parts", "i"] (Ds.h3 rfl);have G16:=Ds.sV E 16 0 rfl ([(94,[2,4])],[87,88],[2,4]) G13 Dp.m7 (Ds.h2 rfl);have G25:=Ds.sV E 25 0 rfl Ds.o0 G16 Dp.k4 (Ds.h2 rfl);have G45:=Ds.Fn E 45 0 rfl Ds.o0 G25 Dp.mX ["_law_some", "_law_p", "_law_top"] (Ds.h1 rfl);have G1:=Ds.sV E 1 1 rfl Ds.o0 G45 Dp.mT (Ds.h2 rfl);have G3:=Ds.sV E 3 1 rfl Ds.o0 G1 Dp.mR (Ds.h2 rfl);have G4:=Ds.sV E 4 1 rfl Ds.o0 G3 Dp.jr (Ds.h1 rfl);have G12:=Ds.Fn E 12 1 rfl Ds.o0 G4 Dp.mS ["tops", "c", "n", "i", "top"] (Ds.h2 rfl);have G15:=Ds.sV E 15 1 rfl Ds.o0 G12 Dp.ka (Ds.h1 rfl);have G26:=Ds.sV E 26 1 rfl Ds.o0 G15 Dp.ki (Ds.h2 rfl);have G28:=Ds.sV E 28 1 rfl ([(179,[0]),(183,[0]),(185,[0])],[179],[0]) G26 Dp.mM (Ds.h2 rfl);have G34:=Ds.sV E 34 1 rfl Ds.o0 G28 Dp.k8 (Ds.h2 rfl);have G2:=Ds.sV E 2 2 rfl Ds.o0 G34 Dp.nN (Ds.h2 rfl);have G5:=Ds.sV E 5 2 rfl Ds.o0 G2 Dp.oy (Ds.h1 rfl);have G6:=Ds.sV E 6 2 rfl Ds.o0 G5 Dp.kP (Ds.h2 rfl);have G14:=Ds.Fn E 14 2 rfl Ds.o0 G6 Dp.kS ["f", "s", "n", "k", "c", "falling", "made", "rising", "m"] (Ds.h2 rfl);have G19:=Ds.sV E 19 2 rfl Ds.o0 G14 Dp.pR (Ds.h2 rfl);have G27:=Ds.sV E 27 2 rfl Ds.o0 G19 Dp.kQ (Ds.h2 rfl);have G29:=Ds.sV E 29 2 rfl ([(193,[3])],[188],[3]) G27 Dp.nG (Ds.h2 rfl);have G30:=Ds.sV E 30 2 rfl ([(199,[2])],[195],[2]) G29 Dp.ms (Ds.h2 rfl);have G32:=Ds.sV E 32 2 rfl Ds.o0 G30 Dp.kq (Ds.h2 rfl);have G33:=Ds.sV E 33 2 rfl Ds.o0 G32 Dp.jI (Ds.h1 rfl);have G35:=Ds.sV E 35 2 rfl Ds.o0 G33 Dp.jx (Ds.h2 rfl);have G36:=Ds.Fn E 36 2 rfl Ds.o0 G35 Dp.ko ["_law_flow_here", "_law_many", "_law_most", "_law_tops", "_law_k", "_law_first"] (Ds.h3 rfl);have G39:=Ds.sV E 39 2 rfl Ds.o0 G36 Dp.mY (Ds.h2 rfl);have G8:=Ds.sV E 8 3 rfl Ds.o0 G39 Dp.pF (Ds.h1 rfl);have G31:=Ds.sV E 31 3 rfl Ds.o0 G8 Dp.ot (Ds.h2 rfl);have G37:=Ds.sV E 37 3 rfl Ds.o0 G31 Dp.jy (Ds.h2 rfl);have G38:=Ds.sV E 38 3 rfl ([],[223],[2]) G37 Dp.j8 (Ds.h2 rfl);have G40:=Ds.sV E 40 3 rfl Ds.o0 G38 Dp.mZ (Ds.h2 rfl);have G17:=Ds.Fn E 17 4 rfl ([(108,[11])],[103],[11]) G40 Dp.nc ["f", "h", "n", "s", "c", "by", "left", "i", "top", "over", "under", "told", "digit", "tops", "m"] (Ds.h2 rfl);have G41:=Ds.sV E 41 4 rfl ([(246,[1])],[238,239],[1,2]) G17 Dp.l5 (Ds.h1 rfl);have G42:=Ds.sV E 42 4 rfl Ds.o0 G41 Dp.l6 (Ds.h2 rfl);have G43:=Ds.sV E 43 4 rfl Ds.o0 G42 Dp.j9 (Ds.h2 rfl);have G18:=Ds.sV E 18 5 rfl Ds.o0 G43 Dp.oh (Ds.h2 rfl);have G44:=Ds.Fn E 44 5 rfl ([(287,[4]),(300,[11]),(303,[4])],[293,300],[4,11]) G18 Dp.jL ["_law_flow_here", "_law_most", "_law_way", "_law_some", "_law_chain", "_law_n", "_law_a", "_law_b", "_law_form", "_law_layers", "_law_turn", "_law_found", "_law_high_here", "_law_j"] (Ds.h2 rfl);have G20:=Ds.sV E 20 6 rfl Ds.o0 G44 Dp.kT (Ds.h2 rfl);have G21:=Ds.sV E 21 7 rfl Ds.o0 G20 Dp.pV (Ds.h2 rfl);exact Ds.GK (n:=40) (k:=8) (gc:=[]) (fz:=[]) (own:=[]) (mu:=[]) F B qv gf G21 E.c rfl (by decide) (by first|exact Or.inl rfl|exact Or.inr rfl) (by first|exact Or.inl rfl|exact Or.inr rfl) rfl (by kernel_rfl) Dp.Av
theorem walk{l:PySem.W.OpenLaw}{q:Program}{loose:List Str}{XP:(Str->Option Value)->Heap->Prop}{YP:World->Heap->Prop}{d:DefRec}{K:Params->Frag}(hn:l.most=some 63)(hdf:d.params.defaults=[])
  (hY:∀(w:World) (h:Heap),YP w h->(K w.params).In h)
  (F:∀(w:World) (mg:Str->Option Value) (fa:Addr) (h:Heap),(K w.params).In h->h.Ns mainGlobals mg->mg d.name=some (.ref fa) ->
   ∃ fd:FuncData,(∀(s:Shared) (u:Value),BindsTo s fd ⟨[u],[]⟩ [("_law_script",u)])/\∀ base:Heap,(K w.params).In base->base.Ns mainGlobals mg->FnOk l.prog w (K w.params) mg base x9 9 fa fd ["_law_script"] (Dp.zn (K w.params))) (hi:PyProof.Rows.importsNone q=true) (ht:l.prog.given.tree=none) :
  PySem.W.WalkO q loose XP YP l.row.toRowW d [] (λf vs=>PySem.call f vs) :=
 L2.DH (n:=63) (k:=9) (x := "_law_script") (CX:=λ_=>x9) (sp:=λw=>Dp.zn (K w.params)) hn (by decide) hdf ⟨rfl,by decide,by decide⟩ hY F (λ_ _ a ns hl _ hS=>⟨a,ns,rfl,hS,hl,λ_=>rfl⟩) (λ_ _ _ _ _ z=>z) hi ht
end My
def PySem.W.Fast.tw14616223765508534838:Unit:=()
def PySem.W.Fast.tw13404929825001743998:Unit:=()
def PySem.W.Fast.tw10686983081675732554:Unit:=()
def PySem.W.Fast.tw15411010058241633894:Unit:=()
def PySem.W.Fast.tw17719170171132889474:Unit:=()
def PySem.W.Fast.tw13808744285724886842:Unit:=()
def PySem.W.Fast.tw4708239757203391470:Unit:=()
def PySem.W.Fast.tw2342686083510483390:Unit:=()
def PySem.W.Fast.tw1834204572535281199:Unit:=()
def PySem.W.Fast.tw11131394861085370713:Unit:=()
def PySem.W.Fast.tw15000596635244705100:Unit:=()
def PySem.W.Fast.tw696933364888307689:Unit:=()
def PySem.W.Fast.tw13552022575241115282:Unit:=()
def PySem.W.Fast.tw11362215896361524329:Unit:=()
def PySem.W.Fast.tw15367473993556735129:Unit:=()
def PySem.W.Fast.tw876849353461873926:Unit:=()
def PySem.W.Fast.tw8688875007886174023:Unit:=()
def PySem.W.Fast.tw14329068279677838166:Unit:=()
def PySem.W.Fast.tw11508006907180935054:Unit:=()
def PySem.W.Fast.tw13627238029379630509:Unit:=()
def PySem.W.Fast.tw6145295670596718179:Unit:=()
def PySem.W.Fast.tw11218707364741771432:Unit:=()
def PySem.W.Fast.tw14506509833262500347:Unit:=()
def PySem.W.Fast.tw16679132988604376219:Unit:=()
def PySem.W.Fast.tw5859742467528313567:Unit:=()
def PySem.W.Fast.tw5880166955505361026:Unit:=()
def PySem.W.Fast.tw17062674887697008058:Unit:=()
def PySem.W.Fast.tw16586186818629907357:Unit:=()
def PySem.W.Fast.tw8474810163542229579:Unit:=()
def PySem.W.Fast.tw14684730803644625989:Unit:=()
def PySem.W.Fast.tw6461769597541714579:Unit:=()
def PySem.W.Fast.tw16198080282911875645:Unit:=()
def PySem.W.Fast.tw13045395044337159399:Unit:=()
def PySem.W.Fast.tw4171620109975969944:Unit:=()
def PySem.W.Fast.tw9938197272747687156:Unit:=()
def PySem.W.Fast.tw5660632296797631692:Unit:=()
def PySem.W.Fast.tw1177276001351318438:Unit:=()
def PySem.W.Fast.tw9191807780606175081:Unit:=()
def PySem.W.Fast.tw14652817185646736279:Unit:=()
def PySem.W.Fast.tw17377231329816641543:Unit:=()
def PySem.W.Fast.tw12814533226094963339:Unit:=()
def PySem.W.Fast.tw2742128428704326946:Unit:=()
def PySem.W.Fast.tw2945425545262264249:Unit:=()
def PySem.W.Fast.tw3879033077085413411:Unit:=()
def PySem.W.Fast.tw17591694816404257025:Unit:=()
def PySem.W.Fast.tw5411314578933775011:Unit:=()
def PySem.W.Fast.tw6044685276177104993:Unit:=()
def PySem.W.Fast.tw813152044156430650:Unit:=()
def PySem.W.Fast.tw6124547945444662935:Unit:=()
def PySem.W.Fast.tw8244533107530243785:Unit:=()
def PySem.W.Fast.tw17964254569865425246:Unit:=()
def PySem.W.Fast.tw16774774979564689655:Unit:=()
def PySem.W.Fast.tw858509352914603169:Unit:=()
def PySem.W.Fast.tw17475173968581385810:Unit:=()
def PySem.W.Fast.tw13448144632603262295:Unit:=()
def PySem.W.Fast.tw4639436469762768566:Unit:=()
def PySem.W.Fast.tw9421977343285099747:Unit:=()
def PySem.W.Fast.tw13204648291077690648:Unit:=()
def PySem.W.Fast.tw2248937211328790726:Unit:=()
def PySem.W.Fast.tw9845097198877930656:Unit:=()
def PySem.W.Fast.tw16409524666954925980:Unit:=()
def PySem.W.Fast.tw16280954207243689826:Unit:=()
def PySem.W.Fast.tw8247061576954495285:Unit:=()
def PySem.W.Fast.tw4225499804194751948:Unit:=()
def PySem.W.Fast.tw7743218956852826646:Unit:=()
def PySem.W.Fast.tw9787740806184028744:Unit:=()
def PySem.W.Fast.tw9136512089977342603:Unit:=()
open PySem PySem.W PyProof.Rows
set_option maxRecDepth 100000 in
set_option maxHeartbeats 0 in
theorem PySem.Challenge.cw_nestwright_k44_led_along_places_holds : PySem.Challenge.rw_nestwright_k44_led_along_places.Holds := by
 w_on;o_law;k_head;(case hw=>w_witness2)
 k_fill
 refine My.walk (l:=PySem.Challenge.rw_nestwright_k44_led_along_places) rfl rfl (fun w h Y=>PySem.W.kIn_of Y) ?F ?hi rfl
 (case hi=>kernel_rfl)
 case F =>
  intro w mg fa h KX G hmg;refine' My.HC KX G hmg ?S ?Z;case S =>
   iterate 47
    refine' Ds.SlS.c ?_ ?_ ?_ ?_ ?_;any_goals k_is
   exact trivial
  case Z =>
   iterate 19
    refine' Ds.ZsO.c ?_ ?_
    k_is
   exact trivial
