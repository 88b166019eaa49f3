import PyProof.Rows.All
import Wide.All
import OpenK.AllK
import Wide.FinOn
import Lean
import PyProof.EqAt
import PyProof.EqKinds
import PyProof.TupleCall
import KE.KSortTup
import PyProof.Rows.Range3
import KE.KRevIter
import PyProof.ListRange
import PySem.Challenge.RW_nestwright_k45_roads_from_chain_to_chain
open PySem.W (Frag)
open Array renaming length_toList → bX, getElem?_toList → cJ, getElem?_eq_getElem → fK
open Bool renaming and_eq_true_iff → ak, false_ne_true → aB, and_eq_true → aX, false_eq_true → bQ, eq_iff_iff → cm, not_eq_true' → dL, false_and → eI, or_eq_true → fB, or_eq_true_iff → gG
open Int renaming ne_of_gt → aq, eq_of_mul_eq_mul_right → aw, zero_mul → ay, mul_pos → aA, toNat_natCast → aG, pow_zero → aT, pow_succ → bc, eq_ofNat_of_zero_le → bo, mul_eq_zero → bu, mul_one → bv, pow_ne_zero → bB, mul_ne_zero → bC, natAbs_mul → bF, pow_pos → bH, mul_comm → bK, one_mul → bO, natAbs_natCast → bS, zero_add → bT, mul_zero → bU, mul_assoc → bZ, add_zero → cu, pow_add → cy, fdiv_eq_ediv_of_nonneg → dH, emod_lt_of_pos → dI, mul_fdiv_cancel_left → dP, emod_nonneg → eE, dvd_add → eJ, add_mul → eK, mul_fdiv_cancel → eQ, lt_trichotomy → e7, fmod_eq_emod_of_nonneg → fL, mul_neg_of_pos_of_neg → gh, fmod_nonneg_of_pos → gw, fmod_def → gx, gcd_eq_zero_iff → gJ, sub_add_cancel → gL, natCast_nonneg → gM, lt_or_gt_of_ne → gN, fmod_lt_of_pos → gO, dvd_mul_right → gT
open List renaming length_map → aa, getD_eq_getElem?_getD → ah, getElem?_eq_some_iff → ai, size_toArray → aj, length_append → am, mem_cons → ao, getElem?_eq_getElem → ar, getElem?_append_right → ax, mem_cons_of_mem → az, mem_cons_self → aF, getElem?_set_ne → aH, length_replicate → aI, getElem?_map → aJ, not_mem_nil → aK, length_reverse → aM, map_append → aN, mem_of_getElem? → aP, getElem?_set → aQ, getElem?_append_left → aR, mem_append_right → aU, mem_singleton → aV, length_take → bh, filterMap_cons → bq, length_cons → bt, getElem?_eq_none → bw, replicate_succ → bx, length_set → bz, mem_append → bE, mem_iff_getElem? → bI, getElem?_reverse → bJ, length_eq_zero_iff → bM, length_range' → bP, flatten_cons → bW, getD_cons_succ → bY, mem_filter → ce, append_nil → ci, getElem?_cons_succ → cw, all_eq_true → cx, take_length → cL, getElem_map → cO, getElem?_eq_none_iff → cP, drop_eq_getElem_cons → cQ, length_pos_iff → cU, getElem?_replicate → dc, mem_map → df, length_range → dh, ext_getElem → dj, map_cons → dm, nodup_cons → du, take_zero → dF, reverse_cons → dJ, getElem?_take_of_lt → dO, lookup_cons → dQ, length_drop → dR, getElem?_set_self → dU, length_singleton → d9, getElem?_toArray → eg, all_cons → eO, getElem?_take → eU, filterMap_nil → eV, append_assoc → eY, eraseIdxIfInBounds_toArray → e6, getElem_mem → e8, any_eq_true → e9, of_mem_zip → fk, nil_append → fv, dropLast_concat_getLast → fw, take_left → fE, mem_range → fI, drop_zero → fJ, length_filterMap_le → fZ, eq_of_mem_replicate → gb, any_cons → gg, take_of_length_le → gq, drop_of_length_le → gr, all_map → gu, dropLast_eq_take → gv, range_eq_range' → gy, mem_append_left → gz, length_eraseIdx → gA, getElem?_range' → gB, dropLast_concat → gC, getElem_of_mem → gF, mem_filterMap → gI, ext_getElem? → gK, map_reverse → gS
open Nat renaming le_refl → af, mul_le_mul_left → au, zero_le → aC, lt_or_ge → aD, lt_of_lt_of_le → aE, add_sub_cancel → aL, ne_of_lt → aO, mul_comm → aS, le_mul_of_pos_left → aW, succ_mul → aY, le_trans → aZ, mul_le_mul_right → bg, sub_self → bj, lt_irrefl → br, mul_le_mul → bA, sub_zero → bD, le_mul_of_pos_right → bN, pow_pos → bV, mul_succ → cq, eq_zero_or_pos → cF, eq_or_lt_of_le → cG, le_of_succ_le → cK, add_assoc → cV, pow_le_pow_right → dr, min_eq_left → dA, zero_mul → dD, ne_of_gt → dE, lt_of_le_of_lt → dG, mul_one → dM, add_mul → dN, dvd_mul_left → dS, le_of_lt → dW, not_lt_zero → dZ, pos_of_ne_zero → eX, zero_add → eZ, lt_succ_self → fi, mul_add → fj, eq_of_mul_eq_mul_left → fU, mul_assoc → gj, le_of_dvd → gk, pow_add → gD, le_succ → gE, lt_succ_of_lt → gP, le_of_lt_succ → gQ, gcd_dvd_right → gR
open Option renaming map_eq_some_iff → ab, ite_none_right_eq_some → ac, bind_eq_some_iff → ae, ite_none_left_eq_some → dq, getD_none → gH
open Rat renaming intCast_mul → av, pow_zero → cC, pow_succ → cE, intCast_pow → cI, mul_eq_zero → cZ, intCast_eq_zero_iff → de, intCast_add → dw, intCast_sub → dX, intCast_inj → dY
open PySem renaming wpAny_bind → ηB,wpAny_pure → ηP
open PySem.Heap renaming get?_push_of_some → ηH,lt_size → ηL,get?_push_size → ηG
set_option Elab.async false
set_option linter.all false
set_option maxRecDepth 100000
set_option genSizeOf false
set_option bootstrap.genMatcherCode false
local macro_rules|`(tactic| omega) => `(tactic| lia)
namespace L2
open PySem PySem.Spec PyProof.Rows
abbrev vw:=Sum Int Str
def wL:vw->Value->Bool
 | .inl k,v=>Value.isInt k v
 | .inr x,v=>Value.isStrOf x v
def Lk(w:World):vw->Int
 | .inl k=>hashInt k
 | .inr x=>hashStr w x
theorem rc:∀{k:vw} {v:Value},wL k v=true->(∃ i t,k=Sum.inl i/\v=Value.int i t)\/(∃ x t,k=Sum.inr x/\v=Value.str x t)
 | .inl i,v,h=>by
  obtain⟨t,e⟩:=Value.isInt_shape (k:=i) (v:=v) h;exact .inl ⟨i,t,rfl,e⟩
 | .inr x,v,h=>by
  obtain⟨t,e⟩:=Value.isStrOf_shape (x:=x) (v:=v) h;exact .inr ⟨x,t,rfl,e⟩
theorem BJ(i:Int)(t:Tok):wL (.inl i) (.int i t)=true:=by simp[wL,Value.isInt]
theorem BI(x:Str)(t:Tok):wL (.inr x) (.str x t)=true:=by simp[wL,Value.isStrOf]
theorem HX(a b:Int):decide ((Sum.inl a:vw)=Sum.inl b)=(a == b):=by
 by_cases e:a=b
 ·subst e;simp
 ·have h:¬ (Sum.inl a:vw)=Sum.inl b:=λq=>e (Sum.inl.inj q);rw[decide_eq_false h];exact (beq_eq_false_iff_ne.mpr e).symm
theorem HU(a b:Str):decide ((Sum.inr a:vw)=Sum.inr b)=decide (a=b):=by
 by_cases e:a=b
 ·subst e;simp
 ·have h:¬ (Sum.inr a:vw)=Sum.inr b:=λq=>e (Sum.inr.inj q);rw[decide_eq_false h,decide_eq_false e]
theorem HW(a:Int)(b:Str):decide ((Sum.inl a:vw)=Sum.inr b)=false:=decide_eq_false (λq=>nomatch q)
theorem HV(a:Str)(b:Int):decide ((Sum.inr a:vw)=Sum.inl b)=false:=decide_eq_false (λq=>nomatch q)
def ur(prog:Program)(w:World):PySem.KeyKind prog w vw where
 is:=wL
 hash:=Lk w
 inj:=λv a b ha hb=>by
  rcases rc ha with⟨i,t,rfl,rfl⟩|⟨x,t,rfl,rfl⟩
  ·rcases rc hb with⟨j,u,rfl,e⟩|⟨y,u,rfl,e⟩
   ·injection e with e1 _;rw[e1]
   ·exact nomatch e
  ·rcases rc hb with⟨j,u,rfl,e⟩|⟨y,u,rfl,e⟩
   ·exact nomatch e
   ·injection e with e1 _;rw[e1]
 byValue:=λk v h=>by
  rcases rc h with⟨i,t,rfl,rfl⟩|⟨x,t,rfl,rfl⟩ <;> rfl
 pyHash:=λhv h=>by
  rcases rc hv with⟨i,t,rfl,rfl⟩|⟨x,t,rfl,rfl⟩
  ·exact wpAny_pyHash_int h
  ·exact wpAny_pyHash_str h
 eqBool:=λhu hv h=>by
  rcases rc hu with⟨i,t,rfl,rfl⟩|⟨x,t,rfl,rfl⟩
  ·rcases rc hv with⟨j,u,rfl,rfl⟩|⟨y,u,rfl,rfl⟩
   ·rw[HX] at h;exact wpAny_eqBool_int h
   ·rw[HW] at h;exact SeqAt.EqAt.int_str i t y u _ _ _ _ h
  ·rcases rc hv with⟨j,u,rfl,rfl⟩|⟨y,u,rfl,rfl⟩
   ·rw[HV] at h;exact SeqAt.EqAt.str_int x t j u _ _ _ _ h
   ·rw[HU] at h;exact wpAny_eqBool_str h
 «strs» := λk x t v h=>by
  rcases rc h with⟨i,u,rfl,e⟩|⟨y,u,rfl,e⟩
  ·exact nomatch e
  ·injection e with e1 _;subst e1;cases v <;> rfl
inductive V where
 | non|bl (b:Bool)|int (i:Int)|str (x:Str)|byt (b:Array UInt8)|flt (b:UInt64)|ref (a:Addr)|ty (n:String)
 deriving DecidableEq
def RelV:V->Value->Prop
 | .non,u=>u=Value.none
 | .bl b,u=>u=Value.bool b
 | .int i,u=>∃ t,u=Value.int i t
 | .str x,u=>∃ t,u=Value.str x t
 | .byt b,u=>∃ t,u=Value.bytes b t
 | .flt b,u=>∃ t,u=Value.float b t
 | .ref a,u=>u=Value.ref a
 | .ty n,u=>u=Value.type n
abbrev Vals:List V->List Value->Prop:=Paired RelV
theorem Vals.length(r:Vals xs us):xs.length=us.length:=Paired.length r
theorem Vals.get:∀{xs:List V} {us:List Value} {i:Nat} {x:V},Vals xs us->xs[i]? = some x->∃ u,us[i]? = some u/\RelV x u
 | _,_,_,_,.nil,e=>by simp at e
 | _,_,0,_,.cons r _,e=>by simp at e;subst e;exact⟨_,rfl,r⟩
 | _,_,i+1,x,.cons _ t,e=>by
  obtain⟨u,h1,h2⟩:=Vals.get (i:=i) (x:=x) t (by simpa using e);exact⟨u,by simpa using h1,h2⟩
theorem Vals.set(r:RelV x u):∀{xs:List V} {us:List Value} (i:Nat),Vals xs us->Vals (xs.set i x) (us.set i u)
 | _,_,_,.nil=>.nil
 | _,_,0,.cons _ t=>.cons r t
 | _,_,i+1,.cons q t=>.cons q (Vals.set r i t)
theorem Vals.append:∀{xs ys:List V} {us ws:List Value},Vals xs us->Vals ys ws->Vals (xs++ys) (us++ws)
 | _,_,_,_,.nil,s=>s
 | _,_,_,_,.cons r t,s=>.cons r (Vals.append t s)
theorem Vals.take:∀{xs:List V} {us:List Value} (n:Nat),Vals xs us->Vals (xs.take n) (us.take n)
 | _,_,0,_=>.nil
 | _,_,_+1,.nil=>.nil
 | _,_,n+1,.cons r t=>.cons r (Vals.take n t)
theorem Vals.drop:∀{xs:List V} {us:List Value} (n:Nat),Vals xs us->Vals (xs.drop n) (us.drop n)
 | _,_,0,r=>r
 | _,_,_+1,.nil=>.nil
 | _,_,n+1,.cons _ t=>Vals.drop n t
def II:Option V->Option Value->Prop
 | some v,some u=>RelV v u
 | none,none=>True
 | _,_=>False
def KV{κ:Type}:List (κ×V)->List (κ×Value)->Prop:=Paired λ(p:κ×V) (q:κ×Value)=>p.1=q.1/\RelV p.2 q.2
def kV:vw->V
 | .inl i=>.int i
 | .inr x=>.str x
inductive HO where
  | lst (xs:List V)
  | tup (xs:List V)
  | dK (kvs:List (vw×V))|dT (kvs:List (List vw×V))
  | set (S:Int->Bool) (n:Nat)
  | ins (C dx:Addr) (fs:List (Str×V))
  | own (x:Addr)
  | xd (fs:List (Str×V))
  | met (f x:Addr)
  | rng (lo hi:Int)
  | frz (o:Obj) (u:HO)
  | tbl (ps:Array Value)
  | ext (φ:Heap->Prop)
abbrev Hp:=Addr->Option HO
def rg(H:Hp)(a:Addr)(o:HO):Hp:=λb=>if b=a then some o else H b
theorem qK:rg H a o a=some o:=by unfold rg;rw[if_pos rfl]
theorem qJ(h:b≠a):rg H a o b=H b:=by unfold rg;rw[if_neg h]
theorem JG{H:Hp}{a b:Addr}{o u:HO}(h:H a=some o)(h':H b=some u)(d:o≠u):a≠b:=by
 intro e;subst e;rw[h] at h';exact d (Option.some.inj h')
theorem qO{H:Hp}{o:HO}(h:H a=some o)(h':H b=none):a≠b:=by
 intro e;subst e;rw[h] at h';cases h'
section
variable(P:Program)(w:World)
def ObjOk(H:Hp)(h:Heap)(a:Addr):HO->Prop
 | .lst xs=>xs.length<=sizeLine/\∃(its:List Value) (n:Nat),Vals xs its/\h.get? a=some { cls:=.type "list",data:=.seq its.toArray n }
 | .tup xs=>xs.length<=sizeLine/\∃ its:List Value,Vals xs its/\IsTup h a its.toArray
 | .dK kvs=>kvs.length<=sizeLine/\(a == sysModules)=false/\∃ vs,KV kvs vs/\h.DictOf (ur P w) a vs
 | .dT kvs=>kvs.length<=sizeLine/\(a == sysModules)=false/\∃ xs:List (List vw×Addr×Value),
   Paired (λ(p:List vw×V) (q:List vw×Addr×Value)=>p.1=q.1/\H q.2.1=some (.tup (p.1.map kV))/\RelV p.2 q.2.2) kvs xs /\
   ∃ o es ep,h.get? a=some o/\o.ExactDict/\o.data = .dict es ep/\es.toList=xs.map (entryOfKey (tupleKind (ur P w)))/\(xs.map (·.1)).Nodup
 | .set S n=>h.SetOf (intKind P w) a S n
 | .ins C dx fs=>H dx=some (.own a)/\fs.length<=1000/\dx≠a/\h.get? a=some (PySem.W.instObj C dx) /\
   ∃ mA,h.Ns1 dx mA/\(∀ f,II (fs.lookup f) (mA f))/\PySem.Within mA (fs.map (·.1))
 | .own _=>∃ o,h.get? a=some o
 | .xd fs=>∃ mA,h.Ns1 a mA/\∀ f,II (fs.lookup f) (mA f)
 | .rng lo hi=>∃ t u v,h.get? a=some { cls:=.type "range",data:=.fields #[.int lo t,.int hi u,.int 1 v] }
 | .frz o u=>h.get? a=some o/\ObjOk H h a u
 | .tbl ps=>h.get? a=some { cls:=.none,data:=.fields ps }
 | .met f x=>h.get? a=some (PySem.W.methodObj (.ref f) (.ref x))
 | .ext φ=>φ h/\(∃ o,h.get? a=some o)/\∀ h1 h2:Heap,φ h1->(∀ o,h1.get? a=some o->h2.get? a=some o)->φ h2
def HOk(H:Hp)(h:Heap):Prop:=∀ a o,H a=some o->ObjOk P w H h a o
end
section
variable{P:Program}{w:World}{H H':Hp}{h h':Heap}{a:Addr}{o:HO}
theorem ObjOk.lt(x:ObjOk P w H h a o):a<h.objs.size:=by
 cases o with
 | lst xs=>obtain⟨_,_,_,_,e⟩:=x;exact ηL e
 | tup xs=>obtain⟨_,_,_,p⟩:=x;exact p.lt
 | dK kvs=>obtain⟨_,_,_,_,o,_,_,e,_⟩:=x;exact ηL e
 | dT kvs=>obtain⟨_,_,_,_,o,_,_,e,_⟩:=x;exact ηL e
 | set S n=>obtain⟨o,_,_,_,e,_⟩:=x;exact ηL e
 | ins C dx fs=>obtain⟨_,_,_,e,_⟩:=x;exact ηL e
 | own y=>obtain⟨_,e⟩:=x;exact ηL e
 | xd fs=>obtain⟨_,⟨_,_,_,e,_⟩,_⟩:=x;exact ηL e
 | rng lo hi=>obtain⟨_,_,_,e⟩:=x;exact ηL e
 | frz ob u=>obtain⟨e,_⟩:=x;exact ηL e
 | tbl ps=>exact ηL (show h.get? a=some _ from x)
 | met f y=>exact ηL (show h.get? a=some _ from x)
 | ext φ=>obtain⟨_,⟨_,e⟩,_⟩:=x;exact ηL e
theorem Paired.mapP{α β:Type}{F G:α->β->Prop}:∀{l₁:List α} {l₂:List β},Paired F l₁ l₂->(∀ a b,F a b->G a b)->Paired G l₁ l₂
 | _,_,.nil,_=>.nil
 | _,_,.cons r t,f=>.cons (f _ _ r) (Paired.mapP t f)
theorem ObjOk.stay(x:ObjOk P w H h a o)(k:∀ b u,(b=a\/H b=some (.own a))->h.get? b=some u->h'.get? b=some u)
  (ho:∀ b,H b=some (.own a)->H' b=some (.own a)) (ht:∀ b xs,H b=some (.tup xs)->H' b=some (.tup xs)):ObjOk P w H' h' a o:=by
 induction o with
 | lst xs=>obtain⟨z,its,n,r,e⟩:=x;exact⟨z,its,n,r,k _ _ (.inl rfl) e⟩
 | tup xs=>obtain⟨z,its,r,ob,e,c⟩:=x;exact⟨z,its,r,ob,k _ _ (.inl rfl) e,c⟩
 | dK kvs=>obtain⟨z,y,vs,r,ob,es,ep,e,c⟩:=x;exact⟨z,y,vs,r,ob,es,ep,k _ _ (.inl rfl) e,c⟩
 | dT kvs =>
  obtain⟨z,y,xs,r,ob,es,ep,e,c⟩:=x;exact⟨z,y,xs,Paired.mapP r λp q z=>⟨z.1,ht _ _ z.2.1,z.2.2⟩,ob,es,ep,k _ _ (.inl rfl) e,c⟩
 | set S n=>obtain⟨ob,es,ep,t,e,c⟩:=x;exact⟨ob,es,ep,t,k _ _ (.inl rfl) e,c⟩
 | ins C dx fs =>
  obtain⟨d,z,ne,e,mA,⟨od,es,ep,e2,c⟩,r⟩:=x;exact⟨ho _ d,z,ne,k _ _ (.inl rfl) e,mA,⟨od,es,ep,k _ _ (.inr d) e2,c⟩,r⟩
 | own y=>obtain⟨ob,e⟩:=x;exact⟨ob,k _ _ (.inl rfl) e⟩
 | xd fs=>obtain⟨mA,⟨od,es,ep,e,c⟩,r⟩:=x;exact⟨mA,⟨od,es,ep,k _ _ (.inl rfl) e,c⟩,r⟩
 | rng lo hi=>obtain⟨t,u,v,e⟩:=x;exact⟨t,u,v,k _ _ (.inl rfl) e⟩
 | frz ob u ih=>obtain⟨e,q⟩:=x;exact⟨k _ _ (.inl rfl) e,ih q⟩
 | tbl ps =>
  have e:h.get? a=some { cls:=.none,data:=.fields ps }:=x;show h'.get? a=some { cls:=.none,data:=.fields ps };exact k a _ (.inl rfl) e
 | met f y =>
  have e:h.get? a=some (PySem.W.methodObj (.ref f) (.ref y)):=x;show h'.get? a=some (PySem.W.methodObj (.ref f) (.ref y));exact k a _ (.inl rfl) e
 | ext φ=>obtain⟨p,⟨o,e⟩,st⟩:=x;exact⟨st _ _ p λo q=>k _ _ (.inl rfl) q,⟨o,k _ _ (.inl rfl) e⟩,st⟩
theorem HOk.lt(x:HOk P w H h)(e:H a=some o):a<h.objs.size:=(x a o e).lt
theorem HOk.fresh(x:HOk P w H h)(e:h.objs.size<=a):H a=none:=by
 cases q:H a with
 | none=>rfl
 | some u=>exact absurd (aE (x.lt q) e) (br _)
theorem HOk.kept(x:HOk P w H h)(k:∀ b u,h.get? b=some u->h'.get? b=some u):HOk P w H h':=λa o e =>
 (x a o e).stay (λb u _ q=>k b u q) (λ_ q=>q) λ_ _ q=>q
theorem HOk.laid(x:HOk P w H h)(k:∀ b u,h.get? b=some u->h'.get? b=some u)(hp:h.objs.size<=a)(new:ObjOk P w (rg H a o) h' a o):HOk P w (rg H a o) h':=λb u e=>by
 have hn:=x.fresh hp;by_cases hb:b=a
 ·subst hb;rw[qK] at e;cases e;exact new
 ·rw[qJ hb] at e;exact (x b u e).stay (λc v _ q=>k c v q) (λc q=>by rw[qJ (qO q hn)];exact q) λc xs q=>by rw[qJ (qO q hn)];exact q
end
def Rd(H:Hp)(a:Addr)(u:HO):Prop:=H a=some u\/∃ o,H a=some (.frz o u)
theorem Rd.ok(r:Rd H a u)(x:HOk P w H h):ObjOk P w H h a u:=by
 rcases r with r|⟨o,r⟩
 ·exact x a u r
 ·obtain⟨_,q⟩:=x a _ r;exact q
def Ky:Option HO->Prop
 | some (.lst _)=>True
 | some (.dK _)=>True
 | some (.dT _)=>True
 | some (.set _ _)=>True
 | some (.ins _ _ _)=>True
 | some (.ext _)=>True
 | _=>False
section
variable{P:Program}{w:World}{H:Hp}{h h':Heap}{x e:Addr}{o':HO}
theorem HOk.write(ok:HOk P w H h)(mu:Ky (H x))(he:e=x\/H e=some (.own x))(k:∀ b u,b≠e->h.get? b=some u->h'.get? b=some u)(heo:∃ u,h'.get? e=some u)
  (new:ObjOk P w (rg H x o') h' x o'):HOk P w (rg H x o') h':=λb u q=>by
 have nown:∀ c y,H c=some (.own y)->c≠x:=λc y r z=>by subst z;rw[r] at mu;exact mu
 have ntup:∀ c xs,H c=some (.tup xs)->c≠x:=λc xs r z=>by subst z;rw[r] at mu;exact mu
 by_cases hb:b=x
 ·subst hb;rw[qK] at q;cases q;exact new
 ·rw[qJ hb] at q;by_cases hbe:b=e
  ·have q':H b=some (.own x):=by
    rcases he with z|z
    ·exact absurd (hbe.trans z) hb
    ·rw[hbe];exact z
   rw[q] at q';cases q';obtain⟨v,hv⟩:=heo;exact⟨v,by rw[hbe];exact hv⟩
  ·refine (ok b u q).stay (λc v hc r=>k c v ?_ r) (λc r=>by rw[qJ (nown c b r)];exact r) λc xs r=>by rw[qJ (ntup c xs r)];exact r
   rcases hc with rfl|hc
   ·exact hbe
   ·rintro rfl;rcases he with z|z
    ·exact nown c b hc z
    ·rw[hc] at z;cases z;exact hb rfl
end
structure Un (fs ex:List Addr)(H H':Hp)(h h':Heap):Prop where
 keep:∀ b o,h.get? b=some o->H b=none->b ∉ fs->b ∉ ex->h'.get? b=some o
 slot:∀ b o,h.get? b=some o->H b=none->b∈fs->b ∉ ex->∃ sl,h'.get? b=some { o with slots:=sl }
 free:∀ b o,h.get? b=some o->H b=none->b ∉ ex->H' b=none
 there:∀ b o,h.get? b=some o->b ∉ ex->∃ o',h'.get? b=some o'
 tups:∀ b xs,H b=some (.tup xs)->H' b=some (.tup xs)
 frzs:∀ b o u,H b=some (.frz o u)->H' b=some (.frz o u)
 tbls:∀ b ps,H b=some (.tbl ps)->∃ more,H' b=some (.tbl (ps++more))
section
variable{fs fs' ex ex':List Addr}{H H1 H2:Hp}{h h1 h2 h':Heap}{a x e:Addr}{o:HO}
theorem Un.any(u:Un fs ex H H1 h h1)(q:h.get? b=some ob)(n:H b=none)(hx:b ∉ ex):∃ sl,h1.get? b=some { ob with slots:=sl }:=by
 by_cases hb:b∈fs
 ·exact u.slot b ob q n hb hx
 ·exact⟨ob.slots,u.keep b ob q n hb hx⟩
theorem Un.kept(k:∀ b u,h.get? b=some u->h'.get? b=some u):Un fs ex H H h h' :=
 ⟨λb ob q _ _ _=>k b ob q,λb ob q _ _ _=>⟨ob.slots,k b ob q⟩,λ_ _ _ n _=>n,λb ob q _=>⟨ob,k b ob q⟩,λ_ _ q=>q,λ_ _ _ q=>q,λ_ ps q=>⟨#[],by rw[q];simp⟩⟩
theorem Un.refl:Un fs ex H H h h:=Un.kept λ_ _ q=>q
theorem Un.laid(k:∀ b u,h.get? b=some u->h'.get? b=some u)(hp:h.objs.size<=a)(hn:H a=none):Un fs ex H (rg H a o) h h' where
 keep:=λb u q _ _ _=>k b u q
 slot:=λb u q _ _ _=>⟨u.slots,k b u q⟩
 free:=λb u q n _=>by rw[qJ (aO (aE (ηL q) hp))];exact n
 there:=λb u q _=>⟨u,k b u q⟩
 tups:=λb xs q=>by rw[qJ (qO q hn)];exact q
 frzs:=λb u xs q=>by rw[qJ (qO q hn)];exact q
 tbls:=λb ps q=>⟨#[],by rw[qJ (qO q hn),q];simp⟩
theorem Un.write(mu:Ky (H x))(he:e=x\/H e=some (.own x))(k:∀ b u,b≠e->h.get? b=some u->h'.get? b=some u)(heo:∃ u,h'.get? e=some u):Un fs ex H (rg H x o) h h':=by
 have hx:∀ b,H b=none->b≠x:=λb n z=>by subst z;rw[n] at mu;exact mu
 have hb:∀ b,H b=none->b≠e:=λb n z=>by
  subst z;rcases he with r|r
  ·exact hx b n r
  ·rw[n] at r;cases r
 have hm:∀ b u,H b=some u->¬ Ky (some u)->b≠x:=λb u q nm z=>by subst z;rw[q] at mu;exact nm mu
 refine⟨λb u q n _ _=>k b u (hb b n) q,λb u q n _ _=>⟨u.slots,k b u (hb b n) q⟩,λb u q n _=>by rw[qJ (hx b n)];exact n,λb u q _=>?_,
  λb xs q=>by rw[qJ (hm b _ q λz=>z)];exact q,λb u xs q=>by rw[qJ (hm b _ q λz=>z)];exact q,λb ps q=>⟨#[],by rw[qJ (hm b _ q λz=>z),q];simp⟩⟩
 by_cases hbe:b=e
 ·subst hbe;exact heo
 ·exact⟨u,k b u hbe q⟩
end
def Kq(h:Heap)(H:Hp):List Addr:=(List.range h.objs.size).filter λa=>(H a).isSome
def wj(h:Heap)(H:Hp):Heap:=PySem.W.hideAll h (Kq h H)
theorem BO(h:Heap)(H:Hp):(wj h H).objs.size=h.objs.size:=PySem.W.hideAll_size _ _
theorem Du(e:h.get? b=some o)(n:H b=none):(wj h H).get? b=some o :=
 PySem.W.hideAll_get _ e λhm=>by
  have q:(H b).isSome=true:=(ce.mp hm).2;rw[n] at q;simp at q
theorem E9(e:(wj h H).get? b=some o):h.get? b=some o/\H b=none:=by
 have e':h.get? b=some o:=PySem.W.of_hideAll (Kq h H) e;refine⟨e',?_⟩;cases q:H b with
 | none=>rfl
 | some x =>
  have hm:b∈Kq h H:=ce.mpr ⟨fI.mpr (ηL e'),by simp[q]⟩;have z:(wj h H).get? b=none:=PySem.W.hideAll_none (Kq h H) hm;rw[z] at e;cases e
structure Mod (K:Frag)(mg:Str->Option Value)(base:Heap):Prop where
 kin:K.In base
 glob:base.Ns mainGlobals mg
 blt:∃ mb,base.Ns builtinsNs mb/\∀ x:Str,x ≠ "__name__" -> mb x=bootBuiltins x
 nolimit:base.NoLimit
structure Cx where
 prog:Program
 w:World
 K:Frag
 mg:Str->Option Value
 base:Heap
 A:Around
 N:List Str
 s₀:Shared
 H₀:Hp
 env:Env
 outer:List Env
 stack:List Env
 ex:List Addr
 fn:Str->Bool
 calm:Bool
 pn:List (Addr×Obj)
 xe:Value->Shared->Prop
def AV(l:List Env):List Addr:=l.filterMap (·.frame)
abbrev Cx.fs(X:Cx):List Addr:=AV X.outer
def GC(sc:Scope)(x:Str):Prop:=sc.names.lookup x=some .local\/sc.names.lookup x=some .cell\/sc.names.lookup x=some .free
def yW(sc:Scope)(x:Str):Prop:=sc.names.lookup x=some .local\/sc.names.lookup x=some .cell
def LN(env:Env)(h:Heap)(m:Str->Option Value)(x:Str)(u:Value):Prop :=
 (env.kindOf x=some .local/\m x=some u)\/((env.kindOf x=some .cell\/env.kindOf x=some .free)/\∃ c,env.cells.lookup x=some c/\h.IsCell c (some u))
structure Cx.Ok (X:Cx):Prop where
 mod:Mod X.K X.mg X.base
 kind:X.env.scope.kind = .function
 glob:X.env.globals=mainGlobals
 blt:X.env.builtins=builtinsNs
 above:X.s₀.heap.objs.size<=X.env.locals
 inj:∀ x y c,X.env.cells.lookup x=some c->X.env.cells.lookup y=some c->x=y
 has:∀ x,(X.env.kindOf x=some .cell\/X.env.kindOf x=some .free)->∃ c,X.env.cells.lookup x=some c
 cab:∀ x c,X.fn x=true->X.env.cells.lookup x=some c->X.s₀.heap.objs.size<=c
 hd:X.calm=true->X.A.handled=none
 frames:X.A.frames=some X.stack
 stk:X.stack=X.outer\/(X.stack=X.env::X.outer/\X.env.frame=some X.env.locals)
 exf:∀ b∈X.ex,b≠X.env.locals/\∀ x c,X.env.cells.lookup x=some c->c≠b
 bs:∀ b o,X.base.get? b=some o->X.s₀.heap.get? b=some o/\X.H₀ b=none
 bsz:X.base.objs.size<=X.s₀.heap.objs.size
 noex:∀ b o,X.base.get? b=some o->b ∉ X.ex
 exfs:∀ b∈X.ex,b ∉ X.fs
 funs:X.s₀.heap.FunFrames X.base X.outer
 frf:∀ b∈X.fs,X.H₀ b=none
 sr:X.base.NoSeer/\X.prog.given.tree=none
 rn:∃ e l,X.stack=e::l/\e.scope.isGenerator=false/\e.scope.isCoroutine=false/\e.builtins=builtinsNs/\e.globals=mainGlobals
structure Inv (X:Cx)(pins:List (Addr×Obj))(σ:List (Option V))(H:Hp)(s:Shared):Prop where
 ok:X.Ok
 os:s.os=X.s₀.os
 bare:AllBare s.gens
 base:Un X.fs X.ex X.H₀ H X.s₀.heap s.heap
 loc:∃ m,s.heap.Ns X.env.locals m/\∀(i:Nat) (x:Str) (v:V),X.N[i]? = some x->σ[i]? = some (some v)->GC X.env.scope x->∃ u,RelV v u/\LN X.env s.heap m x u
 cell:∀ x c,X.env.cells.lookup x=some c->∃ v,s.heap.IsCell c v
 free:H X.env.locals=none
 freeC:∀ x c,X.env.cells.lookup x=some c->H c=none
 pin:∀ p∈X.pn++pins,s.heap.get? p.1=some p.2/\H p.1=none/\p.1≠X.env.locals/\p.1 ∉ X.fs/\∀ v,p.2.data ≠ .cell v
 hok:HOk X.prog X.w H s.heap
 len:σ.length=X.N.length
section
variable{X:Cx}{pins:List (Addr×Obj)}{σ:List (Option V)}{H H':Hp}{s:Shared}{h':Heap}
theorem Cx.Ok.nofr(ok:X.Ok)(e:X.base.get? b=some o):b ∉ X.fs:=λhb=>by
 have:=(ok.funs.mem hb).1;rw[e] at this;cases this
theorem Inv.bs(I:Inv X pins σ H s):∀ b o,X.base.get? b=some o->s.heap.get? b=some o/\H b=none:=λb o e =>
 ⟨I.base.keep b o (I.ok.bs b o e).1 (I.ok.bs b o e).2 (I.ok.nofr e) (I.ok.noex b o e),I.base.free b o (I.ok.bs b o e).1 (I.ok.bs b o e).2 (I.ok.noex b o e)⟩
theorem Inv.bk(I:Inv X pins σ H s):∀ b o,X.base.get? b=some o->s.heap.get? b=some o:=λb o e=>(I.bs b o e).1
theorem Inv.mod(I:Inv X pins σ H s):Mod X.K X.mg X.base:=I.ok.mod
theorem Inv.kIn(I:Inv X pins σ H s):X.K.In s.heap:=I.ok.mod.kin.keeps I.bk
theorem Inv.nolimit(I:Inv X pins σ H s):s.heap.NoLimit:=I.ok.mod.nolimit.keeps I.bk
theorem Inv.lt(I:Inv X pins σ H s):X.env.locals<s.heap.objs.size:=let ⟨_,hn,_⟩:=I.loc;hn.lt
theorem Inv.sz(I:Inv X pins σ H s):X.s₀.heap.objs.size<=s.heap.objs.size:=aZ I.ok.above (dW I.lt)
theorem Inv.nofs(I:Inv X pins σ H s)(h:s.heap.objs.size<=a):a ∉ X.fs:=λhb=>by
 obtain⟨_,o,ho,_⟩:=I.ok.funs.mem hb;exact absurd (aE (ηL ho) (aZ I.sz h)) (br _)
theorem Inv.cne(I:Inv X pins σ H s):∀ x c,X.env.cells.lookup x=some c->c≠X.env.locals:=λx c e z=>by
 obtain⟨v,o,ho,hd⟩:=I.cell x c e;obtain⟨m,⟨o',es,ep,ho',hd',_⟩,_⟩:=I.loc;rw[z,ho'] at ho;cases ho;rw[hd'] at hd;cases hd
theorem Inv.funs(I:Inv X pins σ H s):s.heap.FunFrames X.base X.outer:=by
 have all:∀(l:List Env),(∀ b∈AV l,b∈X.fs)->X.s₀.heap.FunFrames X.base l->s.heap.FunFrames X.base l:=by
  intro l;induction l with
  | nil=>intro _ _;trivial
  | cons env r ih =>
   intro hs hl;obtain⟨hk,⟨L,o,hf,hn,ho,hd⟩,hr⟩:=hl;have hL:L∈X.fs:=hs L (by unfold AV;rw[bq,hf];exact aF);obtain⟨sl,e⟩:=I.base.slot L o ho (I.ok.frf L hL) hL λz=>I.ok.exfs L z hL;exact⟨hk,⟨L,_,hf,hn,e,hd⟩,ih (λb hb=>hs b (by unfold AV;rw[bq,hf];exact az _ hb)) hr⟩
 exact all X.outer (λ_ hb=>hb) I.ok.funs
theorem Inv.stack(I:Inv X pins σ H s):s.heap.FunFrames X.base X.stack:=by
 rcases I.ok.stk with e|⟨e,hf⟩
 ·rw[e];exact I.funs
 ·rw[e];obtain⟨m,hn,_⟩:=I.loc;refine .cons (by rw[I.ok.kind];decide) hf hn ?_ I.funs;exact Heap.get?_none_of_le (aZ I.ok.bsz I.ok.above)
theorem Inv.stkSub(I:Inv X pins σ H s):∀ b∈AV X.stack,b∈X.env.locals::X.fs:=λb hb=>by
 rcases I.ok.stk with e|⟨e,hf⟩
 ·rw[e] at hb;exact az _ hb
 ·rw[e] at hb;unfold AV at hb;rw[bq,hf] at hb;exact hb
theorem Inv.stkFree(I:Inv X pins σ H s):∀ b∈AV X.stack,H b=none:=λb hb=>by
 rcases ao.mp (I.stkSub b hb) with e|hb
 ·rw[e];exact I.free
 ·obtain⟨_,o,ho,_⟩:=I.ok.funs.mem hb;exact I.base.free b o ho (I.ok.frf b hb) λz=>I.ok.exfs b z hb
theorem Inv.step{t':Nat}{d':Drawn}{ch:List Addr}(I:Inv X pins σ H s)
  (hch:∀ b∈ch,(b∈X.ex\/X.s₀.heap.objs.size<=b)/\b≠X.env.locals/\(∀ x c,X.env.cells.lookup x=some c->c≠b)/\∀ p∈X.pn++pins,p.1≠b)
  (keep:∀ b o,b≠X.env.locals->b ∉ X.fs->b ∉ ch->s.heap.get? b=some o->H b=none->h'.get? b=some o)
  (slot:∀ b o,b≠X.env.locals->b∈X.fs->b ∉ ch->s.heap.get? b=some o->H b=none->∃ sl,h'.get? b=some { o with slots:=sl }) (free:∀ b o,b ∉ ch->s.heap.get? b=some o->H b=none->H' b=none)
  (there:∀ b o,b ∉ ch->s.heap.get? b=some o->∃ o',h'.get? b=some o')
  (tups:∀ b xs,H b=some (.tup xs)->H' b=some (.tup xs)) (frzs:∀ b o u,H b=some (.frz o u)->H' b=some (.frz o u)) (tbls:∀ b ps,H b=some (.tbl ps)->∃ more,H' b=some (.tbl (ps++more)))
  (ns:∀ m,s.heap.Ns X.env.locals m->h'.Ns X.env.locals m) (hok:HOk X.prog X.w H' h') (hg:AllBare g') :
  Inv X pins σ H' { s with heap:=h',gens:=g',drawn:=d',toks:=t' }:=by
 have neL:∀ b o,X.s₀.heap.get? b=some o->b≠X.env.locals:=λb o e=>aO (aE (ηL e) I.ok.above);have neC:∀ b o,X.s₀.heap.get? b=some o->b ∉ X.ex->b ∉ ch:=λb o e hx hb=>by
  rcases (hch b hb).1 with z|z
  ·exact hx z
  ·exact absurd (aE (ηL e) z) (br _)
 have cellK:∀ x c,X.env.cells.lookup x=some c->∀ v,s.heap.IsCell c v->h'.IsCell c v:=λx c e v ⟨o,ho,hd⟩=>by
  have nch:c ∉ ch:=λz=>(hch c z).2.2.1 x c e rfl;by_cases hc:c∈X.fs
  ·obtain⟨sl,q⟩:=slot c o (I.cne x c e) hc nch ho (I.freeC x c e);exact⟨_,q,hd⟩
  ·exact⟨o,keep c o (I.cne x c e) hc nch ho (I.freeC x c e),hd⟩
 refine⟨I.ok,I.os,hg,⟨λb o e n hb hx=>?_,λb o e n hb hx=>?_,λb o e n hx=>?_,λb o e hx=>?_,λb xs e=>tups b xs (I.base.tups b xs e),λb o xs e=>frzs b o xs (I.base.frzs b o xs e),λb ps e=>?_⟩,?_,λx c e=>?_,?_,λx c e=>?_,λp hp=>?_,hok,I.len⟩
 ·exact keep b o (neL b o e) hb (neC b o e hx) (I.base.keep b o e n hb hx) (I.base.free b o e n hx)
 ·obtain⟨sl,e1⟩:=I.base.slot b o e n hb hx;obtain⟨sl',e2⟩:=slot b _ (neL b o e) hb (neC b o e hx) e1 (I.base.free b o e n hx);exact⟨sl',e2⟩
 ·obtain⟨o',e1⟩:=I.base.there b o e hx;exact free b o' (neC b o e hx) e1 (I.base.free b o e n hx)
 ·obtain⟨o',e1⟩:=I.base.there b o e hx;exact there b o' (neC b o e hx) e1
 ·obtain⟨m1,e1⟩:=I.base.tbls b ps e;obtain⟨m2,e2⟩:=tbls b _ e1;exact⟨m1++m2,by rw[e2,Array.append_assoc]⟩
 ·obtain⟨m,hn,hl⟩:=I.loc;refine⟨m,ns m hn,λi x v e1 e2 e3=>?_⟩;obtain⟨u,r,l⟩:=hl i x v e1 e2 e3;refine⟨u,r,?_⟩;rcases l with l|⟨k,c,e,z⟩
  ·exact .inl l
  ·exact .inr ⟨k,c,e,cellK x c e _ z⟩
 ·obtain⟨v,z⟩:=I.cell x c e;exact⟨v,cellK x c e v z⟩
 ·obtain⟨m,⟨o,_,_,ho,_⟩,_⟩:=I.loc;exact free _ o (λz=>(hch _ z).2.1 rfl) ho I.free
 ·obtain⟨v,o,ho,hd⟩:=I.cell x c e;exact free c o (λz=>(hch c z).2.2.1 x c e rfl) ho (I.freeC x c e)
 ·obtain⟨e,n,ne,nf,d⟩:=I.pin p hp;have nch:p.1 ∉ ch:=λz=>(hch p.1 z).2.2.2 p hp rfl;exact⟨keep p.1 p.2 ne nf nch e n,free p.1 p.2 nch e n,ne,nf,d⟩
theorem Inv.un(I:Inv X pins σ H s)(u:Un X.fs [] H H' s.heap h')(hok:HOk X.prog X.w H' h'):Inv X pins σ H' { s with heap:=h',toks:=t' }:=by
 obtain⟨m,⟨o,es,ep,ho,r⟩,_⟩:=id I.loc;obtain⟨sl,hL⟩:=u.any ho I.free (by simp);exact I.step (g':=s.gens) (d':=s.drawn) (ch:=[]) (λ_ z=>nomatch z) (λb o _ hb _ e n=>u.keep b o e n hb (by simp)) (λb o _ hb _ e n=>u.slot b o e n hb (by simp)) (λb o _ e n=>u.free b o e n (by simp)) (λb o _ e=>u.there b o e (by simp)) u.tups u.frzs u.tbls (λm' hm=>by
  obtain⟨o',es',ep',ho',r'⟩:=hm;rw[ho] at ho';cases ho';exact⟨_,es',ep',hL,r'⟩) hok I.bare
theorem Inv.call{t':Nat}{d':Drawn}{ch:List Addr}(I:Inv X pins σ H s)(u:Un (AV X.stack) ch H H' s.heap h')(hok:HOk X.prog X.w H' h')(hg:AllBare g')
  (hch:∀ b∈ch,(b∈X.ex\/X.s₀.heap.objs.size<=b)/\b≠X.env.locals/\(∀ x c,X.env.cells.lookup x=some c->c≠b)/\∀ p∈X.pn++pins,p.1≠b) :
  Inv X pins σ H' { s with heap:=h',gens:=g',drawn:=d',toks:=t' }:=by
 obtain⟨m,⟨o,es,ep,ho,r⟩,_⟩:=id I.loc;obtain⟨sl,hL⟩:=u.any ho I.free λz=>(hch _ z).2.1 rfl;exact I.step (ch:=ch) hch (λb o hL hb hc e n=>u.keep b o e n (λz=>(ao.mp (I.stkSub b z)).elim hL hb) hc) (λb o _ _ hc e n=>u.any e n hc) (λb o hc e n=>u.free b o e n hc) (λb o hc e=>u.there b o e hc) u.tups u.frzs u.tbls (λm' hm=>by
  obtain⟨o',es',ep',ho',r'⟩:=hm;rw[ho] at ho';cases ho';exact⟨_,es',ep',hL,r'⟩) hok hg
theorem Inv.turned{t':Nat}(I:Inv X pins σ H s)(k:∀ b o,b≠it->s.heap.get? b=some o->h'.get? b=some o)(hn:H it=none)(hL:it≠X.env.locals)
  (h1:it∈X.ex\/X.s₀.heap.objs.size<=it) (h2:∀ x c,X.env.cells.lookup x=some c->c≠it) (h3:∀ p∈X.pn++pins,p.1≠it):Inv X pins σ H { s with heap:=h',toks:=t' }:=by
 have nit:∀ b u,H b=some u->b≠it:=λb u e z=>by rw[z,hn] at e;cases e
 refine I.step (g':=s.gens) (d':=s.drawn) (ch:=[it]) (λb hb=>?_) (λb o _ _ hc e _=>k b o (λz=>hc (by simp[z])) e) (λb o _ _ hc e _=>⟨o.slots,k b o (λz=>hc (by simp[z])) e⟩) (λ_ _ _ _ n=>n)
  (λb o hc e=>⟨o,k b o (λz=>hc (by simp[z])) e⟩) (λ_ _ e=>e) (λ_ _ _ e=>e) (λb ps e=>⟨#[],by rw[e];simp⟩) (λm hm=>?_) (λb u e=>?_) I.bare
 ·have e:b=it:=by simpa using hb
  subst e;exact⟨h1,hL,h2,h3⟩
 ·obtain⟨o,es,ep,ho,r⟩:=hm;exact⟨o,es,ep,k _ o (Ne.symm hL) ho,r⟩
 ·refine (I.hok b u e).stay (λc v hc q=>k c v ?_ q) (λ_ q=>q) λ_ _ q=>q;rcases hc with z|z
  ·rw[z];exact nit b u e
  ·exact nit c _ z
theorem Inv.tok(I:Inv X pins σ H s)(t:Nat):Inv X pins σ H { s with toks:=t }:=I.un (h':=s.heap) (t':=t) Un.refl I.hok
theorem Inv.kept(I:Inv X pins σ H s)(k:∀ b u,s.heap.get? b=some u->h'.get? b=some u):Inv X pins σ H { s with heap:=h',toks:=t' }:=I.un (Un.kept k) (I.hok.kept k)
theorem Inv.laid(I:Inv X pins σ H s)(k:∀ b u,s.heap.get? b=some u->h'.get? b=some u)(hp:s.heap.objs.size<=a)(new:ObjOk X.prog X.w (rg H a o) h' a o) :
  Inv X pins σ (rg H a o) { s with heap:=h',toks:=t' }:=I.un (Un.laid k hp (I.hok.fresh hp)) (I.hok.laid k hp new)
theorem Inv.write(I:Inv X pins σ H s)(mu:Ky (H x))(he:e=x\/H e=some (.own x))(k:∀ b u,b≠e->s.heap.get? b=some u->h'.get? b=some u)(heo:∃ u,h'.get? e=some u)
  (new:ObjOk X.prog X.w (rg H x o) h' x o):Inv X pins σ (rg H x o) { s with heap:=h',toks:=t' }:=I.un (Un.write mu he k heo) (I.hok.write mu he k heo new)
theorem Inv.pins_of(I:Inv X pins σ H s)(h:∀ p∈pins',s.heap.get? p.1=some p.2/\H p.1=none/\p.1≠X.env.locals/\p.1 ∉ X.fs/\∀ v,p.2.data ≠ .cell v):Inv X pins' σ H s :=
 ⟨I.ok,I.os,I.bare,I.base,I.loc,I.cell,I.free,I.freeC,λp hp=>(bE.mp hp).elim (λz=>I.pin p (gz _ z)) (h p),I.hok,I.len⟩
theorem yx{N:List Str}(hN:N.Nodup){i j:Nat}{x:Str}(a:N[i]? = some x)(b:N[j]? = some x):i=j:=by
 obtain⟨h1,e1⟩:=ai.mp a;obtain⟨h2,e2⟩:=ai.mp b;exact (List.getElem_inj hN).mp (e1.trans e2.symm)
theorem wy{M:Model}{A:Around}{E:Value->Shared->Prop}{i:Nat}{x:Str}{v:V}{u:Value}{Q:Unit->Shared->Prop}(I:Inv X pins σ H s)(hN:X.N.Nodup)(hi:X.N[i]? = some x)(hx:yW X.env.scope x)(r:RelV v u)
  (h:∀ s',Inv X pins (σ.set i (some v)) H s'->(∃ a,Heap.SameBut a s.heap s'.heap/\(a=X.env.locals\/X.env.cells.lookup x=some a))->Q () s') (hf:X.fn x=true\/X.env.scope.names.lookup x=some .local:=by first|exact .inl rfl|exact .inr rfl|assumption):wpAny M A (storeName X.env x u) Q E s:=by
 obtain⟨m,hn,hl⟩:=id I.loc;have hcls:(X.env.scope.kind == .class || (X.env.scope.kind == .module && X.env.locals != X.env.globals))=false:=by rw[I.ok.kind];rfl
 have hiσ:i<σ.length:=by rw[I.len];exact (ai.mp hi).1
 have cne:=I.cne;have tracked:∀{a:Addr} {h':Heap},(∃ o,s.heap.get? a=some o/\H a=none)->Heap.SameBut a s.heap h'->HOk X.prog X.w H h':=λ{a h'} ha hs b ob e=>by
  obtain⟨_,_,hfree⟩:=ha;refine (I.hok b ob e).stay (λc w' hc q=>(hs.2 c ?_).trans q) (λ_ q=>q) λ_ _ q=>q;rintro rfl;rcases hc with rfl|hc
  ·rw[hfree] at e;cases e
  ·rw[hfree] at hc;cases hc
 rcases hx with hk|hk
 ·refine wpAny_storeName_local hk hn (λh' hn' hs=>?_) hcls;obtain⟨oL,_,_,hoL,_⟩:=id hn;refine h _ ⟨I.ok,I.os,I.bare,⟨λb o e n hb hx=>?_,λb o e n hb hx=>?_,I.base.free,λb o e hx=>?_,I.base.tups,I.base.frzs,I.base.tbls⟩,⟨_,hn',λj y v' e1 e2 e3=>?_⟩,λy c e=>?_,I.free,I.freeC,λp hp=>?_,tracked ⟨oL,hoL,I.free⟩ hs,by simpa using I.len⟩ ⟨_,hs,.inl rfl⟩
  ·exact (hs.2 b (aO (aE (ηL e) I.ok.above))).trans (I.base.keep b o e n hb hx)
  ·obtain⟨sl,e1⟩:=I.base.slot b o e n hb hx;exact⟨sl,(hs.2 b (aO (aE (ηL e) I.ok.above))).trans e1⟩
  ·obtain⟨o',e1⟩:=I.base.there b o e hx;exact⟨o',(hs.2 b (aO (aE (ηL e) I.ok.above))).trans e1⟩
  ·by_cases hj:j=i
   ·subst hj;rw[hi] at e1;cases e1;rw[dU hiσ] at e2;cases e2;exact⟨u,r,.inl ⟨hk,by simp⟩⟩
   ·rw[aH (Ne.symm hj)] at e2;obtain⟨u',r',q⟩:=hl j y v' e1 e2 e3;refine⟨u',r',?_⟩;rcases q with⟨k,e⟩|⟨k,c,e,z⟩
    ·refine .inl ⟨k,?_⟩;have:y≠x:=λe=>hj (yx hN e1 (e ▸ hi));simp[this,e]
    ·exact .inr ⟨k,c,e,z.sameBut hs (cne y c e)⟩
  ·obtain⟨w',z⟩:=I.cell y c e;exact⟨w',z.sameBut hs (cne y c e)⟩
  ·obtain⟨e,n,ne,nf,d⟩:=I.pin p hp;exact⟨(hs.2 p.1 ne).trans e,n,ne,nf,d⟩
 ·have hfn:X.fn x=true:=by
   rcases hf with z|z
   ·exact z
   ·rw[z] at hk;cases hk
  obtain⟨c,hc⟩:=I.ok.has x (.inl hk);obtain⟨w',z⟩:=I.cell x c hc;refine wpAny_storeName_cell I.ok.kind hk hc z (λh' hc' hs=>?_);obtain⟨oc,hoc,hocd⟩:=id z;refine h { s with heap:=h' } ⟨I.ok,I.os,I.bare,⟨λb o e n hb hx=>?_,λb o e n hb hx=>?_,I.base.free,λb o e hx=>?_,I.base.tups,I.base.frzs,I.base.tbls⟩,⟨m,hn.sameBut hs (Ne.symm (cne x c hc)),λj y v' e1 e2 e3=>?_⟩,λy c' e=>?_,I.free,I.freeC,λp hp=>?_,tracked ⟨oc,hoc,I.freeC x c hc⟩ hs,by simpa using I.len⟩ ⟨c,hs,.inr hc⟩
  ·exact (hs.2 b (aO (aE (ηL e) (I.ok.cab x c hfn hc)))).trans (I.base.keep b o e n hb hx)
  ·obtain⟨sl,e1⟩:=I.base.slot b o e n hb hx;exact⟨sl,(hs.2 b (aO (aE (ηL e) (I.ok.cab x c hfn hc)))).trans e1⟩
  ·obtain⟨o',e1⟩:=I.base.there b o e hx;exact⟨o',(hs.2 b (aO (aE (ηL e) (I.ok.cab x c hfn hc)))).trans e1⟩
  ·by_cases hj:j=i
   ·subst hj;rw[hi] at e1;cases e1;rw[dU hiσ] at e2;cases e2;exact⟨u,r,.inr ⟨.inl hk,c,hc,hc'⟩⟩
   ·rw[aH (Ne.symm hj)] at e2;obtain⟨u',r',q⟩:=hl j y v' e1 e2 e3;refine⟨u',r',?_⟩;rcases q with q|⟨k,c',e,z'⟩
    ·exact .inl q
    ·refine .inr ⟨k,c',e,z'.sameBut hs ?_⟩;rintro rfl;exact hj (yx hN e1 (I.ok.inj _ _ _ e hc ▸ hi))
  ·by_cases hcc:c'=c
   ·subst hcc;exact⟨_,hc'⟩
   ·obtain⟨w2,z2⟩:=I.cell y c' e;exact⟨w2,z2.sameBut hs hcc⟩
  ·obtain⟨e,n,ne,nf,d⟩:=I.pin p hp;refine⟨(hs.2 p.1 ?_).trans e,n,ne,nf,d⟩;intro q;rw[q,hoc] at e;have q':oc=p.2:=Option.some.inj e;exact d w' (by rw[← q'];exact hocd)
theorem sV(I:Inv X pins σ H s)(hN:X.N.Nodup)(hi:X.N[i]? = some x)(hx:yW X.env.scope x)(r:RelV v u)
  (h:∀ s',Inv X pins (σ.set i (some v)) H s'->Q () s') (hf:X.fn x=true\/X.env.scope.names.lookup x=some .local:=by first|exact .inl rfl|exact .inr rfl|assumption):wpAny M A (storeName X.env x u) Q E s :=
 wy I hN hi hx r (λs' I' _=>h s' I') hf
theorem Inv.call'(I:Inv X pins σ H s)(ho:s'.os=s.os)(u:Un (AV X.stack) ch H H' s.heap s'.heap)(hok:HOk X.prog X.w H' s'.heap)(hg:AllBare s'.gens)
  (hch:∀ b∈ch,(b∈X.ex\/X.s₀.heap.objs.size<=b)/\b≠X.env.locals/\(∀ x c,X.env.cells.lookup x=some c->c≠b)/\∀ p∈X.pn++pins,p.1≠b):Inv X pins σ H' s':=by
 obtain⟨h',g',d',t',o'⟩:=s';have e:o'=s.os:=ho;subst e;exact I.call (g':=g') (t':=t') (d':=d') u hok hg hch
end
abbrev XK:=Value->Option Addr->Hp->Prop
abbrev St:=List (Option V)
abbrev VK:=V->Hp->Prop
abbrev TE:=St->Hp->VK->Prop
abbrev TT:=St->Hp->(Bool->Hp->Prop)->Prop
abbrev TA:=St->Hp->(List V->Hp->Prop)->Prop
structure Ends where
 nx:St->Hp->Prop
 rt:VK
 bk:St->Hp->Prop:=λ_ _=>False
 ct:St->Hp->Prop:=λ_ _=>False
abbrev TS:=Ends->St->Hp->Prop
def EP(X:Cx)(pins:List (Addr×Obj))(σ:St)(Q:VK)(u:Value)(s':Shared):Prop:=∃ v H',Inv X pins σ H' s'/\RelV v u/\Q v H'
def TP(X:Cx)(pins:List (Addr×Obj))(σ:St)(Q:Bool->Hp->Prop)(b:Bool)(s':Shared):Prop:=∃ H',Inv X pins σ H' s'/\Q b H'
def AP(X:Cx)(pins:List (Addr×Obj))(σ:St)(Q:List V->Hp->Prop)(us:List Value)(s':Shared):Prop:=∃ vs H',Inv X pins σ H' s'/\Vals vs us/\Q vs H'
def SP(X:Cx)(pins:List (Addr×Obj))(D:Ends)(f:Flow)(s':Shared):Prop :=
 match f with
 | .next=>∃ σ' H',Inv X pins σ' H' s'/\D.nx σ' H'
 | .brk=>∃ σ' H',Inv X pins σ' H' s'/\D.bk σ' H'
 | .cont=>∃ σ' H',Inv X pins σ' H' s'/\D.ct σ' H'
 | .ret u=>∃ v σ' H',Inv X pins σ' H' s'/\RelV v u/\D.rt v H'
def PE(X:Cx)(e:Expr)(t:TE):Prop :=
 ∀(pins:List (Addr×Obj)) (s:Shared) (σ:St) (H:Hp) (Q:VK),Inv X pins σ H s->t σ H Q->wpAny (model X.prog X.w) X.A (eval e X.env) (EP X pins σ Q) X.xe s
def PT(X:Cx)(e:Expr)(t:TT):Prop :=
 ∀(pins:List (Addr×Obj)) (s:Shared) (σ:St) (H:Hp) (Q:Bool->Hp->Prop),Inv X pins σ H s->t σ H Q->wpAny (model X.prog X.w) X.A (isTrue e X.env (eval e X.env)) (TP X pins σ Q) X.xe s
def PW(X:Cx)(e:Expr)(t:TT):Prop :=
 ∀(whole:Sem Value) (pins:List (Addr×Obj)) (s:Shared) (σ:St) (H:Hp) (Q:Bool->Hp->Prop),Inv X pins σ H s->t σ H Q->wpAny (model X.prog X.w) X.A (isTrue e X.env whole) (TP X pins σ Q) X.xe s
theorem PW.pt(h:PW X e t):PT X e t:=h _
def PA(X:Cx)(es:List Expr)(t:TA):Prop :=
 ∀(pos:Pos) (pins:List (Addr×Obj)) (s:Shared) (σ:St) (H:Hp) (Q:List V->Hp->Prop),Inv X pins σ H s->t σ H Q->wpAny (model X.prog X.w) X.A (spliced (backTo pos (starEach es X.env))) (AP X pins σ Q) X.xe s
def PS(X:Cx)(st:Stmt)(t:TS):Prop :=
 ∀(pins:List (Addr×Obj)) (s:Shared) (σ:St) (H:Hp) (D:Ends),Inv X pins σ H s->t D σ H->wpAny (model X.prog X.w) X.A (exec st X.env) (SP X pins D) X.xe s
def PSs(X:Cx)(st:List Stmt)(t:TS):Prop :=
 ∀(pins:List (Addr×Obj)) (s:Shared) (σ:St) (H:Hp) (D:Ends),Inv X pins σ H s->t D σ H->wpAny (model X.prog X.w) X.A (execs st X.env) (SP X pins D) X.xe s
theorem qZ{α:Type}{t:Sem α}{Q Q':α->Shared->Prop}{M:Model}{A:Around}{E:Value->Shared->Prop}{s:Shared}(h:wpAny M A t Q E s)(hQ:∀ a s,Q a s->Q' a s):wpAny M A t Q' E s:=wpAny_mono h hQ λ_ _ x=>x
section
variable{X:Cx}
def sB(i:Nat):TE:=λσ H Q=>∃ v,σ[i]? = some (some v)/\Q v H
def tC(v:V):TE:=λ_ H Q=>Q v H
theorem zm(hN:X.N[i]? = some x)(hv:GC X.env.scope x)(hd:(x == ("__debug__" : Str))=false:=by decide)(hcd:(x == ("__classdict__" : Str))=false:=by decide):PE X (.Name x pos) (sB i):=by
 intro pins s σ H Q I h;obtain⟨v,e,h⟩:=h;obtain⟨m,hn,hl⟩:=I.loc;obtain⟨u,r,l⟩:=hl i x v hN e hv;have fin:EP X pins σ Q u s:=⟨v,H,I,r,h⟩;rcases l with⟨hk,hm⟩|⟨hk,c,hc,hcell⟩
 ·exact wpAny_Name (wpAny_loadName_local I.ok.kind hk hn hm fin) hd
 ·rcases hk with hk|hk
  ·exact wpAny_Name (wpAny_loadName_cell I.ok.kind hk hc hcell fin) hd
  ·exact wpAny_Name (wpAny_loadName_free I.ok.kind hk hc hcell fin hcd) hd
theorem qI:PE X (.Constant (.int i) j pos) (tC (.int i)):=λ_ _ _ H _ I h=>wpAny_Constant_int ⟨.int i,H,I.tok _,⟨_,rfl⟩,h⟩
theorem CY:PE X (.Constant (.bool b) j pos) (tC (.bl b)):=λ_ _ _ H _ I h=>Constant_bool ⟨.bl b,H,I,rfl,h⟩
theorem Hx:PE X (.Constant .none j pos) (tC .non):=λ_ _ _ H _ I h=>Constant_none ⟨.non,H,I,rfl,h⟩
theorem Ht:PE X (.Constant (.str x) j pos) (tC (.str x)):=λ_ _ _ H _ I h=>Calls.Constant_str ⟨.str x,H,I.tok _,⟨_,rfl⟩,h⟩
def Gl(X:Cx)(x:Str):Prop:=X.env.kindOf x=some .globalImplicit
theorem AM(I:Inv X pins σ H s)(hg:Gl X x)(hm:X.mg x=some u)(h:Q u s)
  (hd:(x == ("__debug__" : Str))=false:=by decide):wpAny (model X.prog X.w) X.A (eval (.Name x pos) X.env) Q E s :=
 Calls.Name_function_global I.ok.kind hg (Calls.loadGlobal_global (by rw[I.ok.glob];exact I.mod.glob.keeps I.bk) hm h) hd
theorem rN(I:Inv X pins σ H s)(hg:Gl X x)(hm:X.mg x=none)(hv:bootBuiltins x=some u)(h:Q u s)
  (hn:x ≠ "__name__" := by decide) (hd:(x == ("__debug__" : Str))=false:=by decide):wpAny (model X.prog X.w) X.A (eval (.Name x pos) X.env) Q E s:=by
 obtain⟨mb,h1,h2⟩:=I.mod.blt;exact Calls.Name_function_global I.ok.kind hg (Calls.loadGlobal_builtin (by rw[I.ok.glob];exact I.mod.glob.keeps I.bk) hm (by rw[I.ok.blt];exact h1.keeps I.bk) ((h2 x hn).trans hv) h) hd
theorem EO(hg:Gl X x)(hm:X.mg x=some u)(r:RelV v u)(hd:(x == ("__debug__" : Str))=false:=by decide):PE X (.Name x pos) (tC v) :=
 λ_ _ _ H _ I h=>AM I hg hm ⟨v,H,I,r,h⟩ hd
theorem r9{x:Str}{v:V}{u:Value}{pos:Pos}(hg:Gl X x)(hm:X.mg x=none)(hv:bootBuiltins x=some u)(r:RelV v u)(hn:x ≠ "__name__" := by decide)(hd:(x == ("__debug__" : Str))=false:=by decide):PE X (.Name x pos) (tC v) :=
 λ_ _ _ H _ I h=>rN I hg hm hv ⟨v,H,I,r,h⟩ hn hd
def Mv(ta tb:TE)(k:Int->Int->Hp->Prop):St->Hp->Prop:=λσ H=>ta σ H λx H1=>tb σ H1 λy H2=>∃ i j,x = .int i/\y = .int j/\k i j H2
variable{a b:Expr}{ta tb:TE}{pos:Pos}
def Mt(p:Int->Int->Bool)(ta tb:TE):TE:=λσ H Q=>Mv ta tb (λi j H2=>Q (.bl (p i j)) H2) σ H
variable{tA tB':TT}{rest:List Expr}
def Jh(t u:TT):TT:=λσ H Q=>t σ H λc H1=>if c=true then u σ H1 Q else Q false H1
def LX(t u:TT):TT:=λσ H Q=>t σ H λc H1=>if c=true then Q true H1 else u σ H1 Q
def KM(t:TT):TT:=λσ H Q=>t σ H λc H1=>Q (!c) H1
theorem AE(ha:PT X a tA):PW X (.BoolOp .And [a] pos) tA:=by
 intro wh pins s σ H Q I h;refine isTrue_and (qZ (ha pins s σ H Q I h) λc s1 e=>?_);cases c with
 | true=>exact isTrue_and_nil e
 | false=>exact e
theorem Hn(ha:PT X a tA):PW X (.BoolOp .Or [a] pos) tA:=by
 intro wh pins s σ H Q I h;refine isTrue_or (qZ (ha pins s σ H Q I h) λc s1 e=>?_);cases c with
 | false=>exact isTrue_or_nil e
 | true=>exact e
theorem CH(ha:PT X a tA)(hb:PW X (.BoolOp .And (b::rest) pos) tB'):PW X (.BoolOp .And (a::b::rest) pos) (Jh tA tB'):=by
 intro wh pins s σ H Q I h;refine isTrue_and (qZ (ha pins s σ H _ I h) λc s1 ⟨H1,I1,q1⟩=>?_);cases c with
 | true=>exact hb wh pins s1 σ H1 Q I1 q1
 | false=>exact⟨H1,I1,q1⟩
theorem Jx(ha:PT X a tA)(hb:PW X (.BoolOp .Or (b::rest) pos) tB'):PW X (.BoolOp .Or (a::b::rest) pos) (LX tA tB'):=by
 intro wh pins s σ H Q I h;refine isTrue_or (qZ (ha pins s σ H _ I h) λc s1 ⟨H1,I1,q1⟩=>?_);cases c with
 | true=>exact⟨H1,I1,q1⟩
 | false=>exact hb wh pins s1 σ H1 Q I1 q1
theorem Hq(ha:PT X a tA):PT X (.UnaryOp .Not a pos) (KM tA):=by
 intro pins s σ H Q I h;exact isTrue_not (ha pins s σ H (λc H1=>Q (!c) H1) I h)
def Jg(ta tb:TE):TE:=λσ H Q=>ta σ H λx H1=>∃ c,x = .bl c/\if c=true then tb σ H1 Q else Q (.bl false) H1
def KL(ta tb:TE):TE:=λσ H Q=>ta σ H λx H1=>∃ c,x = .bl c/\if c=true then Q (.bl true) H1 else tb σ H1 Q
def Jd(ta:TE):TE:=λσ H Q=>ta σ H λx H1=>∃ c,x = .bl c/\Q (.bl (!c)) H1
theorem zq{op}{t:TE}(h:PE X a t):PE X (.BoolOp op [a] pos) t:=λpins s σ H Q I hw=>BoolOp_one (h pins s σ H Q I hw)
theorem zr(ha:PE X a ta)(hb:PE X (.BoolOp .And (b::rest) pos) tb):PE X (.BoolOp .And (a::b::rest) pos) (Jg ta tb):=by
 intro pins s σ H Q I h;refine BoolOp_and (qZ (ha pins s σ H _ I h) λv s1 ⟨x,H1,I1,r1,q1⟩=>?_);obtain⟨c,rfl,q1⟩:=q1;cases r1;refine wpAny_truthy_bool ?_;cases c with
 | true=>exact hb pins s1 σ H1 Q I1 q1
 | false=>exact⟨.bl false,H1,I1,rfl,q1⟩
theorem Jz(ha:PE X a ta)(hb:PE X (.BoolOp .Or (b::rest) pos) tb):PE X (.BoolOp .Or (a::b::rest) pos) (KL ta tb):=by
 intro pins s σ H Q I h;refine BoolOp_or (qZ (ha pins s σ H _ I h) λv s1 ⟨x,H1,I1,r1,q1⟩=>?_);obtain⟨c,rfl,q1⟩:=q1;cases r1;refine wpAny_truthy_bool ?_;cases c with
 | false=>exact hb pins s1 σ H1 Q I1 q1
 | true=>exact⟨.bl true,H1,I1,rfl,q1⟩
theorem Hu(ha:PE X a ta):PE X (.UnaryOp .Not a pos) (Jd ta):=by
 intro pins s σ H Q I h;refine UnaryOp_ (qZ (ha pins s σ H _ I h) λv s1 ⟨x,H1,I1,r1,q1⟩=>?_);obtain⟨c,rfl,q1⟩:=q1;cases r1;exact not_of (wpAny_truthy_bool ⟨.bl (!c),H1,I1,rfl,q1⟩)
def Ms(t:TT)(ta tb:TE):TE:=λσ H Q=>t σ H λc H1=>if c=true then ta σ H1 Q else tb σ H1 Q
theorem CU(hc:PT X c tA)(ha:PE X a ta)(hb:PE X b tb):PE X (.IfExp c a b pos) (Ms tA ta tb):=by
 intro pins s σ H Q I h;refine wpAny_IfExp (qZ (hc pins s σ H _ I h) λd s1 ⟨H1,I1,q1⟩=>?_);cases d with
 | true=>exact ha pins s1 σ H1 Q I1 q1
 | false=>exact hb pins s1 σ H1 Q I1 q1
end
def SqL(K:Frag)(H:Hp)(a:Addr)(xs:List V):Prop :=
 Rd H a (.lst xs) \/
  ∃(o:Obj) (its:Array Value) (n:Nat),K.lookup a=some o/\o.cls = .type "list" /\ o.dict=none/\o.data = .seq its n/\its.size<=sizeLine/\Vals xs its.toList
def SqT(K:Frag)(H:Hp)(a:Addr)(xs:List V):Prop :=
 Rd H a (.tup xs) \/
  ∃(o:Obj) (its:Array Value) (n:Nat),K.lookup a=some o/\o.cls = .type "tuple" /\ o.data = .seq its n/\its.size<=sizeLine/\Vals xs its.toList
def LB:Value->Option V
 | .none=>some .non
 | .bool b=>some (.bl b)
 | .int i _=>some (.int i)
 | .str x _=>some (.str x)
 | .bytes b _=>some (.byt b)
 | .float b _=>some (.flt b)
 | .ref a=>some (.ref a)
 | .type n=>some (.ty n)
 | _=>none
theorem RelV.abs(r:RelV x u):LB u=some x:=by
 cases x with
 | non=>cases r;rfl
 | bl _=>cases r;rfl
 | int _=>obtain⟨t,rfl⟩:=r;rfl
 | str _=>obtain⟨t,rfl⟩:=r;rfl
 | byt _=>obtain⟨t,rfl⟩:=r;rfl
 | flt _=>obtain⟨t,rfl⟩:=r;rfl
 | ref _=>cases r;rfl
 | ty _=>cases r;rfl
theorem RelV.inj(r:RelV x u)(q:RelV y u):x=y:=Option.some.inj (r.abs.symm.trans q.abs)
theorem Vals.inj:∀{xs ys:List V} {us:List Value},Vals xs us->Vals ys us->xs=ys
 | _,_,_,.nil,.nil=>rfl
 | _,_,_,.cons r t,.cons r' t'=>by rw[r.inj r',Vals.inj t t']
section
variable{X:Cx}{pins:List (Addr×Obj)}{σ:St}{H:Hp}{s:Shared}{a:Addr}{xs ys:List V}
theorem SqL.of{K:Frag}(h:H a=some (.lst xs)):SqL K H a xs:=.inl (.inl h)
theorem SqT.of{K:Frag}(h:H a=some (.tup xs)):SqT K H a xs:=.inl (.inl h)
theorem Inv.list(I:Inv X pins σ H s)(h:SqL X.K H a xs):∃ its:List Value,Vals xs its/\PlainL s.heap a its.toArray/\xs.length<=sizeLine:=by
 rcases h with h|⟨o,its,n,hk,hc,hd,hs,hz,r⟩
 ·obtain⟨z,its,n,r,e⟩:=h.ok I.hok;exact⟨its,r,⟨_,n,e,rfl,rfl,rfl⟩,z⟩
 ·refine⟨its.toList,r,⟨o,n,I.kIn a o hk,hc,hd,by simpa using hs⟩,?_⟩;have e:=r.length;simp only[bX] at e;omega
theorem Inv.tuple(I:Inv X pins σ H s)(h:SqT X.K H a xs):∃ its:List Value,Vals xs its/\IsTup s.heap a its.toArray/\xs.length<=sizeLine:=by
 rcases h with h|⟨o,its,n,hk,hc,hs,hz,r⟩
 ·obtain⟨z,its,r,p⟩:=h.ok I.hok;exact⟨its,r,p,z⟩
 ·refine⟨its.toList,r,⟨o,I.kIn a o hk,hc,n,by simpa using hs⟩,?_⟩;have e:=r.length;simp only[bX] at e;omega
theorem Inv.list_inj(I:Inv X pins σ H s)(h:SqL X.K H a xs)(h':SqL X.K H a ys):xs=ys:=by
 obtain⟨its,r,⟨o,n,e,_,_,d⟩,_⟩:=I.list h;obtain⟨its',r',⟨o',n',e',_,_,d'⟩,_⟩:=I.list h';rw[e] at e';cases e';rw[d] at d';injection d' with d1 _;have:its=its':=by simpa using congrArg Array.toList d1
 subst this;exact r.inj r'
theorem Inv.tuple_inj(I:Inv X pins σ H s)(h:SqT X.K H a xs)(h':SqT X.K H a ys):xs=ys:=by
 obtain⟨its,r,⟨o,e,_,n,d⟩,_⟩:=I.tuple h;obtain⟨its',r',⟨o',e',_,n',d'⟩,_⟩:=I.tuple h';rw[e] at e';cases e';rw[d] at d';injection d' with d1 _;have:its=its':=by simpa using congrArg Array.toList d1
 subst this;exact r.inj r'
end
abbrev Cx.wish(X:Cx)(E:Value->Shared->Prop):Cx:={ X with xe:=E }
abbrev Cx.nox(X:Cx):Cx:=X.wish λ_ _=>False
theorem Cx.Ok.wish{X:Cx}(ok:X.Ok)(E:Value->Shared->Prop):(X.wish E).Ok :=
 ⟨ok.mod,ok.kind,ok.glob,ok.blt,ok.above,ok.inj,ok.has,ok.cab,ok.hd,ok.frames,ok.stk,ok.exf,ok.bs,ok.bsz,ok.noex,ok.exfs,ok.funs,ok.frf,ok.sr,ok.rn⟩
theorem Cx.Ok.unwish{X:Cx}{E:Value->Shared->Prop}(ok:(X.wish E).Ok):X.Ok :=
 ⟨ok.mod,ok.kind,ok.glob,ok.blt,ok.above,ok.inj,ok.has,ok.cab,ok.hd,ok.frames,ok.stk,ok.exf,ok.bs,ok.bsz,ok.noex,ok.exfs,ok.funs,ok.frf,ok.sr,ok.rn⟩
section
variable{X:Cx}{pins:List (Addr×Obj)}{σ:St}{H:Hp}{s:Shared}{E:Value->Shared->Prop}
theorem Inv.wish(I:Inv X pins σ H s)(E:Value->Shared->Prop):Inv (X.wish E) pins σ H s:=⟨I.ok.wish E,I.os,I.bare,I.base,I.loc,I.cell,I.free,I.freeC,I.pin,I.hok,I.len⟩
theorem Inv.unwish(I:Inv (X.wish E) pins σ H s):Inv X pins σ H s:=⟨I.ok.unwish,I.os,I.bare,I.base,I.loc,I.cell,I.free,I.freeC,I.pin,I.hok,I.len⟩
theorem SP.unwish{D:Ends}{f:Flow}{s':Shared}(h:SP (X.wish E) pins D f s'):SP X pins D f s':=by
 cases f with
 | next=>obtain⟨σ',H',I,q⟩:=h;exact⟨σ',H',I.unwish,q⟩
 | brk=>obtain⟨σ',H',I,q⟩:=h;exact⟨σ',H',I.unwish,q⟩
 | cont=>obtain⟨σ',H',I,q⟩:=h;exact⟨σ',H',I.unwish,q⟩
 | ret u=>obtain⟨v,σ',H',I,r,q⟩:=h;exact⟨v,σ',H',I.unwish,r,q⟩
theorem PSs.nox{st:List Stmt}{t:TS}(h:PSs X.nox st t):PSs X st t:=λpins s σ H D I hw =>
 wpAny_mono (h pins s σ H D (I.wish _) hw) (λ_ _ q=>q.unwish) λ_ _ z=>False.elim z
end
section
variable{X:Cx}{st:Stmt}{rest:List Stmt}{t u:TS}{e:Expr}{te:TE}{pos:Pos}
def FU:TS:=λD σ H=>D.nx σ H
def IZ(t u:TS):TS:=λD σ H=>t { D with nx:=u D } σ H
theorem pss_nil:PSs X [] FU:=λ_ _ σ H _ I h=>wpAny_execs_nil ⟨σ,H,I,h⟩
theorem rG(h1:PS X st t)(h2:PSs X rest u):PSs X (st::rest) (IZ t u):=by
 intro pins s σ H D I h;refine wpAny_execs_cons (qZ (h1 pins s σ H { D with nx:=u D } I h) λf s1 q=>?_);cases f with
 | next =>
  obtain⟨σ',H',I',q⟩:=q;exact h2 pins s1 σ' H' D I' q
 | ret v=>exact q
 | brk=>exact q
 | cont=>exact q
theorem rh(h1:PS X st t):PSs X [st] t:=by
 intro pins s σ H D I h;refine wpAny_execs_cons (qZ (h1 pins s σ H D I h) λf s1 q=>?_);cases f with
 | next=>exact wpAny_execs_nil q
 | ret v=>exact q
 | brk=>exact q
 | cont=>exact q
def GP:TS:=λD σ H=>D.bk σ H
theorem ps_pass:PS X (.Pass pos) FU:=λ_ _ σ H _ I h=>wpAny_Pass ⟨σ,H,I,h⟩
theorem ps_break:PS X (.Break pos) GP:=λ_ _ σ H _ I h=>wpAny_Break ⟨σ,H,I,h⟩
theorem Inv.quiet(I:Inv X pins σ H s):interactive X.env=false:=by simp[interactive,I.ok.kind]
def Je(te:TE):TS:=λD σ H=>te σ H λ_ H1=>D.nx σ H1
theorem um(he:PE X e te)(hs:swapsWith e none pos.line X.env=pure false:=by rfl):PS X (.Expr e pos) (Je te):=by
 intro pins s σ H D I h;exact wpAny_Expr_any (qZ (he pins s σ H _ I h) λv s1 ⟨x,H1,I1,r1,q1⟩=>⟨σ,H1,I1,q1⟩) I.quiet hs
def Ja(te:TE):TS:=λD σ H=>te σ H D.rt
theorem sh(he:PE X e te):PS X (.Return (some e) pos) (Ja te):=by
 intro pins s σ H D I h;exact wpAny_Return_some (qZ (he pins s σ H _ I h) λv s1 ⟨x,H1,I1,r1,q1⟩=>⟨x,σ,H1,I1,r1,q1⟩)
def I0:TS:=λD _ H=>D.rt .non H
theorem ps_retN:PS X (.Return none pos) I0:=λ_ _ σ H _ I h=>wpAny_Return_none ⟨.non,σ,H,I,rfl,h⟩
def KO(c:TT)(t u:TS):TS:=λD σ H=>c σ H λb H1=>if b=true then t D σ H1 else u D σ H1
theorem u7{c:Expr}{a b:List Stmt}{tc:TT}(hc:PT X c tc)(ha:PSs X a t)(hb:PSs X b u):PS X (.If c a b pos) (KO tc t u):=by
 intro pins s σ H D I h;refine wpAny_If (qZ (hc pins s σ H _ I h) λd s1 ⟨H1,I1,q1⟩=>?_);cases d with
 | true=>exact ha pins s1 σ H1 D I1 q1
 | false=>exact hb pins s1 σ H1 D I1 q1
end
abbrev TG:=V->St->Hp->(St->Hp->Prop)->Prop
abbrev Ek:=List V->St->Hp->(St->Hp->Prop)->Prop
def PG(X:Cx)(target:Expr)(t:TG):Prop :=
 ∀(pins:List (Addr×Obj)) (s:Shared) (σ:St) (H:Hp) (v:V) (u:Value) (Q:St->Hp->Prop),Inv X pins σ H s->RelV v u->t v σ H Q ->
  wpAny (model X.prog X.w) X.A (assign target X.env u) (λ_ s'=>∃ σ' H',Inv X pins σ' H' s'/\Q σ' H') X.xe s
def IR(X:Cx)(ts:List Expr)(t:Ek):Prop :=
 ∀(pins:List (Addr×Obj)) (s:Shared) (σ:St) (H:Hp) (vs:List V) (us:List Value) (Q:St->Hp->Prop),Inv X pins σ H s->Vals vs us->t vs σ H Q ->
  wpAny (model X.prog X.w) X.A (assignInOrder ((assignEach ts X.env).map (·.2)) us) (λ_ s'=>∃ σ' H',Inv X pins σ' H' s'/\Q σ' H') X.xe s
abbrev Ee:=V->V->V->Hp->(Hp->Prop)->Prop
def IJ(X:Cx)(t:Ee):Prop :=
 ∀(pins:List (Addr×Obj)) (s:Shared) (σ:St) (H:Hp) (o i v:V) (ov iv u:Value) (Q:Hp->Prop),Inv X pins σ H s->RelV o ov->RelV i iv->RelV v u->t o i v H Q ->
  wpAny (model X.prog X.w) X.A (setItem ov iv u) (λ_ s'=>∃ H',Inv X pins σ H' s'/\Q H') X.xe s
abbrev IQ:=V->V->Hp->VK->Prop
def LK(X:Cx)(op:Operator)(t:IQ):Prop :=
 ∀(pins:List (Addr×Obj)) (s:Shared) (σ:St) (H:Hp) (x y:V) (v u:Value) (Q:VK),Inv X pins σ H s->RelV x v->RelV y u->t x y H Q ->
  wpAny (model X.prog X.w) X.A (inplaceOp op v u) (EP X pins σ Q) X.xe s
section
variable{X:Cx}{pos:Pos}
def wU(i:Nat):TG:=λv σ H Q=>Q (σ.set i (some v)) H
theorem xy{i:Nat}{x:Str}(hN:X.N.Nodup)(hi:X.N[i]? = some x)(hx:yW X.env.scope x)(hf:X.fn x=true\/X.env.scope.names.lookup x=some .local:=by first|exact .inl rfl|exact .inr rfl|assumption):PG X (.Name x pos) (wU i):=by
 intro pins s σ H v u Q I r h;exact wpAny_assign_Name (sV I hN hi hx r (λs' I'=>⟨_,H,I',h⟩) hf)
def JY:Ek:=λvs σ H Q=>vs=[]/\Q σ H
def Gp(t:TG)(u:Ek):Ek:=λvs σ H Q=>∃ v r,vs=v::r/\t v σ H λσ' H'=>u r σ' H' Q
theorem EN:IR X [] JY:=by
 intro pins s σ H vs us Q I r h;obtain⟨e,h⟩:=h;subst e;cases r;exact assignInOrder_nil ⟨σ,H,I,h⟩
theorem CS(h1:PG X e t)(h2:IR X es u)
  (hs:(assignEach (e::es) X.env).map (·.2)=assign e X.env::(assignEach es X.env).map (·.2):=by rfl):IR X (e::es) (Gp t u):=by
 intro pins s σ H vs us Q I r h;obtain⟨v,vr,e1,h⟩:=h;subst e1;cases r with
 | cons r rr =>
  rw[hs];refine assignInOrder_cons (qZ (h1 pins s σ H _ _ _ I r h) λ_ s1 ⟨σ1,H1,I1,q1⟩=>?_);exact h2 pins s1 σ1 H1 _ _ Q I1 rr q1
def Ig(K:Frag)(n:Nat)(t:Ek):TG:=λv σ H Q=>∃ a xs,v = .ref a/\SqT K H a xs/\xs.length=n/\t xs σ H Q
theorem xx(hc:X.calm=true)(h:IR X es t)
  (hn:(assignEach es X.env).length=n:=by rfl) (hst:(assignEach es X.env).findIdx? (·.1)=none:=by rfl):PG X (.Tuple es k pos) (Ig X.K n t):=by
 intro pins s σ H v u Q I r hw;obtain⟨a,xs,e1,hq,hl,hw⟩:=hw;subst e1;cases r;obtain⟨its,rv,ht,hz⟩:=I.tuple hq;refine assign_Tuple_tuple (I.ok.hd hc) ht (by simp[hn,← hl,rv.length]) hst λh' hx=>?_;have I1:Inv X pins σ H { s with heap:=h' }:=I.kept (t':=s.toks) λb o e=>hx b o (aO (ηL e)) e;exact h pins _ σ H xs _ Q I1 (by simpa using rv) hw
def JX(to ti:TE)(t:Ee):TG:=λv σ H Q=>to σ H λo H1=>ti σ H1 λi H2=>t o i v H2 λH3=>Q σ H3
theorem t8{o i:Expr}{to ti:TE}{t:Ee}(ho:PE X o to)(hi:PE X i ti)(hs:IJ X t)
  (ha:∀ v,assign (.Subscript o i pos) X.env v=(do
   let ov ← holding [v] (eval o X.env)
   let iv ← holding [v,ov] (eval i X.env)
   standAt pos
   holding [v,ov,iv] (setItem ov iv v)
   release [v,ov,iv] []):=by intro _;rfl):PG X (.Subscript o i pos) (JX to ti t):=by
 intro pins s σ H v u Q I r h;rw[ha];refine ηB (wpAny_holding (qZ (ho pins s σ H _ I h) λov s1 ⟨x,H1,I1,r1,q1⟩=>?_));refine ηB (wpAny_holding (qZ (hi pins s1 σ H1 _ I1 q1) λiv s2 ⟨y,H2,I2,r2,q2⟩=>?_));refine ηB (wpAny_standAt (ηB (wpAny_holding (qZ (hs pins s2 σ H2 x y v ov iv u _ I2 r1 r2 r q2) λ_ s3 ⟨H3,I3,q3⟩=>?_))));exact wpAny_release ⟨σ,H3,I3,q3⟩
def GQ(te:TE)(g:TG):TS:=λD σ H=>te σ H λx H1=>g x σ H1 D.nx
theorem sJ{tg e:Expr}{te:TE}{g:TG}(he:PE X e te)(hg:PG X tg g)(hs:swapsWithSole [tg] e pos.line X.env=pure false:=by rfl)(hw:swappedStores [tg] e X.env=pure none:=by rfl)
  (h1:(assignEach [tg] X.env).map (·.2)=[assign tg X.env]:=by rfl):PS X (.Assign [tg] e pos) (GQ te g):=by
 intro pins s σ H D I h;refine wpAny_Assign_stores (qZ (he pins s σ H _ I h) λv s1 ⟨x,H1,I1,r1,q1⟩=>?_) hs hw;rw[h1];exact qZ (hg pins s1 σ H1 x v _ I1 r1 q1) λ_ s2 q=>q
theorem td{i:Nat}{x:Str}{e:Expr}{te:TE}{pos':Pos}(hN:X.N.Nodup)(hi:X.N[i]? = some x)(hx:yW X.env.scope x)(he:PE X e te)(hs:swapsWith e (some (.Name x pos')) pos.line X.env=pure false:=by rfl)(hf:X.fn x=true\/X.env.scope.names.lookup x=some .local:=by first|exact .inl rfl|exact .inr rfl|assumption) :
  PS X (.Assign [.Name x pos'] e pos) (GQ te (wU i)):=by
 intro pins s σ H D I h;refine wpAny_Assign_Name (qZ (he pins s σ H _ I h) λv s1 ⟨y,H1,I1,r1,q1⟩=>?_) hs;exact sV I1 hN hi hx r1 (λs2 I2=>⟨_,H1,I2,q1⟩) hf
def GO(i j:Nat)(ta:TA):TS:=λD σ H=>ta σ H λvs H1=>∃ v w,vs=[v,w]/\D.nx ((σ.set i (some v)).set j (some w)) H1
theorem CL(hc:X.calm=true)(hN:X.N.Nodup)(hi:X.N[i]? = some x)(hj:X.N[j]? = some y)(hij:i≠j)
  (hx:X.env.scope.names.lookup x=some .local) (hy:X.env.scope.names.lookup y=some .local) (ha:PA X [a,b] ta)
  (hw:swappedStores [.Tuple [.Name x px,.Name y py] kt pt] (.Tuple [a,b] k2 pt2) X.env=pure (some [x,y]))
  (hs:swapsWithSole [.Tuple [.Name x px,.Name y py] kt pt] (.Tuple [a,b] k2 pt2) pos.line X.env=pure false:=by rfl) :
  PS X (.Assign [.Tuple [.Name x px,.Name y py] kt pt] (.Tuple [a,b] k2 pt2) pos) (GO i j ta):=by
 intro pins s σ H D I h;rw[exec_Assign_arm];refine ηB (wpAny_standAt ?_);rw[hs];refine ηB (ηP ?_);rw[if_neg (by decide)];refine ηB (Tuple_ (qZ (ha _ pins s σ H _ I h) λus s1 ⟨vs,H1,I1,r1,q1⟩=>?_));obtain⟨v,w,e1,q1⟩:=q1;subst e1;obtain⟨u1,u2,rfl,rv,rw'⟩:∃ u1 u2,us=[u1,u2]/\RelV v u1/\RelV w u2:=by
  cases r1 with
  | cons p q =>
   cases q with
   | cons p' q' =>
    cases q';exact⟨_,_,rfl,p,p'⟩
 refine wpAny_newObj_type ?_ (by show 2<=sizeLine;decide);have I2:Inv X pins σ H1 { s1 with heap:=s1.heap.push { cls:=.type "tuple",data:=.seq [u1,u2].toArray } }:=I1.kept (t':=s1.toks) λb o e=>ηH _ e;rw[hw];refine ηB (ηP ?_);show wpAny (model X.prog X.w) X.A (do rule "assign.swapped-stores";let items ← unpackItems (.ref s1.heap.objs.size) 2 none;assignInOrder [λv=>bindName X.env y v,λv=>bindName X.env x v] items.reverse;pure Flow.next) ..;refine ηB (wpAny_rule (ηB (unpackItems_tuple (items:=#[u1,u2]) (I.ok.hd hc) (IsTup.new s1.heap _) λh' hx'=>?_)));have I3:=I2.kept (h':=h') (t':=s1.toks) λb o e=>hx' b o (aO (ηL e)) e;show wpAny _ _ (assignInOrder [λv=>bindName X.env y v,λv=>bindName X.env x v] [u2,u1] >>= λ_=>pure Flow.next) ..;refine ηB (assignInOrder_cons (wpAny_bindName (sV I3 hN hj (.inl hy) rw' (λs2 I4=>?_) (.inr hy))));refine assignInOrder_cons (wpAny_bindName (sV I4 hN hi (.inl hx) rv (λs3 I5=>assignInOrder_nil (ηP ?_)) (.inr hx)));rw[List.set_comm _ _ (Ne.symm hij)] at I5;exact⟨_,H1,I5,q1⟩
def KT(i:Nat)(te:TE)(ti:IQ):TS:=λD σ H=>∃ x,σ[i]? = some (some x)/\te σ H λy H1=>ti x y H1 λz H2=>D.nx (σ.set i (some z)) H2
theorem CM(hN:X.N.Nodup)(hi:X.N[i]? = some x)(hx:yW X.env.scope x)(he:PE X e te)(ho:LK X op ti)(hf:X.fn x=true\/X.env.scope.names.lookup x=some .local:=by first|exact .inl rfl|exact .inr rfl|assumption) :
  PS X (.AugAssign (.Name x pos') op e pos) (KT i te ti):=by
 intro pins s σ H D I h;obtain⟨v,e1,h⟩:=h;obtain⟨m,hn,hl⟩:=I.loc;have vis:GC X.env.scope x:=by rcases hx with k|k;exact .inl k;exact .inr (.inl k)
 obtain⟨u,r,l⟩:=hl i x v hi e1 vis;refine wpAny_AugAssign_Name ?_;have go:wpAny (model X.prog X.w) X.A (eval e X.env) (λw s₂=>wpAny (model X.prog X.w) X.A (inplaceOp op u w) (λr s₃=>wpAny (model X.prog X.w) X.A (storeName X.env x r) (λ_=>SP X pins D .next) X.xe s₃) X.xe s₂) X.xe s:=by
  refine qZ (he pins s σ H _ I h) λw s1 ⟨y,H1,I1,r1,q1⟩=>?_;refine qZ (ho pins s1 σ H1 v y u w _ I1 r r1 q1) λz s2 ⟨zv,H2,I2,r2,q2⟩=>?_;exact sV I2 hN hi hx r2 (λs3 I3=>⟨_,H2,I3,q2⟩) hf
 rcases l with⟨hk,hm⟩|⟨hk,c,hc,hcell⟩
 ·exact wpAny_loadName_local I.ok.kind hk hn hm go
 ·rcases hk with hk|hk
  ·exact wpAny_loadName_cell I.ok.kind hk hc hcell go
  ·rcases hx with k|k
   ·have:X.env.scope.names.lookup x=some .free:=hk;rw[k] at this;cases this
   ·have:X.env.scope.names.lookup x=some .free:=hk;rw[k] at this;cases this
def Jf(to ti te:TE)(tget:V->V->Hp->VK->Prop)(tip:IQ)(tset:Ee):TS:=λD σ H=>to σ H λo H1=>ti σ H1 λi H2=>tget o i H2 λx H3=>te σ H3 λy H4=>tip x y H4 λz H5=>tset o i z H5 λH6=>D.nx σ H6
def Kk(X:Cx)(t:V->V->Hp->VK->Prop):Prop :=
 ∀(pins:List (Addr×Obj)) (s:Shared) (σ:St) (H:Hp) (o i:V) (ov iv:Value) (Q:VK),Inv X pins σ H s->RelV o ov->RelV i iv->t o i H Q ->
  wpAny (model X.prog X.w) X.A (getItem ov iv) (EP X pins σ Q) X.xe s
theorem EJ(ho:PE X o to)(hi:PE X i ti)(hg:Kk X tget)(he:PE X e te)(hp:LK X op tip)(hs:IJ X tset)
  (ha:∀ ov iv new,augStore i ov iv new=(do holding [new,ov,iv] (setItem ov iv new);release [new,ov,iv] [];pure .next):=by intros;rfl):PS X (.AugAssign (.Subscript o i tpos) op e pos) (Jf to ti te tget tip tset):=by
 intro pins s σ H D I h;refine wpAny_AugAssign_SubscriptAny (qZ (ho pins s σ H _ I h) λov s1 ⟨x1,H1,I1,r1,q1⟩=>?_) ha;refine qZ (hi pins s1 σ H1 _ I1 q1) λiv s2 ⟨x2,H2,I2,r2,q2⟩=>?_;refine qZ (hg pins s2 σ H2 x1 x2 ov iv _ I2 r1 r2 q2) λold s3 ⟨x3,H3,I3,r3,q3⟩=>?_;refine qZ (he pins s3 σ H3 _ I3 q3) λv s4 ⟨x4,H4,I4,r4,q4⟩=>?_;refine qZ (hp pins s4 σ H4 x3 x4 old v _ I4 r3 r4 q4) λnew s5 ⟨x5,H5,I5,r5,q5⟩=>?_;exact qZ (hs pins s5 σ H5 x1 x2 x5 ov iv new _ I5 r1 r2 r5 q5) λ_ s6 ⟨H6,I6,q6⟩=>⟨σ,H6,I6,q6⟩
end
section
variable{X:Cx}{pos:Pos}
def GN(c:TT)(tb:TS):TS:=λD σ H=>∃ W:Nat->St->Hp->Prop,(∃ m,W m σ H)/\∀ m σ H,W m σ H ->
 c σ H λb H1=>if b=true then ∃ N:St->Hp->Prop,(∀ σ' H',N σ' H'->∃ m',m'<m/\W m' σ' H')/\tb { D with nx:=N,ct:=N,bk:=D.nx } σ H1 else D.nx σ H1
theorem CK(hp:PassesOwn (model X.prog X.w) X.A X.env X.xe)(hc:PT X c tc)(hb:PSs X body tb):PS X (.While c body [] pos) (GN tc tb):=by
 intro pins s σ H D I h;obtain⟨W,⟨m0,w0⟩,turn⟩:=h;refine wpAny_While (codeAny_whileLoop (λn s'=>∃ σ' H',Inv X pins σ' H' s'/\W n σ' H') ?_ m0 ⟨σ,H,I,w0⟩);rintro n s1 ⟨σ1,H1,I1,w1⟩;refine wpAny_passesOwn hp (qZ (hc pins s1 σ1 H1 _ I1 (turn n σ1 H1 w1)) λb s2 ⟨H2,I2,q2⟩=>?_);cases b with
 | true =>
  obtain⟨N,hN,q2⟩:=q2;rw[if_pos rfl];refine wpAny_passesOwn hp (qZ (hb pins s2 σ1 H2 _ I2 q2) λf s3 q3=>?_);cases f with
  | next =>
   obtain⟨σ3,H3,I3,n3⟩:=q3;obtain⟨m',hm,w3⟩:=hN σ3 H3 n3;exact⟨m',hm,σ3,H3,I3,w3⟩
  | cont =>
   obtain⟨σ3,H3,I3,n3⟩:=q3;obtain⟨m',hm,w3⟩:=hN σ3 H3 n3;exact⟨m',hm,σ3,H3,I3,w3⟩
  | brk=>exact q3
  | ret v=>exact q3
 | false =>
  rw[if_neg aB];exact wpAny_execs_nil ⟨σ1,H2,I2,q2⟩
end
structure It where
 go:Nat->Hp->Prop
 yld:Nat->Hp->V->Hp->Prop
 stop:Nat->Hp->Prop
def sT(X:Cx)(pins:List (Addr×Obj))(H:Hp)(b:Addr):Prop :=
 H b=none/\b≠X.env.locals/\b ∉ X.fs/\(b∈X.ex\/X.s₀.heap.objs.size<=b)/\(∀ x c,X.env.cells.lookup x=some c->c≠b)/\∀ p∈X.pn++pins,p.1≠b
theorem Inv.fpOk(I:Inv X pins σ H s)(hb:s.heap.objs.size<=b)(hn:H' b=none):sT X pins H' b:=by
 refine⟨hn,dE (aE I.lt hb),I.nofs hb,.inr (aZ I.sz hb),λx c e z=>?_,λp hp z=>?_⟩
 ·obtain⟨v,q⟩:=I.cell x c e;exact absurd (aE q.lt (by rw[z];exact hb)) (br _)
 ·exact absurd (aE (ηL (I.pin p hp).1) (by rw[z];exact hb)) (br _)
structure Turn (P:Program)(w:World)(K:Frag)(tg:Expr)(J:It)(fp:List Addr)(it:Addr)(tn:Nat->Heap->Prop):Prop where
 mem:it∈fp
 obj:∀ i h,tn i h->∀ b∈fp,∃ o,h.get? b=some o/\∀ v,o.data ≠ .cell v
 keep:∀ i h h',tn i h->(∀ b∈fp,∀ o,h.get? b=some o->h'.get? b=some o)->tn i h'
 item:∀(X:Cx),X.prog=P->X.w=w->X.K=K->X.calm=true->∀(i:Nat) (pins:List (Addr×Obj)) (s:Shared) (σ:St) (H:Hp) (E:Value->Shared->Prop),Inv X pins σ H s->(∀ b∈fp,sT X pins H b)->tn i s.heap->J.go i H ->
  wpAny (model P w) X.A (pyNext (.ref it)) (λr s1=>∃ u,r=some u /\
   wpAny (model P w) X.A (letOwnedTupleGo tg (.ref it) u) (λ_ s2=>∃ x H',Inv X pins σ H' s2/\RelV x u/\J.yld i H x H'/\tn (i+1) s2.heap/\∀ b∈fp,H' b=none) E s1) E s
 done:∀(X:Cx),X.prog=P->X.w=w->X.K=K->X.calm=true->∀(i:Nat) (pins:List (Addr×Obj)) (s:Shared) (σ:St) (H:Hp) (E:Value->Shared->Prop),Inv X pins σ H s->(∀ b∈fp,sT X pins H b)->tn i s.heap->J.stop i H ->
  wpAny (model P w) X.A (pyNext (.ref it)) (λr s1=>r=none/\Inv X pins σ H s1) E s
 self:∀(A:Around) (i:Nat) (s:Shared) (Q:Value->Shared->Prop) (E:Value->Shared->Prop),tn i s.heap->Q (.ref it) s->wpAny (model P w) A (pyIter (.ref it)) Q E s
abbrev TI:=St->Hp->(It->Hp->Prop)->Prop
def Mj(X:Cx)(pins:List (Addr×Obj))(σ:St)(tg:Expr)(R:It->Hp->Prop)(itv:Value)(s2:Shared):Prop :=
 ∃(it:Addr) (fp:List Addr) (tn:Nat->Heap->Prop) (J:It) (H':Hp),itv = .ref it/\Inv X pins σ H' s2/\Turn X.prog X.w X.K tg J fp it tn/\tn 0 s2.heap/\(∀ b∈fp,sT X pins H' b)/\R J H'
def PI(X:Cx)(tg iter:Expr)(wi:TI):Prop :=
 ∀(pins:List (Addr×Obj)) (s:Shared) (σ:St) (H:Hp) (R:It->Hp->Prop),Inv X pins σ H s->wi σ H R ->
  wpAny (model X.prog X.w) X.A (eval iter X.env) (λv s1=>wpAny (model X.prog X.w) X.A (pyIter v) (Mj X pins σ tg R) X.xe s1) X.xe s
theorem yD{M:Model}{A:Around}{E:Value->Shared->Prop}{s:Shared}{tg:Expr}{it:Addr}{u:Value}{o:Obj}{n:String}{vs:Array Value}{Q:Unit->Shared->Prop}(ho:s.heap.get? it=some o)(hc:o.cls = .type n)(hd:o.data = .fields vs)
  (hn:["enumerate", "zip", "dict_itemiterator", "dict_reverseitemiterator", "odict_iterator", "itertools.zip_longest", "itertools.pairwise"].contains n=false) (hQ:Q () s):wpAny M A (letOwnedTupleGo tg (.ref it) u) Q E s:=by
 unfold letOwnedTupleGo;cases tg <;> first
  | exact ηP hQ
  | (cases u <;> first
    | exact ηP hQ
    | (refine ηB (wpAny_load ho ?_)
       rw[hc,hd];show wpAny M A (if (["enumerate", "zip", "dict_itemiterator", "dict_reverseitemiterator", "odict_iterator", "itertools.zip_longest", "itertools.pairwise"].contains n && vs[0]? == some (rawInt _))=true then _ else _) Q E s;rw[if_neg (by intro h;rw[hn,eI] at h;cases h)];exact ηP hQ))
def Mn(K:Frag)(a:Addr):It :=
 ⟨λi H=>∃ xs x,SqL K H a xs/\xs[i]? = some x,λi H x H'=>H'=H/\∀ xs,SqL K H a xs->xs[i]? = some x,λi H=>∃ xs,SqL K H a xs/\xs.length<=i⟩
def Mm(K:Frag)(a:Addr):It :=
 ⟨λi H=>∃ xs x,SqT K H a xs/\xs[i]? = some x,λi H x H'=>H'=H/\∀ xs,SqT K H a xs->xs[i]? = some x,λi H=>∃ xs,SqT K H a xs/\xs.length<=i⟩
def IS(lo:Int)(n:Nat):It:=⟨λi _=>i<n,λi H x H'=>H'=H/\x = .int (lo+i),λi _=>n<=i⟩
theorem Ba{P:Program}{w:World}{K:Frag}{tg:Expr}(a it:Addr):Turn P w K tg (Mn K a) [it] it (λi h=>h.IsListIter it a i) where
 mem:=by simp
 obj:=λi h st b hb=>by
  have e:b=it:=by simpa using hb
  subst e;obtain⟨o,e,c,d⟩:=st;exact⟨o,e,λv z=>by rw[d] at z;cases z⟩
 keep:=λi h h' st k=>st.at λo e=>k it (by simp) o e
 item:=by
  intro X hP hw hK hc i pins s σ H E I hf st hg;subst hP hw hK;obtain⟨xs,x,hq,hx⟩:=hg;obtain⟨its,rv,p,hz⟩:=I.list hq;obtain⟨u,hu,ru⟩:=rv.get hx;obtain⟨f0,f1,f2,f3,f4,f5⟩:=hf it (by simp);refine wpAny_pyNext_list_item st p.isList (x:=u) (by simpa using hu) λh' st' sb=>?_;have I1:Inv X pins σ H { s with heap:=h' }:=I.turned (t':=s.toks) (λb o hb e=>(sb.2 b hb).trans e) f0 f1 f3 f4 f5;obtain⟨o,e,c,d⟩:=id st';exact⟨u,rfl,yD (s:={ s with heap:=h' }) e c d (by decide) ⟨x,H,I1,ru,⟨rfl,λys hy=>by rw[I.list_inj hy hq];exact hx⟩,st',λb hb=>(hf b hb).1⟩⟩
 done:=by
  intro X hP hw hK hc i pins s σ H E I hf st hg;subst hP hw hK;obtain⟨xs,hq,hx⟩:=hg;obtain⟨its,rv,p,hz⟩:=I.list hq;obtain⟨f0,f1,f2,f3,f4,f5⟩:=hf it (by simp);have hl:=rv.length;exact wpAny_pyNext_list_end (I.ok.hd hc) st p.isList (by simp;omega) λh' eb=>⟨rfl,I.turned (t':=s.toks) (λb o hb e=>eb b o hb e) f0 f1 f3 f4 f5⟩
 self:=λ_ _ _ _ _ st h=>wpAny_pyIter_listiter st h
theorem yY{P:Program}{w:World}{K:Frag}{tg:Expr}(a it:Addr):Turn P w K tg (Mm K a) [it] it (λi h=>h.IsTupleIter it a i) where
 mem:=by simp
 obj:=λi h st b hb=>by
  have e:b=it:=by simpa using hb
  subst e;obtain⟨o,e,c,d⟩:=st;exact⟨o,e,λv z=>by rw[d] at z;cases z⟩
 keep:=λi h h' st k=>st.at λo e=>k it (by simp) o e
 item:=by
  intro X hP hw hK hc i pins s σ H E I hf st hg;subst hP hw hK;obtain⟨xs,x,hq,hx⟩:=hg;obtain⟨its,rv,p,hz⟩:=I.tuple hq;obtain⟨u,hu,ru⟩:=rv.get hx;obtain⟨f0,f1,f2,f3,f4,f5⟩:=hf it (by simp);refine wpAny_pyNext_tuple_item st (show s.heap.IsTuple a its.toArray from p) (x:=u) (by simpa using hu) λh' st' sb=>?_;have I1:Inv X pins σ H { s with heap:=h' }:=I.turned (t':=s.toks) (λb o hb e=>(sb.2 b hb).trans e) f0 f1 f3 f4 f5;obtain⟨o,e,c,d⟩:=id st';exact⟨u,rfl,yD (s:={ s with heap:=h' }) e c d (by decide) ⟨x,H,I1,ru,⟨rfl,λys hy=>by rw[I.tuple_inj hy hq];exact hx⟩,st',λb hb=>(hf b hb).1⟩⟩
 done:=by
  intro X hP hw hK hc i pins s σ H E I hf st hg;subst hP hw hK;obtain⟨xs,hq,hx⟩:=hg;obtain⟨its,rv,p,hz⟩:=I.tuple hq;obtain⟨f0,f1,f2,f3,f4,f5⟩:=hf it (by simp);have hl:=rv.length;exact wpAny_pyNext_tuple_end (I.ok.hd hc) st (show s.heap.IsTuple a its.toArray from p) (by simp;omega) λh' eb=>⟨rfl,I.turned (t':=s.toks) (λb o hb e=>eb b o hb e) f0 f1 f3 f4 f5⟩
 self:=λ_ _ _ _ _ st h=>wpAny_pyIter_tupleiter st h
theorem yZ{P:Program}{w:World}{K:Frag}{tg:Expr}(it:Addr)(lo:Int)(n:Nat):Turn P w K tg (IS lo n) [it] it (λi h=>IsRangeIter h it (lo+(i:Nat)*1) ((n:Int)-(i:Nat)) 1) where
 mem:=by simp
 obj:=λi h st b hb=>by
  have e:b=it:=by simpa using hb
  subst e;exact⟨_,st,λv z=>by
   have z':Data.fields _=Data.cell v:=z;cases z'⟩
 keep:=λi h h' st k=>k it (by simp) _ st
 item:=by
  intro X hP hw hK hc i pins s σ H E I hf st hg;subst hP hw hK;obtain⟨f0,f1,f2,f3,f4,f5⟩:=hf it (by simp);have W:=Walks.range (prog:=X.prog) (w:=X.w) (I.ok.hd hc) it lo 1 n;refine W.item i s _ _ hg st λv h' tk hv st' kk=>?_;obtain⟨t,rfl⟩:=hv;have I1:Inv X pins σ H { s with heap:=h',toks:=tk }:=I.turned (λb o hb e=>kk b o (by simpa using hb) e) f0 f1 f3 f4 f5;refine⟨_,rfl,yD (s:={ s with heap:=h',toks:=tk }) (n := "range_iterator") st' rfl rfl (by decide) ⟨.int (lo+i),H,I1,⟨t,?_⟩,⟨rfl,rfl⟩,st',λb hb=>(hf b hb).1⟩⟩;rw[bv]
 done:=by
  intro X hP hw hK hc i pins s σ H E I hf st hg;subst hP hw hK;obtain⟨f0,f1,f2,f3,f4,f5⟩:=hf it (by simp);exact wpAny_pyNext_range_end (I.ok.hd hc) st (by have:n<=i:=hg;omega) λh' eb=>⟨rfl,I.turned (t':=s.toks) (λb o hb e=>eb b o hb e) f0 f1 f3 f4 f5⟩
 self:=λ_ _ _ _ _ st h=>wpAny_pyIter_rangeiter st h
section
variable{X:Cx}{tg:Expr}
theorem yn{pins:List (Addr×Obj)}{σ:St}{H:Hp}{s:Shared}{R:It->Hp->Prop}{E:Value->Shared->Prop}{lo hi:Int}{t u v:Tok}{tk:Nat}(I:Inv X pins σ H s)(h1 : -(2^62)<=lo)(h2:lo<2^62)(h3 : -(2^62)<=hi)(h4:hi<2^62)
  (q:R (IS lo (hi-lo).toNat) H):wpAny (model X.prog X.w) X.A (pyIter (.ref s.heap.objs.size)) (Mj X pins σ tg R) E { s with heap:=s.heap.push { cls:=.type "range",data:=.fields #[.int lo t,.int hi u,.int 1 v] },toks:=tk }:=by
 refine wpAny_pyIter_range (IsRange.new ..) (small_one h1 h2 h3 h4) ?_;have I1:Inv X pins σ H { s with heap:=s.heap.push { cls:=.type "range",data:=.fields #[.int lo t,.int hi u,.int 1 v] },toks:=tk }:=I.kept λb o e=>ηH _ e;refine⟨(s.heap.push { cls:=.type "range",data:=.fields #[.int lo t,.int hi u,.int 1 v] }).objs.size,[(s.heap.push { cls:=.type "range",data:=.fields #[.int lo t,.int hi u,.int 1 v] }).objs.size],_,_,H,rfl,
  I1.kept (t':=tk) λb o e=>ηH _ e,yZ _ lo (hi-lo).toNat,?_,λb hb=>?_,q⟩
 ·have e1:lo+((0:Nat):Int)*1=lo:=by simp
  have e2:(((hi-lo).toNat:Nat):Int)-((0:Nat):Int)=Builtin.Range.rangeSize lo hi 1:=by rw[rangeSize_one];split <;> omega
  show IsRangeIter _ _ (lo+((0:Nat):Int)*1) ((((hi-lo).toNat:Nat):Int)-((0:Nat):Int)) 1;rw[e1,e2];exact ηG _ rfl
 ·have e:b=(s.heap.push { cls:=.type "range",data:=.fields #[.int lo t,.int hi u,.int 1 v] }).objs.size:=by simpa using hb
  subst e;exact I1.fpOk (af _) (I1.hok.fresh (af _))
def JO(ta:TA):TI:=λσ H R=>ta σ H λvs H1=>∃ j:Int,vs=[.int j] /\ -(2^62)<=j/\j<2^62/\R (IS 0 j.toNat) H1
def JN(ta:TA):TI:=λσ H R=>ta σ H λvs H1=>∃ i j:Int,vs=[.int i,.int j]/\(-(2^62)<=i/\i<2^62 /\ -(2^62)<=j/\j<2^62)/\R (IS i (j-i).toNat) H1
theorem wC(hg:Gl X "range")(hm:X.mg "range" = none)(ha:PA X [a] ta)(hs:starEach [a] X.env=[(false,eval a X.env)]:=by rfl):PI X tg (.Call (.Name "range" p) [a] [] pos) (JO ta):=by
 intro pins s σ H R I h;refine Call_ (rN I hg hm boot_range (PyProof.Rows.callWith_type1 (qZ (ha pos pins s σ H _ I h) λus s1 ⟨vs,H1,I1,r1,q1⟩=>?_) hs rfl));obtain⟨j,e,q1,q2,q⟩:=q1;subst e;cases r1 with
 | cons r rr =>
  cases rr;obtain⟨t,rfl⟩:=r;exact call_range_1 (yn I1 (by omega) (by omega) q1 q2 (by simpa using q))
theorem Bn(hg:Gl X "range")(hm:X.mg "range" = none)(ha:PA X [a,b] ta)(hs:starEach [a,b] X.env=[(false,eval a X.env),(false,eval b X.env)]:=by rfl)(hs2:starEach [b] X.env=[(false,eval b X.env)]:=by rfl) :
  PI X tg (.Call (.Name "range" p) [a,b] [] pos) (JN ta):=by
 intro pins s σ H R I h;refine Call_ (rN I hg hm boot_range (PyProof.Rows.callWith_type1 (qZ (ha pos pins s σ H _ I h) λus s1 ⟨vs,H1,I1,r1,q1⟩=>?_) (by rw[hs,hs2]) (by rw[hs2];rfl)));obtain⟨i,j,e,⟨q1,q2,q3,q4⟩,q⟩:=q1;subst e;cases r1 with
 | cons r rr =>
  cases rr with
  | cons r' rr =>
   cases rr;obtain⟨t,rfl⟩:=r;obtain⟨t',rfl⟩:=r';exact call_range_2 (yn I1 q1 q2 q3 q4 q)
def KP(wi:TI)(g:TG)(tb:TS):TS:=λD σ H=>wi σ H λJ H1=>∃ W:Nat->Nat->St->Hp->Prop,(∃ m,W 0 m σ H1)/\∀ i m σ H,W i m σ H ->
 (J.stop i H/\D.nx σ H)\/(J.go i H/\∃ N:St->Hp->Prop,(∀ σ' H',N σ' H'->∃ m',m'<m/\W (i+1) m' σ' H')/\∀ x H',J.yld i H x H'->g x σ H' λσ2 H2=>tb { D with nx:=N,ct:=N,bk:=D.nx } σ2 H2)
def vJ(fp:List Addr)(h:Heap):List (Addr×Obj):=fp.filterMap λb=>(h.get? b).map λo=>(b,o)
theorem sM(hb:b∈fp)(e:h.get? b=some o):(b,o)∈vJ fp h:=gI.mpr ⟨b,hb,by rw[e];rfl⟩
theorem Bu(hp:p∈vJ fp h):p.1∈fp/\h.get? p.1=some p.2:=by
 obtain⟨b,hb,e⟩:=gI.mp hp;cases q:h.get? b with
 | none=>rw[q] at e;cases e
 | some o =>
  rw[q] at e;have e':(b,o)=p:=Option.some.inj e;subst e';exact⟨hb,q⟩
theorem Inv.pinned(I:Inv X pins σ H s)(hf:∀ b∈fp,sT X pins H b)(ho:∀ b∈fp,∃ o,s.heap.get? b=some o/\∀ v,o.data ≠ .cell v):Inv X (pins++vJ fp s.heap) σ H s :=
 I.pins_of λp hp=>(bE.mp hp).elim (λz=>I.pin p (aU _ z)) λz=>by
  obtain⟨hb,e⟩:=Bu z;obtain⟨f0,f1,f2,_⟩:=hf p.1 hb;obtain⟨o,e',d⟩:=ho p.1 hb;rw[e] at e';cases e';exact⟨e,f0,f1,f2,d⟩
theorem Inv.unpinned(I:Inv X (pins++pl) σ H s):Inv X pins σ H s:=I.pins_of λp hp=>I.pin p (aU _ (gz _ hp))
theorem Hr(hp:PassesOwn (model X.prog X.w) X.A X.env X.xe)(hc:X.calm=true)(hi:PI X tg iter wi)(hg:PG X tg g)(hb:PSs X body tb)
  (hs:∀ x,foldedSetIterable iter X.env x=pure x:=by intro _;rfl):PS X (.For tg iter body [] pos) (KP wi g tb):=by
 intro pins s σ H D I h;refine wpAny_For (qZ (hi pins s σ H _ I h) λv s1 h1=>qZ h1 λitv s2 h2=>?_) hs;obtain⟨it,fp,tn,J,H2,e,I2,T,st2,f2,W,⟨m0,w0⟩,turn⟩:=h2;subst e
 -- what stays true of the iterator's objects through the loop
 have stat:∀{H':Hp},(∀ b∈fp,H' b=none)->∀ b∈fp,sT X pins H' b:=λhn b hb=>⟨hn b hb,(f2 b hb).2⟩;refine codeAny_forLoop_any (λn s'=>∃ i σ' H',Inv X pins σ' H' s'/\tn i s'.heap/\(∀ b∈fp,H' b=none)/\W i n σ' H') ?_ m0 ⟨0,σ,H2,I2,st2,λb hb=>(f2 b hb).1,w0⟩;rintro n s3 ⟨i,σ3,H3,I3,st3,fr3,w3⟩;rcases turn i n σ3 H3 w3 with⟨stop,qn⟩|⟨go,N,hN,step⟩
 ·refine wpAny_passesOwn hp (qZ (T.done X rfl rfl rfl hc i pins s3 σ3 H3 X.xe I3 (stat fr3) st3 stop) λr s4 ⟨hr,I4⟩=>?_);subst hr;exact wpAny_execs_nil ⟨σ3,H3,I4,qn⟩
 ·refine wpAny_passesOwn hp (qZ (T.item X rfl rfl rfl hc i pins s3 σ3 H3 X.xe I3 (stat fr3) st3 go) λr s4 ⟨u,hr,h4⟩=>?_);subst hr;refine wpAny_passesOwn hp (qZ h4 λ_ s5 ⟨x,H5,I5,r5,y5,st5,fr5⟩=>?_);have I5':=I5.pinned (stat fr5) (T.obj _ _ st5);refine wpAny_passesOwn hp (qZ (hg _ s5 σ3 H5 x u _ I5' r5 (step x H5 y5)) λ_ s6 ⟨σ6,H6,I6,q6⟩=>?_);refine wpAny_passesOwn hp (qZ (hb _ s6 σ6 H6 _ I6 q6) λf s7 q7=>?_);have again:∀{σ7:St} {H7:Hp},Inv X (pins++vJ fp s5.heap) σ7 H7 s7->N σ7 H7->∃ m,m<n/\∃ i σ' H',Inv X pins σ' H' s7/\tn i s7.heap/\(∀ b∈fp,H' b=none)/\W i m σ' H':=λ{σ7 H7} I7 n7=>by
   obtain⟨m',hm,w7⟩:=hN σ7 H7 n7;refine⟨m',hm,i+1,σ7,H7,I7.unpinned,T.keep _ _ _ st5 λb hb o e=>(I7.pin (b,o) (aU _ (aU _ (sM hb e)))).1,λb hb=>?_,w7⟩;obtain⟨o,e,d⟩:=T.obj _ _ st5 b hb;exact (I7.pin (b,o) (aU _ (aU _ (sM hb e)))).2.1
  cases f with
  | next=>obtain⟨σ7,H7,I7,n7⟩:=q7;exact again I7 n7
  | cont=>obtain⟨σ7,H7,I7,n7⟩:=q7;exact again I7 n7
  | brk=>obtain⟨σ7,H7,I7,q7⟩:=q7;exact⟨σ7,H7,I7.unpinned,q7⟩
  | ret v=>obtain⟨x7,σ7,H7,I7,r7,q7⟩:=q7;exact⟨x7,σ7,H7,I7.unpinned,r7,q7⟩
end
abbrev R2:=V->V->Hp->VK->Prop
def OpR(X:Cx)(f:Value->Value->Sem Value)(r:R2):Prop :=
 ∀(pins:List (Addr×Obj)) (s:Shared) (σ:St) (H:Hp) (x y:V) (v u:Value) (Q:VK),Inv X pins σ H s->RelV x v->RelV y u->r x y H Q ->
  wpAny (model X.prog X.w) X.A (f v u) (EP X pins σ Q) X.xe s
def LD(X:Cx)(f:Value->Sem Value)(r:V->Hp->VK->Prop):Prop :=
 ∀(pins:List (Addr×Obj)) (s:Shared) (σ:St) (H:Hp) (x:V) (v:Value) (Q:VK),Inv X pins σ H s->RelV x v->r x H Q ->
  wpAny (model X.prog X.w) X.A (f v) (EP X pins σ Q) X.xe s
def CallR(X:Cx)(f:Value)(r:List V->Hp->VK->Prop):Prop :=
 ∀(pins:List (Addr×Obj)) (s:Shared) (σ:St) (H:Hp) (xs:List V) (us:List Value) (Q:VK),Inv X pins σ H s->Vals xs us->r xs H Q ->
  wpAny (model X.prog X.w) X.A (call f us) (EP X pins σ Q) X.xe s
def LH(X:Cx)(r:V->Hp->(Bool->Hp->Prop)->Prop):Prop :=
 ∀(pins:List (Addr×Obj)) (s:Shared) (σ:St) (H:Hp) (x:V) (v:Value) (Q:Bool->Hp->Prop),Inv X pins σ H s->RelV x v->r x H Q ->
  wpAny (model X.prog X.w) X.A (truthy v) (TP X pins σ Q) X.xe s
def Jc(r:R2)(ta tb:TE):TE:=λσ H Q=>ta σ H λx H1=>tb σ H1 λy H2=>r x y H2 Q
def Mq(r:V->Hp->VK->Prop)(ta:TE):TE:=λσ H Q=>ta σ H λx H1=>r x H1 Q
def rI(C:Int->Int->Prop)(g:Int->Int->V):R2:=λx y H Q=>∃ i j,x = .int i/\y = .int j/\C i j/\Q (g i j) H
def CC(g:Int->Int->V):R2:=λx y H Q=>∃ i j,x = .int i/\y = .int j/\Q (g i j) H
def rU(g:Int->V):V->Hp->VK->Prop:=λx H Q=>∃ i,x = .int i/\Q (g i) H
section
variable{X:Cx}{a b c:Expr}{ta tb tc:TE}{pos:Pos}
theorem IA(ha:PE X a ta)(hb:PE X b tb){pins:List (Addr×Obj)}{s:Shared}{σ:St}{H:Hp}{R:V->V->Hp->Prop}(I:Inv X pins σ H s)
  (h:ta σ H λx H1=>tb σ H1 λy H2=>R x y H2) {Q:Value->Shared->Prop} {f:Value->Value->Sem Value}
  (hf:∀ v u s2 x y H2,Inv X pins σ H2 s2->RelV x v->RelV y u->R x y H2->wpAny (model X.prog X.w) X.A (f v u) Q X.xe s2) :
  wpAny (model X.prog X.w) X.A (eval a X.env) (λv s₁=>wpAny (model X.prog X.w) X.A (eval b X.env) (λu s₂=>wpAny (model X.prog X.w) X.A (f v u) Q X.xe s₂) X.xe s₁) X.xe s:=by
 refine qZ (ha pins s σ H _ I h) λv s1 ⟨x,H1,I1,r1,q1⟩=>?_;refine qZ (hb pins s1 σ H1 _ I1 q1) λu s2 ⟨y,H2,I2,r2,q2⟩=>?_;exact hf v u s2 x y H2 I2 r1 r2 q2
theorem rj{op:Operator}{r:R2}(ho:OpR X (binaryOp op) r)(ha:PE X a ta)(hb:PE X b tb):PE X (.BinOp a op b pos) (Jc r ta tb):=by
 intro pins s σ H Q I h;exact wpAny_BinOp (IA ha hb I h λv u s2 x y H2 I2 rx ry q=>ho pins s2 σ H2 x y v u Q I2 rx ry q)
theorem F5(ho:LD X (unaryOp op) r)(ha:PE X a ta):PE X (.UnaryOp op a pos) (Mq r ta):=by
 intro pins s σ H Q I h;exact UnaryOp_ (qZ (ha pins s σ H _ I h) λv s1 ⟨x,H1,I1,r1,q1⟩=>ho pins s1 σ H1 x v Q I1 r1 q1)
theorem Gc{f:Value->Value->Sem Value}{C:Int->Int->Prop}{g:Int->Int->Int}
  (rule:∀(i j:Int) (t u:Tok) (s:Shared) (Q:Value->Shared->Prop) (E:Value->Shared->Prop),C i j->Q (.int (g i j) s.toks) { s with toks:=s.toks+1 }->wpAny (model X.prog X.w) X.A (f (.int i t) (.int j u)) Q E s) :
  OpR X f (rI C λi j=>.int (g i j)):=by
 intro pins s σ H x y v u Q I rx ry h;obtain⟨i,j,rfl,rfl,hc,q⟩:=h;obtain⟨t,rfl⟩:=rx;obtain⟨t',rfl⟩:=ry;exact rule i j t t' s _ _ hc ⟨.int (g i j),H,I.tok _,⟨_,rfl⟩,q⟩
theorem E2{f:Value->Value->Sem Value}{g:Int->Int->Int}
  (rule:∀(i j:Int) (t u:Tok) (s:Shared) (Q:Value->Shared->Prop) (E:Value->Shared->Prop),Q (.int (g i j) s.toks) { s with toks:=s.toks+1 }->wpAny (model X.prog X.w) X.A (f (.int i t) (.int j u)) Q E s) :
  OpR X f (CC λi j=>.int (g i j)):=by
 intro pins s σ H x y v u Q I rx ry h;obtain⟨i,j,rfl,rfl,q⟩:=h;obtain⟨t,rfl⟩:=rx;obtain⟨t',rfl⟩:=ry;exact rule i j t t' s _ _ ⟨.int (g i j),H,I.tok _,⟨_,rfl⟩,q⟩
theorem E3{f:Value->Value->Sem Value}{g:Int->Int->Bool}
  (rule:∀(i j:Int) (t u:Tok) (s:Shared) (Q:Value->Shared->Prop) (E:Value->Shared->Prop),Q (.bool (g i j)) s->wpAny (model X.prog X.w) X.A (f (.int i t) (.int j u)) Q E s) :
  OpR X f (CC λi j=>.bl (g i j)):=by
 intro pins s σ H x y v u Q I rx ry h;obtain⟨i,j,rfl,rfl,q⟩:=h;obtain⟨t,rfl⟩:=rx;obtain⟨t',rfl⟩:=ry;exact rule i j t t' s _ _ ⟨.bl (g i j),H,I,rfl,q⟩
def LR(i j:Int):Prop:=0<j/\j<1073741824
def Ei(i j:Int):Prop:=0<=j/\j<=1000000/\i.natAbs<2^64
def CMul(i j:Int):Prop:=(-(2^64)<i/\i<2^64)\/(-(2^64)<j/\j<2^64)
theorem CMul.ok(h:CMul i j):IntMulOk i j:=by
 rcases h with⟨h1,h2⟩|⟨h1,h2⟩
 ·exact .of_left (intBits_le_64 h1 h2)
 ·exact .of_right (intBits_le_64 h1 h2)
theorem sK:OpR X (binaryOp .Add) (CC λi j=>.int (i+j)):=E2 λ_ _ _ _ _ _ _ q=>add_int q
theorem Hz:OpR X (binaryOp .Sub) (CC λi j=>.int (i-j)):=E2 λ_ _ _ _ _ _ _ q=>sub_int q
theorem zw:OpR X (binaryOp .Mult) (rI CMul λi j=>.int (i*j)):=Gc λ_ _ _ _ _ _ _ hc q=>mul_int q hc.ok
theorem AH:OpR X (binaryOp .FloorDiv) (rI LR λi j=>.int (i / j)):=Gc λi j _ _ _ _ _ hc q=>by
 have h1:(0:Int)<j:=hc.1;have h2:j<1073741824:=hc.2;exact floordiv_int (by omega) (by rw[dH i (by omega)];exact q) (.inl (PyProof.noPylong_small (by omega)))
theorem t9:OpR X (binaryOp .Mod) (rI (λ_ j=>0<j) λi j=>.int (i%j)):=Gc λi j _ _ _ _ _ hc q=>by
 have h1:(0:Int)<j:=hc;exact mod_int' (by omega) (by rw[fL i (by omega)];exact q)
theorem EZ:OpR X (binaryOp .Mod) (rI (λ_ j=>j≠0) λi j=>.int (i.fmod j)):=Gc λ_ _ _ _ _ _ _ hc q=>mod_int' hc q
theorem C9:OpR X (binaryOp .Pow) (rI Ei λi j=>.int (i^j.toNat)):=Gc λ_ _ _ _ _ _ _ hc q=>pow_int_small hc.1 hc.2.1 hc.2.2 q
theorem HA:OpR X (binaryOp .LShift) (rI Ei λi j=>.int (i*2^j.toNat)):=Gc λ_ _ _ _ _ _ _ hc q=>lshift_int_small hc.1 hc.2.1 hc.2.2 q
theorem Fw:OpR X (inplaceOp .Add) (CC λi j=>.int (i+j)):=E2 λ_ _ _ _ _ _ _ q=>iadd_int q
theorem Fv:OpR X (inplaceOp .Sub) (CC λi j=>.int (i-j)):=E2 λ_ _ _ _ _ _ _ q=>isub_int q
theorem Mp{f:Value->Sem Value}{g:Int->Int}
  (rule:∀(i:Int) (t:Tok) (s:Shared) (Q:Value->Shared->Prop) (E:Value->Shared->Prop),Q (.int (g i) s.toks) { s with toks:=s.toks+1 }->wpAny (model X.prog X.w) X.A (f (.int i t)) Q E s) :
  LD X f (rU λi=>.int (g i)):=by
 intro pins s σ H x v Q I rx h;obtain⟨i,rfl,q⟩:=h;obtain⟨t,rfl⟩:=rx;exact rule i t s _ _ ⟨.int (g i),H,I.tok _,⟨_,rfl⟩,q⟩
theorem Ce:LD X (unaryOp .USub) (rU λi=>.int (-i)):=Mp λ_ _ _ _ _ q=>neg_int q
end
def GX:V->V->Bool
 | .non,.non=>true | .non,.int _=>true | .int _,.non=>true | .non,.bl _=>true | .bl _,.non=>true | .non,.str _=>true | .str _,.non=>true
 | .int _,.int _=>true | .bl _,.bl _=>true | .str _,.str _=>true | .byt _,.byt _=>true
 | .int _,.str _=>true | .str _,.int _=>true | .bl _,.str _=>true | .str _,.bl _=>true
 | _,_=>false
def Mz:R2:=λx y H Q=>GX x y=true/\Q (.bl (decide (x=y))) H
def Mx:R2:=λx y H Q=>GX x y=true/\Q (.bl (!decide (x=y))) H
theorem AZ:decide (V.int i=V.int j)=(i == j):=by
 rw[cm];simp
theorem DH:decide (V.bl i=V.bl j)=(i == j):=by
 rw[cm];simp
theorem AY:decide (V.str i=V.str j)=(i == j):=by
 rw[cm];simp
theorem A1:decide (V.byt i=V.byt j)=(i.toList == j.toList):=by
 rw[cm];cases i;cases j;simp
section
variable{X:Cx}{a b c:Expr}{ta tb tc:TE}{pos:Pos}
theorem qL(I:Inv X pins σ H s)(q:Q (.bl k) H)(e:k=k'):EP X pins σ Q (.bool k') s:=by
 subst e;exact⟨.bl k,H,I,rfl,q⟩
theorem yt:OpR X (compareOp .Eq) Mz:=by
 intro pins s σ H x y v u Q I rx ry h;obtain⟨hs,q⟩:=h;cases x with
 | non =>
  cases rx;cases y with
  | non=>cases ry;exact PySem.EqNone.eq_none_none (qL I q (by simp))
  | bl j=>cases ry;exact PySem.EqNone.eq_none_bool (qL I q (by simp))
  | int j=>obtain⟨t',rfl⟩:=ry;exact PySem.EqNone.eq_none_int (qL I q (by simp))
  | str j=>obtain⟨t',rfl⟩:=ry;exact PySem.EqNone.eq_none_str (qL I q (by simp))
  | _=>exact absurd (show false=true from hs) aB
 | bl i =>
  cases rx;cases y with
  | non=>cases ry;exact PySem.EqNone.eq_bool_none (qL I q (by simp))
  | bl j=>cases ry;exact eq_bool (qL I q DH)
  | str j=>obtain⟨t',rfl⟩:=ry;exact PySem.EqMixed.eq_bool_str (qL I q (by simp))
  | _=>exact absurd (show false=true from hs) aB
 | int i =>
  obtain⟨t,rfl⟩:=rx;cases y with
  | non=>cases ry;exact PySem.EqNone.eq_int_none (qL I q (by simp))
  | int j=>obtain⟨t',rfl⟩:=ry;exact eq_int (qL I q AZ)
  | str j=>obtain⟨t',rfl⟩:=ry;exact PySem.EqMixed.eq_int_str (qL I q (by simp))
  | _=>exact absurd (show false=true from hs) aB
 | str i =>
  obtain⟨t,rfl⟩:=rx;cases y with
  | non=>cases ry;exact PySem.EqNone.eq_str_none (qL I q (by simp))
  | bl j=>cases ry;exact PySem.EqMixed.eq_str_bool (qL I q (by simp))
  | int j=>obtain⟨t',rfl⟩:=ry;exact PySem.EqMixed.eq_str_int (qL I q (by simp))
  | str j=>obtain⟨t',rfl⟩:=ry;exact eq_str (qL I q AY)
  | _=>exact absurd (show false=true from hs) aB
 | byt i =>
  obtain⟨t,rfl⟩:=rx;cases y with
  | byt j=>obtain⟨t',rfl⟩:=ry;exact PySem.W.eq_bytes (qL I q A1)
  | _=>exact absurd (show false=true from hs) aB
 | _=>cases y <;> exact absurd (show false=true from hs) aB
theorem Da:OpR X (compareOp .NotEq) Mx:=by
 intro pins s σ H x y v u Q I rx ry h;obtain⟨hs,q⟩:=h;cases x with
 | non =>
  cases rx;cases y with
  | non=>cases ry;exact PySem.EqNone.ne_none_none (qL I q (by simp))
  | bl j=>cases ry;exact PySem.EqNone.ne_none_bool (qL I q (by simp))
  | int j=>obtain⟨t',rfl⟩:=ry;exact PySem.EqNone.ne_none_int (qL I q (by simp))
  | str j=>obtain⟨t',rfl⟩:=ry;exact PySem.EqNone.ne_none_str (qL I q (by simp))
  | _=>exact absurd (show false=true from hs) aB
 | bl i =>
  cases rx;cases y with
  | non=>cases ry;exact PySem.EqNone.ne_bool_none (qL I q (by simp))
  | bl j=>cases ry;exact ne_bool (qL I q (congrArg not DH))
  | str j=>obtain⟨t',rfl⟩:=ry;exact PySem.EqMixed.ne_bool_str (qL I q (by simp))
  | _=>exact absurd (show false=true from hs) aB
 | int i =>
  obtain⟨t,rfl⟩:=rx;cases y with
  | non=>cases ry;exact PySem.EqNone.ne_int_none (qL I q (by simp))
  | int j=>obtain⟨t',rfl⟩:=ry;exact ne_int (qL I q (congrArg not AZ))
  | str j=>obtain⟨t',rfl⟩:=ry;exact PySem.EqMixed.ne_int_str (qL I q (by simp))
  | _=>exact absurd (show false=true from hs) aB
 | str i =>
  obtain⟨t,rfl⟩:=rx;cases y with
  | non=>cases ry;exact PySem.EqNone.ne_str_none (qL I q (by simp))
  | bl j=>cases ry;exact PySem.EqMixed.ne_str_bool (qL I q (by simp))
  | int j=>obtain⟨t',rfl⟩:=ry;exact PySem.EqMixed.ne_str_int (qL I q (by simp))
  | str j=>obtain⟨t',rfl⟩:=ry;exact ne_str (qL I q (congrArg not AY))
  | _=>exact absurd (show false=true from hs) aB
 | byt i =>
  obtain⟨t,rfl⟩:=rx;cases y with
  | byt j=>obtain⟨t',rfl⟩:=ry;exact PySem.W.ne_bytes (qL I q (congrArg not A1))
  | _=>exact absurd (show false=true from hs) aB
 | _=>cases y <;> exact absurd (show false=true from hs) aB
theorem F8:OpR X (compareOp .Lt) (CC λi j=>.bl (decide (i<j))):=E3 λ_ _ _ _ _ _ _ q=>lt_int q
theorem JB:OpR X (compareOp .LtE) (CC λi j=>.bl (decide (i<=j))):=E3 λ_ _ _ _ _ _ _ q=>le_int q
theorem F9:OpR X (compareOp .Gt) (CC λi j=>.bl (decide (j<i))):=E3 λ_ _ _ _ _ _ _ q=>gt_int q
theorem Gb:OpR X (compareOp .GtE) (CC λi j=>.bl (decide (j<=i))):=E3 λ_ _ _ _ _ _ _ q=>ge_int q
theorem HC:OpR X (compareOp .Is) (λx y H Q=>y = .non/\Q (.bl (decide (x = .non))) H):=by
 intro pins s σ H x y v u Q I rx ry h;obtain⟨rfl,q⟩:=h;cases ry;refine is_none_gen (qL I q ?_);cases x <;> first
  | (cases rx;rfl)
  | (obtain⟨t,rfl⟩:=rx;rfl)
theorem EW:OpR X (compareOp .IsNot) (λx y H Q=>y = .non/\Q (.bl (!decide (x = .non))) H):=by
 intro pins s σ H x y v u Q I rx ry h;obtain⟨rfl,q⟩:=h;cases ry;refine isnot_none_gen (qL I q ?_);cases x <;> first
  | (cases rx;rfl)
  | (obtain⟨t,rfl⟩:=rx;rfl)
theorem sL(b:Expr)(h:op ≠ .In:=by decide)(h2:op ≠ .NotIn:=by decide):behindInMarks op b=false:=by
 have e1:(op == CmpOp.In)=false:=by cases op <;> first|rfl|exact absurd rfl h
 have e2:(op == CmpOp.NotIn)=false:=by cases op <;> first|rfl|exact absurd rfl h2
 cases b <;> simp[behindInMarks,e1,e2]
theorem vi{op:CmpOp}{r:R2}(ho:OpR X (compareOp op) r)(ha:PE X a ta)(hb:PE X b tb)(hm:behindInMarks op b=false):PE X (.Compare a [op] [b] pos) (Jc r ta tb):=by
 intro pins s σ H Q I h;exact wpAny_Compare1 (IA ha hb I h λv u s2 x y H2 I2 rx ry q=>ho pins s2 σ H2 x y v u Q I2 rx ry q) hm
def Cj(t:TE):TT:=λσ H Q=>t σ H λx H'=>∃ k,x = .bl k/\Q k H'
theorem sI{op:CmpOp}{r:R2}(ho:OpR X (compareOp op) r)(ha:PE X a ta)(hb:PE X b tb)(hm:behindInMarks op b=false):PT X (.Compare a [op] [b] pos) (Cj (Jc r ta tb)):=by
 intro pins s σ H Q I h;refine wpAny_isTrue_Compare1 (qZ (ha pins s σ H _ I h) λv s1 ⟨x,H1,I1,r1,q1⟩=>qZ (hb pins s1 σ H1 _ I1 q1) λu s2 ⟨y,H2,I2,r2,q2⟩ =>
  qZ (ho pins s2 σ H2 x y v u _ I2 r1 r2 q2) λc s3 ⟨z,H3,I3,r3,k,e,q3⟩=>?_) hm
 subst e;cases r3;exact wpAny_truthy_bool ⟨H3,I3,q3⟩
def Ck(r r':R2)(ta tb tc:TE):TE:=λσ H Q=>ta σ H λx H1=>tb σ H1 λy H2=>r x y H2 λz H3=>∃ k,z = .bl k /\
 (if k=true then tc σ H3 λw' H4=>r' y w' H4 Q else Q (.bl false) H3)
theorem CV(ho:OpR X (compareOp op) r)(ho':OpR X (compareOp op') r')(ha:PE X a ta)(hb:PE X b tb)(hc:PE X c tc)
  (hm:lastMarks [op,op'] [b,c]=false:=by with_unfolding_all rfl):PE X (.Compare a [op,op'] [b,c] pos) (Ck r r' ta tb tc):=by
 intro pins s σ H Q I h;refine Compare_chain (qZ (ha pins s σ H _ I h) λv s1 ⟨x,H1,I1,r1,q1⟩=>chain_link (qZ (hb pins s1 σ H1 _ I1 q1) λu s2 ⟨y,H2,I2,r2,q2⟩ =>
  qZ (ho pins s2 σ H2 x y v u _ I2 r1 r2 q2) λd s3 ⟨z,H3,I3,r3,k,e,q3⟩=>?_)) hm
 subst e;cases r3;refine wpAny_truthy_bool ?_;cases k with
 | false=>exact ite_ff ⟨.bl false,H3,I3,rfl,q3⟩
 | true=>exact ite_tt (chain_last (qZ (hc pins s3 σ H3 _ I3 q3) λw' s4 ⟨z',H4,I4,r4,q4⟩=>ho' pins s4 σ H4 y z' u w' Q I4 r2 r4 q4))
theorem CJ(ho:OpR X (compareOp op) r)(ho':OpR X (compareOp op') r')(ha:PE X a ta)(hb:PE X b tb)(hc:PE X c tc)
  (hm:lastMarks [op,op'] [b,c]=false:=by with_unfolding_all rfl):PT X (.Compare a [op,op'] [b,c] pos) (Cj (Ck r r' ta tb tc)):=by
 intro pins s σ H Q I h;refine isTrue_chain (qZ (ha pins s σ H _ I h) λv s1 ⟨x,H1,I1,r1,q1⟩=>test_link (qZ (hb pins s1 σ H1 _ I1 q1) λu s2 ⟨y,H2,I2,r2,q2⟩ =>
  qZ (ho pins s2 σ H2 x y v u _ I2 r1 r2 q2) λd s3 ⟨z,H3,I3,r3,k,e,q3⟩=>?_)) hm
 subst e;cases r3;refine wpAny_truthy_bool ?_;cases k with
 | false =>
  obtain⟨k',e',q'⟩:=q3;cases e';exact ite_ff ⟨H3,I3,q'⟩
 | true =>
  refine ite_tt (test_last (qZ (hc pins s3 σ H3 _ I3 q3) λw' s4 ⟨z',H4,I4,r4,q4⟩=>qZ (ho' pins s4 σ H4 y z' u w' _ I4 r2 r4 q4) λd' s5 ⟨z2,H5,I5,r5,k2,e2,q5⟩=>?_));subst e2;cases r5;exact wpAny_truthy_bool ⟨H5,I5,q5⟩
def IG(K:Frag)(x:V)(H:Hp)(k:Bool):Prop :=
 match x with
 | .non=>k=false
 | .bl b=>k=b
 | .int i=>k=(i != 0)
 | .str y=>y.length<=sizeLine/\k=((y.length:Int) != 0)
 | .byt y=>y.size<=sizeLine/\k=((y.size:Int) != 0)
 | .ref p=>(∃ xs,SqL K H p xs/\k = !xs.isEmpty)\/(∃ xs,SqT K H p xs/\k = !xs.isEmpty)\/∃ kvs,H p=some (.dK kvs)/\k = !kvs.isEmpty
 | _=>False
theorem zO{κ:Type}{kvs:List (κ×V)}{vs:List (κ×Value)}(r:KV kvs vs):(!vs.isEmpty) = !kvs.isEmpty:=by
 cases r <;> rfl
theorem vP(r:Vals xs its):(!its.toArray.isEmpty) = !xs.isEmpty:=by
 cases r <;> simp
theorem rK:(sizeLine:Nat)<2^63:=by rw[sizeLine_eq];decide
theorem GK:LH X (λx H Q=>∃ k,IG X.K x H k/\Q k H):=by
 intro pins s σ H x v Q I rx h;obtain⟨k,e,q⟩:=h;have hl:=rK;have hs:sizeLine=16777216:=sizeLine_eq;cases x with
 | non =>
  cases rx;have e':k=false:=e;subst e';exact truthy_none ⟨H,I,q⟩
 | bl b =>
  cases rx;have e':k=b:=e;subst e';exact wpAny_truthy_bool ⟨H,I,q⟩
 | int i =>
  obtain⟨t,rfl⟩:=rx;have e':k=(i != 0):=e;subst e';exact PySem.P.truthy_int ⟨H,I,q⟩
 | str y =>
  obtain⟨t,rfl⟩:=rx;obtain⟨hy,e'⟩:y.length<=sizeLine/\k=((y.length:Int) != 0):=e;subst e';exact PySem.P.truthy_str (by omega) ⟨H,I.tok _,q⟩
 | byt y =>
  obtain⟨t,rfl⟩:=rx;obtain⟨hy,e'⟩:y.size<=sizeLine/\k=((y.size:Int) != 0):=e;subst e';exact PySem.W.truthy_bytes (by omega) ⟨H,I.tok _,q⟩
 | ref p =>
  cases rx;have e':(∃ xs,SqL X.K H p xs/\k = !xs.isEmpty)\/(∃ xs,SqT X.K H p xs/\k = !xs.isEmpty)\/∃ kvs,H p=some (.dK kvs)/\k = !kvs.isEmpty:=e;rcases e' with⟨xs,hx,e'⟩|⟨xs,hx,e'⟩|⟨kvs,hx,e'⟩
  ·subst e';obtain⟨its,r,pl,hz⟩:=I.list hx;have hlen:=r.length;exact wpAny_truthy_list pl.isList (by simp only[aj];omega) ⟨H,I.tok _,by rw[vP r];exact q⟩
  ·subst e';obtain⟨its,r,pl,hz⟩:=I.tuple hx;have hlen:=r.length;exact truthy_tuple pl (by simp only[aj];omega) ⟨H,I.tok _,by rw[vP r];exact q⟩
  ·subst e';obtain⟨hz,hS,vs,r,m⟩:kvs.length<=sizeLine/\(p == sysModules)=false/\∃ vs,KV kvs vs/\s.heap.DictOf (ur X.prog X.w) p vs:=I.hok p _ hx;have hlen:kvs.length=vs.length:=Paired.length r;exact wpAny_truthy_dict hS m (by omega) ⟨H,I.tok _,by rw[zO r];exact q⟩
 | _=>exact (show False from e).elim
theorem yo(ha:PE X a ta)(he:∀ whole,isTrue a X.env whole=(do let v ← whole;standAt a.pos;holding [v] (truthy v))) :
  PT X a (λσ H Q=>ta σ H λx H'=>∃ k,IG X.K x H' k/\Q k H'):=by
 intro pins s σ H Q I h;exact isTrue_plain (qZ (ha pins s σ H _ I h) λv s1 ⟨x,H1,I1,r1,q1⟩=>GK pins s1 σ H1 x v Q I1 r1 q1) (he _)
theorem zy:OpR X (binaryOp .Add) (λx y H Q=>∃ i j,x = .str i/\y = .str j/\i.length+j.length<=sizeLine/\Q (.str (i++j)) H):=by
 intro pins s σ H x y v u Q I rx ry h;obtain⟨i,j,rfl,rfl,hz,q⟩:=h;obtain⟨t,rfl⟩:=rx;obtain⟨t',rfl⟩:=ry;exact add_str (λt' tk=>⟨.str (i++j),H,I.tok _,⟨_,rfl⟩,q⟩) hz
theorem yz:OpR X (inplaceOp .Add) (λx y H Q=>∃ i j,x = .str i/\y = .str j/\i.length+j.length<=sizeLine/\Q (.str (i++j)) H):=by
 intro pins s σ H x y v u Q I rx ry h;obtain⟨i,j,rfl,rfl,hz,q⟩:=h;obtain⟨t,rfl⟩:=rx;obtain⟨t',rfl⟩:=ry;exact iadd_str (λt' tk=>⟨.str (i++j),H,I.tok _,⟨_,rfl⟩,q⟩) hz
theorem vx(r:Vals [x] us):∃ u,us=[u]/\RelV x u:=by
 cases r with
 | cons r1 r2=>cases r2;exact⟨_,rfl,r1⟩
theorem FQ(r:Vals [x,y] us):∃ u w',us=[u,w']/\RelV x u/\RelV y w':=by
 cases r with
 | cons r1 r2 =>
  cases r2 with
  | cons r3 r4=>cases r4;exact⟨_,_,rfl,r1,r3⟩
theorem D4:CallR X (.builtin "abs") (λxs H Q=>∃ i,xs=[.int i]/\Q (.int (if i<0 then -i else i)) H):=by
 intro pins s σ H xs us Q I r h;obtain⟨i,rfl,q⟩:=h;obtain⟨u,rfl,t,rfl⟩:=vx r;exact call_abs_int λu tk=>⟨.int (if i<0 then -i else i),H,I.tok _,⟨_,rfl⟩,q⟩
theorem BZ(hc:X.calm=true):CallR X (.builtin "max") (λxs H Q=>∃ i j,xs=[.int i,.int j]/\Q (.int (if j > i then j else i)) H):=by
 intro pins s σ H xs us Q I r h;obtain⟨i,j,rfl,q⟩:=h;obtain⟨u,w',rfl,⟨t,rfl⟩,⟨t',rfl⟩⟩:=FQ r;refine max_two_ints (I.ok.hd hc) λh' tk k=>⟨_,H,I.kept k,?_,q⟩;by_cases hj:j > i
 ·rw[if_pos hj,if_pos hj];exact⟨_,rfl⟩
 ·rw[if_neg hj,if_neg hj];exact⟨_,rfl⟩
theorem BY(hc:X.calm=true):CallR X (.builtin "min") (λxs H Q=>∃ i j,xs=[.int i,.int j]/\Q (.int (if j<i then j else i)) H):=by
 intro pins s σ H xs us Q I r h;obtain⟨i,j,rfl,q⟩:=h;obtain⟨u,w',rfl,⟨t,rfl⟩,⟨t',rfl⟩⟩:=FQ r;refine min_two_ints (I.ok.hd hc) λh' tk k=>⟨_,H,I.kept k,?_,q⟩;by_cases hj:j<i
 ·rw[if_pos hj,if_pos hj];exact⟨_,rfl⟩
 ·rw[if_neg hj,if_neg hj];exact⟨_,rfl⟩
theorem B4:CallR X (.type "int") (λxs H Q=>(∃ i,xs=[.int i]/\Q (.int i) H)\/∃ k,xs=[.bl k]/\Q (.int (if k then 1 else 0)) H):=by
 intro pins s σ H xs us Q I r h;rcases h with⟨i,rfl,q⟩|⟨k,rfl,q⟩
 ·obtain⟨u,rfl,t,rfl⟩:=vx r;exact call_int_int ⟨.int i,H,I,⟨_,rfl⟩,q⟩
 ·obtain⟨u,rfl,r1⟩:=vx r;cases r1;exact call_int_bool ⟨.int (if k then 1 else 0),H,I.tok _,⟨_,rfl⟩,q⟩
end
structure ObjM (h:Heap)(x dx C:Addr)(mA:Str->Option Value):Prop where
 obj:h.get? x=some (PySem.W.instObj C dx)
 ns:h.Ns1 dx mA
 ne:dx≠x
theorem BF{h:Heap}{dx:Addr}{mA:Str->Option Value}(n:h.Ns1 dx mA):∃ od,h.get? dx=some od/\∀ name,PySem.W.lookIn name od=some (mA name):=by
 obtain⟨o,es,ep,ho,hd,hk,_,hm⟩:=n;refine⟨o,ho,λname=>?_⟩;have e:=hm name;unfold nsFind findBy at e;rw[← Array.find?_toList] at e;unfold PySem.W.lookIn;rw[hd];dsimp only;split
 ·rename_i y q;rw[q] at e;exact congrArg some e
 ·rename_i q;rw[q] at e;have a:es.toList.any (·.refKey)=false:=by
   rw[List.any_eq_false];intro y hy;obtain⟨z,t,hkey⟩:=hk y (Array.mem_toList_iff.mp hy);simp[DictEntry.refKey,hkey]
  have a':¬ es.toList.any (·.refKey)=true:=by rw[a];exact aB
  rw[if_neg a'];exact congrArg some e
theorem ObjM.look(I:ObjM h x dx C mA):∃ od,PySem.W.InstAt h x (PySem.W.instObj C dx) C (some od)/\∀ name,PySem.W.lookIn name od=some (mA name) :=
 let ⟨od,ho,hl⟩:=BF I.ns
 ⟨od,⟨I.obj,rfl,rfl,ho⟩,hl⟩
section
variable{P:Program}{w:World}{H H':Hp}{h h':Heap}{a C dx:Addr}{fs fs':List (Str×V)}
theorem Fx(hok:HOk P w H h)(e:H a=some (.ins C dx fs)):∃ mA,ObjM h a dx C mA/\(∀ f,II (fs.lookup f) (mA f))/\PySem.Within mA (fs.map (·.1))/\fs.length<=1000/\H dx=some (.own a):=by
 obtain⟨d,z,ne,ob,mA,n,r,q⟩:=(show ObjOk P w H h a (.ins C dx fs) from hok a _ e);exact⟨mA,⟨ob,n,ne⟩,r,q,z,d⟩
end
structure Cls (K:Frag)(C:Addr):Prop where
 pg:PySem.W.plainGet K C Str.empty=true
 hd:PySem.W.hasDictIn K C=true
 po:PySem.W.plainOver K C=true
 sa:PySem.W.findIn K (.ref C) "__setattr__" = some (some (.builtin "object.__setattr__"))
theorem Cls.get{K:Frag}{C:Addr}(c:Cls K C)(f:Str):PySem.W.plainGet K C f=true:=c.pg
section
variable{X:Cx}{pins:List (Addr×Obj)}{σ:St}{H:Hp}{s:Shared}{A:Around}{E:Value->Shared->Prop}{Q:Value->Shared->Prop}{c:Value}{b:Bool}
inductive TyOf (K:Frag) (H:Hp):V->Value->Prop where
 | non:TyOf K H .non (.type "NoneType")
 | bl (x:Bool):TyOf K H (.bl x) (.type "bool")
 | int (i:Int):TyOf K H (.int i) (.type "int")
 | str (x:Str):TyOf K H (.str x) (.type "str")
 | flt (x:UInt64):TyOf K H (.flt x) (.type "float")
 | lst {a:Addr} {xs:List V} (e:H a=some (.lst xs)):TyOf K H (.ref a) (.type "list")
 | frz {a:Addr} {o:Obj} {xs:List V} (e:H a=some (.frz o (.lst xs))):TyOf K H (.ref a) (.type "list")
 | tup {a:Addr} {xs:List V} (e:H a=some (.tup xs)):TyOf K H (.ref a) (.type "tuple")
 | dK {a:Addr} {kvs:List (vw×V)} (e:H a=some (.dK kvs)):TyOf K H (.ref a) (.type "dict")
 | dT {a:Addr} {kvs:List (List vw×V)} (e:H a=some (.dT kvs)):TyOf K H (.ref a) (.type "dict")
 | ins {a C dx:Addr} {fs:List (Str×V)} (e:H a=some (.ins C dx fs)) (cl:Cls K C) (ha:PySem.W.findIn K (.ref C) "__class__" = some (some (.builtin "object.__class__")))
   (hn:PySem.W.specialIn K (.builtin "object.__class__") "__get__" = some (some (.builtin "getset_descriptor.__get__"))) (htk:PySem.W.takesIn K (.builtin "object.__class__")=some true)
   (hm:PySem.W.mroIn K C (.type "object")=some true):TyOf K H (.ref a) (.ref C)
theorem BK(I:Inv X pins σ H s)(rx:RelV x u)(ty:TyOf X.K H x t)(e:PySem.W.kitOne X.K t c=some b)(h:∀ tk,Q (.bool b) { s with toks:=tk }) :
  wpAny (model X.prog X.w) A (call (.builtin "isinstance") [u,c]) Q E s:=by
 cases ty with
 | non=>cases (show u=Value.none from rx);exact PySem.W.kia_one PySem.W.kitx_none I.kIn True.intro e (λz=>nomatch z) h
 | bl y=>cases (show u=Value.bool y from rx);exact PySem.W.kia_one PySem.W.kitx_bool I.kIn True.intro e (λz=>nomatch z) h
 | int i=>obtain⟨t,q⟩:=(show ∃ t,u=Value.int i t from rx);cases q;exact PySem.W.kia_one PySem.W.kitx_int I.kIn True.intro e (λz=>nomatch z) h
 | str y=>obtain⟨t,q⟩:=(show ∃ t,u=Value.str y t from rx);cases q;exact PySem.W.kia_one PySem.W.kitx_str I.kIn True.intro e (λz=>nomatch z) h
 | flt y=>obtain⟨t,q⟩:=(show ∃ t,u=Value.float y t from rx);cases q;exact PySem.W.kia_one PySem.W.kitx_float I.kIn True.intro e (λz=>nomatch z) h
 | @lst a xs ea =>
  cases (show u=Value.ref a from rx);obtain⟨_,_,n,_,h1⟩:=(show ObjOk X.prog X.w H s.heap a (.lst xs) from I.hok a _ ea);exact PySem.W.kia_one PySem.W.kitx_list I.kIn ⟨_,h1,rfl⟩ e (λz=>nomatch z) h
 | @frz a ob xs ea =>
  cases (show u=Value.ref a from rx);obtain⟨_,_,_,n,_,h1⟩:=(show ObjOk X.prog X.w H s.heap a (.frz ob (.lst xs)) from I.hok a _ ea);exact PySem.W.kia_one PySem.W.kitx_list I.kIn ⟨_,h1,rfl⟩ e (λz=>nomatch z) h
 | @tup a xs ea =>
  cases (show u=Value.ref a from rx);obtain⟨_,_,_,p⟩:=(show ObjOk X.prog X.w H s.heap a (.tup xs) from I.hok a _ ea);obtain⟨o,h1,h2,_⟩:=p;exact PySem.W.kia_one PySem.W.kitx_tuple I.kIn ⟨o,h1,h2⟩ e (λz=>nomatch z) h
 | @dK a kvs ea =>
  cases (show u=Value.ref a from rx);obtain⟨_,_,vs,_,p⟩:=(show ObjOk X.prog X.w H s.heap a (.dK kvs) from I.hok a _ ea);obtain⟨o,es,ep,h1,h2,_⟩:=p;exact PySem.W.kia_one PySem.W.kitx_dict I.kIn ⟨o,h1,h2.1⟩ e (λz=>nomatch z) h
 | @dT a kvs ea =>
  cases (show u=Value.ref a from rx);obtain⟨_,_,xs,_,o,es,ep,h1,h2,_⟩:=(show ObjOk X.prog X.w H s.heap a (.dT kvs) from I.hok a _ ea);exact PySem.W.kia_one PySem.W.kitx_dict I.kIn ⟨o,h1,h2.1⟩ e (λz=>nomatch z) h
 | @ins a C dx fs ea cl ha hn htk hm =>
  cases (show u=Value.ref a from rx);obtain⟨mA,O,_⟩:=Fx I.hok ea;obtain⟨od,J,_⟩:=O.look;exact PySem.W.kia_one (PySem.W.kitx_own (cl.get _) cl.hd ha hn htk hm) I.kIn J e (λz=>nomatch z) h
end
structure Room (k:Nat)(A:Around):Prop where
 hd:A.handled=none
 dp:A.depth+3*k+105<recursionLimit
 un:A.units+16*k+200<cLine
theorem Room.mono(r:Room k A)(h:j<=k):Room j A:=⟨r.hd,by have:=r.dp;omega,by have:=r.un;omega⟩
theorem Room.deeper{k:Nat}{A:Around}(r:Room (k+1) A)(env:Env):Room k (A.deeper env) :=
 ⟨r.hd,by have:=r.dp;show A.depth+1+3*k+105<_;omega,by have:=r.un;show A.units+3+16*k+200<_;omega⟩
theorem Room.depth{k:Nat}{A:Around}(r:Room k A):A.depth<recursionLimit:=by have:=r.dp;omega
theorem Room.units(r:Room k A):A.units+64<cLine:=by have:=r.un;omega
def Et:TA:=λ_ H Q=>Q [] H
def ww(ta:TE)(tr:TA):TA:=λσ H Q=>ta σ H λx H1=>tr σ H1 λxs H2=>Q (x::xs) H2
section
variable{X:Cx}{e:Expr}{es:List Expr}{te:TE}{t:TA}{pos:Pos}
theorem pa_nil:PA X [] Et:=λ_ _ _ _ H Q I h=>Calls.spliced_nil ⟨[],H,I,.nil,h⟩
theorem qC(ha:PE X e te)(hr:PA X es t)(hs:starEach (e::es) X.env=(false,eval e X.env)::starEach es X.env:=by rfl):PA X (e::es) (ww te t):=by
 intro pos pins s σ H Q I h;rw[hs];show wpAny _ _ (spliced ((false,eval e X.env)::backTo pos (starEach es X.env))) _ _ s;refine Calls.spliced_cons (qZ (ha pins s σ H _ I h) λu s1 ⟨x,H1,I1,r1,q1⟩=>?_);exact qZ (hr pos pins s1 σ H1 _ I1 q1) λus s2 ⟨xs,H2,I2,r2,q2⟩=>⟨x::xs,H2,I2,.cons r1 r2,q2⟩
def KJ(t:TA):TE:=λσ H Q=>t σ H λxs H1=>xs.length<=sizeLine/\∀ p,H1 p=none->Q (.ref p) (rg H1 p (.tup xs))
def KN(t:TA):TE:=λσ H Q=>t σ H λxs H1=>xs.length<=sizeLine/\∀ p,H1 p=none->Q (.ref p) (rg H1 p (.lst xs))
theorem zo{x1}(h:PA X es t):PE X (.Tuple es x1 pos) (KJ t):=by
 intro pins s σ H Q I hq;refine wpAny_Tuple_spliced (qZ (h pos pins s σ H _ I hq) λus s1 ⟨xs,H1,I1,r,z,q⟩=>⟨by rw[← r.length];exact z,?_⟩);have hf:H1 s1.heap.objs.size=none:=I1.hok.fresh (af _);refine⟨.ref s1.heap.objs.size,rg H1 s1.heap.objs.size (.tup xs),I1.laid (t':=s1.toks) (λb u e=>ηH _ e) (af _) ?_,rfl,q _ hf⟩;exact⟨z,us,r,⟨_,ηG _ rfl,rfl,_,rfl⟩⟩
theorem xz(h:PA X es t):PE X (.List es pos) (KN t):=by
 intro pins s σ H Q I hq;refine wpAny_List_spliced (qZ (h pos pins s σ H _ I hq) λus s1 ⟨xs,H1,I1,r,z,q⟩=>⟨by rw[← r.length];exact z,?_⟩);have hf:H1 s1.heap.objs.size=none:=I1.hok.fresh (af _);refine⟨.ref s1.heap.objs.size,rg H1 s1.heap.objs.size (.lst xs),I1.laid (t':=s1.toks) (λb u e=>ηH _ e) (af _) ?_,rfl,q _ hf⟩;exact⟨z,us,0,r,ηG _ rfl⟩
end
abbrev Sp:=List V->Hp->VK->XK->Prop
abbrev Eh:=List Env->Hp->Shared->XK->Value->Shared->Prop
structure Env0 (P:Program)(w:World)(K:Frag)(mg:Str->Option Value)(base:Heap)(A:Around)(outer:List Env)(s:Shared)(H:Hp):Prop where
 frames:A.frames=some outer
 mod:Mod K mg base
 bs:∀ b o,base.get? b=some o->s.heap.get? b=some o/\H b=none
 bsz:base.objs.size<=s.heap.objs.size
 funs:s.heap.FunFrames base outer
 frf:∀ b∈AV outer,H b=none
 hok:HOk P w H s.heap
 bare:AllBare s.gens
 sr:base.NoSeer/\P.given.tree=none
def CE(outer:List Env)(P:Program)(w:World)(H:Hp)(s:Shared)(Q:VK)(u:Value)(s':Shared):Prop :=
 ∃ v H',s'.os=s.os/\AllBare s'.gens/\Un (AV outer) [] H H' s.heap s'.heap/\HOk P w H' s'.heap/\RelV v u/\Q v H'
def CR(CX:Eh)(outer:List Env)(P:Program)(w:World)(H:Hp)(s:Shared)(Q:VK)(E:XK)(r:Result)(s':Shared):Prop :=
 match r with
 | .ok (.ret u)=>CE outer P w H s Q u s'
 | .ok _=>False
 | .error e=>CX outer H s E e s'
structure FnOk (P:Program)(w:World)(K:Frag)(mg:Str->Option Value)(base:Heap)(CX:Eh)(k:Nat)(f:Addr)(fd:FuncData)(ps:List Str)(sp:Sp):Prop where
 len:∀ vs H Q E,sp vs H Q E->vs.length=ps.length
 run:∀(A:Around) (outer:List Env) (s:Shared) (H:Hp) (args:Args) (us:List Value) (vs:List V) (Q:VK) (E:XK),Room k A->Env0 P w K mg base A outer s H->BindsTo s fd args (ps.zip us)->Vals vs us->sp vs H Q E ->
  codeAny (model P w) A (.call (.ref f) args) (CR CX outer P w H s Q E) s
theorem FnOk.imp{P:Program}{w:World}{K:Frag}{mg:Str->Option Value}{base:Heap}{CX:Eh}{k:Nat}{f:Addr}{fd:FuncData}{ps:List Str}{sp sp':Sp}(F:FnOk P w K mg base CX k f fd ps sp)
  (h:∀ vs H Q E,sp' vs H Q E->sp vs H Q E):FnOk P w K mg base CX k f fd ps sp' :=
 ⟨λvs H Q E q=>F.len vs H Q E (h _ _ _ _ q),λA outer s H args us vs Q E hr he hb hv hs=>F.run A outer s H args us vs Q E hr he hb hv (h _ _ _ _ hs)⟩
section
variable{X:Cx}{pins:List (Addr×Obj)}{σ:St}{H:Hp}{s s':Shared}
theorem Inv.env0(I:Inv X pins σ H s):Env0 X.prog X.w X.K X.mg X.base X.A X.stack s H :=
 ⟨I.ok.frames,I.ok.mod,I.bs,aZ I.ok.bsz I.sz,I.stack,I.stkFree,I.hok,I.bare,I.ok.sr⟩
theorem Inv.after(I:Inv X pins σ H s)(h:CE X.stack X.prog X.w H s Q u s'):EP X pins σ Q u s':=by
 obtain⟨v,H',os,bare,un,hok,r,q⟩:=h;obtain⟨hh,g,d,t,os'⟩:=s';obtain rfl:os'=s.os:=os;exact⟨v,H',I.call (h':=hh) (g':=g) (d':=d) (t':=t) (ch:=[]) un hok bare (λb z=>absurd z (by simp)),r,q⟩
end
def ye(sp:Sp)(dvs:List V)(E:XK)(t:TA):TE:=λσ H Q=>t σ H λvs H1=>sp (vs++dvs) H1 Q E
def Binds(K:Frag)(fd:FuncData)(ps:List Str)(ds:List Value):Prop :=
 ∀(s:Shared) (us:List Value),K.In s.heap->(us++ds).length=ps.length->BindsTo s fd ⟨us,[]⟩ (ps.zip (us++ds))
theorem Binds.all{K:Frag}{fd:FuncData}{ps:List Str}(h:∀ us:List Value,us.length=ps.length->bindArgs fd ⟨us,[]⟩=pure (ps.zip us)):Binds K fd ps []:=λs us _ hl=>by
 rw[ci] at hl ⊢;exact .of_eq (h us hl)
def Au(CX:Eh)(X:Cx)(E:XK):Prop:=∀(pins:List (Addr×Obj)) (σ:St) (H:Hp) (s:Shared) (e:Value) (s':Shared),Inv X pins σ H s->CX X.stack H s E e s'->X.xe e s'
section
variable{X:Cx}{CX:Eh}{k:Nat}{f C:Addr}{fd:FuncData}{ps:List Str}{sp:Sp}{dvs:List V}{ds:List Value}{E:XK}{x m:Str}{p pos apos:Pos}{e o:Expr}{es:List Expr}{ta:TE}{t:TA}
theorem GZ(F:FnOk X.prog X.w X.K X.mg X.base CX k f fd ps sp)(hr:Room k X.A)(hb:Binds X.K fd ps ds)(hd:Vals dvs ds)(hx:Au CX X E)
  (I:Inv X pins σ H s) (r:Vals vs us) (h:sp (vs++dvs) H Q E):wpAny (model X.prog X.w) X.A (call (.ref f) us) (EP X pins σ Q) X.xe s:=by
 have r2:Vals (vs++dvs) (us++ds):=r.append hd;have hl:(us++ds).length=ps.length:=by rw[← r2.length];exact F.len _ _ _ _ h
 refine wpAny_call (codeAny_mono (F.run X.A X.stack s H ⟨us,[]⟩ (us++ds) (vs++dvs) Q E hr I.env0 (hb s us I.kIn hl) r2 h) λr s' hq=>?_);cases r with
 | error e=>exact hx pins σ H s e s' I hq
 | ok fl =>
  cases fl with
  | ret u=>exact I.after hq
  | next=>exact False.elim hq
  | brk=>exact False.elim hq
  | cont=>exact False.elim hq
theorem EQ(F:FnOk X.prog X.w X.K X.mg X.base CX k f fd ps sp)(hr:Room k X.A)(hg:Gl X x)(hm:X.mg x=some (.ref f))(hk:PySem.W.keepIn X.K (.ref f)=true)(hb:Binds X.K fd ps ds)(hd:Vals dvs ds)(hx:Au CX X E)
  (ha:PA X (e::es) t) (hdb:(x == ("__debug__" : Str))=false:=by decide) (he:starEach (e::es) X.env=(false,eval e X.env)::starEach es X.env:=by rfl) (hpl:(backTo pos (starEach es X.env)).any (·.1)=false:=by rfl) :
  PE X (.Call (.Name x p) (e::es) [] pos) (ye sp dvs E t):=by
 intro pins s σ H Q I h;refine wpAny_Call_Name_kw (AM I hg hm ?_ hdb);refine PySem.W.callWith_K (h₀:=X.base) I.ok.mod.kin hk (qZ (ha pos pins s σ H _ I h) λus s1 ⟨vs,H1,I1,r,q⟩=>⟨I1.kIn,?_⟩) he hpl;exact GZ F hr hb hd hx I1 r q
end
structure FnScope (N P:List Str)(sc:Scope):Prop where
 kind:sc.kind = .function
 co:sc.isCoroutine=false
 gen:sc.isGenerator=false
 nd:N.Nodup
 pre:N.take P.length=P
 par:∀ x∈P,sc.names.lookup x=some .local\/sc.names.lookup x=some .cell
 nofree:∀ y∈sc.names,y.2 ≠ .free
theorem xa{kindOf:Str->Option NameKind}{x:Str}:∀{binds:List (Str×Value)} {m:Str->Option Value},(∀ v,(x,v) ∉ binds)->bindL kindOf binds m x=m x
 | [],_,_=>rfl
 | (n,v)::r,m,h=>by
  unfold bindL;rw[xa λw hw=>h w (az _ hw)];split
  ·have:x≠n:=by rintro rfl;exact h v aF
   simp[this]
  ·rfl
theorem xc{kindOf:Str->Option NameKind}{x:Str}:∀{binds:List (Str×Value)} {m:Str->Option Value},(∀ v,(x,v) ∉ binds)->bindC kindOf binds m x=m x
 | [],_,_=>rfl
 | (n,v)::r,m,h=>by
  unfold bindC;rw[xc λw hw=>h w (az _ hw)];split
  ·rfl
  ·have:x≠n:=by rintro rfl;exact h v aF
   simp[this]
theorem xb{kindOf:Str->Option NameKind}{x:Str}{v:Value}:∀{P:List Str} {vs:List Value} {i:Nat} {m:Str->Option Value},P.Nodup->P[i]? = some x->vs[i]? = some v->kindOf x=some .local ->
  bindL kindOf (P.zip vs) m x=some v
 | [],_,_,_,_,h,_,_=>by simp at h
 | _::_,[],_,_,_,_,h,_=>by simp at h
 | p::P,w::vs,0,m,nd,h1,h2,hk=>by
  simp at h1 h2;subst h1;subst h2;show bindL kindOf ((p,w)::P.zip vs) m p=_;unfold bindL;rw[xa λv hv=>(du.mp nd).1 (fk hv).1,if_pos hk];simp
 | p::P,w::vs,i+1,m,nd,h1,h2,hk=>by
  show bindL kindOf ((p,w)::P.zip vs) m x=_;unfold bindL;exact xb (i:=i) (du.mp nd).2 (by simpa using h1) (by simpa using h2) hk
theorem xf{kindOf:Str->Option NameKind}{x:Str}{v:Value}:∀{P:List Str} {vs:List Value} {i:Nat} {m:Str->Option Value},P.Nodup->P[i]? = some x->vs[i]? = some v->kindOf x≠some .local ->
  bindC kindOf (P.zip vs) m x=some v
 | [],_,_,_,_,h,_,_=>by simp at h
 | _::_,[],_,_,_,_,h,_=>by simp at h
 | p::P,w::vs,0,m,nd,h1,h2,hk=>by
  simp at h1 h2;subst h1;subst h2;show bindC kindOf ((p,w)::P.zip vs) m p=_;unfold bindC;rw[xc λv hv=>(du.mp nd).1 (fk hv).1,if_neg hk];simp
 | p::P,w::vs,i+1,m,nd,h1,h2,hk=>by
  show bindC kindOf ((p,w)::P.zip vs) m x=_;unfold bindC;exact xf (i:=i) (du.mp nd).2 (by simpa using h1) (by simpa using h2) hk
def start(N:List Str)(vs:List V):St:=vs.map some++List.replicate (N.length-vs.length) none
def Ab(CX:Eh)(P:Program)(w:World)(K:Frag)(mg:Str->Option Value)(base:Heap)(N:List Str)(qual:Str)(scope:Scope)(f:Addr)(cd:Value)(A:Around)(outer:List Env)(s:Shared)(H:Hp)(E:XK):Cx where
 prog:=P
 w:=w
 K:=K
 mg:=mg
 base:=base
 A:=A.deeper (envOfC qual scope s.heap.objs.size f cd)
 N:=N
 s₀:=s
 H₀:=H
 env:=envOfC qual scope s.heap.objs.size f cd
 outer:=outer
 stack:=envOfC qual scope s.heap.objs.size f cd::outer
 ex:=[]
 calm:=true
 fn:=λ_=>true
 pn:=[]
 xe:=λe s'=>wpAny (model P w) (A.deeper (envOfC qual scope s.heap.objs.size f cd)) (leaving (envOfC qual scope s.heap.objs.size f cd) e) (λ_ s''=>CX outer H s E e s'') (λe' s''=>CX outer H s E e' s'') s'
theorem yO{sc:Scope}{n:Nat}{x:Str}(h:sc.names.lookup x=some .cell):∃ c,(cellsFrom n sc.names []).lookup x=some c:=by
 have q:=PySem.W.cellsFrom_some sc.names n [] (.inl h);exact Option.isSome_iff_exists.mp q
theorem BM{CX:Eh}{P:Program}{w:World}{K:Frag}{mg:Str->Option Value}{base:Heap}{N ps:List Str}{qual:Str}{scope:Scope}{f:Addr}{cd:Value}{A:Around}{outer:List Env}{s s1:Shared}{H:Hp}{E:XK}{us:List Value}{vs:List V}
  (S:FnScope N ps scope) (hd:A.handled=none) (e0:Env0 P w K mg base A outer s H) (hl:vs.length=ps.length) (r:Vals vs us)
  (x:InCallC s s.heap.objs.size (bindL (envOfC qual scope s.heap.objs.size f cd).kindOf (ps.zip us) λ_=>none) (cellsFrom (s.heap.objs.size+1) scope.names []) (bindC (envOfC qual scope s.heap.objs.size f cd).kindOf (ps.zip us) λ_=>none) s1) :
  Inv (Ab CX P w K mg base N qual scope f cd A outer s H E) [] (start N vs) H s1:=by
 have hpl:ps.length<=N.length:=by have:=congrArg List.length S.pre;rw[bh] at this;omega
 obtain⟨h1,tk,rfl,hk⟩:=x.done;have noA:∀ b:Addr,b ∉ (Ab CX P w K mg base N qual scope f cd A outer s H E).ex:=λb z=>absurd (show b∈([]:List Addr) from z) (by simp);refine⟨⟨e0.mod,S.kind,rfl,rfl,af _,λy z c h1 h2=>?_,λy hy=>?_,λy c _ h=>?_,λ_=>hd,Around.frames_deeper e0.frames,.inr ⟨rfl,rfl⟩,λb z=>absurd z (noA b),e0.bs,e0.bsz,λb _ _=>noA b,λb z=>absurd z (noA b),e0.funs,e0.frf,e0.sr,⟨_,_,rfl,S.gen,S.co,rfl,rfl⟩⟩,
  rfl,e0.bare,Un.kept hk,⟨_,x.toInCall.ns,λi y v h1 h2 h3=>?_⟩,λy c h=>⟨_,x.cell y c h⟩,e0.hok.fresh (af _),λy c h=>?_,λp hp=>absurd (show p∈([]:List (Addr×Obj)) from hp) (by simp),e0.hok.kept hk,?_⟩
 ·exact name_of_addr x.apart (PySem.mem_of_lookup h1) (PySem.mem_of_lookup h2)
 ·have hy:scope.names.lookup y=some .cell\/scope.names.lookup y=some .free:=hy;rcases hy with hy|hy
  ·exact yO hy
  ·exact absurd rfl (S.nofree _ (PySem.mem_of_lookup hy))
 ·exact dW (x.above y c (PySem.mem_of_lookup h))
 ·have hi:i<vs.length:=by
   unfold start at h2;by_cases hi:i<vs.length
   ·exact hi
   ·rw[ax (by simpa using hi)] at h2;rw[dc] at h2;split at h2 <;> cases h2
  have ha:vs[i]? = some v:=by
   unfold start at h2;rw[aR (by simpa using hi),aJ] at h2;cases e:vs[i]? with
   | none=>rw[e] at h2;cases h2
   | some a=>rw[e] at h2;cases h2;rfl
  obtain⟨u,hu,rv⟩:=r.get ha;have hp:ps[i]? = some y:=by
   rw[← S.pre,dO (by omega)];exact h1
  have ndP:ps.Nodup:=by rw[← S.pre];exact S.nd.sublist (List.take_sublist _ _)
  refine⟨u,rv,?_⟩;rcases S.par y (aP hp) with k|k
  ·exact .inl ⟨k,xb ndP hp hu k⟩
  ·obtain⟨c,e⟩:=yO (n:=s.heap.objs.size+1) k;refine .inr ⟨.inl k,c,e,?_⟩;have q:=x.cell y c e;rw[xf ndP hp hu (by show scope.names.lookup y≠_;rw[k];decide)] at q;exact q
 ·exact e0.hok.fresh (dW (x.above y c (PySem.mem_of_lookup h)))
 ·unfold start;show _=N.length;rw[am,aa,aI];omega
theorem JZ{CX:Eh}{P:Program}{w:World}{K:Frag}{mg:Str->Option Value}{base:Heap}{k:Nat}{f:Addr}{name qual:Str}{params:Arguments}{body:List Stmt}{scope:Scope}{dV kV doc pm cdv ct oc:Value}{an od:Option Addr}
  {osl:Array (Option Value)} {N ps:List Str} {sp:Sp} (lk:K.lookup f=some ⟨oc,od,.func (PySem.W.fnOf name qual params body scope dV kV doc pm an cdv ct),osl⟩) (hcd:PySem.W.codeIn K cdv qual=true) (S:FnScope N ps scope)
  (len:∀ vs H Q E,sp vs H Q E->vs.length=ps.length)
  (hbody:∀(A:Around) (outer:List Env) (s:Shared) (H:Hp) (vs:List V) (Q:VK) (E:XK),Room k (A.deeper (envOfC qual scope s.heap.objs.size f cdv))->sp vs H Q E ->
   ∃ t,PSs (Ab CX P w K mg base N qual scope f cdv A outer s H E) body t/\t { nx:=λ_ H'=>Q .non H',rt:=Q } (start N vs) H) :
  FnOk P w K mg base CX (k+1) f (PySem.W.fnOf name qual params body scope dV kV doc pm an cdv ct) ps sp:=by
 refine⟨len,λA outer s H args us vs Q E hr e0 hb r hsp=>?_⟩;have hl:=len _ _ _ _ hsp;have KX:K.In s.heap:=e0.mod.kin.keeps λb o e=>(e0.bs b o e).1;have lim:s.heap.NoLimit:=e0.mod.nolimit.keeps λb o e=>(e0.bs b o e).1;have hkind:∀ y∈ps.zip us,scope.names.lookup y.1=some .local\/(scope.names.lookup y.1=some .cell/\((cellsFrom (s.heap.objs.size+1) scope.names []).lookup y.1).isSome=true):=fun⟨n,v⟩ hy=>by
  rcases S.par n (fk hy).1 with q|q
  ·exact .inl q
  ·exact .inr ⟨q,PySem.W.cellsFrom_some _ _ _ (.inl q)⟩
 refine codeAny_call_function hr.depth (KX _ _ lk) rfl S.co S.gen rfl (PySem.W.codeRec_of KX hcd) (hb _ _ _ _ ?_);refine wpAny_newFunctionEnv_cells S.kind hkind λenv he s1 x=>?_;subst he;refine⟨lim.keeps x.toInCall.keep,codeAny_func ?_⟩;obtain⟨t,ht,hq⟩:=hbody A outer s H vs Q E (hr.deeper _) hsp;have I:Inv (Ab CX P w K mg base N qual scope f cdv A outer s H E) [] (start N vs) H s1:=BM S hr.hd e0 hl r x;refine wpAny_mono (ht [] s1 (start N vs) H _ I hq) (λfl s' hs=>?_) λe s' hs=>hs;have fin:∀{σ':St} {H':Hp} {v:V} {u:Value},Inv (Ab CX P w K mg base N qual scope f cdv A outer s H E) [] σ' H' s'->RelV v u->Q v H'->CE outer P w H s Q u s' :=
  λ{σ' H' v u} J rv q=>⟨v,H',J.os,J.bare,J.base,J.hok,rv,q⟩
 cases fl with
 | ret u =>
  obtain⟨v,σ',H',J,rv,q⟩:=hs;exact fin J rv q
 | next =>
  obtain⟨σ',H',J,q⟩:=hs;exact fin (v:=V.non) (u:=Value.none) J rfl q
 | brk =>
  obtain⟨_,_,_,q⟩:=hs;exact False.elim q
 | cont =>
  obtain⟨_,_,_,q⟩:=hs;exact False.elim q
section
variable{X:Cx}{x:Str}{p pos:Pos}{e:Expr}{es:List Expr}{t:TA}{id T:String}{r:List V->Hp->VK->Prop}
def KR(r:List V->Hp->VK->Prop)(t:TA):TE:=λσ H Q=>t σ H λvs H1=>r vs H1 Q
theorem qV(hc:CallR X (.builtin id) r)(hg:Gl X x)(hm:X.mg x=none)(hv:bootBuiltins x=some (.builtin id))(ha:PA X (e::es) t)(hn:x ≠ "__name__" := by decide)(hdb:(x == ("__debug__" : Str))=false:=by decide)
  (he:starEach (e::es) X.env=(false,eval e X.env)::starEach es X.env:=by rfl) (hpl:(backTo pos (starEach es X.env)).any (·.1)=false:=by rfl):PE X (.Call (.Name x p) (e::es) [] pos) (KR r t):=by
 intro pins s σ H Q I h;refine wpAny_Call_Name_kw (rN I hg hm hv ?_ hn hdb);exact PyProof.Rows.callWith_builtin1 (qZ (ha pos pins s σ H _ I h) λus s1 ⟨vs,H1,I1,r1,q1⟩=>hc pins s1 σ H1 vs us Q I1 r1 q1) he hpl
theorem uM(hc:CallR X (.type T) r)(hg:Gl X x)(hm:X.mg x=none)(hv:bootBuiltins x=some (.type T))(ha:PA X (e::es) t)(hn:x ≠ "__name__" := by decide)(hdb:(x == ("__debug__" : Str))=false:=by decide)
  (he:starEach (e::es) X.env=(false,eval e X.env)::starEach es X.env:=by rfl) (hpl:(backTo pos (starEach es X.env)).any (·.1)=false:=by rfl):PE X (.Call (.Name x p) (e::es) [] pos) (KR r t):=by
 intro pins s σ H Q I h;refine wpAny_Call_Name_kw (rN I hg hm hv ?_ hn hdb);exact PyProof.Rows.callWith_type1 (qZ (ha pos pins s σ H _ I h) λus s1 ⟨vs,H1,I1,r1,q1⟩=>hc pins s1 σ H1 vs us Q I1 r1 q1) he hpl
end
end L2
namespace HT
open PySem PyProof.Rows
section
open PySem.SeqAt
open PySem.AutoSeq1 (wpAny_loadPart')
open PySem.MeetsSeq PySem.MeetsSeq2 PySem.MeetsSeq3
end
section
variable{prog:Program}{w:World}{A:Around}{E:Value->Shared->Prop}{s:Shared}
theorem FK(ht:IsTup s.heap t vs.toArray)(hb:IsTup s.heap b ws.toArray)(hv:vs≠[])
  (h1:ws=[]->Q (.ref t) s) (h2:ws≠[]->Q (.ref s.heap.objs.size) { s with heap:=s.heap.push { cls:=.type "tuple",data:=.seq (vs++ws).toArray } })
  (hsz:vs.length+ws.length<=sizeLine):wpAny (model prog w) A (binaryOp .Add (.ref t) (.ref b)) Q E s:=by
 obtain⟨⟨cls,dd,data,sl⟩,ho,hc,n,hd⟩:=id ht;obtain⟨⟨cls2,dd2,data2,sl2⟩,ho2,hc2,n2,hd2⟩:=id hb;simp only at hc hd hc2 hd2;subst hc hd hc2 hd2;have e:vs.toArray++ws.toArray=(vs++ws).toArray:=by simp
 by_cases hw:ws=[]
 ·exact concat_meets ⟨_,ho,rfl⟩ ⟨_,ho2,rfl⟩ noFill_tuple_add seq_tuple_add PySem.F.slot_tuple_add PySem.F.entry_tuple_add (PySem.F.args_tuple_add_2 _ _)
   (tuple_addW1 t b vs.toArray ws.toArray n n2 dd dd2 sl sl2 (by simpa using hv) (by simp[hw])) ⟨ho,ho2,h1 hw⟩
 ·refine concat_meets ⟨_,ho,rfl⟩ ⟨_,ho2,rfl⟩ noFill_tuple_add seq_tuple_add PySem.F.slot_tuple_add PySem.F.entry_tuple_add (PySem.F.args_tuple_add_2 _ _)
   (tuple_addW2 t b vs.toArray ws.toArray n n2 dd dd2 sl sl2 (by simpa using hv) (by simpa using hw) (by rw[aj,aj];exact hsz)) ⟨ho,ho2,?_⟩
  rw[e];exact h2 hw
def rC(n d:Nat):Option Int->Nat
 | none=>d
 | some v=>if v<0 then (v+(n:Int)).toNat else min v.toNat n
theorem yi(n d:Nat):rC n d none=d:=rfl
theorem AA(n d k:Nat):rC n d (some (k:Int))=min k n:=by
 show (if (k:Int)<0 then ((k:Int)+(n:Int)).toNat else min (k:Int).toNat n)=min k n;rw[if_neg (by omega),aG]
theorem GY(n d:Nat)(hd:d<=n)(o:Option Int):rC n d o<=n:=by
 cases o with
 | none=>exact hd
 | some v =>
  show (if v<0 then (v+(n:Int)).toNat else min v.toNat n)<=n;by_cases hv:v<0
  ·rw[if_pos hv];omega
  ·rw[if_neg hv];exact Nat.min_le_right _ _
theorem A4(v:Int)(n d:Nat):(if v<0 then max (v+(n:Int)) 0 else min v (n:Int))=((rC n d (some v):Nat):Int):=by
 show (if v<0 then max (v+(n:Int)) 0 else min v (n:Int))=(((if v<0 then (v+(n:Int)).toNat else min v.toNat n):Nat):Int);by_cases hv:v<0
 ·simp only[if_pos hv];omega
 ·simp only[if_neg hv];omega
theorem As(lo hi:Option Int)(n:Nat):Builtin.Slice.sliceAdjust lo hi 1 (n:Int)=(((rC n 0 lo:Nat):Int),((rC n n hi:Nat):Int)):=by
 have h1:¬ ((1:Int)<0):=by omega
 unfold Builtin.Slice.sliceAdjust;simp only[h1,if_false];refine Prod.ext ?_ ?_
 ·cases lo with
  | none=>rfl
  | some v=>exact A4 v n 0
 ·cases hi with
  | none=>rfl
  | some v=>exact A4 v n n
theorem zi(i j:Nat):Builtin.Slice.slicePlaces (i:Int) (j:Int) 1=j-i:=by
 unfold Builtin.Slice.slicePlaces;have h1:(1:Int) > 0:=by omega
 simp only[h1,if_true,Int.ediv_one];split <;> omega
theorem sH{v:Value}{o:Option Int}{Q:Option Int->Shared->Prop}(p:IsPart v o)(h:Q o s):wpAny (model prog w) A (Builtin.Slice.slicePartIndex v) Q E s:=by
 cases p with
 | none=>exact slicePart_none h
 | int i t=>exact slicePart_int h
theorem sC{sl:Addr}{vl vu:Value}{lo hi:Option Int}{n:Nat}{Q:Int×Int×Nat->Shared->Prop}(hs:s.heap.IsSliceOf sl vl vu .none)(pl:IsPart vl lo)(pu:IsPart vu hi)
  (h:Q (((rC n 0 lo:Nat):Int),1,rC n n hi-rC n 0 lo) s):wpAny (model prog w) A (Builtin.Slice.sliceApplied (.ref sl) (pure (n:Int))) Q E s:=by
 obtain⟨os,hos,hcs,hds⟩:=id hs;unfold Builtin.Slice.sliceApplied Builtin.Slice.sliceFields;refine ηB (ηB (wpAny_field hos hds (x:=vl) rfl (ηB (wpAny_field hos hds (x:=vu) rfl (ηB (wpAny_field hos hds (x:=.none) rfl (ηP ?_)))))));refine ηB (slicePart_none ?_);show wpAny _ _ (if ((1:Int) == 0)=true then _ else _) _ _ s;rw[if_neg (by decide)];refine ηB (sH pl (ηB (sH pu (ηB (ηP ?_)))));show wpAny _ _ (match Builtin.Slice.sliceAdjust lo hi 1 (n:Int) with|(lo,hi)=>pure (lo,(1:Int),Builtin.Slice.slicePlaces lo hi 1)) _ _ s;rw[As lo hi n];show wpAny _ _ (pure (((rC n 0 lo:Nat):Int),(1:Int),Builtin.Slice.slicePlaces ((rC n 0 lo:Nat):Int) ((rC n n hi:Nat):Int) 1)) _ _ s;rw[zi];exact ηP h
theorem CP(xs:Array Value)(i k:Nat):((List.range k).filterMap λ(m:Nat)=>xs[((i:Int)+(m:Int)*1).toNat]?).toArray=((xs.toList.drop i).take k).toArray:=by
 have e:(λ(m:Nat)=>xs[((i:Int)+(m:Int)*1).toNat]?)=λm=>xs[i+m]?:=by
  funext m;have:((i:Int)+(m:Int)*1).toNat=i+m:=by omega
  rw[this]
 rw[e];have:=pick_run xs i k;rw[List.filterMap_map] at this;have e2:((λx=>xs[x]?)∘λx=>i+x)=λm=>xs[i+m]?:=rfl;rw[e2] at this;rw[this]
theorem uw{t sl:Addr}{items:Array Value}{vl vu:Value}{lo hi:Option Int}{Q:Value->Shared->Prop}(ht:IsTup s.heap t items)(hs:s.heap.IsSliceOf sl vl vu .none)(pl:IsPart vl lo)(pu:IsPart vu hi)
  (hw:¬ (rC items.size 0 lo=0/\rC items.size items.size hi=items.size))
  (h:Q (.ref s.heap.objs.size) { s with heap:=s.heap.push { cls:=.type "tuple",data:=.seq ((items.toList.drop (rC items.size 0 lo)).take (rC items.size items.size hi-rC items.size 0 lo)).toArray } })
  (hsz:items.size<=sizeLine):wpAny (model prog w) A (getItem (.ref t) (.ref sl)) Q E s:=by
 have htake:sizeOk (.seq ((items.toList.drop (rC items.size 0 lo)).take (rC items.size items.size hi-rC items.size 0 lo)).toArray):=by
  show ((items.toList.drop (rC items.size 0 lo)).take (rC items.size items.size hi-rC items.size 0 lo)).toArray.size<=sizeLine;rw[aj,bh,dR,bX];omega
 have hj:rC items.size items.size hi<=items.size:=GY _ _ (af _) hi;obtain⟨os,hos,hcs,hds⟩:=id hs;have hTs:s.TypeIs (.ref sl) "slice" := ⟨os,hos,hcs⟩;unfold getItem;try with_reducible refine wpAny_holding ?_
 first|refine ηB (ηP ?_)|skip
 refine ηB (wpAny_sequenceKey ht.typeIs (by decide) ?_);refine ηB (wpAny_callSpecial?_slot (name:=Str.ofString "__getitem__") ht.typeIs PyProof.Rows.slot_tuple_getitem
  (wpAny_call_entry PyProof.Rows.slot_tuple_getitem ht.typeIs entry_tuple_getitem ?_ (args_tuple_getitem _ _)))
 show wpAny _ _ (Builtin.Tuple.tupleItemsOf (.ref t) >>= _) _ _ s;refine ηB (tupleItemsOf_ ht ?_);refine ηB (wpAny_typeOf hTs ?_);rw[if_pos (by decide)];refine ηB (sC hs pl pu ?_);have hno:¬ ((((rC items.size 0 lo:Nat):Int) == 0 && (1:Int) == 1 && (rC items.size items.size hi-rC items.size 0 lo) == items.size)=true):=by
  intro q;rw[aX,aX] at q;have q1:((rC items.size 0 lo:Nat):Int)=0:=eq_of_beq q.1.1;have q2:rC items.size items.size hi-rC items.size 0 lo=items.size:=eq_of_beq q.2;exact hw ⟨by omega,by omega⟩
 show wpAny _ _ (if (((rC items.size 0 lo:Nat):Int) == 0 && (1:Int) == 1 && (rC items.size items.size hi-rC items.size 0 lo) == items.size)=true then _ else _) _ _ s;rw[if_neg hno,CP];first
  | exact ηB (m:=Builtin.Tuple.tupleExact _) (wpAny_newObj_type (ηP ⟨_,rfl,ηP h⟩) htake)
  | exact ηB (m:=Builtin.Tuple.tupleExact _) (wpAny_newObj_type (ηB (ηP (ηP ⟨_,rfl,ηP h⟩))) htake)
  | exact ηB (ηB (m:=Builtin.Tuple.tupleExact _) (wpAny_newObj_type (ηP (ηP ⟨_,rfl,ηP h⟩)) htake))
  | exact ηB (ηB (m:=Builtin.Tuple.tupleExact _) (wpAny_newObj_type (ηP ⟨_,rfl,ηP h⟩) htake))
end
end HT
namespace L2
open PySem PySem.Spec PyProof.Rows
abbrev TO:=St->Hp->(Option Int->Hp->Prop)->Prop
def PO(X:Cx)(e:Option Expr)(t:TO):Prop :=
 ∀(pins:List (Addr×Obj)) (s:Shared) (σ:St) (H:Hp) (Q:Option Int->Hp->Prop),Inv X pins σ H s->t σ H Q ->
  wpAny (model X.prog X.w) X.A (evalPart e X.env) (λu s'=>∃ o H',Inv X pins σ H' s'/\IsPart u o/\Q o H') X.xe s
def Es:TO:=λ_ H Q=>Q none H
def Jb(t:TE):TO:=λσ H Q=>t σ H λx H1=>∃ i,x = .int i/\Q (some i) H1
section
variable{X:Cx}{e:Expr}{te:TE}{lo hi:Option Expr}{tl th:TO}{pos p2:Pos}
theorem po_none:PO X none Es:=by
 intro pins s σ H Q I h;rw[evalPart_none];exact ηP ⟨none,H,I,.none,h⟩
theorem vh(h:PE X e te):PO X (some e) (Jb te):=by
 intro pins s σ H Q I hw;rw[evalPart_some];refine qZ (h pins s σ H _ I hw) λu s1 ⟨x,H1,I1,r1,q1⟩=>?_;obtain⟨i,rfl,q⟩:=q1;obtain⟨t,rfl⟩:=r1;exact⟨some i,H1,I1,.int i t,q⟩
def SlR(X:Cx)(r:V->Option Int->Option Int->Hp->VK->Prop):Prop :=
 ∀(pins:List (Addr×Obj)) (s:Shared) (σ:St) (H:Hp) (x:V) (v vl vu:Value) (lo hi:Option Int) (sl:Addr) (Q:VK),Inv X pins σ H s->RelV x v->s.heap.IsSliceOf sl vl vu .none->IsPart vl lo->IsPart vu hi->r x lo hi H Q ->
  ∃ T id,typeLookup (.type T) "__getitem__" = pure (some (.builtin id))/\s.TypeIs v T/\wpAny (model X.prog X.w) X.A (getItem v (.ref sl)) (EP X pins σ Q) X.xe s
theorem SlR.or(h:SlR X r)(h':SlR X r'):SlR X (λx lo hi H Q=>r x lo hi H Q\/r' x lo hi H Q):=by
 intro pins s σ H x v vl vu lo hi sl Q I rx hs pl pu q;rcases q with q|q
 ·exact h pins s σ H x v vl vu lo hi sl Q I rx hs pl pu q
 ·exact h' pins s σ H x v vl vu lo hi sl Q I rx hs pl pu q
def Mr(r:V->Option Int->Option Int->Hp->VK->Prop)(te:TE)(tl th:TO):TE:=λσ H Q=>te σ H λx H1=>tl σ H1 λl H2=>th σ H2 λu H3=>r x l u H3 Q
theorem CT(hr:SlR X r)(he:PE X e te)(hl:PO X lo tl)(hu:PO X hi th):PE X (.Subscript e (.Slice lo hi none p2) pos) (Mr r te tl th):=by
 intro pins s σ H Q I h;refine Subscript_ (qZ (he pins s σ H _ I h) λv s1 ⟨x,H1,I1,r1,q1⟩=>?_);refine wpAny_Slice (qZ (hl pins s1 σ H1 _ I1 q1) λvl s2 ⟨l,H2,I2,pl,q2⟩=>qZ (hu pins s2 σ H2 _ I2 q2) λvu s3 ⟨u,H3,I3,pu,q3⟩=>?_);rw[evalPart_none];refine ηP ?_;have I4:Inv X pins σ H3 { s3 with heap:=s3.heap.push { cls:=.type "slice",data:=.fields #[vl,vu,.none] } }:=I3.kept (t':=s3.toks) λb ob q=>ηH _ q;obtain⟨T,id,hT,ht,hg⟩:=hr pins { s3 with heap:=s3.heap.push { cls:=.type "slice",data:=.fields #[vl,vu,.none] } } σ H3 x v vl vu l u s3.heap.objs.size Q I4 r1 (Heap.IsSliceOf.new ..) pl pu q3;show wpAny (model X.prog X.w) X.A (subscriptTail e (.Slice lo hi none p2) v (.ref s3.heap.objs.size)) (EP X pins σ Q) X.xe { s3 with heap:=s3.heap.push { cls:=.type "slice",data:=.fields #[vl,vu,.none] } };exact tail_any (ops:=[.ref s3.heap.objs.size,v]) ht hT hg (by with_unfolding_all rfl)
def yK(xs:List V)(lo hi:Option Int):List V:=(xs.drop (HT.rC xs.length 0 lo)).take (HT.rC xs.length xs.length hi-HT.rC xs.length 0 lo)
theorem u8(xs:List V)(lo hi:Option Int):(yK xs lo hi).length<=xs.length:=by
 unfold yK;rw[bh,dR];omega
def KZ(K:Frag):V->Option Int->Option Int->Hp->VK->Prop:=λx lo hi H Q=>∃ a xs,x = .ref a/\SqT K H a xs /\
 ¬ (HT.rC xs.length 0 lo=0/\HT.rC xs.length xs.length hi=xs.length)/\∀ p,H p=none->Q (.ref p) (rg H p (.tup (yK xs lo hi)))
theorem sl_tup:SlR X (KZ X.K):=by
 intro pins s σ H x v vl vu lo hi sl Q I rx hs pl pu h;obtain⟨a,xs,rfl,hx,hw,q⟩:=h;cases rx;obtain⟨its,r,ht,hz⟩:=I.tuple hx;have hlen:its.toArray.size=xs.length:=by rw[aj];exact r.length.symm
 refine⟨"tuple",_,PyProof.Rows.slot_tuple_getitem.lookup,ht.typeIs,?_⟩;refine HT.uw ht hs pl pu (by rw[hlen];exact hw) ?_ (by rw[hlen];exact hz);rw[hlen];refine⟨.ref s.heap.objs.size,_,I.laid (t':=s.toks) (o:=.tup (yK xs lo hi)) (λb ob q=>ηH _ q) (af _) ?_,rfl,q _ (I.hok.fresh (af _))⟩;exact⟨aZ (u8 xs lo hi) hz,_,(r.drop (HT.rC xs.length 0 lo)).take (HT.rC xs.length xs.length hi-HT.rC xs.length 0 lo),IsTup.new _ _⟩
def Ju(K:Frag):R2:=λx y H Q=>∃ a b xs ys,x = .ref a/\y = .ref b/\SqT K H a xs/\SqT K H b ys/\xs≠[]/\xs.length+ys.length<=sizeLine /\
 (ys=[]->Q (.ref a) H)/\(ys≠[]->∀ p,H p=none->Q (.ref p) (rg H p (.tup (xs++ys))))
theorem Vals.nil_iff(r:Vals xs us):us=[]↔xs=[]:=by
 cases r with
 | nil=>simp
 | cons _ _=>simp
theorem E1:OpR X (binaryOp .Add) (Ju X.K):=by
 intro pins s σ H x y v u Q I rx ry h;obtain⟨a,b,xs,ys,rfl,rfl,ha,hb,hx,hz,q1,q2⟩:=h;cases rx;cases ry;obtain⟨its,r1,p1,_⟩:=I.tuple ha;obtain⟨its2,r2,p2,_⟩:=I.tuple hb;refine HT.FK p1 p2 (λz=>hx (r1.nil_iff.mp z)) (λz=>⟨.ref a,H,I,rfl,q1 (r2.nil_iff.mp z)⟩) (λz=>?_) (by rw[← r1.length,← r2.length];exact hz);refine⟨.ref s.heap.objs.size,_,I.laid (t':=s.toks) (o:=.tup (xs++ys)) (λb ob q=>ηH _ q) (af _) ?_,rfl,q2 (λw=>z (r2.nil_iff.mpr w)) _ (I.hok.fresh (af _))⟩;exact⟨by rw[am];exact hz,_,r1.append r2,IsTup.new _ _⟩
end
def yy(n:Nat)(i:Int):Option Nat:=if 0<=i then (if i<n then some i.toNat else none) else if -(n:Int)<=i then some (i+n).toNat else none
def vq{α:Type}(xs:List α)(i:Int):Option α:=(yy xs.length i).bind λj=>xs[j]?
theorem AO(h:yy n i=some j):seqIndex? i n=some j/\j<n /\ -(n:Int)<=i/\i<n:=by
 unfold yy at h;by_cases h0:0<=i
 ·rw[if_pos h0] at h;by_cases h1:i<n
  ·rw[if_pos h1] at h;have e:i.toNat=j:=Option.some.inj h;exact⟨by rw[seqIndex_of h0 h1,e],by omega,by omega,h1⟩
  ·rw[if_neg h1] at h;cases h
 ·rw[if_neg h0] at h;by_cases h1 : -(n:Int)<=i
  ·rw[if_pos h1] at h;have e:(i+n).toNat=j:=Option.some.inj h;exact⟨by rw[seqIndex_neg (by omega) h1,e],by omega,h1,by omega⟩
  ·rw[if_neg h1] at h;cases h
theorem xX{α:Type}{xs:List α}{i:Int}{v:α}(h:vq xs i=some v):∃ j,seqIndex? i xs.length=some j/\xs[j]? = some v/\j<xs.length /\ -(xs.length:Int)<=i/\i<xs.length:=by
 unfold vq at h;cases e:yy xs.length i with
 | none=>rw[e] at h;cases h
 | some j =>
  rw[e] at h;obtain⟨h1,h2,h3,h4⟩:=AO e;exact⟨j,h1,h,h2,h3,h4⟩
theorem vp{α:Type}{xs:List α}{j:Nat}{v:α}(h:xs[j]? = some v):vq xs (j:Int)=some v:=by
 have hj:j<xs.length:=(ai.mp h).1;have e:yy xs.length (j:Int)=some j:=by
  unfold yy;rw[if_pos (by omega),if_pos (by omega)];simp
 unfold vq;rw[e];exact h
def vv(b:Expr):Prop:=∀ o i,subscripted b false o i=operate [o,i] (getItem o i)
def IxR(X:Cx)(r:R2):Prop :=
 ∀(value slice:Expr) (pins:List (Addr×Obj)) (s:Shared) (σ:St) (H:Hp) (x y:V) (v u:Value) (Q:VK),Inv X pins σ H s->RelV x v->RelV y u->r x y H Q ->
  subscripted slice false v u=operate [v,u] (getItem v u)->wpAny (model X.prog X.w) X.A (subscriptTail value slice v u) (EP X pins σ Q) X.xe s
def Ml(X:Cx)(id:String)(r:V->List V->Hp->VK->Prop):Prop :=
 ∀(pins:List (Addr×Obj)) (s:Shared) (σ:St) (H:Hp) (x:V) (xs:List V) (v:Value) (us:List Value) (Q:VK),Inv X pins σ H s->RelV x v->Vals xs us->r x xs H Q ->
  wpAny (model X.prog X.w) X.A (call (.builtin id) (v::us)) (EP X pins σ Q) X.xe s
section
variable{X:Cx}{a b:Expr}{ta tb:TE}{pos:Pos}
theorem IxR.or(h:IxR X r)(h':IxR X r'):IxR X (λx y H Q=>r x y H Q\/r' x y H Q):=by
 intro value slice pins s σ H x y v u Q I rx ry q hs;rcases q with q|q
 ·exact h value slice pins s σ H x y v u Q I rx ry q hs
 ·exact h' value slice pins s σ H x y v u Q I rx ry q hs
theorem rJ{r:R2}(hr:IxR X r)(ha:PE X a ta)(hb:PE X b tb)(hs:vv b):PE X (.Subscript a b pos) (Jc r ta tb):=by
 intro pins s σ H Q I h;exact Subscript_ (IA ha hb I h λv u s2 x y H2 I2 rx ry q=>hr a b pins s2 σ H2 x y v u Q I2 rx ry q (hs _ _))
def Hk(K:Frag):R2:=λx y H Q=>∃ p xs i v,x = .ref p/\y = .int i/\SqL K H p xs/\vq xs i=some v/\Q v H
def Jp(K:Frag):R2:=λx y H Q=>∃ p xs i v,x = .ref p/\y = .int i/\SqT K H p xs/\vq xs i=some v/\Q v H
def Jq:R2:=λx y H Q=>∃ z i c,x = .str z/\y = .int i/\z.length<=sizeLine/\vq z.cps.toList i=some c/\Q (.str ⟨#[c]⟩) H
theorem ix_list:IxR X (Hk X.K):=by
 intro value slice pins s σ H x y v u Q I rx ry h hs;obtain⟨p,xs,i,z,rfl,rfl,hq,he,q⟩:=h;cases rx;obtain⟨t,rfl⟩:=ry;obtain⟨its,r,pl,hz⟩:=I.list hq;obtain⟨j,h1,h2,h3,h4,h5⟩:=xX he;obtain⟨w,ew,rw'⟩:=r.get h2;have hl:=r.length;have hn:=rK;have fin:EP X pins σ Q w s:=⟨z,H,I,rw',q⟩;by_cases h0:0<=i
 ·have hj:i.toNat=j:=by
   rw[seqIndex_of h0 h5] at h1;exact Option.some.inj h1
  exact item_listR pl.isList h0 (by omega) (by rw[hj];simpa using ew) fin hs
 ·have hj:(i+(its.toArray.size:Int)).toNat=j:=by
   rw[seqIndex_neg (by omega) h4] at h1;rw[aj,← hl];exact Option.some.inj h1
  exact subscriptTail_builtinR (x:=w) pl.isList.typeIs slot_list_getitem.lookup
   (wpAny_getItem_list_neg (Q:=λr s'=>r=w/\EP X pins σ Q r s') pl.isList (by omega) (by rw[aj] <;> omega) (by omega) (by rw[hj];simpa using ew) ⟨rfl,fin⟩) hs
theorem ix_tup:IxR X (Jp X.K):=by
 intro value slice pins s σ H x y v u Q I rx ry h hs;obtain⟨p,xs,i,z,rfl,rfl,hq,he,q⟩:=h;cases rx;obtain⟨t,rfl⟩:=ry;obtain⟨its,r,pl,hz⟩:=I.tuple hq;obtain⟨j,h1,h2,h3,h4,h5⟩:=xX he;obtain⟨w,ew,rw'⟩:=r.get h2;have hl:=r.length;have hn:=rK;have fin:EP X pins σ Q w s:=⟨z,H,I,rw',q⟩;exact subscriptTail_builtinR (x:=w) pl.typeIs slot_tuple_getitem.lookup
  (getItem_tuple (j:=j) (Q:=λr s'=>r=w/\EP X pins σ Q r s') pl (by omega) (by omega) (by rw[aj,← hl];exact h1) (by simpa using ew) ⟨rfl,fin⟩) hs
theorem HY:IxR X Jq:=by
 intro value slice pins s σ H x y v u Q I rx ry h hs;obtain⟨z,i,c,rfl,rfl,hz,he,q⟩:=h;obtain⟨t,rfl⟩:=rx;obtain⟨t',rfl⟩:=ry;obtain⟨j,h1,h2,h3,h4,h5⟩:=xX he;have hl:z.cps.toList.length=z.length:=by simp[Str.length]
 rw[hl] at h1 h4 h5;have hn:=rK;exact tail_any (typeIs_str s z t) slot_str_getitem.lookup (getItem_str (c:=c) (by
  have e1:decide (i < -(2^63:Int))=false:=decide_eq_false (by omega);have e2:decide (i ≥ 2^63)=false:=decide_eq_false (by omega);rw[e1,e2,Bool.or_false]) (by rw[h1];simpa using h2) ⟨.str ⟨#[c]⟩,H,I.tok _,⟨_,rfl⟩,q⟩) hs
def Ks(K:Frag):R2:=λx y H Q=>Hk K x y H Q\/Jp K x y H Q\/Jq x y H Q
theorem ix_seq:IxR X (Ks X.K):=ix_list.or (ix_tup.or HY)
theorem zK(its:List Value)(n j:Nat)(u:Value):Obj.mapSeq (·.setIfInBounds j u) { cls:=.type "list",data:=.seq its.toArray n } = { cls:=.type "list",data:=.seq (its.set j u).toArray n }:=by
 simp[Obj.mapSeq]
theorem Inv.lst{pins:List (Addr×Obj)}{σ:St}{H:Hp}{s:Shared}{p:Addr}{xs:List V}(I:Inv X pins σ H s)(h:H p=some (.lst xs)) :
  ∃(its:List Value) (n:Nat),Vals xs its/\s.heap.get? p=some { cls:=.type "list",data:=.seq its.toArray n }/\xs.length<=sizeLine:=by
 obtain⟨z,its,n,r,e⟩:=I.hok p _ h;exact⟨its,n,r,e,z⟩
theorem Inv.lstUpd{pins:List (Addr×Obj)}{σ:St}{H:Hp}{s:Shared}{p:Addr}{xs ys:List V}{its its':List Value}{n n':Nat}{f:Obj->Obj}(I:Inv X pins σ H s)(h:H p=some (.lst xs))
  (ho:s.heap.get? p=some { cls:=.type "list",data:=.seq its.toArray n }) (hf:f { cls:=.type "list",data:=.seq its.toArray n } = { cls:=.type "list",data:=.seq its'.toArray n' }) (r:Vals ys its') (hz:ys.length<=sizeLine) (t:Nat) :
  Inv X pins σ (rg H p (.lst ys)) { s with heap:=s.heap.update p f,toks:=t }:=by
 have e:(s.heap.update p f).get? p=some { cls:=.type "list",data:=.seq its'.toArray n' }:=by
  rw[Heap.get?_update_self f ho (by rw[hf] <;> rfl),hf]
 refine I.write (x:=p) (e:=p) (by rw[h];trivial) (.inl rfl) (λb u hb q=>(Heap.get?_update_other _ _ (Ne.symm hb)).trans q) ⟨_,e⟩ ?_;exact⟨hz,its',n',r,e⟩
def F0:V->V->V->Hp->(Hp->Prop)->Prop:=λo i v H Q=>∃ p xs k j,o = .ref p/\i = .int k/\H p=some (.lst xs)/\yy xs.length k=some j/\Q (rg H p (.lst (xs.set j v)))
theorem rT:IJ X F0:=by
 intro pins s σ H o i v ov iv u Q I ro ri rv h;obtain⟨p,xs,k,j,rfl,rfl,hp,hj,q⟩:=h;cases ro;obtain⟨t,rfl⟩:=ri;obtain⟨its,n,r,ho,hz⟩:=I.lst hp;obtain⟨h1,h2,h3,h4⟩:=AO hj;have hl:=r.length;have hn:=rK;have I':Inv X pins σ (rg H p (.lst (xs.set j v))) { s with heap:=s.heap.update p (Obj.mapSeq (·.setIfInBounds j u)) } :=
  I.lstUpd hp ho (zK its n j u) (r.set rv j) (by rw[bz];exact hz) s.toks
 by_cases h0:0<=k
 ·have hk:k.toNat=j:=by
   rw[seqIndex_of h0 h4] at h1;exact Option.some.inj h1
  exact PySem.W.ki_setAt ho h0 (by omega) (by rw[aj,← hl];exact h4) (by rw[hk];exact⟨_,I',q⟩)
 ·have hk:(k+(its.toArray.size:Int)).toNat=j:=by
   rw[seqIndex_neg (by omega) h3] at h1;rw[aj,← hl];exact Option.some.inj h1
  exact PySem.W.ki_setBack ho (by omega) (by rw[aj,← hl];exact h3) (by omega) (by rw[hk];exact⟨_,I',q⟩)
theorem xo(lo hi:Option Int)(n:Nat):(sliceBounds lo hi none n).1=((HT.rC n 0 lo:Nat):Int)/\(sliceBounds lo hi none n).2.1=((HT.rC n n hi:Nat):Int)/\(sliceBounds lo hi none n).2.2=1:=by
 refine⟨?_,?_,rfl⟩
 ·cases lo with
  | none=>simp[sliceBounds,HT.rC]
  | some i =>
   simp only[sliceBounds,HT.rC,gH,show (1:Int) > 0 by decide,if_true];by_cases h:i<0
   ·simp only[h,if_true] <;> omega
   ·simp only[h,if_false] <;> omega
 ·cases hi with
  | none=>simp[sliceBounds,HT.rC]
  | some i =>
   simp only[sliceBounds,HT.rC,gH,show (1:Int) > 0 by decide,if_true];by_cases h:i<0
   ·simp only[h,if_true] <;> omega
   ·simp only[h,if_false] <;> omega
theorem wf(its:List Value)(lo hi:Option Int):slicePick its.toArray lo hi none=((its.drop (HT.rC its.length 0 lo)).take (HT.rC its.length its.length hi-HT.rC its.length 0 lo)).toArray:=by
 obtain⟨h1,h2,h3⟩:=xo lo hi its.toArray.size;unfold slicePick;rw[h1,h2,h3];simp only[sliceRange_one,pick_run,aj] <;> rfl
def K0(K:Frag):V->Option Int->Option Int->Hp->VK->Prop:=λx lo hi H Q=>∃ a xs,x = .ref a/\SqL K H a xs/\∀ p,H p=none->Q (.ref p) (rg H p (.lst (yK xs lo hi)))
theorem sl_list:SlR X (K0 X.K):=by
 intro pins s σ H x v vl vu lo hi sl Q I rx hs pl pu h;obtain⟨a,xs,rfl,hx,q⟩:=h;cases rx;obtain⟨its,r,ht,hz⟩:=I.list hx;have hlen:=r.length;refine⟨"list",_,slot_list_getitem.lookup,ht.isList.typeIs,?_⟩;refine wpAny_getItem_list_slice ht.isList hs pl pu .none (by simp) ?_ (by rw[aj] <;> omega);rw[wf,← hlen];refine⟨.ref s.heap.objs.size,_,I.laid (t':=s.toks) (o:=.lst (yK xs lo hi)) (λb ob q=>ηH _ q) (af _) ?_,rfl,q _ (I.hok.fresh (af _))⟩;exact⟨aZ (u8 xs lo hi) hz,_,0,(r.drop (HT.rC xs.length 0 lo)).take (HT.rC xs.length xs.length hi-HT.rC xs.length 0 lo),ηG _ rfl⟩
def tX:V->Bool
 | .non=>true
 | .bl _=>true
 | .int _=>true
 | .str _=>true
 | _=>false
def Gq:V->V->Bool
 | .non,.non=>true
 | .bl a,.bl b=>a == b
 | .bl a,.int b=>(if a then 1 else 0) == b
 | .int a,.bl b=>a == (if b then 1 else 0)
 | .int a,.int b=>a == b
 | .str a,.str b=>a == b
 | _,_=>false
theorem Il(ry:RelV y u)(rx:RelV x v)(fy:tX y=true)(fx:tX x=true):SeqAt.EqAt A s u v (Gq y x):=by
 cases y with
 | non =>
  cases ry;cases x with
  | non=>cases rx;exact SeqAt.EqAt.same _
  | bl b=>cases rx;exact SeqAt.EqAt.none_bool b
  | int b=>obtain⟨t,rfl⟩:=rx;exact SeqAt.EqAt.none_int b t
  | str b=>obtain⟨t,rfl⟩:=rx;exact SeqAt.EqAt.none_str b t
  | _=>exact absurd (show false=true from fx) aB
 | bl a =>
  cases ry;cases x with
  | non=>cases rx;exact SeqAt.EqAt.bool_none a
  | bl b=>cases rx;exact SeqAt.EqAt.bool_bool a b
  | int b=>obtain⟨t,rfl⟩:=rx;exact SeqAt.EqAt.bool_int a b t
  | str b=>obtain⟨t,rfl⟩:=rx;exact SeqAt.EqAt.bool_str a b t
  | _=>exact absurd (show false=true from fx) aB
 | int a =>
  obtain⟨t',rfl⟩:=ry;cases x with
  | non=>cases rx;exact SeqAt.EqAt.int_none a t'
  | bl b=>cases rx;exact SeqAt.EqAt.int_bool a t' b
  | int b=>obtain⟨t,rfl⟩:=rx;exact SeqAt.EqAt.int_int a t' b t
  | str b=>obtain⟨t,rfl⟩:=rx;exact SeqAt.EqAt.int_str a t' b t
  | _=>exact absurd (show false=true from fx) aB
 | str a =>
  obtain⟨t',rfl⟩:=ry;cases x with
  | non=>cases rx;exact SeqAt.EqAt.str_none a t'
  | bl b=>cases rx;exact SeqAt.EqAt.str_bool a t' b
  | int b=>obtain⟨t,rfl⟩:=rx;exact SeqAt.EqAt.str_int a t' b t
  | str b=>obtain⟨t,rfl⟩:=rx;exact SeqAt.EqAt.str_str a t' b t
  | _=>exact absurd (show false=true from fx) aB
 | _=>exact absurd (show false=true from fy) aB
def zV(x:V)(u:Value):Bool:=match u with
 | .none=>Gq .non x
 | .bool b=>Gq (.bl b) x
 | .int i _=>Gq (.int i) x
 | .str z _=>Gq (.str z) x
 | _=>false
theorem DC(r:RelV y u)(f:tX y=true):zV x u=Gq y x:=by
 cases y with
 | non=>cases r;rfl
 | bl b=>cases r;rfl
 | int i=>obtain⟨t,rfl⟩:=r;rfl
 | str z=>obtain⟨t,rfl⟩:=r;rfl
 | _=>exact absurd (show false=true from f) aB
theorem uB:∀{xs:List V} {us:List Value},Vals xs us->xs.all tX=true->us.any (zV x)=xs.any λy=>Gq y x
 | _,_,.nil,_=>rfl
 | y::xs,u::us,.cons r t,f=>by
  rw[eO,aX] at f;rw[gg,gg,DC r f.1,uB t f.2]
theorem tf(rx:RelV x v)(fx:tX x=true):∀{xs:List V} {us:List Value},Vals xs us->xs.all tX=true->∀ u∈us,SeqAt.EqAt A s u v (zV x u)
 | _,_,.nil,_=>λu hu=>by cases hu
 | y::xs,u::us,.cons r t,f=>λu' hu=>by
  rw[eO,aX] at f;rcases ao.mp hu with rfl|hu
  ·rw[DC r f.1];exact Il r rx f.1 fx
  ·exact tf rx fx t f.2 u' hu
def IP(x:V)(xs:List V):Bool:=xs.any λy=>Gq y x
def K3(K:Frag)(neg:Bool):R2:=λx y H Q=>∃ p xs,y = .ref p/\(SqL K H p xs\/SqT K H p xs)/\tX x=true/\xs.all tX=true/\Q (.bl (if neg then !IP x xs else IP x xs)) H
theorem Bt:OpR X (compareOp .In) (K3 X.K false):=by
 intro pins s σ H x y v u Q I rx ry h;obtain⟨p,xs,rfl,hq,fx,fs,q⟩:=h;cases ry;rcases hq with hq|hq
 ·obtain⟨its,r,pl,hz⟩:=I.list hq;refine SeqAt.in_listAt (zV x) pl.isList (λw hw=>tf rx fx r fs w (by simpa using hw)) ⟨.bl _,H,I,rfl,?_⟩;rw[show its.toArray.any (zV x)=its.any (zV x) by simp,uB r fs];exact q
 ·obtain⟨its,r,pl,hz⟩:=I.tuple hq;refine SeqAt.in_tupleAt (zV x) pl (λw hw=>tf rx fx r fs w (by simpa using hw)) ⟨.bl _,H,I,rfl,?_⟩;rw[show its.toArray.any (zV x)=its.any (zV x) by simp,uB r fs];exact q
theorem xE:OpR X (compareOp .NotIn) (K3 X.K true):=by
 intro pins s σ H x y v u Q I rx ry h;obtain⟨p,xs,rfl,hq,fx,fs,q⟩:=h;cases ry;rcases hq with hq|hq
 ·obtain⟨its,r,pl,hz⟩:=I.list hq;refine SeqAt.notIn_listAt (zV x) pl.isList (λw hw=>tf rx fx r fs w (by simpa using hw)) ⟨.bl _,H,I,rfl,?_⟩;rw[show its.toArray.any (zV x)=its.any (zV x) by simp,uB r fs];exact q
 ·obtain⟨its,r,pl,hz⟩:=I.tuple hq;refine SeqAt.notIn_tupleAt (zV x) pl (λw hw=>tf rx fx r fs w (by simpa using hw)) ⟨.bl _,H,I,rfl,?_⟩;rw[show its.toArray.any (zV x)=its.any (zV x) by simp,uB r fs];exact q
theorem xU:CallR X (.builtin "len") (λxs H Q=>∃ p ys,xs=[.ref p]/\(SqL X.K H p ys\/SqT X.K H p ys)/\Q (.int ys.length) H):=by
 intro pins s σ H xs us Q I r h;obtain⟨p,ys,rfl,hq,q⟩:=h;obtain⟨u,rfl,rx⟩:=vx r;cases rx;have hn:=rK;rcases hq with hq|hq
 ·obtain⟨its,r',pl,hz⟩:=I.list hq;have hlen:=r'.length;exact Calls.call_len_list pl.isList (by simp only[aj] <;> omega) ⟨.int ys.length,H,I.tok _,⟨s.toks+1,by rw[aj,hlen]⟩,q⟩
 ·obtain⟨its,r',pl,hz⟩:=I.tuple hq;have hlen:=r'.length;exact len_tuple pl (by simp only[aj] <;> omega) ⟨.int ys.length,H,I.tok _,⟨s.toks+1,by rw[aj,hlen]⟩,q⟩
theorem xT:CallR X (.builtin "len") (λxs H Q=>∃ z,xs=[.str z]/\z.length<=sizeLine/\Q (.int z.length) H):=by
 intro pins s σ H xs us Q I r h;obtain⟨z,rfl,hz,q⟩:=h;obtain⟨u,rfl,t,rfl⟩:=vx r;have hn:=rK;exact len_str (by omega) ⟨.int z.length,H,I.tok _,⟨_,rfl⟩,q⟩
theorem xS:CallR X (.type "list") (λxs H Q=>∃ p ys,xs=[.ref p]/\(SqL X.K H p ys\/SqT X.K H p ys)/\∀ l,H l=none->Q (.ref l) (rg H l (.lst ys))):=by
 intro pins s σ H xs us Q I r h;obtain⟨p,ys,rfl,hq,q⟩:=h;obtain⟨u,rfl,rx⟩:=vx r;cases rx;have fin:∀(its:List Value),Vals ys its->ys.length<=sizeLine->∀(h':Heap) (c':Nat),(∀ b o',s.heap.get? b=some o'->h'.get? b=some o') ->
   h'.get? s.heap.objs.size=some { cls:=.type "list",dict:=none,data:=.seq its.toArray c',slots:=#[] }->EP X pins σ Q (.ref s.heap.objs.size) { s with heap:=h' }:=λits r' hz h' c' kp e =>
  ⟨.ref s.heap.objs.size,_,I.laid (t':=s.toks) kp (af _) (show ObjOk X.prog X.w _ h' _ (.lst ys) from⟨hz,its,c',r',e⟩),rfl,q _ (I.hok.fresh (af _))⟩
 rcases hq with hq|hq
 ·obtain⟨its,r',pl,hz⟩:=I.list hq;have hlen:=r'.length;obtain⟨o,ho,hc,n,hd⟩:=pl.isList;exact call_list_seq p (.inl rfl) ho hc hd (λh' c' kp e=>fin its r' hz h' c' kp e) (by simp only[aj] <;> omega)
 ·obtain⟨its,r',pl,hz⟩:=I.tuple hq;have hlen:=r'.length;obtain⟨o,ho,hc,n,hd⟩:=pl;exact call_list_seq p (.inr rfl) ho hc hd (λh' c' kp e=>fin its r' hz h' c' kp e) (by simp only[aj] <;> omega)
theorem wl:CallR X (.type "tuple") (λxs H Q=>∃ p ys,xs=[.ref p]/\((SqL X.K H p ys/\∀ l,H l=none->Q (.ref l) (rg H l (.tup ys)))\/(SqT X.K H p ys/\Q (.ref p) H))):=by
 intro pins s σ H xs us Q I r h;obtain⟨p,ys,rfl,h⟩:=h;obtain⟨u,rfl,rx⟩:=vx r;cases rx;rcases h with⟨hq,q⟩|⟨hq,q⟩
 ·obtain⟨its,r',pl,hz⟩:=I.list hq;have hlen:=r'.length;refine call_tuple_list pl.isList (λh' kp=>?_) (by simp only[aj] <;> omega);have I1:Inv X pins σ H { s with heap:=h' }:=I.kept (t':=s.toks) kp;have I2:Inv X pins σ (rg H h'.objs.size (.tup ys)) { s with heap:=h'.push { cls:=.type "tuple",data:=.seq its.toArray } } :=
   I1.laid (t':=s.toks) (λb o e=>ηH _ e) (af _) (show ObjOk X.prog X.w _ _ _ (.tup ys) from⟨hz,its,r',IsTup.new _ _⟩)
  exact⟨.ref h'.objs.size,_,I2,rfl,q _ (I1.hok.fresh (af _))⟩
 ·obtain⟨its,r',pl,hz⟩:=I.tuple hq;exact call_tuple_same pl ⟨.ref p,H,I,rfl,q⟩
def KH(K:Frag)(T:String)(x:V)(H:Hp):Prop:=match x with
 | .str _=>T = "str"
 | .int _=>T = "int"
 | .ref p=>(T = "list" /\ ∃ xs,SqL K H p xs)\/(T = "tuple" /\ ∃ o,K.lookup p=some o/\o.cls = .type "tuple" /\ o.dict=none) \/
   (T = "dict" /\ ((∃ kvs,H p=some (.dK kvs))\/∃ kvs,H p=some (.dT kvs)))\/(T = "set" /\ ∃ S n,H p=some (.set S n))
 | _=>False
theorem Cf(I:Inv X pins σ H s)(r:RelV x v)(ty:KH X.K T x H) :
  s.TypeIs v T/\∀ a,v = .ref a->∃ ob,s.heap.get? a=some ob/\ob.dict=none:=by
 cases x with
 | str z =>
  obtain⟨t,rfl⟩:=r;cases (show T = "str" from ty);exact⟨typeIs_str s z t,λ_ e=>nomatch e⟩
 | int i =>
  obtain⟨t,rfl⟩:=r;cases (show T = "int" from ty);exact⟨typeIs_int s i t,λ_ e=>nomatch e⟩
 | ref p =>
  cases r;rcases ty with⟨rfl,xs,hq⟩|⟨rfl,o,hk,hc,hd⟩|⟨rfl,hk⟩|⟨rfl,S,n,hk⟩
  ·obtain⟨its,_,pl,_⟩:=I.list hq;refine⟨pl.isList.typeIs,λa e=>?_⟩;cases e;obtain⟨o,n,e,c,hd,_⟩:=pl;exact⟨o,e,hd⟩
  ·refine⟨⟨o,I.kIn p o hk,hc⟩,λa e=>?_⟩;cases e;exact⟨o,I.kIn _ o hk,hd⟩
  ·have z:∃ o,s.heap.get? p=some o/\o.ExactDict:=by
    rcases hk with⟨kvs,hk⟩|⟨kvs,hk⟩
    ·obtain⟨_,_,_,_,o,_,_,e,ex,_⟩:=I.hok p _ hk;exact⟨o,e,ex⟩
    ·obtain⟨_,_,_,_,o,_,_,e,ex,_⟩:=I.hok p _ hk;exact⟨o,e,ex⟩
   obtain⟨o,e,ex⟩:=z;refine⟨⟨o,e,ex.1⟩,λa e2=>?_⟩;cases e2;exact⟨o,e,ex.2.1⟩
  ·obtain⟨o,_,_,_,e,ex,_⟩:=I.hok p _ hk;refine⟨⟨o,e,ex.1⟩,λa e2=>?_⟩;cases e2;exact⟨o,e,ex.2.1⟩
 | _=>exact False.elim ty
def KS(K:Frag)(T:String)(r:V->List V->Hp->VK->Prop)(to:TE):TE:=λσ H Q=>to σ H λx H1=>KH K T x H1/\r x [] H1 Q
def Mu(K:Frag)(T:String)(r:V->List V->Hp->VK->Prop)(to:TE)(t:TA):TE:=λσ H Q=>to σ H λx H1=>KH K T x H1/\t σ H1 λxs H2=>r x xs H2 Q
variable{o e:Expr}{es:List Expr}{to:TE}{t:TA}{name:Str}{apos cpos:Pos}{T id:String}{r:V->List V->Hp->VK->Prop}
theorem CW(pa:PlainAttrs T)(slot:Slot T name id)(hty:typeOf (.builtin id)=pure (.type "method_descriptor"))(hm:Ml X id r)(ho:PE X o to)
  (hbase:attributeBase o name X.env (eval o X.env)=eval o X.env:=by rfl) (hline:(apos.endLine == cpos.line)=true:=by rfl):PE X (.Call (.Attribute o name apos) [] [] cpos) (KS X.K T r to):=by
 intro pins s σ H Q I h;refine wpAny_Call_method0_late hbase hline (qZ (ho pins s σ H _ I h) λv s1 ⟨x,H1,I1,r1,ty,q1⟩=>?_);obtain⟨h1,h2⟩:=Cf I1 r1 ty;exact⟨T,id,pa,slot,hty,h1,h2,Calls.callWith_builtin rfl (PySem.evalArgs_none (hm pins s1 σ H1 x [] v [] Q I1 r1 .nil q1))⟩
theorem wH(pa:PlainAttrs T)(slot:Slot T name id)(hty:typeOf (.builtin id)=pure (.type "method_descriptor"))(hm:Ml X id r)(ho:PE X o to)(ha:PA X (e::es) t)
  (hbase:attributeBase o name X.env (eval o X.env)=eval o X.env:=by rfl)
  (hfew:((backTo cpos (starEach (e::es) X.env)).all (λx => !x.1) && (backToKw cpos (keywordEach [] X.env)).all (λx=>x.1.isSome)
   && decide ((e::es).length+([]:List Keyword).length+(if ([]:List Keyword).isEmpty then 0 else 1)<30))=true:=by rfl)
  (hline:(apos.endLine == cpos.line)=true:=by rfl) (hs:starEach (e::es) X.env=(false,eval e X.env)::starEach es X.env:=by rfl) (hplain:(backTo cpos (starEach es X.env)).any (·.1)=false:=by rfl) :
  PE X (.Call (.Attribute o name apos) (e::es) [] cpos) (Mu X.K T r to t):=by
 intro pins s σ H Q I h;refine wpAny_Call_method_late hbase hfew hline rfl (qZ (ho pins s σ H _ I h) λv s1 ⟨x,H1,I1,r1,ty,q1⟩=>?_);obtain⟨h1,h2⟩:=Cf I1 r1 ty;refine⟨T,id,pa,slot,hty,h1,h2,?_⟩;have hA:=ha cpos pins s1 σ H1 _ I1 q1;rw[hs] at hA ⊢;refine Calls.callWith_builtin (by show (false || (backTo cpos (starEach es X.env)).any (·.1))=false;rw[hplain] <;> rfl) (Calls.evalArgs_plain ?_);exact qZ hA λus s2 ⟨vs,H2,I2,r2,q2⟩=>hm pins s2 σ H2 x vs v us Q I2 r1 r2 q2
end
def Kz(X:Cx)(id:String)(r:V->List V->Hp->VK->Prop):Prop :=
 ∀(pins:List (Addr×Obj)) (s:Shared) (σ:St) (H:Hp) (x:V) (xs:List V) (v:Value) (us:List Value) (Q:VK),Inv X pins σ H s->RelV x v->Vals xs us->r x xs H Q ->
  wpAny (model X.prog X.w) X.A (call (.builtin id) (v::us)) (EP X pins σ Q) X.xe s
theorem Vals.uncons(h:Vals (x::xs) us):∃ u r,us=u::r/\RelV x u/\Vals xs r:=by
 cases h with
 | cons r t=>exact⟨_,_,rfl,r,t⟩
theorem Vals.unnil(h:Vals [] us):us=[]:=by
 cases h;rfl
theorem Vals.one(h:Vals [x] us):∃ u,us=[u]/\RelV x u:=by
 obtain⟨u,r,rfl,h1,h⟩:=h.uncons;rw[h.unnil];exact⟨u,rfl,h1⟩
theorem Vals.two(h:Vals [x,y] us):∃ u v,us=[u,v]/\RelV x u/\RelV y v:=by
 obtain⟨u,r,rfl,h1,h⟩:=h.uncons;obtain⟨v,rfl,h2⟩:=h.one;exact⟨u,v,rfl,h1,h2⟩
theorem Vals.zero:∀{us:List Value},Vals [] us->us=[]
 | _,.nil=>rfl
theorem Vals.dropLast(h:Vals xs us):Vals xs.dropLast us.dropLast:=by
 induction h with
 | nil=>exact .nil
 | cons r t ih =>
  cases t with
  | nil=>exact .nil
  | cons q t'=>exact .cons r ih
theorem Vals.eraseIdx:∀{xs:List V} {us:List Value} (i:Nat),Vals xs us->Vals (xs.eraseIdx i) (us.eraseIdx i)
 | _,_,_,.nil=>.nil
 | _,_,0,.cons _ t=>t
 | _,_,i+1,.cons r t=>.cons r (Vals.eraseIdx i t)
theorem Vals.reverse(h:Vals xs us):Vals xs.reverse us.reverse:=by
 induction h with
 | nil=>exact .nil
 | cons r t ih=>rw[dJ,dJ];exact Vals.append ih (.cons r .nil)
theorem Vals.rep(h:Vals xs us):∀ k:Nat,Vals (List.replicate k xs).flatten (List.replicate k us).flatten
 | 0=>.nil
 | k+1=>by
  rw[bx,bx,bW,bW];exact Vals.append h (Vals.rep h k)
theorem zU{α:Type}(l:List α):l.eraseIdx (l.length-1)=l.dropLast:=by
 induction l with
 | nil=>rfl
 | cons a r ih =>
  cases r with
  | nil=>rfl
  | cons b r =>
   have e:(a::b::r).length-1=((b::r).length-1)+1:=by
    have h1:(a::b::r).length=r.length+2:=rfl;have h2:(b::r).length=r.length+1:=rfl;omega
   rw[e,List.eraseIdx_cons_succ,ih];all_goals rfl
theorem wK{α:Type}:∀(l:List α) (i:Nat),(l.eraseIdx i).length<=l.length
 | [],_=>af _
 | _::_,0=>gE _
 | _::r,i+1=>Nat.succ_le_succ (wK r i)
theorem uQ(its:List Value):∀(k:Nat) (acc:List Value),
  List.foldl (λx1 x2=>x1++x2) acc.toArray (List.replicate k its.toArray)=(acc++(List.replicate k its).flatten).toArray
 | 0,acc=>by simp
 | k+1,acc=>by
  have e:acc.toArray++its.toArray=(acc++its).toArray:=by simp
  have e2:(acc++its)++(List.replicate k its).flatten=acc++(List.replicate (k+1) its).flatten:=by
   rw[bx,bW,eY]
  rw[← e2,← uQ its k (acc++its),← e,bx,List.foldl_cons]
section
variable{X:Cx}{pins:List (Addr×Obj)}{σ:St}{H:Hp}{s:Shared}{l b:Addr}{xs ys zs:List V}
theorem Inv.lset{its its':List Value}{n:Nat}{f:Array Value->Array Value}{t':Nat}(I:Inv X pins σ H s)(hH:H l=some (.lst xs))
  (e:s.heap.get? l=some { cls:=.type "list",data:=.seq its.toArray n }) (hf:f its.toArray=its'.toArray) (hv:Vals ys its') (hz:ys.length<=sizeLine) :
  Inv X pins σ (rg H l (.lst ys)) { s with heap:=s.heap.update l (Obj.mapSeq f),toks:=t' }:=by
 have q:=PySem.IsL.update e f;rw[hf] at q;refine I.write (x:=l) (e:=l) (by rw[hH];exact trivial) (.inl rfl) (λb' u hb hu=>(Heap.get?_update_other s.heap (Obj.mapSeq f) (Ne.symm hb)).trans hu) ⟨_,q⟩ ?_;exact⟨hz,its',_,hv,q⟩
theorem Inv.lnew(I:Inv X pins σ H s)(hv:Vals ys its)(hz:ys.length<=sizeLine) :
  Inv X pins σ (rg H s.heap.objs.size (.lst ys)) { s with heap:=s.heap.push { cls:=.type "list",data:=.seq its.toArray },toks:=t' } :=
 I.laid (λ_ _ q=>ηH _ q) (af _) ⟨hz,its,0,hv,ηG _ rfl⟩
theorem Inv.fresh(I:Inv X pins σ H s):H s.heap.objs.size=none:=I.hok.fresh (af _)
theorem Inv.lstM(I:Inv X pins σ H s)(hH:H l=some (.lst xs)):xs.length<=sizeLine/\∃(its:List Value) (n:Nat),Vals xs its/\xs.length=its.length/\s.heap.get? l=some { cls:=.type "list",data:=.seq its.toArray n }:=by
 obtain⟨z,its,n,r,e⟩:=I.hok l _ hH;exact⟨z,its,n,r,r.length,e⟩
theorem yw(h:n<=sizeLine):Builtin.List.listTooLong n=false:=by
 unfold Builtin.List.listTooLong;exact decide_eq_false (by omega)
end
section
variable{X:Cx}
def EE:V->List V->Hp->VK->Prop:=λx vs H Q=>∃ l xs y,x = .ref l/\vs=[y]/\H l=some (.lst xs)/\xs.length<sizeLine/\Q .non (rg H l (.lst (xs++[y])))
theorem wJ:Kz X "list.append" EE:=by
 intro pins s σ H x vs v us Q I rx rv h;obtain⟨l,xs,y,rfl,rfl,hH,hz,q⟩:=h;cases rx;obtain⟨u,rfl,ru⟩:=rv.one;obtain⟨z,its,n,r,hl,e⟩:=I.lstM hH;refine call_meets F.slot_list_append ⟨_,e,rfl⟩ F.entry_list_append (F.args_list_append_2 _ _) (PySem.list_append l its.toArray n u (by rw[aj];omega)) ⟨e,?_⟩;refine⟨.non,_,I.lset (its':=its++[u]) hH e (by simp) (r.append (.cons ru .nil)) ?_,rfl,q⟩;rw[am,d9];omega
def K2:V->List V->Hp->VK->Prop:=λx vs H Q=>∃ l xs y,x = .ref l/\vs=[]/\H l=some (.lst xs)/\xs[xs.length-1]? = some y/\Q y (rg H l (.lst xs.dropLast))
theorem Dg:Kz X "list.pop" K2:=by
 intro pins s σ H x vs v us Q I rx rv h;obtain⟨l,xs,y,rfl,rfl,hH,hy,q⟩:=h;cases rx;have hus:=rv.zero;subst hus;obtain⟨z,its,n,r,hl,e⟩:=I.lstM hH;obtain⟨u,hu,ru⟩:=r.get hy;have hy':its.toArray[its.toArray.size-1]? = some u:=by
  show its.toArray[its.length-1]? = some u;rw[← cJ,← hl];exact hu
 refine call_meets F.slot_list_pop ⟨_,e,rfl⟩ F.entry_list_pop (F.args_list_pop_1 _) (MeetsSeq.list_pop_last l its.toArray n u hy' (by rw[aj];omega)) ⟨e,?_⟩;refine⟨y,_,I.lset (its':=its.dropLast) hH e ?_ r.dropLast ?_,ru,q⟩
 ·show its.toArray.eraseIdxIfInBounds (its.toArray.size-1)=its.dropLast.toArray;rw[aj,e6,zU]
 ·rw[List.length_dropLast];omega
def Hj:V->List V->Hp->VK->Prop:=λx vs H Q=>∃ l xs i k y,x = .ref l/\vs=[.int i]/\H l=some (.lst xs) /\ -(2^63)<=i/\i<2^63/\seqIndex? i xs.length=some k/\xs[k]? = some y/\Q y (rg H l (.lst (xs.eraseIdx k)))
theorem vM:Kz X "list.pop" Hj:=by
 intro pins s σ H x vs v us Q I rx rv h;obtain⟨l,xs,i,k,y,rfl,rfl,hH,h1,h2,hk,hy,q⟩:=h;cases rx;obtain⟨u,rfl,ru⟩:=rv.one;obtain⟨t,rfl⟩:=ru;obtain⟨z,its,n,r,hl,e⟩:=I.lstM hH;obtain⟨w,hw,rw'⟩:=r.get hy;refine call_meets F.slot_list_pop ⟨_,e,rfl⟩ F.entry_list_pop (F.args_list_pop_2 _ _)
  (MeetsSeq.list_pop_at l its.toArray n i t k w (fitsIndex_both h1 h2) (by rw[aj,← hl];exact hk) (by rw[← cJ];exact hw) (by rw[aj];omega)) ⟨e,?_⟩
 refine⟨y,_,I.lset (its':=its.eraseIdx k) hH e ?_ (r.eraseIdx k) ?_,rw',q⟩
 ·show its.toArray.eraseIdxIfInBounds k=(its.eraseIdx k).toArray;rw[e6]
 ·have:=wK xs k;omega
def K4:R2:=λx y H Q=>∃ l b xs zs,x = .ref l/\y = .ref b/\H l=some (.lst xs)/\H b=some (.lst zs)/\xs.length+zs.length<=sizeLine/\∀ p,H p=none->Q (.ref p) (rg H p (.lst (xs++zs)))
theorem HG:OpR X (binaryOp .Add) K4:=by
 intro pins s σ H x y v u Q I rx ry h;obtain⟨l,b,xs,zs,rfl,rfl,hH,hB,hz,q⟩:=h;cases rx;cases ry;obtain⟨z,its,n,r,hl,e⟩:=I.lstM hH;obtain⟨z2,its2,n2,r2,hl2,e2⟩:=I.lstM hB;refine PySem.P.add_list e e2 ?_ (by rw[aj,aj];omega);have ea:its.toArray++its2.toArray=(its++its2).toArray:=by simp
 rw[ea];exact⟨.ref _,_,I.lnew (t':=s.toks) (r.append r2) (by rw[am];omega),rfl,q _ I.fresh⟩
def K1:R2:=λx y H Q=>∃ l k xs,x = .ref l/\y = .int k/\H l=some (.lst xs) /\ -(2^63)<=k/\k<2^63/\xs.length*k.toNat<=sizeLine /\
 ∀ p,H p=none->Q (.ref p) (rg H p (.lst (List.replicate k.toNat xs).flatten))
theorem xI{α:Type}(xs:List α)(k:Nat):(List.replicate k xs).flatten.length=k*xs.length:=by
 induction k with
 | zero=>simp
 | succ k ih=>rw[bx,bW,am,ih,aY,Nat.add_comm]
theorem C8:OpR X (binaryOp .Mult) K1:=by
 intro pins s σ H x y v u Q I rx ry h;obtain⟨l,k,xs,rfl,rfl,hH,h1,h2,hz,q⟩:=h;cases rx;obtain⟨t,rfl⟩:=ry;obtain⟨z,its,n,r,hl,e⟩:=I.lstM hH;have hlen:its.toArray.size*k.toNat<=sizeLine:=by rw[aj,← hl];exact hz
 have hcap:¬ its.toArray.size*k.toNat > (2^63-1) / 8:=by
  have:(sizeLine:Nat)<=(2^63-1) / 8:=by decide
  omega
 have hfit:¬ (!Builtin.List.listFitsIndex k)=true:=by
  rw[fitsIndex_both h1 h2];exact aB
 have hlong:¬ Builtin.List.listTooLong (its.toArray.size*k.toNat)=true:=by
  rw[yw hlen];exact aB
 have hnew:List.foldl (λx1 x2=>x1++x2) #[] (List.replicate (if its.toArray.isEmpty=true then 0 else k.toNat) its.toArray)=(List.replicate k.toNat its).flatten.toArray:=by
  have f0:∀ m:Nat,List.foldl (λx1 x2=>x1++x2) #[] (List.replicate m its.toArray)=(List.replicate m its).flatten.toArray:=λm=>by
   have:=uQ its m [];rw[fv] at this;exact this
  rw[f0];cases its with
  | nil=>simp
  | cons a r'=>rw[if_neg (by simp)]
 refine wpAny_binaryOp_repeat_ref (T := "list") (U := "int") (by decide) ⟨_,e,rfl⟩ (λs'=>typeIs_int s' k t) noFill_list_mul F.fills_int_mul F.slot_int_rmul repeat_list F.slot_int_index.lookup
  (call_meets F.slot_int_rmul (typeIs_int s k t) F.entry_int_rmul (F.args_int_rmul_2 _ _) (int___rmul___int_list k t l its.toArray n)
   ⟨e,rfl,⟨_,e,rfl⟩,call_meets F.slot_list_mul ⟨_,e,rfl⟩ F.entry_list_mul (F.args_list_mul_2 _ _) (AutoListH.list___mul___list_int_3 l its.toArray n k t hfit hcap hlong) ⟨e,?_⟩⟩)
 rw[hnew];exact⟨.ref _,_,I.lnew (t':=s.toks) (r.rep k.toNat) (by rw[xI,aS];exact hz),rfl,q _ I.fresh⟩
end
section
variable{prog:Program}{w:World}{A:Around}{E:Value->Shared->Prop}{s:Shared}
set_option maxRecDepth 100000 in
end
end L2
namespace Att
open PySem PySem.W PySem.Calls PyProof.Rows
theorem vc{P:Params}{h:Heap}:∀(ns:List Int) (vs:List Value),WellAll P h vs (ns.map WData.int)->IntsAre vs ns:=by
 intro ns;induction ns with
 | nil =>
  intro vs w;rw[List.map_nil] at w;cases w;exact .nil
 | cons n ns ih =>
  intro vs w;rw[dm] at w;cases w with
  | cons a b =>
   cases a;exact .cons _ _ (ih _ b)
theorem Bd{l:OpenLaw}{n:Nat}(hn:l.most=some n){P:Params}{h:Heap}{args:List WData}{vals:List Value}
  (hpre:l.row.toRowW.claim.pre args=true) (hwl:WellAll P h vals args) :
  ∃ a vs ns,vals=[Value.ref a]/\args=[WData.list (ns.map WData.int)]/\h.get? a=some { cls:=.type "list",data:=.seq vs.toArray }/\IntsAre vs ns/\ns.length<=n:=by
 have hsh:WShape.hasAll [] args [.list .int]=true:=(pre_splitW hpre).1;have hc:l.pre.holds [] { args:=args }=true:=(pre_splitW hpre).2;obtain⟨d,r,rfl,h1,h2⟩:=hasAllW_cons hsh;obtain rfl:=hasAllW_nil h2;obtain⟨xs,rfl,h3⟩:=hasW_list h1;obtain⟨ns,rfl⟩:=items_int h3;have hlen:ns.length<=n:=by
  unfold OpenLaw.pre at hc;have h4:(WTm.not (.lt (.lit (.int (n:Int))) (.len (.arg 0)))).holds [] { args:=[.list (ns.map .int)] }=true:=by
   have h4:=(holds_andW hc).1;rw[hn] at h4;exact h4
  have h5:=condW_of h4 (w_not (w_lt w_lit (w_len_list (w_arg rfl))));rw[aa] at h5;refine Nat.le_of_not_lt λq=>?_;have q':(n:Int)<((ns.length:Nat):Int):=by omega
  first
   | (rw[decide_eq_true q'] at h5;exact absurd h5 (by decide))
   | (simp at h5;omega)
 cases hwl with
 | cons w1 w2 =>
  cases w2;cases w1 with
  | list ho hall=>exact⟨_,_,ns,rfl,rfl,ho,vc ns _ hall,hlen⟩
theorem Bj(l:OpenLaw)(args:List WData):l.row.toRowW.claim.post args (.bool true) args=true :=
 postW_of (r:=l.row.toRowW) (X:=(true == true))
  (show WShape.has [] (.bool true) .bool=true by first|rfl|decide|simp[WShape.has,WShape.arms,WShape.armsAll])
  (show (WTm.eq .res (.lit (.bool true))).value [] { args:=args,res:=some (.bool true),after:=args }=some (.bool (true == true)) from w_eq_bool (w_res rfl) w_lit) rfl
theorem yQ{l:OpenLaw}{n:Nat}{q:Program}{loose:List Str}{XP:(Str->Option Value)->Heap->Prop}{YP:World->Heap->Prop}{d:DefRec}
  (hn:l.most=some n) (hdf:d.params.defaults=[])
  (call:∀(w:World) (s₀ s₁:Shared) (mg mb:Str->Option Value) (fa:Addr) (o:Obj) (pm cd doc:Value) (a:Addr) (vs:List Value) (ns:List Int),
   Ground q loose [] XP w s₀ mg mb s₁.heap->YP w s₁.heap ->
   s₁.heap.get? fa=some o->o.data = .func (docDef d.name d.params d.body d.scope pm cd doc)->s₁.heap.CodeRec cd d.name->mg d.name=some (.ref fa) ->
   s₁.heap.get? a=some { cls:=.type "list",data:=.seq vs.toArray }->IntsAre vs ns->ns.length<=n->s₁.gens = #[] ->
   codeAny (model l.prog w) callerA (.call (.ref fa) ⟨[.ref a],[]⟩) (λr s'=>r = .ok (.ret (.bool true))/\OldK s₁.heap s'.heap/\s'.os=s₁.os/\AllBare s'.gens) s₁) :
  WalkO q loose XP YP l.row.toRowW d [] (λf vs=>PySem.call f vs):=by
 intro w s₀ s₁ mg mb G Y fa o pm cd doc dV kV ho hd hcd hD hmg hg args vals as hpre hlay hrd hwl hlo;obtain rfl:dV = .none:=Dflts.none hD hdf;obtain rfl:kV = .none:=Dflts.noKw hD;obtain⟨a,vs,ns,rfl,rfl,hobj,hints,hlen⟩:=Bd hn hpre hwl;refine enter_call (codeAny_mono (call w s₀ s₁ mg mb fa o pm cd doc a vs ns G Y ho (fd_plain hd) hcd hmg hobj hints hlen hg) λr s' hq=>?_);obtain⟨rfl,h2,h3,h4⟩:=hq;exact⟨.inl ⟨.bool true,.bool true,[],rfl,λ_=>rfl,.bool true,Bj l _,λ_=>⟨List.Pairwise.nil,λ_ hm=>(nomatch hm)⟩⟩,h2,h3,h4⟩
end Att
namespace L2
open PySem PySem.Spec PyProof.Rows
theorem wp:∀{vs:List Value} {ns:List Int},IntsAre vs ns->Vals (ns.map V.int) vs
 | _,_,.nil=>.nil
 | _,_,.cons n t h=>.cons ⟨t,rfl⟩ (wp h)
def IK(H:Hp):Prop:=∀ b,H b=none\/∃ o xs,H b=some (.frz o (.lst xs))
theorem Dl{P:Program}{w:World}{K:Frag}{mg mb:Str->Option Value}{CX:Eh}{k:Nat}{fa a:Addr}{fd:FuncData}{x:Str}{sp:Sp}{s₁:Shared}{vs:List Value}{ns:List Int}
  (KX:K.In s₁.heap) (hns:s₁.heap.Ns mainGlobals mg) (hb:s₁.heap.Ns builtinsNs mb) (hbb:∀ x:Str,x ≠ "__name__" -> mb x=bootBuiltins x) (hlim:s₁.heap.NoLimit) (hse:s₁.heap.NoSeer) (htr:P.given.tree=none) (hg:s₁.gens = #[])
  (ha:s₁.heap.get? a=some { cls:=.type "list",data:=.seq vs.toArray }) (hi:IntsAre vs ns) (hl:ns.length<=sizeLine) (hr:Room k callerA)
  (F:∀ base:Heap,K.In base->base.Ns mainGlobals mg->FnOk P w K mg base CX k fa fd [x] sp) (hbind:∀(s:Shared) (u:Value),BindsTo s fd ⟨[u],[]⟩ [(x,u)])
  (hsp:∀ H:Hp,IK H->SqL K H a (ns.map V.int)->sp [.ref a] H (λv _=>v = .bl true) λ_ _ _=>False)
  (hCX:∀ H e s',CX [] H s₁ (λ_ _ _=>False) e s'->False) :
  codeAny (model P w) callerA (.call (.ref fa) ⟨[.ref a],[]⟩) (λr s'=>r = .ok (.ret (.bool true))/\OldK s₁.heap s'.heap/\s'.os=s₁.os/\AllBare s'.gens) s₁:=by
 have rv:=wp hi;have lenV:=hi.length
 -- from an abstract heap in which nothing but the script may be tracked
 have core:∀ H:Hp,IK H->SqL K H a (ns.map V.int)->HOk P w H s₁.heap->(∀ b,H b≠none->b=a)->(H a≠none->K.lookup a=none) ->
   codeAny (model P w) callerA (.call (.ref fa) ⟨[.ref a],[]⟩) (λr s'=>r = .ok (.ret (.bool true))/\OldK s₁.heap s'.heap/\s'.os=s₁.os/\AllBare s'.gens) s₁:=by
  intro H hO hS hok hA hK;have base_of:∀{b:Addr} {o:Obj},s₁.heap.get? b=some o->H b=none->(wj s₁.heap H).get? b=some o:=λe n=>Du e n;have noA:∀{b:Addr} {o:Obj} {es:Array DictEntry} {ep:Nat},s₁.heap.get? b=some o->o.data = .dict es ep->H b=none:=λ{b o es ep} e d=>by
   cases q:H b with
   | none=>rfl
   | some u =>
    have e':b=a:=hA b (by rw[q];simp);subst e';rw[ha] at e;cases e;have d':Data.seq vs.toArray _=Data.dict es ep:=d;cases d'
  have nsK:∀{b:Addr} {m:Str->Option Value},s₁.heap.Ns b m->(wj s₁.heap H).Ns b m:=λ{b m} ⟨o,es,ep,e,d,r⟩=>⟨o,es,ep,base_of e (noA e d),d,r⟩;have hKb:K.In (wj s₁.heap H):=λb o e=>base_of (KX b o e) (by
   cases q:H b with
   | none=>rfl
   | some u =>
    have e':b=a:=hA b (by rw[q];simp);subst e';rw[hK (by rw[q];simp)] at e;cases e)
  have hM:Mod K mg (wj s₁.heap H):=⟨hKb,nsK hns,⟨mb,nsK hb,hbb⟩,let ⟨mc,h1,h2⟩:=hlim;⟨mc,nsK h1,h2⟩⟩;have hsr:(wj s₁.heap H).NoSeer:=by
   obtain⟨⟨mc,a1,b1⟩,⟨mm,a2,b2⟩,⟨mi,a3,b3⟩,⟨mq,bm,ob,a4,b4,c4,d4,e4⟩⟩:=hse;refine⟨⟨mc,nsK a1,b1⟩,⟨mm,nsK a2,b2⟩,⟨mi,nsK a3,b3⟩,⟨mq,bm,ob,nsK a4,b4,base_of c4 ?_,d4,e4⟩⟩;cases q:H bm with
   | none=>rfl
   | some u =>
    have e':bm=a:=hA bm (by rw[q];simp);subst e';rw[ha] at c4;cases c4;exact absurd (show (Value.type "list")=Value.type "module" from d4) (by decide)
  have e0:Env0 P w K mg (wj s₁.heap H) callerA [] s₁ H:=⟨rfl,hM,λb o e=>E9 e,Nat.le_of_eq (BO _ _),trivial,λb hb=>absurd (show b∈([]:List Addr) from hb) (by simp),hok,.of_eq hg,hsr,htr⟩;refine codeAny_mono ((F _ hKb (nsK hns)).run callerA [] s₁ H ⟨[.ref a],[]⟩ [.ref a] [.ref a] _ _ hr e0 (hbind s₁ (.ref a)) (.cons rfl .nil) (hsp H hO hS)) λr s' h=>?_;cases r with
  | error e=>exact (hCX H e s' h).elim
  | ok fl =>
   cases fl with
   | next=>exact False.elim h
   | brk=>exact False.elim h
   | cont=>exact False.elim h
   | ret u =>
    obtain⟨v,H',os,bare,un,hok',r',q⟩:=h;have q':v = .bl true:=q;subst q';obtain rfl:u=Value.bool true:=r';refine⟨rfl,OldK.of_keep λb o e=>?_,os,bare⟩;cases q:H b with
    | none=>exact un.keep b o e q (by intro z;exact absurd (show b∈([]:List Addr) from z) (by simp)) (by simp)
    | some u =>
     rcases hO b with z|⟨ob,xs,z⟩
     ·rw[q] at z;cases z
     ·have z2:=un.frzs b ob _ z;obtain⟨e1,_⟩:=hok b _ z;obtain⟨e2,_⟩:=hok' b _ z2;rw[e] at e1;cases e1;exact e2
 cases hk:K.lookup a with
 | some o =>
  -- the script is one of the module's own objects
  have e:=KX a o hk;rw[ha] at e;cases e;refine core (λ_=>none) (λ_=>.inl rfl) (.inr ⟨_,vs.toArray,_,hk,rfl,rfl,rfl,by rw[aj,lenV];exact hl,by simpa using rv⟩) (λb u z=>by have z':(none:Option HO)=some u:=z;cases z') (λb z=>absurd rfl z) λz=>absurd rfl z
 | none =>
  refine core (λb=>if b=a then some (.frz { cls:=.type "list",data:=.seq vs.toArray } (.lst (ns.map V.int))) else none) (λb=>?_) (.inl (.inr ⟨{ cls:=.type "list",data:=.seq vs.toArray },if_pos rfl⟩)) (λb u z=>?_) (λb z=>?_) λ_=>hk
  ·by_cases hb:b=a
   ·exact .inr ⟨_,_,if_pos hb⟩
   ·exact .inl (if_neg hb)
  ·by_cases hb:b=a
   ·have z':=(if_pos hb).symm.trans z;cases z';subst hb;exact⟨ha,by rw[aa];exact hl,vs,_,rv,ha⟩
   ·have z':=(if_neg hb).symm.trans z;cases z'
  ·by_cases hb:b=a
   ·exact hb
   ·exact absurd (if_neg hb) z
theorem Em{l:PySem.W.OpenLaw}{n k:Nat}{q:Program}{loose:List Str}{YP:World->Heap->Prop}{d:DefRec}{K:Params->Frag}{CX:World->Eh}{sp:World->Sp}{x:Str}
  (hn:l.most=some n) (hn2:n<=sizeLine) (hdf:d.params.defaults=[]) (hr:Room k callerA)
  (hY:∀(w:World) (h:Heap),YP w h->(K w.params).In h)
  (F:∀(w:World) (mg:Str->Option Value) (fa:Addr) (h:Heap),(K w.params).In h->h.Ns mainGlobals mg->mg d.name=some (.ref fa) ->
   ∃ fd:FuncData,(∀(s:Shared) (u:Value),BindsTo s fd ⟨[u],[]⟩ [(x,u)]) /\
    ∀ base:Heap,(K w.params).In base->base.Ns mainGlobals mg->FnOk l.prog w (K w.params) mg base (CX w) k fa fd [x] (sp w))
  (hsp:∀(w:World) (H:Hp) (a:Addr) (ns:List Int),ns.length<=n->IK H->SqL (K w.params) H a (ns.map V.int)->sp w [.ref a] H (λv _=>v = .bl true) λ_ _ _=>False)
  (hCX:∀(w:World) (H:Hp) (s:Shared) (e:Value) (s':Shared),CX w [] H s (λ_ _ _=>False) e s'->False) (hi:importsNone q=true:=by decide +kernel) (ht:l.prog.given.tree=none:=by rfl) :
  PySem.W.WalkO q loose XP YP l.row.toRowW d [] (λf vs=>PySem.call f vs):=by
 refine Att.yQ hn hdf λw s₀ s₁ mg mb fa o pm cd doc a vs ns G Y ho hd hcd hmg hobj hints hlen hg=>?_;have KX:=hY w _ Y;obtain⟨fd,hb,hF⟩:=F w mg fa _ KX G.T.g hmg;exact Dl KX G.T.g G.T.b G.T.builtins G.T.nolimit (G.T.seer hi) ht hg hobj hints (aZ hlen hn2) hr hF hb (λH hO hS=>hsp w H a ns hlen hO hS) λH e s'=>hCX w H s₁ e s'
def tM(s:Stmt):Arguments:=match s with
 | .FunctionDef _ a _ _ _ _ _ _ _ _=>a
 | _=>{ posonlyargs:=[],args:=[],vararg:=none,kwonlyargs:=[],kw_defaults:=[],kwarg:=none,defaults:=[] }
def rf(s:Stmt):List Stmt:=match s with
 | .FunctionDef _ _ b _ _ _ _ _ _ _=>b
 | _=>[]
def qA(s:Stmt):Scope:=match s with
 | .FunctionDef _ _ _ _ _ _ sc _ _ _=>sc
 | _=>{ kind:=.function,names:=[],isGenerator:=false,isCoroutine:=false }
abbrev x8:Eh:=λ_ _ _ _ _ _=>False
abbrev E0:XK:=λ_ _ _=>False
theorem JA:Au x8 X E0:=λ_ _ _ _ _ _ _ h=>h.elim
structure Fun (K:Frag)(x qual:Str)(st:Stmt)(f:Addr)(fd:FuncData):Prop where
 ex:∃(oc:Value) (od:Option Addr) (kV doc pm:Value) (an:Option Addr) (cdv ct:Value) (osl:Array (Option Value)),
  fd=PySem.W.fnOf x qual (tM st) (rf st) (qA st) .none kV doc pm an cdv ct/\K.lookup f=some ⟨oc,od,.func fd,osl⟩/\PySem.W.codeIn K cdv qual=true
 kp:PySem.W.keepIn K (.ref f)=true
section
variable{P:Program}{w:World}{K:Frag}{mg:Str->Option Value}{base:Heap}
theorem Fun.ok{x qual:Str}{st:Stmt}{f:Addr}{fd:FuncData}{N ps:List Str}{k:Nat}{sp:Sp}(F:Fun K x qual st f fd)(S:FnScope N ps (qA st))(len:∀ vs H Q E,sp vs H Q E->vs.length=ps.length)
  (hbody:∀(cdv:Value) (A:Around) (outer:List Env) (s:Shared) (H:Hp) (vs:List V) (Q:VK) (E:XK),Room k (A.deeper (envOfC qual (qA st) s.heap.objs.size f cdv))->sp vs H Q E ->
   ∃ t,PSs (Ab x8 P w K mg base N qual (qA st) f cdv A outer s H E).nox (rf st) t/\t { nx:=λ_ H'=>Q .non H',rt:=Q } (start N vs) H):FnOk P w K mg base x8 (k+1) f fd ps sp:=by
 obtain⟨oc,od,kV,doc,pm,an,cdv,ct,osl,rfl,lk,hcd⟩:=F.ex;refine JZ lk hcd S len λA outer s H vs Q E hr hsp=>?_;obtain⟨t,h,q⟩:=hbody cdv A outer s H vs Q E hr hsp;exact⟨t,h.nox,q⟩
theorem Fun.binds{x qual:Str}{st:Stmt}{f:Addr}{ps:List Str}(F:Fun K x qual st f fd)
  (h:∀(kV doc pm:Value) (an:Option Addr) (cdv ct:Value) (us:List Value),us.length=ps.length->bindArgs (PySem.W.fnOf x qual (tM st) (rf st) (qA st) .none kV doc pm an cdv ct) ⟨us,[]⟩=pure (ps.zip us)):Binds K fd ps []:=by
 obtain⟨oc,od,kV,doc,pm,an,cdv,ct,osl,rfl,lk,hcd⟩:=F.ex;exact .all (h kV doc pm an cdv ct)
theorem Ih{x qual:Str}{st:Stmt}{f:Addr}{oc:Value}{od an:Option Addr}{kV doc pm cdv ct:Value}(l:K.lookup f=some ⟨oc,od,.func (PySem.W.fnOf x qual (tM st) (rf st) (qA st) .none kV doc pm an cdv ct),osl⟩)
  (c:PySem.W.codeIn K cdv qual=true) (k:PySem.W.keepIn K (.ref f)=true):Fun K x qual st f (PySem.W.fnOf x qual (tM st) (rf st) (qA st) .none kV doc pm an cdv ct):=⟨⟨oc,od,kV,doc,pm,an,cdv,ct,osl,rfl,l,c⟩,k⟩
end
section
variable{X:Cx}
theorem pv(i:Nat)(hN:X.N[i]? = some x:=by rfl)(hv:GC X.env.scope x:=by first|exact Or.inl rfl|exact Or.inr (Or.inl rfl)|exact Or.inr (Or.inr rfl))(hd:(x == ("__debug__" : Str))=false:=by decide)
  (hcd:(x == ("__classdict__" : Str))=false:=by decide):PE X (.Name x pos) (sB i):=zm hN hv hd hcd
end
theorem H8{A B:Prop}(h:B):if false=true then A else B:=by
 rw[if_neg aB];exact h
theorem HZ{A B:Prop}(h:A):if true=true then A else B:=by
 rw[if_pos rfl];exact h
theorem Fp{c A B:Prop}[Decidable c](h1:c->A)(h2:¬ c->B):if c then A else B:=by
 by_cases h:c
 ·rw[if_pos h];exact h1 h
 ·rw[if_neg h];exact h2 h
theorem Gf{c A B:Prop}[Decidable c](hc:c)(h:B):if (!decide c)=true then A else B:=by
 rw[decide_eq_true hc];exact H8 h
def Same(H H':Hp):Prop:=∀ b o,H b=some o->H' b=some o
theorem Same.trans(a:Same H H1)(b:Same H1 H2):Same H H2:=λc o h=>b c o (a c o h)
theorem Same.seq{K:Frag}{H H':Hp}{a:Addr}{xs:List V}(e:Same H H')(h:SqL K H a xs):SqL K H' a xs:=by
 rcases h with (h|⟨o,h⟩)|h
 ·exact .inl (.inl (e _ _ h))
 ·exact .inl (.inr ⟨o,e _ _ h⟩)
 ·exact .inr h
theorem rD{β:Type}:∀{l:List (Str×β)} {x:Str} {k:β},l.lookup x=some k->(x,k)∈l
 | [],_,_,h=>by simp at h
 | (n,k')::r,x,k,h=>by
  rw[dQ] at h;cases e:x == n with
  | true =>
   rw[e] at h;have e':x=n:=eq_of_beq e;have h':some k'=some k:=h;cases h';rw[e'];exact aF
  | false =>
   rw[e] at h;exact az _ (rD h)
theorem xH{β:Type}:∀{l:List (Str×β)} {x:Str} {k:β},(x,k)∈l->∃ k',l.lookup x=some k'
 | [],_,_,h=>by simp at h
 | (n,k')::r,x,k,h=>by
  rw[dQ];cases e:x == n with
  | true=>exact⟨k',rfl⟩
  | false =>
   rcases ao.mp h with q|q
   ·cases q;simp at e
   ·exact xH q
def ue(env:Env)(x:Str)(k:NameKind):NameKind:=if (k == .free && env.scope.kind == .function && env.kindOf x == some .cell) then .cell else k
theorem ut{env:Env}{x:Str}:∀{l:List (Str×NameKind)},
  (l.map λ(n,k)=>if (k == NameKind.free && env.scope.kind == .function && env.kindOf n == some .cell) then (n,NameKind.cell) else (n,k)).lookup x=(l.lookup x).map (ue env x)
 | []=>rfl
 | (n,k)::r=>by
  rw[dm];have ih:=@ut env x r;have e0:(match ((n,k):Str×NameKind) with|(n,k)=>if (k == NameKind.free && env.scope.kind == .function && env.kindOf n == some .cell) then (n,NameKind.cell) else (n,k))=(n,ue env n k):=by
   show (if (k == NameKind.free && env.scope.kind == .function && env.kindOf n == some .cell)=true then (n,NameKind.cell) else (n,k))=(n,ue env n k);unfold ue;split <;> rfl
  rw[e0,dQ,dQ];cases e:x == n with
  | true =>
   have e':x=n:=eq_of_beq e;subst e';rfl
  | false=>exact ih
def rX(cells:List (Str×Addr)):List (Str×NameKind)->List (Str×Addr)->List (Str×Addr)
 | [],acc=>acc
 | (n,k)::r,acc=>if k == .free then rX cells r ((n,(cells.lookup n).getD 0)::acc) else rX cells r acc
theorem tx:∀{l:List (Str×NameKind)} {acc:List (Str×Addr)},(∀ y∈l,y.2 = .free->∃ c,cells.lookup y.1=some c)->(∀ p∈acc,cells.lookup p.1=some p.2) ->
  ∀ p∈rX cells l acc,cells.lookup p.1=some p.2
 | [],acc,_,ha,p,hp=>ha p hp
 | (n,k)::r,acc,hl,ha,p,hp=>by
  unfold rX at hp;have hl':∀ y∈r,y.2 = .free->∃ c,cells.lookup y.1=some c:=λy hy=>hl y (az _ hy);cases hk:k == NameKind.free with
  | true =>
   rw[hk,if_pos rfl] at hp;refine tx hl' (λq hq=>?_) p hp;rcases ao.mp hq with e|e
   ·subst e;obtain⟨c,e⟩:=hl (n,k) aF (eq_of_beq hk);show cells.lookup n=some ((cells.lookup n).getD 0);rw[show cells.lookup n=some c from e];rfl
   ·exact ha q e
  | false =>
   rw[hk,if_neg aB] at hp;exact tx hl' ha p hp
theorem vZ:∀{l:List (Str×NameKind)} {acc:List (Str×Addr)} {p:Str×Addr},p∈acc->p∈rX cells l acc
 | [],_,_,h=>h
 | (n,k)::r,acc,p,h=>by
  unfold rX;split
  ·exact vZ (az _ h)
  ·exact vZ h
theorem uz:∀{l:List (Str×NameKind)} {acc:List (Str×Addr)} {x:Str},(x,NameKind.free)∈l->∃ c,(x,c)∈rX cells l acc
 | [],_,_,h=>by simp at h
 | (n,k)::r,acc,x,h=>by
  unfold rX;rcases ao.mp h with e|e
  ·cases e;rw[if_pos (by rfl)];exact⟨_,vZ aF⟩
  ·split
   ·exact uz e
   ·exact uz e
theorem ud:∀{l:List (Str×NameKind)} {acc:List (Str×Addr)},(∀ y∈l,y.2 = .free->∃ c,env.cells.lookup y.1=some c) ->
  (forIn l acc (λ(x:Str×NameKind) (r:List (Str×Addr))=>(if (x.2 == NameKind.free)=true then do let c ← cellOf env x.1;pure (ForInStep.yield ((x.1,c)::r)) else pure (ForInStep.yield r):Sem _)))=pure (rX env.cells l acc)
 | [],_,_=>rfl
 | (n,k)::r,acc,hl=>by
  have hl':∀ y∈r,y.2 = .free->∃ c,env.cells.lookup y.1=some c:=λy hy=>hl y (az _ hy);rw[List.forIn_cons];unfold rX;cases hk:k == NameKind.free with
  | true =>
   obtain⟨c,e⟩:=hl (n,k) aF (eq_of_beq hk);have e':env.cells.lookup n=some c:=e;simp only[hk,if_true];rw[show cellOf env n=pure c by unfold cellOf;rw[e']];simp only[pure_bind];rw[ud hl',e'];rfl
  | false =>
   simp only[hk,bQ,if_false,pure_bind];exact ud hl'
theorem uV:∀{l:List (Str×NameKind)} {acc:List (Str×Addr)} {p:Str×Addr},p∈rX cells l acc->p∈acc\/(p.1,NameKind.free)∈l
 | [],_,_,h=>.inl h
 | (n,k)::r,acc,p,h=>by
  unfold rX at h;split at h
  ·rename_i hk;rcases uV h with z|z
   ·rcases ao.mp z with e|e
    ·subst e;rw[eq_of_beq hk];exact .inr aF
    ·exact .inl e
   ·exact .inr (az _ z)
  ·exact (uV h).imp id (az _)
theorem Aj:∀{l:List (Str×NameKind)} {n:Nat} {acc:List (Str×Addr)} {p:Str×Addr},p∈cellsFrom n l acc->p∈acc\/(n<=p.2/\(p.1,NameKind.cell)∈l)
 | [],_,_,_,h=>.inl h
 | (x,k)::r,n,acc,p,h=>by
  unfold cellsFrom at h;split at h
  ·rename_i hk;rcases Aj h with z|z
   ·rcases ao.mp z with e|e
    ·subst e;rw[eq_of_beq hk];exact .inr ⟨af _,aF⟩
    ·exact .inl e
   ·exact .inr ⟨cK z.1,az _ z.2⟩
  ·exact (Aj h).imp id λz=>⟨z.1,az _ z.2⟩
theorem v0:∀{l:List (Str×NameKind)} {n:Nat} {acc:List (Str×Addr)} {p:Str×Addr},p∈acc->p∈cellsFrom n l acc
 | [],_,_,_,h=>h
 | (x,k)::r,n,acc,p,h=>by
  unfold cellsFrom;split
  ·exact v0 (az _ h)
  ·exact v0 h
theorem DY:∀{l:List (Str×NameKind)} {n:Nat} {acc:List (Str×Addr)} {x:Str},(x,NameKind.cell)∈l->∃ c,(x,c)∈cellsFrom n l acc
 | [],_,_,_,h=>by simp at h
 | (y,k)::r,n,acc,x,h=>by
  unfold cellsFrom;rcases ao.mp h with e|e
  ·cases e;rw[if_pos (by rfl)];exact⟨_,v0 aF⟩
  ·split <;> exact DY e
theorem Ak:∀{l:List (Str×NameKind)} {n:Nat} {acc:List (Str×Addr)},(∀ p∈acc,p.2<n)->(∀ x y c,(x,c)∈acc->(y,c)∈acc->x=y)->∀ x y c,(x,c)∈cellsFrom n l acc->(y,c)∈cellsFrom n l acc->x=y
 | [],_,_,_,h=>h
 | (z,k)::r,n,acc,hl,h=>by
  unfold cellsFrom;split
  ·refine Ak (λp hp=>?_) λx y c hx hy=>?_
   ·rcases ao.mp hp with e|e
    ·subst e;exact fi _
    ·exact gP (hl p e)
   ·rcases ao.mp hx with e|e <;> rcases ao.mp hy with e'|e'
    ·cases e;cases e';rfl
    ·cases e;exact absurd (hl _ e') (br _)
    ·cases e';exact absurd (hl _ e) (br _)
    ·exact h x y c e e'
  ·exact Ak hl h
theorem xR:∀{l:List (Str×NameKind)} {h:Heap} {acc:List (Str×Addr)} {p:Str×Addr},p∈cellsFrom h.objs.size l acc->p∈acc\/(pushCells h l).IsCell p.2 none
 | [],_,_,_,q=>.inl q
 | (x,k)::r,h,acc,p,q=>by
  unfold cellsFrom at q;unfold pushCells;split at q
  ·rename_i hk;rw[if_pos hk];rw[← Heap.size_push h { cls:=.type "cell",data:=.cell none }] at q;rcases xR q with z|z
   ·rcases ao.mp z with e|e
    ·subst e;exact .inr ⟨_,pushCells_keeps _ _ _ _ (ηG _ rfl),rfl⟩
    ·exact .inl e
   ·exact .inr z
  ·rename_i hk;rw[if_neg hk];exact xR q
theorem vV{cells:List (Str×Addr)}{names:List (Str×NameKind)}{n:Nat}{x:Str}{c:Addr}(hfr:∀ y∈names,y.2 = .free->∃ c,cells.lookup y.1=some c)(h:(x,c)∈cellsFrom n names (rX cells names [])) :
  (cells.lookup x=some c/\(x,NameKind.free)∈names)\/(n<=c/\(x,NameKind.cell)∈names):=by
 rcases Aj h with z|z
 ·refine .inl ⟨tx hfr (λ_ z=>absurd z aK) (x,c) z,?_⟩;rcases uV z with w|w
  ·exact absurd w aK
  ·exact w
 ·exact .inr z
theorem Fd{M:Model}{A:Around}{E:Value->Shared->Prop}{s:Shared}{scope:Scope}{g:Addr}{cl:List (Str×Addr)}{qual:Str}{env:Env}{Q:Env->Shared->Prop}
  (h:Q (newEnv scope s.heap.objs.size g (cellsFrom (s.heap.objs.size+1) scope.names cl) qual none .none (some env) builtinsNs) { s with heap:=pushCells (s.heap.push { cls:=.type "dict",data:=.dict #[] }) scope.names }) :
  wpAny M A (newFunctionEnv scope g cl [] qual none .none (some env)) Q E s:=by
 simp only[newFunctionEnv,Option.isSome_some,if_true];refine ηB (wpAny_alloc ?_);refine ηB (wpAny_layCells _ (λname kind cells=>by cases hkc:kind == NameKind.cell <;> simp[hkc]) _ _ _ _ ?_);rw[show ({ s with heap:=s.heap.push { cls:=.type "dict",data:=.dict #[] } }:Shared).heap.objs.size=s.heap.objs.size+1 from Heap.size_push ..];refine ηB ?_;rw[List.forIn_nil];exact ηP (ηP h)
def uu(hide:List Nat)(σ:St):St:=hide.foldl (λs i=>s.set i none) σ
theorem hideS_len:∀{hide:List Nat} {σ:St},(uu hide σ).length=σ.length
 | [],_=>rfl
 | i::r,σ=>by
  show (uu r (σ.set i none)).length=_;rw[hideS_len,bz]
theorem wT:∀{hide:List Nat} {σ:St} {i:Nat} {v:V},(uu hide σ)[i]? = some (some v)->i ∉ hide/\σ[i]? = some (some v)
 | [],_,_,_,h=>⟨by simp,h⟩
 | j::r,σ,i,v,h=>by
  obtain⟨h1,h2⟩:=wT (hide:=r) (σ:=σ.set j none) h;by_cases e:j=i
  ·subst e;by_cases hl:j<σ.length
   ·rw[dU hl] at h2;cases h2
   ·rw[bw (by simp;omega)] at h2;cases h2
  ·rw[aH e] at h2;exact⟨by simp[h1,Ne.symm e],h2⟩
def sU(X:Cx)(scope:Scope)(s2:Shared)(H2:Hp)(fp:List Addr)(pins:List (Addr×Obj))(C:Addr):Cx where
 prog:=X.prog
 w:=X.w
 K:=X.K
 mg:=X.mg
 base:=X.base
 A:=X.A
 N:=X.N
 s₀:=s2
 H₀:=H2
 env:=compEnvC scope (cellsFrom (C+1) scope.names (rX X.env.cells scope.names [])) C X.env
 outer:=X.stack
 stack:=X.stack
 ex:=fp
 fn:=λx=>scope.names.lookup x == some .cell
 calm:=X.calm
 pn:=X.pn++pins
 xe:=λ_ _=>False
structure CompS (N:List Str)(out:Scope)(scope:Scope)(hide:List Nat):Prop where
 kind:scope.kind = .function
 one:∀ y∈scope.names,scope.names.lookup y.1=some y.2
 free:∀ y∈scope.names,y.2 = .free->out.names.lookup y.1=some .cell\/out.names.lookup y.1=some .free
 loc:∀ y∈scope.names,y.2 = .local->scope.names.lookup y.1=some .local
 own:∀(i:Nat),i<N.length->(scope.names.lookup (N.getD i "")=some .local\/scope.names.lookup (N.getD i "")=some .cell)->i∈hide
section
variable{X:Cx}{pins:List (Addr×Obj)}{σ:St}{H:Hp}{s:Shared}
theorem MK(S:CompS X.N X.env.scope scope hide)(I:Inv X pins σ H s)(hf:∀ b∈fp,sT X pins H b)(hfo:∀ b∈fp,∃ o,s.heap.get? b=some o)
  (hC:s.heap.objs.size<=C):(sU X scope s H fp pins C).Ok:=by
 have hfr:∀ y∈scope.names,y.2 = .free->∃ c,X.env.cells.lookup y.1=some c:=λy hy e=>I.ok.has y.1 (S.free y hy e);have old:∀ x c,X.env.cells.lookup x=some c->c<s.heap.objs.size:=λx c e=>by
  obtain⟨v,o,ho,_⟩:=I.cell x c e;exact ηL ho
 have cl:∀ p∈rX X.env.cells scope.names [],X.env.cells.lookup p.1=some p.2:=tx hfr λ_ z=>absurd z aK;refine⟨I.ok.mod,S.kind,I.ok.glob,I.ok.blt,hC,λx y c e1 e2=>Ak (λp hp=>gP (aE (old _ _ (cl p hp)) hC)) (λx y c h1 h2=>I.ok.inj x y c (cl _ h1) (cl _ h2)) x y c (rD e1) (rD e2),λx hx=>?_,λx c h e=>?_,I.ok.hd,I.ok.frames,.inl rfl,λb hb=>⟨?_,λx c e=>?_⟩,I.bs,
  aZ I.ok.bsz I.sz,λb o e hb=>?_,λb hb z=>?_,I.stack,I.stkFree,I.ok.sr,I.ok.rn⟩
 ·have hx':((scope.names.lookup x).map (ue X.env x)=some .cell)\/((scope.names.lookup x).map (ue X.env x)=some .free):=by
   rw[← ut];exact hx
  cases q:scope.names.lookup x with
  | none=>rw[q] at hx';rcases hx' with z|z <;> cases z
  | some k =>
   have mem:=rD q;have kf:k = .free\/k = .cell:=by
    rw[q] at hx';have hx2:ue X.env x k = .cell\/ue X.env x k = .free:=hx'.imp Option.some.inj Option.some.inj;unfold ue at hx2;by_cases c:(k == NameKind.free && X.env.scope.kind == .function && X.env.kindOf x == some .cell)=true
    ·simp only[aX,beq_iff_eq] at c;exact .inl c.1.1
    ·rw[if_neg c] at hx2;exact hx2.symm
   rcases kf with kf|kf
   ·subst kf;obtain⟨c,hc⟩:=uz (cells:=X.env.cells) (acc:=[]) mem;exact xH (v0 hc)
   ·subst kf;obtain⟨c,hc⟩:=DY (n:=C+1) (acc:=rX X.env.cells scope.names []) mem;exact xH hc
 ·have h:scope.names.lookup x=some .cell:=eq_of_beq h;rcases vV hfr (rD e) with⟨_,z⟩|⟨z,_⟩
  ·rw[S.one _ z] at h;cases h
  ·exact aZ hC (cK z)
 ·obtain⟨o,e⟩:=hfo b hb;exact aO (aE (ηL e) hC)
 ·obtain⟨o,e'⟩:=hfo b hb;rcases vV hfr (rD e) with⟨z,_⟩|⟨z,_⟩
  ·exact (hf b hb).2.2.2.2.1 x c z
  ·exact dE (aE (ηL e') (aZ hC (cK z)))
 ·rcases (hf b hb).2.2.2.1 with z|z
  ·exact I.ok.noex b o e z
  ·exact absurd (aE (ηL (I.ok.bs b o e).1) z) (br _)
 ·rcases ao.mp (I.stkSub b z) with q|q
  ·exact (hf b hb).2.1 q
  ·exact (hf b hb).2.2.1 q
theorem Kl(I:Inv X pins σ H s)(h:s.heap.objs.size<=a):a ∉ AV X.stack:=λz=>by
 rcases ao.mp (I.stkSub a z) with q|q
 ·exact absurd (aE I.lt (by rw[← q];exact h)) (br _)
 ·exact I.nofs h q
theorem Ly{scope:Scope}{hide:List Nat}(S:CompS X.N X.env.scope scope hide){fp:List Addr}{C D:Addr}{h4:Heap}{tk:Nat}{ob:Obj}{m:Str->Option Value}(I:Inv X pins σ H s)(hf:∀ b∈fp,sT X pins H b)(hfo:∀ b∈fp,∃ o,s.heap.get? b=some o)
  (hC:s.heap.objs.size<=C) (hD:s.heap.objs.size<=D) (hDC:D≠C) (k:∀ b u,s.heap.get? b=some u->h4.get? b=some u) (hcl:∀ p∈cellsFrom (C+1) scope.names (rX X.env.cells scope.names []),p∈rX X.env.cells scope.names []\/h4.IsCell p.2 none) (hn:h4.Ns C m) (hDo:h4.get? D=some ob) (hob:∀ v,ob.data ≠ .cell v) :
  Inv (sU X scope s H fp pins C) [(D,ob)] (uu hide σ) H { s with heap:=h4,toks:=tk }:=by
 have ok:=MK S I hf hfo hC;have hfr:∀ y∈scope.names,y.2 = .free->∃ c,X.env.cells.lookup y.1=some c:=λy hy e=>I.ok.has y.1 (S.free y hy e);have sub:∀ x c,(x,c)∈rX X.env.cells scope.names []->X.env.cells.lookup x=some c:=λx c e=>tx hfr (λ_ z=>absurd z aK) (x,c) e;have ck:∀ c v,s.heap.IsCell c v->h4.IsCell c v:=λc v ⟨o,ho,hd⟩=>⟨o,k c o ho,hd⟩;refine⟨ok,rfl,I.bare,Un.kept k,⟨m,hn,λi x v e1 e2 e3=>?_⟩,λx c e=>?_,I.hok.fresh hC,λx c e=>?_,λp hp=>?_,I.hok.kept k,hideS_len.trans I.len⟩
 ·obtain⟨n1,n2⟩:=wT e2;have e3':((scope.names.lookup x).map (ue X.env x)=some .local)\/((scope.names.lookup x).map (ue X.env x)=some .cell)\/((scope.names.lookup x).map (ue X.env x)=some .free):=by
   rw[← ut];exact e3
  cases q:scope.names.lookup x with
  | none=>rw[q] at e3';rcases e3' with z|z|z <;> cases z
  | some kd =>
   rw[q] at e3';have e4:ue X.env x kd = .local\/ue X.env x kd = .cell\/ue X.env x kd = .free:=e3'.imp Option.some.inj λz=>z.imp Option.some.inj Option.some.inj;have mem:=rD q;by_cases kl:kd = .local\/kd = .cell
   ·have hi:X.N[i]? = some x:=e1;obtain⟨hlt,hge⟩:=ai.mp hi;refine absurd (S.own i hlt ?_) n1;rw[ah,hi];exact kl.imp (λz=>by rw[← z];exact q) λz=>by rw[← z];exact q
   ·have kf:kd = .free:=by
     unfold ue at e4;by_cases c:(kd == NameKind.free && X.env.scope.kind == .function && X.env.kindOf x == some .cell)=true
     ·simp only[aX,beq_iff_eq] at c;exact c.1.1
     ·rw[if_neg c] at e4;rcases e4 with z|z|z
      ·exact absurd (.inl z) kl
      ·exact absurd (.inr z) kl
      ·exact z
    subst kf;have kx:=S.free _ mem rfl;obtain⟨m0,_,hl⟩:=I.loc;obtain⟨u,r,l⟩:=hl i x v e1 n2 (.inr kx);refine⟨u,r,?_⟩;rcases l with⟨z,_⟩|⟨_,c,e,z⟩
    ·have z':X.env.scope.names.lookup x=some .local:=z;rw[z'] at kx;rcases kx with w|w <;> cases w
    ·obtain⟨c',hc'⟩:=uz (cells:=X.env.cells) (acc:=[]) mem;obtain⟨c2,hc2⟩:=xH (v0 (n:=C+1) (l:=scope.names) hc');have ec:c2=c:=by
      rcases vV hfr (rD hc2) with⟨w,_⟩|⟨_,w⟩
      ·exact Option.some.inj (w.symm.trans e)
      ·have w1:=S.one _ w;rw[q] at w1;cases w1
     subst ec;refine .inr ⟨?_,c2,hc2,ck c2 _ z⟩;have e5:((relabel scope X.env).names.lookup x)=some (ue X.env x .free):=by
      show (List.map _ scope.names).lookup x=_;rw[ut,q];rfl
     rcases e4 with w|w|w
     ·unfold ue at w;split at w <;> cases w
     ·exact .inl (e5.trans (by rw[w]))
     ·exact .inr (e5.trans (by rw[w]))
 ·rcases hcl _ (rD e) with w|w
  ·obtain⟨v,z⟩:=I.cell x c (sub x c w);exact⟨v,ck c v z⟩
  ·exact⟨_,w⟩
 ·rcases vV hfr (rD e) with⟨w,_⟩|⟨w,_⟩
  ·exact I.freeC x c w
  ·exact I.hok.fresh (aZ hC (cK w))
 ·rcases bE.mp hp with z|z
  ·obtain⟨e,n,ne,nf,d⟩:=I.pin p z;refine⟨k _ _ e,n,aO (aE (ηL e) hC),λy=>?_,d⟩;rcases ao.mp (I.stkSub _ y) with q|q
   ·exact ne q
   ·exact nf q
  ·have e:p=(D,ob):=by simpa using z
   subst e;exact⟨hDo,I.hok.fresh hD,hDC,Kl I hD,hob⟩
theorem Lx{scope:Scope}{fp:List Addr}{C D:Addr}{n:Nat}{its:List Value}{ys:List V}{pins':List (Addr×Obj)}{τ:St}{H':Hp}{s':Shared}(I:Inv X pins σ H s)(hf:∀ b∈fp,sT X pins H b)
  (hD:s.heap.objs.size<=D) (J:Inv (sU X scope s H fp pins C) pins' τ H' s') (hp:(D,({ cls:=.type "list",data:=.seq its.toArray n }:Obj))∈pins') (hv:Vals ys its) (hz:ys.length<=sizeLine) :
  Inv X pins σ (rg H' D (.lst ys)) s':=by
 obtain⟨eD,nD,_⟩:=J.pin _ (aU _ hp);have u:Un (AV X.stack) fp H H' s.heap s'.heap:=J.base;have ne:∀ b o,s.heap.get? b=some o->b≠D:=λb o e=>aO (aE (ηL e) hD);have u':Un (AV X.stack) fp H (rg H' D (.lst ys)) s.heap s'.heap:=by
  refine⟨u.keep,u.slot,λb o e q hx=>?_,u.there,λb xs e=>?_,λb o v e=>?_,λb ps e=>?_⟩
  ·rw[qJ (ne b o e)];exact u.free b o e q hx
  ·have q:=u.tups b xs e;rw[qJ (qO q nD)];exact q
  ·have q:=u.frzs b o v e;rw[qJ (qO q nD)];exact q
  ·obtain⟨more,q⟩:=u.tbls b ps e;refine⟨more,?_⟩;rw[qJ (qO q nD)];exact q
 have hok:HOk X.prog X.w (rg H' D (.lst ys)) s'.heap:=λb o e=>by
  by_cases hb:b=D
  ·subst hb;rw[qK] at e;cases e;exact⟨hz,its,n,hv,eD⟩
  ·rw[qJ hb] at e;exact (J.hok b o e).stay (λ_ _ _ q=>q) (λc q=>by rw[qJ (qO q nD)];exact q) λc xs q=>by rw[qJ (qO q nD)];exact q
 refine I.call' (show s'.os=s.os from J.os) u' hok J.bare λb hb=>?_;obtain⟨f0,f1,f2,f3,f4,f5⟩:=hf b hb;exact⟨f3,f1,f4,f5⟩
end
abbrev vO(its:List Value)(n:Nat):Obj:={ cls:=.type "list",data:=.seq its.toArray n }
def PTs(X:Cx)(ifs:List Expr)(t:TT):Prop :=
 ∀(pins:List (Addr×Obj)) (s:Shared) (σ:St) (H:Hp) (Q:Bool->Hp->Prop),Inv X pins σ H s->t σ H Q ->
  wpAny (model X.prog X.w) X.A (forIn ifs true λc r=>if r=true then do let ok ← isTrue c X.env (eval c X.env);pure (ForInStep.yield ok) else pure (ForInStep.yield r)) (TP X pins σ Q) X.xe s
def IY:TT:=λ_ H Q=>Q true H
theorem pts_nil:PTs X [] IY:=λ_ _ _ H _ I h=>wpAny_tests_nil ⟨H,I,h⟩
theorem EH(hc:PT X c t):PTs X [c] t:=λpins s σ H Q I h=>wpAny_tests_one (hc pins s σ H Q I h)
theorem Ke{Y:Cx}{tg iter elt:Expr}{ifs:List Expr}{scope:Scope}{pos:Pos}{g:TG}{te:TE}{tt:TT}{J:It}{fp:List Addr}{it D:Addr}{tn:Nat->Heap->Prop}{R:Result->Shared->Prop}
  {W:Nat->Nat->St->List V->Hp->Prop} {Z:List V->Hp->Prop} {s:Shared} {σ:St} {H:Hp} {m n0:Nat}
  (T:Turn Y.prog Y.w Y.K tg J fp it tn) (hc:Y.calm=true) (hg:PG Y tg g) (ht:PTs Y ifs tt) (he:PE Y elt te) (hx:∀ e s,Y.xe e s->False)
  (stat:∀ ob H',(∀ b∈fp,H' b=none)->∀ b∈fp,sT Y [(D,ob)] H' b) (hDs:Y.s₀.heap.objs.size<=D) (hDc:∀ x c,Y.env.cells.lookup x=some c->c≠D) (hDp:∀ p∈Y.pn,p.1≠D)
  (turn:∀ k m τ ys H,W k m τ ys H->(J.stop k H/\Z ys H)\/(J.go k H/\ys.length<sizeLine/\∀ x H',J.yld k H x H'->g x τ H' λτ2 H2=>tt τ2 H2 λb H3 =>
   if b=true then te τ2 H3 λv H4=>∃ m',m'<m/\W (k+1) m' τ2 (ys++[v]) H4 else ∃ m',m'<m/\W (k+1) m' τ2 ys H3))
  (out:∀(τ:St) (H':Hp) (s':Shared) (ys:List V) (its:List Value) (n:Nat),Inv Y [(D,vO its n)] τ H' s'->Vals ys its->ys.length<=sizeLine->Z ys H'->R (.ok .next) s')
  (I:Inv Y [(D,vO [] n0)] σ H s) (st:tn 0 s.heap) (fr:∀ b∈fp,H b=none) (w0:W 0 m σ [] H) :
  codeAny (model Y.prog Y.w) Y.A (.compLoop (.ListComp elt [⟨tg,iter,ifs,0⟩] scope pos) 0 (.ref it) (.ref D) Y.env) R s:=by
 refine codeAny_loop rfl (λm s'=>∃ k τ H' ys its n,Inv Y [(D,vO its n)] τ H' s'/\tn k s'.heap/\(∀ b∈fp,H' b=none)/\Vals ys its/\ys.length<=sizeLine/\W k m τ ys H') (λm1 s1 h1=>?_) m ⟨0,σ,H,[],[],n0,I,st,fr,.nil,aC _,w0⟩;obtain⟨k,τ,H1,ys,its,n,I1,st1,fr1,rv,hz,w1⟩:=h1;have no:∀{E:Value->Shared->Prop} {α:Type} {c:Sem α} {Q:α->Shared->Prop} {s:Shared},wpAny (model Y.prog Y.w) Y.A c Q Y.xe s->wpAny (model Y.prog Y.w) Y.A c Q E s:=λ{E α c Q s} h=>wpAny_mono h (λ_ _ q=>q) λe s' q=>(hx e s' q).elim;show wpAny _ Y.A ((compTurn (.ListComp elt [⟨tg,iter,ifs,0⟩] scope pos) 0 (.ref it) (.ref D) Y.env).onRaise _) _ _ s1;refine wpAny_noted ?_;rw[compTurn_list];refine ηB (wpAny_standAt (ηB ?_));rcases turn k m1 τ ys H1 w1 with⟨stop,z⟩|⟨go,hlt,step⟩
 ·refine qZ (T.done Y rfl rfl rfl hc k _ s1 τ H1 _ I1 (stat _ _ fr1) st1 stop) λr s2 ⟨hr,I2⟩=>?_;subst hr;exact ηP (out τ H1 s2 ys its n I2 rv hz z)
 ·refine qZ (T.item Y rfl rfl rfl hc k _ s1 τ H1 _ I1 (stat _ _ fr1) st1 go) λr s2 ⟨u,hr,h2⟩=>?_;subst hr;refine ηB (qZ h2 λ_ s3 ⟨x,H3,I3,r3,y3,st3,fr3⟩=>?_);have I3':=I3.pinned (stat _ _ fr3) (T.obj _ _ st3);refine ηB (no (qZ (hg _ s3 τ H3 x u _ I3' r3 (step x H3 y3)) λ_ s4 ⟨τ4,H4,I4,q4⟩=>?_));refine ηB (no (qZ (ht _ s4 τ4 H4 _ I4 q4) λok s5 ⟨H5,I5,q5⟩=>?_));have frs5:∀{H':Hp} {s':Shared} {τ':St},Inv Y ([(D,vO its n)]++vJ fp s3.heap) τ' H' s'->tn (k+1) s'.heap/\∀ b∈fp,H' b=none:=λ{H' s' τ'} I'=>by
   refine⟨T.keep _ _ _ st3 λb hb o e=>(I'.pin (b,o) (aU _ (aU _ (sM hb e)))).1,λb hb=>?_⟩;obtain⟨o,e,d⟩:=T.obj _ _ st3 b hb;exact (I'.pin (b,o) (aU _ (aU _ (sM hb e)))).2.1
  cases ok with
  | false =>
   have q5':∃ m',m'<m1/\W (k+1) m' τ4 ys H5:=q5;obtain⟨m',hm,w5⟩:=q5';obtain⟨a1,a2⟩:=frs5 I5;exact ηP ⟨rfl,m',hm,k+1,τ4,H5,ys,its,n,I5.unpinned,a1,a2,rv,hz,w5⟩
  | true =>
   have q5':te τ4 H5 λv H4=>∃ m',m'<m1/\W (k+1) m' τ4 (ys++[v]) H4:=q5;refine ηB (ηB (no (qZ (he _ s5 τ4 H5 _ I5 q5') λv s6 ⟨y,H6,I6,r6,m',hm,w6⟩=>?_)));obtain⟨a1,a2⟩:=frs5 I6;have I7:=I6.unpinned;obtain⟨eD,nD,neD,nfD,_⟩:=I7.pin (D,vO its n) (aU _ aF);have hlen:=rv.length;have eD':s6.heap.get? D=some { cls:=.type "list",data:=.seq its.toArray n }:=eD;refine ηB (call_meets F.slot_list_append ⟨_,eD',rfl⟩ F.entry_list_append (F.args_list_append_2 _ _) (PySem.list_append D its.toArray n v (by rw[aj];omega)) ⟨eD',?_⟩);have qD:=PySem.IsL.update eD' (·.push v);have I8:Inv Y [] τ4 H6 s6:=I7.pins_of λp hp=>absurd hp aK;have I9:Inv Y [] τ4 H6 { s6 with heap:=s6.heap.update D (Obj.mapSeq (·.push v)) }:=I8.turned (t':=s6.toks) (λb o hb e=>(Heap.get?_update_other s6.heap (Obj.mapSeq (·.push v)) (Ne.symm hb)).trans e) nD neD (.inr hDs) hDc λp hp=>hDp p (by simpa using hp);have ep:its.toArray.push v=(its++[v]).toArray:=by simp
   rw[ep] at qD;obtain⟨n2,qD⟩:∃ n2,(s6.heap.update D (Obj.mapSeq (·.push v))).get? D=some (vO (its++[v]) n2):=⟨_,qD⟩;have I10:Inv Y [(D,vO (its++[v]) n2)] τ4 H6 { s6 with heap:=s6.heap.update D (Obj.mapSeq (·.push v)) }:=I9.pins_of λp hp=>by
    have e:p=(D,vO (its++[v]) n2):=by simpa using hp
    subst e;exact⟨qD,nD,neD,nfD,λv z=>by have z':Data.seq _ _=Data.cell v:=z;cases z'⟩
   refine ηP (ηP ⟨rfl,m',hm,k+1,τ4,H6,ys++[y],its++[v],_,I10,?_,a2,rv.append (.cons r6 .nil),?_,w6⟩)
   ·refine T.keep _ _ _ a1 λb hb o e=>(Heap.get?_update_other s6.heap (Obj.mapSeq (·.push v)) ?_).trans e;have f5:=(stat (vO its n) H6 a2 b hb).2.2.2.2.2;exact f5 (D,vO its n) (aU _ aF)
   ·rw[am,d9];omega
theorem vY(h:∀ y∈scope.names,y.2 = .free->∃ c,env.cells.lookup y.1=some c):closureFor scope env=pure (rX env.cells scope.names []):=by
 have q:=ud (env:=env) (acc:=[]) h;unfold closureFor;show (forIn scope.names [] _ >>= λr=>pure r)=_;refine Eq.trans (congrArg (· >>= λr=>pure r) (Eq.trans ?_ q)) (by simp);refine congrArg (forIn scope.names []) ?_;funext x r;obtain⟨n,k⟩:=x;first
  | rfl
  | (dsimp only;split <;> simp)
def A7(J:It)(g:TG)(tt:TT)(te:TE)(σ:St)(Q:VK)(H1:Hp):Prop:=∃ W:Nat->Nat->St->List V->Hp->Prop,(∃ m,W 0 m σ [] H1) /\
 ∀ k m τ ys H,W k m τ ys H->(J.stop k H/\∀ D,H D=none->Q (.ref D) (rg H D (.lst ys)))\/(J.go k H/\ys.length<sizeLine/\∀ x H',J.yld k H x H'->g x τ H' λτ2 H2=>tt τ2 H2 λb H3 =>
   if b=true then te τ2 H3 λv H4=>∃ m',m'<m/\W (k+1) m' τ2 (ys++[v]) H4 else ∃ m',m'<m/\W (k+1) m' τ2 ys H3)
def FV(wi:TI)(hide:List Nat)(g:TG)(tt:TT)(te:TE):TE:=λσ H Q=>wi σ H λJ H1=>A7 J g tt te (uu hide σ) Q H1
theorem D8{X:Cx}{pins:List (Addr×Obj)}{σ:St}{H:Hp}{s:Shared}{elt tg iter:Expr}{ifs:List Expr}{scope:Scope}{pos:Pos}{hide:List Nat}{g:TG}{te:TE}{tt:TT}{J:It}{fp:List Addr}{it:Addr}{tn:Nat->Heap->Prop}{RR:Value->Addr->Result->Shared->Prop}{Q:VK}{E:Value->Shared->Prop}
  (hc:X.calm=true) (S:CompS X.N X.env.scope scope hide)
  (hg:∀ s2 H2 fp pins C,PG (sU X scope s2 H2 fp pins C) tg g) (ht:∀ s2 H2 fp pins C,PTs (sU X scope s2 H2 fp pins C) ifs tt) (he:∀ s2 H2 fp pins C,PE (sU X scope s2 H2 fp pins C) elt te)
  (I:Inv X pins σ H s) (T:Turn X.prog X.w X.K tg J fp it tn) (st:tn 0 s.heap) (hf:∀ b∈fp,sT X pins H b)
  (h:∃ W:Nat->Nat->St->List V->Hp->Prop,(∃ m,W 0 m (uu hide σ) [] H) /\
   ∀ k m τ ys H,W k m τ ys H->(J.stop k H/\∀ D,H D=none->Q (.ref D) (rg H D (.lst ys)))\/(J.go k H/\ys.length<sizeLine/\∀ x H',J.yld k H x H'->g x τ H' λτ2 H2=>tt τ2 H2 λb H3 =>
    if b=true then te τ2 H3 λv H4=>∃ m',m'<m/\W (k+1) m' τ2 (ys++[v]) H4 else ∃ m',m'<m/\W (k+1) m' τ2 ys H3))
  (hRR:∀ D C s' ys H',Inv X pins σ (rg H' D (.lst ys)) s'->sT X pins (rg H' D (.lst ys)) C->(∃ m,s'.heap.Ns C m)->Q (.ref D) (rg H' D (.lst ys))->RR (.ref D) C (.ok .next) s') :
  wpAny (model X.prog X.w) X.A (newList []) (λacc s3=>wpAny (model X.prog X.w) X.A (newFunctionEnv scope X.env.globals (rX X.env.cells scope.names []) [] X.env.qual none .none (some X.env)) (λcenv s4 =>
   codeAny (model X.prog X.w) X.A (.compStart (.ListComp elt [⟨tg,iter,ifs,0⟩] scope pos) 0 (.ref it) acc { cenv with scope:=relabel scope X.env }) (RR acc cenv.locals) s4) E s3) E s:=by
 obtain⟨W,⟨m0,w0⟩,turn⟩:=h;refine wpAny_newList (Fd ?_) (by simp);dsimp only;generalize hH2:s.heap.push { cls:=.type "list",data:=.seq ([]:List Value).toArray }=H2;have hC:H2.objs.size=s.heap.objs.size+1:=by rw[← hH2,Heap.size_push]
 have k2:∀ b o,H2.get? b=some o->(pushCells (H2.push { cls:=.type "dict",data:=.dict #[] }) scope.names).get? b=some o:=λb o e=>pushCells_keeps _ _ b o (ηH _ e);have hcl:∀ p∈cellsFrom (H2.objs.size+1) scope.names (rX X.env.cells scope.names []),p∈rX X.env.cells scope.names []\/(pushCells (H2.push { cls:=.type "dict",data:=.dict #[] }) scope.names).IsCell p.2 none:=λp hp=>by
  rw[← Heap.size_push H2 { cls:=.type "dict",data:=.dict #[] }] at hp;exact xR hp
 have hns₁:(pushCells (H2.push { cls:=.type "dict",data:=.dict #[] }) scope.names).Ns H2.objs.size λ_=>none:=(Heap.Ns.new H2 (.type "dict")).keeps (pushCells_keeps _ _);generalize pushCells (H2.push { cls:=.type "dict",data:=.dict #[] }) scope.names=h₁ at k2 hcl hns₁ ⊢;have k1:∀ b o,s.heap.get? b=some o->h₁.get? b=some o:=λb o e=>k2 b o (hH2 ▸ ηH _ e);have hDC:s.heap.objs.size≠H2.objs.size:=by rw[hC];exact aO (fi _)
 have eD:h₁.get? s.heap.objs.size=some (vO [] 0):=k2 _ _ (hH2 ▸ ηG _ rfl);have hfo:∀ b∈fp,∃ o,s.heap.get? b=some o:=λb hb=>let ⟨o,e,_⟩:=T.obj _ _ st b hb;⟨o,e⟩;have hle:s.heap.objs.size<=H2.objs.size:=by rw[hC];exact gE _
 have I1:=Ly (tk:=s.toks) S I hf hfo hle (af _) hDC k1 hcl hns₁ eD (λv z=>by have z':Data.seq _ _=Data.cell v:=z;cases z');have sub:∀ x c,(cellsFrom (H2.objs.size+1) scope.names (rX X.env.cells scope.names [])).lookup x=some c->X.env.cells.lookup x=some c\/H2.objs.size+1<=c:=λx c e=>(vV (λy hy e=>I.ok.has y.1 (S.free y hy e)) (rD e)).imp (·.1) (·.1);have st1:tn 0 h₁:=T.keep _ _ _ st λb _ o e=>k1 b o e;have lp:codeAny (model X.prog X.w) X.A (.compLoop (.ListComp elt [⟨tg,iter,ifs,0⟩] scope pos) 0 (.ref it) (.ref s.heap.objs.size) (compEnvC scope (cellsFrom (H2.objs.size+1) scope.names (rX X.env.cells scope.names [])) H2.objs.size X.env)) (RR (.ref s.heap.objs.size) H2.objs.size)
   { s with heap:=h₁ }:=by
  refine Ke (Y:=sU X scope s H fp pins H2.objs.size) (Z:=λys H=>∀ D,H D=none->Q (.ref D) (rg H D (.lst ys))) T hc (hg _ _ _ _ _) (ht _ _ _ _ _) (he _ _ _ _ _) (λ_ _ z=>z) (λob H' hn b hb=>?_) (af _) (λx c e z=>?_) (λp hp z=>?_) turn (λτ H' s' ys its n J rv hz q=>?_) I1 st1 (λb hb=>(hf b hb).1) w0
  ·obtain⟨f0,f1,f2,f3,f4,f5⟩:=hf b hb;obtain⟨o,e⟩:=hfo b hb;have lb:=ηL e;refine⟨hn b hb,aO (aE lb hle),λz=>?_,.inl hb,λx c e=>(sub x c e).elim (f4 x c) λz=>dE (aE lb (aZ hle (cK z))),λp hp=>?_⟩
   ·rcases ao.mp (I.stkSub b z) with q|q
    ·exact f1 q
    ·exact f2 q
   ·rcases bE.mp hp with z|z
    ·exact f5 p z
    ·have e:p=(s.heap.objs.size,ob):=by simpa using z
     subst e;exact dE lb
  ·rcases sub x c e with w|w
   ·obtain⟨v,o,ho,_⟩:=I.cell x c w;exact absurd (ηL ho) (by rw[z];exact br _)
   ·rw[z,hC] at w;exact absurd (cK w) (Nat.not_succ_le_self _)
  ·exact absurd (ηL (I.pin p hp).1) (by rw[z];exact br _)
  ·obtain⟨_,nD,_⟩:=J.pin _ (aU _ aF);have nC:H' H2.objs.size=none:=J.free;refine hRR _ _ s' ys H' (Lx I hf (af _) J aF rv hz) (I.fpOk hle ?_) ?_ (q _ nD)
   ·rw[qJ (Ne.symm hDC)];exact nC
   ·obtain⟨m,hm,_⟩:=J.loc;exact⟨m,hm⟩
 exact codeAny_compStart_list lp (T.self X.A 0 _ _ _ st1 lp)
section
variable{X:Cx}{elt tg iter:Expr}{ifs:List Expr}{scope:Scope}{pos:Pos}{hide:List Nat}{wi:TI}{g:TG}{te:TE}{tt:TT}
theorem xB(hc:X.calm=true)(S:CompS X.N X.env.scope scope hide)(hi:PI X tg iter wi)
  (hg:∀ s2 H2 fp pins C,PG (sU X scope s2 H2 fp pins C) tg g) (ht:∀ s2 H2 fp pins C,PTs (sU X scope s2 H2 fp pins C) ifs tt) (he:∀ s2 H2 fp pins C,PE (sU X scope s2 H2 fp pins C) elt te)
  (hs:∀ x,foldedSetIterable iter X.env x=pure x:=by intro _;rfl):PE X (.ListComp elt [⟨tg,iter,ifs,0⟩] scope pos) (FV wi hide g tt te):=by
 intro pins s σ H Q I h;rw[eval_ListComp];refine wpAny_comprehension_free (use:=none) rfl hs (vY λy hy e=>I.ok.has y.1 (S.free y hy e)) S.kind S.loc (qZ (hi pins s σ H _ I h) λv s1 h1=>qZ h1 λitv s2 h2=>?_);obtain⟨it,fp,tn,J,H2,e,I2,T,st2,f2,q2⟩:=h2;subst e;refine D8 (RR:=λacc C=>compPost (model X.prog X.w) X.A X.xe none (EP X pins σ Q) acc C) hc S hg ht he I2 T st2 f2 q2 λD C s' ys H' I' fC hN q=>?_;obtain⟨m,hm⟩:=hN;obtain⟨f0,f1,f2,f3,f4,f5⟩:=fC;refine⟨m,hm,λh' sb=>⟨.ref D,_,?_,rfl,q⟩⟩;exact I'.turned (t':=s'.toks) (λb o hb e=>(sb.2 b hb).trans e) f0 f1 f3 f4 f5
theorem EI(hc:X.calm=true)(hN:X.N.Nodup)(hy:X.N[i]? = some y)(hl:yW X.env.scope y)(S:CompS X.N X.env.scope scope hide)(hi:PI X tg iter wi)
  (hg:∀ s2 H2 fp pins C,PG (sU X scope s2 H2 fp pins C) tg g) (ht:∀ s2 H2 fp pins C,PTs (sU X scope s2 H2 fp pins C) ifs tt) (he:∀ s2 H2 fp pins C,PE (sU X scope s2 H2 fp pins C) elt te)
  (hs:∀ x,foldedSetIterable iter X.env x=pure x:=by intro _;rfl)
  (hsw:swapsWith (.ListComp elt [⟨tg,iter,ifs,0⟩] scope pos) (some (.Name y py)) spos.line X.env=pure true:=by rfl)
  (hf:X.fn y=true\/X.env.scope.names.lookup y=some .local:=by first|exact .inl rfl|exact .inr rfl|assumption) :
  PS X (.Assign [.Name y py] (.ListComp elt [⟨tg,iter,ifs,0⟩] scope pos) spos) (λD σ H=>FV wi hide g tt te σ H λv H1=>D.nx (σ.set i (some v)) H1):=by
 intro pins s σ H D I h;rw[exec_Assign_Name_used _ _ _ _ hsw];refine ηB (wpAny_standAt (ηB ?_));show wpAny _ X.A (do let _ ← comprehension (.ListComp elt [⟨tg,iter,ifs,0⟩] scope pos) scope X.env _ (newList []) false (eval iter X.env) (some (assign (.Name y py) X.env))) _ _ s;refine ηB (qZ (wpAny_comprehension_free (use:=some (assign (.Name y py) X.env)) (Q:=λ_ s'=>SP X pins D .next s') rfl hs (vY λy hy e=>I.ok.has y.1 (S.free y hy e)) S.kind S.loc
  (qZ (hi pins s σ H _ I h) λv s1 h1=>qZ h1 λitv s2 h2=>?_)) (λ_ s' hq=>ηP (ηP hq)))
 obtain⟨it,fp,tn,J,H2,e,I2,T,st2,f2,q2⟩:=h2;subst e;refine D8 (Q:=λv H1=>D.nx (σ.set i (some v)) H1) (RR:=λacc C=>compPost (model X.prog X.w) X.A X.xe (some (assign (.Name y py) X.env)) (λ_ s'=>SP X pins D .next s') acc C) hc S hg ht he I2 T st2 f2 q2 λA C s' ys H' I' fC hNs q=>?_;obtain⟨m,hm⟩:=hNs;obtain⟨f0,f1,f2,f3,f4,f5⟩:=fC;show wpAny _ X.A (assign (.Name y py) X.env (.ref A)) _ _ s';refine wpAny_assign_Name (wy I' hN hy hl (v:=.ref A) rfl (λs'' I'' hch=>?_) hf);obtain⟨a,sb,ha⟩:=hch;have nC:C≠a:=by
  rcases ha with z|z
  ·rw[z];exact f1
  ·exact Ne.symm (f4 _ _ z)
 refine⟨m,hm.sameBut sb nC,λh3 sb3=>⟨_,_,?_,q⟩⟩;exact I''.turned (t':=s''.toks) (λb o hb e=>(sb3.2 b hb).trans e) f0 f1 f3 f4 f5
end
def Lt2(n:Nat)(i:Int):Prop:=i.natAbs<2^n
theorem Lt2.mono(h:Lt2 n i)(l:n<=m):Lt2 m i:=aE h (dr (by decide) l)
theorem Lt2.mul(h:Lt2 n i)(l:Lt2 m j):Lt2 (n+m) (i*j):=by
 unfold Lt2;rw[bF,gD];exact Nat.mul_lt_mul'' h l
theorem Lt2.add(h:Lt2 n i)(l:Lt2 n j):Lt2 (n+1) (i+j):=by
 unfold Lt2 at *;rw[Nat.pow_succ];omega
theorem Lt2.sub(h:Lt2 n i)(l:Lt2 n j):Lt2 (n+1) (i-j):=by
 unfold Lt2 at *;rw[Nat.pow_succ];omega
theorem Lt2.neg(h:Lt2 n i):Lt2 n (-i):=by
 unfold Lt2 at *;rw[Int.natAbs_neg];exact h
theorem Lt2.of(b:Nat)(h:i.natAbs<=b)(l:b<2^n):Lt2 n i:=dG h l
theorem Lt2.le(h:Lt2 n i)(l:j.natAbs<=i.natAbs):Lt2 n j:=dG l h
def CMulB(i j:Int):Prop:=∃ n m,Lt2 n i/\Lt2 m j/\n+m<=100000000
theorem CMulB.ok(h:CMulB i j):IntMulOk i j:=by
 obtain⟨n,m,h1,h2,h3⟩:=h;have a:=PyProof.Rows.intBits_le h1;have b:=PyProof.Rows.intBits_le h2;unfold IntMulOk;intro z;simp only[aX,decide_eq_true_eq] at z;have z2:((Builtin.Int.intBits i:Int)+(Builtin.Int.intBits j:Int)) > ((2^27:Nat):Int):=of_decide_eq_true z.2;have e:(2^27:Nat)=134217728:=by decide
 rw[e] at z2;omega
def u9(i j:Int):Prop:=j≠0/\∃ n,Lt2 n j/\n<=100000000
theorem Inv.pyl{X:Cx}{pins:List (Addr×Obj)}{σ:St}{H:Hp}{s:Shared}{k:Nat}(I:Inv X pins σ H s)(hr:Room k X.A):PySem.PylongRoom (model X.prog X.w) X.A s:=by
 obtain⟨e,l,h1,h2,h3,h4,h5⟩:=I.ok.rn;exact PySem.PylongRoom.of I.nolimit (by have:=hr.dp;show X.A.depth+100<_;omega) (PySem.SeerAt.of (I.ok.sr.1.keeps I.bk) I.ok.sr.2 (by rw[I.ok.frames,h1]) h2 h3 h4 h5)
theorem L4{X:Cx}{f:Value->Value->Sem Value}{C:Int->Int->Prop}{g:Int->Int->Int}{k:Nat}(hr:Room k X.A)
  (rule:∀(i j:Int) (t u:Tok) (s:Shared) (Q:Value->Shared->Prop) (E:Value->Shared->Prop),PySem.PylongRoom (model X.prog X.w) X.A s->C i j->Q (.int (g i j) s.toks) { s with toks:=s.toks+1 }->wpAny (model X.prog X.w) X.A (f (.int i t) (.int j u)) Q E s) :
  OpR X f (rI C λi j=>.int (g i j)):=by
 intro pins s σ H x y v u Q I rx ry h;obtain⟨i,j,rfl,rfl,hc,q⟩:=h;obtain⟨t,rfl⟩:=rx;obtain⟨t',rfl⟩:=ry;exact rule i j t t' s _ _ (Inv.pyl I hr) hc ⟨.int (g i j),H,I.tok _,⟨_,rfl⟩,q⟩
section
variable{X:Cx}
theorem EY:OpR X (binaryOp .Mult) (rI CMulB λi j=>.int (i*j)):=Gc λ_ _ _ _ _ _ _ hc q=>mul_int q hc.ok
theorem yr{k:Nat}(hr:Room k X.A):OpR X (binaryOp .FloorDiv) (rI u9 λi j=>.int (i.fdiv j)):=L4 hr λ_ _ _ _ _ _ _ hp hc q=>floordiv_int hc.1 q (.inr hp)
theorem Dq:OpR X (inplaceOp .Mult) (rI CMulB λi j=>.int (i*j)):=Gc λ_ _ _ _ _ _ _ hc q=>imul_int q hc.ok
theorem BL(hr:Room k X.A):OpR X (inplaceOp .FloorDiv) (rI u9 λi j=>.int (i.fdiv j)):=L4 hr λ_ _ _ _ _ _ _ hp hc q=>ifloordiv_int hc.1 q (.inr hp)
end
inductive DV where
 | int (i:Int)|str (x:Str)|non|bl (b:Bool)|tup (xs:List DV)|lst (xs:List DV)
mutual
def Rep(K:Frag)(H:Hp):DV->V->Prop
 | .int i,v=>v = .int i
 | .str x,v=>v = .str x
 | .non,v=>v = .non
 | .bl b,v=>v = .bl b
 | .tup ds,v=>∃ a vs,v = .ref a/\SqT K H a vs/\Reps K H ds vs
 | .lst ds,v=>∃ a vs,v = .ref a/\SqL K H a vs/\Reps K H ds vs
def Reps(K:Frag)(H:Hp):List DV->List V->Prop
 | [],vs=>vs=[]
 | d::ds,vs=>∃ v r,vs=v::r/\Rep K H d v/\Reps K H ds r
end
mutual
def DV.pl:DV->Bool
 | .int _=>true | .str _=>true | .non=>true | .bl _=>false
 | .tup ds=>DV.pls ds
 | .lst ds=>DV.pls ds
def DV.pls:List DV->Bool
 | []=>true
 | d::ds=>DV.pl d && DV.pls ds
end
mutual
def DV.dp:DV->Nat
 | .tup ds=>DV.dps ds+1
 | .lst ds=>DV.dps ds+1
 | _=>0
def DV.dps:List DV->Nat
 | []=>0
 | d::ds=>max (DV.dp d) (DV.dps ds)
end
theorem SqT.same{K:Frag}{H H':Hp}{a:Addr}{xs:List V}(e:Same H H')(h:SqT K H a xs):SqT K H' a xs:=by
 rcases h with (h|⟨o,h⟩)|h
 ·exact .inl (.inl (e _ _ h))
 ·exact .inl (.inr ⟨o,e _ _ h⟩)
 ·exact .inr h
theorem Reps.length{K:Frag}{H:Hp}:∀{ds:List DV} {vs:List V},Reps K H ds vs->ds.length=vs.length
 | [],vs,h=>by
  have h':vs=[]:=by unfold Reps at h;exact h
  rw[h'];rfl
 | d::ds,vs,h=>by
  unfold Reps at h;obtain⟨v,r,e,_,h'⟩:=h;rw[e,bt,bt,Reps.length h']
mutual
theorem Rep.same{K:Frag}{H H':Hp}(e:Same H H'):∀{d:DV} {v:V},Rep K H d v->Rep K H' d v
 | .int i,v,h=>by unfold Rep at *;exact h
 | .str i,v,h=>by unfold Rep at *;exact h
 | .non,v,h=>by unfold Rep at *;exact h
 | .bl i,v,h=>by unfold Rep at *;exact h
 | .tup ds,v,h=>by
  unfold Rep at *;obtain⟨a,vs,h1,h2,h3⟩:=h;exact⟨a,vs,h1,h2.same e,Reps.same e h3⟩
 | .lst ds,v,h=>by
  unfold Rep at *;obtain⟨a,vs,h1,h2,h3⟩:=h;exact⟨a,vs,h1,e.seq h2,Reps.same e h3⟩
theorem Reps.same{K:Frag}{H H':Hp}(e:Same H H'):∀{ds:List DV} {vs:List V},Reps K H ds vs->Reps K H' ds vs
 | [],v,h=>by unfold Reps at *;exact h
 | d::ds,vs,h=>by
  unfold Reps at *;obtain⟨v,r,h1,h2,h3⟩:=h;exact⟨v,r,h1,Rep.same e h2,Reps.same e h3⟩
end
section
variable{X:Cx}{pins:List (Addr×Obj)}{σ:St}{H:Hp}{s:Shared}
mutual
theorem Rep.inj(I:Inv X pins σ H s):∀{d d':DV} {v:V},Rep X.K H d v->Rep X.K H d' v->d=d'
 | .int i,d',v,h,h'=>by
  unfold Rep at h;subst h;cases d' <;> unfold Rep at h' <;> first|(cases h';done)|(cases h';rfl)|(obtain⟨_,_,e,_⟩:=h';cases e)
 | .str i,d',v,h,h'=>by
  unfold Rep at h;subst h;cases d' <;> unfold Rep at h' <;> first|(cases h';done)|(cases h';rfl)|(obtain⟨_,_,e,_⟩:=h';cases e)
 | .non,d',v,h,h'=>by
  unfold Rep at h;subst h;cases d' <;> unfold Rep at h' <;> first|(cases h';done)|(cases h';rfl)|rfl|(obtain⟨_,_,e,_⟩:=h';cases e)
 | .bl i,d',v,h,h'=>by
  unfold Rep at h;subst h;cases d' <;> unfold Rep at h' <;> first|(cases h';done)|(cases h';rfl)|(obtain⟨_,_,e,_⟩:=h';cases e)
 | .tup ds,d',v,h,h'=>by
  unfold Rep at h;obtain⟨a,vs,rfl,h2,h3⟩:=h;cases d' with
  | tup ds' =>
   unfold Rep at h';obtain⟨a',vs',e,h2',h3'⟩:=h';cases e;have:=I.tuple_inj h2 h2';subst this;rw[Reps.inj I h3 h3']
  | lst ds' =>
   unfold Rep at h';obtain⟨a',vs',e,h2',h3'⟩:=h';cases e;obtain⟨_,_,p,_⟩:=I.tuple h2;obtain⟨_,_,p',_⟩:=I.list h2';exact absurd rfl (SeqAt.ne_of_list_tuple p'.isList p)
  | _=>unfold Rep at h';cases h'
 | .lst ds,d',v,h,h'=>by
  unfold Rep at h;obtain⟨a,vs,rfl,h2,h3⟩:=h;cases d' with
  | lst ds' =>
   unfold Rep at h';obtain⟨a',vs',e,h2',h3'⟩:=h';cases e;have:=I.list_inj h2 h2';subst this;rw[Reps.inj I h3 h3']
  | tup ds' =>
   unfold Rep at h';obtain⟨a',vs',e,h2',h3'⟩:=h';cases e;obtain⟨_,_,p,_⟩:=I.tuple h2';obtain⟨_,_,p',_⟩:=I.list h2;exact absurd rfl (SeqAt.ne_of_list_tuple p'.isList p)
  | _=>unfold Rep at h';cases h'
theorem Reps.inj(I:Inv X pins σ H s):∀{ds ds':List DV} {vs:List V},Reps X.K H ds vs->Reps X.K H ds' vs->ds=ds'
 | [],ds',vs,h,h'=>by
  unfold Reps at h;subst h;cases ds' with
  | nil=>rfl
  | cons d r=>unfold Reps at h';obtain⟨_,_,e,_⟩:=h';cases e
 | d::ds,ds',vs,h,h'=>by
  unfold Reps at h;obtain⟨v,r,e,h1,h2⟩:=h;cases ds' with
  | nil=>unfold Reps at h';rw[h'] at e;cases e
  | cons d' r' =>
   unfold Reps at h';obtain⟨v',r2,e',h1',h2'⟩:=h';rw[e] at e';cases e';rw[Rep.inj I h1 h1',Reps.inj I h2 h2']
end
end
theorem all_cons:(List.range (n+1)).all e=(e 0 && (List.range n).all λj=>e (j+1)):=by
 rw[List.range_succ_eq_map,eO,gu];rfl
theorem xF(h:n=m):((List.range (min n m)).all e && n == m)=(List.range n).all e:=by
 subst h;rw[Nat.min_self];simp
section
variable{X:Cx}{pins:List (Addr×Obj)}{σ:St}{H:Hp}{s:Shared}
mutual
theorem L9(I:Inv X pins σ H s):∀(d d':DV) (A:Around) {x y:V} {u v:Value},Rep X.K H d x->Rep X.K H d' y->RelV x u->RelV y v->d.pl=true->d'.pl=true->A.units+d.dp+1<cLine ->
  ∃ b,SeqAt.EqAt A s u v b/\(b=true↔d=d')
 | .bl _,_,_,_,_,_,_,_,_,_,_,p,_,_=>by unfold DV.pl at p;cases p
 | _,.bl _,_,_,_,_,_,_,_,_,_,_,p,_=>by unfold DV.pl at p;cases p
 | .int i,d',A,x,y,u,v,h,h',rx,ry,_,_,hu=>by
  have hu:A.units<cLine:=by omega
  unfold Rep at h;subst h;obtain⟨t,rfl⟩:=rx;cases d' with
  | bl b=>contradiction
  | int j =>
   unfold Rep at h';subst h';obtain⟨t',rfl⟩:=ry;exact⟨_,SeqAt.EqAt.int_int _ _ _ _,by rw[beq_iff_eq];exact⟨λe=>by rw[e],λe=>by cases e;rfl⟩⟩
  | str z =>
   unfold Rep at h';subst h';obtain⟨t',rfl⟩:=ry;exact⟨_,SeqAt.EqAt.int_str _ _ _ _,by simp⟩
  | non =>
   unfold Rep at h';subst h';cases ry;exact⟨_,SeqAt.EqAt.int_none _ _,by simp⟩
  | tup ds' =>
   unfold Rep at h';obtain⟨a,vs,rfl,h2,_⟩:=h';cases ry;obtain⟨_,_,p,_⟩:=I.tuple h2;exact⟨_,SeqAt.EqAt.int_tuple _ _ p hu,by simp⟩
  | lst ds' =>
   unfold Rep at h';obtain⟨a,vs,rfl,h2,_⟩:=h';cases ry;obtain⟨_,_,p,_⟩:=I.list h2;exact⟨_,SeqAt.EqAt.int_list _ _ p.isList hu,by simp⟩
 | .str i,d',A,x,y,u,v,h,h',rx,ry,_,_,hu=>by
  have hu:A.units<cLine:=by omega
  unfold Rep at h;subst h;obtain⟨t,rfl⟩:=rx;cases d' with
  | bl b=>contradiction
  | int j =>
   unfold Rep at h';subst h';obtain⟨t',rfl⟩:=ry;exact⟨_,SeqAt.EqAt.str_int _ _ _ _,by simp⟩
  | str z =>
   unfold Rep at h';subst h';obtain⟨t',rfl⟩:=ry;exact⟨_,SeqAt.EqAt.str_str _ _ _ _,by rw[beq_iff_eq];exact⟨λe=>by rw[e],λe=>by cases e;rfl⟩⟩
  | non =>
   unfold Rep at h';subst h';cases ry;exact⟨_,SeqAt.EqAt.str_none _ _,by simp⟩
  | tup ds' =>
   unfold Rep at h';obtain⟨a,vs,rfl,h2,_⟩:=h';cases ry;obtain⟨_,_,p,_⟩:=I.tuple h2;exact⟨_,SeqAt.EqAt.str_tuple _ _ p hu,by simp⟩
  | lst ds' =>
   unfold Rep at h';obtain⟨a,vs,rfl,h2,_⟩:=h';cases ry;obtain⟨_,_,p,_⟩:=I.list h2;exact⟨_,SeqAt.EqAt.str_list _ _ p.isList hu,by simp⟩
 | .non,d',A,x,y,u,v,h,h',rx,ry,_,_,hu=>by
  have hu:A.units<cLine:=by omega
  unfold Rep at h;subst h;cases rx;cases d' with
  | bl b=>contradiction
  | int j =>
   unfold Rep at h';subst h';obtain⟨t',rfl⟩:=ry;exact⟨_,SeqAt.EqAt.none_int _ _,by simp⟩
  | str z =>
   unfold Rep at h';subst h';obtain⟨t',rfl⟩:=ry;exact⟨_,SeqAt.EqAt.none_str _ _,by simp⟩
  | non =>
   unfold Rep at h';subst h';cases ry;exact⟨_,SeqAt.EqAt.same _,by simp⟩
  | tup ds' =>
   unfold Rep at h';obtain⟨a,vs,rfl,h2,_⟩:=h';cases ry;obtain⟨_,_,p,_⟩:=I.tuple h2;exact⟨_,SeqAt.EqAt.none_tuple p hu,by simp⟩
  | lst ds' =>
   unfold Rep at h';obtain⟨a,vs,rfl,h2,_⟩:=h';cases ry;obtain⟨_,_,p,_⟩:=I.list h2;exact⟨_,SeqAt.EqAt.none_list p.isList hu,by simp⟩
 | .tup ds,d',A,x,y,u,v,h,h',rx,ry,pp,pp',hu=>by
  have hu0:A.units<cLine:=by omega
  have hd:=h;unfold Rep at h;obtain⟨a,vs,rfl,h2,h3⟩:=h;cases rx;obtain⟨its,rv,p,_⟩:=I.tuple h2;cases d' with
  | bl b=>contradiction
  | int j =>
   unfold Rep at h';subst h';obtain⟨t',rfl⟩:=ry;exact⟨_,SeqAt.EqAt.tuple_int _ _ p hu0,by simp⟩
  | str z =>
   unfold Rep at h';subst h';obtain⟨t',rfl⟩:=ry;exact⟨_,SeqAt.EqAt.tuple_str _ _ p hu0,by simp⟩
  | non =>
   unfold Rep at h';subst h';cases ry;exact⟨_,SeqAt.EqAt.tuple_none p hu0,by simp⟩
  | lst ds' =>
   unfold Rep at h';obtain⟨a',vs',rfl,h2',_⟩:=h';cases ry;obtain⟨_,_,p',_⟩:=I.list h2';exact⟨_,SeqAt.EqAt.tuple_list p p'.isList hu0,by simp⟩
  | tup ds' =>
   have hd':=h';unfold Rep at h';obtain⟨a',vs',rfl,h2',h3'⟩:=h';cases ry;obtain⟨its',rv',p',_⟩:=I.tuple h2';by_cases e:a=a'
   ·subst e;exact⟨true,SeqAt.EqAt.same _,by simp[Rep.inj I hd hd']⟩
   ·unfold DV.pl at pp pp';unfold DV.dp at hu;obtain⟨f,hf,hi⟩:=zW I ds ds' A.in1 h3 h3' rv rv' pp pp' (by show A.units+1+_+1<_;omega);refine⟨_,SeqAt.EqAt.of_refs e (SeqAt.RcAt.tuples p p' hu0 (e:=f) λj h1 h2=>?_),?_⟩
    ·have q:=hf j (by simpa using h1) (by simpa using h2);simpa using q
    ·simp only[aj,DV.tup.injEq];exact hi
 | .lst ds,d',A,x,y,u,v,h,h',rx,ry,pp,pp',hu=>by
  have hu0:A.units<cLine:=by omega
  have hd:=h;unfold Rep at h;obtain⟨a,vs,rfl,h2,h3⟩:=h;cases rx;obtain⟨its,rv,p,_⟩:=I.list h2;cases d' with
  | bl b=>contradiction
  | int j =>
   unfold Rep at h';subst h';obtain⟨t',rfl⟩:=ry;exact⟨_,SeqAt.EqAt.list_int _ _ p.isList hu0,by simp⟩
  | str z =>
   unfold Rep at h';subst h';obtain⟨t',rfl⟩:=ry;exact⟨_,SeqAt.EqAt.list_str _ _ p.isList hu0,by simp⟩
  | non =>
   unfold Rep at h';subst h';cases ry;exact⟨_,SeqAt.EqAt.list_none p.isList hu0,by simp⟩
  | tup ds' =>
   unfold Rep at h';obtain⟨a',vs',rfl,h2',_⟩:=h';cases ry;obtain⟨_,_,p',_⟩:=I.tuple h2';exact⟨_,SeqAt.EqAt.list_tuple p.isList p' hu0,by simp⟩
  | lst ds' =>
   have hd':=h';unfold Rep at h';obtain⟨a',vs',rfl,h2',h3'⟩:=h';cases ry;obtain⟨its',rv',p',_⟩:=I.list h2';by_cases e:a=a'
   ·subst e;exact⟨true,SeqAt.EqAt.same _,by simp[Rep.inj I hd hd']⟩
   ·unfold DV.pl at pp pp';unfold DV.dp at hu;obtain⟨f,hf,hi⟩:=zW I ds ds' A.in1 h3 h3' rv rv' pp pp' (by show A.units+1+_+1<_;omega);by_cases hz:its.length=its'.length
    ·refine⟨_,SeqAt.EqAt.of_refs e (SeqAt.RcAt.lists p.isList p'.isList (by simpa using hz) hu0 (e:=f) λj h1 h2=>?_),?_⟩
     ·have q:=hf j (by simpa using h1) (by simpa using h2);simpa using q
     ·simp only[aj,DV.lst.injEq];rw[xF hz] at hi;exact hi
    ·refine⟨_,SeqAt.EqAt.of_refs e (SeqAt.RcAt.lists_lengths p.isList p'.isList (by simpa using hz) hu0),?_⟩;simp only[bQ,false_iff,DV.lst.injEq];intro z;have l1:=h3.length;have l2:=h3'.length;rw[z] at l1;exact hz (by rw[← rv.length,← rv'.length,← l1,← l2])
theorem zW(I:Inv X pins σ H s):∀(ds ds':List DV) (A:Around) {xs ys:List V} {us vs:List Value},Reps X.K H ds xs->Reps X.K H ds' ys->Vals xs us->Vals ys vs->DV.pls ds=true->DV.pls ds'=true->A.units+DV.dps ds+1<cLine ->
  ∃ e:Nat->Bool,(∀ j (h1:j<us.length) (h2:j<vs.length),SeqAt.EqAt A s us[j] vs[j] (e j))/\((((List.range (min us.length vs.length)).all e && us.length == vs.length)=true)↔ds=ds')
 | [],ds',A,xs,ys,us,vs,h,h',rx,ry,_,_,_=>by
  unfold Reps at h;subst h;cases rx;refine⟨λ_=>true,λj h1 _=>absurd h1 (by simp),?_⟩;cases ds' with
  | nil=>unfold Reps at h';subst h';cases ry;simp
  | cons d r=>unfold Reps at h';obtain⟨_,_,rfl,_⟩:=h';cases ry;simp
 | d::ds,ds',A,xs,ys,us,vs,h,h',rx,ry,pp,pp',hu=>by
  unfold Reps at h;obtain⟨x,r,rfl,h1,h2⟩:=h;cases rx with
  | cons rx rxs =>
   cases ds' with
   | nil =>
    unfold Reps at h';subst h';cases ry;exact⟨λ_=>true,λj _ h2=>absurd h2 (by simp),by simp⟩
   | cons d' ds' =>
    unfold Reps at h';obtain⟨y,r',rfl,h1',h2'⟩:=h';cases ry with
    | cons ry rys =>
     unfold DV.pls at pp pp';rw[aX] at pp pp';unfold DV.dps at hu;obtain⟨b,hb,ib⟩:=L9 I d d' A h1 h1' rx ry pp.1 pp'.1 (by omega);obtain⟨e,he,ie⟩:=zW I ds ds' A h2 h2' rxs rys pp.2 pp'.2 (by omega);refine⟨λj=>match j with|0=>b|j+1=>e j,λj=>?_,?_⟩
     ·cases j with
      | zero=>exact λ_ _=>hb
      | succ j=>exact λq1 q2=>he j (by simpa using q1) (by simpa using q2)
     ·rw[bt,bt,Nat.succ_min_succ];have q:∀ n,(List.range (n+1)).all (λj=>match j with|0=>b|j+1=>e j)=(b && (List.range n).all e):=λn=>all_cons;rw[q];have q2:∀ n m:Nat,(n+1 == m+1)=(n == m):=λn m=>by
       rw[cm];simp
      rw[q2,Bool.and_assoc,aX,ib,ie,List.cons.injEq]
end
def Js(K:Frag)(A:Around)(neg:Bool):R2:=λx y H Q=>∃ ds ds',Rep K H (.tup ds) x/\Rep K H (.tup ds') y/\DV.pls ds=true/\DV.pls ds'=true/\A.units+DV.dps ds+2<cLine /\
 ∀ b,(b=true↔ds=ds')->Q (.bl (if neg then !b else b)) H
theorem HF:OpR X (compareOp .Eq) (Js X.K X.A false):=by
 intro pins s σ H x y u v Q I rx ry h;obtain⟨ds,ds',h1,h2,p1,p2,hu,q⟩:=h;unfold Rep at h1 h2;obtain⟨a,vs,rfl,t1,r1⟩:=h1;obtain⟨a',vs',rfl,t2,r2⟩:=h2;cases rx;cases ry;obtain⟨its,rv,p,_⟩:=I.tuple t1;obtain⟨its',rv',p',_⟩:=I.tuple t2;obtain⟨f,hf,hi⟩:=zW I ds ds' X.A.in1 r1 r2 rv rv' p1 p2 (by show X.A.units+1+_+1<_;omega);refine SeqAt.RcAt.tuples p p' (by omega) (e:=f) (λj h1 h2=>?_) _ _ _ _ ⟨.bl _,H,I,rfl,q _ ?_⟩
 ·have q:=hf j (by simpa using h1) (by simpa using h2);simpa using q
 ·simp only[aj];exact hi
theorem HB:OpR X (compareOp .NotEq) (Js X.K X.A true):=by
 intro pins s σ H x y u v Q I rx ry h;obtain⟨ds,ds',h1,h2,p1,p2,hu,q⟩:=h;unfold Rep at h1 h2;obtain⟨a,vs,rfl,t1,r1⟩:=h1;obtain⟨a',vs',rfl,t2,r2⟩:=h2;cases rx;cases ry;obtain⟨its,rv,p,_⟩:=I.tuple t1;obtain⟨its',rv',p',_⟩:=I.tuple t2;obtain⟨f,hf,hi⟩:=zW I ds ds' X.A.in1 r1 r2 rv rv' p1 p2 (by show X.A.units+1+_+1<_;omega);refine SeqAt.RcNeAt.tuples p p' (by omega) (e:=f) (λj h1 h2=>?_) _ _ _ _ ⟨.bl _,H,I,rfl,q _ ?_⟩
 ·have q:=hf j (by simpa using h1) (by simpa using h2);simpa using q
 ·simp only[aj];exact hi
theorem Bg(bs:List Bool):(List.range bs.length).all (λj=>bs.getD j false)=bs.all id:=by
 induction bs with
 | nil=>rfl
 | cons b r ih =>
  rw[bt,all_cons,eO];exact congrArg (b && ·) ih
theorem D3(hc:X.calm=true):CallR X (.builtin "all") (λxs H Q=>∃ p,∃ bs:List Bool,xs=[.ref p]/\SqL X.K H p (bs.map V.bl)/\Q (.bl (bs.all id)) H):=by
 intro pins s σ H xs us Q I rv h;obtain⟨p,bs,rfl,hp,q⟩:=h;obtain⟨u,rfl,ru⟩:=rv.one;cases ru;obtain⟨its,rv',pl,_⟩:=I.list hp;refine call_all_walk (wpAny_pyIter_list pl.isList ?_);have e:∀ b o,s.heap.get? b=some o->(s.heap.push { cls:=.type "list_iterator",data:=.fields #[.ref p,.int 0 0] }).get? b=some o:=λb o e=>ηH _ e;have hne:p≠s.heap.objs.size:=by
  obtain⟨o,ho,_⟩:=pl.isList;exact aO (ηL ho)
 have lb:bs.length=its.length:=by rw[← rv'.length,aa]
 refine⟨_,_,_,_,_,_,λj=>bs.getD j false,rfl,Walks.list (A:=X.A.in1) (I.ok.hd hc) _ p hne its.toArray,⟨⟨_,ηG _ rfl,rfl,rfl⟩,pl.isList.at λo ho=>e _ o ho⟩,?_,λh' tk hk=>?_⟩
 ·intro i v s Q E hv hq;have hv':its[i]? = some v:=by simpa using hv
  have hi:i<bs.length:=by
   rw[lb];exact (ai.mp hv').1
  obtain⟨u,hu,ru⟩:=rv'.get (i:=i) (x:=.bl bs[i]) (by simp[hi]);rw[hv'] at hu;cases hu;cases ru;have:bs.getD i false=bs[i]:=by simp[List.getD,hi]
  have hq:Q (bs.getD i false) s:=hq;rw[this] at hq;exact wpAny_truthy_bool hq
 ·refine⟨.bl (bs.all id),H,I.kept (t':=tk) λb o ho=>hk b o ?_ (e b o ho),?_,q⟩
  ·simp only[aV];exact aO (ηL ho)
  ·show Value.bool _=_;rw[← Bg,lb];simp
end
structure Def (P:Program)(w:World)(K:Frag)(mg:Str->Option Value)(base:Heap)(x:Str)(k:Nat)(ps:List Str)(sp:Sp):Prop where
 ex:∃ f fd,FnOk P w K mg base x8 k f fd ps sp/\mg x=some (.ref f)/\PySem.W.keepIn K (.ref f)=true/\Binds K fd ps []
theorem Def.of{P:Program}{w:World}{K:Frag}{mg:Str->Option Value}{base:Heap}{x q:Str}{k:Nat}{ps:List Str}{sp:Sp}{st:Stmt}{f:Addr}{fd:FuncData}(F:Fun K x q st f fd)(m:mg x=some (.ref f))(b:Binds K fd ps [])
  (ok:FnOk P w K mg base x8 k f fd ps sp):Def P w K mg base x k ps sp:=⟨f,fd,ok,m,F.kp,b⟩
theorem xA{X:Cx}{e:Expr}{es:List Expr}{t:TA}{x:Str}{p pos:Pos}{j k:Nat}{ps:List Str}{sp:Sp}(g:Def X.prog X.w X.K X.mg X.base x j ps sp)(hr:Room k X.A)(ha:PA X (e::es) t)(hjk:j<=k:=by first|decide|omega|exact af _)(hg:Gl X x:=by rfl)
  (hdb:(x == ("__debug__" : Str))=false:=by decide) (he:starEach (e::es) X.env=(false,eval e X.env)::starEach es X.env:=by rfl) (hpl:(backTo pos (starEach es X.env)).any (·.1)=false:=by rfl) :
  PE X (.Call (.Name x p) (e::es) [] pos) (ye sp [] E0 t):=by
 obtain⟨f,fd,F,m,kp,b⟩:=g.ex;exact EQ F (hr.mono hjk) hg m kp b .nil JA ha hdb he hpl
structure Bl (mg:Str->Option Value):Prop where
 len:mg "len" = none
 range:mg "range" = none
 all:mg "all" = none
 any:mg "any" = none
 abs:mg "abs" = none
 int:mg "int" = none
 bool:mg "bool" = none
 str:mg "str" = none
 list:mg "list" = none
 tuple:mg "tuple" = none
 dict:mg "dict" = none
 isinstance:mg "isinstance" = none
 enumerate:mg "enumerate" = none
 reversed:mg "reversed" = none
 sorted:mg "sorted" = none
 max:mg "max" = none
 min:mg "min" = none
 sum:mg "sum" = none
 zip:mg "zip" = none
structure Sm (f:Addr)(H H':Hp):Prop where
 app:∀ b o,b≠f->H b=some o->H' b=some o
 key:∀ l r,H f=some (.lst (.ref l::r))->∃ r',H' f=some (.lst (.ref l::r'))
instance {f:Addr}{H H':Hp}:CoeFun (Sm f H H') (λ_=>∀ b o,b≠f->H b=some o->H' b=some o):=⟨Sm.app⟩
theorem Sm.refl(H:Hp):Sm f H H:=⟨λ_ _ _ h=>h,λl r h=>⟨r,h⟩⟩
theorem Sm.trans(a:Sm f H H1)(b:Sm f H1 H2):Sm f H H2:=⟨λc o n h=>b.app c o n (a.app c o n h),λl r h=>by
 obtain⟨r1,h1⟩:=a.key l r h;exact b.key l r1 h1⟩
theorem Same.sm(h:Same H H'):Sm f H H':=⟨λb o _ e=>h b o e,λl r e=>⟨r,h _ _ e⟩⟩
theorem Sm.new(h:H p=none)(o:HO):Sm f H (rg H p o):=⟨λb u _ q=>by rw[qJ (qO q h)];exact q,λl r q=>⟨r,by rw[qJ (qO q h)];exact q⟩⟩
theorem Same.new(h:H p=none)(o:HO):Same H (rg H p o):=λb u q=>by rw[qJ (qO q h)];exact q
theorem Sm.free(e:Sm f H H')(hl:l≠f)(h:H' l=none):H l=none:=by
 cases q:H l with
 | none=>rfl
 | some o =>
  rw[e.app l o hl q] at h;cases h
def Mk(Pv:Nat->St->List V->Hp->Prop)(n i:Nat)(τ:St)(ys:List V)(v:V)(H:Hp):Prop :=
 ∃ m',m'<n-i/\m'=n-(i+1)/\i+1<=n/\(ys++[v]).length=i+1/\Pv (i+1) τ (ys++[v]) H
theorem ME(hi:i<n)(hl:ys.length=i)(p:Pv (i+1) τ (ys++[v]) H):Mk Pv n i τ ys v H :=
 ⟨n-(i+1),by omega,rfl,hi,by rw[am,d9,hl],p⟩
theorem Ai{lo:Int}{n:Nat}{g:TG}{te:TE}{Q:VK}{σ:St}{H:Hp}(hn:n<=sizeLine)(Pv:Nat->St->List V->Hp->Prop)(h0:Pv 0 σ [] H)
  (hs:∀ i τ ys H,i<n->ys.length=i->Pv i τ ys H->g (.int (lo+i)) τ H λτ2 H2=>te τ2 H2 λv H3=>Mk Pv n i τ2 ys v H3)
  (hd:∀ τ ys H D,ys.length=n->Pv n τ ys H->H D=none->Q (.ref D) (rg H D (.lst ys))) :
  A7 (IS lo n) g IY te σ Q H:=by
 refine⟨λi m τ ys H=>m=n-i/\i<=n/\ys.length=i/\Pv i τ ys H,⟨n,by simp,aC _,rfl,h0⟩,?_⟩;rintro i m τ ys H ⟨rfl,hi,hl,p⟩;by_cases hlt:i<n
 ·refine .inr ⟨hlt,by omega,λx H' y=>?_⟩;obtain⟨e,y⟩:=y;subst e y;exact hs i τ ys _ hlt hl p
 ·have e:i=n:=by omega
  subst e;exact .inl ⟨af _,λD hD=>hd τ ys H D hl p hD⟩
end L2
namespace L2
open PySem
theorem uW:bootBuiltins "len" = some (.builtin "len"):=by decide +kernel
theorem Ix:bootBuiltins "abs" = some (.builtin "abs"):=by decide +kernel
theorem Iw:bootBuiltins "all" = some (.builtin "all"):=by decide +kernel
theorem qQ:bootBuiltins "isinstance" = some (.builtin "isinstance"):=by decide +kernel
theorem Ea:bootBuiltins "int" = some (.type "int"):=by decide +kernel
theorem xW:bootBuiltins "bool" = some (.type "bool"):=by decide +kernel
theorem Ir:bootBuiltins "str" = some (.type "str"):=by decide +kernel
theorem sP:bootBuiltins "list" = some (.type "list"):=by decide +kernel
theorem tz:bootBuiltins "tuple" = some (.type "tuple"):=by decide +kernel
end L2
namespace L2
open PySem PySem.Spec PyProof.Rows
def KQ(t u:TS):TS:=λD σ H=>∃ R:St->Hp->Prop,t { D with nx:=R } σ H/\∀ σ H,R σ H->u D σ H
theorem ul{X:Cx}{st:Stmt}{more:List Stmt}{t u:TS}(h1:PS X st t)(h2:PSs X more u):PSs X (st::more) (KQ t u):=by
 intro pins s σ H D I h;obtain⟨R,a,b⟩:=h;refine wpAny_execs_cons (qZ (h1 pins s σ H { D with nx:=R } I a) λf s1 q=>?_);cases f with
 | next =>
  obtain⟨σ1,H1,I1,r1⟩:=q;exact h2 pins s1 σ1 H1 D I1 (b σ1 H1 r1)
 | brk=>exact q
 | cont=>exact q
 | ret v=>exact q
section
variable{X:Cx}
theorem yU(K:Frag)(hK:X.K=K:=by rfl):IxR X (Hk K):=hK ▸ ix_list
theorem BG(K:Frag)(hK:X.K=K:=by rfl):CallR X (.builtin "len") (λxs H Q=>∃ p ys,xs=[.ref p]/\(SqL K H p ys\/SqT K H p ys)/\Q (.int ys.length) H):=hK ▸ xU
theorem Lz(K:Frag)(hc:X.calm=true:=by rfl)(hK:X.K=K:=by rfl):CallR X (.builtin "all") (λxs H Q=>∃ p,∃ bs:List Bool,xs=[.ref p]/\SqL K H p (bs.map V.bl)/\Q (.bl (bs.all id)) H):=hK ▸ D3 hc
theorem zL(K:Frag)(hK:X.K=K:=by rfl):CallR X (.type "list") (λxs H Q=>∃ p ys,xs=[.ref p]/\(SqL K H p ys\/SqT K H p ys)/\∀ l,H l=none->Q (.ref l) (rg H l (.lst ys))):=hK ▸ xS
theorem En(K:Frag)(hK:X.K=K:=by rfl):CallR X (.type "tuple") (λxs H Q=>∃ p ys,xs=[.ref p]/\((SqL K H p ys/\∀ l,H l=none->Q (.ref l) (rg H l (.tup ys)))\/(SqT K H p ys/\Q (.ref p) H))):=hK ▸ wl
theorem MB(K:Frag)(ha:PE X a ta)(he:∀ whole,isTrue a X.env whole=(do let v ← whole;standAt a.pos;holding [v] (truthy v)))(hK:X.K=K:=by rfl) :
  PT X a (λσ H Q=>ta σ H λx H'=>∃ k,IG K x H' k/\Q k H'):=hK ▸ yo ha he
def Jt(K:Frag)(neg:Bool):R2:=λx y H Q=>∃ ds ds',Rep K H (.tup ds) x/\Rep K H (.tup ds') y/\DV.pls ds=true/\DV.pls ds'=true/\DV.dps ds<=60/\∀ b,(b=true↔ds=ds')->Q (.bl (if neg then !b else b)) H
theorem MJ(K:Frag)(hr:Room k X.A)(hK:X.K=K:=by rfl):OpR X (compareOp .Eq) (Jt K false):=by
 subst hK;intro pins s σ H x y u v Q I rx ry h;obtain⟨ds,ds',h1,h2,p1,p2,hu,q⟩:=h;exact HF pins s σ H x y u v Q I rx ry ⟨ds,ds',h1,h2,p1,p2,by have:=hr.units;omega,q⟩
theorem MF(K:Frag)(hr:Room k X.A)(hK:X.K=K:=by rfl):OpR X (compareOp .NotEq) (Jt K true):=by
 subst hK;intro pins s σ H x y u v Q I rx ry h;obtain⟨ds,ds',h1,h2,p1,p2,hu,q⟩:=h;exact HB pins s σ H x y u v Q I rx ry ⟨ds,ds',h1,h2,p1,p2,by have:=hr.units;omega,q⟩
end
end L2
namespace Fr
open L2
def cp(t b:Int):Int:=((Int.gcd t b:Nat):Int)
def vb(t b:Int):Int:=if b<0 then -cp t b else cp t b
def top(t b:Int):Int:=t.fdiv (vb t b)
def bot(t b:Int):Int:=b.fdiv (vb t b)
theorem Dz(a b:Int):Int.gcd b (a.fmod b)=Int.gcd a b:=by
 rw[gx,Int.gcd_sub_mul_left_right,Int.gcd_comm]
theorem Fz(a b:Int)(h:b≠0):(a.fmod b).natAbs<b.natAbs:=by
 rcases gN h with hb|hb
 ·have h1:=gO (-a) (b:=-b) (by omega);have h2:=gw (-a) (b:=-b) (by omega);have e:(-a).fmod (-b) = -(a.fmod b):=by
   rw[gx,gx,Int.neg_fdiv_neg,Int.neg_mul];omega
  omega
 ·have h1:=gO a hb;have h2:=gw a hb;omega
theorem Ip(h:b≠0):0<cp t b:=by
 unfold cp;have:0<Int.gcd t b:=eX (by rw[Ne,gJ];exact λz=>h z.2);omega
theorem J9(h:b≠0):(cp t b).natAbs<=b.natAbs:=by
 unfold cp;rw[bS];exact gk (by omega) (gR _ _)
theorem ER(h:b≠0):vb t b≠0:=by
 have:=Ip (t:=t) h;unfold vb;split <;> omega
theorem ES(h:b≠0):(vb t b).natAbs<=b.natAbs:=by
 have:=J9 (t:=t) h;unfold vb;split
 ·rw[Int.natAbs_neg];exact this
 ·exact this
theorem of{p t' b':Int}(hp:p≠0)(hb:0<b')(hc:Int.gcd t' b'=1):top (p*t') (p*b')=t'/\bot (p*t') (p*b')=b':=by
 have e:vb (p*t') (p*b')=p:=by
  unfold vb cp;rw[Int.gcd_mul_left,hc,dM];rcases gN hp with h|h
  ·rw[if_pos (Int.mul_neg_of_neg_of_pos h hb)];omega
  ·rw[if_neg (Int.not_lt.mpr (Int.le_of_lt (aA h hb)))];omega
 unfold top bot;rw[e];exact⟨dP _ hp,dP _ hp⟩
theorem ex(h:b≠0):∃ p t' b',p≠0/\0<b'/\Int.gcd t' b'=1/\t=p*t'/\b=p*b':=by
 have g0:0<Int.gcd t b:=eX (by rw[Ne,gJ];exact λz=>h z.2);obtain⟨t1,e1⟩:=Int.gcd_dvd_left t b;obtain⟨b1,e2⟩:=Int.gcd_dvd_right t b;have hc:Int.gcd t1 b1=1:=by
  have q:Int.gcd ((Int.gcd t b:Int)*t1) ((Int.gcd t b:Int)*b1)=Int.gcd t b:=by rw[← e1,← e2]
  rw[Int.gcd_mul_left,bS] at q;exact fU g0 (by omega)
 have g1:(0:Int)<(Int.gcd t b:Int):=by omega
 by_cases hb:b<0
 ·refine⟨-(Int.gcd t b:Int),-t1,-b1,by omega,?_,by rw[Int.gcd_neg,Int.neg_gcd];exact hc,by rw[Int.neg_mul_neg];exact e1,by rw[Int.neg_mul_neg];exact e2⟩;rcases e7 b1 0 with z|z|z
  ·omega
  ·rw[z,bU] at e2;omega
  ·have:=aA g1 z;omega
 ·refine⟨(Int.gcd t b:Int),t1,b1,by omega,?_,hc,e1,e2⟩;rcases e7 b1 0 with z|z|z
  ·have:=gh g1 z;omega
  ·rw[z,bU] at e2;omega
  ·exact z
theorem low(h:b≠0):0<bot t b/\top t b*b=t*bot t b/\Int.gcd (top t b) (bot t b)=1:=by
 obtain⟨p,t',b',hp,hb,hc,rfl,rfl⟩:=ex (t:=t) h;have e:=of hp hb hc;rw[e.1,e.2];refine⟨hb,?_,hc⟩;rw[Int.mul_left_comm,bZ]
theorem Ci(h:b≠0):(top t b).natAbs<=t.natAbs/\(bot t b).natAbs<=b.natAbs:=by
 obtain⟨p,t',b',hp,hb,hc,rfl,rfl⟩:=ex (t:=t) h;have e:=of hp hb hc;rw[e.1,e.2,bF,bF];have:0<p.natAbs:=by omega
 exact⟨aW _ this,aW _ this⟩
end Fr
namespace L2
open PySem PySem.Spec PyProof.Rows
def IF(K:Frag)(H:Hp)(x:V)(t:Value):Prop:=TyOf K H x t\/(∃ a xs,x = .ref a/\SqT K H a xs/\t = .type "tuple")\/(∃ a xs,x = .ref a/\SqL K H a xs/\t = .type "list")
section
variable{X:Cx}{pins:List (Addr×Obj)}{σ:St}{H:Hp}{s:Shared}{A:Around}{E:Value->Shared->Prop}{Q:Value->Shared->Prop}
theorem Ia(I:Inv X pins σ H s)(rx:RelV x u)(ty:IF X.K H x t)(e:PySem.W.kitOne X.K t c=some b)(h:∀ tk,Q (.bool b) { s with toks:=tk }) :
  wpAny (model X.prog X.w) A (call (.builtin "isinstance") [u,c]) Q E s:=by
 rcases ty with ty|⟨a,xs,rfl,hq,rfl⟩|⟨a,xs,rfl,hq,rfl⟩
 ·exact BK I rx ty e h
 ·cases rx;obtain⟨its,rv,p,_⟩:=I.tuple hq;obtain⟨o,ho,hc,_⟩:=p;exact PySem.W.kia_one PySem.W.kitx_tuple I.kIn ⟨o,ho,hc⟩ e (λz=>nomatch z) h
 ·cases rx;obtain⟨its,rv,p,_⟩:=I.list hq;obtain⟨o,ho,hc,_⟩:=p.isList;exact PySem.W.kia_one PySem.W.kitx_list I.kIn ⟨o,ho,hc⟩ e (λz=>nomatch z) h
theorem Fs(I:Inv X pins σ H s)(rx:RelV x u)(ty:IF X.K H x t)(hs:∀ C,t ≠ .ref C)
  (htp:s.heap.get? tp=some ⟨.type "tuple",dd,.seq its.toArray n,sl⟩) (e:PySem.W.kitAny X.K t its=some b) (h:∀ tk,Q (.bool b) { s with toks:=tk }) :
  wpAny (model X.prog X.w) A (call (.builtin "isinstance") [u,.ref tp]) Q E s:=by
 rcases ty with ty|⟨a,xs,rfl,hq,rfl⟩|⟨a,xs,rfl,hq,rfl⟩
 ·cases ty with
  | non=>cases (show u=Value.none from rx);exact PySem.W.kia_tup PySem.W.kitx_none I.kIn True.intro htp e (λz=>nomatch z) h
  | bl y=>cases (show u=Value.bool y from rx);exact PySem.W.kia_tup PySem.W.kitx_bool I.kIn True.intro htp e (λz=>nomatch z) h
  | int i=>obtain⟨t,q⟩:=(show ∃ t,u=Value.int i t from rx);cases q;exact PySem.W.kia_tup PySem.W.kitx_int I.kIn True.intro htp e (λz=>nomatch z) h
  | str y=>obtain⟨t,q⟩:=(show ∃ t,u=Value.str y t from rx);cases q;exact PySem.W.kia_tup PySem.W.kitx_str I.kIn True.intro htp e (λz=>nomatch z) h
  | flt y=>obtain⟨t,q⟩:=(show ∃ t,u=Value.float y t from rx);cases q;exact PySem.W.kia_tup PySem.W.kitx_float I.kIn True.intro htp e (λz=>nomatch z) h
  | @lst a xs ea =>
   cases (show u=Value.ref a from rx);obtain⟨_,_,n,_,h1⟩:=(show ObjOk X.prog X.w H s.heap a (.lst xs) from I.hok a _ ea);exact PySem.W.kia_tup PySem.W.kitx_list I.kIn ⟨_,h1,rfl⟩ htp e (λz=>nomatch z) h
  | @frz a ob xs ea =>
   cases (show u=Value.ref a from rx);obtain⟨q1,_,_,n,_,h1⟩:=(show ObjOk X.prog X.w H s.heap a (.frz ob (.lst xs)) from I.hok a _ ea);exact PySem.W.kia_tup PySem.W.kitx_list I.kIn ⟨_,h1,rfl⟩ htp e (λz=>nomatch z) h
  | @tup a xs ea =>
   cases (show u=Value.ref a from rx);obtain⟨its',rv,p,_⟩:=I.tuple (SqT.of ea);obtain⟨o,ho,hc,_⟩:=p;exact PySem.W.kia_tup PySem.W.kitx_tuple I.kIn ⟨o,ho,hc⟩ htp e (λz=>nomatch z) h
  | @dK a kvs ea =>
   cases (show u=Value.ref a from rx);obtain⟨_,_,vs,_,p⟩:=(show ObjOk X.prog X.w H s.heap a (.dK kvs) from I.hok a _ ea);obtain⟨o,es,ep,h1,h2,_⟩:=p;exact PySem.W.kia_tup PySem.W.kitx_dict I.kIn ⟨o,h1,h2.1⟩ htp e (λz=>nomatch z) h
  | @dT a kvs ea =>
   cases (show u=Value.ref a from rx);obtain⟨_,_,xs,_,o,es,ep,h1,h2,_⟩:=(show ObjOk X.prog X.w H s.heap a (.dT kvs) from I.hok a _ ea);exact PySem.W.kia_tup PySem.W.kitx_dict I.kIn ⟨o,h1,h2.1⟩ htp e (λz=>nomatch z) h
  | ins=>exact absurd rfl (hs _)
 ·cases rx;obtain⟨its',rv,p,_⟩:=I.tuple hq;obtain⟨o,ho,hc,_⟩:=p;exact PySem.W.kia_tup PySem.W.kitx_tuple I.kIn ⟨o,ho,hc⟩ htp e (λz=>nomatch z) h
 ·cases rx;obtain⟨its',rv,p,_⟩:=I.list hq;obtain⟨o,ho,hc,_⟩:=p.isList;exact PySem.W.kia_tup PySem.W.kitx_list I.kIn ⟨o,ho,hc⟩ htp e (λz=>nomatch z) h
end
section
variable{X:Cx}
theorem Ib(K:Frag)(hK:X.K=K:=by rfl):CallR X (.builtin "isinstance") (λxs H Q=>∃ x n t b,xs=[x,.ty n]/\IF K H x t/\PySem.W.kitOne K t (.type n)=some b/\Q (.bl b) H):=by
 subst hK;intro pins s σ H xs us Q I rv h;obtain⟨x,n,t,b,rfl,ty,e,q⟩:=h;obtain⟨u,v,rfl,r1,r2⟩:=rv.two;cases r2;exact Ia I r1 ty e λtk=>⟨.bl b,H,I.tok tk,rfl,q⟩
theorem Aw:∀{ns:List String} {us:List Value},Vals (ns.map V.ty) us->us=ns.map Value.type
 | [],_,.nil=>rfl
 | n::ns,_,.cons r t=>by
  have r':_=Value.type n:=r;rw[r',Aw t];rfl
theorem Ll(K:Frag)(hK:X.K=K:=by rfl):CallR X (.builtin "isinstance") (λxs H Q=>∃ x tp t b,∃ ns:List String,xs=[x,.ref tp]/\IF K H x t/\(∀ C,t ≠ .ref C)/\H tp=some (.tup (ns.map V.ty))/\PySem.W.kitAny K t (ns.map Value.type)=some b/\Q (.bl b) H):=by
 subst hK;intro pins s σ H xs us Q I rv h;obtain⟨x,tp,t,b,ns,rfl,ty,hs,htp,e,q⟩:=h;obtain⟨u,v,rfl,r1,r2⟩:=rv.two;cases r2;obtain⟨its,rv',p,_⟩:=I.tuple (SqT.of htp);obtain⟨⟨cl,dd,dt,sl⟩,ho,hc,n,hd⟩:=p;have hc':cl = .type "tuple" := hc;have hd':dt = .seq its.toArray n:=hd;subst hc' hd';refine Fs I r1 ty hs ho ?_ λtk=>⟨.bl b,H,I.tok tk,rfl,q⟩;rw[Aw rv'];exact e
theorem L5(K:Frag)(hK:X.K=K:=by rfl):IxR X (Ks K):=hK ▸ ix_seq
end
mutual
def DV.wd:DV->Nat
 | .tup ds=>max ds.length (DV.wds ds)
 | .lst ds=>max ds.length (DV.wds ds)
 | _=>0
def DV.wds:List DV->Nat
 | []=>0
 | d::ds=>max (DV.wd d) (DV.wds ds)
end
theorem Av:∀{ds:List DV} {d:DV},d∈ds->d.wd<=DV.wds ds/\d.dp<=DV.dps ds
 | [],_,h=>absurd h aK
 | e::ds,d,h=>by
  unfold DV.wds DV.dps;rcases ao.mp h with rfl|h
  ·exact⟨Nat.le_max_left _ _,Nat.le_max_left _ _⟩
  ·have:=Av h;omega
theorem Reps.get{K:Frag}{H:Hp}:∀{ds:List DV} {vs:List V} {i:Nat} {v:V},Reps K H ds vs->vs[i]? = some v->∃ d,ds[i]? = some d/\Rep K H d v
 | [],vs,i,v,h,e=>by
  unfold Reps at h;subst h;simp at e
 | d::ds,vs,i,v,h,e=>by
  unfold Reps at h;obtain⟨v',r,rfl,h1,h2⟩:=h;cases i with
  | zero =>
   simp at e;subst e;exact⟨d,rfl,h1⟩
  | succ i =>
   simp at e;obtain⟨d',a,b⟩:=Reps.get h2 e;exact⟨d',by simpa using a,b⟩
def SqX(K:Frag)(tt:String)(H:Hp)(a:Addr)(xs:List V):Prop:=(tt = "tuple" /\ SqT K H a xs)\/(tt = "list" /\ SqL K H a xs)
theorem SqX.same{K:Frag}{tt:String}{H H':Hp}{a:Addr}{xs:List V}(h:SqX K tt H a xs)(e:Same H H'):SqX K tt H' a xs:=h.imp (λz=>⟨z.1,z.2.same e⟩) λz=>⟨z.1,e.seq z.2⟩
theorem SqX.len{K:Frag}{tt:String}{H:Hp}{a:Addr}{xs:List V}(h:SqX K tt H a xs):SqL K H a xs\/SqT K H a xs:=h.elim (λz=>.inr z.2) λz=>.inl z.2
theorem SqX.ty{K:Frag}{tt:String}{H:Hp}{a:Addr}{xs:List V}(h:SqX K tt H a xs):IF K H (.ref a) (.type tt):=h.elim (λz=>.inr (.inl ⟨a,xs,rfl,z.2,by rw[z.1]⟩)) λz=>.inr (.inr ⟨a,xs,rfl,z.2,by rw[z.1]⟩)
theorem SqX.ix{K:Frag}{tt:String}{H:Hp}{a:Addr}{xs:List V}{i:Int}{v:V}{Q:VK}(h:SqX K tt H a xs)(e:vq xs i=some v)(q:Q v H):Ks K (.ref a) (.int i) H Q :=
 h.elim (λz=>.inr (.inl ⟨a,xs,i,v,rfl,rfl,z.2,e,q⟩)) λz=>.inl ⟨a,xs,i,v,rfl,rfl,z.2,e,q⟩
theorem SqX.kit{K:Frag}{tt:String}{H:Hp}{a:Addr}{xs:List V}(h:SqX K tt H a xs):PySem.W.kitAny K (.type tt) [.type "list",.type "tuple"]=some true/\(∃ b,PySem.W.kitOne K (.type tt) (.type "list")=some b)/\∃ b,PySem.W.kitOne K (.type tt) (.type "tuple")=some b:=by
 rcases h with⟨rfl,_⟩|⟨rfl,_⟩
 ·exact⟨rfl,⟨_,rfl⟩,⟨_,rfl⟩⟩
 ·exact⟨rfl,⟨_,rfl⟩,⟨_,rfl⟩⟩
def LP(K:Frag)(x:V):Prop:=∃ t bb,(∀ H,IF K H x t)/\(∀ C,t ≠ .ref C)/\PySem.W.kitAny K t [.type "list",.type "tuple"]=some false/\PySem.W.kitOne K t (.type "bool")=some bb/\GX x x=true
theorem Bf{K:Frag}{H:Hp}{d:DV}{x y:V}(hx:Rep K H d x)(hy:Rep K H d y):(x=y/\LP K x) \/
  ∃ tt a a' xs ys ds,x = .ref a/\y = .ref a'/\SqX K tt H a xs/\SqX K tt H a' ys/\Reps K H ds xs/\Reps K H ds ys/\d.dp=DV.dps ds+1/\DV.wds ds<=d.wd/\ds.length<=d.wd:=by
 cases d with
 | int i=>unfold Rep at hx hy;subst hx hy;exact .inl ⟨rfl,.type "int",false,λH=>.inl (.int _),nofun,rfl,rfl,rfl⟩
 | str i=>unfold Rep at hx hy;subst hx hy;exact .inl ⟨rfl,.type "str",false,λH=>.inl (.str _),nofun,rfl,rfl,rfl⟩
 | non=>unfold Rep at hx hy;subst hx hy;exact .inl ⟨rfl,.type "NoneType",false,λH=>.inl .non,nofun,rfl,rfl,rfl⟩
 | bl i=>unfold Rep at hx hy;subst hx hy;exact .inl ⟨rfl,.type "bool",true,λH=>.inl (.bl _),nofun,rfl,rfl,rfl⟩
 | tup ds =>
  unfold Rep at hx hy;obtain⟨a,xs,rfl,h1,h2⟩:=hx;obtain⟨a',ys,rfl,h1',h2'⟩:=hy;exact .inr ⟨"tuple",a,a',xs,ys,ds,rfl,rfl,.inl ⟨rfl,h1⟩,.inl ⟨rfl,h1'⟩,h2,h2',by rw[DV.dp],by rw[DV.wd];omega,by rw[DV.wd];omega⟩
 | lst ds =>
  unfold Rep at hx hy;obtain⟨a,xs,rfl,h1,h2⟩:=hx;obtain⟨a',ys,rfl,h1',h2'⟩:=hy;exact .inr ⟨"list",a,a',xs,ys,ds,rfl,rfl,.inr ⟨rfl,h1⟩,.inr ⟨rfl,h1'⟩,h2,h2',by rw[DV.dp],by rw[DV.wd];omega,by rw[DV.wd];omega⟩
section
variable{X:Cx}
def Lo(K:Frag)(tl:TE):TI:=λσ H R=>tl σ H λx H1=>∃ a,x = .ref a/\(((∃ xs,SqL K H1 a xs)/\R (Mn K a) H1)\/((∃ xs,SqT K H1 a xs)/\R (Mm K a) H1))
theorem MC(K:Frag)(hl:PE X l tl)(hK:X.K=K:=by rfl):PI X tg l (Lo K tl):=by
 subst hK;intro pins s σ H R I h;refine qZ (hl pins s σ H _ I h) λv s1 ⟨x,H1,I1,r1,q1⟩=>?_;obtain⟨a,e,q1⟩:=q1;subst e;cases r1;have fp1:∀ b∈[s1.heap.objs.size],sT X pins H1 b:=λb hb=>by
  have e:b=s1.heap.objs.size:=by simpa using hb
  subst e;exact I1.fpOk (af _) (I1.hok.fresh (af _))
 rcases q1 with⟨⟨xs,hq⟩,q⟩|⟨⟨xs,hq⟩,q⟩
 ·obtain⟨its,rv,p,hz⟩:=I1.list hq;exact wpAny_pyIter_list p.isList ⟨s1.heap.objs.size,[s1.heap.objs.size],_,_,H1,rfl,I1.kept (t':=s1.toks) λb o e=>ηH _ e,Ba a _,⟨_,ηG _ rfl,rfl,rfl⟩,fp1,q⟩
 ·obtain⟨its,rv,p,hz⟩:=I1.tuple hq;exact wpAny_pyIter_tuple (show s1.heap.IsTuple a its.toArray from p) ⟨s1.heap.objs.size,[s1.heap.objs.size],_,_,H1,rfl,I1.kept (t':=s1.toks) λb o e=>ηH _ e,yY a _,⟨_,ηG _ rfl,rfl,rfl⟩,fp1,q⟩
def Jv(K:Frag):R2:=λx y H Q=>∃ a b ys,x = .ref a/\y = .ref b/\SqT K H a []/\SqT K H b ys/\Q (.ref b) H
theorem Kc(K:Frag)(hK:X.K=K:=by rfl):OpR X (binaryOp .Add) (Jv K):=by
 subst hK;intro pins s σ H x y u v Q I rx ry h;obtain⟨a,b,ys,rfl,rfl,h1,h2,q⟩:=h;cases rx;cases ry;obtain⟨its,rv,p,_⟩:=I.tuple h1;obtain⟨its2,rv2,p2,_⟩:=I.tuple h2;cases rv;obtain⟨⟨cls,dd,data,sl⟩,ho,hc,n,hd⟩:=id p;obtain⟨⟨cls2,dd2,data2,sl2⟩,ho2,hc2,n2,hd2⟩:=id p2;simp only at hc hd hc2 hd2;subst hc hd hc2 hd2;exact concat_meets ⟨_,ho,rfl⟩ ⟨_,ho2,rfl⟩ noFill_tuple_add seq_tuple_add PySem.F.slot_tuple_add PySem.F.entry_tuple_add (PySem.F.args_tuple_add_2 _ _)
  (tuple_addW0 a b ([]:List Value).toArray its2.toArray n n2 dd dd2 sl sl2 (by simp)) ⟨ho,ho2,⟨.ref b,H,I,rfl,q⟩⟩
def F1(K:Frag)(neg:Bool):R2:=λx y H Q=>∃ ds ds',Rep K H (.lst ds) x/\Rep K H (.lst ds') y/\DV.pls ds=true/\DV.pls ds'=true/\DV.dps ds<=60/\∀ b,(b=true↔ds=ds')->Q (.bl (if neg then !b else b)) H
theorem Lu(K:Frag)(hr:Room k X.A)(hK:X.K=K:=by rfl):OpR X (compareOp .Eq) (F1 K false):=by
 subst hK;intro pins s σ H x y u v Q I rx ry h;obtain⟨ds,ds',h1,h2,p1,p2,hu,q⟩:=h;have hun:=hr.units;unfold Rep at h1 h2;obtain⟨a,vs,rfl,t1,r1⟩:=h1;obtain⟨a',vs',rfl,t2,r2⟩:=h2;cases rx;cases ry;obtain⟨its,rv,p,_⟩:=I.list t1;obtain⟨its',rv',p',_⟩:=I.list t2;obtain⟨f,hf,hi⟩:=zW I ds ds' X.A.in1 r1 r2 rv rv' p1 p2 (by show X.A.units+1+_+1<_;omega);by_cases hz:its.length=its'.length
 ·refine SeqAt.RcAt.lists p.isList p'.isList (by simpa using hz) (by omega) (e:=f) (λj h1 h2=>?_) _ _ _ _ ⟨.bl _,H,I,rfl,q _ ?_⟩
  ·have q:=hf j (by simpa using h1) (by simpa using h2);simpa using q
  ·simp only[aj];rw[xF hz] at hi;exact hi
 ·refine SeqAt.RcAt.lists_lengths p.isList p'.isList (by simpa using hz) (by omega) _ _ _ _ ⟨.bl false,H,I,rfl,q false ?_⟩;simp only[bQ,false_iff];intro z;have l1:=r1.length;have l2:=r2.length;rw[z] at l1;exact hz (by rw[← rv.length,← rv'.length,← l1,← l2])
theorem Lf(K:Frag)(hr:Room k X.A)(hK:X.K=K:=by rfl):OpR X (compareOp .NotEq) (F1 K true):=by
 subst hK;intro pins s σ H x y u v Q I rx ry h;obtain⟨ds,ds',h1,h2,p1,p2,hu,q⟩:=h;have hun:=hr.units;unfold Rep at h1 h2;obtain⟨a,vs,rfl,t1,r1⟩:=h1;obtain⟨a',vs',rfl,t2,r2⟩:=h2;cases rx;cases ry;obtain⟨its,rv,p,_⟩:=I.list t1;obtain⟨its',rv',p',_⟩:=I.list t2;obtain⟨f,hf,hi⟩:=zW I ds ds' X.A.in1 r1 r2 rv rv' p1 p2 (by show X.A.units+1+_+1<_;omega);by_cases hz:its.length=its'.length
 ·refine SeqAt.RcNeAt.lists p.isList p'.isList (by simpa using hz) (by omega) (e:=f) (λj h1 h2=>?_) _ _ _ _ ⟨.bl _,H,I,rfl,q _ ?_⟩
  ·have q:=hf j (by simpa using h1) (by simpa using h2);simpa using q
  ·simp only[aj];rw[xF hz] at hi;exact hi
 ·refine SeqAt.RcNeAt.lists_lengths p.isList p'.isList (by simpa using hz) (by omega) _ _ _ _ ⟨.bl true,H,I,rfl,q false ?_⟩;simp only[bQ,false_iff];intro z;have l1:=r1.length;have l2:=r2.length;rw[z] at l1;exact hz (by rw[← rv.length,← rv'.length,← l1,← l2])
end
end L2
namespace Po
open L2
def gl(b:Nat)(ts:List Int):Nat:=ts.foldl (λg t=>Nat.gcd g t.natAbs) b
theorem xO:∀(ts:List Int) (b:Nat),gl b ts∣b/\∀ t∈ts,gl b ts∣t.natAbs
 | [],b=>⟨Nat.dvd_refl b,λt ht=>absurd ht aK⟩
 | t::ts,b=>by
  have ih:=xO ts (Nat.gcd b t.natAbs);refine⟨Nat.dvd_trans ih.1 (Nat.gcd_dvd_left _ _),λu hu=>?_⟩;rcases ao.mp hu with rfl|hu
  ·exact Nat.dvd_trans ih.1 (gR _ _)
  ·exact ih.2 u hu
theorem z5{c d:Nat}:∀(ts:List Int) (b:Nat),d∣c*b->(∀ t∈ts,d∣c*t.natAbs)->d∣c*gl b ts
 | [],b,h,_=>h
 | t::ts,b,h,ht=>by
  refine z5 ts (Nat.gcd b t.natAbs) ?_ λu hu=>ht u (az _ hu);rw[← Nat.gcd_mul_left];exact Nat.dvd_gcd h (ht t aF)
structure Fm (P:List Int)(B:Int):Prop where
 pos:0<B
 last:P=[]\/P.getD (P.length-1) 0≠0
 gcd:gl B.natAbs P=1
theorem getD_mem{P:List Int}{t:Int}(h:t∈P):∃ k,P.getD k 0=t:=by
 obtain⟨k,hk,e⟩:=gF h;exact⟨k,by simp[List.getD,hk,e]⟩
theorem DF{P P':List Int}{B B':Int}(F:Fm P B)(h:∀ k,P.getD k 0*B'=P'.getD k 0*B):B.natAbs∣B'.natAbs:=by
 have q:=z5 (c:=B'.natAbs) (d:=B.natAbs) P B.natAbs (dS _ _) λt ht=>by
  obtain⟨k,rfl⟩:=getD_mem ht;have e:=congrArg Int.natAbs (h k);rw[bF,bF] at e;rw[aS,e];exact dS _ _
 rw[F.gcd,dM] at q;exact q
theorem Dj{P P':List Int}(l:P=[]\/P.getD (P.length-1) 0≠0)(h:∀ k,P.getD k 0=P'.getD k 0):P.length<=P'.length:=by
 rcases l with rfl|l
 ·exact aC _
 ·rcases aD P'.length P.length with z|z
  ·refine absurd ?_ l;rw[h,ah,bw (by omega)];rfl
  ·exact z
theorem uniq(F:Fm P B)(F':Fm P' B')(h:∀ k,P.getD k 0*B'=P'.getD k 0*B):P=P'/\B=B':=by
 have d1:=DF F h;have d2:=DF F' λk=>(h k).symm;have e:=Nat.dvd_antisymm d1 d2;have p1:=F.pos;have p2:=F'.pos;have eB:B=B':=by omega
 subst eB;have hk:∀ k,P.getD k 0=P'.getD k 0:=λk=>aw (by omega) (h k);have l1:=Dj F.last hk;have l2:=Dj F'.last λk=>(hk k).symm;refine⟨dj (by omega) λk h1 h2=>?_,rfl⟩;have q:=hk k;simp[List.getD,h1,h2] at q;exact q
theorem Dw(g:Nat):∀(ts:List Int) (b:Nat),gl (g*b) (ts.map λt=>(g:Int)*t)=g*gl b ts
 | [],b=>rfl
 | t::ts,b=>by
  show gl (Nat.gcd (g*b) ((g:Int)*t).natAbs) (ts.map λt=>(g:Int)*t)=g*gl (Nat.gcd b t.natAbs) ts;rw[bF,bS,Nat.gcd_mul_left];exact Dw g ts _
theorem Dv(h:0<b)(ts:List Int):0<gl b ts:=Nat.pos_of_dvd_of_pos (xO ts b).1 h
theorem form{ts:List Int}{b:Int}{m:Nat}(hb:0<b)(hm:m<=ts.length)(h0:∀ j,m<=j->ts.getD j 0=0)(hl:m=0\/ts.getD (m-1) 0≠0) :
  Fm ((ts.take m).map λt=>t.fdiv ((gl b.natAbs (ts.take m):Nat):Int)) (b.fdiv ((gl b.natAbs (ts.take m):Nat):Int)) /\
  (∀ k,((ts.take m).map λt=>t.fdiv ((gl b.natAbs (ts.take m):Nat):Int)).getD k 0*b=ts.getD k 0*(b.fdiv ((gl b.natAbs (ts.take m):Nat):Int))):=by
 have g0:0<gl b.natAbs (ts.take m):=Dv (by omega) _;have gd:=xO (ts.take m) b.natAbs;generalize hg:gl b.natAbs (ts.take m)=g at *;have gi:(g:Int)≠0:=by omega
 have ex:∀ t:Int,g∣t.natAbs->t=(g:Int)*t.fdiv (g:Int):=λt ht=>by
  obtain⟨c,e⟩:(g:Int)∣t:=by first|exact Int.ofNat_dvd_left.mpr ht|exact Int.natAbs_dvd_natAbs.mp (by rw[bS];exact ht)
  rw[e,dP _ gi]
 have eb:=ex b gd.1;have et:ts.take m=((ts.take m).map λt=>t.fdiv (g:Int)).map λt=>(g:Int)*t:=by
  rw[List.map_map];refine (List.map_id (ts.take m)).symm.trans (List.map_congr_left λt ht=>?_);exact ex t (gd.2 t ht)
 have bp:0<b.fdiv (g:Int):=by
  rcases e7 (b.fdiv (g:Int)) 0 with z|z|z
  ·have:=gh (show (0:Int)<(g:Int) by omega) z;omega
  ·rw[z,bU] at eb;omega
  ·exact z
 have kk:∀ k,((ts.take m).map λt=>t.fdiv (g:Int)).getD k 0*(g:Int)=ts.getD k 0:=λk=>by
  by_cases hk:k<m
  ·have h1:k<(ts.take m).length:=by rw[bh];omega
   have h2:k<ts.length:=by omega
   have e1:((ts.take m).map λt=>t.fdiv (g:Int)).getD k 0=(ts[k]).fdiv (g:Int):=by
    rw[ah,aJ,dO hk,ar h2];rfl
   have e2:ts.getD k 0=ts[k]:=by rw[ah,ar h2];rfl
   have mem:ts[k]∈ts.take m:=by
    refine aP (i:=k) ?_;rw[dO hk,ar h2]
   rw[e1,e2,bK];exact (ex _ (gd.2 _ mem)).symm
  ·rw[h0 k (by omega),ah,bw (by rw[aa,bh];omega)];exact ay _
 refine⟨⟨bp,?_,?_⟩,λk=>?_⟩
 ·have hlen:((ts.take m).map λt=>t.fdiv (g:Int)).length=m:=by rw[aa,bh];omega
  rcases hl with z|z
  ·left;subst z;simp
  ·right;rw[hlen];intro c;have q:=kk (m-1);rw[c,ay] at q;exact z q.symm
 ·have q:=Dw g ((ts.take m).map λt=>t.fdiv (g:Int)) (b.fdiv (g:Int)).natAbs;rw[← et] at q;have e:g*(b.fdiv (g:Int)).natAbs=b.natAbs:=by
   conv=>rhs;rw[eb,bF,bS]
  rw[e,hg] at q;exact fU g0 (by omega)
 ·rw[← kk k,bZ,← eb]
end Po
namespace L2
open PySem PySem.Spec PyProof.Rows
section
variable{X:Cx}
theorem wo:∀{ns:List Int} {us:List Value},Vals (ns.map V.int) us->∃ xs:List (Int×Tok),us=xs.map (λp=>Value.int p.1 p.2)/\xs.map (·.1)=ns
 | [],_,.nil=>⟨[],rfl,rfl⟩
 | n::ns,_,.cons r t=>by
  obtain⟨tk,e⟩:∃ t,_=Value.int n t:=r;obtain⟨xs,e1,e2⟩:=wo t;exact⟨(n,tk)::xs,by rw[e,e1];rfl,by rw[← e2];rfl⟩
theorem Li(K:Frag)(hc:X.calm=true:=by rfl)(hK:X.K=K:=by rfl):CallR X (.builtin "max") (λxs H Q=>∃ p,∃ ns:List Int,xs=[.ref p]/\SqL K H p (ns.map V.int)/\ns≠[]/\∀ M,M∈ns->(∀ a∈ns,a<=M)->Q (.int M) H):=by
 subst hK;intro pins s σ H xs us Q I rv h;obtain⟨p,ns,rfl,hp,hn,q⟩:=h;obtain⟨u,rfl,ru⟩:=rv.one;cases ru;obtain⟨its,rv',pl,_⟩:=I.list hp;obtain⟨ys,e1,e2⟩:=wo rv';subst e1;have hl:s.heap.IsList p (intItems ys.toArray):=by
  have:intItems ys.toArray=(ys.map (λp=>Value.int p.1 p.2)).toArray:=by simp[intItems]
  rw[this];exact pl.isList
 have hsz:0<ys.toArray.size:=by
  rcases ys with _|⟨y,ys⟩
  ·exact absurd e2.symm hn
  ·simp
 refine max_intList (I.ok.hd hc) hl hsz λv h' tk hv hk=>?_;obtain⟨t,rfl⟩:=intItems_at hv;obtain⟨h1,h2⟩:=argBest_gt (numAt ys.toArray) (ys.toArray.size-1);refine⟨.int _,H,I.kept (t':=tk) hk,⟨t,rfl⟩,q _ ?_ λa ha=>?_⟩
 ·rw[numAt_eq,← e2];exact PySem.getD_mem (by simp only[aj,aa] at *;omega)
 ·rw[← e2] at ha;obtain⟨j,hj,rfl⟩:=PySem.mem_getD ha;rw[aa] at hj;have:=h2 j (by rw[aj];omega);rw[numAt_eq] at this;exact this
end
def Pol(H:Hp)(v:V)(P:List Int)(B:Int):Prop:=∃ a t,v = .ref a/\H a=some (.tup [.ref t,.int B])/\H t=some (.tup (P.map V.int))
theorem Iv:bootBuiltins "max" = some (.builtin "max"):=by decide +kernel
theorem Iu:bootBuiltins "min" = some (.builtin "min"):=by decide +kernel
section
variable{X:Cx}{pins:List (Addr×Obj)}{σ:St}{H:Hp}{s:Shared}{h':Heap}
theorem Inv.turnedL{t':Nat}{fp:List Addr}(I:Inv X pins σ H s)(k:∀ b o,b ∉ fp->s.heap.get? b=some o->h'.get? b=some o)(hf:∀ b∈fp,sT X pins H b):Inv X pins σ H { s with heap:=h',toks:=t' }:=by
 have nit:∀ b u,H b=some u->b ∉ fp:=λb u e z=>by rw[(hf b z).1] at e;cases e
 have hL:X.env.locals ∉ fp:=λz=>(hf _ z).2.1 rfl;refine I.step (g':=s.gens) (d':=s.drawn) (ch:=fp) (λb hb=>⟨(hf b hb).2.2.2.1,(hf b hb).2.1,(hf b hb).2.2.2.2.1,(hf b hb).2.2.2.2.2⟩) (λb o _ _ hc e _=>k b o hc e) (λb o _ _ hc e _=>⟨o.slots,k b o hc e⟩) (λ_ _ _ _ n=>n)
  (λb o hc e=>⟨o,k b o hc e⟩) (λ_ _ e=>e) (λ_ _ _ e=>e) (λb ps e=>⟨#[],by rw[e];simp⟩) (λm ⟨o,es,ep,ho,r⟩=>⟨o,es,ep,k _ o hL ho,r⟩) (λb u e=>?_) I.bare
 refine (I.hok b u e).stay (λc v hc q=>k c v (hc.elim (λz=>by rw[z];exact nit b u e) λz=>nit c _ z) q) (λ_ q=>q) λ_ _ q=>q
end
section
variable{prog:Program}{w:World}{A:Around}{E:Value->Shared->Prop}{s:Shared}
theorem zJ(hit:s.heap.IsTupleIter it t i)(ht:s.heap.IsTuple t items)(hx:items[i]? = some x)
  (hQ:∀ h',h'.IsTupleIter it t (i+1)->Heap.SameBut it s.heap h'->Q x { s with heap:=h' }):wpAny (model prog w) A (Builtin.SmallTypes.nextOf (.ref it)) Q E s:=by
 obtain⟨o,ho,hc,hd⟩:=id hit;obtain⟨ol,hol,_,nl,hdl⟩:=ht;unfold Builtin.SmallTypes.nextOf;refine ηB (wpAny_callSpecial?_slot (name:=Str.ofString "__next__") hit.typeIs F.slot_tuple_iterator_next (wpAny_call_entry F.slot_tuple_iterator_next hit.typeIs F.entry_tuple_iterator_next ?_ (F.args_tuple_iterator_next_1 _)));show wpAny _ _ (field (.ref it) 0 >>= _) _ _ s;refine ηB (wpAny_field ho hd (x:=.ref t) rfl ?_);show wpAny _ _ (if (Value.ref t == Value.none)=true then _ else _) _ _ s;rw[if_neg (show ¬ ((Value.ref t == Value.none)=true) from aB)];show wpAny _ _ (field (.ref it) 1 >>= _) _ _ s;refine ηB (wpAny_field ho hd (x:=.int i 0) rfl ?_);show wpAny _ _ (seqItems? (.ref t) >>= _) _ _ s;refine ηB (wpAny_seqItems hol hdl ?_);simp only[aG,hx];refine ηB (wpAny_setField ho hd (by simp) (ηP ⟨x,rfl,ηP (hQ _ ⟨_,Heap.get?_update_self _ ho (Obj.isFreed_of_fields (Obj.data_mapFields hd _)),(Obj.cls_mapFields ..).trans hc,by rw[Obj.data_mapFields hd];simp[rawInt]⟩ (Heap.SameBut.update ..))⟩))
theorem wI(hh:A.handled=none)(hit:s.heap.IsTupleIter it t i)(ht:s.heap.IsTuple t items)(hx:items[i]? = none)
  (hE:∀ h' e,Heap.ExtBut it s.heap h'->(∃ o,h'.get? e=some o/\o.cls = .type "StopIteration")->E (.ref e) { s with heap:=h' }):wpAny (model prog w) A (Builtin.SmallTypes.nextOf (.ref it)) Q E s:=by
 obtain⟨o,ho,hc,hd⟩:=id hit;obtain⟨ol,hol,_,nl,hdl⟩:=ht;unfold Builtin.SmallTypes.nextOf;refine ηB (wpAny_callSpecial?_slot (name:=Str.ofString "__next__") hit.typeIs F.slot_tuple_iterator_next (wpAny_call_entry F.slot_tuple_iterator_next hit.typeIs F.entry_tuple_iterator_next ?_ (F.args_tuple_iterator_next_1 _)));show wpAny _ _ (field (.ref it) 0 >>= _) _ _ s;refine ηB (wpAny_field ho hd (x:=.ref t) rfl ?_);show wpAny _ _ (if (Value.ref t == Value.none)=true then _ else _) _ _ s;rw[if_neg (show ¬ ((Value.ref t == Value.none)=true) from aB)];show wpAny _ _ (field (.ref it) 1 >>= _) _ _ s;refine ηB (wpAny_field ho hd (x:=.int i 0) rfl ?_);show wpAny _ _ (seqItems? (.ref t) >>= _) _ _ s;refine ηB (wpAny_seqItems hol hdl ?_);simp only[aG,hx];refine ηB (wpAny_rule (ηB (wpAny_setField ho hd (by simp) ?_)));show wpAny _ _ (newExc (.type "StopIteration") [] >>= _) ..;refine ηB ?_;simp only[newExc,newTuple];refine ηB (wpAny_newObj_type ?_ (by size_fits));refine ηB (m:=firstArgMember _ _) (wpAny_of_eq (a:=Value.none) (by first|rfl|(simp only[firstArgMember];rfl)) ?_);refine wpAny_newObj_type ?_ (by size_fits);simp only[raiseNew];refine ηB (wpAny_handled ?_);first|rw[show A.in1.handled=none from hh]|rw[hh]
 refine ηB (ηP (wpAny_throw ?_));exact hE _ _ (((Heap.SameBut.update ..).extBut.push _).push _) ⟨_,ηG _ rfl,rfl⟩
end
theorem Im{prog:Program}{w:World}{A:Around}(hh:A.handled=none)(it l:Addr)(hne:l≠it)(items:Array Value):Draws prog w A it [it,l] items.size (λi v=>items[i]? = some v) (λi h=>h.IsTupleIter it l i/\h.IsTuple l items) where
 live:=λ_ _ st=>let ⟨o,ho,_⟩:=st.1;⟨o,ho⟩
 frame:=λ_ _ _ st hk=>⟨let ⟨o,ho,r⟩:=st.1;⟨o,hk it (by simp) o ho,r⟩,let ⟨o,ho,r⟩:=st.2;⟨o,hk l (by simp) o ho,r⟩⟩
 item:=λi s Q E hi st hQ=>zJ st.1 st.2 (x:=items[i]) (by simp[hi]) λh' hit' hs'=>hQ _ h' s.toks (by simp[hi]) ⟨hit',let ⟨o,ho,r⟩:=st.2;⟨o,(hs'.2 l hne).trans ho,r⟩⟩ hs'
 done:=λs Q E st hE=>wI hh st.1 st.2 (by simp) hE
theorem BR(l:Addr)(items:Array Value)(n:Nat)(dct:Option Addr)(sl:Array (Option Value)) :
  Meets (Builtin.«enumerate.__new__» ⟨[.type "enumerate",.ref l],[]⟩) (λ_ R s=>s.heap.get? l=some { cls:=.type "tuple",dict:=dct,data:=.seq items n,slots:=sl } /\
   R (.ok (.ret (.ref (s.heap.push { cls:=.type "tuple_iterator",data:=.fields #[.ref l,.int 0 0] }).objs.size)))
    { s with heap:=(s.heap.push { cls:=.type "tuple_iterator",data:=.fields #[.ref l,.int 0 0] }).push { cls:=.type "enumerate",data:=.fields #[.none,.bool false,.ref s.heap.objs.size,rawInt 0,.none,.none] } }) :=
 .of_wp λprog w A R s h=>by
  obtain⟨hp,g,d,tk,os⟩:=s;obtain⟨hl,h⟩:=h;have hsub:=sub_enumerate;have hL:Heap.IsTuple (Shared.heap ⟨hp,g,d,tk,os⟩) l items:=⟨_,hl,rfl,n,rfl⟩
  wp_walk using AutoSeq1.wpAny_loadPart' hl
  refine wpAny_stack_any λst=>ηP ?_;split
  ·rename_i c _ _ _ _ _;cases (c == Value.type "enumerate") <;> (wp_walk using AutoSeq1.wpAny_loadPart' hl,wpAny_pyIter_tuple hL;exact⟨_,rfl,h⟩)
  ·wp_walk using AutoSeq1.wpAny_loadPart' hl,wpAny_pyIter_tuple hL;exact⟨_,rfl,h⟩
def KA(Sq:Hp->List V->Prop):It:=⟨λi H=>∃ xs x,Sq H xs/\xs[i]? = some x,λi H x H'=>∃ p v,x = .ref p/\H p=none/\H'=rg H p (.tup [.int i,v])/\∀ xs,Sq H xs->xs[i]? = some v,λi H=>∃ xs,Sq H xs/\xs.length<=i⟩
theorem wW{X:Cx}{pins:List (Addr×Obj)}{σ:St}{H:Hp}{s:Shared}{h1 h2:Heap}{e it:Addr}{tk t2:Nat}{i:Nat}{x:V}{u:Value}(I:Inv X pins σ H s)(hf:∀ b∈[e,it],sT X pins H b)(le:e<s.heap.objs.size)(li:it<s.heap.objs.size)(ru:RelV x u)
  (hT:h1.get? s.heap.objs.size=some { cls:=.type "tuple",data:=.seq #[.int i tk,u] }) (hk:∀ b o,b≠e->b≠it->s.heap.get? b=some o->h1.get? b=some o) (hs:Heap.SameBut e h1 h2) :
  Inv X pins σ (rg H s.heap.objs.size (.tup [.int i,x])) { s with heap:=h2,toks:=t2 }/\∀ b∈[e,it],rg H s.heap.objs.size (.tup [.int i,x]) b=none:=by
 have lt:∀ b∈[e,it],b≠s.heap.objs.size:=λb hb=>by
  rcases ao.mp hb with z|z
  ·rw[z];exact aO le
  ·rw[aV.mp z];exact aO li
 have I1:Inv X pins σ (rg H s.heap.objs.size (.tup [.int i,x])) { s with heap:=s.heap.push { cls:=.type "tuple",data:=.seq #[.int i tk,u] },toks:=t2 } :=
  I.laid (t':=t2) (λb u e=>ηH _ e) (af _) ⟨by show 2<=sizeLine;decide,[.int i tk,u],.cons ⟨tk,rfl⟩ (.cons ru .nil),⟨_,ηG _ rfl,rfl,_,rfl⟩⟩
 have nn:∀ b∈[e,it],rg H s.heap.objs.size (.tup [.int i,x]) b=none:=λb hb=>by
  rw[qJ (lt b hb)];exact (hf b hb).1
 refine⟨Inv.turnedL (s:={ s with heap:=s.heap.push { cls:=.type "tuple",data:=.seq #[.int i tk,u] },toks:=t2 }) (t':=t2) (fp:=[e,it]) I1 (λb o hb q=>?_) λb hb=>⟨nn b hb,(hf b hb).2⟩,nn⟩;have be:b≠e:=λz=>hb (by simp[z]);have bi:b≠it:=λz=>hb (by simp[z]);refine (hs.2 b be).trans ?_;rcases Heap.get?_push_cases q with⟨z1,z2⟩|z
 ·rw[z1,z2];exact hT
 ·exact hk b o be bi z
theorem BS{prog:Program}{w:World}{A:Around}{E:Value->Shared->Prop}{s:Shared}{e it l:Addr}{i:Nat}{items:Array Value}{old:Value}{Q:Option Value->Shared->Prop}(hh:A.handled=none)(he:IsEnum s.heap e it i old)(hit:s.heap.IsTupleIter it l i)(hl:s.heap.IsTuple l items)
  (hx:items[i]? = none) (hQ:∀ h',Heap.ExtBut it s.heap h'->Q none { s with heap:=h' }):wpAny (model prog w) A (pyNext (.ref e)) Q E s:=by
 have hT:s.TypeIs (.ref e) "enumerate" := ⟨_,he,rfl⟩;unfold pyNext;refine ηB (wpAny_attempt (wpAny_callSpecial?_slot (name:=Str.ofString "__next__") hT F.slot_enumerate_next (wpAny_call_entry F.slot_enumerate_next hT F.entry_enumerate_next ?_ (F.args_enumerate_next_1 _))));show wpAny _ _ (field (.ref e) 2 >>= _) _ _ _;refine ηB (wpAny_field he rfl (x:=.ref it) rfl ?_);refine ηB (wI (A:=A.in1) hh hit hl hx λh' x he' hx'=>?_);obtain⟨o,ho,hc⟩:=hx';exact ηB (wpAny_isInstance (T := "StopIteration") (b:=true) ⟨o,ho,hc⟩ isSubtype_stop (ηP (hQ _ he')))
theorem zY(hL:s.heap.IsTuple l items)
  (h:∀ h',IsEnum h' (s.heap.objs.size+1) s.heap.objs.size 0 .none->h'.IsTupleIter s.heap.objs.size l 0->h'.objs.size=s.heap.objs.size+2->(∀ b o,s.heap.get? b=some o->h'.get? b=some o)->Q (.ref (s.heap.objs.size+1)) { s with heap:=h' }) :
  wpAny (model prog w) A (call (.type "enumerate") [.ref l]) Q E s:=by
 obtain⟨⟨c,dct,dt,sl⟩,hl,hc,n,hd⟩:=hL;have hc':c = .type "tuple" := hc;have hd':dt = .seq items n:=hd;subst hc' hd';refine callType_new F.called_enumerate (by decide) (F.typeCall_enumerate_1 _) (F.newCall_enumerate_1 _) (λobj=>F.args_object_init_2 obj _) F.entry_enumerate_new (BR l items n dct sl) ⟨hl,?_⟩;have hz:(s.heap.push { cls:=.type "tuple_iterator",data:=.fields #[.ref l,.int 0 0] }).objs.size=s.heap.objs.size+1:=Heap.size_push ..;show _/\_;rw[hz];have he:IsEnum ((s.heap.push { cls:=.type "tuple_iterator",data:=.fields #[.ref l,.int 0 0] }).push { cls:=.type "enumerate",data:=.fields #[.none,.bool false,.ref s.heap.objs.size,rawInt 0,.none,.none] }) (s.heap.objs.size+1) s.heap.objs.size 0 .none:=by
  have:=ηG (s.heap.push { cls:=.type "tuple_iterator",data:=.fields #[.ref l,.int 0 0] }) (o:={ cls:=.type "enumerate",data:=.fields #[.none,.bool false,.ref s.heap.objs.size,rawInt 0,.none,.none] }) rfl;rw[hz] at this;exact this
 exact⟨⟨_,he,rfl⟩,h _ he ⟨_,ηH _ (ηG _ rfl),rfl,rfl⟩ (by rw[Heap.size_push,hz]) λb o x=>ηH _ (ηH _ x)⟩
theorem y6{P:Program}{w:World}{K:Frag}{es:List Expr}{kk:Nat}{ps:Pos}(a e it:Addr)(hei:e≠it):Turn P w K (.Tuple es kk ps) (KA λH xs=>SqL K H a xs) [e,it] e (λi h=>(∃ old,IsEnum h e it i old)/\h.IsListIter it a i) where
 mem:=by simp
 obj:=λi h st b hb=>by
  obtain⟨⟨old,he⟩,o,ho,hc,hd⟩:=st;rcases ao.mp hb with z|z
  ·rw[z];exact⟨_,he,λv q=>by cases q⟩
  ·rw[aV.mp z];exact⟨o,ho,λv q=>by rw[hd] at q;cases q⟩
 keep:=λi h h' st k=>by
  obtain⟨⟨old,he⟩,o,ho,r⟩:=st;exact⟨⟨old,k e (by simp) _ he⟩,o,k it (by simp) o ho,r⟩
 item:=by
  intro X hP hw hK hc i pins s σ H E I hf st hg;subst hP hw hK;obtain⟨xs,x,hq,hx⟩:=hg;obtain⟨its,rv,p,hz⟩:=I.list hq;obtain⟨u,hu,ru⟩:=rv.get hx;obtain⟨⟨old,he⟩,hit⟩:=st;have hl:s.heap.IsList a its.toArray:=p.isList;have hne:a≠it:=λz=>by
   obtain⟨o,ho,c,_⟩:=id hl;obtain⟨o',ho',c',_⟩:=id hit;rw[z,ho'] at ho;cases ho;rw[c'] at c;revert c;decide
  have hae:e≠a:=λz=>by
   obtain⟨o,ho,c,_⟩:=id hl;rw[← z,he] at ho;cases ho;have c':Value.type "enumerate" = Value.type _:=c;revert c';decide
  have le:e<s.heap.objs.size:=ηL he;have li:it<s.heap.objs.size:=by obtain⟨o,ho,_⟩:=id hit;exact ηL ho
  refine wpAny_pyNext_enum_itemD (Draws.list (A:=X.A.in1) (I.ok.hd hc) it a hne its.toArray) he ⟨hit,hl⟩ (by have:=(ai.mp hu).1;simpa using this) hei (by simp[hei,hae]) λy h1 tk hP ho hst hT hsz hk=>?_;have hy:its[i]? = some y:=by simpa using hP
  rw[hu] at hy;cases hy;refine⟨_,rfl,wpAny_letOwnedTupleGo_enum ho λh2 he2 hs2=>?_⟩;obtain⟨I2,n2⟩:=wW (t2:=tk+1) I hf le li ru hT hk hs2;refine⟨.ref s.heap.objs.size,_,I2,rfl,⟨_,x,rfl,I.hok.fresh (af _),rfl,λys hy=>by rw[I.list_inj hy hq];exact hx⟩,⟨⟨_,by simpa using he2⟩,?_⟩,n2⟩;obtain⟨o,ho1,r⟩:=hst.1;exact⟨o,(hs2.2 it hei.symm).trans ho1,r⟩
 done:=by
  intro X hP hw hK hc i pins s σ H E I hf st hg;subst hP hw hK;obtain⟨xs,hq,hx⟩:=hg;obtain⟨its,rv,p,hz⟩:=I.list hq;obtain⟨⟨old,he⟩,hit⟩:=st;have hl:s.heap.IsList a its.toArray:=p.isList;have hne:a≠it:=λz=>by
   obtain⟨o,ho,c,_⟩:=id hl;obtain⟨o',ho',c',_⟩:=id hit;rw[z,ho'] at ho;cases ho;rw[c'] at c;revert c;decide
  obtain⟨f0,f1,f2,f3,f4,f5⟩:=hf it (by simp);have le:=rv.length;refine wpAny_pyNext_enum_end (I.ok.hd hc) he hit hl (by simp;omega) λh' eb=>⟨rfl,I.turned (t':=s.toks) (λb o hb e=>eb b o hb e) f0 f1 f3 f4 f5⟩
 self:=λ_ _ _ _ _ st h=>by
  obtain⟨⟨old,he⟩,_⟩:=st;exact wpAny_pyIter_enum he h
theorem y4{P:Program}{w:World}{K:Frag}{es:List Expr}{kk:Nat}{ps:Pos}(a e it:Addr)(hei:e≠it):Turn P w K (.Tuple es kk ps) (KA λH xs=>SqT K H a xs) [e,it] e (λi h=>(∃ old,IsEnum h e it i old)/\h.IsTupleIter it a i) where
 mem:=by simp
 obj:=λi h st b hb=>by
  obtain⟨⟨old,he⟩,o,ho,hc,hd⟩:=st;rcases ao.mp hb with z|z
  ·rw[z];exact⟨_,he,λv q=>by cases q⟩
  ·rw[aV.mp z];exact⟨o,ho,λv q=>by rw[hd] at q;cases q⟩
 keep:=λi h h' st k=>by
  obtain⟨⟨old,he⟩,o,ho,r⟩:=st;exact⟨⟨old,k e (by simp) _ he⟩,o,k it (by simp) o ho,r⟩
 item:=by
  intro X hP hw hK hc i pins s σ H E I hf st hg;subst hP hw hK;obtain⟨xs,x,hq,hx⟩:=hg;obtain⟨its,rv,p,hz⟩:=I.tuple hq;obtain⟨u,hu,ru⟩:=rv.get hx;obtain⟨⟨old,he⟩,hit⟩:=st;have hl:s.heap.IsTuple a its.toArray:=p;have hne:a≠it:=λz=>by
   obtain⟨o,ho,c,_⟩:=id hl;obtain⟨o',ho',c',_⟩:=id hit;rw[z,ho'] at ho;cases ho;rw[c'] at c;revert c;decide
  have hae:e≠a:=λz=>by
   obtain⟨o,ho,c,_⟩:=id hl;rw[← z,he] at ho;cases ho;have c':Value.type "enumerate" = Value.type _:=c;revert c';decide
  have le:e<s.heap.objs.size:=ηL he;have li:it<s.heap.objs.size:=by obtain⟨o,ho,_⟩:=id hit;exact ηL ho
  refine wpAny_pyNext_enum_itemD (Im (A:=X.A.in1) (I.ok.hd hc) it a hne its.toArray) he ⟨hit,hl⟩ (by have:=(ai.mp hu).1;simpa using this) hei (by simp[hei,hae]) λy h1 tk hP ho hst hT hsz hk=>?_;have hy:its[i]? = some y:=by simpa using hP
  rw[hu] at hy;cases hy;refine⟨_,rfl,wpAny_letOwnedTupleGo_enum ho λh2 he2 hs2=>?_⟩;obtain⟨I2,n2⟩:=wW (t2:=tk+1) I hf le li ru hT hk hs2;refine⟨.ref s.heap.objs.size,_,I2,rfl,⟨_,x,rfl,I.hok.fresh (af _),rfl,λys hy=>by rw[I.tuple_inj hy hq];exact hx⟩,⟨⟨_,by simpa using he2⟩,?_⟩,n2⟩;obtain⟨o,ho1,r⟩:=hst.1;exact⟨o,(hs2.2 it hei.symm).trans ho1,r⟩
 done:=by
  intro X hP hw hK hc i pins s σ H E I hf st hg;subst hP hw hK;obtain⟨xs,hq,hx⟩:=hg;obtain⟨its,rv,p,hz⟩:=I.tuple hq;obtain⟨⟨old,he⟩,hit⟩:=st;have hl:s.heap.IsTuple a its.toArray:=p;have hne:a≠it:=λz=>by
   obtain⟨o,ho,c,_⟩:=id hl;obtain⟨o',ho',c',_⟩:=id hit;rw[z,ho'] at ho;cases ho;rw[c'] at c;revert c;decide
  obtain⟨f0,f1,f2,f3,f4,f5⟩:=hf it (by simp);have le:=rv.length;refine BS (I.ok.hd hc) he hit hl (by simp;omega) λh' eb=>⟨rfl,I.turned (t':=s.toks) (λb o hb e=>eb b o hb e) f0 f1 f3 f4 f5⟩
 self:=λ_ _ _ _ _ st h=>by
  obtain⟨⟨old,he⟩,_⟩:=st;exact wpAny_pyIter_enum he h
def JQ(K:Frag)(ta:TA):TI:=λσ H R=>ta σ H λvs H1=>∃ a,vs=[.ref a]/\(((∃ xs,SqL K H1 a xs)/\R (KA λH xs=>SqL K H a xs) H1)\/((∃ xs,SqT K H1 a xs)/\R (KA λH xs=>SqT K H a xs) H1))
theorem v6:bootBuiltins "enumerate" = some (.type "enumerate"):=by decide +kernel
theorem EM(K:Frag)(hg:Gl X "enumerate")(hm:X.mg "enumerate" = none)(ha:PA X [a] ta)(hK:X.K=K:=by rfl)(hs:starEach [a] X.env=[(false,eval a X.env)]:=by rfl):PI X (.Tuple es kk ps) (.Call (.Name "enumerate" p) [a] [] pos) (JQ K ta):=by
 subst hK;intro pins s σ H R I h;refine Call_ (rN I hg hm v6 (PyProof.Rows.callWith_type1 (qZ (ha pos pins s σ H _ I h) λus s1 ⟨vs,H1,I1,r1,q1⟩=>?_) hs rfl));obtain⟨l,e,q1⟩:=q1;subst e;obtain⟨u,rfl,ru⟩:=Vals.one r1;cases ru;have fp1:∀{h':Heap},∀ b∈[s1.heap.objs.size+1,s1.heap.objs.size],sT X pins H1 b:=λb hb=>by
  have hb':s1.heap.objs.size<=b:=by
   rcases ao.mp hb with z|z
   ·omega
   ·rw[aV.mp z];exact af _
  exact I1.fpOk hb' (I1.hok.fresh hb')
 rcases q1 with⟨⟨xs,hq⟩,q⟩|⟨⟨xs,hq⟩,q⟩
 ·obtain⟨its,rv,pl,hz⟩:=I1.list hq;refine call_enumerate_list pl.isList λh' he hit hsz hk=>?_;refine wpAny_pyIter_enum he ?_;exact⟨_,[s1.heap.objs.size+1,s1.heap.objs.size],_,_,H1,rfl,I1.kept (t':=s1.toks) hk,y6 l _ _ (Nat.succ_ne_self _),⟨⟨_,he⟩,hit⟩,fp1 (h':=h'),q⟩
 ·obtain⟨its,rv,pl,hz⟩:=I1.tuple hq;refine zY pl λh' he hit hsz hk=>?_;refine wpAny_pyIter_enum he ?_;exact⟨_,[s1.heap.objs.size+1,s1.heap.objs.size],_,_,H1,rfl,I1.kept (t':=s1.toks) hk,y4 l _ _ (Nat.succ_ne_self _),⟨⟨_,he⟩,hit⟩,fp1 (h':=h'),q⟩
theorem Lq(K:Frag)(hK:X.K=K:=by rfl):Kk X (λo i H Q=>∃ p xs v,∃ j:Nat,o = .ref p/\i = .int j/\SqL K H p xs/\xs[j]? = some v/\Q v H):=by
 subst hK;intro pins s σ H o i ov iv Q I ro ri h;obtain⟨p,xs,v,j,rfl,rfl,hq,hv,q⟩:=h;cases ro;obtain⟨t,rfl⟩:=ri;obtain⟨its,r,pl,hz⟩:=I.list hq;obtain⟨w,ew,rw'⟩:=r.get hv;have hl:=(ai.mp hv).1;have hn:=rK;exact wpAny_getItem_list pl.isList (by omega) (by omega) (by rw[aG];simpa using ew) ⟨v,H,I,rw',q⟩
end L2
namespace HT
open PySem PyProof.Rows
variable{prog:Program}{w:World}{A:Around}{E:Value->Shared->Prop}{s:Shared}
theorem tP{t sl:Addr}{items:Array Value}{vl vu:Value}{lo hi:Option Int}{Q:Value->Shared->Prop}(ht:IsTup s.heap t items)(hs:s.heap.IsSliceOf sl vl vu .none)(pl:IsPart vl lo)(pu:IsPart vu hi)
  (hw:rC items.size 0 lo=0/\rC items.size items.size hi=items.size) (h:Q (.ref t) s):wpAny (model prog w) A (getItem (.ref t) (.ref sl)) Q E s:=by
 obtain⟨os,hos,hcs,hds⟩:=id hs;have hTs:s.TypeIs (.ref sl) "slice" := ⟨os,hos,hcs⟩;unfold getItem;try with_reducible refine wpAny_holding ?_
 first|refine ηB (ηP ?_)|skip
 refine ηB (wpAny_sequenceKey ht.typeIs (by decide) ?_);refine ηB (wpAny_callSpecial?_slot (name:=Str.ofString "__getitem__") ht.typeIs PyProof.Rows.slot_tuple_getitem (wpAny_call_entry PyProof.Rows.slot_tuple_getitem ht.typeIs entry_tuple_getitem ?_ (args_tuple_getitem _ _)));show wpAny _ _ (Builtin.Tuple.tupleItemsOf (.ref t) >>= _) _ _ s;refine ηB (tupleItemsOf_ ht ?_);refine ηB (wpAny_typeOf hTs ?_);rw[if_pos (by decide)];refine ηB (sC hs pl pu ?_);have hyes:(((rC items.size 0 lo:Nat):Int) == 0 && (1:Int) == 1 && (rC items.size items.size hi-rC items.size 0 lo) == items.size)=true:=by
  rw[hw.1,hw.2];simp
 show wpAny _ _ (if (((rC items.size 0 lo:Nat):Int) == 0 && (1:Int) == 1 && (rC items.size items.size hi-rC items.size 0 lo) == items.size)=true then _ else _) _ _ s;rw[if_pos hyes];refine ηB (m:=Builtin.Tuple.tupleIsExact _) ?_;unfold Builtin.Tuple.tupleIsExact;refine ηB (wpAny_typeOf ht.typeIs (ηP ?_));rw[if_pos (by decide)];first
  | exact ηB (wpAny_rule (ηB (ηP (ηP ⟨_,rfl,ηP h⟩))))
  | exact ηB (wpAny_rule (ηP ⟨_,rfl,ηP h⟩))
  | exact ηB (wpAny_rule (ηB (ηP ⟨_,rfl,ηP h⟩)))
end HT
namespace Po
open L2
theorem FD{P:List Int}{f:Nat->Int}{B B':Int}(F:Fm P B)(h:∀ k,P.getD k 0*B'=f k*B):B.natAbs∣B'.natAbs:=by
 have q:=z5 (c:=B'.natAbs) (d:=B.natAbs) P B.natAbs (dS _ _) λt ht=>by
  obtain⟨k,rfl⟩:=getD_mem ht;have e:=congrArg Int.natAbs (h k);rw[bF,bF] at e;rw[aS,e];exact dS _ _
 rw[F.gcd,dM] at q;exact q
theorem size{P:List Int}{f:Nat->Int}{B b:Int}(F:Fm P B)(hb:0<b)(h:∀ k,P.getD k 0*b=f k*B):B.natAbs<=b.natAbs/\∀ k,(P.getD k 0).natAbs<=(f k).natAbs:=by
 have d:B.natAbs<=b.natAbs:=gk (by omega) (FD F h);refine⟨d,λk=>?_⟩;have e:=congrArg Int.natAbs (h k);rw[bF,bF] at e;have:(P.getD k 0).natAbs*b.natAbs<=(f k).natAbs*b.natAbs:=by
  rw[e];exact au _ d
 exact Nat.le_of_mul_le_mul_right this (by omega)
end Po
namespace Cv
open L2
def sm(F:Nat->Int):Nat->Int
 | 0=>0
 | n+1=>sm F n+F n
theorem qM(h:∀ j,j<n->F j=G j):sm F n=sm G n:=by
 induction n with
 | zero=>rfl
 | succ n ih=>rw[sm,sm,ih λj hj=>h j (by omega),h n (by omega)]
theorem sG(h:n<=m)(z:∀ j,n<=j->j<m->F j=0):sm F m=sm F n:=by
 induction m with
 | zero=>rw[show n=0 by omega]
 | succ m ih =>
  rcases cG h with e|e
  ·rw[e]
  ·rw[sm,ih (by omega) λj a b=>z j a (by omega),z m (by omega) (by omega),cu]
def cv(f g:Nat->Int)(k:Nat):Int:=sm (λj=>f j*g (k-j)) (k+1)
def tm(f g:Nat->Int)(i m:Nat):Int:=sm (λj=>if j<=m then f j*g (m-j) else 0) i
theorem tT(hf:∀ j,n<=j->f j=0):tm f g n m=cv f g m:=by
 unfold tm cv;have e1:sm (λj=>if j<=m then f j*g (m-j) else 0) (max n (m+1))=sm (λj=>if j<=m then f j*g (m-j) else 0) n:=sG (by omega) λj a b=>by
  show (if j<=m then f j*g (m-j) else 0)=0;rw[hf j a,ay];split <;> rfl
 have e2:sm (λj=>if j<=m then f j*g (m-j) else 0) (max n (m+1))=sm (λj=>if j<=m then f j*g (m-j) else 0) (m+1):=sG (by omega) λj a b=>if_neg (by omega);rw[← e1,e2];exact qM λj hj=>if_pos (by omega)
theorem Ay(f g:Nat->Int)(i m:Nat):tm f g (i+1) m=tm f g i m+(if i<=m then f i*g (m-i) else 0):=rfl
theorem rP(hf:∀ j,a<=j->f j=0)(hg:∀ j,b<=j->g j=0)(h:a+b-1<=k):cv f g k=0:=by
 unfold cv;have:sm (λj=>f j*g (k-j)) (k+1)=sm (λj=>f j*g (k-j)) 0:=sG (aC _) λj _ hj=>by
  show f j*g (k-j)=0;rcases aD j a with c|c
  ·rw[hg (k-j) (by omega),bU]
  ·rw[hf j c,ay]
 rw[this];rfl
theorem Gw(h:∀ j,f j=0):cv f g k=0:=by
 unfold cv;have:sm (λj=>f j*g (k-j)) (k+1)=sm (λj=>f j*g (k-j)) 0:=sG (aC _) λj _ _=>by
  show f j*g (k-j)=0;rw[h j,ay]
 rw[this];rfl
theorem J7(h:∀ j,g j=0):cv f g k=0:=by
 unfold cv;have:sm (λj=>f j*g (k-j)) (k+1)=sm (λj=>f j*g (k-j)) 0:=sG (aC _) λj _ _=>by
  show f j*g (k-j)=0;rw[h,bU]
 rw[this];rfl
theorem Co:∀{i:Nat},i<=2^b->(∀ j,j<i->Lt2 n (F j))->(sm F i).natAbs<=i*2^n
 | 0,_,_=>by simp[sm]
 | i+1,h,hF=>by
  have ih:=Co (b:=b) (i:=i) (by omega) λj hj=>hF j (by omega);have h1:=hF i (by omega);unfold Lt2 at h1;rw[sm,aY];omega
theorem DP(hf:∀ j,Lt2 n (f j))(hg:∀ j,Lt2 m (g j))(hk:k+1<2^b):Lt2 (n+m+b) (cv f g k):=by
 have:=Co (F:=λj=>f j*g (k-j)) (n:=n+m) (b:=b) (i:=k+1) (by omega) λj _=>(hf j).mul (hg _);unfold Lt2 cv;rw[gD 2 (n+m) b];have p:0<2^(n+m):=bV (by decide);refine dG this ?_;rw[aS];exact Nat.mul_lt_mul_of_pos_left hk p
theorem rq(h:∀ j,f j=f' j)(h':∀ j,g j=g' j):cv f g k=cv f' g' k:=qM λj _=>by rw[h,h']
theorem sW(F:Nat->Int)(c:Int)(n:Nat):sm (λj=>F j*c) n=sm F n*c:=by
 induction n with
 | zero=>simp[sm]
 | succ n ih=>rw[sm,sm,ih,eK]
theorem si(f g:Nat->Int)(c:Int)(k:Nat):cv (λj=>f j*c) g k=cv f g k*c:=by
 unfold cv;rw[← sW];exact qM λj _=>by grind
theorem ug(F:Nat->Int)(n:Nat):sm F (n+1)=F 0+sm (λj=>F (j+1)) n:=by
 induction n with
 | zero=>simp[sm]
 | succ n ih=>rw[sm,ih,sm];omega
theorem Cm(F:Nat->Int)(n:Nat):sm F n=sm (λj=>F (n-1-j)) n:=by
 induction n generalizing F with
 | zero=>rfl
 | succ n ih =>
  rw[ug (λj=>F (n+1-1-j)) n,sm,ih F];have:sm (λj=>F (n-1-j)) n=sm (λj=>F (n+1-1-(j+1))) n:=qM λj hj=>by rw[show n+1-1-(j+1)=n-1-j by omega]
  rw[this,show n+1-1-0=n by omega];omega
theorem rR(f g:Nat->Int)(k:Nat):cv f g k=cv g f k:=by
 unfold cv;rw[Cm];refine qM λj hj=>?_;rw[show k+1-1-j=k-j by omega,show k-(k-j)=j by omega,bK]
def fn(P:List Int):Nat->Int:=λj=>P.getD j 0
theorem qF(h:P.length<=j):fn P j=0:=by
 unfold fn;rw[ah,bw h];rfl
theorem HH:Po.Fm [1] 1:=⟨by decide,.inr (by decide),by decide⟩
end Cv
namespace RV
open PySem PyProof.Rows
theorem yq:Manifest.owners.lookup (String.ofList ['d','e','s','r','e','v','e','r'].reverse)=some Manifest.sig_reversed:=by kernel_rfl
theorem slot_next:Slot "reversed" "__next__" "reversed.__next__" := .of (owner := "reversed") (n := "__next__") (by rw[typeLookup_type,builtinLookup_eq_fast];kernel_rfl) (by decide +kernel) (by decide +kernel) (by decide +kernel) (by first|exact .inl (by decide +kernel)|exact .inr (by decide +kernel)) (by rw[isSubtype_type];kernel_rfl)
theorem wA:Slot "reversed" "__iter__" "reversed.__iter__" := .of (owner := "reversed") (n := "__iter__") (by rw[typeLookup_type,builtinLookup_eq_fast];kernel_rfl) (by decide +kernel) (by decide +kernel) (by decide +kernel) (by first|exact .inl (by decide +kernel)|exact .inr (by decide +kernel)) (by rw[isSubtype_type];kernel_rfl)
theorem Bc:Slot "reversed" "__init__" "object.__init__" := .of (owner := "object") (n := "__init__") (by rw[typeLookup_type,builtinLookup_eq_fast];kernel_rfl) (by decide +kernel) (by decide +kernel) (by decide +kernel) (by first|exact .inl (by decide +kernel)|exact .inr (by decide +kernel)) (by rw[isSubtype_type];kernel_rfl)
theorem vT:entryFor table "reversed.__next__" = some Builtin.«reversed.__next__» := entryFor_of_tree (by kernel_rfl)
theorem zZ:entryFor table "reversed.__iter__" = some Builtin.«dict_keyiterator.__iter__» := entryFor_alias (id' := "dict_keyiterator.__iter__") (by kernel_rfl) (by first|rfl|decide +kernel|(unfold String.splitOn;simp +decide [String.splitOnAux])) (by decide +kernel) (by kernel_rfl)
theorem xg(a:Value):argsOk "reversed.__next__" ⟨[a],[]⟩:=by
 unfold argsOk;rw[signature?_of (id := "reversed.__next__") (n:=['_','_','t','x','e','n','_','_']) (o:=['d','e','s','r','e','v','e','r']) (by kernel_rfl) yq];kernel_rfl
theorem B5(a:Value):argsOk "reversed.__iter__" ⟨[a],[]⟩:=by
 unfold argsOk;rw[signature?_of (id := "reversed.__iter__") (n:=['_','_','r','e','t','i','_','_']) (o:=['d','e','s','r','e','v','e','r']) (by kernel_rfl) yq];kernel_rfl
theorem HK:typeLookup (.type "tuple") "__reversed__" = pure none:=by rw[typeLookup_type,builtinLookup_eq_fast];kernel_rfl
theorem Iq:TypeCalled "reversed" "reversed.__new__" "object.__init__" := ⟨by decide +kernel,by decide +kernel,⟨_,_,F.mro_reversed⟩,F.made_reversed,by decide +kernel,by rw[isSubtype_type];kernel_rfl,Bc⟩
theorem Fc:isSubtype (.type "tuple") (.type "dict")=pure false:=by rw[isSubtype_type];kernel_rfl
section
variable{prog:Program}{w:World}{A:Around}{E:Value->Shared->Prop}{s:Shared}
theorem BC(t:Addr)(items:Array Value)(n:Nat)(dct:Option Addr)(sl:Array (Option Value)) :
  Meets (Builtin.«reversed.__new__» ⟨[.type "reversed",.ref t],[]⟩) (λ_ R s=>s.heap.get? t=some { cls:=.type "tuple",dict:=dct,data:=.seq items n,slots:=sl }/\(items.size:Int)<2^63 /\
   ∀ tk,R (.ok (.ret (.ref s.heap.objs.size))) { s with heap:=s.heap.push { cls:=.type "reversed",data:=.fields #[.ref t,rawInt ((items.size:Int)-1)] },toks:=tk }) :=
 .of_wp λprog w A R s h=>by
  obtain⟨ht,hsz,h⟩:=h;have hT:s.heap.IsTuple t items:=⟨_,ht,rfl,n,rfl⟩;unfold Builtin.«reversed.__new__»;refine ηB (wpAny_of_eq (newClass_reversed _) ?_);try dsimp only
  refine ηB (wpAny_of_eq (a:=()) (by first|rfl|kernel_rfl) ?_);refine ηB (wpAny_of_eq (a:=()) (by first|rfl|kernel_rfl) ?_);try dsimp only
  refine ηB (wpAny_specialOf hT.typeIs HK ?_);try dsimp only
  refine ηB ?_;show wpAny _ _ (isInstance (.ref t) (.type "dict") >>= _) _ _ s;refine ηB (wpAny_isInstance hT.typeIs Fc ?_);try dsimp only
  show wpAny _ _ (if false=true then _ else _) _ _ s;rw[if_neg aB];refine ηB (wpAny_specialOf hT.typeIs PyProof.Rows.slot_tuple_getitem.lookup ?_);try dsimp only
  show wpAny _ _ (if _=true then _ else _) _ _ s;rw[if_pos (by decide)];refine ηP ?_;show wpAny _ _ (if (!true)=true then _ else _) _ _ s;rw[if_neg (by decide)];refine ηB (PyProof.Rows.len_tuple hT hsz ?_);refine ηB (m:=asInt? _) (ηP ?_);try dsimp only
  refine ηB ?_;show wpAny _ _ (newObj (.type "reversed") (.fields #[.ref t,rawInt ((items.size:Int)-1)])) ..;refine wpAny_newObj_type ?_ (by size_fits);exact ηP ⟨_,rfl,h _⟩
theorem D2(hT:s.heap.IsTuple t items)(hsz:(items.size:Int)<2^63)
  (h:∀ tk,Q (.ref s.heap.objs.size) { s with heap:=s.heap.push { cls:=.type "reversed",data:=.fields #[.ref t,rawInt ((items.size:Int)-1)] },toks:=tk }):wpAny (model prog w) A (call (.type "reversed") [.ref t]) Q E s:=by
 obtain⟨⟨c,dct,dt,sl⟩,hl,hc,n,hd⟩:=hT;have hc':c = .type "tuple" := hc;have hd':dt = .seq items n:=hd;subst hc' hd';refine callType_new Iq (by decide) (F.typeCall_reversed_1 _) (F.newCall_reversed_1 _) (λobj=>F.args_object_init_2 obj _) F.entry_reversed_new (BC t items n dct sl) ⟨hl,hsz,λtk=>?_⟩;exact⟨⟨_,ηG _ rfl,rfl⟩,h tk⟩
def Is(h:Heap)(a t:Addr)(i:Int):Prop:=∃ o,h.get? a=some o/\o.cls = .type "reversed" /\ o.data = .fields #[.ref t,rawInt i]
theorem Is.ty(x:Is s.heap a t i):s.TypeIs (.ref a) "reversed" := let ⟨o,ho,hc,_⟩:=x;⟨o,ho,hc⟩
theorem wN(x:Is s.heap a t i)(h:Q (.ref a) s):wpAny (model prog w) A (pyIter (.ref a)) Q E s:=by
 refine wpAny_pyIter_slot x.ty wA (wpAny_call_entry wA x.ty zZ ?_ (B5 _));show wpAny _ _ (ret (.ref a)) _ _ s;exact ηP ⟨_,rfl, "reversed",_,x.ty,slot_next.lookup,h⟩
theorem Bz{it t:Addr}{i:Nat}{items:Array Value}{x:Value}(hit:Is s.heap it t (i:Int))(hT:s.heap.IsTuple t items)(hx:items[i]? = some x)(hsz:(items.size:Int)<2^63)
  (hQ:∀ h' tk,Is h' it t ((i:Int)-1)->Heap.SameBut it s.heap h'->Q (some x) { s with heap:=h',toks:=tk }):wpAny (model prog w) A (pyNext (.ref it)) Q E s:=by
 obtain⟨o,ho,hc,hd⟩:=id hit;unfold pyNext;refine ηB (wpAny_attempt (wpAny_callSpecial?_slot (name:=Str.ofString "__next__") hit.ty slot_next (wpAny_call_entry slot_next hit.ty vT ?_ (xg _))));unfold Builtin.«reversed.__next__»;refine ηB (wpAny_of_eq (a:=(Value.ref it,[])) rfl ?_);try dsimp only
 refine ηB (wpAny_field ho hd (x:=.ref t) rfl ?_);refine ηB (wpAny_field ho hd (x:=rawInt (i:Int)) rfl ?_);try dsimp only[rawInt]
 rw[if_neg (by omega)];refine ηB (wpAny_specialOf hT.typeIs PyProof.Rows.slot_tuple_getitem.lookup ?_);show wpAny _ _ (if false=true then _ else _) _ _ s;rw[if_neg aB];refine ηB (wpAny_mkInt ?_);have hlt:i<items.size:=(Array.getElem?_eq_some_iff.mp hx).1;refine ηB (wpAny_attempt ?_);refine PyProof.Rows.getItem_tuple (j:=i) (x:=x) hT (by omega) (by omega) (by unfold seqIndex?;simp;omega) hx ?_;try dsimp only
 refine ηB (wpAny_field (s:={ s with toks:=s.toks+1 }) ho hd (x:=rawInt (i:Int)) rfl ?_);try dsimp only[rawInt]
 refine ηB (wpAny_setField (s:={ s with toks:=s.toks+1 }) ho hd (by simp) (ηP ⟨x,rfl,ηP (hQ _ _ ?_ (Heap.SameBut.update ..))⟩));exact⟨_,Heap.get?_update_self _ ho (Obj.isFreed_of_fields (Obj.data_mapFields hd _)),(Obj.cls_mapFields ..).trans hc,by rw[Obj.data_mapFields hd];simp[rawInt]⟩
theorem Dd(hh:A.handled=none)(hit:Is s.heap it t (-1))(hQ:∀ h',Heap.ExtBut it s.heap h'->Q none { s with heap:=h' }):wpAny (model prog w) A (pyNext (.ref it)) Q E s:=by
 obtain⟨o,ho,hc,hd⟩:=id hit;unfold pyNext;refine ηB (wpAny_attempt (wpAny_callSpecial?_slot (name:=Str.ofString "__next__") hit.ty slot_next (wpAny_call_entry slot_next hit.ty vT ?_ (xg _))));unfold Builtin.«reversed.__next__»;refine ηB (wpAny_of_eq (a:=(Value.ref it,[])) rfl ?_);try dsimp only
 refine ηB (wpAny_field ho hd (x:=.ref t) rfl ?_);refine ηB (wpAny_field ho hd (x:=rawInt (-1)) rfl ?_);try dsimp only[rawInt]
 rw[if_pos (by decide)];refine ηB (wpAny_rule ?_);refine ηB ?_;show wpAny _ _ (setField (.ref it) 1 (rawInt (-1)) >>= _) _ _ s;refine ηB (wpAny_setField ho hd (by simp) ?_);have ho':=Heap.get?_update_self (h:=s.heap) (Obj.mapFields (·.setIfInBounds 1 (rawInt (-1)))) ho (Obj.isFreed_of_fields (Obj.data_mapFields hd _));refine wpAny_setField ho' (Obj.data_mapFields hd _) (by simp) ?_;refine ηB ?_;unfold Builtin.SmallTypes.stopIteration;refine ηB ?_;simp only[newExc,newTuple];refine ηB (wpAny_newObj_type ?_ (by size_fits));refine ηB (m:=firstArgMember _ _) (wpAny_of_eq (a:=Value.none) (by first|rfl|(simp only[firstArgMember];rfl)) ?_);refine wpAny_newObj_type ?_ (by size_fits);simp only[raiseNew];refine ηB (wpAny_handled ?_);first|rw[show A.in1.handled=none from hh]|rw[hh]
 refine ηB (ηP (wpAny_throw ?_));refine ηB (wpAny_isInstance (T := "StopIteration") (b:=true) ⟨_,ηG _ rfl,rfl⟩ isSubtype_stop ?_);refine ηP (hQ _ λb o hb e=>?_);refine ηH _ (ηH _ ?_);exact (Heap.SameBut.update ..).extBut b o hb ((Heap.SameBut.update ..).extBut b o hb e)
end
end RV
namespace L2
open PySem PySem.Spec PyProof.Rows
theorem Cg{P:Program}{w:World}{K:Frag}{tg:Expr}(n:Nat)(a it:Addr):Turn P w K tg (⟨λi H=>i<n/\∃ xs x,SqT K H a xs/\xs.length=n/\xs.reverse[i]? = some x,λi H x H'=>H'=H/\∀ xs,SqT K H a xs->xs.reverse[i]? = some x,λi H=>i=n⟩:It) [it] it (λi h=>RV.Is h it a ((n:Int)-1-(i:Int))) where
 mem:=by simp
 obj:=λi h st b hb=>by
  have e:b=it:=by simpa using hb
  subst e;obtain⟨o,e,c,d⟩:=st;exact⟨o,e,λv z=>by rw[d] at z;cases z⟩
 keep:=λi h h' st k=>by
  obtain⟨o,e,r⟩:=st;exact⟨o,k it (by simp) o e,r⟩
 item:=by
  intro X hP hw hK hc i pins s σ H E I hf st hg;subst hP hw hK;obtain⟨hlt,xs,x,hq,hn,hx⟩:=hg;obtain⟨its,rv,p,hz⟩:=I.tuple hq;have hlen:=rv.length;rw[bJ (by omega)] at hx;obtain⟨u,hu,ru⟩:=rv.get hx;obtain⟨f0,f1,f2,f3,f4,f5⟩:=hf it (by simp);have e0:(n:Int)-1-(i:Int)=((xs.length-1-i:Nat):Int):=by omega
  have st':RV.Is s.heap it a ((xs.length-1-i:Nat):Int):=by rw[← e0];exact st
  have hn63:=rK;refine RV.Bz (i:=xs.length-1-i) st' (show s.heap.IsTuple a its.toArray from p) (x:=u) (by simpa using hu) (by rw[aj];omega) λh' tk st2 sb=>?_;have I1:Inv X pins σ H { s with heap:=h',toks:=tk }:=I.turned (t':=tk) (λb o hb e=>(sb.2 b hb).trans e) f0 f1 f3 f4 f5;obtain⟨o,e,c,d⟩:=id st2;refine⟨u,rfl,yD (s:={ s with heap:=h',toks:=tk }) e c d (by decide) ⟨x,H,I1,ru,⟨rfl,λys hy=>?_⟩,?_,λb hb=>(hf b hb).1⟩⟩
  ·rw[I.tuple_inj hy hq,bJ (by omega)];exact hx
  ·show RV.Is h' it a ((n:Int)-1-((i+1:Nat):Int));rw[show (n:Int)-1-((i+1:Nat):Int)=((xs.length-1-i:Nat):Int)-1 by omega];exact st2
 done:=by
  intro X hP hw hK hc i pins s σ H E I hf st hg;subst hP hw hK;have hg':i=n:=hg;subst hg';obtain⟨f0,f1,f2,f3,f4,f5⟩:=hf it (by simp);have st':RV.Is s.heap it a (-1):=by
   have e:(i:Int)-1-(i:Int) = -1:=by omega
   rw[← e];exact st
  exact RV.Dd (I.ok.hd hc) st' λh' eb=>⟨rfl,I.turned (t':=s.toks) (λb o hb e=>eb b o hb e) f0 f1 f3 f4 f5⟩
 self:=λ_ _ _ _ _ st h=>RV.wN st h
end L2
namespace Hv
open L2
def hv(F:Nat->Int)(t u:Int):Nat->Int
 | 0=>0
 | n+1=>(hv F t u n+F n*t^n)*u
theorem rH(h:Lt2 r u):∀ i,Lt2 (r*i+1) (u^i)
 | 0=>by rw[aT];unfold Lt2;exact aE (show (1:Int).natAbs<2^1 by decide) (dr (by decide) (by omega))
 | i+1=>by
  rw[bc];exact ((rH h i).mul h).mono (by rw[cq];omega)
theorem pow_pos{u:Int}(h:0<u):∀ i:Nat,0<u^i
 | 0=>by rw[aT];decide
 | i+1=>by rw[bc];exact aA (pow_pos h i) h
theorem tq(h:∀ j,j<n->F j=G j):hv F t u n=hv G t u n:=by
 induction n with
 | zero=>rfl
 | succ n ih=>rw[hv,hv,ih λj hj=>h j (by omega),h n (by omega)]
theorem wQ(h:∀ k,n<=k->F k=0):∀ j,hv F t u (n+j)=hv F t u n*u^j
 | 0=>by rw[Nat.add_zero,aT,bv]
 | j+1=>by rw[← cV,hv,wQ h j,h (n+j) (by omega),ay,cu,bc,bZ]
theorem xN(F G:Nat->Int)(t u:Int):∀ n,hv (λk=>F k+G k) t u n=hv F t u n+hv G t u n
 | 0=>rfl
 | n+1=>by rw[hv,hv,hv,xN F G t u n];grind
theorem ub(F:Nat->Int)(c t u:Int):∀ n,hv (λk=>F k*c) t u n=hv F t u n*c
 | 0=>by simp[hv]
 | n+1=>by rw[hv,hv,ub F c t u n];grind
theorem xM(h:∀ j,j<n->F j=0):hv F t u n=0:=by
 induction n with
 | zero=>rfl
 | succ n ih=>rw[hv,ih λj hj=>h j (by omega),h n (by omega)];simp
theorem yB(g:Nat->Int)(c t u:Int)(i:Nat):∀ k,hv (λm=>if i<=m then c*g (m-i) else 0) t u (i+k)=c*t^i*hv g t u k
 | 0=>by
  rw[Nat.add_zero,xM λj hj=>if_neg (by omega)];simp[hv]
 | k+1=>by
  rw[← cV,hv,yB g c t u i k,if_pos (by omega),show i+k-i=k by omega,hv,cy];grind
theorem Gi(f g:Nat->Int)(t u:Int)(hg:∀ k,m<=k->g k=0)(n:Nat):∀ i,i<=n->hv (λk=>Cv.tm f g i k) t u (n+m)=hv f t u i*u^(n-i)*hv g t u m
 | 0,_=>by
  rw[xM (F:=λk=>Cv.tm f g 0 k) λj _=>rfl];simp[hv]
 | i+1,h=>by
  have ih:=Gi f g t u hg n i (by omega);have e:hv (λk=>Cv.tm f g (i+1) k) t u (n+m)=hv (λk=>Cv.tm f g i k+(if i<=k then f i*g (k-i) else 0)) t u (n+m):=tq λj _=>rfl;rw[e,xN,ih];obtain⟨d,rfl⟩:∃ d,n=i+1+d:=⟨n-(i+1),by omega⟩;have e2:i+1+d+m=i+(m+(d+1)):=by omega
  rw[e2,yB,wQ hg (d+1),hv,show i+1+d-i=d+1 by omega,show i+1+d-(i+1)=d by omega,bc];grind
theorem Gm(hf:∀ k,n<=k->f k=0)(hg:∀ k,m<=k->g k=0):hv (Cv.cv f g) t u (n+m)=hv f t u n*hv g t u m:=by
 have e:=Gi f g t u hg n n (af _);rw[bj,aT,bv] at e;rw[← e];exact tq λj _=>(Cv.tT hf).symm
end Hv
namespace Pc
open L2 Cv Hv
theorem Cp(F:Nat->Int)(i:Nat):∀ n,sm F (i+n)=sm F i+sm (λj=>F (i+j)) n
 | 0=>by simp[sm]
 | n+1=>by rw[← cV,sm,Cp F i n,sm];omega
theorem tY(F G:Nat->Int):∀ n,sm (λj=>F j+G j) n=sm F n+sm G n
 | 0=>rfl
 | n+1=>by rw[sm,sm,sm,tY F G n];omega
theorem DS(f g h:Nat->Int)(k:Nat):cv (λj=>f j+g j) h k=cv f h k+cv g h k:=by
 unfold cv;rw[← tY];exact qM λj _=>by rw[eK]
theorem DR(f g h:Nat->Int)(k:Nat):cv h (λj=>f j+g j) k=cv h f k+cv h g k:=by
 unfold cv;rw[← tY];exact qM λj _=>by rw[Int.mul_add]
theorem DO(f g:Nat->Int)(c:Int)(k:Nat):cv f (λj=>g j*c) k=cv f g k*c:=by
 unfold cv;rw[← sW];exact qM λj _=>by grind
theorem DM(g h:Nat->Int)(c:Int)(i k:Nat):cv (λm=>if i<=m then c*g (m-i) else 0) h k=if i<=k then c*cv g h (k-i) else 0:=by
 unfold cv;by_cases hk:i<=k
 ·rw[if_pos hk];obtain⟨d,rfl⟩:∃ d,k=i+d:=⟨k-i,by omega⟩;rw[show i+d+1=i+(d+1) by omega,Cp];have e1:sm (λj=>(if i<=j then c*g (j-i) else 0)*h (i+d-j)) i=0:=by
   rw[sG (n:=0) (aC _) λj _ hj=>by show (if i<=j then _ else 0)*_=0;rw[if_neg (by omega),ay]];rfl
  rw[e1,bT,show i+d-i=d by omega,bK c,← sW];refine qM λj _=>?_;show (if i<=i+j then c*g (i+j-i) else 0)*h (i+d-(i+j))=g j*h (d-j)*c;rw[if_pos (by omega),show i+j-i=j by omega,show i+d-(i+j)=d-j by omega];grind
 ·rw[if_neg hk,sG (n:=0) (aC _) λj _ hj=>by show (if i<=j then _ else 0)*_=0;rw[if_neg (by omega),ay]];rfl
theorem Gy(f g h:Nat->Int):∀(n k:Nat),cv (λm=>tm f g n m) h k=tm f (λm=>cv g h m) n k
 | 0,k=>by
  have:cv (λm=>tm f g 0 m) h k=0:=Gw λj=>rfl;rw[this];rfl
 | n+1,k=>by
  rw[Ay,← Gy f g h n k,← DM g h (f n) n k,← DS];rfl
theorem uy(hf:∀ k,n<=k->f k=0)(k:Nat):cv (λm=>cv f g m) h k=cv f (λm=>cv g h m) k:=by
 rw[← tT (g:=λm=>cv g h m) hf,← Gy f g h n k];exact rq (λj=>(tT hf).symm) λ_=>rfl
def d0:Nat->Int:=λk=>if k=0 then 1 else 0
theorem DQ(f:Nat->Int)(k:Nat):cv d0 f k=f k:=by
 have:tm d0 f 1 k=cv d0 f k:=tT λj hj=>by show (if j=0 then (1:Int) else 0)=0;rw[if_neg (by omega)]
 rw[← this];show 0+(if 0<=k then d0 0*f (k-0) else 0)=f k;rw[if_pos (aC _),bD];show 0+1*f k=f k;omega
def cp(g:Nat->Int):Nat->(Nat->Int)
 | 0=>d0
 | n+1=>λk=>cv (cp g n) g k
theorem uc(hg:∀ k,m<=k->g k=0):∀(n k:Nat),n*m+1<=k->cp g n k=0
 | 0,k,h=>by show (if k=0 then (1:Int) else 0)=0;rw[if_neg (by omega)]
 | n+1,k,h=>rP (a:=n*m+1) (b:=m) (uc hg n) hg (by rw[aY] at h;omega)
def pc(F g:Nat->Int)(U:Int):Nat->(Nat->Int)
 | 0=>λ_=>0
 | n+1=>λk=>(pc F g U n k+F n*cp g n k)*U
theorem xC(hg:∀ k,m<=k->g k=0):∀(n k:Nat),n*m+1<=k->pc F g U n k=0
 | 0,_,_=>rfl
 | n+1,k,h=>by
  rw[aY] at h;show (pc F g U n k+F n*cp g n k)*U=0;rw[xC hg n k (by omega),uc hg n k (by omega)];simp
theorem Ie(hg:∀ k,m<=k->g k=0)(hi:i<L)(h:∀ j,pc F g U L j=U^i*pc F g U (L-i) j+U*cv (cp g (L-i)) M j)(M':Nat->Int)(hM:∀ j,M' j=cv M g j+(if j=0 then F (L-1-i)*U^i else 0)) :
  pc F g U L k=U^(i+1)*pc F g U (L-(i+1)) k+U*cv (cp g (L-(i+1))) M' k:=by
 obtain⟨d,rfl⟩:∃ d,L=i+1+d:=⟨L-(i+1),by omega⟩;rw[h k,show i+1+d-i=d+1 by omega,show i+1+d-(i+1)=d by omega,pc,bc];have e1:cv (cp g (d+1)) M k=cv (cp g d) (λm=>cv M g m) k:=by
  show cv (λm=>cv (cp g d) g m) M k=_;rw[uy (n:=d*m+1) (uc hg d)];exact rq (λ_=>rfl) λj=>rR ..
 have e2:cv (cp g d) M' k=cv (cp g d) (λm=>cv M g m) k+cp g d k*(F d*U^i):=by
  have:cv (cp g d) M' k=cv (cp g d) (λj=>cv M g j+d0 j*(F d*U^i)) k:=rq (λ_=>rfl) λj=>by
   rw[hM j,show i+1+d-1-i=d by omega];unfold d0;by_cases z:j=0
   ·rw[if_pos z,if_pos z,bO]
   ·rw[if_neg z,if_neg z,ay]
  rw[this,DR,DO,rR (cp g d) d0,DQ]
 rw[e1,e2];show U^i*((pc F g U d k+F d*cp g d k)*U)+_=_;grind
theorem Id:hv d0 t u 1=u:=by
 show (0+d0 0*t^0)*u=u;rw[aT];show (0+1*1)*u=u;omega
theorem Gn(hg:∀ k,m<=k->g k=0):∀ n,hv (cp g n) t u (n*m+1)=hv g t u m^n*u
 | 0=>by
  rw[dD,eZ,aT,bO];exact Id
 | n+1=>by
  rw[show (n+1)*m+1=(n*m+1)+m by rw[aY];omega];show hv (cv (cp g n) g) t u _=_;rw[Gm (uc hg n) hg,Gn hg n,bc];grind
theorem Gk(hg:∀ k,m<=k->g k=0):∀ n,hv (pc F g U n) t u (n*m+1)=u*hv F (hv g t u m) (U*u^m) n
 | 0=>by
  rw[xM (F:=pc F g U 0) λj _=>rfl];simp[hv]
 | n+1=>by
  have e:(n+1)*m+1=(n*m+1)+m:=by rw[aY];omega
  have e1:hv (pc F g U (n+1)) t u ((n+1)*m+1)=(hv (pc F g U n) t u ((n+1)*m+1)+hv (cp g n) t u ((n+1)*m+1)*F n)*U:=by
   rw[← ub (cp g n) (F n),← xN,← ub];exact tq λj _=>by show (pc F g U n j+F n*cp g n j)*U=_;rw[bK (F n)]
  rw[e1,e,wQ (xC hg n) m,wQ (uc hg n) m,Gk hg n,Gn hg n,hv];grind
theorem vQ(F:Nat->Int)(t u c:Int):∀ n,hv F (t*c) (u*c) n=hv F t u n*c^n
 | 0=>by simp[hv]
 | n+1=>by
  rw[hv,hv,vQ F t u c n,Int.mul_pow,bc];grind
structure Wq (P:List Int)(B t u a b:Int):Prop where
 pos:0<b
 is:a*(B*u^P.length)=hv (fn P) t u P.length*b
theorem Wq.at(h:Wq P B t u a b)(hN:P.length<=N):a*(B*u^N)=hv (fn P) t u N*b:=by
 obtain⟨j,rfl⟩:∃ j,N=P.length+j:=⟨N-P.length,by omega⟩;rw[wQ (λk hk=>qF hk) j,cy];have:=h.is
 calc a*(B*(u^P.length*u^j))=(a*(B*u^P.length))*u^j:=by grind
  _=hv (fn P) t u P.length*b*u^j:=by rw[this]
  _=_:=by grind
theorem Wq.of_at{P:List Int}{B t u a b:Int}(hu:0<u)(hb:0<b){N:Nat}(hN:P.length<=N)(h:a*(B*u^N)=hv (fn P) t u N*b):Wq P B t u a b:=by
 refine⟨hb,?_⟩;obtain⟨j,rfl⟩:∃ j,N=P.length+j:=⟨N-P.length,by omega⟩;rw[wQ (λk hk=>qF hk) j,cy] at h;have U:=pow_pos hu j;refine aw (show u^j≠0 by omega) ?_
 calc a*(B*u^P.length)*u^j=a*(B*(u^P.length*u^j)):=by grind
  _=hv (fn P) t u P.length*u^j*b:=h
  _=_:=by grind
theorem Wq.comp{P G R:List Int}{B U C t u a b x y:Int}(hB:0<B)(hU:0<U)(hu:0<u)(h1:Wq G U t u a b)(h2:Wq P B a b x y)(hR:∀ k,R.getD k 0*(B*U^P.length)=pc (fn P) (fn G) U P.length k*C)(hl:R.length<=P.length*G.length+1):Wq R C t u x y:=by
 refine Wq.of_at hu h2.pos hl ?_;have e0:hv (fn R) t u (P.length*G.length+1)*(B*U^P.length)=u*hv (fn P) (hv (fn G) t u G.length) (U*u^G.length) P.length*C:=by
  rw[← Gk (λk hk=>qF hk),← ub,← ub];exact tq λj _=>hR j
 have e1:=h1.is;have e2:=h2.is;have e3:hv (fn P) (hv (fn G) t u G.length) (U*u^G.length) P.length*b^P.length=hv (fn P) a b P.length*(U*u^G.length)^P.length:=by
  rw[← vQ,← vQ,← e1,bK b]
 have e4:(U*u^G.length)^P.length*u=U^P.length*u^(P.length*G.length+1):=by
  rw[Int.mul_pow,← Int.pow_mul,bc,aS G.length];grind
 have b0:=pow_pos h1.pos P.length;have U0:=pow_pos hU P.length;generalize hv (fn R) t u (P.length*G.length+1)=r at *;generalize hv (fn P) (hv (fn G) t u G.length) (U*u^G.length) P.length=X2 at *;generalize hv (fn P) a b P.length=X1 at *;generalize (U*u^G.length)^P.length=W at *;generalize u^(P.length*G.length+1)=uN at *;generalize U^P.length=UL at *;generalize b^P.length=bL at *;have nz:B*UL*bL≠0:=aq (aA (aA hB U0) b0);refine aw nz ?_
 calc x*(C*uN)*(B*UL*bL)=(x*(B*bL))*C*(UL*uN):=by grind
  _=(X1*y)*C*(W*u):=by rw[e2,e4]
  _=(X1*W)*y*C*u:=by grind
  _=(X2*bL)*y*C*u:=by rw[e3]
  _=(u*X2*C)*(bL*y):=by grind
  _=(r*(B*UL))*(bL*y):=by rw[e0]
  _=r*y*(B*UL*bL):=by grind
theorem yS{F:Nat->Int}{t:Int}(ht:0<t):∀{n:Nat},(∀ k,k<n->(F k).natAbs<t.natAbs)->sm (λk=>F k*t^k) n=0->∀ k,k<n->F k=0
 | 0,_,_,k,hk=>absurd hk (dZ _)
 | n+1,hF,h,k,hk=>by
  rw[ug,aT,bv] at h;have e:sm (λj=>F (j+1)*t^(j+1)) n=sm (λj=>F (j+1)*t^j) n*t:=by
   rw[← sW];exact qM λj _=>by rw[bc];grind
  rw[e] at h;have z:F 0=0:=by
   have d:t∣F 0:=⟨- sm (λj=>F (j+1)*t^j) n,by grind⟩;have l:=hF 0 (by omega);exact Int.eq_zero_of_dvd_of_natAbs_lt_natAbs d l
  rw[z,bT] at h;have h':sm (λj=>F (j+1)*t^j) n=0:=by
   rcases bu.mp h with q|q
   ·exact q
   ·omega
  cases k with
  | zero=>exact z
  | succ k=>exact yS (F:=λj=>F (j+1)) ht (λj hj=>hF (j+1) (by omega)) h' k (by omega)
theorem Gj(F:Nat->Int)(t:Int):∀ n,hv F t 1 n=sm (λk=>F k*t^k) n
 | 0=>rfl
 | n+1=>by rw[hv,Gj F t n,sm,bv]
theorem wg(f:Po.Fm R C)(f':Po.Fm S D)(h:∀ t:Int,0<t->∃ x y,Wq R C t 1 x y/\Wq S D t 1 x y):R=S/\C=D:=by
 refine Po.uniq f f' λk=>?_;let N:=max R.length S.length
 let F:Nat->Int:=λj=>fn R j*D-fn S j*C
 have bd:∃ t:Int,0<t/\∀ j,j<N->(F j).natAbs<t.natAbs:=by
  have:∀ n:Nat,∃ t:Int,0<t/\∀ j,j<n->(F j).natAbs<t.natAbs:=by
   intro n;induction n with
   | zero=>exact⟨1,by decide,λj h=>absurd h (dZ _)⟩
   | succ n ih =>
    obtain⟨t,t0,ht⟩:=ih;refine⟨t+((F n).natAbs:Int)+1,by omega,λj hj=>?_⟩;rcases cG (gQ hj) with e|e
    ·rw[e];omega
    ·have:=ht j e;omega
  exact this N
 obtain⟨t,t0,ht⟩:=bd;obtain⟨x,y,w1,w2⟩:=h t t0;have e1:=w1.at (N:=N) (by omega);have e2:=w2.at (N:=N) (by omega);rw[Int.one_pow,bv] at e1 e2;have z:sm (λk=>F k*t^k) N=0:=by
  rw[← Gj];have:hv F t 1 N=hv (fn R) t 1 N*D+hv (fn S) t 1 N*(-C):=by
   rw[← ub,← ub,← xN];exact tq λj _=>by show fn R j*D-fn S j*C=_;grind
  rw[this];have y0:=w1.pos;refine aw (show y≠0 by omega) ?_
  calc (hv (fn R) t 1 N*D+hv (fn S) t 1 N * -C)*y=(hv (fn R) t 1 N*y)*D-(hv (fn S) t 1 N*y)*C:=by grind
   _=(x*C)*D-(x*D)*C:=by rw[e1,e2]
   _=0*y:=by grind
 rcases aD k N with c|c
 ·have:=yS t0 ht z k c;have q:fn R k*D-fn S k*C=0:=this;show fn R k*D=fn S k*C;omega
 ·show fn R k*D=fn S k*C;rw[qF (P:=R) (by omega),qF (P:=S) (by omega)];simp
theorem DU(hg:∀ k,l<=k->g k=0)(hs:∀ k,Lt2 m (g k)):∀ n,n*l<=400->∀ k,Lt2 ((m+9)*n+1) (cp g n k)
 | 0,_,k=>by
  show Lt2 _ (if k=0 then (1:Int) else 0);split
  ·unfold Lt2;exact aE (show (1:Int).natAbs<2^1 by decide) (dr (by decide) (by omega))
  ·exact bV (by decide)
 | n+1,h,k=>by
  rw[aY] at h;have ih:=DU hg hs n (by omega);rcases aD k 500 with c|c
  ·exact (DP (b:=9) ih hs (by omega)).mono (by rw[cq];omega)
  ·rw[uc hg (n+1) k (by rw[aY];omega)];exact bV (by decide)
theorem F7(hg:∀ k,l<=k->g k=0)(hF:∀ k,Lt2 n (F k))(hs:∀ k,Lt2 m (g k))(hU:Lt2 c U):∀ i,i*l<=400->∀ k,Lt2 (n+(m+c+10)*i+1) (pc F g U i k)
 | 0,_,k=>bV (by decide)
 | i+1,h,k=>by
  rw[aY] at h;have ih:=F7 hg hF hs hU i (by omega) k;have h2:Lt2 (n+(m+c+10)*i+1) (F i*cp g i k):=((hF i).mul (DU hg hs i (by omega) k)).mono (by
   have:(m+9)*i<=(m+c+10)*i:=bg _ (by omega);omega)
  exact ((ih.add h2).mul hU).mono (by rw[cq];omega)
def X:List Int:=[0,1]
theorem Lr(k:Nat):fn X k=if k=1 then 1 else 0:=by
 match k with
 | 0=>rfl
 | 1=>rfl
 | k+2 =>
  rw[qF (P:=X) (by show 2<=_;omega),if_neg (by omega)]
theorem LC:Po.Fm X 1:=⟨by decide,.inr (by decide),by decide⟩
theorem J8(f:Nat->Int)(k:Nat):cv f (fn X) k=if k=0 then 0 else f (k-1):=by
 rw[rR,← tT (n:=2) (λj hj=>qF hj)];show 0+(if 0<=k then fn X 0*f (k-0) else 0)+(if 1<=k then fn X 1*f (k-1) else 0)=_;have e0:fn X 0=0:=rfl;have e1:fn X 1=1:=rfl;rw[e0,e1];by_cases z:k=0
 ·subst z;simp
 ·rw[if_neg z,if_pos (show 1<=k by omega)];simp
def Of(P:List Int)(B:Int)(G:List Int)(U:Int)(R:List Int)(C:Int):Prop:=Po.Fm R C/\∀ k,R.getD k 0*(B*U^P.length)=pc (fn P) (fn G) U P.length k*C
theorem Of.len{P G R:List Int}{B U C:Int}(hB:0<B)(hU:0<U)(h:Of P B G U R C):R.length<=P.length*G.length+1:=by
 rcases h.1.last with e|e
 ·subst e;exact aC _
 ·rcases aD (P.length*G.length+1) R.length with c|c
  ·refine absurd ?_ e;have e3:=h.2 (R.length-1);rw[xC (m:=G.length) (λk hk=>qF hk) _ _ (by omega),ay] at e3;rcases bu.mp e3 with q|q
   ·exact q
   ·have:=aA hB (pow_pos hU P.length);omega
  ·exact c
structure Pz (n b:Nat)(P:List Int)(B:Int):Prop where
 fm:Po.Fm P B
 tops:∀ k,Lt2 n (P.getD k 0)
 bot:Lt2 b B
theorem Pz.mono(h:Pz n b P B)(l:n<=n')(l':b<=b'):Pz n' b' P B:=⟨h.fm,λk=>(h.tops k).mono l,h.bot.mono l'⟩
theorem Pz.of{n b:Nat}{f:Nat->Int}{B c:Int}(F:Po.Fm P B)(hc:0<c)(h:∀ k,P.getD k 0*c=f k*B)(h1:∀ k,Lt2 n (f k))(h2:Lt2 b c):Pz n b P B :=
 ⟨F,λk=>(h1 k).le ((Po.size F hc h).2 k),h2.le (Po.size F hc h).1⟩
theorem Of.size{P G R:List Int}{B U C:Int}{n b m c:Nat}(h:Of P B G U R C)(z1:Pz n b P B)(z2:Pz m c G U)(hl:P.length*G.length<=400):Pz (n+(m+c+10)*P.length+1) (b+(c*P.length+1)) R C:=by
 have Y:=aA z1.fm.pos (pow_pos z2.fm.pos P.length);exact Pz.of h.1 Y h.2 (λk=>F7 (λk hk=>qF hk) (λk=>z1.tops k) (λk=>z2.tops k) z2.bot P.length hl k) (z1.bot.mul (rH z2.bot P.length))
theorem vo(hg:∀ k,m<=k->g k=0):∀(n k:Nat),n*(m-1)+1<=k->cp g n k=0
 | 0,k,h=>by show (if k=0 then (1:Int) else 0)=0;rw[if_neg (by omega)]
 | n+1,k,h=>rP (a:=n*(m-1)+1) (b:=m) (vo hg n) hg (by rw[aY] at h;omega)
theorem vj(hg:∀ k,m<=k->g k=0):∀(n k:Nat),(n-1)*(m-1)+1<=k->pc F g U n k=0
 | 0,_,_=>rfl
 | n+1,k,h=>by
  rw[aL] at h;have:(n-1)*(m-1)<=n*(m-1):=bg _ (by omega);show (pc F g U n k+F n*cp g n k)*U=0;rw[vj hg n k (by omega),vo hg n k (by omega)];simp
theorem Of.deg{P G R:List Int}{B U C:Int}(hB:0<B)(hU:0<U)(h:Of P B G U R C):R.length<=(P.length-1)*(G.length-1)+1:=by
 rcases h.1.last with e|e
 ·subst e;exact aC _
 ·rcases aD ((P.length-1)*(G.length-1)+1) R.length with c|c
  ·refine absurd ?_ e;have e3:=h.2 (R.length-1);rw[vj (m:=G.length) (λk hk=>qF hk) _ _ (by omega),ay] at e3;rcases bu.mp e3 with q|q
   ·exact q
   ·have:=aA hB (pow_pos hU P.length);omega
  ·exact c
theorem qP{R:List Int}{C c:Int}{f:Nat->Int}{N:Nat}(F:Po.Fm R C)(hc:0<c)(h:∀ k,R.getD k 0*c=f k*C)(hf:∀ k,N<=k->f k=0):R.length<=N:=by
 rcases F.last with e|e
 ·subst e;exact aC _
 ·rcases aD N R.length with z|z
  ·refine absurd ?_ e;have e3:=h (R.length-1);rw[hf _ (by omega),ay] at e3;rcases bu.mp e3 with q|q
   ·exact q
   ·omega
  ·exact z
theorem Eb:Pz 1 1 X 1:=⟨LC,λk=>by
 show Lt2 1 (fn X k);rw[Lr];split <;> (unfold Lt2;decide),by unfold Lt2;decide⟩
end Pc
namespace L2
instance decLt2 (n:Nat)(i:Int):Decidable (Lt2 n i):=inferInstanceAs (Decidable (i.natAbs<2^n))
end L2
namespace Pc
open L2 Cv Hv
theorem Mc(g:Nat->Int)(k:Nat):cp g 1 k=g k:=DQ g k
theorem MD(F g:Nat->Int)(U:Int)(k:Nat):pc F g U 2 k=(F 0*d0 k*U+F 1*g k)*U:=by
 show ((0+F 0*d0 k)*U+F 1*cp g 1 k)*U=_;rw[Mc,bT]
theorem Of.two(h2:P.length=2)(hU:0<U)(h:Of P B G U S D)(k:Nat):S.getD k 0*(B*U)=(P.getD 0 0*d0 k*U+P.getD 1 0*G.getD k 0)*D:=by
 have q:=h.2 k;rw[h2,MD] at q;have q':S.getD k 0*(B*U^2)=(P.getD 0 0*d0 k*U+P.getD 1 0*G.getD k 0)*U*D:=q;refine aw (show U≠0 by omega) ?_;rw[show (U:Int)^2=U*U by rw[bc,bc,aT,bO]] at q';grind
def St(ta ba tb bb:Int)(P:List Int)(B:Int):Prop:=Po.Fm P B/\∀ k,P.getD k 0*(ba*bb)=[tb*ba,ta*bb].getD k 0*B
theorem xj(x y:Int)(k:Nat):[x,y].getD (k+2) 0=0:=by simp
theorem GS{R G T:List Int}{M:Nat->Int}{B U W C tb:Int}{k:Nat}(c0:0<C)(hR:∀ j,R.getD j 0*(B*W)=M j*U*C)(hT:T.getD k 0*(C*U)=cv (fn R) (fn G) k*tb):T.getD k 0*(B*(W*U))=cv M (fn G) k*U*tb:=by
 have e1:cv (fn R) (fn G) k*(B*W)=cv M (fn G) k*(U*C):=by
  rw[← si,← si];exact rq (λj=>by show R.getD j 0*(B*W)=_;rw[hR j];grind) λ_=>rfl
 refine aw (show C≠0 by omega) ?_;generalize cv (fn R) (fn G) k=X at *;generalize cv M (fn G) k=Y at *;generalize T.getD k 0=Tk at *
 calc Tk*(B*(W*U))*C=(Tk*(C*U))*(B*W):=by grind
  _=(X*tb)*(B*W):=by rw[hT]
  _=(X*(B*W))*tb:=by grind
  _=(Y*(U*C))*tb:=by rw[e1]
  _=_:=by grind
theorem GR{S T E:Int}(t0:0<tb)(e0:0<e)(hT:T*(B*(W*U))=q*U*tb)(hE:E*B=x*e)(hS:S*(tb*e)=(T*e+E*tb)*sb):S*(B*(W*U))=(q+x*W)*U*sb:=by
 refine aw (show tb*e≠0 from aq (aA t0 e0)) ?_
 calc S*(B*(W*U))*(tb*e)=(S*(tb*e))*(B*(W*U)):=by grind
  _=((T*e+E*tb)*sb)*(B*(W*U)):=by rw[hS]
  _=((T*(B*(W*U)))*e+(E*B)*(W*U)*tb)*sb:=by grind
  _=((q*U*tb)*e+(x*e)*(W*U)*tb)*sb:=by rw[hT,hE]
  _=_:=by grind
end Pc
namespace Qp
open L2 Cv Hv Pc
theorem qB{b:Int}(h:0<b):(b:Rat)≠0:=λz=>by
 have:=de.mp z;omega
theorem qX{b:Int}(h:b≠0):(b:Rat)≠0:=λz=>h (de.mp z)
theorem t7{b:Rat}(h:b≠0):∀ n:Nat,b^n≠0
 | 0=>by rw[cC];decide
 | n+1=>λz=>by
  rw[cE] at z;rcases cZ.mp z with w|w
  ·exact t7 h n w
  ·exact h w
theorem xw(a:Rat)(h:b≠0):∀ n:Nat,(a / b)^n*b^n=a^n
 | 0=>by rw[cC,cC,cC];grind
 | n+1=>by
  have ih:=xw a h n;rw[cE,cE,cE,← ih];grind
theorem rL{a b c d:Int}(hb:b≠0)(hd:d≠0):((a:Rat) / (b:Rat)=(c:Rat) / (d:Rat))↔a*d=c*b:=by
 have h1:=qX hb;have h2:=qX hd;constructor
 ·intro h;have:(a:Rat)*(d:Rat)=(c:Rat)*(b:Rat):=by grind
  rw[← av,← av] at this;exact dY.mp this
 ·intro h;have:(a:Rat)*(d:Rat)=(c:Rat)*(b:Rat):=by rw[← av,← av,h]
  grind
theorem sd(x:Rat):∃ t u:Int,0<u/\x=(t:Rat) / (u:Rat):=by
 refine⟨x.num,(x.den:Int),?_,?_⟩
 ·have:=eX x.den_nz;omega
 ·have:=Rat.num_divInt_den x;rw[Rat.divInt_eq_div] at this;exact this.symm
def ei(F:Nat->Int)(x:Rat):Nat->Rat
 | 0=>0
 | n+1=>ei F x n+(F n:Rat)*x^n
theorem Gr(h:∀ k,n<=k->F k=0):∀ j,ei F x (n+j)=ei F x n
 | 0=>rfl
 | j+1=>by
  rw[← cV,ei,Gr h j,h (n+j) (by omega)];grind
theorem DD{a b:Int}{x:Rat}(h:∀ k,F k*a=G k*b):∀ n,ei F x n*(a:Rat)=ei G x n*(b:Rat)
 | 0=>by rw[ei,ei];grind
 | n+1=>by
  have ih:=DD (x:=x) h n;have e:(F n:Rat)*(a:Rat)=(G n:Rat)*(b:Rat):=by rw[← av,← av,h n]
  rw[ei,ei];grind
theorem DE(F G:Nat->Int)(x:Rat):∀ n,ei (λk=>F k+G k) x n=ei F x n+ei G x n
 | 0=>by rw[ei,ei,ei];grind
 | n+1=>by
  rw[ei,ei,ei,DE F G x n,dw];grind
theorem uT(F:Nat->Int)(c:Int)(x:Rat):∀ n,ei (λk=>F k*c) x n=ei F x n*(c:Rat)
 | 0=>by rw[ei,ei];grind
 | n+1=>by
  rw[ei,ei,uT F c x n,av];grind
theorem yC(F:Nat->Int)(t:Int)(hu:0<u):∀ n,((hv F t u n:Int):Rat)=(u:Rat)^n*ei F ((t:Rat) / (u:Rat)) n
 | 0=>by rw[hv,ei];grind
 | n+1=>by
  have hn:=qB hu;have ih:=yC F t hu n;have p:=xw (t:Rat) hn n;rw[hv,ei,av,dw,av,cI,ih,cE,← p];grind
def E(P:List Int)(B:Int)(x:Rat):Rat:=ei (fn P) x P.length / (B:Rat)
theorem yT(h:P.length<=N):E P B x=ei (fn P) x N / (B:Rat):=by
 obtain⟨j,rfl⟩:∃ j,N=P.length+j:=⟨N-P.length,by omega⟩;rw[Gr (λk hk=>qF hk) j];rfl
theorem wq{P:List Int}{B t u a b:Int}(hB:0<B)(hu:0<u)(hb:0<b):Wq P B t u a b↔E P B ((t:Rat) / (u:Rat))=(a:Rat) / (b:Rat):=by
 have nB:=qB hB;have nu:=qB hu;have nb:=qB hb;have nU:=t7 nu P.length;have key:=yC (fn P) t hu P.length;constructor
 ·intro h;have e:=congrArg (λz:Int=>(z:Rat)) h.is;simp only[av,cI] at e;rw[key] at e;unfold E;generalize (u:Rat)^P.length=U at *;generalize ei (fn P) ((t:Rat) / (u:Rat)) P.length=X at *;have:(a:Rat)*(B:Rat)=X*(b:Rat):=by
   have:((a:Rat)*(B:Rat)-X*(b:Rat))*U=0:=by grind
   rcases cZ.mp this with w|w
   ·grind
   ·exact absurd w nU
  grind
 ·intro h;refine⟨hb,?_⟩;unfold E at h;have:((a*(B*u^P.length):Int):Rat)=((hv (fn P) t u P.length*b:Int):Rat):=by
   simp only[av,cI];rw[key];generalize (u:Rat)^P.length=U at *;generalize ei (fn P) ((t:Rat) / (u:Rat)) P.length=X at *;have:X*(b:Rat)=(a:Rat)*(B:Rat):=by grind
   grind
  exact dY.mp this
theorem FP(hB:0<B)(hU:0<U)(h:Of P B G U R C)(x:Rat):E R C x=E P B (E G U x):=by
 obtain⟨t,u,hu,rfl⟩:=sd x;obtain⟨a,b,hb,e1⟩:=sd (E G U ((t:Rat) / (u:Rat)));obtain⟨c,d,hd,e2⟩:=sd (E P B ((a:Rat) / (b:Rat)));rw[e1,e2];exact (wq h.1.pos hu hd).mp (Wq.comp hB hU hu ((wq hU hu hb).mpr e1) ((wq hB hb hd).mpr e2) h.2 (h.len hB hU))
theorem tF(f:Po.Fm R C)(f':Po.Fm S D)(h:∀ x,E R C x=E S D x):R=S/\C=D:=by
 refine wg f f' λt ht=>?_;obtain⟨a,b,hb,e⟩:=sd (E R C ((t:Rat) / ((1:Int):Rat)));exact⟨a,b,(wq f.pos (by decide) hb).mpr e,(wq f'.pos (by decide) hb).mpr ((h _).symm.trans e)⟩
theorem uX{C c:Int}{f:Nat->Int}{x:Rat}{N:Nat}(hC:0<C)(hc:c≠0)(h:∀ k,R.getD k 0*c=f k*C)(hN:R.length<=N):E R C x=ei f x N / (c:Rat):=by
 rw[yT hN];have e:=DD (F:=fn R) (G:=f) (x:=x) h N;have n1:=qB hC;have n2:=qX hc;grind
theorem xh{B1 B2 C:Int}(h1:0<B1)(h2:0<B2)(hC:0<C)(h:∀ k,R.getD k 0*(B1*B2)=(P1.getD k 0*B2+P2.getD k 0*B1)*C)(x:Rat):E R C x=E P1 B1 x+E P2 B2 x:=by
 have l1:P1.length<=P1.length+P2.length+R.length:=by omega
 have l2:P2.length<=P1.length+P2.length+R.length:=by omega
 have l3:R.length<=P1.length+P2.length+R.length:=by omega
 rw[uX hC (aq (aA h1 h2)) h l3,yT l1,yT l2,DE,uT,uT,av];have n1:=qB h1;have n2:=qB h2;show (ei (fn P1) x _*_+ei (fn P2) x _*_) / _=_;generalize ei (fn P1) x (P1.length+P2.length+R.length)=X;generalize ei (fn P2) x (P1.length+P2.length+R.length)=Y;grind
theorem J5{f g:Nat->Int}{n m:Nat}(hf:∀ k,n<=k->f k=0)(hg:∀ k,m<=k->g k=0)(x:Rat):ei (cv f g) x (n+m)=ei f x n*ei g x m:=by
 obtain⟨t,u,hu,rfl⟩:=sd x;have e:=congrArg (λz:Int=>(z:Rat)) (Gm (t:=t) (u:=u) hf hg);simp only[av] at e;rw[yC _ _ hu,yC _ _ hu,yC _ _ hu] at e;have n1:=t7 (qB hu) n;have n2:=t7 (qB hu) m;have e3:(u:Rat)^(n+m)=(u:Rat)^n*(u:Rat)^m:=by grind
 rw[e3] at e;generalize (u:Rat)^n=a at *;generalize (u:Rat)^m=b at *;generalize ei (cv f g) ((t:Rat) / (u:Rat)) (n+m)=X at *;generalize ei f ((t:Rat) / (u:Rat)) n=Y at *;generalize ei g ((t:Rat) / (u:Rat)) m=Z at *;have:(X-Y*Z)*(a*b)=0:=by grind
 rcases cZ.mp this with w|w
 ·grind
 ·rcases cZ.mp w with v|v
  ·exact absurd v n1
  ·exact absurd v n2
theorem uC{B1 B2 C:Int}(h1:0<B1)(h2:0<B2)(f:Po.Fm R C)(h:∀ k,R.getD k 0*(B1*B2)=cv (fn P1) (fn P2) k*C)(x:Rat):E R C x=E P1 B1 x*E P2 B2 x:=by
 have hC:=f.pos;have p12:=aA h1 h2;have l:R.length<=P1.length+P2.length:=qP f p12 h λk hk=>rP (a:=P1.length) (b:=P2.length) (λj h=>qF h) (λj h=>qF h) (by omega);rw[uX hC (aq p12) h l,J5 (λk h=>qF h) (λk h=>qF h),av];have n1:=qB h1;have n2:=qB h2;unfold E;grind
theorem Lv(F:Nat->Int)(x:Rat):ei F x 1=(F 0:Rat):=by
 show 0+(F 0:Rat)*x^0=_;rw[cC];grind
theorem Ma(F:Nat->Int)(x:Rat):ei F x 2=(F 0:Rat)+(F 1:Rat)*x:=by
 show ei F x 1+(F 1:Rat)*x^1=_;rw[Lv,Rat.pow_one]
theorem GE(l:P.length<=2)(x:Rat):E P B x=((P.getD 0 0:Int):Rat) / (B:Rat)+((P.getD 1 0:Int):Rat) / (B:Rat)*x:=by
 rw[yT l,Ma];show (((P.getD 0 0:Int):Rat)+((P.getD 1 0:Int):Rat)*x) / _=_;grind
theorem xY{C c b:Int}(f:Po.Fm R C)(hb:0<b)(h:∀ k,R.getD k 0*b=[c].getD k 0*C)(x:Rat):E R C x=(c:Rat) / (b:Rat):=by
 have l:R.length<=1:=qP f hb h λk hk=>by
  obtain⟨j,rfl⟩:∃ j,k=j+1:=⟨k-1,by omega⟩;simp
 rw[uX f.pos (aq hb) h l,Lv];rfl
theorem LQ{P:List Int}(h:St ta ba tb bb P B)(h1:0<ba)(h2:0<bb)(x:Rat):E P B x=(ta:Rat) / (ba:Rat)*x+(tb:Rat) / (bb:Rat):=by
 have p:=aA h1 h2;have l:P.length<=2:=qP h.1 p h.2 λk hk=>by
  obtain⟨j,rfl⟩:∃ j,k=j+2:=⟨k-2,by omega⟩;exact xj _ _ _
 rw[uX h.1.pos (aq p) h.2 l,Ma];show (((tb*ba:Int):Rat)+((ta*bb:Int):Rat)*x) / ((ba*bb:Int):Rat)=_;rw[av,av,av];have n1:=qB h1;have n2:=qB h2;grind
theorem KC(x:Rat):E X 1 x=x:=by
 rw[GE (by decide)];show ((0:Int):Rat) / ((1:Int):Rat)+((1:Int):Rat) / ((1:Int):Rat)*x=x;grind
def q(P:List Int)(B:Int)(k:Nat):Rat:=((P.getD k 0:Int):Rat) / (B:Rat)
theorem xq{R:List Int}{C c:Int}{f:Nat->Int}(hC:0<C)(hc:c≠0)(h:∀ k,R.getD k 0*c=f k*C)(k:Nat):q R C k=((f k:Int):Rat) / (c:Rat):=(rL (aq hC) hc).mpr (h k)
theorem s8(h:P.length<=k):q P B k=0:=by
 unfold q;rw[ah,bw h];show ((0:Int):Rat) / _=0;grind
theorem s9(f:Po.Fm P B)(h:P≠[]):q P B (P.length-1)≠0:=by
 rcases f.last with e|e
 ·exact absurd e h
 ·unfold q;have n1:=qX e;have n2:=qB f.pos;intro z;generalize ((P.getD (P.length-1) 0:Int):Rat)=a at *;grind
theorem GA(hg:∀ k,2<=k->g k=0):∀ n,cp g n n=g 1^n/\cp g (n+1) n=(n+1:Int)*g 1^n*g 0/\∀ k,n<k->cp g n k=0
 | 0=>by
  refine⟨by rw[aT];rfl,?_,λk hk=>by show (if k=0 then (1:Int) else 0)=0;rw[if_neg (by omega)]⟩;rw[Mc];simp
 | n+1=>by
  obtain⟨h1,h2,h3⟩:=GA hg n;have hz:∀(f:Nat->Int) (k:Nat),cv f g (k+1)=f (k+1)*g 0+f k*g 1:=λf k=>by
   rw[rR];have:tm g f 2 (k+1)=cv g f (k+1):=tT hg;rw[← this];show (0+(if 0<=k+1 then g 0*f (k+1-0) else 0))+(if 1<=k+1 then g 1*f (k+1-1) else 0)=_;rw[if_pos (by omega),if_pos (by omega),bD,aL];grind
  have a1:cp g (n+1) (n+1)=g 1^(n+1):=by
   show cv (cp g n) g (n+1)=_;rw[hz,h3 (n+1) (by omega),h1,bc];grind
  refine⟨a1,?_,λk hk=>?_⟩
  ·show cv (cp g (n+1)) g (n+1)=_;rw[hz,a1,h2,bc];push_cast;grind
  ·obtain⟨j,rfl⟩:∃ j,k=j+1:=⟨k-1,by omega⟩;show cv (cp g n) g (j+1)=0;rw[hz,h3 (j+1) (by omega),h3 j (by omega)];simp
theorem F6(hg:∀ k,2<=k->g k=0)(n:Nat):pc F g U (n+1) n=F n*g 1^n*U/\(∀ k,n<k->pc F g U (n+1) k=0):=by
 have z:∀ n k,n<=k->pc F g U n k=0:=λn k hk=>by
  cases n with
  | zero=>rfl
  | succ n=>exact vj (m:=2) hg (n+1) k (by omega)
 refine⟨?_,λk hk=>z _ _ hk⟩;show (pc F g U n n+F n*cp g n n)*U=_;rw[z n n (af _),(GA hg n).1];grind
theorem JD{P G R:List Int}{B U C:Int}(f:Po.Fm P B)(fG:Po.Fm G U)(lG:G.length=2)(hP:P≠[])(g1:G.getD 1 0≠0)(h:Of P B G U R C) :
  R.length=P.length/\q R C (P.length-1)=q P B (P.length-1)*q G U 1^(P.length-1):=by
 have hB:=f.pos;have hU:=fG.pos;have hC:=h.1.pos;have hg:∀ k,2<=k->fn G k=0:=λk hk=>qF (by omega);obtain⟨n,hn⟩:∃ n,P.length=n+1:=⟨P.length-1,by cases P;exact absurd rfl hP;simp⟩;have hW:=aA hB (pow_pos hU (n+1));have h2:=h.2;rw[hn] at h2;have e:=xq hC (aq hW) h2 n;rw[(F6 hg n).1,av,av,av,cI,cI] at e;have nB:=qB hB;have nU:=qB hU;have nUn:=t7 nU n;have e2:q R C n=q P B n*q G U 1^n:=by
  rw[e];show ((P.getD n 0:Int):Rat)*((G.getD 1 0:Int):Rat)^n*(U:Rat) / ((B:Rat)*(U:Rat)^(n+1))=((P.getD n 0:Int):Rat) / (B:Rat)*(((G.getD 1 0:Int):Rat) / (U:Rat))^n;have p:=xw ((G.getD 1 0:Int):Rat) nU n;rw[← p,cE];generalize (((G.getD 1 0:Int):Rat) / (U:Rat))^n=Z;generalize (U:Rat)^n=W at *;grind
 have l1:R.length<=n+1:=qP h.1 hW h2 λk hk=>(F6 hg n).2 k (by omega);rw[hn,aL];refine⟨?_,e2⟩;rcases aD R.length (n+1) with z|z
 ·have z1:=s8 (B:=C) (show R.length<=n by omega);rw[z1] at e2;have z2:=s9 f hP;rw[hn,aL] at z2;have z3:q G U 1≠0:=by
   unfold q;have n1:=qX g1;generalize ((G.getD 1 0:Int):Rat)=a at *;intro z;grind
  have z4:=t7 z3 n;rcases cZ.mp e2.symm with w|w
  ·exact absurd w z2
  ·exact absurd w z4
 ·omega
end Qp
namespace L2
open PySem Qp
variable{K:Frag}{H H':Hp}{v:V}{r:Rat}{n b n' b':Nat}
theorem Fq.ne{p:Addr}{t u:Int}(hu:0<u)(e:r=(t:Rat) / (u:Rat)):r≠0↔t≠0:=by
 have n1:=qB hu;subst e;constructor
 ·intro h z;subst z;refine h ?_;have:((0:Int):Rat)=0:=rfl;rw[this];grind
 ·intro h z;have h':=qX h;generalize (t:Rat)=a at *;grind
end L2
namespace Qp
open L2 Cv Hv Pc
theorem t6:E P B 0=q P B 0:=by
 unfold E q;have:∀ n,0<n->ei (fn P) 0 n=((P.getD 0 0:Int):Rat):=by
  intro n hn;induction n with
  | zero=>omega
  | succ n ih =>
   rw[ei];cases n with
   | zero =>
    rw[ei,cC];show 0+((P.getD 0 0:Int):Rat)*1=_;grind
   | succ n =>
    rw[ih (by omega),cE];grind
 cases hP:P.length with
 | zero =>
  have:P=[]:=bM.mp hP;subst this;show 0 / _=((0:Int):Rat) / _;rfl
 | succ n=>rw[this (n+1) (by omega)]
theorem F2{B1 B2 C:Int}(h1:0<B1)(h2:0<B2)(hC:0<C)(h:∀ k,R.getD k 0*(B1*B2)=(P1.getD k 0*B2+P2.getD k 0*B1)*C)(k:Nat):q R C k=q P1 B1 k+q P2 B2 k:=by
 have e:=xq (f:=λk=>P1.getD k 0*B2+P2.getD k 0*B1) hC (aq (aA h1 h2)) h k;rw[e];have n1:=qB h1;have n2:=qB h2;unfold q;simp only[av,dw];grind
end Qp
namespace HT
open PySem PyProof.Rows
variable{prog:Program}{w:World}{A:Around}{E:Value->Shared->Prop}{s:Shared}
theorem yE{α β:Type}{f g:α->Option β}:∀{l:List α},(∀ a∈l,f a=g a)->l.filterMap f=l.filterMap g
 | [],_=>rfl
 | a::l,h=>by
  rw[bq,bq,h a aF,yE λb hb=>h b (az _ hb)]
theorem uH{sl:Addr}{vl vs:Value}{n:Nat}(hs:s.heap.IsSliceOf sl vl .none vs)(pl:IsPart vl (some 1))(ps:IsPart vs (some 2))
  (h:Q (((min 1 n:Nat):Int),2,n / 2) s):wpAny (model prog w) A (Builtin.Slice.sliceApplied (.ref sl) (pure (n:Int))) Q E s:=by
 obtain⟨os,hos,hcs,hds⟩:=id hs;unfold Builtin.Slice.sliceApplied Builtin.Slice.sliceFields;refine ηB (ηB (wpAny_field hos hds (x:=vl) rfl (ηB (wpAny_field hos hds (x:=.none) rfl (ηB (wpAny_field hos hds (x:=vs) rfl (ηP ?_)))))));refine ηB (sH ps ?_);show wpAny _ _ (if ((2:Int) == 0)=true then _ else _) _ _ s;rw[if_neg (by decide)];refine ηB (sH pl (ηB (slicePart_none (ηB (ηP ?_)))));show wpAny _ _ (match Builtin.Slice.sliceAdjust (some 1) none 2 (n:Int) with|(lo,hi)=>pure (lo,(2:Int),Builtin.Slice.slicePlaces lo hi 2)) _ _ s;have e:Builtin.Slice.sliceAdjust (some 1) none 2 (n:Int)=(((min 1 n:Nat):Int),(n:Int)):=by
  unfold Builtin.Slice.sliceAdjust;simp;omega
 rw[e];show wpAny _ _ (pure (((min 1 n:Nat):Int),(2:Int),Builtin.Slice.slicePlaces ((min 1 n:Nat):Int) (n:Int) 2)) _ _ s;have e2:Builtin.Slice.slicePlaces ((min 1 n:Nat):Int) (n:Int) 2=n / 2:=by
  unfold Builtin.Slice.slicePlaces;have h1:(2:Int) > 0:=by omega
  simp only[h1,if_true];split <;> omega
 rw[e2];exact ηP h
theorem uv(ht:IsTup s.heap t items)(hs:s.heap.IsSliceOf sl vl .none vs)(pl:IsPart vl (some 1))(ps:IsPart vs (some 2))
  (h:Q (.ref s.heap.objs.size) { s with heap:=s.heap.push { cls:=.type "tuple",data:=.seq ((List.range (items.size / 2)).filterMap λ(m:Nat)=>items[1+m*2]?).toArray } })
  (hsz:items.size<=sizeLine):wpAny (model prog w) A (getItem (.ref t) (.ref sl)) Q E s:=by
 have htake:sizeOk (.seq ((List.range (items.size / 2)).filterMap λ(m:Nat)=>items[1+m*2]?).toArray):=by
  show ((List.range (items.size / 2)).filterMap λ(m:Nat)=>items[1+m*2]?).toArray.size<=sizeLine;rw[aj];have:=fZ (λ(m:Nat)=>items[1+m*2]?) (List.range (items.size / 2));rw[dh] at this;omega
 obtain⟨os,hos,hcs,hds⟩:=id hs;have hTs:s.TypeIs (.ref sl) "slice" := ⟨os,hos,hcs⟩;unfold getItem;try with_reducible refine wpAny_holding ?_
 first|refine ηB (ηP ?_)|skip
 refine ηB (wpAny_sequenceKey ht.typeIs (by decide) ?_);refine ηB (wpAny_callSpecial?_slot (name:=Str.ofString "__getitem__") ht.typeIs PyProof.Rows.slot_tuple_getitem
  (wpAny_call_entry PyProof.Rows.slot_tuple_getitem ht.typeIs entry_tuple_getitem ?_ (args_tuple_getitem _ _)))
 show wpAny _ _ (Builtin.Tuple.tupleItemsOf (.ref t) >>= _) _ _ s;refine ηB (tupleItemsOf_ ht ?_);refine ηB (wpAny_typeOf hTs ?_);rw[if_pos (by decide)];refine ηB (uH hs pl ps ?_);have hno:¬ ((((min 1 items.size:Nat):Int) == 0 && (2:Int) == 1 && (items.size / 2) == items.size)=true):=by
  intro q;rw[aX,aX] at q;exact absurd q.1.2 (by decide)
 show wpAny _ _ (if (((min 1 items.size:Nat):Int) == 0 && (2:Int) == 1 && (items.size / 2) == items.size)=true then _ else _) _ _ s;have ep:((List.range (items.size / 2)).filterMap λ(m:Nat)=>items[(((min 1 items.size:Nat):Int)+(m:Int)*2).toNat]?).toArray=((List.range (items.size / 2)).filterMap λ(m:Nat)=>items[1+m*2]?).toArray:=by
  congr 1;refine yE λm hm=>?_;have:=fI.mp hm;congr 1;omega
 rw[if_neg hno,ep];first
  | exact ηB (m:=Builtin.Tuple.tupleExact _) (wpAny_newObj_type (ηP ⟨_,rfl,ηP h⟩) htake)
  | exact ηB (m:=Builtin.Tuple.tupleExact _) (wpAny_newObj_type (ηB (ηP (ηP ⟨_,rfl,ηP h⟩))) htake)
  | exact ηB (ηB (m:=Builtin.Tuple.tupleExact _) (wpAny_newObj_type (ηP (ηP ⟨_,rfl,ηP h⟩)) htake))
  | exact ηB (ηB (m:=Builtin.Tuple.tupleExact _) (wpAny_newObj_type (ηP ⟨_,rfl,ηP h⟩) htake))
end HT
namespace L2
open PySem PySem.Spec PyProof.Rows
section
variable{X:Cx}{e:Expr}{te:TE}{lo hi:Option Expr}{se:Expr}{tl th ts:TO}{pos p2:Pos}
def IH(X:Cx)(r:V->Option Int->Option Int->Option Int->Hp->VK->Prop):Prop :=
 ∀(pins:List (Addr×Obj)) (s:Shared) (σ:St) (H:Hp) (x:V) (v vl vu vs:Value) (lo hi st:Option Int) (sl:Addr) (Q:VK),Inv X pins σ H s->RelV x v->s.heap.IsSliceOf sl vl vu vs->IsPart vl lo->IsPart vu hi->IsPart vs st->r x lo hi st H Q ->
  ∃ T id,typeLookup (.type T) "__getitem__" = pure (some (.builtin id))/\s.TypeIs v T/\wpAny (model X.prog X.w) X.A (getItem v (.ref sl)) (EP X pins σ Q) X.xe s
def KK(r:V->Option Int->Option Int->Option Int->Hp->VK->Prop)(te:TE)(tl th ts:TO):TE:=λσ H Q=>te σ H λx H1=>tl σ H1 λl H2=>th σ H2 λu H3=>ts σ H3 λk H4=>r x l u k H4 Q
theorem wE(hr:IH X r)(he:PE X e te)(hl:PO X lo tl)(hu:PO X hi th)(hs:PO X (some se) ts):PE X (.Subscript e (.Slice lo hi (some se) p2) pos) (KK r te tl th ts):=by
 intro pins s σ H Q I h;refine Subscript_ (qZ (he pins s σ H _ I h) λv s1 ⟨x,H1,I1,r1,q1⟩=>?_);refine wpAny_Slice (qZ (hl pins s1 σ H1 _ I1 q1) λvl s2 ⟨l,H2,I2,pl,q2⟩=>qZ (hu pins s2 σ H2 _ I2 q2) λvu s3 ⟨u,H3,I3,pu,q3⟩=>qZ (hs pins s3 σ H3 _ I3 q3) λvs s4 ⟨k,H4,I4,pk,q4⟩=>?_);have I5:Inv X pins σ H4 { s4 with heap:=s4.heap.push { cls:=.type "slice",data:=.fields #[vl,vu,vs] } }:=I4.kept (t':=s4.toks) λb ob q=>ηH _ q;obtain⟨T,id,hT,ht,hg⟩:=hr pins { s4 with heap:=s4.heap.push { cls:=.type "slice",data:=.fields #[vl,vu,vs] } } σ H4 x v vl vu vs l u k s4.heap.objs.size Q I5 r1 (Heap.IsSliceOf.new ..) pl pu pk q4;show wpAny (model X.prog X.w) X.A (subscriptTail e (.Slice lo hi (some se) p2) v (.ref s4.heap.objs.size)) (EP X pins σ Q) X.xe { s4 with heap:=s4.heap.push { cls:=.type "slice",data:=.fields #[vl,vu,vs] } };exact tail_any (ops:=[v,.ref s4.heap.objs.size]) ht hT hg (by with_unfolding_all rfl)
theorem KW(K:Frag)(hK:X.K=K:=by rfl):IH X (λx lo hi st H Q=>lo=none/\hi=none/\st=some (-1)/\∃ a xs,x = .ref a/\SqL K H a xs/\∀ p,H p=none->Q (.ref p) (rg H p (.lst xs.reverse))):=by
 subst hK;intro pins s σ H x v vl vu vs lo hi st sl Q I rx hs pl pu pk h;obtain⟨rfl,rfl,rfl,a,xs,rfl,hx,q⟩:=h;cases rx;obtain⟨its,r,ht,hz⟩:=I.list hx;have hlen:=r.length;refine⟨"list",_,slot_list_getitem.lookup,ht.isList.typeIs,?_⟩;refine wpAny_getItem_list_slice ht.isList hs pl pu pk (by decide) ?_ (by rw[aj] <;> omega);rw[PySem.W.krv_pick];refine⟨.ref s.heap.objs.size,_,I.laid (t':=s.toks) (o:=.lst xs.reverse) (λb ob q=>ηH _ q) (af _) ?_,rfl,q _ (I.hok.fresh (af _))⟩;exact⟨by rw[aM];exact hz,its.reverse,0,r.reverse,ηG _ rfl⟩
def Bv(xs:List V):List V:=(List.range (xs.length / 2)).filterMap λm=>xs[1+m*2]?
theorem x9(r:Vals xs its):∀ ms:List Nat,Vals (ms.filterMap λm=>xs[1+m*2]?) (ms.filterMap λm=>its.toArray[1+m*2]?)
 | []=>.nil
 | m::ms=>by
  have ih:=x9 r ms;rw[bq,bq];cases hx:xs[1+m*2]? with
  | none =>
   have:its.toArray[1+m*2]? = none:=by
    have h1:=cP.mp hx;rw[eg];exact cP.mpr (by rw[← r.length];exact h1)
   rw[this];exact ih
  | some x =>
   obtain⟨u,hu,ru⟩:=r.get hx;have:its.toArray[1+m*2]? = some u:=by rw[eg];exact hu
   rw[this];exact .cons ru ih
theorem Lc(K:Frag)(hK:X.K=K:=by rfl):IH X (λx lo hi st H Q=>lo=some 1/\hi=none/\st=some 2/\∃ a xs,x = .ref a/\SqT K H a xs/\∀ p,H p=none->Q (.ref p) (rg H p (.tup (Bv xs)))):=by
 subst hK;intro pins s σ H x v vl vu vs lo hi st sl Q I rx hs pl pu pk h;obtain⟨rfl,rfl,rfl,a,xs,rfl,hx,q⟩:=h;cases rx;cases pu;obtain⟨its,r,ht,hz⟩:=I.tuple hx;have hlen:its.toArray.size=xs.length:=by rw[aj];exact r.length.symm
 refine⟨"tuple",_,PyProof.Rows.slot_tuple_getitem.lookup,ht.typeIs,?_⟩;refine HT.uv ht hs pl pk ?_ (by rw[hlen];exact hz);rw[hlen];refine⟨.ref s.heap.objs.size,_,I.laid (t':=s.toks) (o:=.tup (Bv xs)) (λb ob q=>ηH _ q) (af _) ?_,rfl,q _ (I.hok.fresh (af _))⟩;refine⟨?_,_,x9 r _,IsTup.new _ _⟩;have:=fZ (λ(m:Nat)=>xs[1+m*2]?) (List.range (xs.length / 2));rw[dh] at this;show (Bv xs).length<=sizeLine;unfold Bv;omega
end
def Kj(K:Frag)(H:Hp)(v:V)(P:List Int)(B:Int):Prop:=∃ a t,v = .ref a/\SqT K H a [.ref t,.int B]/\SqT K H t (P.map V.int)
theorem Pol.k{K:Frag}{H:Hp}{v:V}{P:List Int}{B:Int}(h:Pol H v P B):Kj K H v P B:=by
 obtain⟨a,t,e,h1,h2⟩:=h;exact⟨a,t,e,SqT.of h1,SqT.of h2⟩
instance coePolK {K:Frag}{H:Hp}{v:V}{P:List Int}{B:Int}:Coe (Pol H v P B) (Kj K H v P B):=⟨Pol.k⟩
end L2
namespace Ca
open Cv
theorem tY(F G:Nat->Int)(n:Nat):sm (λj=>F j+G j) n=sm F n+sm G n:=by
 induction n with
 | zero=>rfl
 | succ n ih=>rw[sm,sm,sm,ih];omega
theorem GV(h:∀ j,j<n->d∣F j):d∣sm F n:=by
 induction n with
 | zero=>exact Int.dvd_zero d
 | succ n ih=>exact eJ (ih λj hj=>h j (by omega)) (h n (by omega))
theorem wZ{f g f' g':Nat->Int}{k:Nat}(h:∀ j,j<=k->f j=f' j)(h':∀ j,j<=k->g j=g' j):cv f g k=cv f' g' k :=
 qM λj hj=>by rw[h j (by omega),h' (k-j) (by omega)]
theorem A2(f f' g:Nat->Int)(k:Nat):cv (λj=>f j+f' j) g k=cv f g k+cv f' g k:=by
 unfold cv;rw[← tY];exact qM λj _=>eK ..
theorem Ad(f g:Nat->Int)(c:Int)(k:Nat):cv (λj=>c*f j) g k=c*cv f g k:=by
 rw[bK,← si];exact rq (λj=>bK _ _) λ_=>rfl
theorem DN(f g:Nat->Int)(c:Int)(k:Nat):cv f (λj=>c*g j) k=c*cv f g k:=by
 rw[rR,Ad,rR]
theorem yI(f g:Nat->Int)(k:Nat):cv f g (k+1)=f 0*g (k+1)+cv (λj=>f (j+1)) g k:=by
 unfold cv;rw[ug];congr 1;exact qM λj _=>by rw[show k+1-(j+1)=k-j by omega]
theorem Af(f g:Nat->Int):cv f g 0=f 0*g 0:=by simp[cv,sm]
theorem uy(f g h:Nat->Int)(k:Nat):cv (cv f g) h k=cv f (cv g h) k:=by
 induction k generalizing f g h with
 | zero=>rw[Af,Af,Af,Af,bZ]
 | succ k ih =>
  rw[yI (cv f g) h,yI f (cv g h),Af];have e:cv (λj=>cv f g (j+1)) h k=cv (λj=>f 0*g (j+1)+cv (λj=>f (j+1)) g j) h k:=rq (λj=>yI f g j) λ_=>rfl;rw[e,A2,Ad,ih,yI g h];grind
theorem Ae(f g:Nat->Int)(k:Nat):cv f g (k+1)=f 0*g (k+1)+sm (λj=>f (j+1)*g (k-j)) k+f (k+1)*g 0:=by
 rw[yI];unfold cv;rw[sm,bj];exact (Int.add_assoc ..).symm
def pw(g:Nat->Int):Nat->Nat->Int
 | 0=>λj=>if j=0 then 1 else 0
 | m+1=>cv (pw g m) g
theorem Bi(h:g 0=1):∀ m,pw g m 0=1
 | 0=>rfl
 | m+1=>by show cv _ _ 0=1;rw[Af,Bi h m,h];rfl
theorem zc(h:g 0=1)(hg:∀ i,k∣g (i+1)):∀ m i,(k*k∣pw g m (i+1)-m*g (i+1))/\k∣pw g m (i+1)
 | 0,i=>⟨by simp[pw],by simp[pw]⟩
 | m+1,i=>by
  obtain⟨a,b⟩:=zc h hg m i;have e:pw g (m+1) (i+1)=cv (pw g m) g (i+1):=rfl;rw[Ae,Bi h,h] at e;have d:k*k∣sm (λj=>pw g m (j+1)*g (i-j)) i:=GV λj hj=>by
   rw[show i-j=(i-j-1)+1 by omega];exact Int.mul_dvd_mul (zc h hg m j).2 (hg _)
  have q:k*k∣pw g (m+1) (i+1)-(m+1:Nat)*g (i+1):=by
   rw[show pw g (m+1) (i+1)-((m+1:Nat):Int)*g (i+1)=sm (λj=>pw g m (j+1)*g (i-j)) i+(pw g m (i+1)-m*g (i+1)) by rw[e];grind];exact eJ d a
  refine⟨q,?_⟩;have q2:k∣pw g (m+1) (i+1)-(m+1:Nat)*g (i+1):=Int.dvd_trans (gT k k) q;have q3:k∣((m+1:Nat):Int)*g (i+1):=Int.dvd_mul_of_dvd_right (hg i);have:=eJ q2 q3;rwa [gL] at this
theorem xt(h:g 0=1)(hh:∀ i,i<=s->g' i=g i):∀ m,(∀ i,i<=s->pw g' m i=pw g m i)/\pw g' m (s+1)=pw g m (s+1)+m*(g' (s+1)-g (s+1))
 | 0=>⟨λ_ _=>rfl,by simp[pw]⟩
 | m+1=>by
  obtain⟨a,b⟩:=xt h hh m;have h':g' 0=1:=by rw[hh 0 (aC _),h]
  refine⟨λi hi=>wZ (λj hj=>a j (by omega)) λj hj=>hh j (by omega),?_⟩;show cv (pw g' m) g' (s+1)=cv (pw g m) g (s+1)+_;rw[Ae,Ae,Bi h',Bi h,h,h',b];have:sm (λj=>pw g' m (j+1)*g' (s-j)) s=sm (λj=>pw g m (j+1)*g (s-j)) s:=qM λj hj=>by rw[a (j+1) (by omega),hh (s-j) (by omega)]
  rw[this];grind
theorem Jj{a:Nat->Int}{k:Nat}(hk:0<k)(h0:a 0=1)(ha:∀ i,(k*k:Int)∣a (i+1)):∀ s:Nat,∃ g:Nat->Int,g 0=1/\(∀ i,(k:Int)∣g (i+1))/\∀ j,j<=s->pw g k j=a j
 | 0=>⟨λi=>if i=0 then 1 else 0,rfl,λi=>by simp,λj hj=>by
   rw[show j=0 by omega,h0];exact Bi (by rfl) k⟩
 | s+1=>by
  obtain⟨g,g0,gd,ge⟩:=Jj hk h0 ha s;have m1:=(zc g0 gd k s).1;have m2:(k*k:Int)∣pw g k (s+1):=by
   have:(k*k:Int)∣k*g (s+1):=Int.mul_dvd_mul (Int.dvd_refl _) (gd s);have:=eJ m1 this;rwa [gL] at this
  obtain⟨t,ht⟩:=Int.dvd_sub (ha s) m2;have hh:∀ i,i<=s->(if i=s+1 then g i+k*t else g i)=g i:=λi hi=>if_neg (by omega);have P:=xt (g':=λi=>if i=s+1 then g i+k*t else g i) g0 hh k;refine⟨λi=>if i=s+1 then g i+k*t else g i,?_,λi=>?_,λj hj=>?_⟩
  ·exact (hh 0 (aC _)).trans g0
  ·show (k:Int)∣if i+1=s+1 then _ else _;split
   ·exact eJ (gd i) (gT _ _)
   ·exact gd i
  ·rcases aD s j with c|c
   ·rw[show j=s+1 by omega,P.2];simp only[if_true];grind
   ·rw[P.1 j c,ge j c]
def th(f:Nat->Int):Nat->Int:=λj=>j*f j
theorem IV(f g:Nat->Int)(k:Nat):th (cv f g) k=cv (th f) g k+cv f (th g) k:=by
 unfold th cv;rw[← tY,bK,← sW];refine qM λj hj=>?_;have:((k-j:Nat):Int)=k-j:=by omega
 show f j*g (k-j)*k=j*f j*g (k-j)+f j*(((k-j:Nat):Int)*g (k-j));rw[this];grind
theorem FS(g:Nat->Int):∀ m j,cv (th (pw g m)) g j=m*cv (pw g m) (th g) j
 | 0,j=>by
  rw[Int.natCast_zero,ay];refine Gw λi=>?_;show (i:Int)*(if i=0 then 1 else 0)=0;split
  ·rw[‹i=0›];rfl
  ·exact bU _
 | m+1,j=>by
  have e:cv (th (pw g (m+1))) g j=cv (λi=>cv (th (pw g m)) g i+cv (pw g m) (th g) i) g j:=rq (λi=>IV _ _ i) λ_=>rfl;have e1:cv (cv (th (pw g m)) g) g j=cv (λi=>m*cv (pw g m) (th g) i) g j:=rq (λi=>FS g m i) λ_=>rfl;have e2:cv (cv (pw g m) (th g)) g j=cv (pw g (m+1)) (th g) j:=by
   rw[uy];show _=cv (cv (pw g m) g) (th g) j;rw[uy];exact rq (λ_=>rfl) λi=>rR _ _ i
  rw[e,A2];have e3:cv (λi=>cv (th (pw g m)) g i) g j=m*cv (pw g (m+1)) (th g) j:=by
   refine Eq.trans (show _=cv (cv (th (pw g m)) g) g j from rfl) ?_;rw[e1,Ad,← e2]
  have e4:cv (λi=>cv (pw g m) (th g) i) g j=cv (pw g (m+1)) (th g) j:=e2;rw[e3,e4];grind
theorem step{a g:Nat->Int}{k s j:Nat}(g0:g 0=1)(h0:a 0=1)(h:∀ j,j<=s->pw g k j=a j)(hj:j<=s) :
  sm (λi=>(((i+1:Nat):Int)*(k+1)-j*k)*a (i+1)*g (j-(i+1))) j=j*k*g j:=by
 have e:=FS g k j;have e1:cv (th (pw g k)) g j=cv (th a) g j:=wZ (λi hi=>by unfold th;rw[h i (by omega)]) λ_ _=>rfl;have e2:cv (pw g k) (th g) j=cv a (th g) j:=wZ (λi hi=>h i (by omega)) λ_ _=>rfl;rw[e1,e2] at e;unfold cv at e;rw[ug,ug] at e;have z:th a 0=0:=by simp[th]
 have z2:th g (j-0)=j*g j:=rfl;rw[z,z2,h0,ay,bT,bO,Int.mul_add] at e;have q:sm (λi=>(((i+1:Nat):Int)*(k+1)-j*k)*a (i+1)*g (j-(i+1))) j=sm (λi=>th a (i+1)*g (j-(i+1))+a (i+1)*th g (j-(i+1))*(-k)) j:=qM λi hi=>by
  unfold th;have:((j-(i+1):Nat):Int)=j-(i+1:Nat):=by omega
  rw[this];grind
 rw[q,tY,sW (λi=>a (i+1)*th g (j-(i+1)))];grind
end Ca
namespace Ca
open Cv L2
theorem J2{P:Nat->Int}{n k:Nat}{c l:Int}(hl:P n=l)(h0:l≠0)(hc:c=((l.natAbs:Nat):Int)*k*k) :
  ∀ j,j<=n->l*(P (n-j)*c^j).fdiv l=P (n-j)*c^j/\(j=0->(P (n-j)*c^j).fdiv l=1)/\(0<j->(k*k:Int)∣(P (n-j)*c^j).fdiv l):=by
 intro j hj;cases j with
 | zero =>
  rw[bD,hl,aT,bv];have:l.fdiv l=1:=by
   have:=eQ 1 h0;rwa [bO] at this
  rw[this];exact⟨bv _,λ_=>rfl,λh=>absurd h (br _)⟩
 | succ j =>
  obtain⟨z,hz⟩:∃ z:Int,((l.natAbs:Nat):Int)=z*l/\True:=by
   rcases Int.natAbs_eq l with e|e
   ·exact⟨1,by omega,trivial⟩
   ·exact⟨-1,by omega,trivial⟩
  have e:P (n-(j+1))*c^(j+1)=(P (n-(j+1))*z*c^j*(k*k))*l:=by
   rw[bc];have:c=z*l*k*k:=by rw[hc,hz.1]
   calc P (n-(j+1))*(c^j*c)=P (n-(j+1))*c^j*c:=by grind
    _=P (n-(j+1))*c^j*(z*l*k*k):=congrArg _ this
    _=_:=by grind
  rw[e,eQ _ h0];exact⟨bK _ _,λh=>absurd h (by omega),λ_=>Int.dvd_mul_left _ _⟩
def Cand(P:Nat->Int)(k s:Nat)(R:Nat->Int)(C:Int):Prop :=
 ∃(c:Int) (g:Nat->Int),0<c/\g 0=1/\(∀ j,j<s->P (k*s-j)*c^j=P (k*s)*pw g k j)/\(∀ i,i<s->R (s-i)*c^i=g i*C)/\R 0=0
end Ca
namespace L2
open PySem PySem.Spec PyProof.Rows
theorem A9{P:Program}{w:World}{K:Frag}{tg:Expr}(n:Nat)(a it:Addr):Turn P w K tg (⟨λi H=>i<n/\∃ xs x,SqL K H a xs/\xs.length=n/\xs.reverse[i]? = some x,λi H x H'=>H'=H/\∀ xs,SqL K H a xs->xs.reverse[i]? = some x,λi H=>i=n⟩:It) [it] it (λi h=>h.IsRevIter it a ((n:Int)-1-(i:Int))) where
 mem:=by simp
 obj:=λi h st b hb=>by
  have e:b=it:=by simpa using hb
  subst e;obtain⟨o,e,c,d⟩:=st;exact⟨o,e,λv z=>by rw[d] at z;cases z⟩
 keep:=λi h h' st k=>by
  obtain⟨o,e,r⟩:=st;exact⟨o,k it (by simp) o e,r⟩
 item:=by
  intro X hP hw hK hc i pins s σ H E I hf st hg;subst hP hw hK;obtain⟨hlt,xs,x,hq,hn,hx⟩:=hg;obtain⟨its,rv,p,hz⟩:=I.list hq;have hlen:=rv.length;rw[bJ (by omega)] at hx;obtain⟨u,hu,ru⟩:=rv.get hx;obtain⟨f0,f1,f2,f3,f4,f5⟩:=hf it (by simp);have e0:(n:Int)-1-(i:Int)=((xs.length-1-i:Nat):Int):=by omega
  have st':s.heap.IsRevIter it a ((xs.length-1-i:Nat):Int):=by rw[← e0];exact st
  refine wpAny_pyNext_rev_item (i:=xs.length-1-i) st' p.isList (x:=u) (by simpa using hu) λh' st2 sb=>?_;have I1:Inv X pins σ H { s with heap:=h' }:=I.turned (t':=s.toks) (λb o hb e=>(sb.2 b hb).trans e) f0 f1 f3 f4 f5;obtain⟨o,e,c,d⟩:=id st2;refine⟨u,rfl,yD (s:={ s with heap:=h' }) e c d (by decide) ⟨x,H,I1,ru,⟨rfl,λys hy=>?_⟩,?_,λb hb=>(hf b hb).1⟩⟩
  ·rw[I.list_inj hy hq,bJ (by omega)];exact hx
  ·show h'.IsRevIter it a ((n:Int)-1-((i+1:Nat):Int));rw[show (n:Int)-1-((i+1:Nat):Int)=((xs.length-1-i:Nat):Int)-1 by omega];exact st2
 done:=by
  intro X hP hw hK hc i pins s σ H E I hf st hg;subst hP hw hK;have hg':i=n:=hg;subst hg';obtain⟨f0,f1,f2,f3,f4,f5⟩:=hf it (by simp);have st':s.heap.IsRevIter it a (-1):=by
   have e:(i:Int)-1-(i:Int) = -1:=by omega
   rw[← e];exact st
  exact wpAny_pyNext_rev_end (I.ok.hd hc) st' λh' eb=>⟨rfl,I.turned (t':=s.toks) (λb o hb e=>eb b o hb e) f0 f1 f3 f4 f5⟩
 self:=λ_ _ _ _ _ st h=>wpAny_pyIter_revIter st h
theorem By:fillsNumberSlot (.type "tuple") "mul" = pure false:=PySem.fillsNumberSlot_seq (id := "tuple.__mul__") (r:=some (.builtin "tuple.__rmul__")) F.slot_tuple_mul.lookup (by decide +kernel) F.slot_tuple_rmul.lookup (by decide +kernel)
theorem Ha:seqRepeat? (.type "tuple")=pure (some (.builtin "tuple.__mul__")):=by
 unfold seqRepeat?;rw[PySem.seqSlot_of (T := "tuple") (name := "__mul__") (id := "tuple.__mul__") F.slot_tuple_mul.lookup (by decide +kernel),PySem.seqSlot_of (T := "tuple") (name := "__rmul__") (id := "tuple.__rmul__") F.slot_tuple_rmul.lookup (by decide +kernel)];rfl
theorem EA(a:Int)(t:Tok)(l:Addr)(items:Array Value)(n:Nat)(dd:Option Addr)(sl:Array (Option Value)):Meets (Builtin.«int.__rmul__» ⟨[.int a t,.ref l],[]⟩) (λ_ R s=>s.heap.get? l=some { cls:=.type "tuple",dict:=dd,data:=.seq items n,slots:=sl }/\R (.ok (.ret Value.notImplemented)) s) :=
 .of_wp λprog w A R s h=>by obtain⟨p1,p2,p3,p4,p5⟩:=s;obtain⟨hl,h⟩:=h;wp_walk;exact⟨_,rfl,h⟩
theorem Fh(l:Addr)(items:Array Value)(n:Nat)(u:Tok)(dd:Option Addr)(sl:Array (Option Value)):Meets (Builtin.«tuple.__mul__» ⟨[.ref l,.int 1 u],[]⟩) (λ_ R s=>s.heap.get? l=some { cls:=.type "tuple",dict:=dd,data:=.seq items n,slots:=sl }/\R (.ok (.ret (.ref l))) s) :=
 .of_wp λprog w A R s h=>by
  obtain⟨p1,p2,p3,p4,p5⟩:=s;obtain⟨hl,h⟩:=h;have f2:=AutoSeq1.sub_tuple_tuple
  wp_walk using AutoSeq1.wpAny_loadPart' hl
  exact⟨_,rfl,h⟩
theorem Fg(l:Addr)(items:Array Value)(n:Nat)(x:Int)(u:Tok)(dd:Option Addr)(sl:Array (Option Value))(h0:items.isEmpty=false)(h1:¬ (decide (x < -(2^63)) || decide (x ≥ 2^63))=true)(h2:(x == 1)=false)(h3:¬ x<=0)(h4:¬ (items.size:Int)*x > (2^63-1) / 8)(h5:Builtin.Tuple.tupleTooMany ((items.size:Int)*x)=false)(h6:(List.foldl (λx1 x2=>x1++x2) #[] (List.replicate x.toNat items)).size<=sizeLine) :
  Meets (Builtin.«tuple.__mul__» ⟨[.ref l,.int x u],[]⟩) (λ_ R s=>s.heap.get? l=some { cls:=.type "tuple",dict:=dd,data:=.seq items n,slots:=sl }/\R (.ok (.ret (.ref s.heap.objs.size))) { s with heap:=s.heap.push { cls:=.type "tuple",data:=.seq (List.foldl (λx1 x2=>x1++x2) #[] (List.replicate x.toNat items)) } }) :=
 .of_wp λprog w A R s h=>by
  obtain⟨p1,p2,p3,p4,p5⟩:=s;obtain⟨hl,h⟩:=h;have f2:=AutoSeq1.sub_tuple_tuple
  wp_walk using AutoSeq1.wpAny_loadPart' hl
  rw[if_neg h1]
  wp_walk using AutoSeq1.wpAny_loadPart' hl
  rw[if_neg h4]
  wp_walk
  exact⟨_,rfl,h⟩
def Jn(K:Frag):R2:=λx y H Q=>∃ l xs,∃ k:Nat,x = .ref l/\y = .int k/\SqT K H l xs/\xs≠[]/\1<=k/\xs.length*k<=100000/\(k=1->Q (.ref l) H)/\(k≠1->∀ p,H p=none->Q (.ref p) (rg H p (.tup (List.replicate k xs).flatten)))
theorem EV:OpR X (binaryOp .Mult) (Jn X.K):=by
 intro pins s σ H x y v u Q I rx ry h;obtain⟨l,xs,k,rfl,rfl,hH,hne,hk,hz,q1,q2⟩:=h;cases rx;obtain⟨t,rfl⟩:=ry;obtain⟨its,rv,p,hz2⟩:=I.tuple hH;obtain⟨⟨cls,dd,data,sl⟩,e,hc,n,hd⟩:=p;simp only at hc hd;subst hc hd;have hl:=rv.length;have sz:100000<=sizeLine:=by rw[sizeLine_eq];decide
 have go:∀ z:Int,z=(k:Int)->wpAny (model X.prog X.w) X.A (call (.builtin "tuple.__mul__") [.ref l,.int z t]) (EP X pins σ Q) X.xe s:=by
  rintro z hzk;by_cases h1:k=1
  ·rw[show z=1 by omega];exact call_meets F.slot_tuple_mul ⟨_,e,rfl⟩ F.entry_tuple_mul (F.args_tuple_mul_2 _ _) (Fh l its.toArray n t dd sl) ⟨e,⟨.ref l,H,I,rfl,q1 h1⟩⟩
  ·have f0:∀ m:Nat,List.foldl (λx1 x2=>x1++x2) #[] (List.replicate m its.toArray)=(List.replicate m its).flatten.toArray:=λm=>by
    have:=uQ its m [];rw[fv] at this;exact this
   have zk:z.toNat=k:=by omega
   have im:(its.toArray.size:Int)*z=((xs.length*k:Nat):Int):=by rw[hzk,aj,← hl];exact (Int.natCast_mul _ _).symm
   refine call_meets F.slot_tuple_mul ⟨_,e,rfl⟩ F.entry_tuple_mul (F.args_tuple_mul_2 _ _) (Fg l its.toArray n z t dd sl ?_ ?_ ?_ ?_ ?_ ?_ ?_) ⟨e,?_⟩
   ·cases its with
    | nil=>exact absurd (bM.mp hl) hne
    | cons=>rfl
   ·simp;have:xs.length*k ≥ k:=aW _ (cU.mpr hne);omega
   ·have:z≠1:=by omega
    simpa using this
   ·omega
   ·rw[im];omega
   ·unfold Builtin.Tuple.tupleTooMany;rw[im];exact decide_eq_false (by omega)
   ·rw[f0,zk,aj,xI,← hl,aS];omega
   ·rw[f0,zk];refine⟨.ref _,_,I.laid (o:=.tup (List.replicate k xs).flatten) (t':=s.toks) (λb u e=>ηH _ e) (af _) ⟨?_,(List.replicate k its).flatten,rv.rep k,⟨_,ηG _ rfl,rfl,_,rfl⟩⟩,rfl,q2 h1 _ I.fresh⟩;rw[xI,aS];omega
 generalize hzk:(k:Int)=z;refine wpAny_binaryOp_repeat_ref (T := "tuple") (U := "int") (by decide) ⟨_,e,rfl⟩ (λs'=>typeIs_int s' z t) By F.fills_int_mul F.slot_int_rmul Ha F.slot_int_index.lookup
  (call_meets F.slot_int_rmul (typeIs_int s z t) F.entry_int_rmul (F.args_int_rmul_2 _ _) (EA z t l its.toArray n dd sl) ⟨e,rfl,⟨_,e,rfl⟩,go z hzk.symm⟩)
def J3(C:Addr)(d:Option Addr)(u:Addr):Obj:={ cls:=.ref C,dict:=d,data:=.fields #[.ref u,.none,.none,.none,.bool false,.none] }
def Kv(a C:Addr)(d:Option Addr)(u:Addr):HO:=.ext λh=>h.get? a=some (J3 C d u)
end L2
set_option maxHeartbeats 1000000
namespace L2
open PySem PySem.Spec PyProof.Rows
theorem KV.at:∀{kvs:List (vw×V)} {vs:List (vw×Value)} {j:Nat} {kv:vw×V},KV kvs vs->kvs[j]? = some kv->∃ u,vs[j]? = some (kv.1,u)/\RelV kv.2 u
 | _,_,0,_,.cons (b:=q) r t,h=>by cases h;exact⟨q.2,by rw[r.1];rfl,r.2⟩
 | _,_,j+1,_,.cons r t,h=>by
  rw[cw] at h;obtain⟨u,e1,e2⟩:=KV.at t h;exact⟨u,by rw[cw];exact e1,e2⟩
section
variable{X:Cx}
def Jr:R2:=λx y H Q=>∃ p kvs k v,x = .ref p/\y=kV k/\H p=some (.dK kvs)/\(k,v)∈kvs/\Q v H
theorem Fn:IxR X Jr:=by
 intro value slice pins s σ H x y v u Q I rx ry h hs;obtain⟨p,kvs,k,z,rfl,rfl,hq,he,q⟩:=h;cases rx;obtain⟨hz,hn,vs,rel,dd⟩:kvs.length<=sizeLine/\(p == sysModules)=false/\∃ vs,KV kvs vs/\s.heap.DictOf (ur X.prog X.w) p vs:=I.hok p _ hq;obtain⟨j,hj⟩:=bI.mp he;obtain⟨w,ew,rw'⟩:=rel.at hj;have hk:(ur X.prog X.w).is k u=true:=by
  cases k with
  | inl i=>obtain⟨t,rfl⟩:=ry;exact BJ i t
  | inr x=>obtain⟨t,rfl⟩:=ry;exact BI x t
 have dd':=dd;obtain⟨o,es,ep,g1,g2,g3,g4,g5,nd⟩:=dd';have hat:valueAt vs k=some w:=by
  unfold valueAt;have hm:(k,w)∈vs:=aP ew;clear dd g3 g4 g5 rel ew;induction vs with
  | nil=>cases hm
  | cons a vs ih =>
   rw[dm,du] at nd;rcases ao.mp hm with e|e
   ·subst e;simp
   ·have:a.1≠k:=λz=>nd.1 (by rw[z];exact df.mpr ⟨_,e,rfl⟩);rw[List.find?_cons];rw[decide_eq_false this];exact ih nd.2 e
 have fin:EP X pins σ Q w { s with toks:=s.toks+1 }:=⟨z,H,I.tok _,rw',q⟩;exact subscriptTail_builtinR (x:=w) (T := "dict") ⟨o,g1,g2.1⟩ PySem.F.slot_dict_getitem.lookup (wpAny_getItem_of (Q:=λr s'=>r=w/\EP X pins σ Q r s') hk dd.mapOf hat ⟨rfl,fin⟩) hs
end
end L2
namespace Dp
open PySem L2
abbrev St:=L2.St
def Fl(H:Hp)(f:Addr):Prop:=∃(l:Addr) (ns:List Int) (i c a b:Int),H f=some (.lst [.ref l,.int i,.int c,.int a,.int b])/\H l=some (.lst (ns.map V.int))/\ns.length<=63/\0<=i/\i<=(ns.length:Int)/\0<=c/\0<=a/\a<2147483647
theorem Fl.same(F:Fl H f)(e:Same H H'):Fl H' f:=by
 obtain⟨l,ns,i,c,a,b,h1,h2,h⟩:=F;exact⟨l,ns,i,c,a,b,e _ _ h1,e _ _ h2,h⟩
theorem Fl.lst{H:Hp}{f:Addr}(F:Fl H f):∃ xs,H f=some (.lst xs):=by
 obtain⟨l,ns,i,c,a,b,h1,_⟩:=F;exact⟨_,h1⟩
inductive D where
 | non|bl (b:Bool)|int (i:Int)|str (x:Str)|tup (l:List D)|lst (l:List D)|fl
  | exn (C:Addr) (x:Str) (l:List D)
  | dct (ks:List vw) (l:List D)
def XO(H:Hp)(a C:Addr)(x:Str)(us:List V):Prop:=(us=[]/\∃ u,H a=some (Kv a C none u))\/∃ dx u y,us=[y]/\H a=some (Kv a C (some dx) u)/\H dx=some (.xd [(x,y)])
mutual
def Rp(K:Frag)(f:Addr)(O:List Addr)(H:Hp):D->V->Prop
 | .non,v=>v = .non
 | .bl b,v=>v = .bl b
 | .int i,v=>v = .int i
 | .str x,v=>v = .str x
 | .tup l,v=>∃ a xs,v = .ref a/\SqT K H a xs/\Rps K f O H l xs
 | .lst l,v=>∃ a xs,v = .ref a/\a ∉ O/\H a=some (.lst xs)/\Rps K f O H l xs
 | .fl,v=>v = .ref f
 | .exn C x l,v=>∃ a us,v = .ref a/\XO H a C x us/\Rps K f O H l us
 | .dct ks l,v=>∃ a us,v = .ref a/\H a=some (.dK (ks.zip us))/\ks.length=us.length/\Rps K f O H l us
def Rps(K:Frag)(f:Addr)(O:List Addr)(H:Hp):List D->List V->Prop
 | [],vs=>vs=[]
 | d::ds,vs=>∃ v r,vs=v::r/\Rp K f O H d v/\Rps K f O H ds r
end
structure Ex (f:Addr)(H H':Hp):Prop where
 sm:Sm f H H'
 fl:Fl H' f
theorem Ex.refl(h:Fl H f):Ex f H H:=⟨Sm.refl H,h⟩
theorem Ex.trans(a:Ex f H H1)(b:Ex f H1 H2):Ex f H H2:=⟨a.sm.trans b.sm,b.fl⟩
theorem Ex.new(F:Fl H f)(h:H p=none)(o:HO):Ex f H (rg H p o):=⟨Sm.new h o,F.same (Same.new h o)⟩
variable{K:Frag}{f:Addr}{O O':List Addr}{H H':Hp}
def Kp(O:List Addr)(H H':Hp):Prop:=∀ b o,b ∉ O->H b=some o->H' b=some o
theorem Ex.kp(e:Ex f H H')(h:f∈O):Kp O H H':=λb o n q=>e.sm.app b o (λz=>n (z ▸ h)) q
theorem _root_.L2.SqT.kp(e:Kp O H H')(hO:∀ b∈O,∃ xs,H b=some (.lst xs))(h:SqT K H a xs):SqT K H' a xs:=by
 rcases h with (h|⟨o,h⟩)|h
 ·refine .inl (.inl (e a _ (λz=>?_) h));obtain⟨xs,q⟩:=hO a z;rw[q] at h;cases h
 ·refine .inl (.inr ⟨o,e a _ (λz=>?_) h⟩);obtain⟨xs,q⟩:=hO a z;rw[q] at h;cases h
 ·exact .inr h
theorem XO.kp(e:Kp O H H')(hO:∀ b∈O,∃ xs,H b=some (.lst xs))(h:XO H a C x us):XO H' a C x us:=by
 rcases h with⟨e1,u,h⟩|⟨dx,u,y,e1,h,hd⟩
 ·refine .inl ⟨e1,u,e a _ (λz=>?_) h⟩;obtain⟨xs,q⟩:=hO a z;rw[q] at h;unfold Kv at h;cases h
 ·refine .inr ⟨dx,u,y,e1,e a _ (λz=>?_) h,e dx _ (λz=>?_) hd⟩
  ·obtain⟨xs,q⟩:=hO a z;rw[q] at h;unfold Kv at h;cases h
  ·obtain⟨xs,q⟩:=hO dx z;rw[q] at hd;cases hd
mutual
theorem Rp.kp(e:Kp O H H')(hO:∀ b∈O,∃ xs,H b=some (.lst xs)):∀{d:D} {v:V},Rp K f O H d v->Rp K f O H' d v
 | .non,_,h=>h
 | .bl _,_,h=>h
 | .int _,_,h=>h
 | .str _,_,h=>h
 | .fl,_,h=>h
 | .tup l,v,h=>by
  obtain⟨a,xs,e1,h1,h2⟩:=h;exact⟨a,xs,e1,h1.kp e hO,Rps.kp e hO h2⟩
 | .lst l,v,h=>by
  obtain⟨a,xs,e1,n,h1,h2⟩:=h;exact⟨a,xs,e1,n,e a _ n h1,Rps.kp e hO h2⟩
 | .exn C x l,v,h=>by
  obtain⟨a,us,e1,h1,h2⟩:=h;exact⟨a,us,e1,h1.kp e hO,Rps.kp e hO h2⟩
 | .dct ks l,v,h=>by
  obtain⟨a,us,e1,h1,h2,h3⟩:=h;exact⟨a,us,e1,e a _ (λz=>by obtain⟨xs,q⟩:=hO a z;rw[q] at h1;cases h1) h1,h2,Rps.kp e hO h3⟩
theorem Rps.kp(e:Kp O H H')(hO:∀ b∈O,∃ xs,H b=some (.lst xs)):∀{ds:List D} {vs:List V},Rps K f O H ds vs->Rps K f O H' ds vs
 | [],_,h=>h
 | d::ds,_,h=>by
  obtain⟨v,r,e1,h1,h2⟩:=h;exact⟨v,r,e1,Rp.kp e hO h1,Rps.kp e hO h2⟩
end
mutual
theorem Rp.less(e:∀ a∈O',a∈O):∀{d:D} {v:V},Rp K f O H d v->Rp K f O' H d v
 | .non,_,h=>h
 | .bl _,_,h=>h
 | .int _,_,h=>h
 | .str _,_,h=>h
 | .fl,_,h=>h
 | .tup l,v,h=>by
  obtain⟨a,xs,e1,h1,h2⟩:=h;exact⟨a,xs,e1,h1,Rps.less e h2⟩
 | .lst l,v,h=>by
  obtain⟨a,xs,e1,n,h1,h2⟩:=h;exact⟨a,xs,e1,λz=>n (e a z),h1,Rps.less e h2⟩
 | .exn C x l,v,h=>by
  obtain⟨a,us,e1,h1,h2⟩:=h;exact⟨a,us,e1,h1,Rps.less e h2⟩
 | .dct ks l,v,h=>by
  obtain⟨a,us,e1,h1,h2,h3⟩:=h;exact⟨a,us,e1,h1,h2,Rps.less e h3⟩
theorem Rps.less(e:∀ a∈O',a∈O):∀{ds:List D} {vs:List V},Rps K f O H ds vs->Rps K f O' H ds vs
 | [],_,h=>h
 | d::ds,_,h=>by
  obtain⟨v,r,e1,h1,h2⟩:=h;exact⟨v,r,e1,Rp.less e h1,Rps.less e h2⟩
end
theorem Rps.len:∀{ds:List D} {vs:List V},Rps K f O H ds vs->vs.length=ds.length
 | [],_,h=>by rw[show _=[] from h];rfl
 | d::ds,_,h=>by
  obtain⟨v,r,e1,h1,h2⟩:=h;rw[e1,bt,bt,Rps.len h2]
theorem Rps.nil:Rps K f O H [] []:=rfl
theorem Rps.cons(h:Rp K f O H d v)(t:Rps K f O H ds vs):Rps K f O H (d::ds) (v::vs):=⟨v,vs,rfl,h,t⟩
theorem Rps.get:∀{ds:List D} {vs:List V} {i:Nat} {d:D},Rps K f O H ds vs->ds[i]? = some d->∃ v,vs[i]? = some v/\Rp K f O H d v
 | [],_,_,_,_,e=>by simp at e
 | d0::ds,_,i,d,h,e=>by
  obtain⟨v,r,e1,h1,h2⟩:=h;subst e1;cases i with
  | zero =>
   simp at e;subst e;exact⟨v,rfl,h1⟩
  | succ i =>
   obtain⟨w,hw,h⟩:=Rps.get h2 (i:=i) (d:=d) (by simpa using e);exact⟨w,by simpa using hw,h⟩
theorem Rps.append:∀{ds es:List D} {vs ws:List V},Rps K f O H ds vs->Rps K f O H es ws->Rps K f O H (ds++es) (vs++ws)
 | [],_,_,_,h,t=>by rw[show _=[] from h];exact t
 | d::ds,_,_,_,h,t=>by
  obtain⟨v,r,e1,h1,h2⟩:=h;subst e1;exact⟨v,_,rfl,h1,Rps.append h2 t⟩
theorem Rps.take:∀{ds:List D} {vs:List V} (n:Nat),Rps K f O H ds vs->Rps K f O H (ds.take n) (vs.take n)
 | _,_,0,_=>by rw[dF,dF];rfl
 | [],_,n+1,h=>by rw[show _=[] from h];rfl
 | d::ds,_,n+1,h=>by
  obtain⟨v,r,e1,h1,h2⟩:=h;subst e1;exact⟨v,_,rfl,h1,Rps.take n h2⟩
theorem Rps.drop:∀{ds:List D} {vs:List V} (n:Nat),Rps K f O H ds vs->Rps K f O H (ds.drop n) (vs.drop n)
 | _,_,0,h=>h
 | [],_,n+1,h=>by rw[show _=[] from h];rfl
 | d::ds,_,n+1,h=>by
  obtain⟨v,r,e1,h1,h2⟩:=h;subst e1;exact Rps.drop n h2
theorem Rps.set(q:Rp K f O H d v):∀{ds:List D} {vs:List V} (n:Nat),Rps K f O H ds vs->Rps K f O H (ds.set n d) (vs.set n v)
 | [],_,n,h=>by rw[show _=[] from h];rfl
 | d0::ds,_,0,h=>by
  obtain⟨w,r,e1,h1,h2⟩:=h;subst e1;exact⟨v,_,rfl,q,h2⟩
 | d0::ds,_,n+1,h=>by
  obtain⟨w,r,e1,h1,h2⟩:=h;subst e1;exact⟨w,_,rfl,h1,Rps.set q n h2⟩
theorem Rps.reverse:∀{ds:List D} {vs:List V},Rps K f O H ds vs->Rps K f O H ds.reverse vs.reverse
 | [],_,h=>by rw[show _=[] from h];rfl
 | d::ds,_,h=>by
  obtain⟨v,r,e1,h1,h2⟩:=h;subst e1;rw[dJ,dJ];exact Rps.append (Rps.reverse h2) ⟨v,[],rfl,h1,rfl⟩
theorem Rps.flat(h:Rps K f O H ds vs):∀ n,Rps K f O H (List.replicate n ds).flatten (List.replicate n vs).flatten
 | 0=>rfl
 | n+1=>by
  rw[bx,bx,bW,bW];exact Rps.append h (Rps.flat h n)
theorem Rps.ints:∀{bs:List Int} {vs:List V},Rps K f O H (bs.map D.int) vs->vs=bs.map V.int
 | [],_,h=>h
 | b::bs,_,h=>by
  obtain⟨v,r,e1,h1,h2⟩:=h;rw[e1,show v=_ from h1,Rps.ints h2];rfl
inductive SD where
 | no|val (d:D)|own (l:List D)
abbrev SS:=List SD
structure SlD (K:Frag)(f:Addr)(O:List Addr)(σ:St)(H:Hp)(ss:SS):Prop where
 fl:Fl H f
 fO:f∈O
 al:∀ a∈O,∃ xs,H a=some (.lst xs)
 lO:∀ l r,H f=some (.lst (.ref l::r))->l ∉ O
 len:ss.length=σ.length
 val:∀(i:Nat) (d:D),ss[i]? = some (SD.val d)->∃ v,σ[i]? = some (some v)/\Rp K f O H d v
 own:∀(i:Nat) (l:List D),ss[i]? = some (SD.own l)->∃ a xs,σ[i]? = some (some (V.ref a))/\a∈O/\a≠f/\H a=some (.lst xs)/\Rps K f O H l xs
variable{σ:St}{ss:SS}
theorem SlD.ex(R:SlD K f O σ H ss)(e:Ex f H H'):SlD K f O σ H' ss where
 fl:=e.fl
 fO:=R.fO
 al:=λa h=>by
  by_cases z:a=f
  ·subst z;exact e.fl.lst
  ·obtain⟨xs,q⟩:=R.al a h;exact⟨xs,e.sm.app a _ z q⟩
 lO:=λl r h=>by
  obtain⟨l0,ns,i,c,a,b,h1,_⟩:=R.fl;obtain⟨r',h2⟩:=e.sm.key _ _ h1;rw[h2] at h;cases h;exact R.lO _ _ h1
 len:=R.len
 val:=λi d h=>by
  obtain⟨v,h1,h2⟩:=R.val i d h;exact⟨v,h1,h2.kp (e.kp R.fO) R.al⟩
 own:=λi l h=>by
  obtain⟨a,xs,h1,h2,h3,h4,h5⟩:=R.own i l h;exact⟨a,xs,h1,h2,h3,e.sm.app a _ h3 h4,h5.kp (e.kp R.fO) R.al⟩
theorem SlD.up(R:SlD K f O σ H ss)(e:Ex f H H')(h:Rp K f O H d v):Rp K f O H' d v:=h.kp (e.kp R.fO) R.al
theorem SlD.ups(R:SlD K f O σ H ss)(e:Ex f H H')(h:Rps K f O H d v):Rps K f O H' d v:=h.kp (e.kp R.fO) R.al
theorem SlD.new(R:SlD K f O σ H ss)(h:H p=none)(o:HO):Ex f H (rg H p o):=Ex.new R.fl h o
theorem SlD.nO(R:SlD K f O σ H ss)(h:H p=none):p ∉ O:=λz=>by
 obtain⟨xs,q⟩:=R.al p z;rw[h] at q;cases q
theorem SlD.lst(R:SlD K f O σ H ss){p:Addr}(h:H p=none){ds:List D}{xs:List V}(q:Rps K f O H ds xs):Rp K f O (rg H p (.lst xs)) (.lst ds) (.ref p) :=
 ⟨p,xs,rfl,R.nO h,qK,R.ups (R.new h _) q⟩
theorem SlD.tup(R:SlD K f O σ H ss){p:Addr}(h:H p=none){ds:List D}{xs:List V}(q:Rps K f O H ds xs):Rp K f O (rg H p (.tup xs)) (.tup ds) (.ref p) :=
 ⟨p,xs,rfl,SqT.of qK,R.ups (R.new h _) q⟩
structure TEd where
 run:SS->(D->Prop)->Prop
 mono:∀{ss Q Q'},(∀ d,Q d->Q' d)->run ss Q->run ss Q'
structure TTd where
 run:SS->(Bool->Prop)->Prop
 mono:∀{ss Q Q'},(∀ d,Q d->Q' d)->run ss Q->run ss Q'
structure TAd where
 run:SS->(List D->Prop)->Prop
 mono:∀{ss Q Q'},(∀ d,Q d->Q' d)->run ss Q->run ss Q'
structure TOd where
 run:SS->(Option Int->Prop)->Prop
 mono:∀{ss Q Q'},(∀ d,Q d->Q' d)->run ss Q->run ss Q'
structure TGd where
 tg:List Nat
 run:D->SS->(SS->Prop)->Prop
 mono:∀{d ss Q Q'},(∀ d,Q d->Q' d)->run d ss Q->run d ss Q'
def LE(K:Frag)(t:TEd):TE:=λσ H Q=>∃ f O ss,SlD K f O σ H ss/\t.run ss λd=>∀ v H',Ex f H H'->Rp K f O H' d v->Q v H'
def LT(K:Frag)(t:TTd):TT:=λσ H Q=>∃ f O ss,SlD K f O σ H ss/\t.run ss λd=>∀ H',Ex f H H'->Q d H'
def LA(K:Frag)(t:TAd):TA:=λσ H Q=>∃ f O ss,SlD K f O σ H ss/\t.run ss λds=>∀ vs H',Ex f H H'->Rps K f O H' ds vs->Q vs H'
def LO(K:Frag)(t:TOd):TO:=λσ H Q=>∃ f O ss,SlD K f O σ H ss/\t.run ss λd=>∀ H',Ex f H H'->Q d H'
abbrev LJ:=List D->(D->Prop)->Prop
def v8(K:Frag)(n:Nat)(sp:LJ):Sp:=λvs H Q _=>vs.length=n/\∃ f O ds,Fl H f/\f∈O/\(∀ a∈O,∃ xs,H a=some (.lst xs))/\(∀ l r,H f=some (.lst (.ref l::r))->l ∉ O)/\Rps K f O H ds vs/\sp ds λd=>∀ v H',Ex f H H'->Rp K f O H' d v->Q v H'
variable{X:Cx}
theorem _root_.L2.PE.weak(h:PE X e t)(w:∀ σ H Q,t' σ H Q->t σ H Q):PE X e t':=λpins s σ H Q I q=>h pins s σ H Q I (w σ H Q q)
theorem _root_.L2.PT.weak(h:PT X e t)(w:∀ σ H Q,t' σ H Q->t σ H Q):PT X e t':=λpins s σ H Q I q=>h pins s σ H Q I (w σ H Q q)
theorem _root_.L2.PA.weak(h:PA X e t)(w:∀ σ H Q,t' σ H Q->t σ H Q):PA X e t':=λpos pins s σ H Q I q=>h pos pins s σ H Q I (w σ H Q q)
theorem _root_.L2.PO.weak(h:PO X e t)(w:∀ σ H Q,t' σ H Q->t σ H Q):PO X e t':=λpins s σ H Q I q=>h pins s σ H Q I (w σ H Q q)
def gV(i:Nat):TEd:=⟨λss Q=>match ss[i]? with|some (SD.val d)=>Q d|_=>False,λ{ss Q Q'} h q=>by
 revert q;split
 ·exact h _
 ·exact id⟩
theorem gV.ok(h:PE X e (sB i)):PE X e (LE X.K (gV i)):=h.weak λσ H Q ⟨f,O,ss,R,q⟩=>by
 have q:(match ss[i]? with|some (SD.val d)=>(∀ v H',Ex f H H'->Rp X.K f O H' d v->Q v H')|_=>False):=q;revert q;split
 ·rename_i d e;intro q;obtain⟨v,h1,h2⟩:=R.val i d e;exact⟨v,h1,q v H (Ex.refl R.fl) h2⟩
 ·exact False.elim
def dC(d:D):TEd:=⟨λ_ Q=>Q d,λh q=>h _ q⟩
theorem dC.ok(h:PE X e (tC v))(r:∀ f O H,Rp X.K f O H d v):PE X e (LE X.K (dC d)):=h.weak λσ H Q ⟨f,O,ss,R,q⟩=>q v H (Ex.refl R.fl) (r f O H)
abbrev OD:=D->D->(D->Prop)->Prop
def d2(o:OD)(m:∀{x y Q Q'},(∀ d,Q d->Q' d)->o x y Q->o x y Q')(a b:TEd):TEd:=⟨λss Q=>a.run ss λx=>b.run ss λy=>o x y Q,λh q=>a.mono (λx q=>b.mono (λy q=>m h q) q) q⟩
def RD(K:Frag)(r:R2)(o:OD):Prop:=∀(f:Addr) (O:List Addr) (σ:St) (ss:SS) (H:Hp) (dx dy:D) (x y:V) (Q:VK),SlD K f O σ H ss->Rp K f O H dx x->Rp K f O H dy y->o dx dy (λd=>∀ v H',Ex f H H'->Rp K f O H' d v->Q v H')->r x y H Q
theorem d2.ok(hr:RD X.K r o)(h:PE X e (Jc r (LE X.K a) (LE X.K b))):PE X e (LE X.K (d2 o m a b)):=h.weak λσ H Q ⟨f,O,ss,R,q⟩=>by
 refine⟨f,O,ss,R,a.mono (λdx q v1 H1 e1 r1=>?_) q⟩;refine⟨f,O,ss,R.ex e1,b.mono (λdy q v2 H2 e2 r2=>?_) q⟩;exact hr f O σ ss H2 dx dy v1 v2 Q ((R.ex e1).ex e2) ((R.ex e1).up e2 r1) r2 (m (λd q v H' e3 r3=>q v H' (e1.trans (e2.trans e3)) r3) q)
end Dp
namespace L2
open PySem PySem.Spec PyProof.Rows
variable{X:Cx}{pins:List (Addr×Obj)}{σ:St}{H:Hp}{s:Shared}
def Hl(K:Frag)(neg:Bool):R2:=λx y H Q=>∃ d ds,Rep K H d x/\Rep K H (.lst ds) y/\d.pl=true/\DV.pls ds=true/\DV.dps ds<=60/\∀ b,(b=true↔d∈ds)->Q (.bl (if neg then !b else b)) H
theorem yl{K:Frag}:∀{ds:List DV} {vs:List V} {us:List Value},Reps K H ds vs->Vals vs us->DV.pls ds=true->DV.dps ds<=60->(∀ w∈us,∃ di∈ds,∃ xi,Rep K H di xi/\RelV xi w/\di.pl=true/\di.dp<=60)/\∀ di∈ds,∃ w∈us,∃ xi,Rep K H di xi/\RelV xi w
 | [],vs,us,h,r,_,_=>by
  unfold Reps at h;subst h;cases r;exact⟨λw h=>absurd h aK,λw h=>absurd h aK⟩
 | d::ds,vs,us,h,r,p,hd=>by
  unfold Reps at h;obtain⟨x,r',rfl,h1,h2⟩:=h;cases r with
  | cons rx rxs =>
   unfold DV.pls at p;rw[aX] at p;unfold DV.dps at hd;obtain⟨i1,i2⟩:=yl h2 rxs p.2 (by omega);refine⟨λw hw=>?_,λdi hi=>?_⟩
   ·rcases ao.mp hw with e|e
    ·rw[e];exact⟨d,aF,x,h1,rx,p.1,by omega⟩
    ·obtain⟨di,m,z⟩:=i1 w e;exact⟨di,az _ m,z⟩
   ·rcases ao.mp hi with e|e
    ·rw[e];exact⟨_,aF,x,h1,rx⟩
    ·obtain⟨w,m,z⟩:=i2 di e;exact⟨w,az _ m,z⟩
open Classical in
theorem yA{K:Frag}{k:Nat}(hr:Room k X.A)(hK:X.K=K)(I:Inv X pins σ H s){d:DV}{ds:List DV}{x:V}{v:Value}{vs:List V}{us:List Value}(h1:Rep K H d x)(rx:RelV x v)(r1:Reps K H ds vs)(rv:Vals vs us)(p1:d.pl=true)(p2:DV.pls ds=true)(hd:DV.dps ds<=60) :
  ∃ e:Value->Bool,(∀ w∈us,SeqAt.EqAt X.A.in1 s w v (e w))/\(us.any e=true↔d∈ds):=by
 subst hK;obtain⟨i1,i2⟩:=yl r1 rv p2 hd;have hun:=hr.units;have key:∀ w∈us,∀ di∈ds,∀ xi,Rep X.K H di xi->RelV xi w->(decide (∃ xi,RelV xi w/\Rep X.K H d xi)=true↔di=d):=λw hw di hi xi hx rw'=>by
  rw[decide_eq_true_iff];constructor
  ·rintro⟨x',r',h'⟩;rw[RelV.inj r' rw'] at h';exact Rep.inj I hx h'
  ·rintro rfl;exact⟨xi,rw',hx⟩
 refine⟨λw=>decide (∃ xi,RelV xi w/\Rep X.K H d xi),λw hw=>?_,?_⟩
 ·obtain⟨di,hi,xi,hx,rw',pi,dpi⟩:=i1 w hw;obtain⟨b,hb,ib⟩:=L9 I di d X.A.in1 hx h1 rw' rx pi p1 (by show X.A.units+1+_+1<_;omega);have:decide (∃ xi,RelV xi w/\Rep X.K H d xi)=b:=cm.mpr ((key w hw di hi xi hx rw').trans ib.symm);dsimp only;rw[this];exact hb
 ·rw[e9];constructor
  ·rintro⟨w,hw,he⟩;obtain⟨di,hi,xi,hx,rw',_,_⟩:=i1 w hw;exact (key w hw di hi xi hx rw').mp he ▸ hi
  ·intro hm;obtain⟨w,hw,xi,hx,rw'⟩:=i2 d hm;exact⟨w,hw,(key w hw d hm xi hx rw').mpr rfl⟩
theorem HE(K:Frag)(hr:Room k X.A)(hK:X.K=K:=by rfl):OpR X (compareOp .In) (Hl K false):=by
 intro pins s σ H x y u v Q I rx ry h;obtain⟨d,ds,h1,h2,p1,p2,hd,q⟩:=h;unfold Rep at h2;obtain⟨a,vs,rfl,t1,r1⟩:=h2;cases ry;subst hK;obtain⟨its,rv,p,_⟩:=I.list t1;obtain⟨e,he,hi⟩:=yA hr rfl I h1 rx r1 rv p1 p2 hd;refine SeqAt.in_listAt e p.isList (λw hw=>he w (by simpa using hw)) ⟨.bl _,H,I,rfl,?_⟩;rw[show its.toArray.any e=its.any e by simp];exact q _ hi
theorem Bs(K:Frag)(hr:Room k X.A)(hK:X.K=K:=by rfl):OpR X (compareOp .NotIn) (Hl K true):=by
 intro pins s σ H x y u v Q I rx ry h;obtain⟨d,ds,h1,h2,p1,p2,hd,q⟩:=h;unfold Rep at h2;obtain⟨a,vs,rfl,t1,r1⟩:=h2;cases ry;subst hK;obtain⟨its,rv,p,_⟩:=I.list t1;obtain⟨e,he,hi⟩:=yA hr rfl I h1 rx r1 rv p1 p2 hd;refine SeqAt.notIn_listAt e p.isList (λw hw=>he w (by simpa using hw)) ⟨.bl _,H,I,rfl,?_⟩;rw[show its.toArray.any e=its.any e by simp];exact q _ hi
end L2
namespace Dp
open PySem L2
variable{K:Frag}{f:Addr}{O O':List Addr}{H H':Hp}{X:Cx}{σ:St}{ss:SS}
mutual
def D.pl:D->Bool
 | .int _=>true | .str _=>true | .non=>true | .bl _=>false | .fl=>false | .exn _ _ _=>false | .dct _ _=>false
 | .tup ds=>D.pls ds
 | .lst ds=>D.pls ds
def D.pls:List D->Bool
 | []=>true
 | d::ds=>D.pl d && D.pls ds
end
mutual
def D.dp:D->Nat
 | .tup ds=>D.dps ds+1
 | .lst ds=>D.dps ds+1
 | .int _=>0 | .str _=>0 | .non=>0 | .bl _=>0 | .fl=>0 | .exn _ _ _=>0 | .dct _ _=>0
def D.dps:List D->Nat
 | []=>0
 | d::ds=>max (D.dp d) (D.dps ds)
end
mutual
def D.dv:D->DV
 | .int i=>.int i | .str x=>.str x | .non=>.non | .bl b=>.bl b | .fl=>.non | .exn _ _ _=>.non | .dct _ _=>.non
 | .tup ds=>.tup (D.dvs ds)
 | .lst ds=>.lst (D.dvs ds)
def D.dvs:List D->List DV
 | []=>[]
 | d::ds=>D.dv d::D.dvs ds
end
mutual
theorem D.dv_pl:∀{d:D},d.pl=true->d.dv.pl=true
 | .int _,_=>rfl
 | .str _,_=>rfl
 | .non,_=>rfl
 | .bl _,h=>h
 | .fl,h=>by cases h
 | .exn ..,h=>by cases h
 | .dct _ _,h=>by cases h
 | .tup ds,h=>D.dvs_pl (ds:=ds) h
 | .lst ds,h=>D.dvs_pl (ds:=ds) h
theorem D.dvs_pl:∀{ds:List D},D.pls ds=true->DV.pls (D.dvs ds)=true
 | [],_=>rfl
 | d::ds,h=>by
  have h:=ak.mp (show (d.pl && D.pls ds)=true from h);exact ak.mpr ⟨D.dv_pl h.1,D.dvs_pl h.2⟩
end
mutual
theorem D.dv_dp:∀{d:D},d.dv.dp=d.dp
 | .int _=>rfl
 | .str _=>rfl
 | .non=>rfl
 | .bl _=>rfl
 | .fl=>rfl
 | .exn _ _ _=>rfl
 | .dct _ _=>rfl
 | .tup ds=>congrArg (· + 1) (D.dvs_dp (ds:=ds))
 | .lst ds=>congrArg (· + 1) (D.dvs_dp (ds:=ds))
theorem D.dvs_dp:∀{ds:List D},DV.dps (D.dvs ds)=D.dps ds
 | []=>rfl
 | d::ds=>by
  show max (DV.dp d.dv) (DV.dps (D.dvs ds))=max d.dp (D.dps ds);rw[D.dv_dp,D.dvs_dp]
end
mutual
theorem D.dv_inj:∀{d e:D},d.pl=true->e.pl=true->d.dv=e.dv->d=e
 | .int _,e,_,h,q=>by cases e <;> first|(cases q;rfl)|(cases q;done)|cases h
 | .str _,e,_,h,q=>by cases e <;> first|(cases q;rfl)|(cases q;done)|cases h
 | .non,e,_,h,q=>by cases e <;> first|rfl|(cases q;done)|cases h
 | .bl _,_,h,_,_=>by cases h
 | .fl,_,h,_,_=>by cases h
 | .exn ..,_,h,_,_=>by cases h
 | .dct _ _,_,h,_,_=>by cases h
 | .tup ds,e,h1,h2,q=>by
  cases e with
  | tup es =>
   have q:DV.tup (D.dvs ds)=DV.tup (D.dvs es):=q;injection q with q;rw[D.dvs_inj h1 h2 q]
  | int=>cases q
  | str=>cases q
  | non=>cases q
  | bl=>cases h2
  | fl=>cases h2
  | exn=>cases h2
  | dct=>cases h2
  | lst=>cases q
 | .lst ds,e,h1,h2,q=>by
  cases e with
  | lst es =>
   have q:DV.lst (D.dvs ds)=DV.lst (D.dvs es):=q;injection q with q;rw[D.dvs_inj h1 h2 q]
  | int=>cases q
  | str=>cases q
  | non=>cases q
  | bl=>cases h2
  | fl=>cases h2
  | exn=>cases h2
  | dct=>cases h2
  | tup=>cases q
theorem D.dvs_inj:∀{ds es:List D},D.pls ds=true->D.pls es=true->D.dvs ds=D.dvs es->ds=es
 | [],[],_,_,_=>rfl
 | [],_::_,_,_,q=>by cases q
 | _::_,[],_,_,q=>by cases q
 | d::ds,e::es,h1,h2,q=>by
  have h1:=ak.mp (show (d.pl && D.pls ds)=true from h1);have h2:=ak.mp (show (e.pl && D.pls es)=true from h2);have q:d.dv::D.dvs ds=e.dv::D.dvs es:=q;injection q with q1 q2;rw[D.dv_inj h1.1 h2.1 q1,D.dvs_inj h1.2 h2.2 q2]
end
mutual
theorem Rp.rep:∀{d:D} {v:V},d.pl=true->Rp K f O H d v->Rep K H d.dv v
 | .int _,_,_,h=>h
 | .str _,_,_,h=>h
 | .non,_,_,h=>h
 | .bl _,_,h,_=>by cases h
 | .fl,_,h,_=>by cases h
 | .exn ..,_,h,_=>by cases h
 | .dct _ _,_,h,_=>by cases h
 | .tup ds,_,p,h=>by
  obtain⟨a,xs,e,h1,h2⟩:=h;exact⟨a,xs,e,h1,Rps.rep p h2⟩
 | .lst ds,_,p,h=>by
  obtain⟨a,xs,e,_,h1,h2⟩:=h;exact⟨a,xs,e,SqL.of h1,Rps.rep p h2⟩
theorem Rps.rep:∀{ds:List D} {vs:List V},D.pls ds=true->Rps K f O H ds vs->Reps K H (D.dvs ds) vs
 | [],_,_,h=>h
 | d::ds,_,p,h=>by
  have p:=ak.mp (show (d.pl && D.pls ds)=true from p);obtain⟨v,r,e,h1,h2⟩:=h;exact⟨v,r,e,Rp.rep p.1 h1,Rps.rep p.2 h2⟩
end
theorem D.pls_ints(ns:List Int):D.pls (ns.map D.int)=true:=by
 induction ns with
 | nil=>rfl
 | cons n ns ih=>exact ih
theorem OpR.or2(h:OpR X g r)(h':OpR X g r'):OpR X g (λx y H Q=>r x y H Q\/r' x y H Q):=λpins s σ H x y v u Q I rx ry q=>q.elim (h pins s σ H x y v u Q I rx ry) (h' pins s σ H x y v u Q I rx ry)
def oAdd:OD
 | .int i,.int j,Q=>Q (.int (i+j))
 | .str a,.str b,Q=>a.length+b.length<=sizeLine/\Q (.str (a++b))
 | .lst a,.lst b,Q=>a.length+b.length<=sizeLine/\Q (.lst (a++b))
 | .tup a,.tup b,Q=>a.length+b.length<=sizeLine/\Q (.tup (a++b))
 | _,_,_=>False
def oSub:OD
 | .int i,.int j,Q=>Q (.int (i-j))
 | _,_,_=>False
def oMul:OD
 | .int i,.int j,Q=>CMulB i j/\Q (.int (i*j))
 | .lst a,.int k,Q => -(2^63)<=k/\k<2^63/\a.length*k.toNat<=sizeLine/\Q (.lst (List.replicate k.toNat a).flatten)
 | .tup a,.int k,Q=>a≠[]/\1<=k/\a.length*k.toNat<=100000/\Q (.tup (List.replicate k.toNat a).flatten)
 | _,_,_=>False
def oDiv:OD
 | .int i,.int j,Q=>u9 i j/\Q (.int (i.fdiv j))
 | _,_,_=>False
def oMod:OD
 | .int i,.int j,Q=>j≠0/\Q (.int (i.fmod j))
 | _,_,_=>False
def oPow:OD
 | .int i,.int j,Q=>Ei i j/\Q (.int (i^j.toNat))
 | _,_,_=>False
def oShl:OD
 | .int i,.int j,Q=>Ei i j/\Q (.int (i*2^j.toNat))
 | _,_,_=>False
def zE:OD:=λ_ _ _=>False
def oBin:Operator->OD
 | .Add=>oAdd | .Sub=>oSub | .Mult=>oMul | .FloorDiv=>oDiv | .Mod=>oMod | .Pow=>oPow | .LShift=>oShl|_=>zE
def oLt:OD
 | .int i,.int j,Q=>Q (.bl (decide (i<j)))
 | _,_,_=>False
def oLe:OD
 | .int i,.int j,Q=>Q (.bl (decide (i<=j)))
 | _,_,_=>False
def oGt:OD
 | .int i,.int j,Q=>Q (.bl (decide (j<i)))
 | _,_,_=>False
def oGe:OD
 | .int i,.int j,Q=>Q (.bl (decide (j<=i)))
 | _,_,_=>False
def oEq(neg:Bool):OD
 | .int i,.int j,Q=>Q (.bl (if neg then !decide (i=j) else decide (i=j)))
 | .bl i,.bl j,Q=>Q (.bl (if neg then !decide (i=j) else decide (i=j)))
 | .str i,.str j,Q=>Q (.bl (if neg then !decide (i=j) else decide (i=j)))
 | .tup a,.tup b,Q=>D.pls a=true/\D.pls b=true/\D.dps a<=60/\∀ k,(k=true↔a=b)->Q (.bl (if neg then !k else k))
 | .lst a,.lst b,Q=>neg=neg/\D.pls a=true/\D.pls b=true/\D.dps a<=60/\∀ k,(k=true↔a=b)->Q (.bl (if neg then !k else k))
 | _,_,_=>False
def oIs(neg:Bool):OD:=λx y Q=>match y with
 | .non=>Q (.bl (match x with | .non => !neg|_=>neg))
 | .bl j=>(match x with | .bl i=>Q (.bl (if neg then !decide (i=j) else decide (i=j)))|_=>False)
 | _=>False
def oIn(neg:Bool):OD:=λx y Q=>(∃(i:Int) (ns:List Int),x = .int i/\(y = .lst (ns.map .int)\/y = .tup (ns.map .int))/\Q (.bl (if neg then !decide (i∈ns) else decide (i∈ns))))\/(∃(i:Str) (ns:List Str),x = .str i/\(y = .lst (ns.map .str)\/y = .tup (ns.map .str))/\Q (.bl (if neg then !decide (i∈ns) else decide (i∈ns))))\/(∃ l,y = .lst l/\x.pl=true/\D.pls l=true/\D.dps l<=60/\∀ k:Bool,(k=true↔x∈l)->Q (.bl (if neg then !k else k)))
theorem oIn.mono:∀{x y Q Q'},(∀ d,Q d->Q' d)->oIn neg x y Q->oIn neg x y Q':=λh q=>q.imp (fun⟨i,ns,e1,e2,q⟩=>⟨i,ns,e1,e2,h _ q⟩) (Or.imp (fun⟨i,ns,e1,e2,q⟩=>⟨i,ns,e1,e2,h _ q⟩) fun⟨l,e,a,b,c,q⟩=>⟨l,e,a,b,c,λk hk=>h _ (q k hk)⟩)
def oCmp:CmpOp->OD
 | .Eq=>oEq false | .NotEq=>oEq true | .Lt=>oLt | .LtE=>oLe | .Gt=>oGt | .GtE=>oGe | .Is=>oIs false | .IsNot=>oIs true | .In=>oIn false | .NotIn=>oIn true
theorem oAdd.mono:∀{x y Q Q'},(∀ d,Q d->Q' d)->oAdd x y Q->oAdd x y Q':=by intro x y Q Q' h;cases x <;> cases y <;> intro q <;> first|exact h _ q|exact q|exact⟨q.1,h _ q.2⟩|exact⟨q.1,q.2.1,q.2.2.1,h _ q.2.2.2⟩|exact⟨q.1,q.2.1,q.2.2.1,λk e=>h _ (q.2.2.2 k e)⟩|exact⟨q.1,q.2.1,q.2.2.1,q.2.2.2.1,λk e=>h _ (q.2.2.2.2 k e)⟩
theorem oSub.mono:∀{x y Q Q'},(∀ d,Q d->Q' d)->oSub x y Q->oSub x y Q':=by intro x y Q Q' h;cases x <;> cases y <;> intro q <;> first|exact h _ q|exact q|exact⟨q.1,h _ q.2⟩|exact⟨q.1,q.2.1,q.2.2.1,h _ q.2.2.2⟩|exact⟨q.1,q.2.1,q.2.2.1,λk e=>h _ (q.2.2.2 k e)⟩|exact⟨q.1,q.2.1,q.2.2.1,q.2.2.2.1,λk e=>h _ (q.2.2.2.2 k e)⟩
theorem oMul.mono:∀{x y Q Q'},(∀ d,Q d->Q' d)->oMul x y Q->oMul x y Q':=by intro x y Q Q' h;cases x <;> cases y <;> intro q <;> first|exact h _ q|exact q|exact⟨q.1,h _ q.2⟩|exact⟨q.1,q.2.1,q.2.2.1,h _ q.2.2.2⟩|exact⟨q.1,q.2.1,q.2.2.1,λk e=>h _ (q.2.2.2 k e)⟩|exact⟨q.1,q.2.1,q.2.2.1,q.2.2.2.1,λk e=>h _ (q.2.2.2.2 k e)⟩
theorem oDiv.mono:∀{x y Q Q'},(∀ d,Q d->Q' d)->oDiv x y Q->oDiv x y Q':=by intro x y Q Q' h;cases x <;> cases y <;> intro q <;> first|exact h _ q|exact q|exact⟨q.1,h _ q.2⟩|exact⟨q.1,q.2.1,q.2.2.1,h _ q.2.2.2⟩|exact⟨q.1,q.2.1,q.2.2.1,λk e=>h _ (q.2.2.2 k e)⟩|exact⟨q.1,q.2.1,q.2.2.1,q.2.2.2.1,λk e=>h _ (q.2.2.2.2 k e)⟩
theorem oMod.mono:∀{x y Q Q'},(∀ d,Q d->Q' d)->oMod x y Q->oMod x y Q':=by intro x y Q Q' h;cases x <;> cases y <;> intro q <;> first|exact h _ q|exact q|exact⟨q.1,h _ q.2⟩|exact⟨q.1,q.2.1,q.2.2.1,h _ q.2.2.2⟩|exact⟨q.1,q.2.1,q.2.2.1,λk e=>h _ (q.2.2.2 k e)⟩|exact⟨q.1,q.2.1,q.2.2.1,q.2.2.2.1,λk e=>h _ (q.2.2.2.2 k e)⟩
theorem oPow.mono:∀{x y Q Q'},(∀ d,Q d->Q' d)->oPow x y Q->oPow x y Q':=by intro x y Q Q' h;cases x <;> cases y <;> intro q <;> first|exact h _ q|exact q|exact⟨q.1,h _ q.2⟩|exact⟨q.1,q.2.1,q.2.2.1,h _ q.2.2.2⟩|exact⟨q.1,q.2.1,q.2.2.1,λk e=>h _ (q.2.2.2 k e)⟩|exact⟨q.1,q.2.1,q.2.2.1,q.2.2.2.1,λk e=>h _ (q.2.2.2.2 k e)⟩
theorem oShl.mono:∀{x y Q Q'},(∀ d,Q d->Q' d)->oShl x y Q->oShl x y Q':=by intro x y Q Q' h;cases x <;> cases y <;> intro q <;> first|exact q|exact⟨q.1,h _ q.2⟩
theorem oBin.mono:∀{x y Q Q'},(∀ d,Q d->Q' d)->oBin op x y Q->oBin op x y Q':=by
 cases op;all_goals first|exact oAdd.mono|exact oSub.mono|exact oMul.mono|exact oDiv.mono|exact oMod.mono|exact oPow.mono|exact oShl.mono|exact λ_ q=>q
theorem oLt.mono:∀{x y Q Q'},(∀ d,Q d->Q' d)->oLt x y Q->oLt x y Q':=by intro x y Q Q' h;cases x <;> cases y <;> intro q <;> first|exact h _ q|exact q|exact⟨q.1,h _ q.2⟩|exact⟨q.1,q.2.1,q.2.2.1,h _ q.2.2.2⟩|exact⟨q.1,q.2.1,q.2.2.1,λk e=>h _ (q.2.2.2 k e)⟩|exact⟨q.1,q.2.1,q.2.2.1,q.2.2.2.1,λk e=>h _ (q.2.2.2.2 k e)⟩
theorem oLe.mono:∀{x y Q Q'},(∀ d,Q d->Q' d)->oLe x y Q->oLe x y Q':=by intro x y Q Q' h;cases x <;> cases y <;> intro q <;> first|exact h _ q|exact q|exact⟨q.1,h _ q.2⟩|exact⟨q.1,q.2.1,q.2.2.1,h _ q.2.2.2⟩|exact⟨q.1,q.2.1,q.2.2.1,λk e=>h _ (q.2.2.2 k e)⟩|exact⟨q.1,q.2.1,q.2.2.1,q.2.2.2.1,λk e=>h _ (q.2.2.2.2 k e)⟩
theorem oGt.mono:∀{x y Q Q'},(∀ d,Q d->Q' d)->oGt x y Q->oGt x y Q':=by intro x y Q Q' h;cases x <;> cases y <;> intro q <;> first|exact h _ q|exact q|exact⟨q.1,h _ q.2⟩|exact⟨q.1,q.2.1,q.2.2.1,h _ q.2.2.2⟩|exact⟨q.1,q.2.1,q.2.2.1,λk e=>h _ (q.2.2.2 k e)⟩|exact⟨q.1,q.2.1,q.2.2.1,q.2.2.2.1,λk e=>h _ (q.2.2.2.2 k e)⟩
theorem oGe.mono:∀{x y Q Q'},(∀ d,Q d->Q' d)->oGe x y Q->oGe x y Q':=by intro x y Q Q' h;cases x <;> cases y <;> intro q <;> first|exact h _ q|exact q|exact⟨q.1,h _ q.2⟩|exact⟨q.1,q.2.1,q.2.2.1,h _ q.2.2.2⟩|exact⟨q.1,q.2.1,q.2.2.1,λk e=>h _ (q.2.2.2 k e)⟩|exact⟨q.1,q.2.1,q.2.2.1,q.2.2.2.1,λk e=>h _ (q.2.2.2.2 k e)⟩
theorem oEq.mono:∀{x y Q Q'},(∀ d,Q d->Q' d)->oEq neg x y Q->oEq neg x y Q':=by intro x y Q Q' h;cases x <;> cases y <;> intro q <;> first|exact h _ q|exact q|exact⟨q.1,h _ q.2⟩|exact⟨q.1,q.2.1,q.2.2.1,h _ q.2.2.2⟩|exact⟨q.1,q.2.1,q.2.2.1,λk e=>h _ (q.2.2.2 k e)⟩|exact⟨q.1,q.2.1,q.2.2.1,q.2.2.2.1,λk e=>h _ (q.2.2.2.2 k e)⟩
theorem oIs.mono:∀{x y Q Q'},(∀ d,Q d->Q' d)->oIs neg x y Q->oIs neg x y Q':=by intro x y Q Q' h;cases x <;> cases y <;> intro q <;> first|exact h _ q|exact q|exact⟨q.1,h _ q.2⟩|exact⟨q.1,q.2.1,q.2.2.1,h _ q.2.2.2⟩|exact⟨q.1,q.2.1,q.2.2.1,λk e=>h _ (q.2.2.2 k e)⟩|exact⟨q.1,q.2.1,q.2.2.1,q.2.2.2.1,λk e=>h _ (q.2.2.2.2 k e)⟩
theorem oCmp.mono:∀{x y Q Q'},(∀ d,Q d->Q' d)->oCmp op x y Q->oCmp op x y Q':=by
 cases op;all_goals first|exact oLt.mono|exact oLe.mono|exact oGt.mono|exact oGe.mono|exact oEq.mono|exact oIs.mono|exact oIn.mono
def Rng(X:Cx)(g:Value->Value->Sem Value)(o:OD):Prop:=∃ r,OpR X g r/\RD X.K r o
theorem Rng.never:Rng X g zE:=⟨λ_ _ _ _=>False,λ_ _ _ _ _ _ _ _ _ _ _ _ h=>h.elim,λ_ _ _ _ _ _ _ _ _ _ _ _ _ h=>h.elim⟩
theorem He:Rng X (binaryOp .Add) oAdd:=by
 refine⟨_,OpR.or2 sK (OpR.or2 zy (OpR.or2 HG (OpR.or2 E1 (Kc X.K)))),?_⟩;intro f O σ ss H dx dy x y Q R rx ry h;cases dx <;> cases dy <;> first|(exact False.elim h)|skip
 ·rename_i i j;cases rx;cases ry;exact .inl ⟨i,j,rfl,rfl,h _ H (Ex.refl R.fl) rfl⟩
 ·rename_i i j;cases rx;cases ry;exact .inr (.inl ⟨i,j,rfl,rfl,h.1,h.2 _ H (Ex.refl R.fl) rfl⟩)
 ·rename_i la lb;obtain⟨a,xs,rfl,h1,h2⟩:=rx;obtain⟨b,ys,rfl,h3,h4⟩:=ry;obtain⟨hl,q⟩:=h;cases la with
  | nil =>
   cases (show xs=[] from h2);exact .inr (.inr (.inr (.inr ⟨a,b,ys,rfl,rfl,h1,h3,q _ H (Ex.refl R.fl) ⟨b,ys,rfl,h3,h4⟩⟩)))
  | cons d la =>
   refine .inr (.inr (.inr (.inl ⟨a,b,xs,ys,rfl,rfl,h1,h3,?_,by rw[h2.len,h4.len];exact hl,λe=>?_,λe p hp=>?_⟩)))
   ·obtain⟨v,r,e,_⟩:=h2;rw[e];simp
   ·subst e;cases lb with
    | nil =>
     refine q _ H (Ex.refl R.fl) ⟨a,xs,rfl,h1,?_⟩;rw[ci];exact h2
    | cons=>obtain⟨v,r,e,_⟩:=h4;cases e
   ·exact q _ _ (R.new hp _) (R.tup hp (h2.append h4))
 ·rename_i la lb;obtain⟨a,xs,rfl,n1,h1,h2⟩:=rx;obtain⟨b,ys,rfl,n2,h3,h4⟩:=ry;exact .inr (.inr (.inl ⟨a,b,xs,ys,rfl,rfl,h1,h3,by rw[h2.len,h4.len];exact h.1,λp hp=>h.2 _ _ (R.new hp _) (R.lst hp (h2.append h4))⟩))
theorem uJ{g:Value->Value->Sem Value}{C:Int->Int->Prop}{w:Int->Int->Int}{o:OD}(h:OpR X g (rI C λi j=>.int (w i j)))(ho:∀ dx dy Q,o dx dy Q->∃ i j,dx = .int i/\dy = .int j/\C i j/\Q (.int (w i j))):Rng X g o:=by
 refine⟨_,h,λf O σ ss H dx dy x y Q R rx ry h=>?_⟩;obtain⟨i,j,rfl,rfl,c,q⟩:=ho _ _ _ h;cases rx;cases ry;exact⟨i,j,rfl,rfl,c,q _ H (Ex.refl R.fl) rfl⟩
theorem ve{g:Value->Value->Sem Value}{w:Int->Int->Bool}{o:OD}(h:OpR X g (CC λi j=>.bl (w i j)))(ho:∀ dx dy Q,o dx dy Q->∃ i j,dx = .int i/\dy = .int j/\Q (.bl (w i j))):Rng X g o:=by
 refine⟨_,h,λf O σ ss H dx dy x y Q R rx ry h=>?_⟩;obtain⟨i,j,rfl,rfl,q⟩:=ho _ _ _ h;cases rx;cases ry;exact⟨i,j,rfl,rfl,q _ H (Ex.refl R.fl) rfl⟩
theorem Hb:Rng X (binaryOp .Mult) oMul:=by
 refine⟨_,OpR.or2 EY (OpR.or2 C8 EV),?_⟩;intro f O σ ss H dx dy x y Q R rx ry h;cases dx <;> cases dy <;> first|(exact False.elim h)|skip
 ·rename_i i j;cases rx;cases ry;exact .inl ⟨i,j,rfl,rfl,h.1,h.2 _ H (Ex.refl R.fl) rfl⟩
 ·rename_i la k;obtain⟨a,xs,rfl,h1,h2⟩:=rx;cases ry;obtain⟨z1,z2,z3,q⟩:=h;obtain⟨k,rfl⟩:=bo (show 0<=k by omega);rw[aG] at z3 q;refine .inr (.inr ⟨a,xs,k,rfl,rfl,h1,λz=>z1 ?_,by omega,by rw[h2.len];exact z3,λe=>?_,λ_ p hp=>q _ _ (R.new hp _) (R.tup hp (h2.flat _))⟩)
  ·have:=h2.len;rw[z] at this;exact bM.mp this.symm
  ·refine q _ H (Ex.refl R.fl) ⟨a,xs,rfl,h1,?_⟩;rw[e,bx,List.replicate_zero,bW,List.flatten_nil,ci];exact h2
 ·rename_i la k;obtain⟨a,xs,rfl,n1,h1,h2⟩:=rx;cases ry;exact .inr <| .inl ⟨a,k,xs,rfl,rfl,h1,h.1,h.2.1,by rw[h2.len];exact h.2.2.1,λp hp=>h.2.2.2 _ _ (R.new hp _) (R.lst hp (h2.flat _))⟩
theorem Hd(hr:Room k X.A)(op:Operator):Rng X (binaryOp op) (oBin op):=by
 cases op;case Add=>exact He
 case Mult=>exact Hb
 case Sub =>
  refine⟨_,Hz,λf O σ ss H dx dy x y Q R rx ry h=>?_⟩;cases dx <;> cases dy <;> first|(exact False.elim h)|skip
  cases rx;cases ry;exact⟨_,_,rfl,rfl,h _ H (Ex.refl R.fl) rfl⟩
 case FloorDiv=>exact uJ (yr hr) λdx dy Q h=>by cases dx <;> cases dy <;> first|(exact False.elim h)|exact⟨_,_,rfl,rfl,h.1,h.2⟩
 case Mod=>exact uJ EZ λdx dy Q h=>by cases dx <;> cases dy <;> first|(exact False.elim h)|exact⟨_,_,rfl,rfl,h.1,h.2⟩
 case Pow=>exact uJ C9 λdx dy Q h=>by cases dx <;> cases dy <;> first|(exact False.elim h)|exact⟨_,_,rfl,rfl,h.1,h.2⟩
 case LShift=>exact uJ HA λdx dy Q h=>by cases dx <;> cases dy <;> first|(exact False.elim h)|exact⟨_,_,rfl,rfl,h.1,h.2⟩
 all_goals exact Rng.never
theorem Jm(hr:Room k X.A):Rng X (compareOp .Eq) (oEq false):=by
 refine⟨_,OpR.or2 yt (OpR.or2 (MJ X.K hr) (Lu X.K hr)),?_⟩;intro f O σ ss H dx dy x y Q R rx ry h;cases dx <;> cases dy <;> first|(exact False.elim h)|skip
 ·rename_i i j;cases rx;cases ry;refine .inl ⟨rfl,?_⟩;have e:(decide (V.bl i=V.bl j))=decide (i=j):=by cases i <;> cases j <;> rfl
  rw[e];exact h _ H (Ex.refl R.fl) rfl
 ·rename_i i j;cases rx;cases ry;refine .inl ⟨rfl,?_⟩;have e:(decide (V.int i=V.int j))=decide (i=j):=by simp
  rw[e];exact h _ H (Ex.refl R.fl) rfl
 ·rename_i i j;cases rx;cases ry;refine .inl ⟨rfl,?_⟩;have e:(decide (V.str i=V.str j))=decide (i=j):=by simp
  rw[e];exact h _ H (Ex.refl R.fl) rfl
 ·rename_i la lb;obtain⟨p1,p2,p3,q⟩:=h;refine .inr (.inl ⟨D.dvs la,D.dvs lb,Rp.rep (d:=.tup la) p1 rx,Rp.rep (d:=.tup lb) p2 ry,D.dvs_pl p1,D.dvs_pl p2,by rw[D.dvs_dp];exact p3,λb hb=>?_⟩);exact q b (hb.trans ⟨λe=>D.dvs_inj p1 p2 e,λe=>by rw[e]⟩) _ H (Ex.refl R.fl) rfl
 ·rename_i la lb;obtain⟨_,p1,p2,p3,q⟩:=h;refine .inr (.inr ⟨D.dvs la,D.dvs lb,Rp.rep (d:=.lst la) p1 rx,Rp.rep (d:=.lst lb) p2 ry,D.dvs_pl p1,D.dvs_pl p2,by rw[D.dvs_dp];exact p3,λb hb=>?_⟩);exact q b (hb.trans ⟨λe=>D.dvs_inj p1 p2 e,λe=>by rw[e]⟩) _ H (Ex.refl R.fl) rfl
theorem Jk(hr:Room k X.A):Rng X (compareOp .NotEq) (oEq true):=by
 refine⟨_,OpR.or2 Da (OpR.or2 (MF X.K hr) (Lf X.K hr)),?_⟩;intro f O σ ss H dx dy x y Q R rx ry h;cases dx <;> cases dy <;> first|(exact False.elim h)|skip
 ·rename_i i j;cases rx;cases ry;refine .inl ⟨rfl,?_⟩;have e:(decide (V.bl i=V.bl j))=decide (i=j):=by cases i <;> cases j <;> rfl
  rw[e];exact h _ H (Ex.refl R.fl) rfl
 ·rename_i i j;cases rx;cases ry;refine .inl ⟨rfl,?_⟩;have e:(decide (V.int i=V.int j))=decide (i=j):=by simp
  rw[e];exact h _ H (Ex.refl R.fl) rfl
 ·rename_i i j;cases rx;cases ry;refine .inl ⟨rfl,?_⟩;have e:(decide (V.str i=V.str j))=decide (i=j):=by simp
  rw[e];exact h _ H (Ex.refl R.fl) rfl
 ·rename_i la lb;obtain⟨p1,p2,p3,q⟩:=h;refine .inr (.inl ⟨D.dvs la,D.dvs lb,Rp.rep (d:=.tup la) p1 rx,Rp.rep (d:=.tup lb) p2 ry,D.dvs_pl p1,D.dvs_pl p2,by rw[D.dvs_dp];exact p3,λb hb=>?_⟩);exact q b (hb.trans ⟨λe=>D.dvs_inj p1 p2 e,λe=>by rw[e]⟩) _ H (Ex.refl R.fl) rfl
 ·rename_i la lb;obtain⟨_,p1,p2,p3,q⟩:=h;refine .inr (.inr ⟨D.dvs la,D.dvs lb,Rp.rep (d:=.lst la) p1 rx,Rp.rep (d:=.lst lb) p2 ry,D.dvs_pl p1,D.dvs_pl p2,by rw[D.dvs_dp];exact p3,λb hb=>?_⟩);exact q b (hb.trans ⟨λe=>D.dvs_inj p1 p2 e,λe=>by rw[e]⟩) _ H (Ex.refl R.fl) rfl
theorem HD:OpR X (compareOp .Is) (λx y H Q=>∃ i j,x = .bl i/\y = .bl j/\Q (.bl (decide (i=j))) H):=by
 intro pins s σ H x y v u Q I rx ry h;obtain⟨i,j,rfl,rfl,q⟩:=h;cases rx;cases ry;exact ηB (ηP (ηP (qL I q (by cases i <;> cases j <;> rfl))))
theorem EX:OpR X (compareOp .IsNot) (λx y H Q=>∃ i j,x = .bl i/\y = .bl j/\Q (.bl (!decide (i=j))) H):=by
 intro pins s σ H x y v u Q I rx ry h;obtain⟨i,j,rfl,rfl,q⟩:=h;cases rx;cases ry;exact ηB (ηP (ηP (qL I q (by cases i <;> cases j <;> rfl))))
theorem Jl:Rng X (compareOp .Is) (oIs false):=by
 refine⟨_,OpR.or2 HC HD,λf O σ ss H dx dy x y Q R rx ry h=>?_⟩;cases dy <;> first|(exact False.elim h)|skip
 ·cases ry;refine .inl ⟨rfl,?_⟩;cases dx;case tup=>obtain⟨a,xs,rfl,_⟩:=rx;exact h _ H (Ex.refl R.fl) rfl
  case lst=>obtain⟨a,xs,rfl,_⟩:=rx;exact h _ H (Ex.refl R.fl) rfl
  case exn=>obtain⟨a,xs,rfl,_⟩:=rx;exact h _ H (Ex.refl R.fl) rfl
  case dct=>obtain⟨a,xs,rfl,_⟩:=rx;exact h _ H (Ex.refl R.fl) rfl
  all_goals (cases rx;exact h _ H (Ex.refl R.fl) rfl)
 ·cases ry;cases dx <;> first|(exact False.elim h)|skip
  cases rx;exact .inr ⟨_,_,rfl,rfl,h _ H (Ex.refl R.fl) rfl⟩
theorem Cy:Rng X (compareOp .IsNot) (oIs true):=by
 refine⟨_,OpR.or2 EW EX,λf O σ ss H dx dy x y Q R rx ry h=>?_⟩;cases dy <;> first|(exact False.elim h)|skip
 ·cases ry;refine .inl ⟨rfl,?_⟩;cases dx;case tup=>obtain⟨a,xs,rfl,_⟩:=rx;exact h _ H (Ex.refl R.fl) rfl
  case lst=>obtain⟨a,xs,rfl,_⟩:=rx;exact h _ H (Ex.refl R.fl) rfl
  case exn=>obtain⟨a,xs,rfl,_⟩:=rx;exact h _ H (Ex.refl R.fl) rfl
  case dct=>obtain⟨a,xs,rfl,_⟩:=rx;exact h _ H (Ex.refl R.fl) rfl
  all_goals (cases rx;exact h _ H (Ex.refl R.fl) rfl)
 ·cases ry;cases dx <;> first|(exact False.elim h)|skip
  cases rx;exact .inr ⟨_,_,rfl,rfl,h _ H (Ex.refl R.fl) rfl⟩
theorem Rps.strs:∀{zs:List Str} {vs:List V},Rps K f O H (zs.map D.str) vs->vs=zs.map V.str
 | [],_,h=>h
 | z::zs,_,h=>by
  obtain⟨v,r,e1,h1,h2⟩:=h;rw[e1,Rps.strs h2,show v = .str z from h1];rfl
theorem AS(i:Int)(ns:List Int):IP (.int i) (ns.map V.int)=decide (i∈ns):=by
 apply cm.mpr;unfold IP;rw[e9,decide_eq_true_iff];constructor
 ·rintro⟨y,hy,e⟩;obtain⟨j,hj,rfl⟩:=df.mp hy;have e:(j == i)=true:=e;exact beq_iff_eq.mp e ▸ hj
 ·exact λh=>⟨_,df.mpr ⟨i,h,rfl⟩,show (i == i)=true from beq_self_eq_true i⟩
theorem AR(i:Str)(ns:List Str):IP (.str i) (ns.map V.str)=decide (i∈ns):=by
 apply cm.mpr;unfold IP;rw[e9,decide_eq_true_iff];constructor
 ·rintro⟨y,hy,e⟩;obtain⟨j,hj,rfl⟩:=df.mp hy;have e:(j == i)=true:=e;exact beq_iff_eq.mp e ▸ hj
 ·exact λh=>⟨_,df.mpr ⟨i,h,rfl⟩,show (i == i)=true from beq_self_eq_true i⟩
theorem D.dvs_mem:∀{l:List D},x.pl=true->D.pls l=true->(x.dv∈D.dvs l↔x∈l)
 | [],_,_=>⟨λh=>(by cases h),λh=>by cases h⟩
 | d::l,hx,hl=>by
  have h:=ak.mp (show (d.pl && D.pls l)=true from hl);show x.dv∈d.dv::D.dvs l↔_;rw[ao,ao,D.dvs_mem hx h.2];exact or_congr ⟨λe=>D.dv_inj hx h.1 e,λe=>by rw[e]⟩ Iff.rfl
theorem FZ(neg:Bool):RD K (λx y H Q=>K3 K neg x y H Q\/Hl K neg x y H Q) (oIn neg):=by
 rintro f O σ ss H dx dy x y Q R rx ry (⟨i,ns,rfl,hy,q⟩|⟨i,ns,rfl,hy,q⟩|⟨l,rfl,p1,p2,p3,q⟩)
 ·cases rx;have fl:(ns.map V.int).all tX=true:=by rw[gu];exact cx.mpr λ_ _=>rfl
  rcases hy with rfl|rfl
  ·obtain⟨a,xs,rfl,_,h1,r1⟩:=ry;rw[Rps.ints r1] at h1;exact .inl ⟨a,_,rfl,.inl (SqL.of h1),rfl,fl,by rw[AS];exact q _ H (Ex.refl R.fl) rfl⟩
  ·obtain⟨a,xs,rfl,h1,r1⟩:=ry;rw[Rps.ints r1] at h1;exact .inl ⟨a,_,rfl,.inr h1,rfl,fl,by rw[AS];exact q _ H (Ex.refl R.fl) rfl⟩
 ·cases rx;have fl:(ns.map V.str).all tX=true:=by rw[gu];exact cx.mpr λ_ _=>rfl
  rcases hy with rfl|rfl
  ·obtain⟨a,xs,rfl,_,h1,r1⟩:=ry;rw[Rps.strs r1] at h1;exact .inl ⟨a,_,rfl,.inl (SqL.of h1),rfl,fl,by rw[AR];exact q _ H (Ex.refl R.fl) rfl⟩
  ·obtain⟨a,xs,rfl,h1,r1⟩:=ry;rw[Rps.strs r1] at h1;exact .inl ⟨a,_,rfl,.inr h1,rfl,fl,by rw[AR];exact q _ H (Ex.refl R.fl) rfl⟩
 ·exact .inr ⟨dx.dv,D.dvs l,Rp.rep p1 rx,Rp.rep (d:=.lst l) p2 ry,D.dv_pl p1,D.dvs_pl p2,by rw[D.dvs_dp];exact p3,λb hb=>q b (hb.trans (D.dvs_mem p1 p2)) _ H (Ex.refl R.fl) rfl⟩
theorem uK(hr:Room k X.A)(op:CmpOp):Rng X (compareOp op) (oCmp op):=by
 cases op;case Eq=>exact Jm hr
 case NotEq=>exact Jk hr
 case Lt=>exact ve F8 λdx dy Q h=>by cases dx <;> cases dy <;> first|(exact False.elim h)|exact⟨_,_,rfl,rfl,h⟩
 case LtE=>exact ve JB λdx dy Q h=>by cases dx <;> cases dy <;> first|(exact False.elim h)|exact⟨_,_,rfl,rfl,h⟩
 case Gt=>exact ve F9 λdx dy Q h=>by cases dx <;> cases dy <;> first|(exact False.elim h)|exact⟨_,_,rfl,rfl,h⟩
 case GtE=>exact ve Gb λdx dy Q h=>by cases dx <;> cases dy <;> first|(exact False.elim h)|exact⟨_,_,rfl,rfl,h⟩
 case Is=>exact Jl
 case IsNot=>exact Cy
 case In=>exact⟨_,OpR.or2 Bt (HE X.K hr),FZ false⟩
 case NotIn=>exact⟨_,OpR.or2 xE (Bs X.K hr),FZ true⟩
end Dp
namespace Dp
open PySem L2
variable{K:Frag}{f:Addr}{O O':List Addr}{H H':Hp}{X:Cx}{σ:St}{ss:SS}{a b c:Expr}{ta tb tc:TEd}{tA tB:TTd}{pos:Pos}
def gZ(op:Operator)(a b:TEd):TEd:=d2 (oBin op) oBin.mono a b
theorem gZ.ok(hr:Room k X.A)(ha:PE X a (LE X.K ta))(hb:PE X b (LE X.K tb)):PE X (.BinOp a op b pos) (LE X.K (gZ op ta tb)):=by
 obtain⟨r,h,hr⟩:=Hd (X:=X) hr op;exact d2.ok hr (rj h ha hb)
def iB(op:CmpOp)(a b:TEd):TEd:=d2 (oCmp op) oCmp.mono a b
theorem iB.ok(hr:Room k X.A)(ha:PE X a (LE X.K ta))(hb:PE X b (LE X.K tb))(hm:behindInMarks op b=false):PE X (.Compare a [op] [b] pos) (LE X.K (iB op ta tb)):=by
 obtain⟨r,h,hr⟩:=uK hr op;exact d2.ok hr (vi h ha hb hm)
def iu(t:TEd):TTd:=⟨λss Q=>t.run ss λd=>match d with | .bl b=>Q b|_=>False,λ{ss Q Q'} h q=>t.mono (λd q=>by
 revert q;cases d <;> first|exact h _|exact id) q⟩
theorem LE.test(h:LT X.K (iu t) σ H Q):Cj (LE X.K t) σ H Q:=by
 obtain⟨f,O,ss,R,q⟩:=h;refine⟨f,O,ss,R,t.mono (λd q v H' e r=>?_) q⟩;cases d <;> first|exact False.elim q|skip
 cases r;exact⟨_,rfl,q H' e⟩
theorem iB.test(hr:Room k X.A)(ha:PE X a (LE X.K ta))(hb:PE X b (LE X.K tb))(hm:behindInMarks op b=false):PT X (.Compare a [op] [b] pos) (LT X.K (iu (iB op ta tb))):=by
 obtain⟨r,h,hr⟩:=uK hr op;refine (sI (pos:=pos) h ha hb hm).weak λσ H Q q=>?_;have q:=LE.test q;obtain⟨f,O,ss,R,q⟩:=q;refine⟨f,O,ss,R,ta.mono (λdx q v1 H1 e1 r1=>?_) q⟩;refine⟨f,O,ss,R.ex e1,tb.mono (λdy q v2 H2 e2 r2=>?_) q⟩;exact hr f O σ ss H2 dx dy v1 v2 _ ((R.ex e1).ex e2) ((R.ex e1).up e2 r1) r2 (oCmp.mono (λd q v H' e3 r3=>q v H' (e1.trans (e2.trans e3)) r3) q)
def ja(op op':CmpOp)(a b c:TEd):TEd:=⟨λss Q=>a.run ss λx=>b.run ss λy=>oCmp op x y λz=>match z with | .bl k=>if k=true then c.run ss λw=>oCmp op' y w Q else Q (.bl false)|_=>False,λ{ss Q Q'} h q=>a.mono (λx q=>b.mono (λy q=>oCmp.mono (λd q=>by
 revert q;cases d <;> first|exact id|skip
 rename_i k;cases k
 ·exact h _
 ·exact c.mono λw q=>oCmp.mono h q) q) q) q⟩
theorem ja.test(hr:Room k X.A)(ha:PE X a (LE X.K ta))(hb:PE X b (LE X.K tb))(hc:PE X c (LE X.K tc))(hm:lastMarks [op,op'] [b,c]=false):PT X (.Compare a [op,op'] [b,c] pos) (LT X.K (iu (ja op op' ta tb tc))):=by
 obtain⟨r,h,h1⟩:=uK hr op;obtain⟨r',h',h2⟩:=uK hr op';refine (CJ (pos:=pos) h h' ha hb hc hm).weak λσ H Q q=>?_;have q:=LE.test q;obtain⟨f,O,ss,R,q⟩:=q;refine⟨f,O,ss,R,ta.mono (λdx q v1 H1 e1 r1=>?_) q⟩;refine⟨f,O,ss,R.ex e1,tb.mono (λdy q v2 H2 e2 r2=>?_) q⟩;have R2:=(R.ex e1).ex e2;refine h1 f O σ ss H2 dx dy v1 v2 _ R2 ((R.ex e1).up e2 r1) r2 (oCmp.mono (λd q v H3 e3 r3=>?_) q);cases d <;> first|exact False.elim q|skip
 rename_i k;cases r3;refine⟨k,rfl,?_⟩;cases k
 ·exact q _ H3 (e1.trans (e2.trans e3)) rfl
 ·have R3:=R2.ex e3;refine⟨f,O,ss,R3,tc.mono (λdz q v4 H4 e4 r4=>?_) q⟩;exact h2 f O σ ss H4 dy dz v2 v4 _ (R3.ex e4) (R3.up e4 (R2.up e3 r2)) r4 (oCmp.mono (λd q v H' e5 r5=>q v H' (e1.trans (e2.trans (e3.trans (e4.trans e5)))) r5) q)
theorem ja.ok(hr:Room k X.A)(ha:PE X a (LE X.K ta))(hb:PE X b (LE X.K tb))(hc:PE X c (LE X.K tc))(hm:lastMarks [op,op'] [b,c]=false):PE X (.Compare a [op,op'] [b,c] pos) (LE X.K (ja op op' ta tb tc)):=by
 obtain⟨r,h,h1⟩:=uK hr op;obtain⟨r',h',h2⟩:=uK hr op';refine (CV (pos:=pos) h h' ha hb hc hm).weak λσ H Q q=>?_;obtain⟨f,O,ss,R,q⟩:=q;refine⟨f,O,ss,R,ta.mono (λdx q v1 H1 e1 r1=>?_) q⟩;refine⟨f,O,ss,R.ex e1,tb.mono (λdy q v2 H2 e2 r2=>?_) q⟩;have R2:=(R.ex e1).ex e2;refine h1 f O σ ss H2 dx dy v1 v2 _ R2 ((R.ex e1).up e2 r1) r2 (oCmp.mono (λd q v H3 e3 r3=>?_) q);cases d <;> first|exact False.elim q|skip
 rename_i k;cases r3;refine⟨k,rfl,?_⟩;cases k
 ·exact q _ H3 (e1.trans (e2.trans e3)) rfl
 ·have R3:=R2.ex e3;refine⟨f,O,ss,R3,tc.mono (λdz q v4 H4 e4 r4=>?_) q⟩;exact h2 f O σ ss H4 dy dz v2 v4 _ (R3.ex e4) (R3.up e4 (R2.up e3 r2)) r4 (oCmp.mono (λd q v H' e5 r5=>q v H' (e1.trans (e2.trans (e3.trans (e4.trans e5)))) r5) q)
def jq(a:TEd):TEd:=⟨λss Q=>a.run ss λd=>match d with | .int i=>Q (.int (-i))|_=>False,λ{ss Q Q'} h q=>a.mono (λd q=>by
 revert q;cases d <;> first|exact h _|exact id) q⟩
theorem jq.ok(ha:PE X a (LE X.K ta)):PE X (.UnaryOp .USub a pos) (LE X.K (jq ta)):=(F5 (pos:=pos) Ce ha).weak λσ H Q ⟨f,O,ss,R,q⟩=>⟨f,O,ss,R,ta.mono (λd q v H1 e r=>by
 cases d <;> first|exact False.elim q|skip
 cases r;exact⟨_,rfl,q _ H1 e rfl⟩) q⟩
def truD:D->(Bool->Prop)->Prop
 | .non,Q=>Q false
 | .bl b,Q=>Q b
 | .int i,Q=>Q (i != 0)
 | .str y,Q=>y.length<=sizeLine/\Q ((y.length:Int) != 0)
 | .tup l,Q=>Q (!l.isEmpty)
 | .lst l,Q=>Q (!l.isEmpty)
 | .fl,_=>False
 | .exn _ _ _,_=>False
 | .dct _ _,_=>False
theorem truD.mono:∀{d:D} {Q Q':Bool->Prop},(∀ b,Q b->Q' b)->truD d Q->truD d Q'
 | .non,_,_,h,q=>h _ q
 | .bl _,_,_,h,q=>h _ q
 | .int _,_,_,h,q=>h _ q
 | .str _,_,_,h,q=>⟨q.1,h _ q.2⟩
 | .tup _,_,_,h,q=>h _ q
 | .lst _,_,_,h,q=>h _ q
 | .fl,_,_,_,q=>q
 | .exn ..,_,_,_,q=>q
 | .dct _ _,_,_,_,q=>q
theorem Rps.empty:∀{ds:List D} {vs:List V},Rps K f O H ds vs->vs.isEmpty=ds.isEmpty
 | [],_,h=>by rw[show _=[] from h];rfl
 | _::_,_,h=>by obtain⟨v,r,e,_⟩:=h;rw[e];rfl
def jj(a:TEd):TTd:=⟨λss Q=>a.run ss λd=>truD d Q,λh q=>a.mono (λd q=>truD.mono h q) q⟩
theorem jj.ok(ha:PE X a (LE X.K ta))(he:∀ whole,isTrue a X.env whole=(do let v ← whole;standAt a.pos;holding [v] (truthy v))):PT X a (LT X.K (jj ta)):=(yo ha he).weak λσ H Q ⟨f,O,ss,R,q⟩=>⟨f,O,ss,R,ta.mono (λd q v H1 e r=>by
 cases d;case non=>cases r;exact⟨false,rfl,q H1 e⟩
 case bl=>cases r;exact⟨_,rfl,q H1 e⟩
 case int=>cases r;exact⟨_,rfl,q H1 e⟩
 case str=>cases r;exact⟨_,⟨q.1,rfl⟩,q.2 H1 e⟩
 case tup l =>
  obtain⟨p,xs,rfl,h1,h2⟩:=r;exact⟨_,.inr (.inl ⟨xs,h1,by rw[h2.empty]⟩),q H1 e⟩
 case lst l =>
  obtain⟨p,xs,rfl,_,h1,h2⟩:=r;exact⟨_,.inl ⟨xs,SqL.of h1,by rw[h2.empty]⟩,q H1 e⟩
 case fl=>exact False.elim q
 case exn=>exact False.elim q
 case dct=>exact False.elim q) q⟩
def jr(a b:TTd):TTd:=⟨λss Q=>a.run ss λk=>if k=true then b.run ss Q else Q false,λ{ss Q Q'} h q=>a.mono (λk q=>by
 revert q;cases k
 ·exact h _
 ·exact b.mono h) q⟩
def kA(a b:TTd):TTd:=⟨λss Q=>a.run ss λk=>if k=true then Q true else b.run ss Q,λ{ss Q Q'} h q=>a.mono (λk q=>by
 revert q;cases k
 ·exact b.mono h
 ·exact h _) q⟩
def iP(a:TTd):TTd:=⟨λss Q=>a.run ss λk=>Q (!k),λh q=>a.mono (λk q=>h _ q) q⟩
theorem jr.weak(h:LT X.K (jr tA tB) σ H Q):Jh (LT X.K tA) (LT X.K tB) σ H Q:=by
 obtain⟨f,O,ss,S,q⟩:=h;refine⟨f,O,ss,S,tA.mono (λk q H1 e=>?_) q⟩;cases k
 ·exact q H1 e
 ·exact⟨f,O,ss,S.ex e,tB.mono (λk q H2 e2=>q H2 (e.trans e2)) q⟩
theorem kA.weak(h:LT X.K (kA tA tB) σ H Q):LX (LT X.K tA) (LT X.K tB) σ H Q:=by
 obtain⟨f,O,ss,S,q⟩:=h;refine⟨f,O,ss,S,tA.mono (λk q H1 e=>?_) q⟩;cases k
 ·exact⟨f,O,ss,S.ex e,tB.mono (λk q H2 e2=>q H2 (e.trans e2)) q⟩
 ·exact q H1 e
theorem _root_.L2.PW.weak(h:PW X e t)(w:∀ σ H Q,t' σ H Q->t σ H Q):PW X e t':=λwh pins s σ H Q I q=>h wh pins s σ H Q I (w σ H Q q)
theorem jr.ok(ha:PT X a (LT X.K tA))(hb:PW X (.BoolOp .And (b::rest) pos) (LT X.K tB)):PW X (.BoolOp .And (a::b::rest) pos) (LT X.K (jr tA tB)):=(CH ha hb).weak λ_ _ _=>jr.weak
theorem kA.ok(ha:PT X a (LT X.K tA))(hb:PW X (.BoolOp .Or (b::rest) pos) (LT X.K tB)):PW X (.BoolOp .Or (a::b::rest) pos) (LT X.K (kA tA tB)):=(Jx ha hb).weak λ_ _ _=>kA.weak
theorem iP.ok(ha:PT X a (LT X.K tA)):PT X (.UnaryOp .Not a pos) (LT X.K (iP tA)):=(Hq ha).weak λσ H Q ⟨f,O,ss,S,q⟩=>⟨f,O,ss,S,q⟩
def pe(a b:TEd):TEd:=⟨λss Q=>a.run ss λd=>match d with | .bl k=>if k=true then b.run ss Q else Q (.bl false)|_=>False,λ{ss Q Q'} h q=>a.mono (λd q=>by
 revert q;cases d <;> first|exact id|skip
 rename_i k;cases k
 ·exact h _
 ·exact b.mono h) q⟩
def dOr(a b:TEd):TEd:=⟨λss Q=>a.run ss λd=>match d with | .bl k=>if k=true then Q (.bl true) else b.run ss Q|_=>False,λ{ss Q Q'} h q=>a.mono (λd q=>by
 revert q;cases d <;> first|exact id|skip
 rename_i k;cases k
 ·exact b.mono h
 ·exact h _) q⟩
def ph(a:TEd):TEd:=⟨λss Q=>a.run ss λd=>match d with | .bl k=>Q (.bl (!k))|_=>False,λ{ss Q Q'} h q=>a.mono (λd q=>by
 revert q;cases d <;> first|exact h _|exact id) q⟩
theorem pe.ok(ha:PE X a (LE X.K ta))(hb:PE X (.BoolOp .And (b::rest) pos) (LE X.K tb)):PE X (.BoolOp .And (a::b::rest) pos) (LE X.K (pe ta tb)):=(zr ha hb).weak λσ H Q ⟨f,O,ss,S,q⟩=>⟨f,O,ss,S,ta.mono (λd q v H1 e r=>by
 cases d <;> first|exact False.elim q|skip
 rename_i k;cases r;refine⟨k,rfl,?_⟩;cases k
 ·exact q _ H1 e rfl
 ·exact⟨f,O,ss,S.ex e,tb.mono (λk q v H2 e2 r=>q v H2 (e.trans e2) r) q⟩) q⟩
theorem dOr.ok(ha:PE X a (LE X.K ta))(hb:PE X (.BoolOp .Or (b::rest) pos) (LE X.K tb)):PE X (.BoolOp .Or (a::b::rest) pos) (LE X.K (dOr ta tb)):=(Jz ha hb).weak λσ H Q ⟨f,O,ss,S,q⟩=>⟨f,O,ss,S,ta.mono (λd q v H1 e r=>by
 cases d <;> first|exact False.elim q|skip
 rename_i k;cases r;refine⟨k,rfl,?_⟩;cases k
 ·exact⟨f,O,ss,S.ex e,tb.mono (λk q v H2 e2 r=>q v H2 (e.trans e2) r) q⟩
 ·exact q _ H1 e rfl) q⟩
theorem ph.ok(ha:PE X a (LE X.K ta)):PE X (.UnaryOp .Not a pos) (LE X.K (ph ta)):=(Hu (pos:=pos) ha).weak λσ H Q ⟨f,O,ss,S,q⟩=>⟨f,O,ss,S,ta.mono (λd q v H1 e r=>by
 cases d <;> first|exact False.elim q|skip
 rename_i k;cases r;exact⟨k,rfl,q _ H1 e rfl⟩) q⟩
def pj(c:TTd)(a b:TEd):TEd:=⟨λss Q=>c.run ss λk=>if k=true then a.run ss Q else b.run ss Q,λ{ss Q Q'} h q=>c.mono (λk q=>by
 revert q;cases k
 ·exact b.mono h
 ·exact a.mono h) q⟩
theorem pj.ok(hc:PT X c (LT X.K tA))(ha:PE X a (LE X.K ta))(hb:PE X b (LE X.K tb)):PE X (.IfExp c a b pos) (LE X.K (pj tA ta tb)):=(CU (pos:=pos) hc ha hb).weak λσ H Q ⟨f,O,ss,S,q⟩=>⟨f,O,ss,S,tA.mono (λk q H1 e=>by
 cases k
 ·exact⟨f,O,ss,S.ex e,tb.mono (λk q v H2 e2 r=>q v H2 (e.trans e2) r) q⟩
 ·exact⟨f,O,ss,S.ex e,ta.mono (λk q v H2 e2 r=>q v H2 (e.trans e2) r) q⟩) q⟩
def gW:TAd:=⟨λ_ Q=>Q [],λh q=>h _ q⟩
def gU(a:TEd)(r:TAd):TAd:=⟨λss Q=>a.run ss λd=>r.run ss λds=>Q (d::ds),λh q=>a.mono (λd q=>r.mono (λds q=>h _ q) q) q⟩
theorem gW.ok:PA X [] (LA X.K gW):=pa_nil.weak λσ H Q ⟨f,O,ss,S,q⟩=>q [] H (Ex.refl S.fl) rfl
theorem gU.ok(ha:PE X a (LE X.K ta))(hr:PA X es (LA X.K t))(hs:starEach (a::es) X.env=(false,eval a X.env)::starEach es X.env):PA X (a::es) (LA X.K (gU ta t)):=(qC ha hr hs).weak λσ H Q ⟨f,O,ss,S,q⟩ =>
 ⟨f,O,ss,S,ta.mono (λd q v H1 e r=>⟨f,O,ss,S.ex e,t.mono (λds q vs H2 e2 r2=>q (v::vs) H2 (e.trans e2) ⟨v,vs,rfl,(S.ex e).up e2 r,r2⟩) q⟩) q⟩
def ic(t:TAd):TEd:=⟨λss Q=>t.run ss λds=>ds.length<=sizeLine/\Q (.tup ds),λh q=>t.mono (λds q=>⟨q.1,h _ q.2⟩) q⟩
def ip(t:TAd):TEd:=⟨λss Q=>t.run ss λds=>ds.length<=sizeLine/\Q (.lst ds),λh q=>t.mono (λds q=>⟨q.1,h _ q.2⟩) q⟩
theorem ic.ok(h:PA X es (LA X.K t)):PE X (.Tuple es k pos) (LE X.K (ic t)):=(zo h).weak λσ H Q ⟨f,O,ss,S,q⟩ =>
 ⟨f,O,ss,S,t.mono (λds q vs H1 e r=>⟨by rw[r.len];exact q.1,λp hp=>q.2 _ _ (e.trans ((S.ex e).new hp _)) ((S.ex e).tup hp r)⟩) q⟩
theorem ip.ok(h:PA X es (LA X.K t)):PE X (.List es pos) (LE X.K (ip t)):=(xz h).weak λσ H Q ⟨f,O,ss,S,q⟩ =>
 ⟨f,O,ss,S,t.mono (λds q vs H1 e r=>⟨by rw[r.len];exact q.1,λp hp=>q.2 _ _ (e.trans ((S.ex e).new hp _)) ((S.ex e).lst hp r)⟩) q⟩
def itD(l:List D)(i:Int)(Q:D->Prop):Prop:=match vq l i with|some d=>Q d|none=>False
theorem itD.mono(h:∀ d,Q d->Q' d):itD l i Q->itD l i Q':=by
 unfold itD;split
 ·exact h _
 ·exact id
theorem itD.rp(r:Rps K f O H l xs)(q:itD l i Q):∃ v d,vq xs i=some v/\Rp K f O H d v/\Q d:=by
 unfold itD at q;split at q
 ·rename_i d e;unfold vq at e ⊢;rw[r.len];cases h:yy l.length i with
  | none=>rw[h] at e;cases e
  | some j =>
   rw[h] at e;obtain⟨v,h1,h2⟩:=r.get (show l[j]? = some d from e);exact⟨v,d,h1,h2,q⟩
 ·exact q.elim
def oIx:OD
 | .lst l,.int i,Q=>itD l i Q
 | .tup l,.int i,Q=>itD l i Q
 | .str z,.int i,Q=>z.length<=sizeLine/\∃ c,vq z.cps.toList i=some c/\Q (.str ⟨#[c]⟩)
 | .dct ks l,.int i,Q=>∃(j:Nat) (d:D),ks[j]? = some (Sum.inl i)/\l[j]? = some d/\Q d
 | .dct ks l,.str x,Q=>∃(j:Nat) (d:D),ks[j]? = some (Sum.inr x)/\l[j]? = some d/\Q d
 | _,_,_=>False
theorem oIx.mono:∀{x y Q Q'},(∀ d,Q d->Q' d)->oIx x y Q->oIx x y Q':=by
 intro x y Q Q' h;cases x <;> cases y <;> intro q <;> first|exact itD.mono h q|exact q|skip
 ·obtain⟨q0,c,q1,q2⟩:=q;exact⟨q0,c,q1,h _ q2⟩
 ·obtain⟨j,d,q0,q1,q2⟩:=q;exact⟨j,d,q0,q1,h _ q2⟩
 ·obtain⟨j,d,q0,q1,q2⟩:=q;exact⟨j,d,q0,q1,h _ q2⟩
def Jo(K:Frag):R2:=λx y H Q=>Ks K x y H Q\/Jr x y H Q
theorem Dm:IxR X (Jo X.K):=ix_seq.or Fn
theorem DI{ks:List vw}{l:List D}{us:List V}{j:Nat}{k:vw}{d:D}(h1:ks[j]? = some k)(h2:l[j]? = some d)(r:Rps K f O H l us):∃ v,(k,v)∈ks.zip us/\Rp K f O H d v:=by
 obtain⟨v,hv,rv⟩:=r.get h2;exact⟨v,aP (i:=j) (by rw[List.getElem?_zip_eq_some];exact⟨h1,hv⟩),rv⟩
theorem FY:RD X.K (Jo X.K) oIx:=by
 intro f O σ ss H dx dy x y Q R rx ry h;cases dx <;> cases dy <;> first|(exact False.elim h)|skip
 ·rename_i z i;cases rx;cases ry;obtain⟨q0,c,q1,q2⟩:=h;exact .inl (.inr (.inr ⟨z,i,c,rfl,rfl,q0,q1,q2 _ H (Ex.refl R.fl) rfl⟩))
 ·rename_i l i;obtain⟨p,xs,rfl,h1,h2⟩:=rx;cases ry;obtain⟨v,d,e,r,q⟩:=itD.rp h2 h;exact .inl (.inr (.inl ⟨p,xs,i,v,rfl,rfl,h1,e,q v H (Ex.refl R.fl) r⟩))
 ·rename_i l i;obtain⟨p,xs,rfl,_,h1,h2⟩:=rx;cases ry;obtain⟨v,d,e,r,q⟩:=itD.rp h2 h;exact .inl (.inl ⟨p,xs,i,v,rfl,rfl,SqL.of h1,e,q v H (Ex.refl R.fl) r⟩)
 ·rename_i ks l i;obtain⟨p,us,rfl,h1,h2,h3⟩:=rx;cases ry;obtain⟨j,d,e1,e2,q⟩:=h;obtain⟨v,hm,rv⟩:=DI e1 e2 h3;exact .inr ⟨p,_,.inl i,v,rfl,rfl,h1,hm,q v H (Ex.refl R.fl) rv⟩
 ·rename_i ks l x;obtain⟨p,us,rfl,h1,h2,h3⟩:=rx;cases ry;obtain⟨j,d,e1,e2,q⟩:=h;obtain⟨v,hm,rv⟩:=DI e1 e2 h3;exact .inr ⟨p,_,.inr x,v,rfl,rfl,h1,hm,q v H (Ex.refl R.fl) rv⟩
def dIx(a b:TEd):TEd:=d2 oIx oIx.mono a b
theorem dIx.ok(ha:PE X a (LE X.K ta))(hb:PE X b (LE X.K tb))(hs:vv b):PE X (.Subscript a b pos) (LE X.K (dIx ta tb)):=d2.ok FY (rJ Dm ha hb hs)
def itI(l:List D)(y:D)(Q:D->Prop):Prop:=match y with | .int j=>itD l j Q|_=>False
theorem itI.mono(h:∀ d,Q d->Q' d):itI l y Q->itI l y Q':=by
 cases y <;> first|exact id|exact itD.mono h
def jm(i:Nat)(b:TEd):TEd:=⟨λss Q=>match ss[i]? with|some (.val d)=>b.run ss λy=>oIx d y Q|some (.own l)=>b.run ss λy=>itI l y Q|_=>False,λ{ss Q Q'} h q=>by
 revert q;split
 ·exact b.mono λy=>oIx.mono h
 ·exact b.mono λy=>itI.mono h
 ·exact id⟩
theorem jm.ok(ha:PE X a (sB i))(hb:PE X b (LE X.K tb))(hs:vv b):PE X (.Subscript a b pos) (LE X.K (jm i tb)):=(rJ (pos:=pos) Dm ha hb hs).weak λσ H Q ⟨f,O,ss,R,q⟩=>by
 have q:(match ss[i]? with|some (.val d)=>tb.run ss λy=>oIx d y (λd=>∀ v H',Ex f H H'->Rp X.K f O H' d v->Q v H')|some (.own l)=>tb.run ss λy=>itI l y (λd=>∀ v H',Ex f H H'->Rp X.K f O H' d v->Q v H')|_=>False):=q;split at q
 ·rename_i d e;obtain⟨v,h1,h2⟩:=R.val i d e;refine⟨v,h1,f,O,ss,R,tb.mono (λdy q y H1 e1 r1=>?_) q⟩;exact FY f O σ ss H1 d dy v y Q (R.ex e1) (R.up e1 h2) r1 (oIx.mono (λd q v H' e r=>q v H' (e1.trans e) r) q)
 ·rename_i l e;obtain⟨p,xs,h1,h2,h3,h4,h5⟩:=R.own i l e;refine⟨_,h1,f,O,ss,R,tb.mono (λdy q y H1 e1 r1=>?_) q⟩;cases dy <;> first|exact False.elim q|skip
  cases r1;obtain⟨v,d,e,r,q⟩:=itD.rp (R.ups e1 h5) q;exact .inl (.inl ⟨p,xs,_,v,rfl,rfl,SqL.of (e1.sm.app p _ h3 h4),e,q v H1 e1 r⟩)
 ·exact q.elim
def uU{α:Type}(xs:List α)(lo hi:Option Int):List α:=(xs.drop (HT.rC xs.length 0 lo)).take (HT.rC xs.length xs.length hi-HT.rC xs.length 0 lo)
theorem Rps.cut(r:Rps K f O H ds xs)(lo hi:Option Int):Rps K f O H (uU ds lo hi) (yK xs lo hi):=by
 unfold uU yK;rw[r.len];exact (r.drop _).take _
def dNo:TOd:=⟨λ_ Q=>Q none,λh q=>h _ q⟩
def mY(t:TEd):TOd:=⟨λss Q=>t.run ss λd=>match d with | .int i=>Q (some i)|_=>False,λ{ss Q Q'} h q=>t.mono (λd q=>by
 revert q;cases d <;> first|exact h _|exact id) q⟩
theorem dNo.ok:PO X none (LO X.K dNo):=po_none.weak λσ H Q ⟨f,O,ss,S,q⟩=>q H (Ex.refl S.fl)
theorem mY.ok(ha:PE X a (LE X.K ta)):PO X (some a) (LO X.K (mY ta)):=(vh ha).weak λσ H Q ⟨f,O,ss,S,q⟩=>⟨f,O,ss,S,ta.mono (λd q v H1 e r=>by
 cases d <;> first|exact False.elim q|skip
 cases r;exact⟨_,rfl,q H1 e⟩) q⟩
def slD(d:D)(lo hi:Option Int)(Q:D->Prop):Prop:=match d with
 | .lst l=>Q (.lst (uU l lo hi))
 | .tup l=>True/\Q (.tup (uU l lo hi))
 | _=>False
theorem slD.mono(h:∀ d,Q d->Q' d):slD d lo hi Q->slD d lo hi Q':=by
 cases d <;> intro q <;> first|exact h _ q|exact⟨q.1,h _ q.2⟩|exact q
theorem Cq:SlR X (λx lo hi H Q=>∃ a xs,x = .ref a/\SqT X.K H a xs/\(HT.rC xs.length 0 lo=0/\HT.rC xs.length xs.length hi=xs.length)/\Q (.ref a) H):=by
 intro pins s σ H x v vl vu lo hi sl Q I rx hs pl pu h;obtain⟨a,xs,e,hx,hw,q⟩:=h;subst e;cases rx;obtain⟨its,r,ht,hz⟩:=I.tuple hx;have hlen:its.toArray.size=xs.length:=by rw[aj];exact r.length.symm
 exact⟨"tuple",_,PyProof.Rows.slot_tuple_getitem.lookup,ht.typeIs,HT.tP ht hs pl pu (by rw[hlen];exact hw) ⟨.ref a,H,I,rfl,q⟩⟩
def dSl(a:TEd)(l u:TOd):TEd:=⟨λss Q=>a.run ss λd=>l.run ss λlo=>u.run ss λhi=>slD d lo hi Q,λh q=>a.mono (λd q=>l.mono (λlo q=>u.mono (λhi q=>slD.mono h q) q) q) q⟩
theorem dSl.ok(ha:PE X a (LE X.K ta))(hl:PO X lo (LO X.K tl))(hu:PO X hi (LO X.K tu)):PE X (.Subscript a (.Slice lo hi none p2) pos) (LE X.K (dSl ta tl tu)):=by
 refine (CT (pos:=pos) (p2:=p2) (sl_list.or (sl_tup.or Cq)) ha hl hu).weak λσ H Q ⟨f,O,ss,S,q⟩=>?_;refine⟨f,O,ss,S,ta.mono (λd q v H1 e1 r=>?_) q⟩;have S1:=S.ex e1;refine⟨f,O,ss,S1,tl.mono (λlo q H2 e2=>?_) q⟩;have S2:=S1.ex e2;refine⟨f,O,ss,S2,tu.mono (λhi q H3 e3=>?_) q⟩;have S3:=S2.ex e3;have r:=S2.up e3 (S1.up e2 r);cases d <;> first|exact False.elim q|skip
 ·have r':=r;obtain⟨p,xs,rfl,h1,h2⟩:=r;by_cases hw:HT.rC xs.length 0 lo=0/\HT.rC xs.length xs.length hi=xs.length
  ·refine .inr (.inr ⟨p,xs,rfl,h1,hw,q.2 _ _ (e1.trans (e2.trans e3)) ?_⟩);unfold uU;rw[← h2.len,hw.1,hw.2,fJ,bD,h2.len,cL];exact r'
  ·exact .inr (.inl ⟨p,xs,rfl,h1,hw,λp hp=>q.2 _ _ (e1.trans (e2.trans (e3.trans (S3.new hp _)))) (S3.tup hp (h2.cut _ _))⟩)
 ·rename_i l;obtain⟨p,xs,rfl,_,h1,h2⟩:=r;exact .inl ⟨p,xs,rfl,SqL.of h1,λp hp=>q _ _ (e1.trans (e2.trans (e3.trans (S3.new hp _)))) (S3.lst hp (h2.cut _ _))⟩
def pC(a:TEd):TEd:=⟨λss Q=>a.run ss λd=>match d with | .lst l=>Q (.lst l.reverse)|_=>False,λ{ss Q Q'} h q=>a.mono (λd q=>by
 revert q;cases d <;> first|exact h _|exact id) q⟩
theorem pC.ok{j k:Nat}{p1 p2 p3:Pos}(ha:PE X a (LE X.K ta)):PE X (.Subscript a (.Slice none none (some (.UnaryOp .USub (.Constant (.int 1) j p1) p3)) p2) pos) (LE X.K (pC ta)):=by
 refine (wE (pos:=pos) (p2:=p2) (KW X.K) ha po_none po_none (vh (F5 (pos:=p3) Ce (qI (j:=j) (pos:=p1))))).weak λσ H Q ⟨f,O,ss,S,q⟩=>?_;refine⟨f,O,ss,S,ta.mono (λd q v H1 e1 r=>?_) q⟩;have S1:=S.ex e1;cases d <;> first|exact False.elim q|skip
 rename_i l;obtain⟨p,xs,rfl,_,h1,h2⟩:=r;exact⟨_,rfl,_,rfl,rfl,rfl,rfl,p,xs,rfl,SqL.of h1,λp hp=>q _ _ (e1.trans (S1.new hp _)) (S1.lst hp h2.reverse)⟩
abbrev BD:=List D->(D->Prop)->Prop
def dB(o:BD)(m:∀{ds Q Q'},(∀ d,Q d->Q' d)->o ds Q->o ds Q')(t:TAd):TEd:=⟨λss Q=>t.run ss λds=>o ds Q,λh q=>t.mono (λds q=>m h q) q⟩
def RC(K:Frag)(r:List V->Hp->VK->Prop)(o:BD):Prop:=∀(f:Addr) (O:List Addr) (σ:St) (ss:SS) (H:Hp) (ds:List D) (vs:List V) (Q:VK),SlD K f O σ H ss->Rps K f O H ds vs->o ds (λd=>∀ v H',Ex f H H'->Rp K f O H' d v->Q v H')->r vs H Q
theorem dB.ok(hr:RC X.K r o)(h:PE X e (KR r (LA X.K t))):PE X e (LE X.K (dB o m t)):=h.weak λσ H Q ⟨f,O,ss,S,q⟩ =>
 ⟨f,O,ss,S,t.mono (λds q vs H1 e1 r1=>hr f O σ ss H1 ds vs Q (S.ex e1) r1 (m (λd q v H' e r=>q v H' (e1.trans e) r) q)) q⟩
def RB(X:Cx)(g:Value)(o:BD):Prop:=∃ r,CallR X g r/\RC X.K r o
theorem CallR.or2(h:CallR X g r)(h':CallR X g r'):CallR X g (λxs H Q=>r xs H Q\/r' xs H Q):=λpins s σ H xs us Q I rx q=>q.elim (h pins s σ H xs us Q I rx) (h' pins s σ H xs us Q I rx)
def bLen:BD
 | [.lst l],Q=>Q (.int l.length)
 | [.tup l],Q=>Q (.int l.length)
 | [.str z],Q=>z.length<=sizeLine/\Q (.int z.length)
 | _,_=>False
def bAbs:BD
 | [.int i],Q=>Q (.int (if i<0 then -i else i))
 | _,_=>False
def bMax:BD
 | [.int i,.int j],Q=>Q (.int (if j > i then j else i))
 | [.lst l],Q=>∃ ns:List Int,l=ns.map D.int/\ns≠[]/\∀ M,M∈ns->(∀ a∈ns,a<=M)->Q (.int M)
 | _,_=>False
def bMin:BD
 | [.int i,.int j],Q=>Q (.int (if j<i then j else i))
 | _,_=>False
def bInt:BD
 | [.int i],Q=>Q (.int i)
 | [.bl k],Q=>Q (.int (if k then 1 else 0))
 | _,_=>False
def bList:BD
 | [.lst l],Q=>Q (.lst l)
 | [.tup l],Q=>Q (.lst l)
 | _,_=>False
def bTuple:BD
 | [.lst l],Q=>Q (.tup l)
 | [.tup l],Q=>Q (.tup l)
 | _,_=>False
end Dp
set_option maxHeartbeats 1000000
set_option maxHeartbeats 1000000
set_option maxHeartbeats 1000000
namespace Dp
open PySem L2
variable{K:Frag}{f:Addr}{O O':List Addr}{H H':Hp}{X:Cx}{σ:St}{ss:SS}{a b c:Expr}{ta tb tc:TEd}{tA tB:TTd}{pos:Pos}
theorem Rps.one(h:Rps K f O H [d] vs):∃ v,vs=[v]/\Rp K f O H d v:=by
 obtain⟨v,r,e,h1,h2⟩:=h;cases (show r=[] from h2);exact⟨v,e,h1⟩
theorem Rps.two(h:Rps K f O H [d,d'] vs):∃ v v',vs=[v,v']/\Rp K f O H d v/\Rp K f O H d' v':=by
 obtain⟨v,r,e,h1,h2⟩:=h;obtain⟨w,e2,h3⟩:=Rps.one h2;subst e2;exact⟨v,w,e,h1,h3⟩
theorem bLen.mono:∀{ds Q Q'},(∀ d,Q d->Q' d)->bLen ds Q->bLen ds Q':=by
 intro ds Q Q' h;unfold bLen;split <;> first|exact h _|exact λq=>⟨q.1,h _ q.2⟩|exact id
theorem bAbs.mono:∀{ds Q Q'},(∀ d,Q d->Q' d)->bAbs ds Q->bAbs ds Q':=by
 intro ds Q Q' h;unfold bAbs;split <;> first|exact h _|exact id
theorem bMax.mono:∀{ds Q Q'},(∀ d,Q d->Q' d)->bMax ds Q->bMax ds Q':=by
 intro ds Q Q' h;unfold bMax;split <;> first|exact h _|exact fun⟨bs,e,n,q⟩=>⟨bs,e,n,λM m l=>h _ (q M m l)⟩|exact id
theorem bMin.mono:∀{ds Q Q'},(∀ d,Q d->Q' d)->bMin ds Q->bMin ds Q':=by
 intro ds Q Q' h;unfold bMin;split <;> first|exact h _|exact id
theorem bInt.mono:∀{ds Q Q'},(∀ d,Q d->Q' d)->bInt ds Q->bInt ds Q':=by
 intro ds Q Q' h;unfold bInt;split <;> first|exact h _|exact id
theorem bList.mono:∀{ds Q Q'},(∀ d,Q d->Q' d)->bList ds Q->bList ds Q':=by
 intro ds Q Q' h;unfold bList;split <;> first|exact h _|exact id
theorem bTuple.mono:∀{ds Q Q'},(∀ d,Q d->Q' d)->bTuple ds Q->bTuple ds Q':=by
 intro ds Q Q' h;unfold bTuple;split <;> first|exact h _|exact id
theorem CB:RB X (.builtin "len") bLen:=by
 refine⟨_,CallR.or2 (BG X.K) xT,λf O σ ss H ds vs Q S r h=>?_⟩;unfold bLen at h;split at h
 ·obtain⟨v,rfl,p,xs,rfl,_,h1,h2⟩:=Rps.one r;refine .inl ⟨p,xs,rfl,.inl (SqL.of h1),?_⟩;rw[h2.len];exact h _ H (Ex.refl S.fl) rfl
 ·obtain⟨v,rfl,p,xs,rfl,h1,h2⟩:=Rps.one r;refine .inl ⟨p,xs,rfl,.inr h1,?_⟩;rw[h2.len];exact h _ H (Ex.refl S.fl) rfl
 ·obtain⟨v,rfl,e⟩:=Rps.one r;cases e;exact .inr ⟨_,rfl,h.1,h.2 _ H (Ex.refl S.fl) rfl⟩
 ·exact h.elim
theorem Hi:RB X (.builtin "abs") bAbs:=by
 refine⟨_,D4,λf O σ ss H ds vs Q S r h=>?_⟩;unfold bAbs at h;split at h
 ·obtain⟨v,rfl,e⟩:=Rps.one r;cases e;exact⟨_,rfl,h _ H (Ex.refl S.fl) rfl⟩
 ·exact h.elim
theorem Hg(hc:X.calm=true):RB X (.builtin "max") bMax:=by
 refine⟨_,CallR.or2 (BZ hc) (Li X.K hc),λf O σ ss H ds vs Q S r h=>?_⟩;unfold bMax at h;split at h
 ·obtain⟨v,v',rfl,e1,e2⟩:=Rps.two r;cases e1;cases e2;exact .inl ⟨_,_,rfl,h _ H (Ex.refl S.fl) rfl⟩
 ·obtain⟨bs,rfl,n,h⟩:=h;obtain⟨v,rfl,p,xs,rfl,_,h1,h2⟩:=Rps.one r;cases h2.ints;exact .inr ⟨p,bs,rfl,SqL.of h1,n,λM m l=>h M m l _ H (Ex.refl S.fl) rfl⟩
 ·exact h.elim
theorem Hf(hc:X.calm=true):RB X (.builtin "min") bMin:=by
 refine⟨_,BY hc,λf O σ ss H ds vs Q S r h=>?_⟩;unfold bMin at h;split at h
 ·obtain⟨v,v',rfl,e1,e2⟩:=Rps.two r;cases e1;cases e2;exact⟨_,_,rfl,h _ H (Ex.refl S.fl) rfl⟩
 ·exact h.elim
theorem Hh:RB X (.type "int") bInt:=by
 refine⟨_,B4,λf O σ ss H ds vs Q S r h=>?_⟩;unfold bInt at h;split at h
 ·obtain⟨v,rfl,e⟩:=Rps.one r;cases e;exact .inl ⟨_,rfl,h _ H (Ex.refl S.fl) rfl⟩
 ·obtain⟨v,rfl,e⟩:=Rps.one r;cases e;exact .inr ⟨_,rfl,h _ H (Ex.refl S.fl) rfl⟩
 ·exact h.elim
theorem EC:RB X (.type "list") bList:=by
 refine⟨_,zL X.K,λf O σ ss H ds vs Q S r h=>?_⟩;unfold bList at h;split at h
 ·obtain⟨v,rfl,p,xs,rfl,_,h1,h2⟩:=Rps.one r;exact⟨p,xs,rfl,.inl (SqL.of h1),λl hl=>h _ _ (S.new hl _) (S.lst hl h2)⟩
 ·obtain⟨v,rfl,p,xs,rfl,h1,h2⟩:=Rps.one r;exact⟨p,xs,rfl,.inr h1,λl hl=>h _ _ (S.new hl _) (S.lst hl h2)⟩
 ·exact h.elim
theorem CA:RB X (.type "tuple") bTuple:=by
 refine⟨_,En X.K,λf O σ ss H ds vs Q S r h=>?_⟩;unfold bTuple at h;split at h
 ·obtain⟨v,rfl,p,xs,rfl,_,h1,h2⟩:=Rps.one r;exact⟨p,xs,rfl,.inl ⟨SqL.of h1,λl hl=>h _ _ (S.new hl _) (S.tup hl h2)⟩⟩
 ·obtain⟨v,rfl,p,xs,rfl,h1,h2⟩:=Rps.one r;exact⟨p,xs,rfl,.inr ⟨h1,h _ H (Ex.refl S.fl) ⟨p,xs,rfl,h1,h2⟩⟩⟩
 ·exact h.elim
def LZ(p:List Int×Int):D:=.tup [.tup (p.1.map .int),.int p.2]
theorem Hy(p:List Int×Int):(LZ p).pl=true:=by
 show (D.pls (p.1.map D.int) && true)=true;rw[D.pls_ints];rfl
theorem xD:∀(ps:List (List Int×Int)),D.pls (ps.map LZ)=true
 | []=>rfl
 | p::ps=>ak.mpr ⟨Hy p,xD ps⟩
structure BB where
 run:BD
 mono:∀{ds Q Q'},(∀ d,Q d->Q' d)->run ds Q->run ds Q'
inductive Ty where
 | int|bool|tuple|list|str
def Ty.nm:Ty->String
 | .int => "int" | .bool => "bool" | .tuple => "tuple" | .list => "list" | .str => "str"
def L7:Ty->D->Option Bool
 | _,.fl=>none
 | _,.exn _ _ _=>none
 | _,.dct _ _=>none
 | .int,.int _=>some true | .int,.bl _=>some true | .bool,.bl _=>some true | .tuple,.tup _=>some true | .list,.lst _=>some true | .str,.str _=>some true
 | _,_=>some false
def tyTab:List (Str×Ty):=[("int",.int),("bool",.bool),("tuple",.tuple),("list",.list),("str",.str)]
def yX(x:Str):Option Ty:=tyTab.lookup x
def nq(y:Ty)(t:TEd):TEd:=⟨λss Q=>t.run ss λd=>match L7 y d with|some b=>Q (.bl b)|none=>False,λ{ss Q Q'} h q=>t.mono (λd q=>by
 revert q;split
 ·exact h _
 ·exact id) q⟩
theorem A8(B:Bl X.mg)(h:yX x=some y):X.mg x=none/\x ≠ "__name__" /\ (x == ("__debug__" : Str))=false/\bootBuiltins x=some (.type y.nm):=by
 have m:=rD h;unfold tyTab at m;rcases ao.mp m with e|m
 ·cases e;exact⟨B.int,by decide,by decide,Ea⟩
 rcases ao.mp m with e|m
 ·cases e;exact⟨B.bool,by decide,by decide,xW⟩
 rcases ao.mp m with e|m
 ·cases e;exact⟨B.tuple,by decide,by decide,tz⟩
 rcases ao.mp m with e|m
 ·cases e;exact⟨B.list,by decide,by decide,sP⟩
 rcases ao.mp m with e|m
 ·cases e;exact⟨B.str,by decide,by decide,Ir⟩
 cases m
theorem Ic{y:Ty}{d:D}{v:V}{b:Bool}(h:L7 y d=some b)(r:Rp K f O H d v):∃ t,IF K H v t/\PySem.W.kitOne K t (.type y.nm)=some b:=by
 cases d;case non=>cases (show v=_ from r);cases y <;> cases h <;> exact⟨_,.inl .non,rfl⟩
 case bl=>cases (show v=_ from r);cases y <;> cases h <;> exact⟨_,.inl (.bl _),rfl⟩
 case int=>cases (show v=_ from r);cases y <;> cases h <;> exact⟨_,.inl (.int _),rfl⟩
 case str=>cases (show v=_ from r);cases y <;> cases h <;> exact⟨_,.inl (.str _),rfl⟩
 case tup =>
  obtain⟨a,xs,rfl,h1,h2⟩:=r;cases y <;> cases h <;> exact⟨_,.inr (.inl ⟨a,xs,rfl,h1,rfl⟩),rfl⟩
 case lst =>
  obtain⟨a,xs,rfl,_,h1,h2⟩:=r;cases y <;> cases h <;> exact⟨_,.inr (.inr ⟨a,xs,rfl,SqL.of h1,rfl⟩),rfl⟩
 case fl=>cases y <;> cases h
 case exn=>cases y <;> cases h
 case dct=>cases y <;> cases h
theorem nq.ok(B:Bl X.mg)(hy:yX x=some y)(hg:Gl X "isinstance")(hx:Gl X x)(ha:PE X a (LE X.K ta))(hs:∀ es,starEach (a::es) X.env=(false,eval a X.env)::starEach es X.env):PE X (.Call (.Name "isinstance" p) [a,.Name x p2] [] pos) (LE X.K (nq y ta)):=by
 obtain⟨h1,h2,h3,h4⟩:=A8 B hy;refine (qV (p:=p) (pos:=pos) (Ib X.K) hg B.isinstance qQ (qC ha (qC (r9 (v:=.ty y.nm) (pos:=p2) hx h1 h4 rfl h2 h3) pa_nil rfl) (hs _)) (by decide) (by decide) (hs _) rfl).weak λσ H Q ⟨f,O,ss,S,q⟩=>⟨f,O,ss,S,ta.mono (λd q v H1 e r=>?_) q⟩;revert q;split
 ·rename_i b eb;intro q;obtain⟨t,t1,t2⟩:=Ic eb r;exact⟨v,y.nm,t,b,rfl,t1,t2,q _ H1 e rfl⟩
 ·exact False.elim
def jg(i:Nat):TEd:=⟨λss Q=>match ss[i]? with|some (.val d)=>bLen [d] Q|some (.own l)=>Q (.int l.length)|_=>False,λ{ss Q Q'} h q=>by
 revert q;split
 ·exact bLen.mono h
 ·exact h _
 ·exact id⟩
theorem jg.ok(hg:Gl X "len")(hm:X.mg "len" = none)(ha:PE X a (sB i))(hs:starEach [a] X.env=[(false,eval a X.env)]):PE X (.Call (.Name "len" p) [a] [] pos) (LE X.K (jg i)):=by
 obtain⟨r,h1,h2⟩:=CB (X:=X);refine (qV (p:=p) (pos:=pos) (CallR.or2 h1 (BG X.K)) hg hm uW (qC ha pa_nil hs) (by decide) (by decide) hs rfl).weak λσ H Q ⟨f,O,ss,S,q⟩=>?_;have q:(match ss[i]? with|some (.val d)=>bLen [d] (λd=>∀ v H',Ex f H H'->Rp X.K f O H' d v->Q v H')|some (.own l)=>(∀ v H',Ex f H H'->Rp X.K f O H' (.int l.length) v->Q v H')|_=>False):=q;split at q
 ·rename_i d e;obtain⟨v,w1,w2⟩:=S.val i d e;exact⟨v,w1,.inl (h2 f O σ ss H [d] [v] Q S ⟨v,[],rfl,w2,rfl⟩ q)⟩
 ·rename_i l e;obtain⟨p0,xs,w1,w2,w3,w4,w5⟩:=S.own i l e;refine⟨_,w1,.inr ⟨p0,xs,rfl,.inl (SqL.of w4),?_⟩⟩;rw[w5.len];exact q _ H (Ex.refl S.fl) rfl
 ·exact q.elim
structure SpB where
 n:Nat
 run:LJ
 mono:∀{ds Q Q'},(∀ d,Q d->Q' d)->run ds Q->run ds Q'
def SpB.of(n:Nat){α:Type}(pre:α->List D->Prop)(post:α->D->Prop):SpB:=⟨n,λds Q=>∃ x,pre x ds/\∀ d,post x d->Q d,λh ⟨x,p,q⟩=>⟨x,p,λd r=>h _ (q d r)⟩⟩
def gX(s:SpB)(t:TAd):TEd:=⟨λss Q=>t.run ss λds=>ds.length=s.n/\s.run ds Q,λh q=>t.mono (λds q=>⟨q.1,s.mono h q.2⟩) q⟩
theorem gX.ok(h:PE X e (ye (v8 X.K s.n s.run) [] E0 (LA X.K t))):PE X e (LE X.K (gX s t)):=h.weak λσ H Q ⟨f,O,ss,S,q⟩ =>
 ⟨f,O,ss,S,t.mono (λds q vs H1 e1 r1=>by
  have S1:=S.ex e1;refine⟨by rw[ci,r1.len];exact q.1,f,O,ds,S1.fl,S1.fO,S1.al,S1.lO,by rw[ci];exact r1,?_⟩;exact s.mono (λd q v H' e r=>q v H' (e1.trans e) r) q.2) q⟩
end Dp
namespace Dp
open PySem L2
variable{K:Frag}{f:Addr}{O O':List Addr}{H H':Hp}{X:Cx}{σ:St}{ss:SS}{a b c:Expr}{ta tb tc:TEd}{tA tB:TTd}{pos:Pos}
mutual
theorem Rp.moved(e:∀ a∈O',a∈O\/H a=none)(k:Kp O H H')(hO:∀ b∈O,∃ xs,H b=some (.lst xs)):∀{d:D} {v:V},Rp K f O H d v->Rp K f O' H' d v
 | .non,_,h=>h
 | .bl _,_,h=>h
 | .int _,_,h=>h
 | .str _,_,h=>h
 | .fl,_,h=>h
 | .tup l,v,h=>by
  obtain⟨a,xs,e1,h1,h2⟩:=h;exact⟨a,xs,e1,h1.kp k hO,Rps.moved e k hO h2⟩
 | .lst l,v,h=>by
  obtain⟨a,xs,e1,n,h1,h2⟩:=h;refine⟨a,xs,e1,λz=>?_,k a _ n h1,Rps.moved e k hO h2⟩;rcases e a z with q|q
  ·exact n q
  ·rw[h1] at q;cases q
 | .exn C x l,v,h=>by
  obtain⟨a,us,e1,h1,h2⟩:=h;exact⟨a,us,e1,h1.kp k hO,Rps.moved e k hO h2⟩
 | .dct ks l,v,h=>by
  obtain⟨a,us,e1,h1,h2,h3⟩:=h;exact⟨a,us,e1,k a _ (λz=>by obtain⟨xs,q⟩:=hO a z;rw[q] at h1;cases h1) h1,h2,Rps.moved e k hO h3⟩
theorem Rps.moved(e:∀ a∈O',a∈O\/H a=none)(k:Kp O H H')(hO:∀ b∈O,∃ xs,H b=some (.lst xs)):∀{ds:List D} {vs:List V},Rps K f O H ds vs->Rps K f O' H' ds vs
 | [],_,h=>h
 | d::ds,_,h=>by
  obtain⟨v,r,e1,h1,h2⟩:=h;exact⟨v,r,e1,Rp.moved e k hO h1,Rps.moved e k hO h2⟩
end
structure ItD (K:Frag)(f:Addr)(O:List Addr)(J:It)(H1:Hp)(ds:List D):Prop where
 go:∀ H' i,Kp O H1 H'->i<ds.length->J.go i H'
 yld:∀ O' H' i x H'',(∀ a∈O',a∈O\/H1 a=none)->f∈O'->(∀ a∈O',∃ xs,H' a=some (.lst xs))->Kp O H1 H'->Fl H' f->i<ds.length->J.yld i H' x H''->∃ d,ds[i]? = some d/\Ex f H' H''/\Rp K f O' H'' d x
 stop:∀ H',Kp O H1 H'->J.stop ds.length H'
def LI(K:Frag)(t:TAd):TI:=λσ H R=>∃ f O ss,SlD K f O σ H ss/\t.run ss λds=>∀ J H1,Ex f H H1->ItD K f O J H1 ds->R J H1
theorem _root_.L2.PI.weak(h:PI X tg e t)(w:∀ σ H Q,t' σ H Q->t σ H Q):PI X tg e t':=λpins s σ H Q I q=>h pins s σ H Q I (w σ H Q q)
def itemsD:D->(List D->Prop)->Prop
 | .lst l,Q=>Q l
 | .tup l,Q=>Q l
 | _,_=>False
theorem itemsD.mono(h:∀ d,Q d->Q' d):itemsD d Q->itemsD d Q':=by
 cases d <;> first|exact h _|exact id
def iQ(t:TEd):TAd:=⟨λss Q=>t.run ss λd=>itemsD d Q,λh q=>t.mono (λd q=>itemsD.mono h q) q⟩
theorem iQ.ok(h:PE X a (LE X.K ta)):PI X tg a (LI X.K (iQ ta)):=(MC X.K h).weak λσ H R ⟨f,O,ss,S,q⟩=>⟨f,O,ss,S,ta.mono (λd q v H1 e r=>by
 have S1:=S.ex e;cases d <;> first|exact False.elim q|skip
 ·rename_i l;obtain⟨p,xs,rfl,h1,h2⟩:=r;refine⟨p,rfl,.inr ⟨⟨xs,h1⟩,q _ H1 e ⟨λH' i k hi=>?_,λO' H' i x H'' hO hf al k F hi y=>?_,λH' k=>?_⟩⟩⟩
  ·obtain⟨v,hv,_⟩:=h2.get (show l[i]? = some l[i] by simp[hi]);exact⟨xs,v,h1.kp k S1.al,hv⟩
  ·obtain⟨rfl,y⟩:=y;obtain⟨v,hv,r⟩:=h2.get (show l[i]? = some l[i] by simp[hi]);have:=y xs (h1.kp k S1.al);rw[hv] at this;cases this;exact⟨l[i],by simp[hi],Ex.refl F,r.moved hO k S1.al⟩
  ·exact⟨xs,h1.kp k S1.al,by rw[h2.len];exact af _⟩
 ·rename_i l;obtain⟨p,xs,rfl,n,h1,h2⟩:=r;refine⟨p,rfl,.inl ⟨⟨xs,SqL.of h1⟩,q _ H1 e ⟨λH' i k hi=>?_,λO' H' i x H'' hO hf al k F hi y=>?_,λH' k=>?_⟩⟩⟩
  ·obtain⟨v,hv,_⟩:=h2.get (show l[i]? = some l[i] by simp[hi]);exact⟨xs,v,SqL.of (k p _ n h1),hv⟩
  ·obtain⟨rfl,y⟩:=y;obtain⟨v,hv,r⟩:=h2.get (show l[i]? = some l[i] by simp[hi]);have:=y xs (SqL.of (k p _ n h1));rw[hv] at this;cases this;exact⟨l[i],by simp[hi],Ex.refl F,r.moved hO k S1.al⟩
  ·exact⟨xs,SqL.of (k p _ n h1),by rw[h2.len];exact af _⟩) q⟩
def uE(lo:Int)(n:Nat):List D:=(List.range n).map λi=>.int (lo+(i:Nat))
theorem qU:(uE lo n).length=n:=by simp[uE]
theorem ya(h:i<n):(uE lo n)[i]? = some (.int (lo+(i:Nat))):=by simp[uE,h]
theorem rS(h:(uE lo n)[i]? = some d):i<n/\d = .int (lo+(i:Nat)):=by
 have:=(ai.mp h).1;rw[qU] at this;rw[ya this] at h;exact⟨this,(Option.some.inj h).symm⟩
theorem AQ:ItD K f O (IS lo n) H1 (uE lo n):=by
 refine⟨λH' i k hi=>?_,λO' H' i x H'' hO hf al k F hi y=>?_,λH' k=>?_⟩
 ·rw[qU] at hi;exact hi
 ·obtain⟨rfl,rfl⟩:=y;rw[qU] at hi;exact⟨_,ya hi,Ex.refl F,rfl⟩
 ·rw[qU];exact af _
def rngD:D->(List D->Prop)->Prop
 | .int j,Q => -(2^62)<=j/\j<2^62/\Q (uE 0 j.toNat)
 | _,_=>False
theorem rngD.mono(h:∀ d,Q d->Q' d):rngD d Q->rngD d Q':=by
 cases d <;> first|exact λq=>⟨q.1,q.2.1,h _ q.2.2⟩|exact id
def rngD2:D->D->(List D->Prop)->Prop
 | .int i,.int j,Q=>(-(2^62)<=i/\i<2^62 /\ -(2^62)<=j/\j<2^62)/\Q (uE i (j-i).toNat)
 | _,_,_=>False
theorem rngD2.mono(h:∀ d,Q d->Q' d):rngD2 d d' Q->rngD2 d d' Q':=by
 cases d <;> cases d' <;> first|exact λq=>⟨q.1,h _ q.2⟩|exact id
def jt(t:TEd):TAd:=⟨λss Q=>t.run ss λd=>rngD d Q,λh q=>t.mono (λd q=>rngD.mono h q) q⟩
def kO(t u:TEd):TAd:=⟨λss Q=>t.run ss λd=>u.run ss λd'=>rngD2 d d' Q,λh q=>t.mono (λd q=>u.mono (λd' q=>rngD2.mono h q) q) q⟩
theorem jt.ok(hg:Gl X "range")(hm:X.mg "range" = none)(ha:PE X a (LE X.K ta))(hs:starEach [a] X.env=[(false,eval a X.env)]):PI X tg (.Call (.Name "range" p) [a] [] pos) (LI X.K (jt ta)) :=
 (wC (p:=p) (pos:=pos) hg hm (qC ha pa_nil hs) hs).weak λσ H R ⟨f,O,ss,S,q⟩=>⟨f,O,ss,S,ta.mono (λd q v H1 e r=>by
  cases d <;> first|exact False.elim q|skip
  cases (show v=_ from r);exact⟨_,rfl,q.1,q.2.1,q.2.2 _ H1 e AQ⟩) q⟩
theorem kO.ok(hg:Gl X "range")(hm:X.mg "range" = none)(ha:PE X a (LE X.K ta))(hb:PE X b (LE X.K tb))(hs:starEach [a,b] X.env=[(false,eval a X.env),(false,eval b X.env)])(hs2:starEach [b] X.env=[(false,eval b X.env)]):PI X tg (.Call (.Name "range" p) [a,b] [] pos) (LI X.K (kO ta tb)) :=
 (Bn (p:=p) (pos:=pos) hg hm (qC ha (qC hb pa_nil hs2) (by rw[hs,hs2])) hs hs2).weak λσ H R ⟨f,O,ss,S,q⟩=>⟨f,O,ss,S,ta.mono (λd q v H1 e r=>⟨f,O,ss,S.ex e,tb.mono (λd' q v' H2 e2 r'=>by
  cases d <;> cases d' <;> first|exact False.elim q|skip
  cases (show v=_ from r);cases (show v'=_ from r');exact⟨_,_,rfl,q.1,q.2 _ H2 (e.trans e2) AQ⟩) q⟩) q⟩
def Sub(σ:St)(ss:SS)(σ':St)(ss':SS):Prop:=∀(i:Nat) (l:List D),ss'[i]? = some (SD.own l)->ss[i]? = some (SD.own l)/\σ'[i]? = σ[i]?
theorem Sub.refl:Sub σ ss σ ss:=λ_ _ h=>⟨h,rfl⟩
theorem Sub.trans(h:Sub σ ss σ1 s1)(k:Sub σ1 s1 σ2 s2):Sub σ ss σ2 s2:=λi l q=>by
 obtain⟨q1,e1⟩:=k i l q;obtain⟨q2,e2⟩:=h i l q1;exact⟨q2,e1.trans e2⟩
def Agr(T:List Nat)(σ σ':St):Prop:=σ'.length=σ.length/\∀ j,j ∉ T->σ'[j]? = σ[j]?
theorem Agr.refl:Agr T σ σ:=⟨rfl,λ_ _=>rfl⟩
theorem Agr.set(h:i∈T):Agr T σ (σ.set i v):=⟨bz,λj n=>aH (by rintro rfl;exact n h)⟩
theorem Agr.trans(a:Agr T σ σ1)(b:Agr T σ1 σ2):Agr T σ σ2:=⟨b.1.trans a.1,λj n=>(b.2 j n).trans (a.2 j n)⟩
def LG(K:Frag)(t:TGd):TG:=λv σ H Q=>∃ f O ss d,SlD K f O σ H ss/\Rp K f O H d v/\t.run d ss λss'=>∀ σ' H',Ex f H H'->SlD K f O σ' H' ss'->Sub σ ss σ' ss'->Agr t.tg σ σ'->Q σ' H'
theorem SlD.set(S:SlD K f O σ H ss)(r:Rp K f O H d v):SlD K f O (σ.set i (some v)) H (ss.set i (.val d)) where
 fl:=S.fl
 fO:=S.fO
 al:=S.al
 lO:=S.lO
 len:=by rw[bz,bz,S.len]
 val:=λj d' h=>by
  by_cases z:i=j
  ·subst z;rw[aQ] at h;rw[if_pos rfl] at h;split at h
   ·cases h;rename_i l;exact⟨v,by rw[aQ,if_pos rfl,if_pos (by rw[← S.len];exact l)],r⟩
   ·cases h
  ·rw[aH z] at h ⊢;exact S.val j d' h
 own:=λj l h=>by
  by_cases z:i=j
  ·subst z;rw[aQ] at h;rw[if_pos rfl] at h;split at h <;> cases h
  ·rw[aH z] at h ⊢;exact S.own j l h
theorem Sub.set:Sub σ ss (σ.set i v) (ss.set i (.val d)):=λj l h=>by
 by_cases z:i=j
 ·subst z;rw[aQ] at h;rw[if_pos rfl] at h;split at h <;> cases h
 ·rw[aH z] at h ⊢;exact⟨h,rfl⟩
def gNm(i:Nat):TGd:=⟨[i],λd ss Q=>Q (ss.set i (.val d)),λh q=>h _ q⟩
theorem _root_.L2.PG.weak(h:PG X e t)(w:∀ v σ H Q,t' v σ H Q->t v σ H Q):PG X e t':=λpins s σ H v u Q I r q=>h pins s σ H v u Q I r (w _ σ H Q q)
end Dp
namespace Dp
open PySem L2
variable{K:Frag}{f:Addr}{O O':List Addr}{H H':Hp}{X:Cx}{σ:St}{ss:SS}{a b c:Expr}{ta tb tc:TEd}{tA tB:TTd}{pos:Pos}
theorem gNm.ok{i:Nat}{e:Expr}(h:PG X e (wU i)):PG X e (LG X.K (gNm i)):=h.weak λv σ H Q ⟨f,O,ss,d,S,r,q⟩=>q _ H (Ex.refl S.fl) (S.set r) Sub.set (Agr.set aF)
def uI(ss:SS):List Nat->List D->SS
 | i::is,d::ds=>uI (ss.set i (.val d)) is ds
 | _,_=>ss
def gsAll:List Nat->Ek
 | []=>JY
 | i::is=>Gp (wU i) (gsAll is)
def tJ(σ:St):List Nat->List V->St
 | i::is,v::vs=>tJ (σ.set i (some v)) is vs
 | _,_=>σ
theorem gsAll.run:∀{is:List Nat} {vs:List V} {σ:St},vs.length=is.length->Q (tJ σ is vs) H->gsAll is vs σ H Q
 | [],[],σ,_,q=>⟨rfl,q⟩
 | [],_::_,_,l,_=>by cases l
 | _::_,[],_,l,_=>by cases l
 | i::is,v::vs,σ,l,q=>⟨v,vs,rfl,gsAll.run (by simpa using l) q⟩
theorem SlD.all:∀{is:List Nat} {vs:List V} {ds:List D} {σ:St} {ss:SS},SlD K f O σ H ss->Rps K f O H ds vs->SlD K f O (tJ σ is vs) H (uI ss is ds)
 | [],_,_,_,_,S,_=>S
 | i::is,[],[],_,_,S,_=>S
 | i::is,vs,[],_,_,S,r=>by cases (show vs=[] from r);exact S
 | i::is,vs,d::ds,σ,ss,S,r=>by
  obtain⟨v,r',e,h1,h2⟩:=r;subst e;show SlD K f O (tJ (σ.set i (some v)) is r') H (uI (ss.set i (.val d)) is ds);exact SlD.all (S.set h1) h2
theorem Sub.all:∀{is:List Nat} {vs:List V} {ds:List D} {σ:St} {ss:SS},vs.length=ds.length->Sub σ ss (tJ σ is vs) (uI ss is ds)
 | [],_,_,_,_,_=>Sub.refl
 | i::is,[],[],_,_,_=>Sub.refl
 | i::is,_::_,[],_,_,l=>by cases l
 | i::is,[],_::_,_,_,l=>by cases l
 | i::is,v::vs,d::ds,σ,ss,l=>Sub.trans Sub.set (Sub.all (by simpa using l))
theorem Agr.all:∀{is T:List Nat} {vs:List V} {σ:St},(∀ i∈is,i∈T)->Agr T σ (tJ σ is vs)
 | [],_,_,_,_=>Agr.refl
 | _::_,_,[],_,_=>Agr.refl
 | i::is,T,v::vs,σ,h=>Agr.trans (Agr.set (h i aF)) (Agr.all λj hj=>h j (az _ hj))
def gTp(is:List Nat):TGd:=⟨is,λd ss Q=>match d with | .tup l=>l.length=is.length/\Q (uI ss is l)|_=>False,λ{d ss Q Q'} h q=>by
 revert q;cases d <;> first|exact id|exact λq=>⟨q.1,h _ q.2⟩⟩
theorem gTp.ok{is:List Nat}{e:Expr}(h:PG X e (Ig X.K is.length (gsAll is))):PG X e (LG X.K (gTp is)):=h.weak λv σ H Q ⟨f,O,ss,d,S,r,q⟩=>by
 cases d <;> first|exact False.elim q|skip
 rename_i l;obtain⟨p,xs,rfl,h1,h2⟩:=r;exact⟨p,xs,rfl,h1,h2.len.trans q.1,gsAll.run (h2.len.trans q.1) (q.2 _ H (Ex.refl S.fl) (S.all h2) (Sub.all h2.len) (Agr.all λ_ h=>h))⟩
def vS(l:List D):List D:=(List.range l.length).map λi=>.tup [.int ((i:Nat):Int),l.getD i .non]
theorem q8:(vS l).length=l.length:=by simp[vS]
theorem uS(h:i<l.length):(vS l)[i]? = some (.tup [.int ((i:Nat):Int),l.getD i .non]):=by simp[vS,h]
theorem wX{i:Nat}{d:D}(h:(vS l)[i]? = some d):∃ x,l[i]? = some x/\d = .tup [.int ((i:Nat):Int),x]:=by
 have hi:=(ai.mp h).1;rw[q8] at hi;rw[uS hi] at h;refine⟨l[i],by simp[hi],(Option.some.inj h).symm.trans ?_⟩;rw[ah,ar hi];rfl
def jU(t:TEd):TAd:=⟨λss Q=>t.run ss λd=>itemsD d λl=>Q (vS l),λh q=>t.mono (λd q=>itemsD.mono (λl q=>h _ q) q) q⟩
def kP(t:TEd):TAd:=⟨λss Q=>t.run ss λd=>itemsD d λl=>Q l.reverse,λh q=>t.mono (λd q=>itemsD.mono (λl q=>h _ q) q) q⟩
def rY(hide:List Nat)(ss:SS):SS:=hide.foldl (λs i=>s.set i .no) ss
theorem SlD.blank(S:SlD K f O σ H ss):SlD K f O (σ.set i o) H (ss.set i .no) where
 fl:=S.fl
 fO:=S.fO
 al:=S.al
 lO:=S.lO
 len:=by rw[bz,bz,S.len]
 val:=λj d' h=>by
  by_cases z:i=j
  ·subst z;rw[aQ] at h;rw[if_pos rfl] at h;split at h <;> cases h
  ·rw[aH z] at h ⊢;exact S.val j d' h
 own:=λj l h=>by
  by_cases z:i=j
  ·subst z;rw[aQ] at h;rw[if_pos rfl] at h;split at h <;> cases h
  ·rw[aH z] at h ⊢;exact S.own j l h
theorem SlD.hide:∀{hide:List Nat} {σ:St} {ss:SS},SlD K f O σ H ss->SlD K f O (uu hide σ) H (rY hide ss)
 | [],_,_,S=>S
 | i::r,σ,ss,S=>SlD.hide (hide:=r) (S.blank (i:=i) (o:=none))
theorem vR:∀{hide:List Nat} {ss:SS} {i:Nat},(i∈hide\/ss[i]? = some SD.no\/ss[i]? = none)->(rY hide ss)[i]? = some SD.no\/(rY hide ss)[i]? = none
 | [],ss,i,h=>by
  rcases h with h|h
  ·cases h
  ·exact h
 | j::r,ss,i,h=>by
  refine vR (hide:=r) (ss:=ss.set j .no) ?_;by_cases z:j=i
  ·subst z;right;rw[aQ,if_pos rfl];split
   ·exact .inl rfl
   ·exact .inr rfl
  ·rw[aH z];rcases h with h|h
   ·rcases ao.mp h with q|q
    ·exact absurd q.symm z
    ·exact .inl q
   ·exact .inr h
theorem SlD.agr{T:List Nat}{σ':St}(S:SlD K f O σ H ss)(h:Agr T σ σ')(hT:∀ i∈T,ss[i]? = some SD.no\/ss[i]? = none):SlD K f O σ' H ss where
 fl:=S.fl
 fO:=S.fO
 al:=S.al
 lO:=S.lO
 len:=S.len.trans h.1.symm
 val:=λj d q=>by
  rw[h.2 j λz=>?_]
  ·exact S.val j d q
  ·rcases hT j z with w|w <;> rw[w] at q <;> cases q
 own:=λj d q=>by
  rw[h.2 j λz=>?_]
  ·exact S.own j d q
  ·rcases hT j z with w|w <;> rw[w] at q <;> cases q
def ju:TTd:=⟨λ_ Q=>Q true,λh q=>h _ q⟩
def compD(ds:List D)(s0:SS)(g:TGd)(c:TTd)(e:TEd)(Q:D->Prop):Prop:=ds.length<=sizeLine/\∃ I:Nat->List D->Prop,I 0 [] /\
 (∀ i d ys,ds[i]? = some d->ys.length<=i->I i ys->g.run d s0 λs1=>c.run s1 λk=>if k=true then e.run s1 λy=>I (i+1) (ys++[y]) else I (i+1) ys)/\∀ ys,ys.length<=ds.length->I ds.length ys->Q (.lst ys)
theorem compD.mono{ds:List D}{s0:SS}{g:TGd}{c:TTd}{e:TEd}{Q Q':D->Prop}(h:∀ d,Q d->Q' d):compD ds s0 g c e Q->compD ds s0 g c e Q':=fun⟨l,I,q0,q1,q2⟩=>⟨l,I,q0,q1,λys l i=>h _ (q2 ys l i)⟩
def iI(it:TAd)(hide:List Nat)(g:TGd)(c:TTd)(e:TEd):TEd:=⟨λss Q=>it.run ss λds=>compD ds (rY hide ss) g c e Q,λh q=>it.mono (λds q=>compD.mono h q) q⟩
theorem compD.ok{J:It}{ds:List D}{hide:List Nat}{g:TGd}{c:TTd}{e:TEd}{Q:VK}{H1:Hp}(S:SlD K f O σ H1 ss)(hg:∀ i∈g.tg,i∈hide)(D0:ItD K f O J H1 ds)(h:compD ds (rY hide ss) g c e λd=>∀ v H',Ex f H1 H'->Rp K f O H' d v->Q v H') :
  A7 J (LG K g) (LT K c) (LE K e) (uu hide σ) Q H1:=by
 obtain⟨hl,I,q0,q1,q2⟩:=h;refine⟨λk m τ ys H=>∃ yd,SlD K f O τ H (rY hide ss)/\Rps K f O H yd ys/\yd.length<=k/\I k yd/\m=ds.length-k/\k<=ds.length/\Ex f H1 H,⟨_,[],S.hide,rfl,af _,q0,rfl,aC _,Ex.refl S.fl⟩,?_⟩;rintro k m τ ys H ⟨yd,S1,r1,l1,i1,rfl,k1,e1⟩;have kp:=e1.kp S.fO;rcases aD k ds.length with hk|hk
 ·refine .inr ⟨D0.go H k kp hk,by rw[r1.len];omega,λx H' y=>?_⟩;obtain⟨d,ed,e2,rd⟩:=D0.yld O H k x H' (λa z=>.inl z) S.fO S1.al kp S1.fl hk y;have S2:=S1.ex e2;refine⟨f,O,_,d,S2,rd,g.mono (λs1 q τ2 H2 e3 S3 _ ag=>?_) (q1 k d yd ed l1 i1)⟩;have S3':SlD K f O τ2 H2 (rY hide ss):=(S2.ex e3).agr ag λi hi=>vR (.inl (hg i hi));refine⟨f,O,s1,S3,c.mono (λb q H3 e4=>?_) q⟩;cases b with
  | true =>
   refine⟨f,O,s1,S3.ex e4,e.mono (λdy q v H4 e5 rv=>?_) q⟩;have e14:=e2.trans (e3.trans (e4.trans e5));exact⟨ds.length-(k+1),by omega,yd++[dy],(S3'.ex e4).ex e5,(S1.ups e14 r1).append ⟨v,[],rfl,rv,rfl⟩,by rw[am];simp;omega,q,rfl,hk,e1.trans e14⟩
  | false =>
   have e14:=e2.trans (e3.trans e4);exact⟨ds.length-(k+1),by omega,yd,S3'.ex e4,S1.ups e14 r1,by omega,q,rfl,hk,e1.trans e14⟩
 ·have ek:k=ds.length:=by omega
  subst ek;exact .inl ⟨D0.stop H kp,λp hp=>q2 yd l1 i1 _ _ (e1.trans (S1.new hp _)) (S1.lst hp r1)⟩
theorem iI.ok{scope:Scope}{hide:List Nat}{it:TAd}{g:TGd}{c:TTd}{e:TEd}{tg iter elt:Expr}{ifs:List Expr}(hc:X.calm=true)(Sc:CompS X.N X.env.scope scope hide)(hi:PI X tg iter (LI X.K it))
  (hg:∀ s2 H2 fp pins C,PG (sU X scope s2 H2 fp pins C) tg (LG X.K g)) (ht:∀ s2 H2 fp pins C,PTs (sU X scope s2 H2 fp pins C) ifs (LT X.K c)) (he:∀ s2 H2 fp pins C,PE (sU X scope s2 H2 fp pins C) elt (LE X.K e))
  (hs:∀ x,foldedSetIterable iter X.env x=pure x) (hh:∀ i∈g.tg,i∈hide):PE X (.ListComp elt [⟨tg,iter,ifs,0⟩] scope pos) (LE X.K (iI it hide g c e)) :=
 (xB (pos:=pos) hc Sc hi hg ht he hs).weak λσ H Q ⟨f,O,ss,S,q⟩=>⟨f,O,ss,S,it.mono (λds q J H1 e1 D0=>compD.ok (S.ex e1) hh D0 (compD.mono (λd q v H' e r=>q v H' (e1.trans e) r) q)) q⟩
end Dp
namespace Dp
open PySem L2
variable{K:Frag}{f:Addr}{O O':List Addr}{H H':Hp}{X:Cx}{σ:St}{ss:SS}{a b:Expr}{ta tb tc:TEd}{tA tB:TTd}{pos:Pos}
theorem jU.ok{es:List Expr}{kk:Nat}{ps p:Pos}(hg:Gl X "enumerate")(hm:X.mg "enumerate" = none)(ha:PE X a (LE X.K ta))(hs:starEach [a] X.env=[(false,eval a X.env)]):PI X (.Tuple es kk ps) (.Call (.Name "enumerate" p) [a] [] pos) (LI X.K (jU ta)) :=
 (EM (p:=p) (pos:=pos) X.K hg hm (qC ha pa_nil hs) rfl hs).weak λσ H R ⟨f,O,ss,S,q⟩=>⟨f,O,ss,S,ta.mono (λd q v H1 e r=>by
  have S1:=S.ex e;cases d <;> first|exact False.elim q|skip
  ·rename_i l;obtain⟨p,xs,rfl,h1,h2⟩:=r;refine⟨p,rfl,.inr ⟨⟨xs,h1⟩,q _ H1 e ⟨λH' i k hi=>?_,λO' H' i x H'' hO hf al k F hi y=>?_,λH' k=>?_⟩⟩⟩
   ·rw[q8] at hi;obtain⟨v,hv,_⟩:=h2.get (show l[i]? = some l[i] by simp[hi]);exact⟨xs,v,h1.kp k S1.al,hv⟩
   ·rw[q8] at hi;obtain⟨p',w,rfl,hp,rfl,y⟩:=y;obtain⟨v,hv,r⟩:=h2.get (show l[i]? = some l[i] by simp[hi]);have:=y xs (h1.kp k S1.al);rw[hv] at this;cases this;refine⟨_,uS hi,Ex.new F hp _,p',_,rfl,SqT.of qK,.int i,_,rfl,rfl,_,[],rfl,?_,rfl⟩;rw[ah,ar hi];exact (r.moved hO k S1.al).kp ((Ex.new F hp _).kp hf) al
   ·rw[q8];exact⟨xs,h1.kp k S1.al,by rw[h2.len];exact af _⟩
  ·rename_i l;obtain⟨p,xs,rfl,n,h1,h2⟩:=r;refine⟨p,rfl,.inl ⟨⟨xs,SqL.of h1⟩,q _ H1 e ⟨λH' i k hi=>?_,λO' H' i x H'' hO hf al k F hi y=>?_,λH' k=>?_⟩⟩⟩
   ·rw[q8] at hi;obtain⟨v,hv,_⟩:=h2.get (show l[i]? = some l[i] by simp[hi]);exact⟨xs,v,SqL.of (k p _ n h1),hv⟩
   ·rw[q8] at hi;obtain⟨p',w,rfl,hp,rfl,y⟩:=y;obtain⟨v,hv,r⟩:=h2.get (show l[i]? = some l[i] by simp[hi]);have:=y xs (SqL.of (k p _ n h1));rw[hv] at this;cases this;refine⟨_,uS hi,Ex.new F hp _,p',_,rfl,SqT.of qK,.int i,_,rfl,rfl,_,[],rfl,?_,rfl⟩;rw[ah,ar hi];exact (r.moved hO k S1.al).kp ((Ex.new F hp _).kp hf) al
   ·rw[q8];exact⟨xs,SqL.of (k p _ n h1),by rw[h2.len];exact af _⟩) q⟩
def JP(K:Frag)(ta:TA):TI:=λσ H R=>ta σ H λvs H1=>∃ a xs,vs=[.ref a] /\
 ((SqT K H1 a xs/\R ⟨λi H=>i<xs.length/\∃ ys x,SqT K H a ys/\ys.length=xs.length/\ys.reverse[i]? = some x,λi H x H'=>H'=H/\∀ xs,SqT K H a xs->xs.reverse[i]? = some x,λi H=>i=xs.length⟩ H1) \/
   (SqL K H1 a xs/\R ⟨λi H=>i<xs.length/\∃ ys x,SqL K H a ys/\ys.length=xs.length/\ys.reverse[i]? = some x,λi H x H'=>H'=H/\∀ xs,SqL K H a xs->xs.reverse[i]? = some x,λi H=>i=xs.length⟩ H1))
theorem EL{tg:Expr}{a:Expr}{ta:TA}{p pos:Pos}(hg:Gl X "reversed")(hm:X.mg "reversed" = none)(ha:PA X [a] ta)(hs:starEach [a] X.env=[(false,eval a X.env)]):PI X tg (.Call (.Name "reversed" p) [a] [] pos) (JP X.K ta):=by
 intro pins s σ H R I h;refine PyProof.Rows.Call_ (rN I hg hm PyProof.Rows.boot_reversed (PyProof.Rows.callWith_type1 (qZ (ha pos pins s σ H _ I h) λus s1 ⟨vs,H1,I1,r1,q1⟩=>?_) hs rfl));obtain⟨l,xs,e,q1⟩:=q1;subst e;obtain⟨u,rfl,ru⟩:=Vals.one r1;cases ru;rcases q1 with⟨hq,q1⟩|⟨hq,q1⟩
 ·obtain⟨its,rv,pl,hz⟩:=I1.tuple hq;have hlen:=rv.length;have hn63:=rK;refine RV.D2 (show s1.heap.IsTuple l its.toArray from pl) (by rw[aj];omega) λtk=>?_;have st:RV.Is (s1.heap.push { cls:=.type "reversed",data:=.fields #[.ref l,rawInt ((its.toArray.size:Int)-1)] }) s1.heap.objs.size l ((xs.length:Int)-1-((0:Nat):Int)):=⟨_,ηG _ rfl,rfl,by
   rw[aj,← hlen,show (xs.length:Int)-1-((0:Nat):Int)=(xs.length:Int)-1 by omega]⟩
  refine RV.wN st ?_;refine⟨_,[s1.heap.objs.size],_,_,H1,rfl,I1.kept (t':=tk) λb o e=>ηH _ e,Cg xs.length l _,st,λb hb=>?_,q1⟩;rw[aV.mp hb];exact I1.fpOk (af _) (I1.hok.fresh (af _))
 ·obtain⟨its,rv,pl,hz⟩:=I1.list hq;have hlen:=rv.length;refine call_reversed_list pl.isList ?_;have st:(s1.heap.push (revObj l ((its.toArray.size:Int)-1))).IsRevIter s1.heap.objs.size l ((xs.length:Int)-1-((0:Nat):Int)):=⟨_,ηG _ rfl,rfl,by
   show Data.fields #[.ref l,rawInt ((its.toArray.size:Int)-1)]=_;rw[aj,← hlen,show (xs.length:Int)-1-((0:Nat):Int)=(xs.length:Int)-1 by omega]⟩
  refine wpAny_pyIter_revIter st ?_;refine⟨_,[s1.heap.objs.size],_,_,H1,rfl,I1.kept (t':=s1.toks) λb o e=>ηH _ e,A9 xs.length l _,st,λb hb=>?_,q1⟩;rw[aV.mp hb];exact I1.fpOk (af _) (I1.hok.fresh (af _))
theorem kP.ok{tg:Expr}{p:Pos}(hg:Gl X "reversed")(hm:X.mg "reversed" = none)(ha:PE X a (LE X.K ta))(hs:starEach [a] X.env=[(false,eval a X.env)]):PI X tg (.Call (.Name "reversed" p) [a] [] pos) (LI X.K (kP ta)) :=
 (EL (p:=p) (pos:=pos) hg hm (qC ha pa_nil hs) hs).weak λσ H R ⟨f,O,ss,S,q⟩=>⟨f,O,ss,S,ta.mono (λd q v H1 e r=>by
  have S1:=S.ex e;cases d <;> first|exact False.elim q|skip
  ·rename_i l;obtain⟨p,xs,rfl,h1,h2⟩:=r;refine⟨p,xs,rfl,.inl ⟨h1,q _ H1 e ⟨λH' i k hi=>?_,λO' H' i x H'' hO hf al k F hi y=>?_,λH' k=>?_⟩⟩⟩
   ·obtain⟨v,hv,_⟩:=h2.reverse.get (show l.reverse[i]? = some l.reverse[i] from ar hi);rw[aM] at hi;exact⟨by rw[h2.len];exact hi,xs,v,h1.kp k S1.al,rfl,hv⟩
   ·obtain⟨rfl,y⟩:=y;obtain⟨v,hv,r⟩:=h2.reverse.get (show l.reverse[i]? = some l.reverse[i] from ar hi);have:=y xs (h1.kp k S1.al);rw[hv] at this;cases this;exact⟨l.reverse[i],ar hi,Ex.refl F,r.moved hO k S1.al⟩
   ·rw[aM,h2.len]
  ·rename_i l;obtain⟨p,xs,rfl,n,h1,h2⟩:=r;refine⟨p,xs,rfl,.inr ⟨SqL.of h1,q _ H1 e ⟨λH' i k hi=>?_,λO' H' i x H'' hO hf al k F hi y=>?_,λH' k=>?_⟩⟩⟩
   ·obtain⟨v,hv,_⟩:=h2.reverse.get (show l.reverse[i]? = some l.reverse[i] from ar hi);rw[aM] at hi;exact⟨by rw[h2.len];exact hi,xs,v,SqL.of (k p _ n h1),rfl,hv⟩
   ·obtain⟨rfl,y⟩:=y;obtain⟨v,hv,r⟩:=h2.reverse.get (show l.reverse[i]? = some l.reverse[i] from ar hi);have:=y xs (SqL.of (k p _ n h1));rw[hv] at this;cases this;exact⟨l.reverse[i],ar hi,Ex.refl F,r.moved hO k S1.al⟩
   ·rw[aM,h2.len]) q⟩
structure Cs where
 f:Addr
 O:List Addr
 H:Hp
 S:List Addr
structure Kpc (c:Cs)(H:Hp):Prop where
 kp:∀ b o,c.H b=some o->b≠c.f->(b∈c.O\/b ∉ c.S)->H b=some o
 key:∀ l r,c.H c.f=some (.lst (.ref l::r))->∃ r',H c.f=some (.lst (.ref l::r'))
structure StR (K:Frag)(c:Cs)(O:List Addr)(σ:St)(H:Hp)(ss:SS):Prop where
 sl:SlD K c.f O σ H ss
 sub:∀ a∈c.O,a∈O
 kp:Kpc c H
 new:∀ a∈O,a∈c.S\/c.H a=none
 own:∀(i:Nat) (l:List D) (a:Addr),ss[i]? = some (SD.own l)->σ[i]? = some (some (V.ref a))->(c.H a=none\/a∈c.S)/\a ∉ c.O/\∀(j:Nat) (l':List D),ss[j]? = some (SD.own l')->σ[j]? = some (some (V.ref a))->j=i
variable{c:Cs}
theorem Kpc.ex(k:Kpc c H)(e:Ex c.f H H'):Kpc c H':=⟨λb o h n z=>e.sm.app b o n (k.kp b o h n z),λl r h=>by
 obtain⟨r',h1⟩:=k.key l r h;exact e.sm.key l r' h1⟩
theorem StR.ex(R:StR K c O σ H ss)(e:Ex c.f H H'):StR K c O σ H' ss:=⟨R.sl.ex e,R.sub,R.kp.ex e,R.new,R.own⟩
theorem StR.to(R:StR K c O σ H ss)(S:SlD K c.f O σ' H ss')(h:Sub σ ss σ' ss'):StR K c O σ' H ss':=⟨S,R.sub,R.kp,R.new,λi l a q e=>by
 obtain⟨q1,e1⟩:=h i l q;obtain⟨w1,w2,w3⟩:=R.own i l a q1 (e1.symm.trans e);refine⟨w1,w2,λj l' q' e'=>?_⟩;obtain⟨q2,e2⟩:=h j l' q';exact w3 j l' q2 (e2.symm.trans e')⟩
def frz1(i:Nat)(ss:SS):SS:=match ss[i]? with|some (.own l)=>ss.set i (.val (.lst l))|_=>ss
def frz(fz:List Nat)(ss:SS):SS:=fz.foldl (λs i=>frz1 i s) ss
theorem StR.frz1(R:StR K c O σ H ss):∃ O',StR K c O' σ H (frz1 i ss):=by
 unfold Dp.frz1;split
 ·rename_i l e;obtain⟨a,xs,h1,h2,h3,h4,h5⟩:=R.sl.own i l e;obtain⟨w1,w2,w3⟩:=R.own i l a e h1;have hs:∀ b∈O.filter (λb=>decide (b≠a)),b∈O:=λb hb=>(ce.mp hb).1;have hl:i<ss.length:=(ai.mp e).1;have hlv:(σ.set i (some (V.ref a)))=σ:=by
   apply gK;intro j;by_cases z:i=j
   ·subst z;rw[aQ,if_pos rfl,if_pos (by rw[← R.sl.len];exact hl),h1]
   ·rw[aH z]
  refine⟨O.filter (λb=>decide (b≠a)),⟨R.sl.fl,?_,λb hb=>R.sl.al b (hs b hb),λl r q z=>R.sl.lO l r q (hs _ z),by rw[bz];exact R.sl.len,λj d q=>?_,λj l' q=>?_⟩,λb hb=>?_,R.kp,λb hb=>R.new b (hs b hb),λj l' b q e'=>?_⟩
  ·exact ce.mpr ⟨R.sl.fO,by simpa using Ne.symm h3⟩
  ·by_cases z:i=j
   ·subst z;rw[aQ,if_pos rfl,if_pos hl] at q;cases q;exact⟨_,h1,a,xs,rfl,λz=>by simpa using (ce.mp z).2,h4,h5.less hs⟩
   ·rw[aH z] at q;obtain⟨v,q1,q2⟩:=R.sl.val j d q;exact⟨v,q1,q2.less hs⟩
  ·by_cases z:i=j
   ·subst z;rw[aQ,if_pos rfl,if_pos hl] at q;cases q
   ·rw[aH z] at q;obtain⟨b,ys,q1,q2,q3,q4,q5⟩:=R.sl.own j l' q;refine⟨b,ys,q1,ce.mpr ⟨q2,?_⟩,q3,q4,q5.less hs⟩;have:b≠a:=by
     rintro rfl;exact z (w3 j l' q q1).symm
    simpa using this
  ·have:b≠a:=by
    rintro rfl;exact w2 hb
   exact ce.mpr ⟨R.sub b hb,by simpa using this⟩
  ·by_cases z:i=j
   ·subst z;rw[aQ,if_pos rfl,if_pos hl] at q;cases q
   ·rw[aH z] at q;obtain⟨p1,p2,p3⟩:=R.own j l' b q e';refine⟨p1,p2,λk l2 q2 e2=>?_⟩;by_cases z2:i=k
    ·subst z2;rw[aQ,if_pos rfl,if_pos hl] at q2;cases q2
    ·rw[aH z2] at q2;exact p3 k l2 q2 e2
 ·exact⟨O,R⟩
theorem StR.frz:∀{fz:List Nat} {ss:SS} {O:List Addr},StR K c O σ H ss->∃ O',StR K c O' σ H (Dp.frz fz ss)
 | [],_,O,R=>⟨O,R⟩
 | i::fz,ss,O,R=>by
  obtain⟨O1,R1⟩:=R.frz1 (i:=i);exact StR.frz (fz:=fz) R1
structure Rt (K:Frag)(c:Cs)(H:Hp)(d:D)(v:V):Prop where
 fl:Fl H c.f
 kp:Kpc c H
 rp:Rp K c.f c.O H d v
theorem StR.rt(R:StR K c O σ H ss)(r:Rp K c.f O H d v):Rt K c H d v:=⟨R.sl.fl,R.kp,r.less R.sub⟩
def Cs.here(c:Cs)(H:Hp)(O:List Addr):Cs:=⟨c.f,c.O,H,O⟩
theorem StR.here(R:StR K c O σ H ss):StR K (c.here H O) O σ H ss:=⟨R.sl,R.sub,⟨λb o h _ _=>h,λl r h=>⟨r,h⟩⟩,λa h=>.inl h,λi l a q e=>by
 obtain⟨a',xs,h1,h2,_⟩:=R.sl.own i l q;rw[h1] at e;cases e;exact⟨.inr h2,(R.own i l a q h1).2⟩⟩
theorem Kpc.back(R:StR K c O1 σ H1 ss)(k:Kpc (c.here H1 O1) H):Kpc c H where
 kp:=λb o h n z=>by
  refine k.kp b o (R.kp.kp b o h n z) n ?_;rcases z with z|z
  ·exact .inl z
  ·refine .inr λy=>?_;rcases R.new b y with w|w
   ·exact z w
   ·rw[w] at h;cases h
 key:=λl r h=>by
  obtain⟨r',h1⟩:=R.kp.key l r h;exact k.key l r' h1
theorem StR.back(R:StR K c O1 σ1 H1 s1)(k:StR K (c.here H1 O1) O σ H ss):StR K c O σ H ss:=by
 have low:∀ a,a ∉ c.O->(a∈O1\/H1 a=none)->a∈c.S\/c.H a=none:=λa n z=>by
  rcases z with z|z
  ·exact R.new a z
  ·cases h:c.H a with
   | none=>exact .inr rfl
   | some o =>
    left;by_cases y:a∈c.S
    ·exact y
    ·exfalso;by_cases w:a=c.f
     ·subst w;obtain⟨xs,q⟩:=R.sl.fl.lst;rw[q] at z;cases z
     ·rw[R.kp.kp a o h w (.inr y)] at z;cases z
 refine⟨k.sl,k.sub,Kpc.back R k.kp,λa h=>?_,λi l a q e=>?_⟩
 ·by_cases z:a∈c.O
  ·rcases R.new a (R.sub a z) with w|w
   ·exact .inl w
   ·exact .inr w
  ·exact low a z (k.new a h)
 ·obtain⟨w1,w2,w3⟩:=k.own i l a q e;exact⟨(low a w2 w1.symm).symm,w2,w3⟩
theorem Rt.back(R:StR K c O1 σ1 H1 s1)(k:Rt K (c.here H1 O1) H d v):Rt K c H d v:=⟨k.fl,Kpc.back R k.kp,k.rp⟩
structure EndsD where
 nx:SS->Prop
 rt:D->Prop
 bk:SS->Prop
 ct:SS->Prop
structure EndsD.Le (E E':EndsD):Prop where
 nx:∀ s,E.nx s->E'.nx s
 rt:∀ d,E.rt d->E'.rt d
 bk:∀ s,E.bk s->E'.bk s
 ct:∀ s,E.ct s->E'.ct s
structure TSd where
 run:EndsD->SS->Prop
 mono:∀{E E' ss},E.Le E'->run E ss->run E' ss
def rZ(K:Frag)(c:Cs)(D:Ends):EndsD:=⟨λss=>∀ O σ H,StR K c O σ H ss->D.nx σ H,λd=>∀ v H,Rt K c H d v->D.rt v H,λss=>∀ O σ H,StR K c O σ H ss->D.bk σ H,λss=>∀ O σ H,StR K c O σ H ss->D.ct σ H⟩
def LS(K:Frag)(t:TSd):TS:=λD σ H=>∃ c O ss,StR K c O σ H ss/\t.run (rZ K c D) ss
theorem _root_.L2.PS.weak{st:Stmt}{t t':TS}(h:PS X st t)(w:∀ D σ H,t' D σ H->t D σ H):PS X st t':=λpins s σ H D I q=>h pins s σ H D I (w D σ H q)
theorem _root_.L2.PSs.weak{st:List Stmt}{t t':TS}(h:PSs X st t)(w:∀ D σ H,t' D σ H->t D σ H):PSs X st t':=λpins s σ H D I q=>h pins s σ H D I (w D σ H q)
theorem StR.le(R:StR K c O σ H ss)(h:t.run ss W)(hw:∀ d v H1,StR K c O σ H1 ss->Ex c.f H H1->Rp K c.f O H1 d v->W d->Q v H1):LE K t σ H Q :=
 ⟨c.f,O,ss,R.sl,t.mono (λd q v H1 e r=>hw d v H1 (R.ex e) e r q) h⟩
theorem StR.lt(R:StR K c O σ H ss)(h:t.run ss W)(hw:∀ d H1,StR K c O σ H1 ss->W d->Q d H1):LT K t σ H Q :=
 ⟨c.f,O,ss,R.sl,t.mono (λd q H1 e=>hw d H1 (R.ex e) q) h⟩
def iA:TSd:=⟨λE ss=>E.nx ss,λh q=>h.nx _ q⟩
theorem iA.nil:PSs X [] (LS X.K iA):=pss_nil.weak λD σ H ⟨c,O,ss,R,q⟩=>q O σ H R
theorem iA.pass:PS X (.Pass pos) (LS X.K iA):=ps_pass.weak λD σ H ⟨c,O,ss,R,q⟩=>q O σ H R
def pP:TSd:=⟨λE ss=>E.bk ss,λh q=>h.bk _ q⟩
theorem pP.ok:PS X (.Break pos) (LS X.K pP):=ps_break.weak λD σ H ⟨c,O,ss,R,q⟩=>q O σ H R
@[reducible] def EndsD.to(E:EndsD)(P:SS->Prop):EndsD:=⟨P,E.rt,E.bk,E.ct⟩
def dSq(t u:TSd):TSd:=⟨λE ss=>t.run (E.to (u.run E)) ss,λ{E E' ss} h q=>t.mono (E:=E.to (u.run E)) (E':=E'.to (u.run E')) ⟨λs q=>u.mono h q,h.rt,h.bk,h.ct⟩ q⟩
theorem dSq.ok{st:Stmt}{sts:List Stmt}{t u:TSd}(h:PS X st (LS X.K t))(g:PSs X sts (LS X.K u)):PSs X (st::sts) (LS X.K (dSq t u)):=(rG h g).weak λD σ H ⟨c,O,ss,R,q⟩ =>
 ⟨c,O,ss,R,t.mono (E:=(rZ X.K c D).to (u.run (rZ X.K c D))) ⟨λs q O' σ' H' R'=>⟨c,O',s,R',q⟩,λ_ q=>q,λ_ q=>q,λ_ q=>q⟩ q⟩
theorem dSq.one{st:Stmt}{t:TSd}(h:PS X st (LS X.K t)):PSs X [st] (LS X.K t):=rh h
def iq(fz:List Nat)(e:TEd):TSd:=⟨λE ss=>e.run (frz fz ss) E.rt,λh q=>e.mono h.rt q⟩
theorem iq.ok{fz:List Nat}(h:PE X a (LE X.K ta)):PS X (.Return (some a) pos) (LS X.K (iq fz ta)):=(sh h).weak λD σ H ⟨c,O,ss,R,q⟩=>by
 obtain⟨O',R⟩:=R.frz (fz:=fz);exact R.le q λd v H1 R1 _ r w=>w v H1 (R1.rt r)
def oD:TSd:=⟨λE ss=>E.rt .non,λh q=>h.rt _ q⟩
theorem oD.ok:PS X (.Return none pos) (LS X.K oD):=ps_retN.weak λD σ H ⟨c,O,ss,R,q⟩=>q .non H (R.rt rfl)
def dIf(fz:List Nat)(k:TTd)(t u:TSd):TSd:=⟨λE ss=>k.run (frz fz ss) λb=>if b=true then t.run E (frz fz ss) else u.run E (frz fz ss),λ{E E' ss} h q=>k.mono (λb q=>by
 revert q;cases b
 ·exact u.mono h
 ·exact t.mono h) q⟩
theorem dIf.ok{fz:List Nat}{st su:List Stmt}{t u:TSd}(hk:PT X a (LT X.K tA))(ht:PSs X st (LS X.K t))(hu:PSs X su (LS X.K u)):PS X (.If a st su pos) (LS X.K (dIf fz tA t u)):=(u7 hk ht hu).weak λD σ H ⟨c,O,ss,R,q⟩=>by
 obtain⟨O',R⟩:=R.frz (fz:=fz);refine R.lt q λb H1 R1 w=>?_;cases b
 ·exact⟨c,O',_,R1,w⟩
 ·exact⟨c,O',_,R1,w⟩
def g7(fz:List Nat)(g:TGd)(e:TEd):TSd:=⟨λE ss=>e.run (frz fz ss) λd=>g.run d (frz fz ss) E.nx,λh q=>e.mono (λd q=>g.mono h.nx q) q⟩
theorem StR.lg(R:StR K c O σ H ss)(r:Rp K c.f O H d v)(h:g.run d ss W)(hw:∀ ss' σ' H1,StR K c O σ' H1 ss'->W ss'->Q σ' H1):LG K g v σ H Q :=
 ⟨c.f,O,ss,d,R.sl,r,g.mono (λs q σ' H1 e S sb ag=>hw s σ' H1 ((R.ex e).to S sb) q) h⟩
theorem g7.ok{fz:List Nat}{tg:Expr}{g:TGd}(h:PE X a (LE X.K ta))(hg:PG X tg (LG X.K g))(hs:swapsWithSole [tg] a pos.line X.env=pure false)(hw:swappedStores [tg] a X.env=pure none)(h1:(assignEach [tg] X.env).map (·.2)=[assign tg X.env]):PS X (.Assign [tg] a pos) (LS X.K (g7 fz g ta)):=(sJ h hg hs hw h1).weak λD σ H ⟨c,O,ss,R,q⟩=>by
 obtain⟨O',R⟩:=R.frz (fz:=fz);exact R.le q λd v H1 R1 _ r w=>R1.lg r w λs' σ' H2 R2 w=>w O' σ' H2 R2
end Dp
namespace Dp
open PySem L2
variable{K:Frag}{f:Addr}{O O':List Addr}{H H':Hp}{X:Cx}{σ:St}{ss:SS}{a b:Expr}{ta tb tc:TEd}{tA tB:TTd}{pos:Pos}{c:Cs}
theorem qt.ok(hN:X.N.Nodup)(hi:X.N[i]? = some x)(hx:yW X.env.scope x)(h:PE X a (LE X.K ta))(hs:swapsWith a (some (.Name x p')) pos.line X.env=pure false)(hf:X.fn x=true\/X.env.scope.names.lookup x=some .local) :
  PS X (.Assign [.Name x p'] a pos) (LS X.K (g7 fz (gNm i) ta)):=(td hN hi hx h hs hf).weak λD σ H ⟨c,O,ss,R,q⟩=>by
 obtain⟨O',R⟩:=R.frz (fz:=fz);exact R.le q λd v H1 R1 _ r w=>w O' _ H1 (R1.to (R1.sl.set r) Sub.set)
def mH(fz:List Nat)(i j:Nat)(a b:TEd):TSd:=⟨λE ss=>a.run (frz fz ss) λd=>b.run (frz fz ss) λd'=>E.nx (((frz fz ss).set i (.val d)).set j (.val d')),λh q=>a.mono (λd q=>b.mono (λd' q=>h.nx _ q) q) q⟩
theorem mH.weak{fz:List Nat}{i j:Nat}{D:Ends}{ta tb:TEd}(h:LS X.K (mH fz i j ta tb) D σ H):GO i j (ww (LE X.K ta) (ww (LE X.K tb) Et)) D σ H:=by
 obtain⟨c,O,ss,R,q⟩:=h;obtain⟨O',R⟩:=R.frz (fz:=fz);refine R.le q λd v H1 R1 e1 r w=>R1.le w λd' v' H2 R2 e2 r' w=>?_;have S:=(R2.sl.set (i:=i) (R1.sl.up e2 r)).set (i:=j) r';exact⟨v,v',rfl,w O' _ H2 (R2.to S (Sub.trans Sub.set Sub.set))⟩
def iN(k:TTd)(t:TSd):TSd:=⟨λE ss=>∃(I:SS->Prop) (μ:SS->Nat),I ss/\∀ s,I s->k.run s λb=>if b=true then t.run ⟨λs'=>I s'/\μ s'<μ s,E.rt,E.nx,λs'=>I s'/\μ s'<μ s⟩ s else E.nx s,λ{E E' ss} h ⟨I,μ,q0,q⟩=>⟨I,μ,q0,λs i=>k.mono (λb q=>by
 revert q;cases b
 ·exact h.nx _
 ·exact t.mono ⟨λ_ q=>q,h.rt,h.nx,λ_ q=>q⟩) (q s i)⟩⟩
theorem iN.ok(hp:PassesOwn (model X.prog X.w) X.A X.env X.xe)(hk:PT X a (LT X.K tA))(ht:PSs X st (LS X.K t)):PS X (.While a st [] pos) (LS X.K (iN tA t)):=(CK hp hk ht).weak λD σ H ⟨c,O,ss,R,I,μ,q0,q⟩=>by
 refine⟨λm σ H=>∃ O s,StR X.K c O σ H s/\I s/\μ s=m,⟨_,O,ss,R,q0,rfl⟩,?_⟩;rintro m σ H ⟨O,s,R,i0,rfl⟩;refine R.lt (q s i0) λb H1 R1 w=>?_;cases b with
 | false=>exact w O σ H1 R1
 | true =>
  refine⟨λσ' H'=>∃ O' s',StR X.K c O' σ' H' s'/\I s'/\μ s'<μ s,λσ' H' ⟨O',s',R',i',l⟩=>⟨_,l,O',s',R',i',rfl⟩,c,O,s,R1,?_⟩;refine t.mono ?_ w;exact⟨λs' q O' σ' H' R'=>⟨O',s',R',q⟩,λ_ q=>q,λ_ q=>q,λs' q O' σ' H' R'=>⟨O',s',R',q⟩⟩
def iO(fz:List Nat)(it:TAd)(g:TGd)(t:TSd):TSd:=⟨λE ss=>it.run (frz fz ss) λds=>∃ I:Nat->SS->Prop,I 0 (frz fz ss)/\(∀ i d s,ds[i]? = some d->I i s->g.run d s λs1=>t.run ⟨I (i+1),E.rt,E.nx,I (i+1)⟩ s1)/\∀ s,I ds.length s->E.nx s,λ{E E' ss} h q=>it.mono (λds ⟨I,q0,q1,q2⟩=>⟨I,q0,λi d s e i0=>g.mono (λs1 q=>t.mono (E:=⟨I (i+1),E.rt,E.nx,I (i+1)⟩) (E':=⟨I (i+1),E'.rt,E'.nx,I (i+1)⟩) ⟨λ_ q=>q,h.rt,h.nx,λ_ q=>q⟩ q) (q1 i d s e i0),λs i0=>h.nx _ (q2 s i0)⟩) q⟩
theorem iO.ok(hp:PassesOwn (model X.prog X.w) X.A X.env X.xe)(hc:X.calm=true)(hi:PI X tg iter (LI X.K it))(hg:PG X tg (LG X.K g))(ht:PSs X st (LS X.K t))(hs:∀ x,foldedSetIterable iter X.env x=pure x) :
  PS X (.For tg iter st [] pos) (LS X.K (iO fz it g t)):=(Hr hp hc hi hg ht hs).weak λD σ H ⟨c,O,ss,R,q⟩=>by
 obtain⟨O,R⟩:=R.frz (fz:=fz);refine⟨c.f,O,_,R.sl,it.mono (λds q J H1 e1 D0=>?_) q⟩;obtain⟨I,q0,q1,q2⟩:=q;have R1:=R.ex e1;refine⟨λi m σ H=>∃ O2 s,StR X.K (c.here H1 O) O2 σ H s/\I i s/\m=ds.length-i/\i<=ds.length,⟨_,O,_,R1.here,q0,rfl,aC _⟩,?_⟩;rintro i m σ H ⟨O2,s,R2,i0,rfl,hi⟩;have kp:Kp O H1 H:=λb o n h=>R2.kp.kp b o h (λz=>n (by rw[z];exact R.sl.fO)) (.inr n);rcases aD i ds.length with hk|hk
 ·refine .inr ⟨D0.go H i kp hk,λσ' H'=>∃ O3 s',StR X.K (c.here H1 O) O3 σ' H' s'/\I (i+1) s',λσ' H' ⟨O3,s',R3,i3⟩=>⟨ds.length-(i+1),by omega,O3,s',R3,i3,rfl,hk⟩,λx H' y=>?_⟩;obtain⟨d,ed,e2,rd⟩:=D0.yld O2 H i x H' R2.new R2.sl.fO R2.sl.al kp R2.sl.fl hk y;refine (R2.ex e2).lg rd (q1 i d s ed i0) λs1 σ' H3 R3 w=>?_;refine⟨c.here H1 O,O2,s1,R3,?_⟩;refine t.mono ?_ w;exact⟨λs' q O' σ' H' R'=>⟨O',s',R',q⟩,λd q v H r=>q v H (Rt.back R1 r),λs' q O' σ' H' R'=>q O' σ' H' (StR.back R1 R'),λs' q O' σ' H' R'=>⟨O',s',R',q⟩⟩
 ·have ek:i=ds.length:=by omega
  subst ek;exact .inl ⟨D0.stop H kp,q2 s i0 O2 σ H (StR.back R1 R2)⟩
def LF(K:Frag)(t:TEd):TE:=λσ H Q=>∃ f O ss,SlD K f O σ H ss/\t.run ss λd=>∃ l,d = .lst l/\∀ p xs H',Ex f H H'->H p=none->H' p=some (.lst xs)->Rps K f (p::O) H' l xs->Q (.ref p) H'
theorem StR.mkOwn{l:List D}{p:Addr}{xs:List V}{i:Nat}(R:StR K c O σ H ss)(e:Ex c.f H H')(hp:H p=none)(hx:H' p=some (.lst xs))(r':Rps K c.f (p::O) H' l xs):StR K c (p::O) (σ.set i (some (.ref p))) H' (ss.set i (.own l)):=by
 have mv:∀ b∈p::O,b∈O\/H b=none:=λb hb=>by
  rcases ao.mp hb with z|z
  ·exact .inr (z ▸ hp)
  ·exact .inl z
 have kp:=e.kp R.sl.fO;have np:p ∉ O:=R.sl.nO hp;have npf:p≠c.f:=λz=>np (z ▸ R.sl.fO);have low:c.H p=none\/p∈c.S:=by
  cases h:c.H p with
  | none=>exact .inl rfl
  | some o =>
   right;by_cases y:p∈c.S
   ·exact y
   ·rw[R.kp.kp p o h npf (.inr y)] at hp;cases hp
 have hne:∀(j:Nat) (l':List D) (b:Addr),ss[j]? = some (SD.own l')->σ[j]? = some (some (V.ref b))->b≠p:=λj l' b q1 q2=>by
  obtain⟨b',ys,w1,w2,_⟩:=R.sl.own j l' q1;rw[w1] at q2;cases q2;rintro rfl;exact np w2
 refine⟨⟨e.fl,az _ R.sl.fO,λb hb=>?_,λl r q=>?_,by rw[bz,bz];exact R.sl.len,λj d q=>?_,λj l' q=>?_⟩,λb hb=>az _ (R.sub b hb),R.kp.ex e,λb hb=>?_,λj l' b q eb=>?_⟩
 ·rcases ao.mp hb with z|z
  ·exact⟨xs,z ▸ hx⟩
  ·exact (R.sl.ex e).al b z
 ·intro z;rcases ao.mp z with w|w
  ·subst w;obtain⟨l0,ns,i,c',a',b',f1,f2,f3⟩:=R.sl.fl;obtain⟨r',h2⟩:=e.sm.key _ _ f1;rw[h2] at q;cases q;rw[hp] at f2;cases f2
  ·exact (R.sl.ex e).lO _ _ q w
 ·by_cases z:i=j
  ·subst z;rw[aQ,if_pos rfl] at q;split at q <;> cases q
  ·rw[aH z] at q ⊢;obtain⟨v,w1,w2⟩:=R.sl.val j d q;exact⟨v,w1,w2.moved mv kp R.sl.al⟩
 ·by_cases z:i=j
  ·subst z;rw[aQ,if_pos rfl] at q;split at q
   ·rename_i hl;cases q;exact⟨p,xs,by rw[aQ,if_pos rfl,if_pos (by rw[← R.sl.len];exact hl)],aF,npf,hx,r'⟩
   ·cases q
  ·rw[aH z] at q ⊢;obtain⟨b,ys,w1,w2,w3,w4,w5⟩:=R.sl.own j l' q;exact⟨b,ys,w1,az _ w2,w3,e.sm.app b _ w3 w4,w5.moved mv kp R.sl.al⟩
 ·rcases ao.mp hb with z|z
  ·subst z;exact low.symm
  ·exact R.new b z
 ·by_cases z:i=j
  ·subst z;rw[aQ,if_pos rfl] at eb;split at eb
   ·cases eb;refine⟨low,λw=>np (R.sub _ w),λj' l2 q2 e2=>?_⟩;by_cases z2:i=j'
    ·exact z2.symm
    ·rw[aH z2] at q2 e2;exact absurd rfl (hne j' l2 _ q2 e2)
   ·cases eb
  ·rw[aH z] at q eb;obtain⟨w1,w2,w3⟩:=R.own j l' b q eb;refine⟨w1,w2,λj' l2 q2 e2=>?_⟩;by_cases z2:i=j'
   ·subst z2;rw[aQ,if_pos rfl] at e2;split at e2
    ·cases e2;exact absurd rfl (hne j l' _ q eb)
    ·cases e2
   ·rw[aH z2] at q2 e2;exact w3 j' l2 q2 e2
theorem StR.wr{l l':List D}{i:Nat}{a:Addr}{xs:List V}(R:StR K c O σ H ss)(hs:ss[i]? = some (SD.own l))(ha:σ[i]? = some (some (V.ref a)))(r:Rps K c.f O H l' xs):StR K c O σ (rg H a (.lst xs)) (ss.set i (.own l')):=by
 obtain⟨a',ys,h1,h2,h3,h4,h5⟩:=R.sl.own i l hs;rw[h1] at ha;cases ha;obtain⟨w1,w2,w3⟩:=R.own i l a hs h1;have hl:i<ss.length:=(ai.mp hs).1;have kp:Kp O H (rg H a (.lst xs)):=λb o n q=>by
  rw[qJ (by rintro rfl;exact n h2)];exact q
 have fl:Fl (rg H a (.lst xs)) c.f:=by
  obtain⟨l0,ns,i,c',a',b',f1,f2,f3⟩:=R.sl.fl;refine⟨l0,ns,i,c',a',b',by rw[qJ (Ne.symm h3)];exact f1,?_,f3⟩;rw[qJ (by rintro rfl;exact R.sl.lO _ _ f1 h2)];exact f2
 have gt:∀{j:Nat} {s:SD},(ss.set i (.own l'))[j]? = some s->(j=i/\s = .own l')\/(j≠i/\ss[j]? = some s):=λ{j s} q=>by
  by_cases z:i=j
  ·subst z;rw[aQ,if_pos rfl,if_pos hl] at q;exact .inl ⟨rfl,(Option.some.inj q).symm⟩
  ·rw[aH z] at q;exact .inr ⟨Ne.symm z,q⟩
 refine⟨⟨fl,R.sl.fO,λb hb=>?_,λl r q=>by rw[qJ (Ne.symm h3)] at q;exact R.sl.lO l r q,by rw[bz];exact R.sl.len,λj d q=>?_,λj l2 q=>?_⟩,R.sub,⟨λb o q n z=>?_,λl r q=>?_⟩,R.new,λj l2 b q e=>?_⟩
 ·by_cases z:b=a
  ·subst z;exact⟨xs,qK⟩
  ·rw[qJ z];exact R.sl.al b hb
 ·rcases gt q with⟨_,z⟩|⟨_,q⟩
  ·cases z
  ·obtain⟨v,q1,q2⟩:=R.sl.val j d q;exact⟨v,q1,q2.kp kp R.sl.al⟩
 ·rcases gt q with⟨rfl,z⟩|⟨z,q⟩
  ·cases z;exact⟨a,xs,h1,h2,h3,qK,r.kp kp R.sl.al⟩
  ·obtain⟨b,zs,q1,q2,q3,q4,q5⟩:=R.sl.own j l2 q;have nb:b≠a:=by
    rintro rfl;exact z (w3 j l2 q q1)
   exact⟨b,zs,q1,q2,q3,by rw[qJ nb];exact q4,q5.kp kp R.sl.al⟩
 ·have nb:b≠a:=by
   rintro rfl;rcases z with z|z
   ·exact w2 z
   ·rcases w1 with w|w
    ·rw[w] at q;cases q
    ·exact z w
  rw[qJ nb];exact R.kp.kp b o q n z
 ·obtain⟨r',q1⟩:=R.kp.key l r q;exact⟨r',by rw[qJ (Ne.symm h3)];exact q1⟩
 ·have q':∃ l3,ss[j]? = some (SD.own l3):=by
   rcases gt q with⟨rfl,z⟩|⟨z,q⟩
   ·exact⟨l,hs⟩
   ·exact⟨l2,q⟩
  obtain⟨l3,q'⟩:=q';obtain⟨p1,p2,p3⟩:=R.own j l3 b q' e;refine⟨p1,p2,λj' l4 q4 e4=>?_⟩;rcases gt q4 with⟨rfl,z⟩|⟨z,q5⟩
  ·exact p3 _ l hs e4
  ·exact p3 j' l4 q5 e4
end Dp
namespace Dp
open PySem L2
variable{K:Frag}{f:Addr}{O O':List Addr}{H H':Hp}{X:Cx}{σ:St}{ss:SS}{a b:Expr}{ta tb tc:TEd}{tA tB:TTd}{pos:Pos}{c:Cs}
theorem Rps.skip(S:SlD K f O σ H1 ss)(hp:H1 p=none)(r:Rps K f O H1 ds vs):Rps K f (p::O) (rg H1 p o) ds vs :=
 r.moved (λa z=>by
  rcases ao.mp z with w|w
  ·exact .inr (by rw[w];exact hp)
  ·exact .inl w) ((S.new hp o).kp S.fO) S.al
theorem Ex.low(e:Ex f H H1)(n:p≠f)(h:H1 p=none):H p=none:=e.sm.free n h
theorem ip.okF(h:PA X es (LA X.K t)):PE X (.List es pos) (LF X.K (ip t)):=(xz h).weak λσ H Q ⟨f,O,ss,S,q⟩ =>
 ⟨f,O,ss,S,t.mono (λds q vs H1 e r=>by
  obtain⟨hl,l,el,q⟩:=q;cases el;refine⟨by rw[r.len];exact hl,λp hp=>?_⟩;have S1:=S.ex e;exact q p vs _ (e.trans (S1.new hp _)) (e.low (λz=>S1.nO hp (z ▸ S1.fO)) hp) qK (Rps.skip S1 hp r)) q⟩
theorem qy.okF(ha:PE X a (LE X.K ta))(hb:PE X b (LE X.K tb)):PE X (.BinOp a .Mult b pos) (LF X.K (gZ .Mult ta tb)):=(rj (pos:=pos) C8 ha hb).weak λσ H Q ⟨f,O,ss,S,q⟩=>by
 refine⟨f,O,ss,S,ta.mono (λdx q v1 H1 e1 r1=>?_) q⟩;refine⟨f,O,ss,S.ex e1,tb.mono (λdy q v2 H2 e2 r2=>?_) q⟩;have S2:=(S.ex e1).ex e2;have r1:=(S.ex e1).up e2 r1;cases dx <;> cases dy <;> first|(exact False.elim q)|skip
 ·obtain⟨_,l,el,_⟩:=q;cases el
 ·obtain⟨_,_,_,l,el,_⟩:=q;cases el
 ·rename_i la k;obtain⟨q1,q2,q3,l,el,q⟩:=q;cases el;obtain⟨p0,xs,rfl,n1,h1,h2⟩:=r1;cases (show v2=_ from r2);refine⟨p0,k,xs,rfl,rfl,h1,q1,q2,by rw[h2.len];exact q3,λp hp=>?_⟩;have e12:=e1.trans e2;exact q p _ _ (e12.trans (S2.new hp _)) (e12.low (λz=>S2.nO hp (z ▸ S2.fO)) hp) qK (Rps.skip S2 hp (h2.flat _))
def jF(t:TEd):TEd:=⟨λss Q=>t.run ss λd=>itemsD d λl=>Q (.lst l),λh q=>t.mono (λd q=>itemsD.mono (λl q=>h _ q) q) q⟩
theorem jF.okF(hg:Gl X "list")(hm:X.mg "list" = none)(ha:PE X a (LE X.K ta))(hs:starEach [a] X.env=[(false,eval a X.env)]):PE X (.Call (.Name "list" p) [a] [] pos) (LF X.K (jF ta)) :=
 (uM (p:=p) (pos:=pos) (zL X.K) hg hm sP (qC ha pa_nil hs) (by decide) (by decide) hs rfl).weak λσ H Q ⟨f,O,ss,S,q⟩=>⟨f,O,ss,S,ta.mono (λd q v H1 e r=>by
  have S1:=S.ex e;cases d <;> first|exact False.elim q|skip
  ·rename_i l0;obtain⟨l,el,q⟩:=q;cases el;obtain⟨p0,xs,rfl,h1,h2⟩:=r;exact⟨p0,xs,rfl,.inr h1,λp hp=>q p _ _ (e.trans (S1.new hp _)) (e.low (λz=>S1.nO hp (z ▸ S1.fO)) hp) qK (Rps.skip S1 hp h2)⟩
  ·rename_i l0;obtain⟨l,el,q⟩:=q;cases el;obtain⟨p0,xs,rfl,_,h1,h2⟩:=r;exact⟨p0,xs,rfl,.inl (SqL.of h1),λp hp=>q p _ _ (e.trans (S1.new hp _)) (e.low (λz=>S1.nO hp (z ▸ S1.fO)) hp) qK (Rps.skip S1 hp h2)⟩) q⟩
def jn(fz:List Nat)(i:Nat)(e:TEd):TSd:=⟨λE ss=>e.run (frz fz ss) λd=>match d with | .lst l=>E.nx ((frz fz ss).set i (.own l))|_=>False,λ{E E' ss} h q=>e.mono (λd q=>by
 revert q;cases d <;> first|exact h.nx _|exact id) q⟩
theorem jn.ok(hN:X.N.Nodup)(hi:X.N[i]? = some x)(hx:yW X.env.scope x)(h:PE X a (LF X.K ta))(hs:swapsWith a (some (.Name x p')) pos.line X.env=pure false)(hf:X.fn x=true\/X.env.scope.names.lookup x=some .local) :
  PS X (.Assign [.Name x p'] a pos) (LS X.K (jn fz i ta)):=(td hN hi hx h hs hf).weak λD σ H ⟨c,O,ss,R,q⟩=>by
 obtain⟨O',R⟩:=R.frz (fz:=fz);refine⟨c.f,O',_,R.sl,ta.mono (λd q=>?_) q⟩;cases d <;> first|exact False.elim q|skip
 rename_i l;exact⟨l,rfl,λp xs H1 e hp hx r=>q _ _ H1 (R.mkOwn e hp hx r)⟩
def kB(fz:List Nat)(i:Nat)(e:TEd):TSd:=⟨λE ss=>match (frz fz ss)[i]? with|some (.own l)=>e.run (frz fz ss) λd=>l.length<sizeLine/\E.nx ((frz fz ss).set i (.own (l++[d])))|_=>False,λ{E E' ss} h q=>by
 revert q;split
 ·exact e.mono λd q=>⟨q.1,h.nx _ q.2⟩
 ·exact id⟩
theorem kB.ok(hx:PE X x (sB i))(hb:attributeBase x "append" X.env (eval x X.env)=eval x X.env)(h:PE X a (LE X.K ta))(hs:starEach [a] X.env=[(false,eval a X.env)])(hl:(ap.endLine == cp.line)=true)(hw:swapsWith (.Call (.Attribute x "append" ap) [a] [] cp) none pos.line X.env=pure false) :
  PS X (.Expr (.Call (.Attribute x "append" ap) [a] [] cp) pos) (LS X.K (kB fz i ta)):=by
 refine (um (pos:=pos) (wH (apos:=ap) (cpos:=cp) PySem.F.plainAttrs_list PySem.F.slot_list_append PySem.F.type_list_append wJ hx (qC h pa_nil hs) hb (by rw[hs];rfl) hl hs rfl) hw).weak λD σ H ⟨c,O,ss,R,q⟩=>?_;obtain⟨O',R⟩:=R.frz (fz:=fz);have q:(match (frz fz ss)[i]? with|some (.own l)=>ta.run (frz fz ss) λd=>l.length<sizeLine/\(rZ X.K c D).nx ((frz fz ss).set i (.own (l++[d])))|_=>False):=q;split at q
 ·rename_i l el;obtain⟨p,xs,h1,h2,h3,h4,h5⟩:=R.sl.own i l el;refine⟨_,h1,.inl ⟨rfl,xs,SqL.of h4⟩,R.le q λd v H1 R1 e1 r w=>?_⟩;have hp:=e1.sm.app p _ h3 h4;have r5:=R.sl.ups e1 h5;refine⟨p,xs,v,rfl,rfl,hp,by rw[r5.len];exact w.1,w.2 O' σ _ (R1.wr el h1 (r5.append ⟨v,[],rfl,r,rfl⟩))⟩
 ·exact q.elim
theorem Rps.dropLast:∀{ds:List D} {vs:List V},Rps K f O H ds vs->Rps K f O H ds.dropLast vs.dropLast:=λ{ds vs} h=>by
 rw[gv,gv,h.len];exact h.take _
def pE(i:Nat):TSd:=⟨λE ss=>match ss[i]? with|some (.own l)=>l≠[]/\E.nx (ss.set i (.own l.dropLast))|_=>False,λ{E E' ss} h q=>by
 revert q;split
 ·exact λq=>⟨q.1,h.nx _ q.2⟩
 ·exact id⟩
theorem pE.ok(hx:PE X x (sB i))(hb:attributeBase x "pop" X.env (eval x X.env)=eval x X.env)(hl:(ap.endLine == cp.line)=true)(hw:swapsWith (.Call (.Attribute x "pop" ap) [] [] cp) none pos.line X.env=pure false) :
  PS X (.Expr (.Call (.Attribute x "pop" ap) [] [] cp) pos) (LS X.K (pE i)):=by
 refine (um (pos:=pos) (CW (apos:=ap) (cpos:=cp) PySem.F.plainAttrs_list PySem.F.slot_list_pop PySem.F.type_list_pop Dg hx hb hl) hw).weak λD σ H ⟨c,O,ss,R,q⟩=>?_;have q:(match ss[i]? with|some (.own l)=>l≠[]/\(rZ X.K c D).nx (ss.set i (.own l.dropLast))|_=>False):=q;split at q
 ·rename_i l el;obtain⟨p,xs,h1,h2,h3,h4,h5⟩:=R.sl.own i l el;have hne:0<l.length:=cU.mpr q.1;obtain⟨v,hv,_⟩:=h5.get (show l[l.length-1]? = some (l[l.length-1]'(by omega)) by simp);exact⟨_,h1,.inl ⟨rfl,xs,SqL.of h4⟩,p,xs,v,rfl,rfl,h4,by rw[h5.len];exact hv,q.2 O σ _ (R.wr el h1 h5.dropLast)⟩
 ·exact q.elim
def mZ(j i:Nat):TSd:=⟨λE ss=>match ss[i]? with|some (.own l)=>∃ d,l[l.length-1]? = some d/\E.nx ((ss.set i (.own l.dropLast)).set j (.val d))|_=>False,λ{E E' ss} h q=>by
 revert q;split
 ·exact fun⟨d,q1,q2⟩=>⟨d,q1,h.nx _ q2⟩
 ·exact id⟩
theorem mZ.ok(hN:X.N.Nodup)(hj:X.N[j]? = some y)(hy:yW X.env.scope y)(hf:X.fn y=true\/X.env.scope.names.lookup y=some .local)(hx:PE X x (sB i))(hb:attributeBase x "pop" X.env (eval x X.env)=eval x X.env)(hl:(ap.endLine == cp.line)=true)(hw:swapsWith (.Call (.Attribute x "pop" ap) [] [] cp) (some (.Name y p')) pos.line X.env=pure false) :
  PS X (.Assign [.Name y p'] (.Call (.Attribute x "pop" ap) [] [] cp) pos) (LS X.K (mZ j i)):=by
 refine (td (pos:=pos) hN hj hy (CW (apos:=ap) (cpos:=cp) PySem.F.plainAttrs_list PySem.F.slot_list_pop PySem.F.type_list_pop Dg hx hb hl) hw hf).weak λD σ H ⟨c,O,ss,R,q⟩=>?_;have q:(match ss[i]? with|some (.own l)=>∃ d,l[l.length-1]? = some d/\(rZ X.K c D).nx ((ss.set i (.own l.dropLast)).set j (.val d))|_=>False):=q;split at q
 ·rename_i l el;obtain⟨p,xs,h1,h2,h3,h4,h5⟩:=R.sl.own i l el;obtain⟨d,q1,q2⟩:=q;obtain⟨v,hv,rv⟩:=h5.get q1;have R2:=R.wr el h1 h5.dropLast;have kp:Kp O H (rg H p (.lst xs.dropLast)):=λb o n q=>by
   rw[qJ (by rintro rfl;exact n h2)];exact q
  refine⟨_,h1,.inl ⟨rfl,xs,SqL.of h4⟩,p,xs,v,rfl,rfl,h4,by rw[h5.len];exact hv,q2 O _ _ (R2.to (R2.sl.set (rv.kp kp R.sl.al)) Sub.set)⟩
 ·exact q.elim
def atD(l:List D)(dk:D)(Q:Nat->Prop):Prop:=match dk with | .int z=>(match yy l.length z with|some j=>Q j|none=>False)|_=>False
theorem atD.mono{l:List D}{dk:D}{Q Q':Nat->Prop}(h:∀ j,Q j->Q' j):atD l dk Q->atD l dk Q':=by
 cases dk <;> first|exact id|skip
 unfold atD;dsimp only;split
 ·exact h _
 ·exact id
def jh(fz:List Nat)(i:Nat)(k e:TEd):TSd:=⟨λE ss=>match (frz fz ss)[i]? with|some (.own l)=>e.run (frz fz ss) λd=>k.run (frz fz ss) λdk=>atD l dk λj=>E.nx ((frz fz ss).set i (.own (l.set j d)))|_=>False,λ{E E' ss} h q=>by
 revert q;split
 ·exact e.mono λd=>k.mono λdk=>atD.mono λj=>h.nx _
 ·exact id⟩
theorem jh.ok(hx:PE X x (sB i))(hk:PE X k (LE X.K tk))(h:PE X a (LE X.K ta))(hs:swapsWithSole [.Subscript x k sp] a pos.line X.env=pure false)(hw:swappedStores [.Subscript x k sp] a X.env=pure none)(h1:(assignEach [.Subscript x k sp] X.env).map (·.2)=[assign (.Subscript x k sp) X.env])
  (hg:PG X (.Subscript x k sp) (JX (sB i) (LE X.K tk) F0)):PS X (.Assign [.Subscript x k sp] a pos) (LS X.K (jh fz i tk ta)):=by
 refine (sJ (pos:=pos) h hg hs hw h1).weak λD σ H ⟨c,O,ss,R,q⟩=>?_;obtain⟨O',R⟩:=R.frz (fz:=fz);have q:(match (frz fz ss)[i]? with|some (.own l)=>ta.run (frz fz ss) λd=>tk.run (frz fz ss) λdk=>atD l dk λj=>(rZ X.K c D).nx ((frz fz ss).set i (.own (l.set j d)))|_=>False):=q;split at q
 ·rename_i l el;obtain⟨p,xs,g1,g2,g3,g4,g5⟩:=R.sl.own i l el;refine R.le q λd v H1 R1 e1 r w=>⟨_,g1,R1.le w λdk vk H2 R2 e2 rk w=>?_⟩;cases dk <;> first|exact False.elim w|skip
  rename_i z;cases (show vk=_ from rk);unfold atD at w;dsimp only at w;split at w
  ·rename_i j ej;have e12:=e1.trans e2;have r5:=R.sl.ups e12 g5;exact⟨p,xs,z,j,rfl,rfl,e12.sm.app p _ g3 g4,by rw[r5.len];exact ej,w O' σ _ (R2.wr el g1 (r5.set (R1.sl.up e2 r) j))⟩
  ·exact w.elim
 ·exact q.elim
def oAug:Operator->OD
 | .Add=>λx y Q=>match x,y with | .int i,.int j=>Q (.int (i+j)) | .str a,.str b=>a.length+b.length<=sizeLine/\Q (.str (a++b))|_,_=>False
 | .Sub=>oSub
 | .Mult=>λx y Q=>match x,y with | .int i,.int j=>CMulB i j/\Q (.int (i*j))|_,_=>False
 | .FloorDiv=>oDiv
 | _=>zE
theorem oAug.mono{op:Operator}:∀{x y Q Q'},(∀ d,Q d->Q' d)->oAug op x y Q->oAug op x y Q':=by
 cases op;all_goals first|exact oSub.mono|exact oDiv.mono|exact λ_ q=>q|skip
 all_goals (intro x y Q Q' h;cases x <;> cases y <;> intro q <;> first|exact h _ q|exact q|exact⟨q.1,h _ q.2⟩)
theorem Cz(hr:Room k X.A)(op:Operator):Rng X (inplaceOp op) (oAug op):=by
 cases op;case Add =>
  refine⟨_,OpR.or2 Fw yz,λf O σ ss H dx dy x y Q R rx ry h=>?_⟩;cases dx <;> cases dy <;> first|(exact False.elim h)|skip
  ·cases rx;cases ry;exact .inl ⟨_,_,rfl,rfl,h _ H (Ex.refl R.fl) rfl⟩
  ·cases rx;cases ry;exact .inr ⟨_,_,rfl,rfl,h.1,h.2 _ H (Ex.refl R.fl) rfl⟩
 case Sub =>
  refine⟨_,Fv,λf O σ ss H dx dy x y Q R rx ry h=>?_⟩;cases dx <;> cases dy <;> first|(exact False.elim h)|skip
  cases rx;cases ry;exact⟨_,_,rfl,rfl,h _ H (Ex.refl R.fl) rfl⟩
 case Mult=>exact uJ Dq λdx dy Q h=>by cases dx <;> cases dy <;> first|(exact False.elim h)|exact⟨_,_,rfl,rfl,h.1,h.2⟩
 case FloorDiv=>exact uJ (BL hr) λdx dy Q h=>by cases dx <;> cases dy <;> first|(exact False.elim h)|exact⟨_,_,rfl,rfl,h.1,h.2⟩
 all_goals exact Rng.never
def oS(fz:List Nat)(i:Nat)(op:Operator)(e:TEd):TSd:=⟨λE ss=>match (frz fz ss)[i]? with|some (.val x)=>e.run (frz fz ss) λy=>oAug op x y λz=>E.nx ((frz fz ss).set i (.val z))|_=>False,λ{E E' ss} h q=>by
 revert q;split
 ·exact e.mono λy=>oAug.mono λz=>h.nx _
 ·exact id⟩
theorem oS.ok(hk0:Room k0 X.A)(hN:X.N.Nodup)(hi:X.N[i]? = some x)(hx:yW X.env.scope x)(h:PE X a (LE X.K ta))(hf:X.fn x=true\/X.env.scope.names.lookup x=some .local) :
  PS X (.AugAssign (.Name x p') op a pos) (LS X.K (oS fz i op ta)):=by
 obtain⟨r,hr,hd⟩:=Cz (X:=X) hk0 op;refine (CM (pos:=pos) hN hi hx h (ti:=r) hr hf).weak λD σ H ⟨c,O,ss,R,q⟩=>?_;obtain⟨O',R⟩:=R.frz (fz:=fz);have q:(match (frz fz ss)[i]? with|some (.val x)=>ta.run (frz fz ss) λy=>oAug op x y λz=>(rZ X.K c D).nx ((frz fz ss).set i (.val z))|_=>False):=q;split at q
 ·rename_i dx ex;obtain⟨v,g1,g2⟩:=R.sl.val i dx ex;refine⟨v,g1,R.le q λdy y H1 R1 e1 ry w=>?_⟩;refine hd c.f O' σ _ H1 dx dy v y _ R1.sl (R.sl.up e1 g2) ry (oAug.mono (λz w v' H2 e2 rz=>?_) w);have R2:=R1.ex e2;exact w O' _ H2 (R2.to (R2.sl.set rz) Sub.set)
 ·exact q.elim
def augD(l:List D)(dk:D)(Q:Nat->D->Prop):Prop:=match dk with | .int z=>0<=z/\(match l[z.toNat]? with|some x=>Q z.toNat x|none=>False)|_=>False
theorem augD.mono{l:List D}{dk:D}{Q Q':Nat->D->Prop}(h:∀ j x,Q j x->Q' j x):augD l dk Q->augD l dk Q':=by
 cases dk <;> first|exact id|skip
 unfold augD;dsimp only;split
 ·exact λq=>⟨q.1,h _ _ q.2⟩
 ·exact id
def nX(fz:List Nat)(i:Nat)(k:TEd)(op:Operator)(e:TEd):TSd:=⟨λE ss=>match (frz fz ss)[i]? with|some (.own l)=>k.run (frz fz ss) λdk=>augD l dk λj x=>e.run (frz fz ss) λy=>oAug op x y λz=>E.nx ((frz fz ss).set i (.own (l.set j z)))|_=>False,λ{E E' ss} h q=>by
 revert q;split
 ·exact k.mono λdk=>augD.mono λj x=>e.mono λy=>oAug.mono λz=>h.nx _
 ·exact id⟩
theorem nX.ok(hk0:Room k0 X.A)(hx:PE X x (sB i))(hk:PE X k (LE X.K tk))(h:PE X a (LE X.K ta))(ha:∀ ov iv new,augStore k ov iv new=(do holding [new,ov,iv] (setItem ov iv new);release [new,ov,iv] [];pure .next)) :
  PS X (.AugAssign (.Subscript x k sp) op a pos) (LS X.K (nX fz i tk op ta)):=by
 obtain⟨r,hr,hd⟩:=Cz (X:=X) hk0 op;refine (EJ (pos:=pos) (tpos:=sp) hx hk (Lq X.K) h (tip:=r) hr rT ha).weak λD σ H ⟨c,O,ss,R,q⟩=>?_;obtain⟨O',R⟩:=R.frz (fz:=fz);have q:(match (frz fz ss)[i]? with|some (.own l)=>tk.run (frz fz ss) λdk=>augD l dk λj x=>ta.run (frz fz ss) λy=>oAug op x y λz=>(rZ X.K c D).nx ((frz fz ss).set i (.own (l.set j z)))|_=>False):=q;split at q
 ·rename_i l el;obtain⟨p,xs,g1,g2,g3,g4,g5⟩:=R.sl.own i l el;refine⟨_,g1,R.le q λdk vk H1 R1 e1 rk w=>?_⟩;cases dk <;> first|exact False.elim w|skip
  rename_i z;cases (show vk=_ from rk);obtain⟨z0,w⟩:=w;obtain⟨j,rfl⟩:=bo z0;rw[aG] at w;split at w
  ·rename_i dx hx;obtain⟨v,hv,rv⟩:=g5.get hx;refine⟨p,xs,v,j,rfl,rfl,SqL.of (e1.sm.app p _ g3 g4),hv,R1.le w λdy y H2 R2 e2 ry w=>?_⟩;refine hd c.f O' σ _ H2 dx dy v y _ R2.sl (R1.sl.up e2 (R.sl.up e1 rv)) ry (oAug.mono (λz w v' H3 e3 rz=>?_) w);have R3:=R2.ex e3;have e13:=e1.trans (e2.trans e3);have r5:=R.sl.ups e13 g5;have hj:j<xs.length:=(ai.mp hv).1;refine⟨p,xs,_,j,rfl,rfl,e13.sm.app p _ g3 g4,?_,w O' σ _ (R3.wr el g1 (r5.set rz j))⟩;unfold yy;rw[if_pos (by omega),if_pos (by omega),aG]
  ·exact w.elim
 ·exact q.elim
def ownInt(l:D)(b:TEd)(s:SS)(Q:List D->Int->Prop):Prop:=match l with
 | .lst l=>b.run s λd=>match d with | .int z=>Q l z|_=>False
 | _=>False
theorem ownInt.mono{l:D}{b:TEd}{s:SS}{Q Q':List D->Int->Prop}(h:∀ l z,Q l z->Q' l z):ownInt l b s Q->ownInt l b s Q':=by
 cases l <;> first|exact id|skip
 exact b.mono λd q=>by
  revert q;cases d <;> first|exact id|exact h _ _
def oE(fz:List Nat)(i j:Nat)(a b:TEd):TSd:=⟨λE ss=>a.run (frz fz ss) λd=>ownInt d b (frz fz ss) λl z=>E.nx (((frz fz ss).set i (.own l)).set j (.val (.int z))),λh q=>a.mono (λd q=>ownInt.mono (λl z q=>h.nx _ q) q) q⟩
theorem oE.weak{fz:List Nat}{i j:Nat}{D:Ends}{σ:St}{ta tb:TEd}(h:LS X.K (oE fz i j ta tb) D σ H):GO i j (ww (LF X.K ta) (ww (LE X.K tb) Et)) D σ H:=by
 obtain⟨c,O,ss,R,q⟩:=h;obtain⟨O',R⟩:=R.frz (fz:=fz);refine⟨c.f,O',_,R.sl,ta.mono (λd q=>?_) q⟩;cases d <;> first|exact False.elim q|skip
 rename_i l;refine⟨l,rfl,λp xs H1 e1 hp hx r=>?_⟩;have R1:=R.ex e1;refine R1.le q λd' v' H2 R2 e2 r' w=>?_;cases d' <;> first|exact False.elim w|skip
 rename_i z;cases (show v'=_ from r');have pO:p ∉ O':=λhO=>by
  obtain⟨ys,hy⟩:=R.sl.al p hO;rw[hp] at hy;cases hy
 have kp:=e2.kp R1.sl.fO;have kp':Kp (p::O') H1 H2:=λb o n h=>kp b o (λz=>n (az _ z)) h;have al':∀ b∈p::O',∃ xs,H1 b=some (.lst xs):=λb hb=>by
  rcases ao.mp hb with z|z
  ·exact⟨xs,z ▸ hx⟩
  ·exact R1.sl.al b z
 have R3:=R.mkOwn (i:=i) (e1.trans e2) hp (kp p _ pO hx) (r.kp kp' al');exact⟨.ref p,.int z,rfl,w (p::O') _ H2 (R3.to (R3.sl.set (i:=j) (d:=.int z) (v:=.int z) rfl) Sub.set)⟩
def startD(n:Nat)(ds:List D):SS:=ds.map SD.val++List.replicate (n-ds.length) SD.no
theorem startD.ok(fl:Fl H f)(fO:f∈O)(al:∀ a∈O,∃ xs,H a=some (.lst xs))(lO:∀ l r,H f=some (.lst (.ref l::r))->l ∉ O)(r:Rps K f O H ds vs):StR K ⟨f,O,H,O⟩ O (L2.start N vs) H (startD N.length ds):=by
 have len:(startD N.length ds).length=(L2.start N vs).length:=by
  unfold startD L2.start;rw[am,am,aa,aa,aI,aI,r.len]
 have get:∀{i:Nat} {s:SD},(startD N.length ds)[i]? = some s->(∃ d,s = .val d/\ds[i]? = some d)\/s = .no:=λ{i s} h=>by
  unfold startD at h;rcases aD i (ds.map SD.val).length with z|z
  ·rw[aR z,aJ] at h;obtain⟨d,h1,h2⟩:=ab.mp h;exact .inl ⟨d,h2.symm,h1⟩
  ·rw[ax z] at h;exact .inr (gb (aP h))
 refine⟨⟨fl,fO,al,lO,len,λi d h=>?_,λi l h=>?_⟩,λ_ h=>h,⟨λ_ _ h _ _=>h,λl r h=>⟨r,h⟩⟩,λa h=>.inl h,λi l a h=>?_⟩
 ·rcases get h with⟨d',e,h1⟩|e
  ·cases e;obtain⟨v,h2,h3⟩:=r.get h1;refine⟨v,?_,h3⟩;unfold L2.start;have hv:=(ai.mp h2).1;rw[aR (by rw[aa];exact hv),aJ,h2];rfl
  ·cases e
 ·rcases get h with⟨d',e,h1⟩|e <;> cases e
 ·rcases get h with⟨d',e,h1⟩|e <;> cases e
@[reducible] def rB(Q:D->Prop):EndsD:=⟨λ_=>Q .non,Q,λ_=>False,λ_=>False⟩
def Does(n:Nat)(t:TSd)(s:SpB):Prop:=∀ ds Q,ds.length=s.n->s.run ds Q->t.run (rB Q) (startD n ds)
theorem Does.ok(h:Does N.length t s)(hs:v8 K s.n s.run vs H Q E):LS K t { nx:=λ_ H'=>Q .non H',rt:=Q } (L2.start N vs) H:=by
 obtain⟨hn,f,O,ds,fl,fO,al,lO,r,q⟩:=hs;refine⟨⟨f,O,H,O⟩,O,_,startD.ok fl fO al lO r,?_⟩;have q:=h ds _ (r.len.symm.trans hn) q;refine t.mono ?_ q;refine⟨λs q O' σ' H' R=>?_,λd q v H' R=>?_,λ_ q=>q.elim,λ_ q=>q.elim⟩
 ·exact q .non H' ⟨⟨λb o n h=>R.kp.kp b o h n (by by_cases z:b∈O;exact .inl z;exact .inr z),R.kp.key⟩,R.sl.fl⟩ rfl
 ·exact q v H' ⟨⟨λb o n h=>R.kp.kp b o h n (by by_cases z:b∈O;exact .inl z;exact .inr z),R.kp.key⟩,R.fl⟩ R.rp
end Dp
namespace L2
open PySem PySem.Spec PyProof.Rows
theorem xp(a b:Int):Builtin.Range.rangeSize a b 1=if a<b then b-a else 0:=by
 unfold Builtin.Range.rangeSize;simp only[show ((1:Int) > 0) by decide,if_true,Int.ediv_one];split <;> omega
end L2
namespace Dp
open PySem L2
variable{K:Frag}{f:Addr}{O O':List Addr}{H H':Hp}{X:Cx}{σ:St}{ss:SS}{a b:Expr}{ta tb tc:TEd}{tA tB:TTd}{pos:Pos}{c:Cs}
def tS(K:Frag)(n:Nat)(sp:LJ):Sp:=λvs H Q _=>vs.length=n/\∃ f O ds,Fl H f/\f∈O/\(∀ a∈O,∃ xs,H a=some (.lst xs))/\(∀ l r,H f=some (.lst (.ref l::r))->l ∉ O)/\Rps K f O H ds vs/\sp ds λd=>∃ l,d = .lst l/\∀ p xs H',Ex f H H'->H p=none->H' p=some (.lst xs)->Rps K f (p::O) H' l xs->Q (.ref p) H'
theorem gX.okF{e:Expr}{s:SpB}{t:TAd}(h:PE X e (ye (tS X.K s.n s.run) [] E0 (LA X.K t))):PE X e (LF X.K (gX s t)):=h.weak λσ H Q ⟨f,O,ss,S,q⟩ =>
 ⟨f,O,ss,S,t.mono (λds q vs H1 e1 r1=>by
  have S1:=S.ex e1;refine⟨by rw[ci,r1.len];exact q.1,f,O,ds,S1.fl,S1.fO,S1.al,S1.lO,by rw[ci];exact r1,?_⟩;exact s.mono (λd ⟨l,el,q⟩=>⟨l,el,λp xs H' e hp hx r=>q p xs H' (e1.trans e) (e1.low (λz=>S1.nO hp (z ▸ S1.fO)) hp) hx r⟩) q.2) q⟩
theorem compD.okF{J:It}{ds:List D}{hide:List Nat}{g:TGd}{c:TTd}{e:TEd}{Q:VK}{H1:Hp}(S:SlD K f O σ H1 ss)(hg:∀ i∈g.tg,i∈hide)(D0:ItD K f O J H1 ds)(h:compD ds (rY hide ss) g c e λd=>∃ l,d = .lst l/\∀ p xs H',Ex f H1 H'->H1 p=none->H' p=some (.lst xs)->Rps K f (p::O) H' l xs->Q (.ref p) H') :
  A7 J (LG K g) (LT K c) (LE K e) (uu hide σ) Q H1:=by
 obtain⟨hl,I,q0,q1,q2⟩:=h;refine⟨λk m τ ys H=>∃ yd,SlD K f O τ H (rY hide ss)/\Rps K f O H yd ys/\yd.length<=k/\I k yd/\m=ds.length-k/\k<=ds.length/\Ex f H1 H,⟨_,[],S.hide,rfl,af _,q0,rfl,aC _,Ex.refl S.fl⟩,?_⟩;rintro k m τ ys H ⟨yd,S1,r1,l1,i1,rfl,k1,e1⟩;have kp:=e1.kp S.fO;rcases aD k ds.length with hk|hk
 ·refine .inr ⟨D0.go H k kp hk,by rw[r1.len];omega,λx H' y=>?_⟩;obtain⟨d,ed,e2,rd⟩:=D0.yld O H k x H' (λa z=>.inl z) S.fO S1.al kp S1.fl hk y;have S2:=S1.ex e2;refine⟨f,O,_,d,S2,rd,g.mono (λs1 q τ2 H2 e3 S3 _ ag=>?_) (q1 k d yd ed l1 i1)⟩;have S3':SlD K f O τ2 H2 (rY hide ss):=(S2.ex e3).agr ag λi hi=>vR (.inl (hg i hi));refine⟨f,O,s1,S3,c.mono (λb q H3 e4=>?_) q⟩;cases b with
  | true =>
   refine⟨f,O,s1,S3.ex e4,e.mono (λdy q v H4 e5 rv=>?_) q⟩;have e14:=e2.trans (e3.trans (e4.trans e5));exact⟨ds.length-(k+1),by omega,yd++[dy],(S3'.ex e4).ex e5,(S1.ups e14 r1).append ⟨v,[],rfl,rv,rfl⟩,by rw[am];simp;omega,q,rfl,hk,e1.trans e14⟩
  | false =>
   have e14:=e2.trans (e3.trans e4);exact⟨ds.length-(k+1),by omega,yd,S3'.ex e4,S1.ups e14 r1,by omega,q,rfl,hk,e1.trans e14⟩
 ·have ek:k=ds.length:=by omega
  subst ek;refine .inl ⟨D0.stop H kp,λp hp=>?_⟩;obtain⟨l,el,q⟩:=q2 yd l1 i1;cases el;exact q p _ _ (e1.trans (S1.new hp _)) (e1.low (λz=>S1.nO hp (z ▸ S1.fO)) hp) qK (Rps.skip S1 hp r1)
theorem iI.okF{scope:Scope}{hide:List Nat}{it:TAd}{g:TGd}{c:TTd}{e:TEd}{tg iter elt:Expr}{ifs:List Expr}(hc:X.calm=true)(Sc:CompS X.N X.env.scope scope hide)(hi:PI X tg iter (LI X.K it))
  (hg:∀ s2 H2 fp pins C,PG (sU X scope s2 H2 fp pins C) tg (LG X.K g)) (ht:∀ s2 H2 fp pins C,PTs (sU X scope s2 H2 fp pins C) ifs (LT X.K c)) (he:∀ s2 H2 fp pins C,PE (sU X scope s2 H2 fp pins C) elt (LE X.K e))
  (hs:∀ x,foldedSetIterable iter X.env x=pure x) (hh:∀ i∈g.tg,i∈hide):PE X (.ListComp elt [⟨tg,iter,ifs,0⟩] scope pos) (LF X.K (iI it hide g c e)) :=
 (xB (pos:=pos) hc Sc hi hg ht he hs).weak λσ H Q ⟨f,O,ss,S,q⟩=>⟨f,O,ss,S,it.mono (λds q J H1 e1 D0=>compD.okF (S.ex e1) hh D0 (compD.mono (λd ⟨l,el,q⟩=>⟨l,el,λp xs H' e hp hx r=>q p xs H' (e1.trans e) (e1.low (λz=>(S.ex e1).nO hp (z ▸ (S.ex e1).fO)) hp) hx r⟩) q)) q⟩
def pF(pk:List Nat)(k:TTd)(t u:TSd):TSd:=⟨λE ss=>k.run (frz pk ss) λb=>if b=true then t.run E ss else u.run E ss,λ{E E' ss} h q=>k.mono (λb q=>by
 revert q;cases b
 ·exact u.mono h
 ·exact t.mono h) q⟩
theorem pF.ok(hk:PT X a (LT X.K tA))(ht:PSs X st (LS X.K t))(hu:PSs X su (LS X.K u)):PS X (.If a st su pos) (LS X.K (pF pk tA t u)):=(u7 hk ht hu).weak λD σ H ⟨c,O,ss,R,q⟩=>by
 obtain⟨O',R'⟩:=R.frz (fz:=pk);refine⟨c.f,O',_,R'.sl,tA.mono (λb w H1 e=>?_) q⟩;cases b
 ·exact⟨c,O,_,R.ex e,w⟩
 ·exact⟨c,O,_,R.ex e,w⟩
end Dp
namespace L2
open PySem
def ED:V->List V->Hp->VK->Prop:=λx vs H Q=>∃ l xs y,∃ k:Nat,x = .ref l/\vs=[.int k,y]/\H l=some (.lst xs)/\k<=xs.length/\xs.length<sizeLine/\Q .non (rg H l (.lst (xs.take k++y::xs.drop k)))
theorem BE:Kz X "list.insert" ED:=by
 intro pins s σ H x vs v us Q I rx rv h;obtain⟨l,xs,y,k,rfl,rfl,hH,hk,hz,q⟩:=h;cases rx;obtain⟨u0,u,rfl,⟨t,rfl⟩,ru⟩:=rv.two;obtain⟨z,its,n,r,hl,e⟩:=I.lstM hH;have hn:(k:Int)<2^63:=by
  have:=rK;omega
 have hm : -(2^63)<=(k:Int):=Int.le_trans (by decide) (gM k);have hc:¬ (!Builtin.List.listFitsIndex (k:Int))=true:=by rw[fitsIndex_both hm hn];exact aB
 have hi:its.toArray.size<=sizeLine:=by rw[aj,← hl];exact dW hz
 have h0:¬ (k:Int)<0:=Int.not_lt.mpr (gM k);have h1:min (k:Int).toNat its.toArray.size=k:=by rw[aG,aj,dA (by rw[← hl];exact hk)]
 generalize (k:Int)=x at hc h0 h1 ⊢;refine call_meets PySem.F.slot_list_insert ⟨_,e,rfl⟩ PySem.F.entry_list_insert (PySem.F.args_list_insert_3 ..) (PySem.AutoSeq1.list_insert_list_int_val_1 l its.toArray n x t u hc hi) ⟨e,?_⟩;refine⟨.non,_,I.lset (its':=its.take k++u::its.drop k) hH e ?_ (Vals.append (r.take k) (.cons ru (r.drop k))) ?_,rfl,q⟩
 ·show (its.toArray.extract 0 (if x<0 then (x+(its.toArray.size:Int)).toNat else min x.toNat its.toArray.size)).push u++its.toArray.extract (if x<0 then (x+(its.toArray.size:Int)).toNat else min x.toNat its.toArray.size)=_;rw[if_neg h0,h1,PySem.W.kl_ins_eq]
 ·rw[am,bt,bh,dR];omega
end L2
namespace Dp
open PySem L2
variable{K:Frag}{f:Addr}{O O':List Addr}{H H':Hp}{X:Cx}{σ:St}{ss:SS}{a b:Expr}{ta tb tc:TEd}{tA tB:TTd}{pos:Pos}{c:Cs}
mutual
def D.lf:D->Bool
 | .tup ds=>D.lfs ds
 | .lst _=>false | .fl=>false
 | .exn _ _ ds=>D.lfs ds
 | .dct _ ds=>D.lfs ds
 | .int _=>true | .str _=>true | .non=>true | .bl _=>true
def D.lfs:List D->Bool
 | []=>true
 | d::ds=>d.lf && D.lfs ds
end
mutual
theorem Rp.any:∀{d:D} {v:V},d.lf=true->Rp K f O H d v->Rp K f O' H d v
 | .non,_,_,h=>h
 | .bl _,_,_,h=>h
 | .int _,_,_,h=>h
 | .str _,_,_,h=>h
 | .fl,_,z,_=>by cases z
 | .lst _,_,z,_=>by cases z
 | .tup l,v,z,h=>by
  obtain⟨a,xs,e1,h1,h2⟩:=h;exact⟨a,xs,e1,h1,Rps.any z h2⟩
 | .exn C x l,v,z,h=>by
  obtain⟨a,us,e1,h1,h2⟩:=h;exact⟨a,us,e1,h1,Rps.any z h2⟩
 | .dct ks l,v,z,h=>by
  obtain⟨a,us,e1,h1,h2,h3⟩:=h;exact⟨a,us,e1,h1,h2,Rps.any z h3⟩
theorem Rps.any:∀{ds:List D} {vs:List V},D.lfs ds=true->Rps K f O H ds vs->Rps K f O' H ds vs
 | [],_,_,h=>h
 | d::ds,_,z,h=>by
  have z:=ak.mp (show (d.lf && D.lfs ds)=true from z);obtain⟨v,r,e1,h1,h2⟩:=h;exact⟨v,r,e1,Rp.any z.1 h1,Rps.any z.2 h2⟩
end
def oF(pk:List Nat)(i:Nat)(e:TEd):TSd:=⟨λE ss=>e.run (frz pk ss) λd=>d.lf=true/\E.nx (ss.set i (.val d)),λh q=>e.mono (λd q=>⟨q.1,h.nx _ q.2⟩) q⟩
theorem oF.ok(hN:X.N.Nodup)(hi:X.N[i]? = some x)(hx:yW X.env.scope x)(h:PE X a (LE X.K ta))(hs:swapsWith a (some (.Name x p')) pos.line X.env=pure false)(hf:X.fn x=true\/X.env.scope.names.lookup x=some .local) :
  PS X (.Assign [.Name x p'] a pos) (LS X.K (oF pk i ta)):=(td hN hi hx h hs hf).weak λD σ H ⟨c,O,ss,R,q⟩=>by
 obtain⟨O',R'⟩:=R.frz (fz:=pk);refine⟨c.f,O',_,R'.sl,ta.mono (λd q v H1 e r=>?_) q⟩;have R1:=R.ex e;exact q.2 O _ H1 (R1.to (R1.sl.set (r.any q.1)) Sub.set)
theorem Rps.eraseIdx:∀{ds:List D} {vs:List V} (n:Nat),Rps K f O H ds vs->Rps K f O H (ds.eraseIdx n) (vs.eraseIdx n)
 | [],_,n,h=>by rw[show _=[] from h];rfl
 | d::ds,_,0,h=>by
  obtain⟨v,r,e1,h1,h2⟩:=h;subst e1;exact h2
 | d::ds,_,n+1,h=>by
  obtain⟨v,r,e1,h1,h2⟩:=h;subst e1;exact⟨v,_,rfl,h1,Rps.eraseIdx n h2⟩
def popD(l:List D)(dk:D)(Q:Nat->D->Prop):Prop:=match dk with | .int z=>0<=z/\∃ d,l[z.toNat]? = some d/\Q z.toNat d|_=>False
theorem popD.mono{l:List D}{dk:D}{Q Q':Nat->D->Prop}(h:∀ j x,Q j x->Q' j x):popD l dk Q->popD l dk Q':=by
 cases dk <;> first|exact id|exact fun⟨z,d,q1,q2⟩=>⟨z,d,q1,h _ _ q2⟩
def oG(j i:Nat)(k:TEd):TSd:=⟨λE ss=>match ss[i]? with|some (.own l)=>l.length<=sizeLine/\k.run ss λdk=>popD l dk λn d=>E.nx ((ss.set i (.own (l.eraseIdx n))).set j (.val d))|_=>False,λ{E E' ss} h q=>by
 revert q;split
 ·exact λq=>⟨q.1,k.mono (λdk=>popD.mono λn d=>h.nx _) q.2⟩
 ·exact id⟩
theorem oG.ok(hN:X.N.Nodup)(hj:X.N[j]? = some y)(hy:yW X.env.scope y)(hf:X.fn y=true\/X.env.scope.names.lookup y=some .local)(hx:PE X x (sB i))(hb:attributeBase x "pop" X.env (eval x X.env)=eval x X.env)(h:PE X a (LE X.K ta))(hs:starEach [a] X.env=[(false,eval a X.env)])(hl:(ap.endLine == cp.line)=true)(hw:swapsWith (.Call (.Attribute x "pop" ap) [a] [] cp) (some (.Name y p')) pos.line X.env=pure false) :
  PS X (.Assign [.Name y p'] (.Call (.Attribute x "pop" ap) [a] [] cp) pos) (LS X.K (oG j i ta)):=by
 refine (td (pos:=pos) hN hj hy (wH (apos:=ap) (cpos:=cp) PySem.F.plainAttrs_list PySem.F.slot_list_pop PySem.F.type_list_pop vM hx (qC h pa_nil hs) hb (by rw[hs];rfl) hl hs rfl) hw hf).weak λD σ H ⟨c,O,ss,R,q⟩=>?_;have q:(match ss[i]? with|some (.own l)=>l.length<=sizeLine/\ta.run ss λdk=>popD l dk λn d=>(rZ X.K c D).nx ((ss.set i (.own (l.eraseIdx n))).set j (.val d))|_=>False):=q;split at q
 ·rename_i l el;obtain⟨p,xs,h1,h2,h3,h4,h5⟩:=R.sl.own i l el;refine⟨_,h1,.inl ⟨rfl,xs,SqL.of h4⟩,R.le q.2 λdk v H1 R1 e1 r w=>?_⟩;cases dk <;> first|exact False.elim w|skip
  rename_i z;obtain⟨z0,d,w1,w2⟩:=w;cases (show v=_ from r);obtain⟨k,rfl⟩:=bo z0;rw[aG] at w1 w2;have hp:=e1.sm.app p _ h3 h4;have r5:=R.sl.ups e1 h5;obtain⟨v,hv,rv⟩:=r5.get w1;have hk:=(ai.mp hv).1;have hn:=rK;have hz:=q.1;have hle:=r5.len;have R2:=R1.wr el h1 (r5.eraseIdx k);have kp:Kp O H1 (rg H1 p (.lst (xs.eraseIdx k))):=λb o n q=>by
   rw[qJ (by rintro rfl;exact n h2)];exact q
  refine⟨p,xs,k,k,v,rfl,rfl,hp,by omega,by omega,?_,hv,w2 O _ _ (R2.to (R2.sl.set (rv.kp kp R1.sl.al)) Sub.set)⟩;unfold seqIndex?;first|(rw[if_neg (by omega)];simp;omega)|(simp;omega)
 ·exact q.elim
def oH(i j:Nat)(k:TEd):TSd:=⟨λE ss=>match ss[i]?,ss[j]? with|some (.own l),some (.own m)=>i≠j/\l.length<sizeLine/\m.length<=sizeLine/\k.run ss λdk=>popD m dk λn d=>E.nx ((ss.set j (.own (m.eraseIdx n))).set i (.own (l++[d])))|_,_=>False,λ{E E' ss} h q=>by
 revert q;split
 ·exact λq=>⟨q.1,q.2.1,q.2.2.1,k.mono (λdk=>popD.mono λn d=>h.nx _) q.2.2.2⟩
 ·exact id⟩
theorem oH.ok(hx:PE X x (sB i))(hb:attributeBase x "append" X.env (eval x X.env)=eval x X.env)(hl:(ap.endLine == cp.line)=true)(hy:PE X y (sB j))(hb2:attributeBase y "pop" X.env (eval y X.env)=eval y X.env)(hl2:(ap2.endLine == cp2.line)=true)(h:PE X a (LE X.K ta))(hs:starEach [a] X.env=[(false,eval a X.env)])
  (hw:swapsWith (.Call (.Attribute x "append" ap) [.Call (.Attribute y "pop" ap2) [a] [] cp2] [] cp) none pos.line X.env=pure false) :
  PS X (.Expr (.Call (.Attribute x "append" ap) [.Call (.Attribute y "pop" ap2) [a] [] cp2] [] cp) pos) (LS X.K (oH i j ta)):=by
 refine (um (pos:=pos) (wH (apos:=ap) (cpos:=cp) PySem.F.plainAttrs_list PySem.F.slot_list_append PySem.F.type_list_append wJ hx (qC (wH (apos:=ap2) (cpos:=cp2) PySem.F.plainAttrs_list PySem.F.slot_list_pop PySem.F.type_list_pop vM hy (qC h pa_nil hs) hb2 (by rw[hs];rfl) hl2 hs rfl) pa_nil rfl) hb rfl hl rfl rfl) hw).weak λD σ H ⟨c,O,ss,R,q⟩=>?_;have q:(match ss[i]?,ss[j]? with|some (.own l),some (.own m)=>i≠j/\l.length<sizeLine/\m.length<=sizeLine/\ta.run ss λdk=>popD m dk λn d=>(rZ X.K c D).nx ((ss.set j (.own (m.eraseIdx n))).set i (.own (l++[d])))|_,_=>False):=q;split at q
 ·rename_i l m el em;obtain⟨p,xs,h1,h2,h3,h4,h5⟩:=R.sl.own i l el;obtain⟨p',xs',g1,g2,g3,g4,g5⟩:=R.sl.own j m em;obtain⟨ne,q1,q2,q⟩:=q;refine⟨_,h1,.inl ⟨rfl,xs,SqL.of h4⟩,⟨_,g1,.inl ⟨rfl,xs',SqL.of g4⟩,R.le q λdk v H1 R1 e1 r w=>?_⟩⟩;cases dk <;> first|exact False.elim w|skip
  rename_i z;obtain⟨z0,d,w1,w2⟩:=w;cases (show v=_ from r);obtain⟨k,rfl⟩:=bo z0;rw[aG] at w1 w2;have hp:=e1.sm.app p _ h3 h4;have hp':=e1.sm.app p' _ g3 g4;have r5:=R.sl.ups e1 h5;have r5':=R.sl.ups e1 g5;obtain⟨v,hv,rv⟩:=r5'.get w1;have hk:=(ai.mp hv).1;have hn:=rK;have hle:=r5'.len;have pp:p≠p':=by
   rintro rfl;exact ne ((R.own j m p em g1).2.2 i l el h1)
  have R2:=R1.wr em g1 (r5'.eraseIdx k);have kp:Kp O H1 (rg H1 p' (.lst (xs'.eraseIdx k))):=λb o n q=>by
   rw[qJ (by rintro rfl;exact n g2)];exact q
  have el2:(ss.set j (.own (m.eraseIdx k)))[i]? = some (.own l):=by rw[aH (Ne.symm ne)];exact el
  have r6:Rps X.K c.f O (rg H1 p' (.lst (xs'.eraseIdx k))) (l++[d]) (xs++[v]):=(r5.kp kp R1.sl.al).append ⟨v,[],rfl,rv.kp kp R1.sl.al,rfl⟩;have R3:=R2.wr el2 h1 r6;refine⟨p',xs',k,k,v,rfl,rfl,hp',by omega,by omega,?_,hv,⟨p,xs,v,rfl,rfl,by rw[qJ pp];exact hp,by rw[r5.len];exact q1,w2 O σ _ R3⟩⟩;unfold seqIndex?;first|(rw[if_neg (by omega)];simp;omega)|(simp;omega)
 ·exact q.elim
def insD(l:List D)(dk d:D)(Q:Nat->Prop):Prop:=d.lf=true/\l.length<sizeLine/\(match dk with | .int z=>0<=z/\z<=(l.length:Int)/\Q z.toNat|_=>False)
theorem insD.mono{l:List D}{dk d:D}{Q Q':Nat->Prop}(h:∀ j,Q j->Q' j):insD l dk d Q->insD l dk d Q':=by
 cases dk <;> first|exact id|exact fun⟨z1,z2,z3,z4,q⟩=>⟨z1,z2,z3,z4,h _ q⟩
def pQ(pk:List Nat)(i:Nat)(k e:TEd):TSd:=⟨λE ss=>match ss[i]? with|some (.own l)=>k.run (frz pk ss) λdk=>e.run (frz pk ss) λd=>insD l dk d λn=>E.nx (ss.set i (.own (l.take n++d::l.drop n)))|_=>False,λ{E E' ss} h q=>by
 revert q;split
 ·exact k.mono λdk=>e.mono λd=>insD.mono λn=>h.nx _
 ·exact id⟩
theorem pQ.ok(hx:PE X x (sB i))(hb:attributeBase x "insert" X.env (eval x X.env)=eval x X.env)(h:PE X a (LE X.K ta))(h':PE X b (LE X.K tb))(hs:starEach [a,b] X.env=[(false,eval a X.env),(false,eval b X.env)])(hs2:starEach [b] X.env=[(false,eval b X.env)])(hl:(ap.endLine == cp.line)=true)(hw:swapsWith (.Call (.Attribute x "insert" ap) [a,b] [] cp) none pos.line X.env=pure false) :
  PS X (.Expr (.Call (.Attribute x "insert" ap) [a,b] [] cp) pos) (LS X.K (pQ pk i ta tb)):=by
 refine (um (pos:=pos) (wH (apos:=ap) (cpos:=cp) PySem.F.plainAttrs_list PySem.F.slot_list_insert PySem.F.type_list_insert BE hx (qC h (qC h' pa_nil hs2) (by rw[hs,hs2])) hb (by rw[hs];rfl) hl (by rw[hs,hs2]) (by rw[hs2];rfl)) hw).weak λD σ H ⟨c,O,ss,R,q⟩=>?_;obtain⟨O',R'⟩:=R.frz (fz:=pk);have q:(match ss[i]? with|some (.own l)=>ta.run (frz pk ss) λdk=>tb.run (frz pk ss) λd=>insD l dk d λn=>(rZ X.K c D).nx (ss.set i (.own (l.take n++d::l.drop n)))|_=>False):=q;split at q
 ·rename_i l el;obtain⟨p,xs,h1,h2,h3,h4,h5⟩:=R.sl.own i l el;refine⟨_,h1,.inl ⟨rfl,xs,SqL.of h4⟩,⟨c.f,O',_,R'.sl,ta.mono (λdk w v H1 e1 r=>⟨c.f,O',_,(R'.ex e1).sl,tb.mono (λd w v' H2 e2 r'=>?_) w⟩) q⟩⟩;obtain⟨w1,w2,w3⟩:=w;cases dk <;> first|exact False.elim w3|skip
  rename_i z;obtain⟨w3,w4,w5⟩:=w3;cases (show v=_ from r);obtain⟨k,rfl⟩:=bo w3;rw[aG] at w5;have e12:=e1.trans e2;have hp:=e12.sm.app p _ h3 h4;have r5:=R.sl.ups e12 h5;have R2:=R.ex e12;have hle:=r5.len;exact⟨p,xs,v',k,rfl,rfl,hp,by omega,by omega,w5 O σ _ (R2.wr el h1 ((r5.take k).append ⟨v',_,rfl,r'.any w1,r5.drop k⟩))⟩
 ·exact q.elim
def oI(fz:List Nat)(i j k:Nat)(a c:TEd):TSd:=⟨λE ss=>a.run (frz fz ss) λd=>c.run (frz fz ss) λd'=>d'.lf=true/\E.nx ((((frz fz ss).set i (.val d)).set j (.own [])).set k (.val d')),λh q=>a.mono (λd q=>c.mono (λd' q=>⟨q.1,h.nx _ q.2⟩) q) q⟩
theorem oI.ok(ha:PE X a (LE X.K ta))(hb:PE X b (LE X.K tb))(hs1:starEach [a,.List [] pl,b] X.env=(false,eval a X.env)::starEach [.List [] pl,b] X.env)(hs3:starEach [b] X.env=[(false,eval b X.env)])(hg:PG X (.Tuple es kt pt) (Ig X.K 3 (gsAll [i,j,k])))
  (hs:swapsWithSole [.Tuple es kt pt] (.Tuple [a,.List [] pl,b] k2 pt2) pos.line X.env=pure false) (hw:swappedStores [.Tuple es kt pt] (.Tuple [a,.List [] pl,b] k2 pt2) X.env=pure none) (h1:(assignEach [.Tuple es kt pt] X.env).map (·.2)=[assign (.Tuple es kt pt) X.env]) :
  PS X (.Assign [.Tuple es kt pt] (.Tuple [a,.List [] pl,b] k2 pt2) pos) (LS X.K (oI fz i j k ta tb)):=by
 refine (sJ (pos:=pos) (zo (qC ha (qC (xz pa_nil) (qC hb pa_nil hs3) rfl) hs1)) hg hs hw h1).weak λD σ H ⟨c0,O,ss,R,q⟩=>?_;obtain⟨O',R⟩:=R.frz (fz:=fz);refine R.le q λd v1 H1 R1 e1 r1 w=>?_;refine⟨aC _,λp hp=>?_⟩;have pO:p ∉ O':=R1.sl.nO hp;have pf:p≠c0.f:=λz=>pO (z ▸ R1.sl.fO);have R2:=R1.ex (R1.sl.new hp (.lst []));refine R2.le w λd' v3 H3 R3 e3 r3 w=>⟨by show 3<=sizeLine;decide,λp' hp'=>?_⟩;have h3:H3 p=some (.lst []):=e3.sm.app p _ pf qK;have e4:=R3.sl.new hp' (.tup [v1,.ref p,v3]);have ne:p≠p':=by rintro rfl;rw[hp'] at h3;cases h3
 have S0:=R1.to (R1.sl.set (i:=i) r1) Sub.set;have S1:=S0.mkOwn (i:=j) (l:=[]) (xs:=[]) ((R1.sl.new hp (.lst [])).trans (e3.trans e4)) hp (by rw[qJ ne];exact h3) rfl;have S2:=S1.to (S1.sl.set (i:=k) ((R3.sl.up e4 r3).any (O':=p::O') w.1)) Sub.set;exact⟨p',_,rfl,SqT.of qK,rfl,_,_,rfl,_,_,rfl,_,_,rfl,rfl,w.2 _ _ _ S2⟩
end Dp
namespace Dp
open PySem L2
variable{K:Frag}{f:Addr}{O O':List Addr}{H H':Hp}{X:Cx}{σ:St}{ss:SS}{pos:Pos}
def ot(fz:List Nat)(i:Nat)(e:TEd):TSd:=⟨λE ss=>match (frz fz ss)[i]? with|some (.own l)=>e.run (frz fz ss) λd=>∃ l',d = .lst l'/\l.length+l'.length<=sizeLine/\E.nx ((frz fz ss).set i (.own (l++l')))|_=>False,λ{E E' ss} h q=>by
 revert q;split
 ·exact e.mono λd ⟨l',a,b,q⟩=>⟨l',a,b,h.nx _ q⟩
 ·exact id⟩
end Dp
namespace Dp
open PySem L2
variable{K:Frag}{f:Addr}{O O':List Addr}{H H':Hp}{X:Cx}{σ:St}{ss:SS}{a:Expr}{ta:TEd}{pos:Pos}
def HJ(l:List D):List D:=(List.range (l.length / 2)).filterMap λm=>l[1+m*2]?
theorem Rps.odds(r:Rps K f O H ds vs):∀ ms:List Nat,Rps K f O H (ms.filterMap λm=>ds[1+m*2]?) (ms.filterMap λm=>vs[1+m*2]?)
 | []=>.nil
 | m::ms=>by
  have ih:=Rps.odds r ms;rw[bq,bq];cases hx:ds[1+m*2]? with
  | none =>
   have:vs[1+m*2]? = none:=by
    have h1:=cP.mp hx;exact cP.mpr (by rw[r.len];exact h1)
   rw[this];exact ih
  | some x =>
   obtain⟨u,hu,ru⟩:=r.get hx;rw[hu];exact .cons ru ih
theorem Rps.odd(r:Rps K f O H ds vs):Rps K f O H (HJ ds) (Bv vs):=by
 unfold HJ Bv;rw[r.len];exact r.odds _
def pG(a:TEd):TEd:=⟨λss Q=>a.run ss λd=>match d with | .tup l=>Q (.tup (HJ l))|_=>False,λ{ss Q Q'} h q=>a.mono (λd q=>by
 revert q;cases d <;> first|exact h _|exact id) q⟩
theorem pG.ok(ha:PE X a (LE X.K ta)):PE X (.Subscript a (.Slice (some (.Constant (.int 1) j p1)) none (some (.Constant (.int 2) k p3)) p2) pos) (LE X.K (pG ta)):=by
 refine (wE (pos:=pos) (p2:=p2) (Lc X.K) ha (vh (qI (j:=j) (pos:=p1))) po_none (vh (qI (j:=k) (pos:=p3)))).weak λσ H Q ⟨f,O,ss,S,q⟩=>?_;refine⟨f,O,ss,S,ta.mono (λd q v H1 e1 r=>?_) q⟩;have S1:=S.ex e1;cases d <;> first|exact False.elim q|skip
 rename_i l;obtain⟨p,xs,rfl,h1,h2⟩:=r;exact⟨_,rfl,_,rfl,rfl,rfl,rfl,p,xs,rfl,h1,λp hp=>q _ _ (e1.trans (S1.new hp _)) (S1.tup hp h2.odd)⟩
end Dp
set_option maxHeartbeats 1000000
namespace DL
open PySem PySem.Spec PyProof.Rows L2
variable{prog:Program}{w:World}{A:Around}{E:Value->Shared->Prop}{s:Shared}
theorem J1:fillsInplaceSlot (.type "list") "add" true=pure false:=by
 unfold fillsInplaceSlot;dsimp only;rw[F.slot_list_iadd.lookup];rfl
theorem Bh:typeLookup (.type "list") (dunderR "add")=pure none:=am_miss_of_fast (by decide +kernel)
theorem Ii:fillsNumberSlot (.type "list") "add" = pure false:=by
 unfold fillsNumberSlot;dsimp only;rw[F.slot_list_add.lookup,Bh];rfl
theorem one(h1:s.TypeIs (.ref l) "list")(h2:s.TypeIs (.ref b) "list")(q:Q none s):wpAny (model prog w) A (binaryOp1 "add" (.ref l) (.ref b)) Q E s:=by
 unfold binaryOp1;refine ηB (wpAny_typeOf h1 ?_);refine ηB (wpAny_typeOf h2 ?_);refine ηB ?_;rw[Ii];refine ηP ?_;dsimp only;have e:(Value.type "list" == Value.type "list")=true:=by decide
 rw[e];refine ηB (ηP ?_);simp only[eI,bQ,if_false];refine ηB (ηP ?_);exact ηP q
theorem seq:seqSlot? (.type "list") (dunderI "add")=pure (some (.builtin "list.__iadd__")):=by
 unfold seqSlot?;dsimp only;rw[F.slot_list_iadd.lookup];rfl
theorem BN(h1:s.TypeIs (.ref l) "list")(h2:s.TypeIs (.ref b) "list")(q:wpAny (model prog w) A (call (.builtin "list.__iadd__") [.ref l,.ref b]) Q E s):wpAny (model prog w) A (inplaceOp .Add (.ref l) (.ref b)) Q E s:=by
 unfold inplaceOp;refine wpAny_holding ?_;dsimp only;refine ηB (wpAny_typeOf h1 ?_);refine ηB ?_;show wpAny _ _ (fillsInplaceSlot (.type "list") "add" true) ..;rw[J1];refine ηP ?_;simp only[bQ,if_false];show wpAny _ _ (binaryOp1 "add" (.ref l) (.ref b) >>= _) ..;refine ηB (one h1 h2 ?_);dsimp only;show wpAny _ _ (seqSlot? (.type "list") (dunderI "add") >>= _) ..;rw[seq];refine ηB (ηP ?_);exact ηB (wpAny_rule q)
end DL
namespace L2
open PySem PySem.Spec
variable{X:Cx}
def LW:IQ:=λx y H Q=>∃ l b xs zs,x = .ref l/\y = .ref b/\H l=some (.lst xs)/\H b=some (.lst zs)/\xs.length+zs.length<=sizeLine/\Q (.ref l) (rg H l (.lst (xs++zs)))
theorem CO:LK X .Add LW:=by
 intro pins s σ H x y v u Q I rx ry h;obtain⟨l,b,xs,zs,rfl,rfl,hH,hB,hz,q⟩:=h;cases rx;cases ry;obtain⟨z,its,n,r,hl,e⟩:=I.lstM hH;obtain⟨z2,its2,n2,r2,hl2,e2⟩:=I.lstM hB;have hsz:its.toArray.size+its2.toArray.size<=sizeLine:=by rw[aj,aj];omega
 have hlong:¬ (!its.toArray.isEmpty && Builtin.List.listTooLong (its.toArray.size+its2.toArray.size))=true:=by
  rw[yw hsz,Bool.and_false];exact aB
 refine DL.BN ⟨_,e,rfl⟩ ⟨_,e2,rfl⟩ ?_;refine call_meets F.slot_list_iadd ⟨_,e,rfl⟩ F.entry_list_iadd (F.args_list_iadd_2 _ _)
  (AutoSeq1.list___iadd___list_list_0 l its.toArray n b its2.toArray n2 hlong (by rw[aj];omega) (by omega)) ⟨e,e2,?_⟩
 refine⟨.ref l,_,I.lset (its':=its++its2) hH e (by simp) (r.append r2) ?_,rfl,q⟩;rw[am];omega
end L2
namespace Dp
open PySem L2
variable{K:Frag}{f:Addr}{O O':List Addr}{H H':Hp}{X:Cx}{σ:St}{ss:SS}{pos:Pos}
theorem ot.okA(hN:X.N.Nodup)(hi:X.N[i]? = some x)(hx:yW X.env.scope x)(h:PE X a (LE X.K ta))(hf:X.fn x=true\/X.env.scope.names.lookup x=some .local) :
  PS X (.AugAssign (.Name x p') .Add a pos) (LS X.K (ot fz i ta)):=by
 refine (CM (pos:=pos) hN hi hx h (ti:=LW) CO hf).weak λD σ H ⟨c,O,ss,R,q⟩=>?_;obtain⟨O',R⟩:=R.frz (fz:=fz);have q:(match (frz fz ss)[i]? with|some (.own l)=>ta.run (frz fz ss) λd=>∃ l',d = .lst l'/\l.length+l'.length<=sizeLine/\(rZ X.K c D).nx ((frz fz ss).set i (.own (l++l')))|_=>False):=q;split at q
 ·rename_i l el;obtain⟨p,xs,h1,h2,h3,h4,h5⟩:=R.sl.own i l el;refine⟨_,h1,R.le q λd v H1 R1 e1 r ⟨l',ed,w1,w2⟩=>?_⟩;subst ed;obtain⟨b,zs,rfl,nb,hb',rs⟩:=r;have hp:=e1.sm.app p _ h3 h4;have r5:=R.sl.ups e1 h5;refine⟨p,b,xs,zs,rfl,rfl,hp,hb',by rw[r5.len,rs.len];exact w1,?_⟩;have es:σ.set i (some (.ref p))=σ:=by
   obtain⟨hlt,e2⟩:=ai.mp h1;rw[← e2];exact List.set_getElem_self hlt
  show D.nx (σ.set i (some (.ref p))) _;rw[es];exact w2 O' σ _ (R1.wr el h1 (r5.append rs))
 ·exact q.elim
end Dp
namespace L2
open PySem PySem.Spec PyProof.Rows
section
variable{prog:Program}{w:World}{A:Around}{E:Value->Shared->Prop}
theorem wY(hh:A.handled=none)(ne:l≠I):∀(n i:Nat) (s:Shared) (Q:List Value->Shared->Prop),s.heap.IsListIter I l i->s.heap.IsList l items->i+n<=items.size ->
  (∀(h':Heap) (tk:Nat),h'.IsListIter I l (i+n)->(∀ b o,b≠I->s.heap.get? b=some o->h'.get? b=some o)->Q ((items.toList.drop i).take n) { s with heap:=h',toks:=tk })->wpAny (model prog w) A (draw (.ref I) n) Q E s
 | 0,i,s,Q,hi,hl,hn,q=>by
  have:=q s.heap s.toks (by simpa using hi) λb o _ e=>e;rw[dF] at this;exact ηP this
 | n+1,i,s,Q,hi,hl,hn,q=>by
  have W:=Walks.list (prog:=prog) (w:=w) (A:=A) hh I l ne items;show wpAny (model prog w) A (draw (.ref I) (n+1)) Q E s;unfold draw;refine ηB (W.item i s _ _ (by omega) ⟨hi,hl⟩ λv h' tk hv hst k=>?_);have k:∀ b o,b≠I->s.heap.get? b=some o->h'.get? b=some o:=λb o hb e=>k b o (by simpa using hb) e;dsimp only;refine ηB (wpAny_holding ?_);refine wY hh ne n (i+1) _ _ hst.1 hst.2 (by omega) λh2 tk2 a1 a2=>?_;refine ηP ?_;have e:(items.toList.drop i).take (n+1)=v::(items.toList.drop (i+1)).take n:=by
   have hi':i<items.toList.length:=by rw[bX];omega
   rw[cQ hi',List.take_succ_cons];congr 1;have hv':items.toList[i]? = some v:=by rw[cJ];exact hv
   rw[ar hi'] at hv';exact Option.some.inj hv'
  rw[← e];exact q h2 tk2 (by rw[show i+(n+1)=i+1+n by omega];exact a1) λb o hb e=>a2 b o hb (k b o hb e)
theorem uF(hh:A.handled=none)(hl:s.heap.IsList l items)
  (h:∀(h':Heap) (tk:Nat),(∀ b o,s.heap.get? b=some o->h'.get? b=some o)->Q items.toList { s with heap:=h',toks:=tk }):wpAny (model prog w) A (unpackItems (.ref l) items.size none) Q E s:=by
 have hl0:=hl;obtain⟨o,h1,h2,h3⟩:=hl;have hT:s.TypeIs (.ref l) "list" := ⟨o,h1,h2⟩;have hlt:=ηL h1;unfold unpackItems;refine ηB ?_;refine ηB (wpAny_specialOf hT F.slot_list_iter.lookup (ηP ?_));rw[if_neg (by decide)];refine ηB (wpAny_holding ?_);refine wpAny_pyIter_list hl0 ?_;have ne:l≠s.heap.objs.size:=aO hlt;refine ηB (wpAny_holding (wY hh ne items.size 0 _ _ ⟨_,ηG _ rfl,rfl,rfl⟩ ⟨o,ηH _ h1,h2,h3⟩ (by omega) λh' tk a1 a2=>?_));rw[fJ,gq (by rw[bX];exact af _)];rw[if_neg (by rw[bX];exact br _)];have W:=Walks.list (prog:=prog) (w:=w) (A:=A) hh s.heap.objs.size l ne items;refine ηB (wpAny_holding (W.done _ _ _ ⟨by simpa using a1,⟨o,a2 _ _ ne (ηH _ h1),h2,h3⟩⟩ λh2' tk2 k=>?_));refine ηP ?_;refine h h2' tk2 λb o' e=>k b o' (by intro z;rw[aV.mp z] at e;exact absurd (ηL e) (br _)) (a2 b o' (aO (ηL e)) (ηH _ e))
end
section
variable{X:Cx}{pos:Pos}
def JW(K:Frag)(n:Nat)(t:Ek):TG:=λv σ H Q=>∃ a xs,v = .ref a/\SqL K H a xs/\xs.length=n/\t xs σ H Q
theorem Hs(hc:X.calm=true)(h:IR X es t)
  (hn:(assignEach es X.env).length=n:=by rfl) (hst:(assignEach es X.env).findIdx? (·.1)=none:=by rfl):PG X (.Tuple es k pos) (JW X.K n t):=by
 intro pins s σ H v u Q I r hw;obtain⟨a,xs,e1,hq,hl,hw⟩:=hw;subst e1;cases r;obtain⟨its,rv,ht,hz⟩:=I.list hq;have e:(assignEach es X.env).length=its.toArray.size:=by simp[hn,← hl,rv.length]
 rw[assign_Tuple];refine ηB (wpAny_standAt ?_);unfold unpack;rw[e,hst];refine ηB (wpAny_holding (uF (I.ok.hd hc) ht.isList λh' tk hx=>?_));have I1:Inv X pins σ H { s with heap:=h',toks:=tk }:=I.kept hx;exact h pins _ σ H xs _ Q I1 (by simpa using rv) hw
end
section
variable{prog:Program}{w:World}{A:Around}{E:Value->Shared->Prop}{s:Shared}
theorem Dt:typeLookup (Value.type "list_reverseiterator") (Str.ofString "__length_hint__")=pure (some (.builtin "list_reverseiterator.__length_hint__")):=by kernel_rfl
theorem Bx:typeLookup (Value.type "list_reverseiterator") (Str.ofString "__len__")=pure none:=by kernel_rfl
theorem wO{its:List Value}(h:ItemsOf (λi v=>its.toArray[its.toArray.size-1-i]? = some v) acc its.toArray.size):acc.toList=its.reverse:=by
 obtain⟨h0,h2⟩:=h;have h1:acc.size=its.length:=h0.trans aj;clear h0;apply gK;intro j;rw[cJ];by_cases hj:j<its.length
 ·have:=h2 j _ (fK (by omega));rw[aj,eg] at this;rw[fK (by omega),bJ hj,this]
 ·rw[Array.getElem?_eq_none (by omega),bw (by rw[aM];omega)]
theorem AW(hh:A.handled=none)(ne:l≠I)(nI:S≠I)(nl:S≠l)(hr:s.heap.IsRevIter I l ((items.size:Int)-1))(hl:s.heap.IsList l items)(hn:items.size<=sizeLine)(hS:∃ c,s.heap.get? S=some { cls:=.type "list",data:=.seq #[] c })
  (h:∀(s':Shared) (acc:Array Value) (c:Nat),Moved [S,I] (λa b=>b=a) s s'->s'.heap.get? S=some { cls:=.type "list",data:=.seq acc c }->ItemsOf (λi v=>items[items.size-1-i]? = some v) acc items.size->R (.ok (.ret r)) s') :
  wpAny (model prog w) A.in1 (Builtin.List.listExtendWith (.ref S) (.ref I) r)
   (λfin s'=>match fin with
    | .done f=>R (.ok f) s'
    | .again c'=>c'.quiet=true/\codeAny (model prog w) A c' R s')
   (λe s'=>R (.error e) s') s:=by
 have hr0:=hr;obtain⟨o,h1,h2,h3⟩:=hr;have hT:s.TypeIs (.ref I) "list_reverseiterator" := ⟨o,h1,h2⟩;unfold Builtin.List.listExtendWith;refine ηB (wpAny_typeOf hT ?_);have hne:(S == I)=false:=by
  rw[beq_eq_false_iff_ne];exact nI
 rw[if_neg (show ¬ (Builtin.List.listSameRef (Value.ref S) (Value.ref I) || Value.type "list_reverseiterator" == Value.type "list" || Value.type "list_reverseiterator" == Value.type "tuple")=true by
  show ¬ (((S == I) || false || false)=true);rw[hne];decide)]
 refine ηB (wpAny_pyIter_revIter hr0 ?_);refine ηB (wpAny_holding ?_);unfold Builtin.List.listLengthHint;refine ηB (wpAny_specialOf hT Bx ?_);dsimp only;rw[if_neg (show ¬ ((none:Option Value).isSome=true) from aB)];refine ηB (wpAny_specialOf hT Dt ?_);dsimp only;rw[show splitId "list_reverseiterator.__length_hint__" = some ("list_reverseiterator", "__length_hint__") by kernel_rfl];dsimp only;refine ηB (wpAny_isInstance hT (b:=true) (by rw[isSubtype_type];kernel_rfl) ?_);rw[if_neg (show ¬ ((!true)=true) from aB)];refine wpAny_of_eq (a:=false) ?_ ?_
 ·first|rfl|kernel_rfl
 split
 ·rename_i z;exact absurd z (by decide +kernel)
 obtain⟨c0,hS⟩:=hS;refine ηP ⟨plainId_quiet F.plain_extend_loop _,?_⟩;refine codeAny_extend_loopS (Walks.toS (Walks.listRev (A:=A.in1) hh I l ne items)) hn S ?_ _ items.size 0 _ #[] c0 rfl (aC _) ?_ hS ?_ ?_
 ·intro z;rcases ao.mp z with z|z
  ·exact nI z
  ·exact nl (aV.mp z)
 ·exact⟨aC _,by simpa using hr0,hl⟩
 ·exact⟨rfl,λj v z=>by simp at z⟩
 ·intro s' acc c M hg it;exact h s' acc c M hg it
theorem yN(hh:A.handled=none)(ne:l≠I)(hr:s.heap.IsRevIter I l ((items.size:Int)-1))(hl:s.heap.IsList l items)(hn:items.size<=sizeLine)
  (h:∀(s':Shared) (acc:Array Value),Moved [I] (λa b=>b=a) s s'->ItemsOf (λi v=>items[items.size-1-i]? = some v) acc items.size->Q acc.toList s'):wpAny (model prog w) A (collect (.ref I)) Q E s:=by
 have hI:I<s.heap.objs.size:=by
  obtain⟨o,h1,_⟩:=hr;exact ηL h1
 have hL:l<s.heap.objs.size:=by
  obtain⟨o,h1,_⟩:=hl;exact ηL h1
 unfold collect;refine ηB (wpAny_runValue (codeAny_builtin F.entry_proto_collect ?_));rw[Around.under_plainId F.plain_proto_collect _];unfold Builtin.«proto.collect»;dsimp only;unfold newList;refine ηB (wpAny_newObj_type ?_);refine ηP ⟨plainId_quiet F.plain_list_iadd _,codeAny_builtin F.entry_list_iadd ?_⟩;rw[Around.under_plainId F.plain_list_iadd _];have e0:∀{b:Addr} {o:Obj},s.heap.get? b=some o->(s.heap.push { cls:=.type "list",data:=.seq #[] }).get? b=some o:=λ{b o} e=>ηH _ e;unfold Builtin.«list.__iadd__»;refine ηB (wpAny_of_eq (a:=(Value.ref s.heap.objs.size,[Value.ref I])) (by first|rfl|kernel_rfl) ?_);dsimp only;obtain⟨o,h1,h2,h3⟩:=hr;obtain⟨o',g1,g2⟩:=hl;have hS:(s.heap.push { cls:=.type "list",data:=.seq #[] }).get? s.heap.objs.size=some { cls:=.type "list",data:=.seq #[] }:=ηG s.heap rfl;refine AW (R:=λr s'=>match r with
  | .ok (.ret v)=>wpAny (model prog w) A (match v with
   | .ref a=>do
    let o ← load a
    match o.data with
    | .seq xs _=>pure xs.toList
    | _=>unsupported "internal:collect"
   | _=>unsupported "internal:collect") Q E s'
  | .ok _=>False
  | .error e=>E e s') (s:={ s with heap:=s.heap.push { cls:=.type "list",data:=.seq #[] } }) (items:=items) hh ne (dE hI) (dE hL) ⟨o,e0 h1,h2,h3⟩ ⟨o',e0 g1,g2⟩ hn ⟨0,hS⟩ λs' acc c M hg it=>?_
 refine ηB (wpAny_load hg (ηP (h s' acc ⟨λb o hb e=>M.heap b o ?_ (e0 e),M.gens,M.drawn,M.os,M.toks⟩ it)));intro z;rcases ao.mp z with z|z
 ·rw[z] at e;exact absurd (ηL e) (br _)
 ·exact hb z
theorem vX(hh:A.handled=none)(ne:l≠I)(hr:s.heap.IsRevIter I l ((items.size:Int)-1))(hl:s.heap.IsList l items)(hn:items.size<=sizeLine)
  (h:∀(s':Shared) (acc:Array Value),Moved [I] (λa b=>b=a) s s'->ItemsOf (λi v=>items[items.size-1-i]? = some v) acc items.size->Q (.ref s'.heap.objs.size) { s' with heap:=s'.heap.push { cls:=.type "tuple",data:=.seq acc } }) :
  codeAny (model prog w) A (.call (.builtin "tuple.__new__") { pos:=[.type "tuple",.ref I] }) (wants Q E) s:=by
 have hT:s.TypeIs (.ref I) "list_reverseiterator" := by
  obtain⟨o,h1,h2,h3⟩:=hr;exact⟨o,h1,h2⟩
 refine codeAny_of_tree (ηB (wpAny_of_eq (F.newCall_tuple_1 (.ref I)) (ηP ⟨plainId_quiet F.plain_tuple_new _,codeAny_builtin F.entry_tuple_new ?_⟩)));rw[Around.under_plainId F.plain_tuple_new _];unfold Builtin.«tuple.__new__»;refine ηB (ηP (wpAny_ite_false rfl ?_));refine ηB (wpAny_of_eq sub_tuple_self (wpAny_ite_false rfl ?_));refine wpAny_ite_false rfl ?_;refine ηB (wpAny_of_eq madeHere_tuple ?_);refine ηB (wpAny_of_eq init_tuple_lookup (wpAny_ite_true rfl ?_));refine ηB (wpAny_ite_true rfl (ηP ?_));refine ηB ?_;unfold checkCount;refine wpAny_ite_false rfl (wpAny_ite_false rfl (wpAny_ite_false rfl (ηP ?_)));refine wpAny_ite_true rfl ?_;refine ηB ?_;unfold Builtin.Tuple.tupleIsExact;refine ηB (wpAny_typeOf hT (ηP (wpAny_ite_false rfl ?_)));refine ηB (yN (A:=A.in1) hh ne hr hl hn λs' acc M it=>?_);refine ηB (ηP ?_);have ea:acc.toList.toArray=acc:=by simp
 rw[ea];refine ηB ?_;unfold Builtin.Tuple.tupleExact;refine wpAny_newObj_type (data:=.seq acc) ?_ ?_
 ·exact ηP (h s' acc M it)
 ·show acc.size<=sizeLine;rw[it.1];exact hn
theorem v5(hh:A.handled=none)(ne:l≠I)(hr:s.heap.IsRevIter I l ((items.size:Int)-1))(hl:s.heap.IsList l items)(hn:items.size<=sizeLine)
  (h:∀(s':Shared) (acc:Array Value),Moved [I] (λa b=>b=a) s s'->ItemsOf (λi v=>items[items.size-1-i]? = some v) acc items.size->Q (.ref s'.heap.objs.size) { s' with heap:=s'.heap.push { cls:=.type "tuple",data:=.seq acc } }) :
  wpAny (model prog w) A (call (.type "tuple") [.ref I]) Q E s :=
 callType_codes (Q₁:=λobj s₁=>s₁.TypeIs obj "tuple" /\ Q obj s₁) F.called_tuple (F.typeCall_tuple_1 (.ref I)) F.entry_object_init
  (vX (A:=A.in1) hh ne hr hl hn λs' acc hm hacc=>⟨⟨_,ηG s'.1 rfl,rfl⟩,h s' acc hm hacc⟩)
  λobj s₁ h₁=>⟨h₁.left,F.args_object_init_2 obj (.ref I),object_init_meets F.called_tuple.init.lookup F.called_tuple.made (by decide) prog w A.in1 (wants (λr s₂=>r=Value.none/\Q obj s₂) E) s₁ ⟨h₁.left,rfl,h₁.right⟩⟩
theorem wn(hh:A.handled=none)(ne:l≠I)(hr:s.heap.IsRevIter I l ((items.size:Int)-1))(hl:s.heap.IsList l items)(hn:items.size<=sizeLine)
  (h:∀(s':Shared) (acc:Array Value) (c:Nat),(∀ b o,b≠I->s.heap.get? b=some o->s'.heap.get? b=some o)->s'.gens=s.gens->s'.drawn=s.drawn->s'.os=s.os->s'.heap.get? s.heap.objs.size=some { cls:=.type "list",data:=.seq acc c }->ItemsOf (λi v=>items[items.size-1-i]? = some v) acc items.size->Q (.ref s.heap.objs.size) s') :
  wpAny (model prog w) A (call (.type "list") [.ref I]) Q E s:=by
 have hI:I<s.heap.objs.size:=by
  obtain⟨o,h1,_⟩:=hr;exact ηL h1
 have hL:l<s.heap.objs.size:=by
  obtain⟨o,h1,_⟩:=hl;exact ηL h1
 refine callType_codes (Q₁:=λobj s₁=>obj = .ref s.heap.objs.size/\s₁ = { s with heap:=s.heap.push { cls:=.type "list",data:=.seq #[] } }) F.called_list (F.typeCall_list_1 (.ref I)) F.entry_list_init (code_list_new (.ref I) ⟨rfl,rfl⟩) λobj s₁ h₁=>?_;obtain⟨e1,e2⟩:=h₁;subst e1 e2;have e0:∀{b:Addr} {o:Obj},s.heap.get? b=some o->(s.heap.push { cls:=.type "list",data:=.seq #[] }).get? b=some o:=λ{b o} e=>ηH _ e;have hS:(s.heap.push { cls:=.type "list",data:=.seq #[] }).get? s.heap.objs.size=some { cls:=.type "list",data:=.seq #[] }:=ηG s.heap rfl;refine⟨⟨_,hS,rfl⟩,F.args_list_init_2 _ _,?_⟩;unfold Builtin.«list.__init__»;refine ηB (ηB (wpAny_seqItems hS rfl (ηP (ηB (wpAny_updateSeq hS rfl ?_ ?_ ?_)))))
 ·have hS2:=Heap.get?_update_self (Obj.mapSeq λx => #[]) hS rfl;have oth:=λ(b:Addr) (o:Obj) (hb:b≠s.heap.objs.size) (e:(s.heap.push { cls:=.type "list",data:=.seq #[] }).get? b=some o)=>Eq.trans (Heap.get?_update_other (s.heap.push { cls:=.type "list",data:=.seq #[] }) (Obj.mapSeq λx => #[]) (Ne.symm hb)) e;obtain⟨o,h1,h2,h3⟩:=hr;obtain⟨o',g1,g2⟩:=hl;refine ηB (wpAny_letGo ?_);refine AW (A:=A.in1) (items:=items) hh ne (Ne.symm (aO hI)) (Ne.symm (aO hL)) ⟨o,oth _ _ (aO hI) (e0 h1),h2,h3⟩ ⟨o',oth _ _ (aO hL) (e0 g1),g2⟩ hn ⟨_,hS2⟩ λs' acc c M hg it=>?_;refine⟨rfl,h s' acc c (λb o hb e=>M.heap b o ?_ (oth _ _ (aO (ηL e)) (e0 e))) ?_ ?_ ?_ hg it⟩
  ·intro z;rcases ao.mp z with z|z
   ·rw[z] at e;exact absurd (ηL e) (br _)
   ·exact hb (aV.mp z)
  ·exact M.gens
  ·exact M.drawn
  ·exact M.os
 ·rw[aj,sizeLine_eq];decide
 ·rw[aj,sizeLine_eq];decide
end
theorem EG{h:Heap}{b:Addr}(hb:b≠h.objs.size)(e:(h.push o').get? b=some o):h.get? b=some o:=by
 unfold Heap.get? Heap.push at e;unfold Heap.get?;rw[Array.getElem?_push,if_neg hb] at e;exact e
theorem wt:∀(us:List Value) (m:Nat) (i:Int),(∀ j v,us[j]? = some v->∃ t,v=Value.int (i+((m+j:Nat):Int)) t)->Vals ((List.range' m us.length).map λk:Nat=>V.int (i+(k:Int))) us
 | [],_,_,_=>.nil
 | u::us,m,i,h=>by
  obtain⟨t,e⟩:=h 0 u rfl;rw[bt,List.range'_succ,dm];refine .cons ⟨t,e⟩ (wt us (m+1) i λj v hv=>?_);obtain⟨t,e⟩:=h (j+1) v hv;exact⟨t,by rw[e,show m+1+j=m+(j+1) by omega]⟩
section
variable{X:Cx}{a b:Expr}{ta:TA}{p p2 pos pos2:Pos}
def Er(K:Frag)(ta:TA):TE:=λσ H Q=>ta σ H λvs H1=>∃(l:Addr) (xs:List V),vs=[.ref l]/\SqL K H1 l xs/\∀ q,H1 q=none->Q (.ref q) (rg H1 q (.tup xs.reverse))
theorem Bo(hg':Gl X "tuple")(hm':X.mg "tuple" = none)(hg:Gl X "reversed")(hm:X.mg "reversed" = none)(hc:X.calm=true)(ha:PA X [a] ta)(hs:starEach [a] X.env=[(false,eval a X.env)]) :
  PE X (.Call (.Name "tuple" p2) [.Call (.Name "reversed" p) [a] [] pos2] [] pos) (Er X.K ta):=by
 intro pins s σ H Q I h;refine Call_ (rN I hg' hm' boot_tuple (PyProof.Rows.callWith_type1 ?_ rfl rfl));show wpAny _ _ (spliced ((false,eval (.Call (.Name "reversed" p) [a] [] pos2) X.env)::backTo pos [])) _ _ s;refine Calls.spliced_cons ?_;refine Call_ (rN I hg hm boot_reversed (PyProof.Rows.callWith_type1 (qZ (ha pos2 pins s σ H _ I h) λus s2 ⟨vs,H2,I2,r2,l,xs,e,hq,q⟩=>?_) hs rfl));subst e;obtain⟨u,rfl,ru⟩:=Vals.one r2;cases ru;obtain⟨its,rv,pl,hz⟩:=I2.list hq;refine call_reversed_list pl.isList ?_;refine Calls.spliced_nil ?_;have I3:Inv X pins σ H2 { s2 with heap:=s2.heap.push (revObj l ((its.toArray.size:Int)-1)) }:=I2.kept (t':=s2.toks) λb o e=>ηH _ e;obtain⟨f0,f1,f2,f3,f4,f5⟩:sT X pins H2 s2.heap.objs.size:=I2.fpOk (af _) (I2.hok.fresh (af _));have hlen:=rv.length;have ne:l≠s2.heap.objs.size:=by
  obtain⟨ob,g1,_⟩:=pl.isList;exact aO (ηL g1)
 refine v5 (l:=l) (items:=its.toArray) (I3.ok.hd hc) ne ⟨_,ηG _ rfl,rfl,rfl⟩ ?_ (by rw[aj];omega) λs' acc M it=>?_
 ·obtain⟨ob,g1,g2⟩:=pl.isList;exact⟨ob,ηH _ g1,g2⟩
 ·have ea:=wO it;obtain⟨m1,m2,m3,m4,m5⟩:=M;cases s';cases m2;cases m3;cases m4;have I4:=I3.turned (t':=‹Nat›) (λb o hb e=>m1 b o (by simpa using hb) e) f0 f1 f3 f4 f5;have rr:Vals xs.reverse acc.toList:=ea ▸ rv.reverse;have eacc:acc=acc.toList.toArray:=by simp
  refine⟨.ref _,_,I4.laid (t':=‹Nat›) (λb o e=>ηH _ e) (af _) (show ObjOk X.prog X.w _ _ _ (.tup xs.reverse) from⟨by rw[aM];exact hz,acc.toList,rr,?_⟩),rfl,q _ (I4.hok.fresh (af _))⟩;rw[eacc];exact IsTup.new _ _
def Ev(K:Frag)(ta:TA):TE:=λσ H Q=>ta σ H λvs H1=>∃(l:Addr) (xs:List V),vs=[.ref l]/\SqL K H1 l xs/\∀ q,H1 q=none->Q (.ref q) (rg H1 q (.lst xs.reverse))
theorem wG(hg':Gl X "list")(hm':X.mg "list" = none)(hg:Gl X "reversed")(hm:X.mg "reversed" = none)(hc:X.calm=true)(ha:PA X [a] ta)(hs:starEach [a] X.env=[(false,eval a X.env)]) :
  PE X (.Call (.Name "list" p2) [.Call (.Name "reversed" p) [a] [] pos2] [] pos) (Ev X.K ta):=by
 intro pins s σ H Q I h;refine Call_ (rN I hg' hm' boot_list (PyProof.Rows.callWith_type1 ?_ rfl rfl));show wpAny _ _ (spliced ((false,eval (.Call (.Name "reversed" p) [a] [] pos2) X.env)::backTo pos [])) _ _ s;refine Calls.spliced_cons ?_;refine Call_ (rN I hg hm boot_reversed (PyProof.Rows.callWith_type1 (qZ (ha pos2 pins s σ H _ I h) λus s2 ⟨vs,H2,I2,r2,l,xs,e,hq,q⟩=>?_) hs rfl));subst e;obtain⟨u,rfl,ru⟩:=Vals.one r2;cases ru;obtain⟨its,rv,pl,hz⟩:=I2.list hq;refine call_reversed_list pl.isList ?_;refine Calls.spliced_nil ?_;have I3:Inv X pins σ H2 { s2 with heap:=s2.heap.push (revObj l ((its.toArray.size:Int)-1)) }:=I2.kept (t':=s2.toks) λb o e=>ηH _ e;obtain⟨f0,f1,f2,f3,f4,f5⟩:sT X pins H2 s2.heap.objs.size:=I2.fpOk (af _) (I2.hok.fresh (af _));have hlen:=rv.length;have ne:l≠s2.heap.objs.size:=by
  obtain⟨ob,g1,_⟩:=pl.isList;exact aO (ηL g1)
 refine wn (l:=l) (items:=its.toArray) (I3.ok.hd hc) ne ⟨_,ηG _ rfl,rfl,rfl⟩ ?_ (by rw[aj];omega) λs' acc c m1 m2 m3 m4 hg it=>?_
 ·obtain⟨ob,g1,g2⟩:=pl.isList;exact⟨ob,ηH _ g1,g2⟩
 ·have ea:=wO it;obtain⟨hp',gp',dp',tp',op'⟩:=s';dsimp only at m1 m2 m3 m4 hg;cases m2;cases m3;cases m4;have rr:Vals xs.reverse acc.toList:=ea ▸ rv.reverse;have eacc:acc=acc.toList.toArray:=by simp
  rw[eacc] at hg;generalize hh3:s2.heap.push (revObj l ((its.toArray.size:Int)-1))=h3 at *;have g3:h3.get? s2.heap.objs.size=some (revObj l ((its.toArray.size:Int)-1)):=by rw[← hh3];exact ηG _ rfl
  have hA0:s2.heap.objs.size≠h3.objs.size:=aO (ηL g3);have hL1:(h3.push { cls:=.type "list",data:=.seq acc.toList.toArray c }).get? h3.objs.size=some { cls:=.type "list",data:=.seq acc.toList.toArray c }:=ηG _ rfl;have fr:=I3.hok.fresh (af _);have I4:=I3.laid (a:=h3.objs.size) (o:=.lst xs.reverse) (t':=s2.toks) (h':=h3.push { cls:=.type "list",data:=.seq acc.toList.toArray c }) (λb o e=>ηH _ e) (af _) (show ObjOk X.prog X.w _ _ _ (.lst xs.reverse) from⟨by rw[aM];exact hz,acc.toList,c,rr,hL1⟩);have I5:=I4.turned (it:=s2.heap.objs.size) (h':=hp') (t':=tp') (λb o hb e=>?_) ?_ f1 f3 f4 f5
  ·exact⟨.ref _,_,I5,rfl,q _ fr⟩
  ·by_cases eb:b=h3.objs.size
   ·subst eb;rw[hL1] at e;cases e;exact hg
   ·exact m1 b o hb (EG eb e)
  ·rw[qJ hA0];exact f0
def Eu(ta:TA):TE:=λσ H Q=>ta σ H λvs H1=>∃ i j:Int,vs=[.int i,.int j]/\(-(2^62)<=i/\i<2^62 /\ -(2^62)<=j/\j<2^62)/\(j-i).toNat<=sizeLine/\∀ q,H1 q=none->Q (.ref q) (rg H1 q (.lst ((List.range (j-i).toNat).map λk:Nat=>V.int (i+(k:Int)))))
theorem Bp(hg':Gl X "list")(hm':X.mg "list" = none)(hg:Gl X "range")(hm:X.mg "range" = none)(hc:X.calm=true)(ha:PA X [a,b] ta)(hs:starEach [a,b] X.env=[(false,eval a X.env),(false,eval b X.env)])(hs2:starEach [b] X.env=[(false,eval b X.env)]) :
  PE X (.Call (.Name "list" p2) [.Call (.Name "range" p) [a,b] [] pos2] [] pos) (Eu ta):=by
 intro pins s σ H Q I h;refine Call_ (rN I hg' hm' boot_list (PyProof.Rows.callWith_type1 ?_ rfl rfl));show wpAny _ _ (spliced ((false,eval (.Call (.Name "range" p) [a,b] [] pos2) X.env)::backTo pos [])) _ _ s;refine Calls.spliced_cons ?_;refine Call_ (rN I hg hm boot_range (PyProof.Rows.callWith_type1 (qZ (ha pos2 pins s σ H _ I h) λus s1 ⟨vs,H1,I1,r1,q1⟩=>?_) (by rw[hs,hs2]) (by rw[hs2];rfl)));obtain⟨i,j,e,⟨q1,q2,q3,q4⟩,qz,q⟩:=q1;subst e;cases r1 with
 | cons r rr =>
  cases rr with
  | cons r' rr =>
   cases rr;obtain⟨t,rfl⟩:=r;obtain⟨t',rfl⟩:=r';refine call_range_2 ?_;refine Calls.spliced_nil ?_;have I2:Inv X pins σ H1 { s1 with heap:=s1.heap.push { cls:=.type "range",data:=.fields #[.int i t,.int j t',.int 1 s1.toks] },toks:=s1.toks+1 }:=I1.kept λb o e=>ηH _ e;have e0:Builtin.Range.rangeSize i j 1=(((j-i).toNat:Nat):Int):=by rw[xp];split <;> omega
   have sz:=sizeLine_eq;refine call_list_range (I2.ok.hd hc) (IsRange.new ..) ?_ e0 (by omega) λh' tk acc c kp hg it=>?_
   ·unfold Builtin.Range.small;rw[e0];simp only[Builtin.Range.rangeFitsLong,aX,fB,beq_iff_eq,decide_eq_true_eq];rw[if_pos (by decide)];simp only[aX,decide_eq_true_eq];omega
   ·have rr:Vals ((List.range (j-i).toNat).map λk:Nat=>V.int (i+(k:Int))) acc.toList:=by
     obtain⟨i1,i2⟩:=it;have:=wt acc.toList 0 i λj v hv=>by
      rw[cJ] at hv;obtain⟨t,rfl⟩:=i2 j v hv;exact⟨t,by rw[eZ,bv]⟩
     rw[bX,i1] at this;rw[gy];exact this
    have eacc:acc=acc.toList.toArray:=by simp
    rw[eacc] at hg;exact⟨.ref _,_,I2.laid (t':=tk) kp (af _) (show ObjOk X.prog X.w _ _ _ (.lst _) from⟨by rw[aa,dh];exact qz,acc.toList,c,rr,hg⟩),rfl,q _ (I2.hok.fresh (af _))⟩
end
end L2
namespace Dp
open PySem L2
variable{K:Frag}{f:Addr}{O O':List Addr}{H H':Hp}{X:Cx}{σ:St}{ss:SS}{a b:Expr}{ta tb:TEd}{p p2 pos pos2:Pos}
def nY(t:TEd):TEd:=⟨λss Q=>t.run ss λd=>∃ l,d = .lst l/\Q (.tup l.reverse),λh q=>t.mono (λd ⟨l,e,q⟩=>⟨l,e,h _ q⟩) q⟩
theorem nY.ok(hg':Gl X "tuple")(hm':X.mg "tuple" = none)(hg:Gl X "reversed")(hm:X.mg "reversed" = none)(hc:X.calm=true)(ha:PE X a (LE X.K ta))(hs:starEach [a] X.env=[(false,eval a X.env)]) :
  PE X (.Call (.Name "tuple" p2) [.Call (.Name "reversed" p) [a] [] pos2] [] pos) (LE X.K (nY ta)):=by
 refine (Bo hg' hm' hg hm hc (qC ha pa_nil hs) hs).weak λσ H Q ⟨f,O,ss,S,q⟩=>?_;refine⟨f,O,ss,S,ta.mono (λd q v H1 e r=>?_) q⟩;obtain⟨l,rfl,q⟩:=q;obtain⟨a,xs,rfl,n,h1,h2⟩:=r;have S1:=S.ex e;exact⟨a,xs,rfl,SqL.of h1,λq' hq=>q _ _ (e.trans (S1.new hq _)) (S1.tup hq h2.reverse)⟩
def j6(t:TEd):TEd:=⟨λss Q=>t.run ss λd=>∃ l,d = .lst l/\Q (.lst l.reverse),λh q=>t.mono (λd ⟨l,e,q⟩=>⟨l,e,h _ q⟩) q⟩
theorem j6.ok(hg':Gl X "list")(hm':X.mg "list" = none)(hg:Gl X "reversed")(hm:X.mg "reversed" = none)(hc:X.calm=true)(ha:PE X a (LE X.K ta))(hs:starEach [a] X.env=[(false,eval a X.env)]) :
  PE X (.Call (.Name "list" p2) [.Call (.Name "reversed" p) [a] [] pos2] [] pos) (LE X.K (j6 ta)):=by
 refine (wG hg' hm' hg hm hc (qC ha pa_nil hs) hs).weak λσ H Q ⟨f,O,ss,S,q⟩=>?_;refine⟨f,O,ss,S,ta.mono (λd q v H1 e r=>?_) q⟩;obtain⟨l,rfl,q⟩:=q;obtain⟨a,xs,rfl,n,h1,h2⟩:=r;have S1:=S.ex e;exact⟨a,xs,rfl,SqL.of h1,λq' hq=>q _ _ (e.trans (S1.new hq _)) (S1.lst hq h2.reverse)⟩
theorem j6.okF(hg':Gl X "list")(hm':X.mg "list" = none)(hg:Gl X "reversed")(hm:X.mg "reversed" = none)(hc:X.calm=true)(ha:PE X a (LE X.K ta))(hs:starEach [a] X.env=[(false,eval a X.env)]) :
  PE X (.Call (.Name "list" p2) [.Call (.Name "reversed" p) [a] [] pos2] [] pos) (LF X.K (j6 ta)):=by
 refine (wG hg' hm' hg hm hc (qC ha pa_nil hs) hs).weak λσ H Q ⟨f,O,ss,S,q⟩=>?_;refine⟨f,O,ss,S,ta.mono (λd q v H1 e r=>?_) q⟩;obtain⟨l0,rfl,q⟩:=q;obtain⟨l,el,q⟩:=q;cases el;obtain⟨a,xs,rfl,n,h1,h2⟩:=r;have S1:=S.ex e;exact⟨a,xs,rfl,SqL.of h1,λp hp=>q p _ _ (e.trans (S1.new hp _)) (e.low (λz=>S1.nO hp (z ▸ S1.fO)) hp) qK (Rps.skip S1 hp h2.reverse)⟩
theorem AB(K:Frag)(f:Addr)(O:List Addr)(H:Hp)(i:Int):∀(n m:Nat),Rps K f O H ((List.range' m n).map λk:Nat=>D.int (i+(k:Int))) ((List.range' m n).map λk:Nat=>V.int (i+(k:Int)))
 | 0,_=>rfl
 | n+1,m=>⟨_,_,rfl,rfl,AB K f O H i n (m+1)⟩
def G5(i j:Int):List D:=(List.range' 0 (j-i).toNat).map λk:Nat=>D.int (i+(k:Int))
def md(t u:TEd):TEd:=⟨λss Q=>t.run ss λd=>u.run ss λd'=>∃ i j:Int,d = .int i/\d' = .int j/\(-(2^62)<=i/\i<2^62 /\ -(2^62)<=j/\j<2^62)/\(j-i).toNat<=sizeLine/\Q (.lst (G5 i j)),λh q=>t.mono (λd q=>u.mono (λd' ⟨i,j,e,e',h1,h2,q⟩=>⟨i,j,e,e',h1,h2,h _ q⟩) q) q⟩
theorem md.ok(hg':Gl X "list")(hm':X.mg "list" = none)(hg:Gl X "range")(hm:X.mg "range" = none)(hc:X.calm=true)(ha:PE X a (LE X.K ta))(hb:PE X b (LE X.K tb))(hs:starEach [a,b] X.env=[(false,eval a X.env),(false,eval b X.env)])(hs2:starEach [b] X.env=[(false,eval b X.env)]) :
  PE X (.Call (.Name "list" p2) [.Call (.Name "range" p) [a,b] [] pos2] [] pos) (LE X.K (md ta tb)):=by
 refine (Bp hg' hm' hg hm hc (qC ha (qC hb pa_nil hs2) (by rw[hs,hs2])) hs hs2).weak λσ H Q ⟨f,O,ss,S,q⟩=>?_;refine⟨f,O,ss,S,ta.mono (λd q v H1 e r=>⟨f,O,ss,S.ex e,tb.mono (λd' q v' H2 e2 r'=>?_) q⟩) q⟩;obtain⟨i,j,rfl,rfl,h1,h2,q⟩:=q;cases (show v=_ from r);cases (show v'=_ from r');have S2:=(S.ex e).ex e2;refine⟨i,j,rfl,h1,h2,λq' hq=>q _ _ ((e.trans e2).trans (S2.new hq _)) ?_⟩;rw[gy];exact S2.lst hq (AB _ _ _ _ i _ _)
def m7(i:Nat)(k:TEd):TSd:=⟨λE ss=>match ss[i]? with|some (.own l)=>l.length<=sizeLine/\k.run ss λdk=>popD l dk λn _=>E.nx (ss.set i (.own (l.eraseIdx n)))|_=>False,λ{E E' ss} h q=>by
 revert q;split
 ·exact λq=>⟨q.1,k.mono (λdk=>popD.mono λn d=>h.nx _) q.2⟩
 ·exact id⟩
theorem m7.ok(hx:PE X x (sB i))(hb:attributeBase x "pop" X.env (eval x X.env)=eval x X.env)(h:PE X a (LE X.K ta))(hs:starEach [a] X.env=[(false,eval a X.env)])(hl:(ap.endLine == cp.line)=true)(hw:swapsWith (.Call (.Attribute x "pop" ap) [a] [] cp) none pos.line X.env=pure false) :
  PS X (.Expr (.Call (.Attribute x "pop" ap) [a] [] cp) pos) (LS X.K (m7 i ta)):=by
 refine (um (pos:=pos) (wH (apos:=ap) (cpos:=cp) PySem.F.plainAttrs_list PySem.F.slot_list_pop PySem.F.type_list_pop vM hx (qC h pa_nil hs) hb (by rw[hs];rfl) hl hs rfl) hw).weak λD σ H ⟨c,O,ss,R,q⟩=>?_;have q:(match ss[i]? with|some (.own l)=>l.length<=sizeLine/\ta.run ss λdk=>popD l dk λn _=>(rZ X.K c D).nx (ss.set i (.own (l.eraseIdx n)))|_=>False):=q;split at q
 ·rename_i l el;obtain⟨p,xs,h1,h2,h3,h4,h5⟩:=R.sl.own i l el;refine⟨_,h1,.inl ⟨rfl,xs,SqL.of h4⟩,R.le q.2 λdk v H1 R1 e1 r w=>?_⟩;cases dk <;> first|exact False.elim w|skip
  rename_i z;obtain⟨z0,d,w1,w2⟩:=w;cases (show v=_ from r);obtain⟨k,rfl⟩:=bo z0;rw[aG] at w1 w2;have hp:=e1.sm.app p _ h3 h4;have r5:=R.sl.ups e1 h5;obtain⟨v,hv,rv⟩:=r5.get w1;have hk:=(ai.mp hv).1;have hn:=rK;have hz:=q.1;have hle:=r5.len;refine⟨p,xs,k,k,v,rfl,rfl,hp,by omega,by omega,?_,hv,w2 O σ _ (R1.wr el h1 (r5.eraseIdx k))⟩;unfold seqIndex?;first|(rw[if_neg (by omega)];simp;omega)|(simp;omega)
 ·exact q.elim
def gTl(is:List Nat):TGd:=⟨is,λd ss Q=>match d with | .lst l=>l.length=is.length/\Q (uI ss is l)|_=>False,λ{d ss Q Q'} h q=>by
 revert q;cases d <;> first|exact id|exact λq=>⟨q.1,h _ q.2⟩⟩
theorem gTl.ok(h:PG X e (JW X.K is.length (gsAll is))):PG X e (LG X.K (gTl is)):=h.weak λv σ H Q ⟨f,O,ss,d,S,r,q⟩=>by
 cases d <;> first|exact False.elim q|skip
 rename_i l;obtain⟨p,xs,rfl,_,h1,h2⟩:=r;exact⟨p,xs,rfl,SqL.of h1,h2.len.trans q.1,gsAll.run (h2.len.trans q.1) (q.2 _ H (Ex.refl S.fl) (S.all h2) (Sub.all h2.len) (Agr.all λ_ h=>h))⟩
end Dp
namespace Dp
open PySem L2
variable{K:Frag}{X:Cx}{T:Tc}{pos p p2:Pos}{a b e:Expr}{E:FE}{F:FT}
theorem _root_.L2.PTs.weak(h:PTs X es t)(w:∀ σ H Q,t' σ H Q->t σ H Q):PTs X es t':=λpins s σ H Q I q=>h pins s σ H Q I (w σ H Q q)
end Dp
namespace Dp
open PySem L2
variable{P:Program}{w:World}{K:Frag}{mg:Str->Option Value}{base:Heap}
def vA(K:Frag):Sp:=λvs H Q _=>∃(a:Addr) (ns:List Int),vs=[.ref a]/\SqL K H a (ns.map V.int)/\ns.length<=63/\∀ f H',Same H H'->Fl H' f->H f=none->Q (.ref f) H'
def xn:Sp:=λvs H Q _=>∃(f:Addr) (m:Int),vs=[.ref f,.int m]/\Fl H f/\0<m/\Lt2 9000 m/\∀ d H',0<=d->d<m->Fl H' f->Sm f H H'->Q (.int d) H'
def Az(K:Frag):Sp:=λvs H Q _=>∃(a:Addr) (ns:List Int),vs=[.ref a]/\SqL K H a (ns.map V.int)/\ns.length<=63/\∀ H',Q (.bl true) H'
def gY:SpB:=.of 2 (α:=Int) (λm ds=>ds=[.fl,.int m]/\0<m/\Lt2 9000 m) (λm d=>∃ i,d = .int i/\0<=i/\i<m)
theorem Bm(g:Def P w K mg base "_law_pick" k ps xn):Def P w K mg base "_law_pick" k ps (v8 K gY.n gY.run):=by
 obtain⟨f,fd,F,r⟩:=g.ex;refine⟨f,fd,F.imp (λvs H Q E h=>?_),r⟩;obtain⟨hn,f,O,ds,fl,fO,al,lO,rp,m,⟨rfl,m0,m1⟩,q⟩:=h;obtain⟨v,v',rfl,e1,e2⟩:=Rps.two rp;cases (show v=_ from e1);cases (show v'=_ from e2);exact⟨f,m,rfl,fl,m0,m1,λd H' d0 d1 fl' sm=>q (.int d) ⟨d,rfl,d0,d1⟩ _ H' ⟨sm,fl'⟩ rfl⟩
end Dp
namespace Ca
open Cv
def rv(a:Nat)(f:Nat->Int):Nat->Int:=λj=>if j<=a then f (a-j) else 0
theorem Gz(hf:∀ j,a<j->f j=0)(hg:∀ j,b<j->g j=0)(hi:i<=a+b):cv f g (a+b-i)=cv (rv a f) (rv b g) i:=by
 have h1:tm f g (a+1) (a+b-i)=cv f g (a+b-i):=tT λj hj=>hf j (by omega);have h2:tm (rv a f) (rv b g) (a+1) i=cv (rv a f) (rv b g) i:=tT λj hj=>if_neg (by omega);rw[← h1,← h2];unfold tm;rw[Cm (λj=>if j<=i then rv a f j*rv b g (i-j) else 0)];refine qM λj hj=>?_;show (if j<=a+b-i then f j*g (a+b-i-j) else 0)=if a+1-1-j<=i then rv a f (a+1-1-j)*rv b g (i-(a+1-1-j)) else 0;have e1:rv a f (a+1-1-j)=f j:=by
  unfold rv;rw[if_pos (by omega),show a-(a+1-1-j)=j by omega]
 rw[e1];by_cases c:a+1-1-j<=i
 ·rw[if_pos c];unfold rv;by_cases d:i-(a+1-1-j)<=b
  ·rw[if_pos d,if_pos (by omega),show b-(i-(a+1-1-j))=a+b-i-j by omega]
  ·rw[if_neg d,if_neg (by omega),bU]
 ·rw[if_neg c,hg (a+b-i-j) (by omega),bU];split <;> rfl
theorem xr(hf:∀ j,s<j->f j=0):∀ k j,k*s<j->pw f k j=0
 | 0,j,h=>if_neg (by omega)
 | k+1,j,h=>by
  rw[aY] at h;exact rP (a:=k*s+1) (b:=s+1) (λi hi=>xr hf k i (by omega)) (λi hi=>hf i (by omega)) (by omega)
theorem AD(hf:∀ j,s<j->f j=0):∀ k i,i<=k*s->pw f k (k*s-i)=pw (rv s f) k i
 | 0,i,h=>by
  rw[show i=0 by omega];show pw f 0 (0*s-0)=_;rw[dD];rfl
 | k+1,i,h=>by
  show cv (pw f k) f ((k+1)*s-i)=cv (pw (rv s f) k) (rv s f) i;rw[aY] at h ⊢;rw[Gz (λj hj=>xr hf k j hj) hf h];refine wZ (λj hj=>?_) λ_ _=>rfl;unfold rv;by_cases c:j<=k*s
  ·rw[if_pos c];exact AD hf k j c
  ·rw[if_neg c];exact (xr (s:=s) (λj hj=>if_neg (by omega)) k j (by omega)).symm
theorem F3(h:∀ j,j<=n->f j=g j):∀ k j,j<=n->pw f k j=pw g k j
 | 0,_,_=>rfl
 | k+1,j,hj=>wZ (λi hi=>F3 h k i (by omega)) λi hi=>h i (by omega)
theorem xu(f:Nat->Int)(c:Int):∀ k j,pw (λi=>f i*c^i) k j=pw f k j*c^j
 | 0,j=>by
  show (if j=0 then (1:Int) else 0)=(if j=0 then 1 else 0)*c^j;split
  ·rw[‹j=0›,aT,bv]
  ·rw[ay]
 | k+1,j=>by
  show cv (pw (λi=>f i*c^i) k) (λi=>f i*c^i) j=cv (pw f k) f j*c^j;unfold cv;rw[← sW];refine qM λi hi=>?_;rw[xu f c k i];have:c^j=c^i*c^(j-i):=by rw[← cy,show i+(j-i)=j by omega]
  rw[this];grind
theorem CD(f:Nat->Int)(c:Int):∀ k j,pw (λi=>f i*c) k j=pw f k j*c^k
 | 0,j=>by rw[aT,bv];rfl
 | k+1,j=>by
  show cv (pw (λi=>f i*c) k) (λi=>f i*c) j=cv (pw f k) f j*c^(k+1);unfold cv;rw[← sW];refine qM λi hi=>?_;rw[CD f c k i,bc];grind
theorem CG(g:Nat->Int):∀ k,pw g k=Pc.cp g k
 | 0=>rfl
 | k+1=>by show cv (pw g k) g=_;rw[CG g k];rfl
theorem yJ(hE:∀ j,0<j->E.getD j 0=0)(j:Nat):cv (fn R) (fn E) j=R.getD j 0*E.getD 0 0:=by
 rw[rR];have:tm (fn E) (fn R) 1 j=cv (fn E) (fn R) j:=tT λi hi=>hE i (by omega);rw[← this];show sm _ 1=_;rw[sm,sm,if_pos (aC _),bT,bD,bK];rfl
end Ca
namespace Pc
open Cv
theorem Ac(hf:∀ j,a<j->f j=0)(hg:∀ j,b<j->g j=0):cv f g (a+b)=f a*g b:=by
 have:=Ca.Gz (i:=0) hf hg (aC _);rw[bD,Ca.Af] at this;rw[this];unfold Ca.rv;rw[if_pos (aC _),if_pos (aC _),bD,bD]
theorem vW(hg:∀ j,d<j->g j=0):∀ n,cp g n (n*d)=g d^n
 | 0=>by rw[dD,aT];rfl
 | n+1=>by
  rw[aY];show cv (cp g n) g (n*d+d)=_;rw[Ac (λj hj=>vo (m:=d+1) (λk hk=>hg k (by omega)) n j (by show n*d+1<=j;omega)) hg,vW hg n,bc]
theorem Of.deg_eq(hB:0<B)(hU:0<U)(h:Of P B G U R C)(lp:P.length=n+1)(lg:G.length=d+1)(d1:1<=d)(tp:P.getD n 0≠0)(tg:G.getD d 0≠0):R.length=n*d+1:=by
 have up:=h.deg hB hU;rw[lp,lg] at up;have up':R.length<=n*d+1:=up;rcases aD (n*d) R.length with c|c
 ·omega
 ·exfalso;have e:=h.2 (n*d);have z:R.getD (n*d) 0=0:=by
   rw[ah,bw c];rfl
  rw[z,ay,lp] at e;have hg:∀ k,d<k->fn G k=0:=λk hk=>qF (by omega);have p0:pc (fn P) (fn G) U n (n*d)=0:=by
   cases n with
   | zero=>rfl
   | succ n=>exact vj (m:=d+1) (λk hk=>hg k (by omega)) (n+1) _ (by show n*d+1<=(n+1)*d;rw[aY];omega)
  have e2:pc (fn P) (fn G) U (n+1) (n*d)=fn P n*fn G d^n*U:=by
   show (pc (fn P) (fn G) U n (n*d)+fn P n*cp (fn G) n (n*d))*U=_;rw[p0,bT,vW hg]
  rw[e2] at e;have c0:=h.1.pos;have:fn P n*fn G d^n*U*C≠0:=bC (bC (bC tp (bB tg)) (aq hU)) (aq c0);exact this e.symm
end Pc
namespace Dp
open PySem L2
def pD(P:List Int)(B:Int):D:=.tup [.tup (P.map .int),.int B]
def fD(t b:Int):D:=.tup [.int t,.int b]
theorem rM:2<=sizeLine:=by rw[sizeLine_eq];decide
theorem x6:1<=sizeLine:=by rw[sizeLine_eq];decide
theorem sE(h:n<=16777216):n<=sizeLine:=by rw[sizeLine_eq];exact h
theorem yV{p:Prop}[Decidable p]{A B:Prop}(h1:p->A)(h2:¬ p->B):if decide p=true then A else B:=by
 by_cases c:p
 ·rw[if_pos (decide_eq_true c)];exact h1 c
 ·rw[if_neg (by simpa using c)];exact h2 c
theorem Ln{p:Prop}[Decidable p]{A B:Prop}(h1:¬ p->A)(h2:p->B):if (!decide p)=true then A else B:=by
 by_cases c:p
 ·rw[if_neg (by simpa using c)];exact h2 c
 ·rw[if_pos (by simpa using c)];exact h1 c
theorem rQ{α:Type}{fs:List α}{i:Nat}{f d:α}(h:fs[i]? = some f):fs.getD i d=f:=by
 rw[ah,h];rfl
theorem qE{α:Type}{fs:List α}{i:Nat}{d:α}(h:fs.length<=i):fs.getD i d=d:=by
 rw[ah,bw h];rfl
theorem zQ{ts:List Int}{i:Nat}{x:D}(h:(ts.map D.int)[i]? = some x):i<ts.length/\x = .int (ts.getD i 0):=by
 rw[aJ] at h;obtain⟨z,hz,rfl⟩:=ab.mp h;rw[rQ hz];exact⟨(ai.mp hz).1,rfl⟩
theorem tD{ts:List Int}{i:Nat}(h:i<ts.length):(ts.map D.int)[i]? = some (.int (ts.getD i 0)):=by
 rw[aJ,ah,ar h];rfl
theorem sA{ts:List Int}{i:Nat}(h:i<ts.length):ts.take (i+1)=ts.take i++[ts.getD i 0]:=by
 rw[List.take_succ_eq_append_getElem h,ah,ar h];rfl
theorem Fy(b:Nat)(ts:List Int)(t:Int):Po.gl b (ts++[t])=Nat.gcd (Po.gl b ts) t.natAbs:=by
 unfold Po.gl;rw[List.foldl_append];rfl
theorem FM{α:Type}(xs:List α)(x:α):vq (xs++[x]) (-1)=some x:=by
 unfold vq yy;rw[if_neg (by omega),if_pos (by rw[am];simp;omega)];show (xs++[x])[(-1+((xs++[x]).length:Int)).toNat]? = _;rw[am,ax (by simp;omega)];have:(-1+((xs.length+[x].length:Nat):Int)).toNat-xs.length=0:=by simp;omega
 rw[this];rfl
theorem rA{l:List D}{n:Nat}{d:D}(h:l[n]? = some d)(q:Q d):itD l (n:Int) Q:=by
 unfold itD;rw[vp h];exact q
theorem tj(h:vq l i=some d)(q:Q d):itD l i Q:=by
 unfold itD;rw[h];exact q
def mI{α:Type}(F:α->Int)(ts:List α):Nat->List D->Prop:=λi ys=>ys=((ts.take i).map F).map D.int
theorem mI.nil{α:Type}{F:α->Int}{ts:List α}:mI F ts 0 []:=rfl
theorem mI.snoc{α:Type}{F:α->Int}{ts:List α}{i:Nat}{ys:List D}{t:α}{z:Int}(h:mI F ts i ys)(ht:ts[i]? = some t)(hz:z=F t):mI F ts (i+1) (ys++[.int z]):=by
 unfold mI at h ⊢;rw[h,hz,List.take_add_one,ht,aN,aN];rfl
theorem mI.all{α:Type}{F:α->Int}{ts:List α}{n:Nat}{ys:List D}(h:mI F ts n ys)(hn:n=ts.length):ys=(ts.map F).map D.int:=by
 unfold mI at h;rw[h,hn,cL]
theorem AT{ts:List Int}{i:Nat}{x:D}(h:(ts.map D.int)[i]? = some x):∃ z,ts[i]? = some z/\x = .int z:=by
 rw[aJ] at h;obtain⟨z,hz,rfl⟩:=ab.mp h;exact⟨z,hz,rfl⟩
def nr:TSd:=(dSq (iN (iu (iB .NotEq (gV 1) (dC (.int 0))))
 (mH [] 0 1 (gV 1) (gZ .Mod (gV 0) (gV 1))))
 (iq [] (dB bAbs bAbs.mono (gU (gV 0) gW))))
def jb:SpB:=.of 2 (α:=Int×Int) (λx ds=>ds=[.int x.1,.int x.2]) (λx d=>d = .int (Fr.cp x.1 x.2))
theorem At(x:Int):(if x<0 then -x else x)=((x.natAbs:Nat):Int):=by split <;> omega
theorem kQ:Does 2 nr jb:=by
 rintro ds Q hn ⟨⟨a,b⟩,rfl,q⟩;refine⟨λs=>∃ a' b':Int,s=[.val (.int a'),.val (.int b')]/\Int.gcd a' b'=Int.gcd a b,λs=>match s with|[_,.val (.int b')]=>b'.natAbs|_=>0,⟨a,b,rfl,rfl⟩,?_⟩;rintro _ ⟨a',b',rfl,hg⟩;refine Ln (p:=b'=0) (λc=>?_) (λc=>?_)
 ·exact⟨c,⟨b',a'.fmod b',rfl,by rw[Fr.Dz];exact hg⟩,Fr.Fz a' b' c⟩
 ·subst c;refine q _ ?_;show D.int (if a'<0 then -a' else a') = .int (Fr.cp a b);unfold Fr.cp;rw[At,← hg,Int.gcd_zero_right]
def me:TSd:=(dSq (g7 [] (gNm 2) (gX jb (gU (gV 0) (gU (gV 1) gW))))
 (dSq (dIf [] (iu (iB .Lt (gV 1) (dC (.int 0))))
 (g7 [] (gNm 2) (gZ .Sub (dC (.int 0)) (gV 2)))
 iA)
 (iq [] (ic (gU (gZ .FloorDiv (gV 0) (gV 2)) (gU (gZ .FloorDiv (gV 1) (gV 2)) gW))))))
def ii:SpB:=.of 2 (α:=Int×Int) (λx ds=>ds=[.int x.1,.int x.2]/\x.2≠0/\Lt2 9000000 x.2) (λx d=>d=fD (Fr.top x.1 x.2) (Fr.bot x.1 x.2))
theorem j7:Does 3 me ii:=by
 rintro ds Q hn ⟨⟨a,b⟩,⟨rfl,h0,hl⟩,q⟩;refine⟨rfl,(a,b),rfl,?_⟩;rintro _ rfl;have fin:∀ p:Int,p=Fr.vb a b->u9 a p/\u9 b p/\2<=sizeLine/\Q (.tup [.int (a.fdiv p),.int (b.fdiv p)]):=by
  rintro p rfl;have c:∀ x,u9 x (Fr.vb a b):=λx=>⟨Fr.ER h0,9000000,hl.le (Fr.ES h0),by decide⟩;exact⟨c _,c _,rM,q _ rfl⟩
 refine yV (p:=b<0) (λc=>?_) (λc=>?_)
 ·exact fin _ (by unfold Fr.vb;rw[if_pos c];simp)
 ·exact fin _ (by unfold Fr.vb;rw[if_neg c])
theorem yG{ts:List Int}{k:Nat}(h:k<ts.length):(((ts.take (k+1)).map D.int)).dropLast=(ts.take k).map D.int:=by
 rw[sA h,aN];exact gC
theorem dSq.cut(R:SS->Prop)(h1:t.run (E.to R) ss)(h2:∀ s,R s->u.run E s):(dSq t u).run E ss:=t.mono (E:=E.to R) (E':=E.to (u.run E)) ⟨h2,λ_ z=>z,λ_ z=>z,λ_ z=>z⟩ h1
def nv:TSd:=(iq [0] (ic (gU (dB bTuple bTuple.mono (gU (iI (iQ (gV 0)) [3] (gNm 3) ju (gZ .FloorDiv (gV 3) (gV 2))) gW)) (gU (gZ .FloorDiv (gV 1) (gV 2)) gW))))
def nw:TSd:=dSq (iO [0] (iQ (gV 0)) (gNm 3)
 (g7 [] (gNm 2) (gX jb (gU (gV 2) (gU (gV 3) gW)))))
 nv
def nA:TSd:=dSq (g7 [] (gNm 2) (gV 1))
 nw
def j8:TSd:=dSq (iN (jr (iu (iB .Gt (jg 0) (dC (.int 0)))) (iu (iB .Eq (jm 0 (jq (dC (.int 1)))) (dC (.int 0)))))
 (pE 0))
 nA
def ou:TSd:=dSq (jn [0] 0 (jF (gV 0)))
 j8
def ig:SpB:=.of 2 (α:=List Int×Int) (λx ds=>(ds=[.lst (x.1.map .int),.int x.2]\/ds=[.tup (x.1.map .int),.int x.2])/\0<x.2/\Lt2 9000000 x.2/\x.1.length<=1000)
 (λx d=>∃ P B,d=pD P B/\Po.Fm P B/\(∀ k,P.getD k 0*x.2=x.1.getD k 0*B)/\P.length<=x.1.length)
theorem mJ:Does 4 ou ig:=by
 rintro ds Q hn ⟨⟨ts,b⟩,⟨hd,hb,hl,hz⟩,q⟩;dsimp only at hd hb hl hz q;have sl:(1000:Nat)<=sizeLine:=by rw[sizeLine_eq];decide
 suffices h:j8.run (rB Q) [.own (ts.map .int),.val (.int b),.no,.no] by
  rcases hd with rfl|rfl
  ·exact h
  ·exact h
 refine dSq.cut (λs=>∃ m:Nat,s=[.own ((ts.take m).map .int),.val (.int b),.no,.no]/\m<=ts.length/\(∀ j,m<=j->ts.getD j 0=0)/\(m=0\/ts.getD (m-1) 0≠0)) ?_ ?_
 rotate_left
 ·rintro _ ⟨m,rfl,hm,h0,hlast⟩;obtain⟨fm,wr⟩:=Po.form hb hm h0 hlast;have bn:((b.natAbs:Nat):Int)=b:=by omega
  refine⟨λi s=>∃ o,s=[.val (.lst ((ts.take m).map .int)),.val (.int b),.val (.int ((Po.gl b.natAbs ((ts.take m).take i):Nat):Int)),o],⟨.no,?_⟩,?_,?_⟩
  ·show [SD.val _,.val (.int b),.val (.int b),.no]=[SD.val _,.val (.int b),.val (.int ((b.natAbs:Nat):Int)),.no];rw[bn]
  ·rintro i d s hd ⟨o,rfl⟩;obtain⟨hi,rfl⟩:=zQ hd;refine⟨rfl,(_,_),rfl,?_⟩;rintro _ rfl;refine⟨.val (.int ((ts.take m).getD i 0)),?_⟩;rw[sA hi,Fy];rfl
  ·rintro s ⟨o,rfl⟩;rw[aa,cL];have g0:0<Po.gl b.natAbs (ts.take m):=Po.Dv (by omega) _;have gle:Po.gl b.natAbs (ts.take m)<=b.natAbs:=gk (by omega) (Po.xO _ _).1;generalize Po.gl b.natAbs (ts.take m)=g at *;have cd:∀ x:Int,u9 x (g:Int):=λx=>⟨by omega,9000000,hl.le (by rw[bS];exact gle),by decide⟩;refine⟨by rw[aa,bh];omega,mI (λz=>z.fdiv (g:Int)) (ts.take m),mI.nil,λi d ys hd _ hy=>?_,λys _ hy=>?_⟩
   ·obtain⟨z,hz,rfl⟩:=AT hd;exact⟨cd _,hy.snoc hz rfl⟩
   ·cases hy.all (by rw[aa]);exact⟨cd _,rM,q _ ⟨_,_,rfl,fm,wr,by rw[aa,bh];omega⟩⟩
 ·refine⟨λs=>∃ m:Nat,s=[.own ((ts.take m).map .int),.val (.int b),.no,.no]/\m<=ts.length/\∀ j,m<=j->ts.getD j 0=0,λs=>match s with | .own l::_=>l.length|_=>0,⟨ts.length,by rw[cL],af _,λj hj=>qE hj⟩,?_⟩;rintro _ ⟨m,rfl,hm,h0⟩;have lm:((ts.take m).map D.int).length=m:=by rw[aa,bh];omega
  refine yV (p:=(0:Int)<(((ts.take m).map D.int).length:Nat)) (λc=>?_) (λc=>?_)
  ·rw[lm] at c;obtain⟨k,rfl⟩:∃ k,m=k+1:=⟨m-1,by omega⟩;have hk:k<ts.length:=by omega
   have la:vq ((ts.take (k+1)).map D.int) (-1)=some (.int (ts.getD k 0)):=by
    rw[sA hk,aN];exact FM _ _
   refine tj la (yV (p:=ts.getD k 0=0) (λz=>?_) (λz=>?_))
   ·refine⟨λe=>?_,⟨k,?_,by omega,λj hj=>?_⟩,?_⟩
    ·rw[e] at lm;cases lm
    ·show [SD.own _,_,_,_]=_;rw[yG hk]
    ·rcases cG hj with w|w
     ·rw[← w];exact z
     ·exact h0 j w
    ·show (((ts.take (k+1)).map D.int)).dropLast.length<((ts.take (k+1)).map D.int).length;rw[yG hk,lm,aa,bh];omega
   ·exact⟨k+1,rfl,hm,h0,.inr z⟩
  ·rw[lm] at c;exact⟨m,rfl,hm,h0,.inl (by omega)⟩
theorem vB{ts:List Int}{i k:Nat}{z:Int}(h:i<ts.length):(ts.set i z).getD k 0=if k=i then z else ts.getD k 0:=by
 rw[ah,ah,aQ];by_cases e:i=k
 ·subst e;rw[if_pos rfl,if_pos h,if_pos rfl];rfl
 ·rw[if_neg e,if_neg (Ne.symm e)]
theorem map_set{ts:List Int}{i:Nat}{z:Int}:(ts.map D.int).set i (.int z)=(ts.set i z).map D.int:=by
 rw[List.map_set]
theorem wz{ts:List Int}{i k:Nat}(h:i<ts.length):(ts.take (i+1)).getD k 0=(ts.take i).getD k 0+(if k=i then ts.getD i 0 else 0):=by
 rw[sA h];by_cases e:k=i
 ·subst e;rw[if_pos rfl,qE (fs:=ts.take k) (by rw[bh];omega)];have:(ts.take k++[ts.getD k 0]).getD k 0=ts.getD k 0:=rQ (by rw[ax (by rw[bh];omega),bh,dA (by omega),bj];rfl);rw[this,bT]
 ·rw[if_neg e,cu,← sA h,ah,ah,eU,eU];by_cases c:k<i
  ·rw[if_pos c,if_pos (by omega)]
  ·rw[if_neg c,if_neg (by omega)]
theorem rF(n:Nat):(List.replicate n [D.int 0]).flatten=(List.replicate n (0:Int)).map D.int:=by
 induction n with
 | zero=>rfl
 | succ n ih=>rw[bx,bW,ih,bx];rfl
theorem ym(n k:Nat):(List.replicate n (0:Int)).getD k 0=0:=by
 rw[ah,dc];split <;> rfl
theorem vn{ts:List Int}{i:Nat}{d:D}(h:(vS (ts.map D.int))[i]? = some d):i<ts.length/\d = .tup [.int (i:Nat),.int (ts.getD i 0)]:=by
 obtain⟨x,hx,rfl⟩:=wX h;obtain⟨hi,rfl⟩:=zQ hx;exact⟨hi,rfl⟩
theorem vt(h:n<l.length)(q:Q n):atD l (.int (n:Nat)) Q:=by
 unfold atD;dsimp only;have:yy l.length (n:Int)=some n:=by
  unfold yy;rw[if_pos (by omega),if_pos (by omega)];rfl
 rw[this];exact q
def nZ:TSd:=(iq [3] (gX ig (gU (gV 3) (gU (gZ .Mult (dIx (gV 0) (dC (.int 1))) (dIx (gV 1) (dC (.int 1)))) gW))))
def n5:TSd:=dSq (iO [] (jU (dIx (gV 1) (dC (.int 0)))) (gTp [4,5])
 (jh [] 3 (gV 4) (gZ .Add (jm 3 (gV 4)) (gZ .Mult (gV 5) (dIx (gV 0) (dC (.int 1)))))))
 nZ
def jv:TSd:=dSq (iO [] (jU (dIx (gV 0) (dC (.int 0)))) (gTp [4,5])
 (jh [] 3 (gV 4) (gZ .Add (jm 3 (gV 4)) (gZ .Mult (gV 5) (dIx (gV 1) (dC (.int 1)))))))
 n5
def jw:TSd:=dSq (jn [] 3 (gZ .Mult (ip (gU (dC (.int 0)) gW)) (gV 2)))
 jv
def oU:TSd:=dSq (g7 [] (gNm 2) (dB bMax bMax.mono (gU (dB bLen bLen.mono (gU (dIx (gV 0) (dC (.int 0))) gW)) (gU (dB bLen bLen.mono (gU (dIx (gV 1) (dC (.int 0))) gW)) gW))))
 jw
def iz:SpB:=.of 2 (α:=List Int×Int×List Int×Int×Nat×Nat×Nat×Nat) (λ(P,B,P',B',n,b,m,c) ds=>ds=[pD P B,pD P' B']/\Pc.Pz n b P B/\Pc.Pz m c P' B'/\b+c<=9000000/\n+m<=9000000/\P.length<=900/\P'.length<=900)
 (λ(P,B,P',B',n,b,m,c) d=>∃ R C,d=pD R C/\Po.Fm R C/\∀ k,R.getD k 0*(B*B')=(P.getD k 0*B'+P'.getD k 0*B)*C)
theorem nE:Does 6 oU iz:=by
 rintro ds Q hn ⟨⟨P,B,P',B',n,b,m,c⟩,⟨rfl,G1,G2,hb,hm,l1,l2⟩,q⟩;dsimp only at G1 G2 hb hm l1 l2 q;have sl:(1000:Nat)<=sizeLine:=by rw[sizeLine_eq];decide
 have p1:=G1.fm.pos;have p2:=G2.fm.pos;obtain⟨M,hM⟩:∃ M:Nat,M=max P.length P'.length:=⟨_,rfl⟩;have lb1:=G1.bot;have lb2:=G2.bot;suffices h:jv.run (rB Q) [.val (pD P B),.val (pD P' B'),.val (.int M),.own ((List.replicate M (0:Int)).map .int),.no,.no] by
  have e0:(if ((P'.map D.int).length:Int) > ((P.map D.int).length:Nat) then ((P'.map D.int).length:Int) else ((P.map D.int).length:Nat))=(M:Nat):=by
   rw[aa,aa];split <;> omega
  suffices h1:jw.run (rB Q) [.val (pD P B),.val (pD P' B'),.val (.int M),.no,.no,.no] by
   show jw.run (rB Q) [.val (pD P B),.val (pD P' B'),.val (.int (if ((P'.map D.int).length:Int) > ((P.map D.int).length:Nat) then ((P'.map D.int).length:Int) else ((P.map D.int).length:Nat))),.no,.no,.no];rw[e0];exact h1
  refine⟨by rw[sizeLine_eq];decide,by omega,by omega,by show 1*M<=_;omega,?_⟩;show jv.run (rB Q) [.val (pD P B),.val (pD P' B'),.val (.int M),.own (List.replicate M [D.int 0]).flatten,.no,.no];rw[rF];exact h
 refine⟨λi s=>∃ F:List Int,∃ o o':SD,s=[.val (pD P B),.val (pD P' B'),.val (.int M),.own (F.map .int),o,o']/\F.length=M/\∀ k,F.getD k 0=(P.take i).getD k 0*B',⟨_,_,_,rfl,aI,λk=>by rw[ym,dF];simp⟩,?_,?_⟩
 ·rintro i d _ hd ⟨F,o,o',rfl,hF,hf⟩;obtain⟨hi,rfl⟩:=vn hd;have hiF:i<F.length:=by omega
  refine⟨rfl,rA (tD hiF) ⟨⟨n,c,G1.tops i,lb2,by omega⟩,vt (by rw[aa];exact hiF) ⟨F.set i (F.getD i 0+P.getD i 0*B'),.val (.int (i:Nat)),.val (.int (P.getD i 0)),?_,by rw[bz];exact hF,λk=>?_⟩⟩⟩
  ·show [SD.val _,.val _,.val _,.own ((F.map D.int).set i (.int (F.getD i 0+P.getD i 0*B'))),_,_]=_;rw[map_set]
  ·rw[vB hiF,wz hi];by_cases e:k=i
   ·subst e;rw[if_pos rfl,if_pos rfl,hf,eK]
   ·rw[if_neg e,if_neg e,hf,cu]
 ·rintro _ ⟨F,o,o',rfl,hF,hf⟩;rw[q8,aa,cL] at hf;refine⟨λi s=>∃ F:List Int,∃ o o':SD,s=[.val (pD P B),.val (pD P' B'),.val (.int M),.own (F.map .int),o,o']/\F.length=M/\∀ k,F.getD k 0=P.getD k 0*B'+(P'.take i).getD k 0*B,⟨F,_,_,rfl,hF,λk=>by rw[hf,dF];simp⟩,?_,?_⟩
  ·rintro i d _ hd ⟨F,o,o',rfl,hF,hf⟩;obtain⟨hi,rfl⟩:=vn hd;have hiF:i<F.length:=by omega
   refine⟨rfl,rA (tD hiF) ⟨⟨m,b,G2.tops i,lb1,by omega⟩,vt (by rw[aa];exact hiF) ⟨F.set i (F.getD i 0+P'.getD i 0*B),.val (.int (i:Nat)),.val (.int (P'.getD i 0)),?_,by rw[bz];exact hF,λk=>?_⟩⟩⟩
   ·show [SD.val _,.val _,.val _,.own ((F.map D.int).set i (.int (F.getD i 0+P'.getD i 0*B))),_,_]=_;rw[map_set]
   ·rw[vB hiF,wz hi];by_cases e:k=i
    ·subst e;rw[if_pos rfl,if_pos rfl,hf,eK,Int.add_assoc]
    ·rw[if_neg e,if_neg e,hf,cu]
  ·rintro _ ⟨F,o,o',rfl,hF,hf⟩;rw[q8,aa,cL] at hf;refine⟨⟨b,c,lb1,lb2,by omega⟩,rfl,(F,B*B'),⟨.inl rfl,aA p1 p2,(lb1.mul lb2).mono hb,by show F.length<=1000;omega⟩,?_⟩;rintro _ ⟨R,C,rfl,fm,hw,_⟩;exact q _ ⟨R,C,rfl,fm,λk=>by rw[hw k,hf k]⟩
def mK:TSd:=(iq [2] (gX ig (gU (gV 2) (gU (gZ .Mult (dIx (gV 0) (dC (.int 1))) (dIx (gV 1) (dC (.int 1)))) gW))))
def jc:TSd:=dSq (iO [] (jU (dIx (gV 0) (dC (.int 0)))) (gTp [3,4])
 (iO [] (jU (dIx (gV 1) (dC (.int 0)))) (gTp [5,6])
 (jh [] 2 (gZ .Add (gV 3) (gV 5)) (gZ .Add (jm 2 (gZ .Add (gV 3) (gV 5))) (gZ .Mult (gV 4) (gV 6))))))
 mK
def n8:TSd:=dSq (jn [] 2 (gZ .Mult (ip (gU (dC (.int 0)) gW)) (gZ .Add (dB bLen bLen.mono (gU (dIx (gV 0) (dC (.int 0))) gW)) (dB bLen bLen.mono (gU (dIx (gV 1) (dC (.int 0))) gW)))))
 jc
def hJ:SpB:=.of 2 (α:=List Int×Int×List Int×Int×Nat×Nat×Nat×Nat) (λ(P,B,P',B',n,b,m,c) ds=>ds=[pD P B,pD P' B']/\Pc.Pz n b P B/\Pc.Pz m c P' B'/\b+c<=9000000/\n+m<=9000000/\P.length<=450/\P'.length<=450)
 (λ(P,B,P',B',n,b,m,c) d=>∃ R C,d=pD R C/\Po.Fm R C/\∀ k,R.getD k 0*(B*B')=Cv.cv (Cv.fn P) (Cv.fn P') k*C)
theorem mf:Does 7 n8 hJ:=by
 rintro ds Q hn ⟨⟨P1,B1,P2,B2,n,b,m,c⟩,⟨rfl,G1,G2,hb,hm,l1,l2⟩,q⟩;dsimp only at G1 G2 hb hm l1 l2 q;have sl:(1000:Nat)<=sizeLine:=by rw[sizeLine_eq];decide
 have p1:=G1.fm.pos;have p2:=G2.fm.pos;suffices h:jc.run (rB Q) [.val (pD P1 B1),.val (pD P2 B2),.own ((List.replicate (P1.length+P2.length) (0:Int)).map .int),.no,.no,.no,.no] by
  have e0:(((P1.map D.int).length:Nat):Int)+((P2.map D.int).length:Nat)=((P1.length+P2.length:Nat):Int):=by
   rw[aa,aa];omega
  refine⟨x6,?_,?_,?_,?_⟩
  ·rw[e0];omega
  ·rw[e0];omega
  ·rw[e0];show 1*(P1.length+P2.length)<=_;omega
  ·show jc.run (rB Q) [.val (pD P1 B1),.val (pD P2 B2),.own (List.replicate ((((P1.map D.int).length:Nat):Int)+((P2.map D.int).length:Nat)).toNat [D.int 0]).flatten,.no,.no,.no,.no];rw[e0,aG,rF];exact h
 refine⟨λi s=>∃(rs:List Int) (o3 o4 o5 o6:SD),s=[.val (pD P1 B1),.val (pD P2 B2),.own (rs.map .int),o3,o4,o5,o6]/\rs.length=P1.length+P2.length/\∀ k,rs.getD k 0=Cv.tm (Cv.fn P1) (Cv.fn P2) i k,⟨_,_,_,_,_,rfl,aI,λk=>ym _ _⟩,?_,?_⟩
 ·rintro i d _ hd ⟨rs,o3,o4,o5,o6,rfl,lr,hr⟩;obtain⟨hi,rfl⟩:=vn hd;refine⟨rfl,λk s=>∃(rs:List Int) (o5 o6:SD),s=[.val (pD P1 B1),.val (pD P2 B2),.own (rs.map .int),.val (.int (i:Nat)),.val (.int (P1.getD i 0)),o5,o6]/\rs.length=P1.length+P2.length/\∀ m,rs.getD m 0=Cv.tm (Cv.fn P1) (Cv.fn P2) i m+(if i<=m/\m-i<k then Cv.fn P1 i*Cv.fn P2 (m-i) else 0),⟨rs,_,_,rfl,lr,λm=>by rw[hr m,if_neg (by omega),cu]⟩,?_,?_⟩
  ·rintro k d _ hd ⟨rs',o5',o6',rfl,lr',hr4⟩;obtain⟨hk,rfl⟩:=vn hd;have ik:(i:Int)+(k:Int)=((i+k:Nat):Int):=by omega
   have hiF:i+k<rs'.length:=by omega
   refine⟨rfl,?_⟩;show itI (rs'.map D.int) (.int ((i:Int)+(k:Int))) _;rw[ik];refine rA (tD hiF) ⟨⟨n,m,G1.tops i,G2.tops k,by omega⟩,?_⟩;show atD (rs'.map D.int) (.int ((i:Int)+(k:Int))) _;rw[ik];refine vt (by rw[aa];exact hiF) ⟨rs'.set (i+k) (rs'.getD (i+k) 0+P1.getD i 0*P2.getD k 0),.val (.int (k:Nat)),.val (.int (P2.getD k 0)),?_,by rw[bz];exact lr',λm=>?_⟩
   ·show [SD.val _,.val _,.own ((rs'.map D.int).set (i+k) (.int (rs'.getD (i+k) 0+P1.getD i 0*P2.getD k 0))),_,_,_,_]=_;rw[map_set]
   ·rw[vB hiF];by_cases e:m=i+k
    ·subst e;rw[if_pos rfl,hr4,if_neg (by omega),if_pos ⟨by omega,by omega⟩,show i+k-i=k by omega,cu];rfl
    ·rw[if_neg e,hr4];congr 1;by_cases c:i<=m/\m-i<k
     ·rw[if_pos c,if_pos ⟨c.1,by omega⟩]
     ·rw[if_neg c,if_neg (by omega)]
  ·rintro _ ⟨rs',o5',o6',rfl,lr',hr4⟩;rw[q8,aa] at hr4;refine⟨rs',_,_,_,_,rfl,lr',λm=>?_⟩;rw[hr4 m,Cv.Ay];congr 1;by_cases c:i<=m
   ·rw[if_pos c];by_cases c':m-i<P2.length
    ·rw[if_pos ⟨c,c'⟩]
    ·rw[if_neg (λz=>c' z.2),Cv.qF (P:=P2) (by omega),bU]
   ·rw[if_neg c,if_neg (λz=>c z.1)]
 ·rintro _ ⟨rs,o3,o4,o5,o6,rfl,lr,hr⟩;rw[q8,aa] at hr;refine⟨⟨b,c,G1.bot,G2.bot,by omega⟩,rfl,(rs,B1*B2),⟨.inl rfl,aA p1 p2,(G1.bot.mul G2.bot).mono hb,by show rs.length<=1000;omega⟩,?_⟩;rintro _ ⟨R,C,rfl,fm,hw,_⟩;exact q _ ⟨R,C,rfl,fm,λk=>by rw[hw k];show rs.getD k 0*C=_;rw[hr k,Cv.tT λj h=>Cv.qF h]⟩
def ox:TSd:=(iq [] (gV 2))
def oy:TSd:=dSq (iO [] (kP (dIx (gV 0) (dC (.int 0)))) (gNm 3)
 (g7 [] (gNm 2) (gX iz (gU (gX hJ (gU (gV 2) (gU (gV 1) gW))) (gU (gX ig (gU (ip (gU (gV 3) gW)) (gU (dIx (gV 0) (dC (.int 1))) gW))) gW)))))
 ox
def pI:TSd:=dSq (g7 [] (gNm 2) (ic (gU (ic gW) (gU (dC (.int 1)) gW))))
 oy
def g8:SpB:=.of 2 (α:=List Int×Int×List Int×Int×Nat×Nat×Nat×Nat) (λ(P,B,P',B',n,b,m,c) ds=>ds=[pD P B,pD P' B']/\Pc.Pz n b P B/\Pc.Pz m c P' B'/\b+b+c*P.length<=8900000/\n+(m+c+10)*(P.length+1)<=4000000/\P.length*P'.length<=190/\P.length<=190/\P'.length<=190)
 (λ(P,B,P',B',n,b,m,c) d=>∃ R C,d=pD R C/\Pc.Of P B P' B' R C)
theorem n9:Does 4 pI g8:=by
 rintro ds Q hn ⟨⟨P1,B1,P2,B2,n,b,m,c⟩,⟨rfl,G1,G2,hb,hn,hl,l1,l2⟩,q⟩;dsimp only at G1 G2 hb hn hl l1 l2 q;have p1:=G1.fm.pos;have p2:=G2.fm.pos;have hL:(m+c+10)*P1.length+(m+c+10)=(m+c+10)*(P1.length+1):=by rw[cq]
 have hg:∀ k,P2.length<=k->Cv.fn P2 k=0:=λk h=>Cv.qF h;refine⟨by rw[sizeLine_eq];decide,by rw[sizeLine_eq];decide,λi s=>∃(R:List Int) (C:Int) (o3:SD) (M:Nat->Int),s=[.val (pD P1 B1),.val (pD P2 B2),.val (pD R C),o3]/\Po.Fm R C/\(∀ k,R.getD k 0*(B1*B2^i)=M k*B2*C)/\(∀ k,i*P2.length+1<=k->M k=0)/\(∀ k,Lt2 (n+(m+c+10)*i+1) (M k)) /\
   ∀ k,Pc.pc (Cv.fn P1) (Cv.fn P2) B2 P1.length k=B2^i*Pc.pc (Cv.fn P1) (Cv.fn P2) B2 (P1.length-i) k+B2*Cv.cv (Pc.cp (Cv.fn P2) (P1.length-i)) M k,
  ⟨[],1,.no,λ_=>0,rfl,⟨by decide,.inl rfl,rfl⟩,λk=>by rw[qE (fs:=([]:List Int)) (aC _)];simp,λ_ _=>rfl,λk=>bV (by decide),λk=>by rw[Cv.J7 λj=>rfl];simp⟩,?_,?_⟩
 ·rintro i z _ hz ⟨R,C,o3,M,rfl,fx,ex,oM,lM,eM⟩;have hi:i<P1.length:=by have:=(ai.mp hz).1;simpa using this
  rw[bJ (by rw[aa];exact hi),aa] at hz;obtain⟨_,rfl⟩:=zQ hz;have li:(m+c+10)*(i+1)<=(m+c+10)*P1.length:=au _ hi;rw[cq] at li;have li2:(i+1)*P2.length<=P1.length*P2.length:=bg _ hi;rw[aY] at li2;have li3:c*(i+1)<=c*P1.length:=au _ hi;rw[cq] at li3;have W:=Hv.pow_pos p2 i;have lW:=Hv.rH G2.bot i;have li5:c*i<=(m+c+10)*i:=bg _ (by omega);have c0:=fx.pos;have zx:Pc.Pz (n+(m+c+10)*i+1+c) (b+(c*i+1)) R C:=Pc.Pz.of fx (aA p1 W) ex (λk=>(lM k).mul G2.bot) (G1.bot.mul lW);have lx:R.length<=i*P2.length+1:=Pc.qP fx (aA p1 W) ex (λk hk=>by rw[oM k hk,ay]);have top:=G1.tops (P1.length-1-i);refine⟨rfl,(R,C,P2,B2,_,_,_,_),⟨rfl,zx,G2,by omega,by omega,by show R.length<=450;omega,by show P2.length<=450;omega⟩,?_⟩;rintro _ ⟨TT,tb,rfl,fT,eT⟩;have t0:=fT.pos;have eT':∀ k,TT.getD k 0*(B1*(B2^i*B2))=Cv.cv M (Cv.fn P2) k*B2*tb:=λk=>Pc.GS c0 ex (eT k);have W2:=aA W p2;have cM:∀ k,Lt2 (n+(m+c+10)*i+1+m+9) (Cv.cv M (Cv.fn P2) k):=λk=>by
   rcases aD k 500 with cc|cc
   ·exact Cv.DP lM G2.tops (by omega)
   ·rw[Cv.rP (a:=i*P2.length+1) (b:=P2.length) oM hg (by omega)];exact bV (by decide)
  have oT:∀ k,(i+1)*P2.length+1<=k->Cv.cv M (Cv.fn P2) k=0:=λk hk=>Cv.rP (a:=i*P2.length+1) (b:=P2.length) oM hg (by rw[aY] at hk;omega);have zT:Pc.Pz (n+(m+c+10)*i+1+m+9+c) (b+(c*i+1+c)) TT tb:=Pc.Pz.of fT (aA p1 W2) eT' (λk=>(cM k).mul G2.bot) (G1.bot.mul (lW.mul G2.bot));have lT:TT.length<=(i+1)*P2.length+1:=Pc.qP fT (aA p1 W2) eT' (λk hk=>by rw[oT k hk,ay]);rw[aY] at lT;refine⟨x6,rfl,([P1.getD (P1.length-1-i) 0],B1),⟨.inl rfl,p1,G1.bot.mono (by omega),by show 1<=1000;decide⟩,?_⟩;rintro _ ⟨E,eb,rfl,fe,ee,le⟩;dsimp only at ee le;have e0:=fe.pos;have ze:Pc.Pz n b E eb:=Pc.Pz.of fe p1 ee (λk=>by
   cases k with
   | zero=>exact top
   | succ k=>rw[qE (fs:=[P1.getD (P1.length-1-i) 0]) (by simp)];exact bV (by decide)) G1.bot
  have le':E.length<=1:=le;refine⟨rfl,(TT,tb,E,eb,_,_,_,_),⟨rfl,zT,ze,by omega,by omega,by show TT.length<=900;omega,by show E.length<=900;omega⟩,?_⟩;rintro _ ⟨R',C',rfl,fx',ex'⟩;refine⟨R',C',_,λj=>Cv.cv M (Cv.fn P2) j+(if j=0 then Cv.fn P1 (P1.length-1-i)*B2^i else 0),rfl,fx',λk=>?_,λk hk=>?_,λk=>?_,λk=>Pc.Ie hg hi eM _ λj=>rfl⟩
  ·rw[bc];have y:=Pc.GR t0 e0 (eT' k) (ee k) (ex' k);rw[y];congr 2;show _=_+_;congr 1;cases k with
   | zero=>rfl
   | succ k=>rw[qE (fs:=[P1.getD (P1.length-1-i) 0]) (by simp),if_neg (by omega),ay]
  ·show Cv.cv M (Cv.fn P2) k+(if k=0 then Cv.fn P1 (P1.length-1-i)*B2^i else 0)=0;rw[oT k hk,if_neg (by omega)];rfl
  ·have y2:Lt2 (n+(m+c+10)*i+1+m+9) (if k=0 then Cv.fn P1 (P1.length-1-i)*B2^i else 0):=by
    split
    ·exact (top.mul lW).mono (by omega)
    ·exact bV (by decide)
   exact ((cM k).add y2).mono (by rw[cq];omega)
 ·rintro _ ⟨R,C,o3,M,rfl,fx,ex,oM,lM,eM⟩;rw[aM,aa] at ex eM;refine q _ ⟨R,C,rfl,fx,λk=>?_⟩;rw[ex k,eM k,bj];show _=(_*0+B2*Cv.cv Pc.d0 M k)*C;rw[Pc.DQ,bU,bT,bK B2]
def FqD(n b:Nat)(d:D)(r:Rat):Prop:=∃ t u:Int,d=fD t u/\0<u/\Int.gcd t u=1/\Lt2 n t/\Lt2 b u/\r=(t:Rat) / (u:Rat)
theorem FqD.of(u0:0<u)(lt:Lt2 n t)(lu:Lt2 b u):FqD n b (fD (Fr.top t u) (Fr.bot t u)) ((t:Rat) / (u:Rat)):=by
 obtain⟨l1,l2,l3⟩:=Fr.low (t:=t) (b:=u) (by omega);obtain⟨m1,m2⟩:=Fr.Ci (t:=t) (b:=u) (by omega);exact⟨_,_,rfl,l1,l3,lt.le m1,lu.le m2,(Qp.rL (by omega) (by omega)).mpr l2.symm⟩
theorem FqD.mono(h:FqD n b d r)(l:n<=n')(l':b<=b'):FqD n' b' d r:=by
 obtain⟨t,u,e,h1,h2,h3,h4,h5⟩:=h;exact⟨t,u,e,h1,h2,h3.mono l,h4.mono l',h5⟩
def jd:SpB:=.of 2 (α:=Int) (λm ds=>ds=[.fl,.int m]/\0<=m/\Lt2 8000 m) (λm d=>∃ z,d = .int z /\ -m<=z/\z<=m)
def nF:TSd:=(iq [] (gZ .Sub (gX gY (gU (gV 0) (gU (gZ .Add (gZ .Mult (dC (.int 2)) (gV 1)) (dC (.int 1))) gW))) (gV 1)))
theorem kR:Does 2 nF jd:=by
 rintro ds Q hn ⟨m,⟨rfl,m0,m1⟩,q⟩;have two:Lt2 2 2:=by decide
 have lm:Lt2 9000 (2*m+1):=((two.mul m1).add ((show Lt2 1 1 by decide).mono (m:=2+8000) (by omega))).mono (by omega);refine⟨⟨_,_,two,m1,by omega⟩,rfl,2*m+1,⟨rfl,by omega,lm⟩,?_⟩;rintro _ ⟨i,rfl,i0,i1⟩;exact q _ ⟨_,rfl,by omega,by omega⟩
theorem xG(h:m.natAbs<1000)(hn:10<=n:=by decide):Lt2 n m:=by
 unfold Lt2;exact aE (Nat.lt_trans h (show 1000<2^10 by decide)) (dr (by decide) hn)
theorem CQ(h0:0<=i)(h1:i<4)(qa:Q (.int a))(qb:Q (.int b))(qc:Q (.int c))(qe:Q (.int e)):itD [.int a,.int b,.int c,.int e] i Q:=by
 rcases (by omega:i=0\/i=1\/i=2\/i=3) with rfl|rfl|rfl|rfl
 ·exact qa
 ·exact qb
 ·exact qc
 ·exact qe
def ij:SpB:=.of 2 (α:=Int×Nat) (λ(m,M) ds=>ds=[.fl,.int m]/\1<=m/\Lt2 M m/\2<=M/\M<=4000) (λ(m,M) d=>∃ r,FqD M M d r)
def jX:TSd:=(iq [] (gX ii (gU (gX jd (gU (gV 0) (gU (gV 1) gW))) (gU (gZ .Add (dC (.int 1)) (gX gY (gU (gV 0) (gU (dIx (ip (gU (dC (.int 1)) (gU (dC (.int 1)) (gU (dC (.int 3)) (gU (gV 1) gW))))) (gX gY (gU (gV 0) (gU (dC (.int 4)) gW)))) gW)))) gW))))
theorem jo:Does 2 jX ij:=by
 rintro ds Q hn ⟨⟨m,M⟩,⟨rfl,m1,lm,M2,M4⟩,q⟩;refine⟨rfl,m,⟨rfl,by omega,lm.mono (by omega)⟩,?_⟩;rintro _ ⟨z,rfl,z0,z1⟩;refine⟨sE (n:=4) (by decide),rfl,4,⟨rfl,by decide,xG (by decide)⟩,?_⟩;rintro _ ⟨i,rfl,i0,i1⟩;have l3:Lt2 M 3:=(show Lt2 2 3 by decide).mono M2;have key:∀ u:Int,1<=u->Lt2 M u->([D.fl,.int u].length=gY.n/\gY.run [.fl,.int u] λd=>oAdd (.int 1) d λd=>[D.int z,d].length=ii.n/\ii.run [.int z,d] Q):=λu u1 lu=>by
  refine⟨rfl,u,⟨rfl,by omega,lu.mono (by omega)⟩,?_⟩;rintro _ ⟨e,rfl,e0,e1⟩;have lb:Lt2 M (1+e):=lu.le (by omega);refine⟨rfl,(z,1+e),⟨rfl,by show 1+e≠0;omega,lb.mono (by omega)⟩,?_⟩;rintro _ rfl;exact q _ ⟨_,FqD.of (by omega) (lm.le (by omega)) lb⟩
 exact CQ i0 i1 (key 1 (by decide) (l3.le (by decide))) (key 1 (by decide) (l3.le (by decide))) (key 3 (by decide) l3) (key m m1 lm)
theorem tv{α:Type}{fs:List α}{i:Nat}{d:α}(h:i<fs.length):fs.getD i d∈fs:=by
 rw[ah,ar h];exact e8 h
theorem va(n:Nat):Lt2 n 0:=bV (by decide)
theorem z6{ts:List Int}{c B:Int}{P:List Int}{M N:Nat}(fm:Po.Fm P B)(hw:∀ k,P.getD k 0*c=ts.getD k 0*B)(hle:P.length<=ts.length)(hl:ts.length=N+1)(hs:∀ t∈ts,Lt2 M t)(c0:0<c)(lc:Lt2 3 c)(last:ts.getD N 0≠0):Pc.Pz M 3 P B/\P.length=N+1:=by
 have pB:=fm.pos;refine⟨Pc.Pz.of (f:=λk=>ts.getD k 0) fm c0 hw (λk=>?_) lc,?_⟩
 ·rcases aD k ts.length with z|z
  ·exact hs _ (tv z)
  ·rw[qE z];exact va _
 ·rcases aD N P.length with z|z
  ·omega
  ·have e:=hw N;rw[qE z,ay] at e;rcases bu.mp e.symm with y|y
   ·exact absurd y last
   ·omega
theorem ML:(if decide ((0:Int)<d) then (1:Int) else 0)=0\/(if decide ((0:Int)<d) then (1:Int) else 0)=1:=by
 by_cases c:(0:Int)<d
 ·exact .inr (by rw[if_pos (by simpa using c)])
 ·exact .inl (by rw[if_neg (by simpa using c)])
def drI(M:Nat):Nat->List D->Prop:=λi ys=>∃ ts:List Int,ys=ts.map D.int/\ts.length=i/\∀ t∈ts,Lt2 M t
theorem drI.nil:drI M 0 []:=⟨[],rfl,rfl,λt h=>absurd h aK⟩
theorem drI.snoc(h:drI M i ys)(hz:Lt2 M z):drI M (i+1) (ys++[.int z]):=by
 obtain⟨ts,rfl,h1,h2⟩:=h;refine⟨ts++[z],by rw[aN];rfl,by rw[am,h1];rfl,λt ht=>?_⟩;rcases bE.mp ht with w|w
 ·exact h2 t w
 ·rw[aV.mp w];exact hz
theorem JH(lz:Lt2 M z)(M4:M<=8000):CMulB z (if decide ((0:Int)<d) then (1:Int) else 0)/\Lt2 M (z*(if decide ((0:Int)<d) then (1:Int) else 0)):=by
 rcases ML (d:=d) with e|e
 ·rw[e];exact⟨⟨M,1,lz,by decide,by omega⟩,by rw[bU];exact va _⟩
 ·rw[e];exact⟨⟨M,1,lz,by decide,by omega⟩,by rw[bv];exact lz⟩
def hZ:SpB:=.of 3 (α:=Nat×Int×Nat) (λ(N,m,M) ds=>ds=[.fl,.int N,.int m]/\N<=100/\1<=m/\Lt2 M m/\M<=4000) (λ(N,m,M) d=>∃ P B,d=pD P B/\Pc.Pz M 3 P B/\P.length=N+1)
def je:TSd:=(iq [] (gX ig (gU (gZ .Add (gV 3) (ip (gU (gV 5) gW))) (gU (gZ .Add (dC (.int 1)) (gX gY (gU (gV 0) (gU (dIx (ip (gU (dC (.int 1)) (gU (dC (.int 1)) (gU (dC (.int 2)) (gU (dC (.int 6)) gW))))) (gX gY (gU (gV 0) (gU (dC (.int 4)) gW)))) gW)))) gW))))
def kC:TSd:=dSq (g7 [] (gNm 5) (dIx (ip (gU (dC (.int 1)) (gU (gZ .Sub (dC (.int 0)) (dC (.int 1))) (gU (gZ .Add (dC (.int 1)) (gX gY (gU (gV 0) (gU (gV 2) gW)))) (gU (gZ .Sub (gZ .Sub (dC (.int 0)) (dC (.int 1))) (gX gY (gU (gV 0) (gU (gV 2) gW)))) gW))))) (gX gY (gU (gV 0) (gU (dC (.int 4)) gW)))))
 je
def mh:TSd:=dSq (g7 [] (gNm 3) (iI (jt (gV 1)) [4] (gNm 4) ju (gZ .Mult (gX jd (gU (gV 0) (gU (gV 2) gW))) (dB bInt bInt.mono (gU (iB .Gt (gX gY (gU (gV 0) (gU (dC (.int 4)) gW))) (dC (.int 0))) gW)))))
 kC
theorem j9:Does 6 mh hZ:=by
 rintro ds Q hn ⟨⟨N,m,M⟩,⟨rfl,hN,m1,lm,M4⟩,q⟩;dsimp only at hN m1 lm M4 q;refine⟨by omega,by omega,by rw[qU];exact sE (by omega),drI M,drI.nil,λi d ys hd _ hy=>?_,λys _ hy=>?_⟩
 ·obtain⟨hi,rfl⟩:=rS hd;refine⟨rfl,m,⟨rfl,by omega,lm.mono (by omega)⟩,?_⟩;rintro _ ⟨z,rfl,z0,z1⟩;refine⟨rfl,4,⟨rfl,by decide,xG (by decide)⟩,?_⟩;rintro _ ⟨j,rfl,j0,j1⟩;obtain⟨h1,h2⟩:=JH (d:=j) (lm.le (j:=z) (by omega)) (by omega);exact⟨h1,hy.snoc h2⟩
 rw[qU] at hy;obtain⟨ts,rfl,lt,ht⟩:=hy;have lt:ts.length=N:=by omega
 refine⟨rfl,m,⟨rfl,by omega,lm.mono (by omega)⟩,?_⟩;rintro _ ⟨d1,rfl,d10,d11⟩;refine⟨rfl,m,⟨rfl,by omega,lm.mono (by omega)⟩,?_⟩;rintro _ ⟨d2,rfl,d20,d21⟩;refine⟨sE (n:=4) (by decide),rfl,4,⟨rfl,by decide,xG (by decide)⟩,?_⟩;rintro _ ⟨d3,rfl,d30,d31⟩;have key:∀ u:Int,u≠0->Lt2 M u->je.run (rB Q) [.val .fl,.val (.int N),.val (.int m),.val (.lst (ts.map .int)),.no,.val (.int u)]:=λu u0 lu=>by
  refine⟨x6,?_,?_⟩
  ·rw[aa];exact sE (by show ts.length+1<=_;omega)
  refine⟨sE (n:=4) (by decide),rfl,4,⟨rfl,by decide,xG (by decide)⟩,?_⟩;rintro _ ⟨d5,rfl,d50,d51⟩;have fin:∀ c:Int,1<=c->c<=6->([D.fl,.int c].length=gY.n/\gY.run [.fl,.int c] λd=>oAdd (.int 1) d λd=>[D.lst (ts.map .int++[.int u]),d].length=ig.n/\ig.run [.lst (ts.map .int++[.int u]),d] Q):=λc c1 c6=>by
   refine⟨rfl,c,⟨rfl,by omega,xG (by omega)⟩,?_⟩;rintro _ ⟨e,rfl,e0,e1⟩;have b3:Lt2 3 (1+e):=Lt2.of 6 (by omega) (by decide);have em:ts.map D.int++[.int u]=(ts++[u]).map D.int:=by rw[aN];rfl
   have last:(ts++[u]).getD N 0=u:=rQ (by rw[ax (by omega),lt,bj];rfl);rw[em];refine⟨rfl,(ts++[u],1+e),⟨.inl rfl,by show 0<1+e;omega,b3.mono (by decide),by show (ts++[u]).length<=1000;rw[am,lt];show N+1<=1000;omega⟩,?_⟩;rintro _ ⟨P1,B1,rfl,fm,hw,hle⟩;dsimp only at hw hle;obtain⟨z1,z2⟩:=z6 (M:=M) (N:=N) fm hw hle (by rw[am,lt];rfl) (λt h=>by
    rcases bE.mp h with y|y
    ·exact ht _ y
    ·rw[aV.mp y];exact lu) (by omega) b3 (by rw[last];exact u0)
   exact q _ ⟨P1,B1,rfl,z1,z2⟩
  exact CQ d50 d51 (fin 1 (by decide) (by decide)) (fin 1 (by decide) (by decide)) (fin 2 (by decide) (by decide)) (fin 6 (by decide) (by decide))
 exact CQ d30 d31 (key 1 (by decide) (lm.le (by omega))) (key (0-1) (by decide) (lm.le (by omega))) (key (1+d1) (by omega) (lm.le (by omega))) (key (0-1-d2) (by omega) (lm.le (by omega)))
theorem GT(st:Pc.St ta ba tb bb P B)(a0:0<ba)(b0:0<bb)(l1:Lt2 n1 ta)(l2:Lt2 b1 ba)(l3:Lt2 n2 tb)(l4:Lt2 b2 bb):Pc.Pz (n1+n2+b1+b2) (b1+b2) P B :=
 Pc.Pz.of st.1 (aA a0 b0) st.2 (λk=>by
  match k with
  | 0=>exact (l3.mul l2).mono (by omega)
  | 1=>exact (l1.mul l4).mono (by omega)
  | k+2=>exact va _) (l2.mul l4)
theorem Mw(st:Pc.St ta ba tb bb P B)(a0:0<ba)(b0:0<bb)(l1:Lt2 n1 ta)(l2:Lt2 b1 ba)(l3:Lt2 n2 tb)(l4:Lt2 b2 bb) :
  Pc.Pz (n1+n2+b1+b2) (b1+b2) P B/\(∀ x,Qp.E P B x=(ta:Rat) / (ba:Rat)*x+(tb:Rat) / (bb:Rat))/\P.length<=2/\Qp.q P B 0=(tb:Rat) / (bb:Rat)/\Qp.q P B 1=(ta:Rat) / (ba:Rat):=by
 have p:=aA a0 b0;have q:=λk=>Qp.xq (f:=λk=>[tb*ba,ta*bb].getD k 0) st.1.pos (aq p) st.2 k;refine⟨GT st a0 b0 l1 l2 l3 l4,Qp.LQ st a0 b0,Pc.qP st.1 p st.2 λk hk=>?_,?_,?_⟩
 ·obtain⟨j,rfl⟩:∃ j,k=j+2:=⟨k-2,by omega⟩;exact Pc.xj ..
 ·rw[q 0];exact (Qp.rL (aq p) (by omega)).mpr (by show tb*ba*bb=tb*(ba*bb);grind)
 ·rw[q 1];exact (Qp.rL (aq p) (by omega)).mpr (by show ta*bb*ba=ta*(ba*bb);grind)
theorem y9(h:Qp.q P B 1≠0)(l:P.length<=2):P.length=2/\P.getD 1 0≠0:=by
 have n1:P.getD 1 0≠0:=λz=>h (by
  unfold Qp.q;rw[z];show ((0:Int):Rat) / _=0;have:((0:Int):Rat)=0:=rfl;rw[this];grind)
 refine⟨?_,n1⟩;rcases aD 1 P.length with z|z
 ·omega
 ·exact absurd (qE z) n1
def iK:SpB:=.of 2 (α:=D×D×Rat×Rat×Nat×Nat×Nat×Nat) (λ(d1,d2,r1,r2,n1,b1,n2,b2) ds=>ds=[d1,d2]/\FqD n1 b1 d1 r1/\FqD n2 b2 d2 r2/\b1+b2<=4000/\n1<=100000/\n2<=100000)
 (λ(d1,d2,r1,r2,n1,b1,n2,b2) d=>∃ P B,d=pD P B/\Pc.Pz (n1+n2+b1+b2) (b1+b2) P B/\(∀ x,Qp.E P B x=r1*x+r2)/\P.length<=2/\Qp.q P B 0=r2/\Qp.q P B 1=r1)
def mj:TSd:=(iq [] (gX ig (gU (ip (gU (gZ .Mult (dIx (gV 1) (dC (.int 0))) (dIx (gV 0) (dC (.int 1)))) (gU (gZ .Mult (dIx (gV 0) (dC (.int 0))) (dIx (gV 1) (dC (.int 1)))) gW))) (gU (gZ .Mult (dIx (gV 0) (dC (.int 1))) (dIx (gV 1) (dC (.int 1)))) gW))))
theorem ka:Does 2 mj iK:=by
 rintro ds Q hn ⟨⟨d1,d2,r1,r2,n1,b1,n2,b2⟩,⟨rfl,⟨ta,ba,rfl,a0,c2,l1,l2,rfl⟩,⟨tb,bb,rfl,b0,e2,l3,l4,rfl⟩,ln,m1,m2⟩,q⟩;dsimp only at ln m1 m2 q;refine⟨⟨_,_,l3,l2,by omega⟩,⟨_,_,l1,l4,by omega⟩,rM,⟨_,_,l2,l4,by omega⟩,rfl,([tb*ba,ta*bb],ba*bb),⟨.inl rfl,aA a0 b0,(l2.mul l4).mono (by omega),by show 2<=1000;decide⟩,?_⟩;rintro _ ⟨P,B,rfl,fm,hw,hle⟩;obtain⟨x1,x2,x3,x4,x5⟩:=Mw ⟨fm,hw⟩ a0 b0 l1 l2 l3 l4;exact q _ ⟨P,B,rfl,x1,x2,x3,x4,x5⟩
theorem uP(l:Lt2 n t):FqD n 1 (fD t 1) (t:Rat):=⟨t,1,rfl,by decide,by simp,l,by decide,by have:((1:Int):Rat)=1:=rfl;rw[this];grind⟩
def g9:SpB:=.of 2 (α:=Int×Nat) (λ(m,M) ds=>ds=[.fl,.int m]/\1<=m/\Lt2 M m/\2<=M/\M<=1000) (λ(m,M) d=>∃ P B,d=pD P B/\Pc.Pz (4*M) (2*M) P B/\P.length=2/\P.getD 1 0≠0)
def iR:TSd:=(iq [] (gX iK (gU (gV 2) (gU (gX ij (gU (gV 0) (gU (gV 1) gW))) gW))))
def jY:TSd:=dSq (g7 [] (gNm 2) (dIx (ip (gU (ic (gU (dC (.int 1)) (gU (dC (.int 1)) gW))) (gU (ic (gU (gZ .Sub (dC (.int 0)) (dC (.int 1))) (gU (dC (.int 1)) gW))) (gU (gX ii (gU (gZ .Add (dC (.int 1)) (gX gY (gU (gV 0) (gU (gV 1) gW)))) (gU (gZ .Add (dC (.int 1)) (gX gY (gU (gV 0) (gU (dC (.int 3)) gW)))) gW))) gW)))) (gX gY (gU (gV 0) (gU (dC (.int 3)) gW)))))
 iR
theorem jp:Does 3 jY g9:=by
 rintro ds Q hn ⟨⟨m,M⟩,⟨rfl,m1,lm,M2,M4⟩,q⟩;dsimp only at m1 lm M2 M4 q;refine⟨rM,rM,rfl,m,⟨rfl,by omega,lm.mono (by omega)⟩,?_⟩;rintro _ ⟨d1,rfl,d10,d11⟩;refine⟨rfl,3,⟨rfl,by decide,xG (by decide)⟩,?_⟩;rintro _ ⟨d2,rfl,d20,d21⟩;have b2:Lt2 M (1+d2):=(show Lt2 2 (1+d2) from Lt2.of 3 (by omega) (by decide)).mono M2;refine⟨rfl,(1+d1,1+d2),⟨rfl,by show 1+d2≠0;omega,b2.mono (by omega)⟩,?_⟩;rintro _ rfl;dsimp only;refine⟨sE (n:=3) (by decide),rfl,3,⟨rfl,by decide,xG (by decide)⟩,?_⟩;rintro _ ⟨d3,rfl,d30,d31⟩;have fin:∀(u:D) (r:Rat),FqD M M u r->r≠0->iR.run (rB Q) [.val .fl,.val (.int m),.val u]:=λu r fu r0=>by
  refine⟨rfl,(m,M),⟨rfl,m1,lm,M2,by show M<=4000;omega⟩,?_⟩;rintro _ ⟨r2,f2⟩;refine⟨rfl,(u,_,r,r2,M,M,M,M),⟨rfl,fu,f2,by show M+M<=4000;omega,by show M<=100000;omega,by show M<=100000;omega⟩,?_⟩;rintro _ ⟨P1,B1,rfl,z1,e1,l1,q0,q1⟩;obtain⟨len,n1⟩:=y9 (by rw[q1];exact r0) l1;exact q _ ⟨P1,B1,rfl,z1.mono (by show M+M+M+M<=_;omega) (by show M+M<=_;omega),len,n1⟩
 have f3:=FqD.of (t:=1+d1) (u:=1+d2) (by omega) (lm.le (j:=1+d1) (by omega)) b2;have n3:((1+d1:Int):Rat) / ((1+d2:Int):Rat)≠0:=(Fq.ne (p:=0) (by omega) rfl).mpr (by omega);rcases (by omega:d3=0\/d3=1\/d3=2) with rfl|rfl|rfl
 ·exact fin _ _ ((uP (n:=1) (t:=1) (by decide)).mono (by omega) (by omega)) (by decide)
 ·exact fin _ _ ((uP (n:=1) (t:=-1) (by decide)).mono (by omega) (by omega)) (by decide)
 ·exact fin _ _ f3 n3
def iH:SpB:=.of 2 (α:=List Int×Int×Nat×Nat×Nat) (λ(P,B,k,n,b) ds=>ds=[pD P B,.int k]/\Pc.Pz n b P B/\b<=9000000) (λ(P,B,k,n,b) d=>FqD n b d (Qp.q P B k))
def kb:SpB:=.of 2 (α:=List Int×Int×Nat×Nat×Nat) (λ(P,B,k,n,b) ds=>ds=[pD P B,.int k]/\Pc.Pz n b P B/\k*P.length<=400/\k<=400/\P.length<=400/\b*k+1+b<=9000000/\(n+9)*k+1+n<=9000000)
 (λ(P,B,k,n,b) d=>∃ R C,d=pD R C/\(∀ j,R.getD j 0*B^k=Pc.cp (Cv.fn P) k j*C)/\Pc.Pz ((n+9)*k+1) (b*k+1) R C/\R.length<=k*P.length+1)
def mL:TSd:=(iq [] (gV 2))
def mM:TSd:=dSq (iO [] (jt (gV 1)) (gNm 3)
 (g7 [] (gNm 2) (gX hJ (gU (gV 2) (gU (gV 0) gW)))))
 mL
def oa:TSd:=dSq (g7 [] (gNm 2) (ic (gU (ic (gU (dC (.int 1)) gW)) (gU (dC (.int 1)) gW))))
 mM
theorem ml:Does 4 oa kb:=by
 rintro ds Q hn ⟨⟨P1,B1,k,n,b⟩,⟨rfl,z1,hkl,hk,hl,hb,hn⟩,q⟩;dsimp only at z1 hkl hk hl hb hn q;have B0:=z1.fm.pos;have pz:∀ i,i<=k->∀{R:List Int} {C:Int},Po.Fm R C->(∀ j,R.getD j 0*B1^i=Pc.cp (Cv.fn P1) i j*C)->Pc.Pz ((n+9)*i+1) (b*i+1) R C/\R.length<=i*P1.length+1:=λi hi R C fm e=>by
  have l1:i*P1.length<=k*P1.length:=bg _ hi;exact⟨Pc.Pz.of fm (bH B0) e (Pc.DU (l:=P1.length) (λj hj=>Cv.qF hj) (λj=>z1.tops j) i (by omega)) (Hv.rH z1.bot i),Pc.qP fm (bH B0) e (Pc.uc (λj hj=>Cv.qF hj) i)⟩
 refine⟨x6,rM,by omega,by omega,λi s=>∃(o3:SD) (R:List Int) (C:Int),s=[.val (pD P1 B1),.val (.int k),.val (pD R C),o3]/\Po.Fm R C/\∀ j,R.getD j 0*B1^i=Pc.cp (Cv.fn P1) i j*C,⟨.no,[1],1,rfl,Cv.HH,λj=>?_⟩,?_,?_⟩
 ·rw[aT];cases j with
  | zero=>rfl
  | succ j=>rfl
 ·rintro i d _ hd ⟨o3,R,C,rfl,fm,he⟩;obtain⟨hi,rfl⟩:=rS hd;have hi:i<k:=by omega
  obtain⟨G,hle⟩:=pz i (by omega) fm he;have l1:i*P1.length<=k*P1.length:=bg _ (by omega);have l2:b*i<=b*k:=au _ (by omega);have l3:(n+9)*i<=(n+9)*k:=au _ (by omega);refine⟨rfl,(R,C,P1,B1,_,_,n,b),⟨rfl,G,z1,by omega,by omega,by show R.length<=450;omega,by show P1.length<=450;omega⟩,?_⟩;rintro _ ⟨R',C',rfl,fm',hw⟩;refine⟨_,R',C',rfl,fm',λj=>?_⟩;have e:Cv.cv (Cv.fn R) (Cv.fn P1) j*B1^i=Pc.cp (Cv.fn P1) (i+1) j*C:=by
   show _=Cv.cv (Pc.cp (Cv.fn P1) i) (Cv.fn P1) j*C;rw[← Cv.si,← Cv.si];exact Cv.rq (λm=>he m) λ_=>rfl
  have e2:=hw j;refine aw (aq fm.pos) ?_;rw[bc];grind
 ·rintro _ ⟨o3,R,C,rfl,fm,he⟩;rw[qU,aG] at he;exact q _ ⟨R,C,rfl,he,(pz k (af _) fm he).1,(pz k (af _) fm he).2⟩
def m8:SpB:=.of 1 (α:=List Int×Int) (λ(P,B) ds=>ds=[pD P B]) (λ(P,B) d=>d = .int ((P.length:Int)-1))
def pJ:TSd:=(iq [] (gZ .Sub (dB bLen bLen.mono (gU (dIx (gV 0) (dC (.int 0))) gW)) (dC (.int 1))))
theorem oe:Does 1 pJ m8:=by
 rintro ds Q hn ⟨⟨P,B⟩,rfl,q⟩;refine q _ ?_;show D.int (((P.map D.int).length:Int)-1)=_;rw[aa]
theorem FB(h0:l≠0)(h:l*x.fdiv l=x)(hx:Lt2 n x):Lt2 n (x.fdiv l):=by
 refine hx.le ?_;generalize x.fdiv l=y at h;rw[← h,bF];exact aW _ (by omega)
theorem Di(h:(x.natAbs:Int)<(10:Int)^40):Lt2 133 x:=by
 unfold Lt2;have e:(10:Int)^40=10000000000000000000000000000000000000000:=by decide
 have e2:(2:Nat)^133=10889035741470030830827987437816582766592:=by decide
 rw[e] at h;rw[e2];omega
theorem tE{α:Type}{xs:List α}{j n:Nat}{v:α}(h:xs[n-j]? = some v)(e:xs.length=n)(hj:1<=j)(hn:j<=n):vq xs (-(j:Int))=some v:=by
 have e:yy xs.length (-(j:Int))=some (n-j):=by
  unfold yy;rw[e,if_neg (by omega),if_pos (by omega)];congr 1;omega
 unfold vq;rw[e];exact h
theorem rO(f:Po.Fm P B)(l:P.length=n+1):P.getD n 0≠0:=by
 rcases f.last with e|e
 ·rw[e] at l;simp at l
 ·rwa [l] at e
theorem FqD.ofN(u0:u≠0)(lt:Lt2 n t)(lu:Lt2 b u):FqD n b (fD (Fr.top t u) (Fr.bot t u)) ((t:Rat) / (u:Rat)):=by
 obtain⟨l1,l2,l3⟩:=Fr.low (t:=t) (b:=u) u0;obtain⟨m1,m2⟩:=Fr.Ci (t:=t) (b:=u) u0;exact⟨_,_,rfl,l1,l3,lt.le m1,lu.le m2,(Qp.rL u0 (by omega)).mpr l2.symm⟩
theorem A5{Ps:List (List Int×Int)}{i:Nat}{d:D}(h:(Ps.map λp=>pD p.1 p.2)[i]? = some d):∃ p,Ps[i]? = some p/\d=pD p.1 p.2:=by
 rw[aJ] at h;obtain⟨p,hp,rfl⟩:=ab.mp h;exact⟨p,hp,rfl⟩
theorem Dr(P:List Int):D.dps (P.map D.int)<=60:=by
 induction P with
 | nil=>decide
 | cons a l ih =>
  show max (D.dp (.int a)) (D.dps (l.map D.int))<=60;have:D.dp (.int a)<=1:=aC _;omega
theorem ri:((a*b:Int):Rat)=(a:Rat)*(b:Rat):=av a b
variable{P:Program}{w:World}{K:Frag}{mg:Str->Option Value}{base:Heap}
def sF(K:Frag)(n:Nat):Sp:=λvs H Q _=>∃(d:DV) (x y:V),vs=[x,y]/\Rep K H d x/\Rep K H d y/\d.dp<n/\d.wd<=100000/\∀ H',Same H H'->Q (.bl true) H'
def iC(n:Nat):SpB:=.of 2 (α:=D) (λd ds=>ds=[d,d]/\d.pl=true/\d.dp<n/\d.dv.wd<=100000) (λ_ r=>r = .bl true)
theorem Ar(g:Def P w K mg base "_law_alike" k ps (sF K n)):Def P w K mg base "_law_alike" k ps (v8 K (iC n).n (iC n).run):=by
 obtain⟨f,fd,F,r⟩:=g.ex;refine⟨f,fd,F.imp (λvs H Q E h=>?_),r⟩;obtain⟨hn,f,O,ds,fl,fO,al,lO,rp,d,⟨rfl,hp,hd,hw⟩,q⟩:=h;obtain⟨v,v',rfl,e1,e2⟩:=Rps.two rp;exact⟨d.dv,v,v',rfl,Rp.rep hp e1,Rp.rep hp e2,by rw[D.dv_dp];exact hd,hw,λH' s=>q (.bl true) rfl _ H' ⟨s.sm,fl.same s⟩ rfl⟩
end Dp
namespace Qp
open L2 Cv Hv Pc
def tc(r:Rat):Nat->Nat->Rat
 | 0,k=>if k=0 then 2 else 0
 | 1,k=>if k=1 then 1 else 0
 | n+2,k=>(if k=0 then 0 else tc r (n+1) (k-1))-tc r n k*r
theorem tc.two(r:Rat)(n k:Nat):tc r (n+2) k=(if k=0 then 0 else tc r (n+1) (k-1))-tc r n k*r:=by rw[tc]
def er(f:Nat->Rat)(x:Rat):Nat->Rat
 | 0=>0
 | n+1=>er f x n+f n*x^n
theorem Ik(h:∀ k,q P B k=f k)(x:Rat):∀ n,er f x n=ei (fn P) x n / (B:Rat)
 | 0=>by unfold er ei;grind
 | n+1=>by
  rw[er,ei,Ik h x n,← h n];show _+(((P.getD n 0:Int):Rat) / (B:Rat))*_=(_+((P.getD n 0:Int):Rat)*_) / _;grind
theorem y8(u0:0<u)(lt:Lt2 M t)(lu:Lt2 M u):∀ n:Nat,∃ F:Nat->Int,(∀ k,tc ((t:Rat) / (u:Rat)) n k=((F k:Int):Rat) / ((u^n:Int):Rat))/\(∀ k,Lt2 ((2*M+1)*n+2) (F k))/\∀ k,n<k->F k=0
 | 0=>⟨λk=>if k=0 then 2 else 0,λk=>by
   rw[aT];show (if k=0 then (2:Rat) else 0)=(((if k=0 then 2 else 0):Int):Rat) / _;by_cases c:k=0
   ·rw[if_pos c,if_pos c];show (2:Rat)=(2:Rat) / 1;grind
   ·rw[if_neg c,if_neg c];show (0:Rat)=(0:Rat) / 1;grind,λk=>by
   show Lt2 _ (if k=0 then 2 else 0);split
   ·exact (show Lt2 2 2 by unfold Lt2;decide).mono (by omega)
   ·exact bV (by decide),λk hk=>if_neg (by omega)⟩
 | 1=>⟨λk=>if k=1 then u else 0,λk=>by
   rw[bc,aT,bO];show (if k=1 then (1:Rat) else 0)=(((if k=1 then u else 0):Int):Rat) / _;have:=qB u0;by_cases c:k=1
   ·rw[if_pos c,if_pos c];grind
   ·rw[if_neg c,if_neg c];show (0:Rat)=(0:Rat) / (u:Rat);grind,λk=>by
   show Lt2 _ (if k=1 then u else 0);split
   ·exact lu.mono (by omega)
   ·exact bV (by decide),λk hk=>if_neg (by omega)⟩
 | n+2=>by
  obtain⟨F,f1,f2,f3⟩:=y8 u0 lt lu (n+1);obtain⟨G,g1,g2,g3⟩:=y8 u0 lt lu n;have nu:=qB u0;have np:=t7 nu n;have s2:Lt2 (2*M) (t*u):=(lt.mul lu).mono (by omega);refine⟨λk=>(if k=0 then 0 else F (k-1))*u-G k*(t*u),λk=>?_,λk=>?_,λk hk=>?_⟩
  ·rw[tc.two,g1 k];simp only[dX,av,cI];have e1:(u:Rat)^(n+2)=(u:Rat)^n*u*u:=by grind
   have e2:(u:Rat)^(n+1)=(u:Rat)^n*u:=by grind
   by_cases c:k=0
   ·rw[if_pos c,if_pos c,e1];have:((0:Int):Rat)=0:=rfl;rw[this];generalize (u:Rat)^n=w at *;grind
   ·rw[if_neg c,if_neg c,f1 (k-1),cI,e1,e2];generalize (u:Rat)^n=w at *;grind
  ·have a:Lt2 ((2*M+1)*(n+1)+2+M) ((if k=0 then 0 else F (k-1))*u):=by
    refine Lt2.mul ?_ lu;split
    ·exact bV (by decide)
    ·exact f2 _
   have b:=(g2 k).mul s2;refine ((a.mono (m:=(2*M+1)*n+2+(2*M)+(M+1)) ?_).sub (b.mono ?_)).mono ?_ <;> grind
  ·show (if k=0 then 0 else F (k-1))*u-G k*(t*u)=0;rw[if_neg (by omega),f3 (k-1) (by omega),g3 k (by omega)];simp
end Qp
namespace Dp
open PySem L2
theorem MA(p:0<B)(c:0<C)(h:∀ k,R.getD k 0*(1*B)=Cv.cv (Cv.fn Pc.X) (Cv.fn P) k*C)(k:Nat):Qp.q R C k=if k=0 then 0 else Qp.q P B (k-1):=by
 rw[Qp.xq (f:=λk=>Cv.cv (Cv.fn Pc.X) (Cv.fn P) k) c (by omega) h k,Cv.rR,Pc.J8 (Cv.fn P) k,bO];by_cases e:k=0
 ·rw[if_pos e,if_pos e];show (0:Rat) / _=0;grind
 ·rw[if_neg e,if_neg e];rfl
def Tk(r:Rat)(n:Nat)(P:List Int)(B:Int):Prop:=Po.Fm P B/\∀ k,Qp.q P B k=Qp.tc r n k
theorem Tk.pz(h:Tk r n P B)(f:FqD M M d r):Pc.Pz ((2*M+1)*n+2) (M*n+1) P B/\P.length<=n+1:=by
 obtain⟨t,u,_,u0,_,lt,lu,rfl⟩:=f;obtain⟨F,f1,f2,f3⟩:=Qp.y8 u0 lt lu n;have p:0<u^n:=bH u0;have hw:∀ k,P.getD k 0*u^n=F k*B:=λk=>(Qp.rL (aq h.1.pos) (aq p)).mp ((h.2 k).trans (f1 k));exact⟨Pc.Pz.of h.1 p hw f2 (Hv.rH lu n),Pc.qP h.1 p hw λk hk=>f3 k (by omega)⟩
theorem Tk.szs(h:Tk r n P B)(f:FqD M M d r)(hM:M<=21)(hn:n<=13):Pc.Pz 570 280 P B/\P.length<=14:=by
 obtain⟨a,b⟩:=h.pz f;have:M*n<=21*13:=bA hM hn;have:(2*M+1)*n<=43*13:=bA (by omega) hn;exact⟨a.mono (by omega) (by omega),by omega⟩
theorem Tk.zero:Tk r 0 [2] 1:=⟨⟨by decide,.inr (by decide),by decide⟩,λk=>by
 cases k with
 | zero=>show (2:Rat) / 1=2;grind
 | succ k=>show ((([2]:List Int).getD (k+1) 0:Int):Rat) / ((1:Int):Rat)=0;rw[bY,qE (aC _)];show (0:Rat) / 1=0;grind⟩
theorem Tk.one:Tk r 1 Pc.X 1:=⟨Pc.Eb.fm,λk=>by
 match k with
 | 0=>show (0:Rat) / 1=0;grind
 | 1=>show (1:Rat) / 1=1;grind
 | k+2 =>
  rw[Qp.s8 (by show 2<=k+2;omega)];show 0=if k+2=1 then 1 else 0;rw[if_neg (by omega)]⟩
def pR:SpB:=.of 2 (α:=D×D×Rat×Rat×Nat×Nat×Nat×Nat) (λ(d1,d2,r1,r2,n1,b1,n2,b2) ds=>ds=[d1,d2]/\FqD n1 b1 d1 r1/\FqD n2 b2 d2 r2/\b1+b2<=9000000/\n1+b2<=9000000/\n2+b1<=9000000)
 (λ(d1,d2,r1,r2,n1,b1,n2,b2) d=>FqD (n1+b2+(n2+b1)+1) (b1+b2) d (r1+r2))
def iy:SpB:=.of 2 (α:=D×D×Rat×Rat×Nat×Nat×Nat×Nat) (λ(d1,d2,r1,r2,n1,b1,n2,b2) ds=>ds=[d1,d2]/\FqD n1 b1 d1 r1/\FqD n2 b2 d2 r2/\b1+b2<=9000000/\n1+n2<=9000000)
 (λ(d1,d2,r1,r2,n1,b1,n2,b2) d=>FqD (n1+n2) (b1+b2) d (r1*r2))
def mN:TSd:=(iq [] (gX ii (gU (gZ .Mult (dIx (gV 0) (dC (.int 0))) (dIx (gV 1) (dC (.int 0)))) (gU (gZ .Mult (dIx (gV 0) (dC (.int 1))) (dIx (gV 1) (dC (.int 1)))) gW))))
theorem kD:Does 2 mN iy:=by
 rintro ds Q hn ⟨⟨d1,d2,r1,r2,n1,b1,n2,b2⟩,⟨rfl,⟨t1,u1,rfl,p1,g1,lt1,lu1,rfl⟩,⟨t2,u2,rfl,p2,g2,lt2,lu2,rfl⟩,hb,h1⟩,q⟩;dsimp only at hb h1 q;have p12:=aA p1 p2;refine⟨⟨_,_,lt1,lt2,by omega⟩,⟨_,_,lu1,lu2,by omega⟩,rfl,(t1*t2,u1*u2),⟨rfl,aq p12,(lu1.mul lu2).mono hb⟩,?_⟩;rintro _ rfl;have f:=FqD.of (t:=t1*t2) (u:=u1*u2) p12 (lt1.mul lt2) (lu1.mul lu2);refine q _ ?_;have h3:(u1:Rat)≠0:=Qp.qB p1;have h4:(u2:Rat)≠0:=Qp.qB p2;have e:((t1*t2:Int):Rat) / ((u1*u2:Int):Rat)=(t1:Rat) / (u1:Rat)*((t2:Rat) / (u2:Rat)):=by
  rw[ri,ri];grind
 rw[← e];exact f
def ia:SpB:=.of 2 (α:=Nat×D×Rat×Nat) (λ(n,d,r,M) ds=>ds=[.int n,d]/\FqD M M d r/\M<=21/\1<=n/\n<=12) (λ(n,d,r,M) e=>∃ P B,e=pD P B/\Tk r n P B)
def kc:TSd:=(iq [] (jm 2 (gV 0)))
def ke:TSd:=dSq (iO [] (jt (gZ .Sub (gV 0) (dC (.int 1)))) (gNm 3)
 (dSq (g7 [] (gNm 4) (gX hJ (gU (jm 2 (jq (dC (.int 2)))) (gU (gX ig (gU (ip (gU (gZ .Sub (dC (.int 0)) (dIx (gV 1) (dC (.int 0)))) gW)) (gU (dIx (gV 1) (dC (.int 1))) gW))) gW))))
 (kB [] 2 (gX iz (gU (gX hJ (gU (ic (gU (ic (gU (dC (.int 0)) (gU (dC (.int 1)) gW))) (gU (dC (.int 1)) gW))) (gU (jm 2 (jq (dC (.int 1)))) gW))) (gU (gV 4) gW))))))
 kc
def kS:TSd:=dSq (jn [] 2 (ip (gU (ic (gU (ic (gU (dC (.int 2)) gW)) (gU (dC (.int 1)) gW))) (gU (ic (gU (ic (gU (dC (.int 0)) (gU (dC (.int 1)) gW))) (gU (dC (.int 1)) gW))) gW))))
 ke
theorem DA(a y b c:Rat)(n1:b≠0)(n2:c≠0):a*y / (b*c)=a / b*(y / c):=by grind
theorem Cd(t u:Rat):(0-t) / u=0-t / u:=by grind
theorem EF{P S R:List Int}{B U C t u:Int}(b0:0<B)(b8:0<U)(c0:0<C)(u0:0<u)(w:S.getD 0 0*u=t*U)(h:∀ k,R.getD k 0*(B*U)=P.getD k 0*S.getD 0 0*C)(k:Nat):Qp.q R C k=Qp.q P B k*((t:Rat) / (u:Rat)):=by
 rw[Qp.xq (f:=λk=>P.getD k 0*S.getD 0 0) c0 (aq (aA b0 b8)) h k,av,av,DA _ _ _ _ (Qp.qB b0) (Qp.qB b8),(Qp.rL (aq b8) (aq u0)).mpr w];rfl
theorem jZ:Does 5 kS ia:=by
 rintro ds Q hn ⟨⟨n,d,r,M⟩,⟨rfl,f,hM,n1,n12⟩,q⟩;dsimp only at f hM n1 n12 q;have en:((n:Int)-1).toNat=n-1:=by omega
 have f':=f;obtain⟨t,u,rfl,u0,g,lt,lu,hr⟩:=f';refine⟨x6,rM,rM,rM,rM,by omega,by omega,λi s=>∃(o3 o4:SD) (xs:List D),s=[.val (.int n),.val (fD t u),.own xs,o3,o4]/\xs.length=i+2/\∀(j:Nat) (x:D),xs[j]? = some x->∃ P B,x=pD P B/\Tk r j P B,⟨.no,.no,_,rfl,rfl,λj x hx=>?_⟩,?_,?_⟩
 ·match j,hx with
  | 0,hx =>
   cases hx;exact⟨[2],1,rfl,Tk.zero⟩
  | 1,hx =>
   cases hx;exact⟨[0,1],1,rfl,Tk.one⟩
 ·rintro i d _ hd ⟨o3,o4,xs,rfl,lx,hxs⟩;obtain⟨hi,rfl⟩:=rS hd;have hi:i<n-1:=by omega
  obtain⟨x0,e0⟩:∃ x,xs[i]? = some x:=⟨xs[i]'(by omega),by simp⟩;obtain⟨x1,e1⟩:∃ x,xs[i+1]? = some x:=⟨xs[i+1]'(by omega),by simp⟩;obtain⟨P0,B0,rfl,h0⟩:=hxs i x0 e0;obtain⟨P1,B1,rfl,h1⟩:=hxs (i+1) x1 e1;obtain⟨z0,l0⟩:=h0.szs f hM (by omega);obtain⟨z1,l1⟩:=h1.szs f hM (by omega);have b0:=h0.1.pos;have b1:=h1.1.pos;refine tj (tE (j:=2) (by rw[show i+2-2=i by omega];exact e0) lx (by decide) (by omega)) ⟨x6,rfl,([0-t],u),⟨.inl rfl,u0,lu.mono (by omega),by show 1<=1000;decide⟩,?_⟩;rintro _ ⟨P8,B8,rfl,f8,w8,l8⟩;have lt':Lt2 M (0-t):=lt.le (by omega);have z8:Pc.Pz M M P8 B8:=Pc.Pz.of f8 u0 w8 (λk=>by
   cases k with
   | zero=>exact lt'
   | succ k=>rw[bY,qE (aC _)];exact va _) lu
  have l8':P8.length<=1:=l8;refine⟨rfl,(P0,B0,P8,B8,_,_,_,_),⟨rfl,z0,z8,by omega,by omega,by omega,by omega⟩,?_⟩;rintro _ ⟨P9,B9,rfl,f9,w9⟩;have c9:∀ k,Cv.cv (Cv.fn P0) (Cv.fn P8) k=P0.getD k 0*P8.getD 0 0:=Ca.yJ λk hk=>qE (by omega);have b8:=f8.pos;have z9:Pc.Pz 600 310 P9 B9:=(Pc.Pz.of f9 (aA b0 b8) w9 (λk=>by rw[c9 k];exact (z0.tops k).mul (z8.tops 0)) (z0.bot.mul z8.bot)).mono (by omega) (by omega);have l9:P9.length<=14:=Pc.qP f9 (aA b0 b8) w9 λk hk=>by
   rw[c9 k,qE (by omega),ay]
  have q9:∀ k,Qp.q P9 B9 k=Qp.q P0 B0 k*(0-r):=λk=>by
   rw[EF (t:=0-t) b0 b8 f9.pos u0 (w8 0) (λk=>by rw[w9 k,c9 k]) k,hr,dX];have i0:((0:Int):Rat)=0:=rfl;rw[i0];exact congrArg _ (Cd _ _)
  refine⟨rM,rM,tj (tE (j:=1) (by rw[show i+2-1=i+1 by omega];exact e1) lx (by decide) (by omega)) ⟨rfl,(Pc.X,1,P1,B1,1,1,_,_),⟨rfl,Pc.Eb,z1,by decide,by decide,(by show 2<=450;decide),by omega⟩,?_⟩⟩;rintro _ ⟨R,C,rfl,fR,wR⟩;have cc:∀ k,Cv.cv (Cv.fn Pc.X) (Cv.fn P1) k=if k=0 then 0 else P1.getD (k-1) 0:=λk=>by
   rw[Cv.rR];exact Pc.J8 (Cv.fn P1) k
  have zR:Pc.Pz 570 281 R C:=Pc.Pz.of fR (c:=1*B1) (by omega) wR (λk=>by
   rw[cc k];split
   ·exact va _
   ·exact z1.tops _) (by rw[bO];exact z1.bot.mono (by decide))
  have lR:R.length<=15:=Pc.qP fR (c:=1*B1) (by omega) wR λk hk=>by
   rw[cc k,if_neg (by omega),qE (by omega)]
  refine⟨rfl,(R,C,P9,B9,_,_,_,_),⟨rfl,zR,z9,by decide,by decide,by omega,by omega⟩,?_⟩;rintro _ ⟨V,W,rfl,fV,wV⟩;have hV:Tk r (i+2) V W:=⟨fV,λk=>by
   rw[Qp.F2 fR.pos f9.pos fV.pos wV k,MA b1 fR.pos wR k,q9 k,h0.2 k,Qp.tc.two];by_cases c:k=0
   ·rw[if_pos c,if_pos c];grind
   ·rw[if_neg c,if_neg c,h1.2 (k-1)];grind⟩
  refine⟨(by rw[lx,sizeLine_eq];omega),_,_,xs++[pD V W],rfl,by rw[am,lx];rfl,λj x hj=>?_⟩;rcases aD j xs.length with y|y
  ·rw[aR y] at hj;exact hxs j x hj
  ·have ej:j=i+2:=by
    have:=(ai.mp hj).1;rw[am] at this;simp at this;omega
   subst ej;rw[ax (by omega),lx,bj] at hj;cases hj;exact⟨V,W,rfl,hV⟩
 ·rintro _ ⟨o3,o4,xs,rfl,lx,hxs⟩;rw[qU,en] at lx;obtain⟨x,ex⟩:∃ x,xs[n]? = some x:=⟨xs[n]'(by omega),by simp⟩;obtain⟨P1,B1,rfl,h⟩:=hxs n x ex;exact rA ex (q _ ⟨P1,B1,rfl,h⟩)
theorem BT(P:List Int):D.dps (P.map D.int)=0:=by
 induction P with
 | nil=>rfl
 | cons a P ih=>show max 0 (D.dps (P.map D.int))=0;rw[ih];rfl
end Dp
namespace Ch
open L2 Cv Hv Pc Qp
abbrev Pl:=List Int×Int
def ld(c:Pl):Rat:=q c.1 c.2 (c.1.length-1)
theorem sN(f1:Po.Fm P1 B)(f2:Po.Fm G U)(l2:G.length=2)(g1:G.getD 1 0≠0)(h3:3<=P1.length)(o:Of P1 B G U S D):S.length=P1.length/\ld (S,D)=ld (P1,B)*q G U 1^(P1.length-1):=by
 obtain⟨a,b⟩:=JD f1 f2 l2 (by intro e;rw[e] at h3;simp at h3) g1 o;refine⟨a,?_⟩;show q S D (S.length-1)=_;rw[a];exact b
theorem ua(l1:P1.length=2)(n1:P1.getD 1 0≠0)(f1:Po.Fm P1 B)(f2:Po.Fm G U)(h3:3<=G.length)(o:Of P1 B G U S D):S.length=G.length/\ld (S,D)=q P1 B 1*ld (G,U):=by
 have hB:=f1.pos;have hU:=f2.pos;have hD:=o.1.pos;have hW:=aA hB hU;have t:=o.two l1 hU;have d0':∀ k,1<=k->d0 k=0:=λk hk=>by show (if k=0 then (1:Int) else 0)=0;rw[if_neg (by omega)]
 have qk:∀ k,1<=k->q S D k=q P1 B 1*q G U k:=λk hk=>by
  have e:=xq (f:=λk=>P1.getD 0 0*d0 k*U+P1.getD 1 0*G.getD k 0) hD (aq hW) t k;rw[e,d0' k hk];have n1:=qB hB;have n2:=qB hU;unfold q;simp only[av,dw];have z:((0:Int):Rat)=0:=rfl;rw[z];grind
 have ql:ld (G,U)≠0:=s9 (P:=G) (B:=U) f2 (by intro e;rw[e] at h3;simp at h3);have qp:q P1 B 1≠0:=by
  unfold q;have a:=qX n1;have b:=qB hB;generalize ((P1.getD 1 0:Int):Rat)=x at *;intro z;grind
 have len:S.length=G.length:=by
  have l1':S.length<=G.length:=qP o.1 hW t λk hk=>by
   rw[d0' k (by omega)];have:G.getD k 0=0:=qF hk;rw[this];simp
  have l2:G.length-1<S.length:=by
   rcases aD (G.length-1) S.length with z|z
   ·exact z
   ·have e:=qk (G.length-1) (by omega);rw[s8 z] at e;rcases cZ.mp e.symm with w|w
    ·exact absurd w qp
    ·exact absurd w ql
  omega
 refine⟨len,?_⟩;show q S D (S.length-1)=_;rw[len];exact qk _ (by omega)
end Ch
namespace Dp
open PySem L2 Ch
abbrev pq(p:Pl):D:=pD p.1 p.2
abbrev cD(cs:List Pl):D:=.tup (cs.map pq)
theorem zD{a:Rat}(h:a≠0):1 / a≠0:=by
 intro z;have:a*(1 / a)=1:=by grind
 rw[z,Rat.mul_zero] at this;exact absurd this (by decide)
theorem IX(p s a B:Rat)(nb:B≠0)(na:a≠0)(hs:s*s=1)(ha:a*s≠0):(0-p*s) / (a*s)=(0-p / B) / (a / B):=by
 have:s≠0:=λz=>by rw[z] at hs;grind
 grind
theorem IW(s a B:Rat)(nb:B≠0)(na:a≠0)(hs:s*s=1)(ha:a*s≠0):B*s / (a*s)=1 / (a / B):=by
 have:s≠0:=λz=>by rw[z] at hs;grind
 grind
def io:SpB:=.of 1 (α:=List Int×Int×Nat×Nat) (λ(P,B,n,b) ds=>ds=[pD P B]/\Pc.Pz n b P B/\P.length=2/\P.getD 1 0≠0/\n<=8000/\b<=8000)
 (λ(P,B,n,b) d=>∃ R C,d=pD R C/\Pc.Pz (n+b+1) n R C/\R.length<=2/\Qp.q R C 1=1 / Qp.q P B 1/\Qp.q R C 0=(0-Qp.q P B 0) / Qp.q P B 1)
def iS:TSd:=(iq [] (gX ig (gU (ip (gU (gZ .Sub (dC (.int 0)) (gZ .Mult (gV 1) (gV 3))) (gU (gZ .Mult (dIx (gV 0) (dC (.int 1))) (gV 3)) gW))) (gU (dB bAbs bAbs.mono (gU (gV 2) gW)) gW))))
def jG:TSd:=dSq (g7 [] (gNm 3) (dIx (ip (gU (gZ .Sub (dC (.int 0)) (dC (.int 1))) (gU (dC (.int 1)) gW))) (dB bInt bInt.mono (gU (iB .Gt (gV 2) (dC (.int 0))) gW))))
 iS
def kg:TSd:=dSq (g7 [] (gTp [1,2]) (dIx (gV 0) (dC (.int 0))))
 jG
theorem jx:Does 4 kg io:=by
 rintro ds Q hn ⟨⟨P,B,n,b⟩,⟨rfl,z,l2,p1,hn,hb⟩,q⟩;dsimp only at z l2 p1 hn hb q;obtain⟨x,y,rfl⟩:∃ x y,P=[x,y]:=by
  match P,l2 with
  | [x,y],_=>exact⟨x,y,rfl⟩
 have p1:y≠0:=p1;have B0:=z.fm.pos;have lx:Lt2 n x:=z.tops 0;have ly:Lt2 n y:=z.tops 1;have key:∀ s:Int,Lt2 1 s->s*s=1->y*s=(y.natAbs:Int)->iS.run (rB Q) [.val (pD [x,y] B),.val (.int x),.val (.int y),.val (.int s)]:=λs ls ss ys=>by
  have a0:(0:Int)<((y.natAbs:Nat):Int):=by omega
  have la:Lt2 n ((y.natAbs:Nat):Int):=by unfold Lt2;rw[bS];exact ly
  refine⟨⟨n,1,lx,ls,by omega⟩,⟨b,1,z.bot,ls,by omega⟩,rM,rfl,([0-x*s,B*s],((y.natAbs:Nat):Int)),⟨.inl ?_,a0,la.mono (by omega),by show 2<=1000;decide⟩,?_⟩
  ·show [D.lst [.int (0-x*s),.int (B*s)],.int (if y<0 then -y else y)]=_;rw[At];rfl
  rintro _ ⟨R,C,rfl,fR,wR,lR⟩;have wR:∀ k,R.getD k 0*((y.natAbs:Nat):Int)=[0-x*s,B*s].getD k 0*C:=wR;have qq:=λk=>Qp.xq (f:=λk=>[0-x*s,B*s].getD k 0) fR.pos (aq a0) wR k;have ys':((y.natAbs:Int):Rat)=(y:Rat)*(s:Rat):=by rw[← ys,av]
  have hs:(s:Rat)*(s:Rat)=1:=by rw[← av,ss];rfl
  have ny:(y:Rat)≠0:=Qp.qX p1;have nB:=Qp.qB B0;have nys:(y:Rat)*(s:Rat)≠0:=by rw[← ys'];exact Qp.qB a0
  refine q _ ⟨R,C,rfl,?_,lR,?_,?_⟩
  ·refine Pc.Pz.of fR a0 wR (λk=>?_) la;match k with
   | 0=>exact (((lx.mul ls).mono (m:=n+1) (af _)).le (by show (0-x*s).natAbs<=(x*s).natAbs;omega)).mono (by omega)
   | 1=>exact (z.bot.mul ls).mono (by omega)
   | k+2=>rw[Pc.xj];exact va _
  ·rw[qq 1];show ((B*s:Int):Rat) / ((y.natAbs:Int):Rat)=1 / ((y:Rat) / (B:Rat));rw[ys',av];exact IW _ _ _ nB ny hs nys
  ·rw[qq 0];show ((0-x*s:Int):Rat) / ((y.natAbs:Int):Rat)=(0-(x:Rat) / (B:Rat)) / ((y:Rat) / (B:Rat));rw[ys',dX,av];exact IX _ _ _ _ nB ny hs nys
 refine⟨rfl,rM,?_⟩;by_cases c:0<y
 ·refine tj (d:=.int 1) ?_ (key 1 (by unfold Lt2;decide) (by decide) (by omega));show vq _ (if decide (0<y)=true then (1:Int) else 0)=_;rw[if_pos (by simpa using c)];rfl
 ·refine tj (d:=.int (0-1)) ?_ (key (0-1) (by unfold Lt2;decide) (by decide) (by omega));show vq _ (if decide (0<y)=true then (1:Int) else 0)=_;rw[if_neg (by simpa using c)];rfl
def jy:SpB:=.of 1 (α:=List Pl) (λcs ds=>ds=[cD cs]/\(∀ p∈cs,0<p.2/\p.1.length<=1000)) (λcs d=>∃ c:Bool,d = .bl c/\(c=true->∀ p∈cs,Lt2 133 p.2/\∀ i,Lt2 133 (p.1.getD i 0)))
def nG:TSd:=(iq [] (dC (.bl true)))
def oz:TSd:=dSq (iO [] (iQ (gV 0)) (gNm 1)
 (dIf [] (iu (iB .GtE (dB bMax bMax.mono (gU (gZ .Add (iI (iQ (dIx (gV 1) (dC (.int 0)))) [2] (gNm 2) ju (dB bAbs bAbs.mono (gU (gV 2) gW))) (ip (gU (dIx (gV 1) (dC (.int 1))) gW))) gW)) (gZ .Pow (dC (.int 10)) (dC (.int 40)))))
 (iq [] (dC (.bl false)))
 iA))
 nG
theorem mO:Does 3 oz jy:=by
 rintro ds Q hn ⟨cs,⟨rfl,hp⟩,q⟩;dsimp only at hp q;have cp:Ei 10 40:=⟨by decide,by decide,by decide⟩;refine⟨λi s=>(∃ o o':SD,s=[.val (cD cs),o,o'])/\∀ j p,j<i->cs[j]? = some p->Lt2 133 p.2/\∀ i,Lt2 133 (p.1.getD i 0),⟨⟨.no,.no,rfl⟩,λj p h=>absurd h (dZ _)⟩,?_,?_⟩
 ·rintro i d _ hd ⟨⟨o,o',rfl⟩,hI⟩;have hd:(cs.map pq)[i]? = some d:=hd;rw[aJ] at hd;obtain⟨p,hp1,rfl⟩:=ab.mp hd;obtain⟨b0,ll⟩:=hp p (aP hp1);refine⟨(congrArg (· <= sizeLine) (aa _)).mpr (sE (by omega)),mI (λz:Int=>((z.natAbs:Nat):Int)) p.1,mI.nil,λj d ys hd _ hy=>?_,λys _ hy=>?_⟩
  ·obtain⟨z,hz,rfl⟩:=AT hd;exact hy.snoc hz (At z)
  cases hy.all (by rw[aa]);refine⟨x6,by rw[aa,aa];exact sE (by show p.1.length+1<=_;omega),p.1.map (λz:Int=>((z.natAbs:Nat):Int))++[p.2],by rw[aN];rfl,by simp,λM hM hle=>⟨cp,?_⟩⟩;refine yV (p:=(10:Int)^40<=M) (λc=>q _ ⟨false,rfl,λz=>by cases z⟩) (λc=>⟨⟨_,_,rfl⟩,λj p' hj hp'=>?_⟩);rcases cG (gQ hj) with e|e
  ·rw[e,hp1] at hp';cases hp';have lt:∀ a∈p.1.map (λz:Int=>((z.natAbs:Nat):Int))++[p.2],a<(10:Int)^40:=λa ha=>by
    have:=hle a ha;omega
   refine⟨?_,λi=>?_⟩
   ·have:=lt p.2 (by simp);exact Di (by rw[Int.natAbs_of_nonneg (by omega)];exact this)
   ·rcases aD i p.1.length with x|x
    ·exact Di (lt _ (bE.mpr (.inl (df.mpr ⟨_,tv x,rfl⟩))))
    ·rw[qE x];exact va _
  ·exact hI j p' e hp'
 ·rintro _ ⟨⟨o,o',rfl⟩,hI⟩;rw[aa] at hI;refine q _ ⟨true,rfl,λ_ p hp=>?_⟩;obtain⟨j,hj⟩:=bI.mp hp;exact hI j p (ai.mp hj).1 hj
end Dp
namespace Ap
open L2 Cv Hv Pc Qp
theorem AN(ts:List Int):∀ n,n<=ts.length->(∀ j,n<=j->ts.getD j 0=0)->∃ m,m<=ts.length/\(∀ j,m<=j->ts.getD j 0=0)/\(m=0\/ts.getD (m-1) 0≠0)
 | 0,_,h=>⟨0,aC _,h,.inl rfl⟩
 | n+1,l,h=>by
  by_cases c:ts.getD n 0=0
  ·refine AN ts n (by omega) λj hj=>?_;rcases cG hj with e|e
   ·rw[← e];exact c
   ·exact h j e
  ·exact⟨n+1,l,h,.inr c⟩
theorem has{F:Nat->Int}{n:Nat}{c:Int}(hc:0<c)(hF:∀ k,n<=k->F k=0):∃ R C,Po.Fm R C/\∀ k,R.getD k 0*c=F k*C:=by
 have e:∀ k,((List.range n).map F).getD k 0=F k:=λk=>by
  rw[ah,aJ];rcases aD k n with z|z
  ·rw[List.getElem?_range z];rfl
  ·rw[bw (by rw[dh];exact z)];exact (hF k z).symm
 obtain⟨m,h1,h2,h3⟩:=AN ((List.range n).map F) n (by rw[aa,dh];exact af _) λj hj=>by rw[e];exact hF j hj
 obtain⟨f,w⟩:=Po.form hc h1 h2 h3;exact⟨_,_,f,λk=>by rw[w k,e]⟩
def Pf(f:Rat->Rat):Prop:=∃ R C,Po.Fm R C/\∀ x,E R C x=f x
theorem Pf.of(f:Po.Fm P B):Pf (E P B):=⟨P,B,f,λ_=>rfl⟩
theorem Pf.add(hf:Pf f)(hg:Pf g):Pf λx=>f x+g x:=by
 obtain⟨P1,B1,f1,e1⟩:=hf;obtain⟨P2,B2,f2,e2⟩:=hg;obtain⟨R,C,fR,w⟩:=has (F:=λk=>P1.getD k 0*B2+P2.getD k 0*B1) (n:=P1.length+P2.length) (aA f1.pos f2.pos) λk hk=>by
  have a:P1.getD k 0=0:=qF (by omega);have b:P2.getD k 0=0:=qF (by omega);rw[a,b];simp
 exact⟨R,C,fR,λx=>by rw[xh f1.pos f2.pos fR.pos w,e1,e2]⟩
theorem Pf.mul{f g:Rat->Rat}(hf:Pf f)(hg:Pf g):Pf λx=>f x*g x:=by
 obtain⟨P1,B1,f1,e1⟩:=hf;obtain⟨P2,B2,f2,e2⟩:=hg;obtain⟨R,C,fR,w⟩:=has (F:=cv (fn P1) (fn P2)) (n:=P1.length+P2.length) (aA f1.pos f2.pos) λk hk=>rP (a:=P1.length) (b:=P2.length) (λj h=>qF h) (λj h=>qF h) (by omega);exact⟨R,C,fR,λx=>by rw[uC f1.pos f2.pos fR w,e1,e2]⟩
theorem Pf.const(r:Rat):Pf λ_=>r:=by
 obtain⟨t,u,hu,rfl⟩:=sd r;obtain⟨R,C,fR,w⟩:=has (F:=λk=>[t].getD k 0) (n:=1) hu λk hk=>by
  obtain⟨j,rfl⟩:∃ j,k=j+1:=⟨k-1,by omega⟩;simp
 exact⟨R,C,fR,λx=>xY fR hu w x⟩
theorem Pf.sub(hf:Pf f)(hg:Pf g):Pf λx=>f x-g x:=by
 obtain⟨R,C,f,e⟩:=hf.add ((Pf.const (-1)).mul hg);exact⟨R,C,f,λx=>by rw[e];grind⟩
theorem Lj{P1 P2 R:List Int}{B1 B2 C:Int}(f1:Po.Fm P1 B1)(f2:Po.Fm P2 B2)(fR:Po.Fm R C)(n1:P1≠[])(n2:P2≠[])(h:∀ x,E R C x=E P1 B1 x*E P2 B2 x):P1.length+P2.length=R.length+1:=by
 have p:=aA f1.pos f2.pos;obtain⟨S,D,fS,w⟩:=has (F:=cv (fn P1) (fn P2)) (n:=P1.length+P2.length) p λk hk=>rP (a:=P1.length) (b:=P2.length) (λj h=>qF h) (λj h=>qF h) (by omega);obtain⟨rfl,rfl⟩:=tF fR fS λx=>by rw[h,uC f1.pos f2.pos fS w]
 have l1:0<P1.length:=cU.mpr n1;have l2:0<P2.length:=cU.mpr n2;have t1:P1.getD (P1.length-1) 0≠0:=f1.last.resolve_left n1;have t2:P2.getD (P2.length-1) 0≠0:=f2.last.resolve_left n2;have top:=Ac (f:=fn P1) (g:=fn P2) (a:=P1.length-1) (b:=P2.length-1) (λj hj=>qF (by omega)) (λj hj=>qF (by omega));have e:=w (P1.length-1+(P2.length-1));rw[top] at e;have ne:R.getD (P1.length-1+(P2.length-1)) 0≠0:=λz=>by
  rw[z,ay] at e;exact bC (bC t1 t2) (aq fR.pos) e.symm
 have up:R.length<=P1.length-1+(P2.length-1)+1:=qP fR p w λk hk=>rP (a:=P1.length) (b:=P2.length) (λj h=>qF h) (λj h=>qF h) (by omega);have dn:P1.length-1+(P2.length-1)<R.length:=by
  rcases aD (P1.length-1+(P2.length-1)) R.length with z|z
  ·exact z
  ·exact absurd (qF (P:=R) z) ne
 omega
abbrev Pl:=List Int×Int
def Ed(y x:Rat):List Pl->Rat
 | []=>0
 | p::ps=>E p.1 p.2 x+y*Ed y x ps
theorem Ed.pf(hh:Pf h):∀{ps:List Pl},(∀ p∈ps,Po.Fm p.1 p.2)->Pf λx=>Ed (h x) x ps
 | [],_=>Pf.const 0
 | p::ps,f=>(Pf.of (f p aF)).add (hh.mul (Ed.pf hh λq hq=>f q (az _ hq)))
theorem uD(B:Int)(x:Rat):E [] B x=0:=by
 show (0:Rat) / _=0;grind
theorem Ed.uniq{U:Int}{s:Nat}(fG:Po.Fm G U)(lG:G.length=s+1):∀{ps qs:List Pl},ps.length=qs.length->(∀ p∈ps,Po.Fm p.1 p.2/\p.1.length<=s)->(∀ p∈qs,Po.Fm p.1 p.2/\p.1.length<=s)->(∀ x,Ed (E G U x) x ps=Ed (E G U x) x qs)->ps=qs
 | [],[],_,_,_,_=>rfl
 | p::ps,q::qs,l,hp,hq,h=>by
  have hp':∀ r∈ps,Po.Fm r.1 r.2/\r.1.length<=s:=λr hr=>hp r (az _ hr);have hq':∀ r∈qs,Po.Fm r.1 r.2/\r.1.length<=s:=λr hr=>hq r (az _ hr);obtain⟨fp,lp⟩:=hp p aF;obtain⟨fq,lq⟩:=hq q aF;obtain⟨W,w,fW,eW⟩:=(Ed.pf (Pf.of fG) λr hr=>(hp' r hr).1).sub (Ed.pf (Pf.of fG) λr hr=>(hq' r hr).1)
  -- the rests are the same
  obtain⟨D,d,fD,wD⟩:=has (F:=λk=>q.1.getD k 0*p.2+p.1.getD k 0*(-1)*q.2) (n:=s) (aA fq.pos fp.pos) λk hk=>by
   have a:p.1.getD k 0=0:=qF (by omega);have b:q.1.getD k 0=0:=qF (by omega);rw[a,b];simp
  have eD:∀ x,E D d x=E q.1 q.2 x-E p.1 p.2 x:=λx=>by
   have fm:∀ k,(p.1.map λz=>z*(-1)).getD k 0=p.1.getD k 0*(-1):=λk=>by
    rw[ah,ah,aJ];cases p.1[k]? <;> simp
   have e1:=xh (P1:=q.1) (P2:=p.1.map λz=>z*(-1)) (R:=D) (C:=d) fq.pos fp.pos fD.pos (λk=>by rw[fm];exact wD k) x;have e2:E (p.1.map λz=>z*(-1)) p.2 x = -E p.1 p.2 x:=by
    have:∀ n,ei (fn (p.1.map λz=>z*(-1))) x n=ei (fn p.1) x n*((-1:Int):Rat):=λn=>by
     rw[← uT];congr 1;funext k;exact fm k
    unfold E;rw[this,aa];show _*(-1:Rat) / _=_;grind
   rw[e1,e2];grind
  have lD:D.length<=s:=qP fD (aA fq.pos fp.pos) wD λk hk=>by
   have a:p.1.getD k 0=0:=qF (by omega);have b:q.1.getD k 0=0:=qF (by omega);rw[a,b];simp
  have key:∀ x,E D d x=E G U x*E W w x:=λx=>by
   have a:E p.1 p.2 x+E G U x*Ed (E G U x) x ps=E q.1 q.2 x+E G U x*Ed (E G U x) x qs:=h x;rw[eD,eW];grind
  have W0:W=[]:=Classical.byContradiction λnW=>by
   have:=Lj fG fW fD (by intro z;rw[z] at lG;simp at lG) nW key;have:0<W.length:=cU.mpr nW;omega
  have t:∀ x,Ed (E G U x) x ps=Ed (E G U x) x qs:=λx=>by
   have a:=eW x;rw[W0,uD] at a;grind
  have e:=Ed.uniq fG lG (by simpa using l) hp' hq' t;have c:∀ x,E p.1 p.2 x=E q.1 q.2 x:=λx=>by
   have a:E p.1 p.2 x+E G U x*Ed (E G U x) x ps=E q.1 q.2 x+E G U x*Ed (E G U x) x qs:=h x;rw[t x] at a;grind
  obtain⟨y1,y2⟩:=tF fp fq c;rw[e,show p=q from Prod.ext y1 y2]
end Ap
namespace Dp
open PySem L2
theorem yP(h:Ca.Cand P k s R C)(s1:1<=s):R s=C/\R 0=0:=by
 obtain⟨c,g,c0,g0,h1,h2,h3⟩:=h;have:=h2 0 (by omega);rw[bD,aT,bv,g0,bO] at this;exact⟨this,h3⟩
theorem xP(f:Nat->Rat)(y:Rat):∀ n,Qp.er f y (n+1)=f 0+y*Qp.er (λk=>f (k+1)) y n
 | 0=>by unfold Qp.er Qp.er;grind
 | n+1=>by
  rw[Qp.er,xP f y n,Qp.er];grind
theorem Km(l:P.length<=1)(x:Rat):Qp.E P B x=Qp.q P B 0:=by
 rw[Qp.yT (N:=1) l,Qp.Lv];rfl
theorem Gu:∀{Ps:List (List Int×Int)} {f:Nat->Rat},(∀ p∈Ps,p.1.length<=1)->(∀ j p,Ps[j]? = some p->f j=Qp.q p.1 p.2 0)->Ap.Ed y x Ps=Qp.er f y Ps.length
 | [],_,_,_=>rfl
 | p::Ps,f,h,hf=>by
  show Qp.E p.1 p.2 x+y*Ap.Ed y x Ps=_;rw[bt,xP,Km (h p aF),hf 0 p rfl,Gu (λq hq=>h q (az _ hq)) λj q hq=>hf (j+1) q hq]
theorem B6(l:R.length<=N)(y:Rat):Qp.E R C y=Qp.er (Qp.q R C) y N:=by
 rw[Qp.Ik (λ_=>rfl),Qp.yT l]
end Dp
namespace Ca
open Cv
theorem Ho(hk:0<k)(g0:g 0=1)(g0':g' 0=1)(h:∀ j,j<s->pw g k j=pw g' k j):∀ j,j<s->g j=g' j:=by
 have go:∀ n,∀ j,j<n->j<s->g j=g' j:=by
  intro n;induction n with
  | zero=>intro j hj;omega
  | succ n ih =>
   intro j hj js;rcases aD j n with z|z
   ·exact ih j z js
   ·have e:j=n:=by omega
    subst e;cases j with
    | zero=>rw[g0,g0']
    | succ j =>
     have p:=(xt (g:=g) (g':=g') (s:=j) g0 (λi hi=>(ih i (by omega) (by omega)).symm) k).2;rw[h (j+1) js] at p;have:(k:Int)*(g' (j+1)-g (j+1))=0:=by omega
     rcases bu.mp this with w|w <;> omega
 exact λj hj=>go s j hj hj
theorem Cand.uniq(hk:0<k)(hP:P (k*s)≠0)(f:Po.Fm R C)(f':Po.Fm R' C')(l:R.length=s+1)(l':R'.length=s+1)(h:Cand P k s (λi=>R.getD i 0) C)(h':Cand P k s (λi=>R'.getD i 0) C'):R=R'/\C=C':=by
 obtain⟨c,g,c0,g0,h1,h2,h3⟩:=h;obtain⟨c',g',c0',g0',h1',h2',h3'⟩:=h';have e:∀ j,j<s->g j*c'^j=g' j*c^j:=by
  refine Ho (g:=λi=>g i*c'^i) (g':=λi=>g' i*c^i) hk ?_ ?_ λj hj=>?_
  ·show g 0*c'^0=1;rw[g0];simp
  ·show g' 0*c^0=1;rw[g0'];simp
  ·rw[xu,xu];refine Int.eq_of_mul_eq_mul_left hP ?_;have a:=h1 j hj;have b:=h1' j hj
   calc P (k*s)*(pw g k j*c'^j)=(P (k*s)*pw g k j)*c'^j:=by grind
    _=P (k*s-j)*c'^j*c^j:=by rw[← a];grind
    _=(P (k*s)*pw g' k j)*c^j:=by rw[← b]
    _=P (k*s)*(pw g' k j*c^j):=by grind
 refine Po.uniq f f' λi=>?_;rcases aD s i with z|z
 ·have a:R.getD i 0=0:=qF (by omega);have b:R'.getD i 0=0:=qF (by omega);rw[a,b];simp
 by_cases c1:i=0
 ·subst c1;have h3:R.getD 0 0=0:=h3;have h3':R'.getD 0 0=0:=h3';rw[h3,h3'];simp
 have a:R.getD (s-(s-i)) 0*c^(s-i)=g (s-i)*C:=h2 (s-i) (by omega);have b:R'.getD (s-(s-i)) 0*c'^(s-i)=g' (s-i)*C':=h2' (s-i) (by omega);rw[show s-(s-i)=i by omega] at a b;have x:=e (s-i) (by omega);have p1:c^(s-i)≠0:=bB (aq c0);have p2:c'^(s-i)≠0:=bB (aq c0');refine aw (bC p1 p2) ?_;generalize c^(s-i)=y at *;generalize c'^(s-i)=y' at *;generalize g (s-i)=u at *;generalize g' (s-i)=u' at *
 calc R.getD i 0*C'*(y*y')=(R.getD i 0*y)*y'*C':=by grind
  _=(u*y')*C*C':=by rw[a];grind
  _=(u'*C')*y*C:=by rw[x];grind
  _=R'.getD i 0*C*(y*y'):=by rw[← b];grind
end Ca
namespace Ap
open L2 Cv Hv Pc Qp
theorem Ed.pad(y x:Rat):∀(ps:List Pl) (n:Nat),Ed y x (ps++List.replicate n ([],1))=Ed y x ps
 | [],0=>rfl
 | [],n+1=>by
  have:=Ed.pad y x [] n;rw[bx];show E [] 1 x+y*Ed y x (List.replicate n ([],1))=0;have e:Ed y x (List.replicate n ([],1))=0:=this;rw[e,uD];grind
 | p::ps,n=>by
  show _+y*Ed y x (ps++List.replicate n ([],1))=_+y*Ed y x ps;rw[Ed.pad y x ps n]
theorem vL:Po.Fm ([]:List Int) 1:=⟨by decide,.inl rfl,by decide⟩
theorem Ed.uniq2(fG:Po.Fm G U)(lG:G.length=s+1)(hp:∀ p∈ps,Po.Fm p.1 p.2/\p.1.length<=s)(hq:∀ p∈qs,Po.Fm p.1 p.2/\p.1.length<=s)(h:∀ x,Ed (E G U x) x ps=Ed (E G U x) x qs)(t:Nat):ps.getD t ([],1)=qs.getD t ([],1):=by
 have rep:∀(n:Nat) (p:Pl),p∈List.replicate n (([],1):Pl)->Po.Fm p.1 p.2/\p.1.length<=s:=λn p hp=>by
  rw[(List.mem_replicate.mp hp).2];exact⟨vL,aC _⟩
 have e:=Ed.uniq fG lG (ps:=ps++List.replicate qs.length ([],1)) (qs:=qs++List.replicate ps.length ([],1)) (by simp;omega) (λp h=>by
  rcases bE.mp h with z|z
  ·exact hp p z
  ·exact rep _ p z) (λp h=>by
  rcases bE.mp h with z|z
  ·exact hq p z
  ·exact rep _ p z) (λx=>by rw[Ed.pad,Ed.pad,h])
 have g:∀(l:List Pl) (n:Nat),(l++List.replicate n (([],1):Pl)).getD t ([],1)=l.getD t ([],1):=λl n=>by
  rw[ah,ah];rcases aD t l.length with z|z
  ·rw[aR z]
  ·rw[ax z,bw z,dc];split <;> rfl
 have:=congrArg (λl:List Pl=>l.getD t ([],1)) e;rwa [g,g] at this
end Ap
namespace Dp
open PySem L2
theorem DW(r:Rat):∃ p:List Int×Int,Po.Fm p.1 p.2/\p.1.length<=1/\∀ x,Qp.E p.1 p.2 x=r:=by
 obtain⟨t,u,hu,rfl⟩:=Qp.sd r;have h1:∀ k,1<=k->([t]:List Int).getD k 0=0:=λk hk=>qE hk;obtain⟨R,C,fR,w⟩:=Ap.has (F:=λk=>[t].getD k 0) (n:=1) hu h1;exact⟨(R,C),fR,Pc.qP fR hu w h1,λx=>Qp.xY fR hu w x⟩
theorem xQ:∀(n:Nat) (f:Nat->Rat),∃ Cs:List (List Int×Int),Cs.length=n/\(∀ p∈Cs,Po.Fm p.1 p.2/\p.1.length<=1)/\∀ x y,Ap.Ed y x Cs=Qp.er f y n
 | 0,f=>⟨[],rfl,λp h=>absurd h aK,λx y=>rfl⟩
 | n+1,f=>by
  obtain⟨Cs,l,h,e⟩:=xQ n λk=>f (k+1);obtain⟨p,fp,lp,ep⟩:=DW (f 0);refine⟨p::Cs,by rw[bt,l],λq hq=>?_,λx y=>?_⟩
  ·rcases ao.mp hq with z|z
   ·rw[z];exact⟨fp,lp⟩
   ·exact h q z
  ·show Qp.E p.1 p.2 x+y*Ap.Ed y x Cs=_;rw[xP,ep,e]
theorem mem_getD{α:Type}{l:List α}{t:Nat}{d:α}{p:α->Prop}(h:∀ x∈l,p x)(hd:p d):p (l.getD t d):=by
 rcases aD t l.length with z|z
 ·exact h _ (tv z)
 ·rw[qE z];exact hd
end Dp
namespace Ap
open L2 Cv Hv Pc Qp
def Pl'(n:Nat)(f:Rat->Rat):Prop:=∃ R C,Po.Fm R C/\(∀ x,E R C x=f x)/\R.length<=n
theorem Pl'.of(f:Po.Fm P B):Pl' P.length (E P B):=⟨P,B,f,λ_=>rfl,af _⟩
theorem Pl'.mono(h:Pl' n f)(l:n<=m):Pl' m f:=by
 obtain⟨R,C,a,b,c⟩:=h;exact⟨R,C,a,b,by omega⟩
theorem Pl'.congr(h:Pl' n f)(e:∀ x,f x=g x):Pl' n g:=by
 obtain⟨R,C,a,b,c⟩:=h;exact⟨R,C,a,λx=>by rw[b,e],c⟩
theorem Pl'.add(hf:Pl' n f)(hg:Pl' n g):Pl' n λx=>f x+g x:=by
 obtain⟨P1,B1,f1,e1,l1⟩:=hf;obtain⟨P2,B2,f2,e2,l2⟩:=hg;have z:∀ k,n<=k->P1.getD k 0*B2+P2.getD k 0*B1=0:=λk hk=>by
  have a:P1.getD k 0=0:=qF (by omega);have b:P2.getD k 0=0:=qF (by omega);rw[a,b];simp
 obtain⟨R,C,fR,w⟩:=has (F:=λk=>P1.getD k 0*B2+P2.getD k 0*B1) (n:=n) (aA f1.pos f2.pos) z;exact⟨R,C,fR,λx=>by rw[xh f1.pos f2.pos fR.pos w,e1,e2],qP fR (aA f1.pos f2.pos) w z⟩
theorem Pl'.mul(hf:Pl' n f)(hg:Pl' (m+1) g):Pl' (n+m) λx=>f x*g x:=by
 obtain⟨P1,B1,f1,e1,l1⟩:=hf;obtain⟨P2,B2,f2,e2,l2⟩:=hg;have z:∀ k,n+m<=k->cv (fn P1) (fn P2) k=0:=λk hk=>rP (a:=n) (b:=m+1) (λj h=>qF (by omega)) (λj h=>qF (by omega)) (by omega);obtain⟨R,C,fR,w⟩:=has (F:=cv (fn P1) (fn P2)) (n:=n+m) (aA f1.pos f2.pos) z;exact⟨R,C,fR,λx=>by rw[uC f1.pos f2.pos fR w,e1,e2],qP fR (aA f1.pos f2.pos) w z⟩
theorem Pl'.const(r:Rat):Pl' 1 λ_=>r:=by
 obtain⟨t,u,hu,rfl⟩:=sd r;have z:∀ k,1<=k->([t]:List Int).getD k 0=0:=λk hk=>by
  obtain⟨j,rfl⟩:∃ j,k=j+1:=⟨k-1,by omega⟩;simp
 obtain⟨R,C,fR,w⟩:=has (F:=λk=>[t].getD k 0) (n:=1) hu z;exact⟨R,C,fR,λx=>xY fR hu w x,qP fR hu w z⟩
theorem Pl'.smul(r:Rat)(hf:Pl' n f):Pl' n λx=>r*f x:=(hf.mul (m:=0) (Pl'.const r)).congr λx=>Rat.mul_comm _ _
theorem Pl'.x:Pl' 2 λx=>x:=⟨X,1,⟨by decide,.inr (by decide),by decide⟩,KC,af _⟩
theorem Pl'.pow(hf:Pl' (s+1) f):∀ k:Nat,Pl' (s*k+1) λx=>f x^k
 | 0=>(Pl'.const 1).congr λx=>by rw[cC]
 | k+1=>((Pl'.pow hf k).mul hf).congr (λx=>by rw[cE]) |>.mono (by rw[cq];omega)
theorem Pl'.comp(hg:Pl' (s+1) g):Pl' (s*(P.length-1)+1) λx=>E P B (g x):=by
 have go:∀ n,Pl' (s*(n-1)+1) λx=>er (q P B) (g x) n:=by
  intro n;induction n with
  | zero=>exact (Pl'.const 0).mono (by omega)
  | succ n ih =>
   have a:Pl' (s*n+1) λx=>q P B n*g x^n:=(hg.pow n).smul _;exact ((ih.mono (Nat.add_le_add_right (au _ (by omega)) 1)).add a).congr λx=>rfl
 refine (go P.length).congr λx=>?_;rw[Ik (λ_=>rfl)];rfl
theorem Hm(fA:Po.Fm A a)(fD:Po.Fm D d)(h:∀ x,E A a x=E D d x)(i:Nat):q A a i=q D d i:=by
 obtain⟨rfl,rfl⟩:=tF fA fD h;rfl
theorem vI(fA:Po.Fm A a)(fH:Po.Fm H c)(fD:Po.Fm D d)(h:∀ x,E A a x=u*E H c x+E D d x)(i:Nat):q A a i=u*q H c i+q D d i:=by
 obtain⟨t,v,hv,rfl⟩:=sd u;have p1:=aA fH.pos hv;have z1:∀ k,H.length<=k->H.getD k 0*t=0:=λk hk=>by
  have:H.getD k 0=0:=qF hk;rw[this];simp
 obtain⟨S,e,fS,w⟩:=has (F:=λk=>H.getD k 0*t) (n:=H.length) p1 z1;have eS:∀ x,E S e x=(t:Rat) / (v:Rat)*E H c x:=λx=>by
  rw[uX (N:=S.length+H.length) fS.pos (aq p1) w (by omega),uT,yT (P:=H) (N:=S.length+H.length) (by omega),av];have n1:=qB fH.pos;have n2:=qB hv;show ei (fn H) x _*_ / _=_;generalize ei (fn H) x (S.length+H.length)=y;grind
 have qS:q S e i=(t:Rat) / (v:Rat)*q H c i:=by
  rw[xq (f:=λk=>H.getD k 0*t) fS.pos (aq p1) w i,av,av];have n1:=qB fH.pos;have n2:=qB hv;unfold q;grind
 have p2:=aA fS.pos fD.pos;obtain⟨V,b,fV,w2⟩:=has (F:=λk=>S.getD k 0*d+D.getD k 0*e) (n:=S.length+D.length) p2 λk hk=>by
  have x:S.getD k 0=0:=qF (by omega);have y:D.getD k 0=0:=qF (by omega);rw[x,y];simp
 rw[Hm fA fV (λx=>by rw[h,xh fS.pos fD.pos fV.pos w2,eS]) i,F2 fS.pos fD.pos fV.pos w2,qS]
end Ap
namespace Ca
open L2 Cv Hv Pc Qp
theorem zd(fG:Po.Fm G U)(k:Nat):∃ H C,Po.Fm H C/\(∀ x,E H C x=E G U x^k)/\∀ i,q H C i=((pw (fn G) k i:Int):Rat) / ((U^k:Int):Rat):=by
 induction k with
 | zero =>
  refine⟨[1],1,⟨by decide,.inr (by decide),by decide⟩,λx=>?_,λi=>?_⟩
  ·rw[cC];unfold E;show (0+((1:Int):Rat)*x^0) / ((1:Int):Rat)=1;rw[cC];show (0+(1:Rat)*1) / 1=1;grind
  ·rw[aT];unfold q;congr 1;cases i with
   | zero=>rfl
   | succ i=>rfl
 | succ k ih =>
  obtain⟨H,C,fH,eH,qH⟩:=ih;have p:=aA fH.pos fG.pos;obtain⟨S,D,fS,w⟩:=Ap.has (F:=cv (fn H) (fn G)) (n:=H.length+G.length) p λj hj=>rP (a:=H.length) (b:=G.length) (λi h=>qF h) (λi h=>qF h) (by omega);refine⟨S,D,fS,λx=>by rw[uC fH.pos fG.pos fS w,eH,cE],λi=>?_⟩;have pU:(0:Int)<U^k:=bH fG.pos;have hk:∀ j,fn H j*U^k=pw (fn G) k j*C:=λj=>(rL (aq fH.pos) (aq pU)).mp (qH j);have e:cv (fn H) (fn G) i*U^k=pw (fn G) (k+1) i*C:=by
   show _=cv (pw (fn G) k) (fn G) i*C;rw[← si,← si];exact rq hk λ_=>rfl
  rw[xq (f:=λk=>cv (fn H) (fn G) k) fS.pos (aq p) w i];refine (rL (aq p) (aq (bH fG.pos))).mpr ?_;rw[bc]
  calc cv (fn H) (fn G) i*(U^k*U)=(cv (fn H) (fn G) i*U^k)*U:=by grind
   _=pw (fn G) (k+1) i*(C*U):=by rw[e];grind
def Sem(P:List Int)(B:Int)(k s:Nat)(G:List Int)(U:Int):Prop:=∃ r:Rat->Rat,Ap.Pl' (k*s-s+1) r/\∀ x,E P B x=q P B (k*s)*E G U x^k+r x
theorem Cu(h:∀ i,i<s->G (s-i)*c^i=g i*U)(hj:j<s):pw (rv s G) k j*c^j=pw g k j*U^k:=by
 rw[← xu,← CD];refine F3 (n:=j) (λi hi=>?_) k j (af _);show rv s G i*c^i=g i*U;rw[← h i (by omega)];unfold rv;rw[if_pos (by omega)]
theorem Cand.sem(fP:Po.Fm P B)(lP:P.length=k*s+1)(fG:Po.Fm G U)(lG:G.length=s+1)(k1:1<=k)(s1:1<=s)(h:Cand (λi=>P.getD i 0) k s (λi=>G.getD i 0) U):Sem P B k s G U:=by
 obtain⟨c,g,c0,g0,h1,h2,h3⟩:=h;obtain⟨H,C,fH,eH,qH⟩:=zd fG k;have ks:s<=k*s:=aW _ k1;obtain⟨R,D,fR,eR⟩:=(Ap.Pf.of fP).add ((Ap.Pf.const (-q P B (k*s))).mul (Ap.Pf.of fH));have eR:∀ x,E R D x=E P B x + -q P B (k*s)*E H C x:=eR;have qR:∀ i,q R D i = -q P B (k*s)*q H C i+q P B i:=Ap.vI fR fH fP λx=>by rw[eR];grind
 have z:∀ i,k*s-s+1<=i->q R D i=0:=λi hi=>by
  rw[qR,qH];rcases aD (k*s) i with w|w
  ·rw[xr (λj hj=>qF (by omega)) k i w,s8 (P:=P) (k:=i) (by omega)];show _*((0:Rat) / _)+0=0;grind
  ·obtain⟨j,hj,rfl⟩:∃ j,j<s/\i=k*s-j:=⟨k*s-i,by omega,by omega⟩;rw[AD (λj hj=>qF (by omega)) k j (by omega)];have a:=Cu (G:=fn G) (k:=k) h2 hj;have b:P.getD (k*s-j) 0*c^j=P.getD (k*s) 0*pw g k j:=h1 j hj;have cj:c^j≠0:=bB (aq c0);have e:P.getD (k*s-j) 0*U^k=P.getD (k*s) 0*pw (rv s (fn G)) k j:=by
    refine aw cj ?_
    calc P.getD (k*s-j) 0*U^k*c^j=(P.getD (k*s-j) 0*c^j)*U^k:=by grind
     _=P.getD (k*s) 0*(pw g k j*U^k):=by rw[b];grind
     _=P.getD (k*s) 0*pw (rv s (fn G)) k j*c^j:=by rw[← a];grind
   have e2:=congrArg (λz:Int=>(z:Rat)) e;simp only[av] at e2;have n1:=qB fP.pos;have n2:=qB (show 0<U^k from bH fG.pos);unfold q;generalize ((pw (rv s (fn G)) k j:Int):Rat)=y at *;generalize ((P.getD (k*s) 0:Int):Rat)=p at *;generalize ((P.getD (k*s-j) 0:Int):Rat)=p' at *;generalize ((U^k:Int):Rat)=u at *;have:p'=p*y / u:=by grind
   rw[this];grind
 refine⟨E R D,⟨R,D,fR,λ_=>rfl,?_⟩,λx=>by rw[eR,eH];grind⟩;rcases aD (k*s-s+1) R.length with w|w
 ·exact absurd (z (R.length-1) (by omega)) (s9 fR (by intro e;rw[e] at w;simp at w))
 ·exact w
theorem Sem.cand(fP:Po.Fm P B)(fG:Po.Fm G U)(lG:G.length=s+1)(k1:1<=k)(s1:1<=s)(mon:G.getD s 0=U)(G0:G.getD 0 0=0)(h:Sem P B k s G U):Cand (λi=>P.getD i 0) k s (λi=>G.getD i 0) U:=by
 obtain⟨r,⟨R,D,fR,eR,lR⟩,e⟩:=h;obtain⟨H,C,fH,eH,qH⟩:=zd fG k;have ks:s<=k*s:=aW _ k1;have qq:=Ap.vI (u:=q P B (k*s)) fP fH fR λx=>by rw[e,eH,eR]
 have hg:∀ i,i<s->fn G (s-i)*U^i=(if i=0 then 1 else G.getD (s-i) 0*U^(i-1))*U:=λi hi=>by
  cases i with
  | zero =>
   rw[if_pos rfl,bD,aT];show G.getD s 0*1=1*U;rw[mon];omega
  | succ i =>
   rw[if_neg (by omega),aL,bc,bZ];rfl
 refine⟨U,λi=>if i=0 then 1 else G.getD (s-i) 0*U^(i-1),fG.pos,rfl,λj hj=>?_,hg,G0⟩;have a:=Cu (k:=k) hg hj;have b:=qq (k*s-j);rw[qH,AD (λj hj=>qF (by omega)) k j (by omega),s8 (P:=R) (by omega)] at b;have pU:(0:Int)<U^k:=bH fG.pos;have e2:P.getD (k*s-j) 0*U^k=P.getD (k*s) 0*pw (rv s (fn G)) k j:=by
  have n1:=qB fP.pos;have n2:=qB pU;unfold q at b;have:((P.getD (k*s-j) 0*U^k:Int):Rat)=((P.getD (k*s) 0*pw (rv s (fn G)) k j:Int):Rat):=by
   rw[av,av];generalize ((pw (rv s (fn G)) k j:Int):Rat)=y at *;generalize ((P.getD (k*s) 0:Int):Rat)=p at *;generalize ((P.getD (k*s-j) 0:Int):Rat)=p' at *;generalize ((U^k:Int):Rat)=u at *;have:p'=p*(y / u):=by grind
   rw[this];grind
  exact dY.mp this
 refine aw (aq pU) ?_
 calc P.getD (k*s-j) 0*U^j*U^k=(P.getD (k*s-j) 0*U^k)*U^j:=by grind
  _=P.getD (k*s) 0*(pw (rv s (fn G)) k j*U^j):=by rw[e2];grind
  _=_:=by rw[a];grind
end Ca
namespace Ap
open L2 Cv Hv Pc Qp
theorem Ed.same:∀{ps qs:List Pl},(∀ t,ps.getD t ([],1)=qs.getD t ([],1))->Ed y x ps=Ed y x qs
 | [],[],_=>rfl
 | [],q::qs,h=>by
  have a:=h 0;have b:=Ed.same (ps:=[]) (qs:=qs) (y:=y) (x:=x) λt=>by have:=h (t+1);rw[bY] at this;exact this
  have a:(([],1):Pl)=q:=a;show 0=E q.1 q.2 x+y*Ed y x qs;rw[← a,← b];show (0:Rat)=E [] 1 x+y*0;rw[uD];grind
 | p::ps,[],h=>by
  have a:=h 0;have b:=Ed.same (ps:=ps) (qs:=[]) (y:=y) (x:=x) λt=>by have:=h (t+1);rw[bY] at this;exact this
  have a:p=(([],1):Pl):=a;show E p.1 p.2 x+y*Ed y x ps=0;rw[a,b];show E [] 1 x+y*0=(0:Rat);rw[uD];grind
 | p::ps,q::qs,h=>by
  have a:p=q:=h 0;have b:=Ed.same (ps:=ps) (qs:=qs) (y:=y) (x:=x) λt=>by have:=h (t+1);rw[bY,bY] at this;exact this
  show E p.1 p.2 x+y*Ed y x ps=E q.1 q.2 x+y*Ed y x qs;rw[a,b]
end Ap
namespace Dp
open PySem L2 Qp
theorem JE{P W:List Int}{B V:Int}(fP:Po.Fm P B)(fW:Po.Fm W V):∃ R C,Pc.Of P B W V R C:=by
 have p:0<B*V^P.length:=aA fP.pos (bH fW.pos);obtain⟨R,C,fR,w⟩:=Ap.has (F:=Pc.pc (Cv.fn P) (Cv.fn W) V P.length) (n:=P.length*W.length+1) p λk hk=>Pc.xC (λj hj=>Cv.qF hj) P.length k hk;exact⟨R,C,fR,w⟩
end Dp
namespace Dp
open PySem L2
theorem vd(t k:Nat)(r:Int):(List.replicate t (0:Int)++[r]).getD k 0=if k=t then r else 0:=by
 rcases aD k t with y|y
 ·rw[if_neg (by omega),ah,aR (by rw[aI];exact y),dc,if_pos y];rfl
 ·by_cases e:k=t
  ·rw[if_pos e,e,ah,ax (by rw[aI];exact af _),aI,bj];rfl
  ·rw[if_neg e,qE (by rw[am,aI];show t+1<=k;omega)]
theorem JI:Pc.Pz 1 1 [-1] 1:=⟨⟨by decide,.inr (by decide),by decide⟩,λk=>by
 cases k with
 | zero=>unfold Lt2;decide
 | succ k=>rw[qE (Nat.succ_le_succ (aC _))];exact va _,by unfold Lt2;decide⟩
theorem yF(h:Qp.E a.1 a.2 x=Qp.E b.1 b.2 x+y*Qp.E c.1 c.2 x):∀ ps:List (List Int×Int),Ap.Ed y x (ps++[a])=Ap.Ed y x (ps++[b]++[c])
 | []=>by
  show Qp.E a.1 a.2 x+y*0=Qp.E b.1 b.2 x+y*(Qp.E c.1 c.2 x+y*0);rw[h];grind
 | p::ps=>by
  show Qp.E p.1 p.2 x+y*Ap.Ed y x (ps++[a])=Qp.E p.1 p.2 x+y*Ap.Ed y x (ps++[b]++[c]);rw[yF h ps]
theorem AX(h:Qp.E a.1 a.2 x=0):∀ ps:List (List Int×Int),Ap.Ed y x (ps++[a])=Ap.Ed y x ps
 | []=>by
  show Qp.E a.1 a.2 x+y*0=0;rw[h];grind
 | p::ps=>by
  show Qp.E p.1 p.2 x+y*Ap.Ed y x (ps++[a])=Qp.E p.1 p.2 x+y*Ap.Ed y x ps;rw[AX h ps]
def Fnd(c:Int)(g:Nat->Int)(s j:Nat)(F:List Int)(V:Int):Prop:=Po.Fm F V/\F.length=s+1/\∀ i,i<=s->F.getD (s-i) 0*c^i=(if i<=j then g i else 0)*V
theorem Fnd.mon{c:Int}{g:Nat->Int}{s j:Nat}{F:List Int}{V:Int}(g0:g 0=1)(h:Fnd c g s j F V):F.getD s 0=V:=by
 have:=h.2.2 0 (aC _);rw[if_pos (aC _),g0,aT,bv,bO] at this;exact this
theorem Fnd.want{P F R:List Int}{c V C:Int}{g:Nat->Int}{k s j:Nat}(c0:0<c)(g0:g 0=1)(hp:∀ j,j<s->P.getD (k*s-j) 0*c^j=P.getD (k*s) 0*Ca.pw g k j)(hL:P.getD (k*s) 0≠0)(k1:1<=k)(js:j+1<s)(h:Fnd c g s j F V)(fR:Po.Fm R C)(hR:∀ t,R.getD t 0*V^k=Pc.cp (Cv.fn F) k t*C) :
  R.getD (k*s) 0=C/\((P.getD (k*s-(j+1)) 0:Int):Rat) / ((P.getD (k*s) 0:Int):Rat)-((R.getD (k*s-(j+1)) 0:Int):Rat) / (C:Rat)=((g (j+1):Int):Rat)*(k:Rat) / ((c^(j+1):Int):Rat):=by
 have fz:∀ i,s<i->Cv.fn F i=0:=λi hi=>Cv.qF (by rw[h.2.1];omega);have V0:=h.1.pos;have Vk:V^k≠0:=bB (aq V0);have mon:=h.mon g0;refine⟨?_,?_⟩
 ·have e:=hR (k*s);rw[Pc.vW fz k,show Cv.fn F s=V from mon,bK (V^k) C] at e;exact aw Vk e
 ·have kj:j+1<=k*s:=aZ (dW js) (aW _ k1);have e:=hR (k*s-(j+1));rw[← Ca.CG,Ca.AD fz k (j+1) kj] at e;obtain⟨g',hg'⟩:∃ g':Nat->Int,∀ i,g' i=if i<=j then g i else 0:=⟨_,λ_=>rfl⟩;have rv:=Ca.Cu (G:=Cv.fn F) (g:=g') (c:=c) (U:=V) (k:=k) (s:=s) (j:=j+1) (λi hi=>by rw[hg'];exact h.2.2 i (by omega)) js;have g0':g' 0=1:=by rw[hg',if_pos (aC _),g0]
  have one:=(Ca.xt (g:=g') (g':=g) (s:=j) g0' (λi hi=>by rw[hg',if_pos hi]) k).2;rw[hg' (j+1),if_neg (by omega),Int.sub_zero] at one;have p:=hp (j+1) js;rw[one] at p;have C0:=Qp.qB fR.pos;have L0:=Qp.qX hL;have cj:=Qp.qX (bB (aq c0):c^(j+1)≠0);have Vr:=Qp.qX Vk;have e1:((R.getD (k*s-(j+1)) 0:Int):Rat)*((c^(j+1):Int):Rat)=((Ca.pw g' k (j+1):Int):Rat)*(C:Rat):=by
   have:R.getD (k*s-(j+1)) 0*c^(j+1)=Ca.pw g' k (j+1)*C:=by
    refine aw Vk ?_
    calc R.getD (k*s-(j+1)) 0*c^(j+1)*V^k=R.getD (k*s-(j+1)) 0*V^k*c^(j+1):=by grind
     _=Ca.pw (Ca.rv s (Cv.fn F)) k (j+1)*c^(j+1)*C:=by rw[e];grind
     _=_:=by rw[rv];grind
   rw[← av,this,av]
  have p2:((P.getD (k*s-(j+1)) 0:Int):Rat)*((c^(j+1):Int):Rat)=((P.getD (k*s) 0:Int):Rat)*(((Ca.pw g' k (j+1):Int):Rat)+(k:Rat)*((g (j+1):Int):Rat)):=by
   rw[← av,p,av,dw,av];rfl
  generalize ((R.getD (k*s-(j+1)) 0:Int):Rat)=r at *;generalize ((P.getD (k*s-(j+1)) 0:Int):Rat)=a at *;generalize ((P.getD (k*s) 0:Int):Rat)=l at *;generalize ((c^(j+1):Int):Rat)=u at *;generalize ((Ca.pw g' k (j+1):Int):Rat)=w at *;generalize ((g (j+1):Int):Rat)=z at *;have h1:a=l*(w+(k:Rat)*z) / u:=by grind
  have h2:r=w*(C:Rat) / u:=by grind
  rw[h1,h2];grind
theorem Fnd.next{F S F':List Int}{c V E V' ra rb:Int}{g:Nat->Int}{s j:Nat}(c0:0<c)(js:j+1<=s)(h:Fnd c g s j F V)(g0:g 0=1)(fS:Po.Fm S E)(r0:0<rb)(hS:∀ k,S.getD k 0*rb=(if k=s-(j+1) then ra else 0)*E)(hr:ra*c^(j+1)=g (j+1)*rb)(fF':Po.Fm F' V')(hF':∀ k,F'.getD k 0*(V*E)=(F.getD k 0*E+S.getD k 0*V)*V'):Fnd c g s (j+1) F' V':=by
 obtain⟨fF,lF,hF⟩:=h;have V0:=fF.pos;have E0:=fS.pos;have n:V*E≠0:=bC (aq V0) (aq E0);have key:∀ i,i<=s->F'.getD (s-i) 0*c^i=(if i<=j+1 then g i else 0)*V':=λi hi=>by
  refine aw n (aw (aq r0) ?_);have a:=hF' (s-i);have b:=hF i hi;have d:=hS (s-i);by_cases e:i=j+1
  ·subst e;rw[if_neg (by omega),ay] at b;rw[if_pos rfl] at d;rw[if_pos (af _)];have z:F.getD (s-(j+1)) 0=0:=(bu.mp b).resolve_right (bB (aq c0));rw[z,ay,bT] at a
   calc F'.getD (s-(j+1)) 0*c^(j+1)*(V*E)*rb=F'.getD (s-(j+1)) 0*(V*E)*c^(j+1)*rb:=by grind
    _=S.getD (s-(j+1)) 0*rb*c^(j+1)*V*V':=by rw[a];grind
    _=ra*c^(j+1)*E*V*V':=by rw[d];grind
    _=_:=by rw[hr];grind
  ·have e2:s-i≠s-(j+1):=by omega
   rw[if_neg e2,ay] at d;have z:S.getD (s-i) 0=0:=(bu.mp d).resolve_right (aq r0);rw[z,ay,cu] at a;have c1:(if i<=j+1 then g i else 0)=if i<=j then g i else 0:=by
    by_cases y:i<=j
    ·rw[if_pos y,if_pos (by omega)]
    ·rw[if_neg y,if_neg (by omega)]
   rw[c1]
   calc F'.getD (s-i) 0*c^i*(V*E)*rb=F'.getD (s-i) 0*(V*E)*c^i*rb:=by grind
    _=F.getD (s-i) 0*c^i*E*V'*rb:=by rw[a];grind
    _=_:=by rw[b];grind
 have mon:F'.getD s 0=V':=by
  have:=key 0 (aC _);rw[if_pos (aC _),g0,aT,bv,bO] at this;exact this
 refine⟨fF',?_,key⟩;have l1:F'.length<=s+1:=Pc.qP fF' (aA V0 E0) hF' λk hk=>by
  have d:=hS k;rw[if_neg (by omega),ay] at d;have z:S.getD k 0=0:=(bu.mp d).resolve_right (aq r0);rw[qE (fs:=F) (by omega),z];simp
 rcases aD s F'.length with x|x
 ·omega
 ·rw[qE x] at mon;have:=fF'.pos;omega
def Cn(P:List Int)(k s:Nat)(G:List Int)(U:Int):Prop:=Po.Fm G U/\G.length=s+1/\Ca.Cand (λi=>P.getD i 0) k s (λi=>G.getD i 0) U
theorem Fnd.cn{P F:List Int}{c V:Int}{g:Nat->Int}{k s:Nat}(c0:0<c)(s1:1<=s)(g0:g 0=1)(hp:∀ j,j<s->P.getD (k*s-j) 0*c^j=P.getD (k*s) 0*Ca.pw g k j)(h:Fnd c g s (s-1) F V):Cn P k s F V:=by
 obtain⟨fF,lF,hF⟩:=h;refine⟨fF,lF,c,g,c0,g0,hp,λi hi=>?_,?_⟩
 ·have:=hF i (by omega);rw[if_pos (by omega)] at this;exact this
 ·have:=hF s (af _);rw[if_neg (by omega),ay,bj] at this;exact (bu.mp this).resolve_right (bB (aq c0))
end Dp
namespace Cv
theorem FW(h:∀ j,j≠t->F j=0):∀ n,sm F n=if t<n then F t else 0
 | 0=>by rw[if_neg (by omega)];rfl
 | n+1=>by
  rw[sm,FW h n];by_cases e:n=t
  ·subst e;rw[if_neg (by omega),if_pos (by omega),bT]
  ·rw[h n e,cu];by_cases y:t<n
   ·rw[if_pos y,if_pos (by omega)]
   ·rw[if_neg y,if_neg (by omega)]
theorem Io{f g:Nat->Int}{t:Nat}(h:∀ j,j≠t->f j=0)(k:Nat):cv f g k=if t<=k then f t*g (k-t) else 0:=by
 unfold cv;rw[FW (λj hj=>by rw[h j hj,ay])];by_cases y:t<=k
 ·rw[if_pos y,if_pos (by omega)]
 ·rw[if_neg y,if_neg (by omega)]
end Cv
namespace Ca
open Cv L2
theorem Cw{a g:Nat->Int}{k s A:Nat}(hk:0<k)(k7:k<=100)(s7:s<=100)(g0:g 0=1)(ha:∀ i,Lt2 (A*i+1) (a i))
  (h:∀ j,j<=s->sm (λi=>(((i+1:Nat):Int)*(k+1)-j*k)*a (i+1)*g (j-(i+1))) j=j*k*g j):∀ j,j<=s->Lt2 ((A+23)*j+1) (g j):=by
 intro j;induction j using Nat.strongRecOn with
 | ind j ih =>
  intro hj;rcases cF j with e|e
  ·subst e;rw[g0];exact Lt2.mono (n:=1) (by unfold Lt2;decide) (by omega)
  ·have e1:=h j hj;have hF:∀ i,i<j->Lt2 ((A+23)*j-6) ((((i+1:Nat):Int)*(k+1)-j*k)*a (i+1)*g (j-(i+1))):=λi hi=>by
    have c1:(i+1)*(k+1)<=100*101:=bA (by omega) (by omega);have c2:j*k<=100*100:=bA (by omega) (by omega);have l1:Lt2 15 (((i+1:Nat):Int)*(k+1)-j*k):=by
     have c1':(((i+1:Nat):Int)*(k+1))=(((i+1)*(k+1):Nat):Int):=by push_cast;rfl
     have c2':((j:Int)*k)=((j*k:Nat):Int):=by push_cast;rfl
     rw[c1',c2'];unfold Lt2;omega
    have l3:=ih (j-(i+1)) (by omega) (by omega);refine ((l1.mul (ha _)).mul l3).mono ?_;obtain⟨d,rfl⟩:∃ d,j=d+(i+1):=⟨j-(i+1),by omega⟩;rw[aL];have e3:(A+23)*(d+(i+1))=(A+23)*d+(A*(i+1)+23*(i+1)):=by rw[fj,dN A 23 (i+1)]
    omega
   have b:=Co (b:=7) (i:=j) (by omega) hF;rw[e1] at b;have p:(g j).natAbs<=((j:Int)*k*g j).natAbs:=by
    rw[bF];refine aW _ ?_;have:0<j*k:=Nat.mul_pos e hk;have q:((j:Int)*k)=((j*k:Nat):Int):=by push_cast;rfl
    rw[q];omega
   unfold Lt2;have e4:23<=(A+23)*j:=aZ (by omega) (bN _ e);rw[show (A+23)*j+1=7+((A+23)*j-6) by omega,gD];refine dG (aZ p b) ?_;exact Nat.mul_lt_mul_of_pos_right (show j<2^7 by omega) (bV (by decide))
end Ca
namespace Dp
open PySem L2
structure Gx (P:List Int)(k s cb Y:Nat)(c:Int)(g:Nat->Int):Prop where
 c0:0<c
 lc:Lt2 cb c
 g0:g 0=1
 gl:∀ j,j<=s-1->Lt2 (Y*j+1) (g j)
 hp:∀ j,j<s->P.getD (k*s-j) 0*c^j=P.getD (k*s) 0*Ca.pw g k j
theorem Go(lt:∀ i,Lt2 M (P.getD i 0))(lz:Lt2 Z (P.getD (k*s) 0))(k1:1<=k)(s1:1<=s)(ks:k*s<=12)(hL:P.getD (k*s) 0≠0):∃(c:Int) (g:Nat->Int),Gx P k s (Z+8) (M+Z+31) c g:=by
 have km1:k<=k*s:=bN _ s1;have km2:s<=k*s:=aW _ k1;obtain⟨c,hc⟩:∃ c:Int,c=(((P.getD (k*s) 0).natAbs:Nat):Int)*k*k:=⟨_,rfl⟩;have lk:Lt2 4 ((k:Nat):Int):=by unfold Lt2;omega
 have ll:Lt2 Z (((P.getD (k*s) 0).natAbs:Nat):Int):=lz.le (by rw[bS];exact af _);have lc:Lt2 (Z+8) c:=by rw[hc];exact ((ll.mul lk).mul lk).mono (by omega)
 have c0:0<c:=by
  rw[hc];have x1:0<(P.getD (k*s) 0).natAbs:=by omega
  exact aA (aA (by omega) (by omega)) (by omega)
 have fa:=Ca.J2 (P:=λi=>P.getD i 0) (n:=k*s) (k:=k) (c:=c) rfl hL hc;obtain⟨a,ea⟩:∃ a:Nat->Int,∀ j,a j=if j<=k*s then (P.getD (k*s-j) 0*c^j).fdiv (P.getD (k*s) 0) else 0:=⟨_,λ_=>rfl⟩;have a0:a 0=1:=by rw[ea,if_pos (aC _)];exact (fa 0 (aC _)).2.1 rfl
 have ad:∀ i,(k*k:Int)∣a (i+1):=λi=>by
  rw[ea];by_cases z:i+1<=k*s
  ·rw[if_pos z];exact (fa _ z).2.2 (Nat.succ_pos _)
  ·rw[if_neg z];exact Int.dvd_zero _
 have al:∀ i,Lt2 ((M+Z+8)*i+1) (a i):=λi=>by
  rcases cF i with e|e
  ·subst e;rw[a0,Nat.mul_zero];unfold Lt2;decide
  rw[ea];by_cases z:i<=k*s
  ·rw[if_pos z];refine FB hL (fa _ z).1 (((lt _).mul (Hv.rH lc i)).mono ?_);have e1:(M+Z+8)*i=M*i+(Z+8)*i:=by rw[cV,dN]
   have e2:M<=M*i:=bN _ e;omega
  ·rw[if_neg z];exact va _
 obtain⟨g,g0,gd,ge⟩:=Ca.Jj k1 (a:=a) a0 ad (s-1);have gl:=Ca.Cw (A:=M+Z+8) k1 (by omega) (show s-1<=100 by omega) g0 al (λj hj=>Ca.step g0 a0 ge hj);refine⟨c,g,c0,lc,g0,gl,λj hj=>?_⟩;have:=(fa j (by omega)).1;rw[ge j (by omega),ea,if_pos (by omega)];exact this.symm
theorem Fnd.pzW{P:List Int}{c:Int}{g:Nat->Int}{k s j cb Y:Nat}{F:List Int}{V:Int}(x:Gx P k s cb Y c g)(js:j<=s-1)(h:Fnd c g s j F V):Pc.Pz ((Y+cb)*s+2) (cb*s+1) F V:=by
 obtain⟨fF,lF,hF⟩:=h;have e0:(Y+cb)*s=Y*s+cb*s:=dN _ _ _;refine Pc.Pz.of (f:=λt=>if t<=s then (if s-t<=j then g (s-t) else 0)*c^t else 0) fF (show 0<c^s from bH x.c0) (λt=>?_) (λt=>?_) (Hv.rH x.lc s)
 ·by_cases z:t<=s
  ·have e:=hF (s-t) (by omega);rw[show s-(s-t)=t by omega] at e;rw[if_pos z,show c^s=c^(s-t)*c^t by rw[← cy];congr 1;omega,← bZ,e];grind
  ·rw[if_neg z,qE (by omega),ay,ay]
 ·by_cases z:t<=s
  ·rw[if_pos z];by_cases y:s-t<=j
   ·rw[if_pos y];refine ((x.gl (s-t) (by omega)).mul (Hv.rH x.lc t)).mono ?_;have e1:Y*(s-t)<=Y*s:=au _ (by omega);have e2:cb*t<=cb*s:=au _ z;omega
   ·rw[if_neg y,ay];exact va _
  ·rw[if_neg z];exact va _
def Hw(c:Int)(s Y:Nat)(g:Nat->Int)(G:List Int)(U:Int):Prop:=Po.Fm G U/\G.length=s+1/\1<=s/\0<c/\g 0=1/\(∀ i,i<=s->G.getD (s-i) 0*c^i=g i*U)/\∀ i,i<=s->Lt2 (Y*i+1) (g i)
theorem Gx.hw(x:Gx P k s cb Y c g)(k1:1<=k)(s1:1<=s)(hL:P.getD (k*s) 0≠0)(cn:Cn P k s G U):∃ g',Hw c s Y g' G U:=by
 obtain⟨R,C,fR,wR⟩:∃ R C,Po.Fm R C/\∀ i,R.getD i 0*c^s=(if i=0 then 0 else if i<=s then g (s-i)*c^i else 0)*C:=Ap.has (F:=λi=>if i=0 then 0 else if i<=s then g (s-i)*c^i else 0) (n:=s+1) (c:=c^s) (bH x.c0) (λk hk=>by
  show (if k=0 then (0:Int) else if k<=s then g (s-k)*c^k else 0)=0;rw[if_neg (by omega),if_neg (by omega)])
 have cs:c^s≠0:=bB (aq x.c0);have key:∀ i,i<s->R.getD (s-i) 0*c^i=g i*C:=λi hi=>by
  have e:=wR (s-i);rw[if_neg (by omega),if_pos (by omega),show s-(s-i)=i by omega] at e;have e2:c^s=c^i*c^(s-i):=by rw[← cy];congr 1;omega
  refine aw (bB (aq x.c0):c^(s-i)≠0) ?_;rw[bZ,← e2,e];grind
 have r0:R.getD 0 0=0:=by
  have e:=wR 0;rw[if_pos rfl,ay] at e;exact (bu.mp e).resolve_right cs
 have rm:R.getD s 0=C:=by
  have e:=key 0 s1;rw[aT,bv,x.g0,bO] at e;exact e
 have lR:R.length=s+1:=by
  have l1:R.length<=s+1:=Pc.qP fR (bH x.c0) wR λk hk=>by rw[if_neg (by omega),if_neg (by omega)]
  rcases aD s R.length with y|y
  ·omega
  ·rw[qE y] at rm;have:=fR.pos;omega
 have cR:Ca.Cand (λi=>P.getD i 0) k s (λi=>R.getD i 0) C:=⟨c,g,x.c0,x.g0,x.hp,key,r0⟩;obtain⟨rfl,rfl⟩:=Ca.Cand.uniq k1 hL cn.1 fR cn.2.1 lR cn.2.2 cR;refine⟨λi=>if i<s then g i else 0,fR,lR,s1,x.c0,?_,λi hi=>?_,λi hi=>?_⟩
 ·dsimp only;rw[if_pos (by omega),x.g0]
 ·dsimp only;by_cases z:i<s
  ·rw[if_pos z];exact key i z
  ·rw[if_neg z,show s-i=0 by omega,r0,ay,ay]
 ·dsimp only;by_cases z:i<s
  ·rw[if_pos z];exact x.gl i (by omega)
  ·rw[if_neg z];exact va _
def Ww(V c:Int)(N A Y:Nat)(P:List Int)(B:Int):Prop:=Po.Fm P B/\P.length<=N+1/\∃ z:Nat->Int,∀ k,k<=N->P.getD k 0*(V*c^(N-k))=z k*B/\Lt2 (A+Y*(N-k)) (z k)
theorem Ww.mono{V c:Int}{N A A' Y:Nat}{P:List Int}{B:Int}(h:Ww V c N A Y P B)(l:A<=A'):Ww V c N A' Y P B:=by
 obtain⟨f,l',z,hz⟩:=h;exact⟨f,l',z,λk hk=>⟨(hz k hk).1,(hz k hk).2.mono (by omega)⟩⟩
theorem Ww.pz{V c:Int}{N A Y cb v:Nat}{P:List Int}{B:Int}(h:Ww V c N A Y P B)(V0:0<V)(c0:0<c)(lc:Lt2 cb c)(lV:Lt2 v V):Pc.Pz (A+(Y+cb)*N+1) (v+cb*N+1) P B:=by
 obtain⟨f,l,z,hz⟩:=h;have e0:(Y+cb)*N=Y*N+cb*N:=dN _ _ _;refine Pc.Pz.of (f:=λt=>if t<=N then z t*c^t else 0) f (aA V0 (bH c0:0<c^N)) (λt=>?_) (λt=>?_) ((lV.mul (Hv.rH lc N)).mono (by omega))
 ·by_cases y:t<=N
  ·rw[if_pos y];have e:=(hz t y).1;have e2:c^N=c^(N-t)*c^t:=by rw[← cy];congr 1;omega
   rw[e2,← bZ V,← bZ,e];grind
  ·rw[if_neg y,qE (by omega),ay,ay]
 ·by_cases y:t<=N
  ·rw[if_pos y];refine ((hz t y).2.mul (Hv.rH lc t)).mono ?_;have e1:Y*(N-t)<=Y*N:=au _ (by omega);have e2:cb*t<=cb*N:=au _ y;omega
  ·rw[if_neg y];exact va _
theorem Jw(z:Pc.Pz b bb P B)(lP:P.length<=n+1)(c0:0<c)(lc:Lt2 cb c)(hY:cb<=Y):Ww B c n (b+1) Y P B:=by
 refine⟨z.fm,lP,λk=>P.getD k 0*c^(n-k),λk hk=>⟨by dsimp only;grind,?_⟩⟩;refine ((z.tops k).mul (Hv.rH lc (n-k))).mono ?_;have:cb*(n-k)<=Y*(n-k):=bg _ hY;omega
theorem Ez{V c:Int}{N A Y s t:Nat}{F S:List Int}{C E:Int}(tN:t+s<=N)(wF:Ww V c N A Y F C)(lF:F.length=t+s+1)(fS:Po.Fm S E)(hS:∀ k,S.getD k 0*C=(if k=t then F.getD (t+s) 0 else 0)*E):Ww V c (N-s) A Y S E/\S.length<=t+1:=by
 obtain⟨fF,lF',z,hz⟩:=wF;have C0:=fF.pos;have lS:S.length<=t+1:=Pc.qP fS C0 hS λk hk=>by rw[if_neg (by omega)]
 refine⟨⟨fS,by omega,λk=>if k=t then z (t+s) else 0,λk hk=>⟨?_,?_⟩⟩,lS⟩
 ·refine aw (aq C0) ?_;have e:=hS k;dsimp only;by_cases y:k=t
  ·subst y;rw[if_pos rfl] at e ⊢;have e2:=(hz (k+s) tN).1;rw[show N-(k+s)=N-s-k by omega] at e2
   calc S.getD k 0*(V*c^(N-s-k))*C=S.getD k 0*C*(V*c^(N-s-k)):=by grind
    _=F.getD (k+s) 0*(V*c^(N-s-k))*E:=by rw[e];grind
    _=_:=by rw[e2];grind
  ·rw[if_neg y,ay] at e;rw[if_neg y,(bu.mp e).resolve_right (aq C0)];grind
 ·dsimp only;by_cases y:k=t
  ·subst y;rw[if_pos rfl];have:=(hz (k+s) tN).2;rw[show N-(k+s)=N-s-k by omega] at this;exact this
  ·rw[if_neg y];exact va _
theorem Ww.sum{V c:Int}{N A A' Y:Nat}{P1 P2 R:List Int}{B1 B2 C:Int}(fR:Po.Fm R C)(h:∀ k,R.getD k 0*(B1*B2)=(P1.getD k 0*B2+P2.getD k 0*B1)*C)(h1:Ww V c N A Y P1 B1)(h2:Ww V c N A' Y P2 B2)(l:A'<=A):Ww V c N (A+1) Y R C:=by
 obtain⟨f1,l1,z1,hz1⟩:=h1;obtain⟨f2,l2,z2,hz2⟩:=h2;have p1:=f1.pos;have p2:=f2.pos;have n:B1*B2≠0:=aq (aA p1 p2);refine⟨fR,Pc.qP fR (aA p1 p2) h λk hk=>?_,λk=>z1 k+z2 k,λk hk=>⟨?_,?_⟩⟩
 ·rw[qE (fs:=P1) (by omega),qE (fs:=P2) (by omega)];simp
 ·refine aw n ?_;have e1:=(hz1 k hk).1;have e2:=(hz2 k hk).1
  calc R.getD k 0*(V*c^(N-k))*(B1*B2)=R.getD k 0*(B1*B2)*(V*c^(N-k)):=by grind
   _=(P1.getD k 0*(V*c^(N-k))*B2+P2.getD k 0*(V*c^(N-k))*B1)*C:=by rw[h k];grind
   _=_:=by rw[e1,e2];grind
 ·have a:=(hz1 k hk).2;have b:=((hz2 k hk).2.mono (show A'+Y*(N-k)<=A+Y*(N-k) by omega));exact (a.add b).mono (by omega)
theorem Ey{V c:Int}{N A Y s t:Nat}{g:Nat->Int}{G S X:List Int}{U E Xc:Int}(hw:Hw c s Y g G U)(tN:t+s<=N)(fX:Po.Fm X Xc)(wS:Ww V c (N-s) A Y S E)(lS:S.length<=t+1)(hS:∀ k,k≠t->S.getD k 0=0)(hX:∀ k,X.getD k 0*(E*U) = -Cv.cv (Cv.fn S) (Cv.fn G) k*Xc):Ww V c N (A+1) Y X Xc/\X.length<=t+s+1/\X.getD (t+s) 0*E = -S.getD t 0*Xc:=by
 obtain⟨fG,lG,s1,c0,g0,hg,gl⟩:=hw;obtain⟨fS,lS',z,hz⟩:=wS;have E0:=fS.pos;have U0:=fG.pos;have EU:E*U≠0:=aq (aA E0 U0);have cvk:∀ k,Cv.cv (Cv.fn S) (Cv.fn G) k=if t<=k then S.getD t 0*G.getD (k-t) 0 else 0:=λk=>Cv.Io (f:=Cv.fn S) (g:=Cv.fn G) hS k;have lX:X.length<=t+s+1:=Pc.qP fX (aA E0 U0) hX λk hk=>by
  rw[cvk,if_pos (by omega),qE (fs:=G) (by omega),bU];rfl
 have gs:G.getD s 0=U:=by
  have:=hg 0 (aC _);rw[aT,bv,g0,bO] at this;exact this
 refine⟨⟨fX,by omega,λk=>if t<=k/\k<=t+s then -(z t*g (t+s-k)) else 0,λk hk=>⟨?_,?_⟩⟩,lX,?_⟩
 ·refine aw EU ?_;have e:=hX k;rw[cvk] at e;dsimp only;by_cases y:t<=k
  ·rw[if_pos y] at e;by_cases y2:k<=t+s
   ·rw[if_pos ⟨y,y2⟩];have e1:=(hz t (by omega)).1;have e2:=hg (t+s-k) (by omega);rw[show s-(t+s-k)=k-t by omega] at e2;have e3:c^(N-k)=c^(N-s-t)*c^(t+s-k):=by rw[← cy];congr 1;omega
    calc X.getD k 0*(V*c^(N-k))*(E*U)=X.getD k 0*(E*U)*(V*c^(N-k)):=by grind
     _ = -((S.getD t 0*(V*c^(N-s-t)))*(G.getD (k-t) 0*c^(t+s-k)))*Xc:=by rw[e,e3];grind
     _=_:=by rw[e1,e2];grind
   ·rw[if_neg (λh=>y2 h.2),ay,ay];rw[qE (fs:=X) (by omega),ay,ay]
  ·rw[if_neg y,Int.neg_zero,ay] at e;rw[if_neg (λh=>y h.1),(bu.mp e).resolve_right EU];simp
 ·dsimp only;by_cases y:t<=k/\k<=t+s
  ·rw[if_pos y];have a:=(hz t (by omega)).2;have b:=gl (t+s-k) (by omega);refine Lt2.neg ((a.mul b).mono ?_);have e1:Y*(N-k)=Y*(N-s-t)+Y*(t+s-k):=by rw[← fj];congr 1;omega
   omega
  ·rw[if_neg y];exact va _
 ·have e:=hX (t+s);rw[cvk,if_pos (by omega),show t+s-t=s by omega,gs] at e;refine aw (aq U0) ?_
  calc X.getD (t+s) 0*E*U=X.getD (t+s) 0*(E*U):=by grind
   _=_:=by rw[e];grind
def LL(P:List Int)(B:Int)(G:List Int)(U:Int):Prop:=∃ R C,Po.Fm R C/\∀ x,Qp.E P B x=Qp.E R C (Qp.E G U x)
theorem C7(fG:Po.Fm G U)(lG:G.length=s+1)(s1:1<=s)(fR:Po.Fm R C)(fR':Po.Fm R' C')(h:∀ x,Qp.E R C (Qp.E G U x)=Qp.E R' C' (Qp.E G U x)):R=R'/\C=C':=by
 obtain⟨Cs,lC,hC,eC⟩:=xQ R.length (Qp.q R C);obtain⟨Ds,lD,hD,eD⟩:=xQ R'.length (Qp.q R' C');have u:=Ap.Ed.uniq2 fG lG (ps:=Cs) (qs:=Ds) (λq hq=>⟨(hC q hq).1,aZ (hC q hq).2 s1⟩) (λq hq=>⟨(hD q hq).1,aZ (hD q hq).2 s1⟩) (λx=>by rw[eC,eD,← B6 (af _),← B6 (af _),h]);exact Qp.tF fR fR' λy=>by rw[B6 (af R.length),← eC 0 y,Ap.Ed.same u,eD,← B6 (af _)]
theorem Fb{G P:List Int}{U B:Int}{s:Nat}{p:List Int×Int}{i:Nat}(fG:Po.Fm G U)(lG:G.length=s+1)(s1:1<=s)(hP:∀ p∈Ps,Po.Fm p.1 p.2/\p.1.length<=s)(e:∀ x,Qp.E P B x=Ap.Ed (Qp.E G U x) x Ps)(hi:Ps[i]? = some p)(h2:2<=p.1.length):¬ LL P B G U:=by
 rintro⟨R,C,fR,eR⟩;obtain⟨Cs,lC,hC,eC⟩:=xQ R.length (Qp.q R C);have u:=Ap.Ed.uniq2 fG lG (ps:=Ps) (qs:=Cs) hP (λq hq=>⟨(hC q hq).1,aZ (hC q hq).2 s1⟩) (λx=>by rw[← e,eR,eC,B6 (af _)]) i;rw[rQ hi] at u;have:(Cs.getD i ([],1)).1.length<=1:=mem_getD (p:=λq:List Int×Int=>q.1.length<=1) (λq hq=>(hC q hq).2) (aC _);rw[← u] at this;omega
theorem zj[Decidable p](h1:p->Q b)(h2:¬ p->Q a):bInt [.bl (decide p)] λd=>oIx (.lst [a,b]) d Q:=by
 by_cases c:p
 ·rw[decide_eq_true c];exact h1 c
 ·rw[decide_eq_false c];exact h2 c
theorem BP{c V:Int}{g:Nat->Int}{s:Nat}{F:List Int}(g0:g 0=1)(fF:Po.Fm F V)(lF:F.length<=s+1)(wF:∀ k,F.getD k 0*1=(List.replicate s (0:Int)++[1]).getD k 0*V):Fnd c g s 0 F V:=by
 have V0:=fF.pos;have hF:∀ k,F.getD k 0=if k=s then V else 0:=λk=>by
  have:=wF k;rw[vd,bv] at this;rw[this];by_cases e:k=s
  ·rw[if_pos e,if_pos e,bO]
  ·rw[if_neg e,if_neg e,ay]
 refine⟨fF,?_,λi hi=>?_⟩
 ·rcases aD s F.length with y|y
  ·omega
  ·have:=hF s;rw[qE y,if_pos rfl] at this;omega
 ·rw[hF];by_cases e:i=0
  ·subst e;rw[if_pos (by omega),if_pos (af _),g0,aT,bv,bO]
  ·rw[if_neg (by omega),if_neg (by omega),ay,ay]
def nH:TSd:=(iq [] (ic (gU (dC (.int 0)) (gU (dC (.int 1)) gW))))
def oA:TSd:=dSq (dIf [] (iu (iB .Lt (gV 1) (dB bLen bLen.mono (gU (dIx (gV 0) (dC (.int 0))) gW))))
 (iq [] (gX ii (gU (dIx (dIx (gV 0) (dC (.int 0))) (gV 1)) (gU (dIx (gV 0) (dC (.int 1))) gW))))
 iA)
 nH
theorem mP:Does 2 oA iH:=by
 rintro ds Q hn ⟨⟨P,B,k,n,b⟩,⟨rfl,z1,hb⟩,q⟩;dsimp only at z1 hb q;have p1:=z1.fm.pos;refine yV (p:=((k:Nat):Int)<((P.map D.int).length:Nat)) (λc=>?_) (λc=>?_)
 ·rw[aa] at c;refine rA (tD (by omega)) ⟨rfl,(P.getD k 0,B),⟨rfl,by show B≠0;omega,z1.bot.mono hb⟩,?_⟩;rintro _ rfl;exact q _ (FqD.of p1 (z1.tops k) z1.bot)
 ·rw[aa] at c;refine⟨rM,q _ ?_⟩;rw[Qp.s8 (by omega)];have:=uP (n:=n) (t:=0) (va _);refine this.mono (af _) ?_;cases b with
  | zero =>
   have:B.natAbs<1:=z1.bot;omega
  | succ b=>omega
def il:SpB:=kb
def nJ:TSd:=(iq [] (gV 2))
def nK:TSd:=dSq (iO [] (jt (gV 1)) (gNm 3)
 (g7 [] (gNm 2) (gX hJ (gU (gV 2) (gU (gV 0) gW)))))
 nJ
def oB:TSd:=dSq (g7 [] (gNm 2) (ic (gU (ic (gU (dC (.int 1)) gW)) (gU (dC (.int 1)) gW))))
 nK
theorem mQ:Does 4 oB il:=ml
def oJ:TSd:=(g7 [] (gNm 3) (gX iz (gU (gV 3) (gU (gX ig (gU (gZ .Add (gZ .Mult (ip (gU (dC (.int 0)) gW)) (gZ .Sub (gV 1) (gV 4))) (ip (gU (dIx (gV 8) (dC (.int 0))) gW))) (gU (dIx (gV 8) (dC (.int 1))) gW))) gW))))
def pS:TSd:=dSq (g7 [] (gNm 8) (gX ii (gU (gZ .Mult (gZ .Sub (gZ .Mult (dIx (gV 6) (dC (.int 0))) (dIx (gV 7) (dC (.int 1)))) (gZ .Mult (dIx (gV 7) (dC (.int 0))) (dIx (gV 6) (dC (.int 1))))) (gV 1)) (gU (gZ .Mult (gZ .Mult (dIx (gV 6) (dC (.int 1))) (dIx (gV 7) (dC (.int 1)))) (gV 2)) gW))))
 oJ
def pT:TSd:=dSq (g7 [] (gNm 7) (gX iH (gU (gX il (gU (gV 3) (gU (gZ .FloorDiv (gV 2) (gV 1)) gW))) (gU (gZ .Sub (gV 2) (gV 4)) gW))))
 pS
def pV:TSd:=dSq (g7 [] (gNm 6) (gX ii (gU (gZ .Mult (dIx (gV 5) (dC (.int 0))) (dIx (gV 0) (dC (.int 1)))) (gU (gZ .Mult (dIx (gV 5) (dC (.int 1))) (dIx (dIx (gV 0) (dC (.int 0))) (gV 2))) gW))))
 pT
def pW:TSd:=dSq (g7 [] (gNm 5) (gX iH (gU (gV 0) (gU (gZ .Sub (gV 2) (gV 4)) gW))))
 pV
theorem Kg{P F:List Int}{B V c ra rb:Int}{g:Nat->Int}{k s j cb Y nn bb:Nat}{n0:D}{d6 d7 d8:D}{E:EndsD}(x:Gx P k s cb Y c g)(js:j+1<s)(s12:s<=12)(hF:Fnd c g s j F V)(r0:0<rb)(lt:Lt2 nn ra)(lb:Lt2 bb rb)(cap:(Y+cb)*s+2+nn<=8000000)(cap2:cb*s+1+bb<=8000000)(hr:ra*c^(j+1)=g (j+1)*rb)
  (hE:∀ F' V',Fnd c g s (j+1) F' V'->E.nx [.val (pD P B),.val (.int s),.val n0,.val (pD F' V'),.val (.int ((j+1:Nat):Int)),.val d6,.val d7,.val d8,.val (fD ra rb)]) :
  oJ.run E [.val (pD P B),.val (.int s),.val n0,.val (pD F V),.val (.int ((j+1:Nat):Int)),.val d6,.val d7,.val d8,.val (fD ra rb)]:=by
 have zF:=hF.pzW x (by omega);have lF:=hF.2.1;have ek:(s:Int)-((j+1:Nat):Int)=((s-(j+1):Nat):Int):=by omega
 refine⟨x6,?_,?_,?_,x6,?_,rfl,(List.replicate (s-(j+1)) (0:Int)++[ra],rb),⟨.inl ?_,r0,lb.mono (by omega),?_⟩,?_⟩
 ·show -(2^63)<=(s:Int)-((j+1:Nat):Int);omega
 ·show (s:Int)-((j+1:Nat):Int)<2^63;omega
 ·show 1*((s:Int)-((j+1:Nat):Int)).toNat<=sizeLine;exact sE (by omega)
 ·show ((List.replicate ((s:Int)-((j+1:Nat):Int)).toNat [D.int 0]).flatten).length+1<=sizeLine;rw[ek,aG,rF,aa,aI];exact sE (by omega)
 ·show [D.lst ((List.replicate ((s:Int)-((j+1:Nat):Int)).toNat [D.int 0]).flatten++[D.int ra]),.int rb]=[D.lst ((List.replicate (s-(j+1)) (0:Int)++[ra]).map D.int),.int rb];rw[ek,aG,rF,aN];rfl
 ·show (List.replicate (s-(j+1)) (0:Int)++[ra]).length<=1000;rw[am,aI];show s-(j+1)+1<=1000;omega
 rintro _ ⟨S,Ec,rfl,fS,wS,lS⟩;have wS:∀ k,S.getD k 0*rb=(List.replicate (s-(j+1)) (0:Int)++[ra]).getD k 0*Ec:=wS;have lS:S.length<=(List.replicate (s-(j+1)) (0:Int)++[ra]).length:=lS;rw[am,aI] at lS;have lS:S.length<=s-(j+1)+1:=lS;have hS:∀ k,S.getD k 0*rb=(if k=s-(j+1) then ra else 0)*Ec:=λk=>by rw[wS,vd]
 have zS:Pc.Pz nn bb S Ec:=Pc.Pz.of fS r0 hS (λk=>by
  by_cases e:k=s-(j+1)
  ·rw[if_pos e];exact lt
  ·rw[if_neg e];exact va _) lb
 refine⟨rfl,(F,V,S,Ec,(Y+cb)*s+2,cb*s+1,nn,bb),⟨rfl,zF,zS,by show cb*s+1+bb<=9000000;omega,by show (Y+cb)*s+2+nn<=9000000;omega,by show F.length<=900;omega,by show S.length<=900;omega⟩,?_⟩;rintro _ ⟨F',V',rfl,fF',hF'⟩;exact hE F' V' (hF.next x.c0 (by omega) x.g0 fS r0 hS hr fF' hF')
theorem K7{t u B l:Rat}(hu:u≠0)(hl:l≠0):t / u*B / l=t*B / (u*l):=by grind
theorem K6{a1 a2 a3 a4 k s wu:Rat}(h2:a2≠0)(h4:a4≠0)(hk:k≠0)(hs:s≠0)(h:a1 / a2-a3 / a4=wu*k):(a1*a4-a3*a2)*s / (a2*a4*(k*s))=wu:=by
 have h1:wu=(a1 / a2-a3 / a4) / k:=by rw[h];grind
 rw[h1];grind
theorem K5{w k u:Rat}:w*k / u=w / u*k:=by grind
theorem Kf{P F:List Int}{B V c:Int}{g:Nat->Int}{k s j b:Nat}{o5 o6 o7 o8:SD}{E:EndsD}(z:Pc.Pz b b P B)(b9:b<=90000)(lP:P.length=k*s+1)(k1:1<=k)(ks:k*s<=12)(x:Gx P k s (b+8) (b+b+31) c g)(js:j+1<s)(hF:Fnd c g s j F V)
  (hE:∀ F' V' o5 o6 o7 o8,Fnd c g s (j+1) F' V'->E.nx [.val (pD P B),.val (.int s),.val (.int ((k*s:Nat):Int)),.val (pD F' V'),.val (.int ((j+1:Nat):Int)),o5,o6,o7,o8]) :
  pW.run E [.val (pD P B),.val (.int s),.val (.int ((k*s:Nat):Int)),.val (pD F V),.val (.int ((j+1:Nat):Int)),o5,o6,o7,o8]:=by
 have s1:1<=s:=by omega
 have km1:k<=k*s:=bN _ s1;have km2:s<=k*s:=aW _ k1;have hL:=rO z.fm lP;have zF:=hF.pzW x (by omega);have lF:=hF.2.1;have B0:=z.fm.pos;have kF:k*F.length=k*s+k:=by rw[lF,cq]
 have ed:((k*s:Nat):Int).fdiv (s:Int)=(k:Int):=by
  rw[show ((k*s:Nat):Int)=(k:Int)*s by push_cast;rfl];exact eQ _ (by omega)
 have ls:Lt2 4 ((s:Nat):Int):=by unfold Lt2;omega
 have ln:Lt2 4 ((k*s:Nat):Int):=by unfold Lt2;omega
 have ej:((k*s:Nat):Int)-((j+1:Nat):Int)=((k*s-(j+1):Nat):Int):=by omega
 obtain⟨n1,hn1⟩:∃ n1,n1=(b+b+31+(b+8))*s+2:=⟨_,rfl⟩;obtain⟨b1,hb1⟩:∃ b1,b1=(b+8)*s+1:=⟨_,rfl⟩;have m1:(b+b+31+(b+8))*s<=(b+b+31+(b+8))*12:=au _ (by omega);have m2:(b+8)*s<=(b+8)*12:=au _ (by omega);have m3:b1*k<=(b+8)*12+12:=by
  rw[hb1,dN,Nat.one_mul,gj,aS s k];have:(b+8)*(k*s)<=(b+8)*12:=au _ ks;omega
 have m4:(n1+9)*k<=(b+b+31+(b+8))*12+132:=by
  rw[hn1,cV,dN,gj,aS s k];have:(b+b+31+(b+8))*(k*s)<=(b+b+31+(b+8))*12:=au _ ks;omega
 rw[← hn1,← hb1] at zF;refine⟨rfl,(P,B,k*s-(j+1),b,b),⟨congrArg (λx=>[pD P B,.int x]) ej,z,by show b<=9000000;omega⟩,?_⟩;rintro _ ⟨t1,u1,rfl,u10,_,lt1,lu1,er1⟩;have er1:Qp.q P B (k*s-(j+1))=(t1:Rat) / (u1:Rat):=er1;have lL:=z.tops (k*s);have uL:u1*P.getD (k*s) 0≠0:=bC (aq u10) hL;refine⟨⟨_,_,lt1,z.bot,by omega⟩,rA (tD (by omega)) ⟨⟨_,_,lu1,lL,by omega⟩,rfl,(t1*B,u1*P.getD (k*s) 0),⟨rfl,uL,(lu1.mul lL).mono (by omega)⟩,?_⟩⟩;obtain⟨t2,u2,e2,u20,_,lt2,lu2,er2⟩:=FqD.ofN (t:=t1*B) (u:=u1*P.getD (k*s) 0) uL (lt1.mul z.bot) (lu1.mul lL);rintro dd e;have e:dd=fD t2 u2:=(show dd=fD (Fr.top (t1*B) (u1*P.getD (k*s) 0)) (Fr.bot (t1*B) (u1*P.getD (k*s) 0)) from e).trans e2;subst e;clear e2;refine⟨⟨by omega,4,ls,by decide⟩,rfl,(F,V,k,n1,b1),⟨congrArg (λx=>[pD F V,.int x]) ed,zF,by show k*F.length<=400;omega,by show k<=400;omega,by show F.length<=400;omega,by show b1*k+1+b1<=9000000;omega,by show (n1+9)*k+1+n1<=9000000;omega⟩,?_⟩;rintro _ ⟨R,C,rfl,hR,zR,lR⟩;have hR:∀ t,R.getD t 0*V^k=Pc.cp (Cv.fn F) k t*C:=hR;have zR:Pc.Pz ((n1+9)*k+1) (b1*k+1) R C:=zR;obtain⟨n3,hn3⟩:∃ n3,n3=(n1+9)*k+1:=⟨_,rfl⟩;obtain⟨b3,hb3⟩:∃ b3,b3=b1*k+1:=⟨_,rfl⟩;rw[← hn3,← hb3] at zR;obtain⟨top,want⟩:=hF.want x.c0 x.g0 x.hp hL k1 js zR.fm hR;refine⟨rfl,(R,C,k*s-(j+1),n3,b3),⟨congrArg (λx=>[pD R C,.int x]) ej,zR,by show b3<=9000000;omega⟩,?_⟩;rintro _ ⟨t3,u3,rfl,u30,_,lt3,lu3,er3⟩;have er3:Qp.q R C (k*s-(j+1))=(t3:Rat) / (u3:Rat):=er3;have a1:=lt2.mul lu3;have a2:=lt3.mul lu2;have a3:Lt2 (n3+b3+b+b+1) (t2*u3-t3*u2):=(a1.mono (m:=n3+b3+b+b) (by omega)).sub (a2.mono (by omega));have a4:=lu2.mul lu3;have nz:u2*u3*((k*s:Nat):Int)≠0:=bC (bC (aq u20) (aq u30)) (by omega);refine⟨⟨_,_,lt2,lu3,by omega⟩,⟨_,_,lt3,lu2,by omega⟩,⟨_,_,a3,ls,by omega⟩,⟨_,_,lu2,lu3,by omega⟩,⟨_,_,a4,ln,by omega⟩,rfl,((t2*u3-t3*u2)*(s:Int),u2*u3*((k*s:Nat):Int)),⟨rfl,nz,(a4.mul ln).mono (by omega)⟩,?_⟩;obtain⟨t4,u4,e4,u40,_,lt4,lu4,er4⟩:=FqD.ofN (t:=(t2*u3-t3*u2)*(s:Int)) (u:=u2*u3*((k*s:Nat):Int)) nz (a3.mul ls) (a4.mul ln);rintro dd e;have e:dd=fD t4 u4:=(show dd=fD (Fr.top ((t2*u3-t3*u2)*(s:Int)) (u2*u3*((k*s:Nat):Int))) (Fr.bot ((t2*u3-t3*u2)*(s:Int)) (u2*u3*((k*s:Nat):Int))) from e).trans e4;subst e;clear e4;refine Kg x js (by omega) hF u40 lt4 lu4 (by rw[← hn1];omega) (by rw[← hb1];omega) ?_ λF' V' h=>hE F' V' _ _ _ _ h;have cj:c^(j+1)≠0:=bB (aq x.c0);refine (Qp.rL (aq u40) cj).mp ?_;have want:Qp.q P B (k*s-(j+1))*(B:Rat) / ((P.getD (k*s) 0:Int):Rat)-Qp.q R C (k*s-(j+1))=((g (j+1):Int):Rat)*(k:Rat) / ((c^(j+1):Int):Rat):=by
  rw[← want];have B1:=Qp.qB B0;unfold Qp.q;generalize ((P.getD (k*s-(j+1)) 0:Int):Rat)=a;generalize ((P.getD (k*s) 0:Int):Rat)=l;generalize ((R.getD (k*s-(j+1)) 0:Int):Rat) / (C:Rat)=r;have:a / (B:Rat)*(B:Rat)=a:=by grind
  rw[this]
 rw[er1,er3] at want;rw[← er4];have k0:((k:Int):Rat)≠0:=Qp.qX (by omega);have s0:((s:Int):Rat)≠0:=Qp.qX (by omega);have kk:((k:Int):Rat)=(k:Rat):=rfl;have cr:=Qp.qX cj;have v1:=Qp.qB u10;have v2:=Qp.qB u20;have v3:=Qp.qB u30;have L0:=Qp.qX hL;rw[← kk] at want;rw[av,av] at er2;rw[show ((k*s:Nat):Int)=(k:Int)*(s:Int) by push_cast;rfl,av,dX,av,av,av,av,av];generalize ((P.getD (k*s) 0:Int):Rat)=l at *;generalize ((c^(j+1):Int):Rat)=u at *;generalize ((g (j+1):Int):Rat)=w at *;generalize ((k:Int):Rat)=kq at *;generalize ((s:Int):Rat)=sq at *;rw[K7 v1 L0,er2,K5] at want;exact K6 v2 v3 k0 s0 want
def iY:SpB:=.of 2 (α:=List Int×Int×Nat×Nat×Nat) (λ(P,B,k,s,b) ds=>ds=[pD P B,.int s]/\Pc.Pz b b P B/\P.length=k*s+1/\1<=k/\1<=s/\k*s<=12/\b<=90000) (λ(P,B,k,s,b) d=>∃ G U,d=pD G U/\Cn P k s G U)
def jH:TSd:=(iq [] (gV 3))
def jI:TSd:=dSq (iO [] (kO (dC (.int 1)) (gV 1)) (gNm 4)
 (dSq (g7 [] (gNm 5) (gX iH (gU (gV 0) (gU (gZ .Sub (gV 2) (gV 4)) gW))))
 (dSq (g7 [] (gNm 6) (gX ii (gU (gZ .Mult (dIx (gV 5) (dC (.int 0))) (dIx (gV 0) (dC (.int 1)))) (gU (gZ .Mult (dIx (gV 5) (dC (.int 1))) (dIx (dIx (gV 0) (dC (.int 0))) (gV 2))) gW))))
 (dSq (g7 [] (gNm 7) (gX iH (gU (gX il (gU (gV 3) (gU (gZ .FloorDiv (gV 2) (gV 1)) gW))) (gU (gZ .Sub (gV 2) (gV 4)) gW))))
 (dSq (g7 [] (gNm 8) (gX ii (gU (gZ .Mult (gZ .Sub (gZ .Mult (dIx (gV 6) (dC (.int 0))) (dIx (gV 7) (dC (.int 1)))) (gZ .Mult (dIx (gV 7) (dC (.int 0))) (dIx (gV 6) (dC (.int 1))))) (gV 1)) (gU (gZ .Mult (gZ .Mult (dIx (gV 6) (dC (.int 1))) (dIx (gV 7) (dC (.int 1)))) (gV 2)) gW))))
 (g7 [] (gNm 3) (gX iz (gU (gV 3) (gU (gX ig (gU (gZ .Add (gZ .Mult (ip (gU (dC (.int 0)) gW)) (gZ .Sub (gV 1) (gV 4))) (ip (gU (dIx (gV 8) (dC (.int 0))) gW))) (gU (dIx (gV 8) (dC (.int 1))) gW))) gW)))))))))
 jH
def iJ:TSd:=dSq (g7 [] (gNm 3) (gX ig (gU (gZ .Add (gZ .Mult (ip (gU (dC (.int 0)) gW)) (gV 1)) (ip (gU (dC (.int 1)) gW))) (gU (dC (.int 1)) gW))))
 jI
def kh:TSd:=dSq (g7 [] (gNm 2) (gZ .Sub (dB bLen bLen.mono (gU (dIx (gV 0) (dC (.int 0))) gW)) (dC (.int 1))))
 iJ
theorem jz:Does 9 kh iY:=by
 rintro ds Q hn ⟨⟨P,B,k,s,b⟩,⟨rfl,z,lP,k1,s1,ks,b9⟩,q⟩;dsimp only at z lP k1 s1 ks b9 q;have km1:k<=k*s:=bN _ s1;have km2:s<=k*s:=aW _ k1;have hL:=rO z.fm lP;obtain⟨c,g,x⟩:=Go z.tops (z.tops (k*s)) k1 s1 ks hL;suffices h1:iJ.run (rB Q) [.val (pD P B),.val (.int s),.val (.int ((k*s:Nat):Int)),.no,.no,.no,.no,.no,.no] by
  show iJ.run (rB Q) [.val (pD P B),.val (.int s),.val (.int (((P.map D.int).length:Int)-1)),.no,.no,.no,.no,.no,.no];rw[aa,lP,show ((k*s+1:Nat):Int)-1=((k*s:Nat):Int) by omega];exact h1
 refine⟨x6,by omega,by omega,?_,x6,?_,rfl,(List.replicate s (0:Int)++[1],1),⟨.inl ?_,Int.zero_lt_one,by show Lt2 9000000 (1:Int);unfold Lt2;exact Nat.one_lt_two_pow (by decide),?_⟩,?_⟩
 ·show 1*(s:Int).toNat<=sizeLine;exact sE (by omega)
 ·show ((List.replicate (s:Int).toNat [D.int 0]).flatten).length+1<=sizeLine;rw[aG,rF,aa,aI];exact sE (by omega)
 ·show [D.lst ((List.replicate (s:Int).toNat [D.int 0]).flatten++[D.int 1]),.int 1]=[D.lst ((List.replicate s (0:Int)++[1]).map D.int),.int 1];rw[aG,rF,aN];rfl
 ·show (List.replicate s (0:Int)++[1]).length<=1000;rw[am,aI];show s+1<=1000;omega
 rintro _ ⟨F,V,rfl,fF,wF,lF⟩;have wF:∀ k,F.getD k 0*1=(List.replicate s (0:Int)++[1]).getD k 0*V:=wF;have lF:F.length<=(List.replicate s (0:Int)++[1]).length:=lF;rw[am,aI] at lF;have fnd:=BP (c:=c) x.g0 fF (show F.length<=s+1 from lF) wF;refine⟨⟨by omega,by omega,by omega,by omega⟩,λi st=>∃ F V o4 o5 o6 o7 o8,st=[.val (pD P B),.val (.int s),.val (.int ((k*s:Nat):Int)),.val (pD F V),o4,o5,o6,o7,o8]/\Fnd c g s i F V,⟨F,V,.no,.no,.no,.no,.no,rfl,fnd⟩,?_,?_⟩
 ·rintro i d _ hd ⟨F,V,o4,o5,o6,o7,o8,rfl,fnd⟩;obtain⟨hi,rfl⟩:=rS hd;have js:i+1<s:=by omega
  have e1:(1:Int)+(i:Int)=((i+1:Nat):Int):=by omega
  rw[e1];exact Kf z b9 lP k1 ks x js fnd λF' V' o5 o6 o7 o8 h=>⟨F',V',_,o5,o6,o7,o8,rfl,h⟩
 ·rintro _ ⟨F,V,o4,o5,o6,o7,o8,rfl,fnd⟩;rw[qU,show ((s:Int)-1).toNat=s-1 by omega] at fnd;exact q _ ⟨F,V,rfl,fnd.cn x.c0 s1 x.g0 x.hp⟩
theorem JF{X Y:List Int}{Xc Yc:Int}(fX:Po.Fm X Xc)(fY:Po.Fm Y Yc)(hY:∀ k,Y.getD k 0*Xc = -X.getD k 0*Yc):Y.length<=X.length/\∀ x,Qp.E Y Yc x = -Qp.E X Xc x:=by
 have X0:=fX.pos;have l:Y.length<=X.length:=Pc.qP (f:=λk => -X.getD k 0) fY X0 hY λk hk=>by
  show -X.getD k 0=0;rw[qE hk];rfl
 refine⟨l,λx=>?_⟩;rw[Qp.uX (f:=λk=>Cv.fn X k*(-1)) (N:=X.length) fY.pos (aq X0) (λk=>by rw[hY k];unfold Cv.fn;grind) l,Qp.uT,Qp.yT (af X.length)];rw[show ((-1:Int):Rat) = -1 from rfl];grind
structure Cap (V c:Int)(v cb Y n hn hb Am:Nat)(G:List Int)(U:Int):Prop where
 V0:0<V
 lV:Lt2 v V
 lc:Lt2 cb c
 zG:Pc.Pz hn hb G U
 n12:n<=12
 c1:Am+(Y+cb)*n+1<=3000000
 c2:v+cb*n+1<=3000000
 c3:hn<=3000000
 c4:hb<=3000000
def pX:TSd:=(dSq (g7 [] (gNm 4) (gX ig (gU (gZ .Add (gZ .Mult (ip (gU (dC (.int 0)) gW)) (gZ .Sub (dB bLen bLen.mono (gU (dIx (gV 0) (dC (.int 0))) gW)) (dB bLen bLen.mono (gU (dIx (gV 1) (dC (.int 0))) gW)))) (ip (gU (dIx (dIx (gV 0) (dC (.int 0))) (jq (dC (.int 1)))) gW))) (gU (dIx (gV 0) (dC (.int 1))) gW))))
 (dSq (g7 [] (gNm 3) (gX iz (gU (gV 3) (gU (gV 4) gW))))
 (g7 [] (gNm 0) (gX iz (gU (gV 0) (gU (gX hJ (gU (gV 4) (gU (gX hJ (gU (gV 1) (gU (ic (gU (ic (gU (gZ .Sub (dC (.int 0)) (dC (.int 1))) gW)) (gU (dC (.int 1)) gW))) gW))) gW))) gW))))))
theorem DK{V c:Int}{N A Y s t v cb n hn hb Am:Nat}{g:Nat->Int}{G F M:List Int}{U C D0:Int}{o2 o4:SD}{E:EndsD}(hw:Hw c s Y g G U)(cp:Cap V c v cb Y n hn hb Am G U)(Nn:N<=n)(tN:t+s<=N)(hA:A+2<=Am)(lF:F.length=t+s+1)(wF:Ww V c N A Y F C)(wM:Ww V c (N-s) A Y M D0)
  (hE:∀ S Ec F' C' M' N',Ww V c N (A+2) Y F' C'->F'.length<=t+s->Ww V c (N-s) (A+1) Y M' N'->M'.length<=max M.length (t+1)->(∀ x,Qp.E F' C' x+Qp.E G U x*Qp.E M' N' x=Qp.E F C x+Qp.E G U x*Qp.E M D0 x)->E.nx [.val (pD F' C'),.val (pD G U),o2,.val (pD M' N'),.val (pD S Ec)]) :
  pX.run E [.val (pD F C),.val (pD G U),o2,.val (pD M D0),o4]:=by
 have fF:=wF.1;have fM:=wM.1;have C0:=fF.pos;have U0:=hw.1.pos;have N0:=fM.pos;have s1:=hw.2.2.1;have lG:=hw.2.1;have n12:=cp.n12;have q1:=cp.c1;have q2:=cp.c2;have q3:=cp.c3;have q4:=cp.c4;have e1:(Y+cb)*N<=(Y+cb)*n:=au _ Nn;have e2:cb*N<=cb*n:=au _ Nn;have e3:(Y+cb)*(N-s)<=(Y+cb)*n:=au _ (by omega);have e4:cb*(N-s)<=cb*n:=au _ (by omega);have zF:=(wF.pz cp.V0 hw.2.2.2.1 cp.lc cp.lV).mono (n':=3000000) (b':=3000000) (by omega) (by omega);have zM:=(wM.pz cp.V0 hw.2.2.2.1 cp.lc cp.lV).mono (n':=3000000) (b':=3000000) (by omega) (by omega);have lM:=wM.2.1;have ek:(((F.map D.int).length:Nat):Int)-((G.map D.int).length:Nat)=((t:Nat):Int):=by
  rw[aa,aa,lG,lF];omega
 have atF:vq (F.map D.int) (-1)=some (.int (F.getD (t+s) 0)):=tE (j:=1) (n:=F.length) (by rw[lF];exact tD (by omega)) (aa _) (by decide) (by omega);refine⟨x6,?_,?_,?_,tj atF ⟨x6,?_,rfl,(List.replicate t (0:Int)++[F.getD (t+s) 0],C),⟨.inl ?_,C0,zF.bot.mono (by decide),?_⟩,?_⟩⟩
 ·show -(2^63)<=(((F.map D.int).length:Nat):Int)-((G.map D.int).length:Nat);rw[ek];omega
 ·show (((F.map D.int).length:Nat):Int)-((G.map D.int).length:Nat)<2^63;rw[ek];omega
 ·show 1*((((F.map D.int).length:Nat):Int)-((G.map D.int).length:Nat)).toNat<=sizeLine;rw[ek];exact sE (by omega)
 ·show ((List.replicate ((((F.map D.int).length:Nat):Int)-((G.map D.int).length:Nat)).toNat [D.int 0]).flatten).length+1<=sizeLine;rw[ek,aG,rF,aa,aI];exact sE (by omega)
 ·show [D.lst ((List.replicate ((((F.map D.int).length:Nat):Int)-((G.map D.int).length:Nat)).toNat [D.int 0]).flatten++[D.int (F.getD (t+s) 0)]),.int C]=[D.lst ((List.replicate t (0:Int)++[F.getD (t+s) 0]).map D.int),.int C];rw[ek,aG,rF,aN];rfl
 ·show (List.replicate t (0:Int)++[F.getD (t+s) 0]).length<=1000;rw[am,aI];show t+1<=1000;omega
 rintro _ ⟨S,Ec,rfl,fS,wS,_⟩;have wS:∀ k,S.getD k 0*C=(List.replicate t (0:Int)++[F.getD (t+s) 0]).getD k 0*Ec:=wS;have hS:∀ k,S.getD k 0*C=(if k=t then F.getD (t+s) 0 else 0)*Ec:=λk=>by rw[wS,vd]
 obtain⟨wdS,lS⟩:=Ez tN wF lF fS hS;have zS:=(wdS.pz cp.V0 hw.2.2.2.1 cp.lc cp.lV).mono (n':=3000000) (b':=3000000) (by omega) (by omega);have E0:=fS.pos;refine⟨rfl,(M,D0,S,Ec,3000000,3000000,3000000,3000000),⟨rfl,zM,zS,by decide,by decide,by show M.length<=900;omega,by show S.length<=900;omega⟩,?_⟩;rintro _ ⟨M',N',rfl,fM',hM'⟩;have hM':∀ k,M'.getD k 0*(D0*Ec)=(M.getD k 0*Ec+S.getD k 0*D0)*N':=hM';refine⟨x6,rM,rfl,(G,U,[-1],1,hn,hb,1,1),⟨rfl,cp.zG,JI,by show hb+1<=9000000;omega,by show hn+1<=9000000;omega,by show G.length<=450;omega,by show 1<=450;decide⟩,?_⟩;rintro _ ⟨H,Hc,rfl,fH,hH⟩;have hH:∀ k,H.getD k 0*U = -G.getD k 0*Hc:=λk=>by
  have a:H.getD k 0*(U*1)=Cv.cv (Cv.fn G) (Cv.fn [-1]) k*Hc:=hH k;rw[Ca.yJ (λj hj=>qE (fs:=[-1]) hj),bv] at a;rw[a];show G.getD k 0*(-1)*Hc=_;grind
 obtain⟨lH,eH⟩:=JF hw.1 fH hH;have H0:=fH.pos;have zH:Pc.Pz hn hb H Hc:=Pc.Pz.of fH U0 hH (λk=>(cp.zG.tops k).neg) cp.zG.bot;refine⟨rfl,(S,Ec,H,Hc,3000000,3000000,hn,hb),⟨rfl,zS,zH,by show 3000000+hb<=9000000;omega,by show 3000000+hn<=9000000;omega,by show S.length<=450;omega,by show H.length<=450;omega⟩,?_⟩;rintro _ ⟨X,Xc,rfl,fX,hX⟩;have hX0:∀ k,X.getD k 0*(Ec*Hc)=Cv.cv (Cv.fn S) (Cv.fn H) k*Xc:=hX;have hX1:∀ k,X.getD k 0*(Ec*U) = -Cv.cv (Cv.fn S) (Cv.fn G) k*Xc:=λk=>by
  refine aw (aq H0) ?_;have a:=hX0 k;have b:U*Cv.cv (Cv.fn S) (Cv.fn H) k=(-Hc)*Cv.cv (Cv.fn S) (Cv.fn G) k:=by
   rw[← Ca.DN,← Ca.DN];refine Ca.wZ (λj _=>rfl) λj _=>?_;have:=hH j;show U*H.getD j 0 = -Hc*G.getD j 0;rw[bK,this];grind
  calc X.getD k 0*(Ec*U)*Hc=X.getD k 0*(Ec*Hc)*U:=by grind
   _=U*Cv.cv (Cv.fn S) (Cv.fn H) k*Xc:=by rw[a];grind
   _=_:=by rw[b];grind
 have S0:∀ k,k≠t->S.getD k 0=0:=λk hk=>by
  have a:=hS k;rw[if_neg hk,ay] at a;exact (bu.mp a).resolve_right (aq C0)
 obtain⟨wdX,lX,xk⟩:=Ey hw tN fX wdS lS S0 hX1;have zX:=(wdX.pz cp.V0 hw.2.2.2.1 cp.lc cp.lV).mono (n':=3000000) (b':=3000000) (by omega) (by omega);refine⟨rfl,(F,C,X,Xc,3000000,3000000,3000000,3000000),⟨rfl,zF,zX,by decide,by decide,by show F.length<=900;omega,by show X.length<=900;omega⟩,?_⟩;rintro _ ⟨F',C',rfl,fF',hF'⟩;have hF':∀ k,F'.getD k 0*(C*Xc)=(F.getD k 0*Xc+X.getD k 0*C)*C':=hF';have X0:=fX.pos;have lF':F'.length<=t+s:=Pc.qP fF' (aA C0 X0) hF' λk hk=>by
  rcases cG hk with e|e
  ·rw[← e];have a:=hS t;rw[if_pos rfl] at a;refine aw (aq E0) ?_
   calc (F.getD (t+s) 0*Xc+X.getD (t+s) 0*C)*Ec=F.getD (t+s) 0*Ec*Xc+X.getD (t+s) 0*Ec*C:=by grind
    _=S.getD t 0*C*Xc + -S.getD t 0*Xc*C:=by rw[xk,a]
    _=0*Ec:=by grind
  ·rw[qE (fs:=F) (by omega),qE (fs:=X) (by omega)];simp
 refine hE S Ec F' C' M' N' (Ww.sum fF' hF' (wF.mono (show A<=A+1 by omega)) wdX (af _)) lF' (Ww.sum fM' hM' wM wdS (af _)) (Pc.qP fM' (aA N0 E0) hM' λk hk=>?_) λx=>?_
 ·rw[qE (fs:=M) (by omega),qE (fs:=S) (by omega)];simp
 ·rw[Qp.xh C0 fX.pos fF'.pos hF' x,Qp.uC E0 H0 fX hX0 x,eH,Qp.xh N0 E0 fM'.pos hM' x];grind
def pY:TSd:=(iN (iu (iB .GtE (dB bLen bLen.mono (gU (dIx (gV 0) (dC (.int 0))) gW)) (dB bLen bLen.mono (gU (dIx (gV 1) (dC (.int 0))) gW))))
 (dSq (g7 [] (gNm 4) (gX ig (gU (gZ .Add (gZ .Mult (ip (gU (dC (.int 0)) gW)) (gZ .Sub (dB bLen bLen.mono (gU (dIx (gV 0) (dC (.int 0))) gW)) (dB bLen bLen.mono (gU (dIx (gV 1) (dC (.int 0))) gW)))) (ip (gU (dIx (dIx (gV 0) (dC (.int 0))) (jq (dC (.int 1)))) gW))) (gU (dIx (gV 0) (dC (.int 1))) gW))))
 (dSq (g7 [] (gNm 3) (gX iz (gU (gV 3) (gU (gV 4) gW))))
 (g7 [] (gNm 0) (gX iz (gU (gV 0) (gU (gX hJ (gU (gV 4) (gU (gX hJ (gU (gV 1) (gU (ic (gU (ic (gU (gZ .Sub (dC (.int 0)) (dC (.int 1))) gW)) (gU (dC (.int 1)) gW))) gW))) gW))) gW)))))))
theorem GG{V c:Int}{N A Y:Nat}:Ww V c N A Y [] 1:=⟨Ap.vL,aC _,λ_=>0,λk _=>⟨by simp,va _⟩⟩
theorem BV{V c:Int}{N A Y s v cb n hn hb Am:Nat}{g:Nat->Int}{G P:List Int}{U B:Int}{o2 o4:SD}{E:EndsD}(hw:Hw c s Y g G U)(cp:Cap V c v cb Y n hn hb Am G U)(Nn:N<=n)(hA:A+28<=Am)(wP:Ww V c N A Y P B)
  (hE:∀ R C M D0 o4,Ww V c N (A+26) Y R C->R.length<=s->Ww V c (N-s) (A+26) Y M D0->(M=[]\/M.length+s<=P.length)->(∀ x,Qp.E P B x=Qp.E R C x+Qp.E G U x*Qp.E M D0 x)->E.nx [.val (pD R C),.val (pD G U),o2,.val (pD M D0),o4]) :
  pY.run E [.val (pD P B),.val (pD G U),o2,.val (pD [] 1),o4]:=by
 have s1:=hw.2.2.1;have lG:=hw.2.1;have n12:=cp.n12;have lP:=wP.2.1;refine⟨λst=>∃(F:List Int) (C:Int) (M:List Int) (D0:Int) (o4:SD) (j:Nat),st=[.val (pD F C),.val (pD G U),o2,.val (pD M D0),o4]/\F.length+j<=P.length/\(j=0\/j+s<=P.length)/\Ww V c N (A+2*j) Y F C/\Ww V c (N-s) (A+2*j) Y M D0/\(M=[]\/M.length+s<=P.length)/\∀ x,Qp.E P B x=Qp.E F C x+Qp.E G U x*Qp.E M D0 x,λst=>match st with | .val (.tup (.tup l::_))::_=>l.length|_=>0,⟨P,B,[],1,o4,0,rfl,af _,.inl rfl,wP,GG,.inl rfl,λx=>by rw[Ap.uD];grind⟩,?_⟩;rintro _ ⟨F,C,M,D0,o4,j,rfl,lF,jl,wF,wM,lM,eP⟩;refine yV (p:=(((G.map D.int).length:Nat):Int)<=((F.map D.int).length:Nat)) (λcc=>?_) (λcc=>?_)
 ·rw[aa,aa,lG] at cc;obtain⟨t,lt⟩:∃ t,F.length=t+s+1:=⟨F.length-s-1,by omega⟩;refine DK hw cp Nn (by omega) (by omega) lt wF wM λS Ec F' C' M' N' wF' lF' wM' lM' e=>⟨⟨F',C',M',N',_,j+1,rfl,by omega,.inr (by omega),wF'.mono (by omega),wM'.mono (by omega),?_,λx=>by rw[eP x,e x]⟩,?_⟩
  ·rcases lM with z|z
   ·rw[z] at lM';have:M'.length<=t+1:=by simpa using lM'
    exact .inr (by omega)
   ·exact .inr (by omega)
  ·show (F'.map D.int).length<(F.map D.int).length;rw[aa,aa];omega
 ·rw[aa,aa,lG] at cc;exact hE F C M D0 o4 (wF.mono (by omega)) (by omega) (wM.mono (by omega)) lM eP
def ji:SpB:=.of 2 (α:=List Int×Int×List Int×Int×Int×Int×(Nat->Int)×Nat×Nat×Nat×Nat×Nat×Nat×Nat×Nat) (λ(P,B,G,U,V,c,g,k,s,A,Y,v,cb,hn,hb) ds=>ds=[pD P B,pD G U]/\Hw c s Y g G U/\Cap V c v cb Y (k*s) hn hb (A+400) G U/\Ww V c (k*s) A Y P B)
 (λ(P,B,G,U,V,c,g,k,s,A,Y,v,cb,hn,hb) d=>∃ Ps,d = .lst (Ps.map λp=>pD p.1 p.2)/\Ps.length<=k+1/\(∀ i p,Ps[i]? = some p->Ww V c (k*s-i*s) (A+400) Y p.1 p.2/\p.1.length<=s)/\∀ x,Qp.E P B x=Ap.Ed (Qp.E G U x) x Ps)
def kE:TSd:=(iq [2] (gV 2))
def kG:TSd:=dSq (iN (iu (iB .Gt (dB bLen bLen.mono (gU (dIx (gV 0) (dC (.int 0))) gW)) (dC (.int 0))))
 (dSq (g7 [] (gNm 3) (ic (gU (ic gW) (gU (dC (.int 1)) gW))))
 (dSq (iN (iu (iB .GtE (dB bLen bLen.mono (gU (dIx (gV 0) (dC (.int 0))) gW)) (dB bLen bLen.mono (gU (dIx (gV 1) (dC (.int 0))) gW))))
 (dSq (g7 [] (gNm 4) (gX ig (gU (gZ .Add (gZ .Mult (ip (gU (dC (.int 0)) gW)) (gZ .Sub (dB bLen bLen.mono (gU (dIx (gV 0) (dC (.int 0))) gW)) (dB bLen bLen.mono (gU (dIx (gV 1) (dC (.int 0))) gW)))) (ip (gU (dIx (dIx (gV 0) (dC (.int 0))) (jq (dC (.int 1)))) gW))) (gU (dIx (gV 0) (dC (.int 1))) gW))))
 (dSq (g7 [] (gNm 3) (gX iz (gU (gV 3) (gU (gV 4) gW))))
 (g7 [] (gNm 0) (gX iz (gU (gV 0) (gU (gX hJ (gU (gV 4) (gU (gX hJ (gU (gV 1) (gU (ic (gU (ic (gU (gZ .Sub (dC (.int 0)) (dC (.int 1))) gW)) (gU (dC (.int 1)) gW))) gW))) gW))) gW)))))))
 (dSq (kB [] 2 (gV 0))
 (g7 [] (gNm 0) (gV 3))))))
 kE
def mn:TSd:=dSq (jn [] 2 (ip gW))
 kG
theorem ki:Does 5 mn ji:=by
 rintro ds Q hn ⟨⟨P,B,G,U,V,c,g,k,s,A,Y,v,cb,hn',hb⟩,⟨rfl,hw,cp,wP⟩,q⟩;dsimp only at hw cp wP q;have s1:=hw.2.2.1;have n12:=cp.n12;have k12:k<=k*s:=bN _ s1;have lP:=wP.2.1;refine⟨aC _,λst=>∃(F:List Int) (C:Int) (Ps:List (List Int×Int)) (o3 o4:SD),st=[.val (pD F C),.val (pD G U),.own (Ps.map λp=>pD p.1 p.2),o3,o4]/\Ww V c (k*s-Ps.length*s) (A+Ps.length*26) Y F C/\(F=[]\/F.length+Ps.length*s<=k*s+1)/\Ps.length<=k+1/\(∀ i p,Ps[i]? = some p->Ww V c (k*s-i*s) (A+400) Y p.1 p.2/\p.1.length<=s)/\∀ x,Qp.E P B x=Ap.Ed (Qp.E G U x) x (Ps++[(F,C)]),λst=>match st with | .val (.tup (.tup l::_))::_=>l.length|_=>0,⟨P,B,[],.no,.no,rfl,?_,.inr (by show P.length+0*s<=_;omega),aC _,(λi p hp=>by simp at hp),(λx=>by show Qp.E P B x=Qp.E P B x+Qp.E G U x*0;grind)⟩,?_⟩
 ·show Ww V c (k*s-0*s) (A+0*26) Y P B;rw[dD,dD,bD];exact wP
 rintro _ ⟨F,C,Ps,o3,o4,rfl,wF,lF,lPs,hPs,eP⟩;refine yV (p:=(0:Int)<((F.map D.int).length:Nat)) (λcc=>?_) (λcc=>?_)
 ·rw[aa] at cc;have lF:F.length+Ps.length*s<=k*s+1:=by
   rcases lF with e|e
   ·rw[e] at cc;exact absurd cc (by decide)
   ·exact e
  have pk:Ps.length<=k:=by
   rcases aD k Ps.length with y|y
   ·have:(k+1)*s<=Ps.length*s:=bg _ y;rw[aY] at this;omega
   ·exact y
  have ps':(Ps.length+1)*s=Ps.length*s+s:=aY _ _;refine⟨aC _,rM,BV hw cp (by omega) (by omega) wF λR C' M N o4 wR lR wM lM e=>⟨(congrArg (· < sizeLine) (aa _)).mpr (by rw[sizeLine_eq];omega),⟨M,N,Ps++[(R,C')],.val (pD M N),o4,?_,?_,?_,?_,λi p hp=>?_,λx=>?_⟩,?_⟩⟩
  ·show [SD.val (pD M N),.val (pD G U),.own (Ps.map (λp=>pD p.1 p.2)++[pD R C']),_,_]=_;rw[aN];rfl
  ·rw[am];show Ww V c (k*s-(Ps.length+1)*s) (A+(Ps.length+1)*26) Y M N;rw[ps',show k*s-(Ps.length*s+s)=k*s-Ps.length*s-s by omega];exact wM.mono (by omega)
  ·rcases lM with z|z
   ·exact .inl z
   ·refine .inr ?_;have z:M.length+s<=F.length:=z;rw[am];show M.length+(Ps.length+1)*s<=_;omega
  ·rw[am];show Ps.length+1<=_;omega
  ·rcases aD i Ps.length with y|y
   ·rw[aR y] at hp;exact hPs i p hp
   ·have ei:i=Ps.length:=by
     have:=(ai.mp hp).1;rw[am] at this;simp at this;omega
    subst ei;rw[ax (af _),bj] at hp;cases hp;exact⟨wR.mono (by omega),lR⟩
  ·rw[eP x,yF (a:=(F,C)) (b:=(R,C')) (c:=(M,N)) (e x) Ps]
  ·show (M.map D.int).length<(F.map D.int).length;rw[aa,aa];rcases lM with z|z
   ·have z:M=[]:=z;rw[z];show 0<_;omega
   ·have z:M.length+s<=F.length:=z;omega
 ·rw[aa] at cc;have:F=[]:=bM.mp (by omega);subst this;exact q _ ⟨Ps,rfl,lPs,hPs,λx=>by rw[eP x,AX (a:=([],C)) (Ap.uD C x) Ps]⟩
theorem sO{ds:List D}{s0:SS}{g:TGd}{e:TEd}{Q:D->Prop}(W:Nat->D->Prop)(hl:ds.length<=16777216)(h:∀ i d,ds[i]? = some d->g.run d s0 λs1=>e.run s1 (W i))(q:∀ ys:List D,ys.length=ds.length->(∀ i y,ys[i]? = some y->W i y)->Q (.lst ys)):compD ds s0 g ju e Q:=by
 refine⟨sE hl,λi ys=>ys.length=i/\∀ j y,ys[j]? = some y->W j y,⟨rfl,λj y h=>by cases h⟩,?_,?_⟩
 ·rintro i d ys hd _ ⟨l,hw⟩;refine g.mono (λs1 w=>?_) (h i d hd);refine e.mono (λy w=>?_) w;refine⟨by rw[am,l];rfl,λj z hz=>?_⟩;rcases aD j ys.length with c|c
  ·rw[aR c] at hz;exact hw j z hz
  ·rw[ax c] at hz;obtain⟨z1,z2⟩:=ai.mp hz;have e0:j-ys.length=0:=by simp at z1;omega
   have ej:j=i:=by omega
   subst ej;simp[e0] at hz;rw[← hz];exact w
 ·rintro ys _ ⟨l,hw⟩;exact q ys l hw
theorem Hw.pz{c:Int}{s Y cb:Nat}{g:Nat->Int}{G:List Int}{U:Int}(h:Hw c s Y g G U)(lc:Lt2 cb c)(cY:cb<=Y):Pc.Pz (Y*s+2) (cb*s+1) G U:=by
 obtain⟨fG,lG,s1,c0,g0,hg,gl⟩:=h;refine Pc.Pz.of (f:=λt=>if t<=s then g (s-t)*c^t else 0) fG (bH c0:0<c^s) (λt=>?_) (λt=>?_) (Hv.rH lc s)
 ·by_cases z:t<=s
  ·have e:=hg (s-t) (by omega);rw[show s-(s-t)=t by omega] at e;rw[if_pos z,show c^s=c^(s-t)*c^t by rw[← cy];congr 1;omega,← bZ,e];grind
  ·rw[if_neg z,qE (by omega),ay,ay]
 ·by_cases z:t<=s
  ·rw[if_pos z];rcases cF t with e|e
   ·subst e;rw[aT,bv,bD];exact (gl s (af _)).mono (gE _)
   ·refine ((gl (s-t) (by omega)).mul (Hv.rH lc t)).mono ?_;have e1:cb*t<=Y*t:=bg _ cY;have e2:Y*s=Y*(s-t)+Y*t:=by rw[← fj,Nat.sub_add_cancel z]
    rw[e2];generalize Y*(s-t)=u1 at *;generalize Y*t=u2 at *;generalize cb*t=u3 at *;omega
  ·rw[if_neg z];exact va _
def tR(n N:Nat):Nat:=n+404+(2*n+31)*N
def bR(n b N:Nat):Nat:=b+(n+8)*N+1
def tG(n s:Nat):Nat:=(2*n+31)*s+2
def bG(n s:Nat):Nat:=(n+8)*s+1
def iE:SpB:=.of 2 (α:=List Int×Int×Nat×Nat×Nat×Nat) (λ(P,B,k,s,n,b) ds=>ds=[pD P B,.int s]/\Pc.Pz n b P B/\P.length=k*s+1/\1<=k/\1<=s/\k*s<=12/\b<=n/\n<=80000)
 (λ(P,B,k,s,n,b) d=>(d = .non/\∀ G U,Cn P k s G U->¬ LL P B G U)\/∃ G U R C,d = .tup [pD R C,pD G U]/\Cn P k s G U/\Pc.Pz (tR n (k*s)) (bR n b (k*s)) R C/\Pc.Pz (tG n s) (bG n s) G U/\R.length<=k+1/\∀ x,Qp.E P B x=Qp.E R C (Qp.E G U x))
def kT:TSd:=(iq [] (ic (gU (gV 5) (gU (gV 2) gW))))
def kU:TSd:=dSq (iO [] (jU (gV 3)) (gTp [6,4])
 (g7 [] (gNm 5) (gX iz (gU (gV 5) (gU (gX ig (gU (gZ .Add (gZ .Mult (ip (gU (dC (.int 0)) gW)) (gV 6)) (ip (gU (dIx (gZ .Add (dB bList bList.mono (gU (dIx (gV 4) (dC (.int 0))) gW)) (ip (gU (dC (.int 0)) gW))) (dC (.int 0))) gW))) (gU (dIx (gV 4) (dC (.int 1))) gW))) gW)))))
 kT
def kW:TSd:=dSq (g7 [] (gNm 5) (ic (gU (ic gW) (gU (dC (.int 1)) gW))))
 kU
def kX:TSd:=dSq (dIf [] (iu (iB .Gt (dB bMax bMax.mono (gU (iI (iQ (gV 3)) [4] (gNm 4) ju (dB bLen bLen.mono (gU (dIx (gV 4) (dC (.int 0))) gW))) gW)) (dC (.int 1))))
 (iq [] (dC .non))
 iA)
 kW
def kY:TSd:=dSq (g7 [] (gNm 3) (gX ji (gU (gV 0) (gU (gV 2) gW))))
 kX
def mR:TSd:=dSq (g7 [] (gNm 2) (gX iY (gU (gV 0) (gU (gV 1) gW))))
 kY
theorem EK{ps:List (List Int×Int)}{ys:List D}(hl:ys.length=ps.length)(h:∀(i:Nat) y,ys[i]? = some y->∃ p:List Int×Int,ps[i]? = some p/\y = .int (p.1.length:Nat)):ys=(ps.map λp=>(p.1.length:Int)).map D.int:=by
 refine dj (by rw[aa,aa,hl]) λi h1 h2=>?_;obtain⟨p,hp,e⟩:=h i _ (ar h1);rw[e,cO,cO,(ai.mp hp).2]
def pK:TSd:=(dIf [] (iu (iB .Gt (dB bMax bMax.mono (gU (iI (iQ (gV 3)) [4] (gNm 4) ju (dB bLen bLen.mono (gU (dIx (gV 4) (dC (.int 0))) gW))) gW)) (dC (.int 1))))
 (iq [] (dC .non))
 iA)
theorem FO{Ps:List (List Int×Int)}{d0 d1 d2:D}{E:EndsD}(hl:Ps.length<=100)(ne:Ps≠[])
  (h:∀ M:Int,M∈(Ps.map λp=>(p.1.length:Int))->(∀ a∈(Ps.map λp=>(p.1.length:Int)),a<=M)->(1<M->E.rt .non)/\(¬ 1<M->E.nx [.val d0,.val d1,.val d2,.val (.lst (Ps.map λp=>pD p.1 p.2)),.no,.no,.no])) :
  pK.run E [.val d0,.val d1,.val d2,.val (.lst (Ps.map λp=>pD p.1 p.2)),.no,.no,.no]:=by
 refine sO (ds:=Ps.map λp=>pD p.1 p.2) (s0:=rY [4] [.val d0,.val d1,.val d2,.val (.lst (Ps.map λp=>pD p.1 p.2)),.no,.no,.no]) (g:=gNm 4) (e:=dB bLen bLen.mono (gU (dIx (gV 4) (dC (.int 0))) gW)) (Q:=λd=>bMax [d] λm=>oCmp .Gt m (.int 1) λd=>match d with | .bl b=>(if b=true then E.rt .non else E.nx [.val d0,.val d1,.val d2,.val (.lst (Ps.map λp=>pD p.1 p.2)),.no,.no,.no])|_=>False) (λi y=>∃ p:List Int×Int,Ps[i]? = some p/\y = .int (p.1.length:Nat)) (by rw[aa];omega) (λi d hd=>?_) λys ly hy=>?_
 ·obtain⟨p,hp,rfl⟩:=A5 hd;exact⟨p,hp,congrArg (λl:Nat=>D.int (l:Int)) (aa _)⟩
 ·rw[aa] at ly;refine⟨_,EK ly hy,by simpa using ne,λM hM hA=>?_⟩;obtain⟨h1,h2⟩:=h M hM hA;exact yV (p:=(1:Int)<M) h1 h2
theorem kH:Does 7 mR iE:=by
 rintro ds Q hn ⟨⟨P,B,k,s,n,b⟩,⟨rfl,z,lP,k1,s1,ks,bn,n4⟩,q⟩;dsimp only at z lP k1 s1 ks bn n4 q;have km1:k<=k*s:=bN _ s1;have km2:s<=k*s:=aW _ k1;have hP:=rO z.fm lP;have zn:Pc.Pz n n P B:=z.mono (af _) bn;refine⟨rfl,(P,B,k,s,n),⟨rfl,zn,lP,k1,s1,ks,by show n<=90000;omega⟩,?_⟩;rintro _ ⟨G,U,rfl,cn⟩;have cn:Cn P k s G U:=cn;obtain⟨c,g0,x⟩:=Go z.tops (z.tops (k*s)) k1 s1 ks hP;obtain⟨g,hw⟩:=x.hw k1 s1 hP cn;have zG:=hw.pz x.lc (by omega);have a1:(n+n+31)*s<=(n+n+31)*12:=au _ (by omega);have a2:(n+8)*s<=(n+8)*12:=au _ (by omega);have a3:(n+n+31+(n+8))*(k*s)<=(n+n+31+(n+8))*12:=au _ ks;have a4:(n+8)*(k*s)<=(n+8)*12:=au _ ks;have cp:Cap B c b (n+8) (n+n+31) (k*s) ((n+n+31)*s+2) ((n+8)*s+1) (n+1+400) G U:=⟨z.fm.pos,z.bot,x.lc,zG,ks,by omega,by omega,by omega,by omega⟩;have wP:Ww B c (k*s) (n+1) (n+n+31) P B:=Jw zn (by omega) x.c0 x.lc (by omega);refine⟨rfl,(P,B,G,U,B,c,g,k,s,n+1,n+n+31,b,n+8,(n+n+31)*s+2,(n+8)*s+1),⟨rfl,hw,cp,wP⟩,?_⟩;rintro _ ⟨Ps,rfl,lPs,hPs,eP⟩;have lPs:Ps.length<=k+1:=lPs;have hPs:∀ i p,Ps[i]? = some p->Ww B c (k*s-i*s) (n+1+400) (n+n+31) p.1 p.2/\p.1.length<=s:=hPs;have eP:∀ x,Qp.E P B x=Ap.Ed (Qp.E G U x) x Ps:=eP;have lG:=cn.2.1;have fP':∀ p∈Ps,Po.Fm p.1 p.2/\p.1.length<=s:=λp hp=>by
  obtain⟨i,hi⟩:=bI.mp hp;exact⟨(hPs i p hi).1.1,(hPs i p hi).2⟩
 have ne:Ps≠[]:=by
  rintro rfl;obtain⟨e1,e2⟩:=Qp.tF z.fm Ap.vL λx=>by rw[eP x,Ap.uD];rfl
  rw[e1] at lP;simp at lP
 refine FO (by omega) ne λM hM hA=>⟨λcc=>?_,λcc=>?_⟩
 ·obtain⟨p,hp,rfl⟩:=df.mp hM;obtain⟨i,hi⟩:=bI.mp hp;refine q _ (.inl ⟨rfl,λG' U' cn'=>?_⟩);obtain⟨rfl,rfl⟩:=Ca.Cand.uniq k1 hP cn.1 cn'.1 cn.2.1 cn'.2.1 cn.2.2 cn'.2.2;exact Fb cn.1 lG s1 fP' eP hi (by omega)
 ·have one:∀ p∈Ps,p.1.length<=1:=λp hp=>by
   have:=hA _ (List.mem_map_of_mem (f:=λp:List Int×Int=>(p.1.length:Int)) hp);omega
  obtain⟨W,hW⟩:∃ W:Int,W=B*c^(k*s):=⟨_,rfl⟩;have c0:=x.c0;have W0:0<W:=by rw[hW];exact aA z.fm.pos (bH c0)
  have lW:Lt2 (b+((n+8)*(k*s)+1)) W:=by rw[hW];exact z.bot.mul (Hv.rH x.lc _)
  obtain⟨w,ew⟩:∃ w:Nat->Int,∀(j:Nat) (p:List Int×Int),Ps[j]? = some p->p.1.getD 0 0*W=w j*p.2/\Lt2 (n+403+(n+n+31)*(k*s)) (w j):=by
   have ex:∀ j:Nat,∃ v:Int,∀ p:List Int×Int,Ps[j]? = some p->p.1.getD 0 0*W=v*p.2/\Lt2 (n+403+(n+n+31)*(k*s)) v:=λj=>by
    cases hj:Ps[j]? with
    | none=>exact⟨0,λp hp=>by cases hp⟩
    | some p =>
     obtain⟨⟨_,_,zz,hz⟩,_⟩:=hPs j p hj;have hjl:=(ai.mp hj).1;obtain⟨h1,h2⟩:=hz 0 (aC _);have js:j*s<=k*s:=bg _ (by omega);refine⟨zz 0*c^(j*s),λp' hp'=>?_⟩;cases hp';rw[bD] at h1 h2;have e2:c^(k*s)=c^(k*s-j*s)*c^(j*s):=by rw[← cy];congr 1;omega
     refine⟨?_,(h2.mul (Hv.rH x.lc (j*s))).mono ?_⟩
     ·calc p.1.getD 0 0*W=p.1.getD 0 0*(B*c^(k*s-j*s))*c^(j*s):=by rw[hW,e2];grind
       _=_:=by rw[h1];grind
     ·have e3:(n+n+31)*(k*s)=(n+n+31)*(k*s-j*s)+(n+n+31)*(j*s):=by rw[← fj];congr 1;omega
      have e4:(n+8)*(j*s)<=(n+n+31)*(j*s):=bg _ (by omega);omega
   exact⟨λj=>Classical.choose (ex j),λj=>Classical.choose_spec (ex j)⟩
  have pzR:∀(i:Nat) (R:List Int) (C:Int),i<=Ps.length->Po.Fm R C->(∀ j,R.getD j 0*W=(if j<i then w j else 0)*C)->Pc.Pz (n+403+(n+n+31)*(k*s)) (b+((n+8)*(k*s)+1)) R C:=λi R C hi fR hR=>Pc.Pz.of fR W0 hR (λj=>by
   by_cases y:j<i
   ·rw[if_pos y];exact (ew j _ (ar (by omega))).2
   ·rw[if_neg y];exact va _) lW
  refine⟨aC _,rM,λi st=>∃(R:List Int) (C:Int) (o4 o6:SD),st=[.val (pD P B),.val (.int s),.val (pD G U),.val (.lst (Ps.map λp=>pD p.1 p.2)),o4,.val (pD R C),o6]/\Po.Fm R C/\R.length<=i/\∀ j,R.getD j 0*W=(if j<i then w j else 0)*C,⟨[],1,_,_,rfl,Ap.vL,af _,λj=>by rw[if_neg (by omega)];simp⟩,?_,?_⟩
  ·rintro i d _ hd ⟨R,C,o4,o6,rfl,fR,lR,hR⟩;obtain⟨y,hy',rfl⟩:=wX hd;obtain⟨p,hp,rfl⟩:=A5 hy';have hi:=(ai.mp hp).1;obtain⟨⟨fp,_,_⟩,_⟩:=hPs i p hp;have lp:=one p (aP hp);obtain⟨w1,w2⟩:=ew i p hp;have p0:=fp.pos;have zR:=pzR i R C (by omega) fR hR;have g0':((p.1.map D.int)++[D.int 0])[0]? = some (.int (p.1.getD 0 0)):=by
    match p.1,lp with
    | [],_=>rfl
    | [a],_=>rfl
   have zp:Pc.Pz (n+403+(n+n+31)*(k*s)) (b+((n+8)*(k*s)+1)) p.1 p.2:=Pc.Pz.of (f:=λj=>if j=0 then w i else 0) fp W0 (λj=>by
    by_cases y:j=0
    ·rw[y,if_pos rfl];exact w1
    ·rw[if_neg y,qE (by omega),ay,ay]) (λj=>by
    by_cases y:j=0
    ·rw[if_pos y];exact w2
    ·rw[if_neg y];exact va _) lW
   refine⟨rfl,x6,by omega,by omega,?_,x6,?_,rA (n:=0) g0' ⟨x6,?_,rfl,(List.replicate i (0:Int)++[p.1.getD 0 0],p.2),⟨.inl ?_,p0,zp.bot.mono (by omega),?_⟩,?_⟩⟩
   ·show 1*(i:Int).toNat<=sizeLine;exact sE (by omega)
   ·show (p.1.map D.int).length+1<=sizeLine;rw[aa];exact sE (by omega)
   ·show ((List.replicate (i:Int).toNat [D.int 0]).flatten).length+1<=sizeLine;rw[aG,rF,aa,aI];exact sE (by omega)
   ·show [D.lst ((List.replicate (i:Int).toNat [D.int 0]).flatten++[D.int (p.1.getD 0 0)]),.int p.2]=[D.lst ((List.replicate i (0:Int)++[p.1.getD 0 0]).map D.int),.int p.2];rw[aG,rF,aN];rfl
   ·show (List.replicate i (0:Int)++[p.1.getD 0 0]).length<=1000;rw[am,aI];show i+1<=1000;omega
   rintro _ ⟨S,Ec,rfl,fS,wS,lS⟩;have wS:∀ j,S.getD j 0*p.2=(List.replicate i (0:Int)++[p.1.getD 0 0]).getD j 0*Ec:=wS;have lS:S.length<=(List.replicate i (0:Int)++[p.1.getD 0 0]).length:=lS;rw[am,aI] at lS;have lS:S.length<=i+1:=lS;have hS:∀ j,S.getD j 0*W=(if j=i then w i else 0)*Ec:=λj=>by
    refine aw (aq p0) ?_;have a:=wS j;rw[vd] at a;by_cases y:j=i
    ·rw[if_pos y] at a ⊢
     calc S.getD j 0*W*p.2=S.getD j 0*p.2*W:=by grind
      _=p.1.getD 0 0*W*Ec:=by rw[a];grind
      _=_:=by rw[w1];grind
    ·rw[if_neg y,ay] at a;rw[if_neg y,(bu.mp a).resolve_right (aq p0)];simp
   have E0:=fS.pos;have zS:Pc.Pz (n+403+(n+n+31)*(k*s)) (b+((n+8)*(k*s)+1)) S Ec:=Pc.Pz.of fS W0 hS (λj=>by
    by_cases y:j=i
    ·rw[if_pos y];exact w2
    ·rw[if_neg y];exact va _) lW
   refine⟨rfl,(R,C,S,Ec,_,_,_,_),⟨rfl,zR,zS,by show b+((n+8)*(k*s)+1)+(b+((n+8)*(k*s)+1))<=9000000;omega,by show n+403+(n+n+31)*(k*s)+(n+403+(n+n+31)*(k*s))<=9000000;have:(n+n+31)*(k*s)<=(n+n+31)*12:=au _ ks;omega,by show R.length<=900;omega,by show S.length<=900;omega⟩,?_⟩;rintro _ ⟨R',C',rfl,fR',hR'⟩;have hR':∀ j,R'.getD j 0*(C*Ec)=(R.getD j 0*Ec+S.getD j 0*C)*C':=hR';have C0:=fR.pos;refine⟨R',C',_,_,rfl,fR',Pc.qP fR' (aA C0 E0) hR' λj hj=>by rw[qE (fs:=R) (by omega),qE (fs:=S) (by omega)];simp,λj=>?_⟩;refine aw (aq (aA C0 E0)) ?_;have a:=hR j;have d:=hS j;have e:=hR' j;have e5:R'.getD j 0*W*(C*Ec)=((if j<i then w j else 0)+(if j=i then w i else 0))*C'*(C*Ec):=by
    calc R'.getD j 0*W*(C*Ec)=R'.getD j 0*(C*Ec)*W:=by grind
     _=(R.getD j 0*W*Ec+S.getD j 0*W*C)*C':=by rw[e];grind
     _=_:=by rw[a,d];grind
   rw[e5];congr 2;by_cases y:j=i
   ·subst y;rw[if_neg (br _),if_pos rfl,if_pos (fi _),bT]
   ·rw[if_neg y,cu];by_cases y2:j<i
    ·rw[if_pos y2,if_pos (by omega)]
    ·rw[if_neg y2,if_neg (by omega)]
  ·rintro _ ⟨R,C,o4,o6,rfl,fR,lR,hR⟩;rw[q8,aa] at lR hR;have zR:=pzR _ R C (af _) fR hR;have eR:∀ x y,Qp.E R C y=Ap.Ed y x Ps:=λx y=>by
    rw[B6 (N:=Ps.length) lR,Gu (f:=Qp.q R C) one λj p hj=>?_];have hj':=(ai.mp hj).1;have a:=hR j;rw[if_pos hj'] at a;have b1:=(ew j p hj).1;have p0:=(fP' p (aP hj)).1.pos;refine (Qp.rL (aq fR.pos) (aq p0)).mpr ?_;refine aw (aq W0) ?_
    calc R.getD j 0*p.2*W=R.getD j 0*W*p.2:=by grind
     _=w j*p.2*C:=by rw[a];grind
     _=_:=by rw[← b1];grind
   refine⟨rM,q _ (.inr ⟨G,U,R,C,rfl,cn,zR.mono ?_ ?_,zG.mono ?_ ?_,by show R.length<=k+1;omega,λx=>by rw[eP x,eR x]⟩)⟩
   ·show _<=n+404+(2*n+31)*(k*s);rw[show 2*n+31=n+n+31 by omega];omega
   ·show _<=b+(n+8)*(k*s)+1;omega
   ·show _<=(2*n+31)*s+2;rw[show 2*n+31=n+n+31 by omega];omega
   ·exact af _
end Dp
namespace Dp
open PySem L2 Ch
theorem yR{l:List D}{j n:Nat}(e:l.length=n)(hj:1<=j)(hn:j<=n)(q:Q (n-j)):atD l (.int (-(j:Int))) Q:=by
 have e:yy l.length (-(j:Int))=some (n-j):=by
  unfold yy;rw[e,if_neg (by omega),if_pos (by omega)];congr 1;omega
 unfold atD;dsimp only;rw[e];exact q
def GD(d:Pl):Prop:=d.1.getD (d.1.length-1) 0=d.2/\d.1.getD 0 0=0
theorem HM(n1:1<=n)(fP:Po.Fm P B)(lP:P.length=n+1)(fR:Po.Fm R C)(eR:∀ x,Qp.E R C x=(Qp.E P B x-Qp.E P B 0)*(1 / Qp.q P B n)):R.length=n+1/\GD (R,C):=by
 have q0:Qp.q P B n≠0:=by
  have:=Qp.s9 fP (by rintro rfl;simp at lP);rw[lP] at this;exact this
 generalize hq:Qp.q P B n=c at *;obtain⟨N,e,fN,eN,lN⟩:=(((Ap.Pl'.of fP).mono (m:=n+1) (by omega)).smul (1 / c)).add ((Ap.Pl'.const (-Qp.E P B 0*(1 / c))).mono (by omega));obtain⟨T,f,fT,eT,lT⟩:=Ap.Pl'.const (-Qp.E P B 0*(1 / c));have qN:=Ap.vI (u:=1 / c) fN fP fT λx=>by rw[eN,eT]
 have n1':Qp.q N e n=1:=by
  rw[qN,hq,Qp.s8 (P:=T) (k:=n) (by omega)];grind
 have eN:∀ x,Qp.E N e x=(Qp.E P B x-Qp.E P B 0)*(1 / c):=λx=>by rw[eN];grind
 obtain⟨rfl,rfl⟩:=Qp.tF fR fN λx=>by rw[eR,eN]
 have e0:=fN.pos;have nC:R.getD n 0=C:=by
  have h:((R.getD n 0:Int):Rat) / (C:Rat)=((1:Int):Rat) / ((1:Int):Rat):=by
   have:Qp.q R C n=((1:Int):Rat) / ((1:Int):Rat):=by rw[n1'];show (1:Rat)=1 / 1;grind
   exact this
  have:=(Qp.rL (aq e0) (by decide)).mp h;omega
 have lR:R.length=n+1:=by
  rcases aD n R.length with w|w
  ·omega
  ·rw[qE w] at nC;omega
 refine⟨lR,?_,?_⟩
 ·show R.getD (R.length-1) 0=C;rw[lR,aL];exact nC
 ·have h:Qp.q R C 0=0:=by
   rw[← Qp.t6,eN];grind
  have n2:=Qp.qB e0;unfold Qp.q at h;have:((R.getD 0 0:Int):Rat)=0:=by
   generalize ((R.getD 0 0:Int):Rat)=y at *;have:y=y / (C:Rat)*C:=by grind
   rw[this,h];grind
  exact de.mp this
def m9:TSd:=(dSq (g7 [] (gNm 4) (gX iK (gU (gX iH (gU (gV 3) (gU (gZ .Sub (dB bLen bLen.mono (gU (dIx (gV 3) (dC (.int 0))) gW)) (dC (.int 1))) gW))) (gU (gX iH (gU (gV 3) (gU (dC (.int 0)) gW))) gW))))
 (dSq (kB [] 1 (gX g8 (gU (gX io (gU (gV 4) gW)) (gU (gV 3) gW))))
 (jh [] 2 (jq (dC (.int 1))) (gX g8 (gU (jm 2 (jq (dC (.int 1)))) (gU (gV 4) gW))))))
def pL:TSd:=dSq (mZ 3 2)
 m9
theorem Bw(zl:Pc.Pz n b l.1 l.2)(ll:l.1.length=dl+1)(dl2:2<=dl)(dl6:dl<=6)(zp:Pc.Pz m c p.1 p.2)(lp:p.1.length=dp+1)(dp2:2<=dp)(dp6:dp<=6)(nb:n+b<=3900)(b2:b<=2000)(mc:m<=30000)(mc':c<=30000)(lf:found.length<=100)(lu:us.length<=100)
  (hE:∀(d p':Pl) o3 o4,Po.Fm d.1 d.2->d.1.length=dl+1->GD d->Pc.Pz (m+(2*n+4*b+10)*(dp+1)+1) (c+(2*b*(dp+1)+1)) p'.1 p'.2->p'.1.length=dp+1->E.nx [.val d0,.own ((found++[d]).map pq),.own ((us++[p']).map pq),o3,o4]) :
  pL.run E [.val d0,.own (found.map pq),.own ((us++[p,l]).map pq),o3,o4]:=by
 have fl:=zl.fm;have e1:(us++[p,l]).map pq=(us.map pq++[pq p])++[pq l]:=by rw[aN];simp
 have e2:(us.map pq++[pq p]++[pq l]).dropLast=us.map pq++[pq p]:=gC;have q0:Qp.q l.1 l.2 dl≠0:=by
  have:=Qp.s9 fl (by intro e;rw[e] at ll;simp at ll);rw[ll] at this;exact this
 rw[e1];refine⟨pq l,?_,?_⟩
 ·simp
 show (m9).run E [.val d0,.own (found.map pq),.own (us.map pq++[pq p]++[pq l]).dropLast,.val (pq l),o4];rw[e2];have ed:(((l.1.map D.int).length:Nat):Int)-1=((dl:Nat):Int):=by rw[aa,ll];omega
 refine⟨rfl,(l.1,l.2,dl,n,b),⟨congrArg (λz=>[pq l,.int z]) ed,zl,by show b<=9000000;omega⟩,?_⟩;rintro d1 f1;refine⟨rfl,(l.1,l.2,0,n,b),⟨rfl,zl,by show b<=9000000;omega⟩,?_⟩;rintro d2 f2;have f1:FqD n b d1 (Qp.q l.1 l.2 dl):=f1;have f2:FqD n b d2 (Qp.q l.1 l.2 0):=f2;refine⟨rfl,(d1,d2,_,_,n,b,n,b),⟨rfl,f1,f2,by show b+b<=4000;omega,by show n<=100000;omega,by show n<=100000;omega⟩,?_⟩;rintro _ ⟨G,U,rfl,zG,eG,lG,g0,g1⟩;have g1:Qp.q G U 1=Qp.q l.1 l.2 dl:=g1;have g0:Qp.q G U 0=Qp.q l.1 l.2 0:=g0;have zG:Pc.Pz (2*n+2*b) (2*b) G U:=zG.mono (by show n+n+b+b<=_;omega) (by show b+b<=_;omega);obtain⟨len,n1⟩:=y9 (by rw[g1];exact q0) lG;refine⟨rfl,(G,U,2*n+2*b,2*b),⟨rfl,zG,len,n1,by show 2*n+2*b<=8000;omega,by show 2*b<=8000;omega⟩,?_⟩;rintro _ ⟨T,A,rfl,zT,lT,t1,t0⟩;have zT:Pc.Pz (2*n+2*b+2*b+1) (2*n+2*b) T A:=zT;have lT:T.length<=2:=lT;have t1:Qp.q T A 1=1 / Qp.q G U 1:=t1;have t0:Qp.q T A 0=(0-Qp.q G U 0) / Qp.q G U 1:=t0;rw[g1] at t1 t0;rw[g0] at t0;have w1:(n+b+10)*(T.length+1)<=(n+b+10)*3:=au _ (by omega);have w2:b*T.length<=b*2:=au _ lT;have w3:T.length*l.1.length<=2*7:=bA lT (by omega);refine⟨rfl,(T,A,l.1,l.2,_,_,n,b),⟨rfl,zT,zl,by show 2*n+2*b+(2*n+2*b)+b*T.length<=8900000;omega,by show 2*n+2*b+2*b+1+(n+b+10)*(T.length+1)<=4000000;omega,by show T.length*l.1.length<=190;omega,by show T.length<=190;omega,by show l.1.length<=190;omega⟩,?_⟩;rintro _ ⟨R,C,rfl,o⟩;have o:Pc.Of T A l.1 l.2 R C:=o;have eR:∀ x,Qp.E R C x=(Qp.E l.1 l.2 x-Qp.E l.1 l.2 0)*(1 / Qp.q l.1 l.2 dl):=λx=>by
  have eT:Qp.E T A (Qp.E l.1 l.2 x)=Qp.q T A 0+Qp.q T A 1*Qp.E l.1 l.2 x:=Qp.GE lT _;rw[Qp.FP zT.fm.pos fl.pos o,eT,t1,t0,Qp.t6];grind
 obtain⟨lR,neR⟩:=HM (by omega) fl ll o.1 eR;have atp:vq (us.map pq++[pq p]) (-1)=some (pq p):=tE (j:=1) (n:=us.length+1) (by rw[aL,ax (by rw[aa];exact af _),aa,bj];rfl) (by rw[am,aa];rfl) (by decide) (by omega);have w4:(2*n+2*b+2*b+10)*(p.1.length+1)<=(2*n+2*b+2*b+10)*8:=au _ (by omega);have w5:2*b*p.1.length<=2*b*7:=au _ (by omega);have w6:p.1.length*G.length<=7*2:=bA (by omega) (by omega);refine⟨(congrArg (· < sizeLine) (aa _)).mpr (by rw[sizeLine_eq];omega),tj atp ⟨rfl,(p.1,p.2,G,U,m,c,2*n+2*b,2*b),⟨rfl,zp,zG,by show c+c+2*b*p.1.length<=8900000;omega,by show m+(2*n+2*b+2*b+10)*(p.1.length+1)<=4000000;omega,by show p.1.length*G.length<=190;omega,by show p.1.length<=190;omega,by show G.length<=190;omega⟩,?_⟩⟩;rintro _ ⟨S,D1,rfl,os⟩;have os:Pc.Of p.1 p.2 G U S D1:=os;obtain⟨lS,_⟩:=Ch.sN zp.fm zG.fm len n1 (by omega) os;have zS:=os.size zp zG (by omega);refine yR (j:=1) (n:=us.length+1) (by rw[am,aa];rfl) (by decide) (by omega) ?_;have e3:(us.map pq++[pq p]).set (us.length+1-1) (pD S D1)=(us++[(S,D1)]).map pq:=by
  rw[aL,List.set_append,if_neg (by rw[aa];exact br _),aa,bj,aN];rfl
 show E.nx [.val d0,.own (found.map pq++[pD R C]),.own ((us.map pq++[pq p]).set (us.length+1-1) (pD S D1)),.val (pq l),.val (pD G U)];rw[e3,show found.map pq++[pD R C]=(found++[(R,C)]).map pq by rw[aN];rfl];refine hE (R,C) (S,D1) _ _ o.1 lR neR (zS.mono ?_ ?_) (by show S.length=_;rw[lS,lp])
 ·rw[lp,show 2*n+2*b+2*b+10=2*n+4*b+10 by omega];exact af _
 ·rw[lp];exact af _
def r8(n b:Nat):Nat->Nat×Nat
 | 0=>(n,b)
 | j+1=>(n+(2*(r8 n b j).1+4*(r8 n b j).2+10)*7+1,b+(2*(r8 n b j).2*7+1))
def LM(es:List Pl):Prop:=(∀ c∈es,Po.Fm c.1 c.2)/\∀ i c,es[i]? = some c->1<=i->GD c
def ir:SpB:=.of 1 (α:=List Pl×Nat×Nat) (λ(cs,n,b) ds=>ds=[cD cs]/\2<=cs.length/\cs.length<=3/\(∀ c∈cs,3<=c.1.length/\c.1.length<=7)/\(∃ c0 ts,cs=c0::ts/\Pc.Pz 20000 20000 c0.1 c0.2/\∀ c∈ts,Pc.Pz n b c.1 c.2)/\∀ j,j+2<=cs.length->(r8 n b j).1+(r8 n b j).2<=3900/\(r8 n b j).2<=2000)
 (λ(cs,n,b) d=>∃ es,d=cD es/\es.length=cs.length/\(∀ i:Nat,(es.getD i ([],1)).1.length=(cs.getD i ([],1)).1.length)/\LM es)
def jA:TSd:=(iq [1] (nY (gV 1)))
def mo:TSd:=dSq (kB [] 1 (jm 2 (dC (.int 0))))
 jA
def mr:TSd:=dSq (iN (iu (iB .Gt (jg 2) (dC (.int 1))))
 (dSq (mZ 3 2)
 (dSq (g7 [] (gNm 4) (gX iK (gU (gX iH (gU (gV 3) (gU (gZ .Sub (dB bLen bLen.mono (gU (dIx (gV 3) (dC (.int 0))) gW)) (dC (.int 1))) gW))) (gU (gX iH (gU (gV 3) (gU (dC (.int 0)) gW))) gW))))
 (dSq (kB [] 1 (gX g8 (gU (gX io (gU (gV 4) gW)) (gU (gV 3) gW))))
 (jh [] 2 (jq (dC (.int 1))) (gX g8 (gU (jm 2 (jq (dC (.int 1)))) (gU (gV 4) gW))))))))
 mo
def mt:TSd:=dSq (jn [] 2 (jF (gV 0)))
 mr
def nL:TSd:=dSq (jn [] 1 (ip gW))
 mt
theorem wx:∀ j,n<=(r8 n b j).1/\b<=(r8 n b j).2
 | 0=>⟨af _,af _⟩
 | j+1=>⟨by show n<=n+_+1;omega,by show b<=b+_;omega⟩
theorem kZ:Does 5 nL ir:=by
 rintro ds Q hn ⟨⟨cs,n,b⟩,⟨rfl,l2,l3,hl,⟨c0,ts,rfl,z0,zt⟩,hs⟩,q⟩;dsimp only at l2 l3 hl zt hs q;refine⟨aC _,λst=>∃(us found:List Pl) (l:Pl) (o3 o4:SD),st=[.val (cD (c0::ts)),.own (found.map pq),.own ((us++[l]).map pq),o3,o4]/\us=(c0::ts).take us.length/\us.length+1+found.length=(c0::ts).length/\l.1.length=((c0::ts).getD us.length ([],1)).1.length/\Po.Fm l.1 l.2/\(1<=us.length->Pc.Pz (r8 n b found.length).1 (r8 n b found.length).2 l.1 l.2)/\(∀ j d,found[j]? = some d->Po.Fm d.1 d.2/\GD d/\d.1.length=((c0::ts).getD (ts.length-j) ([],1)).1.length),λst=>match st with|[_,_,.own l,_,_]=>l.length|_=>0,?_,?_⟩
 ·obtain⟨us,l,e⟩:∃ us l,c0::ts=us++[l]:=⟨(c0::ts).dropLast,(c0::ts).getLast (by simp),(fw _).symm⟩;have lu:us.length+1=(c0::ts).length:=by rw[e,am];rfl
  have gl:(c0::ts)[us.length]? = some l:=by rw[e,ax (af _),bj];rfl
  have gm:l∈c0::ts:=aP gl;refine⟨us,[],l,.no,.no,by rw[← e];rfl,by rw[e,fE],by show us.length+1+0=_;omega,by rw[rQ gl],?_,λh1=>?_,λj d h=>by simp at h⟩
  ·rcases ao.mp gm with y|y
   ·rw[y];exact z0.fm
   ·exact (zt _ y).fm
  ·refine zt l ?_;obtain⟨i,hi⟩:∃ i,us.length=i+1:=⟨us.length-1,by omega⟩;rw[hi,cw] at gl;exact aP gl
 rintro _ ⟨us,found,l,o3,o4,rfl,eu,lu,ll,fl,zl,hf⟩;have lts:(c0::ts).length=ts.length+1:=rfl;have eL:((us++[l]).map pq).length=us.length+1:=by rw[aa,am];rfl
 refine yV (p:=(1:Int)<(((us++[l]).map pq).length:Nat)) (λcc=>?_) (λcc=>?_)
 ·rw[eL] at cc;obtain⟨vs,p,rfl⟩:∃ vs p,us=vs++[p]:=⟨us.dropLast,us.getLast (by rintro rfl;simp at cc),(fw _).symm⟩;have lv:(vs++[p]).length=vs.length+1:=by rw[am];rfl
  rw[lv] at eu lu ll zl cc;have gp:(c0::ts)[vs.length]? = some p:=by
   have e1:(vs++[p])[vs.length]? = some p:=by rw[ax (af _),bj];rfl
   rw[eu,eU,if_pos (by omega)] at e1;exact e1
  have ev:vs=(c0::ts).take vs.length:=by
   have e1:(vs++[p]).take vs.length=vs:=fE;rw[eu,List.take_take,dA (by omega)] at e1;exact e1.symm
  have mp:=aP gp;have zp:Pc.Pz 20000 20000 p.1 p.2/\(1<=vs.length->Pc.Pz n b p.1 p.2):=by
   refine⟨?_,λh1=>?_⟩
   ·have h39:=(hs 0 (by omega)).1;rcases ao.mp mp with y|y
    ·rw[y];exact z0
    ·exact (zt _ y).mono (by have:(r8 n b 0).1=n:=rfl;omega) (by have:(r8 n b 0).2=b:=rfl;omega)
   ·refine zt p ?_;obtain⟨i,hi⟩:∃ i,vs.length=i+1:=⟨vs.length-1,by omega⟩;rw[hi,cw] at gp;exact aP gp
  obtain⟨p3,p7⟩:=hl p mp;have lgl:(c0::ts)[vs.length+1]? = some ((c0::ts).getD (vs.length+1) ([],1)):=by
   rw[ah,ar (by omega)];rfl
  obtain⟨q3,q7⟩:=hl _ (aP lgl);rw[← ll] at q3 q7;obtain⟨h39,h20⟩:=hs found.length (by omega);have lp:p.1.length=((c0::ts).getD vs.length ([],1)).1.length:=by rw[rQ gp]
  rw[show vs++[p]++[l]=vs++[p,l] by simp];obtain⟨m,c,hm,hc,zp',hmc⟩:∃ m c:Nat,m<=30000/\c<=30000/\Pc.Pz m c p.1 p.2/\(1<=vs.length->m=n/\c=b):=by
   by_cases hv:1<=vs.length
   ·exact⟨n,b,by have:=(wx (n:=n) (b:=b) found.length).1;omega,by have:=(wx (n:=n) (b:=b) found.length).2;omega,zp.2 hv,λ_=>⟨rfl,rfl⟩⟩
   ·exact⟨20000,20000,by decide,by decide,zp.1,λh=>absurd h hv⟩
  refine Bw (dl:=l.1.length-1) (dp:=p.1.length-1) (zl (by omega)) (by omega) (by omega) (by omega) zp' (by omega) (by omega) (by omega) h39 h20 hm hc (by omega) (by omega) λd p' o3 o4 fd ld nd zp2 lp'=>⟨⟨vs,found++[d],p',o3,o4,rfl,ev,by rw[am];show vs.length+1+(found.length+1)=_;omega,by rw[lp',← lp];omega,zp2.fm,λh1=>?_,λj e hj=>?_⟩,?_⟩
  ·obtain⟨rfl,rfl⟩:=hmc h1;rw[am];refine zp2.mono ?_ ?_
   ·show _<=m+(2*(r8 m c found.length).1+4*(r8 m c found.length).2+10)*7+1;have:(2*(r8 m c found.length).1+4*(r8 m c found.length).2+10)*(p.1.length-1+1)<=(2*(r8 m c found.length).1+4*(r8 m c found.length).2+10)*7:=au _ (by omega);omega
   ·show _<=c+(2*(r8 m c found.length).2*7+1);have:2*(r8 m c found.length).2*(p.1.length-1+1)<=2*(r8 m c found.length).2*7:=au _ (by omega);omega
  ·rcases aD j found.length with y|y
   ·rw[aR y] at hj;exact hf j e hj
   ·have ej:j=found.length:=by
     have:=(ai.mp hj).1;rw[am] at this;simp at this;omega
    subst ej;rw[ax (af _),bj] at hj;cases hj;refine⟨fd,nd,?_⟩;rw[ld,show ts.length-found.length=vs.length+1 by omega,← ll];omega
  ·show ((vs++[p']).map pq).length<((vs++[p,l]).map pq).length;simp
 ·rw[eL] at cc;have u0:us=[]:=bM.mp (by omega);subst u0;have lu:0+1+found.length=(c0::ts).length:=lu;show itD (([]++[l]:List Pl).map pq) ((0:Nat):Int) (λd=>(found.map pq).length<sizeLine/\jA.run (rB Q) [.val (cD (c0::ts)),.own (found.map pq++[d]),.own (([]++[l]:List Pl).map pq),o3,o4]);refine rA (n:=0) (d:=pq l) rfl ⟨(congrArg (· < sizeLine) (aa _)).mpr (by rw[sizeLine_eq];omega),⟨_,rfl,?_⟩⟩;have e1:found.map pq++[pq l]=(found++[l]).map pq:=by rw[aN];rfl
  show Q (.tup (found.map pq++[pq l]).reverse);rw[e1,← gS];have lfl:(found++[l]).length=found.length+1:=by rw[am];rfl
  have key:∀ i (d:Pl),(found++[l]).reverse[i]? = some d->Po.Fm d.1 d.2/\(1<=i->GD d)/\d.1.length=((c0::ts).getD i ([],1)).1.length:=λi d hd=>by
   have hi:=(ai.mp hd).1;rw[aM,lfl] at hi;rw[bJ (by rw[lfl];exact hi),lfl] at hd;rcases cF i with y|y
   ·subst y;rw[bD,aL,ax (af _),bj] at hd;cases hd;exact⟨fl,λh=>absurd h (by decide),ll⟩
   ·rw[aR (by omega)] at hd;obtain⟨a1,a2,a3⟩:=hf _ d hd;refine⟨a1,λ_=>a2,?_⟩;rw[a3];congr 3;omega
  refine q _ ⟨(found++[l]).reverse,rfl,by rw[aM,lfl];omega,λi=>?_,⟨λc hc=>?_,λi c hc hi=>(key i c hc).2.1 hi⟩⟩
  ·rcases aD i (found.length+1) with y|y
   ·have e2:(found++[l]).reverse[i]? = some ((found++[l]).reverse[i]'(by rw[aM,lfl];exact y)):=ar _;rw[rQ e2];exact (key i _ e2).2.2
   ·rw[qE (by rw[aM,lfl];exact y),qE (by omega)]
  ·obtain⟨i,hi⟩:=bI.mp hc;exact (key i c hi).1
theorem vK(h0:0<=i)(h1:i<(l.length:Int))(h:∀ d∈l,Q d):itD l i Q:=by
 obtain⟨n,rfl⟩:=bo h0;have hn:n<l.length:=by omega
 exact rA (ar hn) (h _ (e8 hn))
theorem CF(fP:Po.Fm P B)(lP:P.length=d+1)(fR:Po.Fm R C)(h:∀ j,R.getD j 0*B^k=Pc.cp (Cv.fn P) k j*C):R.length=k*d+1:=by
 have hg:∀ j,d<j->Cv.fn P j=0:=λj hj=>Cv.qF (by omega);have Bk:B^k≠0:=bB (aq fP.pos);have tp:=rO fP lP;have up:R.length<=k*d+1:=Pc.qP fR (bH fP.pos:0<B^k) h λj hj=>Pc.vo (m:=d+1) (λk hk=>hg k (by omega)) k j (by show k*d+1<=j;exact hj);rcases aD (k*d) R.length with c|c
 ·omega
 ·exfalso;have e:=h (k*d);rw[qE c,ay,Pc.vW hg] at e;exact bC (bB (show Cv.fn P d≠0 from tp)) (aq fR.pos) e.symm
theorem GM(fP:Po.Fm P B)(lP:P.length=a+1)(fQ:Po.Fm Q C)(lQ:Q.length=b+1)(fR:Po.Fm R E)(h:∀ k,R.getD k 0*(B*C)=Cv.cv (Cv.fn P) (Cv.fn Q) k*E):R.length=a+b+1:=by
 have hP:∀ j,a<j->Cv.fn P j=0:=λj hj=>Cv.qF (by omega);have hQ:∀ j,b<j->Cv.fn Q j=0:=λj hj=>Cv.qF (by omega);have p:=aA fP.pos fQ.pos;have up:R.length<=a+b+1:=Pc.qP fR p h λj hj=>Cv.rP (a:=a+1) (b:=b+1) (λj h=>hP j h) (λj h=>hQ j h) (by omega);rcases aD (a+b) R.length with c|c
 ·omega
 ·exfalso;have e:=h (a+b);rw[qE c,ay,Pc.Ac hP hQ] at e;exact bC (bC (show Cv.fn P a≠0 from rO fP lP) (show Cv.fn Q b≠0 from rO fQ lQ)) (aq fR.pos) e.symm
theorem cX(hm:m<=6)(q:∀ R C,Pc.Pz 61 7 R C->R.length=m+1->Q (pD R C)):[pD Pc.X 1,.int (m:Int)].length=il.n/\il.run [pD Pc.X 1,.int (m:Int)] Q:=by
 refine⟨rfl,(Pc.X,1,m,1,1),⟨rfl,Pc.Eb,by show m*2<=400;omega,by show m<=400;omega,by decide,by show 1*m+1+1<=9000000;omega,by show (1+9)*m+1+1<=9000000;omega⟩,?_⟩;rintro _ ⟨R,C,rfl,hR,zR,_⟩;have lR:=CF (d:=1) Pc.Eb.fm rfl zR.fm hR;exact q R C (zR.mono (by show (1+9)*m+1<=61;omega) (by show 1*m+1<=7;omega)) (by rw[lR,dM])
theorem cH(z:Pc.Pz 2 3 P B)(lP:P.length=d+1)(hk:k<=5)(hd:d<=5)(q:∀ R C,Pc.Pz 56 16 R C->R.length=k*d+1->Q (pD R C)):[pD P B,.int (k:Int)].length=il.n/\il.run [pD P B,.int (k:Int)] Q:=by
 have kl:k*P.length<=5*6:=bA hk (by omega);refine⟨rfl,(P,B,k,2,3),⟨rfl,z,by show k*P.length<=400;omega,by show k<=400;omega,by show P.length<=400;omega,by show 3*k+1+3<=9000000;omega,by show (2+9)*k+1+2<=9000000;omega⟩,?_⟩;rintro _ ⟨R,C,rfl,hR,zR,_⟩;have lR:=CF z.fm lP zR.fm hR;exact q R C (zR.mono (by show (2+9)*k+1<=56;omega) (by show 3*k+1<=16;omega)) lR
theorem cT(z:Pc.Pz n b P B)(z':Pc.Pz m c P' B')(l:P.length=x+1)(l':P'.length=y+1)(hx:x<=10)(hy:y<=10)(h1:b+c<=300)(h2:n+m<=390)(q:∀ R C,Pc.Pz 400 300 R C->R.length=x+y+1->Q (pD R C)):[pD P B,pD P' B'].length=hJ.n/\hJ.run [pD P B,pD P' B'] Q:=by
 refine⟨rfl,(P,B,P',B',n,b,m,c),⟨rfl,z,z',by show b+c<=9000000;omega,by show n+m<=9000000;omega,by show P.length<=450;omega,by show P'.length<=450;omega⟩,?_⟩;rintro _ ⟨R,C,rfl,fR,hR⟩;refine q R C (Pc.Pz.of fR (aA z.fm.pos z'.fm.pos) hR (λk=>?_) ((z.bot.mul z'.bot).mono (by omega))) (GM z.fm l z'.fm l' fR hR);rcases aD k 31 with y|y
 ·exact (Cv.DP (b:=5) z.tops z'.tops (by omega)).mono (by omega)
 ·rw[Cv.rP (a:=x+1) (b:=11) (λj h=>Cv.qF (by omega)) (λj h=>Cv.qF (by omega)) (by omega)];exact va _
def El(P:List Int)(B:Int):Prop:=Pc.Pz 8 4 P B/\P.length=2/\P.getD 1 0≠0
theorem cA(z:Pc.Pz n b A α)(lA:A.length=d+1)(d2:2<=d)(d6:d<=6)(h1:n<=3000)(h2:b<=3000)(s1:El L1 B1)(s2:El L2 B2)(q:∀ R C,Pc.Pz 20000 20000 R C->R.length=d+1->Q (pD R C)):[pD A α,pD L2 B2].length=g8.n/\g8.run [pD A α,pD L2 B2] λe=>[pD L1 B1,e].length=g8.n/\g8.run [pD L1 B1,e] Q:=by
 obtain⟨z1,l1,n1⟩:=s1;obtain⟨z2,l2,n2⟩:=s2;refine⟨rfl,(A,α,L2,B2,n,b,8,4),⟨rfl,z,z2,by show b+b+4*A.length<=8900000;omega,by show n+(8+4+10)*(A.length+1)<=4000000;omega,by show A.length*L2.length<=190;rw[l2];omega,by show A.length<=190;omega,by show L2.length<=190;omega⟩,?_⟩;rintro _ ⟨S,D1,rfl,o⟩;have o:Pc.Of A α L2 B2 S D1:=o;obtain⟨lS,_⟩:=sN z.fm z2.fm l2 n2 (by omega) o;have zS:=(o.size z z2 (by rw[l2];omega)).mono (n':=n+180) (b':=b+40) (by omega) (by omega);refine⟨rfl,(L1,B1,S,D1,8,4,n+180,b+40),⟨rfl,z1,zS,by show 4+4+(b+40)*L1.length<=8900000;rw[l1];omega,by show 8+(n+180+(b+40)+10)*(L1.length+1)<=4000000;rw[l1];omega,by show L1.length*S.length<=190;rw[l1];omega,by show L1.length<=190;omega,by show S.length<=190;omega⟩,?_⟩;rintro _ ⟨R,C,rfl,o'⟩;have o':Pc.Of L1 B1 S D1 R C:=o';obtain⟨lR,_⟩:=ua l1 n1 z1.fm zS.fm (by omega) o';have zR:=o'.size z1 zS (by rw[l1];omega);rw[l1] at zR;exact q R C (zR.mono (by omega) (by omega)) (by rw[lR,lS,lA])
theorem cB(z:Pc.Pz n b A α)(lA:A.length=d+1)(d2:2<=d)(d6:d<=6)(h1:n<=400)(h2:b<=300)(s2:El L2 B2)(s3:El L3 B3)(q:∀ R C,Pc.Pz 2000 800 R C->R.length=d+1->Q (pD R C)):[pD L2 B2].length=io.n/\io.run [pD L2 B2] λe0=>[pD A α,pD L3 B3].length=g8.n/\g8.run [pD A α,pD L3 B3] λe=>[e0,e].length=g8.n/\g8.run [e0,e] Q:=by
 obtain⟨z1,l1,n1⟩:=s2;obtain⟨z2,l2,n2⟩:=s3;refine⟨rfl,(L2,B2,8,4),⟨rfl,z1,l1,n1,by decide,by decide⟩,?_⟩;rintro _ ⟨T,τ,rfl,zT,lT,t1,t0⟩;have zT:Pc.Pz 13 8 T τ:=zT;have lT:T.length<=2:=lT;have t1:Qp.q T τ 1=1 / Qp.q L2 B2 1:=t1;have q1:Qp.q L2 B2 1≠0:=by
  have:=Qp.s9 z1.fm (by intro e;rw[e] at l1;simp at l1);rw[l1] at this;exact this
 obtain⟨lT,nT⟩:=y9 (by rw[t1];exact zD q1) lT;refine⟨rfl,(A,α,L3,B3,n,b,8,4),⟨rfl,z,z2,by show b+b+4*A.length<=8900000;omega,by show n+(8+4+10)*(A.length+1)<=4000000;omega,by show A.length*L3.length<=190;rw[l2];omega,by show A.length<=190;omega,by show L3.length<=190;omega⟩,?_⟩;rintro _ ⟨S,D1,rfl,o⟩;have o:Pc.Of A α L3 B3 S D1:=o;obtain⟨lS,_⟩:=sN z.fm z2.fm l2 n2 (by omega) o;have zS:=(o.size z z2 (by rw[l2];omega)).mono (n':=n+180) (b':=b+40) (by omega) (by omega);refine⟨rfl,(T,τ,S,D1,13,8,n+180,b+40),⟨rfl,zT,zS,by show 8+8+(b+40)*T.length<=8900000;rw[lT];omega,by show 13+(n+180+(b+40)+10)*(T.length+1)<=4000000;rw[lT];omega,by show T.length*S.length<=190;rw[lT];omega,by show T.length<=190;omega,by show S.length<=190;omega⟩,?_⟩;rintro _ ⟨R,C,rfl,o'⟩;have o':Pc.Of T τ S D1 R C:=o';obtain⟨lR,_⟩:=ua lT nT zT.fm zS.fm (by omega) o';have zR:=o'.size zT zS (by rw[lT];omega);rw[lT] at zR;exact q R C (zR.mono (by omega) (by omega)) (by rw[lR,lS,lA])
theorem c3(h:∀(i:Nat) (d:D),(uE 0 3)[i]? = some d->g.run d s0 λs1=>e.run s1 λy=>∃ P B,y=pD P B/\El P B)(q:∀ P1 B1 P2 B2 P3 B3,El P1 B1->El P2 B2->El P3 B3->Q (.lst [pD P1 B1,pD P2 B2,pD P3 B3])):compD (uE 0 3) s0 g ju e Q:=by
 refine sO (λ_ y=>∃ P B,y=pD P B/\El P B) (by rw[qU];decide) h λys ly hy=>?_;rw[qU] at ly;match ys,ly,hy with
 | [y1,y2,y3],_,hy =>
  obtain⟨P1,B1,rfl,s1⟩:=hy 0 y1 rfl;obtain⟨P2,B2,rfl,s2⟩:=hy 1 y2 rfl;obtain⟨P3,B3,rfl,s3⟩:=hy 2 y3 rfl;exact q _ _ _ _ _ _ s1 s2 s3
theorem Kx(q:∀ P B,El P B->Q (pD P B)):[D.fl,.int 3].length=g9.n/\g9.run [.fl,.int 3] Q:=by
 refine⟨rfl,(3,2),⟨rfl,by decide,by unfold Lt2;decide,by decide,by decide⟩,?_⟩;rintro _ ⟨P,B,rfl,z,l,n⟩;exact q P B ⟨z,l,n⟩
def jV:SpB:=.of 2 (α:=Unit) (λ_ ds=>ds=[.fl,.int 3]) (λ_ d=>∃ A α B β,∃ m k:Nat,∃ w:D,d = .tup [pD A α,pD B β,w]/\Pc.Pz 20000 20000 A α/\Pc.Pz 2000 800 B β/\A.length=m+1/\B.length=k+1/\2<=m/\m<=6/\2<=k/\k<=6/\m*k<=12)
def jB:TSd:=(iq [] (ic (gU (gX g8 (gU (gV 12) (gU (gX g8 (gU (gV 5) (gU (gV 13) gW))) gW))) (gU (gX g8 (gU (gX io (gU (gV 13) gW)) (gU (gX g8 (gU (gV 6) (gU (gV 14) gW))) gW))) (gU (gV 4) gW)))))
def iZ:TSd:=dSq (g7 [] (gTl [12,13,14]) (iI (jt (dC (.int 3))) [11] (gNm 11) ju (gX g9 (gU (gV 0) (gU (gV 1) gW)))))
 jB
def mw:TSd:=dSq (dIf [] (iu (iB .Eq (gV 4) (dC (.int 0))))
 (dSq (g7 [] (gNm 7) (gX hZ (gU (gV 0) (gU (gX gY (gU (gV 0) (gU (gZ .Add (gZ .FloorDiv (gV 2) (gV 3)) (dC (.int 1))) gW))) (gU (gV 1) gW)))))
 (dSq (g7 [] (gNm 8) (gZ .Sub (gV 2) (gZ .Mult (gV 3) (gZ .Sub (dB bLen bLen.mono (gU (dIx (gV 7) (dC (.int 0))) gW)) (dC (.int 1))))))
 (g7 [] (gNm 5) (gX hJ (gU (gX il (gU (ic (gU (ic (gU (dC (.int 0)) (gU (dC (.int 1)) gW))) (gU (dC (.int 1)) gW))) (gU (gV 8) gW))) (gU (gX il (gU (gV 7) (gU (gV 3) gW))) gW))))))
 (dIf [] (iu (iB .Eq (gV 4) (dC (.int 1))))
 (dSq (g7 [] (gNm 7) (gX hZ (gU (gV 0) (gU (gX gY (gU (gV 0) (gU (gZ .Add (gZ .FloorDiv (gV 3) (gV 2)) (dC (.int 1))) gW))) (gU (gV 1) gW)))))
 (dSq (g7 [] (gNm 8) (gZ .Sub (gV 3) (gZ .Mult (gV 2) (gZ .Sub (dB bLen bLen.mono (gU (dIx (gV 7) (dC (.int 0))) gW)) (dC (.int 1))))))
 (g7 [] (gNm 6) (gX hJ (gU (gX il (gU (ic (gU (ic (gU (dC (.int 0)) (gU (dC (.int 1)) gW))) (gU (dC (.int 1)) gW))) (gU (gV 8) gW))) (gU (gX g8 (gU (gV 7) (gU (gV 5) gW))) gW))))))
 (dSq (g7 [] (gNm 9) (gX ij (gU (gV 0) (gU (gV 1) gW))))
 (dSq (g7 [] (gNm 9) (dIx (ip (gU (gV 9) (gU (ic (gU (dC (.int 1)) (gU (dC (.int 1)) gW))) gW))) (dB bInt bInt.mono (gU (iB .Eq (dIx (gV 9) (dC (.int 0))) (dC (.int 0))) gW))))
 (dSq (g7 [] (gNm 10) (ic (gU (dC (.int 1)) (gU (dC (.int 1)) gW))))
 (dSq (iO [] (jt (gV 3)) (gNm 11)
 (g7 [] (gNm 10) (gX iy (gU (gV 10) (gU (gV 9) gW)))))
 (mH [] 5 6 (gX ia (gU (gV 2) (gU (gV 10) gW))) (gX ia (gU (gV 3) (gU (gV 9) gW))))))))))
 iZ
def mx:TSd:=dSq (mH [] 5 6 (gX il (gU (ic (gU (ic (gU (dC (.int 0)) (gU (dC (.int 1)) gW))) (gU (dC (.int 1)) gW))) (gU (gV 2) gW))) (gX il (gU (ic (gU (ic (gU (dC (.int 0)) (gU (dC (.int 1)) gW))) (gU (dC (.int 1)) gW))) (gU (gV 3) gW))))
 mw
def i4:TSd:=dSq (g7 [] (gNm 4) (gX gY (gU (gV 0) (gU (dC (.int 3)) gW))))
 mx
def nM:TSd:=dSq (g7 [] (gTp [2,3]) (dIx (ip (gU (ic (gU (dC (.int 3)) (gU (dC (.int 2)) gW))) (gU (ic (gU (dC (.int 2)) (gU (dC (.int 3)) gW))) (gU (ic (gU (dC (.int 5)) (gU (dC (.int 2)) gW))) (gU (ic (gU (dC (.int 2)) (gU (dC (.int 5)) gW))) (gU (ic (gU (dC (.int 4)) (gU (dC (.int 3)) gW))) (gU (ic (gU (dC (.int 3)) (gU (dC (.int 4)) gW))) gW))))))) (gX gY (gU (gV 0) (gU (dC (.int 6)) gW)))))
 i4
theorem C4(zA:Pc.Pz 400 300 A α)(zB:Pc.Pz 400 300 Bq β)(lA:A.length=m+1)(lB:Bq.length=k+1)(m2:2<=m)(m6:m<=6)(k2:2<=k)(k6:k<=6)
  (q:∀ R C S D,Pc.Pz 20000 20000 R C->Pc.Pz 2000 800 S D->R.length=m+1->S.length=k+1->Q (.tup [pD R C,pD S D,w])) :
  iZ.run (rB Q) [.val .fl,.val (.int 3),.val (.int m),.val (.int k),.val w,.val (pD A α),.val (pD Bq β),o7,o8,o9,o10,o11,.no,.no,.no]:=by
 have key:compD (uE 0 3) (rY [11] [.val .fl,.val (.int 3),.val (.int m),.val (.int k),.val w,.val (pD A α),.val (pD Bq β),o7,o8,o9,o10,o11,.no,.no,.no]) (gNm 11) ju (gX g9 (gU (gV 0) (gU (gV 1) gW))) λd=>(gTl [12,13,14]).run d [.val .fl,.val (.int 3),.val (.int m),.val (.int k),.val w,.val (pD A α),.val (pD Bq β),o7,o8,o9,o10,o11,.no,.no,.no] (jB.run (rB Q)):=by
  refine c3 (λi d hd=>Kx λP B s=>⟨P,B,rfl,s⟩) λP1 B1 P2 B2 P3 B3 s1 s2 s3=>⟨rfl,?_⟩;refine cA zA lA m2 m6 (by decide) (by decide) s1 s2 λR C zR lR=>?_;exact cB zB lB k2 k6 (by decide) (by decide) s2 s3 λS D zS lS=>⟨sE (n:=3) (by decide),q R C S D zR zS lR lS⟩
 exact⟨by decide,by decide,key⟩
theorem Me(q:∀ d r,FqD 2 2 d r->Q d):[D.fl,.int 3].length=ij.n/\ij.run [.fl,.int 3] Q:=by
 refine⟨rfl,(3,2),⟨rfl,by decide,by unfold Lt2;decide,by decide,by decide⟩,?_⟩;rintro d ⟨r,f⟩;exact q d r f
theorem Lw{d1 d2:D}{r1 r2:Rat}{i M:Nat}(f1:FqD (1+M*i) (1+M*i) d1 r1)(f2:FqD M M d2 r2)(hi:i<=20)(hM:M<=40){Q:D->Prop}(q:∀ d r,FqD (1+M*(i+1)) (1+M*(i+1)) d r->Q d):[d1,d2].length=iy.n/\iy.run [d1,d2] Q:=by
 have h:M*i<=40*20:=bA hM hi;refine⟨rfl,(d1,d2,r1,r2,1+M*i,1+M*i,M,M),⟨rfl,f1,f2,by show 1+M*i+M<=9000000;omega,by show 1+M*i+M<=9000000;omega⟩,?_⟩;intro d f;have f:FqD (1+M*i+M) (1+M*i+M) d (r1*r2):=f;exact q d _ (by rw[cq,← cV];exact f)
theorem Ku(hn:1<=n)(hb:1<=b):FqD n b (fD 1 1) 1:=by
 have:=uP (n:=1) (t:=1) (by unfold Lt2;decide);exact this.mono hn hb
theorem tI(r:Rat):∀ n,Qp.tc r (n+1) (n+1)=1/\∀ k,n+1<k->Qp.tc r (n+1) k=0
 | 0=>⟨by show (if 1=1 then (1:Rat) else 0)=1;rw[if_pos rfl],λk hk=>by show (if k=1 then (1:Rat) else 0)=0;rw[if_neg (by omega)]⟩
 | 1=>by
  obtain⟨h1,h2⟩:=tI r 0;have z:∀ k,1<=k->Qp.tc r 0 k=0:=λk hk=>by show (if k=0 then (2:Rat) else 0)=0;rw[if_neg (by omega)]
  refine⟨?_,λk hk=>?_⟩
  ·rw[Qp.tc.two,if_neg (by omega),z 2 (by omega),show 0+1+1-1=0+1 from rfl,h1];grind
  ·rw[Qp.tc.two,if_neg (by omega),z k (by omega),h2 (k-1) (by omega)];grind
 | n+2=>by
  obtain⟨h1,h2⟩:=tI r (n+1);obtain⟨h3,h4⟩:=tI r n;refine⟨?_,λk hk=>?_⟩
  ·rw[Qp.tc.two,if_neg (by omega),h4 (n+2+1) (by omega),show n+2+1-1=n+1+1 from rfl,h1];grind
  ·rw[Qp.tc.two,if_neg (by omega),h4 k (by omega),h2 (k-1) (by omega)];grind
theorem Fj(f:Po.Fm R C)(h:Qp.q R C N≠0)(h0:∀ j,N<j->Qp.q R C j=0):R.length=N+1:=by
 rcases aD N R.length with c|c
 ·rcases aD (N+1) R.length with c'|c'
  ·exact absurd (h0 (R.length-1) (by omega)) (Qp.s9 f (by rintro rfl;simp at c))
  ·omega
 ·exact absurd (Qp.s8 c) h
theorem Tk.len45(h:Tk r n P B)(n1:1<=n):P.length=n+1:=by
 obtain⟨j,rfl⟩:∃ j,n=j+1:=⟨n-1,by omega⟩;obtain⟨h1,h2⟩:=tI r j;exact Fj h.1 (by rw[h.2,h1];decide) λk hk=>by rw[h.2,h2 k hk]
theorem Kw(f:FqD M M d r)(hM:M<=13)(n2:2<=n)(n6:n<=6)(q:∀ P B,Pc.Pz 400 300 P B->P.length=n+1->Q (pD P B)):[.int (n:Int),d].length=ia.n/\ia.run [.int (n:Int),d] Q:=by
 refine⟨rfl,(n,d,r,M),⟨rfl,f,by show M<=21;omega,by show 1<=n;omega,by show n<=12;omega⟩,?_⟩;rintro _ ⟨P,B,rfl,t⟩;have t:Tk r n P B:=t;obtain⟨z,_⟩:=t.pz f;have h1:(2*M+1)*n<=27*6:=bA (by omega) n6;have h2:M*n<=13*6:=bA hM n6;exact q P B (z.mono (by omega) (by omega)) (t.len45 (by omega))
theorem J6{m k:Nat}(k1:1<=k):((m:Int)).fdiv (k:Int)=((m / k:Nat):Int):=by
 rw[dH _ (by omega)];exact (Int.natCast_ediv _ _).symm
theorem Kd(m5:m<=5)(k2:2<=k)(k5:k<=5)(q:∀ P B,∀ d:Nat,Pc.Pz 2 3 P B->P.length=d+1->d*k<=m->d<=5->Q (pD P B)):u9 (m:Int) (k:Int)/\[D.fl,.int ((m:Int).fdiv (k:Int)+1)].length=gY.n/\gY.run [D.fl,.int ((m:Int).fdiv (k:Int)+1)] λe=>[.fl,e,.int 3].length=hZ.n/\hZ.run [.fl,e,.int 3] Q:=by
 have lk:Lt2 4 ((k:Nat):Int):=by unfold Lt2;omega
 have em:=J6 (m:=m) (k:=k) (by omega);have le:m / k<=m:=Nat.div_le_self _ _;have mul:m / k*k<=m:=Nat.div_mul_le_self m k;rw[em];generalize m / k=z at *;refine⟨⟨by omega,4,lk,by decide⟩,rfl,((z:Int)+1),⟨rfl,by omega,xG (by omega)⟩,?_⟩;rintro _ ⟨dd,rfl,d0,d1⟩;obtain⟨d,rfl⟩:=bo d0;have dk:d*k<=m:=aZ (bg k (show d<=z by omega)) mul;refine⟨rfl,(d,3,2),⟨rfl,by show d<=100;omega,by decide,by unfold Lt2;decide,by decide⟩,?_⟩;rintro _ ⟨P,B,rfl,zP,lP⟩;exact q P B d zP lP dk (by omega)
theorem Md{m k d:Nat}{P:List Int}(k5:k<=5)(lP:P.length=d+1)(dk:d*k<=m)(d5:d<=5):CMulB (k:Int) ((((P.map D.int).length:Nat):Int)-1)/\(m:Int)-(k:Int)*((((P.map D.int).length:Nat):Int)-1)=((m-d*k:Nat):Int):=by
 have lk:Lt2 4 ((k:Nat):Int):=by unfold Lt2;omega
 rw[aa,lP];refine⟨⟨4,4,lk,by unfold Lt2;omega,by decide⟩,?_⟩;have:(k:Int)*(((d+1:Nat):Int)-1)=((d*k:Nat):Int):=by
  rw[show ((d+1:Nat):Int)-1=(d:Int) by omega];push_cast;exact bK _ _
 rw[this];omega
def nN:TSd:=(g7 [] (gNm 5) (gX hJ (gU (gX il (gU (ic (gU (ic (gU (dC (.int 0)) (gU (dC (.int 1)) gW))) (gU (dC (.int 1)) gW))) (gU (gV 8) gW))) (gU (gX il (gU (gV 7) (gU (gV 3) gW))) gW))))
def pZ:TSd:=dSq (g7 [] (gNm 8) (gZ .Sub (gV 2) (gZ .Mult (gV 3) (gZ .Sub (dB bLen bLen.mono (gU (dIx (gV 7) (dC (.int 0))) gW)) (dC (.int 1))))))
 nN
def qu:TSd:=dSq (g7 [] (gNm 7) (gX hZ (gU (gV 0) (gU (gX gY (gU (gV 0) (gU (gZ .Add (gZ .FloorDiv (gV 2) (gV 3)) (dC (.int 1))) gW))) (gU (gV 1) gW)))))
 pZ
def nP:TSd:=(g7 [] (gNm 6) (gX hJ (gU (gX il (gU (ic (gU (ic (gU (dC (.int 0)) (gU (dC (.int 1)) gW))) (gU (dC (.int 1)) gW))) (gU (gV 8) gW))) (gU (gX g8 (gU (gV 7) (gU (gV 5) gW))) gW))))
def p8:TSd:=dSq (g7 [] (gNm 8) (gZ .Sub (gV 3) (gZ .Mult (gV 2) (gZ .Sub (dB bLen bLen.mono (gU (dIx (gV 7) (dC (.int 0))) gW)) (dC (.int 1))))))
 nP
def qv:TSd:=dSq (g7 [] (gNm 7) (gX hZ (gU (gV 0) (gU (gX gY (gU (gV 0) (gU (gZ .Add (gZ .FloorDiv (gV 3) (gV 2)) (dC (.int 1))) gW))) (gU (gV 1) gW)))))
 p8
def p9:TSd:=(mH [] 5 6 (gX ia (gU (gV 2) (gU (gV 10) gW))) (gX ia (gU (gV 3) (gU (gV 9) gW))))
def qd:TSd:=dSq (iO [] (jt (gV 3)) (gNm 11)
 (g7 [] (gNm 10) (gX iy (gU (gV 10) (gU (gV 9) gW)))))
 p9
def oK:TSd:=dSq (g7 [] (gNm 10) (ic (gU (dC (.int 1)) (gU (dC (.int 1)) gW))))
 qd
def qf:TSd:=dSq (g7 [] (gNm 9) (dIx (ip (gU (gV 9) (gU (ic (gU (dC (.int 1)) (gU (dC (.int 1)) gW))) gW))) (dB bInt bInt.mono (gU (iB .Eq (dIx (gV 9) (dC (.int 0))) (dC (.int 0))) gW))))
 oK
def qw:TSd:=dSq (g7 [] (gNm 9) (gX ij (gU (gV 0) (gU (gV 1) gW))))
 qf
section
variable{m k:Nat}{A0 B0:List Int}{α0 β0:Int}{w:D}{E:EndsD}
theorem La(m5:m<=5)(k2:2<=k)(k5:k<=5)(hE:∀ A α o7 o8,Pc.Pz 400 300 A α->A.length=m+1->E.nx [.val .fl,.val (.int 3),.val (.int m),.val (.int k),.val w,.val (pD A α),.val (pD B0 β0),o7,o8,.no,.no,.no,.no,.no,.no]) :
  qu.run E [.val .fl,.val (.int 3),.val (.int m),.val (.int k),.val w,.val (pD A0 α0),.val (pD B0 β0),.no,.no,.no,.no,.no,.no,.no,.no]:=by
 refine Kd m5 k2 k5 λP B d zP lP dk d5=>?_;obtain⟨c1,er⟩:=Md k5 lP dk d5;refine⟨c1,?_⟩;suffices h:nN.run E [.val .fl,.val (.int 3),.val (.int m),.val (.int k),.val w,.val (pD A0 α0),.val (pD B0 β0),.val (pD P B),.val (.int ((m-d*k:Nat):Int)),.no,.no,.no,.no,.no,.no] by
  show nN.run E [.val .fl,.val (.int 3),.val (.int m),.val (.int k),.val w,.val (pD A0 α0),.val (pD B0 β0),.val (pD P B),.val (.int ((m:Int)-(k:Int)*((((P.map D.int).length:Nat):Int)-1))),.no,.no,.no,.no,.no,.no];rw[er];exact h
 refine⟨rM,rM,cX (m:=m-d*k) (by omega) λR C zR lR=>cH zP lP k5 d5 λS D' zS lS=>?_⟩;have kd:k*d<=5:=by rw[aS];omega
 exact cT zR zS lR lS (by omega) (by omega) (by decide) (by decide) λA α zA lA=>hE A α _ _ zA (by rw[lA,aS k d];omega)
theorem K9(m2:2<=m)(m5:m<=5)(k5:k<=5)(zA:Pc.Pz 61 7 A0 α0)(lA:A0.length=m+1)(hE:∀ A α o7 o8,Pc.Pz 400 300 A α->A.length=k+1->E.nx [.val .fl,.val (.int 3),.val (.int m),.val (.int k),.val w,.val (pD A0 α0),.val (pD A α),o7,o8,.no,.no,.no,.no,.no,.no]) :
  qv.run E [.val .fl,.val (.int 3),.val (.int m),.val (.int k),.val w,.val (pD A0 α0),.val (pD B0 β0),.no,.no,.no,.no,.no,.no,.no,.no]:=by
 refine Kd k5 m2 m5 λP B d zP lP dk d5=>?_;obtain⟨c1,er⟩:=Md m5 lP dk d5;refine⟨c1,?_⟩;suffices h:nP.run E [.val .fl,.val (.int 3),.val (.int m),.val (.int k),.val w,.val (pD A0 α0),.val (pD B0 β0),.val (pD P B),.val (.int ((k-d*m:Nat):Int)),.no,.no,.no,.no,.no,.no] by
  show nP.run E [.val .fl,.val (.int 3),.val (.int m),.val (.int k),.val w,.val (pD A0 α0),.val (pD B0 β0),.val (pD P B),.val (.int ((k:Int)-(m:Int)*((((P.map D.int).length:Nat):Int)-1))),.no,.no,.no,.no,.no,.no];rw[er];exact h
 have d2:d*2<=d*m:=au _ m2;refine⟨rM,rM,cX (m:=k-d*m) (by omega) λR C zR lR=>?_⟩;have w3:P.length*A0.length<=3*6:=bA (by omega) (by omega);refine⟨rfl,(P,B,A0,α0,2,3,61,7),⟨rfl,zP,zA,by show 3+3+7*P.length<=8900000;omega,by show 2+(61+7+10)*(P.length+1)<=4000000;omega,by show P.length*A0.length<=190;omega,by show P.length<=190;omega,by show A0.length<=190;omega⟩,?_⟩;rintro _ ⟨S,D1,rfl,o⟩;have o:Pc.Of P B A0 α0 S D1:=o;have lS:=o.deg_eq zP.fm.pos zA.fm.pos lP lA (by omega) (rO zP.fm lP) (rO zA.fm lA);have zS:=(o.size zP zA (by omega)).mono (n':=300) (b':=100) (by omega) (by omega);exact cT zR zS lR lS (by omega) (by omega) (by decide) (by decide) λA α zA' lA'=>hE A α _ _ zA' (by rw[lA'];omega)
theorem K8(m2:2<=m)(m5:m<=5)(k2:2<=k)(k5:k<=5)(hE:∀ A α Bq β o9 o10 o11,Pc.Pz 400 300 A α->A.length=m+1->Pc.Pz 400 300 Bq β->Bq.length=k+1->E.nx [.val .fl,.val (.int 3),.val (.int m),.val (.int k),.val w,.val (pD A α),.val (pD Bq β),.no,.no,o9,o10,o11,.no,.no,.no]) :
  qw.run E [.val .fl,.val (.int 3),.val (.int m),.val (.int k),.val w,.val (pD A0 α0),.val (pD B0 β0),.no,.no,.no,.no,.no,.no,.no,.no]:=by
 refine Me λd r f=>?_;have fin:∀(d:D) (r:Rat),FqD 2 2 d r->oK.run E [.val .fl,.val (.int 3),.val (.int m),.val (.int k),.val w,.val (pD A0 α0),.val (pD B0 β0),.no,.no,.val d,.no,.no,.no,.no,.no]:=λd r f=>by
  refine⟨rM,by omega,by omega,λi st=>∃(x:D) (r':Rat) (o11:SD),st=[.val .fl,.val (.int 3),.val (.int m),.val (.int k),.val w,.val (pD A0 α0),.val (pD B0 β0),.no,.no,.val d,.val x,o11,.no,.no,.no]/\FqD (1+2*i) (1+2*i) x r',⟨fD 1 1,1,_,rfl,Ku (by omega) (by omega)⟩,?_,?_⟩
  ·rintro i e _ hd ⟨x,r',o11,rfl,fx⟩;obtain⟨hi,rfl⟩:=rS hd;exact Lw fx f (by omega) (by decide) λx2 r2 f2=>⟨x2,r2,_,rfl,f2⟩
  ·rintro _ ⟨x,r',o11,rfl,fx⟩;rw[qU,aG] at fx;exact Kw fx (by omega) m2 (by omega) λA α zA lA=>Kw f (by decide) k2 (by omega) λBq β zB lB=>hE A α Bq β _ _ _ zA lA zB lB
 obtain⟨t,u,rfl,u0,g,lt,lu,rfl⟩:=id f;refine⟨rM,rM,zj (p:=t=0) (λc=>fin _ 1 (Ku (by decide) (by decide))) (λc=>fin _ _ f)⟩
end
theorem ET(m2:2<=m)(m5:m<=5)(k2:2<=k)(k5:k<=5)(q:∀ R C S D w,Pc.Pz 20000 20000 R C->Pc.Pz 2000 800 S D->R.length=m+1->S.length=k+1->Q (.tup [pD R C,pD S D,w])) :
  i4.run (rB Q) [.val .fl,.val (.int 3),.val (.int m),.val (.int k),.no,.no,.no,.no,.no,.no,.no,.no,.no,.no,.no]:=by
 refine⟨rfl,3,⟨rfl,by decide,xG (by decide)⟩,?_⟩;rintro _ ⟨w,rfl,w0,w1⟩;refine⟨rM,rM,cX (m:=m) (by omega) λA α zA lA=>⟨rM,rM,cX (m:=k) (by omega) λBq β zB lB=>?_⟩⟩;have fin:∀{A Bq:List Int} {α β:Int} {o7 o8 o9 o10 o11:SD},Pc.Pz 400 300 A α->Pc.Pz 400 300 Bq β->A.length=m+1->Bq.length=k+1->iZ.run (rB Q) [.val .fl,.val (.int 3),.val (.int m),.val (.int k),.val (.int w),.val (pD A α),.val (pD Bq β),o7,o8,o9,o10,o11,.no,.no,.no]:=λzA zB lA lB=>C4 zA zB lA lB m2 (by omega) k2 (by omega) λR C S D zR zS lR lS=>q R C S D _ zR zS lR lS;have zA4:=zA.mono (n':=400) (b':=300) (by decide) (by decide);have zB4:=zB.mono (n':=400) (b':=300) (by decide) (by decide);refine yV (p:=w=0) (λc=>?_) (λc=>yV (p:=w=1) (λc=>?_) (λc=>?_))
 ·exact La m5 k2 k5 λA' α' o7 o8 zA' lA'=>fin zA' zB4 lA' lB
 ·exact K9 m2 m5 k5 zA lA λA' α' o7 o8 zA' lA'=>fin zA4 zA' lA lA'
 ·exact K8 m2 m5 k2 k5 λA' α' B' β' o9 o10 o11 zA' lA' zB' lB'=>fin zA' zB' lA' lB'
theorem lj:Does 15 nM jV:=by
 rintro ds Q hn ⟨_,rfl,q⟩;have go:∀ m k:Nat,2<=m->m<=5->2<=k->k<=5->m*k<=12->i4.run (rB Q) [.val .fl,.val (.int 3),.val (.int m),.val (.int k),.no,.no,.no,.no,.no,.no,.no,.no,.no,.no,.no]:=λm k m2 m5 k2 k5 mk=>ET m2 m5 k2 k5 λR C S D w zR zS lR lS=>q _ ⟨R,C,S,D,m,k,w,rfl,zR,zS,lR,lS,m2,by omega,k2,by omega,mk⟩;refine⟨rM,rM,rM,rM,rM,rM,sE (n:=6) (by decide),rfl,6,⟨rfl,by decide,xG (by decide)⟩,?_⟩;rintro _ ⟨j,rfl,j0,j1⟩;refine vK j0 (by exact j1) λd hd=>?_;simp only[ao,aK,or_false] at hd;rcases hd with rfl|rfl|rfl|rfl|rfl|rfl
 ·exact⟨rfl,go 3 2 (by decide) (by decide) (by decide) (by decide) (by decide)⟩
 ·exact⟨rfl,go 2 3 (by decide) (by decide) (by decide) (by decide) (by decide)⟩
 ·exact⟨rfl,go 5 2 (by decide) (by decide) (by decide) (by decide) (by decide)⟩
 ·exact⟨rfl,go 2 5 (by decide) (by decide) (by decide) (by decide) (by decide)⟩
 ·exact⟨rfl,go 4 3 (by decide) (by decide) (by decide) (by decide) (by decide)⟩
 ·exact⟨rfl,go 3 4 (by decide) (by decide) (by decide) (by decide) (by decide)⟩
def jf:SpB:=.of 2 (α:=Unit) (λ_ ds=>ds=[.fl,.int 3]) (λ_ d=>∃ A α B β,∃ m k:Nat,d = .tup [pD A α,pD B β]/\Pc.Pz 20000 20000 A α/\Pc.Pz 2000 800 B β/\A.length=m+1/\B.length=k+1/\2<=m/\m<=6/\2<=k/\k<=6/\m*k<=12)
def km:TSd:=(iq [] (ic (gU (gV 12) (gU (gX g8 (gU (gX io (gU (gV 10) gW)) (gU (gX g8 (gU (gV 8) (gU (gV 11) gW))) gW))) gW))))
def i6:TSd:=dSq (g7 [] (gNm 12) (gX g8 (gU (gV 9) (gU (gX g8 (gU (gV 7) (gU (gV 10) gW))) gW))))
 km
def i7:TSd:=dSq (g7 [] (gTl [9,10,11]) (iI (jt (dC (.int 3))) [6] (gNm 6) ju (gX g9 (gU (gV 0) (gU (gV 1) gW)))))
 i6
def ko:TSd:=dSq (mH [] 7 8 (gX ia (gU (gV 2) (gU (gV 5) gW))) (gX ia (gU (gV 3) (gU (gV 4) gW))))
 i7
def kr:TSd:=dSq (iO [] (jt (gV 3)) (gNm 6)
 (g7 [] (gNm 5) (gX iy (gU (gV 5) (gU (gV 4) gW)))))
 ko
def i8:TSd:=dSq (g7 [] (gNm 5) (ic (gU (dC (.int 1)) (gU (dC (.int 1)) gW))))
 kr
def ku:TSd:=dSq (g7 [] (gNm 4) (dIx (ip (gU (ic (gU (dC (.int 0)) (gU (dC (.int 1)) gW))) (gU (gX ij (gU (gV 0) (gU (gV 1) gW))) gW))) (gX gY (gU (gV 0) (gU (dC (.int 2)) gW)))))
 i8
def iM:TSd:=dSq (g7 [] (gNm 1) (dB bMin bMin.mono (gU (gV 1) (gU (dC (.int 3)) gW))))
 ku
def lw:TSd:=dSq (g7 [] (gTp [2,3]) (dIx (ip (gU (ic (gU (dC (.int 4)) (gU (dC (.int 2)) gW))) (gU (ic (gU (dC (.int 2)) (gU (dC (.int 4)) gW))) (gU (ic (gU (dC (.int 6)) (gU (dC (.int 2)) gW))) (gU (ic (gU (dC (.int 2)) (gU (dC (.int 6)) gW))) gW))))) (gX gY (gU (gV 0) (gU (dC (.int 4)) gW)))))
 iM
theorem DB(zA:Pc.Pz 400 300 A α)(zB:Pc.Pz 400 300 Bq β)(lA:A.length=m+1)(lB:Bq.length=k+1)(m2:2<=m)(m6:m<=6)(k2:2<=k)(k6:k<=6)
  (q:∀ R C S D,Pc.Pz 20000 20000 R C->Pc.Pz 2000 800 S D->R.length=m+1->S.length=k+1->Q (.tup [pD R C,pD S D])) :
  i7.run (rB Q) [.val .fl,.val (.int 3),.val (.int m),.val (.int k),o4,o5,o6,.val (pD A α),.val (pD Bq β),.no,.no,.no,.no]:=by
 have key:compD (uE 0 3) (rY [6] [.val .fl,.val (.int 3),.val (.int m),.val (.int k),o4,o5,o6,.val (pD A α),.val (pD Bq β),.no,.no,.no,.no]) (gNm 6) ju (gX g9 (gU (gV 0) (gU (gV 1) gW))) λd=>(gTl [9,10,11]).run d [.val .fl,.val (.int 3),.val (.int m),.val (.int k),o4,o5,o6,.val (pD A α),.val (pD Bq β),.no,.no,.no,.no] (i6.run (rB Q)):=by
  refine c3 (λi d hd=>Kx λP B s=>⟨P,B,rfl,s⟩) λP1 B1 P2 B2 P3 B3 s1 s2 s3=>⟨rfl,?_⟩;refine cA zA lA m2 m6 (by decide) (by decide) s1 s2 λR C zR lR=>?_;exact cB zB lB k2 k6 (by decide) (by decide) s2 s3 λS D zS lS=>⟨rM,q R C S D zR zS lR lS⟩
 exact⟨by decide,by decide,key⟩
theorem FC(m2:2<=m)(m6:m<=6)(k2:2<=k)(k6:k<=6)(q:∀ R C S D,Pc.Pz 20000 20000 R C->Pc.Pz 2000 800 S D->R.length=m+1->S.length=k+1->Q (.tup [pD R C,pD S D])) :
  iM.run (rB Q) [.val .fl,.val (.int 3),.val (.int m),.val (.int k),.no,.no,.no,.no,.no,.no,.no,.no,.no]:=by
 have fin:∀(d:D) (r:Rat),FqD 2 2 d r->i8.run (rB Q) [.val .fl,.val (.int 3),.val (.int m),.val (.int k),.val d,.no,.no,.no,.no,.no,.no,.no,.no]:=λd r f=>by
  refine⟨rM,by omega,by omega,λi st=>∃(x:D) (r':Rat) (o6:SD),st=[.val .fl,.val (.int 3),.val (.int m),.val (.int k),.val d,.val x,o6,.no,.no,.no,.no,.no,.no]/\FqD (1+2*i) (1+2*i) x r',⟨fD 1 1,1,_,rfl,Ku (by omega) (by omega)⟩,?_,?_⟩
  ·rintro i e _ hd ⟨x,r',o11,rfl,fx⟩;obtain⟨hi,rfl⟩:=rS hd;exact Lw fx f (by omega) (by decide) λx2 r2 f2=>⟨x2,r2,_,rfl,f2⟩
  ·rintro _ ⟨x,r',o11,rfl,fx⟩;rw[qU,aG] at fx;exact Kw fx (by omega) m2 m6 λA α zA lA=>Kw f (by decide) k2 k6 λBq β zB lB=>DB zA zB lA lB m2 m6 k2 k6 q
 refine⟨rM,Me λd r f=>⟨rM,rfl,2,⟨rfl,by decide,xG (by decide)⟩,?_⟩⟩;rintro _ ⟨j,rfl,j0,j1⟩;refine vK j0 (by exact j1) λe he=>?_;simp only[ao,aK,or_false] at he;rcases he with rfl|rfl
 ·exact fin _ ((0:Int):Rat) ((uP (n:=2) (t:=0) (va _)).mono (af _) (by decide))
 ·exact fin _ r f
theorem j3:Does 13 lw jf:=by
 rintro ds Q hn ⟨_,rfl,q⟩;have go:∀ m k:Nat,2<=m->m<=6->2<=k->k<=6->m*k<=12->iM.run (rB Q) [.val .fl,.val (.int 3),.val (.int m),.val (.int k),.no,.no,.no,.no,.no,.no,.no,.no,.no]:=λm k m2 m6 k2 k6 mk=>FC m2 m6 k2 k6 λR C S D zR zS lR lS=>q _ ⟨R,C,S,D,m,k,rfl,zR,zS,lR,lS,m2,m6,k2,k6,mk⟩;refine⟨rM,rM,rM,rM,sE (n:=4) (by decide),rfl,4,⟨rfl,by decide,xG (by decide)⟩,?_⟩;rintro _ ⟨j,rfl,j0,j1⟩;refine vK j0 (by exact j1) λd hd=>?_;simp only[ao,aK,or_false] at hd;rcases hd with rfl|rfl|rfl|rfl
 ·exact⟨rfl,go 4 2 (by decide) (by decide) (by decide) (by decide) (by decide)⟩
 ·exact⟨rfl,go 2 4 (by decide) (by decide) (by decide) (by decide) (by decide)⟩
 ·exact⟨rfl,go 6 2 (by decide) (by decide) (by decide) (by decide) (by decide)⟩
 ·exact⟨rfl,go 2 6 (by decide) (by decide) (by decide) (by decide) (by decide)⟩
def Dgs(l:List Nat):Prop:=(∃ m k,l=[m,k]/\2<=m/\m<=6/\2<=k/\k<=6/\m*k<=12)\/l=[2,2,2]\/l=[2,3,2]\/l=[2,2,3]\/l=[3,2,2]
def GF(es:List Pl):Prop:=LM es/\∃ l:List Nat,Dgs l/\es.length=l.length/\∀ i:Nat,i<l.length->(es.getD i ([],1)).1.length=l.getD i 0+1
theorem Dgs.all{l:List Nat}(h:Dgs l):2<=l.length/\l.length<=3/\∀ i,i<l.length->2<=l.getD i 0/\l.getD i 0<=6:=by
 rcases h with⟨m,k,rfl,m2,m6,k2,k6,mk⟩|rfl|rfl|rfl|rfl
 ·refine⟨af _,by show 2<=3;decide,λi hi=>?_⟩;match i,hi with
  | 0,_=>exact⟨m2,m6⟩
  | 1,_=>exact⟨k2,k6⟩
 all_goals exact⟨by decide,by decide,by decide⟩
theorem cN(hl:Dgs l)(ll:cs.length=l.length)(hd:∀ i:Nat,i<l.length->(cs.getD i ([],1)).1.length=l.getD i 0+1)(h0:∃ c0 ts,cs=c0::ts/\Pc.Pz 20000 20000 c0.1 c0.2/\∀ c∈ts,Pc.Pz n b c.1 c.2)(hs:∀ j,j+2<=l.length->(r8 n b j).1+(r8 n b j).2<=3900/\(r8 n b j).2<=2000)(q:∀ es,GF es->Q (cD es)):[cD cs].length=ir.n/\ir.run [cD cs] Q:=by
 obtain⟨a1,a2,a3⟩:=hl.all;refine⟨rfl,(cs,n,b),⟨rfl,by omega,by omega,λc hc=>?_,h0,λj hj=>hs j (by omega)⟩,?_⟩
 ·obtain⟨i,hi⟩:=bI.mp hc;have hi':=(ai.mp hi).1;have e:=hd i (by omega);rw[rQ hi] at e;have:=a3 i (by omega);omega
 ·rintro _ ⟨es,rfl,le,he,ne⟩;exact q es ⟨ne,l,hl,by rw[le,ll],λi hi=>by rw[he i];exact hd i hi⟩
def i5:SpB:=.of 2 (α:=Unit) (λ_ ds=>ds=[.fl,.int 3]) (λ_ d=>∃ es,d=cD es/\GF es)
def iF:TSd:=(iq [4] (gX ir (gU (dB bTuple bTuple.mono (gU (gV 4) gW)) gW)))
def iG:TSd:=dSq (jh [] 4 (jq (dC (.int 1))) (gX g8 (gU (jm 4 (jq (dC (.int 1)))) (gU (gX g9 (gU (gV 0) (gU (gV 1) gW))) gW))))
 iF
def iT:TSd:=dSq (jh [] 4 (dC (.int 0)) (gX g8 (gU (gX g9 (gU (gV 0) (gU (gV 1) gW))) (gU (jm 4 (dC (.int 0))) gW))))
 iG
def iU:TSd:=dSq (jn [11] 4 (j6 (gV 11)))
 iT
def jJ:TSd:=dSq (iO [] (kP (gV 9)) (gNm 5)
 (dSq (kB [] 11 (gX ia (gU (gV 5) (gU (gV 10) gW))))
 (dSq (g7 [] (gNm 12) (ic (gU (dC (.int 1)) (gU (dC (.int 1)) gW))))
 (dSq (iO [] (jt (gV 5)) (gNm 13)
 (g7 [] (gNm 12) (gX iy (gU (gV 12) (gU (gV 10) gW)))))
 (g7 [] (gNm 10) (gV 12))))))
 iU
def iV:TSd:=dSq (jn [] 11 (ip gW))
 jJ
def iW:TSd:=dSq (g7 [] (gNm 10) (dIx (ip (gU (ic (gU (dC (.int 0)) (gU (dC (.int 1)) gW))) (gU (gX ij (gU (gV 0) (gU (dC (.int 2)) gW))) gW))) (gX gY (gU (gV 0) (gU (dC (.int 2)) gW)))))
 iV
def jK:TSd:=dSq (g7 [] (gNm 9) (dIx (ip (gU (ip (gU (dC (.int 2)) (gU (dC (.int 2)) (gU (dC (.int 3)) gW)))) (gU (ip (gU (dC (.int 2)) (gU (dC (.int 3)) (gU (dC (.int 2)) gW)))) (gU (ip (gU (dC (.int 3)) (gU (dC (.int 2)) (gU (dC (.int 2)) gW)))) gW)))) (gX gY (gU (gV 0) (gU (dC (.int 3)) gW)))))
 iW
def jL:TSd:=dSq (dIf [] (iu (iB .Lt (gV 2) (dC (.int 3))))
 (dSq (g7 [] (gTp [6,7,8]) (gX jV (gU (gV 0) (gU (gV 1) gW))))
 (iq [] (gX ir (gU (ic (gU (gV 6) (gU (gV 7) gW))) gW))))
 iA)
 jK
def jM:TSd:=dSq (dIf [] (iu (iB .Eq (gV 2) (dC (.int 0))))
 (dSq (g7 [] (gNm 3) (ip (gU (ic (gU (dC (.int 2)) (gU (dC (.int 2)) gW))) (gU (ic (gU (dC (.int 2)) (gU (dC (.int 3)) gW))) (gU (ic (gU (dC (.int 3)) (gU (dC (.int 2)) gW))) (gU (ic (gU (dC (.int 4)) (gU (dC (.int 2)) gW))) (gU (ic (gU (dC (.int 2)) (gU (dC (.int 4)) gW))) (gU (ic (gU (dC (.int 3)) (gU (dC (.int 3)) gW))) (gU (ic (gU (dC (.int 2)) (gU (dC (.int 2)) (gU (dC (.int 2)) gW)))) (gU (ic (gU (dC (.int 2)) (gU (dC (.int 3)) (gU (dC (.int 2)) gW)))) gW))))))))))
 (dSq (g7 [] (gNm 3) (gZ .Add (gV 3) (ip (gU (ic (gU (dC (.int 2)) (gU (dC (.int 2)) (gU (dC (.int 3)) gW)))) (gU (ic (gU (dC (.int 6)) (gU (dC (.int 2)) gW))) (gU (ic (gU (dC (.int 2)) (gU (dC (.int 6)) gW))) (gU (ic (gU (dC (.int 3)) (gU (dC (.int 2)) (gU (dC (.int 2)) gW)))) gW)))))))
 (dSq (g7 [] (gNm 4) (dB bTuple bTuple.mono (gU (iI (iQ (dIx (gV 3) (gX gY (gU (gV 0) (gU (dC (.int 12)) gW))))) [5] (gNm 5) ju (gX hZ (gU (gV 0) (gU (gV 5) (gU (gV 1) gW))))) gW)))
 (iq [4] (gX ir (gU (gV 4) gW))))))
 iA)
 jL
def jN:TSd:=dSq (dIf [] (iu (iB .Eq (gV 2) (dC (.int 4))))
 (iq [] (gX ir (gU (gX jf (gU (gV 0) (gU (gV 1) gW))) gW)))
 iA)
 jM
def kw:TSd:=dSq (g7 [] (gNm 2) (gX gY (gU (gV 0) (gU (dC (.int 5)) gW))))
 jN
theorem FR(zA:Pc.Pz 20000 20000 A α)(zB:Pc.Pz 2000 800 B β)(lA:A.length=m+1)(lB:B.length=k+1)(m2:2<=m)(m6:m<=6)(k2:2<=k)(k6:k<=6)(mk:m*k<=12)(q:∀ es,GF es->Q (cD es)):[D.tup [pD A α,pD B β]].length=ir.n/\ir.run [D.tup [pD A α,pD B β]] Q:=by
 refine cN (cs:=[(A,α),(B,β)]) (l:=[m,k]) (n:=2000) (b:=800) (.inl ⟨m,k,rfl,m2,m6,k2,k6,mk⟩) rfl (λi hi=>?_) ⟨(A,α),[(B,β)],rfl,zA,λc hc=>?_⟩ (λj hj=>?_) q
 ·match i,hi with
  | 0,_=>exact lA
  | 1,_=>exact lB
 ·rw[aV.mp hc];exact zB
 ·have:j=0:=by have:j+2<=2:=hj;omega
  subst this;exact⟨by decide,by decide⟩
def oN:TSd:=(iq [4] (gX ir (gU (gV 4) gW)))
theorem FG{l:List Nat}{x3:SD}{w:D}{E:EndsD}(hl:Dgs l)(q:∀ es,GF es->E.rt (cD es)){Q':D->Prop}(hQ:∀ ys:List D,ys.length=l.length->(∀(i:Nat) y,ys[i]? = some y->∃ P B,y=pD P B/\Pc.Pz 2 3 P B/\P.length=l.getD i 0+1)->Q' (.lst ys)) :
  compD (l.map λn:Nat=>D.int (n:Int)) (rY [5] [.val .fl,.val (.int 3),.val w,x3,.no,.no,.no,.no,.no,.no,.no,.no,.no,.no]) (gNm 5) ju (gX hZ (gU (gV 0) (gU (gV 5) (gU (gV 1) gW)))) Q':=by
 obtain⟨a1,a2,a3⟩:=hl.all;refine sO (λi y=>∃ P B,y=pD P B/\Pc.Pz 2 3 P B/\P.length=l.getD i 0+1) (by rw[aa];omega) (λi d hd=>?_) λys ly hy=>hQ ys (by rw[ly,aa]) hy;rw[aJ] at hd;obtain⟨n,hn,rfl⟩:=ab.mp hd;have hi:=(ai.mp hn).1;have en:l.getD i 0=n:=rQ hn;have:=a3 i hi;refine⟨rfl,(n,3,2),⟨rfl,by show n<=100;omega,by decide,by unfold Lt2;decide,by decide⟩,?_⟩;rintro _ ⟨P,B,rfl,zP,lP⟩;exact⟨P,B,rfl,zP,by rw[en];exact lP⟩
theorem Dk{l:List Nat}:∀{ys:List D} (s:Nat),(∀(i:Nat) y,ys[i]? = some y->∃ P B,y=pD P B/\Pc.Pz 2 3 P B/\P.length=l.getD (s+i) 0+1)->∃ cs:List Pl,ys=cs.map pq/\cs.length=ys.length/\(∀ c∈cs,Pc.Pz 2 3 c.1 c.2)/\∀ i,i<ys.length->(cs.getD i ([],1)).1.length=l.getD (s+i) 0+1
 | [],s,_=>⟨[],rfl,rfl,λc hc=>(by simp at hc),λi hi=>absurd hi (dZ _)⟩
 | y::ys,s,h=>by
  obtain⟨P,B,rfl,z,lP⟩:=h 0 y rfl;obtain⟨cs,rfl,lc,hz,hd⟩:=Dk (l:=l) (ys:=ys) (s+1) λi y hy=>by
   rw[show s+1+i=s+(i+1) by omega];exact h (i+1) y hy
  refine⟨(P,B)::cs,rfl,by rw[bt,bt,lc],λc hc=>?_,λi hi=>?_⟩
  ·rcases ao.mp hc with e|e
   ·rw[e];exact z
   ·exact hz c e
  ·cases i with
   | zero=>exact lP
   | succ i =>
    rw[bY,show s+(i+1)=s+1+i by omega];exact hd i (by simpa using hi)
theorem Cc(hl:Dgs l)(q:∀ es,GF es->E.rt (cD es)) :
  compD (l.map λn:Nat=>D.int (n:Int)) (rY [5] [.val .fl,.val (.int 3),.val w,x3,.no,.no,.no,.no,.no,.no,.no,.no,.no,.no]) (gNm 5) ju (gX hZ (gU (gV 0) (gU (gV 5) (gU (gV 1) gW)))) λd=>bTuple [d] λd=>oN.run E [.val .fl,.val (.int 3),.val w,x3,.val d,.no,.no,.no,.no,.no,.no,.no,.no,.no]:=by
 refine FG hl q λys ly hy=>?_;obtain⟨cs,rfl,lc,hz,hd⟩:=Dk (l:=l) (ys:=ys) 0 λi y h=>by rw[eZ];exact hy i y h
 obtain⟨a1,a2,a3⟩:=hl.all;show oN.run E [.val .fl,.val (.int 3),.val w,x3,.val (cD cs),.no,.no,.no,.no,.no,.no,.no,.no,.no];have ll:cs.length=l.length:=by rw[lc,ly]
 refine cN (n:=2) (b:=3) hl ll (λi hi=>by have:=hd i (by omega);rw[eZ] at this;exact this) ?_ (λj hj=>?_) q
 ·match cs,hz,ll with
  | c0::ts,hz,_=>exact⟨c0,ts,rfl,(hz c0 aF).mono (by decide) (by decide),λc hc=>hz c (az _ hc)⟩
  | [],_,ll=>exact absurd ll (by simp;omega)
 ·rcases (by omega:j=0\/j=1) with rfl|rfl
  ·exact⟨by decide,by decide⟩
  ·exact⟨by decide,by decide⟩
section
variable{w x3:SD}{Q:D->Prop}
def qh:TSd:=(dSq (kB [] 11 (gX ia (gU (gV 5) (gU (gV 10) gW))))
 (dSq (g7 [] (gNm 12) (ic (gU (dC (.int 1)) (gU (dC (.int 1)) gW))))
 (dSq (iO [] (jt (gV 5)) (gNm 13)
 (g7 [] (gNm 12) (gX iy (gU (gV 12) (gU (gV 10) gW)))))
 (g7 [] (gNm 10) (gV 12)))))
theorem vU(hi:i<=2)(hM:M<=16)(n2:2<=n)(n3:n<=3)(lf:fs.length=i)(f:FqD M M t r)
  (hE:∀ P B t' r' o12 o13,Pc.Pz ((2*M+1)*n+2) (M*n+1) P B->P.length=n+1->FqD (1+M*n) (1+M*n) t' r'->E.nx [.val .fl,.val (.int 3),w,x3,.no,.val (.int (n:Nat)),.no,.no,.no,.val lay,.val t',.own ((fs++[(P,B)]).map pq),o12,o13]) :
  qh.run E [.val .fl,.val (.int 3),w,x3,.no,.val (.int (n:Nat)),.no,.no,.no,.val lay,.val t,.own (fs.map pq),o12,o13]:=by
 refine⟨rfl,(n,t,r,M),⟨rfl,f,by show M<=21;omega,by show 1<=n;omega,by show n<=12;omega⟩,?_⟩;rintro _ ⟨P,B,rfl,tk⟩;have tk:Tk r n P B:=tk;obtain⟨zP,_⟩:=tk.pz f;refine⟨(congrArg (· < sizeLine) (aa _)).mpr (by rw[sizeLine_eq];omega),rM,by omega,by omega,λj st=>∃(x:D) (r':Rat) (o13:SD),st=[.val .fl,.val (.int 3),w,x3,.no,.val (.int (n:Nat)),.no,.no,.no,.val lay,.val t,.own (fs.map pq++[pD P B]),.val x,o13]/\FqD (1+M*j) (1+M*j) x r',⟨fD 1 1,1,_,rfl,Ku (by omega) (by omega)⟩,?_,?_⟩
 ·rintro j e _ hd ⟨x,r',o13,rfl,fx⟩;obtain⟨hj,rfl⟩:=rS hd;exact Lw fx f (by omega) (by omega) λx2 r2 f2=>⟨x2,r2,_,rfl,f2⟩
 ·rintro _ ⟨x,r',o13,rfl,fx⟩;rw[qU,aG] at fx;have e:fs.map pq++[pD P B]=(fs++[(P,B)]).map pq:=by rw[aN];rfl
  show E.nx [.val .fl,.val (.int 3),w,x3,.no,.val (.int (n:Nat)),.no,.no,.no,.val lay,.val x,.own (fs.map pq++[pD P B]),.val x,o13];rw[e];exact hE P B x r' _ _ zP (tk.len45 (by omega)) fx
theorem Kh{l:List D}{n:Nat}{Q:Nat->Prop}(h:n<l.length)(q:Q n):atD l (.int (n:Int)) Q:=vt h q
theorem FF{a b c:Nat}{f0 f1 f2:Pl}{lay t:D}{o5 o12 o13:SD}(hl:Dgs [a,b,c])(h3:a<=3/\b<=3/\c<=3)(z0:Pc.Pz 17 7 f0.1 f0.2)(l0:f0.1.length=c+1)(z1:Pc.Pz 110 30 f1.1 f1.2)(l1:f1.1.length=b+1)(z2:Pc.Pz 110 60 f2.1 f2.2)(l2:f2.1.length=a+1)(q:∀ es,GF es->Q (cD es)) :
  iU.run (rB Q) [.val .fl,.val (.int 3),w,x3,.no,o5,.no,.no,.no,.val lay,.val t,.own ([f0,f1,f2].map pq),o12,o13]:=by
 obtain⟨_,_,a3⟩:=hl.all;have ha:=a3 0 (show 0<3 by decide);have hc:=a3 2 (show 2<3 by decide);have ha:2<=a/\a<=6:=ha;have hc:2<=c/\c<=6:=hc;refine⟨_,rfl,?_⟩;show iT.run (rB Q) [.val .fl,.val (.int 3),w,x3,.own [pq f2,pq f1,pq f0],o5,.no,.no,.no,.val lay,.val t,.val (.lst ([f0,f1,f2].map pq)),o12,o13];refine Kx λP1 B1 s1=>?_;obtain⟨zs,ls,ns⟩:=s1;show itD [pq f2,pq f1,pq f0] ((0:Nat):Int) (λd=>[pD P1 B1,d].length=g8.n/\g8.run [pD P1 B1,d] λd=>atD [pq f2,pq f1,pq f0] (.int ((0:Nat):Int)) λj=>iG.run (rB Q) [.val .fl,.val (.int 3),w,x3,.own ([pq f2,pq f1,pq f0].set j d),o5,.no,.no,.no,.val lay,.val t,.val (.lst ([f0,f1,f2].map pq)),o12,o13]);refine rA (n:=0) (d:=pq f2) rfl ⟨rfl,(P1,B1,f2.1,f2.2,8,4,110,60),⟨rfl,zs,z2,by show 4+4+60*P1.length<=8900000;omega,by show 8+(110+60+10)*(P1.length+1)<=4000000;omega,by show P1.length*f2.1.length<=190;rw[ls];omega,by show P1.length<=190;omega,by show f2.1.length<=190;omega⟩,?_⟩;rintro _ ⟨R,C,rfl,o⟩;have o:Pc.Of P1 B1 f2.1 f2.2 R C:=o;obtain⟨lR,_⟩:=ua ls ns zs.fm z2.fm (by omega) o;have zR:=o.size zs z2 (by rw[ls];omega);rw[ls] at zR;refine Kh (n:=0) (by show 0<3;decide) ?_;show iG.run (rB Q) [.val .fl,.val (.int 3),w,x3,.own [pD R C,pq f1,pq f0],o5,.no,.no,.no,.val lay,.val t,.val (.lst ([f0,f1,f2].map pq)),o12,o13];have at0:vq [pD R C,pq f1,pq f0] (-1)=some (pq f0):=tE (j:=1) (n:=3) rfl rfl (by decide) (by decide);show itD [pD R C,pq f1,pq f0] (-1) (λd0=>[D.fl,.int 3].length=g9.n/\g9.run [D.fl,.int 3] λd1=>[d0,d1].length=g8.n/\g8.run [d0,d1] λd=>atD [pD R C,pq f1,pq f0] (.int (-((1:Nat):Int))) λj=>iF.run (rB Q) [.val .fl,.val (.int 3),w,x3,.own ([pD R C,pq f1,pq f0].set j d),o5,.no,.no,.no,.val lay,.val t,.val (.lst ([f0,f1,f2].map pq)),o12,o13]);refine tj at0 (Kx λP2 B2 s2=>?_);obtain⟨zt,lt,nt⟩:=s2;refine⟨rfl,(f0.1,f0.2,P2,B2,17,7,8,4),⟨rfl,z0,zt,by show 7+7+4*f0.1.length<=8900000;omega,by show 17+(8+4+10)*(f0.1.length+1)<=4000000;omega,by show f0.1.length*P2.length<=190;rw[lt];omega,by show f0.1.length<=190;omega,by show P2.length<=190;omega⟩,?_⟩;rintro _ ⟨S,D1,rfl,o'⟩;have o':Pc.Of f0.1 f0.2 P2 B2 S D1:=o';obtain⟨lS,_⟩:=sN z0.fm zt.fm lt nt (by omega) o';have zS:=o'.size z0 zt (by rw[lt];omega);refine yR (j:=1) (n:=3) rfl (by decide) (by decide) ?_;show iF.run (rB Q) [.val .fl,.val (.int 3),w,x3,.own [pD R C,pq f1,pD S D1],o5,.no,.no,.no,.val lay,.val t,.val (.lst ([f0,f1,f2].map pq)),o12,o13];refine cN (cs:=[(R,C),f1,(S,D1)]) (l:=[a,b,c]) (n:=110) (b:=30) hl rfl (λi hi=>?_) ⟨(R,C),[f1,(S,D1)],rfl,zR.mono (by omega) (by omega),λd hd=>?_⟩ (λj hj=>?_) q
 ·match i,hi with
  | 0,_=>show R.length=a+1;rw[lR,l2]
  | 1,_=>exact l1
  | 2,_=>show S.length=c+1;rw[lS,l0]
 ·simp only[ao,aK,or_false] at hd;rcases hd with rfl|rfl
  ·exact z1
  ·exact zS.mono (by show _<=110;omega) (by show _<=30;omega)
 ·have:j+2<=3:=hj;rcases (by omega:j=0\/j=1) with rfl|rfl
  ·exact⟨by decide,by decide⟩
  ·exact⟨by decide,by decide⟩
theorem DJ(hl:Dgs [a,b,c])(h3:a<=3/\b<=3/\c<=3)(m1:2*c<=6)(m2:(1+2*c)*b<=15)(s1:(2*(1+2*c)+1)*b+2<=110/\(1+2*c)*b+1<=30)(f:FqD 2 2 d r)(q:∀ es,GF es->Q (cD es)) :
  iV.run (rB Q) [.val .fl,.val (.int 3),w,x3,.no,.no,.no,.no,.no,.val (.lst [.int (a:Nat),.int (b:Nat),.int (c:Nat)]),.val d,.no,.no,.no]:=by
 obtain⟨_,_,a3⟩:=hl.all;have ha:2<=a/\a<=6:=a3 0 (show 0<3 by decide);have hb:2<=b/\b<=6:=a3 1 (show 1<3 by decide);have hc:2<=c/\c<=6:=a3 2 (show 2<3 by decide);refine⟨aC _,λi st=>∃(fs:List Pl) (t:D) (r':Rat) (o5 o12 o13:SD),st=[.val .fl,.val (.int 3),w,x3,.no,o5,.no,.no,.no,.val (.lst [.int (a:Nat),.int (b:Nat),.int (c:Nat)]),.val t,.own (fs.map pq),o12,o13]/\((i=0/\fs=[]/\FqD 2 2 t r')\/(i=1/\FqD (1+2*c) (1+2*c) t r'/\∃ f0:Pl,fs=[f0]/\Pc.Pz 17 7 f0.1 f0.2/\f0.1.length=c+1)\/(i=2/\FqD (1+(1+2*c)*b) (1+(1+2*c)*b) t r'/\∃ f0 f1:Pl,fs=[f0,f1]/\Pc.Pz 17 7 f0.1 f0.2/\f0.1.length=c+1/\Pc.Pz 110 30 f1.1 f1.2/\f1.1.length=b+1)\/(i=3/\∃ f0 f1 f2:Pl,fs=[f0,f1,f2]/\Pc.Pz 17 7 f0.1 f0.2/\f0.1.length=c+1/\Pc.Pz 110 30 f1.1 f1.2/\f1.1.length=b+1/\Pc.Pz 110 60 f2.1 f2.2/\f2.1.length=a+1)),⟨[],d,r,.no,.no,.no,rfl,.inl ⟨rfl,rfl,f⟩⟩,?_,?_⟩
 ·rintro i e _ hd ⟨fs,t,r',o5,o12,o13,rfl,h⟩;have hi:i<3:=(ai.mp hd).1;rcases h with⟨rfl,rfl,ft⟩|⟨rfl,ft,f0,rfl,z0,l0⟩|⟨rfl,ft,f0,f1,rfl,z0,l0,z1,l1⟩|⟨rfl,_⟩
  ·cases hd;exact vU (i:=0) (n:=c) (M:=2) (fs:=[]) (by decide) (by decide) hc.1 h3.2.2 rfl ft λP B t' r' o12 o13 z l f'=>⟨[(P,B)],t',r',_,o12,o13,rfl,.inr (.inl ⟨rfl,f',(P,B),rfl,z.mono (by omega) (by omega),l⟩)⟩
  ·cases hd;exact vU (i:=1) (n:=b) (M:=1+2*c) (fs:=[f0]) (by decide) (by omega) hb.1 h3.2.1 rfl ft λP B t' r' o12 o13 z l f'=>⟨[f0,(P,B)],t',r',_,o12,o13,rfl,.inr (.inr (.inl ⟨rfl,f',f0,(P,B),rfl,z0,l0,z.mono s1.1 s1.2,l⟩))⟩
  ·cases hd;have w1:(2*(1+(1+2*c)*b)+1)*a<=33*3:=bA (by omega) h3.1;have w2:(1+(1+2*c)*b)*a<=16*3:=bA (by omega) h3.1;exact vU (i:=2) (n:=a) (M:=1+(1+2*c)*b) (fs:=[f0,f1]) (by decide) (by omega) ha.1 h3.1 rfl ft λP B t' r' o12 o13 z l f'=>⟨[f0,f1,(P,B)],t',r',_,o12,o13,rfl,.inr (.inr (.inr ⟨rfl,f0,f1,(P,B),rfl,z0,l0,z1,l1,z.mono (by omega) (by omega),l⟩))⟩
  ·omega
 ·rintro _ ⟨fs,t,r',o5,o12,o13,rfl,h⟩;have e3:([D.int (a:Nat),.int (b:Nat),.int (c:Nat)].reverse).length=3:=rfl;rw[e3] at h;rcases h with⟨h,_⟩|⟨h,_⟩|⟨h,_⟩|⟨_,f0,f1,f2,rfl,z0,l0,z1,l1,z2,l2⟩
  ·exact absurd h (by decide)
  ·exact absurd h (by decide)
  ·exact absurd h (by decide)
  ·exact FF hl h3 z0 l0 z1 l1 z2 l2 q
end
theorem jC:Does 14 kw i5:=by
 rintro ds Q hn ⟨_,rfl,q⟩;have q:∀ es,GF es->Q (cD es):=λes h=>q _ ⟨es,rfl,h⟩;refine⟨rfl,5,⟨rfl,by decide,xG (by decide)⟩,?_⟩;rintro _ ⟨w,rfl,w0,w1⟩;refine yV (p:=w=4) (λ_=>?_) (λn4=>yV (p:=w=0) (λ_=>?_) (λn0=>yV (p:=w<3) (λ_=>?_) (λn3=>?_)))
 ·refine⟨rfl,(),rfl,?_⟩;rintro _ ⟨A,α,B,β,m,k,rfl,zA,zB,lA,lB,m2,m6,k2,k6,mk⟩;exact FR zA zB lA lB m2 m6 k2 k6 mk q
 ·refine⟨rM,rM,rM,rM,rM,rM,sE (n:=3) (by decide),sE (n:=3) (by decide),sE (n:=8) (by decide),sE (n:=3) (by decide),rM,rM,sE (n:=3) (by decide),sE (n:=4) (by decide),sE (n:=12) (by decide),rfl,12,⟨rfl,by decide,xG (by decide)⟩,?_⟩;rintro _ ⟨j,rfl,j0,j1⟩;refine vK j0 (by exact j1) λd hd=>?_;simp only[ao,List.cons_append,fv,aK,or_false] at hd;have two:∀ m k:Nat,2<=m->m<=6->2<=k->k<=6->m*k<=12->Dgs [m,k]:=λm k h1 h2 h3 h4 h5=>.inl ⟨m,k,rfl,h1,h2,h3,h4,h5⟩;rcases hd with rfl|rfl|rfl|rfl|rfl|rfl|rfl|rfl|rfl|rfl|rfl|rfl
  ·exact Cc (l:=[2,2]) (two 2 2 (by decide) (by decide) (by decide) (by decide) (by decide)) q
  ·exact Cc (l:=[2,3]) (two 2 3 (by decide) (by decide) (by decide) (by decide) (by decide)) q
  ·exact Cc (l:=[3,2]) (two 3 2 (by decide) (by decide) (by decide) (by decide) (by decide)) q
  ·exact Cc (l:=[4,2]) (two 4 2 (by decide) (by decide) (by decide) (by decide) (by decide)) q
  ·exact Cc (l:=[2,4]) (two 2 4 (by decide) (by decide) (by decide) (by decide) (by decide)) q
  ·exact Cc (l:=[3,3]) (two 3 3 (by decide) (by decide) (by decide) (by decide) (by decide)) q
  ·exact Cc (l:=[2,2,2]) (.inr (.inl rfl)) q
  ·exact Cc (l:=[2,3,2]) (.inr (.inr (.inl rfl))) q
  ·exact Cc (l:=[2,2,3]) (.inr (.inr (.inr (.inl rfl)))) q
  ·exact Cc (l:=[6,2]) (two 6 2 (by decide) (by decide) (by decide) (by decide) (by decide)) q
  ·exact Cc (l:=[2,6]) (two 2 6 (by decide) (by decide) (by decide) (by decide) (by decide)) q
  ·exact Cc (l:=[3,2,2]) (.inr (.inr (.inr (.inr rfl)))) q
 ·refine⟨rfl,(),rfl,?_⟩;rintro _ ⟨A,α,B,β,m,k,w',rfl,zA,zB,lA,lB,m2,m6,k2,k6,mk⟩;exact⟨rfl,rM,FR zA zB lA lB m2 m6 k2 k6 mk q⟩
 ·refine⟨sE (n:=3) (by decide),sE (n:=3) (by decide),sE (n:=3) (by decide),sE (n:=3) (by decide),rfl,3,⟨rfl,by decide,xG (by decide)⟩,?_⟩;rintro _ ⟨j,rfl,j0,j1⟩;refine vK j0 (by exact j1) λd hd=>?_;simp only[ao,aK,or_false] at hd;have fr:∀(a b c:Nat),Dgs [a,b,c]->(a<=3/\b<=3/\c<=3)->2*c<=6->(1+2*c)*b<=15->(2*(1+2*c)+1)*b+2<=110/\(1+2*c)*b+1<=30->iW.run (rB Q) [.val .fl,.val (.int 3),.val (.int w),.no,.no,.no,.no,.no,.no,.val (.lst [.int (a:Nat),.int (b:Nat),.int (c:Nat)]),.no,.no,.no,.no]:=λa b c hl h3 m1 m2 s1=>by
   refine⟨rM,rfl,(2,2),⟨rfl,by decide,by unfold Lt2;decide,by decide,by decide⟩,?_⟩;rintro e ⟨r,f⟩;have f:FqD 2 2 e r:=f;refine⟨rM,rfl,2,⟨rfl,by decide,xG (by decide)⟩,?_⟩;rintro _ ⟨i,rfl,i0,i1⟩;refine vK i0 (by exact i1) λx hx=>?_;simp only[ao,aK,or_false] at hx;rcases hx with rfl|rfl
   ·exact DJ hl h3 m1 m2 s1 (r:=((0:Int):Rat)) ((uP (n:=2) (t:=0) (va _)).mono (af _) (by decide)) q
   ·exact DJ hl h3 m1 m2 s1 f q
  rcases hd with rfl|rfl|rfl
  ·exact fr 2 2 3 (.inr (.inr (.inr (.inl rfl)))) (by decide) (by decide) (by decide) (by decide)
  ·exact fr 2 3 2 (.inr (.inr (.inl rfl))) (by decide) (by decide) (by decide) (by decide)
  ·exact fr 3 2 2 (.inr (.inr (.inr (.inr rfl)))) (by decide) (by decide) (by decide) (by decide)
end Dp
namespace Ap
open L2 Cv Hv Pc Qp
theorem Fk(f:Po.Fm R C)(l:R.length<=m+1)(z:q R C m=0):R.length<=m:=by
 rcases aD m R.length with y|y
 ·have:=s9 f (by rintro rfl;simp at y);rw[show R.length-1=m by omega] at this;exact absurd z this
 ·exact y
end Ap
namespace Dp
open PySem L2
theorem yL(fR:Po.Fm R C)(lR:R.length=d+1)(fA:Po.Fm A α)(lA:A.length=s+1)(s1:1<=s)(fp:Po.Fm p c)(e:∀ x,Qp.E p c x=Qp.E R C (Qp.E A α x)):p.length=d*s+1:=by
 obtain⟨S,cS,o⟩:=JE fR fA;have l:=Pc.Of.deg_eq fR.pos fA.pos o lR lA s1 (rO fR lR) (rO fA lA);obtain⟨rfl,rfl⟩:=Qp.tF fp o.1 λx=>by rw[e,Qp.FP fR.pos fA.pos o]
 exact l
end Dp
namespace Dp
open PySem L2 Cv Hv Pc Qp
theorem vg(fA:Po.Fm A α)(lA:A.length=s+1)(mon:A.getD s 0=α)(k:Nat):∃ H C,Po.Fm H C/\(∀ x,E H C x=E A α x^k)/\q H C (k*s)=1:=by
 obtain⟨H,C,fH,eH,qH⟩:=Ca.zd fA k;refine⟨H,C,fH,eH,?_⟩;rw[qH,Ca.CG,vW (λi hi=>qF (by omega)),show fn A s=α from mon];have n2:=qB (show 0<α^k from bH fA.pos);generalize ((α^k:Int):Rat)=u at *;grind
theorem wv(fW:Po.Fm W w)(lW:W.length=l+1):∃ r,Ap.Pl' l r/\∀ y,E W w y=q W w l*y^l+r y:=by
 obtain⟨H,C,fH,eH,qH⟩:=vg (A:=Pc.X) (α:=1) (s:=1) ⟨by decide,.inr (by decide),by decide⟩ rfl rfl l;rw[dM] at qH;have pH:Ap.Pl' (l+1) (E H C):=((Ap.Pl'.x.pow (s:=1) l).congr λx=>by rw[eH,KC]).mono (by omega);obtain⟨D,e,fD,eD,lD⟩:=((Ap.Pl'.of fW).mono (m:=l+1) (by omega)).add (pH.smul (-(q W w l)));have eD:∀ x,E D e x=E W w x + -(q W w l)*E H C x:=eD;have qe:=Ap.vI (u:=q W w l) fW fH fD (λx=>by rw[eD x];grind) l;rw[qH] at qe;have z:q D e l=0:=by grind
 refine⟨E D e,⟨D,e,fD,λ_=>rfl,Ap.Fk fD lD z⟩,λy=>?_⟩;rw[eD y,eH,KC];grind
theorem Dh(fW:Po.Fm W w)(lW:W.length=l+1)(l1:1<=l)(mW:W.getD l 0=w)(fA:Po.Fm A α)(lA:A.length=s+1)(s1:1<=s)(mA:A.getD s 0=α)(fG:Po.Fm G U)(eG:∀ x,E G U x=E W w (E A α x)):G.getD (l*s) 0=U:=by
 obtain⟨r,⟨R,C,fR,eR,lR⟩,e⟩:=wv fW lW;obtain⟨H,c,fH,eH,qH⟩:=vg fA lA mA l;have pA:Ap.Pl' (s+1) (E A α):=lA ▸ Ap.Pl'.of fA;obtain⟨S,d,fS,eS,lS⟩:=Ap.Pl'.comp (P:=R) (B:=C) pA;have eS:∀ x,E S d x=E R C (E A α x):=eS;have qW:q W w l=1:=by
  unfold q;rw[mW];have:=qB fW.pos;grind
 have ls:l*s=s*(l-1)+s:=by
  obtain⟨j,rfl⟩:∃ j,l=j+1:=⟨l-1,by omega⟩;rw[aL,aY,aS]
 have b:s*(R.length-1)<=s*(l-1):=au _ (by omega);have qe:=Ap.vI (u:=1) fG fH fS (λx=>by rw[eG,e,eS,eR,eH,qW]) (l*s);rw[qH,s8 (P:=S) (by omega)] at qe;have qe:q G U (l*s)=((1:Int):Rat) / ((1:Int):Rat):=by rw[qe];grind
 have:=(rL (aq fG.pos) (by decide)).mp qe;omega
theorem GW(k1:1<=k)(s1:1<=s)(fP:Po.Fm P B)(fG:Po.Fm G U)(lG:G.length=s+1)(mG:G.getD s 0=U)(hr:Ap.Pl' (k*s-s+1) r)(e:∀ x,E P B x=c*E G U x^k+r x):Ca.Sem P B k s G U:=by
 have ks:s<=k*s:=aW _ k1;obtain⟨H,C,fH,eH,qH⟩:=vg fG lG mG k;have hr':=hr;obtain⟨S,d,fS,eS,lS⟩:=hr';have qe:=Ap.vI (u:=c) fP fH fS (λx=>by rw[e,eH,eS]) (k*s);rw[qH,s8 (P:=S) (by omega)] at qe;have qe:q P B (k*s)=c:=by rw[qe];grind
 exact⟨r,hr,λx=>by rw[qe];exact e x⟩
theorem FH{P R A W G:List Int}{B C α w U:Int}{k l s:Nat}(k1:1<=k)(l1:1<=l)(s1:1<=s)(fP:Po.Fm P B)(fA:Po.Fm A α)(lA:A.length=s+1)(mA:A.getD s 0=α)(A0:A.getD 0 0=0)(fR:Po.Fm R C)(lR:R.length=k*l+1)(eP:∀ x,E P B x=E R C (E A α x))(cW:Cn R k l W w)(fG:Po.Fm G U)(eG:∀ x,E G U x=E W w (E A α x)):Cn P k (l*s) G U:=by
 obtain⟨fW,lW,cW⟩:=cW;obtain⟨mW,W0⟩:=yP cW l1;have lG:=yL fW lW fA lA s1 fG eG;have mG:=Dh fW lW l1 mW fA lA s1 mA fG eG;have ls1:1<=l*s:=Nat.mul_pos l1 s1;obtain⟨r,⟨S,d,fS,eS,lS⟩,e⟩:=cW.sem fR lR fW lW k1 l1;have pA:Ap.Pl' (s+1) (E A α):=lA ▸ Ap.Pl'.of fA;have pr:Ap.Pl' (k*(l*s)-l*s+1) λx=>r (E A α x):=((Ap.Pl'.comp (P:=S) (B:=d) pA).congr λx=>eS _).mono (by
  have b:s*(S.length-1)<=s*(k*l-l):=au _ (by omega);have b2:s*(k*l-l)=k*(l*s)-l*s:=by rw[Nat.mul_sub,show s*(k*l)=k*(l*s) by rw[aS s,gj],aS s l]
  omega)
 have sm:=GW k1 ls1 fP fG lG mG pr (c:=q R C (k*l)) λx=>by rw[eP,e,eG]
 refine⟨fG,lG,sm.cand fP fG lG k1 ls1 mG ?_⟩;have z:q G U 0=((0:Int):Rat) / ((1:Int):Rat):=by
  have a0:E A α 0=0:=by
   rw[t6];unfold q;rw[A0];show (0:Rat) / _=0;grind
  rw[← t6,eG,a0,t6];unfold q;rw[show W.getD 0 0=0 from W0];show (0:Rat) / _=(0:Rat) / _;grind
 have:=(rL (aq fG.pos) (by decide)).mp z;omega
theorem sN(k1:1<=k)(s1:1<=s)(fP:Po.Fm P B)(fA:Po.Fm A α)(lA:A.length=s+1)(mA:A.getD s 0=α)(fR:Po.Fm R C)(lR:R.length=k+1)(e:∀ x,E P B x=E R C (E A α x)):q P B (k*s)=q R C k:=by
 obtain⟨r,⟨S,d,fS,eS,lS⟩,er⟩:=wv fR lR;obtain⟨H,c,fH,eH,qH⟩:=vg fA lA mA k;have pA:Ap.Pl' (s+1) (E A α):=lA ▸ Ap.Pl'.of fA;obtain⟨T,t,fT,eT,lT⟩:=Ap.Pl'.comp (P:=S) (B:=d) pA;have eT:∀ x,E T t x=E S d (E A α x):=eT;have ks:k*s=s*(k-1)+s:=by
  obtain⟨j,rfl⟩:∃ j,k=j+1:=⟨k-1,by omega⟩;rw[aL,aY,aS]
 have b:s*(S.length-1)<=s*(k-1):=au _ (by omega);have qe:=Ap.vI (u:=q R C k) fP fH fT (λx=>by rw[e,er,eT,eS,eH]) (k*s);rw[qH,s8 (P:=T) (by omega)] at qe;rw[qe];grind
theorem AG{P R A:List Int}{B C α:Int}{k s:Nat}(s1:1<=s)(fP:Po.Fm P B)(lP:P.length=k*s+1)(fA:Po.Fm A α)(lA:A.length=s+1)(fR:Po.Fm R C)(e:∀ x,E P B x=E R C (E A α x)):R.length=k+1:=by
 rcases cF R.length with y|y
 ·have r0:R=[]:=bM.mp y;have:P=[]:=(tF fP Ap.vL λx=>by rw[e,r0,Ap.uD,Ap.uD]).1;rw[this] at lP;simp at lP
 ·obtain⟨d,hd⟩:∃ d,R.length=d+1:=⟨R.length-1,by omega⟩;have h:=yL fR hd fA lA s1 fP e;rw[lP] at h;have:d=k:=Nat.eq_of_mul_eq_mul_right s1 (by omega);omega
end Dp
namespace Dp
open PySem L2 Ch
theorem DX{P:List Int}{m:Nat}:Cn P m 1 Pc.X 1:=by
 refine⟨Pc.Eb.fm,rfl,1,λ_=>1,by decide,rfl,λj hj=>?_,λi hi=>?_,rfl⟩
 ·have e:j=0:=by omega
  subst e;rw[Ca.Bi (g:=λ_=>1) rfl,bD,aT]
 ·have e:i=0:=by omega
  subst e;rfl
theorem BW{H A:List Int}{V α:Int}{k s:Nat}(k1:1<=k)(s1:1<=s)(fH:Po.Fm H V)(lH:H.length=k*s+1)(fA:Po.Fm A α)(lA:A.length=s+1)(mA:A.getD s 0=α)(A0:A.getD 0 0=0)(h:LL H V A α):Cn H k s A α:=by
 obtain⟨W,w,fW,eW⟩:=h;have lW:=AG s1 fH lH fA lA fW eW;have c:=FH (l:=1) k1 (af _) s1 fH fA lA mA A0 fW (by rw[dM];exact lW) eW DX fA λx=>by rw[Qp.KC]
 rw[Nat.one_mul] at c;exact c
def KD(f g h:Pl):Prop:=∀ x,Qp.E f.1 f.2 x=Qp.E g.1 g.2 (Qp.E h.1 h.2 x)
structure Nt2 (f g h:Pl)(k s:Nat):Prop where
 fg:Po.Fm g.1 g.2
 fh:Po.Fm h.1 h.2
 lh:h.1.length=s+1
 ne:GD h
 e:KD f g h
theorem Nt2.cn(n:Nt2 f g h k s)(k1:1<=k)(s1:1<=s)(ff:Po.Fm f.1 f.2)(lf:f.1.length=k*s+1):Cn f.1 k s h.1 h.2:=by
 obtain⟨n1,n2⟩:=n.ne;rw[n.lh,aL] at n1;exact BW k1 s1 ff lf n.fh n.lh n1 n2 ⟨g.1,g.2,n.fg,n.e⟩
theorem Nt2.lg(n:Nt2 f g h k s)(k1:1<=k)(s1:1<=s)(ff:Po.Fm f.1 f.2)(lf:f.1.length=k*s+1):g.1.length=k+1:=AG s1 ff lf n.fh n.lh n.fg n.e
theorem Nt2.uniq(n:Nt2 f g h k s)(n':Nt2 f g' h' k s)(k1:1<=k)(s1:1<=s)(ff:Po.Fm f.1 f.2)(lf:f.1.length=k*s+1):g=g'/\h=h':=by
 have c:=n.cn k1 s1 ff lf;have c':=n'.cn k1 s1 ff lf;obtain⟨e1,e2⟩:=Ca.Cand.uniq k1 (rO ff lf) c.1 c'.1 c.2.1 c'.2.1 c.2.2 c'.2.2;have eh:h=h':=Prod.ext e1 e2;subst eh;obtain⟨e3,e4⟩:=C7 n.fh n.lh s1 n.fg n'.fg λx=>by rw[← n.e x,n'.e x]
 exact⟨Prod.ext e3 e4,rfl⟩
theorem Nt2.ne1(n:Nt2 f g h k s)(k1:1<=k)(s1:1<=s)(ff:Po.Fm f.1 f.2)(lf:f.1.length=k*s+1)(m:Nt2 f a b s k)(na:GD a):GD g:=by
 have lg:=n.lg k1 s1 ff lf;have la:=m.lg s1 k1 ff (by rw[aS];exact lf);obtain⟨h1,h2⟩:=n.ne;obtain⟨b1,b2⟩:=m.ne;obtain⟨a1,a2⟩:=na;rw[n.lh,aL] at h1;rw[m.lh,aL] at b1;rw[la,aL] at a1;have q1:=sN k1 s1 ff n.fh n.lh h1 n.fg lg n.e;have q2:=sN s1 k1 ff m.fh m.lh b1 m.fg la m.e;rw[aS] at q2;have qa:Qp.q a.1 a.2 s=1:=by
  unfold Qp.q;rw[a1];have:=Qp.qB m.fg.pos;grind
 have qg:Qp.q g.1 g.2 k=1:=by rw[← q1,q2,qa]
 have z0:∀ c:Pl,Po.Fm c.1 c.2->c.1.getD 0 0=0->Qp.E c.1 c.2 0=0:=λc fc h=>by
  rw[Qp.t6];unfold Qp.q;rw[h];have:((0:Int):Rat)=0:=rfl;rw[this];grind
 have e0:Qp.E g.1 g.2 0=0:=by
  have x1:=n.e 0;have x2:=m.e 0;rw[z0 h n.fh h2] at x1;rw[z0 b m.fh b2,z0 a m.fg a2] at x2;rw[← x1,x2]
 refine⟨?_,?_⟩
 ·rw[lg,aL];unfold Qp.q at qg;have n2:=Qp.qB n.fg.pos;have:((g.1.getD k 0:Int):Rat)=(g.2:Rat):=by
   generalize ((g.1.getD k 0:Int):Rat)=y at *;have:y=y / (g.2:Rat)*(g.2:Rat):=by grind
   rw[this,qg];grind
  exact dY.mp this
 ·rw[Qp.t6] at e0;unfold Qp.q at e0;have n2:=Qp.qB n.fg.pos;have:((g.1.getD 0 0:Int):Rat)=0:=by
   generalize ((g.1.getD 0 0:Int):Rat)=y at *;have:y=y / (g.2:Rat)*(g.2:Rat):=by grind
   rw[this,e0];grind
  exact de.mp this
def g6:SpB:=.of 2 (α:=List Pl×Pl×Pl×List Pl×Nat×Nat×Nat×Nat×Nat×Nat×Nat×Nat) (λ(u,a,b,v,da,db,na,ca,nb,cb,nf,bf) ds=>ds=[cD (u++a::b::v),.int (u.length:Nat)]/\u.length<=2/\v.length<=2/\a.1.length=da+1/\b.1.length=db+1/\2<=da/\da<=6/\2<=db/\db<=6/\(da≠db->da*db<=12/\Pc.Pz na ca a.1 a.2/\Pc.Pz nb cb b.1 b.2/\ca+ca+cb*7<=8900000/\na+(nb+cb+10)*8<=4000000/\bf<=nf/\nf<=80000/\∀ f:Pl,Pc.Of a.1 a.2 b.1 b.2 f.1 f.2->Pc.Pz nf bf f.1 f.2))
 (λ(u,a,b,v,da,db,na,ca,nb,cb,nf,bf) d=>(d = .non/\(da=db\/∀ f g h,Po.Fm f.1 f.2->KD f a b->¬ Nt2 f g h db da))\/∃ f g h,d=cD (u++g::h::v)/\da≠db/\Pc.Pz nf bf f.1 f.2/\f.1.length=db*da+1/\KD f a b/\Nt2 f g h db da/\g.1.length=db+1/\Pc.Pz (tR nf (db*da)) (bR nf bf (db*da)) g.1 g.2/\Pc.Pz (tG nf da) (bG nf da) h.1 h.2)
def jO:TSd:=(iq [] (gZ .Add (gZ .Add (dSl (gV 0) dNo (mY (gV 1))) (gV 4)) (dSl (gV 0) (mY (gZ .Add (gV 1) (dC (.int 2)))) dNo)))
def jP:TSd:=dSq (dIf [] (iu (iB .Is (gV 4) (dC .non)))
 (iq [] (dC .non))
 iA)
 jO
def jQ:TSd:=dSq (g7 [] (gNm 4) (gX iE (gU (gX g8 (gU (gV 2) (gU (gV 3) gW))) (gU (gZ .Sub (dB bLen bLen.mono (gU (dIx (gV 2) (dC (.int 0))) gW)) (dC (.int 1))) gW))))
 jP
def jR:TSd:=dSq (dIf [] (iu (iB .Eq (dB bLen bLen.mono (gU (dIx (gV 2) (dC (.int 0))) gW)) (dB bLen bLen.mono (gU (dIx (gV 3) (dC (.int 0))) gW))))
 (iq [] (dC .non))
 iA)
 jQ
def ky:TSd:=dSq (mH [] 2 3 (dIx (gV 0) (gV 1)) (dIx (gV 0) (gZ .Add (gV 1) (dC (.int 1)))))
 jR
theorem ID:((u++a::b::v).map pq)[u.length]? = some (pq a)/\((u++a::b::v).map pq)[u.length+1]? = some (pq b):=by
 rw[aJ,aJ,ax (af _),ax (by omega),bj,show u.length+1-u.length=1 by omega];exact⟨rfl,rfl⟩
theorem DT{l:List D}{a:Nat}(h:a<=l.length):uU l none (some (a:Int))=l.take a:=by
 unfold uU;rw[HT.yi,HT.AA,dA h,fJ,bD]
theorem Ag{l:List D}{a:Nat}(h:a<=l.length):uU l (some (a:Int)) none=l.drop a:=by
 unfold uU;rw[HT.yi,HT.AA,dA h,gq (by rw[dR];exact af _)]
theorem jD:Does 5 ky g6:=by
 rintro ds Q hn ⟨⟨u,a,b,v,da,db,na,ca,nb,cb,nf,bf⟩,⟨rfl,lu,lv,la,lb,da2,da6,db2,db6,hne⟩,q⟩;dsimp only at lu lv la lb da2 da6 db2 db6 hne q;obtain⟨at0,at1⟩:=ID (u:=u) (v:=v) (a:=a) (b:=b);refine rA at0 (rA (n:=u.length+1) at1 ?_);refine yV (p:=(((a.1.map D.int).length:Nat):Int)=((b.1.map D.int).length:Nat)) (λcc=>?_) (λcc=>?_)
 ·rw[aa,aa] at cc;exact q _ (.inl ⟨rfl,.inl (by omega)⟩)
 ·rw[aa,aa] at cc;have nd:da≠db:=by omega
  obtain⟨dd,za,zb,h1,h2,bn,n4,hf⟩:=hne nd;have w1:cb*a.1.length<=cb*7:=au _ (by omega);have w2:(nb+cb+10)*(a.1.length+1)<=(nb+cb+10)*8:=au _ (by omega);have w3:a.1.length*b.1.length<=7*7:=bA (by omega) (by omega);refine⟨rfl,(a.1,a.2,b.1,b.2,na,ca,nb,cb),⟨rfl,za,zb,by show ca+ca+cb*a.1.length<=8900000;omega,by show na+(nb+cb+10)*(a.1.length+1)<=4000000;omega,by show a.1.length*b.1.length<=190;omega,by show a.1.length<=190;omega,by show b.1.length<=190;omega⟩,?_⟩;rintro _ ⟨F,B,rfl,o⟩;have o:Pc.Of a.1 a.2 b.1 b.2 F B:=o;have eF:KD (F,B) a b:=λx=>Qp.FP za.fm.pos zb.fm.pos o x;have lF:F.length=da*db+1:=o.deg_eq za.fm.pos zb.fm.pos la lb (by omega) (rO za.fm la) (rO zb.fm lb);have zF:Pc.Pz nf bf F B:=hf (F,B) o;have ed:(((a.1.map D.int).length:Nat):Int)-1=((da:Nat):Int):=by rw[aa,la];omega
  refine⟨rfl,(F,B,db,da,nf,bf),⟨congrArg (λz=>[pD F B,.int z]) ed,zF,by show F.length=db*da+1;rw[lF,aS],by show 1<=db;omega,by show 1<=da;omega,by show db*da<=12;rw[aS];exact dd,bn,n4⟩,?_⟩;rintro _ (⟨rfl,no⟩|⟨G,U,R,C,rfl,cn,zR,zG,lR,e⟩)
  ·refine q _ (.inl ⟨rfl,.inr λf g h ff ef n=>?_⟩);obtain⟨e1,e2⟩:=Qp.tF ff o.1 λx=>by rw[ef x,← eF x]
   have lf:f.1.length=db*da+1:=by rw[e1,lF,aS]
   have c:=n.cn (by omega) (by omega) ff lf;rw[e1] at c;exact no h.1 h.2 c ⟨g.1,g.2,n.fg,λx=>by rw[← n.e x,e1,e2]⟩
  ·have cn:Cn F db da G U:=cn;have zR:Pc.Pz (tR nf (db*da)) (bR nf bf (db*da)) R C:=zR;have zG:Pc.Pz (tG nf da) (bG nf da) G U:=zG;obtain⟨m1,m2⟩:=yP cn.2.2 (show 1<=da by omega);have nt:Nt2 (F,B) (R,C) (G,U) db da:=⟨zR.fm,cn.1,cn.2.1,⟨by show G.getD (G.length-1) 0=U;rw[cn.2.1,aL];exact m1,m2⟩,e⟩;have lf:F.length=db*da+1:=by rw[lF,aS]
   have lL:((u++a::b::v).map pq).length=u.length+(v.length+2):=by rw[aa,am];rfl
   have e1:uU ((u++a::b::v).map pq) none (some ((u.length:Nat):Int))=u.map pq:=by
    rw[DT (by rw[lL];omega),aN,← aa (f:=pq) (as:=u),fE]
   have e2:uU ((u++a::b::v).map pq) (some (((u.length:Nat):Int)+2)) none=v.map pq:=by
    rw[show ((u.length:Nat):Int)+2=((u.length+2:Nat):Int) by omega,Ag (by rw[lL];omega),aN,List.drop_append,aa,show u.length+2-u.length=2 by omega,gr (by rw[aa];omega)];rfl
   refine⟨trivial,?_⟩;show oAdd (.tup (uU ((u++a::b::v).map pq) none (some ((u.length:Nat):Int)))) (.tup [pD R C,pD G U]) λd=>slD (cD (u++a::b::v)) (some (((u.length:Nat):Int)+2)) none λd'=>oAdd d d' Q;rw[e1];refine⟨by rw[aa];exact sE (by show u.length+2<=_;omega),⟨trivial,?_⟩⟩;show oAdd (.tup (u.map pq++[pD R C,pD G U])) (.tup (uU ((u++a::b::v).map pq) (some (((u.length:Nat):Int)+2)) none)) Q;rw[e2];have e3:u.map pq++[pD R C,pD G U]++v.map pq=(u++(R,C)::(G,U)::v).map pq:=by rw[aN,eY];rfl
   refine⟨by rw[am,aa,aa];exact sE (by show u.length+2+v.length<=_;omega),?_⟩;rw[e3];exact q _ (.inr ⟨(F,B),(R,C),(G,U),rfl,nd,zF,lf,eF,nt,nt.lg (by omega) (by omega) o.1 lf,zR,zG⟩)
def tw(cs:List Pl):List Int:=cs.map λc=>(c.1.length:Int)-1
def iL:SpB:=.of 1 (α:=List Pl) (λcs ds=>ds=[cD cs]/\cs.length<=100) (λcs d=>d = .lst ((tw cs).map D.int))
def my:TSd:=(iq [] (iI (iQ (gV 0)) [1] (gNm 1) ju (gX m8 (gU (gV 1) gW))))
theorem i9:Does 2 my iL:=by
 rintro ds Q hn ⟨cs,⟨rfl,hl⟩,q⟩;dsimp only at hl q;refine sO (λi y=>∃ c,cs[i]? = some c/\y=D.int ((c.1.length:Int)-1)) (by rw[aa];omega) (λi d hd=>?_) λys ly hy=>q _ (congrArg D.lst ?_)
 ·rw[aJ] at hd;obtain⟨c,hc,rfl⟩:=ab.mp hd;refine⟨rfl,(c.1,c.2),rfl,?_⟩;rintro _ rfl;exact⟨c,hc,rfl⟩
 ·rw[aa] at ly;refine dj (by rw[ly,tw,aa,aa]) λi h1 h2=>?_;obtain⟨c,hc,e⟩:=hy i _ (ar h1);rw[e,cO];unfold tw;rw[cO,(ai.mp hc).2]
def we(row:List Int)(due:Int):Nat->Nat
 | 0=>0
 | j+1=>if row.getD (j+1) 0=due then j+1 else we row due j
theorem HN(h:row.getD j 0=due):we row due j=j:=by
 cases j with
 | zero=>rfl
 | succ j=>show (if row.getD (j+1) 0=due then j+1 else we row due j)=j+1;rw[if_pos h]
def B7:List Int->List Int->List Nat
 | [],_=>[]
 | due::ds,row=>List.range' (we row due (row.length-1)) ((row.eraseIdx (we row due (row.length-1))).length-we row due (row.length-1))++B7 ds (row.eraseIdx (we row due (row.length-1)))
def vH:List Int->List Int->Bool
 | [],_=>true
 | due::ds,row=>row.contains due && vH ds (row.eraseIdx (we row due (row.length-1)))
def iX:SpB:=.of 2 (α:=List Pl×List Pl) (λ(L,M) ds=>ds=[cD L,cD M]/\L.length<=10/\M.length<=10/\vH (tw M).reverse (tw L)=true) (λ(L,M) d=>d = .lst ((B7 (tw M).reverse (tw L)).map λi:Nat=>D.int (i:Int)))
def og:TSd:=(iq [3] (gV 3))
def oh:TSd:=(iO [] (kP (gX iL (gU (gV 1) gW))) (gNm 4)
 (dSq (g7 [] (gNm 5) (gZ .Sub (jg 2) (dC (.int 1))))
 (dSq (iN (iu (iB .NotEq (jm 2 (gV 5)) (gV 4)))
 (oS [] 5 .Sub (dC (.int 1))))
 (dSq (m7 2 (gV 5))
 (ot [] 3 (md (gV 5) (jg 2)))))))
def pM:TSd:=(dSq (g7 [] (gNm 5) (gZ .Sub (jg 2) (dC (.int 1))))
 (dSq (iN (iu (iB .NotEq (jm 2 (gV 5)) (gV 4)))
 (oS [] 5 .Sub (dC (.int 1))))
 (dSq (m7 2 (gV 5))
 (ot [] 3 (md (gV 5) (jg 2))))))
def pN:TSd:=(ot [] 3 (md (gV 5) (jg 2)))
def oi:TSd:=dSq (jn [] 2 (gX iL (gU (gV 0) gW)))
 (dSq (jn [] 3 (ip gW))
 oh)
def qm:TSd:=dSq (jn [] 2 (gX iL (gU (gV 0) gW)))
 (dSq (jn [] 3 (ip gW))
 (dSq oh
 og))
theorem BQ{l:List Int}:∀{n:Nat},(l.map D.int).eraseIdx n=(l.eraseIdx n).map D.int:=by
 induction l with
 | nil=>intro n;simp
 | cons a l ih =>
  intro n;cases n with
  | zero=>simp
  | succ n=>simp[ih]
theorem AC(i n:Nat):G5 (i:Int) (n:Int)=(List.range' i (n-i)).map λk:Nat=>D.int (k:Int):=by
 unfold G5;rw[show ((n:Int)-(i:Int)).toNat=n-i by omega];refine dj (by simp) λj h1 h2=>?_;simp[List.getElem_range']
theorem G4{row:List Int}{told:List Nat}{due:Int}{d0 d1:D}{o5:SD}{E:EndsD}(hr:row.contains due=true)(l10:row.length<=10)(t10:told.length<=1000)
  (hE:∀ o5,E.nx [.val d0,.val d1,.own ((row.eraseIdx (we row due (row.length-1))).map D.int),.own ((told++List.range' (we row due (row.length-1)) ((row.eraseIdx (we row due (row.length-1))).length-we row due (row.length-1))).map λi:Nat=>D.int (i:Int)),.val (.int due),o5]) :
  pM.run E [.val d0,.val d1,.own (row.map D.int),.own (told.map λi:Nat=>D.int (i:Int)),.val (.int due),o5]:=by
 have mem:due∈row:=by simpa using hr
 obtain⟨k0,hk0,ek0⟩:=gF mem;have ek0:row.getD k0 0=due:=by rw[ah,ar hk0,ek0];rfl
 have ed:(((row.map D.int).length:Nat):Int)-1=((row.length-1:Nat):Int):=by rw[aa];omega
 refine⟨λst=>∃ j:Nat,st=[.val d0,.val d1,.own (row.map D.int),.own (told.map λi:Nat=>D.int (i:Int)),.val (.int due),.val (.int (j:Int))]/\j<row.length/\k0<=j/\we row due (row.length-1)=we row due j,λst=>match st with|[_,_,_,_,_,.val (.int j)]=>j.toNat|_=>0,⟨row.length-1,by rw[← ed];rfl,by omega,by omega,rfl⟩,?_⟩;rintro _ ⟨j,rfl,hj,kj,ej⟩;refine rA (tD hj) (Ln (p:=row.getD j 0=due) (λc=>?_) (λc=>?_))
 ·have j0:k0≠j:=λe=>c (by rw[← e];exact ek0);refine⟨⟨j-1,by show [SD.val d0,.val d1,.own (row.map D.int),.own (told.map λi:Nat=>D.int (i:Int)),.val (.int due),.val (.int ((j:Int)-1))]=_;rw[show (j:Int)-1=((j-1:Nat):Int) by omega],by omega,by omega,?_⟩,?_⟩
  ·obtain⟨m,rfl⟩:∃ m,j=m+1:=⟨j-1,by omega⟩;rw[ej,aL];show (if row.getD (m+1) 0=due then m+1 else we row due m)=_;rw[if_neg c]
  ·show ((j:Int)-1).toNat<((j:Int)).toNat;omega
 ·have el:we row due (row.length-1)=j:=by rw[ej,HN c]
  rw[el] at hE;have lr:(row.eraseIdx j).length=row.length-1:=by rw[gA,if_pos hj]
  refine⟨by rw[aa];exact sE (by omega),by omega,.int (row.getD j 0),tD hj,?_⟩;rw[aG];show pN.run E [.val d0,.val d1,.own ((row.map D.int).eraseIdx j),.own (told.map λi:Nat=>D.int (i:Int)),.val (.int due),.val (.int (j:Int))];rw[BQ];refine⟨(j:Int),(((row.eraseIdx j).map D.int).length:Nat),rfl,rfl,⟨by omega,by omega,by omega,by rw[aa];omega⟩,by rw[aa];exact sE (by omega),_,rfl,?_,?_⟩
  ·rw[aa,aa,AC,aa,bP];exact sE (by omega)
  ·rw[aa,AC,← aN];exact hE _
theorem yj(lL:L.length<=10)(lM:M.length<=10)(ok:vH (tw M).reverse (tw L)=true)
  (hE:∀ row o4 o5,E.nx [.val (cD L),.val (cD M),.own row,.own ((B7 (tw M).reverse (tw L)).map λi:Nat=>D.int (i:Int)),o4,o5]) :
  oi.run E (startD 6 [cD L,cD M]):=by
 refine⟨rfl,L,⟨rfl,by omega⟩,?_⟩;rintro _ rfl;refine⟨aC _,rfl,M,⟨rfl,by omega⟩,?_⟩;rintro _ rfl;have lI:(tw M).length=M.length:=by unfold tw;rw[aa]
 have lJ:(tw L).length=L.length:=by unfold tw;rw[aa]
 refine⟨λi st=>∃(row:List Int) (told:List Nat) (o4 o5:SD),st=[.val (cD L),.val (cD M),.own (row.map D.int),.own (told.map λi:Nat=>D.int (i:Int)),o4,o5]/\row.length<=10/\told.length<=10*i/\vH ((tw M).reverse.drop i) row=true/\B7 (tw M).reverse (tw L)=told++B7 ((tw M).reverse.drop i) row,⟨tw L,[],.no,.no,rfl,by omega,aC _,ok,rfl⟩,?_,?_⟩
 ·rintro i d _ hd ⟨row,told,o4,o5,rfl,lr,lt,ok',e⟩;have hd:((tw M).map D.int).reverse[i]? = some d:=hd;rw[← gS,aJ] at hd;obtain⟨due,hdue,rfl⟩:=ab.mp hd;have hi:=(ai.mp hdue).1;have hi':=hi;rw[aM,lI] at hi';have edr:(tw M).reverse.drop i=due::(tw M).reverse.drop (i+1):=by
   rw[cQ hi,(ai.mp hdue).2]
  rw[edr] at ok' e;obtain⟨o1,o2⟩:=ak.mp (show (row.contains due && vH ((tw M).reverse.drop (i+1)) (row.eraseIdx (we row due (row.length-1))))=true from ok');have le:(row.eraseIdx (we row due (row.length-1))).length<=row.length:=by rw[gA];split <;> omega
  refine G4 o1 lr (by omega) λo5=>⟨_,_,_,o5,rfl,by omega,?_,o2,?_⟩
  ·rw[am,bP];omega
  ·rw[e,eY];rfl
 ·rintro _ ⟨row,told,o4,o5,rfl,lr,lt,ok',e⟩;have e1:(((tw M).map D.int).reverse).length=M.length:=by rw[aM,aa,lI]
  rw[e1] at e;rw[gr (by rw[aM,lI];exact af _)] at e;have e:B7 (tw M).reverse (tw L)=told++[]:=e;rw[ci] at e;rw[← e];exact hE ..
theorem oV:Does 6 qm iX:=by
 rintro ds Q hn ⟨⟨L,M⟩,⟨rfl,lL,lM,ok⟩,q⟩;exact yj (E:=(rB Q).to (og.run (rB Q))) lL lM ok λrow o4 o5=>q _ rfl
def jE:SpB:=.of 1 (α:=List Pl) (λL ds=>ds=[cD L]/\∀ c∈L,Pc.Pz 133 133 c.1 c.2/\3<=c.1.length/\c.1.length<=7) (λL d=>∃ b:Bool,d = .bl b)
def lE:TSd:=(iq [] (dC (.bl true)))
def mS:TSd:=dSq (iO [] (iQ (gV 0)) (gNm 1)
 (dSq (g7 [] (gNm 2) (gZ .Sub (dB bLen bLen.mono (gU (dIx (gV 1) (dC (.int 0))) gW)) (dC (.int 1))))
 (dIf [] (iu (iB .NotEq (iI (kO (dC (.int 2)) (gV 2)) [3] (gNm 3) (jr (iu (iB .Eq (gZ .Mod (gV 2) (gV 3)) (dC (.int 0)))) (iu (iB .IsNot (gX iE (gU (gV 1) (gU (gV 3) gW))) (dC .non)))) (gV 3)) (ip gW)))
 (iq [] (dC (.bl false)))
 iA)))
 lE
def mz:TSd:=(dIf [] (iu (iB .NotEq (iI (kO (dC (.int 2)) (gV 2)) [3] (gNm 3) (jr (iu (iB .Eq (gZ .Mod (gV 2) (gV 3)) (dC (.int 0)))) (iu (iB .IsNot (gX iE (gU (gV 1) (gU (gV 3) gW))) (dC .non)))) (gV 3)) (ip gW)))
 (iq [] (dC (.bl false)))
 iA)
theorem KF(z:Pc.Pz 133 133 P B)(lP:P.length=n+1)(n2:2<=n)(n6:n<=6)(h1:E.rt (.bl false))(h2:E.nx [.val d0,.val (pD P B),.val (.int (n:Nat)),o3]) :
  mz.run E [.val d0,.val (pD P B),.val (.int (n:Nat)),o3]:=by
 have key:compD (uE 2 ((n:Int)-2).toNat) (rY [3] [.val d0,.val (pD P B),.val (.int (n:Nat)),o3]) (gNm 3) (jr (iu (iB .Eq (gZ .Mod (gV 2) (gV 3)) (dC (.int 0)))) (iu (iB .IsNot (gX iE (gU (gV 1) (gU (gV 3) gW))) (dC .non)))) (gV 3) λd=>([]:List D).length<=sizeLine/\oCmp .NotEq d (.lst []) λd=>match d with | .bl b=>(if b=true then E.rt (.bl false) else E.nx [.val d0,.val (pD P B),.val (.int (n:Nat)),o3])|_=>False:=by
  refine⟨by rw[qU];exact sE (by omega),λi ys=>∃ ns:List Int,ys=ns.map D.int,⟨[],rfl⟩,λi d ys hd _ hy=>?_,λys _ hy=>?_⟩
  ·obtain⟨ns,rfl⟩:=hy;obtain⟨hi,rfl⟩:=rS hd;have es:(2:Int)+((i:Nat):Int)=((i+2:Nat):Int):=by omega
   rw[es];obtain⟨s,hs⟩:∃ s,s=i+2:=⟨_,rfl⟩;rw[← hs];have s6:s<=5:=by omega
   refine⟨by omega,?_⟩;refine yV (p:=((n:Nat):Int).fmod (s:Int)=0) (λc=>?_) (λc=>⟨ns,rfl⟩);have dv:s∣n:=by
    have:((n:Nat):Int).fmod (s:Int)=((n%s:Nat):Int):=by
     rw[fL _ (by omega)];exact (Int.natCast_emod _ _).symm
    rw[this] at c;exact Nat.dvd_of_mod_eq_zero (by omega)
   obtain⟨k,hk⟩:=dv;rw[aS] at hk;have k1:1<=k:=by
    rcases cF k with y|y
    ·rw[y,dD] at hk;omega
    ·exact y
   have snoc:∃ ns':List Int,ns.map D.int++[D.int (s:Int)]=ns'.map D.int:=⟨ns++[(s:Int)],by rw[aN];rfl⟩;refine⟨rfl,(P,B,k,s,133,133),⟨rfl,z,by rw[lP,hk],k1,by omega,by omega,af _,by decide⟩,?_⟩;rintro _ (⟨rfl,_⟩|⟨G,U,R,C,rfl,_⟩)
   ·exact⟨ns,rfl⟩
   ·exact snoc
  ·obtain⟨ns,rfl⟩:=hy;refine⟨aC _,rfl,D.pls_ints _,rfl,Dr _,λk hk=>?_⟩;cases k
   ·exact h1
   ·exact h2
 exact⟨⟨by omega,by omega,by omega,by omega⟩,key⟩
theorem kI:Does 4 mS jE:=by
 rintro ds Q hn ⟨L,⟨rfl,hL⟩,q⟩;dsimp only at hL q;refine⟨λi st=>∃ o1 o2 o3:SD,st=[.val (cD L),o1,o2,o3],⟨.no,.no,.no,rfl⟩,?_,?_⟩
 ·rintro i d _ hd ⟨o1,o2,o3,rfl⟩;have hd:(L.map pq)[i]? = some d:=hd;rw[aJ] at hd;obtain⟨c,hc,rfl⟩:=ab.mp hd;obtain⟨z,l3,l7⟩:=hL c (aP hc);have ed:(((c.1.map D.int).length:Nat):Int)-1=((c.1.length-1:Nat):Int):=by rw[aa];omega
  suffices h:mz.run _ [.val (cD L),.val (pD c.1 c.2),.val (.int ((c.1.length-1:Nat):Int)),o3] by
   show mz.run _ [.val (cD L),.val (pD c.1 c.2),.val (.int ((((c.1.map D.int).length:Nat):Int)-1)),o3];rw[ed];exact h
  exact KF z (by omega) (by omega) (by omega) (q _ ⟨false,rfl⟩) ⟨_,_,_,rfl⟩
 ·rintro _ ⟨o1,o2,o3,rfl⟩;exact q _ ⟨true,rfl⟩
abbrev p0:Pl:=([],1)
structure Stt (L:List Pl)(l:List Nat)(zs:Nat->Nat×Nat):Prop where
 nea:LM L
 len:L.length=l.length
 dg:∀ i,i<l.length->(L.getD i p0).1.length=l.getD i 0+1
 sz:∀ i,i<l.length->Pc.Pz (zs i).1 (zs i).2 (L.getD i p0).1 (L.getD i p0).2
def Xr(i da db:Nat)(e:Nat×Nat)(L L':List Pl):Prop:=∃ u a b v f g h,L=u++a::b::v/\u.length=i/\L'=u++g::h::v/\Pc.Pz e.1 e.2 f.1 f.2/\f.1.length=db*da+1/\Nt2 f a b da db/\Nt2 f g h db da
theorem Xr.symm(h:Xr i da db e L L'):Xr i db da e L' L:=by
 obtain⟨u,a,b,v,f,g,h,rfl,hu,rfl,z,lf,n1,n2⟩:=h;exact⟨u,g,h,v,f,a,b,rfl,hu,rfl,z,by rw[lf,aS],n2,n1⟩
theorem AL{u u' v v':List Pl}{a b a' b':Pl}(h:u++a::b::v=u'++a'::b'::v')(l:u.length=u'.length):u=u'/\a=a'/\b=b'/\v=v':=by
 obtain⟨h1,h2⟩:=List.append_inj h l;injection h2 with h3 h4;injection h4 with h5 h6;exact⟨h1,h3,h5,h6⟩
theorem Xr.uniq(d1:1<=da)(d2:1<=db)(h:Xr i da db e L M)(h':Xr i da db e' L M'):M=M':=by
 obtain⟨u,a,b,v,f,g,h,rfl,hu,rfl,z,lf,n1,n2⟩:=h;obtain⟨u',a',b',v',f',g',h',e1,hu',rfl,z',lf',m1,m2⟩:=h';obtain⟨rfl,rfl,rfl,rfl⟩:=AL e1 (by omega);have ef:f=f':=by
  obtain⟨x1,x2⟩:=Qp.tF z.fm z'.fm λx=>by rw[n1.e x,m1.e x]
  exact Prod.ext x1 x2
 subst ef;obtain⟨rfl,rfl⟩:=n2.uniq m2 d2 d1 z.fm lf;rfl
theorem GU(h:i+1<L.length):∃ u v,L=u++L.getD i p0::L.getD (i+1) p0::v/\u.length=i:=by
 refine⟨L.take i,L.drop (i+2),?_,by rw[bh];omega⟩;have e1:L.drop i=L.getD i p0::L.drop (i+1):=by
  rw[cQ (by omega),ah,ar (by omega)];rfl
 have e2:L.drop (i+1)=L.getD (i+1) p0::L.drop (i+2):=by
  rw[cQ (by omega),ah,ar (by omega)];rfl
 rw[← e2,← e1,List.take_append_drop]
theorem Dx{u v:List Pl}{a b:Pl}:(u++a::b::v).getD u.length p0=a/\(u++a::b::v).getD (u.length+1) p0=b:=by
 rw[ah,ah,ax (af _),ax (by omega),bj,show u.length+1-u.length=1 by omega];exact⟨rfl,rfl⟩
theorem JT{u v:List Pl}{a b g h:Pl}{t:Nat}(h1:t≠u.length)(h2:t≠u.length+1):(u++g::h::v)[t]? = (u++a::b::v)[t]?:=by
 rcases aD t u.length with y|y
 ·rw[aR y,aR y]
 ·rw[ax y,ax y];obtain⟨s,hs⟩:∃ s,t-u.length=s+2:=⟨t-u.length-2,by omega⟩;rw[hs];rfl
def Lb(zs:Nat->Nat×Nat)(i:Nat):Prop:=(zs i).2+(zs i).2+(zs (i+1)).2*7<=8900000/\(zs i).1+((zs (i+1)).1+(zs (i+1)).2+10)*8<=4000000
theorem Xr.st(d1:1<=da)(d2:1<=db)(s:Stt L l zs)(h:Xr i da db e L L')(hi:i+1<l.length)(ll:l'.length=l.length)(a1:l'.getD i 0=db)(a2:l'.getD (i+1) 0=da)(a3:∀ t,t≠i->t≠i+1->l'.getD t 0=l.getD t 0/\zs' t=zs t)(z1:Pc.Pz (zs' i).1 (zs' i).2 (L'.getD i p0).1 (L'.getD i p0).2)(z2:Pc.Pz (zs' (i+1)).1 (zs' (i+1)).2 (L'.getD (i+1) p0).1 (L'.getD (i+1) p0).2):Stt L' l' zs':=by
 obtain⟨u,a,b,v,f,g,h,rfl,hu,rfl,z,lf,n1,n2⟩:=h;subst hu;obtain⟨x1,x2⟩:=Dx (u:=u) (v:=v) (a:=g) (b:=h);have lg:=n2.lg d2 d1 z.fm lf;have fo:∀(t:Nat),t≠u.length->t≠u.length+1->(u++g::h::v)[t]? = (u++a::b::v)[t]?:=λt h1 h2=>JT h1 h2;have go:∀(t:Nat),t≠u.length->t≠u.length+1->(u++g::h::v).getD t p0=(u++a::b::v).getD t p0:=λt h1 h2=>by
  rw[ah,ah,fo t h1 h2]
 have le:(u++g::h::v).length=(u++a::b::v).length:=by rw[am,am];rfl
 have at0:(u++g::h::v)[u.length]? = some g:=by rw[ax (af _),bj];rfl
 have at1:(u++g::h::v)[u.length+1]? = some h:=by rw[ax (by omega),show u.length+1-u.length=1 by omega];rfl
 have bt0:(u++a::b::v)[u.length]? = some a:=by rw[ax (af _),bj];rfl
 refine⟨⟨λc hc=>?_,λt c hc ht=>?_⟩,by rw[le,s.len,ll],λt ht=>?_,λt ht=>?_⟩
 ·rcases bE.mp hc with y|y
  ·exact s.nea.1 c (bE.mpr (.inl y))
  ·rcases ao.mp y with y|y
   ·rw[y];exact n2.fg
   ·rcases ao.mp y with y|y
    ·rw[y];exact n2.fh
    ·exact s.nea.1 c (bE.mpr (.inr (az _ (az _ y))))
 ·by_cases e1:t=u.length
  ·subst e1;rw[at0] at hc;cases hc;exact n2.ne1 d2 d1 z.fm lf n1 (s.nea.2 _ a bt0 ht)
  ·by_cases e2:t=u.length+1
   ·subst e2;rw[at1] at hc;cases hc;exact n2.ne
   ·rw[fo t e1 e2] at hc;exact s.nea.2 t c hc ht
 ·by_cases e1:t=u.length
  ·subst e1;rw[x1,a1,lg]
  ·by_cases e2:t=u.length+1
   ·subst e2;rw[x2,a2,n2.lh]
   ·rw[go t e1 e2,(a3 t e1 e2).1];exact s.dg t (by omega)
 ·by_cases e1:t=u.length
  ·rw[e1];exact z1
  ·by_cases e2:t=u.length+1
   ·rw[e2];exact z2
   ·rw[go t e1 e2,(a3 t e1 e2).2];exact s.sz t (by omega)
theorem ux(s:Stt L l zs)(hi:i+1<l.length)(l3:l.length<=3)(hda:l.getD i 0=da)(hdb:l.getD (i+1) 0=db)(da2:2<=da)(da6:da<=6)(db2:2<=db)(db6:db<=6)
  (hB:da≠db->da*db<=12/\Lb zs i/\e.2<=e.1/\e.1<=80000/\∀ f:Pl,Pc.Of (L.getD i p0).1 (L.getD i p0).2 (L.getD (i+1) p0).1 (L.getD (i+1) p0).2 f.1 f.2->Pc.Pz e.1 e.2 f.1 f.2)
  (hA:da=db->Q .non) (hN:da≠db->(∀ e' L',¬ Xr i da db e' L L')->Q .non)
  (hY:da≠db->∀ L',Xr i da db e L L'->Pc.Pz (tR e.1 (db*da)) (bR e.1 e.2 (db*da)) (L'.getD i p0).1 (L'.getD i p0).2->Pc.Pz (tG e.1 da) (bG e.1 da) (L'.getD (i+1) p0).1 (L'.getD (i+1) p0).2->Q (cD L')) :
  [cD L,.int (i:Nat)].length=g6.n/\g6.run [cD L,.int (i:Nat)] Q:=by
 have hi':i+1<L.length:=by rw[s.len];exact hi
 obtain⟨u,v,eL,hu⟩:=GU hi';have lv:u.length+(v.length+2)=L.length:=by
  have:=congrArg List.length eL;rw[am] at this;exact this.symm
 have sl:=s.len;have la:=s.dg i (by omega);have lb:=s.dg (i+1) hi;have za:=s.sz i (by omega);have zb:=s.sz (i+1) hi;have nb:=s.nea.2 (i+1) (L.getD (i+1) p0) (by rw[ah,ar hi'];rfl) (by omega);have fa:=za.fm;have fb:=zb.fm;rw[hda] at la;rw[hdb] at lb;generalize L.getD i p0=a at *;generalize L.getD (i+1) p0=b at *;subst eL;subst hu;refine⟨rfl,(u,a,b,v,da,db,(zs u.length).1,(zs u.length).2,(zs (u.length+1)).1,(zs (u.length+1)).2,e.1,e.2),⟨rfl,by omega,by omega,la,lb,da2,da6,db2,db6,λnd=>?_⟩,?_⟩
 ·obtain⟨h1,⟨h2,h3⟩,h4,h5,h6⟩:=hB nd;exact⟨h1,za,zb,h2,h3,h4,h5,h6⟩
 ·rintro _ (⟨rfl,(h|h)⟩|⟨f,g,h,rfl,nd,zf,lf,ef,nt,lg,zg,zh⟩)
  ·exact hA h
  ·by_cases nd:da=db
   ·exact hA nd
   ·refine hN nd λe' L' x=>?_;obtain⟨u',a',b',v',f,g,h',e1,hu',rfl,z,lf,n1,n2⟩:=x;obtain⟨rfl,rfl,rfl,rfl⟩:=AL e1 (by omega);exact h f g h' z.fm n1.e n2
  ·obtain⟨x1,x2⟩:=Dx (u:=u) (v:=v) (a:=g) (b:=h);exact hY nd _ ⟨u,a,b,v,f,g,h,rfl,rfl,rfl,zf,lf,⟨fa,fb,lb,nb,ef⟩,nt⟩ (by rw[x1];exact zg) (by rw[x2];exact zh)
def IN(da:Nat)(a b:Nat×Nat):Nat×Nat:=(a.1+(b.1+b.2+10)*(da+1)+1,a.2+(b.2*(da+1)+1))
def xv(pl:Nat->Nat)(j k:Nat):List Nat:=if j<=k then (List.range' j (k-j)).map pl else ((List.range' k (j-k)).map pl).reverse
def IL(a b:Nat×Nat):Prop:=a.1<=b.1/\a.2<=b.2
def zI(l:List Nat):List Int:=l.map λn:Nat=>(n:Int)
structure Line (n k0:Nat)(dg:Nat->List Nat)(pl:Nat->Nat)(zz:Nat->Nat->Nat×Nat)(eb:Nat->Nat×Nat):Prop where
 hlen:∀ j,j<n->2<=(dg j).length/\(dg j).length<=3/\∀ i,i<(dg j).length->2<=(dg j).getD i 0/\(dg j).getD i 0<=6
 hnb:∀ j i,j<n->i+1<(dg j).length->(dg j).getD i 0≠(dg j).getD (i+1) 0->(j+1<n/\i=pl j)\/∃ j',j=j'+1/\i=pl j'
 hpl:∀ j,j+1<n->pl j+1<(dg j).length/\(dg j).getD (pl j) 0≠(dg j).getD (pl j+1) 0/\(dg j).getD (pl j) 0*(dg j).getD (pl j+1) 0<=12/\(dg (j+1)).length=(dg j).length/\(dg (j+1)).getD (pl j) 0=(dg j).getD (pl j+1) 0/\(dg (j+1)).getD (pl j+1) 0=(dg j).getD (pl j) 0/\∀ t,t≠pl j->t≠pl j+1->(dg (j+1)).getD t 0=(dg j).getD t 0/\zz (j+1) t=zz j t
 hok:∀ j,j+1<n->Lb (zz j) (pl j)/\Lb (zz (j+1)) (pl j)/\(eb j).2<=(eb j).1/\(eb j).1<=80000
 hrt:∀ j,j+1<n->k0<=j->IL (IN ((dg j).getD (pl j) 0) (zz j (pl j)) (zz j (pl j+1))) (eb j)/\IL (tR (eb j).1 ((dg j).getD (pl j+1) 0*(dg j).getD (pl j) 0),bR (eb j).1 (eb j).2 ((dg j).getD (pl j+1) 0*(dg j).getD (pl j) 0)) (zz (j+1) (pl j))/\IL (tG (eb j).1 ((dg j).getD (pl j) 0),bG (eb j).1 ((dg j).getD (pl j) 0)) (zz (j+1) (pl j+1))
 hlf:∀ j,j+1<n->j<k0->IL (IN ((dg j).getD (pl j+1) 0) (zz (j+1) (pl j)) (zz (j+1) (pl j+1))) (eb j)/\IL (tR (eb j).1 ((dg j).getD (pl j) 0*(dg j).getD (pl j+1) 0),bR (eb j).1 (eb j).2 ((dg j).getD (pl j) 0*(dg j).getD (pl j+1) 0)) (zz j (pl j))/\IL (tG (eb j).1 ((dg j).getD (pl j+1) 0),bG (eb j).1 ((dg j).getD (pl j+1) 0)) (zz j (pl j+1))
 hrd:∀ j k,j<n->k<n->vH (zI (dg k)).reverse (zI (dg j))=true/\B7 (zI (dg k)).reverse (zI (dg j))=xv pl j k
section
variable{n k0:Nat}{dg:Nat->List Nat}{pl:Nat->Nat}{zz:Nat->Nat->Nat×Nat}{eb:Nat->Nat×Nat}
structure Wk (k0:Nat)(dg:Nat->List Nat)(pl:Nat->Nat)(zz:Nat->Nat->Nat×Nat)(eb:Nat->Nat×Nat)(n:Nat)(S:Nat->List Pl)(lo hi:Nat):Prop where
 a:lo<=k0
 b:k0<=hi
 c:hi<n
 st:∀ j,lo<=j->j<=hi->Stt (S j) (dg j) (zz j)
 ed:∀ j,lo<=j->j<hi->Xr (pl j) ((dg j).getD (pl j) 0) ((dg j).getD (pl j+1) 0) (eb j) (S j) (S (j+1))
variable{S:Nat->List Pl}{lo hi:Nat}
theorem Dc{a b f:Pl}{da:Nat}{za zb e:Nat×Nat}(la:a.1.length=da+1)(h6:da<=6)(lb:b.1.length<=7)(pa:Pc.Pz za.1 za.2 a.1 a.2)(pb:Pc.Pz zb.1 zb.2 b.1 b.2)(o:Pc.Of a.1 a.2 b.1 b.2 f.1 f.2)(h:IL (IN da za zb) e):Pc.Pz e.1 e.2 f.1 f.2:=by
 have w:a.1.length*b.1.length<=7*7:=bA (by omega) lb;have z:=o.size pa pb (by omega);rw[la] at z;exact z.mono h.1 h.2
theorem Gs{i da db:Nat}{e:Nat×Nat}{L L':List Pl}(x:Xr i da db e L L'){f:Pl}(o:Pc.Of (L.getD i p0).1 (L.getD i p0).2 (L.getD (i+1) p0).1 (L.getD (i+1) p0).2 f.1 f.2):Pc.Pz e.1 e.2 f.1 f.2:=by
 obtain⟨u,a,b,v,f',g,h,rfl,hu,rfl,z,lf,n1,n2⟩:=x;subst hu;obtain⟨x1,x2⟩:=Dx (u:=u) (v:=v) (a:=a) (b:=b);rw[x1,x2] at o;obtain⟨e1,e2⟩:=Qp.tF o.1 z.fm λx=>by rw[Qp.FP n1.fg.pos n1.fh.pos o,n1.e x]
 rw[e1,e2];exact z
theorem JR(P:Line n k0 dg pl zz eb)(w:Wk k0 dg pl zz eb n S lo hi)(k1:lo<=k)(k2:k<hi)(q:Q (cD (S (k+1)))):[cD (S k),.int (pl k:Nat)].length=g6.n/\g6.run [cD (S k),.int (pl k:Nat)] Q:=by
 have hc:=w.c;obtain⟨p1,p2,p3,p4,p5,p6,p7⟩:=P.hpl k (by omega);obtain⟨l1,l2,l3⟩:=P.hlen k (by omega);obtain⟨o1,o2,o3,o4⟩:=P.hok k (by omega);have x:=w.ed k k1 k2;have d1:=l3 (pl k) (by omega);have d2:=l3 (pl k+1) p1;exact ux (e:=eb k) (w.st k k1 (by omega)) p1 l2 rfl rfl d1.1 d1.2 d2.1 d2.2 (λ_=>⟨p3,o1,o3,o4,λf o=>Gs x o⟩) (λh=>absurd h p2) (λ_ h=>absurd x (h _ _)) λ_ L' x' _ _=>by
  rw[x'.uniq (by omega) (by omega) x];exact q
theorem JS(P:Line n k0 dg pl zz eb)(w:Wk k0 dg pl zz eb n S lo hi)(k1:lo<=k)(k2:k<hi)(q:Q (cD (S k))):[cD (S (k+1)),.int (pl k:Nat)].length=g6.n/\g6.run [cD (S (k+1)),.int (pl k:Nat)] Q:=by
 have hc:=w.c;obtain⟨p1,p2,p3,p4,p5,p6,p7⟩:=P.hpl k (by omega);obtain⟨l1,l2,l3⟩:=P.hlen k (by omega);obtain⟨m1,m2,m3⟩:=P.hlen (k+1) (by omega);obtain⟨o1,o2,o3,o4⟩:=P.hok k (by omega);have x:=(w.ed k k1 k2).symm;have d1:=l3 (pl k) (by omega);have d2:=l3 (pl k+1) p1;exact ux (e:=eb k) (w.st (k+1) (by omega) k2) (by rw[p4];exact p1) m2 p5 p6 d2.1 d2.2 d1.1 d1.2 (λ_=>⟨by rw[aS];exact p3,o2,o3,o4,λf o=>Gs x o⟩) (λh=>absurd h.symm p2) (λ_ h=>absurd x (h _ _)) λ_ L' x' _ _=>by
  rw[x'.uniq (by omega) (by omega) x];exact q
theorem IT(P:Line n k0 dg pl zz eb)(w:Wk k0 dg pl zz eb n S lo hi)(k1:lo<=k)(k2:k<=hi)(hi':i+1<(dg k).length)(qN:Q .non)(qY:∀ S' lo' hi' k',Wk k0 dg pl zz eb n S' lo' hi'->lo'<=k'->k'<=hi'->S' k0=S k0->Q (cD (S' k'))):[cD (S k),.int (i:Nat)].length=g6.n/\g6.run [cD (S k),.int (i:Nat)] Q:=by
 have hc:=w.c;have ha:=w.a;have hb:=w.b;obtain⟨l1,l2,l3⟩:=P.hlen k (by omega);have d1:=l3 i (by omega);have d2:=l3 (i+1) hi';by_cases ee:(dg k).getD i 0=(dg k).getD (i+1) 0
 ·exact ux (e:=(0,0)) (w.st k k1 k2) hi' l2 rfl rfl d1.1 d1.2 d2.1 d2.2 (λh=>absurd ee h) (λ_=>qN) (λh=>absurd ee h) (λh=>absurd ee h)
 ·rcases P.hnb k i (by omega) hi' ee with⟨kn,rfl⟩|⟨j,rfl,rfl⟩
  ·rcases aD k hi with y|y
   ·exact JR P w k1 y (qY S lo hi (k+1) w (by omega) y rfl)
   ·have ek:k=hi:=by omega
    subst ek;obtain⟨p1,p2,p3,p4,p5,p6,p7⟩:=P.hpl k kn;obtain⟨o1,o2,o3,o4⟩:=P.hok k kn;obtain⟨r1,r2,r3⟩:=P.hrt k kn hb;have s:=w.st k k1 k2;have la:=s.dg (pl k) (by omega);have lb:=s.dg (pl k+1) p1;refine ux (e:=eb k) s p1 l2 rfl rfl d1.1 d1.2 d2.1 d2.2 (λ_=>⟨p3,o1,o3,o4,λf o=>Dc la d1.2 (by omega) (s.sz (pl k) (by omega)) (s.sz (pl k+1) p1) o r1⟩) (λh=>absurd h p2) (λ_ _=>qN) λ_ L' x zg zh=>?_;have s':Stt L' (dg (k+1)) (zz (k+1)):=x.st (by omega) (by omega) s p1 p4 p5 p6 p7 (zg.mono r2.1 r2.2) (zh.mono r3.1 r3.2);obtain⟨S',e1,e2⟩:∃ S':Nat->List Pl,S' (k+1)=L'/\∀ j,j≠k+1->S' j=S j:=⟨λj=>if j=k+1 then L' else S j,if_pos rfl,λj h=>if_neg h⟩;have:=qY S' lo (k+1) (k+1) ⟨ha,by omega,kn,λj j1 j2=>?_,λj j1 j2=>?_⟩ (by omega) (af _) (e2 k0 (by omega))
    ·rw[e1] at this;exact this
    ·by_cases ej:j=k+1
     ·subst ej;rw[e1];exact s'
     ·rw[e2 j ej];exact w.st j j1 (by omega)
    ·by_cases ej:j=k
     ·subst ej;rw[e1,e2 j (by omega)];exact x
     ·rw[e2 j (by omega),e2 (j+1) (by omega)];exact w.ed j j1 (by omega)
  ·rcases aD j lo with y|y
   ·have ek:lo=j+1:=by omega
    subst ek;have kn:j+1<n:=by omega
    obtain⟨p1,p2,p3,p4,p5,p6,p7⟩:=P.hpl j kn;obtain⟨o1,o2,o3,o4⟩:=P.hok j kn;obtain⟨r1,r2,r3⟩:=P.hlf j kn (by omega);have s:=w.st (j+1) k1 k2;rw[p5] at d1;rw[p6] at d2;have la:=s.dg (pl j) (by omega);have lb:=s.dg (pl j+1) (by omega);rw[p5] at la;refine ux (e:=eb j) s hi' l2 p5 p6 d1.1 d1.2 d2.1 d2.2 (λ_=>⟨by rw[aS];exact p3,o2,o3,o4,λf o=>Dc la d1.2 (by omega) (s.sz (pl j) (by omega)) (s.sz (pl j+1) (by omega)) o r1⟩) (λh=>absurd h.symm p2) (λ_ _=>qN) λ_ L' x zg zh=>?_;have s':Stt L' (dg j) (zz j):=x.st (by omega) (by omega) s hi' p4.symm rfl rfl (λt h1 h2=>⟨(p7 t h1 h2).1.symm,(p7 t h1 h2).2.symm⟩) (zg.mono r2.1 r2.2) (zh.mono r3.1 r3.2);obtain⟨S',e1,e2⟩:∃ S':Nat->List Pl,S' j=L'/\∀ t,t≠j->S' t=S t:=⟨λt=>if t=j then L' else S t,if_pos rfl,λt h=>if_neg h⟩;have:=qY S' j hi j ⟨by omega,hb,hc,λt j1 j2=>?_,λt j1 j2=>?_⟩ (af _) (by omega) (e2 k0 (by omega))
    ·rw[e1] at this;exact this
    ·by_cases ej:t=j
     ·subst ej;rw[e1];exact s'
     ·rw[e2 t ej];exact w.st t (by omega) j2
    ·by_cases ej:t=j
     ·subst ej;rw[e1,e2 (t+1) (by omega)];exact x.symm
     ·rw[e2 t ej,e2 (t+1) (by omega)];exact w.ed t (by omega) j2
   ·exact JS P w y (by omega) (qY S lo hi j w y (by omega) rfl)
end
def KG(i:Nat)(v w:Nat×Nat)(f:Nat->Nat×Nat):Nat->Nat×Nat:=λt=>if t=i then v else if t=i+1 then w else f t
theorem vy(h1:t≠i)(h2:t≠i+1):KG i v w f t=f t:=by
 unfold KG;rw[if_neg h1,if_neg h2]
def nz(da N i:Nat)(e:Nat×Nat)(f:Nat->Nat×Nat):Nat->Nat×Nat:=KG i (tR e.1 N,bR e.1 e.2 N) (tG e.1 da,bG e.1 da) f
def Ej:Nat->Nat×Nat:=λ_=>(133,133)
theorem Ge(hl:(∃ m,l=[m,m]/\2<=m/\m<=6)\/l=[2,2,2]):Line 1 0 (λ_=>l) (λ_=>0) (λ_=>Ej) λ_=>(0,0):=by
 refine⟨λj hj=>?_,λj i hj hi he=>?_,λj hj=>?_,λj hj=>?_,λj hj=>?_,λj hj=>?_,λj k hj hk=>?_⟩
 ·rcases hl with⟨m,rfl,m2,m6⟩|rfl
  ·refine⟨af _,by show 2<=3;decide,λi hi=>?_⟩;match i,hi with
   | 0,_=>exact⟨m2,m6⟩
   | 1,_=>exact⟨m2,m6⟩
  ·exact⟨by decide,by decide,by decide⟩
 ·exfalso;rcases hl with⟨m,rfl,m2,m6⟩|rfl
  ·have:i=0:=by have:i+1<2:=hi;omega
   subst this;exact he rfl
  ·have:i+1<3:=hi;rcases (by omega:i=0\/i=1) with rfl|rfl
   ·exact he rfl
   ·exact he rfl
 ·omega
 ·omega
 ·omega
 ·omega
 ·have e1:j=0:=by omega
  have e2:k=0:=by omega
  subst e1 e2;rcases hl with⟨m,rfl,m2,m6⟩|rfl
  ·simp[vH,B7,we,zI,xv]
  ·decide
def Mo:Nat->Nat->Nat×Nat
 | 0=>Ej
 | _+1=>nz 6 12 0 (2066,1065) Ej
def Mb(m k:Nat):Nat->List Nat
 | 0=>[m,k]
 | _+1=>[k,m]
theorem JJ(ne:m≠k)(m2:2<=m)(m6:m<=6)(k2:2<=k)(k6:k<=6)(mk:m*k<=12):Line 2 0 (Mb m k) (λ_=>0) Mo λ_=>(2066,1065):=by
 refine⟨λj hj=>?_,λj i hj hi he=>?_,λj hj=>?_,λj hj=>?_,λj hj h0=>?_,λj hj h0=>?_,λj t hj ht=>?_⟩
 ·rcases (by omega:j=0\/j=1) with rfl|rfl
  ·refine⟨af _,by show 2<=3;decide,λi hi=>?_⟩;match i,hi with
   | 0,_=>exact⟨m2,m6⟩
   | 1,_=>exact⟨k2,k6⟩
  ·refine⟨af _,by show 2<=3;decide,λi hi=>?_⟩;match i,hi with
   | 0,_=>exact⟨k2,k6⟩
   | 1,_=>exact⟨m2,m6⟩
 ·rcases (by omega:j=0\/j=1) with rfl|rfl
  ·have:i+1<2:=hi;exact .inl ⟨by decide,by omega⟩
  ·have:i+1<2:=hi;exact .inr ⟨0,rfl,by omega⟩
 ·have e1:j=0:=by omega
  subst e1;refine⟨by show 0+1<2;decide,ne,mk,rfl,rfl,rfl,λt h1 h2=>?_⟩;refine⟨?_,vy h1 h2⟩;match t,h1,h2 with
  | t+2,_,_=>rfl
 ·have e1:j=0:=by omega
  subst e1;exact⟨⟨by decide,by decide⟩,⟨by decide,by decide⟩,by decide,by decide⟩
 ·have e1:j=0:=by omega
  subst e1;have w1:k*m<=12:=by rw[aS];exact mk
  refine⟨⟨?_,?_⟩,⟨?_,?_⟩,⟨?_,?_⟩⟩
  ·show 133+(133+133+10)*(m+1)+1<=2066;omega
  ·show 133+(133*(m+1)+1)<=1065;omega
  ·show 2066+404+(2*2066+31)*(k*m)<=2066+404+(2*2066+31)*12;exact Nat.add_le_add_left (au _ w1) _
  ·show 1065+(2066+8)*(k*m)+1<=1065+(2066+8)*12+1;have:=au (2066+8) w1;omega
  ·show (2*2066+31)*m+2<=(2*2066+31)*6+2;have:=au (2*2066+31) m6;omega
  ·show (2066+8)*m+1<=(2066+8)*6+1;have:=au (2066+8) m6;omega
 ·omega
 ·have n1:¬ (k:Int)=(m:Int):=by omega
  have n2:¬ (m:Int)=(k:Int):=by omega
  rcases (by omega:j=0\/j=1) with rfl|rfl <;> rcases (by omega:t=0\/t=1) with rfl|rfl <;> simp[vH,B7,we,zI,xv,Mb,n1,n2]
def yH:Nat->List Nat
 | 0=>[2,2,3]
 | 1=>[2,3,2]
 | _+2=>[3,2,2]
def F4:Nat->Nat
 | 0=>1
 | _+1=>0
def eC(da:Nat):Nat×Nat:=IN da (133,133) (133,133)
def Ko:Nat->Nat×Nat:=nz 2 6 1 (eC 2) Ej
def eA:Nat->Nat×Nat
 | 0=>eC 2
 | _+1=>IN 2 (Ko 0) (Ko 1)
def zA:Nat->Nat->Nat×Nat
 | 0=>Ej
 | 1=>Ko
 | _+2=>nz 2 6 0 (eA 1) Ko
def eB:Nat->Nat×Nat
 | 0=>eC 3
 | _+1=>eC 2
def zB:Nat->Nat->Nat×Nat
 | 0=>nz 3 6 1 (eC 3) Ej
 | 1=>Ej
 | _+2=>nz 2 6 0 (eC 2) Ej
def Kn:Nat->Nat×Nat:=nz 3 6 0 (eC 3) Ej
def eD:Nat->Nat×Nat
 | 0=>IN 3 (Kn 1) (Kn 2)
 | _+1=>eC 3
def zC:Nat->Nat->Nat×Nat
 | 0=>nz 3 6 1 (eD 0) Kn
 | 1=>Kn
 | _+2=>Ej
theorem KY:∀ j k,j<3->k<3->vH (zI (yH k)).reverse (zI (yH j))=true/\B7 (zI (yH k)).reverse (zI (yH j))=xv F4 j k:=by
 intro j k hj hk;rcases (by omega:j=0\/j=1\/j=2) with rfl|rfl|rfl <;> rcases (by omega:k=0\/k=1\/k=2) with rfl|rfl|rfl <;> decide
theorem HS:∀ j,j<3->2<=(yH j).length/\(yH j).length<=3/\∀ i,i<(yH j).length->2<=(yH j).getD i 0/\(yH j).getD i 0<=6:=by
 intro j hj;rcases (by omega:j=0\/j=1\/j=2) with rfl|rfl|rfl <;> exact⟨by decide,by decide,by decide⟩
theorem Lg:∀ j i,j<3->i+1<(yH j).length->(yH j).getD i 0≠(yH j).getD (i+1) 0->(j+1<3/\i=F4 j)\/∃ j',j=j'+1/\i=F4 j':=by
 intro j i hj hi he;rcases (by omega:j=0\/j=1\/j=2) with rfl|rfl|rfl
 ·have:i+1<3:=hi;rcases (by omega:i=0\/i=1) with rfl|rfl
  ·exact absurd rfl he
  ·exact .inl ⟨by decide,rfl⟩
 ·have:i+1<3:=hi;rcases (by omega:i=0\/i=1) with rfl|rfl
  ·exact .inl ⟨by decide,rfl⟩
  ·exact .inr ⟨0,rfl,rfl⟩
 ·have:i+1<3:=hi;rcases (by omega:i=0\/i=1) with rfl|rfl
  ·exact .inr ⟨1,rfl,rfl⟩
  ·exact absurd rfl he
theorem DG(hj:j+1<3)(h1:t≠F4 j)(h2:t≠F4 j+1):(yH (j+1)).getD t 0=(yH j).getD t 0:=by
 rcases (by omega:j=0\/j=1) with rfl|rfl
 ·match t,h1,h2 with
  | 0,_,_=>rfl
  | 1,h1,_=>exact absurd rfl h1
  | 2,_,h2=>exact absurd rfl h2
  | t+3,_,_=>rfl
 ·match t,h1,h2 with
  | 0,h1,_=>exact absurd rfl h1
  | 1,_,h2=>exact absurd rfl h2
  | 2,_,_=>rfl
  | t+3,_,_=>rfl
theorem HR:Line 3 0 yH F4 zA eA:=by
 refine⟨HS,Lg,λj hj=>?_,λj hj=>?_,λj hj h0=>?_,λj hj h0=>by omega,KY⟩
 ·refine⟨?_,?_,?_,?_,?_,?_,λt h1 h2=>⟨DG hj h1 h2,?_⟩⟩
  rotate_left 6
  ·rcases (by omega:j=0\/j=1) with rfl|rfl
   ·exact vy h1 h2
   ·exact vy h1 h2
  all_goals rcases (by omega:j=0\/j=1) with rfl|rfl <;> decide
 ·rcases (by omega:j=0\/j=1) with rfl|rfl <;> exact⟨⟨by decide,by decide⟩,⟨by decide,by decide⟩,by decide,by decide⟩
 ·rcases (by omega:j=0\/j=1) with rfl|rfl <;> exact⟨⟨by decide,by decide⟩,⟨by decide,by decide⟩,⟨by decide,by decide⟩⟩
theorem HQ:Line 3 1 yH F4 zB eB:=by
 refine⟨HS,Lg,λj hj=>?_,λj hj=>?_,λj hj h0=>?_,λj hj h0=>?_,KY⟩
 ·refine⟨?_,?_,?_,?_,?_,?_,λt h1 h2=>⟨DG hj h1 h2,?_⟩⟩
  rotate_left 6
  ·rcases (by omega:j=0\/j=1) with rfl|rfl
   ·exact (vy h1 h2).symm
   ·exact vy h1 h2
  all_goals rcases (by omega:j=0\/j=1) with rfl|rfl <;> decide
 ·rcases (by omega:j=0\/j=1) with rfl|rfl <;> exact⟨⟨by decide,by decide⟩,⟨by decide,by decide⟩,by decide,by decide⟩
 ·have e:j=1:=by omega
  subst e;exact⟨⟨by decide,by decide⟩,⟨by decide,by decide⟩,⟨by decide,by decide⟩⟩
 ·have e:j=0:=by omega
  subst e;exact⟨⟨by decide,by decide⟩,⟨by decide,by decide⟩,⟨by decide,by decide⟩⟩
theorem HP:Line 3 2 yH F4 zC eD:=by
 refine⟨HS,Lg,λj hj=>?_,λj hj=>?_,λj hj h0=>by omega,λj hj h0=>?_,KY⟩
 ·refine⟨?_,?_,?_,?_,?_,?_,λt h1 h2=>⟨DG hj h1 h2,?_⟩⟩
  rotate_left 6
  ·rcases (by omega:j=0\/j=1) with rfl|rfl
   ·exact (vy h1 h2).symm
   ·exact (vy h1 h2).symm
  all_goals rcases (by omega:j=0\/j=1) with rfl|rfl <;> decide
 ·rcases (by omega:j=0\/j=1) with rfl|rfl <;> exact⟨⟨by decide,by decide⟩,⟨by decide,by decide⟩,by decide,by decide⟩
 ·rcases (by omega:j=0\/j=1) with rfl|rfl <;> exact⟨⟨by decide,by decide⟩,⟨by decide,by decide⟩,⟨by decide,by decide⟩⟩
theorem Fi(h:Dgs l):∃ n k0 dg pl zz eb,Line n k0 dg pl zz eb/\k0<n/\n<=3/\dg k0=l/\∀ i,zz k0 i=(133,133):=by
 rcases h with⟨m,k,rfl,m2,m6,k2,k6,mk⟩|rfl|rfl|rfl|rfl
 ·by_cases e:m=k
  ·subst e;exact⟨1,0,_,_,_,_,Ge (.inl ⟨m,rfl,m2,m6⟩),by decide,by decide,rfl,λi=>rfl⟩
  ·exact⟨2,0,_,_,_,_,JJ e m2 m6 k2 k6 mk,by decide,by decide,rfl,λi=>rfl⟩
 ·exact⟨1,0,_,_,_,_,Ge (.inr rfl),by decide,by decide,rfl,λi=>rfl⟩
 ·exact⟨3,1,_,_,_,_,HQ,by decide,by decide,rfl,λi=>rfl⟩
 ·exact⟨3,0,_,_,_,_,HR,by decide,by decide,rfl,λi=>rfl⟩
 ·exact⟨3,2,_,_,_,_,HP,by decide,by decide,rfl,λi=>rfl⟩
def MM(L M:List Pl)(is:List Nat):Prop:=∃ n k0 dg pl zz eb S lo hi j k,Line n k0 dg pl zz eb/\Wk k0 dg pl zz eb n S lo hi/\lo<=j/\j<=hi/\lo<=k/\k<=hi/\L=S j/\M=S k/\is=xv pl j k
def wc(is:List Nat):List D:=is.map λi:Nat=>D.int (i:Int)
def iD:SpB:=.of 3 (α:=List Pl×List Pl×List Nat) (λ(L,M,is) ds=>ds=[cD L,cD M,.lst (wc is)]/\MM L M is) (λ_ d=>d = .bl true)
def lK:TSd:=(iq [] (iB .Eq (gV 0) (gV 1)))
def lU:TSd:=dSq (iO [] (iQ (gV 2)) (gNm 3)
 (dSq (dIf [] (kA (iP (jj (nq .int (gV 3)))) (kA (jj (nq .bool (gV 3))) (iP (iu (ja .LtE .Lt (dC (.int 0)) (gV 3) (gZ .Sub (dB bLen bLen.mono (gU (gV 0) gW)) (dC (.int 1))))))))
 (iq [] (dC (.bl false)))
 iA)
 (dSq (g7 [] (gNm 0) (gX g6 (gU (gV 0) (gU (gV 3) gW))))
 (dIf [] (iu (iB .Is (gV 0) (dC .non)))
 (iq [] (dC (.bl false)))
 iA))))
 lK
def mT:TSd:=dSq (dIf [] (iP (jj (nq .list (gV 2))))
 (iq [] (dC (.bl false)))
 iA)
 lU
def oO:TSd:=(dSq (g7 [] (gNm 0) (gX g6 (gU (gV 0) (gU (gV 3) gW))))
 (dIf [] (iu (iB .Is (gV 0) (dC .non)))
 (iq [] (dC (.bl false)))
 iA))
def qo:TSd:=dSq (dIf [] (kA (iP (jj (nq .int (gV 3)))) (kA (jj (nq .bool (gV 3))) (iP (iu (ja .LtE .Lt (dC (.int 0)) (gV 3) (gZ .Sub (dB bLen bLen.mono (gU (gV 0) gW)) (dC (.int 1))))))))
 (iq [] (dC (.bl false)))
 iA)
 oO
theorem JK{L L':List Pl}{i:Nat}{d1 d2:D}{E:EndsD}(hi:i+1<L.length)(h:∀{Q:D->Prop},Q (cD L')->[cD L,.int (i:Nat)].length=g6.n/\g6.run [cD L,.int (i:Nat)] Q)
  (hE:E.nx [.val (cD L'),.val d1,.val d2,.val (.int (i:Nat))]):qo.run E [.val (cD L),.val d1,.val d2,.val (.int (i:Nat))]:=by
 refine Ln (p:=((i:Nat):Int)<(((L.map pq).length:Nat):Int)-1) (A:=E.rt (.bl false)) (B:=oO.run E [.val (cD L),.val d1,.val d2,.val (.int (i:Nat))]) (λc=>absurd (by rw[aa];omega) c) (λ_=>?_);refine h ?_;exact hE
theorem yp:∀ ls:List Pl,D.dps (ls.map pq)<=3
 | []=>aC _
 | l::ls=>by
  show max (max (D.dps (l.1.map D.int)+1) (max 0 0)+1) (D.dps (ls.map pq))<=3;have h:=yp ls;rw[BT];have e:max (max (0+1) (max 0 0)+1) (D.dps (ls.map pq))=max 2 (D.dps (ls.map pq)):=rfl;rw[e];exact Nat.max_le.mpr ⟨by decide,h⟩
theorem D7(q:Q (.bl true)):oCmp .Eq (cD L) (cD L) Q :=
 ⟨xD L,xD L,aZ (yp L) (by decide),λk hk=>by
  rw[hk.mpr rfl];exact q⟩
theorem kJ:Does 4 mT iD:=by
 rintro ds Q hn ⟨⟨L,M,is⟩,⟨rfl,n,k0,dg,pl,zz,eb,S,lo,hi,j,k,P,w,j1,j2,k1,k2,rfl,rfl,rfl⟩,q⟩;dsimp only at q;have hc:=w.c;have len:∀ t,lo<=t->t<=hi->(S t).length=(dg t).length:=λt t1 t2=>(w.st t t1 t2).len;have lk:=len k k1 k2;have lk3:=(P.hlen k (by omega)).2.1;by_cases jk:j<=k
 ·have e:xv pl j k=(List.range' j (k-j)).map pl:=if_pos jk;rw[e];refine⟨λt st=>∃ o3,st=[.val (cD (S (j+t))),.val (cD (S k)),.val (.lst (wc ((List.range' j (k-j)).map pl))),o3],⟨.no,rfl⟩,?_,?_⟩
  ·rintro t d _ hd ⟨o3,rfl⟩;have hd:(wc ((List.range' j (k-j)).map pl))[t]? = some d:=hd;have ht:=(ai.mp hd).1;unfold wc at hd ht;rw[aa,aa,bP] at ht;have ed:d = .int ((pl (j+t):Nat):Int):=by
    rw[aJ,aJ,gB ht] at hd;simp at hd;exact hd.symm
   subst ed;have p:=(P.hpl (j+t) (by omega)).1;exact JK (by rw[len (j+t) (by omega) (by omega)];exact p) (λq=>JR P w (by omega) (by omega) q) ⟨_,rfl⟩
  ·rintro _ ⟨o3,rfl⟩;have el:(wc ((List.range' j (k-j)).map pl)).length=k-j:=by unfold wc;rw[aa,aa,bP]
   show oCmp .Eq (cD (S (j+(wc ((List.range' j (k-j)).map pl)).length))) (cD (S k)) Q;rw[el,show j+(k-j)=k by omega];exact D7 (q _ rfl)
 ·have e:xv pl j k=((List.range' k (j-k)).map pl).reverse:=if_neg jk;rw[e];refine⟨λt st=>∃ o3,st=[.val (cD (S (j-t))),.val (cD (S k)),.val (.lst (wc ((List.range' k (j-k)).map pl).reverse)),o3],⟨.no,rfl⟩,?_,?_⟩
  ·rintro t d _ hd ⟨o3,rfl⟩;have hd:(wc ((List.range' k (j-k)).map pl).reverse)[t]? = some d:=hd;have ht:=(ai.mp hd).1;unfold wc at hd ht;rw[aa,aM,aa,bP] at ht;have ed:d = .int ((pl (j-t-1):Nat):Int):=by
    rw[aJ,bJ (by rw[aa,bP];exact ht),aa,bP,aJ,gB (by omega)] at hd;simp at hd;rw[← hd];congr 3;omega
   subst ed;obtain⟨s,hs⟩:∃ s,j-t=s+1:=⟨j-t-1,by omega⟩;rw[hs,aL];have p:=P.hpl s (by omega);exact JK (by rw[len (s+1) (by omega) (by omega),p.2.2.2.1];exact p.1) (λq=>JS P w (by omega) (by omega) q) ⟨_,by rw[show j-(t+1)=s by omega]⟩
  ·rintro _ ⟨o3,rfl⟩;have el:(wc ((List.range' k (j-k)).map pl).reverse).length=j-k:=by unfold wc;rw[aa,aM,aa,bP]
   show oCmp .Eq (cD (S (j-(wc ((List.range' k (j-k)).map pl).reverse).length))) (cD (S k)) Q;rw[el,show j-(j-k)=k by omega];exact D7 (q _ rfl)
end Dp
namespace Dp
open PySem L2
@[reducible] def J4(i:Nat)(Q:D->Prop):EndsD:=⟨λss=>∃ l,ss[i]? = some (.own l)/\Q (.lst l),λ_=>False,λ_=>False,λ_=>False⟩
def Eg(n:Nat)(t:TSd)(i:Nat)(s:SpB):Prop:=∀ ds Q,ds.length=s.n->s.run ds Q->t.run (J4 i Q) (startD n ds)
end Dp
namespace Dp
open PySem L2 Ch
abbrev Ef:EndsD:=⟨λ_=>False,λd=>d = .bl true,λ_=>False,λ_=>False⟩
noncomputable section
def mB:TSd:=(iq [] (pe (gX iD (gU (gV 2) (gU (gV 3) (gU (gX iX (gU (gV 2) (gU (gV 3) gW))) gW)))) (gX (iC 3) (gU (gX iX (gU (gV 2) (gU (gV 2) gW))) (gU (ip gW) gW)))))
def mC:TSd:=dSq (dIf [] (iP (jj (gX (iC 3) (gU (gX iX (gU (gV 7) (gU (gV 7) gW))) (gU (ip gW) gW)))))
 (iq [] (dC (.bl false)))
 iA)
 mB
def mD:TSd:=dSq (g7 [] (gNm 7) (ic (gU (gX hZ (gU (gV 1) (gU (dIx (ip (gU (dC (.int 2)) (gU (dC (.int 3)) (gU (dC (.int 5)) gW)))) (gX gY (gU (gV 1) (gU (dC (.int 3)) gW)))) (gU (dC (.int 4)) gW)))) gW)))
 mC
def oW:TSd:=dSq (kB [] 6 (dC .non))
 mD
def nc:TSd:=dSq (kB [] 6 (dC (.int 0)))
 oW
def ng:TSd:=dSq (pF [6] (kA (iP (jj (gX iD (gU (gV 2) (gU (gV 3) (gU (gV 6) gW)))))) (iP (jj (gX iD (gU (gV 3) (gU (gV 2) (gU (gX iX (gU (gV 3) (gU (gV 2) gW))) gW)))))))
 (iq [] (dC (.bl false)))
 iA)
 nc
def kK:TSd:=dSq (jn [] 6 (gX iX (gU (gV 2) (gU (gV 3) gW))))
 ng
def oX:TSd:=dSq (dIf [] (iP (jj (gX jy (gU (gV 3) gW))))
 (iq [] (dC (.bl true)))
 iA)
 kK
def nh:TSd:=dSq (iO [] (jt (gX gY (gU (gV 1) (gU (dC (.int 5)) gW)))) (gNm 4)
 (dSq (g7 [] (gNm 5) (gX g6 (gU (gV 3) (gU (gX gY (gU (gV 1) (gU (gZ .Sub (dB bLen bLen.mono (gU (gV 2) gW)) (dC (.int 1))) gW))) gW))))
 (dIf [] (iu (iB .IsNot (gV 5) (dC .non)))
 (g7 [] (gNm 3) (gV 5))
 iA)))
 oX
def ni:TSd:=dSq (g7 [] (gNm 3) (gV 2))
 nh
def nj:TSd:=dSq (dIf [] (kA (iP (jj (gX jy (gU (gV 2) gW)))) (iP (jj (gX jE (gU (gV 2) gW)))))
 (iq [] (dC (.bl true)))
 iA)
 ni
def qj:TSd:=dSq (g7 [] (gNm 2) (gX i5 (gU (gV 1) (gU (dC (.int 3)) gW))))
 nj
end
theorem Gv(s:Stt L l zs):tw L=zI l:=by
 unfold tw zI;refine dj (by rw[aa,aa,s.len]) λi h1 h2=>?_;rw[aa] at h1 h2;have e:=s.dg i h2;rw[ah,ar h1,ah,ar h2] at e;have e:(L[i]).1.length=l[i]+1:=e;rw[cO,cO];omega
section
variable{n k0:Nat}{dg:Nat->List Nat}{pl:Nat->Nat}{zz:Nat->Nat->Nat×Nat}{eb:Nat->Nat×Nat}{S:Nat->List Pl}{lo hi:Nat}
theorem vf(P:Line n k0 dg pl zz eb)(w:Wk k0 dg pl zz eb n S lo hi)(j1:lo<=j)(j2:j<=hi)(k1:lo<=k)(k2:k<=hi)(q:Q (.lst (wc (xv pl j k)))):[cD (S j),cD (S k)].length=iX.n/\iX.run [cD (S j),cD (S k)] Q:=by
 have hc:=w.c;have sj:=w.st j j1 j2;have sk:=w.st k k1 k2;have l1:=(P.hlen j (by omega)).2.1;have l2:=(P.hlen k (by omega)).2.1;obtain⟨r1,r2⟩:=P.hrd j k (by omega) (by omega);rw[← Gv sj,← Gv sk] at r1 r2;refine⟨rfl,(S j,S k),⟨rfl,by show (S j).length<=10;rw[sj.len];omega,by show (S k).length<=10;rw[sk.len];omega,r1⟩,?_⟩;rintro _ rfl;rw[r2];exact q
theorem xK(P:Line n k0 dg pl zz eb)(w:Wk k0 dg pl zz eb n S lo hi)(j1:lo<=j)(j2:j<=hi)(k1:lo<=k)(k2:k<=hi)(q:Q (.bl true)):[cD (S j),cD (S k),.lst (wc (xv pl j k))].length=iD.n/\iD.run [cD (S j),cD (S k),.lst (wc (xv pl j k))] Q:=by
 refine⟨rfl,(S j,S k,xv pl j k),⟨rfl,n,k0,dg,pl,zz,eb,S,lo,hi,j,k,P,w,j1,j2,k1,k2,rfl,rfl,rfl⟩,?_⟩;rintro _ rfl;exact q
theorem A6(q:Q (.bl true)):[D.lst [],.lst []].length=(iC 3).n/\(iC 3).run [.lst [],.lst []] Q:=by
 refine⟨rfl,.lst [],⟨rfl,rfl,by decide,by decide⟩,?_⟩;rintro _ rfl;exact q
theorem CI(pl:Nat->Nat)(j:Nat):xv pl j j=[]:=by
 unfold xv;rw[if_pos (af _),bj];rfl
theorem Aa(P:Line n k0 dg pl zz eb):∀ j,j<n->(dg j).length=(dg 0).length
 | 0,_=>rfl
 | j+1,h=>by rw[(P.hpl j h).2.2.2.1,Aa P j (by omega)]
theorem JL(P:Line n k0 dg pl zz eb)(n3:n<=3)(w:Wk k0 dg pl zz eb n S lo hi)(k1:lo<=k)(k2:k<=hi):kK.run Ef [.no,.val .fl,.val (cD (S k0)),.val (cD (S k)),o4,o5,.no,.no]:=by
 have wa:=w.a;have wb:=w.b;refine vf P w wa wb k1 k2 ?_;show ng.run Ef [.no,.val .fl,.val (cD (S k0)),.val (cD (S k)),o4,o5,.own (wc (xv pl k0 k)),.no];refine xK P w wa wb k1 k2 (vf P w k1 k2 wa wb (xK P w k1 k2 wa wb ?_));have lp:(wc (xv pl k0 k)).length<=3:=by
  unfold wc xv;have hc:=w.c;split <;> simp <;> omega
 show nc.run Ef [.no,.val .fl,.val (cD (S k0)),.val (cD (S k)),o4,o5,.own (wc (xv pl k0 k)),.no];refine⟨by rw[sizeLine_eq];omega,?_⟩;refine⟨by rw[am];show (wc (xv pl k0 k)).length+1<sizeLine;rw[sizeLine_eq];omega,?_⟩;generalize wc (xv pl k0 k)++[D.int 0]++[D.non]=own;show mD.run Ef [.no,.val .fl,.val (cD (S k0)),.val (cD (S k)),o4,o5,.own own,.no];refine⟨sE (n:=3) (by decide),rfl,3,⟨rfl,by decide,xG (by decide)⟩,?_⟩;rintro _ ⟨i,rfl,i0,i1⟩;refine vK i0 (by exact i1) λd hd=>?_;have go:∀ N:Nat,N<=5->[D.fl,.int (N:Nat),.int 4].length=hZ.n/\hZ.run [.fl,.int (N:Nat),.int 4] λe=>[e].length<=sizeLine/\mC.run Ef [.no,.val .fl,.val (cD (S k0)),.val (cD (S k)),o4,o5,.own own,.val (.tup [e])]:=λN hN=>by
  refine⟨rfl,(N,4,3),⟨rfl,by show N<=100;omega,by decide,by unfold Lt2;decide,by decide⟩,?_⟩;rintro _ ⟨P1,B1,rfl,z1,lP⟩;refine⟨x6,?_⟩;have rl:vH (tw [((P1,B1):Pl)]).reverse (tw [((P1,B1):Pl)])=true:=by simp[tw,vH,we]
  have re:B7 (tw [((P1,B1):Pl)]).reverse (tw [((P1,B1):Pl)])=[]:=by simp[tw,B7,we]
  refine⟨rfl,([((P1,B1):Pl)],[((P1,B1):Pl)]),⟨rfl,by show 1<=10;decide,by show 1<=10;decide,rl⟩,?_⟩;rintro _ rfl;rw[re];refine⟨aC _,A6 ?_⟩;show mB.run Ef [.no,.val .fl,.val (cD (S k0)),.val (cD (S k)),o4,o5,.own own,.val (.tup [pD P1 B1])];refine vf P w wa wb k1 k2 (xK P w wa wb k1 k2 (vf P w wa wb wa wb ?_));rw[CI];exact⟨aC _,A6 rfl⟩
 simp only[ao,aK,or_false] at hd;rcases hd with rfl|rfl|rfl
 ·exact go 2 (by decide)
 ·exact go 3 (by decide)
 ·exact go 5 (by decide)
end
theorem z7:Eg 6 oi 3 iX:=by
 rintro ds Q hn ⟨⟨L,M⟩,⟨rfl,lL,lM,ok⟩,q⟩;exact yj (E:=J4 3 Q) lL lM ok λrow o4 o5=>⟨_,rfl,q _ rfl⟩
theorem Be:qj.run Ef (.no :: .val .fl::List.replicate 6 .no):=by
 refine⟨rfl,(),rfl,?_⟩;rintro _ ⟨es,rfl,⟨ne,l,hl,le,hd⟩⟩;show nj.run Ef [.no,.val .fl,.val (cD es),.no,.no,.no,.no,.no];obtain⟨a1,a2,a3⟩:=hl.all;have mem:∀ c∈es,3<=c.1.length/\c.1.length<=7:=λc hc=>by
  obtain⟨i,hi⟩:=bI.mp hc;have hi':=(ai.mp hi).1;have e:=hd i (by omega);rw[rQ hi] at e;have:=a3 i (by omega);omega
 refine⟨rfl,es,⟨rfl,λc hc=>⟨(ne.1 c hc).pos,by have:=mem c hc;omega⟩⟩,?_⟩;rintro _ ⟨c1,rfl,h1⟩;cases c1
 ·exact rfl
 have h1:∀ p∈es,Lt2 133 p.2/\∀ i,Lt2 133 (p.1.getD i 0):=h1 rfl;have pz:∀ c∈es,Pc.Pz 133 133 c.1 c.2:=λc hc=>⟨ne.1 c hc,(h1 c hc).2,(h1 c hc).1⟩;refine⟨rfl,es,⟨rfl,λc hc=>⟨pz c hc,mem c hc⟩⟩,?_⟩;rintro _ ⟨c2,rfl⟩;cases c2
 ·exact rfl
 show ni.run Ef [.no,.val .fl,.val (cD es),.no,.no,.no,.no,.no];obtain⟨n,k0,dg,pl,zz,eb,P,kn,n3,e0,ez⟩:=Fi hl;have s0:Stt es (dg k0) (zz k0):=by
  rw[e0];refine⟨ne,le,hd,λi hi=>?_⟩;rw[ez];have hi':i<es.length:=by omega
  exact pz _ (by rw[ah,ar hi'];exact e8 hi')
 have w0:Wk k0 dg pl zz eb n (λ_=>es) k0 k0:=⟨af _,af _,kn,λj h1 h2=>by
  have:j=k0:=by omega
  subst this;exact s0,λj h1 h2=>by omega⟩
 show nh.run Ef [.no,.val .fl,.val (cD es),.val (cD es),.no,.no,.no,.no];refine⟨rfl,5,⟨rfl,by decide,xG (by decide)⟩,?_⟩;rintro _ ⟨m,rfl,m0,m1⟩;refine⟨by omega,by omega,λi st=>∃ S lo hi k o4 o5,st=[.no,.val .fl,.val (cD es),.val (cD (S k)),o4,o5,.no,.no]/\Wk k0 dg pl zz eb n S lo hi/\lo<=k/\k<=hi/\S k0=es,⟨λ_=>es,k0,k0,k0,.no,.no,rfl,w0,af _,af _,rfl⟩,?_,?_⟩
 ·rintro i d _ hd' ⟨S,lo,hi,k,o4,o5,rfl,w,k1,k2,eS⟩;have hc:=w.c;have lk:(dg k).length=es.length:=by rw[Aa P k (by omega),← Aa P k0 kn,e0,le]
  have el:(((es.map pq).length:Nat):Int)-1=((es.length-1:Nat):Int):=by rw[aa];omega
  refine⟨rfl,((es.length-1:Nat):Int),⟨congrArg (λz=>[D.fl,.int z]) el,by omega,xG (by omega)⟩,?_⟩;rintro _ ⟨x,rfl,x0,x1⟩;obtain⟨y,rfl⟩:=bo x0;refine IT P w k1 k2 (i:=y) (by omega) ?_ λS' lo' hi' k' w' h1 h2 h3=>?_
  ·exact⟨S,lo,hi,k,_,_,rfl,w,k1,k2,eS⟩
  ·exact⟨S',lo',hi',k',_,_,rfl,w',h1,h2,by rw[h3,eS]⟩
 ·rintro _ ⟨S,lo,hi,k,o4,o5,rfl,w,k1,k2,eS⟩;have hc:=w.c;have sk:=w.st k k1 k2;refine⟨rfl,S k,⟨rfl,λc hc=>⟨(sk.nea.1 c hc).pos,?_⟩⟩,?_⟩
  ·obtain⟨i,hi⟩:=bI.mp hc;have hi':=(ai.mp hi).1;have e:=sk.dg i (by rw[← sk.len];exact hi');rw[ah,hi] at e;have e:c.1.length=(dg k).getD i 0+1:=e;have:=(P.hlen k (by omega)).2.2 i (by rw[← sk.len];exact hi');omega
  rintro _ ⟨c3,rfl,_⟩;cases c3
  ·exact rfl
  show kK.run Ef [.no,.val .fl,.val (cD es),.val (cD (S k)),o4,o5,.no,.no];rw[← eS];exact JL P n3 w k1 k2
end Dp
namespace Ds
section
open PySem L2 Dp
variable{X:Cx}
def bTb:List (Str×Bool×String×BB):=[("len",true, "len",⟨bLen,bLen.mono⟩),("abs",true, "abs",⟨bAbs,bAbs.mono⟩),("max",true, "max",⟨bMax,bMax.mono⟩),("min",true, "min",⟨bMin,bMin.mono⟩),("int",false, "int",⟨bInt,bInt.mono⟩),("list",false, "list",⟨bList,bList.mono⟩),("tuple",false, "tuple",⟨bTuple,bTuple.mono⟩)]
def Mi(x:Str):Option (Bool×String×BB):=bTb.lookup x
theorem IB{j:Nat}(hr:Room j X.A)(hc:X.calm=true)(B:Bl X.mg){x:Str}{k:Bool}{id:String}{o:BB}(h:Mi x=some (k,id,o)):X.mg x=none/\x ≠ "__name__" /\ (x == ("__debug__" : Str))=false/\(if k then bootBuiltins x=some (.builtin id)/\RB X (.builtin id) o.run else bootBuiltins x=some (.type id)/\RB X (.type id) o.run):=by
 have m:=rD h;unfold bTb at m;rcases ao.mp m with e|m
 ·cases e;exact⟨B.len,by decide,by decide,uW,CB⟩
 rcases ao.mp m with e|m
 ·cases e;exact⟨B.abs,by decide,by decide,Ix,Hi⟩
 rcases ao.mp m with e|m
 ·cases e;exact⟨B.max,by decide,by decide,Iv,Hg hc⟩
 rcases ao.mp m with e|m
 ·cases e;exact⟨B.min,by decide,by decide,Iu,Hf hc⟩
 rcases ao.mp m with e|m
 ·cases e;exact⟨B.int,by decide,by decide,Ea,Hh⟩
 rcases ao.mp m with e|m
 ·cases e;exact⟨B.list,by decide,by decide,sP,EC⟩
 rcases ao.mp m with e|m
 ·cases e;exact⟨B.tuple,by decide,by decide,tz,CA⟩
 cases m
end
section
open PySem L2 Dp
variable{K:Frag}{f:Addr}{O O':List Addr}{H H':Hp}{X:Cx}{σ:L2.St}{ss:SS}{a b:Expr}{ta tb tc:TEd}{tA tB:TTd}{pos:Pos}{c:Cs}
structure Tc where
 N:List Str
 sc:Scope
 G:List (Str×Nat×SpB)
 gc:List (Str×D)
 k:Nat
 fz:List (Nat×List Nat):=[]
 own:List Nat:=[]
 mu:List Nat:=[]
 gn:List (Str×Nat×SpB):=[]
def Tc.pk(T:Tc)(p:Pos):List Nat:=(T.fz.lookup (p.line+1000000)).getD []
def Tc.frz(T:Tc)(p:Pos):List Nat:=(T.fz.lookup p.line).getD []
def Fo(x:Str):List Str->Option Nat
 | []=>none
 | y::r=>if x=y then some 0 else (Fo x r).map (· + 1)
theorem xL:∀{N:List Str} {i:Nat},Fo x N=some i->N[i]? = some x
 | [],_,h=>by cases h
 | y::r,i,h=>by
  unfold Fo at h;by_cases e:x=y
  ·rw[if_pos e] at h;cases h;rw[e];rfl
  ·rw[if_neg e] at h;obtain⟨j,h1,rfl⟩:=ab.mp h;rw[cw];exact xL h1
def JM:Option NameKind->Bool
 | some .local=>true|some .cell=>true|some .free=>true|_=>false
def IM(x:Str):Bool:=!(x == ("__debug__" : Str)) && !(x == ("__classdict__" : Str))
def Tc.slot(T:Tc)(x:Str):Option Nat:=if JM (T.sc.names.lookup x) && IM x then Fo x T.N else none
def Tc.isG(T:Tc)(x:Str):Bool:=(T.sc.names.lookup x == some .globalImplicit) && IM x
structure CtxOk (T:Tc)(X:Cx):Prop where
 N:X.N=T.N
 nd:X.N.Nodup
 calm:X.calm=true
 room:Room T.k X.A
 vis:∀ x,JM (T.sc.names.lookup x)=true->GC X.env.scope x
 gl:∀ x,T.sc.names.lookup x=some .globalImplicit->Gl X x
 loc:∀ x,T.sc.names.lookup x=some .local->X.env.scope.names.lookup x=some .local
 cf:∀ x,(T.sc.names.lookup x=some .cell\/T.sc.names.lookup x=some .free)->(X.env.scope.names.lookup x=some .cell\/X.env.scope.names.lookup x=some .free)
 fn:∀ x j s,(x,j,s)∈T.G->∃ ps,Def X.prog X.w X.K X.mg X.base x j ps (v8 X.K s.n s.run)
 gc:∀ x d,(x,d)∈T.gc->∃ v u,X.mg x=some u/\RelV v u/\∀ f O H,Rp X.K f O H d v
 bl:Bl X.mg
 cel:∀ x,T.sc.names.lookup x=some .cell->X.env.scope.names.lookup x=some .cell/\X.fn x=true
 gn:∀ x j s,(x,j,s)∈T.gn->∃ ps,Def X.prog X.w X.K X.mg X.base x j ps (tS X.K s.n s.run)
theorem Gd(h:IM x=true):(x == ("__debug__" : Str))=false:=by
 unfold IM at h;rw[ak] at h;exact dL _ |>.mp h.1
theorem JC(h:IM x=true):(x == ("__classdict__" : Str))=false:=by
 unfold IM at h;rw[ak] at h;exact dL _ |>.mp h.2
variable{T:Tc}
theorem CtxOk.var(C:CtxOk T X)(h:T.slot x=some i):PE X (.Name x p) (sB i):=by
 unfold Tc.slot at h;split at h
 ·rename_i e;obtain⟨e1,e2⟩:=ak.mp e;exact zm (by rw[C.N];exact xL h) (C.vis x e1) (Gd e2) (JC e2)
 ·cases h
theorem CtxOk.slot(C:CtxOk T X)(h:T.slot x=some i):X.N[i]? = some x:=by
 unfold Tc.slot at h;split at h
 ·rw[C.N];exact xL h
 ·cases h
def Cb:Option NameKind->Bool
 | some .local=>true|some .cell=>true|_=>false
theorem CtxOk.tgt(C:CtxOk T X)(hl:Cb (T.sc.names.lookup x)=true)(hs:T.slot x=some i):PG X (.Name x p) (wU i):=by
 cases q:T.sc.names.lookup x with
 | none=>rw[q] at hl;cases hl
 | some k =>
  rw[q] at hl;cases k <;> first|(cases hl;done)|skip
  ·exact xy C.nd (C.slot hs) (.inl (C.loc x q)) (.inr (C.loc x q))
  ·exact xy C.nd (C.slot hs) (.inr (C.cel x q).1) (.inl (C.cel x q).2)
theorem CtxOk.isG(C:CtxOk T X)(h:T.isG x=true):Gl X x/\(x == ("__debug__" : Str))=false:=by
 obtain⟨e1,e2⟩:=ak.mp h;exact⟨C.gl x (eq_of_beq e1),Gd e2⟩
def qT:Expr->Bool
 | .Starred .. => false | .Slice .. => false | .Set .. => false | .SetComp .. => false | .DictComp .. => false
 | _=>true
theorem qG(h:qT e=true)(es:List Expr)(env:Env):starEach (e::es) env=(false,eval e env)::starEach es env:=by
 cases e <;> first|rfl|cases h
theorem AI(h:qT e=true):vv e:=by
 cases e <;> first|exact λ_ _=>rfl|cases h
theorem vm(h:qT e=true)(op:CmpOp):behindInMarks op e=false:=by
 cases e <;> first|rfl|cases h
theorem tL(h:qT e=true)(env:Env)(x:Value):foldedSetIterable e env x=pure x:=by
 cases e <;> first|rfl|cases h
def rW:Expr->Bool
 | .ListComp .. => true | .SetComp .. => true | .DictComp .. => true
 | _=>false
theorem tK(h:rW e=false)(t:Option Expr)(l:Nat)(env:Env):swapsWith e t l env=pure false:=by
 cases e <;> first|rfl|cases h
def GB:Expr->Bool
 | .UnaryOp .Not _ _=>false | .BoolOp .. => false | .IfExp .. => false | .Compare .. => false
 | _=>true
theorem D9(h:GB e=true)(env:Env)(whole:Sem Value):isTrue e env whole=(do let v ← whole;standAt e.pos;holding [v] (truthy v)):=by
 cases e with
 | UnaryOp op a p=>cases op <;> first|rfl|cases h
 | BoolOp=>cases h
 | IfExp=>cases h
 | Compare=>cases h
 | _=>rfl
def sy(N:List Str)(scope:Scope):List Nat:=(List.range N.length).filter λi=>Cb (scope.names.lookup (N.getD i ""))
def Cr(out scope:Scope):Bool:=decide (scope.kind = .function) && scope.names.all (λy=>decide (scope.names.lookup y.1=some y.2)) && scope.names.all (λy=>decide (y.2 ≠ .free) || decide (out.names.lookup y.1=some .cell) || decide (out.names.lookup y.1=some .free))
theorem CtxOk.compS(C:CtxOk T X)(h:Cr T.sc scope=true):CompS X.N X.env.scope scope (sy T.N scope):=by
 unfold Cr at h;rw[ak,ak] at h;obtain⟨⟨h1,h2⟩,h3⟩:=h;have one:∀ y∈scope.names,scope.names.lookup y.1=some y.2:=λy hy=>of_decide_eq_true (cx.mp h2 y hy);refine⟨of_decide_eq_true h1,one,λy hy e=>?_,λy hy e=>e ▸ one y hy,λi hi e=>?_⟩
 ·have:=cx.mp h3 y hy;rw[fB,fB] at this;rcases this with (w|w)|w
  ·exact absurd e (of_decide_eq_true w)
  ·exact C.cf _ (.inl (of_decide_eq_true w))
  ·exact C.cf _ (.inr (of_decide_eq_true w))
 ·rw[C.N] at hi e;exact ce.mpr ⟨fI.mpr hi,by rcases e with e|e <;> rw[e] <;> rfl⟩
theorem CtxOk.inner(C:CtxOk T X)(s2:Shared)(H2:Hp)(fp:List Addr)(pins:List (Addr×Obj))(A:Addr):CtxOk { T with sc:=scope } (sU X scope s2 H2 fp pins A) where
 N:=C.N
 nd:=C.nd
 calm:=C.calm
 room:=C.room
 vis:=λx h=>by
  have e:(sU X scope s2 H2 fp pins A).env.scope.names.lookup x=(scope.names.lookup x).map (ue X.env x):=ut;have h:JM (scope.names.lookup x)=true:=h;unfold GC;rw[e];cases q:scope.names.lookup x with
  | none=>rw[q] at h;cases h
  | some k =>
   rw[q] at h;cases k
   ·exact .inl rfl
   ·exact .inr (.inl rfl)
   ·show some (ue X.env x .free)=_\/some (ue X.env x .free)=_\/some (ue X.env x .free)=_;unfold ue;split
    ·exact .inr (.inl rfl)
    ·exact .inr (.inr rfl)
   ·cases h
   ·cases h
 gl:=λx h=>by
  have e:(sU X scope s2 H2 fp pins A).env.scope.names.lookup x=(scope.names.lookup x).map (ue X.env x):=ut;have h:scope.names.lookup x=some .globalImplicit:=h;unfold Gl Env.kindOf;rw[e,h];rfl
 loc:=λx h=>by
  have e:(sU X scope s2 H2 fp pins A).env.scope.names.lookup x=(scope.names.lookup x).map (ue X.env x):=ut;have h:scope.names.lookup x=some .local:=h;rw[e,h];rfl
 cf:=λx h=>by
  have e:(sU X scope s2 H2 fp pins A).env.scope.names.lookup x=(scope.names.lookup x).map (ue X.env x):=ut;have h:scope.names.lookup x=some .cell\/scope.names.lookup x=some .free:=h;rw[e];rcases h with h|h
  ·rw[h];exact .inl rfl
  ·rw[h];show some (ue X.env x .free)=_\/some (ue X.env x .free)=_;unfold ue;split
   ·exact .inl rfl
   ·exact .inr rfl
 fn:=C.fn
 gc:=C.gc
 bl:=C.bl
 cel:=λx h=>by
  have e:(sU X scope s2 H2 fp pins A).env.scope.names.lookup x=(scope.names.lookup x).map (ue X.env x):=ut;have h:scope.names.lookup x=some .cell:=h;refine⟨by rw[e,h];rfl,?_⟩;show (scope.names.lookup x == some .cell)=true;rw[h];rfl
 gn:=C.gn
def KI:Const->Option D
 | .int i=>some (.int i) | .bool b=>some (.bl b) | .str x=>some (.str x) | .none=>some .non|_=>none
def JV(T:Tc)(x:Str):Option D:=T.gc.lookup x
def xl(T:Tc):List Expr->Option (List Nat)
 | []=>some []
 | .Name x _::r=>if Cb (T.sc.names.lookup x)=true then (T.slot x).bind λi=>(xl T r).map (i :: ·) else none
 | _=>none
def Kr(T:Tc):Expr->Option TGd
 | .Name x _=>if Cb (T.sc.names.lookup x)=true then (T.slot x).map gNm else none
 | .Tuple es _ _=>(xl T es).map gTp
 | _=>none
def xJ(T:Tc)(x:Str)(as:List Expr):Option Nat:=if x = "len" then (match as with
 | [.Name y _]=>(T.slot y).bind λi=>if T.mu.contains i then some i else none
 | _=>none) else none
theorem BH(h:xJ T x as=some i):x = "len" /\ ∃ y p,as=[.Name y p]/\T.slot y=some i:=by
 unfold xJ at h;split at h
 ·rename_i ex;split at h
  ·rename_i y p;obtain⟨j,h1,h⟩:=ae.mp h;split at h
   ·cases h;exact⟨ex,y,p,rfl,h1⟩
   ·cases h
  ·cases h
 ·cases h
abbrev FE:=Expr->Option TEd
abbrev FT:=Expr->Option TTd
abbrev FA:=List Expr->Option TAd
def two(E:FE)(a b:Expr)(k:TEd->TEd->TEd):Option TEd:=(E a).bind λta=>(E b).map λtb=>k ta tb
def Kb(E:FE)(a:Expr):List CmpOp->List Expr->Option TEd
 | [op],[b]=>if qT b then two E a b (iB op) else none
 | [op,op'],[b,c]=>if qT b && qT c then (E a).bind λta=>(E b).bind λtb=>(E c).map λtc=>ja op op' ta tb tc else none
 | _,_=>none
def Ka(E:FE)(a:Expr):List CmpOp->List Expr->Option TTd
 | [op],[b]=>if qT b then (two E a b (iB op)).map iu else none
 | [op,op'],[b,c]=>if qT b && qT c then (E a).bind λta=>(E b).bind λtb=>(E c).map λtc=>iu (ja op op' ta tb tc) else none
 | _,_=>none
def LU(E:FE)(a:Expr):UnaryOp->Option TEd
 | .USub=>(E a).map jq
 | .Not=>(E a).map ph
 | _=>none
def Mh(E:FE)(p:Pos)(op:BoolOp):List Expr->Option TEd
 | [a]=>E a
 | a::b::r=>(E a).bind λta=>(E (.BoolOp op (b::r) p)).map λtb=>match op with | .And=>pe ta tb | .Or=>dOr ta tb
 | []=>none
def Mf(F:FT)(p:Pos)(op:BoolOp):List Expr->Option TTd
 | [a]=>F a
 | a::b::r=>(F a).bind λta=>(F (.BoolOp op (b::r) p)).map λtb=>match op with | .And=>jr ta tb | .Or=>kA ta tb
 | []=>none
def yv(E:FE):Option Expr->Option TOd
 | none=>some dNo
 | some e=>(E e).map mY
def Fu:Expr->Bool
 | .UnaryOp .USub (.Constant (.int i) _ _) _=>i == 1
 | _=>false
def IO(k:Int):Expr->Bool
 | .Constant (.int i) _ _=>i == k
 | _=>false
def HI(E:FE)(a:Expr)(lo hi:Option Expr)(m:Expr):Option TEd:=match lo with
 | some l=>if IO 1 l && hi.isNone && IO 2 m then (E a).map pG else none
 | none=>none
def Ld(T:Tc)(x:Str):Option TEd:=match T.slot x with
 | some i=>some (gV i)
 | none=>if T.isG x then (JV T x).map dC else none
def C6(T:Tc):Expr->Option Nat
 | .Name x _=>(T.slot x).bind λi=>if T.mu.contains i then some i else none
 | _=>none
def L6(E:FE)(T:Tc)(a b:Expr):Option TEd:=if qT b then (match C6 T a with
  | some i=>(E b).map (jm i)
  | none=>two E a b dIx) else none
def Ji(E:FE)(T:Tc)(a:Expr):Expr->Option TEd
 | .Slice lo hi st _=>(match st with
  | none=>(E a).bind λta=>(yv E lo).bind λtl=>(yv E hi).map λtu=>dSl ta tl tu
  | some m=>if lo.isNone && hi.isNone && Fu m then (E a).map pC else HI E a lo hi m)
 | b=>L6 E T a b
def D6(E:FE)(A:FA)(T:Tc)(x:Str)(as:List Expr):Option TEd:=match T.G.lookup x with
 | some (j,s)=>if decide (j<=T.k) && !as.isEmpty then (A as).map (gX s) else none
 | none=>if x = "isinstance" then (match as with
   | [a,.Name y _]=>if qT a && T.isG y then ((yX y).bind λty=>(E a).map (nq ty)) else none
   | _=>none)
  else (Mi x).bind λo=>match xJ T x as with
   | some i=>some (jg i)
   | none=>if as.isEmpty then none else (A as).map (dB o.2.2.run o.2.2.mono)
def H9(E:FE)(T:Tc)(tg e:Expr):Option TAd:=match e with
 | .Call (.Name x _) [a] [] _=>if x = "range" then (if qT a && T.isG "range" then (E a).map jt else none)
  else if x = "enumerate" then (match tg with
   | .Tuple .. => if qT a && T.isG "enumerate" then (E a).map jU else none
   | _=>none)
  else if x = "reversed" then (if qT a && T.isG "reversed" then (E a).map kP else none)
  else (E e).map iQ
 | .Call (.Name x _) [a,b] [] _=>if x = "range" then (if qT a && qT b && T.isG "range" then (E a).bind λta=>(E b).map (kO ta) else none)
  else (E e).map iQ
 | e=>(E e).map iQ
def A3(I:Option TAd)(E:FE)(F:FT)(T:Tc)(e tg:Expr)(ifs:List Expr)(sc:Scope):Option TEd:=I.bind λti=>(Kr { T with sc:=sc } tg).bind λg =>
 if g.tg.all (λi=>(sy T.N sc).contains i) then (E e).bind λte=>(match ifs with
  | []=>some (iI ti (sy T.N sc) g ju te)
  | [k]=>(F k).map λtk=>iI ti (sy T.N sc) g tk te
  | _=>none) else none
def uA(E:FE):FA
 | []=>some gW
 | e::r=>if qT e then (E e).bind λte=>(uA E r).map λtr=>gU te tr else none
def Df(E:FE)(T:Tc)(x:Str):List Expr->Option TEd
 | [.Call (.Name y _) [a] [] _]=>if y = "reversed" then (if qT a && T.isG "reversed" && T.isG x then (if x = "tuple" then (E a).map nY else (if x = "list" then (E a).map j6 else none)) else none) else none
 | [.Call (.Name y _) [a,b] [] _]=>if y = "range" then (if x = "list" then (if qT a && qT b && T.isG "range" && T.isG "list" then (E a).bind λta=>(E b).map (md ta) else none) else none) else none
 | _=>none
def xV(E:FE)(T:Tc)(cp:Pos)(as:List Expr)(ks:List Keyword):Expr->Option TEd
 | .Name x _=>if ks.isEmpty then (match Df E T x as with
  | some t=>some t
  | none=>if T.isG x then D6 E (uA E) T x as else none) else none
 | _=>none
def Dy:List Comprehension->Option (Expr×Expr×List Expr)
 | [⟨tg,it,ifs,0⟩]=>if qT it then some (tg,it,ifs) else none
 | _=>none
mutual
def rE:Nat->Tc->Expr->Option TEd
 | 0,_,_=>none
 | n+1,T,e=>match e with
  | .Name x _=>Ld T x
  | .Constant k _ _=>(KI k).map dC
  | .BinOp a op b _=>two (rE n T) a b (gZ op)
  | .Compare a ops bs _=>Kb (rE n T) a ops bs
  | .UnaryOp op a _=>LU (rE n T) a op
  | .BoolOp op vs p=>Mh (rE n T) p op vs
  | .IfExp k a b _=>(yb n T k).bind λtk=>two (rE n T) a b (pj tk)
  | .Tuple es _ _=>(uA (rE n T) es).map ic
  | .List es _=>(uA (rE n T) es).map ip
  | .Subscript a b _=>Ji (rE n T) T a b
  | .Call g as ks p=>xV (rE n T) T p as ks g
  | .ListComp e gs sc _=>if Cr T.sc sc then (Dy gs).bind λ(tg,it,ifs)=>A3 (H9 (rE n T) T tg it) (rE n { T with sc:=sc }) (yb n { T with sc:=sc }) T e tg ifs sc else none
  | _=>none
def yb:Nat->Tc->Expr->Option TTd
 | 0,_,_=>none
 | n+1,T,e=>match e with
  | .Compare a ops bs _=>Ka (rE n T) a ops bs
  | .UnaryOp op a p=>if op = .Not then (yb n T a).map iP else (rE n T (.UnaryOp op a p)).map jj
  | .BoolOp op vs p=>Mf (yb n T) p op vs
  | .IfExp .. => none
  | e=>(rE n T e).map jj
end
end
section
open PySem L2 Dp
variable{K:Frag}{X:Cx}{T:Tc}{pos p p2:Pos}{a b e:Expr}{E:FE}{F:FT}
def v9(X:Cx)(E:FE):Prop:=∀{e:Expr} {t:TEd},E e=some t->PE X e (LE X.K t)
def KB(X:Cx)(F:FT):Prop:=∀{e:Expr} {t:TTd},F e=some t->PT X e (LT X.K t)
theorem JU(C:CtxOk T X)(hg:T.isG x=true)(h:JV T x=some d):PE X (.Name x p) (LE X.K (dC d)):=by
 obtain⟨g1,g2⟩:=C.isG hg;obtain⟨v,u,h1,h2,h3⟩:=C.gc x d (rD h);exact dC.ok (EO g1 h1 h2 g2) h3
theorem GL(h:KI k=some d):PE X (.Constant k j pos) (LE X.K (dC d)):=by
 cases k <;> first|(cases h;done)|skip
 all_goals (cases h)
 all_goals first|exact dC.ok qI λ_ _ _=>rfl|exact dC.ok CY λ_ _ _=>rfl|exact dC.ok Ht λ_ _ _=>rfl|exact dC.ok Hx λ_ _ _=>rfl
theorem tH(C:CtxOk T X):∀{es:List Expr} {is:List Nat},xl T es=some is->IR X es (gsAll is)/\(assignEach es X.env).length=is.length/\(assignEach es X.env).findIdx? (·.1)=none
 | [],is,h=>by
  cases h;exact⟨EN,rfl,rfl⟩
 | a::r,is,h=>by
  cases a <;> first|(cases h;done)|skip
  rename_i x p;obtain⟨hl,h⟩:=ac.mp (show (if Cb (T.sc.names.lookup x)=true then (T.slot x).bind λi=>(xl T r).map (i :: ·) else none)=some is from h);obtain⟨i,h1,h⟩:=ae.mp h;obtain⟨is',h2,rfl⟩:=ab.mp h;obtain⟨q1,q2,q3⟩:=tH C h2;refine⟨CS (C.tgt hl h1) q1 rfl,?_,?_⟩
  ·show ((false,assign (.Name x p) X.env)::assignEach r X.env).length=_;rw[bt,q2];rfl
  ·show ((false,assign (.Name x p) X.env)::assignEach r X.env).findIdx? (·.1)=none;rw[List.findIdx?_cons,q3];rfl
theorem y7(C:CtxOk T X)(h:Kr T e=some g):PG X e (LG X.K g):=by
 cases e <;> first|(cases h;done)|skip
 ·rename_i x p;obtain⟨hl,h⟩:=ac.mp (show (if Cb (T.sc.names.lookup x)=true then (T.slot x).map gNm else none)=some g from h);obtain⟨i,h1,rfl⟩:=ab.mp h;exact gNm.ok (C.tgt hl h1)
 ·rename_i es k p;obtain⟨is,h1,rfl⟩:=ab.mp (show (xl T es).map gTp=some g from h);obtain⟨q1,q2,q3⟩:=tH C h1;exact gTp.ok (xx C.calm q1 q2 q3)
theorem uG(h:two E a b k=some t):∃ ta tb,E a=some ta/\E b=some tb/\t=k ta tb:=by
 obtain⟨ta,h1,h⟩:=ae.mp h;obtain⟨tb,h2,rfl⟩:=ab.mp h;exact⟨ta,tb,h1,h2,rfl⟩
theorem FJ(C:CtxOk T X)(ih:v9 X E):∀{ops:List CmpOp} {bs:List Expr} {t:TEd},Kb E a ops bs=some t->PE X (.Compare a ops bs pos) (LE X.K t)
 | [op],[b],t,h=>by
  obtain⟨hn,h⟩:=ac.mp h;obtain⟨ta,tb,h1,h2,rfl⟩:=uG h;exact iB.ok C.room (ih h1) (ih h2) (vm hn _)
 | [op,op'],[b,c],t,h=>by
  obtain⟨hn,h⟩:=ac.mp h;obtain⟨n1,n2⟩:=ak.mp hn;obtain⟨ta,h1,h⟩:=ae.mp h;obtain⟨tb,h2,h⟩:=ae.mp h;obtain⟨tc,h3,rfl⟩:=ab.mp h;exact ja.ok C.room (ih h1) (ih h2) (ih h3) (vm n2 _)
 | [],_,_,h=>by cases h
 | [_],[],_,h=>by cases h
 | [_],_::_::_,_,h=>by cases h
 | [_,_],[],_,h=>by cases h
 | [_,_],[_],_,h=>by cases h
 | [_,_],_::_::_::_,_,h=>by cases h
 | _::_::_::_,_,_,h=>by cases h
theorem FI(C:CtxOk T X)(ih:v9 X E):∀{ops:List CmpOp} {bs:List Expr} {t:TTd},Ka E a ops bs=some t->PT X (.Compare a ops bs pos) (LT X.K t)
 | [op],[b],t,h=>by
  obtain⟨hn,h⟩:=ac.mp h;obtain⟨t0,h0,rfl⟩:=ab.mp h;obtain⟨ta,tb,h1,h2,rfl⟩:=uG h0;exact iB.test C.room (ih h1) (ih h2) (vm hn _)
 | [op,op'],[b,c],t,h=>by
  obtain⟨hn,h⟩:=ac.mp h;obtain⟨n1,n2⟩:=ak.mp hn;obtain⟨ta,h1,h⟩:=ae.mp h;obtain⟨tb,h2,h⟩:=ae.mp h;obtain⟨tc,h3,rfl⟩:=ab.mp h;exact ja.test C.room (ih h1) (ih h2) (ih h3) (vm n2 _)
 | [],_,_,h=>by cases h
 | [_],[],_,h=>by cases h
 | [_],_::_::_,_,h=>by cases h
 | [_,_],[],_,h=>by cases h
 | [_,_],[_],_,h=>by cases h
 | [_,_],_::_::_::_,_,h=>by cases h
 | _::_::_::_,_,_,h=>by cases h
theorem GH(ih:v9 X E)(h:LU E a op=some t):PE X (.UnaryOp op a pos) (LE X.K t):=by
 cases op <;> first|(cases h;done)|skip
 ·obtain⟨ta,h1,rfl⟩:=ab.mp (show (E a).map ph=some t from h);exact ph.ok (ih h1)
 ·obtain⟨ta,h1,rfl⟩:=ab.mp (show (E a).map jq=some t from h);exact jq.ok (ih h1)
theorem Iz(ih:v9 X E):∀{op:BoolOp} {vs:List Expr} {t:TEd},Mh E p op vs=some t->PE X (.BoolOp op vs p) (LE X.K t)
 | _,[a],_,h=>zq (ih h)
 | .And,a::b::r,t,h=>by
  obtain⟨ta,h1,h⟩:=ae.mp h;obtain⟨tb,h2,rfl⟩:=ab.mp h;exact pe.ok (ih h1) (ih h2)
 | .Or,a::b::r,t,h=>by
  obtain⟨ta,h1,h⟩:=ae.mp h;obtain⟨tb,h2,rfl⟩:=ab.mp h;exact dOr.ok (ih h1) (ih h2)
 | _,[],_,h=>by cases h
theorem Iy(ih:KB X F)(iw:∀{op:BoolOp} {vs:List Expr} {p:Pos} {t:TTd},F (.BoolOp op vs p)=some t->PW X (.BoolOp op vs p) (LT X.K t)):∀{op:BoolOp} {vs:List Expr} {t:TTd},Mf F p op vs=some t->PW X (.BoolOp op vs p) (LT X.K t)
 | .And,[a],_,h=>AE (ih h)
 | .Or,[a],_,h=>Hn (ih h)
 | .And,a::b::r,t,h=>by
  obtain⟨ta,h1,h⟩:=ae.mp h;obtain⟨tb,h2,rfl⟩:=ab.mp h;exact jr.ok (ih h1) (iw h2)
 | .Or,a::b::r,t,h=>by
  obtain⟨ta,h1,h⟩:=ae.mp h;obtain⟨tb,h2,rfl⟩:=ab.mp h;exact kA.ok (ih h1) (iw h2)
 | _,[],_,h=>by cases h
theorem yu(ih:v9 X E):∀{o:Option Expr} {t:TOd},yv E o=some t->PO X o (LO X.K t)
 | none,_,h=>by
  cases h;exact dNo.ok
 | some e,t,h=>by
  obtain⟨ta,h1,rfl⟩:=ab.mp h;exact mY.ok (ih h1)
theorem Ft(h:Fu m=true):∃ j p1 p3,m = .UnaryOp .USub (.Constant (.int 1) j p1) p3:=by
 unfold Fu at h;split at h
 ·rename_i i j p1 p3;have e:i=1:=eq_of_beq h;exact⟨j,p1,p3,by rw[e]⟩
 ·cases h
theorem C5(C:CtxOk T X)(h:C6 T a=some i):PE X a (sB i):=by
 cases a <;> first|(cases h;done)|skip
 obtain⟨j,h1,h⟩:=ae.mp h;obtain⟨_,h⟩:=ac.mp h;cases h;exact C.var h1
theorem Dn(h:IO k m=true):∃ j p1,m = .Constant (.int k) j p1:=by
 unfold IO at h;split at h
 ·rename_i i j p1;have e:i=k:=eq_of_beq h;exact⟨j,p1,by rw[e]⟩
 ·cases h
theorem Fa(ih:v9 X E)(h:HI E a lo hi m=some t):PE X (.Subscript a (.Slice lo hi (some m) p2) pos) (LE X.K t):=by
 cases lo with
 | none=>cases h
 | some l =>
  obtain⟨hm,h⟩:=ac.mp (show (if IO 1 l && hi.isNone && IO 2 m then (E a).map pG else none)=some t from h);obtain⟨hm,m2⟩:=ak.mp hm;obtain⟨l1,h2⟩:=ak.mp hm;cases hi with
  | some _=>cases h2
  | none =>
   obtain⟨j,p1,rfl⟩:=Dn l1;obtain⟨k,p3,rfl⟩:=Dn m2;obtain⟨ta,h1,rfl⟩:=ab.mp h;exact pG.ok (ih h1)
theorem Ew(C:CtxOk T X)(ih:v9 X E)(h:Ji E T a b=some t):PE X (.Subscript a b pos) (LE X.K t):=by
 have key:∀{b:Expr},L6 E T a b=some t->PE X (.Subscript a b pos) (LE X.K t):=λ{b} h=>by
  obtain⟨hn,h⟩:=ac.mp h;cases ho:C6 T a with
  | some i =>
   rw[ho] at h;obtain⟨tb,h2,rfl⟩:=ab.mp h;exact jm.ok (C5 C ho) (ih h2) (AI hn)
  | none =>
   rw[ho] at h;obtain⟨ta,tb,h1,h2,rfl⟩:=uG h;exact dIx.ok (ih h1) (ih h2) (AI hn)
 cases b;case Slice lo hi st p2 =>
  cases st with
  | none =>
   obtain⟨tk,h0,h⟩:=ae.mp (show (E a).bind (λta=>(yv E lo).bind λtl=>(yv E hi).map λtu=>dSl ta tl tu)=some t from h);obtain⟨ta,h1,h⟩:=ae.mp h;obtain⟨tb,h2,rfl⟩:=ab.mp h;exact dSl.ok (ih h0) (yu ih h1) (yu ih h2)
  | some m =>
   have h:(if lo.isNone && hi.isNone && Fu m then (E a).map pC else HI E a lo hi m)=some t:=h;split at h
   rotate_left
   ·exact Fa ih h
   rename_i hm;obtain⟨hm,m1⟩:=ak.mp hm;obtain⟨l1,l2⟩:=ak.mp hm;cases lo <;> cases hi <;> first|(cases l1;done)|(cases l2;done)|skip
   obtain⟨j,p1,p3,rfl⟩:=Ft m1;obtain⟨ta,h1,rfl⟩:=ab.mp h;exact pC.ok (k:=0) (ih h1)
 all_goals exact key h
theorem sx(ih:v9 X E):∀{es:List Expr} {t:TAd},uA E es=some t->PA X es (LA X.K t)
 | [],t,h=>by
  cases h;exact gW.ok
 | e::r,t,h=>by
  obtain⟨hn,h⟩:=ac.mp h;obtain⟨ta,h1,h⟩:=ae.mp h;obtain⟨tb,h2,rfl⟩:=ab.mp h;exact gU.ok (ih h1) (sx ih h2) (qG hn _ _)
theorem sD(h:uA E (a::r)=some t):starEach (a::r) X.env=(false,eval a X.env)::starEach r X.env:=qG (ac.mp h).1 _ _
theorem v7:∀{r:List Expr} {t:TAd},uA E r=some t->(backTo pos (starEach r X.env)).any (·.1)=false
 | [],_,_=>rfl
 | a::r,t,h=>by
  rw[sD h];obtain⟨hn,h⟩:=ac.mp h;obtain⟨ta,h1,h⟩:=ae.mp h;obtain⟨tb,h2,rfl⟩:=ab.mp h;have:=v7 h2;unfold backTo at this ⊢;rw[dm,gg,this];rfl
theorem tO(h:uA E (a::r)=some t):(backTo pos (starEach r X.env)).any (·.1)=false:=by
 obtain⟨hn,h⟩:=ac.mp h;obtain⟨ta,h1,h⟩:=ae.mp h;obtain⟨tb,h2,rfl⟩:=ab.mp h;exact v7 h2
theorem D5(C:CtxOk T X)(ih:v9 X E){x:Str}{as:List Expr}{t:TEd}(hg:T.isG x=true)(h:D6 E (uA E) T x as=some t):PE X (.Call (.Name x p) as [] pos) (LE X.K t):=by
 obtain⟨g1,g2⟩:=C.isG hg;unfold D6 at h;cases e1:T.G.lookup x with
 | some js =>
  obtain⟨j,s⟩:=js;rw[e1] at h;obtain⟨hk,h⟩:=ac.mp h;obtain⟨k1,k2⟩:=ak.mp hk;obtain⟨tb,h2,rfl⟩:=ab.mp h;cases as with
  | nil=>cases k2
  | cons a r =>
   obtain⟨ps,d⟩:=C.fn x j s (rD e1);exact gX.ok (xA d C.room (sx ih h2) (of_decide_eq_true k1) g1 g2 (sD h2) (tO h2))
 | none =>
  rw[e1] at h;dsimp only at h;by_cases ex:x = "isinstance"
  ·subst ex;rw[if_pos rfl] at h;split at h
   ·obtain⟨hn,h⟩:=ac.mp h;obtain⟨n1,n2⟩:=ak.mp hn;obtain⟨ty,h1,h⟩:=ae.mp h;obtain⟨tb,h2,rfl⟩:=ab.mp h;exact nq.ok C.bl h1 g1 (C.isG n2).1 (ih h2) λes=>qG n1 es _
   ·cases h
  ·rw[if_neg ex] at h;obtain⟨⟨k,id,o⟩,e0,h3⟩:=ae.mp h;obtain⟨b1,b2,b3,b4⟩:=IB C.room C.calm C.bl e0;cases e2:xJ T x as with
   | some i =>
    rw[e2] at h3;have h4:some (jg i)=some t:=h3;obtain⟨rfl,y,p2,rfl,e3⟩:=BH e2;cases h4;exact jg.ok g1 C.bl.len (C.var e3) rfl
   | none =>
    rw[e2] at h3;obtain⟨hne,h5⟩:=dq.mp (show (if as.isEmpty=true then none else (uA E as).map (dB o.run o.mono))=some t from h3);obtain⟨tb,h2,rfl⟩:=ab.mp h5;cases as with
    | nil=>exact absurd rfl hne
    | cons a r =>
     cases k with
     | true =>
      obtain⟨b5,rr,b6,b7⟩:=b4;exact dB.ok b7 (qV b6 g1 b1 b5 (sx ih h2) b2 b3 (sD h2) (tO h2))
     | false =>
      obtain⟨b5,rr,b6,b7⟩:=b4;exact dB.ok b7 (uM b6 g1 b1 b5 (sx ih h2) b2 b3 (sD h2) (tO h2))
theorem De(C:CtxOk T X)(ih:v9 X E)(h:Df E T x as=some t):PE X (.Call (.Name x p) as [] pos) (LE X.K t):=by
 unfold Df at h;split at h
 ·rename_i y p1 a p2;obtain⟨ey,h1⟩:=ac.mp h;obtain⟨hn,h2⟩:=ac.mp h1;clear h h1;subst ey;obtain⟨hn2,n3⟩:=ak.mp hn;obtain⟨n1,n2⟩:=ak.mp hn2;by_cases e1:x = "tuple"
  ·subst e1;rw[if_pos rfl] at h2;obtain⟨ta,h3,rfl⟩:=ab.mp h2;exact nY.ok (C.isG n3).1 C.bl.tuple (C.isG n2).1 C.bl.reversed C.calm (ih h3) (qG n1 _ _)
  ·rw[if_neg e1] at h2;obtain⟨e2,h3⟩:=ac.mp h2;clear h2;subst e2;obtain⟨ta,h4,rfl⟩:=ab.mp h3;exact j6.ok (C.isG n3).1 C.bl.list (C.isG n2).1 C.bl.reversed C.calm (ih h4) (qG n1 _ _)
 ·rename_i y p1 a b p2;obtain⟨ey,h1⟩:=ac.mp h;obtain⟨ex,h2⟩:=ac.mp h1;obtain⟨hn,h3⟩:=ac.mp h2;clear h h1 h2;subst ey ex;obtain⟨hn2,n4⟩:=ak.mp hn;obtain⟨hn3,n3⟩:=ak.mp hn2;obtain⟨n1,n2⟩:=ak.mp hn3;obtain⟨ta,h4,h5⟩:=ae.mp h3;obtain⟨tb,h6,rfl⟩:=ab.mp h5;exact md.ok (C.isG n4).1 C.bl.list (C.isG n3).1 C.bl.range C.calm (ih h4) (ih h6) (by rw[qG n1,qG n2];rfl) (qG n2 _ _)
 ·cases h
theorem An(C:CtxOk T X)(ih:v9 X E)(h:xV E T pos as ks g=some t):PE X (.Call g as ks pos) (LE X.K t):=by
 unfold xV at h;split at h
 ·split at h
  ·rename_i k0;cases List.isEmpty_iff.mp k0;split at h
   ·rename_i t' ht;cases h;exact De C ih ht
   ·obtain⟨hg,h1⟩:=ac.mp h;exact D5 C ih hg h1
  ·cases h
 ·cases h
theorem zN(C:CtxOk T X)(ih:v9 X E)(h:H9 E T tg e=some t):PI X tg e (LI X.K t):=by
 have wk:(E e).map iQ=some t->PI X tg e (LI X.K t):=λh=>by
  obtain⟨ta,h1,rfl⟩:=ab.mp h;exact iQ.ok (ih h1)
 unfold H9 at h;split at h
 ·rename_i x p1 a p2;by_cases ex:x = "range"
  ·subst ex;obtain⟨hn,h⟩:=ac.mp (show (if qT a && T.isG "range" then (E a).map jt else none)=some t from h);obtain⟨n1,n2⟩:=ak.mp hn;obtain⟨ta,h1,rfl⟩:=ab.mp h;exact jt.ok (C.isG n2).1 C.bl.range (ih h1) (qG n1 _ _)
  ·rw[if_neg ex] at h;by_cases ex:x = "enumerate"
   ·subst ex;cases tg <;> first|(cases h;done)|skip
    obtain⟨hn,h⟩:=ac.mp (show (if qT a && T.isG "enumerate" then (E a).map jU else none)=some t from h);obtain⟨n1,n2⟩:=ak.mp hn;obtain⟨ta,h1,rfl⟩:=ab.mp h;exact jU.ok (C.isG n2).1 C.bl.enumerate (ih h1) (qG n1 _ _)
   ·rw[if_neg ex] at h;by_cases ex:x = "reversed"
    ·subst ex;obtain⟨hn,h⟩:=ac.mp (show (if qT a && T.isG "reversed" then (E a).map kP else none)=some t from h);obtain⟨n1,n2⟩:=ak.mp hn;obtain⟨ta,h1,rfl⟩:=ab.mp h;exact kP.ok (C.isG n2).1 C.bl.reversed (ih h1) (qG n1 _ _)
    ·rw[if_neg ex] at h;exact wk h
 ·rename_i x p1 a b p2;by_cases ex:x = "range"
  ·subst ex;obtain⟨hn,h⟩:=ac.mp (show (if qT a && qT b && T.isG "range" then (E a).bind λta=>(E b).map (kO ta) else none)=some t from h);obtain⟨n1,n2⟩:=ak.mp hn;obtain⟨n0,n1⟩:=ak.mp n1;obtain⟨ta,h1,h⟩:=ae.mp h;obtain⟨tb,h2,rfl⟩:=ab.mp h;exact kO.ok (C.isG n2).1 C.bl.range (ih h1) (ih h2) (by rw[qG n0,qG n1];rfl) (qG n1 _ _)
  ·rw[if_neg ex] at h;exact wk h
 ·exact wk h
theorem yM(C:CtxOk T X)(h:A3 I E F T e tg ifs sc=some t)(ih:∀ s2 H2 fp pins A,v9 (sU X sc s2 H2 fp pins A) E)(ihF:∀ s2 H2 fp pins A,KB (sU X sc s2 H2 fp pins A) F) :
  ∃ ti g te tk,I=some ti/\t=iI ti (sy T.N sc) g tk te/\(∀ i∈g.tg,i∈sy T.N sc)/\(∀ s2 H2 fp pins A,PG (sU X sc s2 H2 fp pins A) tg (LG X.K g))/\(∀ s2 H2 fp pins A,PTs (sU X sc s2 H2 fp pins A) ifs (LT X.K tk))/\∀ s2 H2 fp pins A,PE (sU X sc s2 H2 fp pins A) e (LE X.K te):=by
 obtain⟨ti,h1,h⟩:=ae.mp h;obtain⟨g,h2,h⟩:=ae.mp h;obtain⟨hg,h⟩:=ac.mp h;obtain⟨te,h3,h⟩:=ae.mp h;have hh:∀ i∈g.tg,i∈sy T.N sc:=λi hi=>by simpa using cx.mp hg i hi
 match ifs,h with
 | [],h =>
  cases h;exact⟨ti,g,te,ju,h1,rfl,hh,λ_ _ _ _ _=>y7 (C.inner ..) h2,λ_ _ _ _ _=>pts_nil.weak λσ H Q ⟨f,O,ss,S,q⟩=>q H (Ex.refl S.fl),λ_ _ _ _ _=>ih _ _ _ _ _ h3⟩
 | [k],h =>
  obtain⟨tk,h4,rfl⟩:=ab.mp h;exact⟨ti,g,te,tk,h1,rfl,hh,λ_ _ _ _ _=>y7 (C.inner ..) h2,λ_ _ _ _ _=>EH (ihF _ _ _ _ _ h4),λ_ _ _ _ _=>ih _ _ _ _ _ h3⟩
 | _::_::_,h=>cases h
theorem AU(h:Dy gs=some (tg,it,ifs)):gs=[⟨tg,it,ifs,0⟩]/\qT it=true:=by
 unfold Dy at h;split at h
 ·obtain⟨hn,h⟩:=ac.mp h;cases h;exact⟨rfl,hn⟩
 ·cases h
structure TrOk (n:Nat):Prop where
 e:∀{T:Tc} {X:Cx},CtxOk T X->v9 X (rE n T)
 t:∀{T:Tc} {X:Cx},CtxOk T X->KB X (yb n T)
 w:∀{T:Tc} {X:Cx} {op:BoolOp} {vs:List Expr} {p:Pos} {t:TTd},CtxOk T X->yb n T (.BoolOp op vs p)=some t->PW X (.BoolOp op vs p) (LT X.K t)
theorem Ax(ih:v9 X E)(hb:GB e=true)(h:(E e).map jj=some t):PT X e (LT X.K t):=by
 obtain⟨ta,h1,rfl⟩:=ab.mp h;exact jj.ok (ih h1) λw=>D9 hb _ w
theorem uf:∀ n,TrOk n
 | 0=>⟨λ_ _ _ h=>(by cases h),λ_ _ _ h=>(by cases h),λ_ h=>(by cases h)⟩
 | n+1=>by
  have ih:=uf n;have hw:∀{T:Tc} {X:Cx} {op:BoolOp} {vs:List Expr} {p:Pos} {t:TTd},CtxOk T X->yb (n+1) T (.BoolOp op vs p)=some t->PW X (.BoolOp op vs p) (LT X.K t):=λC h=>Iy (ih.t C) (ih.w C) h;refine⟨λ{T X} C {e t} h=>?_,λ{T X} C {e t} h=>?_,hw⟩
  ·cases e <;> first|(cases h;done)|skip
   case Name x p =>
    have h:Ld T x=some t:=h;unfold Ld at h;cases hs:T.slot x with
    | some i =>
     rw[hs] at h;cases h;exact gV.ok (C.var hs)
    | none =>
     rw[hs] at h;obtain⟨hg,h⟩:=ac.mp h;obtain⟨d,h1,rfl⟩:=ab.mp h;exact JU C hg h1
   case Constant k j p =>
    obtain⟨d,h1,rfl⟩:=ab.mp (show (KI k).map dC=some t from h);exact GL h1
   case BinOp a op b p =>
    obtain⟨ta,tb,h1,h2,rfl⟩:=uG (show two (rE n T) a b (gZ op)=some t from h);exact gZ.ok C.room (ih.e C h1) (ih.e C h2)
   case Compare=>exact FJ C (ih.e C) h
   case UnaryOp=>exact GH (ih.e C) h
   case BoolOp=>exact Iz (ih.e C) h
   case IfExp k a b p =>
    obtain⟨tk,h0,h⟩:=ae.mp (show (yb n T k).bind (λtk=>two (rE n T) a b (pj tk))=some t from h);obtain⟨ta,tb,h1,h2,rfl⟩:=uG h;exact pj.ok (ih.t C h0) (ih.e C h1) (ih.e C h2)
   case Tuple es k p =>
    obtain⟨ta,h1,rfl⟩:=ab.mp (show (uA (rE n T) es).map ic=some t from h);exact ic.ok (sx (ih.e C) h1)
   case List es p =>
    obtain⟨ta,h1,rfl⟩:=ab.mp (show (uA (rE n T) es).map ip=some t from h);exact ip.ok (sx (ih.e C) h1)
   case Subscript=>exact Ew C (ih.e C) h
   case Call g as ks p =>
    exact An C (ih.e C) h
   case ListComp e gs sc p =>
    obtain⟨hs,h⟩:=ac.mp (show (if Cr T.sc sc then (Dy gs).bind λ(tg,it,ifs)=>A3 (H9 (rE n T) T tg it) (rE n { T with sc:=sc }) (yb n { T with sc:=sc }) T e tg ifs sc else none)=some t from h);obtain⟨⟨tg,it,ifs⟩,h1,h2⟩:=ae.mp h;obtain⟨rfl,hn⟩:=AU h1;obtain⟨ti,g,te,tk,q1,rfl,q2,q3,q4,q5⟩:=yM C h2 (λ_ _ _ _ _=>ih.e (C.inner ..)) (λ_ _ _ _ _=>ih.t (C.inner ..));exact iI.ok C.calm (C.compS hs) (zN C (ih.e C) q1) q3 q4 q5 (λx=>tL hn _ x) q2
  ·cases e;case Compare=>exact FI C (ih.e C) h
   case UnaryOp op a p =>
    have h:(if op = .Not then (yb n T a).map iP else (rE n T (.UnaryOp op a p)).map jj)=some t:=h;by_cases eo:op = .Not
    ·subst eo;obtain⟨ta,h1,rfl⟩:=ab.mp (show (yb n T a).map iP=some t from h);exact iP.ok (ih.t C h1)
    ·rw[if_neg eo] at h;refine Ax (ih.e C) ?_ h;cases op <;> first|rfl|exact absurd rfl eo
   case BoolOp=>exact (hw C h).pt
   case IfExp=>cases h
   all_goals exact Ax (ih.e C) rfl h
end
section
open PySem L2 Dp
variable{K:Frag}{X:Cx}{T:Tc}{pos:Pos}
structure CtxS (T:Tc)(X:Cx):Prop extends CtxOk T X where
 scope:X.env.scope=T.sc
 bk:X.env.blockKind = .function
 xe:X.xe=λ_ _=>False
 fnT:∀ x,X.fn x=true
theorem CtxS.L(C:CtxS T X)(h:Cb (T.sc.names.lookup x)=true):yW X.env.scope x:=by
 unfold L2.yW;rw[C.scope];cases q:T.sc.names.lookup x with
 | none=>rw[q] at h;cases h
 | some k=>rw[q] at h;cases k <;> first|exact .inl rfl|exact .inr rfl|cases h
theorem qx.ok(hc:X.calm=true)(hN:X.N.Nodup)(hy:X.N[i]? = some y)(hl:yW X.env.scope y)(Sc:CompS X.N X.env.scope scope hide)(hi:PI X tg iter (LI X.K it))
  (hg:∀ s2 H2 fp pins C,PG (sU X scope s2 H2 fp pins C) tg (LG X.K g)) (ht:∀ s2 H2 fp pins C,PTs (sU X scope s2 H2 fp pins C) ifs (LT X.K c)) (he:∀ s2 H2 fp pins C,PE (sU X scope s2 H2 fp pins C) elt (LE X.K e))
  (hs:∀ x,foldedSetIterable iter X.env x=pure x) (hh:∀ i∈g.tg,i∈hide) (hsw:swapsWith (.ListComp elt [⟨tg,iter,ifs,0⟩] scope ep) (some (.Name y py)) pos.line X.env=pure true) (hf:X.fn y=true\/X.env.scope.names.lookup y=some .local) :
  PS X (.Assign [.Name y py] (.ListComp elt [⟨tg,iter,ifs,0⟩] scope ep) pos) (LS X.K (g7 fz (gNm i) (iI it hide g c e))) :=
 (EI (spos:=pos) hc hN hy hl Sc hi hg ht he hs hsw hf).weak λD σ H ⟨c0,O,ss,R,q⟩=>by
  obtain⟨O',R⟩:=R.frz (fz:=fz);refine⟨c0.f,O',_,R.sl,it.mono (λds q J H1 e1 D0=>?_) q⟩;refine compD.ok (R.sl.ex e1) hh D0 (compD.mono (λd q v H' e r=>?_) q);have R2:=R.ex (e1.trans e);exact q O' _ H' (R2.to (R2.sl.set r) Sub.set)
def KU(T:Tc)(x:Str)(px ep:Pos)(sc:Scope):Bool:=(T.sc.names.lookup x == some .local) && (px.line == ep.line) && !(sc.names.any λ(n,k)=>n == x && (k == .local || k == .cell))
theorem Cl(C:CtxS T X):swapsWith (.ListComp e gs sc ep) (some (.Name x px)) l X.env=pure (KU T x px ep sc):=by
 unfold swapsWith KU;show (pure (X.env.blockKind == .function && X.env.kindOf x == some .local && px.line == ep.line && !(sc.names.any λ(n,k)=>n == x && (k == .local || k == .cell))):Sem Bool)=_;rw[C.bk];unfold Env.kindOf;rw[C.scope];rfl
def C3(T:Tc)(x y:Str)(px py:Pos)(a b:Expr):Bool:=qT a && qT b && (T.sc.names.lookup x == some .local) && (T.sc.names.lookup y == some .local) && (py.line == px.line) && !(x == y) && !(foldedForSure 8 a && foldedForSure 8 b) && !(constantsAlone 8 a && constantsAlone 8 b)
theorem CZ(C:CtxS T X)(h:C3 T x y px py a b=true):swappedStores [.Tuple [.Name x px,.Name y py] kt pt] (.Tuple [a,b] k2 pt2) X.env=pure (some [x,y]):=by
 unfold C3 at h;simp only[aX,dL] at h;obtain⟨⟨⟨⟨⟨⟨⟨h1,h2⟩,h3⟩,h4⟩,h5⟩,h6⟩,h7⟩,h8⟩:=h;have s1:∀{e:Expr},qT e=true->(match e with | .Starred .. => true|_=>false)=false:=λ{e} h=>by cases e <;> first|rfl|cases h
 have k1:X.env.kindOf x == some .local:=by unfold Env.kindOf;rw[C.scope];exact h3
 have k2:X.env.kindOf y == some .local:=by unfold Env.kindOf;rw[C.scope];exact h4
 have n1:(y == x)=false:=by
  cases q:y == x with
  | false=>rfl
  | true =>
   have:=eq_of_beq q;subst this;rw[beq_self_eq_true] at h6;cases h6
 have k1':=eq_of_beq k1;have k2':=eq_of_beq k2;have h5':py.line=px.line:=eq_of_beq h5;have ed:([x,y]:List Str).eraseDups=[x,y]:=by
  rw[List.eraseDups_cons];simp[n1];rfl
 unfold swappedStores;have ep:∀(x:Str) (p:Pos),(Expr.Name x p).pos=p:=λ_ _=>rfl;simp[C.bk,bq,eV,k1',k2',ep,h5',ed];rw[if_neg,if_neg,if_neg]
 ·rintro⟨q1,q2⟩;rw[q1,q2] at h8;cases h8
 ·rintro⟨q1,q2⟩;rw[q1,q2] at h7;cases h7
 ·rintro (q|q)
  ·cases a <;> first|(cases h1;done)|cases q
  ·cases b <;> first|(cases h2;done)|cases q
def Al(T:Tc)(x y:Str)(a b:Expr):Bool:=!((T.sc.names.lookup x == some .local) && (T.sc.names.lookup y == some .local)) || (foldedForSure 8 a && foldedForSure 8 b)
theorem BX(C:CtxS T X)(h:Al T x y a b=true):swappedStores [.Tuple [.Name x px,.Name y py] kt pt] (.Tuple [a,b] k2 pt2) X.env=pure none:=by
 unfold Al at h;rcases gG.mp h with h|h
 ·have h:(X.env.kindOf x == some .local)=false\/(X.env.kindOf y == some .local)=false:=by
   unfold Env.kindOf;rw[C.scope];revert h;cases T.sc.names.lookup x == some .local <;> cases T.sc.names.lookup y == some .local <;> simp
  unfold swappedStores;simp only[bq,eV];rcases h with h|h <;> simp only[h,eI,bQ,if_false];all_goals (split <;> first|rfl|skip)
  all_goals (split <;> first|rfl|skip)
  all_goals (repeat' split) <;> first|rfl|simp_all
 ·have e:[a,b].all (foldedForSure 8)=true:=by
   show (foldedForSure 8 a && (foldedForSure 8 b && true))=true;rw[Bool.and_true];exact h
  unfold swappedStores;dsimp only;rw[if_pos e];repeat' split
  all_goals rfl
def vN:Expr->Option (Str×Str×Pos×List Expr×Pos)
 | .Call (.Attribute (.Name x _) m ap) as [] cp=>if ap.endLine == cp.line then some (x,m,ap,as,cp) else none
 | _=>none
theorem uO(h:vN e=some (x,m,ap,as,cp)):(∃ p,e = .Call (.Attribute (.Name x p) m ap) as [] cp)/\(ap.endLine == cp.line)=true:=by
 unfold vN at h;split at h
 ·obtain⟨hl,h⟩:=ac.mp h;cases h;exact⟨⟨_,rfl⟩,hl⟩
 ·cases h
def Ff(E:FE)(T:Tc)(x:Str)(as:List Expr):Option TEd:=match T.gn.lookup x with
 | some (j,s)=>if decide (j<=T.k) && T.isG x then (uA E as).map (gX s) else none
 | none=>none
def G6:Expr->Option Expr
 | .Call (.Name y _) [u] [] _=>if y = "reversed" then some u else none
 | _=>none
theorem EB(h:G6 e=some u):∃ p q,e = .Call (.Name "reversed" p) [u] [] q:=by
 unfold G6 at h;split at h
 ·obtain⟨rfl,h⟩:=ac.mp h;cases h;exact⟨_,_,rfl⟩
 ·cases h
def Fe(E:FE)(T:Tc):Expr->Option TEd
 | .List es _=>(uA E es).map ip
 | .BinOp a .Mult b _=>two E a b (gZ .Mult)
 | .Call (.Name x _) [a] [] _=>if x = "list" then (match G6 a with
  | some u=>if qT u && T.isG "reversed" && T.isG "list" then (E u).map j6 else none
  | none=>if qT a && T.isG "list" then (E a).map jF else none) else Ff E T x [a]
 | .Call (.Name x _) [a,b] [] _=>Ff E T x [a,b]
 | _=>none
def Gg:Expr->Bool
 | .Tuple .. => true|_=>false
def Kt(n:Nat)(T:Tc)(p:Pos)(i:Nat)(e:Expr):Option TSd:=match vN e with
 | some (y,m,_,as,_)=>if m = "pop" then (match as with
  | []=>(T.slot y).map (mZ i)
  | [k]=>if qT k then (T.slot y).bind λj=>(rE n T k).map (oG i j) else none
  | _=>none) else none
 | none=>if T.own.contains p.line then ((Fe (rE n T) T e).map (jn (T.frz p) i)) else if (T.pk p).isEmpty then (rE n T e).map (g7 (T.frz p) (gNm i)) else if rW e then none else (rE n T e).map (oF (T.pk p) i)
def C2:List Expr->Expr->Option (Str×Pos×Str×Pos×Expr×Expr)
 | [.Name x px,.Name y py],.Tuple [a,b] _ _=>some (x,px,y,py,a,b)
 | _,_=>none
theorem C1(h:C2 es e=some (x,px,y,py,a,b)):es=[.Name x px,.Name y py]/\∃ k p,e = .Tuple [a,b] k p:=by
 unfold C2 at h;split at h
 ·cases h;exact⟨rfl,_,_,rfl⟩
 ·cases h
def zu:List Expr->Expr->Option (Str×Str×Str×Expr×Pos×Expr×Nat×Pos)
 | [.Name x _,.Name y _,.Name z _],.Tuple [a,.List [] pl,c] k p=>some (x,y,z,a,pl,c,k,p)
 | _,_=>none
theorem Br(h:zu es e=some (x,y,z,a,pl,c,k,p)):(∃ px py pz,es=[.Name x px,.Name y py,.Name z pz])/\e = .Tuple [a,.List [] pl,c] k p:=by
 unfold zu at h;split at h
 ·cases h;exact⟨⟨_,_,_,rfl⟩,rfl⟩
 ·cases h
theorem DZ(C:CtxS T X)(h:(T.sc.names.lookup z == some .local)=false):swappedStores [.Tuple [.Name x px,.Name y py,.Name z pz] kt pt] (.Tuple [a,b,c] k2 pt2) X.env=pure none:=by
 have h:(X.env.kindOf z == some .local)=false:=by
  unfold Env.kindOf;rw[C.scope];exact h
 unfold swappedStores;simp only[bq,eV,h,eI,bQ,if_false];all_goals (split <;> first|rfl|skip)
 all_goals (split <;> first|rfl|skip)
 all_goals (repeat' split) <;> first|rfl|simp_all
def GJ(n:Nat)(T:Tc)(p:Pos)(es:List Expr)(e:Expr):Option TSd:=match zu es e with
 | some (_,_,z,a,_,c,_,_)=>if qT a && qT c && !(T.sc.names.lookup z == some .local) then (match xl T es with
  | some [i,j,k]=>(rE n T a).bind λta=>(rE n T c).map (oI (T.frz p) i j k ta)
  | _=>none) else none
 | none=>none
def GI(n:Nat)(T:Tc)(p:Pos)(es:List Expr)(e:Expr):Option TSd:=match C2 es e with
 | some (x,px,y,py,a,b)=>if C3 T x y px py a b then (T.slot x).bind λi=>(T.slot y).bind λj=>(if T.own.contains p.line then (Fe (rE n T) T a).bind λta=>(rE n T b).map (oE (T.frz p) i j ta) else (rE n T a).bind λta=>(rE n T b).map (mH (T.frz p) i j ta)) else if Al T x y a b then (xl T es).bind λis=>(rE n T e).map (g7 (T.frz p) (gTp is)) else none
 | none=>if T.own.contains p.line then GJ n T p es e else if rW e then (xl T es).bind λis=>(rE n T e).map (g7 (T.frz p) (gTl is)) else if Gg e || rW e then none else (xl T es).bind λis=>(rE n T e).map (g7 (T.frz p) (gTp is))
def Ki(n:Nat)(T:Tc)(p:Pos)(e:Expr):Expr->Option TSd
 | .Name x _=>if Cb (T.sc.names.lookup x)=true then (T.slot x).bind λi=>Kt n T p i e else none
 | .Subscript a k _=>(match a with
  | .Name x _=>if qT k && !rW e then (T.slot x).bind λi=>(rE n T k).bind λtk=>(rE n T e).map (jh (T.frz p) i tk) else none
  | _=>none)
 | .Tuple es _ _=>GI n T p es e
 | _=>none
def AF(e:Expr):Option (Str×Expr):=match vN e with
 | some (y,m,_,[k],_)=>if m = "pop" then some (y,k) else none
 | _=>none
theorem CN(h:AF e=some (y,k)):∃ p ap cp,e = .Call (.Attribute (.Name y p) "pop" ap) [k] [] cp/\(ap.endLine == cp.line)=true:=by
 unfold AF at h;split at h
 ·rename_i y' m ap k' cp em;obtain⟨⟨p,rfl⟩,hl⟩:=uO em;obtain⟨rfl,h⟩:=ac.mp h;cases h;exact⟨p,ap,cp,rfl,hl⟩
 ·cases h
def Ls(n:Nat)(T:Tc)(p:Pos)(e:Expr):Option TSd:=match vN e with
 | some (x,m,_,as,_)=>if m = "append" then (match as with
   | [e]=>(match AF e with
    | some (y,k)=>if qT k then (T.slot x).bind λi=>(T.slot y).bind λj=>(rE n T k).map (oH i j) else none
    | none=>if qT e then (T.slot x).bind λi=>(rE n T e).map (kB (T.frz p) i) else none)
   | _=>none)
  else if m = "pop" then (match as with
   | []=>(T.slot x).map pE
   | [k]=>if qT k then (T.slot x).bind λi=>(rE n T k).map (m7 i) else none
   | _=>none)
  else if m = "insert" then (match as with
   | [a,b]=>if qT a && qT b then (T.slot x).bind λi=>(rE n T a).bind λta=>(rE n T b).map (pQ (T.pk p) i ta) else none
   | _=>none)
  else none
 | none=>none
def Lm(T:Tc)(p:Pos)(k:TTd)(a b:TSd):TSd:=if (T.pk p).isEmpty then dIf (T.frz p) k a b else pF (T.pk p) k a b
def Gh:Operator->Bool
 | .Add=>true
 | _=>false
theorem Do:∀{op:Operator},Gh op=true->op = .Add
 | .Add,_=>rfl
def IC(T:Tc)(p:Pos)(i:Nat)(op:Operator)(t:TEd):TSd:=if T.mu.contains i && Gh op then ot (T.frz p) i t else oS (T.frz p) i op t
mutual
def IU:Nat->Tc->Stmt->Option TSd
 | 0,_,_=>none
 | n+1,T,st=>match st with
  | .Return o p=>(match o with
   | some e=>(rE n T e).map (iq (T.frz p))
   | none=>some oD)
  | .Pass _=>some iA
  | .Break _=>some pP
  | .Expr e p=>Ls n T p e
  | .Assign tgs e p=>(match tgs with
   | [tg]=>Ki n T p e tg
   | _=>none)
  | .AugAssign tg op e p=>(match tg with
   | .Name x _=>if Cb (T.sc.names.lookup x)=true then (T.slot x).bind λi=>(rE n T e).map (IC T p i op) else none
   | .Subscript a k _=>(match a with
    | .Name x _=>if qT k then (T.slot x).bind λi=>(rE n T k).bind λtk=>(rE n T e).map (nX (T.frz p) i tk op) else none
    | _=>none)
   | _=>none)
  | .If k a b p=>(yb n T k).bind λtk=>(xZ n T a).bind λta=>(xZ n T b).map λtb=>Lm T p tk ta tb
  | .While k a r _=>(match r with
   | []=>(yb n T k).bind λtk=>(xZ n T a).map (iN tk)
   | _=>none)
  | .For tg it a r p=>(match r with
   | []=>if qT it then (H9 (rE n T) T tg it).bind λti=>(Kr T tg).bind λg=>(xZ n T a).map (iO (T.frz p) ti g) else none
   | _=>none)
  | _=>none
def xZ:Nat->Tc->List Stmt->Option TSd
 | 0,_,_=>none
 | n+1,T,sts=>match sts with
  | []=>some iA
  | st::r=>(match r with
   | []=>IU n T st
   | _=>(IU n T st).bind λt=>(xZ n T r).map (dSq t))
end
theorem AK(C:CtxOk T X)(ih:v9 X E)(h:Ff E T x (a::as)=some t):PE X (.Call (.Name x p) (a::as) [] pos) (LF X.K t):=by
 unfold Ff at h;cases e1:T.gn.lookup x with
 | none=>rw[e1] at h;cases h
 | some js =>
  obtain⟨j,s⟩:=js;rw[e1] at h;obtain⟨hk,h⟩:=ac.mp h;obtain⟨k1,k2⟩:=ak.mp hk;obtain⟨tb,h2,rfl⟩:=ab.mp h;obtain⟨g1,g2⟩:=C.isG k2;obtain⟨ps,d⟩:=C.gn x j s (rD e1);exact gX.okF (xA d C.room (sx ih h2) (of_decide_eq_true k1) g1 g2 (sD h2) (tO h2))
theorem AJ(C:CtxOk T X)(ih:v9 X E)(h:Fe E T e=some t):PE X e (LF X.K t)/\rW e=false:=by
 unfold Fe at h;split at h
 ·obtain⟨ta,h1,rfl⟩:=ab.mp h;exact⟨ip.okF (sx ih h1),rfl⟩
 ·obtain⟨ta,tb,h1,h2,rfl⟩:=uG h;exact⟨qy.okF (ih h1) (ih h2),rfl⟩
 ·rename_i x p1 a p2;by_cases ex:x = "list"
  ·rw[if_pos ex] at h;subst ex;split at h
   ·rename_i u eu;obtain⟨p,q,rfl⟩:=EB eu;obtain⟨hn,h4⟩:=ac.mp h;obtain⟨hn,n3⟩:=ak.mp hn;obtain⟨n1,n2⟩:=ak.mp hn;obtain⟨ta,h1,rfl⟩:=ab.mp h4;exact⟨j6.okF (C.isG n3).1 C.bl.list (C.isG n2).1 C.bl.reversed C.calm (ih h1) (qG n1 _ _),rfl⟩
   ·obtain⟨hn,h4⟩:=ac.mp h;obtain⟨n1,n2⟩:=ak.mp hn;obtain⟨ta,h1,rfl⟩:=ab.mp h4;exact⟨jF.okF (C.isG n2).1 C.bl.list (ih h1) (qG n1 _ _),rfl⟩
  ·rw[if_neg ex] at h;exact⟨AK C ih h,rfl⟩
 ·exact⟨AK C ih h,rfl⟩
 ·cases h
theorem sv(h:rW e=false)(t:Expr)(l:Nat)(env:Env):swapsWithSole [t] e l env=pure false:=tK h (some t) l env
theorem yc(C:CtxOk T X)(h:rE n T (.ListComp e gs sc p)=some t):∃ tg it ifs ti g te tk,gs=[⟨tg,it,ifs,0⟩]/\qT it=true/\CompS X.N X.env.scope sc (sy T.N sc)/\PI X tg it (LI X.K ti)/\t=iI ti (sy T.N sc) g tk te/\(∀ i∈g.tg,i∈sy T.N sc)/\(∀ s2 H2 fp pins A,PG (sU X sc s2 H2 fp pins A) tg (LG X.K g))/\(∀ s2 H2 fp pins A,PTs (sU X sc s2 H2 fp pins A) ifs (LT X.K tk))/\∀ s2 H2 fp pins A,PE (sU X sc s2 H2 fp pins A) e (LE X.K te):=by
 cases n with
 | zero=>cases h
 | succ n =>
  have ih:=uf n;obtain⟨hs,h⟩:=ac.mp (show (if Cr T.sc sc then (Dy gs).bind λ(tg,it,ifs)=>A3 (H9 (rE n T) T tg it) (rE n { T with sc:=sc }) (yb n { T with sc:=sc }) T e tg ifs sc else none)=some t from h);obtain⟨⟨tg,it,ifs⟩,h1,h2⟩:=ae.mp h;obtain⟨rfl,hn⟩:=AU h1;obtain⟨ti,g,te,tk,q1,q0,q2,q3,q4,q5⟩:=yM C h2 (λ_ _ _ _ _=>ih.e (C.inner ..)) (λ_ _ _ _ _=>ih.t (C.inner ..));exact⟨tg,it,ifs,ti,g,te,tk,rfl,hn,C.compS hs,zN C (ih.e C) q1,q0,q2,q3,q4,q5⟩
theorem HL(C:CtxS T X)(hl:Cb (T.sc.names.lookup x)=true)(hs:T.slot x=some i)(h:Kt n T p i e=some t):PS X (.Assign [.Name x px] e p) (LS X.K t):=by
 have ih:v9 X (rE n T):=(uf n).e C.toCtxOk;have hf:X.fn x=true\/X.env.scope.names.lookup x=some .local:=.inl (C.fnT x);unfold Kt at h;split at h
 ·rename_i y m ap as cp em;obtain⟨⟨p1,rfl⟩,hn⟩:=uO em;obtain⟨rfl,h3⟩:=ac.mp h;match as,h3 with
  | [],h3 =>
   obtain⟨j,h1,rfl⟩:=ab.mp h3;exact mZ.ok C.nd (C.slot hs) (C.L hl) hf (C.var h1) rfl hn rfl
  | [k],h3 =>
   obtain⟨nk,h3⟩:=ac.mp h3;obtain⟨j,h1,h3⟩:=ae.mp h3;obtain⟨tk,h2,rfl⟩:=ab.mp h3;exact oG.ok C.nd (C.slot hs) (C.L hl) hf (C.var h1) rfl (ih h2) (qG nk _ _) hn rfl
  | _::_::_,h3=>cases h3
 ·by_cases ho:T.own.contains p.line=true
  ·rw[if_pos ho] at h;obtain⟨ta,h1,rfl⟩:=ab.mp h;obtain⟨q1,q2⟩:=AJ C.toCtxOk ih h1;exact jn.ok C.nd (C.slot hs) (C.L hl) q1 (tK q2 ..) hf
  ·rw[if_neg ho] at h;by_cases hk:(T.pk p).isEmpty=true
   rotate_left
   ·rw[if_neg hk] at h;obtain⟨hc,h⟩:=dq.mp h;obtain⟨ta,h1,rfl⟩:=ab.mp h;exact oF.ok C.nd (C.slot hs) (C.L hl) (ih h1) (tK (by simpa using hc) ..) hf
   rw[if_pos hk] at h;obtain⟨ta,h1,rfl⟩:=ab.mp h;have gen:rW e=false->PS X (.Assign [.Name x px] e p) (LS X.K (g7 (T.frz p) (gNm i) ta)):=λhc=>qt.ok C.nd (C.slot hs) (C.L hl) (ih h1) (tK hc ..) hf;cases e;case ListComp e gs sc ep hmm =>
    obtain⟨tg,it,ifs,ti,g,te,tk,rfl,hn,q0,qi,rfl,q2,q3,q4,q5⟩:=yc C.toCtxOk h1;cases sw:KU T x px ep sc with
    | false=>exact qt.ok C.nd (C.slot hs) (C.L hl) (ih h1) (by rw[Cl C,sw]) hf
    | true=>exact qx.ok C.calm C.nd (C.slot hs) (C.L hl) q0 qi q3 q4 q5 (λx=>tL hn _ x) q2 (by rw[Cl C,sw]) hf
   case SetComp=>cases n <;> cases h1
   case DictComp=>cases n <;> cases h1
   all_goals exact gen rfl
theorem Ep(C:CtxS T X)(h:GJ n T p es e=some t):PS X (.Assign [.Tuple es kt pt] e p) (LS X.K t):=by
 have ih:v9 X (rE n T):=(uf n).e C.toCtxOk;unfold GJ at h;split at h
 ·rename_i x y z a pl c k p2 eo;obtain⟨⟨px,py,pz,rfl⟩,rfl⟩:=Br eo;obtain⟨hn,h⟩:=ac.mp h;obtain⟨hn,n3⟩:=ak.mp hn;obtain⟨n1,n2⟩:=ak.mp hn;split at h
  ·rename_i i j k hg;obtain⟨ta,h1,h⟩:=ae.mp h;obtain⟨tb,h2,rfl⟩:=ab.mp h;obtain⟨q1,q2,q3⟩:=tH C.toCtxOk hg;exact oI.ok (ih h1) (ih h2) (qG n1 _ _) (qG n2 _ _) (xx C.calm q1 q2 q3) (sv rfl ..) (DZ C (by simpa using n3)) rfl
  ·cases h
 ·cases h
theorem Eo(C:CtxS T X)(h:GI n T p es e=some t):PS X (.Assign [.Tuple es kt pt] e p) (LS X.K t):=by
 have ih:v9 X (rE n T):=(uf n).e C.toCtxOk;unfold GI at h;split at h
 ·rename_i x px y py a b eo;obtain⟨rfl,k,p2,rfl⟩:=C1 eo;by_cases hp:C3 T x y px py a b=true
  rotate_left
  ·rw[if_neg hp] at h;obtain⟨hc,h⟩:=ac.mp h;obtain⟨is,h1,h⟩:=ae.mp h;obtain⟨ta,h2,rfl⟩:=ab.mp h;obtain⟨q1,q2,q3⟩:=tH C.toCtxOk h1;exact g7.ok (ih h2) (gTp.ok (xx C.calm q1 q2 q3)) (sv rfl ..) (BX C hc) rfl
  rw[if_pos hp] at h;obtain⟨i,h1,h⟩:=ae.mp h;obtain⟨j,h2,h⟩:=ae.mp h;have hp':=hp;unfold C3 at hp';simp only[aX,dL] at hp';obtain⟨⟨⟨⟨⟨⟨⟨w1,w2⟩,w3⟩,w4⟩,w5⟩,w6⟩,w7⟩,w8⟩:=hp';have ne:i≠j:=by
   rintro rfl;have a1:=C.slot h1;have a2:=C.slot h2;rw[a1] at a2;cases a2;rw[beq_self_eq_true] at w6;cases w6
  by_cases ow:T.own.contains p.line=true
  ·rw[if_pos ow] at h;obtain⟨ta,h3,h⟩:=ae.mp h;obtain⟨tb,h4,rfl⟩:=ab.mp h;exact (CL (pos:=p) C.calm C.nd (C.slot h1) (C.slot h2) ne (C.loc _ (eq_of_beq w3)) (C.loc _ (eq_of_beq w4)) (qC (AJ C.toCtxOk ih h3).1 (qC (ih h4) pa_nil (qG w2 _ _)) (qG w1 _ _)) (CZ C hp) rfl).weak λD σ H q=>oE.weak q
  ·rw[if_neg ow] at h;obtain⟨ta,h3,h⟩:=ae.mp h;obtain⟨tb,h4,rfl⟩:=ab.mp h;exact (CL (pos:=p) C.calm C.nd (C.slot h1) (C.slot h2) ne (C.loc _ (eq_of_beq w3)) (C.loc _ (eq_of_beq w4)) (qC (ih h3) (qC (ih h4) pa_nil (qG w2 _ _)) (qG w1 _ _)) (CZ C hp) rfl).weak λD σ H q=>mH.weak q
 ·by_cases ow:T.own.contains p.line=true
  ·rw[if_pos ow] at h;exact Ep C h
  rw[if_neg ow] at h;by_cases hc:rW e=true
  ·rw[if_pos hc] at h;obtain⟨is,h1,h⟩:=ae.mp h;obtain⟨ta,h2,rfl⟩:=ab.mp h;obtain⟨q1,q2,q3⟩:=tH C.toCtxOk h1;have hx:=ih h2;cases e <;> first|(cases hc;done)|skip
   all_goals exact g7.ok hx (gTl.ok (Hs C.calm q1 q2 q3)) rfl rfl rfl
  rw[if_neg hc] at h;obtain⟨hn,h⟩:=dq.mp h;obtain⟨is,h1,h⟩:=ae.mp h;obtain⟨ta,h2,rfl⟩:=ab.mp h;obtain⟨q1,q2,q3⟩:=tH C.toCtxOk h1;have hn2:Gg e=false/\rW e=false:=by simpa using hn
  refine g7.ok (ih h2) (gTp.ok (xx C.calm q1 q2 q3)) (sv hn2.2 ..) ?_ rfl;have:=hn2.1;cases e <;> first|rfl|cases this
theorem FN(C:CtxS T X)(h:Ki n T p e tg=some t):PS X (.Assign [tg] e p) (LS X.K t):=by
 have ih:v9 X (rE n T):=(uf n).e C.toCtxOk;cases tg <;> first|(cases h;done)|skip
 case Name x px =>
  obtain⟨hl,h⟩:=ac.mp (show (if Cb (T.sc.names.lookup x)=true then (T.slot x).bind λi=>Kt n T p i e else none)=some t from h);obtain⟨i,h1,h⟩:=ae.mp h;exact HL C hl h1 h
 case Subscript a k sp =>
  cases a <;> first|(cases h;done)|skip
  rename_i x q;obtain⟨hn,h⟩:=ac.mp (show (if qT k && !rW e then (T.slot x).bind λi=>(rE n T k).bind λtk=>(rE n T e).map (jh (T.frz p) i tk) else none)=some t from h);obtain⟨n1,n2⟩:=ak.mp hn;obtain⟨i,h1,h⟩:=ae.mp h;obtain⟨tk,h2,h⟩:=ae.mp h;obtain⟨ta,h3,rfl⟩:=ab.mp h;have hc:rW e=false:=by simpa using n2
  refine jh.ok (C.var h1) (ih h2) (ih h3) (sv hc ..) ?_ rfl (t8 (C.var h1) (ih h2) rT ?_)
  ·cases e <;> rfl
  ·intro v;cases k <;> first|rfl|cases n1
 case Tuple es k pt=>exact Eo C h
theorem Ij(C:CtxS T X)(h:Ls n T p e=some t):PS X (.Expr e p) (LS X.K t):=by
 have ih:v9 X (rE n T):=(uf n).e C.toCtxOk;unfold Ls at h;split at h
 ·rename_i x m ap as cp em;obtain⟨⟨p1,rfl⟩,hl⟩:=uO em;by_cases e1:m = "append"
  ·subst e1;rw[if_pos rfl] at h;match as,h with
   | [e],h =>
    cases ep:AF e with
    | some yk =>
     obtain⟨y,k⟩:=yk;simp only[ep] at h;obtain⟨hn,h⟩:=ac.mp h;obtain⟨i,h1,h⟩:=ae.mp h;obtain⟨j,h2,h⟩:=ae.mp h;obtain⟨ta,h3,rfl⟩:=ab.mp h;obtain⟨p2,ap2,cp2,rfl,hl2⟩:=CN ep;exact oH.ok (C.var h1) rfl hl (C.var h2) rfl hl2 (ih h3) (qG hn _ _) rfl
    | none =>
    simp only[ep] at h;obtain⟨hn,h⟩:=ac.mp h;obtain⟨i,h1,h⟩:=ae.mp h;obtain⟨ta,h2,rfl⟩:=ab.mp h;exact kB.ok (C.var h1) rfl (ih h2) (qG hn _ _) hl rfl
   | [],h=>cases h
   | _::_::_,h=>cases h
  ·rw[if_neg e1] at h;by_cases e2:m = "pop"
   ·subst e2;rw[if_pos rfl] at h;match as,h with
    | [],h =>
     obtain⟨i,h1,rfl⟩:=ab.mp h;exact pE.ok (C.var h1) rfl hl rfl
    | [k],h =>
     obtain⟨nk,h⟩:=ac.mp h;obtain⟨i,h1,h⟩:=ae.mp h;obtain⟨tk,h2,rfl⟩:=ab.mp h;exact m7.ok (C.var h1) rfl (ih h2) (qG nk _ _) hl rfl
    | _::_::_,h=>cases h
   ·rw[if_neg e2] at h;by_cases e3:m = "insert"
    ·subst e3;rw[if_pos rfl] at h;match as,h with
     | [a,b],h =>
      obtain⟨hn,h⟩:=ac.mp h;obtain⟨n1,n2⟩:=ak.mp hn;obtain⟨i,h1,h⟩:=ae.mp h;obtain⟨ta,h2,h⟩:=ae.mp h;obtain⟨tb,h3,rfl⟩:=ab.mp h;exact pQ.ok (C.var h1) rfl (ih h2) (ih h3) (by rw[qG n1,qG n2];rfl) (qG n2 _ _) hl rfl
     | [],h=>cases h
     | [_],h=>cases h
     | _::_::_::_,h=>cases h
    rw[if_neg e3] at h;cases h
 ·cases h
theorem vz:∀ n,(∀{T:Tc} {X:Cx} {st:Stmt} {t:TSd},CtxS T X->IU n T st=some t->PS X st (LS X.K t))/\(∀{T:Tc} {X:Cx} {sts:List Stmt} {t:TSd},CtxS T X->xZ n T sts=some t->PSs X sts (LS X.K t))
 | 0=>⟨λ_ h=>(by cases h),λ_ h=>(by cases h)⟩
 | n+1=>by
  have ihS:=vz n;constructor
  ·intro T X st t C h;have C':=C.toCtxOk;have ih:v9 X (rE n T):=(uf n).e C';have it:KB X (yb n T):=(uf n).t C';have hp:PassesOwn (model X.prog X.w) X.A X.env X.xe:=by
    rw[C.xe];exact PassesOwn.never
   cases st <;> first|(cases h;done)|skip
   case Return o p =>
    cases o with
    | none =>
     cases h;exact oD.ok
    | some e =>
     obtain⟨ta,h1,rfl⟩:=ab.mp (show (rE n T e).map (iq (T.frz p))=some t from h);exact iq.ok (ih h1)
   case Pass=>cases h;exact iA.pass
   case Break=>cases h;exact pP.ok
   case Expr=>exact Ij C h
   case Assign tgs e p =>
    match tgs,h with
    | [tg],h=>exact FN C h
    | [],h=>cases h
    | _::_::_,h=>cases h
   case AugAssign tg op e p =>
    cases tg <;> first|(cases h;done)|skip
    case Name x px =>
     obtain⟨hl,h⟩:=ac.mp (show (if Cb (T.sc.names.lookup x)=true then (T.slot x).bind λi=>(rE n T e).map (IC T p i op) else none)=some t from h);obtain⟨i,h1,h⟩:=ae.mp h;obtain⟨ta,h2,rfl⟩:=ab.mp h;unfold IC;split
     ·rename_i hk;obtain⟨_,k2⟩:=ak.mp hk;cases Do k2;exact ot.okA C.nd (C'.slot h1) (C.L hl) (ih h2) (.inl (C.fnT _))
     ·exact oS.ok C.room C.nd (C'.slot h1) (C.L hl) (ih h2) (.inl (C.fnT _))
    case Subscript a k sp =>
     cases a <;> first|(cases h;done)|skip
     rename_i x q;obtain⟨hn,h⟩:=ac.mp (show (if qT k then (T.slot x).bind λi=>(rE n T k).bind λtk=>(rE n T e).map (nX (T.frz p) i tk op) else none)=some t from h);obtain⟨i,h1,h⟩:=ae.mp h;obtain⟨tk,h2,h⟩:=ae.mp h;obtain⟨ta,h3,rfl⟩:=ab.mp h;refine nX.ok C.room (C.var h1) (ih h2) (ih h3) ?_;cases k <;> first|(intros;rfl)|cases hn
   case If k a b p =>
    obtain⟨tk,h0,h⟩:=ae.mp (show (yb n T k).bind (λtk=>(xZ n T a).bind λta=>(xZ n T b).map λtb=>Lm T p tk ta tb)=some t from h);obtain⟨ta,h1,h⟩:=ae.mp h;obtain⟨tb,h2,rfl⟩:=ab.mp h;unfold Lm;split
    ·exact dIf.ok (it h0) (ihS.2 C h1) (ihS.2 C h2)
    ·exact pF.ok (it h0) (ihS.2 C h1) (ihS.2 C h2)
   case While k a r p =>
    cases r with
    | cons=>cases h
    | nil =>
     obtain⟨tk,h0,h⟩:=ae.mp (show (yb n T k).bind (λtk=>(xZ n T a).map (iN tk))=some t from h);obtain⟨ta,h1,rfl⟩:=ab.mp h;exact iN.ok hp (it h0) (ihS.2 C h1)
   case For tg i a r p =>
    cases r with
    | cons=>cases h
    | nil =>
     obtain⟨hn,h⟩:=ac.mp (show (if qT i then (H9 (rE n T) T tg i).bind λti=>(Kr T tg).bind λg=>(xZ n T a).map (iO (T.frz p) ti g) else none)=some t from h);obtain⟨ti,h0,h⟩:=ae.mp h;obtain⟨g,h1,h⟩:=ae.mp h;obtain⟨tb,h2,rfl⟩:=ab.mp h;exact iO.ok hp C.calm (zN C' ih h0) (y7 C' h1) (ihS.2 C h2) λx=>tL hn _ x
  ·intro T X sts t C h;match sts,h with
   | [],h =>
    cases h;exact iA.nil
   | [st],h=>exact dSq.one (ihS.1 C h)
   | st::s2::r,h =>
    obtain⟨ta,h1,h⟩:=ae.mp (show (IU n T st).bind (λt=>(xZ n T (s2::r)).map (dSq t))=some t from h);obtain⟨tb,h2,rfl⟩:=ab.mp h;exact dSq.ok (ihS.1 C h1) (ihS.2 C h2)
theorem Ah(B:Bl mg)(S:FnScope N ps (qA st))
  (hG:∀ x j s,(x,j,s)∈G->∃ ps,Def P w K mg base x j ps (v8 K s.n s.run)) (hgc:∀ x d,(x,d)∈gc->∃ v u,mg x=some u/\RelV v u/\∀ f O H,Rp K f O H d v) (hgn:∀ x j s,(x,j,s)∈gn->∃ ps,Def P w K mg base x j ps (tS K s.n s.run)) (hr:Room k (A.deeper (PyProof.Rows.envOfC qual (qA st) s0.heap.objs.size f cdv))) :
  CtxS ⟨N,qA st,G,gc,k,fz,own,mu,gn⟩ (Ab x8 P w K mg base N qual (qA st) f cdv A outer s0 H E).nox:=by
 refine⟨⟨rfl,S.nd,rfl,hr,λx h=>?_,λx h=>h,λx h=>h,λx h=>h,hG,hgc,B,λx h=>⟨h,rfl⟩,hgn⟩,rfl,?_,rfl,λ_=>rfl⟩
 ·have h:JM ((qA st).names.lookup x)=true:=h;unfold GC;show (qA st).names.lookup x=_\/(qA st).names.lookup x=_\/(qA st).names.lookup x=_;cases q:(qA st).names.lookup x with
  | none=>rw[q] at h;cases h
  | some k=>rw[q] at h;cases k <;> first|exact .inl rfl|exact .inr (.inl rfl)|exact .inr (.inr rfl)|cases h
 ·show (if (qA st).kind.isAnnotationScope then ScopeKind.function else (qA st).kind) = .function;rw[S.kind];rfl
theorem Db(F:Fun K x qual st f fd)(B:Bl mg)(S:FnScope N ps (qA st))(hn:s.n=ps.length)
  (hG:∀ x j s,(x,j,s)∈G->∃ ps,Def P w K mg base x j ps (v8 K s.n s.run)) (hgc:∀ x d,(x,d)∈gc->∃ v u,mg x=some u/\RelV v u/\∀ f O H,Rp K f O H d v) (hgn:∀ x j s,(x,j,s)∈gn->∃ ps,Def P w K mg base x j ps (tS K s.n s.run))
  (ht:xZ n ⟨N,qA st,G,gc,k,fz,own,mu,gn⟩ (rf st)=some t) (h:Does N.length t s):FnOk P w K mg base x8 (k+1) f fd ps (v8 K s.n s.run) :=
 F.ok S (λvs H Q E q=>q.1.trans hn) (λcdv A outer s0 H vs Q E hr q=>⟨LS K t,(vz n).2 (Ah B S hG hgc hgn hr) ht,h.ok q⟩)
theorem E8{P:Program}{w:World}{mg:Str->Option Value}{base:Heap}{x qual:Str}{st:Stmt}{f:Addr}{fd:FuncData}{N ps:List Str}{n k:Nat}{t:TEd}{s:SpB}{G:List (Str×Nat×SpB)}{gc:List (Str×D)}{e:Expr}{gs:List Comprehension}{sc:Scope}{p pr:Pos}(F:Fun K x qual st f fd)(B:Bl mg)(S:FnScope N ps (qA st))(hn:s.n=ps.length)
  (hG:∀ x j s,(x,j,s)∈G->∃ ps,Def P w K mg base x j ps (v8 K s.n s.run)) (hgc:∀ x d,(x,d)∈gc->∃ v u,mg x=some u/\RelV v u/\∀ f O H,Rp K f O H d v)
  (hb:rf st=[.Return (some (.ListComp e gs sc p)) pr]) (ht:rE n ⟨N,qA st,G,gc,k,[],[],[],[]⟩ (.ListComp e gs sc p)=some t) (h:Does N.length (iq [] t) s):FnOk P w K mg base x8 (k+1) f fd ps (tS K s.n s.run):=by
 refine F.ok S (λvs H Q E q=>q.1.trans hn) (λcdv A outer s0 H vs Q E hr q=>⟨Ja (LF K t),?_,?_⟩)
 ·rw[hb];obtain⟨tg,it,ifs,ti,g,te,tk,rfl,hni,q1,q2,rfl,q3,q4,q5,q6⟩:=yc (Ah (fz:=[]) (own:=[]) (mu:=[]) (gn:=[]) B S hG hgc (λ_ _ _ h=>absurd h aK) hr).toCtxOk ht;exact rh (sh (iI.okF rfl q1 q2 q4 q5 q6 (λx=>tL hni _ x) q3))
 ·obtain⟨hn,f,O,ds,fl,fO,al,lO,r,q⟩:=q;exact⟨f,O,_,(startD.ok fl fO al lO r).sl,h ds _ (r.len.symm.trans hn) q⟩
end
section
open PySem L2 Dp
variable{P:Program}{w:World}{K:Frag}{mg:Str->Option Value}{base:Heap}
end
section
open PySem L2 Dp
variable{P:Program}{w:World}{K:Frag}{mg:Str->Option Value}{base:Heap}
theorem MI:∀(x:Str) (j:Nat) (s:SpB),(x,j,s)∈([]:List (Str×Nat×SpB))->∃ ps,Def P w K mg base x j ps (v8 K s.n s.run):=λ_ _ _ h=>absurd h aK
theorem tW(g:Def P w K mg base y i ps (v8 K r.n r.run))(h:∀(x:Str) (j:Nat) (s:SpB),(x,j,s)∈G->∃ ps,Def P w K mg base x j ps (v8 K s.n s.run)):∀(x:Str) (j:Nat) (s:SpB),(x,j,s)∈(y,i,r)::G->∃ ps,Def P w K mg base x j ps (v8 K s.n s.run):=λx j s e=>by
 rcases ao.mp e with e|e
 ·cases e;exact⟨ps,g⟩
 ·exact h x j s e
theorem tQ:∀(x:Str) (d:D),(x,d)∈([]:List (Str×D))->∃ v u,mg x=some u/\RelV v u/\∀ f O H,Rp K f O H d v:=λ_ _ h=>absurd h aK
end
section
open PySem L2 Dp
variable{P:Program}{w:World}{K:Frag}{mg:Str->Option Value}{base:Heap}
structure Sl (K:Frag)(f:Addr)(x:Str)(st:Stmt):Prop where
 a:PySem.W.nsIn K mainGlobals x=some (some (.ref f))
 ex:∃ fd,Fun K x x st f fd
theorem sl{f:Addr}{x:Str}{st:Stmt}{oc:Value}{od an:Option Addr}{osl:Array (Option Value)}{kV doc pm cdv ct:Value}(a:PySem.W.nsIn K mainGlobals x=some (some (.ref f)))(l:K.lookup f=some ⟨oc,od,.func (PySem.W.fnOf x x (tM st) (rf st) (qA st) .none kV doc pm an cdv ct),osl⟩)(c:PySem.W.codeIn K cdv x=true)(k:PySem.W.keepIn K (.ref f)=true):Sl K f x st:=⟨a,_,Ih l c k⟩
abbrev Mg(K:Frag)(mg:Str->Option Value):Prop:=∀(x:Str) (f:Addr),PySem.W.nsIn K mainGlobals x=some (some (.ref f))->mg x=some (.ref f)
def LY(N ps:List Str)(sc:Scope):Bool:=decide (N.Nodup) && decide (N.take ps.length=ps) && (ps.all λx=>decide (sc.names.lookup x=some .local) || decide (sc.names.lookup x=some .cell)) && sc.names.all λy=>decide (y.2 ≠ .free)
theorem sc{N ps:List Str}{sc:Scope}(h:LY N ps sc=true)(h1:sc.kind = .function)(h2:sc.isCoroutine=false)(h3:sc.isGenerator=false):FnScope N ps sc:=by
 unfold LY at h;obtain⟨h,d⟩:=ak.mp h;obtain⟨h,c⟩:=ak.mp h;obtain⟨a,b⟩:=ak.mp h;refine⟨h1,h2,h3,of_decide_eq_true a,of_decide_eq_true b,λx hx=>?_,λy hy=>of_decide_eq_true (cx.mp d y hy)⟩;rcases gG.mp (cx.mp c x hx) with z|z
 ·exact .inl (of_decide_eq_true z)
 ·exact .inr (of_decide_eq_true z)
abbrev o0:List (Nat×List Nat)×List Nat×List Nat:=([],[],[])
abbrev BA(x:Str)(st:Stmt)(kV doc pm:Value)(an:Option Addr)(cdv ct:Value)(us:List Value):=bindArgs (PySem.W.fnOf x x (tM st) (rf st) (qA st) .none kV doc pm an cdv ct) ⟨us,[]⟩
theorem Lp:∀(x:Str) (j:Nat) (s:SpB),(x,j,s)∈([]:List (Str×Nat×SpB))->∃ ps,Def P w K mg base x j ps (tS K s.n s.run):=λ_ _ _ h=>absurd h aK
theorem uq(k:Nat)(H:List (Nat×List Nat)×List Nat×List Nat)(S:Sl K f x st)(W:Mg K mg)(B:Bl mg)(C:FnScope N ps (qA st))(hn:s.n=ps.length)
  (hG:∀ x j s,(x,j,s)∈G->∃ ps,Def P w K mg base x j ps (v8 K s.n s.run)) (hgc:∀ x d,(x,d)∈gc->∃ v u,mg x=some u/\RelV v u/\∀ f O H,Rp K f O H d v)
  (hb:∀(kV doc pm:Value) (an:Option Addr) (cdv ct:Value) (us:List Value),us.length=ps.length->BA x st kV doc pm an cdv ct us=pure (ps.zip us))
  (ht:xZ 40 ⟨N,qA st,G,gc,k,H.1,H.2.1,H.2.2,[]⟩ (rf st)=some t) (h:Does N.length t s):Def P w K mg base x (k+1) ps (v8 K s.n s.run):=by
 obtain⟨a,fd,F⟩:=S;exact .of F (W _ _ a) (F.binds hb) (Db (n:=40) (fz:=H.1) (own:=H.2.1) (mu:=H.2.2) F B C hn hG hgc Lp ht h)
theorem u0{us:List Value}{n:Nat}(h:us.length=n+1):∃ a r,us=a::r/\r.length=n:=by
 cases us with
 | nil=>exact absurd h (Nat.succ_ne_zero n).symm
 | cons a r=>exact⟨a,r,rfl,Nat.succ.inj h⟩
theorem u1{us:List Value}(h:us.length=1):∃ a,us=[a]:=by
 obtain⟨a,r,rfl,h1⟩:=u0 (n:=0) h;exact⟨a,by rw[bM.mp h1]⟩
theorem u2{us:List Value}(h:us.length=2):∃ a b,us=[a,b]:=by
 obtain⟨a,r,rfl,h1⟩:=u0 (n:=1) h;obtain⟨b,rfl⟩:=u1 h1;exact⟨a,b,rfl⟩
theorem u3{us:List Value}(h:us.length=3):∃ a b c,us=[a,b,c]:=by
 obtain⟨a,r,rfl,h1⟩:=u0 (n:=2) h;obtain⟨b,c,rfl⟩:=u2 h1;exact⟨a,b,c,rfl⟩
theorem b1(h:∀(kV doc pm:Value) (an:Option Addr) (cdv ct u:Value),BA x st kV doc pm an cdv ct [u]=pure [(p,u)]):∀(kV doc pm:Value) (an:Option Addr) (cdv ct:Value) (us:List Value),us.length=[p].length->BA x st kV doc pm an cdv ct us=pure ([p].zip us):=λ_ _ _ _ _ _ us hl=>by
 obtain⟨_,rfl⟩:=u1 hl;exact h ..
theorem b2(h:∀(kV doc pm:Value) (an:Option Addr) (cdv ct u v:Value),BA x st kV doc pm an cdv ct [u,v]=pure [(p,u),(q,v)]):∀(kV doc pm:Value) (an:Option Addr) (cdv ct:Value) (us:List Value),us.length=[p,q].length->BA x st kV doc pm an cdv ct us=pure ([p,q].zip us):=λ_ _ _ _ _ _ us hl=>by
 obtain⟨_,_,rfl⟩:=u2 hl;exact h ..
theorem b3(h:∀(kV doc pm:Value) (an:Option Addr) (cdv ct u v z:Value),BA x st kV doc pm an cdv ct [u,v,z]=pure [(p,u),(q,v),(r,z)]):∀(kV doc pm:Value) (an:Option Addr) (cdv ct:Value) (us:List Value),us.length=[p,q,r].length->BA x st kV doc pm an cdv ct us=pure ([p,q,r].zip us):=λ_ _ _ _ _ _ us hl=>by
 obtain⟨_,_,_,rfl⟩:=u3 hl;exact h ..
theorem L8(g:Def P w K mg base y i ps (tS K r.n r.run))(h:∀(x:Str) (j:Nat) (s:SpB),(x,j,s)∈G->∃ ps,Def P w K mg base x j ps (tS K s.n s.run)):∀(x:Str) (j:Nat) (s:SpB),(x,j,s)∈(y,i,r)::G->∃ ps,Def P w K mg base x j ps (tS K s.n s.run):=λx j s e=>by
 rcases ao.mp e with e|e
 ·cases e;exact⟨ps,g⟩
 ·exact h x j s e
theorem MH{x:Str}{st:Stmt}{f:Addr}{N ps:List Str}(k:Nat){t:TEd}{s:SpB}{G:List (Str×Nat×SpB)}{gc:List (Str×D)}{e:Expr}{gs:List Comprehension}{sc:Scope}{p pr:Pos}(S:Sl K f x st)(W:Mg K mg)(B:Bl mg)(C:FnScope N ps (qA st))(hn:s.n=ps.length)
  (hG:∀ x j s,(x,j,s)∈G->∃ ps,Def P w K mg base x j ps (v8 K s.n s.run)) (hgc:∀ x d,(x,d)∈gc->∃ v u,mg x=some u/\RelV v u/\∀ f O H,Rp K f O H d v)
  (hb:∀(kV doc pm:Value) (an:Option Addr) (cdv ct:Value) (us:List Value),us.length=ps.length->BA x st kV doc pm an cdv ct us=pure (ps.zip us))
  (h:Does N.length (iq [] t) s) (hd:rf st=[.Return (some (.ListComp e gs sc p)) pr]) (ht:rE 40 ⟨N,qA st,G,gc,k,[],[],[],[]⟩ (.ListComp e gs sc p)=some t):Def P w K mg base x (k+1) ps (tS K s.n s.run):=by
 obtain⟨a,fd,F⟩:=S;exact .of F (W _ _ a) (F.binds hb) (E8 (n:=40) F B C hn hG hgc hd ht h)
theorem Lh(k:Nat)(H:List (Nat×List Nat)×List Nat×List Nat)(S:Sl K f x st)(W:Mg K mg)(B:Bl mg)(C:FnScope N ps (qA st))(hn:s.n=ps.length)
  (hG:∀ x j s,(x,j,s)∈G->∃ ps,Def P w K mg base x j ps (v8 K s.n s.run)) (hgn:∀ x j s,(x,j,s)∈gn->∃ ps,Def P w K mg base x j ps (tS K s.n s.run)) (hgc:∀ x d,(x,d)∈gc->∃ v u,mg x=some u/\RelV v u/\∀ f O H,Rp K f O H d v)
  (hb:∀(kV doc pm:Value) (an:Option Addr) (cdv ct:Value) (us:List Value),us.length=ps.length->BA x st kV doc pm an cdv ct us=pure (ps.zip us))
  (ht:xZ 40 ⟨N,qA st,G,gc,k,H.1,H.2.1,H.2.2,gn⟩ (rf st)=some t) (h:Does N.length t s):Def P w K mg base x (k+1) ps (v8 K s.n s.run):=by
 obtain⟨a,fd,F⟩:=S;exact .of F (W _ _ a) (F.binds hb) (Db (n:=40) (fz:=H.1) (own:=H.2.1) (mu:=H.2.2) F B C hn hG hgc hgn ht h)
end
section
open PySem L2 Dp
variable{K:Frag}{f:Addr}{O O':List Addr}{H H':Hp}{X:Cx}{σ:L2.St}{ss:SS}{pos:Pos}
theorem BU{t u:TSd}{D:Ends}(h:LS K (dSq t u) D σ H):LS K t { D with nx:=LS K u D } σ H:=by
 obtain⟨c,O,ss,R,q⟩:=h;exact⟨c,O,ss,R,t.mono (E:=(rZ K c D).to (u.run (rZ K c D))) ⟨λs q O' σ' H' R'=>⟨c,O',s,R',q⟩,λ_ q=>q,λ_ q=>q,λ_ q=>q⟩ q⟩
theorem Jy(C:CtxS T X)(hy:T.slot y=some i):∀(n:Nat) (b:List Stmt) (t:TSd),xZ n T b=some t->PSs X (b++[.Return (some (.Name y py)) pr]) (λD σ H=>LS X.K t { D with nx:=λσ H=>sB i σ H D.rt } σ H)
 | 0,_,_,h=>by cases h
 | n+1,[],t,h=>by
  cases h;exact (rh (sh (C.var hy))).weak λD σ H ⟨c,O,ss,R,q⟩=>q O σ H R
 | n+1,[st],t,h=>rG ((vz n).1 C h) (rh (sh (C.var hy)))
 | n+1,st::s2::r,t,h=>by
  obtain⟨t1,h1,h⟩:=ae.mp (show ((IU n T st).bind λt=>(xZ n T (s2::r)).map (dSq t))=some t from h);obtain⟨t2,h2,rfl⟩:=ab.mp h;exact (rG ((vz n).1 C h1) (Jy C hy n (s2::r) t2 h2)).weak λD σ H q=>BU q
def xm:List Stmt->Option (List Stmt×Str×Pos×Pos)
 | []=>none
 | [.Return (some (.Name y py)) pr]=>some ([],y,py,pr)
 | s::r=>(xm r).map λx=>(s::x.1,x.2)
theorem Bb:∀{l b:List Stmt} {y:Str} {py pr:Pos},xm l=some (b,y,py,pr)->l=b++[.Return (some (.Name y py)) pr]:=by
 intro l;induction l with
 | nil=>intro b y py pr h;cases h
 | cons s r ih =>
  intro b y py pr h;unfold xm at h;split at h
  ·rename_i e;cases e
  ·rename_i e;cases e;cases h;rfl
  ·rename_i s' r' hne e;cases e;obtain⟨⟨b',y',p1,p2⟩,h1,h2⟩:=ab.mp h;cases h2;rw[ih h1];rfl
def LV(n:Nat)(T:Tc)(l:List Stmt):Option (TSd×Nat):=(xm l).bind λx=>(T.slot x.2.1).bind λi=>(xZ n T x.1).map λt=>(t,i)
theorem E7(F:Fun K x qual st f fd)(B:Bl mg)(S:FnScope N ps (qA st))(hn:s.n=ps.length)
  (hG:∀ x j s,(x,j,s)∈G->∃ ps,Def P w K mg base x j ps (v8 K s.n s.run)) (hgc:∀ x d,(x,d)∈gc->∃ v u,mg x=some u/\RelV v u/\∀ f O H,Rp K f O H d v) (hgn:∀ x j s,(x,j,s)∈gn->∃ ps,Def P w K mg base x j ps (tS K s.n s.run))
  (ht:LV n ⟨N,qA st,G,gc,k,fz,own,mu,gn⟩ (rf st)=some (t,i)) (h:Eg N.length t i s):FnOk P w K mg base x8 (k+1) f fd ps (tS K s.n s.run):=by
 obtain⟨⟨b,y,py,pr⟩,e1,ht⟩:=ae.mp ht;obtain⟨j,e2,ht⟩:=ae.mp ht;obtain⟨t',e3,e4⟩:=ab.mp ht;cases e4;refine F.ok S (λvs H Q E q=>q.1.trans hn) (λcdv A outer s0 H vs Q E hr q=>⟨_,(Bb e1) ▸ Jy (Ah B S hG hgc hgn hr) e2 n b t e3,?_⟩);obtain⟨hn,f,O,ds,fl,fO,al,lO,r,q⟩:=q;refine⟨⟨f,O,H,O⟩,O,_,startD.ok fl fO al lO r,?_⟩;have q:=h ds _ (r.len.symm.trans hn) q;refine t.mono ?_ q;refine⟨λs q O' σ' H' R=>?_,λd q=>q.elim,λ_ q=>q.elim,λ_ q=>q.elim⟩;obtain⟨l,hs,l',el,q⟩:=q;cases el;obtain⟨a,xs,h1,h2,h3,h4,h5⟩:=R.sl.own i l hs;obtain⟨w1,w2,w3⟩:=R.own i l a hs h1;have hH:H a=none:=by
  rcases w1 with w|w
  ·exact w
  ·exact absurd w w2
 refine⟨_,h1,q a xs H' ⟨⟨λb o n h=>R.kp.kp b o h n (by by_cases z:b∈O;exact .inl z;exact .inr z),R.kp.key⟩,R.sl.fl⟩ hH h4 (h5.less λb hb=>?_)⟩;rcases ao.mp hb with z|z
 ·exact z ▸ h2
 ·exact R.sub b z
section
variable{P:Program}{w:World}{mg:Str->Option Value}{base:Heap}
theorem MG(k:Nat)(H:List (Nat×List Nat)×List Nat×List Nat)(S:Sl K f x st)(W:Mg K mg)(B:Bl mg)(C:FnScope N ps (qA st))(hn:s.n=ps.length)
  (hG:∀ x j s,(x,j,s)∈G->∃ ps,Def P w K mg base x j ps (v8 K s.n s.run)) (hgn:∀ x j s,(x,j,s)∈gn->∃ ps,Def P w K mg base x j ps (tS K s.n s.run)) (hgc:∀ x d,(x,d)∈gc->∃ v u,mg x=some u/\RelV v u/\∀ f O H,Rp K f O H d v)
  (hb:∀(kV doc pm:Value) (an:Option Addr) (cdv ct:Value) (us:List Value),us.length=ps.length->BA x st kV doc pm an cdv ct us=pure (ps.zip us))
  (ht:LV 40 ⟨N,qA st,G,gc,k,H.1,H.2.1,H.2.2,gn⟩ (rf st)=some (t,i)) (h:Eg N.length t i s):Def P w K mg base x (k+1) ps (tS K s.n s.run):=by
 obtain⟨a,fd,F⟩:=S;exact .of F (W _ _ a) (F.binds hb) (E7 (n:=40) F B C hn hG hgc hgn ht h)
theorem E5(F:Fun K "law" "law" st f0 fd)(B:Bl mg)(S:FnScope ("_law_script" :: "_law_flow_here" :: N) ["_law_script"] (qA st))
  (g:Def P w K mg base "_law_flow" 1 ["_law_script"] (vA K)) (hG:∀ x j s,(x,j,s)∈G->∃ ps,Def P w K mg base x j ps (v8 K s.n s.run)) (hgc:∀ x d,(x,d)∈gc->∃ v u,mg x=some u/\RelV v u/\∀ f O H,Rp K f O H d v) (hgn:∀ x j s,(x,j,s)∈gn->∃ ps,Def P w K mg base x j ps (tS K s.n s.run))
  (hb:rf st = .Assign [.Name "_law_flow_here" p1] (.Call (.Name "_law_flow" p2) [.Name "_law_script" p3] [] p4) p5::rest) (hk:1<=k) (hv:(qA st).names.lookup ("_law_script" : Str)=some .local\/(qA st).names.lookup ("_law_script" : Str)=some .cell) (hl:(qA st).names.lookup ("_law_flow_here" : Str)=some .local\/(qA st).names.lookup ("_law_flow_here" : Str)=some .cell) (hg:(qA st).names.lookup ("_law_flow" : Str)=some .globalImplicit)
  (ht:xZ n ⟨"_law_script" :: "_law_flow_here" :: N,qA st,G,gc,k,fz,own,mu,gn⟩ rest=some t) (h:t.run ⟨λ_=>False,λd=>d = .bl true,λ_=>False,λ_=>False⟩ (.no :: .val .fl::List.replicate N.length .no)) :
  FnOk P w K mg base x8 (k+1) f0 fd ["_law_script"] (Az K):=by
 refine F.ok S (λvs H Q E h=>?_) (λcdv A outer s H vs Q E hr q=>?_)
 ·obtain⟨a,ns,rfl,_⟩:=h;rfl
 obtain⟨a,ns,rfl,hS,h63,q⟩:=q;refine⟨IZ (GQ (ye (vA K) [] E0 (ww (sB 0) Et)) (wU 1)) (LS K t),?_,?_⟩
 ·rw[hb];refine rG (td S.nd rfl hl (xA g hr (qC (zm rfl ?_ rfl rfl) pa_nil rfl) hk hg rfl rfl rfl) rfl (.inl rfl)) ?_
  ·rcases hv with z|z
   ·exact .inl z
   ·exact .inr (.inl z)
  refine (vz n).2 (T:=⟨"_law_script" :: "_law_flow_here" :: N,qA st,G,gc,k,fz,own,mu,gn⟩) ⟨⟨rfl,S.nd,rfl,hr,λx h=>?_,λx h=>h,λx h=>h,λx h=>h,hG,hgc,B,λx h=>⟨h,rfl⟩,hgn⟩,rfl,?_,rfl,λ_=>rfl⟩ ht
  ·have h:JM ((qA st).names.lookup x)=true:=h;unfold GC;show (qA st).names.lookup x=_\/(qA st).names.lookup x=_\/(qA st).names.lookup x=_;cases q:(qA st).names.lookup x with
   | none=>rw[q] at h;cases h
   | some k=>rw[q] at h;cases k <;> first|exact .inl rfl|exact .inr (.inl rfl)|exact .inr (.inr rfl)|cases h
  ·show (if (qA st).kind.isAnnotationScope then ScopeKind.function else (qA st).kind) = .function;rw[S.kind];rfl
 ·refine⟨_,rfl,a,ns,rfl,hS,h63,λf H1 e1 fl hf=>?_⟩;have ef:(L2.start ("_law_script" :: "_law_flow_here" :: N) [V.ref a]).set 1 (some (V.ref f))=some (.ref a)::some (.ref f)::List.replicate N.length none:=rfl;show LS K t _ ((L2.start ("_law_script" :: "_law_flow_here" :: N) [V.ref a]).set 1 (some (V.ref f))) H1;rw[ef];have gt:∀{i:Nat} {x:SD},(SD.no::SD.val .fl::List.replicate N.length SD.no)[i]? = some x->x = .no\/(i=1/\x = .val .fl):=λ{i x} h=>by
   match i,h with
   | 0,h=>cases h;exact .inl rfl
   | 1,h=>cases h;exact .inr ⟨rfl,rfl⟩
   | i+2,h=>exact .inl (gb (aP (show (List.replicate N.length SD.no)[i]? = some x from h)))
  refine⟨⟨f,[f],H1,[f]⟩,[f],SD.no::SD.val .fl::List.replicate N.length SD.no,⟨⟨fl,aV.mpr rfl,λb hb=>?_,λl r e z=>?_,by simp,λi d hd=>?_,λi l hd=>?_⟩,λ_ h=>h,⟨λ_ _ h _ _=>h,λl r h=>⟨r,h⟩⟩,λb h=>.inl h,λi l b hd=>?_⟩,?_⟩
  ·rw[aV.mp hb];exact fl.lst
  ·have z:=aV.mp z;subst z;obtain⟨l0,ns0,i,c,a0,b,h1,h2,_⟩:=fl;rw[h1] at e;cases e;rw[h1] at h2;cases ns0 <;> cases h2
  ·rcases gt hd with e|⟨rfl,e⟩
   ·cases e
   ·cases e;exact⟨_,rfl,rfl⟩
  ·rcases gt hd with e|⟨_,e⟩ <;> cases e
  ·rcases gt hd with e|⟨_,e⟩ <;> cases e
  ·refine t.mono ?_ h;refine⟨λs z=>z.elim,λd z v H' R=>?_,λs z=>z.elim,λs z=>z.elim⟩;subst z;cases (show v=_ from R.rp);exact q H'
end
end
end Ds
set_option maxHeartbeats 4000000
namespace My
open PySem L2
def top(i:Nat):Stmt:=PySem.Challenge.pw_nestwright_k45_roads_from_chain_to_chain.main.body.getD i (.Pass ⟨0,0,0,0⟩)
abbrev yh:Stmt:=top 1
abbrev uk:Stmt:=top 3
abbrev Ct:Stmt:=top 5
abbrev t5:Stmt:=top 7
abbrev tZ:Stmt:=top 8
abbrev rV:Stmt:=top 9
abbrev uj:Stmt:=top 10
abbrev sY:Stmt:=top 11
abbrev tV:Stmt:=top 12
abbrev vC:Stmt:=top 13
abbrev wB:Stmt:=top 14
abbrev uZ:Stmt:=top 15
abbrev yf:Stmt:=top 16
abbrev sX:Stmt:=top 17
abbrev sn:Stmt:=top 18
abbrev uh:Stmt:=top 19
abbrev sg:Stmt:=top 20
abbrev sZ:Stmt:=top 21
abbrev sf:Stmt:=top 22
abbrev tU:Stmt:=top 23
abbrev yg:Stmt:=top 24
abbrev vF:Stmt:=top 25
abbrev sS:Stmt:=top 26
abbrev ui:Stmt:=top 27
abbrev u6:Stmt:=top 28
abbrev vE:Stmt:=top 29
abbrev vD:Stmt:=top 30
abbrev sR:Stmt:=top 31
abbrev so:Stmt:=top 32
abbrev vG:Stmt:=top 33
abbrev sQ:Stmt:=top 34
abbrev uY:Stmt:=top 35
abbrev u5:Stmt:=top 36
abbrev FX:Stmt:=top 37
section
variable{P:Program}{w:World}{K:Frag}{mg:Str->Option Value}{base:Heap}
def Flow(H:Hp)(f:Addr):Prop:=∃(l:Addr) (ns:List Int) (i c a b:Int),H f=some (.lst [.ref l,.int i,.int c,.int a,.int b])/\H l=some (.lst (ns.map V.int))/\ns.length<=63/\0<=i/\i<=(ns.length:Int)/\0<=c/\0<=a/\a<2147483647
theorem J0{H:Hp}{f l:Addr}{ns:List Int}{x:Addr}{r:List V}(h1:H f=some (.lst (.ref x::r)))(h2:H l=some (.lst (ns.map V.int))):l≠f:=by
 refine JG h2 h1 λz=>?_;injection z with z;cases ns with
 | nil=>cases z
 | cons n ns=>rw[dm] at z;injection z with z1;cases z1
theorem uR{H:Hp}{f l:Addr}{ns:List Int}{i c a b i' c' a' b':Int}(h1:H f=some (.lst [.ref l,.int i,.int c,.int a,.int b]))(h2:H l=some (.lst (ns.map V.int))) :
  rg H f (.lst [.ref l,.int i',.int c',.int a',.int b']) f=some (.lst [.ref l,.int i',.int c',.int a',.int b'])/\rg H f (.lst [.ref l,.int i',.int c',.int a',.int b']) l=some (.lst (ns.map V.int))/\Sm f H (rg H f (.lst [.ref l,.int i',.int c',.int a',.int b'])):=by
 refine⟨qK,?_,λb o n e=>?_,λx r e=>?_⟩
 ·rw[qJ (J0 h1 h2)];exact h2
 ·rw[qJ n];exact e
 ·rw[h1] at e;injection e with e;injection e with e;injection e with e _;rw[← e];exact⟨_,qK⟩
theorem FL{ns:List Int}{i:Int}(h0:0<=i)(h:i<(ns.length:Int)):∃ z,vq (ns.map V.int) i=some (V.int z):=by
 obtain⟨k,rfl⟩:=bo h0;exact⟨ns[k]'(by omega),vp (by rw[aJ,ar (by omega)];rfl)⟩
def vA(K:Frag):Sp:=λvs H Q _=>∃(a:Addr) (ns:List Int),vs=[.ref a]/\SqL K H a (ns.map V.int)/\ns.length<=63/\∀ f H',Same H H'->Flow H' f->H f=none->Q (.ref f) H'
def xn:Sp:=λvs H Q _=>∃(f:Addr) (m:Int),vs=[.ref f,.int m]/\Flow H f/\0<m/\Lt2 9000 m/\∀ d H',0<=d->d<m->Flow H' f->Sm f H H'->Q (.int d) H'
theorem oP:FnScope ["_law_script"] ["_law_script"] (qA t5):=⟨rfl,rfl,rfl,by decide +kernel,rfl,by decide +kernel,by decide +kernel⟩
theorem E6{f:Addr}{fd:FuncData}(F:Fun K "_law_flow" "_law_flow" t5 f fd)(B:Bl mg):FnOk P w K mg base x8 1 f fd ["_law_script"] (vA K):=by
 refine F.ok oP (λvs H Q E h=>?_) (λcdv A outer s H vs Q E hr h=>?_)
 ·obtain⟨a,ns,rfl,_⟩:=h;rfl
 obtain⟨a,ns,rfl,hS,h63,q⟩:=h;have nd:=oP.nd;refine⟨_,(rh (@sh _ _ _ _ (@xz _ _ _ _ (@qC _ _ _ _ _ (@uM _ _ _ _ _ _ _ _ _ (zL K) rfl B.list sP (@qC _ _ _ _ _ (pv 0) pa_nil (by rfl)) (by decide) (by decide) (by rfl) (by rfl)) (@qC _ _ _ _ _ qI (@qC _ _ _ _ _ qI (@qC _ _ _ _ _ qI (@qC _ _ _ _ _ qI pa_nil (by rfl)) (by rfl)) (by rfl)) (by rfl)) (by rfl))))),?_⟩;refine⟨_,rfl,a,_,rfl,.inl hS,λl hl=>⟨(by show 5<=sizeLine;decide),λp hp=>?_⟩⟩;have hpl:l≠p:=qO qK hp;refine q p _ ((Same.new hl _).trans (Same.new hp _)) ⟨l,ns,0,0,1,0,qK,?_,h63,by decide,by omega,by decide,by decide,by decide⟩ ?_
 ·rw[qJ hpl];exact qK
 ·rw[qJ (Ne.symm hpl)] at hp;exact hp
theorem oQ:FnScope ["_law_flow_here", "_law_many", "_law_cell", "_law_digit"] ["_law_flow_here", "_law_many"] (qA tZ):=⟨rfl,rfl,rfl,by decide +kernel,rfl,by decide +kernel,by decide +kernel⟩
theorem E4{f0:Addr}{fd:FuncData}(F:Fun K "_law_pick" "_law_pick" tZ f0 fd)(B:Bl mg):FnOk P w K mg base x8 1 f0 fd ["_law_flow_here", "_law_many"] xn:=by
 refine F.ok oQ (λvs H Q E h=>?_) (λcdv A outer s H vs Q E hr h=>?_)
 ·obtain⟨a,ns,rfl,_⟩:=h;rfl
 obtain⟨f,m,rfl,hF,hm0,hm1,q⟩:=h;have nd:=oQ.nd;refine⟨_,(ul (@u7 _ _ _ _ _ _ _ _ (PW.pt (CH (@sI _ _ _ _ _ _ _ _ yt (@rJ _ _ _ _ _ _ _ (yU K) (pv 0) qI (λ_ _=>rfl)) qI (sL _)) (AE (@sI _ _ _ _ _ _ _ _ F8 (@rJ _ _ _ _ _ _ _ (yU K) (pv 0) qI (λ_ _=>rfl)) (@qV _ _ _ _ _ _ _ _ _ (BG K) rfl B.len uW (@qC _ _ _ _ _ (@rJ _ _ _ _ _ _ _ (yU K) (pv 0) qI (λ_ _=>rfl)) pa_nil (by rfl)) (by decide) (by decide) (by rfl) (by rfl)) (sL _))))) (rG (@td _ _ 2 _ _ _ _ nd rfl (by first|exact Or.inl rfl|exact Or.inr rfl) (@rJ _ _ _ _ _ _ _ (yU K) (@rJ _ _ _ _ _ _ _ (yU K) (pv 0) qI (λ_ _=>rfl)) (@rJ _ _ _ _ _ _ _ (yU K) (pv 0) qI (λ_ _=>rfl)) (λ_ _=>rfl)) (by rfl) (by first|exact .inl rfl|exact .inr rfl|assumption))
  (rG (@sJ _ _ _ _ _ _ (@rj _ _ _ _ _ _ _ _ sK (@rJ _ _ _ _ _ _ _ (yU K) (pv 0) qI (λ_ _=>rfl)) qI) (@t8 _ _ _ _ _ _ _ (pv 0) qI rT (λ_=>rfl)) (by rfl) (by rfl) (by rfl))
  (rh (@u7 _ _ _ _ _ _ _ _ (@sI _ _ _ _ _ _ _ _ Gb (pv 2) (@rj _ _ _ _ _ _ _ _ C9 qI qI) (sL _)) (rh (@sJ _ _ _ _ _ _ (pv 2) (@t8 _ _ _ _ _ _ _ (pv 0) qI rT (λ_=>rfl)) (by rfl) (by rfl) (by rfl))) (rh (@sJ _ _ _ _ _ _ (@rj _ _ _ _ _ _ _ _ t9 (@rj _ _ _ _ _ _ _ _ sK (@rj _ _ _ _ _ _ _ _ sK (@rj _ _ _ _ _ _ _ _ zw (@rJ _ _ _ _ _ _ _ (yU K) (pv 0) qI (λ_ _=>rfl)) qI) (@rj _ _ _ _ _ _ _ _ t9 (pv 2) qI)) qI) qI) (@t8 _ _ _ _ _ _ _ (pv 0) qI rT (λ_=>rfl)) (by rfl) (by rfl) (by rfl))))))) pss_nil)
  (ul (@u7 _ _ _ _ _ _ _ _ (@sI _ _ _ _ _ _ _ _ F9 (@rJ _ _ _ _ _ _ _ (yU K) (pv 0) qI (λ_ _=>rfl)) qI (sL _)) (rG (@td _ _ 3 _ _ _ _ nd rfl (by first|exact Or.inl rfl|exact Or.inr rfl) (@rj _ _ _ _ _ _ _ _ t9 (@rJ _ _ _ _ _ _ _ (yU K) (pv 0) qI (λ_ _=>rfl)) (pv 1)) (by rfl) (by first|exact .inl rfl|exact .inr rfl|assumption))
  (rG (@sJ _ _ _ _ _ _ (@rj _ _ _ _ _ _ _ _ (@yr _ _ hr) (@rJ _ _ _ _ _ _ _ (yU K) (pv 0) qI (λ_ _=>rfl)) (pv 1)) (@t8 _ _ _ _ _ _ _ (pv 0) qI rT (λ_=>rfl)) (by rfl) (by rfl) (by rfl))
  (rh (@sh _ _ _ _ (pv 3))))) pss_nil)
  (rG (@sJ _ _ _ _ _ _ (@rj _ _ _ _ _ _ _ _ sK (@rJ _ _ _ _ _ _ _ (yU K) (pv 0) qI (λ_ _=>rfl)) qI) (@t8 _ _ _ _ _ _ _ (pv 0) qI rT (λ_=>rfl)) (by rfl) (by rfl) (by rfl))
  (rG (@sJ _ _ _ _ _ _ (@rj _ _ _ _ _ _ _ _ t9 (@rj _ _ _ _ _ _ _ _ sK (@rj _ _ _ _ _ _ _ _ sK (@rj _ _ _ _ _ _ _ _ zw (@rJ _ _ _ _ _ _ _ (yU K) (pv 0) qI (λ_ _=>rfl)) qI) qI) (@rJ _ _ _ _ _ _ _ (yU K) (pv 0) qI (λ_ _=>rfl))) qI) (@t8 _ _ _ _ _ _ _ (pv 0) qI rT (λ_=>rfl)) (by rfl) (by rfl) (by rfl))
  (rh (@sh _ _ _ _ (@rj _ _ _ _ _ _ _ _ t9 (@rj _ _ _ _ _ _ _ _ AH (@rj _ _ _ _ _ _ _ _ t9 (@rj _ _ _ _ _ _ _ _ zw (@rj _ _ _ _ _ _ _ _ sK (@rj _ _ _ _ _ _ _ _ t9 (@rJ _ _ _ _ _ _ _ (yU K) (pv 0) qI (λ_ _=>rfl)) qI) qI) (@rj _ _ _ _ _ _ _ _ sK (@rj _ _ _ _ _ _ _ _ AH (@rJ _ _ _ _ _ _ _ (yU K) (pv 0) qI (λ_ _=>rfl)) qI) qI)) qI) qI) (pv 1)))))))),?_⟩
 obtain⟨l,ns,i,c,a,b,h1,h2,h63,i0,i1,c0,a0,a1⟩:=hF;have hf:=SqL.of (K:=K) h1;refine⟨λσ' H'=>(∃ o1 o2,σ'=[some (.ref f),some (.int m),o1,o2])/\Flow H' f/\Sm f H H',?_,?_⟩
 ·refine⟨_,rfl,f,_,2,_,rfl,rfl,hf,rfl,rfl,_,rfl,?_⟩;refine Fp (λcz=>?_) (λcz=>?_)
  ·refine⟨_,rfl,f,_,1,_,rfl,rfl,hf,rfl,_,rfl,f,_,0,_,rfl,rfl,hf,rfl,l,_,rfl,.inl (SqL.of h2),_,_,rfl,rfl,_,rfl,?_⟩;refine Fp (λcl=>?_) (λcl=>?_)
   ·have cl':i<(((ns.map V.int).length:Nat):Int):=of_decide_eq_true cl;rw[aa] at cl';obtain⟨z,hz⟩:=FL i0 cl';obtain⟨g1,g2,g3⟩:=uR (i':=i+1) (c':=c) (a':=a) (b':=b) h1 h2;have gf:=SqL.of (K:=K) g1;refine⟨_,rfl,f,_,0,_,rfl,rfl,hf,rfl,_,rfl,f,_,1,_,rfl,rfl,hf,rfl,l,_,i,_,rfl,rfl,SqL.of h2,hz,?_⟩;refine⟨_,rfl,f,_,1,_,rfl,rfl,hf,rfl,_,_,rfl,rfl,_,rfl,f,_,1,1,rfl,rfl,h1,rfl,?_⟩;refine⟨_,rfl,_,_,rfl,rfl,⟨by decide,by decide,by decide⟩,_,_,rfl,rfl,_,rfl,?_⟩;refine Fp (λcg=>?_) (λcg=>?_)
    ·have cg':(10:Int)^(18:Int).toNat<=z:=of_decide_eq_true cg;have cg2:(0:Int)<=z:=Int.le_trans (by decide) cg';obtain⟨k1,k2,k3⟩:=uR (i':=i+1) (c':=z) (a':=a) (b':=b) g1 g2;refine⟨_,rfl,_,rfl,f,_,2,2,rfl,rfl,g1,rfl,?_⟩;exact⟨⟨_,_,rfl⟩,⟨l,ns,i+1,z,a,b,k1,k2,h63,by omega,by omega,cg2,a0,a1⟩,g3.trans k3⟩
    ·obtain⟨k1,k2,k3⟩:=uR (i':=i+1) (c':=c) (a':=(a*40013+z%1000003+1)%2147483647) (b':=b) g1 g2;refine⟨_,rfl,f,_,3,_,rfl,rfl,gf,rfl,_,_,rfl,rfl,.inr ⟨by decide,by decide⟩,_,rfl,_,_,rfl,rfl,(by show (0:Int)<_;decide),_,_,rfl,rfl,_,_,rfl,rfl,_,_,rfl,rfl,(by show (0:Int)<_;decide),_,rfl,f,_,3,3,rfl,rfl,g1,rfl,?_⟩;exact⟨⟨_,_,rfl⟩,⟨l,ns,i+1,c,_,b,k1,k2,h63,by omega,by omega,c0,eE _ (by decide),dI _ (by decide)⟩,g3.trans k3⟩
   ·exact⟨⟨_,_,rfl⟩,⟨l,ns,i,c,a,b,h1,h2,h63,i0,i1,c0,a0,a1⟩,Sm.refl H⟩
  ·exact H8 ⟨⟨_,_,rfl⟩,⟨l,ns,i,c,a,b,h1,h2,h63,i0,i1,c0,a0,a1⟩,Sm.refl H⟩
 ·rintro _ H1 ⟨⟨o1,o2,rfl⟩,hF1,sm1⟩;clear hf h1 h2 i0 i1 c0 a0 a1 h63;obtain⟨l,ns,i,c,a,b,h1,h2,h63,i0,i1,c0,a0,a1⟩:=hF1;have hf:=SqL.of (K:=K) h1;refine⟨λσ' H'=>σ'=[some (.ref f),some (.int m),o1,o2]/\H'=H1,?_,?_⟩
  ·refine⟨_,rfl,f,_,2,_,rfl,rfl,hf,rfl,_,_,rfl,rfl,_,rfl,?_⟩;refine Fp (λcz=>?_) (λcz=>?_)
   ·obtain⟨k1,k2,k3⟩:=uR (i':=i) (c':=c.fdiv m) (a':=a) (b':=b) h1 h2;refine⟨_,rfl,f,_,2,_,rfl,rfl,hf,rfl,_,rfl,_,_,rfl,rfl,hm0,?_⟩;have fe:c.fdiv m=c / m:=dH _ (by omega:(0:Int)<=m);refine⟨_,rfl,f,_,2,_,rfl,rfl,hf,rfl,_,rfl,_,_,rfl,rfl,⟨by omega,9000,hm1,by decide⟩,_,rfl,f,_,2,2,rfl,rfl,h1,rfl,?_⟩;refine⟨_,rfl,q _ _ (eE _ (by omega)) (dI _ hm0) ⟨l,ns,i,c.fdiv m,a,b,k1,k2,h63,i0,i1,by rw[fe];exact Int.ediv_nonneg c0 (by omega),a0,a1⟩ (sm1.trans k3)⟩
   ·exact⟨rfl,rfl⟩
  ·rintro _ _ ⟨rfl,rfl⟩;obtain⟨g1,g2,g3⟩:=uR (i':=i) (c':=c) (a':=a) (b':=b+1) h1 h2;have gf:=SqL.of (K:=K) g1;refine⟨_,rfl,f,_,4,_,rfl,rfl,hf,rfl,_,_,rfl,rfl,_,rfl,f,_,4,4,rfl,rfl,h1,rfl,?_⟩;obtain⟨k1,k2,k3⟩:=uR (i':=i) (c':=c) (a':=(a*48271+12820163+(b+1))%2147483647) (b':=b+1) g1 g2;have kf:=SqL.of (K:=K) k1;refine⟨_,rfl,f,_,3,_,rfl,rfl,gf,rfl,_,_,rfl,rfl,.inr ⟨by decide,by decide⟩,_,_,rfl,rfl,_,rfl,f,_,4,_,rfl,rfl,gf,rfl,_,_,rfl,rfl,_,_,rfl,rfl,(by show (0:Int)<_;decide),_,rfl,f,_,3,3,rfl,rfl,g1,rfl,?_⟩;have n0:=eE (a*48271+12820163+(b+1)) (show (2147483647:Int)≠0 by decide);have n1:=dI (a*48271+12820163+(b+1)) (show (0:Int)<2147483647 by decide);refine⟨_,rfl,f,_,3,_,rfl,rfl,kf,rfl,_,_,rfl,rfl,(by show (0:Int)<_;decide),_,_,rfl,rfl,_,rfl,f,_,3,_,rfl,rfl,kf,rfl,_,_,rfl,rfl,⟨by decide,by decide⟩,_,_,rfl,rfl,_,_,rfl,rfl,.inl ⟨by omega,by omega⟩,_,_,rfl,rfl,(by show (0:Int)<_;decide),_,_,rfl,rfl,⟨by decide,by decide⟩,_,rfl,_,_,rfl,rfl,hm0,?_⟩;exact q _ _ (eE _ (by omega)) (dI _ hm0) ⟨l,ns,i,c,_,b+1,k1,k2,h63,i0,i1,c0,n0,n1⟩ ((sm1.trans g3).trans k3)
def sF(K:Frag)(n:Nat):Sp:=λvs H Q _=>∃(d:DV) (x y:V),vs=[x,y]/\Rep K H d x/\Rep K H d y/\d.dp<n/\d.wd<=100000/\∀ H',Same H H'->Q (.bl true) H'
theorem kz:FnScope ["_law_found", "_law_due", "_law_k"] ["_law_found", "_law_due"] (qA rV):=⟨rfl,rfl,rfl,by decide +kernel,rfl,by decide +kernel,by decide +kernel⟩
theorem Ao(F:Fun K "_law_alike" "_law_alike" rV f0 fd)(B:Bl mg)(g_law_alike:Def P w K mg base "_law_alike" n ["_law_found", "_law_due"] (sF K n)):FnOk P w K mg base x8 (n+1) f0 fd ["_law_found", "_law_due"] (sF K (n+1)):=by
 refine F.ok kz (λvs H Q E h=>?_) (λcdv A outer s H vs Q E hr h=>?_)
 ·obtain⟨d,x,y,rfl,_⟩:=h;rfl
 obtain⟨d,x,y,rfl,hx,hy,hd,hw,q⟩:=h;have nd:=kz.nd;refine⟨_,(ul (@u7 _ _ _ _ _ _ _ _ (MB K (@qV _ _ _ _ _ _ _ _ _ (Ll K) rfl B.isinstance qQ (@qC _ _ _ _ _ (pv 1) (@qC _ _ _ _ _ (@zo _ _ _ _ _ (@qC _ _ _ _ _ (@r9 _ _ (.ty "list") _ _ rfl B.list sP rfl (by decide) (by decide)) (@qC _ _ _ _ _ (@r9 _ _ (.ty "tuple") _ _ rfl B.tuple tz rfl (by decide) (by decide)) pa_nil (by rfl)) (by rfl))) pa_nil (by rfl)) (by rfl)) (by decide) (by decide) (by rfl) (by rfl)) (λ_=>rfl)) (ul (@u7 _ _ _ _ _ _ _ _ (@sI _ _ _ _ _ _ _ _ Da (@qV _ _ _ _ _ _ _ _ _ (Ib K) rfl B.isinstance qQ (@qC _ _ _ _ _ (pv 0) (@qC _ _ _ _ _ (@r9 _ _ (.ty "list") _ _ rfl B.list sP rfl (by decide) (by decide)) pa_nil (by rfl)) (by rfl)) (by decide) (by decide) (by rfl) (by rfl)) (@qV _ _ _ _ _ _ _ _ _ (Ib K) rfl B.isinstance qQ (@qC _ _ _ _ _ (pv 1) (@qC _ _ _ _ _ (@r9 _ _ (.ty "list") _ _ rfl B.list sP rfl (by decide) (by decide)) pa_nil (by rfl)) (by rfl)) (by decide) (by decide) (by rfl) (by rfl)) (sL _)) (rh (@sh _ _ _ _ CY)) pss_nil)
  (ul (@u7 _ _ _ _ _ _ _ _ (@sI _ _ _ _ _ _ _ _ Da (@qV _ _ _ _ _ _ _ _ _ (Ib K) rfl B.isinstance qQ (@qC _ _ _ _ _ (pv 0) (@qC _ _ _ _ _ (@r9 _ _ (.ty "tuple") _ _ rfl B.tuple tz rfl (by decide) (by decide)) pa_nil (by rfl)) (by rfl)) (by decide) (by decide) (by rfl) (by rfl)) (@qV _ _ _ _ _ _ _ _ _ (Ib K) rfl B.isinstance qQ (@qC _ _ _ _ _ (pv 1) (@qC _ _ _ _ _ (@r9 _ _ (.ty "tuple") _ _ rfl B.tuple tz rfl (by decide) (by decide)) pa_nil (by rfl)) (by rfl)) (by decide) (by decide) (by rfl) (by rfl)) (sL _)) (rh (@sh _ _ _ _ CY)) pss_nil)
  (rh (@sh _ _ _ _ (zr (@vi _ _ _ _ _ _ _ _ yt (@qV _ _ _ _ _ _ _ _ _ (BG K) rfl B.len uW (@qC _ _ _ _ _ (pv 0) pa_nil (by rfl)) (by decide) (by decide) (by rfl) (by rfl)) (@qV _ _ _ _ _ _ _ _ _ (BG K) rfl B.len uW (@qC _ _ _ _ _ (pv 1) pa_nil (by rfl)) (by decide) (by decide) (by rfl) (by rfl)) (sL _)) (@zq _ _ _ _ _ (@qV _ _ _ _ _ _ _ _ _ (Lz K) rfl B.all Iw (@qC _ _ _ _ _ (@xB _ _ _ _ _ _ _ _ _ _ _ _ rfl (show CompS ["_law_found", "_law_due", "_law_k"] (qA rV) _ [2] from by exact⟨rfl,by decide +kernel,by decide +kernel,by decide +kernel,by decide +kernel⟩) (wC rfl B.range (@qC _ _ _ _ _ (@qV _ _ _ _ _ _ _ _ _ (BG K) rfl B.len uW (@qC _ _ _ _ _ (pv 1) pa_nil (by rfl)) (by decide) (by decide) (by rfl) (by rfl)) pa_nil (by rfl))) (λ_ _ _ _ _=>(@xy _ _ 2 _ nd rfl (by first|exact Or.inl rfl|exact Or.inr rfl) (by first|exact .inl rfl|exact .inr rfl|assumption))) (λ_ _ _ _ _=>pts_nil) (λ_ _ _ _ _=>(@xA _ _ _ _ _ _ _ _ _ _ _ g_law_alike hr (@qC _ _ _ _ _ (@rJ _ _ _ _ _ _ _ (L5 K) (pv 0) (pv 2) (λ_ _=>rfl)) (@qC _ _ _ _ _ (@rJ _ _ _ _ _ _ _ (L5 K) (pv 1) (pv 2) (λ_ _=>rfl)) pa_nil (by rfl)) (by rfl)) (by first|decide|omega|exact af _) (by rfl) (by decide) (by rfl) (by rfl))) (by intro _;rfl)) pa_nil (by rfl)) (by decide) (by decide) (by rfl) (by rfl)))))))) pss_nil)
  (rh (@sh _ _ _ _ (zr (@vi _ _ _ _ _ _ _ _ yt (@qV _ _ _ _ _ _ _ _ _ (Ib K) rfl B.isinstance qQ (@qC _ _ _ _ _ (pv 0) (@qC _ _ _ _ _ (@r9 _ _ (.ty "bool") _ _ rfl B.bool xW rfl (by decide) (by decide)) pa_nil (by rfl)) (by rfl)) (by decide) (by decide) (by rfl) (by rfl)) (@qV _ _ _ _ _ _ _ _ _ (Ib K) rfl B.isinstance qQ (@qC _ _ _ _ _ (pv 1) (@qC _ _ _ _ _ (@r9 _ _ (.ty "bool") _ _ rfl B.bool xW rfl (by decide) (by decide)) pa_nil (by rfl)) (by rfl)) (by decide) (by decide) (by rfl) (by rfl)) (sL _)) (@zq _ _ _ _ _ (@vi _ _ _ _ _ _ _ _ yt (pv 0) (pv 1) (sL _))))))),?_⟩
 rcases Bf hx hy with⟨rfl,t,bb,ty,hs,k1,k2,sc⟩|⟨tt,a,a',xs,ys,ds,rfl,rfl,q1,q2,r1,r2,e1,e2,e3⟩
 ·refine⟨λσ H'=>σ=[some x,some x,none]/\Same H H',?_,?_⟩
  ·refine⟨_,rfl,(by show 2<=sizeLine;decide),λp hp=>?_⟩;refine⟨x,p,t,false,["list", "tuple"],rfl,ty _,hs,qK,k1,_,rfl,?_⟩;exact H8 ⟨rfl,Same.new hp _⟩
  ·rintro _ H1 ⟨rfl,s1⟩;refine⟨_,rfl,_,_,_,_,rfl,ty _,k2,_,rfl,_,_,_,_,rfl,ty _,k2,rfl,_,rfl,?_⟩;rw[decide_eq_true rfl];refine HZ ?_;refine⟨_,rfl,_,rfl,sc,?_⟩;rw[decide_eq_true rfl];exact q H1 s1
 ·have l1:=r1.length;have l2:=r2.length;obtain⟨k0,⟨b1,k1⟩,⟨b2,k2⟩⟩:=q1.kit;refine⟨λσ H'=>False,?_,λ_ _ z=>z.elim⟩;refine⟨_,rfl,(by show 2<=sizeLine;decide),λp hp=>?_⟩;have s1:=Same.new hp (.tup [.ty "list",.ty "tuple"]);refine⟨_,p,.type tt,true,["list", "tuple"],rfl,(q2.same s1).ty,nofun,qK,k0,_,rfl,?_⟩;refine HZ ?_;have e1':=q1.same s1;have e2':=q2.same s1;refine⟨λσ H'=>σ=[some (.ref a),some (.ref a'),none]/\H'=rg H p (.tup [.ty "list",.ty "tuple"]),?_,?_⟩
  ·refine⟨_,rfl,_,_,_,_,rfl,e1'.ty,k1,_,rfl,_,_,_,_,rfl,e2'.ty,k1,rfl,_,rfl,?_⟩;exact Gf rfl ⟨rfl,rfl⟩
  ·rintro _ _ ⟨rfl,rfl⟩;refine⟨λσ H'=>σ=[some (.ref a),some (.ref a'),none]/\H'=rg H p (.tup [.ty "list",.ty "tuple"]),?_,?_⟩
   ·refine⟨_,rfl,_,_,_,_,rfl,e1'.ty,k2,_,rfl,_,_,_,_,rfl,e2'.ty,k2,rfl,_,rfl,?_⟩;exact Gf rfl ⟨rfl,rfl⟩
   ·rintro _ _ ⟨rfl,rfl⟩;refine⟨_,rfl,a,xs,rfl,e1'.len,_,rfl,a',ys,rfl,e2'.len,rfl,_,rfl,?_⟩;rw[decide_eq_true (show V.int (xs.length:Int)=V.int (ys.length:Int) by rw[← l1,← l2])];refine HZ ?_;refine⟨_,rfl,a',ys,rfl,e2'.len,_,rfl,by omega,by omega,?_⟩;rw[aG];refine Ai (n:=ys.length) (by rw[sizeLine_eq];omega) (λi τ zs H'=>(∃ o,τ=[some (.ref a),some (.ref a'),o])/\Same H H'/\zs=(List.replicate i true).map V.bl) ⟨⟨none,rfl⟩,s1,rfl⟩ ?_ ?_
    ·rintro i _ _ H1 hi hl ⟨⟨o,rfl⟩,s2,rfl⟩;obtain⟨v1,hv1⟩:∃ v,xs[i]? = some v:=⟨xs[i]'(by omega),ar _⟩;obtain⟨v2,hv2⟩:∃ v,ys[i]? = some v:=⟨ys[i]'hi,ar _⟩;obtain⟨d1,hd1,rp1⟩:=(r1.same s2).get hv1;obtain⟨d2,hd2,rp2⟩:=(r2.same s2).get hv2;rw[hd1] at hd2;cases hd2;have wm:=Av (aP hd1);have ei:(0:Int)+(i:Int)=(i:Int):=bT _;refine⟨_,rfl,_,rfl,(q1.same s2).ix (by rw[ei];exact vp hv1) ?_⟩;refine⟨_,rfl,_,rfl,(q2.same s2).ix (by rw[ei];exact vp hv2) ?_⟩;refine⟨d1,v1,v2,rfl,rp1,rp2,by omega,by omega,λH2 s3=>?_⟩;refine ME hi hl ⟨⟨_,rfl⟩,s2.trans s3,?_⟩;rw[List.replicate_succ',aN];rfl
    ·rintro _ _ H1 D hl ⟨⟨o,rfl⟩,s2,rfl⟩ hD;refine⟨D,_,rfl,SqL.of qK,?_⟩;have:(List.replicate ys.length true).all id=true:=by simp
     rw[this];exact q _ (s2.trans (Same.new hD _))
theorem Aq:FnOk P w K mg base x8 0 f0 fd ["_law_found", "_law_due"] (sF K 0):=by
 have no:∀ vs H Q E,¬ sF K 0 vs H Q E:=λvs H Q E h=>by
  obtain⟨d,x,y,_,_,_,h1,_⟩:=h;omega
 exact⟨λvs H Q E h=>absurd h (no vs H Q E),λA outer s H args us vs Q E _ _ _ _ h=>absurd h (no vs H Q E)⟩
theorem uo{f0:Addr}{fd:FuncData}(F:Fun K "_law_alike" "_law_alike" rV f0 fd)(B:Bl mg)(m:mg "_law_alike" = some (.ref f0))(b:Binds K fd ["_law_found", "_law_due"] []):∀ n,FnOk P w K mg base x8 n f0 fd ["_law_found", "_law_due"] (sF K n)
 | 0=>Aq
 | n+1=>Ao F B (.of F m b (uo F B m b n))
theorem oY:FnScope ["p"] ["p"] (qA yh):=Ds.sc (by kernel_rfl) rfl rfl rfl
theorem jW:FnScope ["chain", "layer"] ["chain"] (qA uk):=Ds.sc (by kernel_rfl) rfl rfl rfl
theorem oR:FnScope ["chain", "other", "row", "told", "due", "i"] ["chain", "other"] (qA Ct):=Ds.sc (by kernel_rfl) rfl rfl rfl
theorem mU:FnScope ["_law_a", "_law_b"] ["_law_a", "_law_b"] (qA uj):=Ds.sc (by kernel_rfl) rfl rfl rfl
theorem lY:FnScope ["_law_top", "_law_bottom", "_law_part"] ["_law_top", "_law_bottom"] (qA sY):=Ds.sc (by kernel_rfl) rfl rfl rfl
theorem mE:FnScope ["_law_one", "_law_other"] ["_law_one", "_law_other"] (qA tV):=Ds.sc (by kernel_rfl) rfl rfl rfl
theorem oj:FnScope ["_law_tops", "_law_bottom", "_law_part", "_law_top"] ["_law_tops", "_law_bottom"] (qA vC):=Ds.sc (by kernel_rfl) rfl rfl rfl
theorem oC:FnScope ["_law_p", "_law_q", "_law_many", "_law_found", "_law_k", "_law_top"] ["_law_p", "_law_q"] (qA wB):=Ds.sc (by kernel_rfl) rfl rfl rfl
theorem nQ:FnScope ["_law_p", "_law_q", "_law_found", "_law_k", "_law_top", "_law_j", "_law_other"] ["_law_p", "_law_q"] (qA uZ):=Ds.sc (by kernel_rfl) rfl rfl rfl
theorem oZ:FnScope ["_law_p", "_law_q", "_law_found", "_law_top"] ["_law_p", "_law_q"] (qA yf):=Ds.sc (by kernel_rfl) rfl rfl rfl
theorem lZ:FnScope ["_law_a", "_law_b"] ["_law_a", "_law_b"] (qA sX):=Ds.sc (by kernel_rfl) rfl rfl rfl
theorem j4:FnScope ["_law_l", "_law_b", "_law_a", "_law_sign"] ["_law_l"] (qA sn):=Ds.sc (by kernel_rfl) rfl rfl rfl
theorem mV:FnScope ["_law_flow_here", "_law_most"] ["_law_flow_here", "_law_most"] (qA uh):=Ds.sc (by kernel_rfl) rfl rfl rfl
theorem jS:FnScope ["_law_flow_here", "_law_most"] ["_law_flow_here", "_law_most"] (qA sg):=Ds.sc (by kernel_rfl) rfl rfl rfl
theorem ma:FnScope ["_law_flow_here", "_law_many", "_law_most", "_law_tops", "_law_k", "_law_first"] ["_law_flow_here", "_law_many", "_law_most"] (qA sZ):=Ds.sc (by kernel_rfl) rfl rfl rfl
theorem jT:FnScope ["_law_flow_here", "_law_most", "_law_first"] ["_law_flow_here", "_law_most"] (qA sf):=Ds.sc (by kernel_rfl) rfl rfl rfl
theorem mF:FnScope ["_law_n", "_law_a", "_law_found", "_law_k", "_law_less"] ["_law_n", "_law_a"] (qA tU):=Ds.sc (by kernel_rfl) rfl rfl rfl
theorem pd:FnScope ["_law_p", "_law_k"] ["_law_p", "_law_k"] (qA yg):=Ds.sc (by kernel_rfl) rfl rfl rfl
theorem om:FnScope ["_law_p", "_law_k", "_law_found", "_law_turn"] ["_law_p", "_law_k"] (qA vF):=Ds.sc (by kernel_rfl) rfl rfl rfl
theorem kL:FnScope ["_law_f", "_law_s", "_law_n", "_law_h", "_law_j", "_law_told", "_law_due", "_law_have", "_law_more"] ["_law_f", "_law_s"] (qA sS):=Ds.sc (by kernel_rfl) rfl rfl rfl
theorem mX:FnScope ["_law_f", "_law_h", "_law_found", "_law_whole_here", "_law_step"] ["_law_f", "_law_h"] (qA ui):=Ds.sc (by kernel_rfl) rfl rfl rfl
theorem nR:FnScope ["_law_f", "_law_s", "_law_h", "_law_rests", "_law_one", "_law_found", "_law_k"] ["_law_f", "_law_s"] (qA u6):=Ds.sc (by kernel_rfl) rfl rfl rfl
theorem on:FnScope ["_law_chain", "_law_found", "_law_rest", "_law_last", "_law_outer"] ["_law_chain"] (qA vE):=Ds.sc (by kernel_rfl) rfl rfl rfl
theorem oo:FnScope ["_law_flow_here", "_law_most", "_law_m", "_law_k", "_law_way", "_law_a", "_law_b", "_law_p", "_law_r", "_law_turn", "_law_high_here", "_law_j", "_law_l1", "_law_l2", "_law_l3"] ["_law_flow_here", "_law_most"] (qA vD):=Ds.sc (by kernel_rfl) rfl rfl rfl
theorem kM:FnScope ["_law_flow_here", "_law_most", "_law_m", "_law_k", "_law_turn", "_law_high_here", "_law_j", "_law_a", "_law_b", "_law_l1", "_law_l2", "_law_l3", "_law_outer"] ["_law_flow_here", "_law_most"] (qA sR):=Ds.sc (by kernel_rfl) rfl rfl rfl
theorem j5:FnScope ["_law_flow_here", "_law_most", "_law_way", "_law_some", "_law_chain", "_law_n", "_law_a", "_law_b", "_law_form", "_law_layers", "_law_turn", "_law_found", "_law_high_here", "_law_j"] ["_law_flow_here", "_law_most"] (qA so):=Ds.sc (by kernel_rfl) rfl rfl rfl
theorem oq:FnScope ["_law_some", "_law_p", "_law_top"] ["_law_some"] (qA vG):=Ds.sc (by kernel_rfl) rfl rfl rfl
theorem kN:FnScope ["_law_chain", "_law_i", "_law_a", "_law_b", "_law_found"] ["_law_chain", "_law_i"] (qA sQ):=Ds.sc (by kernel_rfl) rfl rfl rfl
theorem nS:FnScope ["_law_chain", "_law_layer", "_law_n", "_law_s"] ["_law_chain"] (qA uY):=Ds.sc (by kernel_rfl) rfl rfl rfl
theorem nV:FnScope ["_law_chain", "_law_other", "_law_found", "_law_i"] ["_law_chain", "_law_other", "_law_found"] (qA u5):=Ds.sc (by kernel_rfl) rfl rfl rfl
theorem qr:FnScope ["_law_script", "_law_flow_here", "_law_chain", "_law_other", "_law_k", "_law_there", "_law_found", "_law_one"] ["_law_script"] (qA FX):=Ds.sc (by kernel_rfl) rfl rfl rfl
end
theorem IE{l:PySem.W.OpenLaw}{w:World}{K:Frag}{h:Heap}{mg:Str->Option Value}{fa:Addr}{f1 f2 f3 f4 f5 f6 f7 f8 f9 f10 f11 f12 f13 f14 f15 f16 f17 f18 f19 f20 f21 f22 f23 f24 f25 f26 f27 f28 f29 f30 f31 f32 f33 f34:Addr}(X:K.In h)(G:h.Ns mainGlobals mg)(hfa:mg "law" = some (.ref fa))
  (h1:Ds.Sl K f1 "degree" yh)
  (h2:Ds.Sl K f2 "degrees_of" uk)
  (h3:Ds.Sl K f3 "road" Ct)
  (h4:Ds.Sl K f4 "_law_flow" t5)
  (h5:Ds.Sl K f5 "_law_pick" tZ)
  (h6:Ds.Sl K f6 "_law_alike" rV)
  (h7:Ds.Sl K f7 "_law_common" uj)
  (h8:Ds.Sl K f8 "_law_fraction" sY)
  (h9:Ds.Sl K f9 "_law_product" tV)
  (h10:Ds.Sl K f10 "_law_poly" vC)
  (h11:Ds.Sl K f11 "_law_sum" wB)
  (h12:Ds.Sl K f12 "_law_times" uZ)
  (h13:Ds.Sl K f13 "_law_of" yf)
  (h14:Ds.Sl K f14 "_law_straight" sX)
  (h15:Ds.Sl K f15 "_law_turned_back" sn)
  (h16:Ds.Sl K f16 "_law_number" uh)
  (h17:Ds.Sl K f17 "_law_any_fraction" sg)
  (h18:Ds.Sl K f18 "_law_any_poly" sZ)
  (h19:Ds.Sl K f19 "_law_any_straight" sf)
  (h20:Ds.Sl K f20 "_law_turning" tU)
  (h21:Ds.Sl K f21 "_law_at" yg)
  (h22:Ds.Sl K f22 "_law_high" vF)
  (h23:Ds.Sl K f23 "_law_candidate" sS)
  (h24:Ds.Sl K f24 "_law_digits" ui)
  (h25:Ds.Sl K f25 "_law_apart" u6)
  (h26:Ds.Sl K f26 "_law_neat" vE)
  (h27:Ds.Sl K f27 "_law_pair" vD)
  (h28:Ds.Sl K f28 "_law_even_pair" sR)
  (h29:Ds.Sl K f29 "_law_drawn_chain" so)
  (h30:Ds.Sl K f30 "_law_fits" vG)
  (h31:Ds.Sl K f31 "_law_exchanged" sQ)
  (h32:Ds.Sl K f32 "_law_whole" uY)
  (h33:Ds.Sl K f33 "_law_leads" u5)
  (h34:Ds.Sl K f34 "law" FX)
  (z_len:PySem.W.nsIn K mainGlobals "len" = some none)
  (z_range:PySem.W.nsIn K mainGlobals "range" = some none)
  (z_all:PySem.W.nsIn K mainGlobals "all" = some none)
  (z_any:PySem.W.nsIn K mainGlobals "any" = some none)
  (z_abs:PySem.W.nsIn K mainGlobals "abs" = some none)
  (z_int:PySem.W.nsIn K mainGlobals "int" = some none)
  (z_bool:PySem.W.nsIn K mainGlobals "bool" = some none)
  (z_str:PySem.W.nsIn K mainGlobals "str" = some none)
  (z_list:PySem.W.nsIn K mainGlobals "list" = some none)
  (z_tuple:PySem.W.nsIn K mainGlobals "tuple" = some none)
  (z_dict:PySem.W.nsIn K mainGlobals "dict" = some none)
  (z_isinstance:PySem.W.nsIn K mainGlobals "isinstance" = some none)
  (z_enumerate:PySem.W.nsIn K mainGlobals "enumerate" = some none)
  (z_reversed:PySem.W.nsIn K mainGlobals "reversed" = some none)
  (z_sorted:PySem.W.nsIn K mainGlobals "sorted" = some none)
  (z_max:PySem.W.nsIn K mainGlobals "max" = some none)
  (z_min:PySem.W.nsIn K mainGlobals "min" = some none)
  (z_sum:PySem.W.nsIn K mainGlobals "sum" = some none)
  (z_zip:PySem.W.nsIn K mainGlobals "zip" = some none)
  : ∃ fd:FuncData,(∀(s:Shared) (v:Value),BindsTo s fd ⟨[v],[]⟩ [("_law_script",v)])/\∀ base:Heap,K.In base->base.Ns mainGlobals mg->FnOk l.prog w K mg base x8 9 fa fd ["_law_script"] (Dp.Az K):=by
 have B:Bl mg:=⟨PySem.W.mg_none_of X G z_len,PySem.W.mg_none_of X G z_range,PySem.W.mg_none_of X G z_all,PySem.W.mg_none_of X G z_any,PySem.W.mg_none_of X G z_abs,PySem.W.mg_none_of X G z_int,PySem.W.mg_none_of X G z_bool,PySem.W.mg_none_of X G z_str,PySem.W.mg_none_of X G z_list,PySem.W.mg_none_of X G z_tuple,PySem.W.mg_none_of X G z_dict,PySem.W.mg_none_of X G z_isinstance,PySem.W.mg_none_of X G z_enumerate,PySem.W.mg_none_of X G z_reversed,PySem.W.mg_none_of X G z_sorted,PySem.W.mg_none_of X G z_max,PySem.W.mg_none_of X G z_min,PySem.W.mg_none_of X G z_sum,PySem.W.mg_none_of X G z_zip⟩;have W:Ds.Mg K mg:=λ_ _ a=>PySem.W.mg_of X G a;obtain⟨a,fd,F⟩:=h34;cases hfa.symm.trans (W _ _ a);refine⟨fd,?_,λbase _ _=>?_⟩
 ·obtain⟨oc,od,kV,doc,pm,an,cdv,ct,osl,rfl,lk,hcd⟩:=F.ex;exact λs v=>.of_eq rfl
 have gf:Def l.prog w K mg base "_law_flow" 1 ["_law_script"] (vA K):=by
  obtain⟨a,fd,F⟩:=h4;exact .of F (W _ _ a) (F.binds (Ds.b1 λ_ _ _ _ _ _ _=>rfl)) (E6 F B)
 have gp:Def l.prog w K mg base "_law_pick" 1 ["_law_flow_here", "_law_many"] (Dp.v8 K Dp.gY.n Dp.gY.run):=by
  obtain⟨a,fd,F⟩:=h5;exact Dp.Bm (.of F (W _ _ a) (F.binds (Ds.b2 λ_ _ _ _ _ _ _ _=>rfl)) (E4 F B))
 have G0:=Ds.tW gp Ds.MI;have ga:Def l.prog w K mg base "_law_alike" 3 ["_law_found", "_law_due"] (Dp.v8 K (Dp.iC 3).n (Dp.iC 3).run):=by
  obtain⟨a,fd,F⟩:=h6;exact Dp.Ar (.of F (W _ _ a) (F.binds (Ds.b2 λ_ _ _ _ _ _ _ _=>rfl)) (uo F B (W _ _ a) (F.binds (Ds.b2 λ_ _ _ _ _ _ _ _=>rfl)) 3))
 have Ga:=Ds.tW ga G0;have G1:=Ds.tW (Ds.uq 0 Ds.o0 h1 W B oY rfl Ga Ds.tQ (Ds.b1 λ_ _ _ _ _ _ _=>rfl) (by kernel_rfl) Dp.oe) Ga;have G7:=Ds.tW (Ds.uq 0 Ds.o0 h7 W B mU rfl G1 Ds.tQ (Ds.b2 λ_ _ _ _ _ _ _ _=>rfl) (by kernel_rfl) Dp.kQ) G1;have G30:=Ds.tW (Ds.uq 0 Ds.o0 h30 W B oq rfl G7 Ds.tQ (Ds.b1 λ_ _ _ _ _ _ _=>rfl) (by kernel_rfl) Dp.mO) G7;have gN2:=Ds.L8 (Ds.MH 1 h2 W B jW rfl G30 Ds.tQ (Ds.b1 λ_ _ _ _ _ _ _=>rfl) Dp.i9 rfl (by kernel_rfl)) Ds.Lp;have G2:=Ds.tW (Ds.uq 1 Ds.o0 h2 W B jW rfl G30 Ds.tQ (Ds.b1 λ_ _ _ _ _ _ _=>rfl) (by kernel_rfl) Dp.i9) G30;have G8:=Ds.tW (Ds.uq 1 Ds.o0 h8 W B lY rfl G2 Ds.tQ (Ds.b2 λ_ _ _ _ _ _ _ _=>rfl) (by kernel_rfl) Dp.j7) G2;have G10:=Ds.tW (Ds.uq 1 ([(56,[0]),(60,[0]),(62,[0])],[56],[0]) h10 W B oj rfl G8 Ds.tQ (Ds.b2 λ_ _ _ _ _ _ _ _=>rfl) (by kernel_rfl) Dp.mJ) G8;have G16:=Ds.tW (Ds.uq 1 Ds.o0 h16 W B mV rfl G10 Ds.tQ (Ds.b2 λ_ _ _ _ _ _ _ _=>rfl) (by kernel_rfl) Dp.kR) G10;have gN3:=Ds.L8 (Ds.MG 2 ([(17,[3])],[9,10],[2,3]) h3 W B oR rfl G16 gN2 Ds.tQ (Ds.b2 λ_ _ _ _ _ _ _ _=>rfl) (by kernel_rfl) Dp.z7) Ds.Lp;have G3:=Ds.tW (Ds.Lh 2 ([(17,[3])],[9,10],[2,3]) h3 W B oR rfl G16 gN2 Ds.tQ (Ds.b2 λ_ _ _ _ _ _ _ _=>rfl) (by kernel_rfl) Dp.oV) G16;have G9:=Ds.tW (Ds.uq 2 Ds.o0 h9 W B mE rfl G3 Ds.tQ (Ds.b2 λ_ _ _ _ _ _ _ _=>rfl) (by kernel_rfl) Dp.kD) G3;have G11:=Ds.tW (Ds.uq 2 ([(70,[3])],[65],[3]) h11 W B oC rfl G9 Ds.tQ (Ds.b2 λ_ _ _ _ _ _ _ _=>rfl) (by kernel_rfl) Dp.nE) G9;have G12:=Ds.tW (Ds.uq 2 ([(76,[2])],[72],[2]) h12 W B nQ rfl G11 Ds.tQ (Ds.b2 λ_ _ _ _ _ _ _ _=>rfl) (by kernel_rfl) Dp.mf) G11;have G14:=Ds.tW (Ds.uq 2 Ds.o0 h14 W B lZ rfl G12 Ds.tQ (Ds.b2 λ_ _ _ _ _ _ _ _=>rfl) (by kernel_rfl) Dp.ka) G12;have G15:=Ds.tW (Ds.uq 2 Ds.o0 h15 W B j4 rfl G14 Ds.tQ (Ds.b1 λ_ _ _ _ _ _ _=>rfl) (by kernel_rfl) Dp.jx) G14;have G17:=Ds.tW (Ds.uq 2 Ds.o0 h17 W B jS rfl G15 Ds.tQ (Ds.b2 λ_ _ _ _ _ _ _ _=>rfl) (by kernel_rfl) Dp.jo) G15;have G18:=Ds.tW (Ds.uq 2 Ds.o0 h18 W B ma rfl G17 Ds.tQ (Ds.b3 λ_ _ _ _ _ _ _ _ _=>rfl) (by kernel_rfl) Dp.j9) G17;have G21:=Ds.tW (Ds.uq 2 Ds.o0 h21 W B pd rfl G18 Ds.tQ (Ds.b2 λ_ _ _ _ _ _ _ _=>rfl) (by kernel_rfl) Dp.mP) G18;have G13:=Ds.tW (Ds.uq 3 Ds.o0 h13 W B oZ rfl G21 Ds.tQ (Ds.b2 λ_ _ _ _ _ _ _ _=>rfl) (by kernel_rfl) Dp.n9) G21;have G19:=Ds.tW (Ds.uq 3 Ds.o0 h19 W B jT rfl G13 Ds.tQ (Ds.b2 λ_ _ _ _ _ _ _ _=>rfl) (by kernel_rfl) Dp.jp) G13;have G20:=Ds.tW (Ds.uq 3 ([],[100],[2]) h20 W B mF rfl G19 Ds.tQ (Ds.b2 λ_ _ _ _ _ _ _ _=>rfl) (by kernel_rfl) Dp.jZ) G19;have G22:=Ds.tW (Ds.uq 3 Ds.o0 h22 W B om rfl G20 Ds.tQ (Ds.b2 λ_ _ _ _ _ _ _ _=>rfl) (by kernel_rfl) Dp.mQ) G20;have G24:=Ds.tW (Ds.uq 3 ([(134,[2])],[125],[2]) h24 W B mX rfl G22 Ds.tQ (Ds.b2 λ_ _ _ _ _ _ _ _=>rfl) (by kernel_rfl) Dp.ki) G22;have G23:=Ds.tW (Ds.uq 4 Ds.o0 h23 W B kL rfl G24 Ds.tQ (Ds.b2 λ_ _ _ _ _ _ _ _=>rfl) (by kernel_rfl) Dp.jz) G24;have G26:=Ds.tW (Ds.uq 4 ([(153,[1])],[145,146],[1,2]) h26 W B on rfl G23 Ds.tQ (Ds.b1 λ_ _ _ _ _ _ _=>rfl) (by kernel_rfl) Dp.kZ) G23;have G27:=Ds.tW (Ds.uq 4 Ds.o0 h27 W B oo rfl G26 Ds.tQ (Ds.b2 λ_ _ _ _ _ _ _ _=>rfl) (by kernel_rfl) Dp.lj) G26;have G28:=Ds.tW (Ds.uq 4 Ds.o0 h28 W B kM rfl G27 Ds.tQ (Ds.b2 λ_ _ _ _ _ _ _ _=>rfl) (by kernel_rfl) Dp.j3) G27;have G25:=Ds.tW (Ds.uq 5 Ds.o0 h25 W B nR rfl G28 Ds.tQ (Ds.b2 λ_ _ _ _ _ _ _ _=>rfl) (by kernel_rfl) Dp.kH) G28;have G29:=Ds.tW (Ds.uq 5 ([(194,[4]),(207,[11]),(210,[4])],[200,207],[4,11]) h29 W B j5 rfl G25 Ds.tQ (Ds.b2 λ_ _ _ _ _ _ _ _=>rfl) (by kernel_rfl) Dp.jC) G25;have G31:=Ds.tW (Ds.uq 6 Ds.o0 h31 W B kN rfl G29 Ds.tQ (Ds.b2 λ_ _ _ _ _ _ _ _=>rfl) (by kernel_rfl) Dp.jD) G29;have G32:=Ds.tW (Ds.uq 6 Ds.o0 h32 W B nS rfl G31 Ds.tQ (Ds.b1 λ_ _ _ _ _ _ _=>rfl) (by kernel_rfl) Dp.kI) G31;have G33:=Ds.tW (Ds.uq 7 Ds.o0 h33 W B nV rfl G32 Ds.tQ (Ds.b3 λ_ _ _ _ _ _ _ _ _=>rfl) (by kernel_rfl) Dp.kJ) G32;exact Ds.E5 (n:=40) (k:=8) (gc:=[]) (fz:=[(1000253,[6])]) (own:=[252]) (mu:=[6]) F B qr gf G33 Ds.tQ gN3 rfl (by decide) (by first|exact Or.inl rfl|exact Or.inr rfl) (by first|exact Or.inl rfl|exact Or.inr rfl) rfl (by kernel_rfl) Dp.Be
theorem walk{l:PySem.W.OpenLaw}{q:Program}{loose:List Str}{YP:World->Heap->Prop}{d:DefRec}{K:Params->Frag}(hn:l.most=some 63)(hdf:d.params.defaults=[])
  (hY:∀(w:World) (h:Heap),YP w h->(K w.params).In h)
  (F:∀(w:World) (mg:Str->Option Value) (fa:Addr) (h:Heap),(K w.params).In h->h.Ns mainGlobals mg->mg d.name=some (.ref fa) ->
   ∃ fd:FuncData,(∀(s:Shared) (u:Value),BindsTo s fd ⟨[u],[]⟩ [("_law_script",u)])/\∀ base:Heap,(K w.params).In base->base.Ns mainGlobals mg->FnOk l.prog w (K w.params) mg base x8 9 fa fd ["_law_script"] (Dp.Az (K w.params))) (hi:PyProof.Rows.importsNone q=true) (ht:l.prog.given.tree=none) :
  PySem.W.WalkO q loose XP YP l.row.toRowW d [] (λf vs=>PySem.call f vs) :=
 L2.Em (n:=63) (k:=9) (x := "_law_script") (CX:=λ_=>x8) (sp:=λw=>Dp.Az (K w.params)) hn (by decide) hdf ⟨rfl,by decide,by decide⟩ hY F (λ_ _ a ns hl _ hS=>⟨a,ns,rfl,hS,hl,λ_=>rfl⟩) (λ_ _ _ _ _ z=>z) hi ht
end My
def PySem.W.Fast.tw12769071996907505880:Unit:=()
def PySem.W.Fast.tw10667727129701776309:Unit:=()
def PySem.W.Fast.tw5235377425808105548:Unit:=()
def PySem.W.Fast.tw10248714410723145105:Unit:=()
def PySem.W.Fast.tw4950658625131511470:Unit:=()
def PySem.W.Fast.tw6486716884188703199:Unit:=()
def PySem.W.Fast.tw10640045213394412127:Unit:=()
def PySem.W.Fast.tw12684223542005972302:Unit:=()
def PySem.W.Fast.tw6209900445089469179:Unit:=()
def PySem.W.Fast.tw12271539897018167418:Unit:=()
def PySem.W.Fast.tw7582724302046391709:Unit:=()
def PySem.W.Fast.tw14234932100500095720:Unit:=()
def PySem.W.Fast.tw1990247018027613655:Unit:=()
def PySem.W.Fast.tw13728936146154511786:Unit:=()
def PySem.W.Fast.tw13016737396474581820:Unit:=()
def PySem.W.Fast.tw6871720031271135811:Unit:=()
def PySem.W.Fast.tw3168023617022494244:Unit:=()
def PySem.W.Fast.tw2439852401872237459:Unit:=()
def PySem.W.Fast.tw4625902619937769669:Unit:=()
def PySem.W.Fast.tw11025643260825986528:Unit:=()
def PySem.W.Fast.tw1917758166852907680:Unit:=()
def PySem.W.Fast.tw9236262694644940191:Unit:=()
def PySem.W.Fast.tw13130940379504907418:Unit:=()
def PySem.W.Fast.tw13676678446649229907:Unit:=()
def PySem.W.Fast.tw1507623087175691682:Unit:=()
def PySem.W.Fast.tw8656622221830861218:Unit:=()
def PySem.W.Fast.tw16853429396021299555:Unit:=()
def PySem.W.Fast.tw18342738402458517548:Unit:=()
def PySem.W.Fast.tw4124836198667582560:Unit:=()
def PySem.W.Fast.tw12235195909103004435:Unit:=()
def PySem.W.Fast.tw9060327931685394685:Unit:=()
def PySem.W.Fast.tw11532470732871008955:Unit:=()
def PySem.W.Fast.tw1451497411253727978:Unit:=()
def PySem.W.Fast.tw2241305984579086706:Unit:=()
def PySem.W.Fast.tw7857109050813773328:Unit:=()
def PySem.W.Fast.tw15747512101599020608:Unit:=()
def PySem.W.Fast.tw2622114345375763764:Unit:=()
def PySem.W.Fast.tw1322906358939493207:Unit:=()
def PySem.W.Fast.tw9060655240636864407:Unit:=()
def PySem.W.Fast.tw429497337510005824:Unit:=()
def PySem.W.Fast.tw955409626237054560:Unit:=()
def PySem.W.Fast.tw14934110818440093504:Unit:=()
def PySem.W.Fast.tw4780708143449516426:Unit:=()
def PySem.W.Fast.tw12846921808814356970:Unit:=()
def PySem.W.Fast.tw15889806954192297502:Unit:=()
def PySem.W.Fast.tw8737176812387000336:Unit:=()
def PySem.W.Fast.tw1266666099308951593:Unit:=()
def PySem.W.Fast.tw17029054277152066915:Unit:=()
def PySem.W.Fast.tw3768462611870276147:Unit:=()
def PySem.W.Fast.tw12048156465697863091:Unit:=()
def PySem.W.Fast.tw16178489314476123813:Unit:=()
def PySem.W.Fast.tw8813098453140088819:Unit:=()
def PySem.W.Fast.tw899975259817965789:Unit:=()
def PySem.W.Fast.tw6970495234328334292:Unit:=()
open PySem PySem.W PyProof.Rows
set_option maxRecDepth 100000 in
set_option maxHeartbeats 0 in
theorem PySem.Challenge.cw_nestwright_k45_roads_from_chain_to_chain_holds : PySem.Challenge.rw_nestwright_k45_roads_from_chain_to_chain.Holds := by
 w_on;o_law;k_head;(case hw=>w_witness2)
 k_fill
 refine My.walk (l:=PySem.Challenge.rw_nestwright_k45_roads_from_chain_to_chain) rfl rfl (fun w h Y=>PySem.W.kIn_of Y) ?F ?hi rfl
 (case hi=>kernel_rfl)
 case F =>
  intro w mg fa h KX G hmg;refine' My.IE KX G hmg (Ds.sl ?a1 ?l1 ?c1 ?k1) (Ds.sl ?a2 ?l2 ?c2 ?k2) (Ds.sl ?a3 ?l3 ?c3 ?k3) (Ds.sl ?a4 ?l4 ?c4 ?k4) (Ds.sl ?a5 ?l5 ?c5 ?k5) (Ds.sl ?a6 ?l6 ?c6 ?k6) (Ds.sl ?a7 ?l7 ?c7 ?k7) (Ds.sl ?a8 ?l8 ?c8 ?k8) (Ds.sl ?a9 ?l9 ?c9 ?k9) (Ds.sl ?a10 ?l10 ?c10 ?k10) (Ds.sl ?a11 ?l11 ?c11 ?k11) (Ds.sl ?a12 ?l12 ?c12 ?k12) (Ds.sl ?a13 ?l13 ?c13 ?k13) (Ds.sl ?a14 ?l14 ?c14 ?k14) (Ds.sl ?a15 ?l15 ?c15 ?k15) (Ds.sl ?a16 ?l16 ?c16 ?k16) (Ds.sl ?a17 ?l17 ?c17 ?k17) (Ds.sl ?a18 ?l18 ?c18 ?k18) (Ds.sl ?a19 ?l19 ?c19 ?k19) (Ds.sl ?a20 ?l20 ?c20 ?k20) (Ds.sl ?a21 ?l21 ?c21 ?k21) (Ds.sl ?a22 ?l22 ?c22 ?k22) (Ds.sl ?a23 ?l23 ?c23 ?k23) (Ds.sl ?a24 ?l24 ?c24 ?k24) (Ds.sl ?a25 ?l25 ?c25 ?k25) (Ds.sl ?a26 ?l26 ?c26 ?k26) (Ds.sl ?a27 ?l27 ?c27 ?k27) (Ds.sl ?a28 ?l28 ?c28 ?k28) (Ds.sl ?a29 ?l29 ?c29 ?k29) (Ds.sl ?a30 ?l30 ?c30 ?k30) (Ds.sl ?a31 ?l31 ?c31 ?k31) (Ds.sl ?a32 ?l32 ?c32 ?k32) (Ds.sl ?a33 ?l33 ?c33 ?k33) (Ds.sl ?a34 ?l34 ?c34 ?k34) ?z_len ?z_range ?z_all ?z_any ?z_abs ?z_int ?z_bool ?z_str ?z_list ?z_tuple ?z_dict ?z_isinstance ?z_enumerate ?z_reversed ?z_sorted ?z_max ?z_min ?z_sum ?z_zip
  (case a1=>k_is);(case l1=>k_is);(case c1=>k_is);(case k1=>k_is)
  (case a2=>k_is);(case l2=>k_is);(case c2=>k_is);(case k2=>k_is)
  (case a3=>k_is);(case l3=>k_is);(case c3=>k_is);(case k3=>k_is)
  (case a4=>k_is);(case l4=>k_is);(case c4=>k_is);(case k4=>k_is)
  (case a5=>k_is);(case l5=>k_is);(case c5=>k_is);(case k5=>k_is)
  (case a6=>k_is);(case l6=>k_is);(case c6=>k_is);(case k6=>k_is)
  (case a7=>k_is);(case l7=>k_is);(case c7=>k_is);(case k7=>k_is)
  (case a8=>k_is);(case l8=>k_is);(case c8=>k_is);(case k8=>k_is)
  (case a9=>k_is);(case l9=>k_is);(case c9=>k_is);(case k9=>k_is)
  (case a10=>k_is);(case l10=>k_is);(case c10=>k_is);(case k10=>k_is)
  (case a11=>k_is);(case l11=>k_is);(case c11=>k_is);(case k11=>k_is)
  (case a12=>k_is);(case l12=>k_is);(case c12=>k_is);(case k12=>k_is)
  (case a13=>k_is);(case l13=>k_is);(case c13=>k_is);(case k13=>k_is)
  (case a14=>k_is);(case l14=>k_is);(case c14=>k_is);(case k14=>k_is)
  (case a15=>k_is);(case l15=>k_is);(case c15=>k_is);(case k15=>k_is)
  (case a16=>k_is);(case l16=>k_is);(case c16=>k_is);(case k16=>k_is)
  (case a17=>k_is);(case l17=>k_is);(case c17=>k_is);(case k17=>k_is)
  (case a18=>k_is);(case l18=>k_is);(case c18=>k_is);(case k18=>k_is)
  (case a19=>k_is);(case l19=>k_is);(case c19=>k_is);(case k19=>k_is)
  (case a20=>k_is);(case l20=>k_is);(case c20=>k_is);(case k20=>k_is)
  (case a21=>k_is);(case l21=>k_is);(case c21=>k_is);(case k21=>k_is)
  (case a22=>k_is);(case l22=>k_is);(case c22=>k_is);(case k22=>k_is)
  (case a23=>k_is);(case l23=>k_is);(case c23=>k_is);(case k23=>k_is)
  (case a24=>k_is);(case l24=>k_is);(case c24=>k_is);(case k24=>k_is)
  (case a25=>k_is);(case l25=>k_is);(case c25=>k_is);(case k25=>k_is)
  (case a26=>k_is);(case l26=>k_is);(case c26=>k_is);(case k26=>k_is)
  (case a27=>k_is);(case l27=>k_is);(case c27=>k_is);(case k27=>k_is)
  (case a28=>k_is);(case l28=>k_is);(case c28=>k_is);(case k28=>k_is)
  (case a29=>k_is);(case l29=>k_is);(case c29=>k_is);(case k29=>k_is)
  (case a30=>k_is);(case l30=>k_is);(case c30=>k_is);(case k30=>k_is)
  (case a31=>k_is);(case l31=>k_is);(case c31=>k_is);(case k31=>k_is)
  (case a32=>k_is);(case l32=>k_is);(case c32=>k_is);(case k32=>k_is)
  (case a33=>k_is);(case l33=>k_is);(case c33=>k_is);(case k33=>k_is)
  (case a34=>k_is);(case l34=>k_is);(case c34=>k_is);(case k34=>k_is)
  (case z_len=>k_is)
  (case z_range=>k_is)
  (case z_all=>k_is)
  (case z_any=>k_is)
  (case z_abs=>k_is)
  (case z_int=>k_is)
  (case z_bool=>k_is)
  (case z_str=>k_is)
  (case z_list=>k_is)
  (case z_tuple=>k_is)
  (case z_dict=>k_is)
  (case z_isinstance=>k_is)
  (case z_enumerate=>k_is)
  (case z_reversed=>k_is)
  (case z_sorted=>k_is)
  (case z_max=>k_is)
  (case z_min=>k_is)
  (case z_sum=>k_is)
  (case z_zip=>k_is)
