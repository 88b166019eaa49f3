import PyProof.Rows.All
import Wide.All
import OpenK.AllK
import Wide.FinOn
import Lean
import PyProof.EqAt
import PyProof.EqKinds
import PyProof.TupleCall
import KE.KSortTup
import PyProof.Rows.Range3
import KE.KRevIter
import PyProof.ListRange
import PySem.Challenge.RW_nestwright_k43_neighbours_exchanged
open PySem.W (Frag)
open Array renaming length_toList → cC, getElem?_toList → eO, getElem?_eq_getElem → gq
open Bool renaming and_eq_true_iff → aA, false_ne_true → aD, and_eq_true → bH, eq_iff_iff → cq, false_eq_true → df, not_eq_true' → dr, or_eq_true_iff → gS
open Int renaming ne_of_gt → am, eq_of_mul_eq_mul_right → av, zero_mul → ax, mul_pos → ay, toNat_natCast → aJ, pow_zero → aP, natAbs_mul → aT, pow_succ → a6, natAbs_natCast → bc, mul_ne_zero → bh, mul_comm → bo, natAbs_dvd_natAbs → bq, pow_ne_zero → bu, mul_eq_zero → bv, pow_pos → bw, mul_one → bx, mul_assoc → bC, one_mul → bK, zero_add → bO, mul_zero → bP, add_zero → bQ, pow_add → bS, mul_fdiv_cancel_left → cy, eq_ofNat_of_zero_le → cI, fdiv_eq_ediv_of_nonneg → cQ, mul_fdiv_cancel → c7, emod_lt_of_pos → dM, mul_neg_of_pos_of_neg → dO, eq_of_mul_eq_mul_left → dP, lt_trichotomy → dX, dvd_mul_right → dY, dvd_trans → dZ, dvd_mul_of_dvd_left → eA, emod_nonneg → eX, dvd_add → eZ, add_mul → e6, lt_or_gt_of_ne → e9, mul_dvd_mul → gn, natAbs_pow → gw, natAbs_neg → gx, fmod_eq_emod_of_nonneg → gy, dvd_mul_of_dvd_right → gC, fmod_nonneg_of_pos → gI, fmod_def → gJ, dvd_zero → gK, dvd_refl → gL, mul_pow → gR, gcd_eq_zero_iff → gY, sub_add_cancel → g7, fmod_lt_of_pos → g8, gcd_dvd_right → ig
open List renaming length_map → aa, getD_eq_getElem?_getD → ac, length_append → aj, getElem?_eq_some_iff → ak, size_toArray → ao, getElem?_eq_getElem → aq, mem_cons → au, getElem?_append_right → az, mem_cons_of_mem → aC, mem_cons_self → aG, length_replicate → aI, getElem?_set_ne → aK, mem_of_getElem? → aL, map_append → aM, getElem?_append_left → aN, getElem?_set → aQ, getElem?_map → aR, length_set → aS, not_mem_nil → aX, length_reverse → a5, mem_append_right → a7, mem_singleton → a8, length_take → bg, length_cons → br, getElem?_eq_none → bt, mem_iff_getElem? → bz, mem_append → bD, getElem?_reverse → bE, replicate_succ → bF, length_eq_zero_iff → bT, getD_cons_succ → bV, take_length → bW, flatten_cons → bY, mem_filter → ce, getElem?_cons_succ → cE, all_eq_true → cF, drop_eq_getElem_cons → cU, length_pos_iff → cV, filterMap_cons → cZ, getElem?_replicate → dh, mem_map → dq, nodup_cons → dw, append_nil → dA, take_zero → dI, getElem?_take → dJ, drop_zero → dL, reverse_cons → dN, map_cons → dU, getElem?_take_of_lt → dW, lookup_cons → d9, take_of_length_le → eE, getElem?_set_self → eI, length_singleton → eU, dropLast_eq_take → eV, take_left → eY, all_cons → e7, length_range → fi, append_assoc → fj, map_reverse → fB, length_drop → fE, getElem_mem → fI, any_eq_true → fJ, eq_nil_of_length_eq_zero → fZ, of_mem_zip → gg, nil_append → gh, dropLast_concat_getLast → gk, getElem?_eq_none_iff → gv, eq_of_mem_replicate → gA, any_cons → gB, drop_of_length_le → gD, all_map → gE, take_append_drop → gH, mem_append_left → gM, length_dropLast → gN, dropLast_concat → gO, getElem?_range → gQ, mem_filterMap → gV, filterMap_nil → gX, foldl_append → gZ, ext_getElem? → g6, getElem_map → h9, ext_getElem → ia, drop_append → ic
open Nat renaming mul_le_mul_left → ae, le_refl → af, lt_or_ge → aw, zero_le → aB, le_trans → aE, lt_of_lt_of_le → aF, add_sub_cancel → aH, le_mul_of_pos_left → aO, mul_comm → aU, mul_le_mul_right → aV, mul_le_mul → aW, ne_of_lt → aY, le_mul_of_pos_right → aZ, sub_self → a9, succ_mul → bj, sub_zero → bA, lt_irrefl → bB, mul_succ → bI, lt_of_le_of_lt → bJ, pow_pos → bM, eq_or_lt_of_le → bN, eq_zero_or_pos → bX, not_lt_zero → bZ, pow_le_pow_right → cu, le_of_dvd → cw, mul_lt_mul_of_pos_right → cO, le_of_succ_le → cP, mul_assoc → c8, add_assoc → dc, add_mul → dm, pow_add → du, min_eq_left → dF, div_le_self → dG, ne_of_gt → dH, mul_one → dQ, mul_add → dR, le_of_lt_succ → dS, dvd_mul_left → ez, zero_mul → eJ, le_of_lt → eK, pos_of_ne_zero → e8, succ_pos → fk, mul_zero → fv, succ_le_succ → fL, lt_succ_self → fU, one_mul → f6, mul_pos → f7, le_succ → gb, mul_lt_mul_of_pos_left → gr, mul_div_le → gu, eq_of_mul_eq_mul_left → gz, zero_add → gF, gcd_comm → gG, add_le_add_right → gP, lt_mul_div_succ → gU, lt_succ_of_lt → g9, gcd_dvd_right → hJ
open Option renaming map_eq_some_iff → ab, ite_none_right_eq_some → ah, bind_eq_some_iff → ai, ite_none_left_eq_some → fw, getD_none → gT
open Rat renaming intCast_mul → ar, pow_zero → cJ, pow_succ → cK, intCast_pow → cL, mul_eq_zero → de, intCast_eq_zero_iff → dj, intCast_inj → dD, intCast_add → dE, intCast_sub → eQ
open PySem renaming wpAny_bind → ηB,wpAny_pure → ηP
open PySem.Heap renaming get?_push_of_some → ηH,lt_size → ηL,get?_push_size → ηG
set_option Elab.async false
set_option linter.all false
set_option maxRecDepth 100000
set_option genSizeOf false
set_option bootstrap.genMatcherCode false
local macro_rules|`(()) => `(by lia)
namespace L2
open PySem PySem.Spec PyProof.Rows
abbrev wp:=Sum Int Str
def xG:wp->Value->Bool
 | .inl k,v=>Value.isInt k v
 | .inr x,v=>Value.isStrOf x v
def Me(w:World):wp->Int
 | .inl k=>hashInt k
 | .inr x=>hashStr w x
theorem sU:∀{k:wp} {v:Value},xG k v=true->(∃ i t,k=Sum.inl i/\v=Value.int i t)\/(∃ x t,k=Sum.inr x/\v=Value.str x t)
 | .inl i,v,h=>by
  obtain⟨t,e⟩:=Value.isInt_shape (k:=i) (v:=v) h;exact .inl ⟨i,t,rfl,e⟩
 | .inr x,v,h=>by
  obtain⟨t,e⟩:=Value.isStrOf_shape (x:=x) (v:=v) h;exact .inr ⟨x,t,rfl,e⟩
theorem Cw(i:Int)(t:Tok):xG (.inl i) (.int i t)=true:=by simp[xG,Value.isInt]
theorem Cu(x:Str)(t:Tok):xG (.inr x) (.str x t)=true:=by simp[xG,Value.isStrOf]
theorem IL(a b:Int):decide ((Sum.inl a:wp)=Sum.inl b)=(a == b):=by
 by_cases e:a=b
 ·subst e;simp
 ·have h:¬ (Sum.inl a:wp)=Sum.inl b:=λq=>e (Sum.inl.inj q);rw[decide_eq_false h];exact (beq_eq_false_iff_ne.mpr e).symm
theorem II(a b:Str):decide ((Sum.inr a:wp)=Sum.inr b)=decide (a=b):=by
 by_cases e:a=b
 ·subst e;simp
 ·have h:¬ (Sum.inr a:wp)=Sum.inr b:=λq=>e (Sum.inr.inj q);rw[decide_eq_false h,decide_eq_false e]
theorem IK(a:Int)(b:Str):decide ((Sum.inl a:wp)=Sum.inr b)=false:=decide_eq_false (λq=>nomatch q)
theorem IJ(a:Str)(b:Int):decide ((Sum.inr a:wp)=Sum.inl b)=false:=decide_eq_false (λq=>nomatch q)
def vt(prog:Program)(w:World):PySem.KeyKind prog w wp where
 is:=xG
 hash:=Me w
 inj:=λv a b ha hb=>by
  rcases sU ha with⟨i,t,rfl,rfl⟩|⟨x,t,rfl,rfl⟩
  ·rcases sU hb with⟨j,u,rfl,e⟩|⟨y,u,rfl,e⟩
   ·injection e with e1 _;rw[e1]
   ·exact nomatch e
  ·rcases sU hb with⟨j,u,rfl,e⟩|⟨y,u,rfl,e⟩
   ·exact nomatch e
   ·injection e with e1 _;rw[e1]
 byValue:=λk v h=>by
  rcases sU h with⟨i,t,rfl,rfl⟩|⟨x,t,rfl,rfl⟩ <;> rfl
 pyHash:=λhv h=>by
  rcases sU hv with⟨i,t,rfl,rfl⟩|⟨x,t,rfl,rfl⟩
  ·exact wpAny_pyHash_int h
  ·exact wpAny_pyHash_str h
 eqBool:=λhu hv h=>by
  rcases sU hu with⟨i,t,rfl,rfl⟩|⟨x,t,rfl,rfl⟩
  ·rcases sU hv with⟨j,u,rfl,rfl⟩|⟨y,u,rfl,rfl⟩
   ·rw[IL] at h;exact wpAny_eqBool_int h
   ·rw[IK] at h;exact SeqAt.EqAt.int_str i t y u _ _ _ _ h
  ·rcases sU hv with⟨j,u,rfl,rfl⟩|⟨y,u,rfl,rfl⟩
   ·rw[IJ] at h;exact SeqAt.EqAt.str_int x t j u _ _ _ _ h
   ·rw[II] at h;exact wpAny_eqBool_str h
 «strs» := λk x t v h=>by
  rcases sU h with⟨i,u,rfl,e⟩|⟨y,u,rfl,e⟩
  ·exact nomatch e
  ·injection e with e1 _;subst e1;cases v <;> rfl
inductive V where
 | non|bl (b:Bool)|int (i:Int)|str (x:Str)|byt (b:Array UInt8)|flt (b:UInt64)|ref (a:Addr)|ty (n:String)
 deriving DecidableEq
def RelV:V->Value->Prop
 | .non,u=>u=Value.none
 | .bl b,u=>u=Value.bool b
 | .int i,u=>∃ t,u=Value.int i t
 | .str x,u=>∃ t,u=Value.str x t
 | .byt b,u=>∃ t,u=Value.bytes b t
 | .flt b,u=>∃ t,u=Value.float b t
 | .ref a,u=>u=Value.ref a
 | .ty n,u=>u=Value.type n
abbrev Vals:List V->List Value->Prop:=Paired RelV
theorem Vals.length(r:Vals xs us):xs.length=us.length:=Paired.length r
theorem Vals.get:∀{xs:List V} {us:List Value} {i:Nat} {x:V},Vals xs us->xs[i]? = some x->∃ u,us[i]? = some u/\RelV x u
 | _,_,_,_,.nil,e=>by simp at e
 | _,_,0,_,.cons r _,e=>by simp at e;subst e;exact⟨_,rfl,r⟩
 | _,_,i+1,x,.cons _ t,e=>by
  obtain⟨u,h1,h2⟩:=Vals.get (i:=i) (x:=x) t (by simpa using e);exact⟨u,by simpa using h1,h2⟩
theorem Vals.set(r:RelV x u):∀{xs:List V} {us:List Value} (i:Nat),Vals xs us->Vals (xs.set i x) (us.set i u)
 | _,_,_,.nil=>.nil
 | _,_,0,.cons _ t=>.cons r t
 | _,_,i+1,.cons q t=>.cons q (Vals.set r i t)
theorem Vals.append:∀{xs ys:List V} {us ws:List Value},Vals xs us->Vals ys ws->Vals (xs++ys) (us++ws)
 | _,_,_,_,.nil,s=>s
 | _,_,_,_,.cons r t,s=>.cons r (Vals.append t s)
theorem Vals.take:∀{xs:List V} {us:List Value} (n:Nat),Vals xs us->Vals (xs.take n) (us.take n)
 | _,_,0,_=>.nil
 | _,_,_+1,.nil=>.nil
 | _,_,n+1,.cons r t=>.cons r (Vals.take n t)
theorem Vals.drop:∀{xs:List V} {us:List Value} (n:Nat),Vals xs us->Vals (xs.drop n) (us.drop n)
 | _,_,0,r=>r
 | _,_,_+1,.nil=>.nil
 | _,_,n+1,.cons _ t=>Vals.drop n t
def Jv:Option V->Option Value->Prop
 | some v,some u=>RelV v u
 | none,none=>True
 | _,_=>False
def KV{κ:Type}:List (κ×V)->List (κ×Value)->Prop:=Paired λ(p:κ×V) (q:κ×Value)=>p.1=q.1/\RelV p.2 q.2
def kV:wp->V
 | .inl i=>.int i
 | .inr x=>.str x
inductive HO where
  | lst (xs:List V)
  | tup (xs:List V)
  | dK (kvs:List (wp×V))|dT (kvs:List (List wp×V))
  | set (S:Int->Bool) (n:Nat)
  | ins (C dx:Addr) (fs:List (Str×V))
  | own (x:Addr)
  | xd (fs:List (Str×V))
  | met (f x:Addr)
  | rng (lo hi:Int)
  | frz (o:Obj) (u:HO)
  | tbl (ps:Array Value)
  | ext (φ:Heap->Prop)
abbrev Hp:=Addr->Option HO
def tv(H:Hp)(a:Addr)(o:HO):Hp:=λb=>if b=a then some o else H b
theorem sD:tv H a o a=some o:=by unfold tv;rw[if_pos rfl]
theorem sB(h:b≠a):tv H a o b=H b:=by unfold tv;rw[if_neg h]
theorem Ks{H:Hp}{a b:Addr}{o u:HO}(h:H a=some o)(h':H b=some u)(d:o≠u):a≠b:=by
 intro e;subst e;rw[h] at h';exact d (Option.some.inj h')
theorem sI{H:Hp}{o:HO}(h:H a=some o)(h':H b=none):a≠b:=by
 intro e;subst e;rw[h] at h';cases h'
section
variable(P:Program)(w:World)
def ObjOk(H:Hp)(h:Heap)(a:Addr):HO->Prop
 | .lst xs=>xs.length<=sizeLine/\∃(its:List Value) (n:Nat),Vals xs its/\h.get? a=some { cls:=.type "list",data:=.seq its.toArray n }
 | .tup xs=>xs.length<=sizeLine/\∃ its:List Value,Vals xs its/\IsTup h a its.toArray
 | .dK kvs=>kvs.length<=sizeLine/\(a == sysModules)=false/\∃ vs,KV kvs vs/\h.DictOf (vt P w) a vs
 | .dT kvs=>kvs.length<=sizeLine/\(a == sysModules)=false/\∃ xs:List (List wp×Addr×Value),
   Paired (λ(p:List wp×V) (q:List wp×Addr×Value)=>p.1=q.1/\H q.2.1=some (.tup (p.1.map kV))/\RelV p.2 q.2.2) kvs xs /\
   ∃ o es ep,h.get? a=some o/\o.ExactDict/\o.data = .dict es ep/\es.toList=xs.map (entryOfKey (tupleKind (vt P w)))/\(xs.map (·.1)).Nodup
 | .set S n=>h.SetOf (intKind P w) a S n
 | .ins C dx fs=>H dx=some (.own a)/\fs.length<=1000/\dx≠a/\h.get? a=some (PySem.W.instObj C dx) /\
   ∃ mA,h.Ns1 dx mA/\(∀ f,Jv (fs.lookup f) (mA f))/\PySem.Within mA (fs.map (·.1))
 | .own _=>∃ o,h.get? a=some o
 | .xd fs=>∃ mA,h.Ns1 a mA/\∀ f,Jv (fs.lookup f) (mA f)
 | .rng lo hi=>∃ t u v,h.get? a=some { cls:=.type "range",data:=.fields #[.int lo t,.int hi u,.int 1 v] }
 | .frz o u=>h.get? a=some o/\ObjOk H h a u
 | .tbl ps=>h.get? a=some { cls:=.none,data:=.fields ps }
 | .met f x=>h.get? a=some (PySem.W.methodObj (.ref f) (.ref x))
 | .ext φ=>φ h/\(∃ o,h.get? a=some o)/\∀ h1 h2:Heap,φ h1->(∀ o,h1.get? a=some o->h2.get? a=some o)->φ h2
def HOk(H:Hp)(h:Heap):Prop:=∀ a o,H a=some o->ObjOk P w H h a o
end
section
variable{P:Program}{w:World}{H H':Hp}{h h':Heap}{a:Addr}{o:HO}
theorem ObjOk.lt(x:ObjOk P w H h a o):a<h.objs.size:=by
 cases o with
 | lst xs=>obtain⟨_,_,_,_,e⟩:=x;exact ηL e
 | tup xs=>obtain⟨_,_,_,p⟩:=x;exact p.lt
 | dK kvs=>obtain⟨_,_,_,_,o,_,_,e,_⟩:=x;exact ηL e
 | dT kvs=>obtain⟨_,_,_,_,o,_,_,e,_⟩:=x;exact ηL e
 | set S n=>obtain⟨o,_,_,_,e,_⟩:=x;exact ηL e
 | ins C dx fs=>obtain⟨_,_,_,e,_⟩:=x;exact ηL e
 | own y=>obtain⟨_,e⟩:=x;exact ηL e
 | xd fs=>obtain⟨_,⟨_,_,_,e,_⟩,_⟩:=x;exact ηL e
 | rng lo hi=>obtain⟨_,_,_,e⟩:=x;exact ηL e
 | frz ob u=>obtain⟨e,_⟩:=x;exact ηL e
 | tbl ps=>exact ηL (show h.get? a=some _ from x)
 | met f y=>exact ηL (show h.get? a=some _ from x)
 | ext φ=>obtain⟨_,⟨_,e⟩,_⟩:=x;exact ηL e
theorem Paired.mapP{α β:Type}{F G:α->β->Prop}:∀{l₁:List α} {l₂:List β},Paired F l₁ l₂->(∀ a b,F a b->G a b)->Paired G l₁ l₂
 | _,_,.nil,_=>.nil
 | _,_,.cons r t,f=>.cons (f _ _ r) (Paired.mapP t f)
theorem ObjOk.stay(x:ObjOk P w H h a o)(k:∀ b u,(b=a\/H b=some (.own a))->h.get? b=some u->h'.get? b=some u)
  (ho:∀ b,H b=some (.own a)->H' b=some (.own a)) (ht:∀ b xs,H b=some (.tup xs)->H' b=some (.tup xs)):ObjOk P w H' h' a o:=by
 induction o with
 | lst xs=>obtain⟨z,its,n,r,e⟩:=x;exact⟨z,its,n,r,k _ _ (.inl rfl) e⟩
 | tup xs=>obtain⟨z,its,r,ob,e,c⟩:=x;exact⟨z,its,r,ob,k _ _ (.inl rfl) e,c⟩
 | dK kvs=>obtain⟨z,y,vs,r,ob,es,ep,e,c⟩:=x;exact⟨z,y,vs,r,ob,es,ep,k _ _ (.inl rfl) e,c⟩
 | dT kvs =>
  obtain⟨z,y,xs,r,ob,es,ep,e,c⟩:=x;exact⟨z,y,xs,Paired.mapP r λp q z=>⟨z.1,ht _ _ z.2.1,z.2.2⟩,ob,es,ep,k _ _ (.inl rfl) e,c⟩
 | set S n=>obtain⟨ob,es,ep,t,e,c⟩:=x;exact⟨ob,es,ep,t,k _ _ (.inl rfl) e,c⟩
 | ins C dx fs =>
  obtain⟨d,z,ne,e,mA,⟨od,es,ep,e2,c⟩,r⟩:=x;exact⟨ho _ d,z,ne,k _ _ (.inl rfl) e,mA,⟨od,es,ep,k _ _ (.inr d) e2,c⟩,r⟩
 | own y=>obtain⟨ob,e⟩:=x;exact⟨ob,k _ _ (.inl rfl) e⟩
 | xd fs=>obtain⟨mA,⟨od,es,ep,e,c⟩,r⟩:=x;exact⟨mA,⟨od,es,ep,k _ _ (.inl rfl) e,c⟩,r⟩
 | rng lo hi=>obtain⟨t,u,v,e⟩:=x;exact⟨t,u,v,k _ _ (.inl rfl) e⟩
 | frz ob u ih=>obtain⟨e,q⟩:=x;exact⟨k _ _ (.inl rfl) e,ih q⟩
 | tbl ps =>
  have e:h.get? a=some { cls:=.none,data:=.fields ps }:=x;show h'.get? a=some { cls:=.none,data:=.fields ps };exact k a _ (.inl rfl) e
 | met f y =>
  have e:h.get? a=some (PySem.W.methodObj (.ref f) (.ref y)):=x;show h'.get? a=some (PySem.W.methodObj (.ref f) (.ref y));exact k a _ (.inl rfl) e
 | ext φ=>obtain⟨p,⟨o,e⟩,st⟩:=x;exact⟨st _ _ p λo q=>k _ _ (.inl rfl) q,⟨o,k _ _ (.inl rfl) e⟩,st⟩
theorem HOk.lt(x:HOk P w H h)(e:H a=some o):a<h.objs.size:=(x a o e).lt
theorem HOk.fresh(x:HOk P w H h)(e:h.objs.size<=a):H a=none:=by
 cases q:H a with
 | none=>rfl
 | some u=>exact absurd (aF (x.lt q) e) (bB _)
theorem HOk.kept(x:HOk P w H h)(k:∀ b u,h.get? b=some u->h'.get? b=some u):HOk P w H h':=λa o e =>
 (x a o e).stay (λb u _ q=>k b u q) (λ_ q=>q) λ_ _ q=>q
theorem HOk.laid(x:HOk P w H h)(k:∀ b u,h.get? b=some u->h'.get? b=some u)(hp:h.objs.size<=a)(new:ObjOk P w (tv H a o) h' a o):HOk P w (tv H a o) h':=λb u e=>by
 have hn:=x.fresh hp;by_cases hb:b=a
 ·subst hb;rw[sD] at e;cases e;exact new
 ·rw[sB hb] at e;exact (x b u e).stay (λc v _ q=>k c v q) (λc q=>by rw[sB (sI q hn)];exact q) λc xs q=>by rw[sB (sI q hn)];exact q
end
def Rd(H:Hp)(a:Addr)(u:HO):Prop:=H a=some u\/∃ o,H a=some (.frz o u)
theorem Rd.ok(r:Rd H a u)(x:HOk P w H h):ObjOk P w H h a u:=by
 rcases r with r|⟨o,r⟩
 ·exact x a u r
 ·obtain⟨_,q⟩:=x a _ r;exact q
def Lk:Option HO->Prop
 | some (.lst _)=>True
 | some (.dK _)=>True
 | some (.dT _)=>True
 | some (.set _ _)=>True
 | some (.ins _ _ _)=>True
 | some (.ext _)=>True
 | _=>False
section
variable{P:Program}{w:World}{H:Hp}{h h':Heap}{x e:Addr}{o':HO}
theorem HOk.write(ok:HOk P w H h)(mu:Lk (H x))(he:e=x\/H e=some (.own x))(k:∀ b u,b≠e->h.get? b=some u->h'.get? b=some u)(heo:∃ u,h'.get? e=some u)
  (new:ObjOk P w (tv H x o') h' x o'):HOk P w (tv H x o') h':=λb u q=>by
 have nown:∀ c y,H c=some (.own y)->c≠x:=λc y r z=>by subst z;rw[r] at mu;exact mu
 have ntup:∀ c xs,H c=some (.tup xs)->c≠x:=λc xs r z=>by subst z;rw[r] at mu;exact mu
 by_cases hb:b=x
 ·subst hb;rw[sD] at q;cases q;exact new
 ·rw[sB hb] at q;by_cases hbe:b=e
  ·have q':H b=some (.own x):=by
    rcases he with z|z
    ·exact absurd (hbe.trans z) hb
    ·rw[hbe];exact z
   rw[q] at q';cases q';obtain⟨v,hv⟩:=heo;exact⟨v,by rw[hbe];exact hv⟩
  ·refine (ok b u q).stay (λc v hc r=>k c v ?_ r) (λc r=>by rw[sB (nown c b r)];exact r) λc xs r=>by rw[sB (ntup c xs r)];exact r
   rcases hc with rfl|hc
   ·exact hbe
   ·rintro rfl;rcases he with z|z
    ·exact nown c b hc z
    ·rw[hc] at z;cases z;exact hb rfl
end
structure Un (fs ex:List Addr)(H H':Hp)(h h':Heap):Prop where
 keep:∀ b o,h.get? b=some o->H b=none->b ∉ fs->b ∉ ex->h'.get? b=some o
 slot:∀ b o,h.get? b=some o->H b=none->b∈fs->b ∉ ex->∃ sl,h'.get? b=some { o with slots:=sl }
 free:∀ b o,h.get? b=some o->H b=none->b ∉ ex->H' b=none
 there:∀ b o,h.get? b=some o->b ∉ ex->∃ o',h'.get? b=some o'
 tups:∀ b xs,H b=some (.tup xs)->H' b=some (.tup xs)
 frzs:∀ b o u,H b=some (.frz o u)->H' b=some (.frz o u)
 tbls:∀ b ps,H b=some (.tbl ps)->∃ more,H' b=some (.tbl (ps++more))
section
variable{fs fs' ex ex':List Addr}{H H1 H2:Hp}{h h1 h2 h':Heap}{a x e:Addr}{o:HO}
theorem Un.any(u:Un fs ex H H1 h h1)(q:h.get? b=some ob)(n:H b=none)(hx:b ∉ ex):∃ sl,h1.get? b=some { ob with slots:=sl }:=by
 by_cases hb:b∈fs
 ·exact u.slot b ob q n hb hx
 ·exact⟨ob.slots,u.keep b ob q n hb hx⟩
theorem Un.kept(k:∀ b u,h.get? b=some u->h'.get? b=some u):Un fs ex H H h h' :=
 ⟨λb ob q _ _ _=>k b ob q,λb ob q _ _ _=>⟨ob.slots,k b ob q⟩,λ_ _ _ n _=>n,λb ob q _=>⟨ob,k b ob q⟩,λ_ _ q=>q,λ_ _ _ q=>q,λ_ ps q=>⟨#[],by rw[q];simp⟩⟩
theorem Un.refl:Un fs ex H H h h:=Un.kept λ_ _ q=>q
theorem Un.laid(k:∀ b u,h.get? b=some u->h'.get? b=some u)(hp:h.objs.size<=a)(hn:H a=none):Un fs ex H (tv H a o) h h' where
 keep:=λb u q _ _ _=>k b u q
 slot:=λb u q _ _ _=>⟨u.slots,k b u q⟩
 free:=λb u q n _=>by rw[sB (aY (aF (ηL q) hp))];exact n
 there:=λb u q _=>⟨u,k b u q⟩
 tups:=λb xs q=>by rw[sB (sI q hn)];exact q
 frzs:=λb u xs q=>by rw[sB (sI q hn)];exact q
 tbls:=λb ps q=>⟨#[],by rw[sB (sI q hn),q];simp⟩
theorem Un.write(mu:Lk (H x))(he:e=x\/H e=some (.own x))(k:∀ b u,b≠e->h.get? b=some u->h'.get? b=some u)(heo:∃ u,h'.get? e=some u):Un fs ex H (tv H x o) h h':=by
 have hx:∀ b,H b=none->b≠x:=λb n z=>by subst z;rw[n] at mu;exact mu
 have hb:∀ b,H b=none->b≠e:=λb n z=>by
  subst z;rcases he with r|r
  ·exact hx b n r
  ·rw[n] at r;cases r
 have hm:∀ b u,H b=some u->¬ Lk (some u)->b≠x:=λb u q nm z=>by subst z;rw[q] at mu;exact nm mu
 refine⟨λb u q n _ _=>k b u (hb b n) q,λb u q n _ _=>⟨u.slots,k b u (hb b n) q⟩,λb u q n _=>by rw[sB (hx b n)];exact n,λb u q _=>?_,
  λb xs q=>by rw[sB (hm b _ q λz=>z)];exact q,λb u xs q=>by rw[sB (hm b _ q λz=>z)];exact q,λb ps q=>⟨#[],by rw[sB (hm b _ q λz=>z),q];simp⟩⟩
 by_cases hbe:b=e
 ·subst hbe;exact heo
 ·exact⟨u,k b u hbe q⟩
end
def K9(h:Heap)(H:Hp):List Addr:=(List.range h.objs.size).filter λa=>(H a).isSome
def xq(h:Heap)(H:Hp):Heap:=PySem.W.hideAll h (K9 h H)
theorem CB(h:Heap)(H:Hp):(xq h H).objs.size=h.objs.size:=PySem.W.hideAll_size _ _
theorem Eb(e:h.get? b=some o)(n:H b=none):(xq h H).get? b=some o :=
 PySem.W.hideAll_get _ e λhm=>by
  have q:(H b).isSome=true:=(ce.mp hm).2;rw[n] at q;simp at q
theorem FQ(e:(xq h H).get? b=some o):h.get? b=some o/\H b=none:=by
 have e':h.get? b=some o:=PySem.W.of_hideAll (K9 h H) e;refine⟨e',?_⟩;cases q:H b with
 | none=>rfl
 | some x =>
  have hm:b∈K9 h H:=ce.mpr ⟨List.mem_range.mpr (ηL e'),by simp[q]⟩;have z:(xq h H).get? b=none:=PySem.W.hideAll_none (K9 h H) hm;rw[z] at e;cases e
structure Mod (K:Frag)(mg:Str->Option Value)(base:Heap):Prop where
 kin:K.In base
 glob:base.Ns mainGlobals mg
 blt:∃ mb,base.Ns builtinsNs mb/\∀ x:Str,x ≠ "__name__" -> mb x=bootBuiltins x
 nolimit:base.NoLimit
set_option genInjectivity false in
structure Cx where
 prog:Program
 w:World
 K:Frag
 mg:Str->Option Value
 base:Heap
 A:Around
 N:List Str
 s₀:Shared
 H₀:Hp
 env:Env
 outer:List Env
 stack:List Env
 ex:List Addr
 fn:Str->Bool
 calm:Bool
 pn:List (Addr×Obj)
 xe:Value->Shared->Prop
def BE(l:List Env):List Addr:=l.filterMap (·.frame)
abbrev Cx.fs(X:Cx):List Addr:=BE X.outer
def Hm(sc:Scope)(x:Str):Prop:=sc.names.lookup x=some .local\/sc.names.lookup x=some .cell\/sc.names.lookup x=some .free
def CS(sc:Scope)(x:Str):Prop:=sc.names.lookup x=some .local\/sc.names.lookup x=some .cell
def Mz(env:Env)(h:Heap)(m:Str->Option Value)(x:Str)(u:Value):Prop :=
 (env.kindOf x=some .local/\m x=some u)\/((env.kindOf x=some .cell\/env.kindOf x=some .free)/\∃ c,env.cells.lookup x=some c/\h.IsCell c (some u))
structure Cx.Ok (X:Cx):Prop where
 mod:Mod X.K X.mg X.base
 kind:X.env.scope.kind = .function
 glob:X.env.globals=mainGlobals
 blt:X.env.builtins=builtinsNs
 above:X.s₀.heap.objs.size<=X.env.locals
 inj:∀ x y c,X.env.cells.lookup x=some c->X.env.cells.lookup y=some c->x=y
 has:∀ x,(X.env.kindOf x=some .cell\/X.env.kindOf x=some .free)->∃ c,X.env.cells.lookup x=some c
 cab:∀ x c,X.fn x=true->X.env.cells.lookup x=some c->X.s₀.heap.objs.size<=c
 hd:X.calm=true->X.A.handled=none
 frames:X.A.frames=some X.stack
 stk:X.stack=X.outer\/(X.stack=X.env::X.outer/\X.env.frame=some X.env.locals)
 exf:∀ b∈X.ex,b≠X.env.locals/\∀ x c,X.env.cells.lookup x=some c->c≠b
 bs:∀ b o,X.base.get? b=some o->X.s₀.heap.get? b=some o/\X.H₀ b=none
 bsz:X.base.objs.size<=X.s₀.heap.objs.size
 noex:∀ b o,X.base.get? b=some o->b ∉ X.ex
 exfs:∀ b∈X.ex,b ∉ X.fs
 funs:X.s₀.heap.FunFrames X.base X.outer
 frf:∀ b∈X.fs,X.H₀ b=none
 sr:X.base.NoSeer/\X.prog.given.tree=none
 rn:∃ e l,X.stack=e::l/\e.scope.isGenerator=false/\e.scope.isCoroutine=false/\e.builtins=builtinsNs/\e.globals=mainGlobals
structure Inv (X:Cx)(pins:List (Addr×Obj))(σ:List (Option V))(H:Hp)(s:Shared):Prop where
 ok:X.Ok
 os:s.os=X.s₀.os
 bare:AllBare s.gens
 base:Un X.fs X.ex X.H₀ H X.s₀.heap s.heap
 loc:∃ m,s.heap.Ns X.env.locals m/\∀(i:Nat) (x:Str) (v:V),X.N[i]? = some x->σ[i]? = some (some v)->Hm X.env.scope x->∃ u,RelV v u/\Mz X.env s.heap m x u
 cell:∀ x c,X.env.cells.lookup x=some c->∃ v,s.heap.IsCell c v
 free:H X.env.locals=none
 freeC:∀ x c,X.env.cells.lookup x=some c->H c=none
 pin:∀ p∈X.pn++pins,s.heap.get? p.1=some p.2/\H p.1=none/\p.1≠X.env.locals/\p.1 ∉ X.fs/\∀ v,p.2.data ≠ .cell v
 hok:HOk X.prog X.w H s.heap
 len:σ.length=X.N.length
section
variable{X:Cx}{pins:List (Addr×Obj)}{σ:List (Option V)}{H H':Hp}{s:Shared}{h':Heap}
theorem Cx.Ok.nofr(ok:X.Ok)(e:X.base.get? b=some o):b ∉ X.fs:=λhb=>by
 have:=(ok.funs.mem hb).1;rw[e] at this;cases this
theorem Inv.bs(I:Inv X pins σ H s):∀ b o,X.base.get? b=some o->s.heap.get? b=some o/\H b=none:=λb o e =>
 ⟨I.base.keep b o (I.ok.bs b o e).1 (I.ok.bs b o e).2 (I.ok.nofr e) (I.ok.noex b o e),I.base.free b o (I.ok.bs b o e).1 (I.ok.bs b o e).2 (I.ok.noex b o e)⟩
theorem Inv.bk(I:Inv X pins σ H s):∀ b o,X.base.get? b=some o->s.heap.get? b=some o:=λb o e=>(I.bs b o e).1
theorem Inv.mod(I:Inv X pins σ H s):Mod X.K X.mg X.base:=I.ok.mod
theorem Inv.kIn(I:Inv X pins σ H s):X.K.In s.heap:=I.ok.mod.kin.keeps I.bk
theorem Inv.nolimit(I:Inv X pins σ H s):s.heap.NoLimit:=I.ok.mod.nolimit.keeps I.bk
theorem Inv.lt(I:Inv X pins σ H s):X.env.locals<s.heap.objs.size:=let ⟨_,hn,_⟩:=I.loc;hn.lt
theorem Inv.sz(I:Inv X pins σ H s):X.s₀.heap.objs.size<=s.heap.objs.size:=aE I.ok.above (eK I.lt)
theorem Inv.nofs(I:Inv X pins σ H s)(h:s.heap.objs.size<=a):a ∉ X.fs:=λhb=>by
 obtain⟨_,o,ho,_⟩:=I.ok.funs.mem hb;exact absurd (aF (ηL ho) (aE I.sz h)) (bB _)
theorem Inv.cne(I:Inv X pins σ H s):∀ x c,X.env.cells.lookup x=some c->c≠X.env.locals:=λx c e z=>by
 obtain⟨v,o,ho,hd⟩:=I.cell x c e;obtain⟨m,⟨o',es,ep,ho',hd',_⟩,_⟩:=I.loc;rw[z,ho'] at ho;cases ho;rw[hd'] at hd;cases hd
theorem Inv.funs(I:Inv X pins σ H s):s.heap.FunFrames X.base X.outer:=by
 have all:∀(l:List Env),(∀ b∈BE l,b∈X.fs)->X.s₀.heap.FunFrames X.base l->s.heap.FunFrames X.base l:=by
  intro l;induction l with
  | nil=>intro _ _;trivial
  | cons env r ih =>
   intro hs hl;obtain⟨hk,⟨L,o,hf,hn,ho,hd⟩,hr⟩:=hl;have hL:L∈X.fs:=hs L (by unfold BE;rw[cZ,hf];exact aG);obtain⟨sl,e⟩:=I.base.slot L o ho (I.ok.frf L hL) hL λz=>I.ok.exfs L z hL;exact⟨hk,⟨L,_,hf,hn,e,hd⟩,ih (λb hb=>hs b (by unfold BE;rw[cZ,hf];exact aC _ hb)) hr⟩
 exact all X.outer (λ_ hb=>hb) I.ok.funs
theorem Inv.stack(I:Inv X pins σ H s):s.heap.FunFrames X.base X.stack:=by
 rcases I.ok.stk with e|⟨e,hf⟩
 ·rw[e];exact I.funs
 ·rw[e];obtain⟨m,hn,_⟩:=I.loc;refine .cons (by rw[I.ok.kind];decide) hf hn ?_ I.funs;exact Heap.get?_none_of_le (aE I.ok.bsz I.ok.above)
theorem Inv.stkSub(I:Inv X pins σ H s):∀ b∈BE X.stack,b∈X.env.locals::X.fs:=λb hb=>by
 rcases I.ok.stk with e|⟨e,hf⟩
 ·rw[e] at hb;exact aC _ hb
 ·rw[e] at hb;unfold BE at hb;rw[cZ,hf] at hb;exact hb
theorem Inv.stkFree(I:Inv X pins σ H s):∀ b∈BE X.stack,H b=none:=λb hb=>by
 rcases au.mp (I.stkSub b hb) with e|hb
 ·rw[e];exact I.free
 ·obtain⟨_,o,ho,_⟩:=I.ok.funs.mem hb;exact I.base.free b o ho (I.ok.frf b hb) λz=>I.ok.exfs b z hb
theorem Inv.step{t':Nat}{d':Drawn}{ch:List Addr}(I:Inv X pins σ H s)
  (hch:∀ b∈ch,(b∈X.ex\/X.s₀.heap.objs.size<=b)/\b≠X.env.locals/\(∀ x c,X.env.cells.lookup x=some c->c≠b)/\∀ p∈X.pn++pins,p.1≠b)
  (keep:∀ b o,b≠X.env.locals->b ∉ X.fs->b ∉ ch->s.heap.get? b=some o->H b=none->h'.get? b=some o)
  (slot:∀ b o,b≠X.env.locals->b∈X.fs->b ∉ ch->s.heap.get? b=some o->H b=none->∃ sl,h'.get? b=some { o with slots:=sl }) (free:∀ b o,b ∉ ch->s.heap.get? b=some o->H b=none->H' b=none)
  (there:∀ b o,b ∉ ch->s.heap.get? b=some o->∃ o',h'.get? b=some o')
  (tups:∀ b xs,H b=some (.tup xs)->H' b=some (.tup xs)) (frzs:∀ b o u,H b=some (.frz o u)->H' b=some (.frz o u)) (tbls:∀ b ps,H b=some (.tbl ps)->∃ more,H' b=some (.tbl (ps++more)))
  (ns:∀ m,s.heap.Ns X.env.locals m->h'.Ns X.env.locals m) (hok:HOk X.prog X.w H' h') (hg:AllBare g') :
  Inv X pins σ H' { s with heap:=h',gens:=g',drawn:=d',toks:=t' }:=by
 have neL:∀ b o,X.s₀.heap.get? b=some o->b≠X.env.locals:=λb o e=>aY (aF (ηL e) I.ok.above);have neC:∀ b o,X.s₀.heap.get? b=some o->b ∉ X.ex->b ∉ ch:=λb o e hx hb=>by
  rcases (hch b hb).1 with z|z
  ·exact hx z
  ·exact absurd (aF (ηL e) z) (bB _)
 have cellK:∀ x c,X.env.cells.lookup x=some c->∀ v,s.heap.IsCell c v->h'.IsCell c v:=λx c e v ⟨o,ho,hd⟩=>by
  have nch:c ∉ ch:=λz=>(hch c z).2.2.1 x c e rfl;by_cases hc:c∈X.fs
  ·obtain⟨sl,q⟩:=slot c o (I.cne x c e) hc nch ho (I.freeC x c e);exact⟨_,q,hd⟩
  ·exact⟨o,keep c o (I.cne x c e) hc nch ho (I.freeC x c e),hd⟩
 refine⟨I.ok,I.os,hg,⟨λb o e n hb hx=>?_,λb o e n hb hx=>?_,λb o e n hx=>?_,λb o e hx=>?_,λb xs e=>tups b xs (I.base.tups b xs e),λb o xs e=>frzs b o xs (I.base.frzs b o xs e),λb ps e=>?_⟩,?_,λx c e=>?_,?_,λx c e=>?_,λp hp=>?_,hok,I.len⟩
 ·exact keep b o (neL b o e) hb (neC b o e hx) (I.base.keep b o e n hb hx) (I.base.free b o e n hx)
 ·obtain⟨sl,e1⟩:=I.base.slot b o e n hb hx;obtain⟨sl',e2⟩:=slot b _ (neL b o e) hb (neC b o e hx) e1 (I.base.free b o e n hx);exact⟨sl',e2⟩
 ·obtain⟨o',e1⟩:=I.base.there b o e hx;exact free b o' (neC b o e hx) e1 (I.base.free b o e n hx)
 ·obtain⟨o',e1⟩:=I.base.there b o e hx;exact there b o' (neC b o e hx) e1
 ·obtain⟨m1,e1⟩:=I.base.tbls b ps e;obtain⟨m2,e2⟩:=tbls b _ e1;exact⟨m1++m2,by rw[e2,Array.append_assoc]⟩
 ·obtain⟨m,hn,hl⟩:=I.loc;refine⟨m,ns m hn,λi x v e1 e2 e3=>?_⟩;obtain⟨u,r,l⟩:=hl i x v e1 e2 e3;refine⟨u,r,?_⟩;rcases l with l|⟨k,c,e,z⟩
  ·exact .inl l
  ·exact .inr ⟨k,c,e,cellK x c e _ z⟩
 ·obtain⟨v,z⟩:=I.cell x c e;exact⟨v,cellK x c e v z⟩
 ·obtain⟨m,⟨o,_,_,ho,_⟩,_⟩:=I.loc;exact free _ o (λz=>(hch _ z).2.1 rfl) ho I.free
 ·obtain⟨v,o,ho,hd⟩:=I.cell x c e;exact free c o (λz=>(hch c z).2.2.1 x c e rfl) ho (I.freeC x c e)
 ·obtain⟨e,n,ne,nf,d⟩:=I.pin p hp;have nch:p.1 ∉ ch:=λz=>(hch p.1 z).2.2.2 p hp rfl;exact⟨keep p.1 p.2 ne nf nch e n,free p.1 p.2 nch e n,ne,nf,d⟩
theorem Inv.un(I:Inv X pins σ H s)(u:Un X.fs [] H H' s.heap h')(hok:HOk X.prog X.w H' h'):Inv X pins σ H' { s with heap:=h',toks:=t' }:=by
 obtain⟨m,⟨o,es,ep,ho,r⟩,_⟩:=id I.loc;obtain⟨sl,hL⟩:=u.any ho I.free (by simp);exact I.step (g':=s.gens) (d':=s.drawn) (ch:=[]) (λ_ z=>nomatch z) (λb o _ hb _ e n=>u.keep b o e n hb (by simp)) (λb o _ hb _ e n=>u.slot b o e n hb (by simp)) (λb o _ e n=>u.free b o e n (by simp)) (λb o _ e=>u.there b o e (by simp)) u.tups u.frzs u.tbls (λm' hm=>by
  obtain⟨o',es',ep',ho',r'⟩:=hm;rw[ho] at ho';cases ho';exact⟨_,es',ep',hL,r'⟩) hok I.bare
theorem Inv.call{t':Nat}{d':Drawn}{ch:List Addr}(I:Inv X pins σ H s)(u:Un (BE X.stack) ch H H' s.heap h')(hok:HOk X.prog X.w H' h')(hg:AllBare g')
  (hch:∀ b∈ch,(b∈X.ex\/X.s₀.heap.objs.size<=b)/\b≠X.env.locals/\(∀ x c,X.env.cells.lookup x=some c->c≠b)/\∀ p∈X.pn++pins,p.1≠b) :
  Inv X pins σ H' { s with heap:=h',gens:=g',drawn:=d',toks:=t' }:=by
 obtain⟨m,⟨o,es,ep,ho,r⟩,_⟩:=id I.loc;obtain⟨sl,hL⟩:=u.any ho I.free λz=>(hch _ z).2.1 rfl;exact I.step (ch:=ch) hch (λb o hL hb hc e n=>u.keep b o e n (λz=>(au.mp (I.stkSub b z)).elim hL hb) hc) (λb o _ _ hc e n=>u.any e n hc) (λb o hc e n=>u.free b o e n hc) (λb o hc e=>u.there b o e hc) u.tups u.frzs u.tbls (λm' hm=>by
  obtain⟨o',es',ep',ho',r'⟩:=hm;rw[ho] at ho';cases ho';exact⟨_,es',ep',hL,r'⟩) hok hg
theorem Inv.turned{t':Nat}(I:Inv X pins σ H s)(k:∀ b o,b≠it->s.heap.get? b=some o->h'.get? b=some o)(hn:H it=none)(hL:it≠X.env.locals)
  (h1:it∈X.ex\/X.s₀.heap.objs.size<=it) (h2:∀ x c,X.env.cells.lookup x=some c->c≠it) (h3:∀ p∈X.pn++pins,p.1≠it):Inv X pins σ H { s with heap:=h',toks:=t' }:=by
 have nit:∀ b u,H b=some u->b≠it:=λb u e z=>by rw[z,hn] at e;cases e
 refine I.step (g':=s.gens) (d':=s.drawn) (ch:=[it]) (λb hb=>?_) (λb o _ _ hc e _=>k b o (λz=>hc (by simp[z])) e) (λb o _ _ hc e _=>⟨o.slots,k b o (λz=>hc (by simp[z])) e⟩) (λ_ _ _ _ n=>n)
  (λb o hc e=>⟨o,k b o (λz=>hc (by simp[z])) e⟩) (λ_ _ e=>e) (λ_ _ _ e=>e) (λb ps e=>⟨#[],by rw[e];simp⟩) (λm hm=>?_) (λb u e=>?_) I.bare
 ·have e:b=it:=by simpa using hb
  subst e;exact⟨h1,hL,h2,h3⟩
 ·obtain⟨o,es,ep,ho,r⟩:=hm;exact⟨o,es,ep,k _ o (Ne.symm hL) ho,r⟩
 ·refine (I.hok b u e).stay (λc v hc q=>k c v ?_ q) (λ_ q=>q) λ_ _ q=>q;rcases hc with z|z
  ·rw[z];exact nit b u e
  ·exact nit c _ z
theorem Inv.tok(I:Inv X pins σ H s)(t:Nat):Inv X pins σ H { s with toks:=t }:=I.un (h':=s.heap) (t':=t) Un.refl I.hok
theorem Inv.kept(I:Inv X pins σ H s)(k:∀ b u,s.heap.get? b=some u->h'.get? b=some u):Inv X pins σ H { s with heap:=h',toks:=t' }:=I.un (Un.kept k) (I.hok.kept k)
theorem Inv.laid(I:Inv X pins σ H s)(k:∀ b u,s.heap.get? b=some u->h'.get? b=some u)(hp:s.heap.objs.size<=a)(new:ObjOk X.prog X.w (tv H a o) h' a o) :
  Inv X pins σ (tv H a o) { s with heap:=h',toks:=t' }:=I.un (Un.laid k hp (I.hok.fresh hp)) (I.hok.laid k hp new)
theorem Inv.write(I:Inv X pins σ H s)(mu:Lk (H x))(he:e=x\/H e=some (.own x))(k:∀ b u,b≠e->s.heap.get? b=some u->h'.get? b=some u)(heo:∃ u,h'.get? e=some u)
  (new:ObjOk X.prog X.w (tv H x o) h' x o):Inv X pins σ (tv H x o) { s with heap:=h',toks:=t' }:=I.un (Un.write mu he k heo) (I.hok.write mu he k heo new)
theorem Inv.pins_of(I:Inv X pins σ H s)(h:∀ p∈pins',s.heap.get? p.1=some p.2/\H p.1=none/\p.1≠X.env.locals/\p.1 ∉ X.fs/\∀ v,p.2.data ≠ .cell v):Inv X pins' σ H s :=
 ⟨I.ok,I.os,I.bare,I.base,I.loc,I.cell,I.free,I.freeC,λp hp=>(bD.mp hp).elim (λz=>I.pin p (gM _ z)) (h p),I.hok,I.len⟩
theorem yY{N:List Str}(hN:N.Nodup){i j:Nat}{x:Str}(a:N[i]? = some x)(b:N[j]? = some x):i=j:=by
 obtain⟨h1,e1⟩:=ak.mp a;obtain⟨h2,e2⟩:=ak.mp b;exact (List.getElem_inj hN).mp (e1.trans e2.symm)
theorem xz{M:Model}{A:Around}{E:Value->Shared->Prop}{i:Nat}{x:Str}{v:V}{u:Value}{Q:Unit->Shared->Prop}(I:Inv X pins σ H s)(hN:X.N.Nodup)(hi:X.N[i]? = some x)(hx:CS X.env.scope x)(r:RelV v u)
  (h:∀ s',Inv X pins (σ.set i (some v)) H s'->(∃ a,Heap.SameBut a s.heap s'.heap/\(a=X.env.locals\/X.env.cells.lookup x=some a))->Q .unit s') (hf:X.fn x=true\/X.env.scope.names.lookup x=some .local:=by first|exact .inl rfl|exact .inr rfl|assumption):wpAny M A (storeName X.env x u) Q E s:=by
 obtain⟨m,hn,hl⟩:=id I.loc;have hcls:(X.env.scope.kind == .class || (X.env.scope.kind == .module && X.env.locals != X.env.globals))=false:=by rw[I.ok.kind];rfl
 have hiσ:i<σ.length:=by rw[I.len];exact (ak.mp hi).1
 have cne:=I.cne;have tracked:∀{a:Addr} {h':Heap},(∃ o,s.heap.get? a=some o/\H a=none)->Heap.SameBut a s.heap h'->HOk X.prog X.w H h':=λ{a h'} ha hs b ob e=>by
  obtain⟨_,_,hfree⟩:=ha;refine (I.hok b ob e).stay (λc w' hc q=>(hs.2 c ?_).trans q) (λ_ q=>q) λ_ _ q=>q;rintro rfl;rcases hc with rfl|hc
  ·rw[hfree] at e;cases e
  ·rw[hfree] at hc;cases hc
 rcases hx with hk|hk
 ·refine wpAny_storeName_local hk hn (λh' hn' hs=>?_) hcls;obtain⟨oL,_,_,hoL,_⟩:=id hn;refine h _ ⟨I.ok,I.os,I.bare,⟨λb o e n hb hx=>?_,λb o e n hb hx=>?_,I.base.free,λb o e hx=>?_,I.base.tups,I.base.frzs,I.base.tbls⟩,⟨_,hn',λj y v' e1 e2 e3=>?_⟩,λy c e=>?_,I.free,I.freeC,λp hp=>?_,tracked ⟨oL,hoL,I.free⟩ hs,by simpa using I.len⟩ ⟨_,hs,.inl rfl⟩
  ·exact (hs.2 b (aY (aF (ηL e) I.ok.above))).trans (I.base.keep b o e n hb hx)
  ·obtain⟨sl,e1⟩:=I.base.slot b o e n hb hx;exact⟨sl,(hs.2 b (aY (aF (ηL e) I.ok.above))).trans e1⟩
  ·obtain⟨o',e1⟩:=I.base.there b o e hx;exact⟨o',(hs.2 b (aY (aF (ηL e) I.ok.above))).trans e1⟩
  ·by_cases hj:j=i
   ·subst hj;rw[hi] at e1;cases e1;rw[eI hiσ] at e2;cases e2;exact⟨u,r,.inl ⟨hk,by simp⟩⟩
   ·rw[aK (Ne.symm hj)] at e2;obtain⟨u',r',q⟩:=hl j y v' e1 e2 e3;refine⟨u',r',?_⟩;rcases q with⟨k,e⟩|⟨k,c,e,z⟩
    ·refine .inl ⟨k,?_⟩;have:y≠x:=λe=>hj (yY hN e1 (e ▸ hi));simp[this,e]
    ·exact .inr ⟨k,c,e,z.sameBut hs (cne y c e)⟩
  ·obtain⟨w',z⟩:=I.cell y c e;exact⟨w',z.sameBut hs (cne y c e)⟩
  ·obtain⟨e,n,ne,nf,d⟩:=I.pin p hp;exact⟨(hs.2 p.1 ne).trans e,n,ne,nf,d⟩
 ·have hfn:X.fn x=true:=by
   rcases hf with z|z
   ·exact z
   ·rw[z] at hk;cases hk
  obtain⟨c,hc⟩:=I.ok.has x (.inl hk);obtain⟨w',z⟩:=I.cell x c hc;refine wpAny_storeName_cell I.ok.kind hk hc z (λh' hc' hs=>?_);obtain⟨oc,hoc,hocd⟩:=id z;refine h { s with heap:=h' } ⟨I.ok,I.os,I.bare,⟨λb o e n hb hx=>?_,λb o e n hb hx=>?_,I.base.free,λb o e hx=>?_,I.base.tups,I.base.frzs,I.base.tbls⟩,⟨m,hn.sameBut hs (Ne.symm (cne x c hc)),λj y v' e1 e2 e3=>?_⟩,λy c' e=>?_,I.free,I.freeC,λp hp=>?_,tracked ⟨oc,hoc,I.freeC x c hc⟩ hs,by simpa using I.len⟩ ⟨c,hs,.inr hc⟩
  ·exact (hs.2 b (aY (aF (ηL e) (I.ok.cab x c hfn hc)))).trans (I.base.keep b o e n hb hx)
  ·obtain⟨sl,e1⟩:=I.base.slot b o e n hb hx;exact⟨sl,(hs.2 b (aY (aF (ηL e) (I.ok.cab x c hfn hc)))).trans e1⟩
  ·obtain⟨o',e1⟩:=I.base.there b o e hx;exact⟨o',(hs.2 b (aY (aF (ηL e) (I.ok.cab x c hfn hc)))).trans e1⟩
  ·by_cases hj:j=i
   ·subst hj;rw[hi] at e1;cases e1;rw[eI hiσ] at e2;cases e2;exact⟨u,r,.inr ⟨.inl hk,c,hc,hc'⟩⟩
   ·rw[aK (Ne.symm hj)] at e2;obtain⟨u',r',q⟩:=hl j y v' e1 e2 e3;refine⟨u',r',?_⟩;rcases q with q|⟨k,c',e,z'⟩
    ·exact .inl q
    ·refine .inr ⟨k,c',e,z'.sameBut hs ?_⟩;rintro rfl;exact hj (yY hN e1 (I.ok.inj _ _ _ e hc ▸ hi))
  ·by_cases hcc:c'=c
   ·subst hcc;exact⟨_,hc'⟩
   ·obtain⟨w2,z2⟩:=I.cell y c' e;exact⟨w2,z2.sameBut hs hcc⟩
  ·obtain⟨e,n,ne,nf,d⟩:=I.pin p hp;refine⟨(hs.2 p.1 ?_).trans e,n,ne,nf,d⟩;intro q;rw[q,hoc] at e;have q':oc=p.2:=Option.some.inj e;exact d w' (by rw[← q'];exact hocd)
theorem uE(I:Inv X pins σ H s)(hN:X.N.Nodup)(hi:X.N[i]? = some x)(hx:CS X.env.scope x)(r:RelV v u)
  (h:∀ s',Inv X pins (σ.set i (some v)) H s'->Q .unit s') (hf:X.fn x=true\/X.env.scope.names.lookup x=some .local:=by first|exact .inl rfl|exact .inr rfl|assumption):wpAny M A (storeName X.env x u) Q E s :=
 xz I hN hi hx r (λs' I' _=>h s' I') hf
theorem Inv.call'(I:Inv X pins σ H s)(ho:s'.os=s.os)(u:Un (BE X.stack) ch H H' s.heap s'.heap)(hok:HOk X.prog X.w H' s'.heap)(hg:AllBare s'.gens)
  (hch:∀ b∈ch,(b∈X.ex\/X.s₀.heap.objs.size<=b)/\b≠X.env.locals/\(∀ x c,X.env.cells.lookup x=some c->c≠b)/\∀ p∈X.pn++pins,p.1≠b):Inv X pins σ H' s':=by
 obtain⟨h',g',d',t',o'⟩:=s';have e:o'=s.os:=ho;subst e;exact I.call (g':=g') (t':=t') (d':=d') u hok hg hch
end
abbrev XK:=Value->Option Addr->Hp->Prop
abbrev St:=List (Option V)
abbrev VK:=V->Hp->Prop
abbrev TE:=St->Hp->VK->Prop
abbrev TT:=St->Hp->(Bool->Hp->Prop)->Prop
abbrev TA:=St->Hp->(List V->Hp->Prop)->Prop
structure Ends where
 nx:St->Hp->Prop
 rt:VK
 bk:St->Hp->Prop:=λ_ _=>False
 ct:St->Hp->Prop:=λ_ _=>False
abbrev TS:=Ends->St->Hp->Prop
def EP(X:Cx)(pins:List (Addr×Obj))(σ:St)(Q:VK)(u:Value)(s':Shared):Prop:=∃ v H',Inv X pins σ H' s'/\RelV v u/\Q v H'
def TP(X:Cx)(pins:List (Addr×Obj))(σ:St)(Q:Bool->Hp->Prop)(b:Bool)(s':Shared):Prop:=∃ H',Inv X pins σ H' s'/\Q b H'
def AP(X:Cx)(pins:List (Addr×Obj))(σ:St)(Q:List V->Hp->Prop)(us:List Value)(s':Shared):Prop:=∃ vs H',Inv X pins σ H' s'/\Vals vs us/\Q vs H'
def SP(X:Cx)(pins:List (Addr×Obj))(D:Ends)(f:Flow)(s':Shared):Prop :=
 match f with
 | .next=>∃ σ' H',Inv X pins σ' H' s'/\D.nx σ' H'
 | .brk=>∃ σ' H',Inv X pins σ' H' s'/\D.bk σ' H'
 | .cont=>∃ σ' H',Inv X pins σ' H' s'/\D.ct σ' H'
 | .ret u=>∃ v σ' H',Inv X pins σ' H' s'/\RelV v u/\D.rt v H'
def PE(X:Cx)(e:Expr)(t:TE):Prop :=
 ∀(pins:List (Addr×Obj)) (s:Shared) (σ:St) (H:Hp) (Q:VK),Inv X pins σ H s->t σ H Q->wpAny (model X.prog X.w) X.A (eval e X.env) (EP X pins σ Q) X.xe s
def PT(X:Cx)(e:Expr)(t:TT):Prop :=
 ∀(pins:List (Addr×Obj)) (s:Shared) (σ:St) (H:Hp) (Q:Bool->Hp->Prop),Inv X pins σ H s->t σ H Q->wpAny (model X.prog X.w) X.A (isTrue e X.env (eval e X.env)) (TP X pins σ Q) X.xe s
def PW(X:Cx)(e:Expr)(t:TT):Prop :=
 ∀(whole:Sem Value) (pins:List (Addr×Obj)) (s:Shared) (σ:St) (H:Hp) (Q:Bool->Hp->Prop),Inv X pins σ H s->t σ H Q->wpAny (model X.prog X.w) X.A (isTrue e X.env whole) (TP X pins σ Q) X.xe s
theorem PW.pt(h:PW X e t):PT X e t:=h _
def PA(X:Cx)(es:List Expr)(t:TA):Prop :=
 ∀(pos:Pos) (pins:List (Addr×Obj)) (s:Shared) (σ:St) (H:Hp) (Q:List V->Hp->Prop),Inv X pins σ H s->t σ H Q->wpAny (model X.prog X.w) X.A (spliced (backTo pos (starEach es X.env))) (AP X pins σ Q) X.xe s
def PS(X:Cx)(st:Stmt)(t:TS):Prop :=
 ∀(pins:List (Addr×Obj)) (s:Shared) (σ:St) (H:Hp) (D:Ends),Inv X pins σ H s->t D σ H->wpAny (model X.prog X.w) X.A (exec st X.env) (SP X pins D) X.xe s
def PSs(X:Cx)(st:List Stmt)(t:TS):Prop :=
 ∀(pins:List (Addr×Obj)) (s:Shared) (σ:St) (H:Hp) (D:Ends),Inv X pins σ H s->t D σ H->wpAny (model X.prog X.w) X.A (execs st X.env) (SP X pins D) X.xe s
theorem sS{α:Type}{t:Sem α}{Q Q':α->Shared->Prop}{M:Model}{A:Around}{E:Value->Shared->Prop}{s:Shared}(h:wpAny M A t Q E s)(hQ:∀ a s,Q a s->Q' a s):wpAny M A t Q' E s:=wpAny_mono h hQ λ_ _ x=>x
section
variable{X:Cx}
def vn(i:Nat):TE:=λσ H Q=>∃ v,σ[i]? = some (some v)/\Q v H
def tC(v:V):TE:=λ_ H Q=>Q v H
theorem Ar(hN:X.N[i]? = some x)(hv:Hm X.env.scope x)(hd:(x == ("__debug__" : Str))=false:=by decide)(hcd:(x == ("__classdict__" : Str))=false:=by decide):PE X (.Name x pos) (vn i):=by
 intro pins s σ H Q I h;obtain⟨v,e,h⟩:=h;obtain⟨m,hn,hl⟩:=I.loc;obtain⟨u,r,l⟩:=hl i x v hN e hv;have fin:EP X pins σ Q u s:=⟨v,H,I,r,h⟩;rcases l with⟨hk,hm⟩|⟨hk,c,hc,hcell⟩
 ·exact wpAny_Name (wpAny_loadName_local I.ok.kind hk hn hm fin) hd
 ·rcases hk with hk|hk
  ·exact wpAny_Name (wpAny_loadName_cell I.ok.kind hk hc hcell fin) hd
  ·exact wpAny_Name (wpAny_loadName_free I.ok.kind hk hc hcell fin hcd) hd
theorem sA:PE X (.Constant (.int i) j pos) (tC (.int i)):=λ_ _ _ H _ I h=>wpAny_Constant_int ⟨.int i,H,I.tok _,⟨_,rfl⟩,h⟩
theorem DH:PE X (.Constant (.bool b) j pos) (tC (.bl b)):=λ_ _ _ H _ I h=>Constant_bool ⟨.bl b,H,I,rfl,h⟩
theorem Io:PE X (.Constant .none j pos) (tC .non):=λ_ _ _ H _ I h=>Constant_none ⟨.non,H,I,rfl,h⟩
theorem Il:PE X (.Constant (.str x) j pos) (tC (.str x)):=λ_ _ _ H _ I h=>Calls.Constant_str ⟨.str x,H,I.tok _,⟨_,rfl⟩,h⟩
def Gl(X:Cx)(x:Str):Prop:=X.env.kindOf x=some .globalImplicit
theorem Bs(I:Inv X pins σ H s)(hg:Gl X x)(hm:X.mg x=some u)(h:Q u s)
  (hd:(x == ("__debug__" : Str))=false:=by decide):wpAny (model X.prog X.w) X.A (eval (.Name x pos) X.env) Q E s :=
 Calls.Name_function_global I.ok.kind hg (Calls.loadGlobal_global (by rw[I.ok.glob];exact I.mod.glob.keeps I.bk) hm h) hd
theorem tV(I:Inv X pins σ H s)(hg:Gl X x)(hm:X.mg x=none)(hv:bootBuiltins x=some u)(h:Q u s)
  (hn:x ≠ "__name__" := by decide) (hd:(x == ("__debug__" : Str))=false:=by decide):wpAny (model X.prog X.w) X.A (eval (.Name x pos) X.env) Q E s:=by
 obtain⟨mb,h1,h2⟩:=I.mod.blt;exact Calls.Name_function_global I.ok.kind hg (Calls.loadGlobal_builtin (by rw[I.ok.glob];exact I.mod.glob.keeps I.bk) hm (by rw[I.ok.blt];exact h1.keeps I.bk) ((h2 x hn).trans hv) h) hd
theorem FC(hg:Gl X x)(hm:X.mg x=some u)(r:RelV v u)(hd:(x == ("__debug__" : Str))=false:=by decide):PE X (.Name x pos) (tC v) :=
 λ_ _ _ H _ I h=>Bs I hg hm ⟨v,H,I,r,h⟩ hd
theorem t6{x:Str}{v:V}{u:Value}{pos:Pos}(hg:Gl X x)(hm:X.mg x=none)(hv:bootBuiltins x=some u)(r:RelV v u)(hn:x ≠ "__name__" := by decide)(hd:(x == ("__debug__" : Str))=false:=by decide):PE X (.Name x pos) (tC v) :=
 λ_ _ _ H _ I h=>tV I hg hm hv ⟨v,H,I,r,h⟩ hn hd
def Nf(ta tb:TE)(k:Int->Int->Hp->Prop):St->Hp->Prop:=λσ H=>ta σ H λx H1=>tb σ H1 λy H2=>∃ i j,x = .int i/\y = .int j/\k i j H2
variable{a b:Expr}{ta tb:TE}{pos:Pos}
def Nc(p:Int->Int->Bool)(ta tb:TE):TE:=λσ H Q=>Nf ta tb (λi j H2=>Q (.bl (p i j)) H2) σ H
variable{tA tB':TT}{rest:List Expr}
def JW(t u:TT):TT:=λσ H Q=>t σ H λc H1=>if c=true then u σ H1 Q else Q false H1
def MG(t u:TT):TT:=λσ H Q=>t σ H λc H1=>if c=true then Q true H1 else u σ H1 Q
def Lw(t:TT):TT:=λσ H Q=>t σ H λc H1=>Q (!c) H1
theorem Bf(ha:PT X a tA):PW X (.BoolOp .And [a] pos) tA:=by
 intro wh pins s σ H Q I h;refine isTrue_and (sS (ha pins s σ H Q I h) λc s1 e=>?_);cases c with
 | true=>exact isTrue_and_nil e
 | false=>exact e
theorem Ic(ha:PT X a tA):PW X (.BoolOp .Or [a] pos) tA:=by
 intro wh pins s σ H Q I h;refine isTrue_or (sS (ha pins s σ H Q I h) λc s1 e=>?_);cases c with
 | false=>exact isTrue_or_nil e
 | true=>exact e
theorem Dr(ha:PT X a tA)(hb:PW X (.BoolOp .And (b::rest) pos) tB'):PW X (.BoolOp .And (a::b::rest) pos) (JW tA tB'):=by
 intro wh pins s σ H Q I h;refine isTrue_and (sS (ha pins s σ H _ I h) λc s1 ⟨H1,I1,q1⟩=>?_);cases c with
 | true=>exact hb wh pins s1 σ H1 Q I1 q1
 | false=>exact⟨H1,I1,q1⟩
theorem Kd(ha:PT X a tA)(hb:PW X (.BoolOp .Or (b::rest) pos) tB'):PW X (.BoolOp .Or (a::b::rest) pos) (MG tA tB'):=by
 intro wh pins s σ H Q I h;refine isTrue_or (sS (ha pins s σ H _ I h) λc s1 ⟨H1,I1,q1⟩=>?_);cases c with
 | true=>exact⟨H1,I1,q1⟩
 | false=>exact hb wh pins s1 σ H1 Q I1 q1
theorem Ig(ha:PT X a tA):PT X (.UnaryOp .Not a pos) (Lw tA):=by
 intro pins s σ H Q I h;exact isTrue_not (ha pins s σ H (λc H1=>Q (!c) H1) I h)
def JV(ta tb:TE):TE:=λσ H Q=>ta σ H λx H1=>∃ c,x = .bl c/\if c=true then tb σ H1 Q else Q (.bl false) H1
def Lv(ta tb:TE):TE:=λσ H Q=>ta σ H λx H1=>∃ c,x = .bl c/\if c=true then Q (.bl true) H1 else tb σ H1 Q
def JS(ta:TE):TE:=λσ H Q=>ta σ H λx H1=>∃ c,x = .bl c/\Q (.bl (!c)) H1
theorem As{op}{t:TE}(h:PE X a t):PE X (.BoolOp op [a] pos) t:=λpins s σ H Q I hw=>BoolOp_one (h pins s σ H Q I hw)
theorem Av(ha:PE X a ta)(hb:PE X (.BoolOp .And (b::rest) pos) tb):PE X (.BoolOp .And (a::b::rest) pos) (JV ta tb):=by
 intro pins s σ H Q I h;refine BoolOp_and (sS (ha pins s σ H _ I h) λv s1 ⟨x,H1,I1,r1,q1⟩=>?_);obtain⟨c,rfl,q1⟩:=q1;cases r1;refine wpAny_truthy_bool ?_;cases c with
 | true=>exact hb pins s1 σ H1 Q I1 q1
 | false=>exact⟨.bl false,H1,I1,rfl,q1⟩
theorem Ke(ha:PE X a ta)(hb:PE X (.BoolOp .Or (b::rest) pos) tb):PE X (.BoolOp .Or (a::b::rest) pos) (Lv ta tb):=by
 intro pins s σ H Q I h;refine BoolOp_or (sS (ha pins s σ H _ I h) λv s1 ⟨x,H1,I1,r1,q1⟩=>?_);obtain⟨c,rfl,q1⟩:=q1;cases r1;refine wpAny_truthy_bool ?_;cases c with
 | false=>exact hb pins s1 σ H1 Q I1 q1
 | true=>exact⟨.bl true,H1,I1,rfl,q1⟩
theorem Im(ha:PE X a ta):PE X (.UnaryOp .Not a pos) (JS ta):=by
 intro pins s σ H Q I h;refine UnaryOp_ (sS (ha pins s σ H _ I h) λv s1 ⟨x,H1,I1,r1,q1⟩=>?_);obtain⟨c,rfl,q1⟩:=q1;cases r1;exact not_of (wpAny_truthy_bool ⟨.bl (!c),H1,I1,rfl,q1⟩)
def Nb(t:TT)(ta tb:TE):TE:=λσ H Q=>t σ H λc H1=>if c=true then ta σ H1 Q else tb σ H1 Q
theorem DE(hc:PT X c tA)(ha:PE X a ta)(hb:PE X b tb):PE X (.IfExp c a b pos) (Nb tA ta tb):=by
 intro pins s σ H Q I h;refine wpAny_IfExp (sS (hc pins s σ H _ I h) λd s1 ⟨H1,I1,q1⟩=>?_);cases d with
 | true=>exact ha pins s1 σ H1 Q I1 q1
 | false=>exact hb pins s1 σ H1 Q I1 q1
end
def SqL(K:Frag)(H:Hp)(a:Addr)(xs:List V):Prop :=
 Rd H a (.lst xs) \/
  ∃(o:Obj) (its:Array Value) (n:Nat),K.lookup a=some o/\o.cls = .type "list" /\ o.dict=none/\o.data = .seq its n/\its.size<=sizeLine/\Vals xs its.toList
def SqT(K:Frag)(H:Hp)(a:Addr)(xs:List V):Prop :=
 Rd H a (.tup xs) \/
  ∃(o:Obj) (its:Array Value) (n:Nat),K.lookup a=some o/\o.cls = .type "tuple" /\ o.data = .seq its n/\its.size<=sizeLine/\Vals xs its.toList
def Ms:Value->Option V
 | .none=>some .non
 | .bool b=>some (.bl b)
 | .int i _=>some (.int i)
 | .str x _=>some (.str x)
 | .bytes b _=>some (.byt b)
 | .float b _=>some (.flt b)
 | .ref a=>some (.ref a)
 | .type n=>some (.ty n)
 | _=>none
theorem RelV.abs(r:RelV x u):Ms u=some x:=by
 cases x with
 | non=>cases r;rfl
 | bl _=>cases r;rfl
 | int _=>obtain⟨t,rfl⟩:=r;rfl
 | str _=>obtain⟨t,rfl⟩:=r;rfl
 | byt _=>obtain⟨t,rfl⟩:=r;rfl
 | flt _=>obtain⟨t,rfl⟩:=r;rfl
 | ref _=>cases r;rfl
 | ty _=>cases r;rfl
theorem RelV.inj(r:RelV x u)(q:RelV y u):x=y:=Option.some.inj (r.abs.symm.trans q.abs)
theorem Vals.inj:∀{xs ys:List V} {us:List Value},Vals xs us->Vals ys us->xs=ys
 | _,_,_,.nil,.nil=>rfl
 | _,_,_,.cons r t,.cons r' t'=>by rw[r.inj r',Vals.inj t t']
section
variable{X:Cx}{pins:List (Addr×Obj)}{σ:St}{H:Hp}{s:Shared}{a:Addr}{xs ys:List V}
theorem SqL.of{K:Frag}(h:H a=some (.lst xs)):SqL K H a xs:=.inl (.inl h)
theorem SqT.of{K:Frag}(h:H a=some (.tup xs)):SqT K H a xs:=.inl (.inl h)
theorem Inv.list(I:Inv X pins σ H s)(h:SqL X.K H a xs):∃ its:List Value,Vals xs its/\PlainL s.heap a its.toArray/\xs.length<=sizeLine:=by
 rcases h with h|⟨o,its,n,hk,hc,hd,hs,hz,r⟩
 ·obtain⟨z,its,n,r,e⟩:=h.ok I.hok;exact⟨its,r,⟨_,n,e,rfl,rfl,rfl⟩,z⟩
 ·refine⟨its.toList,r,⟨o,n,I.kIn a o hk,hc,hd,by simpa using hs⟩,?_⟩;have e:=r.length;simp only[cC] at e;lia
theorem Inv.tuple(I:Inv X pins σ H s)(h:SqT X.K H a xs):∃ its:List Value,Vals xs its/\IsTup s.heap a its.toArray/\xs.length<=sizeLine:=by
 rcases h with h|⟨o,its,n,hk,hc,hs,hz,r⟩
 ·obtain⟨z,its,r,p⟩:=h.ok I.hok;exact⟨its,r,p,z⟩
 ·refine⟨its.toList,r,⟨o,I.kIn a o hk,hc,n,by simpa using hs⟩,?_⟩;have e:=r.length;simp only[cC] at e;lia
theorem Inv.list_inj(I:Inv X pins σ H s)(h:SqL X.K H a xs)(h':SqL X.K H a ys):xs=ys:=by
 obtain⟨its,r,⟨o,n,e,_,_,d⟩,_⟩:=I.list h;obtain⟨its',r',⟨o',n',e',_,_,d'⟩,_⟩:=I.list h';rw[e] at e';cases e';rw[d] at d';injection d' with d1 _;have:its=its':=by simpa using congrArg Array.toList d1
 subst this;exact r.inj r'
theorem Inv.tuple_inj(I:Inv X pins σ H s)(h:SqT X.K H a xs)(h':SqT X.K H a ys):xs=ys:=by
 obtain⟨its,r,⟨o,e,_,n,d⟩,_⟩:=I.tuple h;obtain⟨its',r',⟨o',e',_,n',d'⟩,_⟩:=I.tuple h';rw[e] at e';cases e';rw[d] at d';injection d' with d1 _;have:its=its':=by simpa using congrArg Array.toList d1
 subst this;exact r.inj r'
end
abbrev Cx.wish(X:Cx)(E:Value->Shared->Prop):Cx:={ X with xe:=E }
abbrev Cx.nox(X:Cx):Cx:=X.wish λ_ _=>False
theorem Cx.Ok.wish{X:Cx}(ok:X.Ok)(E:Value->Shared->Prop):(X.wish E).Ok :=
 ⟨ok.mod,ok.kind,ok.glob,ok.blt,ok.above,ok.inj,ok.has,ok.cab,ok.hd,ok.frames,ok.stk,ok.exf,ok.bs,ok.bsz,ok.noex,ok.exfs,ok.funs,ok.frf,ok.sr,ok.rn⟩
theorem Cx.Ok.unwish{X:Cx}{E:Value->Shared->Prop}(ok:(X.wish E).Ok):X.Ok :=
 ⟨ok.mod,ok.kind,ok.glob,ok.blt,ok.above,ok.inj,ok.has,ok.cab,ok.hd,ok.frames,ok.stk,ok.exf,ok.bs,ok.bsz,ok.noex,ok.exfs,ok.funs,ok.frf,ok.sr,ok.rn⟩
section
variable{X:Cx}{pins:List (Addr×Obj)}{σ:St}{H:Hp}{s:Shared}{E:Value->Shared->Prop}
theorem Inv.wish(I:Inv X pins σ H s)(E:Value->Shared->Prop):Inv (X.wish E) pins σ H s:=⟨I.ok.wish E,I.os,I.bare,I.base,I.loc,I.cell,I.free,I.freeC,I.pin,I.hok,I.len⟩
theorem Inv.unwish(I:Inv (X.wish E) pins σ H s):Inv X pins σ H s:=⟨I.ok.unwish,I.os,I.bare,I.base,I.loc,I.cell,I.free,I.freeC,I.pin,I.hok,I.len⟩
theorem SP.unwish{D:Ends}{f:Flow}{s':Shared}(h:SP (X.wish E) pins D f s'):SP X pins D f s':=by
 cases f with
 | next=>obtain⟨σ',H',I,q⟩:=h;exact⟨σ',H',I.unwish,q⟩
 | brk=>obtain⟨σ',H',I,q⟩:=h;exact⟨σ',H',I.unwish,q⟩
 | cont=>obtain⟨σ',H',I,q⟩:=h;exact⟨σ',H',I.unwish,q⟩
 | ret u=>obtain⟨v,σ',H',I,r,q⟩:=h;exact⟨v,σ',H',I.unwish,r,q⟩
theorem PSs.nox{st:List Stmt}{t:TS}(h:PSs X.nox st t):PSs X st t:=λpins s σ H D I hw =>
 wpAny_mono (h pins s σ H D (I.wish _) hw) (λ_ _ q=>q.unwish) λ_ _ z=>False.elim z
end
section
variable{X:Cx}{st:Stmt}{rest:List Stmt}{t u:TS}{e:Expr}{te:TE}{pos:Pos}
def GA:TS:=λD σ H=>D.nx σ H
def JO(t u:TS):TS:=λD σ H=>t { D with nx:=u D } σ H
theorem pss_nil:PSs X [] GA:=λ_ _ σ H _ I h=>wpAny_execs_nil ⟨σ,H,I,h⟩
theorem tO(h1:PS X st t)(h2:PSs X rest u):PSs X (st::rest) (JO t u):=by
 intro pins s σ H D I h;refine wpAny_execs_cons (sS (h1 pins s σ H { D with nx:=u D } I h) λf s1 q=>?_);cases f with
 | next =>
  obtain⟨σ',H',I',q⟩:=q;exact h2 pins s1 σ' H' D I' q
 | ret v=>exact q
 | brk=>exact q
 | cont=>exact q
theorem tF(h1:PS X st t):PSs X [st] t:=by
 intro pins s σ H D I h;refine wpAny_execs_cons (sS (h1 pins s σ H D I h) λf s1 q=>?_);cases f with
 | next=>exact wpAny_execs_nil q
 | ret v=>exact q
 | brk=>exact q
 | cont=>exact q
def HC:TS:=λD σ H=>D.bk σ H
theorem ps_pass:PS X (.Pass pos) GA:=λ_ _ σ H _ I h=>wpAny_Pass ⟨σ,H,I,h⟩
theorem ps_break:PS X (.Break pos) HC:=λ_ _ σ H _ I h=>wpAny_Break ⟨σ,H,I,h⟩
theorem Inv.quiet(I:Inv X pins σ H s):interactive X.env=false:=by simp[interactive,I.ok.kind]
def JT(te:TE):TS:=λD σ H=>te σ H λ_ H1=>D.nx σ H1
theorem Bg(he:PE X e te)(hs:swapsWith e none pos.line X.env=pure false:=by rfl):PS X (.Expr e pos) (JT te):=by
 intro pins s σ H D I h;exact wpAny_Expr_any (sS (he pins s σ H _ I h) λv s1 ⟨x,H1,I1,r1,q1⟩=>⟨σ,H1,I1,q1⟩) I.quiet hs
def Lu(te:TE):TS:=λD σ H=>te σ H D.rt
theorem uG(he:PE X e te):PS X (.Return (some e) pos) (Lu te):=by
 intro pins s σ H D I h;exact wpAny_Return_some (sS (he pins s σ H _ I h) λv s1 ⟨x,H1,I1,r1,q1⟩=>⟨x,σ,H1,I1,r1,q1⟩)
def JP:TS:=λD _ H=>D.rt .non H
theorem ps_retN:PS X (.Return none pos) JP:=λ_ _ σ H _ I h=>wpAny_Return_none ⟨.non,σ,H,I,rfl,h⟩
def Ly(c:TT)(t u:TS):TS:=λD σ H=>c σ H λb H1=>if b=true then t D σ H1 else u D σ H1
theorem wH{c:Expr}{a b:List Stmt}{tc:TT}(hc:PT X c tc)(ha:PSs X a t)(hb:PSs X b u):PS X (.If c a b pos) (Ly tc t u):=by
 intro pins s σ H D I h;refine wpAny_If (sS (hc pins s σ H _ I h) λd s1 ⟨H1,I1,q1⟩=>?_);cases d with
 | true=>exact ha pins s1 σ H1 D I1 q1
 | false=>exact hb pins s1 σ H1 D I1 q1
end
abbrev TG:=V->St->Hp->(St->Hp->Prop)->Prop
abbrev E7:=List V->St->Hp->(St->Hp->Prop)->Prop
def PG(X:Cx)(target:Expr)(t:TG):Prop :=
 ∀(pins:List (Addr×Obj)) (s:Shared) (σ:St) (H:Hp) (v:V) (u:Value) (Q:St->Hp->Prop),Inv X pins σ H s->RelV v u->t v σ H Q ->
  wpAny (model X.prog X.w) X.A (assign target X.env u) (λ_ s'=>∃ σ' H',Inv X pins σ' H' s'/\Q σ' H') X.xe s
def JF(X:Cx)(ts:List Expr)(t:E7):Prop :=
 ∀(pins:List (Addr×Obj)) (s:Shared) (σ:St) (H:Hp) (vs:List V) (us:List Value) (Q:St->Hp->Prop),Inv X pins σ H s->Vals vs us->t vs σ H Q ->
  wpAny (model X.prog X.w) X.A (assignInOrder ((assignEach ts X.env).map (·.2)) us) (λ_ s'=>∃ σ' H',Inv X pins σ' H' s'/\Q σ' H') X.xe s
abbrev EY:=V->V->V->Hp->(Hp->Prop)->Prop
def Jw(X:Cx)(t:EY):Prop :=
 ∀(pins:List (Addr×Obj)) (s:Shared) (σ:St) (H:Hp) (o i v:V) (ov iv u:Value) (Q:Hp->Prop),Inv X pins σ H s->RelV o ov->RelV i iv->RelV v u->t o i v H Q ->
  wpAny (model X.prog X.w) X.A (setItem ov iv u) (λ_ s'=>∃ H',Inv X pins σ H' s'/\Q H') X.xe s
abbrev K1:=V->V->Hp->VK->Prop
def MV(X:Cx)(op:Operator)(t:K1):Prop :=
 ∀(pins:List (Addr×Obj)) (s:Shared) (σ:St) (H:Hp) (x y:V) (v u:Value) (Q:VK),Inv X pins σ H s->RelV x v->RelV y u->t x y H Q ->
  wpAny (model X.prog X.w) X.A (inplaceOp op v u) (EP X pins σ Q) X.xe s
section
variable{X:Cx}{pos:Pos}
def xM(i:Nat):TG:=λv σ H Q=>Q (σ.set i (some v)) H
theorem yj{i:Nat}{x:Str}(hN:X.N.Nodup)(hi:X.N[i]? = some x)(hx:CS X.env.scope x)(hf:X.fn x=true\/X.env.scope.names.lookup x=some .local:=by first|exact .inl rfl|exact .inr rfl|assumption):PG X (.Name x pos) (xM i):=by
 intro pins s σ H v u Q I r h;exact wpAny_assign_Name (uE I hN hi hx r (λs' I'=>⟨_,H,I',h⟩) hf)
def KH:E7:=λvs σ H Q=>vs=[]/\Q σ H
def Hb(t:TG)(u:E7):E7:=λvs σ H Q=>∃ v r,vs=v::r/\t v σ H λσ' H'=>u r σ' H' Q
theorem FB:JF X [] KH:=by
 intro pins s σ H vs us Q I r h;obtain⟨e,h⟩:=h;subst e;cases r;exact assignInOrder_nil ⟨σ,H,I,h⟩
theorem DB(h1:PG X e t)(h2:JF X es u)
  (hs:(assignEach (e::es) X.env).map (·.2)=assign e X.env::(assignEach es X.env).map (·.2):=by rfl):JF X (e::es) (Hb t u):=by
 intro pins s σ H vs us Q I r h;obtain⟨v,vr,e1,h⟩:=h;subst e1;cases r with
 | cons r rr =>
  rw[hs];refine assignInOrder_cons (sS (h1 pins s σ H _ _ _ I r h) λ_ s1 ⟨σ1,H1,I1,q1⟩=>?_);exact h2 pins s1 σ1 H1 _ _ Q I1 rr q1
def KF(K:Frag)(n:Nat)(t:E7):TG:=λv σ H Q=>∃ a xs,v = .ref a/\SqT K H a xs/\xs.length=n/\t xs σ H Q
theorem Aq(hc:X.calm=true)(h:JF X es t)
  (hn:(assignEach es X.env).length=n:=by rfl) (hst:(assignEach es X.env).findIdx? (·.1)=none:=by rfl):PG X (.Tuple es k pos) (KF X.K n t):=by
 intro pins s σ H v u Q I r hw;obtain⟨a,xs,e1,hq,hl,hw⟩:=hw;subst e1;cases r;obtain⟨its,rv,ht,hz⟩:=I.tuple hq;refine assign_Tuple_tuple (I.ok.hd hc) ht (by simp[hn,← hl,rv.length]) hst λh' hx=>?_;have I1:Inv X pins σ H { s with heap:=h' }:=I.kept (t':=s.toks) λb o e=>hx b o (aY (ηL e)) e;exact h pins _ σ H xs _ Q I1 (by simpa using rv) hw
def KG(to ti:TE)(t:EY):TG:=λv σ H Q=>to σ H λo H1=>ti σ H1 λi H2=>t o i v H2 λH3=>Q σ H3
theorem vb{o i:Expr}{to ti:TE}{t:EY}(ho:PE X o to)(hi:PE X i ti)(hs:Jw X t)
  (ha:∀ v,assign (.Subscript o i pos) X.env v=(do
   let ov ← holding [v] (eval o X.env)
   let iv ← holding [v,ov] (eval i X.env)
   standAt pos
   holding [v,ov,iv] (setItem ov iv v)
   release [v,ov,iv] []):=by intro _;rfl):PG X (.Subscript o i pos) (KG to ti t):=by
 intro pins s σ H v u Q I r h;rw[ha];refine ηB (wpAny_holding (sS (ho pins s σ H _ I h) λov s1 ⟨x,H1,I1,r1,q1⟩=>?_));refine ηB (wpAny_holding (sS (hi pins s1 σ H1 _ I1 q1) λiv s2 ⟨y,H2,I2,r2,q2⟩=>?_));refine ηB (wpAny_standAt (ηB (wpAny_holding (sS (hs pins s2 σ H2 x y v ov iv u _ I2 r1 r2 r q2) λ_ s3 ⟨H3,I3,q3⟩=>?_))));exact wpAny_release ⟨σ,H3,I3,q3⟩
def HD(te:TE)(g:TG):TS:=λD σ H=>te σ H λx H1=>g x σ H1 D.nx
theorem uH{tg e:Expr}{te:TE}{g:TG}(he:PE X e te)(hg:PG X tg g)(hs:swapsWithSole [tg] e pos.line X.env=pure false:=by rfl)(hw:swappedStores [tg] e X.env=pure none:=by rfl)
  (h1:(assignEach [tg] X.env).map (·.2)=[assign tg X.env]:=by rfl):PS X (.Assign [tg] e pos) (HD te g):=by
 intro pins s σ H D I h;refine wpAny_Assign_stores (sS (he pins s σ H _ I h) λv s1 ⟨x,H1,I1,r1,q1⟩=>?_) hs hw;rw[h1];exact sS (hg pins s1 σ H1 x v _ I1 r1 q1) λ_ s2 q=>q
theorem vL{i:Nat}{x:Str}{e:Expr}{te:TE}{pos':Pos}(hN:X.N.Nodup)(hi:X.N[i]? = some x)(hx:CS X.env.scope x)(he:PE X e te)(hs:swapsWith e (some (.Name x pos')) pos.line X.env=pure false:=by rfl)(hf:X.fn x=true\/X.env.scope.names.lookup x=some .local:=by first|exact .inl rfl|exact .inr rfl|assumption) :
  PS X (.Assign [.Name x pos'] e pos) (HD te (xM i)):=by
 intro pins s σ H D I h;refine wpAny_Assign_Name (sS (he pins s σ H _ I h) λv s1 ⟨y,H1,I1,r1,q1⟩=>?_) hs;exact uE I1 hN hi hx r1 (λs2 I2=>⟨_,H1,I2,q1⟩) hf
def HB(i j:Nat)(ta:TA):TS:=λD σ H=>ta σ H λvs H1=>∃ v w,vs=[v,w]/\D.nx ((σ.set i (some v)).set j (some w)) H1
theorem Dx(hc:X.calm=true)(hN:X.N.Nodup)(hi:X.N[i]? = some x)(hj:X.N[j]? = some y)(hij:i≠j)
  (hx:X.env.scope.names.lookup x=some .local) (hy:X.env.scope.names.lookup y=some .local) (ha:PA X [a,b] ta)
  (hw:swappedStores [.Tuple [.Name x px,.Name y py] kt pt] (.Tuple [a,b] k2 pt2) X.env=pure (some [x,y]))
  (hs:swapsWithSole [.Tuple [.Name x px,.Name y py] kt pt] (.Tuple [a,b] k2 pt2) pos.line X.env=pure false:=by rfl) :
  PS X (.Assign [.Tuple [.Name x px,.Name y py] kt pt] (.Tuple [a,b] k2 pt2) pos) (HB i j ta):=by
 intro pins s σ H D I h;rw[exec_Assign_arm];refine ηB (wpAny_standAt ?_);rw[hs];refine ηB (ηP ?_);rw[if_neg (by decide)];refine ηB (Tuple_ (sS (ha _ pins s σ H _ I h) λus s1 ⟨vs,H1,I1,r1,q1⟩=>?_));obtain⟨v,w,e1,q1⟩:=q1;subst e1;obtain⟨u1,u2,rfl,rv,rw'⟩:∃ u1 u2,us=[u1,u2]/\RelV v u1/\RelV w u2:=by
  cases r1 with
  | cons p q =>
   cases q with
   | cons p' q' =>
    cases q';exact⟨_,_,rfl,p,p'⟩
 refine wpAny_newObj_type ?_ (by show 2<=sizeLine;decide);have I2:Inv X pins σ H1 { s1 with heap:=s1.heap.push { cls:=.type "tuple",data:=.seq [u1,u2].toArray } }:=I1.kept (t':=s1.toks) λb o e=>ηH _ e;rw[hw];refine ηB (ηP ?_);show wpAny (model X.prog X.w) X.A (do rule "assign.swapped-stores";let items ← unpackItems (.ref s1.heap.objs.size) 2 none;assignInOrder [λv=>bindName X.env y v,λv=>bindName X.env x v] items.reverse;pure Flow.next) ..;refine ηB (wpAny_rule (ηB (unpackItems_tuple (items:=#[u1,u2]) (I.ok.hd hc) (IsTup.new s1.heap _) λh' hx'=>?_)));have I3:=I2.kept (h':=h') (t':=s1.toks) λb o e=>hx' b o (aY (ηL e)) e;show wpAny _ _ (assignInOrder [λv=>bindName X.env y v,λv=>bindName X.env x v] [u2,u1] >>= λ_=>pure Flow.next) ..;refine ηB (assignInOrder_cons (wpAny_bindName (uE I3 hN hj (.inl hy) rw' (λs2 I4=>?_) (.inr hy))));refine assignInOrder_cons (wpAny_bindName (uE I4 hN hi (.inl hx) rv (λs3 I5=>assignInOrder_nil (ηP ?_)) (.inr hx)));rw[List.set_comm _ _ (Ne.symm hij)] at I5;exact⟨_,H1,I5,q1⟩
def LH(i:Nat)(te:TE)(ti:K1):TS:=λD σ H=>∃ x,σ[i]? = some (some x)/\te σ H λy H1=>ti x y H1 λz H2=>D.nx (σ.set i (some z)) H2
theorem Ii(hN:X.N.Nodup)(hi:X.N[i]? = some x)(hx:CS X.env.scope x)(he:PE X e te)(ho:MV X op ti)(hf:X.fn x=true\/X.env.scope.names.lookup x=some .local:=by first|exact .inl rfl|exact .inr rfl|assumption) :
  PS X (.AugAssign (.Name x pos') op e pos) (LH i te ti):=by
 intro pins s σ H D I h;obtain⟨v,e1,h⟩:=h;obtain⟨m,hn,hl⟩:=I.loc;have vis:Hm X.env.scope x:=by rcases hx with k|k;exact .inl k;exact .inr (.inl k)
 obtain⟨u,r,l⟩:=hl i x v hi e1 vis;refine wpAny_AugAssign_Name ?_;have go:wpAny (model X.prog X.w) X.A (eval e X.env) (λw s₂=>wpAny (model X.prog X.w) X.A (inplaceOp op u w) (λr s₃=>wpAny (model X.prog X.w) X.A (storeName X.env x r) (λ_=>SP X pins D .next) X.xe s₃) X.xe s₂) X.xe s:=by
  refine sS (he pins s σ H _ I h) λw s1 ⟨y,H1,I1,r1,q1⟩=>?_;refine sS (ho pins s1 σ H1 v y u w _ I1 r r1 q1) λz s2 ⟨zv,H2,I2,r2,q2⟩=>?_;exact uE I2 hN hi hx r2 (λs3 I3=>⟨_,H2,I3,q2⟩) hf
 rcases l with⟨hk,hm⟩|⟨hk,c,hc,hcell⟩
 ·exact wpAny_loadName_local I.ok.kind hk hn hm go
 ·rcases hk with hk|hk
  ·exact wpAny_loadName_cell I.ok.kind hk hc hcell go
  ·rcases hx with k|k
   ·have:X.env.scope.names.lookup x=some .free:=hk;rw[k] at this;cases this
   ·have:X.env.scope.names.lookup x=some .free:=hk;rw[k] at this;cases this
def JU(to ti te:TE)(tget:V->V->Hp->VK->Prop)(tip:K1)(tset:EY):TS:=λD σ H=>to σ H λo H1=>ti σ H1 λi H2=>tget o i H2 λx H3=>te σ H3 λy H4=>tip x y H4 λz H5=>tset o i z H5 λH6=>D.nx σ H6
def K4(X:Cx)(t:V->V->Hp->VK->Prop):Prop :=
 ∀(pins:List (Addr×Obj)) (s:Shared) (σ:St) (H:Hp) (o i:V) (ov iv:Value) (Q:VK),Inv X pins σ H s->RelV o ov->RelV i iv->t o i H Q ->
  wpAny (model X.prog X.w) X.A (getItem ov iv) (EP X pins σ Q) X.xe s
theorem Fw(ho:PE X o to)(hi:PE X i ti)(hg:K4 X tget)(he:PE X e te)(hp:MV X op tip)(hs:Jw X tset)
  (ha:∀ ov iv new,augStore i ov iv new=(do holding [new,ov,iv] (setItem ov iv new);release [new,ov,iv] [];pure .next):=by intros;rfl):PS X (.AugAssign (.Subscript o i tpos) op e pos) (JU to ti te tget tip tset):=by
 intro pins s σ H D I h;refine wpAny_AugAssign_SubscriptAny (sS (ho pins s σ H _ I h) λov s1 ⟨x1,H1,I1,r1,q1⟩=>?_) ha;refine sS (hi pins s1 σ H1 _ I1 q1) λiv s2 ⟨x2,H2,I2,r2,q2⟩=>?_;refine sS (hg pins s2 σ H2 x1 x2 ov iv _ I2 r1 r2 q2) λold s3 ⟨x3,H3,I3,r3,q3⟩=>?_;refine sS (he pins s3 σ H3 _ I3 q3) λv s4 ⟨x4,H4,I4,r4,q4⟩=>?_;refine sS (hp pins s4 σ H4 x3 x4 old v _ I4 r3 r4 q4) λnew s5 ⟨x5,H5,I5,r5,q5⟩=>?_;exact sS (hs pins s5 σ H5 x1 x2 x5 ov iv new _ I5 r1 r2 r5 q5) λ_ s6 ⟨H6,I6,q6⟩=>⟨σ,H6,I6,q6⟩
end
section
variable{X:Cx}{pos:Pos}
def HA(c:TT)(tb:TS):TS:=λD σ H=>∃ W:Nat->St->Hp->Prop,(∃ m,W m σ H)/\∀ m σ H,W m σ H ->
 c σ H λb H1=>if b=true then ∃ N:St->Hp->Prop,(∀ σ' H',N σ' H'->∃ m',m'<m/\W m' σ' H')/\tb { D with nx:=N,ct:=N,bk:=D.nx } σ H1 else D.nx σ H1
theorem Dw(hp:PassesOwn (model X.prog X.w) X.A X.env X.xe)(hc:PT X c tc)(hb:PSs X body tb):PS X (.While c body [] pos) (HA tc tb):=by
 intro pins s σ H D I h;obtain⟨W,⟨m0,w0⟩,x6⟩:=h;refine wpAny_While (codeAny_whileLoop (λn s'=>∃ σ' H',Inv X pins σ' H' s'/\W n σ' H') ?_ m0 ⟨σ,H,I,w0⟩);rintro n s1 ⟨σ1,H1,I1,w1⟩;refine wpAny_passesOwn hp (sS (hc pins s1 σ1 H1 _ I1 (x6 n σ1 H1 w1)) λb s2 ⟨H2,I2,q2⟩=>?_);cases b with
 | true =>
  obtain⟨N,hN,q2⟩:=q2;rw[if_pos rfl];refine wpAny_passesOwn hp (sS (hb pins s2 σ1 H2 _ I2 q2) λf s3 q3=>?_);cases f with
  | next =>
   obtain⟨σ3,H3,I3,n3⟩:=q3;obtain⟨m',hm,w3⟩:=hN σ3 H3 n3;exact⟨m',hm,σ3,H3,I3,w3⟩
  | cont =>
   obtain⟨σ3,H3,I3,n3⟩:=q3;obtain⟨m',hm,w3⟩:=hN σ3 H3 n3;exact⟨m',hm,σ3,H3,I3,w3⟩
  | brk=>exact q3
  | ret v=>exact q3
 | false =>
  rw[if_neg aD];exact wpAny_execs_nil ⟨σ1,H2,I2,q2⟩
end
structure It where
 go:Nat->Hp->Prop
 yld:Nat->Hp->V->Hp->Prop
 stop:Nat->Hp->Prop
def uC(X:Cx)(pins:List (Addr×Obj))(H:Hp)(b:Addr):Prop :=
 H b=none/\b≠X.env.locals/\b ∉ X.fs/\(b∈X.ex\/X.s₀.heap.objs.size<=b)/\(∀ x c,X.env.cells.lookup x=some c->c≠b)/\∀ p∈X.pn++pins,p.1≠b
theorem Inv.fpOk(I:Inv X pins σ H s)(hb:s.heap.objs.size<=b)(hn:H' b=none):uC X pins H' b:=by
 refine⟨hn,dH (aF I.lt hb),I.nofs hb,.inr (aE I.sz hb),λx c e z=>?_,λp hp z=>?_⟩
 ·obtain⟨v,q⟩:=I.cell x c e;exact absurd (aF q.lt (by rw[z];exact hb)) (bB _)
 ·exact absurd (aF (ηL (I.pin p hp).1) (by rw[z];exact hb)) (bB _)
structure Turn (P:Program)(w:World)(K:Frag)(tg:Expr)(J:It)(fp:List Addr)(it:Addr)(tn:Nat->Heap->Prop):Prop where
 mem:it∈fp
 obj:∀ i h,tn i h->∀ b∈fp,∃ o,h.get? b=some o/\∀ v,o.data ≠ .cell v
 keep:∀ i h h',tn i h->(∀ b∈fp,∀ o,h.get? b=some o->h'.get? b=some o)->tn i h'
 item:∀(X:Cx),X.prog=P->X.w=w->X.K=K->X.calm=true->∀(i:Nat) (pins:List (Addr×Obj)) (s:Shared) (σ:St) (H:Hp) (E:Value->Shared->Prop),Inv X pins σ H s->(∀ b∈fp,uC X pins H b)->tn i s.heap->J.go i H ->
  wpAny (model P w) X.A (pyNext (.ref it)) (λr s1=>∃ u,r=some u /\
   wpAny (model P w) X.A (letOwnedTupleGo tg (.ref it) u) (λ_ s2=>∃ x H',Inv X pins σ H' s2/\RelV x u/\J.yld i H x H'/\tn (i+1) s2.heap/\∀ b∈fp,H' b=none) E s1) E s
 done:∀(X:Cx),X.prog=P->X.w=w->X.K=K->X.calm=true->∀(i:Nat) (pins:List (Addr×Obj)) (s:Shared) (σ:St) (H:Hp) (E:Value->Shared->Prop),Inv X pins σ H s->(∀ b∈fp,uC X pins H b)->tn i s.heap->J.stop i H ->
  wpAny (model P w) X.A (pyNext (.ref it)) (λr s1=>r=none/\Inv X pins σ H s1) E s
 self:∀(A:Around) (i:Nat) (s:Shared) (Q:Value->Shared->Prop) (E:Value->Shared->Prop),tn i s.heap->Q (.ref it) s->wpAny (model P w) A (pyIter (.ref it)) Q E s
abbrev TI:=St->Hp->(It->Hp->Prop)->Prop
def MW(X:Cx)(pins:List (Addr×Obj))(σ:St)(tg:Expr)(R:It->Hp->Prop)(itv:Value)(s2:Shared):Prop :=
 ∃(it:Addr) (fp:List Addr) (tn:Nat->Heap->Prop) (J:It) (H':Hp),itv = .ref it/\Inv X pins σ H' s2/\Turn X.prog X.w X.K tg J fp it tn/\tn 0 s2.heap/\(∀ b∈fp,uC X pins H' b)/\R J H'
def PI(X:Cx)(tg iter:Expr)(wi:TI):Prop :=
 ∀(pins:List (Addr×Obj)) (s:Shared) (σ:St) (H:Hp) (R:It->Hp->Prop),Inv X pins σ H s->wi σ H R ->
  wpAny (model X.prog X.w) X.A (eval iter X.env) (λv s1=>wpAny (model X.prog X.w) X.A (pyIter v) (MW X pins σ tg R) X.xe s1) X.xe s
theorem zj{M:Model}{A:Around}{E:Value->Shared->Prop}{s:Shared}{tg:Expr}{it:Addr}{u:Value}{o:Obj}{n:String}{vs:Array Value}{Q:Unit->Shared->Prop}(ho:s.heap.get? it=some o)(hc:o.cls = .type n)(hd:o.data = .fields vs)
  (hn:["enumerate", "zip", "dict_itemiterator", "dict_reverseitemiterator", "odict_iterator", "itertools.zip_longest", "itertools.pairwise"].contains n=false) (hQ:Q .unit s):wpAny M A (letOwnedTupleGo tg (.ref it) u) Q E s:=by
 unfold letOwnedTupleGo;cases tg <;> first
  | exact ηP hQ
  | (cases u <;> first
    | exact ηP hQ
    | (refine ηB (wpAny_load ho ?_)
       rw[hc,hd];show wpAny M A (if (["enumerate", "zip", "dict_itemiterator", "dict_reverseitemiterator", "odict_iterator", "itertools.zip_longest", "itertools.pairwise"].contains n && vs[0]? == some (rawInt _))=true then _ else _) Q E s;rw[if_neg (by intro h;rw[hn,Bool.false_and] at h;cases h)];exact ηP hQ))
def M5(K:Frag)(a:Addr):It :=
 ⟨λi H=>∃ xs x,SqL K H a xs/\xs[i]? = some x,λi H x H'=>H'=H/\∀ xs,SqL K H a xs->xs[i]? = some x,λi H=>∃ xs,SqL K H a xs/\xs.length<=i⟩
def M1(K:Frag)(a:Addr):It :=
 ⟨λi H=>∃ xs x,SqT K H a xs/\xs[i]? = some x,λi H x H'=>H'=H/\∀ xs,SqT K H a xs->xs[i]? = some x,λi H=>∃ xs,SqT K H a xs/\xs.length<=i⟩
def JG(lo:Int)(n:Nat):It:=⟨λi _=>i<n,λi H x H'=>H'=H/\x = .int (lo+i),λi _=>n<=i⟩
theorem BW{P:Program}{w:World}{K:Frag}{tg:Expr}(a it:Addr):Turn P w K tg (M5 K a) [it] it (λi h=>h.IsListIter it a i) where
 mem:=by simp
 obj:=λi h st b hb=>by
  have e:b=it:=by simpa using hb
  subst e;obtain⟨o,e,c,d⟩:=st;exact⟨o,e,λv z=>by rw[d] at z;cases z⟩
 keep:=λi h h' st k=>st.at λo e=>k it (by simp) o e
 item:=by
  intro X hP hw hK hc i pins s σ H E I hf st hg;subst hP hw hK;obtain⟨xs,x,hq,hx⟩:=hg;obtain⟨its,rv,p,hz⟩:=I.list hq;obtain⟨u,hu,ru⟩:=rv.get hx;obtain⟨f0,f1,f2,f3,f4,f5⟩:=hf it (by simp);refine wpAny_pyNext_list_item st p.isList (x:=u) (by simpa using hu) λh' st' sb=>?_;have I1:Inv X pins σ H { s with heap:=h' }:=I.turned (t':=s.toks) (λb o hb e=>(sb.2 b hb).trans e) f0 f1 f3 f4 f5;obtain⟨o,e,c,d⟩:=id st';exact⟨u,rfl,zj (s:={ s with heap:=h' }) e c d (by decide) ⟨x,H,I1,ru,⟨rfl,λys hy=>by rw[I.list_inj hy hq];exact hx⟩,st',λb hb=>(hf b hb).1⟩⟩
 done:=by
  intro X hP hw hK hc i pins s σ H E I hf st hg;subst hP hw hK;obtain⟨xs,hq,hx⟩:=hg;obtain⟨its,rv,p,hz⟩:=I.list hq;obtain⟨f0,f1,f2,f3,f4,f5⟩:=hf it (by simp);have hl:=rv.length;exact wpAny_pyNext_list_end (I.ok.hd hc) st p.isList (by simp;lia) λh' eb=>⟨rfl,I.turned (t':=s.toks) (λb o hb e=>eb b o hb e) f0 f1 f3 f4 f5⟩
 self:=λ_ _ _ _ _ st h=>wpAny_pyIter_listiter st h
theorem Ac{P:Program}{w:World}{K:Frag}{tg:Expr}(a it:Addr):Turn P w K tg (M1 K a) [it] it (λi h=>h.IsTupleIter it a i) where
 mem:=by simp
 obj:=λi h st b hb=>by
  have e:b=it:=by simpa using hb
  subst e;obtain⟨o,e,c,d⟩:=st;exact⟨o,e,λv z=>by rw[d] at z;cases z⟩
 keep:=λi h h' st k=>st.at λo e=>k it (by simp) o e
 item:=by
  intro X hP hw hK hc i pins s σ H E I hf st hg;subst hP hw hK;obtain⟨xs,x,hq,hx⟩:=hg;obtain⟨its,rv,p,hz⟩:=I.tuple hq;obtain⟨u,hu,ru⟩:=rv.get hx;obtain⟨f0,f1,f2,f3,f4,f5⟩:=hf it (by simp);refine wpAny_pyNext_tuple_item st (show s.heap.IsTuple a its.toArray from p) (x:=u) (by simpa using hu) λh' st' sb=>?_;have I1:Inv X pins σ H { s with heap:=h' }:=I.turned (t':=s.toks) (λb o hb e=>(sb.2 b hb).trans e) f0 f1 f3 f4 f5;obtain⟨o,e,c,d⟩:=id st';exact⟨u,rfl,zj (s:={ s with heap:=h' }) e c d (by decide) ⟨x,H,I1,ru,⟨rfl,λys hy=>by rw[I.tuple_inj hy hq];exact hx⟩,st',λb hb=>(hf b hb).1⟩⟩
 done:=by
  intro X hP hw hK hc i pins s σ H E I hf st hg;subst hP hw hK;obtain⟨xs,hq,hx⟩:=hg;obtain⟨its,rv,p,hz⟩:=I.tuple hq;obtain⟨f0,f1,f2,f3,f4,f5⟩:=hf it (by simp);have hl:=rv.length;exact wpAny_pyNext_tuple_end (I.ok.hd hc) st (show s.heap.IsTuple a its.toArray from p) (by simp;lia) λh' eb=>⟨rfl,I.turned (t':=s.toks) (λb o hb e=>eb b o hb e) f0 f1 f3 f4 f5⟩
 self:=λ_ _ _ _ _ st h=>wpAny_pyIter_tupleiter st h
theorem Ad{P:Program}{w:World}{K:Frag}{tg:Expr}(it:Addr)(lo:Int)(n:Nat):Turn P w K tg (JG lo n) [it] it (λi h=>IsRangeIter h it (lo+(i:Nat)*1) ((n:Int)-(i:Nat)) 1) where
 mem:=by simp
 obj:=λi h st b hb=>by
  have e:b=it:=by simpa using hb
  subst e;exact⟨_,st,λv z=>by
   have z':Data.fields _=Data.cell v:=z;cases z'⟩
 keep:=λi h h' st k=>k it (by simp) _ st
 item:=by
  intro X hP hw hK hc i pins s σ H E I hf st hg;subst hP hw hK;obtain⟨f0,f1,f2,f3,f4,f5⟩:=hf it (by simp);have W:=Walks.range (prog:=X.prog) (w:=X.w) (I.ok.hd hc) it lo 1 n;refine W.item i s _ _ hg st λv h' tk hv st' kk=>?_;obtain⟨t,rfl⟩:=hv;have I1:Inv X pins σ H { s with heap:=h',toks:=tk }:=I.turned (λb o hb e=>kk b o (by simpa using hb) e) f0 f1 f3 f4 f5;refine⟨_,rfl,zj (s:={ s with heap:=h',toks:=tk }) (n := "range_iterator") st' rfl rfl (by decide) ⟨.int (lo+i),H,I1,⟨t,?_⟩,⟨rfl,rfl⟩,st',λb hb=>(hf b hb).1⟩⟩;rw[bx]
 done:=by
  intro X hP hw hK hc i pins s σ H E I hf st hg;subst hP hw hK;obtain⟨f0,f1,f2,f3,f4,f5⟩:=hf it (by simp);exact wpAny_pyNext_range_end (I.ok.hd hc) st (by have:n<=i:=hg;lia) λh' eb=>⟨rfl,I.turned (t':=s.toks) (λb o hb e=>eb b o hb e) f0 f1 f3 f4 f5⟩
 self:=λ_ _ _ _ _ st h=>wpAny_pyIter_rangeiter st h
section
variable{X:Cx}{tg:Expr}
theorem yR{pins:List (Addr×Obj)}{σ:St}{H:Hp}{s:Shared}{R:It->Hp->Prop}{E:Value->Shared->Prop}{lo hi:Int}{t u v:Tok}{tk:Nat}(I:Inv X pins σ H s)(h1 : -(2^62)<=lo)(h2:lo<2^62)(h3 : -(2^62)<=hi)(h4:hi<2^62)
  (q:R (JG lo (hi-lo).toNat) H):wpAny (model X.prog X.w) X.A (pyIter (.ref s.heap.objs.size)) (MW X pins σ tg R) E { s with heap:=s.heap.push { cls:=.type "range",data:=.fields #[.int lo t,.int hi u,.int 1 v] },toks:=tk }:=by
 refine wpAny_pyIter_range (IsRange.new ..) (small_one h1 h2 h3 h4) ?_;have I1:Inv X pins σ H { s with heap:=s.heap.push { cls:=.type "range",data:=.fields #[.int lo t,.int hi u,.int 1 v] },toks:=tk }:=I.kept λb o e=>ηH _ e;refine⟨(s.heap.push { cls:=.type "range",data:=.fields #[.int lo t,.int hi u,.int 1 v] }).objs.size,[(s.heap.push { cls:=.type "range",data:=.fields #[.int lo t,.int hi u,.int 1 v] }).objs.size],_,_,H,rfl,
  I1.kept (t':=tk) λb o e=>ηH _ e,Ad _ lo (hi-lo).toNat,?_,λb hb=>?_,q⟩
 ·have e1:lo+((0:Nat):Int)*1=lo:=by simp
  have e2:(((hi-lo).toNat:Nat):Int)-((0:Nat):Int)=Builtin.Range.rangeSize lo hi 1:=by rw[rangeSize_one];split <;> lia
  show IsRangeIter _ _ (lo+((0:Nat):Int)*1) ((((hi-lo).toNat:Nat):Int)-((0:Nat):Int)) 1;rw[e1,e2];exact ηG _ rfl
 ·have e:b=(s.heap.push { cls:=.type "range",data:=.fields #[.int lo t,.int hi u,.int 1 v] }).objs.size:=by simpa using hb
  subst e;exact I1.fpOk (af _) (I1.hok.fresh (af _))
def Kx(ta:TA):TI:=λσ H R=>ta σ H λvs H1=>∃ j:Int,vs=[.int j] /\ -(2^62)<=j/\j<2^62/\R (JG 0 j.toNat) H1
def Kw(ta:TA):TI:=λσ H R=>ta σ H λvs H1=>∃ i j:Int,vs=[.int i,.int j]/\(-(2^62)<=i/\i<2^62 /\ -(2^62)<=j/\j<2^62)/\R (JG i (j-i).toNat) H1
theorem xC(hg:Gl X "range")(hm:X.mg "range" = none)(ha:PA X [a] ta)(hs:starEach [a] X.env=[(false,eval a X.env)]:=by rfl):PI X tg (.Call (.Name "range" p) [a] [] pos) (Kx ta):=by
 intro pins s σ H R I h;refine Call_ (tV I hg hm boot_range (PyProof.Rows.callWith_type1 (sS (ha pos pins s σ H _ I h) λus s1 ⟨vs,H1,I1,r1,q1⟩=>?_) hs rfl));obtain⟨j,e,q1,q2,q⟩:=q1;subst e;cases r1 with
 | cons r rr =>
  cases rr;obtain⟨t,rfl⟩:=r;exact call_range_1 (yR I1 () () q1 q2 (by simpa using q))
theorem Cc(hg:Gl X "range")(hm:X.mg "range" = none)(ha:PA X [a,b] ta)(hs:starEach [a,b] X.env=[(false,eval a X.env),(false,eval b X.env)]:=by rfl)(hs2:starEach [b] X.env=[(false,eval b X.env)]:=by rfl) :
  PI X tg (.Call (.Name "range" p) [a,b] [] pos) (Kw ta):=by
 intro pins s σ H R I h;refine Call_ (tV I hg hm boot_range (PyProof.Rows.callWith_type1 (sS (ha pos pins s σ H _ I h) λus s1 ⟨vs,H1,I1,r1,q1⟩=>?_) (by rw[hs,hs2]) (by rw[hs2];rfl)));obtain⟨i,j,e,⟨q1,q2,q3,q4⟩,q⟩:=q1;subst e;cases r1 with
 | cons r rr =>
  cases rr with
  | cons r' rr =>
   cases rr;obtain⟨t,rfl⟩:=r;obtain⟨t',rfl⟩:=r';exact call_range_2 (yR I1 q1 q2 q3 q4 q)
def Lz(wi:TI)(g:TG)(tb:TS):TS:=λD σ H=>wi σ H λJ H1=>∃ W:Nat->Nat->St->Hp->Prop,(∃ m,W 0 m σ H1)/\∀ i m σ H,W i m σ H ->
 (J.stop i H/\D.nx σ H)\/(J.go i H/\∃ N:St->Hp->Prop,(∀ σ' H',N σ' H'->∃ m',m'<m/\W (i+1) m' σ' H')/\∀ x H',J.yld i H x H'->g x σ H' λσ2 H2=>tb { D with nx:=N,ct:=N,bk:=D.nx } σ2 H2)
def wI(fp:List Addr)(h:Heap):List (Addr×Obj):=fp.filterMap λb=>(h.get? b).map λo=>(b,o)
theorem ut(hb:b∈fp)(e:h.get? b=some o):(b,o)∈wI fp h:=gV.mpr ⟨b,hb,by rw[e];rfl⟩
theorem Ci(hp:p∈wI fp h):p.1∈fp/\h.get? p.1=some p.2:=by
 obtain⟨b,hb,e⟩:=gV.mp hp;cases q:h.get? b with
 | none=>rw[q] at e;cases e
 | some o =>
  rw[q] at e;have e':(b,o)=p:=Option.some.inj e;subst e';exact⟨hb,q⟩
theorem Inv.pinned(I:Inv X pins σ H s)(hf:∀ b∈fp,uC X pins H b)(ho:∀ b∈fp,∃ o,s.heap.get? b=some o/\∀ v,o.data ≠ .cell v):Inv X (pins++wI fp s.heap) σ H s :=
 I.pins_of λp hp=>(bD.mp hp).elim (λz=>I.pin p (a7 _ z)) λz=>by
  obtain⟨hb,e⟩:=Ci z;obtain⟨f0,f1,f2,_⟩:=hf p.1 hb;obtain⟨o,e',d⟩:=ho p.1 hb;rw[e] at e';cases e';exact⟨e,f0,f1,f2,d⟩
theorem Inv.unpinned(I:Inv X (pins++pl) σ H s):Inv X pins σ H s:=I.pins_of λp hp=>I.pin p (a7 _ (gM _ hp))
theorem Ih(hp:PassesOwn (model X.prog X.w) X.A X.env X.xe)(hc:X.calm=true)(hi:PI X tg iter wi)(hg:PG X tg g)(hb:PSs X body tb)
  (hs:∀ x,foldedSetIterable iter X.env x=pure x:=by intro _;rfl):PS X (.For tg iter body [] pos) (Lz wi g tb):=by
 intro pins s σ H D I h;refine wpAny_For (sS (hi pins s σ H _ I h) λv s1 h1=>sS h1 λitv s2 h2=>?_) hs;obtain⟨it,fp,tn,J,H2,e,I2,T,st2,f2,W,⟨m0,w0⟩,x6⟩:=h2;subst e
 -- what stays true of the iterator's objects through the loop
 have stat:∀{H':Hp},(∀ b∈fp,H' b=none)->∀ b∈fp,uC X pins H' b:=λhn b hb=>⟨hn b hb,(f2 b hb).2⟩;refine codeAny_forLoop_any (λn s'=>∃ i σ' H',Inv X pins σ' H' s'/\tn i s'.heap/\(∀ b∈fp,H' b=none)/\W i n σ' H') ?_ m0 ⟨0,σ,H2,I2,st2,λb hb=>(f2 b hb).1,w0⟩;rintro n s3 ⟨i,σ3,H3,I3,st3,fr3,w3⟩;rcases x6 i n σ3 H3 w3 with⟨stop,qn⟩|⟨go,N,hN,step⟩
 ·refine wpAny_passesOwn hp (sS (T.done X rfl rfl rfl hc i pins s3 σ3 H3 X.xe I3 (stat fr3) st3 stop) λr s4 ⟨hr,I4⟩=>?_);subst hr;exact wpAny_execs_nil ⟨σ3,H3,I4,qn⟩
 ·refine wpAny_passesOwn hp (sS (T.item X rfl rfl rfl hc i pins s3 σ3 H3 X.xe I3 (stat fr3) st3 go) λr s4 ⟨u,hr,h4⟩=>?_);subst hr;refine wpAny_passesOwn hp (sS h4 λ_ s5 ⟨x,H5,I5,r5,y5,st5,fr5⟩=>?_);have I5':=I5.pinned (stat fr5) (T.obj _ _ st5);refine wpAny_passesOwn hp (sS (hg _ s5 σ3 H5 x u _ I5' r5 (step x H5 y5)) λ_ s6 ⟨σ6,H6,I6,q6⟩=>?_);refine wpAny_passesOwn hp (sS (hb _ s6 σ6 H6 _ I6 q6) λf s7 q7=>?_);have again:∀{σ7:St} {H7:Hp},Inv X (pins++wI fp s5.heap) σ7 H7 s7->N σ7 H7->∃ m,m<n/\∃ i σ' H',Inv X pins σ' H' s7/\tn i s7.heap/\(∀ b∈fp,H' b=none)/\W i m σ' H':=λ{σ7 H7} I7 n7=>by
   obtain⟨m',hm,w7⟩:=hN σ7 H7 n7;refine⟨m',hm,i+1,σ7,H7,I7.unpinned,T.keep _ _ _ st5 λb hb o e=>(I7.pin (b,o) (a7 _ (a7 _ (ut hb e)))).1,λb hb=>?_,w7⟩;obtain⟨o,e,d⟩:=T.obj _ _ st5 b hb;exact (I7.pin (b,o) (a7 _ (a7 _ (ut hb e)))).2.1
  cases f with
  | next=>obtain⟨σ7,H7,I7,n7⟩:=q7;exact again I7 n7
  | cont=>obtain⟨σ7,H7,I7,n7⟩:=q7;exact again I7 n7
  | brk=>obtain⟨σ7,H7,I7,q7⟩:=q7;exact⟨σ7,H7,I7.unpinned,q7⟩
  | ret v=>obtain⟨x7,σ7,H7,I7,r7,q7⟩:=q7;exact⟨x7,σ7,H7,I7.unpinned,r7,q7⟩
end
abbrev R2:=V->V->Hp->VK->Prop
def OpR(X:Cx)(f:Value->Value->Sem Value)(r:R2):Prop :=
 ∀(pins:List (Addr×Obj)) (s:Shared) (σ:St) (H:Hp) (x y:V) (v u:Value) (Q:VK),Inv X pins σ H s->RelV x v->RelV y u->r x y H Q ->
  wpAny (model X.prog X.w) X.A (f v u) (EP X pins σ Q) X.xe s
def Mu(X:Cx)(f:Value->Sem Value)(r:V->Hp->VK->Prop):Prop :=
 ∀(pins:List (Addr×Obj)) (s:Shared) (σ:St) (H:Hp) (x:V) (v:Value) (Q:VK),Inv X pins σ H s->RelV x v->r x H Q ->
  wpAny (model X.prog X.w) X.A (f v) (EP X pins σ Q) X.xe s
def CallR(X:Cx)(f:Value)(r:List V->Hp->VK->Prop):Prop :=
 ∀(pins:List (Addr×Obj)) (s:Shared) (σ:St) (H:Hp) (xs:List V) (us:List Value) (Q:VK),Inv X pins σ H s->Vals xs us->r xs H Q ->
  wpAny (model X.prog X.w) X.A (call f us) (EP X pins σ Q) X.xe s
def Mv(X:Cx)(r:V->Hp->(Bool->Hp->Prop)->Prop):Prop :=
 ∀(pins:List (Addr×Obj)) (s:Shared) (σ:St) (H:Hp) (x:V) (v:Value) (Q:Bool->Hp->Prop),Inv X pins σ H s->RelV x v->r x H Q ->
  wpAny (model X.prog X.w) X.A (truthy v) (TP X pins σ Q) X.xe s
def JR(r:R2)(ta tb:TE):TE:=λσ H Q=>ta σ H λx H1=>tb σ H1 λy H2=>r x y H2 Q
def M8(r:V->Hp->VK->Prop)(ta:TE):TE:=λσ H Q=>ta σ H λx H1=>r x H1 Q
def rI(C:Int->Int->Prop)(g:Int->Int->V):R2:=λx y H Q=>∃ i j,x = .int i/\y = .int j/\C i j/\Q (g i j) H
def Dn(g:Int->Int->V):R2:=λx y H Q=>∃ i j,x = .int i/\y = .int j/\Q (g i j) H
def rU(g:Int->V):V->Hp->VK->Prop:=λx H Q=>∃ i,x = .int i/\Q (g i) H
section
variable{X:Cx}{a b c:Expr}{ta tb tc:TE}{pos:Pos}
theorem Jq(ha:PE X a ta)(hb:PE X b tb){pins:List (Addr×Obj)}{s:Shared}{σ:St}{H:Hp}{R:V->V->Hp->Prop}(I:Inv X pins σ H s)
  (h:ta σ H λx H1=>tb σ H1 λy H2=>R x y H2) {Q:Value->Shared->Prop} {f:Value->Value->Sem Value}
  (hf:∀ v u s2 x y H2,Inv X pins σ H2 s2->RelV x v->RelV y u->R x y H2->wpAny (model X.prog X.w) X.A (f v u) Q X.xe s2) :
  wpAny (model X.prog X.w) X.A (eval a X.env) (λv s₁=>wpAny (model X.prog X.w) X.A (eval b X.env) (λu s₂=>wpAny (model X.prog X.w) X.A (f v u) Q X.xe s₂) X.xe s₁) X.xe s:=by
 refine sS (ha pins s σ H _ I h) λv s1 ⟨x,H1,I1,r1,q1⟩=>?_;refine sS (hb pins s1 σ H1 _ I1 q1) λu s2 ⟨y,H2,I2,r2,q2⟩=>?_;exact hf v u s2 x y H2 I2 r1 r2 q2
theorem tf{op:Operator}{r:R2}(ho:OpR X (binaryOp op) r)(ha:PE X a ta)(hb:PE X b tb):PE X (.BinOp a op b pos) (JR r ta tb):=by
 intro pins s σ H Q I h;exact wpAny_BinOp (Jq ha hb I h λv u s2 x y H2 I2 rx ry q=>ho pins s2 σ H2 x y v u Q I2 rx ry q)
theorem GK(ho:Mu X (unaryOp op) r)(ha:PE X a ta):PE X (.UnaryOp op a pos) (M8 r ta):=by
 intro pins s σ H Q I h;exact UnaryOp_ (sS (ha pins s σ H _ I h) λv s1 ⟨x,H1,I1,r1,q1⟩=>ho pins s1 σ H1 x v Q I1 r1 q1)
theorem GQ{f:Value->Value->Sem Value}{C:Int->Int->Prop}{g:Int->Int->Int}
  (rule:∀(i j:Int) (t u:Tok) (s:Shared) (Q:Value->Shared->Prop) (E:Value->Shared->Prop),C i j->Q (.int (g i j) s.toks) { s with toks:=s.toks+1 }->wpAny (model X.prog X.w) X.A (f (.int i t) (.int j u)) Q E s) :
  OpR X f (rI C λi j=>.int (g i j)):=by
 intro pins s σ H x y v u Q I rx ry h;obtain⟨i,j,rfl,rfl,hc,q⟩:=h;obtain⟨t,rfl⟩:=rx;obtain⟨t',rfl⟩:=ry;exact rule i j t t' s _ _ hc ⟨.int (g i j),H,I.tok _,⟨_,rfl⟩,q⟩
theorem FM{f:Value->Value->Sem Value}{g:Int->Int->Int}
  (rule:∀(i j:Int) (t u:Tok) (s:Shared) (Q:Value->Shared->Prop) (E:Value->Shared->Prop),Q (.int (g i j) s.toks) { s with toks:=s.toks+1 }->wpAny (model X.prog X.w) X.A (f (.int i t) (.int j u)) Q E s) :
  OpR X f (Dn λi j=>.int (g i j)):=by
 intro pins s σ H x y v u Q I rx ry h;obtain⟨i,j,rfl,rfl,q⟩:=h;obtain⟨t,rfl⟩:=rx;obtain⟨t',rfl⟩:=ry;exact rule i j t t' s _ _ ⟨.int (g i j),H,I.tok _,⟨_,rfl⟩,q⟩
theorem FN{f:Value->Value->Sem Value}{g:Int->Int->Bool}
  (rule:∀(i j:Int) (t u:Tok) (s:Shared) (Q:Value->Shared->Prop) (E:Value->Shared->Prop),Q (.bool (g i j)) s->wpAny (model X.prog X.w) X.A (f (.int i t) (.int j u)) Q E s) :
  OpR X f (Dn λi j=>.bl (g i j)):=by
 intro pins s σ H x y v u Q I rx ry h;obtain⟨i,j,rfl,rfl,q⟩:=h;obtain⟨t,rfl⟩:=rx;obtain⟨t',rfl⟩:=ry;exact rule i j t t' s _ _ ⟨.bl (g i j),H,I,rfl,q⟩
def MD(i j:Int):Prop:=0<j/\j<1073741824
def E5(i j:Int):Prop:=0<=j/\j<=1000000/\i.natAbs<2^64
def CMul(i j:Int):Prop:=(-(2^64)<i/\i<2^64)\/(-(2^64)<j/\j<2^64)
theorem CMul.ok(h:CMul i j):IntMulOk i j:=by
 rcases h with⟨h1,h2⟩|⟨h1,h2⟩
 ·exact .of_left (intBits_le_64 h1 h2)
 ·exact .of_right (intBits_le_64 h1 h2)
theorem uq:OpR X (binaryOp .Add) (Dn λi j=>.int (i+j)):=FM λ_ _ _ _ _ _ _ q=>add_int q
theorem Ip:OpR X (binaryOp .Sub) (Dn λi j=>.int (i-j)):=FM λ_ _ _ _ _ _ _ q=>sub_int q
theorem Aw:OpR X (binaryOp .Mult) (rI CMul λi j=>.int (i*j)):=GQ λ_ _ _ _ _ _ _ hc q=>mul_int q hc.ok
theorem Bo:OpR X (binaryOp .FloorDiv) (rI MD λi j=>.int (i / j)):=GQ λi j _ _ _ _ _ hc q=>by
 have h1:(0:Int)<j:=hc.1;have h2:j<1073741824:=hc.2;exact floordiv_int () (by rw[cQ i ()];exact q) (.inl (PyProof.noPylong_small ()))
theorem vc:OpR X (binaryOp .Mod) (rI (λ_ j=>0<j) λi j=>.int (i%j)):=GQ λi j _ _ _ _ _ hc q=>by
 have h1:(0:Int)<j:=hc;exact mod_int' () (by rw[gy i ()];exact q)
theorem FK:OpR X (binaryOp .Mod) (rI (λ_ j=>j≠0) λi j=>.int (i.fmod j)):=GQ λ_ _ _ _ _ _ _ hc q=>mod_int' hc q
theorem DR:OpR X (binaryOp .Pow) (rI E5 λi j=>.int (i^j.toNat)):=GQ λ_ _ _ _ _ _ _ hc q=>pow_int_small hc.1 hc.2.1 hc.2.2 q
theorem Iq:OpR X (binaryOp .LShift) (rI E5 λi j=>.int (i*2^j.toNat)):=GQ λ_ _ _ _ _ _ _ hc q=>lshift_int_small hc.1 hc.2.1 hc.2.2 q
theorem F8:OpR X (inplaceOp .Add) (Dn λi j=>.int (i+j)):=FM λ_ _ _ _ _ _ _ q=>iadd_int q
theorem F7:OpR X (inplaceOp .Sub) (Dn λi j=>.int (i-j)):=FM λ_ _ _ _ _ _ _ q=>isub_int q
theorem M7{f:Value->Sem Value}{g:Int->Int}
  (rule:∀(i:Int) (t:Tok) (s:Shared) (Q:Value->Shared->Prop) (E:Value->Shared->Prop),Q (.int (g i) s.toks) { s with toks:=s.toks+1 }->wpAny (model X.prog X.w) X.A (f (.int i t)) Q E s) :
  Mu X f (rU λi=>.int (g i)):=by
 intro pins s σ H x v Q I rx h;obtain⟨i,rfl,q⟩:=h;obtain⟨t,rfl⟩:=rx;exact rule i t s _ _ ⟨.int (g i),H,I.tok _,⟨_,rfl⟩,q⟩
theorem CZ:Mu X (unaryOp .USub) (rU λi=>.int (-i)):=M7 λ_ _ _ _ _ q=>neg_int q
end
def HK:V->V->Bool
 | .non,.non=>true | .non,.int _=>true | .int _,.non=>true | .non,.bl _=>true | .bl _,.non=>true | .non,.str _=>true | .str _,.non=>true
 | .int _,.int _=>true | .bl _,.bl _=>true | .str _,.str _=>true | .byt _,.byt _=>true
 | .int _,.str _=>true | .str _,.int _=>true | .bl _,.str _=>true | .str _,.bl _=>true
 | _,_=>false
def Ni:R2:=λx y H Q=>HK x y=true/\Q (.bl (decide (x=y))) H
def Nh:R2:=λx y H Q=>HK x y=true/\Q (.bl (!decide (x=y))) H
theorem BL:decide (V.int i=V.int j)=(i == j):=by
 rw[cq];simp
theorem Eu:decide (V.bl i=V.bl j)=(i == j):=by
 rw[cq];simp
theorem BK:decide (V.str i=V.str j)=(i == j):=by
 rw[cq];simp
theorem BM:decide (V.byt i=V.byt j)=(i.toList == j.toList):=by
 rw[cq];cases i;cases j;simp
section
variable{X:Cx}{a b c:Expr}{ta tb tc:TE}{pos:Pos}
theorem sC(I:Inv X pins σ H s)(q:Q (.bl k) H)(e:k=k'):EP X pins σ Q (.bool k') s:=by
 subst e;exact⟨.bl k,H,I,rfl,q⟩
theorem yV:OpR X (compareOp .Eq) Ni:=by
 intro pins s σ H x y v u Q I rx ry h;obtain⟨hs,q⟩:=h;cases x with
 | non =>
  cases rx;cases y with
  | non=>cases ry;exact PySem.EqNone.eq_none_none (sC I q (by simp))
  | bl j=>cases ry;exact PySem.EqNone.eq_none_bool (sC I q (by simp))
  | int j=>obtain⟨t',rfl⟩:=ry;exact PySem.EqNone.eq_none_int (sC I q (by simp))
  | str j=>obtain⟨t',rfl⟩:=ry;exact PySem.EqNone.eq_none_str (sC I q (by simp))
  | _=>exact absurd (show false=true from hs) aD
 | bl i =>
  cases rx;cases y with
  | non=>cases ry;exact PySem.EqNone.eq_bool_none (sC I q (by simp))
  | bl j=>cases ry;exact eq_bool (sC I q Eu)
  | str j=>obtain⟨t',rfl⟩:=ry;exact PySem.EqMixed.eq_bool_str (sC I q (by simp))
  | _=>exact absurd (show false=true from hs) aD
 | int i =>
  obtain⟨t,rfl⟩:=rx;cases y with
  | non=>cases ry;exact PySem.EqNone.eq_int_none (sC I q (by simp))
  | int j=>obtain⟨t',rfl⟩:=ry;exact eq_int (sC I q BL)
  | str j=>obtain⟨t',rfl⟩:=ry;exact PySem.EqMixed.eq_int_str (sC I q (by simp))
  | _=>exact absurd (show false=true from hs) aD
 | str i =>
  obtain⟨t,rfl⟩:=rx;cases y with
  | non=>cases ry;exact PySem.EqNone.eq_str_none (sC I q (by simp))
  | bl j=>cases ry;exact PySem.EqMixed.eq_str_bool (sC I q (by simp))
  | int j=>obtain⟨t',rfl⟩:=ry;exact PySem.EqMixed.eq_str_int (sC I q (by simp))
  | str j=>obtain⟨t',rfl⟩:=ry;exact eq_str (sC I q BK)
  | _=>exact absurd (show false=true from hs) aD
 | byt i =>
  obtain⟨t,rfl⟩:=rx;cases y with
  | byt j=>obtain⟨t',rfl⟩:=ry;exact PySem.W.eq_bytes (sC I q BM)
  | _=>exact absurd (show false=true from hs) aD
 | _=>cases y <;> exact absurd (show false=true from hs) aD
theorem DS:OpR X (compareOp .NotEq) Nh:=by
 intro pins s σ H x y v u Q I rx ry h;obtain⟨hs,q⟩:=h;cases x with
 | non =>
  cases rx;cases y with
  | non=>cases ry;exact PySem.EqNone.ne_none_none (sC I q (by simp))
  | bl j=>cases ry;exact PySem.EqNone.ne_none_bool (sC I q (by simp))
  | int j=>obtain⟨t',rfl⟩:=ry;exact PySem.EqNone.ne_none_int (sC I q (by simp))
  | str j=>obtain⟨t',rfl⟩:=ry;exact PySem.EqNone.ne_none_str (sC I q (by simp))
  | _=>exact absurd (show false=true from hs) aD
 | bl i =>
  cases rx;cases y with
  | non=>cases ry;exact PySem.EqNone.ne_bool_none (sC I q (by simp))
  | bl j=>cases ry;exact ne_bool (sC I q (congrArg not Eu))
  | str j=>obtain⟨t',rfl⟩:=ry;exact PySem.EqMixed.ne_bool_str (sC I q (by simp))
  | _=>exact absurd (show false=true from hs) aD
 | int i =>
  obtain⟨t,rfl⟩:=rx;cases y with
  | non=>cases ry;exact PySem.EqNone.ne_int_none (sC I q (by simp))
  | int j=>obtain⟨t',rfl⟩:=ry;exact ne_int (sC I q (congrArg not BL))
  | str j=>obtain⟨t',rfl⟩:=ry;exact PySem.EqMixed.ne_int_str (sC I q (by simp))
  | _=>exact absurd (show false=true from hs) aD
 | str i =>
  obtain⟨t,rfl⟩:=rx;cases y with
  | non=>cases ry;exact PySem.EqNone.ne_str_none (sC I q (by simp))
  | bl j=>cases ry;exact PySem.EqMixed.ne_str_bool (sC I q (by simp))
  | int j=>obtain⟨t',rfl⟩:=ry;exact PySem.EqMixed.ne_str_int (sC I q (by simp))
  | str j=>obtain⟨t',rfl⟩:=ry;exact ne_str (sC I q (congrArg not BK))
  | _=>exact absurd (show false=true from hs) aD
 | byt i =>
  obtain⟨t,rfl⟩:=rx;cases y with
  | byt j=>obtain⟨t',rfl⟩:=ry;exact PySem.W.ne_bytes (sC I q (congrArg not BM))
  | _=>exact absurd (show false=true from hs) aD
 | _=>cases y <;> exact absurd (show false=true from hs) aD
theorem GN:OpR X (compareOp .Lt) (Dn λi j=>.bl (decide (i<j))):=FN λ_ _ _ _ _ _ _ q=>lt_int q
theorem Kl:OpR X (compareOp .LtE) (Dn λi j=>.bl (decide (i<=j))):=FN λ_ _ _ _ _ _ _ q=>le_int q
theorem GO:OpR X (compareOp .Gt) (Dn λi j=>.bl (decide (j<i))):=FN λ_ _ _ _ _ _ _ q=>gt_int q
theorem GP:OpR X (compareOp .GtE) (Dn λi j=>.bl (decide (j<=i))):=FN λ_ _ _ _ _ _ _ q=>ge_int q
theorem Iu:OpR X (compareOp .Is) (λx y H Q=>y = .non/\Q (.bl (decide (x = .non))) H):=by
 intro pins s σ H x y v u Q I rx ry h;obtain⟨rfl,q⟩:=h;cases ry;refine is_none_gen (sC I q ?_);cases x <;> first
  | (cases rx;rfl)
  | (obtain⟨t,rfl⟩:=rx;rfl)
theorem FH:OpR X (compareOp .IsNot) (λx y H Q=>y = .non/\Q (.bl (!decide (x = .non))) H):=by
 intro pins s σ H x y v u Q I rx ry h;obtain⟨rfl,q⟩:=h;cases ry;refine isnot_none_gen (sC I q ?_);cases x <;> first
  | (cases rx;rfl)
  | (obtain⟨t,rfl⟩:=rx;rfl)
theorem ur(b:Expr)(h:op ≠ .In:=by decide)(h2:op ≠ .NotIn:=by decide):behindInMarks op b=false:=by
 have e1:(op == CmpOp.In)=false:=by cases op <;> first|rfl|exact absurd rfl h
 have e2:(op == CmpOp.NotIn)=false:=by cases op <;> first|rfl|exact absurd rfl h2
 cases b <;> simp[behindInMarks,e1,e2]
theorem wc{op:CmpOp}{r:R2}(ho:OpR X (compareOp op) r)(ha:PE X a ta)(hb:PE X b tb)(hm:behindInMarks op b=false):PE X (.Compare a [op] [b] pos) (JR r ta tb):=by
 intro pins s σ H Q I h;exact wpAny_Compare1 (Jq ha hb I h λv u s2 x y H2 I2 rx ry q=>ho pins s2 σ H2 x y v u Q I2 rx ry q) hm
def C5(t:TE):TT:=λσ H Q=>t σ H λx H'=>∃ k,x = .bl k/\Q k H'
theorem uo{op:CmpOp}{r:R2}(ho:OpR X (compareOp op) r)(ha:PE X a ta)(hb:PE X b tb)(hm:behindInMarks op b=false):PT X (.Compare a [op] [b] pos) (C5 (JR r ta tb)):=by
 intro pins s σ H Q I h;refine wpAny_isTrue_Compare1 (sS (ha pins s σ H _ I h) λv s1 ⟨x,H1,I1,r1,q1⟩=>sS (hb pins s1 σ H1 _ I1 q1) λu s2 ⟨y,H2,I2,r2,q2⟩ =>
  sS (ho pins s2 σ H2 x y v u _ I2 r1 r2 q2) λc s3 ⟨z,H3,I3,r3,k,e,q3⟩=>?_) hm
 subst e;cases r3;exact wpAny_truthy_bool ⟨H3,I3,q3⟩
def C6(r r':R2)(ta tb tc:TE):TE:=λσ H Q=>ta σ H λx H1=>tb σ H1 λy H2=>r x y H2 λz H3=>∃ k,z = .bl k /\
 (if k=true then tc σ H3 λw' H4=>r' y w' H4 Q else Q (.bl false) H3)
theorem DF(ho:OpR X (compareOp op) r)(ho':OpR X (compareOp op') r')(ha:PE X a ta)(hb:PE X b tb)(hc:PE X c tc)
  (hm:lastMarks [op,op'] [b,c]=false:=by with_unfolding_all rfl):PE X (.Compare a [op,op'] [b,c] pos) (C6 r r' ta tb tc):=by
 intro pins s σ H Q I h;refine Compare_chain (sS (ha pins s σ H _ I h) λv s1 ⟨x,H1,I1,r1,q1⟩=>chain_link (sS (hb pins s1 σ H1 _ I1 q1) λu s2 ⟨y,H2,I2,r2,q2⟩ =>
  sS (ho pins s2 σ H2 x y v u _ I2 r1 r2 q2) λd s3 ⟨z,H3,I3,r3,k,e,q3⟩=>?_)) hm
 subst e;cases r3;refine wpAny_truthy_bool ?_;cases k with
 | false=>exact ite_ff ⟨.bl false,H3,I3,rfl,q3⟩
 | true=>exact ite_tt (chain_last (sS (hc pins s3 σ H3 _ I3 q3) λw' s4 ⟨z',H4,I4,r4,q4⟩=>ho' pins s4 σ H4 y z' u w' Q I4 r2 r4 q4))
theorem Du(ho:OpR X (compareOp op) r)(ho':OpR X (compareOp op') r')(ha:PE X a ta)(hb:PE X b tb)(hc:PE X c tc)
  (hm:lastMarks [op,op'] [b,c]=false:=by with_unfolding_all rfl):PT X (.Compare a [op,op'] [b,c] pos) (C5 (C6 r r' ta tb tc)):=by
 intro pins s σ H Q I h;refine isTrue_chain (sS (ha pins s σ H _ I h) λv s1 ⟨x,H1,I1,r1,q1⟩=>test_link (sS (hb pins s1 σ H1 _ I1 q1) λu s2 ⟨y,H2,I2,r2,q2⟩ =>
  sS (ho pins s2 σ H2 x y v u _ I2 r1 r2 q2) λd s3 ⟨z,H3,I3,r3,k,e,q3⟩=>?_)) hm
 subst e;cases r3;refine wpAny_truthy_bool ?_;cases k with
 | false =>
  obtain⟨k',e',q'⟩:=q3;cases e';exact ite_ff ⟨H3,I3,q'⟩
 | true =>
  refine ite_tt (test_last (sS (hc pins s3 σ H3 _ I3 q3) λw' s4 ⟨z',H4,I4,r4,q4⟩=>sS (ho' pins s4 σ H4 y z' u w' _ I4 r2 r4 q4) λd' s5 ⟨z2,H5,I5,r5,k2,e2,q5⟩=>?_));subst e2;cases r5;exact wpAny_truthy_bool ⟨H5,I5,q5⟩
def Jt(K:Frag)(x:V)(H:Hp)(k:Bool):Prop :=
 match x with
 | .non=>k=false
 | .bl b=>k=b
 | .int i=>k=(i != 0)
 | .str y=>y.length<=sizeLine/\k=((y.length:Int) != 0)
 | .byt y=>y.size<=sizeLine/\k=((y.size:Int) != 0)
 | .ref p=>(∃ xs,SqL K H p xs/\k = !xs.isEmpty)\/(∃ xs,SqT K H p xs/\k = !xs.isEmpty)\/∃ kvs,H p=some (.dK kvs)/\k = !kvs.isEmpty
 | _=>False
theorem AE{κ:Type}{kvs:List (κ×V)}{vs:List (κ×Value)}(r:KV kvs vs):(!vs.isEmpty) = !kvs.isEmpty:=by
 cases r <;> rfl
theorem wO(r:Vals xs its):(!its.toArray.isEmpty) = !xs.isEmpty:=by
 cases r <;> simp
theorem uc:(sizeLine:Nat)<2^63:=by rw[sizeLine_eq];decide
theorem Hx:Mv X (λx H Q=>∃ k,Jt X.K x H k/\Q k H):=by
 intro pins s σ H x v Q I rx h;obtain⟨k,e,q⟩:=h;have hl:=uc;have hs:sizeLine=16777216:=sizeLine_eq;cases x with
 | non =>
  cases rx;have e':k=false:=e;subst e';exact truthy_none ⟨H,I,q⟩
 | bl b =>
  cases rx;have e':k=b:=e;subst e';exact wpAny_truthy_bool ⟨H,I,q⟩
 | int i =>
  obtain⟨t,rfl⟩:=rx;have e':k=(i != 0):=e;subst e';exact PySem.P.truthy_int ⟨H,I,q⟩
 | str y =>
  obtain⟨t,rfl⟩:=rx;obtain⟨hy,e'⟩:y.length<=sizeLine/\k=((y.length:Int) != 0):=e;subst e';exact PySem.P.truthy_str () ⟨H,I.tok _,q⟩
 | byt y =>
  obtain⟨t,rfl⟩:=rx;obtain⟨hy,e'⟩:y.size<=sizeLine/\k=((y.size:Int) != 0):=e;subst e';exact PySem.W.truthy_bytes () ⟨H,I.tok _,q⟩
 | ref p =>
  cases rx;have e':(∃ xs,SqL X.K H p xs/\k = !xs.isEmpty)\/(∃ xs,SqT X.K H p xs/\k = !xs.isEmpty)\/∃ kvs,H p=some (.dK kvs)/\k = !kvs.isEmpty:=e;rcases e' with⟨xs,hx,e'⟩|⟨xs,hx,e'⟩|⟨kvs,hx,e'⟩
  ·subst e';obtain⟨its,r,pl,hz⟩:=I.list hx;have hlen:=r.length;exact wpAny_truthy_list pl.isList (by simp only[ao];lia) ⟨H,I.tok _,by rw[wO r];exact q⟩
  ·subst e';obtain⟨its,r,pl,hz⟩:=I.tuple hx;have hlen:=r.length;exact truthy_tuple pl (by simp only[ao];lia) ⟨H,I.tok _,by rw[wO r];exact q⟩
  ·subst e';obtain⟨hz,hS,vs,r,m⟩:kvs.length<=sizeLine/\(p == sysModules)=false/\∃ vs,KV kvs vs/\s.heap.DictOf (vt X.prog X.w) p vs:=I.hok p _ hx;have hlen:kvs.length=vs.length:=Paired.length r;exact wpAny_truthy_dict hS m () ⟨H,I.tok _,by rw[AE r];exact q⟩
 | _=>exact (show False from e).elim
theorem yS(ha:PE X a ta)(he:∀ whole,isTrue a X.env whole=(do let v ← whole;standAt a.pos;holding [v] (truthy v))) :
  PT X a (λσ H Q=>ta σ H λx H'=>∃ k,Jt X.K x H' k/\Q k H'):=by
 intro pins s σ H Q I h;exact isTrue_plain (sS (ha pins s σ H _ I h) λv s1 ⟨x,H1,I1,r1,q1⟩=>Hx pins s1 σ H1 x v Q I1 r1 q1) (he _)
theorem Ax:OpR X (binaryOp .Add) (λx y H Q=>∃ i j,x = .str i/\y = .str j/\i.length+j.length<=sizeLine/\Q (.str (i++j)) H):=by
 intro pins s σ H x y v u Q I rx ry h;obtain⟨i,j,rfl,rfl,hz,q⟩:=h;obtain⟨t,rfl⟩:=rx;obtain⟨t',rfl⟩:=ry;exact add_str (λt' tk=>⟨.str (i++j),H,I.tok _,⟨_,rfl⟩,q⟩) hz
theorem y6:OpR X (inplaceOp .Add) (λx y H Q=>∃ i j,x = .str i/\y = .str j/\i.length+j.length<=sizeLine/\Q (.str (i++j)) H):=by
 intro pins s σ H x y v u Q I rx ry h;obtain⟨i,j,rfl,rfl,hz,q⟩:=h;obtain⟨t,rfl⟩:=rx;obtain⟨t',rfl⟩:=ry;exact iadd_str (λt' tk=>⟨.str (i++j),H,I.tok _,⟨_,rfl⟩,q⟩) hz
theorem ww(r:Vals [x] us):∃ u,us=[u]/\RelV x u:=by
 cases r with
 | cons r1 r2=>cases r2;exact⟨_,rfl,r1⟩
theorem Gu(r:Vals [x,y] us):∃ u w',us=[u,w']/\RelV x u/\RelV y w':=by
 cases r with
 | cons r1 r2 =>
  cases r2 with
  | cons r3 r4=>cases r4;exact⟨_,_,rfl,r1,r3⟩
theorem EN:CallR X (.builtin "abs") (λxs H Q=>∃ i,xs=[.int i]/\Q (.int (if i<0 then -i else i)) H):=by
 intro pins s σ H xs us Q I r h;obtain⟨i,rfl,q⟩:=h;obtain⟨u,rfl,t,rfl⟩:=ww r;exact call_abs_int λu tk=>⟨.int (if i<0 then -i else i),H,I.tok _,⟨_,rfl⟩,q⟩
theorem CO(hc:X.calm=true):CallR X (.builtin "max") (λxs H Q=>∃ i j,xs=[.int i,.int j]/\Q (.int (if j > i then j else i)) H):=by
 intro pins s σ H xs us Q I r h;obtain⟨i,j,rfl,q⟩:=h;obtain⟨u,w',rfl,⟨t,rfl⟩,⟨t',rfl⟩⟩:=Gu r;refine max_two_ints (I.ok.hd hc) λh' tk k=>⟨_,H,I.kept k,?_,q⟩;by_cases hj:j > i
 ·rw[if_pos hj,if_pos hj];exact⟨_,rfl⟩
 ·rw[if_neg hj,if_neg hj];exact⟨_,rfl⟩
theorem CN(hc:X.calm=true):CallR X (.builtin "min") (λxs H Q=>∃ i j,xs=[.int i,.int j]/\Q (.int (if j<i then j else i)) H):=by
 intro pins s σ H xs us Q I r h;obtain⟨i,j,rfl,q⟩:=h;obtain⟨u,w',rfl,⟨t,rfl⟩,⟨t',rfl⟩⟩:=Gu r;refine min_two_ints (I.ok.hd hc) λh' tk k=>⟨_,H,I.kept k,?_,q⟩;by_cases hj:j<i
 ·rw[if_pos hj,if_pos hj];exact⟨_,rfl⟩
 ·rw[if_neg hj,if_neg hj];exact⟨_,rfl⟩
theorem CP:CallR X (.type "int") (λxs H Q=>(∃ i,xs=[.int i]/\Q (.int i) H)\/∃ k,xs=[.bl k]/\Q (.int (if k then 1 else 0)) H):=by
 intro pins s σ H xs us Q I r h;rcases h with⟨i,rfl,q⟩|⟨k,rfl,q⟩
 ·obtain⟨u,rfl,t,rfl⟩:=ww r;exact call_int_int ⟨.int i,H,I,⟨_,rfl⟩,q⟩
 ·obtain⟨u,rfl,r1⟩:=ww r;cases r1;exact call_int_bool ⟨.int (if k then 1 else 0),H,I.tok _,⟨_,rfl⟩,q⟩
end
structure ObjM (h:Heap)(x dx C:Addr)(mA:Str->Option Value):Prop where
 obj:h.get? x=some (PySem.W.instObj C dx)
 ns:h.Ns1 dx mA
 ne:dx≠x
theorem Cq{h:Heap}{dx:Addr}{mA:Str->Option Value}(n:h.Ns1 dx mA):∃ od,h.get? dx=some od/\∀ name,PySem.W.lookIn name od=some (mA name):=by
 obtain⟨o,es,ep,ho,hd,hk,_,hm⟩:=n;refine⟨o,ho,λname=>?_⟩;have e:=hm name;unfold nsFind findBy at e;rw[← Array.find?_toList] at e;unfold PySem.W.lookIn;rw[hd];dsimp only;split
 ·rename_i y q;rw[q] at e;exact congrArg some e
 ·rename_i q;rw[q] at e;have a:es.toList.any (·.refKey)=false:=by
   rw[List.any_eq_false];intro y hy;obtain⟨z,t,hkey⟩:=hk y (Array.mem_toList_iff.mp hy);simp[DictEntry.refKey,hkey]
  have a':¬ es.toList.any (·.refKey)=true:=by rw[a];exact aD
  rw[if_neg a'];exact congrArg some e
theorem ObjM.look(I:ObjM h x dx C mA):∃ od,PySem.W.InstAt h x (PySem.W.instObj C dx) C (some od)/\∀ name,PySem.W.lookIn name od=some (mA name) :=
 let ⟨od,ho,hl⟩:=Cq I.ns
 ⟨od,⟨I.obj,rfl,rfl,ho⟩,hl⟩
section
variable{P:Program}{w:World}{H H':Hp}{h h':Heap}{a C dx:Addr}{fs fs':List (Str×V)}
theorem F9(hok:HOk P w H h)(e:H a=some (.ins C dx fs)):∃ mA,ObjM h a dx C mA/\(∀ f,Jv (fs.lookup f) (mA f))/\PySem.Within mA (fs.map (·.1))/\fs.length<=1000/\H dx=some (.own a):=by
 obtain⟨d,z,ne,ob,mA,n,r,q⟩:=(show ObjOk P w H h a (.ins C dx fs) from hok a _ e);exact⟨mA,⟨ob,n,ne⟩,r,q,z,d⟩
end
structure Cls (K:Frag)(C:Addr):Prop where
 pg:PySem.W.plainGet K C Str.empty=true
 hd:PySem.W.hasDictIn K C=true
 po:PySem.W.plainOver K C=true
 sa:PySem.W.findIn K (.ref C) "__setattr__" = some (some (.builtin "object.__setattr__"))
theorem Cls.get{K:Frag}{C:Addr}(c:Cls K C)(f:Str):PySem.W.plainGet K C f=true:=c.pg
section
variable{X:Cx}{pins:List (Addr×Obj)}{σ:St}{H:Hp}{s:Shared}{A:Around}{E:Value->Shared->Prop}{Q:Value->Shared->Prop}{c:Value}{b:Bool}
inductive TyOf (K:Frag) (H:Hp):V->Value->Prop where
 | non:TyOf K H .non (.type "NoneType")
 | bl (x:Bool):TyOf K H (.bl x) (.type "bool")
 | int (i:Int):TyOf K H (.int i) (.type "int")
 | str (x:Str):TyOf K H (.str x) (.type "str")
 | flt (x:UInt64):TyOf K H (.flt x) (.type "float")
 | lst {a:Addr} {xs:List V} (e:H a=some (.lst xs)):TyOf K H (.ref a) (.type "list")
 | frz {a:Addr} {o:Obj} {xs:List V} (e:H a=some (.frz o (.lst xs))):TyOf K H (.ref a) (.type "list")
 | tup {a:Addr} {xs:List V} (e:H a=some (.tup xs)):TyOf K H (.ref a) (.type "tuple")
 | dK {a:Addr} {kvs:List (wp×V)} (e:H a=some (.dK kvs)):TyOf K H (.ref a) (.type "dict")
 | dT {a:Addr} {kvs:List (List wp×V)} (e:H a=some (.dT kvs)):TyOf K H (.ref a) (.type "dict")
 | ins {a C dx:Addr} {fs:List (Str×V)} (e:H a=some (.ins C dx fs)) (cl:Cls K C) (ha:PySem.W.findIn K (.ref C) "__class__" = some (some (.builtin "object.__class__")))
   (hn:PySem.W.specialIn K (.builtin "object.__class__") "__get__" = some (some (.builtin "getset_descriptor.__get__"))) (htk:PySem.W.takesIn K (.builtin "object.__class__")=some true)
   (hm:PySem.W.mroIn K C (.type "object")=some true):TyOf K H (.ref a) (.ref C)
theorem Cy(I:Inv X pins σ H s)(rx:RelV x u)(ty:TyOf X.K H x t)(e:PySem.W.kitOne X.K t c=some b)(h:∀ tk,Q (.bool b) { s with toks:=tk }) :
  wpAny (model X.prog X.w) A (call (.builtin "isinstance") [u,c]) Q E s:=by
 cases ty with
 | non=>cases (show u=Value.none from rx);exact PySem.W.kia_one PySem.W.kitx_none I.kIn True.intro e (λz=>nomatch z) h
 | bl y=>cases (show u=Value.bool y from rx);exact PySem.W.kia_one PySem.W.kitx_bool I.kIn True.intro e (λz=>nomatch z) h
 | int i=>obtain⟨t,q⟩:=(show ∃ t,u=Value.int i t from rx);cases q;exact PySem.W.kia_one PySem.W.kitx_int I.kIn True.intro e (λz=>nomatch z) h
 | str y=>obtain⟨t,q⟩:=(show ∃ t,u=Value.str y t from rx);cases q;exact PySem.W.kia_one PySem.W.kitx_str I.kIn True.intro e (λz=>nomatch z) h
 | flt y=>obtain⟨t,q⟩:=(show ∃ t,u=Value.float y t from rx);cases q;exact PySem.W.kia_one PySem.W.kitx_float I.kIn True.intro e (λz=>nomatch z) h
 | @lst a xs ea =>
  cases (show u=Value.ref a from rx);obtain⟨_,_,n,_,h1⟩:=(show ObjOk X.prog X.w H s.heap a (.lst xs) from I.hok a _ ea);exact PySem.W.kia_one PySem.W.kitx_list I.kIn ⟨_,h1,rfl⟩ e (λz=>nomatch z) h
 | @frz a ob xs ea =>
  cases (show u=Value.ref a from rx);obtain⟨_,_,_,n,_,h1⟩:=(show ObjOk X.prog X.w H s.heap a (.frz ob (.lst xs)) from I.hok a _ ea);exact PySem.W.kia_one PySem.W.kitx_list I.kIn ⟨_,h1,rfl⟩ e (λz=>nomatch z) h
 | @tup a xs ea =>
  cases (show u=Value.ref a from rx);obtain⟨_,_,_,p⟩:=(show ObjOk X.prog X.w H s.heap a (.tup xs) from I.hok a _ ea);obtain⟨o,h1,h2,_⟩:=p;exact PySem.W.kia_one PySem.W.kitx_tuple I.kIn ⟨o,h1,h2⟩ e (λz=>nomatch z) h
 | @dK a kvs ea =>
  cases (show u=Value.ref a from rx);obtain⟨_,_,vs,_,p⟩:=(show ObjOk X.prog X.w H s.heap a (.dK kvs) from I.hok a _ ea);obtain⟨o,es,ep,h1,h2,_⟩:=p;exact PySem.W.kia_one PySem.W.kitx_dict I.kIn ⟨o,h1,h2.1⟩ e (λz=>nomatch z) h
 | @dT a kvs ea =>
  cases (show u=Value.ref a from rx);obtain⟨_,_,xs,_,o,es,ep,h1,h2,_⟩:=(show ObjOk X.prog X.w H s.heap a (.dT kvs) from I.hok a _ ea);exact PySem.W.kia_one PySem.W.kitx_dict I.kIn ⟨o,h1,h2.1⟩ e (λz=>nomatch z) h
 | @ins a C dx fs ea cl ha hn htk hm =>
  cases (show u=Value.ref a from rx);obtain⟨mA,O,_⟩:=F9 I.hok ea;obtain⟨od,J,_⟩:=O.look;exact PySem.W.kia_one (PySem.W.kitx_own (cl.get _) cl.hd ha hn htk hm) I.kIn J e (λz=>nomatch z) h
end
structure Room (k:Nat)(A:Around):Prop where
 hd:A.handled=none
 dp:A.depth+3*k+105<recursionLimit
 un:A.units+16*k+200<cLine
theorem Room.mono(r:Room k A)(h:j<=k):Room j A:=⟨r.hd,by have:=r.dp;lia,by have:=r.un;lia⟩
theorem Room.deeper{k:Nat}{A:Around}(r:Room (k+1) A)(env:Env):Room k (A.deeper env) :=
 ⟨r.hd,by have:=r.dp;show A.depth+1+3*k+105<_;lia,by have:=r.un;show A.units+3+16*k+200<_;lia⟩
theorem Room.depth{k:Nat}{A:Around}(r:Room k A):A.depth<recursionLimit:=by have:=r.dp;lia
theorem Room.units(r:Room k A):A.units+64<cLine:=by have:=r.un;lia
def Fe:TA:=λ_ H Q=>Q [] H
def xx(ta:TE)(tr:TA):TA:=λσ H Q=>ta σ H λx H1=>tr σ H1 λxs H2=>Q (x::xs) H2
section
variable{X:Cx}{e:Expr}{es:List Expr}{te:TE}{t:TA}{pos:Pos}
theorem pa_nil:PA X [] Fe:=λ_ _ _ _ H Q I h=>Calls.spliced_nil ⟨[],H,I,.nil,h⟩
theorem sy(ha:PE X e te)(hr:PA X es t)(hs:starEach (e::es) X.env=(false,eval e X.env)::starEach es X.env:=by rfl):PA X (e::es) (xx te t):=by
 intro pos pins s σ H Q I h;rw[hs];show wpAny _ _ (spliced ((false,eval e X.env)::backTo pos (starEach es X.env))) _ _ s;refine Calls.spliced_cons (sS (ha pins s σ H _ I h) λu s1 ⟨x,H1,I1,r1,q1⟩=>?_);exact sS (hr pos pins s1 σ H1 _ I1 q1) λus s2 ⟨xs,H2,I2,r2,q2⟩=>⟨x::xs,H2,I2,.cons r1 r2,q2⟩
def Lr(t:TA):TE:=λσ H Q=>t σ H λxs H1=>xs.length<=sizeLine/\∀ p,H1 p=none->Q (.ref p) (tv H1 p (.tup xs))
def Lx(t:TA):TE:=λσ H Q=>t σ H λxs H1=>xs.length<=sizeLine/\∀ p,H1 p=none->Q (.ref p) (tv H1 p (.lst xs))
theorem DC{x1}(h:PA X es t):PE X (.Tuple es x1 pos) (Lr t):=by
 intro pins s σ H Q I hq;refine wpAny_Tuple_spliced (sS (h pos pins s σ H _ I hq) λus s1 ⟨xs,H1,I1,r,z,q⟩=>⟨by rw[← r.length];exact z,?_⟩);have hf:H1 s1.heap.objs.size=none:=I1.hok.fresh (af _);refine⟨.ref s1.heap.objs.size,tv H1 s1.heap.objs.size (.tup xs),I1.laid (t':=s1.toks) (λb u e=>ηH _ e) (af _) ?_,rfl,q _ hf⟩;exact⟨z,us,r,⟨_,ηG _ rfl,rfl,_,rfl⟩⟩
theorem At(h:PA X es t):PE X (.List es pos) (Lx t):=by
 intro pins s σ H Q I hq;refine wpAny_List_spliced (sS (h pos pins s σ H _ I hq) λus s1 ⟨xs,H1,I1,r,z,q⟩=>⟨by rw[← r.length];exact z,?_⟩);have hf:H1 s1.heap.objs.size=none:=I1.hok.fresh (af _);refine⟨.ref s1.heap.objs.size,tv H1 s1.heap.objs.size (.lst xs),I1.laid (t':=s1.toks) (λb u e=>ηH _ e) (af _) ?_,rfl,q _ hf⟩;exact⟨z,us,0,r,ηG _ rfl⟩
end
abbrev Sp:=List V->Hp->VK->XK->Prop
abbrev E4:=List Env->Hp->Shared->XK->Value->Shared->Prop
structure Env0 (P:Program)(w:World)(K:Frag)(mg:Str->Option Value)(base:Heap)(A:Around)(outer:List Env)(s:Shared)(H:Hp):Prop where
 frames:A.frames=some outer
 mod:Mod K mg base
 bs:∀ b o,base.get? b=some o->s.heap.get? b=some o/\H b=none
 bsz:base.objs.size<=s.heap.objs.size
 funs:s.heap.FunFrames base outer
 frf:∀ b∈BE outer,H b=none
 hok:HOk P w H s.heap
 bare:AllBare s.gens
 sr:base.NoSeer/\P.given.tree=none
def CE(outer:List Env)(P:Program)(w:World)(H:Hp)(s:Shared)(Q:VK)(u:Value)(s':Shared):Prop :=
 ∃ v H',s'.os=s.os/\AllBare s'.gens/\Un (BE outer) [] H H' s.heap s'.heap/\HOk P w H' s'.heap/\RelV v u/\Q v H'
def CR(CX:E4)(outer:List Env)(P:Program)(w:World)(H:Hp)(s:Shared)(Q:VK)(E:XK)(r:Result)(s':Shared):Prop :=
 match r with
 | .ok (.ret u)=>CE outer P w H s Q u s'
 | .ok _=>False
 | .error e=>CX outer H s E e s'
structure FnOk (P:Program)(w:World)(K:Frag)(mg:Str->Option Value)(base:Heap)(CX:E4)(k:Nat)(f:Addr)(fd:FuncData)(ps:List Str)(sp:Sp):Prop where
 len:∀ vs H Q E,sp vs H Q E->vs.length=ps.length
 run:∀(A:Around) (outer:List Env) (s:Shared) (H:Hp) (args:Args) (us:List Value) (vs:List V) (Q:VK) (E:XK),Room k A->Env0 P w K mg base A outer s H->BindsTo s fd args (ps.zip us)->Vals vs us->sp vs H Q E ->
  codeAny (model P w) A (.call (.ref f) args) (CR CX outer P w H s Q E) s
theorem FnOk.imp{P:Program}{w:World}{K:Frag}{mg:Str->Option Value}{base:Heap}{CX:E4}{k:Nat}{f:Addr}{fd:FuncData}{ps:List Str}{sp sp':Sp}(F:FnOk P w K mg base CX k f fd ps sp)
  (h:∀ vs H Q E,sp' vs H Q E->sp vs H Q E):FnOk P w K mg base CX k f fd ps sp' :=
 ⟨λvs H Q E q=>F.len vs H Q E (h _ _ _ _ q),λA outer s H args us vs Q E hr he hb hv hs=>F.run A outer s H args us vs Q E hr he hb hv (h _ _ _ _ hs)⟩
section
variable{X:Cx}{pins:List (Addr×Obj)}{σ:St}{H:Hp}{s s':Shared}
theorem Inv.env0(I:Inv X pins σ H s):Env0 X.prog X.w X.K X.mg X.base X.A X.stack s H :=
 ⟨I.ok.frames,I.ok.mod,I.bs,aE I.ok.bsz I.sz,I.stack,I.stkFree,I.hok,I.bare,I.ok.sr⟩
theorem Inv.after(I:Inv X pins σ H s)(h:CE X.stack X.prog X.w H s Q u s'):EP X pins σ Q u s':=by
 obtain⟨v,H',os,bare,un,hok,r,q⟩:=h;obtain⟨hh,g,d,t,os'⟩:=s';obtain rfl:os'=s.os:=os;exact⟨v,H',I.call (h':=hh) (g':=g) (d':=d) (t':=t) (ch:=[]) un hok bare (λb z=>absurd z (by simp)),r,q⟩
end
def Ba(sp:Sp)(dvs:List V)(E:XK)(t:TA):TE:=λσ H Q=>t σ H λvs H1=>sp (vs++dvs) H1 Q E
def Binds(K:Frag)(fd:FuncData)(ps:List Str)(ds:List Value):Prop :=
 ∀(s:Shared) (us:List Value),K.In s.heap->(us++ds).length=ps.length->BindsTo s fd ⟨us,[]⟩ (ps.zip (us++ds))
theorem Binds.all{K:Frag}{fd:FuncData}{ps:List Str}(h:∀ us:List Value,us.length=ps.length->bindArgs fd ⟨us,[]⟩=pure (ps.zip us)):Binds K fd ps []:=λs us _ hl=>by
 rw[dA] at hl ⊢;exact .of_eq (h us hl)
def A4(CX:E4)(X:Cx)(E:XK):Prop:=∀(pins:List (Addr×Obj)) (σ:St) (H:Hp) (s:Shared) (e:Value) (s':Shared),Inv X pins σ H s->CX X.stack H s E e s'->X.xe e s'
section
variable{X:Cx}{CX:E4}{k:Nat}{f C:Addr}{fd:FuncData}{ps:List Str}{sp:Sp}{dvs:List V}{ds:List Value}{E:XK}{x m:Str}{p pos apos:Pos}{e o:Expr}{es:List Expr}{ta:TE}{t:TA}
theorem HM(F:FnOk X.prog X.w X.K X.mg X.base CX k f fd ps sp)(hr:Room k X.A)(hb:Binds X.K fd ps ds)(hd:Vals dvs ds)(hx:A4 CX X E)
  (I:Inv X pins σ H s) (r:Vals vs us) (h:sp (vs++dvs) H Q E):wpAny (model X.prog X.w) X.A (call (.ref f) us) (EP X pins σ Q) X.xe s:=by
 have r2:Vals (vs++dvs) (us++ds):=r.append hd;have hl:(us++ds).length=ps.length:=by rw[← r2.length];exact F.len _ _ _ _ h
 refine wpAny_call (codeAny_mono (F.run X.A X.stack s H ⟨us,[]⟩ (us++ds) (vs++dvs) Q E hr I.env0 (hb s us I.kIn hl) r2 h) λr s' hq=>?_);cases r with
 | error e=>exact hx pins σ H s e s' I hq
 | ok fl =>
  cases fl with
  | ret u=>exact I.after hq
  | next=>exact False.elim hq
  | brk=>exact False.elim hq
  | cont=>exact False.elim hq
theorem FD(F:FnOk X.prog X.w X.K X.mg X.base CX k f fd ps sp)(hr:Room k X.A)(hg:Gl X x)(hm:X.mg x=some (.ref f))(hk:PySem.W.keepIn X.K (.ref f)=true)(hb:Binds X.K fd ps ds)(hd:Vals dvs ds)(hx:A4 CX X E)
  (ha:PA X (e::es) t) (hdb:(x == ("__debug__" : Str))=false:=by decide) (he:starEach (e::es) X.env=(false,eval e X.env)::starEach es X.env:=by rfl) (hpl:(backTo pos (starEach es X.env)).any (·.1)=false:=by rfl) :
  PE X (.Call (.Name x p) (e::es) [] pos) (Ba sp dvs E t):=by
 intro pins s σ H Q I h;refine wpAny_Call_Name_kw (Bs I hg hm ?_ hdb);refine PySem.W.callWith_K (h₀:=X.base) I.ok.mod.kin hk (sS (ha pos pins s σ H _ I h) λus s1 ⟨vs,H1,I1,r,q⟩=>⟨I1.kIn,?_⟩) he hpl;exact HM F hr hb hd hx I1 r q
end
structure FnScope (N P:List Str)(sc:Scope):Prop where
 kind:sc.kind = .function
 co:sc.isCoroutine=false
 gen:sc.isGenerator=false
 nd:N.Nodup
 pre:N.take P.length=P
 par:∀ x∈P,sc.names.lookup x=some .local\/sc.names.lookup x=some .cell
 nofree:∀ y∈sc.names,y.2 ≠ .free
theorem xR{kindOf:Str->Option NameKind}{x:Str}:∀{binds:List (Str×Value)} {m:Str->Option Value},(∀ v,(x,v) ∉ binds)->bindL kindOf binds m x=m x
 | [],_,_=>rfl
 | (n,v)::r,m,h=>by
  unfold bindL;rw[xR λw hw=>h w (aC _ hw)];split
  ·have:x≠n:=by rintro rfl;exact h v aG
   simp[this]
  ·rfl
theorem xT{kindOf:Str->Option NameKind}{x:Str}:∀{binds:List (Str×Value)} {m:Str->Option Value},(∀ v,(x,v) ∉ binds)->bindC kindOf binds m x=m x
 | [],_,_=>rfl
 | (n,v)::r,m,h=>by
  unfold bindC;rw[xT λw hw=>h w (aC _ hw)];split
  ·rfl
  ·have:x≠n:=by rintro rfl;exact h v aG
   simp[this]
theorem xS{kindOf:Str->Option NameKind}{x:Str}{v:Value}:∀{P:List Str} {vs:List Value} {i:Nat} {m:Str->Option Value},P.Nodup->P[i]? = some x->vs[i]? = some v->kindOf x=some .local ->
  bindL kindOf (P.zip vs) m x=some v
 | [],_,_,_,_,h,_,_=>by simp at h
 | _::_,[],_,_,_,_,h,_=>by simp at h
 | p::P,w::vs,0,m,nd,h1,h2,hk=>by
  simp at h1 h2;subst h1;subst h2;show bindL kindOf ((p,w)::P.zip vs) m p=_;unfold bindL;rw[xR λv hv=>(dw.mp nd).1 (gg hv).1,if_pos hk];simp
 | p::P,w::vs,i+1,m,nd,h1,h2,hk=>by
  show bindL kindOf ((p,w)::P.zip vs) m x=_;unfold bindL;exact xS (i:=i) (dw.mp nd).2 (by simpa using h1) (by simpa using h2) hk
theorem xU{kindOf:Str->Option NameKind}{x:Str}{v:Value}:∀{P:List Str} {vs:List Value} {i:Nat} {m:Str->Option Value},P.Nodup->P[i]? = some x->vs[i]? = some v->kindOf x≠some .local ->
  bindC kindOf (P.zip vs) m x=some v
 | [],_,_,_,_,h,_,_=>by simp at h
 | _::_,[],_,_,_,_,h,_=>by simp at h
 | p::P,w::vs,0,m,nd,h1,h2,hk=>by
  simp at h1 h2;subst h1;subst h2;show bindC kindOf ((p,w)::P.zip vs) m p=_;unfold bindC;rw[xT λv hv=>(dw.mp nd).1 (gg hv).1,if_neg hk];simp
 | p::P,w::vs,i+1,m,nd,h1,h2,hk=>by
  show bindC kindOf ((p,w)::P.zip vs) m x=_;unfold bindC;exact xU (i:=i) (dw.mp nd).2 (by simpa using h1) (by simpa using h2) hk
def start(N:List Str)(vs:List V):St:=vs.map some++List.replicate (N.length-vs.length) none
def AQ(CX:E4)(P:Program)(w:World)(K:Frag)(mg:Str->Option Value)(base:Heap)(N:List Str)(qual:Str)(scope:Scope)(f:Addr)(cd:Value)(A:Around)(outer:List Env)(s:Shared)(H:Hp)(E:XK):Cx where
 prog:=P
 w:=w
 K:=K
 mg:=mg
 base:=base
 A:=A.deeper (envOfC qual scope s.heap.objs.size f cd)
 N:=N
 s₀:=s
 H₀:=H
 env:=envOfC qual scope s.heap.objs.size f cd
 outer:=outer
 stack:=envOfC qual scope s.heap.objs.size f cd::outer
 ex:=[]
 calm:=true
 fn:=λ_=>true
 pn:=[]
 xe:=λe s'=>wpAny (model P w) (A.deeper (envOfC qual scope s.heap.objs.size f cd)) (leaving (envOfC qual scope s.heap.objs.size f cd) e) (λ_ s''=>CX outer H s E e s'') (λe' s''=>CX outer H s E e' s'') s'
theorem zO{sc:Scope}{n:Nat}{x:Str}(h:sc.names.lookup x=some .cell):∃ c,(cellsFrom n sc.names []).lookup x=some c:=by
 have q:=PySem.W.cellsFrom_some sc.names n [] (.inl h);exact Option.isSome_iff_exists.mp q
theorem CA{CX:E4}{P:Program}{w:World}{K:Frag}{mg:Str->Option Value}{base:Heap}{N ps:List Str}{qual:Str}{scope:Scope}{f:Addr}{cd:Value}{A:Around}{outer:List Env}{s s1:Shared}{H:Hp}{E:XK}{us:List Value}{vs:List V}
  (S:FnScope N ps scope) (hd:A.handled=none) (e0:Env0 P w K mg base A outer s H) (hl:vs.length=ps.length) (r:Vals vs us)
  (x:InCallC s s.heap.objs.size (bindL (envOfC qual scope s.heap.objs.size f cd).kindOf (ps.zip us) λ_=>none) (cellsFrom (s.heap.objs.size+1) scope.names []) (bindC (envOfC qual scope s.heap.objs.size f cd).kindOf (ps.zip us) λ_=>none) s1) :
  Inv (AQ CX P w K mg base N qual scope f cd A outer s H E) [] (start N vs) H s1:=by
 have hpl:ps.length<=N.length:=by have:=congrArg List.length S.pre;rw[bg] at this;lia
 obtain⟨h1,tk,rfl,hk⟩:=x.done;have noA:∀ b:Addr,b ∉ (AQ CX P w K mg base N qual scope f cd A outer s H E).ex:=λb z=>absurd (show b∈([]:List Addr) from z) (by simp);refine⟨⟨e0.mod,S.kind,rfl,rfl,af _,λy z c h1 h2=>?_,λy hy=>?_,λy c _ h=>?_,λ_=>hd,Around.frames_deeper e0.frames,.inr ⟨rfl,rfl⟩,λb z=>absurd z (noA b),e0.bs,e0.bsz,λb _ _=>noA b,λb z=>absurd z (noA b),e0.funs,e0.frf,e0.sr,⟨_,_,rfl,S.gen,S.co,rfl,rfl⟩⟩,
  rfl,e0.bare,Un.kept hk,⟨_,x.toInCall.ns,λi y v h1 h2 h3=>?_⟩,λy c h=>⟨_,x.cell y c h⟩,e0.hok.fresh (af _),λy c h=>?_,λp hp=>absurd (show p∈([]:List (Addr×Obj)) from hp) (by simp),e0.hok.kept hk,?_⟩
 ·exact name_of_addr x.apart (PySem.mem_of_lookup h1) (PySem.mem_of_lookup h2)
 ·have hy:scope.names.lookup y=some .cell\/scope.names.lookup y=some .free:=hy;rcases hy with hy|hy
  ·exact zO hy
  ·exact absurd rfl (S.nofree _ (PySem.mem_of_lookup hy))
 ·exact eK (x.above y c (PySem.mem_of_lookup h))
 ·have hi:i<vs.length:=by
   unfold start at h2;by_cases hi:i<vs.length
   ·exact hi
   ·rw[az (by simpa using hi)] at h2;rw[dh] at h2;split at h2 <;> cases h2
  have ha:vs[i]? = some v:=by
   unfold start at h2;rw[aN (by simpa using hi),aR] at h2;cases e:vs[i]? with
   | none=>rw[e] at h2;cases h2
   | some a=>rw[e] at h2;cases h2;rfl
  obtain⟨u,hu,rv⟩:=r.get ha;have hp:ps[i]? = some y:=by
   rw[← S.pre,dW ()];exact h1
  have ndP:ps.Nodup:=by rw[← S.pre];exact S.nd.sublist (List.take_sublist _ _)
  refine⟨u,rv,?_⟩;rcases S.par y (aL hp) with k|k
  ·exact .inl ⟨k,xS ndP hp hu k⟩
  ·obtain⟨c,e⟩:=zO (n:=s.heap.objs.size+1) k;refine .inr ⟨.inl k,c,e,?_⟩;have q:=x.cell y c e;rw[xU ndP hp hu (by show scope.names.lookup y≠_;rw[k];decide)] at q;exact q
 ·exact e0.hok.fresh (eK (x.above y c (PySem.mem_of_lookup h)))
 ·unfold start;show _=N.length;rw[aj,aa,aI];lia
theorem KI{CX:E4}{P:Program}{w:World}{K:Frag}{mg:Str->Option Value}{base:Heap}{k:Nat}{f:Addr}{name qual:Str}{params:Arguments}{body:List Stmt}{scope:Scope}{dV kV doc pm cdv ct oc:Value}{an od:Option Addr}
  {osl:Array (Option Value)} {N ps:List Str} {sp:Sp} (lk:K.lookup f=some ⟨oc,od,.func (PySem.W.fnOf name qual params body scope dV kV doc pm an cdv ct),osl⟩) (hcd:PySem.W.codeIn K cdv qual=true) (S:FnScope N ps scope)
  (len:∀ vs H Q E,sp vs H Q E->vs.length=ps.length)
  (hbody:∀(A:Around) (outer:List Env) (s:Shared) (H:Hp) (vs:List V) (Q:VK) (E:XK),Room k (A.deeper (envOfC qual scope s.heap.objs.size f cdv))->sp vs H Q E ->
   ∃ t,PSs (AQ CX P w K mg base N qual scope f cdv A outer s H E) body t/\t { nx:=λ_ H'=>Q .non H',rt:=Q } (start N vs) H) :
  FnOk P w K mg base CX (k+1) f (PySem.W.fnOf name qual params body scope dV kV doc pm an cdv ct) ps sp:=by
 refine⟨len,λA outer s H args us vs Q E hr e0 hb r hsp=>?_⟩;have hl:=len _ _ _ _ hsp;have KX:K.In s.heap:=e0.mod.kin.keeps λb o e=>(e0.bs b o e).1;have lim:s.heap.NoLimit:=e0.mod.nolimit.keeps λb o e=>(e0.bs b o e).1;have hkind:∀ y∈ps.zip us,scope.names.lookup y.1=some .local\/(scope.names.lookup y.1=some .cell/\((cellsFrom (s.heap.objs.size+1) scope.names []).lookup y.1).isSome=true):=fun⟨n,v⟩ hy=>by
  rcases S.par n (gg hy).1 with q|q
  ·exact .inl q
  ·exact .inr ⟨q,PySem.W.cellsFrom_some _ _ _ (.inl q)⟩
 refine codeAny_call_function hr.depth (KX _ _ lk) rfl S.co S.gen rfl (PySem.W.codeRec_of KX hcd) (hb _ _ _ _ ?_);refine wpAny_newFunctionEnv_cells S.kind hkind λenv he s1 x=>?_;subst he;refine⟨lim.keeps x.toInCall.keep,codeAny_func ?_⟩;obtain⟨t,ht,hq⟩:=hbody A outer s H vs Q E (hr.deeper _) hsp;have I:Inv (AQ CX P w K mg base N qual scope f cdv A outer s H E) [] (start N vs) H s1:=CA S hr.hd e0 hl r x;refine wpAny_mono (ht [] s1 (start N vs) H _ I hq) (λfl s' hs=>?_) λe s' hs=>hs;have fin:∀{σ':St} {H':Hp} {v:V} {u:Value},Inv (AQ CX P w K mg base N qual scope f cdv A outer s H E) [] σ' H' s'->RelV v u->Q v H'->CE outer P w H s Q u s' :=
  λ{σ' H' v u} J rv q=>⟨v,H',J.os,J.bare,J.base,J.hok,rv,q⟩
 cases fl with
 | ret u =>
  obtain⟨v,σ',H',J,rv,q⟩:=hs;exact fin J rv q
 | next =>
  obtain⟨σ',H',J,q⟩:=hs;exact fin (v:=V.non) (u:=Value.none) J rfl q
 | brk =>
  obtain⟨_,_,_,q⟩:=hs;exact False.elim q
 | cont =>
  obtain⟨_,_,_,q⟩:=hs;exact False.elim q
section
variable{X:Cx}{x:Str}{p pos:Pos}{e:Expr}{es:List Expr}{t:TA}{id T:String}{r:List V->Hp->VK->Prop}
def LC(r:List V->Hp->VK->Prop)(t:TA):TE:=λσ H Q=>t σ H λvs H1=>r vs H1 Q
theorem sT(hc:CallR X (.builtin id) r)(hg:Gl X x)(hm:X.mg x=none)(hv:bootBuiltins x=some (.builtin id))(ha:PA X (e::es) t)(hn:x ≠ "__name__" := by decide)(hdb:(x == ("__debug__" : Str))=false:=by decide)
  (he:starEach (e::es) X.env=(false,eval e X.env)::starEach es X.env:=by rfl) (hpl:(backTo pos (starEach es X.env)).any (·.1)=false:=by rfl):PE X (.Call (.Name x p) (e::es) [] pos) (LC r t):=by
 intro pins s σ H Q I h;refine wpAny_Call_Name_kw (tV I hg hm hv ?_ hn hdb);exact PyProof.Rows.callWith_builtin1 (sS (ha pos pins s σ H _ I h) λus s1 ⟨vs,H1,I1,r1,q1⟩=>hc pins s1 σ H1 vs us Q I1 r1 q1) he hpl
theorem vN(hc:CallR X (.type T) r)(hg:Gl X x)(hm:X.mg x=none)(hv:bootBuiltins x=some (.type T))(ha:PA X (e::es) t)(hn:x ≠ "__name__" := by decide)(hdb:(x == ("__debug__" : Str))=false:=by decide)
  (he:starEach (e::es) X.env=(false,eval e X.env)::starEach es X.env:=by rfl) (hpl:(backTo pos (starEach es X.env)).any (·.1)=false:=by rfl):PE X (.Call (.Name x p) (e::es) [] pos) (LC r t):=by
 intro pins s σ H Q I h;refine wpAny_Call_Name_kw (tV I hg hm hv ?_ hn hdb);exact PyProof.Rows.callWith_type1 (sS (ha pos pins s σ H _ I h) λus s1 ⟨vs,H1,I1,r1,q1⟩=>hc pins s1 σ H1 vs us Q I1 r1 q1) he hpl
end
end L2
namespace HT
open PySem PyProof.Rows
section
open PySem.SeqAt
open PySem.AutoSeq1 (wpAny_loadPart')
open PySem.MeetsSeq PySem.MeetsSeq2 PySem.MeetsSeq3
end
section
variable{prog:Program}{w:World}{A:Around}{E:Value->Shared->Prop}{s:Shared}
theorem Gk(ht:IsTup s.heap t vs.toArray)(hb:IsTup s.heap b ws.toArray)(hv:vs≠[])
  (h1:ws=[]->Q (.ref t) s) (h2:ws≠[]->Q (.ref s.heap.objs.size) { s with heap:=s.heap.push { cls:=.type "tuple",data:=.seq (vs++ws).toArray } })
  (hsz:vs.length+ws.length<=sizeLine):wpAny (model prog w) A (binaryOp .Add (.ref t) (.ref b)) Q E s:=by
 obtain⟨⟨cls,dd,data,sl⟩,ho,hc,n,hd⟩:=id ht;obtain⟨⟨cls2,dd2,data2,sl2⟩,ho2,hc2,n2,hd2⟩:=id hb;simp only at hc hd hc2 hd2;subst hc hd hc2 hd2;have e:vs.toArray++ws.toArray=(vs++ws).toArray:=by simp
 by_cases hw:ws=[]
 ·exact concat_meets ⟨_,ho,rfl⟩ ⟨_,ho2,rfl⟩ noFill_tuple_add seq_tuple_add PySem.F.slot_tuple_add PySem.F.entry_tuple_add (PySem.F.args_tuple_add_2 _ _)
   (tuple_addW1 t b vs.toArray ws.toArray n n2 dd dd2 sl sl2 (by simpa using hv) (by simp[hw])) ⟨ho,ho2,h1 hw⟩
 ·refine concat_meets ⟨_,ho,rfl⟩ ⟨_,ho2,rfl⟩ noFill_tuple_add seq_tuple_add PySem.F.slot_tuple_add PySem.F.entry_tuple_add (PySem.F.args_tuple_add_2 _ _)
   (tuple_addW2 t b vs.toArray ws.toArray n n2 dd dd2 sl sl2 (by simpa using hv) (by simpa using hw) (by rw[ao,ao];exact hsz)) ⟨ho,ho2,?_⟩
  rw[e];exact h2 hw
def tx(n d:Nat):Option Int->Nat
 | none=>d
 | some v=>if v<0 then (v+(n:Int)).toNat else min v.toNat n
theorem wB(n d:Nat):tx n d none=d:=rfl
theorem yc(n d k:Nat):tx n d (some (k:Int))=min k n:=by
 show (if (k:Int)<0 then ((k:Int)+(n:Int)).toNat else min (k:Int).toNat n)=min k n;rw[if_neg (),aJ]
theorem HL(n d:Nat)(hd:d<=n)(o:Option Int):tx n d o<=n:=by
 cases o with
 | none=>exact hd
 | some v =>
  show (if v<0 then (v+(n:Int)).toNat else min v.toNat n)<=n;by_cases hv:v<0
  ·rw[if_pos hv];lia
  ·rw[if_neg hv];exact Nat.min_le_right _ _
theorem BR(v:Int)(n d:Nat):(if v<0 then max (v+(n:Int)) 0 else min v (n:Int))=((tx n d (some v):Nat):Int):=by
 show (if v<0 then max (v+(n:Int)) 0 else min v (n:Int))=(((if v<0 then (v+(n:Int)).toNat else min v.toNat n):Nat):Int);by_cases hv:v<0
 ·simp only[if_pos hv];lia
 ·simp only[if_neg hv];lia
theorem A3(lo hi:Option Int)(n:Nat):Builtin.Slice.sliceAdjust lo hi 1 (n:Int)=(((tx n 0 lo:Nat):Int),((tx n n hi:Nat):Int)):=by
 have h1:¬ ((1:Int)<0):=by lia
 unfold Builtin.Slice.sliceAdjust;simp only[h1,if_false];refine Prod.ext ?_ ?_
 ·cases lo with
  | none=>rfl
  | some v=>exact BR v n 0
 ·cases hi with
  | none=>rfl
  | some v=>exact BR v n n
theorem An(i j:Nat):Builtin.Slice.slicePlaces (i:Int) (j:Int) 1=j-i:=by
 unfold Builtin.Slice.slicePlaces;have h1:(1:Int) > 0:=by lia
 simp only[h1,if_true,Int.ediv_one];split <;> lia
theorem wy{v:Value}{o:Option Int}{Q:Option Int->Shared->Prop}(p:IsPart v o)(h:Q o s):wpAny (model prog w) A (Builtin.Slice.slicePartIndex v) Q E s:=by
 cases p with
 | none=>exact slicePart_none h
 | int i t=>exact slicePart_int h
theorem ue{sl:Addr}{vl vu:Value}{lo hi:Option Int}{n:Nat}{Q:Int×Int×Nat->Shared->Prop}(hs:s.heap.IsSliceOf sl vl vu .none)(pl:IsPart vl lo)(pu:IsPart vu hi)
  (h:Q (((tx n 0 lo:Nat):Int),1,tx n n hi-tx n 0 lo) s):wpAny (model prog w) A (Builtin.Slice.sliceApplied (.ref sl) (pure (n:Int))) Q E s:=by
 obtain⟨os,hos,hcs,hds⟩:=id hs;unfold Builtin.Slice.sliceApplied Builtin.Slice.sliceFields;refine ηB (ηB (wpAny_field hos hds (x:=vl) rfl (ηB (wpAny_field hos hds (x:=vu) rfl (ηB (wpAny_field hos hds (x:=.none) rfl (ηP ?_)))))));refine ηB (slicePart_none ?_);show wpAny _ _ (if ((1:Int) == 0)=true then _ else _) _ _ s;rw[if_neg (by decide)];refine ηB (wy pl (ηB (wy pu (ηB (ηP ?_)))));show wpAny _ _ (match Builtin.Slice.sliceAdjust lo hi 1 (n:Int) with|(lo,hi)=>pure (lo,(1:Int),Builtin.Slice.slicePlaces lo hi 1)) _ _ s;rw[A3 lo hi n];show wpAny _ _ (pure (((tx n 0 lo:Nat):Int),(1:Int),Builtin.Slice.slicePlaces ((tx n 0 lo:Nat):Int) ((tx n n hi:Nat):Int) 1)) _ _ s;rw[An];exact ηP h
theorem Dz(xs:Array Value)(i k:Nat):((List.range k).filterMap λ(m:Nat)=>xs[((i:Int)+(m:Int)*1).toNat]?).toArray=((xs.toList.drop i).take k).toArray:=by
 have e:(λ(m:Nat)=>xs[((i:Int)+(m:Int)*1).toNat]?)=λm=>xs[i+m]?:=by
  funext m;have:((i:Int)+(m:Int)*1).toNat=i+m:=by lia
  rw[this]
 rw[e];have:=pick_run xs i k;rw[List.filterMap_map] at this;have e2:((λx=>xs[x]?)∘λx=>i+x)=λm=>xs[i+m]?:=rfl;rw[e2] at this;rw[this]
theorem vw{t sl:Addr}{items:Array Value}{vl vu:Value}{lo hi:Option Int}{Q:Value->Shared->Prop}(ht:IsTup s.heap t items)(hs:s.heap.IsSliceOf sl vl vu .none)(pl:IsPart vl lo)(pu:IsPart vu hi)
  (hw:¬ (tx items.size 0 lo=0/\tx items.size items.size hi=items.size))
  (h:Q (.ref s.heap.objs.size) { s with heap:=s.heap.push { cls:=.type "tuple",data:=.seq ((items.toList.drop (tx items.size 0 lo)).take (tx items.size items.size hi-tx items.size 0 lo)).toArray } })
  (hsz:items.size<=sizeLine):wpAny (model prog w) A (getItem (.ref t) (.ref sl)) Q E s:=by
 have htake:sizeOk (.seq ((items.toList.drop (tx items.size 0 lo)).take (tx items.size items.size hi-tx items.size 0 lo)).toArray):=by
  show ((items.toList.drop (tx items.size 0 lo)).take (tx items.size items.size hi-tx items.size 0 lo)).toArray.size<=sizeLine;rw[ao,bg,fE,cC];lia
 have hj:tx items.size items.size hi<=items.size:=HL _ _ (af _) hi;obtain⟨os,hos,hcs,hds⟩:=id hs;have hTs:s.TypeIs (.ref sl) "slice" := ⟨os,hos,hcs⟩;unfold getItem;try with_reducible refine wpAny_holding ?_
 first|refine ηB (ηP ?_)|skip
 refine ηB (wpAny_sequenceKey ht.typeIs (by decide) ?_);refine ηB (wpAny_callSpecial?_slot (name:=Str.ofString "__getitem__") ht.typeIs PyProof.Rows.slot_tuple_getitem
  (wpAny_call_entry PyProof.Rows.slot_tuple_getitem ht.typeIs entry_tuple_getitem ?_ (args_tuple_getitem _ _)))
 show wpAny _ _ (Builtin.Tuple.tupleItemsOf (.ref t) >>= _) _ _ s;refine ηB (tupleItemsOf_ ht ?_);refine ηB (wpAny_typeOf hTs ?_);rw[if_pos (by decide)];refine ηB (ue hs pl pu ?_);have hno:¬ ((((tx items.size 0 lo:Nat):Int) == 0 && (1:Int) == 1 && (tx items.size items.size hi-tx items.size 0 lo) == items.size)=true):=by
  intro q;rw[bH,bH] at q;have q1:((tx items.size 0 lo:Nat):Int)=0:=eq_of_beq q.1.1;have q2:tx items.size items.size hi-tx items.size 0 lo=items.size:=eq_of_beq q.2;exact hw ⟨(),()⟩
 show wpAny _ _ (if (((tx items.size 0 lo:Nat):Int) == 0 && (1:Int) == 1 && (tx items.size items.size hi-tx items.size 0 lo) == items.size)=true then _ else _) _ _ s;rw[if_neg hno,Dz];first
  | exact ηB (m:=Builtin.Tuple.tupleExact _) (wpAny_newObj_type (ηP ⟨_,rfl,ηP h⟩) htake)
  | exact ηB (m:=Builtin.Tuple.tupleExact _) (wpAny_newObj_type (ηB (ηP (ηP ⟨_,rfl,ηP h⟩))) htake)
  | exact ηB (ηB (m:=Builtin.Tuple.tupleExact _) (wpAny_newObj_type (ηP (ηP ⟨_,rfl,ηP h⟩)) htake))
  | exact ηB (ηB (m:=Builtin.Tuple.tupleExact _) (wpAny_newObj_type (ηP ⟨_,rfl,ηP h⟩) htake))
end
end HT
namespace L2
open PySem PySem.Spec PyProof.Rows
abbrev TO:=St->Hp->(Option Int->Hp->Prop)->Prop
def PO(X:Cx)(e:Option Expr)(t:TO):Prop :=
 ∀(pins:List (Addr×Obj)) (s:Shared) (σ:St) (H:Hp) (Q:Option Int->Hp->Prop),Inv X pins σ H s->t σ H Q ->
  wpAny (model X.prog X.w) X.A (evalPart e X.env) (λu s'=>∃ o H',Inv X pins σ H' s'/\IsPart u o/\Q o H') X.xe s
def Fd:TO:=λ_ H Q=>Q none H
def JQ(t:TE):TO:=λσ H Q=>t σ H λx H1=>∃ i,x = .int i/\Q (some i) H1
section
variable{X:Cx}{e:Expr}{te:TE}{lo hi:Option Expr}{tl th:TO}{pos p2:Pos}
theorem po_none:PO X none Fd:=by
 intro pins s σ H Q I h;rw[evalPart_none];exact ηP ⟨none,H,I,.none,h⟩
theorem Bh(h:PE X e te):PO X (some e) (JQ te):=by
 intro pins s σ H Q I hw;rw[evalPart_some];refine sS (h pins s σ H _ I hw) λu s1 ⟨x,H1,I1,r1,q1⟩=>?_;obtain⟨i,rfl,q⟩:=q1;obtain⟨t,rfl⟩:=r1;exact⟨some i,H1,I1,.int i t,q⟩
def SlR(X:Cx)(r:V->Option Int->Option Int->Hp->VK->Prop):Prop :=
 ∀(pins:List (Addr×Obj)) (s:Shared) (σ:St) (H:Hp) (x:V) (v vl vu:Value) (lo hi:Option Int) (sl:Addr) (Q:VK),Inv X pins σ H s->RelV x v->s.heap.IsSliceOf sl vl vu .none->IsPart vl lo->IsPart vu hi->r x lo hi H Q ->
  ∃ T id,typeLookup (.type T) "__getitem__" = pure (some (.builtin id))/\s.TypeIs v T/\wpAny (model X.prog X.w) X.A (getItem v (.ref sl)) (EP X pins σ Q) X.xe s
theorem SlR.or(h:SlR X r)(h':SlR X r'):SlR X (λx lo hi H Q=>r x lo hi H Q\/r' x lo hi H Q):=by
 intro pins s σ H x v vl vu lo hi sl Q I rx hs pl pu q;rcases q with q|q
 ·exact h pins s σ H x v vl vu lo hi sl Q I rx hs pl pu q
 ·exact h' pins s σ H x v vl vu lo hi sl Q I rx hs pl pu q
def Na(r:V->Option Int->Option Int->Hp->VK->Prop)(te:TE)(tl th:TO):TE:=λσ H Q=>te σ H λx H1=>tl σ H1 λl H2=>th σ H2 λu H3=>r x l u H3 Q
theorem DD(hr:SlR X r)(he:PE X e te)(hl:PO X lo tl)(hu:PO X hi th):PE X (.Subscript e (.Slice lo hi none p2) pos) (Na r te tl th):=by
 intro pins s σ H Q I h;refine Subscript_ (sS (he pins s σ H _ I h) λv s1 ⟨x,H1,I1,r1,q1⟩=>?_);refine wpAny_Slice (sS (hl pins s1 σ H1 _ I1 q1) λvl s2 ⟨l,H2,I2,pl,q2⟩=>sS (hu pins s2 σ H2 _ I2 q2) λvu s3 ⟨u,H3,I3,pu,q3⟩=>?_);rw[evalPart_none];refine ηP ?_;have I4:Inv X pins σ H3 { s3 with heap:=s3.heap.push { cls:=.type "slice",data:=.fields #[vl,vu,.none] } }:=I3.kept (t':=s3.toks) λb ob q=>ηH _ q;obtain⟨T,id,hT,ht,hg⟩:=hr pins { s3 with heap:=s3.heap.push { cls:=.type "slice",data:=.fields #[vl,vu,.none] } } σ H3 x v vl vu l u s3.heap.objs.size Q I4 r1 (Heap.IsSliceOf.new ..) pl pu q3;show wpAny (model X.prog X.w) X.A (subscriptTail e (.Slice lo hi none p2) v (.ref s3.heap.objs.size)) (EP X pins σ Q) X.xe { s3 with heap:=s3.heap.push { cls:=.type "slice",data:=.fields #[vl,vu,.none] } };exact tail_any (ops:=[.ref s3.heap.objs.size,v]) ht hT hg (by with_unfolding_all rfl)
def zI(xs:List V)(lo hi:Option Int):List V:=(xs.drop (HT.tx xs.length 0 lo)).take (HT.tx xs.length xs.length hi-HT.tx xs.length 0 lo)
theorem v6(xs:List V)(lo hi:Option Int):(zI xs lo hi).length<=xs.length:=by
 unfold zI;rw[bg,fE];lia
def LQ(K:Frag):V->Option Int->Option Int->Hp->VK->Prop:=λx lo hi H Q=>∃ a xs,x = .ref a/\SqT K H a xs /\
 ¬ (HT.tx xs.length 0 lo=0/\HT.tx xs.length xs.length hi=xs.length)/\∀ p,H p=none->Q (.ref p) (tv H p (.tup (zI xs lo hi)))
theorem sl_tup:SlR X (LQ X.K):=by
 intro pins s σ H x v vl vu lo hi sl Q I rx hs pl pu h;obtain⟨a,xs,rfl,hx,hw,q⟩:=h;cases rx;obtain⟨its,r,ht,hz⟩:=I.tuple hx;have hlen:its.toArray.size=xs.length:=by rw[ao];exact r.length.symm
 refine⟨"tuple",_,PyProof.Rows.slot_tuple_getitem.lookup,ht.typeIs,?_⟩;refine HT.vw ht hs pl pu (by rw[hlen];exact hw) ?_ (by rw[hlen];exact hz);rw[hlen];refine⟨.ref s.heap.objs.size,_,I.laid (t':=s.toks) (o:=.tup (zI xs lo hi)) (λb ob q=>ηH _ q) (af _) ?_,rfl,q _ (I.hok.fresh (af _))⟩;exact⟨aE (v6 xs lo hi) hz,_,(r.drop (HT.tx xs.length 0 lo)).take (HT.tx xs.length xs.length hi-HT.tx xs.length 0 lo),IsTup.new _ _⟩
def Ka(K:Frag):R2:=λx y H Q=>∃ a b xs ys,x = .ref a/\y = .ref b/\SqT K H a xs/\SqT K H b ys/\xs≠[]/\xs.length+ys.length<=sizeLine /\
 (ys=[]->Q (.ref a) H)/\(ys≠[]->∀ p,H p=none->Q (.ref p) (tv H p (.tup (xs++ys))))
theorem Vals.nil_iff(r:Vals xs us):us=[]↔xs=[]:=by
 cases r with
 | nil=>simp
 | cons _ _=>simp
theorem FL:OpR X (binaryOp .Add) (Ka X.K):=by
 intro pins s σ H x y v u Q I rx ry h;obtain⟨a,b,xs,ys,rfl,rfl,ha,hb,hx,hz,q1,q2⟩:=h;cases rx;cases ry;obtain⟨its,r1,p1,_⟩:=I.tuple ha;obtain⟨its2,r2,p2,_⟩:=I.tuple hb;refine HT.Gk p1 p2 (λz=>hx (r1.nil_iff.mp z)) (λz=>⟨.ref a,H,I,rfl,q1 (r2.nil_iff.mp z)⟩) (λz=>?_) (by rw[← r1.length,← r2.length];exact hz);refine⟨.ref s.heap.objs.size,_,I.laid (t':=s.toks) (o:=.tup (xs++ys)) (λb ob q=>ηH _ q) (af _) ?_,rfl,q2 (λw=>z (r2.nil_iff.mpr w)) _ (I.hok.fresh (af _))⟩;exact⟨by rw[aj];exact hz,_,r1.append r2,IsTup.new _ _⟩
end
def y4(n:Nat)(i:Int):Option Nat:=if 0<=i then (if i<n then some i.toNat else none) else if -(n:Int)<=i then some (i+n).toNat else none
def wl{α:Type}(xs:List α)(i:Int):Option α:=(y4 xs.length i).bind λj=>xs[j]?
theorem Bu(h:y4 n i=some j):seqIndex? i n=some j/\j<n /\ -(n:Int)<=i/\i<n:=by
 unfold y4 at h;by_cases h0:0<=i
 ·rw[if_pos h0] at h;by_cases h1:i<n
  ·rw[if_pos h1] at h;have e:i.toNat=j:=Option.some.inj h;exact⟨by rw[seqIndex_of h0 h1,e],(),(),h1⟩
  ·rw[if_neg h1] at h;cases h
 ·rw[if_neg h0] at h;by_cases h1 : -(n:Int)<=i
  ·rw[if_pos h1] at h;have e:(i+n).toNat=j:=Option.some.inj h;exact⟨by rw[seqIndex_neg () h1,e],(),h1,()⟩
  ·rw[if_neg h1] at h;cases h
theorem yJ{α:Type}{xs:List α}{i:Int}{v:α}(h:wl xs i=some v):∃ j,seqIndex? i xs.length=some j/\xs[j]? = some v/\j<xs.length /\ -(xs.length:Int)<=i/\i<xs.length:=by
 unfold wl at h;cases e:y4 xs.length i with
 | none=>rw[e] at h;cases h
 | some j =>
  rw[e] at h;obtain⟨h1,h2,h3,h4⟩:=Bu e;exact⟨j,h1,h,h2,h3,h4⟩
theorem ua{α:Type}{xs:List α}{j:Nat}{v:α}(h:xs[j]? = some v):wl xs (j:Int)=some v:=by
 have hj:j<xs.length:=(ak.mp h).1;have e:y4 xs.length (j:Int)=some j:=by
  unfold y4;rw[if_pos (),if_pos ()];simp
 unfold wl;rw[e];exact h
def wo(b:Expr):Prop:=∀ o i,subscripted b false o i=operate [o,i] (getItem o i)
def IxR(X:Cx)(r:R2):Prop :=
 ∀(value slice:Expr) (pins:List (Addr×Obj)) (s:Shared) (σ:St) (H:Hp) (x y:V) (v u:Value) (Q:VK),Inv X pins σ H s->RelV x v->RelV y u->r x y H Q ->
  subscripted slice false v u=operate [v,u] (getItem v u)->wpAny (model X.prog X.w) X.A (subscriptTail value slice v u) (EP X pins σ Q) X.xe s
def MY(X:Cx)(id:String)(r:V->List V->Hp->VK->Prop):Prop :=
 ∀(pins:List (Addr×Obj)) (s:Shared) (σ:St) (H:Hp) (x:V) (xs:List V) (v:Value) (us:List Value) (Q:VK),Inv X pins σ H s->RelV x v->Vals xs us->r x xs H Q ->
  wpAny (model X.prog X.w) X.A (call (.builtin id) (v::us)) (EP X pins σ Q) X.xe s
section
variable{X:Cx}{a b:Expr}{ta tb:TE}{pos:Pos}
theorem IxR.or(h:IxR X r)(h':IxR X r'):IxR X (λx y H Q=>r x y H Q\/r' x y H Q):=by
 intro value slice pins s σ H x y v u Q I rx ry q hs;rcases q with q|q
 ·exact h value slice pins s σ H x y v u Q I rx ry q hs
 ·exact h' value slice pins s σ H x y v u Q I rx ry q hs
theorem tE{r:R2}(hr:IxR X r)(ha:PE X a ta)(hb:PE X b tb)(hs:wo b):PE X (.Subscript a b pos) (JR r ta tb):=by
 intro pins s σ H Q I h;exact Subscript_ (Jq ha hb I h λv u s2 x y H2 I2 rx ry q=>hr a b pins s2 σ H2 x y v u Q I2 rx ry q (hs _ _))
def H9(K:Frag):R2:=λx y H Q=>∃ p xs i v,x = .ref p/\y = .int i/\SqL K H p xs/\wl xs i=some v/\Q v H
def J5(K:Frag):R2:=λx y H Q=>∃ p xs i v,x = .ref p/\y = .int i/\SqT K H p xs/\wl xs i=some v/\Q v H
def J6:R2:=λx y H Q=>∃ z i c,x = .str z/\y = .int i/\z.length<=sizeLine/\wl z.cps.toList i=some c/\Q (.str ⟨#[c]⟩) H
theorem ix_list:IxR X (H9 X.K):=by
 intro value slice pins s σ H x y v u Q I rx ry h hs;obtain⟨p,xs,i,z,rfl,rfl,hq,he,q⟩:=h;cases rx;obtain⟨t,rfl⟩:=ry;obtain⟨its,r,pl,hz⟩:=I.list hq;obtain⟨j,h1,h2,h3,h4,h5⟩:=yJ he;obtain⟨w,ew,rw'⟩:=r.get h2;have hl:=r.length;have hn:=uc;have fin:EP X pins σ Q w s:=⟨z,H,I,rw',q⟩;by_cases h0:0<=i
 ·have hj:i.toNat=j:=by
   rw[seqIndex_of h0 h5] at h1;exact Option.some.inj h1
  exact item_listR pl.isList h0 () (by rw[hj];simpa using ew) fin hs
 ·have hj:(i+(its.toArray.size:Int)).toNat=j:=by
   rw[seqIndex_neg () h4] at h1;rw[ao,← hl];exact Option.some.inj h1
  exact subscriptTail_builtinR (x:=w) pl.isList.typeIs slot_list_getitem.lookup
   (wpAny_getItem_list_neg (Q:=λr s'=>r=w/\EP X pins σ Q r s') pl.isList () (by rw[ao] <;> lia) () (by rw[hj];simpa using ew) ⟨rfl,fin⟩) hs
theorem ix_tup:IxR X (J5 X.K):=by
 intro value slice pins s σ H x y v u Q I rx ry h hs;obtain⟨p,xs,i,z,rfl,rfl,hq,he,q⟩:=h;cases rx;obtain⟨t,rfl⟩:=ry;obtain⟨its,r,pl,hz⟩:=I.tuple hq;obtain⟨j,h1,h2,h3,h4,h5⟩:=yJ he;obtain⟨w,ew,rw'⟩:=r.get h2;have hl:=r.length;have hn:=uc;have fin:EP X pins σ Q w s:=⟨z,H,I,rw',q⟩;exact subscriptTail_builtinR (x:=w) pl.typeIs slot_tuple_getitem.lookup
  (getItem_tuple (j:=j) (Q:=λr s'=>r=w/\EP X pins σ Q r s') pl () () (by rw[ao,← hl];exact h1) (by simpa using ew) ⟨rfl,fin⟩) hs
theorem IM:IxR X J6:=by
 intro value slice pins s σ H x y v u Q I rx ry h hs;obtain⟨z,i,c,rfl,rfl,hz,he,q⟩:=h;obtain⟨t,rfl⟩:=rx;obtain⟨t',rfl⟩:=ry;obtain⟨j,h1,h2,h3,h4,h5⟩:=yJ he;have hl:z.cps.toList.length=z.length:=by simp[Str.length]
 rw[hl] at h1 h4 h5;have hn:=uc;exact tail_any (typeIs_str s z t) slot_str_getitem.lookup (getItem_str (c:=c) (by
  have e1:decide (i < -(2^63:Int))=false:=decide_eq_false ();have e2:decide (i ≥ 2^63)=false:=decide_eq_false ();rw[e1,e2,Bool.or_false]) (by rw[h1];simpa using h2) ⟨.str ⟨#[c]⟩,H,I.tok _,⟨_,rfl⟩,q⟩) hs
def Lc(K:Frag):R2:=λx y H Q=>H9 K x y H Q\/J5 K x y H Q\/J6 x y H Q
theorem ix_seq:IxR X (Lc X.K):=ix_list.or (ix_tup.or IM)
theorem AB(its:List Value)(n j:Nat)(u:Value):Obj.mapSeq (·.setIfInBounds j u) { cls:=.type "list",data:=.seq its.toArray n } = { cls:=.type "list",data:=.seq (its.set j u).toArray n }:=by
 simp[Obj.mapSeq]
theorem Inv.lst{pins:List (Addr×Obj)}{σ:St}{H:Hp}{s:Shared}{p:Addr}{xs:List V}(I:Inv X pins σ H s)(h:H p=some (.lst xs)) :
  ∃(its:List Value) (n:Nat),Vals xs its/\s.heap.get? p=some { cls:=.type "list",data:=.seq its.toArray n }/\xs.length<=sizeLine:=by
 obtain⟨z,its,n,r,e⟩:=I.hok p _ h;exact⟨its,n,r,e,z⟩
theorem Inv.lstUpd{pins:List (Addr×Obj)}{σ:St}{H:Hp}{s:Shared}{p:Addr}{xs ys:List V}{its its':List Value}{n n':Nat}{f:Obj->Obj}(I:Inv X pins σ H s)(h:H p=some (.lst xs))
  (ho:s.heap.get? p=some { cls:=.type "list",data:=.seq its.toArray n }) (hf:f { cls:=.type "list",data:=.seq its.toArray n } = { cls:=.type "list",data:=.seq its'.toArray n' }) (r:Vals ys its') (hz:ys.length<=sizeLine) (t:Nat) :
  Inv X pins σ (tv H p (.lst ys)) { s with heap:=s.heap.update p f,toks:=t }:=by
 have e:(s.heap.update p f).get? p=some { cls:=.type "list",data:=.seq its'.toArray n' }:=by
  rw[Heap.get?_update_self f ho (by rw[hf] <;> rfl),hf]
 refine I.write (x:=p) (e:=p) (by rw[h];trivial) (.inl rfl) (λb u hb q=>(Heap.get?_update_other _ _ (Ne.symm hb)).trans q) ⟨_,e⟩ ?_;exact⟨hz,its',n',r,e⟩
def GG:V->V->V->Hp->(Hp->Prop)->Prop:=λo i v H Q=>∃ p xs k j,o = .ref p/\i = .int k/\H p=some (.lst xs)/\y4 xs.length k=some j/\Q (tv H p (.lst (xs.set j v)))
theorem tM:Jw X GG:=by
 intro pins s σ H o i v ov iv u Q I ro ri rv h;obtain⟨p,xs,k,j,rfl,rfl,hp,hj,q⟩:=h;cases ro;obtain⟨t,rfl⟩:=ri;obtain⟨its,n,r,ho,hz⟩:=I.lst hp;obtain⟨h1,h2,h3,h4⟩:=Bu hj;have hl:=r.length;have hn:=uc;have I':Inv X pins σ (tv H p (.lst (xs.set j v))) { s with heap:=s.heap.update p (Obj.mapSeq (·.setIfInBounds j u)) } :=
  I.lstUpd hp ho (AB its n j u) (r.set rv j) (by rw[aS];exact hz) s.toks
 by_cases h0:0<=k
 ·have hk:k.toNat=j:=by
   rw[seqIndex_of h0 h4] at h1;exact Option.some.inj h1
  exact PySem.W.ki_setAt ho h0 () (by rw[ao,← hl];exact h4) (by rw[hk];exact⟨_,I',q⟩)
 ·have hk:(k+(its.toArray.size:Int)).toNat=j:=by
   rw[seqIndex_neg () h3] at h1;rw[ao,← hl];exact Option.some.inj h1
  exact PySem.W.ki_setBack ho () (by rw[ao,← hl];exact h3) () (by rw[hk];exact⟨_,I',q⟩)
theorem yb(lo hi:Option Int)(n:Nat):(sliceBounds lo hi none n).1=((HT.tx n 0 lo:Nat):Int)/\(sliceBounds lo hi none n).2.1=((HT.tx n n hi:Nat):Int)/\(sliceBounds lo hi none n).2.2=1:=by
 refine⟨?_,?_,rfl⟩
 ·cases lo with
  | none=>simp[sliceBounds,HT.tx]
  | some i =>
   simp only[sliceBounds,HT.tx,gT,show (1:Int) > 0 by decide,if_true];by_cases h:i<0
   ·simp only[h,if_true] <;> lia
   ·simp only[h,if_false] <;> lia
 ·cases hi with
  | none=>simp[sliceBounds,HT.tx]
  | some i =>
   simp only[sliceBounds,HT.tx,gT,show (1:Int) > 0 by decide,if_true];by_cases h:i<0
   ·simp only[h,if_true] <;> lia
   ·simp only[h,if_false] <;> lia
theorem xo(its:List Value)(lo hi:Option Int):slicePick its.toArray lo hi none=((its.drop (HT.tx its.length 0 lo)).take (HT.tx its.length its.length hi-HT.tx its.length 0 lo)).toArray:=by
 obtain⟨h1,h2,h3⟩:=yb lo hi its.toArray.size;unfold slicePick;rw[h1,h2,h3];simp only[sliceRange_one,pick_run,ao] <;> rfl
def LR(K:Frag):V->Option Int->Option Int->Hp->VK->Prop:=λx lo hi H Q=>∃ a xs,x = .ref a/\SqL K H a xs/\∀ p,H p=none->Q (.ref p) (tv H p (.lst (zI xs lo hi)))
theorem sl_list:SlR X (LR X.K):=by
 intro pins s σ H x v vl vu lo hi sl Q I rx hs pl pu h;obtain⟨a,xs,rfl,hx,q⟩:=h;cases rx;obtain⟨its,r,ht,hz⟩:=I.list hx;have hlen:=r.length;refine⟨"list",_,slot_list_getitem.lookup,ht.isList.typeIs,?_⟩;refine wpAny_getItem_list_slice ht.isList hs pl pu .none (by simp) ?_ (by rw[ao] <;> lia);rw[xo,← hlen];refine⟨.ref s.heap.objs.size,_,I.laid (t':=s.toks) (o:=.lst (zI xs lo hi)) (λb ob q=>ηH _ q) (af _) ?_,rfl,q _ (I.hok.fresh (af _))⟩;exact⟨aE (v6 xs lo hi) hz,_,0,(r.drop (HT.tx xs.length 0 lo)).take (HT.tx xs.length xs.length hi-HT.tx xs.length 0 lo),ηG _ rfl⟩
def u7:V->Bool
 | .non=>true
 | .bl _=>true
 | .int _=>true
 | .str _=>true
 | _=>false
def He:V->V->Bool
 | .non,.non=>true
 | .bl a,.bl b=>a == b
 | .bl a,.int b=>(if a then 1 else 0) == b
 | .int a,.bl b=>a == (if b then 1 else 0)
 | .int a,.int b=>a == b
 | .str a,.str b=>a == b
 | _,_=>false
theorem IZ(ry:RelV y u)(rx:RelV x v)(fy:u7 y=true)(fx:u7 x=true):SeqAt.EqAt A s u v (He y x):=by
 cases y with
 | non =>
  cases ry;cases x with
  | non=>cases rx;exact SeqAt.EqAt.same _
  | bl b=>cases rx;exact SeqAt.EqAt.none_bool b
  | int b=>obtain⟨t,rfl⟩:=rx;exact SeqAt.EqAt.none_int b t
  | str b=>obtain⟨t,rfl⟩:=rx;exact SeqAt.EqAt.none_str b t
  | _=>exact absurd (show false=true from fx) aD
 | bl a =>
  cases ry;cases x with
  | non=>cases rx;exact SeqAt.EqAt.bool_none a
  | bl b=>cases rx;exact SeqAt.EqAt.bool_bool a b
  | int b=>obtain⟨t,rfl⟩:=rx;exact SeqAt.EqAt.bool_int a b t
  | str b=>obtain⟨t,rfl⟩:=rx;exact SeqAt.EqAt.bool_str a b t
  | _=>exact absurd (show false=true from fx) aD
 | int a =>
  obtain⟨t',rfl⟩:=ry;cases x with
  | non=>cases rx;exact SeqAt.EqAt.int_none a t'
  | bl b=>cases rx;exact SeqAt.EqAt.int_bool a t' b
  | int b=>obtain⟨t,rfl⟩:=rx;exact SeqAt.EqAt.int_int a t' b t
  | str b=>obtain⟨t,rfl⟩:=rx;exact SeqAt.EqAt.int_str a t' b t
  | _=>exact absurd (show false=true from fx) aD
 | str a =>
  obtain⟨t',rfl⟩:=ry;cases x with
  | non=>cases rx;exact SeqAt.EqAt.str_none a t'
  | bl b=>cases rx;exact SeqAt.EqAt.str_bool a t' b
  | int b=>obtain⟨t,rfl⟩:=rx;exact SeqAt.EqAt.str_int a t' b t
  | str b=>obtain⟨t,rfl⟩:=rx;exact SeqAt.EqAt.str_str a t' b t
  | _=>exact absurd (show false=true from fx) aD
 | _=>exact absurd (show false=true from fy) aD
def AH(x:V)(u:Value):Bool:=match u with
 | .none=>He .non x
 | .bool b=>He (.bl b) x
 | .int i _=>He (.int i) x
 | .str z _=>He (.str z) x
 | _=>false
theorem Ek(r:RelV y u)(f:u7 y=true):AH x u=He y x:=by
 cases y with
 | non=>cases r;rfl
 | bl b=>cases r;rfl
 | int i=>obtain⟨t,rfl⟩:=r;rfl
 | str z=>obtain⟨t,rfl⟩:=r;rfl
 | _=>exact absurd (show false=true from f) aD
theorem vD:∀{xs:List V} {us:List Value},Vals xs us->xs.all u7=true->us.any (AH x)=xs.any λy=>He y x
 | _,_,.nil,_=>rfl
 | y::xs,u::us,.cons r t,f=>by
  rw[e7,bH] at f;rw[gB,gB,Ek r f.1,vD t f.2]
theorem uJ(rx:RelV x v)(fx:u7 x=true):∀{xs:List V} {us:List Value},Vals xs us->xs.all u7=true->∀ u∈us,SeqAt.EqAt A s u v (AH x u)
 | _,_,.nil,_=>λu hu=>by cases hu
 | y::xs,u::us,.cons r t,f=>λu' hu=>by
  rw[e7,bH] at f;rcases au.mp hu with rfl|hu
  ·rw[Ek r f.1];exact IZ r rx f.1 fx
  ·exact uJ rx fx t f.2 u' hu
def JB(x:V)(xs:List V):Bool:=xs.any λy=>He y x
def LW(K:Frag)(neg:Bool):R2:=λx y H Q=>∃ p xs,y = .ref p/\(SqL K H p xs\/SqT K H p xs)/\u7 x=true/\xs.all u7=true/\Q (.bl (if neg then !JB x xs else JB x xs)) H
theorem Cg:OpR X (compareOp .In) (LW X.K false):=by
 intro pins s σ H x y v u Q I rx ry h;obtain⟨p,xs,rfl,hq,fx,fs,q⟩:=h;cases ry;rcases hq with hq|hq
 ·obtain⟨its,r,pl,hz⟩:=I.list hq;refine SeqAt.in_listAt (AH x) pl.isList (λw hw=>uJ rx fx r fs w (by simpa using hw)) ⟨.bl _,H,I,rfl,?_⟩;rw[show its.toArray.any (AH x)=its.any (AH x) by simp,vD r fs];exact q
 ·obtain⟨its,r,pl,hz⟩:=I.tuple hq;refine SeqAt.in_tupleAt (AH x) pl (λw hw=>uJ rx fx r fs w (by simpa using hw)) ⟨.bl _,H,I,rfl,?_⟩;rw[show its.toArray.any (AH x)=its.any (AH x) by simp,vD r fs];exact q
theorem yl:OpR X (compareOp .NotIn) (LW X.K true):=by
 intro pins s σ H x y v u Q I rx ry h;obtain⟨p,xs,rfl,hq,fx,fs,q⟩:=h;cases ry;rcases hq with hq|hq
 ·obtain⟨its,r,pl,hz⟩:=I.list hq;refine SeqAt.notIn_listAt (AH x) pl.isList (λw hw=>uJ rx fx r fs w (by simpa using hw)) ⟨.bl _,H,I,rfl,?_⟩;rw[show its.toArray.any (AH x)=its.any (AH x) by simp,vD r fs];exact q
 ·obtain⟨its,r,pl,hz⟩:=I.tuple hq;refine SeqAt.notIn_tupleAt (AH x) pl (λw hw=>uJ rx fx r fs w (by simpa using hw)) ⟨.bl _,H,I,rfl,?_⟩;rw[show its.toArray.any (AH x)=its.any (AH x) by simp,vD r fs];exact q
theorem yF:CallR X (.builtin "len") (λxs H Q=>∃ p ys,xs=[.ref p]/\(SqL X.K H p ys\/SqT X.K H p ys)/\Q (.int ys.length) H):=by
 intro pins s σ H xs us Q I r h;obtain⟨p,ys,rfl,hq,q⟩:=h;obtain⟨u,rfl,rx⟩:=ww r;cases rx;have hn:=uc;rcases hq with hq|hq
 ·obtain⟨its,r',pl,hz⟩:=I.list hq;have hlen:=r'.length;exact Calls.call_len_list pl.isList (by simp only[ao] <;> lia) ⟨.int ys.length,H,I.tok _,⟨s.toks+1,by rw[ao,hlen]⟩,q⟩
 ·obtain⟨its,r',pl,hz⟩:=I.tuple hq;have hlen:=r'.length;exact len_tuple pl (by simp only[ao] <;> lia) ⟨.int ys.length,H,I.tok _,⟨s.toks+1,by rw[ao,hlen]⟩,q⟩
theorem yE:CallR X (.builtin "len") (λxs H Q=>∃ z,xs=[.str z]/\z.length<=sizeLine/\Q (.int z.length) H):=by
 intro pins s σ H xs us Q I r h;obtain⟨z,rfl,hz,q⟩:=h;obtain⟨u,rfl,t,rfl⟩:=ww r;have hn:=uc;exact len_str () ⟨.int z.length,H,I.tok _,⟨_,rfl⟩,q⟩
theorem yD:CallR X (.type "list") (λxs H Q=>∃ p ys,xs=[.ref p]/\(SqL X.K H p ys\/SqT X.K H p ys)/\∀ l,H l=none->Q (.ref l) (tv H l (.lst ys))):=by
 intro pins s σ H xs us Q I r h;obtain⟨p,ys,rfl,hq,q⟩:=h;obtain⟨u,rfl,rx⟩:=ww r;cases rx;have fin:∀(its:List Value),Vals ys its->ys.length<=sizeLine->∀(h':Heap) (c':Nat),(∀ b o',s.heap.get? b=some o'->h'.get? b=some o') ->
   h'.get? s.heap.objs.size=some { cls:=.type "list",dict:=none,data:=.seq its.toArray c',slots:=#[] }->EP X pins σ Q (.ref s.heap.objs.size) { s with heap:=h' }:=λits r' hz h' c' kp e =>
  ⟨.ref s.heap.objs.size,_,I.laid (t':=s.toks) kp (af _) (show ObjOk X.prog X.w _ h' _ (.lst ys) from⟨hz,its,c',r',e⟩),rfl,q _ (I.hok.fresh (af _))⟩
 rcases hq with hq|hq
 ·obtain⟨its,r',pl,hz⟩:=I.list hq;have hlen:=r'.length;obtain⟨o,ho,hc,n,hd⟩:=pl.isList;exact call_list_seq p (.inl rfl) ho hc hd (λh' c' kp e=>fin its r' hz h' c' kp e) (by simp only[ao] <;> lia)
 ·obtain⟨its,r',pl,hz⟩:=I.tuple hq;have hlen:=r'.length;obtain⟨o,ho,hc,n,hd⟩:=pl;exact call_list_seq p (.inr rfl) ho hc hd (λh' c' kp e=>fin its r' hz h' c' kp e) (by simp only[ao] <;> lia)
theorem xt:CallR X (.type "tuple") (λxs H Q=>∃ p ys,xs=[.ref p]/\((SqL X.K H p ys/\∀ l,H l=none->Q (.ref l) (tv H l (.tup ys)))\/(SqT X.K H p ys/\Q (.ref p) H))):=by
 intro pins s σ H xs us Q I r h;obtain⟨p,ys,rfl,h⟩:=h;obtain⟨u,rfl,rx⟩:=ww r;cases rx;rcases h with⟨hq,q⟩|⟨hq,q⟩
 ·obtain⟨its,r',pl,hz⟩:=I.list hq;have hlen:=r'.length;refine call_tuple_list pl.isList (λh' kp=>?_) (by simp only[ao] <;> lia);have I1:Inv X pins σ H { s with heap:=h' }:=I.kept (t':=s.toks) kp;have I2:Inv X pins σ (tv H h'.objs.size (.tup ys)) { s with heap:=h'.push { cls:=.type "tuple",data:=.seq its.toArray } } :=
   I1.laid (t':=s.toks) (λb o e=>ηH _ e) (af _) (show ObjOk X.prog X.w _ _ _ (.tup ys) from⟨hz,its,r',IsTup.new _ _⟩)
  exact⟨.ref h'.objs.size,_,I2,rfl,q _ (I1.hok.fresh (af _))⟩
 ·obtain⟨its,r',pl,hz⟩:=I.tuple hq;exact call_tuple_same pl ⟨.ref p,H,I,rfl,q⟩
def Lp(K:Frag)(T:String)(x:V)(H:Hp):Prop:=match x with
 | .str _=>T = "str"
 | .int _=>T = "int"
 | .ref p=>(T = "list" /\ ∃ xs,SqL K H p xs)\/(T = "tuple" /\ ∃ o,K.lookup p=some o/\o.cls = .type "tuple" /\ o.dict=none) \/
   (T = "dict" /\ ((∃ kvs,H p=some (.dK kvs))\/∃ kvs,H p=some (.dT kvs)))\/(T = "set" /\ ∃ S n,H p=some (.set S n))
 | _=>False
theorem C1(I:Inv X pins σ H s)(r:RelV x v)(ty:Lp X.K T x H) :
  s.TypeIs v T/\∀ a,v = .ref a->∃ ob,s.heap.get? a=some ob/\ob.dict=none:=by
 cases x with
 | str z =>
  obtain⟨t,rfl⟩:=r;cases (show T = "str" from ty);exact⟨typeIs_str s z t,λ_ e=>nomatch e⟩
 | int i =>
  obtain⟨t,rfl⟩:=r;cases (show T = "int" from ty);exact⟨typeIs_int s i t,λ_ e=>nomatch e⟩
 | ref p =>
  cases r;rcases ty with⟨rfl,xs,hq⟩|⟨rfl,o,hk,hc,hd⟩|⟨rfl,hk⟩|⟨rfl,S,n,hk⟩
  ·obtain⟨its,_,pl,_⟩:=I.list hq;refine⟨pl.isList.typeIs,λa e=>?_⟩;cases e;obtain⟨o,n,e,c,hd,_⟩:=pl;exact⟨o,e,hd⟩
  ·refine⟨⟨o,I.kIn p o hk,hc⟩,λa e=>?_⟩;cases e;exact⟨o,I.kIn _ o hk,hd⟩
  ·have z:∃ o,s.heap.get? p=some o/\o.ExactDict:=by
    rcases hk with⟨kvs,hk⟩|⟨kvs,hk⟩
    ·obtain⟨_,_,_,_,o,_,_,e,ex,_⟩:=I.hok p _ hk;exact⟨o,e,ex⟩
    ·obtain⟨_,_,_,_,o,_,_,e,ex,_⟩:=I.hok p _ hk;exact⟨o,e,ex⟩
   obtain⟨o,e,ex⟩:=z;refine⟨⟨o,e,ex.1⟩,λa e2=>?_⟩;cases e2;exact⟨o,e,ex.2.1⟩
  ·obtain⟨o,_,_,_,e,ex,_⟩:=I.hok p _ hk;refine⟨⟨o,e,ex.1⟩,λa e2=>?_⟩;cases e2;exact⟨o,e,ex.2.1⟩
 | _=>exact False.elim ty
def LD(K:Frag)(T:String)(r:V->List V->Hp->VK->Prop)(to:TE):TE:=λσ H Q=>to σ H λx H1=>Lp K T x H1/\r x [] H1 Q
def Nd(K:Frag)(T:String)(r:V->List V->Hp->VK->Prop)(to:TE)(t:TA):TE:=λσ H Q=>to σ H λx H1=>Lp K T x H1/\t σ H1 λxs H2=>r x xs H2 Q
variable{o e:Expr}{es:List Expr}{to:TE}{t:TA}{name:Str}{apos cpos:Pos}{T id:String}{r:V->List V->Hp->VK->Prop}
theorem DG(pa:PlainAttrs T)(slot:Slot T name id)(hty:typeOf (.builtin id)=pure (.type "method_descriptor"))(hm:MY X id r)(ho:PE X o to)
  (hbase:attributeBase o name X.env (eval o X.env)=eval o X.env:=by rfl) (hline:(apos.endLine == cpos.line)=true:=by rfl):PE X (.Call (.Attribute o name apos) [] [] cpos) (LD X.K T r to):=by
 intro pins s σ H Q I h;refine wpAny_Call_method0_late hbase hline (sS (ho pins s σ H _ I h) λv s1 ⟨x,H1,I1,r1,ty,q1⟩=>?_);obtain⟨h1,h2⟩:=C1 I1 r1 ty;exact⟨T,id,pa,slot,hty,h1,h2,Calls.callWith_builtin rfl (PySem.evalArgs_none (hm pins s1 σ H1 x [] v [] Q I1 r1 .nil q1))⟩
theorem Kf(pa:PlainAttrs T)(slot:Slot T name id)(hty:typeOf (.builtin id)=pure (.type "method_descriptor"))(hm:MY X id r)(ho:PE X o to)(ha:PA X (e::es) t)
  (hbase:attributeBase o name X.env (eval o X.env)=eval o X.env:=by rfl)
  (hfew:((backTo cpos (starEach (e::es) X.env)).all (λx => !x.1) && (backToKw cpos (keywordEach [] X.env)).all (λx=>x.1.isSome)
   && decide ((e::es).length+([]:List Keyword).length+(if ([]:List Keyword).isEmpty then 0 else 1)<30))=true:=by rfl)
  (hline:(apos.endLine == cpos.line)=true:=by rfl) (hs:starEach (e::es) X.env=(false,eval e X.env)::starEach es X.env:=by rfl) (hplain:(backTo cpos (starEach es X.env)).any (·.1)=false:=by rfl) :
  PE X (.Call (.Attribute o name apos) (e::es) [] cpos) (Nd X.K T r to t):=by
 intro pins s σ H Q I h;refine wpAny_Call_method_late hbase hfew hline rfl (sS (ho pins s σ H _ I h) λv s1 ⟨x,H1,I1,r1,ty,q1⟩=>?_);obtain⟨h1,h2⟩:=C1 I1 r1 ty;refine⟨T,id,pa,slot,hty,h1,h2,?_⟩;have hA:=ha cpos pins s1 σ H1 _ I1 q1;rw[hs] at hA ⊢;refine Calls.callWith_builtin (by show (false || (backTo cpos (starEach es X.env)).any (·.1))=false;rw[hplain] <;> rfl) (Calls.evalArgs_plain ?_);exact sS hA λus s2 ⟨vs,H2,I2,r2,q2⟩=>hm pins s2 σ H2 x vs v us Q I2 r1 r2 q2
end
def MZ(X:Cx)(id:String)(r:V->List V->Hp->VK->Prop):Prop :=
 ∀(pins:List (Addr×Obj)) (s:Shared) (σ:St) (H:Hp) (x:V) (xs:List V) (v:Value) (us:List Value) (Q:VK),Inv X pins σ H s->RelV x v->Vals xs us->r x xs H Q ->
  wpAny (model X.prog X.w) X.A (call (.builtin id) (v::us)) (EP X pins σ Q) X.xe s
theorem Vals.uncons(h:Vals (x::xs) us):∃ u r,us=u::r/\RelV x u/\Vals xs r:=by
 cases h with
 | cons r t=>exact⟨_,_,rfl,r,t⟩
theorem Vals.unnil(h:Vals [] us):us=[]:=by
 cases h;rfl
theorem Vals.one(h:Vals [x] us):∃ u,us=[u]/\RelV x u:=by
 obtain⟨u,r,rfl,h1,h⟩:=h.uncons;rw[h.unnil];exact⟨u,rfl,h1⟩
theorem Vals.two(h:Vals [x,y] us):∃ u v,us=[u,v]/\RelV x u/\RelV y v:=by
 obtain⟨u,r,rfl,h1,h⟩:=h.uncons;obtain⟨v,rfl,h2⟩:=h.one;exact⟨u,v,rfl,h1,h2⟩
theorem Vals.zero:∀{us:List Value},Vals [] us->us=[]
 | _,.nil=>rfl
theorem Vals.dropLast(h:Vals xs us):Vals xs.dropLast us.dropLast:=by
 induction h with
 | nil=>exact .nil
 | cons r t ih =>
  cases t with
  | nil=>exact .nil
  | cons q t'=>exact .cons r ih
theorem Vals.reverse(h:Vals xs us):Vals xs.reverse us.reverse:=by
 induction h with
 | nil=>exact .nil
 | cons r t ih=>rw[dN,dN];exact Vals.append ih (.cons r .nil)
theorem Vals.rep(h:Vals xs us):∀ k:Nat,Vals (List.replicate k xs).flatten (List.replicate k us).flatten
 | 0=>.nil
 | k+1=>by
  rw[bF,bF,bY,bY];exact Vals.append h (Vals.rep h k)
theorem AG{α:Type}(l:List α):l.eraseIdx (l.length-1)=l.dropLast:=by
 induction l with
 | nil=>rfl
 | cons a r ih =>
  cases r with
  | nil=>rfl
  | cons b r =>
   have e:(a::b::r).length-1=((b::r).length-1)+1:=by
    have h1:(a::b::r).length=r.length+2:=rfl;have h2:(b::r).length=r.length+1:=rfl;lia
   rw[e,List.eraseIdx_cons_succ,ih];all_goals rfl
theorem vQ(its:List Value):∀(k:Nat) (acc:List Value),
  List.foldl (λx1 x2=>x1++x2) acc.toArray (List.replicate k its.toArray)=(acc++(List.replicate k its).flatten).toArray
 | 0,acc=>by simp
 | k+1,acc=>by
  have e:acc.toArray++its.toArray=(acc++its).toArray:=by simp
  have e2:(acc++its)++(List.replicate k its).flatten=acc++(List.replicate (k+1) its).flatten:=by
   rw[bF,bY,fj]
  rw[← e2,← vQ its k (acc++its),← e,bF,List.foldl_cons]
section
variable{X:Cx}{pins:List (Addr×Obj)}{σ:St}{H:Hp}{s:Shared}{l b:Addr}{xs ys zs:List V}
theorem Inv.lset{its its':List Value}{n:Nat}{f:Array Value->Array Value}{t':Nat}(I:Inv X pins σ H s)(hH:H l=some (.lst xs))
  (e:s.heap.get? l=some { cls:=.type "list",data:=.seq its.toArray n }) (hf:f its.toArray=its'.toArray) (hv:Vals ys its') (hz:ys.length<=sizeLine) :
  Inv X pins σ (tv H l (.lst ys)) { s with heap:=s.heap.update l (Obj.mapSeq f),toks:=t' }:=by
 have q:=PySem.IsL.update e f;rw[hf] at q;refine I.write (x:=l) (e:=l) (by rw[hH];exact trivial) (.inl rfl) (λb' u hb hu=>(Heap.get?_update_other s.heap (Obj.mapSeq f) (Ne.symm hb)).trans hu) ⟨_,q⟩ ?_;exact⟨hz,its',_,hv,q⟩
theorem Inv.lnew(I:Inv X pins σ H s)(hv:Vals ys its)(hz:ys.length<=sizeLine) :
  Inv X pins σ (tv H s.heap.objs.size (.lst ys)) { s with heap:=s.heap.push { cls:=.type "list",data:=.seq its.toArray },toks:=t' } :=
 I.laid (λ_ _ q=>ηH _ q) (af _) ⟨hz,its,0,hv,ηG _ rfl⟩
theorem Inv.fresh(I:Inv X pins σ H s):H s.heap.objs.size=none:=I.hok.fresh (af _)
theorem Inv.lstM(I:Inv X pins σ H s)(hH:H l=some (.lst xs)):xs.length<=sizeLine/\∃(its:List Value) (n:Nat),Vals xs its/\xs.length=its.length/\s.heap.get? l=some { cls:=.type "list",data:=.seq its.toArray n }:=by
 obtain⟨z,its,n,r,e⟩:=I.hok l _ hH;exact⟨z,its,n,r,r.length,e⟩
theorem DU(h:n<=sizeLine):Builtin.List.listTooLong n=false:=by
 unfold Builtin.List.listTooLong;exact decide_eq_false ()
end
section
variable{X:Cx}
def Fp:V->List V->Hp->VK->Prop:=λx vs H Q=>∃ l xs y,x = .ref l/\vs=[y]/\H l=some (.lst xs)/\xs.length<sizeLine/\Q .non (tv H l (.lst (xs++[y])))
theorem Cp:MZ X "list.append" Fp:=by
 intro pins s σ H x vs v us Q I rx rv h;obtain⟨l,xs,y,rfl,rfl,hH,hz,q⟩:=h;cases rx;obtain⟨u,rfl,ru⟩:=rv.one;obtain⟨z,its,n,r,hl,e⟩:=I.lstM hH;refine call_meets F.slot_list_append ⟨_,e,rfl⟩ F.entry_list_append (F.args_list_append_2 _ _) (PySem.list_append l its.toArray n u (by rw[ao];lia)) ⟨e,?_⟩;refine⟨.non,_,I.lset (its':=its++[u]) hH e (by simp) (r.append (.cons ru .nil)) ?_,rfl,q⟩;rw[aj,eU];lia
def LV:V->List V->Hp->VK->Prop:=λx vs H Q=>∃ l xs y,x = .ref l/\vs=[]/\H l=some (.lst xs)/\xs[xs.length-1]? = some y/\Q y (tv H l (.lst xs.dropLast))
theorem DZ:MZ X "list.pop" LV:=by
 intro pins s σ H x vs v us Q I rx rv h;obtain⟨l,xs,y,rfl,rfl,hH,hy,q⟩:=h;cases rx;have hus:=rv.zero;subst hus;obtain⟨z,its,n,r,hl,e⟩:=I.lstM hH;obtain⟨u,hu,ru⟩:=r.get hy;have hy':its.toArray[its.toArray.size-1]? = some u:=by
  show its.toArray[its.length-1]? = some u;rw[← eO,← hl];exact hu
 refine call_meets F.slot_list_pop ⟨_,e,rfl⟩ F.entry_list_pop (F.args_list_pop_1 _) (MeetsSeq.list_pop_last l its.toArray n u hy' (by rw[ao];lia)) ⟨e,?_⟩;refine⟨y,_,I.lset (its':=its.dropLast) hH e ?_ r.dropLast ?_,ru,q⟩
 ·show its.toArray.eraseIdxIfInBounds (its.toArray.size-1)=its.dropLast.toArray;rw[ao,List.eraseIdxIfInBounds_toArray,AG]
 ·rw[gN];lia
def LX:R2:=λx y H Q=>∃ l b xs zs,x = .ref l/\y = .ref b/\H l=some (.lst xs)/\H b=some (.lst zs)/\xs.length+zs.length<=sizeLine/\∀ p,H p=none->Q (.ref p) (tv H p (.lst (xs++zs)))
theorem Iy:OpR X (binaryOp .Add) LX:=by
 intro pins s σ H x y v u Q I rx ry h;obtain⟨l,b,xs,zs,rfl,rfl,hH,hB,hz,q⟩:=h;cases rx;cases ry;obtain⟨z,its,n,r,hl,e⟩:=I.lstM hH;obtain⟨z2,its2,n2,r2,hl2,e2⟩:=I.lstM hB;refine PySem.P.add_list e e2 ?_ (by rw[ao,ao];lia);have ea:its.toArray++its2.toArray=(its++its2).toArray:=by simp
 rw[ea];exact⟨.ref _,_,I.lnew (t':=s.toks) (r.append r2) (by rw[aj];lia),rfl,q _ I.fresh⟩
def LU:R2:=λx y H Q=>∃ l k xs,x = .ref l/\y = .int k/\H l=some (.lst xs) /\ -(2^63)<=k/\k<2^63/\xs.length*k.toNat<=sizeLine /\
 ∀ p,H p=none->Q (.ref p) (tv H p (.lst (List.replicate k.toNat xs).flatten))
theorem yq{α:Type}(xs:List α)(k:Nat):(List.replicate k xs).flatten.length=k*xs.length:=by
 induction k with
 | zero=>simp
 | succ k ih=>rw[bF,bY,aj,ih,bj,Nat.add_comm]
theorem DQ:OpR X (binaryOp .Mult) LU:=by
 intro pins s σ H x y v u Q I rx ry h;obtain⟨l,k,xs,rfl,rfl,hH,h1,h2,hz,q⟩:=h;cases rx;obtain⟨t,rfl⟩:=ry;obtain⟨z,its,n,r,hl,e⟩:=I.lstM hH;have hlen:its.toArray.size*k.toNat<=sizeLine:=by rw[ao,← hl];exact hz
 have hcap:¬ its.toArray.size*k.toNat > (2^63-1) / 8:=by
  have:(sizeLine:Nat)<=(2^63-1) / 8:=by decide
  lia
 have hfit:¬ (!Builtin.List.listFitsIndex k)=true:=by
  rw[fitsIndex_both h1 h2];exact aD
 have hlong:¬ Builtin.List.listTooLong (its.toArray.size*k.toNat)=true:=by
  rw[DU hlen];exact aD
 have hnew:List.foldl (λx1 x2=>x1++x2) #[] (List.replicate (if its.toArray.isEmpty=true then 0 else k.toNat) its.toArray)=(List.replicate k.toNat its).flatten.toArray:=by
  have f0:∀ m:Nat,List.foldl (λx1 x2=>x1++x2) #[] (List.replicate m its.toArray)=(List.replicate m its).flatten.toArray:=λm=>by
   have:=vQ its m [];rw[gh] at this;exact this
  rw[f0];cases its with
  | nil=>simp
  | cons a r'=>rw[if_neg (by simp)]
 refine wpAny_binaryOp_repeat_ref (T := "list") (U := "int") (by decide) ⟨_,e,rfl⟩ (λs'=>typeIs_int s' k t) noFill_list_mul F.fills_int_mul F.slot_int_rmul repeat_list F.slot_int_index.lookup
  (call_meets F.slot_int_rmul (typeIs_int s k t) F.entry_int_rmul (F.args_int_rmul_2 _ _) (int___rmul___int_list k t l its.toArray n)
   ⟨e,rfl,⟨_,e,rfl⟩,call_meets F.slot_list_mul ⟨_,e,rfl⟩ F.entry_list_mul (F.args_list_mul_2 _ _) (AutoListH.list___mul___list_int_3 l its.toArray n k t hfit hcap hlong) ⟨e,?_⟩⟩)
 rw[hnew];exact⟨.ref _,_,I.lnew (t':=s.toks) (r.rep k.toNat) (by rw[yq,aU];exact hz),rfl,q _ I.fresh⟩
end
section
variable{prog:Program}{w:World}{A:Around}{E:Value->Shared->Prop}{s:Shared}
set_option maxRecDepth 100000 in
end
end L2
namespace Att
open PySem PySem.W PySem.Calls PyProof.Rows
theorem v7{P:Params}{h:Heap}:∀(ns:List Int) (vs:List Value),WellAll P h vs (ns.map WData.int)->IntsAre vs ns:=by
 intro ns;induction ns with
 | nil =>
  intro vs w;rw[List.map_nil] at w;cases w;exact .nil
 | cons n ns ih =>
  intro vs w;rw[dU] at w;cases w with
  | cons a b =>
   cases a;exact .cons _ _ (ih _ b)
theorem BY{l:OpenLaw}{n:Nat}(hn:l.most=some n){P:Params}{h:Heap}{args:List WData}{vals:List Value}
  (hpre:l.row.toRowW.claim.pre args=true) (hwl:WellAll P h vals args) :
  ∃ a vs ns,vals=[Value.ref a]/\args=[WData.list (ns.map WData.int)]/\h.get? a=some { cls:=.type "list",data:=.seq vs.toArray }/\IntsAre vs ns/\ns.length<=n:=by
 have hsh:WShape.hasAll [] args [.list .int]=true:=(pre_splitW hpre).1;have hc:l.pre.holds [] { args:=args }=true:=(pre_splitW hpre).2;obtain⟨d,r,rfl,h1,h2⟩:=hasAllW_cons hsh;obtain rfl:=hasAllW_nil h2;obtain⟨xs,rfl,h3⟩:=hasW_list h1;obtain⟨ns,rfl⟩:=items_int h3;have hlen:ns.length<=n:=by
  unfold OpenLaw.pre at hc;have h4:(WTm.not (.lt (.lit (.int (n:Int))) (.len (.arg 0)))).holds [] { args:=[.list (ns.map .int)] }=true:=by
   have h4:=(holds_andW hc).1;rw[hn] at h4;exact h4
  have h5:=condW_of h4 (w_not (w_lt w_lit (w_len_list (w_arg rfl))));rw[aa] at h5;refine Nat.le_of_not_lt λq=>?_;have q':(n:Int)<((ns.length:Nat):Int):=by lia
  first
   | (rw[decide_eq_true q'] at h5;exact absurd h5 (by decide))
   | (simp at h5;lia)
 cases hwl with
 | cons w1 w2 =>
  cases w2;cases w1 with
  | list ho hall=>exact⟨_,_,ns,rfl,rfl,ho,v7 ns _ hall,hlen⟩
theorem B7(l:OpenLaw)(args:List WData):l.row.toRowW.claim.post args (.bool true) args=true :=
 postW_of (r:=l.row.toRowW) (X:=(true == true))
  (show WShape.has [] (.bool true) .bool=true by first|rfl|decide|simp[WShape.has,WShape.arms,WShape.armsAll])
  (show (WTm.eq .res (.lit (.bool true))).value [] { args:=args,res:=some (.bool true),after:=args }=some (.bool (true == true)) from w_eq_bool (w_res rfl) w_lit) rfl
theorem zQ{l:OpenLaw}{n:Nat}{q:Program}{loose:List Str}{XP:(Str->Option Value)->Heap->Prop}{YP:World->Heap->Prop}{d:DefRec}
  (hn:l.most=some n) (hdf:d.params.defaults=[])
  (call:∀(w:World) (s₀ s₁:Shared) (mg mb:Str->Option Value) (fa:Addr) (o:Obj) (pm cd doc:Value) (a:Addr) (vs:List Value) (ns:List Int),
   Ground q loose [] XP w s₀ mg mb s₁.heap->YP w s₁.heap ->
   s₁.heap.get? fa=some o->o.data = .func (docDef d.name d.params d.body d.scope pm cd doc)->s₁.heap.CodeRec cd d.name->mg d.name=some (.ref fa) ->
   s₁.heap.get? a=some { cls:=.type "list",data:=.seq vs.toArray }->IntsAre vs ns->ns.length<=n->s₁.gens = #[] ->
   codeAny (model l.prog w) callerA (.call (.ref fa) ⟨[.ref a],[]⟩) (λr s'=>r = .ok (.ret (.bool true))/\OldK s₁.heap s'.heap/\s'.os=s₁.os/\AllBare s'.gens) s₁) :
  WalkO q loose XP YP l.row.toRowW d [] (λf vs=>PySem.call f vs):=by
 intro w s₀ s₁ mg mb G Y fa o pm cd doc dV kV ho hd hcd hD hmg hg args vals as hpre hlay hrd hwl hlo;obtain rfl:dV = .none:=Dflts.none hD hdf;obtain rfl:kV = .none:=Dflts.noKw hD;obtain⟨a,vs,ns,rfl,rfl,hobj,hints,hlen⟩:=BY hn hpre hwl;refine enter_call (codeAny_mono (call w s₀ s₁ mg mb fa o pm cd doc a vs ns G Y ho (fd_plain hd) hcd hmg hobj hints hlen hg) λr s' hq=>?_);obtain⟨rfl,h2,h3,h4⟩:=hq;exact⟨.inl ⟨.bool true,.bool true,[],rfl,λ_=>rfl,.bool true,B7 l _,λ_=>⟨List.Pairwise.nil,λ_ hm=>(nomatch hm)⟩⟩,h2,h3,h4⟩
end Att
namespace L2
open PySem PySem.Spec PyProof.Rows
theorem xv:∀{vs:List Value} {ns:List Int},IntsAre vs ns->Vals (ns.map V.int) vs
 | _,_,.nil=>.nil
 | _,_,.cons n t h=>.cons ⟨t,rfl⟩ (xv h)
def Jx(H:Hp):Prop:=∀ b,H b=none\/∃ o xs,H b=some (.frz o (.lst xs))
theorem D6{P:Program}{w:World}{K:Frag}{mg mb:Str->Option Value}{CX:E4}{k:Nat}{fa a:Addr}{fd:FuncData}{x:Str}{sp:Sp}{s₁:Shared}{vs:List Value}{ns:List Int}
  (KX:K.In s₁.heap) (hns:s₁.heap.Ns mainGlobals mg) (hb:s₁.heap.Ns builtinsNs mb) (hbb:∀ x:Str,x ≠ "__name__" -> mb x=bootBuiltins x) (hlim:s₁.heap.NoLimit) (hse:s₁.heap.NoSeer) (htr:P.given.tree=none) (hg:s₁.gens = #[])
  (ha:s₁.heap.get? a=some { cls:=.type "list",data:=.seq vs.toArray }) (hi:IntsAre vs ns) (hl:ns.length<=sizeLine) (hr:Room k callerA)
  (F:∀ base:Heap,K.In base->base.Ns mainGlobals mg->FnOk P w K mg base CX k fa fd [x] sp) (hbind:∀(s:Shared) (u:Value),BindsTo s fd ⟨[u],[]⟩ [(x,u)])
  (hsp:∀ H:Hp,Jx H->SqL K H a (ns.map V.int)->sp [.ref a] H (λv _=>v = .bl true) λ_ _ _=>False)
  (hCX:∀ H e s',CX [] H s₁ (λ_ _ _=>False) e s'->False) :
  codeAny (model P w) callerA (.call (.ref fa) ⟨[.ref a],[]⟩) (λr s'=>r = .ok (.ret (.bool true))/\OldK s₁.heap s'.heap/\s'.os=s₁.os/\AllBare s'.gens) s₁:=by
 have rv:=xv hi;have lenV:=hi.length
 -- from an abstract heap in which nothing but the script may be tracked
 have core:∀ H:Hp,Jx H->SqL K H a (ns.map V.int)->HOk P w H s₁.heap->(∀ b,H b≠none->b=a)->(H a≠none->K.lookup a=none) ->
   codeAny (model P w) callerA (.call (.ref fa) ⟨[.ref a],[]⟩) (λr s'=>r = .ok (.ret (.bool true))/\OldK s₁.heap s'.heap/\s'.os=s₁.os/\AllBare s'.gens) s₁:=by
  intro H hO hS hok hA hK;have base_of:∀{b:Addr} {o:Obj},s₁.heap.get? b=some o->H b=none->(xq s₁.heap H).get? b=some o:=λe n=>Eb e n;have noA:∀{b:Addr} {o:Obj} {es:Array DictEntry} {ep:Nat},s₁.heap.get? b=some o->o.data = .dict es ep->H b=none:=λ{b o es ep} e d=>by
   cases q:H b with
   | none=>rfl
   | some u =>
    have e':b=a:=hA b (by rw[q];simp);subst e';rw[ha] at e;cases e;have d':Data.seq vs.toArray _=Data.dict es ep:=d;cases d'
  have nsK:∀{b:Addr} {m:Str->Option Value},s₁.heap.Ns b m->(xq s₁.heap H).Ns b m:=λ{b m} ⟨o,es,ep,e,d,r⟩=>⟨o,es,ep,base_of e (noA e d),d,r⟩;have hKb:K.In (xq s₁.heap H):=λb o e=>base_of (KX b o e) (by
   cases q:H b with
   | none=>rfl
   | some u =>
    have e':b=a:=hA b (by rw[q];simp);subst e';rw[hK (by rw[q];simp)] at e;cases e)
  have hM:Mod K mg (xq s₁.heap H):=⟨hKb,nsK hns,⟨mb,nsK hb,hbb⟩,let ⟨mc,h1,h2⟩:=hlim;⟨mc,nsK h1,h2⟩⟩;have hsr:(xq s₁.heap H).NoSeer:=by
   obtain⟨⟨mc,a1,b1⟩,⟨mm,a2,b2⟩,⟨mi,a3,b3⟩,⟨mq,bm,ob,a4,b4,c4,d4,e4⟩⟩:=hse;refine⟨⟨mc,nsK a1,b1⟩,⟨mm,nsK a2,b2⟩,⟨mi,nsK a3,b3⟩,⟨mq,bm,ob,nsK a4,b4,base_of c4 ?_,d4,e4⟩⟩;cases q:H bm with
   | none=>rfl
   | some u =>
    have e':bm=a:=hA bm (by rw[q];simp);subst e';rw[ha] at c4;cases c4;exact absurd (show (Value.type "list")=Value.type "module" from d4) (by decide)
  have e0:Env0 P w K mg (xq s₁.heap H) callerA [] s₁ H:=⟨rfl,hM,λb o e=>FQ e,Nat.le_of_eq (CB _ _),trivial,λb hb=>absurd (show b∈([]:List Addr) from hb) (by simp),hok,.of_eq hg,hsr,htr⟩;refine codeAny_mono ((F _ hKb (nsK hns)).run callerA [] s₁ H ⟨[.ref a],[]⟩ [.ref a] [.ref a] _ _ hr e0 (hbind s₁ (.ref a)) (.cons rfl .nil) (hsp H hO hS)) λr s' h=>?_;cases r with
  | error e=>exact (hCX H e s' h).elim
  | ok fl =>
   cases fl with
   | next=>exact False.elim h
   | brk=>exact False.elim h
   | cont=>exact False.elim h
   | ret u =>
    obtain⟨v,H',os,bare,un,hok',r',q⟩:=h;have q':v = .bl true:=q;subst q';obtain rfl:u=Value.bool true:=r';refine⟨rfl,OldK.of_keep λb o e=>?_,os,bare⟩;cases q:H b with
    | none=>exact un.keep b o e q (by intro z;exact absurd (show b∈([]:List Addr) from z) (by simp)) (by simp)
    | some u =>
     rcases hO b with z|⟨ob,xs,z⟩
     ·rw[q] at z;cases z
     ·have z2:=un.frzs b ob _ z;obtain⟨e1,_⟩:=hok b _ z;obtain⟨e2,_⟩:=hok' b _ z2;rw[e] at e1;cases e1;exact e2
 cases hk:K.lookup a with
 | some o =>
  -- the script is one of the module's own objects
  have e:=KX a o hk;rw[ha] at e;cases e;refine core (λ_=>none) (λ_=>.inl rfl) (.inr ⟨_,vs.toArray,_,hk,rfl,rfl,rfl,by rw[ao,lenV];exact hl,by simpa using rv⟩) (λb u z=>by have z':(none:Option HO)=some u:=z;cases z') (λb z=>absurd rfl z) λz=>absurd rfl z
 | none =>
  refine core (λb=>if b=a then some (.frz { cls:=.type "list",data:=.seq vs.toArray } (.lst (ns.map V.int))) else none) (λb=>?_) (.inl (.inr ⟨{ cls:=.type "list",data:=.seq vs.toArray },if_pos rfl⟩)) (λb u z=>?_) (λb z=>?_) λ_=>hk
  ·by_cases hb:b=a
   ·exact .inr ⟨_,_,if_pos hb⟩
   ·exact .inl (if_neg hb)
  ·by_cases hb:b=a
   ·have z':=(if_pos hb).symm.trans z;cases z';subst hb;exact⟨ha,by rw[aa];exact hl,vs,_,rv,ha⟩
   ·have z':=(if_neg hb).symm.trans z;cases z'
  ·by_cases hb:b=a
   ·exact hb
   ·exact absurd (if_neg hb) z
theorem E9{l:PySem.W.OpenLaw}{n k:Nat}{q:Program}{loose:List Str}{YP:World->Heap->Prop}{d:DefRec}{K:Params->Frag}{CX:World->E4}{sp:World->Sp}{x:Str}
  (hn:l.most=some n) (hn2:n<=sizeLine) (hdf:d.params.defaults=[]) (hr:Room k callerA)
  (hY:∀(w:World) (h:Heap),YP w h->(K w.params).In h)
  (F:∀(w:World) (mg:Str->Option Value) (fa:Addr) (h:Heap),(K w.params).In h->h.Ns mainGlobals mg->mg d.name=some (.ref fa) ->
   ∃ fd:FuncData,(∀(s:Shared) (u:Value),BindsTo s fd ⟨[u],[]⟩ [(x,u)]) /\
    ∀ base:Heap,(K w.params).In base->base.Ns mainGlobals mg->FnOk l.prog w (K w.params) mg base (CX w) k fa fd [x] (sp w))
  (hsp:∀(w:World) (H:Hp) (a:Addr) (ns:List Int),ns.length<=n->Jx H->SqL (K w.params) H a (ns.map V.int)->sp w [.ref a] H (λv _=>v = .bl true) λ_ _ _=>False)
  (hCX:∀(w:World) (H:Hp) (s:Shared) (e:Value) (s':Shared),CX w [] H s (λ_ _ _=>False) e s'->False) (hi:importsNone q=true:=by decide +kernel) (ht:l.prog.given.tree=none:=by rfl) :
  PySem.W.WalkO q loose XP YP l.row.toRowW d [] (λf vs=>PySem.call f vs):=by
 refine Att.zQ hn hdf λw s₀ s₁ mg mb fa o pm cd doc a vs ns G Y ho hd hcd hmg hobj hints hlen hg=>?_;have KX:=hY w _ Y;obtain⟨fd,hb,hF⟩:=F w mg fa _ KX G.T.g hmg;exact D6 KX G.T.g G.T.b G.T.builtins G.T.nolimit (G.T.seer hi) ht hg hobj hints (aE hlen hn2) hr hF hb (λH hO hS=>hsp w H a ns hlen hO hS) λH e s'=>hCX w H s₁ e s'
def t9(s:Stmt):Arguments:=match s with
 | .FunctionDef _ a _ _ _ _ _ _ _ _=>a
 | _=>{ posonlyargs:=[],args:=[],vararg:=none,kwonlyargs:=[],kw_defaults:=[],kwarg:=none,defaults:=[] }
def tw(s:Stmt):List Stmt:=match s with
 | .FunctionDef _ _ b _ _ _ _ _ _ _=>b
 | _=>[]
def sv(s:Stmt):Scope:=match s with
 | .FunctionDef _ _ _ _ _ _ sc _ _ _=>sc
 | _=>{ kind:=.function,names:=[],isGenerator:=false,isCoroutine:=false }
abbrev Ab:E4:=λ_ _ _ _ _ _=>False
abbrev E0:XK:=λ_ _ _=>False
theorem Kh:A4 Ab X E0:=λ_ _ _ _ _ _ _ h=>h.elim
structure Fun (K:Frag)(x qual:Str)(st:Stmt)(f:Addr)(fd:FuncData):Prop where
 ex:∃(oc:Value) (od:Option Addr) (kV doc pm:Value) (an:Option Addr) (cdv ct:Value) (osl:Array (Option Value)),
  fd=PySem.W.fnOf x qual (t9 st) (tw st) (sv st) .none kV doc pm an cdv ct/\K.lookup f=some ⟨oc,od,.func fd,osl⟩/\PySem.W.codeIn K cdv qual=true
 kp:PySem.W.keepIn K (.ref f)=true
section
variable{P:Program}{w:World}{K:Frag}{mg:Str->Option Value}{base:Heap}
theorem Fun.ok{x qual:Str}{st:Stmt}{f:Addr}{fd:FuncData}{N ps:List Str}{k:Nat}{sp:Sp}(F:Fun K x qual st f fd)(S:FnScope N ps (sv st))(len:∀ vs H Q E,sp vs H Q E->vs.length=ps.length)
  (hbody:∀(cdv:Value) (A:Around) (outer:List Env) (s:Shared) (H:Hp) (vs:List V) (Q:VK) (E:XK),Room k (A.deeper (envOfC qual (sv st) s.heap.objs.size f cdv))->sp vs H Q E ->
   ∃ t,PSs (AQ Ab P w K mg base N qual (sv st) f cdv A outer s H E).nox (tw st) t/\t { nx:=λ_ H'=>Q .non H',rt:=Q } (start N vs) H):FnOk P w K mg base Ab (k+1) f fd ps sp:=by
 obtain⟨oc,od,kV,doc,pm,an,cdv,ct,osl,rfl,lk,hcd⟩:=F.ex;refine KI lk hcd S len λA outer s H vs Q E hr hsp=>?_;obtain⟨t,h,q⟩:=hbody cdv A outer s H vs Q E hr hsp;exact⟨t,h.nox,q⟩
theorem Fun.binds{x qual:Str}{st:Stmt}{f:Addr}{ps:List Str}(F:Fun K x qual st f fd)
  (h:∀(kV doc pm:Value) (an:Option Addr) (cdv ct:Value) (us:List Value),us.length=ps.length->bindArgs (PySem.W.fnOf x qual (t9 st) (tw st) (sv st) .none kV doc pm an cdv ct) ⟨us,[]⟩=pure (ps.zip us)):Binds K fd ps []:=by
 obtain⟨oc,od,kV,doc,pm,an,cdv,ct,osl,rfl,lk,hcd⟩:=F.ex;exact .all (h kV doc pm an cdv ct)
theorem IU{x qual:Str}{st:Stmt}{f:Addr}{oc:Value}{od an:Option Addr}{kV doc pm cdv ct:Value}(l:K.lookup f=some ⟨oc,od,.func (PySem.W.fnOf x qual (t9 st) (tw st) (sv st) .none kV doc pm an cdv ct),osl⟩)
  (c:PySem.W.codeIn K cdv qual=true) (k:PySem.W.keepIn K (.ref f)=true):Fun K x qual st f (PySem.W.fnOf x qual (t9 st) (tw st) (sv st) .none kV doc pm an cdv ct):=⟨⟨oc,od,kV,doc,pm,an,cdv,ct,osl,rfl,l,c⟩,k⟩
end
section
variable{X:Cx}
theorem pv(i:Nat)(hN:X.N[i]? = some x:=by rfl)(hv:Hm X.env.scope x:=by first|exact Or.inl rfl|exact Or.inr (Or.inl rfl)|exact Or.inr (Or.inr rfl))(hd:(x == ("__debug__" : Str))=false:=by decide)
  (hcd:(x == ("__classdict__" : Str))=false:=by decide):PE X (.Name x pos) (vn i):=Ar hN hv hd hcd
end
theorem IO{A B:Prop}(h:B):if false=true then A else B:=by
 rw[if_neg aD];exact h
theorem IN{A B:Prop}(h:A):if true=true then A else B:=by
 rw[if_pos rfl];exact h
theorem F3{c A B:Prop}[Decidable c](h1:c->A)(h2:¬ c->B):if c then A else B:=by
 by_cases h:c
 ·rw[if_pos h];exact h1 h
 ·rw[if_neg h];exact h2 h
theorem GT{c A B:Prop}[Decidable c](hc:c)(h:B):if (!decide c)=true then A else B:=by
 rw[decide_eq_true hc];exact IO h
def Same(H H':Hp):Prop:=∀ b o,H b=some o->H' b=some o
theorem Same.trans(a:Same H H1)(b:Same H1 H2):Same H H2:=λc o h=>b c o (a c o h)
theorem Same.seq{K:Frag}{H H':Hp}{a:Addr}{xs:List V}(e:Same H H')(h:SqL K H a xs):SqL K H' a xs:=by
 rcases h with (h|⟨o,h⟩)|h
 ·exact .inl (.inl (e _ _ h))
 ·exact .inl (.inr ⟨o,e _ _ h⟩)
 ·exact .inr h
theorem tH{β:Type}:∀{l:List (Str×β)} {x:Str} {k:β},l.lookup x=some k->(x,k)∈l
 | [],_,_,h=>by simp at h
 | (n,k')::r,x,k,h=>by
  rw[d9] at h;cases e:x == n with
  | true =>
   rw[e] at h;have e':x=n:=eq_of_beq e;have h':some k'=some k:=h;cases h';rw[e'];exact aG
  | false =>
   rw[e] at h;exact aC _ (tH h)
theorem yp{β:Type}:∀{l:List (Str×β)} {x:Str} {k:β},(x,k)∈l->∃ k',l.lookup x=some k'
 | [],_,_,h=>by simp at h
 | (n,k')::r,x,k,h=>by
  rw[d9];cases e:x == n with
  | true=>exact⟨k',rfl⟩
  | false =>
   rcases au.mp h with q|q
   ·cases q;simp at e
   ·exact yp q
def vj(env:Env)(x:Str)(k:NameKind):NameKind:=if (k == .free && env.scope.kind == .function && env.kindOf x == some .cell) then .cell else k
theorem vv{env:Env}{x:Str}:∀{l:List (Str×NameKind)},
  (l.map λ(n,k)=>if (k == NameKind.free && env.scope.kind == .function && env.kindOf n == some .cell) then (n,NameKind.cell) else (n,k)).lookup x=(l.lookup x).map (vj env x)
 | []=>rfl
 | (n,k)::r=>by
  rw[dU];have ih:=@vv env x r;have e0:(match ((n,k):Str×NameKind) with|(n,k)=>if (k == NameKind.free && env.scope.kind == .function && env.kindOf n == some .cell) then (n,NameKind.cell) else (n,k))=(n,vj env n k):=by
   show (if (k == NameKind.free && env.scope.kind == .function && env.kindOf n == some .cell)=true then (n,NameKind.cell) else (n,k))=(n,vj env n k);unfold vj;split <;> rfl
  rw[e0,d9,d9];cases e:x == n with
  | true =>
   have e':x=n:=eq_of_beq e;subst e';rfl
  | false=>exact ih
def tQ(cells:List (Str×Addr)):List (Str×NameKind)->List (Str×Addr)->List (Str×Addr)
 | [],acc=>acc
 | (n,k)::r,acc=>if k == .free then tQ cells r ((n,(cells.lookup n).getD 0)::acc) else tQ cells r acc
theorem uS:∀{l:List (Str×NameKind)} {acc:List (Str×Addr)},(∀ y∈l,y.2 = .free->∃ c,cells.lookup y.1=some c)->(∀ p∈acc,cells.lookup p.1=some p.2) ->
  ∀ p∈tQ cells l acc,cells.lookup p.1=some p.2
 | [],acc,_,ha,p,hp=>ha p hp
 | (n,k)::r,acc,hl,ha,p,hp=>by
  unfold tQ at hp;have hl':∀ y∈r,y.2 = .free->∃ c,cells.lookup y.1=some c:=λy hy=>hl y (aC _ hy);cases hk:k == NameKind.free with
  | true =>
   rw[hk,if_pos rfl] at hp;refine uS hl' (λq hq=>?_) p hp;rcases au.mp hq with e|e
   ·subst e;obtain⟨c,e⟩:=hl (n,k) aG (eq_of_beq hk);show cells.lookup n=some ((cells.lookup n).getD 0);rw[show cells.lookup n=some c from e];rfl
   ·exact ha q e
  | false =>
   rw[hk,if_neg aD] at hp;exact uS hl' ha p hp
theorem xg:∀{l:List (Str×NameKind)} {acc:List (Str×Addr)} {p:Str×Addr},p∈acc->p∈tQ cells l acc
 | [],_,_,h=>h
 | (n,k)::r,acc,p,h=>by
  unfold tQ;split
  ·exact xg (aC _ h)
  ·exact xg h
theorem vA:∀{l:List (Str×NameKind)} {acc:List (Str×Addr)} {x:Str},(x,NameKind.free)∈l->∃ c,(x,c)∈tQ cells l acc
 | [],_,_,h=>by simp at h
 | (n,k)::r,acc,x,h=>by
  unfold tQ;rcases au.mp h with e|e
  ·cases e;rw[if_pos (by rfl)];exact⟨_,xg aG⟩
  ·split
   ·exact vA e
   ·exact vA e
theorem vi:∀{l:List (Str×NameKind)} {acc:List (Str×Addr)},(∀ y∈l,y.2 = .free->∃ c,env.cells.lookup y.1=some c) ->
  (forIn l acc (λ(x:Str×NameKind) (r:List (Str×Addr))=>(if (x.2 == NameKind.free)=true then do let c ← cellOf env x.1;pure (ForInStep.yield ((x.1,c)::r)) else pure (ForInStep.yield r):Sem _)))=pure (tQ env.cells l acc)
 | [],_,_=>rfl
 | (n,k)::r,acc,hl=>by
  have hl':∀ y∈r,y.2 = .free->∃ c,env.cells.lookup y.1=some c:=λy hy=>hl y (aC _ hy);rw[List.forIn_cons];unfold tQ;cases hk:k == NameKind.free with
  | true =>
   obtain⟨c,e⟩:=hl (n,k) aG (eq_of_beq hk);have e':env.cells.lookup n=some c:=e;simp only[hk,if_true];rw[show cellOf env n=pure c by unfold cellOf;rw[e']];simp only[pure_bind];rw[vi hl',e'];rfl
  | false =>
   simp only[hk,df,if_false,pure_bind];exact vi hl'
theorem vU:∀{l:List (Str×NameKind)} {acc:List (Str×Addr)} {p:Str×Addr},p∈tQ cells l acc->p∈acc\/(p.1,NameKind.free)∈l
 | [],_,_,h=>.inl h
 | (n,k)::r,acc,p,h=>by
  unfold tQ at h;split at h
  ·rename_i hk;rcases vU h with z|z
   ·rcases au.mp z with e|e
    ·subst e;rw[eq_of_beq hk];exact .inr aG
    ·exact .inl e
   ·exact .inr (aC _ z)
  ·exact (vU h).imp id (aC _)
theorem AV:∀{l:List (Str×NameKind)} {n:Nat} {acc:List (Str×Addr)} {p:Str×Addr},p∈cellsFrom n l acc->p∈acc\/(n<=p.2/\(p.1,NameKind.cell)∈l)
 | [],_,_,_,h=>.inl h
 | (x,k)::r,n,acc,p,h=>by
  unfold cellsFrom at h;split at h
  ·rename_i hk;rcases AV h with z|z
   ·rcases au.mp z with e|e
    ·subst e;rw[eq_of_beq hk];exact .inr ⟨af _,aG⟩
    ·exact .inl e
   ·exact .inr ⟨cP z.1,aC _ z.2⟩
  ·exact (AV h).imp id λz=>⟨z.1,aC _ z.2⟩
theorem xh:∀{l:List (Str×NameKind)} {n:Nat} {acc:List (Str×Addr)} {p:Str×Addr},p∈acc->p∈cellsFrom n l acc
 | [],_,_,_,h=>h
 | (x,k)::r,n,acc,p,h=>by
  unfold cellsFrom;split
  ·exact xh (aC _ h)
  ·exact xh h
theorem EI:∀{l:List (Str×NameKind)} {n:Nat} {acc:List (Str×Addr)} {x:Str},(x,NameKind.cell)∈l->∃ c,(x,c)∈cellsFrom n l acc
 | [],_,_,_,h=>by simp at h
 | (y,k)::r,n,acc,x,h=>by
  unfold cellsFrom;rcases au.mp h with e|e
  ·cases e;rw[if_pos (by rfl)];exact⟨_,xh aG⟩
  ·split <;> exact EI e
theorem AW:∀{l:List (Str×NameKind)} {n:Nat} {acc:List (Str×Addr)},(∀ p∈acc,p.2<n)->(∀ x y c,(x,c)∈acc->(y,c)∈acc->x=y)->∀ x y c,(x,c)∈cellsFrom n l acc->(y,c)∈cellsFrom n l acc->x=y
 | [],_,_,_,h=>h
 | (z,k)::r,n,acc,hl,h=>by
  unfold cellsFrom;split
  ·refine AW (λp hp=>?_) λx y c hx hy=>?_
   ·rcases au.mp hp with e|e
    ·subst e;exact fU _
    ·exact g9 (hl p e)
   ·rcases au.mp hx with e|e <;> rcases au.mp hy with e'|e'
    ·cases e;cases e';rfl
    ·cases e;exact absurd (hl _ e') (bB _)
    ·cases e';exact absurd (hl _ e) (bB _)
    ·exact h x y c e e'
  ·exact AW hl h
theorem yC:∀{l:List (Str×NameKind)} {h:Heap} {acc:List (Str×Addr)} {p:Str×Addr},p∈cellsFrom h.objs.size l acc->p∈acc\/(pushCells h l).IsCell p.2 none
 | [],_,_,_,q=>.inl q
 | (x,k)::r,h,acc,p,q=>by
  unfold cellsFrom at q;unfold pushCells;split at q
  ·rename_i hk;rw[if_pos hk];rw[← Heap.size_push h { cls:=.type "cell",data:=.cell none }] at q;rcases yC q with z|z
   ·rcases au.mp z with e|e
    ·subst e;exact .inr ⟨_,pushCells_keeps _ _ _ _ (ηG _ rfl),rfl⟩
    ·exact .inl e
   ·exact .inr z
  ·rename_i hk;rw[if_neg hk];exact yC q
theorem wZ{cells:List (Str×Addr)}{names:List (Str×NameKind)}{n:Nat}{x:Str}{c:Addr}(hfr:∀ y∈names,y.2 = .free->∃ c,cells.lookup y.1=some c)(h:(x,c)∈cellsFrom n names (tQ cells names [])) :
  (cells.lookup x=some c/\(x,NameKind.free)∈names)\/(n<=c/\(x,NameKind.cell)∈names):=by
 rcases AV h with z|z
 ·refine .inl ⟨uS hfr (λ_ z=>absurd z aX) (x,c) z,?_⟩;rcases vU z with w|w
  ·exact absurd w aX
  ·exact w
 ·exact .inr z
theorem FU{M:Model}{A:Around}{E:Value->Shared->Prop}{s:Shared}{scope:Scope}{g:Addr}{cl:List (Str×Addr)}{qual:Str}{env:Env}{Q:Env->Shared->Prop}
  (h:Q (newEnv scope s.heap.objs.size g (cellsFrom (s.heap.objs.size+1) scope.names cl) qual none .none (some env) builtinsNs) { s with heap:=pushCells (s.heap.push { cls:=.type "dict",data:=.dict #[] }) scope.names }) :
  wpAny M A (newFunctionEnv scope g cl [] qual none .none (some env)) Q E s:=by
 simp only[newFunctionEnv,Option.isSome_some,if_true];refine ηB (wpAny_alloc ?_);refine ηB (wpAny_layCells _ (λname kind cells=>by cases hkc:kind == NameKind.cell <;> simp[hkc]) _ _ _ _ ?_);rw[show ({ s with heap:=s.heap.push { cls:=.type "dict",data:=.dict #[] } }:Shared).heap.objs.size=s.heap.objs.size+1 from Heap.size_push ..];refine ηB ?_;rw[List.forIn_nil];exact ηP (ηP h)
def v0(hide:List Nat)(σ:St):St:=hide.foldl (λs i=>s.set i none) σ
theorem hideS_len:∀{hide:List Nat} {σ:St},(v0 hide σ).length=σ.length
 | [],_=>rfl
 | i::r,σ=>by
  show (v0 r (σ.set i none)).length=_;rw[hideS_len,aS]
theorem xL:∀{hide:List Nat} {σ:St} {i:Nat} {v:V},(v0 hide σ)[i]? = some (some v)->i ∉ hide/\σ[i]? = some (some v)
 | [],_,_,_,h=>⟨by simp,h⟩
 | j::r,σ,i,v,h=>by
  obtain⟨h1,h2⟩:=xL (hide:=r) (σ:=σ.set j none) h;by_cases e:j=i
  ·subst e;by_cases hl:j<σ.length
   ·rw[eI hl] at h2;cases h2
   ·rw[bt (by simp;lia)] at h2;cases h2
  ·rw[aK e] at h2;exact⟨by simp[h1,Ne.symm e],h2⟩
def u6(X:Cx)(scope:Scope)(s2:Shared)(H2:Hp)(fp:List Addr)(pins:List (Addr×Obj))(C:Addr):Cx where
 prog:=X.prog
 w:=X.w
 K:=X.K
 mg:=X.mg
 base:=X.base
 A:=X.A
 N:=X.N
 s₀:=s2
 H₀:=H2
 env:=compEnvC scope (cellsFrom (C+1) scope.names (tQ X.env.cells scope.names [])) C X.env
 outer:=X.stack
 stack:=X.stack
 ex:=fp
 fn:=λx=>scope.names.lookup x == some .cell
 calm:=X.calm
 pn:=X.pn++pins
 xe:=λ_ _=>False
structure CompS (N:List Str)(out:Scope)(scope:Scope)(hide:List Nat):Prop where
 kind:scope.kind = .function
 one:∀ y∈scope.names,scope.names.lookup y.1=some y.2
 free:∀ y∈scope.names,y.2 = .free->out.names.lookup y.1=some .cell\/out.names.lookup y.1=some .free
 loc:∀ y∈scope.names,y.2 = .local->scope.names.lookup y.1=some .local
 own:∀(i:Nat),i<N.length->(scope.names.lookup (N.getD i "")=some .local\/scope.names.lookup (N.getD i "")=some .cell)->i∈hide
section
variable{X:Cx}{pins:List (Addr×Obj)}{σ:St}{H:Hp}{s:Shared}
theorem NB(S:CompS X.N X.env.scope scope hide)(I:Inv X pins σ H s)(hf:∀ b∈fp,uC X pins H b)(hfo:∀ b∈fp,∃ o,s.heap.get? b=some o)
  (hC:s.heap.objs.size<=C):(u6 X scope s H fp pins C).Ok:=by
 have hfr:∀ y∈scope.names,y.2 = .free->∃ c,X.env.cells.lookup y.1=some c:=λy hy e=>I.ok.has y.1 (S.free y hy e);have old:∀ x c,X.env.cells.lookup x=some c->c<s.heap.objs.size:=λx c e=>by
  obtain⟨v,o,ho,_⟩:=I.cell x c e;exact ηL ho
 have cl:∀ p∈tQ X.env.cells scope.names [],X.env.cells.lookup p.1=some p.2:=uS hfr λ_ z=>absurd z aX;refine⟨I.ok.mod,S.kind,I.ok.glob,I.ok.blt,hC,λx y c e1 e2=>AW (λp hp=>g9 (aF (old _ _ (cl p hp)) hC)) (λx y c h1 h2=>I.ok.inj x y c (cl _ h1) (cl _ h2)) x y c (tH e1) (tH e2),λx hx=>?_,λx c h e=>?_,I.ok.hd,I.ok.frames,.inl rfl,λb hb=>⟨?_,λx c e=>?_⟩,I.bs,
  aE I.ok.bsz I.sz,λb o e hb=>?_,λb hb z=>?_,I.stack,I.stkFree,I.ok.sr,I.ok.rn⟩
 ·have hx':((scope.names.lookup x).map (vj X.env x)=some .cell)\/((scope.names.lookup x).map (vj X.env x)=some .free):=by
   rw[← vv];exact hx
  cases q:scope.names.lookup x with
  | none=>rw[q] at hx';rcases hx' with z|z <;> cases z
  | some k =>
   have mem:=tH q;have kf:k = .free\/k = .cell:=by
    rw[q] at hx';have hx2:vj X.env x k = .cell\/vj X.env x k = .free:=hx'.imp Option.some.inj Option.some.inj;unfold vj at hx2;by_cases c:(k == NameKind.free && X.env.scope.kind == .function && X.env.kindOf x == some .cell)=true
    ·simp only[bH,beq_iff_eq] at c;exact .inl c.1.1
    ·rw[if_neg c] at hx2;exact hx2.symm
   rcases kf with kf|kf
   ·subst kf;obtain⟨c,hc⟩:=vA (cells:=X.env.cells) (acc:=[]) mem;exact yp (xh hc)
   ·subst kf;obtain⟨c,hc⟩:=EI (n:=C+1) (acc:=tQ X.env.cells scope.names []) mem;exact yp hc
 ·have h:scope.names.lookup x=some .cell:=eq_of_beq h;rcases wZ hfr (tH e) with⟨_,z⟩|⟨z,_⟩
  ·rw[S.one _ z] at h;cases h
  ·exact aE hC (cP z)
 ·obtain⟨o,e⟩:=hfo b hb;exact aY (aF (ηL e) hC)
 ·obtain⟨o,e'⟩:=hfo b hb;rcases wZ hfr (tH e) with⟨z,_⟩|⟨z,_⟩
  ·exact (hf b hb).2.2.2.2.1 x c z
  ·exact dH (aF (ηL e') (aE hC (cP z)))
 ·rcases (hf b hb).2.2.2.1 with z|z
  ·exact I.ok.noex b o e z
  ·exact absurd (aF (ηL (I.ok.bs b o e).1) z) (bB _)
 ·rcases au.mp (I.stkSub b z) with q|q
  ·exact (hf b hb).2.1 q
  ·exact (hf b hb).2.2.1 q
theorem K6(I:Inv X pins σ H s)(h:s.heap.objs.size<=a):a ∉ BE X.stack:=λz=>by
 rcases au.mp (I.stkSub a z) with q|q
 ·exact absurd (aF I.lt (by rw[← q];exact h)) (bB _)
 ·exact I.nofs h q
theorem Mr{scope:Scope}{hide:List Nat}(S:CompS X.N X.env.scope scope hide){fp:List Addr}{C D:Addr}{h4:Heap}{tk:Nat}{ob:Obj}{m:Str->Option Value}(I:Inv X pins σ H s)(hf:∀ b∈fp,uC X pins H b)(hfo:∀ b∈fp,∃ o,s.heap.get? b=some o)
  (hC:s.heap.objs.size<=C) (hD:s.heap.objs.size<=D) (hDC:D≠C) (k:∀ b u,s.heap.get? b=some u->h4.get? b=some u) (hcl:∀ p∈cellsFrom (C+1) scope.names (tQ X.env.cells scope.names []),p∈tQ X.env.cells scope.names []\/h4.IsCell p.2 none) (hn:h4.Ns C m) (hDo:h4.get? D=some ob) (hob:∀ v,ob.data ≠ .cell v) :
  Inv (u6 X scope s H fp pins C) [(D,ob)] (v0 hide σ) H { s with heap:=h4,toks:=tk }:=by
 have ok:=NB S I hf hfo hC;have hfr:∀ y∈scope.names,y.2 = .free->∃ c,X.env.cells.lookup y.1=some c:=λy hy e=>I.ok.has y.1 (S.free y hy e);have sub:∀ x c,(x,c)∈tQ X.env.cells scope.names []->X.env.cells.lookup x=some c:=λx c e=>uS hfr (λ_ z=>absurd z aX) (x,c) e;have ck:∀ c v,s.heap.IsCell c v->h4.IsCell c v:=λc v ⟨o,ho,hd⟩=>⟨o,k c o ho,hd⟩;refine⟨ok,rfl,I.bare,Un.kept k,⟨m,hn,λi x v e1 e2 e3=>?_⟩,λx c e=>?_,I.hok.fresh hC,λx c e=>?_,λp hp=>?_,I.hok.kept k,hideS_len.trans I.len⟩
 ·obtain⟨n1,n2⟩:=xL e2;have e3':((scope.names.lookup x).map (vj X.env x)=some .local)\/((scope.names.lookup x).map (vj X.env x)=some .cell)\/((scope.names.lookup x).map (vj X.env x)=some .free):=by
   rw[← vv];exact e3
  cases q:scope.names.lookup x with
  | none=>rw[q] at e3';rcases e3' with z|z|z <;> cases z
  | some kd =>
   rw[q] at e3';have e4:vj X.env x kd = .local\/vj X.env x kd = .cell\/vj X.env x kd = .free:=e3'.imp Option.some.inj λz=>z.imp Option.some.inj Option.some.inj;have mem:=tH q;by_cases kl:kd = .local\/kd = .cell
   ·have hi:X.N[i]? = some x:=e1;obtain⟨hlt,hge⟩:=ak.mp hi;refine absurd (S.own i hlt ?_) n1;rw[ac,hi];exact kl.imp (λz=>by rw[← z];exact q) λz=>by rw[← z];exact q
   ·have kf:kd = .free:=by
     unfold vj at e4;by_cases c:(kd == NameKind.free && X.env.scope.kind == .function && X.env.kindOf x == some .cell)=true
     ·simp only[bH,beq_iff_eq] at c;exact c.1.1
     ·rw[if_neg c] at e4;rcases e4 with z|z|z
      ·exact absurd (.inl z) kl
      ·exact absurd (.inr z) kl
      ·exact z
    subst kf;have kx:=S.free _ mem rfl;obtain⟨m0,_,hl⟩:=I.loc;obtain⟨u,r,l⟩:=hl i x v e1 n2 (.inr kx);refine⟨u,r,?_⟩;rcases l with⟨z,_⟩|⟨_,c,e,z⟩
    ·have z':X.env.scope.names.lookup x=some .local:=z;rw[z'] at kx;rcases kx with w|w <;> cases w
    ·obtain⟨c',hc'⟩:=vA (cells:=X.env.cells) (acc:=[]) mem;obtain⟨c2,hc2⟩:=yp (xh (n:=C+1) (l:=scope.names) hc');have ec:c2=c:=by
      rcases wZ hfr (tH hc2) with⟨w,_⟩|⟨_,w⟩
      ·exact Option.some.inj (w.symm.trans e)
      ·have w1:=S.one _ w;rw[q] at w1;cases w1
     subst ec;refine .inr ⟨?_,c2,hc2,ck c2 _ z⟩;have e5:((relabel scope X.env).names.lookup x)=some (vj X.env x .free):=by
      show (List.map _ scope.names).lookup x=_;rw[vv,q];rfl
     rcases e4 with w|w|w
     ·unfold vj at w;split at w <;> cases w
     ·exact .inl (e5.trans (by rw[w]))
     ·exact .inr (e5.trans (by rw[w]))
 ·rcases hcl _ (tH e) with w|w
  ·obtain⟨v,z⟩:=I.cell x c (sub x c w);exact⟨v,ck c v z⟩
  ·exact⟨_,w⟩
 ·rcases wZ hfr (tH e) with⟨w,_⟩|⟨w,_⟩
  ·exact I.freeC x c w
  ·exact I.hok.fresh (aE hC (cP w))
 ·rcases bD.mp hp with z|z
  ·obtain⟨e,n,ne,nf,d⟩:=I.pin p z;refine⟨k _ _ e,n,aY (aF (ηL e) hC),λy=>?_,d⟩;rcases au.mp (I.stkSub _ y) with q|q
   ·exact ne q
   ·exact nf q
  ·have e:p=(D,ob):=by simpa using z
   subst e;exact⟨hDo,I.hok.fresh hD,hDC,K6 I hD,hob⟩
theorem Mq{scope:Scope}{fp:List Addr}{C D:Addr}{n:Nat}{its:List Value}{ys:List V}{pins':List (Addr×Obj)}{τ:St}{H':Hp}{s':Shared}(I:Inv X pins σ H s)(hf:∀ b∈fp,uC X pins H b)
  (hD:s.heap.objs.size<=D) (J:Inv (u6 X scope s H fp pins C) pins' τ H' s') (hp:(D,({ cls:=.type "list",data:=.seq its.toArray n }:Obj))∈pins') (hv:Vals ys its) (hz:ys.length<=sizeLine) :
  Inv X pins σ (tv H' D (.lst ys)) s':=by
 obtain⟨eD,nD,_⟩:=J.pin _ (a7 _ hp);have u:Un (BE X.stack) fp H H' s.heap s'.heap:=J.base;have ne:∀ b o,s.heap.get? b=some o->b≠D:=λb o e=>aY (aF (ηL e) hD);have u':Un (BE X.stack) fp H (tv H' D (.lst ys)) s.heap s'.heap:=by
  refine⟨u.keep,u.slot,λb o e q hx=>?_,u.there,λb xs e=>?_,λb o v e=>?_,λb ps e=>?_⟩
  ·rw[sB (ne b o e)];exact u.free b o e q hx
  ·have q:=u.tups b xs e;rw[sB (sI q nD)];exact q
  ·have q:=u.frzs b o v e;rw[sB (sI q nD)];exact q
  ·obtain⟨more,q⟩:=u.tbls b ps e;refine⟨more,?_⟩;rw[sB (sI q nD)];exact q
 have hok:HOk X.prog X.w (tv H' D (.lst ys)) s'.heap:=λb o e=>by
  by_cases hb:b=D
  ·subst hb;rw[sD] at e;cases e;exact⟨hz,its,n,hv,eD⟩
  ·rw[sB hb] at e;exact (J.hok b o e).stay (λ_ _ _ q=>q) (λc q=>by rw[sB (sI q nD)];exact q) λc xs q=>by rw[sB (sI q nD)];exact q
 refine I.call' (show s'.os=s.os from J.os) u' hok J.bare λb hb=>?_;obtain⟨f0,f1,f2,f3,f4,f5⟩:=hf b hb;exact⟨f3,f1,f4,f5⟩
end
abbrev wL(its:List Value)(n:Nat):Obj:={ cls:=.type "list",data:=.seq its.toArray n }
def PTs(X:Cx)(ifs:List Expr)(t:TT):Prop :=
 ∀(pins:List (Addr×Obj)) (s:Shared) (σ:St) (H:Hp) (Q:Bool->Hp->Prop),Inv X pins σ H s->t σ H Q ->
  wpAny (model X.prog X.w) X.A (forIn ifs true λc r=>if r=true then do let ok ← isTrue c X.env (eval c X.env);pure (ForInStep.yield ok) else pure (ForInStep.yield r)) (TP X pins σ Q) X.xe s
def JN:TT:=λ_ H Q=>Q true H
theorem pts_nil:PTs X [] JN:=λ_ _ _ H _ I h=>wpAny_tests_nil ⟨H,I,h⟩
theorem Fu(hc:PT X c t):PTs X [c] t:=λpins s σ H Q I h=>wpAny_tests_one (hc pins s σ H Q I h)
theorem KS{Y:Cx}{tg iter elt:Expr}{ifs:List Expr}{scope:Scope}{pos:Pos}{g:TG}{te:TE}{tt:TT}{J:It}{fp:List Addr}{it D:Addr}{tn:Nat->Heap->Prop}{R:Result->Shared->Prop}
  {W:Nat->Nat->St->List V->Hp->Prop} {Z:List V->Hp->Prop} {s:Shared} {σ:St} {H:Hp} {m n0:Nat}
  (T:Turn Y.prog Y.w Y.K tg J fp it tn) (hc:Y.calm=true) (hg:PG Y tg g) (ht:PTs Y ifs tt) (he:PE Y elt te) (hx:∀ e s,Y.xe e s->False)
  (stat:∀ ob H',(∀ b∈fp,H' b=none)->∀ b∈fp,uC Y [(D,ob)] H' b) (hDs:Y.s₀.heap.objs.size<=D) (hDc:∀ x c,Y.env.cells.lookup x=some c->c≠D) (hDp:∀ p∈Y.pn,p.1≠D)
  (x6:∀ k m τ ys H,W k m τ ys H->(J.stop k H/\Z ys H)\/(J.go k H/\ys.length<sizeLine/\∀ x H',J.yld k H x H'->g x τ H' λτ2 H2=>tt τ2 H2 λb H3 =>
   if b=true then te τ2 H3 λv H4=>∃ m',m'<m/\W (k+1) m' τ2 (ys++[v]) H4 else ∃ m',m'<m/\W (k+1) m' τ2 ys H3))
  (out:∀(τ:St) (H':Hp) (s':Shared) (ys:List V) (its:List Value) (n:Nat),Inv Y [(D,wL its n)] τ H' s'->Vals ys its->ys.length<=sizeLine->Z ys H'->R (.ok .next) s')
  (I:Inv Y [(D,wL [] n0)] σ H s) (st:tn 0 s.heap) (fr:∀ b∈fp,H b=none) (w0:W 0 m σ [] H) :
  codeAny (model Y.prog Y.w) Y.A (.compLoop (.ListComp elt [⟨tg,iter,ifs,0⟩] scope pos) 0 (.ref it) (.ref D) Y.env) R s:=by
 refine codeAny_loop rfl (λm s'=>∃ k τ H' ys its n,Inv Y [(D,wL its n)] τ H' s'/\tn k s'.heap/\(∀ b∈fp,H' b=none)/\Vals ys its/\ys.length<=sizeLine/\W k m τ ys H') (λm1 s1 h1=>?_) m ⟨0,σ,H,[],[],n0,I,st,fr,.nil,aB _,w0⟩;obtain⟨k,τ,H1,ys,its,n,I1,st1,fr1,rv,hz,w1⟩:=h1;have no:∀{E:Value->Shared->Prop} {α:Type} {c:Sem α} {Q:α->Shared->Prop} {s:Shared},wpAny (model Y.prog Y.w) Y.A c Q Y.xe s->wpAny (model Y.prog Y.w) Y.A c Q E s:=λ{E α c Q s} h=>wpAny_mono h (λ_ _ q=>q) λe s' q=>(hx e s' q).elim;show wpAny _ Y.A ((compTurn (.ListComp elt [⟨tg,iter,ifs,0⟩] scope pos) 0 (.ref it) (.ref D) Y.env).onRaise _) _ _ s1;refine wpAny_noted ?_;rw[compTurn_list];refine ηB (wpAny_standAt (ηB ?_));rcases x6 k m1 τ ys H1 w1 with⟨stop,z⟩|⟨go,hlt,step⟩
 ·refine sS (T.done Y rfl rfl rfl hc k _ s1 τ H1 _ I1 (stat _ _ fr1) st1 stop) λr s2 ⟨hr,I2⟩=>?_;subst hr;exact ηP (out τ H1 s2 ys its n I2 rv hz z)
 ·refine sS (T.item Y rfl rfl rfl hc k _ s1 τ H1 _ I1 (stat _ _ fr1) st1 go) λr s2 ⟨u,hr,h2⟩=>?_;subst hr;refine ηB (sS h2 λ_ s3 ⟨x,H3,I3,r3,y3,st3,fr3⟩=>?_);have I3':=I3.pinned (stat _ _ fr3) (T.obj _ _ st3);refine ηB (no (sS (hg _ s3 τ H3 x u _ I3' r3 (step x H3 y3)) λ_ s4 ⟨τ4,H4,I4,q4⟩=>?_));refine ηB (no (sS (ht _ s4 τ4 H4 _ I4 q4) λok s5 ⟨H5,I5,q5⟩=>?_));have frs5:∀{H':Hp} {s':Shared} {τ':St},Inv Y ([(D,wL its n)]++wI fp s3.heap) τ' H' s'->tn (k+1) s'.heap/\∀ b∈fp,H' b=none:=λ{H' s' τ'} I'=>by
   refine⟨T.keep _ _ _ st3 λb hb o e=>(I'.pin (b,o) (a7 _ (a7 _ (ut hb e)))).1,λb hb=>?_⟩;obtain⟨o,e,d⟩:=T.obj _ _ st3 b hb;exact (I'.pin (b,o) (a7 _ (a7 _ (ut hb e)))).2.1
  cases ok with
  | false =>
   have q5':∃ m',m'<m1/\W (k+1) m' τ4 ys H5:=q5;obtain⟨m',hm,w5⟩:=q5';obtain⟨a1,a2⟩:=frs5 I5;exact ηP ⟨rfl,m',hm,k+1,τ4,H5,ys,its,n,I5.unpinned,a1,a2,rv,hz,w5⟩
  | true =>
   have q5':te τ4 H5 λv H4=>∃ m',m'<m1/\W (k+1) m' τ4 (ys++[v]) H4:=q5;refine ηB (ηB (no (sS (he _ s5 τ4 H5 _ I5 q5') λv s6 ⟨y,H6,I6,r6,m',hm,w6⟩=>?_)));obtain⟨a1,a2⟩:=frs5 I6;have I7:=I6.unpinned;obtain⟨eD,nD,neD,nfD,_⟩:=I7.pin (D,wL its n) (a7 _ aG);have hlen:=rv.length;have eD':s6.heap.get? D=some { cls:=.type "list",data:=.seq its.toArray n }:=eD;refine ηB (call_meets F.slot_list_append ⟨_,eD',rfl⟩ F.entry_list_append (F.args_list_append_2 _ _) (PySem.list_append D its.toArray n v (by rw[ao];lia)) ⟨eD',?_⟩);have qD:=PySem.IsL.update eD' (·.push v);have I8:Inv Y [] τ4 H6 s6:=I7.pins_of λp hp=>absurd hp aX;have I9:Inv Y [] τ4 H6 { s6 with heap:=s6.heap.update D (Obj.mapSeq (·.push v)) }:=I8.turned (t':=s6.toks) (λb o hb e=>(Heap.get?_update_other s6.heap (Obj.mapSeq (·.push v)) (Ne.symm hb)).trans e) nD neD (.inr hDs) hDc λp hp=>hDp p (by simpa using hp);have ep:its.toArray.push v=(its++[v]).toArray:=by simp
   rw[ep] at qD;obtain⟨n2,qD⟩:∃ n2,(s6.heap.update D (Obj.mapSeq (·.push v))).get? D=some (wL (its++[v]) n2):=⟨_,qD⟩;have I10:Inv Y [(D,wL (its++[v]) n2)] τ4 H6 { s6 with heap:=s6.heap.update D (Obj.mapSeq (·.push v)) }:=I9.pins_of λp hp=>by
    have e:p=(D,wL (its++[v]) n2):=by simpa using hp
    subst e;exact⟨qD,nD,neD,nfD,λv z=>by have z':Data.seq _ _=Data.cell v:=z;cases z'⟩
   refine ηP (ηP ⟨rfl,m',hm,k+1,τ4,H6,ys++[y],its++[v],_,I10,?_,a2,rv.append (.cons r6 .nil),?_,w6⟩)
   ·refine T.keep _ _ _ a1 λb hb o e=>(Heap.get?_update_other s6.heap (Obj.mapSeq (·.push v)) ?_).trans e;have f5:=(stat (wL its n) H6 a2 b hb).2.2.2.2.2;exact f5 (D,wL its n) (a7 _ aG)
   ·rw[aj,eU];lia
theorem xf(h:∀ y∈scope.names,y.2 = .free->∃ c,env.cells.lookup y.1=some c):closureFor scope env=pure (tQ env.cells scope.names []):=by
 have q:=vi (env:=env) (acc:=[]) h;unfold closureFor;show (forIn scope.names [] _ >>= λr=>pure r)=_;refine Eq.trans (congrArg (· >>= λr=>pure r) (Eq.trans ?_ q)) (by simp);refine congrArg (forIn scope.names []) ?_;funext x r;obtain⟨n,k⟩:=x;first
  | rfl
  | (dsimp only;split <;> simp)
def E2(J:It)(g:TG)(tt:TT)(te:TE)(σ:St)(Q:VK)(H1:Hp):Prop:=∃ W:Nat->Nat->St->List V->Hp->Prop,(∃ m,W 0 m σ [] H1) /\
 ∀ k m τ ys H,W k m τ ys H->(J.stop k H/\∀ D,H D=none->Q (.ref D) (tv H D (.lst ys)))\/(J.go k H/\ys.length<sizeLine/\∀ x H',J.yld k H x H'->g x τ H' λτ2 H2=>tt τ2 H2 λb H3 =>
   if b=true then te τ2 H3 λv H4=>∃ m',m'<m/\W (k+1) m' τ2 (ys++[v]) H4 else ∃ m',m'<m/\W (k+1) m' τ2 ys H3)
def GB(wi:TI)(hide:List Nat)(g:TG)(tt:TT)(te:TE):TE:=λσ H Q=>wi σ H λJ H1=>E2 J g tt te (v0 hide σ) Q H1
theorem ER{X:Cx}{pins:List (Addr×Obj)}{σ:St}{H:Hp}{s:Shared}{elt tg iter:Expr}{ifs:List Expr}{scope:Scope}{pos:Pos}{hide:List Nat}{g:TG}{te:TE}{tt:TT}{J:It}{fp:List Addr}{it:Addr}{tn:Nat->Heap->Prop}{RR:Value->Addr->Result->Shared->Prop}{Q:VK}{E:Value->Shared->Prop}
  (hc:X.calm=true) (S:CompS X.N X.env.scope scope hide)
  (hg:∀ s2 H2 fp pins C,PG (u6 X scope s2 H2 fp pins C) tg g) (ht:∀ s2 H2 fp pins C,PTs (u6 X scope s2 H2 fp pins C) ifs tt) (he:∀ s2 H2 fp pins C,PE (u6 X scope s2 H2 fp pins C) elt te)
  (I:Inv X pins σ H s) (T:Turn X.prog X.w X.K tg J fp it tn) (st:tn 0 s.heap) (hf:∀ b∈fp,uC X pins H b)
  (h:∃ W:Nat->Nat->St->List V->Hp->Prop,(∃ m,W 0 m (v0 hide σ) [] H) /\
   ∀ k m τ ys H,W k m τ ys H->(J.stop k H/\∀ D,H D=none->Q (.ref D) (tv H D (.lst ys)))\/(J.go k H/\ys.length<sizeLine/\∀ x H',J.yld k H x H'->g x τ H' λτ2 H2=>tt τ2 H2 λb H3 =>
    if b=true then te τ2 H3 λv H4=>∃ m',m'<m/\W (k+1) m' τ2 (ys++[v]) H4 else ∃ m',m'<m/\W (k+1) m' τ2 ys H3))
  (hRR:∀ D C s' ys H',Inv X pins σ (tv H' D (.lst ys)) s'->uC X pins (tv H' D (.lst ys)) C->(∃ m,s'.heap.Ns C m)->Q (.ref D) (tv H' D (.lst ys))->RR (.ref D) C (.ok .next) s') :
  wpAny (model X.prog X.w) X.A (newList []) (λacc s3=>wpAny (model X.prog X.w) X.A (newFunctionEnv scope X.env.globals (tQ X.env.cells scope.names []) [] X.env.qual none .none (some X.env)) (λcenv s4 =>
   codeAny (model X.prog X.w) X.A (.compStart (.ListComp elt [⟨tg,iter,ifs,0⟩] scope pos) 0 (.ref it) acc { cenv with scope:=relabel scope X.env }) (RR acc cenv.locals) s4) E s3) E s:=by
 obtain⟨W,⟨m0,w0⟩,x6⟩:=h;refine wpAny_newList (FU ?_) (by simp);dsimp only;generalize hH2:s.heap.push { cls:=.type "list",data:=.seq ([]:List Value).toArray }=H2;have hC:H2.objs.size=s.heap.objs.size+1:=by rw[← hH2,Heap.size_push]
 have k2:∀ b o,H2.get? b=some o->(pushCells (H2.push { cls:=.type "dict",data:=.dict #[] }) scope.names).get? b=some o:=λb o e=>pushCells_keeps _ _ b o (ηH _ e);have hcl:∀ p∈cellsFrom (H2.objs.size+1) scope.names (tQ X.env.cells scope.names []),p∈tQ X.env.cells scope.names []\/(pushCells (H2.push { cls:=.type "dict",data:=.dict #[] }) scope.names).IsCell p.2 none:=λp hp=>by
  rw[← Heap.size_push H2 { cls:=.type "dict",data:=.dict #[] }] at hp;exact yC hp
 have hns₁:(pushCells (H2.push { cls:=.type "dict",data:=.dict #[] }) scope.names).Ns H2.objs.size λ_=>none:=(Heap.Ns.new H2 (.type "dict")).keeps (pushCells_keeps _ _);generalize pushCells (H2.push { cls:=.type "dict",data:=.dict #[] }) scope.names=h₁ at k2 hcl hns₁ ⊢;have k1:∀ b o,s.heap.get? b=some o->h₁.get? b=some o:=λb o e=>k2 b o (hH2 ▸ ηH _ e);have hDC:s.heap.objs.size≠H2.objs.size:=by rw[hC];exact aY (fU _)
 have eD:h₁.get? s.heap.objs.size=some (wL [] 0):=k2 _ _ (hH2 ▸ ηG _ rfl);have hfo:∀ b∈fp,∃ o,s.heap.get? b=some o:=λb hb=>let ⟨o,e,_⟩:=T.obj _ _ st b hb;⟨o,e⟩;have hle:s.heap.objs.size<=H2.objs.size:=by rw[hC];exact gb _
 have I1:=Mr (tk:=s.toks) S I hf hfo hle (af _) hDC k1 hcl hns₁ eD (λv z=>by have z':Data.seq _ _=Data.cell v:=z;cases z');have sub:∀ x c,(cellsFrom (H2.objs.size+1) scope.names (tQ X.env.cells scope.names [])).lookup x=some c->X.env.cells.lookup x=some c\/H2.objs.size+1<=c:=λx c e=>(wZ (λy hy e=>I.ok.has y.1 (S.free y hy e)) (tH e)).imp (·.1) (·.1);have st1:tn 0 h₁:=T.keep _ _ _ st λb _ o e=>k1 b o e;have lp:codeAny (model X.prog X.w) X.A (.compLoop (.ListComp elt [⟨tg,iter,ifs,0⟩] scope pos) 0 (.ref it) (.ref s.heap.objs.size) (compEnvC scope (cellsFrom (H2.objs.size+1) scope.names (tQ X.env.cells scope.names [])) H2.objs.size X.env)) (RR (.ref s.heap.objs.size) H2.objs.size)
   { s with heap:=h₁ }:=by
  refine KS (Y:=u6 X scope s H fp pins H2.objs.size) (Z:=λys H=>∀ D,H D=none->Q (.ref D) (tv H D (.lst ys))) T hc (hg _ _ _ _ _) (ht _ _ _ _ _) (he _ _ _ _ _) (λ_ _ z=>z) (λob H' hn b hb=>?_) (af _) (λx c e z=>?_) (λp hp z=>?_) x6 (λτ H' s' ys its n J rv hz q=>?_) I1 st1 (λb hb=>(hf b hb).1) w0
  ·obtain⟨f0,f1,f2,f3,f4,f5⟩:=hf b hb;obtain⟨o,e⟩:=hfo b hb;have lb:=ηL e;refine⟨hn b hb,aY (aF lb hle),λz=>?_,.inl hb,λx c e=>(sub x c e).elim (f4 x c) λz=>dH (aF lb (aE hle (cP z))),λp hp=>?_⟩
   ·rcases au.mp (I.stkSub b z) with q|q
    ·exact f1 q
    ·exact f2 q
   ·rcases bD.mp hp with z|z
    ·exact f5 p z
    ·have e:p=(s.heap.objs.size,ob):=by simpa using z
     subst e;exact dH lb
  ·rcases sub x c e with w|w
   ·obtain⟨v,o,ho,_⟩:=I.cell x c w;exact absurd (ηL ho) (by rw[z];exact bB _)
   ·rw[z,hC] at w;exact absurd (cP w) (Nat.not_succ_le_self _)
  ·exact absurd (ηL (I.pin p hp).1) (by rw[z];exact bB _)
  ·obtain⟨_,nD,_⟩:=J.pin _ (a7 _ aG);have nC:H' H2.objs.size=none:=J.free;refine hRR _ _ s' ys H' (Mq I hf (af _) J aG rv hz) (I.fpOk hle ?_) ?_ (q _ nD)
   ·rw[sB (Ne.symm hDC)];exact nC
   ·obtain⟨m,hm,_⟩:=J.loc;exact⟨m,hm⟩
 exact codeAny_compStart_list lp (T.self X.A 0 _ _ _ st1 lp)
section
variable{X:Cx}{elt tg iter:Expr}{ifs:List Expr}{scope:Scope}{pos:Pos}{hide:List Nat}{wi:TI}{g:TG}{te:TE}{tt:TT}
theorem Bi(hc:X.calm=true)(S:CompS X.N X.env.scope scope hide)(hi:PI X tg iter wi)
  (hg:∀ s2 H2 fp pins C,PG (u6 X scope s2 H2 fp pins C) tg g) (ht:∀ s2 H2 fp pins C,PTs (u6 X scope s2 H2 fp pins C) ifs tt) (he:∀ s2 H2 fp pins C,PE (u6 X scope s2 H2 fp pins C) elt te)
  (hs:∀ x,foldedSetIterable iter X.env x=pure x:=by intro _;rfl):PE X (.ListComp elt [⟨tg,iter,ifs,0⟩] scope pos) (GB wi hide g tt te):=by
 intro pins s σ H Q I h;rw[eval_ListComp];refine wpAny_comprehension_free (use:=none) rfl hs (xf λy hy e=>I.ok.has y.1 (S.free y hy e)) S.kind S.loc (sS (hi pins s σ H _ I h) λv s1 h1=>sS h1 λitv s2 h2=>?_);obtain⟨it,fp,tn,J,H2,e,I2,T,st2,f2,q2⟩:=h2;subst e;refine ER (RR:=λacc C=>compPost (model X.prog X.w) X.A X.xe none (EP X pins σ Q) acc C) hc S hg ht he I2 T st2 f2 q2 λD C s' ys H' I' fC hN q=>?_;obtain⟨m,hm⟩:=hN;obtain⟨f0,f1,f2,f3,f4,f5⟩:=fC;refine⟨m,hm,λh' sb=>⟨.ref D,_,?_,rfl,q⟩⟩;exact I'.turned (t':=s'.toks) (λb o hb e=>(sb.2 b hb).trans e) f0 f1 f3 f4 f5
theorem Fv(hc:X.calm=true)(hN:X.N.Nodup)(hy:X.N[i]? = some y)(hl:CS X.env.scope y)(S:CompS X.N X.env.scope scope hide)(hi:PI X tg iter wi)
  (hg:∀ s2 H2 fp pins C,PG (u6 X scope s2 H2 fp pins C) tg g) (ht:∀ s2 H2 fp pins C,PTs (u6 X scope s2 H2 fp pins C) ifs tt) (he:∀ s2 H2 fp pins C,PE (u6 X scope s2 H2 fp pins C) elt te)
  (hs:∀ x,foldedSetIterable iter X.env x=pure x:=by intro _;rfl)
  (hsw:swapsWith (.ListComp elt [⟨tg,iter,ifs,0⟩] scope pos) (some (.Name y py)) spos.line X.env=pure true:=by rfl)
  (hf:X.fn y=true\/X.env.scope.names.lookup y=some .local:=by first|exact .inl rfl|exact .inr rfl|assumption) :
  PS X (.Assign [.Name y py] (.ListComp elt [⟨tg,iter,ifs,0⟩] scope pos) spos) (λD σ H=>GB wi hide g tt te σ H λv H1=>D.nx (σ.set i (some v)) H1):=by
 intro pins s σ H D I h;rw[exec_Assign_Name_used _ _ _ _ hsw];refine ηB (wpAny_standAt (ηB ?_));show wpAny _ X.A (do let _ ← comprehension (.ListComp elt [⟨tg,iter,ifs,0⟩] scope pos) scope X.env _ (newList []) false (eval iter X.env) (some (assign (.Name y py) X.env))) _ _ s;refine ηB (sS (wpAny_comprehension_free (use:=some (assign (.Name y py) X.env)) (Q:=λ_ s'=>SP X pins D .next s') rfl hs (xf λy hy e=>I.ok.has y.1 (S.free y hy e)) S.kind S.loc
  (sS (hi pins s σ H _ I h) λv s1 h1=>sS h1 λitv s2 h2=>?_)) (λ_ s' hq=>ηP (ηP hq)))
 obtain⟨it,fp,tn,J,H2,e,I2,T,st2,f2,q2⟩:=h2;subst e;refine ER (Q:=λv H1=>D.nx (σ.set i (some v)) H1) (RR:=λacc C=>compPost (model X.prog X.w) X.A X.xe (some (assign (.Name y py) X.env)) (λ_ s'=>SP X pins D .next s') acc C) hc S hg ht he I2 T st2 f2 q2 λA C s' ys H' I' fC hNs q=>?_;obtain⟨m,hm⟩:=hNs;obtain⟨f0,f1,f2,f3,f4,f5⟩:=fC;show wpAny _ X.A (assign (.Name y py) X.env (.ref A)) _ _ s';refine wpAny_assign_Name (xz I' hN hy hl (v:=.ref A) rfl (λs'' I'' hch=>?_) hf);obtain⟨a,sb,ha⟩:=hch;have nC:C≠a:=by
  rcases ha with z|z
  ·rw[z];exact f1
  ·exact Ne.symm (f4 _ _ z)
 refine⟨m,hm.sameBut sb nC,λh3 sb3=>⟨_,_,?_,q⟩⟩;exact I''.turned (t':=s''.toks) (λb o hb e=>(sb3.2 b hb).trans e) f0 f1 f3 f4 f5
end
def Lt2(n:Nat)(i:Int):Prop:=i.natAbs<2^n
theorem Lt2.mono(h:Lt2 n i)(l:n<=m):Lt2 m i:=aF h (cu (by decide) l)
theorem Lt2.mul(h:Lt2 n i)(l:Lt2 m j):Lt2 (n+m) (i*j):=by
 unfold Lt2;rw[aT,du];exact Nat.mul_lt_mul'' h l
theorem Lt2.add(h:Lt2 n i)(l:Lt2 n j):Lt2 (n+1) (i+j):=by
 refine bJ (Int.natAbs_add_le i j) ?_;rw[Nat.pow_succ,Nat.mul_two];exact Nat.add_lt_add h l
theorem Lt2.neg(h:Lt2 n i):Lt2 n (-i):=by
 unfold Lt2 at *;rw[gx];exact h
theorem Lt2.sub(h:Lt2 n i)(l:Lt2 n j):Lt2 (n+1) (i-j):=by
 rw[Int.sub_eq_add_neg];exact h.add l.neg
theorem Lt2.of(b:Nat)(h:i.natAbs<=b)(l:b<2^n):Lt2 n i:=bJ h l
theorem Lt2.le(h:Lt2 n i)(l:j.natAbs<=i.natAbs):Lt2 n j:=bJ l h
def CMulB(i j:Int):Prop:=∃ n m,Lt2 n i/\Lt2 m j/\n+m<=100000000
theorem CMulB.ok(h:CMulB i j):IntMulOk i j:=by
 obtain⟨n,m,h1,h2,h3⟩:=h;have a:=PyProof.Rows.intBits_le h1;have b:=PyProof.Rows.intBits_le h2;unfold IntMulOk;intro z;simp only[bH,decide_eq_true_eq] at z;have z2:((Builtin.Int.intBits i:Int)+(Builtin.Int.intBits j:Int)) > ((2^27:Nat):Int):=of_decide_eq_true z.2;have e:(2^27:Nat)=134217728:=by decide
 rw[e] at z2;lia
def uA(i j:Int):Prop:=j≠0/\∃ n,Lt2 n j/\n<=100000000
theorem Inv.pyl{X:Cx}{pins:List (Addr×Obj)}{σ:St}{H:Hp}{s:Shared}{k:Nat}(I:Inv X pins σ H s)(hr:Room k X.A):PySem.PylongRoom (model X.prog X.w) X.A s:=by
 obtain⟨e,l,h1,h2,h3,h4,h5⟩:=I.ok.rn;exact PySem.PylongRoom.of I.nolimit (by have:=hr.dp;show X.A.depth+100<_;lia) (PySem.SeerAt.of (I.ok.sr.1.keeps I.bk) I.ok.sr.2 (by rw[I.ok.frames,h1]) h2 h3 h4 h5)
theorem MH{X:Cx}{f:Value->Value->Sem Value}{C:Int->Int->Prop}{g:Int->Int->Int}{k:Nat}(hr:Room k X.A)
  (rule:∀(i j:Int) (t u:Tok) (s:Shared) (Q:Value->Shared->Prop) (E:Value->Shared->Prop),PySem.PylongRoom (model X.prog X.w) X.A s->C i j->Q (.int (g i j) s.toks) { s with toks:=s.toks+1 }->wpAny (model X.prog X.w) X.A (f (.int i t) (.int j u)) Q E s) :
  OpR X f (rI C λi j=>.int (g i j)):=by
 intro pins s σ H x y v u Q I rx ry h;obtain⟨i,j,rfl,rfl,hc,q⟩:=h;obtain⟨t,rfl⟩:=rx;obtain⟨t',rfl⟩:=ry;exact rule i j t t' s _ _ (Inv.pyl I hr) hc ⟨.int (g i j),H,I.tok _,⟨_,rfl⟩,q⟩
section
variable{X:Cx}
theorem FJ:OpR X (binaryOp .Mult) (rI CMulB λi j=>.int (i*j)):=GQ λ_ _ _ _ _ _ _ hc q=>mul_int q hc.ok
theorem yU{k:Nat}(hr:Room k X.A):OpR X (binaryOp .FloorDiv) (rI uA λi j=>.int (i.fdiv j)):=MH hr λ_ _ _ _ _ _ _ hp hc q=>floordiv_int hc.1 q (.inr hp)
theorem D8:OpR X (inplaceOp .Mult) (rI CMulB λi j=>.int (i*j)):=GQ λ_ _ _ _ _ _ _ hc q=>imul_int q hc.ok
theorem Cz(hr:Room k X.A):OpR X (inplaceOp .FloorDiv) (rI uA λi j=>.int (i.fdiv j)):=MH hr λ_ _ _ _ _ _ _ hp hc q=>ifloordiv_int hc.1 q (.inr hp)
end
inductive DV where
 | int (i:Int)|str (x:Str)|non|bl (b:Bool)|tup (xs:List DV)|lst (xs:List DV)
mutual
def Rep(K:Frag)(H:Hp):DV->V->Prop
 | .int i,v=>v = .int i
 | .str x,v=>v = .str x
 | .non,v=>v = .non
 | .bl b,v=>v = .bl b
 | .tup ds,v=>∃ a vs,v = .ref a/\SqT K H a vs/\Reps K H ds vs
 | .lst ds,v=>∃ a vs,v = .ref a/\SqL K H a vs/\Reps K H ds vs
def Reps(K:Frag)(H:Hp):List DV->List V->Prop
 | [],vs=>vs=[]
 | d::ds,vs=>∃ v r,vs=v::r/\Rep K H d v/\Reps K H ds r
end
mutual
def DV.pl:DV->Bool
 | .int _=>true | .str _=>true | .non=>true | .bl _=>false
 | .tup ds=>DV.pls ds
 | .lst ds=>DV.pls ds
def DV.pls:List DV->Bool
 | []=>true
 | d::ds=>DV.pl d && DV.pls ds
end
mutual
def DV.dp:DV->Nat
 | .tup ds=>DV.dps ds+1
 | .lst ds=>DV.dps ds+1
 | _=>0
def DV.dps:List DV->Nat
 | []=>0
 | d::ds=>max (DV.dp d) (DV.dps ds)
end
theorem SqT.same{K:Frag}{H H':Hp}{a:Addr}{xs:List V}(e:Same H H')(h:SqT K H a xs):SqT K H' a xs:=by
 rcases h with (h|⟨o,h⟩)|h
 ·exact .inl (.inl (e _ _ h))
 ·exact .inl (.inr ⟨o,e _ _ h⟩)
 ·exact .inr h
theorem Reps.length{K:Frag}{H:Hp}:∀{ds:List DV} {vs:List V},Reps K H ds vs->ds.length=vs.length
 | [],vs,h=>by
  have h':vs=[]:=by unfold Reps at h;exact h
  rw[h'];rfl
 | d::ds,vs,h=>by
  unfold Reps at h;obtain⟨v,r,e,_,h'⟩:=h;rw[e,br,br,Reps.length h']
mutual
theorem Rep.same{K:Frag}{H H':Hp}(e:Same H H'):∀{d:DV} {v:V},Rep K H d v->Rep K H' d v
 | .int i,v,h=>by unfold Rep at *;exact h
 | .str i,v,h=>by unfold Rep at *;exact h
 | .non,v,h=>by unfold Rep at *;exact h
 | .bl i,v,h=>by unfold Rep at *;exact h
 | .tup ds,v,h=>by
  unfold Rep at *;obtain⟨a,vs,h1,h2,h3⟩:=h;exact⟨a,vs,h1,h2.same e,Reps.same e h3⟩
 | .lst ds,v,h=>by
  unfold Rep at *;obtain⟨a,vs,h1,h2,h3⟩:=h;exact⟨a,vs,h1,e.seq h2,Reps.same e h3⟩
theorem Reps.same{K:Frag}{H H':Hp}(e:Same H H'):∀{ds:List DV} {vs:List V},Reps K H ds vs->Reps K H' ds vs
 | [],v,h=>by unfold Reps at *;exact h
 | d::ds,vs,h=>by
  unfold Reps at *;obtain⟨v,r,h1,h2,h3⟩:=h;exact⟨v,r,h1,Rep.same e h2,Reps.same e h3⟩
end
section
variable{X:Cx}{pins:List (Addr×Obj)}{σ:St}{H:Hp}{s:Shared}
mutual
theorem Rep.inj(I:Inv X pins σ H s):∀{d d':DV} {v:V},Rep X.K H d v->Rep X.K H d' v->d=d'
 | .int i,d',v,h,h'=>by
  unfold Rep at h;subst h;cases d' <;> unfold Rep at h' <;> first|(cases h';done)|(cases h';rfl)|(obtain⟨_,_,e,_⟩:=h';cases e)
 | .str i,d',v,h,h'=>by
  unfold Rep at h;subst h;cases d' <;> unfold Rep at h' <;> first|(cases h';done)|(cases h';rfl)|(obtain⟨_,_,e,_⟩:=h';cases e)
 | .non,d',v,h,h'=>by
  unfold Rep at h;subst h;cases d' <;> unfold Rep at h' <;> first|(cases h';done)|(cases h';rfl)|rfl|(obtain⟨_,_,e,_⟩:=h';cases e)
 | .bl i,d',v,h,h'=>by
  unfold Rep at h;subst h;cases d' <;> unfold Rep at h' <;> first|(cases h';done)|(cases h';rfl)|(obtain⟨_,_,e,_⟩:=h';cases e)
 | .tup ds,d',v,h,h'=>by
  unfold Rep at h;obtain⟨a,vs,rfl,h2,h3⟩:=h;cases d' with
  | tup ds' =>
   unfold Rep at h';obtain⟨a',vs',e,h2',h3'⟩:=h';cases e;have:=I.tuple_inj h2 h2';subst this;rw[Reps.inj I h3 h3']
  | lst ds' =>
   unfold Rep at h';obtain⟨a',vs',e,h2',h3'⟩:=h';cases e;obtain⟨_,_,p,_⟩:=I.tuple h2;obtain⟨_,_,p',_⟩:=I.list h2';exact absurd rfl (SeqAt.ne_of_list_tuple p'.isList p)
  | _=>unfold Rep at h';cases h'
 | .lst ds,d',v,h,h'=>by
  unfold Rep at h;obtain⟨a,vs,rfl,h2,h3⟩:=h;cases d' with
  | lst ds' =>
   unfold Rep at h';obtain⟨a',vs',e,h2',h3'⟩:=h';cases e;have:=I.list_inj h2 h2';subst this;rw[Reps.inj I h3 h3']
  | tup ds' =>
   unfold Rep at h';obtain⟨a',vs',e,h2',h3'⟩:=h';cases e;obtain⟨_,_,p,_⟩:=I.tuple h2';obtain⟨_,_,p',_⟩:=I.list h2;exact absurd rfl (SeqAt.ne_of_list_tuple p'.isList p)
  | _=>unfold Rep at h';cases h'
theorem Reps.inj(I:Inv X pins σ H s):∀{ds ds':List DV} {vs:List V},Reps X.K H ds vs->Reps X.K H ds' vs->ds=ds'
 | [],ds',vs,h,h'=>by
  unfold Reps at h;subst h;cases ds' with
  | nil=>rfl
  | cons d r=>unfold Reps at h';obtain⟨_,_,e,_⟩:=h';cases e
 | d::ds,ds',vs,h,h'=>by
  unfold Reps at h;obtain⟨v,r,e,h1,h2⟩:=h;cases ds' with
  | nil=>unfold Reps at h';rw[h'] at e;cases e
  | cons d' r' =>
   unfold Reps at h';obtain⟨v',r2,e',h1',h2'⟩:=h';rw[e] at e';cases e';rw[Rep.inj I h1 h1',Reps.inj I h2 h2']
end
end
theorem all_cons:(List.range (n+1)).all e=(e 0 && (List.range n).all λj=>e (j+1)):=by
 rw[List.range_succ_eq_map,e7,gE];rfl
theorem ym(h:n=m):((List.range (min n m)).all e && n == m)=(List.range n).all e:=by
 subst h;rw[Nat.min_self];simp
section
variable{X:Cx}{pins:List (Addr×Obj)}{σ:St}{H:Hp}{s:Shared}
mutual
theorem ML(I:Inv X pins σ H s):∀(d d':DV) (A:Around) {x y:V} {u v:Value},Rep X.K H d x->Rep X.K H d' y->RelV x u->RelV y v->d.pl=true->d'.pl=true->A.units+d.dp+1<cLine ->
  ∃ b,SeqAt.EqAt A s u v b/\(b=true↔d=d')
 | .bl _,_,_,_,_,_,_,_,_,_,_,p,_,_=>by unfold DV.pl at p;cases p
 | _,.bl _,_,_,_,_,_,_,_,_,_,_,p,_=>by unfold DV.pl at p;cases p
 | .int i,d',A,x,y,u,v,h,h',rx,ry,_,_,hu=>by
  have hu:A.units<cLine:=by lia
  unfold Rep at h;subst h;obtain⟨t,rfl⟩:=rx;cases d' with
  | bl b=>contradiction
  | int j =>
   unfold Rep at h';subst h';obtain⟨t',rfl⟩:=ry;exact⟨_,SeqAt.EqAt.int_int _ _ _ _,by rw[beq_iff_eq];exact⟨λe=>by rw[e],λe=>by cases e;rfl⟩⟩
  | str z =>
   unfold Rep at h';subst h';obtain⟨t',rfl⟩:=ry;exact⟨_,SeqAt.EqAt.int_str _ _ _ _,by simp⟩
  | non =>
   unfold Rep at h';subst h';cases ry;exact⟨_,SeqAt.EqAt.int_none _ _,by simp⟩
  | tup ds' =>
   unfold Rep at h';obtain⟨a,vs,rfl,h2,_⟩:=h';cases ry;obtain⟨_,_,p,_⟩:=I.tuple h2;exact⟨_,SeqAt.EqAt.int_tuple _ _ p hu,by simp⟩
  | lst ds' =>
   unfold Rep at h';obtain⟨a,vs,rfl,h2,_⟩:=h';cases ry;obtain⟨_,_,p,_⟩:=I.list h2;exact⟨_,SeqAt.EqAt.int_list _ _ p.isList hu,by simp⟩
 | .str i,d',A,x,y,u,v,h,h',rx,ry,_,_,hu=>by
  have hu:A.units<cLine:=by lia
  unfold Rep at h;subst h;obtain⟨t,rfl⟩:=rx;cases d' with
  | bl b=>contradiction
  | int j =>
   unfold Rep at h';subst h';obtain⟨t',rfl⟩:=ry;exact⟨_,SeqAt.EqAt.str_int _ _ _ _,by simp⟩
  | str z =>
   unfold Rep at h';subst h';obtain⟨t',rfl⟩:=ry;exact⟨_,SeqAt.EqAt.str_str _ _ _ _,by rw[beq_iff_eq];exact⟨λe=>by rw[e],λe=>by cases e;rfl⟩⟩
  | non =>
   unfold Rep at h';subst h';cases ry;exact⟨_,SeqAt.EqAt.str_none _ _,by simp⟩
  | tup ds' =>
   unfold Rep at h';obtain⟨a,vs,rfl,h2,_⟩:=h';cases ry;obtain⟨_,_,p,_⟩:=I.tuple h2;exact⟨_,SeqAt.EqAt.str_tuple _ _ p hu,by simp⟩
  | lst ds' =>
   unfold Rep at h';obtain⟨a,vs,rfl,h2,_⟩:=h';cases ry;obtain⟨_,_,p,_⟩:=I.list h2;exact⟨_,SeqAt.EqAt.str_list _ _ p.isList hu,by simp⟩
 | .non,d',A,x,y,u,v,h,h',rx,ry,_,_,hu=>by
  have hu:A.units<cLine:=by lia
  unfold Rep at h;subst h;cases rx;cases d' with
  | bl b=>contradiction
  | int j =>
   unfold Rep at h';subst h';obtain⟨t',rfl⟩:=ry;exact⟨_,SeqAt.EqAt.none_int _ _,by simp⟩
  | str z =>
   unfold Rep at h';subst h';obtain⟨t',rfl⟩:=ry;exact⟨_,SeqAt.EqAt.none_str _ _,by simp⟩
  | non =>
   unfold Rep at h';subst h';cases ry;exact⟨_,SeqAt.EqAt.same _,by simp⟩
  | tup ds' =>
   unfold Rep at h';obtain⟨a,vs,rfl,h2,_⟩:=h';cases ry;obtain⟨_,_,p,_⟩:=I.tuple h2;exact⟨_,SeqAt.EqAt.none_tuple p hu,by simp⟩
  | lst ds' =>
   unfold Rep at h';obtain⟨a,vs,rfl,h2,_⟩:=h';cases ry;obtain⟨_,_,p,_⟩:=I.list h2;exact⟨_,SeqAt.EqAt.none_list p.isList hu,by simp⟩
 | .tup ds,d',A,x,y,u,v,h,h',rx,ry,pp,pp',hu=>by
  have hu0:A.units<cLine:=by lia
  have hd:=h;unfold Rep at h;obtain⟨a,vs,rfl,h2,h3⟩:=h;cases rx;obtain⟨its,rv,p,_⟩:=I.tuple h2;cases d' with
  | bl b=>contradiction
  | int j =>
   unfold Rep at h';subst h';obtain⟨t',rfl⟩:=ry;exact⟨_,SeqAt.EqAt.tuple_int _ _ p hu0,by simp⟩
  | str z =>
   unfold Rep at h';subst h';obtain⟨t',rfl⟩:=ry;exact⟨_,SeqAt.EqAt.tuple_str _ _ p hu0,by simp⟩
  | non =>
   unfold Rep at h';subst h';cases ry;exact⟨_,SeqAt.EqAt.tuple_none p hu0,by simp⟩
  | lst ds' =>
   unfold Rep at h';obtain⟨a',vs',rfl,h2',_⟩:=h';cases ry;obtain⟨_,_,p',_⟩:=I.list h2';exact⟨_,SeqAt.EqAt.tuple_list p p'.isList hu0,by simp⟩
  | tup ds' =>
   have hd':=h';unfold Rep at h';obtain⟨a',vs',rfl,h2',h3'⟩:=h';cases ry;obtain⟨its',rv',p',_⟩:=I.tuple h2';by_cases e:a=a'
   ·subst e;exact⟨true,SeqAt.EqAt.same _,by simp[Rep.inj I hd hd']⟩
   ·unfold DV.pl at pp pp';unfold DV.dp at hu;obtain⟨f,hf,hi⟩:=AI I ds ds' A.in1 h3 h3' rv rv' pp pp' (by show A.units+1+_+1<_;lia);refine⟨_,SeqAt.EqAt.of_refs e (SeqAt.RcAt.tuples p p' hu0 (e:=f) λj h1 h2=>?_),?_⟩
    ·have q:=hf j (by simpa using h1) (by simpa using h2);simpa using q
    ·simp only[ao,DV.tup.injEq];exact hi
 | .lst ds,d',A,x,y,u,v,h,h',rx,ry,pp,pp',hu=>by
  have hu0:A.units<cLine:=by lia
  have hd:=h;unfold Rep at h;obtain⟨a,vs,rfl,h2,h3⟩:=h;cases rx;obtain⟨its,rv,p,_⟩:=I.list h2;cases d' with
  | bl b=>contradiction
  | int j =>
   unfold Rep at h';subst h';obtain⟨t',rfl⟩:=ry;exact⟨_,SeqAt.EqAt.list_int _ _ p.isList hu0,by simp⟩
  | str z =>
   unfold Rep at h';subst h';obtain⟨t',rfl⟩:=ry;exact⟨_,SeqAt.EqAt.list_str _ _ p.isList hu0,by simp⟩
  | non =>
   unfold Rep at h';subst h';cases ry;exact⟨_,SeqAt.EqAt.list_none p.isList hu0,by simp⟩
  | tup ds' =>
   unfold Rep at h';obtain⟨a',vs',rfl,h2',_⟩:=h';cases ry;obtain⟨_,_,p',_⟩:=I.tuple h2';exact⟨_,SeqAt.EqAt.list_tuple p.isList p' hu0,by simp⟩
  | lst ds' =>
   have hd':=h';unfold Rep at h';obtain⟨a',vs',rfl,h2',h3'⟩:=h';cases ry;obtain⟨its',rv',p',_⟩:=I.list h2';by_cases e:a=a'
   ·subst e;exact⟨true,SeqAt.EqAt.same _,by simp[Rep.inj I hd hd']⟩
   ·unfold DV.pl at pp pp';unfold DV.dp at hu;obtain⟨f,hf,hi⟩:=AI I ds ds' A.in1 h3 h3' rv rv' pp pp' (by show A.units+1+_+1<_;lia);by_cases hz:its.length=its'.length
    ·refine⟨_,SeqAt.EqAt.of_refs e (SeqAt.RcAt.lists p.isList p'.isList (by simpa using hz) hu0 (e:=f) λj h1 h2=>?_),?_⟩
     ·have q:=hf j (by simpa using h1) (by simpa using h2);simpa using q
     ·simp only[ao,DV.lst.injEq];rw[ym hz] at hi;exact hi
    ·refine⟨_,SeqAt.EqAt.of_refs e (SeqAt.RcAt.lists_lengths p.isList p'.isList (by simpa using hz) hu0),?_⟩;simp only[df,false_iff,DV.lst.injEq];intro z;have l1:=h3.length;have l2:=h3'.length;rw[z] at l1;exact hz (by rw[← rv.length,← rv'.length,← l1,← l2])
theorem AI(I:Inv X pins σ H s):∀(ds ds':List DV) (A:Around) {xs ys:List V} {us vs:List Value},Reps X.K H ds xs->Reps X.K H ds' ys->Vals xs us->Vals ys vs->DV.pls ds=true->DV.pls ds'=true->A.units+DV.dps ds+1<cLine ->
  ∃ e:Nat->Bool,(∀ j (h1:j<us.length) (h2:j<vs.length),SeqAt.EqAt A s us[j] vs[j] (e j))/\((((List.range (min us.length vs.length)).all e && us.length == vs.length)=true)↔ds=ds')
 | [],ds',A,xs,ys,us,vs,h,h',rx,ry,_,_,_=>by
  unfold Reps at h;subst h;cases rx;refine⟨λ_=>true,λj h1 _=>absurd h1 (by simp),?_⟩;cases ds' with
  | nil=>unfold Reps at h';subst h';cases ry;simp
  | cons d r=>unfold Reps at h';obtain⟨_,_,rfl,_⟩:=h';cases ry;simp
 | d::ds,ds',A,xs,ys,us,vs,h,h',rx,ry,pp,pp',hu=>by
  unfold Reps at h;obtain⟨x,r,rfl,h1,h2⟩:=h;cases rx with
  | cons rx rxs =>
   cases ds' with
   | nil =>
    unfold Reps at h';subst h';cases ry;exact⟨λ_=>true,λj _ h2=>absurd h2 (by simp),by simp⟩
   | cons d' ds' =>
    unfold Reps at h';obtain⟨y,r',rfl,h1',h2'⟩:=h';cases ry with
    | cons ry rys =>
     unfold DV.pls at pp pp';rw[bH] at pp pp';unfold DV.dps at hu;obtain⟨b,hb,ib⟩:=ML I d d' A h1 h1' rx ry pp.1 pp'.1 ();obtain⟨e,he,ie⟩:=AI I ds ds' A h2 h2' rxs rys pp.2 pp'.2 ();refine⟨λj=>match j with|0=>b|j+1=>e j,λj=>?_,?_⟩
     ·cases j with
      | zero=>exact λ_ _=>hb
      | succ j=>exact λq1 q2=>he j (by simpa using q1) (by simpa using q2)
     ·rw[br,br,Nat.succ_min_succ];have q:∀ n,(List.range (n+1)).all (λj=>match j with|0=>b|j+1=>e j)=(b && (List.range n).all e):=λn=>all_cons;rw[q];have q2:∀ n m:Nat,(n+1 == m+1)=(n == m):=λn m=>by
       rw[cq];simp
      rw[q2,Bool.and_assoc,bH,ib,ie,List.cons.injEq]
end
def J8(K:Frag)(A:Around)(neg:Bool):R2:=λx y H Q=>∃ ds ds',Rep K H (.tup ds) x/\Rep K H (.tup ds') y/\DV.pls ds=true/\DV.pls ds'=true/\A.units+DV.dps ds+2<cLine /\
 ∀ b,(b=true↔ds=ds')->Q (.bl (if neg then !b else b)) H
theorem Ix:OpR X (compareOp .Eq) (J8 X.K X.A false):=by
 intro pins s σ H x y u v Q I rx ry h;obtain⟨ds,ds',h1,h2,p1,p2,hu,q⟩:=h;unfold Rep at h1 h2;obtain⟨a,vs,rfl,t1,r1⟩:=h1;obtain⟨a',vs',rfl,t2,r2⟩:=h2;cases rx;cases ry;obtain⟨its,rv,p,_⟩:=I.tuple t1;obtain⟨its',rv',p',_⟩:=I.tuple t2;obtain⟨f,hf,hi⟩:=AI I ds ds' X.A.in1 r1 r2 rv rv' p1 p2 (by show X.A.units+1+_+1<_;lia);refine SeqAt.RcAt.tuples p p' () (e:=f) (λj h1 h2=>?_) _ _ _ _ ⟨.bl _,H,I,rfl,q _ ?_⟩
 ·have q:=hf j (by simpa using h1) (by simpa using h2);simpa using q
 ·simp only[ao];exact hi
theorem Ir:OpR X (compareOp .NotEq) (J8 X.K X.A true):=by
 intro pins s σ H x y u v Q I rx ry h;obtain⟨ds,ds',h1,h2,p1,p2,hu,q⟩:=h;unfold Rep at h1 h2;obtain⟨a,vs,rfl,t1,r1⟩:=h1;obtain⟨a',vs',rfl,t2,r2⟩:=h2;cases rx;cases ry;obtain⟨its,rv,p,_⟩:=I.tuple t1;obtain⟨its',rv',p',_⟩:=I.tuple t2;obtain⟨f,hf,hi⟩:=AI I ds ds' X.A.in1 r1 r2 rv rv' p1 p2 (by show X.A.units+1+_+1<_;lia);refine SeqAt.RcNeAt.tuples p p' () (e:=f) (λj h1 h2=>?_) _ _ _ _ ⟨.bl _,H,I,rfl,q _ ?_⟩
 ·have q:=hf j (by simpa using h1) (by simpa using h2);simpa using q
 ·simp only[ao];exact hi
theorem B5(bs:List Bool):(List.range bs.length).all (λj=>bs.getD j false)=bs.all id:=by
 induction bs with
 | nil=>rfl
 | cons b r ih =>
  rw[br,all_cons,e7];exact congrArg (b && ·) ih
theorem EM(hc:X.calm=true):CallR X (.builtin "all") (λxs H Q=>∃ p,∃ bs:List Bool,xs=[.ref p]/\SqL X.K H p (bs.map V.bl)/\Q (.bl (bs.all id)) H):=by
 intro pins s σ H xs us Q I rv h;obtain⟨p,bs,rfl,hp,q⟩:=h;obtain⟨u,rfl,ru⟩:=rv.one;cases ru;obtain⟨its,rv',pl,_⟩:=I.list hp;refine call_all_walk (wpAny_pyIter_list pl.isList ?_);have e:∀ b o,s.heap.get? b=some o->(s.heap.push { cls:=.type "list_iterator",data:=.fields #[.ref p,.int 0 0] }).get? b=some o:=λb o e=>ηH _ e;have hne:p≠s.heap.objs.size:=by
  obtain⟨o,ho,_⟩:=pl.isList;exact aY (ηL ho)
 have lb:bs.length=its.length:=by rw[← rv'.length,aa]
 refine⟨_,_,_,_,_,_,λj=>bs.getD j false,rfl,Walks.list (A:=X.A.in1) (I.ok.hd hc) _ p hne its.toArray,⟨⟨_,ηG _ rfl,rfl,rfl⟩,pl.isList.at λo ho=>e _ o ho⟩,?_,λh' tk hk=>?_⟩
 ·intro i v s Q E hv hq;have hv':its[i]? = some v:=by simpa using hv
  have hi:i<bs.length:=by
   rw[lb];exact (ak.mp hv').1
  obtain⟨u,hu,ru⟩:=rv'.get (i:=i) (x:=.bl bs[i]) (by simp[hi]);rw[hv'] at hu;cases hu;cases ru;have:bs.getD i false=bs[i]:=by simp[List.getD,hi]
  have hq:Q (bs.getD i false) s:=hq;rw[this] at hq;exact wpAny_truthy_bool hq
 ·refine⟨.bl (bs.all id),H,I.kept (t':=tk) λb o ho=>hk b o ?_ (e b o ho),?_,q⟩
  ·simp only[a8];exact aY (ηL ho)
  ·show Value.bool _=_;rw[← B5,lb];simp
end
structure Def (P:Program)(w:World)(K:Frag)(mg:Str->Option Value)(base:Heap)(x:Str)(k:Nat)(ps:List Str)(sp:Sp):Prop where
 ex:∃ f fd,FnOk P w K mg base Ab k f fd ps sp/\mg x=some (.ref f)/\PySem.W.keepIn K (.ref f)=true/\Binds K fd ps []
theorem Def.of{P:Program}{w:World}{K:Frag}{mg:Str->Option Value}{base:Heap}{x q:Str}{k:Nat}{ps:List Str}{sp:Sp}{st:Stmt}{f:Addr}{fd:FuncData}(F:Fun K x q st f fd)(m:mg x=some (.ref f))(b:Binds K fd ps [])
  (ok:FnOk P w K mg base Ab k f fd ps sp):Def P w K mg base x k ps sp:=⟨f,fd,ok,m,F.kp,b⟩
theorem Au{X:Cx}{e:Expr}{es:List Expr}{t:TA}{x:Str}{p pos:Pos}{j k:Nat}{ps:List Str}{sp:Sp}(g:Def X.prog X.w X.K X.mg X.base x j ps sp)(hr:Room k X.A)(ha:PA X (e::es) t)(hjk:j<=k:=by first|decide|lia|exact af _)(hg:Gl X x:=by rfl)
  (hdb:(x == ("__debug__" : Str))=false:=by decide) (he:starEach (e::es) X.env=(false,eval e X.env)::starEach es X.env:=by rfl) (hpl:(backTo pos (starEach es X.env)).any (·.1)=false:=by rfl) :
  PE X (.Call (.Name x p) (e::es) [] pos) (Ba sp [] E0 t):=by
 obtain⟨f,fd,F,m,kp,b⟩:=g.ex;exact FD F (hr.mono hjk) hg m kp b .nil Kh ha hdb he hpl
structure Bl (mg:Str->Option Value):Prop where
 len:mg "len" = none
 range:mg "range" = none
 all:mg "all" = none
 any:mg "any" = none
 abs:mg "abs" = none
 int:mg "int" = none
 bool:mg "bool" = none
 str:mg "str" = none
 list:mg "list" = none
 tuple:mg "tuple" = none
 dict:mg "dict" = none
 isinstance:mg "isinstance" = none
 enumerate:mg "enumerate" = none
 reversed:mg "reversed" = none
 sorted:mg "sorted" = none
 max:mg "max" = none
 min:mg "min" = none
 sum:mg "sum" = none
 zip:mg "zip" = none
structure Sm (f:Addr)(H H':Hp):Prop where
 app:∀ b o,b≠f->H b=some o->H' b=some o
 key:∀ l r,H f=some (.lst (.ref l::r))->∃ r',H' f=some (.lst (.ref l::r'))
instance {f:Addr}{H H':Hp}:CoeFun (Sm f H H') (λ_=>∀ b o,b≠f->H b=some o->H' b=some o):=⟨Sm.app⟩
theorem Sm.refl(H:Hp):Sm f H H:=⟨λ_ _ _ h=>h,λl r h=>⟨r,h⟩⟩
theorem Sm.trans(a:Sm f H H1)(b:Sm f H1 H2):Sm f H H2:=⟨λc o n h=>b.app c o n (a.app c o n h),λl r h=>by
 obtain⟨r1,h1⟩:=a.key l r h;exact b.key l r1 h1⟩
theorem Same.sm(h:Same H H'):Sm f H H':=⟨λb o _ e=>h b o e,λl r e=>⟨r,h _ _ e⟩⟩
theorem Sm.new(h:H p=none)(o:HO):Sm f H (tv H p o):=⟨λb u _ q=>by rw[sB (sI q h)];exact q,λl r q=>⟨r,by rw[sB (sI q h)];exact q⟩⟩
theorem Same.new(h:H p=none)(o:HO):Same H (tv H p o):=λb u q=>by rw[sB (sI q h)];exact q
theorem Sm.free(e:Sm f H H')(hl:l≠f)(h:H' l=none):H l=none:=by
 cases q:H l with
 | none=>rfl
 | some o =>
  rw[e.app l o hl q] at h;cases h
def MX(Pv:Nat->St->List V->Hp->Prop)(n i:Nat)(τ:St)(ys:List V)(v:V)(H:Hp):Prop :=
 ∃ m',m'<n-i/\m'=n-(i+1)/\i+1<=n/\(ys++[v]).length=i+1/\Pv (i+1) τ (ys++[v]) H
theorem Np(hi:i<n)(hl:ys.length=i)(p:Pv (i+1) τ (ys++[v]) H):MX Pv n i τ ys v H :=
 ⟨n-(i+1),(),rfl,hi,by rw[aj,eU,hl],p⟩
theorem AU{lo:Int}{n:Nat}{g:TG}{te:TE}{Q:VK}{σ:St}{H:Hp}(hn:n<=sizeLine)(Pv:Nat->St->List V->Hp->Prop)(h0:Pv 0 σ [] H)
  (hs:∀ i τ ys H,i<n->ys.length=i->Pv i τ ys H->g (.int (lo+i)) τ H λτ2 H2=>te τ2 H2 λv H3=>MX Pv n i τ2 ys v H3)
  (hd:∀ τ ys H D,ys.length=n->Pv n τ ys H->H D=none->Q (.ref D) (tv H D (.lst ys))) :
  E2 (JG lo n) g JN te σ Q H:=by
 refine⟨λi m τ ys H=>m=n-i/\i<=n/\ys.length=i/\Pv i τ ys H,⟨n,by simp,aB _,rfl,h0⟩,?_⟩;rintro i m τ ys H ⟨rfl,hi,hl,p⟩;by_cases hlt:i<n
 ·refine .inr ⟨hlt,(),λx H' y=>?_⟩;obtain⟨e,y⟩:=y;subst e y;exact hs i τ ys _ hlt hl p
 ·have e:i=n:=by lia
  subst e;exact .inl ⟨af _,λD hD=>hd τ ys H D hl p hD⟩
end L2
namespace L2
open PySem
theorem vV:bootBuiltins "len" = some (.builtin "len"):=by decide +kernel
theorem Jn:bootBuiltins "abs" = some (.builtin "abs"):=by decide +kernel
theorem ET:bootBuiltins "all" = some (.builtin "all"):=by decide +kernel
theorem sX:bootBuiltins "isinstance" = some (.builtin "isinstance"):=by decide +kernel
theorem Jm:bootBuiltins "int" = some (.type "int"):=by decide +kernel
theorem BS:bootBuiltins "bool" = some (.type "bool"):=by decide +kernel
theorem uX:bootBuiltins "list" = some (.type "list"):=by decide +kernel
theorem vC:bootBuiltins "tuple" = some (.type "tuple"):=by decide +kernel
end L2
namespace L2
open PySem PySem.Spec PyProof.Rows
def LB(t u:TS):TS:=λD σ H=>∃ R:St->Hp->Prop,t { D with nx:=R } σ H/\∀ σ H,R σ H->u D σ H
theorem vp{X:Cx}{st:Stmt}{more:List Stmt}{t u:TS}(h1:PS X st t)(h2:PSs X more u):PSs X (st::more) (LB t u):=by
 intro pins s σ H D I h;obtain⟨R,a,b⟩:=h;refine wpAny_execs_cons (sS (h1 pins s σ H { D with nx:=R } I a) λf s1 q=>?_);cases f with
 | next =>
  obtain⟨σ1,H1,I1,r1⟩:=q;exact h2 pins s1 σ1 H1 D I1 (b σ1 H1 r1)
 | brk=>exact q
 | cont=>exact q
 | ret v=>exact q
section
variable{X:Cx}
theorem Aa(K:Frag)(hK:X.K=K:=by rfl):IxR X (H9 K):=hK ▸ ix_list
theorem Cr(K:Frag)(hK:X.K=K:=by rfl):CallR X (.builtin "len") (λxs H Q=>∃ p ys,xs=[.ref p]/\(SqL K H p ys\/SqT K H p ys)/\Q (.int ys.length) H):=hK ▸ yF
theorem K0(K:Frag)(hc:X.calm=true:=by rfl)(hK:X.K=K:=by rfl):CallR X (.builtin "all") (λxs H Q=>∃ p,∃ bs:List Bool,xs=[.ref p]/\SqL K H p (bs.map V.bl)/\Q (.bl (bs.all id)) H):=hK ▸ EM hc
theorem AC(K:Frag)(hK:X.K=K:=by rfl):CallR X (.type "list") (λxs H Q=>∃ p ys,xs=[.ref p]/\(SqL K H p ys\/SqT K H p ys)/\∀ l,H l=none->Q (.ref l) (tv H l (.lst ys))):=hK ▸ yD
theorem Fa(K:Frag)(hK:X.K=K:=by rfl):CallR X (.type "tuple") (λxs H Q=>∃ p ys,xs=[.ref p]/\((SqL K H p ys/\∀ l,H l=none->Q (.ref l) (tv H l (.tup ys)))\/(SqT K H p ys/\Q (.ref p) H))):=hK ▸ xt
theorem Nk(K:Frag)(ha:PE X a ta)(he:∀ whole,isTrue a X.env whole=(do let v ← whole;standAt a.pos;holding [v] (truthy v)))(hK:X.K=K:=by rfl) :
  PT X a (λσ H Q=>ta σ H λx H'=>∃ k,Jt K x H' k/\Q k H'):=hK ▸ yS ha he
def J9(K:Frag)(neg:Bool):R2:=λx y H Q=>∃ ds ds',Rep K H (.tup ds) x/\Rep K H (.tup ds') y/\DV.pls ds=true/\DV.pls ds'=true/\DV.dps ds<=60/\∀ b,(b=true↔ds=ds')->Q (.bl (if neg then !b else b)) H
theorem Nz(K:Frag)(hr:Room k X.A)(hK:X.K=K:=by rfl):OpR X (compareOp .Eq) (J9 K false):=by
 subst hK;intro pins s σ H x y u v Q I rx ry h;obtain⟨ds,ds',h1,h2,p1,p2,hu,q⟩:=h;exact Ix pins s σ H x y u v Q I rx ry ⟨ds,ds',h1,h2,p1,p2,by have:=hr.units;lia,q⟩
theorem Nq(K:Frag)(hr:Room k X.A)(hK:X.K=K:=by rfl):OpR X (compareOp .NotEq) (J9 K true):=by
 subst hK;intro pins s σ H x y u v Q I rx ry h;obtain⟨ds,ds',h1,h2,p1,p2,hu,q⟩:=h;exact Ir pins s σ H x y u v Q I rx ry ⟨ds,ds',h1,h2,p1,p2,by have:=hr.units;lia,q⟩
end
end L2
namespace Fr
open L2
def cp(t b:Int):Int:=((Int.gcd t b:Nat):Int)
def uZ(t b:Int):Int:=if b<0 then -cp t b else cp t b
def top(t b:Int):Int:=t.fdiv (uZ t b)
def bot(t b:Int):Int:=b.fdiv (uZ t b)
theorem Eg(a b:Int):Int.gcd b (a.fmod b)=Int.gcd a b:=by
 rw[gJ,Int.gcd_sub_mul_left_right,Int.gcd_comm]
theorem BF(a b:Int)(h:b≠0):(a.fmod b).natAbs<b.natAbs:=by
 rcases e9 h with hb|hb
 ·have h1:=g8 (-a) (b:=-b) ();have h2:=gI (-a) (b:=-b) ();have e:(-a).fmod (-b) = -(a.fmod b):=by
   rw[gJ,gJ,Int.neg_fdiv_neg,Int.neg_mul];lia
  lia
 ·have h1:=g8 a hb;have h2:=gI a hb;lia
theorem uQ(h:b≠0):0<cp t b:=by
 unfold cp;have:0<Int.gcd t b:=e8 (by rw[Ne,gY];exact λz=>h z.2);lia
theorem KN(h:b≠0):(cp t b).natAbs<=b.natAbs:=by
 unfold cp;rw[bc];exact cw () (hJ _ _)
theorem Bj(h:b≠0):uZ t b≠0:=by
 have:=uQ (t:=t) h;unfold uZ;split <;> lia
theorem Bm(h:b≠0):(uZ t b).natAbs<=b.natAbs:=by
 have:=KN (t:=t) h;unfold uZ;split
 ·rw[gx];exact this
 ·exact this
theorem of{p t' b':Int}(hp:p≠0)(hb:0<b')(hc:Int.gcd t' b'=1):top (p*t') (p*b')=t'/\bot (p*t') (p*b')=b':=by
 have e:uZ (p*t') (p*b')=p:=by
  unfold uZ cp;rw[Int.gcd_mul_left,hc,dQ];rcases e9 hp with h|h
  ·rw[if_pos (Int.mul_neg_of_neg_of_pos h hb)];lia
  ·rw[if_neg (Int.not_lt.mpr (Int.le_of_lt (ay h hb)))];lia
 unfold top bot;rw[e];exact⟨cy _ hp,cy _ hp⟩
theorem ex(h:b≠0):∃ p t' b',p≠0/\0<b'/\Int.gcd t' b'=1/\t=p*t'/\b=p*b':=by
 have g0:0<Int.gcd t b:=e8 (by rw[Ne,gY];exact λz=>h z.2);obtain⟨t1,e1⟩:=Int.gcd_dvd_left t b;obtain⟨b1,e2⟩:=ig t b;have hc:Int.gcd t1 b1=1:=by
  have q:Int.gcd ((Int.gcd t b:Int)*t1) ((Int.gcd t b:Int)*b1)=Int.gcd t b:=by rw[← e1,← e2]
  rw[Int.gcd_mul_left,bc] at q;exact gz g0 ()
 have g1:(0:Int)<(Int.gcd t b:Int):=by lia
 by_cases hb:b<0
 ·refine⟨-(Int.gcd t b:Int),-t1,-b1,(),?_,by rw[Int.gcd_neg,Int.neg_gcd];exact hc,by rw[Int.neg_mul_neg];exact e1,by rw[Int.neg_mul_neg];exact e2⟩;rcases dX b1 0 with z|z|z
  ·lia
  ·rw[z,bP] at e2;lia
  ·have:=ay g1 z;lia
 ·refine⟨(Int.gcd t b:Int),t1,b1,(),?_,hc,e1,e2⟩;rcases dX b1 0 with z|z|z
  ·have:=dO g1 z;lia
  ·rw[z,bP] at e2;lia
  ·exact z
theorem Gy(h:b≠0)(hq:q≠0):top (t*q) (b*q)=top t b/\bot (t*q) (b*q)=bot t b:=by
 obtain⟨p,t',b',hp,hb,hc,rfl,rfl⟩:=ex (t:=t) h;have e:=of hp hb hc;rw[e.1,e.2];have m1:p*t'*q=(p*q)*t':=by rw[bC,bo t' q,bC]
 have m2:p*b'*q=(p*q)*b':=by rw[bC,bo b' q,bC]
 rw[m1,m2];exact of (bh hp hq) hb hc
theorem low(h:b≠0):0<bot t b/\top t b*b=t*bot t b/\Int.gcd (top t b) (bot t b)=1:=by
 obtain⟨p,t',b',hp,hb,hc,rfl,rfl⟩:=ex (t:=t) h;have e:=of hp hb hc;rw[e.1,e.2];refine⟨hb,?_,hc⟩;rw[Int.mul_left_comm,bC]
theorem C4(h:b≠0):(top t b).natAbs<=t.natAbs/\(bot t b).natAbs<=b.natAbs:=by
 obtain⟨p,t',b',hp,hb,hc,rfl,rfl⟩:=ex (t:=t) h;have e:=of hp hb hc;rw[e.1,e.2,aT,aT];have:0<p.natAbs:=by lia
 exact⟨aO _ this,aO _ this⟩
theorem self(hb:0<b)(hc:Int.gcd t b=1):top t b=t/\bot t b=b:=by
 have:=of (p:=1) (t':=t) (b':=b) (by decide) hb hc;rw[bK,bK] at this;exact this
theorem uniq(hb:b≠0)(hd:0<d)(hc:Int.gcd c d=1)(h:t*d=c*b):top t b=c/\bot t b=d:=by
 have e1:=Gy (t:=t) (b:=b) (q:=d) hb ();have e2:=Gy (t:=c) (b:=d) (q:=b) () hb;have e3:=self hd hc;rw[h,bo b d,e2.1,e2.2,e3.1,e3.2] at e1;exact⟨e1.1.symm,e1.2.symm⟩
end Fr
namespace L2
open PySem PySem.Spec PyProof.Rows
def JE(K:Frag)(H:Hp)(x:V)(t:Value):Prop:=TyOf K H x t\/(∃ a xs,x = .ref a/\SqT K H a xs/\t = .type "tuple")\/(∃ a xs,x = .ref a/\SqL K H a xs/\t = .type "list")
section
variable{X:Cx}{pins:List (Addr×Obj)}{σ:St}{H:Hp}{s:Shared}{A:Around}{E:Value->Shared->Prop}{Q:Value->Shared->Prop}
theorem IQ(I:Inv X pins σ H s)(rx:RelV x u)(ty:JE X.K H x t)(e:PySem.W.kitOne X.K t c=some b)(h:∀ tk,Q (.bool b) { s with toks:=tk }) :
  wpAny (model X.prog X.w) A (call (.builtin "isinstance") [u,c]) Q E s:=by
 rcases ty with ty|⟨a,xs,rfl,hq,rfl⟩|⟨a,xs,rfl,hq,rfl⟩
 ·exact Cy I rx ty e h
 ·cases rx;obtain⟨its,rv,p,_⟩:=I.tuple hq;obtain⟨o,ho,hc,_⟩:=p;exact PySem.W.kia_one PySem.W.kitx_tuple I.kIn ⟨o,ho,hc⟩ e (λz=>nomatch z) h
 ·cases rx;obtain⟨its,rv,p,_⟩:=I.list hq;obtain⟨o,ho,hc,_⟩:=p.isList;exact PySem.W.kia_one PySem.W.kitx_list I.kIn ⟨o,ho,hc⟩ e (λz=>nomatch z) h
theorem F4(I:Inv X pins σ H s)(rx:RelV x u)(ty:JE X.K H x t)(hs:∀ C,t ≠ .ref C)
  (htp:s.heap.get? tp=some ⟨.type "tuple",dd,.seq its.toArray n,sl⟩) (e:PySem.W.kitAny X.K t its=some b) (h:∀ tk,Q (.bool b) { s with toks:=tk }) :
  wpAny (model X.prog X.w) A (call (.builtin "isinstance") [u,.ref tp]) Q E s:=by
 rcases ty with ty|⟨a,xs,rfl,hq,rfl⟩|⟨a,xs,rfl,hq,rfl⟩
 ·cases ty with
  | non=>cases (show u=Value.none from rx);exact PySem.W.kia_tup PySem.W.kitx_none I.kIn True.intro htp e (λz=>nomatch z) h
  | bl y=>cases (show u=Value.bool y from rx);exact PySem.W.kia_tup PySem.W.kitx_bool I.kIn True.intro htp e (λz=>nomatch z) h
  | int i=>obtain⟨t,q⟩:=(show ∃ t,u=Value.int i t from rx);cases q;exact PySem.W.kia_tup PySem.W.kitx_int I.kIn True.intro htp e (λz=>nomatch z) h
  | str y=>obtain⟨t,q⟩:=(show ∃ t,u=Value.str y t from rx);cases q;exact PySem.W.kia_tup PySem.W.kitx_str I.kIn True.intro htp e (λz=>nomatch z) h
  | flt y=>obtain⟨t,q⟩:=(show ∃ t,u=Value.float y t from rx);cases q;exact PySem.W.kia_tup PySem.W.kitx_float I.kIn True.intro htp e (λz=>nomatch z) h
  | @lst a xs ea =>
   cases (show u=Value.ref a from rx);obtain⟨_,_,n,_,h1⟩:=(show ObjOk X.prog X.w H s.heap a (.lst xs) from I.hok a _ ea);exact PySem.W.kia_tup PySem.W.kitx_list I.kIn ⟨_,h1,rfl⟩ htp e (λz=>nomatch z) h
  | @frz a ob xs ea =>
   cases (show u=Value.ref a from rx);obtain⟨q1,_,_,n,_,h1⟩:=(show ObjOk X.prog X.w H s.heap a (.frz ob (.lst xs)) from I.hok a _ ea);exact PySem.W.kia_tup PySem.W.kitx_list I.kIn ⟨_,h1,rfl⟩ htp e (λz=>nomatch z) h
  | @tup a xs ea =>
   cases (show u=Value.ref a from rx);obtain⟨its',rv,p,_⟩:=I.tuple (SqT.of ea);obtain⟨o,ho,hc,_⟩:=p;exact PySem.W.kia_tup PySem.W.kitx_tuple I.kIn ⟨o,ho,hc⟩ htp e (λz=>nomatch z) h
  | @dK a kvs ea =>
   cases (show u=Value.ref a from rx);obtain⟨_,_,vs,_,p⟩:=(show ObjOk X.prog X.w H s.heap a (.dK kvs) from I.hok a _ ea);obtain⟨o,es,ep,h1,h2,_⟩:=p;exact PySem.W.kia_tup PySem.W.kitx_dict I.kIn ⟨o,h1,h2.1⟩ htp e (λz=>nomatch z) h
  | @dT a kvs ea =>
   cases (show u=Value.ref a from rx);obtain⟨_,_,xs,_,o,es,ep,h1,h2,_⟩:=(show ObjOk X.prog X.w H s.heap a (.dT kvs) from I.hok a _ ea);exact PySem.W.kia_tup PySem.W.kitx_dict I.kIn ⟨o,h1,h2.1⟩ htp e (λz=>nomatch z) h
  | ins=>exact absurd rfl (hs _)
 ·cases rx;obtain⟨its',rv,p,_⟩:=I.tuple hq;obtain⟨o,ho,hc,_⟩:=p;exact PySem.W.kia_tup PySem.W.kitx_tuple I.kIn ⟨o,ho,hc⟩ htp e (λz=>nomatch z) h
 ·cases rx;obtain⟨its',rv,p,_⟩:=I.list hq;obtain⟨o,ho,hc,_⟩:=p.isList;exact PySem.W.kia_tup PySem.W.kitx_list I.kIn ⟨o,ho,hc⟩ htp e (λz=>nomatch z) h
end
section
variable{X:Cx}
theorem JA(K:Frag)(hK:X.K=K:=by rfl):CallR X (.builtin "isinstance") (λxs H Q=>∃ x n t b,xs=[x,.ty n]/\JE K H x t/\PySem.W.kitOne K t (.type n)=some b/\Q (.bl b) H):=by
 subst hK;intro pins s σ H xs us Q I rv h;obtain⟨x,n,t,b,rfl,ty,e,q⟩:=h;obtain⟨u,v,rfl,r1,r2⟩:=rv.two;cases r2;exact IQ I r1 ty e λtk=>⟨.bl b,H,I.tok tk,rfl,q⟩
theorem A7:∀{ns:List String} {us:List Value},Vals (ns.map V.ty) us->us=ns.map Value.type
 | [],_,.nil=>rfl
 | n::ns,_,.cons r t=>by
  have r':_=Value.type n:=r;rw[r',A7 t];rfl
theorem Mf(K:Frag)(hK:X.K=K:=by rfl):CallR X (.builtin "isinstance") (λxs H Q=>∃ x tp t b,∃ ns:List String,xs=[x,.ref tp]/\JE K H x t/\(∀ C,t ≠ .ref C)/\H tp=some (.tup (ns.map V.ty))/\PySem.W.kitAny K t (ns.map Value.type)=some b/\Q (.bl b) H):=by
 subst hK;intro pins s σ H xs us Q I rv h;obtain⟨x,tp,t,b,ns,rfl,ty,hs,htp,e,q⟩:=h;obtain⟨u,v,rfl,r1,r2⟩:=rv.two;cases r2;obtain⟨its,rv',p,_⟩:=I.tuple (SqT.of htp);obtain⟨⟨cl,dd,dt,sl⟩,ho,hc,n,hd⟩:=p;have hc':cl = .type "tuple" := hc;have hd':dt = .seq its.toArray n:=hd;subst hc' hd';refine F4 I r1 ty hs ho ?_ λtk=>⟨.bl b,H,I.tok tk,rfl,q⟩;rw[A7 rv'];exact e
theorem MJ(K:Frag)(hK:X.K=K:=by rfl):IxR X (Lc K):=hK ▸ ix_seq
end
mutual
def DV.wd:DV->Nat
 | .tup ds=>max ds.length (DV.wds ds)
 | .lst ds=>max ds.length (DV.wds ds)
 | _=>0
def DV.wds:List DV->Nat
 | []=>0
 | d::ds=>max (DV.wd d) (DV.wds ds)
end
theorem A6:∀{ds:List DV} {d:DV},d∈ds->d.wd<=DV.wds ds/\d.dp<=DV.dps ds
 | [],_,h=>absurd h aX
 | e::ds,d,h=>by
  unfold DV.wds DV.dps;rcases au.mp h with rfl|h
  ·exact⟨Nat.le_max_left _ _,Nat.le_max_left _ _⟩
  ·have:=A6 h;lia
theorem Reps.get{K:Frag}{H:Hp}:∀{ds:List DV} {vs:List V} {i:Nat} {v:V},Reps K H ds vs->vs[i]? = some v->∃ d,ds[i]? = some d/\Rep K H d v
 | [],vs,i,v,h,e=>by
  unfold Reps at h;subst h;simp at e
 | d::ds,vs,i,v,h,e=>by
  unfold Reps at h;obtain⟨v',r,rfl,h1,h2⟩:=h;cases i with
  | zero =>
   simp at e;subst e;exact⟨d,rfl,h1⟩
  | succ i =>
   simp at e;obtain⟨d',a,b⟩:=Reps.get h2 e;exact⟨d',by simpa using a,b⟩
def SqX(K:Frag)(tt:String)(H:Hp)(a:Addr)(xs:List V):Prop:=(tt = "tuple" /\ SqT K H a xs)\/(tt = "list" /\ SqL K H a xs)
theorem SqX.same{K:Frag}{tt:String}{H H':Hp}{a:Addr}{xs:List V}(h:SqX K tt H a xs)(e:Same H H'):SqX K tt H' a xs:=h.imp (λz=>⟨z.1,z.2.same e⟩) λz=>⟨z.1,e.seq z.2⟩
theorem SqX.len{K:Frag}{tt:String}{H:Hp}{a:Addr}{xs:List V}(h:SqX K tt H a xs):SqL K H a xs\/SqT K H a xs:=h.elim (λz=>.inr z.2) λz=>.inl z.2
theorem SqX.ty{K:Frag}{tt:String}{H:Hp}{a:Addr}{xs:List V}(h:SqX K tt H a xs):JE K H (.ref a) (.type tt):=h.elim (λz=>.inr (.inl ⟨a,xs,rfl,z.2,by rw[z.1]⟩)) λz=>.inr (.inr ⟨a,xs,rfl,z.2,by rw[z.1]⟩)
theorem SqX.ix{K:Frag}{tt:String}{H:Hp}{a:Addr}{xs:List V}{i:Int}{v:V}{Q:VK}(h:SqX K tt H a xs)(e:wl xs i=some v)(q:Q v H):Lc K (.ref a) (.int i) H Q :=
 h.elim (λz=>.inr (.inl ⟨a,xs,i,v,rfl,rfl,z.2,e,q⟩)) λz=>.inl ⟨a,xs,i,v,rfl,rfl,z.2,e,q⟩
theorem SqX.kit{K:Frag}{tt:String}{H:Hp}{a:Addr}{xs:List V}(h:SqX K tt H a xs):PySem.W.kitAny K (.type tt) [.type "list",.type "tuple"]=some true/\(∃ b,PySem.W.kitOne K (.type tt) (.type "list")=some b)/\∃ b,PySem.W.kitOne K (.type tt) (.type "tuple")=some b:=by
 rcases h with⟨rfl,_⟩|⟨rfl,_⟩
 ·exact⟨rfl,⟨_,rfl⟩,⟨_,rfl⟩⟩
 ·exact⟨rfl,⟨_,rfl⟩,⟨_,rfl⟩⟩
def MA(K:Frag)(x:V):Prop:=∃ t bb,(∀ H,JE K H x t)/\(∀ C,t ≠ .ref C)/\PySem.W.kitAny K t [.type "list",.type "tuple"]=some false/\PySem.W.kitOne K t (.type "bool")=some bb/\HK x x=true
theorem B4{K:Frag}{H:Hp}{d:DV}{x y:V}(hx:Rep K H d x)(hy:Rep K H d y):(x=y/\MA K x) \/
  ∃ tt a a' xs ys ds,x = .ref a/\y = .ref a'/\SqX K tt H a xs/\SqX K tt H a' ys/\Reps K H ds xs/\Reps K H ds ys/\d.dp=DV.dps ds+1/\DV.wds ds<=d.wd/\ds.length<=d.wd:=by
 cases d with
 | int i=>unfold Rep at hx hy;subst hx hy;exact .inl ⟨rfl,.type "int",false,λH=>.inl (.int _),nofun,rfl,rfl,rfl⟩
 | str i=>unfold Rep at hx hy;subst hx hy;exact .inl ⟨rfl,.type "str",false,λH=>.inl (.str _),nofun,rfl,rfl,rfl⟩
 | non=>unfold Rep at hx hy;subst hx hy;exact .inl ⟨rfl,.type "NoneType",false,λH=>.inl .non,nofun,rfl,rfl,rfl⟩
 | bl i=>unfold Rep at hx hy;subst hx hy;exact .inl ⟨rfl,.type "bool",true,λH=>.inl (.bl _),nofun,rfl,rfl,rfl⟩
 | tup ds =>
  unfold Rep at hx hy;obtain⟨a,xs,rfl,h1,h2⟩:=hx;obtain⟨a',ys,rfl,h1',h2'⟩:=hy;exact .inr ⟨"tuple",a,a',xs,ys,ds,rfl,rfl,.inl ⟨rfl,h1⟩,.inl ⟨rfl,h1'⟩,h2,h2',by rw[DV.dp],by rw[DV.wd];lia,by rw[DV.wd];lia⟩
 | lst ds =>
  unfold Rep at hx hy;obtain⟨a,xs,rfl,h1,h2⟩:=hx;obtain⟨a',ys,rfl,h1',h2'⟩:=hy;exact .inr ⟨"list",a,a',xs,ys,ds,rfl,rfl,.inr ⟨rfl,h1⟩,.inr ⟨rfl,h1'⟩,h2,h2',by rw[DV.dp],by rw[DV.wd];lia,by rw[DV.wd];lia⟩
section
variable{X:Cx}
def Mh(K:Frag)(tl:TE):TI:=λσ H R=>tl σ H λx H1=>∃ a,x = .ref a/\(((∃ xs,SqL K H1 a xs)/\R (M5 K a) H1)\/((∃ xs,SqT K H1 a xs)/\R (M1 K a) H1))
theorem Nl(K:Frag)(hl:PE X l tl)(hK:X.K=K:=by rfl):PI X tg l (Mh K tl):=by
 subst hK;intro pins s σ H R I h;refine sS (hl pins s σ H _ I h) λv s1 ⟨x,H1,I1,r1,q1⟩=>?_;obtain⟨a,e,q1⟩:=q1;subst e;cases r1;have fp1:∀ b∈[s1.heap.objs.size],uC X pins H1 b:=λb hb=>by
  have e:b=s1.heap.objs.size:=by simpa using hb
  subst e;exact I1.fpOk (af _) (I1.hok.fresh (af _))
 rcases q1 with⟨⟨xs,hq⟩,q⟩|⟨⟨xs,hq⟩,q⟩
 ·obtain⟨its,rv,p,hz⟩:=I1.list hq;exact wpAny_pyIter_list p.isList ⟨s1.heap.objs.size,[s1.heap.objs.size],_,_,H1,rfl,I1.kept (t':=s1.toks) λb o e=>ηH _ e,BW a _,⟨_,ηG _ rfl,rfl,rfl⟩,fp1,q⟩
 ·obtain⟨its,rv,p,hz⟩:=I1.tuple hq;exact wpAny_pyIter_tuple (show s1.heap.IsTuple a its.toArray from p) ⟨s1.heap.objs.size,[s1.heap.objs.size],_,_,H1,rfl,I1.kept (t':=s1.toks) λb o e=>ηH _ e,Ac a _,⟨_,ηG _ rfl,rfl,rfl⟩,fp1,q⟩
def Kb(K:Frag):R2:=λx y H Q=>∃ a b ys,x = .ref a/\y = .ref b/\SqT K H a []/\SqT K H b ys/\Q (.ref b) H
theorem KQ(K:Frag)(hK:X.K=K:=by rfl):OpR X (binaryOp .Add) (Kb K):=by
 subst hK;intro pins s σ H x y u v Q I rx ry h;obtain⟨a,b,ys,rfl,rfl,h1,h2,q⟩:=h;cases rx;cases ry;obtain⟨its,rv,p,_⟩:=I.tuple h1;obtain⟨its2,rv2,p2,_⟩:=I.tuple h2;cases rv;obtain⟨⟨cls,dd,data,sl⟩,ho,hc,n,hd⟩:=id p;obtain⟨⟨cls2,dd2,data2,sl2⟩,ho2,hc2,n2,hd2⟩:=id p2;simp only at hc hd hc2 hd2;subst hc hd hc2 hd2;exact concat_meets ⟨_,ho,rfl⟩ ⟨_,ho2,rfl⟩ noFill_tuple_add seq_tuple_add PySem.F.slot_tuple_add PySem.F.entry_tuple_add (PySem.F.args_tuple_add_2 _ _)
  (tuple_addW0 a b ([]:List Value).toArray its2.toArray n n2 dd dd2 sl sl2 (by simp)) ⟨ho,ho2,⟨.ref b,H,I,rfl,q⟩⟩
def GH(K:Frag)(neg:Bool):R2:=λx y H Q=>∃ ds ds',Rep K H (.lst ds) x/\Rep K H (.lst ds') y/\DV.pls ds=true/\DV.pls ds'=true/\DV.dps ds<=60/\∀ b,(b=true↔ds=ds')->Q (.bl (if neg then !b else b)) H
theorem Mm(K:Frag)(hr:Room k X.A)(hK:X.K=K:=by rfl):OpR X (compareOp .Eq) (GH K false):=by
 subst hK;intro pins s σ H x y u v Q I rx ry h;obtain⟨ds,ds',h1,h2,p1,p2,hu,q⟩:=h;have hun:=hr.units;unfold Rep at h1 h2;obtain⟨a,vs,rfl,t1,r1⟩:=h1;obtain⟨a',vs',rfl,t2,r2⟩:=h2;cases rx;cases ry;obtain⟨its,rv,p,_⟩:=I.list t1;obtain⟨its',rv',p',_⟩:=I.list t2;obtain⟨f,hf,hi⟩:=AI I ds ds' X.A.in1 r1 r2 rv rv' p1 p2 (by show X.A.units+1+_+1<_;lia);by_cases hz:its.length=its'.length
 ·refine SeqAt.RcAt.lists p.isList p'.isList (by simpa using hz) () (e:=f) (λj h1 h2=>?_) _ _ _ _ ⟨.bl _,H,I,rfl,q _ ?_⟩
  ·have q:=hf j (by simpa using h1) (by simpa using h2);simpa using q
  ·simp only[ao];rw[ym hz] at hi;exact hi
 ·refine SeqAt.RcAt.lists_lengths p.isList p'.isList (by simpa using hz) () _ _ _ _ ⟨.bl false,H,I,rfl,q false ?_⟩;simp only[df,false_iff];intro z;have l1:=r1.length;have l2:=r2.length;rw[z] at l1;exact hz (by rw[← rv.length,← rv'.length,← l1,← l2])
theorem Mb(K:Frag)(hr:Room k X.A)(hK:X.K=K:=by rfl):OpR X (compareOp .NotEq) (GH K true):=by
 subst hK;intro pins s σ H x y u v Q I rx ry h;obtain⟨ds,ds',h1,h2,p1,p2,hu,q⟩:=h;have hun:=hr.units;unfold Rep at h1 h2;obtain⟨a,vs,rfl,t1,r1⟩:=h1;obtain⟨a',vs',rfl,t2,r2⟩:=h2;cases rx;cases ry;obtain⟨its,rv,p,_⟩:=I.list t1;obtain⟨its',rv',p',_⟩:=I.list t2;obtain⟨f,hf,hi⟩:=AI I ds ds' X.A.in1 r1 r2 rv rv' p1 p2 (by show X.A.units+1+_+1<_;lia);by_cases hz:its.length=its'.length
 ·refine SeqAt.RcNeAt.lists p.isList p'.isList (by simpa using hz) () (e:=f) (λj h1 h2=>?_) _ _ _ _ ⟨.bl _,H,I,rfl,q _ ?_⟩
  ·have q:=hf j (by simpa using h1) (by simpa using h2);simpa using q
  ·simp only[ao];rw[ym hz] at hi;exact hi
 ·refine SeqAt.RcNeAt.lists_lengths p.isList p'.isList (by simpa using hz) () _ _ _ _ ⟨.bl true,H,I,rfl,q false ?_⟩;simp only[df,false_iff];intro z;have l1:=r1.length;have l2:=r2.length;rw[z] at l1;exact hz (by rw[← rv.length,← rv'.length,← l1,← l2])
end
end L2
namespace Po
open L2
def gl(b:Nat)(ts:List Int):Nat:=ts.foldl (λg t=>Nat.gcd g t.natAbs) b
theorem IS(ts:List Int):gl 1 ts=1:=by
 induction ts with
 | nil=>rfl
 | cons t ts ih =>
  show gl (Nat.gcd 1 t.natAbs) ts=1;rw[Nat.gcd_one_left];exact ih
theorem wU:∀(ts:List Int) (b:Nat),gl b ts∣b/\∀ t∈ts,gl b ts∣t.natAbs
 | [],b=>⟨Nat.dvd_refl b,λt ht=>absurd ht aX⟩
 | t::ts,b=>by
  have ih:=wU ts (Nat.gcd b t.natAbs);refine⟨Nat.dvd_trans ih.1 (Nat.gcd_dvd_left _ _),λu hu=>?_⟩;rcases au.mp hu with rfl|hu
  ·exact Nat.dvd_trans ih.1 (hJ _ _)
  ·exact ih.2 u hu
theorem AM{c d:Nat}:∀(ts:List Int) (b:Nat),d∣c*b->(∀ t∈ts,d∣c*t.natAbs)->d∣c*gl b ts
 | [],b,h,_=>h
 | t::ts,b,h,ht=>by
  refine AM ts (Nat.gcd b t.natAbs) ?_ λu hu=>ht u (aC _ hu);rw[← Nat.gcd_mul_left];exact Nat.dvd_gcd h (ht t aG)
structure Fm (P:List Int)(B:Int):Prop where
 pos:0<B
 last:P=[]\/P.getD (P.length-1) 0≠0
 gcd:gl B.natAbs P=1
theorem getD_mem{P:List Int}{t:Int}(h:t∈P):∃ k,P.getD k 0=t:=by
 obtain⟨k,hk,e⟩:=List.getElem_of_mem h;exact⟨k,by simp[List.getD,hk,e]⟩
theorem yz{P P':List Int}{B B':Int}(F:Fm P B)(h:∀ k,P.getD k 0*B'=P'.getD k 0*B):B.natAbs∣B'.natAbs:=by
 have q:=AM (c:=B'.natAbs) (d:=B.natAbs) P B.natAbs (ez _ _) λt ht=>by
  obtain⟨k,rfl⟩:=getD_mem ht;have e:=congrArg Int.natAbs (h k);rw[aT,aT] at e;rw[aU,e];exact ez _ _
 rw[F.gcd,dQ] at q;exact q
theorem D4{P P':List Int}(l:P=[]\/P.getD (P.length-1) 0≠0)(h:∀ k,P.getD k 0=P'.getD k 0):P.length<=P'.length:=by
 rcases l with rfl|l
 ·exact aB _
 ·rcases aw P'.length P.length with z|z
  ·refine absurd ?_ l;rw[h,ac,bt ()];rfl
  ·exact z
theorem uniq(F:Fm P B)(F':Fm P' B')(h:∀ k,P.getD k 0*B'=P'.getD k 0*B):P=P'/\B=B':=by
 have d1:=yz F h;have d2:=yz F' λk=>(h k).symm;have e:=Nat.dvd_antisymm d1 d2;have p1:=F.pos;have p2:=F'.pos;have eB:B=B':=by lia
 subst eB;have hk:∀ k,P.getD k 0=P'.getD k 0:=λk=>av () (h k);have l1:=D4 F.last hk;have l2:=D4 F'.last λk=>(hk k).symm;refine⟨ia () λk h1 h2=>?_,rfl⟩;have q:=hk k;simp[List.getD,h1,h2] at q;exact q
theorem Ee(g:Nat):∀(ts:List Int) (b:Nat),gl (g*b) (ts.map λt=>(g:Int)*t)=g*gl b ts
 | [],b=>rfl
 | t::ts,b=>by
  show gl (Nat.gcd (g*b) ((g:Int)*t).natAbs) (ts.map λt=>(g:Int)*t)=g*gl (Nat.gcd b t.natAbs) ts;rw[aT,bc,Nat.gcd_mul_left];exact Ee g ts _
theorem AF(h:0<b)(ts:List Int):0<gl b ts:=Nat.pos_of_dvd_of_pos (wU ts b).1 h
theorem form{ts:List Int}{b:Int}{m:Nat}(hb:0<b)(hm:m<=ts.length)(h0:∀ j,m<=j->ts.getD j 0=0)(hl:m=0\/ts.getD (m-1) 0≠0) :
  Fm ((ts.take m).map λt=>t.fdiv ((gl b.natAbs (ts.take m):Nat):Int)) (b.fdiv ((gl b.natAbs (ts.take m):Nat):Int)) /\
  (∀ k,((ts.take m).map λt=>t.fdiv ((gl b.natAbs (ts.take m):Nat):Int)).getD k 0*b=ts.getD k 0*(b.fdiv ((gl b.natAbs (ts.take m):Nat):Int))):=by
 have g0:0<gl b.natAbs (ts.take m):=AF () _;have gd:=wU (ts.take m) b.natAbs;generalize hg:gl b.natAbs (ts.take m)=g at *;have gi:(g:Int)≠0:=by lia
 have ex:∀ t:Int,g∣t.natAbs->t=(g:Int)*t.fdiv (g:Int):=λt ht=>by
  obtain⟨c,e⟩:(g:Int)∣t:=by first|exact Int.ofNat_dvd_left.mpr ht|exact bq.mp (by rw[bc];exact ht)
  rw[e,cy _ gi]
 have eb:=ex b gd.1;have et:ts.take m=((ts.take m).map λt=>t.fdiv (g:Int)).map λt=>(g:Int)*t:=by
  rw[List.map_map];refine (List.map_id (ts.take m)).symm.trans (List.map_congr_left λt ht=>?_);exact ex t (gd.2 t ht)
 have bp:0<b.fdiv (g:Int):=by
  rcases dX (b.fdiv (g:Int)) 0 with z|z|z
  ·have:=dO (show (0:Int)<(g:Int) by lia) z;lia
  ·rw[z,bP] at eb;lia
  ·exact z
 have kk:∀ k,((ts.take m).map λt=>t.fdiv (g:Int)).getD k 0*(g:Int)=ts.getD k 0:=λk=>by
  by_cases hk:k<m
  ·have h1:k<(ts.take m).length:=by rw[bg];lia
   have h2:k<ts.length:=by lia
   have e1:((ts.take m).map λt=>t.fdiv (g:Int)).getD k 0=(ts[k]).fdiv (g:Int):=by
    rw[ac,aR,dW hk,aq h2];rfl
   have e2:ts.getD k 0=ts[k]:=by rw[ac,aq h2];rfl
   have mem:ts[k]∈ts.take m:=by
    refine aL (i:=k) ?_;rw[dW hk,aq h2]
   rw[e1,e2,bo];exact (ex _ (gd.2 _ mem)).symm
  ·rw[h0 k (),ac,bt (by rw[aa,bg];lia)];exact ax _
 refine⟨⟨bp,?_,?_⟩,λk=>?_⟩
 ·have hlen:((ts.take m).map λt=>t.fdiv (g:Int)).length=m:=by rw[aa,bg];lia
  rcases hl with z|z
  ·left;subst z;simp
  ·right;rw[hlen];intro c;have q:=kk (m-1);rw[c,ax] at q;exact z q.symm
 ·have q:=Ee g ((ts.take m).map λt=>t.fdiv (g:Int)) (b.fdiv (g:Int)).natAbs;rw[← et] at q;have e:g*(b.fdiv (g:Int)).natAbs=b.natAbs:=by
   conv=>rhs;rw[eb,aT,bc]
  rw[e,hg] at q;exact gz g0 ()
 ·rw[← kk k,bC,← eb]
end Po
namespace L2
open PySem PySem.Spec PyProof.Rows
section
variable{X:Cx}
theorem uT:∀{ns:List Int} {us:List Value},Vals (ns.map V.int) us->∃ xs:List (Int×Tok),us=xs.map (λp=>Value.int p.1 p.2)/\xs.map (·.1)=ns
 | [],_,.nil=>⟨[],rfl,rfl⟩
 | n::ns,_,.cons r t=>by
  obtain⟨tk,e⟩:∃ t,_=Value.int n t:=r;obtain⟨xs,e1,e2⟩:=uT t;exact⟨(n,tk)::xs,by rw[e,e1];rfl,by rw[← e2];rfl⟩
theorem Mc(K:Frag)(hc:X.calm=true:=by rfl)(hK:X.K=K:=by rfl):CallR X (.builtin "max") (λxs H Q=>∃ p,∃ ns:List Int,xs=[.ref p]/\SqL K H p (ns.map V.int)/\ns≠[]/\∀ M,M∈ns->(∀ a∈ns,a<=M)->Q (.int M) H):=by
 subst hK;intro pins s σ H xs us Q I rv h;obtain⟨p,ns,rfl,hp,hn,q⟩:=h;obtain⟨u,rfl,ru⟩:=rv.one;cases ru;obtain⟨its,rv',pl,_⟩:=I.list hp;obtain⟨ys,e1,e2⟩:=uT rv';subst e1;have hl:s.heap.IsList p (intItems ys.toArray):=by
  have:intItems ys.toArray=(ys.map (λp=>Value.int p.1 p.2)).toArray:=by simp[intItems]
  rw[this];exact pl.isList
 have hsz:0<ys.toArray.size:=by
  rcases ys with _|⟨y,ys⟩
  ·exact absurd e2.symm hn
  ·simp
 refine max_intList (I.ok.hd hc) hl hsz λv h' tk hv hk=>?_;obtain⟨t,rfl⟩:=intItems_at hv;obtain⟨h1,h2⟩:=argBest_gt (numAt ys.toArray) (ys.toArray.size-1);refine⟨.int _,H,I.kept (t':=tk) hk,⟨t,rfl⟩,q _ ?_ λa ha=>?_⟩
 ·rw[numAt_eq,← e2];exact PySem.getD_mem (by simp only[ao,aa] at *;lia)
 ·rw[← e2] at ha;obtain⟨j,hj,rfl⟩:=PySem.mem_getD ha;rw[aa] at hj;have:=h2 j (by rw[ao];lia);rw[numAt_eq] at this;exact this
end
theorem vy:∀ ts:List Int,DV.dps (ts.map DV.int)=0/\DV.wds (ts.map DV.int)=0
 | []=>by unfold DV.dps DV.wds;exact⟨rfl,rfl⟩
 | t::ts=>by
  show DV.dps (DV.int t::ts.map DV.int)=0/\DV.wds (DV.int t::ts.map DV.int)=0;unfold DV.dps DV.wds;rw[(vy ts).1,(vy ts).2];exact⟨rfl,rfl⟩
def pd(P:List Int)(B:Int):List DV:=[.tup (P.map DV.int),.int B]
def Pol(H:Hp)(v:V)(P:List Int)(B:Int):Prop:=∃ a t,v = .ref a/\H a=some (.tup [.ref t,.int B])/\H t=some (.tup (P.map V.int))
theorem Kg(P:List Int)(B:Int):(DV.tup (pd P B)).wd<=max 2 P.length/\(DV.tup (pd P B)).dp=2:=by
 unfold pd;simp[DV.wd,DV.wds,DV.dp,DV.dps,(vy P).1,(vy P).2]
theorem Jl:bootBuiltins "max" = some (.builtin "max"):=by decide +kernel
theorem Jk:bootBuiltins "min" = some (.builtin "min"):=by decide +kernel
theorem Jj:bootBuiltins "sum" = some (.builtin "sum"):=by decide +kernel
section
variable{X:Cx}{pins:List (Addr×Obj)}{σ:St}{H:Hp}{s:Shared}{h':Heap}
theorem Inv.turnedL{t':Nat}{fp:List Addr}(I:Inv X pins σ H s)(k:∀ b o,b ∉ fp->s.heap.get? b=some o->h'.get? b=some o)(hf:∀ b∈fp,uC X pins H b):Inv X pins σ H { s with heap:=h',toks:=t' }:=by
 have nit:∀ b u,H b=some u->b ∉ fp:=λb u e z=>by rw[(hf b z).1] at e;cases e
 have hL:X.env.locals ∉ fp:=λz=>(hf _ z).2.1 rfl;refine I.step (g':=s.gens) (d':=s.drawn) (ch:=fp) (λb hb=>⟨(hf b hb).2.2.2.1,(hf b hb).2.1,(hf b hb).2.2.2.2.1,(hf b hb).2.2.2.2.2⟩) (λb o _ _ hc e _=>k b o hc e) (λb o _ _ hc e _=>⟨o.slots,k b o hc e⟩) (λ_ _ _ _ n=>n)
  (λb o hc e=>⟨o,k b o hc e⟩) (λ_ _ e=>e) (λ_ _ _ e=>e) (λb ps e=>⟨#[],by rw[e];simp⟩) (λm ⟨o,es,ep,ho,r⟩=>⟨o,es,ep,k _ o hL ho,r⟩) (λb u e=>?_) I.bare
 refine (I.hok b u e).stay (λc v hc q=>k c v (hc.elim (λz=>by rw[z];exact nit b u e) λz=>nit c _ z) q) (λ_ q=>q) λ_ _ q=>q
end
section
variable{prog:Program}{w:World}{A:Around}{E:Value->Shared->Prop}{s:Shared}
theorem AA(hit:s.heap.IsTupleIter it t i)(ht:s.heap.IsTuple t items)(hx:items[i]? = some x)
  (hQ:∀ h',h'.IsTupleIter it t (i+1)->Heap.SameBut it s.heap h'->Q x { s with heap:=h' }):wpAny (model prog w) A (Builtin.SmallTypes.nextOf (.ref it)) Q E s:=by
 obtain⟨o,ho,hc,hd⟩:=id hit;obtain⟨ol,hol,_,nl,hdl⟩:=ht;unfold Builtin.SmallTypes.nextOf;refine ηB (wpAny_callSpecial?_slot (name:=Str.ofString "__next__") hit.typeIs F.slot_tuple_iterator_next (wpAny_call_entry F.slot_tuple_iterator_next hit.typeIs F.entry_tuple_iterator_next ?_ (F.args_tuple_iterator_next_1 _)));show wpAny _ _ (field (.ref it) 0 >>= _) _ _ s;refine ηB (wpAny_field ho hd (x:=.ref t) rfl ?_);show wpAny _ _ (if (Value.ref t == Value.none)=true then _ else _) _ _ s;rw[if_neg (show ¬ ((Value.ref t == Value.none)=true) from aD)];show wpAny _ _ (field (.ref it) 1 >>= _) _ _ s;refine ηB (wpAny_field ho hd (x:=.int i 0) rfl ?_);show wpAny _ _ (seqItems? (.ref t) >>= _) _ _ s;refine ηB (wpAny_seqItems hol hdl ?_);simp only[aJ,hx];refine ηB (wpAny_setField ho hd (by simp) (ηP ⟨x,rfl,ηP (hQ _ ⟨_,Heap.get?_update_self _ ho (Obj.isFreed_of_fields (Obj.data_mapFields hd _)),(Obj.cls_mapFields ..).trans hc,by rw[Obj.data_mapFields hd];simp[rawInt]⟩ (Heap.SameBut.update ..))⟩))
theorem xE(hh:A.handled=none)(hit:s.heap.IsTupleIter it t i)(ht:s.heap.IsTuple t items)(hx:items[i]? = none)
  (hE:∀ h' e,Heap.ExtBut it s.heap h'->(∃ o,h'.get? e=some o/\o.cls = .type "StopIteration")->E (.ref e) { s with heap:=h' }):wpAny (model prog w) A (Builtin.SmallTypes.nextOf (.ref it)) Q E s:=by
 obtain⟨o,ho,hc,hd⟩:=id hit;obtain⟨ol,hol,_,nl,hdl⟩:=ht;unfold Builtin.SmallTypes.nextOf;refine ηB (wpAny_callSpecial?_slot (name:=Str.ofString "__next__") hit.typeIs F.slot_tuple_iterator_next (wpAny_call_entry F.slot_tuple_iterator_next hit.typeIs F.entry_tuple_iterator_next ?_ (F.args_tuple_iterator_next_1 _)));show wpAny _ _ (field (.ref it) 0 >>= _) _ _ s;refine ηB (wpAny_field ho hd (x:=.ref t) rfl ?_);show wpAny _ _ (if (Value.ref t == Value.none)=true then _ else _) _ _ s;rw[if_neg (show ¬ ((Value.ref t == Value.none)=true) from aD)];show wpAny _ _ (field (.ref it) 1 >>= _) _ _ s;refine ηB (wpAny_field ho hd (x:=.int i 0) rfl ?_);show wpAny _ _ (seqItems? (.ref t) >>= _) _ _ s;refine ηB (wpAny_seqItems hol hdl ?_);simp only[aJ,hx];refine ηB (wpAny_rule (ηB (wpAny_setField ho hd (by simp) ?_)));show wpAny _ _ (newExc (.type "StopIteration") [] >>= _) ..;refine ηB ?_;simp only[newExc,newTuple];refine ηB (wpAny_newObj_type ?_ (by size_fits));refine ηB (m:=firstArgMember _ _) (wpAny_of_eq (a:=Value.none) (by first|rfl|(simp only[firstArgMember];rfl)) ?_);refine wpAny_newObj_type ?_ (by size_fits);simp only[raiseNew];refine ηB (wpAny_handled ?_);first|rw[show A.in1.handled=none from hh]|rw[hh]
 refine ηB (ηP (wpAny_throw ?_));exact hE _ _ (((Heap.SameBut.update ..).extBut.push _).push _) ⟨_,ηG _ rfl,rfl⟩
end
theorem Jc{prog:Program}{w:World}{A:Around}(hh:A.handled=none)(it l:Addr)(hne:l≠it)(items:Array Value):Draws prog w A it [it,l] items.size (λi v=>items[i]? = some v) (λi h=>h.IsTupleIter it l i/\h.IsTuple l items) where
 live:=λ_ _ st=>let ⟨o,ho,_⟩:=st.1;⟨o,ho⟩
 frame:=λ_ _ _ st hk=>⟨let ⟨o,ho,r⟩:=st.1;⟨o,hk it (by simp) o ho,r⟩,let ⟨o,ho,r⟩:=st.2;⟨o,hk l (by simp) o ho,r⟩⟩
 item:=λi s Q E hi st hQ=>AA st.1 st.2 (x:=items[i]) (by simp[hi]) λh' hit' hs'=>hQ _ h' s.toks (by simp[hi]) ⟨hit',let ⟨o,ho,r⟩:=st.2;⟨o,(hs'.2 l hne).trans ho,r⟩⟩ hs'
 done:=λs Q E st hE=>xE hh st.1 st.2 (by simp) hE
theorem CF(l:Addr)(items:Array Value)(n:Nat)(dct:Option Addr)(sl:Array (Option Value)) :
  Meets (Builtin.«enumerate.__new__» ⟨[.type "enumerate",.ref l],[]⟩) (λ_ R s=>s.heap.get? l=some { cls:=.type "tuple",dict:=dct,data:=.seq items n,slots:=sl } /\
   R (.ok (.ret (.ref (s.heap.push { cls:=.type "tuple_iterator",data:=.fields #[.ref l,.int 0 0] }).objs.size)))
    { s with heap:=(s.heap.push { cls:=.type "tuple_iterator",data:=.fields #[.ref l,.int 0 0] }).push { cls:=.type "enumerate",data:=.fields #[.none,.bool false,.ref s.heap.objs.size,rawInt 0,.none,.none] } }) :=
 .of_wp λprog w A R s h=>by
  obtain⟨hp,g,d,tk,os⟩:=s;obtain⟨hl,h⟩:=h;have hsub:=sub_enumerate;have hL:Heap.IsTuple (Shared.heap ⟨hp,g,d,tk,os⟩) l items:=⟨_,hl,rfl,n,rfl⟩
  wp_walk using AutoSeq1.wpAny_loadPart' hl
  refine wpAny_stack_any λst=>ηP ?_;split
  ·rename_i c _ _ _ _ _;cases (c == Value.type "enumerate") <;> (wp_walk using AutoSeq1.wpAny_loadPart' hl,wpAny_pyIter_tuple hL;exact⟨_,rfl,h⟩)
  ·wp_walk using AutoSeq1.wpAny_loadPart' hl,wpAny_pyIter_tuple hL;exact⟨_,rfl,h⟩
def Ll(Sq:Hp->List V->Prop):It:=⟨λi H=>∃ xs x,Sq H xs/\xs[i]? = some x,λi H x H'=>∃ p v,x = .ref p/\H p=none/\H'=tv H p (.tup [.int i,v])/\∀ xs,Sq H xs->xs[i]? = some v,λi H=>∃ xs,Sq H xs/\xs.length<=i⟩
theorem xO{X:Cx}{pins:List (Addr×Obj)}{σ:St}{H:Hp}{s:Shared}{h1 h2:Heap}{e it:Addr}{tk t2:Nat}{i:Nat}{x:V}{u:Value}(I:Inv X pins σ H s)(hf:∀ b∈[e,it],uC X pins H b)(le:e<s.heap.objs.size)(li:it<s.heap.objs.size)(ru:RelV x u)
  (hT:h1.get? s.heap.objs.size=some { cls:=.type "tuple",data:=.seq #[.int i tk,u] }) (hk:∀ b o,b≠e->b≠it->s.heap.get? b=some o->h1.get? b=some o) (hs:Heap.SameBut e h1 h2) :
  Inv X pins σ (tv H s.heap.objs.size (.tup [.int i,x])) { s with heap:=h2,toks:=t2 }/\∀ b∈[e,it],tv H s.heap.objs.size (.tup [.int i,x]) b=none:=by
 have lt:∀ b∈[e,it],b≠s.heap.objs.size:=λb hb=>by
  rcases au.mp hb with z|z
  ·rw[z];exact aY le
  ·rw[a8.mp z];exact aY li
 have I1:Inv X pins σ (tv H s.heap.objs.size (.tup [.int i,x])) { s with heap:=s.heap.push { cls:=.type "tuple",data:=.seq #[.int i tk,u] },toks:=t2 } :=
  I.laid (t':=t2) (λb u e=>ηH _ e) (af _) ⟨by show 2<=sizeLine;decide,[.int i tk,u],.cons ⟨tk,rfl⟩ (.cons ru .nil),⟨_,ηG _ rfl,rfl,_,rfl⟩⟩
 have nn:∀ b∈[e,it],tv H s.heap.objs.size (.tup [.int i,x]) b=none:=λb hb=>by
  rw[sB (lt b hb)];exact (hf b hb).1
 refine⟨Inv.turnedL (s:={ s with heap:=s.heap.push { cls:=.type "tuple",data:=.seq #[.int i tk,u] },toks:=t2 }) (t':=t2) (fp:=[e,it]) I1 (λb o hb q=>?_) λb hb=>⟨nn b hb,(hf b hb).2⟩,nn⟩;have be:b≠e:=λz=>hb (by simp[z]);have bi:b≠it:=λz=>hb (by simp[z]);refine (hs.2 b be).trans ?_;rcases Heap.get?_push_cases q with⟨z1,z2⟩|z
 ·rw[z1,z2];exact hT
 ·exact hk b o be bi z
theorem CG{prog:Program}{w:World}{A:Around}{E:Value->Shared->Prop}{s:Shared}{e it l:Addr}{i:Nat}{items:Array Value}{old:Value}{Q:Option Value->Shared->Prop}(hh:A.handled=none)(he:IsEnum s.heap e it i old)(hit:s.heap.IsTupleIter it l i)(hl:s.heap.IsTuple l items)
  (hx:items[i]? = none) (hQ:∀ h',Heap.ExtBut it s.heap h'->Q none { s with heap:=h' }):wpAny (model prog w) A (pyNext (.ref e)) Q E s:=by
 have hT:s.TypeIs (.ref e) "enumerate" := ⟨_,he,rfl⟩;unfold pyNext;refine ηB (wpAny_attempt (wpAny_callSpecial?_slot (name:=Str.ofString "__next__") hT F.slot_enumerate_next (wpAny_call_entry F.slot_enumerate_next hT F.entry_enumerate_next ?_ (F.args_enumerate_next_1 _))));show wpAny _ _ (field (.ref e) 2 >>= _) _ _ _;refine ηB (wpAny_field he rfl (x:=.ref it) rfl ?_);refine ηB (xE (A:=A.in1) hh hit hl hx λh' x he' hx'=>?_);obtain⟨o,ho,hc⟩:=hx';exact ηB (wpAny_isInstance (T := "StopIteration") (b:=true) ⟨o,ho,hc⟩ isSubtype_stop (ηP (hQ _ he')))
theorem AJ(hL:s.heap.IsTuple l items)
  (h:∀ h',IsEnum h' (s.heap.objs.size+1) s.heap.objs.size 0 .none->h'.IsTupleIter s.heap.objs.size l 0->h'.objs.size=s.heap.objs.size+2->(∀ b o,s.heap.get? b=some o->h'.get? b=some o)->Q (.ref (s.heap.objs.size+1)) { s with heap:=h' }) :
  wpAny (model prog w) A (call (.type "enumerate") [.ref l]) Q E s:=by
 obtain⟨⟨c,dct,dt,sl⟩,hl,hc,n,hd⟩:=hL;have hc':c = .type "tuple" := hc;have hd':dt = .seq items n:=hd;subst hc' hd';refine callType_new F.called_enumerate (by decide) (F.typeCall_enumerate_1 _) (F.newCall_enumerate_1 _) (λobj=>F.args_object_init_2 obj _) F.entry_enumerate_new (CF l items n dct sl) ⟨hl,?_⟩;have hz:(s.heap.push { cls:=.type "tuple_iterator",data:=.fields #[.ref l,.int 0 0] }).objs.size=s.heap.objs.size+1:=Heap.size_push ..;show _/\_;rw[hz];have he:IsEnum ((s.heap.push { cls:=.type "tuple_iterator",data:=.fields #[.ref l,.int 0 0] }).push { cls:=.type "enumerate",data:=.fields #[.none,.bool false,.ref s.heap.objs.size,rawInt 0,.none,.none] }) (s.heap.objs.size+1) s.heap.objs.size 0 .none:=by
  have:=ηG (s.heap.push { cls:=.type "tuple_iterator",data:=.fields #[.ref l,.int 0 0] }) (o:={ cls:=.type "enumerate",data:=.fields #[.none,.bool false,.ref s.heap.objs.size,rawInt 0,.none,.none] }) rfl;rw[hz] at this;exact this
 exact⟨⟨_,he,rfl⟩,h _ he ⟨_,ηH _ (ηG _ rfl),rfl,rfl⟩ (by rw[Heap.size_push,hz]) λb o x=>ηH _ (ηH _ x)⟩
theorem Af{P:Program}{w:World}{K:Frag}{es:List Expr}{kk:Nat}{ps:Pos}(a e it:Addr)(hei:e≠it):Turn P w K (.Tuple es kk ps) (Ll λH xs=>SqL K H a xs) [e,it] e (λi h=>(∃ old,IsEnum h e it i old)/\h.IsListIter it a i) where
 mem:=by simp
 obj:=λi h st b hb=>by
  obtain⟨⟨old,he⟩,o,ho,hc,hd⟩:=st;rcases au.mp hb with z|z
  ·rw[z];exact⟨_,he,λv q=>by cases q⟩
  ·rw[a8.mp z];exact⟨o,ho,λv q=>by rw[hd] at q;cases q⟩
 keep:=λi h h' st k=>by
  obtain⟨⟨old,he⟩,o,ho,r⟩:=st;exact⟨⟨old,k e (by simp) _ he⟩,o,k it (by simp) o ho,r⟩
 item:=by
  intro X hP hw hK hc i pins s σ H E I hf st hg;subst hP hw hK;obtain⟨xs,x,hq,hx⟩:=hg;obtain⟨its,rv,p,hz⟩:=I.list hq;obtain⟨u,hu,ru⟩:=rv.get hx;obtain⟨⟨old,he⟩,hit⟩:=st;have hl:s.heap.IsList a its.toArray:=p.isList;have hne:a≠it:=λz=>by
   obtain⟨o,ho,c,_⟩:=id hl;obtain⟨o',ho',c',_⟩:=id hit;rw[z,ho'] at ho;cases ho;rw[c'] at c;revert c;decide
  have hae:e≠a:=λz=>by
   obtain⟨o,ho,c,_⟩:=id hl;rw[← z,he] at ho;cases ho;have c':Value.type "enumerate" = Value.type _:=c;revert c';decide
  have le:e<s.heap.objs.size:=ηL he;have li:it<s.heap.objs.size:=by obtain⟨o,ho,_⟩:=id hit;exact ηL ho
  refine wpAny_pyNext_enum_itemD (Draws.list (A:=X.A.in1) (I.ok.hd hc) it a hne its.toArray) he ⟨hit,hl⟩ (by have:=(ak.mp hu).1;simpa using this) hei (by simp[hei,hae]) λy h1 tk hP ho hst hT hsz hk=>?_;have hy:its[i]? = some y:=by simpa using hP
  rw[hu] at hy;cases hy;refine⟨_,rfl,wpAny_letOwnedTupleGo_enum ho λh2 he2 hs2=>?_⟩;obtain⟨I2,n2⟩:=xO (t2:=tk+1) I hf le li ru hT hk hs2;refine⟨.ref s.heap.objs.size,_,I2,rfl,⟨_,x,rfl,I.hok.fresh (af _),rfl,λys hy=>by rw[I.list_inj hy hq];exact hx⟩,⟨⟨_,by simpa using he2⟩,?_⟩,n2⟩;obtain⟨o,ho1,r⟩:=hst.1;exact⟨o,(hs2.2 it hei.symm).trans ho1,r⟩
 done:=by
  intro X hP hw hK hc i pins s σ H E I hf st hg;subst hP hw hK;obtain⟨xs,hq,hx⟩:=hg;obtain⟨its,rv,p,hz⟩:=I.list hq;obtain⟨⟨old,he⟩,hit⟩:=st;have hl:s.heap.IsList a its.toArray:=p.isList;have hne:a≠it:=λz=>by
   obtain⟨o,ho,c,_⟩:=id hl;obtain⟨o',ho',c',_⟩:=id hit;rw[z,ho'] at ho;cases ho;rw[c'] at c;revert c;decide
  obtain⟨f0,f1,f2,f3,f4,f5⟩:=hf it (by simp);have le:=rv.length;refine wpAny_pyNext_enum_end (I.ok.hd hc) he hit hl (by simp;lia) λh' eb=>⟨rfl,I.turned (t':=s.toks) (λb o hb e=>eb b o hb e) f0 f1 f3 f4 f5⟩
 self:=λ_ _ _ _ _ st h=>by
  obtain⟨⟨old,he⟩,_⟩:=st;exact wpAny_pyIter_enum he h
theorem Ae{P:Program}{w:World}{K:Frag}{es:List Expr}{kk:Nat}{ps:Pos}(a e it:Addr)(hei:e≠it):Turn P w K (.Tuple es kk ps) (Ll λH xs=>SqT K H a xs) [e,it] e (λi h=>(∃ old,IsEnum h e it i old)/\h.IsTupleIter it a i) where
 mem:=by simp
 obj:=λi h st b hb=>by
  obtain⟨⟨old,he⟩,o,ho,hc,hd⟩:=st;rcases au.mp hb with z|z
  ·rw[z];exact⟨_,he,λv q=>by cases q⟩
  ·rw[a8.mp z];exact⟨o,ho,λv q=>by rw[hd] at q;cases q⟩
 keep:=λi h h' st k=>by
  obtain⟨⟨old,he⟩,o,ho,r⟩:=st;exact⟨⟨old,k e (by simp) _ he⟩,o,k it (by simp) o ho,r⟩
 item:=by
  intro X hP hw hK hc i pins s σ H E I hf st hg;subst hP hw hK;obtain⟨xs,x,hq,hx⟩:=hg;obtain⟨its,rv,p,hz⟩:=I.tuple hq;obtain⟨u,hu,ru⟩:=rv.get hx;obtain⟨⟨old,he⟩,hit⟩:=st;have hl:s.heap.IsTuple a its.toArray:=p;have hne:a≠it:=λz=>by
   obtain⟨o,ho,c,_⟩:=id hl;obtain⟨o',ho',c',_⟩:=id hit;rw[z,ho'] at ho;cases ho;rw[c'] at c;revert c;decide
  have hae:e≠a:=λz=>by
   obtain⟨o,ho,c,_⟩:=id hl;rw[← z,he] at ho;cases ho;have c':Value.type "enumerate" = Value.type _:=c;revert c';decide
  have le:e<s.heap.objs.size:=ηL he;have li:it<s.heap.objs.size:=by obtain⟨o,ho,_⟩:=id hit;exact ηL ho
  refine wpAny_pyNext_enum_itemD (Jc (A:=X.A.in1) (I.ok.hd hc) it a hne its.toArray) he ⟨hit,hl⟩ (by have:=(ak.mp hu).1;simpa using this) hei (by simp[hei,hae]) λy h1 tk hP ho hst hT hsz hk=>?_;have hy:its[i]? = some y:=by simpa using hP
  rw[hu] at hy;cases hy;refine⟨_,rfl,wpAny_letOwnedTupleGo_enum ho λh2 he2 hs2=>?_⟩;obtain⟨I2,n2⟩:=xO (t2:=tk+1) I hf le li ru hT hk hs2;refine⟨.ref s.heap.objs.size,_,I2,rfl,⟨_,x,rfl,I.hok.fresh (af _),rfl,λys hy=>by rw[I.tuple_inj hy hq];exact hx⟩,⟨⟨_,by simpa using he2⟩,?_⟩,n2⟩;obtain⟨o,ho1,r⟩:=hst.1;exact⟨o,(hs2.2 it hei.symm).trans ho1,r⟩
 done:=by
  intro X hP hw hK hc i pins s σ H E I hf st hg;subst hP hw hK;obtain⟨xs,hq,hx⟩:=hg;obtain⟨its,rv,p,hz⟩:=I.tuple hq;obtain⟨⟨old,he⟩,hit⟩:=st;have hl:s.heap.IsTuple a its.toArray:=p;have hne:a≠it:=λz=>by
   obtain⟨o,ho,c,_⟩:=id hl;obtain⟨o',ho',c',_⟩:=id hit;rw[z,ho'] at ho;cases ho;rw[c'] at c;revert c;decide
  obtain⟨f0,f1,f2,f3,f4,f5⟩:=hf it (by simp);have le:=rv.length;refine CG (I.ok.hd hc) he hit hl (by simp;lia) λh' eb=>⟨rfl,I.turned (t':=s.toks) (λb o hb e=>eb b o hb e) f0 f1 f3 f4 f5⟩
 self:=λ_ _ _ _ _ st h=>by
  obtain⟨⟨old,he⟩,_⟩:=st;exact wpAny_pyIter_enum he h
def Kz(K:Frag)(ta:TA):TI:=λσ H R=>ta σ H λvs H1=>∃ a,vs=[.ref a]/\(((∃ xs,SqL K H1 a xs)/\R (Ll λH xs=>SqL K H a xs) H1)\/((∃ xs,SqT K H1 a xs)/\R (Ll λH xs=>SqT K H a xs) H1))
theorem xl:bootBuiltins "enumerate" = some (.type "enumerate"):=by decide +kernel
theorem Fz(K:Frag)(hg:Gl X "enumerate")(hm:X.mg "enumerate" = none)(ha:PA X [a] ta)(hK:X.K=K:=by rfl)(hs:starEach [a] X.env=[(false,eval a X.env)]:=by rfl):PI X (.Tuple es kk ps) (.Call (.Name "enumerate" p) [a] [] pos) (Kz K ta):=by
 subst hK;intro pins s σ H R I h;refine Call_ (tV I hg hm xl (PyProof.Rows.callWith_type1 (sS (ha pos pins s σ H _ I h) λus s1 ⟨vs,H1,I1,r1,q1⟩=>?_) hs rfl));obtain⟨l,e,q1⟩:=q1;subst e;obtain⟨u,rfl,ru⟩:=Vals.one r1;cases ru;have fp1:∀{h':Heap},∀ b∈[s1.heap.objs.size+1,s1.heap.objs.size],uC X pins H1 b:=λb hb=>by
  have hb':s1.heap.objs.size<=b:=by
   rcases au.mp hb with z|z
   ·lia
   ·rw[a8.mp z];exact af _
  exact I1.fpOk hb' (I1.hok.fresh hb')
 rcases q1 with⟨⟨xs,hq⟩,q⟩|⟨⟨xs,hq⟩,q⟩
 ·obtain⟨its,rv,pl,hz⟩:=I1.list hq;refine call_enumerate_list pl.isList λh' he hit hsz hk=>?_;refine wpAny_pyIter_enum he ?_;exact⟨_,[s1.heap.objs.size+1,s1.heap.objs.size],_,_,H1,rfl,I1.kept (t':=s1.toks) hk,Af l _ _ (Nat.succ_ne_self _),⟨⟨_,he⟩,hit⟩,fp1 (h':=h'),q⟩
 ·obtain⟨its,rv,pl,hz⟩:=I1.tuple hq;refine AJ pl λh' he hit hsz hk=>?_;refine wpAny_pyIter_enum he ?_;exact⟨_,[s1.heap.objs.size+1,s1.heap.objs.size],_,_,H1,rfl,I1.kept (t':=s1.toks) hk,Ae l _ _ (Nat.succ_ne_self _),⟨⟨_,he⟩,hit⟩,fp1 (h':=h'),q⟩
theorem Mj(K:Frag)(hK:X.K=K:=by rfl):K4 X (λo i H Q=>∃ p xs v,∃ j:Nat,o = .ref p/\i = .int j/\SqL K H p xs/\xs[j]? = some v/\Q v H):=by
 subst hK;intro pins s σ H o i ov iv Q I ro ri h;obtain⟨p,xs,v,j,rfl,rfl,hq,hv,q⟩:=h;cases ro;obtain⟨t,rfl⟩:=ri;obtain⟨its,r,pl,hz⟩:=I.list hq;obtain⟨w,ew,rw'⟩:=r.get hv;have hl:=(ak.mp hv).1;have hn:=uc;exact wpAny_getItem_list pl.isList () () (by rw[aJ];simpa using ew) ⟨v,H,I,rw',q⟩
end L2
namespace HT
open PySem PyProof.Rows
variable{prog:Program}{w:World}{A:Around}{E:Value->Shared->Prop}{s:Shared}
theorem u5{t sl:Addr}{items:Array Value}{vl vu:Value}{lo hi:Option Int}{Q:Value->Shared->Prop}(ht:IsTup s.heap t items)(hs:s.heap.IsSliceOf sl vl vu .none)(pl:IsPart vl lo)(pu:IsPart vu hi)
  (hw:tx items.size 0 lo=0/\tx items.size items.size hi=items.size) (h:Q (.ref t) s):wpAny (model prog w) A (getItem (.ref t) (.ref sl)) Q E s:=by
 obtain⟨os,hos,hcs,hds⟩:=id hs;have hTs:s.TypeIs (.ref sl) "slice" := ⟨os,hos,hcs⟩;unfold getItem;try with_reducible refine wpAny_holding ?_
 first|refine ηB (ηP ?_)|skip
 refine ηB (wpAny_sequenceKey ht.typeIs (by decide) ?_);refine ηB (wpAny_callSpecial?_slot (name:=Str.ofString "__getitem__") ht.typeIs PyProof.Rows.slot_tuple_getitem (wpAny_call_entry PyProof.Rows.slot_tuple_getitem ht.typeIs entry_tuple_getitem ?_ (args_tuple_getitem _ _)));show wpAny _ _ (Builtin.Tuple.tupleItemsOf (.ref t) >>= _) _ _ s;refine ηB (tupleItemsOf_ ht ?_);refine ηB (wpAny_typeOf hTs ?_);rw[if_pos (by decide)];refine ηB (ue hs pl pu ?_);have hyes:(((tx items.size 0 lo:Nat):Int) == 0 && (1:Int) == 1 && (tx items.size items.size hi-tx items.size 0 lo) == items.size)=true:=by
  rw[hw.1,hw.2];simp
 show wpAny _ _ (if (((tx items.size 0 lo:Nat):Int) == 0 && (1:Int) == 1 && (tx items.size items.size hi-tx items.size 0 lo) == items.size)=true then _ else _) _ _ s;rw[if_pos hyes];refine ηB (m:=Builtin.Tuple.tupleIsExact _) ?_;unfold Builtin.Tuple.tupleIsExact;refine ηB (wpAny_typeOf ht.typeIs (ηP ?_));rw[if_pos (by decide)];first
  | exact ηB (wpAny_rule (ηB (ηP (ηP ⟨_,rfl,ηP h⟩))))
  | exact ηB (wpAny_rule (ηP ⟨_,rfl,ηP h⟩))
  | exact ηB (wpAny_rule (ηB (ηP ⟨_,rfl,ηP h⟩)))
end HT
namespace Po
open L2
theorem Gc{P:List Int}{f:Nat->Int}{B B':Int}(F:Fm P B)(h:∀ k,P.getD k 0*B'=f k*B):B.natAbs∣B'.natAbs:=by
 have q:=AM (c:=B'.natAbs) (d:=B.natAbs) P B.natAbs (ez _ _) λt ht=>by
  obtain⟨k,rfl⟩:=getD_mem ht;have e:=congrArg Int.natAbs (h k);rw[aT,aT] at e;rw[aU,e];exact ez _ _
 rw[F.gcd,dQ] at q;exact q
theorem size{P:List Int}{f:Nat->Int}{B b:Int}(F:Fm P B)(hb:0<b)(h:∀ k,P.getD k 0*b=f k*B):B.natAbs<=b.natAbs/\∀ k,(P.getD k 0).natAbs<=(f k).natAbs:=by
 have d:B.natAbs<=b.natAbs:=cw () (Gc F h);refine⟨d,λk=>?_⟩;have e:=congrArg Int.natAbs (h k);rw[aT,aT] at e;have:(P.getD k 0).natAbs*b.natAbs<=(f k).natAbs*b.natAbs:=by
  rw[e];exact ae _ d
 exact Nat.le_of_mul_le_mul_right this ()
end Po
namespace Cv
open L2
def sm(F:Nat->Int):Nat->Int
 | 0=>0
 | n+1=>sm F n+F n
theorem sF(h:∀ j,j<n->F j=G j):sm F n=sm G n:=by
 induction n with
 | zero=>rfl
 | succ n ih=>rw[sm,sm,ih λj hj=>h j (),h n ()]
theorem ul(h:n<=m)(z:∀ j,n<=j->j<m->F j=0):sm F m=sm F n:=by
 induction m with
 | zero=>rw[show n=0 by lia]
 | succ m ih =>
  rcases bN h with e|e
  ·rw[e]
  ·rw[sm,ih () λj a b=>z j a (),z m () (),bQ]
def cv(f g:Nat->Int)(k:Nat):Int:=sm (λj=>f j*g (k-j)) (k+1)
def tm(f g:Nat->Int)(i m:Nat):Int:=sm (λj=>if j<=m then f j*g (m-j) else 0) i
theorem uD(hf:∀ j,n<=j->f j=0):tm f g n m=cv f g m:=by
 unfold tm cv;have e1:sm (λj=>if j<=m then f j*g (m-j) else 0) (max n (m+1))=sm (λj=>if j<=m then f j*g (m-j) else 0) n:=ul () λj a b=>by
  show (if j<=m then f j*g (m-j) else 0)=0;rw[hf j a,ax];split <;> rfl
 have e2:sm (λj=>if j<=m then f j*g (m-j) else 0) (max n (m+1))=sm (λj=>if j<=m then f j*g (m-j) else 0) (m+1):=ul () λj a b=>if_neg ();rw[← e1,e2];exact sF λj hj=>if_pos ()
theorem x8(f g:Nat->Int)(i m:Nat):tm f g (i+1) m=tm f g i m+(if i<=m then f i*g (m-i) else 0):=rfl
theorem tD(hf:∀ j,a<=j->f j=0)(hg:∀ j,b<=j->g j=0)(h:a+b-1<=k):cv f g k=0:=by
 unfold cv;have:sm (λj=>f j*g (k-j)) (k+1)=sm (λj=>f j*g (k-j)) 0:=ul (aB _) λj _ hj=>by
  show f j*g (k-j)=0;rcases aw j a with c|c
  ·rw[hg (k-j) (),bP]
  ·rw[hf j c,ax]
 rw[this];rfl
theorem v5(h:∀ j,f j=0):cv f g k=0:=by
 unfold cv;have:sm (λj=>f j*g (k-j)) (k+1)=sm (λj=>f j*g (k-j)) 0:=ul (aB _) λj _ _=>by
  show f j*g (k-j)=0;rw[h j,ax]
 rw[this];rfl
theorem Ez(h:∀ j,g j=0):cv f g k=0:=by
 unfold cv;have:sm (λj=>f j*g (k-j)) (k+1)=sm (λj=>f j*g (k-j)) 0:=ul (aB _) λj _ _=>by
  show f j*g (k-j)=0;rw[h,bP]
 rw[this];rfl
theorem Bc:∀{i:Nat},i<=2^b->(∀ j,j<i->Lt2 n (F j))->(sm F i).natAbs<=i*2^n
 | 0,_,_=>by simp[sm]
 | i+1,h,hF=>by
  have ih:=Bc (b:=b) (i:=i) () λj hj=>hF j ();have h1:=hF i ();rw[sm,bj];exact Nat.le_trans (Int.natAbs_add_le ..) (Nat.add_le_add ih (Nat.le_of_lt h1))
theorem BN(hf:∀ j,Lt2 n (f j))(hg:∀ j,Lt2 m (g j))(hk:k+1<2^b):Lt2 (n+m+b) (cv f g k):=by
 have:=Bc (F:=λj=>f j*g (k-j)) (n:=n+m) (b:=b) (i:=k+1) () λj _=>(hf j).mul (hg _);unfold Lt2 cv;rw[du 2 (n+m) b];have p:0<2^(n+m):=bM (by decide);refine bJ this ?_;rw[aU];exact gr hk p
theorem sW(h:∀ j,f j=f' j)(h':∀ j,g j=g' j):cv f g k=cv f' g' k:=sF λj _=>by rw[h,h']
theorem um(F:Nat->Int)(c:Int)(n:Nat):sm (λj=>F j*c) n=sm F n*c:=by
 induction n with
 | zero=>simp[sm]
 | succ n ih=>rw[sm,sm,ih,e6]
theorem tY(f g:Nat->Int)(c:Int)(k:Nat):cv (λj=>f j*c) g k=cv f g k*c:=by
 unfold cv;rw[← um];exact sF λj _=>by grind
theorem uV(F:Nat->Int)(n:Nat):sm F (n+1)=F 0+sm (λj=>F (j+1)) n:=by
 induction n with
 | zero=>simp[sm]
 | succ n ih=>rw[sm,ih,sm];lia
theorem Da(F:Nat->Int)(n:Nat):sm F n=sm (λj=>F (n-1-j)) n:=by
 induction n generalizing F with
 | zero=>rfl
 | succ n ih =>
  rw[uV (λj=>F (n+1-1-j)) n,sm,ih F];have:sm (λj=>F (n-1-j)) n=sm (λj=>F (n+1-1-(j+1))) n:=sF λj hj=>by rw[show n+1-1-(j+1)=n-1-j by lia]
  rw[this,show n+1-1-0=n by lia];lia
theorem tL(f g:Nat->Int)(k:Nat):cv f g k=cv g f k:=by
 unfold cv;rw[Da];refine sF λj hj=>?_;rw[show k+1-1-j=k-j by lia,show k-(k-j)=j by lia,bo]
def fn(P:List Int):Nat->Int:=λj=>P.getD j 0
theorem sx(h:P.length<=j):fn P j=0:=by
 unfold fn;rw[ac,bt h];rfl
theorem Iz:Po.Fm [1] 1:=⟨by decide,.inr (by decide),by decide⟩
end Cv
namespace RV
open PySem PyProof.Rows
theorem yT:Manifest.owners.lookup (String.ofList ['d','e','s','r','e','v','e','r'].reverse)=some Manifest.sig_reversed:=by kernel_rfl
theorem slot_next:Slot "reversed" "__next__" "reversed.__next__" := .of (owner := "reversed") (n := "__next__") (by rw[typeLookup_type,builtinLookup_eq_fast];kernel_rfl) (by decide +kernel) (by decide +kernel) (by decide +kernel) (by first|exact .inl (by decide +kernel)|exact .inr (by decide +kernel)) (by rw[isSubtype_type];kernel_rfl)
theorem xB:Slot "reversed" "__iter__" "reversed.__iter__" := .of (owner := "reversed") (n := "__iter__") (by rw[typeLookup_type,builtinLookup_eq_fast];kernel_rfl) (by decide +kernel) (by decide +kernel) (by decide +kernel) (by first|exact .inl (by decide +kernel)|exact .inr (by decide +kernel)) (by rw[isSubtype_type];kernel_rfl)
theorem BX:Slot "reversed" "__init__" "object.__init__" := .of (owner := "object") (n := "__init__") (by rw[typeLookup_type,builtinLookup_eq_fast];kernel_rfl) (by decide +kernel) (by decide +kernel) (by decide +kernel) (by first|exact .inl (by decide +kernel)|exact .inr (by decide +kernel)) (by rw[isSubtype_type];kernel_rfl)
theorem wW:entryFor table "reversed.__next__" = some Builtin.«reversed.__next__» := entryFor_of_tree (by kernel_rfl)
theorem AK:entryFor table "reversed.__iter__" = some Builtin.«dict_keyiterator.__iter__» := entryFor_alias (id' := "dict_keyiterator.__iter__") (by kernel_rfl) (by first|rfl|decide +kernel|(unfold String.splitOn;simp +decide [String.splitOnAux])) (by decide +kernel) (by kernel_rfl)
theorem xV(a:Value):argsOk "reversed.__next__" ⟨[a],[]⟩:=by
 unfold argsOk;rw[signature?_of (id := "reversed.__next__") (n:=['_','_','t','x','e','n','_','_']) (o:=['d','e','s','r','e','v','e','r']) (by kernel_rfl) yT];kernel_rfl
theorem CQ(a:Value):argsOk "reversed.__iter__" ⟨[a],[]⟩:=by
 unfold argsOk;rw[signature?_of (id := "reversed.__iter__") (n:=['_','_','r','e','t','i','_','_']) (o:=['d','e','s','r','e','v','e','r']) (by kernel_rfl) yT];kernel_rfl
theorem ID:typeLookup (.type "tuple") "__reversed__" = pure none:=by rw[typeLookup_type,builtinLookup_eq_fast];kernel_rfl
theorem Jh:TypeCalled "reversed" "reversed.__new__" "object.__init__" := ⟨by decide +kernel,by decide +kernel,⟨_,_,F.mro_reversed⟩,F.made_reversed,by decide +kernel,by rw[isSubtype_type];kernel_rfl,BX⟩
theorem FS:isSubtype (.type "tuple") (.type "dict")=pure false:=by rw[isSubtype_type];kernel_rfl
section
variable{prog:Program}{w:World}{A:Around}{E:Value->Shared->Prop}{s:Shared}
theorem Co(t:Addr)(items:Array Value)(n:Nat)(dct:Option Addr)(sl:Array (Option Value)) :
  Meets (Builtin.«reversed.__new__» ⟨[.type "reversed",.ref t],[]⟩) (λ_ R s=>s.heap.get? t=some { cls:=.type "tuple",dict:=dct,data:=.seq items n,slots:=sl }/\(items.size:Int)<2^63 /\
   ∀ tk,R (.ok (.ret (.ref s.heap.objs.size))) { s with heap:=s.heap.push { cls:=.type "reversed",data:=.fields #[.ref t,rawInt ((items.size:Int)-1)] },toks:=tk }) :=
 .of_wp λprog w A R s h=>by
  obtain⟨ht,hsz,h⟩:=h;have hT:s.heap.IsTuple t items:=⟨_,ht,rfl,n,rfl⟩;unfold Builtin.«reversed.__new__»;refine ηB (wpAny_of_eq (newClass_reversed _) ?_);try dsimp only
  refine ηB (wpAny_of_eq (a:=.unit) (by first|rfl|kernel_rfl) ?_);refine ηB (wpAny_of_eq (a:=.unit) (by first|rfl|kernel_rfl) ?_);try dsimp only
  refine ηB (wpAny_specialOf hT.typeIs ID ?_);try dsimp only
  refine ηB ?_;show wpAny _ _ (isInstance (.ref t) (.type "dict") >>= _) _ _ s;refine ηB (wpAny_isInstance hT.typeIs FS ?_);try dsimp only
  show wpAny _ _ (if false=true then _ else _) _ _ s;rw[if_neg aD];refine ηB (wpAny_specialOf hT.typeIs PyProof.Rows.slot_tuple_getitem.lookup ?_);try dsimp only
  show wpAny _ _ (if _=true then _ else _) _ _ s;rw[if_pos (by decide)];refine ηP ?_;show wpAny _ _ (if (!true)=true then _ else _) _ _ s;rw[if_neg (by decide)];refine ηB (PyProof.Rows.len_tuple hT hsz ?_);refine ηB (m:=asInt? _) (ηP ?_);try dsimp only
  refine ηB ?_;show wpAny _ _ (newObj (.type "reversed") (.fields #[.ref t,rawInt ((items.size:Int)-1)])) ..;refine wpAny_newObj_type ?_ (by size_fits);exact ηP ⟨_,rfl,h _⟩
theorem EL(hT:s.heap.IsTuple t items)(hsz:(items.size:Int)<2^63)
  (h:∀ tk,Q (.ref s.heap.objs.size) { s with heap:=s.heap.push { cls:=.type "reversed",data:=.fields #[.ref t,rawInt ((items.size:Int)-1)] },toks:=tk }):wpAny (model prog w) A (call (.type "reversed") [.ref t]) Q E s:=by
 obtain⟨⟨c,dct,dt,sl⟩,hl,hc,n,hd⟩:=hT;have hc':c = .type "tuple" := hc;have hd':dt = .seq items n:=hd;subst hc' hd';refine callType_new Jh (by decide) (F.typeCall_reversed_1 _) (F.newCall_reversed_1 _) (λobj=>F.args_object_init_2 obj _) F.entry_reversed_new (Co t items n dct sl) ⟨hl,hsz,λtk=>?_⟩;exact⟨⟨_,ηG _ rfl,rfl⟩,h tk⟩
def Is(h:Heap)(a t:Addr)(i:Int):Prop:=∃ o,h.get? a=some o/\o.cls = .type "reversed" /\ o.data = .fields #[.ref t,rawInt i]
theorem Is.ty(x:Is s.heap a t i):s.TypeIs (.ref a) "reversed" := let ⟨o,ho,hc,_⟩:=x;⟨o,ho,hc⟩
theorem xH(x:Is s.heap a t i)(h:Q (.ref a) s):wpAny (model prog w) A (pyIter (.ref a)) Q E s:=by
 refine wpAny_pyIter_slot x.ty xB (wpAny_call_entry xB x.ty AK ?_ (CQ _));show wpAny _ _ (ret (.ref a)) _ _ s;exact ηP ⟨_,rfl, "reversed",_,x.ty,slot_next.lookup,h⟩
theorem Cm{it t:Addr}{i:Nat}{items:Array Value}{x:Value}(hit:Is s.heap it t (i:Int))(hT:s.heap.IsTuple t items)(hx:items[i]? = some x)(hsz:(items.size:Int)<2^63)
  (hQ:∀ h' tk,Is h' it t ((i:Int)-1)->Heap.SameBut it s.heap h'->Q (some x) { s with heap:=h',toks:=tk }):wpAny (model prog w) A (pyNext (.ref it)) Q E s:=by
 obtain⟨o,ho,hc,hd⟩:=id hit;unfold pyNext;refine ηB (wpAny_attempt (wpAny_callSpecial?_slot (name:=Str.ofString "__next__") hit.ty slot_next (wpAny_call_entry slot_next hit.ty wW ?_ (xV _))));unfold Builtin.«reversed.__next__»;refine ηB (wpAny_of_eq (a:=(Value.ref it,[])) rfl ?_);try dsimp only
 refine ηB (wpAny_field ho hd (x:=.ref t) rfl ?_);refine ηB (wpAny_field ho hd (x:=rawInt (i:Int)) rfl ?_);try dsimp only[rawInt]
 rw[if_neg ()];refine ηB (wpAny_specialOf hT.typeIs PyProof.Rows.slot_tuple_getitem.lookup ?_);show wpAny _ _ (if false=true then _ else _) _ _ s;rw[if_neg aD];refine ηB (wpAny_mkInt ?_);have hlt:i<items.size:=(Array.getElem?_eq_some_iff.mp hx).1;refine ηB (wpAny_attempt ?_);refine PyProof.Rows.getItem_tuple (j:=i) (x:=x) hT () () (by unfold seqIndex?;simp;lia) hx ?_;try dsimp only
 refine ηB (wpAny_field (s:={ s with toks:=s.toks+1 }) ho hd (x:=rawInt (i:Int)) rfl ?_);try dsimp only[rawInt]
 refine ηB (wpAny_setField (s:={ s with toks:=s.toks+1 }) ho hd (by simp) (ηP ⟨x,rfl,ηP (hQ _ _ ?_ (Heap.SameBut.update ..))⟩));exact⟨_,Heap.get?_update_self _ ho (Obj.isFreed_of_fields (Obj.data_mapFields hd _)),(Obj.cls_mapFields ..).trans hc,by rw[Obj.data_mapFields hd];simp[rawInt]⟩
theorem DW(hh:A.handled=none)(hit:Is s.heap it t (-1))(hQ:∀ h',Heap.ExtBut it s.heap h'->Q none { s with heap:=h' }):wpAny (model prog w) A (pyNext (.ref it)) Q E s:=by
 obtain⟨o,ho,hc,hd⟩:=id hit;unfold pyNext;refine ηB (wpAny_attempt (wpAny_callSpecial?_slot (name:=Str.ofString "__next__") hit.ty slot_next (wpAny_call_entry slot_next hit.ty wW ?_ (xV _))));unfold Builtin.«reversed.__next__»;refine ηB (wpAny_of_eq (a:=(Value.ref it,[])) rfl ?_);try dsimp only
 refine ηB (wpAny_field ho hd (x:=.ref t) rfl ?_);refine ηB (wpAny_field ho hd (x:=rawInt (-1)) rfl ?_);try dsimp only[rawInt]
 rw[if_pos (by decide)];refine ηB (wpAny_rule ?_);refine ηB ?_;show wpAny _ _ (setField (.ref it) 1 (rawInt (-1)) >>= _) _ _ s;refine ηB (wpAny_setField ho hd (by simp) ?_);have ho':=Heap.get?_update_self (h:=s.heap) (Obj.mapFields (·.setIfInBounds 1 (rawInt (-1)))) ho (Obj.isFreed_of_fields (Obj.data_mapFields hd _));refine wpAny_setField ho' (Obj.data_mapFields hd _) (by simp) ?_;refine ηB ?_;unfold Builtin.SmallTypes.stopIteration;refine ηB ?_;simp only[newExc,newTuple];refine ηB (wpAny_newObj_type ?_ (by size_fits));refine ηB (m:=firstArgMember _ _) (wpAny_of_eq (a:=Value.none) (by first|rfl|(simp only[firstArgMember];rfl)) ?_);refine wpAny_newObj_type ?_ (by size_fits);simp only[raiseNew];refine ηB (wpAny_handled ?_);first|rw[show A.in1.handled=none from hh]|rw[hh]
 refine ηB (ηP (wpAny_throw ?_));refine ηB (wpAny_isInstance (T := "StopIteration") (b:=true) ⟨_,ηG _ rfl,rfl⟩ isSubtype_stop ?_);refine ηP (hQ _ λb o hb e=>?_);refine ηH _ (ηH _ ?_);exact (Heap.SameBut.update ..).extBut b o hb ((Heap.SameBut.update ..).extBut b o hb e)
end
end RV
namespace L2
open PySem PySem.Spec PyProof.Rows
theorem C2{P:Program}{w:World}{K:Frag}{tg:Expr}(n:Nat)(a it:Addr):Turn P w K tg (⟨λi H=>i<n/\∃ xs x,SqT K H a xs/\xs.length=n/\xs.reverse[i]? = some x,λi H x H'=>H'=H/\∀ xs,SqT K H a xs->xs.reverse[i]? = some x,λi H=>i=n⟩:It) [it] it (λi h=>RV.Is h it a ((n:Int)-1-(i:Int))) where
 mem:=by simp
 obj:=λi h st b hb=>by
  have e:b=it:=by simpa using hb
  subst e;obtain⟨o,e,c,d⟩:=st;exact⟨o,e,λv z=>by rw[d] at z;cases z⟩
 keep:=λi h h' st k=>by
  obtain⟨o,e,r⟩:=st;exact⟨o,k it (by simp) o e,r⟩
 item:=by
  intro X hP hw hK hc i pins s σ H E I hf st hg;subst hP hw hK;obtain⟨hlt,xs,x,hq,hn,hx⟩:=hg;obtain⟨its,rv,p,hz⟩:=I.tuple hq;have hlen:=rv.length;rw[bE ()] at hx;obtain⟨u,hu,ru⟩:=rv.get hx;obtain⟨f0,f1,f2,f3,f4,f5⟩:=hf it (by simp);have e0:(n:Int)-1-(i:Int)=((xs.length-1-i:Nat):Int):=by lia
  have st':RV.Is s.heap it a ((xs.length-1-i:Nat):Int):=by rw[← e0];exact st
  have hn63:=uc;refine RV.Cm (i:=xs.length-1-i) st' (show s.heap.IsTuple a its.toArray from p) (x:=u) (by simpa using hu) (by rw[ao];lia) λh' tk st2 sb=>?_;have I1:Inv X pins σ H { s with heap:=h',toks:=tk }:=I.turned (t':=tk) (λb o hb e=>(sb.2 b hb).trans e) f0 f1 f3 f4 f5;obtain⟨o,e,c,d⟩:=id st2;refine⟨u,rfl,zj (s:={ s with heap:=h',toks:=tk }) e c d (by decide) ⟨x,H,I1,ru,⟨rfl,λys hy=>?_⟩,?_,λb hb=>(hf b hb).1⟩⟩
  ·rw[I.tuple_inj hy hq,bE ()];exact hx
  ·show RV.Is h' it a ((n:Int)-1-((i+1:Nat):Int));rw[show (n:Int)-1-((i+1:Nat):Int)=((xs.length-1-i:Nat):Int)-1 by lia];exact st2
 done:=by
  intro X hP hw hK hc i pins s σ H E I hf st hg;subst hP hw hK;have hg':i=n:=hg;subst hg';obtain⟨f0,f1,f2,f3,f4,f5⟩:=hf it (by simp);have st':RV.Is s.heap it a (-1):=by
   have e:(i:Int)-1-(i:Int) = -1:=by lia
   rw[← e];exact st
  exact RV.DW (I.ok.hd hc) st' λh' eb=>⟨rfl,I.turned (t':=s.toks) (λb o hb e=>eb b o hb e) f0 f1 f3 f4 f5⟩
 self:=λ_ _ _ _ _ st h=>RV.xH st h
end L2
namespace Hv
open L2
def hv(F:Nat->Int)(t u:Int):Nat->Int
 | 0=>0
 | n+1=>(hv F t u n+F n*t^n)*u
theorem sL(h:Lt2 r u):∀ i,Lt2 (r*i+1) (u^i)
 | 0=>by rw[aP];unfold Lt2;exact aF (show (1:Int).natAbs<2^1 by decide) (cu (by decide) ())
 | i+1=>by
  rw[a6];exact ((sL h i).mul h).mono (by rw[bI];lia)
theorem pow_pos{u:Int}(h:0<u):∀ i:Nat,0<u^i
 | 0=>by rw[aP];decide
 | i+1=>by rw[a6];exact ay (pow_pos h i) h
theorem uK(h:∀ j,j<n->F j=G j):hv F t u n=hv G t u n:=by
 induction n with
 | zero=>rfl
 | succ n ih=>rw[hv,hv,ih λj hj=>h j (),h n ()]
theorem xK(h:∀ k,n<=k->F k=0):∀ j,hv F t u (n+j)=hv F t u n*u^j
 | 0=>by rw[Nat.add_zero,aP,bx]
 | j+1=>by rw[← dc,hv,xK h j,h (n+j) (),ax,bQ,a6,bC]
theorem yv(F G:Nat->Int)(t u:Int):∀ n,hv (λk=>F k+G k) t u n=hv F t u n+hv G t u n
 | 0=>rfl
 | n+1=>by rw[hv,hv,hv,yv F G t u n];grind
theorem ve(F:Nat->Int)(c t u:Int):∀ n,hv (λk=>F k*c) t u n=hv F t u n*c
 | 0=>by simp[hv]
 | n+1=>by rw[hv,hv,ve F c t u n];grind
theorem yu(h:∀ j,j<n->F j=0):hv F t u n=0:=by
 induction n with
 | zero=>rfl
 | succ n ih=>rw[hv,ih λj hj=>h j (),h n ()];simp
theorem y8(g:Nat->Int)(c t u:Int)(i:Nat):∀ k,hv (λm=>if i<=m then c*g (m-i) else 0) t u (i+k)=c*t^i*hv g t u k
 | 0=>by
  rw[Nat.add_zero,yu λj hj=>if_neg ()];simp[hv]
 | k+1=>by
  rw[← dc,hv,y8 g c t u i k,if_pos (),show i+k-i=k by lia,hv,bS];grind
theorem GV(f g:Nat->Int)(t u:Int)(hg:∀ k,m<=k->g k=0)(n:Nat):∀ i,i<=n->hv (λk=>Cv.tm f g i k) t u (n+m)=hv f t u i*u^(n-i)*hv g t u m
 | 0,_=>by
  rw[yu (F:=λk=>Cv.tm f g 0 k) λj _=>rfl];simp[hv]
 | i+1,h=>by
  have ih:=GV f g t u hg n i ();have e:hv (λk=>Cv.tm f g (i+1) k) t u (n+m)=hv (λk=>Cv.tm f g i k+(if i<=k then f i*g (k-i) else 0)) t u (n+m):=uK λj _=>rfl;rw[e,yv,ih];obtain⟨d,rfl⟩:∃ d,n=i+1+d:=⟨n-(i+1),()⟩;have e2:i+1+d+m=i+(m+(d+1)):=by lia
  rw[e2,y8,xK hg (d+1),hv,show i+1+d-i=d+1 by lia,show i+1+d-(i+1)=d by lia,a6];grind
theorem GY(hf:∀ k,n<=k->f k=0)(hg:∀ k,m<=k->g k=0):hv (Cv.cv f g) t u (n+m)=hv f t u n*hv g t u m:=by
 have e:=GV f g t u hg n n (af _);rw[a9,aP,bx] at e;rw[← e];exact uK λj _=>(Cv.uD hf).symm
end Hv
namespace Pc
open L2 Cv Hv
theorem Db(F:Nat->Int)(i:Nat):∀ n,sm F (i+n)=sm F i+sm (λj=>F (i+j)) n
 | 0=>by simp[sm]
 | n+1=>by rw[← dc,sm,Db F i n,sm];lia
theorem u8(F G:Nat->Int):∀ n,sm (λj=>F j+G j) n=sm F n+sm G n
 | 0=>rfl
 | n+1=>by rw[sm,sm,sm,u8 F G n];lia
theorem zD(f g h:Nat->Int)(k:Nat):cv (λj=>f j+g j) h k=cv f h k+cv g h k:=by
 unfold cv;rw[← u8];exact sF λj _=>by rw[e6]
theorem ED(f g h:Nat->Int)(k:Nat):cv h (λj=>f j+g j) k=cv h f k+cv h g k:=by
 unfold cv;rw[← u8];exact sF λj _=>by rw[Int.mul_add]
theorem EC(f g:Nat->Int)(c:Int)(k:Nat):cv f (λj=>g j*c) k=cv f g k*c:=by
 unfold cv;rw[← um];exact sF λj _=>by grind
theorem zu(g h:Nat->Int)(c:Int)(i k:Nat):cv (λm=>if i<=m then c*g (m-i) else 0) h k=if i<=k then c*cv g h (k-i) else 0:=by
 unfold cv;by_cases hk:i<=k
 ·rw[if_pos hk];obtain⟨d,rfl⟩:∃ d,k=i+d:=⟨k-i,()⟩;rw[show i+d+1=i+(d+1) by lia,Db];have e1:sm (λj=>(if i<=j then c*g (j-i) else 0)*h (i+d-j)) i=0:=by
   rw[ul (n:=0) (aB _) λj _ hj=>by show (if i<=j then _ else 0)*_=0;rw[if_neg (),ax]];rfl
  rw[e1,bO,show i+d-i=d by lia,bo c,← um];refine sF λj _=>?_;show (if i<=i+j then c*g (i+j-i) else 0)*h (i+d-(i+j))=g j*h (d-j)*c;rw[if_pos (),show i+j-i=j by lia,show i+d-(i+j)=d-j by lia];grind
 ·rw[if_neg hk,ul (n:=0) (aB _) λj _ hj=>by show (if i<=j then _ else 0)*_=0;rw[if_neg (),ax]];rfl
theorem Hg(f g h:Nat->Int):∀(n k:Nat),cv (λm=>tm f g n m) h k=tm f (λm=>cv g h m) n k
 | 0,k=>by
  have:cv (λm=>tm f g 0 m) h k=0:=v5 λj=>rfl;rw[this];rfl
 | n+1,k=>by
  rw[x8,← Hg f g h n k,← zu g h (f n) n k,← zD];rfl
theorem vz(hf:∀ k,n<=k->f k=0)(k:Nat):cv (λm=>cv f g m) h k=cv f (λm=>cv g h m) k:=by
 rw[← uD (g:=λm=>cv g h m) hf,← Hg f g h n k];exact sW (λj=>(uD hf).symm) λ_=>rfl
def d0:Nat->Int:=λk=>if k=0 then 1 else 0
theorem zy(f:Nat->Int)(k:Nat):cv d0 f k=f k:=by
 have:tm d0 f 1 k=cv d0 f k:=uD λj hj=>by show (if j=0 then (1:Int) else 0)=0;rw[if_neg ()]
 rw[← this];show 0+(if 0<=k then d0 0*f (k-0) else 0)=f k;rw[if_pos (aB _),bA];show 0+1*f k=f k;lia
def cp(g:Nat->Int):Nat->(Nat->Int)
 | 0=>d0
 | n+1=>λk=>cv (cp g n) g k
theorem vf(hg:∀ k,m<=k->g k=0):∀(n k:Nat),n*m+1<=k->cp g n k=0
 | 0,k,h=>by show (if k=0 then (1:Int) else 0)=0;rw[if_neg ()]
 | n+1,k,h=>tD (a:=n*m+1) (b:=m) (vf hg n) hg (by rw[bj] at h;lia)
def pc(F g:Nat->Int)(U:Int):Nat->(Nat->Int)
 | 0=>λ_=>0
 | n+1=>λk=>(pc F g U n k+F n*cp g n k)*U
theorem yk(hg:∀ k,m<=k->g k=0):∀(n k:Nat),n*m+1<=k->pc F g U n k=0
 | 0,_,_=>rfl
 | n+1,k,h=>by
  rw[bj] at h;show (pc F g U n k+F n*cp g n k)*U=0;rw[yk hg n k (),vf hg n k ()];simp
theorem D9(hg:∀ k,m<=k->g k=0)(hi:i<L)(h:∀ j,pc F g U L j=U^i*pc F g U (L-i) j+U*cv (cp g (L-i)) M j)(M':Nat->Int)(hM:∀ j,M' j=cv M g j+(if j=0 then F (L-1-i)*U^i else 0)) :
  pc F g U L k=U^(i+1)*pc F g U (L-(i+1)) k+U*cv (cp g (L-(i+1))) M' k:=by
 obtain⟨d,rfl⟩:∃ d,L=i+1+d:=⟨L-(i+1),()⟩;rw[h k,show i+1+d-i=d+1 by lia,show i+1+d-(i+1)=d by lia,pc,a6];have e1:cv (cp g (d+1)) M k=cv (cp g d) (λm=>cv M g m) k:=by
  show cv (λm=>cv (cp g d) g m) M k=_;rw[vz (n:=d*m+1) (vf hg d)];exact sW (λ_=>rfl) λj=>tL ..
 have e2:cv (cp g d) M' k=cv (cp g d) (λm=>cv M g m) k+cp g d k*(F d*U^i):=by
  have:cv (cp g d) M' k=cv (cp g d) (λj=>cv M g j+d0 j*(F d*U^i)) k:=sW (λ_=>rfl) λj=>by
   rw[hM j,show i+1+d-1-i=d by lia];unfold d0;by_cases z:j=0
   ·rw[if_pos z,if_pos z,bK]
   ·rw[if_neg z,if_neg z,ax]
  rw[this,ED,EC,tL (cp g d) d0,zy]
 rw[e1,e2];show U^i*((pc F g U d k+F d*cp g d k)*U)+_=_;grind
theorem IR:hv d0 t u 1=u:=by
 show (0+d0 0*t^0)*u=u;rw[aP];show (0+1*1)*u=u;lia
theorem GZ(hg:∀ k,m<=k->g k=0):∀ n,hv (cp g n) t u (n*m+1)=hv g t u m^n*u
 | 0=>by
  rw[eJ,gF,aP,bK];exact IR
 | n+1=>by
  rw[show (n+1)*m+1=(n*m+1)+m by rw[bj];lia];show hv (cv (cp g n) g) t u _=_;rw[GY (vf hg n) hg,GZ hg n,a6];grind
theorem GX(hg:∀ k,m<=k->g k=0):∀ n,hv (pc F g U n) t u (n*m+1)=u*hv F (hv g t u m) (U*u^m) n
 | 0=>by
  rw[yu (F:=pc F g U 0) λj _=>rfl];simp[hv]
 | n+1=>by
  have e:(n+1)*m+1=(n*m+1)+m:=by rw[bj];lia
  have e1:hv (pc F g U (n+1)) t u ((n+1)*m+1)=(hv (pc F g U n) t u ((n+1)*m+1)+hv (cp g n) t u ((n+1)*m+1)*F n)*U:=by
   rw[← ve (cp g n) (F n),← yv,← ve];exact uK λj _=>by show (pc F g U n j+F n*cp g n j)*U=_;rw[bo (F n)]
  rw[e1,e,xK (yk hg n) m,xK (vf hg n) m,GX hg n,GZ hg n,hv];grind
theorem wT(F:Nat->Int)(t u c:Int):∀ n,hv F (t*c) (u*c) n=hv F t u n*c^n
 | 0=>by simp[hv]
 | n+1=>by
  rw[hv,hv,wT F t u c n,gR,a6];grind
structure Wq (P:List Int)(B t u a b:Int):Prop where
 pos:0<b
 is:a*(B*u^P.length)=hv (fn P) t u P.length*b
theorem Wq.at(h:Wq P B t u a b)(hN:P.length<=N):a*(B*u^N)=hv (fn P) t u N*b:=by
 obtain⟨j,rfl⟩:∃ j,N=P.length+j:=⟨N-P.length,()⟩;rw[xK (λk hk=>sx hk) j,bS];have:=h.is
 calc a*(B*(u^P.length*u^j))=(a*(B*u^P.length))*u^j:=by grind
  _=hv (fn P) t u P.length*b*u^j:=by rw[this]
  _=_:=by grind
theorem Wq.of_at{P:List Int}{B t u a b:Int}(hu:0<u)(hb:0<b){N:Nat}(hN:P.length<=N)(h:a*(B*u^N)=hv (fn P) t u N*b):Wq P B t u a b:=by
 refine⟨hb,?_⟩;obtain⟨j,rfl⟩:∃ j,N=P.length+j:=⟨N-P.length,()⟩;rw[xK (λk hk=>sx hk) j,bS] at h;have U:=pow_pos hu j;refine av (show u^j≠0 by lia) ?_
 calc a*(B*u^P.length)*u^j=a*(B*(u^P.length*u^j)):=by grind
  _=hv (fn P) t u P.length*u^j*b:=h
  _=_:=by grind
theorem Wq.comp{P G R:List Int}{B U C t u a b x y:Int}(hB:0<B)(hU:0<U)(hu:0<u)(h1:Wq G U t u a b)(h2:Wq P B a b x y)(hR:∀ k,R.getD k 0*(B*U^P.length)=pc (fn P) (fn G) U P.length k*C)(hl:R.length<=P.length*G.length+1):Wq R C t u x y:=by
 refine Wq.of_at hu h2.pos hl ?_;have e0:hv (fn R) t u (P.length*G.length+1)*(B*U^P.length)=u*hv (fn P) (hv (fn G) t u G.length) (U*u^G.length) P.length*C:=by
  rw[← GX (λk hk=>sx hk),← ve,← ve];exact uK λj _=>hR j
 have e1:=h1.is;have e2:=h2.is;have e3:hv (fn P) (hv (fn G) t u G.length) (U*u^G.length) P.length*b^P.length=hv (fn P) a b P.length*(U*u^G.length)^P.length:=by
  rw[← wT,← wT,← e1,bo b]
 have e4:(U*u^G.length)^P.length*u=U^P.length*u^(P.length*G.length+1):=by
  rw[gR,← Int.pow_mul,a6,aU G.length];grind
 have b0:=pow_pos h1.pos P.length;have U0:=pow_pos hU P.length;generalize hv (fn R) t u (P.length*G.length+1)=r at *;generalize hv (fn P) (hv (fn G) t u G.length) (U*u^G.length) P.length=X2 at *;generalize hv (fn P) a b P.length=X1 at *;generalize (U*u^G.length)^P.length=W at *;generalize u^(P.length*G.length+1)=uN at *;generalize U^P.length=UL at *;generalize b^P.length=bL at *;have nz:B*UL*bL≠0:=am (ay (ay hB U0) b0);refine av nz ?_
 calc x*(C*uN)*(B*UL*bL)=(x*(B*bL))*C*(UL*uN):=by grind
  _=(X1*y)*C*(W*u):=by rw[e2,e4]
  _=(X1*W)*y*C*u:=by grind
  _=(X2*bL)*y*C*u:=by rw[e3]
  _=(u*X2*C)*(bL*y):=by grind
  _=(r*(B*UL))*(bL*y):=by rw[e0]
  _=r*y*(B*UL*bL):=by grind
theorem zV{F:Nat->Int}{t:Int}(ht:0<t):∀{n:Nat},(∀ k,k<n->(F k).natAbs<t.natAbs)->sm (λk=>F k*t^k) n=0->∀ k,k<n->F k=0
 | 0,_,_,k,hk=>absurd hk (bZ _)
 | n+1,hF,h,k,hk=>by
  rw[uV,aP,bx] at h;have e:sm (λj=>F (j+1)*t^(j+1)) n=sm (λj=>F (j+1)*t^j) n*t:=by
   rw[← um];exact sF λj _=>by rw[a6];grind
  rw[e] at h;have z:F 0=0:=by
   have d:t∣F 0:=⟨- sm (λj=>F (j+1)*t^j) n,by grind⟩;have l:=hF 0 ();exact Int.eq_zero_of_dvd_of_natAbs_lt_natAbs d l
  rw[z,bO] at h;have h':sm (λj=>F (j+1)*t^j) n=0:=by
   rcases bv.mp h with q|q
   ·exact q
   ·lia
  cases k with
  | zero=>exact z
  | succ k=>exact zV (F:=λj=>F (j+1)) ht (λj hj=>hF (j+1) ()) h' k ()
theorem GW(F:Nat->Int)(t:Int):∀ n,hv F t 1 n=sm (λk=>F k*t^k) n
 | 0=>rfl
 | n+1=>by rw[hv,GW F t n,sm,bx]
theorem xp(f:Po.Fm R C)(f':Po.Fm S D)(h:∀ t:Int,0<t->∃ x y,Wq R C t 1 x y/\Wq S D t 1 x y):R=S/\C=D:=by
 refine Po.uniq f f' λk=>?_;let N:=max R.length S.length
 let F:Nat->Int:=λj=>fn R j*D-fn S j*C
 have bd:∃ t:Int,0<t/\∀ j,j<N->(F j).natAbs<t.natAbs:=by
  have:∀ n:Nat,∃ t:Int,0<t/\∀ j,j<n->(F j).natAbs<t.natAbs:=by
   intro n;induction n with
   | zero=>exact⟨1,by decide,λj h=>absurd h (bZ _)⟩
   | succ n ih =>
    obtain⟨t,t0,ht⟩:=ih;refine⟨t+((F n).natAbs:Int)+1,(),λj hj=>?_⟩;rcases bN (dS hj) with e|e
    ·rw[e];lia
    ·have:=ht j e;lia
  exact this N
 obtain⟨t,t0,ht⟩:=bd;obtain⟨x,y,w1,w2⟩:=h t t0;have e1:=w1.at (N:=N) ();have e2:=w2.at (N:=N) ();rw[Int.one_pow,bx] at e1 e2;have z:sm (λk=>F k*t^k) N=0:=by
  rw[← GW];have:hv F t 1 N=hv (fn R) t 1 N*D+hv (fn S) t 1 N*(-C):=by
   rw[← ve,← ve,← yv];exact uK λj _=>by show fn R j*D-fn S j*C=_;grind
  rw[this];have y0:=w1.pos;refine av (show y≠0 by lia) ?_
  calc (hv (fn R) t 1 N*D+hv (fn S) t 1 N * -C)*y=(hv (fn R) t 1 N*y)*D-(hv (fn S) t 1 N*y)*C:=by grind
   _=(x*C)*D-(x*D)*C:=by rw[e1,e2]
   _=0*y:=by grind
 rcases aw k N with c|c
 ·have:=zV t0 ht z k c;have q:fn R k*D-fn S k*C=0:=this;show fn R k*D=fn S k*C;lia
 ·show fn R k*D=fn S k*C;rw[sx (P:=R) (),sx (P:=S) ()];simp
theorem EF(hg:∀ k,l<=k->g k=0)(hs:∀ k,Lt2 m (g k)):∀ n,n*l<=400->∀ k,Lt2 ((m+9)*n+1) (cp g n k)
 | 0,_,k=>by
  show Lt2 _ (if k=0 then (1:Int) else 0);split
  ·unfold Lt2;exact aF (show (1:Int).natAbs<2^1 by decide) (cu (by decide) ())
  ·exact bM (by decide)
 | n+1,h,k=>by
  rw[bj] at h;have ih:=EF hg hs n ();rcases aw k 500 with c|c
  ·exact (BN (b:=9) ih hs ()).mono (by rw[bI];lia)
  ·rw[vf hg (n+1) k (by rw[bj];lia)];exact bM (by decide)
theorem GM(hg:∀ k,l<=k->g k=0)(hF:∀ k,Lt2 n (F k))(hs:∀ k,Lt2 m (g k))(hU:Lt2 c U):∀ i,i*l<=400->∀ k,Lt2 (n+(m+c+10)*i+1) (pc F g U i k)
 | 0,_,k=>bM (by decide)
 | i+1,h,k=>by
  rw[bj] at h;have ih:=GM hg hF hs hU i () k;have h2:Lt2 (n+(m+c+10)*i+1) (F i*cp g i k):=((hF i).mul (EF hg hs i () k)).mono (by
   have:(m+9)*i<=(m+c+10)*i:=aV _ ();lia)
  exact ((ih.add h2).mul hU).mono (by rw[bI];lia)
def X:List Int:=[0,1]
theorem Mk(k:Nat):fn X k=if k=1 then 1 else 0:=by
 match k with
 | 0=>rfl
 | 1=>rfl
 | k+2 =>
  rw[sx (P:=X) (by show 2<=_;lia),if_neg ()]
theorem Mt:Po.Fm X 1:=⟨by decide,.inr (by decide),by decide⟩
theorem KM(f:Nat->Int)(k:Nat):cv f (fn X) k=if k=0 then 0 else f (k-1):=by
 rw[tL,← uD (n:=2) (λj hj=>sx hj)];show 0+(if 0<=k then fn X 0*f (k-0) else 0)+(if 1<=k then fn X 1*f (k-1) else 0)=_;have e0:fn X 0=0:=rfl;have e1:fn X 1=1:=rfl;rw[e0,e1];by_cases z:k=0
 ·subst z;simp
 ·rw[if_neg z,if_pos (show 1<=k by lia)];simp
def Of(P:List Int)(B:Int)(G:List Int)(U:Int)(R:List Int)(C:Int):Prop:=Po.Fm R C/\∀ k,R.getD k 0*(B*U^P.length)=pc (fn P) (fn G) U P.length k*C
theorem Of.len{P G R:List Int}{B U C:Int}(hB:0<B)(hU:0<U)(h:Of P B G U R C):R.length<=P.length*G.length+1:=by
 rcases h.1.last with e|e
 ·subst e;exact aB _
 ·rcases aw (P.length*G.length+1) R.length with c|c
  ·refine absurd ?_ e;have e3:=h.2 (R.length-1);rw[yk (m:=G.length) (λk hk=>sx hk) _ _ (),ax] at e3;rcases bv.mp e3 with q|q
   ·exact q
   ·have:=ay hB (pow_pos hU P.length);lia
  ·exact c
structure Pz (n b:Nat)(P:List Int)(B:Int):Prop where
 fm:Po.Fm P B
 tops:∀ k,Lt2 n (P.getD k 0)
 bot:Lt2 b B
theorem Pz.mono(h:Pz n b P B)(l:n<=n')(l':b<=b'):Pz n' b' P B:=⟨h.fm,λk=>(h.tops k).mono l,h.bot.mono l'⟩
theorem Pz.of{n b:Nat}{f:Nat->Int}{B c:Int}(F:Po.Fm P B)(hc:0<c)(h:∀ k,P.getD k 0*c=f k*B)(h1:∀ k,Lt2 n (f k))(h2:Lt2 b c):Pz n b P B :=
 ⟨F,λk=>(h1 k).le ((Po.size F hc h).2 k),h2.le (Po.size F hc h).1⟩
theorem Of.size{P G R:List Int}{B U C:Int}{n b m c:Nat}(h:Of P B G U R C)(z1:Pz n b P B)(z2:Pz m c G U)(hl:P.length*G.length<=400):Pz (n+(m+c+10)*P.length+1) (b+(c*P.length+1)) R C:=by
 have Y:=ay z1.fm.pos (pow_pos z2.fm.pos P.length);exact Pz.of h.1 Y h.2 (λk=>GM (λk hk=>sx hk) (λk=>z1.tops k) (λk=>z2.tops k) z2.bot P.length hl k) (z1.bot.mul (sL z2.bot P.length))
theorem wj(hg:∀ k,m<=k->g k=0):∀(n k:Nat),n*(m-1)+1<=k->cp g n k=0
 | 0,k,h=>by show (if k=0 then (1:Int) else 0)=0;rw[if_neg ()]
 | n+1,k,h=>tD (a:=n*(m-1)+1) (b:=m) (wj hg n) hg (by rw[bj] at h;lia)
theorem we(hg:∀ k,m<=k->g k=0):∀(n k:Nat),(n-1)*(m-1)+1<=k->pc F g U n k=0
 | 0,_,_=>rfl
 | n+1,k,h=>by
  rw[aH] at h;have:(n-1)*(m-1)<=n*(m-1):=aV _ ();show (pc F g U n k+F n*cp g n k)*U=0;rw[we hg n k (),wj hg n k ()];simp
theorem Of.deg{P G R:List Int}{B U C:Int}(hB:0<B)(hU:0<U)(h:Of P B G U R C):R.length<=(P.length-1)*(G.length-1)+1:=by
 rcases h.1.last with e|e
 ·subst e;exact aB _
 ·rcases aw ((P.length-1)*(G.length-1)+1) R.length with c|c
  ·refine absurd ?_ e;have e3:=h.2 (R.length-1);rw[we (m:=G.length) (λk hk=>sx hk) _ _ (),ax] at e3;rcases bv.mp e3 with q|q
   ·exact q
   ·have:=ay hB (pow_pos hU P.length);lia
  ·exact c
theorem sJ{R:List Int}{C c:Int}{f:Nat->Int}{N:Nat}(F:Po.Fm R C)(hc:0<c)(h:∀ k,R.getD k 0*c=f k*C)(hf:∀ k,N<=k->f k=0):R.length<=N:=by
 rcases F.last with e|e
 ·subst e;exact aB _
 ·rcases aw N R.length with z|z
  ·refine absurd ?_ e;have e3:=h (R.length-1);rw[hf _ (),ax] at e3;rcases bv.mp e3 with q|q
   ·exact q
   ·lia
  ·exact z
theorem EX:Pz 1 1 X 1:=⟨Mt,λk=>by
 show Lt2 1 (fn X k);rw[Mk];split <;> (unfold Lt2;decide),by unfold Lt2;decide⟩
end Pc
namespace L2
instance decLt2 (n:Nat)(i:Int):Decidable (Lt2 n i):=inferInstanceAs (Decidable (i.natAbs<2^n))
end L2
namespace Pc
open L2 Cv Hv
theorem Mo(g:Nat->Int)(k:Nat):cp g 1 k=g k:=zy g k
theorem Nm(F g:Nat->Int)(U:Int)(k:Nat):pc F g U 2 k=(F 0*d0 k*U+F 1*g k)*U:=by
 show ((0+F 0*d0 k)*U+F 1*cp g 1 k)*U=_;rw[Mo,bO]
theorem Of.two(h2:P.length=2)(hU:0<U)(h:Of P B G U S D)(k:Nat):S.getD k 0*(B*U)=(P.getD 0 0*d0 k*U+P.getD 1 0*G.getD k 0)*D:=by
 have q:=h.2 k;rw[h2,Nm] at q;have q':S.getD k 0*(B*U^2)=(P.getD 0 0*d0 k*U+P.getD 1 0*G.getD k 0)*U*D:=q;refine av (show U≠0 by lia) ?_;rw[show (U:Int)^2=U*U by rw[a6,a6,aP,bK]] at q';grind
def St(ta ba tb bb:Int)(P:List Int)(B:Int):Prop:=Po.Fm P B/\∀ k,P.getD k 0*(ba*bb)=[tb*ba,ta*bb].getD k 0*B
theorem xZ(x y:Int)(k:Nat):[x,y].getD (k+2) 0=0:=by simp
theorem HG{R G T:List Int}{M:Nat->Int}{B U W C tb:Int}{k:Nat}(c0:0<C)(hR:∀ j,R.getD j 0*(B*W)=M j*U*C)(hT:T.getD k 0*(C*U)=cv (fn R) (fn G) k*tb):T.getD k 0*(B*(W*U))=cv M (fn G) k*U*tb:=by
 have e1:cv (fn R) (fn G) k*(B*W)=cv M (fn G) k*(U*C):=by
  rw[← tY,← tY];exact sW (λj=>by show R.getD j 0*(B*W)=_;rw[hR j];grind) λ_=>rfl
 refine av (show C≠0 by lia) ?_;generalize cv (fn R) (fn G) k=X at *;generalize cv M (fn G) k=Y at *;generalize T.getD k 0=Tk at *
 calc Tk*(B*(W*U))*C=(Tk*(C*U))*(B*W):=by grind
  _=(X*tb)*(B*W):=by rw[hT]
  _=(X*(B*W))*tb:=by grind
  _=(Y*(U*C))*tb:=by rw[e1]
  _=_:=by grind
theorem HF{S T E:Int}(t0:0<tb)(e0:0<e)(hT:T*(B*(W*U))=q*U*tb)(hE:E*B=x*e)(hS:S*(tb*e)=(T*e+E*tb)*sb):S*(B*(W*U))=(q+x*W)*U*sb:=by
 refine av (show tb*e≠0 from am (ay t0 e0)) ?_
 calc S*(B*(W*U))*(tb*e)=(S*(tb*e))*(B*(W*U)):=by grind
  _=((T*e+E*tb)*sb)*(B*(W*U)):=by rw[hS]
  _=((T*(B*(W*U)))*e+(E*B)*(W*U)*tb)*sb:=by grind
  _=((q*U*tb)*e+(x*e)*(W*U)*tb)*sb:=by rw[hT,hE]
  _=_:=by grind
end Pc
namespace Qp
open L2 Cv Hv Pc
theorem so{b:Int}(h:0<b):(b:Rat)≠0:=λz=>by
 have:=dj.mp z;lia
theorem sQ{b:Int}(h:b≠0):(b:Rat)≠0:=λz=>h (dj.mp z)
theorem va{b:Rat}(h:b≠0):∀ n:Nat,b^n≠0
 | 0=>by rw[cJ];decide
 | n+1=>λz=>by
  rw[cK] at z;rcases de.mp z with w|w
  ·exact va h n w
  ·exact h w
theorem yi(a:Rat)(h:b≠0):∀ n:Nat,(a / b)^n*b^n=a^n
 | 0=>by rw[cJ,cJ,cJ];grind
 | n+1=>by
  have ih:=yi a h n;rw[cK,cK,cK,← ih];grind
theorem tq{a b c d:Int}(hb:b≠0)(hd:d≠0):((a:Rat) / (b:Rat)=(c:Rat) / (d:Rat))↔a*d=c*b:=by
 have h1:=sQ hb;have h2:=sQ hd;constructor
 ·intro h;have:(a:Rat)*(d:Rat)=(c:Rat)*(b:Rat):=by grind
  rw[← ar,← ar] at this;exact dD.mp this
 ·intro h;have:(a:Rat)*(d:Rat)=(c:Rat)*(b:Rat):=by rw[← ar,← ar,h]
  grind
theorem tT(x:Rat):∃ t u:Int,0<u/\x=(t:Rat) / (u:Rat):=by
 refine⟨x.num,(x.den:Int),?_,?_⟩
 ·have:=e8 x.den_nz;lia
 ·have:=Rat.num_divInt_den x;rw[Rat.divInt_eq_div] at this;exact this.symm
def ei(F:Nat->Int)(x:Rat):Nat->Rat
 | 0=>0
 | n+1=>ei F x n+(F n:Rat)*x^n
theorem zo(h:∀ k,n<=k->F k=0):∀ j,ei F x (n+j)=ei F x n
 | 0=>rfl
 | j+1=>by
  rw[← dc,ei,zo h j,h (n+j) ()];grind
theorem yx{a b:Int}{x:Rat}(h:∀ k,F k*a=G k*b):∀ n,ei F x n*(a:Rat)=ei G x n*(b:Rat)
 | 0=>by rw[ei,ei];grind
 | n+1=>by
  have ih:=yx (x:=x) h n;have e:(F n:Rat)*(a:Rat)=(G n:Rat)*(b:Rat):=by rw[← ar,← ar,h n]
  rw[ei,ei];grind
theorem AL(F G:Nat->Int)(x:Rat):∀ n,ei (λk=>F k+G k) x n=ei F x n+ei G x n
 | 0=>by rw[ei,ei,ei];grind
 | n+1=>by
  rw[ei,ei,ei,AL F G x n,dE];grind
theorem uP(F:Nat->Int)(c:Int)(x:Rat):∀ n,ei (λk=>F k*c) x n=ei F x n*(c:Rat)
 | 0=>by rw[ei,ei];grind
 | n+1=>by
  rw[ei,ei,uP F c x n,ar];grind
theorem y9(F:Nat->Int)(t:Int)(hu:0<u):∀ n,((hv F t u n:Int):Rat)=(u:Rat)^n*ei F ((t:Rat) / (u:Rat)) n
 | 0=>by rw[hv,ei];grind
 | n+1=>by
  have hn:=so hu;have ih:=y9 F t hu n;have p:=yi (t:Rat) hn n;rw[hv,ei,ar,dE,ar,cL,ih,cK,← p];grind
def E(P:List Int)(B:Int)(x:Rat):Rat:=ei (fn P) x P.length / (B:Rat)
theorem yL(h:P.length<=N):E P B x=ei (fn P) x N / (B:Rat):=by
 obtain⟨j,rfl⟩:∃ j,N=P.length+j:=⟨N-P.length,()⟩;rw[zo (λk hk=>sx hk) j];rfl
theorem wq{P:List Int}{B t u a b:Int}(hB:0<B)(hu:0<u)(hb:0<b):Wq P B t u a b↔E P B ((t:Rat) / (u:Rat))=(a:Rat) / (b:Rat):=by
 have nB:=so hB;have nu:=so hu;have nb:=so hb;have nU:=va nu P.length;have key:=y9 (fn P) t hu P.length;constructor
 ·intro h;have e:=congrArg (λz:Int=>(z:Rat)) h.is;simp only[ar,cL] at e;rw[key] at e;unfold E;generalize (u:Rat)^P.length=U at *;generalize ei (fn P) ((t:Rat) / (u:Rat)) P.length=X at *;have:(a:Rat)*(B:Rat)=X*(b:Rat):=by
   have:((a:Rat)*(B:Rat)-X*(b:Rat))*U=0:=by grind
   rcases de.mp this with w|w
   ·grind
   ·exact absurd w nU
  grind
 ·intro h;refine⟨hb,?_⟩;unfold E at h;have:((a*(B*u^P.length):Int):Rat)=((hv (fn P) t u P.length*b:Int):Rat):=by
   simp only[ar,cL];rw[key];generalize (u:Rat)^P.length=U at *;generalize ei (fn P) ((t:Rat) / (u:Rat)) P.length=X at *;have:X*(b:Rat)=(a:Rat)*(B:Rat):=by grind
   grind
  exact dD.mp this
theorem CT(hB:0<B)(hU:0<U)(h:Of P B G U R C)(x:Rat):E R C x=E P B (E G U x):=by
 obtain⟨t,u,hu,rfl⟩:=tT x;obtain⟨a,b,hb,e1⟩:=tT (E G U ((t:Rat) / (u:Rat)));obtain⟨c,d,hd,e2⟩:=tT (E P B ((a:Rat) / (b:Rat)));rw[e1,e2];exact (wq h.1.pos hu hd).mp (Wq.comp hB hU hu ((wq hU hu hb).mpr e1) ((wq hB hb hd).mpr e2) h.2 (h.len hB hU))
theorem uz(f:Po.Fm R C)(f':Po.Fm S D)(h:∀ x,E R C x=E S D x):R=S/\C=D:=by
 refine xp f f' λt ht=>?_;obtain⟨a,b,hb,e⟩:=tT (E R C ((t:Rat) / ((1:Int):Rat)));exact⟨a,b,(wq f.pos (by decide) hb).mpr e,(wq f'.pos (by decide) hb).mpr ((h _).symm.trans e)⟩
theorem vY{C c:Int}{f:Nat->Int}{x:Rat}{N:Nat}(hC:0<C)(hc:c≠0)(h:∀ k,R.getD k 0*c=f k*C)(hN:R.length<=N):E R C x=ei f x N / (c:Rat):=by
 rw[yL hN];have e:=yx (F:=fn R) (G:=f) (x:=x) h N;have n1:=so hC;have n2:=sQ hc;grind
theorem xW{B1 B2 C:Int}(h1:0<B1)(h2:0<B2)(hC:0<C)(h:∀ k,R.getD k 0*(B1*B2)=(P1.getD k 0*B2+P2.getD k 0*B1)*C)(x:Rat):E R C x=E P1 B1 x+E P2 B2 x:=by
 have l1:P1.length<=P1.length+P2.length+R.length:=by lia
 have l2:P2.length<=P1.length+P2.length+R.length:=by lia
 have l3:R.length<=P1.length+P2.length+R.length:=by lia
 rw[vY hC (am (ay h1 h2)) h l3,yL l1,yL l2,AL,uP,uP,ar];have n1:=so h1;have n2:=so h2;show (ei (fn P1) x _*_+ei (fn P2) x _*_) / _=_;generalize ei (fn P1) x (P1.length+P2.length+R.length)=X;generalize ei (fn P2) x (P1.length+P2.length+R.length)=Y;grind
theorem Hf{f g:Nat->Int}{n m:Nat}(hf:∀ k,n<=k->f k=0)(hg:∀ k,m<=k->g k=0)(x:Rat):ei (cv f g) x (n+m)=ei f x n*ei g x m:=by
 obtain⟨t,u,hu,rfl⟩:=tT x;have e:=congrArg (λz:Int=>(z:Rat)) (GY (t:=t) (u:=u) hf hg);simp only[ar] at e;rw[y9 _ _ hu,y9 _ _ hu,y9 _ _ hu] at e;have n1:=va (so hu) n;have n2:=va (so hu) m;have e3:(u:Rat)^(n+m)=(u:Rat)^n*(u:Rat)^m:=by grind
 rw[e3] at e;generalize (u:Rat)^n=a at *;generalize (u:Rat)^m=b at *;generalize ei (cv f g) ((t:Rat) / (u:Rat)) (n+m)=X at *;generalize ei f ((t:Rat) / (u:Rat)) n=Y at *;generalize ei g ((t:Rat) / (u:Rat)) m=Z at *;have:(X-Y*Z)*(a*b)=0:=by grind
 rcases de.mp this with w|w
 ·grind
 ·rcases de.mp w with v|v
  ·exact absurd v n1
  ·exact absurd v n2
theorem vE{B1 B2 C:Int}(h1:0<B1)(h2:0<B2)(f:Po.Fm R C)(h:∀ k,R.getD k 0*(B1*B2)=cv (fn P1) (fn P2) k*C)(x:Rat):E R C x=E P1 B1 x*E P2 B2 x:=by
 have hC:=f.pos;have p12:=ay h1 h2;have l:R.length<=P1.length+P2.length:=sJ f p12 h λk hk=>tD (a:=P1.length) (b:=P2.length) (λj h=>sx h) (λj h=>sx h) ();rw[vY hC (am p12) h l,Hf (λk h=>sx h) (λk h=>sx h),ar];have n1:=so h1;have n2:=so h2;unfold E;grind
theorem Mn(F:Nat->Int)(x:Rat):ei F x 1=(F 0:Rat):=by
 show 0+(F 0:Rat)*x^0=_;rw[cJ];grind
theorem MM(F:Nat->Int)(x:Rat):ei F x 2=(F 0:Rat)+(F 1:Rat)*x:=by
 show ei F x 1+(F 1:Rat)*x^1=_;rw[Mn,Rat.pow_one]
theorem Hn(l:P.length<=2)(x:Rat):E P B x=((P.getD 0 0:Int):Rat) / (B:Rat)+((P.getD 1 0:Int):Rat) / (B:Rat)*x:=by
 rw[yL l,MM];show (((P.getD 0 0:Int):Rat)+((P.getD 1 0:Int):Rat)*x) / _=_;grind
theorem yK{C c b:Int}(f:Po.Fm R C)(hb:0<b)(h:∀ k,R.getD k 0*b=[c].getD k 0*C)(x:Rat):E R C x=(c:Rat) / (b:Rat):=by
 have l:R.length<=1:=sJ f hb h λk hk=>by
  obtain⟨j,rfl⟩:∃ j,k=j+1:=⟨k-1,()⟩;simp
 rw[vY f.pos (am hb) h l,Mn];rfl
theorem MB{P:List Int}(h:St ta ba tb bb P B)(h1:0<ba)(h2:0<bb)(x:Rat):E P B x=(ta:Rat) / (ba:Rat)*x+(tb:Rat) / (bb:Rat):=by
 have p:=ay h1 h2;have l:P.length<=2:=sJ h.1 p h.2 λk hk=>by
  obtain⟨j,rfl⟩:∃ j,k=j+2:=⟨k-2,()⟩;exact xZ _ _ _
 rw[vY h.1.pos (am p) h.2 l,MM];show (((tb*ba:Int):Rat)+((ta*bb:Int):Rat)*x) / ((ba*bb:Int):Rat)=_;rw[ar,ar,ar];have n1:=so h1;have n2:=so h2;grind
theorem Lo(x:Rat):E X 1 x=x:=by
 rw[Hn (by decide)];show ((0:Int):Rat) / ((1:Int):Rat)+((1:Int):Rat) / ((1:Int):Rat)*x=x;grind
def q(P:List Int)(B:Int)(k:Nat):Rat:=((P.getD k 0:Int):Rat) / (B:Rat)
theorem ye{R:List Int}{C c:Int}{f:Nat->Int}(hC:0<C)(hc:c≠0)(h:∀ k,R.getD k 0*c=f k*C)(k:Nat):q R C k=((f k:Int):Rat) / (c:Rat):=(tq (am hC) hc).mpr (h k)
theorem ux(h:P.length<=k):q P B k=0:=by
 unfold q;rw[ac,bt h];show ((0:Int):Rat) / _=0;grind
theorem uF(f:Po.Fm P B)(h:P≠[]):q P B (P.length-1)≠0:=by
 rcases f.last with e|e
 ·exact absurd e h
 ·unfold q;have n1:=sQ e;have n2:=so f.pos;intro z;generalize ((P.getD (P.length-1) 0:Int):Rat)=a at *;grind
theorem Hk(hg:∀ k,2<=k->g k=0):∀ n,cp g n n=g 1^n/\cp g (n+1) n=(n+1:Int)*g 1^n*g 0/\∀ k,n<k->cp g n k=0
 | 0=>by
  refine⟨by rw[aP];rfl,?_,λk hk=>by show (if k=0 then (1:Int) else 0)=0;rw[if_neg ()]⟩;rw[Mo];simp
 | n+1=>by
  obtain⟨h1,h2,h3⟩:=Hk hg n;have hz:∀(f:Nat->Int) (k:Nat),cv f g (k+1)=f (k+1)*g 0+f k*g 1:=λf k=>by
   rw[tL];have:tm g f 2 (k+1)=cv g f (k+1):=uD hg;rw[← this];show (0+(if 0<=k+1 then g 0*f (k+1-0) else 0))+(if 1<=k+1 then g 1*f (k+1-1) else 0)=_;rw[if_pos (),if_pos (),bA,aH];grind
  have a1:cp g (n+1) (n+1)=g 1^(n+1):=by
   show cv (cp g n) g (n+1)=_;rw[hz,h3 (n+1) (),h1,a6];grind
  refine⟨a1,?_,λk hk=>?_⟩
  ·show cv (cp g (n+1)) g (n+1)=_;rw[hz,a1,h2,a6];push_cast;grind
  ·obtain⟨j,rfl⟩:∃ j,k=j+1:=⟨k-1,()⟩;show cv (cp g n) g (j+1)=0;rw[hz,h3 (j+1) (),h3 j ()];simp
theorem GL(hg:∀ k,2<=k->g k=0)(n:Nat):pc F g U (n+1) n=F n*g 1^n*U/\(∀ k,n<k->pc F g U (n+1) k=0):=by
 have z:∀ n k,n<=k->pc F g U n k=0:=λn k hk=>by
  cases n with
  | zero=>rfl
  | succ n=>exact we (m:=2) hg (n+1) k ()
 refine⟨?_,λk hk=>z _ _ hk⟩;show (pc F g U n n+F n*cp g n n)*U=_;rw[z n n (af _),(Hk hg n).1];grind
theorem Ko{P G R:List Int}{B U C:Int}(f:Po.Fm P B)(fG:Po.Fm G U)(lG:G.length=2)(hP:P≠[])(g1:G.getD 1 0≠0)(h:Of P B G U R C) :
  R.length=P.length/\q R C (P.length-1)=q P B (P.length-1)*q G U 1^(P.length-1):=by
 have hB:=f.pos;have hU:=fG.pos;have hC:=h.1.pos;have hg:∀ k,2<=k->fn G k=0:=λk hk=>sx ();obtain⟨n,hn⟩:∃ n,P.length=n+1:=⟨P.length-1,by cases P;exact absurd rfl hP;simp⟩;have hW:=ay hB (pow_pos hU (n+1));have h2:=h.2;rw[hn] at h2;have e:=ye hC (am hW) h2 n;rw[(GL hg n).1,ar,ar,ar,cL,cL] at e;have nB:=so hB;have nU:=so hU;have nUn:=va nU n;have e2:q R C n=q P B n*q G U 1^n:=by
  rw[e];show ((P.getD n 0:Int):Rat)*((G.getD 1 0:Int):Rat)^n*(U:Rat) / ((B:Rat)*(U:Rat)^(n+1))=((P.getD n 0:Int):Rat) / (B:Rat)*(((G.getD 1 0:Int):Rat) / (U:Rat))^n;have p:=yi ((G.getD 1 0:Int):Rat) nU n;rw[← p,cK];generalize (((G.getD 1 0:Int):Rat) / (U:Rat))^n=Z;generalize (U:Rat)^n=W at *;grind
 have l1:R.length<=n+1:=sJ h.1 hW h2 λk hk=>(GL hg n).2 k ();rw[hn,aH];refine⟨?_,e2⟩;rcases aw R.length (n+1) with z|z
 ·have z1:=ux (B:=C) (show R.length<=n by lia);rw[z1] at e2;have z2:=uF f hP;rw[hn,aH] at z2;have z3:q G U 1≠0:=by
   unfold q;have n1:=sQ g1;generalize ((G.getD 1 0:Int):Rat)=a at *;intro z;grind
  have z4:=va z3 n;rcases de.mp e2.symm with w|w
  ·exact absurd w z2
  ·exact absurd w z4
 ·lia
end Qp
namespace L2
open PySem Qp
variable{K:Frag}{H H':Hp}{v:V}{r:Rat}{n b n' b':Nat}
theorem Fq.ne{p:Addr}{t u:Int}(hu:0<u)(e:r=(t:Rat) / (u:Rat)):r≠0↔t≠0:=by
 have n1:=so hu;subst e;constructor
 ·intro h z;subst z;refine h ?_;have:((0:Int):Rat)=0:=rfl;rw[this];grind
 ·intro h z;have h':=sQ h;generalize (t:Rat)=a at *;grind
end L2
namespace Qp
open L2 Cv Hv Pc
theorem ub:E P B 0=q P B 0:=by
 unfold E q;have:∀ n,0<n->ei (fn P) 0 n=((P.getD 0 0:Int):Rat):=by
  intro n hn;induction n with
  | zero=>lia
  | succ n ih =>
   rw[ei];cases n with
   | zero =>
    rw[ei,cJ];show 0+((P.getD 0 0:Int):Rat)*1=_;grind
   | succ n =>
    rw[ih (),cK];grind
 cases hP:P.length with
 | zero =>
  have:P=[]:=bT.mp hP;subst this;show 0 / _=((0:Int):Rat) / _;rfl
 | succ n=>rw[this (n+1) ()]
theorem GI{B1 B2 C:Int}(h1:0<B1)(h2:0<B2)(hC:0<C)(h:∀ k,R.getD k 0*(B1*B2)=(P1.getD k 0*B2+P2.getD k 0*B1)*C)(k:Nat):q R C k=q P1 B1 k+q P2 B2 k:=by
 have e:=ye (f:=λk=>P1.getD k 0*B2+P2.getD k 0*B1) hC (am (ay h1 h2)) h k;rw[e];have n1:=so h1;have n2:=so h2;unfold q;simp only[ar,dE];grind
end Qp
namespace L2
open PySem PySem.Spec PyProof.Rows
section
variable{X:Cx}{e:Expr}{te:TE}{lo hi:Option Expr}{se:Expr}{tl th ts:TO}{pos p2:Pos}
def K2(X:Cx)(r:V->Option Int->Option Int->Option Int->Hp->VK->Prop):Prop :=
 ∀(pins:List (Addr×Obj)) (s:Shared) (σ:St) (H:Hp) (x:V) (v vl vu vs:Value) (lo hi st:Option Int) (sl:Addr) (Q:VK),Inv X pins σ H s->RelV x v->s.heap.IsSliceOf sl vl vu vs->IsPart vl lo->IsPart vu hi->IsPart vs st->r x lo hi st H Q ->
  ∃ T id,typeLookup (.type T) "__getitem__" = pure (some (.builtin id))/\s.TypeIs v T/\wpAny (model X.prog X.w) X.A (getItem v (.ref sl)) (EP X pins σ Q) X.xe s
def Ls(r:V->Option Int->Option Int->Option Int->Hp->VK->Prop)(te:TE)(tl th ts:TO):TE:=λσ H Q=>te σ H λx H1=>tl σ H1 λl H2=>th σ H2 λu H3=>ts σ H3 λk H4=>r x l u k H4 Q
theorem Ce(hr:K2 X r)(he:PE X e te)(hl:PO X lo tl)(hu:PO X hi th)(hs:PO X (some se) ts):PE X (.Subscript e (.Slice lo hi (some se) p2) pos) (Ls r te tl th ts):=by
 intro pins s σ H Q I h;refine Subscript_ (sS (he pins s σ H _ I h) λv s1 ⟨x,H1,I1,r1,q1⟩=>?_);refine wpAny_Slice (sS (hl pins s1 σ H1 _ I1 q1) λvl s2 ⟨l,H2,I2,pl,q2⟩=>sS (hu pins s2 σ H2 _ I2 q2) λvu s3 ⟨u,H3,I3,pu,q3⟩=>sS (hs pins s3 σ H3 _ I3 q3) λvs s4 ⟨k,H4,I4,pk,q4⟩=>?_);have I5:Inv X pins σ H4 { s4 with heap:=s4.heap.push { cls:=.type "slice",data:=.fields #[vl,vu,vs] } }:=I4.kept (t':=s4.toks) λb ob q=>ηH _ q;obtain⟨T,id,hT,ht,hg⟩:=hr pins { s4 with heap:=s4.heap.push { cls:=.type "slice",data:=.fields #[vl,vu,vs] } } σ H4 x v vl vu vs l u k s4.heap.objs.size Q I5 r1 (Heap.IsSliceOf.new ..) pl pu pk q4;show wpAny (model X.prog X.w) X.A (subscriptTail e (.Slice lo hi (some se) p2) v (.ref s4.heap.objs.size)) (EP X pins σ Q) X.xe { s4 with heap:=s4.heap.push { cls:=.type "slice",data:=.fields #[vl,vu,vs] } };exact tail_any (ops:=[v,.ref s4.heap.objs.size]) ht hT hg (by with_unfolding_all rfl)
theorem LP(K:Frag)(hK:X.K=K:=by rfl):K2 X (λx lo hi st H Q=>lo=none/\hi=none/\st=some (-1)/\∃ a xs,x = .ref a/\SqL K H a xs/\∀ p,H p=none->Q (.ref p) (tv H p (.lst xs.reverse))):=by
 subst hK;intro pins s σ H x v vl vu vs lo hi st sl Q I rx hs pl pu pk h;obtain⟨rfl,rfl,rfl,a,xs,rfl,hx,q⟩:=h;cases rx;obtain⟨its,r,ht,hz⟩:=I.list hx;have hlen:=r.length;refine⟨"list",_,slot_list_getitem.lookup,ht.isList.typeIs,?_⟩;refine wpAny_getItem_list_slice ht.isList hs pl pu pk (by decide) ?_ (by rw[ao] <;> lia);rw[PySem.W.krv_pick];refine⟨.ref s.heap.objs.size,_,I.laid (t':=s.toks) (o:=.lst xs.reverse) (λb ob q=>ηH _ q) (af _) ?_,rfl,q _ (I.hok.fresh (af _))⟩;exact⟨by rw[a5];exact hz,its.reverse,0,r.reverse,ηG _ rfl⟩
end
def K3(K:Frag)(H:Hp)(v:V)(P:List Int)(B:Int):Prop:=∃ a t,v = .ref a/\SqT K H a [.ref t,.int B]/\SqT K H t (P.map V.int)
theorem Pol.k{K:Frag}{H:Hp}{v:V}{P:List Int}{B:Int}(h:Pol H v P B):K3 K H v P B:=by
 obtain⟨a,t,e,h1,h2⟩:=h;exact⟨a,t,e,SqT.of h1,SqT.of h2⟩
instance coePolK {K:Frag}{H:Hp}{v:V}{P:List Int}{B:Int}:Coe (Pol H v P B) (K3 K H v P B):=⟨Pol.k⟩
end L2
namespace Ca
open Cv
theorem u8(F G:Nat->Int)(n:Nat):sm (λj=>F j+G j) n=sm F n+sm G n:=by
 induction n with
 | zero=>rfl
 | succ n ih=>rw[sm,sm,sm,ih];lia
theorem HI(h:∀ j,j<n->d∣F j):d∣sm F n:=by
 induction n with
 | zero=>exact gK d
 | succ n ih=>exact eZ (ih λj hj=>h j ()) (h n ())
theorem xQ{f g f' g':Nat->Int}{k:Nat}(h:∀ j,j<=k->f j=f' j)(h':∀ j,j<=k->g j=g' j):cv f g k=cv f' g' k :=
 sF λj hj=>by rw[h j (),h' (k-j) ()]
theorem BO(f f' g:Nat->Int)(k:Nat):cv (λj=>f j+f' j) g k=cv f g k+cv f' g k:=by
 unfold cv;rw[← u8];exact sF λj _=>e6 ..
theorem AR(f g:Nat->Int)(c:Int)(k:Nat):cv (λj=>c*f j) g k=c*cv f g k:=by
 rw[bo,← tY];exact sW (λj=>bo _ _) λ_=>rfl
theorem EB(f g:Nat->Int)(c:Int)(k:Nat):cv f (λj=>c*g j) k=c*cv f g k:=by
 rw[tL,AR,tL]
theorem zw(f g:Nat->Int)(k:Nat):cv f g (k+1)=f 0*g (k+1)+cv (λj=>f (j+1)) g k:=by
 unfold cv;rw[uV];congr 1;exact sF λj _=>by rw[show k+1-(j+1)=k-j by lia]
theorem AT(f g:Nat->Int):cv f g 0=f 0*g 0:=by simp[cv,sm]
theorem vz(f g h:Nat->Int)(k:Nat):cv (cv f g) h k=cv f (cv g h) k:=by
 induction k generalizing f g h with
 | zero=>rw[AT,AT,AT,AT,bC]
 | succ k ih =>
  rw[zw (cv f g) h,zw f (cv g h),AT];have e:cv (λj=>cv f g (j+1)) h k=cv (λj=>f 0*g (j+1)+cv (λj=>f (j+1)) g j) h k:=sW (λj=>zw f g j) λ_=>rfl;rw[e,BO,AR,ih,zw g h];grind
theorem AS(f g:Nat->Int)(k:Nat):cv f g (k+1)=f 0*g (k+1)+sm (λj=>f (j+1)*g (k-j)) k+f (k+1)*g 0:=by
 rw[zw];unfold cv;rw[sm,a9];exact (Int.add_assoc ..).symm
def pw(g:Nat->Int):Nat->Nat->Int
 | 0=>λj=>if j=0 then 1 else 0
 | m+1=>cv (pw g m) g
theorem B6(h:g 0=1):∀ m,pw g m 0=1
 | 0=>rfl
 | m+1=>by show cv _ _ 0=1;rw[AT,B6 h m,h];rfl
theorem Ak(h:g 0=1)(hg:∀ i,k∣g (i+1)):∀ m i,(k*k∣pw g m (i+1)-m*g (i+1))/\k∣pw g m (i+1)
 | 0,i=>⟨by simp[pw],by simp[pw]⟩
 | m+1,i=>by
  obtain⟨a,b⟩:=Ak h hg m i;have e:pw g (m+1) (i+1)=cv (pw g m) g (i+1):=rfl;rw[AS,B6 h,h] at e;have d:k*k∣sm (λj=>pw g m (j+1)*g (i-j)) i:=HI λj hj=>by
   rw[show i-j=(i-j-1)+1 by lia];exact gn (Ak h hg m j).2 (hg _)
  have q:k*k∣pw g (m+1) (i+1)-(m+1:Nat)*g (i+1):=by
   rw[show pw g (m+1) (i+1)-((m+1:Nat):Int)*g (i+1)=sm (λj=>pw g m (j+1)*g (i-j)) i+(pw g m (i+1)-m*g (i+1)) by rw[e];grind];exact eZ d a
  refine⟨q,?_⟩;have q2:k∣pw g (m+1) (i+1)-(m+1:Nat)*g (i+1):=dZ (dY k k) q;have q3:k∣((m+1:Nat):Int)*g (i+1):=gC (hg i);have:=eZ q2 q3;rwa [g7] at this
theorem yg(h:g 0=1)(hh:∀ i,i<=s->g' i=g i):∀ m,(∀ i,i<=s->pw g' m i=pw g m i)/\pw g' m (s+1)=pw g m (s+1)+m*(g' (s+1)-g (s+1))
 | 0=>⟨λ_ _=>rfl,by simp[pw]⟩
 | m+1=>by
  obtain⟨a,b⟩:=yg h hh m;have h':g' 0=1:=by rw[hh 0 (aB _),h]
  refine⟨λi hi=>xQ (λj hj=>a j ()) λj hj=>hh j (),?_⟩;show cv (pw g' m) g' (s+1)=cv (pw g m) g (s+1)+_;rw[AS,AS,B6 h',B6 h,h,h',b];have:sm (λj=>pw g' m (j+1)*g' (s-j)) s=sm (λj=>pw g m (j+1)*g (s-j)) s:=sF λj hj=>by rw[a (j+1) (),hh (s-j) ()]
  rw[this];grind
theorem HN{a:Nat->Int}{k:Nat}(hk:0<k)(h0:a 0=1)(ha:∀ i,(k*k:Int)∣a (i+1)):∀ s:Nat,∃ g:Nat->Int,g 0=1/\(∀ i,(k:Int)∣g (i+1))/\∀ j,j<=s->pw g k j=a j
 | 0=>⟨λi=>if i=0 then 1 else 0,rfl,λi=>by simp,λj hj=>by
   rw[show j=0 by lia,h0];exact B6 (by rfl) k⟩
 | s+1=>by
  obtain⟨g,g0,gd,ge⟩:=HN hk h0 ha s;have m1:=(Ak g0 gd k s).1;have m2:(k*k:Int)∣pw g k (s+1):=by
   have:(k*k:Int)∣k*g (s+1):=gn (gL _) (gd s);have:=eZ m1 this;rwa [g7] at this
  obtain⟨t,ht⟩:=Int.dvd_sub (ha s) m2;have hh:∀ i,i<=s->(if i=s+1 then g i+k*t else g i)=g i:=λi hi=>if_neg ();have P:=yg (g':=λi=>if i=s+1 then g i+k*t else g i) g0 hh k;refine⟨λi=>if i=s+1 then g i+k*t else g i,?_,λi=>?_,λj hj=>?_⟩
  ·exact (hh 0 (aB _)).trans g0
  ·show (k:Int)∣if i+1=s+1 then _ else _;split
   ·exact eZ (gd i) (dY _ _)
   ·exact gd i
  ·rcases aw s j with c|c
   ·rw[show j=s+1 by lia,P.2];simp only[if_true];grind
   ·rw[P.1 j c,ge j c]
def th(f:Nat->Int):Nat->Int:=λj=>j*f j
theorem JK(f g:Nat->Int)(k:Nat):th (cv f g) k=cv (th f) g k+cv f (th g) k:=by
 unfold th cv;rw[← u8,bo,← um];refine sF λj hj=>?_;have:((k-j:Nat):Int)=k-j:=by lia
 show f j*g (k-j)*k=j*f j*g (k-j)+f j*(((k-j:Nat):Int)*g (k-j));rw[this];grind
theorem Gz(g:Nat->Int):∀ m j,cv (th (pw g m)) g j=m*cv (pw g m) (th g) j
 | 0,j=>by
  rw[Int.natCast_zero,ax];refine v5 λi=>?_;show (i:Int)*(if i=0 then 1 else 0)=0;split
  ·rw[‹i=0›];rfl
  ·exact bP _
 | m+1,j=>by
  have e:cv (th (pw g (m+1))) g j=cv (λi=>cv (th (pw g m)) g i+cv (pw g m) (th g) i) g j:=sW (λi=>JK _ _ i) λ_=>rfl;have e1:cv (cv (th (pw g m)) g) g j=cv (λi=>m*cv (pw g m) (th g) i) g j:=sW (λi=>Gz g m i) λ_=>rfl;have e2:cv (cv (pw g m) (th g)) g j=cv (pw g (m+1)) (th g) j:=by
   rw[vz];show _=cv (cv (pw g m) g) (th g) j;rw[vz];exact sW (λ_=>rfl) λi=>tL _ _ i
  rw[e,BO];have e3:cv (λi=>cv (th (pw g m)) g i) g j=m*cv (pw g (m+1)) (th g) j:=by
   refine Eq.trans (show _=cv (cv (th (pw g m)) g) g j from rfl) ?_;rw[e1,AR,← e2]
  have e4:cv (λi=>cv (pw g m) (th g) i) g j=cv (pw g (m+1)) (th g) j:=e2;rw[e3,e4];grind
theorem step{a g:Nat->Int}{k s j:Nat}(g0:g 0=1)(h0:a 0=1)(h:∀ j,j<=s->pw g k j=a j)(hj:j<=s) :
  sm (λi=>(((i+1:Nat):Int)*(k+1)-j*k)*a (i+1)*g (j-(i+1))) j=j*k*g j:=by
 have e:=Gz g k j;have e1:cv (th (pw g k)) g j=cv (th a) g j:=xQ (λi hi=>by unfold th;rw[h i ()]) λ_ _=>rfl;have e2:cv (pw g k) (th g) j=cv a (th g) j:=xQ (λi hi=>h i ()) λ_ _=>rfl;rw[e1,e2] at e;unfold cv at e;rw[uV,uV] at e;have z:th a 0=0:=by simp[th]
 have z2:th g (j-0)=j*g j:=rfl;rw[z,z2,h0,ax,bO,bK,Int.mul_add] at e;have q:sm (λi=>(((i+1:Nat):Int)*(k+1)-j*k)*a (i+1)*g (j-(i+1))) j=sm (λi=>th a (i+1)*g (j-(i+1))+a (i+1)*th g (j-(i+1))*(-k)) j:=sF λi hi=>by
  unfold th;have:((j-(i+1):Nat):Int)=j-(i+1:Nat):=by lia
  rw[this];grind
 rw[q,u8,um (λi=>a (i+1)*th g (j-(i+1)))];grind
end Ca
namespace Ca
open Cv L2
theorem Fj{a g:Nat->Int}{k s A:Nat}(hk:0<k)(k7:k<=100)(s7:s<=100)(g0:g 0=1)(ha:∀ i,Lt2 A (a i))
  (h:∀ j,j<=s->sm (λi=>(((i+1:Nat):Int)*(k+1)-j*k)*a (i+1)*g (j-(i+1))) j=j*k*g j):∀ j,j<=s->Lt2 ((A+22)*j+1) (g j):=by
 intro j;induction j using Nat.strongRecOn with
 | ind j ih =>
  intro hj;rcases bX j with e|e
  ·subst e;rw[g0];exact Lt2.mono (n:=1) (by unfold Lt2;decide) ()
  ·have e1:=h j hj;have m1:(A+22)*j=(A+22)*(j-1)+(A+22):=by
    rw[show j=(j-1)+1 by lia,bI];rfl
   have hF:∀ i,i<j->Lt2 (15+A+((A+22)*(j-1)+1)) ((((i+1:Nat):Int)*(k+1)-j*k)*a (i+1)*g (j-(i+1))):=λi hi=>by
    have c1:(i+1)*(k+1)<=100*101:=aW () ();have c2:j*k<=100*100:=aW () ();have l1:Lt2 15 (((i+1:Nat):Int)*(k+1)-j*k):=by
     have c1':(((i+1:Nat):Int)*(k+1))=(((i+1)*(k+1):Nat):Int):=by push_cast;rfl
     have c2':((j:Int)*k)=((j*k:Nat):Int):=by push_cast;rfl
     rw[c1',c2'];unfold Lt2;lia
    have l3:=(ih (j-(i+1)) () ()).mono (m:=(A+22)*(j-1)+1) (fL (ae _ ()));exact (l1.mul (ha _)).mul l3
   have b:=Bc (b:=7) (i:=j) () hF;rw[e1] at b;have p:(g j).natAbs<=((j:Int)*k*g j).natAbs:=by
    rw[aT];refine aO _ ?_;have:0<j*k:=f7 e hk;have q:((j:Int)*k)=((j*k:Nat):Int):=by push_cast;rfl
    rw[q];lia
   unfold Lt2;rw[show (A+22)*j+1=7+(15+A+((A+22)*(j-1)+1)) by lia,du];refine bJ (aE p b) ?_;exact cO (show j<2^7 by lia) (bM (by decide))
theorem HE(ns:List Int):ns.sum=sm (λi=>ns.getD i 0) ns.length:=by
 induction ns with
 | nil=>rfl
 | cons n ns ih =>
  rw[List.sum_cons,br,uV,ih];rfl
theorem Hd{P:Nat->Int}{n k:Nat}{c l:Int}(hl:P n=l)(h0:l≠0)(hc:c=((l.natAbs:Nat):Int)*k*k) :
  ∀ j,j<=n->l*(P (n-j)*c^j).fdiv l=P (n-j)*c^j/\(j=0->(P (n-j)*c^j).fdiv l=1)/\(0<j->(k*k:Int)∣(P (n-j)*c^j).fdiv l):=by
 intro j hj;cases j with
 | zero =>
  rw[bA,hl,aP,bx];have:l.fdiv l=1:=by
   have:=c7 1 h0;rwa [bK] at this
  rw[this];exact⟨bx _,λ_=>rfl,λh=>absurd h (bB _)⟩
 | succ j =>
  obtain⟨z,hz⟩:∃ z:Int,((l.natAbs:Nat):Int)=z*l/\True:=by
   rcases Int.natAbs_eq l with e|e
   ·exact⟨1,(),trivial⟩
   ·exact⟨-1,(),trivial⟩
  have e:P (n-(j+1))*c^(j+1)=(P (n-(j+1))*z*c^j*(k*k))*l:=by
   rw[a6];have:c=z*l*k*k:=by rw[hc,hz.1]
   calc P (n-(j+1))*(c^j*c)=P (n-(j+1))*c^j*c:=by grind
    _=P (n-(j+1))*c^j*(z*l*k*k):=congrArg _ this
    _=_:=by grind
  rw[e,c7 _ h0];exact⟨bo _ _,λh=>absurd h (),λ_=>Int.dvd_mul_left _ _⟩
def Cand(P:Nat->Int)(k s:Nat)(R:Nat->Int)(C:Int):Prop :=
 ∃(c:Int) (g:Nat->Int),0<c/\g 0=1/\(∀ j,j<s->P (k*s-j)*c^j=P (k*s)*pw g k j)/\(∀ i,i<s->R (s-i)*c^i=g i*C)/\R 0=0
theorem LN{c C:Int}{R g:Nat->Int}{s:Nat}(hc:0<c)(h:∀ m,m<s->R (m+1)*c^(s-1)=g (s-(m+1))*c^m*C):∀ i,i<s->R (s-i)*c^i=g i*C:=by
 intro i hi;have e:=h (s-i-1) ();rw[show s-i-1+1=s-i by lia,show s-(s-i)=i by lia,show s-1=(s-i-1)+i by lia,bS] at e;have p:c^(s-i-1)≠0:=bu ();refine av p ?_;grind
end Ca
namespace L2
open PySem
section
variable{X:Cx}
theorem vM:∀(ns:List Int) (n:Nat),n<=ns.length->preSum (λi=>ns.getD i 0) n=(ns.take n).sum
 | ns,0,_=>by simp[preSum]
 | ns,n+1,h=>by
  have e:ns.take (n+1)=ns.take n++[ns.getD n 0]:=by
   rw[List.take_succ,ac,aq ()];rfl
  rw[e,List.sum_append,← vM ns n ()];simp[preSum]
theorem LL(K:Frag)(hc:X.calm=true:=by rfl)(hK:X.K=K:=by rfl):CallR X (.builtin "sum") (λxs H Q=>∃ p,∃ ns:List Int,xs=[.ref p]/\SqL K H p (ns.map V.int)/\Q (.int ns.sum) H):=by
 subst hK;intro pins s σ H xs us Q I rv h;obtain⟨p,ns,rfl,hp,q⟩:=h;obtain⟨u,rfl,ru⟩:=rv.one;cases ru;obtain⟨its,rv',pl,_⟩:=I.list hp;obtain⟨ys,e1,e2⟩:=uT rv';subst e1;have hl:s.heap.IsList p (intItems ys.toArray):=by
  have:intItems ys.toArray=(ys.map (λp=>Value.int p.1 p.2)).toArray:=by simp[intItems]
  rw[this];exact pl.isList
 refine sum_intListG (I.ok.hd hc) hl λh' tk t' hk=>?_;refine⟨.int _,H,I.kept (t':=tk) hk,⟨t',rfl⟩,?_⟩;have:preSum (numAt ys.toArray) ys.toArray.size=ns.sum:=by
  have e:numAt ys.toArray=λi=>ns.getD i 0:=by
   funext i;rw[numAt_eq,← e2]
  have l:ys.toArray.size=ns.length:=by rw[← e2];simp
  rw[e,l,vM ns _ (af _),bW]
 rw[this];exact q
end
end L2
namespace L2
open PySem PySem.Spec PyProof.Rows
theorem BV{P:Program}{w:World}{K:Frag}{tg:Expr}(n:Nat)(a it:Addr):Turn P w K tg (⟨λi H=>i<n/\∃ xs x,SqL K H a xs/\xs.length=n/\xs.reverse[i]? = some x,λi H x H'=>H'=H/\∀ xs,SqL K H a xs->xs.reverse[i]? = some x,λi H=>i=n⟩:It) [it] it (λi h=>h.IsRevIter it a ((n:Int)-1-(i:Int))) where
 mem:=by simp
 obj:=λi h st b hb=>by
  have e:b=it:=by simpa using hb
  subst e;obtain⟨o,e,c,d⟩:=st;exact⟨o,e,λv z=>by rw[d] at z;cases z⟩
 keep:=λi h h' st k=>by
  obtain⟨o,e,r⟩:=st;exact⟨o,k it (by simp) o e,r⟩
 item:=by
  intro X hP hw hK hc i pins s σ H E I hf st hg;subst hP hw hK;obtain⟨hlt,xs,x,hq,hn,hx⟩:=hg;obtain⟨its,rv,p,hz⟩:=I.list hq;have hlen:=rv.length;rw[bE ()] at hx;obtain⟨u,hu,ru⟩:=rv.get hx;obtain⟨f0,f1,f2,f3,f4,f5⟩:=hf it (by simp);have e0:(n:Int)-1-(i:Int)=((xs.length-1-i:Nat):Int):=by lia
  have st':s.heap.IsRevIter it a ((xs.length-1-i:Nat):Int):=by rw[← e0];exact st
  refine wpAny_pyNext_rev_item (i:=xs.length-1-i) st' p.isList (x:=u) (by simpa using hu) λh' st2 sb=>?_;have I1:Inv X pins σ H { s with heap:=h' }:=I.turned (t':=s.toks) (λb o hb e=>(sb.2 b hb).trans e) f0 f1 f3 f4 f5;obtain⟨o,e,c,d⟩:=id st2;refine⟨u,rfl,zj (s:={ s with heap:=h' }) e c d (by decide) ⟨x,H,I1,ru,⟨rfl,λys hy=>?_⟩,?_,λb hb=>(hf b hb).1⟩⟩
  ·rw[I.list_inj hy hq,bE ()];exact hx
  ·show h'.IsRevIter it a ((n:Int)-1-((i+1:Nat):Int));rw[show (n:Int)-1-((i+1:Nat):Int)=((xs.length-1-i:Nat):Int)-1 by lia];exact st2
 done:=by
  intro X hP hw hK hc i pins s σ H E I hf st hg;subst hP hw hK;have hg':i=n:=hg;subst hg';obtain⟨f0,f1,f2,f3,f4,f5⟩:=hf it (by simp);have st':s.heap.IsRevIter it a (-1):=by
   have e:(i:Int)-1-(i:Int) = -1:=by lia
   rw[← e];exact st
  exact wpAny_pyNext_rev_end (I.ok.hd hc) st' λh' eb=>⟨rfl,I.turned (t':=s.toks) (λb o hb e=>eb b o hb e) f0 f1 f3 f4 f5⟩
 self:=λ_ _ _ _ _ st h=>wpAny_pyIter_revIter st h
theorem Cl:fillsNumberSlot (.type "tuple") "mul" = pure false:=PySem.fillsNumberSlot_seq (id := "tuple.__mul__") (r:=some (.builtin "tuple.__rmul__")) F.slot_tuple_mul.lookup (by decide +kernel) F.slot_tuple_rmul.lookup (by decide +kernel)
theorem HQ:seqRepeat? (.type "tuple")=pure (some (.builtin "tuple.__mul__")):=by
 unfold seqRepeat?;rw[PySem.seqSlot_of (T := "tuple") (name := "__mul__") (id := "tuple.__mul__") F.slot_tuple_mul.lookup (by decide +kernel),PySem.seqSlot_of (T := "tuple") (name := "__rmul__") (id := "tuple.__rmul__") F.slot_tuple_rmul.lookup (by decide +kernel)];rfl
theorem Fk(a:Int)(t:Tok)(l:Addr)(items:Array Value)(n:Nat)(dd:Option Addr)(sl:Array (Option Value)):Meets (Builtin.«int.__rmul__» ⟨[.int a t,.ref l],[]⟩) (λ_ R s=>s.heap.get? l=some { cls:=.type "tuple",dict:=dd,data:=.seq items n,slots:=sl }/\R (.ok (.ret Value.notImplemented)) s) :=
 .of_wp λprog w A R s h=>by obtain⟨p1,p2,p3,p4,p5⟩:=s;obtain⟨hl,h⟩:=h;wp_walk;exact⟨_,rfl,h⟩
theorem FX(l:Addr)(items:Array Value)(n:Nat)(u:Tok)(dd:Option Addr)(sl:Array (Option Value)):Meets (Builtin.«tuple.__mul__» ⟨[.ref l,.int 1 u],[]⟩) (λ_ R s=>s.heap.get? l=some { cls:=.type "tuple",dict:=dd,data:=.seq items n,slots:=sl }/\R (.ok (.ret (.ref l))) s) :=
 .of_wp λprog w A R s h=>by
  obtain⟨p1,p2,p3,p4,p5⟩:=s;obtain⟨hl,h⟩:=h;have f2:=AutoSeq1.sub_tuple_tuple
  wp_walk using AutoSeq1.wpAny_loadPart' hl
  exact⟨_,rfl,h⟩
theorem FW(l:Addr)(items:Array Value)(n:Nat)(x:Int)(u:Tok)(dd:Option Addr)(sl:Array (Option Value))(h0:items.isEmpty=false)(h1:¬ (decide (x < -(2^63)) || decide (x ≥ 2^63))=true)(h2:(x == 1)=false)(h3:¬ x<=0)(h4:¬ (items.size:Int)*x > (2^63-1) / 8)(h5:Builtin.Tuple.tupleTooMany ((items.size:Int)*x)=false)(h6:(List.foldl (λx1 x2=>x1++x2) #[] (List.replicate x.toNat items)).size<=sizeLine) :
  Meets (Builtin.«tuple.__mul__» ⟨[.ref l,.int x u],[]⟩) (λ_ R s=>s.heap.get? l=some { cls:=.type "tuple",dict:=dd,data:=.seq items n,slots:=sl }/\R (.ok (.ret (.ref s.heap.objs.size))) { s with heap:=s.heap.push { cls:=.type "tuple",data:=.seq (List.foldl (λx1 x2=>x1++x2) #[] (List.replicate x.toNat items)) } }) :=
 .of_wp λprog w A R s h=>by
  obtain⟨p1,p2,p3,p4,p5⟩:=s;obtain⟨hl,h⟩:=h;have f2:=AutoSeq1.sub_tuple_tuple
  wp_walk using AutoSeq1.wpAny_loadPart' hl
  rw[if_neg h1]
  wp_walk using AutoSeq1.wpAny_loadPart' hl
  rw[if_neg h4]
  wp_walk
  exact⟨_,rfl,h⟩
def J3(K:Frag):R2:=λx y H Q=>∃ l xs,∃ k:Nat,x = .ref l/\y = .int k/\SqT K H l xs/\xs≠[]/\1<=k/\xs.length*k<=100000/\(k=1->Q (.ref l) H)/\(k≠1->∀ p,H p=none->Q (.ref p) (tv H p (.tup (List.replicate k xs).flatten)))
theorem FG:OpR X (binaryOp .Mult) (J3 X.K):=by
 intro pins s σ H x y v u Q I rx ry h;obtain⟨l,xs,k,rfl,rfl,hH,hne,hk,hz,q1,q2⟩:=h;cases rx;obtain⟨t,rfl⟩:=ry;obtain⟨its,rv,p,hz2⟩:=I.tuple hH;obtain⟨⟨cls,dd,data,sl⟩,e,hc,n,hd⟩:=p;simp only at hc hd;subst hc hd;have hl:=rv.length;have sz:100000<=sizeLine:=by rw[sizeLine_eq];decide
 have go:∀ z:Int,z=(k:Int)->wpAny (model X.prog X.w) X.A (call (.builtin "tuple.__mul__") [.ref l,.int z t]) (EP X pins σ Q) X.xe s:=by
  rintro z hzk;by_cases h1:k=1
  ·rw[show z=1 by lia];exact call_meets F.slot_tuple_mul ⟨_,e,rfl⟩ F.entry_tuple_mul (F.args_tuple_mul_2 _ _) (FX l its.toArray n t dd sl) ⟨e,⟨.ref l,H,I,rfl,q1 h1⟩⟩
  ·have f0:∀ m:Nat,List.foldl (λx1 x2=>x1++x2) #[] (List.replicate m its.toArray)=(List.replicate m its).flatten.toArray:=λm=>by
    have:=vQ its m [];rw[gh] at this;exact this
   have zk:z.toNat=k:=by lia
   have im:(its.toArray.size:Int)*z=((xs.length*k:Nat):Int):=by rw[hzk,ao,← hl];exact (Int.natCast_mul _ _).symm
   refine call_meets F.slot_tuple_mul ⟨_,e,rfl⟩ F.entry_tuple_mul (F.args_tuple_mul_2 _ _) (FW l its.toArray n z t dd sl ?_ ?_ ?_ ?_ ?_ ?_ ?_) ⟨e,?_⟩
   ·cases its with
    | nil=>exact absurd (bT.mp hl) hne
    | cons=>rfl
   ·simp;have:xs.length*k ≥ k:=aO _ (cV.mpr hne);lia
   ·have:z≠1:=by lia
    simpa using this
   ·lia
   ·rw[im];lia
   ·unfold Builtin.Tuple.tupleTooMany;rw[im];exact decide_eq_false ()
   ·rw[f0,zk,ao,yq,← hl,aU];lia
   ·rw[f0,zk];refine⟨.ref _,_,I.laid (o:=.tup (List.replicate k xs).flatten) (t':=s.toks) (λb u e=>ηH _ e) (af _) ⟨?_,(List.replicate k its).flatten,rv.rep k,⟨_,ηG _ rfl,rfl,_,rfl⟩⟩,rfl,q2 h1 _ I.fresh⟩;rw[yq,aU];lia
 generalize hzk:(k:Int)=z;refine wpAny_binaryOp_repeat_ref (T := "tuple") (U := "int") (by decide) ⟨_,e,rfl⟩ (λs'=>typeIs_int s' z t) Cl F.fills_int_mul F.slot_int_rmul HQ F.slot_int_index.lookup
  (call_meets F.slot_int_rmul (typeIs_int s z t) F.entry_int_rmul (F.args_int_rmul_2 _ _) (Fk z t l its.toArray n dd sl) ⟨e,rfl,⟨_,e,rfl⟩,go z hzk.symm⟩)
def KK(C:Addr)(d:Option Addr)(u:Addr):Obj:={ cls:=.ref C,dict:=d,data:=.fields #[.ref u,.none,.none,.none,.bool false,.none] }
def Lh(a C:Addr)(d:Option Addr)(u:Addr):HO:=.ext λh=>h.get? a=some (KK C d u)
end L2
set_option maxHeartbeats 1000000
namespace L2
open PySem PySem.Spec PyProof.Rows
theorem KV.at:∀{kvs:List (wp×V)} {vs:List (wp×Value)} {j:Nat} {kv:wp×V},KV kvs vs->kvs[j]? = some kv->∃ u,vs[j]? = some (kv.1,u)/\RelV kv.2 u
 | _,_,0,_,.cons (b:=q) r t,h=>by cases h;exact⟨q.2,by rw[r.1];rfl,r.2⟩
 | _,_,j+1,_,.cons r t,h=>by
  rw[cE] at h;obtain⟨u,e1,e2⟩:=KV.at t h;exact⟨u,by rw[cE];exact e1,e2⟩
section
variable{X:Cx}
def J7:R2:=λx y H Q=>∃ p kvs k v,x = .ref p/\y=kV k/\H p=some (.dK kvs)/\(k,v)∈kvs/\Q v H
theorem F1:IxR X J7:=by
 intro value slice pins s σ H x y v u Q I rx ry h hs;obtain⟨p,kvs,k,z,rfl,rfl,hq,he,q⟩:=h;cases rx;obtain⟨hz,hn,vs,rel,dd⟩:kvs.length<=sizeLine/\(p == sysModules)=false/\∃ vs,KV kvs vs/\s.heap.DictOf (vt X.prog X.w) p vs:=I.hok p _ hq;obtain⟨j,hj⟩:=bz.mp he;obtain⟨w,ew,rw'⟩:=rel.at hj;have hk:(vt X.prog X.w).is k u=true:=by
  cases k with
  | inl i=>obtain⟨t,rfl⟩:=ry;exact Cw i t
  | inr x=>obtain⟨t,rfl⟩:=ry;exact Cu x t
 have dd':=dd;obtain⟨o,es,ep,g1,g2,g3,g4,g5,nd⟩:=dd';have hat:valueAt vs k=some w:=by
  unfold valueAt;have hm:(k,w)∈vs:=aL ew;clear dd g3 g4 g5 rel ew;induction vs with
  | nil=>cases hm
  | cons a vs ih =>
   rw[dU,dw] at nd;rcases au.mp hm with e|e
   ·subst e;simp
   ·have:a.1≠k:=λz=>nd.1 (by rw[z];exact dq.mpr ⟨_,e,rfl⟩);rw[List.find?_cons];rw[decide_eq_false this];exact ih nd.2 e
 have fin:EP X pins σ Q w { s with toks:=s.toks+1 }:=⟨z,H,I.tok _,rw',q⟩;exact subscriptTail_builtinR (x:=w) (T := "dict") ⟨o,g1,g2.1⟩ PySem.F.slot_dict_getitem.lookup (wpAny_getItem_of (Q:=λr s'=>r=w/\EP X pins σ Q r s') hk dd.mapOf hat ⟨rfl,fin⟩) hs
end
end L2
namespace Dp
open PySem L2
abbrev St:=L2.St
def Fl(H:Hp)(f:Addr):Prop:=∃(l:Addr) (ns:List Int) (i c a b:Int),H f=some (.lst [.ref l,.int i,.int c,.int a,.int b])/\H l=some (.lst (ns.map V.int))/\ns.length<=63/\0<=i/\i<=(ns.length:Int)/\0<=c/\0<=a/\a<2147483647
theorem Fl.same(F:Fl H f)(e:Same H H'):Fl H' f:=by
 obtain⟨l,ns,i,c,a,b,h1,h2,h⟩:=F;exact⟨l,ns,i,c,a,b,e _ _ h1,e _ _ h2,h⟩
theorem Fl.lst{H:Hp}{f:Addr}(F:Fl H f):∃ xs,H f=some (.lst xs):=by
 obtain⟨l,ns,i,c,a,b,h1,_⟩:=F;exact⟨_,h1⟩
inductive D where
 | non|bl (b:Bool)|int (i:Int)|str (x:Str)|tup (l:List D)|lst (l:List D)|fl
  | exn (C:Addr) (x:Str) (l:List D)
  | dct (ks:List wp) (l:List D)
def XO(H:Hp)(a C:Addr)(x:Str)(us:List V):Prop:=(us=[]/\∃ u,H a=some (Lh a C none u))\/∃ dx u y,us=[y]/\H a=some (Lh a C (some dx) u)/\H dx=some (.xd [(x,y)])
mutual
def Rp(K:Frag)(f:Addr)(O:List Addr)(H:Hp):D->V->Prop
 | .non,v=>v = .non
 | .bl b,v=>v = .bl b
 | .int i,v=>v = .int i
 | .str x,v=>v = .str x
 | .tup l,v=>∃ a xs,v = .ref a/\SqT K H a xs/\Rps K f O H l xs
 | .lst l,v=>∃ a xs,v = .ref a/\a ∉ O/\H a=some (.lst xs)/\Rps K f O H l xs
 | .fl,v=>v = .ref f
 | .exn C x l,v=>∃ a us,v = .ref a/\XO H a C x us/\Rps K f O H l us
 | .dct ks l,v=>∃ a us,v = .ref a/\H a=some (.dK (ks.zip us))/\ks.length=us.length/\Rps K f O H l us
def Rps(K:Frag)(f:Addr)(O:List Addr)(H:Hp):List D->List V->Prop
 | [],vs=>vs=[]
 | d::ds,vs=>∃ v r,vs=v::r/\Rp K f O H d v/\Rps K f O H ds r
end
structure Ex (f:Addr)(H H':Hp):Prop where
 sm:Sm f H H'
 fl:Fl H' f
theorem Ex.refl(h:Fl H f):Ex f H H:=⟨Sm.refl H,h⟩
theorem Ex.trans(a:Ex f H H1)(b:Ex f H1 H2):Ex f H H2:=⟨a.sm.trans b.sm,b.fl⟩
theorem Ex.new(F:Fl H f)(h:H p=none)(o:HO):Ex f H (tv H p o):=⟨Sm.new h o,F.same (Same.new h o)⟩
variable{K:Frag}{f:Addr}{O O':List Addr}{H H':Hp}
def Kp(O:List Addr)(H H':Hp):Prop:=∀ b o,b ∉ O->H b=some o->H' b=some o
theorem Ex.kp(e:Ex f H H')(h:f∈O):Kp O H H':=λb o n q=>e.sm.app b o (λz=>n (z ▸ h)) q
theorem _root_.L2.SqT.kp(e:Kp O H H')(hO:∀ b∈O,∃ xs,H b=some (.lst xs))(h:SqT K H a xs):SqT K H' a xs:=by
 rcases h with (h|⟨o,h⟩)|h
 ·refine .inl (.inl (e a _ (λz=>?_) h));obtain⟨xs,q⟩:=hO a z;rw[q] at h;cases h
 ·refine .inl (.inr ⟨o,e a _ (λz=>?_) h⟩);obtain⟨xs,q⟩:=hO a z;rw[q] at h;cases h
 ·exact .inr h
theorem XO.kp(e:Kp O H H')(hO:∀ b∈O,∃ xs,H b=some (.lst xs))(h:XO H a C x us):XO H' a C x us:=by
 rcases h with⟨e1,u,h⟩|⟨dx,u,y,e1,h,hd⟩
 ·refine .inl ⟨e1,u,e a _ (λz=>?_) h⟩;obtain⟨xs,q⟩:=hO a z;rw[q] at h;unfold Lh at h;cases h
 ·refine .inr ⟨dx,u,y,e1,e a _ (λz=>?_) h,e dx _ (λz=>?_) hd⟩
  ·obtain⟨xs,q⟩:=hO a z;rw[q] at h;unfold Lh at h;cases h
  ·obtain⟨xs,q⟩:=hO dx z;rw[q] at hd;cases hd
mutual
theorem Rp.kp(e:Kp O H H')(hO:∀ b∈O,∃ xs,H b=some (.lst xs)):∀{d:D} {v:V},Rp K f O H d v->Rp K f O H' d v
 | .non,_,h=>h
 | .bl _,_,h=>h
 | .int _,_,h=>h
 | .str _,_,h=>h
 | .fl,_,h=>h
 | .tup l,v,h=>by
  obtain⟨a,xs,e1,h1,h2⟩:=h;exact⟨a,xs,e1,h1.kp e hO,Rps.kp e hO h2⟩
 | .lst l,v,h=>by
  obtain⟨a,xs,e1,n,h1,h2⟩:=h;exact⟨a,xs,e1,n,e a _ n h1,Rps.kp e hO h2⟩
 | .exn C x l,v,h=>by
  obtain⟨a,us,e1,h1,h2⟩:=h;exact⟨a,us,e1,h1.kp e hO,Rps.kp e hO h2⟩
 | .dct ks l,v,h=>by
  obtain⟨a,us,e1,h1,h2,h3⟩:=h;exact⟨a,us,e1,e a _ (λz=>by obtain⟨xs,q⟩:=hO a z;rw[q] at h1;cases h1) h1,h2,Rps.kp e hO h3⟩
theorem Rps.kp(e:Kp O H H')(hO:∀ b∈O,∃ xs,H b=some (.lst xs)):∀{ds:List D} {vs:List V},Rps K f O H ds vs->Rps K f O H' ds vs
 | [],_,h=>h
 | d::ds,_,h=>by
  obtain⟨v,r,e1,h1,h2⟩:=h;exact⟨v,r,e1,Rp.kp e hO h1,Rps.kp e hO h2⟩
end
mutual
theorem Rp.less(e:∀ a∈O',a∈O):∀{d:D} {v:V},Rp K f O H d v->Rp K f O' H d v
 | .non,_,h=>h
 | .bl _,_,h=>h
 | .int _,_,h=>h
 | .str _,_,h=>h
 | .fl,_,h=>h
 | .tup l,v,h=>by
  obtain⟨a,xs,e1,h1,h2⟩:=h;exact⟨a,xs,e1,h1,Rps.less e h2⟩
 | .lst l,v,h=>by
  obtain⟨a,xs,e1,n,h1,h2⟩:=h;exact⟨a,xs,e1,λz=>n (e a z),h1,Rps.less e h2⟩
 | .exn C x l,v,h=>by
  obtain⟨a,us,e1,h1,h2⟩:=h;exact⟨a,us,e1,h1,Rps.less e h2⟩
 | .dct ks l,v,h=>by
  obtain⟨a,us,e1,h1,h2,h3⟩:=h;exact⟨a,us,e1,h1,h2,Rps.less e h3⟩
theorem Rps.less(e:∀ a∈O',a∈O):∀{ds:List D} {vs:List V},Rps K f O H ds vs->Rps K f O' H ds vs
 | [],_,h=>h
 | d::ds,_,h=>by
  obtain⟨v,r,e1,h1,h2⟩:=h;exact⟨v,r,e1,Rp.less e h1,Rps.less e h2⟩
end
theorem Rps.len:∀{ds:List D} {vs:List V},Rps K f O H ds vs->vs.length=ds.length
 | [],_,h=>by rw[show _=[] from h];rfl
 | d::ds,_,h=>by
  obtain⟨v,r,e1,h1,h2⟩:=h;rw[e1,br,br,Rps.len h2]
theorem Rps.get:∀{ds:List D} {vs:List V} {i:Nat} {d:D},Rps K f O H ds vs->ds[i]? = some d->∃ v,vs[i]? = some v/\Rp K f O H d v
 | [],_,_,_,_,e=>by simp at e
 | d0::ds,_,i,d,h,e=>by
  obtain⟨v,r,e1,h1,h2⟩:=h;subst e1;cases i with
  | zero =>
   simp at e;subst e;exact⟨v,rfl,h1⟩
  | succ i =>
   obtain⟨w,hw,h⟩:=Rps.get h2 (i:=i) (d:=d) (by simpa using e);exact⟨w,by simpa using hw,h⟩
theorem Rps.append:∀{ds es:List D} {vs ws:List V},Rps K f O H ds vs->Rps K f O H es ws->Rps K f O H (ds++es) (vs++ws)
 | [],_,_,_,h,t=>by rw[show _=[] from h];exact t
 | d::ds,_,_,_,h,t=>by
  obtain⟨v,r,e1,h1,h2⟩:=h;subst e1;exact⟨v,_,rfl,h1,Rps.append h2 t⟩
theorem Rps.take:∀{ds:List D} {vs:List V} (n:Nat),Rps K f O H ds vs->Rps K f O H (ds.take n) (vs.take n)
 | _,_,0,_=>by rw[dI,dI];rfl
 | [],_,n+1,h=>by rw[show _=[] from h];rfl
 | d::ds,_,n+1,h=>by
  obtain⟨v,r,e1,h1,h2⟩:=h;subst e1;exact⟨v,_,rfl,h1,Rps.take n h2⟩
theorem Rps.drop:∀{ds:List D} {vs:List V} (n:Nat),Rps K f O H ds vs->Rps K f O H (ds.drop n) (vs.drop n)
 | _,_,0,h=>h
 | [],_,n+1,h=>by rw[show _=[] from h];rfl
 | d::ds,_,n+1,h=>by
  obtain⟨v,r,e1,h1,h2⟩:=h;subst e1;exact Rps.drop n h2
theorem Rps.set(q:Rp K f O H d v):∀{ds:List D} {vs:List V} (n:Nat),Rps K f O H ds vs->Rps K f O H (ds.set n d) (vs.set n v)
 | [],_,n,h=>by rw[show _=[] from h];rfl
 | d0::ds,_,0,h=>by
  obtain⟨w,r,e1,h1,h2⟩:=h;subst e1;exact⟨v,_,rfl,q,h2⟩
 | d0::ds,_,n+1,h=>by
  obtain⟨w,r,e1,h1,h2⟩:=h;subst e1;exact⟨w,_,rfl,h1,Rps.set q n h2⟩
theorem Rps.reverse:∀{ds:List D} {vs:List V},Rps K f O H ds vs->Rps K f O H ds.reverse vs.reverse
 | [],_,h=>by rw[show _=[] from h];rfl
 | d::ds,_,h=>by
  obtain⟨v,r,e1,h1,h2⟩:=h;subst e1;rw[dN,dN];exact Rps.append (Rps.reverse h2) ⟨v,[],rfl,h1,rfl⟩
theorem Rps.flat(h:Rps K f O H ds vs):∀ n,Rps K f O H (List.replicate n ds).flatten (List.replicate n vs).flatten
 | 0=>rfl
 | n+1=>by
  rw[bF,bF,bY,bY];exact Rps.append h (Rps.flat h n)
theorem Rps.bls:∀{bs:List Bool} {vs:List V},Rps K f O H (bs.map D.bl) vs->vs=bs.map V.bl
 | [],_,h=>h
 | b::bs,_,h=>by
  obtain⟨v,r,e1,h1,h2⟩:=h;rw[e1,show v=_ from h1,Rps.bls h2];rfl
theorem Rps.ints:∀{bs:List Int} {vs:List V},Rps K f O H (bs.map D.int) vs->vs=bs.map V.int
 | [],_,h=>h
 | b::bs,_,h=>by
  obtain⟨v,r,e1,h1,h2⟩:=h;rw[e1,show v=_ from h1,Rps.ints h2];rfl
inductive SD where
 | no|val (d:D)|own (l:List D)
abbrev SD.vi(i:Int):SD:=.val (.int i)
abbrev SS:=List SD
structure SlD (K:Frag)(f:Addr)(O:List Addr)(σ:St)(H:Hp)(ss:SS):Prop where
 fl:Fl H f
 fO:f∈O
 al:∀ a∈O,∃ xs,H a=some (.lst xs)
 lO:∀ l r,H f=some (.lst (.ref l::r))->l ∉ O
 len:ss.length=σ.length
 val:∀(i:Nat) (d:D),ss[i]? = some (SD.val d)->∃ v,σ[i]? = some (some v)/\Rp K f O H d v
 own:∀(i:Nat) (l:List D),ss[i]? = some (SD.own l)->∃ a xs,σ[i]? = some (some (V.ref a))/\a∈O/\a≠f/\H a=some (.lst xs)/\Rps K f O H l xs
variable{σ:St}{ss:SS}
theorem SlD.ex(R:SlD K f O σ H ss)(e:Ex f H H'):SlD K f O σ H' ss where
 fl:=e.fl
 fO:=R.fO
 al:=λa h=>by
  by_cases z:a=f
  ·subst z;exact e.fl.lst
  ·obtain⟨xs,q⟩:=R.al a h;exact⟨xs,e.sm.app a _ z q⟩
 lO:=λl r h=>by
  obtain⟨l0,ns,i,c,a,b,h1,_⟩:=R.fl;obtain⟨r',h2⟩:=e.sm.key _ _ h1;rw[h2] at h;cases h;exact R.lO _ _ h1
 len:=R.len
 val:=λi d h=>by
  obtain⟨v,h1,h2⟩:=R.val i d h;exact⟨v,h1,h2.kp (e.kp R.fO) R.al⟩
 own:=λi l h=>by
  obtain⟨a,xs,h1,h2,h3,h4,h5⟩:=R.own i l h;exact⟨a,xs,h1,h2,h3,e.sm.app a _ h3 h4,h5.kp (e.kp R.fO) R.al⟩
theorem SlD.up(R:SlD K f O σ H ss)(e:Ex f H H')(h:Rp K f O H d v):Rp K f O H' d v:=h.kp (e.kp R.fO) R.al
theorem SlD.ups(R:SlD K f O σ H ss)(e:Ex f H H')(h:Rps K f O H d v):Rps K f O H' d v:=h.kp (e.kp R.fO) R.al
theorem SlD.new(R:SlD K f O σ H ss)(h:H p=none)(o:HO):Ex f H (tv H p o):=Ex.new R.fl h o
theorem SlD.nO(R:SlD K f O σ H ss)(h:H p=none):p ∉ O:=λz=>by
 obtain⟨xs,q⟩:=R.al p z;rw[h] at q;cases q
theorem SlD.lst(R:SlD K f O σ H ss){p:Addr}(h:H p=none){ds:List D}{xs:List V}(q:Rps K f O H ds xs):Rp K f O (tv H p (.lst xs)) (.lst ds) (.ref p) :=
 ⟨p,xs,rfl,R.nO h,sD,R.ups (R.new h _) q⟩
theorem SlD.tup(R:SlD K f O σ H ss){p:Addr}(h:H p=none){ds:List D}{xs:List V}(q:Rps K f O H ds xs):Rp K f O (tv H p (.tup xs)) (.tup ds) (.ref p) :=
 ⟨p,xs,rfl,SqT.of sD,R.ups (R.new h _) q⟩
structure TEd where
 run:SS->(D->Prop)->Prop
 mono:∀{ss Q Q'},(∀ d,Q d->Q' d)->run ss Q->run ss Q'
structure TTd where
 run:SS->(Bool->Prop)->Prop
 mono:∀{ss Q Q'},(∀ d,Q d->Q' d)->run ss Q->run ss Q'
structure TAd where
 run:SS->(List D->Prop)->Prop
 mono:∀{ss Q Q'},(∀ d,Q d->Q' d)->run ss Q->run ss Q'
structure TOd where
 run:SS->(Option Int->Prop)->Prop
 mono:∀{ss Q Q'},(∀ d,Q d->Q' d)->run ss Q->run ss Q'
structure TGd where
 tg:List Nat
 run:D->SS->(SS->Prop)->Prop
 mono:∀{d ss Q Q'},(∀ d,Q d->Q' d)->run d ss Q->run d ss Q'
def LE(K:Frag)(t:TEd):TE:=λσ H Q=>∃ f O ss,SlD K f O σ H ss/\t.run ss λd=>∀ v H',Ex f H H'->Rp K f O H' d v->Q v H'
def LT(K:Frag)(t:TTd):TT:=λσ H Q=>∃ f O ss,SlD K f O σ H ss/\t.run ss λd=>∀ H',Ex f H H'->Q d H'
def LA(K:Frag)(t:TAd):TA:=λσ H Q=>∃ f O ss,SlD K f O σ H ss/\t.run ss λds=>∀ vs H',Ex f H H'->Rps K f O H' ds vs->Q vs H'
def LO(K:Frag)(t:TOd):TO:=λσ H Q=>∃ f O ss,SlD K f O σ H ss/\t.run ss λd=>∀ H',Ex f H H'->Q d H'
abbrev MU:=List D->(D->Prop)->Prop
def yM(K:Frag)(n:Nat)(sp:MU):Sp:=λvs H Q _=>vs.length=n/\∃ f O ds,Fl H f/\f∈O/\(∀ a∈O,∃ xs,H a=some (.lst xs))/\(∀ l r,H f=some (.lst (.ref l::r))->l ∉ O)/\Rps K f O H ds vs/\sp ds λd=>∀ v H',Ex f H H'->Rp K f O H' d v->Q v H'
variable{X:Cx}
theorem _root_.L2.PE.weak(h:PE X e t)(w:∀ σ H Q,t' σ H Q->t σ H Q):PE X e t':=λpins s σ H Q I q=>h pins s σ H Q I (w σ H Q q)
theorem _root_.L2.PT.weak(h:PT X e t)(w:∀ σ H Q,t' σ H Q->t σ H Q):PT X e t':=λpins s σ H Q I q=>h pins s σ H Q I (w σ H Q q)
theorem _root_.L2.PA.weak(h:PA X e t)(w:∀ σ H Q,t' σ H Q->t σ H Q):PA X e t':=λpos pins s σ H Q I q=>h pos pins s σ H Q I (w σ H Q q)
theorem _root_.L2.PO.weak(h:PO X e t)(w:∀ σ H Q,t' σ H Q->t σ H Q):PO X e t':=λpins s σ H Q I q=>h pins s σ H Q I (w σ H Q q)
def ij(i:Nat):TEd:=⟨λss Q=>match ss[i]? with|some (SD.val d)=>Q d|_=>False,λ{ss Q Q'} h q=>by
 revert q;split
 ·exact h _
 ·exact id⟩
theorem ij.ok(h:PE X e (vn i)):PE X e (LE X.K (ij i)):=h.weak λσ H Q ⟨f,O,ss,R,q⟩=>by
 have q:(match ss[i]? with|some (SD.val d)=>(∀ v H',Ex f H H'->Rp X.K f O H' d v->Q v H')|_=>False):=q;revert q;split
 ·rename_i d e;intro q;obtain⟨v,h1,h2⟩:=R.val i d e;exact⟨v,h1,q v H (Ex.refl R.fl) h2⟩
 ·exact False.elim
def dC(d:D):TEd:=⟨λ_ Q=>Q d,λh q=>h _ q⟩
abbrev iκ(i:Int):TEd:=dC (.int i)
theorem dC.ok(h:PE X e (tC v))(r:∀ f O H,Rp X.K f O H d v):PE X e (LE X.K (dC d)):=h.weak λσ H Q ⟨f,O,ss,R,q⟩=>q v H (Ex.refl R.fl) (r f O H)
abbrev OD:=D->D->(D->Prop)->Prop
def d2(o:OD)(m:∀{x y Q Q'},(∀ d,Q d->Q' d)->o x y Q->o x y Q')(a b:TEd):TEd:=⟨λss Q=>a.run ss λx=>b.run ss λy=>o x y Q,λh q=>a.mono (λx q=>b.mono (λy q=>m h q) q) q⟩
def RD(K:Frag)(r:R2)(o:OD):Prop:=∀(f:Addr) (O:List Addr) (σ:St) (ss:SS) (H:Hp) (dx dy:D) (x y:V) (Q:VK),SlD K f O σ H ss->Rp K f O H dx x->Rp K f O H dy y->o dx dy (λd=>∀ v H',Ex f H H'->Rp K f O H' d v->Q v H')->r x y H Q
theorem d2.ok(hr:RD X.K r o)(h:PE X e (JR r (LE X.K a) (LE X.K b))):PE X e (LE X.K (d2 o m a b)):=h.weak λσ H Q ⟨f,O,ss,R,q⟩=>by
 refine⟨f,O,ss,R,a.mono (λdx q v1 H1 e1 r1=>?_) q⟩;refine⟨f,O,ss,R.ex e1,b.mono (λdy q v2 H2 e2 r2=>?_) q⟩;exact hr f O σ ss H2 dx dy v1 v2 Q ((R.ex e1).ex e2) ((R.ex e1).up e2 r1) r2 (m (λd q v H' e3 r3=>q v H' (e1.trans (e2.trans e3)) r3) q)
end Dp
namespace L2
open PySem PySem.Spec PyProof.Rows
variable{X:Cx}{pins:List (Addr×Obj)}{σ:St}{H:Hp}{s:Shared}
def Ia(K:Frag)(neg:Bool):R2:=λx y H Q=>∃ d ds,Rep K H d x/\Rep K H (.lst ds) y/\d.pl=true/\DV.pls ds=true/\DV.dps ds<=60/\∀ b,(b=true↔d∈ds)->Q (.bl (if neg then !b else b)) H
theorem yQ{K:Frag}:∀{ds:List DV} {vs:List V} {us:List Value},Reps K H ds vs->Vals vs us->DV.pls ds=true->DV.dps ds<=60->(∀ w∈us,∃ di∈ds,∃ xi,Rep K H di xi/\RelV xi w/\di.pl=true/\di.dp<=60)/\∀ di∈ds,∃ w∈us,∃ xi,Rep K H di xi/\RelV xi w
 | [],vs,us,h,r,_,_=>by
  unfold Reps at h;subst h;cases r;exact⟨λw h=>absurd h aX,λw h=>absurd h aX⟩
 | d::ds,vs,us,h,r,p,hd=>by
  unfold Reps at h;obtain⟨x,r',rfl,h1,h2⟩:=h;cases r with
  | cons rx rxs =>
   unfold DV.pls at p;rw[bH] at p;unfold DV.dps at hd;obtain⟨i1,i2⟩:=yQ h2 rxs p.2 ();refine⟨λw hw=>?_,λdi hi=>?_⟩
   ·rcases au.mp hw with e|e
    ·rw[e];exact⟨d,aG,x,h1,rx,p.1,()⟩
    ·obtain⟨di,m,z⟩:=i1 w e;exact⟨di,aC _ m,z⟩
   ·rcases au.mp hi with e|e
    ·rw[e];exact⟨_,aG,x,h1,rx⟩
    ·obtain⟨w,m,z⟩:=i2 di e;exact⟨w,aC _ m,z⟩
open Classical in
theorem y7{K:Frag}{k:Nat}(hr:Room k X.A)(hK:X.K=K)(I:Inv X pins σ H s){d:DV}{ds:List DV}{x:V}{v:Value}{vs:List V}{us:List Value}(h1:Rep K H d x)(rx:RelV x v)(r1:Reps K H ds vs)(rv:Vals vs us)(p1:d.pl=true)(p2:DV.pls ds=true)(hd:DV.dps ds<=60) :
  ∃ e:Value->Bool,(∀ w∈us,SeqAt.EqAt X.A.in1 s w v (e w))/\(us.any e=true↔d∈ds):=by
 subst hK;obtain⟨i1,i2⟩:=yQ r1 rv p2 hd;have hun:=hr.units;have key:∀ w∈us,∀ di∈ds,∀ xi,Rep X.K H di xi->RelV xi w->(decide (∃ xi,RelV xi w/\Rep X.K H d xi)=true↔di=d):=λw hw di hi xi hx rw'=>by
  rw[decide_eq_true_iff];constructor
  ·rintro⟨x',r',h'⟩;rw[RelV.inj r' rw'] at h';exact Rep.inj I hx h'
  ·rintro rfl;exact⟨xi,rw',hx⟩
 refine⟨λw=>decide (∃ xi,RelV xi w/\Rep X.K H d xi),λw hw=>?_,?_⟩
 ·obtain⟨di,hi,xi,hx,rw',pi,dpi⟩:=i1 w hw;obtain⟨b,hb,ib⟩:=ML I di d X.A.in1 hx h1 rw' rx pi p1 (by show X.A.units+1+_+1<_;lia);have:decide (∃ xi,RelV xi w/\Rep X.K H d xi)=b:=cq.mpr ((key w hw di hi xi hx rw').trans ib.symm);dsimp only;rw[this];exact hb
 ·rw[fJ];constructor
  ·rintro⟨w,hw,he⟩;obtain⟨di,hi,xi,hx,rw',_,_⟩:=i1 w hw;exact (key w hw di hi xi hx rw').mp he ▸ hi
  ·intro hm;obtain⟨w,hw,xi,hx,rw'⟩:=i2 d hm;exact⟨w,hw,(key w hw d hm xi hx rw').mpr rfl⟩
theorem Iw(K:Frag)(hr:Room k X.A)(hK:X.K=K:=by rfl):OpR X (compareOp .In) (Ia K false):=by
 intro pins s σ H x y u v Q I rx ry h;obtain⟨d,ds,h1,h2,p1,p2,hd,q⟩:=h;unfold Rep at h2;obtain⟨a,vs,rfl,t1,r1⟩:=h2;cases ry;subst hK;obtain⟨its,rv,p,_⟩:=I.list t1;obtain⟨e,he,hi⟩:=y7 hr rfl I h1 rx r1 rv p1 p2 hd;refine SeqAt.in_listAt e p.isList (λw hw=>he w (by simpa using hw)) ⟨.bl _,H,I,rfl,?_⟩;rw[show its.toArray.any e=its.any e by simp];exact q _ hi
theorem Cf(K:Frag)(hr:Room k X.A)(hK:X.K=K:=by rfl):OpR X (compareOp .NotIn) (Ia K true):=by
 intro pins s σ H x y u v Q I rx ry h;obtain⟨d,ds,h1,h2,p1,p2,hd,q⟩:=h;unfold Rep at h2;obtain⟨a,vs,rfl,t1,r1⟩:=h2;cases ry;subst hK;obtain⟨its,rv,p,_⟩:=I.list t1;obtain⟨e,he,hi⟩:=y7 hr rfl I h1 rx r1 rv p1 p2 hd;refine SeqAt.notIn_listAt e p.isList (λw hw=>he w (by simpa using hw)) ⟨.bl _,H,I,rfl,?_⟩;rw[show its.toArray.any e=its.any e by simp];exact q _ hi
end L2
namespace Dp
open PySem L2
variable{K:Frag}{f:Addr}{O O':List Addr}{H H':Hp}{X:Cx}{σ:St}{ss:SS}
mutual
def D.pl:D->Bool
 | .int _=>true | .str _=>true | .non=>true | .bl _=>false | .fl=>false | .exn _ _ _=>false | .dct _ _=>false
 | .tup ds=>D.pls ds
 | .lst ds=>D.pls ds
def D.pls:List D->Bool
 | []=>true
 | d::ds=>D.pl d && D.pls ds
end
mutual
def D.dp:D->Nat
 | .tup ds=>D.dps ds+1
 | .lst ds=>D.dps ds+1
 | .int _=>0 | .str _=>0 | .non=>0 | .bl _=>0 | .fl=>0 | .exn _ _ _=>0 | .dct _ _=>0
def D.dps:List D->Nat
 | []=>0
 | d::ds=>max (D.dp d) (D.dps ds)
end
mutual
def D.dv:D->DV
 | .int i=>.int i | .str x=>.str x | .non=>.non | .bl b=>.bl b | .fl=>.non | .exn _ _ _=>.non | .dct _ _=>.non
 | .tup ds=>.tup (D.dvs ds)
 | .lst ds=>.lst (D.dvs ds)
def D.dvs:List D->List DV
 | []=>[]
 | d::ds=>D.dv d::D.dvs ds
end
mutual
theorem D.dv_pl:∀{d:D},d.pl=true->d.dv.pl=true
 | .int _,_=>rfl
 | .str _,_=>rfl
 | .non,_=>rfl
 | .bl _,h=>h
 | .fl,h=>by cases h
 | .exn ..,h=>by cases h
 | .dct _ _,h=>by cases h
 | .tup ds,h=>D.dvs_pl (ds:=ds) h
 | .lst ds,h=>D.dvs_pl (ds:=ds) h
theorem D.dvs_pl:∀{ds:List D},D.pls ds=true->DV.pls (D.dvs ds)=true
 | [],_=>rfl
 | d::ds,h=>by
  have h:=aA.mp (show (d.pl && D.pls ds)=true from h);exact aA.mpr ⟨D.dv_pl h.1,D.dvs_pl h.2⟩
end
mutual
theorem D.dv_dp:∀{d:D},d.dv.dp=d.dp
 | .int _=>rfl
 | .str _=>rfl
 | .non=>rfl
 | .bl _=>rfl
 | .fl=>rfl
 | .exn _ _ _=>rfl
 | .dct _ _=>rfl
 | .tup ds=>congrArg (· + 1) (D.dvs_dp (ds:=ds))
 | .lst ds=>congrArg (· + 1) (D.dvs_dp (ds:=ds))
theorem D.dvs_dp:∀{ds:List D},DV.dps (D.dvs ds)=D.dps ds
 | []=>rfl
 | d::ds=>by
  show max (DV.dp d.dv) (DV.dps (D.dvs ds))=max d.dp (D.dps ds);rw[D.dv_dp,D.dvs_dp]
end
mutual
theorem D.dv_inj:∀{d e:D},d.pl=true->e.pl=true->d.dv=e.dv->d=e
 | .int _,e,_,h,q=>by cases e <;> first|(cases q;rfl)|(cases q;done)|cases h
 | .str _,e,_,h,q=>by cases e <;> first|(cases q;rfl)|(cases q;done)|cases h
 | .non,e,_,h,q=>by cases e <;> first|rfl|(cases q;done)|cases h
 | .bl _,_,h,_,_=>by cases h
 | .fl,_,h,_,_=>by cases h
 | .exn ..,_,h,_,_=>by cases h
 | .dct _ _,_,h,_,_=>by cases h
 | .tup ds,e,h1,h2,q=>by
  cases e with
  | tup es =>
   have q:DV.tup (D.dvs ds)=DV.tup (D.dvs es):=q;injection q with q;rw[D.dvs_inj h1 h2 q]
  | int=>cases q
  | str=>cases q
  | non=>cases q
  | bl=>cases h2
  | fl=>cases h2
  | exn=>cases h2
  | dct=>cases h2
  | lst=>cases q
 | .lst ds,e,h1,h2,q=>by
  cases e with
  | lst es =>
   have q:DV.lst (D.dvs ds)=DV.lst (D.dvs es):=q;injection q with q;rw[D.dvs_inj h1 h2 q]
  | int=>cases q
  | str=>cases q
  | non=>cases q
  | bl=>cases h2
  | fl=>cases h2
  | exn=>cases h2
  | dct=>cases h2
  | tup=>cases q
theorem D.dvs_inj:∀{ds es:List D},D.pls ds=true->D.pls es=true->D.dvs ds=D.dvs es->ds=es
 | [],[],_,_,_=>rfl
 | [],_::_,_,_,q=>by cases q
 | _::_,[],_,_,q=>by cases q
 | d::ds,e::es,h1,h2,q=>by
  have h1:=aA.mp (show (d.pl && D.pls ds)=true from h1);have h2:=aA.mp (show (e.pl && D.pls es)=true from h2);have q:d.dv::D.dvs ds=e.dv::D.dvs es:=q;injection q with q1 q2;rw[D.dv_inj h1.1 h2.1 q1,D.dvs_inj h1.2 h2.2 q2]
end
mutual
theorem Rp.rep:∀{d:D} {v:V},d.pl=true->Rp K f O H d v->Rep K H d.dv v
 | .int _,_,_,h=>h
 | .str _,_,_,h=>h
 | .non,_,_,h=>h
 | .bl _,_,h,_=>by cases h
 | .fl,_,h,_=>by cases h
 | .exn ..,_,h,_=>by cases h
 | .dct _ _,_,h,_=>by cases h
 | .tup ds,_,p,h=>by
  obtain⟨a,xs,e,h1,h2⟩:=h;exact⟨a,xs,e,h1,Rps.rep p h2⟩
 | .lst ds,_,p,h=>by
  obtain⟨a,xs,e,_,h1,h2⟩:=h;exact⟨a,xs,e,SqL.of h1,Rps.rep p h2⟩
theorem Rps.rep:∀{ds:List D} {vs:List V},D.pls ds=true->Rps K f O H ds vs->Reps K H (D.dvs ds) vs
 | [],_,_,h=>h
 | d::ds,_,p,h=>by
  have p:=aA.mp (show (d.pl && D.pls ds)=true from p);obtain⟨v,r,e,h1,h2⟩:=h;exact⟨v,r,e,Rp.rep p.1 h1,Rps.rep p.2 h2⟩
end
theorem OpR.or2(h:OpR X g r)(h':OpR X g r'):OpR X g (λx y H Q=>r x y H Q\/r' x y H Q):=λpins s σ H x y v u Q I rx ry q=>q.elim (h pins s σ H x y v u Q I rx ry) (h' pins s σ H x y v u Q I rx ry)
def oAdd:OD
 | .int i,.int j,Q=>Q (.int (i+j))
 | .str a,.str b,Q=>a.length+b.length<=sizeLine/\Q (.str (a++b))
 | .lst a,.lst b,Q=>a.length+b.length<=sizeLine/\Q (.lst (a++b))
 | .tup a,.tup b,Q=>a.length+b.length<=sizeLine/\Q (.tup (a++b))
 | _,_,_=>False
def oSub:OD
 | .int i,.int j,Q=>Q (.int (i-j))
 | _,_,_=>False
def oMul:OD
 | .int i,.int j,Q=>CMulB i j/\Q (.int (i*j))
 | .lst a,.int k,Q => -(2^63)<=k/\k<2^63/\a.length*k.toNat<=sizeLine/\Q (.lst (List.replicate k.toNat a).flatten)
 | .tup a,.int k,Q=>a≠[]/\1<=k/\a.length*k.toNat<=100000/\Q (.tup (List.replicate k.toNat a).flatten)
 | _,_,_=>False
def oDiv:OD
 | .int i,.int j,Q=>uA i j/\Q (.int (i.fdiv j))
 | _,_,_=>False
def oMod:OD
 | .int i,.int j,Q=>j≠0/\Q (.int (i.fmod j))
 | _,_,_=>False
def oPow:OD
 | .int i,.int j,Q=>E5 i j/\Q (.int (i^j.toNat))
 | _,_,_=>False
def oShl:OD
 | .int i,.int j,Q=>E5 i j/\Q (.int (i*2^j.toNat))
 | _,_,_=>False
def Az:OD:=λ_ _ _=>False
def oBin:Operator->OD
 | .Add=>oAdd | .Sub=>oSub | .Mult=>oMul | .FloorDiv=>oDiv | .Mod=>oMod | .Pow=>oPow | .LShift=>oShl|_=>Az
def oLt:OD
 | .int i,.int j,Q=>Q (.bl (decide (i<j)))
 | _,_,_=>False
def oLe:OD
 | .int i,.int j,Q=>Q (.bl (decide (i<=j)))
 | _,_,_=>False
def oGt:OD
 | .int i,.int j,Q=>Q (.bl (decide (j<i)))
 | _,_,_=>False
def oGe:OD
 | .int i,.int j,Q=>Q (.bl (decide (j<=i)))
 | _,_,_=>False
def oEq(neg:Bool):OD
 | .int i,.int j,Q=>Q (.bl (if neg then !decide (i=j) else decide (i=j)))
 | .bl i,.bl j,Q=>Q (.bl (if neg then !decide (i=j) else decide (i=j)))
 | .str i,.str j,Q=>Q (.bl (if neg then !decide (i=j) else decide (i=j)))
 | .tup a,.tup b,Q=>D.pls a=true/\D.pls b=true/\D.dps a<=60/\∀ k,(k=true↔a=b)->Q (.bl (if neg then !k else k))
 | .lst a,.lst b,Q=>neg=neg/\D.pls a=true/\D.pls b=true/\D.dps a<=60/\∀ k,(k=true↔a=b)->Q (.bl (if neg then !k else k))
 | _,_,_=>False
def oIs(neg:Bool):OD:=λx y Q=>match y with
 | .non=>Q (.bl (match x with | .non => !neg|_=>neg))
 | .bl j=>(match x with | .bl i=>Q (.bl (if neg then !decide (i=j) else decide (i=j)))|_=>False)
 | _=>False
def oIn(neg:Bool):OD:=λx y Q=>(∃(i:Int) (ns:List Int),x = .int i/\(y = .lst (ns.map .int)\/y = .tup (ns.map .int))/\Q (.bl (if neg then !decide (i∈ns) else decide (i∈ns))))\/(∃(i:Str) (ns:List Str),x = .str i/\(y = .lst (ns.map .str)\/y = .tup (ns.map .str))/\Q (.bl (if neg then !decide (i∈ns) else decide (i∈ns))))\/(∃ l,y = .lst l/\x.pl=true/\D.pls l=true/\D.dps l<=60/\∀ k:Bool,(k=true↔x∈l)->Q (.bl (if neg then !k else k)))
theorem oIn.mono:∀{x y Q Q'},(∀ d,Q d->Q' d)->oIn neg x y Q->oIn neg x y Q':=λh q=>q.imp (fun⟨i,ns,e1,e2,q⟩=>⟨i,ns,e1,e2,h _ q⟩) (Or.imp (fun⟨i,ns,e1,e2,q⟩=>⟨i,ns,e1,e2,h _ q⟩) fun⟨l,e,a,b,c,q⟩=>⟨l,e,a,b,c,λk hk=>h _ (q k hk)⟩)
def oCmp:CmpOp->OD
 | .Eq=>oEq false | .NotEq=>oEq true | .Lt=>oLt | .LtE=>oLe | .Gt=>oGt | .GtE=>oGe | .Is=>oIs false | .IsNot=>oIs true | .In=>oIn false | .NotIn=>oIn true
theorem oAdd.mono:∀{x y Q Q'},(∀ d,Q d->Q' d)->oAdd x y Q->oAdd x y Q':=by intro x y Q Q' h;cases x <;> cases y <;> intro q <;> first|exact h _ q|exact q|exact⟨q.1,h _ q.2⟩|exact⟨q.1,q.2.1,q.2.2.1,h _ q.2.2.2⟩|exact⟨q.1,q.2.1,q.2.2.1,λk e=>h _ (q.2.2.2 k e)⟩|exact⟨q.1,q.2.1,q.2.2.1,q.2.2.2.1,λk e=>h _ (q.2.2.2.2 k e)⟩
theorem oSub.mono:∀{x y Q Q'},(∀ d,Q d->Q' d)->oSub x y Q->oSub x y Q':=by intro x y Q Q' h;cases x <;> cases y <;> intro q <;> first|exact h _ q|exact q|exact⟨q.1,h _ q.2⟩|exact⟨q.1,q.2.1,q.2.2.1,h _ q.2.2.2⟩|exact⟨q.1,q.2.1,q.2.2.1,λk e=>h _ (q.2.2.2 k e)⟩|exact⟨q.1,q.2.1,q.2.2.1,q.2.2.2.1,λk e=>h _ (q.2.2.2.2 k e)⟩
theorem oMul.mono:∀{x y Q Q'},(∀ d,Q d->Q' d)->oMul x y Q->oMul x y Q':=by intro x y Q Q' h;cases x <;> cases y <;> intro q <;> first|exact h _ q|exact q|exact⟨q.1,h _ q.2⟩|exact⟨q.1,q.2.1,q.2.2.1,h _ q.2.2.2⟩|exact⟨q.1,q.2.1,q.2.2.1,λk e=>h _ (q.2.2.2 k e)⟩|exact⟨q.1,q.2.1,q.2.2.1,q.2.2.2.1,λk e=>h _ (q.2.2.2.2 k e)⟩
theorem oDiv.mono:∀{x y Q Q'},(∀ d,Q d->Q' d)->oDiv x y Q->oDiv x y Q':=by intro x y Q Q' h;cases x <;> cases y <;> intro q <;> first|exact h _ q|exact q|exact⟨q.1,h _ q.2⟩|exact⟨q.1,q.2.1,q.2.2.1,h _ q.2.2.2⟩|exact⟨q.1,q.2.1,q.2.2.1,λk e=>h _ (q.2.2.2 k e)⟩|exact⟨q.1,q.2.1,q.2.2.1,q.2.2.2.1,λk e=>h _ (q.2.2.2.2 k e)⟩
theorem oMod.mono:∀{x y Q Q'},(∀ d,Q d->Q' d)->oMod x y Q->oMod x y Q':=by intro x y Q Q' h;cases x <;> cases y <;> intro q <;> first|exact h _ q|exact q|exact⟨q.1,h _ q.2⟩|exact⟨q.1,q.2.1,q.2.2.1,h _ q.2.2.2⟩|exact⟨q.1,q.2.1,q.2.2.1,λk e=>h _ (q.2.2.2 k e)⟩|exact⟨q.1,q.2.1,q.2.2.1,q.2.2.2.1,λk e=>h _ (q.2.2.2.2 k e)⟩
theorem oPow.mono:∀{x y Q Q'},(∀ d,Q d->Q' d)->oPow x y Q->oPow x y Q':=by intro x y Q Q' h;cases x <;> cases y <;> intro q <;> first|exact h _ q|exact q|exact⟨q.1,h _ q.2⟩|exact⟨q.1,q.2.1,q.2.2.1,h _ q.2.2.2⟩|exact⟨q.1,q.2.1,q.2.2.1,λk e=>h _ (q.2.2.2 k e)⟩|exact⟨q.1,q.2.1,q.2.2.1,q.2.2.2.1,λk e=>h _ (q.2.2.2.2 k e)⟩
theorem oShl.mono:∀{x y Q Q'},(∀ d,Q d->Q' d)->oShl x y Q->oShl x y Q':=by intro x y Q Q' h;cases x <;> cases y <;> intro q <;> first|exact q|exact⟨q.1,h _ q.2⟩
theorem oBin.mono:∀{x y Q Q'},(∀ d,Q d->Q' d)->oBin op x y Q->oBin op x y Q':=by
 cases op;all_goals first|exact oAdd.mono|exact oSub.mono|exact oMul.mono|exact oDiv.mono|exact oMod.mono|exact oPow.mono|exact oShl.mono|exact λ_ q=>q
theorem oLt.mono:∀{x y Q Q'},(∀ d,Q d->Q' d)->oLt x y Q->oLt x y Q':=by intro x y Q Q' h;cases x <;> cases y <;> intro q <;> first|exact h _ q|exact q|exact⟨q.1,h _ q.2⟩|exact⟨q.1,q.2.1,q.2.2.1,h _ q.2.2.2⟩|exact⟨q.1,q.2.1,q.2.2.1,λk e=>h _ (q.2.2.2 k e)⟩|exact⟨q.1,q.2.1,q.2.2.1,q.2.2.2.1,λk e=>h _ (q.2.2.2.2 k e)⟩
theorem oLe.mono:∀{x y Q Q'},(∀ d,Q d->Q' d)->oLe x y Q->oLe x y Q':=by intro x y Q Q' h;cases x <;> cases y <;> intro q <;> first|exact h _ q|exact q|exact⟨q.1,h _ q.2⟩|exact⟨q.1,q.2.1,q.2.2.1,h _ q.2.2.2⟩|exact⟨q.1,q.2.1,q.2.2.1,λk e=>h _ (q.2.2.2 k e)⟩|exact⟨q.1,q.2.1,q.2.2.1,q.2.2.2.1,λk e=>h _ (q.2.2.2.2 k e)⟩
theorem oGt.mono:∀{x y Q Q'},(∀ d,Q d->Q' d)->oGt x y Q->oGt x y Q':=by intro x y Q Q' h;cases x <;> cases y <;> intro q <;> first|exact h _ q|exact q|exact⟨q.1,h _ q.2⟩|exact⟨q.1,q.2.1,q.2.2.1,h _ q.2.2.2⟩|exact⟨q.1,q.2.1,q.2.2.1,λk e=>h _ (q.2.2.2 k e)⟩|exact⟨q.1,q.2.1,q.2.2.1,q.2.2.2.1,λk e=>h _ (q.2.2.2.2 k e)⟩
theorem oGe.mono:∀{x y Q Q'},(∀ d,Q d->Q' d)->oGe x y Q->oGe x y Q':=by intro x y Q Q' h;cases x <;> cases y <;> intro q <;> first|exact h _ q|exact q|exact⟨q.1,h _ q.2⟩|exact⟨q.1,q.2.1,q.2.2.1,h _ q.2.2.2⟩|exact⟨q.1,q.2.1,q.2.2.1,λk e=>h _ (q.2.2.2 k e)⟩|exact⟨q.1,q.2.1,q.2.2.1,q.2.2.2.1,λk e=>h _ (q.2.2.2.2 k e)⟩
theorem oEq.mono:∀{x y Q Q'},(∀ d,Q d->Q' d)->oEq neg x y Q->oEq neg x y Q':=by intro x y Q Q' h;cases x <;> cases y <;> intro q <;> first|exact h _ q|exact q|exact⟨q.1,h _ q.2⟩|exact⟨q.1,q.2.1,q.2.2.1,h _ q.2.2.2⟩|exact⟨q.1,q.2.1,q.2.2.1,λk e=>h _ (q.2.2.2 k e)⟩|exact⟨q.1,q.2.1,q.2.2.1,q.2.2.2.1,λk e=>h _ (q.2.2.2.2 k e)⟩
theorem oIs.mono:∀{x y Q Q'},(∀ d,Q d->Q' d)->oIs neg x y Q->oIs neg x y Q':=by intro x y Q Q' h;cases x <;> cases y <;> intro q <;> first|exact h _ q|exact q|exact⟨q.1,h _ q.2⟩|exact⟨q.1,q.2.1,q.2.2.1,h _ q.2.2.2⟩|exact⟨q.1,q.2.1,q.2.2.1,λk e=>h _ (q.2.2.2 k e)⟩|exact⟨q.1,q.2.1,q.2.2.1,q.2.2.2.1,λk e=>h _ (q.2.2.2.2 k e)⟩
theorem oCmp.mono:∀{x y Q Q'},(∀ d,Q d->Q' d)->oCmp op x y Q->oCmp op x y Q':=by
 cases op;all_goals first|exact oLt.mono|exact oLe.mono|exact oGt.mono|exact oGe.mono|exact oEq.mono|exact oIs.mono|exact oIn.mono
def Rng(X:Cx)(g:Value->Value->Sem Value)(o:OD):Prop:=∃ r,OpR X g r/\RD X.K r o
theorem Rng.never:Rng X g Az:=⟨λ_ _ _ _=>False,λ_ _ _ _ _ _ _ _ _ _ _ _ h=>h.elim,λ_ _ _ _ _ _ _ _ _ _ _ _ _ h=>h.elim⟩
theorem HU:Rng X (binaryOp .Add) oAdd:=by
 refine⟨_,OpR.or2 uq (OpR.or2 Ax (OpR.or2 Iy (OpR.or2 FL (KQ X.K)))),?_⟩;intro f O σ ss H dx dy x y Q R rx ry h;cases dx <;> cases dy <;> first|(exact False.elim h)|skip
 ·rename_i i j;cases rx;cases ry;exact .inl ⟨i,j,rfl,rfl,h _ H (Ex.refl R.fl) rfl⟩
 ·rename_i i j;cases rx;cases ry;exact .inr (.inl ⟨i,j,rfl,rfl,h.1,h.2 _ H (Ex.refl R.fl) rfl⟩)
 ·rename_i la lb;obtain⟨a,xs,rfl,h1,h2⟩:=rx;obtain⟨b,ys,rfl,h3,h4⟩:=ry;obtain⟨hl,q⟩:=h;cases la with
  | nil =>
   cases (show xs=[] from h2);exact .inr (.inr (.inr (.inr ⟨a,b,ys,rfl,rfl,h1,h3,q _ H (Ex.refl R.fl) ⟨b,ys,rfl,h3,h4⟩⟩)))
  | cons d la =>
   refine .inr (.inr (.inr (.inl ⟨a,b,xs,ys,rfl,rfl,h1,h3,?_,by rw[h2.len,h4.len];exact hl,λe=>?_,λe p hp=>?_⟩)))
   ·obtain⟨v,r,e,_⟩:=h2;rw[e];simp
   ·subst e;cases lb with
    | nil =>
     refine q _ H (Ex.refl R.fl) ⟨a,xs,rfl,h1,?_⟩;rw[dA];exact h2
    | cons=>obtain⟨v,r,e,_⟩:=h4;cases e
   ·exact q _ _ (R.new hp _) (R.tup hp (h2.append h4))
 ·rename_i la lb;obtain⟨a,xs,rfl,n1,h1,h2⟩:=rx;obtain⟨b,ys,rfl,n2,h3,h4⟩:=ry;exact .inr (.inr (.inl ⟨a,b,xs,ys,rfl,rfl,h1,h3,by rw[h2.len,h4.len];exact h.1,λp hp=>h.2 _ _ (R.new hp _) (R.lst hp (h2.append h4))⟩))
theorem vJ{g:Value->Value->Sem Value}{C:Int->Int->Prop}{w:Int->Int->Int}{o:OD}(h:OpR X g (rI C λi j=>.int (w i j)))(ho:∀ dx dy Q,o dx dy Q->∃ i j,dx = .int i/\dy = .int j/\C i j/\Q (.int (w i j))):Rng X g o:=by
 refine⟨_,h,λf O σ ss H dx dy x y Q R rx ry h=>?_⟩;obtain⟨i,j,rfl,rfl,c,q⟩:=ho _ _ _ h;cases rx;cases ry;exact⟨i,j,rfl,rfl,c,q _ H (Ex.refl R.fl) rfl⟩
theorem wa{g:Value->Value->Sem Value}{w:Int->Int->Bool}{o:OD}(h:OpR X g (Dn λi j=>.bl (w i j)))(ho:∀ dx dy Q,o dx dy Q->∃ i j,dx = .int i/\dy = .int j/\Q (.bl (w i j))):Rng X g o:=by
 refine⟨_,h,λf O σ ss H dx dy x y Q R rx ry h=>?_⟩;obtain⟨i,j,rfl,rfl,q⟩:=ho _ _ _ h;cases rx;cases ry;exact⟨i,j,rfl,rfl,q _ H (Ex.refl R.fl) rfl⟩
theorem HR:Rng X (binaryOp .Mult) oMul:=by
 refine⟨_,OpR.or2 FJ (OpR.or2 DQ FG),?_⟩;intro f O σ ss H dx dy x y Q R rx ry h;cases dx <;> cases dy <;> first|(exact False.elim h)|skip
 ·rename_i i j;cases rx;cases ry;exact .inl ⟨i,j,rfl,rfl,h.1,h.2 _ H (Ex.refl R.fl) rfl⟩
 ·rename_i la k;obtain⟨a,xs,rfl,h1,h2⟩:=rx;cases ry;obtain⟨z1,z2,z3,q⟩:=h;obtain⟨k,rfl⟩:=cI (show 0<=k by lia);rw[aJ] at z3 q;refine .inr (.inr ⟨a,xs,k,rfl,rfl,h1,λz=>z1 ?_,(),by rw[h2.len];exact z3,λe=>?_,λ_ p hp=>q _ _ (R.new hp _) (R.tup hp (h2.flat _))⟩)
  ·have:=h2.len;rw[z] at this;exact bT.mp this.symm
  ·refine q _ H (Ex.refl R.fl) ⟨a,xs,rfl,h1,?_⟩;rw[e,bF,List.replicate_zero,bY,List.flatten_nil,dA];exact h2
 ·rename_i la k;obtain⟨a,xs,rfl,n1,h1,h2⟩:=rx;cases ry;exact .inr <| .inl ⟨a,k,xs,rfl,rfl,h1,h.1,h.2.1,by rw[h2.len];exact h.2.2.1,λp hp=>h.2.2.2 _ _ (R.new hp _) (R.lst hp (h2.flat _))⟩
theorem HS(hr:Room k X.A)(op:Operator):Rng X (binaryOp op) (oBin op):=by
 cases op;case Add=>exact HU
 case Mult=>exact HR
 case Sub =>
  refine⟨_,Ip,λf O σ ss H dx dy x y Q R rx ry h=>?_⟩;cases dx <;> cases dy <;> first|(exact False.elim h)|skip
  cases rx;cases ry;exact⟨_,_,rfl,rfl,h _ H (Ex.refl R.fl) rfl⟩
 case FloorDiv=>exact vJ (yU hr) λdx dy Q h=>by cases dx <;> cases dy <;> first|(exact False.elim h)|exact⟨_,_,rfl,rfl,h.1,h.2⟩
 case Mod=>exact vJ FK λdx dy Q h=>by cases dx <;> cases dy <;> first|(exact False.elim h)|exact⟨_,_,rfl,rfl,h.1,h.2⟩
 case Pow=>exact vJ DR λdx dy Q h=>by cases dx <;> cases dy <;> first|(exact False.elim h)|exact⟨_,_,rfl,rfl,h.1,h.2⟩
 case LShift=>exact vJ Iq λdx dy Q h=>by cases dx <;> cases dy <;> first|(exact False.elim h)|exact⟨_,_,rfl,rfl,h.1,h.2⟩
 all_goals exact Rng.never
theorem J2(hr:Room k X.A):Rng X (compareOp .Eq) (oEq false):=by
 refine⟨_,OpR.or2 yV (OpR.or2 (Nz X.K hr) (Mm X.K hr)),?_⟩;intro f O σ ss H dx dy x y Q R rx ry h;cases dx <;> cases dy <;> first|(exact False.elim h)|skip
 ·rename_i i j;cases rx;cases ry;refine .inl ⟨rfl,?_⟩;have e:(decide (V.bl i=V.bl j))=decide (i=j):=by cases i <;> cases j <;> rfl
  rw[e];exact h _ H (Ex.refl R.fl) rfl
 ·rename_i i j;cases rx;cases ry;refine .inl ⟨rfl,?_⟩;have e:(decide (V.int i=V.int j))=decide (i=j):=by simp
  rw[e];exact h _ H (Ex.refl R.fl) rfl
 ·rename_i i j;cases rx;cases ry;refine .inl ⟨rfl,?_⟩;have e:(decide (V.str i=V.str j))=decide (i=j):=by simp
  rw[e];exact h _ H (Ex.refl R.fl) rfl
 ·rename_i la lb;obtain⟨p1,p2,p3,q⟩:=h;refine .inr (.inl ⟨D.dvs la,D.dvs lb,Rp.rep (d:=.tup la) p1 rx,Rp.rep (d:=.tup lb) p2 ry,D.dvs_pl p1,D.dvs_pl p2,by rw[D.dvs_dp];exact p3,λb hb=>?_⟩);exact q b (hb.trans ⟨λe=>D.dvs_inj p1 p2 e,λe=>by rw[e]⟩) _ H (Ex.refl R.fl) rfl
 ·rename_i la lb;obtain⟨_,p1,p2,p3,q⟩:=h;refine .inr (.inr ⟨D.dvs la,D.dvs lb,Rp.rep (d:=.lst la) p1 rx,Rp.rep (d:=.lst lb) p2 ry,D.dvs_pl p1,D.dvs_pl p2,by rw[D.dvs_dp];exact p3,λb hb=>?_⟩);exact q b (hb.trans ⟨λe=>D.dvs_inj p1 p2 e,λe=>by rw[e]⟩) _ H (Ex.refl R.fl) rfl
theorem J0(hr:Room k X.A):Rng X (compareOp .NotEq) (oEq true):=by
 refine⟨_,OpR.or2 DS (OpR.or2 (Nq X.K hr) (Mb X.K hr)),?_⟩;intro f O σ ss H dx dy x y Q R rx ry h;cases dx <;> cases dy <;> first|(exact False.elim h)|skip
 ·rename_i i j;cases rx;cases ry;refine .inl ⟨rfl,?_⟩;have e:(decide (V.bl i=V.bl j))=decide (i=j):=by cases i <;> cases j <;> rfl
  rw[e];exact h _ H (Ex.refl R.fl) rfl
 ·rename_i i j;cases rx;cases ry;refine .inl ⟨rfl,?_⟩;have e:(decide (V.int i=V.int j))=decide (i=j):=by simp
  rw[e];exact h _ H (Ex.refl R.fl) rfl
 ·rename_i i j;cases rx;cases ry;refine .inl ⟨rfl,?_⟩;have e:(decide (V.str i=V.str j))=decide (i=j):=by simp
  rw[e];exact h _ H (Ex.refl R.fl) rfl
 ·rename_i la lb;obtain⟨p1,p2,p3,q⟩:=h;refine .inr (.inl ⟨D.dvs la,D.dvs lb,Rp.rep (d:=.tup la) p1 rx,Rp.rep (d:=.tup lb) p2 ry,D.dvs_pl p1,D.dvs_pl p2,by rw[D.dvs_dp];exact p3,λb hb=>?_⟩);exact q b (hb.trans ⟨λe=>D.dvs_inj p1 p2 e,λe=>by rw[e]⟩) _ H (Ex.refl R.fl) rfl
 ·rename_i la lb;obtain⟨_,p1,p2,p3,q⟩:=h;refine .inr (.inr ⟨D.dvs la,D.dvs lb,Rp.rep (d:=.lst la) p1 rx,Rp.rep (d:=.lst lb) p2 ry,D.dvs_pl p1,D.dvs_pl p2,by rw[D.dvs_dp];exact p3,λb hb=>?_⟩);exact q b (hb.trans ⟨λe=>D.dvs_inj p1 p2 e,λe=>by rw[e]⟩) _ H (Ex.refl R.fl) rfl
theorem Iv:OpR X (compareOp .Is) (λx y H Q=>∃ i j,x = .bl i/\y = .bl j/\Q (.bl (decide (i=j))) H):=by
 intro pins s σ H x y v u Q I rx ry h;obtain⟨i,j,rfl,rfl,q⟩:=h;cases rx;cases ry;exact ηB (ηP (ηP (sC I q (by cases i <;> cases j <;> rfl))))
theorem FI:OpR X (compareOp .IsNot) (λx y H Q=>∃ i j,x = .bl i/\y = .bl j/\Q (.bl (!decide (i=j))) H):=by
 intro pins s σ H x y v u Q I rx ry h;obtain⟨i,j,rfl,rfl,q⟩:=h;cases rx;cases ry;exact ηB (ηP (ηP (sC I q (by cases i <;> cases j <;> rfl))))
theorem J1:Rng X (compareOp .Is) (oIs false):=by
 refine⟨_,OpR.or2 Iu Iv,λf O σ ss H dx dy x y Q R rx ry h=>?_⟩;cases dy <;> first|(exact False.elim h)|skip
 ·cases ry;refine .inl ⟨rfl,?_⟩;cases dx;case tup=>obtain⟨a,xs,rfl,_⟩:=rx;exact h _ H (Ex.refl R.fl) rfl
  case lst=>obtain⟨a,xs,rfl,_⟩:=rx;exact h _ H (Ex.refl R.fl) rfl
  case exn=>obtain⟨a,xs,rfl,_⟩:=rx;exact h _ H (Ex.refl R.fl) rfl
  case dct=>obtain⟨a,xs,rfl,_⟩:=rx;exact h _ H (Ex.refl R.fl) rfl
  all_goals (cases rx;exact h _ H (Ex.refl R.fl) rfl)
 ·cases ry;cases dx <;> first|(exact False.elim h)|skip
  cases rx;exact .inr ⟨_,_,rfl,rfl,h _ H (Ex.refl R.fl) rfl⟩
theorem Dj:Rng X (compareOp .IsNot) (oIs true):=by
 refine⟨_,OpR.or2 FH FI,λf O σ ss H dx dy x y Q R rx ry h=>?_⟩;cases dy <;> first|(exact False.elim h)|skip
 ·cases ry;refine .inl ⟨rfl,?_⟩;cases dx;case tup=>obtain⟨a,xs,rfl,_⟩:=rx;exact h _ H (Ex.refl R.fl) rfl
  case lst=>obtain⟨a,xs,rfl,_⟩:=rx;exact h _ H (Ex.refl R.fl) rfl
  case exn=>obtain⟨a,xs,rfl,_⟩:=rx;exact h _ H (Ex.refl R.fl) rfl
  case dct=>obtain⟨a,xs,rfl,_⟩:=rx;exact h _ H (Ex.refl R.fl) rfl
  all_goals (cases rx;exact h _ H (Ex.refl R.fl) rfl)
 ·cases ry;cases dx <;> first|(exact False.elim h)|skip
  cases rx;exact .inr ⟨_,_,rfl,rfl,h _ H (Ex.refl R.fl) rfl⟩
theorem Rps.strs:∀{zs:List Str} {vs:List V},Rps K f O H (zs.map D.str) vs->vs=zs.map V.str
 | [],_,h=>h
 | z::zs,_,h=>by
  obtain⟨v,r,e1,h1,h2⟩:=h;rw[e1,Rps.strs h2,show v = .str z from h1];rfl
theorem Bx(i:Int)(ns:List Int):JB (.int i) (ns.map V.int)=decide (i∈ns):=by
 apply cq.mpr;unfold JB;rw[fJ,decide_eq_true_iff];constructor
 ·rintro⟨y,hy,e⟩;obtain⟨j,hj,rfl⟩:=dq.mp hy;have e:(j == i)=true:=e;exact beq_iff_eq.mp e ▸ hj
 ·exact λh=>⟨_,dq.mpr ⟨i,h,rfl⟩,show (i == i)=true from beq_self_eq_true i⟩
theorem Bw(i:Str)(ns:List Str):JB (.str i) (ns.map V.str)=decide (i∈ns):=by
 apply cq.mpr;unfold JB;rw[fJ,decide_eq_true_iff];constructor
 ·rintro⟨y,hy,e⟩;obtain⟨j,hj,rfl⟩:=dq.mp hy;have e:(j == i)=true:=e;exact beq_iff_eq.mp e ▸ hj
 ·exact λh=>⟨_,dq.mpr ⟨i,h,rfl⟩,show (i == i)=true from beq_self_eq_true i⟩
theorem D.dvs_mem:∀{l:List D},x.pl=true->D.pls l=true->(x.dv∈D.dvs l↔x∈l)
 | [],_,_=>⟨λh=>(by cases h),λh=>by cases h⟩
 | d::l,hx,hl=>by
  have h:=aA.mp (show (d.pl && D.pls l)=true from hl);show x.dv∈d.dv::D.dvs l↔_;rw[au,au,D.dvs_mem hx h.2];exact or_congr ⟨λe=>D.dv_inj hx h.1 e,λe=>by rw[e]⟩ Iff.rfl
theorem GF(neg:Bool):RD K (λx y H Q=>LW K neg x y H Q\/Ia K neg x y H Q) (oIn neg):=by
 rintro f O σ ss H dx dy x y Q R rx ry (⟨i,ns,rfl,hy,q⟩|⟨i,ns,rfl,hy,q⟩|⟨l,rfl,p1,p2,p3,q⟩)
 ·cases rx;have fl:(ns.map V.int).all u7=true:=by rw[gE];exact cF.mpr λ_ _=>rfl
  rcases hy with rfl|rfl
  ·obtain⟨a,xs,rfl,_,h1,r1⟩:=ry;rw[Rps.ints r1] at h1;exact .inl ⟨a,_,rfl,.inl (SqL.of h1),rfl,fl,by rw[Bx];exact q _ H (Ex.refl R.fl) rfl⟩
  ·obtain⟨a,xs,rfl,h1,r1⟩:=ry;rw[Rps.ints r1] at h1;exact .inl ⟨a,_,rfl,.inr h1,rfl,fl,by rw[Bx];exact q _ H (Ex.refl R.fl) rfl⟩
 ·cases rx;have fl:(ns.map V.str).all u7=true:=by rw[gE];exact cF.mpr λ_ _=>rfl
  rcases hy with rfl|rfl
  ·obtain⟨a,xs,rfl,_,h1,r1⟩:=ry;rw[Rps.strs r1] at h1;exact .inl ⟨a,_,rfl,.inl (SqL.of h1),rfl,fl,by rw[Bw];exact q _ H (Ex.refl R.fl) rfl⟩
  ·obtain⟨a,xs,rfl,h1,r1⟩:=ry;rw[Rps.strs r1] at h1;exact .inl ⟨a,_,rfl,.inr h1,rfl,fl,by rw[Bw];exact q _ H (Ex.refl R.fl) rfl⟩
 ·exact .inr ⟨dx.dv,D.dvs l,Rp.rep p1 rx,Rp.rep (d:=.lst l) p2 ry,D.dv_pl p1,D.dvs_pl p2,by rw[D.dvs_dp];exact p3,λb hb=>q b (hb.trans (D.dvs_mem p1 p2)) _ H (Ex.refl R.fl) rfl⟩
theorem vK(hr:Room k X.A)(op:CmpOp):Rng X (compareOp op) (oCmp op):=by
 cases op;case Eq=>exact J2 hr
 case NotEq=>exact J0 hr
 case Lt=>exact wa GN λdx dy Q h=>by cases dx <;> cases dy <;> first|(exact False.elim h)|exact⟨_,_,rfl,rfl,h⟩
 case LtE=>exact wa Kl λdx dy Q h=>by cases dx <;> cases dy <;> first|(exact False.elim h)|exact⟨_,_,rfl,rfl,h⟩
 case Gt=>exact wa GO λdx dy Q h=>by cases dx <;> cases dy <;> first|(exact False.elim h)|exact⟨_,_,rfl,rfl,h⟩
 case GtE=>exact wa GP λdx dy Q h=>by cases dx <;> cases dy <;> first|(exact False.elim h)|exact⟨_,_,rfl,rfl,h⟩
 case Is=>exact J1
 case IsNot=>exact Dj
 case In=>exact⟨_,OpR.or2 Cg (Iw X.K hr),GF false⟩
 case NotIn=>exact⟨_,OpR.or2 yl (Cf X.K hr),GF true⟩
end Dp
namespace Dp
open PySem L2
variable{K:Frag}{f:Addr}{O O':List Addr}{H H':Hp}{X:Cx}{σ:St}{ss:SS}{a b c:Expr}{ta tb tc:TEd}{tA tB:TTd}{pos:Pos}
def ip(op:Operator)(a b:TEd):TEd:=d2 (oBin op) oBin.mono a b
theorem ip.ok(hr:Room k X.A)(ha:PE X a (LE X.K ta))(hb:PE X b (LE X.K tb)):PE X (.BinOp a op b pos) (LE X.K (ip op ta tb)):=by
 obtain⟨r,h,hr⟩:=HS (X:=X) hr op;exact d2.ok hr (tf h ha hb)
def iR(op:CmpOp)(a b:TEd):TEd:=d2 (oCmp op) oCmp.mono a b
theorem iR.ok(hr:Room k X.A)(ha:PE X a (LE X.K ta))(hb:PE X b (LE X.K tb))(hm:behindInMarks op b=false):PE X (.Compare a [op] [b] pos) (LE X.K (iR op ta tb)):=by
 obtain⟨r,h,hr⟩:=vK hr op;exact d2.ok hr (wc h ha hb hm)
def iL(t:TEd):TTd:=⟨λss Q=>t.run ss λd=>match d with | .bl b=>Q b|_=>False,λ{ss Q Q'} h q=>t.mono (λd q=>by
 revert q;cases d <;> first|exact h _|exact id) q⟩
theorem LE.test(h:LT X.K (iL t) σ H Q):C5 (LE X.K t) σ H Q:=by
 obtain⟨f,O,ss,R,q⟩:=h;refine⟨f,O,ss,R,t.mono (λd q v H' e r=>?_) q⟩;cases d <;> first|exact False.elim q|skip
 cases r;exact⟨_,rfl,q H' e⟩
theorem iR.test(hr:Room k X.A)(ha:PE X a (LE X.K ta))(hb:PE X b (LE X.K tb))(hm:behindInMarks op b=false):PT X (.Compare a [op] [b] pos) (LT X.K (iL (iR op ta tb))):=by
 obtain⟨r,h,hr⟩:=vK hr op;refine (uo (pos:=pos) h ha hb hm).weak λσ H Q q=>?_;have q:=LE.test q;obtain⟨f,O,ss,R,q⟩:=q;refine⟨f,O,ss,R,ta.mono (λdx q v1 H1 e1 r1=>?_) q⟩;refine⟨f,O,ss,R.ex e1,tb.mono (λdy q v2 H2 e2 r2=>?_) q⟩;exact hr f O σ ss H2 dx dy v1 v2 _ ((R.ex e1).ex e2) ((R.ex e1).up e2 r1) r2 (oCmp.mono (λd q v H' e3 r3=>q v H' (e1.trans (e2.trans e3)) r3) q)
def jQ(op op':CmpOp)(a b c:TEd):TEd:=⟨λss Q=>a.run ss λx=>b.run ss λy=>oCmp op x y λz=>match z with | .bl k=>if k=true then c.run ss λw=>oCmp op' y w Q else Q (.bl false)|_=>False,λ{ss Q Q'} h q=>a.mono (λx q=>b.mono (λy q=>oCmp.mono (λd q=>by
 revert q;cases d <;> first|exact id|skip
 rename_i k;cases k
 ·exact h _
 ·exact c.mono λw q=>oCmp.mono h q) q) q) q⟩
theorem jQ.test(hr:Room k X.A)(ha:PE X a (LE X.K ta))(hb:PE X b (LE X.K tb))(hc:PE X c (LE X.K tc))(hm:lastMarks [op,op'] [b,c]=false):PT X (.Compare a [op,op'] [b,c] pos) (LT X.K (iL (jQ op op' ta tb tc))):=by
 obtain⟨r,h,h1⟩:=vK hr op;obtain⟨r',h',h2⟩:=vK hr op';refine (Du (pos:=pos) h h' ha hb hc hm).weak λσ H Q q=>?_;have q:=LE.test q;obtain⟨f,O,ss,R,q⟩:=q;refine⟨f,O,ss,R,ta.mono (λdx q v1 H1 e1 r1=>?_) q⟩;refine⟨f,O,ss,R.ex e1,tb.mono (λdy q v2 H2 e2 r2=>?_) q⟩;have R2:=(R.ex e1).ex e2;refine h1 f O σ ss H2 dx dy v1 v2 _ R2 ((R.ex e1).up e2 r1) r2 (oCmp.mono (λd q v H3 e3 r3=>?_) q);cases d <;> first|exact False.elim q|skip
 rename_i k;cases r3;refine⟨k,rfl,?_⟩;cases k
 ·exact q _ H3 (e1.trans (e2.trans e3)) rfl
 ·have R3:=R2.ex e3;refine⟨f,O,ss,R3,tc.mono (λdz q v4 H4 e4 r4=>?_) q⟩;exact h2 f O σ ss H4 dy dz v2 v4 _ (R3.ex e4) (R3.up e4 (R2.up e3 r2)) r4 (oCmp.mono (λd q v H' e5 r5=>q v H' (e1.trans (e2.trans (e3.trans (e4.trans e5)))) r5) q)
theorem jQ.ok(hr:Room k X.A)(ha:PE X a (LE X.K ta))(hb:PE X b (LE X.K tb))(hc:PE X c (LE X.K tc))(hm:lastMarks [op,op'] [b,c]=false):PE X (.Compare a [op,op'] [b,c] pos) (LE X.K (jQ op op' ta tb tc)):=by
 obtain⟨r,h,h1⟩:=vK hr op;obtain⟨r',h',h2⟩:=vK hr op';refine (DF (pos:=pos) h h' ha hb hc hm).weak λσ H Q q=>?_;obtain⟨f,O,ss,R,q⟩:=q;refine⟨f,O,ss,R,ta.mono (λdx q v1 H1 e1 r1=>?_) q⟩;refine⟨f,O,ss,R.ex e1,tb.mono (λdy q v2 H2 e2 r2=>?_) q⟩;have R2:=(R.ex e1).ex e2;refine h1 f O σ ss H2 dx dy v1 v2 _ R2 ((R.ex e1).up e2 r1) r2 (oCmp.mono (λd q v H3 e3 r3=>?_) q);cases d <;> first|exact False.elim q|skip
 rename_i k;cases r3;refine⟨k,rfl,?_⟩;cases k
 ·exact q _ H3 (e1.trans (e2.trans e3)) rfl
 ·have R3:=R2.ex e3;refine⟨f,O,ss,R3,tc.mono (λdz q v4 H4 e4 r4=>?_) q⟩;exact h2 f O σ ss H4 dy dz v2 v4 _ (R3.ex e4) (R3.up e4 (R2.up e3 r2)) r4 (oCmp.mono (λd q v H' e5 r5=>q v H' (e1.trans (e2.trans (e3.trans (e4.trans e5)))) r5) q)
def jR(a:TEd):TEd:=⟨λss Q=>a.run ss λd=>match d with | .int i=>Q (.int (-i))|_=>False,λ{ss Q Q'} h q=>a.mono (λd q=>by
 revert q;cases d <;> first|exact h _|exact id) q⟩
theorem jR.ok(ha:PE X a (LE X.K ta)):PE X (.UnaryOp .USub a pos) (LE X.K (jR ta)):=(GK (pos:=pos) CZ ha).weak λσ H Q ⟨f,O,ss,R,q⟩=>⟨f,O,ss,R,ta.mono (λd q v H1 e r=>by
 cases d <;> first|exact False.elim q|skip
 cases r;exact⟨_,rfl,q _ H1 e rfl⟩) q⟩
def truD:D->(Bool->Prop)->Prop
 | .non,Q=>Q false
 | .bl b,Q=>Q b
 | .int i,Q=>Q (i != 0)
 | .str y,Q=>y.length<=sizeLine/\Q ((y.length:Int) != 0)
 | .tup l,Q=>Q (!l.isEmpty)
 | .lst l,Q=>Q (!l.isEmpty)
 | .fl,_=>False
 | .exn _ _ _,_=>False
 | .dct _ _,_=>False
theorem truD.mono:∀{d:D} {Q Q':Bool->Prop},(∀ b,Q b->Q' b)->truD d Q->truD d Q'
 | .non,_,_,h,q=>h _ q
 | .bl _,_,_,h,q=>h _ q
 | .int _,_,_,h,q=>h _ q
 | .str _,_,_,h,q=>⟨q.1,h _ q.2⟩
 | .tup _,_,_,h,q=>h _ q
 | .lst _,_,_,h,q=>h _ q
 | .fl,_,_,_,q=>q
 | .exn ..,_,_,_,q=>q
 | .dct _ _,_,_,_,q=>q
theorem Rps.empty:∀{ds:List D} {vs:List V},Rps K f O H ds vs->vs.isEmpty=ds.isEmpty
 | [],_,h=>by rw[show _=[] from h];rfl
 | _::_,_,h=>by obtain⟨v,r,e,_⟩:=h;rw[e];rfl
def mF(a:TEd):TTd:=⟨λss Q=>a.run ss λd=>truD d Q,λh q=>a.mono (λd q=>truD.mono h q) q⟩
theorem mF.ok(ha:PE X a (LE X.K ta))(he:∀ whole,isTrue a X.env whole=(do let v ← whole;standAt a.pos;holding [v] (truthy v))):PT X a (LT X.K (mF ta)):=(yS ha he).weak λσ H Q ⟨f,O,ss,R,q⟩=>⟨f,O,ss,R,ta.mono (λd q v H1 e r=>by
 cases d;case non=>cases r;exact⟨false,rfl,q H1 e⟩
 case bl=>cases r;exact⟨_,rfl,q H1 e⟩
 case int=>cases r;exact⟨_,rfl,q H1 e⟩
 case str=>cases r;exact⟨_,⟨q.1,rfl⟩,q.2 H1 e⟩
 case tup l =>
  obtain⟨p,xs,rfl,h1,h2⟩:=r;exact⟨_,.inr (.inl ⟨xs,h1,by rw[h2.empty]⟩),q H1 e⟩
 case lst l =>
  obtain⟨p,xs,rfl,_,h1,h2⟩:=r;exact⟨_,.inl ⟨xs,SqL.of h1,by rw[h2.empty]⟩,q H1 e⟩
 case fl=>exact False.elim q
 case exn=>exact False.elim q
 case dct=>exact False.elim q) q⟩
def jw(a b:TTd):TTd:=⟨λss Q=>a.run ss λk=>if k=true then b.run ss Q else Q false,λ{ss Q Q'} h q=>a.mono (λk q=>by
 revert q;cases k
 ·exact h _
 ·exact b.mono h) q⟩
def pX(a b:TTd):TTd:=⟨λss Q=>a.run ss λk=>if k=true then Q true else b.run ss Q,λ{ss Q Q'} h q=>a.mono (λk q=>by
 revert q;cases k
 ·exact b.mono h
 ·exact h _) q⟩
def j5(a:TTd):TTd:=⟨λss Q=>a.run ss λk=>Q (!k),λh q=>a.mono (λk q=>h _ q) q⟩
theorem jw.weak(h:LT X.K (jw tA tB) σ H Q):JW (LT X.K tA) (LT X.K tB) σ H Q:=by
 obtain⟨f,O,ss,S,q⟩:=h;refine⟨f,O,ss,S,tA.mono (λk q H1 e=>?_) q⟩;cases k
 ·exact q H1 e
 ·exact⟨f,O,ss,S.ex e,tB.mono (λk q H2 e2=>q H2 (e.trans e2)) q⟩
theorem pX.weak(h:LT X.K (pX tA tB) σ H Q):MG (LT X.K tA) (LT X.K tB) σ H Q:=by
 obtain⟨f,O,ss,S,q⟩:=h;refine⟨f,O,ss,S,tA.mono (λk q H1 e=>?_) q⟩;cases k
 ·exact⟨f,O,ss,S.ex e,tB.mono (λk q H2 e2=>q H2 (e.trans e2)) q⟩
 ·exact q H1 e
theorem _root_.L2.PW.weak(h:PW X e t)(w:∀ σ H Q,t' σ H Q->t σ H Q):PW X e t':=λwh pins s σ H Q I q=>h wh pins s σ H Q I (w σ H Q q)
theorem jw.ok(ha:PT X a (LT X.K tA))(hb:PW X (.BoolOp .And (b::rest) pos) (LT X.K tB)):PW X (.BoolOp .And (a::b::rest) pos) (LT X.K (jw tA tB)):=(Dr ha hb).weak λ_ _ _=>jw.weak
theorem pX.ok(ha:PT X a (LT X.K tA))(hb:PW X (.BoolOp .Or (b::rest) pos) (LT X.K tB)):PW X (.BoolOp .Or (a::b::rest) pos) (LT X.K (pX tA tB)):=(Kd ha hb).weak λ_ _ _=>pX.weak
theorem j5.ok(ha:PT X a (LT X.K tA)):PT X (.UnaryOp .Not a pos) (LT X.K (j5 tA)):=(Ig ha).weak λσ H Q ⟨f,O,ss,S,q⟩=>⟨f,O,ss,S,q⟩
def qT(a b:TEd):TEd:=⟨λss Q=>a.run ss λd=>match d with | .bl k=>if k=true then b.run ss Q else Q (.bl false)|_=>False,λ{ss Q Q'} h q=>a.mono (λd q=>by
 revert q;cases d <;> first|exact id|skip
 rename_i k;cases k
 ·exact h _
 ·exact b.mono h) q⟩
def dOr(a b:TEd):TEd:=⟨λss Q=>a.run ss λd=>match d with | .bl k=>if k=true then Q (.bl true) else b.run ss Q|_=>False,λ{ss Q Q'} h q=>a.mono (λd q=>by
 revert q;cases d <;> first|exact id|skip
 rename_i k;cases k
 ·exact b.mono h
 ·exact h _) q⟩
def rc(a:TEd):TEd:=⟨λss Q=>a.run ss λd=>match d with | .bl k=>Q (.bl (!k))|_=>False,λ{ss Q Q'} h q=>a.mono (λd q=>by
 revert q;cases d <;> first|exact h _|exact id) q⟩
theorem qT.ok(ha:PE X a (LE X.K ta))(hb:PE X (.BoolOp .And (b::rest) pos) (LE X.K tb)):PE X (.BoolOp .And (a::b::rest) pos) (LE X.K (qT ta tb)):=(Av ha hb).weak λσ H Q ⟨f,O,ss,S,q⟩=>⟨f,O,ss,S,ta.mono (λd q v H1 e r=>by
 cases d <;> first|exact False.elim q|skip
 rename_i k;cases r;refine⟨k,rfl,?_⟩;cases k
 ·exact q _ H1 e rfl
 ·exact⟨f,O,ss,S.ex e,tb.mono (λk q v H2 e2 r=>q v H2 (e.trans e2) r) q⟩) q⟩
theorem dOr.ok(ha:PE X a (LE X.K ta))(hb:PE X (.BoolOp .Or (b::rest) pos) (LE X.K tb)):PE X (.BoolOp .Or (a::b::rest) pos) (LE X.K (dOr ta tb)):=(Ke ha hb).weak λσ H Q ⟨f,O,ss,S,q⟩=>⟨f,O,ss,S,ta.mono (λd q v H1 e r=>by
 cases d <;> first|exact False.elim q|skip
 rename_i k;cases r;refine⟨k,rfl,?_⟩;cases k
 ·exact⟨f,O,ss,S.ex e,tb.mono (λk q v H2 e2 r=>q v H2 (e.trans e2) r) q⟩
 ·exact q _ H1 e rfl) q⟩
theorem rc.ok(ha:PE X a (LE X.K ta)):PE X (.UnaryOp .Not a pos) (LE X.K (rc ta)):=(Im (pos:=pos) ha).weak λσ H Q ⟨f,O,ss,S,q⟩=>⟨f,O,ss,S,ta.mono (λd q v H1 e r=>by
 cases d <;> first|exact False.elim q|skip
 rename_i k;cases r;exact⟨k,rfl,q _ H1 e rfl⟩) q⟩
def qU(c:TTd)(a b:TEd):TEd:=⟨λss Q=>c.run ss λk=>if k=true then a.run ss Q else b.run ss Q,λ{ss Q Q'} h q=>c.mono (λk q=>by
 revert q;cases k
 ·exact b.mono h
 ·exact a.mono h) q⟩
theorem qU.ok(hc:PT X c (LT X.K tA))(ha:PE X a (LE X.K ta))(hb:PE X b (LE X.K tb)):PE X (.IfExp c a b pos) (LE X.K (qU tA ta tb)):=(DE (pos:=pos) hc ha hb).weak λσ H Q ⟨f,O,ss,S,q⟩=>⟨f,O,ss,S,tA.mono (λk q H1 e=>by
 cases k
 ·exact⟨f,O,ss,S.ex e,tb.mono (λk q v H2 e2 r=>q v H2 (e.trans e2) r) q⟩
 ·exact⟨f,O,ss,S.ex e,ta.mono (λk q v H2 e2 r=>q v H2 (e.trans e2) r) q⟩) q⟩
def il:TAd:=⟨λ_ Q=>Q [],λh q=>h _ q⟩
def ii(a:TEd)(r:TAd):TAd:=⟨λss Q=>a.run ss λd=>r.run ss λds=>Q (d::ds),λh q=>a.mono (λd q=>r.mono (λds q=>h _ q) q) q⟩
theorem il.ok:PA X [] (LA X.K il):=pa_nil.weak λσ H Q ⟨f,O,ss,S,q⟩=>q [] H (Ex.refl S.fl) rfl
theorem ii.ok(ha:PE X a (LE X.K ta))(hr:PA X es (LA X.K t))(hs:starEach (a::es) X.env=(false,eval a X.env)::starEach es X.env):PA X (a::es) (LA X.K (ii ta t)):=(sy ha hr hs).weak λσ H Q ⟨f,O,ss,S,q⟩ =>
 ⟨f,O,ss,S,ta.mono (λd q v H1 e r=>⟨f,O,ss,S.ex e,t.mono (λds q vs H2 e2 r2=>q (v::vs) H2 (e.trans e2) ⟨v,vs,rfl,(S.ex e).up e2 r,r2⟩) q⟩) q⟩
def iA(t:TAd):TEd:=⟨λss Q=>t.run ss λds=>ds.length<=sizeLine/\Q (.tup ds),λh q=>t.mono (λds q=>⟨q.1,h _ q.2⟩) q⟩
def iN(t:TAd):TEd:=⟨λss Q=>t.run ss λds=>ds.length<=sizeLine/\Q (.lst ds),λh q=>t.mono (λds q=>⟨q.1,h _ q.2⟩) q⟩
theorem iA.ok(h:PA X es (LA X.K t)):PE X (.Tuple es k pos) (LE X.K (iA t)):=(DC h).weak λσ H Q ⟨f,O,ss,S,q⟩ =>
 ⟨f,O,ss,S,t.mono (λds q vs H1 e r=>⟨by rw[r.len];exact q.1,λp hp=>q.2 _ _ (e.trans ((S.ex e).new hp _)) ((S.ex e).tup hp r)⟩) q⟩
theorem iN.ok(h:PA X es (LA X.K t)):PE X (.List es pos) (LE X.K (iN t)):=(At h).weak λσ H Q ⟨f,O,ss,S,q⟩ =>
 ⟨f,O,ss,S,t.mono (λds q vs H1 e r=>⟨by rw[r.len];exact q.1,λp hp=>q.2 _ _ (e.trans ((S.ex e).new hp _)) ((S.ex e).lst hp r)⟩) q⟩
def itD(l:List D)(i:Int)(Q:D->Prop):Prop:=match wl l i with|some d=>Q d|none=>False
theorem itD.mono(h:∀ d,Q d->Q' d):itD l i Q->itD l i Q':=by
 unfold itD;split
 ·exact h _
 ·exact id
theorem itD.rp(r:Rps K f O H l xs)(q:itD l i Q):∃ v d,wl xs i=some v/\Rp K f O H d v/\Q d:=by
 unfold itD at q;split at q
 ·rename_i d e;unfold wl at e ⊢;rw[r.len];cases h:y4 l.length i with
  | none=>rw[h] at e;cases e
  | some j =>
   rw[h] at e;obtain⟨v,h1,h2⟩:=r.get (show l[j]? = some d from e);exact⟨v,d,h1,h2,q⟩
 ·exact q.elim
def oIx:OD
 | .lst l,.int i,Q=>itD l i Q
 | .tup l,.int i,Q=>itD l i Q
 | .str z,.int i,Q=>z.length<=sizeLine/\∃ c,wl z.cps.toList i=some c/\Q (.str ⟨#[c]⟩)
 | .dct ks l,.int i,Q=>∃(j:Nat) (d:D),ks[j]? = some (Sum.inl i)/\l[j]? = some d/\Q d
 | .dct ks l,.str x,Q=>∃(j:Nat) (d:D),ks[j]? = some (Sum.inr x)/\l[j]? = some d/\Q d
 | _,_,_=>False
theorem oIx.mono:∀{x y Q Q'},(∀ d,Q d->Q' d)->oIx x y Q->oIx x y Q':=by
 intro x y Q Q' h;cases x <;> cases y <;> intro q <;> first|exact itD.mono h q|exact q|skip
 ·obtain⟨q0,c,q1,q2⟩:=q;exact⟨q0,c,q1,h _ q2⟩
 ·obtain⟨j,d,q0,q1,q2⟩:=q;exact⟨j,d,q0,q1,h _ q2⟩
 ·obtain⟨j,d,q0,q1,q2⟩:=q;exact⟨j,d,q0,q1,h _ q2⟩
def J4(K:Frag):R2:=λx y H Q=>Lc K x y H Q\/J7 x y H Q
theorem D7:IxR X (J4 X.K):=ix_seq.or F1
theorem Ev{ks:List wp}{l:List D}{us:List V}{j:Nat}{k:wp}{d:D}(h1:ks[j]? = some k)(h2:l[j]? = some d)(r:Rps K f O H l us):∃ v,(k,v)∈ks.zip us/\Rp K f O H d v:=by
 obtain⟨v,hv,rv⟩:=r.get h2;exact⟨v,aL (i:=j) (by rw[List.getElem?_zip_eq_some];exact⟨h1,hv⟩),rv⟩
theorem GE:RD X.K (J4 X.K) oIx:=by
 intro f O σ ss H dx dy x y Q R rx ry h;cases dx <;> cases dy <;> first|(exact False.elim h)|skip
 ·rename_i z i;cases rx;cases ry;obtain⟨q0,c,q1,q2⟩:=h;exact .inl (.inr (.inr ⟨z,i,c,rfl,rfl,q0,q1,q2 _ H (Ex.refl R.fl) rfl⟩))
 ·rename_i l i;obtain⟨p,xs,rfl,h1,h2⟩:=rx;cases ry;obtain⟨v,d,e,r,q⟩:=itD.rp h2 h;exact .inl (.inr (.inl ⟨p,xs,i,v,rfl,rfl,h1,e,q v H (Ex.refl R.fl) r⟩))
 ·rename_i l i;obtain⟨p,xs,rfl,_,h1,h2⟩:=rx;cases ry;obtain⟨v,d,e,r,q⟩:=itD.rp h2 h;exact .inl (.inl ⟨p,xs,i,v,rfl,rfl,SqL.of h1,e,q v H (Ex.refl R.fl) r⟩)
 ·rename_i ks l i;obtain⟨p,us,rfl,h1,h2,h3⟩:=rx;cases ry;obtain⟨j,d,e1,e2,q⟩:=h;obtain⟨v,hm,rv⟩:=Ev e1 e2 h3;exact .inr ⟨p,_,.inl i,v,rfl,rfl,h1,hm,q v H (Ex.refl R.fl) rv⟩
 ·rename_i ks l x;obtain⟨p,us,rfl,h1,h2,h3⟩:=rx;cases ry;obtain⟨j,d,e1,e2,q⟩:=h;obtain⟨v,hm,rv⟩:=Ev e1 e2 h3;exact .inr ⟨p,_,.inr x,v,rfl,rfl,h1,hm,q v H (Ex.refl R.fl) rv⟩
def dIx(a b:TEd):TEd:=d2 oIx oIx.mono a b
theorem dIx.ok(ha:PE X a (LE X.K ta))(hb:PE X b (LE X.K tb))(hs:wo b):PE X (.Subscript a b pos) (LE X.K (dIx ta tb)):=d2.ok GE (tE D7 ha hb hs)
def itI(l:List D)(y:D)(Q:D->Prop):Prop:=match y with | .int j=>itD l j Q|_=>False
theorem itI.mono(h:∀ d,Q d->Q' d):itI l y Q->itI l y Q':=by
 cases y <;> first|exact id|exact itD.mono h
def j6(i:Nat)(b:TEd):TEd:=⟨λss Q=>match ss[i]? with|some (.val d)=>b.run ss λy=>oIx d y Q|some (.own l)=>b.run ss λy=>itI l y Q|_=>False,λ{ss Q Q'} h q=>by
 revert q;split
 ·exact b.mono λy=>oIx.mono h
 ·exact b.mono λy=>itI.mono h
 ·exact id⟩
theorem j6.ok(ha:PE X a (vn i))(hb:PE X b (LE X.K tb))(hs:wo b):PE X (.Subscript a b pos) (LE X.K (j6 i tb)):=(tE (pos:=pos) D7 ha hb hs).weak λσ H Q ⟨f,O,ss,R,q⟩=>by
 have q:(match ss[i]? with|some (.val d)=>tb.run ss λy=>oIx d y (λd=>∀ v H',Ex f H H'->Rp X.K f O H' d v->Q v H')|some (.own l)=>tb.run ss λy=>itI l y (λd=>∀ v H',Ex f H H'->Rp X.K f O H' d v->Q v H')|_=>False):=q;split at q
 ·rename_i d e;obtain⟨v,h1,h2⟩:=R.val i d e;refine⟨v,h1,f,O,ss,R,tb.mono (λdy q y H1 e1 r1=>?_) q⟩;exact GE f O σ ss H1 d dy v y Q (R.ex e1) (R.up e1 h2) r1 (oIx.mono (λd q v H' e r=>q v H' (e1.trans e) r) q)
 ·rename_i l e;obtain⟨p,xs,h1,h2,h3,h4,h5⟩:=R.own i l e;refine⟨_,h1,f,O,ss,R,tb.mono (λdy q y H1 e1 r1=>?_) q⟩;cases dy <;> first|exact False.elim q|skip
  cases r1;obtain⟨v,d,e,r,q⟩:=itD.rp (R.ups e1 h5) q;exact .inl (.inl ⟨p,xs,_,v,rfl,rfl,SqL.of (e1.sm.app p _ h3 h4),e,q v H1 e1 r⟩)
 ·exact q.elim
def tZ{α:Type}(xs:List α)(lo hi:Option Int):List α:=(xs.drop (HT.tx xs.length 0 lo)).take (HT.tx xs.length xs.length hi-HT.tx xs.length 0 lo)
theorem Rps.cut(r:Rps K f O H ds xs)(lo hi:Option Int):Rps K f O H (tZ ds lo hi) (zI xs lo hi):=by
 unfold tZ zI;rw[r.len];exact (r.drop _).take _
def dNo:TOd:=⟨λ_ Q=>Q none,λh q=>h _ q⟩
def kQ(t:TEd):TOd:=⟨λss Q=>t.run ss λd=>match d with | .int i=>Q (some i)|_=>False,λ{ss Q Q'} h q=>t.mono (λd q=>by
 revert q;cases d <;> first|exact h _|exact id) q⟩
theorem dNo.ok:PO X none (LO X.K dNo):=po_none.weak λσ H Q ⟨f,O,ss,S,q⟩=>q H (Ex.refl S.fl)
theorem kQ.ok(ha:PE X a (LE X.K ta)):PO X (some a) (LO X.K (kQ ta)):=(Bh ha).weak λσ H Q ⟨f,O,ss,S,q⟩=>⟨f,O,ss,S,ta.mono (λd q v H1 e r=>by
 cases d <;> first|exact False.elim q|skip
 cases r;exact⟨_,rfl,q H1 e⟩) q⟩
def slD(d:D)(lo hi:Option Int)(Q:D->Prop):Prop:=match d with
 | .lst l=>Q (.lst (tZ l lo hi))
 | .tup l=>True/\Q (.tup (tZ l lo hi))
 | _=>False
theorem slD.mono(h:∀ d,Q d->Q' d):slD d lo hi Q->slD d lo hi Q':=by
 cases d <;> intro q <;> first|exact h _ q|exact⟨q.1,h _ q.2⟩|exact q
theorem Dc:SlR X (λx lo hi H Q=>∃ a xs,x = .ref a/\SqT X.K H a xs/\(HT.tx xs.length 0 lo=0/\HT.tx xs.length xs.length hi=xs.length)/\Q (.ref a) H):=by
 intro pins s σ H x v vl vu lo hi sl Q I rx hs pl pu h;obtain⟨a,xs,e,hx,hw,q⟩:=h;subst e;cases rx;obtain⟨its,r,ht,hz⟩:=I.tuple hx;have hlen:its.toArray.size=xs.length:=by rw[ao];exact r.length.symm
 exact⟨"tuple",_,PyProof.Rows.slot_tuple_getitem.lookup,ht.typeIs,HT.u5 ht hs pl pu (by rw[hlen];exact hw) ⟨.ref a,H,I,rfl,q⟩⟩
def dSl(a:TEd)(l u:TOd):TEd:=⟨λss Q=>a.run ss λd=>l.run ss λlo=>u.run ss λhi=>slD d lo hi Q,λh q=>a.mono (λd q=>l.mono (λlo q=>u.mono (λhi q=>slD.mono h q) q) q) q⟩
theorem dSl.ok(ha:PE X a (LE X.K ta))(hl:PO X lo (LO X.K tl))(hu:PO X hi (LO X.K tu)):PE X (.Subscript a (.Slice lo hi none p2) pos) (LE X.K (dSl ta tl tu)):=by
 refine (DD (pos:=pos) (p2:=p2) (sl_list.or (sl_tup.or Dc)) ha hl hu).weak λσ H Q ⟨f,O,ss,S,q⟩=>?_;refine⟨f,O,ss,S,ta.mono (λd q v H1 e1 r=>?_) q⟩;have S1:=S.ex e1;refine⟨f,O,ss,S1,tl.mono (λlo q H2 e2=>?_) q⟩;have S2:=S1.ex e2;refine⟨f,O,ss,S2,tu.mono (λhi q H3 e3=>?_) q⟩;have S3:=S2.ex e3;have r:=S2.up e3 (S1.up e2 r);cases d <;> first|exact False.elim q|skip
 ·have r':=r;obtain⟨p,xs,rfl,h1,h2⟩:=r;by_cases hw:HT.tx xs.length 0 lo=0/\HT.tx xs.length xs.length hi=xs.length
  ·refine .inr (.inr ⟨p,xs,rfl,h1,hw,q.2 _ _ (e1.trans (e2.trans e3)) ?_⟩);unfold tZ;rw[← h2.len,hw.1,hw.2,dL,bA,h2.len,bW];exact r'
  ·exact .inr (.inl ⟨p,xs,rfl,h1,hw,λp hp=>q.2 _ _ (e1.trans (e2.trans (e3.trans (S3.new hp _)))) (S3.tup hp (h2.cut _ _))⟩)
 ·rename_i l;obtain⟨p,xs,rfl,_,h1,h2⟩:=r;exact .inl ⟨p,xs,rfl,SqL.of h1,λp hp=>q _ _ (e1.trans (e2.trans (e3.trans (S3.new hp _)))) (S3.lst hp (h2.cut _ _))⟩
def qt(a:TEd):TEd:=⟨λss Q=>a.run ss λd=>match d with | .lst l=>Q (.lst l.reverse)|_=>False,λ{ss Q Q'} h q=>a.mono (λd q=>by
 revert q;cases d <;> first|exact h _|exact id) q⟩
theorem qt.ok{j k:Nat}{p1 p2 p3:Pos}(ha:PE X a (LE X.K ta)):PE X (.Subscript a (.Slice none none (some (.UnaryOp .USub (.Constant (.int 1) j p1) p3)) p2) pos) (LE X.K (qt ta)):=by
 refine (Ce (pos:=pos) (p2:=p2) (LP X.K) ha po_none po_none (Bh (GK (pos:=p3) CZ (sA (j:=j) (pos:=p1))))).weak λσ H Q ⟨f,O,ss,S,q⟩=>?_;refine⟨f,O,ss,S,ta.mono (λd q v H1 e1 r=>?_) q⟩;have S1:=S.ex e1;cases d <;> first|exact False.elim q|skip
 rename_i l;obtain⟨p,xs,rfl,_,h1,h2⟩:=r;exact⟨_,rfl,_,rfl,rfl,rfl,rfl,p,xs,rfl,SqL.of h1,λp hp=>q _ _ (e1.trans (S1.new hp _)) (S1.lst hp h2.reverse)⟩
abbrev BD:=List D->(D->Prop)->Prop
def dB(o:BD)(m:∀{ds Q Q'},(∀ d,Q d->Q' d)->o ds Q->o ds Q')(t:TAd):TEd:=⟨λss Q=>t.run ss λds=>o ds Q,λh q=>t.mono (λds q=>m h q) q⟩
def RC(K:Frag)(r:List V->Hp->VK->Prop)(o:BD):Prop:=∀(f:Addr) (O:List Addr) (σ:St) (ss:SS) (H:Hp) (ds:List D) (vs:List V) (Q:VK),SlD K f O σ H ss->Rps K f O H ds vs->o ds (λd=>∀ v H',Ex f H H'->Rp K f O H' d v->Q v H')->r vs H Q
theorem dB.ok(hr:RC X.K r o)(h:PE X e (LC r (LA X.K t))):PE X e (LE X.K (dB o m t)):=h.weak λσ H Q ⟨f,O,ss,S,q⟩ =>
 ⟨f,O,ss,S,t.mono (λds q vs H1 e1 r1=>hr f O σ ss H1 ds vs Q (S.ex e1) r1 (m (λd q v H' e r=>q v H' (e1.trans e) r) q)) q⟩
def RB(X:Cx)(g:Value)(o:BD):Prop:=∃ r,CallR X g r/\RC X.K r o
theorem CallR.or2(h:CallR X g r)(h':CallR X g r'):CallR X g (λxs H Q=>r xs H Q\/r' xs H Q):=λpins s σ H xs us Q I rx q=>q.elim (h pins s σ H xs us Q I rx) (h' pins s σ H xs us Q I rx)
def bLen:BD
 | [.lst l],Q=>Q (.int l.length)
 | [.tup l],Q=>Q (.int l.length)
 | [.str z],Q=>z.length<=sizeLine/\Q (.int z.length)
 | _,_=>False
def bAbs:BD
 | [.int i],Q=>Q (.int (if i<0 then -i else i))
 | _,_=>False
def bAll:BD
 | [.lst l],Q=>∃ bs:List Bool,l=bs.map D.bl/\Q (.bl (bs.all id))
 | _,_=>False
def bSum:BD
 | [.lst l],Q=>∃ ns:List Int,l=ns.map D.int/\Q (.int ns.sum)
 | [.tup l],Q=>∃ ns:List Int,l=ns.map D.int/\Q (.int ns.sum)
 | _,_=>False
def bMax:BD
 | [.int i,.int j],Q=>Q (.int (if j > i then j else i))
 | [.lst l],Q=>∃ ns:List Int,l=ns.map D.int/\ns≠[]/\∀ M,M∈ns->(∀ a∈ns,a<=M)->Q (.int M)
 | _,_=>False
def bMin:BD
 | [.int i,.int j],Q=>Q (.int (if j<i then j else i))
 | _,_=>False
def bInt:BD
 | [.int i],Q=>Q (.int i)
 | [.bl k],Q=>Q (.int (if k then 1 else 0))
 | _,_=>False
def bList:BD
 | [.lst l],Q=>Q (.lst l)
 | [.tup l],Q=>Q (.lst l)
 | _,_=>False
def bTuple:BD
 | [.lst l],Q=>Q (.tup l)
 | [.tup l],Q=>Q (.tup l)
 | _,_=>False
end Dp
set_option maxHeartbeats 1000000
set_option maxHeartbeats 1000000
set_option maxHeartbeats 1000000
namespace Dp
open PySem L2
variable{K:Frag}{f:Addr}{O O':List Addr}{H H':Hp}{X:Cx}{σ:St}{ss:SS}{a b c:Expr}{ta tb tc:TEd}{tA tB:TTd}{pos:Pos}
theorem Rps.one(h:Rps K f O H [d] vs):∃ v,vs=[v]/\Rp K f O H d v:=by
 obtain⟨v,r,e,h1,h2⟩:=h;cases (show r=[] from h2);exact⟨v,e,h1⟩
theorem Rps.two(h:Rps K f O H [d,d'] vs):∃ v v',vs=[v,v']/\Rp K f O H d v/\Rp K f O H d' v':=by
 obtain⟨v,r,e,h1,h2⟩:=h;obtain⟨w,e2,h3⟩:=Rps.one h2;subst e2;exact⟨v,w,e,h1,h3⟩
theorem bLen.mono:∀{ds Q Q'},(∀ d,Q d->Q' d)->bLen ds Q->bLen ds Q':=by
 intro ds Q Q' h;unfold bLen;split <;> first|exact h _|exact λq=>⟨q.1,h _ q.2⟩|exact id
theorem bAbs.mono:∀{ds Q Q'},(∀ d,Q d->Q' d)->bAbs ds Q->bAbs ds Q':=by
 intro ds Q Q' h;unfold bAbs;split <;> first|exact h _|exact id
theorem bAll.mono:∀{ds Q Q'},(∀ d,Q d->Q' d)->bAll ds Q->bAll ds Q':=by
 intro ds Q Q' h;unfold bAll;split <;> first|exact fun⟨bs,e,q⟩=>⟨bs,e,h _ q⟩|exact id
theorem bSum.mono:∀{ds Q Q'},(∀ d,Q d->Q' d)->bSum ds Q->bSum ds Q':=by
 intro ds Q Q' h;unfold bSum;split <;> first|exact fun⟨bs,e,q⟩=>⟨bs,e,h _ q⟩|exact id
theorem bMax.mono:∀{ds Q Q'},(∀ d,Q d->Q' d)->bMax ds Q->bMax ds Q':=by
 intro ds Q Q' h;unfold bMax;split <;> first|exact h _|exact fun⟨bs,e,n,q⟩=>⟨bs,e,n,λM m l=>h _ (q M m l)⟩|exact id
theorem bMin.mono:∀{ds Q Q'},(∀ d,Q d->Q' d)->bMin ds Q->bMin ds Q':=by
 intro ds Q Q' h;unfold bMin;split <;> first|exact h _|exact id
theorem bInt.mono:∀{ds Q Q'},(∀ d,Q d->Q' d)->bInt ds Q->bInt ds Q':=by
 intro ds Q Q' h;unfold bInt;split <;> first|exact h _|exact id
theorem bList.mono:∀{ds Q Q'},(∀ d,Q d->Q' d)->bList ds Q->bList ds Q':=by
 intro ds Q Q' h;unfold bList;split <;> first|exact h _|exact id
theorem bTuple.mono:∀{ds Q Q'},(∀ d,Q d->Q' d)->bTuple ds Q->bTuple ds Q':=by
 intro ds Q Q' h;unfold bTuple;split <;> first|exact h _|exact id
theorem Dm:RB X (.builtin "len") bLen:=by
 refine⟨_,CallR.or2 (Cr X.K) yE,λf O σ ss H ds vs Q S r h=>?_⟩;unfold bLen at h;split at h
 ·obtain⟨v,rfl,p,xs,rfl,_,h1,h2⟩:=Rps.one r;refine .inl ⟨p,xs,rfl,.inl (SqL.of h1),?_⟩;rw[h2.len];exact h _ H (Ex.refl S.fl) rfl
 ·obtain⟨v,rfl,p,xs,rfl,h1,h2⟩:=Rps.one r;refine .inl ⟨p,xs,rfl,.inr h1,?_⟩;rw[h2.len];exact h _ H (Ex.refl S.fl) rfl
 ·obtain⟨v,rfl,e⟩:=Rps.one r;cases e;exact .inr ⟨_,rfl,h.1,h.2 _ H (Ex.refl S.fl) rfl⟩
 ·exact h.elim
theorem H8:RB X (.builtin "abs") bAbs:=by
 refine⟨_,EN,λf O σ ss H ds vs Q S r h=>?_⟩;unfold bAbs at h;split at h
 ·obtain⟨v,rfl,e⟩:=Rps.one r;cases e;exact⟨_,rfl,h _ H (Ex.refl S.fl) rfl⟩
 ·exact h.elim
theorem HZ(hc:X.calm=true):RB X (.builtin "all") bAll:=by
 refine⟨_,K0 X.K hc,λf O σ ss H ds vs Q S r h=>?_⟩;unfold bAll at h;split at h
 ·obtain⟨bs,rfl,h⟩:=h;obtain⟨v,rfl,p,xs,rfl,_,h1,h2⟩:=Rps.one r;cases h2.bls;exact⟨p,bs,rfl,SqL.of h1,h _ H (Ex.refl S.fl) rfl⟩
 ·exact h.elim
theorem LK(K:Frag)(hc:X.calm=true:=by rfl)(hK:X.K=K:=by rfl):CallR X (.builtin "sum") (λxs H Q=>∃ p,∃ ns:List Int,xs=[.ref p]/\SqT K H p (ns.map V.int)/\Q (.int ns.sum) H):=by
 subst hK;intro pins s σ H xs us Q I rv h;obtain⟨p,ns,rfl,hp,q⟩:=h;obtain⟨u,rfl,ru⟩:=rv.one;cases ru;obtain⟨its,rv',pl,_⟩:=I.tuple hp;obtain⟨ys,e1,e2⟩:=uT rv';subst e1;have hl:s.heap.IsTuple p (intItems ys.toArray):=by
  have:intItems ys.toArray=(ys.map (λp=>Value.int p.1 p.2)).toArray:=by simp[intItems]
  rw[this];exact pl
 refine PySem.W.ktm_sumG (I.ok.hd hc) hl λh' tk t' hk=>?_;refine⟨.int _,H,I.kept (t':=tk) hk,⟨t',rfl⟩,?_⟩;have:preSum (numAt ys.toArray) ys.toArray.size=ns.sum:=by
  have e:numAt ys.toArray=λi=>ns.getD i 0:=by
   funext i;rw[numAt_eq,← e2]
  have l:ys.toArray.size=ns.length:=by rw[← e2];simp
  rw[e,l,vM ns _ (af _),bW]
 rw[this];exact q
theorem HV(hc:X.calm=true):RB X (.builtin "sum") bSum:=by
 refine⟨_,CallR.or2 (LL X.K hc) (LK X.K hc),λf O σ ss H ds vs Q S r h=>?_⟩;unfold bSum at h;split at h
 ·obtain⟨bs,rfl,h⟩:=h;obtain⟨v,rfl,p,xs,rfl,_,h1,h2⟩:=Rps.one r;cases h2.ints;exact .inl ⟨p,bs,rfl,SqL.of h1,h _ H (Ex.refl S.fl) rfl⟩
 ·obtain⟨bs,rfl,h⟩:=h;obtain⟨v,rfl,p,xs,rfl,h1,h2⟩:=Rps.one r;cases h2.ints;exact .inr ⟨p,bs,rfl,h1,h _ H (Ex.refl S.fl) rfl⟩
 ·exact h.elim
theorem HX(hc:X.calm=true):RB X (.builtin "max") bMax:=by
 refine⟨_,CallR.or2 (CO hc) (Mc X.K hc),λf O σ ss H ds vs Q S r h=>?_⟩;unfold bMax at h;split at h
 ·obtain⟨v,v',rfl,e1,e2⟩:=Rps.two r;cases e1;cases e2;exact .inl ⟨_,_,rfl,h _ H (Ex.refl S.fl) rfl⟩
 ·obtain⟨bs,rfl,n,h⟩:=h;obtain⟨v,rfl,p,xs,rfl,_,h1,h2⟩:=Rps.one r;cases h2.ints;exact .inr ⟨p,bs,rfl,SqL.of h1,n,λM m l=>h M m l _ H (Ex.refl S.fl) rfl⟩
 ·exact h.elim
theorem HW(hc:X.calm=true):RB X (.builtin "min") bMin:=by
 refine⟨_,CN hc,λf O σ ss H ds vs Q S r h=>?_⟩;unfold bMin at h;split at h
 ·obtain⟨v,v',rfl,e1,e2⟩:=Rps.two r;cases e1;cases e2;exact⟨_,_,rfl,h _ H (Ex.refl S.fl) rfl⟩
 ·exact h.elim
theorem HY:RB X (.type "int") bInt:=by
 refine⟨_,CP,λf O σ ss H ds vs Q S r h=>?_⟩;unfold bInt at h;split at h
 ·obtain⟨v,rfl,e⟩:=Rps.one r;cases e;exact .inl ⟨_,rfl,h _ H (Ex.refl S.fl) rfl⟩
 ·obtain⟨v,rfl,e⟩:=Rps.one r;cases e;exact .inr ⟨_,rfl,h _ H (Ex.refl S.fl) rfl⟩
 ·exact h.elim
theorem Fo:RB X (.type "list") bList:=by
 refine⟨_,AC X.K,λf O σ ss H ds vs Q S r h=>?_⟩;unfold bList at h;split at h
 ·obtain⟨v,rfl,p,xs,rfl,_,h1,h2⟩:=Rps.one r;exact⟨p,xs,rfl,.inl (SqL.of h1),λl hl=>h _ _ (S.new hl _) (S.lst hl h2)⟩
 ·obtain⟨v,rfl,p,xs,rfl,h1,h2⟩:=Rps.one r;exact⟨p,xs,rfl,.inr h1,λl hl=>h _ _ (S.new hl _) (S.lst hl h2)⟩
 ·exact h.elim
theorem Dl:RB X (.type "tuple") bTuple:=by
 refine⟨_,Fa X.K,λf O σ ss H ds vs Q S r h=>?_⟩;unfold bTuple at h;split at h
 ·obtain⟨v,rfl,p,xs,rfl,_,h1,h2⟩:=Rps.one r;exact⟨p,xs,rfl,.inl ⟨SqL.of h1,λl hl=>h _ _ (S.new hl _) (S.tup hl h2)⟩⟩
 ·obtain⟨v,rfl,p,xs,rfl,h1,h2⟩:=Rps.one r;exact⟨p,xs,rfl,.inr ⟨h1,h _ H (Ex.refl S.fl) ⟨p,xs,rfl,h1,h2⟩⟩⟩
 ·exact h.elim
structure BB where
 run:BD
 mono:∀{ds Q Q'},(∀ d,Q d->Q' d)->run ds Q->run ds Q'
def lE(i:Nat):TEd:=⟨λss Q=>match ss[i]? with|some (.val d)=>bLen [d] Q|some (.own l)=>Q (.int l.length)|_=>False,λ{ss Q Q'} h q=>by
 revert q;split
 ·exact bLen.mono h
 ·exact h _
 ·exact id⟩
theorem lE.ok(hg:Gl X "len")(hm:X.mg "len" = none)(ha:PE X a (vn i))(hs:starEach [a] X.env=[(false,eval a X.env)]):PE X (.Call (.Name "len" p) [a] [] pos) (LE X.K (lE i)):=by
 obtain⟨r,h1,h2⟩:=Dm (X:=X);refine (sT (p:=p) (pos:=pos) (CallR.or2 h1 (Cr X.K)) hg hm vV (sy ha pa_nil hs) (by decide) (by decide) hs rfl).weak λσ H Q ⟨f,O,ss,S,q⟩=>?_;have q:(match ss[i]? with|some (.val d)=>bLen [d] (λd=>∀ v H',Ex f H H'->Rp X.K f O H' d v->Q v H')|some (.own l)=>(∀ v H',Ex f H H'->Rp X.K f O H' (.int l.length) v->Q v H')|_=>False):=q;split at q
 ·rename_i d e;obtain⟨v,w1,w2⟩:=S.val i d e;exact⟨v,w1,.inl (h2 f O σ ss H [d] [v] Q S ⟨v,[],rfl,w2,rfl⟩ q)⟩
 ·rename_i l e;obtain⟨p0,xs,w1,w2,w3,w4,w5⟩:=S.own i l e;refine⟨_,w1,.inr ⟨p0,xs,rfl,.inl (SqL.of w4),?_⟩⟩;rw[w5.len];exact q _ H (Ex.refl S.fl) rfl
 ·exact q.elim
structure SpB where
 n:Nat
 run:MU
 mono:∀{ds Q Q'},(∀ d,Q d->Q' d)->run ds Q->run ds Q'
def SpB.of(n:Nat){α:Type}(pre:α->List D->Prop)(post:α->D->Prop):SpB:=⟨n,λds Q=>∃ x,pre x ds/\∀ d,post x d->Q d,λh ⟨x,p,q⟩=>⟨x,p,λd r=>h _ (q d r)⟩⟩
def io(s:SpB)(t:TAd):TEd:=⟨λss Q=>t.run ss λds=>ds.length=s.n/\s.run ds Q,λh q=>t.mono (λds q=>⟨q.1,s.mono h q.2⟩) q⟩
theorem io.ok(h:PE X e (Ba (yM X.K s.n s.run) [] E0 (LA X.K t))):PE X e (LE X.K (io s t)):=h.weak λσ H Q ⟨f,O,ss,S,q⟩ =>
 ⟨f,O,ss,S,t.mono (λds q vs H1 e1 r1=>by
  have S1:=S.ex e1;refine⟨by rw[dA,r1.len];exact q.1,f,O,ds,S1.fl,S1.fO,S1.al,S1.lO,by rw[dA];exact r1,?_⟩;exact s.mono (λd q v H' e r=>q v H' (e1.trans e) r) q.2) q⟩
end Dp
namespace Dp
open PySem L2
variable{K:Frag}{f:Addr}{O O':List Addr}{H H':Hp}{X:Cx}{σ:St}{ss:SS}{a b c:Expr}{ta tb tc:TEd}{tA tB:TTd}{pos:Pos}
mutual
theorem Rp.moved(e:∀ a∈O',a∈O\/H a=none)(k:Kp O H H')(hO:∀ b∈O,∃ xs,H b=some (.lst xs)):∀{d:D} {v:V},Rp K f O H d v->Rp K f O' H' d v
 | .non,_,h=>h
 | .bl _,_,h=>h
 | .int _,_,h=>h
 | .str _,_,h=>h
 | .fl,_,h=>h
 | .tup l,v,h=>by
  obtain⟨a,xs,e1,h1,h2⟩:=h;exact⟨a,xs,e1,h1.kp k hO,Rps.moved e k hO h2⟩
 | .lst l,v,h=>by
  obtain⟨a,xs,e1,n,h1,h2⟩:=h;refine⟨a,xs,e1,λz=>?_,k a _ n h1,Rps.moved e k hO h2⟩;rcases e a z with q|q
  ·exact n q
  ·rw[h1] at q;cases q
 | .exn C x l,v,h=>by
  obtain⟨a,us,e1,h1,h2⟩:=h;exact⟨a,us,e1,h1.kp k hO,Rps.moved e k hO h2⟩
 | .dct ks l,v,h=>by
  obtain⟨a,us,e1,h1,h2,h3⟩:=h;exact⟨a,us,e1,k a _ (λz=>by obtain⟨xs,q⟩:=hO a z;rw[q] at h1;cases h1) h1,h2,Rps.moved e k hO h3⟩
theorem Rps.moved(e:∀ a∈O',a∈O\/H a=none)(k:Kp O H H')(hO:∀ b∈O,∃ xs,H b=some (.lst xs)):∀{ds:List D} {vs:List V},Rps K f O H ds vs->Rps K f O' H' ds vs
 | [],_,h=>h
 | d::ds,_,h=>by
  obtain⟨v,r,e1,h1,h2⟩:=h;exact⟨v,r,e1,Rp.moved e k hO h1,Rps.moved e k hO h2⟩
end
structure ItD (K:Frag)(f:Addr)(O:List Addr)(J:It)(H1:Hp)(ds:List D):Prop where
 go:∀ H' i,Kp O H1 H'->i<ds.length->J.go i H'
 yld:∀ O' H' i x H'',(∀ a∈O',a∈O\/H1 a=none)->f∈O'->(∀ a∈O',∃ xs,H' a=some (.lst xs))->Kp O H1 H'->Fl H' f->i<ds.length->J.yld i H' x H''->∃ d,ds[i]? = some d/\Ex f H' H''/\Rp K f O' H'' d x
 stop:∀ H',Kp O H1 H'->J.stop ds.length H'
def LI(K:Frag)(t:TAd):TI:=λσ H R=>∃ f O ss,SlD K f O σ H ss/\t.run ss λds=>∀ J H1,Ex f H H1->ItD K f O J H1 ds->R J H1
theorem _root_.L2.PI.weak(h:PI X tg e t)(w:∀ σ H Q,t' σ H Q->t σ H Q):PI X tg e t':=λpins s σ H Q I q=>h pins s σ H Q I (w σ H Q q)
def itemsD:D->(List D->Prop)->Prop
 | .lst l,Q=>Q l
 | .tup l,Q=>Q l
 | _,_=>False
theorem itemsD.mono(h:∀ d,Q d->Q' d):itemsD d Q->itemsD d Q':=by
 cases d <;> first|exact h _|exact id
def jc(t:TEd):TAd:=⟨λss Q=>t.run ss λd=>itemsD d Q,λh q=>t.mono (λd q=>itemsD.mono h q) q⟩
theorem jc.ok(h:PE X a (LE X.K ta)):PI X tg a (LI X.K (jc ta)):=(Nl X.K h).weak λσ H R ⟨f,O,ss,S,q⟩=>⟨f,O,ss,S,ta.mono (λd q v H1 e r=>by
 have S1:=S.ex e;cases d <;> first|exact False.elim q|skip
 ·rename_i l;obtain⟨p,xs,rfl,h1,h2⟩:=r;refine⟨p,rfl,.inr ⟨⟨xs,h1⟩,q _ H1 e ⟨λH' i k hi=>?_,λO' H' i x H'' hO hf al k F hi y=>?_,λH' k=>?_⟩⟩⟩
  ·obtain⟨v,hv,_⟩:=h2.get (show l[i]? = some l[i] by simp[hi]);exact⟨xs,v,h1.kp k S1.al,hv⟩
  ·obtain⟨rfl,y⟩:=y;obtain⟨v,hv,r⟩:=h2.get (show l[i]? = some l[i] by simp[hi]);have:=y xs (h1.kp k S1.al);rw[hv] at this;cases this;exact⟨l[i],by simp[hi],Ex.refl F,r.moved hO k S1.al⟩
  ·exact⟨xs,h1.kp k S1.al,by rw[h2.len];exact af _⟩
 ·rename_i l;obtain⟨p,xs,rfl,n,h1,h2⟩:=r;refine⟨p,rfl,.inl ⟨⟨xs,SqL.of h1⟩,q _ H1 e ⟨λH' i k hi=>?_,λO' H' i x H'' hO hf al k F hi y=>?_,λH' k=>?_⟩⟩⟩
  ·obtain⟨v,hv,_⟩:=h2.get (show l[i]? = some l[i] by simp[hi]);exact⟨xs,v,SqL.of (k p _ n h1),hv⟩
  ·obtain⟨rfl,y⟩:=y;obtain⟨v,hv,r⟩:=h2.get (show l[i]? = some l[i] by simp[hi]);have:=y xs (SqL.of (k p _ n h1));rw[hv] at this;cases this;exact⟨l[i],by simp[hi],Ex.refl F,r.moved hO k S1.al⟩
  ·exact⟨xs,SqL.of (k p _ n h1),by rw[h2.len];exact af _⟩) q⟩
def uB(lo:Int)(n:Nat):List D:=(List.range n).map λi=>.int (lo+(i:Nat))
theorem sE:(uB lo n).length=n:=by simp[uB]
theorem yN(h:i<n):(uB lo n)[i]? = some (.int (lo+(i:Nat))):=by simp[uB,h]
theorem sP(h:(uB lo n)[i]? = some d):i<n/\d = .int (lo+(i:Nat)):=by
 have:=(ak.mp h).1;rw[sE] at this;rw[yN this] at h;exact⟨this,(Option.some.inj h).symm⟩
theorem Bv:ItD K f O (JG lo n) H1 (uB lo n):=by
 refine⟨λH' i k hi=>?_,λO' H' i x H'' hO hf al k F hi y=>?_,λH' k=>?_⟩
 ·rw[sE] at hi;exact hi
 ·obtain⟨rfl,rfl⟩:=y;rw[sE] at hi;exact⟨_,yN hi,Ex.refl F,rfl⟩
 ·rw[sE];exact af _
def rngD:D->(List D->Prop)->Prop
 | .int j,Q => -(2^62)<=j/\j<2^62/\Q (uB 0 j.toNat)
 | _,_=>False
theorem rngD.mono(h:∀ d,Q d->Q' d):rngD d Q->rngD d Q':=by
 cases d <;> first|exact λq=>⟨q.1,q.2.1,h _ q.2.2⟩|exact id
def rngD2:D->D->(List D->Prop)->Prop
 | .int i,.int j,Q=>(-(2^62)<=i/\i<2^62 /\ -(2^62)<=j/\j<2^62)/\Q (uB i (j-i).toNat)
 | _,_,_=>False
theorem rngD2.mono(h:∀ d,Q d->Q' d):rngD2 d d' Q->rngD2 d d' Q':=by
 cases d <;> cases d' <;> first|exact λq=>⟨q.1,h _ q.2⟩|exact id
def jL(t:TEd):TAd:=⟨λss Q=>t.run ss λd=>rngD d Q,λh q=>t.mono (λd q=>rngD.mono h q) q⟩
def kR(t u:TEd):TAd:=⟨λss Q=>t.run ss λd=>u.run ss λd'=>rngD2 d d' Q,λh q=>t.mono (λd q=>u.mono (λd' q=>rngD2.mono h q) q) q⟩
theorem jL.ok(hg:Gl X "range")(hm:X.mg "range" = none)(ha:PE X a (LE X.K ta))(hs:starEach [a] X.env=[(false,eval a X.env)]):PI X tg (.Call (.Name "range" p) [a] [] pos) (LI X.K (jL ta)) :=
 (xC (p:=p) (pos:=pos) hg hm (sy ha pa_nil hs) hs).weak λσ H R ⟨f,O,ss,S,q⟩=>⟨f,O,ss,S,ta.mono (λd q v H1 e r=>by
  cases d <;> first|exact False.elim q|skip
  cases (show v=_ from r);exact⟨_,rfl,q.1,q.2.1,q.2.2 _ H1 e Bv⟩) q⟩
theorem kR.ok(hg:Gl X "range")(hm:X.mg "range" = none)(ha:PE X a (LE X.K ta))(hb:PE X b (LE X.K tb))(hs:starEach [a,b] X.env=[(false,eval a X.env),(false,eval b X.env)])(hs2:starEach [b] X.env=[(false,eval b X.env)]):PI X tg (.Call (.Name "range" p) [a,b] [] pos) (LI X.K (kR ta tb)) :=
 (Cc (p:=p) (pos:=pos) hg hm (sy ha (sy hb pa_nil hs2) (by rw[hs,hs2])) hs hs2).weak λσ H R ⟨f,O,ss,S,q⟩=>⟨f,O,ss,S,ta.mono (λd q v H1 e r=>⟨f,O,ss,S.ex e,tb.mono (λd' q v' H2 e2 r'=>by
  cases d <;> cases d' <;> first|exact False.elim q|skip
  cases (show v=_ from r);cases (show v'=_ from r');exact⟨_,_,rfl,q.1,q.2 _ H2 (e.trans e2) Bv⟩) q⟩) q⟩
def Sub(σ:St)(ss:SS)(σ':St)(ss':SS):Prop:=∀(i:Nat) (l:List D),ss'[i]? = some (SD.own l)->ss[i]? = some (SD.own l)/\σ'[i]? = σ[i]?
theorem Sub.refl:Sub σ ss σ ss:=λ_ _ h=>⟨h,rfl⟩
theorem Sub.trans(h:Sub σ ss σ1 s1)(k:Sub σ1 s1 σ2 s2):Sub σ ss σ2 s2:=λi l q=>by
 obtain⟨q1,e1⟩:=k i l q;obtain⟨q2,e2⟩:=h i l q1;exact⟨q2,e1.trans e2⟩
def Agr(T:List Nat)(σ σ':St):Prop:=σ'.length=σ.length/\∀ j,j ∉ T->σ'[j]? = σ[j]?
theorem Agr.refl:Agr T σ σ:=⟨rfl,λ_ _=>rfl⟩
theorem Agr.set(h:i∈T):Agr T σ (σ.set i v):=⟨aS,λj n=>aK (by rintro rfl;exact n h)⟩
theorem Agr.trans(a:Agr T σ σ1)(b:Agr T σ1 σ2):Agr T σ σ2:=⟨b.1.trans a.1,λj n=>(b.2 j n).trans (a.2 j n)⟩
def LG(K:Frag)(t:TGd):TG:=λv σ H Q=>∃ f O ss d,SlD K f O σ H ss/\Rp K f O H d v/\t.run d ss λss'=>∀ σ' H',Ex f H H'->SlD K f O σ' H' ss'->Sub σ ss σ' ss'->Agr t.tg σ σ'->Q σ' H'
theorem SlD.set(S:SlD K f O σ H ss)(r:Rp K f O H d v):SlD K f O (σ.set i (some v)) H (ss.set i (.val d)) where
 fl:=S.fl
 fO:=S.fO
 al:=S.al
 lO:=S.lO
 len:=by rw[aS,aS,S.len]
 val:=λj d' h=>by
  by_cases z:i=j
  ·subst z;rw[aQ] at h;rw[if_pos rfl] at h;split at h
   ·cases h;rename_i l;exact⟨v,by rw[aQ,if_pos rfl,if_pos (by rw[← S.len];exact l)],r⟩
   ·cases h
  ·rw[aK z] at h ⊢;exact S.val j d' h
 own:=λj l h=>by
  by_cases z:i=j
  ·subst z;rw[aQ] at h;rw[if_pos rfl] at h;split at h <;> cases h
  ·rw[aK z] at h ⊢;exact S.own j l h
theorem Sub.set:Sub σ ss (σ.set i v) (ss.set i (.val d)):=λj l h=>by
 by_cases z:i=j
 ·subst z;rw[aQ] at h;rw[if_pos rfl] at h;split at h <;> cases h
 ·rw[aK z] at h ⊢;exact⟨h,rfl⟩
def gNm(i:Nat):TGd:=⟨[i],λd ss Q=>Q (ss.set i (.val d)),λh q=>h _ q⟩
theorem _root_.L2.PG.weak(h:PG X e t)(w:∀ v σ H Q,t' v σ H Q->t v σ H Q):PG X e t':=λpins s σ H v u Q I r q=>h pins s σ H v u Q I r (w _ σ H Q q)
end Dp
namespace Dp
open PySem L2
variable{K:Frag}{f:Addr}{O O':List Addr}{H H':Hp}{X:Cx}{σ:St}{ss:SS}{a b c:Expr}{ta tb tc:TEd}{tA tB:TTd}{pos:Pos}
theorem gNm.ok{i:Nat}{e:Expr}(h:PG X e (xM i)):PG X e (LG X.K (gNm i)):=h.weak λv σ H Q ⟨f,O,ss,d,S,r,q⟩=>q _ H (Ex.refl S.fl) (S.set r) Sub.set (Agr.set aG)
def vI(ss:SS):List Nat->List D->SS
 | i::is,d::ds=>vI (ss.set i (.val d)) is ds
 | _,_=>ss
def gsAll:List Nat->E7
 | []=>KH
 | i::is=>Hb (xM i) (gsAll is)
def uW(σ:St):List Nat->List V->St
 | i::is,v::vs=>uW (σ.set i (some v)) is vs
 | _,_=>σ
theorem gsAll.run:∀{is:List Nat} {vs:List V} {σ:St},vs.length=is.length->Q (uW σ is vs) H->gsAll is vs σ H Q
 | [],[],σ,_,q=>⟨rfl,q⟩
 | [],_::_,_,l,_=>by cases l
 | _::_,[],_,l,_=>by cases l
 | i::is,v::vs,σ,l,q=>⟨v,vs,rfl,gsAll.run (by simpa using l) q⟩
theorem SlD.all:∀{is:List Nat} {vs:List V} {ds:List D} {σ:St} {ss:SS},SlD K f O σ H ss->Rps K f O H ds vs->SlD K f O (uW σ is vs) H (vI ss is ds)
 | [],_,_,_,_,S,_=>S
 | i::is,[],[],_,_,S,_=>S
 | i::is,vs,[],_,_,S,r=>by cases (show vs=[] from r);exact S
 | i::is,vs,d::ds,σ,ss,S,r=>by
  obtain⟨v,r',e,h1,h2⟩:=r;subst e;show SlD K f O (uW (σ.set i (some v)) is r') H (vI (ss.set i (.val d)) is ds);exact SlD.all (S.set h1) h2
theorem Sub.all:∀{is:List Nat} {vs:List V} {ds:List D} {σ:St} {ss:SS},vs.length=ds.length->Sub σ ss (uW σ is vs) (vI ss is ds)
 | [],_,_,_,_,_=>Sub.refl
 | i::is,[],[],_,_,_=>Sub.refl
 | i::is,_::_,[],_,_,l=>by cases l
 | i::is,[],_::_,_,_,l=>by cases l
 | i::is,v::vs,d::ds,σ,ss,l=>Sub.trans Sub.set (Sub.all (by simpa using l))
theorem Agr.all:∀{is T:List Nat} {vs:List V} {σ:St},(∀ i∈is,i∈T)->Agr T σ (uW σ is vs)
 | [],_,_,_,_=>Agr.refl
 | _::_,_,[],_,_=>Agr.refl
 | i::is,T,v::vs,σ,h=>Agr.trans (Agr.set (h i aG)) (Agr.all λj hj=>h j (aC _ hj))
def gTp(is:List Nat):TGd:=⟨is,λd ss Q=>match d with | .tup l=>l.length=is.length/\Q (vI ss is l)|_=>False,λ{d ss Q Q'} h q=>by
 revert q;cases d <;> first|exact id|exact λq=>⟨q.1,h _ q.2⟩⟩
theorem gTp.ok{is:List Nat}{e:Expr}(h:PG X e (KF X.K is.length (gsAll is))):PG X e (LG X.K (gTp is)):=h.weak λv σ H Q ⟨f,O,ss,d,S,r,q⟩=>by
 cases d <;> first|exact False.elim q|skip
 rename_i l;obtain⟨p,xs,rfl,h1,h2⟩:=r;exact⟨p,xs,rfl,h1,h2.len.trans q.1,gsAll.run (h2.len.trans q.1) (q.2 _ H (Ex.refl S.fl) (S.all h2) (Sub.all h2.len) (Agr.all λ_ h=>h))⟩
def t8(l:List D):List D:=(List.range l.length).map λi=>.tup [.int ((i:Nat):Int),l.getD i .non]
theorem sM:(t8 l).length=l.length:=by simp[t8]
theorem vT(h:i<l.length):(t8 l)[i]? = some (.tup [.int ((i:Nat):Int),l.getD i .non]):=by simp[t8,h]
theorem vS{i:Nat}{d:D}(h:(t8 l)[i]? = some d):∃ x,l[i]? = some x/\d = .tup [.int ((i:Nat):Int),x]:=by
 have hi:=(ak.mp h).1;rw[sM] at hi;rw[vT hi] at h;refine⟨l[i],by simp[hi],(Option.some.inj h).symm.trans ?_⟩;rw[ac,aq hi];rfl
def jg(t:TEd):TAd:=⟨λss Q=>t.run ss λd=>itemsD d λl=>Q (t8 l),λh q=>t.mono (λd q=>itemsD.mono (λl q=>h _ q) q) q⟩
def mU(t:TEd):TAd:=⟨λss Q=>t.run ss λd=>itemsD d λl=>Q l.reverse,λh q=>t.mono (λd q=>itemsD.mono (λl q=>h _ q) q) q⟩
def uy(hide:List Nat)(ss:SS):SS:=hide.foldl (λs i=>s.set i .no) ss
theorem SlD.blank(S:SlD K f O σ H ss):SlD K f O (σ.set i o) H (ss.set i .no) where
 fl:=S.fl
 fO:=S.fO
 al:=S.al
 lO:=S.lO
 len:=by rw[aS,aS,S.len]
 val:=λj d' h=>by
  by_cases z:i=j
  ·subst z;rw[aQ] at h;rw[if_pos rfl] at h;split at h <;> cases h
  ·rw[aK z] at h ⊢;exact S.val j d' h
 own:=λj l h=>by
  by_cases z:i=j
  ·subst z;rw[aQ] at h;rw[if_pos rfl] at h;split at h <;> cases h
  ·rw[aK z] at h ⊢;exact S.own j l h
theorem SlD.hide:∀{hide:List Nat} {σ:St} {ss:SS},SlD K f O σ H ss->SlD K f O (v0 hide σ) H (uy hide ss)
 | [],_,_,S=>S
 | i::r,σ,ss,S=>SlD.hide (hide:=r) (S.blank (i:=i) (o:=none))
theorem zd:∀{hide:List Nat} {ss:SS} {i:Nat},(i∈hide\/ss[i]? = some SD.no\/ss[i]? = none)->(uy hide ss)[i]? = some SD.no\/(uy hide ss)[i]? = none
 | [],ss,i,h=>by
  rcases h with h|h
  ·cases h
  ·exact h
 | j::r,ss,i,h=>by
  refine zd (hide:=r) (ss:=ss.set j .no) ?_;by_cases z:j=i
  ·subst z;right;rw[aQ,if_pos rfl];split
   ·exact .inl rfl
   ·exact .inr rfl
  ·rw[aK z];rcases h with h|h
   ·rcases au.mp h with q|q
    ·exact absurd q.symm z
    ·exact .inl q
   ·exact .inr h
theorem SlD.agr{T:List Nat}{σ':St}(S:SlD K f O σ H ss)(h:Agr T σ σ')(hT:∀ i∈T,ss[i]? = some SD.no\/ss[i]? = none):SlD K f O σ' H ss where
 fl:=S.fl
 fO:=S.fO
 al:=S.al
 lO:=S.lO
 len:=S.len.trans h.1.symm
 val:=λj d q=>by
  rw[h.2 j λz=>?_]
  ·exact S.val j d q
  ·rcases hT j z with w|w <;> rw[w] at q <;> cases q
 own:=λj d q=>by
  rw[h.2 j λz=>?_]
  ·exact S.own j d q
  ·rcases hT j z with w|w <;> rw[w] at q <;> cases q
def jh:TTd:=⟨λ_ Q=>Q true,λh q=>h _ q⟩
def compD(ds:List D)(s0:SS)(g:TGd)(c:TTd)(e:TEd)(Q:D->Prop):Prop:=ds.length<=sizeLine/\∃ I:Nat->List D->Prop,I 0 [] /\
 (∀ i d ys,ds[i]? = some d->ys.length<=i->I i ys->g.run d s0 λs1=>c.run s1 λk=>if k=true then e.run s1 λy=>I (i+1) (ys++[y]) else I (i+1) ys)/\∀ ys,ys.length<=ds.length->I ds.length ys->Q (.lst ys)
theorem compD.mono{ds:List D}{s0:SS}{g:TGd}{c:TTd}{e:TEd}{Q Q':D->Prop}(h:∀ d,Q d->Q' d):compD ds s0 g c e Q->compD ds s0 g c e Q':=fun⟨l,I,q0,q1,q2⟩=>⟨l,I,q0,q1,λys l i=>h _ (q2 ys l i)⟩
def iW(it:TAd)(hide:List Nat)(g:TGd)(c:TTd)(e:TEd):TEd:=⟨λss Q=>it.run ss λds=>compD ds (uy hide ss) g c e Q,λh q=>it.mono (λds q=>compD.mono h q) q⟩
theorem compD.ok{J:It}{ds:List D}{hide:List Nat}{g:TGd}{c:TTd}{e:TEd}{Q:VK}{H1:Hp}(S:SlD K f O σ H1 ss)(hg:∀ i∈g.tg,i∈hide)(D0:ItD K f O J H1 ds)(h:compD ds (uy hide ss) g c e λd=>∀ v H',Ex f H1 H'->Rp K f O H' d v->Q v H') :
  E2 J (LG K g) (LT K c) (LE K e) (v0 hide σ) Q H1:=by
 obtain⟨hl,I,q0,q1,q2⟩:=h;refine⟨λk m τ ys H=>∃ yd,SlD K f O τ H (uy hide ss)/\Rps K f O H yd ys/\yd.length<=k/\I k yd/\m=ds.length-k/\k<=ds.length/\Ex f H1 H,⟨_,[],S.hide,rfl,af _,q0,rfl,aB _,Ex.refl S.fl⟩,?_⟩;rintro k m τ ys H ⟨yd,S1,r1,l1,i1,rfl,k1,e1⟩;have kp:=e1.kp S.fO;rcases aw k ds.length with hk|hk
 ·refine .inr ⟨D0.go H k kp hk,by rw[r1.len];lia,λx H' y=>?_⟩;obtain⟨d,ed,e2,rd⟩:=D0.yld O H k x H' (λa z=>.inl z) S.fO S1.al kp S1.fl hk y;have S2:=S1.ex e2;refine⟨f,O,_,d,S2,rd,g.mono (λs1 q τ2 H2 e3 S3 _ ag=>?_) (q1 k d yd ed l1 i1)⟩;have S3':SlD K f O τ2 H2 (uy hide ss):=(S2.ex e3).agr ag λi hi=>zd (.inl (hg i hi));refine⟨f,O,s1,S3,c.mono (λb q H3 e4=>?_) q⟩;cases b with
  | true =>
   refine⟨f,O,s1,S3.ex e4,e.mono (λdy q v H4 e5 rv=>?_) q⟩;have e14:=e2.trans (e3.trans (e4.trans e5));exact⟨ds.length-(k+1),(),yd++[dy],(S3'.ex e4).ex e5,(S1.ups e14 r1).append ⟨v,[],rfl,rv,rfl⟩,by rw[aj];simp;lia,q,rfl,hk,e1.trans e14⟩
  | false =>
   have e14:=e2.trans (e3.trans e4);exact⟨ds.length-(k+1),(),yd,S3'.ex e4,S1.ups e14 r1,(),q,rfl,hk,e1.trans e14⟩
 ·have ek:k=ds.length:=by lia
  subst ek;exact .inl ⟨D0.stop H kp,λp hp=>q2 yd l1 i1 _ _ (e1.trans (S1.new hp _)) (S1.lst hp r1)⟩
theorem iW.ok{scope:Scope}{hide:List Nat}{it:TAd}{g:TGd}{c:TTd}{e:TEd}{tg iter elt:Expr}{ifs:List Expr}(hc:X.calm=true)(Sc:CompS X.N X.env.scope scope hide)(hi:PI X tg iter (LI X.K it))
  (hg:∀ s2 H2 fp pins C,PG (u6 X scope s2 H2 fp pins C) tg (LG X.K g)) (ht:∀ s2 H2 fp pins C,PTs (u6 X scope s2 H2 fp pins C) ifs (LT X.K c)) (he:∀ s2 H2 fp pins C,PE (u6 X scope s2 H2 fp pins C) elt (LE X.K e))
  (hs:∀ x,foldedSetIterable iter X.env x=pure x) (hh:∀ i∈g.tg,i∈hide):PE X (.ListComp elt [⟨tg,iter,ifs,0⟩] scope pos) (LE X.K (iW it hide g c e)) :=
 (Bi (pos:=pos) hc Sc hi hg ht he hs).weak λσ H Q ⟨f,O,ss,S,q⟩=>⟨f,O,ss,S,it.mono (λds q J H1 e1 D0=>compD.ok (S.ex e1) hh D0 (compD.mono (λd q v H' e r=>q v H' (e1.trans e) r) q)) q⟩
end Dp
namespace Dp
open PySem L2
variable{K:Frag}{f:Addr}{O O':List Addr}{H H':Hp}{X:Cx}{σ:St}{ss:SS}{a b:Expr}{ta tb tc:TEd}{tA tB:TTd}{pos:Pos}
theorem jg.ok{es:List Expr}{kk:Nat}{ps p:Pos}(hg:Gl X "enumerate")(hm:X.mg "enumerate" = none)(ha:PE X a (LE X.K ta))(hs:starEach [a] X.env=[(false,eval a X.env)]):PI X (.Tuple es kk ps) (.Call (.Name "enumerate" p) [a] [] pos) (LI X.K (jg ta)) :=
 (Fz (p:=p) (pos:=pos) X.K hg hm (sy ha pa_nil hs) rfl hs).weak λσ H R ⟨f,O,ss,S,q⟩=>⟨f,O,ss,S,ta.mono (λd q v H1 e r=>by
  have S1:=S.ex e;cases d <;> first|exact False.elim q|skip
  ·rename_i l;obtain⟨p,xs,rfl,h1,h2⟩:=r;refine⟨p,rfl,.inr ⟨⟨xs,h1⟩,q _ H1 e ⟨λH' i k hi=>?_,λO' H' i x H'' hO hf al k F hi y=>?_,λH' k=>?_⟩⟩⟩
   ·rw[sM] at hi;obtain⟨v,hv,_⟩:=h2.get (show l[i]? = some l[i] by simp[hi]);exact⟨xs,v,h1.kp k S1.al,hv⟩
   ·rw[sM] at hi;obtain⟨p',w,rfl,hp,rfl,y⟩:=y;obtain⟨v,hv,r⟩:=h2.get (show l[i]? = some l[i] by simp[hi]);have:=y xs (h1.kp k S1.al);rw[hv] at this;cases this;refine⟨_,vT hi,Ex.new F hp _,p',_,rfl,SqT.of sD,.int i,_,rfl,rfl,_,[],rfl,?_,rfl⟩;rw[ac,aq hi];exact (r.moved hO k S1.al).kp ((Ex.new F hp _).kp hf) al
   ·rw[sM];exact⟨xs,h1.kp k S1.al,by rw[h2.len];exact af _⟩
  ·rename_i l;obtain⟨p,xs,rfl,n,h1,h2⟩:=r;refine⟨p,rfl,.inl ⟨⟨xs,SqL.of h1⟩,q _ H1 e ⟨λH' i k hi=>?_,λO' H' i x H'' hO hf al k F hi y=>?_,λH' k=>?_⟩⟩⟩
   ·rw[sM] at hi;obtain⟨v,hv,_⟩:=h2.get (show l[i]? = some l[i] by simp[hi]);exact⟨xs,v,SqL.of (k p _ n h1),hv⟩
   ·rw[sM] at hi;obtain⟨p',w,rfl,hp,rfl,y⟩:=y;obtain⟨v,hv,r⟩:=h2.get (show l[i]? = some l[i] by simp[hi]);have:=y xs (SqL.of (k p _ n h1));rw[hv] at this;cases this;refine⟨_,vT hi,Ex.new F hp _,p',_,rfl,SqT.of sD,.int i,_,rfl,rfl,_,[],rfl,?_,rfl⟩;rw[ac,aq hi];exact (r.moved hO k S1.al).kp ((Ex.new F hp _).kp hf) al
   ·rw[sM];exact⟨xs,SqL.of (k p _ n h1),by rw[h2.len];exact af _⟩) q⟩
def Ky(K:Frag)(ta:TA):TI:=λσ H R=>ta σ H λvs H1=>∃ a xs,vs=[.ref a] /\
 ((SqT K H1 a xs/\R ⟨λi H=>i<xs.length/\∃ ys x,SqT K H a ys/\ys.length=xs.length/\ys.reverse[i]? = some x,λi H x H'=>H'=H/\∀ xs,SqT K H a xs->xs.reverse[i]? = some x,λi H=>i=xs.length⟩ H1) \/
   (SqL K H1 a xs/\R ⟨λi H=>i<xs.length/\∃ ys x,SqL K H a ys/\ys.length=xs.length/\ys.reverse[i]? = some x,λi H x H'=>H'=H/\∀ xs,SqL K H a xs->xs.reverse[i]? = some x,λi H=>i=xs.length⟩ H1))
theorem Fy{tg:Expr}{a:Expr}{ta:TA}{p pos:Pos}(hg:Gl X "reversed")(hm:X.mg "reversed" = none)(ha:PA X [a] ta)(hs:starEach [a] X.env=[(false,eval a X.env)]):PI X tg (.Call (.Name "reversed" p) [a] [] pos) (Ky X.K ta):=by
 intro pins s σ H R I h;refine PyProof.Rows.Call_ (tV I hg hm PyProof.Rows.boot_reversed (PyProof.Rows.callWith_type1 (sS (ha pos pins s σ H _ I h) λus s1 ⟨vs,H1,I1,r1,q1⟩=>?_) hs rfl));obtain⟨l,xs,e,q1⟩:=q1;subst e;obtain⟨u,rfl,ru⟩:=Vals.one r1;cases ru;rcases q1 with⟨hq,q1⟩|⟨hq,q1⟩
 ·obtain⟨its,rv,pl,hz⟩:=I1.tuple hq;have hlen:=rv.length;have hn63:=uc;refine RV.EL (show s1.heap.IsTuple l its.toArray from pl) (by rw[ao];lia) λtk=>?_;have st:RV.Is (s1.heap.push { cls:=.type "reversed",data:=.fields #[.ref l,rawInt ((its.toArray.size:Int)-1)] }) s1.heap.objs.size l ((xs.length:Int)-1-((0:Nat):Int)):=⟨_,ηG _ rfl,rfl,by
   rw[ao,← hlen,show (xs.length:Int)-1-((0:Nat):Int)=(xs.length:Int)-1 by lia]⟩
  refine RV.xH st ?_;refine⟨_,[s1.heap.objs.size],_,_,H1,rfl,I1.kept (t':=tk) λb o e=>ηH _ e,C2 xs.length l _,st,λb hb=>?_,q1⟩;rw[a8.mp hb];exact I1.fpOk (af _) (I1.hok.fresh (af _))
 ·obtain⟨its,rv,pl,hz⟩:=I1.list hq;have hlen:=rv.length;refine call_reversed_list pl.isList ?_;have st:(s1.heap.push (revObj l ((its.toArray.size:Int)-1))).IsRevIter s1.heap.objs.size l ((xs.length:Int)-1-((0:Nat):Int)):=⟨_,ηG _ rfl,rfl,by
   show Data.fields #[.ref l,rawInt ((its.toArray.size:Int)-1)]=_;rw[ao,← hlen,show (xs.length:Int)-1-((0:Nat):Int)=(xs.length:Int)-1 by lia]⟩
  refine wpAny_pyIter_revIter st ?_;refine⟨_,[s1.heap.objs.size],_,_,H1,rfl,I1.kept (t':=s1.toks) λb o e=>ηH _ e,BV xs.length l _,st,λb hb=>?_,q1⟩;rw[a8.mp hb];exact I1.fpOk (af _) (I1.hok.fresh (af _))
theorem mU.ok{tg:Expr}{p:Pos}(hg:Gl X "reversed")(hm:X.mg "reversed" = none)(ha:PE X a (LE X.K ta))(hs:starEach [a] X.env=[(false,eval a X.env)]):PI X tg (.Call (.Name "reversed" p) [a] [] pos) (LI X.K (mU ta)) :=
 (Fy (p:=p) (pos:=pos) hg hm (sy ha pa_nil hs) hs).weak λσ H R ⟨f,O,ss,S,q⟩=>⟨f,O,ss,S,ta.mono (λd q v H1 e r=>by
  have S1:=S.ex e;cases d <;> first|exact False.elim q|skip
  ·rename_i l;obtain⟨p,xs,rfl,h1,h2⟩:=r;refine⟨p,xs,rfl,.inl ⟨h1,q _ H1 e ⟨λH' i k hi=>?_,λO' H' i x H'' hO hf al k F hi y=>?_,λH' k=>?_⟩⟩⟩
   ·obtain⟨v,hv,_⟩:=h2.reverse.get (show l.reverse[i]? = some l.reverse[i] from aq hi);rw[a5] at hi;exact⟨by rw[h2.len];exact hi,xs,v,h1.kp k S1.al,rfl,hv⟩
   ·obtain⟨rfl,y⟩:=y;obtain⟨v,hv,r⟩:=h2.reverse.get (show l.reverse[i]? = some l.reverse[i] from aq hi);have:=y xs (h1.kp k S1.al);rw[hv] at this;cases this;exact⟨l.reverse[i],aq hi,Ex.refl F,r.moved hO k S1.al⟩
   ·rw[a5,h2.len]
  ·rename_i l;obtain⟨p,xs,rfl,n,h1,h2⟩:=r;refine⟨p,xs,rfl,.inr ⟨SqL.of h1,q _ H1 e ⟨λH' i k hi=>?_,λO' H' i x H'' hO hf al k F hi y=>?_,λH' k=>?_⟩⟩⟩
   ·obtain⟨v,hv,_⟩:=h2.reverse.get (show l.reverse[i]? = some l.reverse[i] from aq hi);rw[a5] at hi;exact⟨by rw[h2.len];exact hi,xs,v,SqL.of (k p _ n h1),rfl,hv⟩
   ·obtain⟨rfl,y⟩:=y;obtain⟨v,hv,r⟩:=h2.reverse.get (show l.reverse[i]? = some l.reverse[i] from aq hi);have:=y xs (SqL.of (k p _ n h1));rw[hv] at this;cases this;exact⟨l.reverse[i],aq hi,Ex.refl F,r.moved hO k S1.al⟩
   ·rw[a5,h2.len]) q⟩
structure Cs where
 f:Addr
 O:List Addr
 H:Hp
 S:List Addr
structure Kpc (c:Cs)(H:Hp):Prop where
 kp:∀ b o,c.H b=some o->b≠c.f->(b∈c.O\/b ∉ c.S)->H b=some o
 key:∀ l r,c.H c.f=some (.lst (.ref l::r))->∃ r',H c.f=some (.lst (.ref l::r'))
structure StR (K:Frag)(c:Cs)(O:List Addr)(σ:St)(H:Hp)(ss:SS):Prop where
 sl:SlD K c.f O σ H ss
 sub:∀ a∈c.O,a∈O
 kp:Kpc c H
 new:∀ a∈O,a∈c.S\/c.H a=none
 own:∀(i:Nat) (l:List D) (a:Addr),ss[i]? = some (SD.own l)->σ[i]? = some (some (V.ref a))->(c.H a=none\/a∈c.S)/\a ∉ c.O/\∀(j:Nat) (l':List D),ss[j]? = some (SD.own l')->σ[j]? = some (some (V.ref a))->j=i
variable{c:Cs}
theorem Kpc.ex(k:Kpc c H)(e:Ex c.f H H'):Kpc c H':=⟨λb o h n z=>e.sm.app b o n (k.kp b o h n z),λl r h=>by
 obtain⟨r',h1⟩:=k.key l r h;exact e.sm.key l r' h1⟩
theorem StR.ex(R:StR K c O σ H ss)(e:Ex c.f H H'):StR K c O σ H' ss:=⟨R.sl.ex e,R.sub,R.kp.ex e,R.new,R.own⟩
theorem StR.to(R:StR K c O σ H ss)(S:SlD K c.f O σ' H ss')(h:Sub σ ss σ' ss'):StR K c O σ' H ss':=⟨S,R.sub,R.kp,R.new,λi l a q e=>by
 obtain⟨q1,e1⟩:=h i l q;obtain⟨w1,w2,w3⟩:=R.own i l a q1 (e1.symm.trans e);refine⟨w1,w2,λj l' q' e'=>?_⟩;obtain⟨q2,e2⟩:=h j l' q';exact w3 j l' q2 (e2.symm.trans e')⟩
def frz1(i:Nat)(ss:SS):SS:=match ss[i]? with|some (.own l)=>ss.set i (.val (.lst l))|_=>ss
def frz(fz:List Nat)(ss:SS):SS:=fz.foldl (λs i=>frz1 i s) ss
theorem StR.frz1(R:StR K c O σ H ss):∃ O',StR K c O' σ H (frz1 i ss):=by
 unfold Dp.frz1;split
 ·rename_i l e;obtain⟨a,xs,h1,h2,h3,h4,h5⟩:=R.sl.own i l e;obtain⟨w1,w2,w3⟩:=R.own i l a e h1;have hs:∀ b∈O.filter (λb=>decide (b≠a)),b∈O:=λb hb=>(ce.mp hb).1;have hl:i<ss.length:=(ak.mp e).1;have hlv:(σ.set i (some (V.ref a)))=σ:=by
   apply g6;intro j;by_cases z:i=j
   ·subst z;rw[aQ,if_pos rfl,if_pos (by rw[← R.sl.len];exact hl),h1]
   ·rw[aK z]
  refine⟨O.filter (λb=>decide (b≠a)),⟨R.sl.fl,?_,λb hb=>R.sl.al b (hs b hb),λl r q z=>R.sl.lO l r q (hs _ z),by rw[aS];exact R.sl.len,λj d q=>?_,λj l' q=>?_⟩,λb hb=>?_,R.kp,λb hb=>R.new b (hs b hb),λj l' b q e'=>?_⟩
  ·exact ce.mpr ⟨R.sl.fO,by simpa using Ne.symm h3⟩
  ·by_cases z:i=j
   ·subst z;rw[aQ,if_pos rfl,if_pos hl] at q;cases q;exact⟨_,h1,a,xs,rfl,λz=>by simpa using (ce.mp z).2,h4,h5.less hs⟩
   ·rw[aK z] at q;obtain⟨v,q1,q2⟩:=R.sl.val j d q;exact⟨v,q1,q2.less hs⟩
  ·by_cases z:i=j
   ·subst z;rw[aQ,if_pos rfl,if_pos hl] at q;cases q
   ·rw[aK z] at q;obtain⟨b,ys,q1,q2,q3,q4,q5⟩:=R.sl.own j l' q;refine⟨b,ys,q1,ce.mpr ⟨q2,?_⟩,q3,q4,q5.less hs⟩;have:b≠a:=by
     rintro rfl;exact z (w3 j l' q q1).symm
    simpa using this
  ·have:b≠a:=by
    rintro rfl;exact w2 hb
   exact ce.mpr ⟨R.sub b hb,by simpa using this⟩
  ·by_cases z:i=j
   ·subst z;rw[aQ,if_pos rfl,if_pos hl] at q;cases q
   ·rw[aK z] at q;obtain⟨p1,p2,p3⟩:=R.own j l' b q e';refine⟨p1,p2,λk l2 q2 e2=>?_⟩;by_cases z2:i=k
    ·subst z2;rw[aQ,if_pos rfl,if_pos hl] at q2;cases q2
    ·rw[aK z2] at q2;exact p3 k l2 q2 e2
 ·exact⟨O,R⟩
theorem StR.frz:∀{fz:List Nat} {ss:SS} {O:List Addr},StR K c O σ H ss->∃ O',StR K c O' σ H (Dp.frz fz ss)
 | [],_,O,R=>⟨O,R⟩
 | i::fz,ss,O,R=>by
  obtain⟨O1,R1⟩:=R.frz1 (i:=i);exact StR.frz (fz:=fz) R1
structure Rt (K:Frag)(c:Cs)(H:Hp)(d:D)(v:V):Prop where
 fl:Fl H c.f
 kp:Kpc c H
 rp:Rp K c.f c.O H d v
theorem StR.rt(R:StR K c O σ H ss)(r:Rp K c.f O H d v):Rt K c H d v:=⟨R.sl.fl,R.kp,r.less R.sub⟩
def Cs.here(c:Cs)(H:Hp)(O:List Addr):Cs:=⟨c.f,c.O,H,O⟩
theorem StR.here(R:StR K c O σ H ss):StR K (c.here H O) O σ H ss:=⟨R.sl,R.sub,⟨λb o h _ _=>h,λl r h=>⟨r,h⟩⟩,λa h=>.inl h,λi l a q e=>by
 obtain⟨a',xs,h1,h2,_⟩:=R.sl.own i l q;rw[h1] at e;cases e;exact⟨.inr h2,(R.own i l a q h1).2⟩⟩
theorem Kpc.back(R:StR K c O1 σ H1 ss)(k:Kpc (c.here H1 O1) H):Kpc c H where
 kp:=λb o h n z=>by
  refine k.kp b o (R.kp.kp b o h n z) n ?_;rcases z with z|z
  ·exact .inl z
  ·refine .inr λy=>?_;rcases R.new b y with w|w
   ·exact z w
   ·rw[w] at h;cases h
 key:=λl r h=>by
  obtain⟨r',h1⟩:=R.kp.key l r h;exact k.key l r' h1
theorem StR.back(R:StR K c O1 σ1 H1 s1)(k:StR K (c.here H1 O1) O σ H ss):StR K c O σ H ss:=by
 have low:∀ a,a ∉ c.O->(a∈O1\/H1 a=none)->a∈c.S\/c.H a=none:=λa n z=>by
  rcases z with z|z
  ·exact R.new a z
  ·cases h:c.H a with
   | none=>exact .inr rfl
   | some o =>
    left;by_cases y:a∈c.S
    ·exact y
    ·exfalso;by_cases w:a=c.f
     ·subst w;obtain⟨xs,q⟩:=R.sl.fl.lst;rw[q] at z;cases z
     ·rw[R.kp.kp a o h w (.inr y)] at z;cases z
 refine⟨k.sl,k.sub,Kpc.back R k.kp,λa h=>?_,λi l a q e=>?_⟩
 ·by_cases z:a∈c.O
  ·rcases R.new a (R.sub a z) with w|w
   ·exact .inl w
   ·exact .inr w
  ·exact low a z (k.new a h)
 ·obtain⟨w1,w2,w3⟩:=k.own i l a q e;exact⟨(low a w2 w1.symm).symm,w2,w3⟩
theorem Rt.back(R:StR K c O1 σ1 H1 s1)(k:Rt K (c.here H1 O1) H d v):Rt K c H d v:=⟨k.fl,Kpc.back R k.kp,k.rp⟩
structure EndsD where
 nx:SS->Prop
 rt:D->Prop
 bk:SS->Prop
 ct:SS->Prop
structure EndsD.Le (E E':EndsD):Prop where
 nx:∀ s,E.nx s->E'.nx s
 rt:∀ d,E.rt d->E'.rt d
 bk:∀ s,E.bk s->E'.bk s
 ct:∀ s,E.ct s->E'.ct s
structure TSd where
 run:EndsD->SS->Prop
 mono:∀{E E' ss},E.Le E'->run E ss->run E' ss
def vx(K:Frag)(c:Cs)(D:Ends):EndsD:=⟨λss=>∀ O σ H,StR K c O σ H ss->D.nx σ H,λd=>∀ v H,Rt K c H d v->D.rt v H,λss=>∀ O σ H,StR K c O σ H ss->D.bk σ H,λss=>∀ O σ H,StR K c O σ H ss->D.ct σ H⟩
def LS(K:Frag)(t:TSd):TS:=λD σ H=>∃ c O ss,StR K c O σ H ss/\t.run (vx K c D) ss
theorem _root_.L2.PS.weak{st:Stmt}{t t':TS}(h:PS X st t)(w:∀ D σ H,t' D σ H->t D σ H):PS X st t':=λpins s σ H D I q=>h pins s σ H D I (w D σ H q)
theorem _root_.L2.PSs.weak{st:List Stmt}{t t':TS}(h:PSs X st t)(w:∀ D σ H,t' D σ H->t D σ H):PSs X st t':=λpins s σ H D I q=>h pins s σ H D I (w D σ H q)
theorem StR.le(R:StR K c O σ H ss)(h:t.run ss W)(hw:∀ d v H1,StR K c O σ H1 ss->Ex c.f H H1->Rp K c.f O H1 d v->W d->Q v H1):LE K t σ H Q :=
 ⟨c.f,O,ss,R.sl,t.mono (λd q v H1 e r=>hw d v H1 (R.ex e) e r q) h⟩
theorem StR.lt(R:StR K c O σ H ss)(h:t.run ss W)(hw:∀ d H1,StR K c O σ H1 ss->W d->Q d H1):LT K t σ H Q :=
 ⟨c.f,O,ss,R.sl,t.mono (λd q H1 e=>hw d H1 (R.ex e) q) h⟩
def iT:TSd:=⟨λE ss=>E.nx ss,λh q=>h.nx _ q⟩
theorem iT.nil:PSs X [] (LS X.K iT):=pss_nil.weak λD σ H ⟨c,O,ss,R,q⟩=>q O σ H R
theorem iT.pass:PS X (.Pass pos) (LS X.K iT):=ps_pass.weak λD σ H ⟨c,O,ss,R,q⟩=>q O σ H R
def re:TSd:=⟨λE ss=>E.bk ss,λh q=>h.bk _ q⟩
theorem re.ok:PS X (.Break pos) (LS X.K re):=ps_break.weak λD σ H ⟨c,O,ss,R,q⟩=>q O σ H R
@[reducible] def EndsD.to(E:EndsD)(P:SS->Prop):EndsD:=⟨P,E.rt,E.bk,E.ct⟩
def dSq(t u:TSd):TSd:=⟨λE ss=>t.run (E.to (u.run E)) ss,λ{E E' ss} h q=>t.mono (E:=E.to (u.run E)) (E':=E'.to (u.run E')) ⟨λs q=>u.mono h q,h.rt,h.bk,h.ct⟩ q⟩
theorem dSq.ok{st:Stmt}{sts:List Stmt}{t u:TSd}(h:PS X st (LS X.K t))(g:PSs X sts (LS X.K u)):PSs X (st::sts) (LS X.K (dSq t u)):=(tO h g).weak λD σ H ⟨c,O,ss,R,q⟩ =>
 ⟨c,O,ss,R,t.mono (E:=(vx X.K c D).to (u.run (vx X.K c D))) ⟨λs q O' σ' H' R'=>⟨c,O',s,R',q⟩,λ_ q=>q,λ_ q=>q,λ_ q=>q⟩ q⟩
theorem dSq.one{st:Stmt}{t:TSd}(h:PS X st (LS X.K t)):PSs X [st] (LS X.K t):=tF h
def iE(fz:List Nat)(e:TEd):TSd:=⟨λE ss=>e.run (frz fz ss) E.rt,λh q=>e.mono h.rt q⟩
theorem iE.ok{fz:List Nat}(h:PE X a (LE X.K ta)):PS X (.Return (some a) pos) (LS X.K (iE fz ta)):=(uG h).weak λD σ H ⟨c,O,ss,R,q⟩=>by
 obtain⟨O',R⟩:=R.frz (fz:=fz);exact R.le q λd v H1 R1 _ r w=>w v H1 (R1.rt r)
def qJ:TSd:=⟨λE ss=>E.rt .non,λh q=>h.rt _ q⟩
theorem qJ.ok:PS X (.Return none pos) (LS X.K qJ):=ps_retN.weak λD σ H ⟨c,O,ss,R,q⟩=>q .non H (R.rt rfl)
def dIf(fz:List Nat)(k:TTd)(t u:TSd):TSd:=⟨λE ss=>k.run (frz fz ss) λb=>if b=true then t.run E (frz fz ss) else u.run E (frz fz ss),λ{E E' ss} h q=>k.mono (λb q=>by
 revert q;cases b
 ·exact u.mono h
 ·exact t.mono h) q⟩
theorem dIf.ok{fz:List Nat}{st su:List Stmt}{t u:TSd}(hk:PT X a (LT X.K tA))(ht:PSs X st (LS X.K t))(hu:PSs X su (LS X.K u)):PS X (.If a st su pos) (LS X.K (dIf fz tA t u)):=(wH hk ht hu).weak λD σ H ⟨c,O,ss,R,q⟩=>by
 obtain⟨O',R⟩:=R.frz (fz:=fz);refine R.lt q λb H1 R1 w=>?_;cases b
 ·exact⟨c,O',_,R1,w⟩
 ·exact⟨c,O',_,R1,w⟩
def ir(fz:List Nat)(g:TGd)(e:TEd):TSd:=⟨λE ss=>e.run (frz fz ss) λd=>g.run d (frz fz ss) E.nx,λh q=>e.mono (λd q=>g.mono h.nx q) q⟩
theorem StR.lg(R:StR K c O σ H ss)(r:Rp K c.f O H d v)(h:g.run d ss W)(hw:∀ ss' σ' H1,StR K c O σ' H1 ss'->W ss'->Q σ' H1):LG K g v σ H Q :=
 ⟨c.f,O,ss,d,R.sl,r,g.mono (λs q σ' H1 e S sb ag=>hw s σ' H1 ((R.ex e).to S sb) q) h⟩
theorem ir.ok{fz:List Nat}{tg:Expr}{g:TGd}(h:PE X a (LE X.K ta))(hg:PG X tg (LG X.K g))(hs:swapsWithSole [tg] a pos.line X.env=pure false)(hw:swappedStores [tg] a X.env=pure none)(h1:(assignEach [tg] X.env).map (·.2)=[assign tg X.env]):PS X (.Assign [tg] a pos) (LS X.K (ir fz g ta)):=(uH h hg hs hw h1).weak λD σ H ⟨c,O,ss,R,q⟩=>by
 obtain⟨O',R⟩:=R.frz (fz:=fz);exact R.le q λd v H1 R1 _ r w=>R1.lg r w λs' σ' H2 R2 w=>w O' σ' H2 R2
end Dp
namespace Dp
open PySem L2
variable{K:Frag}{f:Addr}{O O':List Addr}{H H':Hp}{X:Cx}{σ:St}{ss:SS}{a b:Expr}{ta tb tc:TEd}{tA tB:TTd}{pos:Pos}{c:Cs}
theorem r8.ok(hN:X.N.Nodup)(hi:X.N[i]? = some x)(hx:CS X.env.scope x)(h:PE X a (LE X.K ta))(hs:swapsWith a (some (.Name x p')) pos.line X.env=pure false)(hf:X.fn x=true\/X.env.scope.names.lookup x=some .local) :
  PS X (.Assign [.Name x p'] a pos) (LS X.K (ir fz (gNm i) ta)):=(vL hN hi hx h hs hf).weak λD σ H ⟨c,O,ss,R,q⟩=>by
 obtain⟨O',R⟩:=R.frz (fz:=fz);exact R.le q λd v H1 R1 _ r w=>w O' _ H1 (R1.to (R1.sl.set r) Sub.set)
def kT(fz:List Nat)(i j:Nat)(a b:TEd):TSd:=⟨λE ss=>a.run (frz fz ss) λd=>b.run (frz fz ss) λd'=>E.nx (((frz fz ss).set i (.val d)).set j (.val d')),λh q=>a.mono (λd q=>b.mono (λd' q=>h.nx _ q) q) q⟩
theorem kT.weak{fz:List Nat}{i j:Nat}{D:Ends}{ta tb:TEd}(h:LS X.K (kT fz i j ta tb) D σ H):HB i j (xx (LE X.K ta) (xx (LE X.K tb) Fe)) D σ H:=by
 obtain⟨c,O,ss,R,q⟩:=h;obtain⟨O',R⟩:=R.frz (fz:=fz);refine R.le q λd v H1 R1 e1 r w=>R1.le w λd' v' H2 R2 e2 r' w=>?_;have S:=(R2.sl.set (i:=i) (R1.sl.up e2 r)).set (i:=j) r';exact⟨v,v',rfl,w O' _ H2 (R2.to S (Sub.trans Sub.set Sub.set))⟩
def jb(k:TTd)(t:TSd):TSd:=⟨λE ss=>∃(I:SS->Prop) (μ:SS->Nat),I ss/\∀ s,I s->k.run s λb=>if b=true then t.run ⟨λs'=>I s'/\μ s'<μ s,E.rt,E.nx,λs'=>I s'/\μ s'<μ s⟩ s else E.nx s,λ{E E' ss} h ⟨I,μ,q0,q⟩=>⟨I,μ,q0,λs i=>k.mono (λb q=>by
 revert q;cases b
 ·exact h.nx _
 ·exact t.mono ⟨λ_ q=>q,h.rt,h.nx,λ_ q=>q⟩) (q s i)⟩⟩
theorem jb.ok(hp:PassesOwn (model X.prog X.w) X.A X.env X.xe)(hk:PT X a (LT X.K tA))(ht:PSs X st (LS X.K t)):PS X (.While a st [] pos) (LS X.K (jb tA t)):=(Dw hp hk ht).weak λD σ H ⟨c,O,ss,R,I,μ,q0,q⟩=>by
 refine⟨λm σ H=>∃ O s,StR X.K c O σ H s/\I s/\μ s=m,⟨_,O,ss,R,q0,rfl⟩,?_⟩;rintro m σ H ⟨O,s,R,i0,rfl⟩;refine R.lt (q s i0) λb H1 R1 w=>?_;cases b with
 | false=>exact w O σ H1 R1
 | true =>
  refine⟨λσ' H'=>∃ O' s',StR X.K c O' σ' H' s'/\I s'/\μ s'<μ s,λσ' H' ⟨O',s',R',i',l⟩=>⟨_,l,O',s',R',i',rfl⟩,c,O,s,R1,?_⟩;refine t.mono ?_ w;exact⟨λs' q O' σ' H' R'=>⟨O',s',R',q⟩,λ_ q=>q,λ_ q=>q,λs' q O' σ' H' R'=>⟨O',s',R',q⟩⟩
def iX(fz:List Nat)(it:TAd)(g:TGd)(t:TSd):TSd:=⟨λE ss=>it.run (frz fz ss) λds=>∃ I:Nat->SS->Prop,I 0 (frz fz ss)/\(∀ i d s,ds[i]? = some d->I i s->g.run d s λs1=>t.run ⟨I (i+1),E.rt,E.nx,I (i+1)⟩ s1)/\∀ s,I ds.length s->E.nx s,λ{E E' ss} h q=>it.mono (λds ⟨I,q0,q1,q2⟩=>⟨I,q0,λi d s e i0=>g.mono (λs1 q=>t.mono (E:=⟨I (i+1),E.rt,E.nx,I (i+1)⟩) (E':=⟨I (i+1),E'.rt,E'.nx,I (i+1)⟩) ⟨λ_ q=>q,h.rt,h.nx,λ_ q=>q⟩ q) (q1 i d s e i0),λs i0=>h.nx _ (q2 s i0)⟩) q⟩
theorem iX.ok(hp:PassesOwn (model X.prog X.w) X.A X.env X.xe)(hc:X.calm=true)(hi:PI X tg iter (LI X.K it))(hg:PG X tg (LG X.K g))(ht:PSs X st (LS X.K t))(hs:∀ x,foldedSetIterable iter X.env x=pure x) :
  PS X (.For tg iter st [] pos) (LS X.K (iX fz it g t)):=(Ih hp hc hi hg ht hs).weak λD σ H ⟨c,O,ss,R,q⟩=>by
 obtain⟨O,R⟩:=R.frz (fz:=fz);refine⟨c.f,O,_,R.sl,it.mono (λds q J H1 e1 D0=>?_) q⟩;obtain⟨I,q0,q1,q2⟩:=q;have R1:=R.ex e1;refine⟨λi m σ H=>∃ O2 s,StR X.K (c.here H1 O) O2 σ H s/\I i s/\m=ds.length-i/\i<=ds.length,⟨_,O,_,R1.here,q0,rfl,aB _⟩,?_⟩;rintro i m σ H ⟨O2,s,R2,i0,rfl,hi⟩;have kp:Kp O H1 H:=λb o n h=>R2.kp.kp b o h (λz=>n (by rw[z];exact R.sl.fO)) (.inr n);rcases aw i ds.length with hk|hk
 ·refine .inr ⟨D0.go H i kp hk,λσ' H'=>∃ O3 s',StR X.K (c.here H1 O) O3 σ' H' s'/\I (i+1) s',λσ' H' ⟨O3,s',R3,i3⟩=>⟨ds.length-(i+1),(),O3,s',R3,i3,rfl,hk⟩,λx H' y=>?_⟩;obtain⟨d,ed,e2,rd⟩:=D0.yld O2 H i x H' R2.new R2.sl.fO R2.sl.al kp R2.sl.fl hk y;refine (R2.ex e2).lg rd (q1 i d s ed i0) λs1 σ' H3 R3 w=>?_;refine⟨c.here H1 O,O2,s1,R3,?_⟩;refine t.mono ?_ w;exact⟨λs' q O' σ' H' R'=>⟨O',s',R',q⟩,λd q v H r=>q v H (Rt.back R1 r),λs' q O' σ' H' R'=>q O' σ' H' (StR.back R1 R'),λs' q O' σ' H' R'=>⟨O',s',R',q⟩⟩
 ·have ek:i=ds.length:=by lia
  subst ek;exact .inl ⟨D0.stop H kp,q2 s i0 O2 σ H (StR.back R1 R2)⟩
def LF(K:Frag)(t:TEd):TE:=λσ H Q=>∃ f O ss,SlD K f O σ H ss/\t.run ss λd=>∃ l,d = .lst l/\∀ p xs H',Ex f H H'->H p=none->H' p=some (.lst xs)->Rps K f (p::O) H' l xs->Q (.ref p) H'
theorem StR.mkOwn{l:List D}{p:Addr}{xs:List V}{i:Nat}(R:StR K c O σ H ss)(e:Ex c.f H H')(hp:H p=none)(hx:H' p=some (.lst xs))(r':Rps K c.f (p::O) H' l xs):StR K c (p::O) (σ.set i (some (.ref p))) H' (ss.set i (.own l)):=by
 have mv:∀ b∈p::O,b∈O\/H b=none:=λb hb=>by
  rcases au.mp hb with z|z
  ·exact .inr (z ▸ hp)
  ·exact .inl z
 have kp:=e.kp R.sl.fO;have np:p ∉ O:=R.sl.nO hp;have npf:p≠c.f:=λz=>np (z ▸ R.sl.fO);have low:c.H p=none\/p∈c.S:=by
  cases h:c.H p with
  | none=>exact .inl rfl
  | some o =>
   right;by_cases y:p∈c.S
   ·exact y
   ·rw[R.kp.kp p o h npf (.inr y)] at hp;cases hp
 have hne:∀(j:Nat) (l':List D) (b:Addr),ss[j]? = some (SD.own l')->σ[j]? = some (some (V.ref b))->b≠p:=λj l' b q1 q2=>by
  obtain⟨b',ys,w1,w2,_⟩:=R.sl.own j l' q1;rw[w1] at q2;cases q2;rintro rfl;exact np w2
 refine⟨⟨e.fl,aC _ R.sl.fO,λb hb=>?_,λl r q=>?_,by rw[aS,aS];exact R.sl.len,λj d q=>?_,λj l' q=>?_⟩,λb hb=>aC _ (R.sub b hb),R.kp.ex e,λb hb=>?_,λj l' b q eb=>?_⟩
 ·rcases au.mp hb with z|z
  ·exact⟨xs,z ▸ hx⟩
  ·exact (R.sl.ex e).al b z
 ·intro z;rcases au.mp z with w|w
  ·subst w;obtain⟨l0,ns,i,c',a',b',f1,f2,f3⟩:=R.sl.fl;obtain⟨r',h2⟩:=e.sm.key _ _ f1;rw[h2] at q;cases q;rw[hp] at f2;cases f2
  ·exact (R.sl.ex e).lO _ _ q w
 ·by_cases z:i=j
  ·subst z;rw[aQ,if_pos rfl] at q;split at q <;> cases q
  ·rw[aK z] at q ⊢;obtain⟨v,w1,w2⟩:=R.sl.val j d q;exact⟨v,w1,w2.moved mv kp R.sl.al⟩
 ·by_cases z:i=j
  ·subst z;rw[aQ,if_pos rfl] at q;split at q
   ·rename_i hl;cases q;exact⟨p,xs,by rw[aQ,if_pos rfl,if_pos (by rw[← R.sl.len];exact hl)],aG,npf,hx,r'⟩
   ·cases q
  ·rw[aK z] at q ⊢;obtain⟨b,ys,w1,w2,w3,w4,w5⟩:=R.sl.own j l' q;exact⟨b,ys,w1,aC _ w2,w3,e.sm.app b _ w3 w4,w5.moved mv kp R.sl.al⟩
 ·rcases au.mp hb with z|z
  ·subst z;exact low.symm
  ·exact R.new b z
 ·by_cases z:i=j
  ·subst z;rw[aQ,if_pos rfl] at eb;split at eb
   ·cases eb;refine⟨low,λw=>np (R.sub _ w),λj' l2 q2 e2=>?_⟩;by_cases z2:i=j'
    ·exact z2.symm
    ·rw[aK z2] at q2 e2;exact absurd rfl (hne j' l2 _ q2 e2)
   ·cases eb
  ·rw[aK z] at q eb;obtain⟨w1,w2,w3⟩:=R.own j l' b q eb;refine⟨w1,w2,λj' l2 q2 e2=>?_⟩;by_cases z2:i=j'
   ·subst z2;rw[aQ,if_pos rfl] at e2;split at e2
    ·cases e2;exact absurd rfl (hne j l' _ q eb)
    ·cases e2
   ·rw[aK z2] at q2 e2;exact w3 j' l2 q2 e2
theorem StR.wr{l l':List D}{i:Nat}{a:Addr}{xs:List V}(R:StR K c O σ H ss)(hs:ss[i]? = some (SD.own l))(ha:σ[i]? = some (some (V.ref a)))(r:Rps K c.f O H l' xs):StR K c O σ (tv H a (.lst xs)) (ss.set i (.own l')):=by
 obtain⟨a',ys,h1,h2,h3,h4,h5⟩:=R.sl.own i l hs;rw[h1] at ha;cases ha;obtain⟨w1,w2,w3⟩:=R.own i l a hs h1;have hl:i<ss.length:=(ak.mp hs).1;have kp:Kp O H (tv H a (.lst xs)):=λb o n q=>by
  rw[sB (by rintro rfl;exact n h2)];exact q
 have fl:Fl (tv H a (.lst xs)) c.f:=by
  obtain⟨l0,ns,i,c',a',b',f1,f2,f3⟩:=R.sl.fl;refine⟨l0,ns,i,c',a',b',by rw[sB (Ne.symm h3)];exact f1,?_,f3⟩;rw[sB (by rintro rfl;exact R.sl.lO _ _ f1 h2)];exact f2
 have gt:∀{j:Nat} {s:SD},(ss.set i (.own l'))[j]? = some s->(j=i/\s = .own l')\/(j≠i/\ss[j]? = some s):=λ{j s} q=>by
  by_cases z:i=j
  ·subst z;rw[aQ,if_pos rfl,if_pos hl] at q;exact .inl ⟨rfl,(Option.some.inj q).symm⟩
  ·rw[aK z] at q;exact .inr ⟨Ne.symm z,q⟩
 refine⟨⟨fl,R.sl.fO,λb hb=>?_,λl r q=>by rw[sB (Ne.symm h3)] at q;exact R.sl.lO l r q,by rw[aS];exact R.sl.len,λj d q=>?_,λj l2 q=>?_⟩,R.sub,⟨λb o q n z=>?_,λl r q=>?_⟩,R.new,λj l2 b q e=>?_⟩
 ·by_cases z:b=a
  ·subst z;exact⟨xs,sD⟩
  ·rw[sB z];exact R.sl.al b hb
 ·rcases gt q with⟨_,z⟩|⟨_,q⟩
  ·cases z
  ·obtain⟨v,q1,q2⟩:=R.sl.val j d q;exact⟨v,q1,q2.kp kp R.sl.al⟩
 ·rcases gt q with⟨rfl,z⟩|⟨z,q⟩
  ·cases z;exact⟨a,xs,h1,h2,h3,sD,r.kp kp R.sl.al⟩
  ·obtain⟨b,zs,q1,q2,q3,q4,q5⟩:=R.sl.own j l2 q;have nb:b≠a:=by
    rintro rfl;exact z (w3 j l2 q q1)
   exact⟨b,zs,q1,q2,q3,by rw[sB nb];exact q4,q5.kp kp R.sl.al⟩
 ·have nb:b≠a:=by
   rintro rfl;rcases z with z|z
   ·exact w2 z
   ·rcases w1 with w|w
    ·rw[w] at q;cases q
    ·exact z w
  rw[sB nb];exact R.kp.kp b o q n z
 ·obtain⟨r',q1⟩:=R.kp.key l r q;exact⟨r',by rw[sB (Ne.symm h3)];exact q1⟩
 ·have q':∃ l3,ss[j]? = some (SD.own l3):=by
   rcases gt q with⟨rfl,z⟩|⟨z,q⟩
   ·exact⟨l,hs⟩
   ·exact⟨l2,q⟩
  obtain⟨l3,q'⟩:=q';obtain⟨p1,p2,p3⟩:=R.own j l3 b q' e;refine⟨p1,p2,λj' l4 q4 e4=>?_⟩;rcases gt q4 with⟨rfl,z⟩|⟨z,q5⟩
  ·exact p3 _ l hs e4
  ·exact p3 j' l4 q5 e4
end Dp
namespace Dp
open PySem L2
variable{K:Frag}{f:Addr}{O O':List Addr}{H H':Hp}{X:Cx}{σ:St}{ss:SS}{a b:Expr}{ta tb tc:TEd}{tA tB:TTd}{pos:Pos}{c:Cs}
theorem Rps.skip(S:SlD K f O σ H1 ss)(hp:H1 p=none)(r:Rps K f O H1 ds vs):Rps K f (p::O) (tv H1 p o) ds vs :=
 r.moved (λa z=>by
  rcases au.mp z with w|w
  ·exact .inr (by rw[w];exact hp)
  ·exact .inl w) ((S.new hp o).kp S.fO) S.al
theorem Ex.low(e:Ex f H H1)(n:p≠f)(h:H1 p=none):H p=none:=e.sm.free n h
theorem iN.okF(h:PA X es (LA X.K t)):PE X (.List es pos) (LF X.K (iN t)):=(At h).weak λσ H Q ⟨f,O,ss,S,q⟩ =>
 ⟨f,O,ss,S,t.mono (λds q vs H1 e r=>by
  obtain⟨hl,l,el,q⟩:=q;cases el;refine⟨by rw[r.len];exact hl,λp hp=>?_⟩;have S1:=S.ex e;exact q p vs _ (e.trans (S1.new hp _)) (e.low (λz=>S1.nO hp (z ▸ S1.fO)) hp) sD (Rps.skip S1 hp r)) q⟩
theorem sj.okF(ha:PE X a (LE X.K ta))(hb:PE X b (LE X.K tb)):PE X (.BinOp a .Mult b pos) (LF X.K (ip .Mult ta tb)):=(tf (pos:=pos) DQ ha hb).weak λσ H Q ⟨f,O,ss,S,q⟩=>by
 refine⟨f,O,ss,S,ta.mono (λdx q v1 H1 e1 r1=>?_) q⟩;refine⟨f,O,ss,S.ex e1,tb.mono (λdy q v2 H2 e2 r2=>?_) q⟩;have S2:=(S.ex e1).ex e2;have r1:=(S.ex e1).up e2 r1;cases dx <;> cases dy <;> first|(exact False.elim q)|skip
 ·obtain⟨_,l,el,_⟩:=q;cases el
 ·obtain⟨_,_,_,l,el,_⟩:=q;cases el
 ·rename_i la k;obtain⟨q1,q2,q3,l,el,q⟩:=q;cases el;obtain⟨p0,xs,rfl,n1,h1,h2⟩:=r1;cases (show v2=_ from r2);refine⟨p0,k,xs,rfl,rfl,h1,q1,q2,by rw[h2.len];exact q3,λp hp=>?_⟩;have e12:=e1.trans e2;exact q p _ _ (e12.trans (S2.new hp _)) (e12.low (λz=>S2.nO hp (z ▸ S2.fO)) hp) sD (Rps.skip S2 hp (h2.flat _))
def jC(t:TEd):TEd:=⟨λss Q=>t.run ss λd=>itemsD d λl=>Q (.lst l),λh q=>t.mono (λd q=>itemsD.mono (λl q=>h _ q) q) q⟩
theorem jC.okF(hg:Gl X "list")(hm:X.mg "list" = none)(ha:PE X a (LE X.K ta))(hs:starEach [a] X.env=[(false,eval a X.env)]):PE X (.Call (.Name "list" p) [a] [] pos) (LF X.K (jC ta)) :=
 (vN (p:=p) (pos:=pos) (AC X.K) hg hm uX (sy ha pa_nil hs) (by decide) (by decide) hs rfl).weak λσ H Q ⟨f,O,ss,S,q⟩=>⟨f,O,ss,S,ta.mono (λd q v H1 e r=>by
  have S1:=S.ex e;cases d <;> first|exact False.elim q|skip
  ·rename_i l0;obtain⟨l,el,q⟩:=q;cases el;obtain⟨p0,xs,rfl,h1,h2⟩:=r;exact⟨p0,xs,rfl,.inr h1,λp hp=>q p _ _ (e.trans (S1.new hp _)) (e.low (λz=>S1.nO hp (z ▸ S1.fO)) hp) sD (Rps.skip S1 hp h2)⟩
  ·rename_i l0;obtain⟨l,el,q⟩:=q;cases el;obtain⟨p0,xs,rfl,_,h1,h2⟩:=r;exact⟨p0,xs,rfl,.inl (SqL.of h1),λp hp=>q p _ _ (e.trans (S1.new hp _)) (e.low (λz=>S1.nO hp (z ▸ S1.fO)) hp) sD (Rps.skip S1 hp h2)⟩) q⟩
def jY(fz:List Nat)(i:Nat)(e:TEd):TSd:=⟨λE ss=>e.run (frz fz ss) λd=>match d with | .lst l=>E.nx ((frz fz ss).set i (.own l))|_=>False,λ{E E' ss} h q=>e.mono (λd q=>by
 revert q;cases d <;> first|exact h.nx _|exact id) q⟩
theorem jY.ok(hN:X.N.Nodup)(hi:X.N[i]? = some x)(hx:CS X.env.scope x)(h:PE X a (LF X.K ta))(hs:swapsWith a (some (.Name x p')) pos.line X.env=pure false)(hf:X.fn x=true\/X.env.scope.names.lookup x=some .local) :
  PS X (.Assign [.Name x p'] a pos) (LS X.K (jY fz i ta)):=(vL hN hi hx h hs hf).weak λD σ H ⟨c,O,ss,R,q⟩=>by
 obtain⟨O',R⟩:=R.frz (fz:=fz);refine⟨c.f,O',_,R.sl,ta.mono (λd q=>?_) q⟩;cases d <;> first|exact False.elim q|skip
 rename_i l;exact⟨l,rfl,λp xs H1 e hp hx r=>q _ _ H1 (R.mkOwn e hp hx r)⟩
def kU(fz:List Nat)(i:Nat)(e:TEd):TSd:=⟨λE ss=>match (frz fz ss)[i]? with|some (.own l)=>e.run (frz fz ss) λd=>l.length<sizeLine/\E.nx ((frz fz ss).set i (.own (l++[d])))|_=>False,λ{E E' ss} h q=>by
 revert q;split
 ·exact e.mono λd q=>⟨q.1,h.nx _ q.2⟩
 ·exact id⟩
theorem kU.ok(hx:PE X x (vn i))(hb:attributeBase x "append" X.env (eval x X.env)=eval x X.env)(h:PE X a (LE X.K ta))(hs:starEach [a] X.env=[(false,eval a X.env)])(hl:(ap.endLine == cp.line)=true)(hw:swapsWith (.Call (.Attribute x "append" ap) [a] [] cp) none pos.line X.env=pure false) :
  PS X (.Expr (.Call (.Attribute x "append" ap) [a] [] cp) pos) (LS X.K (kU fz i ta)):=by
 refine (Bg (pos:=pos) (Kf (apos:=ap) (cpos:=cp) PySem.F.plainAttrs_list PySem.F.slot_list_append PySem.F.type_list_append Cp hx (sy h pa_nil hs) hb (by rw[hs];rfl) hl hs rfl) hw).weak λD σ H ⟨c,O,ss,R,q⟩=>?_;obtain⟨O',R⟩:=R.frz (fz:=fz);have q:(match (frz fz ss)[i]? with|some (.own l)=>ta.run (frz fz ss) λd=>l.length<sizeLine/\(vx X.K c D).nx ((frz fz ss).set i (.own (l++[d])))|_=>False):=q;split at q
 ·rename_i l el;obtain⟨p,xs,h1,h2,h3,h4,h5⟩:=R.sl.own i l el;refine⟨_,h1,.inl ⟨rfl,xs,SqL.of h4⟩,R.le q λd v H1 R1 e1 r w=>?_⟩;have hp:=e1.sm.app p _ h3 h4;have r5:=R.sl.ups e1 h5;refine⟨p,xs,v,rfl,rfl,hp,by rw[r5.len];exact w.1,w.2 O' σ _ (R1.wr el h1 (r5.append ⟨v,[],rfl,r,rfl⟩))⟩
 ·exact q.elim
theorem Rps.dropLast:∀{ds:List D} {vs:List V},Rps K f O H ds vs->Rps K f O H ds.dropLast vs.dropLast:=λ{ds vs} h=>by
 rw[eV,eV,h.len];exact h.take _
def rf(i:Nat):TSd:=⟨λE ss=>match ss[i]? with|some (.own l)=>l≠[]/\E.nx (ss.set i (.own l.dropLast))|_=>False,λ{E E' ss} h q=>by
 revert q;split
 ·exact λq=>⟨q.1,h.nx _ q.2⟩
 ·exact id⟩
theorem rf.ok(hx:PE X x (vn i))(hb:attributeBase x "pop" X.env (eval x X.env)=eval x X.env)(hl:(ap.endLine == cp.line)=true)(hw:swapsWith (.Call (.Attribute x "pop" ap) [] [] cp) none pos.line X.env=pure false) :
  PS X (.Expr (.Call (.Attribute x "pop" ap) [] [] cp) pos) (LS X.K (rf i)):=by
 refine (Bg (pos:=pos) (DG (apos:=ap) (cpos:=cp) PySem.F.plainAttrs_list PySem.F.slot_list_pop PySem.F.type_list_pop DZ hx hb hl) hw).weak λD σ H ⟨c,O,ss,R,q⟩=>?_;have q:(match ss[i]? with|some (.own l)=>l≠[]/\(vx X.K c D).nx (ss.set i (.own l.dropLast))|_=>False):=q;split at q
 ·rename_i l el;obtain⟨p,xs,h1,h2,h3,h4,h5⟩:=R.sl.own i l el;have hne:0<l.length:=cV.mpr q.1;obtain⟨v,hv,_⟩:=h5.get (show l[l.length-1]? = some (l[l.length-1]'()) by simp);exact⟨_,h1,.inl ⟨rfl,xs,SqL.of h4⟩,p,xs,v,rfl,rfl,h4,by rw[h5.len];exact hv,q.2 O σ _ (R.wr el h1 h5.dropLast)⟩
 ·exact q.elim
def nR(j i:Nat):TSd:=⟨λE ss=>match ss[i]? with|some (.own l)=>∃ d,l[l.length-1]? = some d/\E.nx ((ss.set i (.own l.dropLast)).set j (.val d))|_=>False,λ{E E' ss} h q=>by
 revert q;split
 ·exact fun⟨d,q1,q2⟩=>⟨d,q1,h.nx _ q2⟩
 ·exact id⟩
theorem nR.ok(hN:X.N.Nodup)(hj:X.N[j]? = some y)(hy:CS X.env.scope y)(hf:X.fn y=true\/X.env.scope.names.lookup y=some .local)(hx:PE X x (vn i))(hb:attributeBase x "pop" X.env (eval x X.env)=eval x X.env)(hl:(ap.endLine == cp.line)=true)(hw:swapsWith (.Call (.Attribute x "pop" ap) [] [] cp) (some (.Name y p')) pos.line X.env=pure false) :
  PS X (.Assign [.Name y p'] (.Call (.Attribute x "pop" ap) [] [] cp) pos) (LS X.K (nR j i)):=by
 refine (vL (pos:=pos) hN hj hy (DG (apos:=ap) (cpos:=cp) PySem.F.plainAttrs_list PySem.F.slot_list_pop PySem.F.type_list_pop DZ hx hb hl) hw hf).weak λD σ H ⟨c,O,ss,R,q⟩=>?_;have q:(match ss[i]? with|some (.own l)=>∃ d,l[l.length-1]? = some d/\(vx X.K c D).nx ((ss.set i (.own l.dropLast)).set j (.val d))|_=>False):=q;split at q
 ·rename_i l el;obtain⟨p,xs,h1,h2,h3,h4,h5⟩:=R.sl.own i l el;obtain⟨d,q1,q2⟩:=q;obtain⟨v,hv,rv⟩:=h5.get q1;have R2:=R.wr el h1 h5.dropLast;have kp:Kp O H (tv H p (.lst xs.dropLast)):=λb o n q=>by
   rw[sB (by rintro rfl;exact n h2)];exact q
  refine⟨_,h1,.inl ⟨rfl,xs,SqL.of h4⟩,p,xs,v,rfl,rfl,h4,by rw[h5.len];exact hv,q2 O _ _ (R2.to (R2.sl.set (rv.kp kp R.sl.al)) Sub.set)⟩
 ·exact q.elim
def atD(l:List D)(dk:D)(Q:Nat->Prop):Prop:=match dk with | .int z=>(match y4 l.length z with|some j=>Q j|none=>False)|_=>False
theorem atD.mono{l:List D}{dk:D}{Q Q':Nat->Prop}(h:∀ j,Q j->Q' j):atD l dk Q->atD l dk Q':=by
 cases dk <;> first|exact id|skip
 unfold atD;dsimp only;split
 ·exact h _
 ·exact id
def jW(fz:List Nat)(i:Nat)(k e:TEd):TSd:=⟨λE ss=>match (frz fz ss)[i]? with|some (.own l)=>e.run (frz fz ss) λd=>k.run (frz fz ss) λdk=>atD l dk λj=>E.nx ((frz fz ss).set i (.own (l.set j d)))|_=>False,λ{E E' ss} h q=>by
 revert q;split
 ·exact e.mono λd=>k.mono λdk=>atD.mono λj=>h.nx _
 ·exact id⟩
theorem jW.ok(hx:PE X x (vn i))(hk:PE X k (LE X.K tk))(h:PE X a (LE X.K ta))(hs:swapsWithSole [.Subscript x k sp] a pos.line X.env=pure false)(hw:swappedStores [.Subscript x k sp] a X.env=pure none)(h1:(assignEach [.Subscript x k sp] X.env).map (·.2)=[assign (.Subscript x k sp) X.env])
  (hg:PG X (.Subscript x k sp) (KG (vn i) (LE X.K tk) GG)):PS X (.Assign [.Subscript x k sp] a pos) (LS X.K (jW fz i tk ta)):=by
 refine (uH (pos:=pos) h hg hs hw h1).weak λD σ H ⟨c,O,ss,R,q⟩=>?_;obtain⟨O',R⟩:=R.frz (fz:=fz);have q:(match (frz fz ss)[i]? with|some (.own l)=>ta.run (frz fz ss) λd=>tk.run (frz fz ss) λdk=>atD l dk λj=>(vx X.K c D).nx ((frz fz ss).set i (.own (l.set j d)))|_=>False):=q;split at q
 ·rename_i l el;obtain⟨p,xs,g1,g2,g3,g4,g5⟩:=R.sl.own i l el;refine R.le q λd v H1 R1 e1 r w=>⟨_,g1,R1.le w λdk vk H2 R2 e2 rk w=>?_⟩;cases dk <;> first|exact False.elim w|skip
  rename_i z;cases (show vk=_ from rk);unfold atD at w;dsimp only at w;split at w
  ·rename_i j ej;have e12:=e1.trans e2;have r5:=R.sl.ups e12 g5;exact⟨p,xs,z,j,rfl,rfl,e12.sm.app p _ g3 g4,by rw[r5.len];exact ej,w O' σ _ (R2.wr el g1 (r5.set (R1.sl.up e2 r) j))⟩
  ·exact w.elim
 ·exact q.elim
def oAug:Operator->OD
 | .Add=>λx y Q=>match x,y with | .int i,.int j=>Q (.int (i+j)) | .str a,.str b=>a.length+b.length<=sizeLine/\Q (.str (a++b))|_,_=>False
 | .Sub=>oSub
 | .Mult=>λx y Q=>match x,y with | .int i,.int j=>CMulB i j/\Q (.int (i*j))|_,_=>False
 | .FloorDiv=>oDiv
 | _=>Az
theorem oAug.mono{op:Operator}:∀{x y Q Q'},(∀ d,Q d->Q' d)->oAug op x y Q->oAug op x y Q':=by
 cases op;all_goals first|exact oSub.mono|exact oDiv.mono|exact λ_ q=>q|skip
 all_goals (intro x y Q Q' h;cases x <;> cases y <;> intro q <;> first|exact h _ q|exact q|exact⟨q.1,h _ q.2⟩)
theorem Dk(hr:Room k X.A)(op:Operator):Rng X (inplaceOp op) (oAug op):=by
 cases op;case Add =>
  refine⟨_,OpR.or2 F8 y6,λf O σ ss H dx dy x y Q R rx ry h=>?_⟩;cases dx <;> cases dy <;> first|(exact False.elim h)|skip
  ·cases rx;cases ry;exact .inl ⟨_,_,rfl,rfl,h _ H (Ex.refl R.fl) rfl⟩
  ·cases rx;cases ry;exact .inr ⟨_,_,rfl,rfl,h.1,h.2 _ H (Ex.refl R.fl) rfl⟩
 case Sub =>
  refine⟨_,F7,λf O σ ss H dx dy x y Q R rx ry h=>?_⟩;cases dx <;> cases dy <;> first|(exact False.elim h)|skip
  cases rx;cases ry;exact⟨_,_,rfl,rfl,h _ H (Ex.refl R.fl) rfl⟩
 case Mult=>exact vJ D8 λdx dy Q h=>by cases dx <;> cases dy <;> first|(exact False.elim h)|exact⟨_,_,rfl,rfl,h.1,h.2⟩
 case FloorDiv=>exact vJ (Cz hr) λdx dy Q h=>by cases dx <;> cases dy <;> first|(exact False.elim h)|exact⟨_,_,rfl,rfl,h.1,h.2⟩
 all_goals exact Rng.never
def oj(fz:List Nat)(i:Nat)(op:Operator)(e:TEd):TSd:=⟨λE ss=>match (frz fz ss)[i]? with|some (.val x)=>e.run (frz fz ss) λy=>oAug op x y λz=>E.nx ((frz fz ss).set i (.val z))|_=>False,λ{E E' ss} h q=>by
 revert q;split
 ·exact e.mono λy=>oAug.mono λz=>h.nx _
 ·exact id⟩
theorem oj.ok(hk0:Room k0 X.A)(hN:X.N.Nodup)(hi:X.N[i]? = some x)(hx:CS X.env.scope x)(h:PE X a (LE X.K ta))(hf:X.fn x=true\/X.env.scope.names.lookup x=some .local) :
  PS X (.AugAssign (.Name x p') op a pos) (LS X.K (oj fz i op ta)):=by
 obtain⟨r,hr,hd⟩:=Dk (X:=X) hk0 op;refine (Ii (pos:=pos) hN hi hx h (ti:=r) hr hf).weak λD σ H ⟨c,O,ss,R,q⟩=>?_;obtain⟨O',R⟩:=R.frz (fz:=fz);have q:(match (frz fz ss)[i]? with|some (.val x)=>ta.run (frz fz ss) λy=>oAug op x y λz=>(vx X.K c D).nx ((frz fz ss).set i (.val z))|_=>False):=q;split at q
 ·rename_i dx ex;obtain⟨v,g1,g2⟩:=R.sl.val i dx ex;refine⟨v,g1,R.le q λdy y H1 R1 e1 ry w=>?_⟩;refine hd c.f O' σ _ H1 dx dy v y _ R1.sl (R.sl.up e1 g2) ry (oAug.mono (λz w v' H2 e2 rz=>?_) w);have R2:=R1.ex e2;exact w O' _ H2 (R2.to (R2.sl.set rz) Sub.set)
 ·exact q.elim
def augD(l:List D)(dk:D)(Q:Nat->D->Prop):Prop:=match dk with | .int z=>0<=z/\(match l[z.toNat]? with|some x=>Q z.toNat x|none=>False)|_=>False
theorem augD.mono{l:List D}{dk:D}{Q Q':Nat->D->Prop}(h:∀ j x,Q j x->Q' j x):augD l dk Q->augD l dk Q':=by
 cases dk <;> first|exact id|skip
 unfold augD;dsimp only;split
 ·exact λq=>⟨q.1,h _ _ q.2⟩
 ·exact id
def mV(fz:List Nat)(i:Nat)(k:TEd)(op:Operator)(e:TEd):TSd:=⟨λE ss=>match (frz fz ss)[i]? with|some (.own l)=>k.run (frz fz ss) λdk=>augD l dk λj x=>e.run (frz fz ss) λy=>oAug op x y λz=>E.nx ((frz fz ss).set i (.own (l.set j z)))|_=>False,λ{E E' ss} h q=>by
 revert q;split
 ·exact k.mono λdk=>augD.mono λj x=>e.mono λy=>oAug.mono λz=>h.nx _
 ·exact id⟩
theorem mV.ok(hk0:Room k0 X.A)(hx:PE X x (vn i))(hk:PE X k (LE X.K tk))(h:PE X a (LE X.K ta))(ha:∀ ov iv new,augStore k ov iv new=(do holding [new,ov,iv] (setItem ov iv new);release [new,ov,iv] [];pure .next)) :
  PS X (.AugAssign (.Subscript x k sp) op a pos) (LS X.K (mV fz i tk op ta)):=by
 obtain⟨r,hr,hd⟩:=Dk (X:=X) hk0 op;refine (Fw (pos:=pos) (tpos:=sp) hx hk (Mj X.K) h (tip:=r) hr tM ha).weak λD σ H ⟨c,O,ss,R,q⟩=>?_;obtain⟨O',R⟩:=R.frz (fz:=fz);have q:(match (frz fz ss)[i]? with|some (.own l)=>tk.run (frz fz ss) λdk=>augD l dk λj x=>ta.run (frz fz ss) λy=>oAug op x y λz=>(vx X.K c D).nx ((frz fz ss).set i (.own (l.set j z)))|_=>False):=q;split at q
 ·rename_i l el;obtain⟨p,xs,g1,g2,g3,g4,g5⟩:=R.sl.own i l el;refine⟨_,g1,R.le q λdk vk H1 R1 e1 rk w=>?_⟩;cases dk <;> first|exact False.elim w|skip
  rename_i z;cases (show vk=_ from rk);obtain⟨z0,w⟩:=w;obtain⟨j,rfl⟩:=cI z0;rw[aJ] at w;split at w
  ·rename_i dx hx;obtain⟨v,hv,rv⟩:=g5.get hx;refine⟨p,xs,v,j,rfl,rfl,SqL.of (e1.sm.app p _ g3 g4),hv,R1.le w λdy y H2 R2 e2 ry w=>?_⟩;refine hd c.f O' σ _ H2 dx dy v y _ R2.sl (R1.sl.up e2 (R.sl.up e1 rv)) ry (oAug.mono (λz w v' H3 e3 rz=>?_) w);have R3:=R2.ex e3;have e13:=e1.trans (e2.trans e3);have r5:=R.sl.ups e13 g5;have hj:j<xs.length:=(ak.mp hv).1;refine⟨p,xs,_,j,rfl,rfl,e13.sm.app p _ g3 g4,?_,w O' σ _ (R3.wr el g1 (r5.set rz j))⟩;unfold y4;rw[if_pos (),if_pos (),aJ]
  ·exact w.elim
 ·exact q.elim
def ownInt(l:D)(b:TEd)(s:SS)(Q:List D->Int->Prop):Prop:=match l with
 | .lst l=>b.run s λd=>match d with | .int z=>Q l z|_=>False
 | _=>False
theorem ownInt.mono{l:D}{b:TEd}{s:SS}{Q Q':List D->Int->Prop}(h:∀ l z,Q l z->Q' l z):ownInt l b s Q->ownInt l b s Q':=by
 cases l <;> first|exact id|skip
 exact b.mono λd q=>by
  revert q;cases d <;> first|exact id|exact h _ _
def pY(fz:List Nat)(i j:Nat)(a b:TEd):TSd:=⟨λE ss=>a.run (frz fz ss) λd=>ownInt d b (frz fz ss) λl z=>E.nx (((frz fz ss).set i (.own l)).set j (.vi z)),λh q=>a.mono (λd q=>ownInt.mono (λl z q=>h.nx _ q) q) q⟩
theorem pY.weak{fz:List Nat}{i j:Nat}{D:Ends}{σ:St}{ta tb:TEd}(h:LS X.K (pY fz i j ta tb) D σ H):HB i j (xx (LF X.K ta) (xx (LE X.K tb) Fe)) D σ H:=by
 obtain⟨c,O,ss,R,q⟩:=h;obtain⟨O',R⟩:=R.frz (fz:=fz);refine⟨c.f,O',_,R.sl,ta.mono (λd q=>?_) q⟩;cases d <;> first|exact False.elim q|skip
 rename_i l;refine⟨l,rfl,λp xs H1 e1 hp hx r=>?_⟩;have R1:=R.ex e1;refine R1.le q λd' v' H2 R2 e2 r' w=>?_;cases d' <;> first|exact False.elim w|skip
 rename_i z;cases (show v'=_ from r');have pO:p ∉ O':=λhO=>by
  obtain⟨ys,hy⟩:=R.sl.al p hO;rw[hp] at hy;cases hy
 have kp:=e2.kp R1.sl.fO;have kp':Kp (p::O') H1 H2:=λb o n h=>kp b o (λz=>n (aC _ z)) h;have al':∀ b∈p::O',∃ xs,H1 b=some (.lst xs):=λb hb=>by
  rcases au.mp hb with z|z
  ·exact⟨xs,z ▸ hx⟩
  ·exact R1.sl.al b z
 have R3:=R.mkOwn (i:=i) (e1.trans e2) hp (kp p _ pO hx) (r.kp kp' al');exact⟨.ref p,.int z,rfl,w (p::O') _ H2 (R3.to (R3.sl.set (i:=j) (d:=.int z) (v:=.int z) rfl) Sub.set)⟩
def startD(n:Nat)(ds:List D):SS:=ds.map SD.val++List.replicate (n-ds.length) SD.no
theorem startD.ok(fl:Fl H f)(fO:f∈O)(al:∀ a∈O,∃ xs,H a=some (.lst xs))(lO:∀ l r,H f=some (.lst (.ref l::r))->l ∉ O)(r:Rps K f O H ds vs):StR K ⟨f,O,H,O⟩ O (L2.start N vs) H (startD N.length ds):=by
 have len:(startD N.length ds).length=(L2.start N vs).length:=by
  unfold startD L2.start;rw[aj,aj,aa,aa,aI,aI,r.len]
 have get:∀{i:Nat} {s:SD},(startD N.length ds)[i]? = some s->(∃ d,s = .val d/\ds[i]? = some d)\/s = .no:=λ{i s} h=>by
  unfold startD at h;rcases aw i (ds.map SD.val).length with z|z
  ·rw[aN z,aR] at h;obtain⟨d,h1,h2⟩:=ab.mp h;exact .inl ⟨d,h2.symm,h1⟩
  ·rw[az z] at h;exact .inr (gA (aL h))
 refine⟨⟨fl,fO,al,lO,len,λi d h=>?_,λi l h=>?_⟩,λ_ h=>h,⟨λ_ _ h _ _=>h,λl r h=>⟨r,h⟩⟩,λa h=>.inl h,λi l a h=>?_⟩
 ·rcases get h with⟨d',e,h1⟩|e
  ·cases e;obtain⟨v,h2,h3⟩:=r.get h1;refine⟨v,?_,h3⟩;unfold L2.start;have hv:=(ak.mp h2).1;rw[aN (by rw[aa];exact hv),aR,h2];rfl
  ·cases e
 ·rcases get h with⟨d',e,h1⟩|e <;> cases e
 ·rcases get h with⟨d',e,h1⟩|e <;> cases e
@[reducible] def sH(Q:D->Prop):EndsD:=⟨λ_=>Q .non,Q,λ_=>False,λ_=>False⟩
def Does(n:Nat)(t:TSd)(s:SpB):Prop:=∀ ds Q,ds.length=s.n->s.run ds Q->t.run (sH Q) (startD n ds)
theorem Does.ok(h:Does N.length t s)(hs:yM K s.n s.run vs H Q E):LS K t { nx:=λ_ H'=>Q .non H',rt:=Q } (L2.start N vs) H:=by
 obtain⟨hn,f,O,ds,fl,fO,al,lO,r,q⟩:=hs;refine⟨⟨f,O,H,O⟩,O,_,startD.ok fl fO al lO r,?_⟩;have q:=h ds _ (r.len.symm.trans hn) q;refine t.mono ?_ q;refine⟨λs q O' σ' H' R=>?_,λd q v H' R=>?_,λ_ q=>q.elim,λ_ q=>q.elim⟩
 ·exact q .non H' ⟨⟨λb o n h=>R.kp.kp b o h n (by by_cases z:b∈O;exact .inl z;exact .inr z),R.kp.key⟩,R.sl.fl⟩ rfl
 ·exact q v H' ⟨⟨λb o n h=>R.kp.kp b o h n (by by_cases z:b∈O;exact .inl z;exact .inr z),R.kp.key⟩,R.fl⟩ R.rp
end Dp
namespace Dp
open PySem L2
variable{K:Frag}{f:Addr}{O O':List Addr}{H H':Hp}{X:Cx}{σ:St}{ss:SS}{a b:Expr}{ta tb tc:TEd}{tA tB:TTd}{pos:Pos}{c:Cs}
mutual
def D.lf:D->Bool
 | .tup ds=>D.lfs ds
 | .lst _=>false | .fl=>false
 | .exn _ _ ds=>D.lfs ds
 | .dct _ ds=>D.lfs ds
 | .int _=>true | .str _=>true | .non=>true | .bl _=>true
def D.lfs:List D->Bool
 | []=>true
 | d::ds=>d.lf && D.lfs ds
end
mutual
theorem Rp.any:∀{d:D} {v:V},d.lf=true->Rp K f O H d v->Rp K f O' H d v
 | .non,_,_,h=>h
 | .bl _,_,_,h=>h
 | .int _,_,_,h=>h
 | .str _,_,_,h=>h
 | .fl,_,z,_=>by cases z
 | .lst _,_,z,_=>by cases z
 | .tup l,v,z,h=>by
  obtain⟨a,xs,e1,h1,h2⟩:=h;exact⟨a,xs,e1,h1,Rps.any z h2⟩
 | .exn C x l,v,z,h=>by
  obtain⟨a,us,e1,h1,h2⟩:=h;exact⟨a,us,e1,h1,Rps.any z h2⟩
 | .dct ks l,v,z,h=>by
  obtain⟨a,us,e1,h1,h2,h3⟩:=h;exact⟨a,us,e1,h1,h2,Rps.any z h3⟩
theorem Rps.any:∀{ds:List D} {vs:List V},D.lfs ds=true->Rps K f O H ds vs->Rps K f O' H ds vs
 | [],_,_,h=>h
 | d::ds,_,z,h=>by
  have z:=aA.mp (show (d.lf && D.lfs ds)=true from z);obtain⟨v,r,e1,h1,h2⟩:=h;exact⟨v,r,e1,Rp.any z.1 h1,Rps.any z.2 h2⟩
end
end Dp
set_option maxHeartbeats 1000000
namespace L2
open PySem PySem.Spec PyProof.Rows
section
variable{prog:Program}{w:World}{A:Around}{E:Value->Shared->Prop}
theorem xP(hh:A.handled=none)(ne:l≠I):∀(n i:Nat) (s:Shared) (Q:List Value->Shared->Prop),s.heap.IsListIter I l i->s.heap.IsList l items->i+n<=items.size ->
  (∀(h':Heap) (tk:Nat),h'.IsListIter I l (i+n)->(∀ b o,b≠I->s.heap.get? b=some o->h'.get? b=some o)->Q ((items.toList.drop i).take n) { s with heap:=h',toks:=tk })->wpAny (model prog w) A (draw (.ref I) n) Q E s
 | 0,i,s,Q,hi,hl,hn,q=>by
  have:=q s.heap s.toks (by simpa using hi) λb o _ e=>e;rw[dI] at this;exact ηP this
 | n+1,i,s,Q,hi,hl,hn,q=>by
  have W:=Walks.list (prog:=prog) (w:=w) (A:=A) hh I l ne items;show wpAny (model prog w) A (draw (.ref I) (n+1)) Q E s;unfold draw;refine ηB (W.item i s _ _ () ⟨hi,hl⟩ λv h' tk hv hst k=>?_);have k:∀ b o,b≠I->s.heap.get? b=some o->h'.get? b=some o:=λb o hb e=>k b o (by simpa using hb) e;dsimp only;refine ηB (wpAny_holding ?_);refine xP hh ne n (i+1) _ _ hst.1 hst.2 () λh2 tk2 a1 a2=>?_;refine ηP ?_;have e:(items.toList.drop i).take (n+1)=v::(items.toList.drop (i+1)).take n:=by
   have hi':i<items.toList.length:=by rw[cC];lia
   rw[cU hi',List.take_succ_cons];congr 1;have hv':items.toList[i]? = some v:=by rw[eO];exact hv
   rw[aq hi'] at hv';exact Option.some.inj hv'
  rw[← e];exact q h2 tk2 (by rw[show i+(n+1)=i+1+n by lia];exact a1) λb o hb e=>a2 b o hb (k b o hb e)
theorem vG(hh:A.handled=none)(hl:s.heap.IsList l items)
  (h:∀(h':Heap) (tk:Nat),(∀ b o,s.heap.get? b=some o->h'.get? b=some o)->Q items.toList { s with heap:=h',toks:=tk }):wpAny (model prog w) A (unpackItems (.ref l) items.size none) Q E s:=by
 have hl0:=hl;obtain⟨o,h1,h2,h3⟩:=hl;have hT:s.TypeIs (.ref l) "list" := ⟨o,h1,h2⟩;have hlt:=ηL h1;unfold unpackItems;refine ηB ?_;refine ηB (wpAny_specialOf hT F.slot_list_iter.lookup (ηP ?_));rw[if_neg (by decide)];refine ηB (wpAny_holding ?_);refine wpAny_pyIter_list hl0 ?_;have ne:l≠s.heap.objs.size:=aY hlt;refine ηB (wpAny_holding (xP hh ne items.size 0 _ _ ⟨_,ηG _ rfl,rfl,rfl⟩ ⟨o,ηH _ h1,h2,h3⟩ () λh' tk a1 a2=>?_));rw[dL,eE (by rw[cC];exact af _)];rw[if_neg (by rw[cC];exact bB _)];have W:=Walks.list (prog:=prog) (w:=w) (A:=A) hh s.heap.objs.size l ne items;refine ηB (wpAny_holding (W.done _ _ _ ⟨by simpa using a1,⟨o,a2 _ _ ne (ηH _ h1),h2,h3⟩⟩ λh2' tk2 k=>?_));refine ηP ?_;refine h h2' tk2 λb o' e=>k b o' (by intro z;rw[a8.mp z] at e;exact absurd (ηL e) (bB _)) (a2 b o' (aY (ηL e)) (ηH _ e))
end
section
variable{X:Cx}{pos:Pos}
def KD(K:Frag)(n:Nat)(t:E7):TG:=λv σ H Q=>∃ a xs,v = .ref a/\SqL K H a xs/\xs.length=n/\t xs σ H Q
theorem Ik(hc:X.calm=true)(h:JF X es t)
  (hn:(assignEach es X.env).length=n:=by rfl) (hst:(assignEach es X.env).findIdx? (·.1)=none:=by rfl):PG X (.Tuple es k pos) (KD X.K n t):=by
 intro pins s σ H v u Q I r hw;obtain⟨a,xs,e1,hq,hl,hw⟩:=hw;subst e1;cases r;obtain⟨its,rv,ht,hz⟩:=I.list hq;have e:(assignEach es X.env).length=its.toArray.size:=by simp[hn,← hl,rv.length]
 rw[assign_Tuple];refine ηB (wpAny_standAt ?_);unfold unpack;rw[e,hst];refine ηB (wpAny_holding (vG (I.ok.hd hc) ht.isList λh' tk hx=>?_));have I1:Inv X pins σ H { s with heap:=h',toks:=tk }:=I.kept hx;exact h pins _ σ H xs _ Q I1 (by simpa using rv) hw
end
section
variable{prog:Program}{w:World}{A:Around}{E:Value->Shared->Prop}{s:Shared}
theorem Ea:typeLookup (Value.type "list_reverseiterator") (Str.ofString "__length_hint__")=pure (some (.builtin "list_reverseiterator.__length_hint__")):=by kernel_rfl
theorem Ck:typeLookup (Value.type "list_reverseiterator") (Str.ofString "__len__")=pure none:=by kernel_rfl
theorem xI{its:List Value}(h:ItemsOf (λi v=>its.toArray[its.toArray.size-1-i]? = some v) acc its.toArray.size):acc.toList=its.reverse:=by
 obtain⟨h0,h2⟩:=h;have h1:acc.size=its.length:=h0.trans ao;clear h0;apply g6;intro j;rw[eO];by_cases hj:j<its.length
 ·have:=h2 j _ (gq ());rw[ao,List.getElem?_toArray] at this;rw[gq (),bE hj,this]
 ·rw[Array.getElem?_eq_none (),bt (by rw[a5];lia)]
theorem BH(hh:A.handled=none)(ne:l≠I)(nI:S≠I)(nl:S≠l)(hr:s.heap.IsRevIter I l ((items.size:Int)-1))(hl:s.heap.IsList l items)(hn:items.size<=sizeLine)(hS:∃ c,s.heap.get? S=some { cls:=.type "list",data:=.seq #[] c })
  (h:∀(s':Shared) (acc:Array Value) (c:Nat),Moved [S,I] (λa b=>b=a) s s'->s'.heap.get? S=some { cls:=.type "list",data:=.seq acc c }->ItemsOf (λi v=>items[items.size-1-i]? = some v) acc items.size->R (.ok (.ret r)) s') :
  wpAny (model prog w) A.in1 (Builtin.List.listExtendWith (.ref S) (.ref I) r)
   (λfin s'=>match fin with
    | .done f=>R (.ok f) s'
    | .again c'=>c'.quiet=true/\codeAny (model prog w) A c' R s')
   (λe s'=>R (.error e) s') s:=by
 have hr0:=hr;obtain⟨o,h1,h2,h3⟩:=hr;have hT:s.TypeIs (.ref I) "list_reverseiterator" := ⟨o,h1,h2⟩;unfold Builtin.List.listExtendWith;refine ηB (wpAny_typeOf hT ?_);have hne:(S == I)=false:=by
  rw[beq_eq_false_iff_ne];exact nI
 rw[if_neg (show ¬ (Builtin.List.listSameRef (Value.ref S) (Value.ref I) || Value.type "list_reverseiterator" == Value.type "list" || Value.type "list_reverseiterator" == Value.type "tuple")=true by
  show ¬ (((S == I) || false || false)=true);rw[hne];decide)]
 refine ηB (wpAny_pyIter_revIter hr0 ?_);refine ηB (wpAny_holding ?_);unfold Builtin.List.listLengthHint;refine ηB (wpAny_specialOf hT Ck ?_);dsimp only;rw[if_neg (show ¬ ((none:Option Value).isSome=true) from aD)];refine ηB (wpAny_specialOf hT Ea ?_);dsimp only;rw[show splitId "list_reverseiterator.__length_hint__" = some ("list_reverseiterator", "__length_hint__") by kernel_rfl];dsimp only;refine ηB (wpAny_isInstance hT (b:=true) (by rw[isSubtype_type];kernel_rfl) ?_);rw[if_neg (show ¬ ((!true)=true) from aD)];refine wpAny_of_eq (a:=false) ?_ ?_
 ·first|rfl|kernel_rfl
 split
 ·rename_i z;exact absurd z (by decide +kernel)
 obtain⟨c0,hS⟩:=hS;refine ηP ⟨plainId_quiet F.plain_extend_loop _,?_⟩;refine codeAny_extend_loopS (Walks.toS (Walks.listRev (A:=A.in1) hh I l ne items)) hn S ?_ _ items.size 0 _ #[] c0 rfl (aB _) ?_ hS ?_ ?_
 ·intro z;rcases au.mp z with z|z
  ·exact nI z
  ·exact nl (a8.mp z)
 ·exact⟨aB _,by simpa using hr0,hl⟩
 ·exact⟨rfl,λj v z=>by simp at z⟩
 ·intro s' acc c M hg it;exact h s' acc c M hg it
theorem zN(hh:A.handled=none)(ne:l≠I)(hr:s.heap.IsRevIter I l ((items.size:Int)-1))(hl:s.heap.IsList l items)(hn:items.size<=sizeLine)
  (h:∀(s':Shared) (acc:Array Value),Moved [I] (λa b=>b=a) s s'->ItemsOf (λi v=>items[items.size-1-i]? = some v) acc items.size->Q acc.toList s'):wpAny (model prog w) A (collect (.ref I)) Q E s:=by
 have hI:I<s.heap.objs.size:=by
  obtain⟨o,h1,_⟩:=hr;exact ηL h1
 have hL:l<s.heap.objs.size:=by
  obtain⟨o,h1,_⟩:=hl;exact ηL h1
 unfold collect;refine ηB (wpAny_runValue (codeAny_builtin F.entry_proto_collect ?_));rw[Around.under_plainId F.plain_proto_collect _];unfold Builtin.«proto.collect»;dsimp only;unfold newList;refine ηB (wpAny_newObj_type ?_);refine ηP ⟨plainId_quiet F.plain_list_iadd _,codeAny_builtin F.entry_list_iadd ?_⟩;rw[Around.under_plainId F.plain_list_iadd _];have e0:∀{b:Addr} {o:Obj},s.heap.get? b=some o->(s.heap.push { cls:=.type "list",data:=.seq #[] }).get? b=some o:=λ{b o} e=>ηH _ e;unfold Builtin.«list.__iadd__»;refine ηB (wpAny_of_eq (a:=(Value.ref s.heap.objs.size,[Value.ref I])) (by first|rfl|kernel_rfl) ?_);dsimp only;obtain⟨o,h1,h2,h3⟩:=hr;obtain⟨o',g1,g2⟩:=hl;have hS:(s.heap.push { cls:=.type "list",data:=.seq #[] }).get? s.heap.objs.size=some { cls:=.type "list",data:=.seq #[] }:=ηG s.heap rfl;refine BH (R:=λr s'=>match r with
  | .ok (.ret v)=>wpAny (model prog w) A (match v with
   | .ref a=>do
    let o ← load a
    match o.data with
    | .seq xs _=>pure xs.toList
    | _=>unsupported "internal:collect"
   | _=>unsupported "internal:collect") Q E s'
  | .ok _=>False
  | .error e=>E e s') (s:={ s with heap:=s.heap.push { cls:=.type "list",data:=.seq #[] } }) (items:=items) hh ne (dH hI) (dH hL) ⟨o,e0 h1,h2,h3⟩ ⟨o',e0 g1,g2⟩ hn ⟨0,hS⟩ λs' acc c M hg it=>?_
 refine ηB (wpAny_load hg (ηP (h s' acc ⟨λb o hb e=>M.heap b o ?_ (e0 e),M.gens,M.drawn,M.os,M.toks⟩ it)));intro z;rcases au.mp z with z|z
 ·rw[z] at e;exact absurd (ηL e) (bB _)
 ·exact hb z
theorem xc(hh:A.handled=none)(ne:l≠I)(hr:s.heap.IsRevIter I l ((items.size:Int)-1))(hl:s.heap.IsList l items)(hn:items.size<=sizeLine)
  (h:∀(s':Shared) (acc:Array Value),Moved [I] (λa b=>b=a) s s'->ItemsOf (λi v=>items[items.size-1-i]? = some v) acc items.size->Q (.ref s'.heap.objs.size) { s' with heap:=s'.heap.push { cls:=.type "tuple",data:=.seq acc } }) :
  codeAny (model prog w) A (.call (.builtin "tuple.__new__") { pos:=[.type "tuple",.ref I] }) (wants Q E) s:=by
 have hT:s.TypeIs (.ref I) "list_reverseiterator" := by
  obtain⟨o,h1,h2,h3⟩:=hr;exact⟨o,h1,h2⟩
 refine codeAny_of_tree (ηB (wpAny_of_eq (F.newCall_tuple_1 (.ref I)) (ηP ⟨plainId_quiet F.plain_tuple_new _,codeAny_builtin F.entry_tuple_new ?_⟩)));rw[Around.under_plainId F.plain_tuple_new _];unfold Builtin.«tuple.__new__»;refine ηB (ηP (wpAny_ite_false rfl ?_));refine ηB (wpAny_of_eq sub_tuple_self (wpAny_ite_false rfl ?_));refine wpAny_ite_false rfl ?_;refine ηB (wpAny_of_eq madeHere_tuple ?_);refine ηB (wpAny_of_eq init_tuple_lookup (wpAny_ite_true rfl ?_));refine ηB (wpAny_ite_true rfl (ηP ?_));refine ηB ?_;unfold checkCount;refine wpAny_ite_false rfl (wpAny_ite_false rfl (wpAny_ite_false rfl (ηP ?_)));refine wpAny_ite_true rfl ?_;refine ηB ?_;unfold Builtin.Tuple.tupleIsExact;refine ηB (wpAny_typeOf hT (ηP (wpAny_ite_false rfl ?_)));refine ηB (zN (A:=A.in1) hh ne hr hl hn λs' acc M it=>?_);refine ηB (ηP ?_);have ea:acc.toList.toArray=acc:=by simp
 rw[ea];refine ηB ?_;unfold Builtin.Tuple.tupleExact;refine wpAny_newObj_type (data:=.seq acc) ?_ ?_
 ·exact ηP (h s' acc M it)
 ·show acc.size<=sizeLine;rw[it.1];exact hn
theorem xj(hh:A.handled=none)(ne:l≠I)(hr:s.heap.IsRevIter I l ((items.size:Int)-1))(hl:s.heap.IsList l items)(hn:items.size<=sizeLine)
  (h:∀(s':Shared) (acc:Array Value),Moved [I] (λa b=>b=a) s s'->ItemsOf (λi v=>items[items.size-1-i]? = some v) acc items.size->Q (.ref s'.heap.objs.size) { s' with heap:=s'.heap.push { cls:=.type "tuple",data:=.seq acc } }) :
  wpAny (model prog w) A (call (.type "tuple") [.ref I]) Q E s :=
 callType_codes (Q₁:=λobj s₁=>s₁.TypeIs obj "tuple" /\ Q obj s₁) F.called_tuple (F.typeCall_tuple_1 (.ref I)) F.entry_object_init
  (xc (A:=A.in1) hh ne hr hl hn λs' acc hm hacc=>⟨⟨_,ηG s'.1 rfl,rfl⟩,h s' acc hm hacc⟩)
  λobj s₁ h₁=>⟨h₁.left,F.args_object_init_2 obj (.ref I),object_init_meets F.called_tuple.init.lookup F.called_tuple.made (by decide) prog w A.in1 (wants (λr s₂=>r=Value.none/\Q obj s₂) E) s₁ ⟨h₁.left,rfl,h₁.right⟩⟩
theorem xu(hh:A.handled=none)(ne:l≠I)(hr:s.heap.IsRevIter I l ((items.size:Int)-1))(hl:s.heap.IsList l items)(hn:items.size<=sizeLine)
  (h:∀(s':Shared) (acc:Array Value) (c:Nat),(∀ b o,b≠I->s.heap.get? b=some o->s'.heap.get? b=some o)->s'.gens=s.gens->s'.drawn=s.drawn->s'.os=s.os->s'.heap.get? s.heap.objs.size=some { cls:=.type "list",data:=.seq acc c }->ItemsOf (λi v=>items[items.size-1-i]? = some v) acc items.size->Q (.ref s.heap.objs.size) s') :
  wpAny (model prog w) A (call (.type "list") [.ref I]) Q E s:=by
 have hI:I<s.heap.objs.size:=by
  obtain⟨o,h1,_⟩:=hr;exact ηL h1
 have hL:l<s.heap.objs.size:=by
  obtain⟨o,h1,_⟩:=hl;exact ηL h1
 refine callType_codes (Q₁:=λobj s₁=>obj = .ref s.heap.objs.size/\s₁ = { s with heap:=s.heap.push { cls:=.type "list",data:=.seq #[] } }) F.called_list (F.typeCall_list_1 (.ref I)) F.entry_list_init (code_list_new (.ref I) ⟨rfl,rfl⟩) λobj s₁ h₁=>?_;obtain⟨e1,e2⟩:=h₁;subst e1 e2;have e0:∀{b:Addr} {o:Obj},s.heap.get? b=some o->(s.heap.push { cls:=.type "list",data:=.seq #[] }).get? b=some o:=λ{b o} e=>ηH _ e;have hS:(s.heap.push { cls:=.type "list",data:=.seq #[] }).get? s.heap.objs.size=some { cls:=.type "list",data:=.seq #[] }:=ηG s.heap rfl;refine⟨⟨_,hS,rfl⟩,F.args_list_init_2 _ _,?_⟩;unfold Builtin.«list.__init__»;refine ηB (ηB (wpAny_seqItems hS rfl (ηP (ηB (wpAny_updateSeq hS rfl ?_ ?_ ?_)))))
 ·have hS2:=Heap.get?_update_self (Obj.mapSeq λx => #[]) hS rfl;have oth:=λ(b:Addr) (o:Obj) (hb:b≠s.heap.objs.size) (e:(s.heap.push { cls:=.type "list",data:=.seq #[] }).get? b=some o)=>Eq.trans (Heap.get?_update_other (s.heap.push { cls:=.type "list",data:=.seq #[] }) (Obj.mapSeq λx => #[]) (Ne.symm hb)) e;obtain⟨o,h1,h2,h3⟩:=hr;obtain⟨o',g1,g2⟩:=hl;refine ηB (wpAny_letGo ?_);refine BH (A:=A.in1) (items:=items) hh ne (Ne.symm (aY hI)) (Ne.symm (aY hL)) ⟨o,oth _ _ (aY hI) (e0 h1),h2,h3⟩ ⟨o',oth _ _ (aY hL) (e0 g1),g2⟩ hn ⟨_,hS2⟩ λs' acc c M hg it=>?_;refine⟨rfl,h s' acc c (λb o hb e=>M.heap b o ?_ (oth _ _ (aY (ηL e)) (e0 e))) ?_ ?_ ?_ hg it⟩
  ·intro z;rcases au.mp z with z|z
   ·rw[z] at e;exact absurd (ηL e) (bB _)
   ·exact hb (a8.mp z)
  ·exact M.gens
  ·exact M.drawn
  ·exact M.os
 ·rw[ao,sizeLine_eq];decide
 ·rw[ao,sizeLine_eq];decide
end
theorem Ft{h:Heap}{b:Addr}(hb:b≠h.objs.size)(e:(h.push o').get? b=some o):h.get? b=some o:=by
 unfold Heap.get? Heap.push at e;unfold Heap.get?;rw[Array.getElem?_push,if_neg hb] at e;exact e
section
variable{X:Cx}{a b:Expr}{ta:TA}{p p2 pos pos2:Pos}
def Fc(K:Frag)(ta:TA):TE:=λσ H Q=>ta σ H λvs H1=>∃(l:Addr) (xs:List V),vs=[.ref l]/\SqL K H1 l xs/\∀ q,H1 q=none->Q (.ref q) (tv H1 q (.tup xs.reverse))
theorem Cd(hg':Gl X "tuple")(hm':X.mg "tuple" = none)(hg:Gl X "reversed")(hm:X.mg "reversed" = none)(hc:X.calm=true)(ha:PA X [a] ta)(hs:starEach [a] X.env=[(false,eval a X.env)]) :
  PE X (.Call (.Name "tuple" p2) [.Call (.Name "reversed" p) [a] [] pos2] [] pos) (Fc X.K ta):=by
 intro pins s σ H Q I h;refine Call_ (tV I hg' hm' boot_tuple (PyProof.Rows.callWith_type1 ?_ rfl rfl));show wpAny _ _ (spliced ((false,eval (.Call (.Name "reversed" p) [a] [] pos2) X.env)::backTo pos [])) _ _ s;refine Calls.spliced_cons ?_;refine Call_ (tV I hg hm boot_reversed (PyProof.Rows.callWith_type1 (sS (ha pos2 pins s σ H _ I h) λus s2 ⟨vs,H2,I2,r2,l,xs,e,hq,q⟩=>?_) hs rfl));subst e;obtain⟨u,rfl,ru⟩:=Vals.one r2;cases ru;obtain⟨its,rv,pl,hz⟩:=I2.list hq;refine call_reversed_list pl.isList ?_;refine Calls.spliced_nil ?_;have I3:Inv X pins σ H2 { s2 with heap:=s2.heap.push (revObj l ((its.toArray.size:Int)-1)) }:=I2.kept (t':=s2.toks) λb o e=>ηH _ e;obtain⟨f0,f1,f2,f3,f4,f5⟩:uC X pins H2 s2.heap.objs.size:=I2.fpOk (af _) (I2.hok.fresh (af _));have hlen:=rv.length;have ne:l≠s2.heap.objs.size:=by
  obtain⟨ob,g1,_⟩:=pl.isList;exact aY (ηL g1)
 refine xj (l:=l) (items:=its.toArray) (I3.ok.hd hc) ne ⟨_,ηG _ rfl,rfl,rfl⟩ ?_ (by rw[ao];lia) λs' acc M it=>?_
 ·obtain⟨ob,g1,g2⟩:=pl.isList;exact⟨ob,ηH _ g1,g2⟩
 ·have ea:=xI it;obtain⟨m1,m2,m3,m4,m5⟩:=M;cases s';cases m2;cases m3;cases m4;have I4:=I3.turned (t':=‹Nat›) (λb o hb e=>m1 b o (by simpa using hb) e) f0 f1 f3 f4 f5;have rr:Vals xs.reverse acc.toList:=ea ▸ rv.reverse;have eacc:acc=acc.toList.toArray:=by simp
  refine⟨.ref _,_,I4.laid (t':=‹Nat›) (λb o e=>ηH _ e) (af _) (show ObjOk X.prog X.w _ _ _ (.tup xs.reverse) from⟨by rw[a5];exact hz,acc.toList,rr,?_⟩),rfl,q _ (I4.hok.fresh (af _))⟩;rw[eacc];exact IsTup.new _ _
def Ff(K:Frag)(ta:TA):TE:=λσ H Q=>ta σ H λvs H1=>∃(l:Addr) (xs:List V),vs=[.ref l]/\SqL K H1 l xs/\∀ q,H1 q=none->Q (.ref q) (tv H1 q (.lst xs.reverse))
theorem xD(hg':Gl X "list")(hm':X.mg "list" = none)(hg:Gl X "reversed")(hm:X.mg "reversed" = none)(hc:X.calm=true)(ha:PA X [a] ta)(hs:starEach [a] X.env=[(false,eval a X.env)]) :
  PE X (.Call (.Name "list" p2) [.Call (.Name "reversed" p) [a] [] pos2] [] pos) (Ff X.K ta):=by
 intro pins s σ H Q I h;refine Call_ (tV I hg' hm' boot_list (PyProof.Rows.callWith_type1 ?_ rfl rfl));show wpAny _ _ (spliced ((false,eval (.Call (.Name "reversed" p) [a] [] pos2) X.env)::backTo pos [])) _ _ s;refine Calls.spliced_cons ?_;refine Call_ (tV I hg hm boot_reversed (PyProof.Rows.callWith_type1 (sS (ha pos2 pins s σ H _ I h) λus s2 ⟨vs,H2,I2,r2,l,xs,e,hq,q⟩=>?_) hs rfl));subst e;obtain⟨u,rfl,ru⟩:=Vals.one r2;cases ru;obtain⟨its,rv,pl,hz⟩:=I2.list hq;refine call_reversed_list pl.isList ?_;refine Calls.spliced_nil ?_;have I3:Inv X pins σ H2 { s2 with heap:=s2.heap.push (revObj l ((its.toArray.size:Int)-1)) }:=I2.kept (t':=s2.toks) λb o e=>ηH _ e;obtain⟨f0,f1,f2,f3,f4,f5⟩:uC X pins H2 s2.heap.objs.size:=I2.fpOk (af _) (I2.hok.fresh (af _));have hlen:=rv.length;have ne:l≠s2.heap.objs.size:=by
  obtain⟨ob,g1,_⟩:=pl.isList;exact aY (ηL g1)
 refine xu (l:=l) (items:=its.toArray) (I3.ok.hd hc) ne ⟨_,ηG _ rfl,rfl,rfl⟩ ?_ (by rw[ao];lia) λs' acc c m1 m2 m3 m4 hg it=>?_
 ·obtain⟨ob,g1,g2⟩:=pl.isList;exact⟨ob,ηH _ g1,g2⟩
 ·have ea:=xI it;obtain⟨hp',gp',dp',tp',op'⟩:=s';dsimp only at m1 m2 m3 m4 hg;cases m2;cases m3;cases m4;have rr:Vals xs.reverse acc.toList:=ea ▸ rv.reverse;have eacc:acc=acc.toList.toArray:=by simp
  rw[eacc] at hg;generalize hh3:s2.heap.push (revObj l ((its.toArray.size:Int)-1))=h3 at *;have g3:h3.get? s2.heap.objs.size=some (revObj l ((its.toArray.size:Int)-1)):=by rw[← hh3];exact ηG _ rfl
  have hA0:s2.heap.objs.size≠h3.objs.size:=aY (ηL g3);have hL1:(h3.push { cls:=.type "list",data:=.seq acc.toList.toArray c }).get? h3.objs.size=some { cls:=.type "list",data:=.seq acc.toList.toArray c }:=ηG _ rfl;have fr:=I3.hok.fresh (af _);have I4:=I3.laid (a:=h3.objs.size) (o:=.lst xs.reverse) (t':=s2.toks) (h':=h3.push { cls:=.type "list",data:=.seq acc.toList.toArray c }) (λb o e=>ηH _ e) (af _) (show ObjOk X.prog X.w _ _ _ (.lst xs.reverse) from⟨by rw[a5];exact hz,acc.toList,c,rr,hL1⟩);have I5:=I4.turned (it:=s2.heap.objs.size) (h':=hp') (t':=tp') (λb o hb e=>?_) ?_ f1 f3 f4 f5
  ·exact⟨.ref _,_,I5,rfl,q _ fr⟩
  ·by_cases eb:b=h3.objs.size
   ·subst eb;rw[hL1] at e;cases e;exact hg
   ·exact m1 b o hb (Ft eb e)
  ·rw[sB hA0];exact f0
end
end L2
namespace Dp
open PySem L2
variable{K:Frag}{f:Addr}{O O':List Addr}{H H':Hp}{X:Cx}{σ:St}{ss:SS}{a b:Expr}{ta tb:TEd}{p p2 pos pos2:Pos}
def pZ(t:TEd):TEd:=⟨λss Q=>t.run ss λd=>∃ l,d = .lst l/\Q (.tup l.reverse),λh q=>t.mono (λd ⟨l,e,q⟩=>⟨l,e,h _ q⟩) q⟩
theorem pZ.ok(hg':Gl X "tuple")(hm':X.mg "tuple" = none)(hg:Gl X "reversed")(hm:X.mg "reversed" = none)(hc:X.calm=true)(ha:PE X a (LE X.K ta))(hs:starEach [a] X.env=[(false,eval a X.env)]) :
  PE X (.Call (.Name "tuple" p2) [.Call (.Name "reversed" p) [a] [] pos2] [] pos) (LE X.K (pZ ta)):=by
 refine (Cd hg' hm' hg hm hc (sy ha pa_nil hs) hs).weak λσ H Q ⟨f,O,ss,S,q⟩=>?_;refine⟨f,O,ss,S,ta.mono (λd q v H1 e r=>?_) q⟩;obtain⟨l,rfl,q⟩:=q;obtain⟨a,xs,rfl,n,h1,h2⟩:=r;have S1:=S.ex e;exact⟨a,xs,rfl,SqL.of h1,λq' hq=>q _ _ (e.trans (S1.new hq _)) (S1.tup hq h2.reverse)⟩
def lI(t:TEd):TEd:=⟨λss Q=>t.run ss λd=>∃ l,d = .lst l/\Q (.lst l.reverse),λh q=>t.mono (λd ⟨l,e,q⟩=>⟨l,e,h _ q⟩) q⟩
theorem lI.ok(hg':Gl X "list")(hm':X.mg "list" = none)(hg:Gl X "reversed")(hm:X.mg "reversed" = none)(hc:X.calm=true)(ha:PE X a (LE X.K ta))(hs:starEach [a] X.env=[(false,eval a X.env)]) :
  PE X (.Call (.Name "list" p2) [.Call (.Name "reversed" p) [a] [] pos2] [] pos) (LE X.K (lI ta)):=by
 refine (xD hg' hm' hg hm hc (sy ha pa_nil hs) hs).weak λσ H Q ⟨f,O,ss,S,q⟩=>?_;refine⟨f,O,ss,S,ta.mono (λd q v H1 e r=>?_) q⟩;obtain⟨l,rfl,q⟩:=q;obtain⟨a,xs,rfl,n,h1,h2⟩:=r;have S1:=S.ex e;exact⟨a,xs,rfl,SqL.of h1,λq' hq=>q _ _ (e.trans (S1.new hq _)) (S1.lst hq h2.reverse)⟩
theorem lI.okF(hg':Gl X "list")(hm':X.mg "list" = none)(hg:Gl X "reversed")(hm:X.mg "reversed" = none)(hc:X.calm=true)(ha:PE X a (LE X.K ta))(hs:starEach [a] X.env=[(false,eval a X.env)]) :
  PE X (.Call (.Name "list" p2) [.Call (.Name "reversed" p) [a] [] pos2] [] pos) (LF X.K (lI ta)):=by
 refine (xD hg' hm' hg hm hc (sy ha pa_nil hs) hs).weak λσ H Q ⟨f,O,ss,S,q⟩=>?_;refine⟨f,O,ss,S,ta.mono (λd q v H1 e r=>?_) q⟩;obtain⟨l0,rfl,q⟩:=q;obtain⟨l,el,q⟩:=q;cases el;obtain⟨a,xs,rfl,n,h1,h2⟩:=r;have S1:=S.ex e;exact⟨a,xs,rfl,SqL.of h1,λp hp=>q p _ _ (e.trans (S1.new hp _)) (e.low (λz=>S1.nO hp (z ▸ S1.fO)) hp) sD (Rps.skip S1 hp h2.reverse)⟩
def gTl(is:List Nat):TGd:=⟨is,λd ss Q=>match d with | .lst l=>l.length=is.length/\Q (vI ss is l)|_=>False,λ{d ss Q Q'} h q=>by
 revert q;cases d <;> first|exact id|exact λq=>⟨q.1,h _ q.2⟩⟩
theorem gTl.ok(h:PG X e (KD X.K is.length (gsAll is))):PG X e (LG X.K (gTl is)):=h.weak λv σ H Q ⟨f,O,ss,d,S,r,q⟩=>by
 cases d <;> first|exact False.elim q|skip
 rename_i l;obtain⟨p,xs,rfl,_,h1,h2⟩:=r;exact⟨p,xs,rfl,SqL.of h1,h2.len.trans q.1,gsAll.run (h2.len.trans q.1) (q.2 _ H (Ex.refl S.fl) (S.all h2) (Sub.all h2.len) (Agr.all λ_ h=>h))⟩
end Dp
namespace Dp
open PySem L2
variable{K:Frag}{X:Cx}{T:Tc}{pos p p2:Pos}{a b e:Expr}{E:FE}{F:FT}
theorem _root_.L2.PTs.weak(h:PTs X es t)(w:∀ σ H Q,t' σ H Q->t σ H Q):PTs X es t':=λpins s σ H Q I q=>h pins s σ H Q I (w σ H Q q)
end Dp
namespace Dp
open PySem L2
variable{P:Program}{w:World}{K:Frag}{mg:Str->Option Value}{base:Heap}
def wx(K:Frag):Sp:=λvs H Q _=>∃(a:Addr) (ns:List Int),vs=[.ref a]/\SqL K H a (ns.map V.int)/\ns.length<=63/\∀ f H',Same H H'->Fl H' f->H f=none->Q (.ref f) H'
def x9:Sp:=λvs H Q _=>∃(f:Addr) (m:Int),vs=[.ref f,.int m]/\Fl H f/\0<m/\Lt2 9000 m/\∀ d H',0<=d->d<m->Fl H' f->Sm f H H'->Q (.int d) H'
def Bb(K:Frag):Sp:=λvs H Q _=>∃(a:Addr) (ns:List Int),vs=[.ref a]/\SqL K H a (ns.map V.int)/\ns.length<=63/\∀ H',Q (.bl true) H'
def iq:SpB:=.of 2 (α:=Int) (λm ds=>ds=[.fl,.int m]/\0<m/\Lt2 9000 m) (λm d=>∃ i,d = .int i/\0<=i/\i<m)
theorem Cb(g:Def P w K mg base "_law_pick" k ps x9):Def P w K mg base "_law_pick" k ps (yM K iq.n iq.run):=by
 obtain⟨f,fd,F,r⟩:=g.ex;refine⟨f,fd,F.imp (λvs H Q E h=>?_),r⟩;obtain⟨hn,f,O,ds,fl,fO,al,lO,rp,m,⟨rfl,m0,m1⟩,q⟩:=h;obtain⟨v,v',rfl,e1,e2⟩:=Rps.two rp;cases (show v=_ from e1);cases (show v'=_ from e2);exact⟨f,m,rfl,fl,m0,m1,λd H' d0 d1 fl' sm=>q (.int d) ⟨d,rfl,d0,d1⟩ _ H' ⟨sm,fl'⟩ rfl⟩
end Dp
namespace Ca
open Cv
def rv(a:Nat)(f:Nat->Int):Nat->Int:=λj=>if j<=a then f (a-j) else 0
theorem Hh(hf:∀ j,a<j->f j=0)(hg:∀ j,b<j->g j=0)(hi:i<=a+b):cv f g (a+b-i)=cv (rv a f) (rv b g) i:=by
 have h1:tm f g (a+1) (a+b-i)=cv f g (a+b-i):=uD λj hj=>hf j ();have h2:tm (rv a f) (rv b g) (a+1) i=cv (rv a f) (rv b g) i:=uD λj hj=>if_neg ();rw[← h1,← h2];unfold tm;rw[Da (λj=>if j<=i then rv a f j*rv b g (i-j) else 0)];refine sF λj hj=>?_;show (if j<=a+b-i then f j*g (a+b-i-j) else 0)=if a+1-1-j<=i then rv a f (a+1-1-j)*rv b g (i-(a+1-1-j)) else 0;have e1:rv a f (a+1-1-j)=f j:=by
  unfold rv;rw[if_pos (),show a-(a+1-1-j)=j by lia]
 rw[e1];by_cases c:a+1-1-j<=i
 ·rw[if_pos c];unfold rv;by_cases d:i-(a+1-1-j)<=b
  ·rw[if_pos d,if_pos (),show b-(i-(a+1-1-j))=a+b-i-j by lia]
  ·rw[if_neg d,if_neg (),bP]
 ·rw[if_neg c,hg (a+b-i-j) (),bP];split <;> rfl
theorem yf(hf:∀ j,s<j->f j=0):∀ k j,k*s<j->pw f k j=0
 | 0,j,h=>if_neg ()
 | k+1,j,h=>by
  rw[bj] at h;exact tD (a:=k*s+1) (b:=s+1) (λi hi=>yf hf k i ()) (λi hi=>hf i ()) ()
theorem Bd(hf:∀ j,s<j->f j=0):∀ k i,i<=k*s->pw f k (k*s-i)=pw (rv s f) k i
 | 0,i,h=>by
  rw[show i=0 by lia];show pw f 0 (0*s-0)=_;rw[eJ];rfl
 | k+1,i,h=>by
  show cv (pw f k) f ((k+1)*s-i)=cv (pw (rv s f) k) (rv s f) i;rw[bj] at h ⊢;rw[Hh (λj hj=>yf hf k j hj) hf h];refine xQ (λj hj=>?_) λ_ _=>rfl;unfold rv;by_cases c:j<=k*s
  ·rw[if_pos c];exact Bd hf k j c
  ·rw[if_neg c];exact (yf (s:=s) (λj hj=>if_neg ()) k j ()).symm
theorem GJ(h:∀ j,j<=n->f j=g j):∀ k j,j<=n->pw f k j=pw g k j
 | 0,_,_=>rfl
 | k+1,j,hj=>xQ (λi hi=>GJ h k i ()) λi hi=>h i ()
theorem yh(f:Nat->Int)(c:Int):∀ k j,pw (λi=>f i*c^i) k j=pw f k j*c^j
 | 0,j=>by
  show (if j=0 then (1:Int) else 0)=(if j=0 then 1 else 0)*c^j;split
  ·rw[‹j=0›,aP,bx]
  ·rw[ax]
 | k+1,j=>by
  show cv (pw (λi=>f i*c^i) k) (λi=>f i*c^i) j=cv (pw f k) f j*c^j;unfold cv;rw[← um];refine sF λi hi=>?_;rw[yh f c k i];have:c^j=c^i*c^(j-i):=by rw[← bS,show i+(j-i)=j by lia]
  rw[this];grind
theorem Do(f:Nat->Int)(c:Int):∀ k j,pw (λi=>f i*c) k j=pw f k j*c^k
 | 0,j=>by rw[aP,bx];rfl
 | k+1,j=>by
  show cv (pw (λi=>f i*c) k) (λi=>f i*c) j=cv (pw f k) f j*c^(k+1);unfold cv;rw[← um];refine sF λi hi=>?_;rw[Do f c k i,a6];grind
theorem Be(g:Nat->Int):∀ k,pw g k=Pc.cp g k
 | 0=>rfl
 | k+1=>by show cv (pw g k) g=_;rw[Be g k];rfl
theorem zC(hE:∀ j,0<j->E.getD j 0=0)(j:Nat):cv (fn R) (fn E) j=R.getD j 0*E.getD 0 0:=by
 rw[tL];have:tm (fn E) (fn R) 1 j=cv (fn E) (fn R) j:=uD λi hi=>hE i ();rw[← this];show sm _ 1=_;rw[sm,sm,if_pos (aB _),bO,bA,bo];rfl
end Ca
namespace Pc
open Cv
theorem yA(hf:∀ j,a<j->f j=0)(hg:∀ j,b<j->g j=0):cv f g (a+b)=f a*g b:=by
 have:=Ca.Hh (i:=0) hf hg (aB _);rw[bA,Ca.AT] at this;rw[this];unfold Ca.rv;rw[if_pos (aB _),if_pos (aB _),bA,bA]
theorem xa(hg:∀ j,d<j->g j=0):∀ n,cp g n (n*d)=g d^n
 | 0=>by rw[eJ,aP];rfl
 | n+1=>by
  rw[bj];show cv (cp g n) g (n*d+d)=_;rw[yA (λj hj=>wj (m:=d+1) (λk hk=>hg k ()) n j (by show n*d+1<=j;lia)) hg,xa hg n,a6]
theorem Of.deg_eq(hB:0<B)(hU:0<U)(h:Of P B G U R C)(lp:P.length=n+1)(lg:G.length=d+1)(d1:1<=d)(tp:P.getD n 0≠0)(tg:G.getD d 0≠0):R.length=n*d+1:=by
 have up:=h.deg hB hU;rw[lp,lg] at up;have up':R.length<=n*d+1:=up;rcases aw (n*d) R.length with c|c
 ·lia
 ·exfalso;have e:=h.2 (n*d);have z:R.getD (n*d) 0=0:=by
   rw[ac,bt c];rfl
  rw[z,ax,lp] at e;have hg:∀ k,d<k->fn G k=0:=λk hk=>sx ();have p0:pc (fn P) (fn G) U n (n*d)=0:=by
   cases n with
   | zero=>rfl
   | succ n=>exact we (m:=d+1) (λk hk=>hg k ()) (n+1) _ (by show n*d+1<=(n+1)*d;rw[bj];lia)
  have e2:pc (fn P) (fn G) U (n+1) (n*d)=fn P n*fn G d^n*U:=by
   show (pc (fn P) (fn G) U n (n*d)+fn P n*cp (fn G) n (n*d))*U=_;rw[p0,bO,xa hg]
  rw[e2] at e;have c0:=h.1.pos;have:fn P n*fn G d^n*U*C≠0:=bh (bh (bh tp (bu tg)) (am hU)) (am c0);exact this e.symm
end Pc
namespace Dp
open PySem L2
def pD(P:List Int)(B:Int):D:=.tup [.tup (P.map .int),.int B]
def fD(t b:Int):D:=.tup [.int t,.int b]
theorem tz:2<=sizeLine:=by rw[sizeLine_eq];decide
theorem xn:1<=sizeLine:=by rw[sizeLine_eq];decide
theorem tP(h:n<=16777216):n<=sizeLine:=by rw[sizeLine_eq];exact h
theorem Nv{c:Bool}{A B:Prop}(h1:c=true->A)(h2:c=false->B):if c=true then A else B:=by
 cases c
 ·exact h2 rfl
 ·exact h1 rfl
theorem v8{p:Prop}[Decidable p]{A B:Prop}(h1:p->A)(h2:¬ p->B):if decide p=true then A else B:=by
 by_cases c:p
 ·rw[if_pos (decide_eq_true c)];exact h1 c
 ·rw[if_neg (by simpa using c)];exact h2 c
theorem Nu{p:Prop}[Decidable p]{A B:Prop}(h1:¬ p->A)(h2:p->B):if (!decide p)=true then A else B:=by
 by_cases c:p
 ·rw[if_neg (by simpa using c)];exact h2 c
 ·rw[if_pos (by simpa using c)];exact h1 c
theorem sV{α:Type}{fs:List α}{i:Nat}{f d:α}(h:fs[i]? = some f):fs.getD i d=f:=by
 rw[ac,h];rfl
theorem sk{α:Type}{fs:List α}{i:Nat}{d:α}(h:fs.length<=i):fs.getD i d=d:=by
 rw[ac,bt h];rfl
theorem wQ{ts:List Int}{i:Nat}{x:D}(h:(ts.map D.int)[i]? = some x):i<ts.length/\x = .int (ts.getD i 0):=by
 rw[aR] at h;obtain⟨z,hz,rfl⟩:=ab.mp h;rw[sV hz];exact⟨(ak.mp hz).1,rfl⟩
theorem sY{ts:List Int}{i:Nat}(h:i<ts.length):(ts.map D.int)[i]? = some (.int (ts.getD i 0)):=by
 rw[aR,ac,aq h];rfl
theorem tU{ts:List Int}{i:Nat}(h:i<ts.length):ts.take (i+1)=ts.take i++[ts.getD i 0]:=by
 rw[List.take_succ_eq_append_getElem h,ac,aq h];rfl
theorem By(b:Nat)(ts:List Int)(t:Int):Po.gl b (ts++[t])=Nat.gcd (Po.gl b ts) t.natAbs:=by
 unfold Po.gl;rw[gZ];rfl
theorem Gp{α:Type}(xs:List α)(x:α):wl (xs++[x]) (-1)=some x:=by
 unfold wl y4;rw[if_neg (),if_pos (by rw[aj];simp;lia)];show (xs++[x])[(-1+((xs++[x]).length:Int)).toNat]? = _;rw[aj,az (by simp;lia)];have:(-1+((xs.length+[x].length:Nat):Int)).toNat-xs.length=0:=by simp;lia
 rw[this];rfl
theorem sO{l:List D}{n:Nat}{d:D}(h:l[n]? = some d)(q:Q d):itD l (n:Int) Q:=by
 unfold itD;rw[ua h];exact q
theorem tI(h:wl l i=some d)(q:Q d):itD l i Q:=by
 unfold itD;rw[h];exact q
def mI{α:Type}(F:α->Int)(ts:List α):Nat->List D->Prop:=λi ys=>ys=((ts.take i).map F).map D.int
theorem mI.nil{α:Type}{F:α->Int}{ts:List α}:mI F ts 0 []:=rfl
theorem mI.snoc{α:Type}{F:α->Int}{ts:List α}{i:Nat}{ys:List D}{t:α}{z:Int}(h:mI F ts i ys)(ht:ts[i]? = some t)(hz:z=F t):mI F ts (i+1) (ys++[.int z]):=by
 unfold mI at h ⊢;rw[h,hz,List.take_add_one,ht,aM,aM];rfl
theorem mI.all{α:Type}{F:α->Int}{ts:List α}{n:Nat}{ys:List D}(h:mI F ts n ys)(hn:n=ts.length):ys=(ts.map F).map D.int:=by
 unfold mI at h;rw[h,hn,bW]
theorem wg{ts:List Int}{i:Nat}{x:D}(h:(ts.map D.int)[i]? = some x):∃ z,ts[i]? = some z/\x = .int z:=by
 rw[aR] at h;obtain⟨z,hz,rfl⟩:=ab.mp h;exact⟨z,hz,rfl⟩
def oU:TSd:=(dSq (jb (iL (iR .NotEq (ij 1) (iκ 0)))
 (kT [] 0 1 (ij 1) (ip .Mod (ij 0) (ij 1))))
 (iE [] (dB bAbs bAbs.mono (ii (ij 0) il))))
def jI:SpB:=.of 2 (α:=Int×Int) (λx ds=>ds=[.int x.1,.int x.2]) (λx d=>d = .int (Fr.cp x.1 x.2))
theorem uv(x:Int):(if x<0 then -x else x)=((x.natAbs:Nat):Int):=by split <;> lia
theorem mZ:Does 2 oU jI:=by
 rintro ds Q hn ⟨⟨a,b⟩,rfl,q⟩;refine⟨λs=>∃ a' b':Int,s=[.val (.int a'),.val (.int b')]/\Int.gcd a' b'=Int.gcd a b,λs=>match s with|[_,.val (.int b')]=>b'.natAbs|_=>0,⟨a,b,rfl,rfl⟩,?_⟩;rintro _ ⟨a',b',rfl,hg⟩;refine Nu (p:=b'=0) (λc=>?_) (λc=>?_)
 ·exact⟨c,⟨b',a'.fmod b',rfl,by rw[Fr.Eg];exact hg⟩,Fr.BF a' b' c⟩
 ·subst c;refine q _ ?_;show D.int (if a'<0 then -a' else a') = .int (Fr.cp a b);unfold Fr.cp;rw[uv,← hg,Int.gcd_zero_right]
def om:TSd:=(dSq (kT [] 0 1 (dB bAbs bAbs.mono (ii (ij 0) il)) (dB bAbs bAbs.mono (ii (ij 1) il)))
 (dSq (jb (mF (ij 1))
 (kT [] 0 1 (ij 1) (ip .Mod (ij 0) (ij 1))))
 (iE [] (ij 0))))
def iY:SpB:=.of 2 (α:=Int×Int) (λx ds=>ds=[.int x.1,.int x.2]) (λx d=>d = .int (Fr.cp x.1 x.2))
theorem mH:Does 2 om iY:=by
 rintro ds Q hn ⟨⟨a,b⟩,rfl,q⟩;show (dSq (jb _ _) _).run _ [.vi (if a<0 then -a else a),.vi (if b<0 then -b else b)];rw[uv,uv];refine⟨λs=>∃ a' b':Nat,s=[.val (.int a'),.val (.int b')]/\Nat.gcd a' b'=Int.gcd a b,λs=>match s with|[_,.val (.int b')]=>b'.natAbs|_=>0,⟨a.natAbs,b.natAbs,rfl,rfl⟩,?_⟩;rintro _ ⟨a',b',rfl,hg⟩;refine Nv (c:=((b':Int) != 0)) (λc=>?_) (λc=>?_)
 ·have c':b'≠0:=by
   intro z;subst z;simp at c
  refine⟨(),⟨b',a'%b',?_,by rw[gG,← Nat.gcd_rec,gG];exact hg⟩,?_⟩
  ·show [SD.val (.int b'),.vi ((a':Int).fmod b')]=_;rw[gy _ ()];rfl
  ·show ((a':Int).fmod b').natAbs<(b':Int).natAbs;exact Fr.BF _ _ ()
 ·have c':b'=0:=by
   have:((b':Int)=0):=by simpa using c
   lia
  subst c';refine q _ ?_;show D.int a' = .int (Fr.cp a b);unfold Fr.cp;rw[← hg,Nat.gcd_zero_right]
def nS:TSd:=(dSq (ir [] (gNm 2) (io jI (ii (ij 0) (ii (ij 1) il))))
 (dSq (dIf [] (iL (iR .Lt (ij 1) (iκ 0)))
 (ir [] (gNm 2) (ip .Sub (iκ 0) (ij 2)))
 iT)
 (iE [] (iA (ii (ip .FloorDiv (ij 0) (ij 2)) (ii (ip .FloorDiv (ij 1) (ij 2)) il))))))
def iF:SpB:=.of 2 (α:=Int×Int) (λx ds=>ds=[.int x.1,.int x.2]/\x.2≠0/\Lt2 9000000 x.2) (λx d=>d=fD (Fr.top x.1 x.2) (Fr.bot x.1 x.2))
theorem lJ:Does 3 nS iF:=by
 rintro ds Q hn ⟨⟨a,b⟩,⟨rfl,h0,hl⟩,q⟩;refine⟨rfl,(a,b),rfl,?_⟩;rintro _ rfl;have fin:∀ p:Int,p=Fr.uZ a b->uA a p/\uA b p/\2<=sizeLine/\Q (.tup [.int (a.fdiv p),.int (b.fdiv p)]):=by
  rintro p rfl;have c:∀ x,uA x (Fr.uZ a b):=λx=>⟨Fr.Bj h0,9000000,hl.le (Fr.Bm h0),by decide⟩;exact⟨c _,c _,tz,q _ rfl⟩
 refine v8 (p:=b<0) (λc=>?_) (λc=>?_)
 ·exact fin _ (by unfold Fr.uZ;rw[if_pos c];simp)
 ·exact fin _ (by unfold Fr.uZ;rw[if_neg c])
theorem zr{ts:List Int}{k:Nat}(h:k<ts.length):(((ts.take (k+1)).map D.int)).dropLast=(ts.take k).map D.int:=by
 rw[tU h,aM];exact gO
theorem dSq.cut(R:SS->Prop)(h1:t.run (E.to R) ss)(h2:∀ s,R s->u.run E s):(dSq t u).run E ss:=t.mono (E:=E.to R) (E':=E.to (u.run E)) ⟨h2,λ_ z=>z,λ_ z=>z,λ_ z=>z⟩ h1
def oV:TSd:=(iE [0] (iA (ii (dB bTuple bTuple.mono (ii (iW (jc (ij 0)) [3] (gNm 3) jh (ip .FloorDiv (ij 3) (ij 2))) il)) (ii (ip .FloorDiv (ij 1) (ij 2)) il))))
def oW:TSd:=dSq (iX [0] (jc (ij 0)) (gNm 3)
 (ir [] (gNm 2) (io jI (ii (ij 2) (ii (ij 3) il)))))
 oV
def oX:TSd:=dSq (ir [] (gNm 2) (ij 1))
 oW
def lY:TSd:=dSq (jb (jw (iL (iR .Gt (lE 0) (iκ 0))) (iL (iR .Eq (j6 0 (jR (iκ 1))) (iκ 0))))
 (rf 0))
 oX
def qu:TSd:=dSq (jY [0] 0 (jC (ij 0)))
 lY
def iD:SpB:=.of 2 (α:=List Int×Int) (λx ds=>(ds=[.lst (x.1.map .int),.int x.2]\/ds=[.tup (x.1.map .int),.int x.2])/\0<x.2/\Lt2 9000000 x.2/\x.1.length<=1000)
 (λx d=>∃ P B,d=pD P B/\Po.Fm P B/\(∀ k,P.getD k 0*x.2=x.1.getD k 0*B)/\P.length<=x.1.length)
theorem on:Does 4 qu iD:=by
 rintro ds Q hn ⟨⟨ts,b⟩,⟨hd,hb,hl,hz⟩,q⟩;dsimp only at hd hb hl hz q;have sl:(1000:Nat)<=sizeLine:=by rw[sizeLine_eq];decide
 suffices h:lY.run (sH Q) [.own (ts.map .int),.vi b,.no,.no] by
  rcases hd with rfl|rfl
  ·exact h
  ·exact h
 refine dSq.cut (λs=>∃ m:Nat,s=[.own ((ts.take m).map .int),.vi b,.no,.no]/\m<=ts.length/\(∀ j,m<=j->ts.getD j 0=0)/\(m=0\/ts.getD (m-1) 0≠0)) ?_ ?_
 rotate_left
 ·rintro _ ⟨m,rfl,hm,h0,hlast⟩;obtain⟨fm,wr⟩:=Po.form hb hm h0 hlast;have bn:((b.natAbs:Nat):Int)=b:=by lia
  refine⟨λi s=>∃ o,s=[.val (.lst ((ts.take m).map .int)),.vi b,.val (.int ((Po.gl b.natAbs ((ts.take m).take i):Nat):Int)),o],⟨.no,?_⟩,?_,?_⟩
  ·show [SD.val _,.vi b,.vi b,.no]=[SD.val _,.vi b,.vi ((b.natAbs:Nat):Int),.no];rw[bn]
  ·rintro i d s hd ⟨o,rfl⟩;obtain⟨hi,rfl⟩:=wQ hd;refine⟨rfl,(_,_),rfl,?_⟩;rintro _ rfl;refine⟨.vi ((ts.take m).getD i 0),?_⟩;rw[tU hi,By];rfl
  ·rintro s ⟨o,rfl⟩;rw[aa,bW];have g0:0<Po.gl b.natAbs (ts.take m):=Po.AF () _;have gle:Po.gl b.natAbs (ts.take m)<=b.natAbs:=cw () (Po.wU _ _).1;generalize Po.gl b.natAbs (ts.take m)=g at *;have cd:∀ x:Int,uA x (g:Int):=λx=>⟨(),9000000,hl.le (by rw[bc];exact gle),by decide⟩;refine⟨by rw[aa,bg];lia,mI (λz=>z.fdiv (g:Int)) (ts.take m),mI.nil,λi d ys hd _ hy=>?_,λys _ hy=>?_⟩
   ·obtain⟨z,hz,rfl⟩:=wg hd;exact⟨cd _,hy.snoc hz rfl⟩
   ·cases hy.all (by rw[aa]);exact⟨cd _,tz,q _ ⟨_,_,rfl,fm,wr,by rw[aa,bg];lia⟩⟩
 ·refine⟨λs=>∃ m:Nat,s=[.own ((ts.take m).map .int),.vi b,.no,.no]/\m<=ts.length/\∀ j,m<=j->ts.getD j 0=0,λs=>match s with | .own l::_=>l.length|_=>0,⟨ts.length,by rw[bW],af _,λj hj=>sk hj⟩,?_⟩;rintro _ ⟨m,rfl,hm,h0⟩;have lm:((ts.take m).map D.int).length=m:=by rw[aa,bg];lia
  refine v8 (p:=(0:Int)<(((ts.take m).map D.int).length:Nat)) (λc=>?_) (λc=>?_)
  ·rw[lm] at c;obtain⟨k,rfl⟩:∃ k,m=k+1:=⟨m-1,()⟩;have hk:k<ts.length:=by lia
   have la:wl ((ts.take (k+1)).map D.int) (-1)=some (.int (ts.getD k 0)):=by
    rw[tU hk,aM];exact Gp _ _
   refine tI la (v8 (p:=ts.getD k 0=0) (λz=>?_) (λz=>?_))
   ·refine⟨λe=>?_,⟨k,?_,(),λj hj=>?_⟩,?_⟩
    ·rw[e] at lm;cases lm
    ·show [SD.own _,_,_,_]=_;rw[zr hk]
    ·rcases bN hj with w|w
     ·rw[← w];exact z
     ·exact h0 j w
    ·show (((ts.take (k+1)).map D.int)).dropLast.length<((ts.take (k+1)).map D.int).length;rw[zr hk,lm,aa,bg];lia
   ·exact⟨k+1,rfl,hm,h0,.inr z⟩
  ·rw[lm] at c;exact⟨m,rfl,hm,h0,.inl ()⟩
theorem vo{ts:List Int}{i k:Nat}{z:Int}(h:i<ts.length):(ts.set i z).getD k 0=if k=i then z else ts.getD k 0:=by
 rw[ac,ac,aQ];by_cases e:i=k
 ·subst e;rw[if_pos rfl,if_pos h,if_pos rfl];rfl
 ·rw[if_neg e,if_neg (Ne.symm e)]
theorem map_set{ts:List Int}{i:Nat}{z:Int}:(ts.map D.int).set i (.int z)=(ts.set i z).map D.int:=by
 rw[List.map_set]
theorem xA{ts:List Int}{i k:Nat}(h:i<ts.length):(ts.take (i+1)).getD k 0=(ts.take i).getD k 0+(if k=i then ts.getD i 0 else 0):=by
 rw[tU h];by_cases e:k=i
 ·subst e;rw[if_pos rfl,sk (fs:=ts.take k) (by rw[bg];lia)];have:(ts.take k++[ts.getD k 0]).getD k 0=ts.getD k 0:=sV (by rw[az (by rw[bg];lia),bg,dF (),a9];rfl);rw[this,bO]
 ·rw[if_neg e,bQ,← tU h,ac,ac,dJ,dJ];by_cases c:k<i
  ·rw[if_pos c,if_pos ()]
  ·rw[if_neg c,if_neg ()]
theorem tj(n:Nat):(List.replicate n [D.int 0]).flatten=(List.replicate n (0:Int)).map D.int:=by
 induction n with
 | zero=>rfl
 | succ n ih=>rw[bF,bY,ih,bF];rfl
theorem wC(n k:Nat):(List.replicate n (0:Int)).getD k 0=0:=by
 rw[ac,dh];split <;> rfl
theorem tK{ts:List Int}{i:Nat}{d:D}(h:(t8 (ts.map D.int))[i]? = some d):i<ts.length/\d = .tup [.int (i:Nat),.int (ts.getD i 0)]:=by
 obtain⟨x,hx,rfl⟩:=vS h;obtain⟨hi,rfl⟩:=wQ hx;exact⟨hi,rfl⟩
theorem wn(h:n<l.length)(q:Q n):atD l (.int (n:Nat)) Q:=by
 unfold atD;dsimp only;have:y4 l.length (n:Int)=some n:=by
  unfold y4;rw[if_pos (),if_pos ()];rfl
 rw[this];exact q
def p6:TSd:=(iE [3] (io iD (ii (ij 3) (ii (ip .Mult (dIx (ij 0) (iκ 1)) (dIx (ij 1) (iκ 1))) il))))
def p8:TSd:=dSq (iX [] (jg (dIx (ij 1) (iκ 0))) (gTp [4,5])
 (jW [] 3 (ij 4) (ip .Add (j6 3 (ij 4)) (ip .Mult (ij 5) (dIx (ij 0) (iκ 1))))))
 p6
def j7:TSd:=dSq (iX [] (jg (dIx (ij 0) (iκ 0))) (gTp [4,5])
 (jW [] 3 (ij 4) (ip .Add (j6 3 (ij 4)) (ip .Mult (ij 5) (dIx (ij 1) (iκ 1))))))
 p8
def j8:TSd:=dSq (jY [] 3 (ip .Mult (iN (ii (iκ 0) il)) (ij 2)))
 j7
def qV:TSd:=dSq (ir [] (gNm 2) (dB bMax bMax.mono (ii (dB bLen bLen.mono (ii (dIx (ij 0) (iκ 0)) il)) (ii (dB bLen bLen.mono (ii (dIx (ij 1) (iκ 0)) il)) il))))
 j8
def iS:SpB:=.of 2 (α:=List Int×Int×List Int×Int×Nat×Nat×Nat×Nat) (λ(P,B,P',B',n,b,m,c) ds=>ds=[pD P B,pD P' B']/\Pc.Pz n b P B/\Pc.Pz m c P' B'/\b+c<=9000000/\n+m<=9000000/\P.length<=900/\P'.length<=900)
 (λ(P,B,P',B',n,b,m,c) d=>∃ R C,d=pD R C/\Po.Fm R C/\∀ k,R.getD k 0*(B*B')=(P.getD k 0*B'+P'.getD k 0*B)*C)
theorem oY:Does 6 qV iS:=by
 rintro ds Q hn ⟨⟨P,B,P',B',n,b,m,c⟩,⟨rfl,G1,G2,hb,hm,l1,l2⟩,q⟩;dsimp only at G1 G2 hb hm l1 l2 q;have sl:(1000:Nat)<=sizeLine:=by rw[sizeLine_eq];decide
 have p1:=G1.fm.pos;have p2:=G2.fm.pos;obtain⟨M,hM⟩:∃ M:Nat,M=max P.length P'.length:=⟨_,rfl⟩;have lb1:=G1.bot;have lb2:=G2.bot;suffices h:j7.run (sH Q) [.val (pD P B),.val (pD P' B'),.vi M,.own ((List.replicate M (0:Int)).map .int),.no,.no] by
  have e0:(if ((P'.map D.int).length:Int) > ((P.map D.int).length:Nat) then ((P'.map D.int).length:Int) else ((P.map D.int).length:Nat))=(M:Nat):=by
   rw[aa,aa];split <;> lia
  suffices h1:j8.run (sH Q) [.val (pD P B),.val (pD P' B'),.vi M,.no,.no,.no] by
   show j8.run (sH Q) [.val (pD P B),.val (pD P' B'),.vi (if ((P'.map D.int).length:Int) > ((P.map D.int).length:Nat) then ((P'.map D.int).length:Int) else ((P.map D.int).length:Nat)),.no,.no,.no];rw[e0];exact h1
  refine⟨by rw[sizeLine_eq];decide,(),(),by show 1*M<=_;lia,?_⟩;show j7.run (sH Q) [.val (pD P B),.val (pD P' B'),.vi M,.own (List.replicate M [D.int 0]).flatten,.no,.no];rw[tj];exact h
 refine⟨λi s=>∃ F:List Int,∃ o o':SD,s=[.val (pD P B),.val (pD P' B'),.vi M,.own (F.map .int),o,o']/\F.length=M/\∀ k,F.getD k 0=(P.take i).getD k 0*B',⟨_,_,_,rfl,aI,λk=>by rw[wC,dI];simp⟩,?_,?_⟩
 ·rintro i d _ hd ⟨F,o,o',rfl,hF,hf⟩;obtain⟨hi,rfl⟩:=tK hd;have hiF:i<F.length:=by lia
  refine⟨rfl,sO (sY hiF) ⟨⟨n,c,G1.tops i,lb2,()⟩,wn (by rw[aa];exact hiF) ⟨F.set i (F.getD i 0+P.getD i 0*B'),.vi (i:Nat),.vi (P.getD i 0),?_,by rw[aS];exact hF,λk=>?_⟩⟩⟩
  ·show [SD.val _,.val _,.val _,.own ((F.map D.int).set i (.int (F.getD i 0+P.getD i 0*B'))),_,_]=_;rw[map_set]
  ·rw[vo hiF,xA hi];by_cases e:k=i
   ·subst e;rw[if_pos rfl,if_pos rfl,hf,e6]
   ·rw[if_neg e,if_neg e,hf,bQ]
 ·rintro _ ⟨F,o,o',rfl,hF,hf⟩;rw[sM,aa,bW] at hf;refine⟨λi s=>∃ F:List Int,∃ o o':SD,s=[.val (pD P B),.val (pD P' B'),.vi M,.own (F.map .int),o,o']/\F.length=M/\∀ k,F.getD k 0=P.getD k 0*B'+(P'.take i).getD k 0*B,⟨F,_,_,rfl,hF,λk=>by rw[hf,dI];simp⟩,?_,?_⟩
  ·rintro i d _ hd ⟨F,o,o',rfl,hF,hf⟩;obtain⟨hi,rfl⟩:=tK hd;have hiF:i<F.length:=by lia
   refine⟨rfl,sO (sY hiF) ⟨⟨m,b,G2.tops i,lb1,()⟩,wn (by rw[aa];exact hiF) ⟨F.set i (F.getD i 0+P'.getD i 0*B),.vi (i:Nat),.vi (P'.getD i 0),?_,by rw[aS];exact hF,λk=>?_⟩⟩⟩
   ·show [SD.val _,.val _,.val _,.own ((F.map D.int).set i (.int (F.getD i 0+P'.getD i 0*B))),_,_]=_;rw[map_set]
   ·rw[vo hiF,xA hi];by_cases e:k=i
    ·subst e;rw[if_pos rfl,if_pos rfl,hf,e6,Int.add_assoc]
    ·rw[if_neg e,if_neg e,hf,bQ]
  ·rintro _ ⟨F,o,o',rfl,hF,hf⟩;rw[sM,aa,bW] at hf;refine⟨⟨b,c,lb1,lb2,()⟩,rfl,(F,B*B'),⟨.inl rfl,ay p1 p2,(lb1.mul lb2).mono hb,by show F.length<=1000;lia⟩,?_⟩;rintro _ ⟨R,C,rfl,fm,hw,_⟩;exact q _ ⟨R,C,rfl,fm,λk=>by rw[hw k,hf k]⟩
def oo:TSd:=(iE [2] (io iD (ii (ij 2) (ii (ip .Mult (dIx (ij 0) (iκ 1)) (dIx (ij 1) (iκ 1))) il))))
def jJ:TSd:=dSq (iX [] (jg (dIx (ij 0) (iκ 0))) (gTp [3,4])
 (iX [] (jg (dIx (ij 1) (iκ 0))) (gTp [5,6])
 (jW [] 2 (ip .Add (ij 3) (ij 5)) (ip .Add (j6 2 (ip .Add (ij 3) (ij 5))) (ip .Mult (ij 4) (ij 6))))))
 oo
def p9:TSd:=dSq (jY [] 2 (ip .Mult (iN (ii (iκ 0) il)) (ip .Add (dB bLen bLen.mono (ii (dIx (ij 0) (iκ 0)) il)) (dB bLen bLen.mono (ii (dIx (ij 1) (iκ 0)) il)))))
 jJ
def iz:SpB:=.of 2 (α:=List Int×Int×List Int×Int×Nat×Nat×Nat×Nat) (λ(P,B,P',B',n,b,m,c) ds=>ds=[pD P B,pD P' B']/\Pc.Pz n b P B/\Pc.Pz m c P' B'/\b+c<=9000000/\n+m<=9000000/\P.length<=450/\P'.length<=450)
 (λ(P,B,P',B',n,b,m,c) d=>∃ R C,d=pD R C/\Po.Fm R C/\∀ k,R.getD k 0*(B*B')=Cv.cv (Cv.fn P) (Cv.fn P') k*C)
theorem nV:Does 7 p9 iz:=by
 rintro ds Q hn ⟨⟨P1,B1,P2,B2,n,b,m,c⟩,⟨rfl,G1,G2,hb,hm,l1,l2⟩,q⟩;dsimp only at G1 G2 hb hm l1 l2 q;have sl:(1000:Nat)<=sizeLine:=by rw[sizeLine_eq];decide
 have p1:=G1.fm.pos;have p2:=G2.fm.pos;suffices h:jJ.run (sH Q) [.val (pD P1 B1),.val (pD P2 B2),.own ((List.replicate (P1.length+P2.length) (0:Int)).map .int),.no,.no,.no,.no] by
  have e0:(((P1.map D.int).length:Nat):Int)+((P2.map D.int).length:Nat)=((P1.length+P2.length:Nat):Int):=by
   rw[aa,aa];lia
  refine⟨xn,?_,?_,?_,?_⟩
  ·rw[e0];lia
  ·rw[e0];lia
  ·rw[e0];show 1*(P1.length+P2.length)<=_;lia
  ·show jJ.run (sH Q) [.val (pD P1 B1),.val (pD P2 B2),.own (List.replicate ((((P1.map D.int).length:Nat):Int)+((P2.map D.int).length:Nat)).toNat [D.int 0]).flatten,.no,.no,.no,.no];rw[e0,aJ,tj];exact h
 refine⟨λi s=>∃(rs:List Int) (o3 o4 o5 o6:SD),s=[.val (pD P1 B1),.val (pD P2 B2),.own (rs.map .int),o3,o4,o5,o6]/\rs.length=P1.length+P2.length/\∀ k,rs.getD k 0=Cv.tm (Cv.fn P1) (Cv.fn P2) i k,⟨_,_,_,_,_,rfl,aI,λk=>wC _ _⟩,?_,?_⟩
 ·rintro i d _ hd ⟨rs,o3,o4,o5,o6,rfl,lr,hr⟩;obtain⟨hi,rfl⟩:=tK hd;refine⟨rfl,λk s=>∃(rs:List Int) (o5 o6:SD),s=[.val (pD P1 B1),.val (pD P2 B2),.own (rs.map .int),.vi (i:Nat),.vi (P1.getD i 0),o5,o6]/\rs.length=P1.length+P2.length/\∀ m,rs.getD m 0=Cv.tm (Cv.fn P1) (Cv.fn P2) i m+(if i<=m/\m-i<k then Cv.fn P1 i*Cv.fn P2 (m-i) else 0),⟨rs,_,_,rfl,lr,λm=>by rw[hr m,if_neg (),bQ]⟩,?_,?_⟩
  ·rintro k d _ hd ⟨rs',o5',o6',rfl,lr',hr4⟩;obtain⟨hk,rfl⟩:=tK hd;have ik:(i:Int)+(k:Int)=((i+k:Nat):Int):=by lia
   have hiF:i+k<rs'.length:=by lia
   refine⟨rfl,?_⟩;show itI (rs'.map D.int) (.int ((i:Int)+(k:Int))) _;rw[ik];refine sO (sY hiF) ⟨⟨n,m,G1.tops i,G2.tops k,()⟩,?_⟩;show atD (rs'.map D.int) (.int ((i:Int)+(k:Int))) _;rw[ik];refine wn (by rw[aa];exact hiF) ⟨rs'.set (i+k) (rs'.getD (i+k) 0+P1.getD i 0*P2.getD k 0),.vi (k:Nat),.vi (P2.getD k 0),?_,by rw[aS];exact lr',λm=>?_⟩
   ·show [SD.val _,.val _,.own ((rs'.map D.int).set (i+k) (.int (rs'.getD (i+k) 0+P1.getD i 0*P2.getD k 0))),_,_,_,_]=_;rw[map_set]
   ·rw[vo hiF];by_cases e:m=i+k
    ·subst e;rw[if_pos rfl,hr4,if_neg (),if_pos ⟨(),()⟩,show i+k-i=k by lia,bQ];rfl
    ·rw[if_neg e,hr4];congr 1;by_cases c:i<=m/\m-i<k
     ·rw[if_pos c,if_pos ⟨c.1,()⟩]
     ·rw[if_neg c,if_neg ()]
  ·rintro _ ⟨rs',o5',o6',rfl,lr',hr4⟩;rw[sM,aa] at hr4;refine⟨rs',_,_,_,_,rfl,lr',λm=>?_⟩;rw[hr4 m,Cv.x8];congr 1;by_cases c:i<=m
   ·rw[if_pos c];by_cases c':m-i<P2.length
    ·rw[if_pos ⟨c,c'⟩]
    ·rw[if_neg (λz=>c' z.2),Cv.sx (P:=P2) (),bP]
   ·rw[if_neg c,if_neg (λz=>c z.1)]
 ·rintro _ ⟨rs,o3,o4,o5,o6,rfl,lr,hr⟩;rw[sM,aa] at hr;refine⟨⟨b,c,G1.bot,G2.bot,()⟩,rfl,(rs,B1*B2),⟨.inl rfl,ay p1 p2,(G1.bot.mul G2.bot).mono hb,by show rs.length<=1000;lia⟩,?_⟩;rintro _ ⟨R,C,rfl,fm,hw,_⟩;exact q _ ⟨R,C,rfl,fm,λk=>by rw[hw k];show rs.getD k 0*C=_;rw[hr k,Cv.uD λj h=>Cv.sx h]⟩
def qv:TSd:=(iE [] (ij 2))
def qw:TSd:=dSq (iX [] (mU (dIx (ij 0) (iκ 0))) (gNm 3)
 (ir [] (gNm 2) (io iS (ii (io iz (ii (ij 2) (ii (ij 1) il))) (ii (io iD (ii (iN (ii (ij 3) il)) (ii (dIx (ij 0) (iκ 1)) il))) il)))))
 qv
def rg:TSd:=dSq (ir [] (gNm 2) (iA (ii (iA il) (ii (iκ 1) il))))
 qw
def iu:SpB:=.of 2 (α:=List Int×Int×List Int×Int×Nat×Nat×Nat×Nat) (λ(P,B,P',B',n,b,m,c) ds=>ds=[pD P B,pD P' B']/\Pc.Pz n b P B/\Pc.Pz m c P' B'/\b+b+c*P.length<=8900000/\n+(m+c+10)*(P.length+1)<=4000000/\P.length*P'.length<=190/\P.length<=190/\P'.length<=190)
 (λ(P,B,P',B',n,b,m,c) d=>∃ R C,d=pD R C/\Pc.Of P B P' B' R C)
theorem qd:Does 4 rg iu:=by
 rintro ds Q hn ⟨⟨P1,B1,P2,B2,n,b,m,c⟩,⟨rfl,G1,G2,hb,hn,hl,l1,l2⟩,q⟩;dsimp only at G1 G2 hb hn hl l1 l2 q;have p1:=G1.fm.pos;have p2:=G2.fm.pos;have hL:(m+c+10)*P1.length+(m+c+10)=(m+c+10)*(P1.length+1):=by rw[bI]
 have hg:∀ k,P2.length<=k->Cv.fn P2 k=0:=λk h=>Cv.sx h;refine⟨by rw[sizeLine_eq];decide,by rw[sizeLine_eq];decide,λi s=>∃(R:List Int) (C:Int) (o3:SD) (M:Nat->Int),s=[.val (pD P1 B1),.val (pD P2 B2),.val (pD R C),o3]/\Po.Fm R C/\(∀ k,R.getD k 0*(B1*B2^i)=M k*B2*C)/\(∀ k,i*P2.length+1<=k->M k=0)/\(∀ k,Lt2 (n+(m+c+10)*i+1) (M k)) /\
   ∀ k,Pc.pc (Cv.fn P1) (Cv.fn P2) B2 P1.length k=B2^i*Pc.pc (Cv.fn P1) (Cv.fn P2) B2 (P1.length-i) k+B2*Cv.cv (Pc.cp (Cv.fn P2) (P1.length-i)) M k,
  ⟨[],1,.no,λ_=>0,rfl,⟨by decide,.inl rfl,rfl⟩,λk=>by rw[sk (fs:=([]:List Int)) (aB _)];simp,λ_ _=>rfl,λk=>bM (by decide),λk=>by rw[Cv.Ez λj=>rfl];simp⟩,?_,?_⟩
 ·rintro i z _ hz ⟨R,C,o3,M,rfl,fx,ex,oM,lM,eM⟩;have hi:i<P1.length:=by have:=(ak.mp hz).1;simpa using this
  rw[bE (by rw[aa];exact hi),aa] at hz;obtain⟨_,rfl⟩:=wQ hz;have li:(m+c+10)*(i+1)<=(m+c+10)*P1.length:=ae _ hi;rw[bI] at li;have li2:(i+1)*P2.length<=P1.length*P2.length:=aV _ hi;rw[bj] at li2;have li3:c*(i+1)<=c*P1.length:=ae _ hi;rw[bI] at li3;have W:=Hv.pow_pos p2 i;have lW:=Hv.sL G2.bot i;have li5:c*i<=(m+c+10)*i:=aV _ ();have c0:=fx.pos;have zx:Pc.Pz (n+(m+c+10)*i+1+c) (b+(c*i+1)) R C:=Pc.Pz.of fx (ay p1 W) ex (λk=>(lM k).mul G2.bot) (G1.bot.mul lW);have lx:R.length<=i*P2.length+1:=Pc.sJ fx (ay p1 W) ex (λk hk=>by rw[oM k hk,ax]);have top:=G1.tops (P1.length-1-i);refine⟨rfl,(R,C,P2,B2,_,_,_,_),⟨rfl,zx,G2,(),(),by show R.length<=450;lia,by show P2.length<=450;lia⟩,?_⟩;rintro _ ⟨TT,tb,rfl,fT,eT⟩;have t0:=fT.pos;have eT':∀ k,TT.getD k 0*(B1*(B2^i*B2))=Cv.cv M (Cv.fn P2) k*B2*tb:=λk=>Pc.HG c0 ex (eT k);have W2:=ay W p2;have cM:∀ k,Lt2 (n+(m+c+10)*i+1+m+9) (Cv.cv M (Cv.fn P2) k):=λk=>by
   rcases aw k 500 with cc|cc
   ·exact Cv.BN lM G2.tops ()
   ·rw[Cv.tD (a:=i*P2.length+1) (b:=P2.length) oM hg ()];exact bM (by decide)
  have oT:∀ k,(i+1)*P2.length+1<=k->Cv.cv M (Cv.fn P2) k=0:=λk hk=>Cv.tD (a:=i*P2.length+1) (b:=P2.length) oM hg (by rw[bj] at hk;lia);have zT:Pc.Pz (n+(m+c+10)*i+1+m+9+c) (b+(c*i+1+c)) TT tb:=Pc.Pz.of fT (ay p1 W2) eT' (λk=>(cM k).mul G2.bot) (G1.bot.mul (lW.mul G2.bot));have lT:TT.length<=(i+1)*P2.length+1:=Pc.sJ fT (ay p1 W2) eT' (λk hk=>by rw[oT k hk,ax]);rw[bj] at lT;refine⟨xn,rfl,([P1.getD (P1.length-1-i) 0],B1),⟨.inl rfl,p1,G1.bot.mono (),by show 1<=1000;decide⟩,?_⟩;rintro _ ⟨E,eb,rfl,fe,ee,le⟩;dsimp only at ee le;have e0:=fe.pos;have ze:Pc.Pz n b E eb:=Pc.Pz.of fe p1 ee (λk=>by
   cases k with
   | zero=>exact top
   | succ k=>rw[sk (fs:=[P1.getD (P1.length-1-i) 0]) (by simp)];exact bM (by decide)) G1.bot
  have le':E.length<=1:=le;refine⟨rfl,(TT,tb,E,eb,_,_,_,_),⟨rfl,zT,ze,(),(),by show TT.length<=900;lia,by show E.length<=900;lia⟩,?_⟩;rintro _ ⟨R',C',rfl,fx',ex'⟩;refine⟨R',C',_,λj=>Cv.cv M (Cv.fn P2) j+(if j=0 then Cv.fn P1 (P1.length-1-i)*B2^i else 0),rfl,fx',λk=>?_,λk hk=>?_,λk=>?_,λk=>Pc.D9 hg hi eM _ λj=>rfl⟩
  ·rw[a6];have y:=Pc.HF t0 e0 (eT' k) (ee k) (ex' k);rw[y];congr 2;show _=_+_;congr 1;cases k with
   | zero=>rfl
   | succ k=>rw[sk (fs:=[P1.getD (P1.length-1-i) 0]) (by simp),if_neg (),ax]
  ·show Cv.cv M (Cv.fn P2) k+(if k=0 then Cv.fn P1 (P1.length-1-i)*B2^i else 0)=0;rw[oT k hk,if_neg ()];rfl
  ·have y2:Lt2 (n+(m+c+10)*i+1+m+9) (if k=0 then Cv.fn P1 (P1.length-1-i)*B2^i else 0):=by
    split
    ·exact (top.mul lW).mono ()
    ·exact bM (by decide)
   exact ((cM k).add y2).mono (by rw[bI];lia)
 ·rintro _ ⟨R,C,o3,M,rfl,fx,ex,oM,lM,eM⟩;rw[a5,aa] at ex eM;refine q _ ⟨R,C,rfl,fx,λk=>?_⟩;rw[ex k,eM k,a9];show _=(_*0+B2*Cv.cv Pc.d0 M k)*C;rw[Pc.zy,bP,bO,bo B2]
def FqD(n b:Nat)(d:D)(r:Rat):Prop:=∃ t u:Int,d=fD t u/\0<u/\Int.gcd t u=1/\Lt2 n t/\Lt2 b u/\r=(t:Rat) / (u:Rat)
theorem FqD.of(u0:0<u)(lt:Lt2 n t)(lu:Lt2 b u):FqD n b (fD (Fr.top t u) (Fr.bot t u)) ((t:Rat) / (u:Rat)):=by
 obtain⟨l1,l2,l3⟩:=Fr.low (t:=t) (b:=u) ();obtain⟨m1,m2⟩:=Fr.C4 (t:=t) (b:=u) ();exact⟨_,_,rfl,l1,l3,lt.le m1,lu.le m2,(Qp.tq () ()).mpr l2.symm⟩
theorem FqD.mono(h:FqD n b d r)(l:n<=n')(l':b<=b'):FqD n' b' d r:=by
 obtain⟨t,u,e,h1,h2,h3,h4,h5⟩:=h;exact⟨t,u,e,h1,h2,h3.mono l,h4.mono l',h5⟩
def jK:SpB:=.of 2 (α:=Int) (λm ds=>ds=[.fl,.int m]/\0<=m/\Lt2 8000 m) (λm d=>∃ z,d = .int z /\ -m<=z/\z<=m)
def oZ:TSd:=(iE [] (ip .Sub (io iq (ii (ij 0) (ii (ip .Add (ip .Mult (iκ 2) (ij 1)) (iκ 1)) il))) (ij 1)))
theorem m7:Does 2 oZ jK:=by
 rintro ds Q hn ⟨m,⟨rfl,m0,m1⟩,q⟩;have two:Lt2 2 2:=by decide
 have lm:Lt2 9000 (2*m+1):=((two.mul m1).add ((show Lt2 1 1 by decide).mono (m:=2+8000) ())).mono ();refine⟨⟨_,_,two,m1,()⟩,rfl,2*m+1,⟨rfl,(),lm⟩,?_⟩;rintro _ ⟨i,rfl,i0,i1⟩;exact q _ ⟨_,rfl,(),()⟩
theorem yZ(h:m.natAbs<1000)(hn:10<=n:=by decide):Lt2 n m:=by
 unfold Lt2;exact aF (Nat.lt_trans h (show 1000<2^10 by decide)) (cu (by decide) hn)
theorem DA(h0:0<=i)(h1:i<4)(qa:Q (.int a))(qb:Q (.int b))(qc:Q (.int c))(qe:Q (.int e)):itD [.int a,.int b,.int c,.int e] i Q:=by
 rcases (by lia:i=0\/i=1\/i=2\/i=3) with rfl|rfl|rfl|rfl
 ·exact qa
 ·exact qb
 ·exact qc
 ·exact qe
def iG:SpB:=.of 2 (α:=Int×Nat) (λ(m,M) ds=>ds=[.fl,.int m]/\1<=m/\Lt2 M m/\2<=M/\M<=4000) (λ(m,M) d=>∃ r,FqD M M d r)
def kW:TSd:=(iE [] (io iF (ii (io jK (ii (ij 0) (ii (ij 1) il))) (ii (ip .Add (iκ 1) (io iq (ii (ij 0) (ii (dIx (iN (ii (iκ 1) (ii (iκ 1) (ii (iκ 3) (ii (ij 1) il))))) (io iq (ii (ij 0) (ii (iκ 4) il)))) il)))) il))))
theorem jZ:Does 2 kW iG:=by
 rintro ds Q hn ⟨⟨m,M⟩,⟨rfl,m1,lm,M2,M4⟩,q⟩;refine⟨rfl,m,⟨rfl,(),lm.mono ()⟩,?_⟩;rintro _ ⟨z,rfl,z0,z1⟩;refine⟨tP (n:=4) (by decide),rfl,4,⟨rfl,by decide,yZ (by decide)⟩,?_⟩;rintro _ ⟨i,rfl,i0,i1⟩;have l3:Lt2 M 3:=(show Lt2 2 3 by decide).mono M2;have key:∀ u:Int,1<=u->Lt2 M u->([D.fl,.int u].length=iq.n/\iq.run [.fl,.int u] λd=>oAdd (.int 1) d λd=>[D.int z,d].length=iF.n/\iF.run [.int z,d] Q):=λu u1 lu=>by
  refine⟨rfl,u,⟨rfl,(),lu.mono ()⟩,?_⟩;rintro _ ⟨e,rfl,e0,e1⟩;have lb:Lt2 M (1+e):=lu.le ();refine⟨rfl,(z,1+e),⟨rfl,by show 1+e≠0;lia,lb.mono ()⟩,?_⟩;rintro _ rfl;exact q _ ⟨_,FqD.of () (lm.le ()) lb⟩
 exact DA i0 i1 (key 1 (by decide) (l3.le (by decide))) (key 1 (by decide) (l3.le (by decide))) (key 3 (by decide) l3) (key m m1 lm)
theorem uM{α:Type}{fs:List α}{i:Nat}{d:α}(h:i<fs.length):fs.getD i d∈fs:=by
 rw[ac,aq h];exact fI h
theorem uw(n:Nat):Lt2 n 0:=bM (by decide)
theorem AN{ts:List Int}{c B:Int}{P:List Int}{M N:Nat}(fm:Po.Fm P B)(hw:∀ k,P.getD k 0*c=ts.getD k 0*B)(hle:P.length<=ts.length)(hl:ts.length=N+1)(hs:∀ t∈ts,Lt2 M t)(c0:0<c)(lc:Lt2 3 c)(last:ts.getD N 0≠0):Pc.Pz M 3 P B/\P.length=N+1:=by
 have pB:=fm.pos;refine⟨Pc.Pz.of (f:=λk=>ts.getD k 0) fm c0 hw (λk=>?_) lc,?_⟩
 ·rcases aw k ts.length with z|z
  ·exact hs _ (uM z)
  ·rw[sk z];exact uw _
 ·rcases aw N P.length with z|z
  ·lia
  ·have e:=hw N;rw[sk z,ax] at e;rcases bv.mp e.symm with y|y
   ·exact absurd y last
   ·lia
theorem NC:(if decide ((0:Int)<d) then (1:Int) else 0)=0\/(if decide ((0:Int)<d) then (1:Int) else 0)=1:=by
 by_cases c:(0:Int)<d
 ·exact .inr (by rw[if_pos (by simpa using c)])
 ·exact .inl (by rw[if_neg (by simpa using c)])
def drI(M:Nat):Nat->List D->Prop:=λi ys=>∃ ts:List Int,ys=ts.map D.int/\ts.length=i/\∀ t∈ts,Lt2 M t
theorem drI.nil:drI M 0 []:=⟨[],rfl,rfl,λt h=>absurd h aX⟩
theorem drI.snoc(h:drI M i ys)(hz:Lt2 M z):drI M (i+1) (ys++[.int z]):=by
 obtain⟨ts,rfl,h1,h2⟩:=h;refine⟨ts++[z],by rw[aM];rfl,by rw[aj,h1];rfl,λt ht=>?_⟩;rcases bD.mp ht with w|w
 ·exact h2 t w
 ·rw[a8.mp w];exact hz
theorem Kt(lz:Lt2 M z)(M4:M<=8000):CMulB z (if decide ((0:Int)<d) then (1:Int) else 0)/\Lt2 M (z*(if decide ((0:Int)<d) then (1:Int) else 0)):=by
 rcases NC (d:=d) with e|e
 ·rw[e];exact⟨⟨M,1,lz,by decide,()⟩,by rw[bP];exact uw _⟩
 ·rw[e];exact⟨⟨M,1,lz,by decide,()⟩,by rw[bx];exact lz⟩
def iK:SpB:=.of 3 (α:=Nat×Int×Nat) (λ(N,m,M) ds=>ds=[.fl,.int N,.int m]/\N<=100/\1<=m/\Lt2 M m/\M<=4000) (λ(N,m,M) d=>∃ P B,d=pD P B/\Pc.Pz M 3 P B/\P.length=N+1)
def jM:TSd:=(iE [] (io iD (ii (ip .Add (ij 3) (iN (ii (ij 5) il))) (ii (ip .Add (iκ 1) (io iq (ii (ij 0) (ii (dIx (iN (ii (iκ 1) (ii (iκ 1) (ii (iκ 2) (ii (iκ 6) il))))) (io iq (ii (ij 0) (ii (iκ 4) il)))) il)))) il))))
def mJ:TSd:=dSq (ir [] (gNm 5) (dIx (iN (ii (iκ 1) (ii (ip .Sub (iκ 0) (iκ 1)) (ii (ip .Add (iκ 1) (io iq (ii (ij 0) (ii (ij 2) il)))) (ii (ip .Sub (ip .Sub (iκ 0) (iκ 1)) (io iq (ii (ij 0) (ii (ij 2) il)))) il))))) (io iq (ii (ij 0) (ii (iκ 4) il)))))
 jM
def nX:TSd:=dSq (ir [] (gNm 3) (iW (jL (ij 1)) [4] (gNm 4) jh (ip .Mult (io jK (ii (ij 0) (ii (ij 2) il))) (dB bInt bInt.mono (ii (iR .Gt (io iq (ii (ij 0) (ii (iκ 4) il))) (iκ 0)) il)))))
 mJ
theorem l5:Does 6 nX iK:=by
 rintro ds Q hn ⟨⟨N,m,M⟩,⟨rfl,hN,m1,lm,M4⟩,q⟩;dsimp only at hN m1 lm M4 q;refine⟨(),(),by rw[sE];exact tP (),drI M,drI.nil,λi d ys hd _ hy=>?_,λys _ hy=>?_⟩
 ·obtain⟨hi,rfl⟩:=sP hd;refine⟨rfl,m,⟨rfl,(),lm.mono ()⟩,?_⟩;rintro _ ⟨z,rfl,z0,z1⟩;refine⟨rfl,4,⟨rfl,by decide,yZ (by decide)⟩,?_⟩;rintro _ ⟨j,rfl,j0,j1⟩;obtain⟨h1,h2⟩:=Kt (d:=j) (lm.le (j:=z) ()) ();exact⟨h1,hy.snoc h2⟩
 rw[sE] at hy;obtain⟨ts,rfl,lt,ht⟩:=hy;have lt:ts.length=N:=by lia
 refine⟨rfl,m,⟨rfl,(),lm.mono ()⟩,?_⟩;rintro _ ⟨d1,rfl,d10,d11⟩;refine⟨rfl,m,⟨rfl,(),lm.mono ()⟩,?_⟩;rintro _ ⟨d2,rfl,d20,d21⟩;refine⟨tP (n:=4) (by decide),rfl,4,⟨rfl,by decide,yZ (by decide)⟩,?_⟩;rintro _ ⟨d3,rfl,d30,d31⟩;have key:∀ u:Int,u≠0->Lt2 M u->jM.run (sH Q) [.val .fl,.vi N,.vi m,.val (.lst (ts.map .int)),.no,.vi u]:=λu u0 lu=>by
  refine⟨xn,?_,?_⟩
  ·rw[aa];exact tP (by show ts.length+1<=_;lia)
  refine⟨tP (n:=4) (by decide),rfl,4,⟨rfl,by decide,yZ (by decide)⟩,?_⟩;rintro _ ⟨d5,rfl,d50,d51⟩;have fin:∀ c:Int,1<=c->c<=6->([D.fl,.int c].length=iq.n/\iq.run [.fl,.int c] λd=>oAdd (.int 1) d λd=>[D.lst (ts.map .int++[.int u]),d].length=iD.n/\iD.run [.lst (ts.map .int++[.int u]),d] Q):=λc c1 c6=>by
   refine⟨rfl,c,⟨rfl,(),yZ ()⟩,?_⟩;rintro _ ⟨e,rfl,e0,e1⟩;have b3:Lt2 3 (1+e):=Lt2.of 6 () (by decide);have em:ts.map D.int++[.int u]=(ts++[u]).map D.int:=by rw[aM];rfl
   have last:(ts++[u]).getD N 0=u:=sV (by rw[az (),lt,a9];rfl);rw[em];refine⟨rfl,(ts++[u],1+e),⟨.inl rfl,by show 0<1+e;lia,b3.mono (by decide),by show (ts++[u]).length<=1000;rw[aj,lt];show N+1<=1000;lia⟩,?_⟩;rintro _ ⟨P1,B1,rfl,fm,hw,hle⟩;dsimp only at hw hle;obtain⟨z1,z2⟩:=AN (M:=M) (N:=N) fm hw hle (by rw[aj,lt];rfl) (λt h=>by
    rcases bD.mp h with y|y
    ·exact ht _ y
    ·rw[a8.mp y];exact lu) () b3 (by rw[last];exact u0)
   exact q _ ⟨P1,B1,rfl,z1,z2⟩
  exact DA d50 d51 (fin 1 (by decide) (by decide)) (fin 1 (by decide) (by decide)) (fin 2 (by decide) (by decide)) (fin 6 (by decide) (by decide))
 exact DA d30 d31 (key 1 (by decide) (lm.le ())) (key (0-1) (by decide) (lm.le ())) (key (1+d1) () (lm.le ())) (key (0-1-d2) () (lm.le ()))
theorem HH(st:Pc.St ta ba tb bb P B)(a0:0<ba)(b0:0<bb)(l1:Lt2 n1 ta)(l2:Lt2 b1 ba)(l3:Lt2 n2 tb)(l4:Lt2 b2 bb):Pc.Pz (n1+n2+b1+b2) (b1+b2) P B :=
 Pc.Pz.of st.1 (ay a0 b0) st.2 (λk=>by
  match k with
  | 0=>exact (l3.mul l2).mono ()
  | 1=>exact (l1.mul l4).mono ()
  | k+2=>exact uw _) (l2.mul l4)
theorem Ng(st:Pc.St ta ba tb bb P B)(a0:0<ba)(b0:0<bb)(l1:Lt2 n1 ta)(l2:Lt2 b1 ba)(l3:Lt2 n2 tb)(l4:Lt2 b2 bb) :
  Pc.Pz (n1+n2+b1+b2) (b1+b2) P B/\(∀ x,Qp.E P B x=(ta:Rat) / (ba:Rat)*x+(tb:Rat) / (bb:Rat))/\P.length<=2/\Qp.q P B 0=(tb:Rat) / (bb:Rat)/\Qp.q P B 1=(ta:Rat) / (ba:Rat):=by
 have p:=ay a0 b0;have q:=λk=>Qp.ye (f:=λk=>[tb*ba,ta*bb].getD k 0) st.1.pos (am p) st.2 k;refine⟨HH st a0 b0 l1 l2 l3 l4,Qp.MB st a0 b0,Pc.sJ st.1 p st.2 λk hk=>?_,?_,?_⟩
 ·obtain⟨j,rfl⟩:∃ j,k=j+2:=⟨k-2,()⟩;exact Pc.xZ ..
 ·rw[q 0];exact (Qp.tq (am p) ()).mpr (by show tb*ba*bb=tb*(ba*bb);grind)
 ·rw[q 1];exact (Qp.tq (am p) ()).mpr (by show ta*bb*ba=ta*(ba*bb);grind)
theorem Aj(h:Qp.q P B 1≠0)(l:P.length<=2):P.length=2/\P.getD 1 0≠0:=by
 have n1:P.getD 1 0≠0:=λz=>h (by
  unfold Qp.q;rw[z];show ((0:Int):Rat) / _=0;have:((0:Int):Rat)=0:=rfl;rw[this];grind)
 refine⟨?_,n1⟩;rcases aw 1 P.length with z|z
 ·lia
 ·exact absurd (sk z) n1
def ja:SpB:=.of 2 (α:=D×D×Rat×Rat×Nat×Nat×Nat×Nat) (λ(d1,d2,r1,r2,n1,b1,n2,b2) ds=>ds=[d1,d2]/\FqD n1 b1 d1 r1/\FqD n2 b2 d2 r2/\b1+b2<=4000/\n1<=100000/\n2<=100000)
 (λ(d1,d2,r1,r2,n1,b1,n2,b2) d=>∃ P B,d=pD P B/\Pc.Pz (n1+n2+b1+b2) (b1+b2) P B/\(∀ x,Qp.E P B x=r1*x+r2)/\P.length<=2/\Qp.q P B 0=r2/\Qp.q P B 1=r1)
def nY:TSd:=(iE [] (io iD (ii (iN (ii (ip .Mult (dIx (ij 1) (iκ 0)) (dIx (ij 0) (iκ 1))) (ii (ip .Mult (dIx (ij 0) (iκ 0)) (dIx (ij 1) (iκ 1))) il))) (ii (ip .Mult (dIx (ij 0) (iκ 1)) (dIx (ij 1) (iκ 1))) il))))
theorem l6:Does 2 nY ja:=by
 rintro ds Q hn ⟨⟨d1,d2,r1,r2,n1,b1,n2,b2⟩,⟨rfl,⟨ta,ba,rfl,a0,c2,l1,l2,rfl⟩,⟨tb,bb,rfl,b0,e2,l3,l4,rfl⟩,ln,m1,m2⟩,q⟩;dsimp only at ln m1 m2 q;refine⟨⟨_,_,l3,l2,()⟩,⟨_,_,l1,l4,()⟩,tz,⟨_,_,l2,l4,()⟩,rfl,([tb*ba,ta*bb],ba*bb),⟨.inl rfl,ay a0 b0,(l2.mul l4).mono (),by show 2<=1000;decide⟩,?_⟩;rintro _ ⟨P,B,rfl,fm,hw,hle⟩;obtain⟨x1,x2,x3,x4,x5⟩:=Ng ⟨fm,hw⟩ a0 b0 l1 l2 l3 l4;exact q _ ⟨P,B,rfl,x1,x2,x3,x4,x5⟩
theorem tX(l:Lt2 n t):FqD n 1 (fD t 1) (t:Rat):=⟨t,1,rfl,by decide,by simp,l,by decide,by have:((1:Int):Rat)=1:=rfl;rw[this];grind⟩
def iy:SpB:=.of 2 (α:=Int×Nat) (λ(m,M) ds=>ds=[.fl,.int m]/\1<=m/\Lt2 M m/\2<=M/\M<=1000) (λ(m,M) d=>∃ P B,d=pD P B/\Pc.Pz (4*M) (2*M) P B/\P.length=2/\P.getD 1 0≠0)
def ji:TSd:=(iE [] (io ja (ii (ij 2) (ii (io iG (ii (ij 0) (ii (ij 1) il))) il))))
def kX:TSd:=dSq (ir [] (gNm 2) (dIx (iN (ii (iA (ii (iκ 1) (ii (iκ 1) il))) (ii (iA (ii (ip .Sub (iκ 0) (iκ 1)) (ii (iκ 1) il))) (ii (io iF (ii (ip .Add (iκ 1) (io iq (ii (ij 0) (ii (ij 1) il)))) (ii (ip .Add (iκ 1) (io iq (ii (ij 0) (ii (iκ 3) il)))) il))) il)))) (io iq (ii (ij 0) (ii (iκ 3) il)))))
 ji
theorem j2:Does 3 kX iy:=by
 rintro ds Q hn ⟨⟨m,M⟩,⟨rfl,m1,lm,M2,M4⟩,q⟩;dsimp only at m1 lm M2 M4 q;refine⟨tz,tz,rfl,m,⟨rfl,(),lm.mono ()⟩,?_⟩;rintro _ ⟨d1,rfl,d10,d11⟩;refine⟨rfl,3,⟨rfl,by decide,yZ (by decide)⟩,?_⟩;rintro _ ⟨d2,rfl,d20,d21⟩;have b2:Lt2 M (1+d2):=(show Lt2 2 (1+d2) from Lt2.of 3 () (by decide)).mono M2;refine⟨rfl,(1+d1,1+d2),⟨rfl,by show 1+d2≠0;lia,b2.mono ()⟩,?_⟩;rintro _ rfl;dsimp only;refine⟨tP (n:=3) (by decide),rfl,3,⟨rfl,by decide,yZ (by decide)⟩,?_⟩;rintro _ ⟨d3,rfl,d30,d31⟩;have fin:∀(u:D) (r:Rat),FqD M M u r->r≠0->ji.run (sH Q) [.val .fl,.vi m,.val u]:=λu r fu r0=>by
  refine⟨rfl,(m,M),⟨rfl,m1,lm,M2,by show M<=4000;lia⟩,?_⟩;rintro _ ⟨r2,f2⟩;refine⟨rfl,(u,_,r,r2,M,M,M,M),⟨rfl,fu,f2,by show M+M<=4000;lia,by show M<=100000;lia,by show M<=100000;lia⟩,?_⟩;rintro _ ⟨P1,B1,rfl,z1,e1,l1,q0,q1⟩;obtain⟨len,n1⟩:=Aj (by rw[q1];exact r0) l1;exact q _ ⟨P1,B1,rfl,z1.mono (by show M+M+M+M<=_;lia) (by show M+M<=_;lia),len,n1⟩
 have f3:=FqD.of (t:=1+d1) (u:=1+d2) () (lm.le (j:=1+d1) ()) b2;have n3:((1+d1:Int):Rat) / ((1+d2:Int):Rat)≠0:=(Fq.ne (p:=0) () rfl).mpr ();rcases (by lia:d3=0\/d3=1\/d3=2) with rfl|rfl|rfl
 ·exact fin _ _ ((tX (n:=1) (t:=1) (by decide)).mono () ()) (by decide)
 ·exact fin _ _ ((tX (n:=1) (t:=-1) (by decide)).mono () ()) (by decide)
 ·exact fin _ _ f3 n3
def i5:SpB:=.of 2 (α:=List Int×Int×Nat×Nat×Nat) (λ(P,B,k,n,b) ds=>ds=[pD P B,.int k]/\Pc.Pz n b P B/\b<=9000000) (λ(P,B,k,n,b) d=>FqD n b d (Qp.q P B k))
def l7:SpB:=.of 2 (α:=List Int×Int×Nat×Nat×Nat) (λ(P,B,k,n,b) ds=>ds=[pD P B,.int k]/\Pc.Pz n b P B/\k*P.length<=400/\k<=400/\P.length<=400/\b*k+1+b<=9000000/\(n+9)*k+1+n<=9000000)
 (λ(P,B,k,n,b) d=>∃ R C,d=pD R C/\(∀ j,R.getD j 0*B^k=Pc.cp (Cv.fn P) k j*C)/\Pc.Pz ((n+9)*k+1) (b*k+1) R C/\R.length<=k*P.length+1)
def oq:TSd:=(iE [] (ij 2))
def ot:TSd:=dSq (iX [] (jL (ij 1)) (gNm 3)
 (ir [] (gNm 2) (io iz (ii (ij 2) (ii (ij 0) il)))))
 oq
def qf:TSd:=dSq (ir [] (gNm 2) (iA (ii (iA (ii (iκ 1) il)) (ii (iκ 1) il))))
 ot
theorem nZ:Does 4 qf l7:=by
 rintro ds Q hn ⟨⟨P1,B1,k,n,b⟩,⟨rfl,z1,hkl,hk,hl,hb,hn⟩,q⟩;dsimp only at z1 hkl hk hl hb hn q;have B0:=z1.fm.pos;have pz:∀ i,i<=k->∀{R:List Int} {C:Int},Po.Fm R C->(∀ j,R.getD j 0*B1^i=Pc.cp (Cv.fn P1) i j*C)->Pc.Pz ((n+9)*i+1) (b*i+1) R C/\R.length<=i*P1.length+1:=λi hi R C fm e=>by
  have l1:i*P1.length<=k*P1.length:=aV _ hi;exact⟨Pc.Pz.of fm (bw B0) e (Pc.EF (l:=P1.length) (λj hj=>Cv.sx hj) (λj=>z1.tops j) i ()) (Hv.sL z1.bot i),Pc.sJ fm (bw B0) e (Pc.vf (λj hj=>Cv.sx hj) i)⟩
 refine⟨xn,tz,(),(),λi s=>∃(o3:SD) (R:List Int) (C:Int),s=[.val (pD P1 B1),.vi k,.val (pD R C),o3]/\Po.Fm R C/\∀ j,R.getD j 0*B1^i=Pc.cp (Cv.fn P1) i j*C,⟨.no,[1],1,rfl,Cv.Iz,λj=>?_⟩,?_,?_⟩
 ·rw[aP];cases j with
  | zero=>rfl
  | succ j=>rfl
 ·rintro i d _ hd ⟨o3,R,C,rfl,fm,he⟩;obtain⟨hi,rfl⟩:=sP hd;have hi:i<k:=by lia
  obtain⟨G,hle⟩:=pz i () fm he;have l1:i*P1.length<=k*P1.length:=aV _ ();have l2:b*i<=b*k:=ae _ ();have l3:(n+9)*i<=(n+9)*k:=ae _ ();refine⟨rfl,(R,C,P1,B1,_,_,n,b),⟨rfl,G,z1,(),(),by show R.length<=450;lia,by show P1.length<=450;lia⟩,?_⟩;rintro _ ⟨R',C',rfl,fm',hw⟩;refine⟨_,R',C',rfl,fm',λj=>?_⟩;have e:Cv.cv (Cv.fn R) (Cv.fn P1) j*B1^i=Pc.cp (Cv.fn P1) (i+1) j*C:=by
   show _=Cv.cv (Pc.cp (Cv.fn P1) i) (Cv.fn P1) j*C;rw[← Cv.tY,← Cv.tY];exact Cv.sW (λm=>he m) λ_=>rfl
  have e2:=hw j;refine av (am fm.pos) ?_;rw[a6];grind
 ·rintro _ ⟨o3,R,C,rfl,fm,he⟩;rw[sE,aJ] at he;exact q _ ⟨R,C,rfl,he,(pz k (af _) fm he).1,(pz k (af _) fm he).2⟩
def iB:SpB:=.of 2 (α:=Int×Nat×Nat) (λ(n,k,M) ds=>ds=[.int n,.int k]/\Lt2 M n/\k<=200/\(M+1)*(k+1)<=4000000) (λ(n,k,M) d=>d = .int (n^k))
def m8:TSd:=(iE [] (ij 2))
def m9:TSd:=dSq (iX [] (jL (ij 1)) (gNm 3)
 (oj [] 2 .Mult (ij 0)))
 m8
def ou:TSd:=dSq (ir [] (gNm 2) (iκ 1))
 m9
theorem mK:Does 4 ou iB:=by
 rintro ds Q hn ⟨⟨n,k,M⟩,⟨rfl,ln,hk,hM⟩,q⟩;dsimp only at ln hk hM q;refine⟨(),(),λi s=>∃ o,s=[.vi n,.vi k,.vi (n^i),o],⟨.no,by rw[aP];rfl⟩,?_,?_⟩
 ·rintro i d _ hd ⟨o,rfl⟩;obtain⟨hi,rfl⟩:=sP hd;have hi:i<k:=by lia
  have lp:=Hv.sL ln i;have l1:M*i<=(M+1)*(k+1):=aW () ();have l2:M<=(M+1)*(k+1):=aE () (aZ (M+1) ());exact⟨⟨_,_,lp,ln,()⟩,_,by rw[a6];rfl⟩
 ·rintro _ ⟨o,rfl⟩;rw[sE,aJ];exact q _ rfl
def i6:SpB:=.of 1 (α:=List Int×Int) (λ(P,B) ds=>ds=[pD P B]) (λ(P,B) d=>d = .int ((P.length:Int)-1))
def rh:TSd:=(iE [] (ip .Sub (dB bLen bLen.mono (ii (dIx (ij 0) (iκ 0)) il)) (iκ 1)))
theorem qh:Does 1 rh i6:=by
 rintro ds Q hn ⟨⟨P,B⟩,rfl,q⟩;refine q _ ?_;show D.int (((P.map D.int).length:Int)-1)=_;rw[aa]
theorem BP{ts:List Int}{m:Nat}(hm:m<=ts.length):tZ (ts.map D.int) none (some (m:Int))=(ts.take m).map D.int:=by
 unfold tZ;rw[HT.wB,HT.yc,aa,dF hm,dL,bA,List.map_take]
theorem IT(b:Nat)(ts us:List Int):Po.gl b (ts++us)=Po.gl (Po.gl b ts) us:=by
 unfold Po.gl;rw[gZ]
def jd:SpB:=.of 2 (α:=List Int×Int) (λ(ts,b) ds=>ds=[.lst (ts.map .int),.int b]/\0<b/\Lt2 9000000 b/\ts.length<=1000) (λ(ts,b) d=>∃ P B,d=pD P B/\Po.Fm P B/\(∀ k,P.getD k 0*b=ts.getD k 0*B)/\P.length<=ts.length)
def ma:TSd:=(iE [] (iA (ii (dB bTuple bTuple.mono (ii (iW (jc (dSl (ij 0) dNo (kQ (ij 2)))) [4] (gNm 4) jh (ip .FloorDiv (ij 4) (ij 3))) il)) (ii (ip .FloorDiv (ij 1) (ij 3)) il))))
def pe:TSd:=dSq (iX [] (jc (dSl (ij 0) dNo (kQ (ij 2)))) (gNm 4)
 (dSq (dIf [] (iL (iR .Eq (ij 3) (iκ 1)))
 re
 iT)
 (ir [] (gNm 3) (io iY (ii (ij 3) (ii (ij 4) il))))))
 ma
def ph:TSd:=dSq (ir [] (gNm 3) (ij 1))
 pe
def jS:TSd:=dSq (jb (jw (iL (iR .Gt (ij 2) (iκ 0))) (iL (iR .Eq (dIx (ij 0) (ip .Sub (ij 2) (iκ 1))) (iκ 0))))
 (oj [] 2 .Sub (iκ 1)))
 ph
def qx:TSd:=dSq (ir [] (gNm 2) (dB bLen bLen.mono (ii (ij 0) il)))
 jS
theorem ox:Does 5 qx jd:=by
 rintro ds Q hn ⟨⟨ts,b⟩,⟨rfl,hb,hl,hz⟩,q⟩;dsimp only at hb hl hz q;have bn:((b.natAbs:Nat):Int)=b:=by lia
 suffices h1:jS.run (sH Q) [.val (.lst (ts.map .int)),.vi b,.val (.int ts.length),.no,.no] by
  show jS.run (sH Q) [.val (.lst (ts.map .int)),.vi b,.vi ((ts.map D.int).length:Nat),.no,.no];rw[aa];exact h1
 refine dSq.cut (λs=>∃ m:Nat,s=[.val (.lst (ts.map .int)),.vi b,.vi m,.no,.no]/\m<=ts.length/\(∀ j,m<=j->ts.getD j 0=0)/\(m=0\/ts.getD (m-1) 0≠0)) ?_ ?_
 ·refine⟨λs=>∃ m:Nat,s=[.val (.lst (ts.map .int)),.vi b,.vi m,.no,.no]/\m<=ts.length/\∀ j,m<=j->ts.getD j 0=0,λs=>match s with|[_,_,.vi m,_,_]=>m.toNat|_=>0,⟨ts.length,rfl,af _,λj hj=>sk hj⟩,?_⟩;rintro _ ⟨m,rfl,hm,h0⟩;refine v8 (p:=(0:Int)<(m:Nat)) (λc=>?_) (λc=>?_)
  ·obtain⟨k,rfl⟩:∃ k,m=k+1:=⟨m-1,()⟩;have ek:((k+1:Nat):Int)-1=(k:Int):=by lia
   show itD (ts.map D.int) (((k+1:Nat):Int)-1) _;rw[ek];refine sO (sY ()) (v8 (p:=ts.getD k 0=0) (λz=>?_) (λz=>?_))
   ·refine⟨⟨k,?_,(),λj hj=>?_⟩,?_⟩
    ·show [_,_,SD.val (.int (((k+1:Nat):Int)-1)),_,_]=_;rw[ek]
    ·rcases bN hj with w|w
     ·rw[← w];exact z
     ·exact h0 j w
    ·show ((((k+1:Nat):Int)-1)).toNat<(((k+1:Nat):Int)).toNat;lia
   ·exact⟨k+1,rfl,hm,h0,.inr z⟩
  ·exact⟨m,rfl,hm,h0,.inl ()⟩
 ·rintro _ ⟨m,rfl,hm,h0,hlast⟩;obtain⟨fm,wr⟩:=Po.form hb hm h0 hlast;have tail:∀ g:Nat,g=Po.gl b.natAbs (ts.take m)->∀ o,ma.run (sH Q) [.val (.lst (ts.map .int)),.vi b,.vi m,.vi g,o]:=by
   rintro g hg o;rw[← hg] at fm wr;have g0:0<g:=by rw[hg];exact Po.AF () _
   have gle:g<=b.natAbs:=by rw[hg];exact cw () (Po.wU _ _).1
   have cd:∀ x:Int,uA x (g:Int):=λx=>⟨(),9000000,hl.le (by rw[bc];exact gle),by decide⟩;have ec:=BP hm;refine⟨(congrArg (λl:List D=>l.length<=sizeLine) ec).mpr (by rw[aa,bg];exact tP ()),mI (λz=>z.fdiv (g:Int)) (ts.take m),mI.nil,λi d ys hd _ hy=>?_,λys _ hy=>?_⟩
   ·have hd:(tZ (ts.map D.int) none (some (m:Int)))[i]? = some d:=hd;rw[ec] at hd;obtain⟨z,hz,rfl⟩:=wg hd;exact⟨cd _,hy.snoc hz rfl⟩
   ·cases hy.all (by rw[ec,aa]);exact⟨cd _,tz,q _ ⟨_,_,rfl,fm,wr,by rw[aa,bg];lia⟩⟩
  have ec:=BP hm;refine⟨λi s=>∃ o,s=[.val (.lst (ts.map .int)),.vi b,.vi m,.val (.int ((Po.gl b.natAbs ((ts.take m).take i):Nat):Int)),o],⟨.no,?_⟩,?_,?_⟩
  ·show [_,_,_,SD.val (.int b),_]=[_,_,_,SD.val (.int ((b.natAbs:Nat):Int)),_];rw[bn]
  ·rintro i d _ hd ⟨o,rfl⟩;have hd:(tZ (ts.map D.int) none (some (m:Int)))[i]? = some d:=hd;rw[ec] at hd;obtain⟨hi,rfl⟩:=wQ hd;refine v8 (p:=(((Po.gl b.natAbs ((ts.take m).take i):Nat):Int)=1)) (λc=>?_) (λc=>?_)
   ·refine tail _ ?_ _;have e:ts.take m=(ts.take m).take i++(ts.take m).drop i:=(gH i _).symm;have c':Po.gl b.natAbs ((ts.take m).take i)=1:=by lia
    rw[e,IT,List.take_append_of_le_length (by rw[bg];lia),eE (by rw[bg];lia),c',Po.IS]
   ·refine⟨rfl,(_,_),rfl,?_⟩;rintro _ rfl;refine⟨.vi ((ts.take m).getD i 0),?_⟩;rw[tU hi,By];rfl
  ·rintro _ ⟨o,hs⟩;rw[show (tZ (ts.map D.int) none (some (m:Int))).length=(ts.take m).length by rw[ec,aa],bW] at hs;subst hs;exact tail _ rfl _
def nI(F:Nat->Int):Nat->List D->Prop:=λi ys=>∃ rs:List Int,ys=rs.map D.int/\rs.length=i/\∀ k,k<i->rs.getD k 0=F k
theorem nI.nil:nI F 0 []:=⟨[],rfl,rfl,λk hk=>absurd hk (bZ _)⟩
theorem ya(rs:List Int)(z:Int)(i:Nat):(rs++[z]).getD i 0=if i=rs.length then z else rs.getD i 0:=by
 rw[ac,ac];by_cases c:i=rs.length
 ·rw[if_pos c,c];simp
 ·rw[if_neg c];rcases aw i rs.length with h|h
  ·rw[aN h]
  ·rw[bt (by simp;lia),bt h]
theorem nI.snoc(h:nI F i ys)(hz:z=F i):nI F (i+1) (ys++[.int z]):=by
 obtain⟨rs,rfl,l,h⟩:=h;refine⟨rs++[z],by simp,by rw[aj,l];rfl,λk hk=>?_⟩;rw[ya,l];by_cases e:k=i
 ·rw[if_pos e,e];exact hz
 ·rw[if_neg e];exact h k ()
def j9:SpB:=.of 2 (α:=List Int×Int×Nat×Nat×Nat×Nat) (λ(ts,c,n,M,C,Z) ds=>ds=[.tup (ts.map .int),.int c]/\ts.length=n+1/\n<=100/\(∀ i,Lt2 M (ts.getD i 0))/\Lt2 C c/\M<=9000000/\Lt2 Z (ts.getD n 0)/\Z<=9000000/\(C+1)*(n+1)<=4000000/\ts.getD n 0≠0)
 (λ(ts,c,n,M,C,Z) d=>∃ rs:List Int,d = .lst (rs.map .int)/\rs.length=n+1/\∀ i,i<=n->rs.getD i 0=(ts.getD i 0*c^(n-i)).fdiv (ts.getD n 0))
def jT:TSd:=(iE [] (iW (jg (ij 0)) [3,4] (gTp [3,4]) jh (ip .FloorDiv (ip .Mult (ij 4) (io iB (ii (ij 1) (ii (ip .Sub (ij 2) (ij 3)) il)))) (dIx (ij 0) (ij 2)))))
def qy:TSd:=dSq (ir [] (gNm 2) (ip .Sub (dB bLen bLen.mono (ii (ij 0) il)) (iκ 1)))
 jT
theorem oy:Does 5 qy j9:=by
 rintro ds Q hn ⟨⟨ts,c,n,M,C,Z⟩,⟨rfl,ln,hn,hM,hC,M9,hZ,Z9,hz,hL⟩,q⟩;dsimp only at ln hn hM hC M9 hZ Z9 hz hL q;suffices h1:jT.run (sH Q) [.val (.tup (ts.map .int)),.vi c,.vi n,.no,.no] by
  show jT.run (sH Q) [.val (.tup (ts.map .int)),.vi c,.vi (((ts.map D.int).length:Int)-1),.no,.no];rw[aa,ln,show ((n+1:Nat):Int)-1=(n:Int) by lia];exact h1
 have le:(t8 (ts.map D.int)).length=n+1:=by simp[t8,ln]
 refine⟨(congrArg (· <= sizeLine) le).mpr (tP ()),nI (λk=>(ts.getD k 0*c^(n-k)).fdiv (ts.getD n 0)),nI.nil,λi d ys hd _ hy=>?_,λys _ hy=>?_⟩
 ·obtain⟨hi,rfl⟩:=tK hd;have hz2:(C+1)*(n-i+1)<=4000000:=aE (ae _ ()) hz;have hz3:C*(n-i)<=4000000:=aE (aW (gb _) (gb _)) hz2;refine⟨rfl,rfl,(c,n-i,C),⟨?_,hC,(),hz2⟩,?_⟩
  ·show [D.int c,.int ((n:Int)-(i:Int))]=[D.int c,.int ((n-i:Nat):Int)];rw[show (n:Int)-(i:Int)=((n-i:Nat):Int) by lia]
  ·rintro _ rfl;exact⟨⟨M,C*(n-i)+1,hM i,Hv.sL hC (n-i),()⟩,sO (sY ()) ⟨⟨hL,Z,hZ,()⟩,hy.snoc rfl⟩⟩
 ·have hy:nI _ (t8 (ts.map D.int)).length ys:=hy;rw[le] at hy;obtain⟨rs,rfl,l,h⟩:=hy;exact q _ ⟨rs,rfl,l,λi hi=>h i ()⟩
theorem xJ(rs:List Int)(z:Int):rs.map D.int++[D.int z]=(rs++[z]).map D.int:=by simp
theorem BG(h0:l≠0)(h:l*x.fdiv l=x)(hx:Lt2 n x):Lt2 n (x.fdiv l):=by
 refine hx.le ?_;generalize x.fdiv l=y at h;rw[← h,aT];exact aO _ ()
theorem Di{rs:List Int}{n j:Nat}(h:rs.length=n+1)(hj:j<=n):rs.reverse.getD j 0=rs.getD (n-j) 0:=by
 rw[ac,bE (),ac,h];congr 2
theorem FqD.same(h:FqD n b d r)(h':FqD n' b' d' r):d=d'/\∃ t u:Int,d=fD t u:=by
 obtain⟨t,u,rfl,u0,g,lt,lu,e⟩:=h;obtain⟨t',u',rfl,u0',g',lt',lu',e'⟩:=h';have c:=(Qp.tq () ()).mp (e'.symm.trans e);obtain⟨y1,y2⟩:=Fr.uniq (t:=t) (b:=u) () u0' g' (by rw[c]);obtain⟨w1,w2⟩:=Fr.uniq (t:=t) (b:=u) () u0 g rfl;rw[← y1,← y2,w1,w2];exact⟨rfl,_,_,rfl⟩
theorem D3(h:(x.natAbs:Int)<(10:Int)^40):Lt2 133 x:=by
 unfold Lt2;have e:(10:Int)^40=10000000000000000000000000000000000000000:=by decide
 have e2:(2:Nat)^133=10889035741470030830827987437816582766592:=by decide
 rw[e] at h;rw[e2];lia
theorem ug{α:Type}{xs:List α}{j n:Nat}{v:α}(h:xs[n-j]? = some v)(e:xs.length=n)(hj:1<=j)(hn:j<=n):wl xs (-(j:Int))=some v:=by
 have e:y4 xs.length (-(j:Int))=some (n-j):=by
  unfold y4;rw[e,if_neg (),if_pos ()];congr 1;lia
 unfold wl;rw[e];exact h
theorem s9(f:Po.Fm P B)(l:P.length=n+1):P.getD n 0≠0:=by
 rcases f.last with e|e
 ·rw[e] at l;simp at l
 ·rwa [l] at e
def ka:SpB:=.of 2 (α:=Int×Int) (λx ds=>ds=[.int x.1,.int x.2]/\x.2≠0/\Lt2 9000000 x.2) (λx d=>d=fD (Fr.top x.1 x.2) (Fr.bot x.1 x.2))
def pj:TSd:=(iE [] (iA (ii (ip .FloorDiv (ij 0) (ij 2)) (ii (ip .FloorDiv (ij 1) (ij 2)) il))))
def pC:TSd:=dSq (dIf [] (iL (iR .Lt (ij 1) (iκ 0)))
 (ir [] (gNm 2) (jR (ij 2)))
 iT)
 pj
def qz:TSd:=dSq (ir [] (gNm 2) (io iY (ii (ij 0) (ii (ij 1) il))))
 pC
theorem oz:Does 3 qz ka:=by
 rintro ds Q hn ⟨⟨a,b⟩,⟨rfl,h0,hl⟩,q⟩;refine⟨rfl,(a,b),rfl,?_⟩;rintro _ rfl;have fin:∀ p:Int,p=Fr.uZ a b->uA a p/\uA b p/\2<=sizeLine/\Q (.tup [.int (a.fdiv p),.int (b.fdiv p)]):=by
  rintro p rfl;have c:∀ x,uA x (Fr.uZ a b):=λx=>⟨Fr.Bj h0,9000000,hl.le (Fr.Bm h0),by decide⟩;exact⟨c _,c _,tz,q _ rfl⟩
 refine v8 (p:=b<0) (λc=>?_) (λc=>?_)
 ·exact fin _ (by unfold Fr.uZ;rw[if_pos c])
 ·exact fin _ (by unfold Fr.uZ;rw[if_neg c])
theorem FqD.ofN(u0:u≠0)(lt:Lt2 n t)(lu:Lt2 b u):FqD n b (fD (Fr.top t u) (Fr.bot t u)) ((t:Rat) / (u:Rat)):=by
 obtain⟨l1,l2,l3⟩:=Fr.low (t:=t) (b:=u) u0;obtain⟨m1,m2⟩:=Fr.C4 (t:=t) (b:=u) u0;exact⟨_,_,rfl,l1,l3,lt.le m1,lu.le m2,(Qp.tq u0 ()).mpr l2.symm⟩
def n5:SpB:=.of 2 (α:=D×D×Rat×Rat×Nat×Nat×Nat×Nat) (λ(d1,d2,r1,r2,n1,b1,n2,b2) ds=>ds=[d1,d2]/\FqD n1 b1 d1 r1/\FqD n2 b2 d2 r2/\r2≠0/\b1+n2<=9000000/\n1+b2<=9000000)
 (λ(d1,d2,r1,r2,n1,b1,n2,b2) d=>FqD (n1+b2) (b1+n2) d (r1 / r2))
def qX:TSd:=(iE [] (io ka (ii (ip .Mult (dIx (ij 0) (iκ 0)) (dIx (ij 1) (iκ 1))) (ii (ip .Mult (dIx (ij 0) (iκ 1)) (dIx (ij 1) (iκ 0))) il))))
theorem pE:Does 2 qX n5:=by
 rintro ds Q hn ⟨⟨d1,d2,r1,r2,n1,b1,n2,b2⟩,⟨rfl,f1,f2,z2,hb,hn⟩,q⟩;dsimp only at f1 f2 z2 hb hn q;obtain⟨t1,u1,rfl,p1,g1,lt1,lu1,e1⟩:=f1;obtain⟨t2,u2,rfl,p2,g2,lt2,lu2,e2⟩:=f2;have t20:t2≠0:=(Fq.ne (p:=0) p2 e2).mp z2;refine⟨⟨_,_,lt1,lu2,()⟩,⟨_,_,lu1,lt2,()⟩,rfl,(t1*u2,u1*t2),⟨rfl,bh () t20,(lu1.mul lt2).mono ()⟩,?_⟩;rintro _ rfl;have:=FqD.ofN (t:=t1*u2) (u:=u1*t2) (bh () t20) (lt1.mul lu2) (lu1.mul lt2);refine q _ ?_;rw[e1,e2];have e:((t1*u2:Int):Rat) / ((u1*t2:Int):Rat)=(t1:Rat) / (u1:Rat) / ((t2:Rat) / (u2:Rat)):=by
  have h1:(u1:Rat)≠0:=by exact_mod_cast am p1
  have h2:(u2:Rat)≠0:=by exact_mod_cast am p2
  have h3:(t2:Rat)≠0:=by exact_mod_cast t20
  rw[ar,ar];grind
 rw[← e];exact this
def jx:SpB:=.of 2 (α:=List Int×Int×Nat×Nat×Nat) (λ(P,B,k,n,b) ds=>ds=[pD P B,.int k]/\Pc.Pz n b P B/\b<=9000000) (λ(P,B,k,n,b) d=>FqD n b d (Qp.q P B k))
def nc:TSd:=(iE [] (iA (ii (iκ 0) (ii (iκ 1) il))))
def ng:TSd:=dSq (dIf [] (iL (jQ .LtE .Lt (iκ 0) (ij 1) (dB bLen bLen.mono (ii (ij 2) il))))
 (iE [] (io ka (ii (dIx (ij 2) (ij 1)) (ii (ij 3) il))))
 iT)
 nc
def oA:TSd:=dSq (ir [] (gTp [2,3]) (ij 0))
 ng
theorem mL:Does 4 oA jx:=by
 rintro ds Q hn ⟨⟨P,B,k,n,b⟩,⟨rfl,z1,hb⟩,q⟩;dsimp only at z1 hb q;have p1:=z1.fm.pos;have out:P.length<=k->FqD n b (fD 0 1) (Qp.q P B k):=λc=>by
  rw[Qp.ux c];have:=tX (n:=n) (t:=0) (uw _);refine this.mono (af _) ?_;cases b with
  | zero =>
   have:B.natAbs<1:=z1.bot;lia
  | succ b=>lia
 refine⟨rfl,?_⟩;refine v8 (p:=((k:Nat):Int)<((P.map D.int).length:Nat)) (λc=>?_) (λc=>?_)
 ·rw[aa] at c;refine sO (sY ()) ⟨rfl,(P.getD k 0,B),⟨rfl,by show B≠0;lia,z1.bot.mono hb⟩,?_⟩;rintro _ rfl;exact q _ (FqD.of p1 (z1.tops k) z1.bot)
 ·rw[aa] at c;exact⟨tz,q _ (out ())⟩
def qK:SpB:=.of 1 (α:=List Int×Int×Nat×Nat×Nat) (λ(P,B,k,n,b) ds=>ds=[pD P B]/\P.length=k+1/\Pc.Pz n b P B/\b<=9000000) (λ(P,B,k,n,b) d=>FqD n b d (Qp.q P B k))
def rY:TSd:=(iE [] (io jx (ii (ij 0) (ii (io i6 (ii (ij 0) il)) il))))
theorem qY:Does 1 rY qK:=by
 rintro ds Q hn ⟨⟨P,B,k,n,b⟩,⟨rfl,l,z1,hb⟩,q⟩;dsimp only at l z1 hb q;refine⟨rfl,(P,B),rfl,?_⟩;rintro _ rfl;refine⟨rfl,(P,B,k,n,b),⟨?_,z1,hb⟩,q⟩;show [pD P B,.int ((P.length:Int)-1)]=[pD P B,.int (k:Int)];rw[l,show ((k+1:Nat):Int)-1=(k:Int) by lia]
theorem uQ(h:a≠0):0<Fr.cp a b:=by
 unfold Fr.cp;have:0<Int.gcd a b:=Int.gcd_pos_of_ne_zero_left b h;lia
theorem vg(a b:Int):Fr.cp a b∣a/\Fr.cp a b∣b:=by
 unfold Fr.cp;exact⟨Int.gcd_dvd_left ..,ig ..⟩
theorem sZ{b c:Int}(hc:0<c)(hb:0<b)(d:c∣b):b=c*b.fdiv c/\0<b.fdiv c/\(b.fdiv c).natAbs<=b.natAbs:=by
 obtain⟨q,rfl⟩:=d;rw[cy _ ()];have q0:0<q:=by
  rcases dX q 0 with z|z|z
  ·have:=dO hc z;lia
  ·rw[z,bP] at hb;lia
  ·exact z
 refine⟨rfl,q0,?_⟩;rw[aT];exact aO _ ()
theorem Eo{m x:Int}(h:0<m):m∣x*m.fdiv (Fr.cp m x):=by
 have g0:=uQ (a:=m) (b:=x) ();obtain⟨g1,y,hy⟩:=vg m x;obtain⟨e,_,_⟩:=sZ g0 h g1;generalize m.fdiv (Fr.cp m x)=q at *;generalize Fr.cp m x=g at *;refine⟨y,?_⟩;rw[hy,e];grind
def Hs(W:Nat->Int)(v:Nat)(c:Int):Nat->Int:=λj=>W j+(if v<=j then c*Pc.d0 (j-v) else 0)
theorem CY(h:W v=0):Hs W v c v=c:=by
 unfold Hs Pc.d0;rw[h,if_pos (af _),if_pos (a9 _)];lia
theorem xY(h:j≠v):Hs W v c j=W j:=by
 unfold Hs Pc.d0;by_cases z:v<=j
 ·rw[if_pos z,if_neg ()];lia
 ·rw[if_neg z];lia
theorem Jd(W g:Nat->Int)(v:Nat)(c:Int)(k:Nat):Cv.cv (Hs W v c) g k=Cv.cv W g k+(if v<=k then c*g (k-v) else 0):=by
 unfold Hs;rw[Pc.zD,Pc.zu,Pc.zy]
def qA:TSd:=(iE [2,4] (iA (ii (qt (ij 4)) (ii (ij 2) il))))
def kY:TSd:=dSq (jb (iL (iR .Gt (lE 2) (ij 3)))
 (dSq (nR 5 2)
 (dSq (kU [] 4 (ij 5))
 (iX [] (jL (ij 3)) (gNm 6)
 (mV [] 2 (ip .Add (ip .Sub (lE 2) (ij 3)) (ij 6)) .Sub (ip .Mult (ij 5) (dIx (ij 1) (ij 6))))))))
 qA
def qB:TSd:=dSq (jY [] 4 (iN il))
 kY
def rj:TSd:=dSq (pY [] 2 3 (jC (ij 0)) (ip .Sub (dB bLen bLen.mono (ii (ij 1) il)) (iκ 1)))
 qB
theorem Gd{l:List Int}{k:Nat}(h:k<l.length-1):l.dropLast.getD k 0=l.getD k 0:=by
 rw[ac,ac,eV,dJ,if_pos h]
theorem Dd{l:List Int}{j k:Nat}{z:Int}(h:j<l.length):(l.set j z).getD k 0=if k=j then z else l.getD k 0:=by
 rw[ac,ac,aQ];by_cases c:j=k
 ·subst c;rw[if_pos rfl,if_pos h,if_pos rfl];rfl
 ·rw[if_neg c,if_neg (Ne.symm c)]
theorem yI{l:List D}{n:Nat}{d:D}{F:D->Prop}(h:l[n]? = some d)(q:F d):(match l[n]? with|some x=>F x|none=>False):=by
 rw[h];exact q
end Dp
namespace Dg
open Cv
theorem MN(f g:Nat->Int)(e:Int)(k:Nat):cv f g k*e=sm (λj=>f j*g (k-j)*e) (k+1):=(um ..).symm
theorem x6(hb:∀ j,j<=s->b j*Gs=G j*c^(s-j))(hG:∀ j,s<j->G j=0)(hb0:∀ j,s<j->b j=0)(hl:Gs*ov=un*U)(u0:0<un)(ht:s*(t+1)<=n)
  (hR:∀ k,R k*(B*un^(t+1)*c^(n-s*(t+1)))=L k*c^k*ov^(t+1)*C) (k:Nat):cv R G k*(B*un^t*c^(n-s*t))=cv L b k*(c^k*ov^t*(C*U)):=by
 have st:s*(t+1)=s*t+s:=bI s t;have ec:c^(n-s*t)=c^(n-s*(t+1))*c^s:=by
  rw[← bS];congr 1;lia
 have key:cv R G k*(B*un^(t+1)*c^(n-s*(t+1))*c^s)=cv L b k*(c^k*ov^(t+1)*C*Gs):=by
  rw[MN,MN];refine sF λj hj=>?_;rcases aw s (k-j) with z|z
  ·rw[hG _ z,hb0 _ z];simp
  ·have e1:=hR j;have e2:=hb (k-j) z;have e3:c^s=c^(s-(k-j))*c^(k-j):=by
    rw[← bS];congr 1;lia
   have e4:c^k=c^j*c^(k-j):=by
    rw[← bS];congr 1;lia
   rw[e3,e4];generalize c^(s-(k-j))=x at *;generalize c^(k-j)=y at *;generalize B*un^(t+1)*c^(n-s*(t+1))=w at *;generalize ov^(t+1)=v at *;generalize c^j=cj at *
   calc R j*G (k-j)*(w*(x*y))=(R j*w)*(G (k-j)*x)*y:=by grind
    _=L j*b (k-j)*(cj*y*v*C*Gs):=by rw[e1,← e2];grind
 refine av (am u0) ?_
 calc cv R G k*(B*un^t*c^(n-s*t))*un=cv R G k*(B*un^(t+1)*c^(n-s*(t+1))*c^s):=by rw[ec,a6];grind
  _=cv L b k*(c^k*ov^(t+1)*C*Gs):=key
  _=cv L b k*(c^k*ov^t*(C*U))*un:=by
   rw[a6];have:cv L b k*(c^k*(ov^t*ov)*C*Gs)=cv L b k*(c^k*ov^t*C)*(Gs*ov):=by grind
   rw[this,hl];grind
theorem JI(h:X*E=Y*(w*(C*U))){p D:Int}(hp:p*E=D*w*p2):(X*p2+p*(C*U))*E=(D+Y)*w*(C*U*p2):=by
 calc (X*p2+p*(C*U))*E=(X*E)*p2+(p*E)*(C*U):=by grind
  _=(D+Y)*w*(C*U*p2):=by rw[h,hp];grind
end Dg
namespace Dp
open PySem L2
theorem uf(h:Lt2 M z)(hk:k<=m):Lt2 (M*m+1) (z^k):=(Hv.sL h k).mono (gP (ae _ hk) 1)
theorem uO(ts:List Int):(t8 (ts.map D.int)).length=ts.length:=by simp[t8]
theorem BT{Ps:List (List Int×Int)}{i:Nat}{d:D}(h:(Ps.map λp=>pD p.1 p.2)[i]? = some d):∃ p,Ps[i]? = some p/\d=pD p.1 p.2:=by
 rw[aR] at h;obtain⟨p,hp,rfl⟩:=ab.mp h;exact⟨p,hp,rfl⟩
theorem EV{b r:Int}(hb:0<b)(hr:0<r):0<b*r.fdiv (Fr.cp b r)/\r∣b*r.fdiv (Fr.cp b r):=by
 have g0:=uQ (a:=b) (b:=r) ();obtain⟨g1,g2⟩:=vg b r;obtain⟨e,q0,_⟩:=sZ g0 hr g2;refine⟨ay hb q0,?_⟩;obtain⟨c,hc⟩:=g1;refine⟨c,?_⟩;generalize r.fdiv (Fr.cp b r)=q at *;generalize Fr.cp b r=g at *;subst hc e;grind
abbrev JC(fs:List (Int×Int)):List D:=fs.map λf=>fD f.1 f.2
theorem BU{i:Nat}{d:D}(h:(JC fs)[i]? = some d):∃ f,fs[i]? = some f/\d=fD f.1 f.2:=by
 rw[aR] at h;obtain⟨p,hp,rfl⟩:=ab.mp h;exact⟨p,hp,rfl⟩
def Sq(x:D)(A:List Int):Prop:=x = .lst (A.map .int)\/x = .tup (A.map .int)
theorem Sq.it(h:Sq x A):∀ R:List D->Prop,R (A.map .int)->itemsD x R:=λR r=>by
 rcases h with rfl|rfl
 ·exact r
 ·exact r
def jN:SpB:=.of 2 (α:=D×D×List Int×List Int) (λ(x,y,A,B) ds=>ds=[x,y]/\Sq x A/\Sq y B/\A.length<=1000/\B.length<=1000)
 (λ(x,y,A,B) d=>∃ rs:List Int,d = .lst (rs.map .int)/\rs.length=max A.length B.length/\∀ k,rs.getD k 0=A.getD k 0+B.getD k 0)
def md:TSd:=(iE [4] (ij 4))
def me:TSd:=dSq (iX [] (jg (ij 3)) (gTp [5,6])
 (mV [] 4 (ij 5) .Add (ij 6)))
 md
def iQ:TSd:=dSq (jY [] 4 (jC (ij 2)))
 me
def nh:TSd:=dSq (ir [] (gTp [2,3]) (qU (iL (iR .GtE (dB bLen bLen.mono (ii (ij 0) il)) (dB bLen bLen.mono (ii (ij 1) il)))) (iA (ii (ij 0) (ii (ij 1) il))) (iA (ii (ij 1) (ii (ij 0) il)))))
 iQ
theorem Gw{s0 s1:SD}{x y:D}{Q:D->Prop}(hx:Sq x L)(hy:Sq y S)(hl:S.length<=L.length)(q:∀ rs:List Int,rs.length=L.length->(∀ k,rs.getD k 0=L.getD k 0+S.getD k 0)->Q (.lst (rs.map .int))) :
  iQ.run (sH Q) [s0,s1,.val x,.val y,.no,.no,.no]:=by
 refine hx.it _ (hy.it _ ⟨λi s=>∃(o5 o6:SD) (rs:List Int),s=[s0,s1,.val x,.val y,.own (rs.map .int),o5,o6]/\rs.length=L.length/\∀ k,rs.getD k 0=L.getD k 0+(if k<i then S.getD k 0 else 0),⟨.no,.no,L,rfl,rfl,λk=>by rw[if_neg (),bQ]⟩,?_,?_⟩)
 ·rintro i d _ hd ⟨o5,o6,rs,rfl,lr,hr⟩;obtain⟨hi,rfl⟩:=tK hd;refine⟨rfl,by show (0:Int)<=((i:Nat):Int);lia,?_⟩;refine yI (d:=.int (rs.getD i 0)) (sY (ts:=rs) (i:=i) ()) ⟨.vi (i:Nat),.vi (S.getD i 0),rs.set i (rs.getD i 0+S.getD i 0),?_,by rw[aS,lr],λk=>?_⟩
  ·show [s0,s1,.val x,.val y,.own ((rs.map D.int).set i (.int (rs.getD i 0+S.getD i 0))),.vi (i:Nat),.vi (S.getD i 0)]=_;rw[map_set]
  ·rw[Dd ()];by_cases e:k=i
   ·rw[if_pos e,e,hr i,if_neg (),if_pos ()];lia
   ·rw[if_neg e,hr k];by_cases c:k<i
    ·rw[if_pos c,if_pos ()]
    ·rw[if_neg c,if_neg ()]
 ·rintro _ ⟨o5,o6,rs,rfl,lr,hr⟩;refine q rs lr λk=>?_;have h:=hr k;rw[uO] at h;rw[h];by_cases c:k<S.length
  ·rw[if_pos c]
  ·rw[if_neg c,sk (fs:=S) ()]
theorem kZ:Does 7 nh jN:=by
 rintro ds Q hn ⟨⟨x,y,A,B⟩,⟨rfl,hx,hy,la,lb⟩,q⟩;dsimp only at hx hy la lb q;have g1:B.length<=A.length->iQ.run (sH Q) [.val x,.val y,.val x,.val y,.no,.no,.no]:=λc=>Gw hx hy c λrs lr hr=>q _ ⟨rs,rfl,by rw[lr];lia,hr⟩;have g2:A.length<=B.length->iQ.run (sH Q) [.val x,.val y,.val y,.val x,.no,.no,.no]:=λc=>Gw hy hx c λrs lr hr=>q _ ⟨rs,rfl,by rw[lr];lia,λk=>by rw[hr k];lia⟩;have key:(if decide ((((B.map D.int).length:Nat):Int)<=(((A.map D.int).length:Nat):Int))=true then (2<=sizeLine/\2=2/\iQ.run (sH Q) [.val x,.val y,.val x,.val y,.no,.no,.no]) else (2<=sizeLine/\2=2/\iQ.run (sH Q) [.val x,.val y,.val y,.val x,.no,.no,.no])):=by
  refine v8 (λc=>⟨tz,rfl,g1 ?_⟩) (λc=>⟨tz,rfl,g2 ?_⟩)
  ·rw[aa,aa] at c;lia
  ·rw[aa,aa] at c;lia
 rcases hx with rfl|rfl <;> rcases hy with rfl|rfl <;> exact key
def jy:SpB:=.of 2 (α:=D×D×List Int×List Int×Nat×Nat) (λ(x,y,A,B,n,m) ds=>ds=[x,y]/\Sq x A/\Sq y B/\A.length<=450/\B.length<=450/\(∀ i,Lt2 n (A.getD i 0))/\(∀ i,Lt2 m (B.getD i 0))/\n+m<=100000000)
 (λ(x,y,A,B,n,m) d=>∃ rs:List Int,d = .lst (rs.map .int)/\rs.length<=A.length+B.length/\∀ k,rs.getD k 0=Cv.cv (Cv.fn A) (Cv.fn B) k)
def kz:TSd:=(iE [2] (ij 2))
def i8:TSd:=dSq (iX [] (jg (ij 0)) (gTp [3,4])
 (iX [] (jg (ij 1)) (gTp [5,6])
 (mV [] 2 (ip .Add (ij 3) (ij 5)) .Add (ip .Mult (ij 4) (ij 6)))))
 kz
def kA:TSd:=dSq (jY [] 2 (ip .Mult (iN (ii (iκ 0) il)) (ip .Sub (ip .Add (dB bLen bLen.mono (ii (ij 0) il)) (dB bLen bLen.mono (ii (ij 1) il))) (iκ 1))))
 i8
def mf:TSd:=dSq (dIf [] (pX (j5 (mF (ij 0))) (j5 (mF (ij 1))))
 (iE [] (iN il))
 iT)
 kA
theorem JJ{x y:D}{n m:Nat}{Q:D->Prop}(hx:Sq x A)(hy:Sq y B)(a0:0<A.length)(b0:0<B.length)(hA:∀ i,Lt2 n (A.getD i 0))(hB:∀ i,Lt2 m (B.getD i 0))(hnm:n+m<=100000000)(q:∀ rs:List Int,rs.length<=A.length+B.length->(∀ k,rs.getD k 0=Cv.cv (Cv.fn A) (Cv.fn B) k)->Q (.lst (rs.map .int))) :
  i8.run (sH Q) [.val x,.val y,.own ((List.replicate (A.length+B.length-1) (0:Int)).map .int),.no,.no,.no,.no]:=by
 refine hx.it _ ⟨λi s=>∃(rs:List Int) (o3 o4 o5 o6:SD),s=[.val x,.val y,.own (rs.map .int),o3,o4,o5,o6]/\rs.length=A.length+B.length-1/\∀ k,rs.getD k 0=Cv.tm (Cv.fn A) (Cv.fn B) i k,⟨_,_,_,_,_,rfl,aI,λk=>wC _ _⟩,?_,?_⟩
 ·rintro i d _ hd ⟨rs,o3,o4,o5,o6,rfl,lr,hr⟩;obtain⟨hi,rfl⟩:=tK hd;refine⟨rfl,hy.it _ ⟨λk s=>∃(rs:List Int) (o5 o6:SD),s=[.val x,.val y,.own (rs.map .int),.vi (i:Nat),.vi (A.getD i 0),o5,o6]/\rs.length=A.length+B.length-1/\∀ m,rs.getD m 0=Cv.tm (Cv.fn A) (Cv.fn B) i m+(if i<=m/\m-i<k then Cv.fn A i*Cv.fn B (m-i) else 0),⟨rs,_,_,rfl,lr,λm=>by rw[hr m,if_neg (),bQ]⟩,?_,?_⟩⟩
  ·rintro k d _ hd ⟨rs',o5',o6',rfl,lr',hr4⟩;obtain⟨hk,rfl⟩:=tK hd;have hiF:i+k<rs'.length:=by lia
   refine⟨rfl,by show (0:Int)<=(i:Int)+(k:Int);lia,?_⟩;refine yI (d:=.int (rs'.getD (i+k) 0)) (sY (ts:=rs') (i:=i+k) hiF) ⟨⟨n,m,hA i,hB k,hnm⟩,rs'.set (i+k) (rs'.getD (i+k) 0+A.getD i 0*B.getD k 0),.vi (k:Nat),.vi (B.getD k 0),?_,by rw[aS];exact lr',λm=>?_⟩
   ·show [SD.val x,.val y,.own ((rs'.map D.int).set (i+k) (.int (rs'.getD (i+k) 0+A.getD i 0*B.getD k 0))),.vi (i:Nat),.vi (A.getD i 0),.vi (k:Nat),.vi (B.getD k 0)]=_;rw[map_set]
   ·rw[vo hiF];by_cases e:m=i+k
    ·subst e;rw[if_pos rfl,hr4,if_neg (),if_pos ⟨(),()⟩,show i+k-i=k by lia,bQ];rfl
    ·rw[if_neg e,hr4];congr 1;by_cases c:i<=m/\m-i<k
     ·rw[if_pos c,if_pos ⟨c.1,()⟩]
     ·rw[if_neg c,if_neg ()]
  ·rintro _ ⟨rs',o5',o6',rfl,lr',hr4⟩;rw[sM,aa] at hr4;refine⟨rs',_,_,_,_,rfl,lr',λm=>?_⟩;rw[hr4 m,Cv.x8];congr 1;by_cases c:i<=m
   ·rw[if_pos c];by_cases c':m-i<B.length
    ·rw[if_pos ⟨c,c'⟩]
    ·rw[if_neg (λz=>c' z.2),Cv.sx (P:=B) (),bP]
   ·rw[if_neg c,if_neg (λz=>c z.1)]
 ·rintro _ ⟨rs,o3,o4,o5,o6,rfl,lr,hr⟩;rw[sM,aa] at hr;exact q rs () λk=>by rw[hr k,Cv.uD λj h=>Cv.sx h]
theorem kb:Does 7 mf jy:=by
 rintro ds Q hn ⟨⟨x,y,A,B,n,m⟩,⟨rfl,hx,hy,la,lb,hA,hB,hnm⟩,q⟩;dsimp only at hx hy la lb hA hB hnm q;have none:(A=[]\/B=[])->0<=sizeLine/\Q (.lst []):=λh=>⟨aB _,q _ ⟨[],rfl,aB _,λk=>by
  rcases h with rfl|rfl
  ·exact (Cv.v5 λ_=>rfl).symm
  ·exact (Cv.Ez λ_=>rfl).symm⟩⟩
 cases A with
 | nil=>rcases hx with rfl|rfl <;> exact none (.inl rfl)
 | cons a A =>
  cases B with
  | nil=>rcases hx with rfl|rfl <;> rcases hy with rfl|rfl <;> exact none (.inr rfl)
  | cons b B =>
   have go:=JJ (Q:=Q) hx hy (fk _) (fk _) hA hB hnm λrs lr hr=>q _ ⟨rs,rfl,lr,hr⟩;have e0:((((a::A).map D.int).length:Nat):Int)+((((b::B).map D.int).length:Nat):Int)-1=(((a::A).length+(b::B).length-1:Nat):Int):=by
    rw[aa,aa,br,br];lia
   have lN:(a::A).length+(b::B).length-1<=1000:=by lia
   have key:1<=sizeLine /\ -(2^63)<=((((a::A).map D.int).length:Nat):Int)+((((b::B).map D.int).length:Nat):Int)-1/\((((a::A).map D.int).length:Nat):Int)+((((b::B).map D.int).length:Nat):Int)-1<2^63/\1*(((((a::A).map D.int).length:Nat):Int)+((((b::B).map D.int).length:Nat):Int)-1).toNat<=sizeLine /\
     i8.run (sH Q) [.val x,.val y,.own (List.replicate (((((a::A).map D.int).length:Nat):Int)+((((b::B).map D.int).length:Nat):Int)-1).toNat [D.int 0]).flatten,.no,.no,.no,.no]:=by
    rw[e0,aJ,tj];generalize (a::A).length+(b::B).length-1=z at *;exact⟨xn,(),(),tP (),go⟩
   rcases hx with rfl|rfl <;> rcases hy with rfl|rfl <;> exact key
theorem IG{A:List Int}{c:Int}(k:Nat):(A.map λz=>z*c).getD k 0=A.getD k 0*c:=by
 rw[ac,ac,aR];cases A[k]? <;> simp
theorem ri:((a*b:Int):Rat)=(a:Rat)*(b:Rat):=ar a b
theorem EA(hA:∀ k,Lt2 n (A.getD k 0))(hP:∀ k,Lt2 m (P.getD k 0))(la:A.length<=250)(lp:P.length<=250)(k:Nat):Lt2 (n+m+9) (Cv.cv (Cv.fn A) (Cv.fn P) k):=by
 rcases aw k 510 with z|z
 ·exact Cv.BN (b:=9) hA hP ()
 ·rw[Cv.tD (a:=A.length) (b:=P.length) (λj hj=>Cv.sx hj) (λj hj=>Cv.sx hj) ()];exact uw _
def rl:SpB:=.of 2 (α:=List Int×Int×List Int×Int×Nat×Nat×Nat×Nat) (λ(P,B,P',B',n,b,m,c) ds=>ds=[pD P B,pD P' B']/\Pc.Pz n b P B/\Pc.Pz m c P' B'/\b+c*P.length<=8900000/\n+(m+c+10)*(P.length+1)<=90000000/\P.length*P'.length<=190/\P.length<=190/\P'.length<=190)
 (λ(P,B,P',B',n,b,m,c) d=>∃ R C,d=pD R C/\Pc.Of P B P' B' R C)
def rE:TSd:=(iE [] (io jd (ii (iW (jc (ij 6)) [8] (gNm 8) jh (ip .Mult (ij 8) (ij 5))) (ii (ip .Mult (ij 3) (ij 7)) il))))
def rF:TSd:=dSq (iX [] (mU (ij 2)) (gNm 8)
 (dSq (ir [] (gNm 6) (io jN (ii (io jy (ii (ij 6) (ii (ij 4) il))) (ii (iN (ii (ip .Mult (ij 8) (ij 7)) il)) il))))
 (oj [] 7 .Mult (ij 5))))
 rE
def rG:TSd:=dSq (kT [] 6 7 (iN il) (iκ 1))
 rF
def rH:TSd:=dSq (ir [] (gTp [4,5]) (ij 1))
 rG
def r9:TSd:=dSq (ir [] (gTp [2,3]) (ij 0))
 rH
theorem rq:Does 9 r9 rl:=by
 rintro ds Q hn ⟨⟨P1,B1,P2,B2,n,b,m,c⟩,⟨rfl,G1,G2,hb,hn,hl,l1,l2⟩,q⟩;dsimp only at G1 G2 hb hn hl l1 l2 q;have p1:=G1.fm.pos;have p2:=G2.fm.pos;have hL:(m+c+10)*P1.length+(m+c+10)=(m+c+10)*(P1.length+1):=by rw[bI]
 have hg:∀ k,P2.length<=k->Cv.fn P2 k=0:=λk h=>Cv.sx h;refine⟨rfl,rfl,aB _,λi s=>∃(rs:List Int) (o:SD),s=[.val (pD P1 B1),.val (pD P2 B2),.val (.tup (P1.map .int)),.vi B1,.val (.tup (P2.map .int)),.vi B2,.val (.lst (rs.map .int)),.vi (B2^i),o]/\rs.length<=i*P2.length+1/\(∀ k,Lt2 (n+(m+c+10)*i+1) (rs.getD k 0))/\∀ k,Pc.pc (Cv.fn P1) (Cv.fn P2) B2 P1.length k=B2^i*Pc.pc (Cv.fn P1) (Cv.fn P2) B2 (P1.length-i) k+B2*Cv.cv (Pc.cp (Cv.fn P2) (P1.length-i)) (Cv.fn rs) k,
  ⟨[],.no,by rw[aP];rfl,aB _,λk=>by rw[sk (fs:=([]:List Int)) (aB _)];exact uw _,λk=>by rw[Cv.Ez λj=>Cv.sx (aB _)];simp⟩,?_,?_⟩
 ·rintro i d _ hd ⟨rs,o,rfl,lr,sr,hr1⟩;have hd:(P1.map D.int).reverse[i]? = some d:=hd;have hi:i<P1.length:=by have:=(ak.mp hd).1;simpa using this
  rw[bE (by rw[aa];exact hi),aa] at hd;obtain⟨_,rfl⟩:=wQ hd;have hp1:=G1.tops (P1.length-1-i);have li:(m+c+10)*(i+1)<=(m+c+10)*P1.length:=ae _ hi;rw[bI] at li;have li2:(i+1)*P2.length<=P1.length*P2.length:=aV _ hi;rw[bj] at li2;have li3:c*i<=(m+c+10)*i:=aV _ ();have ls:=Hv.sL G2.bot i;refine⟨rfl,(_,_,rs,P2,n+(m+c+10)*i+1,m),⟨rfl,.inl rfl,.inr rfl,by show rs.length<=450;lia,by show P2.length<=450;lia,sr,G2.tops,by show n+(m+c+10)*i+1+m<=100000000;lia⟩,?_⟩;rintro _ ⟨qs,rfl,lq,hq⟩;have lq:qs.length<=rs.length+P2.length:=lq;refine⟨⟨_,_,hp1,ls,()⟩,xn,rfl,(_,_,qs,[P1.getD (P1.length-1-i) 0*B2^i]),⟨rfl,.inl rfl,.inl rfl,by show qs.length<=1000;lia,by show 1<=1000;decide⟩,?_⟩;rintro _ ⟨ws,rfl,lw,hw⟩;have lw:ws.length=max qs.length 1:=lw;have hw0:∀ j,Cv.fn ws j=Cv.cv (Cv.fn rs) (Cv.fn P2) j+(if j=0 then Cv.fn P1 (P1.length-1-i)*B2^i else 0):=λj=>by
   have e:ws.getD j 0=qs.getD j 0+[P1.getD (P1.length-1-i) 0*B2^i].getD j 0:=hw j;rw[hq j] at e;cases j with
   | zero=>exact e
   | succ j=>rw[if_neg ()];rw[sk (fs:=[P1.getD (P1.length-1-i) 0*B2^i]) (by simp)] at e;exact e
  refine⟨⟨_,_,ls,G2.bot,()⟩,ws,_,by rw[a6];rfl,?_,λk=>?_,λk=>?_⟩
  ·rw[bj];lia
  ·show Lt2 _ (Cv.fn ws k);rw[hw0 k];have y1:Lt2 (n+(m+c+10)*i+1+m+9) (Cv.cv (Cv.fn rs) (Cv.fn P2) k):=EA sr G2.tops () () k;have y2:Lt2 (n+(m+c+10)*i+1+m+9) (if k=0 then Cv.fn P1 (P1.length-1-i)*B2^i else 0):=by
    split
    ·exact (hp1.mul ls).mono ()
    ·exact uw _
   exact (y1.add y2).mono (by rw[bI];lia)
  ·exact Pc.D9 hg hi hr1 _ hw0
 ·rintro _ ⟨rs,o,rfl,lr,sr,hr1⟩;rw[a5,aa] at lr sr hr1 ⊢;have hr2:∀ k,Pc.pc (Cv.fn P1) (Cv.fn P2) B2 P1.length k=B2*rs.getD k 0:=λk=>by
   rw[hr1 k,a9];show _*0+B2*Cv.cv Pc.d0 (Cv.fn rs) k=_;rw[Pc.zy,bP,bO];rfl
  have ls:=Hv.sL G2.bot P1.length;have Y:=ay p1 (Hv.pow_pos p2 P1.length);refine⟨(congrArg (· <= sizeLine) (aa _)).mpr (tP ()),mI (λz=>z*B2) rs,mI.nil,λi d ys hd _ hy=>?_,λys _ hy=>?_⟩
  ·obtain⟨z,hz,rfl⟩:=wg hd;have e:rs.getD i 0=z:=sV hz;exact⟨⟨_,_,e ▸ sr i,G2.bot,()⟩,hy.snoc hz rfl⟩
  cases hy.all (by rw[aa]);refine⟨⟨_,_,G1.bot,ls,()⟩,rfl,(rs.map (λz=>z*B2),B1*B2^P1.length),⟨rfl,Y,(G1.bot.mul ls).mono (),by show (rs.map _).length<=1000;rw[aa];lia⟩,?_⟩;rintro _ ⟨R,C,rfl,fm,hw,hle⟩;refine q _ ⟨R,C,rfl,fm,λk=>?_⟩;have h:R.getD k 0*(B1*B2^P1.length)=(rs.map λz=>z*B2).getD k 0*C:=hw k;rw[h,IG,hr2 k,bo B2]
variable{P:Program}{w:World}{K:Frag}{mg:Str->Option Value}{base:Heap}
def uk(K:Frag)(n:Nat):Sp:=λvs H Q _=>∃(d:DV) (x y:V),vs=[x,y]/\Rep K H d x/\Rep K H d y/\d.dp<n/\d.wd<=100000/\∀ H',Same H H'->Q (.bl true) H'
def i7(n:Nat):SpB:=.of 2 (α:=D) (λd ds=>ds=[d,d]/\d.pl=true/\d.dp<n/\d.dv.wd<=100000) (λ_ r=>r = .bl true)
theorem A2(g:Def P w K mg base "_law_alike" k ps (uk K n)):Def P w K mg base "_law_alike" k ps (yM K (i7 n).n (i7 n).run):=by
 obtain⟨f,fd,F,r⟩:=g.ex;refine⟨f,fd,F.imp (λvs H Q E h=>?_),r⟩;obtain⟨hn,f,O,ds,fl,fO,al,lO,rp,d,⟨rfl,hp,hd,hw⟩,q⟩:=h;obtain⟨v,v',rfl,e1,e2⟩:=Rps.two rp;exact⟨d.dv,v,v',rfl,Rp.rep hp e1,Rp.rep hp e2,by rw[D.dv_dp];exact hd,hw,λH' s=>q (.bl true) rfl _ H' ⟨s.sm,fl.same s⟩ rfl⟩
end Dp
namespace Qp
open L2 Cv Hv Pc
def tc(r:Rat):Nat->Nat->Rat
 | 0,k=>if k=0 then 2 else 0
 | 1,k=>if k=1 then 1 else 0
 | n+2,k=>(if k=0 then 0 else tc r (n+1) (k-1))-tc r n k*r
theorem tc.two(r:Rat)(n k:Nat):tc r (n+2) k=(if k=0 then 0 else tc r (n+1) (k-1))-tc r n k*r:=by rw[tc]
def er(f:Nat->Rat)(x:Rat):Nat->Rat
 | 0=>0
 | n+1=>er f x n+f n*x^n
theorem IY(h:∀ k,q P B k=f k)(x:Rat):∀ n,er f x n=ei (fn P) x n / (B:Rat)
 | 0=>by unfold er ei;grind
 | n+1=>by
  rw[er,ei,IY h x n,← h n];show _+(((P.getD n 0:Int):Rat) / (B:Rat))*_=(_+((P.getD n 0:Int):Rat)*_) / _;grind
theorem Ai(u0:0<u)(lt:Lt2 M t)(lu:Lt2 M u):∀ n:Nat,∃ F:Nat->Int,(∀ k,tc ((t:Rat) / (u:Rat)) n k=((F k:Int):Rat) / ((u^n:Int):Rat))/\(∀ k,Lt2 ((2*M+1)*n+2) (F k))/\∀ k,n<k->F k=0
 | 0=>⟨λk=>if k=0 then 2 else 0,λk=>by
   rw[aP];show (if k=0 then (2:Rat) else 0)=(((if k=0 then 2 else 0):Int):Rat) / _;by_cases c:k=0
   ·rw[if_pos c,if_pos c];show (2:Rat)=(2:Rat) / 1;grind
   ·rw[if_neg c,if_neg c];show (0:Rat)=(0:Rat) / 1;grind,λk=>by
   show Lt2 _ (if k=0 then 2 else 0);split
   ·exact (show Lt2 2 2 by unfold Lt2;decide).mono ()
   ·exact bM (by decide),λk hk=>if_neg ()⟩
 | 1=>⟨λk=>if k=1 then u else 0,λk=>by
   rw[a6,aP,bK];show (if k=1 then (1:Rat) else 0)=(((if k=1 then u else 0):Int):Rat) / _;have:=so u0;by_cases c:k=1
   ·rw[if_pos c,if_pos c];grind
   ·rw[if_neg c,if_neg c];show (0:Rat)=(0:Rat) / (u:Rat);grind,λk=>by
   show Lt2 _ (if k=1 then u else 0);split
   ·exact lu.mono ()
   ·exact bM (by decide),λk hk=>if_neg ()⟩
 | n+2=>by
  obtain⟨F,f1,f2,f3⟩:=Ai u0 lt lu (n+1);obtain⟨G,g1,g2,g3⟩:=Ai u0 lt lu n;have nu:=so u0;have np:=va nu n;have s2:Lt2 (2*M) (t*u):=(lt.mul lu).mono ();refine⟨λk=>(if k=0 then 0 else F (k-1))*u-G k*(t*u),λk=>?_,λk=>?_,λk hk=>?_⟩
  ·rw[tc.two,g1 k];simp only[eQ,ar,cL];have e1:(u:Rat)^(n+2)=(u:Rat)^n*u*u:=by grind
   have e2:(u:Rat)^(n+1)=(u:Rat)^n*u:=by grind
   by_cases c:k=0
   ·rw[if_pos c,if_pos c,e1];have:((0:Int):Rat)=0:=rfl;rw[this];generalize (u:Rat)^n=w at *;grind
   ·rw[if_neg c,if_neg c,f1 (k-1),cL,e1,e2];generalize (u:Rat)^n=w at *;grind
  ·have a:Lt2 ((2*M+1)*(n+1)+2+M) ((if k=0 then 0 else F (k-1))*u):=by
    refine Lt2.mul ?_ lu;split
    ·exact bM (by decide)
    ·exact f2 _
   have b:=(g2 k).mul s2;refine ((a.mono (m:=(2*M+1)*n+2+(2*M)+(M+1)) ?_).sub (b.mono ?_)).mono ?_ <;> grind
  ·show (if k=0 then 0 else F (k-1))*u-G k*(t*u)=0;rw[if_neg (),f3 (k-1) (),g3 k ()];simp
end Qp
namespace Dp
open PySem L2
theorem Nj(p:0<B)(c:0<C)(h:∀ k,R.getD k 0*(1*B)=Cv.cv (Cv.fn Pc.X) (Cv.fn P) k*C)(k:Nat):Qp.q R C k=if k=0 then 0 else Qp.q P B (k-1):=by
 rw[Qp.ye (f:=λk=>Cv.cv (Cv.fn Pc.X) (Cv.fn P) k) c () h k,Cv.tL,Pc.KM (Cv.fn P) k,bK];by_cases e:k=0
 ·rw[if_pos e,if_pos e];show (0:Rat) / _=0;grind
 ·rw[if_neg e,if_neg e];rfl
def Tk(r:Rat)(n:Nat)(P:List Int)(B:Int):Prop:=Po.Fm P B/\∀ k,Qp.q P B k=Qp.tc r n k
theorem Tk.pz(h:Tk r n P B)(f:FqD M M d r):Pc.Pz ((2*M+1)*n+2) (M*n+1) P B/\P.length<=n+1:=by
 obtain⟨t,u,_,u0,_,lt,lu,rfl⟩:=f;obtain⟨F,f1,f2,f3⟩:=Qp.Ai u0 lt lu n;have p:0<u^n:=bw u0;have hw:∀ k,P.getD k 0*u^n=F k*B:=λk=>(Qp.tq (am h.1.pos) (am p)).mp ((h.2 k).trans (f1 k));exact⟨Pc.Pz.of h.1 p hw f2 (Hv.sL lu n),Pc.sJ h.1 p hw λk hk=>f3 k ()⟩
theorem Tk.szs(h:Tk r n P B)(f:FqD M M d r)(hM:M<=21)(hn:n<=13):Pc.Pz 570 280 P B/\P.length<=14:=by
 obtain⟨a,b⟩:=h.pz f;have:M*n<=21*13:=aW hM hn;have:(2*M+1)*n<=43*13:=aW () hn;exact⟨a.mono () (),()⟩
theorem Tk.zero:Tk r 0 [2] 1:=⟨⟨by decide,.inr (by decide),by decide⟩,λk=>by
 cases k with
 | zero=>show (2:Rat) / 1=2;grind
 | succ k=>show ((([2]:List Int).getD (k+1) 0:Int):Rat) / ((1:Int):Rat)=0;rw[bV,sk (aB _)];show (0:Rat) / 1=0;grind⟩
theorem Tk.one:Tk r 1 Pc.X 1:=⟨Pc.EX.fm,λk=>by
 match k with
 | 0=>show (0:Rat) / 1=0;grind
 | 1=>show (1:Rat) / 1=1;grind
 | k+2 =>
  rw[Qp.ux (by show 2<=k+2;lia)];show 0=if k+2=1 then 1 else 0;rw[if_neg ()]⟩
def rJ:SpB:=.of 2 (α:=D×D×Rat×Rat×Nat×Nat×Nat×Nat) (λ(d1,d2,r1,r2,n1,b1,n2,b2) ds=>ds=[d1,d2]/\FqD n1 b1 d1 r1/\FqD n2 b2 d2 r2/\b1+b2<=9000000/\n1+b2<=9000000/\n2+b1<=9000000)
 (λ(d1,d2,r1,r2,n1,b1,n2,b2) d=>FqD (n1+b2+(n2+b1)+1) (b1+b2) d (r1+r2))
def iP:SpB:=.of 2 (α:=D×D×Rat×Rat×Nat×Nat×Nat×Nat) (λ(d1,d2,r1,r2,n1,b1,n2,b2) ds=>ds=[d1,d2]/\FqD n1 b1 d1 r1/\FqD n2 b2 d2 r2/\b1+b2<=9000000/\n1+n2<=9000000)
 (λ(d1,d2,r1,r2,n1,b1,n2,b2) d=>FqD (n1+n2) (b1+b2) d (r1*r2))
def oB:TSd:=(iE [] (io iF (ii (ip .Mult (dIx (ij 0) (iκ 0)) (dIx (ij 1) (iκ 0))) (ii (ip .Mult (dIx (ij 0) (iκ 1)) (dIx (ij 1) (iκ 1))) il))))
theorem mM:Does 2 oB iP:=by
 rintro ds Q hn ⟨⟨d1,d2,r1,r2,n1,b1,n2,b2⟩,⟨rfl,⟨t1,u1,rfl,p1,g1,lt1,lu1,rfl⟩,⟨t2,u2,rfl,p2,g2,lt2,lu2,rfl⟩,hb,h1⟩,q⟩;dsimp only at hb h1 q;have p12:=ay p1 p2;refine⟨⟨_,_,lt1,lt2,()⟩,⟨_,_,lu1,lu2,()⟩,rfl,(t1*t2,u1*u2),⟨rfl,am p12,(lu1.mul lu2).mono hb⟩,?_⟩;rintro _ rfl;have f:=FqD.of (t:=t1*t2) (u:=u1*u2) p12 (lt1.mul lt2) (lu1.mul lu2);refine q _ ?_;have h3:(u1:Rat)≠0:=Qp.so p1;have h4:(u2:Rat)≠0:=Qp.so p2;have e:((t1*t2:Int):Rat) / ((u1*u2:Int):Rat)=(t1:Rat) / (u1:Rat)*((t2:Rat) / (u2:Rat)):=by
  rw[ri,ri];grind
 rw[← e];exact f
def iC:SpB:=.of 2 (α:=Nat×D×Rat×Nat) (λ(n,d,r,M) ds=>ds=[.int n,d]/\FqD M M d r/\M<=21/\1<=n/\n<=12) (λ(n,d,r,M) e=>∃ P B,e=pD P B/\Tk r n P B)
def mh:TSd:=(iE [] (j6 2 (ij 0)))
def mj:TSd:=dSq (iX [] (jL (ip .Sub (ij 0) (iκ 1))) (gNm 3)
 (dSq (ir [] (gNm 4) (io iz (ii (j6 2 (jR (iκ 2))) (ii (io iD (ii (iN (ii (ip .Sub (iκ 0) (dIx (ij 1) (iκ 0))) il)) (ii (dIx (ij 1) (iκ 1)) il))) il))))
 (kU [] 2 (io iS (ii (io iz (ii (iA (ii (iA (ii (iκ 0) (ii (iκ 1) il))) (ii (iκ 1) il))) (ii (j6 2 (jR (iκ 1))) il))) (ii (ij 4) il))))))
 mh
def ni:TSd:=dSq (jY [] 2 (iN (ii (iA (ii (iA (ii (iκ 2) il)) (ii (iκ 1) il))) (ii (iA (ii (iA (ii (iκ 0) (ii (iκ 1) il))) (ii (iκ 1) il))) il))))
 mj
theorem Eh(a y b c:Rat)(n1:b≠0)(n2:c≠0):a*y / (b*c)=a / b*(y / c):=by grind
theorem CW(t u:Rat):(0-t) / u=0-t / u:=by grind
theorem Fs{P S R:List Int}{B U C t u:Int}(b0:0<B)(b8:0<U)(c0:0<C)(u0:0<u)(w:S.getD 0 0*u=t*U)(h:∀ k,R.getD k 0*(B*U)=P.getD k 0*S.getD 0 0*C)(k:Nat):Qp.q R C k=Qp.q P B k*((t:Rat) / (u:Rat)):=by
 rw[Qp.ye (f:=λk=>P.getD k 0*S.getD 0 0) c0 (am (ay b0 b8)) h k,ar,ar,Eh _ _ _ _ (Qp.so b0) (Qp.so b8),(Qp.tq (am b8) (am u0)).mpr w];rfl
theorem k4:Does 5 ni iC:=by
 rintro ds Q hn ⟨⟨n,d,r,M⟩,⟨rfl,f,hM,n1,n12⟩,q⟩;dsimp only at f hM n1 n12 q;have en:((n:Int)-1).toNat=n-1:=by lia
 have f':=f;obtain⟨t,u,rfl,u0,g,lt,lu,hr⟩:=f';refine⟨xn,tz,tz,tz,tz,(),(),λi s=>∃(o3 o4:SD) (xs:List D),s=[.vi n,.val (fD t u),.own xs,o3,o4]/\xs.length=i+2/\∀(j:Nat) (x:D),xs[j]? = some x->∃ P B,x=pD P B/\Tk r j P B,⟨.no,.no,_,rfl,rfl,λj x hx=>?_⟩,?_,?_⟩
 ·match j,hx with
  | 0,hx =>
   cases hx;exact⟨[2],1,rfl,Tk.zero⟩
  | 1,hx =>
   cases hx;exact⟨[0,1],1,rfl,Tk.one⟩
 ·rintro i d _ hd ⟨o3,o4,xs,rfl,lx,hxs⟩;obtain⟨hi,rfl⟩:=sP hd;have hi:i<n-1:=by lia
  obtain⟨x0,e0⟩:∃ x,xs[i]? = some x:=⟨xs[i]'(),by simp⟩;obtain⟨x1,e1⟩:∃ x,xs[i+1]? = some x:=⟨xs[i+1]'(),by simp⟩;obtain⟨P0,B0,rfl,h0⟩:=hxs i x0 e0;obtain⟨P1,B1,rfl,h1⟩:=hxs (i+1) x1 e1;obtain⟨z0,l0⟩:=h0.szs f hM ();obtain⟨z1,l1⟩:=h1.szs f hM ();have b0:=h0.1.pos;have b1:=h1.1.pos;refine tI (ug (j:=2) (by rw[show i+2-2=i by lia];exact e0) lx (by decide) ()) ⟨xn,rfl,([0-t],u),⟨.inl rfl,u0,lu.mono (),by show 1<=1000;decide⟩,?_⟩;rintro _ ⟨P8,B8,rfl,f8,w8,l8⟩;have lt':Lt2 M (0-t):=lt.le ();have z8:Pc.Pz M M P8 B8:=Pc.Pz.of f8 u0 w8 (λk=>by
   cases k with
   | zero=>exact lt'
   | succ k=>rw[bV,sk (aB _)];exact uw _) lu
  have l8':P8.length<=1:=l8;refine⟨rfl,(P0,B0,P8,B8,_,_,_,_),⟨rfl,z0,z8,(),(),(),()⟩,?_⟩;rintro _ ⟨P9,B9,rfl,f9,w9⟩;have c9:∀ k,Cv.cv (Cv.fn P0) (Cv.fn P8) k=P0.getD k 0*P8.getD 0 0:=Ca.zC λk hk=>sk ();have b8:=f8.pos;have z9:Pc.Pz 600 310 P9 B9:=(Pc.Pz.of f9 (ay b0 b8) w9 (λk=>by rw[c9 k];exact (z0.tops k).mul (z8.tops 0)) (z0.bot.mul z8.bot)).mono () ();have l9:P9.length<=14:=Pc.sJ f9 (ay b0 b8) w9 λk hk=>by
   rw[c9 k,sk (),ax]
  have q9:∀ k,Qp.q P9 B9 k=Qp.q P0 B0 k*(0-r):=λk=>by
   rw[Fs (t:=0-t) b0 b8 f9.pos u0 (w8 0) (λk=>by rw[w9 k,c9 k]) k,hr,eQ];have i0:((0:Int):Rat)=0:=rfl;rw[i0];exact congrArg _ (CW _ _)
  refine⟨tz,tz,tI (ug (j:=1) (by rw[show i+2-1=i+1 by lia];exact e1) lx (by decide) ()) ⟨rfl,(Pc.X,1,P1,B1,1,1,_,_),⟨rfl,Pc.EX,z1,by decide,by decide,(by show 2<=450;decide),()⟩,?_⟩⟩;rintro _ ⟨R,C,rfl,fR,wR⟩;have cc:∀ k,Cv.cv (Cv.fn Pc.X) (Cv.fn P1) k=if k=0 then 0 else P1.getD (k-1) 0:=λk=>by
   rw[Cv.tL];exact Pc.KM (Cv.fn P1) k
  have zR:Pc.Pz 570 281 R C:=Pc.Pz.of fR (c:=1*B1) () wR (λk=>by
   rw[cc k];split
   ·exact uw _
   ·exact z1.tops _) (by rw[bK];exact z1.bot.mono (by decide))
  have lR:R.length<=15:=Pc.sJ fR (c:=1*B1) () wR λk hk=>by
   rw[cc k,if_neg (),sk ()]
  refine⟨rfl,(R,C,P9,B9,_,_,_,_),⟨rfl,zR,z9,by decide,by decide,(),()⟩,?_⟩;rintro _ ⟨V,W,rfl,fV,wV⟩;have hV:Tk r (i+2) V W:=⟨fV,λk=>by
   rw[Qp.GI fR.pos f9.pos fV.pos wV k,Nj b1 fR.pos wR k,q9 k,h0.2 k,Qp.tc.two];by_cases c:k=0
   ·rw[if_pos c,if_pos c];grind
   ·rw[if_neg c,if_neg c,h1.2 (k-1)];grind⟩
  refine⟨(by rw[lx,sizeLine_eq];lia),_,_,xs++[pD V W],rfl,by rw[aj,lx];rfl,λj x hj=>?_⟩;rcases aw j xs.length with y|y
  ·rw[aN y] at hj;exact hxs j x hj
  ·have ej:j=i+2:=by
    have:=(ak.mp hj).1;rw[aj] at this;simp at this;lia
   subst ej;rw[az (),lx,a9] at hj;cases hj;exact⟨V,W,rfl,hV⟩
 ·rintro _ ⟨o3,o4,xs,rfl,lx,hxs⟩;rw[sE,en] at lx;obtain⟨x,ex⟩:∃ x,xs[n]? = some x:=⟨xs[n]'(),by simp⟩;obtain⟨P1,B1,rfl,h⟩:=hxs n x ex;exact sO ex (q _ ⟨P1,B1,rfl,h⟩)
theorem Dy(P:List Int):D.pls (P.map D.int)=true:=by
 induction P with
 | nil=>rfl
 | cons a P ih=>exact ih
theorem En(P:List Int):D.dvs (P.map D.int)=P.map DV.int:=by
 induction P with
 | nil=>rfl
 | cons a P ih=>exact congrArg (DV.int a :: ·) ih
theorem CH(P:List Int):D.dps (P.map D.int)=0:=by
 induction P with
 | nil=>rfl
 | cons a P ih=>show max 0 (D.dps (P.map D.int))=0;rw[ih];rfl
theorem Kj(P:List Int)(B:Int):(pD P B).pl=true:=by
 show (D.pls (P.map D.int) && true)=true;rw[Dy];rfl
theorem Kk(P:List Int)(B:Int):(pD P B).dp=2:=by
 show max (D.dps (P.map D.int)+1) 0+1=2;rw[CH];rfl
theorem Ki(P:List Int)(B:Int):(pD P B).dv.wd<=max 2 P.length:=by
 have e:(pD P B).dv=DV.tup [.tup (P.map DV.int),.int B]:=by
  show DV.tup [.tup (D.dvs (P.map D.int)),.int B]=_;rw[En]
 rw[e];exact (Kg P B).1
end Dp
namespace Ch
open L2 Cv Hv Pc Qp
abbrev Pl:=List Int×Int
def ld(c:Pl):Rat:=q c.1 c.2 (c.1.length-1)
theorem t7(f1:Po.Fm P1 B)(f2:Po.Fm G U)(l2:G.length=2)(g1:G.getD 1 0≠0)(h3:3<=P1.length)(o:Of P1 B G U S D):S.length=P1.length/\ld (S,D)=ld (P1,B)*q G U 1^(P1.length-1):=by
 obtain⟨a,b⟩:=Ko f1 f2 l2 (by intro e;rw[e] at h3;simp at h3) g1 o;refine⟨a,?_⟩;show q S D (S.length-1)=_;rw[a];exact b
theorem vd(l1:P1.length=2)(n1:P1.getD 1 0≠0)(f1:Po.Fm P1 B)(f2:Po.Fm G U)(h3:3<=G.length)(o:Of P1 B G U S D):S.length=G.length/\ld (S,D)=q P1 B 1*ld (G,U):=by
 have hB:=f1.pos;have hU:=f2.pos;have hD:=o.1.pos;have hW:=ay hB hU;have t:=o.two l1 hU;have d0':∀ k,1<=k->d0 k=0:=λk hk=>by show (if k=0 then (1:Int) else 0)=0;rw[if_neg ()]
 have qk:∀ k,1<=k->q S D k=q P1 B 1*q G U k:=λk hk=>by
  have e:=ye (f:=λk=>P1.getD 0 0*d0 k*U+P1.getD 1 0*G.getD k 0) hD (am hW) t k;rw[e,d0' k hk];have n1:=so hB;have n2:=so hU;unfold q;simp only[ar,dE];have z:((0:Int):Rat)=0:=rfl;rw[z];grind
 have ql:ld (G,U)≠0:=uF (P:=G) (B:=U) f2 (by intro e;rw[e] at h3;simp at h3);have qp:q P1 B 1≠0:=by
  unfold q;have a:=sQ n1;have b:=so hB;generalize ((P1.getD 1 0:Int):Rat)=x at *;intro z;grind
 have len:S.length=G.length:=by
  have l1':S.length<=G.length:=sJ o.1 hW t λk hk=>by
   rw[d0' k ()];have:G.getD k 0=0:=sx hk;rw[this];simp
  have l2:G.length-1<S.length:=by
   rcases aw (G.length-1) S.length with z|z
   ·exact z
   ·have e:=qk (G.length-1) ();rw[ux z] at e;rcases de.mp e.symm with w|w
    ·exact absurd w qp
    ·exact absurd w ql
  lia
 refine⟨len,?_⟩;show q S D (S.length-1)=_;rw[len];exact qk _ ()
end Ch
namespace Dp
open PySem L2 Ch
abbrev pq(p:Pl):D:=pD p.1 p.2
abbrev cD(cs:List Pl):D:=.tup (cs.map pq)
theorem Ay{a:Rat}(h:a≠0):1 / a≠0:=by
 intro z;have:a*(1 / a)=1:=by grind
 rw[z,Rat.mul_zero] at this;exact absurd this (by decide)
theorem JM(p s a B:Rat)(nb:B≠0)(na:a≠0)(hs:s*s=1)(ha:a*s≠0):(0-p*s) / (a*s)=(0-p / B) / (a / B):=by
 have:s≠0:=λz=>by rw[z] at hs;grind
 grind
theorem JL(s a B:Rat)(nb:B≠0)(na:a≠0)(hs:s*s=1)(ha:a*s≠0):B*s / (a*s)=1 / (a / B):=by
 have:s≠0:=λz=>by rw[z] at hs;grind
 grind
def iM:SpB:=.of 1 (α:=List Int×Int×Nat×Nat) (λ(P,B,n,b) ds=>ds=[pD P B]/\Pc.Pz n b P B/\P.length=2/\P.getD 1 0≠0/\n<=8000/\b<=8000)
 (λ(P,B,n,b) d=>∃ R C,d=pD R C/\Pc.Pz (n+b+1) n R C/\R.length<=2/\Qp.q R C 1=1 / Qp.q P B 1/\Qp.q R C 0=(0-Qp.q P B 0) / Qp.q P B 1)
def jq:TSd:=(iE [] (io iD (ii (iN (ii (ip .Sub (iκ 0) (ip .Mult (ij 1) (ij 3))) (ii (ip .Mult (dIx (ij 0) (iκ 1)) (ij 3)) il))) (ii (dB bAbs bAbs.mono (ii (ij 2) il)) il))))
def kB:TSd:=dSq (ir [] (gNm 3) (dIx (iN (ii (ip .Sub (iκ 0) (iκ 1)) (ii (iκ 1) il))) (dB bInt bInt.mono (ii (iR .Gt (ij 2) (iκ 0)) il))))
 jq
def ml:TSd:=dSq (ir [] (gTp [1,2]) (dIx (ij 0) (iκ 0)))
 kB
theorem kc:Does 4 ml iM:=by
 rintro ds Q hn ⟨⟨P,B,n,b⟩,⟨rfl,z,l2,p1,hn,hb⟩,q⟩;dsimp only at z l2 p1 hn hb q;obtain⟨x,y,rfl⟩:∃ x y,P=[x,y]:=by
  match P,l2 with
  | [x,y],_=>exact⟨x,y,rfl⟩
 have p1:y≠0:=p1;have B0:=z.fm.pos;have lx:Lt2 n x:=z.tops 0;have ly:Lt2 n y:=z.tops 1;have key:∀ s:Int,Lt2 1 s->s*s=1->y*s=(y.natAbs:Int)->jq.run (sH Q) [.val (pD [x,y] B),.vi x,.vi y,.vi s]:=λs ls ss ys=>by
  have a0:(0:Int)<((y.natAbs:Nat):Int):=by lia
  have la:Lt2 n ((y.natAbs:Nat):Int):=by unfold Lt2;rw[bc];exact ly
  refine⟨⟨n,1,lx,ls,()⟩,⟨b,1,z.bot,ls,()⟩,tz,rfl,([0-x*s,B*s],((y.natAbs:Nat):Int)),⟨.inl ?_,a0,la.mono (),by show 2<=1000;decide⟩,?_⟩
  ·show [D.lst [.int (0-x*s),.int (B*s)],.int (if y<0 then -y else y)]=_;rw[uv];rfl
  rintro _ ⟨R,C,rfl,fR,wR,lR⟩;have wR:∀ k,R.getD k 0*((y.natAbs:Nat):Int)=[0-x*s,B*s].getD k 0*C:=wR;have qq:=λk=>Qp.ye (f:=λk=>[0-x*s,B*s].getD k 0) fR.pos (am a0) wR k;have ys':((y.natAbs:Int):Rat)=(y:Rat)*(s:Rat):=by rw[← ys,ar]
  have hs:(s:Rat)*(s:Rat)=1:=by rw[← ar,ss];rfl
  have ny:(y:Rat)≠0:=Qp.sQ p1;have nB:=Qp.so B0;have nys:(y:Rat)*(s:Rat)≠0:=by rw[← ys'];exact Qp.so a0
  refine q _ ⟨R,C,rfl,?_,lR,?_,?_⟩
  ·refine Pc.Pz.of fR a0 wR (λk=>?_) la;match k with
   | 0=>exact (((lx.mul ls).mono (m:=n+1) (af _)).le (by show (0-x*s).natAbs<=(x*s).natAbs;lia)).mono ()
   | 1=>exact (z.bot.mul ls).mono ()
   | k+2=>rw[Pc.xZ];exact uw _
  ·rw[qq 1];show ((B*s:Int):Rat) / ((y.natAbs:Int):Rat)=1 / ((y:Rat) / (B:Rat));rw[ys',ar];exact JL _ _ _ nB ny hs nys
  ·rw[qq 0];show ((0-x*s:Int):Rat) / ((y.natAbs:Int):Rat)=(0-(x:Rat) / (B:Rat)) / ((y:Rat) / (B:Rat));rw[ys',eQ,ar];exact JM _ _ _ _ nB ny hs nys
 refine⟨rfl,tz,?_⟩;by_cases c:0<y
 ·refine tI (d:=.int 1) ?_ (key 1 (by unfold Lt2;decide) (by decide) ());show wl _ (if decide (0<y)=true then (1:Int) else 0)=_;rw[if_pos (by simpa using c)];rfl
 ·refine tI (d:=.int (0-1)) ?_ (key (0-1) (by unfold Lt2;decide) (by decide) ());show wl _ (if decide (0<y)=true then (1:Int) else 0)=_;rw[if_neg (by simpa using c)];rfl
def mX:SpB:=.of 1 (α:=List Pl) (λcs ds=>ds=[cD cs]/\(∀ p∈cs,0<p.2/\p.1.length<=1000)) (λcs d=>∃ c:Bool,d = .bl c/\(c=true->∀ p∈cs,Lt2 133 p.2/\∀ i,Lt2 133 (p.1.getD i 0)))
def pF:TSd:=(iE [] (dC (.bl true)))
def qC:TSd:=dSq (iX [] (jc (ij 0)) (gNm 1)
 (dIf [] (iL (iR .GtE (dB bMax bMax.mono (ii (ip .Add (iW (jc (dIx (ij 1) (iκ 0))) [2] (gNm 2) jh (dB bAbs bAbs.mono (ii (ij 2) il))) (iN (ii (dIx (ij 1) (iκ 1)) il))) il)) (ip .Pow (iκ 10) (iκ 40))))
 (iE [] (dC (.bl false)))
 iT))
 pF
theorem oC:Does 3 qC mX:=by
 rintro ds Q hn ⟨cs,⟨rfl,hp⟩,q⟩;dsimp only at hp q;have cp:E5 10 40:=⟨by decide,by decide,by decide⟩;refine⟨λi s=>(∃ o o':SD,s=[.val (cD cs),o,o'])/\∀ j p,j<i->cs[j]? = some p->Lt2 133 p.2/\∀ i,Lt2 133 (p.1.getD i 0),⟨⟨.no,.no,rfl⟩,λj p h=>absurd h (bZ _)⟩,?_,?_⟩
 ·rintro i d _ hd ⟨⟨o,o',rfl⟩,hI⟩;have hd:(cs.map pq)[i]? = some d:=hd;rw[aR] at hd;obtain⟨p,hp1,rfl⟩:=ab.mp hd;obtain⟨b0,ll⟩:=hp p (aL hp1);refine⟨(congrArg (· <= sizeLine) (aa _)).mpr (tP ()),mI (λz:Int=>((z.natAbs:Nat):Int)) p.1,mI.nil,λj d ys hd _ hy=>?_,λys _ hy=>?_⟩
  ·obtain⟨z,hz,rfl⟩:=wg hd;exact hy.snoc hz (uv z)
  cases hy.all (by rw[aa]);refine⟨xn,by rw[aa,aa];exact tP (by show p.1.length+1<=_;lia),p.1.map (λz:Int=>((z.natAbs:Nat):Int))++[p.2],by rw[aM];rfl,by simp,λM hM hle=>⟨cp,?_⟩⟩;refine v8 (p:=(10:Int)^40<=M) (λc=>q _ ⟨false,rfl,λz=>by cases z⟩) (λc=>⟨⟨_,_,rfl⟩,λj p' hj hp'=>?_⟩);rcases bN (dS hj) with e|e
  ·rw[e,hp1] at hp';cases hp';have lt:∀ a∈p.1.map (λz:Int=>((z.natAbs:Nat):Int))++[p.2],a<(10:Int)^40:=λa ha=>by
    have:=hle a ha;lia
   refine⟨?_,λi=>?_⟩
   ·have:=lt p.2 (by simp);exact D3 (by rw[Int.natAbs_of_nonneg ()];exact this)
   ·rcases aw i p.1.length with x|x
    ·exact D3 (lt _ (bD.mpr (.inl (dq.mpr ⟨_,uM x,rfl⟩))))
    ·rw[sk x];exact uw _
  ·exact hI j p' e hp'
 ·rintro _ ⟨⟨o,o',rfl⟩,hI⟩;rw[aa] at hI;refine q _ ⟨true,rfl,λ_ p hp=>?_⟩;obtain⟨j,hj⟩:=bz.mp hp;exact hI j p (ak.mp hj).1 hj
theorem EE(cs:List Pl):D.pls (cs.map pq)=true:=by
 induction cs with
 | nil=>rfl
 | cons c cs ih=>exact aA.mpr ⟨Kj _ _,ih⟩
theorem Hj(cs:List Pl):D.dps (cs.map pq)<=2:=by
 induction cs with
 | nil=>exact aB _
 | cons c cs ih=>show max (D.dp (pq c)) (D.dps (cs.map pq))<=2;rw[Kk];lia
theorem Jg(cs:List Pl):(D.dvs (cs.map pq)).length=cs.length:=by
 induction cs with
 | nil=>rfl
 | cons c cs ih=>exact congrArg (· + 1) ih
theorem Hi:∀{cs:List Pl},(∀ c∈cs,c.1.length<=13)->DV.wds (D.dvs (cs.map pq))<=13
 | [],_=>aB _
 | c::cs,h=>by
  have:DV.wd (D.dv (pq c))<=max 2 c.1.length:=Ki c.1 c.2;have:=h c aG;have:=Hi λd hd=>h d (aC _ hd);show max (DV.wd (D.dv (pq c))) (DV.wds (D.dvs (cs.map pq)))<=13;lia
end Dp
namespace Dp
open PySem L2
theorem C8{c m x:Int}(h:0<m)(hc:c∣m)(hx:c∣x):c*m.fdiv (Fr.cp m x)∣m:=by
 have g0:=uQ (a:=m) (b:=x) ();obtain⟨e,_,_⟩:=sZ g0 h (vg m x).1;have hg:c∣Fr.cp m x:=by
  unfold Fr.cp;exact Int.dvd_coe_gcd hc hx
 obtain⟨y,hy⟩:=hg;generalize m.fdiv (Fr.cp m x)=q at *;generalize Fr.cp m x=g at *;refine⟨y,?_⟩;rw[e,hy];grind
def mn:TSd:=(iE [] (ij 3))
def mr:TSd:=dSq (iX [] (kR (iκ 1) (ip .Add (ij 1) (iκ 1))) (gNm 4)
 (oj [] 3 .Mult (ip .FloorDiv (ij 2) (io iY (ii (ij 2) (ii (ip .Mult (dIx (ij 0) (ip .Sub (ij 1) (ij 4))) (io iB (ii (ij 3) (ii (ij 4) il)))) il))))))
 mn
def je:TSd:=dSq (ir [] (gNm 3) (iκ 1))
 mr
def nj:TSd:=dSq (kT [] 1 2 (ip .Sub (dB bLen bLen.mono (ii (ij 0) il)) (iκ 1)) (dB bAbs bAbs.mono (ii (dIx (ij 0) (jR (iκ 1))) il)))
 je
theorem Ie(a:Int)(h:m<=n):a^m∣a^n:=⟨a^(n-m),by rw[← bS];congr 1;lia⟩
theorem Jb{P:List Int}{B c:Int}{f:Nat->Int}(F:Po.Fm P B)(h:∀ k,P.getD k 0*c=f k*B):B∣c:=bq.mp (Po.yz (P':=(List.range P.length).map f) F λk=>by
 rcases aw k P.length with z|z
 ·rw[h k,ac,aR,gQ z];rfl
 ·rw[sk z,sk (by rw[aa,fi];exact z)];simp)
end Dp
namespace Ap
open L2 Cv Hv Pc Qp
theorem Bt(ts:List Int):∀ n,n<=ts.length->(∀ j,n<=j->ts.getD j 0=0)->∃ m,m<=ts.length/\(∀ j,m<=j->ts.getD j 0=0)/\(m=0\/ts.getD (m-1) 0≠0)
 | 0,_,h=>⟨0,aB _,h,.inl rfl⟩
 | n+1,l,h=>by
  by_cases c:ts.getD n 0=0
  ·refine Bt ts n () λj hj=>?_;rcases bN hj with e|e
   ·rw[← e];exact c
   ·exact h j e
  ·exact⟨n+1,l,h,.inr c⟩
theorem has{F:Nat->Int}{n:Nat}{c:Int}(hc:0<c)(hF:∀ k,n<=k->F k=0):∃ R C,Po.Fm R C/\∀ k,R.getD k 0*c=F k*C:=by
 have e:∀ k,((List.range n).map F).getD k 0=F k:=λk=>by
  rw[ac,aR];rcases aw k n with z|z
  ·rw[gQ z];rfl
  ·rw[bt (by rw[fi];exact z)];exact (hF k z).symm
 obtain⟨m,h1,h2,h3⟩:=Bt ((List.range n).map F) n (by rw[aa,fi];exact af _) λj hj=>by rw[e];exact hF j hj
 obtain⟨f,w⟩:=Po.form hc h1 h2 h3;exact⟨_,_,f,λk=>by rw[w k,e]⟩
def Pf(f:Rat->Rat):Prop:=∃ R C,Po.Fm R C/\∀ x,E R C x=f x
theorem Pf.of(f:Po.Fm P B):Pf (E P B):=⟨P,B,f,λ_=>rfl⟩
theorem Pf.add(hf:Pf f)(hg:Pf g):Pf λx=>f x+g x:=by
 obtain⟨P1,B1,f1,e1⟩:=hf;obtain⟨P2,B2,f2,e2⟩:=hg;obtain⟨R,C,fR,w⟩:=has (F:=λk=>P1.getD k 0*B2+P2.getD k 0*B1) (n:=P1.length+P2.length) (ay f1.pos f2.pos) λk hk=>by
  have a:P1.getD k 0=0:=sx ();have b:P2.getD k 0=0:=sx ();rw[a,b];simp
 exact⟨R,C,fR,λx=>by rw[xW f1.pos f2.pos fR.pos w,e1,e2]⟩
theorem Pf.mul{f g:Rat->Rat}(hf:Pf f)(hg:Pf g):Pf λx=>f x*g x:=by
 obtain⟨P1,B1,f1,e1⟩:=hf;obtain⟨P2,B2,f2,e2⟩:=hg;obtain⟨R,C,fR,w⟩:=has (F:=cv (fn P1) (fn P2)) (n:=P1.length+P2.length) (ay f1.pos f2.pos) λk hk=>tD (a:=P1.length) (b:=P2.length) (λj h=>sx h) (λj h=>sx h) ();exact⟨R,C,fR,λx=>by rw[vE f1.pos f2.pos fR w,e1,e2]⟩
theorem Pf.const(r:Rat):Pf λ_=>r:=by
 obtain⟨t,u,hu,rfl⟩:=tT r;obtain⟨R,C,fR,w⟩:=has (F:=λk=>[t].getD k 0) (n:=1) hu λk hk=>by
  obtain⟨j,rfl⟩:∃ j,k=j+1:=⟨k-1,()⟩;simp
 exact⟨R,C,fR,λx=>yK fR hu w x⟩
theorem Pf.sub(hf:Pf f)(hg:Pf g):Pf λx=>f x-g x:=by
 obtain⟨R,C,f,e⟩:=hf.add ((Pf.const (-1)).mul hg);exact⟨R,C,f,λx=>by rw[e];grind⟩
theorem Md{P1 P2 R:List Int}{B1 B2 C:Int}(f1:Po.Fm P1 B1)(f2:Po.Fm P2 B2)(fR:Po.Fm R C)(n1:P1≠[])(n2:P2≠[])(h:∀ x,E R C x=E P1 B1 x*E P2 B2 x):P1.length+P2.length=R.length+1:=by
 have p:=ay f1.pos f2.pos;obtain⟨S,D,fS,w⟩:=has (F:=cv (fn P1) (fn P2)) (n:=P1.length+P2.length) p λk hk=>tD (a:=P1.length) (b:=P2.length) (λj h=>sx h) (λj h=>sx h) ();obtain⟨rfl,rfl⟩:=uz fR fS λx=>by rw[h,vE f1.pos f2.pos fS w]
 have l1:0<P1.length:=cV.mpr n1;have l2:0<P2.length:=cV.mpr n2;have t1:P1.getD (P1.length-1) 0≠0:=f1.last.resolve_left n1;have t2:P2.getD (P2.length-1) 0≠0:=f2.last.resolve_left n2;have top:=yA (f:=fn P1) (g:=fn P2) (a:=P1.length-1) (b:=P2.length-1) (λj hj=>sx ()) (λj hj=>sx ());have e:=w (P1.length-1+(P2.length-1));rw[top] at e;have ne:R.getD (P1.length-1+(P2.length-1)) 0≠0:=λz=>by
  rw[z,ax] at e;exact bh (bh t1 t2) (am fR.pos) e.symm
 have up:R.length<=P1.length-1+(P2.length-1)+1:=sJ fR p w λk hk=>tD (a:=P1.length) (b:=P2.length) (λj h=>sx h) (λj h=>sx h) ();have dn:P1.length-1+(P2.length-1)<R.length:=by
  rcases aw (P1.length-1+(P2.length-1)) R.length with z|z
  ·exact z
  ·exact absurd (sx (P:=R) z) ne
 lia
abbrev Pl:=List Int×Int
def Ed(y x:Rat):List Pl->Rat
 | []=>0
 | p::ps=>E p.1 p.2 x+y*Ed y x ps
theorem Ed.pf(hh:Pf h):∀{ps:List Pl},(∀ p∈ps,Po.Fm p.1 p.2)->Pf λx=>Ed (h x) x ps
 | [],_=>Pf.const 0
 | p::ps,f=>(Pf.of (f p aG)).add (hh.mul (Ed.pf hh λq hq=>f q (aC _ hq)))
theorem vF(B:Int)(x:Rat):E [] B x=0:=by
 show (0:Rat) / _=0;grind
theorem Ed.uniq{U:Int}{s:Nat}(fG:Po.Fm G U)(lG:G.length=s+1):∀{ps qs:List Pl},ps.length=qs.length->(∀ p∈ps,Po.Fm p.1 p.2/\p.1.length<=s)->(∀ p∈qs,Po.Fm p.1 p.2/\p.1.length<=s)->(∀ x,Ed (E G U x) x ps=Ed (E G U x) x qs)->ps=qs
 | [],[],_,_,_,_=>rfl
 | p::ps,q::qs,l,hp,hq,h=>by
  have hp':∀ r∈ps,Po.Fm r.1 r.2/\r.1.length<=s:=λr hr=>hp r (aC _ hr);have hq':∀ r∈qs,Po.Fm r.1 r.2/\r.1.length<=s:=λr hr=>hq r (aC _ hr);obtain⟨fp,lp⟩:=hp p aG;obtain⟨fq,lq⟩:=hq q aG;obtain⟨W,w,fW,eW⟩:=(Ed.pf (Pf.of fG) λr hr=>(hp' r hr).1).sub (Ed.pf (Pf.of fG) λr hr=>(hq' r hr).1)
  -- the rests are the same
  obtain⟨D,d,fD,wD⟩:=has (F:=λk=>q.1.getD k 0*p.2+p.1.getD k 0*(-1)*q.2) (n:=s) (ay fq.pos fp.pos) λk hk=>by
   have a:p.1.getD k 0=0:=sx ();have b:q.1.getD k 0=0:=sx ();rw[a,b];simp
  have eD:∀ x,E D d x=E q.1 q.2 x-E p.1 p.2 x:=λx=>by
   have fm:∀ k,(p.1.map λz=>z*(-1)).getD k 0=p.1.getD k 0*(-1):=λk=>by
    rw[ac,ac,aR];cases p.1[k]? <;> simp
   have e1:=xW (P1:=q.1) (P2:=p.1.map λz=>z*(-1)) (R:=D) (C:=d) fq.pos fp.pos fD.pos (λk=>by rw[fm];exact wD k) x;have e2:E (p.1.map λz=>z*(-1)) p.2 x = -E p.1 p.2 x:=by
    have:∀ n,ei (fn (p.1.map λz=>z*(-1))) x n=ei (fn p.1) x n*((-1:Int):Rat):=λn=>by
     rw[← uP];congr 1;funext k;exact fm k
    unfold E;rw[this,aa];show _*(-1:Rat) / _=_;grind
   rw[e1,e2];grind
  have lD:D.length<=s:=sJ fD (ay fq.pos fp.pos) wD λk hk=>by
   have a:p.1.getD k 0=0:=sx ();have b:q.1.getD k 0=0:=sx ();rw[a,b];simp
  have key:∀ x,E D d x=E G U x*E W w x:=λx=>by
   have a:E p.1 p.2 x+E G U x*Ed (E G U x) x ps=E q.1 q.2 x+E G U x*Ed (E G U x) x qs:=h x;rw[eD,eW];grind
  have W0:W=[]:=Classical.byContradiction λnW=>by
   have:=Md fG fW fD (by intro z;rw[z] at lG;simp at lG) nW key;have:0<W.length:=cV.mpr nW;lia
  have t:∀ x,Ed (E G U x) x ps=Ed (E G U x) x qs:=λx=>by
   have a:=eW x;rw[W0,vF] at a;grind
  have e:=Ed.uniq fG lG (by simpa using l) hp' hq' t;have c:∀ x,E p.1 p.2 x=E q.1 q.2 x:=λx=>by
   have a:E p.1 p.2 x+E G U x*Ed (E G U x) x ps=E q.1 q.2 x+E G U x*Ed (E G U x) x qs:=h x;rw[t x] at a;grind
  obtain⟨y1,y2⟩:=uz fp fq c;rw[e,show p=q from Prod.ext y1 y2]
end Ap
namespace Dp
open PySem L2
theorem lcm_dvd{b r D:Int}(hb:0<b)(hr:0<r)(h1:b∣D)(h2:r∣D):b*r.fdiv (Fr.cp b r)∣D:=by
 have g0:=uQ (a:=b) (b:=r) ();obtain⟨e,q0,_⟩:=sZ g0 hr (vg b r).2;have l:=Nat.lcm_dvd (bq.mpr h1) (bq.mpr h2);refine bq.mp ?_;have eg:Fr.cp b r=((Nat.gcd b.natAbs r.natAbs:Nat):Int):=rfl;rw[aT];have e2:r.natAbs=Nat.gcd b.natAbs r.natAbs*(r.fdiv (Fr.cp b r)).natAbs:=by
  have:=congrArg Int.natAbs e;rw[aT,eg,bc] at this;rw[eg];exact this
 have g1:0<Nat.gcd b.natAbs r.natAbs:=Nat.gcd_pos_of_pos_left _ ();unfold Nat.lcm at l;generalize (r.fdiv (Fr.cp b r)).natAbs=q at *;generalize hg:Nat.gcd b.natAbs r.natAbs=g at *;rw[e2,show b.natAbs*(g*q)=g*(b.natAbs*q) by grind,Nat.mul_div_cancel_left _ g1] at l;exact l
def M6(fs:List (Int×Int))(Dv:Int)(m:Nat):Prop:=(∀ f∈fs,0<f.2/\Lt2 m f.1/\f.2∣Dv)/\fs.length<=100/\0<Dv/\Lt2 8990000 Dv/\m<=10000000
def jj:SpB:=.of 1 (α:=List (Int×Int)×Int×Nat) (λ(fs,D,m) ds=>ds=[.lst (JC fs)]/\M6 fs D m)
 (λ(fs,D,m) d=>∃ b0:Int,d = .tup [.lst ((fs.map λf=>f.1*b0.fdiv f.2).map .int),.int b0]/\0<b0/\Lt2 8990000 b0/\b0∣D/\∀(j:Nat) (f:Int×Int),fs[j]? = some f->f.2∣b0)
def j3:TSd:=(iE [] (iA (ii (iW (jc (ij 0)) [2] (gNm 2) jh (ip .Mult (dIx (ij 2) (iκ 0)) (ip .FloorDiv (ij 1) (dIx (ij 2) (iκ 1))))) (ii (ij 1) il))))
def j4:TSd:=dSq (iX [] (jc (ij 0)) (gNm 2)
 (oj [] 1 .Mult (ip .FloorDiv (dIx (ij 2) (iκ 1)) (io iY (ii (ij 1) (ii (dIx (ij 2) (iκ 1)) il))))))
 j3
def kC:TSd:=dSq (ir [] (gNm 1) (iκ 1))
 j4
theorem jU:Does 3 kC jj:=by
 rintro ds Q hn ⟨⟨fs,D1,m⟩,⟨rfl,hb,hl,D0,lD,hm⟩,q⟩;dsimp only at hb hl D0 lD hm q;have sizes:∀{i:Nat} {f:Int×Int},fs[i]? = some f->0<f.2/\Lt2 m f.1/\f.2∣D1:=λh=>hb _ (aL h);have small:∀{c:Int},c∣D1->Lt2 8990000 c:=λh=>lD.le (cw () (bq.mpr h));refine⟨λi s=>∃(o:SD) (b0:Int),s=[.val (.lst (JC fs)),.vi b0,o]/\0<b0/\b0∣D1/\∀(j:Nat) (f:Int×Int),j<i->fs[j]? = some f->f.2∣b0,⟨.no,1,rfl,by decide,Int.one_dvd _,λj f h=>absurd h (bZ _)⟩,?_,?_⟩
 ·rintro i d _ hd ⟨o,b0,rfl,h0,hl0,hd0⟩;obtain⟨f,hf,rfl⟩:=BU hd;obtain⟨b1,l1,l2⟩:=sizes hf;have g0:=uQ (a:=b0) (b:=f.2) ();obtain⟨e,q0,ql⟩:=sZ g0 b1 (vg b0 f.2).2;obtain⟨k1,k2⟩:=EV h0 b1;have gl:(Fr.cp b0 f.2).natAbs<=f.2.natAbs:=cw () (bq.mpr (vg b0 f.2).2);refine⟨rfl,(b0,f.2),rfl,?_⟩;rintro _ rfl;refine⟨⟨by show Fr.cp b0 f.2≠0;lia,8990000,(small l2).le gl,by decide⟩,⟨_,_,small hl0,(small l2).le ql,by decide⟩,_,_,rfl,k1,lcm_dvd h0 b1 hl0 l2,λj g hj hg=>?_⟩;rcases bN (dS hj) with z|z
  ·rw[z,hf] at hg;cases hg;exact k2
  ·exact eA (hd0 j g z hg)
 ·rintro _ ⟨o,b0,rfl,h0,hl0,hd0⟩;rw[aa] at hd0;have hd1:∀(j:Nat) (f:Int×Int),fs[j]? = some f->f.2∣b0:=λj f h=>hd0 j f (ak.mp h).1 h;refine⟨(congrArg (· <= sizeLine) (aa _)).mpr (tP ()),mI (λf:Int×Int=>f.1*b0.fdiv f.2) fs,mI.nil,λi d ys hd _ hy=>?_,λys _ hy=>?_⟩
  ·obtain⟨f,hf,rfl⟩:=BU hd;obtain⟨b1,l1,l2⟩:=sizes hf;obtain⟨e,q0,ql⟩:=sZ b1 h0 (hd1 _ _ hf);exact⟨⟨by show f.2≠0;lia,8990000,small l2,by decide⟩,⟨_,_,l1,(small hl0).le ql,()⟩,hy.snoc hf rfl⟩
  ·cases hy.all (by rw[aa]);exact⟨tz,q _ ⟨b0,rfl,h0,small hl0,hl0,hd1⟩⟩
def oP:SpB:=.of 1 (α:=List (Int×Int)×Int×Nat) (λ(fs,D,m) ds=>ds=[.lst (JC fs)]/\M6 fs D m)
 (λ(fs,D,m) d=>∃ P B,d=pD P B/\Po.Fm P B/\(∀ k,P.getD k 0*(fs.getD k (0,1)).2=(fs.getD k (0,1)).1*B)/\P.length<=fs.length/\B∣D)
def qE:TSd:=(iE [] (io jd (ii (ij 1) (ii (ij 2) il))))
def rA:TSd:=dSq (ir [] (gTp [1,2]) (io jj (ii (ij 0) il)))
 qE
theorem qj:Does 3 rA oP:=by
 rintro ds Q hn ⟨⟨fs,D1,m⟩,⟨rfl,hF⟩,q⟩;have hF':=hF;obtain⟨hb,hl,D0,lD,hm8⟩:=hF';refine⟨rfl,(fs,D1,m),⟨rfl,hF⟩,?_⟩;rintro _ ⟨b0,rfl,h0,hl0,hbD,hd⟩;refine⟨rfl,rfl,(fs.map λf=>f.1*b0.fdiv f.2,b0),⟨rfl,h0,Lt2.mono hl0 (by decide),by show (fs.map λf=>f.1*b0.fdiv f.2).length<=1000;rw[aa];lia⟩,?_⟩;rintro _ ⟨P,B,rfl,fm,hw,hle⟩;have hle:P.length<=(fs.map λf=>f.1*b0.fdiv f.2).length:=hle;rw[aa] at hle;refine q _ ⟨P,B,rfl,fm,λk=>?_,hle,dZ (bq.mp (Po.yz fm hw)) hbD⟩;have hk:P.getD k 0*b0=(fs.map λf=>f.1*b0.fdiv f.2).getD k 0*B:=hw k;show P.getD k 0*(fs.getD k (0,1)).2=(fs.getD k (0,1)).1*B;cases hf:fs[k]? with
 | none =>
  rw[sk (fs:=fs.map λf=>f.1*b0.fdiv f.2) (by rw[aa];exact gv.mp hf),ax] at hk;rw[sk (fs:=fs) (gv.mp hf)];rcases bv.mp hk with z|z
  ·rw[z];simp
  ·lia
 | some f =>
  have hm:(fs.map λf=>f.1*b0.fdiv f.2).getD k 0=f.1*b0.fdiv f.2:=sV (by rw[aR,hf];rfl);rw[hm] at hk;rw[sV hf];have b1:=(hb f (aL hf)).1;obtain⟨e,q0,_⟩:=sZ b1 h0 (hd k f hf);refine av (am q0) ?_;generalize b0.fdiv f.2=y at *;grind
open Cv Qp in
theorem Ep(h0:∀ k,13<=k->N k=0)(h1:∀ k,13<=k->N' k=0)(e0:0<e)(e1:0<e')(U0:0<U)(p0:0<p2)(h:∀ k,(cv N' (fn G) k*p2+p1.getD k 0*(e'*U))*e=N k*(e'*U*p2))(x:Rat) :
  ei N x 13 / (e:Rat)=E p1 p2 x+E G U x*(ei N' x 13 / (e':Rat)):=by
 have l:=yx (F:=λk=>cv N' (fn G) k*p2+p1.getD k 0*(e'*U)) (G:=N) (x:=x) h (13+G.length+p1.length);rw[AL,uP,uP] at l;have a1:ei (cv N' (fn G)) x (13+G.length+p1.length)=ei N' x 13*ei (fn G) x G.length:=by
  rw[zo (λk hk=>tD (a:=13) (b:=G.length) (λj hj=>h1 j hj) (λj hj=>sx hj) ()),Hf (λk hk=>h1 k hk) (λk hk=>sx hk)]
 have a2:ei (λk=>p1.getD k 0) x (13+G.length+p1.length)=ei (fn p1) x p1.length:=by
  rw[show 13+G.length+p1.length=p1.length+(13+G.length) by lia];exact zo (λk hk=>sx hk) _
 have a3:ei N x (13+G.length+p1.length)=ei N x 13:=by
  rw[show 13+G.length+p1.length=13+(G.length+p1.length) by lia];exact zo h0 _
 rw[a1,a2,a3] at l;unfold E;simp only[ar] at l;have n1:=so e0;have n2:=so e1;have n3:=so U0;have n4:=so p0;generalize ei N' x 13=X at *;generalize ei (fn G) x G.length=Y at *;generalize ei (fn p1) x p1.length=Z at *;generalize ei N x 13=V at *;generalize (e:Rat)=a at *;generalize (e':Rat)=b at *;generalize (U:Rat)=c at *;generalize (p2:Rat)=d at *;have k1:V / a=(X*Y*d+Z*(b*c)) / (b*c*d):=by grind
 rw[k1];grind
end Dp
namespace Dp
open PySem L2
theorem BI(h:∀ k,F k=0)(x:Rat):∀ n,Qp.ei F x n=0
 | 0=>rfl
 | n+1=>by
  rw[Qp.ei,BI h x n,h n];show (0:Rat)+0*_=0;grind
theorem vB(h:Ca.Cand P k s R C)(s1:1<=s):R s=C/\R 0=0:=by
 obtain⟨c,g,c0,g0,h1,h2,h3⟩:=h;have:=h2 0 ();rw[bA,aP,bx,g0,bK] at this;exact⟨this,h3⟩
theorem EJ{P G:List Int}{s:Nat}{U:Int}(lG:G.length=s+1)(lP:P.length=s+1)(fG:Po.Fm G U)(h:Ca.Cand (λi=>P.getD i 0) 1 s (λi=>G.getD i 0) U)(hL:P.getD s 0≠0):U.natAbs<=(P.getD s 0).natAbs:=by
 obtain⟨c,g,c0,g0,h1,h2,h3⟩:=h;have key:∀ k,G.getD k 0*P.getD s 0=(if k=0 then 0 else P.getD k 0)*U:=λk=>by
  by_cases c1:k=0
  ·subst c1;have h3:G.getD 0 0=0:=h3;rw[if_pos rfl,h3];simp
  rw[if_neg c1];rcases aw s k with z|z
  ·rw[sk (fs:=G) (i:=k) (),sk (fs:=P) (i:=k) ()];simp
  ·have a:P.getD (1*s-(s-k)) 0*c^(s-k)=P.getD (1*s) 0*Ca.pw g 1 (s-k):=h1 (s-k) ();have b:G.getD (s-(s-k)) 0*c^(s-k)=g (s-k)*U:=h2 (s-k) ();rw[f6,show s-(s-k)=k by lia] at a;rw[show s-(s-k)=k by lia] at b;rw[Ca.Be,Pc.Mo] at a;refine av (show c^(s-k)≠0 from bu (am c0)) ?_
   calc G.getD k 0*P.getD s 0*c^(s-k)=(G.getD k 0*c^(s-k))*P.getD s 0:=by grind
    _=g (s-k)*U*P.getD s 0:=by rw[b]
    _=(P.getD s 0*g (s-k))*U:=by grind
    _=P.getD k 0*U*c^(s-k):=by rw[← a];grind
 rcases e9 hL with z|z
 ·have:=(Po.size (f:=λk => -(if k=0 then 0 else P.getD k 0)) (b:=-P.getD s 0) fG () λk=>by rw[Int.mul_neg,key k,Int.neg_mul]).1;rwa [gx] at this
 ·exact (Po.size (f:=λk=>if k=0 then 0 else P.getD k 0) (b:=P.getD s 0) fG z key).1
theorem zm{t u a c:Int}(u0:0<u)(g:Int.gcd t u=1)(c0:0<c)(e:(t:Rat) / (u:Rat)=(a:Rat) / (c:Rat)):u∣c:=by
 have h:=(Qp.tq (am u0) (am c0)).mp e;have d:u∣t*c:=⟨a,by rw[h,bo]⟩;have d:=bq.mpr d;rw[aT] at d;exact bq.mp (Nat.Coprime.dvd_of_dvd_mul_left (show Nat.gcd u.natAbs t.natAbs=1 by rw[gG];exact g) d)
theorem yw(f:Nat->Rat)(y:Rat):∀ n,Qp.er f y (n+1)=f 0+y*Qp.er (λk=>f (k+1)) y n
 | 0=>by unfold Qp.er Qp.er;grind
 | n+1=>by
  rw[Qp.er,yw f y n,Qp.er];grind
theorem K7(l:P.length<=1)(x:Rat):Qp.E P B x=Qp.q P B 0:=by
 rw[Qp.yL (N:=1) l,Qp.Mn];rfl
theorem Em:∀{Ps:List (List Int×Int)} {f:Nat->Rat},(∀ p∈Ps,p.1.length<=1)->(∀ j p,Ps[j]? = some p->f j=Qp.q p.1 p.2 0)->Ap.Ed y x Ps=Qp.er f y Ps.length
 | [],_,_,_=>rfl
 | p::Ps,f,h,hf=>by
  show Qp.E p.1 p.2 x+y*Ap.Ed y x Ps=_;rw[br,yw,K7 (h p aG),hf 0 p rfl,Em (λq hq=>h q (aC _ hq)) λj q hq=>hf (j+1) q hq]
theorem zY(l:R.length<=N)(y:Rat):Qp.E R C y=Qp.er (Qp.q R C) y N:=by
 rw[Qp.IY (λ_=>rfl),Qp.yL l]
end Dp
namespace Ca
open Cv
theorem Id(hk:0<k)(g0:g 0=1)(g0':g' 0=1)(h:∀ j,j<s->pw g k j=pw g' k j):∀ j,j<s->g j=g' j:=by
 have go:∀ n,∀ j,j<n->j<s->g j=g' j:=by
  intro n;induction n with
  | zero=>intro j hj;lia
  | succ n ih =>
   intro j hj js;rcases aw j n with z|z
   ·exact ih j z js
   ·have e:j=n:=by lia
    subst e;cases j with
    | zero=>rw[g0,g0']
    | succ j =>
     have p:=(yg (g:=g) (g':=g') (s:=j) g0 (λi hi=>(ih i () ()).symm) k).2;rw[h (j+1) js] at p;have:(k:Int)*(g' (j+1)-g (j+1))=0:=by omega
     rcases bv.mp this with w|w <;> lia
 exact λj hj=>go s j hj hj
theorem Cand.uniq(hk:0<k)(hP:P (k*s)≠0)(f:Po.Fm R C)(f':Po.Fm R' C')(l:R.length=s+1)(l':R'.length=s+1)(h:Cand P k s (λi=>R.getD i 0) C)(h':Cand P k s (λi=>R'.getD i 0) C'):R=R'/\C=C':=by
 obtain⟨c,g,c0,g0,h1,h2,h3⟩:=h;obtain⟨c',g',c0',g0',h1',h2',h3'⟩:=h';have e:∀ j,j<s->g j*c'^j=g' j*c^j:=by
  refine Id (g:=λi=>g i*c'^i) (g':=λi=>g' i*c^i) hk ?_ ?_ λj hj=>?_
  ·show g 0*c'^0=1;rw[g0];simp
  ·show g' 0*c^0=1;rw[g0'];simp
  ·rw[yh,yh];refine dP hP ?_;have a:=h1 j hj;have b:=h1' j hj
   calc P (k*s)*(pw g k j*c'^j)=(P (k*s)*pw g k j)*c'^j:=by grind
    _=P (k*s-j)*c'^j*c^j:=by rw[← a];grind
    _=(P (k*s)*pw g' k j)*c^j:=by rw[← b]
    _=P (k*s)*(pw g' k j*c^j):=by grind
 refine Po.uniq f f' λi=>?_;rcases aw s i with z|z
 ·have a:R.getD i 0=0:=sx ();have b:R'.getD i 0=0:=sx ();rw[a,b];simp
 by_cases c1:i=0
 ·subst c1;have h3:R.getD 0 0=0:=h3;have h3':R'.getD 0 0=0:=h3';rw[h3,h3'];simp
 have a:R.getD (s-(s-i)) 0*c^(s-i)=g (s-i)*C:=h2 (s-i) ();have b:R'.getD (s-(s-i)) 0*c'^(s-i)=g' (s-i)*C':=h2' (s-i) ();rw[show s-(s-i)=i by lia] at a b;have x:=e (s-i) ();have p1:c^(s-i)≠0:=bu (am c0);have p2:c'^(s-i)≠0:=bu (am c0');refine av (bh p1 p2) ?_;generalize c^(s-i)=y at *;generalize c'^(s-i)=y' at *;generalize g (s-i)=u at *;generalize g' (s-i)=u' at *
 calc R.getD i 0*C'*(y*y')=(R.getD i 0*y)*y'*C':=by grind
  _=(u*y')*C*C':=by rw[a];grind
  _=(u'*C')*y*C:=by rw[x];grind
  _=R'.getD i 0*C*(y*y'):=by rw[← b];grind
end Ca
namespace Ap
open L2 Cv Hv Pc Qp
theorem Ed.pad(y x:Rat):∀(ps:List Pl) (n:Nat),Ed y x (ps++List.replicate n ([],1))=Ed y x ps
 | [],0=>rfl
 | [],n+1=>by
  have:=Ed.pad y x [] n;rw[bF];show E [] 1 x+y*Ed y x (List.replicate n ([],1))=0;have e:Ed y x (List.replicate n ([],1))=0:=this;rw[e,vF];grind
 | p::ps,n=>by
  show _+y*Ed y x (ps++List.replicate n ([],1))=_+y*Ed y x ps;rw[Ed.pad y x ps n]
theorem wK:Po.Fm ([]:List Int) 1:=⟨by decide,.inl rfl,by decide⟩
theorem Ed.uniq2(fG:Po.Fm G U)(lG:G.length=s+1)(hp:∀ p∈ps,Po.Fm p.1 p.2/\p.1.length<=s)(hq:∀ p∈qs,Po.Fm p.1 p.2/\p.1.length<=s)(h:∀ x,Ed (E G U x) x ps=Ed (E G U x) x qs)(t:Nat):ps.getD t ([],1)=qs.getD t ([],1):=by
 have rep:∀(n:Nat) (p:Pl),p∈List.replicate n (([],1):Pl)->Po.Fm p.1 p.2/\p.1.length<=s:=λn p hp=>by
  rw[(List.mem_replicate.mp hp).2];exact⟨wK,aB _⟩
 have e:=Ed.uniq fG lG (ps:=ps++List.replicate qs.length ([],1)) (qs:=qs++List.replicate ps.length ([],1)) (by simp;lia) (λp h=>by
  rcases bD.mp h with z|z
  ·exact hp p z
  ·exact rep _ p z) (λp h=>by
  rcases bD.mp h with z|z
  ·exact hq p z
  ·exact rep _ p z) (λx=>by rw[Ed.pad,Ed.pad,h])
 have g:∀(l:List Pl) (n:Nat),(l++List.replicate n (([],1):Pl)).getD t ([],1)=l.getD t ([],1):=λl n=>by
  rw[ac,ac];rcases aw t l.length with z|z
  ·rw[aN z]
  ·rw[az z,bt z,dh];split <;> rfl
 have:=congrArg (λl:List Pl=>l.getD t ([],1)) e;rwa [g,g] at this
end Ap
namespace Dp
open PySem L2
def M0(P:List Int)(B:Int)(k s:Nat):Prop:=∃ G U R C,Po.Fm G U/\G.length=s+1/\Ca.Cand (λi=>P.getD i 0) k s (λi=>G.getD i 0) U/\Po.Fm R C/\∀ x,Qp.E P B x=Qp.E R C (Qp.E G U x)
theorem EG(r:Rat):∃ p:List Int×Int,Po.Fm p.1 p.2/\p.1.length<=1/\∀ x,Qp.E p.1 p.2 x=r:=by
 obtain⟨t,u,hu,rfl⟩:=Qp.tT r;have h1:∀ k,1<=k->([t]:List Int).getD k 0=0:=λk hk=>sk hk;obtain⟨R,C,fR,w⟩:=Ap.has (F:=λk=>[t].getD k 0) (n:=1) hu h1;exact⟨(R,C),fR,Pc.sJ fR hu w h1,λx=>Qp.yK fR hu w x⟩
theorem xb:∀(n:Nat) (f:Nat->Rat),∃ Cs:List (List Int×Int),Cs.length=n/\(∀ p∈Cs,Po.Fm p.1 p.2/\p.1.length<=1)/\∀ x y,Ap.Ed y x Cs=Qp.er f y n
 | 0,f=>⟨[],rfl,λp h=>absurd h aX,λx y=>rfl⟩
 | n+1,f=>by
  obtain⟨Cs,l,h,e⟩:=xb n λk=>f (k+1);obtain⟨p,fp,lp,ep⟩:=EG (f 0);refine⟨p::Cs,by rw[br,l],λq hq=>?_,λx y=>?_⟩
  ·rcases au.mp hq with z|z
   ·rw[z];exact⟨fp,lp⟩
   ·exact h q z
  ·show Qp.E p.1 p.2 x+y*Ap.Ed y x Cs=_;rw[yw,ep,e]
theorem mem_getD{α:Type}{l:List α}{t:Nat}{d:α}{p:α->Prop}(h:∀ x∈l,p x)(hd:p d):p (l.getD t d):=by
 rcases aw t l.length with z|z
 ·exact h _ (uM z)
 ·rw[sk z];exact hd
end Dp
namespace Ap
open L2 Cv Hv Pc Qp
def Pl'(n:Nat)(f:Rat->Rat):Prop:=∃ R C,Po.Fm R C/\(∀ x,E R C x=f x)/\R.length<=n
theorem Pl'.of(f:Po.Fm P B):Pl' P.length (E P B):=⟨P,B,f,λ_=>rfl,af _⟩
theorem Pl'.mono(h:Pl' n f)(l:n<=m):Pl' m f:=by
 obtain⟨R,C,a,b,c⟩:=h;exact⟨R,C,a,b,()⟩
theorem Pl'.congr(h:Pl' n f)(e:∀ x,f x=g x):Pl' n g:=by
 obtain⟨R,C,a,b,c⟩:=h;exact⟨R,C,a,λx=>by rw[b,e],c⟩
theorem Pl'.add(hf:Pl' n f)(hg:Pl' n g):Pl' n λx=>f x+g x:=by
 obtain⟨P1,B1,f1,e1,l1⟩:=hf;obtain⟨P2,B2,f2,e2,l2⟩:=hg;have z:∀ k,n<=k->P1.getD k 0*B2+P2.getD k 0*B1=0:=λk hk=>by
  have a:P1.getD k 0=0:=sx ();have b:P2.getD k 0=0:=sx ();rw[a,b];simp
 obtain⟨R,C,fR,w⟩:=has (F:=λk=>P1.getD k 0*B2+P2.getD k 0*B1) (n:=n) (ay f1.pos f2.pos) z;exact⟨R,C,fR,λx=>by rw[xW f1.pos f2.pos fR.pos w,e1,e2],sJ fR (ay f1.pos f2.pos) w z⟩
theorem Pl'.mul(hf:Pl' n f)(hg:Pl' (m+1) g):Pl' (n+m) λx=>f x*g x:=by
 obtain⟨P1,B1,f1,e1,l1⟩:=hf;obtain⟨P2,B2,f2,e2,l2⟩:=hg;have z:∀ k,n+m<=k->cv (fn P1) (fn P2) k=0:=λk hk=>tD (a:=n) (b:=m+1) (λj h=>sx ()) (λj h=>sx ()) ();obtain⟨R,C,fR,w⟩:=has (F:=cv (fn P1) (fn P2)) (n:=n+m) (ay f1.pos f2.pos) z;exact⟨R,C,fR,λx=>by rw[vE f1.pos f2.pos fR w,e1,e2],sJ fR (ay f1.pos f2.pos) w z⟩
theorem Pl'.const(r:Rat):Pl' 1 λ_=>r:=by
 obtain⟨t,u,hu,rfl⟩:=tT r;have z:∀ k,1<=k->([t]:List Int).getD k 0=0:=λk hk=>by
  obtain⟨j,rfl⟩:∃ j,k=j+1:=⟨k-1,()⟩;simp
 obtain⟨R,C,fR,w⟩:=has (F:=λk=>[t].getD k 0) (n:=1) hu z;exact⟨R,C,fR,λx=>yK fR hu w x,sJ fR hu w z⟩
theorem Pl'.smul(r:Rat)(hf:Pl' n f):Pl' n λx=>r*f x:=(hf.mul (m:=0) (Pl'.const r)).congr λx=>Rat.mul_comm _ _
theorem Pl'.x:Pl' 2 λx=>x:=⟨X,1,⟨by decide,.inr (by decide),by decide⟩,Lo,af _⟩
theorem Pl'.pow(hf:Pl' (s+1) f):∀ k:Nat,Pl' (s*k+1) λx=>f x^k
 | 0=>(Pl'.const 1).congr λx=>by rw[cJ]
 | k+1=>((Pl'.pow hf k).mul hf).congr (λx=>by rw[cK]) |>.mono (by rw[bI];lia)
theorem Pl'.comp(hg:Pl' (s+1) g):Pl' (s*(P.length-1)+1) λx=>E P B (g x):=by
 have go:∀ n,Pl' (s*(n-1)+1) λx=>er (q P B) (g x) n:=by
  intro n;induction n with
  | zero=>exact (Pl'.const 0).mono ()
  | succ n ih =>
   have a:Pl' (s*n+1) λx=>q P B n*g x^n:=(hg.pow n).smul _;exact ((ih.mono (gP (ae _ ()) 1)).add a).congr λx=>rfl
 refine (go P.length).congr λx=>?_;rw[IY (λ_=>rfl)];rfl
theorem Ib(fA:Po.Fm A a)(fD:Po.Fm D d)(h:∀ x,E A a x=E D d x)(i:Nat):q A a i=q D d i:=by
 obtain⟨rfl,rfl⟩:=uz fA fD h;rfl
theorem wE(fA:Po.Fm A a)(fH:Po.Fm H c)(fD:Po.Fm D d)(h:∀ x,E A a x=u*E H c x+E D d x)(i:Nat):q A a i=u*q H c i+q D d i:=by
 obtain⟨t,v,hv,rfl⟩:=tT u;have p1:=ay fH.pos hv;have z1:∀ k,H.length<=k->H.getD k 0*t=0:=λk hk=>by
  have:H.getD k 0=0:=sx hk;rw[this];simp
 obtain⟨S,e,fS,w⟩:=has (F:=λk=>H.getD k 0*t) (n:=H.length) p1 z1;have eS:∀ x,E S e x=(t:Rat) / (v:Rat)*E H c x:=λx=>by
  rw[vY (N:=S.length+H.length) fS.pos (am p1) w (),uP,yL (P:=H) (N:=S.length+H.length) (),ar];have n1:=so fH.pos;have n2:=so hv;show ei (fn H) x _*_ / _=_;generalize ei (fn H) x (S.length+H.length)=y;grind
 have qS:q S e i=(t:Rat) / (v:Rat)*q H c i:=by
  rw[ye (f:=λk=>H.getD k 0*t) fS.pos (am p1) w i,ar,ar];have n1:=so fH.pos;have n2:=so hv;unfold q;grind
 have p2:=ay fS.pos fD.pos;obtain⟨V,b,fV,w2⟩:=has (F:=λk=>S.getD k 0*d+D.getD k 0*e) (n:=S.length+D.length) p2 λk hk=>by
  have x:S.getD k 0=0:=sx ();have y:D.getD k 0=0:=sx ();rw[x,y];simp
 rw[Ib fA fV (λx=>by rw[h,xW fS.pos fD.pos fV.pos w2,eS]) i,GI fS.pos fD.pos fV.pos w2,qS]
end Ap
namespace Ca
open L2 Cv Hv Pc Qp
theorem Al(fG:Po.Fm G U)(k:Nat):∃ H C,Po.Fm H C/\(∀ x,E H C x=E G U x^k)/\∀ i,q H C i=((pw (fn G) k i:Int):Rat) / ((U^k:Int):Rat):=by
 induction k with
 | zero =>
  refine⟨[1],1,⟨by decide,.inr (by decide),by decide⟩,λx=>?_,λi=>?_⟩
  ·rw[cJ];unfold E;show (0+((1:Int):Rat)*x^0) / ((1:Int):Rat)=1;rw[cJ];show (0+(1:Rat)*1) / 1=1;grind
  ·rw[aP];unfold q;congr 1;cases i with
   | zero=>rfl
   | succ i=>rfl
 | succ k ih =>
  obtain⟨H,C,fH,eH,qH⟩:=ih;have p:=ay fH.pos fG.pos;obtain⟨S,D,fS,w⟩:=Ap.has (F:=cv (fn H) (fn G)) (n:=H.length+G.length) p λj hj=>tD (a:=H.length) (b:=G.length) (λi h=>sx h) (λi h=>sx h) ();refine⟨S,D,fS,λx=>by rw[vE fH.pos fG.pos fS w,eH,cK],λi=>?_⟩;have pU:(0:Int)<U^k:=bw fG.pos;have hk:∀ j,fn H j*U^k=pw (fn G) k j*C:=λj=>(tq (am fH.pos) (am pU)).mp (qH j);have e:cv (fn H) (fn G) i*U^k=pw (fn G) (k+1) i*C:=by
   show _=cv (pw (fn G) k) (fn G) i*C;rw[← tY,← tY];exact sW hk λ_=>rfl
  rw[ye (f:=λk=>cv (fn H) (fn G) k) fS.pos (am p) w i];refine (tq (am p) (am (bw fG.pos))).mpr ?_;rw[a6]
  calc cv (fn H) (fn G) i*(U^k*U)=(cv (fn H) (fn G) i*U^k)*U:=by grind
   _=pw (fn G) (k+1) i*(C*U):=by rw[e];grind
def Sem(P:List Int)(B:Int)(k s:Nat)(G:List Int)(U:Int):Prop:=∃ r:Rat->Rat,Ap.Pl' (k*s-s+1) r/\∀ x,E P B x=q P B (k*s)*E G U x^k+r x
theorem Df{G g:Nat->Int}{c U:Int}{k s j:Nat}(h:∀ i,i<s->G (s-i)*c^i=g i*U)(hj:j<s):pw (rv s G) k j*c^j=pw g k j*U^k:=by
 rw[← yh,← Do];refine GJ (n:=j) (λi hi=>?_) k j (af _);show rv s G i*c^i=g i*U;rw[← h i ()];unfold rv;rw[if_pos ()]
theorem Cand.sem(fP:Po.Fm P B)(lP:P.length=k*s+1)(fG:Po.Fm G U)(lG:G.length=s+1)(k1:1<=k)(s1:1<=s)(h:Cand (λi=>P.getD i 0) k s (λi=>G.getD i 0) U):Sem P B k s G U:=by
 obtain⟨c,g,c0,g0,h1,h2,h3⟩:=h;obtain⟨H,C,fH,eH,qH⟩:=Al fG k;have ks:s<=k*s:=aO _ k1;obtain⟨R,D,fR,eR⟩:=(Ap.Pf.of fP).add ((Ap.Pf.const (-q P B (k*s))).mul (Ap.Pf.of fH));have eR:∀ x,E R D x=E P B x + -q P B (k*s)*E H C x:=eR;have qR:∀ i,q R D i = -q P B (k*s)*q H C i+q P B i:=Ap.wE fR fH fP λx=>by rw[eR];grind
 have z:∀ i,k*s-s+1<=i->q R D i=0:=λi hi=>by
  rw[qR,qH];rcases aw (k*s) i with w|w
  ·rw[yf (λj hj=>sx ()) k i w,ux (P:=P) (k:=i) ()];show _*((0:Rat) / _)+0=0;grind
  ·obtain⟨j,hj,rfl⟩:∃ j,j<s/\i=k*s-j:=⟨k*s-i,(),()⟩;rw[Bd (λj hj=>sx ()) k j ()];have a:=Df (G:=fn G) (k:=k) h2 hj;have b:P.getD (k*s-j) 0*c^j=P.getD (k*s) 0*pw g k j:=h1 j hj;have cj:c^j≠0:=bu (am c0);have e:P.getD (k*s-j) 0*U^k=P.getD (k*s) 0*pw (rv s (fn G)) k j:=by
    refine av cj ?_
    calc P.getD (k*s-j) 0*U^k*c^j=(P.getD (k*s-j) 0*c^j)*U^k:=by grind
     _=P.getD (k*s) 0*(pw g k j*U^k):=by rw[b];grind
     _=P.getD (k*s) 0*pw (rv s (fn G)) k j*c^j:=by rw[← a];grind
   have e2:=congrArg (λz:Int=>(z:Rat)) e;simp only[ar] at e2;have n1:=so fP.pos;have n2:=so (show 0<U^k from bw fG.pos);unfold q;generalize ((pw (rv s (fn G)) k j:Int):Rat)=y at *;generalize ((P.getD (k*s) 0:Int):Rat)=p at *;generalize ((P.getD (k*s-j) 0:Int):Rat)=p' at *;generalize ((U^k:Int):Rat)=u at *;have:p'=p*y / u:=by grind
   rw[this];grind
 refine⟨E R D,⟨R,D,fR,λ_=>rfl,?_⟩,λx=>by rw[eR,eH];grind⟩;rcases aw (k*s-s+1) R.length with w|w
 ·exact absurd (z (R.length-1) ()) (uF fR (by intro e;rw[e] at w;simp at w))
 ·exact w
theorem Sem.cand(fP:Po.Fm P B)(fG:Po.Fm G U)(lG:G.length=s+1)(k1:1<=k)(s1:1<=s)(mon:G.getD s 0=U)(G0:G.getD 0 0=0)(h:Sem P B k s G U):Cand (λi=>P.getD i 0) k s (λi=>G.getD i 0) U:=by
 obtain⟨r,⟨R,D,fR,eR,lR⟩,e⟩:=h;obtain⟨H,C,fH,eH,qH⟩:=Al fG k;have ks:s<=k*s:=aO _ k1;have qq:=Ap.wE (u:=q P B (k*s)) fP fH fR λx=>by rw[e,eH,eR]
 have hg:∀ i,i<s->fn G (s-i)*U^i=(if i=0 then 1 else G.getD (s-i) 0*U^(i-1))*U:=λi hi=>by
  cases i with
  | zero =>
   rw[if_pos rfl,bA,aP];show G.getD s 0*1=1*U;rw[mon];lia
  | succ i =>
   rw[if_neg (),aH,a6,bC];rfl
 refine⟨U,λi=>if i=0 then 1 else G.getD (s-i) 0*U^(i-1),fG.pos,rfl,λj hj=>?_,hg,G0⟩;have a:=Df (k:=k) hg hj;have b:=qq (k*s-j);rw[qH,Bd (λj hj=>sx ()) k j (),ux (P:=R) ()] at b;have pU:(0:Int)<U^k:=bw fG.pos;have e2:P.getD (k*s-j) 0*U^k=P.getD (k*s) 0*pw (rv s (fn G)) k j:=by
  have n1:=so fP.pos;have n2:=so pU;unfold q at b;have:((P.getD (k*s-j) 0*U^k:Int):Rat)=((P.getD (k*s) 0*pw (rv s (fn G)) k j:Int):Rat):=by
   rw[ar,ar];generalize ((pw (rv s (fn G)) k j:Int):Rat)=y at *;generalize ((P.getD (k*s) 0:Int):Rat)=p at *;generalize ((P.getD (k*s-j) 0:Int):Rat)=p' at *;generalize ((U^k:Int):Rat)=u at *;have:p'=p*(y / u):=by grind
   rw[this];grind
  exact dD.mp this
 refine av (am pU) ?_
 calc P.getD (k*s-j) 0*U^j*U^k=(P.getD (k*s-j) 0*U^k)*U^j:=by grind
  _=P.getD (k*s) 0*(pw (rv s (fn G)) k j*U^j):=by rw[e2];grind
  _=_:=by rw[a];grind
end Ca
namespace Ap
open L2 Cv Hv Pc Qp
theorem Ed.same:∀{ps qs:List Pl},(∀ t,ps.getD t ([],1)=qs.getD t ([],1))->Ed y x ps=Ed y x qs
 | [],[],_=>rfl
 | [],q::qs,h=>by
  have a:=h 0;have b:=Ed.same (ps:=[]) (qs:=qs) (y:=y) (x:=x) λt=>by have:=h (t+1);rw[bV] at this;exact this
  have a:(([],1):Pl)=q:=a;show 0=E q.1 q.2 x+y*Ed y x qs;rw[← a,← b];show (0:Rat)=E [] 1 x+y*0;rw[vF];grind
 | p::ps,[],h=>by
  have a:=h 0;have b:=Ed.same (ps:=ps) (qs:=[]) (y:=y) (x:=x) λt=>by have:=h (t+1);rw[bV] at this;exact this
  have a:p=(([],1):Pl):=a;show E p.1 p.2 x+y*Ed y x ps=0;rw[a,b];show E [] 1 x+y*0=(0:Rat);rw[vF];grind
 | p::ps,q::qs,h=>by
  have a:p=q:=h 0;have b:=Ed.same (ps:=ps) (qs:=qs) (y:=y) (x:=x) λt=>by have:=h (t+1);rw[bV,bV] at this;exact this
  show E p.1 p.2 x+y*Ed y x ps=E q.1 q.2 x+y*Ed y x qs;rw[a,b]
end Ap
namespace Dp
open PySem L2 Qp
theorem Kq{P W:List Int}{B V:Int}(fP:Po.Fm P B)(fW:Po.Fm W V):∃ R C,Pc.Of P B W V R C:=by
 have p:0<B*V^P.length:=ay fP.pos (bw fW.pos);obtain⟨R,C,fR,w⟩:=Ap.has (F:=Pc.pc (Cv.fn P) (Cv.fn W) V P.length) (n:=P.length*W.length+1) p λk hk=>Pc.yk (λj hj=>Cv.sx hj) P.length k hk;exact⟨R,C,fR,w⟩
end Dp
namespace Dp
open PySem L2
theorem v9(t k:Nat)(r:Int):(List.replicate t (0:Int)++[r]).getD k 0=if k=t then r else 0:=by
 rcases aw k t with y|y
 ·rw[if_neg (),ac,aN (by rw[aI];exact y),dh,if_pos y];rfl
 ·by_cases e:k=t
  ·rw[if_pos e,e,ac,az (by rw[aI];exact af _),aI,a9];rfl
  ·rw[if_neg e,sk (by rw[aj,aI];show t+1<=k;lia)]
theorem Ku:Pc.Pz 1 1 [-1] 1:=⟨⟨by decide,.inr (by decide),by decide⟩,λk=>by
 cases k with
 | zero=>unfold Lt2;decide
 | succ k=>rw[sk (fL (aB _))];exact uw _,by unfold Lt2;decide⟩
theorem zq(h:Qp.E a.1 a.2 x=Qp.E b.1 b.2 x+y*Qp.E c.1 c.2 x):∀ ps:List (List Int×Int),Ap.Ed y x (ps++[a])=Ap.Ed y x (ps++[b]++[c])
 | []=>by
  show Qp.E a.1 a.2 x+y*0=Qp.E b.1 b.2 x+y*(Qp.E c.1 c.2 x+y*0);rw[h];grind
 | p::ps=>by
  show Qp.E p.1 p.2 x+y*Ap.Ed y x (ps++[a])=Qp.E p.1 p.2 x+y*Ap.Ed y x (ps++[b]++[c]);rw[zq h ps]
theorem BJ(h:Qp.E a.1 a.2 x=0):∀ ps:List (List Int×Int),Ap.Ed y x (ps++[a])=Ap.Ed y x ps
 | []=>by
  show Qp.E a.1 a.2 x+y*0=0;rw[h];grind
 | p::ps=>by
  show Qp.E p.1 p.2 x+y*Ap.Ed y x (ps++[a])=Qp.E p.1 p.2 x+y*Ap.Ed y x ps;rw[BJ h ps]
def Fnd(c:Int)(g:Nat->Int)(s j:Nat)(F:List Int)(V:Int):Prop:=Po.Fm F V/\F.length=s+1/\∀ i,i<=s->F.getD (s-i) 0*c^i=(if i<=j then g i else 0)*V
theorem Fnd.mon{c:Int}{g:Nat->Int}{s j:Nat}{F:List Int}{V:Int}(g0:g 0=1)(h:Fnd c g s j F V):F.getD s 0=V:=by
 have:=h.2.2 0 (aB _);rw[if_pos (aB _),g0,aP,bx,bK] at this;exact this
theorem Fnd.want{P F R:List Int}{c V C:Int}{g:Nat->Int}{k s j:Nat}(c0:0<c)(g0:g 0=1)(hp:∀ j,j<s->P.getD (k*s-j) 0*c^j=P.getD (k*s) 0*Ca.pw g k j)(hL:P.getD (k*s) 0≠0)(k1:1<=k)(js:j+1<s)(h:Fnd c g s j F V)(fR:Po.Fm R C)(hR:∀ t,R.getD t 0*V^k=Pc.cp (Cv.fn F) k t*C) :
  R.getD (k*s) 0=C/\((P.getD (k*s-(j+1)) 0:Int):Rat) / ((P.getD (k*s) 0:Int):Rat)-((R.getD (k*s-(j+1)) 0:Int):Rat) / (C:Rat)=((g (j+1):Int):Rat)*(k:Rat) / ((c^(j+1):Int):Rat):=by
 have fz:∀ i,s<i->Cv.fn F i=0:=λi hi=>Cv.sx (by rw[h.2.1];lia);have V0:=h.1.pos;have Vk:V^k≠0:=bu (am V0);have mon:=h.mon g0;refine⟨?_,?_⟩
 ·have e:=hR (k*s);rw[Pc.xa fz k,show Cv.fn F s=V from mon,bo (V^k) C] at e;exact av Vk e
 ·have kj:j+1<=k*s:=aE (eK js) (aO _ k1);have e:=hR (k*s-(j+1));rw[← Ca.Be,Ca.Bd fz k (j+1) kj] at e;obtain⟨g',hg'⟩:∃ g':Nat->Int,∀ i,g' i=if i<=j then g i else 0:=⟨_,λ_=>rfl⟩;have rv:=Ca.Df (G:=Cv.fn F) (g:=g') (c:=c) (U:=V) (k:=k) (s:=s) (j:=j+1) (λi hi=>by rw[hg'];exact h.2.2 i ()) js;have g0':g' 0=1:=by rw[hg',if_pos (aB _),g0]
  have one:=(Ca.yg (g:=g') (g':=g) (s:=j) g0' (λi hi=>by rw[hg',if_pos hi]) k).2;rw[hg' (j+1),if_neg (),Int.sub_zero] at one;have p:=hp (j+1) js;rw[one] at p;have C0:=Qp.so fR.pos;have L0:=Qp.sQ hL;have cj:=Qp.sQ (bu (am c0):c^(j+1)≠0);have Vr:=Qp.sQ Vk;have e1:((R.getD (k*s-(j+1)) 0:Int):Rat)*((c^(j+1):Int):Rat)=((Ca.pw g' k (j+1):Int):Rat)*(C:Rat):=by
   have:R.getD (k*s-(j+1)) 0*c^(j+1)=Ca.pw g' k (j+1)*C:=by
    refine av Vk ?_
    calc R.getD (k*s-(j+1)) 0*c^(j+1)*V^k=R.getD (k*s-(j+1)) 0*V^k*c^(j+1):=by grind
     _=Ca.pw (Ca.rv s (Cv.fn F)) k (j+1)*c^(j+1)*C:=by rw[e];grind
     _=_:=by rw[rv];grind
   rw[← ar,this,ar]
  have p2:((P.getD (k*s-(j+1)) 0:Int):Rat)*((c^(j+1):Int):Rat)=((P.getD (k*s) 0:Int):Rat)*(((Ca.pw g' k (j+1):Int):Rat)+(k:Rat)*((g (j+1):Int):Rat)):=by
   rw[← ar,p,ar,dE,ar];rfl
  generalize ((R.getD (k*s-(j+1)) 0:Int):Rat)=r at *;generalize ((P.getD (k*s-(j+1)) 0:Int):Rat)=a at *;generalize ((P.getD (k*s) 0:Int):Rat)=l at *;generalize ((c^(j+1):Int):Rat)=u at *;generalize ((Ca.pw g' k (j+1):Int):Rat)=w at *;generalize ((g (j+1):Int):Rat)=z at *;have h1:a=l*(w+(k:Rat)*z) / u:=by grind
  have h2:r=w*(C:Rat) / u:=by grind
  rw[h1,h2];grind
theorem Fnd.next{F S F':List Int}{c V E V' ra rb:Int}{g:Nat->Int}{s j:Nat}(c0:0<c)(js:j+1<=s)(h:Fnd c g s j F V)(g0:g 0=1)(fS:Po.Fm S E)(r0:0<rb)(hS:∀ k,S.getD k 0*rb=(if k=s-(j+1) then ra else 0)*E)(hr:ra*c^(j+1)=g (j+1)*rb)(fF':Po.Fm F' V')(hF':∀ k,F'.getD k 0*(V*E)=(F.getD k 0*E+S.getD k 0*V)*V'):Fnd c g s (j+1) F' V':=by
 obtain⟨fF,lF,hF⟩:=h;have V0:=fF.pos;have E0:=fS.pos;have n:V*E≠0:=bh (am V0) (am E0);have key:∀ i,i<=s->F'.getD (s-i) 0*c^i=(if i<=j+1 then g i else 0)*V':=λi hi=>by
  refine av n (av (am r0) ?_);have a:=hF' (s-i);have b:=hF i hi;have d:=hS (s-i);by_cases e:i=j+1
  ·subst e;rw[if_neg (),ax] at b;rw[if_pos rfl] at d;rw[if_pos (af _)];have z:F.getD (s-(j+1)) 0=0:=(bv.mp b).resolve_right (bu (am c0));rw[z,ax,bO] at a
   calc F'.getD (s-(j+1)) 0*c^(j+1)*(V*E)*rb=F'.getD (s-(j+1)) 0*(V*E)*c^(j+1)*rb:=by grind
    _=S.getD (s-(j+1)) 0*rb*c^(j+1)*V*V':=by rw[a];grind
    _=ra*c^(j+1)*E*V*V':=by rw[d];grind
    _=_:=by rw[hr];grind
  ·have e2:s-i≠s-(j+1):=by lia
   rw[if_neg e2,ax] at d;have z:S.getD (s-i) 0=0:=(bv.mp d).resolve_right (am r0);rw[z,ax,bQ] at a;have c1:(if i<=j+1 then g i else 0)=if i<=j then g i else 0:=by
    by_cases y:i<=j
    ·rw[if_pos y,if_pos ()]
    ·rw[if_neg y,if_neg ()]
   rw[c1]
   calc F'.getD (s-i) 0*c^i*(V*E)*rb=F'.getD (s-i) 0*(V*E)*c^i*rb:=by grind
    _=F.getD (s-i) 0*c^i*E*V'*rb:=by rw[a];grind
    _=_:=by rw[b];grind
 have mon:F'.getD s 0=V':=by
  have:=key 0 (aB _);rw[if_pos (aB _),g0,aP,bx,bK] at this;exact this
 refine⟨fF',?_,key⟩;have l1:F'.length<=s+1:=Pc.sJ fF' (ay V0 E0) hF' λk hk=>by
  have d:=hS k;rw[if_neg (),ax] at d;have z:S.getD k 0=0:=(bv.mp d).resolve_right (am r0);rw[sk (fs:=F) (),z];simp
 rcases aw s F'.length with x|x
 ·lia
 ·rw[sk x] at mon;have:=fF'.pos;lia
def Cn(P:List Int)(k s:Nat)(G:List Int)(U:Int):Prop:=Po.Fm G U/\G.length=s+1/\Ca.Cand (λi=>P.getD i 0) k s (λi=>G.getD i 0) U
theorem Fnd.cn{P F:List Int}{c V:Int}{g:Nat->Int}{k s:Nat}(c0:0<c)(s1:1<=s)(g0:g 0=1)(hp:∀ j,j<s->P.getD (k*s-j) 0*c^j=P.getD (k*s) 0*Ca.pw g k j)(h:Fnd c g s (s-1) F V):Cn P k s F V:=by
 obtain⟨fF,lF,hF⟩:=h;refine⟨fF,lF,c,g,c0,g0,hp,λi hi=>?_,?_⟩
 ·have:=hF i ();rw[if_pos ()] at this;exact this
 ·have:=hF s (af _);rw[if_neg (),ax,a9] at this;exact (bv.mp this).resolve_right (bu (am c0))
end Dp
namespace Cv
theorem GD(h:∀ j,j≠t->F j=0):∀ n,sm F n=if t<n then F t else 0
 | 0=>by rw[if_neg ()];rfl
 | n+1=>by
  rw[sm,GD h n];by_cases e:n=t
  ·subst e;rw[if_neg (),if_pos (),bO]
  ·rw[h n e,bQ];by_cases y:t<n
   ·rw[if_pos y,if_pos ()]
   ·rw[if_neg y,if_neg ()]
theorem Je(h:∀ j,j≠t->f j=0)(k:Nat):cv f g k=if t<=k then f t*g (k-t) else 0:=by
 unfold cv;rw[GD (λj hj=>by rw[h j hj,ax])];by_cases y:t<=k
 ·rw[if_pos y,if_pos ()]
 ·rw[if_neg y,if_neg ()]
end Cv
namespace Ca
open Cv L2
theorem Dh{a g:Nat->Int}{k s A:Nat}(hk:0<k)(k7:k<=100)(s7:s<=100)(g0:g 0=1)(ha:∀ i,Lt2 (A*i+1) (a i))
  (h:∀ j,j<=s->sm (λi=>(((i+1:Nat):Int)*(k+1)-j*k)*a (i+1)*g (j-(i+1))) j=j*k*g j):∀ j,j<=s->Lt2 ((A+23)*j+1) (g j):=by
 intro j;induction j using Nat.strongRecOn with
 | ind j ih =>
  intro hj;rcases bX j with e|e
  ·subst e;rw[g0];exact Lt2.mono (n:=1) (by unfold Lt2;decide) ()
  ·have e1:=h j hj;have hF:∀ i,i<j->Lt2 ((A+23)*j-6) ((((i+1:Nat):Int)*(k+1)-j*k)*a (i+1)*g (j-(i+1))):=λi hi=>by
    have c1:(i+1)*(k+1)<=100*101:=aW () ();have c2:j*k<=100*100:=aW () ();have l1:Lt2 15 (((i+1:Nat):Int)*(k+1)-j*k):=by
     have c1':(((i+1:Nat):Int)*(k+1))=(((i+1)*(k+1):Nat):Int):=by push_cast;rfl
     have c2':((j:Int)*k)=((j*k:Nat):Int):=by push_cast;rfl
     rw[c1',c2'];unfold Lt2;lia
    have l3:=ih (j-(i+1)) () ();refine ((l1.mul (ha _)).mul l3).mono ?_;obtain⟨d,rfl⟩:∃ d,j=d+(i+1):=⟨j-(i+1),()⟩;rw[aH];have e3:(A+23)*(d+(i+1))=(A+23)*d+(A*(i+1)+23*(i+1)):=by rw[dR,dm A 23 (i+1)]
    lia
   have b:=Bc (b:=7) (i:=j) () hF;rw[e1] at b;have p:(g j).natAbs<=((j:Int)*k*g j).natAbs:=by
    rw[aT];refine aO _ ?_;have:0<j*k:=f7 e hk;have q:((j:Int)*k)=((j*k:Nat):Int):=by push_cast;rfl
    rw[q];lia
   unfold Lt2;have e4:23<=(A+23)*j:=aE () (aZ _ e);rw[show (A+23)*j+1=7+((A+23)*j-6) by lia,du];refine bJ (aE p b) ?_;exact cO (show j<2^7 by lia) (bM (by decide))
end Ca
namespace Dp
open PySem L2
structure Gx (P:List Int)(k s cb Y:Nat)(c:Int)(g:Nat->Int):Prop where
 c0:0<c
 lc:Lt2 cb c
 g0:g 0=1
 gl:∀ j,j<=s-1->Lt2 (Y*j+1) (g j)
 hp:∀ j,j<s->P.getD (k*s-j) 0*c^j=P.getD (k*s) 0*Ca.pw g k j
theorem Ha(lt:∀ i,Lt2 M (P.getD i 0))(lz:Lt2 Z (P.getD (k*s) 0))(k1:1<=k)(s1:1<=s)(ks:k*s<=12)(hL:P.getD (k*s) 0≠0):∃(c:Int) (g:Nat->Int),Gx P k s (Z+8) (M+Z+31) c g:=by
 have km1:k<=k*s:=aZ _ s1;have km2:s<=k*s:=aO _ k1;obtain⟨c,hc⟩:∃ c:Int,c=(((P.getD (k*s) 0).natAbs:Nat):Int)*k*k:=⟨_,rfl⟩;have lk:Lt2 4 ((k:Nat):Int):=by unfold Lt2;lia
 have ll:Lt2 Z (((P.getD (k*s) 0).natAbs:Nat):Int):=lz.le (by rw[bc];exact af _);have lc:Lt2 (Z+8) c:=by rw[hc];exact ((ll.mul lk).mul lk).mono ()
 have c0:0<c:=by
  rw[hc];have x1:0<(P.getD (k*s) 0).natAbs:=by lia
  exact ay (ay () ()) ()
 have fa:=Ca.Hd (P:=λi=>P.getD i 0) (n:=k*s) (k:=k) (c:=c) rfl hL hc;obtain⟨a,ea⟩:∃ a:Nat->Int,∀ j,a j=if j<=k*s then (P.getD (k*s-j) 0*c^j).fdiv (P.getD (k*s) 0) else 0:=⟨_,λ_=>rfl⟩;have a0:a 0=1:=by rw[ea,if_pos (aB _)];exact (fa 0 (aB _)).2.1 rfl
 have ad:∀ i,(k*k:Int)∣a (i+1):=λi=>by
  rw[ea];by_cases z:i+1<=k*s
  ·rw[if_pos z];exact (fa _ z).2.2 (fk _)
  ·rw[if_neg z];exact gK _
 have al:∀ i,Lt2 ((M+Z+8)*i+1) (a i):=λi=>by
  rcases bX i with e|e
  ·subst e;rw[a0,fv];unfold Lt2;decide
  rw[ea];by_cases z:i<=k*s
  ·rw[if_pos z];refine BG hL (fa _ z).1 (((lt _).mul (Hv.sL lc i)).mono ?_);have e1:(M+Z+8)*i=M*i+(Z+8)*i:=by rw[dc,dm]
   have e2:M<=M*i:=aZ _ e;lia
  ·rw[if_neg z];exact uw _
 obtain⟨g,g0,gd,ge⟩:=Ca.HN k1 (a:=a) a0 ad (s-1);have gl:=Ca.Dh (A:=M+Z+8) k1 () (show s-1<=100 by lia) g0 al (λj hj=>Ca.step g0 a0 ge hj);refine⟨c,g,c0,lc,g0,gl,λj hj=>?_⟩;have:=(fa j ()).1;rw[ge j (),ea,if_pos ()];exact this.symm
theorem Fnd.pzW{P:List Int}{c:Int}{g:Nat->Int}{k s j cb Y:Nat}{F:List Int}{V:Int}(x:Gx P k s cb Y c g)(js:j<=s-1)(h:Fnd c g s j F V):Pc.Pz ((Y+cb)*s+2) (cb*s+1) F V:=by
 obtain⟨fF,lF,hF⟩:=h;have e0:(Y+cb)*s=Y*s+cb*s:=dm _ _ _;refine Pc.Pz.of (f:=λt=>if t<=s then (if s-t<=j then g (s-t) else 0)*c^t else 0) fF (show 0<c^s from bw x.c0) (λt=>?_) (λt=>?_) (Hv.sL x.lc s)
 ·by_cases z:t<=s
  ·have e:=hF (s-t) ();rw[show s-(s-t)=t by lia] at e;rw[if_pos z,show c^s=c^(s-t)*c^t by rw[← bS];congr 1;lia,← bC,e];grind
  ·rw[if_neg z,sk (),ax,ax]
 ·by_cases z:t<=s
  ·rw[if_pos z];by_cases y:s-t<=j
   ·rw[if_pos y];refine ((x.gl (s-t) ()).mul (Hv.sL x.lc t)).mono ?_;have e1:Y*(s-t)<=Y*s:=ae _ ();have e2:cb*t<=cb*s:=ae _ z;lia
   ·rw[if_neg y,ax];exact uw _
  ·rw[if_neg z];exact uw _
def Hw(c:Int)(s Y:Nat)(g:Nat->Int)(G:List Int)(U:Int):Prop:=Po.Fm G U/\G.length=s+1/\1<=s/\0<c/\g 0=1/\(∀ i,i<=s->G.getD (s-i) 0*c^i=g i*U)/\∀ i,i<=s->Lt2 (Y*i+1) (g i)
theorem Gx.hw(x:Gx P k s cb Y c g)(k1:1<=k)(s1:1<=s)(hL:P.getD (k*s) 0≠0)(cn:Cn P k s G U):∃ g',Hw c s Y g' G U:=by
 obtain⟨R,C,fR,wR⟩:∃ R C,Po.Fm R C/\∀ i,R.getD i 0*c^s=(if i=0 then 0 else if i<=s then g (s-i)*c^i else 0)*C:=Ap.has (F:=λi=>if i=0 then 0 else if i<=s then g (s-i)*c^i else 0) (n:=s+1) (c:=c^s) (bw x.c0) (λk hk=>by
  show (if k=0 then (0:Int) else if k<=s then g (s-k)*c^k else 0)=0;rw[if_neg (),if_neg ()])
 have cs:c^s≠0:=bu (am x.c0);have key:∀ i,i<s->R.getD (s-i) 0*c^i=g i*C:=λi hi=>by
  have e:=wR (s-i);rw[if_neg (),if_pos (),show s-(s-i)=i by lia] at e;have e2:c^s=c^i*c^(s-i):=by rw[← bS];congr 1;lia
  refine av (bu (am x.c0):c^(s-i)≠0) ?_;rw[bC,← e2,e];grind
 have r0:R.getD 0 0=0:=by
  have e:=wR 0;rw[if_pos rfl,ax] at e;exact (bv.mp e).resolve_right cs
 have rm:R.getD s 0=C:=by
  have e:=key 0 s1;rw[aP,bx,x.g0,bK] at e;exact e
 have lR:R.length=s+1:=by
  have l1:R.length<=s+1:=Pc.sJ fR (bw x.c0) wR λk hk=>by rw[if_neg (),if_neg ()]
  rcases aw s R.length with y|y
  ·lia
  ·rw[sk y] at rm;have:=fR.pos;lia
 have cR:Ca.Cand (λi=>P.getD i 0) k s (λi=>R.getD i 0) C:=⟨c,g,x.c0,x.g0,x.hp,key,r0⟩;obtain⟨rfl,rfl⟩:=Ca.Cand.uniq k1 hL cn.1 fR cn.2.1 lR cn.2.2 cR;refine⟨λi=>if i<s then g i else 0,fR,lR,s1,x.c0,?_,λi hi=>?_,λi hi=>?_⟩
 ·dsimp only;rw[if_pos (),x.g0]
 ·dsimp only;by_cases z:i<s
  ·rw[if_pos z];exact key i z
  ·rw[if_neg z,show s-i=0 by lia,r0,ax,ax]
 ·dsimp only;by_cases z:i<s
  ·rw[if_pos z];exact x.gl i ()
  ·rw[if_neg z];exact uw _
def Ww(V c:Int)(N A Y:Nat)(P:List Int)(B:Int):Prop:=Po.Fm P B/\P.length<=N+1/\∃ z:Nat->Int,∀ k,k<=N->P.getD k 0*(V*c^(N-k))=z k*B/\Lt2 (A+Y*(N-k)) (z k)
theorem Ww.mono{V c:Int}{N A A' Y:Nat}{P:List Int}{B:Int}(h:Ww V c N A Y P B)(l:A<=A'):Ww V c N A' Y P B:=by
 obtain⟨f,l',z,hz⟩:=h;exact⟨f,l',z,λk hk=>⟨(hz k hk).1,(hz k hk).2.mono ()⟩⟩
theorem Ww.pz{V c:Int}{N A Y cb v:Nat}{P:List Int}{B:Int}(h:Ww V c N A Y P B)(V0:0<V)(c0:0<c)(lc:Lt2 cb c)(lV:Lt2 v V):Pc.Pz (A+(Y+cb)*N+1) (v+cb*N+1) P B:=by
 obtain⟨f,l,z,hz⟩:=h;have e0:(Y+cb)*N=Y*N+cb*N:=dm _ _ _;refine Pc.Pz.of (f:=λt=>if t<=N then z t*c^t else 0) f (ay V0 (bw c0:0<c^N)) (λt=>?_) (λt=>?_) ((lV.mul (Hv.sL lc N)).mono ())
 ·by_cases y:t<=N
  ·rw[if_pos y];have e:=(hz t y).1;have e2:c^N=c^(N-t)*c^t:=by rw[← bS];congr 1;lia
   rw[e2,← bC V,← bC,e];grind
  ·rw[if_neg y,sk (),ax,ax]
 ·by_cases y:t<=N
  ·rw[if_pos y];refine ((hz t y).2.mul (Hv.sL lc t)).mono ?_;have e1:Y*(N-t)<=Y*N:=ae _ ();have e2:cb*t<=cb*N:=ae _ y;lia
  ·rw[if_neg y];exact uw _
theorem Kc(z:Pc.Pz b bb P B)(lP:P.length<=n+1)(c0:0<c)(lc:Lt2 cb c)(hY:cb<=Y):Ww B c n (b+1) Y P B:=by
 refine⟨z.fm,lP,λk=>P.getD k 0*c^(n-k),λk hk=>⟨by dsimp only;grind,?_⟩⟩;refine ((z.tops k).mul (Hv.sL lc (n-k))).mono ?_;have:cb*(n-k)<=Y*(n-k):=aV _ hY;lia
theorem Fi{V c:Int}{N A Y s t:Nat}{F S:List Int}{C E:Int}(tN:t+s<=N)(wF:Ww V c N A Y F C)(lF:F.length=t+s+1)(fS:Po.Fm S E)(hS:∀ k,S.getD k 0*C=(if k=t then F.getD (t+s) 0 else 0)*E):Ww V c (N-s) A Y S E/\S.length<=t+1:=by
 obtain⟨fF,lF',z,hz⟩:=wF;have C0:=fF.pos;have lS:S.length<=t+1:=Pc.sJ fS C0 hS λk hk=>by rw[if_neg ()]
 refine⟨⟨fS,(),λk=>if k=t then z (t+s) else 0,λk hk=>⟨?_,?_⟩⟩,lS⟩
 ·refine av (am C0) ?_;have e:=hS k;dsimp only;by_cases y:k=t
  ·subst y;rw[if_pos rfl] at e ⊢;have e2:=(hz (k+s) tN).1;rw[show N-(k+s)=N-s-k by lia] at e2
   calc S.getD k 0*(V*c^(N-s-k))*C=S.getD k 0*C*(V*c^(N-s-k)):=by grind
    _=F.getD (k+s) 0*(V*c^(N-s-k))*E:=by rw[e];grind
    _=_:=by rw[e2];grind
  ·rw[if_neg y,ax] at e;rw[if_neg y,(bv.mp e).resolve_right (am C0)];grind
 ·dsimp only;by_cases y:k=t
  ·subst y;rw[if_pos rfl];have:=(hz (k+s) tN).2;rw[show N-(k+s)=N-s-k by lia] at this;exact this
  ·rw[if_neg y];exact uw _
theorem Ww.sum{V c:Int}{N A A' Y:Nat}{P1 P2 R:List Int}{B1 B2 C:Int}(fR:Po.Fm R C)(h:∀ k,R.getD k 0*(B1*B2)=(P1.getD k 0*B2+P2.getD k 0*B1)*C)(h1:Ww V c N A Y P1 B1)(h2:Ww V c N A' Y P2 B2)(l:A'<=A):Ww V c N (A+1) Y R C:=by
 obtain⟨f1,l1,z1,hz1⟩:=h1;obtain⟨f2,l2,z2,hz2⟩:=h2;have p1:=f1.pos;have p2:=f2.pos;have n:B1*B2≠0:=am (ay p1 p2);refine⟨fR,Pc.sJ fR (ay p1 p2) h λk hk=>?_,λk=>z1 k+z2 k,λk hk=>⟨?_,?_⟩⟩
 ·rw[sk (fs:=P1) (),sk (fs:=P2) ()];simp
 ·refine av n ?_;have e1:=(hz1 k hk).1;have e2:=(hz2 k hk).1
  calc R.getD k 0*(V*c^(N-k))*(B1*B2)=R.getD k 0*(B1*B2)*(V*c^(N-k)):=by grind
   _=(P1.getD k 0*(V*c^(N-k))*B2+P2.getD k 0*(V*c^(N-k))*B1)*C:=by rw[h k];grind
   _=_:=by rw[e1,e2];grind
 ·have a:=(hz1 k hk).2;have b:=((hz2 k hk).2.mono (show A'+Y*(N-k)<=A+Y*(N-k) by lia));exact (a.add b).mono ()
theorem Fh{V c:Int}{N A Y s t:Nat}{g:Nat->Int}{G S X:List Int}{U E Xc:Int}(hw:Hw c s Y g G U)(tN:t+s<=N)(fX:Po.Fm X Xc)(wS:Ww V c (N-s) A Y S E)(lS:S.length<=t+1)(hS:∀ k,k≠t->S.getD k 0=0)(hX:∀ k,X.getD k 0*(E*U) = -Cv.cv (Cv.fn S) (Cv.fn G) k*Xc):Ww V c N (A+1) Y X Xc/\X.length<=t+s+1/\X.getD (t+s) 0*E = -S.getD t 0*Xc:=by
 obtain⟨fG,lG,s1,c0,g0,hg,gl⟩:=hw;obtain⟨fS,lS',z,hz⟩:=wS;have E0:=fS.pos;have U0:=fG.pos;have EU:E*U≠0:=am (ay E0 U0);have cvk:∀ k,Cv.cv (Cv.fn S) (Cv.fn G) k=if t<=k then S.getD t 0*G.getD (k-t) 0 else 0:=λk=>Cv.Je (f:=Cv.fn S) (g:=Cv.fn G) hS k;have lX:X.length<=t+s+1:=Pc.sJ fX (ay E0 U0) hX λk hk=>by
  rw[cvk,if_pos (),sk (fs:=G) (),bP];rfl
 have gs:G.getD s 0=U:=by
  have:=hg 0 (aB _);rw[aP,bx,g0,bK] at this;exact this
 refine⟨⟨fX,(),λk=>if t<=k/\k<=t+s then -(z t*g (t+s-k)) else 0,λk hk=>⟨?_,?_⟩⟩,lX,?_⟩
 ·refine av EU ?_;have e:=hX k;rw[cvk] at e;dsimp only;by_cases y:t<=k
  ·rw[if_pos y] at e;by_cases y2:k<=t+s
   ·rw[if_pos ⟨y,y2⟩];have e1:=(hz t ()).1;have e2:=hg (t+s-k) ();rw[show s-(t+s-k)=k-t by lia] at e2;have e3:c^(N-k)=c^(N-s-t)*c^(t+s-k):=by rw[← bS];congr 1;lia
    calc X.getD k 0*(V*c^(N-k))*(E*U)=X.getD k 0*(E*U)*(V*c^(N-k)):=by grind
     _ = -((S.getD t 0*(V*c^(N-s-t)))*(G.getD (k-t) 0*c^(t+s-k)))*Xc:=by rw[e,e3];grind
     _=_:=by rw[e1,e2];grind
   ·rw[if_neg (λh=>y2 h.2),ax,ax];rw[sk (fs:=X) (),ax,ax]
  ·rw[if_neg y,Int.neg_zero,ax] at e;rw[if_neg (λh=>y h.1),(bv.mp e).resolve_right EU];simp
 ·dsimp only;by_cases y:t<=k/\k<=t+s
  ·rw[if_pos y];have a:=(hz t ()).2;have b:=gl (t+s-k) ();refine Lt2.neg ((a.mul b).mono ?_);have e1:Y*(N-k)=Y*(N-s-t)+Y*(t+s-k):=by rw[← dR];congr 1;lia
   lia
  ·rw[if_neg y];exact uw _
 ·have e:=hX (t+s);rw[cvk,if_pos (),show t+s-t=s by lia,gs] at e;refine av (am U0) ?_
  calc X.getD (t+s) 0*E*U=X.getD (t+s) 0*(E*U):=by grind
   _=_:=by rw[e];grind
def Mw(P:List Int)(B:Int)(G:List Int)(U:Int):Prop:=∃ R C,Po.Fm R C/\∀ x,Qp.E P B x=Qp.E R C (Qp.E G U x)
theorem DP(fG:Po.Fm G U)(lG:G.length=s+1)(s1:1<=s)(fR:Po.Fm R C)(fR':Po.Fm R' C')(h:∀ x,Qp.E R C (Qp.E G U x)=Qp.E R' C' (Qp.E G U x)):R=R'/\C=C':=by
 obtain⟨Cs,lC,hC,eC⟩:=xb R.length (Qp.q R C);obtain⟨Ds,lD,hD,eD⟩:=xb R'.length (Qp.q R' C');have u:=Ap.Ed.uniq2 fG lG (ps:=Cs) (qs:=Ds) (λq hq=>⟨(hC q hq).1,aE (hC q hq).2 s1⟩) (λq hq=>⟨(hD q hq).1,aE (hD q hq).2 s1⟩) (λx=>by rw[eC,eD,← zY (af _),← zY (af _),h]);exact Qp.uz fR fR' λy=>by rw[zY (af R.length),← eC 0 y,Ap.Ed.same u,eD,← zY (af _)]
theorem FR{G P:List Int}{U B:Int}{s:Nat}{p:List Int×Int}{i:Nat}(fG:Po.Fm G U)(lG:G.length=s+1)(s1:1<=s)(hP:∀ p∈Ps,Po.Fm p.1 p.2/\p.1.length<=s)(e:∀ x,Qp.E P B x=Ap.Ed (Qp.E G U x) x Ps)(hi:Ps[i]? = some p)(h2:2<=p.1.length):¬ Mw P B G U:=by
 rintro⟨R,C,fR,eR⟩;obtain⟨Cs,lC,hC,eC⟩:=xb R.length (Qp.q R C);have u:=Ap.Ed.uniq2 fG lG (ps:=Ps) (qs:=Cs) hP (λq hq=>⟨(hC q hq).1,aE (hC q hq).2 s1⟩) (λx=>by rw[← e,eR,eC,zY (af _)]) i;rw[sV hi] at u;have:(Cs.getD i ([],1)).1.length<=1:=mem_getD (p:=λq:List Int×Int=>q.1.length<=1) (λq hq=>(hC q hq).2) (aB _);rw[← u] at this;lia
theorem Ao[Decidable p](h1:p->Q b)(h2:¬ p->Q a):bInt [.bl (decide p)] λd=>oIx (.lst [a,b]) d Q:=by
 by_cases c:p
 ·rw[decide_eq_true c];exact h1 c
 ·rw[decide_eq_false c];exact h2 c
theorem CC{c V:Int}{g:Nat->Int}{s:Nat}{F:List Int}(g0:g 0=1)(fF:Po.Fm F V)(lF:F.length<=s+1)(wF:∀ k,F.getD k 0*1=(List.replicate s (0:Int)++[1]).getD k 0*V):Fnd c g s 0 F V:=by
 have V0:=fF.pos;have hF:∀ k,F.getD k 0=if k=s then V else 0:=λk=>by
  have:=wF k;rw[v9,bx] at this;rw[this];by_cases e:k=s
  ·rw[if_pos e,if_pos e,bK]
  ·rw[if_neg e,if_neg e,ax]
 refine⟨fF,?_,λi hi=>?_⟩
 ·rcases aw s F.length with y|y
  ·lia
  ·have:=hF s;rw[sk y,if_pos rfl] at this;lia
 ·rw[hF];by_cases e:i=0
  ·subst e;rw[if_pos (),if_pos (af _),g0,aP,bx,bK]
  ·rw[if_neg (),if_neg (),ax,ax]
def pG:TSd:=(iE [] (iA (ii (iκ 0) (ii (iκ 1) il))))
def qF:TSd:=dSq (dIf [] (iL (iR .Lt (ij 1) (dB bLen bLen.mono (ii (dIx (ij 0) (iκ 0)) il))))
 (iE [] (io iF (ii (dIx (dIx (ij 0) (iκ 0)) (ij 1)) (ii (dIx (ij 0) (iκ 1)) il))))
 iT)
 pG
theorem oE:Does 2 qF i5:=by
 rintro ds Q hn ⟨⟨P,B,k,n,b⟩,⟨rfl,z1,hb⟩,q⟩;dsimp only at z1 hb q;have p1:=z1.fm.pos;refine v8 (p:=((k:Nat):Int)<((P.map D.int).length:Nat)) (λc=>?_) (λc=>?_)
 ·rw[aa] at c;refine sO (sY ()) ⟨rfl,(P.getD k 0,B),⟨rfl,by show B≠0;lia,z1.bot.mono hb⟩,?_⟩;rintro _ rfl;exact q _ (FqD.of p1 (z1.tops k) z1.bot)
 ·rw[aa] at c;refine⟨tz,q _ ?_⟩;rw[Qp.ux ()];have:=tX (n:=n) (t:=0) (uw _);refine this.mono (af _) ?_;cases b with
  | zero =>
   have:B.natAbs<1:=z1.bot;lia
  | succ b=>lia
def iH:SpB:=l7
def pI:TSd:=(iE [] (ij 2))
def pJ:TSd:=dSq (iX [] (jL (ij 1)) (gNm 3)
 (ir [] (gNm 2) (io iz (ii (ij 2) (ii (ij 0) il)))))
 pI
def qG:TSd:=dSq (ir [] (gNm 2) (iA (ii (iA (ii (iκ 1) il)) (ii (iκ 1) il))))
 pJ
theorem oF:Does 4 qG iH:=nZ
def qL:TSd:=(ir [] (gNm 3) (io iS (ii (ij 3) (ii (io iD (ii (ip .Add (ip .Mult (iN (ii (iκ 0) il)) (ip .Sub (ij 1) (ij 4))) (iN (ii (dIx (ij 8) (iκ 0)) il))) (ii (dIx (ij 8) (iκ 1)) il))) il))))
def rK:TSd:=dSq (ir [] (gNm 8) (io iF (ii (ip .Mult (ip .Sub (ip .Mult (dIx (ij 6) (iκ 0)) (dIx (ij 7) (iκ 1))) (ip .Mult (dIx (ij 7) (iκ 0)) (dIx (ij 6) (iκ 1)))) (ij 1)) (ii (ip .Mult (ip .Mult (dIx (ij 6) (iκ 1)) (dIx (ij 7) (iκ 1))) (ij 2)) il))))
 qL
def rL:TSd:=dSq (ir [] (gNm 7) (io i5 (ii (io iH (ii (ij 3) (ii (ip .FloorDiv (ij 2) (ij 1)) il))) (ii (ip .Sub (ij 2) (ij 4)) il))))
 rK
def rM:TSd:=dSq (ir [] (gNm 6) (io iF (ii (ip .Mult (dIx (ij 5) (iκ 0)) (dIx (ij 0) (iκ 1))) (ii (ip .Mult (dIx (ij 5) (iκ 1)) (dIx (dIx (ij 0) (iκ 0)) (ij 2))) il))))
 rL
def rN:TSd:=dSq (ir [] (gNm 5) (io i5 (ii (ij 0) (ii (ip .Sub (ij 2) (ij 4)) il))))
 rM
theorem KU{P F:List Int}{B V c ra rb:Int}{g:Nat->Int}{k s j cb Y nn bb:Nat}{n0:D}{d6 d7 d8:D}{E:EndsD}(x:Gx P k s cb Y c g)(js:j+1<s)(s12:s<=12)(hF:Fnd c g s j F V)(r0:0<rb)(lt:Lt2 nn ra)(lb:Lt2 bb rb)(cap:(Y+cb)*s+2+nn<=8000000)(cap2:cb*s+1+bb<=8000000)(hr:ra*c^(j+1)=g (j+1)*rb)
  (hE:∀ F' V',Fnd c g s (j+1) F' V'->E.nx [.val (pD P B),.vi s,.val n0,.val (pD F' V'),.vi ((j+1:Nat):Int),.val d6,.val d7,.val d8,.val (fD ra rb)]) :
  qL.run E [.val (pD P B),.vi s,.val n0,.val (pD F V),.vi ((j+1:Nat):Int),.val d6,.val d7,.val d8,.val (fD ra rb)]:=by
 have zF:=hF.pzW x ();have lF:=hF.2.1;have ek:(s:Int)-((j+1:Nat):Int)=((s-(j+1):Nat):Int):=by lia
 refine⟨xn,?_,?_,?_,xn,?_,rfl,(List.replicate (s-(j+1)) (0:Int)++[ra],rb),⟨.inl ?_,r0,lb.mono (),?_⟩,?_⟩
 ·show -(2^63)<=(s:Int)-((j+1:Nat):Int);lia
 ·show (s:Int)-((j+1:Nat):Int)<2^63;lia
 ·show 1*((s:Int)-((j+1:Nat):Int)).toNat<=sizeLine;exact tP ()
 ·show ((List.replicate ((s:Int)-((j+1:Nat):Int)).toNat [D.int 0]).flatten).length+1<=sizeLine;rw[ek,aJ,tj,aa,aI];exact tP ()
 ·show [D.lst ((List.replicate ((s:Int)-((j+1:Nat):Int)).toNat [D.int 0]).flatten++[D.int ra]),.int rb]=[D.lst ((List.replicate (s-(j+1)) (0:Int)++[ra]).map D.int),.int rb];rw[ek,aJ,tj,aM];rfl
 ·show (List.replicate (s-(j+1)) (0:Int)++[ra]).length<=1000;rw[aj,aI];show s-(j+1)+1<=1000;lia
 rintro _ ⟨S,Ec,rfl,fS,wS,lS⟩;have wS:∀ k,S.getD k 0*rb=(List.replicate (s-(j+1)) (0:Int)++[ra]).getD k 0*Ec:=wS;have lS:S.length<=(List.replicate (s-(j+1)) (0:Int)++[ra]).length:=lS;rw[aj,aI] at lS;have lS:S.length<=s-(j+1)+1:=lS;have hS:∀ k,S.getD k 0*rb=(if k=s-(j+1) then ra else 0)*Ec:=λk=>by rw[wS,v9]
 have zS:Pc.Pz nn bb S Ec:=Pc.Pz.of fS r0 hS (λk=>by
  by_cases e:k=s-(j+1)
  ·rw[if_pos e];exact lt
  ·rw[if_neg e];exact uw _) lb
 refine⟨rfl,(F,V,S,Ec,(Y+cb)*s+2,cb*s+1,nn,bb),⟨rfl,zF,zS,by show cb*s+1+bb<=9000000;lia,by show (Y+cb)*s+2+nn<=9000000;lia,by show F.length<=900;lia,by show S.length<=900;lia⟩,?_⟩;rintro _ ⟨F',V',rfl,fF',hF'⟩;exact hE F' V' (hF.next x.c0 () x.g0 fS r0 hS hr fF' hF')
theorem L4{t u B l:Rat}(hu:u≠0)(hl:l≠0):t / u*B / l=t*B / (u*l):=by grind
theorem LZ{a1 a2 a3 a4 k s wu:Rat}(h2:a2≠0)(h4:a4≠0)(hk:k≠0)(hs:s≠0)(h:a1 / a2-a3 / a4=wu*k):(a1*a4-a3*a2)*s / (a2*a4*(k*s))=wu:=by
 have h1:wu=(a1 / a2-a3 / a4) / k:=by rw[h];grind
 rw[h1];grind
theorem LY{w k u:Rat}:w*k / u=w / u*k:=by grind
theorem KT{P F:List Int}{B V c:Int}{g:Nat->Int}{k s j b:Nat}{o5 o6 o7 o8:SD}{E:EndsD}(z:Pc.Pz b b P B)(b9:b<=90000)(lP:P.length=k*s+1)(k1:1<=k)(ks:k*s<=12)(x:Gx P k s (b+8) (b+b+31) c g)(js:j+1<s)(hF:Fnd c g s j F V)
  (hE:∀ F' V' o5 o6 o7 o8,Fnd c g s (j+1) F' V'->E.nx [.val (pD P B),.vi s,.vi ((k*s:Nat):Int),.val (pD F' V'),.vi ((j+1:Nat):Int),o5,o6,o7,o8]) :
  rN.run E [.val (pD P B),.vi s,.vi ((k*s:Nat):Int),.val (pD F V),.vi ((j+1:Nat):Int),o5,o6,o7,o8]:=by
 have s1:1<=s:=by lia
 have km1:k<=k*s:=aZ _ s1;have km2:s<=k*s:=aO _ k1;have hL:=s9 z.fm lP;have zF:=hF.pzW x ();have lF:=hF.2.1;have B0:=z.fm.pos;have kF:k*F.length=k*s+k:=by rw[lF,bI]
 have ed:((k*s:Nat):Int).fdiv (s:Int)=(k:Int):=by
  rw[show ((k*s:Nat):Int)=(k:Int)*s by push_cast;rfl];exact c7 _ ()
 have ls:Lt2 4 ((s:Nat):Int):=by unfold Lt2;lia
 have ln:Lt2 4 ((k*s:Nat):Int):=by unfold Lt2;lia
 have ej:((k*s:Nat):Int)-((j+1:Nat):Int)=((k*s-(j+1):Nat):Int):=by lia
 obtain⟨n1,hn1⟩:∃ n1,n1=(b+b+31+(b+8))*s+2:=⟨_,rfl⟩;obtain⟨b1,hb1⟩:∃ b1,b1=(b+8)*s+1:=⟨_,rfl⟩;have m1:(b+b+31+(b+8))*s<=(b+b+31+(b+8))*12:=ae _ ();have m2:(b+8)*s<=(b+8)*12:=ae _ ();have m3:b1*k<=(b+8)*12+12:=by
  rw[hb1,dm,f6,c8,aU s k];have:(b+8)*(k*s)<=(b+8)*12:=ae _ ks;lia
 have m4:(n1+9)*k<=(b+b+31+(b+8))*12+132:=by
  rw[hn1,dc,dm,c8,aU s k];have:(b+b+31+(b+8))*(k*s)<=(b+b+31+(b+8))*12:=ae _ ks;lia
 rw[← hn1,← hb1] at zF;refine⟨rfl,(P,B,k*s-(j+1),b,b),⟨congrArg (λx=>[pD P B,.int x]) ej,z,by show b<=9000000;lia⟩,?_⟩;rintro _ ⟨t1,u1,rfl,u10,_,lt1,lu1,er1⟩;have er1:Qp.q P B (k*s-(j+1))=(t1:Rat) / (u1:Rat):=er1;have lL:=z.tops (k*s);have uL:u1*P.getD (k*s) 0≠0:=bh (am u10) hL;refine⟨⟨_,_,lt1,z.bot,()⟩,sO (sY ()) ⟨⟨_,_,lu1,lL,()⟩,rfl,(t1*B,u1*P.getD (k*s) 0),⟨rfl,uL,(lu1.mul lL).mono ()⟩,?_⟩⟩;obtain⟨t2,u2,e2,u20,_,lt2,lu2,er2⟩:=FqD.ofN (t:=t1*B) (u:=u1*P.getD (k*s) 0) uL (lt1.mul z.bot) (lu1.mul lL);rintro dd e;have e:dd=fD t2 u2:=(show dd=fD (Fr.top (t1*B) (u1*P.getD (k*s) 0)) (Fr.bot (t1*B) (u1*P.getD (k*s) 0)) from e).trans e2;subst e;clear e2;refine⟨⟨(),4,ls,by decide⟩,rfl,(F,V,k,n1,b1),⟨congrArg (λx=>[pD F V,.int x]) ed,zF,by show k*F.length<=400;lia,by show k<=400;lia,by show F.length<=400;lia,by show b1*k+1+b1<=9000000;lia,by show (n1+9)*k+1+n1<=9000000;lia⟩,?_⟩;rintro _ ⟨R,C,rfl,hR,zR,lR⟩;have hR:∀ t,R.getD t 0*V^k=Pc.cp (Cv.fn F) k t*C:=hR;have zR:Pc.Pz ((n1+9)*k+1) (b1*k+1) R C:=zR;obtain⟨n3,hn3⟩:∃ n3,n3=(n1+9)*k+1:=⟨_,rfl⟩;obtain⟨b3,hb3⟩:∃ b3,b3=b1*k+1:=⟨_,rfl⟩;rw[← hn3,← hb3] at zR;obtain⟨top,want⟩:=hF.want x.c0 x.g0 x.hp hL k1 js zR.fm hR;refine⟨rfl,(R,C,k*s-(j+1),n3,b3),⟨congrArg (λx=>[pD R C,.int x]) ej,zR,by show b3<=9000000;lia⟩,?_⟩;rintro _ ⟨t3,u3,rfl,u30,_,lt3,lu3,er3⟩;have er3:Qp.q R C (k*s-(j+1))=(t3:Rat) / (u3:Rat):=er3;have a1:=lt2.mul lu3;have a2:=lt3.mul lu2;have a3:Lt2 (n3+b3+b+b+1) (t2*u3-t3*u2):=(a1.mono (m:=n3+b3+b+b) ()).sub (a2.mono ());have a4:=lu2.mul lu3;have nz:u2*u3*((k*s:Nat):Int)≠0:=bh (bh (am u20) (am u30)) ();refine⟨⟨_,_,lt2,lu3,()⟩,⟨_,_,lt3,lu2,()⟩,⟨_,_,a3,ls,()⟩,⟨_,_,lu2,lu3,()⟩,⟨_,_,a4,ln,()⟩,rfl,((t2*u3-t3*u2)*(s:Int),u2*u3*((k*s:Nat):Int)),⟨rfl,nz,(a4.mul ln).mono ()⟩,?_⟩;obtain⟨t4,u4,e4,u40,_,lt4,lu4,er4⟩:=FqD.ofN (t:=(t2*u3-t3*u2)*(s:Int)) (u:=u2*u3*((k*s:Nat):Int)) nz (a3.mul ls) (a4.mul ln);rintro dd e;have e:dd=fD t4 u4:=(show dd=fD (Fr.top ((t2*u3-t3*u2)*(s:Int)) (u2*u3*((k*s:Nat):Int))) (Fr.bot ((t2*u3-t3*u2)*(s:Int)) (u2*u3*((k*s:Nat):Int))) from e).trans e4;subst e;clear e4;refine KU x js () hF u40 lt4 lu4 (by rw[← hn1];lia) (by rw[← hb1];lia) ?_ λF' V' h=>hE F' V' _ _ _ _ h;have cj:c^(j+1)≠0:=bu (am x.c0);refine (Qp.tq (am u40) cj).mp ?_;have want:Qp.q P B (k*s-(j+1))*(B:Rat) / ((P.getD (k*s) 0:Int):Rat)-Qp.q R C (k*s-(j+1))=((g (j+1):Int):Rat)*(k:Rat) / ((c^(j+1):Int):Rat):=by
  rw[← want];have B1:=Qp.so B0;unfold Qp.q;generalize ((P.getD (k*s-(j+1)) 0:Int):Rat)=a;generalize ((P.getD (k*s) 0:Int):Rat)=l;generalize ((R.getD (k*s-(j+1)) 0:Int):Rat) / (C:Rat)=r;have:a / (B:Rat)*(B:Rat)=a:=by grind
  rw[this]
 rw[er1,er3] at want;rw[← er4];have k0:((k:Int):Rat)≠0:=Qp.sQ ();have s0:((s:Int):Rat)≠0:=Qp.sQ ();have kk:((k:Int):Rat)=(k:Rat):=rfl;have cr:=Qp.sQ cj;have v1:=Qp.so u10;have v2:=Qp.so u20;have v3:=Qp.so u30;have L0:=Qp.sQ hL;rw[← kk] at want;rw[ar,ar] at er2;rw[show ((k*s:Nat):Int)=(k:Int)*(s:Int) by push_cast;rfl,ar,eQ,ar,ar,ar,ar,ar];generalize ((P.getD (k*s) 0:Int):Rat)=l at *;generalize ((c^(j+1):Int):Rat)=u at *;generalize ((g (j+1):Int):Rat)=w at *;generalize ((k:Int):Rat)=kq at *;generalize ((s:Int):Rat)=sq at *;rw[L4 v1 L0,er2,LY] at want;exact LZ v2 v3 k0 s0 want
def jz:SpB:=.of 2 (α:=List Int×Int×Nat×Nat×Nat) (λ(P,B,k,s,b) ds=>ds=[pD P B,.int s]/\Pc.Pz b b P B/\P.length=k*s+1/\1<=k/\1<=s/\k*s<=12/\b<=90000) (λ(P,B,k,s,b) d=>∃ G U,d=pD G U/\Cn P k s G U)
def kD:TSd:=(iE [] (ij 3))
def kE:TSd:=dSq (iX [] (kR (iκ 1) (ij 1)) (gNm 4)
 (dSq (ir [] (gNm 5) (io i5 (ii (ij 0) (ii (ip .Sub (ij 2) (ij 4)) il))))
 (dSq (ir [] (gNm 6) (io iF (ii (ip .Mult (dIx (ij 5) (iκ 0)) (dIx (ij 0) (iκ 1))) (ii (ip .Mult (dIx (ij 5) (iκ 1)) (dIx (dIx (ij 0) (iκ 0)) (ij 2))) il))))
 (dSq (ir [] (gNm 7) (io i5 (ii (io iH (ii (ij 3) (ii (ip .FloorDiv (ij 2) (ij 1)) il))) (ii (ip .Sub (ij 2) (ij 4)) il))))
 (dSq (ir [] (gNm 8) (io iF (ii (ip .Mult (ip .Sub (ip .Mult (dIx (ij 6) (iκ 0)) (dIx (ij 7) (iκ 1))) (ip .Mult (dIx (ij 7) (iκ 0)) (dIx (ij 6) (iκ 1)))) (ij 1)) (ii (ip .Mult (ip .Mult (dIx (ij 6) (iκ 1)) (dIx (ij 7) (iκ 1))) (ij 2)) il))))
 (ir [] (gNm 3) (io iS (ii (ij 3) (ii (io iD (ii (ip .Add (ip .Mult (iN (ii (iκ 0) il)) (ip .Sub (ij 1) (ij 4))) (iN (ii (dIx (ij 8) (iκ 0)) il))) (ii (dIx (ij 8) (iκ 1)) il))) il)))))))))
 kD
def i9:TSd:=dSq (ir [] (gNm 3) (io iD (ii (ip .Add (ip .Mult (iN (ii (iκ 0) il)) (ij 1)) (iN (ii (iκ 1) il))) (ii (iκ 1) il))))
 kE
def ms:TSd:=dSq (ir [] (gNm 2) (ip .Sub (dB bLen bLen.mono (ii (dIx (ij 0) (iκ 0)) il)) (iκ 1)))
 i9
theorem ke:Does 9 ms jz:=by
 rintro ds Q hn ⟨⟨P,B,k,s,b⟩,⟨rfl,z,lP,k1,s1,ks,b9⟩,q⟩;dsimp only at z lP k1 s1 ks b9 q;have km1:k<=k*s:=aZ _ s1;have km2:s<=k*s:=aO _ k1;have hL:=s9 z.fm lP;obtain⟨c,g,x⟩:=Ha z.tops (z.tops (k*s)) k1 s1 ks hL;suffices h1:i9.run (sH Q) [.val (pD P B),.vi s,.vi ((k*s:Nat):Int),.no,.no,.no,.no,.no,.no] by
  show i9.run (sH Q) [.val (pD P B),.vi s,.vi (((P.map D.int).length:Int)-1),.no,.no,.no,.no,.no,.no];rw[aa,lP,show ((k*s+1:Nat):Int)-1=((k*s:Nat):Int) by lia];exact h1
 refine⟨xn,(),(),?_,xn,?_,rfl,(List.replicate s (0:Int)++[1],1),⟨.inl ?_,Int.zero_lt_one,by show Lt2 9000000 (1:Int);unfold Lt2;exact Nat.one_lt_two_pow (by decide),?_⟩,?_⟩
 ·show 1*(s:Int).toNat<=sizeLine;exact tP ()
 ·show ((List.replicate (s:Int).toNat [D.int 0]).flatten).length+1<=sizeLine;rw[aJ,tj,aa,aI];exact tP ()
 ·show [D.lst ((List.replicate (s:Int).toNat [D.int 0]).flatten++[D.int 1]),.int 1]=[D.lst ((List.replicate s (0:Int)++[1]).map D.int),.int 1];rw[aJ,tj,aM];rfl
 ·show (List.replicate s (0:Int)++[1]).length<=1000;rw[aj,aI];show s+1<=1000;lia
 rintro _ ⟨F,V,rfl,fF,wF,lF⟩;have wF:∀ k,F.getD k 0*1=(List.replicate s (0:Int)++[1]).getD k 0*V:=wF;have lF:F.length<=(List.replicate s (0:Int)++[1]).length:=lF;rw[aj,aI] at lF;have fnd:=CC (c:=c) x.g0 fF (show F.length<=s+1 from lF) wF;refine⟨⟨(),(),(),()⟩,λi st=>∃ F V o4 o5 o6 o7 o8,st=[.val (pD P B),.vi s,.vi ((k*s:Nat):Int),.val (pD F V),o4,o5,o6,o7,o8]/\Fnd c g s i F V,⟨F,V,.no,.no,.no,.no,.no,rfl,fnd⟩,?_,?_⟩
 ·rintro i d _ hd ⟨F,V,o4,o5,o6,o7,o8,rfl,fnd⟩;obtain⟨hi,rfl⟩:=sP hd;have js:i+1<s:=by lia
  have e1:(1:Int)+(i:Int)=((i+1:Nat):Int):=by lia
  rw[e1];exact KT z b9 lP k1 ks x js fnd λF' V' o5 o6 o7 o8 h=>⟨F',V',_,o5,o6,o7,o8,rfl,h⟩
 ·rintro _ ⟨F,V,o4,o5,o6,o7,o8,rfl,fnd⟩;rw[sE,show ((s:Int)-1).toNat=s-1 by lia] at fnd;exact q _ ⟨F,V,rfl,fnd.cn x.c0 s1 x.g0 x.hp⟩
theorem Kr{X Y:List Int}{Xc Yc:Int}(fX:Po.Fm X Xc)(fY:Po.Fm Y Yc)(hY:∀ k,Y.getD k 0*Xc = -X.getD k 0*Yc):Y.length<=X.length/\∀ x,Qp.E Y Yc x = -Qp.E X Xc x:=by
 have X0:=fX.pos;have l:Y.length<=X.length:=Pc.sJ (f:=λk => -X.getD k 0) fY X0 hY λk hk=>by
  show -X.getD k 0=0;rw[sk hk];rfl
 refine⟨l,λx=>?_⟩;rw[Qp.vY (f:=λk=>Cv.fn X k*(-1)) (N:=X.length) fY.pos (am X0) (λk=>by rw[hY k];unfold Cv.fn;grind) l,Qp.uP,Qp.yL (af X.length)];rw[show ((-1:Int):Rat) = -1 from rfl];grind
structure Cap (V c:Int)(v cb Y n hn hb Am:Nat)(G:List Int)(U:Int):Prop where
 V0:0<V
 lV:Lt2 v V
 lc:Lt2 cb c
 zG:Pc.Pz hn hb G U
 n12:n<=12
 c1:Am+(Y+cb)*n+1<=3000000
 c2:v+cb*n+1<=3000000
 c3:hn<=3000000
 c4:hb<=3000000
def rO:TSd:=(dSq (ir [] (gNm 4) (io iD (ii (ip .Add (ip .Mult (iN (ii (iκ 0) il)) (ip .Sub (dB bLen bLen.mono (ii (dIx (ij 0) (iκ 0)) il)) (dB bLen bLen.mono (ii (dIx (ij 1) (iκ 0)) il)))) (iN (ii (dIx (dIx (ij 0) (iκ 0)) (jR (iκ 1))) il))) (ii (dIx (ij 0) (iκ 1)) il))))
 (dSq (ir [] (gNm 3) (io iS (ii (ij 3) (ii (ij 4) il))))
 (ir [] (gNm 0) (io iS (ii (ij 0) (ii (io iz (ii (ij 4) (ii (io iz (ii (ij 1) (ii (iA (ii (iA (ii (ip .Sub (iκ 0) (iκ 1)) il)) (ii (iκ 1) il))) il))) il))) il))))))
theorem Ey{V c:Int}{N A Y s t v cb n hn hb Am:Nat}{g:Nat->Int}{G F M:List Int}{U C D0:Int}{o2 o4:SD}{E:EndsD}(hw:Hw c s Y g G U)(cp:Cap V c v cb Y n hn hb Am G U)(Nn:N<=n)(tN:t+s<=N)(hA:A+2<=Am)(lF:F.length=t+s+1)(wF:Ww V c N A Y F C)(wM:Ww V c (N-s) A Y M D0)
  (hE:∀ S Ec F' C' M' N',Ww V c N (A+2) Y F' C'->F'.length<=t+s->Ww V c (N-s) (A+1) Y M' N'->M'.length<=max M.length (t+1)->(∀ x,Qp.E F' C' x+Qp.E G U x*Qp.E M' N' x=Qp.E F C x+Qp.E G U x*Qp.E M D0 x)->E.nx [.val (pD F' C'),.val (pD G U),o2,.val (pD M' N'),.val (pD S Ec)]) :
  rO.run E [.val (pD F C),.val (pD G U),o2,.val (pD M D0),o4]:=by
 have fF:=wF.1;have fM:=wM.1;have C0:=fF.pos;have U0:=hw.1.pos;have N0:=fM.pos;have s1:=hw.2.2.1;have lG:=hw.2.1;have n12:=cp.n12;have q1:=cp.c1;have q2:=cp.c2;have q3:=cp.c3;have q4:=cp.c4;have e1:(Y+cb)*N<=(Y+cb)*n:=ae _ Nn;have e2:cb*N<=cb*n:=ae _ Nn;have e3:(Y+cb)*(N-s)<=(Y+cb)*n:=ae _ ();have e4:cb*(N-s)<=cb*n:=ae _ ();have zF:=(wF.pz cp.V0 hw.2.2.2.1 cp.lc cp.lV).mono (n':=3000000) (b':=3000000) () ();have zM:=(wM.pz cp.V0 hw.2.2.2.1 cp.lc cp.lV).mono (n':=3000000) (b':=3000000) () ();have lM:=wM.2.1;have ek:(((F.map D.int).length:Nat):Int)-((G.map D.int).length:Nat)=((t:Nat):Int):=by
  rw[aa,aa,lG,lF];lia
 have atF:wl (F.map D.int) (-1)=some (.int (F.getD (t+s) 0)):=ug (j:=1) (n:=F.length) (by rw[lF];exact sY ()) (aa _) (by decide) ();refine⟨xn,?_,?_,?_,tI atF ⟨xn,?_,rfl,(List.replicate t (0:Int)++[F.getD (t+s) 0],C),⟨.inl ?_,C0,zF.bot.mono (by decide),?_⟩,?_⟩⟩
 ·show -(2^63)<=(((F.map D.int).length:Nat):Int)-((G.map D.int).length:Nat);rw[ek];lia
 ·show (((F.map D.int).length:Nat):Int)-((G.map D.int).length:Nat)<2^63;rw[ek];lia
 ·show 1*((((F.map D.int).length:Nat):Int)-((G.map D.int).length:Nat)).toNat<=sizeLine;rw[ek];exact tP ()
 ·show ((List.replicate ((((F.map D.int).length:Nat):Int)-((G.map D.int).length:Nat)).toNat [D.int 0]).flatten).length+1<=sizeLine;rw[ek,aJ,tj,aa,aI];exact tP ()
 ·show [D.lst ((List.replicate ((((F.map D.int).length:Nat):Int)-((G.map D.int).length:Nat)).toNat [D.int 0]).flatten++[D.int (F.getD (t+s) 0)]),.int C]=[D.lst ((List.replicate t (0:Int)++[F.getD (t+s) 0]).map D.int),.int C];rw[ek,aJ,tj,aM];rfl
 ·show (List.replicate t (0:Int)++[F.getD (t+s) 0]).length<=1000;rw[aj,aI];show t+1<=1000;lia
 rintro _ ⟨S,Ec,rfl,fS,wS,_⟩;have wS:∀ k,S.getD k 0*C=(List.replicate t (0:Int)++[F.getD (t+s) 0]).getD k 0*Ec:=wS;have hS:∀ k,S.getD k 0*C=(if k=t then F.getD (t+s) 0 else 0)*Ec:=λk=>by rw[wS,v9]
 obtain⟨wdS,lS⟩:=Fi tN wF lF fS hS;have zS:=(wdS.pz cp.V0 hw.2.2.2.1 cp.lc cp.lV).mono (n':=3000000) (b':=3000000) () ();have E0:=fS.pos;refine⟨rfl,(M,D0,S,Ec,3000000,3000000,3000000,3000000),⟨rfl,zM,zS,by decide,by decide,by show M.length<=900;lia,by show S.length<=900;lia⟩,?_⟩;rintro _ ⟨M',N',rfl,fM',hM'⟩;have hM':∀ k,M'.getD k 0*(D0*Ec)=(M.getD k 0*Ec+S.getD k 0*D0)*N':=hM';refine⟨xn,tz,rfl,(G,U,[-1],1,hn,hb,1,1),⟨rfl,cp.zG,Ku,by show hb+1<=9000000;lia,by show hn+1<=9000000;lia,by show G.length<=450;lia,by show 1<=450;decide⟩,?_⟩;rintro _ ⟨H,Hc,rfl,fH,hH⟩;have hH:∀ k,H.getD k 0*U = -G.getD k 0*Hc:=λk=>by
  have a:H.getD k 0*(U*1)=Cv.cv (Cv.fn G) (Cv.fn [-1]) k*Hc:=hH k;rw[Ca.zC (λj hj=>sk (fs:=[-1]) hj),bx] at a;rw[a];show G.getD k 0*(-1)*Hc=_;grind
 obtain⟨lH,eH⟩:=Kr hw.1 fH hH;have H0:=fH.pos;have zH:Pc.Pz hn hb H Hc:=Pc.Pz.of fH U0 hH (λk=>(cp.zG.tops k).neg) cp.zG.bot;refine⟨rfl,(S,Ec,H,Hc,3000000,3000000,hn,hb),⟨rfl,zS,zH,by show 3000000+hb<=9000000;lia,by show 3000000+hn<=9000000;lia,by show S.length<=450;lia,by show H.length<=450;lia⟩,?_⟩;rintro _ ⟨X,Xc,rfl,fX,hX⟩;have hX0:∀ k,X.getD k 0*(Ec*Hc)=Cv.cv (Cv.fn S) (Cv.fn H) k*Xc:=hX;have hX1:∀ k,X.getD k 0*(Ec*U) = -Cv.cv (Cv.fn S) (Cv.fn G) k*Xc:=λk=>by
  refine av (am H0) ?_;have a:=hX0 k;have b:U*Cv.cv (Cv.fn S) (Cv.fn H) k=(-Hc)*Cv.cv (Cv.fn S) (Cv.fn G) k:=by
   rw[← Ca.EB,← Ca.EB];refine Ca.xQ (λj _=>rfl) λj _=>?_;have:=hH j;show U*H.getD j 0 = -Hc*G.getD j 0;rw[bo,this];grind
  calc X.getD k 0*(Ec*U)*Hc=X.getD k 0*(Ec*Hc)*U:=by grind
   _=U*Cv.cv (Cv.fn S) (Cv.fn H) k*Xc:=by rw[a];grind
   _=_:=by rw[b];grind
 have S0:∀ k,k≠t->S.getD k 0=0:=λk hk=>by
  have a:=hS k;rw[if_neg hk,ax] at a;exact (bv.mp a).resolve_right (am C0)
 obtain⟨wdX,lX,xk⟩:=Fh hw tN fX wdS lS S0 hX1;have zX:=(wdX.pz cp.V0 hw.2.2.2.1 cp.lc cp.lV).mono (n':=3000000) (b':=3000000) () ();refine⟨rfl,(F,C,X,Xc,3000000,3000000,3000000,3000000),⟨rfl,zF,zX,by decide,by decide,by show F.length<=900;lia,by show X.length<=900;lia⟩,?_⟩;rintro _ ⟨F',C',rfl,fF',hF'⟩;have hF':∀ k,F'.getD k 0*(C*Xc)=(F.getD k 0*Xc+X.getD k 0*C)*C':=hF';have X0:=fX.pos;have lF':F'.length<=t+s:=Pc.sJ fF' (ay C0 X0) hF' λk hk=>by
  rcases bN hk with e|e
  ·rw[← e];have a:=hS t;rw[if_pos rfl] at a;refine av (am E0) ?_
   calc (F.getD (t+s) 0*Xc+X.getD (t+s) 0*C)*Ec=F.getD (t+s) 0*Ec*Xc+X.getD (t+s) 0*Ec*C:=by grind
    _=S.getD t 0*C*Xc + -S.getD t 0*Xc*C:=by rw[xk,a]
    _=0*Ec:=by grind
  ·rw[sk (fs:=F) (),sk (fs:=X) ()];simp
 refine hE S Ec F' C' M' N' (Ww.sum fF' hF' (wF.mono (show A<=A+1 by lia)) wdX (af _)) lF' (Ww.sum fM' hM' wM wdS (af _)) (Pc.sJ fM' (ay N0 E0) hM' λk hk=>?_) λx=>?_
 ·rw[sk (fs:=M) (),sk (fs:=S) ()];simp
 ·rw[Qp.xW C0 fX.pos fF'.pos hF' x,Qp.vE E0 H0 fX hX0 x,eH,Qp.xW N0 E0 fM'.pos hM' x];grind
def rP:TSd:=(jb (iL (iR .GtE (dB bLen bLen.mono (ii (dIx (ij 0) (iκ 0)) il)) (dB bLen bLen.mono (ii (dIx (ij 1) (iκ 0)) il))))
 (dSq (ir [] (gNm 4) (io iD (ii (ip .Add (ip .Mult (iN (ii (iκ 0) il)) (ip .Sub (dB bLen bLen.mono (ii (dIx (ij 0) (iκ 0)) il)) (dB bLen bLen.mono (ii (dIx (ij 1) (iκ 0)) il)))) (iN (ii (dIx (dIx (ij 0) (iκ 0)) (jR (iκ 1))) il))) (ii (dIx (ij 0) (iκ 1)) il))))
 (dSq (ir [] (gNm 3) (io iS (ii (ij 3) (ii (ij 4) il))))
 (ir [] (gNm 0) (io iS (ii (ij 0) (ii (io iz (ii (ij 4) (ii (io iz (ii (ij 1) (ii (iA (ii (iA (ii (ip .Sub (iκ 0) (iκ 1)) il)) (ii (iκ 1) il))) il))) il))) il)))))))
theorem Hq{V c:Int}{N A Y:Nat}:Ww V c N A Y [] 1:=⟨Ap.wK,aB _,λ_=>0,λk _=>⟨by simp,uw _⟩⟩
theorem CK{V c:Int}{N A Y s v cb n hn hb Am:Nat}{g:Nat->Int}{G P:List Int}{U B:Int}{o2 o4:SD}{E:EndsD}(hw:Hw c s Y g G U)(cp:Cap V c v cb Y n hn hb Am G U)(Nn:N<=n)(hA:A+28<=Am)(wP:Ww V c N A Y P B)
  (hE:∀ R C M D0 o4,Ww V c N (A+26) Y R C->R.length<=s->Ww V c (N-s) (A+26) Y M D0->(M=[]\/M.length+s<=P.length)->(∀ x,Qp.E P B x=Qp.E R C x+Qp.E G U x*Qp.E M D0 x)->E.nx [.val (pD R C),.val (pD G U),o2,.val (pD M D0),o4]) :
  rP.run E [.val (pD P B),.val (pD G U),o2,.val (pD [] 1),o4]:=by
 have s1:=hw.2.2.1;have lG:=hw.2.1;have n12:=cp.n12;have lP:=wP.2.1;refine⟨λst=>∃(F:List Int) (C:Int) (M:List Int) (D0:Int) (o4:SD) (j:Nat),st=[.val (pD F C),.val (pD G U),o2,.val (pD M D0),o4]/\F.length+j<=P.length/\(j=0\/j+s<=P.length)/\Ww V c N (A+2*j) Y F C/\Ww V c (N-s) (A+2*j) Y M D0/\(M=[]\/M.length+s<=P.length)/\∀ x,Qp.E P B x=Qp.E F C x+Qp.E G U x*Qp.E M D0 x,λst=>match st with | .val (.tup (.tup l::_))::_=>l.length|_=>0,⟨P,B,[],1,o4,0,rfl,af _,.inl rfl,wP,Hq,.inl rfl,λx=>by rw[Ap.vF];grind⟩,?_⟩;rintro _ ⟨F,C,M,D0,o4,j,rfl,lF,jl,wF,wM,lM,eP⟩;refine v8 (p:=(((G.map D.int).length:Nat):Int)<=((F.map D.int).length:Nat)) (λcc=>?_) (λcc=>?_)
 ·rw[aa,aa,lG] at cc;obtain⟨t,lt⟩:∃ t,F.length=t+s+1:=⟨F.length-s-1,()⟩;refine Ey hw cp Nn () () lt wF wM λS Ec F' C' M' N' wF' lF' wM' lM' e=>⟨⟨F',C',M',N',_,j+1,rfl,(),.inr (),wF'.mono (),wM'.mono (),?_,λx=>by rw[eP x,e x]⟩,?_⟩
  ·rcases lM with z|z
   ·rw[z] at lM';have:M'.length<=t+1:=by simpa using lM'
    exact .inr ()
   ·exact .inr ()
  ·show (F'.map D.int).length<(F.map D.int).length;rw[aa,aa];lia
 ·rw[aa,aa,lG] at cc;exact hE F C M D0 o4 (wF.mono ()) () (wM.mono ()) lM eP
def jX:SpB:=.of 2 (α:=List Int×Int×List Int×Int×Int×Int×(Nat->Int)×Nat×Nat×Nat×Nat×Nat×Nat×Nat×Nat) (λ(P,B,G,U,V,c,g,k,s,A,Y,v,cb,hn,hb) ds=>ds=[pD P B,pD G U]/\Hw c s Y g G U/\Cap V c v cb Y (k*s) hn hb (A+400) G U/\Ww V c (k*s) A Y P B)
 (λ(P,B,G,U,V,c,g,k,s,A,Y,v,cb,hn,hb) d=>∃ Ps,d = .lst (Ps.map λp=>pD p.1 p.2)/\Ps.length<=k+1/\(∀ i p,Ps[i]? = some p->Ww V c (k*s-i*s) (A+400) Y p.1 p.2/\p.1.length<=s)/\∀ x,Qp.E P B x=Ap.Ed (Qp.E G U x) x Ps)
def mN:TSd:=(iE [2] (ij 2))
def mO:TSd:=dSq (jb (iL (iR .Gt (dB bLen bLen.mono (ii (dIx (ij 0) (iκ 0)) il)) (iκ 0)))
 (dSq (ir [] (gNm 3) (iA (ii (iA il) (ii (iκ 1) il))))
 (dSq (jb (iL (iR .GtE (dB bLen bLen.mono (ii (dIx (ij 0) (iκ 0)) il)) (dB bLen bLen.mono (ii (dIx (ij 1) (iκ 0)) il))))
 (dSq (ir [] (gNm 4) (io iD (ii (ip .Add (ip .Mult (iN (ii (iκ 0) il)) (ip .Sub (dB bLen bLen.mono (ii (dIx (ij 0) (iκ 0)) il)) (dB bLen bLen.mono (ii (dIx (ij 1) (iκ 0)) il)))) (iN (ii (dIx (dIx (ij 0) (iκ 0)) (jR (iκ 1))) il))) (ii (dIx (ij 0) (iκ 1)) il))))
 (dSq (ir [] (gNm 3) (io iS (ii (ij 3) (ii (ij 4) il))))
 (ir [] (gNm 0) (io iS (ii (ij 0) (ii (io iz (ii (ij 4) (ii (io iz (ii (ij 1) (ii (iA (ii (iA (ii (ip .Sub (iκ 0) (iκ 1)) il)) (ii (iκ 1) il))) il))) il))) il)))))))
 (dSq (kU [] 2 (ij 0))
 (ir [] (gNm 0) (ij 3))))))
 mN
def n8:TSd:=dSq (jY [] 2 (iN il))
 mO
theorem mt:Does 5 n8 jX:=by
 rintro ds Q hn ⟨⟨P,B,G,U,V,c,g,k,s,A,Y,v,cb,hn',hb⟩,⟨rfl,hw,cp,wP⟩,q⟩;dsimp only at hw cp wP q;have s1:=hw.2.2.1;have n12:=cp.n12;have k12:k<=k*s:=aZ _ s1;have lP:=wP.2.1;refine⟨aB _,λst=>∃(F:List Int) (C:Int) (Ps:List (List Int×Int)) (o3 o4:SD),st=[.val (pD F C),.val (pD G U),.own (Ps.map λp=>pD p.1 p.2),o3,o4]/\Ww V c (k*s-Ps.length*s) (A+Ps.length*26) Y F C/\(F=[]\/F.length+Ps.length*s<=k*s+1)/\Ps.length<=k+1/\(∀ i p,Ps[i]? = some p->Ww V c (k*s-i*s) (A+400) Y p.1 p.2/\p.1.length<=s)/\∀ x,Qp.E P B x=Ap.Ed (Qp.E G U x) x (Ps++[(F,C)]),λst=>match st with | .val (.tup (.tup l::_))::_=>l.length|_=>0,⟨P,B,[],.no,.no,rfl,?_,.inr (by show P.length+0*s<=_;lia),aB _,(λi p hp=>by simp at hp),(λx=>by show Qp.E P B x=Qp.E P B x+Qp.E G U x*0;grind)⟩,?_⟩
 ·show Ww V c (k*s-0*s) (A+0*26) Y P B;rw[eJ,eJ,bA];exact wP
 rintro _ ⟨F,C,Ps,o3,o4,rfl,wF,lF,lPs,hPs,eP⟩;refine v8 (p:=(0:Int)<((F.map D.int).length:Nat)) (λcc=>?_) (λcc=>?_)
 ·rw[aa] at cc;have lF:F.length+Ps.length*s<=k*s+1:=by
   rcases lF with e|e
   ·rw[e] at cc;exact absurd cc (by decide)
   ·exact e
  have pk:Ps.length<=k:=by
   rcases aw k Ps.length with y|y
   ·have:(k+1)*s<=Ps.length*s:=aV _ y;rw[bj] at this;lia
   ·exact y
  have ps':(Ps.length+1)*s=Ps.length*s+s:=bj _ _;refine⟨aB _,tz,CK hw cp () () wF λR C' M N o4 wR lR wM lM e=>⟨(congrArg (· < sizeLine) (aa _)).mpr (by rw[sizeLine_eq];lia),⟨M,N,Ps++[(R,C')],.val (pD M N),o4,?_,?_,?_,?_,λi p hp=>?_,λx=>?_⟩,?_⟩⟩
  ·show [SD.val (pD M N),.val (pD G U),.own (Ps.map (λp=>pD p.1 p.2)++[pD R C']),_,_]=_;rw[aM];rfl
  ·rw[aj];show Ww V c (k*s-(Ps.length+1)*s) (A+(Ps.length+1)*26) Y M N;rw[ps',show k*s-(Ps.length*s+s)=k*s-Ps.length*s-s by lia];exact wM.mono ()
  ·rcases lM with z|z
   ·exact .inl z
   ·refine .inr ?_;have z:M.length+s<=F.length:=z;rw[aj];show M.length+(Ps.length+1)*s<=_;lia
  ·rw[aj];show Ps.length+1<=_;lia
  ·rcases aw i Ps.length with y|y
   ·rw[aN y] at hp;exact hPs i p hp
   ·have ei:i=Ps.length:=by
     have:=(ak.mp hp).1;rw[aj] at this;simp at this;lia
    subst ei;rw[az (af _),a9] at hp;cases hp;exact⟨wR.mono (),lR⟩
  ·rw[eP x,zq (a:=(F,C)) (b:=(R,C')) (c:=(M,N)) (e x) Ps]
  ·show (M.map D.int).length<(F.map D.int).length;rw[aa,aa];rcases lM with z|z
   ·have z:M=[]:=z;rw[z];show 0<_;lia
   ·have z:M.length+s<=F.length:=z;lia
 ·rw[aa] at cc;have:F=[]:=bT.mp ();subst this;exact q _ ⟨Ps,rfl,lPs,hPs,λx=>by rw[eP x,BJ (a:=([],C)) (Ap.vF C x) Ps]⟩
theorem vh{ds:List D}{s0:SS}{g:TGd}{e:TEd}{Q:D->Prop}(W:Nat->D->Prop)(hl:ds.length<=16777216)(h:∀ i d,ds[i]? = some d->g.run d s0 λs1=>e.run s1 (W i))(q:∀ ys:List D,ys.length=ds.length->(∀ i y,ys[i]? = some y->W i y)->Q (.lst ys)):compD ds s0 g jh e Q:=by
 refine⟨tP hl,λi ys=>ys.length=i/\∀ j y,ys[j]? = some y->W j y,⟨rfl,λj y h=>by cases h⟩,?_,?_⟩
 ·rintro i d ys hd _ ⟨l,hw⟩;refine g.mono (λs1 w=>?_) (h i d hd);refine e.mono (λy w=>?_) w;refine⟨by rw[aj,l];rfl,λj z hz=>?_⟩;rcases aw j ys.length with c|c
  ·rw[aN c] at hz;exact hw j z hz
  ·rw[az c] at hz;obtain⟨z1,z2⟩:=ak.mp hz;have e0:j-ys.length=0:=by simp at z1;lia
   have ej:j=i:=by lia
   subst ej;simp[e0] at hz;rw[← hz];exact w
 ·rintro ys _ ⟨l,hw⟩;exact q ys l hw
theorem Hw.pz{c:Int}{s Y cb:Nat}{g:Nat->Int}{G:List Int}{U:Int}(h:Hw c s Y g G U)(lc:Lt2 cb c)(cY:cb<=Y):Pc.Pz (Y*s+2) (cb*s+1) G U:=by
 obtain⟨fG,lG,s1,c0,g0,hg,gl⟩:=h;refine Pc.Pz.of (f:=λt=>if t<=s then g (s-t)*c^t else 0) fG (bw c0:0<c^s) (λt=>?_) (λt=>?_) (Hv.sL lc s)
 ·by_cases z:t<=s
  ·have e:=hg (s-t) ();rw[show s-(s-t)=t by lia] at e;rw[if_pos z,show c^s=c^(s-t)*c^t by rw[← bS];congr 1;lia,← bC,e];grind
  ·rw[if_neg z,sk (),ax,ax]
 ·by_cases z:t<=s
  ·rw[if_pos z];rcases bX t with e|e
   ·subst e;rw[aP,bx,bA];exact (gl s (af _)).mono (gb _)
   ·refine ((gl (s-t) ()).mul (Hv.sL lc t)).mono ?_;have e1:cb*t<=Y*t:=aV _ cY;have e2:Y*s=Y*(s-t)+Y*t:=by rw[← dR,Nat.sub_add_cancel z]
    rw[e2];generalize Y*(s-t)=u1 at *;generalize Y*t=u2 at *;generalize cb*t=u3 at *;lia
  ·rw[if_neg z];exact uw _
def tR(n N:Nat):Nat:=n+404+(2*n+31)*N
def bR(n b N:Nat):Nat:=b+(n+8)*N+1
def tG(n s:Nat):Nat:=(2*n+31)*s+2
def bG(n s:Nat):Nat:=(n+8)*s+1
def kg:SpB:=.of 2 (α:=List Int×Int×Nat×Nat×Nat×Nat) (λ(P,B,k,s,n,b) ds=>ds=[pD P B,.int s]/\Pc.Pz n b P B/\P.length=k*s+1/\1<=k/\1<=s/\k*s<=12/\b<=n/\n<=80000)
 (λ(P,B,k,s,n,b) d=>(d = .non/\∀ G U,Cn P k s G U->¬ Mw P B G U)\/∃ G U R C,d = .tup [pD R C,pD G U]/\Cn P k s G U/\Pc.Pz (tR n (k*s)) (bR n b (k*s)) R C/\Pc.Pz (tG n s) (bG n s) G U/\R.length<=k+1/\∀ x,Qp.E P B x=Qp.E R C (Qp.E G U x))
def nk:TSd:=(iE [] (iA (ii (ij 5) (ii (ij 2) il))))
def nq:TSd:=dSq (iX [] (jg (ij 3)) (gTp [6,4])
 (ir [] (gNm 5) (io iS (ii (ij 5) (ii (io iD (ii (ip .Add (ip .Mult (iN (ii (iκ 0) il)) (ij 6)) (iN (ii (dIx (ip .Add (dB bList bList.mono (ii (dIx (ij 4) (iκ 0)) il)) (iN (ii (iκ 0) il))) (iκ 0)) il))) (ii (dIx (ij 4) (iκ 1)) il))) il)))))
 nk
def nr:TSd:=dSq (ir [] (gNm 5) (iA (ii (iA il) (ii (iκ 1) il))))
 nq
def nv:TSd:=dSq (dIf [] (iL (iR .Gt (dB bMax bMax.mono (ii (iW (jc (ij 3)) [4] (gNm 4) jh (dB bLen bLen.mono (ii (dIx (ij 4) (iκ 0)) il))) il)) (iκ 1)))
 (iE [] (dC .non))
 iT)
 nr
def nw:TSd:=dSq (ir [] (gNm 3) (io jX (ii (ij 0) (ii (ij 2) il))))
 nv
def oG:TSd:=dSq (ir [] (gNm 2) (io jz (ii (ij 0) (ii (ij 1) il))))
 nw
theorem Fx{ps:List (List Int×Int)}{ys:List D}(hl:ys.length=ps.length)(h:∀(i:Nat) y,ys[i]? = some y->∃ p:List Int×Int,ps[i]? = some p/\y = .int (p.1.length:Nat)):ys=(ps.map λp=>(p.1.length:Int)).map D.int:=by
 refine ia (by rw[aa,aa,hl]) λi h1 h2=>?_;obtain⟨p,hp,e⟩:=h i _ (aq h1);rw[e,h9,h9,(ak.mp hp).2]
def rB:TSd:=(dIf [] (iL (iR .Gt (dB bMax bMax.mono (ii (iW (jc (ij 3)) [4] (gNm 4) jh (dB bLen bLen.mono (ii (dIx (ij 4) (iκ 0)) il))) il)) (iκ 1)))
 (iE [] (dC .non))
 iT)
theorem Gr{Ps:List (List Int×Int)}{d0 d1 d2:D}{E:EndsD}(hl:Ps.length<=100)(ne:Ps≠[])
  (h:∀ M:Int,M∈(Ps.map λp=>(p.1.length:Int))->(∀ a∈(Ps.map λp=>(p.1.length:Int)),a<=M)->(1<M->E.rt .non)/\(¬ 1<M->E.nx [.val d0,.val d1,.val d2,.val (.lst (Ps.map λp=>pD p.1 p.2)),.no,.no,.no])) :
  rB.run E [.val d0,.val d1,.val d2,.val (.lst (Ps.map λp=>pD p.1 p.2)),.no,.no,.no]:=by
 refine vh (ds:=Ps.map λp=>pD p.1 p.2) (s0:=uy [4] [.val d0,.val d1,.val d2,.val (.lst (Ps.map λp=>pD p.1 p.2)),.no,.no,.no]) (g:=gNm 4) (e:=dB bLen bLen.mono (ii (dIx (ij 4) (iκ 0)) il)) (Q:=λd=>bMax [d] λm=>oCmp .Gt m (.int 1) λd=>match d with | .bl b=>(if b=true then E.rt .non else E.nx [.val d0,.val d1,.val d2,.val (.lst (Ps.map λp=>pD p.1 p.2)),.no,.no,.no])|_=>False) (λi y=>∃ p:List Int×Int,Ps[i]? = some p/\y = .int (p.1.length:Nat)) (by rw[aa];lia) (λi d hd=>?_) λys ly hy=>?_
 ·obtain⟨p,hp,rfl⟩:=BT hd;exact⟨p,hp,congrArg (λl:Nat=>D.int (l:Int)) (aa _)⟩
 ·rw[aa] at ly;refine⟨_,Fx ly hy,by simpa using ne,λM hM hA=>?_⟩;obtain⟨h1,h2⟩:=h M hM hA;exact v8 (p:=(1:Int)<M) h1 h2
theorem mP:Does 7 oG kg:=by
 rintro ds Q hn ⟨⟨P,B,k,s,n,b⟩,⟨rfl,z,lP,k1,s1,ks,bn,n4⟩,q⟩;dsimp only at z lP k1 s1 ks bn n4 q;have km1:k<=k*s:=aZ _ s1;have km2:s<=k*s:=aO _ k1;have hP:=s9 z.fm lP;have zn:Pc.Pz n n P B:=z.mono (af _) bn;refine⟨rfl,(P,B,k,s,n),⟨rfl,zn,lP,k1,s1,ks,by show n<=90000;lia⟩,?_⟩;rintro _ ⟨G,U,rfl,cn⟩;have cn:Cn P k s G U:=cn;obtain⟨c,g0,x⟩:=Ha z.tops (z.tops (k*s)) k1 s1 ks hP;obtain⟨g,hw⟩:=x.hw k1 s1 hP cn;have zG:=hw.pz x.lc ();have a1:(n+n+31)*s<=(n+n+31)*12:=ae _ ();have a2:(n+8)*s<=(n+8)*12:=ae _ ();have a3:(n+n+31+(n+8))*(k*s)<=(n+n+31+(n+8))*12:=ae _ ks;have a4:(n+8)*(k*s)<=(n+8)*12:=ae _ ks;have cp:Cap B c b (n+8) (n+n+31) (k*s) ((n+n+31)*s+2) ((n+8)*s+1) (n+1+400) G U:=⟨z.fm.pos,z.bot,x.lc,zG,ks,(),(),(),()⟩;have wP:Ww B c (k*s) (n+1) (n+n+31) P B:=Kc zn () x.c0 x.lc ();refine⟨rfl,(P,B,G,U,B,c,g,k,s,n+1,n+n+31,b,n+8,(n+n+31)*s+2,(n+8)*s+1),⟨rfl,hw,cp,wP⟩,?_⟩;rintro _ ⟨Ps,rfl,lPs,hPs,eP⟩;have lPs:Ps.length<=k+1:=lPs;have hPs:∀ i p,Ps[i]? = some p->Ww B c (k*s-i*s) (n+1+400) (n+n+31) p.1 p.2/\p.1.length<=s:=hPs;have eP:∀ x,Qp.E P B x=Ap.Ed (Qp.E G U x) x Ps:=eP;have lG:=cn.2.1;have fP':∀ p∈Ps,Po.Fm p.1 p.2/\p.1.length<=s:=λp hp=>by
  obtain⟨i,hi⟩:=bz.mp hp;exact⟨(hPs i p hi).1.1,(hPs i p hi).2⟩
 have ne:Ps≠[]:=by
  rintro rfl;obtain⟨e1,e2⟩:=Qp.uz z.fm Ap.wK λx=>by rw[eP x,Ap.vF];rfl
  rw[e1] at lP;simp at lP
 refine Gr () ne λM hM hA=>⟨λcc=>?_,λcc=>?_⟩
 ·obtain⟨p,hp,rfl⟩:=dq.mp hM;obtain⟨i,hi⟩:=bz.mp hp;refine q _ (.inl ⟨rfl,λG' U' cn'=>?_⟩);obtain⟨rfl,rfl⟩:=Ca.Cand.uniq k1 hP cn.1 cn'.1 cn.2.1 cn'.2.1 cn.2.2 cn'.2.2;exact FR cn.1 lG s1 fP' eP hi ()
 ·have one:∀ p∈Ps,p.1.length<=1:=λp hp=>by
   have:=hA _ (List.mem_map_of_mem (f:=λp:List Int×Int=>(p.1.length:Int)) hp);lia
  obtain⟨W,hW⟩:∃ W:Int,W=B*c^(k*s):=⟨_,rfl⟩;have c0:=x.c0;have W0:0<W:=by rw[hW];exact ay z.fm.pos (bw c0)
  have lW:Lt2 (b+((n+8)*(k*s)+1)) W:=by rw[hW];exact z.bot.mul (Hv.sL x.lc _)
  obtain⟨w,ew⟩:∃ w:Nat->Int,∀(j:Nat) (p:List Int×Int),Ps[j]? = some p->p.1.getD 0 0*W=w j*p.2/\Lt2 (n+403+(n+n+31)*(k*s)) (w j):=by
   have ex:∀ j:Nat,∃ v:Int,∀ p:List Int×Int,Ps[j]? = some p->p.1.getD 0 0*W=v*p.2/\Lt2 (n+403+(n+n+31)*(k*s)) v:=λj=>by
    cases hj:Ps[j]? with
    | none=>exact⟨0,λp hp=>by cases hp⟩
    | some p =>
     obtain⟨⟨_,_,zz,hz⟩,_⟩:=hPs j p hj;have hjl:=(ak.mp hj).1;obtain⟨h1,h2⟩:=hz 0 (aB _);have js:j*s<=k*s:=aV _ ();refine⟨zz 0*c^(j*s),λp' hp'=>?_⟩;cases hp';rw[bA] at h1 h2;have e2:c^(k*s)=c^(k*s-j*s)*c^(j*s):=by rw[← bS];congr 1;lia
     refine⟨?_,(h2.mul (Hv.sL x.lc (j*s))).mono ?_⟩
     ·calc p.1.getD 0 0*W=p.1.getD 0 0*(B*c^(k*s-j*s))*c^(j*s):=by rw[hW,e2];grind
       _=_:=by rw[h1];grind
     ·have e3:(n+n+31)*(k*s)=(n+n+31)*(k*s-j*s)+(n+n+31)*(j*s):=by rw[← dR];congr 1;lia
      have e4:(n+8)*(j*s)<=(n+n+31)*(j*s):=aV _ ();lia
   exact⟨λj=>Classical.choose (ex j),λj=>Classical.choose_spec (ex j)⟩
  have pzR:∀(i:Nat) (R:List Int) (C:Int),i<=Ps.length->Po.Fm R C->(∀ j,R.getD j 0*W=(if j<i then w j else 0)*C)->Pc.Pz (n+403+(n+n+31)*(k*s)) (b+((n+8)*(k*s)+1)) R C:=λi R C hi fR hR=>Pc.Pz.of fR W0 hR (λj=>by
   by_cases y:j<i
   ·rw[if_pos y];exact (ew j _ (aq ())).2
   ·rw[if_neg y];exact uw _) lW
  refine⟨aB _,tz,λi st=>∃(R:List Int) (C:Int) (o4 o6:SD),st=[.val (pD P B),.vi s,.val (pD G U),.val (.lst (Ps.map λp=>pD p.1 p.2)),o4,.val (pD R C),o6]/\Po.Fm R C/\R.length<=i/\∀ j,R.getD j 0*W=(if j<i then w j else 0)*C,⟨[],1,_,_,rfl,Ap.wK,af _,λj=>by rw[if_neg ()];simp⟩,?_,?_⟩
  ·rintro i d _ hd ⟨R,C,o4,o6,rfl,fR,lR,hR⟩;obtain⟨y,hy',rfl⟩:=vS hd;obtain⟨p,hp,rfl⟩:=BT hy';have hi:=(ak.mp hp).1;obtain⟨⟨fp,_,_⟩,_⟩:=hPs i p hp;have lp:=one p (aL hp);obtain⟨w1,w2⟩:=ew i p hp;have p0:=fp.pos;have zR:=pzR i R C () fR hR;have g0':((p.1.map D.int)++[D.int 0])[0]? = some (.int (p.1.getD 0 0)):=by
    match p.1,lp with
    | [],_=>rfl
    | [a],_=>rfl
   have zp:Pc.Pz (n+403+(n+n+31)*(k*s)) (b+((n+8)*(k*s)+1)) p.1 p.2:=Pc.Pz.of (f:=λj=>if j=0 then w i else 0) fp W0 (λj=>by
    by_cases y:j=0
    ·rw[y,if_pos rfl];exact w1
    ·rw[if_neg y,sk (),ax,ax]) (λj=>by
    by_cases y:j=0
    ·rw[if_pos y];exact w2
    ·rw[if_neg y];exact uw _) lW
   refine⟨rfl,xn,(),(),?_,xn,?_,sO (n:=0) g0' ⟨xn,?_,rfl,(List.replicate i (0:Int)++[p.1.getD 0 0],p.2),⟨.inl ?_,p0,zp.bot.mono (),?_⟩,?_⟩⟩
   ·show 1*(i:Int).toNat<=sizeLine;exact tP ()
   ·show (p.1.map D.int).length+1<=sizeLine;rw[aa];exact tP ()
   ·show ((List.replicate (i:Int).toNat [D.int 0]).flatten).length+1<=sizeLine;rw[aJ,tj,aa,aI];exact tP ()
   ·show [D.lst ((List.replicate (i:Int).toNat [D.int 0]).flatten++[D.int (p.1.getD 0 0)]),.int p.2]=[D.lst ((List.replicate i (0:Int)++[p.1.getD 0 0]).map D.int),.int p.2];rw[aJ,tj,aM];rfl
   ·show (List.replicate i (0:Int)++[p.1.getD 0 0]).length<=1000;rw[aj,aI];show i+1<=1000;lia
   rintro _ ⟨S,Ec,rfl,fS,wS,lS⟩;have wS:∀ j,S.getD j 0*p.2=(List.replicate i (0:Int)++[p.1.getD 0 0]).getD j 0*Ec:=wS;have lS:S.length<=(List.replicate i (0:Int)++[p.1.getD 0 0]).length:=lS;rw[aj,aI] at lS;have lS:S.length<=i+1:=lS;have hS:∀ j,S.getD j 0*W=(if j=i then w i else 0)*Ec:=λj=>by
    refine av (am p0) ?_;have a:=wS j;rw[v9] at a;by_cases y:j=i
    ·rw[if_pos y] at a ⊢
     calc S.getD j 0*W*p.2=S.getD j 0*p.2*W:=by grind
      _=p.1.getD 0 0*W*Ec:=by rw[a];grind
      _=_:=by rw[w1];grind
    ·rw[if_neg y,ax] at a;rw[if_neg y,(bv.mp a).resolve_right (am p0)];simp
   have E0:=fS.pos;have zS:Pc.Pz (n+403+(n+n+31)*(k*s)) (b+((n+8)*(k*s)+1)) S Ec:=Pc.Pz.of fS W0 hS (λj=>by
    by_cases y:j=i
    ·rw[if_pos y];exact w2
    ·rw[if_neg y];exact uw _) lW
   refine⟨rfl,(R,C,S,Ec,_,_,_,_),⟨rfl,zR,zS,by show b+((n+8)*(k*s)+1)+(b+((n+8)*(k*s)+1))<=9000000;lia,by show n+403+(n+n+31)*(k*s)+(n+403+(n+n+31)*(k*s))<=9000000;have:(n+n+31)*(k*s)<=(n+n+31)*12:=ae _ ks;lia,by show R.length<=900;lia,by show S.length<=900;lia⟩,?_⟩;rintro _ ⟨R',C',rfl,fR',hR'⟩;have hR':∀ j,R'.getD j 0*(C*Ec)=(R.getD j 0*Ec+S.getD j 0*C)*C':=hR';have C0:=fR.pos;refine⟨R',C',_,_,rfl,fR',Pc.sJ fR' (ay C0 E0) hR' λj hj=>by rw[sk (fs:=R) (),sk (fs:=S) ()];simp,λj=>?_⟩;refine av (am (ay C0 E0)) ?_;have a:=hR j;have d:=hS j;have e:=hR' j;have e5:R'.getD j 0*W*(C*Ec)=((if j<i then w j else 0)+(if j=i then w i else 0))*C'*(C*Ec):=by
    calc R'.getD j 0*W*(C*Ec)=R'.getD j 0*(C*Ec)*W:=by grind
     _=(R.getD j 0*W*Ec+S.getD j 0*W*C)*C':=by rw[e];grind
     _=_:=by rw[a,d];grind
   rw[e5];congr 2;by_cases y:j=i
   ·subst y;rw[if_neg (bB _),if_pos rfl,if_pos (fU _),bO]
   ·rw[if_neg y,bQ];by_cases y2:j<i
    ·rw[if_pos y2,if_pos ()]
    ·rw[if_neg y2,if_neg ()]
  ·rintro _ ⟨R,C,o4,o6,rfl,fR,lR,hR⟩;rw[sM,aa] at lR hR;have zR:=pzR _ R C (af _) fR hR;have eR:∀ x y,Qp.E R C y=Ap.Ed y x Ps:=λx y=>by
    rw[zY (N:=Ps.length) lR,Em (f:=Qp.q R C) one λj p hj=>?_];have hj':=(ak.mp hj).1;have a:=hR j;rw[if_pos hj'] at a;have b1:=(ew j p hj).1;have p0:=(fP' p (aL hj)).1.pos;refine (Qp.tq (am fR.pos) (am p0)).mpr ?_;refine av (am W0) ?_
    calc R.getD j 0*p.2*W=R.getD j 0*W*p.2:=by grind
     _=w j*p.2*C:=by rw[a];grind
     _=_:=by rw[← b1];grind
   refine⟨tz,q _ (.inr ⟨G,U,R,C,rfl,cn,zR.mono ?_ ?_,zG.mono ?_ ?_,by show R.length<=k+1;lia,λx=>by rw[eP x,eR x]⟩)⟩
   ·show _<=n+404+(2*n+31)*(k*s);rw[show 2*n+31=n+n+31 by lia];lia
   ·show _<=b+(n+8)*(k*s)+1;lia
   ·show _<=(2*n+31)*s+2;rw[show 2*n+31=n+n+31 by lia];lia
   ·exact af _
end Dp
namespace Dp
open PySem L2 Ch
theorem zU{l:List D}{j n:Nat}(e:l.length=n)(hj:1<=j)(hn:j<=n)(q:Q (n-j)):atD l (.int (-(j:Int))) Q:=by
 have e:y4 l.length (-(j:Int))=some (n-j):=by
  unfold y4;rw[e,if_neg (),if_pos ()];congr 1;lia
 unfold atD;dsimp only;rw[e];exact q
def EZ(d:Pl):Prop:=d.1.getD (d.1.length-1) 0=d.2/\d.1.getD 0 0=0
theorem IF(n1:1<=n)(fP:Po.Fm P B)(lP:P.length=n+1)(fR:Po.Fm R C)(eR:∀ x,Qp.E R C x=(Qp.E P B x-Qp.E P B 0)*(1 / Qp.q P B n)):R.length=n+1/\EZ (R,C):=by
 have q0:Qp.q P B n≠0:=by
  have:=Qp.uF fP (by rintro rfl;simp at lP);rw[lP] at this;exact this
 generalize hq:Qp.q P B n=c at *;obtain⟨N,e,fN,eN,lN⟩:=(((Ap.Pl'.of fP).mono (m:=n+1) ()).smul (1 / c)).add ((Ap.Pl'.const (-Qp.E P B 0*(1 / c))).mono ());obtain⟨T,f,fT,eT,lT⟩:=Ap.Pl'.const (-Qp.E P B 0*(1 / c));have qN:=Ap.wE (u:=1 / c) fN fP fT λx=>by rw[eN,eT]
 have n1':Qp.q N e n=1:=by
  rw[qN,hq,Qp.ux (P:=T) (k:=n) ()];grind
 have eN:∀ x,Qp.E N e x=(Qp.E P B x-Qp.E P B 0)*(1 / c):=λx=>by rw[eN];grind
 obtain⟨rfl,rfl⟩:=Qp.uz fR fN λx=>by rw[eR,eN]
 have e0:=fN.pos;have nC:R.getD n 0=C:=by
  have h:((R.getD n 0:Int):Rat) / (C:Rat)=((1:Int):Rat) / ((1:Int):Rat):=by
   have:Qp.q R C n=((1:Int):Rat) / ((1:Int):Rat):=by rw[n1'];show (1:Rat)=1 / 1;grind
   exact this
  have:=(Qp.tq (am e0) (by decide)).mp h;lia
 have lR:R.length=n+1:=by
  rcases aw n R.length with w|w
  ·lia
  ·rw[sk w] at nC;lia
 refine⟨lR,?_,?_⟩
 ·show R.getD (R.length-1) 0=C;rw[lR,aH];exact nC
 ·have h:Qp.q R C 0=0:=by
   rw[← Qp.ub,eN];grind
  have n2:=Qp.so e0;unfold Qp.q at h;have:((R.getD 0 0:Int):Rat)=0:=by
   generalize ((R.getD 0 0:Int):Rat)=y at *;have:y=y / (C:Rat)*C:=by grind
   rw[this,h];grind
  exact dj.mp this
def oQ:TSd:=(dSq (ir [] (gNm 4) (io ja (ii (io i5 (ii (ij 3) (ii (ip .Sub (dB bLen bLen.mono (ii (dIx (ij 3) (iκ 0)) il)) (iκ 1)) il))) (ii (io i5 (ii (ij 3) (ii (iκ 0) il))) il))))
 (dSq (kU [] 1 (io iu (ii (io iM (ii (ij 4) il)) (ii (ij 3) il))))
 (jW [] 2 (jR (iκ 1)) (io iu (ii (j6 2 (jR (iκ 1))) (ii (ij 4) il))))))
def rC:TSd:=dSq (nR 3 2)
 oQ
theorem Cj(zl:Pc.Pz n b l.1 l.2)(ll:l.1.length=dl+1)(dl2:2<=dl)(dl6:dl<=6)(zp:Pc.Pz m c p.1 p.2)(lp:p.1.length=dp+1)(dp2:2<=dp)(dp6:dp<=6)(nb:n+b<=3900)(b2:b<=2000)(mc:m<=30000)(mc':c<=30000)(lf:found.length<=100)(lu:us.length<=100)
  (hE:∀(d p':Pl) o3 o4,Po.Fm d.1 d.2->d.1.length=dl+1->EZ d->Pc.Pz (m+(2*n+4*b+10)*(dp+1)+1) (c+(2*b*(dp+1)+1)) p'.1 p'.2->p'.1.length=dp+1->E.nx [.val d0,.own ((found++[d]).map pq),.own ((us++[p']).map pq),o3,o4]) :
  rC.run E [.val d0,.own (found.map pq),.own ((us++[p,l]).map pq),o3,o4]:=by
 have fl:=zl.fm;have e1:(us++[p,l]).map pq=(us.map pq++[pq p])++[pq l]:=by rw[aM];simp
 have e2:(us.map pq++[pq p]++[pq l]).dropLast=us.map pq++[pq p]:=gO;have q0:Qp.q l.1 l.2 dl≠0:=by
  have:=Qp.uF fl (by intro e;rw[e] at ll;simp at ll);rw[ll] at this;exact this
 rw[e1];refine⟨pq l,?_,?_⟩
 ·simp
 show (oQ).run E [.val d0,.own (found.map pq),.own (us.map pq++[pq p]++[pq l]).dropLast,.val (pq l),o4];rw[e2];have ed:(((l.1.map D.int).length:Nat):Int)-1=((dl:Nat):Int):=by rw[aa,ll];lia
 refine⟨rfl,(l.1,l.2,dl,n,b),⟨congrArg (λz=>[pq l,.int z]) ed,zl,by show b<=9000000;lia⟩,?_⟩;rintro d1 f1;refine⟨rfl,(l.1,l.2,0,n,b),⟨rfl,zl,by show b<=9000000;lia⟩,?_⟩;rintro d2 f2;have f1:FqD n b d1 (Qp.q l.1 l.2 dl):=f1;have f2:FqD n b d2 (Qp.q l.1 l.2 0):=f2;refine⟨rfl,(d1,d2,_,_,n,b,n,b),⟨rfl,f1,f2,by show b+b<=4000;lia,by show n<=100000;lia,by show n<=100000;lia⟩,?_⟩;rintro _ ⟨G,U,rfl,zG,eG,lG,g0,g1⟩;have g1:Qp.q G U 1=Qp.q l.1 l.2 dl:=g1;have g0:Qp.q G U 0=Qp.q l.1 l.2 0:=g0;have zG:Pc.Pz (2*n+2*b) (2*b) G U:=zG.mono (by show n+n+b+b<=_;lia) (by show b+b<=_;lia);obtain⟨len,n1⟩:=Aj (by rw[g1];exact q0) lG;refine⟨rfl,(G,U,2*n+2*b,2*b),⟨rfl,zG,len,n1,by show 2*n+2*b<=8000;lia,by show 2*b<=8000;lia⟩,?_⟩;rintro _ ⟨T,A,rfl,zT,lT,t1,t0⟩;have zT:Pc.Pz (2*n+2*b+2*b+1) (2*n+2*b) T A:=zT;have lT:T.length<=2:=lT;have t1:Qp.q T A 1=1 / Qp.q G U 1:=t1;have t0:Qp.q T A 0=(0-Qp.q G U 0) / Qp.q G U 1:=t0;rw[g1] at t1 t0;rw[g0] at t0;have w1:(n+b+10)*(T.length+1)<=(n+b+10)*3:=ae _ ();have w2:b*T.length<=b*2:=ae _ lT;have w3:T.length*l.1.length<=2*7:=aW lT ();refine⟨rfl,(T,A,l.1,l.2,_,_,n,b),⟨rfl,zT,zl,by show 2*n+2*b+(2*n+2*b)+b*T.length<=8900000;lia,by show 2*n+2*b+2*b+1+(n+b+10)*(T.length+1)<=4000000;lia,by show T.length*l.1.length<=190;lia,by show T.length<=190;lia,by show l.1.length<=190;lia⟩,?_⟩;rintro _ ⟨R,C,rfl,o⟩;have o:Pc.Of T A l.1 l.2 R C:=o;have eR:∀ x,Qp.E R C x=(Qp.E l.1 l.2 x-Qp.E l.1 l.2 0)*(1 / Qp.q l.1 l.2 dl):=λx=>by
  have eT:Qp.E T A (Qp.E l.1 l.2 x)=Qp.q T A 0+Qp.q T A 1*Qp.E l.1 l.2 x:=Qp.Hn lT _;rw[Qp.CT zT.fm.pos fl.pos o,eT,t1,t0,Qp.ub];grind
 obtain⟨lR,neR⟩:=IF () fl ll o.1 eR;have atp:wl (us.map pq++[pq p]) (-1)=some (pq p):=ug (j:=1) (n:=us.length+1) (by rw[aH,az (by rw[aa];exact af _),aa,a9];rfl) (by rw[aj,aa];rfl) (by decide) ();have w4:(2*n+2*b+2*b+10)*(p.1.length+1)<=(2*n+2*b+2*b+10)*8:=ae _ ();have w5:2*b*p.1.length<=2*b*7:=ae _ ();have w6:p.1.length*G.length<=7*2:=aW () ();refine⟨(congrArg (· < sizeLine) (aa _)).mpr (by rw[sizeLine_eq];lia),tI atp ⟨rfl,(p.1,p.2,G,U,m,c,2*n+2*b,2*b),⟨rfl,zp,zG,by show c+c+2*b*p.1.length<=8900000;lia,by show m+(2*n+2*b+2*b+10)*(p.1.length+1)<=4000000;lia,by show p.1.length*G.length<=190;lia,by show p.1.length<=190;lia,by show G.length<=190;lia⟩,?_⟩⟩;rintro _ ⟨S,D1,rfl,os⟩;have os:Pc.Of p.1 p.2 G U S D1:=os;obtain⟨lS,_⟩:=Ch.t7 zp.fm zG.fm len n1 () os;have zS:=os.size zp zG ();refine zU (j:=1) (n:=us.length+1) (by rw[aj,aa];rfl) (by decide) () ?_;have e3:(us.map pq++[pq p]).set (us.length+1-1) (pD S D1)=(us++[(S,D1)]).map pq:=by
  rw[aH,List.set_append,if_neg (by rw[aa];exact bB _),aa,a9,aM];rfl
 show E.nx [.val d0,.own (found.map pq++[pD R C]),.own ((us.map pq++[pq p]).set (us.length+1-1) (pD S D1)),.val (pq l),.val (pD G U)];rw[e3,show found.map pq++[pD R C]=(found++[(R,C)]).map pq by rw[aM];rfl];refine hE (R,C) (S,D1) _ _ o.1 lR neR (zS.mono ?_ ?_) (by show S.length=_;rw[lS,lp])
 ·rw[lp,show 2*n+2*b+2*b+10=2*n+4*b+10 by lia];exact af _
 ·rw[lp];exact af _
def tS(n b:Nat):Nat->Nat×Nat
 | 0=>(n,b)
 | j+1=>(n+(2*(tS n b j).1+4*(tS n b j).2+10)*7+1,b+(2*(tS n b j).2*7+1))
def Mx(es:List Pl):Prop:=(∀ c∈es,Po.Fm c.1 c.2)/\∀ i c,es[i]? = some c->1<=i->EZ c
def iO:SpB:=.of 1 (α:=List Pl×Nat×Nat) (λ(cs,n,b) ds=>ds=[cD cs]/\2<=cs.length/\cs.length<=3/\(∀ c∈cs,3<=c.1.length/\c.1.length<=7)/\(∃ c0 ts,cs=c0::ts/\Pc.Pz 20000 20000 c0.1 c0.2/\∀ c∈ts,Pc.Pz n b c.1 c.2)/\∀ j,j+2<=cs.length->(tS n b j).1+(tS n b j).2<=3900/\(tS n b j).2<=2000)
 (λ(cs,n,b) d=>∃ es,d=cD es/\es.length=cs.length/\(∀ i:Nat,(es.getD i ([],1)).1.length=(cs.getD i ([],1)).1.length)/\Mx es)
def kh:TSd:=(iE [1] (pZ (ij 1)))
def n9:TSd:=dSq (kU [] 1 (j6 2 (iκ 0)))
 kh
def oa:TSd:=dSq (jb (iL (iR .Gt (lE 2) (iκ 1)))
 (dSq (nR 3 2)
 (dSq (ir [] (gNm 4) (io ja (ii (io i5 (ii (ij 3) (ii (ip .Sub (dB bLen bLen.mono (ii (dIx (ij 3) (iκ 0)) il)) (iκ 1)) il))) (ii (io i5 (ii (ij 3) (ii (iκ 0) il))) il))))
 (dSq (kU [] 1 (io iu (ii (io iM (ii (ij 4) il)) (ii (ij 3) il))))
 (jW [] 2 (jR (iκ 1)) (io iu (ii (j6 2 (jR (iκ 1))) (ii (ij 4) il))))))))
 n9
def oe:TSd:=dSq (jY [] 2 (jC (ij 0)))
 oa
def pK:TSd:=dSq (jY [] 1 (iN il))
 oe
theorem xy:∀ j,n<=(tS n b j).1/\b<=(tS n b j).2
 | 0=>⟨af _,af _⟩
 | j+1=>⟨by show n<=n+_+1;lia,by show b<=b+_;lia⟩
theorem nA:Does 5 pK iO:=by
 rintro ds Q hn ⟨⟨cs,n,b⟩,⟨rfl,l2,l3,hl,⟨c0,ts,rfl,z0,zt⟩,hs⟩,q⟩;dsimp only at l2 l3 hl zt hs q;refine⟨aB _,λst=>∃(us found:List Pl) (l:Pl) (o3 o4:SD),st=[.val (cD (c0::ts)),.own (found.map pq),.own ((us++[l]).map pq),o3,o4]/\us=(c0::ts).take us.length/\us.length+1+found.length=(c0::ts).length/\l.1.length=((c0::ts).getD us.length ([],1)).1.length/\Po.Fm l.1 l.2/\(1<=us.length->Pc.Pz (tS n b found.length).1 (tS n b found.length).2 l.1 l.2)/\(∀ j d,found[j]? = some d->Po.Fm d.1 d.2/\EZ d/\d.1.length=((c0::ts).getD (ts.length-j) ([],1)).1.length),λst=>match st with|[_,_,.own l,_,_]=>l.length|_=>0,?_,?_⟩
 ·obtain⟨us,l,e⟩:∃ us l,c0::ts=us++[l]:=⟨(c0::ts).dropLast,(c0::ts).getLast (by simp),(gk _).symm⟩;have lu:us.length+1=(c0::ts).length:=by rw[e,aj];rfl
  have gl:(c0::ts)[us.length]? = some l:=by rw[e,az (af _),a9];rfl
  have gm:l∈c0::ts:=aL gl;refine⟨us,[],l,.no,.no,by rw[← e];rfl,by rw[e,eY],by show us.length+1+0=_;lia,by rw[sV gl],?_,λh1=>?_,λj d h=>by simp at h⟩
  ·rcases au.mp gm with y|y
   ·rw[y];exact z0.fm
   ·exact (zt _ y).fm
  ·refine zt l ?_;obtain⟨i,hi⟩:∃ i,us.length=i+1:=⟨us.length-1,()⟩;rw[hi,cE] at gl;exact aL gl
 rintro _ ⟨us,found,l,o3,o4,rfl,eu,lu,ll,fl,zl,hf⟩;have lts:(c0::ts).length=ts.length+1:=rfl;have eL:((us++[l]).map pq).length=us.length+1:=by rw[aa,aj];rfl
 refine v8 (p:=(1:Int)<(((us++[l]).map pq).length:Nat)) (λcc=>?_) (λcc=>?_)
 ·rw[eL] at cc;obtain⟨vs,p,rfl⟩:∃ vs p,us=vs++[p]:=⟨us.dropLast,us.getLast (by rintro rfl;simp at cc),(gk _).symm⟩;have lv:(vs++[p]).length=vs.length+1:=by rw[aj];rfl
  rw[lv] at eu lu ll zl cc;have gp:(c0::ts)[vs.length]? = some p:=by
   have e1:(vs++[p])[vs.length]? = some p:=by rw[az (af _),a9];rfl
   rw[eu,dJ,if_pos ()] at e1;exact e1
  have ev:vs=(c0::ts).take vs.length:=by
   have e1:(vs++[p]).take vs.length=vs:=eY;rw[eu,List.take_take,dF ()] at e1;exact e1.symm
  have mp:=aL gp;have zp:Pc.Pz 20000 20000 p.1 p.2/\(1<=vs.length->Pc.Pz n b p.1 p.2):=by
   refine⟨?_,λh1=>?_⟩
   ·have h39:=(hs 0 ()).1;rcases au.mp mp with y|y
    ·rw[y];exact z0
    ·exact (zt _ y).mono (by have:(tS n b 0).1=n:=rfl;lia) (by have:(tS n b 0).2=b:=rfl;lia)
   ·refine zt p ?_;obtain⟨i,hi⟩:∃ i,vs.length=i+1:=⟨vs.length-1,()⟩;rw[hi,cE] at gp;exact aL gp
  obtain⟨p3,p7⟩:=hl p mp;have lgl:(c0::ts)[vs.length+1]? = some ((c0::ts).getD (vs.length+1) ([],1)):=by
   rw[ac,aq ()];rfl
  obtain⟨q3,q7⟩:=hl _ (aL lgl);rw[← ll] at q3 q7;obtain⟨h39,h20⟩:=hs found.length ();have lp:p.1.length=((c0::ts).getD vs.length ([],1)).1.length:=by rw[sV gp]
  rw[show vs++[p]++[l]=vs++[p,l] by simp];obtain⟨m,c,hm,hc,zp',hmc⟩:∃ m c:Nat,m<=30000/\c<=30000/\Pc.Pz m c p.1 p.2/\(1<=vs.length->m=n/\c=b):=by
   by_cases hv:1<=vs.length
   ·exact⟨n,b,by have:=(xy (n:=n) (b:=b) found.length).1;lia,by have:=(xy (n:=n) (b:=b) found.length).2;lia,zp.2 hv,λ_=>⟨rfl,rfl⟩⟩
   ·exact⟨20000,20000,by decide,by decide,zp.1,λh=>absurd h hv⟩
  refine Cj (dl:=l.1.length-1) (dp:=p.1.length-1) (zl ()) () () () zp' () () () h39 h20 hm hc () () λd p' o3 o4 fd ld nd zp2 lp'=>⟨⟨vs,found++[d],p',o3,o4,rfl,ev,by rw[aj];show vs.length+1+(found.length+1)=_;lia,by rw[lp',← lp];lia,zp2.fm,λh1=>?_,λj e hj=>?_⟩,?_⟩
  ·obtain⟨rfl,rfl⟩:=hmc h1;rw[aj];refine zp2.mono ?_ ?_
   ·show _<=m+(2*(tS m c found.length).1+4*(tS m c found.length).2+10)*7+1;have:(2*(tS m c found.length).1+4*(tS m c found.length).2+10)*(p.1.length-1+1)<=(2*(tS m c found.length).1+4*(tS m c found.length).2+10)*7:=ae _ ();lia
   ·show _<=c+(2*(tS m c found.length).2*7+1);have:2*(tS m c found.length).2*(p.1.length-1+1)<=2*(tS m c found.length).2*7:=ae _ ();lia
  ·rcases aw j found.length with y|y
   ·rw[aN y] at hj;exact hf j e hj
   ·have ej:j=found.length:=by
     have:=(ak.mp hj).1;rw[aj] at this;simp at this;lia
    subst ej;rw[az (af _),a9] at hj;cases hj;refine⟨fd,nd,?_⟩;rw[ld,show ts.length-found.length=vs.length+1 by lia,← ll];lia
  ·show ((vs++[p']).map pq).length<((vs++[p,l]).map pq).length;simp
 ·rw[eL] at cc;have u0:us=[]:=bT.mp ();subst u0;have lu:0+1+found.length=(c0::ts).length:=lu;show itD (([]++[l]:List Pl).map pq) ((0:Nat):Int) (λd=>(found.map pq).length<sizeLine/\kh.run (sH Q) [.val (cD (c0::ts)),.own (found.map pq++[d]),.own (([]++[l]:List Pl).map pq),o3,o4]);refine sO (n:=0) (d:=pq l) rfl ⟨(congrArg (· < sizeLine) (aa _)).mpr (by rw[sizeLine_eq];lia),⟨_,rfl,?_⟩⟩;have e1:found.map pq++[pq l]=(found++[l]).map pq:=by rw[aM];rfl
  show Q (.tup (found.map pq++[pq l]).reverse);rw[e1,← fB];have lfl:(found++[l]).length=found.length+1:=by rw[aj];rfl
  have key:∀ i (d:Pl),(found++[l]).reverse[i]? = some d->Po.Fm d.1 d.2/\(1<=i->EZ d)/\d.1.length=((c0::ts).getD i ([],1)).1.length:=λi d hd=>by
   have hi:=(ak.mp hd).1;rw[a5,lfl] at hi;rw[bE (by rw[lfl];exact hi),lfl] at hd;rcases bX i with y|y
   ·subst y;rw[bA,aH,az (af _),a9] at hd;cases hd;exact⟨fl,λh=>absurd h (by decide),ll⟩
   ·rw[aN ()] at hd;obtain⟨a1,a2,a3⟩:=hf _ d hd;refine⟨a1,λ_=>a2,?_⟩;rw[a3];congr 3;lia
  refine q _ ⟨(found++[l]).reverse,rfl,by rw[a5,lfl];lia,λi=>?_,⟨λc hc=>?_,λi c hc hi=>(key i c hc).2.1 hi⟩⟩
  ·rcases aw i (found.length+1) with y|y
   ·have e2:(found++[l]).reverse[i]? = some ((found++[l]).reverse[i]'(by rw[a5,lfl];exact y)):=aq _;rw[sV e2];exact (key i _ e2).2.2
   ·rw[sk (by rw[a5,lfl];exact y),sk ()]
  ·obtain⟨i,hi⟩:=bz.mp hc;exact (key i c hi).1
class MoOk (mo:Int):Prop where
 h:1<=mo/\Lt2 3 mo
variable{mo:Int}[MoOk mo]
theorem wJ(h0:0<=i)(h1:i<(l.length:Int))(h:∀ d∈l,Q d):itD l i Q:=by
 obtain⟨n,rfl⟩:=cI h0;have hn:n<l.length:=by lia
 exact sO (aq hn) (h _ (fI hn))
theorem Dq(fP:Po.Fm P B)(lP:P.length=d+1)(fR:Po.Fm R C)(h:∀ j,R.getD j 0*B^k=Pc.cp (Cv.fn P) k j*C):R.length=k*d+1:=by
 have hg:∀ j,d<j->Cv.fn P j=0:=λj hj=>Cv.sx ();have Bk:B^k≠0:=bu (am fP.pos);have tp:=s9 fP lP;have up:R.length<=k*d+1:=Pc.sJ fR (bw fP.pos:0<B^k) h λj hj=>Pc.wj (m:=d+1) (λk hk=>hg k ()) k j (by show k*d+1<=j;exact hj);rcases aw (k*d) R.length with c|c
 ·lia
 ·exfalso;have e:=h (k*d);rw[sk c,ax,Pc.xa hg] at e;exact bh (bu (show Cv.fn P d≠0 from tp)) (am fR.pos) e.symm
theorem Hz(fP:Po.Fm P B)(lP:P.length=a+1)(fQ:Po.Fm Q C)(lQ:Q.length=b+1)(fR:Po.Fm R E)(h:∀ k,R.getD k 0*(B*C)=Cv.cv (Cv.fn P) (Cv.fn Q) k*E):R.length=a+b+1:=by
 have hP:∀ j,a<j->Cv.fn P j=0:=λj hj=>Cv.sx ();have hQ:∀ j,b<j->Cv.fn Q j=0:=λj hj=>Cv.sx ();have p:=ay fP.pos fQ.pos;have up:R.length<=a+b+1:=Pc.sJ fR p h λj hj=>Cv.tD (a:=a+1) (b:=b+1) (λj h=>hP j h) (λj h=>hQ j h) ();rcases aw (a+b) R.length with c|c
 ·lia
 ·exfalso;have e:=h (a+b);rw[sk c,ax,Pc.yA hP hQ] at e;exact bh (bh (show Cv.fn P a≠0 from s9 fP lP) (show Cv.fn Q b≠0 from s9 fQ lQ)) (am fR.pos) e.symm
theorem cX(hm:m<=6)(q:∀ R C,Pc.Pz 61 7 R C->R.length=m+1->Q (pD R C)):[pD Pc.X 1,.int (m:Int)].length=iH.n/\iH.run [pD Pc.X 1,.int (m:Int)] Q:=by
 refine⟨rfl,(Pc.X,1,m,1,1),⟨rfl,Pc.EX,by show m*2<=400;lia,by show m<=400;lia,by decide,by show 1*m+1+1<=9000000;lia,by show (1+9)*m+1+1<=9000000;lia⟩,?_⟩;rintro _ ⟨R,C,rfl,hR,zR,_⟩;have lR:=Dq (d:=1) Pc.EX.fm rfl zR.fm hR;exact q R C (zR.mono (by show (1+9)*m+1<=61;lia) (by show 1*m+1<=7;lia)) (by rw[lR,dQ])
theorem cH(z:Pc.Pz 3 3 P B)(lP:P.length=d+1)(hk:k<=5)(hd:d<=5)(q:∀ R C,Pc.Pz 61 16 R C->R.length=k*d+1->Q (pD R C)):[pD P B,.int (k:Int)].length=iH.n/\iH.run [pD P B,.int (k:Int)] Q:=by
 have kl:k*P.length<=5*6:=aW hk ();refine⟨rfl,(P,B,k,3,3),⟨rfl,z,by show k*P.length<=400;lia,by show k<=400;lia,by show P.length<=400;lia,by show 3*k+1+3<=9000000;lia,by show (3+9)*k+1+3<=9000000;lia⟩,?_⟩;rintro _ ⟨R,C,rfl,hR,zR,_⟩;have lR:=Dq z.fm lP zR.fm hR;exact q R C (zR.mono (by show (3+9)*k+1<=61;lia) (by show 3*k+1<=16;lia)) lR
theorem cT(z:Pc.Pz n b P B)(z':Pc.Pz m c P' B')(l:P.length=x+1)(l':P'.length=y+1)(hx:x<=10)(hy:y<=10)(h1:b+c<=300)(h2:n+m<=390)(q:∀ R C,Pc.Pz 400 300 R C->R.length=x+y+1->Q (pD R C)):[pD P B,pD P' B'].length=iz.n/\iz.run [pD P B,pD P' B'] Q:=by
 refine⟨rfl,(P,B,P',B',n,b,m,c),⟨rfl,z,z',by show b+c<=9000000;lia,by show n+m<=9000000;lia,by show P.length<=450;lia,by show P'.length<=450;lia⟩,?_⟩;rintro _ ⟨R,C,rfl,fR,hR⟩;refine q R C (Pc.Pz.of fR (ay z.fm.pos z'.fm.pos) hR (λk=>?_) ((z.bot.mul z'.bot).mono ())) (Hz z.fm l z'.fm l' fR hR);rcases aw k 31 with y|y
 ·exact (Cv.BN (b:=5) z.tops z'.tops ()).mono ()
 ·rw[Cv.tD (a:=x+1) (b:=11) (λj h=>Cv.sx ()) (λj h=>Cv.sx ()) ()];exact uw _
def E8(P:List Int)(B:Int):Prop:=Pc.Pz 12 6 P B/\P.length=2/\P.getD 1 0≠0
theorem cA(z:Pc.Pz n b A α)(lA:A.length=d+1)(d2:2<=d)(d6:d<=6)(h1:n<=3000)(h2:b<=3000)(s1:E8 L1 B1)(s2:E8 L2 B2)(q:∀ R C,Pc.Pz 20000 20000 R C->R.length=d+1->Q (pD R C)):[pD A α,pD L2 B2].length=iu.n/\iu.run [pD A α,pD L2 B2] λe=>[pD L1 B1,e].length=iu.n/\iu.run [pD L1 B1,e] Q:=by
 obtain⟨z1,l1,n1⟩:=s1;obtain⟨z2,l2,n2⟩:=s2;refine⟨rfl,(A,α,L2,B2,n,b,12,6),⟨rfl,z,z2,by show b+b+6*A.length<=8900000;lia,by show n+(12+6+10)*(A.length+1)<=4000000;lia,by show A.length*L2.length<=190;rw[l2];lia,by show A.length<=190;lia,by show L2.length<=190;lia⟩,?_⟩;rintro _ ⟨S,D1,rfl,o⟩;have o:Pc.Of A α L2 B2 S D1:=o;obtain⟨lS,_⟩:=t7 z.fm z2.fm l2 n2 () o;have zS:=(o.size z z2 (by rw[l2];lia)).mono (n':=n+220) (b':=b+60) () ();refine⟨rfl,(L1,B1,S,D1,12,6,n+220,b+60),⟨rfl,z1,zS,by show 6+6+(b+60)*L1.length<=8900000;rw[l1];lia,by show 12+(n+220+(b+60)+10)*(L1.length+1)<=4000000;rw[l1];lia,by show L1.length*S.length<=190;rw[l1];lia,by show L1.length<=190;lia,by show S.length<=190;lia⟩,?_⟩;rintro _ ⟨R,C,rfl,o'⟩;have o':Pc.Of L1 B1 S D1 R C:=o';obtain⟨lR,_⟩:=vd l1 n1 z1.fm zS.fm () o';have zR:=o'.size z1 zS (by rw[l1];lia);rw[l1] at zR;exact q R C (zR.mono () ()) (by rw[lR,lS,lA])
theorem cB(z:Pc.Pz n b A α)(lA:A.length=d+1)(d2:2<=d)(d6:d<=6)(h1:n<=400)(h2:b<=300)(s2:E8 L2 B2)(s3:E8 L3 B3)(q:∀ R C,Pc.Pz 2000 800 R C->R.length=d+1->Q (pD R C)):[pD L2 B2].length=iM.n/\iM.run [pD L2 B2] λe0=>[pD A α,pD L3 B3].length=iu.n/\iu.run [pD A α,pD L3 B3] λe=>[e0,e].length=iu.n/\iu.run [e0,e] Q:=by
 obtain⟨z1,l1,n1⟩:=s2;obtain⟨z2,l2,n2⟩:=s3;refine⟨rfl,(L2,B2,12,6),⟨rfl,z1,l1,n1,by decide,by decide⟩,?_⟩;rintro _ ⟨T,τ,rfl,zT,lT,t1,t0⟩;have zT:Pc.Pz 19 12 T τ:=zT;have lT:T.length<=2:=lT;have t1:Qp.q T τ 1=1 / Qp.q L2 B2 1:=t1;have q1:Qp.q L2 B2 1≠0:=by
  have:=Qp.uF z1.fm (by intro e;rw[e] at l1;simp at l1);rw[l1] at this;exact this
 obtain⟨lT,nT⟩:=Aj (by rw[t1];exact Ay q1) lT;refine⟨rfl,(A,α,L3,B3,n,b,12,6),⟨rfl,z,z2,by show b+b+6*A.length<=8900000;lia,by show n+(12+6+10)*(A.length+1)<=4000000;lia,by show A.length*L3.length<=190;rw[l2];lia,by show A.length<=190;lia,by show L3.length<=190;lia⟩,?_⟩;rintro _ ⟨S,D1,rfl,o⟩;have o:Pc.Of A α L3 B3 S D1:=o;obtain⟨lS,_⟩:=t7 z.fm z2.fm l2 n2 () o;have zS:=(o.size z z2 (by rw[l2];lia)).mono (n':=n+220) (b':=b+60) () ();refine⟨rfl,(T,τ,S,D1,19,12,n+220,b+60),⟨rfl,zT,zS,by show 12+12+(b+60)*T.length<=8900000;rw[lT];lia,by show 19+(n+220+(b+60)+10)*(T.length+1)<=4000000;rw[lT];lia,by show T.length*S.length<=190;rw[lT];lia,by show T.length<=190;lia,by show S.length<=190;lia⟩,?_⟩;rintro _ ⟨R,C,rfl,o'⟩;have o':Pc.Of T τ S D1 R C:=o';obtain⟨lR,_⟩:=vd lT nT zT.fm zS.fm () o';have zR:=o'.size zT zS (by rw[lT];lia);rw[lT] at zR;exact q R C (zR.mono () ()) (by rw[lR,lS,lA])
theorem c3(h:∀(i:Nat) (d:D),(uB 0 3)[i]? = some d->g.run d s0 λs1=>e.run s1 λy=>∃ P B,y=pD P B/\E8 P B)(q:∀ P1 B1 P2 B2 P3 B3,E8 P1 B1->E8 P2 B2->E8 P3 B3->Q (.lst [pD P1 B1,pD P2 B2,pD P3 B3])):compD (uB 0 3) s0 g jh e Q:=by
 refine vh (λ_ y=>∃ P B,y=pD P B/\E8 P B) (by rw[sE];decide) h λys ly hy=>?_;rw[sE] at ly;match ys,ly,hy with
 | [y1,y2,y3],_,hy =>
  obtain⟨P1,B1,rfl,s1⟩:=hy 0 y1 rfl;obtain⟨P2,B2,rfl,s2⟩:=hy 1 y2 rfl;obtain⟨P3,B3,rfl,s3⟩:=hy 2 y3 rfl;exact q _ _ _ _ _ _ s1 s2 s3
theorem Lj(q:∀ P B,E8 P B->Q (pD P B)):[D.fl,.int mo].length=iy.n/\iy.run [.fl,.int mo] Q:=by
 refine⟨rfl,(mo,3),⟨rfl,(MoOk.h (mo:=mo)).1,(MoOk.h (mo:=mo)).2,by decide,by decide⟩,?_⟩;rintro _ ⟨P,B,rfl,z,l,n⟩;exact q P B ⟨z,l,n⟩
def kS:SpB:=.of 2 (α:=Int) (λmo ds=>ds=[.fl,.int mo]/\1<=mo/\Lt2 3 mo) (λ_ d=>∃ A α B β,∃ m k:Nat,∃ w:D,d = .tup [pD A α,pD B β,w]/\Pc.Pz 20000 20000 A α/\Pc.Pz 2000 800 B β/\A.length=m+1/\B.length=k+1/\2<=m/\m<=6/\2<=k/\k<=6/\m*k<=12)
def ki:TSd:=(iE [] (iA (ii (io iu (ii (ij 12) (ii (io iu (ii (ij 5) (ii (ij 13) il))) il))) (ii (io iu (ii (io iM (ii (ij 13) il)) (ii (io iu (ii (ij 6) (ii (ij 14) il))) il))) (ii (ij 4) il)))))
def jA:TSd:=dSq (ir [] (gTl [12,13,14]) (iW (jL (iκ 3)) [11] (gNm 11) jh (io iy (ii (ij 0) (ii (ij 1) il)))))
 ki
def og:TSd:=dSq (dIf [] (iL (iR .Eq (ij 4) (iκ 0)))
 (dSq (ir [] (gNm 7) (io iK (ii (ij 0) (ii (io iq (ii (ij 0) (ii (ip .Add (ip .FloorDiv (ij 2) (ij 3)) (iκ 1)) il))) (ii (ij 1) il)))))
 (dSq (ir [] (gNm 8) (ip .Sub (ij 2) (ip .Mult (ij 3) (ip .Sub (dB bLen bLen.mono (ii (dIx (ij 7) (iκ 0)) il)) (iκ 1)))))
 (ir [] (gNm 5) (io iz (ii (io iH (ii (iA (ii (iA (ii (iκ 0) (ii (iκ 1) il))) (ii (iκ 1) il))) (ii (ij 8) il))) (ii (io iH (ii (ij 7) (ii (ij 3) il))) il))))))
 (dIf [] (iL (iR .Eq (ij 4) (iκ 1)))
 (dSq (ir [] (gNm 7) (io iK (ii (ij 0) (ii (io iq (ii (ij 0) (ii (ip .Add (ip .FloorDiv (ij 3) (ij 2)) (iκ 1)) il))) (ii (ij 1) il)))))
 (dSq (ir [] (gNm 8) (ip .Sub (ij 3) (ip .Mult (ij 2) (ip .Sub (dB bLen bLen.mono (ii (dIx (ij 7) (iκ 0)) il)) (iκ 1)))))
 (ir [] (gNm 6) (io iz (ii (io iH (ii (iA (ii (iA (ii (iκ 0) (ii (iκ 1) il))) (ii (iκ 1) il))) (ii (ij 8) il))) (ii (io iu (ii (ij 7) (ii (ij 5) il))) il))))))
 (dSq (ir [] (gNm 9) (io iG (ii (ij 0) (ii (ij 1) il))))
 (dSq (ir [] (gNm 9) (dIx (iN (ii (ij 9) (ii (iA (ii (iκ 1) (ii (iκ 1) il))) il))) (dB bInt bInt.mono (ii (iR .Eq (dIx (ij 9) (iκ 0)) (iκ 0)) il))))
 (dSq (ir [] (gNm 10) (iA (ii (iκ 1) (ii (iκ 1) il))))
 (dSq (iX [] (jL (ij 3)) (gNm 11)
 (ir [] (gNm 10) (io iP (ii (ij 10) (ii (ij 9) il)))))
 (kT [] 5 6 (io iC (ii (ij 2) (ii (ij 10) il))) (io iC (ii (ij 3) (ii (ij 9) il))))))))))
 jA
def oh:TSd:=dSq (kT [] 5 6 (io iH (ii (iA (ii (iA (ii (iκ 0) (ii (iκ 1) il))) (ii (iκ 1) il))) (ii (ij 2) il))) (io iH (ii (iA (ii (iA (ii (iκ 0) (ii (iκ 1) il))) (ii (iκ 1) il))) (ii (ij 3) il))))
 og
def jB:TSd:=dSq (ir [] (gNm 4) (io iq (ii (ij 0) (ii (iκ 3) il))))
 oh
def pL:TSd:=dSq (ir [] (gTp [2,3]) (dIx (iN (ii (iA (ii (iκ 3) (ii (iκ 2) il))) (ii (iA (ii (iκ 2) (ii (iκ 3) il))) (ii (iA (ii (iκ 5) (ii (iκ 2) il))) (ii (iA (ii (iκ 2) (ii (iκ 5) il))) (ii (iA (ii (iκ 4) (ii (iκ 3) il))) (ii (iA (ii (iκ 3) (ii (iκ 4) il))) il))))))) (io iq (ii (ij 0) (ii (iκ 6) il)))))
 jB
theorem DM(zA:Pc.Pz 400 300 A α)(zB:Pc.Pz 400 300 Bq β)(lA:A.length=m+1)(lB:Bq.length=k+1)(m2:2<=m)(m6:m<=6)(k2:2<=k)(k6:k<=6)
  (q:∀ R C S D,Pc.Pz 20000 20000 R C->Pc.Pz 2000 800 S D->R.length=m+1->S.length=k+1->Q (.tup [pD R C,pD S D,w])) :
  jA.run (sH Q) [.val .fl,.vi mo,.vi m,.vi k,.val w,.val (pD A α),.val (pD Bq β),o7,o8,o9,o10,o11,.no,.no,.no]:=by
 have key:compD (uB 0 3) (uy [11] [.val .fl,.vi mo,.vi m,.vi k,.val w,.val (pD A α),.val (pD Bq β),o7,o8,o9,o10,o11,.no,.no,.no]) (gNm 11) jh (io iy (ii (ij 0) (ii (ij 1) il))) λd=>(gTl [12,13,14]).run d [.val .fl,.vi mo,.vi m,.vi k,.val w,.val (pD A α),.val (pD Bq β),o7,o8,o9,o10,o11,.no,.no,.no] (ki.run (sH Q)):=by
  refine c3 (λi d hd=>Lj λP B s=>⟨P,B,rfl,s⟩) λP1 B1 P2 B2 P3 B3 s1 s2 s3=>⟨rfl,?_⟩;refine cA zA lA m2 m6 (by decide) (by decide) s1 s2 λR C zR lR=>?_;exact cB zB lB k2 k6 (by decide) (by decide) s2 s3 λS D zS lS=>⟨tP (n:=3) (by decide),q R C S D zR zS lR lS⟩
 exact⟨by decide,by decide,key⟩
theorem MP(q:∀ d r,FqD 3 3 d r->Q d):[D.fl,.int mo].length=iG.n/\iG.run [.fl,.int mo] Q:=by
 refine⟨rfl,(mo,3),⟨rfl,(MoOk.h (mo:=mo)).1,(MoOk.h (mo:=mo)).2,by decide,by decide⟩,?_⟩;rintro d ⟨r,f⟩;exact q d r f
theorem Mp{d1 d2:D}{r1 r2:Rat}{i M:Nat}(f1:FqD (1+M*i) (1+M*i) d1 r1)(f2:FqD M M d2 r2)(hi:i<=20)(hM:M<=40){Q:D->Prop}(q:∀ d r,FqD (1+M*(i+1)) (1+M*(i+1)) d r->Q d):[d1,d2].length=iP.n/\iP.run [d1,d2] Q:=by
 have h:M*i<=40*20:=aW hM hi;refine⟨rfl,(d1,d2,r1,r2,1+M*i,1+M*i,M,M),⟨rfl,f1,f2,by show 1+M*i+M<=9000000;lia,by show 1+M*i+M<=9000000;lia⟩,?_⟩;intro d f;have f:FqD (1+M*i+M) (1+M*i+M) d (r1*r2):=f;exact q d _ (by rw[bI,← dc];exact f)
theorem Lg(hn:1<=n)(hb:1<=b):FqD n b (fD 1 1) 1:=by
 have:=tX (n:=1) (t:=1) (by unfold Lt2;decide);exact this.mono hn hb
theorem uU(r:Rat):∀ n,Qp.tc r (n+1) (n+1)=1/\∀ k,n+1<k->Qp.tc r (n+1) k=0
 | 0=>⟨by show (if 1=1 then (1:Rat) else 0)=1;rw[if_pos rfl],λk hk=>by show (if k=1 then (1:Rat) else 0)=0;rw[if_neg ()]⟩
 | 1=>by
  obtain⟨h1,h2⟩:=uU r 0;have z:∀ k,1<=k->Qp.tc r 0 k=0:=λk hk=>by show (if k=0 then (2:Rat) else 0)=0;rw[if_neg ()]
  refine⟨?_,λk hk=>?_⟩
  ·rw[Qp.tc.two,if_neg (),z 2 (),show 0+1+1-1=0+1 from rfl,h1];grind
  ·rw[Qp.tc.two,if_neg (),z k (),h2 (k-1) ()];grind
 | n+2=>by
  obtain⟨h1,h2⟩:=uU r (n+1);obtain⟨h3,h4⟩:=uU r n;refine⟨?_,λk hk=>?_⟩
  ·rw[Qp.tc.two,if_neg (),h4 (n+2+1) (),show n+2+1-1=n+1+1 from rfl,h1];grind
  ·rw[Qp.tc.two,if_neg (),h4 k (),h2 (k-1) ()];grind
theorem FY(f:Po.Fm R C)(h:Qp.q R C N≠0)(h0:∀ j,N<j->Qp.q R C j=0):R.length=N+1:=by
 rcases aw N R.length with c|c
 ·rcases aw (N+1) R.length with c'|c'
  ·exact absurd (h0 (R.length-1) ()) (Qp.uF f (by rintro rfl;simp at c))
  ·lia
 ·exact absurd (Qp.ux c) h
theorem Tk.len45(h:Tk r n P B)(n1:1<=n):P.length=n+1:=by
 obtain⟨j,rfl⟩:∃ j,n=j+1:=⟨n-1,()⟩;obtain⟨h1,h2⟩:=uU r j;exact FY h.1 (by rw[h.2,h1];decide) λk hk=>by rw[h.2,h2 k hk]
theorem Li(f:FqD M M d r)(hM:M<=19)(n2:2<=n)(n6:n<=6)(q:∀ P B,Pc.Pz 400 300 P B->P.length=n+1->Q (pD P B)):[.int (n:Int),d].length=iC.n/\iC.run [.int (n:Int),d] Q:=by
 refine⟨rfl,(n,d,r,M),⟨rfl,f,by show M<=21;lia,by show 1<=n;lia,by show n<=12;lia⟩,?_⟩;rintro _ ⟨P,B,rfl,t⟩;have t:Tk r n P B:=t;obtain⟨z,_⟩:=t.pz f;have h1:(2*M+1)*n<=39*6:=aW () n6;have h2:M*n<=19*6:=aW hM n6;exact q P B (z.mono () ()) (t.len45 ())
theorem KL{m k:Nat}(k1:1<=k):((m:Int)).fdiv (k:Int)=((m / k:Nat):Int):=by
 rw[cQ _ ()];exact (Int.natCast_ediv _ _).symm
theorem KR(m5:m<=5)(k2:2<=k)(k5:k<=5)(q:∀ P B,∀ d:Nat,Pc.Pz 3 3 P B->P.length=d+1->d*k<=m->d<=5->Q (pD P B)):uA (m:Int) (k:Int)/\[D.fl,.int ((m:Int).fdiv (k:Int)+1)].length=iq.n/\iq.run [D.fl,.int ((m:Int).fdiv (k:Int)+1)] λe=>[.fl,e,.int mo].length=iK.n/\iK.run [.fl,e,.int mo] Q:=by
 have lk:Lt2 4 ((k:Nat):Int):=by unfold Lt2;lia
 have em:=KL (m:=m) (k:=k) ();have le:m / k<=m:=dG _ _;have mul:m / k*k<=m:=Nat.div_mul_le_self m k;rw[em];generalize m / k=z at *;refine⟨⟨(),4,lk,by decide⟩,rfl,((z:Int)+1),⟨rfl,(),yZ ()⟩,?_⟩;rintro _ ⟨dd,rfl,d0,d1⟩;obtain⟨d,rfl⟩:=cI d0;have dk:d*k<=m:=aE (aV k (show d<=z by lia)) mul;refine⟨rfl,(d,mo,3),⟨rfl,by show d<=100;lia,(MoOk.h (mo:=mo)).1,(MoOk.h (mo:=mo)).2,by decide⟩,?_⟩;rintro _ ⟨P,B,rfl,zP,lP⟩;exact q P B d zP lP dk ()
theorem MO{m k d:Nat}{P:List Int}(k5:k<=5)(lP:P.length=d+1)(dk:d*k<=m)(d5:d<=5):CMulB (k:Int) ((((P.map D.int).length:Nat):Int)-1)/\(m:Int)-(k:Int)*((((P.map D.int).length:Nat):Int)-1)=((m-d*k:Nat):Int):=by
 have lk:Lt2 4 ((k:Nat):Int):=by unfold Lt2;lia
 rw[aa,lP];refine⟨⟨4,4,lk,by unfold Lt2;lia,by decide⟩,?_⟩;have:(k:Int)*(((d+1:Nat):Int)-1)=((d*k:Nat):Int):=by
  rw[show ((d+1:Nat):Int)-1=(d:Int) by lia];push_cast;exact bo _ _
 rw[this];lia
def pM:TSd:=(ir [] (gNm 5) (io iz (ii (io iH (ii (iA (ii (iA (ii (iκ 0) (ii (iκ 1) il))) (ii (iκ 1) il))) (ii (ij 8) il))) (ii (io iH (ii (ij 7) (ii (ij 3) il))) il))))
def rQ:TSd:=dSq (ir [] (gNm 8) (ip .Sub (ij 2) (ip .Mult (ij 3) (ip .Sub (dB bLen bLen.mono (ii (dIx (ij 7) (iκ 0)) il)) (iκ 1)))))
 pM
def sd:TSd:=dSq (ir [] (gNm 7) (io iK (ii (ij 0) (ii (io iq (ii (ij 0) (ii (ip .Add (ip .FloorDiv (ij 2) (ij 3)) (iκ 1)) il))) (ii (ij 1) il)))))
 rQ
def pN:TSd:=(ir [] (gNm 6) (io iz (ii (io iH (ii (iA (ii (iA (ii (iκ 0) (ii (iκ 1) il))) (ii (iκ 1) il))) (ii (ij 8) il))) (ii (io iu (ii (ij 7) (ii (ij 5) il))) il))))
def rR:TSd:=dSq (ir [] (gNm 8) (ip .Sub (ij 3) (ip .Mult (ij 2) (ip .Sub (dB bLen bLen.mono (ii (dIx (ij 7) (iκ 0)) il)) (iκ 1)))))
 pN
def sf:TSd:=dSq (ir [] (gNm 7) (io iK (ii (ij 0) (ii (io iq (ii (ij 0) (ii (ip .Add (ip .FloorDiv (ij 3) (ij 2)) (iκ 1)) il))) (ii (ij 1) il)))))
 rR
def rS:TSd:=(kT [] 5 6 (io iC (ii (ij 2) (ii (ij 10) il))) (io iC (ii (ij 3) (ii (ij 9) il))))
def rT:TSd:=dSq (iX [] (jL (ij 3)) (gNm 11)
 (ir [] (gNm 10) (io iP (ii (ij 10) (ii (ij 9) il)))))
 rS
def qM:TSd:=dSq (ir [] (gNm 10) (iA (ii (iκ 1) (ii (iκ 1) il))))
 rT
def rV:TSd:=dSq (ir [] (gNm 9) (dIx (iN (ii (ij 9) (ii (iA (ii (iκ 1) (ii (iκ 1) il))) il))) (dB bInt bInt.mono (ii (iR .Eq (dIx (ij 9) (iκ 0)) (iκ 0)) il))))
 qM
def sg:TSd:=dSq (ir [] (gNm 9) (io iG (ii (ij 0) (ii (ij 1) il))))
 rV
section
variable{m k:Nat}{A0 B0:List Int}{α0 β0:Int}{w:D}{E:EndsD}
theorem L7(m5:m<=5)(k2:2<=k)(k5:k<=5)(hE:∀ A α o7 o8,Pc.Pz 400 300 A α->A.length=m+1->E.nx [.val .fl,.vi mo,.vi m,.vi k,.val w,.val (pD A α),.val (pD B0 β0),o7,o8,.no,.no,.no,.no,.no,.no]) :
  sd.run E [.val .fl,.vi mo,.vi m,.vi k,.val w,.val (pD A0 α0),.val (pD B0 β0),.no,.no,.no,.no,.no,.no,.no,.no]:=by
 refine KR m5 k2 k5 λP B d zP lP dk d5=>?_;obtain⟨c1,er⟩:=MO k5 lP dk d5;refine⟨c1,?_⟩;suffices h:pM.run E [.val .fl,.vi mo,.vi m,.vi k,.val w,.val (pD A0 α0),.val (pD B0 β0),.val (pD P B),.vi ((m-d*k:Nat):Int),.no,.no,.no,.no,.no,.no] by
  show pM.run E [.val .fl,.vi mo,.vi m,.vi k,.val w,.val (pD A0 α0),.val (pD B0 β0),.val (pD P B),.val (.int ((m:Int)-(k:Int)*((((P.map D.int).length:Nat):Int)-1))),.no,.no,.no,.no,.no,.no];rw[er];exact h
 refine⟨tz,tz,cX (m:=m-d*k) () λR C zR lR=>cH zP lP k5 d5 λS D' zS lS=>?_⟩;have kd:k*d<=5:=by rw[aU];lia
 exact cT zR zS lR lS () () (by decide) (by decide) λA α zA lA=>hE A α _ _ zA (by rw[lA,aU k d];lia)
theorem L6(m2:2<=m)(m5:m<=5)(k5:k<=5)(zA:Pc.Pz 61 7 A0 α0)(lA:A0.length=m+1)(hE:∀ A α o7 o8,Pc.Pz 400 300 A α->A.length=k+1->E.nx [.val .fl,.vi mo,.vi m,.vi k,.val w,.val (pD A0 α0),.val (pD A α),o7,o8,.no,.no,.no,.no,.no,.no]) :
  sf.run E [.val .fl,.vi mo,.vi m,.vi k,.val w,.val (pD A0 α0),.val (pD B0 β0),.no,.no,.no,.no,.no,.no,.no,.no]:=by
 refine KR k5 m2 m5 λP B d zP lP dk d5=>?_;obtain⟨c1,er⟩:=MO m5 lP dk d5;refine⟨c1,?_⟩;suffices h:pN.run E [.val .fl,.vi mo,.vi m,.vi k,.val w,.val (pD A0 α0),.val (pD B0 β0),.val (pD P B),.vi ((k-d*m:Nat):Int),.no,.no,.no,.no,.no,.no] by
  show pN.run E [.val .fl,.vi mo,.vi m,.vi k,.val w,.val (pD A0 α0),.val (pD B0 β0),.val (pD P B),.val (.int ((k:Int)-(m:Int)*((((P.map D.int).length:Nat):Int)-1))),.no,.no,.no,.no,.no,.no];rw[er];exact h
 have d2:d*2<=d*m:=ae _ m2;refine⟨tz,tz,cX (m:=k-d*m) () λR C zR lR=>?_⟩;have w3:P.length*A0.length<=3*6:=aW () ();refine⟨rfl,(P,B,A0,α0,3,3,61,7),⟨rfl,zP,zA,by show 3+3+7*P.length<=8900000;lia,by show 3+(61+7+10)*(P.length+1)<=4000000;lia,by show P.length*A0.length<=190;lia,by show P.length<=190;lia,by show A0.length<=190;lia⟩,?_⟩;rintro _ ⟨S,D1,rfl,o⟩;have o:Pc.Of P B A0 α0 S D1:=o;have lS:=o.deg_eq zP.fm.pos zA.fm.pos lP lA () (s9 zP.fm lP) (s9 zA.fm lA);have zS:=(o.size zP zA ()).mono (n':=300) (b':=100) () ();exact cT zR zS lR lS () () (by decide) (by decide) λA α zA' lA'=>hE A α _ _ zA' (by rw[lA'];lia)
theorem L5(m2:2<=m)(m5:m<=5)(k2:2<=k)(k5:k<=5)(hE:∀ A α Bq β o9 o10 o11,Pc.Pz 400 300 A α->A.length=m+1->Pc.Pz 400 300 Bq β->Bq.length=k+1->E.nx [.val .fl,.vi mo,.vi m,.vi k,.val w,.val (pD A α),.val (pD Bq β),.no,.no,o9,o10,o11,.no,.no,.no]) :
  sg.run E [.val .fl,.vi mo,.vi m,.vi k,.val w,.val (pD A0 α0),.val (pD B0 β0),.no,.no,.no,.no,.no,.no,.no,.no]:=by
 refine MP λd r f=>?_;have fin:∀(d:D) (r:Rat),FqD 3 3 d r->qM.run E [.val .fl,.vi mo,.vi m,.vi k,.val w,.val (pD A0 α0),.val (pD B0 β0),.no,.no,.val d,.no,.no,.no,.no,.no]:=λd r f=>by
  refine⟨tz,(),(),λi st=>∃(x:D) (r':Rat) (o11:SD),st=[.val .fl,.vi mo,.vi m,.vi k,.val w,.val (pD A0 α0),.val (pD B0 β0),.no,.no,.val d,.val x,o11,.no,.no,.no]/\FqD (1+3*i) (1+3*i) x r',⟨fD 1 1,1,_,rfl,Lg () ()⟩,?_,?_⟩
  ·rintro i e _ hd ⟨x,r',o11,rfl,fx⟩;obtain⟨hi,rfl⟩:=sP hd;exact Mp fx f () (by decide) λx2 r2 f2=>⟨x2,r2,_,rfl,f2⟩
  ·rintro _ ⟨x,r',o11,rfl,fx⟩;rw[sE,aJ] at fx;exact Li fx () m2 () λA α zA lA=>Li f (by decide) k2 () λBq β zB lB=>hE A α Bq β _ _ _ zA lA zB lB
 obtain⟨t,u,rfl,u0,g,lt,lu,rfl⟩:=id f;refine⟨tz,tz,Ao (p:=t=0) (λc=>fin _ 1 (Lg (by decide) (by decide))) (λc=>fin _ _ f)⟩
end
theorem FF(m2:2<=m)(m5:m<=5)(k2:2<=k)(k5:k<=5)(q:∀ R C S D w,Pc.Pz 20000 20000 R C->Pc.Pz 2000 800 S D->R.length=m+1->S.length=k+1->Q (.tup [pD R C,pD S D,w])) :
  jB.run (sH Q) [.val .fl,.vi mo,.vi m,.vi k,.no,.no,.no,.no,.no,.no,.no,.no,.no,.no,.no]:=by
 refine⟨rfl,3,⟨rfl,by decide,yZ (by decide)⟩,?_⟩;rintro _ ⟨w,rfl,w0,w1⟩;refine⟨tz,tz,cX (m:=m) () λA α zA lA=>⟨tz,tz,cX (m:=k) () λBq β zB lB=>?_⟩⟩;have fin:∀{A Bq:List Int} {α β:Int} {o7 o8 o9 o10 o11:SD},Pc.Pz 400 300 A α->Pc.Pz 400 300 Bq β->A.length=m+1->Bq.length=k+1->jA.run (sH Q) [.val .fl,.vi mo,.vi m,.vi k,.vi w,.val (pD A α),.val (pD Bq β),o7,o8,o9,o10,o11,.no,.no,.no]:=λzA zB lA lB=>DM zA zB lA lB m2 () k2 () λR C S D zR zS lR lS=>q R C S D _ zR zS lR lS;have zA4:=zA.mono (n':=400) (b':=300) (by decide) (by decide);have zB4:=zB.mono (n':=400) (b':=300) (by decide) (by decide);refine v8 (p:=w=0) (λc=>?_) (λc=>v8 (p:=w=1) (λc=>?_) (λc=>?_))
 ·exact L7 m5 k2 k5 λA' α' o7 o8 zA' lA'=>fin zA' zB4 lA' lB
 ·exact L6 m2 m5 k5 zA lA λA' α' o7 o8 zA' lA'=>fin zA4 zA' lA lA'
 ·exact L5 m2 m5 k2 k5 λA' α' B' β' o9 o10 o11 zA' lA' zB' lB'=>fin zA' zB' lA' lB'
set_option maxHeartbeats 2000000 in
theorem nE:Does 15 pL kS:=by
 rintro ds Q hn ⟨mo,⟨rfl,o1,o2⟩,q⟩;haveI:MoOk mo:=⟨o1,o2⟩;have go:∀ m k:Nat,2<=m->m<=5->2<=k->k<=5->m*k<=12->jB.run (sH Q) [.val .fl,.vi mo,.vi m,.vi k,.no,.no,.no,.no,.no,.no,.no,.no,.no,.no,.no]:=λm k m2 m5 k2 k5 mk=>FF m2 m5 k2 k5 λR C S D w zR zS lR lS=>q _ ⟨R,C,S,D,m,k,w,rfl,zR,zS,lR,lS,m2,(),k2,(),mk⟩;refine⟨tz,tz,tz,tz,tz,tz,tP (n:=6) (by decide),rfl,6,⟨rfl,by decide,yZ (by decide)⟩,?_⟩;rintro _ ⟨j,rfl,j0,j1⟩;refine wJ j0 (by exact j1) λd hd=>?_;simp only[au,aX,or_false] at hd;rcases hd with rfl|rfl|rfl|rfl|rfl|rfl
 ·exact⟨rfl,go 3 2 (by decide) (by decide) (by decide) (by decide) (by decide)⟩
 ·exact⟨rfl,go 2 3 (by decide) (by decide) (by decide) (by decide) (by decide)⟩
 ·exact⟨rfl,go 5 2 (by decide) (by decide) (by decide) (by decide) (by decide)⟩
 ·exact⟨rfl,go 2 5 (by decide) (by decide) (by decide) (by decide) (by decide)⟩
 ·exact⟨rfl,go 4 3 (by decide) (by decide) (by decide) (by decide) (by decide)⟩
 ·exact⟨rfl,go 3 4 (by decide) (by decide) (by decide) (by decide) (by decide)⟩
end Dp
namespace Dp
open PySem L2 Ch
variable{mo:Int}[MoOk mo]
def jO:SpB:=.of 2 (α:=Int) (λmo ds=>ds=[.fl,.int mo]/\(mo=2\/mo=3\/mo=6)) (λ_ d=>∃ A α B β,∃ m k:Nat,d = .tup [pD A α,pD B β]/\Pc.Pz 20000 20000 A α/\Pc.Pz 2000 800 B β/\A.length=m+1/\B.length=k+1/\2<=m/\m<=6/\2<=k/\k<=6/\m*k<=12)
def mw:TSd:=(iE [] (iA (ii (ij 12) (ii (io iu (ii (io iM (ii (ij 10) il)) (ii (io iu (ii (ij 8) (ii (ij 11) il))) il))) il))))
def jD:TSd:=dSq (ir [] (gNm 12) (io iu (ii (ij 9) (ii (io iu (ii (ij 7) (ii (ij 10) il))) il))))
 mw
def jE:TSd:=dSq (ir [] (gTl [9,10,11]) (iW (jL (iκ 3)) [6] (gNm 6) jh (io iy (ii (ij 0) (ii (ij 1) il)))))
 jD
def mx:TSd:=dSq (kT [] 7 8 (io iC (ii (ij 2) (ii (ij 5) il))) (io iC (ii (ij 3) (ii (ij 4) il))))
 jE
def my:TSd:=dSq (iX [] (jL (ij 3)) (gNm 6)
 (ir [] (gNm 5) (io iP (ii (ij 5) (ii (ij 4) il)))))
 mx
def jF:TSd:=dSq (ir [] (gNm 5) (iA (ii (iκ 1) (ii (iκ 1) il))))
 my
def jf:TSd:=dSq (ir [] (gNm 4) (dIx (iN (ii (iA (ii (iκ 0) (ii (iκ 1) il))) (ii (io iG (ii (ij 0) (ii (ij 1) il))) il))) (io iq (ii (ij 0) (ii (iκ 2) il)))))
 jF
def jG:TSd:=dSq (ir [] (gNm 1) (dB bMin bMin.mono (ii (ij 1) (ii (iκ 3) il))))
 jf
def nF:TSd:=dSq (ir [] (gTp [2,3]) (dIx (iN (ii (iA (ii (iκ 4) (ii (iκ 2) il))) (ii (iA (ii (iκ 2) (ii (iκ 4) il))) (ii (iA (ii (iκ 6) (ii (iκ 2) il))) (ii (iA (ii (iκ 2) (ii (iκ 6) il))) il))))) (io iq (ii (ij 0) (ii (iκ 4) il)))))
 jG
theorem Ej(zA:Pc.Pz 400 300 A α)(zB:Pc.Pz 400 300 Bq β)(lA:A.length=m+1)(lB:Bq.length=k+1)(m2:2<=m)(m6:m<=6)(k2:2<=k)(k6:k<=6)
  (q:∀ R C S D,Pc.Pz 20000 20000 R C->Pc.Pz 2000 800 S D->R.length=m+1->S.length=k+1->Q (.tup [pD R C,pD S D])) :
  jE.run (sH Q) [.val .fl,.vi mo,.vi m,.vi k,o4,o5,o6,.val (pD A α),.val (pD Bq β),.no,.no,.no,.no]:=by
 have key:compD (uB 0 3) (uy [6] [.val .fl,.vi mo,.vi m,.vi k,o4,o5,o6,.val (pD A α),.val (pD Bq β),.no,.no,.no,.no]) (gNm 6) jh (io iy (ii (ij 0) (ii (ij 1) il))) λd=>(gTl [9,10,11]).run d [.val .fl,.vi mo,.vi m,.vi k,o4,o5,o6,.val (pD A α),.val (pD Bq β),.no,.no,.no,.no] (jD.run (sH Q)):=by
  refine c3 (λi d hd=>Lj λP B s=>⟨P,B,rfl,s⟩) λP1 B1 P2 B2 P3 B3 s1 s2 s3=>⟨rfl,?_⟩;refine cA zA lA m2 m6 (by decide) (by decide) s1 s2 λR C zR lR=>?_;exact cB zB lB k2 k6 (by decide) (by decide) s2 s3 λS D zS lS=>⟨tz,q R C S D zR zS lR lS⟩
 exact⟨by decide,by decide,key⟩
theorem Ei(m2:2<=m)(m6:m<=6)(k2:2<=k)(k6:k<=6)(q:∀ R C S D,Pc.Pz 20000 20000 R C->Pc.Pz 2000 800 S D->R.length=m+1->S.length=k+1->Q (.tup [pD R C,pD S D])) :
  jf.run (sH Q) [.val .fl,.vi mo,.vi m,.vi k,.no,.no,.no,.no,.no,.no,.no,.no,.no]:=by
 have fin:∀(d:D) (r:Rat),FqD 3 3 d r->jF.run (sH Q) [.val .fl,.vi mo,.vi m,.vi k,.val d,.no,.no,.no,.no,.no,.no,.no,.no]:=λd r f=>by
  refine⟨tz,(),(),λi st=>∃(x:D) (r':Rat) (o6:SD),st=[.val .fl,.vi mo,.vi m,.vi k,.val d,.val x,o6,.no,.no,.no,.no,.no,.no]/\FqD (1+3*i) (1+3*i) x r',⟨fD 1 1,1,_,rfl,Lg () ()⟩,?_,?_⟩
  ·rintro i e _ hd ⟨x,r',o11,rfl,fx⟩;obtain⟨hi,rfl⟩:=sP hd;exact Mp fx f () (by decide) λx2 r2 f2=>⟨x2,r2,_,rfl,f2⟩
  ·rintro _ ⟨x,r',o11,rfl,fx⟩;rw[sE,aJ] at fx;exact Li fx () m2 m6 λA α zA lA=>Li f (by decide) k2 k6 λBq β zB lB=>Ej zA zB lA lB m2 m6 k2 k6 q
 refine⟨tz,MP λd r f=>⟨tz,rfl,2,⟨rfl,by decide,yZ (by decide)⟩,?_⟩⟩;rintro _ ⟨j,rfl,j0,j1⟩;refine wJ j0 (by exact j1) λe he=>?_;simp only[au,aX,or_false] at he;rcases he with rfl|rfl
 ·exact fin _ ((0:Int):Rat) ((tX (n:=3) (t:=0) (uw _)).mono (af _) (by decide))
 ·exact fin _ r f
theorem k8:Does 13 nF jO:=by
 rintro ds Q hn ⟨mo,⟨rfl,ho⟩,q⟩;have go:∀ m k:Nat,2<=m->m<=6->2<=k->k<=6->m*k<=12->jG.run (sH Q) [.val .fl,.vi mo,.vi m,.vi k,.no,.no,.no,.no,.no,.no,.no,.no,.no]:=λm k m2 m6 k2 k6 mk=>by
  have g2:∀(mo:Int) [MoOk mo],jf.run (sH Q) [.val .fl,.vi mo,.vi m,.vi k,.no,.no,.no,.no,.no,.no,.no,.no,.no]:=λmo _=>Ei m2 m6 k2 k6 λR C S D zR zS lR lS=>q _ ⟨R,C,S,D,m,k,rfl,zR,zS,lR,lS,m2,m6,k2,k6,mk⟩;haveI o2:MoOk 2:=⟨by decide,by unfold Lt2;decide⟩;haveI o3:MoOk 3:=⟨by decide,by unfold Lt2;decide⟩;rcases ho with rfl|rfl|rfl
  ·exact g2 2
  ·exact g2 3
  ·exact g2 3
 clear ho;refine⟨tz,tz,tz,tz,tP (n:=4) (by decide),rfl,4,⟨rfl,by decide,yZ (by decide)⟩,?_⟩;rintro _ ⟨j,rfl,j0,j1⟩;refine wJ j0 (by exact j1) λd hd=>?_;simp only[au,aX,or_false] at hd;rcases hd with rfl|rfl|rfl|rfl
 ·exact⟨rfl,go 4 2 (by decide) (by decide) (by decide) (by decide) (by decide)⟩
 ·exact⟨rfl,go 2 4 (by decide) (by decide) (by decide) (by decide) (by decide)⟩
 ·exact⟨rfl,go 6 2 (by decide) (by decide) (by decide) (by decide) (by decide)⟩
 ·exact⟨rfl,go 2 6 (by decide) (by decide) (by decide) (by decide) (by decide)⟩
def Dgs(l:List Nat):Prop:=(∃ m k,l=[m,k]/\2<=m/\m<=6/\2<=k/\k<=6/\m*k<=12)\/l=[2,2,2]\/l=[2,3,2]\/l=[2,2,3]\/l=[3,2,2]
def Dch(es:List Pl):Prop:=Mx es/\∃ l:List Nat,Dgs l/\es.length=l.length/\∀ i:Nat,i<l.length->(es.getD i ([],1)).1.length=l.getD i 0+1
theorem Dgs.all{l:List Nat}(h:Dgs l):2<=l.length/\l.length<=3/\∀ i,i<l.length->2<=l.getD i 0/\l.getD i 0<=6:=by
 rcases h with⟨m,k,rfl,m2,m6,k2,k6,mk⟩|rfl|rfl|rfl|rfl
 ·refine⟨af _,by show 2<=3;decide,λi hi=>?_⟩;match i,hi with
  | 0,_=>exact⟨m2,m6⟩
  | 1,_=>exact⟨k2,k6⟩
 all_goals exact⟨by decide,by decide,by decide⟩
theorem cN(hl:Dgs l)(ll:cs.length=l.length)(hd:∀ i:Nat,i<l.length->(cs.getD i ([],1)).1.length=l.getD i 0+1)(h0:∃ c0 ts,cs=c0::ts/\Pc.Pz 20000 20000 c0.1 c0.2/\∀ c∈ts,Pc.Pz n b c.1 c.2)(hs:∀ j,j+2<=l.length->(tS n b j).1+(tS n b j).2<=3900/\(tS n b j).2<=2000)(q:∀ es,Dch es->Q (cD es)):[cD cs].length=iO.n/\iO.run [cD cs] Q:=by
 obtain⟨a1,a2,a3⟩:=hl.all;refine⟨rfl,(cs,n,b),⟨rfl,(),(),λc hc=>?_,h0,λj hj=>hs j ()⟩,?_⟩
 ·obtain⟨i,hi⟩:=bz.mp hc;have hi':=(ak.mp hi).1;have e:=hd i ();rw[sV hi] at e;have:=a3 i ();lia
 ·rintro _ ⟨es,rfl,le,he,ne⟩;exact q es ⟨ne,l,hl,by rw[le,ll],λi hi=>by rw[he i];exact hd i hi⟩
def iU:SpB:=.of 2 (α:=Int) (λmo ds=>ds=[.fl,.int mo]/\(mo=2\/mo=3\/mo=6)) (λ_ d=>∃ es,d=cD es/\Dch es)
def iZ:TSd:=(iE [4] (io iO (ii (dB bTuple bTuple.mono (ii (ij 4) il)) il)))
def i4:TSd:=dSq (jW [] 4 (jR (iκ 1)) (io iu (ii (j6 4 (jR (iκ 1))) (ii (io iy (ii (ij 0) (ii (ij 1) il))) il))))
 iZ
def jr:TSd:=dSq (jW [] 4 (iκ 0) (io iu (ii (io iy (ii (ij 0) (ii (ij 1) il))) (ii (j6 4 (iκ 0)) il))))
 i4
def jt:TSd:=dSq (jY [11] 4 (lI (ij 11)))
 jr
def kG:TSd:=dSq (iX [] (mU (ij 9)) (gNm 5)
 (dSq (kU [] 11 (io iC (ii (ij 5) (ii (ij 10) il))))
 (dSq (ir [] (gNm 12) (iA (ii (iκ 1) (ii (iκ 1) il))))
 (dSq (iX [] (jL (ij 5)) (gNm 13)
 (ir [] (gNm 12) (io iP (ii (ij 12) (ii (ij 10) il)))))
 (ir [] (gNm 10) (ij 12))))))
 jt
def ju:TSd:=dSq (jY [] 11 (iN il))
 kG
def jv:TSd:=dSq (ir [] (gNm 10) (dIx (iN (ii (iA (ii (iκ 0) (ii (iκ 1) il))) (ii (io iG (ii (ij 0) (ii (iκ 2) il))) il))) (io iq (ii (ij 0) (ii (iκ 2) il)))))
 ju
def kH:TSd:=dSq (ir [] (gNm 9) (dIx (iN (ii (iN (ii (iκ 2) (ii (iκ 2) (ii (iκ 3) il)))) (ii (iN (ii (iκ 2) (ii (iκ 3) (ii (iκ 2) il)))) (ii (iN (ii (iκ 3) (ii (iκ 2) (ii (iκ 2) il)))) il)))) (io iq (ii (ij 0) (ii (iκ 3) il)))))
 jv
def kI:TSd:=dSq (dIf [] (iL (iR .Lt (ij 2) (iκ 3)))
 (dSq (ir [] (gTp [6,7,8]) (io kS (ii (ij 0) (ii (ij 1) il))))
 (iE [] (io iO (ii (iA (ii (ij 6) (ii (ij 7) il))) il))))
 iT)
 kH
def kJ:TSd:=dSq (dIf [] (iL (iR .Eq (ij 2) (iκ 0)))
 (dSq (ir [] (gNm 3) (iN (ii (iA (ii (iκ 2) (ii (iκ 2) il))) (ii (iA (ii (iκ 2) (ii (iκ 3) il))) (ii (iA (ii (iκ 3) (ii (iκ 2) il))) (ii (iA (ii (iκ 4) (ii (iκ 2) il))) (ii (iA (ii (iκ 2) (ii (iκ 4) il))) (ii (iA (ii (iκ 3) (ii (iκ 3) il))) (ii (iA (ii (iκ 2) (ii (iκ 2) (ii (iκ 2) il)))) (ii (iA (ii (iκ 2) (ii (iκ 3) (ii (iκ 2) il)))) il))))))))))
 (dSq (ir [] (gNm 3) (ip .Add (ij 3) (iN (ii (iA (ii (iκ 2) (ii (iκ 2) (ii (iκ 3) il)))) (ii (iA (ii (iκ 6) (ii (iκ 2) il))) (ii (iA (ii (iκ 2) (ii (iκ 6) il))) (ii (iA (ii (iκ 3) (ii (iκ 2) (ii (iκ 2) il)))) il)))))))
 (dSq (ir [] (gNm 4) (dB bTuple bTuple.mono (ii (iW (jc (dIx (ij 3) (io iq (ii (ij 0) (ii (iκ 12) il))))) [5] (gNm 5) jh (io iK (ii (ij 0) (ii (ij 5) (ii (ij 1) il))))) il)))
 (iE [4] (io iO (ii (ij 4) il))))))
 iT)
 kI
def kK:TSd:=dSq (dIf [] (iL (iR .Eq (ij 2) (iκ 4)))
 (iE [] (io iO (ii (io jO (ii (ij 0) (ii (ij 1) il))) il)))
 iT)
 kJ
def mB:TSd:=dSq (ir [] (gNm 2) (io iq (ii (ij 0) (ii (iκ 5) il))))
 kK
theorem Gv(zA:Pc.Pz 20000 20000 A α)(zB:Pc.Pz 2000 800 B β)(lA:A.length=m+1)(lB:B.length=k+1)(m2:2<=m)(m6:m<=6)(k2:2<=k)(k6:k<=6)(mk:m*k<=12)(q:∀ es,Dch es->Q (cD es)):[D.tup [pD A α,pD B β]].length=iO.n/\iO.run [D.tup [pD A α,pD B β]] Q:=by
 refine cN (cs:=[(A,α),(B,β)]) (l:=[m,k]) (n:=2000) (b:=800) (.inl ⟨m,k,rfl,m2,m6,k2,k6,mk⟩) rfl (λi hi=>?_) ⟨(A,α),[(B,β)],rfl,zA,λc hc=>?_⟩ (λj hj=>?_) q
 ·match i,hi with
  | 0,_=>exact lA
  | 1,_=>exact lB
 ·rw[a8.mp hc];exact zB
 ·have:j=0:=by have:j+2<=2:=hj;lia
  subst this;exact⟨by decide,by decide⟩
def qO:TSd:=(iE [4] (io iO (ii (ij 4) il)))
theorem Gg{l:List Nat}{x3:SD}{w:D}{E:EndsD}(hl:Dgs l)(q:∀ es,Dch es->E.rt (cD es)){Q':D->Prop}(hQ:∀ ys:List D,ys.length=l.length->(∀(i:Nat) y,ys[i]? = some y->∃ P B,y=pD P B/\Pc.Pz 3 3 P B/\P.length=l.getD i 0+1)->Q' (.lst ys)) :
  compD (l.map λn:Nat=>D.int (n:Int)) (uy [5] [.val .fl,.vi mo,.val w,x3,.no,.no,.no,.no,.no,.no,.no,.no,.no,.no]) (gNm 5) jh (io iK (ii (ij 0) (ii (ij 5) (ii (ij 1) il)))) Q':=by
 obtain⟨a1,a2,a3⟩:=hl.all;refine vh (λi y=>∃ P B,y=pD P B/\Pc.Pz 3 3 P B/\P.length=l.getD i 0+1) (by rw[aa];lia) (λi d hd=>?_) λys ly hy=>hQ ys (by rw[ly,aa]) hy;rw[aR] at hd;obtain⟨n,hn,rfl⟩:=ab.mp hd;have hi:=(ak.mp hn).1;have en:l.getD i 0=n:=sV hn;have:=a3 i hi;refine⟨rfl,(n,mo,3),⟨rfl,by show n<=100;lia,(MoOk.h (mo:=mo)).1,(MoOk.h (mo:=mo)).2,by decide⟩,?_⟩;rintro _ ⟨P,B,rfl,zP,lP⟩;exact⟨P,B,rfl,zP,by rw[en];exact lP⟩
theorem D5{l:List Nat}:∀{ys:List D} (s:Nat),(∀(i:Nat) y,ys[i]? = some y->∃ P B,y=pD P B/\Pc.Pz 3 3 P B/\P.length=l.getD (s+i) 0+1)->∃ cs:List Pl,ys=cs.map pq/\cs.length=ys.length/\(∀ c∈cs,Pc.Pz 3 3 c.1 c.2)/\∀ i,i<ys.length->(cs.getD i ([],1)).1.length=l.getD (s+i) 0+1
 | [],s,_=>⟨[],rfl,rfl,λc hc=>(by simp at hc),λi hi=>absurd hi (bZ _)⟩
 | y::ys,s,h=>by
  obtain⟨P,B,rfl,z,lP⟩:=h 0 y rfl;obtain⟨cs,rfl,lc,hz,hd⟩:=D5 (l:=l) (ys:=ys) (s+1) λi y hy=>by
   rw[show s+1+i=s+(i+1) by lia];exact h (i+1) y hy
  refine⟨(P,B)::cs,rfl,by rw[br,br,lc],λc hc=>?_,λi hi=>?_⟩
  ·rcases au.mp hc with e|e
   ·rw[e];exact z
   ·exact hz c e
  ·cases i with
   | zero=>exact lP
   | succ i =>
    rw[bV,show s+(i+1)=s+1+i by lia];exact hd i (by simpa using hi)
theorem CV(hl:Dgs l)(q:∀ es,Dch es->E.rt (cD es)) :
  compD (l.map λn:Nat=>D.int (n:Int)) (uy [5] [.val .fl,.vi mo,.val w,x3,.no,.no,.no,.no,.no,.no,.no,.no,.no,.no]) (gNm 5) jh (io iK (ii (ij 0) (ii (ij 5) (ii (ij 1) il)))) λd=>bTuple [d] λd=>qO.run E [.val .fl,.vi mo,.val w,x3,.val d,.no,.no,.no,.no,.no,.no,.no,.no,.no]:=by
 refine Gg hl q λys ly hy=>?_;obtain⟨cs,rfl,lc,hz,hd⟩:=D5 (l:=l) (ys:=ys) 0 λi y h=>by rw[gF];exact hy i y h
 obtain⟨a1,a2,a3⟩:=hl.all;show qO.run E [.val .fl,.vi mo,.val w,x3,.val (cD cs),.no,.no,.no,.no,.no,.no,.no,.no,.no];have ll:cs.length=l.length:=by rw[lc,ly]
 refine cN (n:=3) (b:=3) hl ll (λi hi=>by have:=hd i ();rw[gF] at this;exact this) ?_ (λj hj=>?_) q
 ·match cs,hz,ll with
  | c0::ts,hz,_=>exact⟨c0,ts,rfl,(hz c0 aG).mono (by decide) (by decide),λc hc=>hz c (aC _ hc)⟩
  | [],_,ll=>exact absurd ll (by simp;lia)
 ·rcases (by lia:j=0\/j=1) with rfl|rfl
  ·exact⟨by decide,by decide⟩
  ·exact⟨by decide,by decide⟩
section
variable{w x3:SD}{Q:D->Prop}
def rW:TSd:=(dSq (kU [] 11 (io iC (ii (ij 5) (ii (ij 10) il))))
 (dSq (ir [] (gNm 12) (iA (ii (iκ 1) (ii (iκ 1) il))))
 (dSq (iX [] (jL (ij 5)) (gNm 13)
 (ir [] (gNm 12) (io iP (ii (ij 12) (ii (ij 10) il)))))
 (ir [] (gNm 10) (ij 12)))))
theorem wX(hi:i<=2)(hM:M<=16)(n2:2<=n)(n3:n<=3)(lf:fs.length=i)(f:FqD M M t r)
  (hE:∀ P B t' r' o12 o13,Pc.Pz ((2*M+1)*n+2) (M*n+1) P B->P.length=n+1->FqD (1+M*n) (1+M*n) t' r'->E.nx [.val .fl,.vi mo,w,x3,.no,.vi (n:Nat),.no,.no,.no,.val lay,.val t',.own ((fs++[(P,B)]).map pq),o12,o13]) :
  rW.run E [.val .fl,.vi mo,w,x3,.no,.vi (n:Nat),.no,.no,.no,.val lay,.val t,.own (fs.map pq),o12,o13]:=by
 refine⟨rfl,(n,t,r,M),⟨rfl,f,by show M<=21;lia,by show 1<=n;lia,by show n<=12;lia⟩,?_⟩;rintro _ ⟨P,B,rfl,tk⟩;have tk:Tk r n P B:=tk;obtain⟨zP,_⟩:=tk.pz f;refine⟨(congrArg (· < sizeLine) (aa _)).mpr (by rw[sizeLine_eq];lia),tz,(),(),λj st=>∃(x:D) (r':Rat) (o13:SD),st=[.val .fl,.vi mo,w,x3,.no,.vi (n:Nat),.no,.no,.no,.val lay,.val t,.own (fs.map pq++[pD P B]),.val x,o13]/\FqD (1+M*j) (1+M*j) x r',⟨fD 1 1,1,_,rfl,Lg () ()⟩,?_,?_⟩
 ·rintro j e _ hd ⟨x,r',o13,rfl,fx⟩;obtain⟨hj,rfl⟩:=sP hd;exact Mp fx f () () λx2 r2 f2=>⟨x2,r2,_,rfl,f2⟩
 ·rintro _ ⟨x,r',o13,rfl,fx⟩;rw[sE,aJ] at fx;have e:fs.map pq++[pD P B]=(fs++[(P,B)]).map pq:=by rw[aM];rfl
  show E.nx [.val .fl,.vi mo,w,x3,.no,.vi (n:Nat),.no,.no,.no,.val lay,.val x,.own (fs.map pq++[pD P B]),.val x,o13];rw[e];exact hE P B x r' _ _ zP (tk.len45 ()) fx
theorem KY{l:List D}{n:Nat}{Q:Nat->Prop}(h:n<l.length)(q:Q n):atD l (.int (n:Int)) Q:=wn h q
theorem Gf{a b c:Nat}{f0 f1 f2:Pl}{lay t:D}{o5 o12 o13:SD}(hl:Dgs [a,b,c])(h3:a<=3/\b<=3/\c<=3)(z0:Pc.Pz 17 7 f0.1 f0.2)(l0:f0.1.length=c+1)(z1:Pc.Pz 110 30 f1.1 f1.2)(l1:f1.1.length=b+1)(z2:Pc.Pz 110 60 f2.1 f2.2)(l2:f2.1.length=a+1)(q:∀ es,Dch es->Q (cD es)) :
  jt.run (sH Q) [.val .fl,.vi mo,w,x3,.no,o5,.no,.no,.no,.val lay,.val t,.own ([f0,f1,f2].map pq),o12,o13]:=by
 obtain⟨_,_,a3⟩:=hl.all;have ha:=a3 0 (show 0<3 by decide);have hc:=a3 2 (show 2<3 by decide);have ha:2<=a/\a<=6:=ha;have hc:2<=c/\c<=6:=hc;refine⟨_,rfl,?_⟩;show jr.run (sH Q) [.val .fl,.vi mo,w,x3,.own [pq f2,pq f1,pq f0],o5,.no,.no,.no,.val lay,.val t,.val (.lst ([f0,f1,f2].map pq)),o12,o13];refine Lj λP1 B1 s1=>?_;obtain⟨zs,ls,ns⟩:=s1;show itD [pq f2,pq f1,pq f0] ((0:Nat):Int) (λd=>[pD P1 B1,d].length=iu.n/\iu.run [pD P1 B1,d] λd=>atD [pq f2,pq f1,pq f0] (.int ((0:Nat):Int)) λj=>i4.run (sH Q) [.val .fl,.vi mo,w,x3,.own ([pq f2,pq f1,pq f0].set j d),o5,.no,.no,.no,.val lay,.val t,.val (.lst ([f0,f1,f2].map pq)),o12,o13]);refine sO (n:=0) (d:=pq f2) rfl ⟨rfl,(P1,B1,f2.1,f2.2,12,6,110,60),⟨rfl,zs,z2,by show 6+6+60*P1.length<=8900000;lia,by show 12+(110+60+10)*(P1.length+1)<=4000000;lia,by show P1.length*f2.1.length<=190;rw[ls];lia,by show P1.length<=190;lia,by show f2.1.length<=190;lia⟩,?_⟩;rintro _ ⟨R,C,rfl,o⟩;have o:Pc.Of P1 B1 f2.1 f2.2 R C:=o;obtain⟨lR,_⟩:=vd ls ns zs.fm z2.fm () o;have zR:=o.size zs z2 (by rw[ls];lia);rw[ls] at zR;refine KY (n:=0) (by show 0<3;decide) ?_;show i4.run (sH Q) [.val .fl,.vi mo,w,x3,.own [pD R C,pq f1,pq f0],o5,.no,.no,.no,.val lay,.val t,.val (.lst ([f0,f1,f2].map pq)),o12,o13];have at0:wl [pD R C,pq f1,pq f0] (-1)=some (pq f0):=ug (j:=1) (n:=3) rfl rfl (by decide) (by decide);show itD [pD R C,pq f1,pq f0] (-1) (λd0=>[D.fl,.int mo].length=iy.n/\iy.run [D.fl,.int mo] λd1=>[d0,d1].length=iu.n/\iu.run [d0,d1] λd=>atD [pD R C,pq f1,pq f0] (.int (-((1:Nat):Int))) λj=>iZ.run (sH Q) [.val .fl,.vi mo,w,x3,.own ([pD R C,pq f1,pq f0].set j d),o5,.no,.no,.no,.val lay,.val t,.val (.lst ([f0,f1,f2].map pq)),o12,o13]);refine tI at0 (Lj λP2 B2 s2=>?_);obtain⟨zt,lt,nt⟩:=s2;refine⟨rfl,(f0.1,f0.2,P2,B2,17,7,12,6),⟨rfl,z0,zt,by show 7+7+6*f0.1.length<=8900000;lia,by show 17+(12+6+10)*(f0.1.length+1)<=4000000;lia,by show f0.1.length*P2.length<=190;rw[lt];lia,by show f0.1.length<=190;lia,by show P2.length<=190;lia⟩,?_⟩;rintro _ ⟨S,D1,rfl,o'⟩;have o':Pc.Of f0.1 f0.2 P2 B2 S D1:=o';obtain⟨lS,_⟩:=t7 z0.fm zt.fm lt nt () o';have zS:=o'.size z0 zt (by rw[lt];lia);refine zU (j:=1) (n:=3) rfl (by decide) (by decide) ?_;show iZ.run (sH Q) [.val .fl,.vi mo,w,x3,.own [pD R C,pq f1,pD S D1],o5,.no,.no,.no,.val lay,.val t,.val (.lst ([f0,f1,f2].map pq)),o12,o13];refine cN (cs:=[(R,C),f1,(S,D1)]) (l:=[a,b,c]) (n:=135) (b:=32) hl rfl (λi hi=>?_) ⟨(R,C),[f1,(S,D1)],rfl,zR.mono () (),λd hd=>?_⟩ (λj hj=>?_) q
 ·match i,hi with
  | 0,_=>show R.length=a+1;rw[lR,l2]
  | 1,_=>exact l1
  | 2,_=>show S.length=c+1;rw[lS,l0]
 ·simp only[au,aX,or_false] at hd;rcases hd with rfl|rfl
  ·exact z1.mono (by decide) (by decide)
  ·exact zS.mono (by show _<=135;lia) (by show _<=32;lia)
 ·have:j+2<=3:=hj;rcases (by lia:j=0\/j=1) with rfl|rfl
  ·exact⟨by decide,by decide⟩
  ·exact⟨by decide,by decide⟩
theorem Ew(hl:Dgs [a,b,c])(h3:a<=3/\b<=3/\c<=3)(m1:2*c<=6)(m2:(1+2*c)*b<=15)(s1:(2*(1+2*c)+1)*b+2<=110/\(1+2*c)*b+1<=30)(f:FqD 2 2 d r)(q:∀ es,Dch es->Q (cD es)) :
  ju.run (sH Q) [.val .fl,.vi mo,w,x3,.no,.no,.no,.no,.no,.val (.lst [.int (a:Nat),.int (b:Nat),.int (c:Nat)]),.val d,.no,.no,.no]:=by
 obtain⟨_,_,a3⟩:=hl.all;have ha:2<=a/\a<=6:=a3 0 (show 0<3 by decide);have hb:2<=b/\b<=6:=a3 1 (show 1<3 by decide);have hc:2<=c/\c<=6:=a3 2 (show 2<3 by decide);refine⟨aB _,λi st=>∃(fs:List Pl) (t:D) (r':Rat) (o5 o12 o13:SD),st=[.val .fl,.vi mo,w,x3,.no,o5,.no,.no,.no,.val (.lst [.int (a:Nat),.int (b:Nat),.int (c:Nat)]),.val t,.own (fs.map pq),o12,o13]/\((i=0/\fs=[]/\FqD 2 2 t r')\/(i=1/\FqD (1+2*c) (1+2*c) t r'/\∃ f0:Pl,fs=[f0]/\Pc.Pz 17 7 f0.1 f0.2/\f0.1.length=c+1)\/(i=2/\FqD (1+(1+2*c)*b) (1+(1+2*c)*b) t r'/\∃ f0 f1:Pl,fs=[f0,f1]/\Pc.Pz 17 7 f0.1 f0.2/\f0.1.length=c+1/\Pc.Pz 110 30 f1.1 f1.2/\f1.1.length=b+1)\/(i=3/\∃ f0 f1 f2:Pl,fs=[f0,f1,f2]/\Pc.Pz 17 7 f0.1 f0.2/\f0.1.length=c+1/\Pc.Pz 110 30 f1.1 f1.2/\f1.1.length=b+1/\Pc.Pz 110 60 f2.1 f2.2/\f2.1.length=a+1)),⟨[],d,r,.no,.no,.no,rfl,.inl ⟨rfl,rfl,f⟩⟩,?_,?_⟩
 ·rintro i e _ hd ⟨fs,t,r',o5,o12,o13,rfl,h⟩;have hi:i<3:=(ak.mp hd).1;rcases h with⟨rfl,rfl,ft⟩|⟨rfl,ft,f0,rfl,z0,l0⟩|⟨rfl,ft,f0,f1,rfl,z0,l0,z1,l1⟩|⟨rfl,_⟩
  ·cases hd;exact wX (i:=0) (n:=c) (M:=2) (fs:=[]) (by decide) (by decide) hc.1 h3.2.2 rfl ft λP B t' r' o12 o13 z l f'=>⟨[(P,B)],t',r',_,o12,o13,rfl,.inr (.inl ⟨rfl,f',(P,B),rfl,z.mono () (),l⟩)⟩
  ·cases hd;exact wX (i:=1) (n:=b) (M:=1+2*c) (fs:=[f0]) (by decide) () hb.1 h3.2.1 rfl ft λP B t' r' o12 o13 z l f'=>⟨[f0,(P,B)],t',r',_,o12,o13,rfl,.inr (.inr (.inl ⟨rfl,f',f0,(P,B),rfl,z0,l0,z.mono s1.1 s1.2,l⟩))⟩
  ·cases hd;have w1:(2*(1+(1+2*c)*b)+1)*a<=33*3:=aW () h3.1;have w2:(1+(1+2*c)*b)*a<=16*3:=aW () h3.1;exact wX (i:=2) (n:=a) (M:=1+(1+2*c)*b) (fs:=[f0,f1]) (by decide) () ha.1 h3.1 rfl ft λP B t' r' o12 o13 z l f'=>⟨[f0,f1,(P,B)],t',r',_,o12,o13,rfl,.inr (.inr (.inr ⟨rfl,f0,f1,(P,B),rfl,z0,l0,z1,l1,z.mono () (),l⟩))⟩
  ·lia
 ·rintro _ ⟨fs,t,r',o5,o12,o13,rfl,h⟩;have e3:([D.int (a:Nat),.int (b:Nat),.int (c:Nat)].reverse).length=3:=rfl;rw[e3] at h;rcases h with⟨h,_⟩|⟨h,_⟩|⟨h,_⟩|⟨_,f0,f1,f2,rfl,z0,l0,z1,l1,z2,l2⟩
  ·exact absurd h (by decide)
  ·exact absurd h (by decide)
  ·exact absurd h (by decide)
  ·exact Gf hl h3 z0 l0 z1 l1 z2 l2 q
end
set_option maxHeartbeats 4000000 in
theorem ko:Does 14 mB iU:=by
 rintro ds Q hn ⟨mo,⟨rfl,ho⟩,q⟩;haveI:MoOk mo:=by
  rcases ho with rfl|rfl|rfl;all_goals exact⟨by decide,by unfold Lt2;decide⟩
 have q:∀ es,Dch es->Q (cD es):=λes h=>q _ ⟨es,rfl,h⟩;refine⟨rfl,5,⟨rfl,by decide,yZ (by decide)⟩,?_⟩;rintro _ ⟨w,rfl,w0,w1⟩;refine v8 (p:=w=4) (λ_=>?_) (λn4=>v8 (p:=w=0) (λ_=>?_) (λn0=>v8 (p:=w<3) (λ_=>?_) (λn3=>?_)))
 ·refine⟨rfl,mo,⟨rfl,ho⟩,?_⟩;rintro _ ⟨A,α,B,β,m,k,rfl,zA,zB,lA,lB,m2,m6,k2,k6,mk⟩;exact Gv zA zB lA lB m2 m6 k2 k6 mk q
 ·refine⟨tz,tz,tz,tz,tz,tz,tP (n:=3) (by decide),tP (n:=3) (by decide),tP (n:=8) (by decide),tP (n:=3) (by decide),tz,tz,tP (n:=3) (by decide),tP (n:=4) (by decide),tP (n:=12) (by decide),rfl,12,⟨rfl,by decide,yZ (by decide)⟩,?_⟩;rintro _ ⟨j,rfl,j0,j1⟩;refine wJ j0 (by exact j1) λd hd=>?_;simp only[au,List.cons_append,gh,aX,or_false] at hd;have two:∀ m k:Nat,2<=m->m<=6->2<=k->k<=6->m*k<=12->Dgs [m,k]:=λm k h1 h2 h3 h4 h5=>.inl ⟨m,k,rfl,h1,h2,h3,h4,h5⟩;rcases hd with rfl|rfl|rfl|rfl|rfl|rfl|rfl|rfl|rfl|rfl|rfl|rfl
  ·exact CV (l:=[2,2]) (two 2 2 (by decide) (by decide) (by decide) (by decide) (by decide)) q
  ·exact CV (l:=[2,3]) (two 2 3 (by decide) (by decide) (by decide) (by decide) (by decide)) q
  ·exact CV (l:=[3,2]) (two 3 2 (by decide) (by decide) (by decide) (by decide) (by decide)) q
  ·exact CV (l:=[4,2]) (two 4 2 (by decide) (by decide) (by decide) (by decide) (by decide)) q
  ·exact CV (l:=[2,4]) (two 2 4 (by decide) (by decide) (by decide) (by decide) (by decide)) q
  ·exact CV (l:=[3,3]) (two 3 3 (by decide) (by decide) (by decide) (by decide) (by decide)) q
  ·exact CV (l:=[2,2,2]) (.inr (.inl rfl)) q
  ·exact CV (l:=[2,3,2]) (.inr (.inr (.inl rfl))) q
  ·exact CV (l:=[2,2,3]) (.inr (.inr (.inr (.inl rfl)))) q
  ·exact CV (l:=[6,2]) (two 6 2 (by decide) (by decide) (by decide) (by decide) (by decide)) q
  ·exact CV (l:=[2,6]) (two 2 6 (by decide) (by decide) (by decide) (by decide) (by decide)) q
  ·exact CV (l:=[3,2,2]) (.inr (.inr (.inr (.inr rfl)))) q
 ·refine⟨rfl,mo,⟨rfl,(MoOk.h (mo:=mo)).1,(MoOk.h (mo:=mo)).2⟩,?_⟩;rintro _ ⟨A,α,B,β,m,k,w',rfl,zA,zB,lA,lB,m2,m6,k2,k6,mk⟩;exact⟨rfl,tz,Gv zA zB lA lB m2 m6 k2 k6 mk q⟩
 ·refine⟨tP (n:=3) (by decide),tP (n:=3) (by decide),tP (n:=3) (by decide),tP (n:=3) (by decide),rfl,3,⟨rfl,by decide,yZ (by decide)⟩,?_⟩;rintro _ ⟨j,rfl,j0,j1⟩;refine wJ j0 (by exact j1) λd hd=>?_;simp only[au,aX,or_false] at hd;have fr:∀(a b c:Nat),Dgs [a,b,c]->(a<=3/\b<=3/\c<=3)->2*c<=6->(1+2*c)*b<=15->(2*(1+2*c)+1)*b+2<=110/\(1+2*c)*b+1<=30->jv.run (sH Q) [.val .fl,.vi mo,.vi w,.no,.no,.no,.no,.no,.no,.val (.lst [.int (a:Nat),.int (b:Nat),.int (c:Nat)]),.no,.no,.no,.no]:=λa b c hl h3 m1 m2 s1=>by
   refine⟨tz,rfl,(2,2),⟨rfl,by decide,by unfold Lt2;decide,by decide,by decide⟩,?_⟩;rintro e ⟨r,f⟩;have f:FqD 2 2 e r:=f;refine⟨tz,rfl,2,⟨rfl,by decide,yZ (by decide)⟩,?_⟩;rintro _ ⟨i,rfl,i0,i1⟩;refine wJ i0 (by exact i1) λx hx=>?_;simp only[au,aX,or_false] at hx;rcases hx with rfl|rfl
   ·exact Ew hl h3 m1 m2 s1 (r:=((0:Int):Rat)) ((tX (n:=2) (t:=0) (uw _)).mono (af _) (by decide)) q
   ·exact Ew hl h3 m1 m2 s1 f q
  rcases hd with rfl|rfl|rfl
  ·exact fr 2 2 3 (.inr (.inr (.inr (.inl rfl)))) (by decide) (by decide) (by decide) (by decide)
  ·exact fr 2 3 2 (.inr (.inr (.inl rfl))) (by decide) (by decide) (by decide) (by decide)
  ·exact fr 3 2 2 (.inr (.inr (.inr (.inr rfl)))) (by decide) (by decide) (by decide) (by decide)
end Dp
namespace Ap
open L2 Cv Hv Pc Qp
theorem FZ(f:Po.Fm R C)(l:R.length<=m+1)(z:q R C m=0):R.length<=m:=by
 rcases aw m R.length with y|y
 ·have:=uF f (by rintro rfl;simp at y);rw[show R.length-1=m by lia] at this;exact absurd z this
 ·exact y
end Ap
namespace Dp
open PySem L2
theorem zJ(fR:Po.Fm R C)(lR:R.length=d+1)(fA:Po.Fm A α)(lA:A.length=s+1)(s1:1<=s)(fp:Po.Fm p c)(e:∀ x,Qp.E p c x=Qp.E R C (Qp.E A α x)):p.length=d*s+1:=by
 obtain⟨S,cS,o⟩:=Kq fR fA;have l:=Pc.Of.deg_eq fR.pos fA.pos o lR lA s1 (s9 fR lR) (s9 fA lA);obtain⟨rfl,rfl⟩:=Qp.uz fp o.1 λx=>by rw[e,Qp.CT fR.pos fA.pos o]
 exact l
end Dp
namespace Dp
open PySem L2 Cv Hv Pc Qp
theorem wb(fA:Po.Fm A α)(lA:A.length=s+1)(mon:A.getD s 0=α)(k:Nat):∃ H C,Po.Fm H C/\(∀ x,E H C x=E A α x^k)/\q H C (k*s)=1:=by
 obtain⟨H,C,fH,eH,qH⟩:=Ca.Al fA k;refine⟨H,C,fH,eH,?_⟩;rw[qH,Ca.Be,xa (λi hi=>sx ()),show fn A s=α from mon];have n2:=so (show 0<α^k from bw fA.pos);generalize ((α^k:Int):Rat)=u at *;grind
theorem xw(fW:Po.Fm W w)(lW:W.length=l+1):∃ r,Ap.Pl' l r/\∀ y,E W w y=q W w l*y^l+r y:=by
 obtain⟨H,C,fH,eH,qH⟩:=wb (A:=Pc.X) (α:=1) (s:=1) ⟨by decide,.inr (by decide),by decide⟩ rfl rfl l;rw[dQ] at qH;have pH:Ap.Pl' (l+1) (E H C):=((Ap.Pl'.x.pow (s:=1) l).congr λx=>by rw[eH,Lo]).mono ();obtain⟨D,e,fD,eD,lD⟩:=((Ap.Pl'.of fW).mono (m:=l+1) ()).add (pH.smul (-(q W w l)));have eD:∀ x,E D e x=E W w x + -(q W w l)*E H C x:=eD;have qe:=Ap.wE (u:=q W w l) fW fH fD (λx=>by rw[eD x];grind) l;rw[qH] at qe;have z:q D e l=0:=by grind
 refine⟨E D e,⟨D,e,fD,λ_=>rfl,Ap.FZ fD lD z⟩,λy=>?_⟩;rw[eD y,eH,Lo];grind
theorem D2(fW:Po.Fm W w)(lW:W.length=l+1)(l1:1<=l)(mW:W.getD l 0=w)(fA:Po.Fm A α)(lA:A.length=s+1)(s1:1<=s)(mA:A.getD s 0=α)(fG:Po.Fm G U)(eG:∀ x,E G U x=E W w (E A α x)):G.getD (l*s) 0=U:=by
 obtain⟨r,⟨R,C,fR,eR,lR⟩,e⟩:=xw fW lW;obtain⟨H,c,fH,eH,qH⟩:=wb fA lA mA l;have pA:Ap.Pl' (s+1) (E A α):=lA ▸ Ap.Pl'.of fA;obtain⟨S,d,fS,eS,lS⟩:=Ap.Pl'.comp (P:=R) (B:=C) pA;have eS:∀ x,E S d x=E R C (E A α x):=eS;have qW:q W w l=1:=by
  unfold q;rw[mW];have:=so fW.pos;grind
 have ls:l*s=s*(l-1)+s:=by
  obtain⟨j,rfl⟩:∃ j,l=j+1:=⟨l-1,()⟩;rw[aH,bj,aU]
 have b:s*(R.length-1)<=s*(l-1):=ae _ ();have qe:=Ap.wE (u:=1) fG fH fS (λx=>by rw[eG,e,eS,eR,eH,qW]) (l*s);rw[qH,ux (P:=S) ()] at qe;have qe:q G U (l*s)=((1:Int):Rat) / ((1:Int):Rat):=by rw[qe];grind
 have:=(tq (am fG.pos) (by decide)).mp qe;lia
theorem HJ(k1:1<=k)(s1:1<=s)(fP:Po.Fm P B)(fG:Po.Fm G U)(lG:G.length=s+1)(mG:G.getD s 0=U)(hr:Ap.Pl' (k*s-s+1) r)(e:∀ x,E P B x=c*E G U x^k+r x):Ca.Sem P B k s G U:=by
 have ks:s<=k*s:=aO _ k1;obtain⟨H,C,fH,eH,qH⟩:=wb fG lG mG k;have hr':=hr;obtain⟨S,d,fS,eS,lS⟩:=hr';have qe:=Ap.wE (u:=c) fP fH fS (λx=>by rw[e,eH,eS]) (k*s);rw[qH,ux (P:=S) ()] at qe;have qe:q P B (k*s)=c:=by rw[qe];grind
 exact⟨r,hr,λx=>by rw[qe];exact e x⟩
theorem Gh{P R A W G:List Int}{B C α w U:Int}{k l s:Nat}(k1:1<=k)(l1:1<=l)(s1:1<=s)(fP:Po.Fm P B)(fA:Po.Fm A α)(lA:A.length=s+1)(mA:A.getD s 0=α)(A0:A.getD 0 0=0)(fR:Po.Fm R C)(lR:R.length=k*l+1)(eP:∀ x,E P B x=E R C (E A α x))(cW:Cn R k l W w)(fG:Po.Fm G U)(eG:∀ x,E G U x=E W w (E A α x)):Cn P k (l*s) G U:=by
 obtain⟨fW,lW,cW⟩:=cW;obtain⟨mW,W0⟩:=vB cW l1;have lG:=zJ fW lW fA lA s1 fG eG;have mG:=D2 fW lW l1 mW fA lA s1 mA fG eG;have ls1:1<=l*s:=f7 l1 s1;obtain⟨r,⟨S,d,fS,eS,lS⟩,e⟩:=cW.sem fR lR fW lW k1 l1;have pA:Ap.Pl' (s+1) (E A α):=lA ▸ Ap.Pl'.of fA;have pr:Ap.Pl' (k*(l*s)-l*s+1) λx=>r (E A α x):=((Ap.Pl'.comp (P:=S) (B:=d) pA).congr λx=>eS _).mono (by
  have b:s*(S.length-1)<=s*(k*l-l):=ae _ ();have b2:s*(k*l-l)=k*(l*s)-l*s:=by rw[Nat.mul_sub,show s*(k*l)=k*(l*s) by rw[aU s,c8],aU s l]
  lia)
 have sm:=HJ k1 ls1 fP fG lG mG pr (c:=q R C (k*l)) λx=>by rw[eP,e,eG]
 refine⟨fG,lG,sm.cand fP fG lG k1 ls1 mG ?_⟩;have z:q G U 0=((0:Int):Rat) / ((1:Int):Rat):=by
  have a0:E A α 0=0:=by
   rw[ub];unfold q;rw[A0];show (0:Rat) / _=0;grind
  rw[← ub,eG,a0,ub];unfold q;rw[show W.getD 0 0=0 from W0];show (0:Rat) / _=(0:Rat) / _;grind
 have:=(tq (am fG.pos) (by decide)).mp z;lia
theorem t7(k1:1<=k)(s1:1<=s)(fP:Po.Fm P B)(fA:Po.Fm A α)(lA:A.length=s+1)(mA:A.getD s 0=α)(fR:Po.Fm R C)(lR:R.length=k+1)(e:∀ x,E P B x=E R C (E A α x)):q P B (k*s)=q R C k:=by
 obtain⟨r,⟨S,d,fS,eS,lS⟩,er⟩:=xw fR lR;obtain⟨H,c,fH,eH,qH⟩:=wb fA lA mA k;have pA:Ap.Pl' (s+1) (E A α):=lA ▸ Ap.Pl'.of fA;obtain⟨T,t,fT,eT,lT⟩:=Ap.Pl'.comp (P:=S) (B:=d) pA;have eT:∀ x,E T t x=E S d (E A α x):=eT;have ks:k*s=s*(k-1)+s:=by
  obtain⟨j,rfl⟩:∃ j,k=j+1:=⟨k-1,()⟩;rw[aH,bj,aU]
 have b:s*(S.length-1)<=s*(k-1):=ae _ ();have qe:=Ap.wE (u:=q R C k) fP fH fT (λx=>by rw[e,er,eT,eS,eH]) (k*s);rw[qH,ux (P:=T) ()] at qe;rw[qe];grind
theorem Bn{P R A:List Int}{B C α:Int}{k s:Nat}(s1:1<=s)(fP:Po.Fm P B)(lP:P.length=k*s+1)(fA:Po.Fm A α)(lA:A.length=s+1)(fR:Po.Fm R C)(e:∀ x,E P B x=E R C (E A α x)):R.length=k+1:=by
 rcases bX R.length with y|y
 ·have r0:R=[]:=bT.mp y;have:P=[]:=(uz fP Ap.wK λx=>by rw[e,r0,Ap.vF,Ap.vF]).1;rw[this] at lP;simp at lP
 ·obtain⟨d,hd⟩:∃ d,R.length=d+1:=⟨R.length-1,()⟩;have h:=zJ fR hd fA lA s1 fP e;rw[lP] at h;have:d=k:=Nat.eq_of_mul_eq_mul_right s1 ();lia
end Dp
namespace Dp
open PySem L2 Ch
theorem EH{P:List Int}{m:Nat}:Cn P m 1 Pc.X 1:=by
 refine⟨Pc.EX.fm,rfl,1,λ_=>1,by decide,rfl,λj hj=>?_,λi hi=>?_,rfl⟩
 ·have e:j=0:=by lia
  subst e;rw[Ca.B6 (g:=λ_=>1) rfl,bA,aP]
 ·have e:i=0:=by lia
  subst e;rfl
theorem CL{H A:List Int}{V α:Int}{k s:Nat}(k1:1<=k)(s1:1<=s)(fH:Po.Fm H V)(lH:H.length=k*s+1)(fA:Po.Fm A α)(lA:A.length=s+1)(mA:A.getD s 0=α)(A0:A.getD 0 0=0)(h:Mw H V A α):Cn H k s A α:=by
 obtain⟨W,w,fW,eW⟩:=h;have lW:=Bn s1 fH lH fA lA fW eW;have c:=Gh (l:=1) k1 (af _) s1 fH fA lA mA A0 fW (by rw[dQ];exact lW) eW EH fA λx=>by rw[Qp.Lo]
 rw[f6] at c;exact c
def Ho(f g h:Pl):Prop:=∀ x,Qp.E f.1 f.2 x=Qp.E g.1 g.2 (Qp.E h.1 h.2 x)
structure Nt2 (f g h:Pl)(k s:Nat):Prop where
 fg:Po.Fm g.1 g.2
 fh:Po.Fm h.1 h.2
 lh:h.1.length=s+1
 ne:EZ h
 e:Ho f g h
theorem Nt2.cn(n:Nt2 f g h k s)(k1:1<=k)(s1:1<=s)(ff:Po.Fm f.1 f.2)(lf:f.1.length=k*s+1):Cn f.1 k s h.1 h.2:=by
 obtain⟨n1,n2⟩:=n.ne;rw[n.lh,aH] at n1;exact CL k1 s1 ff lf n.fh n.lh n1 n2 ⟨g.1,g.2,n.fg,n.e⟩
theorem Nt2.lg(n:Nt2 f g h k s)(k1:1<=k)(s1:1<=s)(ff:Po.Fm f.1 f.2)(lf:f.1.length=k*s+1):g.1.length=k+1:=Bn s1 ff lf n.fh n.lh n.fg n.e
theorem Nt2.uniq(n:Nt2 f g h k s)(n':Nt2 f g' h' k s)(k1:1<=k)(s1:1<=s)(ff:Po.Fm f.1 f.2)(lf:f.1.length=k*s+1):g=g'/\h=h':=by
 have c:=n.cn k1 s1 ff lf;have c':=n'.cn k1 s1 ff lf;obtain⟨e1,e2⟩:=Ca.Cand.uniq k1 (s9 ff lf) c.1 c'.1 c.2.1 c'.2.1 c.2.2 c'.2.2;have eh:h=h':=Prod.ext e1 e2;subst eh;obtain⟨e3,e4⟩:=DP n.fh n.lh s1 n.fg n'.fg λx=>by rw[← n.e x,n'.e x]
 exact⟨Prod.ext e3 e4,rfl⟩
theorem Nt2.ne1(n:Nt2 f g h k s)(k1:1<=k)(s1:1<=s)(ff:Po.Fm f.1 f.2)(lf:f.1.length=k*s+1)(m:Nt2 f a b s k)(na:EZ a):EZ g:=by
 have lg:=n.lg k1 s1 ff lf;have la:=m.lg s1 k1 ff (by rw[aU];exact lf);obtain⟨h1,h2⟩:=n.ne;obtain⟨b1,b2⟩:=m.ne;obtain⟨a1,a2⟩:=na;rw[n.lh,aH] at h1;rw[m.lh,aH] at b1;rw[la,aH] at a1;have q1:=t7 k1 s1 ff n.fh n.lh h1 n.fg lg n.e;have q2:=t7 s1 k1 ff m.fh m.lh b1 m.fg la m.e;rw[aU] at q2;have qa:Qp.q a.1 a.2 s=1:=by
  unfold Qp.q;rw[a1];have:=Qp.so m.fg.pos;grind
 have qg:Qp.q g.1 g.2 k=1:=by rw[← q1,q2,qa]
 have z0:∀ c:Pl,Po.Fm c.1 c.2->c.1.getD 0 0=0->Qp.E c.1 c.2 0=0:=λc fc h=>by
  rw[Qp.ub];unfold Qp.q;rw[h];have:((0:Int):Rat)=0:=rfl;rw[this];grind
 have e0:Qp.E g.1 g.2 0=0:=by
  have x1:=n.e 0;have x2:=m.e 0;rw[z0 h n.fh h2] at x1;rw[z0 b m.fh b2,z0 a m.fg a2] at x2;rw[← x1,x2]
 refine⟨?_,?_⟩
 ·rw[lg,aH];unfold Qp.q at qg;have n2:=Qp.so n.fg.pos;have:((g.1.getD k 0:Int):Rat)=(g.2:Rat):=by
   generalize ((g.1.getD k 0:Int):Rat)=y at *;have:y=y / (g.2:Rat)*(g.2:Rat):=by grind
   rw[this,qg];grind
  exact dD.mp this
 ·rw[Qp.ub] at e0;unfold Qp.q at e0;have n2:=Qp.so n.fg.pos;have:((g.1.getD 0 0:Int):Rat)=0:=by
   generalize ((g.1.getD 0 0:Int):Rat)=y at *;have:y=y / (g.2:Rat)*(g.2:Rat):=by grind
   rw[this,e0];grind
  exact dj.mp this
def iI:SpB:=.of 2 (α:=List Pl×Pl×Pl×List Pl×Nat×Nat×Nat×Nat×Nat×Nat×Nat×Nat) (λ(u,a,b,v,da,db,na,ca,nb,cb,nf,bf) ds=>ds=[cD (u++a::b::v),.int (u.length:Nat)]/\u.length<=2/\v.length<=2/\a.1.length=da+1/\b.1.length=db+1/\2<=da/\da<=6/\2<=db/\db<=6/\(da≠db->da*db<=12/\Pc.Pz na ca a.1 a.2/\Pc.Pz nb cb b.1 b.2/\ca+ca+cb*7<=8900000/\na+(nb+cb+10)*8<=4000000/\bf<=nf/\nf<=80000/\∀ f:Pl,Pc.Of a.1 a.2 b.1 b.2 f.1 f.2->Pc.Pz nf bf f.1 f.2))
 (λ(u,a,b,v,da,db,na,ca,nb,cb,nf,bf) d=>(d = .non/\(da=db\/∀ f g h,Po.Fm f.1 f.2->Ho f a b->¬ Nt2 f g h db da))\/∃ f g h,d=cD (u++g::h::v)/\da≠db/\Pc.Pz nf bf f.1 f.2/\f.1.length=db*da+1/\Ho f a b/\Nt2 f g h db da/\g.1.length=db+1/\Pc.Pz (tR nf (db*da)) (bR nf bf (db*da)) g.1 g.2/\Pc.Pz (tG nf da) (bG nf da) h.1 h.2)
def kL:TSd:=(iE [] (ip .Add (ip .Add (dSl (ij 0) dNo (kQ (ij 1))) (ij 4)) (dSl (ij 0) (kQ (ip .Add (ij 1) (iκ 2))) dNo)))
def kM:TSd:=dSq (dIf [] (iL (iR .Is (ij 4) (dC .non)))
 (iE [] (dC .non))
 iT)
 kL
def kN:TSd:=dSq (ir [] (gNm 4) (io kg (ii (io iu (ii (ij 2) (ii (ij 3) il))) (ii (ip .Sub (dB bLen bLen.mono (ii (dIx (ij 2) (iκ 0)) il)) (iκ 1)) il))))
 kM
def kO:TSd:=dSq (dIf [] (iL (iR .Eq (dB bLen bLen.mono (ii (dIx (ij 2) (iκ 0)) il)) (dB bLen bLen.mono (ii (dIx (ij 3) (iκ 0)) il))))
 (iE [] (dC .non))
 iT)
 kN
def jH:TSd:=dSq (kT [] 2 3 (dIx (ij 0) (ij 1)) (dIx (ij 0) (ip .Add (ij 1) (iκ 1))))
 kO
theorem EW:((u++a::b::v).map pq)[u.length]? = some (pq a)/\((u++a::b::v).map pq)[u.length+1]? = some (pq b):=by
 rw[aR,aR,az (af _),az (),a9,show u.length+1-u.length=1 by lia];exact⟨rfl,rfl⟩
theorem zE{l:List D}{a:Nat}(h:a<=l.length):tZ l none (some (a:Int))=l.take a:=by
 unfold tZ;rw[HT.wB,HT.yc,dF h,dL,bA]
theorem wY{l:List D}{a:Nat}(h:a<=l.length):tZ l (some (a:Int)) none=l.drop a:=by
 unfold tZ;rw[HT.wB,HT.yc,dF h,eE (by rw[fE];exact af _)]
theorem kr:Does 5 jH iI:=by
 rintro ds Q hn ⟨⟨u,a,b,v,da,db,na,ca,nb,cb,nf,bf⟩,⟨rfl,lu,lv,la,lb,da2,da6,db2,db6,hne⟩,q⟩;dsimp only at lu lv la lb da2 da6 db2 db6 hne q;obtain⟨at0,at1⟩:=EW (u:=u) (v:=v) (a:=a) (b:=b);refine sO at0 (sO (n:=u.length+1) at1 ?_);refine v8 (p:=(((a.1.map D.int).length:Nat):Int)=((b.1.map D.int).length:Nat)) (λcc=>?_) (λcc=>?_)
 ·rw[aa,aa] at cc;exact q _ (.inl ⟨rfl,.inl ()⟩)
 ·rw[aa,aa] at cc;have nd:da≠db:=by lia
  obtain⟨dd,za,zb,h1,h2,bn,n4,hf⟩:=hne nd;have w1:cb*a.1.length<=cb*7:=ae _ ();have w2:(nb+cb+10)*(a.1.length+1)<=(nb+cb+10)*8:=ae _ ();have w3:a.1.length*b.1.length<=7*7:=aW () ();refine⟨rfl,(a.1,a.2,b.1,b.2,na,ca,nb,cb),⟨rfl,za,zb,by show ca+ca+cb*a.1.length<=8900000;lia,by show na+(nb+cb+10)*(a.1.length+1)<=4000000;lia,by show a.1.length*b.1.length<=190;lia,by show a.1.length<=190;lia,by show b.1.length<=190;lia⟩,?_⟩;rintro _ ⟨F,B,rfl,o⟩;have o:Pc.Of a.1 a.2 b.1 b.2 F B:=o;have eF:Ho (F,B) a b:=λx=>Qp.CT za.fm.pos zb.fm.pos o x;have lF:F.length=da*db+1:=o.deg_eq za.fm.pos zb.fm.pos la lb () (s9 za.fm la) (s9 zb.fm lb);have zF:Pc.Pz nf bf F B:=hf (F,B) o;have ed:(((a.1.map D.int).length:Nat):Int)-1=((da:Nat):Int):=by rw[aa,la];lia
  refine⟨rfl,(F,B,db,da,nf,bf),⟨congrArg (λz=>[pD F B,.int z]) ed,zF,by show F.length=db*da+1;rw[lF,aU],by show 1<=db;lia,by show 1<=da;lia,by show db*da<=12;rw[aU];exact dd,bn,n4⟩,?_⟩;rintro _ (⟨rfl,no⟩|⟨G,U,R,C,rfl,cn,zR,zG,lR,e⟩)
  ·refine q _ (.inl ⟨rfl,.inr λf g h ff ef n=>?_⟩);obtain⟨e1,e2⟩:=Qp.uz ff o.1 λx=>by rw[ef x,← eF x]
   have lf:f.1.length=db*da+1:=by rw[e1,lF,aU]
   have c:=n.cn () () ff lf;rw[e1] at c;exact no h.1 h.2 c ⟨g.1,g.2,n.fg,λx=>by rw[← n.e x,e1,e2]⟩
  ·have cn:Cn F db da G U:=cn;have zR:Pc.Pz (tR nf (db*da)) (bR nf bf (db*da)) R C:=zR;have zG:Pc.Pz (tG nf da) (bG nf da) G U:=zG;obtain⟨m1,m2⟩:=vB cn.2.2 (show 1<=da by lia);have nt:Nt2 (F,B) (R,C) (G,U) db da:=⟨zR.fm,cn.1,cn.2.1,⟨by show G.getD (G.length-1) 0=U;rw[cn.2.1,aH];exact m1,m2⟩,e⟩;have lf:F.length=db*da+1:=by rw[lF,aU]
   have lL:((u++a::b::v).map pq).length=u.length+(v.length+2):=by rw[aa,aj];rfl
   have e1:tZ ((u++a::b::v).map pq) none (some ((u.length:Nat):Int))=u.map pq:=by
    rw[zE (by rw[lL];lia),aM,← aa (f:=pq) (as:=u),eY]
   have e2:tZ ((u++a::b::v).map pq) (some (((u.length:Nat):Int)+2)) none=v.map pq:=by
    rw[show ((u.length:Nat):Int)+2=((u.length+2:Nat):Int) by lia,wY (by rw[lL];lia),aM,ic,aa,show u.length+2-u.length=2 by lia,gD (by rw[aa];lia)];rfl
   refine⟨trivial,?_⟩;show oAdd (.tup (tZ ((u++a::b::v).map pq) none (some ((u.length:Nat):Int)))) (.tup [pD R C,pD G U]) λd=>slD (cD (u++a::b::v)) (some (((u.length:Nat):Int)+2)) none λd'=>oAdd d d' Q;rw[e1];refine⟨by rw[aa];exact tP (by show u.length+2<=_;lia),⟨trivial,?_⟩⟩;show oAdd (.tup (u.map pq++[pD R C,pD G U])) (.tup (tZ ((u++a::b::v).map pq) (some (((u.length:Nat):Int)+2)) none)) Q;rw[e2];have e3:u.map pq++[pD R C,pD G U]++v.map pq=(u++(R,C)::(G,U)::v).map pq:=by rw[aM,fj];rfl
   refine⟨by rw[aj,aa,aa];exact tP (by show u.length+2+v.length<=_;lia),?_⟩;rw[e3];exact q _ (.inr ⟨(F,B),(R,C),(G,U),rfl,nd,zF,lf,eF,nt,nt.lg () () o.1 lf,zR,zG⟩)
abbrev p0:Pl:=([],1)
structure Stt (L:List Pl)(l:List Nat)(zs:Nat->Nat×Nat):Prop where
 nea:Mx L
 len:L.length=l.length
 dg:∀ i,i<l.length->(L.getD i p0).1.length=l.getD i 0+1
 sz:∀ i,i<l.length->Pc.Pz (zs i).1 (zs i).2 (L.getD i p0).1 (L.getD i p0).2
def Xr(i da db:Nat)(e:Nat×Nat)(L L':List Pl):Prop:=∃ u a b v f g h,L=u++a::b::v/\u.length=i/\L'=u++g::h::v/\Pc.Pz e.1 e.2 f.1 f.2/\f.1.length=db*da+1/\Nt2 f a b da db/\Nt2 f g h db da
theorem yn{u u' v v':List Pl}{a b a' b':Pl}(h:u++a::b::v=u'++a'::b'::v')(l:u.length=u'.length):u=u'/\a=a'/\b=b'/\v=v':=by
 obtain⟨h1,h2⟩:=List.append_inj h l;injection h2 with h3 h4;injection h4 with h5 h6;exact⟨h1,h3,h5,h6⟩
theorem Xr.uniq(d1:1<=da)(d2:1<=db)(h:Xr i da db e L M)(h':Xr i da db e' L M'):M=M':=by
 obtain⟨u,a,b,v,f,g,h,rfl,hu,rfl,z,lf,n1,n2⟩:=h;obtain⟨u',a',b',v',f',g',h',e1,hu',rfl,z',lf',m1,m2⟩:=h';obtain⟨rfl,rfl,rfl,rfl⟩:=yn e1 ();have ef:f=f':=by
  obtain⟨x1,x2⟩:=Qp.uz z.fm z'.fm λx=>by rw[n1.e x,m1.e x]
  exact Prod.ext x1 x2
 subst ef;obtain⟨rfl,rfl⟩:=n2.uniq m2 d2 d1 z.fm lf;rfl
theorem C9(h:i+1<L.length):∃ u v,L=u++L.getD i p0::L.getD (i+1) p0::v/\u.length=i:=by
 refine⟨L.take i,L.drop (i+2),?_,by rw[bg];lia⟩;have e1:L.drop i=L.getD i p0::L.drop (i+1):=by
  rw[cU (),ac,aq ()];rfl
 have e2:L.drop (i+1)=L.getD (i+1) p0::L.drop (i+2):=by
  rw[cU (),ac,aq ()];rfl
 rw[← e2,← e1,gH]
theorem Bz:(u++a::b::v).getD u.length p0=a/\(u++a::b::v).getD (u.length+1) p0=b:=by
 rw[ac,ac,az (af _),az (),a9,show u.length+1-u.length=1 by lia];exact⟨rfl,rfl⟩
theorem KA{u v:List Pl}{a b g h:Pl}{t:Nat}(h1:t≠u.length)(h2:t≠u.length+1):(u++g::h::v)[t]? = (u++a::b::v)[t]?:=by
 rcases aw t u.length with y|y
 ·rw[aN y,aN y]
 ·rw[az y,az y];obtain⟨s,hs⟩:∃ s,t-u.length=s+2:=⟨t-u.length-2,()⟩;rw[hs];rfl
def No(zs:Nat->Nat×Nat)(i:Nat):Prop:=(zs i).2+(zs i).2+(zs (i+1)).2*7<=8900000/\(zs i).1+((zs (i+1)).1+(zs (i+1)).2+10)*8<=4000000
theorem Xr.st(d1:1<=da)(d2:1<=db)(s:Stt L l zs)(h:Xr i da db e L L')(hi:i+1<l.length)(ll:l'.length=l.length)(a1:l'.getD i 0=db)(a2:l'.getD (i+1) 0=da)(a3:∀ t,t≠i->t≠i+1->l'.getD t 0=l.getD t 0/\zs' t=zs t)(z1:Pc.Pz (zs' i).1 (zs' i).2 (L'.getD i p0).1 (L'.getD i p0).2)(z2:Pc.Pz (zs' (i+1)).1 (zs' (i+1)).2 (L'.getD (i+1) p0).1 (L'.getD (i+1) p0).2):Stt L' l' zs':=by
 obtain⟨u,a,b,v,f,g,h,rfl,hu,rfl,z,lf,n1,n2⟩:=h;subst hu;obtain⟨x1,x2⟩:=Bz (u:=u) (v:=v) (a:=g) (b:=h);have lg:=n2.lg d2 d1 z.fm lf;have fo:∀(t:Nat),t≠u.length->t≠u.length+1->(u++g::h::v)[t]? = (u++a::b::v)[t]?:=λt h1 h2=>KA h1 h2;have go:∀(t:Nat),t≠u.length->t≠u.length+1->(u++g::h::v).getD t p0=(u++a::b::v).getD t p0:=λt h1 h2=>by
  rw[ac,ac,fo t h1 h2]
 have le:(u++g::h::v).length=(u++a::b::v).length:=by rw[aj,aj];rfl
 have at0:(u++g::h::v)[u.length]? = some g:=by rw[az (af _),a9];rfl
 have at1:(u++g::h::v)[u.length+1]? = some h:=by rw[az (),show u.length+1-u.length=1 by lia];rfl
 have bt0:(u++a::b::v)[u.length]? = some a:=by rw[az (af _),a9];rfl
 refine⟨⟨λc hc=>?_,λt c hc ht=>?_⟩,by rw[le,s.len,ll],λt ht=>?_,λt ht=>?_⟩
 ·rcases bD.mp hc with y|y
  ·exact s.nea.1 c (bD.mpr (.inl y))
  ·rcases au.mp y with y|y
   ·rw[y];exact n2.fg
   ·rcases au.mp y with y|y
    ·rw[y];exact n2.fh
    ·exact s.nea.1 c (bD.mpr (.inr (aC _ (aC _ y))))
 ·by_cases e1:t=u.length
  ·subst e1;rw[at0] at hc;cases hc;exact n2.ne1 d2 d1 z.fm lf n1 (s.nea.2 _ a bt0 ht)
  ·by_cases e2:t=u.length+1
   ·subst e2;rw[at1] at hc;cases hc;exact n2.ne
   ·rw[fo t e1 e2] at hc;exact s.nea.2 t c hc ht
 ·by_cases e1:t=u.length
  ·subst e1;rw[x1,a1,lg]
  ·by_cases e2:t=u.length+1
   ·subst e2;rw[x2,a2,n2.lh]
   ·rw[go t e1 e2,(a3 t e1 e2).1];exact s.dg t ()
 ·by_cases e1:t=u.length
  ·rw[e1];exact z1
  ·by_cases e2:t=u.length+1
   ·rw[e2];exact z2
   ·rw[go t e1 e2,(a3 t e1 e2).2];exact s.sz t ()
theorem Gb(s:Stt L l zs)(hi:i+1<l.length)(l3:l.length<=3)(hda:l.getD i 0=da)(hdb:l.getD (i+1) 0=db)(da2:2<=da)(da6:da<=6)(db2:2<=db)(db6:db<=6)
  (hB:da≠db->da*db<=12/\No zs i/\e.2<=e.1/\e.1<=80000/\∀ f:Pl,Pc.Of (L.getD i p0).1 (L.getD i p0).2 (L.getD (i+1) p0).1 (L.getD (i+1) p0).2 f.1 f.2->Pc.Pz e.1 e.2 f.1 f.2)
  (hA:da=db->Q .non) (hN:da≠db->(∀ e' L',¬ Xr i da db e' L L')->Q .non)
  (hY:da≠db->∀ L',Xr i da db e L L'->Pc.Pz (tR e.1 (db*da)) (bR e.1 e.2 (db*da)) (L'.getD i p0).1 (L'.getD i p0).2->Pc.Pz (tG e.1 da) (bG e.1 da) (L'.getD (i+1) p0).1 (L'.getD (i+1) p0).2->Q (cD L')) :
  [cD L,.int (i:Nat)].length=iI.n/\iI.run [cD L,.int (i:Nat)] Q:=by
 have hi':i+1<L.length:=by rw[s.len];exact hi
 obtain⟨u,v,eL,hu⟩:=C9 hi';have lv:u.length+(v.length+2)=L.length:=by
  have:=congrArg List.length eL;rw[aj] at this;exact this.symm
 have sl:=s.len;have la:=s.dg i ();have lb:=s.dg (i+1) hi;have za:=s.sz i ();have zb:=s.sz (i+1) hi;have nb:=s.nea.2 (i+1) (L.getD (i+1) p0) (by rw[ac,aq hi'];rfl) ();have fa:=za.fm;have fb:=zb.fm;rw[hda] at la;rw[hdb] at lb;generalize L.getD i p0=a at *;generalize L.getD (i+1) p0=b at *;subst eL;subst hu;refine⟨rfl,(u,a,b,v,da,db,(zs u.length).1,(zs u.length).2,(zs (u.length+1)).1,(zs (u.length+1)).2,e.1,e.2),⟨rfl,(),(),la,lb,da2,da6,db2,db6,λnd=>?_⟩,?_⟩
 ·obtain⟨h1,⟨h2,h3⟩,h4,h5,h6⟩:=hB nd;exact⟨h1,za,zb,h2,h3,h4,h5,h6⟩
 ·rintro _ (⟨rfl,(h|h)⟩|⟨f,g,h,rfl,nd,zf,lf,ef,nt,lg,zg,zh⟩)
  ·exact hA h
  ·by_cases nd:da=db
   ·exact hA nd
   ·refine hN nd λe' L' x=>?_;obtain⟨u',a',b',v',f,g,h',e1,hu',rfl,z,lf,n1,n2⟩:=x;obtain⟨rfl,rfl,rfl,rfl⟩:=yn e1 ();exact h f g h' z.fm n1.e n2
  ·obtain⟨x1,x2⟩:=Bz (u:=u) (v:=v) (a:=g) (b:=h);exact hY nd _ ⟨u,a,b,v,f,g,h,rfl,rfl,rfl,zf,lf,⟨fa,fb,lb,nb,ef⟩,nt⟩ (by rw[x1];exact zg) (by rw[x2];exact zh)
end Dp
namespace Dp
open PySem L2
def Wt(y:Nat)(R:List Int)(C:Int)(s:Nat):Prop:=∀ j,j<=s->(R.getD (s-j) 0).natAbs<=C.natAbs*2^(y*j)
theorem Wt.pz(h:Wt y R C s)(fm:Po.Fm R C)(l:R.length=s+1)(hb:Lt2 b C):Pc.Pz (b+y*s) b R C:=by
 refine⟨fm,λi=>?_,hb⟩;rcases aw s i with z|z
 ·rw[sk ()];exact uw _
 ·have w:=h (s-i) ();rw[show s-(s-i)=i by lia] at w;have p:2^(y*(s-i))<=2^(y*s):=cu (by decide) (ae _ ());have hb:C.natAbs<2^b:=hb;show (R.getD i 0).natAbs<2^(b+y*s);rw[du];exact bJ w (bJ (ae _ p) (cO hb (bM (by decide))))
def jP:SpB:=.of 1 (α:=List Int×Nat×Nat×Nat) (λ(ts,n,M,Z) ds=>ds=[.tup (ts.map .int)]/\ts.length=n+1/\n<=20/\(∀ i,Lt2 M (ts.getD i 0))/\M<=9000000/\Lt2 Z (ts.getD n 0)/\(Z+1)*(n+2)<=390000/\ts.getD n 0≠0)
 (λ(ts,n,M,Z) d=>∃ c:Int,d = .int c/\0<c/\Lt2 Z c/\∀ j,j<=n->ts.getD n 0∣ts.getD (n-j) 0*c^j)
theorem k9:Does 5 nj jP:=by
 rintro ds Q hn ⟨⟨ts,n,M,Z⟩,⟨rfl,ln,n20,hM,M3,hZ,Z9,hL⟩,q⟩;dsimp only at ln n20 hM M3 hZ Z9 hL q;have Zl:Z+1<=(Z+1)*(n+2):=aZ _ ();obtain⟨m,hm⟩:∃ m:Int,m=(((ts.getD n 0).natAbs:Nat):Int):=⟨_,rfl⟩;have m0:0<m:=by lia
 have lm:Lt2 Z m:=by rw[hm];exact hZ.le (by rw[bc];exact af _)
 have dv:∀ y:Int,m∣y↔ts.getD n 0∣y:=λy=>by rw[hm];exact Int.natAbs_dvd
 have small:∀ c:Int,0<c->c∣m->Lt2 Z c:=λc c0 hc=>lm.le (cw () (bq.mpr hc));suffices h1:je.run (sH Q) [.val (.tup (ts.map .int)),.vi n,.vi m,.no,.no] by
  refine tI (ug (j:=1) (n:=n+1) (v:=.int (ts.getD n 0)) (sY ()) (by rw[aa,ln]) (by decide) ()) ?_;show je.run (sH Q) [.val (.tup (ts.map .int)),.vi (((ts.map D.int).length:Int)-1),.vi (if ts.getD n 0<0 then -(ts.getD n 0) else ts.getD n 0),.no,.no];rw[aa,ln,show ((n+1:Nat):Int)-1=(n:Int) by lia,uv,← hm];exact h1
 have en:((n:Int)+1-1).toNat=n:=by lia
 refine⟨⟨(),(),(),()⟩,λi s=>∃(c:Int) (o:SD),s=[.val (.tup (ts.map .int)),.vi n,.vi m,.vi c,o]/\0<c/\c∣m/\∀ j,j<=i->ts.getD n 0∣ts.getD (n-j) 0*c^j,⟨1,.no,rfl,by decide,Int.one_dvd _,λj hj=>?_⟩,?_,?_⟩
 ·rw[show j=0 by lia,bA];exact dY _ _
 ·rintro i d _ hd ⟨c,o,rfl,c0,cm,hj⟩;obtain⟨hi,rfl⟩:=sP hd;have hi:i<n:=by lia
  have e1:(1:Int)+(i:Int)=((i+1:Nat):Int):=by lia
  rw[e1];have em:(n:Int)-((i+1:Nat):Int)=((n-(i+1):Nat):Int):=by lia
  have lc:=small c c0 cm;have b2:(Z+1)*(i+1+1)<=(Z+1)*(n+2):=ae _ ();have b3:Z*(i+1)<=(Z+1)*(n+2):=aW () ();refine tI (d:=.int (ts.getD (n-(i+1)) 0)) (by rw[em];exact ua (sY ())) ⟨rfl,(c,i+1,Z),⟨rfl,lc,(),()⟩,?_⟩;rintro _ rfl;refine⟨⟨_,_,hM _,Hv.sL lc (i+1),()⟩,rfl,(m,ts.getD (n-(i+1)) 0*c^(i+1)),rfl,?_⟩;rintro _ rfl;dsimp only;have g0:=uQ (a:=m) (b:=ts.getD (n-(i+1)) 0*c^(i+1)) ();have gd:=(vg m (ts.getD (n-(i+1)) 0*c^(i+1))).1;obtain⟨e,q0,ql⟩:=sZ g0 m0 gd;have nx:=Eo (x:=ts.getD (n-(i+1)) 0*c^(i+1)) m0;have gl:(Fr.cp m (ts.getD (n-(i+1)) 0*c^(i+1))).natAbs<=m.natAbs:=cw () (bq.mpr gd);have lq:=lm.le ql;have cx:c∣ts.getD (n-(i+1)) 0*c^(i+1):=gC ⟨c^i,by rw[a6,bo]⟩;refine⟨⟨(),Z,lm.le gl,()⟩,⟨_,_,lc,lq,()⟩,_,_,rfl,ay c0 q0,C8 m0 cm cx,λj hj'=>?_⟩;generalize m.fdiv (Fr.cp m (ts.getD (n-(i+1)) 0*c^(i+1)))=y at *;rw[gR,← bC];rcases bN hj' with z|z
  ·subst z;have ey:y^(i+1)=y*y^i:=by rw[a6,bo]
   rw[ey,← bC];exact eA ((dv _).mp nx)
  ·exact eA (hj j ())
 ·rintro _ ⟨c,o,rfl,c0,cm,hj⟩;rw[sE,en] at hj;exact q _ ⟨c,rfl,c0,small c c0 cm,hj⟩
def ku:SpB:=.of 2 (α:=List Int×List Int×Nat×Nat×Nat×Nat) (λ(L,b,s,N,A,w) ds=>ds=[.lst (L.map .int),.lst (b.map .int)]/\b.length=s+1/\b.getD s 0=1/\1<=s/\s<=100/\L.length<=N+1/\N<=100/\(∀ i,Lt2 (A+w*(N-i)) (L.getD i 0))/\(∀ i,i<=s->Lt2 (w*(s-i)+1) (b.getD i 0))/\A+w*N<=40000000)
 (λ(L,b,s,N,A,w) d=>∃ K R:List Int,d = .tup [.lst (K.map .int),.lst (R.map .int)]/\K.length=L.length-s/\R.length=min L.length s/\(∀ k,L.getD k 0=R.getD k 0+Cv.cv (Cv.fn K) (Cv.fn b) k)/\(∀ i,Lt2 (A+2*(L.length-s)+w*(N-s-i)) (K.getD i 0))/\(∀ i,Lt2 (A+2*(L.length-s)+w*(N-i)) (R.getD i 0)))
theorem oH:Does 7 rj ku:=by
 rintro ds Q hn ⟨⟨L,b,s,N,A,w⟩,⟨rfl,lb,b1,s1,s2,ll,N1,hA,hZ,A8⟩,q⟩;dsimp only at lb b1 s1 s2 ll N1 hA hZ A8 q;suffices h2:kY.run (sH Q) [.val (.lst (L.map .int)),.val (.lst (b.map .int)),.own (L.map .int),.vi s,.own [],.no,.no] by
  refine⟨aB _,?_⟩;show kY.run (sH Q) [.val (.lst (L.map .int)),.val (.lst (b.map .int)),.own (L.map .int),.vi (((b.map D.int).length:Int)-1),.own [],.no,.no];rw[aa,lb,show ((s+1:Nat):Int)-1=(s:Int) by lia];exact h2
 refine⟨λst=>∃(o5 o6:SD) (l M:List Int) (W:Nat->Int),st=[.val (.lst (L.map .int)),.val (.lst (b.map .int)),.own (l.map .int),.vi s,.own (M.map .int),o5,o6]/\l.length+M.length=L.length/\(M.length=0\/s<=l.length) /\
   (∀ k,L.getD k 0=l.getD k 0+Cv.cv W (Cv.fn b) k)/\(∀ v,v+s<l.length->W v=0)/\(∀ u,u<M.length->M.getD u 0=W (L.length-s-1-u))/\(∀ v,L.length<=v+s->W v=0)/\(∀ i,Lt2 (A+2*M.length+w*(N-i)) (l.getD i 0))/\(∀ i,Lt2 (A+2*M.length+w*(N-s-i)) (W i)),
  λst=>match st with|[_,_,.own l,_,_,_,_]=>l.length|_=>0,⟨.no,.no,L,[],λ_=>0,rfl,rfl,.inl rfl,λk=>?_,λ_ _=>rfl,λu hu=>absurd hu (bZ _),λ_ _=>rfl,λi=>(hA i).mono (by simp),λ_=>uw _⟩,?_⟩
 ·rw[Cv.v5 λ_=>rfl,bQ]
 rintro _ ⟨o5,o6,l,M,W,rfl,lM,hs,hW,w0,hM,wt,hl,hw⟩;refine v8 (p:=(s:Int)<(((l.map D.int).length:Nat):Int)) (λc=>?_) (λc=>?_)
 ·rw[aa] at c;obtain⟨p,hp⟩:∃ p,l.length=p+1:=⟨l.length-1,()⟩;have sp:s<=p:=by lia
  have lt:Lt2 (A+2*M.length+w*(N-p)) (l.getD p 0):=hl p;have wN:w*(N-p)<=w*N:=ae _ (Nat.sub_le _ _);refine⟨.int (l.getD p 0),by rw[aa,hp];exact sY (),?_⟩;refine⟨by rw[aa,sizeLine_eq];lia,?_⟩;generalize hm:l.getD p 0=m at *;refine⟨(),(),λi st=>∃(o6:SD) (r:List Int),st=[.val (.lst (L.map .int)),.val (.lst (b.map .int)),.own (r.map .int),.vi s,.own ((M++[m]).map .int),.vi m,o6]/\r.length=p/\∀ k,k<p->r.getD k 0=l.getD k 0-(if p-s<=k/\k<p-s+i then m*b.getD (k-(p-s)) 0 else 0),⟨o6,l.dropLast,?_,by rw[gN,hp];rfl,λk hk=>?_⟩,?_,?_⟩
  ·show [SD.val (.lst (L.map .int)),.val (.lst (b.map .int)),.own (l.map D.int).dropLast,.vi s,.own (M.map D.int++[.int m]),.vi m,o6]=_;rw[xJ,List.map_dropLast]
  ·rw[Gd (),if_neg ()];lia
  ·rintro i d _ hd ⟨o6,r,rfl,lr,hr⟩;obtain⟨hi,rfl⟩:=sP hd;have hi:i<s:=by lia
   have ei:(((r.map D.int).length:Nat):Int)-(s:Int)+(0+(i:Int))=((p-s+i:Nat):Int):=by rw[aa,lr];lia
   have e0:(0:Int)+(i:Int)=(i:Int):=by lia
   refine⟨(congrArg (λz:Int=>0<=z) ei).mpr (),?_⟩;have et:((((r.map D.int).length:Nat):Int)-(s:Int)+(0+(i:Int))).toNat=p-s+i:=by rw[ei,aJ]
   refine yI (d:=.int (r.getD (p-s+i) 0)) (by rw[et];exact sY ()) ?_;refine tI (d:=.int (b.getD i 0)) (by rw[e0];exact ua (sY ())) ?_;have wi:w*(N-p)+w*(s-i)<=w*N:=by
    rw[← dR];exact ae _ ()
   refine⟨⟨_,_,lt,hZ i (),()⟩,.vi (0+(i:Int)),r.set (p-s+i) (r.getD (p-s+i) 0-m*b.getD i 0),?_,by rw[aS,lr],λk hk=>?_⟩
   ·show [SD.val (.lst (L.map .int)),.val (.lst (b.map .int)),.own ((r.map D.int).set ((((r.map D.int).length:Nat):Int)-(s:Int)+(0+(i:Int))).toNat (.int (r.getD (p-s+i) 0-m*b.getD i 0))),.vi s,.own ((M++[m]).map .int),.vi m,.vi (0+(i:Int))]=_;rw[et,map_set]
   ·rw[Dd ()];by_cases c:k=p-s+i
    ·rw[if_pos c,hr _ (),if_neg (),if_pos (),c,show p-s+i-(p-s)=i by lia];lia
    ·rw[if_neg c,hr k hk];by_cases c2:p-s<=k/\k<p-s+i
     ·rw[if_pos c2,if_pos ()]
     ·rw[if_neg c2,if_neg ()]
  ·rintro _ ⟨o6,r,rfl,lr,hr⟩;rw[sE,aJ] at hr;have wv:W (p-s)=0:=w0 _ ();have key:∀ k,l.getD k 0=r.getD k 0+(if p-s<=k then m*Cv.fn b (k-(p-s)) else 0):=λk=>by
    unfold Cv.fn;rcases Nat.lt_trichotomy k p with z|z|z
    ·rw[hr k z];by_cases c2:p-s<=k
     ·rw[if_pos (),if_pos c2];lia
     ·rw[if_neg (),if_neg c2];lia
    ·subst z;rw[sk (fs:=r) (),if_pos (),show k-(k-s)=s by lia,b1,hm];lia
    ·rw[sk (fs:=l) (),sk (fs:=r) (),sk (fs:=b) ()];split <;> lia
   have mz:2*(M++[m]).length=2*M.length+2:=by rw[aj];exact bI _ _
   refine⟨⟨_,_,r,M++[m],Hs W (p-s) m,rfl,by rw[aj,lr];simp;lia,.inr (),λk=>?_,λv hv=>?_,λu hu=>?_,λv hv=>?_,λi=>?_,λi=>?_⟩,?_⟩
   ·rw[hW k,key k,Jd];lia
   ·rw[xY ()];exact w0 v ()
   ·rw[ya];by_cases e:u=M.length
    ·rw[if_pos e,show L.length-s-1-u=p-s by lia,CY wv]
    ·rw[if_neg e];rw[aj] at hu;have hu:u<M.length+1:=hu;rw[hM u (),xY ()]
   ·rw[xY ()];exact wt v hv
   ·rw[mz];rcases aw i p with z|z
    ·rw[hr i z];split
     ·rename_i ci;have wi:w*(N-p)+w*(s-(i-(p-s)))=w*(N-i):=by
       rw[← dR];congr 1;lia
      rw[show A+(2*M.length+2)+w*(N-i)=(A+2*M.length+w*(N-i)+1)+1 by lia];exact ((hl i).mono ()).sub ((lt.mul (hZ (i-(p-s)) ())).mono ())
     ·rw[Int.sub_zero];exact (hl i).mono ()
    ·rw[sk ()];exact uw _
   ·rw[mz];by_cases e:i=p-s
    ·rw[e,CY wv];rw[show N-s-(p-s)=N-p by lia];exact lt.mono ()
    ·rw[xY e];exact (hw i).mono ()
   ·show (r.map D.int).length<(l.map D.int).length;rw[aa,aa];lia
 ·rw[aa] at c;have fK:∀ v,M.reverse.getD v 0=W v:=λv=>by
   rcases aw v M.length with z|z
   ·rw[ac,bE z,← ac,hM _ ()];congr 1;lia
   ·rw[sk (by rw[a5];exact z)];exact (wt v ()).symm
  refine⟨tz,q _ ⟨M.reverse,l,?_,by rw[a5];lia,(),λk=>?_,λi=>?_,λi=>?_⟩⟩
  ·show D.tup [.lst (M.map D.int).reverse,.lst (l.map D.int)]=_;rw[← fB]
  ·rw[hW k];congr 1;exact Cv.sW (λj=>(fK j).symm) λ_=>rfl
  ·rw[fK];exact (hw i).mono ()
  ·exact (hl i).mono ()
def eB(b0 b:Nat):Nat:=b0+b*12+20
def yB(a w b:Nat):Nat:=a+420+(w+b)*12
def E1(P:List Int)(B:Int)(G:List Int)(U:Int)(s n z e y:Nat)(Ps:List (List Int×Int)):Prop:=∃(N:Nat->Nat->Int) (E:Nat->Int) (Dv:Int),(0<Dv/\Lt2 z Dv/\B∣Dv)/\Ps≠[]/\Ps.length<=20/\(∀ t k,13<=k->N t k=0)/\(∀ t,0<E t/\Lt2 e (E t))/\(∀ t k,Lt2 y (N t k))/\(∀ k,N Ps.length k=0)/\(∀ k,N 0 k*B=P.getD k 0*E 0) /\
 (∀ t p,Ps[t]? = some p->(1<=t->p.2∣Dv)/\Pc.Pz y e p.1 p.2/\p.1.length<=s/\(t+1=Ps.length->p.1≠[])/\∀(R:Nat->Int) (C:Int),0<C->(∀ k,R k*E (t+1)=N (t+1) k*C)->∀ k,(Cv.cv R (Cv.fn G) k*p.2+p.1.getD k 0*(C*U))*E t=N t k*(C*U*p.2))
theorem Er(z1:Pc.Pz a b0 P B)(ln:P.length=n+1)(n2:n<=12)(lt:n<s)(h1:b0<=z)(h2:b0+1<=e)(h3:a<=y):E1 P B G U s n z e y [(P,B)]:=by
 have B0:=z1.fm.pos;refine⟨λt k=>if t=0 then P.getD k 0 else 0,λt=>if t=0 then B else 1,B,⟨B0,z1.bot.mono (),gL _⟩,by simp,by show 1<=20;decide,λt k hk=>?_,λt=>?_,λt k=>?_,λk=>rfl,λk=>rfl,λt p hp=>?_⟩
 ·dsimp only;split
  ·exact sk ()
  ·rfl
 ·dsimp only;split
  ·exact⟨B0,z1.bot.mono ()⟩
  ·exact⟨by decide,Lt2.mono (n:=1) (by decide) ()⟩
 ·dsimp only;split
  ·exact (z1.tops k).mono ()
  ·exact uw _
 ·match t,hp with
  | 0,hp =>
   cases hp;refine⟨λh=>absurd h (by decide),z1.mono () (),by show P.length<=s;lia,λ_ h=>?_,λR C C0 hR k=>?_⟩
   ·have h:P=[]:=h;rw[h] at ln;cases ln
   ·have r0:∀ k,R k=0:=λk=>by
     have:R k*(if (0:Nat)+1=0 then B else 1)=(if (0:Nat)+1=0 then P.getD k 0 else 0)*C:=hR k;rw[if_neg (by decide),if_neg (by decide)] at this;lia
    rw[Cv.v5 r0];dsimp only;rw[if_pos rfl,if_pos rfl];grind
def JD(P:List Int)(B:Int)(G:List Int)(U c ov un:Int)(b:List Int)(n s A w y:Nat)(i:Nat)(st:SS):Prop :=
 ∃(o7 o8 o12 o13 o14:SD) (l:List Int) (Ps:List (List Int×Int)) (L Dt:Nat->Nat->Int),st=[.val (pD P B),.val (pD G U),.vi n,.vi s,.vi c,.val (.lst (b.map .int)),.val (.lst (l.map .int)),o7,o8,.vi ov,.vi un,.own (Ps.map λp=>pD p.1 p.2),o12,o13,o14] /\
  Ps.length=i/\l.length=n+1-s*i/\(∀ k,l.getD k 0=L i k)/\(0<l.length->l.getD (l.length-1) 0≠0)/\(∀ k,L 0 k=P.getD k 0*c^(n-k))/\(∀ t,t<=i->∀ k,Lt2 (A+26*t+w*(n-s*t-k)) (L t k)/\(n<k->L t k=0))/\(∀ t k,t<i->L t k=Dt t k+Cv.cv (L (t+1)) (Cv.fn b) k) /\
  (∀ t p,Ps[t]? = some p->Po.Fm p.1 p.2/\p.1.length<=s/\(∀ k,Lt2 y (Dt t k*(c^k*ov^t)))/\(t=n / s->p.1≠[])/\∀ k,p.1.getD k 0*(B*un^t*c^(n-s*t))=Dt t k*(c^k*ov^t)*p.2)
theorem Es(hu1:un=1)(hA:A<=a+2)(hy:y=yB a w bb)(z1:Pc.Pz a b0 P B)(ln:P.length=n+1)(n2:n<=12)(s1:1<=s)(sn:s<=n)(c0:0<c)(lc:Lt2 bb c)(u0:0<un)(lu:Lt2 1 un)(lo:Lt2 1 ov)(hb:∀ j,j<=s->Cv.fn b j*G.getD s 0=Cv.fn G j*c^(s-j))(lb:b.length=s+1)(lG:G.length=s+1)(hl:G.getD s 0*ov=un*U)
  (h:JD P B G U c ov un b n s A w y (n / s+1) st):∃ o7 o8 o12 o13 o14 x,∃ Ps:List (List Int×Int),st=[.val (pD P B),.val (pD G U),.vi n,.vi s,.vi c,.val (.lst (b.map .int)),x,o7,o8,.vi ov,.vi un,.own (Ps.map λp=>pD p.1 p.2),o12,o13,o14]/\E1 P B G U s n (b0+bb*(n-s)+1) (eB b0 bb) y Ps:=by
 obtain⟨o7,o8,o12,o13,o14,l,Ps,L,Dt,rfl,lP,ll,hL,_,h0,hs,hr,hd⟩:=h;have B0:=z1.fm.pos;have ns:s*(n / s)<=n:=gu n s;have ns2:n<s*(n / s+1):=gU n ();have T12:n / s<=12:=aE (dG _ _) n2;have le:l=[]:=by
  apply fZ;rw[ll];lia
 have LT:∀ k,L (n / s+1) k=0:=λk=>by rw[← hL k,le];rfl
 refine⟨o7,o8,o12,o13,o14,_,Ps,rfl,λt k=>if t<=n / s then L t k*(c^k*ov^t) else 0,λt=>if t<=n / s then B*un^t*c^(n-s*t) else 1,B*c^(n-s),⟨ay B0 (bw c0),(z1.bot.mul (Hv.sL lc (n-s))).mono (),dY _ _⟩,?_,(),λt k hk=>?_,λt=>?_,λt k=>?_,λk=>?_,λk=>?_,λt p hp=>?_⟩
 ·intro z;rw[z] at lP;cases lP
 ·dsimp only;split
  ·rw[(hs t () k).2 (),ax]
  ·rfl
 ·dsimp only;split
  ·rename_i tl;refine⟨ay (ay B0 (bw u0)) (bw c0),?_⟩;exact ((z1.bot.mul (uf lu (show t<=12 by lia))).mul (uf lc (show n-s*t<=12 by lia))).mono (by unfold eB;lia)
  ·exact⟨by decide,Lt2.mono (n:=1) (by decide) (by unfold eB;lia)⟩
 ·dsimp only;split
  ·rename_i tl;obtain⟨x1,x2⟩:=hs t () k;rcases aw n k with z|z
   ·rw[x2 z,ax];exact uw _
   ·have wk:w*(n-s*t-k)<=w*12:=ae _ ();exact (x1.mul ((uf lc (show k<=12 by lia)).mul (uf lo (show t<=12 by lia)))).mono (by rw[hy];unfold yB;lia)
  ·exact uw _
 ·rw[lP];exact if_neg ()
 ·show (if 0<=n / s then L 0 k*(c^k*ov^0) else 0)*B=P.getD k 0*(if 0<=n / s then B*un^0*c^(n-s*0) else 1);rw[if_pos (aB _),if_pos (aB _),h0 k,aP,aP,fv,bA];rcases aw n k with z|z
  ·rw[sk (fs:=P) ()];simp
  ·have e:c^n=c^(n-k)*c^k:=by
    rw[← bS];congr 1;lia
   rw[e];grind
 ·have tl:t<=n / s:=by
   have:=(ak.mp hp).1;lia
  obtain⟨d1,d2,d3,d4,d5⟩:=hd t p hp;have E0:0<B*un^t*c^(n-s*t):=ay (ay B0 (bw u0)) (bw c0);have El:Lt2 (eB b0 bb) (B*un^t*c^(n-s*t)):=((z1.bot.mul (uf lu (show t<=12 by lia))).mul (uf lc (show n-s*t<=12 by lia))).mono (by unfold eB;lia);have dv:1<=t->p.2∣B*c^(n-s):=λt1=>by
   have h1:p.2∣B*un^t*c^(n-s*t):=Jb d1 d5;rw[hu1,Int.one_pow,bx] at h1;have:s*1<=s*t:=ae s t1;exact dZ h1 (gn (gL _) (Ie _ ()))
  refine⟨dv,Pc.Pz.of d1 E0 d5 d3 El,d2,λe=>d4 (),λR C C0 hR k=>?_⟩;have hR:∀ k,R k*(if t+1<=n / s then B*un^(t+1)*c^(n-s*(t+1)) else 1)=(if t+1<=n / s then L (t+1) k*(c^k*ov^(t+1)) else 0)*C:=hR;show (Cv.cv R (Cv.fn G) k*p.2+p.1.getD k 0*(C*U))*(if t<=n / s then B*un^t*c^(n-s*t) else 1)=(if t<=n / s then L t k*(c^k*ov^t) else 0)*(C*U*p.2);rw[if_pos tl,if_pos tl,hr t k ()];refine Dg.JI ?_ (d5 k);rcases aw t (n / s) with z|z
  ·have st:s*(t+1)<=n:=aE (ae s z) ns;refine Dg.x6 (Gs:=G.getD s 0) hb (λj hj=>Cv.sx ()) (λj hj=>Cv.sx ()) hl u0 st (λk=>?_) k;have:=hR k;rw[if_pos (),if_pos ()] at this;rw[this,← bC]
  ·have r0:∀ k,R k=0:=λk=>by
    have:=hR k;rw[if_neg (),if_neg ()] at this;lia
   have e:t+1=n / s+1:=by lia
   rw[Cv.v5 r0,e,Cv.v5 LT];simp
theorem Et{P:List Int}{B:Int}{G:List Int}{U c ov un:Int}{b:List Int}{n s i a bb A w y:Nat}{l K R ts p1:List Int}{p2:Int}{Ps:List (List Int×Int)}{L Dt:Nat->Nat->Int}(o7 o8 o12 o13 o14:SD)(n2:n<=12)(s1:1<=s)(s8:s<=12)(hi:i<=n / s)(hA:A<=a+2)(hy:y=yB a w bb)(c0:0<c)(lc:Lt2 bb c)(o0:ov≠0)(lo:Lt2 1 ov)(E0:0<B*un^i*c^(n-s*i))(lb:b.length=s+1)(b1:b.getD s 0=1)
  (lP:Ps.length=i) (ll:l.length=n+1-s*i) (hL:∀ k,l.getD k 0=L i k) (ht:0<l.length->l.getD (l.length-1) 0≠0) (h0:∀ k,L 0 k=P.getD k 0*c^(n-k)) (hs:∀ t,t<=i->∀ k,Lt2 (A+26*t+w*(n-s*t-k)) (L t k)/\(n<k->L t k=0)) (hr:∀ t k,t<i->L t k=Dt t k+Cv.cv (L (t+1)) (Cv.fn b) k)
  (hd:∀ t p,Ps[t]? = some p->Po.Fm p.1 p.2/\p.1.length<=s/\(∀ k,Lt2 y (Dt t k*(c^k*ov^t)))/\(t=n / s->p.1≠[])/\∀ k,p.1.getD k 0*(B*un^t*c^(n-s*t))=Dt t k*(c^k*ov^t)*p.2)
  (lK:K.length=l.length-s) (lR:R.length=min l.length s) (hK:∀ k,l.getD k 0=R.getD k 0+Cv.cv (Cv.fn K) (Cv.fn b) k) (sK:∀ j,Lt2 (A+26*i+2*(l.length-s)+w*(n-s*i-s-j)) (K.getD j 0)) (sR:∀ j,Lt2 (A+26*i+2*(l.length-s)+w*(n-s*i-j)) (R.getD j 0))
  (lt:ts.length=R.length) (et:∀ k,k<R.length->ts.getD k 0=R.getD k 0*c^k*ov^i) (fm:Po.Fm p1 p2) (hw:∀ k,p1.getD k 0*(B*un^i*c^(n-s*i))=ts.getD k 0*p2) (hle:p1.length<=ts.length) :
  JD P B G U c ov un b n s A w y (i+1) [.val (pD P B),.val (pD G U),.vi n,.vi s,.vi c,.val (.lst (b.map .int)),.val (.lst (K.map .int)),o7,o8,.vi ov,.vi un,.own ((Ps.map λp=>pD p.1 p.2)++[pD p1 p2]),o12,o13,o14]:=by
 have ns:s*(n / s)<=n:=gu n s;have si:s*i<=n:=aE (ae s hi) ns;have st:s*(i+1)=s*i+s:=bI s i;have i12:i<=12:=aE hi (aE (dG _ _) n2);have tsk:∀ k,ts.getD k 0=R.getD k 0*(c^k*ov^i):=λk=>by
  rcases aw k R.length with z|z
  ·rw[et k z,bC]
  ·rw[sk (),sk z,ax]
 refine⟨o7,o8,o12,o13,o14,K,Ps++[(p1,p2)],λt k=>if t<=i then L t k else K.getD k 0,λt k=>if t<i then Dt t k else R.getD k 0,by rw[aM];rfl,by rw[aj,lP];rfl,by rw[lK,ll,st];lia,λk=>(if_neg ()).symm,λhk=>?_,λk=>?_,λt tl k=>?_,λt k tl=>?_,λt p hp=>?_⟩
 ·have ls:s<l.length:=by lia
  have e:=hK (l.length-1);rw[sk (fs:=R) (),bO] at e;have e2:=Pc.yA (f:=Cv.fn K) (g:=Cv.fn b) (a:=K.length-1) (b:=s) (λj hj=>Cv.sx ()) (λj hj=>Cv.sx ());rw[show K.length-1+s=l.length-1 by lia] at e2;rw[e2] at e;have b1':Cv.fn b s=1:=b1;rw[b1',bx] at e;have:=ht ();rw[e] at this;exact this
 ·show (if 0<=i then L 0 k else K.getD k 0)=_;rw[if_pos (aB _)];exact h0 k
 ·dsimp only;split
  ·exact hs t (by assumption) k
  ·rw[show t=i+1 by lia];refine⟨(sK k).mono ?_,λh=>sk ()⟩;rw[show n-s*(i+1)-k=n-s*i-s-k by lia];lia
 ·dsimp only;rcases aw t i with z|z
  ·rw[if_pos (),if_pos z,hr t k z];congr 1;exact Cv.sW (λj=>(if_pos ()).symm) λ_=>rfl
  ·have e:t=i:=by lia
   subst e;rw[if_pos (af _),if_neg (),← hL k,hK k];congr 1;exact Cv.sW (λj=>(if_neg ()).symm) λ_=>rfl
 ·rcases aw t Ps.length with z|z
  ·rw[aN z] at hp;have e:(λk=>if t<i then Dt t k else R.getD k 0)=Dt t:=funext λk=>if_pos ();obtain⟨d1,d2,d3,d4,d5⟩:=hd t p hp;refine⟨d1,d2,λk=>?_,d4,λk=>?_⟩
   ·dsimp only;rw[if_pos ()];exact d3 k
   ·dsimp only;rw[if_pos ()];exact d5 k
  ·have e:t=i:=by
    have:=(ak.mp hp).1;rw[aj] at this;simp at this;lia
   subst e;rw[az z,lP,a9] at hp;cases hp;refine⟨fm,by show p1.length<=s;lia,λk=>?_,λhn hp=>?_,λk=>?_⟩
   ·dsimp only;rw[if_neg ()];rcases aw k R.length with y|y
    ·have wk:w*(n-s*t-k)<=w*12:=ae _ ();exact ((sR k).mul ((uf lc (show k<=12 by lia)).mul (uf lo (show t<=12 by lia)))).mono (by rw[hy];unfold yB;lia)
    ·rw[sk y,ax];exact uw _
   ·have hp:p1=[]:=hp;subst hp;have l1:0<l.length:=by lia
    have ls:l.length<=s:=by
     have:=gU n (show 0<s by lia);rw[← hn] at this;lia
    have e:=hK (l.length-1);have kn:K=[]:=fZ ();have k0:∀ j,Cv.fn K j=0:=λj=>by rw[kn];rfl
    rw[Cv.v5 k0,bQ] at e;have w:=hw (l.length-1);rw[tsk,← e] at w;have w:(0:Int)*(B*un^t*c^(n-s*t))=_:=w;rw[ax] at w;exact bh (bh (ht l1) (bh (bu (am c0)) (bu o0))) (am fm.pos) w.symm
   ·dsimp only;rw[if_neg (),← tsk];exact hw k
theorem CI{P:List Int}{B:Int}{G:List Int}{U c ov un:Int}{bs:List Int}{n s i a b0 bb A w y:Nat}{st:SS}{E:EndsD}(hA:A<=a+2)(hyB:y=yB a w bb)(cap:a+b0+(w+bb)*15<=8000000)(cap2:(bb+1)*14<=390000)(n2:n<=12)(s1:1<=s)(s8:s<=12)(hi:i<=n / s)(B0:0<B)(lB:Lt2 b0 B)(c0:0<c)(lc:Lt2 bb c)(o0:ov≠0)(lo:Lt2 1 ov)(u0:0<un)(lu:Lt2 1 un)(lb:bs.length=s+1)(b1:bs.getD s 0=1)(hZ:∀ j,j<=s->Lt2 (w*(s-j)+1) (bs.getD j 0))
  (hE:∀ st,JD P B G U c ov un bs n s A w y (i+1) st->E.nx st) (h:JD P B G U c ov un bs n s A w y i st):((dSq (ir [] (gTp [6,12]) (io ku (ii (ij 6) (ii (ij 5) il))))
 (dSq (ir [] (gNm 13) (iW (jg (ij 12)) [8,14] (gTp [14,8]) jh (ip .Mult (ip .Mult (ij 8) (io iB (ii (ij 4) (ii (ij 14) il)))) (io iB (ii (ij 9) (ii (ij 7) il))))))
 (kU [] 11 (io jd (ii (ij 13) (ii (ip .Mult (ip .Mult (dIx (ij 0) (iκ 1)) (io iB (ii (ij 10) (ii (ij 7) il)))) (io iB (ii (ij 4) (ii (ip .Sub (ij 2) (ip .Mult (ij 3) (ij 7))) il)))) il)))))):TSd).run E (st.set 7 (.vi (0+(i:Int)))):=by
 obtain⟨o7,o8,o12,o13,o14,l,Ps,L,Dt,rfl,lP,ll,hL,ht,h0,hs,hr,hd⟩:=h;have ns:s*(n / s)<=n:=gu n s;have si:s*i<=n:=aE (ae s hi) ns;have i12:i<=12:=aE hi (aE (dG _ _) n2);have e0:(0:Int)+(i:Int)=(i:Int):=by lia
 rw[e0];have wN:w*(n-s*i)<=w*12:=ae _ ();refine⟨rfl,(l,bs,s,n-s*i,A+26*i,w),⟨rfl,lb,b1,s1,by show s<=100;lia,by show l.length<=n-s*i+1;lia,by show n-s*i<=100;lia,λk=>by rw[hL k];exact (hs i (af _) k).1,hZ,by show A+26*i+w*(n-s*i)<=40000000;lia⟩,?_⟩;rintro _ ⟨K,R,rfl,lK,lR,hK,sK,sR⟩;have lR8:R.length<=12:=by have lR:R.length=min l.length s:=lR;lia
 refine⟨rfl,(congrArg (· <= sizeLine) (uO R)).mpr (tP ()),nI (λk=>R.getD k 0*c^k*ov^i),nI.nil,λk d ys hd' _ hy=>?_,λys _ hy=>?_⟩
 ·obtain⟨hk,rfl⟩:=tK hd';have lr:=sR k;have wk:w*(n-s*i-k)<=w*12:=ae _ ();have bk:(bb+1)*(k+1)<=(bb+1)*14:=ae _ ();have lk:=uf lc (show k<=12 by lia);have li:=uf lo (show i<=12 by lia);refine⟨rfl,rfl,(c,k,bb),⟨rfl,lc,by show k<=200;lia,by show (bb+1)*(k+1)<=4000000;lia⟩,?_⟩;rintro _ rfl;refine⟨⟨_,_,lr,lk,()⟩,rfl,(ov,i,1),⟨rfl,lo,by show i<=200;lia,by show (1+1)*(i+1)<=4000000;lia⟩,?_⟩;rintro _ rfl;exact⟨⟨_,_,lr.mul lk,li,()⟩,hy.snoc rfl⟩
 have hy:nI _ (t8 (R.map D.int)).length ys:=hy;rw[uO] at hy;obtain⟨ts,rfl,lt,et⟩:=hy;have ui:=uf lu (show i<=12 by lia);have ci:=uf lc (show n-s*i<=12 by lia);have E0:0<B*un^i*c^(n-s*i):=ay (ay B0 (bw u0)) (bw c0);refine⟨rfl,(un,i,1),⟨rfl,lu,by show i<=200;lia,by show (1+1)*(i+1)<=4000000;lia⟩,?_⟩;rintro _ rfl;have ls:Lt2 7 ((s:Nat):Int):=by unfold Lt2;lia
 have li:Lt2 7 ((i:Nat):Int):=by unfold Lt2;lia
 have es:(n:Int)-(s:Int)*(i:Int)=((n-s*i:Nat):Int):=by
  have:(s:Int)*(i:Int)=((s*i:Nat):Int):=by push_cast;rfl
  lia
 refine⟨⟨_,_,lB,ui,()⟩,⟨_,_,ls,li,by decide⟩,rfl,(c,n-s*i,bb),⟨congrArg (λz=>[D.int c,.int z]) es,lc,by show n-s*i<=200;lia,by show (bb+1)*(n-s*i+1)<=4000000;exact aE (ae _ ()) (aE cap2 (by decide))⟩,?_⟩;rintro _ rfl;refine⟨⟨_,_,lB.mul ui,ci,()⟩,rfl,(ts,B*un^i*c^(n-s*i)),⟨rfl,E0,((lB.mul ui).mul ci).mono (),by show ts.length<=1000;lia⟩,?_⟩;rintro _ ⟨p1,p2,rfl,fm,hw,hle⟩;refine⟨by rw[aa,lP,sizeLine_eq];lia,hE _ ?_⟩;exact Et _ _ _ _ _ n2 s1 s8 hi hA hyB c0 lc o0 lo E0 lb b1 lP ll hL ht h0 hs hr hd lK lR hK sK sR lt et fm hw hle
theorem Ge(B0:0<B)(U0:0<U)(lP:P.length<=13)(h:E1 P B G U s n z0 e0 y0 Ps)(x:Rat):Qp.E P B x=Ap.Ed (Qp.E G U x) x Ps:=by
 obtain⟨N,E,Dv,_,ne,l20,hN,hE,sN,hT,h0,hp⟩:=h;have step:∀ t p,Ps[t]? = some p->Qp.ei (N t) x 13 / (E t:Rat)=Qp.E p.1 p.2 x+Qp.E G U x*(Qp.ei (N (t+1)) x 13 / (E (t+1):Rat)):=λt p ht=>by
  obtain⟨_,z,_,_,hr⟩:=hp t p ht;exact Ep (hN t) (hN (t+1)) (hE t).1 (hE (t+1)).1 U0 z.fm.pos (hr (N (t+1)) (E (t+1)) (hE (t+1)).1 λ_=>rfl) x
 have go:∀ j t,t+j=Ps.length->Qp.ei (N t) x 13 / (E t:Rat)=Ap.Ed (Qp.E G U x) x (Ps.drop t):=by
  intro j;induction j with
  | zero =>
   intro t ht;rw[show t=Ps.length by lia,BI hT,List.drop_length];show (0:Rat) / _=0;grind
  | succ j ih =>
   intro t ht;have lt:t<Ps.length:=by lia
   rw[step t _ (aq lt),ih (t+1) (),cU lt];rfl
 have z:=go Ps.length 0 ();rw[dL] at z;rw[← z,Qp.yL lP];have l:=Qp.yx (F:=N 0) (G:=Cv.fn P) (x:=x) h0 13;have n1:=Qp.so B0;have n2:=Qp.so (hE 0).1;grind
def gW(a Z n:Nat):Nat:=a+(Z+8)*n+24
def bU(Z k s:Nat):Nat:=if k=1 then Z else (Z+8)*(s-1)+1
def zB(b0 Z k s:Nat):Nat:=b0+bU Z k s*(k*s-s)+1
def tB(a b0 Z k s:Nat):Nat:=yB a (gW a Z (k*s)+bU Z k s) (bU Z k s)+zB b0 Z k s
theorem EK(lP:P.length=k*s+1)(k1:1<=k)(s1:1<=s)(ks:k*s<=12)(hL:P.getD (k*s) 0≠0)(lZ:Lt2 Z (P.getD (k*s) 0))(c:Cn P k s G U)(hU:U.natAbs<=((P.getD (k*s) 0).natAbs*k*k)^(s-1)):Lt2 (bU Z k s) U:=by
 obtain⟨fG,lG,cG⟩:=c;unfold bU;split
 ·rename_i e;subst e;rw[f6] at lP hL lZ;exact lZ.le (EJ lG lP fG cG hL)
 ·have k12:k<=12:=aE (aZ _ s1) ks;have kk:k*k<=12*12:=aW k12 k12;have lc:Lt2 (Z+8) ((((P.getD (k*s) 0).natAbs*k*k:Nat)):Int):=by
   unfold Lt2;rw[bc,c8,du];have lZ:(P.getD (k*s) 0).natAbs<2^Z:=lZ;exact bJ (ae _ (show k*k<=2^8 by lia)) (cO lZ (by decide))
  have:=Hv.sL lc (s-1);unfold Lt2 at this ⊢;rw[gw,bc] at this;exact bJ hU this
def A5(P:List Int)(B:Int)(k s:Nat)(G:List Int)(U:Int)(Ps:List (List Int×Int)):Prop:=Cn P k s G U/\Ps≠[]/\Ps.length<=20/\(∀ p∈Ps,Po.Fm p.1 p.2/\p.1.length<=s)/\∀ x,Qp.E P B x=Ap.Ed (Qp.E G U x) x Ps
def Ju(P:List Int)(B:Int)(k s a b0 Z:Nat)(d:D):Prop:=∃ G U Ps,A5 P B k s G U Ps/\Wt (gW a Z (k*s)) G U s/\Lt2 (bU Z k s) U/\((∃(i:Nat) (p:List Int×Int),d = .tup [.str "barred",pD G U,.int (i:Int)]/\Ps[i]? = some p/\2<=p.1.length/\∀ j q,j<i->Ps[j]? = some q->q.1.length<=1) \/
 (∃ R C,d = .tup [.str "made",pD R C,pD G U]/\Pc.Pz (tB a b0 Z k s) (zB b0 Z k s) R C/\(∀ q∈Ps,q.1.length<=1)/\R.length<=20/\∀ x y,Qp.E R C y=Ap.Ed y x Ps))
theorem yH{P:List Int}{B:Int}{k s:Nat}{G:List Int}{U:Int}{i:Nat}{p:List Int×Int}(k1:1<=k)(s1:1<=s)(hP:P.getD (k*s) 0≠0)(a:A5 P B k s G U Ps)(hi:Ps[i]? = some p)(h2:2<=p.1.length):¬ M0 P B k s:=by
 rintro⟨G',U',R,C,fG',lG',cG',fR,e⟩;obtain⟨⟨fG,lG,cG⟩,_,_,hz,ed⟩:=a;obtain⟨rfl,rfl⟩:=Ca.Cand.uniq k1 hP fG fG' lG lG' cG cG';obtain⟨Cs,lC,hC,eC⟩:=xb R.length (Qp.q R C);have u:=Ap.Ed.uniq2 fG lG (ps:=Ps) (qs:=Cs) (λq hq=>hz q hq) (λq hq=>⟨(hC q hq).1,aE (hC q hq).2 s1⟩) (λx=>by rw[← ed,e,eC,zY (af _)]) i;rw[sV hi] at u;have:(Cs.getD i ([],1)).1.length<=1:=mem_getD (p:=λq:List Int×Int=>q.1.length<=1) (λq hq=>(hC q hq).2) (aB _);rw[← u] at this;lia
end Dp
namespace Dp
open PySem L2 Ch
def kw:SpB:=.of 3 (α:=List Int×Nat×Nat×Nat×(Nat->Int)) (λ(fs,k,s,A,g) ds=>ds=[.lst (fs.map .int),.int k,.int s]/\1<=k/\k<=100/\1<=s/\s<=12/\s<=fs.length/\A<=750000/\(∀ i,Lt2 A (fs.getD i 0))/\fs.getD 0 0=1/\g 0=1/\(∀ j,j<=s-1->Ca.pw g k j=fs.getD j 0))
 (λ(fs,k,s,A,g) d=>∃ rs:List Int,d = .lst (rs.map .int)/\rs.length=s/\(∀ j,j<s->rs.getD j 0=g j)/\(∀ j,j<s->Lt2 ((A+22)*j+1) (g j)))
def nG:TSd:=(iE [3] (ij 3))
def nH:TSd:=dSq (iX [] (kR (iκ 1) (ij 2)) (gNm 4)
 (dSq (ir [] (gNm 5) (iW (kR (iκ 1) (ip .Add (ij 4) (iκ 1))) [6] (gNm 6) jh (ip .Mult (ip .Mult (ip .Sub (ip .Mult (ij 6) (ip .Add (ij 1) (iκ 1))) (ip .Mult (ij 4) (ij 1))) (dIx (ij 0) (ij 6))) (j6 3 (ip .Sub (ij 4) (ij 6))))))
 (kU [] 3 (ip .FloorDiv (dB bSum bSum.mono (ii (ij 5) il)) (ip .Mult (ij 4) (ij 1))))))
 nG
def oI:TSd:=dSq (jY [] 3 (iN (ii (iκ 1) il)))
 nH
theorem mQ:Does 7 oI kw:=by
 rintro ds Q hn ⟨⟨fs,k,n,M,g⟩,⟨rfl,k1,k2,n1,n2,ln,M9,hM,f0,g0,hg⟩,q⟩;dsimp only at k1 k2 n1 n2 ln M9 hM f0 g0 hg q;have hst:∀ j,j<=n-1->_:=λj hj=>Ca.step (a:=λi=>fs.getD i 0) g0 f0 hg hj;have hlt:=Ca.Fj (A:=M) k1 k2 (show n-1<=100 by lia) g0 hM hst;have en:((n:Int)-1).toNat=n-1:=by lia
 refine⟨xn,⟨(),(),(),()⟩,λi s=>∃(o4 o5 o6:SD) (rs:List Int),s=[.val (.lst (fs.map .int)),.vi k,.vi n,.own (rs.map .int),o4,o5,o6]/\rs.length=i+1/\∀ j,j<i+1->rs.getD j 0=g j,⟨.no,.no,.no,[1],rfl,rfl,λj hj=>?_⟩,?_,?_⟩
 ·rw[show j=0 by lia,g0];rfl
 ·rintro i d _ hd ⟨o4,o5,o6,rs,rfl,lr,hrs⟩;obtain⟨hi,rfl⟩:=sP hd;have hi':i+1<=n-1:=by lia
  have e1:(1:Int)+(i:Int)=((i+1:Nat):Int):=by lia
  rw[e1];have c2:(i+1)*k<=100*100:=aW () ();have lk:Lt2 7 ((k:Nat):Int):=by unfold Lt2;lia
  have lk1:Lt2 7 ((k:Int)+1):=by unfold Lt2;lia
  have lj:Lt2 7 ((i+1:Nat):Int):=by unfold Lt2;lia
  have lu:(uB 1 (((i+1:Nat):Int)+1-1).toNat).length=i+1:=by rw[sE];lia
  refine⟨⟨(),(),(),()⟩,(congrArg (· <= sizeLine) lu).mpr (tP ()),nI (λj=>(((j+1:Nat):Int)*(k+1)-((i+1:Nat):Int)*k)*fs.getD (j+1) 0*g (i+1-(j+1))),nI.nil,λm d ys hd _ hy=>?_,λys _ hy=>?_⟩
  ·obtain⟨hm,rfl⟩:=sP hd;have hm:m<i+1:=by lia
   have e2:(1:Int)+(m:Int)=((m+1:Nat):Int):=by lia
   rw[e2];have lm:Lt2 7 ((m+1:Nat):Int):=by unfold Lt2;lia
   have l1:Lt2 15 (((m+1:Nat):Int)*(k+1)-((i+1:Nat):Int)*k):=(lm.mul lk1).sub (lj.mul lk);have l3:=hlt (i+1-(m+1)) ();have m3:(M+22)*(i+1-(m+1))<=750022*12:=aW () ();have ej:((i+1:Nat):Int)-((m+1:Nat):Int)=((i+1-(m+1):Nat):Int):=by lia
   refine⟨⟨_,_,lm,lk1,by decide⟩,⟨_,_,lj,lk,by decide⟩,sO (sY ()) ⟨⟨_,_,l1,hM (m+1),()⟩,tI (d:=.int (g (i+1-(m+1)))) ?_ ⟨⟨_,_,l1.mul (hM (m+1)),l3,()⟩,hy.snoc rfl⟩⟩⟩;rw[ej,← hrs (i+1-(m+1)) ()];exact ua (sY ())
  ·have hy:nI _ (uB 1 (((i+1:Nat):Int)+1-1).toNat).length ys:=hy;rw[lu] at hy;obtain⟨us,rfl,lu,hus⟩:=hy;have es:us.sum=((i+1:Nat):Int)*k*g (i+1):=by
    rw[Ca.HE,lu,← hst (i+1) hi'];exact Cv.sF λj hj=>hus j hj
   have jk:((i+1:Nat):Int)*k≠0:=by
    have:0<(i+1)*k:=f7 () k1;have e:((i+1:Nat):Int)*k=(((i+1)*k:Nat):Int):=by push_cast;rfl
    rw[e];lia
   refine⟨us,rfl,⟨_,_,lj,lk,by decide⟩,⟨jk,_,lj.mul lk,by decide⟩,(by rw[aa,sizeLine_eq];lia),?_⟩;refine⟨_,_,_,rs++[_],congrArg (λl=>[SD.val (.lst (fs.map .int)),.vi k,.vi n,.own l,_,_,_]) (xJ _ _),by rw[aj,lr];rfl,λj hj=>?_⟩;rw[ya,lr];by_cases e:j=i+1
   ·rw[if_pos e,e,es,bo,c7 _ jk]
   ·rw[if_neg e];exact hrs j ()
 ·rintro _ ⟨o4,o5,o6,rs,rfl,lr,hrs⟩;rw[sE,en] at lr hrs;exact q _ ⟨rs,rfl,(),λj hj=>hrs j (),λj hj=>hlt j ()⟩
def ky:SpB:=.of 2 (α:=List Int×Int×Nat×Nat×Nat×Nat) (λ(P,B,k,s,M,Z) ds=>ds=[pD P B,.int s]/\P.length=k*s+1/\1<=k/\1<=s/\k*s<=12/\(∀ i,Lt2 M (P.getD i 0))/\Lt2 Z (P.getD (k*s) 0)/\M+(Z+8)*(k*s)<=700000/\Z<=30000/\P.getD (k*s) 0≠0)
 (λ(P,B,k,s,M,Z) d=>∃ R C,d=pD R C/\Cn P k s R C/\Wt (M+(Z+8)*(k*s)+24) R C s/\C.natAbs<=((P.getD (k*s) 0).natAbs*k*k)^(s-1))
def nJ:TSd:=(iE [] (io jd (ii (ip .Add (iN (ii (iκ 0) il)) (ij 7)) (ii (io iB (ii (ij 4) (ii (ip .Sub (ij 1) (iκ 1)) il))) il))))
def nK:TSd:=dSq (ir [] (gNm 7) (iW (kR (iκ 1) (ip .Add (ij 1) (iκ 1))) [8] (gNm 8) jh (ip .Mult (dIx (ij 6) (ip .Sub (ij 1) (ij 8))) (io iB (ii (ij 4) (ii (ip .Sub (ij 8) (iκ 1)) il))))))
 nJ
def jm:TSd:=dSq (ir [] (gNm 6) (io kw (ii (ij 5) (ii (ij 3) (ii (ij 1) il)))))
 nK
def jn:TSd:=dSq (ir [] (gNm 5) (qt (io j9 (ii (dIx (ij 0) (iκ 0)) (ii (ij 4) il)))))
 jm
def jo:TSd:=dSq (ir [] (gNm 4) (ip .Mult (ip .Mult (dB bAbs bAbs.mono (ii (dIx (dIx (ij 0) (iκ 0)) (ij 2)) il)) (ij 3)) (ij 3)))
 jn
def jp:TSd:=dSq (ir [] (gNm 3) (ip .FloorDiv (ij 2) (ij 1)))
 jo
def oJ:TSd:=dSq (ir [] (gNm 2) (io i6 (ii (ij 0) il)))
 jp
theorem mR:Does 9 oJ ky:=by
 rintro ds Q hn ⟨⟨ts,b,k,m,M,Z⟩,⟨rfl,ln,k1,m1,km,hM,hZ,hz,Z3,hL⟩,q⟩;dsimp only at ln k1 m1 km hM hZ hz Z3 hL q;have km1:k<=k*m:=aZ _ m1;have km2:m<=k*m:=aO _ k1;refine⟨rfl,(ts,b),rfl,?_⟩;rintro _ rfl;have ek:((k*m:Nat):Int).fdiv (m:Int)=(k:Int):=by
  rw[show ((k*m:Nat):Int)=(k:Int)*m by push_cast;rfl];exact c7 _ ()
 have lk:Lt2 4 ((k:Nat):Int):=by unfold Lt2;lia
 have lm:Lt2 7 ((m:Nat):Int):=by unfold Lt2;lia
 have ll:Lt2 Z (((ts.getD (k*m) 0).natAbs:Nat):Int):=hZ.le (by rw[bc];exact af _);suffices h1:jp.run (sH Q) [.val (pD ts b),.vi m,.vi ((k*m:Nat):Int),.no,.no,.no,.no,.no,.no] by
  show jp.run (sH Q) [.val (pD ts b),.vi m,.vi ((ts.length:Int)-1),.no,.no,.no,.no,.no,.no];rw[ln,show ((k*m+1:Nat):Int)-1=((k*m:Nat):Int) by lia];exact h1
 refine⟨⟨(),7,lm,by decide⟩,?_⟩;suffices h2:jo.run (sH Q) [.val (pD ts b),.vi m,.vi ((k*m:Nat):Int),.vi k,.no,.no,.no,.no,.no] by
  show jo.run (sH Q) [.val (pD ts b),.vi m,.vi ((k*m:Nat):Int),.vi (((k*m:Nat):Int).fdiv (m:Int)),.no,.no,.no,.no,.no];rw[ek];exact h2
 obtain⟨c,hc⟩:∃ c:Int,c=(((ts.getD (k*m) 0).natAbs:Nat):Int)*k*k:=⟨_,rfl⟩;have lc:Lt2 (Z+8) c:=by rw[hc];exact ((ll.mul lk).mul lk).mono ()
 have m100:(Z+8+1)*(k*m+1)<=(Z+9)*13:=ae _ ();suffices h3:jn.run (sH Q) [.val (pD ts b),.vi m,.vi ((k*m:Nat):Int),.vi k,.vi c,.no,.no,.no,.no] by
  refine sO (sY ()) ⟨(congrArg (CMulB · _) (uv _)).mpr ⟨_,_,ll,lk,()⟩,(congrArg (λz=>CMulB (z*_) _) (uv _)).mpr ⟨_,_,ll.mul lk,lk,()⟩,?_⟩;show jn.run (sH Q) [.val (pD ts b),.vi m,.vi ((k*m:Nat):Int),.vi k,.val (.int ((if ts.getD (k*m) 0<0 then -(ts.getD (k*m) 0) else ts.getD (k*m) 0)*k*k)),.no,.no,.no,.no];rw[uv,← hc];exact h3
 refine⟨rfl,(ts,c,k*m,M,Z+8,Z),⟨rfl,ln,by show k*m<=100;lia,hM,lc,by show M<=9000000;lia,hZ,by show Z<=9000000;lia,by show (Z+8+1)*(k*m+1)<=4000000;lia,hL⟩,?_⟩;rintro _ ⟨rs,rfl,lrs,hrs⟩;suffices h4:jm.run (sH Q) [.val (pD ts b),.vi m,.vi ((k*m:Nat):Int),.vi k,.vi c,.val (.lst (rs.reverse.map .int)),.no,.no,.no] by
  show jm.run (sH Q) [.val (pD ts b),.vi m,.vi ((k*m:Nat):Int),.vi k,.vi c,.val (.lst (rs.map D.int).reverse),.no,.no,.no];rw[← fB];exact h4
 have fa:=Ca.Hd (P:=λi=>ts.getD i 0) (n:=k*m) (k:=k) (c:=c) rfl hL hc;have ea:∀ j,j<=k*m->rs.reverse.getD j 0=(ts.getD (k*m-j) 0*c^j).fdiv (ts.getD (k*m) 0):=λj hj=>by
  rw[Di lrs hj,hrs _ (),show k*m-(k*m-j)=j by lia]
 have lr:rs.reverse.length=k*m+1:=by rw[a5,lrs]
 have a0:rs.reverse.getD 0 0=1:=by rw[ea 0 (aB _)];exact (fa 0 (aB _)).2.1 rfl
 have ad:∀ i,(k*k:Int)∣rs.reverse.getD (i+1) 0:=λi=>by
  rcases aw (k*m) (i+1) with z|z
  ·rw[sk ()];exact gK _
  ·rw[ea _ z];exact (fa _ z).2.2 (fk _)
 have al:∀ i,Lt2 (M+(Z+8)*(k*m)+1) (rs.reverse.getD i 0):=λi=>by
  rcases aw (k*m) i with z|z
  ·rw[sk ()];exact uw _
  ·rw[ea _ z];refine BG hL (fa _ z).1 (((hM _).mul (Hv.sL lc i)).mono ?_);have:(Z+8)*i<=(Z+8)*(k*m):=ae _ z;lia
 obtain⟨g,g0,gd,ge⟩:=Ca.HN k1 (a:=λi=>rs.reverse.getD i 0) a0 ad (m-1);refine⟨rfl,(rs.reverse,k,m,M+(Z+8)*(k*m)+1,g),⟨rfl,k1,by show k<=100;lia,m1,by show m<=12;lia,(),by show M+(Z+8)*(k*m)+1<=750000;lia,al,a0,g0,ge⟩,?_⟩;rintro _ ⟨us,rfl,lu,hus,hul⟩;generalize hA:M+(Z+8)*(k*m)+1=A at *;have c0:0<c:=by
  rw[hc];have x1:0<(ts.getD (k*m) 0).natAbs:=by lia
  exact ay (ay () ()) ()
 have zc:(Z+8+1)*(m+1)<=(Z+9)*13:=ae _ ();have lq:(uB 1 ((m:Int)+1-1).toNat).length=m:=by rw[sE];lia
 refine⟨⟨(),(),(),()⟩,(congrArg (· <= sizeLine) lq).mpr (tP ()),nI (λj=>g (m-(j+1))*c^j),nI.nil,λi d ys hd _ hy=>?_,λys _ hy=>?_⟩
 ·obtain⟨hi,rfl⟩:=sP hd;have hi:i<m:=by lia
  have e1:(1:Int)+(i:Int)=((i+1:Nat):Int):=by lia
  rw[e1];have em:(m:Int)-((i+1:Nat):Int)=((m-(i+1):Nat):Int):=by lia
  have zi:(Z+8)*i<=(Z+8+1)*(m+1):=aW () ();have zg:(A+22)*(m-(i+1))<=(A+22)*100:=ae _ ();refine tI (d:=.int (g (m-(i+1)))) ?_ ⟨rfl,(c,i,Z+8),⟨?_,lc,by show i<=200;lia,?_⟩,?_⟩
  ·rw[em,← hus (m-(i+1)) ()];exact ua (sY ())
  ·show [D.int c,.int (((i+1:Nat):Int)-1)]=[D.int c,.int (i:Int)];rw[show ((i+1:Nat):Int)-1=(i:Int) by lia]
  ·exact aE (ae _ (show i+1<=m+1 by lia)) ()
  ·rintro _ rfl;exact⟨⟨_,_,hul (m-(i+1)) (),Hv.sL lc i,()⟩,hy.snoc rfl⟩
 have hy:nI _ (uB 1 ((m:Int)+1-1).toNat).length ys:=hy;rw[lq] at hy;obtain⟨ws,rfl,lw,hws⟩:=hy;have z2:(Z+8)*(m-1)<=(Z+8)*12:=ae _ ();have lcm:Lt2 9000000 (c^(m-1)):=(Hv.sL lc (m-1)).mono ();have pc:0<c^(m-1):=bw c0;refine⟨xn,(congrArg (λn=>1+n<=sizeLine) (aa _)).mpr (tP ()),rfl,(c,m-1,Z+8),⟨?_,lc,by show m-1<=200;lia,?_⟩,?_⟩
 ·show [D.int c,.int ((m:Int)-1)]=[D.int c,.int ((m-1:Nat):Int)];rw[show (m:Int)-1=((m-1:Nat):Int) by lia]
 ·exact aE (ae _ (show m-1+1<=m+1 by lia)) ()
 rintro _ rfl;refine⟨rfl,(0::ws,c^(m-1)),⟨rfl,pc,lcm,by rw[br];lia⟩,?_⟩;rintro _ ⟨R,C,rfl,fm,hw,hle⟩;have hw':∀ j,j<m->R.getD (j+1) 0*c^(m-1)=g (m-(j+1))*c^j*C:=λj hj=>by
  have:=hw (j+1);rw[bV,hws j hj] at this;exact this
 have r1:=Ca.LN (R:=λi=>R.getD i 0) (g:=g) c0 hw';have r0:R.getD 0 0=0:=by
  have:=hw 0;rw[List.getD_cons_zero,ax] at this;exact (bv.mp this).resolve_right ()
 have rm:R.getD m 0=C:=by
  have:=r1 0 m1;rw[aP,bx,g0,bK] at this;exact this
 have lR:R.length=m+1:=by
  have l1:R.length<=m+1:=by rw[br,lw] at hle;exact hle
  rcases aw m R.length with x|x
  ·lia
  ·rw[sk x] at rm;have:=fm.pos;lia
 refine q _ ⟨R,C,rfl,⟨fm,lR,c,g,c0,g0,λj hj=>?_,r1,r0⟩,λj hj=>?_,?_⟩
 ·have:=(fa j ()).1;rw[ge j (),ea j ()];exact this.symm
 ·rcases aw j m with x|x
  ·have e:=congrArg Int.natAbs (r1 j x);rw[aT,aT,gw] at e;have e:(R.getD (m-j) 0).natAbs*c.natAbs^j=(g j).natAbs*C.natAbs:=e;have cj:1<=c.natAbs^j:=bM ();have gj:(g j).natAbs<=2^((M+(Z+8)*(k*m)+24)*j):=by
    rcases bX j with y|y
    ·rw[y,g0];exact af 1
    ·have h:=hul j x;refine aE (eK h) (cu (by decide) ?_);have:(A+22)*j+j=(A+23)*j:=(bj (A+22) j ▸ rfl);rw[show M+(Z+8)*(k*m)+24=A+23 by lia];lia
   calc (R.getD (m-j) 0).natAbs<=(R.getD (m-j) 0).natAbs*c.natAbs^j:=aZ _ cj
    _=C.natAbs*(g j).natAbs:=by rw[e,aU]
    _<=_:=ae _ gj
  ·rw[show m-j=0 by lia,r0];exact aB _
 ·have e:=(Po.size fm pc hw).1;rw[gw,hc,aT,aT,bc,bc] at e;exact e
def mY:SpB:=.of 2 (α:=List Int×Int×List Int×Int×Nat×Nat×Nat×Nat×Nat×Nat) (λ(P,B,G,U,n,s,a,b0,b,y) ds=>ds=[pD P B,pD G U]/\Pc.Pz a b0 P B/\P.length=n+1/\1<=n/\n<=12/\Po.Fm G U/\Lt2 b U/\Wt y G U s/\G.length=s+1/\1<=s/\s<=12/\G.getD s 0=U/\a+b0+(y+b+b)*15<=8000000/\(b+1)*14<=390000/\b+y*12<=9000000)
 (λ(P,B,G,U,n,s,a,b0,b,y) d=>∃ Ps:List (List Int×Int),d = .tup (Ps.map λp=>pD p.1 p.2)/\E1 P B G U s n (b0+b*(n-s)+1) (eB b0 b) (yB a (y+b) b) Ps)
def pP:TSd:=(iE [11] (dB bTuple bTuple.mono (ii (ij 11) il)))
def pQ:TSd:=dSq (iX [] (jL (ip .Add (ip .FloorDiv (ij 2) (ij 3)) (iκ 1))) (gNm 7)
 (dSq (ir [] (gTp [6,12]) (io ku (ii (ij 6) (ii (ij 5) il))))
 (dSq (ir [] (gNm 13) (iW (jg (ij 12)) [8,14] (gTp [14,8]) jh (ip .Mult (ip .Mult (ij 8) (io iB (ii (ij 4) (ii (ij 14) il)))) (io iB (ii (ij 9) (ii (ij 7) il))))))
 (kU [] 11 (io jd (ii (ij 13) (ii (ip .Mult (ip .Mult (dIx (ij 0) (iκ 1)) (io iB (ii (ij 10) (ii (ij 7) il)))) (io iB (ii (ij 4) (ii (ip .Sub (ij 2) (ip .Mult (ij 3) (ij 7))) il)))) il)))))))
 pP
def pR:TSd:=dSq (jY [] 11 (iN il))
 pQ
def pS:TSd:=dSq (ir [] (gTp [9,10]) (io n5 (ii (iA (ii (iκ 1) (ii (iκ 1) il))) (ii (io qK (ii (ij 1) il)) il))))
 pR
def pT:TSd:=dSq (ir [] (gNm 6) (iW (jg (dIx (ij 0) (iκ 0))) [7,8] (gTp [7,8]) jh (ip .Mult (ij 8) (io iB (ii (ij 4) (ii (ip .Sub (ij 2) (ij 7)) il))))))
 pS
def pV:TSd:=dSq (ir [] (gNm 5) (io j9 (ii (dIx (ij 1) (iκ 0)) (ii (ij 4) il))))
 pT
def mC:TSd:=dSq (ir [] (gNm 4) (io jP (ii (dIx (ij 1) (iκ 0)) il)))
 pV
def jV:TSd:=dSq (dIf [] (iL (iR .Lt (ij 2) (ij 3)))
 (iE [] (iA (ii (ij 0) il)))
 iT)
 mC
def qI:TSd:=dSq (ir [] (gTp [2,3]) (iA (ii (io i6 (ii (ij 0) il)) (ii (io i6 (ii (ij 1) il)) il))))
 jV
theorem CJ(z1:Pc.Pz a b0 P B)(ln:P.length=n+1)(n1:1<=n)(n2:n<=12)(fG:Po.Fm G U)(lU:Lt2 b U)(wG:Wt y G U s)(cap:a+b0+(y+b+b)*15<=8000000)(cap2:(b+1)*14<=390000)(cap3:b+y*12<=9000000)(mon:G.getD s 0=U)(lG:G.length=s+1)(s1:1<=s)(s8:s<=12)(sn:s<=n)(q:∀ d,(∃ Ps:List (List Int×Int),d = .tup (Ps.map λp=>pD p.1 p.2)/\E1 P B G U s n (b0+b*(n-s)+1) (eB b0 b) (yB a (y+b) b) Ps)->Q d) :
  mC.run (sH Q) [.val (pD P B),.val (pD G U),.vi n,.vi s,.no,.no,.no,.no,.no,.no,.no,.no,.no,.no,.no]:=by
 have tG:G.getD s 0≠0:=s9 fG lG;have U0:=fG.pos;have z2:=wG.pz fG lG lU;have ys:y*s<=y*12:=ae _ s8;have bs1:(b+1)*(s+2)<=(b+1)*14:=ae _ ();have B0:=z1.fm.pos;refine⟨rfl,(G,s,b+y*s,b),⟨rfl,lG,by show s<=20;lia,z2.tops,by show b+y*s<=9000000;lia,by rw[mon];exact lU,by show (b+1)*(s+2)<=390000;lia,tG⟩,?_⟩;rintro _ ⟨c,rfl,c0,lc,hdv⟩;have lc:Lt2 b c:=lc;refine⟨rfl,(G,c,s,b+y*s,b,b),⟨rfl,lG,by show s<=100;lia,z2.tops,lc,by show b+y*s<=9000000;lia,by rw[mon];exact lU,by show b<=9000000;lia,by show (b+1)*(s+1)<=4000000;exact aE (ae _ ()) (aE cap2 (by decide)),tG⟩,?_⟩;rintro _ ⟨bs,rfl,lb,hb⟩;have lb:bs.length=s+1:=lb;have hx:∀ i,i<=s->G.getD s 0*bs.getD i 0=G.getD i 0*c^(s-i):=λi hi=>by
  have hb:bs.getD i 0=(G.getD i 0*c^(s-i)).fdiv (G.getD s 0):=hb i hi;have hdv:G.getD s 0∣G.getD (s-(s-i)) 0*c^(s-i):=hdv (s-i) ();rw[show s-(s-i)=i by lia] at hdv;obtain⟨y,hy⟩:=hdv;rw[hb,hy,cy _ tG]
 have b1:bs.getD s 0=1:=by
  have:=hx s (af _);rw[a9,aP] at this;exact dP tG this
 have hZ:∀ j,j<=s->Lt2 ((y+b)*(s-j)+1) (bs.getD j 0):=λj z=>by
  have h:=congrArg Int.natAbs (hx j z);rw[aT,aT,mon] at h;have g:=wG (s-j) ();rw[show s-(s-j)=j by lia] at g;have cl:(c^(s-j)).natAbs<2^(b*(s-j)+1):=Hv.sL lc (s-j);have u0:0<U.natAbs:=by lia
  have k:U.natAbs*(bs.getD j 0).natAbs<=U.natAbs*(2^(y*(s-j))*(c^(s-j)).natAbs):=by
   rw[h,← c8];exact aV _ g
  have k:=Nat.le_of_mul_le_mul_left k u0;show (bs.getD j 0).natAbs<2^((y+b)*(s-j)+1);rw[show (y+b)*(s-j)+1=y*(s-j)+(b*(s-j)+1) by rw[dm];lia,du];exact bJ k (gr cl (bM (by decide)))
 refine⟨(congrArg (· <= sizeLine) (uO P)).mpr (tP ()),nI (λk=>P.getD k 0*c^(n-k)),nI.nil,λi d ys hd _ hy=>?_,λys _ hy=>?_⟩
 ·obtain⟨hi,rfl⟩:=tK hd;refine⟨rfl,rfl,(c,n-i,b),⟨?_,lc,by show n-i<=200;lia,by show (b+1)*(n-i+1)<=4000000;exact aE (ae _ ()) (aE cap2 (by decide))⟩,?_⟩
  ·show [D.int c,.int ((n:Int)-(i:Int))]=[D.int c,.int ((n-i:Nat):Int)];rw[show (n:Int)-(i:Int)=((n-i:Nat):Int) by lia]
  ·rintro _ rfl;exact⟨⟨_,_,z1.tops i,uf lc (show n-i<=12 by lia),()⟩,hy.snoc rfl⟩
 have hy:nI _ (t8 (P.map D.int)).length ys:=hy;rw[uO,ln] at hy;obtain⟨l0,rfl,l0l,hl0⟩:=hy;refine⟨tz,rfl,(G,U,s,b+y*s,b),⟨rfl,lG,z2,by show b<=9000000;lia⟩,?_⟩;rintro dl fl;have uR:(U:Rat)≠0:=Qp.so U0;have q1:Qp.q G U s=((1:Int):Rat):=by
  unfold Qp.q;rw[mon];show _=(1:Rat);grind
 have fl:FqD (b+y*s) b dl (Qp.q G U s):=fl;rw[q1] at fl;obtain⟨rfl,_⟩:=fl.same (tX (n:=1) (t:=1) (by decide));refine⟨rfl,(fD 1 1,fD 1 1,((1:Int):Rat),((1:Int):Rat),1,1,1,1),⟨rfl,tX (by decide),tX (by decide),by decide,by decide,by decide⟩,?_⟩;rintro do1 fo;have fo:FqD 2 2 do1 (((1:Int):Rat) / ((1:Int):Rat)):=fo;rw[show ((1:Int):Rat) / ((1:Int):Rat)=((1:Int):Rat) by show (1:Rat) / 1=1;grind] at fo;obtain⟨rfl,_⟩:=fo.same (tX (n:=1) (t:=1) (by decide));obtain⟨ov,hov⟩:∃ ov:Int,ov=1:=⟨_,rfl⟩;obtain⟨un,hun⟩:∃ un:Int,un=1:=⟨_,rfl⟩;have lo:Lt2 1 ov:=by rw[hov];unfold Lt2;decide
 have lu:Lt2 1 un:=by rw[hun];unfold Lt2;decide
 have u0:0<un:=by lia
 have o0:ov≠0:=by lia
 have hl:G.getD s 0*ov=un*U:=by rw[mon,hov,hun];lia
 have eo:fD 1 1=fD ov un:=by rw[hov,hun]
 rw[eo];have ef:(n:Int).fdiv (s:Int)=((n / s:Nat):Int):=by
  rw[cQ _ ()];rfl
 have T12:n / s<=12:=aE (dG _ _) n2;have ls:Lt2 7 ((s:Nat):Int):=by unfold Lt2;lia
 have eT:((n:Int).fdiv (s:Int)+1).toNat=n / s+1:=by rw[ef];exact aJ (n / s+1)
 have t0:(0:Int)<=((n / s:Nat):Int):=Int.natCast_nonneg _;have t1:((n / s:Nat):Int)<=12:=by exact_mod_cast T12
 have w1 : -(2^62)<=(n:Int).fdiv (s:Int)+1:=by
  rw[ef];generalize ((n / s:Nat):Int)=z at *;lia
 have w2:(n:Int).fdiv (s:Int)+1<2^62:=by
  rw[ef];generalize ((n / s:Nat):Int)=z at *;lia
 have s0:(s:Int)≠0:=by lia
 refine⟨rfl,aB _,⟨s0,7,ls,by decide⟩,w1,w2,JD P B G U c ov un bs n s (a+2) (y+b) (yB a (y+b) b),?_,?_,?_⟩
 ·refine⟨.no,.no,.no,.no,.no,l0,[],λt k=>P.getD k 0*c^(n-k),λ_ _=>0,rfl,rfl,by rw[l0l];rfl,λk=>?_,λ_=>?_,λk=>rfl,λt ht k=>⟨?_,λhk=>?_⟩,λt k ht=>absurd ht (bZ _),λt p hp=>by cases hp⟩
  ·rcases aw k (n+1) with z|z
   ·exact hl0 k z
   ·show l0.getD k 0=P.getD k 0*c^(n-k);rw[sk (),sk (fs:=P) (),ax]
  ·have e:=hl0 n ();dsimp only at e;rw[l0l,aH,e,a9,aP,bx];exact s9 z1.fm ln
  ·rw[show t=0 by lia,fv,fv,bA];exact ((z1.tops k).mul (Hv.sL lc (n-k))).mono (by rw[dm];lia)
  ·show P.getD k 0*c^(n-k)=0;rw[sk (),ax]
 ·rintro i d st hd hS;have hd:(uB 0 ((n:Int).fdiv (s:Int)+1).toNat)[i]? = some d:=hd;rw[eT] at hd;obtain⟨hi,rfl⟩:=sP hd;exact CI (a:=a) (b0:=b0) () rfl () cap2 n2 s1 s8 () B0 z1.bot c0 lc o0 lo u0 lu lb b1 hZ (λ_ h=>h) hS
 ·rintro st hS;have hS:JD P B G U c ov un bs n s (a+2) (y+b) (yB a (y+b) b) (uB 0 ((n:Int).fdiv (s:Int)+1).toNat).length st:=hS;rw[sE,eT] at hS;obtain⟨o7,o8,o12,o13,o14,x,Ps,rfl,hD⟩:=Es hun (af _) rfl z1 ln n2 s1 sn c0 lc u0 lu lo (λj hj=>by rw[bo];exact hx j hj) lb lG hl hS;exact q _ ⟨Ps,rfl,hD⟩
theorem oK:Does 15 qI mY:=by
 rintro ds Q hn ⟨⟨P,B,G,U,n,s,a,b0,b,y⟩,⟨rfl,z1,ln,n1,n2,fG,lU,wG,lG,s1,s8,mon,cap,cap2,cap3⟩,q⟩;dsimp only at z1 ln n1 n2 fG lU wG lG s1 s8 mon cap cap2 cap3 q;refine⟨rfl,(P,B),rfl,?_⟩;rintro _ rfl;refine⟨rfl,(G,U),rfl,?_⟩;rintro _ rfl;refine⟨tz,rfl,?_⟩;suffices h1:jV.run (sH Q) [.val (pD P B),.val (pD G U),.vi n,.vi s,.no,.no,.no,.no,.no,.no,.no,.no,.no,.no,.no] by
  show jV.run (sH Q) [.val (pD P B),.val (pD G U),.vi ((P.length:Int)-1),.vi ((G.length:Int)-1),.no,.no,.no,.no,.no,.no,.no,.no,.no,.no,.no];rw[ln,lG,show ((n+1:Nat):Int)-1=(n:Int) by lia,show ((s+1:Nat):Int)-1=(s:Int) by lia];exact h1
 refine v8 (p:=(n:Int)<(s:Int)) (λc=>?_) (λc=>?_)
 ·exact⟨xn,q _ ⟨[(P,B)],rfl,Er z1 ln n2 () () (by unfold eB;lia) (by unfold yB;lia)⟩⟩
 ·exact CJ z1 ln n1 n2 fG lU wG cap cap2 cap3 mon lG s1 s8 () q
def zW(a b0 Z n:Nat):Prop:=a+(Z+8)*n<=300000/\b0<=1000000/\Z<=27000/\(Z+8)*(n-1) / 2<=26000
theorem Gn(h:zW a b0 Z (k*s))(k1:1<=k)(s1:1<=s):bU Z k s<=27000:=by
 obtain⟨_,_,h1,h2⟩:=h;unfold bU;split
 ·exact h1
 ·rename_i k2;have:2*s<=k*s:=aV _ ();have h3:(Z+8)*(2*(s-1))<=(Z+8)*(k*s-1):=ae _ ();have h4:(Z+8)*(2*(s-1))=2*((Z+8)*(s-1)):=by rw[← c8,aU (Z+8) 2,c8]
  lia
def oi:SpB:=.of 2 (α:=List Int×Int×Nat×Nat×Nat×Nat×Nat) (λ(P,B,k,s,a,b0,Z) ds=>ds=[pD P B,.int s]/\Pc.Pz a b0 P B/\P.length=k*s+1/\1<=k/\1<=s/\k*s<=12/\Lt2 Z (P.getD (k*s) 0)/\zW a b0 Z (k*s)) (λ(P,B,k,s,a,b0,Z) d=>Ju P B k s a b0 Z d)
def qm:TSd:=(iE [] (iA (ii (dC (.str "made")) (ii (io oP (ii (iW (jc (ij 3)) [5] (gNm 5) jh (io jx (ii (ij 5) (ii (iκ 0) il)))) il)) (ii (ij 2) il)))))
def qo:TSd:=dSq (iX [] (jg (ij 3)) (gTp [4,5])
 (dIf [] (iL (iR .GtE (io i6 (ii (ij 5) il)) (iκ 1)))
 (iE [] (iA (ii (dC (.str "barred")) (ii (ij 2) (ii (ij 4) il)))))
 iT))
 qm
def qr:TSd:=dSq (ir [] (gNm 3) (io mY (ii (ij 0) (ii (ij 2) il))))
 qo
def qZ:TSd:=dSq (ir [] (gNm 2) (io ky (ii (ij 0) (ii (ij 1) il))))
 qr
theorem pW:Does 6 qZ oi:=by
 rintro ds Q hn ⟨⟨P,B,k,s,a,b0,Zl⟩,⟨rfl,z,lP,k1,s1,ks,lZ,hsz⟩,q⟩;dsimp only at z lP k1 s1 ks lZ hsz q;have s12:s<=k*s:=aO _ k1;have hL:=s9 z.fm lP;have hb:=Gn hsz k1 s1;have hsz':=hsz;obtain⟨c1,c2,c3,_⟩:=hsz';refine⟨rfl,(P,B,k,s,a,Zl),⟨rfl,lP,k1,s1,ks,z.tops,lZ,by show a+(Zl+8)*(k*s)<=700000;lia,by show Zl<=30000;lia,hL⟩,?_⟩;rintro _ ⟨G,U,rfl,cn,wG,hU⟩;have wG:Wt (gW a Zl (k*s)) G U s:=wG;have lU:=EK lP k1 s1 ks hL lZ cn hU;have cn':=cn;obtain⟨fG,lG,hC⟩:=cn';obtain⟨mon,G0⟩:=vB hC s1;have G0:G.getD 0 0=0:=G0;have U0:=fG.pos;have B0:=z.fm.pos;have hg:gW a Zl (k*s)<=300024:=by unfold gW;lia
 generalize hgW:gW a Zl (k*s)=y at *;generalize hbU:bU Zl k s=b at *;have yy:y*12<=300024*12:=aV _ hg;refine⟨rfl,(P,B,G,U,k*s,s,a,b0,b,y),⟨rfl,z,lP,by show 1<=k*s;lia,ks,fG,lU,wG,lG,s1,by show s<=12;lia,mon,by show a+b0+(y+b+b)*15<=8000000;lia,by show (b+1)*14<=390000;lia,by show b+y*12<=9000000;lia⟩,?_⟩;rintro _ ⟨Ps,rfl,hD⟩;have ed:=Ge B0 U0 () hD;obtain⟨N,E,Dv,⟨D0,lD,BD⟩,ne,l20,_,_,_,_,_,hp⟩:=hD;have lD:Lt2 (b0+b*(k*s-s)+1) Dv:=lD;have bk:b*(k*s-s)<=b*12:=ae _ ();have hy:yB a (y+b) b<=9000000:=by unfold yB;lia
 have he:eB b0 b<=9000000:=by unfold eB;lia
 have ezB:zB b0 Zl k s=b0+b*(k*s-s)+1:=by unfold zB;rw[hbU]
 have etB:tB a b0 Zl k s=yB a (y+b) b+(b0+b*(k*s-s)+1):=by unfold tB;rw[ezB,hbU,hgW]
 have hz:∀ p∈Ps,Pc.Pz (yB a (y+b) b) (eB b0 b) p.1 p.2/\p.1.length<=s:=λp h=>by
  obtain⟨t,ht⟩:=bz.mp h;exact⟨(hp t p ht).2.1,(hp t p ht).2.2.1⟩
 have ap:A5 P B k s G U Ps:=⟨cn,ne,l20,λp h=>⟨(hz p h).1.fm,(hz p h).2⟩,ed⟩;generalize yB a (y+b) b=yy at *;generalize eB b0 b=ee at *;generalize hzz:b0+b*(k*s-s)+1=zz at *;refine⟨λi st=>(∃ o4 o5:SD,st=[.val (pD P B),.vi s,.val (pD G U),.val (.tup (Ps.map λp=>pD p.1 p.2)),o4,o5])/\∀ j q,j<i->Ps[j]? = some q->q.1.length<=1,⟨⟨.no,.no,rfl⟩,λj q h=>absurd h (bZ _)⟩,?_,?_⟩
 ·rintro i d _ hd ⟨⟨o4,o5,rfl⟩,hI⟩;obtain⟨x,hx,rfl⟩:=vS hd;rw[aR] at hx;obtain⟨p,hp1,rfl⟩:=ab.mp hx;refine⟨rfl,rfl,(p.1,p.2),rfl,?_⟩;rintro _ rfl;refine v8 (p:=(1:Int)<=(p.1.length:Int)-1) (λc=>?_) (λc=>?_)
  ·exact⟨tP (n:=3) (by decide),q _ ⟨G,U,Ps,ap,by rw[hgW];exact wG,by rw[hbU];exact lU,.inl ⟨i,p,rfl,hp1,(),hI⟩⟩⟩
  ·refine⟨⟨_,_,rfl⟩,λj r hj hr=>?_⟩;rcases bN (dS hj) with e|e
   ·rw[e,hp1] at hr;cases hr;lia
   ·exact hI j r e hr
 ·rintro _ ⟨⟨o4,o5,rfl⟩,hI⟩;rw[sM,aa] at hI;have one:∀ r∈Ps,r.1.length<=1:=λr hr=>by
   obtain⟨t,ht⟩:=bz.mp hr;exact hI t r (ak.mp ht).1 ht
  refine⟨(congrArg (· <= sizeLine) (aa _)).mpr (tP ()),λi ys=>∃ fs:List (Int×Int),ys=JC fs/\fs.length=i/\∀(j:Nat) (f:Int×Int),fs[j]? = some f->∃ p:List Int×Int,Ps[j]? = some p/\0<f.2/\Int.gcd f.1 f.2=1/\Lt2 yy f.1/\Qp.q p.1 p.2 0=(f.1:Rat) / (f.2:Rat),⟨[],rfl,rfl,λj f h=>by cases h⟩,λi d ys hd _ hy=>?_,λys _ hy=>?_⟩
  ·rw[aR] at hd;obtain⟨p,hp1,rfl⟩:=ab.mp hd;have zp:=(hz p (aL hp1)).1;refine⟨rfl,(p.1,p.2,0,yy,ee),⟨rfl,zp,he⟩,?_⟩;rintro _ ⟨t,u,rfl,u0,g,lt,lu,er⟩;obtain⟨fs,rfl,lf,hf⟩:=hy;refine⟨fs++[(t,u)],by unfold JC;rw[aM];rfl,by rw[aj,lf];rfl,λj f hj=>?_⟩;rcases aw j fs.length with y|y
   ·rw[aN y] at hj;exact hf j f hj
   ·have ej:j=i:=by
     have:=(ak.mp hj).1;rw[aj] at this;simp at this;lia
    subst ej;rw[az (),lf,a9] at hj;cases hj;exact⟨p,hp1,u0,g,lt,er⟩
  ·obtain⟨fs,rfl,lf,hf⟩:=hy;rw[aa] at lf;have dv:∀ f∈fs,0<f.2/\Lt2 yy f.1/\f.2∣Dv:=λf h=>by
    obtain⟨j,hj⟩:=bz.mp h;obtain⟨p,hp1,u0,g,lt,er⟩:=hf j f hj;refine⟨u0,lt,?_⟩;cases j with
    | zero =>
     have e0:Qp.q P B 0=Qp.q p.1 p.2 0:=by
      have a:=ed 0;have b0:Qp.E G U 0=0:=by
       rw[Qp.ub];unfold Qp.q;rw[G0];show (0:Rat) / _=0;grind
      rw[b0] at a;cases Ps with
      | nil=>exact absurd rfl ne
      | cons p' Ps =>
       cases hp1;have a:Qp.E P B 0=Qp.E p.1 p.2 0+0*_:=a;rw[Rat.zero_mul,Rat.add_zero,Qp.ub,Qp.ub] at a;exact a
     refine dZ (zm (a:=P.getD 0 0) u0 g B0 ?_) BD;rw[← er,← e0];rfl
    | succ j =>
     have zp:=(hz p (aL hp1)).1;refine dZ (zm (a:=p.1.getD 0 0) u0 g zp.fm.pos ?_) ((hp (j+1) p hp1).1 ());rw[← er];rfl
   refine⟨rfl,(fs,Dv,yy),⟨rfl,dv,(),D0,lD.mono (),by show yy<=10000000;lia⟩,?_⟩;rintro _ ⟨R,C,rfl,fR,wR,lR,CD⟩;have wR:∀ k,R.getD k 0*(fs.getD k (0,1)).2=(fs.getD k (0,1)).1*C:=wR;have lR:R.length<=fs.length:=lR;have lC:Lt2 zz C:=lD.le (cw () (bq.mpr CD));refine⟨tP (n:=3) (by decide),q _ ⟨G,U,Ps,ap,by rw[hgW];exact wG,by rw[hbU];exact lU,.inr ⟨R,C,rfl,⟨fR,λk=>?_,by rw[ezB];exact lC⟩,one,(),λx y=>?_⟩⟩⟩
   ·rcases aw k fs.length with y|y
    ·obtain⟨f,hf1⟩:∃ f,fs[k]? = some f:=⟨fs[k],aq y⟩;have w:=wR k;rw[sV hf1] at w;obtain⟨u0,lt,_⟩:=dv f (aL hf1);rw[etB];refine (lt.mul lC).le ?_;rw[← w,aT];exact aZ _ ()
    ·rw[sk ()];exact uw _
   ·rw[zY (N:=Ps.length) (),Em (f:=Qp.q R C) one λj p hj=>?_];have lj:j<fs.length:=by rw[lf];exact (ak.mp hj).1
    obtain⟨f,hf1⟩:∃ f,fs[j]? = some f:=⟨fs[j],aq lj⟩;obtain⟨p',hp',u0,g,lt,er⟩:=hf j f hf1;rw[hj] at hp';cases hp';rw[er];have w:=wR j;rw[sV hf1] at w;exact (Qp.tq (am fR.pos) (am u0)).mpr w
theorem Nt2.mad(n:Nt2 f g h k s)(k1:1<=k)(s1:1<=s)(ff:Po.Fm f.1 f.2)(lf:f.1.length=k*s+1):M0 f.1 f.2 k s:=by
 have c:=n.cn k1 s1 ff lf;exact⟨h.1,h.2,g.1,g.2,c.1,c.2.1,c.2.2,n.fg,n.e⟩
def iJ:SpB:=.of 2 (α:=List Pl×Pl×Pl×List Pl×Nat×Nat×Nat×Nat×Nat×Nat×Nat×Nat×Nat) (λ(u,a,b,v,da,db,na,ca,nb,cb,nf,bf,Zf) ds=>ds=[cD (u++a::b::v),.int (u.length:Nat)]/\u.length<=2/\v.length<=2/\a.1.length=da+1/\b.1.length=db+1/\2<=da/\da<=6/\2<=db/\db<=6/\(da≠db->da*db<=12/\Pc.Pz na ca a.1 a.2/\Pc.Pz nb cb b.1 b.2/\ca+cb*7<=8900000/\na+(nb+cb+10)*8<=90000000/\zW nf bf Zf (db*da)/\∀ f:Pl,Pc.Of a.1 a.2 b.1 b.2 f.1 f.2->Pc.Pz nf bf f.1 f.2/\Lt2 Zf (f.1.getD (db*da) 0)))
 (λ(u,a,b,v,da,db,na,ca,nb,cb,nf,bf,Zf) d=>(d = .non/\(da=db\/∀ f g h,Po.Fm f.1 f.2->Ho f a b->¬ Nt2 f g h db da))\/∃ f g h,d=cD (u++g::h::v)/\da≠db/\Pc.Pz nf bf f.1 f.2/\Lt2 Zf (f.1.getD (db*da) 0)/\f.1.length=db*da+1/\Ho f a b/\Nt2 f g h db da/\g.1.length=db+1/\Pc.Pz (tB nf bf Zf db da) (zB bf Zf db da) g.1 g.2/\Wt (gW nf Zf (db*da)) h.1 h.2 da/\Lt2 (bU Zf db da) h.2)
def nL:TSd:=(iE [] (ip .Add (ip .Add (dSl (ij 0) dNo (kQ (ij 1))) (iA (ii (ij 5) (ii (ij 6) il)))) (dSl (ij 0) (kQ (ip .Add (ij 1) (iκ 2))) dNo)))
def nM:TSd:=dSq (dIf [] (iL (iR .Eq (ij 4) (dC (.str "barred"))))
 (iE [] (dC .non))
 iT)
 nL
def nN:TSd:=dSq (ir [] (gTp [4,5,6]) (io oi (ii (io rl (ii (ij 2) (ii (ij 3) il))) (ii (io i6 (ii (ij 2) il)) il))))
 nM
def nP:TSd:=dSq (dIf [] (iL (iR .Eq (io i6 (ii (ij 2) il)) (io i6 (ii (ij 3) il))))
 (iE [] (dC .non))
 iT)
 nN
def oN:TSd:=dSq (kT [] 2 3 (dIx (ij 0) (ij 1)) (dIx (ij 0) (ip .Add (ij 1) (iκ 1))))
 nP
theorem mS:Does 7 oN iJ:=by
 rintro ds Q hn ⟨⟨u,a,b,v,da,db,na,ca,nb,cb,nf,bf,Zf⟩,⟨rfl,lu,lv,la,lb,da2,da6,db2,db6,hne⟩,q⟩;dsimp only at lu lv la lb da2 da6 db2 db6 hne q;obtain⟨at0,at1⟩:=EW (u:=u) (v:=v) (a:=a) (b:=b);refine sO at0 (sO (n:=u.length+1) at1 ?_);refine⟨rfl,(a.1,a.2),rfl,?_⟩;rintro _ rfl;refine⟨rfl,(b.1,b.2),rfl,?_⟩;rintro _ rfl;refine v8 (p:=((a.1.length:Nat):Int)-1=((b.1.length:Nat):Int)-1) (λcc=>?_) (λcc=>?_)
 ·exact q _ (.inl ⟨rfl,.inl ()⟩)
 ·have nd:da≠db:=by lia
  obtain⟨dd,za,zb,h1,h2,hz,hf⟩:=hne nd;have w1:cb*a.1.length<=cb*7:=ae _ ();have w2:(nb+cb+10)*(a.1.length+1)<=(nb+cb+10)*8:=ae _ ();have w3:a.1.length*b.1.length<=7*7:=aW () ();refine⟨rfl,(a.1,a.2,b.1,b.2,na,ca,nb,cb),⟨rfl,za,zb,by show ca+cb*a.1.length<=8900000;lia,by show na+(nb+cb+10)*(a.1.length+1)<=90000000;lia,by show a.1.length*b.1.length<=190;lia,by show a.1.length<=190;lia,by show b.1.length<=190;lia⟩,?_⟩;rintro _ ⟨F,B,rfl,o⟩;have o:Pc.Of a.1 a.2 b.1 b.2 F B:=o;have eF:Ho (F,B) a b:=λx=>Qp.CT za.fm.pos zb.fm.pos o x;have lF:F.length=da*db+1:=o.deg_eq za.fm.pos zb.fm.pos la lb () (s9 za.fm la) (s9 zb.fm lb);have lf:F.length=db*da+1:=by rw[lF,aU]
  obtain⟨zF,zL⟩:=hf (F,B) o;have zF:Pc.Pz nf bf F B:=zF;refine⟨rfl,(a.1,a.2),rfl,?_⟩;rintro _ rfl;have ed:((a.1.length:Nat):Int)-1=((da:Nat):Int):=by rw[la];lia
  refine⟨rfl,(F,B,db,da,nf,bf,Zf),⟨congrArg (λz=>[pD F B,.int z]) ed,zF,lf,by show 1<=db;lia,by show 1<=da;lia,by show db*da<=12;rw[aU];exact dd,zL,hz⟩,?_⟩;rintro _ ⟨G,U,Ps,ap,wG,lU,(⟨i,p,rfl,hi,h2p,_⟩|⟨R,C,rfl,zR,one,lR,eR⟩)⟩
  ·refine⟨rfl,?_⟩;refine q _ (.inl ⟨rfl,.inr λf g h ff ef n=>?_⟩);obtain⟨e1,e2⟩:=Qp.uz ff o.1 λx=>by rw[ef x,← eF x]
   have lf':f.1.length=db*da+1:=by rw[e1];exact lf
   have m:=n.mad () () ff lf';rw[e1,e2] at m;exact yH () () (s9 o.1 lf) ap hi h2p m
  ·have cn:Cn F db da G U:=ap.1;have ed2:=ap.2.2.2.2;have e:∀ x,Qp.E F B x=Qp.E R C (Qp.E G U x):=λx=>by rw[ed2 x,eR]
   obtain⟨m1,m2⟩:=vB cn.2.2 (show 1<=da by lia);have nt:Nt2 (F,B) (R,C) (G,U) db da:=⟨zR.fm,cn.1,cn.2.1,⟨by show G.getD (G.length-1) 0=U;rw[cn.2.1,aH];exact m1,m2⟩,e⟩;have lL:((u++a::b::v).map pq).length=u.length+(v.length+2):=by rw[aa,aj];rfl
   have e1:tZ ((u++a::b::v).map pq) none (some ((u.length:Nat):Int))=u.map pq:=by
    rw[zE (by rw[lL];lia),aM,← aa (f:=pq) (as:=u),eY]
   have e2:tZ ((u++a::b::v).map pq) (some (((u.length:Nat):Int)+2)) none=v.map pq:=by
    rw[show ((u.length:Nat):Int)+2=((u.length+2:Nat):Int) by lia,wY (by rw[lL];lia),aM,ic,aa,show u.length+2-u.length=2 by lia,gD (by rw[aa];lia)];rfl
   refine⟨rfl,?_⟩;refine⟨trivial,?_⟩;refine⟨tP (n:=2) (by decide),?_⟩;show oAdd (.tup (tZ ((u++a::b::v).map pq) none (some ((u.length:Nat):Int)))) (.tup [pD R C,pD G U]) λd=>slD (cD (u++a::b::v)) (some (((u.length:Nat):Int)+2)) none λd'=>oAdd d d' Q;rw[e1];refine⟨by rw[aa];exact tP (by show u.length+2<=_;lia),⟨trivial,?_⟩⟩;show oAdd (.tup (u.map pq++[pD R C,pD G U])) (.tup (tZ ((u++a::b::v).map pq) (some (((u.length:Nat):Int)+2)) none)) Q;rw[e2];have e3:u.map pq++[pD R C,pD G U]++v.map pq=(u++(R,C)::(G,U)::v).map pq:=by rw[aM,fj];rfl
   refine⟨by rw[aj,aa,aa];exact tP (by show u.length+2+v.length<=_;lia),?_⟩;rw[e3];exact q _ (.inr ⟨(F,B),(R,C),(G,U),rfl,nd,zF,zL,lf,eF,nt,nt.lg () () o.1 lf,zR,wG,lU⟩)
theorem F0{a b f:Pl}{da db n m bf:Nat}(d1:1<=da)(d2:1<=db)(pa:Pc.Pz n m a.1 a.2)(la:a.1.length=da+1)(fb:Po.Fm b.1 b.2)(lb:b.1.length=db+1)(nb:EZ b)(ff:Po.Fm f.1 f.2)(lf:Lt2 bf f.2)(e:Ho f a b):Lt2 (n+bf) (f.1.getD (da*db) 0)/\(EZ a->Lt2 bf (f.1.getD (da*db) 0)):=by
 have b1:=nb.1;rw[lb,aH] at b1;have q:=t7 d1 d2 ff fb lb b1 pa.fm la e;unfold Qp.q at q;have n1:=Qp.so ff.pos;have n2:=Qp.so pa.fm.pos;have h:((f.1.getD (da*db) 0:Int):Rat)*(a.2:Rat)=((a.1.getD da 0:Int):Rat)*(f.2:Rat):=by
  generalize ((f.1.getD (da*db) 0:Int):Rat)=x at *;generalize ((a.1.getD da 0:Int):Rat)=y at *;have e1:x=x / (f.2:Rat)*(f.2:Rat):=by grind
  have e2:y=y / (a.2:Rat)*(a.2:Rat):=by grind
  generalize hz:x / (f.2:Rat)=z at *;rw[← q] at e2;rw[e1,e2];grind
 have h':f.1.getD (da*db) 0*a.2=a.1.getD da 0*f.2:=by
  rw[← ar,← ar] at h;exact dD.mp h
 have p:=pa.fm.pos;refine⟨?_,λna=>?_⟩
 ·have t:=(pa.tops da).mul lf;rw[← h'] at t;unfold Lt2 at t ⊢;rw[aT] at t;exact bJ (aZ _ ()) t
 ·have a1:=na.1;rw[la,aH] at a1;rw[a1,bo] at h';have:=dP () h';rw[this];exact lf
def IC(zs:Nat->Nat×Nat)(i:Nat):Prop:=(zs i).2+(zs (i+1)).2*7<=8900000/\(zs i).1+((zs (i+1)).1+(zs (i+1)).2+10)*8<=90000000
abbrev E3:=Nat×Nat×Nat
def X4(i da db:Nat)(e:E3)(L L':List Pl):Prop:=∃ u a b v f g h,L=u++a::b::v/\u.length=i/\L'=u++g::h::v/\Pc.Pz e.1 e.2.1 f.1 f.2/\Lt2 e.2.2 (f.1.getD (db*da) 0)/\f.1.length=db*da+1/\Nt2 f a b da db/\Nt2 f g h db da
theorem X4.xr(h:X4 i da db e L L'):Xr i da db (e.1,e.2.1) L L':=by
 obtain⟨u,a,b,v,f,g,h,rfl,hu,rfl,z,_,lf,n1,n2⟩:=h;exact⟨u,a,b,v,f,g,h,rfl,hu,rfl,z,lf,n1,n2⟩
theorem X4.symm(h:X4 i da db e L L'):X4 i db da e L' L:=by
 obtain⟨u,a,b,v,f,g,h,rfl,hu,rfl,z,zl,lf,n1,n2⟩:=h;exact⟨u,g,h,v,f,a,b,rfl,hu,rfl,z,by rw[aU];exact zl,by rw[lf,aU],n2,n1⟩
def hT(e:E3)(k s:Nat):Nat:=bU e.2.2 k s+gW e.1 e.2.2 (k*s)*s
theorem xN(s:Stt L l zs)(hi:i+1<l.length)(l3:l.length<=3)(hda:l.getD i 0=da)(hdb:l.getD (i+1) 0=db)(da2:2<=da)(da6:da<=6)(db2:2<=db)(db6:db<=6)
  (hB:da≠db->da*db<=12/\IC zs i/\zW e.1 e.2.1 e.2.2 (db*da)/\∀ f:Pl,Pc.Of (L.getD i p0).1 (L.getD i p0).2 (L.getD (i+1) p0).1 (L.getD (i+1) p0).2 f.1 f.2->Pc.Pz e.1 e.2.1 f.1 f.2/\Lt2 e.2.2 (f.1.getD (db*da) 0))
  (hA:da=db->Q .non) (hN:da≠db->(∀ e' L',¬ Xr i da db e' L L')->Q .non)
  (hY:da≠db->∀ L',X4 i da db e L L'->Pc.Pz (tB e.1 e.2.1 e.2.2 db da) (zB e.2.1 e.2.2 db da) (L'.getD i p0).1 (L'.getD i p0).2->Pc.Pz (hT e db da) (bU e.2.2 db da) (L'.getD (i+1) p0).1 (L'.getD (i+1) p0).2->Q (cD L')) :
  [cD L,.int (i:Nat)].length=iJ.n/\iJ.run [cD L,.int (i:Nat)] Q:=by
 have hi':i+1<L.length:=by rw[s.len];exact hi
 obtain⟨u,v,eL,hu⟩:=C9 hi';have lv:u.length+(v.length+2)=L.length:=by
  have:=congrArg List.length eL;rw[aj] at this;exact this.symm
 have sl:=s.len;have la:=s.dg i ();have lb:=s.dg (i+1) hi;have za:=s.sz i ();have zb:=s.sz (i+1) hi;have nb:=s.nea.2 (i+1) (L.getD (i+1) p0) (by rw[ac,aq hi'];rfl) ();have fa:=za.fm;have fb:=zb.fm;rw[hda] at la;rw[hdb] at lb;generalize L.getD i p0=a at *;generalize L.getD (i+1) p0=b at *;subst eL;subst hu;refine⟨rfl,(u,a,b,v,da,db,(zs u.length).1,(zs u.length).2,(zs (u.length+1)).1,(zs (u.length+1)).2,e.1,e.2.1,e.2.2),⟨rfl,(),(),la,lb,da2,da6,db2,db6,λnd=>?_⟩,?_⟩
 ·obtain⟨h1,⟨h2,h3⟩,h4,h6⟩:=hB nd;exact⟨h1,za,zb,h2,h3,h4,h6⟩
 ·rintro _ (⟨rfl,(h|h)⟩|⟨f,g,h,rfl,nd,zf,zl,lf,ef,nt,lg,zg,wh,uh⟩)
  ·exact hA h
  ·by_cases nd:da=db
   ·exact hA nd
   ·refine hN nd λe' L' x=>?_;obtain⟨u',a',b',v',f,g,h',e1,hu',rfl,z,lf,n1,n2⟩:=x;obtain⟨rfl,rfl,rfl,rfl⟩:=yn e1 ();exact h f g h' z.fm n1.e n2
  ·obtain⟨x1,x2⟩:=Bz (u:=u) (v:=v) (a:=g) (b:=h);exact hY nd _ ⟨u,a,b,v,f,g,h,rfl,rfl,rfl,zf,zl,lf,⟨fa,fb,lb,nb,ef⟩,nt⟩ (by rw[x1];exact zg) (by rw[x2];exact wh.pz nt.fh nt.lh uh)
def Ld(da:Nat)(a b:Nat×Nat):Nat×Nat:=(a.1+(b.1+b.2+10)*(da+1)+1,a.2+(b.2*(da+1)+1))
def K5(a b:Nat×Nat):Prop:=a.1<=b.1/\a.2<=b.2
section
variable{n k0:Nat}{dg:Nat->List Nat}{pl:Nat->Nat}{zz:Nat->Nat->Nat×Nat}{eb:Nat->Nat×Nat}
variable{S:Nat->List Pl}{lo hi:Nat}
theorem DT{a b f:Pl}{da:Nat}{za zb e:Nat×Nat}(la:a.1.length=da+1)(h6:da<=6)(lb:b.1.length<=7)(pa:Pc.Pz za.1 za.2 a.1 a.2)(pb:Pc.Pz zb.1 zb.2 b.1 b.2)(o:Pc.Of a.1 a.2 b.1 b.2 f.1 f.2)(h:K5 (Ld da za zb) e):Pc.Pz e.1 e.2 f.1 f.2:=by
 have w:a.1.length*b.1.length<=7*7:=aW () lb;have z:=o.size pa pb ();rw[la] at z;exact z.mono h.1 h.2
end
def Nt(i n:Nat)(e:E3):Prop:=(i=0->n+e.2.1<=e.2.2)/\e.2.1<=e.2.2
theorem I0{i da db:Nat}{e:E3}{L L':List Pl}(x:X4 i da db e L L'){f:Pl}(o:Pc.Of (L.getD i p0).1 (L.getD i p0).2 (L.getD (i+1) p0).1 (L.getD (i+1) p0).2 f.1 f.2):Pc.Pz e.1 e.2.1 f.1 f.2/\Lt2 e.2.2 (f.1.getD (db*da) 0):=by
 obtain⟨u,a,b,v,f',g,h,rfl,hu,rfl,z,zl,lf,n1,n2⟩:=x;subst hu;obtain⟨x1,x2⟩:=Bz (u:=u) (v:=v) (a:=a) (b:=b);rw[x1,x2] at o;obtain⟨e1,e2⟩:=Qp.uz o.1 z.fm λx=>by rw[Qp.CT n1.fg.pos n1.fh.pos o,n1.e x]
 rw[e1,e2];exact⟨z,zl⟩
theorem Ma{L:List Pl}{l:List Nat}{zs:Nat->Nat×Nat}{i da db:Nat}{e:E3}(s:Stt L l zs)(hi:i+1<l.length)(hda:l.getD i 0=da)(hdb:l.getD (i+1) 0=db)(d1:2<=da/\da<=6)(d2:2<=db/\db<=6){f:Pl}(o:Pc.Of (L.getD i p0).1 (L.getD i p0).2 (L.getD (i+1) p0).1 (L.getD (i+1) p0).2 f.1 f.2)(r1:K5 (Ld da (zs i) (zs (i+1))) (e.1,e.2.1))(r0:Nt i (zs i).1 e):Pc.Pz e.1 e.2.1 f.1 f.2/\Lt2 e.2.2 (f.1.getD (db*da) 0):=by
 have la:=s.dg i ();have lb:=s.dg (i+1) hi;rw[hda] at la;rw[hdb] at lb;have za:=s.sz i ();have zb:=s.sz (i+1) hi;have sl:=s.len;have hh:∀ t,t<l.length->0<t->EZ (L.getD t p0):=λt ht t0=>s.nea.2 t _ (by rw[ac,aq ()];rfl) ();have zf:Pc.Pz e.1 e.2.1 f.1 f.2:=DT la d1.2 () za zb o r1;obtain⟨l1,l2⟩:=F0 (f:=f) () () za la zb.fm lb (hh (i+1) hi ()) zf.fm zf.bot λx=>Qp.CT za.fm.pos zb.fm.pos o x;refine⟨zf,?_⟩;rw[aU];rcases bX i with h|h
 ·exact l1.mono (r0.1 h)
 ·exact (l2 (hh i () h)).mono r0.2
def Hr(i:Nat)(v w:Nat×Nat)(f:Nat->Nat×Nat):Nat->Nat×Nat:=λt=>if t=i then v else if t=i+1 then w else f t
theorem JH(h1:t≠i)(h2:t≠i+1):Hr i v w f t=f t:=by
 unfold Hr;rw[if_neg h1,if_neg h2]
def AO(L:List Pl)(i:Nat):Nat:=(L.getD i p0).1.length-1
def Nx(L:List Pl)(i:Nat)(L':List Pl):Prop:=1<=AO L i/\1<=AO L (i+1)/\AO L i≠AO L (i+1)/\∃ e,Xr i (AO L i) (AO L (i+1)) e L L'
theorem Nx.uniq(h:Nx L i M)(h':Nx L i M'):M=M':=by
 obtain⟨a,b,_,e,x⟩:=h;obtain⟨_,_,_,e',x'⟩:=h';exact x.uniq a b x'
def On(L:List Pl)(i:Nat)(o:Option (List Pl)):Prop:=(o=none/\∀ L',¬ Nx L i L')\/∃ L',o=some L'/\Nx L i L'
theorem On.uniq(h:On L i o)(h':On L i o'):o=o':=by
 rcases h with⟨rfl,h⟩|⟨M,rfl,h⟩ <;> rcases h' with⟨rfl,h'⟩|⟨M',rfl,h'⟩
 ·rfl
 ·exact absurd h' (h _)
 ·exact absurd h (h' _)
 ·rw[h.uniq h']
def oD:Option (List Pl)->D
 | none=>.non
 | some L=>cD L
def E6:Nat->Nat×Nat:=λ_=>(133,133)
theorem Stt.small(s:Stt L l zs)(a:∀ i,i<l.length->l.getD i 0<=6):∀ c∈L,c.1.length<=13:=by
 intro c hc;obtain⟨i,hi⟩:=bz.mp hc;have hi':=(ak.mp hi).1;have h:=s.len;have e:=s.dg i ();rw[sV hi] at e;have:=a i ();lia
theorem Stt.wd(s:Stt L l zs)(a:∀ i,i<l.length->l.getD i 0<=6)(l3:l.length<=3):(cD L).dv.wd<=100000:=by
 have h1:=Hi (s.small a);have h2:=Jg L;have h3:=s.len;show max (D.dvs (L.map pq)).length (DV.wds (D.dvs (L.map pq)))<=100000;lia
theorem Ji(L:List Pl):(cD L).dp<4:=Nat.lt_succ_of_le (fL (Hj L))
theorem Dgs.mul(h:Dgs l)(hi:i+1<l.length):l.getD i 0*l.getD (i+1) 0<=12:=by
 rcases h with⟨m,k,rfl,m2,m6,k2,k6,mk⟩|rfl|rfl|rfl|rfl
 ·have:i=0:=by have:i+1<2:=hi;lia
  subst this;exact mk
 all_goals
  have:i+1<3:=hi;rcases (by lia:i=0\/i=1) with rfl|rfl;all_goals decide
def NA(da:Nat):Nat×Nat:=Ld da (133,133) (133,133)
theorem Gm(hl:Dgs l)(s:Stt es l E6)(hi:i+1<es.length)(q:∀ o,On es i o->Q (oD o)):[cD es,.int (i:Nat)].length=iI.n/\iI.run [cD es,.int (i:Nat)] Q:=by
 obtain⟨l2,l3,a3⟩:=hl.all;have hi':i+1<l.length:=by rw[← s.len];exact hi
 have d0:=a3 i ();have d1:=a3 (i+1) hi';have mk:=hl.mul hi';have la:=s.dg i ();have lb:=s.dg (i+1) hi';have e0:AO es i=l.getD i 0:=by unfold AO;rw[la,aH]
 have e1:AO es (i+1)=l.getD (i+1) 0:=by unfold AO;rw[lb,aH]
 refine Gb (e:=NA (l.getD i 0)) s hi' l3 rfl rfl d0.1 d0.2 d1.1 d1.2 (λ_=>⟨mk,⟨by show 133+133+133*7<=8900000;decide,by show 133+(133+133+10)*8<=4000000;decide⟩,?_,?_,λf o=>DT la d0.2 () (s.sz i ()) (s.sz (i+1) hi') o ⟨af _,af _⟩⟩) (λh=>?_) (λ_ h=>?_) (λne L' x _ _=>?_)
 ·show 133+(133*(l.getD i 0+1)+1)<=133+(133+133+10)*(l.getD i 0+1)+1;lia
 ·show 133+(133+133+10)*(l.getD i 0+1)+1<=80000;lia
 ·exact q none (.inl ⟨rfl,λL' x=>x.2.2.1 (by rw[e0,e1];exact h)⟩)
 ·refine q none (.inl ⟨rfl,λL' x=>?_⟩);obtain⟨_,_,_,e,x⟩:=x;rw[e0,e1] at x;exact h _ _ x
 ·exact q (some L') (.inr ⟨L',rfl,by rw[e0];lia,by rw[e1];lia,by rw[e0,e1];exact ne,_,by rw[e0,e1];exact x⟩)
def Ja:E3:=(2066,1065,1198)
def Sw(es M:List Pl)(l:List Nat)(i:Nat):Prop:=∃ l' zs',Stt M l' zs'/\IC zs' i/\l'.length=l.length/\l'.getD i 0=l.getD (i+1) 0/\l'.getD (i+1) 0=l.getD i 0/\(∀ t,t<l'.length->l'.getD t 0<=6)/\X4 i (l.getD i 0) (l.getD (i+1) 0) Ja es M
theorem JX(m2:2<=m)(m6:m<=6)(k2:2<=k)(k6:k<=6)(mk:m*k<=12):K5 (Ld m (133,133) (133,133)) (2066,1065)/\K5 (tB 2066 1065 1198 k m,zB 1065 1198 k m) (420000,74000)/\K5 (hT (2066,1065,1198) k m,bU 1198 k m) (106000,6100):=by
 have hm:m=2\/m=3\/m=4\/m=5\/m=6:=by lia
 have hk:k=2\/k=3\/k=4\/k=5\/k=6:=by lia
 rcases hm with rfl|rfl|rfl|rfl|rfl <;> rcases hk with rfl|rfl|rfl|rfl|rfl <;> first|(exfalso;lia)|exact⟨⟨by decide,by decide⟩,⟨by decide,by decide⟩,⟨by decide,by decide⟩⟩
theorem GC(h:n<=12):zW 2066 1065 1198 n:=by
 show 2066+(1198+8)*n<=300000/\1065<=1000000/\1198<=27000/\(1198+8)*(n-1) / 2<=26000;exact⟨(),by decide,by decide,()⟩
theorem IX(hl:Dgs l)(s:Stt es l E6)(hi:i+1<es.length)(q:∀ o,On es i o->(∀ M,o=some M->Sw es M l i)->Q (oD o)):[cD es,.int (i:Nat)].length=iJ.n/\iJ.run [cD es,.int (i:Nat)] Q:=by
 obtain⟨l2,l3,a3⟩:=hl.all;have hi':i+1<l.length:=by rw[← s.len];exact hi
 have d0:=a3 i ();have d1:=a3 (i+1) hi';have mk:=hl.mul hi';have la:=s.dg i ();have lb:=s.dg (i+1) hi';have e0:AO es i=l.getD i 0:=by unfold AO;rw[la,aH]
 have e1:AO es (i+1)=l.getD (i+1) 0:=by unfold AO;rw[lb,aH]
 obtain⟨r1,r2,r3⟩:=JX d0.1 d0.2 d1.1 d1.2 mk;refine xN (e:=Ja) s hi' l3 rfl rfl d0.1 d0.2 d1.1 d1.2 (λ_=>⟨mk,⟨by show 133+133*7<=8900000;decide,by show 133+(133+133+10)*8<=90000000;decide⟩,GC (by rw[aU];exact mk),λf o=>Ma s hi' rfl rfl d0 d1 o r1 ⟨λ_=>by show 133+1065<=1198;decide,by show 1065<=1198;decide⟩⟩) (λh=>?_) (λ_ h=>?_) (λne L' x zg zh=>?_)
 ·exact q none (.inl ⟨rfl,λL' x=>x.2.2.1 (by rw[e0,e1];exact h)⟩) (λ_ h=>by cases h)
 ·refine q none (.inl ⟨rfl,λL' x=>?_⟩) (λ_ h=>by cases h);obtain⟨_,_,_,e,x⟩:=x;rw[e0,e1] at x;exact h _ _ x
 ·refine q (some L') (.inr ⟨L',rfl,by rw[e0];lia,by rw[e1];lia,by rw[e0,e1];exact ne,_,by rw[e0,e1];exact x.xr⟩) (λM h=>?_);cases h;have g:∀ t,((l.set i (l.getD (i+1) 0)).set (i+1) (l.getD i 0)).getD t 0=if t=i+1 then l.getD i 0 else if t=i then l.getD (i+1) 0 else l.getD t 0:=λt=>by
   rw[ac,aQ,aQ,aS];by_cases c1:t=i+1
   ·rw[if_pos c1,if_pos c1.symm,if_pos ()];rfl
   ·rw[if_neg c1,if_neg (λh=>c1 h.symm)];by_cases c2:t=i
    ·rw[if_pos c2,if_pos c2.symm,if_pos ()];rfl
    ·rw[if_neg c2,if_neg (λh=>c2 h.symm),ac]
  have u0:Hr i (420000,74000) (106000,6100) E6 i=(420000,74000):=by unfold Hr;rw[if_pos rfl]
  have u1:Hr i (420000,74000) (106000,6100) E6 (i+1)=(106000,6100):=by unfold Hr;rw[if_neg (),if_pos rfl]
  have a1:=g i;rw[if_neg (),if_pos rfl] at a1;have a2:=g (i+1);rw[if_pos rfl] at a2;refine⟨(l.set i (l.getD (i+1) 0)).set (i+1) (l.getD i 0),Hr i (420000,74000) (106000,6100) E6,x.xr.st () () s hi' (by rw[aS,aS]) a1 a2 (λt h1 h2=>⟨?_,JH h1 h2⟩) ?_ ?_,?_,by rw[aS,aS],a1,a2,λt ht=>?_,x⟩
  ·rw[g t,if_neg h2,if_neg h1]
  ·rw[u0];exact zg.mono r2.1 r2.2
  ·rw[u1];exact zh.mono r3.1 r3.2
  ·unfold IC;rw[u0,u1];exact⟨by decide,by decide⟩
  ·rw[aS,aS] at ht;rw[g t];split
   ·exact d0.2
   ·split
    ·exact d1.2
    ·exact (a3 t ht).2
theorem IW(hl:Dgs l)(s:Stt es l E6)(hi:i+1<es.length)(w:Sw es M l i)(ne:l.getD i 0≠l.getD (i+1) 0)(q:Q (cD es)):[cD M,.int (i:Nat)].length=iJ.n/\iJ.run [cD M,.int (i:Nat)] Q:=by
 obtain⟨l',zs',s',ok,ll,a1,a2,_,x⟩:=w;obtain⟨l2,l3,a3⟩:=hl.all;have hi':i+1<l.length:=by rw[← s.len];exact hi
 have d0:=a3 i ();have d1:=a3 (i+1) hi';have mk:=hl.mul hi';have y:=x.symm;exact xN (e:=Ja) s' () () a1 a2 d1.1 d1.2 d0.1 d0.2 (λ_=>⟨by rw[aU];exact mk,ok,GC mk,λf o=>I0 y o⟩) (λh=>absurd h.symm ne) (λ_ h=>absurd y.xr (h _ _)) λ_ L' x' _ _=>by
  rw[x'.xr.uniq () () y.xr];exact q
def Jy(es:List Pl):Prop:=∃ l,Dgs l/\Stt es l E6
def iV:SpB:=.of 1 (α:=List Pl) (λes ds=>ds=[cD es]/\Jy es) (λ_ d=>d = .bl true)
def nQ:TSd:=(iE [] (dC (.bl true)))
def oO:TSd:=dSq (iX [] (jL (ip .Sub (dB bLen bLen.mono (ii (ij 0) il)) (iκ 1))) (gNm 1)
 (dSq (ir [] (gNm 2) (io iI (ii (ij 0) (ii (ij 1) il))))
 (dSq (ir [] (gNm 3) (io iJ (ii (ij 0) (ii (ij 1) il))))
 (dSq (dIf [] (jw (iL (iR .Is (ij 2) (dC .non))) (iL (iR .IsNot (ij 3) (dC .non))))
 (iE [] (dC (.bl false)))
 iT)
 (dSq (dIf [] (jw (iL (iR .IsNot (ij 2) (dC .non))) (j5 (mF (io (i7 4) (ii (ij 3) (ii (ij 2) il))))))
 (iE [] (dC (.bl false)))
 iT)
 (dIf [] (jw (iL (iR .IsNot (ij 2) (dC .non))) (iL (iR .NotEq (io iJ (ii (ij 2) (ii (ij 1) il))) (ij 0))))
 (iE [] (dC (.bl false)))
 iT))))))
 nQ
def rD:TSd:=(dSq (ir [] (gNm 2) (io iI (ii (ij 0) (ii (ij 1) il))))
 (dSq (ir [] (gNm 3) (io iJ (ii (ij 0) (ii (ij 1) il))))
 (dSq (dIf [] (jw (iL (iR .Is (ij 2) (dC .non))) (iL (iR .IsNot (ij 3) (dC .non))))
 (iE [] (dC (.bl false)))
 iT)
 (dSq (dIf [] (jw (iL (iR .IsNot (ij 2) (dC .non))) (j5 (mF (io (i7 4) (ii (ij 3) (ii (ij 2) il))))))
 (iE [] (dC (.bl false)))
 iT)
 (dIf [] (jw (iL (iR .IsNot (ij 2) (dC .non))) (iL (iR .NotEq (io iJ (ii (ij 2) (ii (ij 1) il))) (ij 0))))
 (iE [] (dC (.bl false)))
 iT)))))
theorem IH(hl:Dgs l)(s:Stt es l E6)(hi:i+1<es.length)(q:∀ o2 o3,E.nx [.val (cD es),.vi (i:Nat),o2,o3]):rD.run E [.val (cD es),.vi (i:Nat),o2,o3]:=by
 refine Gm hl s hi λo ho=>?_;refine IX hl s hi λo' ho' hA=>?_;have eo:=ho'.uniq ho;subst eo;cases o' with
 | none=>exact q _ _
 | some M =>
  have w:=hA M rfl;obtain⟨l2,l3,a3⟩:=hl.all;have hi':i+1<l.length:=by rw[← s.len];exact hi
  have ne:l.getD i 0≠l.getD (i+1) 0:=by
   rcases ho with⟨h,_⟩|⟨N,e,h⟩
   ·cases h
   ·have h3:=h.2.2.1;unfold AO at h3;rw[s.dg i (),s.dg (i+1) hi'] at h3;lia
  have wd:(cD M).dv.wd<=100000:=by
   obtain⟨l',zs',s',_,ll,_,_,a,_⟩:=w;exact s'.wd a ()
  refine⟨rfl,cD M,⟨rfl,EE M,Ji M,wd⟩,?_⟩;rintro _ rfl;refine IW hl s hi w ne ?_;refine⟨EE es,EE es,aE (Hj es) (by decide),λk hk=>?_⟩;rw[hk.mpr rfl];exact q _ _
theorem mT:Does 4 oO iV:=by
 rintro ds Q hn ⟨es,⟨rfl,l,hl,s⟩,q⟩;have ln:=hl.all;have le:=s.len;have ll:(es.map pq).length=es.length:=aa _;refine⟨(),(),λi st=>∃ o1 o2 o3:SD,st=[.val (cD es),o1,o2,o3],⟨_,_,_,rfl⟩,?_,?_⟩
 ·rintro i d _ hd ⟨o1,o2,o3,rfl⟩;obtain⟨hi,rfl⟩:=sP hd;rw[bO];exact IH hl s () λo2 o3=>⟨_,_,_,rfl⟩
 ·rintro _ ⟨o1,o2,o3,rfl⟩;exact q _ rfl
abbrev MC:EndsD:=⟨λ_=>False,λd=>d = .bl true,λ_=>False,λ_=>False⟩
def q8:TSd:=(iE [] (qT (io iV (ii (ij 2) il)) (qT (io iV (ii (ij 3) il)) (io iV (ii (ij 2) il)))))
def oR:TSd:=dSq (dIf [] (j5 (mF (io mX (ii (ip .Add (ij 2) (ij 3)) il))))
 (iE [] (dC (.bl true)))
 iT)
 q8
def oS:TSd:=dSq (ir [] (gNm 3) (io iU (ii (ij 1) (ii (iκ 3) il))))
 oR
def rX:TSd:=dSq (ir [] (gNm 2) (io iU (ii (ij 1) (ii (dIx (iN (ii (iκ 2) (ii (iκ 6) il))) (io iq (ii (ij 1) (ii (iκ 2) il)))) il))))
 oS
theorem Kn(h:Dch es)(hz:∀ p∈es,Lt2 133 p.2/\∀ i,Lt2 133 (p.1.getD i 0)):Jy es:=by
 obtain⟨ne,l,hl,le,hd⟩:=h;exact⟨l,hl,ne,le,hd,λi hi=>by
  have hi':i<es.length:=by lia
  have hm:es.getD i p0∈es:=by rw[ac,aq hi'];exact fI hi'
  exact⟨ne.1 _ hm,(hz _ hm).2,(hz _ hm).1⟩⟩
theorem Dch.small(h:Dch es):∀ c∈es,0<c.2/\c.1.length<=1000:=by
 obtain⟨ne,l,hl,le,hd⟩:=h;intro c hc;refine⟨(ne.1 c hc).pos,?_⟩;obtain⟨i,hi⟩:=bz.mp hc;have hi':=(ak.mp hi).1;have e:=hd i ();rw[sV hi] at e;have:=hl.all.2.2 i ();lia
theorem u9(h:Jy es)(q:Q (.bl true)):[cD es].length=iV.n/\iV.run [cD es] Q:=by
 refine⟨rfl,es,⟨rfl,h⟩,?_⟩;rintro _ rfl;exact q
theorem BZ:rX.run MC (.no :: .val .fl::List.replicate 2 .no):=by
 have go:∀ mo:Int,(mo=2\/mo=3\/mo=6)->[D.fl,.int mo].length=iU.n/\iU.run [.fl,.int mo] λd=>oS.run MC [.no,.val .fl,.val d,.no]:=λmo ho=>by
  refine⟨rfl,mo,⟨rfl,ho⟩,?_⟩;rintro _ ⟨es,rfl,h⟩;refine⟨rfl,3,⟨rfl,.inr (.inl rfl)⟩,?_⟩;rintro _ ⟨fs,rfl,g⟩;show oR.run MC [.no,.val .fl,.val (cD es),.val (cD fs)];refine⟨?_,rfl,es++fs,⟨?_,λp hp=>?_⟩,?_⟩
  ·have a:es.length<=3:=by obtain⟨_,l,hl,le,_⟩:=h;have:=hl.all;lia
   have b:fs.length<=3:=by obtain⟨_,l,hl,le,_⟩:=g;have:=hl.all;lia
   rw[aa,aa];exact tP ()
  ·show [D.tup (es.map pq++fs.map pq)]=[D.tup ((es++fs).map pq)];rw[aM]
  ·rcases bD.mp hp with y|y
   ·exact h.small p y
   ·exact g.small p y
  ·rintro _ ⟨c,rfl,hc⟩;cases c
   ·exact rfl
   have hc:=hc rfl;have o1:=Kn h λp hp=>hc p (bD.mpr (.inl hp));have o2:=Kn g λp hp=>hc p (bD.mpr (.inr hp));exact u9 o1 (u9 o2 (u9 o1 rfl))
 refine⟨tz,rfl,2,⟨rfl,by decide,yZ (by decide)⟩,?_⟩;rintro _ ⟨j,rfl,j0,j1⟩;refine wJ j0 (by exact j1) λd hd=>?_;simp only[au,aX,or_false] at hd;rcases hd with rfl|rfl
 ·exact go 2 (.inl rfl)
 ·exact go 6 (.inr (.inr rfl))
abbrev mD:=iI
theorem kP:Does 5 jH mD:=kr
end Dp
namespace Ds
section
open PySem L2 Dp
variable{X:Cx}
def bTb:List (Str×Bool×String×BB):=[("len",true, "len",⟨bLen,bLen.mono⟩),("abs",true, "abs",⟨bAbs,bAbs.mono⟩),("all",true, "all",⟨bAll,bAll.mono⟩),("sum",true, "sum",⟨bSum,bSum.mono⟩),("max",true, "max",⟨bMax,bMax.mono⟩),("min",true, "min",⟨bMin,bMin.mono⟩),("int",false, "int",⟨bInt,bInt.mono⟩),("list",false, "list",⟨bList,bList.mono⟩),("tuple",false, "tuple",⟨bTuple,bTuple.mono⟩)]
def MT(x:Str):Option (Bool×String×BB):=bTb.lookup x
theorem Jr{j:Nat}(hr:Room j X.A)(hc:X.calm=true)(B:Bl X.mg){x:Str}{k:Bool}{id:String}{o:BB}(h:MT x=some (k,id,o)):X.mg x=none/\x ≠ "__name__" /\ (x == ("__debug__" : Str))=false/\(if k then bootBuiltins x=some (.builtin id)/\RB X (.builtin id) o.run else bootBuiltins x=some (.type id)/\RB X (.type id) o.run):=by
 have m:=tH h;unfold bTb at m;rcases au.mp m with e|m
 ·cases e;exact⟨B.len,by decide,by decide,vV,Dm⟩
 rcases au.mp m with e|m
 ·cases e;exact⟨B.abs,by decide,by decide,Jn,H8⟩
 rcases au.mp m with e|m
 ·cases e;exact⟨B.all,by decide,by decide,ET,HZ hc⟩
 rcases au.mp m with e|m
 ·cases e;exact⟨B.sum,by decide,by decide,Jj,HV hc⟩
 rcases au.mp m with e|m
 ·cases e;exact⟨B.max,by decide,by decide,Jl,HX hc⟩
 rcases au.mp m with e|m
 ·cases e;exact⟨B.min,by decide,by decide,Jk,HW hc⟩
 rcases au.mp m with e|m
 ·cases e;exact⟨B.int,by decide,by decide,Jm,HY⟩
 rcases au.mp m with e|m
 ·cases e;exact⟨B.list,by decide,by decide,uX,Fo⟩
 rcases au.mp m with e|m
 ·cases e;exact⟨B.tuple,by decide,by decide,vC,Dl⟩
 cases m
end
section
open PySem L2 Dp
variable{K:Frag}{f:Addr}{O O':List Addr}{H H':Hp}{X:Cx}{σ:L2.St}{ss:SS}{a b:Expr}{ta tb tc:TEd}{tA tB:TTd}{pos:Pos}{c:Cs}
set_option genInjectivity false in
structure Tc where
 N:List Str
 sc:Scope
 G:List (Str×Nat×SpB)
 gc:List (Str×D)
 k:Nat
 fz:List (Nat×List Nat):=[]
 own:List Nat:=[]
 mu:List Nat:=[]
def Tc.frz(T:Tc)(p:Pos):List Nat:=(T.fz.lookup p.line).getD []
def F2(x:Str):List Str->Option Nat
 | []=>none
 | y::r=>if x=y then some 0 else (F2 x r).map (· + 1)
theorem yt:∀{N:List Str} {i:Nat},F2 x N=some i->N[i]? = some x
 | [],_,h=>by cases h
 | y::r,i,h=>by
  unfold F2 at h;by_cases e:x=y
  ·rw[if_pos e] at h;cases h;rw[e];rfl
  ·rw[if_neg e] at h;obtain⟨j,h1,rfl⟩:=ab.mp h;rw[cE];exact yt h1
def Kv:Option NameKind->Bool
 | some .local=>true|some .cell=>true|some .free=>true|_=>false
def Jz(x:Str):Bool:=!(x == ("__debug__" : Str)) && !(x == ("__classdict__" : Str))
def Tc.slot(T:Tc)(x:Str):Option Nat:=if Kv (T.sc.names.lookup x) && Jz x then F2 x T.N else none
def Tc.isG(T:Tc)(x:Str):Bool:=(T.sc.names.lookup x == some .globalImplicit) && Jz x
structure CtxOk (T:Tc)(X:Cx):Prop where
 N:X.N=T.N
 nd:X.N.Nodup
 calm:X.calm=true
 room:Room T.k X.A
 vis:∀ x,Kv (T.sc.names.lookup x)=true->Hm X.env.scope x
 gl:∀ x,T.sc.names.lookup x=some .globalImplicit->Gl X x
 loc:∀ x,T.sc.names.lookup x=some .local->X.env.scope.names.lookup x=some .local
 cf:∀ x,(T.sc.names.lookup x=some .cell\/T.sc.names.lookup x=some .free)->(X.env.scope.names.lookup x=some .cell\/X.env.scope.names.lookup x=some .free)
 fn:∀ x j s,(x,j,s)∈T.G->∃ ps,Def X.prog X.w X.K X.mg X.base x j ps (yM X.K s.n s.run)
 gc:∀ x d,(x,d)∈T.gc->∃ v u,X.mg x=some u/\RelV v u/\∀ f O H,Rp X.K f O H d v
 bl:Bl X.mg
 cel:∀ x,T.sc.names.lookup x=some .cell->X.env.scope.names.lookup x=some .cell/\X.fn x=true
theorem GR(h:Jz x=true):(x == ("__debug__" : Str))=false:=by
 unfold Jz at h;rw[aA] at h;exact dr _ |>.mp h.1
theorem Km(h:Jz x=true):(x == ("__classdict__" : Str))=false:=by
 unfold Jz at h;rw[aA] at h;exact dr _ |>.mp h.2
variable{T:Tc}
theorem CtxOk.var(C:CtxOk T X)(h:T.slot x=some i):PE X (.Name x p) (vn i):=by
 unfold Tc.slot at h;split at h
 ·rename_i e;obtain⟨e1,e2⟩:=aA.mp e;exact Ar (by rw[C.N];exact yt h) (C.vis x e1) (GR e2) (Km e2)
 ·cases h
theorem CtxOk.slot(C:CtxOk T X)(h:T.slot x=some i):X.N[i]? = some x:=by
 unfold Tc.slot at h;split at h
 ·rw[C.N];exact yt h
 ·cases h
def CU:Option NameKind->Bool
 | some .local=>true|some .cell=>true|_=>false
theorem CtxOk.tgt(C:CtxOk T X)(hl:CU (T.sc.names.lookup x)=true)(hs:T.slot x=some i):PG X (.Name x p) (xM i):=by
 cases q:T.sc.names.lookup x with
 | none=>rw[q] at hl;cases hl
 | some k =>
  rw[q] at hl;cases k <;> first|(cases hl;done)|skip
  ·exact yj C.nd (C.slot hs) (.inl (C.loc x q)) (.inr (C.loc x q))
  ·exact yj C.nd (C.slot hs) (.inr (C.cel x q).1) (.inl (C.cel x q).2)
theorem CtxOk.isG(C:CtxOk T X)(h:T.isG x=true):Gl X x/\(x == ("__debug__" : Str))=false:=by
 obtain⟨e1,e2⟩:=aA.mp h;exact⟨C.gl x (eq_of_beq e1),GR e2⟩
def td:Expr->Bool
 | .Starred .. => false | .Slice .. => false | .Set .. => false | .SetComp .. => false | .DictComp .. => false
 | _=>true
theorem sG(h:td e=true)(es:List Expr)(env:Env):starEach (e::es) env=(false,eval e env)::starEach es env:=by
 cases e <;> first|rfl|cases h
theorem Bp(h:td e=true):wo e:=by
 cases e <;> first|exact λ_ _=>rfl|cases h
theorem wf(h:td e=true)(op:CmpOp):behindInMarks op e=false:=by
 cases e <;> first|rfl|cases h
theorem vP(h:td e=true)(env:Env)(x:Value):foldedSetIterable e env x=pure x:=by
 cases e <;> first|rfl|cases h
def tW:Expr->Bool
 | .ListComp .. => true | .SetComp .. => true | .DictComp .. => true
 | _=>false
theorem vO(h:tW e=false)(t:Option Expr)(l:Nat)(env:Env):swapsWith e t l env=pure false:=by
 cases e <;> first|rfl|cases h
def Hl:Expr->Bool
 | .UnaryOp .Not _ _=>false | .BoolOp .. => false | .IfExp .. => false | .Compare .. => false
 | _=>true
theorem ES(h:Hl e=true)(env:Env)(whole:Sem Value):isTrue e env whole=(do let v ← whole;standAt e.pos;holding [v] (truthy v)):=by
 cases e with
 | UnaryOp op a p=>cases op <;> first|rfl|cases h
 | BoolOp=>cases h
 | IfExp=>cases h
 | Compare=>cases h
 | _=>rfl
def ud(N:List Str)(scope:Scope):List Nat:=(List.range N.length).filter λi=>CU (scope.names.lookup (N.getD i ""))
def De(out scope:Scope):Bool:=decide (scope.kind = .function) && scope.names.all (λy=>decide (scope.names.lookup y.1=some y.2)) && scope.names.all (λy=>decide (y.2 ≠ .free) || decide (out.names.lookup y.1=some .cell) || decide (out.names.lookup y.1=some .free))
theorem CtxOk.compS(C:CtxOk T X)(h:De T.sc scope=true):CompS X.N X.env.scope scope (ud T.N scope):=by
 unfold De at h;rw[aA,aA] at h;obtain⟨⟨h1,h2⟩,h3⟩:=h;have one:∀ y∈scope.names,scope.names.lookup y.1=some y.2:=λy hy=>of_decide_eq_true (cF.mp h2 y hy);refine⟨of_decide_eq_true h1,one,λy hy e=>?_,λy hy e=>e ▸ one y hy,λi hi e=>?_⟩
 ·have:=cF.mp h3 y hy;rw[Bool.or_eq_true,Bool.or_eq_true] at this;rcases this with (w|w)|w
  ·exact absurd e (of_decide_eq_true w)
  ·exact C.cf _ (.inl (of_decide_eq_true w))
  ·exact C.cf _ (.inr (of_decide_eq_true w))
 ·rw[C.N] at hi e;exact ce.mpr ⟨List.mem_range.mpr hi,by rcases e with e|e <;> rw[e] <;> rfl⟩
theorem CtxOk.inner(C:CtxOk T X)(s2:Shared)(H2:Hp)(fp:List Addr)(pins:List (Addr×Obj))(A:Addr):CtxOk { T with sc:=scope } (u6 X scope s2 H2 fp pins A) where
 N:=C.N
 nd:=C.nd
 calm:=C.calm
 room:=C.room
 vis:=λx h=>by
  have e:(u6 X scope s2 H2 fp pins A).env.scope.names.lookup x=(scope.names.lookup x).map (vj X.env x):=vv;have h:Kv (scope.names.lookup x)=true:=h;unfold Hm;rw[e];cases q:scope.names.lookup x with
  | none=>rw[q] at h;cases h
  | some k =>
   rw[q] at h;cases k
   ·exact .inl rfl
   ·exact .inr (.inl rfl)
   ·show some (vj X.env x .free)=_\/some (vj X.env x .free)=_\/some (vj X.env x .free)=_;unfold vj;split
    ·exact .inr (.inl rfl)
    ·exact .inr (.inr rfl)
   ·cases h
   ·cases h
 gl:=λx h=>by
  have e:(u6 X scope s2 H2 fp pins A).env.scope.names.lookup x=(scope.names.lookup x).map (vj X.env x):=vv;have h:scope.names.lookup x=some .globalImplicit:=h;unfold Gl Env.kindOf;rw[e,h];rfl
 loc:=λx h=>by
  have e:(u6 X scope s2 H2 fp pins A).env.scope.names.lookup x=(scope.names.lookup x).map (vj X.env x):=vv;have h:scope.names.lookup x=some .local:=h;rw[e,h];rfl
 cf:=λx h=>by
  have e:(u6 X scope s2 H2 fp pins A).env.scope.names.lookup x=(scope.names.lookup x).map (vj X.env x):=vv;have h:scope.names.lookup x=some .cell\/scope.names.lookup x=some .free:=h;rw[e];rcases h with h|h
  ·rw[h];exact .inl rfl
  ·rw[h];show some (vj X.env x .free)=_\/some (vj X.env x .free)=_;unfold vj;split
   ·exact .inl rfl
   ·exact .inr rfl
 fn:=C.fn
 gc:=C.gc
 bl:=C.bl
 cel:=λx h=>by
  have e:(u6 X scope s2 H2 fp pins A).env.scope.names.lookup x=(scope.names.lookup x).map (vj X.env x):=vv;have h:scope.names.lookup x=some .cell:=h;refine⟨by rw[e,h];rfl,?_⟩;show (scope.names.lookup x == some .cell)=true;rw[h];rfl
def Lq:Const->Option D
 | .int i=>some (.int i) | .bool b=>some (.bl b) | .str x=>some (.str x) | .none=>some .non|_=>none
def KC(T:Tc)(x:Str):Option D:=T.gc.lookup x
def yP(T:Tc):List Expr->Option (List Nat)
 | []=>some []
 | .Name x _::r=>if CU (T.sc.names.lookup x)=true then (T.slot x).bind λi=>(yP T r).map (i :: ·) else none
 | _=>none
def Lb(T:Tc):Expr->Option TGd
 | .Name x _=>if CU (T.sc.names.lookup x)=true then (T.slot x).map gNm else none
 | .Tuple es _ _=>(yP T es).map gTp
 | _=>none
def yr(T:Tc)(x:Str)(as:List Expr):Option Nat:=if x = "len" then (match as with
 | [.Name y _]=>(T.slot y).bind λi=>if T.mu.contains i then some i else none
 | _=>none) else none
theorem Ct(h:yr T x as=some i):x = "len" /\ ∃ y p,as=[.Name y p]/\T.slot y=some i:=by
 unfold yr at h;split at h
 ·rename_i ex;split at h
  ·rename_i y p;obtain⟨j,h1,h⟩:=ai.mp h;split at h
   ·cases h;exact⟨ex,y,p,rfl,h1⟩
   ·cases h
  ·cases h
 ·cases h
abbrev FE:=Expr->Option TEd
abbrev FT:=Expr->Option TTd
abbrev FA:=List Expr->Option TAd
def two(E:FE)(a b:Expr)(k:TEd->TEd->TEd):Option TEd:=(E a).bind λta=>(E b).map λtb=>k ta tb
def KP(E:FE)(a:Expr):List CmpOp->List Expr->Option TEd
 | [op],[b]=>if td b then two E a b (iR op) else none
 | [op,op'],[b,c]=>if td b && td c then (E a).bind λta=>(E b).bind λtb=>(E c).map λtc=>jQ op op' ta tb tc else none
 | _,_=>none
def KO(E:FE)(a:Expr):List CmpOp->List Expr->Option TTd
 | [op],[b]=>if td b then (two E a b (iR op)).map iL else none
 | [op,op'],[b,c]=>if td b && td c then (E a).bind λta=>(E b).bind λtb=>(E c).map λtc=>iL (jQ op op' ta tb tc) else none
 | _,_=>none
def ME(E:FE)(a:Expr):UnaryOp->Option TEd
 | .USub=>(E a).map jR
 | .Not=>(E a).map rc
 | _=>none
def MR(E:FE)(p:Pos)(op:BoolOp):List Expr->Option TEd
 | [a]=>E a
 | a::b::r=>(E a).bind λta=>(E (.BoolOp op (b::r) p)).map λtb=>match op with | .And=>qT ta tb | .Or=>dOr ta tb
 | []=>none
def MQ(F:FT)(p:Pos)(op:BoolOp):List Expr->Option TTd
 | [a]=>F a
 | a::b::r=>(F a).bind λta=>(F (.BoolOp op (b::r) p)).map λtb=>match op with | .And=>jw ta tb | .Or=>pX ta tb
 | []=>none
def yX(E:FE):Option Expr->Option TOd
 | none=>some dNo
 | some e=>(E e).map kQ
def F6:Expr->Bool
 | .UnaryOp .USub (.Constant (.int i) _ _) _=>i == 1
 | _=>false
def L9(T:Tc)(x:Str):Option TEd:=match T.slot x with
 | some i=>some (ij i)
 | none=>if T.isG x then (KC T x).map dC else none
def DO(T:Tc):Expr->Option Nat
 | .Name x _=>(T.slot x).bind λi=>if T.mu.contains i then some i else none
 | _=>none
def MK(E:FE)(T:Tc)(a b:Expr):Option TEd:=if td b then (match DO T a with
  | some i=>(E b).map (j6 i)
  | none=>two E a b dIx) else none
def JY(E:FE)(T:Tc)(a:Expr):Expr->Option TEd
 | .Slice lo hi st _=>(match st with
  | none=>(E a).bind λta=>(yX E lo).bind λtl=>(yX E hi).map λtu=>dSl ta tl tu
  | some m=>if lo.isNone && hi.isNone && F6 m then (E a).map qt else none)
 | b=>MK E T a b
def EQ(E:FE)(A:FA)(T:Tc)(x:Str)(as:List Expr):Option TEd:=match T.G.lookup x with
 | some (j,s)=>if decide (j<=T.k) && !as.isEmpty then (A as).map (io s) else none
 | none=>(MT x).bind λo=>match yr T x as with
   | some i=>some (lE i)
   | none=>if as.isEmpty then none else (A as).map (dB o.2.2.run o.2.2.mono)
def IP(E:FE)(T:Tc)(tg e:Expr):Option TAd:=match e with
 | .Call (.Name x _) [a] [] _=>if x = "range" then (if td a && T.isG "range" then (E a).map jL else none)
  else if x = "enumerate" then (match tg with
   | .Tuple .. => if td a && T.isG "enumerate" then (E a).map jg else none
   | _=>none)
  else if x = "reversed" then (if td a && T.isG "reversed" then (E a).map mU else none)
  else (E e).map jc
 | .Call (.Name x _) [a,b] [] _=>if x = "range" then (if td a && td b && T.isG "range" then (E a).bind λta=>(E b).map (kR ta) else none)
  else (E e).map jc
 | e=>(E e).map jc
def BQ(I:Option TAd)(E:FE)(F:FT)(T:Tc)(e tg:Expr)(ifs:List Expr)(sc:Scope):Option TEd:=I.bind λti=>(Lb { T with sc:=sc } tg).bind λg =>
 if g.tg.all (λi=>(ud T.N sc).contains i) then (E e).bind λte=>(match ifs with
  | []=>some (iW ti (ud T.N sc) g jh te)
  | [k]=>(F k).map λtk=>iW ti (ud T.N sc) g tk te
  | _=>none) else none
def vX(E:FE):FA
 | []=>some il
 | e::r=>if td e then (E e).bind λte=>(vX E r).map λtr=>ii te tr else none
def DY(E:FE)(T:Tc)(x:Str):List Expr->Option TEd
 | [.Call (.Name y _) [a] [] _]=>if y = "reversed" then (if td a && T.isG "reversed" && T.isG x then (if x = "tuple" then (E a).map pZ else (if x = "list" then (E a).map lI else none)) else none) else none
 | _=>none
def yG(E:FE)(T:Tc)(cp:Pos)(as:List Expr)(ks:List Keyword):Expr->Option TEd
 | .Name x _=>if ks.isEmpty then (match DY E T x as with
  | some t=>some t
  | none=>if T.isG x then EQ E (vX E) T x as else none) else none
 | _=>none
def Ef:List Comprehension->Option (Expr×Expr×List Expr)
 | [⟨tg,it,ifs,0⟩]=>if td it then some (tg,it,ifs) else none
 | _=>none
mutual
def tJ:Nat->Tc->Expr->Option TEd
 | 0,_,_=>none
 | n+1,T,e=>match e with
  | .Name x _=>L9 T x
  | .Constant k _ _=>(Lq k).map dC
  | .BinOp a op b _=>two (tJ n T) a b (ip op)
  | .Compare a ops bs _=>KP (tJ n T) a ops bs
  | .UnaryOp op a _=>ME (tJ n T) a op
  | .BoolOp op vs p=>MR (tJ n T) p op vs
  | .IfExp k a b _=>(yO n T k).bind λtk=>two (tJ n T) a b (qU tk)
  | .Tuple es _ _=>(vX (tJ n T) es).map iA
  | .List es _=>(vX (tJ n T) es).map iN
  | .Subscript a b _=>JY (tJ n T) T a b
  | .Call g as ks p=>yG (tJ n T) T p as ks g
  | .ListComp e gs sc _=>if De T.sc sc then (Ef gs).bind λ(tg,it,ifs)=>BQ (IP (tJ n T) T tg it) (tJ n { T with sc:=sc }) (yO n { T with sc:=sc }) T e tg ifs sc else none
  | _=>none
def yO:Nat->Tc->Expr->Option TTd
 | 0,_,_=>none
 | n+1,T,e=>match e with
  | .Compare a ops bs _=>KO (tJ n T) a ops bs
  | .UnaryOp op a p=>if op = .Not then (yO n T a).map j5 else (tJ n T (.UnaryOp op a p)).map mF
  | .BoolOp op vs p=>MQ (yO n T) p op vs
  | .IfExp .. => none
  | e=>(tJ n T e).map mF
end
end
section
open PySem L2 Dp
variable{K:Frag}{X:Cx}{T:Tc}{pos p p2:Pos}{a b e:Expr}{E:FE}{F:FT}
def xX(X:Cx)(E:FE):Prop:=∀{e:Expr} {t:TEd},E e=some t->PE X e (LE X.K t)
def Ln(X:Cx)(F:FT):Prop:=∀{e:Expr} {t:TTd},F e=some t->PT X e (LT X.K t)
theorem KB(C:CtxOk T X)(hg:T.isG x=true)(h:KC T x=some d):PE X (.Name x p) (LE X.K (dC d)):=by
 obtain⟨g1,g2⟩:=C.isG hg;obtain⟨v,u,h1,h2,h3⟩:=C.gc x d (tH h);exact dC.ok (FC g1 h1 h2 g2) h3
theorem Hy(h:Lq k=some d):PE X (.Constant k j pos) (LE X.K (dC d)):=by
 cases k <;> first|(cases h;done)|skip
 all_goals (cases h)
 all_goals first|exact dC.ok sA λ_ _ _=>rfl|exact dC.ok DH λ_ _ _=>rfl|exact dC.ok Il λ_ _ _=>rfl|exact dC.ok Io λ_ _ _=>rfl
theorem vm(C:CtxOk T X):∀{es:List Expr} {is:List Nat},yP T es=some is->JF X es (gsAll is)/\(assignEach es X.env).length=is.length/\(assignEach es X.env).findIdx? (·.1)=none
 | [],is,h=>by
  cases h;exact⟨FB,rfl,rfl⟩
 | a::r,is,h=>by
  cases a <;> first|(cases h;done)|skip
  rename_i x p;obtain⟨hl,h⟩:=ah.mp (show (if CU (T.sc.names.lookup x)=true then (T.slot x).bind λi=>(yP T r).map (i :: ·) else none)=some is from h);obtain⟨i,h1,h⟩:=ai.mp h;obtain⟨is',h2,rfl⟩:=ab.mp h;obtain⟨q1,q2,q3⟩:=vm C h2;refine⟨DB (C.tgt hl h1) q1 rfl,?_,?_⟩
  ·show ((false,assign (.Name x p) X.env)::assignEach r X.env).length=_;rw[br,q2];rfl
  ·show ((false,assign (.Name x p) X.env)::assignEach r X.env).findIdx? (·.1)=none;rw[List.findIdx?_cons,q3];rfl
theorem Ah(C:CtxOk T X)(h:Lb T e=some g):PG X e (LG X.K g):=by
 cases e <;> first|(cases h;done)|skip
 ·rename_i x p;obtain⟨hl,h⟩:=ah.mp (show (if CU (T.sc.names.lookup x)=true then (T.slot x).map gNm else none)=some g from h);obtain⟨i,h1,rfl⟩:=ab.mp h;exact gNm.ok (C.tgt hl h1)
 ·rename_i es k p;obtain⟨is,h1,rfl⟩:=ab.mp (show (yP T es).map gTp=some g from h);obtain⟨q1,q2,q3⟩:=vm C h1;exact gTp.ok (Aq C.calm q1 q2 q3)
theorem vH(h:two E a b k=some t):∃ ta tb,E a=some ta/\E b=some tb/\t=k ta tb:=by
 obtain⟨ta,h1,h⟩:=ai.mp h;obtain⟨tb,h2,rfl⟩:=ab.mp h;exact⟨ta,tb,h1,h2,rfl⟩
theorem Gj(C:CtxOk T X)(ih:xX X E):∀{ops:List CmpOp} {bs:List Expr} {t:TEd},KP E a ops bs=some t->PE X (.Compare a ops bs pos) (LE X.K t)
 | [op],[b],t,h=>by
  obtain⟨hn,h⟩:=ah.mp h;obtain⟨ta,tb,h1,h2,rfl⟩:=vH h;exact iR.ok C.room (ih h1) (ih h2) (wf hn _)
 | [op,op'],[b,c],t,h=>by
  obtain⟨hn,h⟩:=ah.mp h;obtain⟨n1,n2⟩:=aA.mp hn;obtain⟨ta,h1,h⟩:=ai.mp h;obtain⟨tb,h2,h⟩:=ai.mp h;obtain⟨tc,h3,rfl⟩:=ab.mp h;exact jQ.ok C.room (ih h1) (ih h2) (ih h3) (wf n2 _)
 | [],_,_,h=>by cases h
 | [_],[],_,h=>by cases h
 | [_],_::_::_,_,h=>by cases h
 | [_,_],[],_,h=>by cases h
 | [_,_],[_],_,h=>by cases h
 | [_,_],_::_::_::_,_,h=>by cases h
 | _::_::_::_,_,_,h=>by cases h
theorem Gi(C:CtxOk T X)(ih:xX X E):∀{ops:List CmpOp} {bs:List Expr} {t:TTd},KO E a ops bs=some t->PT X (.Compare a ops bs pos) (LT X.K t)
 | [op],[b],t,h=>by
  obtain⟨hn,h⟩:=ah.mp h;obtain⟨t0,h0,rfl⟩:=ab.mp h;obtain⟨ta,tb,h1,h2,rfl⟩:=vH h0;exact iR.test C.room (ih h1) (ih h2) (wf hn _)
 | [op,op'],[b,c],t,h=>by
  obtain⟨hn,h⟩:=ah.mp h;obtain⟨n1,n2⟩:=aA.mp hn;obtain⟨ta,h1,h⟩:=ai.mp h;obtain⟨tb,h2,h⟩:=ai.mp h;obtain⟨tc,h3,rfl⟩:=ab.mp h;exact jQ.test C.room (ih h1) (ih h2) (ih h3) (wf n2 _)
 | [],_,_,h=>by cases h
 | [_],[],_,h=>by cases h
 | [_],_::_::_,_,h=>by cases h
 | [_,_],[],_,h=>by cases h
 | [_,_],[_],_,h=>by cases h
 | [_,_],_::_::_::_,_,h=>by cases h
 | _::_::_::_,_,_,h=>by cases h
theorem Ht(ih:xX X E)(h:ME E a op=some t):PE X (.UnaryOp op a pos) (LE X.K t):=by
 cases op <;> first|(cases h;done)|skip
 ·obtain⟨ta,h1,rfl⟩:=ab.mp (show (E a).map rc=some t from h);exact rc.ok (ih h1)
 ·obtain⟨ta,h1,rfl⟩:=ab.mp (show (E a).map jR=some t from h);exact jR.ok (ih h1)
theorem Jp(ih:xX X E):∀{op:BoolOp} {vs:List Expr} {t:TEd},MR E p op vs=some t->PE X (.BoolOp op vs p) (LE X.K t)
 | _,[a],_,h=>As (ih h)
 | .And,a::b::r,t,h=>by
  obtain⟨ta,h1,h⟩:=ai.mp h;obtain⟨tb,h2,rfl⟩:=ab.mp h;exact qT.ok (ih h1) (ih h2)
 | .Or,a::b::r,t,h=>by
  obtain⟨ta,h1,h⟩:=ai.mp h;obtain⟨tb,h2,rfl⟩:=ab.mp h;exact dOr.ok (ih h1) (ih h2)
 | _,[],_,h=>by cases h
theorem Jo(ih:Ln X F)(iw:∀{op:BoolOp} {vs:List Expr} {p:Pos} {t:TTd},F (.BoolOp op vs p)=some t->PW X (.BoolOp op vs p) (LT X.K t)):∀{op:BoolOp} {vs:List Expr} {t:TTd},MQ F p op vs=some t->PW X (.BoolOp op vs p) (LT X.K t)
 | .And,[a],_,h=>Bf (ih h)
 | .Or,[a],_,h=>Ic (ih h)
 | .And,a::b::r,t,h=>by
  obtain⟨ta,h1,h⟩:=ai.mp h;obtain⟨tb,h2,rfl⟩:=ab.mp h;exact jw.ok (ih h1) (iw h2)
 | .Or,a::b::r,t,h=>by
  obtain⟨ta,h1,h⟩:=ai.mp h;obtain⟨tb,h2,rfl⟩:=ab.mp h;exact pX.ok (ih h1) (iw h2)
 | _,[],_,h=>by cases h
theorem yW(ih:xX X E):∀{o:Option Expr} {t:TOd},yX E o=some t->PO X o (LO X.K t)
 | none,_,h=>by
  cases h;exact dNo.ok
 | some e,t,h=>by
  obtain⟨ta,h1,rfl⟩:=ab.mp h;exact kQ.ok (ih h1)
theorem F5(h:F6 m=true):∃ j p1 p3,m = .UnaryOp .USub (.Constant (.int 1) j p1) p3:=by
 unfold F6 at h;split at h
 ·rename_i i j p1 p3;have e:i=1:=eq_of_beq h;exact⟨j,p1,p3,by rw[e]⟩
 ·cases h
theorem DN(C:CtxOk T X)(h:DO T a=some i):PE X a (vn i):=by
 cases a <;> first|(cases h;done)|skip
 obtain⟨j,h1,h⟩:=ai.mp h;obtain⟨_,h⟩:=ah.mp h;cases h;exact C.var h1
theorem Fg(C:CtxOk T X)(ih:xX X E)(h:JY E T a b=some t):PE X (.Subscript a b pos) (LE X.K t):=by
 have key:∀{b:Expr},MK E T a b=some t->PE X (.Subscript a b pos) (LE X.K t):=λ{b} h=>by
  obtain⟨hn,h⟩:=ah.mp h;cases ho:DO T a with
  | some i =>
   rw[ho] at h;obtain⟨tb,h2,rfl⟩:=ab.mp h;exact j6.ok (DN C ho) (ih h2) (Bp hn)
  | none =>
   rw[ho] at h;obtain⟨ta,tb,h1,h2,rfl⟩:=vH h;exact dIx.ok (ih h1) (ih h2) (Bp hn)
 cases b;case Slice lo hi st p2 =>
  cases st with
  | none =>
   obtain⟨tk,h0,h⟩:=ai.mp (show (E a).bind (λta=>(yX E lo).bind λtl=>(yX E hi).map λtu=>dSl ta tl tu)=some t from h);obtain⟨ta,h1,h⟩:=ai.mp h;obtain⟨tb,h2,rfl⟩:=ab.mp h;exact dSl.ok (ih h0) (yW ih h1) (yW ih h2)
  | some m =>
   have h:(if lo.isNone && hi.isNone && F6 m then (E a).map qt else none)=some t:=h;split at h
   rotate_left
   ·cases h
   rename_i hm;obtain⟨hm,m1⟩:=aA.mp hm;obtain⟨l1,l2⟩:=aA.mp hm;cases lo <;> cases hi <;> first|(cases l1;done)|(cases l2;done)|skip
   obtain⟨j,p1,p3,rfl⟩:=F5 m1;obtain⟨ta,h1,rfl⟩:=ab.mp h;exact qt.ok (k:=0) (ih h1)
 all_goals exact key h
theorem uu(ih:xX X E):∀{es:List Expr} {t:TAd},vX E es=some t->PA X es (LA X.K t)
 | [],t,h=>by
  cases h;exact il.ok
 | e::r,t,h=>by
  obtain⟨hn,h⟩:=ah.mp h;obtain⟨ta,h1,h⟩:=ai.mp h;obtain⟨tb,h2,rfl⟩:=ab.mp h;exact ii.ok (ih h1) (uu ih h2) (sG hn _ _)
theorem uY(h:vX E (a::r)=some t):starEach (a::r) X.env=(false,eval a X.env)::starEach r X.env:=sG (ah.mp h).1 _ _
theorem xm:∀{r:List Expr} {t:TAd},vX E r=some t->(backTo pos (starEach r X.env)).any (·.1)=false
 | [],_,_=>rfl
 | a::r,t,h=>by
  rw[uY h];obtain⟨hn,h⟩:=ah.mp h;obtain⟨ta,h1,h⟩:=ai.mp h;obtain⟨tb,h2,rfl⟩:=ab.mp h;have:=xm h2;unfold backTo at this ⊢;rw[dU,gB,this];rfl
theorem vW(h:vX E (a::r)=some t):(backTo pos (starEach r X.env)).any (·.1)=false:=by
 obtain⟨hn,h⟩:=ah.mp h;obtain⟨ta,h1,h⟩:=ai.mp h;obtain⟨tb,h2,rfl⟩:=ab.mp h;exact xm h2
theorem EO(C:CtxOk T X)(ih:xX X E){x:Str}{as:List Expr}{t:TEd}(hg:T.isG x=true)(h:EQ E (vX E) T x as=some t):PE X (.Call (.Name x p) as [] pos) (LE X.K t):=by
 obtain⟨g1,g2⟩:=C.isG hg;unfold EQ at h;cases e1:T.G.lookup x with
 | some js =>
  obtain⟨j,s⟩:=js;rw[e1] at h;obtain⟨hk,h⟩:=ah.mp h;obtain⟨k1,k2⟩:=aA.mp hk;obtain⟨tb,h2,rfl⟩:=ab.mp h;cases as with
  | nil=>cases k2
  | cons a r =>
   obtain⟨ps,d⟩:=C.fn x j s (tH e1);exact io.ok (Au d C.room (uu ih h2) (of_decide_eq_true k1) g1 g2 (uY h2) (vW h2))
 | none =>
  rw[e1] at h;dsimp only at h;obtain⟨⟨k,id,o⟩,e0,h3⟩:=ai.mp h;obtain⟨b1,b2,b3,b4⟩:=Jr C.room C.calm C.bl e0;cases e2:yr T x as with
  | some i =>
   rw[e2] at h3;have h4:some (lE i)=some t:=h3;obtain⟨rfl,y,p2,rfl,e3⟩:=Ct e2;cases h4;exact lE.ok g1 C.bl.len (C.var e3) rfl
  | none =>
   rw[e2] at h3;obtain⟨hne,h5⟩:=fw.mp (show (if as.isEmpty=true then none else (vX E as).map (dB o.run o.mono))=some t from h3);obtain⟨tb,h2,rfl⟩:=ab.mp h5;cases as with
   | nil=>exact absurd rfl hne
   | cons a r =>
    cases k with
    | true =>
     obtain⟨b5,rr,b6,b7⟩:=b4;exact dB.ok b7 (sT b6 g1 b1 b5 (uu ih h2) b2 b3 (uY h2) (vW h2))
    | false =>
     obtain⟨b5,rr,b6,b7⟩:=b4;exact dB.ok b7 (vN b6 g1 b1 b5 (uu ih h2) b2 b3 (uY h2) (vW h2))
theorem DX(C:CtxOk T X)(ih:xX X E)(h:DY E T x as=some t):PE X (.Call (.Name x p) as [] pos) (LE X.K t):=by
 unfold DY at h;split at h
 ·rename_i y p1 a p2;obtain⟨ey,h1⟩:=ah.mp h;obtain⟨hn,h2⟩:=ah.mp h1;clear h h1;subst ey;obtain⟨hn2,n3⟩:=aA.mp hn;obtain⟨n1,n2⟩:=aA.mp hn2;by_cases e1:x = "tuple"
  ·subst e1;rw[if_pos rfl] at h2;obtain⟨ta,h3,rfl⟩:=ab.mp h2;exact pZ.ok (C.isG n3).1 C.bl.tuple (C.isG n2).1 C.bl.reversed C.calm (ih h3) (sG n1 _ _)
  ·rw[if_neg e1] at h2;obtain⟨e2,h3⟩:=ah.mp h2;clear h2;subst e2;obtain⟨ta,h4,rfl⟩:=ab.mp h3;exact lI.ok (C.isG n3).1 C.bl.list (C.isG n2).1 C.bl.reversed C.calm (ih h4) (sG n1 _ _)
 ·cases h
theorem AY(C:CtxOk T X)(ih:xX X E)(h:yG E T pos as ks g=some t):PE X (.Call g as ks pos) (LE X.K t):=by
 unfold yG at h;split at h
 ·split at h
  ·rename_i k0;cases List.isEmpty_iff.mp k0;split at h
   ·rename_i t' ht;cases h;exact DX C ih ht
   ·obtain⟨hg,h1⟩:=ah.mp h;exact EO C ih hg h1
  ·cases h
 ·cases h
theorem AD(C:CtxOk T X)(ih:xX X E)(h:IP E T tg e=some t):PI X tg e (LI X.K t):=by
 have wk:(E e).map jc=some t->PI X tg e (LI X.K t):=λh=>by
  obtain⟨ta,h1,rfl⟩:=ab.mp h;exact jc.ok (ih h1)
 unfold IP at h;split at h
 ·rename_i x p1 a p2;by_cases ex:x = "range"
  ·subst ex;obtain⟨hn,h⟩:=ah.mp (show (if td a && T.isG "range" then (E a).map jL else none)=some t from h);obtain⟨n1,n2⟩:=aA.mp hn;obtain⟨ta,h1,rfl⟩:=ab.mp h;exact jL.ok (C.isG n2).1 C.bl.range (ih h1) (sG n1 _ _)
  ·rw[if_neg ex] at h;by_cases ex:x = "enumerate"
   ·subst ex;cases tg <;> first|(cases h;done)|skip
    obtain⟨hn,h⟩:=ah.mp (show (if td a && T.isG "enumerate" then (E a).map jg else none)=some t from h);obtain⟨n1,n2⟩:=aA.mp hn;obtain⟨ta,h1,rfl⟩:=ab.mp h;exact jg.ok (C.isG n2).1 C.bl.enumerate (ih h1) (sG n1 _ _)
   ·rw[if_neg ex] at h;by_cases ex:x = "reversed"
    ·subst ex;obtain⟨hn,h⟩:=ah.mp (show (if td a && T.isG "reversed" then (E a).map mU else none)=some t from h);obtain⟨n1,n2⟩:=aA.mp hn;obtain⟨ta,h1,rfl⟩:=ab.mp h;exact mU.ok (C.isG n2).1 C.bl.reversed (ih h1) (sG n1 _ _)
    ·rw[if_neg ex] at h;exact wk h
 ·rename_i x p1 a b p2;by_cases ex:x = "range"
  ·subst ex;obtain⟨hn,h⟩:=ah.mp (show (if td a && td b && T.isG "range" then (E a).bind λta=>(E b).map (kR ta) else none)=some t from h);obtain⟨n1,n2⟩:=aA.mp hn;obtain⟨n0,n1⟩:=aA.mp n1;obtain⟨ta,h1,h⟩:=ai.mp h;obtain⟨tb,h2,rfl⟩:=ab.mp h;exact kR.ok (C.isG n2).1 C.bl.range (ih h1) (ih h2) (by rw[sG n0,sG n1];rfl) (sG n1 _ _)
  ·rw[if_neg ex] at h;exact wk h
 ·exact wk h
theorem zK(C:CtxOk T X)(h:BQ I E F T e tg ifs sc=some t)(ih:∀ s2 H2 fp pins A,xX (u6 X sc s2 H2 fp pins A) E)(ihF:∀ s2 H2 fp pins A,Ln (u6 X sc s2 H2 fp pins A) F) :
  ∃ ti g te tk,I=some ti/\t=iW ti (ud T.N sc) g tk te/\(∀ i∈g.tg,i∈ud T.N sc)/\(∀ s2 H2 fp pins A,PG (u6 X sc s2 H2 fp pins A) tg (LG X.K g))/\(∀ s2 H2 fp pins A,PTs (u6 X sc s2 H2 fp pins A) ifs (LT X.K tk))/\∀ s2 H2 fp pins A,PE (u6 X sc s2 H2 fp pins A) e (LE X.K te):=by
 obtain⟨ti,h1,h⟩:=ai.mp h;obtain⟨g,h2,h⟩:=ai.mp h;obtain⟨hg,h⟩:=ah.mp h;obtain⟨te,h3,h⟩:=ai.mp h;have hh:∀ i∈g.tg,i∈ud T.N sc:=λi hi=>by simpa using cF.mp hg i hi
 match ifs,h with
 | [],h =>
  cases h;exact⟨ti,g,te,jh,h1,rfl,hh,λ_ _ _ _ _=>Ah (C.inner ..) h2,λ_ _ _ _ _=>pts_nil.weak λσ H Q ⟨f,O,ss,S,q⟩=>q H (Ex.refl S.fl),λ_ _ _ _ _=>ih _ _ _ _ _ h3⟩
 | [k],h =>
  obtain⟨tk,h4,rfl⟩:=ab.mp h;exact⟨ti,g,te,tk,h1,rfl,hh,λ_ _ _ _ _=>Ah (C.inner ..) h2,λ_ _ _ _ _=>Fu (ihF _ _ _ _ _ h4),λ_ _ _ _ _=>ih _ _ _ _ _ h3⟩
 | _::_::_,h=>cases h
theorem BC(h:Ef gs=some (tg,it,ifs)):gs=[⟨tg,it,ifs,0⟩]/\td it=true:=by
 unfold Ef at h;split at h
 ·obtain⟨hn,h⟩:=ah.mp h;cases h;exact⟨rfl,hn⟩
 ·cases h
structure TrOk (n:Nat):Prop where
 e:∀{T:Tc} {X:Cx},CtxOk T X->xX X (tJ n T)
 t:∀{T:Tc} {X:Cx},CtxOk T X->Ln X (yO n T)
 w:∀{T:Tc} {X:Cx} {op:BoolOp} {vs:List Expr} {p:Pos} {t:TTd},CtxOk T X->yO n T (.BoolOp op vs p)=some t->PW X (.BoolOp op vs p) (LT X.K t)
theorem A9(ih:xX X E)(hb:Hl e=true)(h:(E e).map mF=some t):PT X e (LT X.K t):=by
 obtain⟨ta,h1,rfl⟩:=ab.mp h;exact mF.ok (ih h1) λw=>ES hb _ w
theorem vZ:∀ n,TrOk n
 | 0=>⟨λ_ _ _ h=>(by cases h),λ_ _ _ h=>(by cases h),λ_ h=>(by cases h)⟩
 | n+1=>by
  have ih:=vZ n;have hw:∀{T:Tc} {X:Cx} {op:BoolOp} {vs:List Expr} {p:Pos} {t:TTd},CtxOk T X->yO (n+1) T (.BoolOp op vs p)=some t->PW X (.BoolOp op vs p) (LT X.K t):=λC h=>Jo (ih.t C) (ih.w C) h;refine⟨λ{T X} C {e t} h=>?_,λ{T X} C {e t} h=>?_,hw⟩
  ·cases e <;> first|(cases h;done)|skip
   case Name x p =>
    have h:L9 T x=some t:=h;unfold L9 at h;cases hs:T.slot x with
    | some i =>
     rw[hs] at h;cases h;exact ij.ok (C.var hs)
    | none =>
     rw[hs] at h;obtain⟨hg,h⟩:=ah.mp h;obtain⟨d,h1,rfl⟩:=ab.mp h;exact KB C hg h1
   case Constant k j p =>
    obtain⟨d,h1,rfl⟩:=ab.mp (show (Lq k).map dC=some t from h);exact Hy h1
   case BinOp a op b p =>
    obtain⟨ta,tb,h1,h2,rfl⟩:=vH (show two (tJ n T) a b (ip op)=some t from h);exact ip.ok C.room (ih.e C h1) (ih.e C h2)
   case Compare=>exact Gj C (ih.e C) h
   case UnaryOp=>exact Ht (ih.e C) h
   case BoolOp=>exact Jp (ih.e C) h
   case IfExp k a b p =>
    obtain⟨tk,h0,h⟩:=ai.mp (show (yO n T k).bind (λtk=>two (tJ n T) a b (qU tk))=some t from h);obtain⟨ta,tb,h1,h2,rfl⟩:=vH h;exact qU.ok (ih.t C h0) (ih.e C h1) (ih.e C h2)
   case Tuple es k p =>
    obtain⟨ta,h1,rfl⟩:=ab.mp (show (vX (tJ n T) es).map iA=some t from h);exact iA.ok (uu (ih.e C) h1)
   case List es p =>
    obtain⟨ta,h1,rfl⟩:=ab.mp (show (vX (tJ n T) es).map iN=some t from h);exact iN.ok (uu (ih.e C) h1)
   case Subscript=>exact Fg C (ih.e C) h
   case Call g as ks p =>
    exact AY C (ih.e C) h
   case ListComp e gs sc p =>
    obtain⟨hs,h⟩:=ah.mp (show (if De T.sc sc then (Ef gs).bind λ(tg,it,ifs)=>BQ (IP (tJ n T) T tg it) (tJ n { T with sc:=sc }) (yO n { T with sc:=sc }) T e tg ifs sc else none)=some t from h);obtain⟨⟨tg,it,ifs⟩,h1,h2⟩:=ai.mp h;obtain⟨rfl,hn⟩:=BC h1;obtain⟨ti,g,te,tk,q1,rfl,q2,q3,q4,q5⟩:=zK C h2 (λ_ _ _ _ _=>ih.e (C.inner ..)) (λ_ _ _ _ _=>ih.t (C.inner ..));exact iW.ok C.calm (C.compS hs) (AD C (ih.e C) q1) q3 q4 q5 (λx=>vP hn _ x) q2
  ·cases e;case Compare=>exact Gi C (ih.e C) h
   case UnaryOp op a p =>
    have h:(if op = .Not then (yO n T a).map j5 else (tJ n T (.UnaryOp op a p)).map mF)=some t:=h;by_cases eo:op = .Not
    ·subst eo;obtain⟨ta,h1,rfl⟩:=ab.mp (show (yO n T a).map j5=some t from h);exact j5.ok (ih.t C h1)
    ·rw[if_neg eo] at h;refine A9 (ih.e C) ?_ h;cases op <;> first|rfl|exact absurd rfl eo
   case BoolOp=>exact (hw C h).pt
   case IfExp=>cases h
   all_goals exact A9 (ih.e C) rfl h
end
section
open PySem L2 Dp
variable{K:Frag}{X:Cx}{T:Tc}{pos:Pos}
structure CtxS (T:Tc)(X:Cx):Prop extends CtxOk T X where
 scope:X.env.scope=T.sc
 bk:X.env.blockKind = .function
 xe:X.xe=λ_ _=>False
 fnT:∀ x,X.fn x=true
theorem CtxS.L(C:CtxS T X)(h:CU (T.sc.names.lookup x)=true):CS X.env.scope x:=by
 unfold L2.CS;rw[C.scope];cases q:T.sc.names.lookup x with
 | none=>rw[q] at h;cases h
 | some k=>rw[q] at h;cases k <;> first|exact .inl rfl|exact .inr rfl|cases h
theorem sh.ok(hc:X.calm=true)(hN:X.N.Nodup)(hy:X.N[i]? = some y)(hl:CS X.env.scope y)(Sc:CompS X.N X.env.scope scope hide)(hi:PI X tg iter (LI X.K it))
  (hg:∀ s2 H2 fp pins C,PG (u6 X scope s2 H2 fp pins C) tg (LG X.K g)) (ht:∀ s2 H2 fp pins C,PTs (u6 X scope s2 H2 fp pins C) ifs (LT X.K c)) (he:∀ s2 H2 fp pins C,PE (u6 X scope s2 H2 fp pins C) elt (LE X.K e))
  (hs:∀ x,foldedSetIterable iter X.env x=pure x) (hh:∀ i∈g.tg,i∈hide) (hsw:swapsWith (.ListComp elt [⟨tg,iter,ifs,0⟩] scope ep) (some (.Name y py)) pos.line X.env=pure true) (hf:X.fn y=true\/X.env.scope.names.lookup y=some .local) :
  PS X (.Assign [.Name y py] (.ListComp elt [⟨tg,iter,ifs,0⟩] scope ep) pos) (LS X.K (ir fz (gNm i) (iW it hide g c e))) :=
 (Fv (spos:=pos) hc hN hy hl Sc hi hg ht he hs hsw hf).weak λD σ H ⟨c0,O,ss,R,q⟩=>by
  obtain⟨O',R⟩:=R.frz (fz:=fz);refine⟨c0.f,O',_,R.sl,it.mono (λds q J H1 e1 D0=>?_) q⟩;refine compD.ok (R.sl.ex e1) hh D0 (compD.mono (λd q v H' e r=>?_) q);have R2:=R.ex (e1.trans e);exact q O' _ H' (R2.to (R2.sl.set r) Sub.set)
def LJ(T:Tc)(x:Str)(px ep:Pos)(sc:Scope):Bool:=(T.sc.names.lookup x == some .local) && (px.line == ep.line) && !(sc.names.any λ(n,k)=>n == x && (k == .local || k == .cell))
theorem C7(C:CtxS T X):swapsWith (.ListComp e gs sc ep) (some (.Name x px)) l X.env=pure (LJ T x px ep sc):=by
 unfold swapsWith LJ;show (pure (X.env.blockKind == .function && X.env.kindOf x == some .local && px.line == ep.line && !(sc.names.any λ(n,k)=>n == x && (k == .local || k == .cell))):Sem Bool)=_;rw[C.bk];unfold Env.kindOf;rw[C.scope];rfl
def DL(T:Tc)(x y:Str)(px py:Pos)(a b:Expr):Bool:=td a && td b && (T.sc.names.lookup x == some .local) && (T.sc.names.lookup y == some .local) && (py.line == px.line) && !(x == y) && !(foldedForSure 8 a && foldedForSure 8 b) && !(constantsAlone 8 a && constantsAlone 8 b)
theorem DI(C:CtxS T X)(h:DL T x y px py a b=true):swappedStores [.Tuple [.Name x px,.Name y py] kt pt] (.Tuple [a,b] k2 pt2) X.env=pure (some [x,y]):=by
 unfold DL at h;simp only[bH,dr] at h;obtain⟨⟨⟨⟨⟨⟨⟨h1,h2⟩,h3⟩,h4⟩,h5⟩,h6⟩,h7⟩,h8⟩:=h;have s1:∀{e:Expr},td e=true->(match e with | .Starred .. => true|_=>false)=false:=λ{e} h=>by cases e <;> first|rfl|cases h
 have k1:X.env.kindOf x == some .local:=by unfold Env.kindOf;rw[C.scope];exact h3
 have k2:X.env.kindOf y == some .local:=by unfold Env.kindOf;rw[C.scope];exact h4
 have n1:(y == x)=false:=by
  cases q:y == x with
  | false=>rfl
  | true =>
   have:=eq_of_beq q;subst this;rw[beq_self_eq_true] at h6;cases h6
 have k1':=eq_of_beq k1;have k2':=eq_of_beq k2;have h5':py.line=px.line:=eq_of_beq h5;have ed:([x,y]:List Str).eraseDups=[x,y]:=by
  rw[List.eraseDups_cons];simp[n1];rfl
 unfold swappedStores;have ep:∀(x:Str) (p:Pos),(Expr.Name x p).pos=p:=λ_ _=>rfl;simp[C.bk,cZ,gX,k1',k2',ep,h5',ed];rw[if_neg,if_neg,if_neg]
 ·rintro⟨q1,q2⟩;rw[q1,q2] at h8;cases h8
 ·rintro⟨q1,q2⟩;rw[q1,q2] at h7;cases h7
 ·rintro (q|q)
  ·cases a <;> first|(cases h1;done)|cases q
  ·cases b <;> first|(cases h2;done)|cases q
def AX(T:Tc)(x y:Str)(a b:Expr):Bool:=!((T.sc.names.lookup x == some .local) && (T.sc.names.lookup y == some .local)) || (foldedForSure 8 a && foldedForSure 8 b)
theorem CM(C:CtxS T X)(h:AX T x y a b=true):swappedStores [.Tuple [.Name x px,.Name y py] kt pt] (.Tuple [a,b] k2 pt2) X.env=pure none:=by
 unfold AX at h;rcases gS.mp h with h|h
 ·have h:(X.env.kindOf x == some .local)=false\/(X.env.kindOf y == some .local)=false:=by
   unfold Env.kindOf;rw[C.scope];revert h;cases T.sc.names.lookup x == some .local <;> cases T.sc.names.lookup y == some .local <;> simp
  unfold swappedStores;simp only[cZ,gX];rcases h with h|h <;> simp only[h,Bool.false_and,df,if_false];all_goals (split <;> first|rfl|skip)
  all_goals (split <;> first|rfl|skip)
  all_goals (repeat' split) <;> first|rfl|simp_all
 ·have e:[a,b].all (foldedForSure 8)=true:=by
   show (foldedForSure 8 a && (foldedForSure 8 b && true))=true;rw[Bool.and_true];exact h
  unfold swappedStores;dsimp only;rw[if_pos e];repeat' split
  all_goals rfl
def yo:Expr->Option (Str×Str×Pos×List Expr×Pos)
 | .Call (.Attribute (.Name x _) m ap) as [] cp=>if ap.endLine == cp.line then some (x,m,ap,as,cp) else none
 | _=>none
theorem xF(h:yo e=some (x,m,ap,as,cp)):(∃ p,e = .Call (.Attribute (.Name x p) m ap) as [] cp)/\(ap.endLine == cp.line)=true:=by
 unfold yo at h;split at h
 ·obtain⟨hl,h⟩:=ah.mp h;cases h;exact⟨⟨_,rfl⟩,hl⟩
 ·cases h
def HP:Expr->Option Expr
 | .Call (.Name y _) [u] [] _=>if y = "reversed" then some u else none
 | _=>none
theorem Fn(h:HP e=some u):∃ p q,e = .Call (.Name "reversed" p) [u] [] q:=by
 unfold HP at h;split at h
 ·obtain⟨rfl,h⟩:=ah.mp h;cases h;exact⟨_,_,rfl⟩
 ·cases h
def FV(E:FE)(T:Tc):Expr->Option TEd
 | .List es _=>(vX E es).map iN
 | .BinOp a .Mult b _=>two E a b (ip .Mult)
 | .Call (.Name x _) [a] [] _=>if x = "list" then (match HP a with
  | some u=>if td u && T.isG "reversed" && T.isG "list" then (E u).map lI else none
  | none=>if td a && T.isG "list" then (E a).map jC else none) else none
 | _=>none
def GU:Expr->Bool
 | .Tuple .. => true|_=>false
def Lf(n:Nat)(T:Tc)(p:Pos)(i:Nat)(e:Expr):Option TSd:=match yo e with
 | some (y,m,_,as,_)=>if m = "pop" then (match as with
  | []=>(T.slot y).map (nR i)
  | _=>none) else none
 | none=>if T.own.contains p.line then ((FV (tJ n T) T e).map (jY (T.frz p) i)) else (tJ n T e).map (ir (T.frz p) (gNm i))
def DK:List Expr->Expr->Option (Str×Pos×Str×Pos×Expr×Expr)
 | [.Name x px,.Name y py],.Tuple [a,b] _ _=>some (x,px,y,py,a,b)
 | _,_=>none
theorem DJ(h:DK es e=some (x,px,y,py,a,b)):es=[.Name x px,.Name y py]/\∃ k p,e = .Tuple [a,b] k p:=by
 unfold DK at h;split at h
 ·cases h;exact⟨rfl,_,_,rfl⟩
 ·cases h
def Hu(n:Nat)(T:Tc)(p:Pos)(es:List Expr)(e:Expr):Option TSd:=match DK es e with
 | some (x,px,y,py,a,b)=>if DL T x y px py a b then (T.slot x).bind λi=>(T.slot y).bind λj=>(if T.own.contains p.line then (FV (tJ n T) T a).bind λta=>(tJ n T b).map (pY (T.frz p) i j ta) else (tJ n T a).bind λta=>(tJ n T b).map (kT (T.frz p) i j ta)) else if AX T x y a b then (yP T es).bind λis=>(tJ n T e).map (ir (T.frz p) (gTp is)) else none
 | none=>if tW e then (yP T es).bind λis=>(tJ n T e).map (ir (T.frz p) (gTl is)) else if GU e || tW e then none else (yP T es).bind λis=>(tJ n T e).map (ir (T.frz p) (gTp is))
def KZ(n:Nat)(T:Tc)(p:Pos)(e:Expr):Expr->Option TSd
 | .Name x _=>if CU (T.sc.names.lookup x)=true then (T.slot x).bind λi=>Lf n T p i e else none
 | .Subscript a k _=>(match a with
  | .Name x _=>if td k && !tW e then (T.slot x).bind λi=>(tJ n T k).bind λtk=>(tJ n T e).map (jW (T.frz p) i tk) else none
  | _=>none)
 | .Tuple es _ _=>Hu n T p es e
 | _=>none
def Ml(n:Nat)(T:Tc)(p:Pos)(e:Expr):Option TSd:=match yo e with
 | some (x,m,_,as,_)=>if m = "append" then (match as with
   | [e]=>(if td e then (T.slot x).bind λi=>(tJ n T e).map (kU (T.frz p) i) else none)
   | _=>none)
  else if m = "pop" then (match as with
   | []=>(T.slot x).map rf
   | _=>none)
  else none
 | none=>none
mutual
def La:Nat->Tc->Stmt->Option TSd
 | 0,_,_=>none
 | n+1,T,st=>match st with
  | .Return o p=>(match o with
   | some e=>(tJ n T e).map (iE (T.frz p))
   | none=>some qJ)
  | .Pass _=>some iT
  | .Break _=>some re
  | .Expr e p=>Ml n T p e
  | .Assign tgs e p=>(match tgs with
   | [tg]=>KZ n T p e tg
   | _=>none)
  | .AugAssign tg op e p=>(match tg with
   | .Name x _=>if CU (T.sc.names.lookup x)=true then (T.slot x).bind λi=>(tJ n T e).map (oj (T.frz p) i op) else none
   | .Subscript a k _=>(match a with
    | .Name x _=>if td k then (T.slot x).bind λi=>(tJ n T k).bind λtk=>(tJ n T e).map (mV (T.frz p) i tk op) else none
    | _=>none)
   | _=>none)
  | .If k a b p=>(yO n T k).bind λtk=>(zZ n T a).bind λta=>(zZ n T b).map λtb=>dIf (T.frz p) tk ta tb
  | .While k a r _=>(match r with
   | []=>(yO n T k).bind λtk=>(zZ n T a).map (jb tk)
   | _=>none)
  | .For tg it a r p=>(match r with
   | []=>if td it then (IP (tJ n T) T tg it).bind λti=>(Lb T tg).bind λg=>(zZ n T a).map (iX (T.frz p) ti g) else none
   | _=>none)
  | _=>none
def zZ:Nat->Tc->List Stmt->Option TSd
 | 0,_,_=>none
 | n+1,T,sts=>match sts with
  | []=>some iT
  | st::r=>(match r with
   | []=>La n T st
   | _=>(La n T st).bind λt=>(zZ n T r).map (dSq t))
end
theorem Br(C:CtxOk T X)(ih:xX X E)(h:FV E T e=some t):PE X e (LF X.K t)/\tW e=false:=by
 unfold FV at h;split at h
 ·obtain⟨ta,h1,rfl⟩:=ab.mp h;exact⟨iN.okF (uu ih h1),rfl⟩
 ·obtain⟨ta,tb,h1,h2,rfl⟩:=vH h;exact⟨sj.okF (ih h1) (ih h2),rfl⟩
 ·rename_i x p1 a p2;by_cases ex:x = "list"
  ·rw[if_pos ex] at h;subst ex;split at h
   ·rename_i u eu;obtain⟨p,q,rfl⟩:=Fn eu;obtain⟨hn,h4⟩:=ah.mp h;obtain⟨hn,n3⟩:=aA.mp hn;obtain⟨n1,n2⟩:=aA.mp hn;obtain⟨ta,h1,rfl⟩:=ab.mp h4;exact⟨lI.okF (C.isG n3).1 C.bl.list (C.isG n2).1 C.bl.reversed C.calm (ih h1) (sG n1 _ _),rfl⟩
   ·obtain⟨hn,h4⟩:=ah.mp h;obtain⟨n1,n2⟩:=aA.mp hn;obtain⟨ta,h1,rfl⟩:=ab.mp h4;exact⟨jC.okF (C.isG n2).1 C.bl.list (ih h1) (sG n1 _ _),rfl⟩
  ·rw[if_neg ex] at h;cases h
 ·cases h
theorem uI(h:tW e=false)(t:Expr)(l:Nat)(env:Env):swapsWithSole [t] e l env=pure false:=vO h (some t) l env
theorem C3(C:CtxOk T X)(h:tJ n T (.ListComp e gs sc p)=some t):∃ tg it ifs ti g te tk,gs=[⟨tg,it,ifs,0⟩]/\td it=true/\CompS X.N X.env.scope sc (ud T.N sc)/\PI X tg it (LI X.K ti)/\t=iW ti (ud T.N sc) g tk te/\(∀ i∈g.tg,i∈ud T.N sc)/\(∀ s2 H2 fp pins A,PG (u6 X sc s2 H2 fp pins A) tg (LG X.K g))/\(∀ s2 H2 fp pins A,PTs (u6 X sc s2 H2 fp pins A) ifs (LT X.K tk))/\∀ s2 H2 fp pins A,PE (u6 X sc s2 H2 fp pins A) e (LE X.K te):=by
 cases n with
 | zero=>cases h
 | succ n =>
  have ih:=vZ n;obtain⟨hs,h⟩:=ah.mp (show (if De T.sc sc then (Ef gs).bind λ(tg,it,ifs)=>BQ (IP (tJ n T) T tg it) (tJ n { T with sc:=sc }) (yO n { T with sc:=sc }) T e tg ifs sc else none)=some t from h);obtain⟨⟨tg,it,ifs⟩,h1,h2⟩:=ai.mp h;obtain⟨rfl,hn⟩:=BC h1;obtain⟨ti,g,te,tk,q1,q0,q2,q3,q4,q5⟩:=zK C h2 (λ_ _ _ _ _=>ih.e (C.inner ..)) (λ_ _ _ _ _=>ih.t (C.inner ..));exact⟨tg,it,ifs,ti,g,te,tk,rfl,hn,C.compS hs,AD C (ih.e C) q1,q0,q2,q3,q4,q5⟩
theorem IE(C:CtxS T X)(hl:CU (T.sc.names.lookup x)=true)(hs:T.slot x=some i)(h:Lf n T p i e=some t):PS X (.Assign [.Name x px] e p) (LS X.K t):=by
 have ih:xX X (tJ n T):=(vZ n).e C.toCtxOk;have hf:X.fn x=true\/X.env.scope.names.lookup x=some .local:=.inl (C.fnT x);unfold Lf at h;split at h
 ·rename_i y m ap as cp em;obtain⟨⟨p1,rfl⟩,hn⟩:=xF em;obtain⟨rfl,h3⟩:=ah.mp h;match as,h3 with
  | [],h3 =>
   obtain⟨j,h1,rfl⟩:=ab.mp h3;exact nR.ok C.nd (C.slot hs) (C.L hl) hf (C.var h1) rfl hn rfl
  | _::_,h3=>cases h3
 ·by_cases ho:T.own.contains p.line=true
  ·rw[if_pos ho] at h;obtain⟨ta,h1,rfl⟩:=ab.mp h;obtain⟨q1,q2⟩:=Br C.toCtxOk ih h1;exact jY.ok C.nd (C.slot hs) (C.L hl) q1 (vO q2 ..) hf
  ·rw[if_neg ho] at h;obtain⟨ta,h1,rfl⟩:=ab.mp h;have gen:tW e=false->PS X (.Assign [.Name x px] e p) (LS X.K (ir (T.frz p) (gNm i) ta)):=λhc=>r8.ok C.nd (C.slot hs) (C.L hl) (ih h1) (vO hc ..) hf;cases e;case ListComp e gs sc ep hmm =>
    obtain⟨tg,it,ifs,ti,g,te,tk,rfl,hn,q0,qi,rfl,q2,q3,q4,q5⟩:=C3 C.toCtxOk h1;cases sw:LJ T x px ep sc with
    | false=>exact r8.ok C.nd (C.slot hs) (C.L hl) (ih h1) (by rw[C7 C,sw]) hf
    | true=>exact sh.ok C.calm C.nd (C.slot hs) (C.L hl) q0 qi q3 q4 q5 (λx=>vP hn _ x) q2 (by rw[C7 C,sw]) hf
   case SetComp=>cases n <;> cases h1
   case DictComp=>cases n <;> cases h1
   all_goals exact gen rfl
theorem Fb(C:CtxS T X)(h:Hu n T p es e=some t):PS X (.Assign [.Tuple es kt pt] e p) (LS X.K t):=by
 have ih:xX X (tJ n T):=(vZ n).e C.toCtxOk;unfold Hu at h;split at h
 ·rename_i x px y py a b eo;obtain⟨rfl,k,p2,rfl⟩:=DJ eo;by_cases hp:DL T x y px py a b=true
  rotate_left
  ·rw[if_neg hp] at h;obtain⟨hc,h⟩:=ah.mp h;obtain⟨is,h1,h⟩:=ai.mp h;obtain⟨ta,h2,rfl⟩:=ab.mp h;obtain⟨q1,q2,q3⟩:=vm C.toCtxOk h1;exact ir.ok (ih h2) (gTp.ok (Aq C.calm q1 q2 q3)) (uI rfl ..) (CM C hc) rfl
  rw[if_pos hp] at h;obtain⟨i,h1,h⟩:=ai.mp h;obtain⟨j,h2,h⟩:=ai.mp h;have hp':=hp;unfold DL at hp';simp only[bH,dr] at hp';obtain⟨⟨⟨⟨⟨⟨⟨w1,w2⟩,w3⟩,w4⟩,w5⟩,w6⟩,w7⟩,w8⟩:=hp';have ne:i≠j:=by
   rintro rfl;have a1:=C.slot h1;have a2:=C.slot h2;rw[a1] at a2;cases a2;rw[beq_self_eq_true] at w6;cases w6
  by_cases ow:T.own.contains p.line=true
  ·rw[if_pos ow] at h;obtain⟨ta,h3,h⟩:=ai.mp h;obtain⟨tb,h4,rfl⟩:=ab.mp h;exact (Dx (pos:=p) C.calm C.nd (C.slot h1) (C.slot h2) ne (C.loc _ (eq_of_beq w3)) (C.loc _ (eq_of_beq w4)) (sy (Br C.toCtxOk ih h3).1 (sy (ih h4) pa_nil (sG w2 _ _)) (sG w1 _ _)) (DI C hp) rfl).weak λD σ H q=>pY.weak q
  ·rw[if_neg ow] at h;obtain⟨ta,h3,h⟩:=ai.mp h;obtain⟨tb,h4,rfl⟩:=ab.mp h;exact (Dx (pos:=p) C.calm C.nd (C.slot h1) (C.slot h2) ne (C.loc _ (eq_of_beq w3)) (C.loc _ (eq_of_beq w4)) (sy (ih h3) (sy (ih h4) pa_nil (sG w2 _ _)) (sG w1 _ _)) (DI C hp) rfl).weak λD σ H q=>kT.weak q
 ·by_cases hc:tW e=true
  ·rw[if_pos hc] at h;obtain⟨is,h1,h⟩:=ai.mp h;obtain⟨ta,h2,rfl⟩:=ab.mp h;obtain⟨q1,q2,q3⟩:=vm C.toCtxOk h1;have hx:=ih h2;cases e <;> first|(cases hc;done)|skip
   all_goals exact ir.ok hx (gTl.ok (Ik C.calm q1 q2 q3)) rfl rfl rfl
  rw[if_neg hc] at h;obtain⟨hn,h⟩:=fw.mp h;obtain⟨is,h1,h⟩:=ai.mp h;obtain⟨ta,h2,rfl⟩:=ab.mp h;obtain⟨q1,q2,q3⟩:=vm C.toCtxOk h1;have hn2:GU e=false/\tW e=false:=by simpa using hn
  refine ir.ok (ih h2) (gTp.ok (Aq C.calm q1 q2 q3)) (uI hn2.2 ..) ?_ rfl;have:=hn2.1;cases e <;> first|rfl|cases this
theorem Gq(C:CtxS T X)(h:KZ n T p e tg=some t):PS X (.Assign [tg] e p) (LS X.K t):=by
 have ih:xX X (tJ n T):=(vZ n).e C.toCtxOk;cases tg <;> first|(cases h;done)|skip
 case Name x px =>
  obtain⟨hl,h⟩:=ah.mp (show (if CU (T.sc.names.lookup x)=true then (T.slot x).bind λi=>Lf n T p i e else none)=some t from h);obtain⟨i,h1,h⟩:=ai.mp h;exact IE C hl h1 h
 case Subscript a k sp =>
  cases a <;> first|(cases h;done)|skip
  rename_i x q;obtain⟨hn,h⟩:=ah.mp (show (if td k && !tW e then (T.slot x).bind λi=>(tJ n T k).bind λtk=>(tJ n T e).map (jW (T.frz p) i tk) else none)=some t from h);obtain⟨n1,n2⟩:=aA.mp hn;obtain⟨i,h1,h⟩:=ai.mp h;obtain⟨tk,h2,h⟩:=ai.mp h;obtain⟨ta,h3,rfl⟩:=ab.mp h;have hc:tW e=false:=by simpa using n2
  refine jW.ok (C.var h1) (ih h2) (ih h3) (uI hc ..) ?_ rfl (vb (C.var h1) (ih h2) tM ?_)
  ·cases e <;> rfl
  ·intro v;cases k <;> first|rfl|cases n1
 case Tuple es k pt=>exact Fb C h
theorem IV(C:CtxS T X)(h:Ml n T p e=some t):PS X (.Expr e p) (LS X.K t):=by
 have ih:xX X (tJ n T):=(vZ n).e C.toCtxOk;unfold Ml at h;split at h
 ·rename_i x m ap as cp em;obtain⟨⟨p1,rfl⟩,hl⟩:=xF em;by_cases e1:m = "append"
  ·subst e1;rw[if_pos rfl] at h;match as,h with
   | [e],h =>
    obtain⟨hn,h⟩:=ah.mp h;obtain⟨i,h1,h⟩:=ai.mp h;obtain⟨ta,h2,rfl⟩:=ab.mp h;exact kU.ok (C.var h1) rfl (ih h2) (sG hn _ _) hl rfl
   | [],h=>cases h
   | _::_::_,h=>cases h
  ·rw[if_neg e1] at h;by_cases e2:m = "pop"
   ·subst e2;rw[if_pos rfl] at h;match as,h with
    | [],h =>
     obtain⟨i,h1,rfl⟩:=ab.mp h;exact rf.ok (C.var h1) rfl hl rfl
    | _::_,h=>cases h
   ·rw[if_neg e2] at h;cases h
 ·cases h
theorem Ag:∀ n,(∀{T:Tc} {X:Cx} {st:Stmt} {t:TSd},CtxS T X->La n T st=some t->PS X st (LS X.K t))/\(∀{T:Tc} {X:Cx} {sts:List Stmt} {t:TSd},CtxS T X->zZ n T sts=some t->PSs X sts (LS X.K t))
 | 0=>⟨λ_ h=>(by cases h),λ_ h=>(by cases h)⟩
 | n+1=>by
  have ihS:=Ag n;constructor
  ·intro T X st t C h;have C':=C.toCtxOk;have ih:xX X (tJ n T):=(vZ n).e C';have it:Ln X (yO n T):=(vZ n).t C';have hp:PassesOwn (model X.prog X.w) X.A X.env X.xe:=by
    rw[C.xe];exact PassesOwn.never
   cases st <;> first|(cases h;done)|skip
   case Return o p =>
    cases o with
    | none =>
     cases h;exact qJ.ok
    | some e =>
     obtain⟨ta,h1,rfl⟩:=ab.mp (show (tJ n T e).map (iE (T.frz p))=some t from h);exact iE.ok (ih h1)
   case Pass=>cases h;exact iT.pass
   case Break=>cases h;exact re.ok
   case Expr=>exact IV C h
   case Assign tgs e p =>
    match tgs,h with
    | [tg],h=>exact Gq C h
    | [],h=>cases h
    | _::_::_,h=>cases h
   case AugAssign tg op e p =>
    cases tg <;> first|(cases h;done)|skip
    case Name x px =>
     obtain⟨hl,h⟩:=ah.mp (show (if CU (T.sc.names.lookup x)=true then (T.slot x).bind λi=>(tJ n T e).map (oj (T.frz p) i op) else none)=some t from h);obtain⟨i,h1,h⟩:=ai.mp h;obtain⟨ta,h2,rfl⟩:=ab.mp h;exact oj.ok C.room C.nd (C'.slot h1) (C.L hl) (ih h2) (.inl (C.fnT _))
    case Subscript a k sp =>
     cases a <;> first|(cases h;done)|skip
     rename_i x q;obtain⟨hn,h⟩:=ah.mp (show (if td k then (T.slot x).bind λi=>(tJ n T k).bind λtk=>(tJ n T e).map (mV (T.frz p) i tk op) else none)=some t from h);obtain⟨i,h1,h⟩:=ai.mp h;obtain⟨tk,h2,h⟩:=ai.mp h;obtain⟨ta,h3,rfl⟩:=ab.mp h;refine mV.ok C.room (C.var h1) (ih h2) (ih h3) ?_;cases k <;> first|(intros;rfl)|cases hn
   case If k a b p =>
    obtain⟨tk,h0,h⟩:=ai.mp (show (yO n T k).bind (λtk=>(zZ n T a).bind λta=>(zZ n T b).map λtb=>dIf (T.frz p) tk ta tb)=some t from h);obtain⟨ta,h1,h⟩:=ai.mp h;obtain⟨tb,h2,rfl⟩:=ab.mp h;exact dIf.ok (it h0) (ihS.2 C h1) (ihS.2 C h2)
   case While k a r p =>
    cases r with
    | cons=>cases h
    | nil =>
     obtain⟨tk,h0,h⟩:=ai.mp (show (yO n T k).bind (λtk=>(zZ n T a).map (jb tk))=some t from h);obtain⟨ta,h1,rfl⟩:=ab.mp h;exact jb.ok hp (it h0) (ihS.2 C h1)
   case For tg i a r p =>
    cases r with
    | cons=>cases h
    | nil =>
     obtain⟨hn,h⟩:=ah.mp (show (if td i then (IP (tJ n T) T tg i).bind λti=>(Lb T tg).bind λg=>(zZ n T a).map (iX (T.frz p) ti g) else none)=some t from h);obtain⟨ti,h0,h⟩:=ai.mp h;obtain⟨g,h1,h⟩:=ai.mp h;obtain⟨tb,h2,rfl⟩:=ab.mp h;exact iX.ok hp C.calm (AD C' ih h0) (Ah C' h1) (ihS.2 C h2) λx=>vP hn _ x
  ·intro T X sts t C h;match sts,h with
   | [],h =>
    cases h;exact iT.nil
   | [st],h=>exact dSq.one (ihS.1 C h)
   | st::s2::r,h =>
    obtain⟨ta,h1,h⟩:=ai.mp (show (La n T st).bind (λt=>(zZ n T (s2::r)).map (dSq t))=some t from h);obtain⟨tb,h2,rfl⟩:=ab.mp h;exact dSq.ok (ihS.1 C h1) (ihS.2 C h2)
theorem Jf(B:Bl mg)(S:FnScope N ps (sv st))
  (hG:∀ x j s,(x,j,s)∈G->∃ ps,Def P w K mg base x j ps (yM K s.n s.run)) (hgc:∀ x d,(x,d)∈gc->∃ v u,mg x=some u/\RelV v u/\∀ f O H,Rp K f O H d v) (hr:Room k (A.deeper (PyProof.Rows.envOfC qual (sv st) s0.heap.objs.size f cdv))) :
  CtxS ⟨N,sv st,G,gc,k,fz,own,mu⟩ (AQ Ab P w K mg base N qual (sv st) f cdv A outer s0 H E).nox:=by
 refine⟨⟨rfl,S.nd,rfl,hr,λx h=>?_,λx h=>h,λx h=>h,λx h=>h,hG,hgc,B,λx h=>⟨h,rfl⟩⟩,rfl,?_,rfl,λ_=>rfl⟩
 ·have h:Kv ((sv st).names.lookup x)=true:=h;unfold Hm;show (sv st).names.lookup x=_\/(sv st).names.lookup x=_\/(sv st).names.lookup x=_;cases q:(sv st).names.lookup x with
  | none=>rw[q] at h;cases h
  | some k=>rw[q] at h;cases k <;> first|exact .inl rfl|exact .inr (.inl rfl)|exact .inr (.inr rfl)|cases h
 ·show (if (sv st).kind.isAnnotationScope then ScopeKind.function else (sv st).kind) = .function;rw[S.kind];rfl
theorem IB(F:Fun K x qual st f fd)(B:Bl mg)(S:FnScope N ps (sv st))(hn:s.n=ps.length)
  (hG:∀ x j s,(x,j,s)∈G->∃ ps,Def P w K mg base x j ps (yM K s.n s.run)) (hgc:∀ x d,(x,d)∈gc->∃ v u,mg x=some u/\RelV v u/\∀ f O H,Rp K f O H d v)
  (ht:zZ n ⟨N,sv st,G,gc,k,fz,own,mu⟩ (tw st)=some t) (h:Does N.length t s):FnOk P w K mg base Ab (k+1) f fd ps (yM K s.n s.run) :=
 F.ok S (λvs H Q E q=>q.1.trans hn) (λcdv A outer s0 H vs Q E hr q=>⟨LS K t,(Ag n).2 (Jf B S hG hgc hr) ht,h.ok q⟩)
end
section
open PySem L2 Dp
variable{P:Program}{w:World}{K:Frag}{mg:Str->Option Value}{base:Heap}
theorem IA(F:Fun K "law" "law" st f0 fd)(B:Bl mg)(S:FnScope ("_law_script" :: "_law_flow_here" :: N) ["_law_script"] (sv st))
  (g:Def P w K mg base "_law_flow" 1 ["_law_script"] (wx K)) (hG:∀ x j s,(x,j,s)∈G->∃ ps,Def P w K mg base x j ps (yM K s.n s.run)) (hgc:∀ x d,(x,d)∈gc->∃ v u,mg x=some u/\RelV v u/\∀ f O H,Rp K f O H d v)
  (hb:tw st = .Assign [.Name "_law_flow_here" p1] (.Call (.Name "_law_flow" p2) [.Name "_law_script" p3] [] p4) p5::rest) (hk:1<=k) (hv:(sv st).names.lookup ("_law_script" : Str)=some .local\/(sv st).names.lookup ("_law_script" : Str)=some .cell) (hl:(sv st).names.lookup ("_law_flow_here" : Str)=some .local\/(sv st).names.lookup ("_law_flow_here" : Str)=some .cell) (hg:(sv st).names.lookup ("_law_flow" : Str)=some .globalImplicit)
  (ht:zZ n ⟨"_law_script" :: "_law_flow_here" :: N,sv st,G,gc,k,fz,own,mu⟩ rest=some t) (h:t.run ⟨λ_=>False,λd=>d = .bl true,λ_=>False,λ_=>False⟩ (.no :: .val .fl::List.replicate N.length .no)) :
  FnOk P w K mg base Ab (k+1) f0 fd ["_law_script"] (Bb K):=by
 refine F.ok S (λvs H Q E h=>?_) (λcdv A outer s H vs Q E hr q=>?_)
 ·obtain⟨a,ns,rfl,_⟩:=h;rfl
 obtain⟨a,ns,rfl,hS,h63,q⟩:=q;refine⟨JO (HD (Ba (wx K) [] E0 (xx (vn 0) Fe)) (xM 1)) (LS K t),?_,?_⟩
 ·rw[hb];refine tO (vL S.nd rfl hl (Au g hr (sy (Ar rfl ?_ rfl rfl) pa_nil rfl) hk hg rfl rfl rfl) rfl (.inl rfl)) ?_
  ·rcases hv with z|z
   ·exact .inl z
   ·exact .inr (.inl z)
  refine (Ag n).2 (T:=⟨"_law_script" :: "_law_flow_here" :: N,sv st,G,gc,k,fz,own,mu⟩) ⟨⟨rfl,S.nd,rfl,hr,λx h=>?_,λx h=>h,λx h=>h,λx h=>h,hG,hgc,B,λx h=>⟨h,rfl⟩⟩,rfl,?_,rfl,λ_=>rfl⟩ ht
  ·have h:Kv ((sv st).names.lookup x)=true:=h;unfold Hm;show (sv st).names.lookup x=_\/(sv st).names.lookup x=_\/(sv st).names.lookup x=_;cases q:(sv st).names.lookup x with
   | none=>rw[q] at h;cases h
   | some k=>rw[q] at h;cases k <;> first|exact .inl rfl|exact .inr (.inl rfl)|exact .inr (.inr rfl)|cases h
  ·show (if (sv st).kind.isAnnotationScope then ScopeKind.function else (sv st).kind) = .function;rw[S.kind];rfl
 ·refine⟨_,rfl,a,ns,rfl,hS,h63,λf H1 e1 fl hf=>?_⟩;have ef:(L2.start ("_law_script" :: "_law_flow_here" :: N) [V.ref a]).set 1 (some (V.ref f))=some (.ref a)::some (.ref f)::List.replicate N.length none:=rfl;show LS K t _ ((L2.start ("_law_script" :: "_law_flow_here" :: N) [V.ref a]).set 1 (some (V.ref f))) H1;rw[ef];have gt:∀{i:Nat} {x:SD},(SD.no::SD.val .fl::List.replicate N.length SD.no)[i]? = some x->x = .no\/(i=1/\x = .val .fl):=λ{i x} h=>by
   match i,h with
   | 0,h=>cases h;exact .inl rfl
   | 1,h=>cases h;exact .inr ⟨rfl,rfl⟩
   | i+2,h=>exact .inl (gA (aL (show (List.replicate N.length SD.no)[i]? = some x from h)))
  refine⟨⟨f,[f],H1,[f]⟩,[f],SD.no::SD.val .fl::List.replicate N.length SD.no,⟨⟨fl,a8.mpr rfl,λb hb=>?_,λl r e z=>?_,by simp,λi d hd=>?_,λi l hd=>?_⟩,λ_ h=>h,⟨λ_ _ h _ _=>h,λl r h=>⟨r,h⟩⟩,λb h=>.inl h,λi l b hd=>?_⟩,?_⟩
  ·rw[a8.mp hb];exact fl.lst
  ·have z:=a8.mp z;subst z;obtain⟨l0,ns0,i,c,a0,b,h1,h2,_⟩:=fl;rw[h1] at e;cases e;rw[h1] at h2;cases ns0 <;> cases h2
  ·rcases gt hd with e|⟨rfl,e⟩
   ·cases e
   ·cases e;exact⟨_,rfl,rfl⟩
  ·rcases gt hd with e|⟨_,e⟩ <;> cases e
  ·rcases gt hd with e|⟨_,e⟩ <;> cases e
  ·refine t.mono ?_ h;refine⟨λs z=>z.elim,λd z v H' R=>?_,λs z=>z.elim,λs z=>z.elim⟩;subst z;cases (show v=_ from R.rp);exact q H'
end
section
open PySem L2 Dp
variable{P:Program}{w:World}{K:Frag}{mg:Str->Option Value}{base:Heap}
theorem Nw:∀(x:Str) (j:Nat) (s:SpB),(x,j,s)∈([]:List (Str×Nat×SpB))->∃ ps,Def P w K mg base x j ps (yM K s.n s.run):=λ_ _ _ h=>absurd h aX
theorem Mi(g:Def P w K mg base y i ps (yM K r.n r.run))(h:∀(x:Str) (j:Nat) (s:SpB),(x,j,s)∈G->∃ ps,Def P w K mg base x j ps (yM K s.n s.run)):∀(x:Str) (j:Nat) (s:SpB),(x,j,s)∈(y,i,r)::G->∃ ps,Def P w K mg base x j ps (yM K s.n s.run):=λx j s e=>by
 rcases au.mp e with e|e
 ·cases e;exact⟨ps,g⟩
 ·exact h x j s e
theorem Ny:∀(x:Str) (d:D),(x,d)∈([]:List (Str×D))->∃ v u,mg x=some u/\RelV v u/\∀ f O H,Rp K f O H d v:=λ_ _ h=>absurd h aX
end
section
open PySem L2 Dp
variable{P:Program}{w:World}{K:Frag}{mg:Str->Option Value}{base:Heap}
structure Sl (K:Frag)(f:Addr)(x:Str)(st:Stmt):Prop where
 a:PySem.W.nsIn K mainGlobals x=some (some (.ref f))
 ex:∃ fd,Fun K x x st f fd
theorem sl{f:Addr}{x:Str}{st:Stmt}{oc:Value}{od an:Option Addr}{osl:Array (Option Value)}{kV doc pm cdv ct:Value}(a:PySem.W.nsIn K mainGlobals x=some (some (.ref f)))(l:K.lookup f=some ⟨oc,od,.func (PySem.W.fnOf x x (t9 st) (tw st) (sv st) .none kV doc pm an cdv ct),osl⟩)(c:PySem.W.codeIn K cdv x=true)(k:PySem.W.keepIn K (.ref f)=true):Sl K f x st:=⟨a,_,IU l c k⟩
abbrev Mg(K:Frag)(mg:Str->Option Value):Prop:=∀(x:Str) (f:Addr),PySem.W.nsIn K mainGlobals x=some (some (.ref f))->mg x=some (.ref f)
def LM(N ps:List Str)(sc:Scope):Bool:=decide (N.Nodup) && decide (N.take ps.length=ps) && (ps.all λx=>decide (sc.names.lookup x=some .local) || decide (sc.names.lookup x=some .cell)) && sc.names.all λy=>decide (y.2 ≠ .free)
theorem sc{sc:Scope}(h:LM N ps sc=true)(h1:sc.kind = .function)(h2:sc.isCoroutine=false)(h3:sc.isGenerator=false):FnScope N ps sc:=by
 unfold LM at h;obtain⟨h,d⟩:=aA.mp h;obtain⟨h,c⟩:=aA.mp h;obtain⟨a,b⟩:=aA.mp h;refine⟨h1,h2,h3,of_decide_eq_true a,of_decide_eq_true b,λx hx=>?_,λy hy=>of_decide_eq_true (cF.mp d y hy)⟩;rcases gS.mp (cF.mp c x hx) with z|z
 ·exact .inl (of_decide_eq_true z)
 ·exact .inr (of_decide_eq_true z)
abbrev o0:List (Nat×List Nat)×List Nat×List Nat:=([],[],[])
abbrev BA(x:Str)(st:Stmt)(kV doc pm:Value)(an:Option Addr)(cdv ct:Value)(us:List Value):=bindArgs (PySem.W.fnOf x x (t9 st) (tw st) (sv st) .none kV doc pm an cdv ct) ⟨us,[]⟩
theorem Nr(k:Nat)(H:List (Nat×List Nat)×List Nat×List Nat)(S:Sl K f x st)(W:Mg K mg)(B:Bl mg)(C:FnScope N ps (sv st))(hn:s.n=ps.length)
  (hG:∀ x j s,(x,j,s)∈G->∃ ps,Def P w K mg base x j ps (yM K s.n s.run)) (hgc:∀ x d,(x,d)∈gc->∃ v u,mg x=some u/\RelV v u/\∀ f O H,Rp K f O H d v)
  (hb:∀(kV doc pm:Value) (an:Option Addr) (cdv ct:Value) (us:List Value),us.length=ps.length->BA x st kV doc pm an cdv ct us=pure (ps.zip us))
  (ht:zZ 40 ⟨N,sv st,G,gc,k,H.1,H.2.1,H.2.2⟩ (tw st)=some t) (h:Does N.length t s):Def P w K mg base x (k+1) ps (yM K s.n s.run):=by
 obtain⟨a,fd,F⟩:=S;exact .of F (W _ _ a) (F.binds hb) (IB (n:=40) (fz:=H.1) (own:=H.2.1) (mu:=H.2.2) F B C hn hG hgc ht h)
theorem u0{us:List Value}{n:Nat}(h:us.length=n+1):∃ a r,us=a::r/\r.length=n:=by
 cases us with
 | nil=>exact absurd h (Nat.succ_ne_zero n).symm
 | cons a r=>exact⟨a,r,rfl,Nat.succ.inj h⟩
theorem u1{us:List Value}(h:us.length=1):∃ a,us=[a]:=by
 obtain⟨a,r,rfl,h1⟩:=u0 (n:=0) h;exact⟨a,by rw[bT.mp h1]⟩
theorem u2{us:List Value}(h:us.length=2):∃ a b,us=[a,b]:=by
 obtain⟨a,r,rfl,h1⟩:=u0 (n:=1) h;obtain⟨b,rfl⟩:=u1 h1;exact⟨a,b,rfl⟩
theorem u3{us:List Value}(h:us.length=3):∃ a b c,us=[a,b,c]:=by
 obtain⟨a,r,rfl,h1⟩:=u0 (n:=2) h;obtain⟨b,c,rfl⟩:=u2 h1;exact⟨a,b,c,rfl⟩
theorem b1(h:∀(kV doc pm:Value) (an:Option Addr) (cdv ct u:Value),BA x st kV doc pm an cdv ct [u]=pure [(p,u)]):∀(kV doc pm:Value) (an:Option Addr) (cdv ct:Value) (us:List Value),us.length=[p].length->BA x st kV doc pm an cdv ct us=pure ([p].zip us):=λ_ _ _ _ _ _ us hl=>by
 obtain⟨_,rfl⟩:=u1 hl;exact h ..
theorem b2(h:∀(kV doc pm:Value) (an:Option Addr) (cdv ct u v:Value),BA x st kV doc pm an cdv ct [u,v]=pure [(p,u),(q,v)]):∀(kV doc pm:Value) (an:Option Addr) (cdv ct:Value) (us:List Value),us.length=[p,q].length->BA x st kV doc pm an cdv ct us=pure ([p,q].zip us):=λ_ _ _ _ _ _ us hl=>by
 obtain⟨_,_,rfl⟩:=u2 hl;exact h ..
theorem b3(h:∀(kV doc pm:Value) (an:Option Addr) (cdv ct u v z:Value),BA x st kV doc pm an cdv ct [u,v,z]=pure [(p,u),(q,v),(r,z)]):∀(kV doc pm:Value) (an:Option Addr) (cdv ct:Value) (us:List Value),us.length=[p,q,r].length->BA x st kV doc pm an cdv ct us=pure ([p,q,r].zip us):=λ_ _ _ _ _ _ us hl=>by
 obtain⟨_,_,_,rfl⟩:=u3 hl;exact h ..
end
section
open PySem L2 Dp
variable{P:Program}{w:World}{K:Frag}{mg:Str->Option Value}{base:Heap}
def Ij(s:Stmt):List Str:=(t9 s).args.map (·.arg)
def MI(s:Stmt):List Str:=(sv s).names.filterMap λy=>if y.2 = .local\/y.2 = .cell then some y.1 else none
def L8(N:List Str)(st:Stmt)(m n:Nat):Bool:=LM N (Ij st) (sv st) && (match (sv st).kind with | .function=>true|_=>false) && !(sv st).isCoroutine && !(sv st).isGenerator && decide (N.length=m) && decide (n=(Ij st).length)
def SlS(tp:Nat->Stmt)(K:Frag):List (Str×Nat)->Prop
 | []=>True
 | y::r=>(∃ f,Sl K f y.1 (tp y.2))/\SlS tp K r
theorem SlS.c{tp:Nat->Stmt}{x:Str}{i:Nat}{r:List (Str×Nat)}{f:Addr}{oc:Value}{od an:Option Addr}{osl:Array (Option Value)}{kV doc pm cdv ct:Value}(a:PySem.W.nsIn K mainGlobals x=some (some (.ref f)))(l:K.lookup f=some ⟨oc,od,.func (PySem.W.fnOf x x (t9 (tp i)) (tw (tp i)) (sv (tp i)) .none kV doc pm an cdv ct),osl⟩)(c:PySem.W.codeIn K cdv x=true)(k:PySem.W.keepIn K (.ref f)=true)(h:SlS tp K r):SlS tp K ((x,i)::r):=⟨⟨f,sl a l c k⟩,h⟩
theorem SlS.g:∀{L:List (Str×Nat)} (j:Nat) (_:SlS tp K L) (_:L[j]? = some (x,i)),∃ f,Sl K f x (tp i)
 | _::_,0,h,e=>by cases e;exact h.1
 | _::r,j+1,h,e=>SlS.g (L:=r) j h.2 (by simpa using e)
def ZsO(K:Frag):List Str->Prop
 | []=>True
 | x::r=>PySem.W.nsIn K mainGlobals x=some none/\ZsO K r
theorem ZsO.c{x:Str}{r:List Str}(a:PySem.W.nsIn K mainGlobals x=some none)(h:ZsO K r):ZsO K (x::r):=⟨a,h⟩
abbrev MS:List Str:=["len", "range", "all", "any", "abs", "int", "bool", "str", "list", "tuple", "dict", "isinstance", "enumerate", "reversed", "sorted", "max", "min", "sum", "zip"]
theorem KW(X:K.In h)(G:h.Ns mainGlobals mg)(z:ZsO K MS):Bl mg:=by
 have n:=@PySem.W.mg_none_of K h mg;obtain⟨z1,z2,z3,z4,z5,z6,z7,z8,z9,z10,z11,z12,E6,z14,z15,z16,z17,z18,z19,-⟩:=z;exact⟨n X G z1,n X G z2,n X G z3,n X G z4,n X G z5,n X G z6,n X G z7,n X G z8,n X G z9,n X G z10,n X G z11,n X G z12,n X G E6,n X G z14,n X G z15,n X G z16,n X G z17,n X G z18,n X G z19⟩
structure EvO (P:Program)(w:World)(K:Frag)(mg:Str->Option Value)(base:Heap)(tp:Nat->Stmt)(L:List (Str×Nat))(gc:List (Str×D)):Prop where
 S:SlS tp K L
 W:Mg K mg
 B:Bl mg
 c:∀ x d,(x,d)∈gc->∃ v u,mg x=some u/\RelV v u/\∀ f O H,Rp K f O H d v
abbrev Lm(P:Program)(w:World)(K:Frag)(mg:Str->Option Value)(base:Heap)(G:List (Str×Nat×SpB)):Prop:=∀ x j s,(x,j,s)∈G->∃ ps,Def P w K mg base x j ps (yM K s.n s.run)
abbrev K8(st:Stmt):Prop:=∀(x:Str) (kV doc pm:Value) (an:Option Addr) (cdv ct:Value) (us:List Value),us.length=(Ij st).length->BA x st kV doc pm an cdv ct us=pure ((Ij st).zip us)
theorem GS{tp:Nat->Stmt}{L:List (Str×Nat)}{gc:List (Str×D)}(E:EvO P w K mg base tp L gc)(j k:Nat){x:Str}{i:Nat}(e:L[j]? = some (x,i))(H:List (Nat×List Nat)×List Nat×List Nat){m:Nat}{t:TSd}{s:SpB}(hG:Lm P w K mg base G)(h:Does m t s)(N:List Str)(hb:K8 (tp i))(hc:L8 N (tp i) m s.n=true:=by kernel_rfl)
  (ht:zZ 40 ⟨N,sv (tp i),G,gc,k,H.1,H.2.1,H.2.2⟩ (tw (tp i))=some t:=by kernel_rfl):Lm P w K mg base ((x,k+1,s)::G):=by
 obtain⟨f,S⟩:=E.S.g j e;unfold L8 at hc;simp only[bH,dr,decide_eq_true_eq] at hc;obtain⟨⟨⟨⟨⟨c1,c2⟩,c3⟩,c4⟩,rfl⟩,c5⟩:=hc;refine Mi (Nr k H S E.W E.B (sc c1 ?_ c3 c4) c5 hG E.c (hb x) ht h) hG;split at c2
 ·assumption
 ·cases c2
theorem uj(E:EvO P w K mg base tp L gc)(j k:Nat)(e:L[j]? = some (x,i))(H:List (Nat×List Nat)×List Nat×List Nat)(hG:Lm P w K mg base G)(h:Does m t s)(hb:K8 (tp i))(hc:L8 (MI (tp i)) (tp i) m s.n=true:=by kernel_rfl)
  (ht:zZ 40 ⟨MI (tp i),sv (tp i),G,gc,k,H.1,H.2.1,H.2.2⟩ (tw (tp i))=some t:=by kernel_rfl):Lm P w K mg base ((x,k+1,s)::G):=GS E j k e H hG h _ hb hc ht
theorem h1(e:Ij st=[p])(h:∀(x:Str) (kV doc pm:Value) (an:Option Addr) (cdv ct u:Value),BA x st kV doc pm an cdv ct [u]=pure [(p,u)]:=by exact λ_ _ _ _ _ _ _ _=>rfl):K8 st:=λx _ _ _ _ _ _ us hl=>by
 rw[e] at hl ⊢;exact b1 (h x) _ _ _ _ _ _ us hl
theorem h2(e:Ij st=[p,q])(h:∀(x:Str) (kV doc pm:Value) (an:Option Addr) (cdv ct u v:Value),BA x st kV doc pm an cdv ct [u,v]=pure [(p,u),(q,v)]:=by exact λ_ _ _ _ _ _ _ _ _=>rfl):K8 st:=λx _ _ _ _ _ _ us hl=>by
 rw[e] at hl ⊢;exact b2 (h x) _ _ _ _ _ _ us hl
theorem h3(e:Ij st=[p,q,r])(h:∀(x:Str) (kV doc pm:Value) (an:Option Addr) (cdv ct u v z:Value),BA x st kV doc pm an cdv ct [u,v,z]=pure [(p,u),(q,v),(r,z)]:=by exact λ_ _ _ _ _ _ _ _ _ _=>rfl):K8 st:=λx _ _ _ _ _ _ us hl=>by
 rw[e] at hl ⊢;exact b3 (h x) _ _ _ _ _ _ us hl
end
end Ds
set_option maxHeartbeats 4000000
namespace My
open PySem L2
def top(i:Nat):Stmt:=PySem.Challenge.pw_nestwright_k43_neighbours_exchanged.main.body.getD i (.Pass ⟨0,0,0,0⟩)
abbrev wA:Stmt:=top 29
abbrev wz:Stmt:=top 30
abbrev t5:Stmt:=top 31
abbrev JZ:Stmt:=top 58
section
variable{P:Program}{w:World}{K:Frag}{mg:Str->Option Value}{base:Heap}
def Flow(H:Hp)(f:Addr):Prop:=∃(l:Addr) (ns:List Int) (i c a b:Int),H f=some (.lst [.ref l,.int i,.int c,.int a,.int b])/\H l=some (.lst (ns.map V.int))/\ns.length<=63/\0<=i/\i<=(ns.length:Int)/\0<=c/\0<=a/\a<2147483647
theorem KJ{H:Hp}{f l:Addr}{ns:List Int}{x:Addr}{r:List V}(h1:H f=some (.lst (.ref x::r)))(h2:H l=some (.lst (ns.map V.int))):l≠f:=by
 refine Ks h2 h1 λz=>?_;injection z with z;cases ns with
 | nil=>cases z
 | cons n ns=>rw[dU] at z;injection z with z1;cases z1
theorem vR{H:Hp}{f l:Addr}{ns:List Int}{i c a b i' c' a' b':Int}(h1:H f=some (.lst [.ref l,.int i,.int c,.int a,.int b]))(h2:H l=some (.lst (ns.map V.int))) :
  tv H f (.lst [.ref l,.int i',.int c',.int a',.int b']) f=some (.lst [.ref l,.int i',.int c',.int a',.int b'])/\tv H f (.lst [.ref l,.int i',.int c',.int a',.int b']) l=some (.lst (ns.map V.int))/\Sm f H (tv H f (.lst [.ref l,.int i',.int c',.int a',.int b'])):=by
 refine⟨sD,?_,λb o n e=>?_,λx r e=>?_⟩
 ·rw[sB (KJ h1 h2)];exact h2
 ·rw[sB n];exact e
 ·rw[h1] at e;injection e with e;injection e with e;injection e with e _;rw[← e];exact⟨_,sD⟩
theorem Go{ns:List Int}{i:Int}(h0:0<=i)(h:i<(ns.length:Int)):∃ z,wl (ns.map V.int) i=some (V.int z):=by
 obtain⟨k,rfl⟩:=cI h0;exact⟨ns[k]'(),ua (by rw[aR,aq ()];rfl)⟩
def wx(K:Frag):Sp:=λvs H Q _=>∃(a:Addr) (ns:List Int),vs=[.ref a]/\SqL K H a (ns.map V.int)/\ns.length<=63/\∀ f H',Same H H'->Flow H' f->H f=none->Q (.ref f) H'
def x9:Sp:=λvs H Q _=>∃(f:Addr) (m:Int),vs=[.ref f,.int m]/\Flow H f/\0<m/\Lt2 9000 m/\∀ d H',0<=d->d<m->Flow H' f->Sm f H H'->Q (.int d) H'
theorem qP:FnScope ["_law_script"] ["_law_script"] (sv wA):=⟨rfl,rfl,rfl,by decide +kernel,rfl,by decide +kernel,by decide +kernel⟩
theorem FP{f:Addr}{fd:FuncData}(F:Fun K "_law_flow" "_law_flow" wA f fd)(B:Bl mg):FnOk P w K mg base Ab 1 f fd ["_law_script"] (wx K):=by
 refine F.ok qP (λvs H Q E h=>?_) (λcdv A outer s H vs Q E hr h=>?_)
 ·obtain⟨a,ns,rfl,_⟩:=h;rfl
 obtain⟨a,ns,rfl,hS,h63,q⟩:=h;have nd:=qP.nd;refine⟨_,(tF (@uG _ _ _ _ (@At _ _ _ _ (@sy _ _ _ _ _ (@vN _ _ _ _ _ _ _ _ _ (AC K) rfl B.list uX (@sy _ _ _ _ _ (pv 0) pa_nil (by rfl)) (by decide) (by decide) (by rfl) (by rfl)) (@sy _ _ _ _ _ sA (@sy _ _ _ _ _ sA (@sy _ _ _ _ _ sA (@sy _ _ _ _ _ sA pa_nil (by rfl)) (by rfl)) (by rfl)) (by rfl)) (by rfl))))),?_⟩;refine⟨_,rfl,a,_,rfl,.inl hS,λl hl=>⟨(by show 5<=sizeLine;decide),λp hp=>?_⟩⟩;have hpl:l≠p:=sI sD hp;refine q p _ ((Same.new hl _).trans (Same.new hp _)) ⟨l,ns,0,0,1,0,sD,?_,h63,by decide,(),by decide,by decide,by decide⟩ ?_
 ·rw[sB hpl];exact sD
 ·rw[sB (Ne.symm hpl)] at hp;exact hp
theorem qQ:FnScope ["_law_flow_here", "_law_many", "_law_cell", "_law_digit"] ["_law_flow_here", "_law_many"] (sv wz):=⟨rfl,rfl,rfl,by decide +kernel,rfl,by decide +kernel,by decide +kernel⟩
theorem FO{f0:Addr}{fd:FuncData}(F:Fun K "_law_pick" "_law_pick" wz f0 fd)(B:Bl mg):FnOk P w K mg base Ab 1 f0 fd ["_law_flow_here", "_law_many"] x9:=by
 refine F.ok qQ (λvs H Q E h=>?_) (λcdv A outer s H vs Q E hr h=>?_)
 ·obtain⟨a,ns,rfl,_⟩:=h;rfl
 obtain⟨f,m,rfl,hF,hm0,hm1,q⟩:=h;have nd:=qQ.nd;refine⟨_,(vp (@wH _ _ _ _ _ _ _ _ (PW.pt (Dr (@uo _ _ _ _ _ _ _ _ yV (@tE _ _ _ _ _ _ _ (Aa K) (pv 0) sA (λ_ _=>rfl)) sA (ur _)) (Bf (@uo _ _ _ _ _ _ _ _ GN (@tE _ _ _ _ _ _ _ (Aa K) (pv 0) sA (λ_ _=>rfl)) (@sT _ _ _ _ _ _ _ _ _ (Cr K) rfl B.len vV (@sy _ _ _ _ _ (@tE _ _ _ _ _ _ _ (Aa K) (pv 0) sA (λ_ _=>rfl)) pa_nil (by rfl)) (by decide) (by decide) (by rfl) (by rfl)) (ur _))))) (tO (@vL _ _ 2 _ _ _ _ nd rfl (by first|exact Or.inl rfl|exact Or.inr rfl) (@tE _ _ _ _ _ _ _ (Aa K) (@tE _ _ _ _ _ _ _ (Aa K) (pv 0) sA (λ_ _=>rfl)) (@tE _ _ _ _ _ _ _ (Aa K) (pv 0) sA (λ_ _=>rfl)) (λ_ _=>rfl)) (by rfl) (by first|exact .inl rfl|exact .inr rfl|assumption))
  (tO (@uH _ _ _ _ _ _ (@tf _ _ _ _ _ _ _ _ uq (@tE _ _ _ _ _ _ _ (Aa K) (pv 0) sA (λ_ _=>rfl)) sA) (@vb _ _ _ _ _ _ _ (pv 0) sA tM (λ_=>rfl)) (by rfl) (by rfl) (by rfl))
  (tF (@wH _ _ _ _ _ _ _ _ (@uo _ _ _ _ _ _ _ _ GP (pv 2) (@tf _ _ _ _ _ _ _ _ DR sA sA) (ur _)) (tF (@uH _ _ _ _ _ _ (pv 2) (@vb _ _ _ _ _ _ _ (pv 0) sA tM (λ_=>rfl)) (by rfl) (by rfl) (by rfl))) (tF (@uH _ _ _ _ _ _ (@tf _ _ _ _ _ _ _ _ vc (@tf _ _ _ _ _ _ _ _ uq (@tf _ _ _ _ _ _ _ _ uq (@tf _ _ _ _ _ _ _ _ Aw (@tE _ _ _ _ _ _ _ (Aa K) (pv 0) sA (λ_ _=>rfl)) sA) (@tf _ _ _ _ _ _ _ _ vc (pv 2) sA)) sA) sA) (@vb _ _ _ _ _ _ _ (pv 0) sA tM (λ_=>rfl)) (by rfl) (by rfl) (by rfl))))))) pss_nil)
  (vp (@wH _ _ _ _ _ _ _ _ (@uo _ _ _ _ _ _ _ _ GO (@tE _ _ _ _ _ _ _ (Aa K) (pv 0) sA (λ_ _=>rfl)) sA (ur _)) (tO (@vL _ _ 3 _ _ _ _ nd rfl (by first|exact Or.inl rfl|exact Or.inr rfl) (@tf _ _ _ _ _ _ _ _ vc (@tE _ _ _ _ _ _ _ (Aa K) (pv 0) sA (λ_ _=>rfl)) (pv 1)) (by rfl) (by first|exact .inl rfl|exact .inr rfl|assumption))
  (tO (@uH _ _ _ _ _ _ (@tf _ _ _ _ _ _ _ _ (@yU _ _ hr) (@tE _ _ _ _ _ _ _ (Aa K) (pv 0) sA (λ_ _=>rfl)) (pv 1)) (@vb _ _ _ _ _ _ _ (pv 0) sA tM (λ_=>rfl)) (by rfl) (by rfl) (by rfl))
  (tF (@uG _ _ _ _ (pv 3))))) pss_nil)
  (tO (@uH _ _ _ _ _ _ (@tf _ _ _ _ _ _ _ _ uq (@tE _ _ _ _ _ _ _ (Aa K) (pv 0) sA (λ_ _=>rfl)) sA) (@vb _ _ _ _ _ _ _ (pv 0) sA tM (λ_=>rfl)) (by rfl) (by rfl) (by rfl))
  (tO (@uH _ _ _ _ _ _ (@tf _ _ _ _ _ _ _ _ vc (@tf _ _ _ _ _ _ _ _ uq (@tf _ _ _ _ _ _ _ _ uq (@tf _ _ _ _ _ _ _ _ Aw (@tE _ _ _ _ _ _ _ (Aa K) (pv 0) sA (λ_ _=>rfl)) sA) sA) (@tE _ _ _ _ _ _ _ (Aa K) (pv 0) sA (λ_ _=>rfl))) sA) (@vb _ _ _ _ _ _ _ (pv 0) sA tM (λ_=>rfl)) (by rfl) (by rfl) (by rfl))
  (tF (@uG _ _ _ _ (@tf _ _ _ _ _ _ _ _ vc (@tf _ _ _ _ _ _ _ _ Bo (@tf _ _ _ _ _ _ _ _ vc (@tf _ _ _ _ _ _ _ _ Aw (@tf _ _ _ _ _ _ _ _ uq (@tf _ _ _ _ _ _ _ _ vc (@tE _ _ _ _ _ _ _ (Aa K) (pv 0) sA (λ_ _=>rfl)) sA) sA) (@tf _ _ _ _ _ _ _ _ uq (@tf _ _ _ _ _ _ _ _ Bo (@tE _ _ _ _ _ _ _ (Aa K) (pv 0) sA (λ_ _=>rfl)) sA) sA)) sA) sA) (pv 1)))))))),?_⟩
 obtain⟨l,ns,i,c,a,b,h1,h2,h63,i0,i1,c0,a0,a1⟩:=hF;have hf:=SqL.of (K:=K) h1;refine⟨λσ' H'=>(∃ o1 o2,σ'=[some (.ref f),some (.int m),o1,o2])/\Flow H' f/\Sm f H H',?_,?_⟩
 ·refine⟨_,rfl,f,_,2,_,rfl,rfl,hf,rfl,rfl,_,rfl,?_⟩;refine F3 (λcz=>?_) (λcz=>?_)
  ·refine⟨_,rfl,f,_,1,_,rfl,rfl,hf,rfl,_,rfl,f,_,0,_,rfl,rfl,hf,rfl,l,_,rfl,.inl (SqL.of h2),_,_,rfl,rfl,_,rfl,?_⟩;refine F3 (λcl=>?_) (λcl=>?_)
   ·have cl':i<(((ns.map V.int).length:Nat):Int):=of_decide_eq_true cl;rw[aa] at cl';obtain⟨z,hz⟩:=Go i0 cl';obtain⟨g1,g2,g3⟩:=vR (i':=i+1) (c':=c) (a':=a) (b':=b) h1 h2;have gf:=SqL.of (K:=K) g1;refine⟨_,rfl,f,_,0,_,rfl,rfl,hf,rfl,_,rfl,f,_,1,_,rfl,rfl,hf,rfl,l,_,i,_,rfl,rfl,SqL.of h2,hz,?_⟩;refine⟨_,rfl,f,_,1,_,rfl,rfl,hf,rfl,_,_,rfl,rfl,_,rfl,f,_,1,1,rfl,rfl,h1,rfl,?_⟩;refine⟨_,rfl,_,_,rfl,rfl,⟨by decide,by decide,by decide⟩,_,_,rfl,rfl,_,rfl,?_⟩;refine F3 (λcg=>?_) (λcg=>?_)
    ·have cg':(10:Int)^(18:Int).toNat<=z:=of_decide_eq_true cg;have cg2:(0:Int)<=z:=Int.le_trans (by decide) cg';obtain⟨k1,k2,k3⟩:=vR (i':=i+1) (c':=z) (a':=a) (b':=b) g1 g2;refine⟨_,rfl,_,rfl,f,_,2,2,rfl,rfl,g1,rfl,?_⟩;exact⟨⟨_,_,rfl⟩,⟨l,ns,i+1,z,a,b,k1,k2,h63,(),(),cg2,a0,a1⟩,g3.trans k3⟩
    ·obtain⟨k1,k2,k3⟩:=vR (i':=i+1) (c':=c) (a':=(a*40013+z%1000003+1)%2147483647) (b':=b) g1 g2;refine⟨_,rfl,f,_,3,_,rfl,rfl,gf,rfl,_,_,rfl,rfl,.inr ⟨by decide,by decide⟩,_,rfl,_,_,rfl,rfl,(by show (0:Int)<_;decide),_,_,rfl,rfl,_,_,rfl,rfl,_,_,rfl,rfl,(by show (0:Int)<_;decide),_,rfl,f,_,3,3,rfl,rfl,g1,rfl,?_⟩;exact⟨⟨_,_,rfl⟩,⟨l,ns,i+1,c,_,b,k1,k2,h63,(),(),c0,eX _ (by decide),dM _ (by decide)⟩,g3.trans k3⟩
   ·exact⟨⟨_,_,rfl⟩,⟨l,ns,i,c,a,b,h1,h2,h63,i0,i1,c0,a0,a1⟩,Sm.refl H⟩
  ·exact IO ⟨⟨_,_,rfl⟩,⟨l,ns,i,c,a,b,h1,h2,h63,i0,i1,c0,a0,a1⟩,Sm.refl H⟩
 ·rintro _ H1 ⟨⟨o1,o2,rfl⟩,hF1,sm1⟩;clear hf h1 h2 i0 i1 c0 a0 a1 h63;obtain⟨l,ns,i,c,a,b,h1,h2,h63,i0,i1,c0,a0,a1⟩:=hF1;have hf:=SqL.of (K:=K) h1;refine⟨λσ' H'=>σ'=[some (.ref f),some (.int m),o1,o2]/\H'=H1,?_,?_⟩
  ·refine⟨_,rfl,f,_,2,_,rfl,rfl,hf,rfl,_,_,rfl,rfl,_,rfl,?_⟩;refine F3 (λcz=>?_) (λcz=>?_)
   ·obtain⟨k1,k2,k3⟩:=vR (i':=i) (c':=c.fdiv m) (a':=a) (b':=b) h1 h2;refine⟨_,rfl,f,_,2,_,rfl,rfl,hf,rfl,_,rfl,_,_,rfl,rfl,hm0,?_⟩;have fe:c.fdiv m=c / m:=cQ _ (by lia:(0:Int)<=m);refine⟨_,rfl,f,_,2,_,rfl,rfl,hf,rfl,_,rfl,_,_,rfl,rfl,⟨(),9000,hm1,by decide⟩,_,rfl,f,_,2,2,rfl,rfl,h1,rfl,?_⟩;refine⟨_,rfl,q _ _ (eX _ ()) (dM _ hm0) ⟨l,ns,i,c.fdiv m,a,b,k1,k2,h63,i0,i1,by rw[fe];exact Int.ediv_nonneg c0 (),a0,a1⟩ (sm1.trans k3)⟩
   ·exact⟨rfl,rfl⟩
  ·rintro _ _ ⟨rfl,rfl⟩;obtain⟨g1,g2,g3⟩:=vR (i':=i) (c':=c) (a':=a) (b':=b+1) h1 h2;have gf:=SqL.of (K:=K) g1;refine⟨_,rfl,f,_,4,_,rfl,rfl,hf,rfl,_,_,rfl,rfl,_,rfl,f,_,4,4,rfl,rfl,h1,rfl,?_⟩;obtain⟨k1,k2,k3⟩:=vR (i':=i) (c':=c) (a':=(a*48271+12820163+(b+1))%2147483647) (b':=b+1) g1 g2;have kf:=SqL.of (K:=K) k1;refine⟨_,rfl,f,_,3,_,rfl,rfl,gf,rfl,_,_,rfl,rfl,.inr ⟨by decide,by decide⟩,_,_,rfl,rfl,_,rfl,f,_,4,_,rfl,rfl,gf,rfl,_,_,rfl,rfl,_,_,rfl,rfl,(by show (0:Int)<_;decide),_,rfl,f,_,3,3,rfl,rfl,g1,rfl,?_⟩;have n0:=eX (a*48271+12820163+(b+1)) (show (2147483647:Int)≠0 by decide);have n1:=dM (a*48271+12820163+(b+1)) (show (0:Int)<2147483647 by decide);refine⟨_,rfl,f,_,3,_,rfl,rfl,kf,rfl,_,_,rfl,rfl,(by show (0:Int)<_;decide),_,_,rfl,rfl,_,rfl,f,_,3,_,rfl,rfl,kf,rfl,_,_,rfl,rfl,⟨by decide,by decide⟩,_,_,rfl,rfl,_,_,rfl,rfl,.inl ⟨(),()⟩,_,_,rfl,rfl,(by show (0:Int)<_;decide),_,_,rfl,rfl,⟨by decide,by decide⟩,_,rfl,_,_,rfl,rfl,hm0,?_⟩;exact q _ _ (eX _ ()) (dM _ hm0) ⟨l,ns,i,c,_,b+1,k1,k2,h63,i0,i1,c0,n0,n1⟩ ((sm1.trans g3).trans k3)
def uk(K:Frag)(n:Nat):Sp:=λvs H Q _=>∃(d:DV) (x y:V),vs=[x,y]/\Rep K H d x/\Rep K H d y/\d.dp<n/\d.wd<=100000/\∀ H',Same H H'->Q (.bl true) H'
theorem mE:FnScope ["_law_found", "_law_due", "_law_k"] ["_law_found", "_law_due"] (sv t5):=⟨rfl,rfl,rfl,by decide +kernel,rfl,by decide +kernel,by decide +kernel⟩
theorem AZ(F:Fun K "_law_alike" "_law_alike" t5 f0 fd)(B:Bl mg)(g_law_alike:Def P w K mg base "_law_alike" n ["_law_found", "_law_due"] (uk K n)):FnOk P w K mg base Ab (n+1) f0 fd ["_law_found", "_law_due"] (uk K (n+1)):=by
 refine F.ok mE (λvs H Q E h=>?_) (λcdv A outer s H vs Q E hr h=>?_)
 ·obtain⟨d,x,y,rfl,_⟩:=h;rfl
 obtain⟨d,x,y,rfl,hx,hy,hd,hw,q⟩:=h;have nd:=mE.nd;refine⟨_,(vp (@wH _ _ _ _ _ _ _ _ (Nk K (@sT _ _ _ _ _ _ _ _ _ (Mf K) rfl B.isinstance sX (@sy _ _ _ _ _ (pv 1) (@sy _ _ _ _ _ (@DC _ _ _ _ _ (@sy _ _ _ _ _ (@t6 _ _ (.ty "list") _ _ rfl B.list uX rfl (by decide) (by decide)) (@sy _ _ _ _ _ (@t6 _ _ (.ty "tuple") _ _ rfl B.tuple vC rfl (by decide) (by decide)) pa_nil (by rfl)) (by rfl))) pa_nil (by rfl)) (by rfl)) (by decide) (by decide) (by rfl) (by rfl)) (λ_=>rfl)) (vp (@wH _ _ _ _ _ _ _ _ (@uo _ _ _ _ _ _ _ _ DS (@sT _ _ _ _ _ _ _ _ _ (JA K) rfl B.isinstance sX (@sy _ _ _ _ _ (pv 0) (@sy _ _ _ _ _ (@t6 _ _ (.ty "list") _ _ rfl B.list uX rfl (by decide) (by decide)) pa_nil (by rfl)) (by rfl)) (by decide) (by decide) (by rfl) (by rfl)) (@sT _ _ _ _ _ _ _ _ _ (JA K) rfl B.isinstance sX (@sy _ _ _ _ _ (pv 1) (@sy _ _ _ _ _ (@t6 _ _ (.ty "list") _ _ rfl B.list uX rfl (by decide) (by decide)) pa_nil (by rfl)) (by rfl)) (by decide) (by decide) (by rfl) (by rfl)) (ur _)) (tF (@uG _ _ _ _ DH)) pss_nil)
  (vp (@wH _ _ _ _ _ _ _ _ (@uo _ _ _ _ _ _ _ _ DS (@sT _ _ _ _ _ _ _ _ _ (JA K) rfl B.isinstance sX (@sy _ _ _ _ _ (pv 0) (@sy _ _ _ _ _ (@t6 _ _ (.ty "tuple") _ _ rfl B.tuple vC rfl (by decide) (by decide)) pa_nil (by rfl)) (by rfl)) (by decide) (by decide) (by rfl) (by rfl)) (@sT _ _ _ _ _ _ _ _ _ (JA K) rfl B.isinstance sX (@sy _ _ _ _ _ (pv 1) (@sy _ _ _ _ _ (@t6 _ _ (.ty "tuple") _ _ rfl B.tuple vC rfl (by decide) (by decide)) pa_nil (by rfl)) (by rfl)) (by decide) (by decide) (by rfl) (by rfl)) (ur _)) (tF (@uG _ _ _ _ DH)) pss_nil)
  (tF (@uG _ _ _ _ (Av (@wc _ _ _ _ _ _ _ _ yV (@sT _ _ _ _ _ _ _ _ _ (Cr K) rfl B.len vV (@sy _ _ _ _ _ (pv 0) pa_nil (by rfl)) (by decide) (by decide) (by rfl) (by rfl)) (@sT _ _ _ _ _ _ _ _ _ (Cr K) rfl B.len vV (@sy _ _ _ _ _ (pv 1) pa_nil (by rfl)) (by decide) (by decide) (by rfl) (by rfl)) (ur _)) (@As _ _ _ _ _ (@sT _ _ _ _ _ _ _ _ _ (K0 K) rfl B.all ET (@sy _ _ _ _ _ (@Bi _ _ _ _ _ _ _ _ _ _ _ _ rfl (show CompS ["_law_found", "_law_due", "_law_k"] (sv t5) _ [2] from by exact⟨rfl,by decide +kernel,by decide +kernel,by decide +kernel,by decide +kernel⟩) (xC rfl B.range (@sy _ _ _ _ _ (@sT _ _ _ _ _ _ _ _ _ (Cr K) rfl B.len vV (@sy _ _ _ _ _ (pv 1) pa_nil (by rfl)) (by decide) (by decide) (by rfl) (by rfl)) pa_nil (by rfl))) (λ_ _ _ _ _=>(@yj _ _ 2 _ nd rfl (by first|exact Or.inl rfl|exact Or.inr rfl) (by first|exact .inl rfl|exact .inr rfl|assumption))) (λ_ _ _ _ _=>pts_nil) (λ_ _ _ _ _=>(@Au _ _ _ _ _ _ _ _ _ _ _ g_law_alike hr (@sy _ _ _ _ _ (@tE _ _ _ _ _ _ _ (MJ K) (pv 0) (pv 2) (λ_ _=>rfl)) (@sy _ _ _ _ _ (@tE _ _ _ _ _ _ _ (MJ K) (pv 1) (pv 2) (λ_ _=>rfl)) pa_nil (by rfl)) (by rfl)) (by first|decide|lia|exact af _) (by rfl) (by decide) (by rfl) (by rfl))) (by intro _;rfl)) pa_nil (by rfl)) (by decide) (by decide) (by rfl) (by rfl)))))))) pss_nil)
  (tF (@uG _ _ _ _ (Av (@wc _ _ _ _ _ _ _ _ yV (@sT _ _ _ _ _ _ _ _ _ (JA K) rfl B.isinstance sX (@sy _ _ _ _ _ (pv 0) (@sy _ _ _ _ _ (@t6 _ _ (.ty "bool") _ _ rfl B.bool BS rfl (by decide) (by decide)) pa_nil (by rfl)) (by rfl)) (by decide) (by decide) (by rfl) (by rfl)) (@sT _ _ _ _ _ _ _ _ _ (JA K) rfl B.isinstance sX (@sy _ _ _ _ _ (pv 1) (@sy _ _ _ _ _ (@t6 _ _ (.ty "bool") _ _ rfl B.bool BS rfl (by decide) (by decide)) pa_nil (by rfl)) (by rfl)) (by decide) (by decide) (by rfl) (by rfl)) (ur _)) (@As _ _ _ _ _ (@wc _ _ _ _ _ _ _ _ yV (pv 0) (pv 1) (ur _))))))),?_⟩
 rcases B4 hx hy with⟨rfl,t,bb,ty,hs,k1,k2,sc⟩|⟨tt,a,a',xs,ys,ds,rfl,rfl,q1,q2,r1,r2,e1,e2,e3⟩
 ·refine⟨λσ H'=>σ=[some x,some x,none]/\Same H H',?_,?_⟩
  ·refine⟨_,rfl,(by show 2<=sizeLine;decide),λp hp=>?_⟩;refine⟨x,p,t,false,["list", "tuple"],rfl,ty _,hs,sD,k1,_,rfl,?_⟩;exact IO ⟨rfl,Same.new hp _⟩
  ·rintro _ H1 ⟨rfl,s1⟩;refine⟨_,rfl,_,_,_,_,rfl,ty _,k2,_,rfl,_,_,_,_,rfl,ty _,k2,rfl,_,rfl,?_⟩;rw[decide_eq_true rfl];refine IN ?_;refine⟨_,rfl,_,rfl,sc,?_⟩;rw[decide_eq_true rfl];exact q H1 s1
 ·have l1:=r1.length;have l2:=r2.length;obtain⟨k0,⟨b1,k1⟩,⟨b2,k2⟩⟩:=q1.kit;refine⟨λσ H'=>False,?_,λ_ _ z=>z.elim⟩;refine⟨_,rfl,(by show 2<=sizeLine;decide),λp hp=>?_⟩;have s1:=Same.new hp (.tup [.ty "list",.ty "tuple"]);refine⟨_,p,.type tt,true,["list", "tuple"],rfl,(q2.same s1).ty,nofun,sD,k0,_,rfl,?_⟩;refine IN ?_;have e1':=q1.same s1;have e2':=q2.same s1;refine⟨λσ H'=>σ=[some (.ref a),some (.ref a'),none]/\H'=tv H p (.tup [.ty "list",.ty "tuple"]),?_,?_⟩
  ·refine⟨_,rfl,_,_,_,_,rfl,e1'.ty,k1,_,rfl,_,_,_,_,rfl,e2'.ty,k1,rfl,_,rfl,?_⟩;exact GT rfl ⟨rfl,rfl⟩
  ·rintro _ _ ⟨rfl,rfl⟩;refine⟨λσ H'=>σ=[some (.ref a),some (.ref a'),none]/\H'=tv H p (.tup [.ty "list",.ty "tuple"]),?_,?_⟩
   ·refine⟨_,rfl,_,_,_,_,rfl,e1'.ty,k2,_,rfl,_,_,_,_,rfl,e2'.ty,k2,rfl,_,rfl,?_⟩;exact GT rfl ⟨rfl,rfl⟩
   ·rintro _ _ ⟨rfl,rfl⟩;refine⟨_,rfl,a,xs,rfl,e1'.len,_,rfl,a',ys,rfl,e2'.len,rfl,_,rfl,?_⟩;rw[decide_eq_true (show V.int (xs.length:Int)=V.int (ys.length:Int) by rw[← l1,← l2])];refine IN ?_;refine⟨_,rfl,a',ys,rfl,e2'.len,_,rfl,(),(),?_⟩;rw[aJ];refine AU (n:=ys.length) (by rw[sizeLine_eq];lia) (λi τ zs H'=>(∃ o,τ=[some (.ref a),some (.ref a'),o])/\Same H H'/\zs=(List.replicate i true).map V.bl) ⟨⟨none,rfl⟩,s1,rfl⟩ ?_ ?_
    ·rintro i _ _ H1 hi hl ⟨⟨o,rfl⟩,s2,rfl⟩;obtain⟨v1,hv1⟩:∃ v,xs[i]? = some v:=⟨xs[i]'(),aq _⟩;obtain⟨v2,hv2⟩:∃ v,ys[i]? = some v:=⟨ys[i]'hi,aq _⟩;obtain⟨d1,hd1,rp1⟩:=(r1.same s2).get hv1;obtain⟨d2,hd2,rp2⟩:=(r2.same s2).get hv2;rw[hd1] at hd2;cases hd2;have wm:=A6 (aL hd1);have ei:(0:Int)+(i:Int)=(i:Int):=bO _;refine⟨_,rfl,_,rfl,(q1.same s2).ix (by rw[ei];exact ua hv1) ?_⟩;refine⟨_,rfl,_,rfl,(q2.same s2).ix (by rw[ei];exact ua hv2) ?_⟩;refine⟨d1,v1,v2,rfl,rp1,rp2,(),(),λH2 s3=>?_⟩;refine Np hi hl ⟨⟨_,rfl⟩,s2.trans s3,?_⟩;rw[List.replicate_succ',aM];rfl
    ·rintro _ _ H1 D hl ⟨⟨o,rfl⟩,s2,rfl⟩ hD;refine⟨D,_,rfl,SqL.of sD,?_⟩;have:(List.replicate ys.length true).all id=true:=by simp
     rw[this];exact q _ (s2.trans (Same.new hD _))
theorem A1:FnOk P w K mg base Ab 0 f0 fd ["_law_found", "_law_due"] (uk K 0):=by
 have no:∀ vs H Q E,¬ uk K 0 vs H Q E:=λvs H Q E h=>by
  obtain⟨d,x,y,_,_,_,h1,_⟩:=h;lia
 exact⟨λvs H Q E h=>absurd h (no vs H Q E),λA outer s H args us vs Q E _ _ _ _ h=>absurd h (no vs H Q E)⟩
theorem vq{f0:Addr}{fd:FuncData}(F:Fun K "_law_alike" "_law_alike" t5 f0 fd)(B:Bl mg)(m:mg "_law_alike" = some (.ref f0))(b:Binds K fd ["_law_found", "_law_due"] []):∀ n,FnOk P w K mg base Ab n f0 fd ["_law_found", "_law_due"] (uk K n)
 | 0=>A1
 | n+1=>AZ F B (.of F m b (vq F B m b n))
theorem rZ:FnScope ["_law_script", "_law_flow_here", "_law_chain", "_law_other"] ["_law_script"] (sv JZ):=Ds.sc (by kernel_rfl) rfl rfl rfl
end
def MF:List (Str×Nat):=("common_part",1)::("fraction",2)::("divided",3)::("one_form",5)::("over_one_bottom",6)::("poly",7)::("fraction_at",8)::("degree",9)::("lead",10)::("tops_together",11)::("tops_multiplied",12)::("whole_power",14)::("in_steps",16)::("root_tops",17)::("candidate",18)::("whole_steps",19)::("parted",20)::("digits",21)::("apart",23)::("put",25)::("exchanged",27)::("_law_flow",29)::("_law_pick",30)::("_law_alike",31)::("_law_common",32)::("_law_fraction",33)::("_law_product",34)::("_law_poly",35)::("_law_sum",36)::("_law_times",37)::("_law_of",38)::("_law_straight",39)::("_law_turned_back",40)::("_law_number",41)::("_law_any_fraction",42)::("_law_any_poly",43)::("_law_any_straight",44)::("_law_turning",45)::("_law_at",46)::("_law_high",47)::("_law_candidate",48)::("_law_digits",49)::("_law_apart",50)::("_law_neat",51)::("_law_pair",52)::("_law_even_pair",53)::("_law_drawn_chain",54)::("_law_fits",55)::("_law_by_rests",56)::("_law_right",57)::("law",58)::[]
theorem Js{l:PySem.W.OpenLaw}{w:World}{K:Frag}{h:Heap}{mg:Str->Option Value}{fa:Addr}(X:K.In h)(G:h.Ns mainGlobals mg)(hfa:mg "law" = some (.ref fa))(S:Ds.SlS top K MF)(Z:Ds.ZsO K Ds.MS)
  : ∃ fd:FuncData,(∀(s:Shared) (v:Value),BindsTo s fd ⟨[v],[]⟩ [("_law_script",v)])/\∀ base:Heap,K.In base->base.Ns mainGlobals mg->FnOk l.prog w K mg base Ab 9 fa fd ["_law_script"] (Dp.Bb K):=by
 have B:Bl mg:=Ds.KW X G Z;have W:Ds.Mg K mg:=λ_ _ a=>PySem.W.mg_of X G a;obtain⟨f,a,fd,F⟩:=S.g (x := "law") 50 rfl;cases hfa.symm.trans (W _ _ a);refine⟨fd,?_,λbase _ _=>?_⟩
 ·obtain⟨oc,od,kV,doc,pm,an,cdv,ct,osl,rfl,lk,hcd⟩:=F.ex;exact λs v=>.of_eq rfl
 have E:Ds.EvO l.prog w K mg base top MF []:=⟨S,W,B,Ds.Ny⟩;have gf:Def l.prog w K mg base "_law_flow" 1 ["_law_script"] (wx K):=by
  obtain⟨f,a,fd,F⟩:=S.g (x := "_law_flow") 21 rfl;exact .of F (W _ _ a) (F.binds (Ds.b1 λ_ _ _ _ _ _ _=>rfl)) (FP F B)
 have gp:Def l.prog w K mg base "_law_pick" 1 ["_law_flow_here", "_law_many"] (Dp.yM K Dp.iq.n Dp.iq.run):=by
  obtain⟨f,a,fd,F⟩:=S.g (x := "_law_pick") 22 rfl;exact Dp.Cb (.of F (W _ _ a) (F.binds (Ds.b2 λ_ _ _ _ _ _ _ _=>rfl)) (FO F B))
 have G0:=Ds.Mi gp Ds.Nw;have ga:Def l.prog w K mg base "_law_alike" 4 ["_law_found", "_law_due"] (Dp.yM K (Dp.i7 4).n (Dp.i7 4).run):=by
  obtain⟨f,a,fd,F⟩:=S.g (x := "_law_alike") 23 rfl;exact Dp.A2 (.of F (W _ _ a) (F.binds (Ds.b2 λ_ _ _ _ _ _ _ _=>rfl)) (vq F B (W _ _ a) (F.binds (Ds.b2 λ_ _ _ _ _ _ _ _=>rfl)) 4))
 have Ga:=Ds.Mi ga G0;have G0:=Ds.uj E 0 0 rfl Ds.o0 Ga Dp.mH (Ds.h2 rfl);have G7:=Ds.uj E 7 0 rfl Ds.o0 G0 Dp.qh (Ds.h1 rfl);have G9:=Ds.uj E 9 0 rfl ([(47,[4])],[44],[4]) G7 Dp.kZ (Ds.h2 rfl);have G10:=Ds.uj E 10 0 rfl ([(55,[2])],[51],[2]) G9 Dp.kb (Ds.h2 rfl);have G11:=Ds.uj E 11 0 rfl Ds.o0 G10 Dp.mK (Ds.h2 rfl);have G13:=Ds.GS E 13 0 rfl ([(71,[3])],[67],[3]) G11 Dp.mQ ["falling", "k", "s", "made", "j", "parts", "i"] (Ds.h3 rfl);have G16:=Ds.uj E 16 0 rfl ([(94,[2,4])],[87,88],[2,4]) G13 Dp.oH (Ds.h2 rfl);have G24:=Ds.uj E 24 0 rfl Ds.o0 G16 Dp.mZ (Ds.h2 rfl);have G47:=Ds.GS E 47 0 rfl Ds.o0 G24 Dp.oC ["_law_some", "_law_p", "_law_top"] (Ds.h1 rfl);have G1:=Ds.uj E 1 1 rfl Ds.o0 G47 Dp.oz (Ds.h2 rfl);have G3:=Ds.uj E 3 1 rfl Ds.o0 G1 Dp.ox (Ds.h2 rfl);have G4:=Ds.uj E 4 1 rfl Ds.o0 G3 Dp.jU (Ds.h1 rfl);have G12:=Ds.GS E 12 1 rfl Ds.o0 G4 Dp.oy ["tops", "c", "n", "i", "top"] (Ds.h2 rfl);have G15:=Ds.uj E 15 1 rfl Ds.o0 G12 Dp.k9 (Ds.h1 rfl);have G25:=Ds.uj E 25 1 rfl Ds.o0 G15 Dp.lJ (Ds.h2 rfl);have G27:=Ds.uj E 27 1 rfl ([(173,[0]),(177,[0]),(179,[0])],[173],[0]) G25 Dp.on (Ds.h2 rfl);have G33:=Ds.uj E 33 1 rfl Ds.o0 G27 Dp.m7 (Ds.h2 rfl);have G2:=Ds.uj E 2 2 rfl Ds.o0 G33 Dp.pE (Ds.h2 rfl);have G5:=Ds.uj E 5 2 rfl Ds.o0 G2 Dp.qj (Ds.h1 rfl);have G6:=Ds.uj E 6 2 rfl Ds.o0 G5 Dp.mL (Ds.h2 rfl);have G14:=Ds.GS E 14 2 rfl Ds.o0 G6 Dp.mR ["f", "s", "n", "k", "c", "falling", "made", "rising", "m"] (Ds.h2 rfl);have G19:=Ds.uj E 19 2 rfl Ds.o0 G14 Dp.rq (Ds.h2 rfl);have G26:=Ds.uj E 26 2 rfl Ds.o0 G19 Dp.mM (Ds.h2 rfl);have G28:=Ds.uj E 28 2 rfl ([(187,[3])],[182],[3]) G26 Dp.oY (Ds.h2 rfl);have G29:=Ds.uj E 29 2 rfl ([(193,[2])],[189],[2]) G28 Dp.nV (Ds.h2 rfl);have G31:=Ds.uj E 31 2 rfl Ds.o0 G29 Dp.l6 (Ds.h2 rfl);have G32:=Ds.uj E 32 2 rfl Ds.o0 G31 Dp.kc (Ds.h1 rfl);have G34:=Ds.uj E 34 2 rfl Ds.o0 G32 Dp.jZ (Ds.h2 rfl);have G35:=Ds.GS E 35 2 rfl Ds.o0 G34 Dp.l5 ["_law_flow_here", "_law_many", "_law_most", "_law_tops", "_law_k", "_law_first"] (Ds.h3 rfl);have G38:=Ds.uj E 38 2 rfl Ds.o0 G35 Dp.oE (Ds.h2 rfl);have G8:=Ds.uj E 8 3 rfl Ds.o0 G38 Dp.qY (Ds.h1 rfl);have G30:=Ds.uj E 30 3 rfl Ds.o0 G8 Dp.qd (Ds.h2 rfl);have G36:=Ds.uj E 36 3 rfl Ds.o0 G30 Dp.j2 (Ds.h2 rfl);have G37:=Ds.uj E 37 3 rfl ([],[217],[2]) G36 Dp.k4 (Ds.h2 rfl);have G39:=Ds.uj E 39 3 rfl Ds.o0 G37 Dp.oF (Ds.h2 rfl);have G41:=Ds.uj E 41 3 rfl ([(251,[2])],[242],[2]) G39 Dp.mt (Ds.h2 rfl);have G17:=Ds.GS E 17 4 rfl ([(108,[11])],[103],[11]) G41 Dp.oK ["f", "h", "n", "s", "c", "by", "left", "i", "top", "over", "under", "told", "digit", "tops", "m"] (Ds.h2 rfl);have G40:=Ds.uj E 40 4 rfl Ds.o0 G17 Dp.ke (Ds.h2 rfl);have G43:=Ds.uj E 43 4 rfl ([(270,[1])],[262,263],[1,2]) G40 Dp.nA (Ds.h1 rfl);have G44:=Ds.uj E 44 4 rfl Ds.o0 G43 Dp.nE (Ds.h2 rfl);have G45:=Ds.uj E 45 4 rfl Ds.o0 G44 Dp.k8 (Ds.h2 rfl);have G18:=Ds.uj E 18 5 rfl Ds.o0 G45 Dp.pW (Ds.h2 rfl);have G42:=Ds.uj E 42 5 rfl Ds.o0 G18 Dp.mP (Ds.h2 rfl);have G46:=Ds.GS E 46 5 rfl ([(311,[4]),(324,[11]),(327,[4])],[317,324],[4,11]) G42 Dp.ko ["_law_flow_here", "_law_most", "_law_way", "_law_some", "_law_chain", "_law_n", "_law_a", "_law_b", "_law_form", "_law_layers", "_law_turn", "_law_found", "_law_high_here", "_law_j"] (Ds.h2 rfl);have G20:=Ds.uj E 20 6 rfl Ds.o0 G46 Dp.mS (Ds.h2 rfl);have G48:=Ds.uj E 48 6 rfl Ds.o0 G20 Dp.kP (Ds.h2 rfl);have G49:=Ds.uj E 49 7 rfl Ds.o0 G48 Dp.mT (Ds.h1 rfl);exact Ds.IA (n:=40) (k:=8) (gc:=[]) (fz:=[]) (own:=[]) (mu:=[]) F B rZ gf G49 E.c rfl (by decide) (by first|exact Or.inl rfl|exact Or.inr rfl) (by first|exact Or.inl rfl|exact Or.inr rfl) rfl (by kernel_rfl) Dp.BZ
theorem walk{l:PySem.W.OpenLaw}{q:Program}{loose:List Str}{YP:World->Heap->Prop}{d:DefRec}{K:Params->Frag}(hn:l.most=some 63)(hdf:d.params.defaults=[])
  (hY:∀(w:World) (h:Heap),YP w h->(K w.params).In h)
  (F:∀(w:World) (mg:Str->Option Value) (fa:Addr) (h:Heap),(K w.params).In h->h.Ns mainGlobals mg->mg d.name=some (.ref fa) ->
   ∃ fd:FuncData,(∀(s:Shared) (u:Value),BindsTo s fd ⟨[u],[]⟩ [("_law_script",u)])/\∀ base:Heap,(K w.params).In base->base.Ns mainGlobals mg->FnOk l.prog w (K w.params) mg base Ab 9 fa fd ["_law_script"] (Dp.Bb (K w.params))) (hi:PyProof.Rows.importsNone q=true) (ht:l.prog.given.tree=none) :
  PySem.W.WalkO q loose XP YP l.row.toRowW d [] (λf vs=>PySem.call f vs) :=
 L2.E9 (n:=63) (k:=9) (x := "_law_script") (CX:=λ_=>Ab) (sp:=λw=>Dp.Bb (K w.params)) hn (by decide) hdf ⟨rfl,by decide,by decide⟩ hY F (λ_ _ a ns hl _ hS=>⟨a,ns,rfl,hS,hl,λ_=>rfl⟩) (λ_ _ _ _ _ z=>z) hi ht
end My
namespace PySem.W.Fast
def tw17969591076383742474:=0
def tw17515255375850912581:=0
def tw10806159897818652577:=0
def tw6926477953225583955:=0
def tw795551197415699843:=0
def tw7121949182864167376:=0
def tw5656588054067785793:=0
def tw865157294634627581:=0
def tw297950817356346868:=0
def tw1062630692280365662:=0
def tw8516012938971304140:=0
def tw1909616276671993851:=0
def tw6898299021198852489:=0
def tw3911463592911680971:=0
def tw6286702646348710104:=0
def tw7499617783617258316:=0
def tw5062346109266961543:=0
def tw16302489197793668888:=0
def tw6746785474755329133:=0
def tw13370886590920884742:=0
def tw8905630093714445060:=0
def tw8798302278777093515:=0
def tw10602796922145166257:=0
def tw13021101208951642012:=0
def tw16635900925264315316:=0
def tw14527592236719259592:=0
def tw18158360065667596584:=0
def tw10105491225430239487:=0
def tw7750959776503704118:=0
def tw4603794446133300760:=0
def tw17957868995442103587:=0
def tw1243257011284951507:=0
def tw3843679587084745721:=0
def tw15737897421906089027:=0
def tw11012528777005249731:=0
def tw9426805986359519736:=0
def tw422142849971520946:=0
def tw12975795886230489317:=0
def tw14729922300926632236:=0
def tw11201790185909329515:=0
def tw14279831015178887928:=0
def tw11538653473589251276:=0
def tw5013258563794161274:=0
def tw10820800862541751085:=0
def tw4400176831477976441:=0
def tw1312491221527144833:=0
def tw17965103689587197863:=0
def tw8253093092915940909:=0
def tw16357432479866278248:=0
def tw16460954965485533835:=0
def tw7514009800581782493:=0
def tw5193286623372768608:=0
def tw16405712384934228932:=0
def tw10340090469123097684:=0
def tw4536200710752744701:=0
def tw12122992179787369786:=0
def tw9407520367436473400:=0
def tw9740961639796492001:=0
def tw18388717887824568733:=0
def tw3830545211207820433:=0
def tw2853730714248461520:=0
def tw17548440571789481273:=0
def tw8226583099598288175:=0
def tw17650191793236152381:=0
def tw7102094457747791683:=0
def tw13316054999158210582:=0
def tw17546151123094536740:=0
def tw2799028625818951593:=0
def tw12910678652705121165:=0
def tw18372676599195492341:=0
def tw12856021081036164893:=0
def tw3191766493949706204:=0
def tw6189736942666575208:=0
def tw1099240153599045536:=0
def tw14877927194364419152:=0
def tw11055256333478406644:=0
def tw12893888419352667080:=0
def tw7131533623658374555:=0
def tw7516373884898264578:=0
def tw15327457096739018732:=0
def tw2289876008621281799:=0
def tw18335937101572961065:=0
def tw1286731385951590717:=0
def tw1907030918265248902:=0
def tw5338313022388776753:=0
def tw9018908853132046682:=0
def tw6872436408103973975:=0
def tw4522567493500239881:=0
def tw9562675863532706958:=0
def tw16430243118036977500:=0
def tw6876982007041074831:=0
def tw4639707638265403512:=0
def tw8863469611798676328:=0
def tw3783956219530883926:=0
def tw18131212190708277735:=0
def tw301667456936828116:=0
def tw10801669291443751505:=0
def tw4745748572101342160:=0
def tw8335603732642104074:=0
def tw13829599295523958119:=0
def tw6988196146229439354:=0
def tw11198746544542943705:=0
def tw1643151153129703086:=0
def tw10898463050139499138:=0
def tw4202635058103263697:=0
def tw12529533539400852179:=0
def tw2189159239281255217:=0
def tw11568009550055983945:=0
def tw16770511218803998559:=0
def tw4828081201985562492:=0
def tw7703553002869871616:=0
def tw4143440479162541463:=0
def tw16024136757480253481:=0
def tw5797353480333148000:=0
def tw1355885194873642034:=0
def tw14228342643141208104:=0
def tw16316369776076027059:=0
def tw8375851694198989686:=0
def tw15033069120242667830:=0
def tw11805633455681844764:=0
def tw10167569420041266585:=0
def tw17235505613426647639:=0
def tw11010618673861123606:=0
def tw6447944655711621521:=0
def tw5960081596095516113:=0
def tw13795088815038062276:=0
def tw156123442336873240:=0
def tw11707026742828552026:=0
def tw4637166196646339305:=0
def tw4224739241503278991:=0
def tw5027976617575345314:=0
def tw6439414393883425963:=0
def tw3071147744867349535:=0
def tw10976510210442610647:=0
def tw12714562151567080756:=0
def tw13588772463211707760:=0
def tw15610282975200301244:=0
def tw9950395147069299803:=0
def tw3196179878998841790:=0
def tw17202846574224800972:=0
def tw15336666633537770098:=0
def tw8555008501108059755:=0
def tw11902878555462908131:=0
def tw5054594183333574597:=0
def tw9819438298927256040:=0
def tw16186818160494883863:=0
def tw3182706337622746196:=0
def tw10787090941462439677:=0
def tw12968233143703045939:=0
def tw11852949461402696699:=0
def tw13904623389339930385:=0
def tw11943627204861127784:=0
def tw9729326582799028497:=0
def tw1172363980355705240:=0
def tw2215656136632068657:=0
def tw10185215351300032119:=0
def tw5566001777460564215:=0
def tw7337028340285625135:=0
def tw3192829095444039841:=0
def tw920879017592175744:=0
def tw1925352798092010248:=0
def tw11142403301601658351:=0
def tw9235207366871907321:=0
def tw7493396076898591089:=0
def tw2333586503759040671:=0
def tw5429226422348569239:=0
def tw14741545183126831107:=0
def tw5502274909903203089:=0
def tw15038408326364465404:=0
def tw12013638669279954641:=0
def tw5490271667622506150:=0
def tw3029419106916313267:=0
def tw16902530370578403518:=0
def tw11607373990300779325:=0
def tw17769506398235260972:=0
def tw3746655625830728280:=0
def tw14323106534917485168:=0
def tw4908508952861841239:=0
def tw12901621753836501968:=0
def tw13016404770687222222:=0
def tw13860338182112423846:=0
def tw13947941263659780917:=0
def tw6302005627687163688:=0
def tw15490473623652871638:=0
def tw11775208717095185670:=0
def tw6225929844780210126:=0
def tw17898864638669485039:=0
def tw17320820613413013689:=0
def tw1666759678309262563:=0
def tw9061581154021353166:=0
def tw9718980639570225015:=0
def tw4970620868250839191:=0
def tw7180408153707389917:=0
def tw12454805289975071328:=0
def tw4684158267500468903:=0
def tw8685802836317456308:=0
def tw5669638512241250887:=0
def tw11886853979566033796:=0
def tw18067712532961625472:=0
def tw15510536257917740182:=0
def tw15417799811599145718:=0
def tw3924644320145760285:=0
def tw8139119231651585620:=0
def tw11762327351290786130:=0
def tw9052884726203220680:=0
def tw205780219093332840:=0
def tw7243657429527351174:=0
def tw2445067440901470620:=0
def tw663475216813943782:=0
def tw11004292374105219529:=0
def tw5637825842672481000:=0
def tw3270528145457477847:=0
def tw16234380770414628906:=0
end PySem.W.Fast
open PySem PySem.W PyProof.Rows
set_option maxRecDepth 100000 in
set_option maxHeartbeats 0 in
theorem PySem.Challenge.cw_nestwright_k43_neighbours_exchanged_holds : PySem.Challenge.rw_nestwright_k43_neighbours_exchanged.Holds := by
 w_on;o_law;k_head;(case hw=>w_witness2)
 k_fill
 refine My.walk (l:=PySem.Challenge.rw_nestwright_k43_neighbours_exchanged) rfl rfl (fun w h Y=>PySem.W.kIn_of Y) ?F ?hi rfl
 (case hi=>kernel_rfl)
 case F =>
  intro w mg fa h KX G hmg;refine' My.Js KX G hmg ?S ?Z;case S =>
   iterate 51
    refine' Ds.SlS.c ?_ ?_ ?_ ?_ ?_;any_goals k_is
   exact trivial
  case Z =>
   iterate 19
    refine' Ds.ZsO.c ?_ ?_
    k_is
   exact trivial
