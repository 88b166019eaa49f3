import PyProof.Rows.All
import Wide.All
import OpenK.AllK
import Wide.FinOn
import Lean
import PyProof.EqAt
import PyProof.EqKinds
import PyProof.TupleCall
import KE.KSortTup
import PyProof.Rows.Range3
import KE.KRevIter
import PyProof.ListRange
import PySem.Challenge.RW_nestwright_k39_papers_looked_at
open PySem.W (Frag)
open Array renaming length_toList → dM
open Bool renaming and_eq_true_iff → au, false_ne_true → ay, and_eq_true → bh, eq_iff_iff → bU, false_eq_true → cI, not_eq_true' → da, or_eq_true_iff → ff
open Int renaming ne_of_gt → ao, mul_pos → av, zero_mul → ax, eq_of_mul_eq_mul_right → aA, toNat_natCast → aJ, pow_zero → bc, mul_one → bo, natAbs_mul → br, mul_eq_zero → bt, mul_comm → bv, one_mul → bA, pow_succ → bC, mul_zero → bF, mul_assoc → bI, add_zero → bL, natAbs_natCast → bP, pow_ne_zero → bV, mul_ne_zero → ca, zero_add → ce, fmod_eq_emod_of_nonneg → cy, fdiv_eq_ediv_of_nonneg → cA, mul_fdiv_cancel_left → cF, zero_lt_one → cH, pow_pos → cP, emod_lt_of_pos → cX, mul_neg_of_pos_of_neg → cZ, pow_add → de, lt_trichotomy → df, eq_ofNat_of_zero_le → dq, emod_nonneg → dG, dvd_add → dJ, add_mul → dL, mul_fdiv_cancel → dO, fmod_nonneg_of_pos → eV, fmod_def → eX, natAbs_dvd_natAbs → eY, gcd_eq_zero_iff → fq, sub_add_cancel → fI, lt_or_gt_of_ne → fJ, fmod_lt_of_pos → fK, gcd_dvd_right → gg, dvd_mul_right → gh
open List renaming length_map → aa, getElem?_eq_getElem → ac, getD_eq_getElem?_getD → ah, length_append → ai, getElem?_eq_some_iff → aj, mem_cons → ak, size_toArray → am, getElem?_map → aw, length_replicate → aC, length_take → aD, mem_cons_of_mem → aE, mem_singleton → aG, getElem?_set_ne → aH, mem_cons_self → aK, mem_append → aM, getElem?_set → aN, mem_of_getElem? → aO, mem_append_right → aQ, map_append → aR, getElem?_eq_none → aS, getElem?_append_right → aT, not_mem_nil → aU, length_set → aW, length_cons → aY, mem_of_mem_take → aZ, length_drop → bf, getElem?_append_left → bj, replicate_succ → bu, length_eq_zero_iff → bw, mem_of_mem_drop → bx, mem_map → bB, map_take → bH, length_reverse → bK, getElem?_reverse → bM, take_length → bN, map_cons → bQ, flatten_cons → bR, mem_filter → bT, map_drop → bX, getElem_mem → bY, length_singleton → bZ, length_pos_iff → ci, all_eq_true → cm, append_nil → cr, mem_append_left → cx, getElem?_eq_none_iff → cC, filterMap_cons → cE, getElem?_cons_succ → cK, nodup_cons → cQ, drop_zero → cU, reverse_cons → cY, getElem?_take_of_lt → db, all_cons → dc, lookup_cons → dj, getElem?_replicate → dl, take_of_length_le → dr, getElem?_set_self → du, mem_iff_getElem? → dF, take_zero → dH, findIdx?_cons → dP, filter_append → dQ, ext_getElem? → dS, ext_getElem → dZ, any_eq_true → d9, of_mem_zip → eg, forIn_cons → eh, dropLast_concat_getLast → eu, forIn_nil → eC, drop_eq_getElem_cons → eE, eq_of_mem_replicate → eG, any_cons → eI, map_map → eK, drop_of_length_le → eL, all_map → eO, getElem?_toArray → eR, dropLast_eq_take → eU, getD_cons_succ → fc, mem_filterMap → fh, map_replicate → fi, getElem?_take → fj, getElem?_drop → fk, filterMap_nil → fo, take_add_one → fv, length_range → fw, foldl_append → fB, append_assoc → fE, zipIdx_cons → fQ, map_reverse → fU, getElem_map → fZ, drop_length → gb
open Nat renaming le_refl → aq, lt_of_lt_of_le → az, mul_le_mul_left → aB, le_trans → aF, zero_le → aI, mul_le_mul → aL, lt_or_ge → aP, le_mul_of_pos_left → aV, ne_of_lt → aX, succ_mul → bq, mul_le_mul_right → bz, lt_irrefl → bD, sub_zero → bE, pow_pos → bG, mul_succ → bJ, eq_or_lt_of_le → bO, le_mul_of_pos_right → bS, sub_self → bW, le_of_succ_le → cw, mul_comm → cB, one_lt_two_pow → cJ, add_mul → cL, add_assoc → cN, pow_le_pow_right → cO, zero_mul → cS, ne_of_gt → cT, lt_of_le_of_lt → cV, eq_zero_or_pos → cW, le_of_dvd → dh, dvd_mul_left → dm, min_eq_left → dE, mul_one → dI, div_mul_le_self → dN, pos_of_ne_zero → dR, succ_pos → dU, le_of_lt_succ → dW, le_of_lt → dX, not_lt_zero → eA, eq_of_mul_eq_mul_left → eF, add_comm → eQ, pow_add → eZ, mul_add → fb, add_sub_cancel → ft, lt_succ_of_lt → fL, gcd_dvd_right → fN
open Option renaming map_eq_some_iff → ab, bind_eq_some_iff → ae, ite_none_right_eq_some → af, ite_none_left_eq_some → dY, getD_none → fg
open Rat renaming intCast_mul → ar, intCast_add → cu, intCast_pow → cR, pow_zero → dw, pow_succ → dA, mul_eq_zero → dD, intCast_sub → ev, intCast_eq_zero_iff → eJ
set_option Elab.async false
set_option linter.all false
set_option maxRecDepth 100000
set_option genSizeOf false
set_option bootstrap.genMatcherCode false
local macro_rules|`(tactic| omega) => `(tactic| lia)
namespace L2
open PySem PySem.Spec PyProof.Rows
abbrev vi:=Sum Int Str
def wv:vi->Value->Bool
 | .inl k,v=>Value.isInt k v
 | .inr x,v=>Value.isStrOf x v
def KB(w:World):vi->Int
 | .inl k=>hashInt k
 | .inr x=>hashStr w x
theorem qK:∀{k:vi} {v:Value},wv k v=true->(∃ i t,k=Sum.inl i/\v=Value.int i t)\/(∃ x t,k=Sum.inr x/\v=Value.str x t)
 | .inl i,v,h=>by
  obtain⟨t,e⟩:=Value.isInt_shape (k:=i) (v:=v) h;exact .inl ⟨i,t,rfl,e⟩
 | .inr x,v,h=>by
  obtain⟨t,e⟩:=Value.isStrOf_shape (x:=x) (v:=v) h;exact .inr ⟨x,t,rfl,e⟩
theorem Bj(i:Int)(t:Tok):wv (.inl i) (.int i t)=true:=by simp [wv,Value.isInt]
theorem Bi(x:Str)(t:Tok):wv (.inr x) (.str x t)=true:=by simp [wv,Value.isStrOf]
theorem GJ(a b:Int):decide ((Sum.inl a:vi)=Sum.inl b)=(a == b):=by
 by_cases e:a=b
 ·subst e;simp
 ·have h:¬ (Sum.inl a:vi)=Sum.inl b:=fun q=>e (Sum.inl.inj q);rw [decide_eq_false h];exact (beq_eq_false_iff_ne.mpr e).symm
theorem GG(a b:Str):decide ((Sum.inr a:vi)=Sum.inr b)=decide (a=b):=by
 by_cases e:a=b
 ·subst e;simp
 ·have h:¬ (Sum.inr a:vi)=Sum.inr b:=fun q=>e (Sum.inr.inj q);rw [decide_eq_false h,decide_eq_false e]
theorem GI(a:Int)(b:Str):decide ((Sum.inl a:vi)=Sum.inr b)=false:=decide_eq_false (fun q=>nomatch q)
theorem GH(a:Str)(b:Int):decide ((Sum.inr a:vi)=Sum.inl b)=false:=decide_eq_false (fun q=>nomatch q)
def uo(prog:Program)(w:World):PySem.KeyKind prog w vi where
 is:=wv
 hash:=KB w
 inj:=fun v a b ha hb=>by
  rcases qK ha with⟨i,t,rfl,rfl⟩|⟨x,t,rfl,rfl⟩
  ·rcases qK hb with⟨j,u,rfl,e⟩|⟨y,u,rfl,e⟩
   ·injection e with e1 _;rw [e1]
   ·exact nomatch e
  ·rcases qK hb with⟨j,u,rfl,e⟩|⟨y,u,rfl,e⟩
   ·exact nomatch e
   ·injection e with e1 _;rw [e1]
 byValue:=fun k v h=>by
  rcases qK h with⟨i,t,rfl,rfl⟩|⟨x,t,rfl,rfl⟩ <;> rfl
 pyHash:=fun hv h=>by
  rcases qK hv with⟨i,t,rfl,rfl⟩|⟨x,t,rfl,rfl⟩
  ·exact wpAny_pyHash_int h
  ·exact wpAny_pyHash_str h
 eqBool:=fun hu hv h=>by
  rcases qK hu with⟨i,t,rfl,rfl⟩|⟨x,t,rfl,rfl⟩
  ·rcases qK hv with⟨j,u,rfl,rfl⟩|⟨y,u,rfl,rfl⟩
   ·rw [GJ] at h;exact wpAny_eqBool_int h
   ·rw [GI] at h;exact SeqAt.EqAt.int_str i t y u _ _ _ _ h
  ·rcases qK hv with⟨j,u,rfl,rfl⟩|⟨y,u,rfl,rfl⟩
   ·rw [GH] at h;exact SeqAt.EqAt.str_int x t j u _ _ _ _ h
   ·rw [GG] at h;exact wpAny_eqBool_str h
 «strs» := fun k x t v h=>by
  rcases qK h with⟨i,u,rfl,e⟩|⟨y,u,rfl,e⟩
  ·exact nomatch e
  ·injection e with e1 _;subst e1;cases v <;> rfl
end L2
namespace L2
open PySem PySem.Spec PyProof.Rows
inductive V where
 | non|bl (b:Bool)|int (i:Int)|str (x:Str)|byt (b:Array UInt8)|flt (b:UInt64)|ref (a:Addr)|ty (n:String)
 deriving DecidableEq
def RelV:V->Value->Prop
 | .non,u=>u=Value.none
 | .bl b,u=>u=Value.bool b
 | .int i,u=>∃ t,u=Value.int i t
 | .str x,u=>∃ t,u=Value.str x t
 | .byt b,u=>∃ t,u=Value.bytes b t
 | .flt b,u=>∃ t,u=Value.float b t
 | .ref a,u=>u=Value.ref a
 | .ty n,u=>u=Value.type n
abbrev Vals:List V->List Value->Prop:=Paired RelV
theorem Vals.length{xs:List V}{us:List Value}(r:Vals xs us):xs.length=us.length:=Paired.length r
theorem Vals.get:∀{xs:List V} {us:List Value} {i:Nat} {x:V},Vals xs us->xs[i]? = some x->∃ u,us[i]? = some u/\RelV x u
 | _,_,_,_,.nil,e=>by simp at e
 | _,_,0,_,.cons r _,e=>by simp at e;subst e;exact⟨_,rfl,r⟩
 | _,_,i+1,x,.cons _ t,e=>by
  obtain⟨u,h1,h2⟩:=Vals.get (i:=i) (x:=x) t (by simpa using e);exact⟨u,by simpa using h1,h2⟩
theorem Vals.set{x:V}{u:Value}(r:RelV x u):∀{xs:List V} {us:List Value} (i:Nat),Vals xs us->Vals (xs.set i x) (us.set i u)
 | _,_,_,.nil=>.nil
 | _,_,0,.cons _ t=>.cons r t
 | _,_,i+1,.cons q t=>.cons q (Vals.set r i t)
theorem Vals.append:∀{xs ys:List V} {us ws:List Value},Vals xs us->Vals ys ws->Vals (xs++ys) (us++ws)
 | _,_,_,_,.nil,s=>s
 | _,_,_,_,.cons r t,s=>.cons r (Vals.append t s)
theorem Vals.take:∀{xs:List V} {us:List Value} (n:Nat),Vals xs us->Vals (xs.take n) (us.take n)
 | _,_,0,_=>.nil
 | _,_,_+1,.nil=>.nil
 | _,_,n+1,.cons r t=>.cons r (Vals.take n t)
theorem Vals.drop:∀{xs:List V} {us:List Value} (n:Nat),Vals xs us->Vals (xs.drop n) (us.drop n)
 | _,_,0,r=>r
 | _,_,_+1,.nil=>.nil
 | _,_,n+1,.cons _ t=>Vals.drop n t
def Hx:Option V->Option Value->Prop
 | some v,some u=>RelV v u
 | none,none=>True
 | _,_=>False
def KV{κ:Type}:List (κ×V)->List (κ×Value)->Prop:=Paired fun (p:κ×V) (q:κ×Value)=>p.1=q.1/\RelV p.2 q.2
def kV:vi->V
 | .inl i=>.int i
 | .inr x=>.str x
inductive HO where
  | lst (xs:List V)
  | tup (xs:List V)
  | dK (kvs:List (vi×V))|dT (kvs:List (List vi×V))
  | set (S:Int->Bool) (n:Nat)
  | ins (C dx:Addr) (fs:List (Str×V))
  | own (x:Addr)
  | xd (fs:List (Str×V))
  | met (f x:Addr)
  | rng (lo hi:Int)
  | frz (o:Obj) (u:HO)
  | tbl (ps:Array Value)
  | ext (φ:Heap->Prop)
abbrev Hp:=Addr->Option HO
def qR(H:Hp)(a:Addr)(o:HO):Hp:=fun b=>if b=a then some o else H b
theorem qw{H:Hp}{a:Addr}{o:HO}:qR H a o a=some o:=by unfold qR;rw [if_pos rfl]
theorem qu{H:Hp}{a b:Addr}{o:HO}(h:b≠a):qR H a o b=H b:=by unfold qR;rw [if_neg h]
theorem IP{H:Hp}{a b:Addr}{o u:HO}(h:H a=some o)(h':H b=some u)(d:o≠u):a≠b:=by
 intro e;subst e;rw [h] at h';exact d (Option.some.inj h')
theorem qB{H:Hp}{a b:Addr}{o:HO}(h:H a=some o)(h':H b=none):a≠b:=by
 intro e;subst e;rw [h] at h';cases h'
section
variable(P:Program)(w:World)
def ObjOk(H:Hp)(h:Heap)(a:Addr):HO->Prop
 | .lst xs=>xs.length<=sizeLine/\∃(its:List Value) (n:Nat),Vals xs its/\h.get? a=some { cls:=.type "list",data:=.seq its.toArray n }
 | .tup xs=>xs.length<=sizeLine/\∃ its:List Value,Vals xs its/\IsTup h a its.toArray
 | .dK kvs=>kvs.length<=sizeLine/\(a == sysModules)=false/\∃ vs,KV kvs vs/\h.DictOf (uo P w) a vs
 | .dT kvs=>kvs.length<=sizeLine/\(a == sysModules)=false/\∃ xs:List (List vi×Addr×Value),
   Paired (fun (p:List vi×V) (q:List vi×Addr×Value)=>p.1=q.1/\H q.2.1=some (.tup (p.1.map kV))/\RelV p.2 q.2.2) kvs xs /\
   ∃ o es ep,h.get? a=some o/\o.ExactDict/\o.data = .dict es ep/\es.toList=xs.map (entryOfKey (tupleKind (uo P w)))/\(xs.map (·.1)).Nodup
 | .set S n=>h.SetOf (intKind P w) a S n
 | .ins C dx fs=>H dx=some (.own a)/\fs.length<=1000/\dx≠a/\h.get? a=some (PySem.W.instObj C dx) /\
   ∃ mA,h.Ns1 dx mA/\(∀ f,Hx (fs.lookup f) (mA f))/\PySem.Within mA (fs.map (·.1))
 | .own _=>∃ o,h.get? a=some o
 | .xd fs=>∃ mA,h.Ns1 a mA/\∀ f,Hx (fs.lookup f) (mA f)
 | .rng lo hi=>∃ t u v,h.get? a=some { cls:=.type "range",data:=.fields #[.int lo t,.int hi u,.int 1 v] }
 | .frz o u=>h.get? a=some o/\ObjOk H h a u
 | .tbl ps=>h.get? a=some { cls:=.none,data:=.fields ps }
 | .met f x=>h.get? a=some (PySem.W.methodObj (.ref f) (.ref x))
 | .ext φ=>φ h/\(∃ o,h.get? a=some o)/\∀ h1 h2:Heap,φ h1->(∀ o,h1.get? a=some o->h2.get? a=some o)->φ h2
def HOk(H:Hp)(h:Heap):Prop:=∀ a o,H a=some o->ObjOk P w H h a o
end
section
variable{P:Program}{w:World}{H H':Hp}{h h':Heap}{a:Addr}{o:HO}
theorem ObjOk.lt(x:ObjOk P w H h a o):a<h.objs.size:=by
 cases o with
 | lst xs=>obtain⟨_,_,_,_,e⟩:=x;exact Heap.lt_size e
 | tup xs=>obtain⟨_,_,_,p⟩:=x;exact p.lt
 | dK kvs=>obtain⟨_,_,_,_,o,_,_,e,_⟩:=x;exact Heap.lt_size e
 | dT kvs=>obtain⟨_,_,_,_,o,_,_,e,_⟩:=x;exact Heap.lt_size e
 | set S n=>obtain⟨o,_,_,_,e,_⟩:=x;exact Heap.lt_size e
 | ins C dx fs=>obtain⟨_,_,_,e,_⟩:=x;exact Heap.lt_size e
 | own y=>obtain⟨_,e⟩:=x;exact Heap.lt_size e
 | xd fs=>obtain⟨_,⟨_,_,_,e,_⟩,_⟩:=x;exact Heap.lt_size e
 | rng lo hi=>obtain⟨_,_,_,e⟩:=x;exact Heap.lt_size e
 | frz ob u=>obtain⟨e,_⟩:=x;exact Heap.lt_size e
 | tbl ps=>exact Heap.lt_size (show h.get? a=some _ from x)
 | met f y=>exact Heap.lt_size (show h.get? a=some _ from x)
 | ext φ=>obtain⟨_,⟨_,e⟩,_⟩:=x;exact Heap.lt_size e
theorem Paired.mapP{α β:Type}{F G:α->β->Prop}:∀{l₁:List α} {l₂:List β},Paired F l₁ l₂->(∀ a b,F a b->G a b)->Paired G l₁ l₂
 | _,_,.nil,_=>.nil
 | _,_,.cons r t,f=>.cons (f _ _ r) (Paired.mapP t f)
theorem ObjOk.stay(x:ObjOk P w H h a o)(k:∀ b u,(b=a\/H b=some (.own a))->h.get? b=some u->h'.get? b=some u)
  (ho:∀ b,H b=some (.own a)->H' b=some (.own a)) (ht:∀ b xs,H b=some (.tup xs)->H' b=some (.tup xs)):ObjOk P w H' h' a o:=by
 induction o with
 | lst xs=>obtain⟨z,its,n,r,e⟩:=x;exact⟨z,its,n,r,k _ _ (.inl rfl) e⟩
 | tup xs=>obtain⟨z,its,r,ob,e,c⟩:=x;exact⟨z,its,r,ob,k _ _ (.inl rfl) e,c⟩
 | dK kvs=>obtain⟨z,y,vs,r,ob,es,ep,e,c⟩:=x;exact⟨z,y,vs,r,ob,es,ep,k _ _ (.inl rfl) e,c⟩
 | dT kvs =>
  obtain⟨z,y,xs,r,ob,es,ep,e,c⟩:=x;exact⟨z,y,xs,Paired.mapP r fun p q z=>⟨z.1,ht _ _ z.2.1,z.2.2⟩,ob,es,ep,k _ _ (.inl rfl) e,c⟩
 | set S n=>obtain⟨ob,es,ep,t,e,c⟩:=x;exact⟨ob,es,ep,t,k _ _ (.inl rfl) e,c⟩
 | ins C dx fs =>
  obtain⟨d,z,ne,e,mA,⟨od,es,ep,e2,c⟩,r⟩:=x;exact⟨ho _ d,z,ne,k _ _ (.inl rfl) e,mA,⟨od,es,ep,k _ _ (.inr d) e2,c⟩,r⟩
 | own y=>obtain⟨ob,e⟩:=x;exact⟨ob,k _ _ (.inl rfl) e⟩
 | xd fs=>obtain⟨mA,⟨od,es,ep,e,c⟩,r⟩:=x;exact⟨mA,⟨od,es,ep,k _ _ (.inl rfl) e,c⟩,r⟩
 | rng lo hi=>obtain⟨t,u,v,e⟩:=x;exact⟨t,u,v,k _ _ (.inl rfl) e⟩
 | frz ob u ih=>obtain⟨e,q⟩:=x;exact⟨k _ _ (.inl rfl) e,ih q⟩
 | tbl ps =>
  have e:h.get? a=some { cls:=.none,data:=.fields ps }:=x;show h'.get? a=some { cls:=.none,data:=.fields ps };exact k a _ (.inl rfl) e
 | met f y =>
  have e:h.get? a=some (PySem.W.methodObj (.ref f) (.ref y)):=x;show h'.get? a=some (PySem.W.methodObj (.ref f) (.ref y));exact k a _ (.inl rfl) e
 | ext φ=>obtain⟨p,⟨o,e⟩,st⟩:=x;exact⟨st _ _ p fun o q=>k _ _ (.inl rfl) q,⟨o,k _ _ (.inl rfl) e⟩,st⟩
theorem HOk.lt(x:HOk P w H h)(e:H a=some o):a<h.objs.size:=(x a o e).lt
theorem HOk.fresh(x:HOk P w H h)(e:h.objs.size<=a):H a=none:=by
 cases q:H a with
 | none=>rfl
 | some u=>exact absurd (az (x.lt q) e) (bD _)
theorem HOk.kept(x:HOk P w H h)(k:∀ b u,h.get? b=some u->h'.get? b=some u):HOk P w H h':=fun a o e =>
 (x a o e).stay (fun b u _ q=>k b u q) (fun _ q=>q) fun _ _ q=>q
theorem HOk.laid(x:HOk P w H h)(k:∀ b u,h.get? b=some u->h'.get? b=some u)(hp:h.objs.size<=a)(new:ObjOk P w (qR H a o) h' a o):HOk P w (qR H a o) h':=fun b u e=>by
 have hn:=x.fresh hp;by_cases hb:b=a
 ·subst hb;rw [qw] at e;cases e;exact new
 ·rw [qu hb] at e;exact (x b u e).stay (fun c v _ q=>k c v q) (fun c q=>by rw [qu (qB q hn)];exact q) fun c xs q=>by rw [qu (qB q hn)];exact q
end
def Rd(H:Hp)(a:Addr)(u:HO):Prop:=H a=some u\/∃ o,H a=some (.frz o u)
theorem Rd.ok{P:Program}{w:World}{H:Hp}{h:Heap}{a:Addr}{u:HO}(r:Rd H a u)(x:HOk P w H h):ObjOk P w H h a u:=by
 rcases r with r|⟨o,r⟩
 ·exact x a u r
 ·obtain⟨_,q⟩:=x a _ r;exact q
def JR:Option HO->Prop
 | some (.lst _)=>True
 | some (.dK _)=>True
 | some (.dT _)=>True
 | some (.set _ _)=>True
 | some (.ins _ _ _)=>True
 | some (.ext _)=>True
 | _=>False
section
variable{P:Program}{w:World}{H:Hp}{h h':Heap}{x e:Addr}{o':HO}
theorem HOk.write(ok:HOk P w H h)(mu:JR (H x))(he:e=x\/H e=some (.own x))(k:∀ b u,b≠e->h.get? b=some u->h'.get? b=some u)(heo:∃ u,h'.get? e=some u)
  (new:ObjOk P w (qR H x o') h' x o'):HOk P w (qR H x o') h':=fun b u q=>by
 have nown:∀ c y,H c=some (.own y)->c≠x:=fun c y r z=>by subst z;rw [r] at mu;exact mu
 have ntup:∀ c xs,H c=some (.tup xs)->c≠x:=fun c xs r z=>by subst z;rw [r] at mu;exact mu
 by_cases hb:b=x
 ·subst hb;rw [qw] at q;cases q;exact new
 ·rw [qu hb] at q;by_cases hbe:b=e
  ·have q':H b=some (.own x):=by
    rcases he with z|z
    ·exact absurd (hbe.trans z) hb
    ·rw [hbe];exact z
   rw [q] at q';cases q';obtain⟨v,hv⟩:=heo;exact⟨v,by rw [hbe];exact hv⟩
  ·refine (ok b u q).stay (fun c v hc r=>k c v ?_ r) (fun c r=>by rw [qu (nown c b r)];exact r) fun c xs r=>by rw [qu (ntup c xs r)];exact r
   rcases hc with rfl|hc
   ·exact hbe
   ·rintro rfl;rcases he with z|z
    ·exact nown c b hc z
    ·rw [hc] at z;cases z;exact hb rfl
end
structure Un (fs ex:List Addr)(H H':Hp)(h h':Heap):Prop where
 keep:∀ b o,h.get? b=some o->H b=none->b ∉ fs->b ∉ ex->h'.get? b=some o
 slot:∀ b o,h.get? b=some o->H b=none->b∈fs->b ∉ ex->∃ sl,h'.get? b=some { o with slots:=sl }
 free:∀ b o,h.get? b=some o->H b=none->b ∉ ex->H' b=none
 there:∀ b o,h.get? b=some o->b ∉ ex->∃ o',h'.get? b=some o'
 tups:∀ b xs,H b=some (.tup xs)->H' b=some (.tup xs)
 frzs:∀ b o u,H b=some (.frz o u)->H' b=some (.frz o u)
 tbls:∀ b ps,H b=some (.tbl ps)->∃ more,H' b=some (.tbl (ps++more))
section
variable{fs fs' ex ex':List Addr}{H H1 H2:Hp}{h h1 h2 h':Heap}{a x e:Addr}{o:HO}
theorem Un.any(u:Un fs ex H H1 h h1){b:Addr}{ob:Obj}(q:h.get? b=some ob)(n:H b=none)(hx:b ∉ ex):∃ sl,h1.get? b=some { ob with slots:=sl }:=by
 by_cases hb:b∈fs
 ·exact u.slot b ob q n hb hx
 ·exact⟨ob.slots,u.keep b ob q n hb hx⟩
theorem Un.kept(k:∀ b u,h.get? b=some u->h'.get? b=some u):Un fs ex H H h h' :=
 ⟨fun b ob q _ _ _=>k b ob q,fun b ob q _ _ _=>⟨ob.slots,k b ob q⟩,fun _ _ _ n _=>n,fun b ob q _=>⟨ob,k b ob q⟩,fun _ _ q=>q,fun _ _ _ q=>q,fun _ ps q=>⟨#[],by rw [q];simp⟩⟩
theorem Un.refl:Un fs ex H H h h:=Un.kept fun _ _ q=>q
theorem Un.laid(k:∀ b u,h.get? b=some u->h'.get? b=some u)(hp:h.objs.size<=a)(hn:H a=none):Un fs ex H (qR H a o) h h' where
 keep:=fun b u q _ _ _=>k b u q
 slot:=fun b u q _ _ _=>⟨u.slots,k b u q⟩
 free:=fun b u q n _=>by rw [qu (aX (az (Heap.lt_size q) hp))];exact n
 there:=fun b u q _=>⟨u,k b u q⟩
 tups:=fun b xs q=>by rw [qu (qB q hn)];exact q
 frzs:=fun b u xs q=>by rw [qu (qB q hn)];exact q
 tbls:=fun b ps q=>⟨#[],by rw [qu (qB q hn),q];simp⟩
theorem Un.write(mu:JR (H x))(he:e=x\/H e=some (.own x))(k:∀ b u,b≠e->h.get? b=some u->h'.get? b=some u)(heo:∃ u,h'.get? e=some u):Un fs ex H (qR H x o) h h':=by
 have hx:∀ b,H b=none->b≠x:=fun b n z=>by subst z;rw [n] at mu;exact mu
 have hb:∀ b,H b=none->b≠e:=fun b n z=>by
  subst z;rcases he with r|r
  ·exact hx b n r
  ·rw [n] at r;cases r
 have hm:∀ b u,H b=some u->¬ JR (some u)->b≠x:=fun b u q nm z=>by subst z;rw [q] at mu;exact nm mu
 refine⟨fun b u q n _ _=>k b u (hb b n) q,fun b u q n _ _=>⟨u.slots,k b u (hb b n) q⟩,fun b u q n _=>by rw [qu (hx b n)];exact n,fun b u q _=>?_,
  fun b xs q=>by rw [qu (hm b _ q fun z=>z)];exact q,fun b u xs q=>by rw [qu (hm b _ q fun z=>z)];exact q,fun b ps q=>⟨#[],by rw [qu (hm b _ q fun z=>z),q];simp⟩⟩
 by_cases hbe:b=e
 ·subst hbe;exact heo
 ·exact⟨u,k b u hbe q⟩
end
def JL(h:Heap)(H:Hp):List Addr:=(List.range h.objs.size).filter fun a=>(H a).isSome
def v9(h:Heap)(H:Hp):Heap:=PySem.W.hideAll h (JL h H)
theorem Bp(h:Heap)(H:Hp):(v9 h H).objs.size=h.objs.size:=PySem.W.hideAll_size _ _
theorem CV{h:Heap}{H:Hp}{b:Addr}{o:Obj}(e:h.get? b=some o)(n:H b=none):(v9 h H).get? b=some o :=
 PySem.W.hideAll_get _ e fun hm=>by
  have q:(H b).isSome=true:=(bT.mp hm).2;rw [n] at q;simp at q
theorem Ek{h:Heap}{H:Hp}{b:Addr}{o:Obj}(e:(v9 h H).get? b=some o):h.get? b=some o/\H b=none:=by
 have e':h.get? b=some o:=PySem.W.of_hideAll (JL h H) e;refine⟨e',?_⟩;cases q:H b with
 | none=>rfl
 | some x =>
  have hm:b∈JL h H:=bT.mpr ⟨List.mem_range.mpr (Heap.lt_size e'),by simp [q]⟩;have z:(v9 h H).get? b=none:=PySem.W.hideAll_none (JL h H) hm;rw [z] at e;cases e
end L2
namespace L2
open PySem PySem.Spec PyProof.Rows
structure Mod (K:Frag)(mg:Str->Option Value)(base:Heap):Prop where
 kin:K.In base
 glob:base.Ns mainGlobals mg
 blt:∃ mb,base.Ns builtinsNs mb/\∀ x:Str,x ≠ "__name__" -> mb x=bootBuiltins x
 nolimit:base.NoLimit
structure Cx where
 prog:Program
 w:World
 K:Frag
 mg:Str->Option Value
 base:Heap
 A:Around
 N:List Str
 s₀:Shared
 H₀:Hp
 env:Env
 outer:List Env
 stack:List Env
 ex:List Addr
 fn:Str->Bool
 calm:Bool
 pn:List (Addr×Obj)
 xe:Value->Shared->Prop
def AG(l:List Env):List Addr:=l.filterMap (·.frame)
abbrev Cx.fs(X:Cx):List Addr:=AG X.outer
def FB(sc:Scope)(x:Str):Prop:=sc.names.lookup x=some .local\/sc.names.lookup x=some .cell\/sc.names.lookup x=some .free
def By(sc:Scope)(x:Str):Prop:=sc.names.lookup x=some .local\/sc.names.lookup x=some .cell
def KU(env:Env)(h:Heap)(m:Str->Option Value)(x:Str)(u:Value):Prop :=
 (env.kindOf x=some .local/\m x=some u)\/((env.kindOf x=some .cell\/env.kindOf x=some .free)/\∃ c,env.cells.lookup x=some c/\h.IsCell c (some u))
structure Cx.Ok (X:Cx):Prop where
 mod:Mod X.K X.mg X.base
 kind:X.env.scope.kind = .function
 glob:X.env.globals=mainGlobals
 blt:X.env.builtins=builtinsNs
 above:X.s₀.heap.objs.size<=X.env.locals
 inj:∀ x y c,X.env.cells.lookup x=some c->X.env.cells.lookup y=some c->x=y
 has:∀ x,(X.env.kindOf x=some .cell\/X.env.kindOf x=some .free)->∃ c,X.env.cells.lookup x=some c
 cab:∀ x c,X.fn x=true->X.env.cells.lookup x=some c->X.s₀.heap.objs.size<=c
 hd:X.calm=true->X.A.handled=none
 frames:X.A.frames=some X.stack
 stk:X.stack=X.outer\/(X.stack=X.env::X.outer/\X.env.frame=some X.env.locals)
 exf:∀ b∈X.ex,b≠X.env.locals/\∀ x c,X.env.cells.lookup x=some c->c≠b
 bs:∀ b o,X.base.get? b=some o->X.s₀.heap.get? b=some o/\X.H₀ b=none
 bsz:X.base.objs.size<=X.s₀.heap.objs.size
 noex:∀ b o,X.base.get? b=some o->b ∉ X.ex
 exfs:∀ b∈X.ex,b ∉ X.fs
 funs:X.s₀.heap.FunFrames X.base X.outer
 frf:∀ b∈X.fs,X.H₀ b=none
 sr:X.base.NoSeer/\X.prog.given.tree=none
 rn:∃ e l,X.stack=e::l/\e.scope.isGenerator=false/\e.scope.isCoroutine=false/\e.builtins=builtinsNs/\e.globals=mainGlobals
structure Inv (X:Cx)(pins:List (Addr×Obj))(σ:List (Option V))(H:Hp)(s:Shared):Prop where
 ok:X.Ok
 os:s.os=X.s₀.os
 bare:AllBare s.gens
 base:Un X.fs X.ex X.H₀ H X.s₀.heap s.heap
 loc:∃ m,s.heap.Ns X.env.locals m/\∀(i:Nat) (x:Str) (v:V),X.N[i]? = some x->σ[i]? = some (some v)->FB X.env.scope x->∃ u,RelV v u/\KU X.env s.heap m x u
 cell:∀ x c,X.env.cells.lookup x=some c->∃ v,s.heap.IsCell c v
 free:H X.env.locals=none
 freeC:∀ x c,X.env.cells.lookup x=some c->H c=none
 pin:∀ p∈X.pn++pins,s.heap.get? p.1=some p.2/\H p.1=none/\p.1≠X.env.locals/\p.1 ∉ X.fs/\∀ v,p.2.data ≠ .cell v
 hok:HOk X.prog X.w H s.heap
 len:σ.length=X.N.length
section
variable{X:Cx}{pins:List (Addr×Obj)}{σ:List (Option V)}{H H':Hp}{s:Shared}{h':Heap}
theorem Cx.Ok.nofr(ok:X.Ok){b:Addr}{o:Obj}(e:X.base.get? b=some o):b ∉ X.fs:=fun hb=>by
 have:=(ok.funs.mem hb).1;rw [e] at this;cases this
theorem Inv.bs(I:Inv X pins σ H s):∀ b o,X.base.get? b=some o->s.heap.get? b=some o/\H b=none:=fun b o e =>
 ⟨I.base.keep b o (I.ok.bs b o e).1 (I.ok.bs b o e).2 (I.ok.nofr e) (I.ok.noex b o e),I.base.free b o (I.ok.bs b o e).1 (I.ok.bs b o e).2 (I.ok.noex b o e)⟩
theorem Inv.bk(I:Inv X pins σ H s):∀ b o,X.base.get? b=some o->s.heap.get? b=some o:=fun b o e=>(I.bs b o e).1
theorem Inv.mod(I:Inv X pins σ H s):Mod X.K X.mg X.base:=I.ok.mod
theorem Inv.kIn(I:Inv X pins σ H s):X.K.In s.heap:=I.ok.mod.kin.keeps I.bk
theorem Inv.nolimit(I:Inv X pins σ H s):s.heap.NoLimit:=I.ok.mod.nolimit.keeps I.bk
theorem Inv.lt(I:Inv X pins σ H s):X.env.locals<s.heap.objs.size:=let ⟨_,hn,_⟩:=I.loc;hn.lt
theorem Inv.sz(I:Inv X pins σ H s):X.s₀.heap.objs.size<=s.heap.objs.size:=aF I.ok.above (dX I.lt)
theorem Inv.nofs(I:Inv X pins σ H s){a:Addr}(h:s.heap.objs.size<=a):a ∉ X.fs:=fun hb=>by
 obtain⟨_,o,ho,_⟩:=I.ok.funs.mem hb;exact absurd (az (Heap.lt_size ho) (aF I.sz h)) (bD _)
theorem Inv.cne(I:Inv X pins σ H s):∀ x c,X.env.cells.lookup x=some c->c≠X.env.locals:=fun x c e z=>by
 obtain⟨v,o,ho,hd⟩:=I.cell x c e;obtain⟨m,⟨o',es,ep,ho',hd',_⟩,_⟩:=I.loc;rw [z,ho'] at ho;cases ho;rw [hd'] at hd;cases hd
theorem Inv.funs(I:Inv X pins σ H s):s.heap.FunFrames X.base X.outer:=by
 have all:∀(l:List Env),(∀ b∈AG l,b∈X.fs)->X.s₀.heap.FunFrames X.base l->s.heap.FunFrames X.base l:=by
  intro l;induction l with
  | nil=>intro _ _;trivial
  | cons env r ih =>
   intro hs hl;obtain⟨hk,⟨L,o,hf,hn,ho,hd⟩,hr⟩:=hl;have hL:L∈X.fs:=hs L (by unfold AG;rw [cE,hf];exact aK);obtain⟨sl,e⟩:=I.base.slot L o ho (I.ok.frf L hL) hL fun z=>I.ok.exfs L z hL;exact⟨hk,⟨L,_,hf,hn,e,hd⟩,ih (fun b hb=>hs b (by unfold AG;rw [cE,hf];exact aE _ hb)) hr⟩
 exact all X.outer (fun _ hb=>hb) I.ok.funs
theorem Inv.stack(I:Inv X pins σ H s):s.heap.FunFrames X.base X.stack:=by
 rcases I.ok.stk with e|⟨e,hf⟩
 ·rw [e];exact I.funs
 ·rw [e];obtain⟨m,hn,_⟩:=I.loc;refine .cons (by rw [I.ok.kind];decide) hf hn ?_ I.funs;exact Heap.get?_none_of_le (aF I.ok.bsz I.ok.above)
theorem Inv.stkSub(I:Inv X pins σ H s):∀ b∈AG X.stack,b∈X.env.locals::X.fs:=fun b hb=>by
 rcases I.ok.stk with e|⟨e,hf⟩
 ·rw [e] at hb;exact aE _ hb
 ·rw [e] at hb;unfold AG at hb;rw [cE,hf] at hb;exact hb
theorem Inv.stkFree(I:Inv X pins σ H s):∀ b∈AG X.stack,H b=none:=fun b hb=>by
 rcases ak.mp (I.stkSub b hb) with e|hb
 ·rw [e];exact I.free
 ·obtain⟨_,o,ho,_⟩:=I.ok.funs.mem hb;exact I.base.free b o ho (I.ok.frf b hb) fun z=>I.ok.exfs b z hb
theorem Inv.step{g':Array GenState}{t':Nat}{d':Drawn}{ch:List Addr}(I:Inv X pins σ H s)
  (hch:∀ b∈ch,(b∈X.ex\/X.s₀.heap.objs.size<=b)/\b≠X.env.locals/\(∀ x c,X.env.cells.lookup x=some c->c≠b)/\∀ p∈X.pn++pins,p.1≠b)
  (keep:∀ b o,b≠X.env.locals->b ∉ X.fs->b ∉ ch->s.heap.get? b=some o->H b=none->h'.get? b=some o)
  (slot:∀ b o,b≠X.env.locals->b∈X.fs->b ∉ ch->s.heap.get? b=some o->H b=none->∃ sl,h'.get? b=some { o with slots:=sl }) (free:∀ b o,b ∉ ch->s.heap.get? b=some o->H b=none->H' b=none)
  (there:∀ b o,b ∉ ch->s.heap.get? b=some o->∃ o',h'.get? b=some o')
  (tups:∀ b xs,H b=some (.tup xs)->H' b=some (.tup xs)) (frzs:∀ b o u,H b=some (.frz o u)->H' b=some (.frz o u)) (tbls:∀ b ps,H b=some (.tbl ps)->∃ more,H' b=some (.tbl (ps++more)))
  (ns:∀ m,s.heap.Ns X.env.locals m->h'.Ns X.env.locals m) (hok:HOk X.prog X.w H' h') (hg:AllBare g') :
  Inv X pins σ H' { s with heap:=h',gens:=g',drawn:=d',toks:=t' }:=by
 have neL:∀ b o,X.s₀.heap.get? b=some o->b≠X.env.locals:=fun b o e=>aX (az (Heap.lt_size e) I.ok.above);have neC:∀ b o,X.s₀.heap.get? b=some o->b ∉ X.ex->b ∉ ch:=fun b o e hx hb=>by
  rcases (hch b hb).1 with z|z
  ·exact hx z
  ·exact absurd (az (Heap.lt_size e) z) (bD _)
 have cellK:∀ x c,X.env.cells.lookup x=some c->∀ v,s.heap.IsCell c v->h'.IsCell c v:=fun x c e v ⟨o,ho,hd⟩=>by
  have nch:c ∉ ch:=fun z=>(hch c z).2.2.1 x c e rfl;by_cases hc:c∈X.fs
  ·obtain⟨sl,q⟩:=slot c o (I.cne x c e) hc nch ho (I.freeC x c e);exact⟨_,q,hd⟩
  ·exact⟨o,keep c o (I.cne x c e) hc nch ho (I.freeC x c e),hd⟩
 refine⟨I.ok,I.os,hg,⟨fun b o e n hb hx=>?_,fun b o e n hb hx=>?_,fun b o e n hx=>?_,fun b o e hx=>?_,fun b xs e=>tups b xs (I.base.tups b xs e),fun b o xs e=>frzs b o xs (I.base.frzs b o xs e),fun b ps e=>?_⟩,?_,fun x c e=>?_,?_,fun x c e=>?_,fun p hp=>?_,hok,I.len⟩
 ·exact keep b o (neL b o e) hb (neC b o e hx) (I.base.keep b o e n hb hx) (I.base.free b o e n hx)
 ·obtain⟨sl,e1⟩:=I.base.slot b o e n hb hx;obtain⟨sl',e2⟩:=slot b _ (neL b o e) hb (neC b o e hx) e1 (I.base.free b o e n hx);exact⟨sl',e2⟩
 ·obtain⟨o',e1⟩:=I.base.there b o e hx;exact free b o' (neC b o e hx) e1 (I.base.free b o e n hx)
 ·obtain⟨o',e1⟩:=I.base.there b o e hx;exact there b o' (neC b o e hx) e1
 ·obtain⟨m1,e1⟩:=I.base.tbls b ps e;obtain⟨m2,e2⟩:=tbls b _ e1;exact⟨m1++m2,by rw [e2,Array.append_assoc]⟩
 ·obtain⟨m,hn,hl⟩:=I.loc;refine⟨m,ns m hn,fun i x v e1 e2 e3=>?_⟩;obtain⟨u,r,l⟩:=hl i x v e1 e2 e3;refine⟨u,r,?_⟩;rcases l with l|⟨k,c,e,z⟩
  ·exact .inl l
  ·exact .inr ⟨k,c,e,cellK x c e _ z⟩
 ·obtain⟨v,z⟩:=I.cell x c e;exact⟨v,cellK x c e v z⟩
 ·obtain⟨m,⟨o,_,_,ho,_⟩,_⟩:=I.loc;exact free _ o (fun z=>(hch _ z).2.1 rfl) ho I.free
 ·obtain⟨v,o,ho,hd⟩:=I.cell x c e;exact free c o (fun z=>(hch c z).2.2.1 x c e rfl) ho (I.freeC x c e)
 ·obtain⟨e,n,ne,nf,d⟩:=I.pin p hp;have nch:p.1 ∉ ch:=fun z=>(hch p.1 z).2.2.2 p hp rfl;exact⟨keep p.1 p.2 ne nf nch e n,free p.1 p.2 nch e n,ne,nf,d⟩
theorem Inv.un{t':Nat}(I:Inv X pins σ H s)(u:Un X.fs [] H H' s.heap h')(hok:HOk X.prog X.w H' h'):Inv X pins σ H' { s with heap:=h',toks:=t' }:=by
 obtain⟨m,⟨o,es,ep,ho,r⟩,_⟩:=id I.loc;obtain⟨sl,hL⟩:=u.any ho I.free (by simp);exact I.step (g':=s.gens) (d':=s.drawn) (ch:=[]) (fun _ z=>nomatch z) (fun b o _ hb _ e n=>u.keep b o e n hb (by simp)) (fun b o _ hb _ e n=>u.slot b o e n hb (by simp)) (fun b o _ e n=>u.free b o e n (by simp)) (fun b o _ e=>u.there b o e (by simp)) u.tups u.frzs u.tbls (fun m' hm=>by
  obtain⟨o',es',ep',ho',r'⟩:=hm;rw [ho] at ho';cases ho';exact⟨_,es',ep',hL,r'⟩) hok I.bare
theorem Inv.call{g':Array GenState}{t':Nat}{d':Drawn}{ch:List Addr}(I:Inv X pins σ H s)(u:Un (AG X.stack) ch H H' s.heap h')(hok:HOk X.prog X.w H' h')(hg:AllBare g')
  (hch:∀ b∈ch,(b∈X.ex\/X.s₀.heap.objs.size<=b)/\b≠X.env.locals/\(∀ x c,X.env.cells.lookup x=some c->c≠b)/\∀ p∈X.pn++pins,p.1≠b) :
  Inv X pins σ H' { s with heap:=h',gens:=g',drawn:=d',toks:=t' }:=by
 obtain⟨m,⟨o,es,ep,ho,r⟩,_⟩:=id I.loc;obtain⟨sl,hL⟩:=u.any ho I.free fun z=>(hch _ z).2.1 rfl;exact I.step (ch:=ch) hch (fun b o hL hb hc e n=>u.keep b o e n (fun z=>(ak.mp (I.stkSub b z)).elim hL hb) hc) (fun b o _ _ hc e n=>u.any e n hc) (fun b o hc e n=>u.free b o e n hc) (fun b o hc e=>u.there b o e hc) u.tups u.frzs u.tbls (fun m' hm=>by
  obtain⟨o',es',ep',ho',r'⟩:=hm;rw [ho] at ho';cases ho';exact⟨_,es',ep',hL,r'⟩) hok hg
theorem Inv.turned{t':Nat}{it:Addr}(I:Inv X pins σ H s)(k:∀ b o,b≠it->s.heap.get? b=some o->h'.get? b=some o)(hn:H it=none)(hL:it≠X.env.locals)
  (h1:it∈X.ex\/X.s₀.heap.objs.size<=it) (h2:∀ x c,X.env.cells.lookup x=some c->c≠it) (h3:∀ p∈X.pn++pins,p.1≠it):Inv X pins σ H { s with heap:=h',toks:=t' }:=by
 have nit:∀ b u,H b=some u->b≠it:=fun b u e z=>by rw [z,hn] at e;cases e
 refine I.step (g':=s.gens) (d':=s.drawn) (ch:=[it]) (fun b hb=>?_) (fun b o _ _ hc e _=>k b o (fun z=>hc (by simp [z])) e) (fun b o _ _ hc e _=>⟨o.slots,k b o (fun z=>hc (by simp [z])) e⟩) (fun _ _ _ _ n=>n)
  (fun b o hc e=>⟨o,k b o (fun z=>hc (by simp [z])) e⟩) (fun _ _ e=>e) (fun _ _ _ e=>e) (fun b ps e=>⟨#[],by rw [e];simp⟩) (fun m hm=>?_) (fun b u e=>?_) I.bare
 ·have e:b=it:=by simpa using hb
  subst e;exact⟨h1,hL,h2,h3⟩
 ·obtain⟨o,es,ep,ho,r⟩:=hm;exact⟨o,es,ep,k _ o (Ne.symm hL) ho,r⟩
 ·refine (I.hok b u e).stay (fun c v hc q=>k c v ?_ q) (fun _ q=>q) fun _ _ q=>q;rcases hc with z|z
  ·rw [z];exact nit b u e
  ·exact nit c _ z
theorem Inv.tok(I:Inv X pins σ H s)(t:Nat):Inv X pins σ H { s with toks:=t }:=I.un (h':=s.heap) (t':=t) Un.refl I.hok
theorem Inv.kept{t':Nat}(I:Inv X pins σ H s)(k:∀ b u,s.heap.get? b=some u->h'.get? b=some u):Inv X pins σ H { s with heap:=h',toks:=t' }:=I.un (Un.kept k) (I.hok.kept k)
theorem Inv.laid{a:Addr}{o:HO}{t':Nat}(I:Inv X pins σ H s)(k:∀ b u,s.heap.get? b=some u->h'.get? b=some u)(hp:s.heap.objs.size<=a)(new:ObjOk X.prog X.w (qR H a o) h' a o) :
  Inv X pins σ (qR H a o) { s with heap:=h',toks:=t' }:=I.un (Un.laid k hp (I.hok.fresh hp)) (I.hok.laid k hp new)
theorem Inv.write{x e:Addr}{o:HO}{t':Nat}(I:Inv X pins σ H s)(mu:JR (H x))(he:e=x\/H e=some (.own x))(k:∀ b u,b≠e->s.heap.get? b=some u->h'.get? b=some u)(heo:∃ u,h'.get? e=some u)
  (new:ObjOk X.prog X.w (qR H x o) h' x o):Inv X pins σ (qR H x o) { s with heap:=h',toks:=t' }:=I.un (Un.write mu he k heo) (I.hok.write mu he k heo new)
theorem Inv.pins_of{pins':List (Addr×Obj)}(I:Inv X pins σ H s)(h:∀ p∈pins',s.heap.get? p.1=some p.2/\H p.1=none/\p.1≠X.env.locals/\p.1 ∉ X.fs/\∀ v,p.2.data ≠ .cell v):Inv X pins' σ H s :=
 ⟨I.ok,I.os,I.bare,I.base,I.loc,I.cell,I.free,I.freeC,fun p hp=>(aM.mp hp).elim (fun z=>I.pin p (cx _ z)) (h p),I.hok,I.len⟩
theorem ya{N:List Str}(hN:N.Nodup){i j:Nat}{x:Str}(a:N[i]? = some x)(b:N[j]? = some x):i=j:=by
 obtain⟨h1,e1⟩:=aj.mp a;obtain⟨h2,e2⟩:=aj.mp b;exact (List.getElem_inj hN).mp (e1.trans e2.symm)
theorem wf{M:Model}{A:Around}{E:Value->Shared->Prop}{i:Nat}{x:Str}{v:V}{u:Value}{Q:Unit->Shared->Prop}(I:Inv X pins σ H s)(hN:X.N.Nodup)(hi:X.N[i]? = some x)(hx:By X.env.scope x)(r:RelV v u)
  (h:∀ s',Inv X pins (σ.set i (some v)) H s'->(∃ a,Heap.SameBut a s.heap s'.heap/\(a=X.env.locals\/X.env.cells.lookup x=some a))->Q () s') (hf:X.fn x=true\/X.env.scope.names.lookup x=some .local:=by first|exact .inl rfl|exact .inr rfl|assumption):wpAny M A (storeName X.env x u) Q E s:=by
 obtain⟨m,hn,hl⟩:=id I.loc;have hcls:(X.env.scope.kind == .class || (X.env.scope.kind == .module && X.env.locals != X.env.globals))=false:=by rw [I.ok.kind];rfl
 have hiσ:i<σ.length:=by rw [I.len];exact (aj.mp hi).1
 have cne:=I.cne;have tracked:∀{a:Addr} {h':Heap},(∃ o,s.heap.get? a=some o/\H a=none)->Heap.SameBut a s.heap h'->HOk X.prog X.w H h':=fun {a h'} ha hs b ob e=>by
  obtain⟨_,_,hfree⟩:=ha;refine (I.hok b ob e).stay (fun c w' hc q=>(hs.2 c ?_).trans q) (fun _ q=>q) fun _ _ q=>q;rintro rfl;rcases hc with rfl|hc
  ·rw [hfree] at e;cases e
  ·rw [hfree] at hc;cases hc
 rcases hx with hk|hk
 ·refine wpAny_storeName_local hk hn (fun h' hn' hs=>?_) hcls;obtain⟨oL,_,_,hoL,_⟩:=id hn;refine h _ ⟨I.ok,I.os,I.bare,⟨fun b o e n hb hx=>?_,fun b o e n hb hx=>?_,I.base.free,fun b o e hx=>?_,I.base.tups,I.base.frzs,I.base.tbls⟩,⟨_,hn',fun j y v' e1 e2 e3=>?_⟩,fun y c e=>?_,I.free,I.freeC,fun p hp=>?_,tracked ⟨oL,hoL,I.free⟩ hs,by simpa using I.len⟩ ⟨_,hs,.inl rfl⟩
  ·exact (hs.2 b (aX (az (Heap.lt_size e) I.ok.above))).trans (I.base.keep b o e n hb hx)
  ·obtain⟨sl,e1⟩:=I.base.slot b o e n hb hx;exact⟨sl,(hs.2 b (aX (az (Heap.lt_size e) I.ok.above))).trans e1⟩
  ·obtain⟨o',e1⟩:=I.base.there b o e hx;exact⟨o',(hs.2 b (aX (az (Heap.lt_size e) I.ok.above))).trans e1⟩
  ·by_cases hj:j=i
   ·subst hj;rw [hi] at e1;cases e1;rw [du hiσ] at e2;cases e2;exact⟨u,r,.inl ⟨hk,by simp⟩⟩
   ·rw [aH (Ne.symm hj)] at e2;obtain⟨u',r',q⟩:=hl j y v' e1 e2 e3;refine⟨u',r',?_⟩;rcases q with⟨k,e⟩|⟨k,c,e,z⟩
    ·refine .inl ⟨k,?_⟩;have:y≠x:=fun e=>hj (ya hN e1 (e ▸ hi));simp [this,e]
    ·exact .inr ⟨k,c,e,z.sameBut hs (cne y c e)⟩
  ·obtain⟨w',z⟩:=I.cell y c e;exact⟨w',z.sameBut hs (cne y c e)⟩
  ·obtain⟨e,n,ne,nf,d⟩:=I.pin p hp;exact⟨(hs.2 p.1 ne).trans e,n,ne,nf,d⟩
 ·have hfn:X.fn x=true:=by
   rcases hf with z|z
   ·exact z
   ·rw [z] at hk;cases hk
  obtain⟨c,hc⟩:=I.ok.has x (.inl hk);obtain⟨w',z⟩:=I.cell x c hc;refine wpAny_storeName_cell I.ok.kind hk hc z (fun h' hc' hs=>?_);obtain⟨oc,hoc,hocd⟩:=id z;refine h { s with heap:=h' } ⟨I.ok,I.os,I.bare,⟨fun b o e n hb hx=>?_,fun b o e n hb hx=>?_,I.base.free,fun b o e hx=>?_,I.base.tups,I.base.frzs,I.base.tbls⟩,⟨m,hn.sameBut hs (Ne.symm (cne x c hc)),fun j y v' e1 e2 e3=>?_⟩,fun y c' e=>?_,I.free,I.freeC,fun p hp=>?_,tracked ⟨oc,hoc,I.freeC x c hc⟩ hs,by simpa using I.len⟩ ⟨c,hs,.inr hc⟩
  ·exact (hs.2 b (aX (az (Heap.lt_size e) (I.ok.cab x c hfn hc)))).trans (I.base.keep b o e n hb hx)
  ·obtain⟨sl,e1⟩:=I.base.slot b o e n hb hx;exact⟨sl,(hs.2 b (aX (az (Heap.lt_size e) (I.ok.cab x c hfn hc)))).trans e1⟩
  ·obtain⟨o',e1⟩:=I.base.there b o e hx;exact⟨o',(hs.2 b (aX (az (Heap.lt_size e) (I.ok.cab x c hfn hc)))).trans e1⟩
  ·by_cases hj:j=i
   ·subst hj;rw [hi] at e1;cases e1;rw [du hiσ] at e2;cases e2;exact⟨u,r,.inr ⟨.inl hk,c,hc,hc'⟩⟩
   ·rw [aH (Ne.symm hj)] at e2;obtain⟨u',r',q⟩:=hl j y v' e1 e2 e3;refine⟨u',r',?_⟩;rcases q with q|⟨k,c',e,z'⟩
    ·exact .inl q
    ·refine .inr ⟨k,c',e,z'.sameBut hs ?_⟩;rintro rfl;exact hj (ya hN e1 (I.ok.inj _ _ _ e hc ▸ hi))
  ·by_cases hcc:c'=c
   ·subst hcc;exact⟨_,hc'⟩
   ·obtain⟨w2,z2⟩:=I.cell y c' e;exact⟨w2,z2.sameBut hs hcc⟩
  ·obtain⟨e,n,ne,nf,d⟩:=I.pin p hp;refine⟨(hs.2 p.1 ?_).trans e,n,ne,nf,d⟩;intro q;rw [q,hoc] at e;have q':oc=p.2:=Option.some.inj e;exact d w' (by rw [← q'];exact hocd)
theorem sV{M:Model}{A:Around}{E:Value->Shared->Prop}{i:Nat}{x:Str}{v:V}{u:Value}{Q:Unit->Shared->Prop}(I:Inv X pins σ H s)(hN:X.N.Nodup)(hi:X.N[i]? = some x)(hx:By X.env.scope x)(r:RelV v u)
  (h:∀ s',Inv X pins (σ.set i (some v)) H s'->Q () s') (hf:X.fn x=true\/X.env.scope.names.lookup x=some .local:=by first|exact .inl rfl|exact .inr rfl|assumption):wpAny M A (storeName X.env x u) Q E s :=
 wf I hN hi hx r (fun s' I' _=>h s' I') hf
theorem Inv.call'{s':Shared}{ch:List Addr}(I:Inv X pins σ H s)(ho:s'.os=s.os)(u:Un (AG X.stack) ch H H' s.heap s'.heap)(hok:HOk X.prog X.w H' s'.heap)(hg:AllBare s'.gens)
  (hch:∀ b∈ch,(b∈X.ex\/X.s₀.heap.objs.size<=b)/\b≠X.env.locals/\(∀ x c,X.env.cells.lookup x=some c->c≠b)/\∀ p∈X.pn++pins,p.1≠b):Inv X pins σ H' s':=by
 obtain⟨h',g',d',t',o'⟩:=s';have e:o'=s.os:=ho;subst e;exact I.call (g':=g') (t':=t') (d':=d') u hok hg hch
end
abbrev XK:=Value->Option Addr->Hp->Prop
abbrev St:=List (Option V)
abbrev VK:=V->Hp->Prop
abbrev TE:=St->Hp->VK->Prop
abbrev TT:=St->Hp->(Bool->Hp->Prop)->Prop
abbrev TA:=St->Hp->(List V->Hp->Prop)->Prop
structure Ends where
 nx:St->Hp->Prop
 rt:VK
 bk:St->Hp->Prop:=fun _ _=>False
 ct:St->Hp->Prop:=fun _ _=>False
abbrev TS:=Ends->St->Hp->Prop
def EP(X:Cx)(pins:List (Addr×Obj))(σ:St)(Q:VK)(u:Value)(s':Shared):Prop:=∃ v H',Inv X pins σ H' s'/\RelV v u/\Q v H'
def TP(X:Cx)(pins:List (Addr×Obj))(σ:St)(Q:Bool->Hp->Prop)(b:Bool)(s':Shared):Prop:=∃ H',Inv X pins σ H' s'/\Q b H'
def AP(X:Cx)(pins:List (Addr×Obj))(σ:St)(Q:List V->Hp->Prop)(us:List Value)(s':Shared):Prop:=∃ vs H',Inv X pins σ H' s'/\Vals vs us/\Q vs H'
def SP(X:Cx)(pins:List (Addr×Obj))(D:Ends)(f:Flow)(s':Shared):Prop :=
 match f with
 | .next=>∃ σ' H',Inv X pins σ' H' s'/\D.nx σ' H'
 | .brk=>∃ σ' H',Inv X pins σ' H' s'/\D.bk σ' H'
 | .cont=>∃ σ' H',Inv X pins σ' H' s'/\D.ct σ' H'
 | .ret u=>∃ v σ' H',Inv X pins σ' H' s'/\RelV v u/\D.rt v H'
def PE(X:Cx)(e:Expr)(t:TE):Prop :=
 ∀(pins:List (Addr×Obj)) (s:Shared) (σ:St) (H:Hp) (Q:VK),Inv X pins σ H s->t σ H Q->wpAny (model X.prog X.w) X.A (eval e X.env) (EP X pins σ Q) X.xe s
def PT(X:Cx)(e:Expr)(t:TT):Prop :=
 ∀(pins:List (Addr×Obj)) (s:Shared) (σ:St) (H:Hp) (Q:Bool->Hp->Prop),Inv X pins σ H s->t σ H Q->wpAny (model X.prog X.w) X.A (isTrue e X.env (eval e X.env)) (TP X pins σ Q) X.xe s
def PW(X:Cx)(e:Expr)(t:TT):Prop :=
 ∀(whole:Sem Value) (pins:List (Addr×Obj)) (s:Shared) (σ:St) (H:Hp) (Q:Bool->Hp->Prop),Inv X pins σ H s->t σ H Q->wpAny (model X.prog X.w) X.A (isTrue e X.env whole) (TP X pins σ Q) X.xe s
theorem PW.pt{X:Cx}{e:Expr}{t:TT}(h:PW X e t):PT X e t:=h _
def PA(X:Cx)(es:List Expr)(t:TA):Prop :=
 ∀(pos:Pos) (pins:List (Addr×Obj)) (s:Shared) (σ:St) (H:Hp) (Q:List V->Hp->Prop),Inv X pins σ H s->t σ H Q->wpAny (model X.prog X.w) X.A (spliced (backTo pos (starEach es X.env))) (AP X pins σ Q) X.xe s
def PS(X:Cx)(st:Stmt)(t:TS):Prop :=
 ∀(pins:List (Addr×Obj)) (s:Shared) (σ:St) (H:Hp) (D:Ends),Inv X pins σ H s->t D σ H->wpAny (model X.prog X.w) X.A (exec st X.env) (SP X pins D) X.xe s
def PSs(X:Cx)(st:List Stmt)(t:TS):Prop :=
 ∀(pins:List (Addr×Obj)) (s:Shared) (σ:St) (H:Hp) (D:Ends),Inv X pins σ H s->t D σ H->wpAny (model X.prog X.w) X.A (execs st X.env) (SP X pins D) X.xe s
theorem qI{α:Type}{t:Sem α}{Q Q':α->Shared->Prop}{M:Model}{A:Around}{E:Value->Shared->Prop}{s:Shared}(h:wpAny M A t Q E s)(hQ:∀ a s,Q a s->Q' a s):wpAny M A t Q' E s:=wpAny_mono h hQ fun _ _ x=>x
end L2
namespace L2
open PySem PySem.Spec PyProof.Rows
section
variable{X:Cx}
def uc(i:Nat):TE:=fun σ H Q=>∃ v,σ[i]? = some (some v)/\Q v H
def tC(v:V):TE:=fun _ H Q=>Q v H
theorem yR{i:Nat}{x:Str}{pos:Pos}(hN:X.N[i]? = some x)(hv:FB X.env.scope x)(hd:(x == ("__debug__" : Str))=false:=by decide)(hcd:(x == ("__classdict__" : Str))=false:=by decide):PE X (.Name x pos) (uc i):=by
 intro pins s σ H Q I h;obtain⟨v,e,h⟩:=h;obtain⟨m,hn,hl⟩:=I.loc;obtain⟨u,r,l⟩:=hl i x v hN e hv;have fin:EP X pins σ Q u s:=⟨v,H,I,r,h⟩;rcases l with⟨hk,hm⟩|⟨hk,c,hc,hcell⟩
 ·exact wpAny_Name (wpAny_loadName_local I.ok.kind hk hn hm fin) hd
 ·rcases hk with hk|hk
  ·exact wpAny_Name (wpAny_loadName_cell I.ok.kind hk hc hcell fin) hd
  ·exact wpAny_Name (wpAny_loadName_free I.ok.kind hk hc hcell fin hcd) hd
theorem qq{i j pos}:PE X (.Constant (.int i) j pos) (tC (.int i)):=fun _ _ _ H _ I h=>wpAny_Constant_int ⟨.int i,H,I.tok _,⟨_,rfl⟩,h⟩
theorem Cu{b j pos}:PE X (.Constant (.bool b) j pos) (tC (.bl b)):=fun _ _ _ H _ I h=>Constant_bool ⟨.bl b,H,I,rfl,h⟩
theorem Gn{j pos}:PE X (.Constant .none j pos) (tC .non):=fun _ _ _ H _ I h=>Constant_none ⟨.non,H,I,rfl,h⟩
theorem Gk{x j pos}:PE X (.Constant (.str x) j pos) (tC (.str x)):=fun _ _ _ H _ I h=>Calls.Constant_str ⟨.str x,H,I.tok _,⟨_,rfl⟩,h⟩
def Gl(X:Cx)(x:Str):Prop:=X.env.kindOf x=some .globalImplicit
theorem Av{E:Value->Shared->Prop}{pins:List (Addr×Obj)}{s:Shared}{σ:St}{H:Hp}{x:Str}{u:Value}{pos:Pos}{Q:Value->Shared->Prop}(I:Inv X pins σ H s)(hg:Gl X x)(hm:X.mg x=some u)(h:Q u s)
  (hd:(x == ("__debug__" : Str))=false:=by decide):wpAny (model X.prog X.w) X.A (eval (.Name x pos) X.env) Q E s :=
 Calls.Name_function_global I.ok.kind hg (Calls.loadGlobal_global (by rw [I.ok.glob];exact I.mod.glob.keeps I.bk) hm h) hd
theorem tw{E:Value->Shared->Prop}{pins:List (Addr×Obj)}{s:Shared}{σ:St}{H:Hp}{x:Str}{u:Value}{pos:Pos}{Q:Value->Shared->Prop}(I:Inv X pins σ H s)(hg:Gl X x)(hm:X.mg x=none)(hv:bootBuiltins x=some u)(h:Q u s)
  (hn:x ≠ "__name__" := by decide) (hd:(x == ("__debug__" : Str))=false:=by decide):wpAny (model X.prog X.w) X.A (eval (.Name x pos) X.env) Q E s:=by
 obtain⟨mb,h1,h2⟩:=I.mod.blt;exact Calls.Name_function_global I.ok.kind hg (Calls.loadGlobal_builtin (by rw [I.ok.glob];exact I.mod.glob.keeps I.bk) hm (by rw [I.ok.blt];exact h1.keeps I.bk) ((h2 x hn).trans hv) h) hd
theorem D3{x:Str}{v:V}{u:Value}{pos:Pos}(hg:Gl X x)(hm:X.mg x=some u)(r:RelV v u)(hd:(x == ("__debug__" : Str))=false:=by decide):PE X (.Name x pos) (tC v) :=
 fun _ _ _ H _ I h=>Av I hg hm ⟨v,H,I,r,h⟩ hd
theorem rM{x:Str}{v:V}{u:Value}{pos:Pos}(hg:Gl X x)(hm:X.mg x=none)(hv:bootBuiltins x=some u)(r:RelV v u)(hn:x ≠ "__name__" := by decide)(hd:(x == ("__debug__" : Str))=false:=by decide):PE X (.Name x pos) (tC v) :=
 fun _ _ _ H _ I h=>tw I hg hm hv ⟨v,H,I,r,h⟩ hn hd
def Lu(ta tb:TE)(k:Int->Int->Hp->Prop):St->Hp->Prop:=fun σ H=>ta σ H fun x H1=>tb σ H1 fun y H2=>∃ i j,x = .int i/\y = .int j/\k i j H2
variable{a b:Expr}{ta tb:TE}{pos:Pos}
def Lr(p:Int->Int->Bool)(ta tb:TE):TE:=fun σ H Q=>Lu ta tb (fun i j H2=>Q (.bl (p i j)) H2) σ H
variable{tA tB':TT}{rest:List Expr}
def HU(t u:TT):TT:=fun σ H Q=>t σ H fun c H1=>if c=true then u σ H1 Q else Q false H1
def K2(t u:TT):TT:=fun σ H Q=>t σ H fun c H1=>if c=true then Q true H1 else u σ H1 Q
def J0(t:TT):TT:=fun σ H Q=>t σ H fun c H1=>Q (!c) H1
theorem Ah(ha:PT X a tA):PW X (.BoolOp .And [a] pos) tA:=by
 intro wh pins s σ H Q I h;refine isTrue_and (qI (ha pins s σ H Q I h) fun c s1 e=>?_);cases c with
 | true=>exact isTrue_and_nil e
 | false=>exact e
theorem Ge(ha:PT X a tA):PW X (.BoolOp .Or [a] pos) tA:=by
 intro wh pins s σ H Q I h;refine isTrue_or (qI (ha pins s σ H Q I h) fun c s1 e=>?_);cases c with
 | false=>exact isTrue_or_nil e
 | true=>exact e
theorem Cf(ha:PT X a tA)(hb:PW X (.BoolOp .And (b::rest) pos) tB'):PW X (.BoolOp .And (a::b::rest) pos) (HU tA tB'):=by
 intro wh pins s σ H Q I h;refine isTrue_and (qI (ha pins s σ H _ I h) fun c s1 ⟨H1,I1,q1⟩=>?_);cases c with
 | true=>exact hb wh pins s1 σ H1 Q I1 q1
 | false=>exact⟨H1,I1,q1⟩
theorem Im(ha:PT X a tA)(hb:PW X (.BoolOp .Or (b::rest) pos) tB'):PW X (.BoolOp .Or (a::b::rest) pos) (K2 tA tB'):=by
 intro wh pins s σ H Q I h;refine isTrue_or (qI (ha pins s σ H _ I h) fun c s1 ⟨H1,I1,q1⟩=>?_);cases c with
 | true=>exact⟨H1,I1,q1⟩
 | false=>exact hb wh pins s1 σ H1 Q I1 q1
theorem Gf(ha:PT X a tA):PT X (.UnaryOp .Not a pos) (J0 tA):=by
 intro pins s σ H Q I h;exact isTrue_not (ha pins s σ H (fun c H1=>Q (!c) H1) I h)
def HS(ta tb:TE):TE:=fun σ H Q=>ta σ H fun x H1=>∃ c,x = .bl c/\if c=true then tb σ H1 Q else Q (.bl false) H1
def JZ(ta tb:TE):TE:=fun σ H Q=>ta σ H fun x H1=>∃ c,x = .bl c/\if c=true then Q (.bl true) H1 else tb σ H1 Q
def HP(ta:TE):TE:=fun σ H Q=>ta σ H fun x H1=>∃ c,x = .bl c/\Q (.bl (!c)) H1
theorem yS{op}{t:TE}(h:PE X a t):PE X (.BoolOp op [a] pos) t:=fun pins s σ H Q I hw=>BoolOp_one (h pins s σ H Q I hw)
theorem yV(ha:PE X a ta)(hb:PE X (.BoolOp .And (b::rest) pos) tb):PE X (.BoolOp .And (a::b::rest) pos) (HS ta tb):=by
 intro pins s σ H Q I h;refine BoolOp_and (qI (ha pins s σ H _ I h) fun v s1 ⟨x,H1,I1,r1,q1⟩=>?_);obtain⟨c,rfl,q1⟩:=q1;cases r1;refine wpAny_truthy_bool ?_;cases c with
 | true=>exact hb pins s1 σ H1 Q I1 q1
 | false=>exact⟨.bl false,H1,I1,rfl,q1⟩
theorem Ip(ha:PE X a ta)(hb:PE X (.BoolOp .Or (b::rest) pos) tb):PE X (.BoolOp .Or (a::b::rest) pos) (JZ ta tb):=by
 intro pins s σ H Q I h;refine BoolOp_or (qI (ha pins s σ H _ I h) fun v s1 ⟨x,H1,I1,r1,q1⟩=>?_);obtain⟨c,rfl,q1⟩:=q1;cases r1;refine wpAny_truthy_bool ?_;cases c with
 | false=>exact hb pins s1 σ H1 Q I1 q1
 | true=>exact⟨.bl true,H1,I1,rfl,q1⟩
theorem Gm(ha:PE X a ta):PE X (.UnaryOp .Not a pos) (HP ta):=by
 intro pins s σ H Q I h;refine UnaryOp_ (qI (ha pins s σ H _ I h) fun v s1 ⟨x,H1,I1,r1,q1⟩=>?_);obtain⟨c,rfl,q1⟩:=q1;cases r1;exact not_of (wpAny_truthy_bool ⟨.bl (!c),H1,I1,rfl,q1⟩)
def Lq(t:TT)(ta tb:TE):TE:=fun σ H Q=>t σ H fun c H1=>if c=true then ta σ H1 Q else tb σ H1 Q
theorem Cq{c:Expr}(hc:PT X c tA)(ha:PE X a ta)(hb:PE X b tb):PE X (.IfExp c a b pos) (Lq tA ta tb):=by
 intro pins s σ H Q I h;refine wpAny_IfExp (qI (hc pins s σ H _ I h) fun d s1 ⟨H1,I1,q1⟩=>?_);cases d with
 | true=>exact ha pins s1 σ H1 Q I1 q1
 | false=>exact hb pins s1 σ H1 Q I1 q1
end
end L2
namespace L2
open PySem PySem.Spec PyProof.Rows
def SqL(K:Frag)(H:Hp)(a:Addr)(xs:List V):Prop :=
 Rd H a (.lst xs) \/
  ∃(o:Obj) (its:Array Value) (n:Nat),K.lookup a=some o/\o.cls = .type "list" /\ o.dict=none/\o.data = .seq its n/\its.size<=sizeLine/\Vals xs its.toList
def SqT(K:Frag)(H:Hp)(a:Addr)(xs:List V):Prop :=
 Rd H a (.tup xs) \/
  ∃(o:Obj) (its:Array Value) (n:Nat),K.lookup a=some o/\o.cls = .type "tuple" /\ o.data = .seq its n/\its.size<=sizeLine/\Vals xs its.toList
def KQ:Value->Option V
 | .none=>some .non
 | .bool b=>some (.bl b)
 | .int i _=>some (.int i)
 | .str x _=>some (.str x)
 | .bytes b _=>some (.byt b)
 | .float b _=>some (.flt b)
 | .ref a=>some (.ref a)
 | .type n=>some (.ty n)
 | _=>none
theorem RelV.abs{x:V}{u:Value}(r:RelV x u):KQ u=some x:=by
 cases x with
 | non=>cases r;rfl
 | bl _=>cases r;rfl
 | int _=>obtain⟨t,rfl⟩:=r;rfl
 | str _=>obtain⟨t,rfl⟩:=r;rfl
 | byt _=>obtain⟨t,rfl⟩:=r;rfl
 | flt _=>obtain⟨t,rfl⟩:=r;rfl
 | ref _=>cases r;rfl
 | ty _=>cases r;rfl
theorem RelV.inj{x y:V}{u:Value}(r:RelV x u)(q:RelV y u):x=y:=Option.some.inj (r.abs.symm.trans q.abs)
theorem Vals.inj:∀{xs ys:List V} {us:List Value},Vals xs us->Vals ys us->xs=ys
 | _,_,_,.nil,.nil=>rfl
 | _,_,_,.cons r t,.cons r' t'=>by rw [r.inj r',Vals.inj t t']
section
variable{X:Cx}{pins:List (Addr×Obj)}{σ:St}{H:Hp}{s:Shared}{a:Addr}{xs ys:List V}
theorem SqL.of{K:Frag}(h:H a=some (.lst xs)):SqL K H a xs:=.inl (.inl h)
theorem SqT.of{K:Frag}(h:H a=some (.tup xs)):SqT K H a xs:=.inl (.inl h)
theorem Inv.list(I:Inv X pins σ H s)(h:SqL X.K H a xs):∃ its:List Value,Vals xs its/\PlainL s.heap a its.toArray/\xs.length<=sizeLine:=by
 rcases h with h|⟨o,its,n,hk,hc,hd,hs,hz,r⟩
 ·obtain⟨z,its,n,r,e⟩:=h.ok I.hok;exact⟨its,r,⟨_,n,e,rfl,rfl,rfl⟩,z⟩
 ·refine⟨its.toList,r,⟨o,n,I.kIn a o hk,hc,hd,by simpa using hs⟩,?_⟩;have e:=r.length;simp only [dM] at e;omega
theorem Inv.tuple(I:Inv X pins σ H s)(h:SqT X.K H a xs):∃ its:List Value,Vals xs its/\IsTup s.heap a its.toArray/\xs.length<=sizeLine:=by
 rcases h with h|⟨o,its,n,hk,hc,hs,hz,r⟩
 ·obtain⟨z,its,r,p⟩:=h.ok I.hok;exact⟨its,r,p,z⟩
 ·refine⟨its.toList,r,⟨o,I.kIn a o hk,hc,n,by simpa using hs⟩,?_⟩;have e:=r.length;simp only [dM] at e;omega
theorem Inv.list_inj(I:Inv X pins σ H s)(h:SqL X.K H a xs)(h':SqL X.K H a ys):xs=ys:=by
 obtain⟨its,r,⟨o,n,e,_,_,d⟩,_⟩:=I.list h;obtain⟨its',r',⟨o',n',e',_,_,d'⟩,_⟩:=I.list h';rw [e] at e';cases e';rw [d] at d';injection d' with d1 _;have:its=its':=by simpa using congrArg Array.toList d1
 subst this;exact r.inj r'
theorem Inv.tuple_inj(I:Inv X pins σ H s)(h:SqT X.K H a xs)(h':SqT X.K H a ys):xs=ys:=by
 obtain⟨its,r,⟨o,e,_,n,d⟩,_⟩:=I.tuple h;obtain⟨its',r',⟨o',e',_,n',d'⟩,_⟩:=I.tuple h';rw [e] at e';cases e';rw [d] at d';injection d' with d1 _;have:its=its':=by simpa using congrArg Array.toList d1
 subst this;exact r.inj r'
end
abbrev Cx.wish(X:Cx)(E:Value->Shared->Prop):Cx:={ X with xe:=E }
abbrev Cx.nox(X:Cx):Cx:=X.wish fun _ _=>False
theorem Cx.Ok.wish{X:Cx}(ok:X.Ok)(E:Value->Shared->Prop):(X.wish E).Ok :=
 ⟨ok.mod,ok.kind,ok.glob,ok.blt,ok.above,ok.inj,ok.has,ok.cab,ok.hd,ok.frames,ok.stk,ok.exf,ok.bs,ok.bsz,ok.noex,ok.exfs,ok.funs,ok.frf,ok.sr,ok.rn⟩
theorem Cx.Ok.unwish{X:Cx}{E:Value->Shared->Prop}(ok:(X.wish E).Ok):X.Ok :=
 ⟨ok.mod,ok.kind,ok.glob,ok.blt,ok.above,ok.inj,ok.has,ok.cab,ok.hd,ok.frames,ok.stk,ok.exf,ok.bs,ok.bsz,ok.noex,ok.exfs,ok.funs,ok.frf,ok.sr,ok.rn⟩
section
variable{X:Cx}{pins:List (Addr×Obj)}{σ:St}{H:Hp}{s:Shared}{E:Value->Shared->Prop}
theorem Inv.wish(I:Inv X pins σ H s)(E:Value->Shared->Prop):Inv (X.wish E) pins σ H s:=⟨I.ok.wish E,I.os,I.bare,I.base,I.loc,I.cell,I.free,I.freeC,I.pin,I.hok,I.len⟩
theorem Inv.unwish(I:Inv (X.wish E) pins σ H s):Inv X pins σ H s:=⟨I.ok.unwish,I.os,I.bare,I.base,I.loc,I.cell,I.free,I.freeC,I.pin,I.hok,I.len⟩
theorem SP.unwish{D:Ends}{f:Flow}{s':Shared}(h:SP (X.wish E) pins D f s'):SP X pins D f s':=by
 cases f with
 | next=>obtain⟨σ',H',I,q⟩:=h;exact⟨σ',H',I.unwish,q⟩
 | brk=>obtain⟨σ',H',I,q⟩:=h;exact⟨σ',H',I.unwish,q⟩
 | cont=>obtain⟨σ',H',I,q⟩:=h;exact⟨σ',H',I.unwish,q⟩
 | ret u=>obtain⟨v,σ',H',I,r,q⟩:=h;exact⟨v,σ',H',I.unwish,r,q⟩
theorem PSs.nox{st:List Stmt}{t:TS}(h:PSs X.nox st t):PSs X st t:=fun pins s σ H D I hw =>
 wpAny_mono (h pins s σ H D (I.wish _) hw) (fun _ _ q=>q.unwish) fun _ _ z=>False.elim z
end
section
variable{X:Cx}{st:Stmt}{rest:List Stmt}{t u:TS}{e:Expr}{te:TE}{pos:Pos}
def EX:TS:=fun D σ H=>D.nx σ H
def HK(t u:TS):TS:=fun D σ H=>t { D with nx:=u D } σ H
theorem pss_nil:PSs X [] EX:=fun _ _ σ H _ I h=>wpAny_execs_nil ⟨σ,H,I,h⟩
theorem rD(h1:PS X st t)(h2:PSs X rest u):PSs X (st::rest) (HK t u):=by
 intro pins s σ H D I h;refine wpAny_execs_cons (qI (h1 pins s σ H { D with nx:=u D } I h) fun f s1 q=>?_);cases f with
 | next =>
  obtain⟨σ',H',I',q⟩:=q;exact h2 pins s1 σ' H' D I' q
 | ret v=>exact q
 | brk=>exact q
 | cont=>exact q
theorem re(h1:PS X st t):PSs X [st] t:=by
 intro pins s σ H D I h;refine wpAny_execs_cons (qI (h1 pins s σ H D I h) fun f s1 q=>?_);cases f with
 | next=>exact wpAny_execs_nil q
 | ret v=>exact q
 | brk=>exact q
 | cont=>exact q
def FM:TS:=fun D σ H=>D.bk σ H
theorem ps_pass:PS X (.Pass pos) EX:=fun _ _ σ H _ I h=>wpAny_Pass ⟨σ,H,I,h⟩
theorem ps_break:PS X (.Break pos) FM:=fun _ _ σ H _ I h=>wpAny_Break ⟨σ,H,I,h⟩
theorem Inv.quiet{pins:List (Addr×Obj)}{σ:St}{H:Hp}{s:Shared}(I:Inv X pins σ H s):interactive X.env=false:=by simp [interactive,I.ok.kind]
def HQ(te:TE):TS:=fun D σ H=>te σ H fun _ H1=>D.nx σ H1
theorem Ai(he:PE X e te)(hs:swapsWith e none pos.line X.env=pure false:=by rfl):PS X (.Expr e pos) (HQ te):=by
 intro pins s σ H D I h;exact wpAny_Expr_any (qI (he pins s σ H _ I h) fun v s1 ⟨x,H1,I1,r1,q1⟩=>⟨σ,H1,I1,q1⟩) I.quiet hs
def JY(te:TE):TS:=fun D σ H=>te σ H D.rt
theorem tf(he:PE X e te):PS X (.Return (some e) pos) (JY te):=by
 intro pins s σ H D I h;exact wpAny_Return_some (qI (he pins s σ H _ I h) fun v s1 ⟨x,H1,I1,r1,q1⟩=>⟨x,σ,H1,I1,r1,q1⟩)
def HL:TS:=fun D _ H=>D.rt .non H
theorem ps_retN:PS X (.Return none pos) HL:=fun _ _ σ H _ I h=>wpAny_Return_none ⟨.non,σ,H,I,rfl,h⟩
def J2(c:TT)(t u:TS):TS:=fun D σ H=>c σ H fun b H1=>if b=true then t D σ H1 else u D σ H1
theorem vE{c:Expr}{a b:List Stmt}{tc:TT}(hc:PT X c tc)(ha:PSs X a t)(hb:PSs X b u):PS X (.If c a b pos) (J2 tc t u):=by
 intro pins s σ H D I h;refine wpAny_If (qI (hc pins s σ H _ I h) fun d s1 ⟨H1,I1,q1⟩=>?_);cases d with
 | true=>exact ha pins s1 σ H1 D I1 q1
 | false=>exact hb pins s1 σ H1 D I1 q1
end
abbrev TG:=V->St->Hp->(St->Hp->Prop)->Prop
abbrev ER:=List V->St->Hp->(St->Hp->Prop)->Prop
def PG(X:Cx)(target:Expr)(t:TG):Prop :=
 ∀(pins:List (Addr×Obj)) (s:Shared) (σ:St) (H:Hp) (v:V) (u:Value) (Q:St->Hp->Prop),Inv X pins σ H s->RelV v u->t v σ H Q ->
  wpAny (model X.prog X.w) X.A (assign target X.env u) (fun _ s'=>∃ σ' H',Inv X pins σ' H' s'/\Q σ' H') X.xe s
def ES(X:Cx)(ts:List Expr)(t:ER):Prop :=
 ∀(pins:List (Addr×Obj)) (s:Shared) (σ:St) (H:Hp) (vs:List V) (us:List Value) (Q:St->Hp->Prop),Inv X pins σ H s->Vals vs us->t vs σ H Q ->
  wpAny (model X.prog X.w) X.A (assignInOrder ((assignEach ts X.env).map (·.2)) us) (fun _ s'=>∃ σ' H',Inv X pins σ' H' s'/\Q σ' H') X.xe s
abbrev DA:=V->V->V->Hp->(Hp->Prop)->Prop
def Hy(X:Cx)(t:DA):Prop :=
 ∀(pins:List (Addr×Obj)) (s:Shared) (σ:St) (H:Hp) (o i v:V) (ov iv u:Value) (Q:Hp->Prop),Inv X pins σ H s->RelV o ov->RelV i iv->RelV v u->t o i v H Q ->
  wpAny (model X.prog X.w) X.A (setItem ov iv u) (fun _ s'=>∃ H',Inv X pins σ H' s'/\Q H') X.xe s
abbrev JA:=V->V->Hp->VK->Prop
def Lf(X:Cx)(op:Operator)(t:JA):Prop :=
 ∀(pins:List (Addr×Obj)) (s:Shared) (σ:St) (H:Hp) (x y:V) (v u:Value) (Q:VK),Inv X pins σ H s->RelV x v->RelV y u->t x y H Q ->
  wpAny (model X.prog X.w) X.A (inplaceOp op v u) (EP X pins σ Q) X.xe s
section
variable{X:Cx}{pos:Pos}
def wB(i:Nat):TG:=fun v σ H Q=>Q (σ.set i (some v)) H
theorem xb{i:Nat}{x:Str}(hN:X.N.Nodup)(hi:X.N[i]? = some x)(hx:By X.env.scope x)(hf:X.fn x=true\/X.env.scope.names.lookup x=some .local:=by first|exact .inl rfl|exact .inr rfl|assumption):PG X (.Name x pos) (wB i):=by
 intro pins s σ H v u Q I r h;exact wpAny_assign_Name (sV I hN hi hx r (fun s' I'=>⟨_,H,I',h⟩) hf)
def Ji:ER:=fun vs σ H Q=>vs=[]/\Q σ H
def Fo(t:TG)(u:ER):ER:=fun vs σ H Q=>∃ v r,vs=v::r/\t v σ H fun σ' H'=>u r σ' H' Q
theorem An:ES X [] Ji:=by
 intro pins s σ H vs us Q I r h;obtain⟨e,h⟩:=h;subst e;cases r;exact assignInOrder_nil ⟨σ,H,I,h⟩
theorem xT{e:Expr}{es:List Expr}{t:TG}{u:ER}(h1:PG X e t)(h2:ES X es u)
  (hs:(assignEach (e::es) X.env).map (·.2)=assign e X.env::(assignEach es X.env).map (·.2):=by rfl):ES X (e::es) (Fo t u):=by
 intro pins s σ H vs us Q I r h;obtain⟨v,vr,e1,h⟩:=h;subst e1;cases r with
 | cons r rr =>
  rw [hs];refine assignInOrder_cons (qI (h1 pins s σ H _ _ _ I r h) fun _ s1 ⟨σ1,H1,I1,q1⟩=>?_);exact h2 pins s1 σ1 H1 _ _ Q I1 rr q1
def GX(K:Frag)(n:Nat)(t:ER):TG:=fun v σ H Q=>∃ a xs,v = .ref a/\SqT K H a xs/\xs.length=n/\t xs σ H Q
theorem vH{es:List Expr}{k:Nat}{t:ER}{n:Nat}(hc:X.calm=true)(h:ES X es t)
  (hn:(assignEach es X.env).length=n:=by rfl) (hst:(assignEach es X.env).findIdx? (·.1)=none:=by rfl):PG X (.Tuple es k pos) (GX X.K n t):=by
 intro pins s σ H v u Q I r hw;obtain⟨a,xs,e1,hq,hl,hw⟩:=hw;subst e1;cases r;obtain⟨its,rv,ht,hz⟩:=I.tuple hq;refine assign_Tuple_tuple (I.ok.hd hc) ht (by simp [hn,← hl,rv.length]) hst fun h' hx=>?_;have I1:Inv X pins σ H { s with heap:=h' }:=I.kept (t':=s.toks) fun b o e=>hx b o (aX (Heap.lt_size e)) e;exact h pins _ σ H xs _ Q I1 (by simpa using rv) hw
def Jh(to ti:TE)(t:DA):TG:=fun v σ H Q=>to σ H fun o H1=>ti σ H1 fun i H2=>t o i v H2 fun H3=>Q σ H3
theorem t5{o i:Expr}{to ti:TE}{t:DA}(ho:PE X o to)(hi:PE X i ti)(hs:Hy X t)
  (ha:∀ v,assign (.Subscript o i pos) X.env v=(do
   let ov ← holding [v] (eval o X.env)
   let iv ← holding [v,ov] (eval i X.env)
   standAt pos
   holding [v,ov,iv] (setItem ov iv v)
   release [v,ov,iv] []):=by intro _;rfl):PG X (.Subscript o i pos) (Jh to ti t):=by
 intro pins s σ H v u Q I r h;rw [ha];refine wpAny_bind (wpAny_holding (qI (ho pins s σ H _ I h) fun ov s1 ⟨x,H1,I1,r1,q1⟩=>?_));refine wpAny_bind (wpAny_holding (qI (hi pins s1 σ H1 _ I1 q1) fun iv s2 ⟨y,H2,I2,r2,q2⟩=>?_));refine wpAny_bind (wpAny_standAt (wpAny_bind (wpAny_holding (qI (hs pins s2 σ H2 x y v ov iv u _ I2 r1 r2 r q2) fun _ s3 ⟨H3,I3,q3⟩=>?_))));exact wpAny_release ⟨σ,H3,I3,q3⟩
def FN(te:TE)(g:TG):TS:=fun D σ H=>te σ H fun x H1=>g x σ H1 D.nx
theorem tj{tg e:Expr}{te:TE}{g:TG}(he:PE X e te)(hg:PG X tg g)(hs:swapsWithSole [tg] e pos.line X.env=pure false:=by rfl)(hw:swappedStores [tg] e X.env=pure none:=by rfl)
  (h1:(assignEach [tg] X.env).map (·.2)=[assign tg X.env]:=by rfl):PS X (.Assign [tg] e pos) (FN te g):=by
 intro pins s σ H D I h;refine wpAny_Assign_stores (qI (he pins s σ H _ I h) fun v s1 ⟨x,H1,I1,r1,q1⟩=>?_) hs hw;rw [h1];exact qI (hg pins s1 σ H1 x v _ I1 r1 q1) fun _ s2 q=>q
theorem uD{i:Nat}{x:Str}{e:Expr}{te:TE}{pos':Pos}(hN:X.N.Nodup)(hi:X.N[i]? = some x)(hx:By X.env.scope x)(he:PE X e te)(hs:swapsWith e (some (.Name x pos')) pos.line X.env=pure false:=by rfl)(hf:X.fn x=true\/X.env.scope.names.lookup x=some .local:=by first|exact .inl rfl|exact .inr rfl|assumption) :
  PS X (.Assign [.Name x pos'] e pos) (FN te (wB i)):=by
 intro pins s σ H D I h;refine wpAny_Assign_Name (qI (he pins s σ H _ I h) fun v s1 ⟨y,H1,I1,r1,q1⟩=>?_) hs;exact sV I1 hN hi hx r1 (fun s2 I2=>⟨_,H1,I2,q1⟩) hf
def FL(i j:Nat)(ta:TA):TS:=fun D σ H=>ta σ H fun vs H1=>∃ v w,vs=[v,w]/\D.nx ((σ.set i (some v)).set j (some w)) H1
theorem Ck{i j:Nat}{x y:Str}{a b:Expr}{ta:TA}{px py pt:Pos}{kt k2 pt2}(hc:X.calm=true)(hN:X.N.Nodup)(hi:X.N[i]? = some x)(hj:X.N[j]? = some y)(hij:i≠j)
  (hx:X.env.scope.names.lookup x=some .local) (hy:X.env.scope.names.lookup y=some .local) (ha:PA X [a,b] ta)
  (hw:swappedStores [.Tuple [.Name x px,.Name y py] kt pt] (.Tuple [a,b] k2 pt2) X.env=pure (some [x,y]))
  (hs:swapsWithSole [.Tuple [.Name x px,.Name y py] kt pt] (.Tuple [a,b] k2 pt2) pos.line X.env=pure false:=by rfl) :
  PS X (.Assign [.Tuple [.Name x px,.Name y py] kt pt] (.Tuple [a,b] k2 pt2) pos) (FL i j ta):=by
 intro pins s σ H D I h;rw [exec_Assign_arm];refine wpAny_bind (wpAny_standAt ?_);rw [hs];refine wpAny_bind (wpAny_pure ?_);rw [if_neg (by decide)];refine wpAny_bind (Tuple_ (qI (ha _ pins s σ H _ I h) fun us s1 ⟨vs,H1,I1,r1,q1⟩=>?_));obtain⟨v,w,e1,q1⟩:=q1;subst e1;obtain⟨u1,u2,rfl,rv,rw'⟩:∃ u1 u2,us=[u1,u2]/\RelV v u1/\RelV w u2:=by
  cases r1 with
  | cons p q =>
   cases q with
   | cons p' q' =>
    cases q';exact⟨_,_,rfl,p,p'⟩
 refine wpAny_newObj_type ?_ (by show 2<=sizeLine;decide);have I2:Inv X pins σ H1 { s1 with heap:=s1.heap.push { cls:=.type "tuple",data:=.seq [u1,u2].toArray } }:=I1.kept (t':=s1.toks) fun b o e=>Heap.get?_push_of_some _ e;rw [hw];refine wpAny_bind (wpAny_pure ?_);show wpAny (model X.prog X.w) X.A (do rule "assign.swapped-stores";let items ← unpackItems (.ref s1.heap.objs.size) 2 none;assignInOrder [fun v=>bindName X.env y v,fun v=>bindName X.env x v] items.reverse;pure Flow.next) _ _ _;refine wpAny_bind (wpAny_rule (wpAny_bind (unpackItems_tuple (items:=#[u1,u2]) (I.ok.hd hc) (IsTup.new s1.heap _) fun h' hx'=>?_)));have I3:=I2.kept (h':=h') (t':=s1.toks) fun b o e=>hx' b o (aX (Heap.lt_size e)) e;show wpAny _ _ (assignInOrder [fun v=>bindName X.env y v,fun v=>bindName X.env x v] [u2,u1] >>= fun _=>pure Flow.next) _ _ _;refine wpAny_bind (assignInOrder_cons (wpAny_bindName (sV I3 hN hj (.inl hy) rw' (fun s2 I4=>?_) (.inr hy))));refine assignInOrder_cons (wpAny_bindName (sV I4 hN hi (.inl hx) rv (fun s3 I5=>assignInOrder_nil (wpAny_pure ?_)) (.inr hx)));rw [List.set_comm _ _ (Ne.symm hij)] at I5;exact⟨_,H1,I5,q1⟩
def J7(i:Nat)(te:TE)(ti:JA):TS:=fun D σ H=>∃ x,σ[i]? = some (some x)/\te σ H fun y H1=>ti x y H1 fun z H2=>D.nx (σ.set i (some z)) H2
theorem Gh{i:Nat}{x:Str}{e:Expr}{te:TE}{op:Operator}{ti:JA}{pos':Pos}(hN:X.N.Nodup)(hi:X.N[i]? = some x)(hx:By X.env.scope x)(he:PE X e te)(ho:Lf X op ti)(hf:X.fn x=true\/X.env.scope.names.lookup x=some .local:=by first|exact .inl rfl|exact .inr rfl|assumption) :
  PS X (.AugAssign (.Name x pos') op e pos) (J7 i te ti):=by
 intro pins s σ H D I h;obtain⟨v,e1,h⟩:=h;obtain⟨m,hn,hl⟩:=I.loc;have vis:FB X.env.scope x:=by rcases hx with k|k;exact .inl k;exact .inr (.inl k)
 obtain⟨u,r,l⟩:=hl i x v hi e1 vis;refine wpAny_AugAssign_Name ?_;have go:wpAny (model X.prog X.w) X.A (eval e X.env) (fun w s₂=>wpAny (model X.prog X.w) X.A (inplaceOp op u w) (fun r s₃=>wpAny (model X.prog X.w) X.A (storeName X.env x r) (fun _=>SP X pins D .next) X.xe s₃) X.xe s₂) X.xe s:=by
  refine qI (he pins s σ H _ I h) fun w s1 ⟨y,H1,I1,r1,q1⟩=>?_;refine qI (ho pins s1 σ H1 v y u w _ I1 r r1 q1) fun z s2 ⟨zv,H2,I2,r2,q2⟩=>?_;exact sV I2 hN hi hx r2 (fun s3 I3=>⟨_,H2,I3,q2⟩) hf
 rcases l with⟨hk,hm⟩|⟨hk,c,hc,hcell⟩
 ·exact wpAny_loadName_local I.ok.kind hk hn hm go
 ·rcases hk with hk|hk
  ·exact wpAny_loadName_cell I.ok.kind hk hc hcell go
  ·rcases hx with k|k
   ·have:X.env.scope.names.lookup x=some .free:=hk;rw [k] at this;cases this
   ·have:X.env.scope.names.lookup x=some .free:=hk;rw [k] at this;cases this
def HR(to ti te:TE)(tget:V->V->Hp->VK->Prop)(tip:JA)(tset:DA):TS:=fun D σ H=>to σ H fun o H1=>ti σ H1 fun i H2=>tget o i H2 fun x H3=>te σ H3 fun y H4=>tip x y H4 fun z H5=>tset o i z H5 fun H6=>D.nx σ H6
def JD(X:Cx)(t:V->V->Hp->VK->Prop):Prop :=
 ∀(pins:List (Addr×Obj)) (s:Shared) (σ:St) (H:Hp) (o i:V) (ov iv:Value) (Q:VK),Inv X pins σ H s->RelV o ov->RelV i iv->t o i H Q ->
  wpAny (model X.prog X.w) X.A (getItem ov iv) (EP X pins σ Q) X.xe s
theorem DW{o i e:Expr}{to ti te:TE}{tget:V->V->Hp->VK->Prop}{tip:JA}{tset:DA}{op:Operator}{tpos:Pos}(ho:PE X o to)(hi:PE X i ti)(hg:JD X tget)(he:PE X e te)(hp:Lf X op tip)(hs:Hy X tset)
  (ha:∀ ov iv new,augStore i ov iv new=(do holding [new,ov,iv] (setItem ov iv new);release [new,ov,iv] [];pure .next):=by intros;rfl):PS X (.AugAssign (.Subscript o i tpos) op e pos) (HR to ti te tget tip tset):=by
 intro pins s σ H D I h;refine wpAny_AugAssign_SubscriptAny (qI (ho pins s σ H _ I h) fun ov s1 ⟨x1,H1,I1,r1,q1⟩=>?_) ha;refine qI (hi pins s1 σ H1 _ I1 q1) fun iv s2 ⟨x2,H2,I2,r2,q2⟩=>?_;refine qI (hg pins s2 σ H2 x1 x2 ov iv _ I2 r1 r2 q2) fun old s3 ⟨x3,H3,I3,r3,q3⟩=>?_;refine qI (he pins s3 σ H3 _ I3 q3) fun v s4 ⟨x4,H4,I4,r4,q4⟩=>?_;refine qI (hp pins s4 σ H4 x3 x4 old v _ I4 r3 r4 q4) fun new s5 ⟨x5,H5,I5,r5,q5⟩=>?_;exact qI (hs pins s5 σ H5 x1 x2 x5 ov iv new _ I5 r1 r2 r5 q5) fun _ s6 ⟨H6,I6,q6⟩=>⟨σ,H6,I6,q6⟩
end
section
variable{X:Cx}{pos:Pos}
def FK(c:TT)(tb:TS):TS:=fun D σ H=>∃ W:Nat->St->Hp->Prop,(∃ m,W m σ H)/\∀ m σ H,W m σ H ->
 c σ H fun b H1=>if b=true then ∃ N:St->Hp->Prop,(∀ σ' H',N σ' H'->∃ m',m'<m/\W m' σ' H')/\tb { D with nx:=N,ct:=N,bk:=D.nx } σ H1 else D.nx σ H1
theorem Cj{c:Expr}{body:List Stmt}{tc:TT}{tb:TS}(hp:PassesOwn (model X.prog X.w) X.A X.env X.xe)(hc:PT X c tc)(hb:PSs X body tb):PS X (.While c body [] pos) (FK tc tb):=by
 intro pins s σ H D I h;obtain⟨W,⟨m0,w0⟩,wT⟩:=h;refine wpAny_While (codeAny_whileLoop (fun n s'=>∃ σ' H',Inv X pins σ' H' s'/\W n σ' H') ?_ m0 ⟨σ,H,I,w0⟩);rintro n s1 ⟨σ1,H1,I1,w1⟩;refine wpAny_passesOwn hp (qI (hc pins s1 σ1 H1 _ I1 (wT n σ1 H1 w1)) fun b s2 ⟨H2,I2,q2⟩=>?_);cases b with
 | true =>
  obtain⟨N,hN,q2⟩:=q2;rw [if_pos rfl];refine wpAny_passesOwn hp (qI (hb pins s2 σ1 H2 _ I2 q2) fun f s3 q3=>?_);cases f with
  | next =>
   obtain⟨σ3,H3,I3,n3⟩:=q3;obtain⟨m',hm,w3⟩:=hN σ3 H3 n3;exact⟨m',hm,σ3,H3,I3,w3⟩
  | cont =>
   obtain⟨σ3,H3,I3,n3⟩:=q3;obtain⟨m',hm,w3⟩:=hN σ3 H3 n3;exact⟨m',hm,σ3,H3,I3,w3⟩
  | brk=>exact q3
  | ret v=>exact q3
 | false =>
  rw [if_neg ay];exact wpAny_execs_nil ⟨σ1,H2,I2,q2⟩
end
structure It where
 go:Nat->Hp->Prop
 yld:Nat->Hp->V->Hp->Prop
 stop:Nat->Hp->Prop
def sU(X:Cx)(pins:List (Addr×Obj))(H:Hp)(b:Addr):Prop :=
 H b=none/\b≠X.env.locals/\b ∉ X.fs/\(b∈X.ex\/X.s₀.heap.objs.size<=b)/\(∀ x c,X.env.cells.lookup x=some c->c≠b)/\∀ p∈X.pn++pins,p.1≠b
theorem Inv.fpOk{X:Cx}{pins:List (Addr×Obj)}{σ:St}{H H':Hp}{s:Shared}{b:Addr}(I:Inv X pins σ H s)(hb:s.heap.objs.size<=b)(hn:H' b=none):sU X pins H' b:=by
 refine⟨hn,cT (az I.lt hb),I.nofs hb,.inr (aF I.sz hb),fun x c e z=>?_,fun p hp z=>?_⟩
 ·obtain⟨v,q⟩:=I.cell x c e;exact absurd (az q.lt (by rw [z];exact hb)) (bD _)
 ·exact absurd (az (Heap.lt_size (I.pin p hp).1) (by rw [z];exact hb)) (bD _)
structure Turn (P:Program)(w:World)(K:Frag)(tg:Expr)(J:It)(fp:List Addr)(it:Addr)(tn:Nat->Heap->Prop):Prop where
 mem:it∈fp
 obj:∀ i h,tn i h->∀ b∈fp,∃ o,h.get? b=some o/\∀ v,o.data ≠ .cell v
 keep:∀ i h h',tn i h->(∀ b∈fp,∀ o,h.get? b=some o->h'.get? b=some o)->tn i h'
 item:∀(X:Cx),X.prog=P->X.w=w->X.K=K->X.calm=true->∀(i:Nat) (pins:List (Addr×Obj)) (s:Shared) (σ:St) (H:Hp) (E:Value->Shared->Prop),Inv X pins σ H s->(∀ b∈fp,sU X pins H b)->tn i s.heap->J.go i H ->
  wpAny (model P w) X.A (pyNext (.ref it)) (fun r s1=>∃ u,r=some u /\
   wpAny (model P w) X.A (letOwnedTupleGo tg (.ref it) u) (fun _ s2=>∃ x H',Inv X pins σ H' s2/\RelV x u/\J.yld i H x H'/\tn (i+1) s2.heap/\∀ b∈fp,H' b=none) E s1) E s
 done:∀(X:Cx),X.prog=P->X.w=w->X.K=K->X.calm=true->∀(i:Nat) (pins:List (Addr×Obj)) (s:Shared) (σ:St) (H:Hp) (E:Value->Shared->Prop),Inv X pins σ H s->(∀ b∈fp,sU X pins H b)->tn i s.heap->J.stop i H ->
  wpAny (model P w) X.A (pyNext (.ref it)) (fun r s1=>r=none/\Inv X pins σ H s1) E s
 self:∀(A:Around) (i:Nat) (s:Shared) (Q:Value->Shared->Prop) (E:Value->Shared->Prop),tn i s.heap->Q (.ref it) s->wpAny (model P w) A (pyIter (.ref it)) Q E s
abbrev TI:=St->Hp->(It->Hp->Prop)->Prop
def Lg(X:Cx)(pins:List (Addr×Obj))(σ:St)(tg:Expr)(R:It->Hp->Prop)(itv:Value)(s2:Shared):Prop :=
 ∃(it:Addr) (fp:List Addr) (tn:Nat->Heap->Prop) (J:It) (H':Hp),itv = .ref it/\Inv X pins σ H' s2/\Turn X.prog X.w X.K tg J fp it tn/\tn 0 s2.heap/\(∀ b∈fp,sU X pins H' b)/\R J H'
def PI(X:Cx)(tg iter:Expr)(wi:TI):Prop :=
 ∀(pins:List (Addr×Obj)) (s:Shared) (σ:St) (H:Hp) (R:It->Hp->Prop),Inv X pins σ H s->wi σ H R ->
  wpAny (model X.prog X.w) X.A (eval iter X.env) (fun v s1=>wpAny (model X.prog X.w) X.A (pyIter v) (Lg X pins σ tg R) X.xe s1) X.xe s
theorem yk{M:Model}{A:Around}{E:Value->Shared->Prop}{s:Shared}{tg:Expr}{it:Addr}{u:Value}{o:Obj}{n:String}{vs:Array Value}{Q:Unit->Shared->Prop}(ho:s.heap.get? it=some o)(hc:o.cls = .type n)(hd:o.data = .fields vs)
  (hn:["enumerate", "zip", "dict_itemiterator", "dict_reverseitemiterator", "odict_iterator", "itertools.zip_longest", "itertools.pairwise"].contains n=false) (hQ:Q () s):wpAny M A (letOwnedTupleGo tg (.ref it) u) Q E s:=by
 unfold letOwnedTupleGo;cases tg <;> first
  | exact wpAny_pure hQ
  | (cases u <;> first
    | exact wpAny_pure hQ
    | (refine wpAny_bind (wpAny_load ho ?_)
       rw [hc,hd];show wpAny M A (if (["enumerate", "zip", "dict_itemiterator", "dict_reverseitemiterator", "odict_iterator", "itertools.zip_longest", "itertools.pairwise"].contains n && vs[0]? == some (rawInt _))=true then _ else _) Q E s;rw [if_neg (by intro h;rw [hn,Bool.false_and] at h;cases h)];exact wpAny_pure hQ))
def Ll(K:Frag)(a:Addr):It :=
 ⟨fun i H=>∃ xs x,SqL K H a xs/\xs[i]? = some x,fun i H x H'=>H'=H/\∀ xs,SqL K H a xs->xs[i]? = some x,fun i H=>∃ xs,SqL K H a xs/\xs.length<=i⟩
def Lk(K:Frag)(a:Addr):It :=
 ⟨fun i H=>∃ xs x,SqT K H a xs/\xs[i]? = some x,fun i H x H'=>H'=H/\∀ xs,SqT K H a xs->xs[i]? = some x,fun i H=>∃ xs,SqT K H a xs/\xs.length<=i⟩
def HF(lo:Int)(n:Nat):It:=⟨fun i _=>i<n,fun i H x H'=>H'=H/\x = .int (lo+i),fun i _=>n<=i⟩
theorem AW{P:Program}{w:World}{K:Frag}{tg:Expr}(a it:Addr):Turn P w K tg (Ll K a) [it] it (fun i h=>h.IsListIter it a i) where
 mem:=by simp
 obj:=fun i h st b hb=>by
  have e:b=it:=by simpa using hb
  subst e;obtain⟨o,e,c,d⟩:=st;exact⟨o,e,fun v z=>by rw [d] at z;cases z⟩
 keep:=fun i h h' st k=>st.at fun o e=>k it (by simp) o e
 item:=by
  intro X hP hw hK hc i pins s σ H E I hf st hg;subst hP hw hK;obtain⟨xs,x,hq,hx⟩:=hg;obtain⟨its,rv,p,hz⟩:=I.list hq;obtain⟨u,hu,ru⟩:=rv.get hx;obtain⟨f0,f1,f2,f3,f4,f5⟩:=hf it (by simp);refine wpAny_pyNext_list_item st p.isList (x:=u) (by simpa using hu) fun h' st' sb=>?_;have I1:Inv X pins σ H { s with heap:=h' }:=I.turned (t':=s.toks) (fun b o hb e=>(sb.2 b hb).trans e) f0 f1 f3 f4 f5;obtain⟨o,e,c,d⟩:=id st';exact⟨u,rfl,yk (s:={ s with heap:=h' }) e c d (by decide) ⟨x,H,I1,ru,⟨rfl,fun ys hy=>by rw [I.list_inj hy hq];exact hx⟩,st',fun b hb=>(hf b hb).1⟩⟩
 done:=by
  intro X hP hw hK hc i pins s σ H E I hf st hg;subst hP hw hK;obtain⟨xs,hq,hx⟩:=hg;obtain⟨its,rv,p,hz⟩:=I.list hq;obtain⟨f0,f1,f2,f3,f4,f5⟩:=hf it (by simp);have hl:=rv.length;exact wpAny_pyNext_list_end (I.ok.hd hc) st p.isList (by simp;omega) fun h' eb=>⟨rfl,I.turned (t':=s.toks) (fun b o hb e=>eb b o hb e) f0 f1 f3 f4 f5⟩
 self:=fun _ _ _ _ _ st h=>wpAny_pyIter_listiter st h
theorem yF{P:Program}{w:World}{K:Frag}{tg:Expr}(a it:Addr):Turn P w K tg (Lk K a) [it] it (fun i h=>h.IsTupleIter it a i) where
 mem:=by simp
 obj:=fun i h st b hb=>by
  have e:b=it:=by simpa using hb
  subst e;obtain⟨o,e,c,d⟩:=st;exact⟨o,e,fun v z=>by rw [d] at z;cases z⟩
 keep:=fun i h h' st k=>st.at fun o e=>k it (by simp) o e
 item:=by
  intro X hP hw hK hc i pins s σ H E I hf st hg;subst hP hw hK;obtain⟨xs,x,hq,hx⟩:=hg;obtain⟨its,rv,p,hz⟩:=I.tuple hq;obtain⟨u,hu,ru⟩:=rv.get hx;obtain⟨f0,f1,f2,f3,f4,f5⟩:=hf it (by simp);refine wpAny_pyNext_tuple_item st (show s.heap.IsTuple a its.toArray from p) (x:=u) (by simpa using hu) fun h' st' sb=>?_;have I1:Inv X pins σ H { s with heap:=h' }:=I.turned (t':=s.toks) (fun b o hb e=>(sb.2 b hb).trans e) f0 f1 f3 f4 f5;obtain⟨o,e,c,d⟩:=id st';exact⟨u,rfl,yk (s:={ s with heap:=h' }) e c d (by decide) ⟨x,H,I1,ru,⟨rfl,fun ys hy=>by rw [I.tuple_inj hy hq];exact hx⟩,st',fun b hb=>(hf b hb).1⟩⟩
 done:=by
  intro X hP hw hK hc i pins s σ H E I hf st hg;subst hP hw hK;obtain⟨xs,hq,hx⟩:=hg;obtain⟨its,rv,p,hz⟩:=I.tuple hq;obtain⟨f0,f1,f2,f3,f4,f5⟩:=hf it (by simp);have hl:=rv.length;exact wpAny_pyNext_tuple_end (I.ok.hd hc) st (show s.heap.IsTuple a its.toArray from p) (by simp;omega) fun h' eb=>⟨rfl,I.turned (t':=s.toks) (fun b o hb e=>eb b o hb e) f0 f1 f3 f4 f5⟩
 self:=fun _ _ _ _ _ st h=>wpAny_pyIter_tupleiter st h
theorem yG{P:Program}{w:World}{K:Frag}{tg:Expr}(it:Addr)(lo:Int)(n:Nat):Turn P w K tg (HF lo n) [it] it (fun i h=>IsRangeIter h it (lo+(i:Nat)*1) ((n:Int)-(i:Nat)) 1) where
 mem:=by simp
 obj:=fun i h st b hb=>by
  have e:b=it:=by simpa using hb
  subst e;exact⟨_,st,fun v z=>by
   have z':Data.fields _=Data.cell v:=z;cases z'⟩
 keep:=fun i h h' st k=>k it (by simp) _ st
 item:=by
  intro X hP hw hK hc i pins s σ H E I hf st hg;subst hP hw hK;obtain⟨f0,f1,f2,f3,f4,f5⟩:=hf it (by simp);have W:=Walks.range (prog:=X.prog) (w:=X.w) (I.ok.hd hc) it lo 1 n;refine W.item i s _ _ hg st fun v h' tk hv st' kk=>?_;obtain⟨t,rfl⟩:=hv;have I1:Inv X pins σ H { s with heap:=h',toks:=tk }:=I.turned (fun b o hb e=>kk b o (by simpa using hb) e) f0 f1 f3 f4 f5;refine⟨_,rfl,yk (s:={ s with heap:=h',toks:=tk }) (n := "range_iterator") st' rfl rfl (by decide) ⟨.int (lo+i),H,I1,⟨t,?_⟩,⟨rfl,rfl⟩,st',fun b hb=>(hf b hb).1⟩⟩;rw [bo]
 done:=by
  intro X hP hw hK hc i pins s σ H E I hf st hg;subst hP hw hK;obtain⟨f0,f1,f2,f3,f4,f5⟩:=hf it (by simp);exact wpAny_pyNext_range_end (I.ok.hd hc) st (by have:n<=i:=hg;omega) fun h' eb=>⟨rfl,I.turned (t':=s.toks) (fun b o hb e=>eb b o hb e) f0 f1 f3 f4 f5⟩
 self:=fun _ _ _ _ _ st h=>wpAny_pyIter_rangeiter st h
end L2
namespace L2
open PySem PySem.Spec PyProof.Rows
section
variable{X:Cx}{tg:Expr}
theorem xR{pins:List (Addr×Obj)}{σ:St}{H:Hp}{s:Shared}{R:It->Hp->Prop}{E:Value->Shared->Prop}{lo hi:Int}{t u v:Tok}{tk:Nat}(I:Inv X pins σ H s)(h1 : -(2^62)<=lo)(h2:lo<2^62)(h3 : -(2^62)<=hi)(h4:hi<2^62)
  (q:R (HF lo (hi-lo).toNat) H):wpAny (model X.prog X.w) X.A (pyIter (.ref s.heap.objs.size)) (Lg X pins σ tg R) E { s with heap:=s.heap.push { cls:=.type "range",data:=.fields #[.int lo t,.int hi u,.int 1 v] },toks:=tk }:=by
 refine wpAny_pyIter_range (IsRange.new ..) (small_one h1 h2 h3 h4) ?_;have I1:Inv X pins σ H { s with heap:=s.heap.push { cls:=.type "range",data:=.fields #[.int lo t,.int hi u,.int 1 v] },toks:=tk }:=I.kept fun b o e=>Heap.get?_push_of_some _ e;refine⟨(s.heap.push { cls:=.type "range",data:=.fields #[.int lo t,.int hi u,.int 1 v] }).objs.size,[(s.heap.push { cls:=.type "range",data:=.fields #[.int lo t,.int hi u,.int 1 v] }).objs.size],_,_,H,rfl,
  I1.kept (t':=tk) fun b o e=>Heap.get?_push_of_some _ e,yG _ lo (hi-lo).toNat,?_,fun b hb=>?_,q⟩
 ·have e1:lo+((0:Nat):Int)*1=lo:=by simp
  have e2:(((hi-lo).toNat:Nat):Int)-((0:Nat):Int)=Builtin.Range.rangeSize lo hi 1:=by rw [rangeSize_one];split <;> omega
  show IsRangeIter _ _ (lo+((0:Nat):Int)*1) ((((hi-lo).toNat:Nat):Int)-((0:Nat):Int)) 1;rw [e1,e2];exact Heap.get?_push_size _ rfl
 ·have e:b=(s.heap.push { cls:=.type "range",data:=.fields #[.int lo t,.int hi u,.int 1 v] }).objs.size:=by simpa using hb
  subst e;exact I1.fpOk (aq _) (I1.hok.fresh (aq _))
def Ja(ta:TA):TI:=fun σ H R=>ta σ H fun vs H1=>∃ j:Int,vs=[.int j] /\ -(2^62)<=j/\j<2^62/\R (HF 0 j.toNat) H1
def I0(ta:TA):TI:=fun σ H R=>ta σ H fun vs H1=>∃ i j:Int,vs=[.int i,.int j]/\(-(2^62)<=i/\i<2^62 /\ -(2^62)<=j/\j<2^62)/\R (HF i (j-i).toNat) H1
theorem wo{a:Expr}{ta:TA}{p pos:Pos}(hg:Gl X "range")(hm:X.mg "range" = none)(ha:PA X [a] ta)(hs:starEach [a] X.env=[(false,eval a X.env)]:=by rfl):PI X tg (.Call (.Name "range" p) [a] [] pos) (Ja ta):=by
 intro pins s σ H R I h;refine Call_ (tw I hg hm boot_range (PyProof.Rows.callWith_type1 (qI (ha pos pins s σ H _ I h) fun us s1 ⟨vs,H1,I1,r1,q1⟩=>?_) hs rfl));obtain⟨j,e,q1,q2,q⟩:=q1;subst e;cases r1 with
 | cons r rr =>
  cases rr;obtain⟨t,rfl⟩:=r;exact call_range_1 (xR I1 (by omega) (by omega) q1 q2 (by simpa using q))
theorem A5{a b:Expr}{ta:TA}{p pos:Pos}(hg:Gl X "range")(hm:X.mg "range" = none)(ha:PA X [a,b] ta)(hs:starEach [a,b] X.env=[(false,eval a X.env),(false,eval b X.env)]:=by rfl)(hs2:starEach [b] X.env=[(false,eval b X.env)]:=by rfl) :
  PI X tg (.Call (.Name "range" p) [a,b] [] pos) (I0 ta):=by
 intro pins s σ H R I h;refine Call_ (tw I hg hm boot_range (PyProof.Rows.callWith_type1 (qI (ha pos pins s σ H _ I h) fun us s1 ⟨vs,H1,I1,r1,q1⟩=>?_) (by rw [hs,hs2]) (by rw [hs2];rfl)));obtain⟨i,j,e,⟨q1,q2,q3,q4⟩,q⟩:=q1;subst e;cases r1 with
 | cons r rr =>
  cases rr with
  | cons r' rr =>
   cases rr;obtain⟨t,rfl⟩:=r;obtain⟨t',rfl⟩:=r';exact call_range_2 (xR I1 q1 q2 q3 q4 q)
def J3(wi:TI)(g:TG)(tb:TS):TS:=fun D σ H=>wi σ H fun J H1=>∃ W:Nat->Nat->St->Hp->Prop,(∃ m,W 0 m σ H1)/\∀ i m σ H,W i m σ H ->
 (J.stop i H/\D.nx σ H)\/(J.go i H/\∃ N:St->Hp->Prop,(∀ σ' H',N σ' H'->∃ m',m'<m/\W (i+1) m' σ' H')/\∀ x H',J.yld i H x H'->g x σ H' fun σ2 H2=>tb { D with nx:=N,ct:=N,bk:=D.nx } σ2 H2)
def vG(fp:List Addr)(h:Heap):List (Addr×Obj):=fp.filterMap fun b=>(h.get? b).map fun o=>(b,o)
theorem sH{fp:List Addr}{h:Heap}{b:Addr}{o:Obj}(hb:b∈fp)(e:h.get? b=some o):(b,o)∈vG fp h:=fh.mpr ⟨b,hb,by rw [e];rfl⟩
theorem Ba{fp:List Addr}{h:Heap}{p:Addr×Obj}(hp:p∈vG fp h):p.1∈fp/\h.get? p.1=some p.2:=by
 obtain⟨b,hb,e⟩:=fh.mp hp;cases q:h.get? b with
 | none=>rw [q] at e;cases e
 | some o =>
  rw [q] at e;have e':(b,o)=p:=Option.some.inj e;subst e';exact⟨hb,q⟩
theorem Inv.pinned{pins:List (Addr×Obj)}{σ:St}{H:Hp}{s:Shared}{fp:List Addr}(I:Inv X pins σ H s)(hf:∀ b∈fp,sU X pins H b)(ho:∀ b∈fp,∃ o,s.heap.get? b=some o/\∀ v,o.data ≠ .cell v):Inv X (pins++vG fp s.heap) σ H s :=
 I.pins_of fun p hp=>(aM.mp hp).elim (fun z=>I.pin p (aQ _ z)) fun z=>by
  obtain⟨hb,e⟩:=Ba z;obtain⟨f0,f1,f2,_⟩:=hf p.1 hb;obtain⟨o,e',d⟩:=ho p.1 hb;rw [e] at e';cases e';exact⟨e,f0,f1,f2,d⟩
theorem Inv.unpinned{pins pl:List (Addr×Obj)}{σ:St}{H:Hp}{s:Shared}(I:Inv X (pins++pl) σ H s):Inv X pins σ H s:=I.pins_of fun p hp=>I.pin p (aQ _ (cx _ hp))
theorem Gg{iter:Expr}{body:List Stmt}{wi:TI}{g:TG}{tb:TS}{pos:Pos}(hp:PassesOwn (model X.prog X.w) X.A X.env X.xe)(hc:X.calm=true)(hi:PI X tg iter wi)(hg:PG X tg g)(hb:PSs X body tb)
  (hs:∀ x,foldedSetIterable iter X.env x=pure x:=by intro _;rfl):PS X (.For tg iter body [] pos) (J3 wi g tb):=by
 intro pins s σ H D I h;refine wpAny_For (qI (hi pins s σ H _ I h) fun v s1 h1=>qI h1 fun itv s2 h2=>?_) hs;obtain⟨it,fp,tn,J,H2,e,I2,T,st2,f2,W,⟨m0,w0⟩,wT⟩:=h2;subst e
 -- what stays true of the iterator's objects through the loop
 have stat:∀{H':Hp},(∀ b∈fp,H' b=none)->∀ b∈fp,sU X pins H' b:=fun hn b hb=>⟨hn b hb,(f2 b hb).2⟩;refine codeAny_forLoop_any (fun n s'=>∃ i σ' H',Inv X pins σ' H' s'/\tn i s'.heap/\(∀ b∈fp,H' b=none)/\W i n σ' H') ?_ m0 ⟨0,σ,H2,I2,st2,fun b hb=>(f2 b hb).1,w0⟩;rintro n s3 ⟨i,σ3,H3,I3,st3,fr3,w3⟩;rcases wT i n σ3 H3 w3 with⟨stop,qn⟩|⟨go,N,hN,step⟩
 ·refine wpAny_passesOwn hp (qI (T.done X rfl rfl rfl hc i pins s3 σ3 H3 X.xe I3 (stat fr3) st3 stop) fun r s4 ⟨hr,I4⟩=>?_);subst hr;exact wpAny_execs_nil ⟨σ3,H3,I4,qn⟩
 ·refine wpAny_passesOwn hp (qI (T.item X rfl rfl rfl hc i pins s3 σ3 H3 X.xe I3 (stat fr3) st3 go) fun r s4 ⟨u,hr,h4⟩=>?_);subst hr;refine wpAny_passesOwn hp (qI h4 fun _ s5 ⟨x,H5,I5,r5,y5,st5,fr5⟩=>?_);have I5':=I5.pinned (stat fr5) (T.obj _ _ st5);refine wpAny_passesOwn hp (qI (hg _ s5 σ3 H5 x u _ I5' r5 (step x H5 y5)) fun _ s6 ⟨σ6,H6,I6,q6⟩=>?_);refine wpAny_passesOwn hp (qI (hb _ s6 σ6 H6 _ I6 q6) fun f s7 q7=>?_);have again:∀{σ7:St} {H7:Hp},Inv X (pins++vG fp s5.heap) σ7 H7 s7->N σ7 H7->∃ m,m<n/\∃ i σ' H',Inv X pins σ' H' s7/\tn i s7.heap/\(∀ b∈fp,H' b=none)/\W i m σ' H':=fun {σ7 H7} I7 n7=>by
   obtain⟨m',hm,w7⟩:=hN σ7 H7 n7;refine⟨m',hm,i+1,σ7,H7,I7.unpinned,T.keep _ _ _ st5 fun b hb o e=>(I7.pin (b,o) (aQ _ (aQ _ (sH hb e)))).1,fun b hb=>?_,w7⟩;obtain⟨o,e,d⟩:=T.obj _ _ st5 b hb;exact (I7.pin (b,o) (aQ _ (aQ _ (sH hb e)))).2.1
  cases f with
  | next=>obtain⟨σ7,H7,I7,n7⟩:=q7;exact again I7 n7
  | cont=>obtain⟨σ7,H7,I7,n7⟩:=q7;exact again I7 n7
  | brk=>obtain⟨σ7,H7,I7,q7⟩:=q7;exact⟨σ7,H7,I7.unpinned,q7⟩
  | ret v=>obtain⟨x7,σ7,H7,I7,r7,q7⟩:=q7;exact⟨x7,σ7,H7,I7.unpinned,r7,q7⟩
end
end L2
namespace L2
open PySem PySem.Spec PyProof.Rows
abbrev R2:=V->V->Hp->VK->Prop
def OpR(X:Cx)(f:Value->Value->Sem Value)(r:R2):Prop :=
 ∀(pins:List (Addr×Obj)) (s:Shared) (σ:St) (H:Hp) (x y:V) (v u:Value) (Q:VK),Inv X pins σ H s->RelV x v->RelV y u->r x y H Q ->
  wpAny (model X.prog X.w) X.A (f v u) (EP X pins σ Q) X.xe s
def KS(X:Cx)(f:Value->Sem Value)(r:V->Hp->VK->Prop):Prop :=
 ∀(pins:List (Addr×Obj)) (s:Shared) (σ:St) (H:Hp) (x:V) (v:Value) (Q:VK),Inv X pins σ H s->RelV x v->r x H Q ->
  wpAny (model X.prog X.w) X.A (f v) (EP X pins σ Q) X.xe s
def CallR(X:Cx)(f:Value)(r:List V->Hp->VK->Prop):Prop :=
 ∀(pins:List (Addr×Obj)) (s:Shared) (σ:St) (H:Hp) (xs:List V) (us:List Value) (Q:VK),Inv X pins σ H s->Vals xs us->r xs H Q ->
  wpAny (model X.prog X.w) X.A (call f us) (EP X pins σ Q) X.xe s
def KT(X:Cx)(r:V->Hp->(Bool->Hp->Prop)->Prop):Prop :=
 ∀(pins:List (Addr×Obj)) (s:Shared) (σ:St) (H:Hp) (x:V) (v:Value) (Q:Bool->Hp->Prop),Inv X pins σ H s->RelV x v->r x H Q ->
  wpAny (model X.prog X.w) X.A (truthy v) (TP X pins σ Q) X.xe s
def HN(r:R2)(ta tb:TE):TE:=fun σ H Q=>ta σ H fun x H1=>tb σ H1 fun y H2=>r x y H2 Q
def Lo(r:V->Hp->VK->Prop)(ta:TE):TE:=fun σ H Q=>ta σ H fun x H1=>r x H1 Q
def rI(C:Int->Int->Prop)(g:Int->Int->V):R2:=fun x y H Q=>∃ i j,x = .int i/\y = .int j/\C i j/\Q (g i j) H
def B4(g:Int->Int->V):R2:=fun x y H Q=>∃ i j,x = .int i/\y = .int j/\Q (g i j) H
def rU(g:Int->V):V->Hp->VK->Prop:=fun x H Q=>∃ i,x = .int i/\Q (g i) H
section
variable{X:Cx}{a b c:Expr}{ta tb tc:TE}{pos:Pos}
theorem Hn(ha:PE X a ta)(hb:PE X b tb){pins:List (Addr×Obj)}{s:Shared}{σ:St}{H:Hp}{R:V->V->Hp->Prop}(I:Inv X pins σ H s)
  (h:ta σ H fun x H1=>tb σ H1 fun y H2=>R x y H2) {Q:Value->Shared->Prop} {f:Value->Value->Sem Value}
  (hf:∀ v u s2 x y H2,Inv X pins σ H2 s2->RelV x v->RelV y u->R x y H2->wpAny (model X.prog X.w) X.A (f v u) Q X.xe s2) :
  wpAny (model X.prog X.w) X.A (eval a X.env) (fun v s₁=>wpAny (model X.prog X.w) X.A (eval b X.env) (fun u s₂=>wpAny (model X.prog X.w) X.A (f v u) Q X.xe s₂) X.xe s₁) X.xe s:=by
 refine qI (ha pins s σ H _ I h) fun v s1 ⟨x,H1,I1,r1,q1⟩=>?_;refine qI (hb pins s1 σ H1 _ I1 q1) fun u s2 ⟨y,H2,I2,r2,q2⟩=>?_;exact hf v u s2 x y H2 I2 r1 r2 q2
theorem qQ{op:Operator}{r:R2}(ho:OpR X (binaryOp op) r)(ha:PE X a ta)(hb:PE X b tb):PE X (.BinOp a op b pos) (HN r ta tb):=by
 intro pins s σ H Q I h;exact wpAny_BinOp (Hn ha hb I h fun v u s2 x y H2 I2 rx ry q=>ho pins s2 σ H2 x y v u Q I2 rx ry q)
theorem E9{op:UnaryOp}{r:V->Hp->VK->Prop}(ho:KS X (unaryOp op) r)(ha:PE X a ta):PE X (.UnaryOp op a pos) (Lo r ta):=by
 intro pins s σ H Q I h;exact UnaryOp_ (qI (ha pins s σ H _ I h) fun v s1 ⟨x,H1,I1,r1,q1⟩=>ho pins s1 σ H1 x v Q I1 r1 q1)
theorem Fe{f:Value->Value->Sem Value}{C:Int->Int->Prop}{g:Int->Int->Int}
  (rule:∀(i j:Int) (t u:Tok) (s:Shared) (Q:Value->Shared->Prop) (E:Value->Shared->Prop),C i j->Q (.int (g i j) s.toks) { s with toks:=s.toks+1 }->wpAny (model X.prog X.w) X.A (f (.int i t) (.int j u)) Q E s) :
  OpR X f (rI C fun i j=>.int (g i j)):=by
 intro pins s σ H x y v u Q I rx ry h;obtain⟨i,j,rfl,rfl,hc,q⟩:=h;obtain⟨t,rfl⟩:=rx;obtain⟨t',rfl⟩:=ry;exact rule i j t t' s _ _ hc ⟨.int (g i j),H,I.tok _,⟨_,rfl⟩,q⟩
theorem Ef{f:Value->Value->Sem Value}{g:Int->Int->Int}
  (rule:∀(i j:Int) (t u:Tok) (s:Shared) (Q:Value->Shared->Prop) (E:Value->Shared->Prop),Q (.int (g i j) s.toks) { s with toks:=s.toks+1 }->wpAny (model X.prog X.w) X.A (f (.int i t) (.int j u)) Q E s) :
  OpR X f (B4 fun i j=>.int (g i j)):=by
 intro pins s σ H x y v u Q I rx ry h;obtain⟨i,j,rfl,rfl,q⟩:=h;obtain⟨t,rfl⟩:=rx;obtain⟨t',rfl⟩:=ry;exact rule i j t t' s _ _ ⟨.int (g i j),H,I.tok _,⟨_,rfl⟩,q⟩
theorem Eg{f:Value->Value->Sem Value}{g:Int->Int->Bool}
  (rule:∀(i j:Int) (t u:Tok) (s:Shared) (Q:Value->Shared->Prop) (E:Value->Shared->Prop),Q (.bool (g i j)) s->wpAny (model X.prog X.w) X.A (f (.int i t) (.int j u)) Q E s) :
  OpR X f (B4 fun i j=>.bl (g i j)):=by
 intro pins s σ H x y v u Q I rx ry h;obtain⟨i,j,rfl,rfl,q⟩:=h;obtain⟨t,rfl⟩:=rx;obtain⟨t',rfl⟩:=ry;exact rule i j t t' s _ _ ⟨.bl (g i j),H,I,rfl,q⟩
def K0(i j:Int):Prop:=0<j/\j<1073741824
def ET(i j:Int):Prop:=0<=j/\j<=1000000/\i.natAbs<2^64
def CMul(i j:Int):Prop:=(-(2^64)<i/\i<2^64)\/(-(2^64)<j/\j<2^64)
theorem CMul.ok{i j:Int}(h:CMul i j):IntMulOk i j:=by
 rcases h with⟨h1,h2⟩|⟨h1,h2⟩
 ·exact .of_left (intBits_le_64 h1 h2)
 ·exact .of_right (intBits_le_64 h1 h2)
theorem sF:OpR X (binaryOp .Add) (B4 fun i j=>.int (i+j)):=Ef fun _ _ _ _ _ _ _ q=>add_int q
theorem Gq:OpR X (binaryOp .Sub) (B4 fun i j=>.int (i-j)):=Ef fun _ _ _ _ _ _ _ q=>sub_int q
theorem yW:OpR X (binaryOp .Mult) (rI CMul fun i j=>.int (i*j)):=Fe fun _ _ _ _ _ _ _ hc q=>mul_int q hc.ok
theorem As:OpR X (binaryOp .FloorDiv) (rI K0 fun i j=>.int (i / j)):=Fe fun i j _ _ _ _ _ hc q=>by
 have h1:(0:Int)<j:=hc.1;have h2:j<1073741824:=hc.2;exact floordiv_int (by omega) (by rw [cA i (by omega)];exact q) (.inl (PyProof.noPylong_small (by omega)))
theorem t6:OpR X (binaryOp .Mod) (rI (fun _ j=>0<j) fun i j=>.int (i%j)):=Fe fun i j _ _ _ _ _ hc q=>by
 have h1:(0:Int)<j:=hc;exact mod_int' (by omega) (by rw [cy i (by omega)];exact q)
theorem Ed:OpR X (binaryOp .Mod) (rI (fun _ j=>j≠0) fun i j=>.int (i.fmod j)):=Fe fun _ _ _ _ _ _ _ hc q=>mod_int' hc q
theorem CH:OpR X (binaryOp .Pow) (rI ET fun i j=>.int (i^j.toNat)):=Fe fun _ _ _ _ _ _ _ hc q=>pow_int_small hc.1 hc.2.1 hc.2.2 q
theorem Gr:OpR X (binaryOp .LShift) (rI ET fun i j=>.int (i*2^j.toNat)):=Fe fun _ _ _ _ _ _ _ hc q=>lshift_int_small hc.1 hc.2.1 hc.2.2 q
theorem EE:OpR X (inplaceOp .Add) (B4 fun i j=>.int (i+j)):=Ef fun _ _ _ _ _ _ _ q=>iadd_int q
theorem ED:OpR X (inplaceOp .Sub) (B4 fun i j=>.int (i-j)):=Ef fun _ _ _ _ _ _ _ q=>isub_int q
theorem Ln{f:Value->Sem Value}{g:Int->Int}
  (rule:∀(i:Int) (t:Tok) (s:Shared) (Q:Value->Shared->Prop) (E:Value->Shared->Prop),Q (.int (g i) s.toks) { s with toks:=s.toks+1 }->wpAny (model X.prog X.w) X.A (f (.int i t)) Q E s) :
  KS X f (rU fun i=>.int (g i)):=by
 intro pins s σ H x v Q I rx h;obtain⟨i,rfl,q⟩:=h;obtain⟨t,rfl⟩:=rx;exact rule i t s _ _ ⟨.int (g i),H,I.tok _,⟨_,rfl⟩,q⟩
theorem BC:KS X (unaryOp .USub) (rU fun i=>.int (-i)):=Ln fun _ _ _ _ _ q=>neg_int q
end
def FX:V->V->Bool
 | .non,.non=>true | .non,.int _=>true | .int _,.non=>true | .non,.bl _=>true | .bl _,.non=>true | .non,.str _=>true | .str _,.non=>true
 | .int _,.int _=>true | .bl _,.bl _=>true | .str _,.str _=>true | .byt _,.byt _=>true
 | .int _,.str _=>true | .str _,.int _=>true | .bl _,.str _=>true | .str _,.bl _=>true
 | _,_=>false
def Lx:R2:=fun x y H Q=>FX x y=true/\Q (.bl (decide (x=y))) H
def Lw:R2:=fun x y H Q=>FX x y=true/\Q (.bl (!decide (x=y))) H
theorem AJ{i j:Int}:decide (V.int i=V.int j)=(i == j):=by
 rw [bU];simp
theorem Db{i j:Bool}:decide (V.bl i=V.bl j)=(i == j):=by
 rw [bU];simp
theorem AI{i j:Str}:decide (V.str i=V.str j)=(i == j):=by
 rw [bU];simp
theorem AK{i j:Array UInt8}:decide (V.byt i=V.byt j)=(i.toList == j.toList):=by
 rw [bU];cases i;cases j;simp
section
variable{X:Cx}{a b c:Expr}{ta tb tc:TE}{pos:Pos}
theorem qv{pins:List (Addr×Obj)}{σ:St}{H:Hp}{s:Shared}{Q:VK}{k k':Bool}(I:Inv X pins σ H s)(q:Q (.bl k) H)(e:k=k'):EP X pins σ Q (.bool k') s:=by
 subst e;exact⟨.bl k,H,I,rfl,q⟩
theorem xX:OpR X (compareOp .Eq) Lx:=by
 intro pins s σ H x y v u Q I rx ry h;obtain⟨hs,q⟩:=h;cases x with
 | non =>
  cases rx;cases y with
  | non=>cases ry;exact PySem.EqNone.eq_none_none (qv I q (by simp))
  | bl j=>cases ry;exact PySem.EqNone.eq_none_bool (qv I q (by simp))
  | int j=>obtain⟨t',rfl⟩:=ry;exact PySem.EqNone.eq_none_int (qv I q (by simp))
  | str j=>obtain⟨t',rfl⟩:=ry;exact PySem.EqNone.eq_none_str (qv I q (by simp))
  | _=>exact absurd (show false=true from hs) ay
 | bl i =>
  cases rx;cases y with
  | non=>cases ry;exact PySem.EqNone.eq_bool_none (qv I q (by simp))
  | bl j=>cases ry;exact eq_bool (qv I q Db)
  | str j=>obtain⟨t',rfl⟩:=ry;exact PySem.EqMixed.eq_bool_str (qv I q (by simp))
  | _=>exact absurd (show false=true from hs) ay
 | int i =>
  obtain⟨t,rfl⟩:=rx;cases y with
  | non=>cases ry;exact PySem.EqNone.eq_int_none (qv I q (by simp))
  | int j=>obtain⟨t',rfl⟩:=ry;exact eq_int (qv I q AJ)
  | str j=>obtain⟨t',rfl⟩:=ry;exact PySem.EqMixed.eq_int_str (qv I q (by simp))
  | _=>exact absurd (show false=true from hs) ay
 | str i =>
  obtain⟨t,rfl⟩:=rx;cases y with
  | non=>cases ry;exact PySem.EqNone.eq_str_none (qv I q (by simp))
  | bl j=>cases ry;exact PySem.EqMixed.eq_str_bool (qv I q (by simp))
  | int j=>obtain⟨t',rfl⟩:=ry;exact PySem.EqMixed.eq_str_int (qv I q (by simp))
  | str j=>obtain⟨t',rfl⟩:=ry;exact eq_str (qv I q AI)
  | _=>exact absurd (show false=true from hs) ay
 | byt i =>
  obtain⟨t,rfl⟩:=rx;cases y with
  | byt j=>obtain⟨t',rfl⟩:=ry;exact PySem.W.eq_bytes (qv I q AK)
  | _=>exact absurd (show false=true from hs) ay
 | _=>cases y <;> exact absurd (show false=true from hs) ay
theorem CI:OpR X (compareOp .NotEq) Lw:=by
 intro pins s σ H x y v u Q I rx ry h;obtain⟨hs,q⟩:=h;cases x with
 | non =>
  cases rx;cases y with
  | non=>cases ry;exact PySem.EqNone.ne_none_none (qv I q (by simp))
  | bl j=>cases ry;exact PySem.EqNone.ne_none_bool (qv I q (by simp))
  | int j=>obtain⟨t',rfl⟩:=ry;exact PySem.EqNone.ne_none_int (qv I q (by simp))
  | str j=>obtain⟨t',rfl⟩:=ry;exact PySem.EqNone.ne_none_str (qv I q (by simp))
  | _=>exact absurd (show false=true from hs) ay
 | bl i =>
  cases rx;cases y with
  | non=>cases ry;exact PySem.EqNone.ne_bool_none (qv I q (by simp))
  | bl j=>cases ry;exact ne_bool (qv I q (congrArg not Db))
  | str j=>obtain⟨t',rfl⟩:=ry;exact PySem.EqMixed.ne_bool_str (qv I q (by simp))
  | _=>exact absurd (show false=true from hs) ay
 | int i =>
  obtain⟨t,rfl⟩:=rx;cases y with
  | non=>cases ry;exact PySem.EqNone.ne_int_none (qv I q (by simp))
  | int j=>obtain⟨t',rfl⟩:=ry;exact ne_int (qv I q (congrArg not AJ))
  | str j=>obtain⟨t',rfl⟩:=ry;exact PySem.EqMixed.ne_int_str (qv I q (by simp))
  | _=>exact absurd (show false=true from hs) ay
 | str i =>
  obtain⟨t,rfl⟩:=rx;cases y with
  | non=>cases ry;exact PySem.EqNone.ne_str_none (qv I q (by simp))
  | bl j=>cases ry;exact PySem.EqMixed.ne_str_bool (qv I q (by simp))
  | int j=>obtain⟨t',rfl⟩:=ry;exact PySem.EqMixed.ne_str_int (qv I q (by simp))
  | str j=>obtain⟨t',rfl⟩:=ry;exact ne_str (qv I q (congrArg not AI))
  | _=>exact absurd (show false=true from hs) ay
 | byt i =>
  obtain⟨t,rfl⟩:=rx;cases y with
  | byt j=>obtain⟨t',rfl⟩:=ry;exact PySem.W.ne_bytes (qv I q (congrArg not AK))
  | _=>exact absurd (show false=true from hs) ay
 | _=>cases y <;> exact absurd (show false=true from hs) ay
theorem Fb:OpR X (compareOp .Lt) (B4 fun i j=>.bl (decide (i<j))):=Eg fun _ _ _ _ _ _ _ q=>lt_int q
theorem IA:OpR X (compareOp .LtE) (B4 fun i j=>.bl (decide (i<=j))):=Eg fun _ _ _ _ _ _ _ q=>le_int q
theorem Fc:OpR X (compareOp .Gt) (B4 fun i j=>.bl (decide (j<i))):=Eg fun _ _ _ _ _ _ _ q=>gt_int q
theorem Fd:OpR X (compareOp .GtE) (B4 fun i j=>.bl (decide (j<=i))):=Eg fun _ _ _ _ _ _ _ q=>ge_int q
theorem Gu:OpR X (compareOp .Is) (fun x y H Q=>y = .non/\Q (.bl (decide (x = .non))) H):=by
 intro pins s σ H x y v u Q I rx ry h;obtain⟨rfl,q⟩:=h;cases ry;refine is_none_gen (qv I q ?_);cases x <;> first
  | (cases rx;rfl)
  | (obtain⟨t,rfl⟩:=rx;rfl)
theorem D9:OpR X (compareOp .IsNot) (fun x y H Q=>y = .non/\Q (.bl (!decide (x = .non))) H):=by
 intro pins s σ H x y v u Q I rx ry h;obtain⟨rfl,q⟩:=h;cases ry;refine isnot_none_gen (qv I q ?_);cases x <;> first
  | (cases rx;rfl)
  | (obtain⟨t,rfl⟩:=rx;rfl)
theorem sG(b:Expr){op:CmpOp}(h:op ≠ .In:=by decide)(h2:op ≠ .NotIn:=by decide):behindInMarks op b=false:=by
 have e1:(op == CmpOp.In)=false:=by cases op <;> first|rfl|exact absurd rfl h
 have e2:(op == CmpOp.NotIn)=false:=by cases op <;> first|rfl|exact absurd rfl h2
 cases b <;> simp [behindInMarks,e1,e2]
theorem vb{op:CmpOp}{r:R2}(ho:OpR X (compareOp op) r)(ha:PE X a ta)(hb:PE X b tb)(hm:behindInMarks op b=false):PE X (.Compare a [op] [b] pos) (HN r ta tb):=by
 intro pins s σ H Q I h;exact wpAny_Compare1 (Hn ha hb I h fun v u s2 x y H2 I2 rx ry q=>ho pins s2 σ H2 x y v u Q I2 rx ry q) hm
def BI(t:TE):TT:=fun σ H Q=>t σ H fun x H'=>∃ k,x = .bl k/\Q k H'
theorem sE{op:CmpOp}{r:R2}(ho:OpR X (compareOp op) r)(ha:PE X a ta)(hb:PE X b tb)(hm:behindInMarks op b=false):PT X (.Compare a [op] [b] pos) (BI (HN r ta tb)):=by
 intro pins s σ H Q I h;refine wpAny_isTrue_Compare1 (qI (ha pins s σ H _ I h) fun v s1 ⟨x,H1,I1,r1,q1⟩=>qI (hb pins s1 σ H1 _ I1 q1) fun u s2 ⟨y,H2,I2,r2,q2⟩ =>
  qI (ho pins s2 σ H2 x y v u _ I2 r1 r2 q2) fun c s3 ⟨z,H3,I3,r3,k,e,q3⟩=>?_) hm
 subst e;cases r3;exact wpAny_truthy_bool ⟨H3,I3,q3⟩
def BJ(r r':R2)(ta tb tc:TE):TE:=fun σ H Q=>ta σ H fun x H1=>tb σ H1 fun y H2=>r x y H2 fun z H3=>∃ k,z = .bl k /\
 (if k=true then tc σ H3 fun w' H4=>r' y w' H4 Q else Q (.bl false) H3)
theorem Cr{op op':CmpOp}{r r':R2}(ho:OpR X (compareOp op) r)(ho':OpR X (compareOp op') r')(ha:PE X a ta)(hb:PE X b tb)(hc:PE X c tc)
  (hm:lastMarks [op,op'] [b,c]=false:=by with_unfolding_all rfl):PE X (.Compare a [op,op'] [b,c] pos) (BJ r r' ta tb tc):=by
 intro pins s σ H Q I h;refine Compare_chain (qI (ha pins s σ H _ I h) fun v s1 ⟨x,H1,I1,r1,q1⟩=>chain_link (qI (hb pins s1 σ H1 _ I1 q1) fun u s2 ⟨y,H2,I2,r2,q2⟩ =>
  qI (ho pins s2 σ H2 x y v u _ I2 r1 r2 q2) fun d s3 ⟨z,H3,I3,r3,k,e,q3⟩=>?_)) hm
 subst e;cases r3;refine wpAny_truthy_bool ?_;cases k with
 | false=>exact ite_ff ⟨.bl false,H3,I3,rfl,q3⟩
 | true=>exact ite_tt (chain_last (qI (hc pins s3 σ H3 _ I3 q3) fun w' s4 ⟨z',H4,I4,r4,q4⟩=>ho' pins s4 σ H4 y z' u w' Q I4 r2 r4 q4))
theorem Ci{op op':CmpOp}{r r':R2}(ho:OpR X (compareOp op) r)(ho':OpR X (compareOp op') r')(ha:PE X a ta)(hb:PE X b tb)(hc:PE X c tc)
  (hm:lastMarks [op,op'] [b,c]=false:=by with_unfolding_all rfl):PT X (.Compare a [op,op'] [b,c] pos) (BI (BJ r r' ta tb tc)):=by
 intro pins s σ H Q I h;refine isTrue_chain (qI (ha pins s σ H _ I h) fun v s1 ⟨x,H1,I1,r1,q1⟩=>test_link (qI (hb pins s1 σ H1 _ I1 q1) fun u s2 ⟨y,H2,I2,r2,q2⟩ =>
  qI (ho pins s2 σ H2 x y v u _ I2 r1 r2 q2) fun d s3 ⟨z,H3,I3,r3,k,e,q3⟩=>?_)) hm
 subst e;cases r3;refine wpAny_truthy_bool ?_;cases k with
 | false =>
  obtain⟨k',e',q'⟩:=q3;cases e';exact ite_ff ⟨H3,I3,q'⟩
 | true =>
  refine ite_tt (test_last (qI (hc pins s3 σ H3 _ I3 q3) fun w' s4 ⟨z',H4,I4,r4,q4⟩=>qI (ho' pins s4 σ H4 y z' u w' _ I4 r2 r4 q4) fun d' s5 ⟨z2,H5,I5,r5,k2,e2,q5⟩=>?_));subst e2;cases r5;exact wpAny_truthy_bool ⟨H5,I5,q5⟩
def Hu(K:Frag)(x:V)(H:Hp)(k:Bool):Prop :=
 match x with
 | .non=>k=false
 | .bl b=>k=b
 | .int i=>k=(i != 0)
 | .str y=>y.length<=sizeLine/\k=((y.length:Int) != 0)
 | .byt y=>y.size<=sizeLine/\k=((y.size:Int) != 0)
 | .ref p=>(∃ xs,SqL K H p xs/\k = !xs.isEmpty)\/(∃ xs,SqT K H p xs/\k = !xs.isEmpty)\/∃ kvs,H p=some (.dK kvs)/\k = !kvs.isEmpty
 | _=>False
theorem zb{κ:Type}{kvs:List (κ×V)}{vs:List (κ×Value)}(r:KV kvs vs):(!vs.isEmpty) = !kvs.isEmpty:=by
 cases r <;> rfl
theorem vJ{xs:List V}{its:List Value}(r:Vals xs its):(!its.toArray.isEmpty) = !xs.isEmpty:=by
 cases r <;> simp
theorem so:(sizeLine:Nat)<2^63:=by rw [sizeLine_eq];decide
theorem FH:KT X (fun x H Q=>∃ k,Hu X.K x H k/\Q k H):=by
 intro pins s σ H x v Q I rx h;obtain⟨k,e,q⟩:=h;have hl:=so;have hs:sizeLine=16777216:=sizeLine_eq;cases x with
 | non =>
  cases rx;have e':k=false:=e;subst e';exact truthy_none ⟨H,I,q⟩
 | bl b =>
  cases rx;have e':k=b:=e;subst e';exact wpAny_truthy_bool ⟨H,I,q⟩
 | int i =>
  obtain⟨t,rfl⟩:=rx;have e':k=(i != 0):=e;subst e';exact PySem.P.truthy_int ⟨H,I,q⟩
 | str y =>
  obtain⟨t,rfl⟩:=rx;obtain⟨hy,e'⟩:y.length<=sizeLine/\k=((y.length:Int) != 0):=e;subst e';exact PySem.P.truthy_str (by omega) ⟨H,I.tok _,q⟩
 | byt y =>
  obtain⟨t,rfl⟩:=rx;obtain⟨hy,e'⟩:y.size<=sizeLine/\k=((y.size:Int) != 0):=e;subst e';exact PySem.W.truthy_bytes (by omega) ⟨H,I.tok _,q⟩
 | ref p =>
  cases rx;have e':(∃ xs,SqL X.K H p xs/\k = !xs.isEmpty)\/(∃ xs,SqT X.K H p xs/\k = !xs.isEmpty)\/∃ kvs,H p=some (.dK kvs)/\k = !kvs.isEmpty:=e;rcases e' with⟨xs,hx,e'⟩|⟨xs,hx,e'⟩|⟨kvs,hx,e'⟩
  ·subst e';obtain⟨its,r,pl,hz⟩:=I.list hx;have hlen:=r.length;exact wpAny_truthy_list pl.isList (by simp only [am];omega) ⟨H,I.tok _,by rw [vJ r];exact q⟩
  ·subst e';obtain⟨its,r,pl,hz⟩:=I.tuple hx;have hlen:=r.length;exact truthy_tuple pl (by simp only [am];omega) ⟨H,I.tok _,by rw [vJ r];exact q⟩
  ·subst e';obtain⟨hz,hS,vs,r,m⟩:kvs.length<=sizeLine/\(p == sysModules)=false/\∃ vs,KV kvs vs/\s.heap.DictOf (uo X.prog X.w) p vs:=I.hok p _ hx;have hlen:kvs.length=vs.length:=Paired.length r;exact wpAny_truthy_dict hS m (by omega) ⟨H,I.tok _,by rw [zb r];exact q⟩
 | _=>exact (show False from e).elim
theorem xS(ha:PE X a ta)(he:∀ whole,isTrue a X.env whole=(do let v ← whole;standAt a.pos;holding [v] (truthy v))) :
  PT X a (fun σ H Q=>ta σ H fun x H'=>∃ k,Hu X.K x H' k/\Q k H'):=by
 intro pins s σ H Q I h;exact isTrue_plain (qI (ha pins s σ H _ I h) fun v s1 ⟨x,H1,I1,r1,q1⟩=>FH pins s1 σ H1 x v Q I1 r1 q1) (he _)
theorem yX:OpR X (binaryOp .Add) (fun x y H Q=>∃ i j,x = .str i/\y = .str j/\i.length+j.length<=sizeLine/\Q (.str (i++j)) H):=by
 intro pins s σ H x y v u Q I rx ry h;obtain⟨i,j,rfl,rfl,hz,q⟩:=h;obtain⟨t,rfl⟩:=rx;obtain⟨t',rfl⟩:=ry;exact add_str (fun t' tk=>⟨.str (i++j),H,I.tok _,⟨_,rfl⟩,q⟩) hz
theorem ye:OpR X (inplaceOp .Add) (fun x y H Q=>∃ i j,x = .str i/\y = .str j/\i.length+j.length<=sizeLine/\Q (.str (i++j)) H):=by
 intro pins s σ H x y v u Q I rx ry h;obtain⟨i,j,rfl,rfl,hz,q⟩:=h;obtain⟨t,rfl⟩:=rx;obtain⟨t',rfl⟩:=ry;exact iadd_str (fun t' tk=>⟨.str (i++j),H,I.tok _,⟨_,rfl⟩,q⟩) hz
theorem vo{x:V}{us:List Value}(r:Vals [x] us):∃ u,us=[u]/\RelV x u:=by
 cases r with
 | cons r1 r2=>cases r2;exact⟨_,rfl,r1⟩
theorem HG{x y:V}{us:List Value}(r:Vals [x,y] us):∃ u w',us=[u,w']/\RelV x u/\RelV y w':=by
 cases r with
 | cons r1 r2 =>
  cases r2 with
  | cons r3 r4=>cases r4;exact⟨_,_,rfl,r1,r3⟩
theorem Do:CallR X (.builtin "abs") (fun xs H Q=>∃ i,xs=[.int i]/\Q (.int (if i<0 then -i else i)) H):=by
 intro pins s σ H xs us Q I r h;obtain⟨i,rfl,q⟩:=h;obtain⟨u,rfl,t,rfl⟩:=vo r;exact call_abs_int fun u tk=>⟨.int (if i<0 then -i else i),H,I.tok _,⟨_,rfl⟩,q⟩
theorem Bv(hc:X.calm=true):CallR X (.builtin "max") (fun xs H Q=>∃ i j,xs=[.int i,.int j]/\Q (.int (if j > i then j else i)) H):=by
 intro pins s σ H xs us Q I r h;obtain⟨i,j,rfl,q⟩:=h;obtain⟨u,w',rfl,⟨t,rfl⟩,⟨t',rfl⟩⟩:=HG r;refine max_two_ints (I.ok.hd hc) fun h' tk k=>⟨_,H,I.kept k,?_,q⟩;by_cases hj:j > i
 ·rw [if_pos hj,if_pos hj];exact⟨_,rfl⟩
 ·rw [if_neg hj,if_neg hj];exact⟨_,rfl⟩
theorem Bw:CallR X (.type "int") (fun xs H Q=>(∃ i,xs=[.int i]/\Q (.int i) H)\/∃ k,xs=[.bl k]/\Q (.int (if k then 1 else 0)) H):=by
 intro pins s σ H xs us Q I r h;rcases h with⟨i,rfl,q⟩|⟨k,rfl,q⟩
 ·obtain⟨u,rfl,t,rfl⟩:=vo r;exact call_int_int ⟨.int i,H,I,⟨_,rfl⟩,q⟩
 ·obtain⟨u,rfl,r1⟩:=vo r;cases r1;exact call_int_bool ⟨.int (if k then 1 else 0),H,I.tok _,⟨_,rfl⟩,q⟩
end
end L2
namespace L2
open PySem PySem.Spec PyProof.Rows
structure ObjM (h:Heap)(x dx C:Addr)(mA:Str->Option Value):Prop where
 obj:h.get? x=some (PySem.W.instObj C dx)
 ns:h.Ns1 dx mA
 ne:dx≠x
theorem Bf{h:Heap}{dx:Addr}{mA:Str->Option Value}(n:h.Ns1 dx mA):∃ od,h.get? dx=some od/\∀ name,PySem.W.lookIn name od=some (mA name):=by
 obtain⟨o,es,ep,ho,hd,hk,_,hm⟩:=n;refine⟨o,ho,fun name=>?_⟩;have e:=hm name;unfold nsFind findBy at e;rw [← Array.find?_toList] at e;unfold PySem.W.lookIn;rw [hd];dsimp only;split
 ·rename_i y q;rw [q] at e;exact congrArg some e
 ·rename_i q;rw [q] at e;have a:es.toList.any (·.refKey)=false:=by
   rw [List.any_eq_false];intro y hy;obtain⟨z,t,hkey⟩:=hk y (Array.mem_toList_iff.mp hy);simp [DictEntry.refKey,hkey]
  have a':¬ es.toList.any (·.refKey)=true:=by rw [a];exact ay
  rw [if_neg a'];exact congrArg some e
theorem ObjM.look{h:Heap}{x dx C:Addr}{mA:Str->Option Value}(I:ObjM h x dx C mA):∃ od,PySem.W.InstAt h x (PySem.W.instObj C dx) C (some od)/\∀ name,PySem.W.lookIn name od=some (mA name) :=
 let ⟨od,ho,hl⟩:=Bf I.ns
 ⟨od,⟨I.obj,rfl,rfl,ho⟩,hl⟩
section
variable{P:Program}{w:World}{H H':Hp}{h h':Heap}{a C dx:Addr}{fs fs':List (Str×V)}
theorem EF(hok:HOk P w H h)(e:H a=some (.ins C dx fs)):∃ mA,ObjM h a dx C mA/\(∀ f,Hx (fs.lookup f) (mA f))/\PySem.Within mA (fs.map (·.1))/\fs.length<=1000/\H dx=some (.own a):=by
 obtain⟨d,z,ne,ob,mA,n,r,q⟩:=(show ObjOk P w H h a (.ins C dx fs) from hok a _ e);exact⟨mA,⟨ob,n,ne⟩,r,q,z,d⟩
end
structure Cls (K:Frag)(C:Addr):Prop where
 pg:PySem.W.plainGet K C Str.empty=true
 hd:PySem.W.hasDictIn K C=true
 po:PySem.W.plainOver K C=true
 sa:PySem.W.findIn K (.ref C) "__setattr__" = some (some (.builtin "object.__setattr__"))
theorem Cls.get{K:Frag}{C:Addr}(c:Cls K C)(f:Str):PySem.W.plainGet K C f=true:=c.pg
section
variable{X:Cx}{pins:List (Addr×Obj)}{σ:St}{H:Hp}{s:Shared}{A:Around}{E:Value->Shared->Prop}{Q:Value->Shared->Prop}{c:Value}{b:Bool}
inductive TyOf (K:Frag) (H:Hp):V->Value->Prop where
 | non:TyOf K H .non (.type "NoneType")
 | bl (x:Bool):TyOf K H (.bl x) (.type "bool")
 | int (i:Int):TyOf K H (.int i) (.type "int")
 | str (x:Str):TyOf K H (.str x) (.type "str")
 | flt (x:UInt64):TyOf K H (.flt x) (.type "float")
 | lst {a:Addr} {xs:List V} (e:H a=some (.lst xs)):TyOf K H (.ref a) (.type "list")
 | frz {a:Addr} {o:Obj} {xs:List V} (e:H a=some (.frz o (.lst xs))):TyOf K H (.ref a) (.type "list")
 | tup {a:Addr} {xs:List V} (e:H a=some (.tup xs)):TyOf K H (.ref a) (.type "tuple")
 | dK {a:Addr} {kvs:List (vi×V)} (e:H a=some (.dK kvs)):TyOf K H (.ref a) (.type "dict")
 | dT {a:Addr} {kvs:List (List vi×V)} (e:H a=some (.dT kvs)):TyOf K H (.ref a) (.type "dict")
 | ins {a C dx:Addr} {fs:List (Str×V)} (e:H a=some (.ins C dx fs)) (cl:Cls K C) (ha:PySem.W.findIn K (.ref C) "__class__" = some (some (.builtin "object.__class__")))
   (hn:PySem.W.specialIn K (.builtin "object.__class__") "__get__" = some (some (.builtin "getset_descriptor.__get__"))) (htk:PySem.W.takesIn K (.builtin "object.__class__")=some true)
   (hm:PySem.W.mroIn K C (.type "object")=some true):TyOf K H (.ref a) (.ref C)
theorem Bk{x:V}{u t:Value}(I:Inv X pins σ H s)(rx:RelV x u)(ty:TyOf X.K H x t)(e:PySem.W.kitOne X.K t c=some b)(h:∀ tk,Q (.bool b) { s with toks:=tk }) :
  wpAny (model X.prog X.w) A (call (.builtin "isinstance") [u,c]) Q E s:=by
 cases ty with
 | non=>cases (show u=Value.none from rx);exact PySem.W.kia_one PySem.W.kitx_none I.kIn True.intro e (fun z=>nomatch z) h
 | bl y=>cases (show u=Value.bool y from rx);exact PySem.W.kia_one PySem.W.kitx_bool I.kIn True.intro e (fun z=>nomatch z) h
 | int i=>obtain⟨t,q⟩:=(show ∃ t,u=Value.int i t from rx);cases q;exact PySem.W.kia_one PySem.W.kitx_int I.kIn True.intro e (fun z=>nomatch z) h
 | str y=>obtain⟨t,q⟩:=(show ∃ t,u=Value.str y t from rx);cases q;exact PySem.W.kia_one PySem.W.kitx_str I.kIn True.intro e (fun z=>nomatch z) h
 | flt y=>obtain⟨t,q⟩:=(show ∃ t,u=Value.float y t from rx);cases q;exact PySem.W.kia_one PySem.W.kitx_float I.kIn True.intro e (fun z=>nomatch z) h
 | @lst a xs ea =>
  cases (show u=Value.ref a from rx);obtain⟨_,_,n,_,h1⟩:=(show ObjOk X.prog X.w H s.heap a (.lst xs) from I.hok a _ ea);exact PySem.W.kia_one PySem.W.kitx_list I.kIn ⟨_,h1,rfl⟩ e (fun z=>nomatch z) h
 | @frz a ob xs ea =>
  cases (show u=Value.ref a from rx);obtain⟨_,_,_,n,_,h1⟩:=(show ObjOk X.prog X.w H s.heap a (.frz ob (.lst xs)) from I.hok a _ ea);exact PySem.W.kia_one PySem.W.kitx_list I.kIn ⟨_,h1,rfl⟩ e (fun z=>nomatch z) h
 | @tup a xs ea =>
  cases (show u=Value.ref a from rx);obtain⟨_,_,_,p⟩:=(show ObjOk X.prog X.w H s.heap a (.tup xs) from I.hok a _ ea);obtain⟨o,h1,h2,_⟩:=p;exact PySem.W.kia_one PySem.W.kitx_tuple I.kIn ⟨o,h1,h2⟩ e (fun z=>nomatch z) h
 | @dK a kvs ea =>
  cases (show u=Value.ref a from rx);obtain⟨_,_,vs,_,p⟩:=(show ObjOk X.prog X.w H s.heap a (.dK kvs) from I.hok a _ ea);obtain⟨o,es,ep,h1,h2,_⟩:=p;exact PySem.W.kia_one PySem.W.kitx_dict I.kIn ⟨o,h1,h2.1⟩ e (fun z=>nomatch z) h
 | @dT a kvs ea =>
  cases (show u=Value.ref a from rx);obtain⟨_,_,xs,_,o,es,ep,h1,h2,_⟩:=(show ObjOk X.prog X.w H s.heap a (.dT kvs) from I.hok a _ ea);exact PySem.W.kia_one PySem.W.kitx_dict I.kIn ⟨o,h1,h2.1⟩ e (fun z=>nomatch z) h
 | @ins a C dx fs ea cl ha hn htk hm =>
  cases (show u=Value.ref a from rx);obtain⟨mA,O,_⟩:=EF I.hok ea;obtain⟨od,J,_⟩:=O.look;exact PySem.W.kia_one (PySem.W.kitx_own (cl.get _) cl.hd ha hn htk hm) I.kIn J e (fun z=>nomatch z) h
end
end L2
namespace L2
open PySem PySem.Spec PyProof.Rows
structure Room (k:Nat)(A:Around):Prop where
 hd:A.handled=none
 dp:A.depth+3*k+105<recursionLimit
 un:A.units+16*k+200<cLine
theorem Room.mono{j k:Nat}{A:Around}(r:Room k A)(h:j<=k):Room j A:=⟨r.hd,by have:=r.dp;omega,by have:=r.un;omega⟩
theorem Room.deeper{k:Nat}{A:Around}(r:Room (k+1) A)(env:Env):Room k (A.deeper env) :=
 ⟨r.hd,by have:=r.dp;show A.depth+1+3*k+105<_;omega,by have:=r.un;show A.units+3+16*k+200<_;omega⟩
theorem Room.depth{k:Nat}{A:Around}(r:Room k A):A.depth<recursionLimit:=by have:=r.dp;omega
theorem Room.units{k:Nat}{A:Around}(r:Room k A):A.units+64<cLine:=by have:=r.un;omega
def DJ:TA:=fun _ H Q=>Q [] H
def we(ta:TE)(tr:TA):TA:=fun σ H Q=>ta σ H fun x H1=>tr σ H1 fun xs H2=>Q (x::xs) H2
section
variable{X:Cx}{e:Expr}{es:List Expr}{te:TE}{t:TA}{pos:Pos}
theorem pa_nil:PA X [] DJ:=fun _ _ _ _ H Q I h=>Calls.spliced_nil ⟨[],H,I,.nil,h⟩
theorem qo(ha:PE X e te)(hr:PA X es t)(hs:starEach (e::es) X.env=(false,eval e X.env)::starEach es X.env:=by rfl):PA X (e::es) (we te t):=by
 intro pos pins s σ H Q I h;rw [hs];show wpAny _ _ (spliced ((false,eval e X.env)::backTo pos (starEach es X.env))) _ _ s;refine Calls.spliced_cons (qI (ha pins s σ H _ I h) fun u s1 ⟨x,H1,I1,r1,q1⟩=>?_);exact qI (hr pos pins s1 σ H1 _ I1 q1) fun us s2 ⟨xs,H2,I2,r2,q2⟩=>⟨x::xs,H2,I2,.cons r1 r2,q2⟩
def JW(t:TA):TE:=fun σ H Q=>t σ H fun xs H1=>xs.length<=sizeLine/\∀ p,H1 p=none->Q (.ref p) (qR H1 p (.tup xs))
def J1(t:TA):TE:=fun σ H Q=>t σ H fun xs H1=>xs.length<=sizeLine/\∀ p,H1 p=none->Q (.ref p) (qR H1 p (.lst xs))
theorem Co{x1}(h:PA X es t):PE X (.Tuple es x1 pos) (JW t):=by
 intro pins s σ H Q I hq;refine wpAny_Tuple_spliced (qI (h pos pins s σ H _ I hq) fun us s1 ⟨xs,H1,I1,r,z,q⟩=>⟨by rw [← r.length];exact z,?_⟩);have hf:H1 s1.heap.objs.size=none:=I1.hok.fresh (aq _);refine⟨.ref s1.heap.objs.size,qR H1 s1.heap.objs.size (.tup xs),I1.laid (t':=s1.toks) (fun b u e=>Heap.get?_push_of_some _ e) (aq _) ?_,rfl,q _ hf⟩;exact⟨z,us,r,⟨_,Heap.get?_push_size _ rfl,rfl,_,rfl⟩⟩
theorem yT(h:PA X es t):PE X (.List es pos) (J1 t):=by
 intro pins s σ H Q I hq;refine wpAny_List_spliced (qI (h pos pins s σ H _ I hq) fun us s1 ⟨xs,H1,I1,r,z,q⟩=>⟨by rw [← r.length];exact z,?_⟩);have hf:H1 s1.heap.objs.size=none:=I1.hok.fresh (aq _);refine⟨.ref s1.heap.objs.size,qR H1 s1.heap.objs.size (.lst xs),I1.laid (t':=s1.toks) (fun b u e=>Heap.get?_push_of_some _ e) (aq _) ?_,rfl,q _ hf⟩;exact⟨z,us,0,r,Heap.get?_push_size _ rfl⟩
end
abbrev Sp:=List V->Hp->VK->XK->Prop
abbrev DE:=List Env->Hp->Shared->XK->Value->Shared->Prop
structure Env0 (P:Program)(w:World)(K:Frag)(mg:Str->Option Value)(base:Heap)(A:Around)(outer:List Env)(s:Shared)(H:Hp):Prop where
 frames:A.frames=some outer
 mod:Mod K mg base
 bs:∀ b o,base.get? b=some o->s.heap.get? b=some o/\H b=none
 bsz:base.objs.size<=s.heap.objs.size
 funs:s.heap.FunFrames base outer
 frf:∀ b∈AG outer,H b=none
 hok:HOk P w H s.heap
 bare:AllBare s.gens
 sr:base.NoSeer/\P.given.tree=none
def CE(outer:List Env)(P:Program)(w:World)(H:Hp)(s:Shared)(Q:VK)(u:Value)(s':Shared):Prop :=
 ∃ v H',s'.os=s.os/\AllBare s'.gens/\Un (AG outer) [] H H' s.heap s'.heap/\HOk P w H' s'.heap/\RelV v u/\Q v H'
def CR(CX:DE)(outer:List Env)(P:Program)(w:World)(H:Hp)(s:Shared)(Q:VK)(E:XK)(r:Result)(s':Shared):Prop :=
 match r with
 | .ok (.ret u)=>CE outer P w H s Q u s'
 | .ok _=>False
 | .error e=>CX outer H s E e s'
structure FnOk (P:Program)(w:World)(K:Frag)(mg:Str->Option Value)(base:Heap)(CX:DE)(k:Nat)(f:Addr)(fd:FuncData)(ps:List Str)(sp:Sp):Prop where
 len:∀ vs H Q E,sp vs H Q E->vs.length=ps.length
 run:∀(A:Around) (outer:List Env) (s:Shared) (H:Hp) (args:Args) (us:List Value) (vs:List V) (Q:VK) (E:XK),Room k A->Env0 P w K mg base A outer s H->BindsTo s fd args (ps.zip us)->Vals vs us->sp vs H Q E ->
  codeAny (model P w) A (.call (.ref f) args) (CR CX outer P w H s Q E) s
theorem FnOk.imp{P:Program}{w:World}{K:Frag}{mg:Str->Option Value}{base:Heap}{CX:DE}{k:Nat}{f:Addr}{fd:FuncData}{ps:List Str}{sp sp':Sp}(F:FnOk P w K mg base CX k f fd ps sp)
  (h:∀ vs H Q E,sp' vs H Q E->sp vs H Q E):FnOk P w K mg base CX k f fd ps sp' :=
 ⟨fun vs H Q E q=>F.len vs H Q E (h _ _ _ _ q),fun A outer s H args us vs Q E hr he hb hv hs=>F.run A outer s H args us vs Q E hr he hb hv (h _ _ _ _ hs)⟩
section
variable{X:Cx}{pins:List (Addr×Obj)}{σ:St}{H:Hp}{s s':Shared}
theorem Inv.env0(I:Inv X pins σ H s):Env0 X.prog X.w X.K X.mg X.base X.A X.stack s H :=
 ⟨I.ok.frames,I.ok.mod,I.bs,aF I.ok.bsz I.sz,I.stack,I.stkFree,I.hok,I.bare,I.ok.sr⟩
theorem Inv.after{Q:VK}{u:Value}(I:Inv X pins σ H s)(h:CE X.stack X.prog X.w H s Q u s'):EP X pins σ Q u s':=by
 obtain⟨v,H',os,bare,un,hok,r,q⟩:=h;obtain⟨hh,g,d,t,os'⟩:=s';obtain rfl:os'=s.os:=os;exact⟨v,H',I.call (h':=hh) (g':=g) (d':=d) (t':=t) (ch:=[]) un hok bare (fun b z=>absurd z (by simp)),r,q⟩
end
def Aa(sp:Sp)(dvs:List V)(E:XK)(t:TA):TE:=fun σ H Q=>t σ H fun vs H1=>sp (vs++dvs) H1 Q E
def Binds(K:Frag)(fd:FuncData)(ps:List Str)(ds:List Value):Prop :=
 ∀(s:Shared) (us:List Value),K.In s.heap->(us++ds).length=ps.length->BindsTo s fd ⟨us,[]⟩ (ps.zip (us++ds))
theorem Binds.all{K:Frag}{fd:FuncData}{ps:List Str}(h:∀ us:List Value,us.length=ps.length->bindArgs fd ⟨us,[]⟩=pure (ps.zip us)):Binds K fd ps []:=fun s us _ hl=>by
 rw [cr] at hl ⊢;exact .of_eq (h us hl)
def zV(CX:DE)(X:Cx)(E:XK):Prop:=∀(pins:List (Addr×Obj)) (σ:St) (H:Hp) (s:Shared) (e:Value) (s':Shared),Inv X pins σ H s->CX X.stack H s E e s'->X.xe e s'
section
variable{X:Cx}{CX:DE}{k:Nat}{f C:Addr}{fd:FuncData}{ps:List Str}{sp:Sp}{dvs:List V}{ds:List Value}{E:XK}{x m:Str}{p pos apos:Pos}{e o:Expr}{es:List Expr}{ta:TE}{t:TA}
theorem FZ{pins:List (Addr×Obj)}{σ:St}{H:Hp}{s:Shared}{Q:VK}{us:List Value}{vs:List V}(F:FnOk X.prog X.w X.K X.mg X.base CX k f fd ps sp)(hr:Room k X.A)(hb:Binds X.K fd ps ds)(hd:Vals dvs ds)(hx:zV CX X E)
  (I:Inv X pins σ H s) (r:Vals vs us) (h:sp (vs++dvs) H Q E):wpAny (model X.prog X.w) X.A (call (.ref f) us) (EP X pins σ Q) X.xe s:=by
 have r2:Vals (vs++dvs) (us++ds):=r.append hd;have hl:(us++ds).length=ps.length:=by rw [← r2.length];exact F.len _ _ _ _ h
 refine wpAny_call (codeAny_mono (F.run X.A X.stack s H ⟨us,[]⟩ (us++ds) (vs++dvs) Q E hr I.env0 (hb s us I.kIn hl) r2 h) fun r s' hq=>?_);cases r with
 | error e=>exact hx pins σ H s e s' I hq
 | ok fl =>
  cases fl with
  | ret u=>exact I.after hq
  | next=>exact False.elim hq
  | brk=>exact False.elim hq
  | cont=>exact False.elim hq
theorem D4(F:FnOk X.prog X.w X.K X.mg X.base CX k f fd ps sp)(hr:Room k X.A)(hg:Gl X x)(hm:X.mg x=some (.ref f))(hk:PySem.W.keepIn X.K (.ref f)=true)(hb:Binds X.K fd ps ds)(hd:Vals dvs ds)(hx:zV CX X E)
  (ha:PA X (e::es) t) (hdb:(x == ("__debug__" : Str))=false:=by decide) (he:starEach (e::es) X.env=(false,eval e X.env)::starEach es X.env:=by rfl) (hpl:(backTo pos (starEach es X.env)).any (·.1)=false:=by rfl) :
  PE X (.Call (.Name x p) (e::es) [] pos) (Aa sp dvs E t):=by
 intro pins s σ H Q I h;refine wpAny_Call_Name_kw (Av I hg hm ?_ hdb);refine PySem.W.callWith_K (h₀:=X.base) I.ok.mod.kin hk (qI (ha pos pins s σ H _ I h) fun us s1 ⟨vs,H1,I1,r,q⟩=>⟨I1.kIn,?_⟩) he hpl;exact FZ F hr hb hd hx I1 r q
end
structure FnScope (N P:List Str)(sc:Scope):Prop where
 kind:sc.kind = .function
 co:sc.isCoroutine=false
 gen:sc.isGenerator=false
 nd:N.Nodup
 pre:N.take P.length=P
 par:∀ x∈P,sc.names.lookup x=some .local\/sc.names.lookup x=some .cell
 nofree:∀ y∈sc.names,y.2 ≠ .free
theorem wH{kindOf:Str->Option NameKind}{x:Str}:∀{binds:List (Str×Value)} {m:Str->Option Value},(∀ v,(x,v) ∉ binds)->bindL kindOf binds m x=m x
 | [],_,_=>rfl
 | (n,v)::r,m,h=>by
  unfold bindL;rw [wH fun w hw=>h w (aE _ hw)];split
  ·have:x≠n:=by rintro rfl;exact h v aK
   simp [this]
  ·rfl
theorem wJ{kindOf:Str->Option NameKind}{x:Str}:∀{binds:List (Str×Value)} {m:Str->Option Value},(∀ v,(x,v) ∉ binds)->bindC kindOf binds m x=m x
 | [],_,_=>rfl
 | (n,v)::r,m,h=>by
  unfold bindC;rw [wJ fun w hw=>h w (aE _ hw)];split
  ·rfl
  ·have:x≠n:=by rintro rfl;exact h v aK
   simp [this]
theorem wI{kindOf:Str->Option NameKind}{x:Str}{v:Value}:∀{P:List Str} {vs:List Value} {i:Nat} {m:Str->Option Value},P.Nodup->P[i]? = some x->vs[i]? = some v->kindOf x=some .local ->
  bindL kindOf (P.zip vs) m x=some v
 | [],_,_,_,_,h,_,_=>by simp at h
 | _::_,[],_,_,_,_,h,_=>by simp at h
 | p::P,w::vs,0,m,nd,h1,h2,hk=>by
  simp at h1 h2;subst h1;subst h2;show bindL kindOf ((p,w)::P.zip vs) m p=_;unfold bindL;rw [wH fun v hv=>(cQ.mp nd).1 (eg hv).1,if_pos hk];simp
 | p::P,w::vs,i+1,m,nd,h1,h2,hk=>by
  show bindL kindOf ((p,w)::P.zip vs) m x=_;unfold bindL;exact wI (i:=i) (cQ.mp nd).2 (by simpa using h1) (by simpa using h2) hk
theorem wK{kindOf:Str->Option NameKind}{x:Str}{v:Value}:∀{P:List Str} {vs:List Value} {i:Nat} {m:Str->Option Value},P.Nodup->P[i]? = some x->vs[i]? = some v->kindOf x≠some .local ->
  bindC kindOf (P.zip vs) m x=some v
 | [],_,_,_,_,h,_,_=>by simp at h
 | _::_,[],_,_,_,_,h,_=>by simp at h
 | p::P,w::vs,0,m,nd,h1,h2,hk=>by
  simp at h1 h2;subst h1;subst h2;show bindC kindOf ((p,w)::P.zip vs) m p=_;unfold bindC;rw [wJ fun v hv=>(cQ.mp nd).1 (eg hv).1,if_neg hk];simp
 | p::P,w::vs,i+1,m,nd,h1,h2,hk=>by
  show bindC kindOf ((p,w)::P.zip vs) m x=_;unfold bindC;exact wK (i:=i) (cQ.mp nd).2 (by simpa using h1) (by simpa using h2) hk
def start(N:List Str)(vs:List V):St:=vs.map some++List.replicate (N.length-vs.length) none
def zr(CX:DE)(P:Program)(w:World)(K:Frag)(mg:Str->Option Value)(base:Heap)(N:List Str)(qual:Str)(scope:Scope)(f:Addr)(cd:Value)(A:Around)(outer:List Env)(s:Shared)(H:Hp)(E:XK):Cx where
 prog:=P
 w:=w
 K:=K
 mg:=mg
 base:=base
 A:=A.deeper (envOfC qual scope s.heap.objs.size f cd)
 N:=N
 s₀:=s
 H₀:=H
 env:=envOfC qual scope s.heap.objs.size f cd
 outer:=outer
 stack:=envOfC qual scope s.heap.objs.size f cd::outer
 ex:=[]
 calm:=true
 fn:=fun _=>true
 pn:=[]
 xe:=fun e s'=>wpAny (model P w) (A.deeper (envOfC qual scope s.heap.objs.size f cd)) (leaving (envOfC qual scope s.heap.objs.size f cd) e) (fun _ s''=>CX outer H s E e s'') (fun e' s''=>CX outer H s E e' s'') s'
theorem yu{sc:Scope}{n:Nat}{x:Str}(h:sc.names.lookup x=some .cell):∃ c,(cellsFrom n sc.names []).lookup x=some c:=by
 have q:=PySem.W.cellsFrom_some sc.names n [] (.inl h);exact Option.isSome_iff_exists.mp q
theorem Bo{CX:DE}{P:Program}{w:World}{K:Frag}{mg:Str->Option Value}{base:Heap}{N ps:List Str}{qual:Str}{scope:Scope}{f:Addr}{cd:Value}{A:Around}{outer:List Env}{s s1:Shared}{H:Hp}{E:XK}{us:List Value}{vs:List V}
  (S:FnScope N ps scope) (hd:A.handled=none) (e0:Env0 P w K mg base A outer s H) (hl:vs.length=ps.length) (r:Vals vs us)
  (x:InCallC s s.heap.objs.size (bindL (envOfC qual scope s.heap.objs.size f cd).kindOf (ps.zip us) fun _=>none) (cellsFrom (s.heap.objs.size+1) scope.names []) (bindC (envOfC qual scope s.heap.objs.size f cd).kindOf (ps.zip us) fun _=>none) s1) :
  Inv (zr CX P w K mg base N qual scope f cd A outer s H E) [] (start N vs) H s1:=by
 have hpl:ps.length<=N.length:=by have:=congrArg List.length S.pre;rw [aD] at this;omega
 obtain⟨h1,tk,rfl,hk⟩:=x.done;have noA:∀ b:Addr,b ∉ (zr CX P w K mg base N qual scope f cd A outer s H E).ex:=fun b z=>absurd (show b∈([]:List Addr) from z) (by simp);refine⟨⟨e0.mod,S.kind,rfl,rfl,aq _,fun y z c h1 h2=>?_,fun y hy=>?_,fun y c _ h=>?_,fun _=>hd,Around.frames_deeper e0.frames,.inr ⟨rfl,rfl⟩,fun b z=>absurd z (noA b),e0.bs,e0.bsz,fun b _ _=>noA b,fun b z=>absurd z (noA b),e0.funs,e0.frf,e0.sr,⟨_,_,rfl,S.gen,S.co,rfl,rfl⟩⟩,
  rfl,e0.bare,Un.kept hk,⟨_,x.toInCall.ns,fun i y v h1 h2 h3=>?_⟩,fun y c h=>⟨_,x.cell y c h⟩,e0.hok.fresh (aq _),fun y c h=>?_,fun p hp=>absurd (show p∈([]:List (Addr×Obj)) from hp) (by simp),e0.hok.kept hk,?_⟩
 ·exact name_of_addr x.apart (PySem.mem_of_lookup h1) (PySem.mem_of_lookup h2)
 ·have hy:scope.names.lookup y=some .cell\/scope.names.lookup y=some .free:=hy;rcases hy with hy|hy
  ·exact yu hy
  ·exact absurd rfl (S.nofree _ (PySem.mem_of_lookup hy))
 ·exact dX (x.above y c (PySem.mem_of_lookup h))
 ·have hi:i<vs.length:=by
   unfold start at h2;by_cases hi:i<vs.length
   ·exact hi
   ·rw [aT (by simpa using hi)] at h2;rw [dl] at h2;split at h2 <;> cases h2
  have ha:vs[i]? = some v:=by
   unfold start at h2;rw [bj (by simpa using hi),aw] at h2;cases e:vs[i]? with
   | none=>rw [e] at h2;cases h2
   | some a=>rw [e] at h2;cases h2;rfl
  obtain⟨u,hu,rv⟩:=r.get ha;have hp:ps[i]? = some y:=by
   rw [← S.pre,db (by omega)];exact h1
  have ndP:ps.Nodup:=by rw [← S.pre];exact S.nd.sublist (List.take_sublist _ _)
  refine⟨u,rv,?_⟩;rcases S.par y (aO hp) with k|k
  ·exact .inl ⟨k,wI ndP hp hu k⟩
  ·obtain⟨c,e⟩:=yu (n:=s.heap.objs.size+1) k;refine .inr ⟨.inl k,c,e,?_⟩;have q:=x.cell y c e;rw [wK ndP hp hu (by show scope.names.lookup y≠_;rw [k];decide)] at q;exact q
 ·exact e0.hok.fresh (dX (x.above y c (PySem.mem_of_lookup h)))
 ·unfold start;show _=N.length;rw [ai,aa,aC];omega
theorem Jj{CX:DE}{P:Program}{w:World}{K:Frag}{mg:Str->Option Value}{base:Heap}{k:Nat}{f:Addr}{name qual:Str}{params:Arguments}{body:List Stmt}{scope:Scope}{dV kV doc pm cdv ct oc:Value}{an od:Option Addr}
  {osl:Array (Option Value)} {N ps:List Str} {sp:Sp} (lk:K.lookup f=some ⟨oc,od,.func (PySem.W.fnOf name qual params body scope dV kV doc pm an cdv ct),osl⟩) (hcd:PySem.W.codeIn K cdv qual=true) (S:FnScope N ps scope)
  (len:∀ vs H Q E,sp vs H Q E->vs.length=ps.length)
  (hbody:∀(A:Around) (outer:List Env) (s:Shared) (H:Hp) (vs:List V) (Q:VK) (E:XK),Room k (A.deeper (envOfC qual scope s.heap.objs.size f cdv))->sp vs H Q E ->
   ∃ t,PSs (zr CX P w K mg base N qual scope f cdv A outer s H E) body t/\t { nx:=fun _ H'=>Q .non H',rt:=Q } (start N vs) H) :
  FnOk P w K mg base CX (k+1) f (PySem.W.fnOf name qual params body scope dV kV doc pm an cdv ct) ps sp:=by
 refine⟨len,fun A outer s H args us vs Q E hr e0 hb r hsp=>?_⟩;have hl:=len _ _ _ _ hsp;have KX:K.In s.heap:=e0.mod.kin.keeps fun b o e=>(e0.bs b o e).1;have lim:s.heap.NoLimit:=e0.mod.nolimit.keeps fun b o e=>(e0.bs b o e).1;have hkind:∀ y∈ps.zip us,scope.names.lookup y.1=some .local\/(scope.names.lookup y.1=some .cell/\((cellsFrom (s.heap.objs.size+1) scope.names []).lookup y.1).isSome=true):=fun⟨n,v⟩ hy=>by
  rcases S.par n (eg hy).1 with q|q
  ·exact .inl q
  ·exact .inr ⟨q,PySem.W.cellsFrom_some _ _ _ (.inl q)⟩
 refine codeAny_call_function hr.depth (KX _ _ lk) rfl S.co S.gen rfl (PySem.W.codeRec_of KX hcd) (hb _ _ _ _ ?_);refine wpAny_newFunctionEnv_cells S.kind hkind fun env he s1 x=>?_;subst he;refine⟨lim.keeps x.toInCall.keep,codeAny_func ?_⟩;obtain⟨t,ht,hq⟩:=hbody A outer s H vs Q E (hr.deeper _) hsp;have I:Inv (zr CX P w K mg base N qual scope f cdv A outer s H E) [] (start N vs) H s1:=Bo S hr.hd e0 hl r x;refine wpAny_mono (ht [] s1 (start N vs) H _ I hq) (fun fl s' hs=>?_) fun e s' hs=>hs;have fin:∀{σ':St} {H':Hp} {v:V} {u:Value},Inv (zr CX P w K mg base N qual scope f cdv A outer s H E) [] σ' H' s'->RelV v u->Q v H'->CE outer P w H s Q u s' :=
  fun {σ' H' v u} J rv q=>⟨v,H',J.os,J.bare,J.base,J.hok,rv,q⟩
 cases fl with
 | ret u =>
  obtain⟨v,σ',H',J,rv,q⟩:=hs;exact fin J rv q
 | next =>
  obtain⟨σ',H',J,q⟩:=hs;exact fin (v:=V.non) (u:=Value.none) J rfl q
 | brk =>
  obtain⟨_,_,_,q⟩:=hs;exact False.elim q
 | cont =>
  obtain⟨_,_,_,q⟩:=hs;exact False.elim q
end L2
namespace L2
open PySem PySem.Spec PyProof.Rows
section
variable{X:Cx}{x:Str}{p pos:Pos}{e:Expr}{es:List Expr}{t:TA}{id T:String}{r:List V->Hp->VK->Prop}
def J5(r:List V->Hp->VK->Prop)(t:TA):TE:=fun σ H Q=>t σ H fun vs H1=>r vs H1 Q
theorem qG(hc:CallR X (.builtin id) r)(hg:Gl X x)(hm:X.mg x=none)(hv:bootBuiltins x=some (.builtin id))(ha:PA X (e::es) t)(hn:x ≠ "__name__" := by decide)(hdb:(x == ("__debug__" : Str))=false:=by decide)
  (he:starEach (e::es) X.env=(false,eval e X.env)::starEach es X.env:=by rfl) (hpl:(backTo pos (starEach es X.env)).any (·.1)=false:=by rfl):PE X (.Call (.Name x p) (e::es) [] pos) (J5 r t):=by
 intro pins s σ H Q I h;refine wpAny_Call_Name_kw (tw I hg hm hv ?_ hn hdb);exact PyProof.Rows.callWith_builtin1 (qI (ha pos pins s σ H _ I h) fun us s1 ⟨vs,H1,I1,r1,q1⟩=>hc pins s1 σ H1 vs us Q I1 r1 q1) he hpl
theorem uE(hc:CallR X (.type T) r)(hg:Gl X x)(hm:X.mg x=none)(hv:bootBuiltins x=some (.type T))(ha:PA X (e::es) t)(hn:x ≠ "__name__" := by decide)(hdb:(x == ("__debug__" : Str))=false:=by decide)
  (he:starEach (e::es) X.env=(false,eval e X.env)::starEach es X.env:=by rfl) (hpl:(backTo pos (starEach es X.env)).any (·.1)=false:=by rfl):PE X (.Call (.Name x p) (e::es) [] pos) (J5 r t):=by
 intro pins s σ H Q I h;refine wpAny_Call_Name_kw (tw I hg hm hv ?_ hn hdb);exact PyProof.Rows.callWith_type1 (qI (ha pos pins s σ H _ I h) fun us s1 ⟨vs,H1,I1,r1,q1⟩=>hc pins s1 σ H1 vs us Q I1 r1 q1) he hpl
end
end L2
namespace HT
open PySem PyProof.Rows
section
open PySem.SeqAt
open PySem.AutoSeq1 (wpAny_loadPart')
open PySem.MeetsSeq PySem.MeetsSeq2 PySem.MeetsSeq3
end
section
variable{prog:Program}{w:World}{A:Around}{E:Value->Shared->Prop}{s:Shared}
theorem EL{t b:Addr}{vs ws:List Value}{Q:Value->Shared->Prop}(ht:IsTup s.heap t vs.toArray)(hb:IsTup s.heap b ws.toArray)(hv:vs≠[])
  (h1:ws=[]->Q (.ref t) s) (h2:ws≠[]->Q (.ref s.heap.objs.size) { s with heap:=s.heap.push { cls:=.type "tuple",data:=.seq (vs++ws).toArray } })
  (hsz:vs.length+ws.length<=sizeLine):wpAny (model prog w) A (binaryOp .Add (.ref t) (.ref b)) Q E s:=by
 obtain⟨⟨cls,dd,data,sl⟩,ho,hc,n,hd⟩:=id ht;obtain⟨⟨cls2,dd2,data2,sl2⟩,ho2,hc2,n2,hd2⟩:=id hb;simp only at hc hd hc2 hd2;subst hc hd hc2 hd2;have e:vs.toArray++ws.toArray=(vs++ws).toArray:=by simp
 by_cases hw:ws=[]
 ·exact concat_meets ⟨_,ho,rfl⟩ ⟨_,ho2,rfl⟩ noFill_tuple_add seq_tuple_add PySem.F.slot_tuple_add PySem.F.entry_tuple_add (PySem.F.args_tuple_add_2 _ _)
   (tuple_addW1 t b vs.toArray ws.toArray n n2 dd dd2 sl sl2 (by simpa using hv) (by simp [hw])) ⟨ho,ho2,h1 hw⟩
 ·refine concat_meets ⟨_,ho,rfl⟩ ⟨_,ho2,rfl⟩ noFill_tuple_add seq_tuple_add PySem.F.slot_tuple_add PySem.F.entry_tuple_add (PySem.F.args_tuple_add_2 _ _)
   (tuple_addW2 t b vs.toArray ws.toArray n n2 dd dd2 sl sl2 (by simpa using hv) (by simpa using hw) (by rw [am,am];exact hsz)) ⟨ho,ho2,?_⟩
  rw [e];exact h2 hw
def qT(n d:Nat):Option Int->Nat
 | none=>d
 | some v=>if v<0 then (v+(n:Int)).toNat else min v.toNat n
theorem vC(n d:Nat):qT n d none=d:=rfl
theorem xa(n d k:Nat):qT n d (some (k:Int))=min k n:=by
 show (if (k:Int)<0 then ((k:Int)+(n:Int)).toNat else min (k:Int).toNat n)=min k n;rw [if_neg (by omega),aJ]
theorem FY(n d:Nat)(hd:d<=n)(o:Option Int):qT n d o<=n:=by
 cases o with
 | none=>exact hd
 | some v =>
  show (if v<0 then (v+(n:Int)).toNat else min v.toNat n)<=n;by_cases hv:v<0
  ·rw [if_pos hv];omega
  ·rw [if_neg hv];exact Nat.min_le_right _ _
theorem AR(v:Int)(n d:Nat):(if v<0 then max (v+(n:Int)) 0 else min v (n:Int))=((qT n d (some v):Nat):Int):=by
 show (if v<0 then max (v+(n:Int)) 0 else min v (n:Int))=(((if v<0 then (v+(n:Int)).toNat else min v.toNat n):Nat):Int);by_cases hv:v<0
 ·simp only [if_pos hv];omega
 ·simp only [if_neg hv];omega
theorem zQ(lo hi:Option Int)(n:Nat):Builtin.Slice.sliceAdjust lo hi 1 (n:Int)=(((qT n 0 lo:Nat):Int),((qT n n hi:Nat):Int)):=by
 have h1:¬ ((1:Int)<0):=by omega
 unfold Builtin.Slice.sliceAdjust;simp only [h1,if_false];refine Prod.ext ?_ ?_
 ·cases lo with
  | none=>rfl
  | some v=>exact AR v n 0
 ·cases hi with
  | none=>rfl
  | some v=>exact AR v n n
theorem yQ(i j:Nat):Builtin.Slice.slicePlaces (i:Int) (j:Int) 1=j-i:=by
 unfold Builtin.Slice.slicePlaces;have h1:(1:Int) > 0:=by omega
 simp only [h1,if_true,Int.ediv_one];split <;> omega
theorem vv{v:Value}{o:Option Int}{Q:Option Int->Shared->Prop}(p:IsPart v o)(h:Q o s):wpAny (model prog w) A (Builtin.Slice.slicePartIndex v) Q E s:=by
 cases p with
 | none=>exact slicePart_none h
 | int i t=>exact slicePart_int h
theorem sv{sl:Addr}{vl vu:Value}{lo hi:Option Int}{n:Nat}{Q:Int×Int×Nat->Shared->Prop}(hs:s.heap.IsSliceOf sl vl vu .none)(pl:IsPart vl lo)(pu:IsPart vu hi)
  (h:Q (((qT n 0 lo:Nat):Int),1,qT n n hi-qT n 0 lo) s):wpAny (model prog w) A (Builtin.Slice.sliceApplied (.ref sl) (pure (n:Int))) Q E s:=by
 obtain⟨os,hos,hcs,hds⟩:=id hs;unfold Builtin.Slice.sliceApplied Builtin.Slice.sliceFields;refine wpAny_bind (wpAny_bind (wpAny_field hos hds (x:=vl) rfl (wpAny_bind (wpAny_field hos hds (x:=vu) rfl (wpAny_bind (wpAny_field hos hds (x:=.none) rfl (wpAny_pure ?_)))))));refine wpAny_bind (slicePart_none ?_);show wpAny _ _ (if ((1:Int) == 0)=true then _ else _) _ _ s;rw [if_neg (by decide)];refine wpAny_bind (vv pl (wpAny_bind (vv pu (wpAny_bind (wpAny_pure ?_)))));show wpAny _ _ (match Builtin.Slice.sliceAdjust lo hi 1 (n:Int) with|(lo,hi)=>pure (lo,(1:Int),Builtin.Slice.slicePlaces lo hi 1)) _ _ s;rw [zQ lo hi n];show wpAny _ _ (pure (((qT n 0 lo:Nat):Int),(1:Int),Builtin.Slice.slicePlaces ((qT n 0 lo:Nat):Int) ((qT n n hi:Nat):Int) 1)) _ _ s;rw [yQ];exact wpAny_pure h
theorem Cm(xs:Array Value)(i k:Nat):((List.range k).filterMap fun (m:Nat)=>xs[((i:Int)+(m:Int)*1).toNat]?).toArray=((xs.toList.drop i).take k).toArray:=by
 have e:(fun (m:Nat)=>xs[((i:Int)+(m:Int)*1).toNat]?)=fun m=>xs[i+m]?:=by
  funext m;have:((i:Int)+(m:Int)*1).toNat=i+m:=by omega
  rw [this]
 rw [e];have:=pick_run xs i k;rw [List.filterMap_map] at this;have e2:((fun x=>xs[x]?)∘fun x=>i+x)=fun m=>xs[i+m]?:=rfl;rw [e2] at this;rw [this]
theorem ut{t sl:Addr}{items:Array Value}{vl vu:Value}{lo hi:Option Int}{Q:Value->Shared->Prop}(ht:IsTup s.heap t items)(hs:s.heap.IsSliceOf sl vl vu .none)(pl:IsPart vl lo)(pu:IsPart vu hi)
  (hw:¬ (qT items.size 0 lo=0/\qT items.size items.size hi=items.size))
  (h:Q (.ref s.heap.objs.size) { s with heap:=s.heap.push { cls:=.type "tuple",data:=.seq ((items.toList.drop (qT items.size 0 lo)).take (qT items.size items.size hi-qT items.size 0 lo)).toArray } })
  (hsz:items.size<=sizeLine):wpAny (model prog w) A (getItem (.ref t) (.ref sl)) Q E s:=by
 have htake:sizeOk (.seq ((items.toList.drop (qT items.size 0 lo)).take (qT items.size items.size hi-qT items.size 0 lo)).toArray):=by
  show ((items.toList.drop (qT items.size 0 lo)).take (qT items.size items.size hi-qT items.size 0 lo)).toArray.size<=sizeLine;rw [am,aD,bf,dM];omega
 have hj:qT items.size items.size hi<=items.size:=FY _ _ (aq _) hi;obtain⟨os,hos,hcs,hds⟩:=id hs;have hTs:s.TypeIs (.ref sl) "slice" := ⟨os,hos,hcs⟩;unfold getItem;try with_reducible refine wpAny_holding ?_
 first|refine wpAny_bind (wpAny_pure ?_)|skip
 refine wpAny_bind (wpAny_sequenceKey ht.typeIs (by decide) ?_);refine wpAny_bind (wpAny_callSpecial?_slot (name:=Str.ofString "__getitem__") ht.typeIs PyProof.Rows.slot_tuple_getitem
  (wpAny_call_entry PyProof.Rows.slot_tuple_getitem ht.typeIs entry_tuple_getitem ?_ (args_tuple_getitem _ _)))
 show wpAny _ _ (Builtin.Tuple.tupleItemsOf (.ref t) >>= _) _ _ s;refine wpAny_bind (tupleItemsOf_ ht ?_);refine wpAny_bind (wpAny_typeOf hTs ?_);rw [if_pos (by decide)];refine wpAny_bind (sv hs pl pu ?_);have hno:¬ ((((qT items.size 0 lo:Nat):Int) == 0 && (1:Int) == 1 && (qT items.size items.size hi-qT items.size 0 lo) == items.size)=true):=by
  intro q;rw [bh,bh] at q;have q1:((qT items.size 0 lo:Nat):Int)=0:=eq_of_beq q.1.1;have q2:qT items.size items.size hi-qT items.size 0 lo=items.size:=eq_of_beq q.2;exact hw ⟨by omega,by omega⟩
 show wpAny _ _ (if (((qT items.size 0 lo:Nat):Int) == 0 && (1:Int) == 1 && (qT items.size items.size hi-qT items.size 0 lo) == items.size)=true then _ else _) _ _ s;rw [if_neg hno,Cm];first
  | exact wpAny_bind (m:=Builtin.Tuple.tupleExact _) (wpAny_newObj_type (wpAny_pure ⟨_,rfl,wpAny_pure h⟩) htake)
  | exact wpAny_bind (m:=Builtin.Tuple.tupleExact _) (wpAny_newObj_type (wpAny_bind (wpAny_pure (wpAny_pure ⟨_,rfl,wpAny_pure h⟩))) htake)
  | exact wpAny_bind (wpAny_bind (m:=Builtin.Tuple.tupleExact _) (wpAny_newObj_type (wpAny_pure (wpAny_pure ⟨_,rfl,wpAny_pure h⟩)) htake))
  | exact wpAny_bind (wpAny_bind (m:=Builtin.Tuple.tupleExact _) (wpAny_newObj_type (wpAny_pure ⟨_,rfl,wpAny_pure h⟩) htake))
end
end HT
namespace L2
open PySem PySem.Spec PyProof.Rows
abbrev TO:=St->Hp->(Option Int->Hp->Prop)->Prop
def PO(X:Cx)(e:Option Expr)(t:TO):Prop :=
 ∀(pins:List (Addr×Obj)) (s:Shared) (σ:St) (H:Hp) (Q:Option Int->Hp->Prop),Inv X pins σ H s->t σ H Q ->
  wpAny (model X.prog X.w) X.A (evalPart e X.env) (fun u s'=>∃ o H',Inv X pins σ H' s'/\IsPart u o/\Q o H') X.xe s
def DI:TO:=fun _ H Q=>Q none H
def HM(t:TE):TO:=fun σ H Q=>t σ H fun x H1=>∃ i,x = .int i/\Q (some i) H1
section
variable{X:Cx}{e:Expr}{te:TE}{lo hi:Option Expr}{tl th:TO}{pos p2:Pos}
theorem po_none:PO X none DI:=by
 intro pins s σ H Q I h;rw [evalPart_none];exact wpAny_pure ⟨none,H,I,.none,h⟩
theorem Ak(h:PE X e te):PO X (some e) (HM te):=by
 intro pins s σ H Q I hw;rw [evalPart_some];refine qI (h pins s σ H _ I hw) fun u s1 ⟨x,H1,I1,r1,q1⟩=>?_;obtain⟨i,rfl,q⟩:=q1;obtain⟨t,rfl⟩:=r1;exact⟨some i,H1,I1,.int i t,q⟩
def SlR(X:Cx)(r:V->Option Int->Option Int->Hp->VK->Prop):Prop :=
 ∀(pins:List (Addr×Obj)) (s:Shared) (σ:St) (H:Hp) (x:V) (v vl vu:Value) (lo hi:Option Int) (sl:Addr) (Q:VK),Inv X pins σ H s->RelV x v->s.heap.IsSliceOf sl vl vu .none->IsPart vl lo->IsPart vu hi->r x lo hi H Q ->
  ∃ T id,typeLookup (.type T) "__getitem__" = pure (some (.builtin id))/\s.TypeIs v T/\wpAny (model X.prog X.w) X.A (getItem v (.ref sl)) (EP X pins σ Q) X.xe s
theorem SlR.or{r r':V->Option Int->Option Int->Hp->VK->Prop}(h:SlR X r)(h':SlR X r'):SlR X (fun x lo hi H Q=>r x lo hi H Q\/r' x lo hi H Q):=by
 intro pins s σ H x v vl vu lo hi sl Q I rx hs pl pu q;rcases q with q|q
 ·exact h pins s σ H x v vl vu lo hi sl Q I rx hs pl pu q
 ·exact h' pins s σ H x v vl vu lo hi sl Q I rx hs pl pu q
def Lp(r:V->Option Int->Option Int->Hp->VK->Prop)(te:TE)(tl th:TO):TE:=fun σ H Q=>te σ H fun x H1=>tl σ H1 fun l H2=>th σ H2 fun u H3=>r x l u H3 Q
theorem Cp{r:V->Option Int->Option Int->Hp->VK->Prop}(hr:SlR X r)(he:PE X e te)(hl:PO X lo tl)(hu:PO X hi th):PE X (.Subscript e (.Slice lo hi none p2) pos) (Lp r te tl th):=by
 intro pins s σ H Q I h;refine Subscript_ (qI (he pins s σ H _ I h) fun v s1 ⟨x,H1,I1,r1,q1⟩=>?_);refine wpAny_Slice (qI (hl pins s1 σ H1 _ I1 q1) fun vl s2 ⟨l,H2,I2,pl,q2⟩=>qI (hu pins s2 σ H2 _ I2 q2) fun vu s3 ⟨u,H3,I3,pu,q3⟩=>?_);rw [evalPart_none];refine wpAny_pure ?_;have I4:Inv X pins σ H3 { s3 with heap:=s3.heap.push { cls:=.type "slice",data:=.fields #[vl,vu,.none] } }:=I3.kept (t':=s3.toks) fun b ob q=>Heap.get?_push_of_some _ q;obtain⟨T,id,hT,ht,hg⟩:=hr pins { s3 with heap:=s3.heap.push { cls:=.type "slice",data:=.fields #[vl,vu,.none] } } σ H3 x v vl vu l u s3.heap.objs.size Q I4 r1 (Heap.IsSliceOf.new ..) pl pu q3;show wpAny (model X.prog X.w) X.A (subscriptTail e (.Slice lo hi none p2) v (.ref s3.heap.objs.size)) (EP X pins σ Q) X.xe { s3 with heap:=s3.heap.push { cls:=.type "slice",data:=.fields #[vl,vu,.none] } };exact tail_any (ops:=[.ref s3.heap.objs.size,v]) ht hT hg (by with_unfolding_all rfl)
def yr(xs:List V)(lo hi:Option Int):List V:=(xs.drop (HT.qT xs.length 0 lo)).take (HT.qT xs.length xs.length hi-HT.qT xs.length 0 lo)
theorem uV(xs:List V)(lo hi:Option Int):(yr xs lo hi).length<=xs.length:=by
 unfold yr;rw [aD,bf];omega
def Ka(K:Frag):V->Option Int->Option Int->Hp->VK->Prop:=fun x lo hi H Q=>∃ a xs,x = .ref a/\SqT K H a xs /\
 ¬ (HT.qT xs.length 0 lo=0/\HT.qT xs.length xs.length hi=xs.length)/\∀ p,H p=none->Q (.ref p) (qR H p (.tup (yr xs lo hi)))
theorem sl_tup:SlR X (Ka X.K):=by
 intro pins s σ H x v vl vu lo hi sl Q I rx hs pl pu h;obtain⟨a,xs,rfl,hx,hw,q⟩:=h;cases rx;obtain⟨its,r,ht,hz⟩:=I.tuple hx;have hlen:its.toArray.size=xs.length:=by rw [am];exact r.length.symm
 refine⟨"tuple",_,PyProof.Rows.slot_tuple_getitem.lookup,ht.typeIs,?_⟩;refine HT.ut ht hs pl pu (by rw [hlen];exact hw) ?_ (by rw [hlen];exact hz);rw [hlen];refine⟨.ref s.heap.objs.size,_,I.laid (t':=s.toks) (o:=.tup (yr xs lo hi)) (fun b ob q=>Heap.get?_push_of_some _ q) (aq _) ?_,rfl,q _ (I.hok.fresh (aq _))⟩;exact⟨aF (uV xs lo hi) hz,_,(r.drop (HT.qT xs.length 0 lo)).take (HT.qT xs.length xs.length hi-HT.qT xs.length 0 lo),IsTup.new _ _⟩
def Ih(K:Frag):R2:=fun x y H Q=>∃ a b xs ys,x = .ref a/\y = .ref b/\SqT K H a xs/\SqT K H b ys/\xs≠[]/\xs.length+ys.length<=sizeLine /\
 (ys=[]->Q (.ref a) H)/\(ys≠[]->∀ p,H p=none->Q (.ref p) (qR H p (.tup (xs++ys))))
theorem Vals.nil_iff{xs:List V}{us:List Value}(r:Vals xs us):us=[]↔xs=[]:=by
 cases r with
 | nil=>simp
 | cons _ _=>simp
theorem Ee:OpR X (binaryOp .Add) (Ih X.K):=by
 intro pins s σ H x y v u Q I rx ry h;obtain⟨a,b,xs,ys,rfl,rfl,ha,hb,hx,hz,q1,q2⟩:=h;cases rx;cases ry;obtain⟨its,r1,p1,_⟩:=I.tuple ha;obtain⟨its2,r2,p2,_⟩:=I.tuple hb;refine HT.EL p1 p2 (fun z=>hx (r1.nil_iff.mp z)) (fun z=>⟨.ref a,H,I,rfl,q1 (r2.nil_iff.mp z)⟩) (fun z=>?_) (by rw [← r1.length,← r2.length];exact hz);refine⟨.ref s.heap.objs.size,_,I.laid (t':=s.toks) (o:=.tup (xs++ys)) (fun b ob q=>Heap.get?_push_of_some _ q) (aq _) ?_,rfl,q2 (fun w=>z (r2.nil_iff.mpr w)) _ (I.hok.fresh (aq _))⟩;exact⟨by rw [ai];exact hz,_,r1.append r2,IsTup.new _ _⟩
end
end L2
namespace L2
open PySem PySem.Spec PyProof.Rows
def yc(n:Nat)(i:Int):Option Nat:=if 0<=i then (if i<n then some i.toNat else none) else if -(n:Int)<=i then some (i+n).toNat else none
def vg{α:Type}(xs:List α)(i:Int):Option α:=(yc xs.length i).bind fun j=>xs[j]?
theorem Ax{n:Nat}{i:Int}{j:Nat}(h:yc n i=some j):seqIndex? i n=some j/\j<n /\ -(n:Int)<=i/\i<n:=by
 unfold yc at h;by_cases h0:0<=i
 ·rw [if_pos h0] at h;by_cases h1:i<n
  ·rw [if_pos h1] at h;have e:i.toNat=j:=Option.some.inj h;exact⟨by rw [seqIndex_of h0 h1,e],by omega,by omega,h1⟩
  ·rw [if_neg h1] at h;cases h
 ·rw [if_neg h0] at h;by_cases h1 : -(n:Int)<=i
  ·rw [if_pos h1] at h;have e:(i+n).toNat=j:=Option.some.inj h;exact⟨by rw [seqIndex_neg (by omega) h1,e],by omega,h1,by omega⟩
  ·rw [if_neg h1] at h;cases h
theorem xH{α:Type}{xs:List α}{i:Int}{v:α}(h:vg xs i=some v):∃ j,seqIndex? i xs.length=some j/\xs[j]? = some v/\j<xs.length /\ -(xs.length:Int)<=i/\i<xs.length:=by
 unfold vg at h;cases e:yc xs.length i with
 | none=>rw [e] at h;cases h
 | some j =>
  rw [e] at h;obtain⟨h1,h2,h3,h4⟩:=Ax e;exact⟨j,h1,h,h2,h3,h4⟩
theorem vf{α:Type}{xs:List α}{j:Nat}{v:α}(h:xs[j]? = some v):vg xs (j:Int)=some v:=by
 have hj:j<xs.length:=(aj.mp h).1;have e:yc xs.length (j:Int)=some j:=by
  unfold yc;rw [if_pos (by omega),if_pos (by omega)];simp
 unfold vg;rw [e];exact h
theorem yx{α:Type}(xs:List α)(v:α):vg (xs++[v]) (-1)=some v:=by
 have hl:(xs++[v]).length=xs.length+1:=by simp
 have e:yc (xs++[v]).length (-1)=some xs.length:=by
  unfold yc;rw [hl,if_neg (by decide),if_pos (by omega)];congr 1;omega
 unfold vg;rw [e];show (xs++[v])[xs.length]? = some v;simp
def vh(b:Expr):Prop:=∀ o i,subscripted b false o i=operate [o,i] (getItem o i)
def IxR(X:Cx)(r:R2):Prop :=
 ∀(value slice:Expr) (pins:List (Addr×Obj)) (s:Shared) (σ:St) (H:Hp) (x y:V) (v u:Value) (Q:VK),Inv X pins σ H s->RelV x v->RelV y u->r x y H Q ->
  subscripted slice false v u=operate [v,u] (getItem v u)->wpAny (model X.prog X.w) X.A (subscriptTail value slice v u) (EP X pins σ Q) X.xe s
def Li(X:Cx)(id:String)(r:V->List V->Hp->VK->Prop):Prop :=
 ∀(pins:List (Addr×Obj)) (s:Shared) (σ:St) (H:Hp) (x:V) (xs:List V) (v:Value) (us:List Value) (Q:VK),Inv X pins σ H s->RelV x v->Vals xs us->r x xs H Q ->
  wpAny (model X.prog X.w) X.A (call (.builtin id) (v::us)) (EP X pins σ Q) X.xe s
section
variable{X:Cx}{a b:Expr}{ta tb:TE}{pos:Pos}
theorem IxR.or{r r':R2}(h:IxR X r)(h':IxR X r'):IxR X (fun x y H Q=>r x y H Q\/r' x y H Q):=by
 intro value slice pins s σ H x y v u Q I rx ry q hs;rcases q with q|q
 ·exact h value slice pins s σ H x y v u Q I rx ry q hs
 ·exact h' value slice pins s σ H x y v u Q I rx ry q hs
theorem q8{r:R2}(hr:IxR X r)(ha:PE X a ta)(hb:PE X b tb)(hs:vh b):PE X (.Subscript a b pos) (HN r ta tb):=by
 intro pins s σ H Q I h;exact Subscript_ (Hn ha hb I h fun v u s2 x y H2 I2 rx ry q=>hr a b pins s2 σ H2 x y v u Q I2 rx ry q (hs _ _))
def F9(K:Frag):R2:=fun x y H Q=>∃ p xs i v,x = .ref p/\y = .int i/\SqL K H p xs/\vg xs i=some v/\Q v H
def Ib(K:Frag):R2:=fun x y H Q=>∃ p xs i v,x = .ref p/\y = .int i/\SqT K H p xs/\vg xs i=some v/\Q v H
def Ic:R2:=fun x y H Q=>∃ z i c,x = .str z/\y = .int i/\z.length<=sizeLine/\vg z.cps.toList i=some c/\Q (.str ⟨#[c]⟩) H
theorem ix_list:IxR X (F9 X.K):=by
 intro value slice pins s σ H x y v u Q I rx ry h hs;obtain⟨p,xs,i,z,rfl,rfl,hq,he,q⟩:=h;cases rx;obtain⟨t,rfl⟩:=ry;obtain⟨its,r,pl,hz⟩:=I.list hq;obtain⟨j,h1,h2,h3,h4,h5⟩:=xH he;obtain⟨w,ew,rw'⟩:=r.get h2;have hl:=r.length;have hn:=so;have fin:EP X pins σ Q w s:=⟨z,H,I,rw',q⟩;by_cases h0:0<=i
 ·have hj:i.toNat=j:=by
   rw [seqIndex_of h0 h5] at h1;exact Option.some.inj h1
  exact item_listR pl.isList h0 (by omega) (by rw [hj];simpa using ew) fin hs
 ·have hj:(i+(its.toArray.size:Int)).toNat=j:=by
   rw [seqIndex_neg (by omega) h4] at h1;rw [am,← hl];exact Option.some.inj h1
  exact subscriptTail_builtinR (x:=w) pl.isList.typeIs slot_list_getitem.lookup
   (wpAny_getItem_list_neg (Q:=fun r s'=>r=w/\EP X pins σ Q r s') pl.isList (by omega) (by rw [am] <;> omega) (by omega) (by rw [hj];simpa using ew) ⟨rfl,fin⟩) hs
theorem ix_tup:IxR X (Ib X.K):=by
 intro value slice pins s σ H x y v u Q I rx ry h hs;obtain⟨p,xs,i,z,rfl,rfl,hq,he,q⟩:=h;cases rx;obtain⟨t,rfl⟩:=ry;obtain⟨its,r,pl,hz⟩:=I.tuple hq;obtain⟨j,h1,h2,h3,h4,h5⟩:=xH he;obtain⟨w,ew,rw'⟩:=r.get h2;have hl:=r.length;have hn:=so;have fin:EP X pins σ Q w s:=⟨z,H,I,rw',q⟩;exact subscriptTail_builtinR (x:=w) pl.typeIs slot_tuple_getitem.lookup
  (getItem_tuple (j:=j) (Q:=fun r s'=>r=w/\EP X pins σ Q r s') pl (by omega) (by omega) (by rw [am,← hl];exact h1) (by simpa using ew) ⟨rfl,fin⟩) hs
theorem GK:IxR X Ic:=by
 intro value slice pins s σ H x y v u Q I rx ry h hs;obtain⟨z,i,c,rfl,rfl,hz,he,q⟩:=h;obtain⟨t,rfl⟩:=rx;obtain⟨t',rfl⟩:=ry;obtain⟨j,h1,h2,h3,h4,h5⟩:=xH he;have hl:z.cps.toList.length=z.length:=by simp [Str.length]
 rw [hl] at h1 h4 h5;have hn:=so;exact tail_any (typeIs_str s z t) slot_str_getitem.lookup (getItem_str (c:=c) (by
  have e1:decide (i < -(2^63:Int))=false:=decide_eq_false (by omega);have e2:decide (i ≥ 2^63)=false:=decide_eq_false (by omega);rw [e1,e2,Bool.or_false]) (by rw [h1];simpa using h2) ⟨.str ⟨#[c]⟩,H,I.tok _,⟨_,rfl⟩,q⟩) hs
def JO(K:Frag):R2:=fun x y H Q=>F9 K x y H Q\/Ib K x y H Q\/Ic x y H Q
theorem ix_seq:IxR X (JO X.K):=ix_list.or (ix_tup.or GK)
theorem y8(its:List Value)(n j:Nat)(u:Value):Obj.mapSeq (·.setIfInBounds j u) { cls:=.type "list",data:=.seq its.toArray n } = { cls:=.type "list",data:=.seq (its.set j u).toArray n }:=by
 simp [Obj.mapSeq]
theorem Inv.lst{pins:List (Addr×Obj)}{σ:St}{H:Hp}{s:Shared}{p:Addr}{xs:List V}(I:Inv X pins σ H s)(h:H p=some (.lst xs)) :
  ∃(its:List Value) (n:Nat),Vals xs its/\s.heap.get? p=some { cls:=.type "list",data:=.seq its.toArray n }/\xs.length<=sizeLine:=by
 obtain⟨z,its,n,r,e⟩:=I.hok p _ h;exact⟨its,n,r,e,z⟩
theorem Inv.lstUpd{pins:List (Addr×Obj)}{σ:St}{H:Hp}{s:Shared}{p:Addr}{xs ys:List V}{its its':List Value}{n n':Nat}{f:Obj->Obj}(I:Inv X pins σ H s)(h:H p=some (.lst xs))
  (ho:s.heap.get? p=some { cls:=.type "list",data:=.seq its.toArray n }) (hf:f { cls:=.type "list",data:=.seq its.toArray n } = { cls:=.type "list",data:=.seq its'.toArray n' }) (r:Vals ys its') (hz:ys.length<=sizeLine) (t:Nat) :
  Inv X pins σ (qR H p (.lst ys)) { s with heap:=s.heap.update p f,toks:=t }:=by
 have e:(s.heap.update p f).get? p=some { cls:=.type "list",data:=.seq its'.toArray n' }:=by
  rw [Heap.get?_update_self f ho (by rw [hf] <;> rfl),hf]
 refine I.write (x:=p) (e:=p) (by rw [h];trivial) (.inl rfl) (fun b u hb q=>(Heap.get?_update_other _ _ (Ne.symm hb)).trans q) ⟨_,e⟩ ?_;exact⟨hz,its',n',r,e⟩
def E5:V->V->V->Hp->(Hp->Prop)->Prop:=fun o i v H Q=>∃ p xs k j,o = .ref p/\i = .int k/\H p=some (.lst xs)/\yc xs.length k=some j/\Q (qR H p (.lst (xs.set j v)))
theorem rB:Hy X E5:=by
 intro pins s σ H o i v ov iv u Q I ro ri rv h;obtain⟨p,xs,k,j,rfl,rfl,hp,hj,q⟩:=h;cases ro;obtain⟨t,rfl⟩:=ri;obtain⟨its,n,r,ho,hz⟩:=I.lst hp;obtain⟨h1,h2,h3,h4⟩:=Ax hj;have hl:=r.length;have hn:=so;have I':Inv X pins σ (qR H p (.lst (xs.set j v))) { s with heap:=s.heap.update p (Obj.mapSeq (·.setIfInBounds j u)) } :=
  I.lstUpd hp ho (y8 its n j u) (r.set rv j) (by rw [aW];exact hz) s.toks
 by_cases h0:0<=k
 ·have hk:k.toNat=j:=by
   rw [seqIndex_of h0 h4] at h1;exact Option.some.inj h1
  exact PySem.W.ki_setAt ho h0 (by omega) (by rw [am,← hl];exact h4) (by rw [hk];exact⟨_,I',q⟩)
 ·have hk:(k+(its.toArray.size:Int)).toNat=j:=by
   rw [seqIndex_neg (by omega) h3] at h1;rw [am,← hl];exact Option.some.inj h1
  exact PySem.W.ki_setBack ho (by omega) (by rw [am,← hl];exact h3) (by omega) (by rw [hk];exact⟨_,I',q⟩)
theorem wZ(lo hi:Option Int)(n:Nat):(sliceBounds lo hi none n).1=((HT.qT n 0 lo:Nat):Int)/\(sliceBounds lo hi none n).2.1=((HT.qT n n hi:Nat):Int)/\(sliceBounds lo hi none n).2.2=1:=by
 refine⟨?_,?_,rfl⟩
 ·cases lo with
  | none=>simp [sliceBounds,HT.qT]
  | some i =>
   simp only [sliceBounds,HT.qT,fg,show (1:Int) > 0 by decide,if_true];by_cases h:i<0
   ·simp only [h,if_true] <;> omega
   ·simp only [h,if_false] <;> omega
 ·cases hi with
  | none=>simp [sliceBounds,HT.qT]
  | some i =>
   simp only [sliceBounds,HT.qT,fg,show (1:Int) > 0 by decide,if_true];by_cases h:i<0
   ·simp only [h,if_true] <;> omega
   ·simp only [h,if_false] <;> omega
theorem v7(its:List Value)(lo hi:Option Int):slicePick its.toArray lo hi none=((its.drop (HT.qT its.length 0 lo)).take (HT.qT its.length its.length hi-HT.qT its.length 0 lo)).toArray:=by
 obtain⟨h1,h2,h3⟩:=wZ lo hi its.toArray.size;unfold slicePick;rw [h1,h2,h3];simp only [sliceRange_one,pick_run,am] <;> rfl
def Kb(K:Frag):V->Option Int->Option Int->Hp->VK->Prop:=fun x lo hi H Q=>∃ a xs,x = .ref a/\SqL K H a xs/\∀ p,H p=none->Q (.ref p) (qR H p (.lst (yr xs lo hi)))
theorem sl_list:SlR X (Kb X.K):=by
 intro pins s σ H x v vl vu lo hi sl Q I rx hs pl pu h;obtain⟨a,xs,rfl,hx,q⟩:=h;cases rx;obtain⟨its,r,ht,hz⟩:=I.list hx;have hlen:=r.length;refine⟨"list",_,slot_list_getitem.lookup,ht.isList.typeIs,?_⟩;refine wpAny_getItem_list_slice ht.isList hs pl pu .none (by simp) ?_ (by rw [am] <;> omega);rw [v7,← hlen];refine⟨.ref s.heap.objs.size,_,I.laid (t':=s.toks) (o:=.lst (yr xs lo hi)) (fun b ob q=>Heap.get?_push_of_some _ q) (aq _) ?_,rfl,q _ (I.hok.fresh (aq _))⟩;exact⟨aF (uV xs lo hi) hz,_,0,(r.drop (HT.qT xs.length 0 lo)).take (HT.qT xs.length xs.length hi-HT.qT xs.length 0 lo),Heap.get?_push_size _ rfl⟩
def tW:V->Bool
 | .non=>true
 | .bl _=>true
 | .int _=>true
 | .str _=>true
 | _=>false
def Ft:V->V->Bool
 | .non,.non=>true
 | .bl a,.bl b=>a == b
 | .bl a,.int b=>(if a then 1 else 0) == b
 | .int a,.bl b=>a == (if b then 1 else 0)
 | .int a,.int b=>a == b
 | .str a,.str b=>a == b
 | _,_=>false
theorem Hb{A:Around}{s:Shared}{y x:V}{u v:Value}(ry:RelV y u)(rx:RelV x v)(fy:tW y=true)(fx:tW x=true):SeqAt.EqAt A s u v (Ft y x):=by
 cases y with
 | non =>
  cases ry;cases x with
  | non=>cases rx;exact SeqAt.EqAt.same _
  | bl b=>cases rx;exact SeqAt.EqAt.none_bool b
  | int b=>obtain⟨t,rfl⟩:=rx;exact SeqAt.EqAt.none_int b t
  | str b=>obtain⟨t,rfl⟩:=rx;exact SeqAt.EqAt.none_str b t
  | _=>exact absurd (show false=true from fx) ay
 | bl a =>
  cases ry;cases x with
  | non=>cases rx;exact SeqAt.EqAt.bool_none a
  | bl b=>cases rx;exact SeqAt.EqAt.bool_bool a b
  | int b=>obtain⟨t,rfl⟩:=rx;exact SeqAt.EqAt.bool_int a b t
  | str b=>obtain⟨t,rfl⟩:=rx;exact SeqAt.EqAt.bool_str a b t
  | _=>exact absurd (show false=true from fx) ay
 | int a =>
  obtain⟨t',rfl⟩:=ry;cases x with
  | non=>cases rx;exact SeqAt.EqAt.int_none a t'
  | bl b=>cases rx;exact SeqAt.EqAt.int_bool a t' b
  | int b=>obtain⟨t,rfl⟩:=rx;exact SeqAt.EqAt.int_int a t' b t
  | str b=>obtain⟨t,rfl⟩:=rx;exact SeqAt.EqAt.int_str a t' b t
  | _=>exact absurd (show false=true from fx) ay
 | str a =>
  obtain⟨t',rfl⟩:=ry;cases x with
  | non=>cases rx;exact SeqAt.EqAt.str_none a t'
  | bl b=>cases rx;exact SeqAt.EqAt.str_bool a t' b
  | int b=>obtain⟨t,rfl⟩:=rx;exact SeqAt.EqAt.str_int a t' b t
  | str b=>obtain⟨t,rfl⟩:=rx;exact SeqAt.EqAt.str_str a t' b t
  | _=>exact absurd (show false=true from fx) ay
 | _=>exact absurd (show false=true from fy) ay
def zi(x:V)(u:Value):Bool:=match u with
 | .none=>Ft .non x
 | .bool b=>Ft (.bl b) x
 | .int i _=>Ft (.int i) x
 | .str z _=>Ft (.str z) x
 | _=>false
theorem C5{x y:V}{u:Value}(r:RelV y u)(f:tW y=true):zi x u=Ft y x:=by
 cases y with
 | non=>cases r;rfl
 | bl b=>cases r;rfl
 | int i=>obtain⟨t,rfl⟩:=r;rfl
 | str z=>obtain⟨t,rfl⟩:=r;rfl
 | _=>exact absurd (show false=true from f) ay
theorem ux{x:V}:∀{xs:List V} {us:List Value},Vals xs us->xs.all tW=true->us.any (zi x)=xs.any fun y=>Ft y x
 | _,_,.nil,_=>rfl
 | y::xs,u::us,.cons r t,f=>by
  rw [dc,bh] at f;rw [eI,eI,C5 r f.1,ux t f.2]
theorem tv{A:Around}{s:Shared}{x:V}{v:Value}(rx:RelV x v)(fx:tW x=true):∀{xs:List V} {us:List Value},Vals xs us->xs.all tW=true->∀ u∈us,SeqAt.EqAt A s u v (zi x u)
 | _,_,.nil,_=>fun u hu=>by cases hu
 | y::xs,u::us,.cons r t,f=>fun u' hu=>by
  rw [dc,bh] at f;rcases ak.mp hu with rfl|hu
  ·rw [C5 r f.1];exact Hb r rx f.1 fx
  ·exact tv rx fx t f.2 u' hu
def HD(x:V)(xs:List V):Bool:=xs.any fun y=>Ft y x
def Ke(K:Frag)(neg:Bool):R2:=fun x y H Q=>∃ p xs,y = .ref p/\(SqL K H p xs\/SqT K H p xs)/\tW x=true/\xs.all tW=true/\Q (.bl (if neg then !HD x xs else HD x xs)) H
theorem A8:OpR X (compareOp .In) (Ke X.K false):=by
 intro pins s σ H x y v u Q I rx ry h;obtain⟨p,xs,rfl,hq,fx,fs,q⟩:=h;cases ry;rcases hq with hq|hq
 ·obtain⟨its,r,pl,hz⟩:=I.list hq;refine SeqAt.in_listAt (zi x) pl.isList (fun w hw=>tv rx fx r fs w (by simpa using hw)) ⟨.bl _,H,I,rfl,?_⟩;rw [show its.toArray.any (zi x)=its.any (zi x) by simp,ux r fs];exact q
 ·obtain⟨its,r,pl,hz⟩:=I.tuple hq;refine SeqAt.in_tupleAt (zi x) pl (fun w hw=>tv rx fx r fs w (by simpa using hw)) ⟨.bl _,H,I,rfl,?_⟩;rw [show its.toArray.any (zi x)=its.any (zi x) by simp,ux r fs];exact q
theorem xh:OpR X (compareOp .NotIn) (Ke X.K true):=by
 intro pins s σ H x y v u Q I rx ry h;obtain⟨p,xs,rfl,hq,fx,fs,q⟩:=h;cases ry;rcases hq with hq|hq
 ·obtain⟨its,r,pl,hz⟩:=I.list hq;refine SeqAt.notIn_listAt (zi x) pl.isList (fun w hw=>tv rx fx r fs w (by simpa using hw)) ⟨.bl _,H,I,rfl,?_⟩;rw [show its.toArray.any (zi x)=its.any (zi x) by simp,ux r fs];exact q
 ·obtain⟨its,r,pl,hz⟩:=I.tuple hq;refine SeqAt.notIn_tupleAt (zi x) pl (fun w hw=>tv rx fx r fs w (by simpa using hw)) ⟨.bl _,H,I,rfl,?_⟩;rw [show its.toArray.any (zi x)=its.any (zi x) by simp,ux r fs];exact q
theorem xB:CallR X (.builtin "len") (fun xs H Q=>∃ p ys,xs=[.ref p]/\(SqL X.K H p ys\/SqT X.K H p ys)/\Q (.int ys.length) H):=by
 intro pins s σ H xs us Q I r h;obtain⟨p,ys,rfl,hq,q⟩:=h;obtain⟨u,rfl,rx⟩:=vo r;cases rx;have hn:=so;rcases hq with hq|hq
 ·obtain⟨its,r',pl,hz⟩:=I.list hq;have hlen:=r'.length;exact Calls.call_len_list pl.isList (by simp only [am] <;> omega) ⟨.int ys.length,H,I.tok _,⟨s.toks+1,by rw [am,hlen]⟩,q⟩
 ·obtain⟨its,r',pl,hz⟩:=I.tuple hq;have hlen:=r'.length;exact len_tuple pl (by simp only [am] <;> omega) ⟨.int ys.length,H,I.tok _,⟨s.toks+1,by rw [am,hlen]⟩,q⟩
theorem xA:CallR X (.builtin "len") (fun xs H Q=>∃ z,xs=[.str z]/\z.length<=sizeLine/\Q (.int z.length) H):=by
 intro pins s σ H xs us Q I r h;obtain⟨z,rfl,hz,q⟩:=h;obtain⟨u,rfl,t,rfl⟩:=vo r;have hn:=so;exact len_str (by omega) ⟨.int z.length,H,I.tok _,⟨_,rfl⟩,q⟩
theorem xz:CallR X (.type "list") (fun xs H Q=>∃ p ys,xs=[.ref p]/\(SqL X.K H p ys\/SqT X.K H p ys)/\∀ l,H l=none->Q (.ref l) (qR H l (.lst ys))):=by
 intro pins s σ H xs us Q I r h;obtain⟨p,ys,rfl,hq,q⟩:=h;obtain⟨u,rfl,rx⟩:=vo r;cases rx;have fin:∀(its:List Value),Vals ys its->ys.length<=sizeLine->∀(h':Heap) (c':Nat),(∀ b o',s.heap.get? b=some o'->h'.get? b=some o') ->
   h'.get? s.heap.objs.size=some { cls:=.type "list",dict:=none,data:=.seq its.toArray c',slots:=#[] }->EP X pins σ Q (.ref s.heap.objs.size) { s with heap:=h' }:=fun its r' hz h' c' kp e =>
  ⟨.ref s.heap.objs.size,_,I.laid (t':=s.toks) kp (aq _) (show ObjOk X.prog X.w _ h' _ (.lst ys) from⟨hz,its,c',r',e⟩),rfl,q _ (I.hok.fresh (aq _))⟩
 rcases hq with hq|hq
 ·obtain⟨its,r',pl,hz⟩:=I.list hq;have hlen:=r'.length;obtain⟨o,ho,hc,n,hd⟩:=pl.isList;exact call_list_seq p (.inl rfl) ho hc hd (fun h' c' kp e=>fin its r' hz h' c' kp e) (by simp only [am] <;> omega)
 ·obtain⟨its,r',pl,hz⟩:=I.tuple hq;have hlen:=r'.length;obtain⟨o,ho,hc,n,hd⟩:=pl;exact call_list_seq p (.inr rfl) ho hc hd (fun h' c' kp e=>fin its r' hz h' c' kp e) (by simp only [am] <;> omega)
theorem wa:CallR X (.type "tuple") (fun xs H Q=>∃ p ys,xs=[.ref p]/\((SqL X.K H p ys/\∀ l,H l=none->Q (.ref l) (qR H l (.tup ys)))\/(SqT X.K H p ys/\Q (.ref p) H))):=by
 intro pins s σ H xs us Q I r h;obtain⟨p,ys,rfl,h⟩:=h;obtain⟨u,rfl,rx⟩:=vo r;cases rx;rcases h with⟨hq,q⟩|⟨hq,q⟩
 ·obtain⟨its,r',pl,hz⟩:=I.list hq;have hlen:=r'.length;refine call_tuple_list pl.isList (fun h' kp=>?_) (by simp only [am] <;> omega);have I1:Inv X pins σ H { s with heap:=h' }:=I.kept (t':=s.toks) kp;have I2:Inv X pins σ (qR H h'.objs.size (.tup ys)) { s with heap:=h'.push { cls:=.type "tuple",data:=.seq its.toArray } } :=
   I1.laid (t':=s.toks) (fun b o e=>Heap.get?_push_of_some _ e) (aq _) (show ObjOk X.prog X.w _ _ _ (.tup ys) from⟨hz,its,r',IsTup.new _ _⟩)
  exact⟨.ref h'.objs.size,_,I2,rfl,q _ (I1.hok.fresh (aq _))⟩
 ·obtain⟨its,r',pl,hz⟩:=I.tuple hq;exact call_tuple_same pl ⟨.ref p,H,I,rfl,q⟩
def JU(K:Frag)(T:String)(x:V)(H:Hp):Prop:=match x with
 | .str _=>T = "str"
 | .int _=>T = "int"
 | .ref p=>(T = "list" /\ ∃ xs,SqL K H p xs)\/(T = "tuple" /\ ∃ o,K.lookup p=some o/\o.cls = .type "tuple" /\ o.dict=none) \/
   (T = "dict" /\ ((∃ kvs,H p=some (.dK kvs))\/∃ kvs,H p=some (.dT kvs)))\/(T = "set" /\ ∃ S n,H p=some (.set S n))
 | _=>False
theorem BE{pins:List (Addr×Obj)}{σ:St}{H:Hp}{s:Shared}{T:String}{x:V}{v:Value}(I:Inv X pins σ H s)(r:RelV x v)(ty:JU X.K T x H) :
  s.TypeIs v T/\∀ a,v = .ref a->∃ ob,s.heap.get? a=some ob/\ob.dict=none:=by
 cases x with
 | str z =>
  obtain⟨t,rfl⟩:=r;cases (show T = "str" from ty);exact⟨typeIs_str s z t,fun _ e=>nomatch e⟩
 | int i =>
  obtain⟨t,rfl⟩:=r;cases (show T = "int" from ty);exact⟨typeIs_int s i t,fun _ e=>nomatch e⟩
 | ref p =>
  cases r;rcases ty with⟨rfl,xs,hq⟩|⟨rfl,o,hk,hc,hd⟩|⟨rfl,hk⟩|⟨rfl,S,n,hk⟩
  ·obtain⟨its,_,pl,_⟩:=I.list hq;refine⟨pl.isList.typeIs,fun a e=>?_⟩;cases e;obtain⟨o,n,e,c,hd,_⟩:=pl;exact⟨o,e,hd⟩
  ·refine⟨⟨o,I.kIn p o hk,hc⟩,fun a e=>?_⟩;cases e;exact⟨o,I.kIn _ o hk,hd⟩
  ·have z:∃ o,s.heap.get? p=some o/\o.ExactDict:=by
    rcases hk with⟨kvs,hk⟩|⟨kvs,hk⟩
    ·obtain⟨_,_,_,_,o,_,_,e,ex,_⟩:=I.hok p _ hk;exact⟨o,e,ex⟩
    ·obtain⟨_,_,_,_,o,_,_,e,ex,_⟩:=I.hok p _ hk;exact⟨o,e,ex⟩
   obtain⟨o,e,ex⟩:=z;refine⟨⟨o,e,ex.1⟩,fun a e2=>?_⟩;cases e2;exact⟨o,e,ex.2.1⟩
  ·obtain⟨o,_,_,_,e,ex,_⟩:=I.hok p _ hk;refine⟨⟨o,e,ex.1⟩,fun a e2=>?_⟩;cases e2;exact⟨o,e,ex.2.1⟩
 | _=>exact False.elim ty
def J6(K:Frag)(T:String)(r:V->List V->Hp->VK->Prop)(to:TE):TE:=fun σ H Q=>to σ H fun x H1=>JU K T x H1/\r x [] H1 Q
def Ls(K:Frag)(T:String)(r:V->List V->Hp->VK->Prop)(to:TE)(t:TA):TE:=fun σ H Q=>to σ H fun x H1=>JU K T x H1/\t σ H1 fun xs H2=>r x xs H2 Q
variable{o e:Expr}{es:List Expr}{to:TE}{t:TA}{name:Str}{apos cpos:Pos}{T id:String}{r:V->List V->Hp->VK->Prop}
theorem Ct(pa:PlainAttrs T)(slot:Slot T name id)(hty:typeOf (.builtin id)=pure (.type "method_descriptor"))(hm:Li X id r)(ho:PE X o to)
  (hbase:attributeBase o name X.env (eval o X.env)=eval o X.env:=by rfl) (hline:(apos.endLine == cpos.line)=true:=by rfl):PE X (.Call (.Attribute o name apos) [] [] cpos) (J6 X.K T r to):=by
 intro pins s σ H Q I h;refine wpAny_Call_method0_late hbase hline (qI (ho pins s σ H _ I h) fun v s1 ⟨x,H1,I1,r1,ty,q1⟩=>?_);obtain⟨h1,h2⟩:=BE I1 r1 ty;exact⟨T,id,pa,slot,hty,h1,h2,Calls.callWith_builtin rfl (PySem.evalArgs_none (hm pins s1 σ H1 x [] v [] Q I1 r1 .nil q1))⟩
theorem Iq(pa:PlainAttrs T)(slot:Slot T name id)(hty:typeOf (.builtin id)=pure (.type "method_descriptor"))(hm:Li X id r)(ho:PE X o to)(ha:PA X (e::es) t)
  (hbase:attributeBase o name X.env (eval o X.env)=eval o X.env:=by rfl)
  (hfew:((backTo cpos (starEach (e::es) X.env)).all (fun x => !x.1) && (backToKw cpos (keywordEach [] X.env)).all (fun x=>x.1.isSome)
   && decide ((e::es).length+([]:List Keyword).length+(if ([]:List Keyword).isEmpty then 0 else 1)<30))=true:=by rfl)
  (hline:(apos.endLine == cpos.line)=true:=by rfl) (hs:starEach (e::es) X.env=(false,eval e X.env)::starEach es X.env:=by rfl) (hplain:(backTo cpos (starEach es X.env)).any (·.1)=false:=by rfl) :
  PE X (.Call (.Attribute o name apos) (e::es) [] cpos) (Ls X.K T r to t):=by
 intro pins s σ H Q I h;refine wpAny_Call_method_late hbase hfew hline rfl (qI (ho pins s σ H _ I h) fun v s1 ⟨x,H1,I1,r1,ty,q1⟩=>?_);obtain⟨h1,h2⟩:=BE I1 r1 ty;refine⟨T,id,pa,slot,hty,h1,h2,?_⟩;have hA:=ha cpos pins s1 σ H1 _ I1 q1;rw [hs] at hA ⊢;refine Calls.callWith_builtin (by show (false || (backTo cpos (starEach es X.env)).any (·.1))=false;rw [hplain] <;> rfl) (Calls.evalArgs_plain ?_);exact qI hA fun us s2 ⟨vs,H2,I2,r2,q2⟩=>hm pins s2 σ H2 x vs v us Q I2 r1 r2 q2
end
end L2
namespace L2
open PySem PySem.Spec PyProof.Rows
def Lj(X:Cx)(id:String)(r:V->List V->Hp->VK->Prop):Prop :=
 ∀(pins:List (Addr×Obj)) (s:Shared) (σ:St) (H:Hp) (x:V) (xs:List V) (v:Value) (us:List Value) (Q:VK),Inv X pins σ H s->RelV x v->Vals xs us->r x xs H Q ->
  wpAny (model X.prog X.w) X.A (call (.builtin id) (v::us)) (EP X pins σ Q) X.xe s
theorem Vals.uncons{x:V}{xs:List V}{us:List Value}(h:Vals (x::xs) us):∃ u r,us=u::r/\RelV x u/\Vals xs r:=by
 cases h with
 | cons r t=>exact⟨_,_,rfl,r,t⟩
theorem Vals.unnil{us:List Value}(h:Vals [] us):us=[]:=by
 cases h;rfl
theorem Vals.one{x:V}{us:List Value}(h:Vals [x] us):∃ u,us=[u]/\RelV x u:=by
 obtain⟨u,r,rfl,h1,h⟩:=h.uncons;rw [h.unnil];exact⟨u,rfl,h1⟩
theorem Vals.two{x y:V}{us:List Value}(h:Vals [x,y] us):∃ u v,us=[u,v]/\RelV x u/\RelV y v:=by
 obtain⟨u,r,rfl,h1,h⟩:=h.uncons;obtain⟨v,rfl,h2⟩:=h.one;exact⟨u,v,rfl,h1,h2⟩
theorem Vals.zero:∀{us:List Value},Vals [] us->us=[]
 | _,.nil=>rfl
theorem Vals.dropLast{xs:List V}{us:List Value}(h:Vals xs us):Vals xs.dropLast us.dropLast:=by
 induction h with
 | nil=>exact .nil
 | cons r t ih =>
  cases t with
  | nil=>exact .nil
  | cons q t'=>exact .cons r ih
theorem Vals.reverse{xs:List V}{us:List Value}(h:Vals xs us):Vals xs.reverse us.reverse:=by
 induction h with
 | nil=>exact .nil
 | cons r t ih=>rw [cY,cY];exact Vals.append ih (.cons r .nil)
theorem Vals.rep{xs:List V}{us:List Value}(h:Vals xs us):∀ k:Nat,Vals (List.replicate k xs).flatten (List.replicate k us).flatten
 | 0=>.nil
 | k+1=>by
  rw [bu,bu,bR,bR];exact Vals.append h (Vals.rep h k)
theorem zg{α:Type}(l:List α):l.eraseIdx (l.length-1)=l.dropLast:=by
 induction l with
 | nil=>rfl
 | cons a r ih =>
  cases r with
  | nil=>rfl
  | cons b r =>
   have e:(a::b::r).length-1=((b::r).length-1)+1:=by
    have h1:(a::b::r).length=r.length+2:=rfl;have h2:(b::r).length=r.length+1:=rfl;omega
   rw [e,List.eraseIdx_cons_succ,ih];all_goals rfl
theorem uI(its:List Value):∀(k:Nat) (acc:List Value),
  List.foldl (fun x1 x2=>x1++x2) acc.toArray (List.replicate k its.toArray)=(acc++(List.replicate k its).flatten).toArray
 | 0,acc=>by simp
 | k+1,acc=>by
  have e:acc.toArray++its.toArray=(acc++its).toArray:=by simp
  have e2:(acc++its)++(List.replicate k its).flatten=acc++(List.replicate (k+1) its).flatten:=by
   rw [bu,bR,fE]
  rw [← e2,← uI its k (acc++its),← e,bu,List.foldl_cons]
section
variable{X:Cx}{pins:List (Addr×Obj)}{σ:St}{H:Hp}{s:Shared}{l b:Addr}{xs ys zs:List V}
theorem Inv.lset{its its':List Value}{n:Nat}{f:Array Value->Array Value}{t':Nat}(I:Inv X pins σ H s)(hH:H l=some (.lst xs))
  (e:s.heap.get? l=some { cls:=.type "list",data:=.seq its.toArray n }) (hf:f its.toArray=its'.toArray) (hv:Vals ys its') (hz:ys.length<=sizeLine) :
  Inv X pins σ (qR H l (.lst ys)) { s with heap:=s.heap.update l (Obj.mapSeq f),toks:=t' }:=by
 have q:=PySem.IsL.update e f;rw [hf] at q;refine I.write (x:=l) (e:=l) (by rw [hH];exact trivial) (.inl rfl) (fun b' u hb hu=>(Heap.get?_update_other s.heap (Obj.mapSeq f) (Ne.symm hb)).trans hu) ⟨_,q⟩ ?_;exact⟨hz,its',_,hv,q⟩
theorem Inv.lnew{its:List Value}{t':Nat}(I:Inv X pins σ H s)(hv:Vals ys its)(hz:ys.length<=sizeLine) :
  Inv X pins σ (qR H s.heap.objs.size (.lst ys)) { s with heap:=s.heap.push { cls:=.type "list",data:=.seq its.toArray },toks:=t' } :=
 I.laid (fun _ _ q=>Heap.get?_push_of_some _ q) (aq _) ⟨hz,its,0,hv,Heap.get?_push_size _ rfl⟩
theorem Inv.fresh(I:Inv X pins σ H s):H s.heap.objs.size=none:=I.hok.fresh (aq _)
theorem Inv.lstM(I:Inv X pins σ H s)(hH:H l=some (.lst xs)):xs.length<=sizeLine/\∃(its:List Value) (n:Nat),Vals xs its/\xs.length=its.length/\s.heap.get? l=some { cls:=.type "list",data:=.seq its.toArray n }:=by
 obtain⟨z,its,n,r,e⟩:=I.hok l _ hH;exact⟨z,its,n,r,r.length,e⟩
theorem CJ{n:Nat}(h:n<=sizeLine):Builtin.List.listTooLong n=false:=by
 unfold Builtin.List.listTooLong;exact decide_eq_false (by omega)
end
section
variable{X:Cx}
def DQ:V->List V->Hp->VK->Prop:=fun x vs H Q=>∃ l xs y,x = .ref l/\vs=[y]/\H l=some (.lst xs)/\xs.length<sizeLine/\Q .non (qR H l (.lst (xs++[y])))
theorem Be:Lj X "list.append" DQ:=by
 intro pins s σ H x vs v us Q I rx rv h;obtain⟨l,xs,y,rfl,rfl,hH,hz,q⟩:=h;cases rx;obtain⟨u,rfl,ru⟩:=rv.one;obtain⟨z,its,n,r,hl,e⟩:=I.lstM hH;refine call_meets F.slot_list_append ⟨_,e,rfl⟩ F.entry_list_append (F.args_list_append_2 _ _) (PySem.list_append l its.toArray n u (by rw [am];omega)) ⟨e,?_⟩;refine⟨.non,_,I.lset (its':=its++[u]) hH e (by simp) (r.append (.cons ru .nil)) ?_,rfl,q⟩;rw [ai,bZ];omega
def Kd:V->List V->Hp->VK->Prop:=fun x vs H Q=>∃ l xs y,x = .ref l/\vs=[]/\H l=some (.lst xs)/\xs[xs.length-1]? = some y/\Q y (qR H l (.lst xs.dropLast))
theorem CM:Lj X "list.pop" Kd:=by
 intro pins s σ H x vs v us Q I rx rv h;obtain⟨l,xs,y,rfl,rfl,hH,hy,q⟩:=h;cases rx;have hus:=rv.zero;subst hus;obtain⟨z,its,n,r,hl,e⟩:=I.lstM hH;obtain⟨u,hu,ru⟩:=r.get hy;have hy':its.toArray[its.toArray.size-1]? = some u:=by
  show its.toArray[its.length-1]? = some u;rw [← Array.getElem?_toList,← hl];exact hu
 refine call_meets F.slot_list_pop ⟨_,e,rfl⟩ F.entry_list_pop (F.args_list_pop_1 _) (MeetsSeq.list_pop_last l its.toArray n u hy' (by rw [am];omega)) ⟨e,?_⟩;refine⟨y,_,I.lset (its':=its.dropLast) hH e ?_ r.dropLast ?_,ru,q⟩
 ·show its.toArray.eraseIdxIfInBounds (its.toArray.size-1)=its.dropLast.toArray;rw [am,List.eraseIdxIfInBounds_toArray,zg]
 ·rw [List.length_dropLast];omega
def Kf:R2:=fun x y H Q=>∃ l b xs zs,x = .ref l/\y = .ref b/\H l=some (.lst xs)/\H b=some (.lst zs)/\xs.length+zs.length<=sizeLine/\∀ p,H p=none->Q (.ref p) (qR H p (.lst (xs++zs)))
theorem GA:OpR X (binaryOp .Add) Kf:=by
 intro pins s σ H x y v u Q I rx ry h;obtain⟨l,b,xs,zs,rfl,rfl,hH,hB,hz,q⟩:=h;cases rx;cases ry;obtain⟨z,its,n,r,hl,e⟩:=I.lstM hH;obtain⟨z2,its2,n2,r2,hl2,e2⟩:=I.lstM hB;refine PySem.P.add_list e e2 ?_ (by rw [am,am];omega);have ea:its.toArray++its2.toArray=(its++its2).toArray:=by simp
 rw [ea];exact⟨.ref _,_,I.lnew (t':=s.toks) (r.append r2) (by rw [ai];omega),rfl,q _ I.fresh⟩
def Kc:R2:=fun x y H Q=>∃ l k xs,x = .ref l/\y = .int k/\H l=some (.lst xs) /\ -(2^63)<=k/\k<2^63/\xs.length*k.toNat<=sizeLine /\
 ∀ p,H p=none->Q (.ref p) (qR H p (.lst (List.replicate k.toNat xs).flatten))
theorem xo{α:Type}(xs:List α)(k:Nat):(List.replicate k xs).flatten.length=k*xs.length:=by
 induction k with
 | zero=>simp
 | succ k ih=>rw [bu,bR,ai,ih,bq,eQ]
theorem CG:OpR X (binaryOp .Mult) Kc:=by
 intro pins s σ H x y v u Q I rx ry h;obtain⟨l,k,xs,rfl,rfl,hH,h1,h2,hz,q⟩:=h;cases rx;obtain⟨t,rfl⟩:=ry;obtain⟨z,its,n,r,hl,e⟩:=I.lstM hH;have hlen:its.toArray.size*k.toNat<=sizeLine:=by rw [am,← hl];exact hz
 have hcap:¬ its.toArray.size*k.toNat > (2^63-1) / 8:=by
  have:(sizeLine:Nat)<=(2^63-1) / 8:=by decide
  omega
 have hfit:¬ (!Builtin.List.listFitsIndex k)=true:=by
  rw [fitsIndex_both h1 h2];exact ay
 have hlong:¬ Builtin.List.listTooLong (its.toArray.size*k.toNat)=true:=by
  rw [CJ hlen];exact ay
 have hnew:List.foldl (fun x1 x2=>x1++x2) #[] (List.replicate (if its.toArray.isEmpty=true then 0 else k.toNat) its.toArray)=(List.replicate k.toNat its).flatten.toArray:=by
  have f0:∀ m:Nat,List.foldl (fun x1 x2=>x1++x2) #[] (List.replicate m its.toArray)=(List.replicate m its).flatten.toArray:=fun m=>by
   have:=uI its m [];rw [List.nil_append] at this;exact this
  rw [f0];cases its with
  | nil=>simp
  | cons a r'=>rw [if_neg (by simp)]
 refine wpAny_binaryOp_repeat_ref (T := "list") (U := "int") (by decide) ⟨_,e,rfl⟩ (fun s'=>typeIs_int s' k t) noFill_list_mul F.fills_int_mul F.slot_int_rmul repeat_list F.slot_int_index.lookup
  (call_meets F.slot_int_rmul (typeIs_int s k t) F.entry_int_rmul (F.args_int_rmul_2 _ _) (int___rmul___int_list k t l its.toArray n)
   ⟨e,rfl,⟨_,e,rfl⟩,call_meets F.slot_list_mul ⟨_,e,rfl⟩ F.entry_list_mul (F.args_list_mul_2 _ _) (AutoListH.list___mul___list_int_3 l its.toArray n k t hfit hcap hlong) ⟨e,?_⟩⟩)
 rw [hnew];exact⟨.ref _,_,I.lnew (t':=s.toks) (r.rep k.toNat) (by rw [xo,cB];exact hz),rfl,q _ I.fresh⟩
end
section
variable{prog:Program}{w:World}{A:Around}{E:Value->Shared->Prop}{s:Shared}
set_option maxRecDepth 100000 in
end
end L2
namespace Att
open PySem PySem.W PySem.Calls PyProof.Rows
theorem uY{P:Params}{h:Heap}:∀(ns:List Int) (vs:List Value),WellAll P h vs (ns.map WData.int)->IntsAre vs ns:=by
 intro ns;induction ns with
 | nil =>
  intro vs w;rw [List.map_nil] at w;cases w;exact .nil
 | cons n ns ih =>
  intro vs w;rw [bQ] at w;cases w with
  | cons a b =>
   cases a;exact .cons _ _ (ih _ b)
theorem AY{l:OpenLaw}{n:Nat}(hn:l.most=some n){P:Params}{h:Heap}{args:List WData}{vals:List Value}
  (hpre:l.row.toRowW.claim.pre args=true) (hwl:WellAll P h vals args) :
  ∃ a vs ns,vals=[Value.ref a]/\args=[WData.list (ns.map WData.int)]/\h.get? a=some { cls:=.type "list",data:=.seq vs.toArray }/\IntsAre vs ns/\ns.length<=n:=by
 have hsh:WShape.hasAll [] args [.list .int]=true:=(pre_splitW hpre).1;have hc:l.pre.holds [] { args:=args }=true:=(pre_splitW hpre).2;obtain⟨d,r,rfl,h1,h2⟩:=hasAllW_cons hsh;obtain rfl:=hasAllW_nil h2;obtain⟨xs,rfl,h3⟩:=hasW_list h1;obtain⟨ns,rfl⟩:=items_int h3;have hlen:ns.length<=n:=by
  unfold OpenLaw.pre at hc;have h4:(WTm.not (.lt (.lit (.int (n:Int))) (.len (.arg 0)))).holds [] { args:=[.list (ns.map .int)] }=true:=by
   have h4:=(holds_andW hc).1;rw [hn] at h4;exact h4
  have h5:=condW_of h4 (w_not (w_lt w_lit (w_len_list (w_arg rfl))));rw [aa] at h5;refine Nat.le_of_not_lt fun q=>?_;have q':(n:Int)<((ns.length:Nat):Int):=by omega
  first
   | (rw [decide_eq_true q'] at h5;exact absurd h5 (by decide))
   | (simp at h5;omega)
 cases hwl with
 | cons w1 w2 =>
  cases w2;cases w1 with
  | list ho hall=>exact⟨_,_,ns,rfl,rfl,ho,uY ns _ hall,hlen⟩
theorem A3(l:OpenLaw)(args:List WData):l.row.toRowW.claim.post args (.bool true) args=true :=
 postW_of (r:=l.row.toRowW) (X:=(true == true))
  (show WShape.has [] (.bool true) .bool=true by first|rfl|decide|simp [WShape.has,WShape.arms,WShape.armsAll])
  (show (WTm.eq .res (.lit (.bool true))).value [] { args:=args,res:=some (.bool true),after:=args }=some (.bool (true == true)) from w_eq_bool (w_res rfl) w_lit) rfl
theorem yw{l:OpenLaw}{n:Nat}{q:Program}{loose:List Str}{XP:(Str->Option Value)->Heap->Prop}{YP:World->Heap->Prop}{d:DefRec}
  (hn:l.most=some n) (hdf:d.params.defaults=[])
  (call:∀(w:World) (s₀ s₁:Shared) (mg mb:Str->Option Value) (fa:Addr) (o:Obj) (pm cd doc:Value) (a:Addr) (vs:List Value) (ns:List Int),
   Ground q loose [] XP w s₀ mg mb s₁.heap->YP w s₁.heap ->
   s₁.heap.get? fa=some o->o.data = .func (docDef d.name d.params d.body d.scope pm cd doc)->s₁.heap.CodeRec cd d.name->mg d.name=some (.ref fa) ->
   s₁.heap.get? a=some { cls:=.type "list",data:=.seq vs.toArray }->IntsAre vs ns->ns.length<=n->s₁.gens = #[] ->
   codeAny (model l.prog w) callerA (.call (.ref fa) ⟨[.ref a],[]⟩) (fun r s'=>r = .ok (.ret (.bool true))/\OldK s₁.heap s'.heap/\s'.os=s₁.os/\AllBare s'.gens) s₁) :
  WalkO q loose XP YP l.row.toRowW d [] (fun f vs=>PySem.call f vs):=by
 intro w s₀ s₁ mg mb G Y fa o pm cd doc dV kV ho hd hcd hD hmg hg args vals as hpre hlay hrd hwl hlo;obtain rfl:dV = .none:=Dflts.none hD hdf;obtain rfl:kV = .none:=Dflts.noKw hD;obtain⟨a,vs,ns,rfl,rfl,hobj,hints,hlen⟩:=AY hn hpre hwl;refine enter_call (codeAny_mono (call w s₀ s₁ mg mb fa o pm cd doc a vs ns G Y ho (fd_plain hd) hcd hmg hobj hints hlen hg) fun r s' hq=>?_);obtain⟨rfl,h2,h3,h4⟩:=hq;exact⟨.inl ⟨.bool true,.bool true,[],rfl,fun _=>rfl,.bool true,A3 l _,fun _=>⟨List.Pairwise.nil,fun _ hm=>(nomatch hm)⟩⟩,h2,h3,h4⟩
end Att
namespace L2
open PySem PySem.Spec PyProof.Rows
theorem wc:∀{vs:List Value} {ns:List Int},IntsAre vs ns->Vals (ns.map V.int) vs
 | _,_,.nil=>.nil
 | _,_,.cons n t h=>.cons ⟨t,rfl⟩ (wc h)
def Hz(H:Hp):Prop:=∀ b,H b=none\/∃ o xs,H b=some (.frz o (.lst xs))
theorem CO{P:Program}{w:World}{K:Frag}{mg mb:Str->Option Value}{CX:DE}{k:Nat}{fa a:Addr}{fd:FuncData}{x:Str}{sp:Sp}{s₁:Shared}{vs:List Value}{ns:List Int}
  (KX:K.In s₁.heap) (hns:s₁.heap.Ns mainGlobals mg) (hb:s₁.heap.Ns builtinsNs mb) (hbb:∀ x:Str,x ≠ "__name__" -> mb x=bootBuiltins x) (hlim:s₁.heap.NoLimit) (hse:s₁.heap.NoSeer) (htr:P.given.tree=none) (hg:s₁.gens = #[])
  (ha:s₁.heap.get? a=some { cls:=.type "list",data:=.seq vs.toArray }) (hi:IntsAre vs ns) (hl:ns.length<=sizeLine) (hr:Room k callerA)
  (F:∀ base:Heap,K.In base->base.Ns mainGlobals mg->FnOk P w K mg base CX k fa fd [x] sp) (hbind:∀(s:Shared) (u:Value),BindsTo s fd ⟨[u],[]⟩ [(x,u)])
  (hsp:∀ H:Hp,Hz H->SqL K H a (ns.map V.int)->sp [.ref a] H (fun v _=>v = .bl true) fun _ _ _=>False)
  (hCX:∀ H e s',CX [] H s₁ (fun _ _ _=>False) e s'->False) :
  codeAny (model P w) callerA (.call (.ref fa) ⟨[.ref a],[]⟩) (fun r s'=>r = .ok (.ret (.bool true))/\OldK s₁.heap s'.heap/\s'.os=s₁.os/\AllBare s'.gens) s₁:=by
 have rv:=wc hi;have lenV:=hi.length
 -- from an abstract heap in which nothing but the script may be tracked
 have core:∀ H:Hp,Hz H->SqL K H a (ns.map V.int)->HOk P w H s₁.heap->(∀ b,H b≠none->b=a)->(H a≠none->K.lookup a=none) ->
   codeAny (model P w) callerA (.call (.ref fa) ⟨[.ref a],[]⟩) (fun r s'=>r = .ok (.ret (.bool true))/\OldK s₁.heap s'.heap/\s'.os=s₁.os/\AllBare s'.gens) s₁:=by
  intro H hO hS hok hA hK;have base_of:∀{b:Addr} {o:Obj},s₁.heap.get? b=some o->H b=none->(v9 s₁.heap H).get? b=some o:=fun e n=>CV e n;have noA:∀{b:Addr} {o:Obj} {es:Array DictEntry} {ep:Nat},s₁.heap.get? b=some o->o.data = .dict es ep->H b=none:=fun {b o es ep} e d=>by
   cases q:H b with
   | none=>rfl
   | some u =>
    have e':b=a:=hA b (by rw [q];simp);subst e';rw [ha] at e;cases e;have d':Data.seq vs.toArray _=Data.dict es ep:=d;cases d'
  have nsK:∀{b:Addr} {m:Str->Option Value},s₁.heap.Ns b m->(v9 s₁.heap H).Ns b m:=fun {b m} ⟨o,es,ep,e,d,r⟩=>⟨o,es,ep,base_of e (noA e d),d,r⟩;have hKb:K.In (v9 s₁.heap H):=fun b o e=>base_of (KX b o e) (by
   cases q:H b with
   | none=>rfl
   | some u =>
    have e':b=a:=hA b (by rw [q];simp);subst e';rw [hK (by rw [q];simp)] at e;cases e)
  have hM:Mod K mg (v9 s₁.heap H):=⟨hKb,nsK hns,⟨mb,nsK hb,hbb⟩,let ⟨mc,h1,h2⟩:=hlim;⟨mc,nsK h1,h2⟩⟩;have hsr:(v9 s₁.heap H).NoSeer:=by
   obtain⟨⟨mc,a1,b1⟩,⟨mm,a2,b2⟩,⟨mi,a3,b3⟩,⟨mq,bm,ob,a4,b4,c4,d4,e4⟩⟩:=hse;refine⟨⟨mc,nsK a1,b1⟩,⟨mm,nsK a2,b2⟩,⟨mi,nsK a3,b3⟩,⟨mq,bm,ob,nsK a4,b4,base_of c4 ?_,d4,e4⟩⟩;cases q:H bm with
   | none=>rfl
   | some u =>
    have e':bm=a:=hA bm (by rw [q];simp);subst e';rw [ha] at c4;cases c4;exact absurd (show (Value.type "list")=Value.type "module" from d4) (by decide)
  have e0:Env0 P w K mg (v9 s₁.heap H) callerA [] s₁ H:=⟨rfl,hM,fun b o e=>Ek e,Nat.le_of_eq (Bp _ _),trivial,fun b hb=>absurd (show b∈([]:List Addr) from hb) (by simp),hok,.of_eq hg,hsr,htr⟩;refine codeAny_mono ((F _ hKb (nsK hns)).run callerA [] s₁ H ⟨[.ref a],[]⟩ [.ref a] [.ref a] _ _ hr e0 (hbind s₁ (.ref a)) (.cons rfl .nil) (hsp H hO hS)) fun r s' h=>?_;cases r with
  | error e=>exact (hCX H e s' h).elim
  | ok fl =>
   cases fl with
   | next=>exact False.elim h
   | brk=>exact False.elim h
   | cont=>exact False.elim h
   | ret u =>
    obtain⟨v,H',os,bare,un,hok',r',q⟩:=h;have q':v = .bl true:=q;subst q';obtain rfl:u=Value.bool true:=r';refine⟨rfl,OldK.of_keep fun b o e=>?_,os,bare⟩;cases q:H b with
    | none=>exact un.keep b o e q (by intro z;exact absurd (show b∈([]:List Addr) from z) (by simp)) (by simp)
    | some u =>
     rcases hO b with z|⟨ob,xs,z⟩
     ·rw [q] at z;cases z
     ·have z2:=un.frzs b ob _ z;obtain⟨e1,_⟩:=hok b _ z;obtain⟨e2,_⟩:=hok' b _ z2;rw [e] at e1;cases e1;exact e2
 cases hk:K.lookup a with
 | some o =>
  -- the script is one of the module's own objects
  have e:=KX a o hk;rw [ha] at e;cases e;refine core (fun _=>none) (fun _=>.inl rfl) (.inr ⟨_,vs.toArray,_,hk,rfl,rfl,rfl,by rw [am,lenV];exact hl,by simpa using rv⟩) (fun b u z=>by have z':(none:Option HO)=some u:=z;cases z') (fun b z=>absurd rfl z) fun z=>absurd rfl z
 | none =>
  refine core (fun b=>if b=a then some (.frz { cls:=.type "list",data:=.seq vs.toArray } (.lst (ns.map V.int))) else none) (fun b=>?_) (.inl (.inr ⟨{ cls:=.type "list",data:=.seq vs.toArray },if_pos rfl⟩)) (fun b u z=>?_) (fun b z=>?_) fun _=>hk
  ·by_cases hb:b=a
   ·exact .inr ⟨_,_,if_pos hb⟩
   ·exact .inl (if_neg hb)
  ·by_cases hb:b=a
   ·have z':=(if_pos hb).symm.trans z;cases z';subst hb;exact⟨ha,by rw [aa];exact hl,vs,_,rv,ha⟩
   ·have z':=(if_neg hb).symm.trans z;cases z'
  ·by_cases hb:b=a
   ·exact hb
   ·exact absurd (if_neg hb) z
end L2
namespace L2
open PySem PySem.Spec PyProof.Rows
theorem DF{l:PySem.W.OpenLaw}{n k:Nat}{q:Program}{loose:List Str}{XP:(Str->Option Value)->Heap->Prop}{YP:World->Heap->Prop}{d:DefRec}{K:Params->Frag}{CX:World->DE}{sp:World->Sp}{x:Str}
  (hn:l.most=some n) (hn2:n<=sizeLine) (hdf:d.params.defaults=[]) (hr:Room k callerA)
  (hY:∀(w:World) (h:Heap),YP w h->(K w.params).In h)
  (F:∀(w:World) (mg:Str->Option Value) (fa:Addr) (h:Heap),(K w.params).In h->h.Ns mainGlobals mg->mg d.name=some (.ref fa) ->
   ∃ fd:FuncData,(∀(s:Shared) (u:Value),BindsTo s fd ⟨[u],[]⟩ [(x,u)]) /\
    ∀ base:Heap,(K w.params).In base->base.Ns mainGlobals mg->FnOk l.prog w (K w.params) mg base (CX w) k fa fd [x] (sp w))
  (hsp:∀(w:World) (H:Hp) (a:Addr) (ns:List Int),ns.length<=n->Hz H->SqL (K w.params) H a (ns.map V.int)->sp w [.ref a] H (fun v _=>v = .bl true) fun _ _ _=>False)
  (hCX:∀(w:World) (H:Hp) (s:Shared) (e:Value) (s':Shared),CX w [] H s (fun _ _ _=>False) e s'->False) (hi:importsNone q=true:=by decide +kernel) (ht:l.prog.given.tree=none:=by rfl) :
  PySem.W.WalkO q loose XP YP l.row.toRowW d [] (fun f vs=>PySem.call f vs):=by
 refine Att.yw hn hdf fun w s₀ s₁ mg mb fa o pm cd doc a vs ns G Y ho hd hcd hmg hobj hints hlen hg=>?_;have KX:=hY w _ Y;obtain⟨fd,hb,hF⟩:=F w mg fa _ KX G.T.g hmg;exact CO KX G.T.g G.T.b G.T.builtins G.T.nolimit (G.T.seer hi) ht hg hobj hints (aF hlen hn2) hr hF hb (fun H hO hS=>hsp w H a ns hlen hO hS) fun H e s'=>hCX w H s₁ e s'
end L2
namespace L2
open PySem PySem.Spec PyProof.Rows
def tI(s:Stmt):Arguments:=match s with
 | .FunctionDef _ a _ _ _ _ _ _ _ _=>a
 | _=>{ posonlyargs:=[],args:=[],vararg:=none,kwonlyargs:=[],kw_defaults:=[],kwarg:=none,defaults:=[] }
def rm(s:Stmt):List Stmt:=match s with
 | .FunctionDef _ _ b _ _ _ _ _ _ _=>b
 | _=>[]
def qk(s:Stmt):Scope:=match s with
 | .FunctionDef _ _ _ _ _ _ sc _ _ _=>sc
 | _=>{ kind:=.function,names:=[],isGenerator:=false,isCoroutine:=false }
abbrev yD:DE:=fun _ _ _ _ _ _=>False
abbrev E0:XK:=fun _ _ _=>False
theorem Ir{X:Cx}:zV yD X E0:=fun _ _ _ _ _ _ _ h=>h.elim
structure Fun (K:Frag)(x qual:Str)(st:Stmt)(f:Addr)(fd:FuncData):Prop where
 ex:∃(oc:Value) (od:Option Addr) (kV doc pm:Value) (an:Option Addr) (cdv ct:Value) (osl:Array (Option Value)),
  fd=PySem.W.fnOf x qual (tI st) (rm st) (qk st) .none kV doc pm an cdv ct/\K.lookup f=some ⟨oc,od,.func fd,osl⟩/\PySem.W.codeIn K cdv qual=true
 kp:PySem.W.keepIn K (.ref f)=true
section
variable{P:Program}{w:World}{K:Frag}{mg:Str->Option Value}{base:Heap}
theorem Fun.ok{x qual:Str}{st:Stmt}{f:Addr}{fd:FuncData}{N ps:List Str}{k:Nat}{sp:Sp}(F:Fun K x qual st f fd)(S:FnScope N ps (qk st))(len:∀ vs H Q E,sp vs H Q E->vs.length=ps.length)
  (hbody:∀(cdv:Value) (A:Around) (outer:List Env) (s:Shared) (H:Hp) (vs:List V) (Q:VK) (E:XK),Room k (A.deeper (envOfC qual (qk st) s.heap.objs.size f cdv))->sp vs H Q E ->
   ∃ t,PSs (zr yD P w K mg base N qual (qk st) f cdv A outer s H E).nox (rm st) t/\t { nx:=fun _ H'=>Q .non H',rt:=Q } (start N vs) H):FnOk P w K mg base yD (k+1) f fd ps sp:=by
 obtain⟨oc,od,kV,doc,pm,an,cdv,ct,osl,rfl,lk,hcd⟩:=F.ex;refine Jj lk hcd S len fun A outer s H vs Q E hr hsp=>?_;obtain⟨t,h,q⟩:=hbody cdv A outer s H vs Q E hr hsp;exact⟨t,h.nox,q⟩
theorem Fun.binds{x qual:Str}{st:Stmt}{f:Addr}{fd:FuncData}{ps:List Str}(F:Fun K x qual st f fd)
  (h:∀(kV doc pm:Value) (an:Option Addr) (cdv ct:Value) (us:List Value),us.length=ps.length->bindArgs (PySem.W.fnOf x qual (tI st) (rm st) (qk st) .none kV doc pm an cdv ct) ⟨us,[]⟩=pure (ps.zip us)):Binds K fd ps []:=by
 obtain⟨oc,od,kV,doc,pm,an,cdv,ct,osl,rfl,lk,hcd⟩:=F.ex;exact .all (h kV doc pm an cdv ct)
theorem GY{x qual:Str}{st:Stmt}{f:Addr}{oc:Value}{od an:Option Addr}{osl:Array (Option Value)}{kV doc pm cdv ct:Value}(l:K.lookup f=some ⟨oc,od,.func (PySem.W.fnOf x qual (tI st) (rm st) (qk st) .none kV doc pm an cdv ct),osl⟩)
  (c:PySem.W.codeIn K cdv qual=true) (k:PySem.W.keepIn K (.ref f)=true):Fun K x qual st f (PySem.W.fnOf x qual (tI st) (rm st) (qk st) .none kV doc pm an cdv ct):=⟨⟨oc,od,kV,doc,pm,an,cdv,ct,osl,rfl,l,c⟩,k⟩
end
section
variable{X:Cx}
theorem pv(i:Nat){x:Str}{pos:Pos}(hN:X.N[i]? = some x:=by rfl)(hv:FB X.env.scope x:=by first|exact Or.inl rfl|exact Or.inr (Or.inl rfl)|exact Or.inr (Or.inr rfl))(hd:(x == ("__debug__" : Str))=false:=by decide)
  (hcd:(x == ("__classdict__" : Str))=false:=by decide):PE X (.Name x pos) (uc i):=yR hN hv hd hcd
end
theorem GM{A B:Prop}(h:B):if false=true then A else B:=by
 rw [if_neg ay];exact h
theorem GL{A B:Prop}(h:A):if true=true then A else B:=by
 rw [if_pos rfl];exact h
theorem Ey{c A B:Prop}[Decidable c](h1:c->A)(h2:¬ c->B):if c then A else B:=by
 by_cases h:c
 ·rw [if_pos h];exact h1 h
 ·rw [if_neg h];exact h2 h
theorem Fi{c A B:Prop}[Decidable c](hc:c)(h:B):if (!decide c)=true then A else B:=by
 rw [decide_eq_true hc];exact GM h
def Same(H H':Hp):Prop:=∀ b o,H b=some o->H' b=some o
theorem Same.trans{H H1 H2:Hp}(a:Same H H1)(b:Same H1 H2):Same H H2:=fun c o h=>b c o (a c o h)
theorem Same.seq{K:Frag}{H H':Hp}{a:Addr}{xs:List V}(e:Same H H')(h:SqL K H a xs):SqL K H' a xs:=by
 rcases h with (h|⟨o,h⟩)|h
 ·exact .inl (.inl (e _ _ h))
 ·exact .inl (.inr ⟨o,e _ _ h⟩)
 ·exact .inr h
end L2
namespace L2
open PySem PySem.Spec PyProof.Rows
theorem qY{β:Type}:∀{l:List (Str×β)} {x:Str} {k:β},l.lookup x=some k->(x,k)∈l
 | [],_,_,h=>by simp at h
 | (n,k')::r,x,k,h=>by
  rw [dj] at h;cases e:x == n with
  | true =>
   rw [e] at h;have e':x=n:=eq_of_beq e;have h':some k'=some k:=h;cases h';rw [e'];exact aK
  | false =>
   rw [e] at h;exact aE _ (qY h)
theorem xn{β:Type}:∀{l:List (Str×β)} {x:Str} {k:β},(x,k)∈l->∃ k',l.lookup x=some k'
 | [],_,_,h=>by simp at h
 | (n,k')::r,x,k,h=>by
  rw [dj];cases e:x == n with
  | true=>exact⟨k',rfl⟩
  | false =>
   rcases ak.mp h with q|q
   ·cases q;simp at e
   ·exact xn q
def t9(env:Env)(x:Str)(k:NameKind):NameKind:=if (k == .free && env.scope.kind == .function && env.kindOf x == some .cell) then .cell else k
theorem uq{env:Env}{x:Str}:∀{l:List (Str×NameKind)},
  (l.map fun (n,k)=>if (k == NameKind.free && env.scope.kind == .function && env.kindOf n == some .cell) then (n,NameKind.cell) else (n,k)).lookup x=(l.lookup x).map (t9 env x)
 | []=>rfl
 | (n,k)::r=>by
  rw [bQ];have ih:=@uq env x r;have e0:(match ((n,k):Str×NameKind) with|(n,k)=>if (k == NameKind.free && env.scope.kind == .function && env.kindOf n == some .cell) then (n,NameKind.cell) else (n,k))=(n,t9 env n k):=by
   show (if (k == NameKind.free && env.scope.kind == .function && env.kindOf n == some .cell)=true then (n,NameKind.cell) else (n,k))=(n,t9 env n k);unfold t9;split <;> rfl
  rw [e0,dj,dj];cases e:x == n with
  | true =>
   have e':x=n:=eq_of_beq e;subst e';rfl
  | false=>exact ih
def rH(cells:List (Str×Addr)):List (Str×NameKind)->List (Str×Addr)->List (Str×Addr)
 | [],acc=>acc
 | (n,k)::r,acc=>if k == .free then rH cells r ((n,(cells.lookup n).getD 0)::acc) else rH cells r acc
theorem tx{cells:List (Str×Addr)}:∀{l:List (Str×NameKind)} {acc:List (Str×Addr)},(∀ y∈l,y.2 = .free->∃ c,cells.lookup y.1=some c)->(∀ p∈acc,cells.lookup p.1=some p.2) ->
  ∀ p∈rH cells l acc,cells.lookup p.1=some p.2
 | [],acc,_,ha,p,hp=>ha p hp
 | (n,k)::r,acc,hl,ha,p,hp=>by
  unfold rH at hp;have hl':∀ y∈r,y.2 = .free->∃ c,cells.lookup y.1=some c:=fun y hy=>hl y (aE _ hy);cases hk:k == NameKind.free with
  | true =>
   rw [hk,if_pos rfl] at hp;refine tx hl' (fun q hq=>?_) p hp;rcases ak.mp hq with e|e
   ·subst e;obtain⟨c,e⟩:=hl (n,k) aK (eq_of_beq hk);show cells.lookup n=some ((cells.lookup n).getD 0);rw [show cells.lookup n=some c from e];rfl
   ·exact ha q e
  | false =>
   rw [hk,if_neg ay] at hp;exact tx hl' ha p hp
theorem vU{cells:List (Str×Addr)}:∀{l:List (Str×NameKind)} {acc:List (Str×Addr)} {p:Str×Addr},p∈acc->p∈rH cells l acc
 | [],_,_,h=>h
 | (n,k)::r,acc,p,h=>by
  unfold rH;split
  ·exact vU (aE _ h)
  ·exact vU h
theorem uw{cells:List (Str×Addr)}:∀{l:List (Str×NameKind)} {acc:List (Str×Addr)} {x:Str},(x,NameKind.free)∈l->∃ c,(x,c)∈rH cells l acc
 | [],_,_,h=>by simp at h
 | (n,k)::r,acc,x,h=>by
  unfold rH;rcases ak.mp h with e|e
  ·cases e;rw [if_pos (by rfl)];exact⟨_,vU aK⟩
  ·split
   ·exact uw e
   ·exact uw e
theorem t8{env:Env}:∀{l:List (Str×NameKind)} {acc:List (Str×Addr)},(∀ y∈l,y.2 = .free->∃ c,env.cells.lookup y.1=some c) ->
  (forIn l acc (fun (x:Str×NameKind) (r:List (Str×Addr))=>(if (x.2 == NameKind.free)=true then do let c ← cellOf env x.1;pure (ForInStep.yield ((x.1,c)::r)) else pure (ForInStep.yield r):Sem _)))=pure (rH env.cells l acc)
 | [],_,_=>rfl
 | (n,k)::r,acc,hl=>by
  have hl':∀ y∈r,y.2 = .free->∃ c,env.cells.lookup y.1=some c:=fun y hy=>hl y (aE _ hy);rw [eh];unfold rH;cases hk:k == NameKind.free with
  | true =>
   obtain⟨c,e⟩:=hl (n,k) aK (eq_of_beq hk);have e':env.cells.lookup n=some c:=e;simp only [hk,if_true];rw [show cellOf env n=pure c by unfold cellOf;rw [e']];simp only [pure_bind];rw [t8 hl',e'];rfl
  | false =>
   simp only [hk,cI,if_false,pure_bind];exact t8 hl'
theorem uL{cells:List (Str×Addr)}:∀{l:List (Str×NameKind)} {acc:List (Str×Addr)} {p:Str×Addr},p∈rH cells l acc->p∈acc\/(p.1,NameKind.free)∈l
 | [],_,_,h=>.inl h
 | (n,k)::r,acc,p,h=>by
  unfold rH at h;split at h
  ·rename_i hk;rcases uL h with z|z
   ·rcases ak.mp z with e|e
    ·subst e;rw [eq_of_beq hk];exact .inr aK
    ·exact .inl e
   ·exact .inr (aE _ z)
  ·exact (uL h).imp id (aE _)
theorem zC:∀{l:List (Str×NameKind)} {n:Nat} {acc:List (Str×Addr)} {p:Str×Addr},p∈cellsFrom n l acc->p∈acc\/(n<=p.2/\(p.1,NameKind.cell)∈l)
 | [],_,_,_,h=>.inl h
 | (x,k)::r,n,acc,p,h=>by
  unfold cellsFrom at h;split at h
  ·rename_i hk;rcases zC h with z|z
   ·rcases ak.mp z with e|e
    ·subst e;rw [eq_of_beq hk];exact .inr ⟨aq _,aK⟩
    ·exact .inl e
   ·exact .inr ⟨cw z.1,aE _ z.2⟩
  ·exact (zC h).imp id fun z=>⟨z.1,aE _ z.2⟩
theorem vV:∀{l:List (Str×NameKind)} {n:Nat} {acc:List (Str×Addr)} {p:Str×Addr},p∈acc->p∈cellsFrom n l acc
 | [],_,_,_,h=>h
 | (x,k)::r,n,acc,p,h=>by
  unfold cellsFrom;split
  ·exact vV (aE _ h)
  ·exact vV h
theorem Dl:∀{l:List (Str×NameKind)} {n:Nat} {acc:List (Str×Addr)} {x:Str},(x,NameKind.cell)∈l->∃ c,(x,c)∈cellsFrom n l acc
 | [],_,_,_,h=>by simp at h
 | (y,k)::r,n,acc,x,h=>by
  unfold cellsFrom;rcases ak.mp h with e|e
  ·cases e;rw [if_pos (by rfl)];exact⟨_,vV aK⟩
  ·split <;> exact Dl e
theorem zD:∀{l:List (Str×NameKind)} {n:Nat} {acc:List (Str×Addr)},(∀ p∈acc,p.2<n)->(∀ x y c,(x,c)∈acc->(y,c)∈acc->x=y)->∀ x y c,(x,c)∈cellsFrom n l acc->(y,c)∈cellsFrom n l acc->x=y
 | [],_,_,_,h=>h
 | (z,k)::r,n,acc,hl,h=>by
  unfold cellsFrom;split
  ·refine zD (fun p hp=>?_) fun x y c hx hy=>?_
   ·rcases ak.mp hp with e|e
    ·subst e;exact Nat.lt_succ_self _
    ·exact fL (hl p e)
   ·rcases ak.mp hx with e|e <;> rcases ak.mp hy with e'|e'
    ·cases e;cases e';rfl
    ·cases e;exact absurd (hl _ e') (bD _)
    ·cases e';exact absurd (hl _ e) (bD _)
    ·exact h x y c e e'
  ·exact zD hl h
theorem xx:∀{l:List (Str×NameKind)} {h:Heap} {acc:List (Str×Addr)} {p:Str×Addr},p∈cellsFrom h.objs.size l acc->p∈acc\/(pushCells h l).IsCell p.2 none
 | [],_,_,_,q=>.inl q
 | (x,k)::r,h,acc,p,q=>by
  unfold cellsFrom at q;unfold pushCells;split at q
  ·rename_i hk;rw [if_pos hk];rw [← Heap.size_push h { cls:=.type "cell",data:=.cell none }] at q;rcases xx q with z|z
   ·rcases ak.mp z with e|e
    ·subst e;exact .inr ⟨_,pushCells_keeps _ _ _ _ (Heap.get?_push_size _ rfl),rfl⟩
    ·exact .inl e
   ·exact .inr z
  ·rename_i hk;rw [if_neg hk];exact xx q
theorem vR{cells:List (Str×Addr)}{names:List (Str×NameKind)}{n:Nat}{x:Str}{c:Addr}(hfr:∀ y∈names,y.2 = .free->∃ c,cells.lookup y.1=some c)(h:(x,c)∈cellsFrom n names (rH cells names [])) :
  (cells.lookup x=some c/\(x,NameKind.free)∈names)\/(n<=c/\(x,NameKind.cell)∈names):=by
 rcases zC h with z|z
 ·refine .inl ⟨tx hfr (fun _ z=>absurd z aU) (x,c) z,?_⟩;rcases uL z with w|w
  ·exact absurd w aU
  ·exact w
 ·exact .inr z
theorem Em{M:Model}{A:Around}{E:Value->Shared->Prop}{s:Shared}{scope:Scope}{g:Addr}{cl:List (Str×Addr)}{qual:Str}{env:Env}{Q:Env->Shared->Prop}
  (h:Q (newEnv scope s.heap.objs.size g (cellsFrom (s.heap.objs.size+1) scope.names cl) qual none .none (some env) builtinsNs) { s with heap:=pushCells (s.heap.push { cls:=.type "dict",data:=.dict #[] }) scope.names }) :
  wpAny M A (newFunctionEnv scope g cl [] qual none .none (some env)) Q E s:=by
 simp only [newFunctionEnv,Option.isSome_some,if_true];refine wpAny_bind (wpAny_alloc ?_);refine wpAny_bind (wpAny_layCells _ (fun name kind cells=>by cases hkc:kind == NameKind.cell <;> simp [hkc]) _ _ _ _ ?_);rw [show ({ s with heap:=s.heap.push { cls:=.type "dict",data:=.dict #[] } }:Shared).heap.objs.size=s.heap.objs.size+1 from Heap.size_push ..];refine wpAny_bind ?_;rw [eC];exact wpAny_pure (wpAny_pure h)
def uT(hide:List Nat)(σ:St):St:=hide.foldl (fun s i=>s.set i none) σ
theorem hideS_len:∀{hide:List Nat} {σ:St},(uT hide σ).length=σ.length
 | [],_=>rfl
 | i::r,σ=>by
  show (uT r (σ.set i none)).length=_;rw [hideS_len,aW]
theorem wA:∀{hide:List Nat} {σ:St} {i:Nat} {v:V},(uT hide σ)[i]? = some (some v)->i ∉ hide/\σ[i]? = some (some v)
 | [],_,_,_,h=>⟨by simp,h⟩
 | j::r,σ,i,v,h=>by
  obtain⟨h1,h2⟩:=wA (hide:=r) (σ:=σ.set j none) h;by_cases e:j=i
  ·subst e;by_cases hl:j<σ.length
   ·rw [du hl] at h2;cases h2
   ·rw [aS (by simp;omega)] at h2;cases h2
  ·rw [aH e] at h2;exact⟨by simp [h1,Ne.symm e],h2⟩
def tL(X:Cx)(scope:Scope)(s2:Shared)(H2:Hp)(fp:List Addr)(pins:List (Addr×Obj))(C:Addr):Cx where
 prog:=X.prog
 w:=X.w
 K:=X.K
 mg:=X.mg
 base:=X.base
 A:=X.A
 N:=X.N
 s₀:=s2
 H₀:=H2
 env:=compEnvC scope (cellsFrom (C+1) scope.names (rH X.env.cells scope.names [])) C X.env
 outer:=X.stack
 stack:=X.stack
 ex:=fp
 fn:=fun x=>scope.names.lookup x == some .cell
 calm:=X.calm
 pn:=X.pn++pins
 xe:=fun _ _=>False
structure CompS (N:List Str)(out:Scope)(scope:Scope)(hide:List Nat):Prop where
 kind:scope.kind = .function
 one:∀ y∈scope.names,scope.names.lookup y.1=some y.2
 free:∀ y∈scope.names,y.2 = .free->out.names.lookup y.1=some .cell\/out.names.lookup y.1=some .free
 loc:∀ y∈scope.names,y.2 = .local->scope.names.lookup y.1=some .local
 own:∀(i:Nat),i<N.length->(scope.names.lookup (N.getD i "")=some .local\/scope.names.lookup (N.getD i "")=some .cell)->i∈hide
section
variable{X:Cx}{pins:List (Addr×Obj)}{σ:St}{H:Hp}{s:Shared}
theorem LM{scope:Scope}{hide:List Nat}(S:CompS X.N X.env.scope scope hide){fp:List Addr}{C:Addr}(I:Inv X pins σ H s)(hf:∀ b∈fp,sU X pins H b)(hfo:∀ b∈fp,∃ o,s.heap.get? b=some o)
  (hC:s.heap.objs.size<=C):(tL X scope s H fp pins C).Ok:=by
 have hfr:∀ y∈scope.names,y.2 = .free->∃ c,X.env.cells.lookup y.1=some c:=fun y hy e=>I.ok.has y.1 (S.free y hy e);have old:∀ x c,X.env.cells.lookup x=some c->c<s.heap.objs.size:=fun x c e=>by
  obtain⟨v,o,ho,_⟩:=I.cell x c e;exact Heap.lt_size ho
 have cl:∀ p∈rH X.env.cells scope.names [],X.env.cells.lookup p.1=some p.2:=tx hfr fun _ z=>absurd z aU;refine⟨I.ok.mod,S.kind,I.ok.glob,I.ok.blt,hC,fun x y c e1 e2=>zD (fun p hp=>fL (az (old _ _ (cl p hp)) hC)) (fun x y c h1 h2=>I.ok.inj x y c (cl _ h1) (cl _ h2)) x y c (qY e1) (qY e2),fun x hx=>?_,fun x c h e=>?_,I.ok.hd,I.ok.frames,.inl rfl,fun b hb=>⟨?_,fun x c e=>?_⟩,I.bs,
  aF I.ok.bsz I.sz,fun b o e hb=>?_,fun b hb z=>?_,I.stack,I.stkFree,I.ok.sr,I.ok.rn⟩
 ·have hx':((scope.names.lookup x).map (t9 X.env x)=some .cell)\/((scope.names.lookup x).map (t9 X.env x)=some .free):=by
   rw [← uq];exact hx
  cases q:scope.names.lookup x with
  | none=>rw [q] at hx';rcases hx' with z|z <;> cases z
  | some k =>
   have mem:=qY q;have kf:k = .free\/k = .cell:=by
    rw [q] at hx';have hx2:t9 X.env x k = .cell\/t9 X.env x k = .free:=hx'.imp Option.some.inj Option.some.inj;unfold t9 at hx2;by_cases c:(k == NameKind.free && X.env.scope.kind == .function && X.env.kindOf x == some .cell)=true
    ·simp only [bh,beq_iff_eq] at c;exact .inl c.1.1
    ·rw [if_neg c] at hx2;exact hx2.symm
   rcases kf with kf|kf
   ·subst kf;obtain⟨c,hc⟩:=uw (cells:=X.env.cells) (acc:=[]) mem;exact xn (vV hc)
   ·subst kf;obtain⟨c,hc⟩:=Dl (n:=C+1) (acc:=rH X.env.cells scope.names []) mem;exact xn hc
 ·have h:scope.names.lookup x=some .cell:=eq_of_beq h;rcases vR hfr (qY e) with⟨_,z⟩|⟨z,_⟩
  ·rw [S.one _ z] at h;cases h
  ·exact aF hC (cw z)
 ·obtain⟨o,e⟩:=hfo b hb;exact aX (az (Heap.lt_size e) hC)
 ·obtain⟨o,e'⟩:=hfo b hb;rcases vR hfr (qY e) with⟨z,_⟩|⟨z,_⟩
  ·exact (hf b hb).2.2.2.2.1 x c z
  ·exact cT (az (Heap.lt_size e') (aF hC (cw z)))
 ·rcases (hf b hb).2.2.2.1 with z|z
  ·exact I.ok.noex b o e z
  ·exact absurd (az (Heap.lt_size (I.ok.bs b o e).1) z) (bD _)
 ·rcases ak.mp (I.stkSub b z) with q|q
  ·exact (hf b hb).2.1 q
  ·exact (hf b hb).2.2.1 q
theorem JF(I:Inv X pins σ H s){a:Addr}(h:s.heap.objs.size<=a):a ∉ AG X.stack:=fun z=>by
 rcases ak.mp (I.stkSub a z) with q|q
 ·exact absurd (az I.lt (by rw [← q];exact h)) (bD _)
 ·exact I.nofs h q
theorem KP{scope:Scope}{hide:List Nat}(S:CompS X.N X.env.scope scope hide){fp:List Addr}{C D:Addr}{h4:Heap}{tk:Nat}{ob:Obj}{m:Str->Option Value}(I:Inv X pins σ H s)(hf:∀ b∈fp,sU X pins H b)(hfo:∀ b∈fp,∃ o,s.heap.get? b=some o)
  (hC:s.heap.objs.size<=C) (hD:s.heap.objs.size<=D) (hDC:D≠C) (k:∀ b u,s.heap.get? b=some u->h4.get? b=some u) (hcl:∀ p∈cellsFrom (C+1) scope.names (rH X.env.cells scope.names []),p∈rH X.env.cells scope.names []\/h4.IsCell p.2 none) (hn:h4.Ns C m) (hDo:h4.get? D=some ob) (hob:∀ v,ob.data ≠ .cell v) :
  Inv (tL X scope s H fp pins C) [(D,ob)] (uT hide σ) H { s with heap:=h4,toks:=tk }:=by
 have ok:=LM S I hf hfo hC;have hfr:∀ y∈scope.names,y.2 = .free->∃ c,X.env.cells.lookup y.1=some c:=fun y hy e=>I.ok.has y.1 (S.free y hy e);have sub:∀ x c,(x,c)∈rH X.env.cells scope.names []->X.env.cells.lookup x=some c:=fun x c e=>tx hfr (fun _ z=>absurd z aU) (x,c) e;have ck:∀ c v,s.heap.IsCell c v->h4.IsCell c v:=fun c v ⟨o,ho,hd⟩=>⟨o,k c o ho,hd⟩;refine⟨ok,rfl,I.bare,Un.kept k,⟨m,hn,fun i x v e1 e2 e3=>?_⟩,fun x c e=>?_,I.hok.fresh hC,fun x c e=>?_,fun p hp=>?_,I.hok.kept k,hideS_len.trans I.len⟩
 ·obtain⟨n1,n2⟩:=wA e2;have e3':((scope.names.lookup x).map (t9 X.env x)=some .local)\/((scope.names.lookup x).map (t9 X.env x)=some .cell)\/((scope.names.lookup x).map (t9 X.env x)=some .free):=by
   rw [← uq];exact e3
  cases q:scope.names.lookup x with
  | none=>rw [q] at e3';rcases e3' with z|z|z <;> cases z
  | some kd =>
   rw [q] at e3';have e4:t9 X.env x kd = .local\/t9 X.env x kd = .cell\/t9 X.env x kd = .free:=e3'.imp Option.some.inj fun z=>z.imp Option.some.inj Option.some.inj;have mem:=qY q;by_cases kl:kd = .local\/kd = .cell
   ·have hi:X.N[i]? = some x:=e1;obtain⟨hlt,hge⟩:=aj.mp hi;refine absurd (S.own i hlt ?_) n1;rw [ah,hi];exact kl.imp (fun z=>by rw [← z];exact q) fun z=>by rw [← z];exact q
   ·have kf:kd = .free:=by
     unfold t9 at e4;by_cases c:(kd == NameKind.free && X.env.scope.kind == .function && X.env.kindOf x == some .cell)=true
     ·simp only [bh,beq_iff_eq] at c;exact c.1.1
     ·rw [if_neg c] at e4;rcases e4 with z|z|z
      ·exact absurd (.inl z) kl
      ·exact absurd (.inr z) kl
      ·exact z
    subst kf;have kx:=S.free _ mem rfl;obtain⟨m0,_,hl⟩:=I.loc;obtain⟨u,r,l⟩:=hl i x v e1 n2 (.inr kx);refine⟨u,r,?_⟩;rcases l with⟨z,_⟩|⟨_,c,e,z⟩
    ·have z':X.env.scope.names.lookup x=some .local:=z;rw [z'] at kx;rcases kx with w|w <;> cases w
    ·obtain⟨c',hc'⟩:=uw (cells:=X.env.cells) (acc:=[]) mem;obtain⟨c2,hc2⟩:=xn (vV (n:=C+1) (l:=scope.names) hc');have ec:c2=c:=by
      rcases vR hfr (qY hc2) with⟨w,_⟩|⟨_,w⟩
      ·exact Option.some.inj (w.symm.trans e)
      ·have w1:=S.one _ w;rw [q] at w1;cases w1
     subst ec;refine .inr ⟨?_,c2,hc2,ck c2 _ z⟩;have e5:((relabel scope X.env).names.lookup x)=some (t9 X.env x .free):=by
      show (List.map _ scope.names).lookup x=_;rw [uq,q];rfl
     rcases e4 with w|w|w
     ·unfold t9 at w;split at w <;> cases w
     ·exact .inl (e5.trans (by rw [w]))
     ·exact .inr (e5.trans (by rw [w]))
 ·rcases hcl _ (qY e) with w|w
  ·obtain⟨v,z⟩:=I.cell x c (sub x c w);exact⟨v,ck c v z⟩
  ·exact⟨_,w⟩
 ·rcases vR hfr (qY e) with⟨w,_⟩|⟨w,_⟩
  ·exact I.freeC x c w
  ·exact I.hok.fresh (aF hC (cw w))
 ·rcases aM.mp hp with z|z
  ·obtain⟨e,n,ne,nf,d⟩:=I.pin p z;refine⟨k _ _ e,n,aX (az (Heap.lt_size e) hC),fun y=>?_,d⟩;rcases ak.mp (I.stkSub _ y) with q|q
   ·exact ne q
   ·exact nf q
  ·have e:p=(D,ob):=by simpa using z
   subst e;exact⟨hDo,I.hok.fresh hD,hDC,JF I hD,hob⟩
theorem KO{scope:Scope}{fp:List Addr}{C D:Addr}{n:Nat}{its:List Value}{ys:List V}{pins':List (Addr×Obj)}{τ:St}{H':Hp}{s':Shared}(I:Inv X pins σ H s)(hf:∀ b∈fp,sU X pins H b)
  (hD:s.heap.objs.size<=D) (J:Inv (tL X scope s H fp pins C) pins' τ H' s') (hp:(D,({ cls:=.type "list",data:=.seq its.toArray n }:Obj))∈pins') (hv:Vals ys its) (hz:ys.length<=sizeLine) :
  Inv X pins σ (qR H' D (.lst ys)) s':=by
 obtain⟨eD,nD,_⟩:=J.pin _ (aQ _ hp);have u:Un (AG X.stack) fp H H' s.heap s'.heap:=J.base;have ne:∀ b o,s.heap.get? b=some o->b≠D:=fun b o e=>aX (az (Heap.lt_size e) hD);have u':Un (AG X.stack) fp H (qR H' D (.lst ys)) s.heap s'.heap:=by
  refine⟨u.keep,u.slot,fun b o e q hx=>?_,u.there,fun b xs e=>?_,fun b o v e=>?_,fun b ps e=>?_⟩
  ·rw [qu (ne b o e)];exact u.free b o e q hx
  ·have q:=u.tups b xs e;rw [qu (qB q nD)];exact q
  ·have q:=u.frzs b o v e;rw [qu (qB q nD)];exact q
  ·obtain⟨more,q⟩:=u.tbls b ps e;refine⟨more,?_⟩;rw [qu (qB q nD)];exact q
 have hok:HOk X.prog X.w (qR H' D (.lst ys)) s'.heap:=fun b o e=>by
  by_cases hb:b=D
  ·subst hb;rw [qw] at e;cases e;exact⟨hz,its,n,hv,eD⟩
  ·rw [qu hb] at e;exact (J.hok b o e).stay (fun _ _ _ q=>q) (fun c q=>by rw [qu (qB q nD)];exact q) fun c xs q=>by rw [qu (qB q nD)];exact q
 refine I.call' (show s'.os=s.os from J.os) u' hok J.bare fun b hb=>?_;obtain⟨f0,f1,f2,f3,f4,f5⟩:=hf b hb;exact⟨f3,f1,f4,f5⟩
end
abbrev vI(its:List Value)(n:Nat):Obj:={ cls:=.type "list",data:=.seq its.toArray n }
def PTs(X:Cx)(ifs:List Expr)(t:TT):Prop :=
 ∀(pins:List (Addr×Obj)) (s:Shared) (σ:St) (H:Hp) (Q:Bool->Hp->Prop),Inv X pins σ H s->t σ H Q ->
  wpAny (model X.prog X.w) X.A (forIn ifs true fun c r=>if r=true then do let ok ← isTrue c X.env (eval c X.env);pure (ForInStep.yield ok) else pure (ForInStep.yield r)) (TP X pins σ Q) X.xe s
def HJ:TT:=fun _ H Q=>Q true H
theorem pts_nil{X:Cx}:PTs X [] HJ:=fun _ _ _ H _ I h=>wpAny_tests_nil ⟨H,I,h⟩
theorem DS{X:Cx}{c:Expr}{t:TT}(hc:PT X c t):PTs X [c] t:=fun pins s σ H Q I h=>wpAny_tests_one (hc pins s σ H Q I h)
theorem Jw{Y:Cx}{tg iter elt:Expr}{ifs:List Expr}{scope:Scope}{pos:Pos}{g:TG}{te:TE}{tt:TT}{J:It}{fp:List Addr}{it D:Addr}{tn:Nat->Heap->Prop}{R:Result->Shared->Prop}
  {W:Nat->Nat->St->List V->Hp->Prop} {Z:List V->Hp->Prop} {s:Shared} {σ:St} {H:Hp} {m n0:Nat}
  (T:Turn Y.prog Y.w Y.K tg J fp it tn) (hc:Y.calm=true) (hg:PG Y tg g) (ht:PTs Y ifs tt) (he:PE Y elt te) (hx:∀ e s,Y.xe e s->False)
  (stat:∀ ob H',(∀ b∈fp,H' b=none)->∀ b∈fp,sU Y [(D,ob)] H' b) (hDs:Y.s₀.heap.objs.size<=D) (hDc:∀ x c,Y.env.cells.lookup x=some c->c≠D) (hDp:∀ p∈Y.pn,p.1≠D)
  (wT:∀ k m τ ys H,W k m τ ys H->(J.stop k H/\Z ys H)\/(J.go k H/\ys.length<sizeLine/\∀ x H',J.yld k H x H'->g x τ H' fun τ2 H2=>tt τ2 H2 fun b H3 =>
   if b=true then te τ2 H3 fun v H4=>∃ m',m'<m/\W (k+1) m' τ2 (ys++[v]) H4 else ∃ m',m'<m/\W (k+1) m' τ2 ys H3))
  (out:∀(τ:St) (H':Hp) (s':Shared) (ys:List V) (its:List Value) (n:Nat),Inv Y [(D,vI its n)] τ H' s'->Vals ys its->ys.length<=sizeLine->Z ys H'->R (.ok .next) s')
  (I:Inv Y [(D,vI [] n0)] σ H s) (st:tn 0 s.heap) (fr:∀ b∈fp,H b=none) (w0:W 0 m σ [] H) :
  codeAny (model Y.prog Y.w) Y.A (.compLoop (.ListComp elt [⟨tg,iter,ifs,0⟩] scope pos) 0 (.ref it) (.ref D) Y.env) R s:=by
 refine codeAny_loop rfl (fun m s'=>∃ k τ H' ys its n,Inv Y [(D,vI its n)] τ H' s'/\tn k s'.heap/\(∀ b∈fp,H' b=none)/\Vals ys its/\ys.length<=sizeLine/\W k m τ ys H') (fun m1 s1 h1=>?_) m ⟨0,σ,H,[],[],n0,I,st,fr,.nil,aI _,w0⟩;obtain⟨k,τ,H1,ys,its,n,I1,st1,fr1,rv,hz,w1⟩:=h1;have no:∀{E:Value->Shared->Prop} {α:Type} {c:Sem α} {Q:α->Shared->Prop} {s:Shared},wpAny (model Y.prog Y.w) Y.A c Q Y.xe s->wpAny (model Y.prog Y.w) Y.A c Q E s:=fun {E α c Q s} h=>wpAny_mono h (fun _ _ q=>q) fun e s' q=>(hx e s' q).elim;show wpAny _ Y.A ((compTurn (.ListComp elt [⟨tg,iter,ifs,0⟩] scope pos) 0 (.ref it) (.ref D) Y.env).onRaise _) _ _ s1;refine wpAny_noted ?_;rw [compTurn_list];refine wpAny_bind (wpAny_standAt (wpAny_bind ?_));rcases wT k m1 τ ys H1 w1 with⟨stop,z⟩|⟨go,hlt,step⟩
 ·refine qI (T.done Y rfl rfl rfl hc k _ s1 τ H1 _ I1 (stat _ _ fr1) st1 stop) fun r s2 ⟨hr,I2⟩=>?_;subst hr;exact wpAny_pure (out τ H1 s2 ys its n I2 rv hz z)
 ·refine qI (T.item Y rfl rfl rfl hc k _ s1 τ H1 _ I1 (stat _ _ fr1) st1 go) fun r s2 ⟨u,hr,h2⟩=>?_;subst hr;refine wpAny_bind (qI h2 fun _ s3 ⟨x,H3,I3,r3,y3,st3,fr3⟩=>?_);have I3':=I3.pinned (stat _ _ fr3) (T.obj _ _ st3);refine wpAny_bind (no (qI (hg _ s3 τ H3 x u _ I3' r3 (step x H3 y3)) fun _ s4 ⟨τ4,H4,I4,q4⟩=>?_));refine wpAny_bind (no (qI (ht _ s4 τ4 H4 _ I4 q4) fun ok s5 ⟨H5,I5,q5⟩=>?_));have frs5:∀{H':Hp} {s':Shared} {τ':St},Inv Y ([(D,vI its n)]++vG fp s3.heap) τ' H' s'->tn (k+1) s'.heap/\∀ b∈fp,H' b=none:=fun {H' s' τ'} I'=>by
   refine⟨T.keep _ _ _ st3 fun b hb o e=>(I'.pin (b,o) (aQ _ (aQ _ (sH hb e)))).1,fun b hb=>?_⟩;obtain⟨o,e,d⟩:=T.obj _ _ st3 b hb;exact (I'.pin (b,o) (aQ _ (aQ _ (sH hb e)))).2.1
  cases ok with
  | false =>
   have q5':∃ m',m'<m1/\W (k+1) m' τ4 ys H5:=q5;obtain⟨m',hm,w5⟩:=q5';obtain⟨a1,a2⟩:=frs5 I5;exact wpAny_pure ⟨rfl,m',hm,k+1,τ4,H5,ys,its,n,I5.unpinned,a1,a2,rv,hz,w5⟩
  | true =>
   have q5':te τ4 H5 fun v H4=>∃ m',m'<m1/\W (k+1) m' τ4 (ys++[v]) H4:=q5;refine wpAny_bind (wpAny_bind (no (qI (he _ s5 τ4 H5 _ I5 q5') fun v s6 ⟨y,H6,I6,r6,m',hm,w6⟩=>?_)));obtain⟨a1,a2⟩:=frs5 I6;have I7:=I6.unpinned;obtain⟨eD,nD,neD,nfD,_⟩:=I7.pin (D,vI its n) (aQ _ aK);have hlen:=rv.length;have eD':s6.heap.get? D=some { cls:=.type "list",data:=.seq its.toArray n }:=eD;refine wpAny_bind (call_meets F.slot_list_append ⟨_,eD',rfl⟩ F.entry_list_append (F.args_list_append_2 _ _) (PySem.list_append D its.toArray n v (by rw [am];omega)) ⟨eD',?_⟩);have qD:=PySem.IsL.update eD' (·.push v);have I8:Inv Y [] τ4 H6 s6:=I7.pins_of fun p hp=>absurd hp aU;have I9:Inv Y [] τ4 H6 { s6 with heap:=s6.heap.update D (Obj.mapSeq (·.push v)) }:=I8.turned (t':=s6.toks) (fun b o hb e=>(Heap.get?_update_other s6.heap (Obj.mapSeq (·.push v)) (Ne.symm hb)).trans e) nD neD (.inr hDs) hDc fun p hp=>hDp p (by simpa using hp);have ep:its.toArray.push v=(its++[v]).toArray:=by simp
   rw [ep] at qD;obtain⟨n2,qD⟩:∃ n2,(s6.heap.update D (Obj.mapSeq (·.push v))).get? D=some (vI (its++[v]) n2):=⟨_,qD⟩;have I10:Inv Y [(D,vI (its++[v]) n2)] τ4 H6 { s6 with heap:=s6.heap.update D (Obj.mapSeq (·.push v)) }:=I9.pins_of fun p hp=>by
    have e:p=(D,vI (its++[v]) n2):=by simpa using hp
    subst e;exact⟨qD,nD,neD,nfD,fun v z=>by have z':Data.seq _ _=Data.cell v:=z;cases z'⟩
   refine wpAny_pure (wpAny_pure ⟨rfl,m',hm,k+1,τ4,H6,ys++[y],its++[v],_,I10,?_,a2,rv.append (.cons r6 .nil),?_,w6⟩)
   ·refine T.keep _ _ _ a1 fun b hb o e=>(Heap.get?_update_other s6.heap (Obj.mapSeq (·.push v)) ?_).trans e;have f5:=(stat (vI its n) H6 a2 b hb).2.2.2.2.2;exact f5 (D,vI its n) (aQ _ aK)
   ·rw [ai,bZ];omega
theorem vT{scope:Scope}{env:Env}(h:∀ y∈scope.names,y.2 = .free->∃ c,env.cells.lookup y.1=some c):closureFor scope env=pure (rH env.cells scope.names []):=by
 have q:=t8 (env:=env) (acc:=[]) h;unfold closureFor;show (forIn scope.names [] _ >>= fun r=>pure r)=_;refine Eq.trans (congrArg (· >>= fun r=>pure r) (Eq.trans ?_ q)) (by simp);refine congrArg (forIn scope.names []) ?_;funext x r;obtain⟨n,k⟩:=x;first
  | rfl
  | (dsimp only;split <;> simp)
def DD(J:It)(g:TG)(tt:TT)(te:TE)(σ:St)(Q:VK)(H1:Hp):Prop:=∃ W:Nat->Nat->St->List V->Hp->Prop,(∃ m,W 0 m σ [] H1) /\
 ∀ k m τ ys H,W k m τ ys H->(J.stop k H/\∀ D,H D=none->Q (.ref D) (qR H D (.lst ys)))\/(J.go k H/\ys.length<sizeLine/\∀ x H',J.yld k H x H'->g x τ H' fun τ2 H2=>tt τ2 H2 fun b H3 =>
   if b=true then te τ2 H3 fun v H4=>∃ m',m'<m/\W (k+1) m' τ2 (ys++[v]) H4 else ∃ m',m'<m/\W (k+1) m' τ2 ys H3)
def EY(wi:TI)(hide:List Nat)(g:TG)(tt:TT)(te:TE):TE:=fun σ H Q=>wi σ H fun J H1=>DD J g tt te (uT hide σ) Q H1
theorem Du{X:Cx}{pins:List (Addr×Obj)}{σ:St}{H:Hp}{s:Shared}{elt tg iter:Expr}{ifs:List Expr}{scope:Scope}{pos:Pos}{hide:List Nat}{g:TG}{te:TE}{tt:TT}{J:It}{fp:List Addr}{it:Addr}{tn:Nat->Heap->Prop}{RR:Value->Addr->Result->Shared->Prop}{Q:VK}{E:Value->Shared->Prop}
  (hc:X.calm=true) (S:CompS X.N X.env.scope scope hide)
  (hg:∀ s2 H2 fp pins C,PG (tL X scope s2 H2 fp pins C) tg g) (ht:∀ s2 H2 fp pins C,PTs (tL X scope s2 H2 fp pins C) ifs tt) (he:∀ s2 H2 fp pins C,PE (tL X scope s2 H2 fp pins C) elt te)
  (I:Inv X pins σ H s) (T:Turn X.prog X.w X.K tg J fp it tn) (st:tn 0 s.heap) (hf:∀ b∈fp,sU X pins H b)
  (h:∃ W:Nat->Nat->St->List V->Hp->Prop,(∃ m,W 0 m (uT hide σ) [] H) /\
   ∀ k m τ ys H,W k m τ ys H->(J.stop k H/\∀ D,H D=none->Q (.ref D) (qR H D (.lst ys)))\/(J.go k H/\ys.length<sizeLine/\∀ x H',J.yld k H x H'->g x τ H' fun τ2 H2=>tt τ2 H2 fun b H3 =>
    if b=true then te τ2 H3 fun v H4=>∃ m',m'<m/\W (k+1) m' τ2 (ys++[v]) H4 else ∃ m',m'<m/\W (k+1) m' τ2 ys H3))
  (hRR:∀ D C s' ys H',Inv X pins σ (qR H' D (.lst ys)) s'->sU X pins (qR H' D (.lst ys)) C->(∃ m,s'.heap.Ns C m)->Q (.ref D) (qR H' D (.lst ys))->RR (.ref D) C (.ok .next) s') :
  wpAny (model X.prog X.w) X.A (newList []) (fun acc s3=>wpAny (model X.prog X.w) X.A (newFunctionEnv scope X.env.globals (rH X.env.cells scope.names []) [] X.env.qual none .none (some X.env)) (fun cenv s4 =>
   codeAny (model X.prog X.w) X.A (.compStart (.ListComp elt [⟨tg,iter,ifs,0⟩] scope pos) 0 (.ref it) acc { cenv with scope:=relabel scope X.env }) (RR acc cenv.locals) s4) E s3) E s:=by
 obtain⟨W,⟨m0,w0⟩,wT⟩:=h;refine wpAny_newList (Em ?_) (by simp);dsimp only;generalize hH2:s.heap.push { cls:=.type "list",data:=.seq ([]:List Value).toArray }=H2;have hC:H2.objs.size=s.heap.objs.size+1:=by rw [← hH2,Heap.size_push]
 have k2:∀ b o,H2.get? b=some o->(pushCells (H2.push { cls:=.type "dict",data:=.dict #[] }) scope.names).get? b=some o:=fun b o e=>pushCells_keeps _ _ b o (Heap.get?_push_of_some _ e);have hcl:∀ p∈cellsFrom (H2.objs.size+1) scope.names (rH X.env.cells scope.names []),p∈rH X.env.cells scope.names []\/(pushCells (H2.push { cls:=.type "dict",data:=.dict #[] }) scope.names).IsCell p.2 none:=fun p hp=>by
  rw [← Heap.size_push H2 { cls:=.type "dict",data:=.dict #[] }] at hp;exact xx hp
 have hns₁:(pushCells (H2.push { cls:=.type "dict",data:=.dict #[] }) scope.names).Ns H2.objs.size fun _=>none:=(Heap.Ns.new H2 (.type "dict")).keeps (pushCells_keeps _ _);generalize pushCells (H2.push { cls:=.type "dict",data:=.dict #[] }) scope.names=h₁ at k2 hcl hns₁ ⊢;have k1:∀ b o,s.heap.get? b=some o->h₁.get? b=some o:=fun b o e=>k2 b o (hH2 ▸ Heap.get?_push_of_some _ e);have hDC:s.heap.objs.size≠H2.objs.size:=by rw [hC];exact aX (Nat.lt_succ_self _)
 have eD:h₁.get? s.heap.objs.size=some (vI [] 0):=k2 _ _ (hH2 ▸ Heap.get?_push_size _ rfl);have hfo:∀ b∈fp,∃ o,s.heap.get? b=some o:=fun b hb=>let ⟨o,e,_⟩:=T.obj _ _ st b hb;⟨o,e⟩;have hle:s.heap.objs.size<=H2.objs.size:=by rw [hC];exact Nat.le_succ _
 have I1:=KP (tk:=s.toks) S I hf hfo hle (aq _) hDC k1 hcl hns₁ eD (fun v z=>by have z':Data.seq _ _=Data.cell v:=z;cases z');have sub:∀ x c,(cellsFrom (H2.objs.size+1) scope.names (rH X.env.cells scope.names [])).lookup x=some c->X.env.cells.lookup x=some c\/H2.objs.size+1<=c:=fun x c e=>(vR (fun y hy e=>I.ok.has y.1 (S.free y hy e)) (qY e)).imp (·.1) (·.1);have st1:tn 0 h₁:=T.keep _ _ _ st fun b _ o e=>k1 b o e;have lp:codeAny (model X.prog X.w) X.A (.compLoop (.ListComp elt [⟨tg,iter,ifs,0⟩] scope pos) 0 (.ref it) (.ref s.heap.objs.size) (compEnvC scope (cellsFrom (H2.objs.size+1) scope.names (rH X.env.cells scope.names [])) H2.objs.size X.env)) (RR (.ref s.heap.objs.size) H2.objs.size)
   { s with heap:=h₁ }:=by
  refine Jw (Y:=tL X scope s H fp pins H2.objs.size) (Z:=fun ys H=>∀ D,H D=none->Q (.ref D) (qR H D (.lst ys))) T hc (hg _ _ _ _ _) (ht _ _ _ _ _) (he _ _ _ _ _) (fun _ _ z=>z) (fun ob H' hn b hb=>?_) (aq _) (fun x c e z=>?_) (fun p hp z=>?_) wT (fun τ H' s' ys its n J rv hz q=>?_) I1 st1 (fun b hb=>(hf b hb).1) w0
  ·obtain⟨f0,f1,f2,f3,f4,f5⟩:=hf b hb;obtain⟨o,e⟩:=hfo b hb;have lb:=Heap.lt_size e;refine⟨hn b hb,aX (az lb hle),fun z=>?_,.inl hb,fun x c e=>(sub x c e).elim (f4 x c) fun z=>cT (az lb (aF hle (cw z))),fun p hp=>?_⟩
   ·rcases ak.mp (I.stkSub b z) with q|q
    ·exact f1 q
    ·exact f2 q
   ·rcases aM.mp hp with z|z
    ·exact f5 p z
    ·have e:p=(s.heap.objs.size,ob):=by simpa using z
     subst e;exact cT lb
  ·rcases sub x c e with w|w
   ·obtain⟨v,o,ho,_⟩:=I.cell x c w;exact absurd (Heap.lt_size ho) (by rw [z];exact bD _)
   ·rw [z,hC] at w;exact absurd (cw w) (Nat.not_succ_le_self _)
  ·exact absurd (Heap.lt_size (I.pin p hp).1) (by rw [z];exact bD _)
  ·obtain⟨_,nD,_⟩:=J.pin _ (aQ _ aK);have nC:H' H2.objs.size=none:=J.free;refine hRR _ _ s' ys H' (KO I hf (aq _) J aK rv hz) (I.fpOk hle ?_) ?_ (q _ nD)
   ·rw [qu (Ne.symm hDC)];exact nC
   ·obtain⟨m,hm,_⟩:=J.loc;exact⟨m,hm⟩
 exact codeAny_compStart_list lp (T.self X.A 0 _ _ _ st1 lp)
section
variable{X:Cx}{elt tg iter:Expr}{ifs:List Expr}{scope:Scope}{pos:Pos}{hide:List Nat}{wi:TI}{g:TG}{te:TE}{tt:TT}
theorem Ao(hc:X.calm=true)(S:CompS X.N X.env.scope scope hide)(hi:PI X tg iter wi)
  (hg:∀ s2 H2 fp pins C,PG (tL X scope s2 H2 fp pins C) tg g) (ht:∀ s2 H2 fp pins C,PTs (tL X scope s2 H2 fp pins C) ifs tt) (he:∀ s2 H2 fp pins C,PE (tL X scope s2 H2 fp pins C) elt te)
  (hs:∀ x,foldedSetIterable iter X.env x=pure x:=by intro _;rfl):PE X (.ListComp elt [⟨tg,iter,ifs,0⟩] scope pos) (EY wi hide g tt te):=by
 intro pins s σ H Q I h;rw [eval_ListComp];refine wpAny_comprehension_free (use:=none) rfl hs (vT fun y hy e=>I.ok.has y.1 (S.free y hy e)) S.kind S.loc (qI (hi pins s σ H _ I h) fun v s1 h1=>qI h1 fun itv s2 h2=>?_);obtain⟨it,fp,tn,J,H2,e,I2,T,st2,f2,q2⟩:=h2;subst e;refine Du (RR:=fun acc C=>compPost (model X.prog X.w) X.A X.xe none (EP X pins σ Q) acc C) hc S hg ht he I2 T st2 f2 q2 fun D C s' ys H' I' fC hN q=>?_;obtain⟨m,hm⟩:=hN;obtain⟨f0,f1,f2,f3,f4,f5⟩:=fC;refine⟨m,hm,fun h' sb=>⟨.ref D,_,?_,rfl,q⟩⟩;exact I'.turned (t':=s'.toks) (fun b o hb e=>(sb.2 b hb).trans e) f0 f1 f3 f4 f5
theorem DT{i:Nat}{y:Str}{py spos:Pos}(hc:X.calm=true)(hN:X.N.Nodup)(hy:X.N[i]? = some y)(hl:By X.env.scope y)(S:CompS X.N X.env.scope scope hide)(hi:PI X tg iter wi)
  (hg:∀ s2 H2 fp pins C,PG (tL X scope s2 H2 fp pins C) tg g) (ht:∀ s2 H2 fp pins C,PTs (tL X scope s2 H2 fp pins C) ifs tt) (he:∀ s2 H2 fp pins C,PE (tL X scope s2 H2 fp pins C) elt te)
  (hs:∀ x,foldedSetIterable iter X.env x=pure x:=by intro _;rfl)
  (hsw:swapsWith (.ListComp elt [⟨tg,iter,ifs,0⟩] scope pos) (some (.Name y py)) spos.line X.env=pure true:=by rfl)
  (hf:X.fn y=true\/X.env.scope.names.lookup y=some .local:=by first|exact .inl rfl|exact .inr rfl|assumption) :
  PS X (.Assign [.Name y py] (.ListComp elt [⟨tg,iter,ifs,0⟩] scope pos) spos) (fun D σ H=>EY wi hide g tt te σ H fun v H1=>D.nx (σ.set i (some v)) H1):=by
 intro pins s σ H D I h;rw [exec_Assign_Name_used _ _ _ _ hsw];refine wpAny_bind (wpAny_standAt (wpAny_bind ?_));show wpAny _ X.A (do let _ ← comprehension (.ListComp elt [⟨tg,iter,ifs,0⟩] scope pos) scope X.env _ (newList []) false (eval iter X.env) (some (assign (.Name y py) X.env))) _ _ s;refine wpAny_bind (qI (wpAny_comprehension_free (use:=some (assign (.Name y py) X.env)) (Q:=fun _ s'=>SP X pins D .next s') rfl hs (vT fun y hy e=>I.ok.has y.1 (S.free y hy e)) S.kind S.loc
  (qI (hi pins s σ H _ I h) fun v s1 h1=>qI h1 fun itv s2 h2=>?_)) (fun _ s' hq=>wpAny_pure (wpAny_pure hq)))
 obtain⟨it,fp,tn,J,H2,e,I2,T,st2,f2,q2⟩:=h2;subst e;refine Du (Q:=fun v H1=>D.nx (σ.set i (some v)) H1) (RR:=fun acc C=>compPost (model X.prog X.w) X.A X.xe (some (assign (.Name y py) X.env)) (fun _ s'=>SP X pins D .next s') acc C) hc S hg ht he I2 T st2 f2 q2 fun A C s' ys H' I' fC hNs q=>?_;obtain⟨m,hm⟩:=hNs;obtain⟨f0,f1,f2,f3,f4,f5⟩:=fC;show wpAny _ X.A (assign (.Name y py) X.env (.ref A)) _ _ s';refine wpAny_assign_Name (wf I' hN hy hl (v:=.ref A) rfl (fun s'' I'' hch=>?_) hf);obtain⟨a,sb,ha⟩:=hch;have nC:C≠a:=by
  rcases ha with z|z
  ·rw [z];exact f1
  ·exact Ne.symm (f4 _ _ z)
 refine⟨m,hm.sameBut sb nC,fun h3 sb3=>⟨_,_,?_,q⟩⟩;exact I''.turned (t':=s''.toks) (fun b o hb e=>(sb3.2 b hb).trans e) f0 f1 f3 f4 f5
end
end L2
namespace L2
open PySem PySem.Spec PyProof.Rows
def Lt2(n:Nat)(i:Int):Prop:=i.natAbs<2^n
theorem Lt2.mono{n m:Nat}{i:Int}(h:Lt2 n i)(l:n<=m):Lt2 m i:=az h (cO (by decide) l)
theorem Lt2.mul{n m:Nat}{i j:Int}(h:Lt2 n i)(l:Lt2 m j):Lt2 (n+m) (i*j):=by
 unfold Lt2;rw [br,eZ];exact Nat.mul_lt_mul'' h l
theorem Lt2.add{n:Nat}{i j:Int}(h:Lt2 n i)(l:Lt2 n j):Lt2 (n+1) (i+j):=by
 unfold Lt2 at *;rw [Nat.pow_succ];omega
theorem Lt2.sub{n:Nat}{i j:Int}(h:Lt2 n i)(l:Lt2 n j):Lt2 (n+1) (i-j):=by
 unfold Lt2 at *;rw [Nat.pow_succ];omega
theorem Lt2.neg{n:Nat}{i:Int}(h:Lt2 n i):Lt2 n (-i):=by
 unfold Lt2 at *;rw [Int.natAbs_neg];exact h
theorem Lt2.of{n:Nat}{i:Int}(b:Nat)(h:i.natAbs<=b)(l:b<2^n):Lt2 n i:=cV h l
theorem Lt2.le{n:Nat}{i j:Int}(h:Lt2 n i)(l:j.natAbs<=i.natAbs):Lt2 n j:=cV l h
def CMulB(i j:Int):Prop:=∃ n m,Lt2 n i/\Lt2 m j/\n+m<=100000000
theorem CMulB.ok{i j:Int}(h:CMulB i j):IntMulOk i j:=by
 obtain⟨n,m,h1,h2,h3⟩:=h;have a:=PyProof.Rows.intBits_le h1;have b:=PyProof.Rows.intBits_le h2;unfold IntMulOk;intro z;simp only [bh,decide_eq_true_eq] at z;have z2:((Builtin.Int.intBits i:Int)+(Builtin.Int.intBits j:Int)) > ((2^27:Nat):Int):=of_decide_eq_true z.2;have e:(2^27:Nat)=134217728:=by decide
 rw [e] at z2;omega
def sB(i j:Int):Prop:=j≠0/\∃ n,Lt2 n j/\n<=100000000
theorem Inv.pyl{X:Cx}{pins:List (Addr×Obj)}{σ:St}{H:Hp}{s:Shared}{k:Nat}(I:Inv X pins σ H s)(hr:Room k X.A):PySem.PylongRoom (model X.prog X.w) X.A s:=by
 obtain⟨e,l,h1,h2,h3,h4,h5⟩:=I.ok.rn;exact PySem.PylongRoom.of I.nolimit (by have:=hr.dp;show X.A.depth+100<_;omega) (PySem.SeerAt.of (I.ok.sr.1.keeps I.bk) I.ok.sr.2 (by rw [I.ok.frames,h1]) h2 h3 h4 h5)
theorem K4{X:Cx}{f:Value->Value->Sem Value}{C:Int->Int->Prop}{g:Int->Int->Int}{k:Nat}(hr:Room k X.A)
  (rule:∀(i j:Int) (t u:Tok) (s:Shared) (Q:Value->Shared->Prop) (E:Value->Shared->Prop),PySem.PylongRoom (model X.prog X.w) X.A s->C i j->Q (.int (g i j) s.toks) { s with toks:=s.toks+1 }->wpAny (model X.prog X.w) X.A (f (.int i t) (.int j u)) Q E s) :
  OpR X f (rI C fun i j=>.int (g i j)):=by
 intro pins s σ H x y v u Q I rx ry h;obtain⟨i,j,rfl,rfl,hc,q⟩:=h;obtain⟨t,rfl⟩:=rx;obtain⟨t',rfl⟩:=ry;exact rule i j t t' s _ _ (Inv.pyl I hr) hc ⟨.int (g i j),H,I.tok _,⟨_,rfl⟩,q⟩
section
variable{X:Cx}
theorem Eb:OpR X (binaryOp .Mult) (rI CMulB fun i j=>.int (i*j)):=Fe fun _ _ _ _ _ _ _ hc q=>mul_int q hc.ok
theorem xW{k:Nat}(hr:Room k X.A):OpR X (binaryOp .FloorDiv) (rI sB fun i j=>.int (i.fdiv j)):=K4 hr fun _ _ _ _ _ _ _ hp hc q=>floordiv_int hc.1 q (.inr hp)
theorem CS:OpR X (inplaceOp .Mult) (rI CMulB fun i j=>.int (i*j)):=Fe fun _ _ _ _ _ _ _ hc q=>imul_int q hc.ok
theorem Bm{k:Nat}(hr:Room k X.A):OpR X (inplaceOp .FloorDiv) (rI sB fun i j=>.int (i.fdiv j)):=K4 hr fun _ _ _ _ _ _ _ hp hc q=>ifloordiv_int hc.1 q (.inr hp)
end
inductive DV where
 | int (i:Int)|str (x:Str)|non|bl (b:Bool)|tup (xs:List DV)|lst (xs:List DV)
mutual
def Rep(K:Frag)(H:Hp):DV->V->Prop
 | .int i,v=>v = .int i
 | .str x,v=>v = .str x
 | .non,v=>v = .non
 | .bl b,v=>v = .bl b
 | .tup ds,v=>∃ a vs,v = .ref a/\SqT K H a vs/\Reps K H ds vs
 | .lst ds,v=>∃ a vs,v = .ref a/\SqL K H a vs/\Reps K H ds vs
def Reps(K:Frag)(H:Hp):List DV->List V->Prop
 | [],vs=>vs=[]
 | d::ds,vs=>∃ v r,vs=v::r/\Rep K H d v/\Reps K H ds r
end
mutual
def DV.pl:DV->Bool
 | .int _=>true | .str _=>true | .non=>true | .bl _=>false
 | .tup ds=>DV.pls ds
 | .lst ds=>DV.pls ds
def DV.pls:List DV->Bool
 | []=>true
 | d::ds=>DV.pl d && DV.pls ds
end
mutual
def DV.dp:DV->Nat
 | .tup ds=>DV.dps ds+1
 | .lst ds=>DV.dps ds+1
 | _=>0
def DV.dps:List DV->Nat
 | []=>0
 | d::ds=>max (DV.dp d) (DV.dps ds)
end
theorem SqT.same{K:Frag}{H H':Hp}{a:Addr}{xs:List V}(e:Same H H')(h:SqT K H a xs):SqT K H' a xs:=by
 rcases h with (h|⟨o,h⟩)|h
 ·exact .inl (.inl (e _ _ h))
 ·exact .inl (.inr ⟨o,e _ _ h⟩)
 ·exact .inr h
theorem Reps.length{K:Frag}{H:Hp}:∀{ds:List DV} {vs:List V},Reps K H ds vs->ds.length=vs.length
 | [],vs,h=>by
  have h':vs=[]:=by unfold Reps at h;exact h
  rw [h'];rfl
 | d::ds,vs,h=>by
  unfold Reps at h;obtain⟨v,r,e,_,h'⟩:=h;rw [e,aY,aY,Reps.length h']
mutual
theorem Rep.same{K:Frag}{H H':Hp}(e:Same H H'):∀{d:DV} {v:V},Rep K H d v->Rep K H' d v
 | .int i,v,h=>by unfold Rep at *;exact h
 | .str i,v,h=>by unfold Rep at *;exact h
 | .non,v,h=>by unfold Rep at *;exact h
 | .bl i,v,h=>by unfold Rep at *;exact h
 | .tup ds,v,h=>by
  unfold Rep at *;obtain⟨a,vs,h1,h2,h3⟩:=h;exact⟨a,vs,h1,h2.same e,Reps.same e h3⟩
 | .lst ds,v,h=>by
  unfold Rep at *;obtain⟨a,vs,h1,h2,h3⟩:=h;exact⟨a,vs,h1,e.seq h2,Reps.same e h3⟩
theorem Reps.same{K:Frag}{H H':Hp}(e:Same H H'):∀{ds:List DV} {vs:List V},Reps K H ds vs->Reps K H' ds vs
 | [],v,h=>by unfold Reps at *;exact h
 | d::ds,vs,h=>by
  unfold Reps at *;obtain⟨v,r,h1,h2,h3⟩:=h;exact⟨v,r,h1,Rep.same e h2,Reps.same e h3⟩
end
section
variable{X:Cx}{pins:List (Addr×Obj)}{σ:St}{H:Hp}{s:Shared}
mutual
theorem Rep.inj(I:Inv X pins σ H s):∀{d d':DV} {v:V},Rep X.K H d v->Rep X.K H d' v->d=d'
 | .int i,d',v,h,h'=>by
  unfold Rep at h;subst h;cases d' <;> unfold Rep at h' <;> first|(cases h';done)|(cases h';rfl)|(obtain⟨_,_,e,_⟩:=h';cases e)
 | .str i,d',v,h,h'=>by
  unfold Rep at h;subst h;cases d' <;> unfold Rep at h' <;> first|(cases h';done)|(cases h';rfl)|(obtain⟨_,_,e,_⟩:=h';cases e)
 | .non,d',v,h,h'=>by
  unfold Rep at h;subst h;cases d' <;> unfold Rep at h' <;> first|(cases h';done)|(cases h';rfl)|rfl|(obtain⟨_,_,e,_⟩:=h';cases e)
 | .bl i,d',v,h,h'=>by
  unfold Rep at h;subst h;cases d' <;> unfold Rep at h' <;> first|(cases h';done)|(cases h';rfl)|(obtain⟨_,_,e,_⟩:=h';cases e)
 | .tup ds,d',v,h,h'=>by
  unfold Rep at h;obtain⟨a,vs,rfl,h2,h3⟩:=h;cases d' with
  | tup ds' =>
   unfold Rep at h';obtain⟨a',vs',e,h2',h3'⟩:=h';cases e;have:=I.tuple_inj h2 h2';subst this;rw [Reps.inj I h3 h3']
  | lst ds' =>
   unfold Rep at h';obtain⟨a',vs',e,h2',h3'⟩:=h';cases e;obtain⟨_,_,p,_⟩:=I.tuple h2;obtain⟨_,_,p',_⟩:=I.list h2';exact absurd rfl (SeqAt.ne_of_list_tuple p'.isList p)
  | _=>unfold Rep at h';cases h'
 | .lst ds,d',v,h,h'=>by
  unfold Rep at h;obtain⟨a,vs,rfl,h2,h3⟩:=h;cases d' with
  | lst ds' =>
   unfold Rep at h';obtain⟨a',vs',e,h2',h3'⟩:=h';cases e;have:=I.list_inj h2 h2';subst this;rw [Reps.inj I h3 h3']
  | tup ds' =>
   unfold Rep at h';obtain⟨a',vs',e,h2',h3'⟩:=h';cases e;obtain⟨_,_,p,_⟩:=I.tuple h2';obtain⟨_,_,p',_⟩:=I.list h2;exact absurd rfl (SeqAt.ne_of_list_tuple p'.isList p)
  | _=>unfold Rep at h';cases h'
theorem Reps.inj(I:Inv X pins σ H s):∀{ds ds':List DV} {vs:List V},Reps X.K H ds vs->Reps X.K H ds' vs->ds=ds'
 | [],ds',vs,h,h'=>by
  unfold Reps at h;subst h;cases ds' with
  | nil=>rfl
  | cons d r=>unfold Reps at h';obtain⟨_,_,e,_⟩:=h';cases e
 | d::ds,ds',vs,h,h'=>by
  unfold Reps at h;obtain⟨v,r,e,h1,h2⟩:=h;cases ds' with
  | nil=>unfold Reps at h';rw [h'] at e;cases e
  | cons d' r' =>
   unfold Reps at h';obtain⟨v',r2,e',h1',h2'⟩:=h';rw [e] at e';cases e';rw [Rep.inj I h1 h1',Reps.inj I h2 h2']
end
end
theorem all_cons{e:Nat->Bool}{n:Nat}:(List.range (n+1)).all e=(e 0 && (List.range n).all fun j=>e (j+1)):=by
 rw [List.range_succ_eq_map,dc,eO];rfl
theorem xl{e:Nat->Bool}{n m:Nat}(h:n=m):((List.range (min n m)).all e && n == m)=(List.range n).all e:=by
 subst h;rw [Nat.min_self];simp
section
variable{X:Cx}{pins:List (Addr×Obj)}{σ:St}{H:Hp}{s:Shared}
mutual
theorem K9(I:Inv X pins σ H s):∀(d d':DV) (A:Around) {x y:V} {u v:Value},Rep X.K H d x->Rep X.K H d' y->RelV x u->RelV y v->d.pl=true->d'.pl=true->A.units+d.dp+1<cLine ->
  ∃ b,SeqAt.EqAt A s u v b/\(b=true↔d=d')
 | .bl _,_,_,_,_,_,_,_,_,_,_,p,_,_=>by unfold DV.pl at p;cases p
 | _,.bl _,_,_,_,_,_,_,_,_,_,_,p,_=>by unfold DV.pl at p;cases p
 | .int i,d',A,x,y,u,v,h,h',rx,ry,_,_,hu=>by
  have hu:A.units<cLine:=by omega
  unfold Rep at h;subst h;obtain⟨t,rfl⟩:=rx;cases d' with
  | bl b=>contradiction
  | int j =>
   unfold Rep at h';subst h';obtain⟨t',rfl⟩:=ry;exact⟨_,SeqAt.EqAt.int_int _ _ _ _,by rw [beq_iff_eq];exact⟨fun e=>by rw [e],fun e=>by cases e;rfl⟩⟩
  | str z =>
   unfold Rep at h';subst h';obtain⟨t',rfl⟩:=ry;exact⟨_,SeqAt.EqAt.int_str _ _ _ _,by simp⟩
  | non =>
   unfold Rep at h';subst h';cases ry;exact⟨_,SeqAt.EqAt.int_none _ _,by simp⟩
  | tup ds' =>
   unfold Rep at h';obtain⟨a,vs,rfl,h2,_⟩:=h';cases ry;obtain⟨_,_,p,_⟩:=I.tuple h2;exact⟨_,SeqAt.EqAt.int_tuple _ _ p hu,by simp⟩
  | lst ds' =>
   unfold Rep at h';obtain⟨a,vs,rfl,h2,_⟩:=h';cases ry;obtain⟨_,_,p,_⟩:=I.list h2;exact⟨_,SeqAt.EqAt.int_list _ _ p.isList hu,by simp⟩
 | .str i,d',A,x,y,u,v,h,h',rx,ry,_,_,hu=>by
  have hu:A.units<cLine:=by omega
  unfold Rep at h;subst h;obtain⟨t,rfl⟩:=rx;cases d' with
  | bl b=>contradiction
  | int j =>
   unfold Rep at h';subst h';obtain⟨t',rfl⟩:=ry;exact⟨_,SeqAt.EqAt.str_int _ _ _ _,by simp⟩
  | str z =>
   unfold Rep at h';subst h';obtain⟨t',rfl⟩:=ry;exact⟨_,SeqAt.EqAt.str_str _ _ _ _,by rw [beq_iff_eq];exact⟨fun e=>by rw [e],fun e=>by cases e;rfl⟩⟩
  | non =>
   unfold Rep at h';subst h';cases ry;exact⟨_,SeqAt.EqAt.str_none _ _,by simp⟩
  | tup ds' =>
   unfold Rep at h';obtain⟨a,vs,rfl,h2,_⟩:=h';cases ry;obtain⟨_,_,p,_⟩:=I.tuple h2;exact⟨_,SeqAt.EqAt.str_tuple _ _ p hu,by simp⟩
  | lst ds' =>
   unfold Rep at h';obtain⟨a,vs,rfl,h2,_⟩:=h';cases ry;obtain⟨_,_,p,_⟩:=I.list h2;exact⟨_,SeqAt.EqAt.str_list _ _ p.isList hu,by simp⟩
 | .non,d',A,x,y,u,v,h,h',rx,ry,_,_,hu=>by
  have hu:A.units<cLine:=by omega
  unfold Rep at h;subst h;cases rx;cases d' with
  | bl b=>contradiction
  | int j =>
   unfold Rep at h';subst h';obtain⟨t',rfl⟩:=ry;exact⟨_,SeqAt.EqAt.none_int _ _,by simp⟩
  | str z =>
   unfold Rep at h';subst h';obtain⟨t',rfl⟩:=ry;exact⟨_,SeqAt.EqAt.none_str _ _,by simp⟩
  | non =>
   unfold Rep at h';subst h';cases ry;exact⟨_,SeqAt.EqAt.same _,by simp⟩
  | tup ds' =>
   unfold Rep at h';obtain⟨a,vs,rfl,h2,_⟩:=h';cases ry;obtain⟨_,_,p,_⟩:=I.tuple h2;exact⟨_,SeqAt.EqAt.none_tuple p hu,by simp⟩
  | lst ds' =>
   unfold Rep at h';obtain⟨a,vs,rfl,h2,_⟩:=h';cases ry;obtain⟨_,_,p,_⟩:=I.list h2;exact⟨_,SeqAt.EqAt.none_list p.isList hu,by simp⟩
 | .tup ds,d',A,x,y,u,v,h,h',rx,ry,pp,pp',hu=>by
  have hu0:A.units<cLine:=by omega
  have hd:=h;unfold Rep at h;obtain⟨a,vs,rfl,h2,h3⟩:=h;cases rx;obtain⟨its,rv,p,_⟩:=I.tuple h2;cases d' with
  | bl b=>contradiction
  | int j =>
   unfold Rep at h';subst h';obtain⟨t',rfl⟩:=ry;exact⟨_,SeqAt.EqAt.tuple_int _ _ p hu0,by simp⟩
  | str z =>
   unfold Rep at h';subst h';obtain⟨t',rfl⟩:=ry;exact⟨_,SeqAt.EqAt.tuple_str _ _ p hu0,by simp⟩
  | non =>
   unfold Rep at h';subst h';cases ry;exact⟨_,SeqAt.EqAt.tuple_none p hu0,by simp⟩
  | lst ds' =>
   unfold Rep at h';obtain⟨a',vs',rfl,h2',_⟩:=h';cases ry;obtain⟨_,_,p',_⟩:=I.list h2';exact⟨_,SeqAt.EqAt.tuple_list p p'.isList hu0,by simp⟩
  | tup ds' =>
   have hd':=h';unfold Rep at h';obtain⟨a',vs',rfl,h2',h3'⟩:=h';cases ry;obtain⟨its',rv',p',_⟩:=I.tuple h2';by_cases e:a=a'
   ·subst e;exact⟨true,SeqAt.EqAt.same _,by simp [Rep.inj I hd hd']⟩
   ·unfold DV.pl at pp pp';unfold DV.dp at hu;obtain⟨f,hf,hi⟩:=zj I ds ds' A.in1 h3 h3' rv rv' pp pp' (by show A.units+1+_+1<_;omega);refine⟨_,SeqAt.EqAt.of_refs e (SeqAt.RcAt.tuples p p' hu0 (e:=f) fun j h1 h2=>?_),?_⟩
    ·have q:=hf j (by simpa using h1) (by simpa using h2);simpa using q
    ·simp only [am,DV.tup.injEq];exact hi
 | .lst ds,d',A,x,y,u,v,h,h',rx,ry,pp,pp',hu=>by
  have hu0:A.units<cLine:=by omega
  have hd:=h;unfold Rep at h;obtain⟨a,vs,rfl,h2,h3⟩:=h;cases rx;obtain⟨its,rv,p,_⟩:=I.list h2;cases d' with
  | bl b=>contradiction
  | int j =>
   unfold Rep at h';subst h';obtain⟨t',rfl⟩:=ry;exact⟨_,SeqAt.EqAt.list_int _ _ p.isList hu0,by simp⟩
  | str z =>
   unfold Rep at h';subst h';obtain⟨t',rfl⟩:=ry;exact⟨_,SeqAt.EqAt.list_str _ _ p.isList hu0,by simp⟩
  | non =>
   unfold Rep at h';subst h';cases ry;exact⟨_,SeqAt.EqAt.list_none p.isList hu0,by simp⟩
  | tup ds' =>
   unfold Rep at h';obtain⟨a',vs',rfl,h2',_⟩:=h';cases ry;obtain⟨_,_,p',_⟩:=I.tuple h2';exact⟨_,SeqAt.EqAt.list_tuple p.isList p' hu0,by simp⟩
  | lst ds' =>
   have hd':=h';unfold Rep at h';obtain⟨a',vs',rfl,h2',h3'⟩:=h';cases ry;obtain⟨its',rv',p',_⟩:=I.list h2';by_cases e:a=a'
   ·subst e;exact⟨true,SeqAt.EqAt.same _,by simp [Rep.inj I hd hd']⟩
   ·unfold DV.pl at pp pp';unfold DV.dp at hu;obtain⟨f,hf,hi⟩:=zj I ds ds' A.in1 h3 h3' rv rv' pp pp' (by show A.units+1+_+1<_;omega);by_cases hz:its.length=its'.length
    ·refine⟨_,SeqAt.EqAt.of_refs e (SeqAt.RcAt.lists p.isList p'.isList (by simpa using hz) hu0 (e:=f) fun j h1 h2=>?_),?_⟩
     ·have q:=hf j (by simpa using h1) (by simpa using h2);simpa using q
     ·simp only [am,DV.lst.injEq];rw [xl hz] at hi;exact hi
    ·refine⟨_,SeqAt.EqAt.of_refs e (SeqAt.RcAt.lists_lengths p.isList p'.isList (by simpa using hz) hu0),?_⟩;simp only [cI,false_iff,DV.lst.injEq];intro z;have l1:=h3.length;have l2:=h3'.length;rw [z] at l1;exact hz (by rw [← rv.length,← rv'.length,← l1,← l2])
theorem zj(I:Inv X pins σ H s):∀(ds ds':List DV) (A:Around) {xs ys:List V} {us vs:List Value},Reps X.K H ds xs->Reps X.K H ds' ys->Vals xs us->Vals ys vs->DV.pls ds=true->DV.pls ds'=true->A.units+DV.dps ds+1<cLine ->
  ∃ e:Nat->Bool,(∀ j (h1:j<us.length) (h2:j<vs.length),SeqAt.EqAt A s us[j] vs[j] (e j))/\((((List.range (min us.length vs.length)).all e && us.length == vs.length)=true)↔ds=ds')
 | [],ds',A,xs,ys,us,vs,h,h',rx,ry,_,_,_=>by
  unfold Reps at h;subst h;cases rx;refine⟨fun _=>true,fun j h1 _=>absurd h1 (by simp),?_⟩;cases ds' with
  | nil=>unfold Reps at h';subst h';cases ry;simp
  | cons d r=>unfold Reps at h';obtain⟨_,_,rfl,_⟩:=h';cases ry;simp
 | d::ds,ds',A,xs,ys,us,vs,h,h',rx,ry,pp,pp',hu=>by
  unfold Reps at h;obtain⟨x,r,rfl,h1,h2⟩:=h;cases rx with
  | cons rx rxs =>
   cases ds' with
   | nil =>
    unfold Reps at h';subst h';cases ry;exact⟨fun _=>true,fun j _ h2=>absurd h2 (by simp),by simp⟩
   | cons d' ds' =>
    unfold Reps at h';obtain⟨y,r',rfl,h1',h2'⟩:=h';cases ry with
    | cons ry rys =>
     unfold DV.pls at pp pp';rw [bh] at pp pp';unfold DV.dps at hu;obtain⟨b,hb,ib⟩:=K9 I d d' A h1 h1' rx ry pp.1 pp'.1 (by omega);obtain⟨e,he,ie⟩:=zj I ds ds' A h2 h2' rxs rys pp.2 pp'.2 (by omega);refine⟨fun j=>match j with|0=>b|j+1=>e j,fun j=>?_,?_⟩
     ·cases j with
      | zero=>exact fun _ _=>hb
      | succ j=>exact fun q1 q2=>he j (by simpa using q1) (by simpa using q2)
     ·rw [aY,aY,Nat.succ_min_succ];have q:∀ n,(List.range (n+1)).all (fun j=>match j with|0=>b|j+1=>e j)=(b && (List.range n).all e):=fun n=>all_cons;rw [q];have q2:∀ n m:Nat,(n+1 == m+1)=(n == m):=fun n m=>by
       rw [bU];simp
      rw [q2,Bool.and_assoc,bh,ib,ie,List.cons.injEq]
end
def Ie(K:Frag)(A:Around)(neg:Bool):R2:=fun x y H Q=>∃ ds ds',Rep K H (.tup ds) x/\Rep K H (.tup ds') y/\DV.pls ds=true/\DV.pls ds'=true/\A.units+DV.dps ds+2<cLine /\
 ∀ b,(b=true↔ds=ds')->Q (.bl (if neg then !b else b)) H
theorem Gz:OpR X (compareOp .Eq) (Ie X.K X.A false):=by
 intro pins s σ H x y u v Q I rx ry h;obtain⟨ds,ds',h1,h2,p1,p2,hu,q⟩:=h;unfold Rep at h1 h2;obtain⟨a,vs,rfl,t1,r1⟩:=h1;obtain⟨a',vs',rfl,t2,r2⟩:=h2;cases rx;cases ry;obtain⟨its,rv,p,_⟩:=I.tuple t1;obtain⟨its',rv',p',_⟩:=I.tuple t2;obtain⟨f,hf,hi⟩:=zj I ds ds' X.A.in1 r1 r2 rv rv' p1 p2 (by show X.A.units+1+_+1<_;omega);refine SeqAt.RcAt.tuples p p' (by omega) (e:=f) (fun j h1 h2=>?_) _ _ _ _ ⟨.bl _,H,I,rfl,q _ ?_⟩
 ·have q:=hf j (by simpa using h1) (by simpa using h2);simpa using q
 ·simp only [am];exact hi
theorem Gs:OpR X (compareOp .NotEq) (Ie X.K X.A true):=by
 intro pins s σ H x y u v Q I rx ry h;obtain⟨ds,ds',h1,h2,p1,p2,hu,q⟩:=h;unfold Rep at h1 h2;obtain⟨a,vs,rfl,t1,r1⟩:=h1;obtain⟨a',vs',rfl,t2,r2⟩:=h2;cases rx;cases ry;obtain⟨its,rv,p,_⟩:=I.tuple t1;obtain⟨its',rv',p',_⟩:=I.tuple t2;obtain⟨f,hf,hi⟩:=zj I ds ds' X.A.in1 r1 r2 rv rv' p1 p2 (by show X.A.units+1+_+1<_;omega);refine SeqAt.RcNeAt.tuples p p' (by omega) (e:=f) (fun j h1 h2=>?_) _ _ _ _ ⟨.bl _,H,I,rfl,q _ ?_⟩
 ·have q:=hf j (by simpa using h1) (by simpa using h2);simpa using q
 ·simp only [am];exact hi
theorem A2(bs:List Bool):(List.range bs.length).all (fun j=>bs.getD j false)=bs.all id:=by
 induction bs with
 | nil=>rfl
 | cons b r ih =>
  rw [aY,all_cons,dc];exact congrArg (b && ·) ih
theorem Dn(hc:X.calm=true):CallR X (.builtin "all") (fun xs H Q=>∃ p,∃ bs:List Bool,xs=[.ref p]/\SqL X.K H p (bs.map V.bl)/\Q (.bl (bs.all id)) H):=by
 intro pins s σ H xs us Q I rv h;obtain⟨p,bs,rfl,hp,q⟩:=h;obtain⟨u,rfl,ru⟩:=rv.one;cases ru;obtain⟨its,rv',pl,_⟩:=I.list hp;refine call_all_walk (wpAny_pyIter_list pl.isList ?_);have e:∀ b o,s.heap.get? b=some o->(s.heap.push { cls:=.type "list_iterator",data:=.fields #[.ref p,.int 0 0] }).get? b=some o:=fun b o e=>Heap.get?_push_of_some _ e;have hne:p≠s.heap.objs.size:=by
  obtain⟨o,ho,_⟩:=pl.isList;exact aX (Heap.lt_size ho)
 have lb:bs.length=its.length:=by rw [← rv'.length,aa]
 refine⟨_,_,_,_,_,_,fun j=>bs.getD j false,rfl,Walks.list (A:=X.A.in1) (I.ok.hd hc) _ p hne its.toArray,⟨⟨_,Heap.get?_push_size _ rfl,rfl,rfl⟩,pl.isList.at fun o ho=>e _ o ho⟩,?_,fun h' tk hk=>?_⟩
 ·intro i v s Q E hv hq;have hv':its[i]? = some v:=by simpa using hv
  have hi:i<bs.length:=by
   rw [lb];exact (aj.mp hv').1
  obtain⟨u,hu,ru⟩:=rv'.get (i:=i) (x:=.bl bs[i]) (by simp [hi]);rw [hv'] at hu;cases hu;cases ru;have:bs.getD i false=bs[i]:=by simp [List.getD,hi]
  have hq:Q (bs.getD i false) s:=hq;rw [this] at hq;exact wpAny_truthy_bool hq
 ·refine⟨.bl (bs.all id),H,I.kept (t':=tk) fun b o ho=>hk b o ?_ (e b o ho),?_,q⟩
  ·simp only [aG];exact aX (Heap.lt_size ho)
  ·show Value.bool _=_;rw [← A2,lb];simp
end
end L2
namespace L2
open PySem PySem.Spec PyProof.Rows
structure Def (P:Program)(w:World)(K:Frag)(mg:Str->Option Value)(base:Heap)(x:Str)(k:Nat)(ps:List Str)(sp:Sp):Prop where
 ex:∃ f fd,FnOk P w K mg base yD k f fd ps sp/\mg x=some (.ref f)/\PySem.W.keepIn K (.ref f)=true/\Binds K fd ps []
theorem Def.of{P:Program}{w:World}{K:Frag}{mg:Str->Option Value}{base:Heap}{x q:Str}{k:Nat}{ps:List Str}{sp:Sp}{st:Stmt}{f:Addr}{fd:FuncData}(F:Fun K x q st f fd)(m:mg x=some (.ref f))(b:Binds K fd ps [])
  (ok:FnOk P w K mg base yD k f fd ps sp):Def P w K mg base x k ps sp:=⟨f,fd,ok,m,F.kp,b⟩
theorem yU{X:Cx}{e:Expr}{es:List Expr}{t:TA}{x:Str}{p pos:Pos}{j k:Nat}{ps:List Str}{sp:Sp}(g:Def X.prog X.w X.K X.mg X.base x j ps sp)(hr:Room k X.A)(ha:PA X (e::es) t)(hjk:j<=k:=by first|decide|omega|exact aq _)(hg:Gl X x:=by rfl)
  (hdb:(x == ("__debug__" : Str))=false:=by decide) (he:starEach (e::es) X.env=(false,eval e X.env)::starEach es X.env:=by rfl) (hpl:(backTo pos (starEach es X.env)).any (·.1)=false:=by rfl) :
  PE X (.Call (.Name x p) (e::es) [] pos) (Aa sp [] E0 t):=by
 obtain⟨f,fd,F,m,kp,b⟩:=g.ex;exact D4 F (hr.mono hjk) hg m kp b .nil Ir ha hdb he hpl
structure Bl (mg:Str->Option Value):Prop where
 len:mg "len" = none
 range:mg "range" = none
 all:mg "all" = none
 any:mg "any" = none
 abs:mg "abs" = none
 int:mg "int" = none
 bool:mg "bool" = none
 str:mg "str" = none
 list:mg "list" = none
 tuple:mg "tuple" = none
 dict:mg "dict" = none
 isinstance:mg "isinstance" = none
 enumerate:mg "enumerate" = none
 reversed:mg "reversed" = none
 sorted:mg "sorted" = none
 max:mg "max" = none
 min:mg "min" = none
 sum:mg "sum" = none
 zip:mg "zip" = none
structure Sm (f:Addr)(H H':Hp):Prop where
 app:∀ b o,b≠f->H b=some o->H' b=some o
 key:∀ l r,H f=some (.lst (.ref l::r))->∃ r',H' f=some (.lst (.ref l::r'))
instance {f:Addr}{H H':Hp}:CoeFun (Sm f H H') (fun _=>∀ b o,b≠f->H b=some o->H' b=some o):=⟨Sm.app⟩
theorem Sm.refl{f:Addr}(H:Hp):Sm f H H:=⟨fun _ _ _ h=>h,fun l r h=>⟨r,h⟩⟩
theorem Sm.trans{f:Addr}{H H1 H2:Hp}(a:Sm f H H1)(b:Sm f H1 H2):Sm f H H2:=⟨fun c o n h=>b.app c o n (a.app c o n h),fun l r h=>by
 obtain⟨r1,h1⟩:=a.key l r h;exact b.key l r1 h1⟩
theorem Same.sm{f:Addr}{H H':Hp}(h:Same H H'):Sm f H H':=⟨fun b o _ e=>h b o e,fun l r e=>⟨r,h _ _ e⟩⟩
theorem Sm.new{f p:Addr}{H:Hp}(h:H p=none)(o:HO):Sm f H (qR H p o):=⟨fun b u _ q=>by rw [qu (qB q h)];exact q,fun l r q=>⟨r,by rw [qu (qB q h)];exact q⟩⟩
theorem Same.new{p:Addr}{H:Hp}(h:H p=none)(o:HO):Same H (qR H p o):=fun b u q=>by rw [qu (qB q h)];exact q
theorem Sm.free{f:Addr}{H H':Hp}(e:Sm f H H'){l:Addr}(hl:l≠f)(h:H' l=none):H l=none:=by
 cases q:H l with
 | none=>rfl
 | some o =>
  rw [e.app l o hl q] at h;cases h
def Lh(Pv:Nat->St->List V->Hp->Prop)(n i:Nat)(τ:St)(ys:List V)(v:V)(H:Hp):Prop :=
 ∃ m',m'<n-i/\m'=n-(i+1)/\i+1<=n/\(ys++[v]).length=i+1/\Pv (i+1) τ (ys++[v]) H
theorem LC{Pv:Nat->St->List V->Hp->Prop}{n i:Nat}{τ:St}{ys:List V}{v:V}{H:Hp}(hi:i<n)(hl:ys.length=i)(p:Pv (i+1) τ (ys++[v]) H):Lh Pv n i τ ys v H :=
 ⟨n-(i+1),by omega,rfl,hi,by rw [ai,bZ,hl],p⟩
theorem zB{lo:Int}{n:Nat}{g:TG}{te:TE}{Q:VK}{σ:St}{H:Hp}(hn:n<=sizeLine)(Pv:Nat->St->List V->Hp->Prop)(h0:Pv 0 σ [] H)
  (hs:∀ i τ ys H,i<n->ys.length=i->Pv i τ ys H->g (.int (lo+i)) τ H fun τ2 H2=>te τ2 H2 fun v H3=>Lh Pv n i τ2 ys v H3)
  (hd:∀ τ ys H D,ys.length=n->Pv n τ ys H->H D=none->Q (.ref D) (qR H D (.lst ys))) :
  DD (HF lo n) g HJ te σ Q H:=by
 refine⟨fun i m τ ys H=>m=n-i/\i<=n/\ys.length=i/\Pv i τ ys H,⟨n,by simp,aI _,rfl,h0⟩,?_⟩;rintro i m τ ys H ⟨rfl,hi,hl,p⟩;by_cases hlt:i<n
 ·refine .inr ⟨hlt,by omega,fun x H' y=>?_⟩;obtain⟨e,y⟩:=y;subst e y;exact hs i τ ys _ hlt hl p
 ·have e:i=n:=by omega
  subst e;exact .inl ⟨aq _,fun D hD=>hd τ ys H D hl p hD⟩
end L2
namespace L2
open PySem
theorem uM:bootBuiltins "len" = some (.builtin "len"):=by decide +kernel
theorem Hj:bootBuiltins "abs" = some (.builtin "abs"):=by decide +kernel
theorem Dx:bootBuiltins "all" = some (.builtin "all"):=by decide +kernel
theorem qF:bootBuiltins "isinstance" = some (.builtin "isinstance"):=by decide +kernel
theorem Dw:bootBuiltins "int" = some (.type "int"):=by decide +kernel
theorem xF:bootBuiltins "bool" = some (.type "bool"):=by decide +kernel
theorem Hg:bootBuiltins "str" = some (.type "str"):=by decide +kernel
theorem sK:bootBuiltins "list" = some (.type "list"):=by decide +kernel
theorem tz:bootBuiltins "tuple" = some (.type "tuple"):=by decide +kernel
end L2
namespace L2
open PySem PySem.Spec PyProof.Rows
def J4(t u:TS):TS:=fun D σ H=>∃ R:St->Hp->Prop,t { D with nx:=R } σ H/\∀ σ H,R σ H->u D σ H
theorem ul{X:Cx}{st:Stmt}{more:List Stmt}{t u:TS}(h1:PS X st t)(h2:PSs X more u):PSs X (st::more) (J4 t u):=by
 intro pins s σ H D I h;obtain⟨R,a,b⟩:=h;refine wpAny_execs_cons (qI (h1 pins s σ H { D with nx:=R } I a) fun f s1 q=>?_);cases f with
 | next =>
  obtain⟨σ1,H1,I1,r1⟩:=q;exact h2 pins s1 σ1 H1 D I1 (b σ1 H1 r1)
 | brk=>exact q
 | cont=>exact q
 | ret v=>exact q
end L2
namespace L2
open PySem PySem.Spec PyProof.Rows
section
variable{X:Cx}
theorem yB(K:Frag)(hK:X.K=K:=by rfl):IxR X (F9 K):=hK ▸ ix_list
theorem Bg(K:Frag)(hK:X.K=K:=by rfl):CallR X (.builtin "len") (fun xs H Q=>∃ p ys,xs=[.ref p]/\(SqL K H p ys\/SqT K H p ys)/\Q (.int ys.length) H):=hK ▸ xB
theorem Jy(K:Frag)(hc:X.calm=true:=by rfl)(hK:X.K=K:=by rfl):CallR X (.builtin "all") (fun xs H Q=>∃ p,∃ bs:List Bool,xs=[.ref p]/\SqL K H p (bs.map V.bl)/\Q (.bl (bs.all id)) H):=hK ▸ Dn hc
theorem y9(K:Frag)(hK:X.K=K:=by rfl):CallR X (.type "list") (fun xs H Q=>∃ p ys,xs=[.ref p]/\(SqL K H p ys\/SqT K H p ys)/\∀ l,H l=none->Q (.ref l) (qR H l (.lst ys))):=hK ▸ xz
theorem DG(K:Frag)(hK:X.K=K:=by rfl):CallR X (.type "tuple") (fun xs H Q=>∃ p ys,xs=[.ref p]/\((SqL K H p ys/\∀ l,H l=none->Q (.ref l) (qR H l (.tup ys)))\/(SqT K H p ys/\Q (.ref p) H))):=hK ▸ wa
theorem Lz(K:Frag){a:Expr}{ta:TE}(ha:PE X a ta)(he:∀ whole,isTrue a X.env whole=(do let v ← whole;standAt a.pos;holding [v] (truthy v)))(hK:X.K=K:=by rfl) :
  PT X a (fun σ H Q=>ta σ H fun x H'=>∃ k,Hu K x H' k/\Q k H'):=hK ▸ xS ha he
def Ig(K:Frag)(neg:Bool):R2:=fun x y H Q=>∃ ds ds',Rep K H (.tup ds) x/\Rep K H (.tup ds') y/\DV.pls ds=true/\DV.pls ds'=true/\DV.dps ds<=60/\∀ b,(b=true↔ds=ds')->Q (.bl (if neg then !b else b)) H
theorem LJ(K:Frag){k:Nat}(hr:Room k X.A)(hK:X.K=K:=by rfl):OpR X (compareOp .Eq) (Ig K false):=by
 subst hK;intro pins s σ H x y u v Q I rx ry h;obtain⟨ds,ds',h1,h2,p1,p2,hu,q⟩:=h;exact Gz pins s σ H x y u v Q I rx ry ⟨ds,ds',h1,h2,p1,p2,by have:=hr.units;omega,q⟩
theorem LD(K:Frag){k:Nat}(hr:Room k X.A)(hK:X.K=K:=by rfl):OpR X (compareOp .NotEq) (Ig K true):=by
 subst hK;intro pins s σ H x y u v Q I rx ry h;obtain⟨ds,ds',h1,h2,p1,p2,hu,q⟩:=h;exact Gs pins s σ H x y u v Q I rx ry ⟨ds,ds',h1,h2,p1,p2,by have:=hr.units;omega,q⟩
end
end L2
namespace Fr
open L2
def cp(t b:Int):Int:=((Int.gcd t b:Nat):Int)
def part(t b:Int):Int:=if b<0 then -cp t b else cp t b
def top(t b:Int):Int:=t.fdiv (part t b)
def bot(t b:Int):Int:=b.fdiv (part t b)
theorem CZ(a b:Int):Int.gcd b (a.fmod b)=Int.gcd a b:=by
 rw [eX,Int.gcd_sub_mul_left_right,Int.gcd_comm]
theorem AH(a b:Int)(h:b≠0):(a.fmod b).natAbs<b.natAbs:=by
 rcases fJ h with hb|hb
 ·have h1:=fK (-a) (b:=-b) (by omega);have h2:=eV (-a) (b:=-b) (by omega);have e:(-a).fmod (-b) = -(a.fmod b):=by
   rw [eX,eX,Int.neg_fdiv_neg,Int.neg_mul];omega
  omega
 ·have h1:=fK a hb;have h2:=eV a hb;omega
theorem xw{t b:Int}(h:b≠0):0<cp t b:=by
 unfold cp;have:0<Int.gcd t b:=dR (by rw [Ne,fq];exact fun z=>h z.2);omega
theorem Jq{t b:Int}(h:b≠0):(cp t b).natAbs<=b.natAbs:=by
 unfold cp;rw [bP];exact dh (by omega) (fN _ _)
theorem Aq{t b:Int}(h:b≠0):part t b≠0:=by
 have:=xw (t:=t) h;unfold part;split <;> omega
theorem Ar{t b:Int}(h:b≠0):(part t b).natAbs<=b.natAbs:=by
 have:=Jq (t:=t) h;unfold part;split
 ·rw [Int.natAbs_neg];exact this
 ·exact this
theorem of{p t' b':Int}(hp:p≠0)(hb:0<b')(hc:Int.gcd t' b'=1):top (p*t') (p*b')=t'/\bot (p*t') (p*b')=b':=by
 have e:part (p*t') (p*b')=p:=by
  unfold part cp;rw [Int.gcd_mul_left,hc,dI];rcases fJ hp with h|h
  ·rw [if_pos (Int.mul_neg_of_neg_of_pos h hb)];omega
  ·rw [if_neg (Int.not_lt.mpr (Int.le_of_lt (av h hb)))];omega
 unfold top bot;rw [e];exact⟨cF _ hp,cF _ hp⟩
theorem ex{t b:Int}(h:b≠0):∃ p t' b',p≠0/\0<b'/\Int.gcd t' b'=1/\t=p*t'/\b=p*b':=by
 have g0:0<Int.gcd t b:=dR (by rw [Ne,fq];exact fun z=>h z.2);obtain⟨t1,e1⟩:=Int.gcd_dvd_left t b;obtain⟨b1,e2⟩:=gg t b;have hc:Int.gcd t1 b1=1:=by
  have q:Int.gcd ((Int.gcd t b:Int)*t1) ((Int.gcd t b:Int)*b1)=Int.gcd t b:=by rw [← e1,← e2]
  rw [Int.gcd_mul_left,bP] at q;exact eF g0 (by omega)
 have g1:(0:Int)<(Int.gcd t b:Int):=by omega
 by_cases hb:b<0
 ·refine⟨-(Int.gcd t b:Int),-t1,-b1,by omega,?_,by rw [Int.gcd_neg,Int.neg_gcd];exact hc,by rw [Int.neg_mul_neg];exact e1,by rw [Int.neg_mul_neg];exact e2⟩;rcases df b1 0 with z|z|z
  ·omega
  ·rw [z,bF] at e2;omega
  ·have:=av g1 z;omega
 ·refine⟨(Int.gcd t b:Int),t1,b1,by omega,?_,hc,e1,e2⟩;rcases df b1 0 with z|z|z
  ·have:=cZ g1 z;omega
  ·rw [z,bF] at e2;omega
  ·exact z
theorem times{t b q:Int}(h:b≠0)(hq:q≠0):top (t*q) (b*q)=top t b/\bot (t*q) (b*q)=bot t b:=by
 obtain⟨p,t',b',hp,hb,hc,rfl,rfl⟩:=ex (t:=t) h;have e:=of hp hb hc;rw [e.1,e.2];have m1:p*t'*q=(p*q)*t':=by rw [bI,bv t' q,bI]
 have m2:p*b'*q=(p*q)*b':=by rw [bI,bv b' q,bI]
 rw [m1,m2];exact of (ca hp hq) hb hc
theorem low{t b:Int}(h:b≠0):0<bot t b/\top t b*b=t*bot t b/\Int.gcd (top t b) (bot t b)=1:=by
 obtain⟨p,t',b',hp,hb,hc,rfl,rfl⟩:=ex (t:=t) h;have e:=of hp hb hc;rw [e.1,e.2];refine⟨hb,?_,hc⟩;rw [Int.mul_left_comm,bI]
theorem BH{t b:Int}(h:b≠0):(top t b).natAbs<=t.natAbs/\(bot t b).natAbs<=b.natAbs:=by
 obtain⟨p,t',b',hp,hb,hc,rfl,rfl⟩:=ex (t:=t) h;have e:=of hp hb hc;rw [e.1,e.2,br,br];have:0<p.natAbs:=by omega
 exact⟨aV _ this,aV _ this⟩
theorem self{t b:Int}(hb:0<b)(hc:Int.gcd t b=1):top t b=t/\bot t b=b:=by
 have:=of (p:=1) (t':=t) (b':=b) (by decide) hb hc;rw [bA,bA] at this;exact this
theorem uniq{t b c d:Int}(hb:b≠0)(hd:0<d)(hc:Int.gcd c d=1)(h:t*d=c*b):top t b=c/\bot t b=d:=by
 have e1:=times (t:=t) (b:=b) (q:=d) hb (by omega);have e2:=times (t:=c) (b:=d) (q:=b) (by omega) hb;have e3:=self hd hc;rw [h,bv b d,e2.1,e2.2,e3.1,e3.2] at e1;exact⟨e1.1.symm,e1.2.symm⟩
end Fr
namespace L2
open PySem PySem.Spec PyProof.Rows
def Ht(K:Frag)(H:Hp)(x:V)(t:Value):Prop:=TyOf K H x t\/(∃ a xs,x = .ref a/\SqT K H a xs/\t = .type "tuple")\/(∃ a xs,x = .ref a/\SqL K H a xs/\t = .type "list")
section
variable{X:Cx}{pins:List (Addr×Obj)}{σ:St}{H:Hp}{s:Shared}{A:Around}{E:Value->Shared->Prop}{Q:Value->Shared->Prop}
theorem GO{x:V}{u t c:Value}{b:Bool}(I:Inv X pins σ H s)(rx:RelV x u)(ty:Ht X.K H x t)(e:PySem.W.kitOne X.K t c=some b)(h:∀ tk,Q (.bool b) { s with toks:=tk }) :
  wpAny (model X.prog X.w) A (call (.builtin "isinstance") [u,c]) Q E s:=by
 rcases ty with ty|⟨a,xs,rfl,hq,rfl⟩|⟨a,xs,rfl,hq,rfl⟩
 ·exact Bk I rx ty e h
 ·cases rx;obtain⟨its,rv,p,_⟩:=I.tuple hq;obtain⟨o,ho,hc,_⟩:=p;exact PySem.W.kia_one PySem.W.kitx_tuple I.kIn ⟨o,ho,hc⟩ e (fun z=>nomatch z) h
 ·cases rx;obtain⟨its,rv,p,_⟩:=I.list hq;obtain⟨o,ho,hc,_⟩:=p.isList;exact PySem.W.kia_one PySem.W.kitx_list I.kIn ⟨o,ho,hc⟩ e (fun z=>nomatch z) h
theorem EA{x:V}{u t:Value}{b:Bool}{tp:Addr}{dd:Option Addr}{its:List Value}{n:Nat}{sl:Array (Option Value)}(I:Inv X pins σ H s)(rx:RelV x u)(ty:Ht X.K H x t)(hs:∀ C,t ≠ .ref C)
  (htp:s.heap.get? tp=some ⟨.type "tuple",dd,.seq its.toArray n,sl⟩) (e:PySem.W.kitAny X.K t its=some b) (h:∀ tk,Q (.bool b) { s with toks:=tk }) :
  wpAny (model X.prog X.w) A (call (.builtin "isinstance") [u,.ref tp]) Q E s:=by
 rcases ty with ty|⟨a,xs,rfl,hq,rfl⟩|⟨a,xs,rfl,hq,rfl⟩
 ·cases ty with
  | non=>cases (show u=Value.none from rx);exact PySem.W.kia_tup PySem.W.kitx_none I.kIn True.intro htp e (fun z=>nomatch z) h
  | bl y=>cases (show u=Value.bool y from rx);exact PySem.W.kia_tup PySem.W.kitx_bool I.kIn True.intro htp e (fun z=>nomatch z) h
  | int i=>obtain⟨t,q⟩:=(show ∃ t,u=Value.int i t from rx);cases q;exact PySem.W.kia_tup PySem.W.kitx_int I.kIn True.intro htp e (fun z=>nomatch z) h
  | str y=>obtain⟨t,q⟩:=(show ∃ t,u=Value.str y t from rx);cases q;exact PySem.W.kia_tup PySem.W.kitx_str I.kIn True.intro htp e (fun z=>nomatch z) h
  | flt y=>obtain⟨t,q⟩:=(show ∃ t,u=Value.float y t from rx);cases q;exact PySem.W.kia_tup PySem.W.kitx_float I.kIn True.intro htp e (fun z=>nomatch z) h
  | @lst a xs ea =>
   cases (show u=Value.ref a from rx);obtain⟨_,_,n,_,h1⟩:=(show ObjOk X.prog X.w H s.heap a (.lst xs) from I.hok a _ ea);exact PySem.W.kia_tup PySem.W.kitx_list I.kIn ⟨_,h1,rfl⟩ htp e (fun z=>nomatch z) h
  | @frz a ob xs ea =>
   cases (show u=Value.ref a from rx);obtain⟨q1,_,_,n,_,h1⟩:=(show ObjOk X.prog X.w H s.heap a (.frz ob (.lst xs)) from I.hok a _ ea);exact PySem.W.kia_tup PySem.W.kitx_list I.kIn ⟨_,h1,rfl⟩ htp e (fun z=>nomatch z) h
  | @tup a xs ea =>
   cases (show u=Value.ref a from rx);obtain⟨its',rv,p,_⟩:=I.tuple (SqT.of ea);obtain⟨o,ho,hc,_⟩:=p;exact PySem.W.kia_tup PySem.W.kitx_tuple I.kIn ⟨o,ho,hc⟩ htp e (fun z=>nomatch z) h
  | @dK a kvs ea =>
   cases (show u=Value.ref a from rx);obtain⟨_,_,vs,_,p⟩:=(show ObjOk X.prog X.w H s.heap a (.dK kvs) from I.hok a _ ea);obtain⟨o,es,ep,h1,h2,_⟩:=p;exact PySem.W.kia_tup PySem.W.kitx_dict I.kIn ⟨o,h1,h2.1⟩ htp e (fun z=>nomatch z) h
  | @dT a kvs ea =>
   cases (show u=Value.ref a from rx);obtain⟨_,_,xs,_,o,es,ep,h1,h2,_⟩:=(show ObjOk X.prog X.w H s.heap a (.dT kvs) from I.hok a _ ea);exact PySem.W.kia_tup PySem.W.kitx_dict I.kIn ⟨o,h1,h2.1⟩ htp e (fun z=>nomatch z) h
  | ins=>exact absurd rfl (hs _)
 ·cases rx;obtain⟨its',rv,p,_⟩:=I.tuple hq;obtain⟨o,ho,hc,_⟩:=p;exact PySem.W.kia_tup PySem.W.kitx_tuple I.kIn ⟨o,ho,hc⟩ htp e (fun z=>nomatch z) h
 ·cases rx;obtain⟨its',rv,p,_⟩:=I.list hq;obtain⟨o,ho,hc,_⟩:=p.isList;exact PySem.W.kia_tup PySem.W.kitx_list I.kIn ⟨o,ho,hc⟩ htp e (fun z=>nomatch z) h
end
section
variable{X:Cx}
theorem GP(K:Frag)(hK:X.K=K:=by rfl):CallR X (.builtin "isinstance") (fun xs H Q=>∃ x n t b,xs=[x,.ty n]/\Ht K H x t/\PySem.W.kitOne K t (.type n)=some b/\Q (.bl b) H):=by
 subst hK;intro pins s σ H xs us Q I rv h;obtain⟨x,n,t,b,rfl,ty,e,q⟩:=h;obtain⟨u,v,rfl,r1,r2⟩:=rv.two;cases r2;exact GO I r1 ty e fun tk=>⟨.bl b,H,I.tok tk,rfl,q⟩
theorem zZ:∀{ns:List String} {us:List Value},Vals (ns.map V.ty) us->us=ns.map Value.type
 | [],_,.nil=>rfl
 | n::ns,_,.cons r t=>by
  have r':_=Value.type n:=r;rw [r',zZ t];rfl
theorem KC(K:Frag)(hK:X.K=K:=by rfl):CallR X (.builtin "isinstance") (fun xs H Q=>∃ x tp t b,∃ ns:List String,xs=[x,.ref tp]/\Ht K H x t/\(∀ C,t ≠ .ref C)/\H tp=some (.tup (ns.map V.ty))/\PySem.W.kitAny K t (ns.map Value.type)=some b/\Q (.bl b) H):=by
 subst hK;intro pins s σ H xs us Q I rv h;obtain⟨x,tp,t,b,ns,rfl,ty,hs,htp,e,q⟩:=h;obtain⟨u,v,rfl,r1,r2⟩:=rv.two;cases r2;obtain⟨its,rv',p,_⟩:=I.tuple (SqT.of htp);obtain⟨⟨cl,dd,dt,sl⟩,ho,hc,n,hd⟩:=p;have hc':cl = .type "tuple" := hc;have hd':dt = .seq its.toArray n:=hd;subst hc' hd';refine EA I r1 ty hs ho ?_ fun tk=>⟨.bl b,H,I.tok tk,rfl,q⟩;rw [zZ rv'];exact e
theorem K5(K:Frag)(hK:X.K=K:=by rfl):IxR X (JO K):=hK ▸ ix_seq
end
end L2
namespace L2
open PySem PySem.Spec PyProof.Rows
mutual
def DV.wd:DV->Nat
 | .tup ds=>max ds.length (DV.wds ds)
 | .lst ds=>max ds.length (DV.wds ds)
 | _=>0
def DV.wds:List DV->Nat
 | []=>0
 | d::ds=>max (DV.wd d) (DV.wds ds)
end
theorem zY:∀{ds:List DV} {d:DV},d∈ds->d.wd<=DV.wds ds/\d.dp<=DV.dps ds
 | [],_,h=>absurd h aU
 | e::ds,d,h=>by
  unfold DV.wds DV.dps;rcases ak.mp h with rfl|h
  ·exact⟨Nat.le_max_left _ _,Nat.le_max_left _ _⟩
  ·have:=zY h;omega
theorem Reps.get{K:Frag}{H:Hp}:∀{ds:List DV} {vs:List V} {i:Nat} {v:V},Reps K H ds vs->vs[i]? = some v->∃ d,ds[i]? = some d/\Rep K H d v
 | [],vs,i,v,h,e=>by
  unfold Reps at h;subst h;simp at e
 | d::ds,vs,i,v,h,e=>by
  unfold Reps at h;obtain⟨v',r,rfl,h1,h2⟩:=h;cases i with
  | zero =>
   simp at e;subst e;exact⟨d,rfl,h1⟩
  | succ i =>
   simp at e;obtain⟨d',a,b⟩:=Reps.get h2 e;exact⟨d',by simpa using a,b⟩
def SqX(K:Frag)(tt:String)(H:Hp)(a:Addr)(xs:List V):Prop:=(tt = "tuple" /\ SqT K H a xs)\/(tt = "list" /\ SqL K H a xs)
theorem SqX.same{K:Frag}{tt:String}{H H':Hp}{a:Addr}{xs:List V}(h:SqX K tt H a xs)(e:Same H H'):SqX K tt H' a xs:=h.imp (fun z=>⟨z.1,z.2.same e⟩) fun z=>⟨z.1,e.seq z.2⟩
theorem SqX.len{K:Frag}{tt:String}{H:Hp}{a:Addr}{xs:List V}(h:SqX K tt H a xs):SqL K H a xs\/SqT K H a xs:=h.elim (fun z=>.inr z.2) fun z=>.inl z.2
theorem SqX.ty{K:Frag}{tt:String}{H:Hp}{a:Addr}{xs:List V}(h:SqX K tt H a xs):Ht K H (.ref a) (.type tt):=h.elim (fun z=>.inr (.inl ⟨a,xs,rfl,z.2,by rw [z.1]⟩)) fun z=>.inr (.inr ⟨a,xs,rfl,z.2,by rw [z.1]⟩)
theorem SqX.ix{K:Frag}{tt:String}{H:Hp}{a:Addr}{xs:List V}{i:Int}{v:V}{Q:VK}(h:SqX K tt H a xs)(e:vg xs i=some v)(q:Q v H):JO K (.ref a) (.int i) H Q :=
 h.elim (fun z=>.inr (.inl ⟨a,xs,i,v,rfl,rfl,z.2,e,q⟩)) fun z=>.inl ⟨a,xs,i,v,rfl,rfl,z.2,e,q⟩
theorem SqX.kit{K:Frag}{tt:String}{H:Hp}{a:Addr}{xs:List V}(h:SqX K tt H a xs):PySem.W.kitAny K (.type tt) [.type "list",.type "tuple"]=some true/\(∃ b,PySem.W.kitOne K (.type tt) (.type "list")=some b)/\∃ b,PySem.W.kitOne K (.type tt) (.type "tuple")=some b:=by
 rcases h with⟨rfl,_⟩|⟨rfl,_⟩
 ·exact⟨rfl,⟨_,rfl⟩,⟨_,rfl⟩⟩
 ·exact⟨rfl,⟨_,rfl⟩,⟨_,rfl⟩⟩
def KW(K:Frag)(x:V):Prop:=∃ t bb,(∀ H,Ht K H x t)/\(∀ C,t ≠ .ref C)/\PySem.W.kitAny K t [.type "list",.type "tuple"]=some false/\PySem.W.kitOne K t (.type "bool")=some bb/\FX x x=true
theorem A1{K:Frag}{H:Hp}{d:DV}{x y:V}(hx:Rep K H d x)(hy:Rep K H d y):(x=y/\KW K x) \/
  ∃ tt a a' xs ys ds,x = .ref a/\y = .ref a'/\SqX K tt H a xs/\SqX K tt H a' ys/\Reps K H ds xs/\Reps K H ds ys/\d.dp=DV.dps ds+1/\DV.wds ds<=d.wd/\ds.length<=d.wd:=by
 cases d with
 | int i=>unfold Rep at hx hy;subst hx hy;exact .inl ⟨rfl,.type "int",false,fun H=>.inl (.int _),nofun,rfl,rfl,rfl⟩
 | str i=>unfold Rep at hx hy;subst hx hy;exact .inl ⟨rfl,.type "str",false,fun H=>.inl (.str _),nofun,rfl,rfl,rfl⟩
 | non=>unfold Rep at hx hy;subst hx hy;exact .inl ⟨rfl,.type "NoneType",false,fun H=>.inl .non,nofun,rfl,rfl,rfl⟩
 | bl i=>unfold Rep at hx hy;subst hx hy;exact .inl ⟨rfl,.type "bool",true,fun H=>.inl (.bl _),nofun,rfl,rfl,rfl⟩
 | tup ds =>
  unfold Rep at hx hy;obtain⟨a,xs,rfl,h1,h2⟩:=hx;obtain⟨a',ys,rfl,h1',h2'⟩:=hy;exact .inr ⟨"tuple",a,a',xs,ys,ds,rfl,rfl,.inl ⟨rfl,h1⟩,.inl ⟨rfl,h1'⟩,h2,h2',by rw [DV.dp],by rw [DV.wd];omega,by rw [DV.wd];omega⟩
 | lst ds =>
  unfold Rep at hx hy;obtain⟨a,xs,rfl,h1,h2⟩:=hx;obtain⟨a',ys,rfl,h1',h2'⟩:=hy;exact .inr ⟨"list",a,a',xs,ys,ds,rfl,rfl,.inr ⟨rfl,h1⟩,.inr ⟨rfl,h1'⟩,h2,h2',by rw [DV.dp],by rw [DV.wd];omega,by rw [DV.wd];omega⟩
end L2
namespace L2
open PySem PySem.Spec PyProof.Rows
section
variable{X:Cx}
def KF(K:Frag)(tl:TE):TI:=fun σ H R=>tl σ H fun x H1=>∃ a,x = .ref a/\(((∃ xs,SqL K H1 a xs)/\R (Ll K a) H1)\/((∃ xs,SqT K H1 a xs)/\R (Lk K a) H1))
theorem LB(K:Frag){tg l:Expr}{tl:TE}(hl:PE X l tl)(hK:X.K=K:=by rfl):PI X tg l (KF K tl):=by
 subst hK;intro pins s σ H R I h;refine qI (hl pins s σ H _ I h) fun v s1 ⟨x,H1,I1,r1,q1⟩=>?_;obtain⟨a,e,q1⟩:=q1;subst e;cases r1;have fp1:∀ b∈[s1.heap.objs.size],sU X pins H1 b:=fun b hb=>by
  have e:b=s1.heap.objs.size:=by simpa using hb
  subst e;exact I1.fpOk (aq _) (I1.hok.fresh (aq _))
 rcases q1 with⟨⟨xs,hq⟩,q⟩|⟨⟨xs,hq⟩,q⟩
 ·obtain⟨its,rv,p,hz⟩:=I1.list hq;exact wpAny_pyIter_list p.isList ⟨s1.heap.objs.size,[s1.heap.objs.size],_,_,H1,rfl,I1.kept (t':=s1.toks) fun b o e=>Heap.get?_push_of_some _ e,AW a _,⟨_,Heap.get?_push_size _ rfl,rfl,rfl⟩,fp1,q⟩
 ·obtain⟨its,rv,p,hz⟩:=I1.tuple hq;exact wpAny_pyIter_tuple (show s1.heap.IsTuple a its.toArray from p) ⟨s1.heap.objs.size,[s1.heap.objs.size],_,_,H1,rfl,I1.kept (t':=s1.toks) fun b o e=>Heap.get?_push_of_some _ e,yF a _,⟨_,Heap.get?_push_size _ rfl,rfl,rfl⟩,fp1,q⟩
def Ii(K:Frag):R2:=fun x y H Q=>∃ a b ys,x = .ref a/\y = .ref b/\SqT K H a []/\SqT K H b ys/\Q (.ref b) H
theorem Ju(K:Frag)(hK:X.K=K:=by rfl):OpR X (binaryOp .Add) (Ii K):=by
 subst hK;intro pins s σ H x y u v Q I rx ry h;obtain⟨a,b,ys,rfl,rfl,h1,h2,q⟩:=h;cases rx;cases ry;obtain⟨its,rv,p,_⟩:=I.tuple h1;obtain⟨its2,rv2,p2,_⟩:=I.tuple h2;cases rv;obtain⟨⟨cls,dd,data,sl⟩,ho,hc,n,hd⟩:=id p;obtain⟨⟨cls2,dd2,data2,sl2⟩,ho2,hc2,n2,hd2⟩:=id p2;simp only at hc hd hc2 hd2;subst hc hd hc2 hd2;exact concat_meets ⟨_,ho,rfl⟩ ⟨_,ho2,rfl⟩ noFill_tuple_add seq_tuple_add PySem.F.slot_tuple_add PySem.F.entry_tuple_add (PySem.F.args_tuple_add_2 _ _)
  (tuple_addW0 a b ([]:List Value).toArray its2.toArray n n2 dd dd2 sl sl2 (by simp)) ⟨ho,ho2,⟨.ref b,H,I,rfl,q⟩⟩
def E6(K:Frag)(neg:Bool):R2:=fun x y H Q=>∃ ds ds',Rep K H (.lst ds) x/\Rep K H (.lst ds') y/\DV.pls ds=true/\DV.pls ds'=true/\DV.dps ds<=60/\∀ b,(b=true↔ds=ds')->Q (.bl (if neg then !b else b)) H
theorem KL(K:Frag){k:Nat}(hr:Room k X.A)(hK:X.K=K:=by rfl):OpR X (compareOp .Eq) (E6 K false):=by
 subst hK;intro pins s σ H x y u v Q I rx ry h;obtain⟨ds,ds',h1,h2,p1,p2,hu,q⟩:=h;have hun:=hr.units;unfold Rep at h1 h2;obtain⟨a,vs,rfl,t1,r1⟩:=h1;obtain⟨a',vs',rfl,t2,r2⟩:=h2;cases rx;cases ry;obtain⟨its,rv,p,_⟩:=I.list t1;obtain⟨its',rv',p',_⟩:=I.list t2;obtain⟨f,hf,hi⟩:=zj I ds ds' X.A.in1 r1 r2 rv rv' p1 p2 (by show X.A.units+1+_+1<_;omega);by_cases hz:its.length=its'.length
 ·refine SeqAt.RcAt.lists p.isList p'.isList (by simpa using hz) (by omega) (e:=f) (fun j h1 h2=>?_) _ _ _ _ ⟨.bl _,H,I,rfl,q _ ?_⟩
  ·have q:=hf j (by simpa using h1) (by simpa using h2);simpa using q
  ·simp only [am];rw [xl hz] at hi;exact hi
 ·refine SeqAt.RcAt.lists_lengths p.isList p'.isList (by simpa using hz) (by omega) _ _ _ _ ⟨.bl false,H,I,rfl,q false ?_⟩;simp only [cI,false_iff];intro z;have l1:=r1.length;have l2:=r2.length;rw [z] at l1;exact hz (by rw [← rv.length,← rv'.length,← l1,← l2])
theorem Ky(K:Frag){k:Nat}(hr:Room k X.A)(hK:X.K=K:=by rfl):OpR X (compareOp .NotEq) (E6 K true):=by
 subst hK;intro pins s σ H x y u v Q I rx ry h;obtain⟨ds,ds',h1,h2,p1,p2,hu,q⟩:=h;have hun:=hr.units;unfold Rep at h1 h2;obtain⟨a,vs,rfl,t1,r1⟩:=h1;obtain⟨a',vs',rfl,t2,r2⟩:=h2;cases rx;cases ry;obtain⟨its,rv,p,_⟩:=I.list t1;obtain⟨its',rv',p',_⟩:=I.list t2;obtain⟨f,hf,hi⟩:=zj I ds ds' X.A.in1 r1 r2 rv rv' p1 p2 (by show X.A.units+1+_+1<_;omega);by_cases hz:its.length=its'.length
 ·refine SeqAt.RcNeAt.lists p.isList p'.isList (by simpa using hz) (by omega) (e:=f) (fun j h1 h2=>?_) _ _ _ _ ⟨.bl _,H,I,rfl,q _ ?_⟩
  ·have q:=hf j (by simpa using h1) (by simpa using h2);simpa using q
  ·simp only [am];rw [xl hz] at hi;exact hi
 ·refine SeqAt.RcNeAt.lists_lengths p.isList p'.isList (by simpa using hz) (by omega) _ _ _ _ ⟨.bl true,H,I,rfl,q false ?_⟩;simp only [cI,false_iff];intro z;have l1:=r1.length;have l2:=r2.length;rw [z] at l1;exact hz (by rw [← rv.length,← rv'.length,← l1,← l2])
end
end L2
namespace Po
open L2
def gl(b:Nat)(ts:List Int):Nat:=ts.foldl (fun g t=>Nat.gcd g t.natAbs) b
theorem GV(ts:List Int):gl 1 ts=1:=by
 induction ts with
 | nil=>rfl
 | cons t ts ih =>
  show gl (Nat.gcd 1 t.natAbs) ts=1;rw [Nat.gcd_one_left];exact ih
theorem vM:∀(ts:List Int) (b:Nat),gl b ts∣b/\∀ t∈ts,gl b ts∣t.natAbs
 | [],b=>⟨Nat.dvd_refl b,fun t ht=>absurd ht aU⟩
 | t::ts,b=>by
  have ih:=vM ts (Nat.gcd b t.natAbs);refine⟨Nat.dvd_trans ih.1 (Nat.gcd_dvd_left _ _),fun u hu=>?_⟩;rcases ak.mp hu with rfl|hu
  ·exact Nat.dvd_trans ih.1 (fN _ _)
  ·exact ih.2 u hu
theorem zo{c d:Nat}:∀(ts:List Int) (b:Nat),d∣c*b->(∀ t∈ts,d∣c*t.natAbs)->d∣c*gl b ts
 | [],b,h,_=>h
 | t::ts,b,h,ht=>by
  refine zo ts (Nat.gcd b t.natAbs) ?_ fun u hu=>ht u (aE _ hu);rw [← Nat.gcd_mul_left];exact Nat.dvd_gcd h (ht t aK)
structure Fm (P:List Int)(B:Int):Prop where
 pos:0<B
 last:P=[]\/P.getD (P.length-1) 0≠0
 gcd:gl B.natAbs P=1
theorem getD_mem{P:List Int}{t:Int}(h:t∈P):∃ k,P.getD k 0=t:=by
 obtain⟨k,hk,e⟩:=List.getElem_of_mem h;exact⟨k,by simp [List.getD,hk,e]⟩
theorem C9{P P':List Int}{B B':Int}(F:Fm P B)(h:∀ k,P.getD k 0*B'=P'.getD k 0*B):B.natAbs∣B'.natAbs:=by
 have q:=zo (c:=B'.natAbs) (d:=B.natAbs) P B.natAbs (dm _ _) fun t ht=>by
  obtain⟨k,rfl⟩:=getD_mem ht;have e:=congrArg Int.natAbs (h k);rw [br,br] at e;rw [cB,e];exact dm _ _
 rw [F.gcd,dI] at q;exact q
theorem CN{P P':List Int}(l:P=[]\/P.getD (P.length-1) 0≠0)(h:∀ k,P.getD k 0=P'.getD k 0):P.length<=P'.length:=by
 rcases l with rfl|l
 ·exact aI _
 ·rcases aP P'.length P.length with z|z
  ·refine absurd ?_ l;rw [h,ah,aS (by omega)];rfl
  ·exact z
theorem uniq{P P':List Int}{B B':Int}(F:Fm P B)(F':Fm P' B')(h:∀ k,P.getD k 0*B'=P'.getD k 0*B):P=P'/\B=B':=by
 have d1:=C9 F h;have d2:=C9 F' fun k=>(h k).symm;have e:=Nat.dvd_antisymm d1 d2;have p1:=F.pos;have p2:=F'.pos;have eB:B=B':=by omega
 subst eB;have hk:∀ k,P.getD k 0=P'.getD k 0:=fun k=>aA (by omega) (h k);have l1:=CN F.last hk;have l2:=CN F'.last fun k=>(hk k).symm;refine⟨dZ (by omega) fun k h1 h2=>?_,rfl⟩;have q:=hk k;simp [List.getD,h1,h2] at q;exact q
theorem CW(g:Nat):∀(ts:List Int) (b:Nat),gl (g*b) (ts.map fun t=>(g:Int)*t)=g*gl b ts
 | [],b=>rfl
 | t::ts,b=>by
  show gl (Nat.gcd (g*b) ((g:Int)*t).natAbs) (ts.map fun t=>(g:Int)*t)=g*gl (Nat.gcd b t.natAbs) ts;rw [br,bP,Nat.gcd_mul_left];exact CW g ts _
theorem zf{b:Nat}(h:0<b)(ts:List Int):0<gl b ts:=Nat.pos_of_dvd_of_pos (vM ts b).1 h
theorem form{ts:List Int}{b:Int}{m:Nat}(hb:0<b)(hm:m<=ts.length)(h0:∀ j,m<=j->ts.getD j 0=0)(hl:m=0\/ts.getD (m-1) 0≠0) :
  Fm ((ts.take m).map fun t=>t.fdiv ((gl b.natAbs (ts.take m):Nat):Int)) (b.fdiv ((gl b.natAbs (ts.take m):Nat):Int)) /\
  (∀ k,((ts.take m).map fun t=>t.fdiv ((gl b.natAbs (ts.take m):Nat):Int)).getD k 0*b=ts.getD k 0*(b.fdiv ((gl b.natAbs (ts.take m):Nat):Int))):=by
 have g0:0<gl b.natAbs (ts.take m):=zf (by omega) _;have gd:=vM (ts.take m) b.natAbs;generalize hg:gl b.natAbs (ts.take m)=g at *;have gi:(g:Int)≠0:=by omega
 have ex:∀ t:Int,g∣t.natAbs->t=(g:Int)*t.fdiv (g:Int):=fun t ht=>by
  obtain⟨c,e⟩:(g:Int)∣t:=by first|exact Int.ofNat_dvd_left.mpr ht|exact eY.mp (by rw [bP];exact ht)
  rw [e,cF _ gi]
 have eb:=ex b gd.1;have et:ts.take m=((ts.take m).map fun t=>t.fdiv (g:Int)).map fun t=>(g:Int)*t:=by
  rw [eK];refine (List.map_id (ts.take m)).symm.trans (List.map_congr_left fun t ht=>?_);exact ex t (gd.2 t ht)
 have bp:0<b.fdiv (g:Int):=by
  rcases df (b.fdiv (g:Int)) 0 with z|z|z
  ·have:=cZ (show (0:Int)<(g:Int) by omega) z;omega
  ·rw [z,bF] at eb;omega
  ·exact z
 have kk:∀ k,((ts.take m).map fun t=>t.fdiv (g:Int)).getD k 0*(g:Int)=ts.getD k 0:=fun k=>by
  by_cases hk:k<m
  ·have h1:k<(ts.take m).length:=by rw [aD];omega
   have h2:k<ts.length:=by omega
   have e1:((ts.take m).map fun t=>t.fdiv (g:Int)).getD k 0=(ts[k]).fdiv (g:Int):=by
    rw [ah,aw,db hk,ac h2];rfl
   have e2:ts.getD k 0=ts[k]:=by rw [ah,ac h2];rfl
   have mem:ts[k]∈ts.take m:=by
    refine aO (i:=k) ?_;rw [db hk,ac h2]
   rw [e1,e2,bv];exact (ex _ (gd.2 _ mem)).symm
  ·rw [h0 k (by omega),ah,aS (by rw [aa,aD];omega)];exact ax _
 refine⟨⟨bp,?_,?_⟩,fun k=>?_⟩
 ·have hlen:((ts.take m).map fun t=>t.fdiv (g:Int)).length=m:=by rw [aa,aD];omega
  rcases hl with z|z
  ·left;subst z;simp
  ·right;rw [hlen];intro c;have q:=kk (m-1);rw [c,ax] at q;exact z q.symm
 ·have q:=CW g ((ts.take m).map fun t=>t.fdiv (g:Int)) (b.fdiv (g:Int)).natAbs;rw [← et] at q;have e:g*(b.fdiv (g:Int)).natAbs=b.natAbs:=by
   conv=>rhs;rw [eb,br,bP]
  rw [e,hg] at q;exact eF g0 (by omega)
 ·rw [← kk k,bI,← eb]
end Po
namespace L2
open PySem PySem.Spec PyProof.Rows
section
variable{X:Cx}
theorem wb:∀{ns:List Int} {us:List Value},Vals (ns.map V.int) us->∃ xs:List (Int×Tok),us=xs.map (fun p=>Value.int p.1 p.2)/\xs.map (·.1)=ns
 | [],_,.nil=>⟨[],rfl,rfl⟩
 | n::ns,_,.cons r t=>by
  obtain⟨tk,e⟩:∃ t,_=Value.int n t:=r;obtain⟨xs,e1,e2⟩:=wb t;exact⟨(n,tk)::xs,by rw [e,e1];rfl,by rw [← e2];rfl⟩
theorem Kz(K:Frag)(hc:X.calm=true:=by rfl)(hK:X.K=K:=by rfl):CallR X (.builtin "max") (fun xs H Q=>∃ p,∃ ns:List Int,xs=[.ref p]/\SqL K H p (ns.map V.int)/\ns≠[]/\∀ M,M∈ns->(∀ a∈ns,a<=M)->Q (.int M) H):=by
 subst hK;intro pins s σ H xs us Q I rv h;obtain⟨p,ns,rfl,hp,hn,q⟩:=h;obtain⟨u,rfl,ru⟩:=rv.one;cases ru;obtain⟨its,rv',pl,_⟩:=I.list hp;obtain⟨ys,e1,e2⟩:=wb rv';subst e1;have hl:s.heap.IsList p (intItems ys.toArray):=by
  have:intItems ys.toArray=(ys.map (fun p=>Value.int p.1 p.2)).toArray:=by simp [intItems]
  rw [this];exact pl.isList
 have hsz:0<ys.toArray.size:=by
  rcases ys with _|⟨y,ys⟩
  ·exact absurd e2.symm hn
  ·simp
 refine max_intList (I.ok.hd hc) hl hsz fun v h' tk hv hk=>?_;obtain⟨t,rfl⟩:=intItems_at hv;obtain⟨h1,h2⟩:=argBest_gt (numAt ys.toArray) (ys.toArray.size-1);refine⟨.int _,H,I.kept (t':=tk) hk,⟨t,rfl⟩,q _ ?_ fun a ha=>?_⟩
 ·rw [numAt_eq,← e2];exact PySem.getD_mem (by simp only [am,aa] at *;omega)
 ·rw [← e2] at ha;obtain⟨j,hj,rfl⟩:=PySem.mem_getD ha;rw [aa] at hj;have:=h2 j (by rw [am];omega);rw [numAt_eq] at this;exact this
end
def Pol(H:Hp)(v:V)(P:List Int)(B:Int):Prop:=∃ a t,v = .ref a/\H a=some (.tup [.ref t,.int B])/\H t=some (.tup (P.map V.int))
theorem Hh:bootBuiltins "max" = some (.builtin "max"):=by decide +kernel
end L2
namespace L2
open PySem PySem.Spec PyProof.Rows
section
variable{X:Cx}{pins:List (Addr×Obj)}{σ:St}{H:Hp}{s:Shared}{h':Heap}
theorem Inv.turnedL{t':Nat}{fp:List Addr}(I:Inv X pins σ H s)(k:∀ b o,b ∉ fp->s.heap.get? b=some o->h'.get? b=some o)(hf:∀ b∈fp,sU X pins H b):Inv X pins σ H { s with heap:=h',toks:=t' }:=by
 have nit:∀ b u,H b=some u->b ∉ fp:=fun b u e z=>by rw [(hf b z).1] at e;cases e
 have hL:X.env.locals ∉ fp:=fun z=>(hf _ z).2.1 rfl;refine I.step (g':=s.gens) (d':=s.drawn) (ch:=fp) (fun b hb=>⟨(hf b hb).2.2.2.1,(hf b hb).2.1,(hf b hb).2.2.2.2.1,(hf b hb).2.2.2.2.2⟩) (fun b o _ _ hc e _=>k b o hc e) (fun b o _ _ hc e _=>⟨o.slots,k b o hc e⟩) (fun _ _ _ _ n=>n)
  (fun b o hc e=>⟨o,k b o hc e⟩) (fun _ _ e=>e) (fun _ _ _ e=>e) (fun b ps e=>⟨#[],by rw [e];simp⟩) (fun m ⟨o,es,ep,ho,r⟩=>⟨o,es,ep,k _ o hL ho,r⟩) (fun b u e=>?_) I.bare
 refine (I.hok b u e).stay (fun c v hc q=>k c v (hc.elim (fun z=>by rw [z];exact nit b u e) fun z=>nit c _ z) q) (fun _ q=>q) fun _ _ q=>q
end
section
variable{prog:Program}{w:World}{A:Around}{E:Value->Shared->Prop}{s:Shared}
theorem y6{it t:Addr}{i:Nat}{items:Array Value}{x:Value}{Q:Value->Shared->Prop}(hit:s.heap.IsTupleIter it t i)(ht:s.heap.IsTuple t items)(hx:items[i]? = some x)
  (hQ:∀ h',h'.IsTupleIter it t (i+1)->Heap.SameBut it s.heap h'->Q x { s with heap:=h' }):wpAny (model prog w) A (Builtin.SmallTypes.nextOf (.ref it)) Q E s:=by
 obtain⟨o,ho,hc,hd⟩:=id hit;obtain⟨ol,hol,_,nl,hdl⟩:=ht;unfold Builtin.SmallTypes.nextOf;refine wpAny_bind (wpAny_callSpecial?_slot (name:=Str.ofString "__next__") hit.typeIs F.slot_tuple_iterator_next (wpAny_call_entry F.slot_tuple_iterator_next hit.typeIs F.entry_tuple_iterator_next ?_ (F.args_tuple_iterator_next_1 _)));show wpAny _ _ (field (.ref it) 0 >>= _) _ _ s;refine wpAny_bind (wpAny_field ho hd (x:=.ref t) rfl ?_);show wpAny _ _ (if (Value.ref t == Value.none)=true then _ else _) _ _ s;rw [if_neg (show ¬ ((Value.ref t == Value.none)=true) from ay)];show wpAny _ _ (field (.ref it) 1 >>= _) _ _ s;refine wpAny_bind (wpAny_field ho hd (x:=.int i 0) rfl ?_);show wpAny _ _ (seqItems? (.ref t) >>= _) _ _ s;refine wpAny_bind (wpAny_seqItems hol hdl ?_);simp only [aJ,hx];refine wpAny_bind (wpAny_setField ho hd (by simp) (wpAny_pure ⟨x,rfl,wpAny_pure (hQ _ ⟨_,Heap.get?_update_self _ ho (Obj.isFreed_of_fields (Obj.data_mapFields hd _)),(Obj.cls_mapFields ..).trans hc,by rw [Obj.data_mapFields hd];simp [rawInt]⟩ (Heap.SameBut.update ..))⟩))
theorem wt{it t:Addr}{i:Nat}{items:Array Value}{Q:Value->Shared->Prop}(hh:A.handled=none)(hit:s.heap.IsTupleIter it t i)(ht:s.heap.IsTuple t items)(hx:items[i]? = none)
  (hE:∀ h' e,Heap.ExtBut it s.heap h'->(∃ o,h'.get? e=some o/\o.cls = .type "StopIteration")->E (.ref e) { s with heap:=h' }):wpAny (model prog w) A (Builtin.SmallTypes.nextOf (.ref it)) Q E s:=by
 obtain⟨o,ho,hc,hd⟩:=id hit;obtain⟨ol,hol,_,nl,hdl⟩:=ht;unfold Builtin.SmallTypes.nextOf;refine wpAny_bind (wpAny_callSpecial?_slot (name:=Str.ofString "__next__") hit.typeIs F.slot_tuple_iterator_next (wpAny_call_entry F.slot_tuple_iterator_next hit.typeIs F.entry_tuple_iterator_next ?_ (F.args_tuple_iterator_next_1 _)));show wpAny _ _ (field (.ref it) 0 >>= _) _ _ s;refine wpAny_bind (wpAny_field ho hd (x:=.ref t) rfl ?_);show wpAny _ _ (if (Value.ref t == Value.none)=true then _ else _) _ _ s;rw [if_neg (show ¬ ((Value.ref t == Value.none)=true) from ay)];show wpAny _ _ (field (.ref it) 1 >>= _) _ _ s;refine wpAny_bind (wpAny_field ho hd (x:=.int i 0) rfl ?_);show wpAny _ _ (seqItems? (.ref t) >>= _) _ _ s;refine wpAny_bind (wpAny_seqItems hol hdl ?_);simp only [aJ,hx];refine wpAny_bind (wpAny_rule (wpAny_bind (wpAny_setField ho hd (by simp) ?_)));show wpAny _ _ (newExc (.type "StopIteration") [] >>= _) _ _ _;refine wpAny_bind ?_;simp only [newExc,newTuple];refine wpAny_bind (wpAny_newObj_type ?_ (by size_fits));refine wpAny_bind (m:=firstArgMember _ _) (wpAny_of_eq (a:=Value.none) (by first|rfl|(simp only [firstArgMember];rfl)) ?_);refine wpAny_newObj_type ?_ (by size_fits);simp only [raiseNew];refine wpAny_bind (wpAny_handled ?_);first|rw [show A.in1.handled=none from hh]|rw [hh]
 refine wpAny_bind (wpAny_pure (wpAny_throw ?_));exact hE _ _ (((Heap.SameBut.update ..).extBut.push _).push _) ⟨_,Heap.get?_push_size _ rfl,rfl⟩
end
theorem Da{prog:Program}{w:World}{A:Around}(hh:A.handled=none)(it l:Addr)(hne:l≠it)(items:Array Value):Draws prog w A it [it,l] items.size (fun i v=>items[i]? = some v) (fun i h=>h.IsTupleIter it l i/\h.IsTuple l items) where
 live:=fun _ _ st=>let ⟨o,ho,_⟩:=st.1;⟨o,ho⟩
 frame:=fun _ _ _ st hk=>⟨let ⟨o,ho,r⟩:=st.1;⟨o,hk it (by simp) o ho,r⟩,let ⟨o,ho,r⟩:=st.2;⟨o,hk l (by simp) o ho,r⟩⟩
 item:=fun i s Q E hi st hQ=>y6 st.1 st.2 (x:=items[i]) (by simp [hi]) fun h' hit' hs'=>hQ _ h' s.toks (by simp [hi]) ⟨hit',let ⟨o,ho,r⟩:=st.2;⟨o,(hs'.2 l hne).trans ho,r⟩⟩ hs'
 done:=fun s Q E st hE=>wt hh st.1 st.2 (by simp) hE
theorem Br(l:Addr)(items:Array Value)(n:Nat)(dct:Option Addr)(sl:Array (Option Value)) :
  Meets (Builtin.«enumerate.__new__» ⟨[.type "enumerate",.ref l],[]⟩) (fun _ R s=>s.heap.get? l=some { cls:=.type "tuple",dict:=dct,data:=.seq items n,slots:=sl } /\
   R (.ok (.ret (.ref (s.heap.push { cls:=.type "tuple_iterator",data:=.fields #[.ref l,.int 0 0] }).objs.size)))
    { s with heap:=(s.heap.push { cls:=.type "tuple_iterator",data:=.fields #[.ref l,.int 0 0] }).push { cls:=.type "enumerate",data:=.fields #[.none,.bool false,.ref s.heap.objs.size,rawInt 0,.none,.none] } }) :=
 .of_wp fun prog w A R s h=>by
  obtain⟨hp,g,d,tk,os⟩:=s;obtain⟨hl,h⟩:=h;have hsub:=sub_enumerate;have hL:Heap.IsTuple (Shared.heap ⟨hp,g,d,tk,os⟩) l items:=⟨_,hl,rfl,n,rfl⟩
  wp_walk using AutoSeq1.wpAny_loadPart' hl
  refine wpAny_stack_any fun st=>wpAny_pure ?_;split
  ·rename_i c _ _ _ _ _;cases (c == Value.type "enumerate") <;> (wp_walk using AutoSeq1.wpAny_loadPart' hl,wpAny_pyIter_tuple hL;exact⟨_,rfl,h⟩)
  ·wp_walk using AutoSeq1.wpAny_loadPart' hl,wpAny_pyIter_tuple hL;exact⟨_,rfl,h⟩
def JS(Sq:Hp->List V->Prop):It:=⟨fun i H=>∃ xs x,Sq H xs/\xs[i]? = some x,fun i H x H'=>∃ p v,x = .ref p/\H p=none/\H'=qR H p (.tup [.int i,v])/\∀ xs,Sq H xs->xs[i]? = some v,fun i H=>∃ xs,Sq H xs/\xs.length<=i⟩
theorem wC{X:Cx}{pins:List (Addr×Obj)}{σ:St}{H:Hp}{s:Shared}{h1 h2:Heap}{e it:Addr}{tk t2:Nat}{i:Nat}{x:V}{u:Value}(I:Inv X pins σ H s)(hf:∀ b∈[e,it],sU X pins H b)(le:e<s.heap.objs.size)(li:it<s.heap.objs.size)(ru:RelV x u)
  (hT:h1.get? s.heap.objs.size=some { cls:=.type "tuple",data:=.seq #[.int i tk,u] }) (hk:∀ b o,b≠e->b≠it->s.heap.get? b=some o->h1.get? b=some o) (hs:Heap.SameBut e h1 h2) :
  Inv X pins σ (qR H s.heap.objs.size (.tup [.int i,x])) { s with heap:=h2,toks:=t2 }/\∀ b∈[e,it],qR H s.heap.objs.size (.tup [.int i,x]) b=none:=by
 have lt:∀ b∈[e,it],b≠s.heap.objs.size:=fun b hb=>by
  rcases ak.mp hb with z|z
  ·rw [z];exact aX le
  ·rw [aG.mp z];exact aX li
 have I1:Inv X pins σ (qR H s.heap.objs.size (.tup [.int i,x])) { s with heap:=s.heap.push { cls:=.type "tuple",data:=.seq #[.int i tk,u] },toks:=t2 } :=
  I.laid (t':=t2) (fun b u e=>Heap.get?_push_of_some _ e) (aq _) ⟨by show 2<=sizeLine;decide,[.int i tk,u],.cons ⟨tk,rfl⟩ (.cons ru .nil),⟨_,Heap.get?_push_size _ rfl,rfl,_,rfl⟩⟩
 have nn:∀ b∈[e,it],qR H s.heap.objs.size (.tup [.int i,x]) b=none:=fun b hb=>by
  rw [qu (lt b hb)];exact (hf b hb).1
 refine⟨Inv.turnedL (s:={ s with heap:=s.heap.push { cls:=.type "tuple",data:=.seq #[.int i tk,u] },toks:=t2 }) (t':=t2) (fp:=[e,it]) I1 (fun b o hb q=>?_) fun b hb=>⟨nn b hb,(hf b hb).2⟩,nn⟩;have be:b≠e:=fun z=>hb (by simp [z]);have bi:b≠it:=fun z=>hb (by simp [z]);refine (hs.2 b be).trans ?_;rcases Heap.get?_push_cases q with⟨z1,z2⟩|z
 ·rw [z1,z2];exact hT
 ·exact hk b o be bi z
theorem Bs{prog:Program}{w:World}{A:Around}{E:Value->Shared->Prop}{s:Shared}{e it l:Addr}{i:Nat}{items:Array Value}{old:Value}{Q:Option Value->Shared->Prop}(hh:A.handled=none)(he:IsEnum s.heap e it i old)(hit:s.heap.IsTupleIter it l i)(hl:s.heap.IsTuple l items)
  (hx:items[i]? = none) (hQ:∀ h',Heap.ExtBut it s.heap h'->Q none { s with heap:=h' }):wpAny (model prog w) A (pyNext (.ref e)) Q E s:=by
 have hT:s.TypeIs (.ref e) "enumerate" := ⟨_,he,rfl⟩;unfold pyNext;refine wpAny_bind (wpAny_attempt (wpAny_callSpecial?_slot (name:=Str.ofString "__next__") hT F.slot_enumerate_next (wpAny_call_entry F.slot_enumerate_next hT F.entry_enumerate_next ?_ (F.args_enumerate_next_1 _))));show wpAny _ _ (field (.ref e) 2 >>= _) _ _ _;refine wpAny_bind (wpAny_field he rfl (x:=.ref it) rfl ?_);refine wpAny_bind (wt (A:=A.in1) hh hit hl hx fun h' x he' hx'=>?_);obtain⟨o,ho,hc⟩:=hx';exact wpAny_bind (wpAny_isInstance (T := "StopIteration") (b:=true) ⟨o,ho,hc⟩ isSubtype_stop (wpAny_pure (hQ _ he')))
theorem zm{prog:Program}{w:World}{A:Around}{E:Value->Shared->Prop}{s:Shared}{l:Addr}{items:Array Value}{Q:Value->Shared->Prop}(hL:s.heap.IsTuple l items)
  (h:∀ h',IsEnum h' (s.heap.objs.size+1) s.heap.objs.size 0 .none->h'.IsTupleIter s.heap.objs.size l 0->h'.objs.size=s.heap.objs.size+2->(∀ b o,s.heap.get? b=some o->h'.get? b=some o)->Q (.ref (s.heap.objs.size+1)) { s with heap:=h' }) :
  wpAny (model prog w) A (call (.type "enumerate") [.ref l]) Q E s:=by
 obtain⟨⟨c,dct,dt,sl⟩,hl,hc,n,hd⟩:=hL;have hc':c = .type "tuple" := hc;have hd':dt = .seq items n:=hd;subst hc' hd';refine callType_new F.called_enumerate (by decide) (F.typeCall_enumerate_1 _) (F.newCall_enumerate_1 _) (fun obj=>F.args_object_init_2 obj _) F.entry_enumerate_new (Br l items n dct sl) ⟨hl,?_⟩;have hz:(s.heap.push { cls:=.type "tuple_iterator",data:=.fields #[.ref l,.int 0 0] }).objs.size=s.heap.objs.size+1:=Heap.size_push ..;show _/\_;rw [hz];have he:IsEnum ((s.heap.push { cls:=.type "tuple_iterator",data:=.fields #[.ref l,.int 0 0] }).push { cls:=.type "enumerate",data:=.fields #[.none,.bool false,.ref s.heap.objs.size,rawInt 0,.none,.none] }) (s.heap.objs.size+1) s.heap.objs.size 0 .none:=by
  have:=Heap.get?_push_size (s.heap.push { cls:=.type "tuple_iterator",data:=.fields #[.ref l,.int 0 0] }) (o:={ cls:=.type "enumerate",data:=.fields #[.none,.bool false,.ref s.heap.objs.size,rawInt 0,.none,.none] }) rfl;rw [hz] at this;exact this
 exact⟨⟨_,he,rfl⟩,h _ he ⟨_,Heap.get?_push_of_some _ (Heap.get?_push_size _ rfl),rfl,rfl⟩ (by rw [Heap.size_push,hz]) fun b o x=>Heap.get?_push_of_some _ (Heap.get?_push_of_some _ x)⟩
theorem yI{P:Program}{w:World}{K:Frag}{es:List Expr}{kk:Nat}{ps:Pos}(a e it:Addr)(hei:e≠it):Turn P w K (.Tuple es kk ps) (JS fun H xs=>SqL K H a xs) [e,it] e (fun i h=>(∃ old,IsEnum h e it i old)/\h.IsListIter it a i) where
 mem:=by simp
 obj:=fun i h st b hb=>by
  obtain⟨⟨old,he⟩,o,ho,hc,hd⟩:=st;rcases ak.mp hb with z|z
  ·rw [z];exact⟨_,he,fun v q=>by cases q⟩
  ·rw [aG.mp z];exact⟨o,ho,fun v q=>by rw [hd] at q;cases q⟩
 keep:=fun i h h' st k=>by
  obtain⟨⟨old,he⟩,o,ho,r⟩:=st;exact⟨⟨old,k e (by simp) _ he⟩,o,k it (by simp) o ho,r⟩
 item:=by
  intro X hP hw hK hc i pins s σ H E I hf st hg;subst hP hw hK;obtain⟨xs,x,hq,hx⟩:=hg;obtain⟨its,rv,p,hz⟩:=I.list hq;obtain⟨u,hu,ru⟩:=rv.get hx;obtain⟨⟨old,he⟩,hit⟩:=st;have hl:s.heap.IsList a its.toArray:=p.isList;have hne:a≠it:=fun z=>by
   obtain⟨o,ho,c,_⟩:=id hl;obtain⟨o',ho',c',_⟩:=id hit;rw [z,ho'] at ho;cases ho;rw [c'] at c;revert c;decide
  have hae:e≠a:=fun z=>by
   obtain⟨o,ho,c,_⟩:=id hl;rw [← z,he] at ho;cases ho;have c':Value.type "enumerate" = Value.type _:=c;revert c';decide
  have le:e<s.heap.objs.size:=Heap.lt_size he;have li:it<s.heap.objs.size:=by obtain⟨o,ho,_⟩:=id hit;exact Heap.lt_size ho
  refine wpAny_pyNext_enum_itemD (Draws.list (A:=X.A.in1) (I.ok.hd hc) it a hne its.toArray) he ⟨hit,hl⟩ (by have:=(aj.mp hu).1;simpa using this) hei (by simp [hei,hae]) fun y h1 tk hP ho hst hT hsz hk=>?_;have hy:its[i]? = some y:=by simpa using hP
  rw [hu] at hy;cases hy;refine⟨_,rfl,wpAny_letOwnedTupleGo_enum ho fun h2 he2 hs2=>?_⟩;obtain⟨I2,n2⟩:=wC (t2:=tk+1) I hf le li ru hT hk hs2;refine⟨.ref s.heap.objs.size,_,I2,rfl,⟨_,x,rfl,I.hok.fresh (aq _),rfl,fun ys hy=>by rw [I.list_inj hy hq];exact hx⟩,⟨⟨_,by simpa using he2⟩,?_⟩,n2⟩;obtain⟨o,ho1,r⟩:=hst.1;exact⟨o,(hs2.2 it hei.symm).trans ho1,r⟩
 done:=by
  intro X hP hw hK hc i pins s σ H E I hf st hg;subst hP hw hK;obtain⟨xs,hq,hx⟩:=hg;obtain⟨its,rv,p,hz⟩:=I.list hq;obtain⟨⟨old,he⟩,hit⟩:=st;have hl:s.heap.IsList a its.toArray:=p.isList;have hne:a≠it:=fun z=>by
   obtain⟨o,ho,c,_⟩:=id hl;obtain⟨o',ho',c',_⟩:=id hit;rw [z,ho'] at ho;cases ho;rw [c'] at c;revert c;decide
  obtain⟨f0,f1,f2,f3,f4,f5⟩:=hf it (by simp);have le:=rv.length;refine wpAny_pyNext_enum_end (I.ok.hd hc) he hit hl (by simp;omega) fun h' eb=>⟨rfl,I.turned (t':=s.toks) (fun b o hb e=>eb b o hb e) f0 f1 f3 f4 f5⟩
 self:=fun _ _ _ _ _ st h=>by
  obtain⟨⟨old,he⟩,_⟩:=st;exact wpAny_pyIter_enum he h
theorem yH{P:Program}{w:World}{K:Frag}{es:List Expr}{kk:Nat}{ps:Pos}(a e it:Addr)(hei:e≠it):Turn P w K (.Tuple es kk ps) (JS fun H xs=>SqT K H a xs) [e,it] e (fun i h=>(∃ old,IsEnum h e it i old)/\h.IsTupleIter it a i) where
 mem:=by simp
 obj:=fun i h st b hb=>by
  obtain⟨⟨old,he⟩,o,ho,hc,hd⟩:=st;rcases ak.mp hb with z|z
  ·rw [z];exact⟨_,he,fun v q=>by cases q⟩
  ·rw [aG.mp z];exact⟨o,ho,fun v q=>by rw [hd] at q;cases q⟩
 keep:=fun i h h' st k=>by
  obtain⟨⟨old,he⟩,o,ho,r⟩:=st;exact⟨⟨old,k e (by simp) _ he⟩,o,k it (by simp) o ho,r⟩
 item:=by
  intro X hP hw hK hc i pins s σ H E I hf st hg;subst hP hw hK;obtain⟨xs,x,hq,hx⟩:=hg;obtain⟨its,rv,p,hz⟩:=I.tuple hq;obtain⟨u,hu,ru⟩:=rv.get hx;obtain⟨⟨old,he⟩,hit⟩:=st;have hl:s.heap.IsTuple a its.toArray:=p;have hne:a≠it:=fun z=>by
   obtain⟨o,ho,c,_⟩:=id hl;obtain⟨o',ho',c',_⟩:=id hit;rw [z,ho'] at ho;cases ho;rw [c'] at c;revert c;decide
  have hae:e≠a:=fun z=>by
   obtain⟨o,ho,c,_⟩:=id hl;rw [← z,he] at ho;cases ho;have c':Value.type "enumerate" = Value.type _:=c;revert c';decide
  have le:e<s.heap.objs.size:=Heap.lt_size he;have li:it<s.heap.objs.size:=by obtain⟨o,ho,_⟩:=id hit;exact Heap.lt_size ho
  refine wpAny_pyNext_enum_itemD (Da (A:=X.A.in1) (I.ok.hd hc) it a hne its.toArray) he ⟨hit,hl⟩ (by have:=(aj.mp hu).1;simpa using this) hei (by simp [hei,hae]) fun y h1 tk hP ho hst hT hsz hk=>?_;have hy:its[i]? = some y:=by simpa using hP
  rw [hu] at hy;cases hy;refine⟨_,rfl,wpAny_letOwnedTupleGo_enum ho fun h2 he2 hs2=>?_⟩;obtain⟨I2,n2⟩:=wC (t2:=tk+1) I hf le li ru hT hk hs2;refine⟨.ref s.heap.objs.size,_,I2,rfl,⟨_,x,rfl,I.hok.fresh (aq _),rfl,fun ys hy=>by rw [I.tuple_inj hy hq];exact hx⟩,⟨⟨_,by simpa using he2⟩,?_⟩,n2⟩;obtain⟨o,ho1,r⟩:=hst.1;exact⟨o,(hs2.2 it hei.symm).trans ho1,r⟩
 done:=by
  intro X hP hw hK hc i pins s σ H E I hf st hg;subst hP hw hK;obtain⟨xs,hq,hx⟩:=hg;obtain⟨its,rv,p,hz⟩:=I.tuple hq;obtain⟨⟨old,he⟩,hit⟩:=st;have hl:s.heap.IsTuple a its.toArray:=p;have hne:a≠it:=fun z=>by
   obtain⟨o,ho,c,_⟩:=id hl;obtain⟨o',ho',c',_⟩:=id hit;rw [z,ho'] at ho;cases ho;rw [c'] at c;revert c;decide
  obtain⟨f0,f1,f2,f3,f4,f5⟩:=hf it (by simp);have le:=rv.length;refine Bs (I.ok.hd hc) he hit hl (by simp;omega) fun h' eb=>⟨rfl,I.turned (t':=s.toks) (fun b o hb e=>eb b o hb e) f0 f1 f3 f4 f5⟩
 self:=fun _ _ _ _ _ st h=>by
  obtain⟨⟨old,he⟩,_⟩:=st;exact wpAny_pyIter_enum he h
def Jc(K:Frag)(ta:TA):TI:=fun σ H R=>ta σ H fun vs H1=>∃ a,vs=[.ref a]/\(((∃ xs,SqL K H1 a xs)/\R (JS fun H xs=>SqL K H a xs) H1)\/((∃ xs,SqT K H1 a xs)/\R (JS fun H xs=>SqT K H a xs) H1))
theorem vW:bootBuiltins "enumerate" = some (.type "enumerate"):=by decide +kernel
theorem DZ{X:Cx}(K:Frag){es:List Expr}{kk:Nat}{ps:Pos}{a:Expr}{ta:TA}{p pos:Pos}(hg:Gl X "enumerate")(hm:X.mg "enumerate" = none)(ha:PA X [a] ta)(hK:X.K=K:=by rfl)(hs:starEach [a] X.env=[(false,eval a X.env)]:=by rfl):PI X (.Tuple es kk ps) (.Call (.Name "enumerate" p) [a] [] pos) (Jc K ta):=by
 subst hK;intro pins s σ H R I h;refine Call_ (tw I hg hm vW (PyProof.Rows.callWith_type1 (qI (ha pos pins s σ H _ I h) fun us s1 ⟨vs,H1,I1,r1,q1⟩=>?_) hs rfl));obtain⟨l,e,q1⟩:=q1;subst e;obtain⟨u,rfl,ru⟩:=Vals.one r1;cases ru;have fp1:∀{h':Heap},∀ b∈[s1.heap.objs.size+1,s1.heap.objs.size],sU X pins H1 b:=fun b hb=>by
  have hb':s1.heap.objs.size<=b:=by
   rcases ak.mp hb with z|z
   ·omega
   ·rw [aG.mp z];exact aq _
  exact I1.fpOk hb' (I1.hok.fresh hb')
 rcases q1 with⟨⟨xs,hq⟩,q⟩|⟨⟨xs,hq⟩,q⟩
 ·obtain⟨its,rv,pl,hz⟩:=I1.list hq;refine call_enumerate_list pl.isList fun h' he hit hsz hk=>?_;refine wpAny_pyIter_enum he ?_;exact⟨_,[s1.heap.objs.size+1,s1.heap.objs.size],_,_,H1,rfl,I1.kept (t':=s1.toks) hk,yI l _ _ (Nat.succ_ne_self _),⟨⟨_,he⟩,hit⟩,fp1 (h':=h'),q⟩
 ·obtain⟨its,rv,pl,hz⟩:=I1.tuple hq;refine zm pl fun h' he hit hsz hk=>?_;refine wpAny_pyIter_enum he ?_;exact⟨_,[s1.heap.objs.size+1,s1.heap.objs.size],_,_,H1,rfl,I1.kept (t':=s1.toks) hk,yH l _ _ (Nat.succ_ne_self _),⟨⟨_,he⟩,hit⟩,fp1 (h':=h'),q⟩
theorem KG{X:Cx}(K:Frag)(hK:X.K=K:=by rfl):JD X (fun o i H Q=>∃ p xs v,∃ j:Nat,o = .ref p/\i = .int j/\SqL K H p xs/\xs[j]? = some v/\Q v H):=by
 subst hK;intro pins s σ H o i ov iv Q I ro ri h;obtain⟨p,xs,v,j,rfl,rfl,hq,hv,q⟩:=h;cases ro;obtain⟨t,rfl⟩:=ri;obtain⟨its,r,pl,hz⟩:=I.list hq;obtain⟨w,ew,rw'⟩:=r.get hv;have hl:=(aj.mp hv).1;have hn:=so;exact wpAny_getItem_list pl.isList (by omega) (by omega) (by rw [aJ];simpa using ew) ⟨v,H,I,rw',q⟩
end L2
namespace HT
open PySem PyProof.Rows
variable{prog:Program}{w:World}{A:Around}{E:Value->Shared->Prop}{s:Shared}
theorem tK{t sl:Addr}{items:Array Value}{vl vu:Value}{lo hi:Option Int}{Q:Value->Shared->Prop}(ht:IsTup s.heap t items)(hs:s.heap.IsSliceOf sl vl vu .none)(pl:IsPart vl lo)(pu:IsPart vu hi)
  (hw:qT items.size 0 lo=0/\qT items.size items.size hi=items.size) (h:Q (.ref t) s):wpAny (model prog w) A (getItem (.ref t) (.ref sl)) Q E s:=by
 obtain⟨os,hos,hcs,hds⟩:=id hs;have hTs:s.TypeIs (.ref sl) "slice" := ⟨os,hos,hcs⟩;unfold getItem;try with_reducible refine wpAny_holding ?_
 first|refine wpAny_bind (wpAny_pure ?_)|skip
 refine wpAny_bind (wpAny_sequenceKey ht.typeIs (by decide) ?_);refine wpAny_bind (wpAny_callSpecial?_slot (name:=Str.ofString "__getitem__") ht.typeIs PyProof.Rows.slot_tuple_getitem (wpAny_call_entry PyProof.Rows.slot_tuple_getitem ht.typeIs entry_tuple_getitem ?_ (args_tuple_getitem _ _)));show wpAny _ _ (Builtin.Tuple.tupleItemsOf (.ref t) >>= _) _ _ s;refine wpAny_bind (tupleItemsOf_ ht ?_);refine wpAny_bind (wpAny_typeOf hTs ?_);rw [if_pos (by decide)];refine wpAny_bind (sv hs pl pu ?_);have hyes:(((qT items.size 0 lo:Nat):Int) == 0 && (1:Int) == 1 && (qT items.size items.size hi-qT items.size 0 lo) == items.size)=true:=by
  rw [hw.1,hw.2];simp
 show wpAny _ _ (if (((qT items.size 0 lo:Nat):Int) == 0 && (1:Int) == 1 && (qT items.size items.size hi-qT items.size 0 lo) == items.size)=true then _ else _) _ _ s;rw [if_pos hyes];refine wpAny_bind (m:=Builtin.Tuple.tupleIsExact _) ?_;unfold Builtin.Tuple.tupleIsExact;refine wpAny_bind (wpAny_typeOf ht.typeIs (wpAny_pure ?_));rw [if_pos (by decide)];first
  | exact wpAny_bind (wpAny_rule (wpAny_bind (wpAny_pure (wpAny_pure ⟨_,rfl,wpAny_pure h⟩))))
  | exact wpAny_bind (wpAny_rule (wpAny_pure ⟨_,rfl,wpAny_pure h⟩))
  | exact wpAny_bind (wpAny_rule (wpAny_bind (wpAny_pure ⟨_,rfl,wpAny_pure h⟩)))
end HT
namespace Po
open L2
theorem EH{P:List Int}{f:Nat->Int}{B B':Int}(F:Fm P B)(h:∀ k,P.getD k 0*B'=f k*B):B.natAbs∣B'.natAbs:=by
 have q:=zo (c:=B'.natAbs) (d:=B.natAbs) P B.natAbs (dm _ _) fun t ht=>by
  obtain⟨k,rfl⟩:=getD_mem ht;have e:=congrArg Int.natAbs (h k);rw [br,br] at e;rw [cB,e];exact dm _ _
 rw [F.gcd,dI] at q;exact q
theorem size{P:List Int}{f:Nat->Int}{B b:Int}(F:Fm P B)(hb:0<b)(h:∀ k,P.getD k 0*b=f k*B):B.natAbs<=b.natAbs/\∀ k,(P.getD k 0).natAbs<=(f k).natAbs:=by
 have d:B.natAbs<=b.natAbs:=dh (by omega) (EH F h);refine⟨d,fun k=>?_⟩;have e:=congrArg Int.natAbs (h k);rw [br,br] at e;have:(P.getD k 0).natAbs*b.natAbs<=(f k).natAbs*b.natAbs:=by
  rw [e];exact aB _ d
 exact Nat.le_of_mul_le_mul_right this (by omega)
end Po
namespace Cv
open L2
def sm(F:Nat->Int):Nat->Int
 | 0=>0
 | n+1=>sm F n+F n
theorem qA{F G:Nat->Int}{n:Nat}(h:∀ j,j<n->F j=G j):sm F n=sm G n:=by
 induction n with
 | zero=>rfl
 | succ n ih=>rw [sm,sm,ih fun j hj=>h j (by omega),h n (by omega)]
theorem sD{F:Nat->Int}{n m:Nat}(h:n<=m)(z:∀ j,n<=j->j<m->F j=0):sm F m=sm F n:=by
 induction m with
 | zero=>rw [show n=0 by omega]
 | succ m ih =>
  rcases bO h with e|e
  ·rw [e]
  ·rw [sm,ih (by omega) fun j a b=>z j a (by omega),z m (by omega) (by omega),bL]
def cv(f g:Nat->Int)(k:Nat):Int:=sm (fun j=>f j*g (k-j)) (k+1)
def tm(f g:Nat->Int)(i m:Nat):Int:=sm (fun j=>if j<=m then f j*g (m-j) else 0) i
theorem tM{f g:Nat->Int}{n m:Nat}(hf:∀ j,n<=j->f j=0):tm f g n m=cv f g m:=by
 unfold tm cv;have e1:sm (fun j=>if j<=m then f j*g (m-j) else 0) (max n (m+1))=sm (fun j=>if j<=m then f j*g (m-j) else 0) n:=sD (by omega) fun j a b=>by
  show (if j<=m then f j*g (m-j) else 0)=0;rw [hf j a,ax];split <;> rfl
 have e2:sm (fun j=>if j<=m then f j*g (m-j) else 0) (max n (m+1))=sm (fun j=>if j<=m then f j*g (m-j) else 0) (m+1):=sD (by omega) fun j a b=>if_neg (by omega);rw [← e1,e2];exact qA fun j hj=>if_pos (by omega)
theorem wW(f g:Nat->Int)(i m:Nat):tm f g (i+1) m=tm f g i m+(if i<=m then f i*g (m-i) else 0):=rfl
theorem rj{f g:Nat->Int}{a b k:Nat}(hf:∀ j,a<=j->f j=0)(hg:∀ j,b<=j->g j=0)(h:a+b-1<=k):cv f g k=0:=by
 unfold cv;have:sm (fun j=>f j*g (k-j)) (k+1)=sm (fun j=>f j*g (k-j)) 0:=sD (aI _) fun j _ hj=>by
  show f j*g (k-j)=0;rcases aP j a with c|c
  ·rw [hg (k-j) (by omega),bF]
  ·rw [hf j c,ax]
 rw [this];rfl
theorem AL{f g:Nat->Int}{k:Nat}(h:∀ j,f j=0):cv f g k=0:=by
 unfold cv;have:sm (fun j=>f j*g (k-j)) (k+1)=sm (fun j=>f j*g (k-j)) 0:=sD (aI _) fun j _ _=>by
  show f j*g (k-j)=0;rw [h j,ax]
 rw [this];rfl
theorem Fv{f g:Nat->Int}{k:Nat}(h:∀ j,g j=0):cv f g k=0:=by
 unfold cv;have:sm (fun j=>f j*g (k-j)) (k+1)=sm (fun j=>f j*g (k-j)) 0:=sD (aI _) fun j _ _=>by
  show f j*g (k-j)=0;rw [h,bF]
 rw [this];rfl
theorem BN{F:Nat->Int}{n b:Nat}:∀{i:Nat},i<=2^b->(∀ j,j<i->Lt2 n (F j))->(sm F i).natAbs<=i*2^n
 | 0,_,_=>by simp [sm]
 | i+1,h,hF=>by
  have ih:=BN (b:=b) (i:=i) (by omega) fun j hj=>hF j (by omega);have h1:=hF i (by omega);unfold Lt2 at h1;rw [sm,bq];omega
theorem Dh{f g:Nat->Int}{n m k b:Nat}(hf:∀ j,Lt2 n (f j))(hg:∀ j,Lt2 m (g j))(hk:k+1<2^b):Lt2 (n+m+b) (cv f g k):=by
 have:=BN (F:=fun j=>f j*g (k-j)) (n:=n+m) (b:=b) (i:=k+1) (by omega) fun j _=>(hf j).mul (hg _);unfold Lt2 cv;rw [eZ 2 (n+m) b];have p:0<2^(n+m):=bG (by decide);refine cV this ?_;rw [cB];exact Nat.mul_lt_mul_of_pos_left hk p
theorem qU{f g f' g':Nat->Int}{k:Nat}(h:∀ j,f j=f' j)(h':∀ j,g j=g' j):cv f g k=cv f' g' k:=qA fun j _=>by rw [h,h']
theorem sW(F:Nat->Int)(c:Int)(n:Nat):sm (fun j=>F j*c) n=sm F n*c:=by
 induction n with
 | zero=>simp [sm]
 | succ n ih=>rw [sm,sm,ih,dL]
theorem rX(f g:Nat->Int)(c:Int)(k:Nat):cv (fun j=>f j*c) g k=cv f g k*c:=by
 unfold cv;rw [← sW];exact qA fun j _=>by grind
theorem ud(F:Nat->Int)(n:Nat):sm F (n+1)=F 0+sm (fun j=>F (j+1)) n:=by
 induction n with
 | zero=>simp [sm]
 | succ n ih=>rw [sm,ih,sm];omega
theorem BM(F:Nat->Int)(n:Nat):sm F n=sm (fun j=>F (n-1-j)) n:=by
 induction n generalizing F with
 | zero=>rfl
 | succ n ih =>
  rw [ud (fun j=>F (n+1-1-j)) n,sm,ih F];have:sm (fun j=>F (n-1-j)) n=sm (fun j=>F (n+1-1-(j+1))) n:=qA fun j hj=>by rw [show n+1-1-(j+1)=n-1-j by omega]
  rw [this,show n+1-1-0=n by omega];omega
theorem rP(f g:Nat->Int)(k:Nat):cv f g k=cv g f k:=by
 unfold cv;rw [BM];refine qA fun j hj=>?_;rw [show k+1-1-j=k-j by omega,show k-(k-j)=j by omega,bv]
def fn(P:List Int):Nat->Int:=fun j=>P.getD j 0
theorem qr{P:List Int}{j:Nat}(h:P.length<=j):fn P j=0:=by
 unfold fn;rw [ah,aS h];rfl
theorem yY:Po.Fm [1] 1:=⟨by decide,.inr (by decide),by decide⟩
end Cv
namespace RV
open PySem PyProof.Rows
theorem xV:Manifest.owners.lookup (String.ofList ['d','e','s','r','e','v','e','r'].reverse)=some Manifest.sig_reversed:=by kernel_rfl
theorem slot_next:Slot "reversed" "__next__" "reversed.__next__" := .of (owner := "reversed") (n := "__next__") (by rw [typeLookup_type,builtinLookup_eq_fast];kernel_rfl) (by decide +kernel) (by decide +kernel) (by decide +kernel) (by first|exact .inl (by decide +kernel)|exact .inr (by decide +kernel)) (by rw [isSubtype_type];kernel_rfl)
theorem wj:Slot "reversed" "__iter__" "reversed.__iter__" := .of (owner := "reversed") (n := "__iter__") (by rw [typeLookup_type,builtinLookup_eq_fast];kernel_rfl) (by decide +kernel) (by decide +kernel) (by decide +kernel) (by first|exact .inl (by decide +kernel)|exact .inr (by decide +kernel)) (by rw [isSubtype_type];kernel_rfl)
theorem AX:Slot "reversed" "__init__" "object.__init__" := .of (owner := "object") (n := "__init__") (by rw [typeLookup_type,builtinLookup_eq_fast];kernel_rfl) (by decide +kernel) (by decide +kernel) (by decide +kernel) (by first|exact .inl (by decide +kernel)|exact .inr (by decide +kernel)) (by rw [isSubtype_type];kernel_rfl)
theorem vO:entryFor table "reversed.__next__" = some Builtin.«reversed.__next__» := entryFor_of_tree (by kernel_rfl)
theorem zn:entryFor table "reversed.__iter__" = some Builtin.«dict_keyiterator.__iter__» := entryFor_alias (id' := "dict_keyiterator.__iter__") (by kernel_rfl) (by first|rfl|decide +kernel|(unfold String.splitOn;simp +decide [String.splitOnAux])) (by decide +kernel) (by kernel_rfl)
theorem wL(a:Value):argsOk "reversed.__next__" ⟨[a],[]⟩:=by
 unfold argsOk;rw [signature?_of (id := "reversed.__next__") (n:=['_','_','t','x','e','n','_','_']) (o:=['d','e','s','r','e','v','e','r']) (by kernel_rfl) xV];kernel_rfl
theorem Bx(a:Value):argsOk "reversed.__iter__" ⟨[a],[]⟩:=by
 unfold argsOk;rw [signature?_of (id := "reversed.__iter__") (n:=['_','_','r','e','t','i','_','_']) (o:=['d','e','s','r','e','v','e','r']) (by kernel_rfl) xV];kernel_rfl
theorem GD:typeLookup (.type "tuple") "__reversed__" = pure none:=by rw [typeLookup_type,builtinLookup_eq_fast];kernel_rfl
theorem Hf:TypeCalled "reversed" "reversed.__new__" "object.__init__" := ⟨by decide +kernel,by decide +kernel,⟨_,_,F.mro_reversed⟩,F.made_reversed,by decide +kernel,by rw [isSubtype_type];kernel_rfl,AX⟩
theorem El:isSubtype (.type "tuple") (.type "dict")=pure false:=by rw [isSubtype_type];kernel_rfl
section
variable{prog:Program}{w:World}{A:Around}{E:Value->Shared->Prop}{s:Shared}
theorem Bd(t:Addr)(items:Array Value)(n:Nat)(dct:Option Addr)(sl:Array (Option Value)) :
  Meets (Builtin.«reversed.__new__» ⟨[.type "reversed",.ref t],[]⟩) (fun _ R s=>s.heap.get? t=some { cls:=.type "tuple",dict:=dct,data:=.seq items n,slots:=sl }/\(items.size:Int)<2^63 /\
   ∀ tk,R (.ok (.ret (.ref s.heap.objs.size))) { s with heap:=s.heap.push { cls:=.type "reversed",data:=.fields #[.ref t,rawInt ((items.size:Int)-1)] },toks:=tk }) :=
 .of_wp fun prog w A R s h=>by
  obtain⟨ht,hsz,h⟩:=h;have hT:s.heap.IsTuple t items:=⟨_,ht,rfl,n,rfl⟩;unfold Builtin.«reversed.__new__»;refine wpAny_bind (wpAny_of_eq (newClass_reversed _) ?_);try dsimp only
  refine wpAny_bind (wpAny_of_eq (a:=()) (by first|rfl|kernel_rfl) ?_);refine wpAny_bind (wpAny_of_eq (a:=()) (by first|rfl|kernel_rfl) ?_);try dsimp only
  refine wpAny_bind (wpAny_specialOf hT.typeIs GD ?_);try dsimp only
  refine wpAny_bind ?_;show wpAny _ _ (isInstance (.ref t) (.type "dict") >>= _) _ _ s;refine wpAny_bind (wpAny_isInstance hT.typeIs El ?_);try dsimp only
  show wpAny _ _ (if false=true then _ else _) _ _ s;rw [if_neg ay];refine wpAny_bind (wpAny_specialOf hT.typeIs PyProof.Rows.slot_tuple_getitem.lookup ?_);try dsimp only
  show wpAny _ _ (if _=true then _ else _) _ _ s;rw [if_pos (by decide)];refine wpAny_pure ?_;show wpAny _ _ (if (!true)=true then _ else _) _ _ s;rw [if_neg (by decide)];refine wpAny_bind (PyProof.Rows.len_tuple hT hsz ?_);refine wpAny_bind (m:=asInt? _) (wpAny_pure ?_);try dsimp only
  refine wpAny_bind ?_;show wpAny _ _ (newObj (.type "reversed") (.fields #[.ref t,rawInt ((items.size:Int)-1)])) _ _ _;refine wpAny_newObj_type ?_ (by size_fits);exact wpAny_pure ⟨_,rfl,h _⟩
theorem Dm{t:Addr}{items:Array Value}{Q:Value->Shared->Prop}(hT:s.heap.IsTuple t items)(hsz:(items.size:Int)<2^63)
  (h:∀ tk,Q (.ref s.heap.objs.size) { s with heap:=s.heap.push { cls:=.type "reversed",data:=.fields #[.ref t,rawInt ((items.size:Int)-1)] },toks:=tk }):wpAny (model prog w) A (call (.type "reversed") [.ref t]) Q E s:=by
 obtain⟨⟨c,dct,dt,sl⟩,hl,hc,n,hd⟩:=hT;have hc':c = .type "tuple" := hc;have hd':dt = .seq items n:=hd;subst hc' hd';refine callType_new Hf (by decide) (F.typeCall_reversed_1 _) (F.newCall_reversed_1 _) (fun obj=>F.args_object_init_2 obj _) F.entry_reversed_new (Bd t items n dct sl) ⟨hl,hsz,fun tk=>?_⟩;exact⟨⟨_,Heap.get?_push_size _ rfl,rfl⟩,h tk⟩
def Is(h:Heap)(a t:Addr)(i:Int):Prop:=∃ o,h.get? a=some o/\o.cls = .type "reversed" /\ o.data = .fields #[.ref t,rawInt i]
theorem Is.ty{a t:Addr}{i:Int}(x:Is s.heap a t i):s.TypeIs (.ref a) "reversed" := let ⟨o,ho,hc,_⟩:=x;⟨o,ho,hc⟩
theorem ww{a t:Addr}{i:Int}{Q:Value->Shared->Prop}(x:Is s.heap a t i)(h:Q (.ref a) s):wpAny (model prog w) A (pyIter (.ref a)) Q E s:=by
 refine wpAny_pyIter_slot x.ty wj (wpAny_call_entry wj x.ty zn ?_ (Bx _));show wpAny _ _ (ret (.ref a)) _ _ s;exact wpAny_pure ⟨_,rfl, "reversed",_,x.ty,slot_next.lookup,h⟩
theorem Bc{it t:Addr}{i:Nat}{items:Array Value}{x:Value}{Q:Option Value->Shared->Prop}(hit:Is s.heap it t (i:Int))(hT:s.heap.IsTuple t items)(hx:items[i]? = some x)(hsz:(items.size:Int)<2^63)
  (hQ:∀ h' tk,Is h' it t ((i:Int)-1)->Heap.SameBut it s.heap h'->Q (some x) { s with heap:=h',toks:=tk }):wpAny (model prog w) A (pyNext (.ref it)) Q E s:=by
 obtain⟨o,ho,hc,hd⟩:=id hit;unfold pyNext;refine wpAny_bind (wpAny_attempt (wpAny_callSpecial?_slot (name:=Str.ofString "__next__") hit.ty slot_next (wpAny_call_entry slot_next hit.ty vO ?_ (wL _))));unfold Builtin.«reversed.__next__»;refine wpAny_bind (wpAny_of_eq (a:=(Value.ref it,[])) rfl ?_);try dsimp only
 refine wpAny_bind (wpAny_field ho hd (x:=.ref t) rfl ?_);refine wpAny_bind (wpAny_field ho hd (x:=rawInt (i:Int)) rfl ?_);try dsimp only [rawInt]
 rw [if_neg (by omega)];refine wpAny_bind (wpAny_specialOf hT.typeIs PyProof.Rows.slot_tuple_getitem.lookup ?_);show wpAny _ _ (if false=true then _ else _) _ _ s;rw [if_neg ay];refine wpAny_bind (wpAny_mkInt ?_);have hlt:i<items.size:=(Array.getElem?_eq_some_iff.mp hx).1;refine wpAny_bind (wpAny_attempt ?_);refine PyProof.Rows.getItem_tuple (j:=i) (x:=x) hT (by omega) (by omega) (by unfold seqIndex?;simp;omega) hx ?_;try dsimp only
 refine wpAny_bind (wpAny_field (s:={ s with toks:=s.toks+1 }) ho hd (x:=rawInt (i:Int)) rfl ?_);try dsimp only [rawInt]
 refine wpAny_bind (wpAny_setField (s:={ s with toks:=s.toks+1 }) ho hd (by simp) (wpAny_pure ⟨x,rfl,wpAny_pure (hQ _ _ ?_ (Heap.SameBut.update ..))⟩));exact⟨_,Heap.get?_update_self _ ho (Obj.isFreed_of_fields (Obj.data_mapFields hd _)),(Obj.cls_mapFields ..).trans hc,by rw [Obj.data_mapFields hd];simp [rawInt]⟩
theorem CK{it t:Addr}{Q:Option Value->Shared->Prop}(hh:A.handled=none)(hit:Is s.heap it t (-1))(hQ:∀ h',Heap.ExtBut it s.heap h'->Q none { s with heap:=h' }):wpAny (model prog w) A (pyNext (.ref it)) Q E s:=by
 obtain⟨o,ho,hc,hd⟩:=id hit;unfold pyNext;refine wpAny_bind (wpAny_attempt (wpAny_callSpecial?_slot (name:=Str.ofString "__next__") hit.ty slot_next (wpAny_call_entry slot_next hit.ty vO ?_ (wL _))));unfold Builtin.«reversed.__next__»;refine wpAny_bind (wpAny_of_eq (a:=(Value.ref it,[])) rfl ?_);try dsimp only
 refine wpAny_bind (wpAny_field ho hd (x:=.ref t) rfl ?_);refine wpAny_bind (wpAny_field ho hd (x:=rawInt (-1)) rfl ?_);try dsimp only [rawInt]
 rw [if_pos (by decide)];refine wpAny_bind (wpAny_rule ?_);refine wpAny_bind ?_;show wpAny _ _ (setField (.ref it) 1 (rawInt (-1)) >>= _) _ _ s;refine wpAny_bind (wpAny_setField ho hd (by simp) ?_);have ho':=Heap.get?_update_self (h:=s.heap) (Obj.mapFields (·.setIfInBounds 1 (rawInt (-1)))) ho (Obj.isFreed_of_fields (Obj.data_mapFields hd _));refine wpAny_setField ho' (Obj.data_mapFields hd _) (by simp) ?_;refine wpAny_bind ?_;unfold Builtin.SmallTypes.stopIteration;refine wpAny_bind ?_;simp only [newExc,newTuple];refine wpAny_bind (wpAny_newObj_type ?_ (by size_fits));refine wpAny_bind (m:=firstArgMember _ _) (wpAny_of_eq (a:=Value.none) (by first|rfl|(simp only [firstArgMember];rfl)) ?_);refine wpAny_newObj_type ?_ (by size_fits);simp only [raiseNew];refine wpAny_bind (wpAny_handled ?_);first|rw [show A.in1.handled=none from hh]|rw [hh]
 refine wpAny_bind (wpAny_pure (wpAny_throw ?_));refine wpAny_bind (wpAny_isInstance (T := "StopIteration") (b:=true) ⟨_,Heap.get?_push_size _ rfl,rfl⟩ isSubtype_stop ?_);refine wpAny_pure (hQ _ fun b o hb e=>?_);refine Heap.get?_push_of_some _ (Heap.get?_push_of_some _ ?_);exact (Heap.SameBut.update ..).extBut b o hb ((Heap.SameBut.update ..).extBut b o hb e)
end
end RV
namespace L2
open PySem PySem.Spec PyProof.Rows
theorem BF{P:Program}{w:World}{K:Frag}{tg:Expr}(n:Nat)(a it:Addr):Turn P w K tg (⟨fun i H=>i<n/\∃ xs x,SqT K H a xs/\xs.length=n/\xs.reverse[i]? = some x,fun i H x H'=>H'=H/\∀ xs,SqT K H a xs->xs.reverse[i]? = some x,fun i H=>i=n⟩:It) [it] it (fun i h=>RV.Is h it a ((n:Int)-1-(i:Int))) where
 mem:=by simp
 obj:=fun i h st b hb=>by
  have e:b=it:=by simpa using hb
  subst e;obtain⟨o,e,c,d⟩:=st;exact⟨o,e,fun v z=>by rw [d] at z;cases z⟩
 keep:=fun i h h' st k=>by
  obtain⟨o,e,r⟩:=st;exact⟨o,k it (by simp) o e,r⟩
 item:=by
  intro X hP hw hK hc i pins s σ H E I hf st hg;subst hP hw hK;obtain⟨hlt,xs,x,hq,hn,hx⟩:=hg;obtain⟨its,rv,p,hz⟩:=I.tuple hq;have hlen:=rv.length;rw [bM (by omega)] at hx;obtain⟨u,hu,ru⟩:=rv.get hx;obtain⟨f0,f1,f2,f3,f4,f5⟩:=hf it (by simp);have e0:(n:Int)-1-(i:Int)=((xs.length-1-i:Nat):Int):=by omega
  have st':RV.Is s.heap it a ((xs.length-1-i:Nat):Int):=by rw [← e0];exact st
  have hn63:=so;refine RV.Bc (i:=xs.length-1-i) st' (show s.heap.IsTuple a its.toArray from p) (x:=u) (by simpa using hu) (by rw [am];omega) fun h' tk st2 sb=>?_;have I1:Inv X pins σ H { s with heap:=h',toks:=tk }:=I.turned (t':=tk) (fun b o hb e=>(sb.2 b hb).trans e) f0 f1 f3 f4 f5;obtain⟨o,e,c,d⟩:=id st2;refine⟨u,rfl,yk (s:={ s with heap:=h',toks:=tk }) e c d (by decide) ⟨x,H,I1,ru,⟨rfl,fun ys hy=>?_⟩,?_,fun b hb=>(hf b hb).1⟩⟩
  ·rw [I.tuple_inj hy hq,bM (by omega)];exact hx
  ·show RV.Is h' it a ((n:Int)-1-((i+1:Nat):Int));rw [show (n:Int)-1-((i+1:Nat):Int)=((xs.length-1-i:Nat):Int)-1 by omega];exact st2
 done:=by
  intro X hP hw hK hc i pins s σ H E I hf st hg;subst hP hw hK;have hg':i=n:=hg;subst hg';obtain⟨f0,f1,f2,f3,f4,f5⟩:=hf it (by simp);have st':RV.Is s.heap it a (-1):=by
   have e:(i:Int)-1-(i:Int) = -1:=by omega
   rw [← e];exact st
  exact RV.CK (I.ok.hd hc) st' fun h' eb=>⟨rfl,I.turned (t':=s.toks) (fun b o hb e=>eb b o hb e) f0 f1 f3 f4 f5⟩
 self:=fun _ _ _ _ _ st h=>RV.ww st h
end L2
namespace Hv
open L2
def hv(F:Nat->Int)(t u:Int):Nat->Int
 | 0=>0
 | n+1=>(hv F t u n+F n*t^n)*u
theorem rF{r:Nat}{u:Int}(h:Lt2 r u):∀ i,Lt2 (r*i+1) (u^i)
 | 0=>by rw [bc];unfold Lt2;exact az (show (1:Int).natAbs<2^1 by decide) (cO (by decide) (by omega))
 | i+1=>by
  rw [bC];exact ((rF h i).mul h).mono (by rw [bJ];omega)
theorem pow_pos{u:Int}(h:0<u):∀ i:Nat,0<u^i
 | 0=>by rw [bc];decide
 | i+1=>by rw [bC];exact av (pow_pos h i) h
theorem vL{F G:Nat->Int}{t u:Int}{n:Nat}(h:∀ j,j<n->F j=G j):hv F t u n=hv G t u n:=by
 induction n with
 | zero=>rfl
 | succ n ih=>rw [hv,hv,ih fun j hj=>h j (by omega),h n (by omega)]
theorem CT{F:Nat->Int}{t u:Int}{n:Nat}(h:∀ k,n<=k->F k=0):∀ j,hv F t u (n+j)=hv F t u n*u^j
 | 0=>by rw [Nat.add_zero,bc,bo]
 | j+1=>by rw [← cN,hv,CT h j,h (n+j) (by omega),ax,bL,bC,bI]
theorem zd(F G:Nat->Int)(t u:Int):∀ n,hv (fun k=>F k+G k) t u n=hv F t u n+hv G t u n
 | 0=>rfl
 | n+1=>by rw [hv,hv,hv,zd F G t u n];grind
theorem zc(F:Nat->Int)(c t u:Int):∀ n,hv (fun k=>F k*c) t u n=hv F t u n*c
 | 0=>by simp [hv]
 | n+1=>by rw [hv,hv,zc F c t u n];grind
theorem AD{F:Nat->Int}{t u:Int}{n:Nat}(h:∀ j,j<n->F j=0):hv F t u n=0:=by
 induction n with
 | zero=>rfl
 | succ n ih=>rw [hv,ih fun j hj=>h j (by omega),h n (by omega)];simp
theorem yh(g:Nat->Int)(c t u:Int)(i:Nat):∀ k,hv (fun m=>if i<=m then c*g (m-i) else 0) t u (i+k)=c*t^i*hv g t u k
 | 0=>by
  rw [Nat.add_zero,AD fun j hj=>if_neg (by omega)];simp [hv]
 | k+1=>by
  rw [← cN,hv,yh g c t u i k,if_pos (by omega),show i+k-i=k by omega,hv,de];grind
theorem Fk(f g:Nat->Int)(t u:Int){m:Nat}(hg:∀ k,m<=k->g k=0)(n:Nat):∀ i,i<=n->hv (fun k=>Cv.tm f g i k) t u (n+m)=hv f t u i*u^(n-i)*hv g t u m
 | 0,_=>by
  rw [AD (F:=fun k=>Cv.tm f g 0 k) fun j _=>rfl];simp [hv]
 | i+1,h=>by
  have ih:=Fk f g t u hg n i (by omega);have e:hv (fun k=>Cv.tm f g (i+1) k) t u (n+m)=hv (fun k=>Cv.tm f g i k+(if i<=k then f i*g (k-i) else 0)) t u (n+m):=vL fun j _=>rfl;rw [e,zd,ih];obtain⟨d,rfl⟩:∃ d,n=i+1+d:=⟨n-(i+1),by omega⟩;have e2:i+1+d+m=i+(m+(d+1)):=by omega
  rw [e2,yh,CT hg (d+1),hv,show i+1+d-i=d+1 by omega,show i+1+d-(i+1)=d by omega,bC];grind
theorem Jd{f g:Nat->Int}{t u:Int}{n m:Nat}(hf:∀ k,n<=k->f k=0)(hg:∀ k,m<=k->g k=0):hv (Cv.cv f g) t u (n+m)=hv f t u n*hv g t u m:=by
 have e:=Fk f g t u hg n n (aq _);rw [bW,bc,bo] at e;rw [← e];exact vL fun j _=>(Cv.tM hf).symm
end Hv
namespace Pc
open L2 Cv Hv
theorem BO(F:Nat->Int)(i:Nat):∀ n,sm F (i+n)=sm F i+sm (fun j=>F (i+j)) n
 | 0=>by simp [sm]
 | n+1=>by rw [← cN,sm,BO F i n,sm];omega
theorem tY(F G:Nat->Int):∀ n,sm (fun j=>F j+G j) n=sm F n+sm G n
 | 0=>rfl
 | n+1=>by rw [sm,sm,sm,tY F G n];omega
theorem Dj(f g h:Nat->Int)(k:Nat):cv (fun j=>f j+g j) h k=cv f h k+cv g h k:=by
 unfold cv;rw [← tY];exact qA fun j _=>by rw [dL]
theorem Di(f g h:Nat->Int)(k:Nat):cv h (fun j=>f j+g j) k=cv h f k+cv h g k:=by
 unfold cv;rw [← tY];exact qA fun j _=>by rw [Int.mul_add]
theorem Dg(f g:Nat->Int)(c:Int)(k:Nat):cv f (fun j=>g j*c) k=cv f g k*c:=by
 unfold cv;rw [← sW];exact qA fun j _=>by grind
theorem De(g h:Nat->Int)(c:Int)(i k:Nat):cv (fun m=>if i<=m then c*g (m-i) else 0) h k=if i<=k then c*cv g h (k-i) else 0:=by
 unfold cv;by_cases hk:i<=k
 ·rw [if_pos hk];obtain⟨d,rfl⟩:∃ d,k=i+d:=⟨k-i,by omega⟩;rw [show i+d+1=i+(d+1) by omega,BO];have e1:sm (fun j=>(if i<=j then c*g (j-i) else 0)*h (i+d-j)) i=0:=by
   rw [sD (n:=0) (aI _) fun j _ hj=>by show (if i<=j then _ else 0)*_=0;rw [if_neg (by omega),ax]];rfl
  rw [e1,ce,show i+d-i=d by omega,bv c,← sW];refine qA fun j _=>?_;show (if i<=i+j then c*g (i+j-i) else 0)*h (i+d-(i+j))=g j*h (d-j)*c;rw [if_pos (by omega),show i+j-i=j by omega,show i+d-(i+j)=d-j by omega];grind
 ·rw [if_neg hk,sD (n:=0) (aI _) fun j _ hj=>by show (if i<=j then _ else 0)*_=0;rw [if_neg (by omega),ax]];rfl
theorem Fw(f g h:Nat->Int):∀(n k:Nat),cv (fun m=>tm f g n m) h k=tm f (fun m=>cv g h m) n k
 | 0,k=>by
  have:cv (fun m=>tm f g 0 m) h k=0:=AL fun j=>rfl;rw [this];rfl
 | n+1,k=>by
  rw [wW,← Fw f g h n k,← De g h (f n) n k,← Dj];rfl
theorem uv{f g h:Nat->Int}{n:Nat}(hf:∀ k,n<=k->f k=0)(k:Nat):cv (fun m=>cv f g m) h k=cv f (fun m=>cv g h m) k:=by
 rw [← tM (g:=fun m=>cv g h m) hf,← Fw f g h n k];exact qU (fun j=>(tM hf).symm) fun _=>rfl
def d0:Nat->Int:=fun k=>if k=0 then 1 else 0
theorem Fy(f:Nat->Int)(k:Nat):cv d0 f k=f k:=by
 have:tm d0 f 1 k=cv d0 f k:=tM fun j hj=>by show (if j=0 then (1:Int) else 0)=0;rw [if_neg (by omega)]
 rw [← this];show 0+(if 0<=k then d0 0*f (k-0) else 0)=f k;rw [if_pos (aI _),bE];show 0+1*f k=f k;omega
def cp(g:Nat->Int):Nat->(Nat->Int)
 | 0=>d0
 | n+1=>fun k=>cv (cp g n) g k
theorem zy{g:Nat->Int}{m:Nat}(hg:∀ k,m<=k->g k=0):∀(n k:Nat),n*m+1<=k->cp g n k=0
 | 0,k,h=>by show (if k=0 then (1:Int) else 0)=0;rw [if_neg (by omega)]
 | n+1,k,h=>rj (a:=n*m+1) (b:=m) (zy hg n) hg (by rw [bq] at h;omega)
def pc(F g:Nat->Int)(U:Int):Nat->(Nat->Int)
 | 0=>fun _=>0
 | n+1=>fun k=>(pc F g U n k+F n*cp g n k)*U
theorem GU{F g M:Nat->Int}{U:Int}{L i k:Nat}{m:Nat}(hg:∀ k,m<=k->g k=0)(hi:i<L)(h:∀ j,pc F g U L j=U^i*pc F g U (L-i) j+U*cv (cp g (L-i)) M j)(M':Nat->Int)(hM:∀ j,M' j=cv M g j+(if j=0 then F (L-1-i)*U^i else 0)) :
  pc F g U L k=U^(i+1)*pc F g U (L-(i+1)) k+U*cv (cp g (L-(i+1))) M' k:=by
 obtain⟨d,rfl⟩:∃ d,L=i+1+d:=⟨L-(i+1),by omega⟩;rw [h k,show i+1+d-i=d+1 by omega,show i+1+d-(i+1)=d by omega,pc,bC];have e1:cv (cp g (d+1)) M k=cv (cp g d) (fun m=>cv M g m) k:=by
  show cv (fun m=>cv (cp g d) g m) M k=_;rw [uv (n:=d*m+1) (zy hg d)];exact qU (fun _=>rfl) fun j=>rP _ _ _
 have e2:cv (cp g d) M' k=cv (cp g d) (fun m=>cv M g m) k+cp g d k*(F d*U^i):=by
  have:cv (cp g d) M' k=cv (cp g d) (fun j=>cv M g j+d0 j*(F d*U^i)) k:=qU (fun _=>rfl) fun j=>by
   rw [hM j,show i+1+d-1-i=d by omega];unfold d0;by_cases z:j=0
   ·rw [if_pos z,if_pos z,bA]
   ·rw [if_neg z,if_neg z,ax]
  rw [this,Di,Dg,rP (cp g d) d0,Fy]
 rw [e1,e2];show U^i*((pc F g U d k+F d*cp g d k)*U)+_=_;grind
structure Wq (P:List Int)(B t u a b:Int):Prop where
 pos:0<b
 is:a*(B*u^P.length)=hv (fn P) t u P.length*b
theorem Wq.at{P:List Int}{B t u a b:Int}(h:Wq P B t u a b){N:Nat}(hN:P.length<=N):a*(B*u^N)=hv (fn P) t u N*b:=by
 obtain⟨j,rfl⟩:∃ j,N=P.length+j:=⟨N-P.length,by omega⟩;rw [CT (fun k hk=>qr hk) j,de];have:=h.is
 calc a*(B*(u^P.length*u^j))=(a*(B*u^P.length))*u^j:=by grind
  _=hv (fn P) t u P.length*b*u^j:=by rw [this]
  _=_:=by grind
theorem yy{F:Nat->Int}{t:Int}(ht:0<t):∀{n:Nat},(∀ k,k<n->(F k).natAbs<t.natAbs)->sm (fun k=>F k*t^k) n=0->∀ k,k<n->F k=0
 | 0,_,_,k,hk=>absurd hk (eA _)
 | n+1,hF,h,k,hk=>by
  rw [ud,bc,bo] at h;have e:sm (fun j=>F (j+1)*t^(j+1)) n=sm (fun j=>F (j+1)*t^j) n*t:=by
   rw [← sW];exact qA fun j _=>by rw [bC];grind
  rw [e] at h;have z:F 0=0:=by
   have d:t∣F 0:=⟨- sm (fun j=>F (j+1)*t^j) n,by grind⟩;have l:=hF 0 (by omega);exact Int.eq_zero_of_dvd_of_natAbs_lt_natAbs d l
  rw [z,ce] at h;have h':sm (fun j=>F (j+1)*t^j) n=0:=by
   rcases bt.mp h with q|q
   ·exact q
   ·omega
  cases k with
  | zero=>exact z
  | succ k=>exact yy (F:=fun j=>F (j+1)) ht (fun j hj=>hF (j+1) (by omega)) h' k (by omega)
theorem Fn(F:Nat->Int)(t:Int):∀ n,hv F t 1 n=sm (fun k=>F k*t^k) n
 | 0=>rfl
 | n+1=>by rw [hv,Fn F t n,sm,bo]
theorem v8{R S:List Int}{C D:Int}(f:Po.Fm R C)(f':Po.Fm S D)(h:∀ t:Int,0<t->∃ x y,Wq R C t 1 x y/\Wq S D t 1 x y):R=S/\C=D:=by
 refine Po.uniq f f' fun k=>?_;let N:=max R.length S.length
 let F:Nat->Int:=fun j=>fn R j*D-fn S j*C
 have bd:∃ t:Int,0<t/\∀ j,j<N->(F j).natAbs<t.natAbs:=by
  have:∀ n:Nat,∃ t:Int,0<t/\∀ j,j<n->(F j).natAbs<t.natAbs:=by
   intro n;induction n with
   | zero=>exact⟨1,by decide,fun j h=>absurd h (eA _)⟩
   | succ n ih =>
    obtain⟨t,t0,ht⟩:=ih;refine⟨t+((F n).natAbs:Int)+1,by omega,fun j hj=>?_⟩;rcases bO (dW hj) with e|e
    ·rw [e];omega
    ·have:=ht j e;omega
  exact this N
 obtain⟨t,t0,ht⟩:=bd;obtain⟨x,y,w1,w2⟩:=h t t0;have e1:=w1.at (N:=N) (by omega);have e2:=w2.at (N:=N) (by omega);rw [Int.one_pow,bo] at e1 e2;have z:sm (fun k=>F k*t^k) N=0:=by
  rw [← Fn];have:hv F t 1 N=hv (fn R) t 1 N*D+hv (fn S) t 1 N*(-C):=by
   rw [← zc,← zc,← zd];exact vL fun j _=>by show fn R j*D-fn S j*C=_;grind
  rw [this];have y0:=w1.pos;refine aA (show y≠0 by omega) ?_
  calc (hv (fn R) t 1 N*D+hv (fn S) t 1 N * -C)*y=(hv (fn R) t 1 N*y)*D-(hv (fn S) t 1 N*y)*C:=by grind
   _=(x*C)*D-(x*D)*C:=by rw [e1,e2]
   _=0*y:=by grind
 rcases aP k N with c|c
 ·have:=yy t0 ht z k c;have q:fn R k*D-fn S k*C=0:=this;show fn R k*D=fn S k*C;omega
 ·show fn R k*D=fn S k*C;rw [qr (P:=R) (by omega),qr (P:=S) (by omega)];simp
theorem AO{g:Nat->Int}{m l:Nat}(hg:∀ k,l<=k->g k=0)(hs:∀ k,Lt2 m (g k)):∀ n,n*l<=400->∀ k,Lt2 ((m+9)*n+1) (cp g n k)
 | 0,_,k=>by
  show Lt2 _ (if k=0 then (1:Int) else 0);split
  ·unfold Lt2;exact az (show (1:Int).natAbs<2^1 by decide) (cO (by decide) (by omega))
  ·exact bG (by decide)
 | n+1,h,k=>by
  rw [bq] at h;have ih:=AO hg hs n (by omega);rcases aP k 500 with c|c
  ·exact (Dh (b:=9) ih hs (by omega)).mono (by rw [bJ];omega)
  ·rw [zy hg (n+1) k (by rw [bq];omega)];exact bG (by decide)
theorem Fa{F g:Nat->Int}{U:Int}{n m c l:Nat}(hg:∀ k,l<=k->g k=0)(hF:∀ k,Lt2 n (F k))(hs:∀ k,Lt2 m (g k))(hU:Lt2 c U):∀ i,i*l<=400->∀ k,Lt2 (n+(m+c+10)*i+1) (pc F g U i k)
 | 0,_,k=>bG (by decide)
 | i+1,h,k=>by
  rw [bq] at h;have ih:=Fa hg hF hs hU i (by omega) k;have h2:Lt2 (n+(m+c+10)*i+1) (F i*cp g i k):=((hF i).mul (AO hg hs i (by omega) k)).mono (by
   have:(m+9)*i<=(m+c+10)*i:=bz _ (by omega);omega)
  exact ((ih.add h2).mul hU).mono (by rw [bJ];omega)
def X:List Int:=[0,1]
theorem KJ(k:Nat):fn X k=if k=1 then 1 else 0:=by
 match k with
 | 0=>rfl
 | 1=>rfl
 | k+2 =>
  rw [qr (P:=X) (by show 2<=_;omega),if_neg (by omega)]
theorem KR:Po.Fm X 1:=⟨by decide,.inr (by decide),by decide⟩
theorem Jp(f:Nat->Int)(k:Nat):cv f (fn X) k=if k=0 then 0 else f (k-1):=by
 rw [rP,← tM (n:=2) (fun j hj=>qr hj)];show 0+(if 0<=k then fn X 0*f (k-0) else 0)+(if 1<=k then fn X 1*f (k-1) else 0)=_;have e0:fn X 0=0:=rfl;have e1:fn X 1=1:=rfl;rw [e0,e1];by_cases z:k=0
 ·subst z;simp
 ·rw [if_neg z,if_pos (show 1<=k by omega)];simp
def Of(P:List Int)(B:Int)(G:List Int)(U:Int)(R:List Int)(C:Int):Prop:=Po.Fm R C/\∀ k,R.getD k 0*(B*U^P.length)=pc (fn P) (fn G) U P.length k*C
structure Pz (n b:Nat)(P:List Int)(B:Int):Prop where
 fm:Po.Fm P B
 tops:∀ k,Lt2 n (P.getD k 0)
 bot:Lt2 b B
theorem Pz.mono{n b n' b':Nat}{P:List Int}{B:Int}(h:Pz n b P B)(l:n<=n')(l':b<=b'):Pz n' b' P B:=⟨h.fm,fun k=>(h.tops k).mono l,h.bot.mono l'⟩
theorem Pz.of{n b:Nat}{P:List Int}{f:Nat->Int}{B c:Int}(F:Po.Fm P B)(hc:0<c)(h:∀ k,P.getD k 0*c=f k*B)(h1:∀ k,Lt2 n (f k))(h2:Lt2 b c):Pz n b P B :=
 ⟨F,fun k=>(h1 k).le ((Po.size F hc h).2 k),h2.le (Po.size F hc h).1⟩
theorem ve{g:Nat->Int}{m:Nat}(hg:∀ k,m<=k->g k=0):∀(n k:Nat),n*(m-1)+1<=k->cp g n k=0
 | 0,k,h=>by show (if k=0 then (1:Int) else 0)=0;rw [if_neg (by omega)]
 | n+1,k,h=>rj (a:=n*(m-1)+1) (b:=m) (ve hg n) hg (by rw [bq] at h;omega)
theorem xc{F g:Nat->Int}{U:Int}{m:Nat}(hg:∀ k,m<=k->g k=0):∀(n k:Nat),(n-1)*(m-1)+1<=k->pc F g U n k=0
 | 0,_,_=>rfl
 | n+1,k,h=>by
  rw [ft] at h;have:(n-1)*(m-1)<=n*(m-1):=bz _ (by omega);show (pc F g U n k+F n*cp g n k)*U=0;rw [xc hg n k (by omega),ve hg n k (by omega)];simp
theorem Of.deg{P G R:List Int}{B U C:Int}(hB:0<B)(hU:0<U)(h:Of P B G U R C):R.length<=(P.length-1)*(G.length-1)+1:=by
 rcases h.1.last with e|e
 ·subst e;exact aI _
 ·rcases aP ((P.length-1)*(G.length-1)+1) R.length with c|c
  ·refine absurd ?_ e;have e3:=h.2 (R.length-1);rw [xc (m:=G.length) (fun k hk=>qr hk) _ _ (by omega),ax] at e3;rcases bt.mp e3 with q|q
   ·exact q
   ·have:=av hB (pow_pos hU P.length);omega
  ·exact c
theorem qH{R:List Int}{C c:Int}{f:Nat->Int}{N:Nat}(F:Po.Fm R C)(hc:0<c)(h:∀ k,R.getD k 0*c=f k*C)(hf:∀ k,N<=k->f k=0):R.length<=N:=by
 rcases F.last with e|e
 ·subst e;exact aI _
 ·rcases aP N R.length with z|z
  ·refine absurd ?_ e;have e3:=h (R.length-1);rw [hf _ (by omega),ax] at e3;rcases bt.mp e3 with q|q
   ·exact q
   ·omega
  ·exact z
theorem Jz:Pz 1 1 X 1:=⟨KR,fun k=>by
 show Lt2 1 (fn X k);rw [KJ];split <;> (unfold Lt2;decide),by unfold Lt2;decide⟩
end Pc
namespace L2
instance decLt2 (n:Nat)(i:Int):Decidable (Lt2 n i):=inferInstanceAs (Decidable (i.natAbs<2^n))
end L2
namespace Pc
open L2 Cv Hv
def St(ta ba tb bb:Int)(P:List Int)(B:Int):Prop:=Po.Fm P B/\∀ k,P.getD k 0*(ba*bb)=[tb*ba,ta*bb].getD k 0*B
theorem z5(x y:Int)(k:Nat):[x,y].getD (k+2) 0=0:=by simp
theorem FR{R G T:List Int}{M:Nat->Int}{B U W C tb:Int}{k:Nat}(c0:0<C)(hR:∀ j,R.getD j 0*(B*W)=M j*U*C)(hT:T.getD k 0*(C*U)=cv (fn R) (fn G) k*tb):T.getD k 0*(B*(W*U))=cv M (fn G) k*U*tb:=by
 have e1:cv (fn R) (fn G) k*(B*W)=cv M (fn G) k*(U*C):=by
  rw [← rX,← rX];exact qU (fun j=>by show R.getD j 0*(B*W)=_;rw [hR j];grind) fun _=>rfl
 refine aA (show C≠0 by omega) ?_;generalize cv (fn R) (fn G) k=X at *;generalize cv M (fn G) k=Y at *;generalize T.getD k 0=Tk at *
 calc Tk*(B*(W*U))*C=(Tk*(C*U))*(B*W):=by grind
  _=(X*tb)*(B*W):=by rw [hT]
  _=(X*(B*W))*tb:=by grind
  _=(Y*(U*C))*tb:=by rw [e1]
  _=_:=by grind
theorem FQ{S T E:Int}{B W U tb e sb q x:Int}(t0:0<tb)(e0:0<e)(hT:T*(B*(W*U))=q*U*tb)(hE:E*B=x*e)(hS:S*(tb*e)=(T*e+E*tb)*sb):S*(B*(W*U))=(q+x*W)*U*sb:=by
 refine aA (show tb*e≠0 from ao (av t0 e0)) ?_
 calc S*(B*(W*U))*(tb*e)=(S*(tb*e))*(B*(W*U)):=by grind
  _=((T*e+E*tb)*sb)*(B*(W*U)):=by rw [hS]
  _=((T*(B*(W*U)))*e+(E*B)*(W*U)*tb)*sb:=by grind
  _=((q*U*tb)*e+(x*e)*(W*U)*tb)*sb:=by rw [hT,hE]
  _=_:=by grind
end Pc
namespace Qp
open L2 Cv Hv Pc
theorem qm{b:Int}(h:0<b):(b:Rat)≠0:=fun z=>by
 have:=eJ.mp z;omega
theorem qJ{b:Int}(h:b≠0):(b:Rat)≠0:=fun z=>h (eJ.mp z)
theorem vF{b:Rat}(h:b≠0):∀ n:Nat,b^n≠0
 | 0=>by rw [dw];decide
 | n+1=>fun z=>by
  rw [dA] at z;rcases dD.mp z with w|w
  ·exact vF h n w
  ·exact h w
theorem Aj(a:Rat){b:Rat}(h:b≠0):∀ n:Nat,(a / b)^n*b^n=a^n
 | 0=>by rw [dw,dw,dw];grind
 | n+1=>by
  have ih:=Aj a h n;rw [dA,dA,dA,← ih];grind
theorem rh{a b c d:Int}(hb:b≠0)(hd:d≠0):((a:Rat) / (b:Rat)=(c:Rat) / (d:Rat))↔a*d=c*b:=by
 have h1:=qJ hb;have h2:=qJ hd;constructor
 ·intro h;have:(a:Rat)*(d:Rat)=(c:Rat)*(b:Rat):=by grind
  rw [← ar,← ar] at this;exact Rat.intCast_inj.mp this
 ·intro h;have:(a:Rat)*(d:Rat)=(c:Rat)*(b:Rat):=by rw [← ar,← ar,h]
  grind
theorem xj(x:Rat):∃ t u:Int,0<u/\x=(t:Rat) / (u:Rat):=by
 refine⟨x.num,(x.den:Int),?_,?_⟩
 ·have:=dR x.den_nz;omega
 ·have:=Rat.num_divInt_den x;rw [Rat.divInt_eq_div] at this;exact this.symm
def ei(F:Nat->Int)(x:Rat):Nat->Rat
 | 0=>0
 | n+1=>ei F x n+(F n:Rat)*x^n
theorem Fu{F:Nat->Int}{x:Rat}{n:Nat}(h:∀ k,n<=k->F k=0):∀ j,ei F x (n+j)=ei F x n
 | 0=>rfl
 | j+1=>by
  rw [← cN,ei,Fu h j,h (n+j) (by omega)];grind
theorem C7{F G:Nat->Int}{a b:Int}{x:Rat}(h:∀ k,F k*a=G k*b):∀ n,ei F x n*(a:Rat)=ei G x n*(b:Rat)
 | 0=>by rw [ei,ei];grind
 | n+1=>by
  have ih:=C7 (x:=x) h n;have e:(F n:Rat)*(a:Rat)=(G n:Rat)*(b:Rat):=by rw [← ar,← ar,h n]
  rw [ei,ei];grind
theorem C8(F G:Nat->Int)(x:Rat):∀ n,ei (fun k=>F k+G k) x n=ei F x n+ei G x n
 | 0=>by rw [ei,ei,ei];grind
 | n+1=>by
  rw [ei,ei,ei,C8 F G x n,cu];grind
theorem vP(F:Nat->Int)(c:Int)(x:Rat):∀ n,ei (fun k=>F k*c) x n=ei F x n*(c:Rat)
 | 0=>by rw [ei,ei];grind
 | n+1=>by
  rw [ei,ei,vP F c x n,ar];grind
theorem yi(F:Nat->Int)(t:Int){u:Int}(hu:0<u):∀ n,((hv F t u n:Int):Rat)=(u:Rat)^n*ei F ((t:Rat) / (u:Rat)) n
 | 0=>by rw [hv,ei];grind
 | n+1=>by
  have hn:=qm hu;have ih:=yi F t hu n;have p:=Aj (t:Rat) hn n;rw [hv,ei,ar,cu,ar,cR,ih,dA,← p];grind
def E(P:List Int)(B:Int)(x:Rat):Rat:=ei (fn P) x P.length / (B:Rat)
theorem DC{P:List Int}{B:Int}{x:Rat}{N:Nat}(h:P.length<=N):E P B x=ei (fn P) x N / (B:Rat):=by
 obtain⟨j,rfl⟩:∃ j,N=P.length+j:=⟨N-P.length,by omega⟩;rw [Fu (fun k hk=>qr hk) j];rfl
theorem wq{P:List Int}{B t u a b:Int}(hB:0<B)(hu:0<u)(hb:0<b):Wq P B t u a b↔E P B ((t:Rat) / (u:Rat))=(a:Rat) / (b:Rat):=by
 have nB:=qm hB;have nu:=qm hu;have nb:=qm hb;have nU:=vF nu P.length;have key:=yi (fn P) t hu P.length;constructor
 ·intro h;have e:=congrArg (fun z:Int=>(z:Rat)) h.is;simp only [ar,cR] at e;rw [key] at e;unfold E;generalize (u:Rat)^P.length=U at *;generalize ei (fn P) ((t:Rat) / (u:Rat)) P.length=X at *;have:(a:Rat)*(B:Rat)=X*(b:Rat):=by
   have:((a:Rat)*(B:Rat)-X*(b:Rat))*U=0:=by grind
   rcases dD.mp this with w|w
   ·grind
   ·exact absurd w nU
  grind
 ·intro h;refine⟨hb,?_⟩;unfold E at h;have:((a*(B*u^P.length):Int):Rat)=((hv (fn P) t u P.length*b:Int):Rat):=by
   simp only [ar,cR];rw [key];generalize (u:Rat)^P.length=U at *;generalize ei (fn P) ((t:Rat) / (u:Rat)) P.length=X at *;have:X*(b:Rat)=(a:Rat)*(B:Rat):=by grind
   grind
  exact Rat.intCast_inj.mp this
theorem FC{R S:List Int}{C D:Int}(f:Po.Fm R C)(f':Po.Fm S D)(h:∀ x,E R C x=E S D x):R=S/\C=D:=by
 refine v8 f f' fun t ht=>?_;obtain⟨a,b,hb,e⟩:=xj (E R C ((t:Rat) / ((1:Int):Rat)));exact⟨a,b,(wq f.pos (by decide) hb).mpr e,(wq f'.pos (by decide) hb).mpr ((h _).symm.trans e)⟩
theorem vZ{R:List Int}{C c:Int}{f:Nat->Int}{x:Rat}{N:Nat}(hC:0<C)(hc:c≠0)(h:∀ k,R.getD k 0*c=f k*C)(hN:R.length<=N):E R C x=ei f x N / (c:Rat):=by
 rw [DC hN];have e:=C7 (F:=fn R) (G:=f) (x:=x) h N;have n1:=qm hC;have n2:=qJ hc;grind
theorem DB{P1 P2 R:List Int}{B1 B2 C:Int}(h1:0<B1)(h2:0<B2)(hC:0<C)(h:∀ k,R.getD k 0*(B1*B2)=(P1.getD k 0*B2+P2.getD k 0*B1)*C)(x:Rat):E R C x=E P1 B1 x+E P2 B2 x:=by
 have l1:P1.length<=P1.length+P2.length+R.length:=by omega
 have l2:P2.length<=P1.length+P2.length+R.length:=by omega
 have l3:R.length<=P1.length+P2.length+R.length:=by omega
 rw [vZ hC (ao (av h1 h2)) h l3,DC l1,DC l2,C8,vP,vP,ar];have n1:=qm h1;have n2:=qm h2;show (ei (fn P1) x _*_+ei (fn P2) x _*_) / _=_;generalize ei (fn P1) x (P1.length+P2.length+R.length)=X;generalize ei (fn P2) x (P1.length+P2.length+R.length)=Y;grind
theorem Jo{f g:Nat->Int}{n m:Nat}(hf:∀ k,n<=k->f k=0)(hg:∀ k,m<=k->g k=0)(x:Rat):ei (cv f g) x (n+m)=ei f x n*ei g x m:=by
 obtain⟨t,u,hu,rfl⟩:=xj x;have e:=congrArg (fun z:Int=>(z:Rat)) (Jd (t:=t) (u:=u) hf hg);simp only [ar] at e;rw [yi _ _ hu,yi _ _ hu,yi _ _ hu] at e;have n1:=vF (qm hu) n;have n2:=vF (qm hu) m;have e3:(u:Rat)^(n+m)=(u:Rat)^n*(u:Rat)^m:=by grind
 rw [e3] at e;generalize (u:Rat)^n=a at *;generalize (u:Rat)^m=b at *;generalize ei (cv f g) ((t:Rat) / (u:Rat)) (n+m)=X at *;generalize ei f ((t:Rat) / (u:Rat)) n=Y at *;generalize ei g ((t:Rat) / (u:Rat)) m=Z at *;have:(X-Y*Z)*(a*b)=0:=by grind
 rcases dD.mp this with w|w
 ·grind
 ·rcases dD.mp w with v|v
  ·exact absurd v n1
  ·exact absurd v n2
theorem vj{P1 P2 R:List Int}{B1 B2 C:Int}(h1:0<B1)(h2:0<B2)(f:Po.Fm R C)(h:∀ k,R.getD k 0*(B1*B2)=cv (fn P1) (fn P2) k*C)(x:Rat):E R C x=E P1 B1 x*E P2 B2 x:=by
 have hC:=f.pos;have p12:=av h1 h2;have l:R.length<=P1.length+P2.length:=qH f p12 h fun k hk=>rj (a:=P1.length) (b:=P2.length) (fun j h=>qr h) (fun j h=>qr h) (by omega);rw [vZ hC (ao p12) h l,Jo (fun k h=>qr h) (fun k h=>qr h),ar];have n1:=qm h1;have n2:=qm h2;unfold E;grind
theorem LL(F:Nat->Int)(x:Rat):ei F x 1=(F 0:Rat):=by
 show 0+(F 0:Rat)*x^0=_;rw [dw];grind
theorem LK(F:Nat->Int)(x:Rat):ei F x 2=(F 0:Rat)+(F 1:Rat)*x:=by
 show ei F x 1+(F 1:Rat)*x^1=_;rw [LL,Rat.pow_one]
theorem KZ{ta ba tb bb B:Int}{P:List Int}(h:St ta ba tb bb P B)(h1:0<ba)(h2:0<bb)(x:Rat):E P B x=(ta:Rat) / (ba:Rat)*x+(tb:Rat) / (bb:Rat):=by
 have p:=av h1 h2;have l:P.length<=2:=qH h.1 p h.2 fun k hk=>by
  obtain⟨j,rfl⟩:∃ j,k=j+2:=⟨k-2,by omega⟩;exact z5 _ _ _
 rw [vZ h.1.pos (ao p) h.2 l,LK];show (((tb*ba:Int):Rat)+((ta*bb:Int):Rat)*x) / ((ba*bb:Int):Rat)=_;rw [ar,ar,ar];have n1:=qm h1;have n2:=qm h2;grind
def q(P:List Int)(B:Int)(k:Nat):Rat:=((P.getD k 0:Int):Rat) / (B:Rat)
theorem uC{R:List Int}{C c:Int}{f:Nat->Int}(hC:0<C)(hc:c≠0)(h:∀ k,R.getD k 0*c=f k*C)(k:Nat):q R C k=((f k:Int):Rat) / (c:Rat):=(rh (ao hC) hc).mpr (h k)
theorem Af{P:List Int}{B:Int}{k:Nat}(h:P.length<=k):q P B k=0:=by
 unfold q;rw [ah,aS h];show ((0:Int):Rat) / _=0;grind
theorem Gd{P:List Int}{B:Int}(f:Po.Fm P B)(h:P≠[]):q P B (P.length-1)≠0:=by
 rcases f.last with e|e
 ·exact absurd e h
 ·unfold q;have n1:=qJ e;have n2:=qm f.pos;intro z;generalize ((P.getD (P.length-1) 0:Int):Rat)=a at *;grind
end Qp
namespace L2
open PySem Qp
variable{K:Frag}{H H':Hp}{v:V}{r:Rat}{n b n' b':Nat}
theorem Fq.ne{p:Addr}{t u:Int}(hu:0<u)(e:r=(t:Rat) / (u:Rat)):r≠0↔t≠0:=by
 have n1:=qm hu;subst e;constructor
 ·intro h z;subst z;refine h ?_;have:((0:Int):Rat)=0:=rfl;rw [this];grind
 ·intro h z;have h':=qJ h;generalize (t:Rat)=a at *;grind
end L2
namespace Qp
open L2 Cv Hv Pc
theorem E7{P1 P2 R:List Int}{B1 B2 C:Int}(h1:0<B1)(h2:0<B2)(hC:0<C)(h:∀ k,R.getD k 0*(B1*B2)=(P1.getD k 0*B2+P2.getD k 0*B1)*C)(k:Nat):q R C k=q P1 B1 k+q P2 B2 k:=by
 have e:=uC (f:=fun k=>P1.getD k 0*B2+P2.getD k 0*B1) hC (ao (av h1 h2)) h k;rw [e];have n1:=qm h1;have n2:=qm h2;unfold q;simp only [ar,cu];grind
end Qp
namespace L2
open PySem PySem.Spec PyProof.Rows
section
variable{X:Cx}{e:Expr}{te:TE}{lo hi:Option Expr}{se:Expr}{tl th ts:TO}{pos p2:Pos}
def JB(X:Cx)(r:V->Option Int->Option Int->Option Int->Hp->VK->Prop):Prop :=
 ∀(pins:List (Addr×Obj)) (s:Shared) (σ:St) (H:Hp) (x:V) (v vl vu vs:Value) (lo hi st:Option Int) (sl:Addr) (Q:VK),Inv X pins σ H s->RelV x v->s.heap.IsSliceOf sl vl vu vs->IsPart vl lo->IsPart vu hi->IsPart vs st->r x lo hi st H Q ->
  ∃ T id,typeLookup (.type T) "__getitem__" = pure (some (.builtin id))/\s.TypeIs v T/\wpAny (model X.prog X.w) X.A (getItem v (.ref sl)) (EP X pins σ Q) X.xe s
def JX(r:V->Option Int->Option Int->Option Int->Hp->VK->Prop)(te:TE)(tl th ts:TO):TE:=fun σ H Q=>te σ H fun x H1=>tl σ H1 fun l H2=>th σ H2 fun u H3=>ts σ H3 fun k H4=>r x l u k H4 Q
theorem A6{r:V->Option Int->Option Int->Option Int->Hp->VK->Prop}(hr:JB X r)(he:PE X e te)(hl:PO X lo tl)(hu:PO X hi th)(hs:PO X (some se) ts):PE X (.Subscript e (.Slice lo hi (some se) p2) pos) (JX r te tl th ts):=by
 intro pins s σ H Q I h;refine Subscript_ (qI (he pins s σ H _ I h) fun v s1 ⟨x,H1,I1,r1,q1⟩=>?_);refine wpAny_Slice (qI (hl pins s1 σ H1 _ I1 q1) fun vl s2 ⟨l,H2,I2,pl,q2⟩=>qI (hu pins s2 σ H2 _ I2 q2) fun vu s3 ⟨u,H3,I3,pu,q3⟩=>qI (hs pins s3 σ H3 _ I3 q3) fun vs s4 ⟨k,H4,I4,pk,q4⟩=>?_);have I5:Inv X pins σ H4 { s4 with heap:=s4.heap.push { cls:=.type "slice",data:=.fields #[vl,vu,vs] } }:=I4.kept (t':=s4.toks) fun b ob q=>Heap.get?_push_of_some _ q;obtain⟨T,id,hT,ht,hg⟩:=hr pins { s4 with heap:=s4.heap.push { cls:=.type "slice",data:=.fields #[vl,vu,vs] } } σ H4 x v vl vu vs l u k s4.heap.objs.size Q I5 r1 (Heap.IsSliceOf.new ..) pl pu pk q4;show wpAny (model X.prog X.w) X.A (subscriptTail e (.Slice lo hi (some se) p2) v (.ref s4.heap.objs.size)) (EP X pins σ Q) X.xe { s4 with heap:=s4.heap.push { cls:=.type "slice",data:=.fields #[vl,vu,vs] } };exact tail_any (ops:=[v,.ref s4.heap.objs.size]) ht hT hg (by with_unfolding_all rfl)
theorem J9(K:Frag)(hK:X.K=K:=by rfl):JB X (fun x lo hi st H Q=>lo=none/\hi=none/\st=some (-1)/\∃ a xs,x = .ref a/\SqL K H a xs/\∀ p,H p=none->Q (.ref p) (qR H p (.lst xs.reverse))):=by
 subst hK;intro pins s σ H x v vl vu vs lo hi st sl Q I rx hs pl pu pk h;obtain⟨rfl,rfl,rfl,a,xs,rfl,hx,q⟩:=h;cases rx;obtain⟨its,r,ht,hz⟩:=I.list hx;have hlen:=r.length;refine⟨"list",_,slot_list_getitem.lookup,ht.isList.typeIs,?_⟩;refine wpAny_getItem_list_slice ht.isList hs pl pu pk (by decide) ?_ (by rw [am] <;> omega);rw [PySem.W.krv_pick];refine⟨.ref s.heap.objs.size,_,I.laid (t':=s.toks) (o:=.lst xs.reverse) (fun b ob q=>Heap.get?_push_of_some _ q) (aq _) ?_,rfl,q _ (I.hok.fresh (aq _))⟩;exact⟨by rw [bK];exact hz,its.reverse,0,r.reverse,Heap.get?_push_size _ rfl⟩
end
def JC(K:Frag)(H:Hp)(v:V)(P:List Int)(B:Int):Prop:=∃ a t,v = .ref a/\SqT K H a [.ref t,.int B]/\SqT K H t (P.map V.int)
theorem Pol.k{K:Frag}{H:Hp}{v:V}{P:List Int}{B:Int}(h:Pol H v P B):JC K H v P B:=by
 obtain⟨a,t,e,h1,h2⟩:=h;exact⟨a,t,e,SqT.of h1,SqT.of h2⟩
instance coePolK {K:Frag}{H:Hp}{v:V}{P:List Int}{B:Int}:Coe (Pol H v P B) (JC K H v P B):=⟨Pol.k⟩
end L2
namespace Ca
open Cv
theorem tY(F G:Nat->Int)(n:Nat):sm (fun j=>F j+G j) n=sm F n+sm G n:=by
 induction n with
 | zero=>rfl
 | succ n ih=>rw [sm,sm,sm,ih];omega
theorem FV{F:Nat->Int}{d:Int}{n:Nat}(h:∀ j,j<n->d∣F j):d∣sm F n:=by
 induction n with
 | zero=>exact Int.dvd_zero d
 | succ n ih=>exact dJ (ih fun j hj=>h j (by omega)) (h n (by omega))
theorem wE{f g f' g':Nat->Int}{k:Nat}(h:∀ j,j<=k->f j=f' j)(h':∀ j,j<=k->g j=g' j):cv f g k=cv f' g' k :=
 qA fun j hj=>by rw [h j (by omega),h' (k-j) (by omega)]
theorem AM(f f' g:Nat->Int)(k:Nat):cv (fun j=>f j+f' j) g k=cv f g k+cv f' g k:=by
 unfold cv;rw [← tY];exact qA fun j _=>dL _ _ _
theorem zt(f g:Nat->Int)(c:Int)(k:Nat):cv (fun j=>c*f j) g k=c*cv f g k:=by
 rw [bv,← rX];exact qU (fun j=>bv _ _) fun _=>rfl
theorem Df(f g:Nat->Int)(c:Int)(k:Nat):cv f (fun j=>c*g j) k=c*cv f g k:=by
 rw [rP,zt,rP]
theorem yp(f g:Nat->Int)(k:Nat):cv f g (k+1)=f 0*g (k+1)+cv (fun j=>f (j+1)) g k:=by
 unfold cv;rw [ud];congr 1;exact qA fun j _=>by rw [show k+1-(j+1)=k-j by omega]
theorem zw(f g:Nat->Int):cv f g 0=f 0*g 0:=by simp [cv,sm]
theorem uv(f g h:Nat->Int)(k:Nat):cv (cv f g) h k=cv f (cv g h) k:=by
 induction k generalizing f g h with
 | zero=>rw [zw,zw,zw,zw,bI]
 | succ k ih =>
  rw [yp (cv f g) h,yp f (cv g h),zw];have e:cv (fun j=>cv f g (j+1)) h k=cv (fun j=>f 0*g (j+1)+cv (fun j=>f (j+1)) g j) h k:=qU (fun j=>yp f g j) fun _=>rfl;rw [e,AM,zt,ih,yp g h];grind
theorem zu(f g:Nat->Int)(k:Nat):cv f g (k+1)=f 0*g (k+1)+sm (fun j=>f (j+1)*g (k-j)) k+f (k+1)*g 0:=by
 rw [yp];unfold cv;rw [sm,bW];exact (Int.add_assoc _ _ _).symm
def pw(g:Nat->Int):Nat->Nat->Int
 | 0=>fun j=>if j=0 then 1 else 0
 | m+1=>cv (pw g m) g
theorem Cg{g:Nat->Int}(h:g 0=1):∀ m,pw g m 0=1
 | 0=>rfl
 | m+1=>by show cv _ _ 0=1;rw [zw,Cg h m,h];rfl
theorem yP{g:Nat->Int}{k:Int}(h:g 0=1)(hg:∀ i,k∣g (i+1)):∀ m i,(k*k∣pw g m (i+1)-m*g (i+1))/\k∣pw g m (i+1)
 | 0,i=>⟨by simp [pw],by simp [pw]⟩
 | m+1,i=>by
  obtain⟨a,b⟩:=yP h hg m i;have e:pw g (m+1) (i+1)=cv (pw g m) g (i+1):=rfl;rw [zu,Cg h,h] at e;have d:k*k∣sm (fun j=>pw g m (j+1)*g (i-j)) i:=FV fun j hj=>by
   rw [show i-j=(i-j-1)+1 by omega];exact Int.mul_dvd_mul (yP h hg m j).2 (hg _)
  have q:k*k∣pw g (m+1) (i+1)-(m+1:Nat)*g (i+1):=by
   rw [show pw g (m+1) (i+1)-((m+1:Nat):Int)*g (i+1)=sm (fun j=>pw g m (j+1)*g (i-j)) i+(pw g m (i+1)-m*g (i+1)) by rw [e];grind];exact dJ d a
  refine⟨q,?_⟩;have q2:k∣pw g (m+1) (i+1)-(m+1:Nat)*g (i+1):=Int.dvd_trans (gh k k) q;have q3:k∣((m+1:Nat):Int)*g (i+1):=Int.dvd_mul_of_dvd_right (hg i);have:=dJ q2 q3;rwa [fI] at this
theorem yO{g g':Nat->Int}{s:Nat}(h:g 0=1)(hh:∀ i,i<=s->g' i=g i):∀ m,(∀ i,i<=s->pw g' m i=pw g m i)/\pw g' m (s+1)=pw g m (s+1)+m*(g' (s+1)-g (s+1))
 | 0=>⟨fun _ _=>rfl,by simp [pw]⟩
 | m+1=>by
  obtain⟨a,b⟩:=yO h hh m;have h':g' 0=1:=by rw [hh 0 (aI _),h]
  refine⟨fun i hi=>wE (fun j hj=>a j (by omega)) fun j hj=>hh j (by omega),?_⟩;show cv (pw g' m) g' (s+1)=cv (pw g m) g (s+1)+_;rw [zu,zu,Cg h',Cg h,h,h',b];have:sm (fun j=>pw g' m (j+1)*g' (s-j)) s=sm (fun j=>pw g m (j+1)*g (s-j)) s:=qA fun j hj=>by rw [a (j+1) (by omega),hh (s-j) (by omega)]
  rw [this];grind
theorem HX{a:Nat->Int}{k:Nat}(hk:0<k)(h0:a 0=1)(ha:∀ i,(k*k:Int)∣a (i+1)):∀ s:Nat,∃ g:Nat->Int,g 0=1/\(∀ i,(k:Int)∣g (i+1))/\∀ j,j<=s->pw g k j=a j
 | 0=>⟨fun i=>if i=0 then 1 else 0,rfl,fun i=>by simp,fun j hj=>by
   rw [show j=0 by omega,h0];exact Cg (by rfl) k⟩
 | s+1=>by
  obtain⟨g,g0,gd,ge⟩:=HX hk h0 ha s;have m1:=(yP g0 gd k s).1;have m2:(k*k:Int)∣pw g k (s+1):=by
   have:(k*k:Int)∣k*g (s+1):=Int.mul_dvd_mul (Int.dvd_refl _) (gd s);have:=dJ m1 this;rwa [fI] at this
  obtain⟨t,ht⟩:=Int.dvd_sub (ha s) m2;have hh:∀ i,i<=s->(if i=s+1 then g i+k*t else g i)=g i:=fun i hi=>if_neg (by omega);have P:=yO (g':=fun i=>if i=s+1 then g i+k*t else g i) g0 hh k;refine⟨fun i=>if i=s+1 then g i+k*t else g i,?_,fun i=>?_,fun j hj=>?_⟩
  ·exact (hh 0 (aI _)).trans g0
  ·show (k:Int)∣if i+1=s+1 then _ else _;split
   ·exact dJ (gd i) (gh _ _)
   ·exact gd i
  ·rcases aP s j with c|c
   ·rw [show j=s+1 by omega,P.2];simp only [if_true];grind
   ·rw [P.1 j c,ge j c]
def th(f:Nat->Int):Nat->Int:=fun j=>j*f j
theorem HI(f g:Nat->Int)(k:Nat):th (cv f g) k=cv (th f) g k+cv f (th g) k:=by
 unfold th cv;rw [← tY,bv,← sW];refine qA fun j hj=>?_;have:((k-j:Nat):Int)=k-j:=by omega
 show f j*g (k-j)*k=j*f j*g (k-j)+f j*(((k-j:Nat):Int)*g (k-j));rw [this];grind
theorem EW(g:Nat->Int):∀ m j,cv (th (pw g m)) g j=m*cv (pw g m) (th g) j
 | 0,j=>by
  rw [Int.natCast_zero,ax];refine AL fun i=>?_;show (i:Int)*(if i=0 then 1 else 0)=0;split
  ·rw [‹i=0›];rfl
  ·exact bF _
 | m+1,j=>by
  have e:cv (th (pw g (m+1))) g j=cv (fun i=>cv (th (pw g m)) g i+cv (pw g m) (th g) i) g j:=qU (fun i=>HI _ _ i) fun _=>rfl;have e1:cv (cv (th (pw g m)) g) g j=cv (fun i=>m*cv (pw g m) (th g) i) g j:=qU (fun i=>EW g m i) fun _=>rfl;have e2:cv (cv (pw g m) (th g)) g j=cv (pw g (m+1)) (th g) j:=by
   rw [uv];show _=cv (cv (pw g m) g) (th g) j;rw [uv];exact qU (fun _=>rfl) fun i=>rP _ _ i
  rw [e,AM];have e3:cv (fun i=>cv (th (pw g m)) g i) g j=m*cv (pw g (m+1)) (th g) j:=by
   refine Eq.trans (show _=cv (cv (th (pw g m)) g) g j from rfl) ?_;rw [e1,zt,← e2]
  have e4:cv (fun i=>cv (pw g m) (th g) i) g j=cv (pw g (m+1)) (th g) j:=e2;rw [e3,e4];grind
theorem step{a g:Nat->Int}{k s j:Nat}(g0:g 0=1)(h0:a 0=1)(h:∀ j,j<=s->pw g k j=a j)(hj:j<=s) :
  sm (fun i=>(((i+1:Nat):Int)*(k+1)-j*k)*a (i+1)*g (j-(i+1))) j=j*k*g j:=by
 have e:=EW g k j;have e1:cv (th (pw g k)) g j=cv (th a) g j:=wE (fun i hi=>by unfold th;rw [h i (by omega)]) fun _ _=>rfl;have e2:cv (pw g k) (th g) j=cv a (th g) j:=wE (fun i hi=>h i (by omega)) fun _ _=>rfl;rw [e1,e2] at e;unfold cv at e;rw [ud,ud] at e;have z:th a 0=0:=by simp [th]
 have z2:th g (j-0)=j*g j:=rfl;rw [z,z2,h0,ax,ce,bA,Int.mul_add] at e;have q:sm (fun i=>(((i+1:Nat):Int)*(k+1)-j*k)*a (i+1)*g (j-(i+1))) j=sm (fun i=>th a (i+1)*g (j-(i+1))+a (i+1)*th g (j-(i+1))*(-k)) j:=qA fun i hi=>by
  unfold th;have:((j-(i+1):Nat):Int)=j-(i+1:Nat):=by omega
  rw [this];grind
 rw [q,tY,sW (fun i=>a (i+1)*th g (j-(i+1)))];grind
end Ca
namespace Ca
open Cv L2
theorem Jm{P:Nat->Int}{n k:Nat}{c l:Int}(hl:P n=l)(h0:l≠0)(hc:c=((l.natAbs:Nat):Int)*k*k) :
  ∀ j,j<=n->l*(P (n-j)*c^j).fdiv l=P (n-j)*c^j/\(j=0->(P (n-j)*c^j).fdiv l=1)/\(0<j->(k*k:Int)∣(P (n-j)*c^j).fdiv l):=by
 intro j hj;cases j with
 | zero =>
  rw [bE,hl,bc,bo];have:l.fdiv l=1:=by
   have:=dO 1 h0;rwa [bA] at this
  rw [this];exact⟨bo _,fun _=>rfl,fun h=>absurd h (bD _)⟩
 | succ j =>
  obtain⟨z,hz⟩:∃ z:Int,((l.natAbs:Nat):Int)=z*l/\True:=by
   rcases Int.natAbs_eq l with e|e
   ·exact⟨1,by omega,trivial⟩
   ·exact⟨-1,by omega,trivial⟩
  have e:P (n-(j+1))*c^(j+1)=(P (n-(j+1))*z*c^j*(k*k))*l:=by
   rw [bC];have:c=z*l*k*k:=by rw [hc,hz.1]
   calc P (n-(j+1))*(c^j*c)=P (n-(j+1))*c^j*c:=by grind
    _=P (n-(j+1))*c^j*(z*l*k*k):=congrArg _ this
    _=_:=by grind
  rw [e,dO _ h0];exact⟨bv _ _,fun h=>absurd h (by omega),fun _=>Int.dvd_mul_left _ _⟩
def JH(P:Nat->Int)(k s:Nat)(R:Nat->Int)(C:Int):Prop :=
 ∃(c:Int) (g:Nat->Int),0<c/\g 0=1/\(∀ j,j<s->P (k*s-j)*c^j=P (k*s)*pw g k j)/\(∀ i,i<s->R (s-i)*c^i=g i*C)/\R 0=0
end Ca
namespace L2
open PySem PySem.Spec PyProof.Rows
theorem AV{P:Program}{w:World}{K:Frag}{tg:Expr}(n:Nat)(a it:Addr):Turn P w K tg (⟨fun i H=>i<n/\∃ xs x,SqL K H a xs/\xs.length=n/\xs.reverse[i]? = some x,fun i H x H'=>H'=H/\∀ xs,SqL K H a xs->xs.reverse[i]? = some x,fun i H=>i=n⟩:It) [it] it (fun i h=>h.IsRevIter it a ((n:Int)-1-(i:Int))) where
 mem:=by simp
 obj:=fun i h st b hb=>by
  have e:b=it:=by simpa using hb
  subst e;obtain⟨o,e,c,d⟩:=st;exact⟨o,e,fun v z=>by rw [d] at z;cases z⟩
 keep:=fun i h h' st k=>by
  obtain⟨o,e,r⟩:=st;exact⟨o,k it (by simp) o e,r⟩
 item:=by
  intro X hP hw hK hc i pins s σ H E I hf st hg;subst hP hw hK;obtain⟨hlt,xs,x,hq,hn,hx⟩:=hg;obtain⟨its,rv,p,hz⟩:=I.list hq;have hlen:=rv.length;rw [bM (by omega)] at hx;obtain⟨u,hu,ru⟩:=rv.get hx;obtain⟨f0,f1,f2,f3,f4,f5⟩:=hf it (by simp);have e0:(n:Int)-1-(i:Int)=((xs.length-1-i:Nat):Int):=by omega
  have st':s.heap.IsRevIter it a ((xs.length-1-i:Nat):Int):=by rw [← e0];exact st
  refine wpAny_pyNext_rev_item (i:=xs.length-1-i) st' p.isList (x:=u) (by simpa using hu) fun h' st2 sb=>?_;have I1:Inv X pins σ H { s with heap:=h' }:=I.turned (t':=s.toks) (fun b o hb e=>(sb.2 b hb).trans e) f0 f1 f3 f4 f5;obtain⟨o,e,c,d⟩:=id st2;refine⟨u,rfl,yk (s:={ s with heap:=h' }) e c d (by decide) ⟨x,H,I1,ru,⟨rfl,fun ys hy=>?_⟩,?_,fun b hb=>(hf b hb).1⟩⟩
  ·rw [I.list_inj hy hq,bM (by omega)];exact hx
  ·show h'.IsRevIter it a ((n:Int)-1-((i+1:Nat):Int));rw [show (n:Int)-1-((i+1:Nat):Int)=((xs.length-1-i:Nat):Int)-1 by omega];exact st2
 done:=by
  intro X hP hw hK hc i pins s σ H E I hf st hg;subst hP hw hK;have hg':i=n:=hg;subst hg';obtain⟨f0,f1,f2,f3,f4,f5⟩:=hf it (by simp);have st':s.heap.IsRevIter it a (-1):=by
   have e:(i:Int)-1-(i:Int) = -1:=by omega
   rw [← e];exact st
  exact wpAny_pyNext_rev_end (I.ok.hd hc) st' fun h' eb=>⟨rfl,I.turned (t':=s.toks) (fun b o hb e=>eb b o hb e) f0 f1 f3 f4 f5⟩
 self:=fun _ _ _ _ _ st h=>wpAny_pyIter_revIter st h
end L2
namespace L2
open PySem PySem.Spec PyProof.Rows
theorem wp:fillsNumberSlot (.type "tuple") "mul" = pure false:=PySem.fillsNumberSlot_seq (id := "tuple.__mul__") (r:=some (.builtin "tuple.__rmul__")) F.slot_tuple_mul.lookup (by decide +kernel) F.slot_tuple_rmul.lookup (by decide +kernel)
theorem BW:seqRepeat? (.type "tuple")=pure (some (.builtin "tuple.__mul__")):=by
 unfold seqRepeat?;rw [PySem.seqSlot_of (T := "tuple") (name := "__mul__") (id := "tuple.__mul__") F.slot_tuple_mul.lookup (by decide +kernel),PySem.seqSlot_of (T := "tuple") (name := "__rmul__") (id := "tuple.__rmul__") F.slot_tuple_rmul.lookup (by decide +kernel)];rfl
theorem Ae(a:Int)(t:Tok)(l:Addr)(items:Array Value)(n:Nat)(dd:Option Addr)(sl:Array (Option Value)):Meets (Builtin.«int.__rmul__» ⟨[.int a t,.ref l],[]⟩) (fun _ R s=>s.heap.get? l=some { cls:=.type "tuple",dict:=dd,data:=.seq items n,slots:=sl }/\R (.ok (.ret Value.notImplemented)) s) :=
 .of_wp fun prog w A R s h=>by obtain⟨p1,p2,p3,p4,p5⟩:=s;obtain⟨hl,h⟩:=h;wp_walk;exact⟨_,rfl,h⟩
theorem Ep(l:Addr)(items:Array Value)(n:Nat)(u:Tok)(dd:Option Addr)(sl:Array (Option Value)):Meets (Builtin.«tuple.__mul__» ⟨[.ref l,.int 1 u],[]⟩) (fun _ R s=>s.heap.get? l=some { cls:=.type "tuple",dict:=dd,data:=.seq items n,slots:=sl }/\R (.ok (.ret (.ref l))) s) :=
 .of_wp fun prog w A R s h=>by
  obtain⟨p1,p2,p3,p4,p5⟩:=s;obtain⟨hl,h⟩:=h;have f2:=AutoSeq1.sub_tuple_tuple
  wp_walk using AutoSeq1.wpAny_loadPart' hl
  exact⟨_,rfl,h⟩
theorem Eo(l:Addr)(items:Array Value)(n:Nat)(x:Int)(u:Tok)(dd:Option Addr)(sl:Array (Option Value))(h0:items.isEmpty=false)(h1:¬ (decide (x < -(2^63)) || decide (x ≥ 2^63))=true)(h2:(x == 1)=false)(h3:¬ x<=0)(h4:¬ (items.size:Int)*x > (2^63-1) / 8)(h5:Builtin.Tuple.tupleTooMany ((items.size:Int)*x)=false)(h6:(List.foldl (fun x1 x2=>x1++x2) #[] (List.replicate x.toNat items)).size<=sizeLine) :
  Meets (Builtin.«tuple.__mul__» ⟨[.ref l,.int x u],[]⟩) (fun _ R s=>s.heap.get? l=some { cls:=.type "tuple",dict:=dd,data:=.seq items n,slots:=sl }/\R (.ok (.ret (.ref s.heap.objs.size))) { s with heap:=s.heap.push { cls:=.type "tuple",data:=.seq (List.foldl (fun x1 x2=>x1++x2) #[] (List.replicate x.toNat items)) } }) :=
 .of_wp fun prog w A R s h=>by
  obtain⟨p1,p2,p3,p4,p5⟩:=s;obtain⟨hl,h⟩:=h;have f2:=AutoSeq1.sub_tuple_tuple
  wp_walk using AutoSeq1.wpAny_loadPart' hl
  rw [if_neg h1]
  wp_walk using AutoSeq1.wpAny_loadPart' hl
  rw [if_neg h4]
  wp_walk
  exact⟨_,rfl,h⟩
theorem Er(l:Addr)(n:Nat)(x:Int)(u:Tok)(dd:Option Addr)(sl:Array (Option Value))(h1:¬ (decide (x < -(2^63)) || decide (x ≥ 2^63))=true):Meets (Builtin.«tuple.__mul__» ⟨[.ref l,.int x u],[]⟩) (fun _ R s=>s.heap.get? l=some { cls:=.type "tuple",dict:=dd,data:=.seq #[] n,slots:=sl }/\R (.ok (.ret (.ref l))) s) :=
 .of_wp fun prog w A R s h=>by
  obtain⟨p1,p2,p3,p4,p5⟩:=s;obtain⟨hl,h⟩:=h;have f2:=AutoSeq1.sub_tuple_tuple
  wp_walk using AutoSeq1.wpAny_loadPart' hl
  rw [if_neg h1]
  wp_walk using AutoSeq1.wpAny_loadPart' hl
  exact⟨_,rfl,h⟩
def H9(K:Frag):R2:=fun x y H Q=>∃ l xs,∃ k:Nat,x = .ref l/\y = .int k/\SqT K H l xs/\xs≠[]/\1<=k/\xs.length*k<=100000/\(k=1->Q (.ref l) H)/\(k≠1->∀ p,H p=none->Q (.ref p) (qR H p (.tup (List.replicate k xs).flatten)))
theorem D8{X:Cx}:OpR X (binaryOp .Mult) (H9 X.K):=by
 intro pins s σ H x y v u Q I rx ry h;obtain⟨l,xs,k,rfl,rfl,hH,hne,hk,hz,q1,q2⟩:=h;cases rx;obtain⟨t,rfl⟩:=ry;obtain⟨its,rv,p,hz2⟩:=I.tuple hH;obtain⟨⟨cls,dd,data,sl⟩,e,hc,n,hd⟩:=p;simp only at hc hd;subst hc hd;have hl:=rv.length;have sz:100000<=sizeLine:=by rw [sizeLine_eq];decide
 have go:∀ z:Int,z=(k:Int)->wpAny (model X.prog X.w) X.A (call (.builtin "tuple.__mul__") [.ref l,.int z t]) (EP X pins σ Q) X.xe s:=by
  rintro z hzk;by_cases h1:k=1
  ·rw [show z=1 by omega];exact call_meets F.slot_tuple_mul ⟨_,e,rfl⟩ F.entry_tuple_mul (F.args_tuple_mul_2 _ _) (Ep l its.toArray n t dd sl) ⟨e,⟨.ref l,H,I,rfl,q1 h1⟩⟩
  ·have f0:∀ m:Nat,List.foldl (fun x1 x2=>x1++x2) #[] (List.replicate m its.toArray)=(List.replicate m its).flatten.toArray:=fun m=>by
    have:=uI its m [];rw [List.nil_append] at this;exact this
   have zk:z.toNat=k:=by omega
   have im:(its.toArray.size:Int)*z=((xs.length*k:Nat):Int):=by rw [hzk,am,← hl];exact (Int.natCast_mul _ _).symm
   refine call_meets F.slot_tuple_mul ⟨_,e,rfl⟩ F.entry_tuple_mul (F.args_tuple_mul_2 _ _) (Eo l its.toArray n z t dd sl ?_ ?_ ?_ ?_ ?_ ?_ ?_) ⟨e,?_⟩
   ·cases its with
    | nil=>exact absurd (bw.mp hl) hne
    | cons=>rfl
   ·simp;have:xs.length*k ≥ k:=aV _ (ci.mpr hne);omega
   ·have:z≠1:=by omega
    simpa using this
   ·omega
   ·rw [im];omega
   ·unfold Builtin.Tuple.tupleTooMany;rw [im];exact decide_eq_false (by omega)
   ·rw [f0,zk,am,xo,← hl,cB];omega
   ·rw [f0,zk];refine⟨.ref _,_,I.laid (o:=.tup (List.replicate k xs).flatten) (t':=s.toks) (fun b u e=>Heap.get?_push_of_some _ e) (aq _) ⟨?_,(List.replicate k its).flatten,rv.rep k,⟨_,Heap.get?_push_size _ rfl,rfl,_,rfl⟩⟩,rfl,q2 h1 _ I.fresh⟩;rw [xo,cB];omega
 generalize hzk:(k:Int)=z;refine wpAny_binaryOp_repeat_ref (T := "tuple") (U := "int") (by decide) ⟨_,e,rfl⟩ (fun s'=>typeIs_int s' z t) wp F.fills_int_mul F.slot_int_rmul BW F.slot_int_index.lookup
  (call_meets F.slot_int_rmul (typeIs_int s z t) F.entry_int_rmul (F.args_int_rmul_2 _ _) (Ae z t l its.toArray n dd sl) ⟨e,rfl,⟨_,e,rfl⟩,go z hzk.symm⟩)
def F8(K:Frag):R2:=fun x y H Q=>∃ l,∃ k:Nat,x = .ref l/\y = .int k/\SqT K H l []/\k<9223372036854775808/\Q (.ref l) H
theorem CF{X:Cx}:OpR X (binaryOp .Mult) (F8 X.K):=by
 intro pins s σ H x y v u Q I rx ry h;obtain⟨l,k,rfl,rfl,hH,hk,q⟩:=h;cases rx;obtain⟨t,rfl⟩:=ry;obtain⟨its,rv,p,hz2⟩:=I.tuple hH;obtain⟨⟨cls,dd,data,sl⟩,e,hc,n,hd⟩:=p;simp only at hc hd;subst hc hd;have hl:=rv.length;have hn:its=[]:=bw.mp hl.symm;subst hn;have go:∀ z:Int,z=(k:Int)->wpAny (model X.prog X.w) X.A (call (.builtin "tuple.__mul__") [.ref l,.int z t]) (EP X pins σ Q) X.xe s:=by
  rintro z hzk;exact call_meets F.slot_tuple_mul ⟨_,e,rfl⟩ F.entry_tuple_mul (F.args_tuple_mul_2 _ _) (Er l n z t dd sl (by simp;omega)) ⟨e,⟨.ref l,H,I,rfl,q⟩⟩
 generalize hzk:(k:Int)=z;refine wpAny_binaryOp_repeat_ref (T := "tuple") (U := "int") (by decide) ⟨_,e,rfl⟩ (fun s'=>typeIs_int s' z t) wp F.fills_int_mul F.slot_int_rmul BW F.slot_int_index.lookup
  (call_meets F.slot_int_rmul (typeIs_int s z t) F.entry_int_rmul (F.args_int_rmul_2 _ _) (Ae z t l _ n dd sl) ⟨e,rfl,⟨_,e,rfl⟩,go z hzk.symm⟩)
end L2
namespace L2
open PySem PySem.Spec PyProof.Rows
def Jn(C:Addr)(d:Option Addr)(u:Addr):Obj:={ cls:=.ref C,dict:=d,data:=.fields #[.ref u,.none,.none,.none,.bool false,.none] }
def JQ(a C:Addr)(d:Option Addr)(u:Addr):HO:=.ext fun h=>h.get? a=some (Jn C d u)
end L2
set_option maxHeartbeats 1000000
namespace L2
open PySem PySem.Spec PyProof.Rows
theorem KV.at:∀{kvs:List (vi×V)} {vs:List (vi×Value)} {j:Nat} {kv:vi×V},KV kvs vs->kvs[j]? = some kv->∃ u,vs[j]? = some (kv.1,u)/\RelV kv.2 u
 | _,_,0,_,.cons (b:=q) r t,h=>by cases h;exact⟨q.2,by rw [r.1];rfl,r.2⟩
 | _,_,j+1,_,.cons r t,h=>by
  rw [cK] at h;obtain⟨u,e1,e2⟩:=KV.at t h;exact⟨u,by rw [cK];exact e1,e2⟩
section
variable{X:Cx}
def Id:R2:=fun x y H Q=>∃ p kvs k v,x = .ref p/\y=kV k/\H p=some (.dK kvs)/\(k,v)∈kvs/\Q v H
theorem Ev:IxR X Id:=by
 intro value slice pins s σ H x y v u Q I rx ry h hs;obtain⟨p,kvs,k,z,rfl,rfl,hq,he,q⟩:=h;cases rx;obtain⟨hz,hn,vs,rel,dd⟩:kvs.length<=sizeLine/\(p == sysModules)=false/\∃ vs,KV kvs vs/\s.heap.DictOf (uo X.prog X.w) p vs:=I.hok p _ hq;obtain⟨j,hj⟩:=dF.mp he;obtain⟨w,ew,rw'⟩:=rel.at hj;have hk:(uo X.prog X.w).is k u=true:=by
  cases k with
  | inl i=>obtain⟨t,rfl⟩:=ry;exact Bj i t
  | inr x=>obtain⟨t,rfl⟩:=ry;exact Bi x t
 have dd':=dd;obtain⟨o,es,ep,g1,g2,g3,g4,g5,nd⟩:=dd';have hat:valueAt vs k=some w:=by
  unfold valueAt;have hm:(k,w)∈vs:=aO ew;clear dd g3 g4 g5 rel ew;induction vs with
  | nil=>cases hm
  | cons a vs ih =>
   rw [bQ,cQ] at nd;rcases ak.mp hm with e|e
   ·subst e;simp
   ·have:a.1≠k:=fun z=>nd.1 (by rw [z];exact bB.mpr ⟨_,e,rfl⟩);rw [List.find?_cons];rw [decide_eq_false this];exact ih nd.2 e
 have fin:EP X pins σ Q w { s with toks:=s.toks+1 }:=⟨z,H,I.tok _,rw',q⟩;exact subscriptTail_builtinR (x:=w) (T := "dict") ⟨o,g1,g2.1⟩ PySem.F.slot_dict_getitem.lookup (wpAny_getItem_of (Q:=fun r s'=>r=w/\EP X pins σ Q r s') hk dd.mapOf hat ⟨rfl,fin⟩) hs
end
end L2
namespace Dp
open PySem L2
abbrev St:=L2.St
def Fl(H:Hp)(f:Addr):Prop:=∃(l:Addr) (ns:List Int) (i c a b:Int),H f=some (.lst [.ref l,.int i,.int c,.int a,.int b])/\H l=some (.lst (ns.map V.int))/\ns.length<=63/\0<=i/\i<=(ns.length:Int)/\0<=c/\0<=a/\a<2147483647
theorem Fl.same{H H':Hp}{f:Addr}(F:Fl H f)(e:Same H H'):Fl H' f:=by
 obtain⟨l,ns,i,c,a,b,h1,h2,h⟩:=F;exact⟨l,ns,i,c,a,b,e _ _ h1,e _ _ h2,h⟩
theorem Fl.lst{H:Hp}{f:Addr}(F:Fl H f):∃ xs,H f=some (.lst xs):=by
 obtain⟨l,ns,i,c,a,b,h1,_⟩:=F;exact⟨_,h1⟩
inductive D where
 | non|bl (b:Bool)|int (i:Int)|str (x:Str)|tup (l:List D)|lst (l:List D)|fl
  | exn (C:Addr) (x:Str) (l:List D)
  | dct (ks:List vi) (l:List D)
def XO(H:Hp)(a C:Addr)(x:Str)(us:List V):Prop:=(us=[]/\∃ u,H a=some (JQ a C none u))\/∃ dx u y,us=[y]/\H a=some (JQ a C (some dx) u)/\H dx=some (.xd [(x,y)])
mutual
def Rp(K:Frag)(f:Addr)(O:List Addr)(H:Hp):D->V->Prop
 | .non,v=>v = .non
 | .bl b,v=>v = .bl b
 | .int i,v=>v = .int i
 | .str x,v=>v = .str x
 | .tup l,v=>∃ a xs,v = .ref a/\SqT K H a xs/\Rps K f O H l xs
 | .lst l,v=>∃ a xs,v = .ref a/\a ∉ O/\H a=some (.lst xs)/\Rps K f O H l xs
 | .fl,v=>v = .ref f
 | .exn C x l,v=>∃ a us,v = .ref a/\XO H a C x us/\Rps K f O H l us
 | .dct ks l,v=>∃ a us,v = .ref a/\H a=some (.dK (ks.zip us))/\ks.length=us.length/\Rps K f O H l us
def Rps(K:Frag)(f:Addr)(O:List Addr)(H:Hp):List D->List V->Prop
 | [],vs=>vs=[]
 | d::ds,vs=>∃ v r,vs=v::r/\Rp K f O H d v/\Rps K f O H ds r
end
structure Ex (f:Addr)(H H':Hp):Prop where
 sm:Sm f H H'
 fl:Fl H' f
theorem Ex.refl{f:Addr}{H:Hp}(h:Fl H f):Ex f H H:=⟨Sm.refl H,h⟩
theorem Ex.trans{f:Addr}{H H1 H2:Hp}(a:Ex f H H1)(b:Ex f H1 H2):Ex f H H2:=⟨a.sm.trans b.sm,b.fl⟩
theorem Ex.new{f p:Addr}{H:Hp}(F:Fl H f)(h:H p=none)(o:HO):Ex f H (qR H p o):=⟨Sm.new h o,F.same (Same.new h o)⟩
variable{K:Frag}{f:Addr}{O O':List Addr}{H H':Hp}
def Kp(O:List Addr)(H H':Hp):Prop:=∀ b o,b ∉ O->H b=some o->H' b=some o
theorem Ex.kp(e:Ex f H H')(h:f∈O):Kp O H H':=fun b o n q=>e.sm.app b o (fun z=>n (z ▸ h)) q
theorem Kp.refl:Kp O H H:=fun _ _ _ h=>h
theorem _root_.L2.SqT.kp{a:Addr}{xs:List V}(e:Kp O H H')(hO:∀ b∈O,∃ xs,H b=some (.lst xs))(h:SqT K H a xs):SqT K H' a xs:=by
 rcases h with (h|⟨o,h⟩)|h
 ·refine .inl (.inl (e a _ (fun z=>?_) h));obtain⟨xs,q⟩:=hO a z;rw [q] at h;cases h
 ·refine .inl (.inr ⟨o,e a _ (fun z=>?_) h⟩);obtain⟨xs,q⟩:=hO a z;rw [q] at h;cases h
 ·exact .inr h
theorem XO.kp{a C:Addr}{x:Str}{us:List V}(e:Kp O H H')(hO:∀ b∈O,∃ xs,H b=some (.lst xs))(h:XO H a C x us):XO H' a C x us:=by
 rcases h with⟨e1,u,h⟩|⟨dx,u,y,e1,h,hd⟩
 ·refine .inl ⟨e1,u,e a _ (fun z=>?_) h⟩;obtain⟨xs,q⟩:=hO a z;rw [q] at h;unfold JQ at h;cases h
 ·refine .inr ⟨dx,u,y,e1,e a _ (fun z=>?_) h,e dx _ (fun z=>?_) hd⟩
  ·obtain⟨xs,q⟩:=hO a z;rw [q] at h;unfold JQ at h;cases h
  ·obtain⟨xs,q⟩:=hO dx z;rw [q] at hd;cases hd
mutual
theorem Rp.kp(e:Kp O H H')(hO:∀ b∈O,∃ xs,H b=some (.lst xs)):∀{d:D} {v:V},Rp K f O H d v->Rp K f O H' d v
 | .non,_,h=>h
 | .bl _,_,h=>h
 | .int _,_,h=>h
 | .str _,_,h=>h
 | .fl,_,h=>h
 | .tup l,v,h=>by
  obtain⟨a,xs,e1,h1,h2⟩:=h;exact⟨a,xs,e1,h1.kp e hO,Rps.kp e hO h2⟩
 | .lst l,v,h=>by
  obtain⟨a,xs,e1,n,h1,h2⟩:=h;exact⟨a,xs,e1,n,e a _ n h1,Rps.kp e hO h2⟩
 | .exn C x l,v,h=>by
  obtain⟨a,us,e1,h1,h2⟩:=h;exact⟨a,us,e1,h1.kp e hO,Rps.kp e hO h2⟩
 | .dct ks l,v,h=>by
  obtain⟨a,us,e1,h1,h2,h3⟩:=h;exact⟨a,us,e1,e a _ (fun z=>by obtain⟨xs,q⟩:=hO a z;rw [q] at h1;cases h1) h1,h2,Rps.kp e hO h3⟩
theorem Rps.kp(e:Kp O H H')(hO:∀ b∈O,∃ xs,H b=some (.lst xs)):∀{ds:List D} {vs:List V},Rps K f O H ds vs->Rps K f O H' ds vs
 | [],_,h=>h
 | d::ds,_,h=>by
  obtain⟨v,r,e1,h1,h2⟩:=h;exact⟨v,r,e1,Rp.kp e hO h1,Rps.kp e hO h2⟩
end
mutual
theorem Rp.less(e:∀ a∈O',a∈O):∀{d:D} {v:V},Rp K f O H d v->Rp K f O' H d v
 | .non,_,h=>h
 | .bl _,_,h=>h
 | .int _,_,h=>h
 | .str _,_,h=>h
 | .fl,_,h=>h
 | .tup l,v,h=>by
  obtain⟨a,xs,e1,h1,h2⟩:=h;exact⟨a,xs,e1,h1,Rps.less e h2⟩
 | .lst l,v,h=>by
  obtain⟨a,xs,e1,n,h1,h2⟩:=h;exact⟨a,xs,e1,fun z=>n (e a z),h1,Rps.less e h2⟩
 | .exn C x l,v,h=>by
  obtain⟨a,us,e1,h1,h2⟩:=h;exact⟨a,us,e1,h1,Rps.less e h2⟩
 | .dct ks l,v,h=>by
  obtain⟨a,us,e1,h1,h2,h3⟩:=h;exact⟨a,us,e1,h1,h2,Rps.less e h3⟩
theorem Rps.less(e:∀ a∈O',a∈O):∀{ds:List D} {vs:List V},Rps K f O H ds vs->Rps K f O' H ds vs
 | [],_,h=>h
 | d::ds,_,h=>by
  obtain⟨v,r,e1,h1,h2⟩:=h;exact⟨v,r,e1,Rp.less e h1,Rps.less e h2⟩
end
theorem Rps.len:∀{ds:List D} {vs:List V},Rps K f O H ds vs->vs.length=ds.length
 | [],_,h=>by rw [show _=[] from h];rfl
 | d::ds,_,h=>by
  obtain⟨v,r,e1,h1,h2⟩:=h;rw [e1,aY,aY,Rps.len h2]
theorem Rps.get:∀{ds:List D} {vs:List V} {i:Nat} {d:D},Rps K f O H ds vs->ds[i]? = some d->∃ v,vs[i]? = some v/\Rp K f O H d v
 | [],_,_,_,_,e=>by simp at e
 | d0::ds,_,i,d,h,e=>by
  obtain⟨v,r,e1,h1,h2⟩:=h;subst e1;cases i with
  | zero =>
   simp at e;subst e;exact⟨v,rfl,h1⟩
  | succ i =>
   obtain⟨w,hw,h⟩:=Rps.get h2 (i:=i) (d:=d) (by simpa using e);exact⟨w,by simpa using hw,h⟩
theorem Rps.append:∀{ds es:List D} {vs ws:List V},Rps K f O H ds vs->Rps K f O H es ws->Rps K f O H (ds++es) (vs++ws)
 | [],_,_,_,h,t=>by rw [show _=[] from h];exact t
 | d::ds,_,_,_,h,t=>by
  obtain⟨v,r,e1,h1,h2⟩:=h;subst e1;exact⟨v,_,rfl,h1,Rps.append h2 t⟩
theorem Rps.take:∀{ds:List D} {vs:List V} (n:Nat),Rps K f O H ds vs->Rps K f O H (ds.take n) (vs.take n)
 | _,_,0,_=>by rw [dH,dH];rfl
 | [],_,n+1,h=>by rw [show _=[] from h];rfl
 | d::ds,_,n+1,h=>by
  obtain⟨v,r,e1,h1,h2⟩:=h;subst e1;exact⟨v,_,rfl,h1,Rps.take n h2⟩
theorem Rps.drop:∀{ds:List D} {vs:List V} (n:Nat),Rps K f O H ds vs->Rps K f O H (ds.drop n) (vs.drop n)
 | _,_,0,h=>h
 | [],_,n+1,h=>by rw [show _=[] from h];rfl
 | d::ds,_,n+1,h=>by
  obtain⟨v,r,e1,h1,h2⟩:=h;subst e1;exact Rps.drop n h2
theorem Rps.set{d:D}{v:V}(q:Rp K f O H d v):∀{ds:List D} {vs:List V} (n:Nat),Rps K f O H ds vs->Rps K f O H (ds.set n d) (vs.set n v)
 | [],_,n,h=>by rw [show _=[] from h];rfl
 | d0::ds,_,0,h=>by
  obtain⟨w,r,e1,h1,h2⟩:=h;subst e1;exact⟨v,_,rfl,q,h2⟩
 | d0::ds,_,n+1,h=>by
  obtain⟨w,r,e1,h1,h2⟩:=h;subst e1;exact⟨w,_,rfl,h1,Rps.set q n h2⟩
theorem Rps.reverse:∀{ds:List D} {vs:List V},Rps K f O H ds vs->Rps K f O H ds.reverse vs.reverse
 | [],_,h=>by rw [show _=[] from h];rfl
 | d::ds,_,h=>by
  obtain⟨v,r,e1,h1,h2⟩:=h;subst e1;rw [cY,cY];exact Rps.append (Rps.reverse h2) ⟨v,[],rfl,h1,rfl⟩
theorem Rps.flat{ds:List D}{vs:List V}(h:Rps K f O H ds vs):∀ n,Rps K f O H (List.replicate n ds).flatten (List.replicate n vs).flatten
 | 0=>rfl
 | n+1=>by
  rw [bu,bu,bR,bR];exact Rps.append h (Rps.flat h n)
theorem Rps.bls:∀{bs:List Bool} {vs:List V},Rps K f O H (bs.map D.bl) vs->vs=bs.map V.bl
 | [],_,h=>h
 | b::bs,_,h=>by
  obtain⟨v,r,e1,h1,h2⟩:=h;rw [e1,show v=_ from h1,Rps.bls h2];rfl
theorem Rps.ints:∀{bs:List Int} {vs:List V},Rps K f O H (bs.map D.int) vs->vs=bs.map V.int
 | [],_,h=>h
 | b::bs,_,h=>by
  obtain⟨v,r,e1,h1,h2⟩:=h;rw [e1,show v=_ from h1,Rps.ints h2];rfl
inductive SD where
 | no|val (d:D)|own (l:List D)
abbrev SS:=List SD
structure SlD (K:Frag)(f:Addr)(O:List Addr)(σ:St)(H:Hp)(ss:SS):Prop where
 fl:Fl H f
 fO:f∈O
 al:∀ a∈O,∃ xs,H a=some (.lst xs)
 lO:∀ l r,H f=some (.lst (.ref l::r))->l ∉ O
 len:ss.length=σ.length
 val:∀(i:Nat) (d:D),ss[i]? = some (SD.val d)->∃ v,σ[i]? = some (some v)/\Rp K f O H d v
 own:∀(i:Nat) (l:List D),ss[i]? = some (SD.own l)->∃ a xs,σ[i]? = some (some (V.ref a))/\a∈O/\a≠f/\H a=some (.lst xs)/\Rps K f O H l xs
variable{σ:St}{ss:SS}
theorem SlD.ex(R:SlD K f O σ H ss)(e:Ex f H H'):SlD K f O σ H' ss where
 fl:=e.fl
 fO:=R.fO
 al:=fun a h=>by
  by_cases z:a=f
  ·subst z;exact e.fl.lst
  ·obtain⟨xs,q⟩:=R.al a h;exact⟨xs,e.sm.app a _ z q⟩
 lO:=fun l r h=>by
  obtain⟨l0,ns,i,c,a,b,h1,_⟩:=R.fl;obtain⟨r',h2⟩:=e.sm.key _ _ h1;rw [h2] at h;cases h;exact R.lO _ _ h1
 len:=R.len
 val:=fun i d h=>by
  obtain⟨v,h1,h2⟩:=R.val i d h;exact⟨v,h1,h2.kp (e.kp R.fO) R.al⟩
 own:=fun i l h=>by
  obtain⟨a,xs,h1,h2,h3,h4,h5⟩:=R.own i l h;exact⟨a,xs,h1,h2,h3,e.sm.app a _ h3 h4,h5.kp (e.kp R.fO) R.al⟩
theorem SlD.up(R:SlD K f O σ H ss)(e:Ex f H H'){d:D}{v:V}(h:Rp K f O H d v):Rp K f O H' d v:=h.kp (e.kp R.fO) R.al
theorem SlD.ups(R:SlD K f O σ H ss)(e:Ex f H H'){d:List D}{v:List V}(h:Rps K f O H d v):Rps K f O H' d v:=h.kp (e.kp R.fO) R.al
theorem SlD.new(R:SlD K f O σ H ss){p:Addr}(h:H p=none)(o:HO):Ex f H (qR H p o):=Ex.new R.fl h o
theorem SlD.nO(R:SlD K f O σ H ss){p:Addr}(h:H p=none):p ∉ O:=fun z=>by
 obtain⟨xs,q⟩:=R.al p z;rw [h] at q;cases q
theorem SlD.lst(R:SlD K f O σ H ss){p:Addr}(h:H p=none){ds:List D}{xs:List V}(q:Rps K f O H ds xs):Rp K f O (qR H p (.lst xs)) (.lst ds) (.ref p) :=
 ⟨p,xs,rfl,R.nO h,qw,R.ups (R.new h _) q⟩
theorem SlD.tup(R:SlD K f O σ H ss){p:Addr}(h:H p=none){ds:List D}{xs:List V}(q:Rps K f O H ds xs):Rp K f O (qR H p (.tup xs)) (.tup ds) (.ref p) :=
 ⟨p,xs,rfl,SqT.of qw,R.ups (R.new h _) q⟩
structure TEd where
 run:SS->(D->Prop)->Prop
 mono:∀{ss Q Q'},(∀ d,Q d->Q' d)->run ss Q->run ss Q'
structure TTd where
 run:SS->(Bool->Prop)->Prop
 mono:∀{ss Q Q'},(∀ d,Q d->Q' d)->run ss Q->run ss Q'
structure TAd where
 run:SS->(List D->Prop)->Prop
 mono:∀{ss Q Q'},(∀ d,Q d->Q' d)->run ss Q->run ss Q'
structure TOd where
 run:SS->(Option Int->Prop)->Prop
 mono:∀{ss Q Q'},(∀ d,Q d->Q' d)->run ss Q->run ss Q'
structure TGd where
 tg:List Nat
 run:D->SS->(SS->Prop)->Prop
 mono:∀{d ss Q Q'},(∀ d,Q d->Q' d)->run d ss Q->run d ss Q'
def LE(K:Frag)(t:TEd):TE:=fun σ H Q=>∃ f O ss,SlD K f O σ H ss/\t.run ss fun d=>∀ v H',Ex f H H'->Rp K f O H' d v->Q v H'
def LT(K:Frag)(t:TTd):TT:=fun σ H Q=>∃ f O ss,SlD K f O σ H ss/\t.run ss fun d=>∀ H',Ex f H H'->Q d H'
def LA(K:Frag)(t:TAd):TA:=fun σ H Q=>∃ f O ss,SlD K f O σ H ss/\t.run ss fun ds=>∀ vs H',Ex f H H'->Rps K f O H' ds vs->Q vs H'
def LO(K:Frag)(t:TOd):TO:=fun σ H Q=>∃ f O ss,SlD K f O σ H ss/\t.run ss fun d=>∀ H',Ex f H H'->Q d H'
abbrev Ld:=List D->(D->Prop)->Prop
def yA(K:Frag)(n:Nat)(sp:Ld):Sp:=fun vs H Q _=>vs.length=n/\∃ f O ds,Fl H f/\f∈O/\(∀ a∈O,∃ xs,H a=some (.lst xs))/\(∀ l r,H f=some (.lst (.ref l::r))->l ∉ O)/\Rps K f O H ds vs/\sp ds fun d=>∀ v H',Ex f H H'->Rp K f O H' d v->Q v H'
variable{X:Cx}
theorem _root_.L2.PE.weak{e:Expr}{t t':TE}(h:PE X e t)(w:∀ σ H Q,t' σ H Q->t σ H Q):PE X e t':=fun pins s σ H Q I q=>h pins s σ H Q I (w σ H Q q)
theorem _root_.L2.PT.weak{e:Expr}{t t':TT}(h:PT X e t)(w:∀ σ H Q,t' σ H Q->t σ H Q):PT X e t':=fun pins s σ H Q I q=>h pins s σ H Q I (w σ H Q q)
theorem _root_.L2.PA.weak{e:List Expr}{t t':TA}(h:PA X e t)(w:∀ σ H Q,t' σ H Q->t σ H Q):PA X e t':=fun pos pins s σ H Q I q=>h pos pins s σ H Q I (w σ H Q q)
theorem _root_.L2.PO.weak{e:Option Expr}{t t':TO}(h:PO X e t)(w:∀ σ H Q,t' σ H Q->t σ H Q):PO X e t':=fun pins s σ H Q I q=>h pins s σ H Q I (w σ H Q q)
def gk(i:Nat):TEd:=⟨fun ss Q=>match ss[i]? with|some (SD.val d)=>Q d|_=>False,fun {ss Q Q'} h q=>by
 revert q;split
 ·exact h _
 ·exact id⟩
theorem gk.ok{i:Nat}{e:Expr}(h:PE X e (uc i)):PE X e (LE X.K (gk i)):=h.weak fun σ H Q ⟨f,O,ss,R,q⟩=>by
 have q:(match ss[i]? with|some (SD.val d)=>(∀ v H',Ex f H H'->Rp X.K f O H' d v->Q v H')|_=>False):=q;revert q;split
 ·rename_i d e;intro q;obtain⟨v,h1,h2⟩:=R.val i d e;exact⟨v,h1,q v H (Ex.refl R.fl) h2⟩
 ·exact False.elim
def dC(d:D):TEd:=⟨fun _ Q=>Q d,fun h q=>h _ q⟩
theorem dC.ok{e:Expr}{d:D}{v:V}(h:PE X e (tC v))(r:∀ f O H,Rp X.K f O H d v):PE X e (LE X.K (dC d)):=h.weak fun σ H Q ⟨f,O,ss,R,q⟩=>q v H (Ex.refl R.fl) (r f O H)
abbrev OD:=D->D->(D->Prop)->Prop
def d2(o:OD)(m:∀{x y Q Q'},(∀ d,Q d->Q' d)->o x y Q->o x y Q')(a b:TEd):TEd:=⟨fun ss Q=>a.run ss fun x=>b.run ss fun y=>o x y Q,fun h q=>a.mono (fun x q=>b.mono (fun y q=>m h q) q) q⟩
def RD(K:Frag)(r:R2)(o:OD):Prop:=∀(f:Addr) (O:List Addr) (σ:St) (ss:SS) (H:Hp) (dx dy:D) (x y:V) (Q:VK),SlD K f O σ H ss->Rp K f O H dx x->Rp K f O H dy y->o dx dy (fun d=>∀ v H',Ex f H H'->Rp K f O H' d v->Q v H')->r x y H Q
theorem d2.ok{e:Expr}{a b:TEd}{r:R2}{o:OD}{m}(hr:RD X.K r o)(h:PE X e (HN r (LE X.K a) (LE X.K b))):PE X e (LE X.K (d2 o m a b)):=h.weak fun σ H Q ⟨f,O,ss,R,q⟩=>by
 refine⟨f,O,ss,R,a.mono (fun dx q v1 H1 e1 r1=>?_) q⟩;refine⟨f,O,ss,R.ex e1,b.mono (fun dy q v2 H2 e2 r2=>?_) q⟩;exact hr f O σ ss H2 dx dy v1 v2 Q ((R.ex e1).ex e2) ((R.ex e1).up e2 r1) r2 (m (fun d q v H' e3 r3=>q v H' (e1.trans (e2.trans e3)) r3) q)
end Dp
namespace L2
open PySem PySem.Spec PyProof.Rows
variable{X:Cx}{pins:List (Addr×Obj)}{σ:St}{H:Hp}{s:Shared}
def Gb(K:Frag)(neg:Bool):R2:=fun x y H Q=>∃ d ds,Rep K H d x/\Rep K H (.lst ds) y/\d.pl=true/\DV.pls ds=true/\DV.dps ds<=60/\∀ b,(b=true↔d∈ds)->Q (.bl (if neg then !b else b)) H
theorem xQ{K:Frag}:∀{ds:List DV} {vs:List V} {us:List Value},Reps K H ds vs->Vals vs us->DV.pls ds=true->DV.dps ds<=60->(∀ w∈us,∃ di∈ds,∃ xi,Rep K H di xi/\RelV xi w/\di.pl=true/\di.dp<=60)/\∀ di∈ds,∃ w∈us,∃ xi,Rep K H di xi/\RelV xi w
 | [],vs,us,h,r,_,_=>by
  unfold Reps at h;subst h;cases r;exact⟨fun w h=>absurd h aU,fun w h=>absurd h aU⟩
 | d::ds,vs,us,h,r,p,hd=>by
  unfold Reps at h;obtain⟨x,r',rfl,h1,h2⟩:=h;cases r with
  | cons rx rxs =>
   unfold DV.pls at p;rw [bh] at p;unfold DV.dps at hd;obtain⟨i1,i2⟩:=xQ h2 rxs p.2 (by omega);refine⟨fun w hw=>?_,fun di hi=>?_⟩
   ·rcases ak.mp hw with e|e
    ·rw [e];exact⟨d,aK,x,h1,rx,p.1,by omega⟩
    ·obtain⟨di,m,z⟩:=i1 w e;exact⟨di,aE _ m,z⟩
   ·rcases ak.mp hi with e|e
    ·rw [e];exact⟨_,aK,x,h1,rx⟩
    ·obtain⟨w,m,z⟩:=i2 di e;exact⟨w,aE _ m,z⟩
open Classical in
theorem yg{K:Frag}{k:Nat}(hr:Room k X.A)(hK:X.K=K)(I:Inv X pins σ H s){d:DV}{ds:List DV}{x:V}{v:Value}{vs:List V}{us:List Value}(h1:Rep K H d x)(rx:RelV x v)(r1:Reps K H ds vs)(rv:Vals vs us)(p1:d.pl=true)(p2:DV.pls ds=true)(hd:DV.dps ds<=60) :
  ∃ e:Value->Bool,(∀ w∈us,SeqAt.EqAt X.A.in1 s w v (e w))/\(us.any e=true↔d∈ds):=by
 subst hK;obtain⟨i1,i2⟩:=xQ r1 rv p2 hd;have hun:=hr.units;have key:∀ w∈us,∀ di∈ds,∀ xi,Rep X.K H di xi->RelV xi w->(decide (∃ xi,RelV xi w/\Rep X.K H d xi)=true↔di=d):=fun w hw di hi xi hx rw'=>by
  rw [decide_eq_true_iff];constructor
  ·rintro⟨x',r',h'⟩;rw [RelV.inj r' rw'] at h';exact Rep.inj I hx h'
  ·rintro rfl;exact⟨xi,rw',hx⟩
 refine⟨fun w=>decide (∃ xi,RelV xi w/\Rep X.K H d xi),fun w hw=>?_,?_⟩
 ·obtain⟨di,hi,xi,hx,rw',pi,dpi⟩:=i1 w hw;obtain⟨b,hb,ib⟩:=K9 I di d X.A.in1 hx h1 rw' rx pi p1 (by show X.A.units+1+_+1<_;omega);have:decide (∃ xi,RelV xi w/\Rep X.K H d xi)=b:=bU.mpr ((key w hw di hi xi hx rw').trans ib.symm);dsimp only;rw [this];exact hb
 ·rw [d9];constructor
  ·rintro⟨w,hw,he⟩;obtain⟨di,hi,xi,hx,rw',_,_⟩:=i1 w hw;exact (key w hw di hi xi hx rw').mp he ▸ hi
  ·intro hm;obtain⟨w,hw,xi,hx,rw'⟩:=i2 d hm;exact⟨w,hw,(key w hw d hm xi hx rw').mpr rfl⟩
theorem Gw(K:Frag){k:Nat}(hr:Room k X.A)(hK:X.K=K:=by rfl):OpR X (compareOp .In) (Gb K false):=by
 intro pins s σ H x y u v Q I rx ry h;obtain⟨d,ds,h1,h2,p1,p2,hd,q⟩:=h;unfold Rep at h2;obtain⟨a,vs,rfl,t1,r1⟩:=h2;cases ry;subst hK;obtain⟨its,rv,p,_⟩:=I.list t1;obtain⟨e,he,hi⟩:=yg hr rfl I h1 rx r1 rv p1 p2 hd;refine SeqAt.in_listAt e p.isList (fun w hw=>he w (by simpa using hw)) ⟨.bl _,H,I,rfl,?_⟩;rw [show its.toArray.any e=its.any e by simp];exact q _ hi
theorem A7(K:Frag){k:Nat}(hr:Room k X.A)(hK:X.K=K:=by rfl):OpR X (compareOp .NotIn) (Gb K true):=by
 intro pins s σ H x y u v Q I rx ry h;obtain⟨d,ds,h1,h2,p1,p2,hd,q⟩:=h;unfold Rep at h2;obtain⟨a,vs,rfl,t1,r1⟩:=h2;cases ry;subst hK;obtain⟨its,rv,p,_⟩:=I.list t1;obtain⟨e,he,hi⟩:=yg hr rfl I h1 rx r1 rv p1 p2 hd;refine SeqAt.notIn_listAt e p.isList (fun w hw=>he w (by simpa using hw)) ⟨.bl _,H,I,rfl,?_⟩;rw [show its.toArray.any e=its.any e by simp];exact q _ hi
end L2
namespace Dp
open PySem L2
variable{K:Frag}{f:Addr}{O O':List Addr}{H H':Hp}{X:Cx}{σ:St}{ss:SS}
mutual
def D.pl:D->Bool
 | .int _=>true | .str _=>true | .non=>true | .bl _=>false | .fl=>false | .exn _ _ _=>false | .dct _ _=>false
 | .tup ds=>D.pls ds
 | .lst ds=>D.pls ds
def D.pls:List D->Bool
 | []=>true
 | d::ds=>D.pl d && D.pls ds
end
mutual
def D.dp:D->Nat
 | .tup ds=>D.dps ds+1
 | .lst ds=>D.dps ds+1
 | .int _=>0 | .str _=>0 | .non=>0 | .bl _=>0 | .fl=>0 | .exn _ _ _=>0 | .dct _ _=>0
def D.dps:List D->Nat
 | []=>0
 | d::ds=>max (D.dp d) (D.dps ds)
end
mutual
def D.dv:D->DV
 | .int i=>.int i | .str x=>.str x | .non=>.non | .bl b=>.bl b | .fl=>.non | .exn _ _ _=>.non | .dct _ _=>.non
 | .tup ds=>.tup (D.dvs ds)
 | .lst ds=>.lst (D.dvs ds)
def D.dvs:List D->List DV
 | []=>[]
 | d::ds=>D.dv d::D.dvs ds
end
mutual
theorem D.dv_pl:∀{d:D},d.pl=true->d.dv.pl=true
 | .int _,_=>rfl
 | .str _,_=>rfl
 | .non,_=>rfl
 | .bl _,h=>h
 | .fl,h=>by cases h
 | .exn _ _ _,h=>by cases h
 | .dct _ _,h=>by cases h
 | .tup ds,h=>D.dvs_pl (ds:=ds) h
 | .lst ds,h=>D.dvs_pl (ds:=ds) h
theorem D.dvs_pl:∀{ds:List D},D.pls ds=true->DV.pls (D.dvs ds)=true
 | [],_=>rfl
 | d::ds,h=>by
  have h:=au.mp (show (d.pl && D.pls ds)=true from h);exact au.mpr ⟨D.dv_pl h.1,D.dvs_pl h.2⟩
end
mutual
theorem D.dv_dp:∀{d:D},d.dv.dp=d.dp
 | .int _=>rfl
 | .str _=>rfl
 | .non=>rfl
 | .bl _=>rfl
 | .fl=>rfl
 | .exn _ _ _=>rfl
 | .dct _ _=>rfl
 | .tup ds=>congrArg (· + 1) (D.dvs_dp (ds:=ds))
 | .lst ds=>congrArg (· + 1) (D.dvs_dp (ds:=ds))
theorem D.dvs_dp:∀{ds:List D},DV.dps (D.dvs ds)=D.dps ds
 | []=>rfl
 | d::ds=>by
  show max (DV.dp d.dv) (DV.dps (D.dvs ds))=max d.dp (D.dps ds);rw [D.dv_dp,D.dvs_dp]
end
mutual
theorem D.dv_inj:∀{d e:D},d.pl=true->e.pl=true->d.dv=e.dv->d=e
 | .int _,e,_,h,q=>by cases e <;> first|(cases q;rfl)|(cases q;done)|cases h
 | .str _,e,_,h,q=>by cases e <;> first|(cases q;rfl)|(cases q;done)|cases h
 | .non,e,_,h,q=>by cases e <;> first|rfl|(cases q;done)|cases h
 | .bl _,_,h,_,_=>by cases h
 | .fl,_,h,_,_=>by cases h
 | .exn _ _ _,_,h,_,_=>by cases h
 | .dct _ _,_,h,_,_=>by cases h
 | .tup ds,e,h1,h2,q=>by
  cases e with
  | tup es =>
   have q:DV.tup (D.dvs ds)=DV.tup (D.dvs es):=q;injection q with q;rw [D.dvs_inj h1 h2 q]
  | int=>cases q
  | str=>cases q
  | non=>cases q
  | bl=>cases h2
  | fl=>cases h2
  | exn=>cases h2
  | dct=>cases h2
  | lst=>cases q
 | .lst ds,e,h1,h2,q=>by
  cases e with
  | lst es =>
   have q:DV.lst (D.dvs ds)=DV.lst (D.dvs es):=q;injection q with q;rw [D.dvs_inj h1 h2 q]
  | int=>cases q
  | str=>cases q
  | non=>cases q
  | bl=>cases h2
  | fl=>cases h2
  | exn=>cases h2
  | dct=>cases h2
  | tup=>cases q
theorem D.dvs_inj:∀{ds es:List D},D.pls ds=true->D.pls es=true->D.dvs ds=D.dvs es->ds=es
 | [],[],_,_,_=>rfl
 | [],_::_,_,_,q=>by cases q
 | _::_,[],_,_,q=>by cases q
 | d::ds,e::es,h1,h2,q=>by
  have h1:=au.mp (show (d.pl && D.pls ds)=true from h1);have h2:=au.mp (show (e.pl && D.pls es)=true from h2);have q:d.dv::D.dvs ds=e.dv::D.dvs es:=q;injection q with q1 q2;rw [D.dv_inj h1.1 h2.1 q1,D.dvs_inj h1.2 h2.2 q2]
end
mutual
theorem Rp.rep:∀{d:D} {v:V},d.pl=true->Rp K f O H d v->Rep K H d.dv v
 | .int _,_,_,h=>h
 | .str _,_,_,h=>h
 | .non,_,_,h=>h
 | .bl _,_,h,_=>by cases h
 | .fl,_,h,_=>by cases h
 | .exn _ _ _,_,h,_=>by cases h
 | .dct _ _,_,h,_=>by cases h
 | .tup ds,_,p,h=>by
  obtain⟨a,xs,e,h1,h2⟩:=h;exact⟨a,xs,e,h1,Rps.rep p h2⟩
 | .lst ds,_,p,h=>by
  obtain⟨a,xs,e,_,h1,h2⟩:=h;exact⟨a,xs,e,SqL.of h1,Rps.rep p h2⟩
theorem Rps.rep:∀{ds:List D} {vs:List V},D.pls ds=true->Rps K f O H ds vs->Reps K H (D.dvs ds) vs
 | [],_,_,h=>h
 | d::ds,_,p,h=>by
  have p:=au.mp (show (d.pl && D.pls ds)=true from p);obtain⟨v,r,e,h1,h2⟩:=h;exact⟨v,r,e,Rp.rep p.1 h1,Rps.rep p.2 h2⟩
end
theorem D.pls_ints(ns:List Int):D.pls (ns.map D.int)=true:=by
 induction ns with
 | nil=>rfl
 | cons n ns ih=>exact ih
theorem yf:∀{a b:List Int},a.map D.int=b.map D.int->a=b
 | [],[],_=>rfl
 | [],_::_,h=>by cases h
 | _::_,[],h=>by cases h
 | x::a,y::b,h=>by
  rw [bQ,bQ] at h;injection h with h1 h2;injection h1 with h1;rw [h1,yf h2]
theorem OpR.or2{g:Value->Value->Sem Value}{r r':R2}(h:OpR X g r)(h':OpR X g r'):OpR X g (fun x y H Q=>r x y H Q\/r' x y H Q):=fun pins s σ H x y v u Q I rx ry q=>q.elim (h pins s σ H x y v u Q I rx ry) (h' pins s σ H x y v u Q I rx ry)
def oAdd:OD
 | .int i,.int j,Q=>Q (.int (i+j))
 | .str a,.str b,Q=>a.length+b.length<=sizeLine/\Q (.str (a++b))
 | .lst a,.lst b,Q=>a.length+b.length<=sizeLine/\Q (.lst (a++b))
 | .tup a,.tup b,Q=>a.length+b.length<=sizeLine/\Q (.tup (a++b))
 | _,_,_=>False
def oSub:OD
 | .int i,.int j,Q=>Q (.int (i-j))
 | _,_,_=>False
def oMul:OD
 | .int i,.int j,Q=>CMulB i j/\Q (.int (i*j))
 | .lst a,.int k,Q => -(2^63)<=k/\k<2^63/\a.length*k.toNat<=sizeLine/\Q (.lst (List.replicate k.toNat a).flatten)
 | .tup a,.int k,Q=>(a=[]->k<9223372036854775808)/\1<=k/\a.length*k.toNat<=100000/\Q (.tup (List.replicate k.toNat a).flatten)
 | _,_,_=>False
def oDiv:OD
 | .int i,.int j,Q=>sB i j/\Q (.int (i.fdiv j))
 | _,_,_=>False
def oMod:OD
 | .int i,.int j,Q=>j≠0/\Q (.int (i.fmod j))
 | _,_,_=>False
def oPow:OD
 | .int i,.int j,Q=>ET i j/\Q (.int (i^j.toNat))
 | _,_,_=>False
def oShl:OD
 | .int i,.int j,Q=>ET i j/\Q (.int (i*2^j.toNat))
 | _,_,_=>False
def yZ:OD:=fun _ _ _=>False
def oBin:Operator->OD
 | .Add=>oAdd | .Sub=>oSub | .Mult=>oMul | .FloorDiv=>oDiv | .Mod=>oMod | .Pow=>oPow | .LShift=>oShl|_=>yZ
def oLt:OD
 | .int i,.int j,Q=>Q (.bl (decide (i<j)))
 | _,_,_=>False
def oLe:OD
 | .int i,.int j,Q=>Q (.bl (decide (i<=j)))
 | _,_,_=>False
def oGt:OD
 | .int i,.int j,Q=>Q (.bl (decide (j<i)))
 | _,_,_=>False
def oGe:OD
 | .int i,.int j,Q=>Q (.bl (decide (j<=i)))
 | _,_,_=>False
def oEq(neg:Bool):OD
 | .int i,.int j,Q=>Q (.bl (if neg then !decide (i=j) else decide (i=j)))
 | .bl i,.bl j,Q=>Q (.bl (if neg then !decide (i=j) else decide (i=j)))
 | .str i,.str j,Q=>Q (.bl (if neg then !decide (i=j) else decide (i=j)))
 | .tup a,.tup b,Q=>D.pls a=true/\D.pls b=true/\D.dps a<=60/\∀ k,(k=true↔a=b)->Q (.bl (if neg then !k else k))
 | .lst a,.lst b,Q=>neg=neg/\D.pls a=true/\D.pls b=true/\D.dps a<=60/\∀ k,(k=true↔a=b)->Q (.bl (if neg then !k else k))
 | _,_,_=>False
def oIs(neg:Bool):OD:=fun x y Q=>match y with
 | .non=>Q (.bl (match x with | .non => !neg|_=>neg))
 | .bl j=>(match x with | .bl i=>Q (.bl (if neg then !decide (i=j) else decide (i=j)))|_=>False)
 | _=>False
def oIn(neg:Bool):OD:=fun x y Q=>(∃(i:Int) (ns:List Int),x = .int i/\(y = .lst (ns.map .int)\/y = .tup (ns.map .int))/\Q (.bl (if neg then !decide (i∈ns) else decide (i∈ns))))\/(∃(i:Str) (ns:List Str),x = .str i/\(y = .lst (ns.map .str)\/y = .tup (ns.map .str))/\Q (.bl (if neg then !decide (i∈ns) else decide (i∈ns))))\/(∃ l,y = .lst l/\x.pl=true/\D.pls l=true/\D.dps l<=60/\∀ k:Bool,(k=true↔x∈l)->Q (.bl (if neg then !k else k)))
theorem oIn.mono{neg:Bool}:∀{x y Q Q'},(∀ d,Q d->Q' d)->oIn neg x y Q->oIn neg x y Q':=fun h q=>q.imp (fun⟨i,ns,e1,e2,q⟩=>⟨i,ns,e1,e2,h _ q⟩) (Or.imp (fun⟨i,ns,e1,e2,q⟩=>⟨i,ns,e1,e2,h _ q⟩) fun⟨l,e,a,b,c,q⟩=>⟨l,e,a,b,c,fun k hk=>h _ (q k hk)⟩)
def oCmp:CmpOp->OD
 | .Eq=>oEq false | .NotEq=>oEq true | .Lt=>oLt | .LtE=>oLe | .Gt=>oGt | .GtE=>oGe | .Is=>oIs false | .IsNot=>oIs true | .In=>oIn false | .NotIn=>oIn true
theorem oAdd.mono:∀{x y Q Q'},(∀ d,Q d->Q' d)->oAdd x y Q->oAdd x y Q':=by intro x y Q Q' h;cases x <;> cases y <;> intro q <;> first|exact h _ q|exact q|exact⟨q.1,h _ q.2⟩|exact⟨q.1,q.2.1,q.2.2.1,h _ q.2.2.2⟩|exact⟨q.1,q.2.1,q.2.2.1,fun k e=>h _ (q.2.2.2 k e)⟩|exact⟨q.1,q.2.1,q.2.2.1,q.2.2.2.1,fun k e=>h _ (q.2.2.2.2 k e)⟩
theorem oSub.mono:∀{x y Q Q'},(∀ d,Q d->Q' d)->oSub x y Q->oSub x y Q':=by intro x y Q Q' h;cases x <;> cases y <;> intro q <;> first|exact h _ q|exact q|exact⟨q.1,h _ q.2⟩|exact⟨q.1,q.2.1,q.2.2.1,h _ q.2.2.2⟩|exact⟨q.1,q.2.1,q.2.2.1,fun k e=>h _ (q.2.2.2 k e)⟩|exact⟨q.1,q.2.1,q.2.2.1,q.2.2.2.1,fun k e=>h _ (q.2.2.2.2 k e)⟩
theorem oMul.mono:∀{x y Q Q'},(∀ d,Q d->Q' d)->oMul x y Q->oMul x y Q':=by intro x y Q Q' h;cases x <;> cases y <;> intro q <;> first|exact h _ q|exact q|exact⟨q.1,h _ q.2⟩|exact⟨q.1,q.2.1,q.2.2.1,h _ q.2.2.2⟩|exact⟨q.1,q.2.1,q.2.2.1,fun k e=>h _ (q.2.2.2 k e)⟩|exact⟨q.1,q.2.1,q.2.2.1,q.2.2.2.1,fun k e=>h _ (q.2.2.2.2 k e)⟩
theorem oDiv.mono:∀{x y Q Q'},(∀ d,Q d->Q' d)->oDiv x y Q->oDiv x y Q':=by intro x y Q Q' h;cases x <;> cases y <;> intro q <;> first|exact h _ q|exact q|exact⟨q.1,h _ q.2⟩|exact⟨q.1,q.2.1,q.2.2.1,h _ q.2.2.2⟩|exact⟨q.1,q.2.1,q.2.2.1,fun k e=>h _ (q.2.2.2 k e)⟩|exact⟨q.1,q.2.1,q.2.2.1,q.2.2.2.1,fun k e=>h _ (q.2.2.2.2 k e)⟩
theorem oMod.mono:∀{x y Q Q'},(∀ d,Q d->Q' d)->oMod x y Q->oMod x y Q':=by intro x y Q Q' h;cases x <;> cases y <;> intro q <;> first|exact h _ q|exact q|exact⟨q.1,h _ q.2⟩|exact⟨q.1,q.2.1,q.2.2.1,h _ q.2.2.2⟩|exact⟨q.1,q.2.1,q.2.2.1,fun k e=>h _ (q.2.2.2 k e)⟩|exact⟨q.1,q.2.1,q.2.2.1,q.2.2.2.1,fun k e=>h _ (q.2.2.2.2 k e)⟩
theorem oPow.mono:∀{x y Q Q'},(∀ d,Q d->Q' d)->oPow x y Q->oPow x y Q':=by intro x y Q Q' h;cases x <;> cases y <;> intro q <;> first|exact h _ q|exact q|exact⟨q.1,h _ q.2⟩|exact⟨q.1,q.2.1,q.2.2.1,h _ q.2.2.2⟩|exact⟨q.1,q.2.1,q.2.2.1,fun k e=>h _ (q.2.2.2 k e)⟩|exact⟨q.1,q.2.1,q.2.2.1,q.2.2.2.1,fun k e=>h _ (q.2.2.2.2 k e)⟩
theorem oShl.mono:∀{x y Q Q'},(∀ d,Q d->Q' d)->oShl x y Q->oShl x y Q':=by intro x y Q Q' h;cases x <;> cases y <;> intro q <;> first|exact q|exact⟨q.1,h _ q.2⟩
theorem oBin.mono{op:Operator}:∀{x y Q Q'},(∀ d,Q d->Q' d)->oBin op x y Q->oBin op x y Q':=by
 cases op;all_goals first|exact oAdd.mono|exact oSub.mono|exact oMul.mono|exact oDiv.mono|exact oMod.mono|exact oPow.mono|exact oShl.mono|exact fun _ q=>q
theorem oLt.mono:∀{x y Q Q'},(∀ d,Q d->Q' d)->oLt x y Q->oLt x y Q':=by intro x y Q Q' h;cases x <;> cases y <;> intro q <;> first|exact h _ q|exact q|exact⟨q.1,h _ q.2⟩|exact⟨q.1,q.2.1,q.2.2.1,h _ q.2.2.2⟩|exact⟨q.1,q.2.1,q.2.2.1,fun k e=>h _ (q.2.2.2 k e)⟩|exact⟨q.1,q.2.1,q.2.2.1,q.2.2.2.1,fun k e=>h _ (q.2.2.2.2 k e)⟩
theorem oLe.mono:∀{x y Q Q'},(∀ d,Q d->Q' d)->oLe x y Q->oLe x y Q':=by intro x y Q Q' h;cases x <;> cases y <;> intro q <;> first|exact h _ q|exact q|exact⟨q.1,h _ q.2⟩|exact⟨q.1,q.2.1,q.2.2.1,h _ q.2.2.2⟩|exact⟨q.1,q.2.1,q.2.2.1,fun k e=>h _ (q.2.2.2 k e)⟩|exact⟨q.1,q.2.1,q.2.2.1,q.2.2.2.1,fun k e=>h _ (q.2.2.2.2 k e)⟩
theorem oGt.mono:∀{x y Q Q'},(∀ d,Q d->Q' d)->oGt x y Q->oGt x y Q':=by intro x y Q Q' h;cases x <;> cases y <;> intro q <;> first|exact h _ q|exact q|exact⟨q.1,h _ q.2⟩|exact⟨q.1,q.2.1,q.2.2.1,h _ q.2.2.2⟩|exact⟨q.1,q.2.1,q.2.2.1,fun k e=>h _ (q.2.2.2 k e)⟩|exact⟨q.1,q.2.1,q.2.2.1,q.2.2.2.1,fun k e=>h _ (q.2.2.2.2 k e)⟩
theorem oGe.mono:∀{x y Q Q'},(∀ d,Q d->Q' d)->oGe x y Q->oGe x y Q':=by intro x y Q Q' h;cases x <;> cases y <;> intro q <;> first|exact h _ q|exact q|exact⟨q.1,h _ q.2⟩|exact⟨q.1,q.2.1,q.2.2.1,h _ q.2.2.2⟩|exact⟨q.1,q.2.1,q.2.2.1,fun k e=>h _ (q.2.2.2 k e)⟩|exact⟨q.1,q.2.1,q.2.2.1,q.2.2.2.1,fun k e=>h _ (q.2.2.2.2 k e)⟩
theorem oEq.mono{neg:Bool}:∀{x y Q Q'},(∀ d,Q d->Q' d)->oEq neg x y Q->oEq neg x y Q':=by intro x y Q Q' h;cases x <;> cases y <;> intro q <;> first|exact h _ q|exact q|exact⟨q.1,h _ q.2⟩|exact⟨q.1,q.2.1,q.2.2.1,h _ q.2.2.2⟩|exact⟨q.1,q.2.1,q.2.2.1,fun k e=>h _ (q.2.2.2 k e)⟩|exact⟨q.1,q.2.1,q.2.2.1,q.2.2.2.1,fun k e=>h _ (q.2.2.2.2 k e)⟩
theorem oIs.mono{neg:Bool}:∀{x y Q Q'},(∀ d,Q d->Q' d)->oIs neg x y Q->oIs neg x y Q':=by intro x y Q Q' h;cases x <;> cases y <;> intro q <;> first|exact h _ q|exact q|exact⟨q.1,h _ q.2⟩|exact⟨q.1,q.2.1,q.2.2.1,h _ q.2.2.2⟩|exact⟨q.1,q.2.1,q.2.2.1,fun k e=>h _ (q.2.2.2 k e)⟩|exact⟨q.1,q.2.1,q.2.2.1,q.2.2.2.1,fun k e=>h _ (q.2.2.2.2 k e)⟩
theorem oCmp.mono{op:CmpOp}:∀{x y Q Q'},(∀ d,Q d->Q' d)->oCmp op x y Q->oCmp op x y Q':=by
 cases op;all_goals first|exact oLt.mono|exact oLe.mono|exact oGt.mono|exact oGe.mono|exact oEq.mono|exact oIs.mono|exact oIn.mono
def Rng(X:Cx)(g:Value->Value->Sem Value)(o:OD):Prop:=∃ r,OpR X g r/\RD X.K r o
theorem Rng.never{g:Value->Value->Sem Value}:Rng X g yZ:=⟨fun _ _ _ _=>False,fun _ _ _ _ _ _ _ _ _ _ _ _ h=>h.elim,fun _ _ _ _ _ _ _ _ _ _ _ _ _ h=>h.elim⟩
theorem F3:Rng X (binaryOp .Add) oAdd:=by
 refine⟨_,OpR.or2 sF (OpR.or2 yX (OpR.or2 GA (OpR.or2 Ee (Ju X.K)))),?_⟩;intro f O σ ss H dx dy x y Q R rx ry h;cases dx <;> cases dy <;> first|(exact False.elim h)|skip
 ·rename_i i j;cases rx;cases ry;exact .inl ⟨i,j,rfl,rfl,h _ H (Ex.refl R.fl) rfl⟩
 ·rename_i i j;cases rx;cases ry;exact .inr (.inl ⟨i,j,rfl,rfl,h.1,h.2 _ H (Ex.refl R.fl) rfl⟩)
 ·rename_i la lb;obtain⟨a,xs,rfl,h1,h2⟩:=rx;obtain⟨b,ys,rfl,h3,h4⟩:=ry;obtain⟨hl,q⟩:=h;cases la with
  | nil =>
   cases (show xs=[] from h2);exact .inr (.inr (.inr (.inr ⟨a,b,ys,rfl,rfl,h1,h3,q _ H (Ex.refl R.fl) ⟨b,ys,rfl,h3,h4⟩⟩)))
  | cons d la =>
   refine .inr (.inr (.inr (.inl ⟨a,b,xs,ys,rfl,rfl,h1,h3,?_,by rw [h2.len,h4.len];exact hl,fun e=>?_,fun e p hp=>?_⟩)))
   ·obtain⟨v,r,e,_⟩:=h2;rw [e];simp
   ·subst e;cases lb with
    | nil =>
     refine q _ H (Ex.refl R.fl) ⟨a,xs,rfl,h1,?_⟩;rw [cr];exact h2
    | cons=>obtain⟨v,r,e,_⟩:=h4;cases e
   ·exact q _ _ (R.new hp _) (R.tup hp (h2.append h4))
 ·rename_i la lb;obtain⟨a,xs,rfl,n1,h1,h2⟩:=rx;obtain⟨b,ys,rfl,n2,h3,h4⟩:=ry;exact .inr (.inr (.inl ⟨a,b,xs,ys,rfl,rfl,h1,h3,by rw [h2.len,h4.len];exact h.1,fun p hp=>h.2 _ _ (R.new hp _) (R.lst hp (h2.append h4))⟩))
theorem uA{g:Value->Value->Sem Value}{C:Int->Int->Prop}{w:Int->Int->Int}{o:OD}(h:OpR X g (rI C fun i j=>.int (w i j)))(ho:∀ dx dy Q,o dx dy Q->∃ i j,dx = .int i/\dy = .int j/\C i j/\Q (.int (w i j))):Rng X g o:=by
 refine⟨_,h,fun f O σ ss H dx dy x y Q R rx ry h=>?_⟩;obtain⟨i,j,rfl,rfl,c,q⟩:=ho _ _ _ h;cases rx;cases ry;exact⟨i,j,rfl,rfl,c,q _ H (Ex.refl R.fl) rfl⟩
theorem va{g:Value->Value->Sem Value}{w:Int->Int->Bool}{o:OD}(h:OpR X g (B4 fun i j=>.bl (w i j)))(ho:∀ dx dy Q,o dx dy Q->∃ i j,dx = .int i/\dy = .int j/\Q (.bl (w i j))):Rng X g o:=by
 refine⟨_,h,fun f O σ ss H dx dy x y Q R rx ry h=>?_⟩;obtain⟨i,j,rfl,rfl,q⟩:=ho _ _ _ h;cases rx;cases ry;exact⟨i,j,rfl,rfl,q _ H (Ex.refl R.fl) rfl⟩
theorem F1:Rng X (binaryOp .Mult) oMul:=by
 refine⟨_,OpR.or2 Eb (OpR.or2 CG (OpR.or2 D8 CF)),?_⟩;intro f O σ ss H dx dy x y Q R rx ry h;cases dx <;> cases dy <;> first|(exact False.elim h)|skip
 ·rename_i i j;cases rx;cases ry;exact .inl ⟨i,j,rfl,rfl,h.1,h.2 _ H (Ex.refl R.fl) rfl⟩
 ·rename_i la k;obtain⟨a,xs,rfl,h1,h2⟩:=rx;cases ry;obtain⟨z1,z2,z3,q⟩:=h;obtain⟨k,rfl⟩:=dq (show 0<=k by omega);rw [aJ] at z3 q;by_cases z0:la=[]
  ·subst z0;cases (show xs=[] from h2);exact .inr (.inr (.inr ⟨a,k,rfl,rfl,h1,by have:=z1 rfl;omega,q _ H (Ex.refl R.fl) ⟨a,[],rfl,h1,by rw [List.flatten_replicate_nil];rfl⟩⟩))
  refine .inr (.inr (.inl ⟨a,xs,k,rfl,rfl,h1,fun z=>z0 ?_,by omega,by rw [h2.len];exact z3,fun e=>?_,fun _ p hp=>q _ _ (R.new hp _) (R.tup hp (h2.flat _))⟩))
  ·have:=h2.len;rw [z] at this;exact bw.mp this.symm
  ·refine q _ H (Ex.refl R.fl) ⟨a,xs,rfl,h1,?_⟩;rw [e,bu,List.replicate_zero,bR,List.flatten_nil,cr];exact h2
 ·rename_i la k;obtain⟨a,xs,rfl,n1,h1,h2⟩:=rx;cases ry;exact .inr <| .inl ⟨a,k,xs,rfl,rfl,h1,h.1,h.2.1,by rw [h2.len];exact h.2.2.1,fun p hp=>h.2.2.2 _ _ (R.new hp _) (R.lst hp (h2.flat _))⟩
theorem F2{k:Nat}(hr:Room k X.A)(op:Operator):Rng X (binaryOp op) (oBin op):=by
 cases op;case Add=>exact F3
 case Mult=>exact F1
 case Sub =>
  refine⟨_,Gq,fun f O σ ss H dx dy x y Q R rx ry h=>?_⟩;cases dx <;> cases dy <;> first|(exact False.elim h)|skip
  cases rx;cases ry;exact⟨_,_,rfl,rfl,h _ H (Ex.refl R.fl) rfl⟩
 case FloorDiv=>exact uA (xW hr) fun dx dy Q h=>by cases dx <;> cases dy <;> first|(exact False.elim h)|exact⟨_,_,rfl,rfl,h.1,h.2⟩
 case Mod=>exact uA Ed fun dx dy Q h=>by cases dx <;> cases dy <;> first|(exact False.elim h)|exact⟨_,_,rfl,rfl,h.1,h.2⟩
 case Pow=>exact uA CH fun dx dy Q h=>by cases dx <;> cases dy <;> first|(exact False.elim h)|exact⟨_,_,rfl,rfl,h.1,h.2⟩
 case LShift=>exact uA Gr fun dx dy Q h=>by cases dx <;> cases dy <;> first|(exact False.elim h)|exact⟨_,_,rfl,rfl,h.1,h.2⟩
 all_goals exact Rng.never
theorem H8{k:Nat}(hr:Room k X.A):Rng X (compareOp .Eq) (oEq false):=by
 refine⟨_,OpR.or2 xX (OpR.or2 (LJ X.K hr) (KL X.K hr)),?_⟩;intro f O σ ss H dx dy x y Q R rx ry h;cases dx <;> cases dy <;> first|(exact False.elim h)|skip
 ·rename_i i j;cases rx;cases ry;refine .inl ⟨rfl,?_⟩;have e:(decide (V.bl i=V.bl j))=decide (i=j):=by cases i <;> cases j <;> rfl
  rw [e];exact h _ H (Ex.refl R.fl) rfl
 ·rename_i i j;cases rx;cases ry;refine .inl ⟨rfl,?_⟩;have e:(decide (V.int i=V.int j))=decide (i=j):=by simp
  rw [e];exact h _ H (Ex.refl R.fl) rfl
 ·rename_i i j;cases rx;cases ry;refine .inl ⟨rfl,?_⟩;have e:(decide (V.str i=V.str j))=decide (i=j):=by simp
  rw [e];exact h _ H (Ex.refl R.fl) rfl
 ·rename_i la lb;obtain⟨p1,p2,p3,q⟩:=h;refine .inr (.inl ⟨D.dvs la,D.dvs lb,Rp.rep (d:=.tup la) p1 rx,Rp.rep (d:=.tup lb) p2 ry,D.dvs_pl p1,D.dvs_pl p2,by rw [D.dvs_dp];exact p3,fun b hb=>?_⟩);exact q b (hb.trans ⟨fun e=>D.dvs_inj p1 p2 e,fun e=>by rw [e]⟩) _ H (Ex.refl R.fl) rfl
 ·rename_i la lb;obtain⟨_,p1,p2,p3,q⟩:=h;refine .inr (.inr ⟨D.dvs la,D.dvs lb,Rp.rep (d:=.lst la) p1 rx,Rp.rep (d:=.lst lb) p2 ry,D.dvs_pl p1,D.dvs_pl p2,by rw [D.dvs_dp];exact p3,fun b hb=>?_⟩);exact q b (hb.trans ⟨fun e=>D.dvs_inj p1 p2 e,fun e=>by rw [e]⟩) _ H (Ex.refl R.fl) rfl
theorem HY{k:Nat}(hr:Room k X.A):Rng X (compareOp .NotEq) (oEq true):=by
 refine⟨_,OpR.or2 CI (OpR.or2 (LD X.K hr) (Ky X.K hr)),?_⟩;intro f O σ ss H dx dy x y Q R rx ry h;cases dx <;> cases dy <;> first|(exact False.elim h)|skip
 ·rename_i i j;cases rx;cases ry;refine .inl ⟨rfl,?_⟩;have e:(decide (V.bl i=V.bl j))=decide (i=j):=by cases i <;> cases j <;> rfl
  rw [e];exact h _ H (Ex.refl R.fl) rfl
 ·rename_i i j;cases rx;cases ry;refine .inl ⟨rfl,?_⟩;have e:(decide (V.int i=V.int j))=decide (i=j):=by simp
  rw [e];exact h _ H (Ex.refl R.fl) rfl
 ·rename_i i j;cases rx;cases ry;refine .inl ⟨rfl,?_⟩;have e:(decide (V.str i=V.str j))=decide (i=j):=by simp
  rw [e];exact h _ H (Ex.refl R.fl) rfl
 ·rename_i la lb;obtain⟨p1,p2,p3,q⟩:=h;refine .inr (.inl ⟨D.dvs la,D.dvs lb,Rp.rep (d:=.tup la) p1 rx,Rp.rep (d:=.tup lb) p2 ry,D.dvs_pl p1,D.dvs_pl p2,by rw [D.dvs_dp];exact p3,fun b hb=>?_⟩);exact q b (hb.trans ⟨fun e=>D.dvs_inj p1 p2 e,fun e=>by rw [e]⟩) _ H (Ex.refl R.fl) rfl
 ·rename_i la lb;obtain⟨_,p1,p2,p3,q⟩:=h;refine .inr (.inr ⟨D.dvs la,D.dvs lb,Rp.rep (d:=.lst la) p1 rx,Rp.rep (d:=.lst lb) p2 ry,D.dvs_pl p1,D.dvs_pl p2,by rw [D.dvs_dp];exact p3,fun b hb=>?_⟩);exact q b (hb.trans ⟨fun e=>D.dvs_inj p1 p2 e,fun e=>by rw [e]⟩) _ H (Ex.refl R.fl) rfl
theorem Gv:OpR X (compareOp .Is) (fun x y H Q=>∃ i j,x = .bl i/\y = .bl j/\Q (.bl (decide (i=j))) H):=by
 intro pins s σ H x y v u Q I rx ry h;obtain⟨i,j,rfl,rfl,q⟩:=h;cases rx;cases ry;exact wpAny_bind (wpAny_pure (wpAny_pure (qv I q (by cases i <;> cases j <;> rfl))))
theorem Ea:OpR X (compareOp .IsNot) (fun x y H Q=>∃ i j,x = .bl i/\y = .bl j/\Q (.bl (!decide (i=j))) H):=by
 intro pins s σ H x y v u Q I rx ry h;obtain⟨i,j,rfl,rfl,q⟩:=h;cases rx;cases ry;exact wpAny_bind (wpAny_pure (wpAny_pure (qv I q (by cases i <;> cases j <;> rfl))))
theorem HZ:Rng X (compareOp .Is) (oIs false):=by
 refine⟨_,OpR.or2 Gu Gv,fun f O σ ss H dx dy x y Q R rx ry h=>?_⟩;cases dy <;> first|(exact False.elim h)|skip
 ·cases ry;refine .inl ⟨rfl,?_⟩;cases dx;case tup=>obtain⟨a,xs,rfl,_⟩:=rx;exact h _ H (Ex.refl R.fl) rfl
  case lst=>obtain⟨a,xs,rfl,_⟩:=rx;exact h _ H (Ex.refl R.fl) rfl
  case exn=>obtain⟨a,xs,rfl,_⟩:=rx;exact h _ H (Ex.refl R.fl) rfl
  case dct=>obtain⟨a,xs,rfl,_⟩:=rx;exact h _ H (Ex.refl R.fl) rfl
  all_goals (cases rx;exact h _ H (Ex.refl R.fl) rfl)
 ·cases ry;cases dx <;> first|(exact False.elim h)|skip
  cases rx;exact .inr ⟨_,_,rfl,rfl,h _ H (Ex.refl R.fl) rfl⟩
theorem BX:Rng X (compareOp .IsNot) (oIs true):=by
 refine⟨_,OpR.or2 D9 Ea,fun f O σ ss H dx dy x y Q R rx ry h=>?_⟩;cases dy <;> first|(exact False.elim h)|skip
 ·cases ry;refine .inl ⟨rfl,?_⟩;cases dx;case tup=>obtain⟨a,xs,rfl,_⟩:=rx;exact h _ H (Ex.refl R.fl) rfl
  case lst=>obtain⟨a,xs,rfl,_⟩:=rx;exact h _ H (Ex.refl R.fl) rfl
  case exn=>obtain⟨a,xs,rfl,_⟩:=rx;exact h _ H (Ex.refl R.fl) rfl
  case dct=>obtain⟨a,xs,rfl,_⟩:=rx;exact h _ H (Ex.refl R.fl) rfl
  all_goals (cases rx;exact h _ H (Ex.refl R.fl) rfl)
 ·cases ry;cases dx <;> first|(exact False.elim h)|skip
  cases rx;exact .inr ⟨_,_,rfl,rfl,h _ H (Ex.refl R.fl) rfl⟩
theorem Rps.strs:∀{zs:List Str} {vs:List V},Rps K f O H (zs.map D.str) vs->vs=zs.map V.str
 | [],_,h=>h
 | z::zs,_,h=>by
  obtain⟨v,r,e1,h1,h2⟩:=h;rw [e1,Rps.strs h2,show v = .str z from h1];rfl
theorem AC(i:Int)(ns:List Int):HD (.int i) (ns.map V.int)=decide (i∈ns):=by
 apply bU.mpr;unfold HD;rw [d9,decide_eq_true_iff];constructor
 ·rintro⟨y,hy,e⟩;obtain⟨j,hj,rfl⟩:=bB.mp hy;have e:(j == i)=true:=e;exact beq_iff_eq.mp e ▸ hj
 ·exact fun h=>⟨_,bB.mpr ⟨i,h,rfl⟩,show (i == i)=true from beq_self_eq_true i⟩
theorem AB(i:Str)(ns:List Str):HD (.str i) (ns.map V.str)=decide (i∈ns):=by
 apply bU.mpr;unfold HD;rw [d9,decide_eq_true_iff];constructor
 ·rintro⟨y,hy,e⟩;obtain⟨j,hj,rfl⟩:=bB.mp hy;have e:(j == i)=true:=e;exact beq_iff_eq.mp e ▸ hj
 ·exact fun h=>⟨_,bB.mpr ⟨i,h,rfl⟩,show (i == i)=true from beq_self_eq_true i⟩
theorem D.dvs_mem{x:D}:∀{l:List D},x.pl=true->D.pls l=true->(x.dv∈D.dvs l↔x∈l)
 | [],_,_=>⟨fun h=>(by cases h),fun h=>by cases h⟩
 | d::l,hx,hl=>by
  have h:=au.mp (show (d.pl && D.pls l)=true from hl);show x.dv∈d.dv::D.dvs l↔_;rw [ak,ak,D.dvs_mem hx h.2];exact or_congr ⟨fun e=>D.dv_inj hx h.1 e,fun e=>by rw [e]⟩ Iff.rfl
theorem E4(neg:Bool):RD K (fun x y H Q=>Ke K neg x y H Q\/Gb K neg x y H Q) (oIn neg):=by
 rintro f O σ ss H dx dy x y Q R rx ry (⟨i,ns,rfl,hy,q⟩|⟨i,ns,rfl,hy,q⟩|⟨l,rfl,p1,p2,p3,q⟩)
 ·cases rx;have fl:(ns.map V.int).all tW=true:=by rw [eO];exact cm.mpr fun _ _=>rfl
  rcases hy with rfl|rfl
  ·obtain⟨a,xs,rfl,_,h1,r1⟩:=ry;rw [Rps.ints r1] at h1;exact .inl ⟨a,_,rfl,.inl (SqL.of h1),rfl,fl,by rw [AC];exact q _ H (Ex.refl R.fl) rfl⟩
  ·obtain⟨a,xs,rfl,h1,r1⟩:=ry;rw [Rps.ints r1] at h1;exact .inl ⟨a,_,rfl,.inr h1,rfl,fl,by rw [AC];exact q _ H (Ex.refl R.fl) rfl⟩
 ·cases rx;have fl:(ns.map V.str).all tW=true:=by rw [eO];exact cm.mpr fun _ _=>rfl
  rcases hy with rfl|rfl
  ·obtain⟨a,xs,rfl,_,h1,r1⟩:=ry;rw [Rps.strs r1] at h1;exact .inl ⟨a,_,rfl,.inl (SqL.of h1),rfl,fl,by rw [AB];exact q _ H (Ex.refl R.fl) rfl⟩
  ·obtain⟨a,xs,rfl,h1,r1⟩:=ry;rw [Rps.strs r1] at h1;exact .inl ⟨a,_,rfl,.inr h1,rfl,fl,by rw [AB];exact q _ H (Ex.refl R.fl) rfl⟩
 ·exact .inr ⟨dx.dv,D.dvs l,Rp.rep p1 rx,Rp.rep (d:=.lst l) p2 ry,D.dv_pl p1,D.dvs_pl p2,by rw [D.dvs_dp];exact p3,fun b hb=>q b (hb.trans (D.dvs_mem p1 p2)) _ H (Ex.refl R.fl) rfl⟩
theorem uB{k:Nat}(hr:Room k X.A)(op:CmpOp):Rng X (compareOp op) (oCmp op):=by
 cases op;case Eq=>exact H8 hr
 case NotEq=>exact HY hr
 case Lt=>exact va Fb fun dx dy Q h=>by cases dx <;> cases dy <;> first|(exact False.elim h)|exact⟨_,_,rfl,rfl,h⟩
 case LtE=>exact va IA fun dx dy Q h=>by cases dx <;> cases dy <;> first|(exact False.elim h)|exact⟨_,_,rfl,rfl,h⟩
 case Gt=>exact va Fc fun dx dy Q h=>by cases dx <;> cases dy <;> first|(exact False.elim h)|exact⟨_,_,rfl,rfl,h⟩
 case GtE=>exact va Fd fun dx dy Q h=>by cases dx <;> cases dy <;> first|(exact False.elim h)|exact⟨_,_,rfl,rfl,h⟩
 case Is=>exact HZ
 case IsNot=>exact BX
 case In=>exact⟨_,OpR.or2 A8 (Gw X.K hr),E4 false⟩
 case NotIn=>exact⟨_,OpR.or2 xh (A7 X.K hr),E4 true⟩
end Dp
namespace Dp
open PySem L2
variable{K:Frag}{f:Addr}{O O':List Addr}{H H':Hp}{X:Cx}{σ:St}{ss:SS}{a b c:Expr}{ta tb tc:TEd}{tA tB:TTd}{pos:Pos}
def gr(op:Operator)(a b:TEd):TEd:=d2 (oBin op) oBin.mono a b
theorem gr.ok{k:Nat}{op:Operator}(hr:Room k X.A)(ha:PE X a (LE X.K ta))(hb:PE X b (LE X.K tb)):PE X (.BinOp a op b pos) (LE X.K (gr op ta tb)):=by
 obtain⟨r,h,hr⟩:=F2 (X:=X) hr op;exact d2.ok hr (qQ h ha hb)
def gD(op:CmpOp)(a b:TEd):TEd:=d2 (oCmp op) oCmp.mono a b
theorem gD.ok{k:Nat}{op:CmpOp}(hr:Room k X.A)(ha:PE X a (LE X.K ta))(hb:PE X b (LE X.K tb))(hm:behindInMarks op b=false):PE X (.Compare a [op] [b] pos) (LE X.K (gD op ta tb)):=by
 obtain⟨r,h,hr⟩:=uB hr op;exact d2.ok hr (vb h ha hb hm)
def gx(t:TEd):TTd:=⟨fun ss Q=>t.run ss fun d=>match d with | .bl b=>Q b|_=>False,fun {ss Q Q'} h q=>t.mono (fun d q=>by
 revert q;cases d <;> first|exact h _|exact id) q⟩
theorem LE.test{t:TEd}{σ:St}{H:Hp}{Q:Bool->Hp->Prop}(h:LT X.K (gx t) σ H Q):BI (LE X.K t) σ H Q:=by
 obtain⟨f,O,ss,R,q⟩:=h;refine⟨f,O,ss,R,t.mono (fun d q v H' e r=>?_) q⟩;cases d <;> first|exact False.elim q|skip
 cases r;exact⟨_,rfl,q H' e⟩
theorem gD.test{k:Nat}{op:CmpOp}(hr:Room k X.A)(ha:PE X a (LE X.K ta))(hb:PE X b (LE X.K tb))(hm:behindInMarks op b=false):PT X (.Compare a [op] [b] pos) (LT X.K (gx (gD op ta tb))):=by
 obtain⟨r,h,hr⟩:=uB hr op;refine (sE (pos:=pos) h ha hb hm).weak fun σ H Q q=>?_;have q:=LE.test q;obtain⟨f,O,ss,R,q⟩:=q;refine⟨f,O,ss,R,ta.mono (fun dx q v1 H1 e1 r1=>?_) q⟩;refine⟨f,O,ss,R.ex e1,tb.mono (fun dy q v2 H2 e2 r2=>?_) q⟩;exact hr f O σ ss H2 dx dy v1 v2 _ ((R.ex e1).ex e2) ((R.ex e1).up e2 r1) r2 (oCmp.mono (fun d q v H' e3 r3=>q v H' (e1.trans (e2.trans e3)) r3) q)
def iO(op op':CmpOp)(a b c:TEd):TEd:=⟨fun ss Q=>a.run ss fun x=>b.run ss fun y=>oCmp op x y fun z=>match z with | .bl k=>if k=true then c.run ss fun w=>oCmp op' y w Q else Q (.bl false)|_=>False,fun {ss Q Q'} h q=>a.mono (fun x q=>b.mono (fun y q=>oCmp.mono (fun d q=>by
 revert q;cases d <;> first|exact id|skip
 rename_i k;cases k
 ·exact h _
 ·exact c.mono fun w q=>oCmp.mono h q) q) q) q⟩
theorem iO.test{k:Nat}{op op':CmpOp}(hr:Room k X.A)(ha:PE X a (LE X.K ta))(hb:PE X b (LE X.K tb))(hc:PE X c (LE X.K tc))(hm:lastMarks [op,op'] [b,c]=false):PT X (.Compare a [op,op'] [b,c] pos) (LT X.K (gx (iO op op' ta tb tc))):=by
 obtain⟨r,h,h1⟩:=uB hr op;obtain⟨r',h',h2⟩:=uB hr op';refine (Ci (pos:=pos) h h' ha hb hc hm).weak fun σ H Q q=>?_;have q:=LE.test q;obtain⟨f,O,ss,R,q⟩:=q;refine⟨f,O,ss,R,ta.mono (fun dx q v1 H1 e1 r1=>?_) q⟩;refine⟨f,O,ss,R.ex e1,tb.mono (fun dy q v2 H2 e2 r2=>?_) q⟩;have R2:=(R.ex e1).ex e2;refine h1 f O σ ss H2 dx dy v1 v2 _ R2 ((R.ex e1).up e2 r1) r2 (oCmp.mono (fun d q v H3 e3 r3=>?_) q);cases d <;> first|exact False.elim q|skip
 rename_i k;cases r3;refine⟨k,rfl,?_⟩;cases k
 ·exact q _ H3 (e1.trans (e2.trans e3)) rfl
 ·have R3:=R2.ex e3;refine⟨f,O,ss,R3,tc.mono (fun dz q v4 H4 e4 r4=>?_) q⟩;exact h2 f O σ ss H4 dy dz v2 v4 _ (R3.ex e4) (R3.up e4 (R2.up e3 r2)) r4 (oCmp.mono (fun d q v H' e5 r5=>q v H' (e1.trans (e2.trans (e3.trans (e4.trans e5)))) r5) q)
theorem iO.ok{k:Nat}{op op':CmpOp}(hr:Room k X.A)(ha:PE X a (LE X.K ta))(hb:PE X b (LE X.K tb))(hc:PE X c (LE X.K tc))(hm:lastMarks [op,op'] [b,c]=false):PE X (.Compare a [op,op'] [b,c] pos) (LE X.K (iO op op' ta tb tc)):=by
 obtain⟨r,h,h1⟩:=uB hr op;obtain⟨r',h',h2⟩:=uB hr op';refine (Cr (pos:=pos) h h' ha hb hc hm).weak fun σ H Q q=>?_;obtain⟨f,O,ss,R,q⟩:=q;refine⟨f,O,ss,R,ta.mono (fun dx q v1 H1 e1 r1=>?_) q⟩;refine⟨f,O,ss,R.ex e1,tb.mono (fun dy q v2 H2 e2 r2=>?_) q⟩;have R2:=(R.ex e1).ex e2;refine h1 f O σ ss H2 dx dy v1 v2 _ R2 ((R.ex e1).up e2 r1) r2 (oCmp.mono (fun d q v H3 e3 r3=>?_) q);cases d <;> first|exact False.elim q|skip
 rename_i k;cases r3;refine⟨k,rfl,?_⟩;cases k
 ·exact q _ H3 (e1.trans (e2.trans e3)) rfl
 ·have R3:=R2.ex e3;refine⟨f,O,ss,R3,tc.mono (fun dz q v4 H4 e4 r4=>?_) q⟩;exact h2 f O σ ss H4 dy dz v2 v4 _ (R3.ex e4) (R3.up e4 (R2.up e3 r2)) r4 (oCmp.mono (fun d q v H' e5 r5=>q v H' (e1.trans (e2.trans (e3.trans (e4.trans e5)))) r5) q)
def iW(a:TEd):TEd:=⟨fun ss Q=>a.run ss fun d=>match d with | .int i=>Q (.int (-i))|_=>False,fun {ss Q Q'} h q=>a.mono (fun d q=>by
 revert q;cases d <;> first|exact h _|exact id) q⟩
theorem iW.ok(ha:PE X a (LE X.K ta)):PE X (.UnaryOp .USub a pos) (LE X.K (iW ta)):=(E9 (pos:=pos) BC ha).weak fun σ H Q ⟨f,O,ss,R,q⟩=>⟨f,O,ss,R,ta.mono (fun d q v H1 e r=>by
 cases d <;> first|exact False.elim q|skip
 cases r;exact⟨_,rfl,q _ H1 e rfl⟩) q⟩
def truD:D->(Bool->Prop)->Prop
 | .non,Q=>Q false
 | .bl b,Q=>Q b
 | .int i,Q=>Q (i != 0)
 | .str y,Q=>y.length<=sizeLine/\Q ((y.length:Int) != 0)
 | .tup l,Q=>Q (!l.isEmpty)
 | .lst l,Q=>Q (!l.isEmpty)
 | .fl,_=>False
 | .exn _ _ _,_=>False
 | .dct _ _,_=>False
theorem truD.mono:∀{d:D} {Q Q':Bool->Prop},(∀ b,Q b->Q' b)->truD d Q->truD d Q'
 | .non,_,_,h,q=>h _ q
 | .bl _,_,_,h,q=>h _ q
 | .int _,_,_,h,q=>h _ q
 | .str _,_,_,h,q=>⟨q.1,h _ q.2⟩
 | .tup _,_,_,h,q=>h _ q
 | .lst _,_,_,h,q=>h _ q
 | .fl,_,_,_,q=>q
 | .exn _ _ _,_,_,_,q=>q
 | .dct _ _,_,_,_,q=>q
theorem Rps.empty:∀{ds:List D} {vs:List V},Rps K f O H ds vs->vs.isEmpty=ds.isEmpty
 | [],_,h=>by rw [show _=[] from h];rfl
 | _::_,_,h=>by obtain⟨v,r,e,_⟩:=h;rw [e];rfl
def iP(a:TEd):TTd:=⟨fun ss Q=>a.run ss fun d=>truD d Q,fun h q=>a.mono (fun d q=>truD.mono h q) q⟩
theorem iP.ok(ha:PE X a (LE X.K ta))(he:∀ whole,isTrue a X.env whole=(do let v ← whole;standAt a.pos;holding [v] (truthy v))):PT X a (LT X.K (iP ta)):=(xS ha he).weak fun σ H Q ⟨f,O,ss,R,q⟩=>⟨f,O,ss,R,ta.mono (fun d q v H1 e r=>by
 cases d;case non=>cases r;exact⟨false,rfl,q H1 e⟩
 case bl=>cases r;exact⟨_,rfl,q H1 e⟩
 case int=>cases r;exact⟨_,rfl,q H1 e⟩
 case str=>cases r;exact⟨_,⟨q.1,rfl⟩,q.2 H1 e⟩
 case tup l =>
  obtain⟨p,xs,rfl,h1,h2⟩:=r;exact⟨_,.inr (.inl ⟨xs,h1,by rw [h2.empty]⟩),q H1 e⟩
 case lst l =>
  obtain⟨p,xs,rfl,_,h1,h2⟩:=r;exact⟨_,.inl ⟨xs,SqL.of h1,by rw [h2.empty]⟩,q H1 e⟩
 case fl=>exact False.elim q
 case exn=>exact False.elim q
 case dct=>exact False.elim q) q⟩
def i4(a b:TTd):TTd:=⟨fun ss Q=>a.run ss fun k=>if k=true then b.run ss Q else Q false,fun {ss Q Q'} h q=>a.mono (fun k q=>by
 revert q;cases k
 ·exact h _
 ·exact b.mono h) q⟩
def iQ(a b:TTd):TTd:=⟨fun ss Q=>a.run ss fun k=>if k=true then Q true else b.run ss Q,fun {ss Q Q'} h q=>a.mono (fun k q=>by
 revert q;cases k
 ·exact b.mono h
 ·exact h _) q⟩
def ip(a:TTd):TTd:=⟨fun ss Q=>a.run ss fun k=>Q (!k),fun h q=>a.mono (fun k q=>h _ q) q⟩
theorem i4.weak{σ:St}{H:Hp}{Q:Bool->Hp->Prop}(h:LT X.K (i4 tA tB) σ H Q):HU (LT X.K tA) (LT X.K tB) σ H Q:=by
 obtain⟨f,O,ss,S,q⟩:=h;refine⟨f,O,ss,S,tA.mono (fun k q H1 e=>?_) q⟩;cases k
 ·exact q H1 e
 ·exact⟨f,O,ss,S.ex e,tB.mono (fun k q H2 e2=>q H2 (e.trans e2)) q⟩
theorem iQ.weak{σ:St}{H:Hp}{Q:Bool->Hp->Prop}(h:LT X.K (iQ tA tB) σ H Q):K2 (LT X.K tA) (LT X.K tB) σ H Q:=by
 obtain⟨f,O,ss,S,q⟩:=h;refine⟨f,O,ss,S,tA.mono (fun k q H1 e=>?_) q⟩;cases k
 ·exact⟨f,O,ss,S.ex e,tB.mono (fun k q H2 e2=>q H2 (e.trans e2)) q⟩
 ·exact q H1 e
theorem _root_.L2.PW.weak{e:Expr}{t t':TT}(h:PW X e t)(w:∀ σ H Q,t' σ H Q->t σ H Q):PW X e t':=fun wh pins s σ H Q I q=>h wh pins s σ H Q I (w σ H Q q)
theorem i4.ok{rest:List Expr}(ha:PT X a (LT X.K tA))(hb:PW X (.BoolOp .And (b::rest) pos) (LT X.K tB)):PW X (.BoolOp .And (a::b::rest) pos) (LT X.K (i4 tA tB)):=(Cf ha hb).weak fun _ _ _=>i4.weak
theorem iQ.ok{rest:List Expr}(ha:PT X a (LT X.K tA))(hb:PW X (.BoolOp .Or (b::rest) pos) (LT X.K tB)):PW X (.BoolOp .Or (a::b::rest) pos) (LT X.K (iQ tA tB)):=(Im ha hb).weak fun _ _ _=>iQ.weak
theorem ip.ok(ha:PT X a (LT X.K tA)):PT X (.UnaryOp .Not a pos) (LT X.K (ip tA)):=(Gf ha).weak fun σ H Q ⟨f,O,ss,S,q⟩=>⟨f,O,ss,S,q⟩
def ph(a b:TEd):TEd:=⟨fun ss Q=>a.run ss fun d=>match d with | .bl k=>if k=true then b.run ss Q else Q (.bl false)|_=>False,fun {ss Q Q'} h q=>a.mono (fun d q=>by
 revert q;cases d <;> first|exact id|skip
 rename_i k;cases k
 ·exact h _
 ·exact b.mono h) q⟩
def dOr(a b:TEd):TEd:=⟨fun ss Q=>a.run ss fun d=>match d with | .bl k=>if k=true then Q (.bl true) else b.run ss Q|_=>False,fun {ss Q Q'} h q=>a.mono (fun d q=>by
 revert q;cases d <;> first|exact id|skip
 rename_i k;cases k
 ·exact b.mono h
 ·exact h _) q⟩
def oA(a:TEd):TEd:=⟨fun ss Q=>a.run ss fun d=>match d with | .bl k=>Q (.bl (!k))|_=>False,fun {ss Q Q'} h q=>a.mono (fun d q=>by
 revert q;cases d <;> first|exact h _|exact id) q⟩
theorem ph.ok{rest:List Expr}(ha:PE X a (LE X.K ta))(hb:PE X (.BoolOp .And (b::rest) pos) (LE X.K tb)):PE X (.BoolOp .And (a::b::rest) pos) (LE X.K (ph ta tb)):=(yV ha hb).weak fun σ H Q ⟨f,O,ss,S,q⟩=>⟨f,O,ss,S,ta.mono (fun d q v H1 e r=>by
 cases d <;> first|exact False.elim q|skip
 rename_i k;cases r;refine⟨k,rfl,?_⟩;cases k
 ·exact q _ H1 e rfl
 ·exact⟨f,O,ss,S.ex e,tb.mono (fun k q v H2 e2 r=>q v H2 (e.trans e2) r) q⟩) q⟩
theorem dOr.ok{rest:List Expr}(ha:PE X a (LE X.K ta))(hb:PE X (.BoolOp .Or (b::rest) pos) (LE X.K tb)):PE X (.BoolOp .Or (a::b::rest) pos) (LE X.K (dOr ta tb)):=(Ip ha hb).weak fun σ H Q ⟨f,O,ss,S,q⟩=>⟨f,O,ss,S,ta.mono (fun d q v H1 e r=>by
 cases d <;> first|exact False.elim q|skip
 rename_i k;cases r;refine⟨k,rfl,?_⟩;cases k
 ·exact⟨f,O,ss,S.ex e,tb.mono (fun k q v H2 e2 r=>q v H2 (e.trans e2) r) q⟩
 ·exact q _ H1 e rfl) q⟩
theorem oA.ok(ha:PE X a (LE X.K ta)):PE X (.UnaryOp .Not a pos) (LE X.K (oA ta)):=(Gm (pos:=pos) ha).weak fun σ H Q ⟨f,O,ss,S,q⟩=>⟨f,O,ss,S,ta.mono (fun d q v H1 e r=>by
 cases d <;> first|exact False.elim q|skip
 rename_i k;cases r;exact⟨k,rfl,q _ H1 e rfl⟩) q⟩
def oh(c:TTd)(a b:TEd):TEd:=⟨fun ss Q=>c.run ss fun k=>if k=true then a.run ss Q else b.run ss Q,fun {ss Q Q'} h q=>c.mono (fun k q=>by
 revert q;cases k
 ·exact b.mono h
 ·exact a.mono h) q⟩
theorem oh.ok(hc:PT X c (LT X.K tA))(ha:PE X a (LE X.K ta))(hb:PE X b (LE X.K tb)):PE X (.IfExp c a b pos) (LE X.K (oh tA ta tb)):=(Cq (pos:=pos) hc ha hb).weak fun σ H Q ⟨f,O,ss,S,q⟩=>⟨f,O,ss,S,tA.mono (fun k q H1 e=>by
 cases k
 ·exact⟨f,O,ss,S.ex e,tb.mono (fun k q v H2 e2 r=>q v H2 (e.trans e2) r) q⟩
 ·exact⟨f,O,ss,S.ex e,ta.mono (fun k q v H2 e2 r=>q v H2 (e.trans e2) r) q⟩) q⟩
def gm:TAd:=⟨fun _ Q=>Q [],fun h q=>h _ q⟩
def gj(a:TEd)(r:TAd):TAd:=⟨fun ss Q=>a.run ss fun d=>r.run ss fun ds=>Q (d::ds),fun h q=>a.mono (fun d q=>r.mono (fun ds q=>h _ q) q) q⟩
theorem gm.ok:PA X [] (LA X.K gm):=pa_nil.weak fun σ H Q ⟨f,O,ss,S,q⟩=>q [] H (Ex.refl S.fl) rfl
theorem gj.ok{es:List Expr}{t:TAd}(ha:PE X a (LE X.K ta))(hr:PA X es (LA X.K t))(hs:starEach (a::es) X.env=(false,eval a X.env)::starEach es X.env):PA X (a::es) (LA X.K (gj ta t)):=(qo ha hr hs).weak fun σ H Q ⟨f,O,ss,S,q⟩ =>
 ⟨f,O,ss,S,ta.mono (fun d q v H1 e r=>⟨f,O,ss,S.ex e,t.mono (fun ds q vs H2 e2 r2=>q (v::vs) H2 (e.trans e2) ⟨v,vs,rfl,(S.ex e).up e2 r,r2⟩) q⟩) q⟩
def gw(t:TAd):TEd:=⟨fun ss Q=>t.run ss fun ds=>ds.length<=sizeLine/\Q (.tup ds),fun h q=>t.mono (fun ds q=>⟨q.1,h _ q.2⟩) q⟩
def gE(t:TAd):TEd:=⟨fun ss Q=>t.run ss fun ds=>ds.length<=sizeLine/\Q (.lst ds),fun h q=>t.mono (fun ds q=>⟨q.1,h _ q.2⟩) q⟩
theorem gw.ok{es:List Expr}{t:TAd}{k:Nat}(h:PA X es (LA X.K t)):PE X (.Tuple es k pos) (LE X.K (gw t)):=(Co h).weak fun σ H Q ⟨f,O,ss,S,q⟩ =>
 ⟨f,O,ss,S,t.mono (fun ds q vs H1 e r=>⟨by rw [r.len];exact q.1,fun p hp=>q.2 _ _ (e.trans ((S.ex e).new hp _)) ((S.ex e).tup hp r)⟩) q⟩
theorem gE.ok{es:List Expr}{t:TAd}(h:PA X es (LA X.K t)):PE X (.List es pos) (LE X.K (gE t)):=(yT h).weak fun σ H Q ⟨f,O,ss,S,q⟩ =>
 ⟨f,O,ss,S,t.mono (fun ds q vs H1 e r=>⟨by rw [r.len];exact q.1,fun p hp=>q.2 _ _ (e.trans ((S.ex e).new hp _)) ((S.ex e).lst hp r)⟩) q⟩
def itD(l:List D)(i:Int)(Q:D->Prop):Prop:=match vg l i with|some d=>Q d|none=>False
theorem itD.mono{l:List D}{i:Int}{Q Q':D->Prop}(h:∀ d,Q d->Q' d):itD l i Q->itD l i Q':=by
 unfold itD;split
 ·exact h _
 ·exact id
theorem itD.rp{l:List D}{xs:List V}{i:Int}{Q:D->Prop}(r:Rps K f O H l xs)(q:itD l i Q):∃ v d,vg xs i=some v/\Rp K f O H d v/\Q d:=by
 unfold itD at q;split at q
 ·rename_i d e;unfold vg at e ⊢;rw [r.len];cases h:yc l.length i with
  | none=>rw [h] at e;cases e
  | some j =>
   rw [h] at e;obtain⟨v,h1,h2⟩:=r.get (show l[j]? = some d from e);exact⟨v,d,h1,h2,q⟩
 ·exact q.elim
def oIx:OD
 | .lst l,.int i,Q=>itD l i Q
 | .tup l,.int i,Q=>itD l i Q
 | .str z,.int i,Q=>z.length<=sizeLine/\∃ c,vg z.cps.toList i=some c/\Q (.str ⟨#[c]⟩)
 | .dct ks l,.int i,Q=>∃(j:Nat) (d:D),ks[j]? = some (Sum.inl i)/\l[j]? = some d/\Q d
 | .dct ks l,.str x,Q=>∃(j:Nat) (d:D),ks[j]? = some (Sum.inr x)/\l[j]? = some d/\Q d
 | _,_,_=>False
theorem oIx.mono:∀{x y Q Q'},(∀ d,Q d->Q' d)->oIx x y Q->oIx x y Q':=by
 intro x y Q Q' h;cases x <;> cases y <;> intro q <;> first|exact itD.mono h q|exact q|skip
 ·obtain⟨q0,c,q1,q2⟩:=q;exact⟨q0,c,q1,h _ q2⟩
 ·obtain⟨j,d,q0,q1,q2⟩:=q;exact⟨j,d,q0,q1,h _ q2⟩
 ·obtain⟨j,d,q0,q1,q2⟩:=q;exact⟨j,d,q0,q1,h _ q2⟩
def Ia(K:Frag):R2:=fun x y H Q=>JO K x y H Q\/Id x y H Q
theorem CQ:IxR X (Ia X.K):=ix_seq.or Ev
theorem Dc{ks:List vi}{l:List D}{us:List V}{j:Nat}{k:vi}{d:D}(h1:ks[j]? = some k)(h2:l[j]? = some d)(r:Rps K f O H l us):∃ v,(k,v)∈ks.zip us/\Rp K f O H d v:=by
 obtain⟨v,hv,rv⟩:=r.get h2;exact⟨v,aO (i:=j) (by rw [List.getElem?_zip_eq_some];exact⟨h1,hv⟩),rv⟩
theorem E3:RD X.K (Ia X.K) oIx:=by
 intro f O σ ss H dx dy x y Q R rx ry h;cases dx <;> cases dy <;> first|(exact False.elim h)|skip
 ·rename_i z i;cases rx;cases ry;obtain⟨q0,c,q1,q2⟩:=h;exact .inl (.inr (.inr ⟨z,i,c,rfl,rfl,q0,q1,q2 _ H (Ex.refl R.fl) rfl⟩))
 ·rename_i l i;obtain⟨p,xs,rfl,h1,h2⟩:=rx;cases ry;obtain⟨v,d,e,r,q⟩:=itD.rp h2 h;exact .inl (.inr (.inl ⟨p,xs,i,v,rfl,rfl,h1,e,q v H (Ex.refl R.fl) r⟩))
 ·rename_i l i;obtain⟨p,xs,rfl,_,h1,h2⟩:=rx;cases ry;obtain⟨v,d,e,r,q⟩:=itD.rp h2 h;exact .inl (.inl ⟨p,xs,i,v,rfl,rfl,SqL.of h1,e,q v H (Ex.refl R.fl) r⟩)
 ·rename_i ks l i;obtain⟨p,us,rfl,h1,h2,h3⟩:=rx;cases ry;obtain⟨j,d,e1,e2,q⟩:=h;obtain⟨v,hm,rv⟩:=Dc e1 e2 h3;exact .inr ⟨p,_,.inl i,v,rfl,rfl,h1,hm,q v H (Ex.refl R.fl) rv⟩
 ·rename_i ks l x;obtain⟨p,us,rfl,h1,h2,h3⟩:=rx;cases ry;obtain⟨j,d,e1,e2,q⟩:=h;obtain⟨v,hm,rv⟩:=Dc e1 e2 h3;exact .inr ⟨p,_,.inr x,v,rfl,rfl,h1,hm,q v H (Ex.refl R.fl) rv⟩
def dIx(a b:TEd):TEd:=d2 oIx oIx.mono a b
theorem dIx.ok(ha:PE X a (LE X.K ta))(hb:PE X b (LE X.K tb))(hs:vh b):PE X (.Subscript a b pos) (LE X.K (dIx ta tb)):=d2.ok E3 (q8 CQ ha hb hs)
def itI(l:List D)(y:D)(Q:D->Prop):Prop:=match y with | .int j=>itD l j Q|_=>False
theorem itI.mono{l:List D}{y:D}{Q Q':D->Prop}(h:∀ d,Q d->Q' d):itI l y Q->itI l y Q':=by
 cases y <;> first|exact id|exact itD.mono h
def kT(i:Nat)(b:TEd):TEd:=⟨fun ss Q=>match ss[i]? with|some (.val d)=>b.run ss fun y=>oIx d y Q|some (.own l)=>b.run ss fun y=>itI l y Q|_=>False,fun {ss Q Q'} h q=>by
 revert q;split
 ·exact b.mono fun y=>oIx.mono h
 ·exact b.mono fun y=>itI.mono h
 ·exact id⟩
theorem kT.ok{i:Nat}(ha:PE X a (uc i))(hb:PE X b (LE X.K tb))(hs:vh b):PE X (.Subscript a b pos) (LE X.K (kT i tb)):=(q8 (pos:=pos) CQ ha hb hs).weak fun σ H Q ⟨f,O,ss,R,q⟩=>by
 have q:(match ss[i]? with|some (.val d)=>tb.run ss fun y=>oIx d y (fun d=>∀ v H',Ex f H H'->Rp X.K f O H' d v->Q v H')|some (.own l)=>tb.run ss fun y=>itI l y (fun d=>∀ v H',Ex f H H'->Rp X.K f O H' d v->Q v H')|_=>False):=q;split at q
 ·rename_i d e;obtain⟨v,h1,h2⟩:=R.val i d e;refine⟨v,h1,f,O,ss,R,tb.mono (fun dy q y H1 e1 r1=>?_) q⟩;exact E3 f O σ ss H1 d dy v y Q (R.ex e1) (R.up e1 h2) r1 (oIx.mono (fun d q v H' e r=>q v H' (e1.trans e) r) q)
 ·rename_i l e;obtain⟨p,xs,h1,h2,h3,h4,h5⟩:=R.own i l e;refine⟨_,h1,f,O,ss,R,tb.mono (fun dy q y H1 e1 r1=>?_) q⟩;cases dy <;> first|exact False.elim q|skip
  cases r1;obtain⟨v,d,e,r,q⟩:=itD.rp (R.ups e1 h5) q;exact .inl (.inl ⟨p,xs,_,v,rfl,rfl,SqL.of (e1.sm.app p _ h3 h4),e,q v H1 e1 r⟩)
 ·exact q.elim
def qE{α:Type}(xs:List α)(lo hi:Option Int):List α:=(xs.drop (HT.qT xs.length 0 lo)).take (HT.qT xs.length xs.length hi-HT.qT xs.length 0 lo)
theorem Rps.cut{ds:List D}{xs:List V}(r:Rps K f O H ds xs)(lo hi:Option Int):Rps K f O H (qE ds lo hi) (yr xs lo hi):=by
 unfold qE yr;rw [r.len];exact (r.drop _).take _
def dNo:TOd:=⟨fun _ Q=>Q none,fun h q=>h _ q⟩
def gH(t:TEd):TOd:=⟨fun ss Q=>t.run ss fun d=>match d with | .int i=>Q (some i)|_=>False,fun {ss Q Q'} h q=>t.mono (fun d q=>by
 revert q;cases d <;> first|exact h _|exact id) q⟩
theorem dNo.ok:PO X none (LO X.K dNo):=po_none.weak fun σ H Q ⟨f,O,ss,S,q⟩=>q H (Ex.refl S.fl)
theorem gH.ok(ha:PE X a (LE X.K ta)):PO X (some a) (LO X.K (gH ta)):=(Ak ha).weak fun σ H Q ⟨f,O,ss,S,q⟩=>⟨f,O,ss,S,ta.mono (fun d q v H1 e r=>by
 cases d <;> first|exact False.elim q|skip
 cases r;exact⟨_,rfl,q H1 e⟩) q⟩
def slD(d:D)(lo hi:Option Int)(Q:D->Prop):Prop:=match d with
 | .lst l=>Q (.lst (qE l lo hi))
 | .tup l=>True/\Q (.tup (qE l lo hi))
 | _=>False
theorem slD.mono{d:D}{lo hi:Option Int}{Q Q':D->Prop}(h:∀ d,Q d->Q' d):slD d lo hi Q->slD d lo hi Q':=by
 cases d <;> intro q <;> first|exact h _ q|exact⟨q.1,h _ q.2⟩|exact q
theorem BP:SlR X (fun x lo hi H Q=>∃ a xs,x = .ref a/\SqT X.K H a xs/\(HT.qT xs.length 0 lo=0/\HT.qT xs.length xs.length hi=xs.length)/\Q (.ref a) H):=by
 intro pins s σ H x v vl vu lo hi sl Q I rx hs pl pu h;obtain⟨a,xs,e,hx,hw,q⟩:=h;subst e;cases rx;obtain⟨its,r,ht,hz⟩:=I.tuple hx;have hlen:its.toArray.size=xs.length:=by rw [am];exact r.length.symm
 exact⟨"tuple",_,PyProof.Rows.slot_tuple_getitem.lookup,ht.typeIs,HT.tK ht hs pl pu (by rw [hlen];exact hw) ⟨.ref a,H,I,rfl,q⟩⟩
def dSl(a:TEd)(l u:TOd):TEd:=⟨fun ss Q=>a.run ss fun d=>l.run ss fun lo=>u.run ss fun hi=>slD d lo hi Q,fun h q=>a.mono (fun d q=>l.mono (fun lo q=>u.mono (fun hi q=>slD.mono h q) q) q) q⟩
theorem dSl.ok{lo hi:Option Expr}{tl tu:TOd}{p2:Pos}(ha:PE X a (LE X.K ta))(hl:PO X lo (LO X.K tl))(hu:PO X hi (LO X.K tu)):PE X (.Subscript a (.Slice lo hi none p2) pos) (LE X.K (dSl ta tl tu)):=by
 refine (Cp (pos:=pos) (p2:=p2) (sl_list.or (sl_tup.or BP)) ha hl hu).weak fun σ H Q ⟨f,O,ss,S,q⟩=>?_;refine⟨f,O,ss,S,ta.mono (fun d q v H1 e1 r=>?_) q⟩;have S1:=S.ex e1;refine⟨f,O,ss,S1,tl.mono (fun lo q H2 e2=>?_) q⟩;have S2:=S1.ex e2;refine⟨f,O,ss,S2,tu.mono (fun hi q H3 e3=>?_) q⟩;have S3:=S2.ex e3;have r:=S2.up e3 (S1.up e2 r);cases d <;> first|exact False.elim q|skip
 ·have r':=r;obtain⟨p,xs,rfl,h1,h2⟩:=r;by_cases hw:HT.qT xs.length 0 lo=0/\HT.qT xs.length xs.length hi=xs.length
  ·refine .inr (.inr ⟨p,xs,rfl,h1,hw,q.2 _ _ (e1.trans (e2.trans e3)) ?_⟩);unfold qE;rw [← h2.len,hw.1,hw.2,cU,bE,h2.len,bN];exact r'
  ·exact .inr (.inl ⟨p,xs,rfl,h1,hw,fun p hp=>q.2 _ _ (e1.trans (e2.trans (e3.trans (S3.new hp _)))) (S3.tup hp (h2.cut _ _))⟩)
 ·rename_i l;obtain⟨p,xs,rfl,_,h1,h2⟩:=r;exact .inl ⟨p,xs,rfl,SqL.of h1,fun p hp=>q _ _ (e1.trans (e2.trans (e3.trans (S3.new hp _)))) (S3.lst hp (h2.cut _ _))⟩
def oB(a:TEd):TEd:=⟨fun ss Q=>a.run ss fun d=>match d with | .lst l=>Q (.lst l.reverse)|_=>False,fun {ss Q Q'} h q=>a.mono (fun d q=>by
 revert q;cases d <;> first|exact h _|exact id) q⟩
theorem oB.ok{j k:Nat}{p1 p2 p3:Pos}(ha:PE X a (LE X.K ta)):PE X (.Subscript a (.Slice none none (some (.UnaryOp .USub (.Constant (.int 1) j p1) p3)) p2) pos) (LE X.K (oB ta)):=by
 refine (A6 (pos:=pos) (p2:=p2) (J9 X.K) ha po_none po_none (Ak (E9 (pos:=p3) BC (qq (j:=j) (pos:=p1))))).weak fun σ H Q ⟨f,O,ss,S,q⟩=>?_;refine⟨f,O,ss,S,ta.mono (fun d q v H1 e1 r=>?_) q⟩;have S1:=S.ex e1;cases d <;> first|exact False.elim q|skip
 rename_i l;obtain⟨p,xs,rfl,_,h1,h2⟩:=r;exact⟨_,rfl,_,rfl,rfl,rfl,rfl,p,xs,rfl,SqL.of h1,fun p hp=>q _ _ (e1.trans (S1.new hp _)) (S1.lst hp h2.reverse)⟩
abbrev BD:=List D->(D->Prop)->Prop
def dB(o:BD)(m:∀{ds Q Q'},(∀ d,Q d->Q' d)->o ds Q->o ds Q')(t:TAd):TEd:=⟨fun ss Q=>t.run ss fun ds=>o ds Q,fun h q=>t.mono (fun ds q=>m h q) q⟩
def RC(K:Frag)(r:List V->Hp->VK->Prop)(o:BD):Prop:=∀(f:Addr) (O:List Addr) (σ:St) (ss:SS) (H:Hp) (ds:List D) (vs:List V) (Q:VK),SlD K f O σ H ss->Rps K f O H ds vs->o ds (fun d=>∀ v H',Ex f H H'->Rp K f O H' d v->Q v H')->r vs H Q
theorem dB.ok{e:Expr}{r:List V->Hp->VK->Prop}{o:BD}{m}{t:TAd}(hr:RC X.K r o)(h:PE X e (J5 r (LA X.K t))):PE X e (LE X.K (dB o m t)):=h.weak fun σ H Q ⟨f,O,ss,S,q⟩ =>
 ⟨f,O,ss,S,t.mono (fun ds q vs H1 e1 r1=>hr f O σ ss H1 ds vs Q (S.ex e1) r1 (m (fun d q v H' e r=>q v H' (e1.trans e) r) q)) q⟩
def RB(X:Cx)(g:Value)(o:BD):Prop:=∃ r,CallR X g r/\RC X.K r o
theorem CallR.or2{g:Value}{r r':List V->Hp->VK->Prop}(h:CallR X g r)(h':CallR X g r'):CallR X g (fun xs H Q=>r xs H Q\/r' xs H Q):=fun pins s σ H xs us Q I rx q=>q.elim (h pins s σ H xs us Q I rx) (h' pins s σ H xs us Q I rx)
def bLen:BD
 | [.lst l],Q=>Q (.int l.length)
 | [.tup l],Q=>Q (.int l.length)
 | [.str z],Q=>z.length<=sizeLine/\Q (.int z.length)
 | _,_=>False
def bAbs:BD
 | [.int i],Q=>Q (.int (if i<0 then -i else i))
 | _,_=>False
def bAll:BD
 | [.lst l],Q=>∃ bs:List Bool,l=bs.map D.bl/\Q (.bl (bs.all id))
 | _,_=>False
def bMax:BD
 | [.int i,.int j],Q=>Q (.int (if j > i then j else i))
 | [.lst l],Q=>∃ ns:List Int,l=ns.map D.int/\ns≠[]/\∀ M,M∈ns->(∀ a∈ns,a<=M)->Q (.int M)
 | _,_=>False
def bInt:BD
 | [.int i],Q=>Q (.int i)
 | [.bl k],Q=>Q (.int (if k then 1 else 0))
 | _,_=>False
def bList:BD
 | [.lst l],Q=>Q (.lst l)
 | [.tup l],Q=>Q (.lst l)
 | _,_=>False
def bTuple:BD
 | [.lst l],Q=>Q (.tup l)
 | [.tup l],Q=>Q (.tup l)
 | _,_=>False
end Dp
set_option maxHeartbeats 1000000
set_option maxHeartbeats 1000000
set_option maxHeartbeats 1000000
namespace Dp
open PySem L2
variable{K:Frag}{f:Addr}{O O':List Addr}{H H':Hp}{X:Cx}{σ:St}{ss:SS}{a b c:Expr}{ta tb tc:TEd}{tA tB:TTd}{pos:Pos}
theorem Rps.one{d:D}{vs:List V}(h:Rps K f O H [d] vs):∃ v,vs=[v]/\Rp K f O H d v:=by
 obtain⟨v,r,e,h1,h2⟩:=h;cases (show r=[] from h2);exact⟨v,e,h1⟩
theorem Rps.two{d d':D}{vs:List V}(h:Rps K f O H [d,d'] vs):∃ v v',vs=[v,v']/\Rp K f O H d v/\Rp K f O H d' v':=by
 obtain⟨v,r,e,h1,h2⟩:=h;obtain⟨w,e2,h3⟩:=Rps.one h2;subst e2;exact⟨v,w,e,h1,h3⟩
theorem bLen.mono:∀{ds Q Q'},(∀ d,Q d->Q' d)->bLen ds Q->bLen ds Q':=by
 intro ds Q Q' h;unfold bLen;split <;> first|exact h _|exact fun q=>⟨q.1,h _ q.2⟩|exact id
theorem bAbs.mono:∀{ds Q Q'},(∀ d,Q d->Q' d)->bAbs ds Q->bAbs ds Q':=by
 intro ds Q Q' h;unfold bAbs;split <;> first|exact h _|exact id
theorem bAll.mono:∀{ds Q Q'},(∀ d,Q d->Q' d)->bAll ds Q->bAll ds Q':=by
 intro ds Q Q' h;unfold bAll;split <;> first|exact fun⟨bs,e,q⟩=>⟨bs,e,h _ q⟩|exact id
theorem bMax.mono:∀{ds Q Q'},(∀ d,Q d->Q' d)->bMax ds Q->bMax ds Q':=by
 intro ds Q Q' h;unfold bMax;split <;> first|exact h _|exact fun⟨bs,e,n,q⟩=>⟨bs,e,n,fun M m l=>h _ (q M m l)⟩|exact id
theorem bInt.mono:∀{ds Q Q'},(∀ d,Q d->Q' d)->bInt ds Q->bInt ds Q':=by
 intro ds Q Q' h;unfold bInt;split <;> first|exact h _|exact id
theorem bList.mono:∀{ds Q Q'},(∀ d,Q d->Q' d)->bList ds Q->bList ds Q':=by
 intro ds Q Q' h;unfold bList;split <;> first|exact h _|exact id
theorem bTuple.mono:∀{ds Q Q'},(∀ d,Q d->Q' d)->bTuple ds Q->bTuple ds Q':=by
 intro ds Q Q' h;unfold bTuple;split <;> first|exact h _|exact id
theorem B3:RB X (.builtin "len") bLen:=by
 refine⟨_,CallR.or2 (Bg X.K) xA,fun f O σ ss H ds vs Q S r h=>?_⟩;unfold bLen at h;split at h
 ·obtain⟨v,rfl,p,xs,rfl,_,h1,h2⟩:=Rps.one r;refine .inl ⟨p,xs,rfl,.inl (SqL.of h1),?_⟩;rw [h2.len];exact h _ H (Ex.refl S.fl) rfl
 ·obtain⟨v,rfl,p,xs,rfl,h1,h2⟩:=Rps.one r;refine .inl ⟨p,xs,rfl,.inr h1,?_⟩;rw [h2.len];exact h _ H (Ex.refl S.fl) rfl
 ·obtain⟨v,rfl,e⟩:=Rps.one r;cases e;exact .inr ⟨_,rfl,h.1,h.2 _ H (Ex.refl S.fl) rfl⟩
 ·exact h.elim
theorem F7:RB X (.builtin "abs") bAbs:=by
 refine⟨_,Do,fun f O σ ss H ds vs Q S r h=>?_⟩;unfold bAbs at h;split at h
 ·obtain⟨v,rfl,e⟩:=Rps.one r;cases e;exact⟨_,rfl,h _ H (Ex.refl S.fl) rfl⟩
 ·exact h.elim
theorem F6(hc:X.calm=true):RB X (.builtin "all") bAll:=by
 refine⟨_,Jy X.K hc,fun f O σ ss H ds vs Q S r h=>?_⟩;unfold bAll at h;split at h
 ·obtain⟨bs,rfl,h⟩:=h;obtain⟨v,rfl,p,xs,rfl,_,h1,h2⟩:=Rps.one r;cases h2.bls;exact⟨p,bs,rfl,SqL.of h1,h _ H (Ex.refl S.fl) rfl⟩
 ·exact h.elim
theorem F4(hc:X.calm=true):RB X (.builtin "max") bMax:=by
 refine⟨_,CallR.or2 (Bv hc) (Kz X.K hc),fun f O σ ss H ds vs Q S r h=>?_⟩;unfold bMax at h;split at h
 ·obtain⟨v,v',rfl,e1,e2⟩:=Rps.two r;cases e1;cases e2;exact .inl ⟨_,_,rfl,h _ H (Ex.refl S.fl) rfl⟩
 ·obtain⟨bs,rfl,n,h⟩:=h;obtain⟨v,rfl,p,xs,rfl,_,h1,h2⟩:=Rps.one r;cases h2.ints;exact .inr ⟨p,bs,rfl,SqL.of h1,n,fun M m l=>h M m l _ H (Ex.refl S.fl) rfl⟩
 ·exact h.elim
theorem F5:RB X (.type "int") bInt:=by
 refine⟨_,Bw,fun f O σ ss H ds vs Q S r h=>?_⟩;unfold bInt at h;split at h
 ·obtain⟨v,rfl,e⟩:=Rps.one r;cases e;exact .inl ⟨_,rfl,h _ H (Ex.refl S.fl) rfl⟩
 ·obtain⟨v,rfl,e⟩:=Rps.one r;cases e;exact .inr ⟨_,rfl,h _ H (Ex.refl S.fl) rfl⟩
 ·exact h.elim
theorem DP:RB X (.type "list") bList:=by
 refine⟨_,y9 X.K,fun f O σ ss H ds vs Q S r h=>?_⟩;unfold bList at h;split at h
 ·obtain⟨v,rfl,p,xs,rfl,_,h1,h2⟩:=Rps.one r;exact⟨p,xs,rfl,.inl (SqL.of h1),fun l hl=>h _ _ (S.new hl _) (S.lst hl h2)⟩
 ·obtain⟨v,rfl,p,xs,rfl,h1,h2⟩:=Rps.one r;exact⟨p,xs,rfl,.inr h1,fun l hl=>h _ _ (S.new hl _) (S.lst hl h2)⟩
 ·exact h.elim
theorem BZ:RB X (.type "tuple") bTuple:=by
 refine⟨_,DG X.K,fun f O σ ss H ds vs Q S r h=>?_⟩;unfold bTuple at h;split at h
 ·obtain⟨v,rfl,p,xs,rfl,_,h1,h2⟩:=Rps.one r;exact⟨p,xs,rfl,.inl ⟨SqL.of h1,fun l hl=>h _ _ (S.new hl _) (S.tup hl h2)⟩⟩
 ·obtain⟨v,rfl,p,xs,rfl,h1,h2⟩:=Rps.one r;exact⟨p,xs,rfl,.inr ⟨h1,h _ H (Ex.refl S.fl) ⟨p,xs,rfl,h1,h2⟩⟩⟩
 ·exact h.elim
structure BB where
 run:BD
 mono:∀{ds Q Q'},(∀ d,Q d->Q' d)->run ds Q->run ds Q'
inductive Ty where
 | int|bool|tuple|list|str
def Ty.nm:Ty->String
 | .int => "int" | .bool => "bool" | .tuple => "tuple" | .list => "list" | .str => "str"
def K7:Ty->D->Option Bool
 | _,.fl=>none
 | _,.exn _ _ _=>none
 | _,.dct _ _=>none
 | .int,.int _=>some true | .int,.bl _=>some true | .bool,.bl _=>some true | .tuple,.tup _=>some true | .list,.lst _=>some true | .str,.str _=>some true
 | _,_=>some false
def tyTab:List (Str×Ty):=[("int",.int),("bool",.bool),("tuple",.tuple),("list",.list),("str",.str)]
def yE(x:Str):Option Ty:=tyTab.lookup x
def pj(y:Ty)(t:TEd):TEd:=⟨fun ss Q=>t.run ss fun d=>match K7 y d with|some b=>Q (.bl b)|none=>False,fun {ss Q Q'} h q=>t.mono (fun d q=>by
 revert q;split
 ·exact h _
 ·exact id) q⟩
theorem AU(B:Bl X.mg){x:Str}{y:Ty}(h:yE x=some y):X.mg x=none/\x ≠ "__name__" /\ (x == ("__debug__" : Str))=false/\bootBuiltins x=some (.type y.nm):=by
 have m:=qY h;unfold tyTab at m;rcases ak.mp m with e|m
 ·cases e;exact⟨B.int,by decide,by decide,Dw⟩
 rcases ak.mp m with e|m
 ·cases e;exact⟨B.bool,by decide,by decide,xF⟩
 rcases ak.mp m with e|m
 ·cases e;exact⟨B.tuple,by decide,by decide,tz⟩
 rcases ak.mp m with e|m
 ·cases e;exact⟨B.list,by decide,by decide,sK⟩
 rcases ak.mp m with e|m
 ·cases e;exact⟨B.str,by decide,by decide,Hg⟩
 cases m
theorem GQ{y:Ty}{d:D}{v:V}{b:Bool}(h:K7 y d=some b)(r:Rp K f O H d v):∃ t,Ht K H v t/\PySem.W.kitOne K t (.type y.nm)=some b:=by
 cases d;case non=>cases (show v=_ from r);cases y <;> cases h <;> exact⟨_,.inl .non,rfl⟩
 case bl=>cases (show v=_ from r);cases y <;> cases h <;> exact⟨_,.inl (.bl _),rfl⟩
 case int=>cases (show v=_ from r);cases y <;> cases h <;> exact⟨_,.inl (.int _),rfl⟩
 case str=>cases (show v=_ from r);cases y <;> cases h <;> exact⟨_,.inl (.str _),rfl⟩
 case tup =>
  obtain⟨a,xs,rfl,h1,h2⟩:=r;cases y <;> cases h <;> exact⟨_,.inr (.inl ⟨a,xs,rfl,h1,rfl⟩),rfl⟩
 case lst =>
  obtain⟨a,xs,rfl,_,h1,h2⟩:=r;cases y <;> cases h <;> exact⟨_,.inr (.inr ⟨a,xs,rfl,SqL.of h1,rfl⟩),rfl⟩
 case fl=>cases y <;> cases h
 case exn=>cases y <;> cases h
 case dct=>cases y <;> cases h
theorem pj.ok(B:Bl X.mg){x:Str}{y:Ty}{p p2:Pos}(hy:yE x=some y)(hg:Gl X "isinstance")(hx:Gl X x)(ha:PE X a (LE X.K ta))(hs:∀ es,starEach (a::es) X.env=(false,eval a X.env)::starEach es X.env):PE X (.Call (.Name "isinstance" p) [a,.Name x p2] [] pos) (LE X.K (pj y ta)):=by
 obtain⟨h1,h2,h3,h4⟩:=AU B hy;refine (qG (p:=p) (pos:=pos) (GP X.K) hg B.isinstance qF (qo ha (qo (rM (v:=.ty y.nm) (pos:=p2) hx h1 h4 rfl h2 h3) pa_nil rfl) (hs _)) (by decide) (by decide) (hs _) rfl).weak fun σ H Q ⟨f,O,ss,S,q⟩=>⟨f,O,ss,S,ta.mono (fun d q v H1 e r=>?_) q⟩;revert q;split
 ·rename_i b eb;intro q;obtain⟨t,t1,t2⟩:=GQ eb r;exact⟨v,y.nm,t,b,rfl,t1,t2,q _ H1 e rfl⟩
 ·exact False.elim
def mx(i:Nat):TEd:=⟨fun ss Q=>match ss[i]? with|some (.val d)=>bLen [d] Q|some (.own l)=>Q (.int l.length)|_=>False,fun {ss Q Q'} h q=>by
 revert q;split
 ·exact bLen.mono h
 ·exact h _
 ·exact id⟩
theorem mx.ok{i:Nat}{p:Pos}(hg:Gl X "len")(hm:X.mg "len" = none)(ha:PE X a (uc i))(hs:starEach [a] X.env=[(false,eval a X.env)]):PE X (.Call (.Name "len" p) [a] [] pos) (LE X.K (mx i)):=by
 obtain⟨r,h1,h2⟩:=B3 (X:=X);refine (qG (p:=p) (pos:=pos) (CallR.or2 h1 (Bg X.K)) hg hm uM (qo ha pa_nil hs) (by decide) (by decide) hs rfl).weak fun σ H Q ⟨f,O,ss,S,q⟩=>?_;have q:(match ss[i]? with|some (.val d)=>bLen [d] (fun d=>∀ v H',Ex f H H'->Rp X.K f O H' d v->Q v H')|some (.own l)=>(∀ v H',Ex f H H'->Rp X.K f O H' (.int l.length) v->Q v H')|_=>False):=q;split at q
 ·rename_i d e;obtain⟨v,w1,w2⟩:=S.val i d e;exact⟨v,w1,.inl (h2 f O σ ss H [d] [v] Q S ⟨v,[],rfl,w2,rfl⟩ q)⟩
 ·rename_i l e;obtain⟨p0,xs,w1,w2,w3,w4,w5⟩:=S.own i l e;refine⟨_,w1,.inr ⟨p0,xs,rfl,.inl (SqL.of w4),?_⟩⟩;rw [w5.len];exact q _ H (Ex.refl S.fl) rfl
 ·exact q.elim
structure SpB where
 n:Nat
 run:Ld
 mono:∀{ds Q Q'},(∀ d,Q d->Q' d)->run ds Q->run ds Q'
def SpB.of(n:Nat){α:Type}(pre:α->List D->Prop)(post:α->D->Prop):SpB:=⟨n,fun ds Q=>∃ x,pre x ds/\∀ d,post x d->Q d,fun h ⟨x,p,q⟩=>⟨x,p,fun d r=>h _ (q d r)⟩⟩
def gq(s:SpB)(t:TAd):TEd:=⟨fun ss Q=>t.run ss fun ds=>ds.length=s.n/\s.run ds Q,fun h q=>t.mono (fun ds q=>⟨q.1,s.mono h q.2⟩) q⟩
theorem gq.ok{e:Expr}{s:SpB}{t:TAd}(h:PE X e (Aa (yA X.K s.n s.run) [] E0 (LA X.K t))):PE X e (LE X.K (gq s t)):=h.weak fun σ H Q ⟨f,O,ss,S,q⟩ =>
 ⟨f,O,ss,S,t.mono (fun ds q vs H1 e1 r1=>by
  have S1:=S.ex e1;refine⟨by rw [cr,r1.len];exact q.1,f,O,ds,S1.fl,S1.fO,S1.al,S1.lO,by rw [cr];exact r1,?_⟩;exact s.mono (fun d q v H' e r=>q v H' (e1.trans e) r) q.2) q⟩
end Dp
namespace Dp
open PySem L2
variable{K:Frag}{f:Addr}{O O':List Addr}{H H':Hp}{X:Cx}{σ:St}{ss:SS}{a b c:Expr}{ta tb tc:TEd}{tA tB:TTd}{pos:Pos}
mutual
theorem Rp.moved(e:∀ a∈O',a∈O\/H a=none)(k:Kp O H H')(hO:∀ b∈O,∃ xs,H b=some (.lst xs)):∀{d:D} {v:V},Rp K f O H d v->Rp K f O' H' d v
 | .non,_,h=>h
 | .bl _,_,h=>h
 | .int _,_,h=>h
 | .str _,_,h=>h
 | .fl,_,h=>h
 | .tup l,v,h=>by
  obtain⟨a,xs,e1,h1,h2⟩:=h;exact⟨a,xs,e1,h1.kp k hO,Rps.moved e k hO h2⟩
 | .lst l,v,h=>by
  obtain⟨a,xs,e1,n,h1,h2⟩:=h;refine⟨a,xs,e1,fun z=>?_,k a _ n h1,Rps.moved e k hO h2⟩;rcases e a z with q|q
  ·exact n q
  ·rw [h1] at q;cases q
 | .exn C x l,v,h=>by
  obtain⟨a,us,e1,h1,h2⟩:=h;exact⟨a,us,e1,h1.kp k hO,Rps.moved e k hO h2⟩
 | .dct ks l,v,h=>by
  obtain⟨a,us,e1,h1,h2,h3⟩:=h;exact⟨a,us,e1,k a _ (fun z=>by obtain⟨xs,q⟩:=hO a z;rw [q] at h1;cases h1) h1,h2,Rps.moved e k hO h3⟩
theorem Rps.moved(e:∀ a∈O',a∈O\/H a=none)(k:Kp O H H')(hO:∀ b∈O,∃ xs,H b=some (.lst xs)):∀{ds:List D} {vs:List V},Rps K f O H ds vs->Rps K f O' H' ds vs
 | [],_,h=>h
 | d::ds,_,h=>by
  obtain⟨v,r,e1,h1,h2⟩:=h;exact⟨v,r,e1,Rp.moved e k hO h1,Rps.moved e k hO h2⟩
end
structure ItD (K:Frag)(f:Addr)(O:List Addr)(J:It)(H1:Hp)(ds:List D):Prop where
 go:∀ H' i,Kp O H1 H'->i<ds.length->J.go i H'
 yld:∀ O' H' i x H'',(∀ a∈O',a∈O\/H1 a=none)->f∈O'->(∀ a∈O',∃ xs,H' a=some (.lst xs))->Kp O H1 H'->Fl H' f->i<ds.length->J.yld i H' x H''->∃ d,ds[i]? = some d/\Ex f H' H''/\Rp K f O' H'' d x
 stop:∀ H',Kp O H1 H'->J.stop ds.length H'
def LI(K:Frag)(t:TAd):TI:=fun σ H R=>∃ f O ss,SlD K f O σ H ss/\t.run ss fun ds=>∀ J H1,Ex f H H1->ItD K f O J H1 ds->R J H1
theorem _root_.L2.PI.weak{tg e:Expr}{t t':TI}(h:PI X tg e t)(w:∀ σ H Q,t' σ H Q->t σ H Q):PI X tg e t':=fun pins s σ H Q I q=>h pins s σ H Q I (w σ H Q q)
def itemsD:D->(List D->Prop)->Prop
 | .lst l,Q=>Q l
 | .tup l,Q=>Q l
 | _,_=>False
theorem itemsD.mono{d:D}{Q Q':List D->Prop}(h:∀ d,Q d->Q' d):itemsD d Q->itemsD d Q':=by
 cases d <;> first|exact h _|exact id
def gU(t:TEd):TAd:=⟨fun ss Q=>t.run ss fun d=>itemsD d Q,fun h q=>t.mono (fun d q=>itemsD.mono h q) q⟩
theorem gU.ok{tg:Expr}(h:PE X a (LE X.K ta)):PI X tg a (LI X.K (gU ta)):=(LB X.K h).weak fun σ H R ⟨f,O,ss,S,q⟩=>⟨f,O,ss,S,ta.mono (fun d q v H1 e r=>by
 have S1:=S.ex e;cases d <;> first|exact False.elim q|skip
 ·rename_i l;obtain⟨p,xs,rfl,h1,h2⟩:=r;refine⟨p,rfl,.inr ⟨⟨xs,h1⟩,q _ H1 e ⟨fun H' i k hi=>?_,fun O' H' i x H'' hO hf al k F hi y=>?_,fun H' k=>?_⟩⟩⟩
  ·obtain⟨v,hv,_⟩:=h2.get (show l[i]? = some l[i] by simp [hi]);exact⟨xs,v,h1.kp k S1.al,hv⟩
  ·obtain⟨rfl,y⟩:=y;obtain⟨v,hv,r⟩:=h2.get (show l[i]? = some l[i] by simp [hi]);have:=y xs (h1.kp k S1.al);rw [hv] at this;cases this;exact⟨l[i],by simp [hi],Ex.refl F,r.moved hO k S1.al⟩
  ·exact⟨xs,h1.kp k S1.al,by rw [h2.len];exact aq _⟩
 ·rename_i l;obtain⟨p,xs,rfl,n,h1,h2⟩:=r;refine⟨p,rfl,.inl ⟨⟨xs,SqL.of h1⟩,q _ H1 e ⟨fun H' i k hi=>?_,fun O' H' i x H'' hO hf al k F hi y=>?_,fun H' k=>?_⟩⟩⟩
  ·obtain⟨v,hv,_⟩:=h2.get (show l[i]? = some l[i] by simp [hi]);exact⟨xs,v,SqL.of (k p _ n h1),hv⟩
  ·obtain⟨rfl,y⟩:=y;obtain⟨v,hv,r⟩:=h2.get (show l[i]? = some l[i] by simp [hi]);have:=y xs (SqL.of (k p _ n h1));rw [hv] at this;cases this;exact⟨l[i],by simp [hi],Ex.refl F,r.moved hO k S1.al⟩
  ·exact⟨xs,SqL.of (k p _ n h1),by rw [h2.len];exact aq _⟩) q⟩
def uW(lo:Int)(n:Nat):List D:=(List.range n).map fun i=>.int (lo+(i:Nat))
theorem qz{lo:Int}{n:Nat}:(uW lo n).length=n:=by simp [uW]
theorem xL{lo:Int}{n i:Nat}(h:i<n):(uW lo n)[i]? = some (.int (lo+(i:Nat))):=by simp [uW,h]
theorem rc{lo:Int}{n i:Nat}{d:D}(h:(uW lo n)[i]? = some d):i<n/\d = .int (lo+(i:Nat)):=by
 have:=(aj.mp h).1;rw [qz] at this;rw [xL this] at h;exact⟨this,(Option.some.inj h).symm⟩
theorem Az{lo:Int}{n:Nat}{H1:Hp}:ItD K f O (HF lo n) H1 (uW lo n):=by
 refine⟨fun H' i k hi=>?_,fun O' H' i x H'' hO hf al k F hi y=>?_,fun H' k=>?_⟩
 ·rw [qz] at hi;exact hi
 ·obtain⟨rfl,rfl⟩:=y;rw [qz] at hi;exact⟨_,xL hi,Ex.refl F,rfl⟩
 ·rw [qz];exact aq _
def rngD:D->(List D->Prop)->Prop
 | .int j,Q => -(2^62)<=j/\j<2^62/\Q (uW 0 j.toNat)
 | _,_=>False
theorem rngD.mono{d:D}{Q Q':List D->Prop}(h:∀ d,Q d->Q' d):rngD d Q->rngD d Q':=by
 cases d <;> first|exact fun q=>⟨q.1,q.2.1,h _ q.2.2⟩|exact id
def rngD2:D->D->(List D->Prop)->Prop
 | .int i,.int j,Q=>(-(2^62)<=i/\i<2^62 /\ -(2^62)<=j/\j<2^62)/\Q (uW i (j-i).toNat)
 | _,_,_=>False
theorem rngD2.mono{d d':D}{Q Q':List D->Prop}(h:∀ d,Q d->Q' d):rngD2 d d' Q->rngD2 d d' Q':=by
 cases d <;> cases d' <;> first|exact fun q=>⟨q.1,h _ q.2⟩|exact id
def kU(t:TEd):TAd:=⟨fun ss Q=>t.run ss fun d=>rngD d Q,fun h q=>t.mono (fun d q=>rngD.mono h q) q⟩
def iD(t u:TEd):TAd:=⟨fun ss Q=>t.run ss fun d=>u.run ss fun d'=>rngD2 d d' Q,fun h q=>t.mono (fun d q=>u.mono (fun d' q=>rngD2.mono h q) q) q⟩
theorem kU.ok{tg:Expr}{p:Pos}(hg:Gl X "range")(hm:X.mg "range" = none)(ha:PE X a (LE X.K ta))(hs:starEach [a] X.env=[(false,eval a X.env)]):PI X tg (.Call (.Name "range" p) [a] [] pos) (LI X.K (kU ta)) :=
 (wo (p:=p) (pos:=pos) hg hm (qo ha pa_nil hs) hs).weak fun σ H R ⟨f,O,ss,S,q⟩=>⟨f,O,ss,S,ta.mono (fun d q v H1 e r=>by
  cases d <;> first|exact False.elim q|skip
  cases (show v=_ from r);exact⟨_,rfl,q.1,q.2.1,q.2.2 _ H1 e Az⟩) q⟩
theorem iD.ok{tg:Expr}{p:Pos}(hg:Gl X "range")(hm:X.mg "range" = none)(ha:PE X a (LE X.K ta))(hb:PE X b (LE X.K tb))(hs:starEach [a,b] X.env=[(false,eval a X.env),(false,eval b X.env)])(hs2:starEach [b] X.env=[(false,eval b X.env)]):PI X tg (.Call (.Name "range" p) [a,b] [] pos) (LI X.K (iD ta tb)) :=
 (A5 (p:=p) (pos:=pos) hg hm (qo ha (qo hb pa_nil hs2) (by rw [hs,hs2])) hs hs2).weak fun σ H R ⟨f,O,ss,S,q⟩=>⟨f,O,ss,S,ta.mono (fun d q v H1 e r=>⟨f,O,ss,S.ex e,tb.mono (fun d' q v' H2 e2 r'=>by
  cases d <;> cases d' <;> first|exact False.elim q|skip
  cases (show v=_ from r);cases (show v'=_ from r');exact⟨_,_,rfl,q.1,q.2 _ H2 (e.trans e2) Az⟩) q⟩) q⟩
def Sub(σ:St)(ss:SS)(σ':St)(ss':SS):Prop:=∀(i:Nat) (l:List D),ss'[i]? = some (SD.own l)->ss[i]? = some (SD.own l)/\σ'[i]? = σ[i]?
theorem Sub.refl:Sub σ ss σ ss:=fun _ _ h=>⟨h,rfl⟩
theorem Sub.trans{σ1 σ2:St}{s1 s2:SS}(h:Sub σ ss σ1 s1)(k:Sub σ1 s1 σ2 s2):Sub σ ss σ2 s2:=fun i l q=>by
 obtain⟨q1,e1⟩:=k i l q;obtain⟨q2,e2⟩:=h i l q1;exact⟨q2,e1.trans e2⟩
def Agr(T:List Nat)(σ σ':St):Prop:=σ'.length=σ.length/\∀ j,j ∉ T->σ'[j]? = σ[j]?
theorem Agr.refl{T:List Nat}:Agr T σ σ:=⟨rfl,fun _ _=>rfl⟩
theorem Agr.set{T:List Nat}{i:Nat}{v:Option V}(h:i∈T):Agr T σ (σ.set i v):=⟨aW,fun j n=>aH (by rintro rfl;exact n h)⟩
theorem Agr.trans{T:List Nat}{σ1 σ2:St}(a:Agr T σ σ1)(b:Agr T σ1 σ2):Agr T σ σ2:=⟨b.1.trans a.1,fun j n=>(b.2 j n).trans (a.2 j n)⟩
def LG(K:Frag)(t:TGd):TG:=fun v σ H Q=>∃ f O ss d,SlD K f O σ H ss/\Rp K f O H d v/\t.run d ss fun ss'=>∀ σ' H',Ex f H H'->SlD K f O σ' H' ss'->Sub σ ss σ' ss'->Agr t.tg σ σ'->Q σ' H'
theorem SlD.set(S:SlD K f O σ H ss){i:Nat}{d:D}{v:V}(r:Rp K f O H d v):SlD K f O (σ.set i (some v)) H (ss.set i (.val d)) where
 fl:=S.fl
 fO:=S.fO
 al:=S.al
 lO:=S.lO
 len:=by rw [aW,aW,S.len]
 val:=fun j d' h=>by
  by_cases z:i=j
  ·subst z;rw [aN] at h;rw [if_pos rfl] at h;split at h
   ·cases h;rename_i l;exact⟨v,by rw [aN,if_pos rfl,if_pos (by rw [← S.len];exact l)],r⟩
   ·cases h
  ·rw [aH z] at h ⊢;exact S.val j d' h
 own:=fun j l h=>by
  by_cases z:i=j
  ·subst z;rw [aN] at h;rw [if_pos rfl] at h;split at h <;> cases h
  ·rw [aH z] at h ⊢;exact S.own j l h
theorem Sub.set{i:Nat}{d:D}{v:Option V}:Sub σ ss (σ.set i v) (ss.set i (.val d)):=fun j l h=>by
 by_cases z:i=j
 ·subst z;rw [aN] at h;rw [if_pos rfl] at h;split at h <;> cases h
 ·rw [aH z] at h ⊢;exact⟨h,rfl⟩
def gNm(i:Nat):TGd:=⟨[i],fun d ss Q=>Q (ss.set i (.val d)),fun h q=>h _ q⟩
theorem _root_.L2.PG.weak{e:Expr}{t t':TG}(h:PG X e t)(w:∀ v σ H Q,t' v σ H Q->t v σ H Q):PG X e t':=fun pins s σ H v u Q I r q=>h pins s σ H v u Q I r (w _ σ H Q q)
end Dp
namespace Dp
open PySem L2
variable{K:Frag}{f:Addr}{O O':List Addr}{H H':Hp}{X:Cx}{σ:St}{ss:SS}{a b c:Expr}{ta tb tc:TEd}{tA tB:TTd}{pos:Pos}
theorem gNm.ok{i:Nat}{e:Expr}(h:PG X e (wB i)):PG X e (LG X.K (gNm i)):=h.weak fun v σ H Q ⟨f,O,ss,d,S,r,q⟩=>q _ H (Ex.refl S.fl) (S.set r) Sub.set (Agr.set aK)
def vw(ss:SS):List Nat->List D->SS
 | i::is,d::ds=>vw (ss.set i (.val d)) is ds
 | _,_=>ss
def gsAll:List Nat->ER
 | []=>Ji
 | i::is=>Fo (wB i) (gsAll is)
def tF(σ:St):List Nat->List V->St
 | i::is,v::vs=>tF (σ.set i (some v)) is vs
 | _,_=>σ
theorem gsAll.run{Q:St->Hp->Prop}:∀{is:List Nat} {vs:List V} {σ:St},vs.length=is.length->Q (tF σ is vs) H->gsAll is vs σ H Q
 | [],[],σ,_,q=>⟨rfl,q⟩
 | [],_::_,_,l,_=>by cases l
 | _::_,[],_,l,_=>by cases l
 | i::is,v::vs,σ,l,q=>⟨v,vs,rfl,gsAll.run (by simpa using l) q⟩
theorem SlD.all:∀{is:List Nat} {vs:List V} {ds:List D} {σ:St} {ss:SS},SlD K f O σ H ss->Rps K f O H ds vs->SlD K f O (tF σ is vs) H (vw ss is ds)
 | [],_,_,_,_,S,_=>S
 | i::is,[],[],_,_,S,_=>S
 | i::is,vs,[],_,_,S,r=>by cases (show vs=[] from r);exact S
 | i::is,vs,d::ds,σ,ss,S,r=>by
  obtain⟨v,r',e,h1,h2⟩:=r;subst e;show SlD K f O (tF (σ.set i (some v)) is r') H (vw (ss.set i (.val d)) is ds);exact SlD.all (S.set h1) h2
theorem Sub.all:∀{is:List Nat} {vs:List V} {ds:List D} {σ:St} {ss:SS},vs.length=ds.length->Sub σ ss (tF σ is vs) (vw ss is ds)
 | [],_,_,_,_,_=>Sub.refl
 | i::is,[],[],_,_,_=>Sub.refl
 | i::is,_::_,[],_,_,l=>by cases l
 | i::is,[],_::_,_,_,l=>by cases l
 | i::is,v::vs,d::ds,σ,ss,l=>Sub.trans Sub.set (Sub.all (by simpa using l))
theorem Agr.all:∀{is T:List Nat} {vs:List V} {σ:St},(∀ i∈is,i∈T)->Agr T σ (tF σ is vs)
 | [],_,_,_,_=>Agr.refl
 | _::_,_,[],_,_=>Agr.refl
 | i::is,T,v::vs,σ,h=>Agr.trans (Agr.set (h i aK)) (Agr.all fun j hj=>h j (aE _ hj))
def gTp(is:List Nat):TGd:=⟨is,fun d ss Q=>match d with | .tup l=>l.length=is.length/\Q (vw ss is l)|_=>False,fun {d ss Q Q'} h q=>by
 revert q;cases d <;> first|exact id|exact fun q=>⟨q.1,h _ q.2⟩⟩
theorem gTp.ok{is:List Nat}{e:Expr}(h:PG X e (GX X.K is.length (gsAll is))):PG X e (LG X.K (gTp is)):=h.weak fun v σ H Q ⟨f,O,ss,d,S,r,q⟩=>by
 cases d <;> first|exact False.elim q|skip
 rename_i l;obtain⟨p,xs,rfl,h1,h2⟩:=r;exact⟨p,xs,rfl,h1,h2.len.trans q.1,gsAll.run (h2.len.trans q.1) (q.2 _ H (Ex.refl S.fl) (S.all h2) (Sub.all h2.len) (Agr.all fun _ h=>h))⟩
def tX(l:List D):List D:=(List.range l.length).map fun i=>.tup [.int ((i:Nat):Int),l.getD i .non]
theorem qC{l:List D}:(tX l).length=l.length:=by simp [tX]
theorem uK{l:List D}{i:Nat}(h:i<l.length):(tX l)[i]? = some (.tup [.int ((i:Nat):Int),l.getD i .non]):=by simp [tX,h]
theorem wD{l:List D}{i:Nat}{d:D}(h:(tX l)[i]? = some d):∃ x,l[i]? = some x/\d = .tup [.int ((i:Nat):Int),x]:=by
 have hi:=(aj.mp h).1;rw [qC] at hi;rw [uK hi] at h;refine⟨l[i],by simp [hi],(Option.some.inj h).symm.trans ?_⟩;rw [ah,ac hi];rfl
def iE(t:TEd):TAd:=⟨fun ss Q=>t.run ss fun d=>itemsD d fun l=>Q (tX l),fun h q=>t.mono (fun d q=>itemsD.mono (fun l q=>h _ q) q) q⟩
def jJ(t:TEd):TAd:=⟨fun ss Q=>t.run ss fun d=>itemsD d fun l=>Q l.reverse,fun h q=>t.mono (fun d q=>itemsD.mono (fun l q=>h _ q) q) q⟩
def sR(hide:List Nat)(ss:SS):SS:=hide.foldl (fun s i=>s.set i .no) ss
theorem SlD.blank(S:SlD K f O σ H ss){i:Nat}{o:Option V}:SlD K f O (σ.set i o) H (ss.set i .no) where
 fl:=S.fl
 fO:=S.fO
 al:=S.al
 lO:=S.lO
 len:=by rw [aW,aW,S.len]
 val:=fun j d' h=>by
  by_cases z:i=j
  ·subst z;rw [aN] at h;rw [if_pos rfl] at h;split at h <;> cases h
  ·rw [aH z] at h ⊢;exact S.val j d' h
 own:=fun j l h=>by
  by_cases z:i=j
  ·subst z;rw [aN] at h;rw [if_pos rfl] at h;split at h <;> cases h
  ·rw [aH z] at h ⊢;exact S.own j l h
theorem SlD.hide:∀{hide:List Nat} {σ:St} {ss:SS},SlD K f O σ H ss->SlD K f O (uT hide σ) H (sR hide ss)
 | [],_,_,S=>S
 | i::r,σ,ss,S=>SlD.hide (hide:=r) (S.blank (i:=i) (o:=none))
theorem yj:∀{hide:List Nat} {ss:SS} {i:Nat},(i∈hide\/ss[i]? = some SD.no\/ss[i]? = none)->(sR hide ss)[i]? = some SD.no\/(sR hide ss)[i]? = none
 | [],ss,i,h=>by
  rcases h with h|h
  ·cases h
  ·exact h
 | j::r,ss,i,h=>by
  refine yj (hide:=r) (ss:=ss.set j .no) ?_;by_cases z:j=i
  ·subst z;right;rw [aN,if_pos rfl];split
   ·exact .inl rfl
   ·exact .inr rfl
  ·rw [aH z];rcases h with h|h
   ·rcases ak.mp h with q|q
    ·exact absurd q.symm z
    ·exact .inl q
   ·exact .inr h
theorem SlD.agr{T:List Nat}{σ':St}(S:SlD K f O σ H ss)(h:Agr T σ σ')(hT:∀ i∈T,ss[i]? = some SD.no\/ss[i]? = none):SlD K f O σ' H ss where
 fl:=S.fl
 fO:=S.fO
 al:=S.al
 lO:=S.lO
 len:=S.len.trans h.1.symm
 val:=fun j d q=>by
  rw [h.2 j fun z=>?_]
  ·exact S.val j d q
  ·rcases hT j z with w|w <;> rw [w] at q <;> cases q
 own:=fun j d q=>by
  rw [h.2 j fun z=>?_]
  ·exact S.own j d q
  ·rcases hT j z with w|w <;> rw [w] at q <;> cases q
def hJ:TTd:=⟨fun _ Q=>Q true,fun h q=>h _ q⟩
def compD(ds:List D)(s0:SS)(g:TGd)(c:TTd)(e:TEd)(Q:D->Prop):Prop:=ds.length<=sizeLine/\∃ I:Nat->List D->Prop,I 0 [] /\
 (∀ i d ys,ds[i]? = some d->ys.length<=i->I i ys->g.run d s0 fun s1=>c.run s1 fun k=>if k=true then e.run s1 fun y=>I (i+1) (ys++[y]) else I (i+1) ys)/\∀ ys,ys.length<=ds.length->I ds.length ys->Q (.lst ys)
theorem compD.mono{ds:List D}{s0:SS}{g:TGd}{c:TTd}{e:TEd}{Q Q':D->Prop}(h:∀ d,Q d->Q' d):compD ds s0 g c e Q->compD ds s0 g c e Q':=fun⟨l,I,q0,q1,q2⟩=>⟨l,I,q0,q1,fun ys l i=>h _ (q2 ys l i)⟩
def gL(it:TAd)(hide:List Nat)(g:TGd)(c:TTd)(e:TEd):TEd:=⟨fun ss Q=>it.run ss fun ds=>compD ds (sR hide ss) g c e Q,fun h q=>it.mono (fun ds q=>compD.mono h q) q⟩
theorem compD.ok{J:It}{ds:List D}{hide:List Nat}{g:TGd}{c:TTd}{e:TEd}{Q:VK}{H1:Hp}(S:SlD K f O σ H1 ss)(hg:∀ i∈g.tg,i∈hide)(D0:ItD K f O J H1 ds)(h:compD ds (sR hide ss) g c e fun d=>∀ v H',Ex f H1 H'->Rp K f O H' d v->Q v H') :
  DD J (LG K g) (LT K c) (LE K e) (uT hide σ) Q H1:=by
 obtain⟨hl,I,q0,q1,q2⟩:=h;refine⟨fun k m τ ys H=>∃ yd,SlD K f O τ H (sR hide ss)/\Rps K f O H yd ys/\yd.length<=k/\I k yd/\m=ds.length-k/\k<=ds.length/\Ex f H1 H,⟨_,[],S.hide,rfl,aq _,q0,rfl,aI _,Ex.refl S.fl⟩,?_⟩;rintro k m τ ys H ⟨yd,S1,r1,l1,i1,rfl,k1,e1⟩;have kp:=e1.kp S.fO;rcases aP k ds.length with hk|hk
 ·refine .inr ⟨D0.go H k kp hk,by rw [r1.len];omega,fun x H' y=>?_⟩;obtain⟨d,ed,e2,rd⟩:=D0.yld O H k x H' (fun a z=>.inl z) S.fO S1.al kp S1.fl hk y;have S2:=S1.ex e2;refine⟨f,O,_,d,S2,rd,g.mono (fun s1 q τ2 H2 e3 S3 _ ag=>?_) (q1 k d yd ed l1 i1)⟩;have S3':SlD K f O τ2 H2 (sR hide ss):=(S2.ex e3).agr ag fun i hi=>yj (.inl (hg i hi));refine⟨f,O,s1,S3,c.mono (fun b q H3 e4=>?_) q⟩;cases b with
  | true =>
   refine⟨f,O,s1,S3.ex e4,e.mono (fun dy q v H4 e5 rv=>?_) q⟩;have e14:=e2.trans (e3.trans (e4.trans e5));exact⟨ds.length-(k+1),by omega,yd++[dy],(S3'.ex e4).ex e5,(S1.ups e14 r1).append ⟨v,[],rfl,rv,rfl⟩,by rw [ai];simp;omega,q,rfl,hk,e1.trans e14⟩
  | false =>
   have e14:=e2.trans (e3.trans e4);exact⟨ds.length-(k+1),by omega,yd,S3'.ex e4,S1.ups e14 r1,by omega,q,rfl,hk,e1.trans e14⟩
 ·have ek:k=ds.length:=by omega
  subst ek;exact .inl ⟨D0.stop H kp,fun p hp=>q2 yd l1 i1 _ _ (e1.trans (S1.new hp _)) (S1.lst hp r1)⟩
theorem gL.ok{scope:Scope}{hide:List Nat}{it:TAd}{g:TGd}{c:TTd}{e:TEd}{tg iter elt:Expr}{ifs:List Expr}(hc:X.calm=true)(Sc:CompS X.N X.env.scope scope hide)(hi:PI X tg iter (LI X.K it))
  (hg:∀ s2 H2 fp pins C,PG (tL X scope s2 H2 fp pins C) tg (LG X.K g)) (ht:∀ s2 H2 fp pins C,PTs (tL X scope s2 H2 fp pins C) ifs (LT X.K c)) (he:∀ s2 H2 fp pins C,PE (tL X scope s2 H2 fp pins C) elt (LE X.K e))
  (hs:∀ x,foldedSetIterable iter X.env x=pure x) (hh:∀ i∈g.tg,i∈hide):PE X (.ListComp elt [⟨tg,iter,ifs,0⟩] scope pos) (LE X.K (gL it hide g c e)) :=
 (Ao (pos:=pos) hc Sc hi hg ht he hs).weak fun σ H Q ⟨f,O,ss,S,q⟩=>⟨f,O,ss,S,it.mono (fun ds q J H1 e1 D0=>compD.ok (S.ex e1) hh D0 (compD.mono (fun d q v H' e r=>q v H' (e1.trans e) r) q)) q⟩
end Dp
namespace Dp
open PySem L2
variable{K:Frag}{f:Addr}{O O':List Addr}{H H':Hp}{X:Cx}{σ:St}{ss:SS}{a b:Expr}{ta tb tc:TEd}{tA tB:TTd}{pos:Pos}
theorem iE.ok{es:List Expr}{kk:Nat}{ps p:Pos}(hg:Gl X "enumerate")(hm:X.mg "enumerate" = none)(ha:PE X a (LE X.K ta))(hs:starEach [a] X.env=[(false,eval a X.env)]):PI X (.Tuple es kk ps) (.Call (.Name "enumerate" p) [a] [] pos) (LI X.K (iE ta)) :=
 (DZ (p:=p) (pos:=pos) X.K hg hm (qo ha pa_nil hs) rfl hs).weak fun σ H R ⟨f,O,ss,S,q⟩=>⟨f,O,ss,S,ta.mono (fun d q v H1 e r=>by
  have S1:=S.ex e;cases d <;> first|exact False.elim q|skip
  ·rename_i l;obtain⟨p,xs,rfl,h1,h2⟩:=r;refine⟨p,rfl,.inr ⟨⟨xs,h1⟩,q _ H1 e ⟨fun H' i k hi=>?_,fun O' H' i x H'' hO hf al k F hi y=>?_,fun H' k=>?_⟩⟩⟩
   ·rw [qC] at hi;obtain⟨v,hv,_⟩:=h2.get (show l[i]? = some l[i] by simp [hi]);exact⟨xs,v,h1.kp k S1.al,hv⟩
   ·rw [qC] at hi;obtain⟨p',w,rfl,hp,rfl,y⟩:=y;obtain⟨v,hv,r⟩:=h2.get (show l[i]? = some l[i] by simp [hi]);have:=y xs (h1.kp k S1.al);rw [hv] at this;cases this;refine⟨_,uK hi,Ex.new F hp _,p',_,rfl,SqT.of qw,.int i,_,rfl,rfl,_,[],rfl,?_,rfl⟩;rw [ah,ac hi];exact (r.moved hO k S1.al).kp ((Ex.new F hp _).kp hf) al
   ·rw [qC];exact⟨xs,h1.kp k S1.al,by rw [h2.len];exact aq _⟩
  ·rename_i l;obtain⟨p,xs,rfl,n,h1,h2⟩:=r;refine⟨p,rfl,.inl ⟨⟨xs,SqL.of h1⟩,q _ H1 e ⟨fun H' i k hi=>?_,fun O' H' i x H'' hO hf al k F hi y=>?_,fun H' k=>?_⟩⟩⟩
   ·rw [qC] at hi;obtain⟨v,hv,_⟩:=h2.get (show l[i]? = some l[i] by simp [hi]);exact⟨xs,v,SqL.of (k p _ n h1),hv⟩
   ·rw [qC] at hi;obtain⟨p',w,rfl,hp,rfl,y⟩:=y;obtain⟨v,hv,r⟩:=h2.get (show l[i]? = some l[i] by simp [hi]);have:=y xs (SqL.of (k p _ n h1));rw [hv] at this;cases this;refine⟨_,uK hi,Ex.new F hp _,p',_,rfl,SqT.of qw,.int i,_,rfl,rfl,_,[],rfl,?_,rfl⟩;rw [ah,ac hi];exact (r.moved hO k S1.al).kp ((Ex.new F hp _).kp hf) al
   ·rw [qC];exact⟨xs,SqL.of (k p _ n h1),by rw [h2.len];exact aq _⟩) q⟩
def Jb(K:Frag)(ta:TA):TI:=fun σ H R=>ta σ H fun vs H1=>∃ a xs,vs=[.ref a] /\
 ((SqT K H1 a xs/\R ⟨fun i H=>i<xs.length/\∃ ys x,SqT K H a ys/\ys.length=xs.length/\ys.reverse[i]? = some x,fun i H x H'=>H'=H/\∀ xs,SqT K H a xs->xs.reverse[i]? = some x,fun i H=>i=xs.length⟩ H1) \/
   (SqL K H1 a xs/\R ⟨fun i H=>i<xs.length/\∃ ys x,SqL K H a ys/\ys.length=xs.length/\ys.reverse[i]? = some x,fun i H x H'=>H'=H/\∀ xs,SqL K H a xs->xs.reverse[i]? = some x,fun i H=>i=xs.length⟩ H1))
theorem DY{tg:Expr}{a:Expr}{ta:TA}{p pos:Pos}(hg:Gl X "reversed")(hm:X.mg "reversed" = none)(ha:PA X [a] ta)(hs:starEach [a] X.env=[(false,eval a X.env)]):PI X tg (.Call (.Name "reversed" p) [a] [] pos) (Jb X.K ta):=by
 intro pins s σ H R I h;refine PyProof.Rows.Call_ (tw I hg hm PyProof.Rows.boot_reversed (PyProof.Rows.callWith_type1 (qI (ha pos pins s σ H _ I h) fun us s1 ⟨vs,H1,I1,r1,q1⟩=>?_) hs rfl));obtain⟨l,xs,e,q1⟩:=q1;subst e;obtain⟨u,rfl,ru⟩:=Vals.one r1;cases ru;rcases q1 with⟨hq,q1⟩|⟨hq,q1⟩
 ·obtain⟨its,rv,pl,hz⟩:=I1.tuple hq;have hlen:=rv.length;have hn63:=so;refine RV.Dm (show s1.heap.IsTuple l its.toArray from pl) (by rw [am];omega) fun tk=>?_;have st:RV.Is (s1.heap.push { cls:=.type "reversed",data:=.fields #[.ref l,rawInt ((its.toArray.size:Int)-1)] }) s1.heap.objs.size l ((xs.length:Int)-1-((0:Nat):Int)):=⟨_,Heap.get?_push_size _ rfl,rfl,by
   rw [am,← hlen,show (xs.length:Int)-1-((0:Nat):Int)=(xs.length:Int)-1 by omega]⟩
  refine RV.ww st ?_;refine⟨_,[s1.heap.objs.size],_,_,H1,rfl,I1.kept (t':=tk) fun b o e=>Heap.get?_push_of_some _ e,BF xs.length l _,st,fun b hb=>?_,q1⟩;rw [aG.mp hb];exact I1.fpOk (aq _) (I1.hok.fresh (aq _))
 ·obtain⟨its,rv,pl,hz⟩:=I1.list hq;have hlen:=rv.length;refine call_reversed_list pl.isList ?_;have st:(s1.heap.push (revObj l ((its.toArray.size:Int)-1))).IsRevIter s1.heap.objs.size l ((xs.length:Int)-1-((0:Nat):Int)):=⟨_,Heap.get?_push_size _ rfl,rfl,by
   show Data.fields #[.ref l,rawInt ((its.toArray.size:Int)-1)]=_;rw [am,← hlen,show (xs.length:Int)-1-((0:Nat):Int)=(xs.length:Int)-1 by omega]⟩
  refine wpAny_pyIter_revIter st ?_;refine⟨_,[s1.heap.objs.size],_,_,H1,rfl,I1.kept (t':=s1.toks) fun b o e=>Heap.get?_push_of_some _ e,AV xs.length l _,st,fun b hb=>?_,q1⟩;rw [aG.mp hb];exact I1.fpOk (aq _) (I1.hok.fresh (aq _))
theorem jJ.ok{tg:Expr}{p:Pos}(hg:Gl X "reversed")(hm:X.mg "reversed" = none)(ha:PE X a (LE X.K ta))(hs:starEach [a] X.env=[(false,eval a X.env)]):PI X tg (.Call (.Name "reversed" p) [a] [] pos) (LI X.K (jJ ta)) :=
 (DY (p:=p) (pos:=pos) hg hm (qo ha pa_nil hs) hs).weak fun σ H R ⟨f,O,ss,S,q⟩=>⟨f,O,ss,S,ta.mono (fun d q v H1 e r=>by
  have S1:=S.ex e;cases d <;> first|exact False.elim q|skip
  ·rename_i l;obtain⟨p,xs,rfl,h1,h2⟩:=r;refine⟨p,xs,rfl,.inl ⟨h1,q _ H1 e ⟨fun H' i k hi=>?_,fun O' H' i x H'' hO hf al k F hi y=>?_,fun H' k=>?_⟩⟩⟩
   ·obtain⟨v,hv,_⟩:=h2.reverse.get (show l.reverse[i]? = some l.reverse[i] from ac hi);rw [bK] at hi;exact⟨by rw [h2.len];exact hi,xs,v,h1.kp k S1.al,rfl,hv⟩
   ·obtain⟨rfl,y⟩:=y;obtain⟨v,hv,r⟩:=h2.reverse.get (show l.reverse[i]? = some l.reverse[i] from ac hi);have:=y xs (h1.kp k S1.al);rw [hv] at this;cases this;exact⟨l.reverse[i],ac hi,Ex.refl F,r.moved hO k S1.al⟩
   ·rw [bK,h2.len]
  ·rename_i l;obtain⟨p,xs,rfl,n,h1,h2⟩:=r;refine⟨p,xs,rfl,.inr ⟨SqL.of h1,q _ H1 e ⟨fun H' i k hi=>?_,fun O' H' i x H'' hO hf al k F hi y=>?_,fun H' k=>?_⟩⟩⟩
   ·obtain⟨v,hv,_⟩:=h2.reverse.get (show l.reverse[i]? = some l.reverse[i] from ac hi);rw [bK] at hi;exact⟨by rw [h2.len];exact hi,xs,v,SqL.of (k p _ n h1),rfl,hv⟩
   ·obtain⟨rfl,y⟩:=y;obtain⟨v,hv,r⟩:=h2.reverse.get (show l.reverse[i]? = some l.reverse[i] from ac hi);have:=y xs (SqL.of (k p _ n h1));rw [hv] at this;cases this;exact⟨l.reverse[i],ac hi,Ex.refl F,r.moved hO k S1.al⟩
   ·rw [bK,h2.len]) q⟩
structure Cs where
 f:Addr
 O:List Addr
 H:Hp
 S:List Addr
structure Kpc (c:Cs)(H:Hp):Prop where
 kp:∀ b o,c.H b=some o->b≠c.f->(b∈c.O\/b ∉ c.S)->H b=some o
 key:∀ l r,c.H c.f=some (.lst (.ref l::r))->∃ r',H c.f=some (.lst (.ref l::r'))
structure StR (K:Frag)(c:Cs)(O:List Addr)(σ:St)(H:Hp)(ss:SS):Prop where
 sl:SlD K c.f O σ H ss
 sub:∀ a∈c.O,a∈O
 kp:Kpc c H
 new:∀ a∈O,a∈c.S\/c.H a=none
 own:∀(i:Nat) (l:List D) (a:Addr),ss[i]? = some (SD.own l)->σ[i]? = some (some (V.ref a))->(c.H a=none\/a∈c.S)/\a ∉ c.O/\∀(j:Nat) (l':List D),ss[j]? = some (SD.own l')->σ[j]? = some (some (V.ref a))->j=i
variable{c:Cs}
theorem Kpc.ex(k:Kpc c H)(e:Ex c.f H H'):Kpc c H':=⟨fun b o h n z=>e.sm.app b o n (k.kp b o h n z),fun l r h=>by
 obtain⟨r',h1⟩:=k.key l r h;exact e.sm.key l r' h1⟩
theorem StR.ex(R:StR K c O σ H ss)(e:Ex c.f H H'):StR K c O σ H' ss:=⟨R.sl.ex e,R.sub,R.kp.ex e,R.new,R.own⟩
theorem StR.to{σ':St}{ss':SS}(R:StR K c O σ H ss)(S:SlD K c.f O σ' H ss')(h:Sub σ ss σ' ss'):StR K c O σ' H ss':=⟨S,R.sub,R.kp,R.new,fun i l a q e=>by
 obtain⟨q1,e1⟩:=h i l q;obtain⟨w1,w2,w3⟩:=R.own i l a q1 (e1.symm.trans e);refine⟨w1,w2,fun j l' q' e'=>?_⟩;obtain⟨q2,e2⟩:=h j l' q';exact w3 j l' q2 (e2.symm.trans e')⟩
def frz1(i:Nat)(ss:SS):SS:=match ss[i]? with|some (.own l)=>ss.set i (.val (.lst l))|_=>ss
def frz(fz:List Nat)(ss:SS):SS:=fz.foldl (fun s i=>frz1 i s) ss
theorem StR.frz1(R:StR K c O σ H ss){i:Nat}:∃ O',StR K c O' σ H (frz1 i ss):=by
 unfold Dp.frz1;split
 ·rename_i l e;obtain⟨a,xs,h1,h2,h3,h4,h5⟩:=R.sl.own i l e;obtain⟨w1,w2,w3⟩:=R.own i l a e h1;have hs:∀ b∈O.filter (fun b=>decide (b≠a)),b∈O:=fun b hb=>(bT.mp hb).1;have hl:i<ss.length:=(aj.mp e).1;have hlv:(σ.set i (some (V.ref a)))=σ:=by
   apply dS;intro j;by_cases z:i=j
   ·subst z;rw [aN,if_pos rfl,if_pos (by rw [← R.sl.len];exact hl),h1]
   ·rw [aH z]
  refine⟨O.filter (fun b=>decide (b≠a)),⟨R.sl.fl,?_,fun b hb=>R.sl.al b (hs b hb),fun l r q z=>R.sl.lO l r q (hs _ z),by rw [aW];exact R.sl.len,fun j d q=>?_,fun j l' q=>?_⟩,fun b hb=>?_,R.kp,fun b hb=>R.new b (hs b hb),fun j l' b q e'=>?_⟩
  ·exact bT.mpr ⟨R.sl.fO,by simpa using Ne.symm h3⟩
  ·by_cases z:i=j
   ·subst z;rw [aN,if_pos rfl,if_pos hl] at q;cases q;exact⟨_,h1,a,xs,rfl,fun z=>by simpa using (bT.mp z).2,h4,h5.less hs⟩
   ·rw [aH z] at q;obtain⟨v,q1,q2⟩:=R.sl.val j d q;exact⟨v,q1,q2.less hs⟩
  ·by_cases z:i=j
   ·subst z;rw [aN,if_pos rfl,if_pos hl] at q;cases q
   ·rw [aH z] at q;obtain⟨b,ys,q1,q2,q3,q4,q5⟩:=R.sl.own j l' q;refine⟨b,ys,q1,bT.mpr ⟨q2,?_⟩,q3,q4,q5.less hs⟩;have:b≠a:=by
     rintro rfl;exact z (w3 j l' q q1).symm
    simpa using this
  ·have:b≠a:=by
    rintro rfl;exact w2 hb
   exact bT.mpr ⟨R.sub b hb,by simpa using this⟩
  ·by_cases z:i=j
   ·subst z;rw [aN,if_pos rfl,if_pos hl] at q;cases q
   ·rw [aH z] at q;obtain⟨p1,p2,p3⟩:=R.own j l' b q e';refine⟨p1,p2,fun k l2 q2 e2=>?_⟩;by_cases z2:i=k
    ·subst z2;rw [aN,if_pos rfl,if_pos hl] at q2;cases q2
    ·rw [aH z2] at q2;exact p3 k l2 q2 e2
 ·exact⟨O,R⟩
theorem StR.frz:∀{fz:List Nat} {ss:SS} {O:List Addr},StR K c O σ H ss->∃ O',StR K c O' σ H (Dp.frz fz ss)
 | [],_,O,R=>⟨O,R⟩
 | i::fz,ss,O,R=>by
  obtain⟨O1,R1⟩:=R.frz1 (i:=i);exact StR.frz (fz:=fz) R1
structure Rt (K:Frag)(c:Cs)(H:Hp)(d:D)(v:V):Prop where
 fl:Fl H c.f
 kp:Kpc c H
 rp:Rp K c.f c.O H d v
theorem StR.rt(R:StR K c O σ H ss){d:D}{v:V}(r:Rp K c.f O H d v):Rt K c H d v:=⟨R.sl.fl,R.kp,r.less R.sub⟩
def Cs.here(c:Cs)(H:Hp)(O:List Addr):Cs:=⟨c.f,c.O,H,O⟩
theorem StR.here(R:StR K c O σ H ss):StR K (c.here H O) O σ H ss:=⟨R.sl,R.sub,⟨fun b o h _ _=>h,fun l r h=>⟨r,h⟩⟩,fun a h=>.inl h,fun i l a q e=>by
 obtain⟨a',xs,h1,h2,_⟩:=R.sl.own i l q;rw [h1] at e;cases e;exact⟨.inr h2,(R.own i l a q h1).2⟩⟩
theorem Kpc.back{O1:List Addr}{H1:Hp}(R:StR K c O1 σ H1 ss)(k:Kpc (c.here H1 O1) H):Kpc c H where
 kp:=fun b o h n z=>by
  refine k.kp b o (R.kp.kp b o h n z) n ?_;rcases z with z|z
  ·exact .inl z
  ·refine .inr fun y=>?_;rcases R.new b y with w|w
   ·exact z w
   ·rw [w] at h;cases h
 key:=fun l r h=>by
  obtain⟨r',h1⟩:=R.kp.key l r h;exact k.key l r' h1
theorem StR.back{O1:List Addr}{H1:Hp}{σ1:St}{s1:SS}(R:StR K c O1 σ1 H1 s1)(k:StR K (c.here H1 O1) O σ H ss):StR K c O σ H ss:=by
 have low:∀ a,a ∉ c.O->(a∈O1\/H1 a=none)->a∈c.S\/c.H a=none:=fun a n z=>by
  rcases z with z|z
  ·exact R.new a z
  ·cases h:c.H a with
   | none=>exact .inr rfl
   | some o =>
    left;by_cases y:a∈c.S
    ·exact y
    ·exfalso;by_cases w:a=c.f
     ·subst w;obtain⟨xs,q⟩:=R.sl.fl.lst;rw [q] at z;cases z
     ·rw [R.kp.kp a o h w (.inr y)] at z;cases z
 refine⟨k.sl,k.sub,Kpc.back R k.kp,fun a h=>?_,fun i l a q e=>?_⟩
 ·by_cases z:a∈c.O
  ·rcases R.new a (R.sub a z) with w|w
   ·exact .inl w
   ·exact .inr w
  ·exact low a z (k.new a h)
 ·obtain⟨w1,w2,w3⟩:=k.own i l a q e;exact⟨(low a w2 w1.symm).symm,w2,w3⟩
theorem Rt.back{O1:List Addr}{H1:Hp}{σ1:St}{s1:SS}(R:StR K c O1 σ1 H1 s1){d:D}{v:V}(k:Rt K (c.here H1 O1) H d v):Rt K c H d v:=⟨k.fl,Kpc.back R k.kp,k.rp⟩
structure EndsD where
 nx:SS->Prop
 rt:D->Prop
 bk:SS->Prop
 ct:SS->Prop
structure EndsD.Le (E E':EndsD):Prop where
 nx:∀ s,E.nx s->E'.nx s
 rt:∀ d,E.rt d->E'.rt d
 bk:∀ s,E.bk s->E'.bk s
 ct:∀ s,E.ct s->E'.ct s
structure TSd where
 run:EndsD->SS->Prop
 mono:∀{E E' ss},E.Le E'->run E ss->run E' ss
def uu(K:Frag)(c:Cs)(D:Ends):EndsD:=⟨fun ss=>∀ O σ H,StR K c O σ H ss->D.nx σ H,fun d=>∀ v H,Rt K c H d v->D.rt v H,fun ss=>∀ O σ H,StR K c O σ H ss->D.bk σ H,fun ss=>∀ O σ H,StR K c O σ H ss->D.ct σ H⟩
def LS(K:Frag)(t:TSd):TS:=fun D σ H=>∃ c O ss,StR K c O σ H ss/\t.run (uu K c D) ss
theorem _root_.L2.PS.weak{st:Stmt}{t t':TS}(h:PS X st t)(w:∀ D σ H,t' D σ H->t D σ H):PS X st t':=fun pins s σ H D I q=>h pins s σ H D I (w D σ H q)
theorem _root_.L2.PSs.weak{st:List Stmt}{t t':TS}(h:PSs X st t)(w:∀ D σ H,t' D σ H->t D σ H):PSs X st t':=fun pins s σ H D I q=>h pins s σ H D I (w D σ H q)
theorem StR.le{t:TEd}{Q:VK}(R:StR K c O σ H ss){W:D->Prop}(h:t.run ss W)(hw:∀ d v H1,StR K c O σ H1 ss->Ex c.f H H1->Rp K c.f O H1 d v->W d->Q v H1):LE K t σ H Q :=
 ⟨c.f,O,ss,R.sl,t.mono (fun d q v H1 e r=>hw d v H1 (R.ex e) e r q) h⟩
theorem StR.lt{t:TTd}{Q:Bool->Hp->Prop}(R:StR K c O σ H ss){W:Bool->Prop}(h:t.run ss W)(hw:∀ d H1,StR K c O σ H1 ss->W d->Q d H1):LT K t σ H Q :=
 ⟨c.f,O,ss,R.sl,t.mono (fun d q H1 e=>hw d H1 (R.ex e) q) h⟩
def gC:TSd:=⟨fun E ss=>E.nx ss,fun h q=>h.nx _ q⟩
theorem gC.nil:PSs X [] (LS X.K gC):=pss_nil.weak fun D σ H ⟨c,O,ss,R,q⟩=>q O σ H R
theorem gC.pass:PS X (.Pass pos) (LS X.K gC):=ps_pass.weak fun D σ H ⟨c,O,ss,R,q⟩=>q O σ H R
def oC:TSd:=⟨fun E ss=>E.bk ss,fun h q=>h.bk _ q⟩
theorem oC.ok:PS X (.Break pos) (LS X.K oC):=ps_break.weak fun D σ H ⟨c,O,ss,R,q⟩=>q O σ H R
@[reducible] def EndsD.to(E:EndsD)(P:SS->Prop):EndsD:=⟨P,E.rt,E.bk,E.ct⟩
def dSq(t u:TSd):TSd:=⟨fun E ss=>t.run (E.to (u.run E)) ss,fun {E E' ss} h q=>t.mono (E:=E.to (u.run E)) (E':=E'.to (u.run E')) ⟨fun s q=>u.mono h q,h.rt,h.bk,h.ct⟩ q⟩
theorem dSq.ok{st:Stmt}{sts:List Stmt}{t u:TSd}(h:PS X st (LS X.K t))(g:PSs X sts (LS X.K u)):PSs X (st::sts) (LS X.K (dSq t u)):=(rD h g).weak fun D σ H ⟨c,O,ss,R,q⟩ =>
 ⟨c,O,ss,R,t.mono (E:=(uu X.K c D).to (u.run (uu X.K c D))) ⟨fun s q O' σ' H' R'=>⟨c,O',s,R',q⟩,fun _ q=>q,fun _ q=>q,fun _ q=>q⟩ q⟩
theorem dSq.one{st:Stmt}{t:TSd}(h:PS X st (LS X.K t)):PSs X [st] (LS X.K t):=re h
def gz(fz:List Nat)(e:TEd):TSd:=⟨fun E ss=>e.run (frz fz ss) E.rt,fun h q=>e.mono h.rt q⟩
theorem gz.ok{fz:List Nat}(h:PE X a (LE X.K ta)):PS X (.Return (some a) pos) (LS X.K (gz fz ta)):=(tf h).weak fun D σ H ⟨c,O,ss,R,q⟩=>by
 obtain⟨O',R⟩:=R.frz (fz:=fz);exact R.le q fun d v H1 R1 _ r w=>w v H1 (R1.rt r)
def nX:TSd:=⟨fun E ss=>E.rt .non,fun h q=>h.rt _ q⟩
theorem nX.ok:PS X (.Return none pos) (LS X.K nX):=ps_retN.weak fun D σ H ⟨c,O,ss,R,q⟩=>q .non H (R.rt rfl)
def dIf(fz:List Nat)(k:TTd)(t u:TSd):TSd:=⟨fun E ss=>k.run (frz fz ss) fun b=>if b=true then t.run E (frz fz ss) else u.run E (frz fz ss),fun {E E' ss} h q=>k.mono (fun b q=>by
 revert q;cases b
 ·exact u.mono h
 ·exact t.mono h) q⟩
theorem dIf.ok{fz:List Nat}{st su:List Stmt}{t u:TSd}(hk:PT X a (LT X.K tA))(ht:PSs X st (LS X.K t))(hu:PSs X su (LS X.K u)):PS X (.If a st su pos) (LS X.K (dIf fz tA t u)):=(vE hk ht hu).weak fun D σ H ⟨c,O,ss,R,q⟩=>by
 obtain⟨O',R⟩:=R.frz (fz:=fz);refine R.lt q fun b H1 R1 w=>?_;cases b
 ·exact⟨c,O',_,R1,w⟩
 ·exact⟨c,O',_,R1,w⟩
def gB(fz:List Nat)(g:TGd)(e:TEd):TSd:=⟨fun E ss=>e.run (frz fz ss) fun d=>g.run d (frz fz ss) E.nx,fun h q=>e.mono (fun d q=>g.mono h.nx q) q⟩
theorem StR.lg{g:TGd}{d:D}{v:V}{Q:St->Hp->Prop}{W:SS->Prop}(R:StR K c O σ H ss)(r:Rp K c.f O H d v)(h:g.run d ss W)(hw:∀ ss' σ' H1,StR K c O σ' H1 ss'->W ss'->Q σ' H1):LG K g v σ H Q :=
 ⟨c.f,O,ss,d,R.sl,r,g.mono (fun s q σ' H1 e S sb ag=>hw s σ' H1 ((R.ex e).to S sb) q) h⟩
theorem gB.ok{fz:List Nat}{tg:Expr}{g:TGd}(h:PE X a (LE X.K ta))(hg:PG X tg (LG X.K g))(hs:swapsWithSole [tg] a pos.line X.env=pure false)(hw:swappedStores [tg] a X.env=pure none)(h1:(assignEach [tg] X.env).map (·.2)=[assign tg X.env]):PS X (.Assign [tg] a pos) (LS X.K (gB fz g ta)):=(tj h hg hs hw h1).weak fun D σ H ⟨c,O,ss,R,q⟩=>by
 obtain⟨O',R⟩:=R.frz (fz:=fz);exact R.le q fun d v H1 R1 _ r w=>R1.lg r w fun s' σ' H2 R2 w=>w O' σ' H2 R2
end Dp
namespace Dp
open PySem L2
variable{K:Frag}{f:Addr}{O O':List Addr}{H H':Hp}{X:Cx}{σ:St}{ss:SS}{a b:Expr}{ta tb tc:TEd}{tA tB:TTd}{pos:Pos}{c:Cs}
theorem qg.ok{fz:List Nat}{i:Nat}{x:Str}{p':Pos}(hN:X.N.Nodup)(hi:X.N[i]? = some x)(hx:By X.env.scope x)(h:PE X a (LE X.K ta))(hs:swapsWith a (some (.Name x p')) pos.line X.env=pure false)(hf:X.fn x=true\/X.env.scope.names.lookup x=some .local) :
  PS X (.Assign [.Name x p'] a pos) (LS X.K (gB fz (gNm i) ta)):=(uD hN hi hx h hs hf).weak fun D σ H ⟨c,O,ss,R,q⟩=>by
 obtain⟨O',R⟩:=R.frz (fz:=fz);exact R.le q fun d v H1 R1 _ r w=>w O' _ H1 (R1.to (R1.sl.set r) Sub.set)
def i5(fz:List Nat)(i j:Nat)(a b:TEd):TSd:=⟨fun E ss=>a.run (frz fz ss) fun d=>b.run (frz fz ss) fun d'=>E.nx (((frz fz ss).set i (.val d)).set j (.val d')),fun h q=>a.mono (fun d q=>b.mono (fun d' q=>h.nx _ q) q) q⟩
theorem i5.weak{fz:List Nat}{i j:Nat}{D:Ends}{ta tb:TEd}(h:LS X.K (i5 fz i j ta tb) D σ H):FL i j (we (LE X.K ta) (we (LE X.K tb) DJ)) D σ H:=by
 obtain⟨c,O,ss,R,q⟩:=h;obtain⟨O',R⟩:=R.frz (fz:=fz);refine R.le q fun d v H1 R1 e1 r w=>R1.le w fun d' v' H2 R2 e2 r' w=>?_;have S:=(R2.sl.set (i:=i) (R1.sl.up e2 r)).set (i:=j) r';exact⟨v,v',rfl,w O' _ H2 (R2.to S (Sub.trans Sub.set Sub.set))⟩
def iz(k:TTd)(t:TSd):TSd:=⟨fun E ss=>∃(I:SS->Prop) (μ:SS->Nat),I ss/\∀ s,I s->k.run s fun b=>if b=true then t.run ⟨fun s'=>I s'/\μ s'<μ s,E.rt,E.nx,fun s'=>I s'/\μ s'<μ s⟩ s else E.nx s,fun {E E' ss} h ⟨I,μ,q0,q⟩=>⟨I,μ,q0,fun s i=>k.mono (fun b q=>by
 revert q;cases b
 ·exact h.nx _
 ·exact t.mono ⟨fun _ q=>q,h.rt,h.nx,fun _ q=>q⟩) (q s i)⟩⟩
theorem iz.ok{st:List Stmt}{t:TSd}(hp:PassesOwn (model X.prog X.w) X.A X.env X.xe)(hk:PT X a (LT X.K tA))(ht:PSs X st (LS X.K t)):PS X (.While a st [] pos) (LS X.K (iz tA t)):=(Cj hp hk ht).weak fun D σ H ⟨c,O,ss,R,I,μ,q0,q⟩=>by
 refine⟨fun m σ H=>∃ O s,StR X.K c O σ H s/\I s/\μ s=m,⟨_,O,ss,R,q0,rfl⟩,?_⟩;rintro m σ H ⟨O,s,R,i0,rfl⟩;refine R.lt (q s i0) fun b H1 R1 w=>?_;cases b with
 | false=>exact w O σ H1 R1
 | true =>
  refine⟨fun σ' H'=>∃ O' s',StR X.K c O' σ' H' s'/\I s'/\μ s'<μ s,fun σ' H' ⟨O',s',R',i',l⟩=>⟨_,l,O',s',R',i',rfl⟩,c,O,s,R1,?_⟩;refine t.mono ?_ w;exact⟨fun s' q O' σ' H' R'=>⟨O',s',R',q⟩,fun _ q=>q,fun _ q=>q,fun s' q O' σ' H' R'=>⟨O',s',R',q⟩⟩
def iA(fz:List Nat)(it:TAd)(g:TGd)(t:TSd):TSd:=⟨fun E ss=>it.run (frz fz ss) fun ds=>∃ I:Nat->SS->Prop,I 0 (frz fz ss)/\(∀ i d s,ds[i]? = some d->I i s->g.run d s fun s1=>t.run ⟨I (i+1),E.rt,E.nx,I (i+1)⟩ s1)/\∀ s,I ds.length s->E.nx s,fun {E E' ss} h q=>it.mono (fun ds ⟨I,q0,q1,q2⟩=>⟨I,q0,fun i d s e i0=>g.mono (fun s1 q=>t.mono (E:=⟨I (i+1),E.rt,E.nx,I (i+1)⟩) (E':=⟨I (i+1),E'.rt,E'.nx,I (i+1)⟩) ⟨fun _ q=>q,h.rt,h.nx,fun _ q=>q⟩ q) (q1 i d s e i0),fun s i0=>h.nx _ (q2 s i0)⟩) q⟩
theorem iA.ok{fz:List Nat}{tg iter:Expr}{st:List Stmt}{it:TAd}{g:TGd}{t:TSd}(hp:PassesOwn (model X.prog X.w) X.A X.env X.xe)(hc:X.calm=true)(hi:PI X tg iter (LI X.K it))(hg:PG X tg (LG X.K g))(ht:PSs X st (LS X.K t))(hs:∀ x,foldedSetIterable iter X.env x=pure x) :
  PS X (.For tg iter st [] pos) (LS X.K (iA fz it g t)):=(Gg hp hc hi hg ht hs).weak fun D σ H ⟨c,O,ss,R,q⟩=>by
 obtain⟨O,R⟩:=R.frz (fz:=fz);refine⟨c.f,O,_,R.sl,it.mono (fun ds q J H1 e1 D0=>?_) q⟩;obtain⟨I,q0,q1,q2⟩:=q;have R1:=R.ex e1;refine⟨fun i m σ H=>∃ O2 s,StR X.K (c.here H1 O) O2 σ H s/\I i s/\m=ds.length-i/\i<=ds.length,⟨_,O,_,R1.here,q0,rfl,aI _⟩,?_⟩;rintro i m σ H ⟨O2,s,R2,i0,rfl,hi⟩;have kp:Kp O H1 H:=fun b o n h=>R2.kp.kp b o h (fun z=>n (by rw [z];exact R.sl.fO)) (.inr n);rcases aP i ds.length with hk|hk
 ·refine .inr ⟨D0.go H i kp hk,fun σ' H'=>∃ O3 s',StR X.K (c.here H1 O) O3 σ' H' s'/\I (i+1) s',fun σ' H' ⟨O3,s',R3,i3⟩=>⟨ds.length-(i+1),by omega,O3,s',R3,i3,rfl,hk⟩,fun x H' y=>?_⟩;obtain⟨d,ed,e2,rd⟩:=D0.yld O2 H i x H' R2.new R2.sl.fO R2.sl.al kp R2.sl.fl hk y;refine (R2.ex e2).lg rd (q1 i d s ed i0) fun s1 σ' H3 R3 w=>?_;refine⟨c.here H1 O,O2,s1,R3,?_⟩;refine t.mono ?_ w;exact⟨fun s' q O' σ' H' R'=>⟨O',s',R',q⟩,fun d q v H r=>q v H (Rt.back R1 r),fun s' q O' σ' H' R'=>q O' σ' H' (StR.back R1 R'),fun s' q O' σ' H' R'=>⟨O',s',R',q⟩⟩
 ·have ek:i=ds.length:=by omega
  subst ek;exact .inl ⟨D0.stop H kp,q2 s i0 O2 σ H (StR.back R1 R2)⟩
def LF(K:Frag)(t:TEd):TE:=fun σ H Q=>∃ f O ss,SlD K f O σ H ss/\t.run ss fun d=>∃ l,d = .lst l/\∀ p xs H',Ex f H H'->H p=none->H' p=some (.lst xs)->Rps K f (p::O) H' l xs->Q (.ref p) H'
theorem StR.mkOwn{l:List D}{p:Addr}{xs:List V}{i:Nat}(R:StR K c O σ H ss)(e:Ex c.f H H')(hp:H p=none)(hx:H' p=some (.lst xs))(r':Rps K c.f (p::O) H' l xs):StR K c (p::O) (σ.set i (some (.ref p))) H' (ss.set i (.own l)):=by
 have mv:∀ b∈p::O,b∈O\/H b=none:=fun b hb=>by
  rcases ak.mp hb with z|z
  ·exact .inr (z ▸ hp)
  ·exact .inl z
 have kp:=e.kp R.sl.fO;have np:p ∉ O:=R.sl.nO hp;have npf:p≠c.f:=fun z=>np (z ▸ R.sl.fO);have low:c.H p=none\/p∈c.S:=by
  cases h:c.H p with
  | none=>exact .inl rfl
  | some o =>
   right;by_cases y:p∈c.S
   ·exact y
   ·rw [R.kp.kp p o h npf (.inr y)] at hp;cases hp
 have hne:∀(j:Nat) (l':List D) (b:Addr),ss[j]? = some (SD.own l')->σ[j]? = some (some (V.ref b))->b≠p:=fun j l' b q1 q2=>by
  obtain⟨b',ys,w1,w2,_⟩:=R.sl.own j l' q1;rw [w1] at q2;cases q2;rintro rfl;exact np w2
 refine⟨⟨e.fl,aE _ R.sl.fO,fun b hb=>?_,fun l r q=>?_,by rw [aW,aW];exact R.sl.len,fun j d q=>?_,fun j l' q=>?_⟩,fun b hb=>aE _ (R.sub b hb),R.kp.ex e,fun b hb=>?_,fun j l' b q eb=>?_⟩
 ·rcases ak.mp hb with z|z
  ·exact⟨xs,z ▸ hx⟩
  ·exact (R.sl.ex e).al b z
 ·intro z;rcases ak.mp z with w|w
  ·subst w;obtain⟨l0,ns,i,c',a',b',f1,f2,f3⟩:=R.sl.fl;obtain⟨r',h2⟩:=e.sm.key _ _ f1;rw [h2] at q;cases q;rw [hp] at f2;cases f2
  ·exact (R.sl.ex e).lO _ _ q w
 ·by_cases z:i=j
  ·subst z;rw [aN,if_pos rfl] at q;split at q <;> cases q
  ·rw [aH z] at q ⊢;obtain⟨v,w1,w2⟩:=R.sl.val j d q;exact⟨v,w1,w2.moved mv kp R.sl.al⟩
 ·by_cases z:i=j
  ·subst z;rw [aN,if_pos rfl] at q;split at q
   ·rename_i hl;cases q;exact⟨p,xs,by rw [aN,if_pos rfl,if_pos (by rw [← R.sl.len];exact hl)],aK,npf,hx,r'⟩
   ·cases q
  ·rw [aH z] at q ⊢;obtain⟨b,ys,w1,w2,w3,w4,w5⟩:=R.sl.own j l' q;exact⟨b,ys,w1,aE _ w2,w3,e.sm.app b _ w3 w4,w5.moved mv kp R.sl.al⟩
 ·rcases ak.mp hb with z|z
  ·subst z;exact low.symm
  ·exact R.new b z
 ·by_cases z:i=j
  ·subst z;rw [aN,if_pos rfl] at eb;split at eb
   ·cases eb;refine⟨low,fun w=>np (R.sub _ w),fun j' l2 q2 e2=>?_⟩;by_cases z2:i=j'
    ·exact z2.symm
    ·rw [aH z2] at q2 e2;exact absurd rfl (hne j' l2 _ q2 e2)
   ·cases eb
  ·rw [aH z] at q eb;obtain⟨w1,w2,w3⟩:=R.own j l' b q eb;refine⟨w1,w2,fun j' l2 q2 e2=>?_⟩;by_cases z2:i=j'
   ·subst z2;rw [aN,if_pos rfl] at e2;split at e2
    ·cases e2;exact absurd rfl (hne j l' _ q eb)
    ·cases e2
   ·rw [aH z2] at q2 e2;exact w3 j' l2 q2 e2
theorem StR.wr{l l':List D}{i:Nat}{a:Addr}{xs:List V}(R:StR K c O σ H ss)(hs:ss[i]? = some (SD.own l))(ha:σ[i]? = some (some (V.ref a)))(r:Rps K c.f O H l' xs):StR K c O σ (qR H a (.lst xs)) (ss.set i (.own l')):=by
 obtain⟨a',ys,h1,h2,h3,h4,h5⟩:=R.sl.own i l hs;rw [h1] at ha;cases ha;obtain⟨w1,w2,w3⟩:=R.own i l a hs h1;have hl:i<ss.length:=(aj.mp hs).1;have kp:Kp O H (qR H a (.lst xs)):=fun b o n q=>by
  rw [qu (by rintro rfl;exact n h2)];exact q
 have fl:Fl (qR H a (.lst xs)) c.f:=by
  obtain⟨l0,ns,i,c',a',b',f1,f2,f3⟩:=R.sl.fl;refine⟨l0,ns,i,c',a',b',by rw [qu (Ne.symm h3)];exact f1,?_,f3⟩;rw [qu (by rintro rfl;exact R.sl.lO _ _ f1 h2)];exact f2
 have gt:∀{j:Nat} {s:SD},(ss.set i (.own l'))[j]? = some s->(j=i/\s = .own l')\/(j≠i/\ss[j]? = some s):=fun {j s} q=>by
  by_cases z:i=j
  ·subst z;rw [aN,if_pos rfl,if_pos hl] at q;exact .inl ⟨rfl,(Option.some.inj q).symm⟩
  ·rw [aH z] at q;exact .inr ⟨Ne.symm z,q⟩
 refine⟨⟨fl,R.sl.fO,fun b hb=>?_,fun l r q=>by rw [qu (Ne.symm h3)] at q;exact R.sl.lO l r q,by rw [aW];exact R.sl.len,fun j d q=>?_,fun j l2 q=>?_⟩,R.sub,⟨fun b o q n z=>?_,fun l r q=>?_⟩,R.new,fun j l2 b q e=>?_⟩
 ·by_cases z:b=a
  ·subst z;exact⟨xs,qw⟩
  ·rw [qu z];exact R.sl.al b hb
 ·rcases gt q with⟨_,z⟩|⟨_,q⟩
  ·cases z
  ·obtain⟨v,q1,q2⟩:=R.sl.val j d q;exact⟨v,q1,q2.kp kp R.sl.al⟩
 ·rcases gt q with⟨rfl,z⟩|⟨z,q⟩
  ·cases z;exact⟨a,xs,h1,h2,h3,qw,r.kp kp R.sl.al⟩
  ·obtain⟨b,zs,q1,q2,q3,q4,q5⟩:=R.sl.own j l2 q;have nb:b≠a:=by
    rintro rfl;exact z (w3 j l2 q q1)
   exact⟨b,zs,q1,q2,q3,by rw [qu nb];exact q4,q5.kp kp R.sl.al⟩
 ·have nb:b≠a:=by
   rintro rfl;rcases z with z|z
   ·exact w2 z
   ·rcases w1 with w|w
    ·rw [w] at q;cases q
    ·exact z w
  rw [qu nb];exact R.kp.kp b o q n z
 ·obtain⟨r',q1⟩:=R.kp.key l r q;exact⟨r',by rw [qu (Ne.symm h3)];exact q1⟩
 ·have q':∃ l3,ss[j]? = some (SD.own l3):=by
   rcases gt q with⟨rfl,z⟩|⟨z,q⟩
   ·exact⟨l,hs⟩
   ·exact⟨l2,q⟩
  obtain⟨l3,q'⟩:=q';obtain⟨p1,p2,p3⟩:=R.own j l3 b q' e;refine⟨p1,p2,fun j' l4 q4 e4=>?_⟩;rcases gt q4 with⟨rfl,z⟩|⟨z,q5⟩
  ·exact p3 _ l hs e4
  ·exact p3 j' l4 q5 e4
end Dp
namespace Dp
open PySem L2
variable{K:Frag}{f:Addr}{O O':List Addr}{H H':Hp}{X:Cx}{σ:St}{ss:SS}{a b:Expr}{ta tb tc:TEd}{tA tB:TTd}{pos:Pos}{c:Cs}
theorem Rps.skip{p:Addr}{H1:Hp}(S:SlD K f O σ H1 ss)(hp:H1 p=none){o:HO}{ds:List D}{vs:List V}(r:Rps K f O H1 ds vs):Rps K f (p::O) (qR H1 p o) ds vs :=
 r.moved (fun a z=>by
  rcases ak.mp z with w|w
  ·exact .inr (by rw [w];exact hp)
  ·exact .inl w) ((S.new hp o).kp S.fO) S.al
theorem Ex.low{H1:Hp}(e:Ex f H H1){p:Addr}(n:p≠f)(h:H1 p=none):H p=none:=e.sm.free n h
theorem gE.okF{es:List Expr}{t:TAd}(h:PA X es (LA X.K t)):PE X (.List es pos) (LF X.K (gE t)):=(yT h).weak fun σ H Q ⟨f,O,ss,S,q⟩ =>
 ⟨f,O,ss,S,t.mono (fun ds q vs H1 e r=>by
  obtain⟨hl,l,el,q⟩:=q;cases el;refine⟨by rw [r.len];exact hl,fun p hp=>?_⟩;have S1:=S.ex e;exact q p vs _ (e.trans (S1.new hp _)) (e.low (fun z=>S1.nO hp (z ▸ S1.fO)) hp) qw (Rps.skip S1 hp r)) q⟩
theorem qj.okF(ha:PE X a (LE X.K ta))(hb:PE X b (LE X.K tb)):PE X (.BinOp a .Mult b pos) (LF X.K (gr .Mult ta tb)):=(qQ (pos:=pos) CG ha hb).weak fun σ H Q ⟨f,O,ss,S,q⟩=>by
 refine⟨f,O,ss,S,ta.mono (fun dx q v1 H1 e1 r1=>?_) q⟩;refine⟨f,O,ss,S.ex e1,tb.mono (fun dy q v2 H2 e2 r2=>?_) q⟩;have S2:=(S.ex e1).ex e2;have r1:=(S.ex e1).up e2 r1;cases dx <;> cases dy <;> first|(exact False.elim q)|skip
 ·obtain⟨_,l,el,_⟩:=q;cases el
 ·obtain⟨_,_,_,l,el,_⟩:=q;cases el
 ·rename_i la k;obtain⟨q1,q2,q3,l,el,q⟩:=q;cases el;obtain⟨p0,xs,rfl,n1,h1,h2⟩:=r1;cases (show v2=_ from r2);refine⟨p0,k,xs,rfl,rfl,h1,q1,q2,by rw [h2.len];exact q3,fun p hp=>?_⟩;have e12:=e1.trans e2;exact q p _ _ (e12.trans (S2.new hp _)) (e12.low (fun z=>S2.nO hp (z ▸ S2.fO)) hp) qw (Rps.skip S2 hp (h2.flat _))
def jf(t:TEd):TEd:=⟨fun ss Q=>t.run ss fun d=>itemsD d fun l=>Q (.lst l),fun h q=>t.mono (fun d q=>itemsD.mono (fun l q=>h _ q) q) q⟩
theorem jf.okF{p:Pos}(hg:Gl X "list")(hm:X.mg "list" = none)(ha:PE X a (LE X.K ta))(hs:starEach [a] X.env=[(false,eval a X.env)]):PE X (.Call (.Name "list" p) [a] [] pos) (LF X.K (jf ta)) :=
 (uE (p:=p) (pos:=pos) (y9 X.K) hg hm sK (qo ha pa_nil hs) (by decide) (by decide) hs rfl).weak fun σ H Q ⟨f,O,ss,S,q⟩=>⟨f,O,ss,S,ta.mono (fun d q v H1 e r=>by
  have S1:=S.ex e;cases d <;> first|exact False.elim q|skip
  ·rename_i l0;obtain⟨l,el,q⟩:=q;cases el;obtain⟨p0,xs,rfl,h1,h2⟩:=r;exact⟨p0,xs,rfl,.inr h1,fun p hp=>q p _ _ (e.trans (S1.new hp _)) (e.low (fun z=>S1.nO hp (z ▸ S1.fO)) hp) qw (Rps.skip S1 hp h2)⟩
  ·rename_i l0;obtain⟨l,el,q⟩:=q;cases el;obtain⟨p0,xs,rfl,_,h1,h2⟩:=r;exact⟨p0,xs,rfl,.inl (SqL.of h1),fun p hp=>q p _ _ (e.trans (S1.new hp _)) (e.low (fun z=>S1.nO hp (z ▸ S1.fO)) hp) qw (Rps.skip S1 hp h2)⟩) q⟩
def kW(fz:List Nat)(i:Nat)(e:TEd):TSd:=⟨fun E ss=>e.run (frz fz ss) fun d=>match d with | .lst l=>E.nx ((frz fz ss).set i (.own l))|_=>False,fun {E E' ss} h q=>e.mono (fun d q=>by
 revert q;cases d <;> first|exact h.nx _|exact id) q⟩
theorem kW.ok{fz:List Nat}{i:Nat}{x:Str}{p':Pos}(hN:X.N.Nodup)(hi:X.N[i]? = some x)(hx:By X.env.scope x)(h:PE X a (LF X.K ta))(hs:swapsWith a (some (.Name x p')) pos.line X.env=pure false)(hf:X.fn x=true\/X.env.scope.names.lookup x=some .local) :
  PS X (.Assign [.Name x p'] a pos) (LS X.K (kW fz i ta)):=(uD hN hi hx h hs hf).weak fun D σ H ⟨c,O,ss,R,q⟩=>by
 obtain⟨O',R⟩:=R.frz (fz:=fz);refine⟨c.f,O',_,R.sl,ta.mono (fun d q=>?_) q⟩;cases d <;> first|exact False.elim q|skip
 rename_i l;exact⟨l,rfl,fun p xs H1 e hp hx r=>q _ _ H1 (R.mkOwn e hp hx r)⟩
def oi(fz:List Nat)(i:Nat)(e:TEd):TSd:=⟨fun E ss=>match (frz fz ss)[i]? with|some (.own l)=>e.run (frz fz ss) fun d=>l.length<sizeLine/\E.nx ((frz fz ss).set i (.own (l++[d])))|_=>False,fun {E E' ss} h q=>by
 revert q;split
 ·exact e.mono fun d q=>⟨q.1,h.nx _ q.2⟩
 ·exact id⟩
theorem oi.ok{fz:List Nat}{i:Nat}{x:Expr}{ap cp:Pos}(hx:PE X x (uc i))(hb:attributeBase x "append" X.env (eval x X.env)=eval x X.env)(h:PE X a (LE X.K ta))(hs:starEach [a] X.env=[(false,eval a X.env)])(hl:(ap.endLine == cp.line)=true)(hw:swapsWith (.Call (.Attribute x "append" ap) [a] [] cp) none pos.line X.env=pure false) :
  PS X (.Expr (.Call (.Attribute x "append" ap) [a] [] cp) pos) (LS X.K (oi fz i ta)):=by
 refine (Ai (pos:=pos) (Iq (apos:=ap) (cpos:=cp) PySem.F.plainAttrs_list PySem.F.slot_list_append PySem.F.type_list_append Be hx (qo h pa_nil hs) hb (by rw [hs];rfl) hl hs rfl) hw).weak fun D σ H ⟨c,O,ss,R,q⟩=>?_;obtain⟨O',R⟩:=R.frz (fz:=fz);have q:(match (frz fz ss)[i]? with|some (.own l)=>ta.run (frz fz ss) fun d=>l.length<sizeLine/\(uu X.K c D).nx ((frz fz ss).set i (.own (l++[d])))|_=>False):=q;split at q
 ·rename_i l el;obtain⟨p,xs,h1,h2,h3,h4,h5⟩:=R.sl.own i l el;refine⟨_,h1,.inl ⟨rfl,xs,SqL.of h4⟩,R.le q fun d v H1 R1 e1 r w=>?_⟩;have hp:=e1.sm.app p _ h3 h4;have r5:=R.sl.ups e1 h5;refine⟨p,xs,v,rfl,rfl,hp,by rw [r5.len];exact w.1,w.2 O' σ _ (R1.wr el h1 (r5.append ⟨v,[],rfl,r,rfl⟩))⟩
 ·exact q.elim
theorem Rps.dropLast:∀{ds:List D} {vs:List V},Rps K f O H ds vs->Rps K f O H ds.dropLast vs.dropLast:=fun {ds vs} h=>by
 rw [eU,eU,h.len];exact h.take _
def oD(i:Nat):TSd:=⟨fun E ss=>match ss[i]? with|some (.own l)=>l≠[]/\E.nx (ss.set i (.own l.dropLast))|_=>False,fun {E E' ss} h q=>by
 revert q;split
 ·exact fun q=>⟨q.1,h.nx _ q.2⟩
 ·exact id⟩
theorem oD.ok{i:Nat}{x:Expr}{ap cp:Pos}(hx:PE X x (uc i))(hb:attributeBase x "pop" X.env (eval x X.env)=eval x X.env)(hl:(ap.endLine == cp.line)=true)(hw:swapsWith (.Call (.Attribute x "pop" ap) [] [] cp) none pos.line X.env=pure false) :
  PS X (.Expr (.Call (.Attribute x "pop" ap) [] [] cp) pos) (LS X.K (oD i)):=by
 refine (Ai (pos:=pos) (Ct (apos:=ap) (cpos:=cp) PySem.F.plainAttrs_list PySem.F.slot_list_pop PySem.F.type_list_pop CM hx hb hl) hw).weak fun D σ H ⟨c,O,ss,R,q⟩=>?_;have q:(match ss[i]? with|some (.own l)=>l≠[]/\(uu X.K c D).nx (ss.set i (.own l.dropLast))|_=>False):=q;split at q
 ·rename_i l el;obtain⟨p,xs,h1,h2,h3,h4,h5⟩:=R.sl.own i l el;have hne:0<l.length:=ci.mpr q.1;obtain⟨v,hv,_⟩:=h5.get (show l[l.length-1]? = some (l[l.length-1]'(by omega)) by simp);exact⟨_,h1,.inl ⟨rfl,xs,SqL.of h4⟩,p,xs,v,rfl,rfl,h4,by rw [h5.len];exact hv,q.2 O σ _ (R.wr el h1 h5.dropLast)⟩
 ·exact q.elim
def nY(j i:Nat):TSd:=⟨fun E ss=>match ss[i]? with|some (.own l)=>∃ d,l[l.length-1]? = some d/\E.nx ((ss.set i (.own l.dropLast)).set j (.val d))|_=>False,fun {E E' ss} h q=>by
 revert q;split
 ·exact fun⟨d,q1,q2⟩=>⟨d,q1,h.nx _ q2⟩
 ·exact id⟩
theorem nY.ok{i j:Nat}{y:Str}{x:Expr}{ap cp p':Pos}(hN:X.N.Nodup)(hj:X.N[j]? = some y)(hy:By X.env.scope y)(hf:X.fn y=true\/X.env.scope.names.lookup y=some .local)(hx:PE X x (uc i))(hb:attributeBase x "pop" X.env (eval x X.env)=eval x X.env)(hl:(ap.endLine == cp.line)=true)(hw:swapsWith (.Call (.Attribute x "pop" ap) [] [] cp) (some (.Name y p')) pos.line X.env=pure false) :
  PS X (.Assign [.Name y p'] (.Call (.Attribute x "pop" ap) [] [] cp) pos) (LS X.K (nY j i)):=by
 refine (uD (pos:=pos) hN hj hy (Ct (apos:=ap) (cpos:=cp) PySem.F.plainAttrs_list PySem.F.slot_list_pop PySem.F.type_list_pop CM hx hb hl) hw hf).weak fun D σ H ⟨c,O,ss,R,q⟩=>?_;have q:(match ss[i]? with|some (.own l)=>∃ d,l[l.length-1]? = some d/\(uu X.K c D).nx ((ss.set i (.own l.dropLast)).set j (.val d))|_=>False):=q;split at q
 ·rename_i l el;obtain⟨p,xs,h1,h2,h3,h4,h5⟩:=R.sl.own i l el;obtain⟨d,q1,q2⟩:=q;obtain⟨v,hv,rv⟩:=h5.get q1;have R2:=R.wr el h1 h5.dropLast;have kp:Kp O H (qR H p (.lst xs.dropLast)):=fun b o n q=>by
   rw [qu (by rintro rfl;exact n h2)];exact q
  refine⟨_,h1,.inl ⟨rfl,xs,SqL.of h4⟩,p,xs,v,rfl,rfl,h4,by rw [h5.len];exact hv,q2 O _ _ (R2.to (R2.sl.set (rv.kp kp R.sl.al)) Sub.set)⟩
 ·exact q.elim
def atD(l:List D)(dk:D)(Q:Nat->Prop):Prop:=match dk with | .int z=>(match yc l.length z with|some j=>Q j|none=>False)|_=>False
theorem atD.mono{l:List D}{dk:D}{Q Q':Nat->Prop}(h:∀ j,Q j->Q' j):atD l dk Q->atD l dk Q':=by
 cases dk <;> first|exact id|skip
 unfold atD;dsimp only;split
 ·exact h _
 ·exact id
def ku(fz:List Nat)(i:Nat)(k e:TEd):TSd:=⟨fun E ss=>match (frz fz ss)[i]? with|some (.own l)=>e.run (frz fz ss) fun d=>k.run (frz fz ss) fun dk=>atD l dk fun j=>E.nx ((frz fz ss).set i (.own (l.set j d)))|_=>False,fun {E E' ss} h q=>by
 revert q;split
 ·exact e.mono fun d=>k.mono fun dk=>atD.mono fun j=>h.nx _
 ·exact id⟩
theorem ku.ok{fz:List Nat}{i:Nat}{x k:Expr}{tk:TEd}{sp:Pos}(hx:PE X x (uc i))(hk:PE X k (LE X.K tk))(h:PE X a (LE X.K ta))(hs:swapsWithSole [.Subscript x k sp] a pos.line X.env=pure false)(hw:swappedStores [.Subscript x k sp] a X.env=pure none)(h1:(assignEach [.Subscript x k sp] X.env).map (·.2)=[assign (.Subscript x k sp) X.env])
  (hg:PG X (.Subscript x k sp) (Jh (uc i) (LE X.K tk) E5)):PS X (.Assign [.Subscript x k sp] a pos) (LS X.K (ku fz i tk ta)):=by
 refine (tj (pos:=pos) h hg hs hw h1).weak fun D σ H ⟨c,O,ss,R,q⟩=>?_;obtain⟨O',R⟩:=R.frz (fz:=fz);have q:(match (frz fz ss)[i]? with|some (.own l)=>ta.run (frz fz ss) fun d=>tk.run (frz fz ss) fun dk=>atD l dk fun j=>(uu X.K c D).nx ((frz fz ss).set i (.own (l.set j d)))|_=>False):=q;split at q
 ·rename_i l el;obtain⟨p,xs,g1,g2,g3,g4,g5⟩:=R.sl.own i l el;refine R.le q fun d v H1 R1 e1 r w=>⟨_,g1,R1.le w fun dk vk H2 R2 e2 rk w=>?_⟩;cases dk <;> first|exact False.elim w|skip
  rename_i z;cases (show vk=_ from rk);unfold atD at w;dsimp only at w;split at w
  ·rename_i j ej;have e12:=e1.trans e2;have r5:=R.sl.ups e12 g5;exact⟨p,xs,z,j,rfl,rfl,e12.sm.app p _ g3 g4,by rw [r5.len];exact ej,w O' σ _ (R2.wr el g1 (r5.set (R1.sl.up e2 r) j))⟩
  ·exact w.elim
 ·exact q.elim
def oAug:Operator->OD
 | .Add=>fun x y Q=>match x,y with | .int i,.int j=>Q (.int (i+j)) | .str a,.str b=>a.length+b.length<=sizeLine/\Q (.str (a++b))|_,_=>False
 | .Sub=>oSub
 | .Mult=>fun x y Q=>match x,y with | .int i,.int j=>CMulB i j/\Q (.int (i*j))|_,_=>False
 | .FloorDiv=>oDiv
 | _=>yZ
theorem oAug.mono{op:Operator}:∀{x y Q Q'},(∀ d,Q d->Q' d)->oAug op x y Q->oAug op x y Q':=by
 cases op;all_goals first|exact oSub.mono|exact oDiv.mono|exact fun _ q=>q|skip
 all_goals (intro x y Q Q' h;cases x <;> cases y <;> intro q <;> first|exact h _ q|exact q|exact⟨q.1,h _ q.2⟩)
theorem BY{k:Nat}(hr:Room k X.A)(op:Operator):Rng X (inplaceOp op) (oAug op):=by
 cases op;case Add =>
  refine⟨_,OpR.or2 EE ye,fun f O σ ss H dx dy x y Q R rx ry h=>?_⟩;cases dx <;> cases dy <;> first|(exact False.elim h)|skip
  ·cases rx;cases ry;exact .inl ⟨_,_,rfl,rfl,h _ H (Ex.refl R.fl) rfl⟩
  ·cases rx;cases ry;exact .inr ⟨_,_,rfl,rfl,h.1,h.2 _ H (Ex.refl R.fl) rfl⟩
 case Sub =>
  refine⟨_,ED,fun f O σ ss H dx dy x y Q R rx ry h=>?_⟩;cases dx <;> cases dy <;> first|(exact False.elim h)|skip
  cases rx;cases ry;exact⟨_,_,rfl,rfl,h _ H (Ex.refl R.fl) rfl⟩
 case Mult=>exact uA CS fun dx dy Q h=>by cases dx <;> cases dy <;> first|(exact False.elim h)|exact⟨_,_,rfl,rfl,h.1,h.2⟩
 case FloorDiv=>exact uA (Bm hr) fun dx dy Q h=>by cases dx <;> cases dy <;> first|(exact False.elim h)|exact⟨_,_,rfl,rfl,h.1,h.2⟩
 all_goals exact Rng.never
def nA(fz:List Nat)(i:Nat)(op:Operator)(e:TEd):TSd:=⟨fun E ss=>match (frz fz ss)[i]? with|some (.val x)=>e.run (frz fz ss) fun y=>oAug op x y fun z=>E.nx ((frz fz ss).set i (.val z))|_=>False,fun {E E' ss} h q=>by
 revert q;split
 ·exact e.mono fun y=>oAug.mono fun z=>h.nx _
 ·exact id⟩
theorem nA.ok{k0:Nat}{fz:List Nat}{i:Nat}{x:Str}{op:Operator}{p':Pos}(hk0:Room k0 X.A)(hN:X.N.Nodup)(hi:X.N[i]? = some x)(hx:By X.env.scope x)(h:PE X a (LE X.K ta))(hf:X.fn x=true\/X.env.scope.names.lookup x=some .local) :
  PS X (.AugAssign (.Name x p') op a pos) (LS X.K (nA fz i op ta)):=by
 obtain⟨r,hr,hd⟩:=BY (X:=X) hk0 op;refine (Gh (pos:=pos) hN hi hx h (ti:=r) hr hf).weak fun D σ H ⟨c,O,ss,R,q⟩=>?_;obtain⟨O',R⟩:=R.frz (fz:=fz);have q:(match (frz fz ss)[i]? with|some (.val x)=>ta.run (frz fz ss) fun y=>oAug op x y fun z=>(uu X.K c D).nx ((frz fz ss).set i (.val z))|_=>False):=q;split at q
 ·rename_i dx ex;obtain⟨v,g1,g2⟩:=R.sl.val i dx ex;refine⟨v,g1,R.le q fun dy y H1 R1 e1 ry w=>?_⟩;refine hd c.f O' σ _ H1 dx dy v y _ R1.sl (R.sl.up e1 g2) ry (oAug.mono (fun z w v' H2 e2 rz=>?_) w);have R2:=R1.ex e2;exact w O' _ H2 (R2.to (R2.sl.set rz) Sub.set)
 ·exact q.elim
def augD(l:List D)(dk:D)(Q:Nat->D->Prop):Prop:=match dk with | .int z=>0<=z/\(match l[z.toNat]? with|some x=>Q z.toNat x|none=>False)|_=>False
theorem augD.mono{l:List D}{dk:D}{Q Q':Nat->D->Prop}(h:∀ j x,Q j x->Q' j x):augD l dk Q->augD l dk Q':=by
 cases dk <;> first|exact id|skip
 unfold augD;dsimp only;split
 ·exact fun q=>⟨q.1,h _ _ q.2⟩
 ·exact id
def kX(fz:List Nat)(i:Nat)(k:TEd)(op:Operator)(e:TEd):TSd:=⟨fun E ss=>match (frz fz ss)[i]? with|some (.own l)=>k.run (frz fz ss) fun dk=>augD l dk fun j x=>e.run (frz fz ss) fun y=>oAug op x y fun z=>E.nx ((frz fz ss).set i (.own (l.set j z)))|_=>False,fun {E E' ss} h q=>by
 revert q;split
 ·exact k.mono fun dk=>augD.mono fun j x=>e.mono fun y=>oAug.mono fun z=>h.nx _
 ·exact id⟩
theorem kX.ok{k0:Nat}{fz:List Nat}{i:Nat}{x k:Expr}{tk:TEd}{op:Operator}{sp:Pos}(hk0:Room k0 X.A)(hx:PE X x (uc i))(hk:PE X k (LE X.K tk))(h:PE X a (LE X.K ta))(ha:∀ ov iv new,augStore k ov iv new=(do holding [new,ov,iv] (setItem ov iv new);release [new,ov,iv] [];pure .next)) :
  PS X (.AugAssign (.Subscript x k sp) op a pos) (LS X.K (kX fz i tk op ta)):=by
 obtain⟨r,hr,hd⟩:=BY (X:=X) hk0 op;refine (DW (pos:=pos) (tpos:=sp) hx hk (KG X.K) h (tip:=r) hr rB ha).weak fun D σ H ⟨c,O,ss,R,q⟩=>?_;obtain⟨O',R⟩:=R.frz (fz:=fz);have q:(match (frz fz ss)[i]? with|some (.own l)=>tk.run (frz fz ss) fun dk=>augD l dk fun j x=>ta.run (frz fz ss) fun y=>oAug op x y fun z=>(uu X.K c D).nx ((frz fz ss).set i (.own (l.set j z)))|_=>False):=q;split at q
 ·rename_i l el;obtain⟨p,xs,g1,g2,g3,g4,g5⟩:=R.sl.own i l el;refine⟨_,g1,R.le q fun dk vk H1 R1 e1 rk w=>?_⟩;cases dk <;> first|exact False.elim w|skip
  rename_i z;cases (show vk=_ from rk);obtain⟨z0,w⟩:=w;obtain⟨j,rfl⟩:=dq z0;rw [aJ] at w;split at w
  ·rename_i dx hx;obtain⟨v,hv,rv⟩:=g5.get hx;refine⟨p,xs,v,j,rfl,rfl,SqL.of (e1.sm.app p _ g3 g4),hv,R1.le w fun dy y H2 R2 e2 ry w=>?_⟩;refine hd c.f O' σ _ H2 dx dy v y _ R2.sl (R1.sl.up e2 (R.sl.up e1 rv)) ry (oAug.mono (fun z w v' H3 e3 rz=>?_) w);have R3:=R2.ex e3;have e13:=e1.trans (e2.trans e3);have r5:=R.sl.ups e13 g5;have hj:j<xs.length:=(aj.mp hv).1;refine⟨p,xs,_,j,rfl,rfl,e13.sm.app p _ g3 g4,?_,w O' σ _ (R3.wr el g1 (r5.set rz j))⟩;unfold yc;rw [if_pos (by omega),if_pos (by omega),aJ]
  ·exact w.elim
 ·exact q.elim
def ownInt(l:D)(b:TEd)(s:SS)(Q:List D->Int->Prop):Prop:=match l with
 | .lst l=>b.run s fun d=>match d with | .int z=>Q l z|_=>False
 | _=>False
theorem ownInt.mono{l:D}{b:TEd}{s:SS}{Q Q':List D->Int->Prop}(h:∀ l z,Q l z->Q' l z):ownInt l b s Q->ownInt l b s Q':=by
 cases l <;> first|exact id|skip
 exact b.mono fun d q=>by
  revert q;cases d <;> first|exact id|exact h _ _
def nZ(fz:List Nat)(i j:Nat)(a b:TEd):TSd:=⟨fun E ss=>a.run (frz fz ss) fun d=>ownInt d b (frz fz ss) fun l z=>E.nx (((frz fz ss).set i (.own l)).set j (.val (.int z))),fun h q=>a.mono (fun d q=>ownInt.mono (fun l z q=>h.nx _ q) q) q⟩
theorem nZ.weak{fz:List Nat}{i j:Nat}{D:Ends}{σ:St}{ta tb:TEd}(h:LS X.K (nZ fz i j ta tb) D σ H):FL i j (we (LF X.K ta) (we (LE X.K tb) DJ)) D σ H:=by
 obtain⟨c,O,ss,R,q⟩:=h;obtain⟨O',R⟩:=R.frz (fz:=fz);refine⟨c.f,O',_,R.sl,ta.mono (fun d q=>?_) q⟩;cases d <;> first|exact False.elim q|skip
 rename_i l;refine⟨l,rfl,fun p xs H1 e1 hp hx r=>?_⟩;have R1:=R.ex e1;refine R1.le q fun d' v' H2 R2 e2 r' w=>?_;cases d' <;> first|exact False.elim w|skip
 rename_i z;cases (show v'=_ from r');have pO:p ∉ O':=fun hO=>by
  obtain⟨ys,hy⟩:=R.sl.al p hO;rw [hp] at hy;cases hy
 have kp:=e2.kp R1.sl.fO;have kp':Kp (p::O') H1 H2:=fun b o n h=>kp b o (fun z=>n (aE _ z)) h;have al':∀ b∈p::O',∃ xs,H1 b=some (.lst xs):=fun b hb=>by
  rcases ak.mp hb with z|z
  ·exact⟨xs,z ▸ hx⟩
  ·exact R1.sl.al b z
 have R3:=R.mkOwn (i:=i) (e1.trans e2) hp (kp p _ pO hx) (r.kp kp' al');exact⟨.ref p,.int z,rfl,w (p::O') _ H2 (R3.to (R3.sl.set (i:=j) (d:=.int z) (v:=.int z) rfl) Sub.set)⟩
def startD(n:Nat)(ds:List D):SS:=ds.map SD.val++List.replicate (n-ds.length) SD.no
theorem startD.ok{N:List Str}{ds:List D}{vs:List V}(fl:Fl H f)(fO:f∈O)(al:∀ a∈O,∃ xs,H a=some (.lst xs))(lO:∀ l r,H f=some (.lst (.ref l::r))->l ∉ O)(r:Rps K f O H ds vs):StR K ⟨f,O,H,O⟩ O (L2.start N vs) H (startD N.length ds):=by
 have len:(startD N.length ds).length=(L2.start N vs).length:=by
  unfold startD L2.start;rw [ai,ai,aa,aa,aC,aC,r.len]
 have get:∀{i:Nat} {s:SD},(startD N.length ds)[i]? = some s->(∃ d,s = .val d/\ds[i]? = some d)\/s = .no:=fun {i s} h=>by
  unfold startD at h;rcases aP i (ds.map SD.val).length with z|z
  ·rw [bj z,aw] at h;obtain⟨d,h1,h2⟩:=ab.mp h;exact .inl ⟨d,h2.symm,h1⟩
  ·rw [aT z] at h;exact .inr (eG (aO h))
 refine⟨⟨fl,fO,al,lO,len,fun i d h=>?_,fun i l h=>?_⟩,fun _ h=>h,⟨fun _ _ h _ _=>h,fun l r h=>⟨r,h⟩⟩,fun a h=>.inl h,fun i l a h=>?_⟩
 ·rcases get h with⟨d',e,h1⟩|e
  ·cases e;obtain⟨v,h2,h3⟩:=r.get h1;refine⟨v,?_,h3⟩;unfold L2.start;have hv:=(aj.mp h2).1;rw [bj (by rw [aa];exact hv),aw,h2];rfl
  ·cases e
 ·rcases get h with⟨d',e,h1⟩|e <;> cases e
 ·rcases get h with⟨d',e,h1⟩|e <;> cases e
@[reducible] def qt(Q:D->Prop):EndsD:=⟨fun _=>Q .non,Q,fun _=>False,fun _=>False⟩
def Does(n:Nat)(t:TSd)(s:SpB):Prop:=∀ ds Q,ds.length=s.n->s.run ds Q->t.run (qt Q) (startD n ds)
theorem Does.ok{t:TSd}{s:SpB}{N:List Str}(h:Does N.length t s){vs:List V}{Q:VK}{E:XK}(hs:yA K s.n s.run vs H Q E):LS K t { nx:=fun _ H'=>Q .non H',rt:=Q } (L2.start N vs) H:=by
 obtain⟨hn,f,O,ds,fl,fO,al,lO,r,q⟩:=hs;refine⟨⟨f,O,H,O⟩,O,_,startD.ok fl fO al lO r,?_⟩;have q:=h ds _ (r.len.symm.trans hn) q;refine t.mono ?_ q;refine⟨fun s q O' σ' H' R=>?_,fun d q v H' R=>?_,fun _ q=>q.elim,fun _ q=>q.elim⟩
 ·exact q .non H' ⟨⟨fun b o n h=>R.kp.kp b o h n (by by_cases z:b∈O;exact .inl z;exact .inr z),R.kp.key⟩,R.sl.fl⟩ rfl
 ·exact q v H' ⟨⟨fun b o n h=>R.kp.kp b o h n (by by_cases z:b∈O;exact .inl z;exact .inr z),R.kp.key⟩,R.fl⟩ R.rp
end Dp
namespace ZP
open PySem PySem.Spec PyProof.Rows L2
section
variable{prog:Program}{w:World}{A:Around}{E:Value->Shared->Prop}{s:Shared}{z TI TO i1 i2:Addr}{f1 f2:List Addr}{n1 n2 k:Nat}{P1 P2:Nat->Value->Prop}{S1 S2:Nat->Heap->Prop}{a b:Value}
structure Ap (z TI TO i1 i2:Addr)(f1 f2:List Addr):Prop where
 nd:[z,TI,TO,i1,i2].Nodup
 z1:z ∉ f1
 t1:TO ∉ f1
 j1:i2 ∉ f1
 z2:z ∉ f2
 t2:TO ∉ f2
 j2:i1 ∉ f2
theorem Ap.ne(D:Ap z TI TO i1 i2 f1 f2):TI≠z/\TO≠z/\i1≠z/\i2≠z/\TI≠TO/\TI≠i1/\TI≠i2/\TO≠i1/\TO≠i2/\i1≠i2:=by
 have:=D.nd;simp at this;obtain⟨⟨a1,a2,a3,a4⟩,⟨b1,b2,b3⟩,⟨c1,c2⟩,d⟩:=this;exact⟨Ne.symm a1,Ne.symm a2,Ne.symm a3,Ne.symm a4,b1,b2,b3,c1,c2,d⟩
theorem item(D1:Draws prog w A i1 f1 n1 P1 S1)(D2:Draws prog w A i2 f2 n2 P2 S2)(D:Ap z TI TO i1 i2 f1 f2){Q:Value->Shared->Prop}
  (q0:IsZip s.heap z TI TO .none) (q1:IsPair s.heap TI (.ref i1) (.ref i2)) (q2:IsPair s.heap TO a b) (q3:S1 k s.heap) (q4:S2 k s.heap) (l1:k<n1) (l2:k<n2)
  (go:∀ h' tk x y,P1 k x->P2 k y->IsZip h' z TI TO (rawInt s.heap.objs.size)->IsPair h' TO x y->S1 (k+1) h'->S2 (k+1) h'->IsPair h' s.heap.objs.size x y ->
   (∀ c o,c ∉ [z,TO,i1,i2]->s.heap.get? c=some o->h'.get? c=some o)->Q (.ref s.heap.objs.size) { s with heap:=h',toks:=tk }) :
  wpAny (model prog w) A (Builtin.«zip.__next__» ⟨[.ref z],[]⟩) (fun r s'=>∃ v,r = .done (.ret v)/\Q v s') E s:=by
 obtain⟨e1,e2,e3,e4,e5,e6,e7,e8,e9,e10⟩:=D.ne;show wpAny _ _ (field (.ref z) 2 >>= _) _ _ _;refine wpAny_bind (wpAny_field q0 rfl (x:=.bool false) rfl ?_);show wpAny _ _ (field (.ref z) 3 >>= _) _ _ _;refine wpAny_bind (wpAny_field q0 rfl (x:=.ref TI) rfl ?_);refine wpAny_bind (wpAny_seqItems q1 rfl ?_);show wpAny _ _ (Builtin.SmallTypes.ownedTupleIsFree (.ref z) >>= _) _ _ _;refine wpAny_bind ?_;unfold Builtin.SmallTypes.ownedTupleIsFree;refine wpAny_bind (wpAny_field q0 rfl (x:=.none) rfl (wpAny_pure ?_));simp only [if_true];refine wpAny_bind (wpAny_rule ?_);refine wpAny_bind (wpAny_field q0 rfl (x:=.ref TO) rfl ?_);refine wpAny_bind (wpAny_setField_rec q0 (by simp) fun g1 r1 s1=>?_);replace r1:IsZip g1 z TI TO .ellipsis:=r1;refine wpAny_bind ?_;simp only [fQ,List.zipIdx_nil,eh,eC];have at1:S1 k g1:=D1.frame _ _ _ q3 fun c hc o e=>s1.extBut _ _ (by rintro rfl;exact D.z1 hc) e;refine wpAny_bind (wpAny_bind (wpAny_onRaise ?_));show wpAny _ _ (Builtin.SmallTypes.nextOf (.ref i1) >>= _) _ _ _;refine wpAny_bind (D1.item k _ _ _ l1 at1 fun x g2 tk1 px at2 s2=>wpAny_pure ?_);have u2:IsPair g2 TO a b:=s2.extBut _ _ e8 (s1.extBut _ _ e2 q2);refine wpAny_bind (wpAny_seqItems (s:={ s with heap:=g2,toks:=tk1 }) u2 rfl ?_);refine wpAny_bind (wpAny_updateSeq_pair (s:={ s with heap:=g2,toks:=tk1 }) u2 fun g3 u3 s3=>?_);replace u3:IsPair g3 TO x b:=u3;refine wpAny_bind (wpAny_letGo (wpAny_pure ?_));have to3:∀ c o,c≠z->c≠i1->c≠TO->s.heap.get? c=some o->g3.get? c=some o:=fun c o c1 c2 c3 e=>s3.extBut _ _ c3 (s2.extBut _ _ c2 (s1.extBut _ _ c1 e));have at3:S2 k g3:=D2.frame _ _ _ q4 fun c hc o e=>to3 c o (by rintro rfl;exact D.z2 hc) (by rintro rfl;exact D.j2 hc) (by rintro rfl;exact D.t2 hc) e;refine wpAny_bind (wpAny_bind (wpAny_onRaise ?_));show wpAny _ _ (Builtin.SmallTypes.nextOf (.ref i2) >>= _) _ _ _;refine wpAny_bind (D2.item k _ _ _ l2 at3 fun y g4 tk2 py at4 s4=>wpAny_pure ?_);have u4:IsPair g4 TO x b:=s4.extBut _ _ e9 u3;refine wpAny_bind (wpAny_seqItems (s:={ s with heap:=g4,toks:=tk2 }) u4 rfl ?_);refine wpAny_bind (wpAny_updateSeq_pair (s:={ s with heap:=g4,toks:=tk2 }) u4 fun g5 u5 s5=>?_);replace u5:IsPair g5 TO x y:=u5;refine wpAny_bind (wpAny_letGo (wpAny_pure (wpAny_pure ?_)));refine wpAny_bind (wpAny_seqItems (s:={ s with heap:=g5,toks:=tk2 }) u5 rfl ?_);refine wpAny_bind (wpAny_newTuple ?_);have sz:g5.objs.size=s.heap.objs.size:=by rw [s5.1,show g4.objs.size=g3.objs.size from s4.1,s3.1,show g2.objs.size=g1.objs.size from s2.1,s1.1]
 have to5:∀ c o,c≠z->c≠i1->c≠TO->c≠i2->s.heap.get? c=some o->g5.get? c=some o:=fun c o c1 c2 c3 c4 e=>s5.extBut _ _ c3 (s4.extBut _ _ c4 (to3 c o c1 c2 c3 e));have r5:IsZip g5 z TI TO .ellipsis:=s5.extBut _ _ (Ne.symm e2) (s4.extBut _ _ (Ne.symm e4) (s3.extBut _ _ (Ne.symm e2) (s2.extBut _ _ (Ne.symm e3) r1)));have at5:S1 (k+1) g5:=D1.frame _ _ _ at2 fun c hc o e=>s5.extBut _ _ (by rintro rfl;exact D.t1 hc) (s4.extBut _ _ (by rintro rfl;exact D.j1 hc) (s3.extBut _ _ (by rintro rfl;exact D.t1 hc) e));have at6:S2 (k+1) g5:=D2.frame _ _ _ at4 fun c hc o e=>s5.extBut _ _ (by rintro rfl;exact D.t2 hc) e;show wpAny _ _ (Builtin.SmallTypes.ownedTupleHandOut (.ref z) (.ref g5.objs.size) >>= _) _ _ _;refine wpAny_bind ?_;unfold Builtin.SmallTypes.ownedTupleHandOut;have r6:IsZip (g5.push { cls:=.type "tuple",data:=.seq #[x,y] }) z TI TO .ellipsis:=Heap.get?_push_of_some _ r5;refine wpAny_bind (wpAny_setField_rec (s:={ s with heap:=g5.push { cls:=.type "tuple",data:=.seq #[x,y] },toks:=tk2 }) r6 (by simp) fun g7 r7 s7=>?_);replace r7:IsZip g7 z TI TO (rawInt g5.objs.size):=r7;refine wpAny_setField_rec (s:={ s with heap:=g7,toks:=tk2 }) r7 (by simp) fun g8 r8 s8=>?_;replace r8:IsZip g8 z TI TO (rawInt g5.objs.size):=r8;have up:∀ c o,c≠z->g5.get? c=some o->g8.get? c=some o:=fun c o c1 e=>s8.extBut _ _ c1 (s7.extBut _ _ c1 (Heap.get?_push_of_some _ e));have nz:g5.objs.size≠z:=cT (Heap.lt_size r5);have r9:IsPair g8 g5.objs.size x y:=s8.extBut _ _ nz (s7.extBut _ _ nz (Heap.get?_push_size _ rfl));rw [sz] at r8 r9;refine wpAny_pure ⟨_,rfl,?_⟩;show Q (.ref g5.objs.size) _;rw [sz];refine go g8 tk2 x y px py r8 (up _ _ e2 u5) (D1.frame _ _ _ at5 fun c hc o e=>up c o (by rintro rfl;exact D.z1 hc) e) (D2.frame _ _ _ at6 fun c hc o e=>up c o (by rintro rfl;exact D.z2 hc) e) r9 fun c o hc e=>?_;simp at hc;obtain⟨c1,c2,c3,c4⟩:=hc;exact up c o c1 (to5 c o c1 c3 c2 c4 e)
theorem last(D1:Draws prog w A i1 f1 n1 P1 S1)(D2:Draws prog w A i2 f2 n2 P2 S2)(D:Ap z TI TO i1 i2 f1 f2){Q:Fin->Shared->Prop}
  (q0:IsZip s.heap z TI TO .none) (q1:IsPair s.heap TI (.ref i1) (.ref i2)) (q2:IsPair s.heap TO a b) (q3:S1 k s.heap) (q4:S2 k s.heap) (hend:k=n1\/(k<n1/\k=n2))
  (no:∀ h' tk e,(∀ c o,c ∉ [z,TO,i1,i2]->s.heap.get? c=some o->h'.get? c=some o)->(∃ o,h'.get? e=some o/\o.cls = .type "StopIteration")->E (.ref e) { s with heap:=h',toks:=tk }) :
  wpAny (model prog w) A (Builtin.«zip.__next__» ⟨[.ref z],[]⟩) Q E s:=by
 obtain⟨e1,e2,e3,e4,e5,e6,e7,e8,e9,e10⟩:=D.ne;show wpAny _ _ (field (.ref z) 2 >>= _) _ _ _;refine wpAny_bind (wpAny_field q0 rfl (x:=.bool false) rfl ?_);show wpAny _ _ (field (.ref z) 3 >>= _) _ _ _;refine wpAny_bind (wpAny_field q0 rfl (x:=.ref TI) rfl ?_);refine wpAny_bind (wpAny_seqItems q1 rfl ?_);show wpAny _ _ (Builtin.SmallTypes.ownedTupleIsFree (.ref z) >>= _) _ _ _;refine wpAny_bind ?_;unfold Builtin.SmallTypes.ownedTupleIsFree;refine wpAny_bind (wpAny_field q0 rfl (x:=.none) rfl (wpAny_pure ?_));simp only [if_true];refine wpAny_bind (wpAny_rule ?_);refine wpAny_bind (wpAny_field q0 rfl (x:=.ref TO) rfl ?_);refine wpAny_bind (wpAny_setField_rec q0 (by simp) fun g1 r1 s1=>?_);replace r1:IsZip g1 z TI TO .ellipsis:=r1;refine wpAny_bind ?_;simp only [fQ,List.zipIdx_nil,eh,eC];have at1:S1 k g1:=D1.frame _ _ _ q3 fun c hc o e=>s1.extBut _ _ (by rintro rfl;exact D.z1 hc) e;refine wpAny_bind (wpAny_bind (wpAny_onRaise ?_));show wpAny _ _ (Builtin.SmallTypes.nextOf (.ref i1) >>= _) _ _ _;rcases hend with rfl|⟨l1,rfl⟩
 ·refine wpAny_bind (D1.done _ _ _ at1 fun g2 e s2 he=>?_);obtain⟨oe,ho,hc⟩:=he;have r2:IsZip g2 z TI TO .ellipsis:=s2 _ _ (Ne.symm e3) r1;have ez:e≠z:=by rintro rfl;rw [r2] at ho;cases ho;simp at hc
  refine wpAny_setField_rec (s:={ s with heap:=g2 }) r2 (by simp) fun g3 _ s3=>no g3 s.toks e (fun c o hc e=>?_) ⟨oe,s3.extBut _ _ ez ho,hc⟩;simp at hc;exact s3.extBut _ _ hc.1 (s2 _ _ hc.2.2.1 (s1.extBut _ _ hc.1 e))
 ·refine wpAny_bind (D1.item k _ _ _ l1 at1 fun x g2 tk1 px at2 s2=>wpAny_pure ?_);have u2:IsPair g2 TO a b:=s2.extBut _ _ e8 (s1.extBut _ _ e2 q2);refine wpAny_bind (wpAny_seqItems (s:={ s with heap:=g2,toks:=tk1 }) u2 rfl ?_);refine wpAny_bind (wpAny_updateSeq_pair (s:={ s with heap:=g2,toks:=tk1 }) u2 fun g3 u3 s3=>?_);refine wpAny_bind (wpAny_letGo (wpAny_pure ?_));have to3:∀ c o,c≠z->c≠i1->c≠TO->s.heap.get? c=some o->g3.get? c=some o:=fun c o c1 c2 c3 e=>s3.extBut _ _ c3 (s2.extBut _ _ c2 (s1.extBut _ _ c1 e));have at3:S2 k g3:=D2.frame _ _ _ q4 fun c hc o e=>to3 c o (by rintro rfl;exact D.z2 hc) (by rintro rfl;exact D.j2 hc) (by rintro rfl;exact D.t2 hc) e;refine wpAny_bind (wpAny_bind (wpAny_onRaise ?_));show wpAny _ _ (Builtin.SmallTypes.nextOf (.ref i2) >>= _) _ _ _;refine wpAny_bind (D2.done _ _ _ at3 fun g4 e s4 he=>?_);obtain⟨oe,ho,hc⟩:=he;have r4:IsZip g4 z TI TO .ellipsis:=s4 _ _ (Ne.symm e4) (s3.extBut _ _ (Ne.symm e2) (s2.extBut _ _ (Ne.symm e3) r1));have ez:e≠z:=by rintro rfl;rw [r4] at ho;cases ho;simp at hc
  refine wpAny_setField_rec (s:={ s with heap:=g4,toks:=tk1 }) r4 (by simp) fun g5 _ s5=>no g5 tk1 e (fun c o hc e=>?_) ⟨oe,s5.extBut _ _ ez ho,hc⟩;simp at hc;exact s5.extBut _ _ hc.1 (s4 _ _ hc.2.2.2 (to3 c o hc.1 hc.2.2.1 hc.2.1 e))
theorem IM(D1:Draws prog w A.in1 i1 f1 n1 P1 S1)(D2:Draws prog w A.in1 i2 f2 n2 P2 S2)(D:Ap z TI TO i1 i2 f1 f2){Q:Option Value->Shared->Prop}
  (q0:IsZip s.heap z TI TO .none) (q1:IsPair s.heap TI (.ref i1) (.ref i2)) (q2:IsPair s.heap TO a b) (q3:S1 k s.heap) (q4:S2 k s.heap) (l1:k<n1) (l2:k<n2)
  (go:∀ h' tk x y,P1 k x->P2 k y->IsZip h' z TI TO (rawInt s.heap.objs.size)->IsPair h' TO x y->S1 (k+1) h'->S2 (k+1) h'->IsPair h' s.heap.objs.size x y ->
   (∀ c o,c ∉ [z,TO,i1,i2]->s.heap.get? c=some o->h'.get? c=some o)->Q (some (.ref s.heap.objs.size)) { s with heap:=h',toks:=tk }):wpAny (model prog w) A (pyNext (.ref z)) Q E s:=by
 have ty:s.TypeIs (.ref z) "zip" := ⟨_,q0,rfl⟩;unfold pyNext;exact wpAny_bind (wpAny_attempt (wpAny_callSpecial?_slot (name:=Str.ofString "__next__") ty F.slot_zip_next (wpAny_call_entry F.slot_zip_next ty F.entry_zip_next
  (item D1 D2 D q0 q1 q2 q3 q4 l1 l2 fun h' tk x y a1 a2 a3 a4 a5 a6 a7 a8=>wpAny_pure (go h' tk x y a1 a2 a3 a4 a5 a6 a7 a8)) (F.args_zip_next_1 _))))
theorem IN(D1:Draws prog w A.in1 i1 f1 n1 P1 S1)(D2:Draws prog w A.in1 i2 f2 n2 P2 S2)(D:Ap z TI TO i1 i2 f1 f2){Q:Option Value->Shared->Prop}
  (q0:IsZip s.heap z TI TO .none) (q1:IsPair s.heap TI (.ref i1) (.ref i2)) (q2:IsPair s.heap TO a b) (q3:S1 k s.heap) (q4:S2 k s.heap) (hend:k=n1\/(k<n1/\k=n2))
  (no:∀ h' tk,(∀ c o,c ∉ [z,TO,i1,i2]->s.heap.get? c=some o->h'.get? c=some o)->Q none { s with heap:=h',toks:=tk }):wpAny (model prog w) A (pyNext (.ref z)) Q E s:=by
 have ty:s.TypeIs (.ref z) "zip" := ⟨_,q0,rfl⟩;unfold pyNext;refine wpAny_bind (wpAny_attempt (wpAny_callSpecial?_slot (name:=Str.ofString "__next__") ty F.slot_zip_next (wpAny_call_entry F.slot_zip_next ty F.entry_zip_next
  (last D1 D2 D q0 q1 q2 q3 q4 hend fun h' tk e kp he=>?_) (F.args_zip_next_1 _))))
 obtain⟨o,ho,hc⟩:=he;exact wpAny_bind (wpAny_isInstance (T := "StopIteration") (b:=true) ⟨o,ho,hc⟩ isSubtype_stop (wpAny_pure (no _ tk kp)))
end
def Itb(c:String)(l:Addr)(h:Heap):Prop:=(c = "list_iterator" /\ ∃ xs,h.IsList l xs)\/(c = "tuple_iterator" /\ ∃ xs,h.IsTuple l xs)
theorem Itb.kp{c:String}{l:Addr}{h h':Heap}(b:Itb c l h)(k:∀ o,h.get? l=some o->h'.get? l=some o):Itb c l h':=by
 rcases b with⟨e,xs,o,ho,r⟩|⟨e,xs,o,ho,r⟩
 ·exact .inl ⟨e,xs,o,k o ho,r⟩
 ·exact .inr ⟨e,xs,o,k o ho,r⟩
abbrev Ez(c:String)(l:Addr):Obj:={ cls:=.type c,data:=.fields #[.ref l,.int 0 0] }
section
variable{prog:Program}{w:World}{A:Around}{E:Value->Shared->Prop}{s:Shared}{l1 l2:Addr}{c1 c2:String}
theorem Ay{c:String}{l:Addr}{Q:Value->Shared->Prop}(b:Itb c l s.heap)(h:Q (.ref s.heap.objs.size) { s with heap:=s.heap.push (Ez c l) }):wpAny (model prog w) A (pyIter (.ref l)) Q E s:=by
 rcases b with⟨rfl,xs,hl⟩|⟨rfl,xs,hl⟩
 ·exact wpAny_pyIter_list hl h
 ·exact wpAny_pyIter_tuple hl h
abbrev JK(h:Heap)(c1 c2:String)(l1 l2:Addr):Heap:=(h.push (Ez c1 l1)).push (Ez c2 l2)
abbrev JJ(h:Heap)(c1 c2:String)(l1 l2:Addr):Heap:=(JK h c1 c2 l1 l2).push { cls:=.type "tuple",data:=.seq #[.ref h.objs.size,.ref (h.push (Ez c1 l1)).objs.size] }
abbrev JI(h:Heap)(c1 c2:String)(l1 l2:Addr):Heap:=(JJ h c1 c2 l1 l2).push { cls:=.type "tuple",data:=.seq #[.none,.none] }
abbrev HB(h:Heap)(c1 c2:String)(l1 l2:Addr):Heap:=(JI h c1 c2 l1 l2).push { cls:=.type "zip",data:=.fields #[.none,.bool false,.bool false,.ref (JK h c1 c2 l1 l2).objs.size,.ref (JJ h c1 c2 l1 l2).objs.size] }
theorem IV(l1 l2:Addr)(c1 c2:String):Meets (Builtin.«zip.__new__» ⟨[.type "zip",.ref l1,.ref l2],[]⟩) (fun _ R s=>Itb c1 l1 s.heap/\Itb c2 l2 s.heap/\R (.ok (.ret (.ref (JI s.heap c1 c2 l1 l2).objs.size))) { s with heap:=HB s.heap c1 c2 l1 l2 }) :=
 .of_wp fun prog w A R s h=>by
  obtain⟨hp,g,d,tk,os⟩:=s;obtain⟨b1,b2,h⟩:=h;have hsub:=sub_zip;have x1:Itb c1 l1 (Shared.heap ⟨hp,g,d,tk,os⟩):=b1;have x2:Itb c2 l2 (Shared.heap ⟨hp.push { cls:=.type c1,data:=.fields #[.ref l1,.int 0 0] },g,d,tk,os⟩):=b2.kp fun o e=>Heap.get?_push_of_some _ e
  wp_walk using Ay x1,Ay x2
  exact⟨_,rfl,h⟩
theorem Jv{Q:Value->Shared->Prop}(b1:Itb c1 l1 s.heap)(b2:Itb c2 l2 s.heap)
  (h:∀ h',IsZip h' (s.heap.objs.size+4) (s.heap.objs.size+2) (s.heap.objs.size+3) .none->IsPair h' (s.heap.objs.size+2) (.ref s.heap.objs.size) (.ref (s.heap.objs.size+1))->IsPair h' (s.heap.objs.size+3) .none .none ->
   h'.get? s.heap.objs.size=some (Ez c1 l1)->h'.get? (s.heap.objs.size+1)=some (Ez c2 l2)->(∀ c o,s.heap.get? c=some o->h'.get? c=some o)->Q (.ref (s.heap.objs.size+4)) { s with heap:=h' }) :
  wpAny (model prog w) A (call (.type "zip") [.ref l1,.ref l2]) Q E s:=by
 refine callType_new F.called_zip (by decide) (F.typeCall_zip_2 _ _) (F.newCall_zip_2 _ _) (fun obj=>F.args_object_init_3 obj _ _) F.entry_zip_new (IV l1 l2 c1 c2) ⟨b1,b2,?_⟩;have y1:(s.heap.push (Ez c1 l1)).objs.size=s.heap.objs.size+1:=Heap.size_push ..;have y2:(JK s.heap c1 c2 l1 l2).objs.size=s.heap.objs.size+2:=by rw [Heap.size_push,y1]
 have y3:(JJ s.heap c1 c2 l1 l2).objs.size=s.heap.objs.size+3:=by rw [Heap.size_push,y2]
 have y4:(JI s.heap c1 c2 l1 l2).objs.size=s.heap.objs.size+4:=by rw [Heap.size_push,y3]
 have v5:(HB s.heap c1 c2 l1 l2).get? (JI s.heap c1 c2 l1 l2).objs.size=some _:=Heap.get?_push_size _ rfl;have v4:(HB s.heap c1 c2 l1 l2).get? (JJ s.heap c1 c2 l1 l2).objs.size=some _:=Heap.get?_push_of_some _ (Heap.get?_push_size _ rfl);have v3:(HB s.heap c1 c2 l1 l2).get? (JK s.heap c1 c2 l1 l2).objs.size=some _:=Heap.get?_push_of_some _ (Heap.get?_push_of_some _ (Heap.get?_push_size _ rfl));have v2:(HB s.heap c1 c2 l1 l2).get? (s.heap.push (Ez c1 l1)).objs.size=some _:=Heap.get?_push_of_some _ (Heap.get?_push_of_some _ (Heap.get?_push_of_some _ (Heap.get?_push_size _ rfl)));have v1:(HB s.heap c1 c2 l1 l2).get? s.heap.objs.size=some _:=Heap.get?_push_of_some _ (Heap.get?_push_of_some _ (Heap.get?_push_of_some _ (Heap.get?_push_of_some _ (Heap.get?_push_size _ rfl))));show _/\_;rw [y2,y3,y4] at v5;rw [y1,y2] at v3;rw [y3] at v4;rw [y1] at v2;rw [y4];exact⟨⟨_,v5,rfl⟩,h _ v5 v3 v4 v1 v2 fun c o x=>Heap.get?_push_of_some _ (Heap.get?_push_of_some _ (Heap.get?_push_of_some _ (Heap.get?_push_of_some _ (Heap.get?_push_of_some _ x))))⟩
end
def Sq(K:Frag)(t:Bool)(H:Hp)(l:Addr)(xs:List V):Prop:=if t=true then SqT K H l xs else SqL K H l xs
def Ik(t:Bool)(it l:Addr)(i:Nat)(h:Heap):Prop:=if t=true then h.IsTupleIter it l i else h.IsListIter it l i
section
variable{X:Cx}{pins:List (Addr×Obj)}{σ:L2.St}{H:Hp}{s:Shared}{t:Bool}{l it b:Addr}{xs ys:List V}{i:Nat}{h h':Heap}
theorem Sq.inj(I:Inv X pins σ H s)(q:Sq X.K t H l xs)(q':Sq X.K t H l ys):xs=ys:=by
 cases t
 ·exact I.list_inj q q'
 ·exact I.tuple_inj q q'
theorem Sq.ne(I:Inv X pins σ H s)(q:Sq X.K t H l xs)(f:sU X pins H b):l≠b:=by
 rintro rfl;have kn:∀ o,X.K.lookup l=some o->False:=fun o e=>by
  have e1:=I.ok.mod.kin l o e;rcases f.2.2.2.1 with z|z
  ·exact I.ok.noex l o e1 z
  ·exact absurd (az (Heap.lt_size (I.ok.bs l o e1).1) z) (bD _)
 have rd:∀ u,Rd H l u->False:=fun u z=>by
  rcases z with z|⟨o,z⟩ <;> rw [f.1] at z <;> cases z
 cases t
 ·rcases (show SqL X.K H l xs from q) with z|⟨o,_,_,z,_⟩
  ·exact rd _ z
  ·exact kn o z
 ·rcases (show SqT X.K H l xs from q) with z|⟨o,_,_,z,_⟩
  ·exact rd _ z
  ·exact kn o z
theorem Sq.itb(I:Inv X pins σ H s)(q:Sq X.K t H l xs):Itb (if t=true then "tuple_iterator" else "list_iterator") l s.heap:=by
 cases t
 ·obtain⟨its,_,p,_⟩:=I.list q;exact .inl ⟨rfl,_,p.isList⟩
 ·obtain⟨its,_,p,_⟩:=I.tuple q;exact .inr ⟨rfl,_,p⟩
theorem Sq.draws(I:Inv X pins σ H s)(q:Sq X.K t H l xs)(ne:l≠it):∃ its:List Value,Vals xs its/\∃ L:Heap->Prop,L s.heap/\∀ A:Around,A.handled=none->Draws X.prog X.w A it [it,l] its.length (fun j v=>its[j]? = some v) (fun j h=>Ik t it l j h/\L h):=by
 cases t
 ·obtain⟨its,rv,p,_⟩:=I.list q;refine⟨its,rv,fun h=>h.IsList l its.toArray,p.isList,fun A hA=>?_⟩;have:=Draws.list (prog:=X.prog) (w:=X.w) hA it l ne its.toArray;simp only [am,eR] at this;exact this
 ·obtain⟨its,rv,p,_⟩:=I.tuple q;refine⟨its,rv,fun h=>h.IsTuple l its.toArray,p,fun A hA=>?_⟩;have:=Da (prog:=X.prog) (w:=X.w) hA it l ne its.toArray;simp only [am,eR] at this;exact this
theorem Ik.kp(q:Ik t it l i h)(k:∀ o,h.get? it=some o->h'.get? it=some o):Ik t it l i h':=by
 cases t
 ·obtain⟨o,ho,r⟩:=(show h.IsListIter it l i from q);exact⟨o,k o ho,r⟩
 ·obtain⟨o,ho,r⟩:=(show h.IsTupleIter it l i from q);exact⟨o,k o ho,r⟩
theorem Ik.ob(q:Ik t it l i h):∃ o,h.get? it=some o/\∀ v,o.data ≠ .cell v:=by
 cases t
 ·obtain⟨o,ho,_,hd⟩:=(show h.IsListIter it l i from q);exact⟨o,ho,fun v z=>by rw [hd] at z;cases z⟩
 ·obtain⟨o,ho,_,hd⟩:=(show h.IsTupleIter it l i from q);exact⟨o,ho,fun v z=>by rw [hd] at z;cases z⟩
theorem Ik.new(e:h.get? it=some (Ez (if t=true then "tuple_iterator" else "list_iterator") l)):Ik t it l 0 h:=by
 cases t
 ·exact⟨_,e,rfl,rfl⟩
 ·exact⟨_,e,rfl,rfl⟩
theorem IW{fp:List Addr}{t2:Nat}{x y:V}{u v:Value}(I:Inv X pins σ H s)(hf:∀ b∈fp,sU X pins H b)(lt:∀ b∈fp,b<s.heap.objs.size)(ru:RelV x u)(rv:RelV y v)
  (hT:IsPair h' s.heap.objs.size u v) (hk:∀ b o,b ∉ fp->s.heap.get? b=some o->h'.get? b=some o) :
  Inv X pins σ (qR H s.heap.objs.size (.tup [x,y])) { s with heap:=h',toks:=t2 }/\∀ b∈fp,qR H s.heap.objs.size (.tup [x,y]) b=none:=by
 have I1:Inv X pins σ (qR H s.heap.objs.size (.tup [x,y])) { s with heap:=s.heap.push { cls:=.type "tuple",data:=.seq #[u,v] },toks:=t2 } :=
  I.laid (t':=t2) (fun b u e=>Heap.get?_push_of_some _ e) (aq _) ⟨by show 2<=sizeLine;decide,[u,v],.cons ru (.cons rv .nil),⟨_,Heap.get?_push_size _ rfl,rfl,_,rfl⟩⟩
 have nn:∀ b∈fp,qR H s.heap.objs.size (.tup [x,y]) b=none:=fun b hb=>by
  rw [qu (aX (lt b hb))];exact (hf b hb).1
 refine⟨Inv.turnedL (s:={ s with heap:=s.heap.push { cls:=.type "tuple",data:=.seq #[u,v] },toks:=t2 }) (t':=t2) (fp:=fp) I1 (fun b o hb q=>?_) fun b hb=>⟨nn b hb,(hf b hb).2⟩,nn⟩;rcases Heap.get?_push_cases q with⟨z1,z2⟩|z
 ·rw [z1,z2];exact hT
 ·exact hk b o hb z
end
theorem HW{z TI TO i1 i2 c:Addr}(h:c∈[z,TO,i1,i2]):c∈[z,TI,TO,i1,i2]:=by
 simp only [ak,aU,or_false] at h ⊢;rcases h with h|h|h|h <;> simp [h]
def Lm(K:Frag)(t u:Bool)(a b:Addr):It:=⟨fun i H=>∃ xs ys x y,Sq K t H a xs/\Sq K u H b ys/\xs[i]? = some x/\ys[i]? = some y,
 fun i H v H'=>∃ p x y,v = .ref p/\H p=none/\H'=qR H p (.tup [x,y])/\(∀ xs,Sq K t H a xs->xs[i]? = some x)/\∀ ys,Sq K u H b ys->ys[i]? = some y,
 fun i H=>∃ xs ys,Sq K t H a xs/\Sq K u H b ys/\(i=xs.length\/(i<xs.length/\i=ys.length))⟩
theorem wT{P:Program}{w:World}{K:Frag}{es:List Expr}{kk:Nat}{ps:Pos}{t u:Bool}{a b z TI TO i1 i2:Addr}(nd:[z,TI,TO,i1,i2].Nodup) :
  Turn P w K (.Tuple es kk ps) (Lm K t u a b) [z,TI,TO,i1,i2] z (fun i h=>IsZip h z TI TO .none/\IsPair h TI (.ref i1) (.ref i2)/\(∃ p q,IsPair h TO p q)/\Ik t i1 a i h/\Ik u i2 b i h) where
 mem:=by simp
 obj:=fun i h st c hc=>by
  obtain⟨h0,h1,⟨p,q,h2⟩,h3,h4⟩:=st;simp only [ak,aU,or_false] at hc;rcases hc with rfl|rfl|rfl|rfl|rfl
  ·exact⟨_,h0,fun v z=>by cases z⟩
  ·exact⟨_,h1,fun v z=>by cases z⟩
  ·exact⟨_,h2,fun v z=>by cases z⟩
  ·exact h3.ob
  ·exact h4.ob
 keep:=fun i h h' st k=>by
  obtain⟨h0,h1,⟨p,q,h2⟩,h3,h4⟩:=st;exact⟨k z (by simp) _ h0,k TI (by simp) _ h1,⟨p,q,k TO (by simp) _ h2⟩,h3.kp fun o e=>k i1 (by simp) o e,h4.kp fun o e=>k i2 (by simp) o e⟩
 item:=by
  intro X hP hw hK hc i pins s σ H E I hf st hg;subst hP hw hK;obtain⟨xs,ys,x,y,s1,s2,e1,e2⟩:=hg;obtain⟨h0,h1,⟨p,q,h2⟩,h3,h4⟩:=st;have na:∀ c∈[z,TI,TO,i1,i2],a≠c:=fun c hc=>s1.ne I (hf c hc);have nb:∀ c∈[z,TI,TO,i1,i2],b≠c:=fun c hc=>s2.ne I (hf c hc);obtain⟨us,rv1,L1,k1,D1⟩:=s1.draws (it:=i1) I (na i1 (by simp));obtain⟨vs,rv2,L2,k2,D2⟩:=s2.draws (it:=i2) I (nb i2 (by simp));obtain⟨u1,hu,ru⟩:=rv1.get e1;obtain⟨v1,hv,rv⟩:=rv2.get e2;have dn:=nd;simp at dn;obtain⟨⟨a1,a2,a3,a4⟩,⟨b1,b2,b3⟩,⟨c1,c2⟩,d⟩:=dn;have ap:Ap z TI TO i1 i2 [i1,a] [i2,b]:=⟨nd,by simp [a3,Ne.symm (na z (by simp))],by simp [c1,Ne.symm (na TO (by simp))],by simp [Ne.symm d,Ne.symm (na i2 (by simp))],by simp [a4,Ne.symm (nb z (by simp))],by simp [c2,Ne.symm (nb TO (by simp))],by simp [d,Ne.symm (nb i1 (by simp))]⟩;refine IM (D1 X.A.in1 (I.ok.hd hc)) (D2 X.A.in1 (I.ok.hd hc)) ap h0 h1 h2 ⟨h3,k1⟩ ⟨h4,k2⟩ (aj.mp hu).1 (aj.mp hv).1 fun h' tk x' y' px py z0 z1 z2 z3 z4 kp=>?_;rw [hu] at px;rw [hv] at py;cases px;cases py;refine⟨_,rfl,wpAny_letOwnedTupleGo_zip (s:={ s with heap:=h',toks:=tk }) z0 fun h2' y0 hs=>?_⟩;have k2':∀ c o,c ∉ [z,TI,TO,i1,i2]->s.heap.get? c=some o->h2'.get? c=some o:=fun c o n e=>hs.extBut c o (fun w=>n (by simp [w])) (kp c o (fun w=>n (HW w)) e);have lt:∀ c∈[z,TI,TO,i1,i2],c<s.heap.objs.size:=fun c hc=>by
   simp only [ak,aU,or_false] at hc;rcases hc with rfl|rfl|rfl|rfl|rfl
   ·exact Heap.lt_size h0
   ·exact Heap.lt_size h1
   ·exact Heap.lt_size h2
   ·obtain⟨o,ho,_⟩:=h3.ob;exact Heap.lt_size ho
   ·obtain⟨o,ho,_⟩:=h4.ob;exact Heap.lt_size ho
  obtain⟨I2,n2⟩:=IW (t2:=tk) I hf lt ru rv (hs.extBut _ _ (cT (lt z (by simp))) z4) k2';refine⟨.ref s.heap.objs.size,_,I2,rfl,⟨_,x,y,rfl,I.hok.fresh (aq _),rfl,fun zs hz=>by rw [hz.inj I s1];exact e1,fun zs hz=>by rw [hz.inj I s2];exact e2⟩,⟨y0,?_,⟨_,_,hs.extBut _ _ (Ne.symm a2) z1⟩,z2.1.kp fun o e=>hs.extBut _ _ (Ne.symm a3) e,z3.1.kp fun o e=>hs.extBut _ _ (Ne.symm a4) e⟩,n2⟩;exact hs.extBut _ _ (Ne.symm a1) (kp TI _ (by simp [Ne.symm a1,b1,b2,b3]) h1)
 done:=by
  intro X hP hw hK hc i pins s σ H E I hf st hg;subst hP hw hK;obtain⟨xs,ys,s1,s2,e1⟩:=hg;obtain⟨h0,h1,⟨p,q,h2⟩,h3,h4⟩:=st;have na:∀ c∈[z,TI,TO,i1,i2],a≠c:=fun c hc=>s1.ne I (hf c hc);have nb:∀ c∈[z,TI,TO,i1,i2],b≠c:=fun c hc=>s2.ne I (hf c hc);obtain⟨us,rv1,L1,k1,D1⟩:=s1.draws (it:=i1) I (na i1 (by simp));obtain⟨vs,rv2,L2,k2,D2⟩:=s2.draws (it:=i2) I (nb i2 (by simp));have dn:=nd;simp at dn;obtain⟨⟨a1,a2,a3,a4⟩,⟨b1,b2,b3⟩,⟨c1,c2⟩,d⟩:=dn;have ap:Ap z TI TO i1 i2 [i1,a] [i2,b]:=⟨nd,by simp [a3,Ne.symm (na z (by simp))],by simp [c1,Ne.symm (na TO (by simp))],by simp [Ne.symm d,Ne.symm (na i2 (by simp))],by simp [a4,Ne.symm (nb z (by simp))],by simp [c2,Ne.symm (nb TO (by simp))],by simp [d,Ne.symm (nb i1 (by simp))]⟩;refine IN (D1 X.A.in1 (I.ok.hd hc)) (D2 X.A.in1 (I.ok.hd hc)) ap h0 h1 h2 ⟨h3,k1⟩ ⟨h4,k2⟩ (by rw [← rv1.length,← rv2.length];exact e1) fun h' tk kp=>⟨rfl,Inv.turnedL (t':=tk) I (fp:=[z,TI,TO,i1,i2]) (fun c o n e=>kp c o (fun w=>n (HW w)) e) hf⟩
 self:=fun _ _ _ _ _ st h=>wpAny_pyIter_zip st.1 h
def KD(K:Frag)(ta:TA):TI:=fun σ H R=>ta σ H fun vs H1=>∃ t u a b xs ys,vs=[.ref a,.ref b]/\Sq K t H1 a xs/\Sq K u H1 b ys/\R (Lm K t u a b) H1
theorem Dz:bootBuiltins "zip" = some (.type "zip"):=by decide +kernel
theorem Gj{X:Cx}{es:List Expr}{kk:Nat}{ps:Pos}{a b:Expr}{ta:TA}{p pos:Pos}(hg:Gl X "zip")(hm:X.mg "zip" = none)(ha:PA X [a,b] ta)(hs:starEach [a,b] X.env=[(false,eval a X.env),(false,eval b X.env)])(hs2:starEach [b] X.env=[(false,eval b X.env)]):PI X (.Tuple es kk ps) (.Call (.Name "zip" p) [a,b] [] pos) (KD X.K ta):=by
 intro pins s σ H R I h;refine Call_ (tw I hg hm Dz (PyProof.Rows.callWith_type1 (qI (ha pos pins s σ H _ I h) fun us s1 ⟨vs,H1,I1,r1,q1⟩=>?_) (by rw [hs,hs2]) (by rw [hs2];rfl)));obtain⟨t,u,l1,l2,xs,ys,e,s1',s2',q1⟩:=q1;subst e;obtain⟨w1,w2,rfl,ru,rv⟩:=Vals.two r1;cases ru;cases rv;refine Jv (s1'.itb I1) (s2'.itb I1) fun h' z0 z1 z2 z3 z4 kp=>?_;refine wpAny_pyIter_zip z0 ?_;refine⟨_,[s1.heap.objs.size+4,s1.heap.objs.size+2,s1.heap.objs.size+3,s1.heap.objs.size,s1.heap.objs.size+1],_,_,H1,rfl,I1.kept (t':=s1.toks) kp,wT (by simp),⟨z0,z1,⟨_,_,z2⟩,Ik.new z3,Ik.new z4⟩,fun c hc=>?_,q1⟩;have le:s1.heap.objs.size<=c:=by
  simp only [ak,aU,or_false] at hc;rcases hc with rfl|rfl|rfl|rfl|rfl <;> first|exact aq _|exact Nat.le_add_right _ _
 exact I1.fpOk le (I1.hok.fresh le)
end ZP
namespace Dp
open PySem L2
variable{K:Frag}{f:Addr}{O O':List Addr}{H H':Hp}{X:Cx}{σ:St}{ss:SS}{a b:Expr}{ta tb tc:TEd}{tA tB:TTd}{pos:Pos}{c:Cs}
def wO:List D->List D->List D
 | x::l,y::m=>.tup [x,y]::wO l m
 | _,_=>[]
theorem rq:∀{l m:List D},(wO l m).length=min l.length m.length
 | [],_=>by simp [wO]
 | _::_,[]=>by simp [wO]
 | x::l,y::m=>by simp [wO,rq (l:=l) (m:=m)]
theorem vm:∀{l m:List D} {i:Nat} {x y:D},l[i]? = some x->m[i]? = some y->(wO l m)[i]? = some (.tup [x,y])
 | [],_,_,_,_,h,_=>by simp at h
 | _::_,[],_,_,_,_,h=>by simp at h
 | _::l,_::m,0,_,_,h,h'=>by cases h;cases h';rfl
 | _::l,_::m,i+1,_,_,h,h'=>by
  simp only [cK] at h h';exact vm (l:=l) (m:=m) h h'
theorem xJ{l m:List D}{i:Nat}{d:D}(h:(wO l m)[i]? = some d):∃ x y,l[i]? = some x/\m[i]? = some y/\d = .tup [x,y]:=by
 have hi:=(aj.mp h).1;rw [rq] at hi;have h1:i<l.length:=by omega
 have h2:i<m.length:=by omega
 refine⟨l[i],m[i],ac h1,ac h2,?_⟩;rw [vm (ac h1) (ac h2)] at h;exact (Option.some.inj h).symm
theorem Rp.seq{d:D}{v:V}{Q:List D->Prop}(r:Rp K f O H d v)(al:∀ b∈O,∃ xs,H b=some (.lst xs))(q:itemsD d Q):∃ l t p xs,Q l/\v = .ref p/\Rps K f O H l xs/\∀ H',Kp O H H'->ZP.Sq K t H' p xs:=by
 cases d <;> first|exact False.elim q|skip
 ·rename_i l;obtain⟨p,xs,rfl,h1,h2⟩:=r;exact⟨l,true,p,xs,q,rfl,h2,fun H' k=>h1.kp k al⟩
 ·rename_i l;obtain⟨p,xs,rfl,n,h1,h2⟩:=r;exact⟨l,false,p,xs,q,rfl,h2,fun H' k=>SqL.of (k p _ n h1)⟩
def nE(t u:TEd):TAd:=⟨fun ss Q=>t.run ss fun d=>u.run ss fun d'=>itemsD d fun l=>itemsD d' fun m=>Q (wO l m),fun h q=>t.mono (fun d q=>u.mono (fun d' q=>itemsD.mono (fun l q=>itemsD.mono (fun m q=>h _ q) q) q) q) q⟩
theorem nE.ok{es:List Expr}{kk:Nat}{ps p:Pos}(hg:Gl X "zip")(hm:X.mg "zip" = none)(ha:PE X a (LE X.K ta))(hb:PE X b (LE X.K tb))(hs:starEach [a,b] X.env=[(false,eval a X.env),(false,eval b X.env)])(hs2:starEach [b] X.env=[(false,eval b X.env)]) :
  PI X (.Tuple es kk ps) (.Call (.Name "zip" p) [a,b] [] pos) (LI X.K (nE ta tb)) :=
 (ZP.Gj (p:=p) (pos:=pos) hg hm (qo ha (qo hb pa_nil hs2) (by rw [hs,hs2])) hs hs2).weak fun σ H R ⟨f,O,ss,S,q⟩=>⟨f,O,ss,S,ta.mono (fun d q v H1 e r=>⟨f,O,ss,S.ex e,tb.mono (fun d' q v' H2 e2 r'=>by
  have S2:=(S.ex e).ex e2;obtain⟨l,t,p1,xs,q,rfl,hx,k1⟩:=((S.ex e).up e2 r).seq S2.al q;obtain⟨m,u,p2,ys,q,rfl,hy,k2⟩:=r'.seq S2.al q;refine⟨t,u,p1,p2,xs,ys,rfl,k1 H2 Kp.refl,k2 H2 Kp.refl,q _ H2 (e.trans e2) ⟨fun H' i k hi=>?_,fun O' H' i x H'' hO hf al k F hi y=>?_,fun H' k=>?_⟩⟩
  ·rw [rq] at hi;obtain⟨x,h1,_⟩:=hx.get (ac (show i<l.length by omega));obtain⟨y,h2,_⟩:=hy.get (ac (show i<m.length by omega));exact⟨xs,ys,x,y,k1 H' k,k2 H' k,h1,h2⟩
  ·rw [rq] at hi;have l1:i<l.length:=by omega
   have l2:i<m.length:=by omega
   obtain⟨p',x1,y1,rfl,hp,rfl,w1,w2⟩:=y;obtain⟨x,h1,r1⟩:=hx.get (ac l1);obtain⟨y,h2,r2⟩:=hy.get (ac l2);have z1:=w1 xs (k1 H' k);have z2:=w2 ys (k2 H' k);rw [h1] at z1;rw [h2] at z2;cases z1;cases z2;have mv:=(Ex.new F hp (.tup [x1,y1])).kp hf;exact⟨_,vm (ac l1) (ac l2),Ex.new F hp _,p',_,rfl,SqT.of qw,x1,_,rfl,(r1.moved hO k S2.al).kp mv al,y1,[],rfl,(r2.moved hO k S2.al).kp mv al,rfl⟩
  ·rw [rq];refine⟨xs,ys,k1 H' k,k2 H' k,?_⟩;rw [hx.len,hy.len];omega) q⟩) q⟩
mutual
def D.lf:D->Bool
 | .tup ds=>D.lfs ds
 | .lst _=>false | .fl=>false
 | .exn _ _ ds=>D.lfs ds
 | .dct _ ds=>D.lfs ds
 | .int _=>true | .str _=>true | .non=>true | .bl _=>true
def D.lfs:List D->Bool
 | []=>true
 | d::ds=>d.lf && D.lfs ds
end
mutual
theorem Rp.any:∀{d:D} {v:V},d.lf=true->Rp K f O H d v->Rp K f O' H d v
 | .non,_,_,h=>h
 | .bl _,_,_,h=>h
 | .int _,_,_,h=>h
 | .str _,_,_,h=>h
 | .fl,_,z,_=>by cases z
 | .lst _,_,z,_=>by cases z
 | .tup l,v,z,h=>by
  obtain⟨a,xs,e1,h1,h2⟩:=h;exact⟨a,xs,e1,h1,Rps.any z h2⟩
 | .exn C x l,v,z,h=>by
  obtain⟨a,us,e1,h1,h2⟩:=h;exact⟨a,us,e1,h1,Rps.any z h2⟩
 | .dct ks l,v,z,h=>by
  obtain⟨a,us,e1,h1,h2,h3⟩:=h;exact⟨a,us,e1,h1,h2,Rps.any z h3⟩
theorem Rps.any:∀{ds:List D} {vs:List V},D.lfs ds=true->Rps K f O H ds vs->Rps K f O' H ds vs
 | [],_,_,h=>h
 | d::ds,_,z,h=>by
  have z:=au.mp (show (d.lf && D.lfs ds)=true from z);obtain⟨v,r,e1,h1,h2⟩:=h;exact⟨v,r,e1,Rp.any z.1 h1,Rps.any z.2 h2⟩
end
end Dp
set_option maxHeartbeats 1000000
set_option maxHeartbeats 1000000
set_option maxHeartbeats 1000000
set_option maxHeartbeats 1000000
namespace Dp
open PySem L2
variable{K:Frag}{f:Addr}{O O':List Addr}{H H':Hp}{X:Cx}{σ:St}{ss:SS}{pos:Pos}
structure TGsd where
 tg:List Nat
 run:List D->SS->(SS->Prop)->Prop
 mono:∀{l:List D} {ss:SS} {Q Q':SS->Prop},(∀ s,Q s->Q' s)->run l ss Q->run l ss Q'
def gsNil:TGsd:=⟨[],fun l ss Q=>l=[]/\Q ss,fun h q=>⟨q.1,h _ q.2⟩⟩
def gsCons(g:TGd)(r:TGsd):TGsd:=⟨g.tg++r.tg,fun l ss Q=>∃ d l',l=d::l'/\g.run d ss fun s1=>r.run l' s1 Q,fun h ⟨d,l',e,q⟩=>⟨d,l',e,g.mono (fun _ q=>r.mono h q) q⟩⟩
def gQ(r:TGsd)(n:Nat):TGd:=⟨r.tg,fun d ss Q=>match d with | .tup l=>l.length=n/\r.run l ss Q|_=>False,fun {d ss Q Q'} h q=>by
 revert q;cases d <;> first|exact id|exact fun q=>⟨q.1,r.mono h q.2⟩⟩
def JE(K:Frag)(r:TGsd):ER:=fun vs σ H Q=>∃ f O ss l,SlD K f O σ H ss/\Rps K f O H l vs/\r.run l ss fun ss'=>∀ σ' H',Ex f H H'->SlD K f O σ' H' ss'->Sub σ ss σ' ss'->Agr r.tg σ σ'->Q σ' H'
theorem Agr.up{T T':List Nat}{σ':St}(a:Agr T σ σ')(h:∀ i∈T,i∈T'):Agr T' σ σ':=⟨a.1,fun j n=>a.2 j fun z=>n (h j z)⟩
theorem gsNil.ok:ES X [] (JE X.K gsNil):=fun pins s σ H vs us Q I r ⟨f,O,ss,l,S,rp,el,q⟩=>by
 subst el;exact An pins s σ H vs us Q I r ⟨rp,q σ H (Ex.refl S.fl) S Sub.refl Agr.refl⟩
theorem gsCons.ok{e:Expr}{es:List Expr}{g:TGd}{r:TGsd}(h1:PG X e (LG X.K g))(h2:ES X es (JE X.K r))(hs:(assignEach (e::es) X.env).map (·.2)=assign e X.env::(assignEach es X.env).map (·.2)):ES X (e::es) (JE X.K (gsCons g r)):=fun pins s σ H vs us Q I rv ⟨f,O,ss,l,S,rp,d,l',el,q⟩=>by
 subst el;obtain⟨v,vs',rfl,r1,r2⟩:=rp;refine xT h1 h2 hs pins s σ H _ us Q I rv ⟨v,vs',rfl,f,O,ss,d,S,r1,g.mono (fun s1 q σ1 H1 e1 S1 sb ag=>⟨f,O,s1,l',S1,S.ups e1 r2,r.mono (fun s2 q σ2 H2 e2 S2 sb2 ag2=>?_) q⟩) q⟩;exact q σ2 H2 (e1.trans e2) S2 (sb.trans sb2) ((ag.up fun i h=>cx _ h).trans (ag2.up fun i h=>aQ _ h))
theorem gQ.ok{r:TGsd}{n:Nat}{e:Expr}(h:PG X e (GX X.K n (JE X.K r))):PG X e (LG X.K (gQ r n)):=h.weak fun v σ H Q ⟨f,O,ss,d,S,rp,q⟩=>by
 cases d <;> first|exact False.elim q|skip
 rename_i l;obtain⟨p,xs,rfl,h1,h2⟩:=rp;exact⟨p,xs,rfl,h1,h2.len.trans q.1,f,O,ss,l,S,h2,q.2⟩
end Dp
namespace Dp
open PySem L2
variable{K:Frag}{X:Cx}{T:Tc}{pos p p2:Pos}{a b e:Expr}{E:FE}{F:FT}
theorem _root_.L2.PTs.weak{es:List Expr}{t t':TT}(h:PTs X es t)(w:∀ σ H Q,t' σ H Q->t σ H Q):PTs X es t':=fun pins s σ H Q I q=>h pins s σ H Q I (w σ H Q q)
end Dp
namespace Dp
open PySem L2
variable{P:Program}{w:World}{K:Frag}{mg:Str->Option Value}{base:Heap}
def vt(K:Frag):Sp:=fun vs H Q _=>∃(a:Addr) (ns:List Int),vs=[.ref a]/\SqL K H a (ns.map V.int)/\ns.length<=63/\∀ f H',Same H H'->Fl H' f->H f=none->Q (.ref f) H'
def wX:Sp:=fun vs H Q _=>∃(f:Addr) (m:Int),vs=[.ref f,.int m]/\Fl H f/\0<m/\Lt2 9000 m/\∀ d H',0<=d->d<m->Fl H' f->Sm f H H'->Q (.int d) H'
def Ab(K:Frag):Sp:=fun vs H Q _=>∃(a:Addr) (ns:List Int),vs=[.ref a]/\SqL K H a (ns.map V.int)/\ns.length<=63/\∀ H',Q (.bl true) H'
def gn:SpB:=.of 2 (α:=Int) (fun m ds=>ds=[.fl,.int m]/\0<m/\Lt2 9000 m) (fun m d=>∃ i,d = .int i/\0<=i/\i<m)
theorem A4{k:Nat}{ps:List Str}(g:Def P w K mg base "_law_pick" k ps wX):Def P w K mg base "_law_pick" k ps (yA K gn.n gn.run):=by
 obtain⟨f,fd,F,r⟩:=g.ex;refine⟨f,fd,F.imp (fun vs H Q E h=>?_),r⟩;obtain⟨hn,f,O,ds,fl,fO,al,lO,rp,m,⟨rfl,m0,m1⟩,q⟩:=h;obtain⟨v,v',rfl,e1,e2⟩:=Rps.two rp;cases (show v=_ from e1);cases (show v'=_ from e2);exact⟨f,m,rfl,fl,m0,m1,fun d H' d0 d1 fl' sm=>q (.int d) ⟨d,rfl,d0,d1⟩ _ H' ⟨sm,fl'⟩ rfl⟩
end Dp
namespace Ca
open Cv
def rv(a:Nat)(f:Nat->Int):Nat->Int:=fun j=>if j<=a then f (a-j) else 0
theorem Fx{f g:Nat->Int}{a b i:Nat}(hf:∀ j,a<j->f j=0)(hg:∀ j,b<j->g j=0)(hi:i<=a+b):cv f g (a+b-i)=cv (rv a f) (rv b g) i:=by
 have h1:tm f g (a+1) (a+b-i)=cv f g (a+b-i):=tM fun j hj=>hf j (by omega);have h2:tm (rv a f) (rv b g) (a+1) i=cv (rv a f) (rv b g) i:=tM fun j hj=>if_neg (by omega);rw [← h1,← h2];unfold tm;rw [BM (fun j=>if j<=i then rv a f j*rv b g (i-j) else 0)];refine qA fun j hj=>?_;show (if j<=a+b-i then f j*g (a+b-i-j) else 0)=if a+1-1-j<=i then rv a f (a+1-1-j)*rv b g (i-(a+1-1-j)) else 0;have e1:rv a f (a+1-1-j)=f j:=by
  unfold rv;rw [if_pos (by omega),show a-(a+1-1-j)=j by omega]
 rw [e1];by_cases c:a+1-1-j<=i
 ·rw [if_pos c];unfold rv;by_cases d:i-(a+1-1-j)<=b
  ·rw [if_pos d,if_pos (by omega),show b-(i-(a+1-1-j))=a+b-i-j by omega]
  ·rw [if_neg d,if_neg (by omega),bF]
 ·rw [if_neg c,hg (a+b-i-j) (by omega),bF];split <;> rfl
theorem yN{f:Nat->Int}{s:Nat}(hf:∀ j,s<j->f j=0):∀ k j,k*s<j->pw f k j=0
 | 0,j,h=>if_neg (by omega)
 | k+1,j,h=>by
  rw [bq] at h;exact rj (a:=k*s+1) (b:=s+1) (fun i hi=>yN hf k i (by omega)) (fun i hi=>hf i (by omega)) (by omega)
theorem Cb{f:Nat->Int}{s:Nat}(hf:∀ j,s<j->f j=0):∀ k i,i<=k*s->pw f k (k*s-i)=pw (rv s f) k i
 | 0,i,h=>by
  rw [show i=0 by omega];show pw f 0 (0*s-0)=_;rw [cS];rfl
 | k+1,i,h=>by
  show cv (pw f k) f ((k+1)*s-i)=cv (pw (rv s f) k) (rv s f) i;rw [bq] at h ⊢;rw [Fx (fun j hj=>yN hf k j hj) hf h];refine wE (fun j hj=>?_) fun _ _=>rfl;unfold rv;by_cases c:j<=k*s
  ·rw [if_pos c];exact Cb hf k j c
  ·rw [if_neg c];exact (yN (s:=s) (fun j hj=>if_neg (by omega)) k j (by omega)).symm
theorem E8{f g:Nat->Int}{n:Nat}(h:∀ j,j<=n->f j=g j):∀ k j,j<=n->pw f k j=pw g k j
 | 0,_,_=>rfl
 | k+1,j,hj=>wE (fun i hi=>E8 h k i (by omega)) fun i hi=>h i (by omega)
theorem Cd(f:Nat->Int)(c:Int):∀ k j,pw (fun i=>f i*c^i) k j=pw f k j*c^j
 | 0,j=>by
  show (if j=0 then (1:Int) else 0)=(if j=0 then 1 else 0)*c^j;split
  ·rw [‹j=0›,bc,bo]
  ·rw [ax]
 | k+1,j=>by
  show cv (pw (fun i=>f i*c^i) k) (fun i=>f i*c^i) j=cv (pw f k) f j*c^j;unfold cv;rw [← sW];refine qA fun i hi=>?_;rw [Cd f c k i];have:c^j=c^i*c^(j-i):=by rw [← de,show i+(j-i)=j by omega]
  rw [this];grind
theorem B7(f:Nat->Int)(c:Int):∀ k j,pw (fun i=>f i*c) k j=pw f k j*c^k
 | 0,j=>by rw [bc,bo];rfl
 | k+1,j=>by
  show cv (pw (fun i=>f i*c) k) (fun i=>f i*c) j=cv (pw f k) f j*c^(k+1);unfold cv;rw [← sW];refine qA fun i hi=>?_;rw [B7 f c k i,bC];grind
end Ca
namespace Ca
open Cv
theorem Ce(g:Nat->Int):∀ k,pw g k=Pc.cp g k
 | 0=>rfl
 | k+1=>by show cv (pw g k) g=_;rw [Ce g k];rfl
theorem yq{R E:List Int}(hE:∀ j,0<j->E.getD j 0=0)(j:Nat):cv (fn R) (fn E) j=R.getD j 0*E.getD 0 0:=by
 rw [rP];have:tm (fn E) (fn R) 1 j=cv (fn E) (fn R) j:=tM fun i hi=>hE i (by omega);rw [← this];show sm _ 1=_;rw [sm,sm,if_pos (aI _),ce,bE,bv];rfl
end Ca
namespace Pc
open Cv
theorem Dd{f g:Nat->Int}{a b:Nat}(hf:∀ j,a<j->f j=0)(hg:∀ j,b<j->g j=0):cv f g (a+b)=f a*g b:=by
 have:=Ca.Fx (i:=0) hf hg (aI _);rw [bE,Ca.zw] at this;rw [this];unfold Ca.rv;rw [if_pos (aI _),if_pos (aI _),bE,bE]
theorem xv{g:Nat->Int}{d:Nat}(hg:∀ j,d<j->g j=0):∀ n,cp g n (n*d)=g d^n
 | 0=>by rw [cS,bc];rfl
 | n+1=>by
  rw [bq];show cv (cp g n) g (n*d+d)=_;rw [Dd (fun j hj=>ve (m:=d+1) (fun k hk=>hg k (by omega)) n j (by show n*d+1<=j;omega)) hg,xv hg n,bC]
theorem Of.deg_eq{P G R:List Int}{B U C:Int}(hB:0<B)(hU:0<U)(h:Of P B G U R C){n d:Nat}(lp:P.length=n+1)(lg:G.length=d+1)(d1:1<=d)(tp:P.getD n 0≠0)(tg:G.getD d 0≠0):R.length=n*d+1:=by
 have up:=h.deg hB hU;rw [lp,lg] at up;have up':R.length<=n*d+1:=up;rcases aP (n*d) R.length with c|c
 ·omega
 ·exfalso;have e:=h.2 (n*d);have z:R.getD (n*d) 0=0:=by
   rw [ah,aS c];rfl
  rw [z,ax,lp] at e;have hg:∀ k,d<k->fn G k=0:=fun k hk=>qr (by omega);have p0:pc (fn P) (fn G) U n (n*d)=0:=by
   cases n with
   | zero=>rfl
   | succ n=>exact xc (m:=d+1) (fun k hk=>hg k (by omega)) (n+1) _ (by show n*d+1<=(n+1)*d;rw [bq];omega)
  have e2:pc (fn P) (fn G) U (n+1) (n*d)=fn P n*fn G d^n*U:=by
   show (pc (fn P) (fn G) U n (n*d)+fn P n*cp (fn G) n (n*d))*U=_;rw [p0,ce,xv hg]
  rw [e2] at e;have c0:=h.1.pos;have:fn P n*fn G d^n*U*C≠0:=ca (ca (ca tp (bV tg)) (ao hU)) (ao c0);exact this e.symm
end Pc
namespace Dp
open PySem L2
def pD(P:List Int)(B:Int):D:=.tup [.tup (P.map .int),.int B]
def fD(t b:Int):D:=.tup [.int t,.int b]
theorem qW:2<=sizeLine:=by rw [sizeLine_eq];decide
theorem rZ:1<=sizeLine:=by rw [sizeLine_eq];decide
theorem FO:0<=sizeLine:=aI _
theorem rE{n:Nat}(h:n<=16777216):n<=sizeLine:=by rw [sizeLine_eq];exact h
theorem K8{c:Bool}{A B:Prop}(h1:c=true->A)(h2:c=false->B):if c=true then A else B:=by
 cases c
 ·exact h2 rfl
 ·exact h1 rfl
theorem sS{p:Prop}[Decidable p]{A B:Prop}(h1:p->A)(h2:¬ p->B):if decide p=true then A else B:=by
 by_cases c:p
 ·rw [if_pos (decide_eq_true c)];exact h1 c
 ·rw [if_neg (by simpa using c)];exact h2 c
theorem GR{p:Prop}[Decidable p]{A B:Prop}(h1:¬ p->A)(h2:p->B):if (!decide p)=true then A else B:=by
 by_cases c:p
 ·rw [if_neg (by simpa using c)];exact h2 c
 ·rw [if_pos (by simpa using c)];exact h1 c
theorem rO{α:Type}{fs:List α}{i:Nat}{f d:α}(h:fs[i]? = some f):fs.getD i d=f:=by
 rw [ah,h];rfl
theorem qp{α:Type}{fs:List α}{i:Nat}{d:α}(h:fs.length<=i):fs.getD i d=d:=by
 rw [ah,aS h];rfl
theorem xr{ts:List Int}{i:Nat}{x:D}(h:(ts.map D.int)[i]? = some x):i<ts.length/\x = .int (ts.getD i 0):=by
 rw [aw] at h;obtain⟨z,hz,rfl⟩:=ab.mp h;rw [rO hz];exact⟨(aj.mp hz).1,rfl⟩
theorem rJ{ts:List Int}{i:Nat}(h:i<ts.length):(ts.map D.int)[i]? = some (.int (ts.getD i 0)):=by
 rw [aw,ah,ac h];rfl
theorem rQ{ts:List Int}{i:Nat}(h:i<ts.length):ts.take (i+1)=ts.take i++[ts.getD i 0]:=by
 rw [List.take_succ_eq_append_getElem h,ah,ac h];rfl
theorem AE(b:Nat)(ts:List Int)(t:Int):Po.gl b (ts++[t])=Nat.gcd (Po.gl b ts) t.natAbs:=by
 unfold Po.gl;rw [fB];rfl
theorem EO{α:Type}(xs:List α)(x:α):vg (xs++[x]) (-1)=some x:=by
 unfold vg yc;rw [if_neg (by omega),if_pos (by rw [ai];simp;omega)];show (xs++[x])[(-1+((xs++[x]).length:Int)).toNat]? = _;rw [ai,aT (by simp;omega)];have:(-1+((xs.length+[x].length:Nat):Int)).toNat-xs.length=0:=by simp;omega
 rw [this];rfl
theorem qM{l:List D}{n:Nat}{d:D}{Q:D->Prop}(h:l[n]? = some d)(q:Q d):itD l (n:Int) Q:=by
 unfold itD;rw [vf h];exact q
theorem t7{l:List D}{i:Int}{d:D}{Q:D->Prop}(h:vg l i=some d)(q:Q d):itD l i Q:=by
 unfold itD;rw [h];exact q
def mI{α:Type}(F:α->Int)(ts:List α):Nat->List D->Prop:=fun i ys=>ys=((ts.take i).map F).map D.int
theorem mI.nil{α:Type}{F:α->Int}{ts:List α}:mI F ts 0 []:=rfl
theorem mI.snoc{α:Type}{F:α->Int}{ts:List α}{i:Nat}{ys:List D}{t:α}{z:Int}(h:mI F ts i ys)(ht:ts[i]? = some t)(hz:z=F t):mI F ts (i+1) (ys++[.int z]):=by
 unfold mI at h ⊢;rw [h,hz,fv,ht,aR,aR];rfl
theorem mI.all{α:Type}{F:α->Int}{ts:List α}{n:Nat}{ys:List D}(h:mI F ts n ys)(hn:n=ts.length):ys=(ts.map F).map D.int:=by
 unfold mI at h;rw [h,hn,bN]
theorem ur{ts:List Int}{i:Nat}{x:D}(h:(ts.map D.int)[i]? = some x):∃ z,ts[i]? = some z/\x = .int z:=by
 rw [aw] at h;obtain⟨z,hz,rfl⟩:=ab.mp h;exact⟨z,hz,rfl⟩
def mK:TSd:=(dSq (iz (gx (gD .NotEq (gk 1) (dC (.int 0))))
 (i5 [] 0 1 (gk 1) (gr .Mod (gk 0) (gk 1))))
 (gz [] (dB bAbs bAbs.mono (gj (gk 0) gm))))
def iH:SpB:=.of 2 (α:=Int×Int) (fun x ds=>ds=[.int x.1,.int x.2]) (fun x d=>d = .int (Fr.cp x.1 x.2))
theorem zU(x:Int):(if x<0 then -x else x)=((x.natAbs:Nat):Int):=by split <;> omega
theorem kz:Does 2 mK iH:=by
 rintro ds Q hn ⟨⟨a,b⟩,rfl,q⟩;refine⟨fun s=>∃ a' b':Int,s=[.val (.int a'),.val (.int b')]/\Int.gcd a' b'=Int.gcd a b,fun s=>match s with|[_,.val (.int b')]=>b'.natAbs|_=>0,⟨a,b,rfl,rfl⟩,?_⟩;rintro _ ⟨a',b',rfl,hg⟩;refine GR (p:=b'=0) (fun c=>?_) (fun c=>?_)
 ·exact⟨c,⟨b',a'.fmod b',rfl,by rw [Fr.CZ];exact hg⟩,Fr.AH a' b' c⟩
 ·subst c;refine q _ ?_;show D.int (if a'<0 then -a' else a') = .int (Fr.cp a b);unfold Fr.cp;rw [zU,← hg,Int.gcd_zero_right]
def lY:TSd:=(dSq (i5 [] 0 1 (dB bAbs bAbs.mono (gj (gk 0) gm)) (dB bAbs bAbs.mono (gj (gk 1) gm)))
 (dSq (iz (iP (gk 1))
 (i5 [] 0 1 (gk 1) (gr .Mod (gk 0) (gk 1))))
 (gz [] (gk 0))))
def hZ:SpB:=.of 2 (α:=Int×Int) (fun x ds=>ds=[.int x.1,.int x.2]) (fun x d=>d = .int (Fr.cp x.1 x.2))
theorem j7:Does 2 lY hZ:=by
 rintro ds Q hn ⟨⟨a,b⟩,rfl,q⟩;show (dSq (iz _ _) _).run _ [.val (.int (if a<0 then -a else a)),.val (.int (if b<0 then -b else b))];rw [zU,zU];refine⟨fun s=>∃ a' b':Nat,s=[.val (.int a'),.val (.int b')]/\Nat.gcd a' b'=Int.gcd a b,fun s=>match s with|[_,.val (.int b')]=>b'.natAbs|_=>0,⟨a.natAbs,b.natAbs,rfl,rfl⟩,?_⟩;rintro _ ⟨a',b',rfl,hg⟩;refine K8 (c:=((b':Int) != 0)) (fun c=>?_) (fun c=>?_)
 ·have c':b'≠0:=by
   intro z;subst z;simp at c
  refine⟨by omega,⟨b',a'%b',?_,by rw [Nat.gcd_comm,← Nat.gcd_rec,Nat.gcd_comm];exact hg⟩,?_⟩
  ·show [SD.val (.int b'),.val (.int ((a':Int).fmod b'))]=_;rw [cy _ (by omega)];rfl
  ·show ((a':Int).fmod b').natAbs<(b':Int).natAbs;exact Fr.AH _ _ (by omega)
 ·have c':b'=0:=by
   have:((b':Int)=0):=by simpa using c
   omega
  subst c';refine q _ ?_;show D.int a' = .int (Fr.cp a b);unfold Fr.cp;rw [← hg,Nat.gcd_zero_right]
def kY:TSd:=(dSq (gB [] (gNm 2) (gq iH (gj (gk 0) (gj (gk 1) gm))))
 (dSq (dIf [] (gx (gD .Lt (gk 1) (dC (.int 0))))
 (gB [] (gNm 2) (gr .Sub (dC (.int 0)) (gk 2)))
 gC)
 (gz [] (gw (gj (gr .FloorDiv (gk 0) (gk 2)) (gj (gr .FloorDiv (gk 1) (gk 2)) gm))))))
def gI:SpB:=.of 2 (α:=Int×Int) (fun x ds=>ds=[.int x.1,.int x.2]/\x.2≠0/\Lt2 9000000 x.2) (fun x d=>d=fD (Fr.top x.1 x.2) (Fr.bot x.1 x.2))
theorem jK:Does 3 kY gI:=by
 rintro ds Q hn ⟨⟨a,b⟩,⟨rfl,h0,hl⟩,q⟩;refine⟨rfl,(a,b),rfl,?_⟩;rintro _ rfl;have fin:∀ p:Int,p=Fr.part a b->sB a p/\sB b p/\2<=sizeLine/\Q (.tup [.int (a.fdiv p),.int (b.fdiv p)]):=by
  rintro p rfl;have c:∀ x,sB x (Fr.part a b):=fun x=>⟨Fr.Aq h0,9000000,hl.le (Fr.Ar h0),by decide⟩;exact⟨c _,c _,qW,q _ rfl⟩
 refine sS (p:=b<0) (fun c=>?_) (fun c=>?_)
 ·exact fin _ (by unfold Fr.part;rw [if_pos c];simp)
 ·exact fin _ (by unfold Fr.part;rw [if_neg c])
theorem yo{ts:List Int}{k:Nat}(h:k<ts.length):(((ts.take (k+1)).map D.int)).dropLast=(ts.take k).map D.int:=by
 rw [rQ h,aR];exact List.dropLast_concat
theorem dSq.cut{t u:TSd}{E:EndsD}{ss:SS}(R:SS->Prop)(h1:t.run (E.to R) ss)(h2:∀ s,R s->u.run E s):(dSq t u).run E ss:=t.mono (E:=E.to R) (E':=E.to (u.run E)) ⟨h2,fun _ z=>z,fun _ z=>z,fun _ z=>z⟩ h1
def mL:TSd:=(gz [0] (gw (gj (dB bTuple bTuple.mono (gj (gL (gU (gk 0)) [3] (gNm 3) hJ (gr .FloorDiv (gk 3) (gk 2))) gm)) (gj (gr .FloorDiv (gk 1) (gk 2)) gm))))
def mM:TSd:=dSq (iA [0] (gU (gk 0)) (gNm 3)
 (gB [] (gNm 2) (gq iH (gj (gk 2) (gj (gk 3) gm)))))
 mL
def mN:TSd:=dSq (gB [] (gNm 2) (gk 1))
 mM
def jL:TSd:=dSq (iz (i4 (gx (gD .Gt (mx 0) (dC (.int 0)))) (gx (gD .Eq (kT 0 (iW (dC (.int 1)))) (dC (.int 0)))))
 (oD 0))
 mN
def nF:TSd:=dSq (kW [0] 0 (jf (gk 0)))
 jL
def gu:SpB:=.of 2 (α:=List Int×Int) (fun x ds=>(ds=[.lst (x.1.map .int),.int x.2]\/ds=[.tup (x.1.map .int),.int x.2])/\0<x.2/\Lt2 9000000 x.2/\x.1.length<=1000)
 (fun x d=>∃ P B,d=pD P B/\Po.Fm P B/\(∀ k,P.getD k 0*x.2=x.1.getD k 0*B)/\P.length<=x.1.length)
theorem lZ:Does 4 nF gu:=by
 rintro ds Q hn ⟨⟨ts,b⟩,⟨hd,hb,hl,hz⟩,q⟩;dsimp only at hd hb hl hz q;have sl:(1000:Nat)<=sizeLine:=by rw [sizeLine_eq];decide
 suffices h:jL.run (qt Q) [.own (ts.map .int),.val (.int b),.no,.no] by
  rcases hd with rfl|rfl
  ·exact h
  ·exact h
 refine dSq.cut (fun s=>∃ m:Nat,s=[.own ((ts.take m).map .int),.val (.int b),.no,.no]/\m<=ts.length/\(∀ j,m<=j->ts.getD j 0=0)/\(m=0\/ts.getD (m-1) 0≠0)) ?_ ?_
 rotate_left
 ·rintro _ ⟨m,rfl,hm,h0,hlast⟩;obtain⟨fm,wr⟩:=Po.form hb hm h0 hlast;have bn:((b.natAbs:Nat):Int)=b:=by omega
  refine⟨fun i s=>∃ o,s=[.val (.lst ((ts.take m).map .int)),.val (.int b),.val (.int ((Po.gl b.natAbs ((ts.take m).take i):Nat):Int)),o],⟨.no,?_⟩,?_,?_⟩
  ·show [SD.val _,.val (.int b),.val (.int b),.no]=[SD.val _,.val (.int b),.val (.int ((b.natAbs:Nat):Int)),.no];rw [bn]
  ·rintro i d s hd ⟨o,rfl⟩;obtain⟨hi,rfl⟩:=xr hd;refine⟨rfl,(_,_),rfl,?_⟩;rintro _ rfl;refine⟨.val (.int ((ts.take m).getD i 0)),?_⟩;rw [rQ hi,AE];rfl
  ·rintro s ⟨o,rfl⟩;rw [aa,bN];have g0:0<Po.gl b.natAbs (ts.take m):=Po.zf (by omega) _;have gle:Po.gl b.natAbs (ts.take m)<=b.natAbs:=dh (by omega) (Po.vM _ _).1;generalize Po.gl b.natAbs (ts.take m)=g at *;have cd:∀ x:Int,sB x (g:Int):=fun x=>⟨by omega,9000000,hl.le (by rw [bP];exact gle),by decide⟩;refine⟨by rw [aa,aD];omega,mI (fun z=>z.fdiv (g:Int)) (ts.take m),mI.nil,fun i d ys hd _ hy=>?_,fun ys _ hy=>?_⟩
   ·obtain⟨z,hz,rfl⟩:=ur hd;exact⟨cd _,hy.snoc hz rfl⟩
   ·cases hy.all (by rw [aa]);exact⟨cd _,qW,q _ ⟨_,_,rfl,fm,wr,by rw [aa,aD];omega⟩⟩
 ·refine⟨fun s=>∃ m:Nat,s=[.own ((ts.take m).map .int),.val (.int b),.no,.no]/\m<=ts.length/\∀ j,m<=j->ts.getD j 0=0,fun s=>match s with | .own l::_=>l.length|_=>0,⟨ts.length,by rw [bN],aq _,fun j hj=>qp hj⟩,?_⟩;rintro _ ⟨m,rfl,hm,h0⟩;have lm:((ts.take m).map D.int).length=m:=by rw [aa,aD];omega
  refine sS (p:=(0:Int)<(((ts.take m).map D.int).length:Nat)) (fun c=>?_) (fun c=>?_)
  ·rw [lm] at c;obtain⟨k,rfl⟩:∃ k,m=k+1:=⟨m-1,by omega⟩;have hk:k<ts.length:=by omega
   have la:vg ((ts.take (k+1)).map D.int) (-1)=some (.int (ts.getD k 0)):=by
    rw [rQ hk,aR];exact EO _ _
   refine t7 la (sS (p:=ts.getD k 0=0) (fun z=>?_) (fun z=>?_))
   ·refine⟨fun e=>?_,⟨k,?_,by omega,fun j hj=>?_⟩,?_⟩
    ·rw [e] at lm;cases lm
    ·show [SD.own _,_,_,_]=_;rw [yo hk]
    ·rcases bO hj with w|w
     ·rw [← w];exact z
     ·exact h0 j w
    ·show (((ts.take (k+1)).map D.int)).dropLast.length<((ts.take (k+1)).map D.int).length;rw [yo hk,lm,aa,aD];omega
   ·exact⟨k+1,rfl,hm,h0,.inr z⟩
  ·rw [lm] at c;exact⟨m,rfl,hm,h0,.inl (by omega)⟩
theorem ue{ts:List Int}{i k:Nat}{z:Int}(h:i<ts.length):(ts.set i z).getD k 0=if k=i then z else ts.getD k 0:=by
 rw [ah,ah,aN];by_cases e:i=k
 ·subst e;rw [if_pos rfl,if_pos h,if_pos rfl];rfl
 ·rw [if_neg e,if_neg (Ne.symm e)]
theorem map_set{ts:List Int}{i:Nat}{z:Int}:(ts.map D.int).set i (.int z)=(ts.set i z).map D.int:=by
 rw [List.map_set]
theorem wg{ts:List Int}{i k:Nat}(h:i<ts.length):(ts.take (i+1)).getD k 0=(ts.take i).getD k 0+(if k=i then ts.getD i 0 else 0):=by
 rw [rQ h];by_cases e:k=i
 ·subst e;rw [if_pos rfl,qp (fs:=ts.take k) (by rw [aD];omega)];have:(ts.take k++[ts.getD k 0]).getD k 0=ts.getD k 0:=rO (by rw [aT (by rw [aD];omega),aD,dE (by omega),bW];rfl);rw [this,ce]
 ·rw [if_neg e,bL,← rQ h,ah,ah,fj,fj];by_cases c:k<i
  ·rw [if_pos c,if_pos (by omega)]
  ·rw [if_neg c,if_neg (by omega)]
theorem qO(n:Nat):(List.replicate n [D.int 0]).flatten=(List.replicate n (0:Int)).map D.int:=by
 induction n with
 | zero=>rfl
 | succ n ih=>rw [bu,bR,ih,bu];rfl
theorem vD(n k:Nat):(List.replicate n (0:Int)).getD k 0=0:=by
 rw [ah,dl];split <;> rfl
theorem sJ{ts:List Int}{i:Nat}{d:D}(h:(tX (ts.map D.int))[i]? = some d):i<ts.length/\d = .tup [.int (i:Nat),.int (ts.getD i 0)]:=by
 obtain⟨x,hx,rfl⟩:=wD h;obtain⟨hi,rfl⟩:=xr hx;exact⟨hi,rfl⟩
theorem xI{l:List D}{n:Nat}{Q:Nat->Prop}(h:n<l.length)(q:Q n):atD l (.int (n:Nat)) Q:=by
 unfold atD;dsimp only;have:yc l.length (n:Int)=some n:=by
  unfold yc;rw [if_pos (by omega),if_pos (by omega)];rfl
 rw [this];exact q
def m6:TSd:=(gz [3] (gq gu (gj (gk 3) (gj (gr .Mult (dIx (gk 0) (dC (.int 1))) (dIx (gk 1) (dC (.int 1)))) gm))))
def m7:TSd:=dSq (iA [] (iE (dIx (gk 1) (dC (.int 0)))) (gTp [4,5])
 (ku [] 3 (gk 4) (gr .Add (kT 3 (gk 4)) (gr .Mult (gk 5) (dIx (gk 0) (dC (.int 1)))))))
 m6
def i6:TSd:=dSq (iA [] (iE (dIx (gk 0) (dC (.int 0)))) (gTp [4,5])
 (ku [] 3 (gk 4) (gr .Add (kT 3 (gk 4)) (gr .Mult (gk 5) (dIx (gk 1) (dC (.int 1)))))))
 m7
def i7:TSd:=dSq (kW [] 3 (gr .Mult (gE (gj (dC (.int 0)) gm)) (gk 2)))
 i6
def oj:TSd:=dSq (gB [] (gNm 2) (dB bMax bMax.mono (gj (dB bLen bLen.mono (gj (dIx (gk 0) (dC (.int 0))) gm)) (gj (dB bLen bLen.mono (gj (dIx (gk 1) (dC (.int 0))) gm)) gm))))
 i7
def gA:SpB:=.of 2 (α:=List Int×Int×List Int×Int×Nat×Nat×Nat×Nat) (fun (P,B,P',B',n,b,m,c) ds=>ds=[pD P B,pD P' B']/\Pc.Pz n b P B/\Pc.Pz m c P' B'/\b+c<=9000000/\n+m<=9000000/\P.length<=900/\P'.length<=900)
 (fun (P,B,P',B',n,b,m,c) d=>∃ R C,d=pD R C/\Po.Fm R C/\∀ k,R.getD k 0*(B*B')=(P.getD k 0*B'+P'.getD k 0*B)*C)
theorem mO:Does 6 oj gA:=by
 rintro ds Q hn ⟨⟨P,B,P',B',n,b,m,c⟩,⟨rfl,G1,G2,hb,hm,l1,l2⟩,q⟩;dsimp only at G1 G2 hb hm l1 l2 q;have sl:(1000:Nat)<=sizeLine:=by rw [sizeLine_eq];decide
 have p1:=G1.fm.pos;have p2:=G2.fm.pos;obtain⟨M,hM⟩:∃ M:Nat,M=max P.length P'.length:=⟨_,rfl⟩;have lb1:=G1.bot;have lb2:=G2.bot;suffices h:i6.run (qt Q) [.val (pD P B),.val (pD P' B'),.val (.int M),.own ((List.replicate M (0:Int)).map .int),.no,.no] by
  have e0:(if ((P'.map D.int).length:Int) > ((P.map D.int).length:Nat) then ((P'.map D.int).length:Int) else ((P.map D.int).length:Nat))=(M:Nat):=by
   rw [aa,aa];split <;> omega
  suffices h1:i7.run (qt Q) [.val (pD P B),.val (pD P' B'),.val (.int M),.no,.no,.no] by
   show i7.run (qt Q) [.val (pD P B),.val (pD P' B'),.val (.int (if ((P'.map D.int).length:Int) > ((P.map D.int).length:Nat) then ((P'.map D.int).length:Int) else ((P.map D.int).length:Nat))),.no,.no,.no];rw [e0];exact h1
  refine⟨by rw [sizeLine_eq];decide,by omega,by omega,by show 1*M<=_;omega,?_⟩;show i6.run (qt Q) [.val (pD P B),.val (pD P' B'),.val (.int M),.own (List.replicate M [D.int 0]).flatten,.no,.no];rw [qO];exact h
 refine⟨fun i s=>∃ F:List Int,∃ o o':SD,s=[.val (pD P B),.val (pD P' B'),.val (.int M),.own (F.map .int),o,o']/\F.length=M/\∀ k,F.getD k 0=(P.take i).getD k 0*B',⟨_,_,_,rfl,aC,fun k=>by rw [vD,dH];simp⟩,?_,?_⟩
 ·rintro i d _ hd ⟨F,o,o',rfl,hF,hf⟩;obtain⟨hi,rfl⟩:=sJ hd;have hiF:i<F.length:=by omega
  refine⟨rfl,qM (rJ hiF) ⟨⟨n,c,G1.tops i,lb2,by omega⟩,xI (by rw [aa];exact hiF) ⟨F.set i (F.getD i 0+P.getD i 0*B'),.val (.int (i:Nat)),.val (.int (P.getD i 0)),?_,by rw [aW];exact hF,fun k=>?_⟩⟩⟩
  ·show [SD.val _,.val _,.val _,.own ((F.map D.int).set i (.int (F.getD i 0+P.getD i 0*B'))),_,_]=_;rw [map_set]
  ·rw [ue hiF,wg hi];by_cases e:k=i
   ·subst e;rw [if_pos rfl,if_pos rfl,hf,dL]
   ·rw [if_neg e,if_neg e,hf,bL]
 ·rintro _ ⟨F,o,o',rfl,hF,hf⟩;rw [qC,aa,bN] at hf;refine⟨fun i s=>∃ F:List Int,∃ o o':SD,s=[.val (pD P B),.val (pD P' B'),.val (.int M),.own (F.map .int),o,o']/\F.length=M/\∀ k,F.getD k 0=P.getD k 0*B'+(P'.take i).getD k 0*B,⟨F,_,_,rfl,hF,fun k=>by rw [hf,dH];simp⟩,?_,?_⟩
  ·rintro i d _ hd ⟨F,o,o',rfl,hF,hf⟩;obtain⟨hi,rfl⟩:=sJ hd;have hiF:i<F.length:=by omega
   refine⟨rfl,qM (rJ hiF) ⟨⟨m,b,G2.tops i,lb1,by omega⟩,xI (by rw [aa];exact hiF) ⟨F.set i (F.getD i 0+P'.getD i 0*B),.val (.int (i:Nat)),.val (.int (P'.getD i 0)),?_,by rw [aW];exact hF,fun k=>?_⟩⟩⟩
   ·show [SD.val _,.val _,.val _,.own ((F.map D.int).set i (.int (F.getD i 0+P'.getD i 0*B))),_,_]=_;rw [map_set]
   ·rw [ue hiF,wg hi];by_cases e:k=i
    ·subst e;rw [if_pos rfl,if_pos rfl,hf,dL,Int.add_assoc]
    ·rw [if_neg e,if_neg e,hf,bL]
  ·rintro _ ⟨F,o,o',rfl,hF,hf⟩;rw [qC,aa,bN] at hf;refine⟨⟨b,c,lb1,lb2,by omega⟩,rfl,(F,B*B'),⟨.inl rfl,av p1 p2,(lb1.mul lb2).mono hb,by show F.length<=1000;omega⟩,?_⟩;rintro _ ⟨R,C,rfl,fm,hw,_⟩;exact q _ ⟨R,C,rfl,fm,fun k=>by rw [hw k,hf k]⟩
end Dp
namespace Dp
open PySem L2
def ma:TSd:=(gz [2] (gq gu (gj (gk 2) (gj (gr .Mult (dIx (gk 0) (dC (.int 1))) (dIx (gk 1) (dC (.int 1)))) gm))))
def iI:TSd:=dSq (iA [] (iE (dIx (gk 0) (dC (.int 0)))) (gTp [3,4])
 (iA [] (iE (dIx (gk 1) (dC (.int 0)))) (gTp [5,6])
 (ku [] 2 (gr .Add (gk 3) (gk 5)) (gr .Add (kT 2 (gr .Add (gk 3) (gk 5))) (gr .Mult (gk 4) (gk 6))))))
 ma
def m8:TSd:=dSq (kW [] 2 (gr .Mult (gE (gj (dC (.int 0)) gm)) (gr .Add (dB bLen bLen.mono (gj (dIx (gk 0) (dC (.int 0))) gm)) (dB bLen bLen.mono (gj (dIx (gk 1) (dC (.int 0))) gm)))))
 iI
def gv:SpB:=.of 2 (α:=List Int×Int×List Int×Int×Nat×Nat×Nat×Nat) (fun (P,B,P',B',n,b,m,c) ds=>ds=[pD P B,pD P' B']/\Pc.Pz n b P B/\Pc.Pz m c P' B'/\b+c<=9000000/\n+m<=9000000/\P.length<=450/\P'.length<=450)
 (fun (P,B,P',B',n,b,m,c) d=>∃ R C,d=pD R C/\Po.Fm R C/\∀ k,R.getD k 0*(B*B')=Cv.cv (Cv.fn P) (Cv.fn P') k*C)
theorem kZ:Does 7 m8 gv:=by
 rintro ds Q hn ⟨⟨P1,B1,P2,B2,n,b,m,c⟩,⟨rfl,G1,G2,hb,hm,l1,l2⟩,q⟩;dsimp only at G1 G2 hb hm l1 l2 q;have sl:(1000:Nat)<=sizeLine:=by rw [sizeLine_eq];decide
 have p1:=G1.fm.pos;have p2:=G2.fm.pos;suffices h:iI.run (qt Q) [.val (pD P1 B1),.val (pD P2 B2),.own ((List.replicate (P1.length+P2.length) (0:Int)).map .int),.no,.no,.no,.no] by
  have e0:(((P1.map D.int).length:Nat):Int)+((P2.map D.int).length:Nat)=((P1.length+P2.length:Nat):Int):=by
   rw [aa,aa];omega
  refine⟨rZ,?_,?_,?_,?_⟩
  ·rw [e0];omega
  ·rw [e0];omega
  ·rw [e0];show 1*(P1.length+P2.length)<=_;omega
  ·show iI.run (qt Q) [.val (pD P1 B1),.val (pD P2 B2),.own (List.replicate ((((P1.map D.int).length:Nat):Int)+((P2.map D.int).length:Nat)).toNat [D.int 0]).flatten,.no,.no,.no,.no];rw [e0,aJ,qO];exact h
 refine⟨fun i s=>∃(rs:List Int) (o3 o4 o5 o6:SD),s=[.val (pD P1 B1),.val (pD P2 B2),.own (rs.map .int),o3,o4,o5,o6]/\rs.length=P1.length+P2.length/\∀ k,rs.getD k 0=Cv.tm (Cv.fn P1) (Cv.fn P2) i k,⟨_,_,_,_,_,rfl,aC,fun k=>vD _ _⟩,?_,?_⟩
 ·rintro i d _ hd ⟨rs,o3,o4,o5,o6,rfl,lr,hr⟩;obtain⟨hi,rfl⟩:=sJ hd;refine⟨rfl,fun k s=>∃(rs:List Int) (o5 o6:SD),s=[.val (pD P1 B1),.val (pD P2 B2),.own (rs.map .int),.val (.int (i:Nat)),.val (.int (P1.getD i 0)),o5,o6]/\rs.length=P1.length+P2.length/\∀ m,rs.getD m 0=Cv.tm (Cv.fn P1) (Cv.fn P2) i m+(if i<=m/\m-i<k then Cv.fn P1 i*Cv.fn P2 (m-i) else 0),⟨rs,_,_,rfl,lr,fun m=>by rw [hr m,if_neg (by omega),bL]⟩,?_,?_⟩
  ·rintro k d _ hd ⟨rs',o5',o6',rfl,lr',hr4⟩;obtain⟨hk,rfl⟩:=sJ hd;have ik:(i:Int)+(k:Int)=((i+k:Nat):Int):=by omega
   have hiF:i+k<rs'.length:=by omega
   refine⟨rfl,?_⟩;show itI (rs'.map D.int) (.int ((i:Int)+(k:Int))) _;rw [ik];refine qM (rJ hiF) ⟨⟨n,m,G1.tops i,G2.tops k,by omega⟩,?_⟩;show atD (rs'.map D.int) (.int ((i:Int)+(k:Int))) _;rw [ik];refine xI (by rw [aa];exact hiF) ⟨rs'.set (i+k) (rs'.getD (i+k) 0+P1.getD i 0*P2.getD k 0),.val (.int (k:Nat)),.val (.int (P2.getD k 0)),?_,by rw [aW];exact lr',fun m=>?_⟩
   ·show [SD.val _,.val _,.own ((rs'.map D.int).set (i+k) (.int (rs'.getD (i+k) 0+P1.getD i 0*P2.getD k 0))),_,_,_,_]=_;rw [map_set]
   ·rw [ue hiF];by_cases e:m=i+k
    ·subst e;rw [if_pos rfl,hr4,if_neg (by omega),if_pos ⟨by omega,by omega⟩,show i+k-i=k by omega,bL];rfl
    ·rw [if_neg e,hr4];congr 1;by_cases c:i<=m/\m-i<k
     ·rw [if_pos c,if_pos ⟨c.1,by omega⟩]
     ·rw [if_neg c,if_neg (by omega)]
  ·rintro _ ⟨rs',o5',o6',rfl,lr',hr4⟩;rw [qC,aa] at hr4;refine⟨rs',_,_,_,_,rfl,lr',fun m=>?_⟩;rw [hr4 m,Cv.wW];congr 1;by_cases c:i<=m
   ·rw [if_pos c];by_cases c':m-i<P2.length
    ·rw [if_pos ⟨c,c'⟩]
    ·rw [if_neg (fun z=>c' z.2),Cv.qr (P:=P2) (by omega),bF]
   ·rw [if_neg c,if_neg (fun z=>c z.1)]
 ·rintro _ ⟨rs,o3,o4,o5,o6,rfl,lr,hr⟩;rw [qC,aa] at hr;refine⟨⟨b,c,G1.bot,G2.bot,by omega⟩,rfl,(rs,B1*B2),⟨.inl rfl,av p1 p2,(G1.bot.mul G2.bot).mono hb,by show rs.length<=1000;omega⟩,?_⟩;rintro _ ⟨R,C,rfl,fm,hw,_⟩;exact q _ ⟨R,C,rfl,fm,fun k=>by rw [hw k];show rs.getD k 0*C=_;rw [hr k,Cv.tM fun j h=>Cv.qr h]⟩
def nI:TSd:=(gz [] (gk 2))
def nJ:TSd:=dSq (iA [] (jJ (dIx (gk 0) (dC (.int 0)))) (gNm 3)
 (gB [] (gNm 2) (gq gA (gj (gq gv (gj (gk 2) (gj (gk 1) gm))) (gj (gq gu (gj (gE (gj (gk 3) gm)) (gj (dIx (gk 0) (dC (.int 1))) gm))) gm)))))
 nI
def oE:TSd:=dSq (gB [] (gNm 2) (gw (gj (gw gm) (gj (dC (.int 1)) gm))))
 nJ
def hI:SpB:=.of 2 (α:=List Int×Int×List Int×Int×Nat×Nat×Nat×Nat) (fun (P,B,P',B',n,b,m,c) ds=>ds=[pD P B,pD P' B']/\Pc.Pz n b P B/\Pc.Pz m c P' B'/\b+b+c*P.length<=8900000/\n+(m+c+10)*(P.length+1)<=4000000/\P.length*P'.length<=190/\P.length<=190/\P'.length<=190)
 (fun (P,B,P',B',n,b,m,c) d=>∃ R C,d=pD R C/\Pc.Of P B P' B' R C)
theorem nc:Does 4 oE hI:=by
 rintro ds Q hn ⟨⟨P1,B1,P2,B2,n,b,m,c⟩,⟨rfl,G1,G2,hb,hn,hl,l1,l2⟩,q⟩;dsimp only at G1 G2 hb hn hl l1 l2 q;have p1:=G1.fm.pos;have p2:=G2.fm.pos;have hL:(m+c+10)*P1.length+(m+c+10)=(m+c+10)*(P1.length+1):=by rw [bJ]
 have hg:∀ k,P2.length<=k->Cv.fn P2 k=0:=fun k h=>Cv.qr h;refine⟨by rw [sizeLine_eq];decide,by rw [sizeLine_eq];decide,fun i s=>∃(R:List Int) (C:Int) (o3:SD) (M:Nat->Int),s=[.val (pD P1 B1),.val (pD P2 B2),.val (pD R C),o3]/\Po.Fm R C/\(∀ k,R.getD k 0*(B1*B2^i)=M k*B2*C)/\(∀ k,i*P2.length+1<=k->M k=0)/\(∀ k,Lt2 (n+(m+c+10)*i+1) (M k)) /\
   ∀ k,Pc.pc (Cv.fn P1) (Cv.fn P2) B2 P1.length k=B2^i*Pc.pc (Cv.fn P1) (Cv.fn P2) B2 (P1.length-i) k+B2*Cv.cv (Pc.cp (Cv.fn P2) (P1.length-i)) M k,
  ⟨[],1,.no,fun _=>0,rfl,⟨by decide,.inl rfl,rfl⟩,fun k=>by rw [qp (fs:=([]:List Int)) (aI _)];simp,fun _ _=>rfl,fun k=>bG (by decide),fun k=>by rw [Cv.Fv fun j=>rfl];simp⟩,?_,?_⟩
 ·rintro i z _ hz ⟨R,C,o3,M,rfl,fx,ex,oM,lM,eM⟩;have hi:i<P1.length:=by have:=(aj.mp hz).1;simpa using this
  rw [bM (by rw [aa];exact hi),aa] at hz;obtain⟨_,rfl⟩:=xr hz;have li:(m+c+10)*(i+1)<=(m+c+10)*P1.length:=aB _ hi;rw [bJ] at li;have li2:(i+1)*P2.length<=P1.length*P2.length:=bz _ hi;rw [bq] at li2;have li3:c*(i+1)<=c*P1.length:=aB _ hi;rw [bJ] at li3;have W:=Hv.pow_pos p2 i;have lW:=Hv.rF G2.bot i;have li5:c*i<=(m+c+10)*i:=bz _ (by omega);have c0:=fx.pos;have zx:Pc.Pz (n+(m+c+10)*i+1+c) (b+(c*i+1)) R C:=Pc.Pz.of fx (av p1 W) ex (fun k=>(lM k).mul G2.bot) (G1.bot.mul lW);have lx:R.length<=i*P2.length+1:=Pc.qH fx (av p1 W) ex (fun k hk=>by rw [oM k hk,ax]);have top:=G1.tops (P1.length-1-i);refine⟨rfl,(R,C,P2,B2,_,_,_,_),⟨rfl,zx,G2,by omega,by omega,by show R.length<=450;omega,by show P2.length<=450;omega⟩,?_⟩;rintro _ ⟨TT,tb,rfl,fT,eT⟩;have t0:=fT.pos;have eT':∀ k,TT.getD k 0*(B1*(B2^i*B2))=Cv.cv M (Cv.fn P2) k*B2*tb:=fun k=>Pc.FR c0 ex (eT k);have W2:=av W p2;have cM:∀ k,Lt2 (n+(m+c+10)*i+1+m+9) (Cv.cv M (Cv.fn P2) k):=fun k=>by
   rcases aP k 500 with cc|cc
   ·exact Cv.Dh lM G2.tops (by omega)
   ·rw [Cv.rj (a:=i*P2.length+1) (b:=P2.length) oM hg (by omega)];exact bG (by decide)
  have oT:∀ k,(i+1)*P2.length+1<=k->Cv.cv M (Cv.fn P2) k=0:=fun k hk=>Cv.rj (a:=i*P2.length+1) (b:=P2.length) oM hg (by rw [bq] at hk;omega);have zT:Pc.Pz (n+(m+c+10)*i+1+m+9+c) (b+(c*i+1+c)) TT tb:=Pc.Pz.of fT (av p1 W2) eT' (fun k=>(cM k).mul G2.bot) (G1.bot.mul (lW.mul G2.bot));have lT:TT.length<=(i+1)*P2.length+1:=Pc.qH fT (av p1 W2) eT' (fun k hk=>by rw [oT k hk,ax]);rw [bq] at lT;refine⟨rZ,rfl,([P1.getD (P1.length-1-i) 0],B1),⟨.inl rfl,p1,G1.bot.mono (by omega),by show 1<=1000;decide⟩,?_⟩;rintro _ ⟨E,eb,rfl,fe,ee,le⟩;dsimp only at ee le;have e0:=fe.pos;have ze:Pc.Pz n b E eb:=Pc.Pz.of fe p1 ee (fun k=>by
   cases k with
   | zero=>exact top
   | succ k=>rw [qp (fs:=[P1.getD (P1.length-1-i) 0]) (by simp)];exact bG (by decide)) G1.bot
  have le':E.length<=1:=le;refine⟨rfl,(TT,tb,E,eb,_,_,_,_),⟨rfl,zT,ze,by omega,by omega,by show TT.length<=900;omega,by show E.length<=900;omega⟩,?_⟩;rintro _ ⟨R',C',rfl,fx',ex'⟩;refine⟨R',C',_,fun j=>Cv.cv M (Cv.fn P2) j+(if j=0 then Cv.fn P1 (P1.length-1-i)*B2^i else 0),rfl,fx',fun k=>?_,fun k hk=>?_,fun k=>?_,fun k=>Pc.GU hg hi eM _ fun j=>rfl⟩
  ·rw [bC];have y:=Pc.FQ t0 e0 (eT' k) (ee k) (ex' k);rw [y];congr 2;show _=_+_;congr 1;cases k with
   | zero=>rfl
   | succ k=>rw [qp (fs:=[P1.getD (P1.length-1-i) 0]) (by simp),if_neg (by omega),ax]
  ·show Cv.cv M (Cv.fn P2) k+(if k=0 then Cv.fn P1 (P1.length-1-i)*B2^i else 0)=0;rw [oT k hk,if_neg (by omega)];rfl
  ·have y2:Lt2 (n+(m+c+10)*i+1+m+9) (if k=0 then Cv.fn P1 (P1.length-1-i)*B2^i else 0):=by
    split
    ·exact (top.mul lW).mono (by omega)
    ·exact bG (by decide)
   exact ((cM k).add y2).mono (by rw [bJ];omega)
 ·rintro _ ⟨R,C,o3,M,rfl,fx,ex,oM,lM,eM⟩;rw [bK,aa] at ex eM;refine q _ ⟨R,C,rfl,fx,fun k=>?_⟩;rw [ex k,eM k,bW];show _=(_*0+B2*Cv.cv Pc.d0 M k)*C;rw [Pc.Fy,bF,ce,bv B2]
end Dp
namespace Dp
open PySem L2
def FqD(n b:Nat)(d:D)(r:Rat):Prop:=∃ t u:Int,d=fD t u/\0<u/\Int.gcd t u=1/\Lt2 n t/\Lt2 b u/\r=(t:Rat) / (u:Rat)
theorem FqD.of{t u:Int}{n b:Nat}(u0:0<u)(lt:Lt2 n t)(lu:Lt2 b u):FqD n b (fD (Fr.top t u) (Fr.bot t u)) ((t:Rat) / (u:Rat)):=by
 obtain⟨l1,l2,l3⟩:=Fr.low (t:=t) (b:=u) (by omega);obtain⟨m1,m2⟩:=Fr.BH (t:=t) (b:=u) (by omega);exact⟨_,_,rfl,l1,l3,lt.le m1,lu.le m2,(Qp.rh (by omega) (by omega)).mpr l2.symm⟩
theorem FqD.mono{n b n' b':Nat}{d:D}{r:Rat}(h:FqD n b d r)(l:n<=n')(l':b<=b'):FqD n' b' d r:=by
 obtain⟨t,u,e,h1,h2,h3,h4,h5⟩:=h;exact⟨t,u,e,h1,h2,h3.mono l,h4.mono l',h5⟩
def io:SpB:=.of 2 (α:=Int) (fun m ds=>ds=[.fl,.int m]/\0<=m/\Lt2 8000 m) (fun m d=>∃ z,d = .int z /\ -m<=z/\z<=m)
def mP:TSd:=(gz [] (gr .Sub (gq gn (gj (gk 0) (gj (gr .Add (gr .Mult (dC (.int 2)) (gk 1)) (dC (.int 1))) gm))) (gk 1)))
theorem kA:Does 2 mP io:=by
 rintro ds Q hn ⟨m,⟨rfl,m0,m1⟩,q⟩;have two:Lt2 2 2:=by decide
 have lm:Lt2 9000 (2*m+1):=((two.mul m1).add ((show Lt2 1 1 by decide).mono (m:=2+8000) (by omega))).mono (by omega);refine⟨⟨_,_,two,m1,by omega⟩,rfl,2*m+1,⟨rfl,by omega,lm⟩,?_⟩;rintro _ ⟨i,rfl,i0,i1⟩;exact q _ ⟨_,rfl,by omega,by omega⟩
theorem tV{m:Int}{n:Nat}(h:m.natAbs<1000)(hn:10<=n:=by decide):Lt2 n m:=by
 unfold Lt2;exact az (Nat.lt_trans h (show 1000<2^10 by decide)) (cO (by decide) hn)
theorem Al{a b c e:Int}{i:Int}(h0:0<=i)(h1:i<4){Q:D->Prop}(qa:Q (.int a))(qb:Q (.int b))(qc:Q (.int c))(qe:Q (.int e)):itD [.int a,.int b,.int c,.int e] i Q:=by
 rcases (by omega:i=0\/i=1\/i=2\/i=3) with rfl|rfl|rfl|rfl
 ·exact qa
 ·exact qb
 ·exact qc
 ·exact qe
def gS:SpB:=.of 2 (α:=Int×Nat) (fun (m,M) ds=>ds=[.fl,.int m]/\1<=m/\Lt2 M m/\2<=M/\M<=4000) (fun (m,M) d=>∃ r,FqD M M d r)
def jv:TSd:=(gz [] (gq gI (gj (gq io (gj (gk 0) (gj (gk 1) gm))) (gj (gr .Add (dC (.int 1)) (gq gn (gj (gk 0) (gj (dIx (gE (gj (dC (.int 1)) (gj (dC (.int 1)) (gj (dC (.int 3)) (gj (gk 1) gm))))) (gq gn (gj (gk 0) (gj (dC (.int 4)) gm)))) gm)))) gm))))
theorem iX:Does 2 jv gS:=by
 rintro ds Q hn ⟨⟨m,M⟩,⟨rfl,m1,lm,M2,M4⟩,q⟩;refine⟨rfl,m,⟨rfl,by omega,lm.mono (by omega)⟩,?_⟩;rintro _ ⟨z,rfl,z0,z1⟩;refine⟨rE (n:=4) (by decide),rfl,4,⟨rfl,by decide,tV (by decide)⟩,?_⟩;rintro _ ⟨i,rfl,i0,i1⟩;have l3:Lt2 M 3:=(show Lt2 2 3 by decide).mono M2;have key:∀ u:Int,1<=u->Lt2 M u->([D.fl,.int u].length=gn.n/\gn.run [.fl,.int u] fun d=>oAdd (.int 1) d fun d=>[D.int z,d].length=gI.n/\gI.run [.int z,d] Q):=fun u u1 lu=>by
  refine⟨rfl,u,⟨rfl,by omega,lu.mono (by omega)⟩,?_⟩;rintro _ ⟨e,rfl,e0,e1⟩;have lb:Lt2 M (1+e):=lu.le (by omega);refine⟨rfl,(z,1+e),⟨rfl,by show 1+e≠0;omega,lb.mono (by omega)⟩,?_⟩;rintro _ rfl;exact q _ ⟨_,FqD.of (by omega) (lm.le (by omega)) lb⟩
 exact Al i0 i1 (key 1 (by decide) (l3.le (by decide))) (key 1 (by decide) (l3.le (by decide))) (key 3 (by decide) l3) (key m m1 lm)
theorem ym{α:Type}{fs:List α}{i:Nat}{d:α}(h:i<fs.length):fs.getD i d∈fs:=by
 rw [ah,ac h];exact bY h
theorem uZ(n:Nat):Lt2 n 0:=bG (by decide)
theorem vQ{ts:List Int}{c B:Int}{P:List Int}{M N:Nat}(fm:Po.Fm P B)(hw:∀ k,P.getD k 0*c=ts.getD k 0*B)(hle:P.length<=ts.length)(hl:ts.length=N+1)(hs:∀ t∈ts,Lt2 M t)(c0:0<c)(lc:Lt2 3 c)(last:ts.getD N 0≠0):Pc.Pz M 3 P B/\P.length=N+1:=by
 have pB:=fm.pos;refine⟨Pc.Pz.of (f:=fun k=>ts.getD k 0) fm c0 hw (fun k=>?_) lc,?_⟩
 ·rcases aP k ts.length with z|z
  ·exact hs _ (ym z)
  ·rw [qp z];exact uZ _
 ·rcases aP N P.length with z|z
  ·omega
  ·have e:=hw N;rw [qp z,ax] at e;rcases bt.mp e.symm with y|y
   ·exact absurd y last
   ·omega
theorem LN{d:Int}:(if decide ((0:Int)<d) then (1:Int) else 0)=0\/(if decide ((0:Int)<d) then (1:Int) else 0)=1:=by
 by_cases c:(0:Int)<d
 ·exact .inr (by rw [if_pos (by simpa using c)])
 ·exact .inl (by rw [if_neg (by simpa using c)])
def drI(M:Nat):Nat->List D->Prop:=fun i ys=>∃ ts:List Int,ys=ts.map D.int/\ts.length=i/\∀ t∈ts,Lt2 M t
theorem drI.nil{M:Nat}:drI M 0 []:=⟨[],rfl,rfl,fun t h=>absurd h aU⟩
theorem drI.snoc{M i:Nat}{ys:List D}{z:Int}(h:drI M i ys)(hz:Lt2 M z):drI M (i+1) (ys++[.int z]):=by
 obtain⟨ts,rfl,h1,h2⟩:=h;refine⟨ts++[z],by rw [aR];rfl,by rw [ai,h1];rfl,fun t ht=>?_⟩;rcases aM.mp ht with w|w
 ·exact h2 t w
 ·rw [aG.mp w];exact hz
theorem Fh{M:Nat}{z d:Int}(lz:Lt2 M z)(M4:M<=8000):CMulB z (if decide ((0:Int)<d) then (1:Int) else 0)/\Lt2 M (z*(if decide ((0:Int)<d) then (1:Int) else 0)):=by
 rcases LN (d:=d) with e|e
 ·rw [e];exact⟨⟨M,1,lz,by decide,by omega⟩,by rw [bF];exact uZ _⟩
 ·rw [e];exact⟨⟨M,1,lz,by decide,by omega⟩,by rw [bo];exact lz⟩
def gK:SpB:=.of 3 (α:=Nat×Int×Nat) (fun (N,m,M) ds=>ds=[.fl,.int N,.int m]/\N<=100/\1<=m/\Lt2 M m/\M<=4000) (fun (N,m,M) d=>∃ P B,d=pD P B/\Pc.Pz M 3 P B/\P.length=N+1)
def iK:TSd:=(gz [] (gq gu (gj (gr .Add (gk 3) (gE (gj (gk 5) gm))) (gj (gr .Add (dC (.int 1)) (gq gn (gj (gk 0) (gj (dIx (gE (gj (dC (.int 1)) (gj (dC (.int 1)) (gj (dC (.int 2)) (gj (dC (.int 6)) gm))))) (gq gn (gj (gk 0) (gj (dC (.int 4)) gm)))) gm)))) gm))))
def j8:TSd:=dSq (gB [] (gNm 5) (dIx (gE (gj (dC (.int 1)) (gj (gr .Sub (dC (.int 0)) (dC (.int 1))) (gj (gr .Add (dC (.int 1)) (gq gn (gj (gk 0) (gj (gk 2) gm)))) (gj (gr .Sub (gr .Sub (dC (.int 0)) (dC (.int 1))) (gq gn (gj (gk 0) (gj (gk 2) gm)))) gm))))) (gq gn (gj (gk 0) (gj (dC (.int 4)) gm)))))
 iK
def ld:TSd:=dSq (gB [] (gNm 3) (gL (kU (gk 1)) [4] (gNm 4) hJ (gr .Mult (gq io (gj (gk 0) (gj (gk 2) gm))) (dB bInt bInt.mono (gj (gD .Gt (gq gn (gj (gk 0) (gj (dC (.int 4)) gm))) (dC (.int 0))) gm)))))
 j8
theorem jM:Does 6 ld gK:=by
 rintro ds Q hn ⟨⟨N,m,M⟩,⟨rfl,hN,m1,lm,M4⟩,q⟩;dsimp only at hN m1 lm M4 q;refine⟨by omega,by omega,by rw [qz];exact rE (by omega),drI M,drI.nil,fun i d ys hd _ hy=>?_,fun ys _ hy=>?_⟩
 ·obtain⟨hi,rfl⟩:=rc hd;refine⟨rfl,m,⟨rfl,by omega,lm.mono (by omega)⟩,?_⟩;rintro _ ⟨z,rfl,z0,z1⟩;refine⟨rfl,4,⟨rfl,by decide,tV (by decide)⟩,?_⟩;rintro _ ⟨j,rfl,j0,j1⟩;obtain⟨h1,h2⟩:=Fh (d:=j) (lm.le (j:=z) (by omega)) (by omega);exact⟨h1,hy.snoc h2⟩
 rw [qz] at hy;obtain⟨ts,rfl,lt,ht⟩:=hy;have lt:ts.length=N:=by omega
 refine⟨rfl,m,⟨rfl,by omega,lm.mono (by omega)⟩,?_⟩;rintro _ ⟨d1,rfl,d10,d11⟩;refine⟨rfl,m,⟨rfl,by omega,lm.mono (by omega)⟩,?_⟩;rintro _ ⟨d2,rfl,d20,d21⟩;refine⟨rE (n:=4) (by decide),rfl,4,⟨rfl,by decide,tV (by decide)⟩,?_⟩;rintro _ ⟨d3,rfl,d30,d31⟩;have key:∀ u:Int,u≠0->Lt2 M u->iK.run (qt Q) [.val .fl,.val (.int N),.val (.int m),.val (.lst (ts.map .int)),.no,.val (.int u)]:=fun u u0 lu=>by
  refine⟨rZ,?_,?_⟩
  ·rw [aa];exact rE (by show ts.length+1<=_;omega)
  refine⟨rE (n:=4) (by decide),rfl,4,⟨rfl,by decide,tV (by decide)⟩,?_⟩;rintro _ ⟨d5,rfl,d50,d51⟩;have fin:∀ c:Int,1<=c->c<=6->([D.fl,.int c].length=gn.n/\gn.run [.fl,.int c] fun d=>oAdd (.int 1) d fun d=>[D.lst (ts.map .int++[.int u]),d].length=gu.n/\gu.run [.lst (ts.map .int++[.int u]),d] Q):=fun c c1 c6=>by
   refine⟨rfl,c,⟨rfl,by omega,tV (by omega)⟩,?_⟩;rintro _ ⟨e,rfl,e0,e1⟩;have b3:Lt2 3 (1+e):=Lt2.of 6 (by omega) (by decide);have em:ts.map D.int++[.int u]=(ts++[u]).map D.int:=by rw [aR];rfl
   have last:(ts++[u]).getD N 0=u:=rO (by rw [aT (by omega),lt,bW];rfl);rw [em];refine⟨rfl,(ts++[u],1+e),⟨.inl rfl,by show 0<1+e;omega,b3.mono (by decide),by show (ts++[u]).length<=1000;rw [ai,lt];show N+1<=1000;omega⟩,?_⟩;rintro _ ⟨P1,B1,rfl,fm,hw,hle⟩;dsimp only at hw hle;obtain⟨z1,z2⟩:=vQ (M:=M) (N:=N) fm hw hle (by rw [ai,lt];rfl) (fun t h=>by
    rcases aM.mp h with y|y
    ·exact ht _ y
    ·rw [aG.mp y];exact lu) (by omega) b3 (by rw [last];exact u0)
   exact q _ ⟨P1,B1,rfl,z1,z2⟩
  exact Al d50 d51 (fin 1 (by decide) (by decide)) (fin 1 (by decide) (by decide)) (fin 2 (by decide) (by decide)) (fin 6 (by decide) (by decide))
 exact Al d30 d31 (key 1 (by decide) (lm.le (by omega))) (key (0-1) (by decide) (lm.le (by omega))) (key (1+d1) (by omega) (lm.le (by omega))) (key (0-1-d2) (by omega) (lm.le (by omega)))
end Dp
namespace Dp
open PySem L2
theorem FS{ta ba tb bb B:Int}{P:List Int}{n1 b1 n2 b2:Nat}(st:Pc.St ta ba tb bb P B)(a0:0<ba)(b0:0<bb)(l1:Lt2 n1 ta)(l2:Lt2 b1 ba)(l3:Lt2 n2 tb)(l4:Lt2 b2 bb):Pc.Pz (n1+n2+b1+b2) (b1+b2) P B :=
 Pc.Pz.of st.1 (av a0 b0) st.2 (fun k=>by
  match k with
  | 0=>exact (l3.mul l2).mono (by omega)
  | 1=>exact (l1.mul l4).mono (by omega)
  | k+2=>exact uZ _) (l2.mul l4)
theorem Lv{ta ba tb bb B:Int}{P:List Int}{n1 b1 n2 b2:Nat}(st:Pc.St ta ba tb bb P B)(a0:0<ba)(b0:0<bb)(l1:Lt2 n1 ta)(l2:Lt2 b1 ba)(l3:Lt2 n2 tb)(l4:Lt2 b2 bb) :
  Pc.Pz (n1+n2+b1+b2) (b1+b2) P B/\(∀ x,Qp.E P B x=(ta:Rat) / (ba:Rat)*x+(tb:Rat) / (bb:Rat))/\P.length<=2/\Qp.q P B 0=(tb:Rat) / (bb:Rat)/\Qp.q P B 1=(ta:Rat) / (ba:Rat):=by
 have p:=av a0 b0;have q:=fun k=>Qp.uC (f:=fun k=>[tb*ba,ta*bb].getD k 0) st.1.pos (ao p) st.2 k;refine⟨FS st a0 b0 l1 l2 l3 l4,Qp.KZ st a0 b0,Pc.qH st.1 p st.2 fun k hk=>?_,?_,?_⟩
 ·obtain⟨j,rfl⟩:∃ j,k=j+2:=⟨k-2,by omega⟩;exact Pc.z5 _ _ _
 ·rw [q 0];exact (Qp.rh (ao p) (by omega)).mpr (by show tb*ba*bb=tb*(ba*bb);grind)
 ·rw [q 1];exact (Qp.rh (ao p) (by omega)).mpr (by show ta*bb*ba=ta*(ba*bb);grind)
theorem FU{P:List Int}{B:Int}(h:Qp.q P B 1≠0)(l:P.length<=2):P.length=2/\P.getD 1 0≠0:=by
 have n1:P.getD 1 0≠0:=fun z=>h (by
  unfold Qp.q;rw [z];show ((0:Int):Rat) / _=0;have:((0:Int):Rat)=0:=rfl;rw [this];grind)
 refine⟨?_,n1⟩;rcases aP 1 P.length with z|z
 ·omega
 ·exact absurd (qp z) n1
def iT:SpB:=.of 2 (α:=D×D×Rat×Rat×Nat×Nat×Nat×Nat) (fun (d1,d2,r1,r2,n1,b1,n2,b2) ds=>ds=[d1,d2]/\FqD n1 b1 d1 r1/\FqD n2 b2 d2 r2/\b1+b2<=4000/\n1<=100000/\n2<=100000)
 (fun (d1,d2,r1,r2,n1,b1,n2,b2) d=>∃ P B,d=pD P B/\Pc.Pz (n1+n2+b1+b2) (b1+b2) P B/\(∀ x,Qp.E P B x=r1*x+r2)/\P.length<=2/\Qp.q P B 0=r2/\Qp.q P B 1=r1)
def lh:TSd:=(gz [] (gq gu (gj (gE (gj (gr .Mult (dIx (gk 1) (dC (.int 0))) (dIx (gk 0) (dC (.int 1)))) (gj (gr .Mult (dIx (gk 0) (dC (.int 0))) (dIx (gk 1) (dC (.int 1)))) gm))) (gj (gr .Mult (dIx (gk 0) (dC (.int 1))) (dIx (gk 1) (dC (.int 1)))) gm))))
theorem jN:Does 2 lh iT:=by
 rintro ds Q hn ⟨⟨d1,d2,r1,r2,n1,b1,n2,b2⟩,⟨rfl,⟨ta,ba,rfl,a0,c2,l1,l2,rfl⟩,⟨tb,bb,rfl,b0,e2,l3,l4,rfl⟩,ln,m1,m2⟩,q⟩;dsimp only at ln m1 m2 q;refine⟨⟨_,_,l3,l2,by omega⟩,⟨_,_,l1,l4,by omega⟩,qW,⟨_,_,l2,l4,by omega⟩,rfl,([tb*ba,ta*bb],ba*bb),⟨.inl rfl,av a0 b0,(l2.mul l4).mono (by omega),by show 2<=1000;decide⟩,?_⟩;rintro _ ⟨P,B,rfl,fm,hw,hle⟩;obtain⟨x1,x2,x3,x4,x5⟩:=Lv ⟨fm,hw⟩ a0 b0 l1 l2 l3 l4;exact q _ ⟨P,B,rfl,x1,x2,x3,x4,x5⟩
theorem uH{n:Nat}{t:Int}(l:Lt2 n t):FqD n 1 (fD t 1) (t:Rat):=⟨t,1,rfl,by decide,by simp,l,by decide,by have:((1:Int):Rat)=1:=rfl;rw [this];grind⟩
def gZ:SpB:=.of 2 (α:=Int×Nat) (fun (m,M) ds=>ds=[.fl,.int m]/\1<=m/\Lt2 M m/\2<=M/\M<=1000) (fun (m,M) d=>∃ P B,d=pD P B/\Pc.Pz (4*M) (2*M) P B/\P.length=2/\P.getD 1 0≠0)
def iq:TSd:=(gz [] (gq iT (gj (gk 2) (gj (gq gS (gj (gk 0) (gj (gk 1) gm))) gm))))
def jw:TSd:=dSq (gB [] (gNm 2) (dIx (gE (gj (gw (gj (dC (.int 1)) (gj (dC (.int 1)) gm))) (gj (gw (gj (gr .Sub (dC (.int 0)) (dC (.int 1))) (gj (dC (.int 1)) gm))) (gj (gq gI (gj (gr .Add (dC (.int 1)) (gq gn (gj (gk 0) (gj (gk 1) gm)))) (gj (gr .Add (dC (.int 1)) (gq gn (gj (gk 0) (gj (dC (.int 3)) gm)))) gm))) gm)))) (gq gn (gj (gk 0) (gj (dC (.int 3)) gm)))))
 iq
theorem iY:Does 3 jw gZ:=by
 rintro ds Q hn ⟨⟨m,M⟩,⟨rfl,m1,lm,M2,M4⟩,q⟩;dsimp only at m1 lm M2 M4 q;refine⟨qW,qW,rfl,m,⟨rfl,by omega,lm.mono (by omega)⟩,?_⟩;rintro _ ⟨d1,rfl,d10,d11⟩;refine⟨rfl,3,⟨rfl,by decide,tV (by decide)⟩,?_⟩;rintro _ ⟨d2,rfl,d20,d21⟩;have b2:Lt2 M (1+d2):=(show Lt2 2 (1+d2) from Lt2.of 3 (by omega) (by decide)).mono M2;refine⟨rfl,(1+d1,1+d2),⟨rfl,by show 1+d2≠0;omega,b2.mono (by omega)⟩,?_⟩;rintro _ rfl;dsimp only;refine⟨rE (n:=3) (by decide),rfl,3,⟨rfl,by decide,tV (by decide)⟩,?_⟩;rintro _ ⟨d3,rfl,d30,d31⟩;have fin:∀(u:D) (r:Rat),FqD M M u r->r≠0->iq.run (qt Q) [.val .fl,.val (.int m),.val u]:=fun u r fu r0=>by
  refine⟨rfl,(m,M),⟨rfl,m1,lm,M2,by show M<=4000;omega⟩,?_⟩;rintro _ ⟨r2,f2⟩;refine⟨rfl,(u,_,r,r2,M,M,M,M),⟨rfl,fu,f2,by show M+M<=4000;omega,by show M<=100000;omega,by show M<=100000;omega⟩,?_⟩;rintro _ ⟨P1,B1,rfl,z1,e1,l1,q0,q1⟩;obtain⟨len,n1⟩:=FU (by rw [q1];exact r0) l1;exact q _ ⟨P1,B1,rfl,z1.mono (by show M+M+M+M<=_;omega) (by show M+M<=_;omega),len,n1⟩
 have f3:=FqD.of (t:=1+d1) (u:=1+d2) (by omega) (lm.le (j:=1+d1) (by omega)) b2;have n3:((1+d1:Int):Rat) / ((1+d2:Int):Rat)≠0:=(Fq.ne (p:=0) (by omega) rfl).mpr (by omega);rcases (by omega:d3=0\/d3=1\/d3=2) with rfl|rfl|rfl
 ·exact fin _ _ ((uH (n:=1) (t:=1) (by decide)).mono (by omega) (by omega)) (by decide)
 ·exact fin _ _ ((uH (n:=1) (t:=-1) (by decide)).mono (by omega) (by omega)) (by decide)
 ·exact fin _ _ f3 n3
def gY:SpB:=.of 3 (α:=Nat×Int×Nat) (fun (N,m,M) ds=>ds=[.fl,.int N,.int m]/\1<=N/\N<=100/\1<=m/\Lt2 M m/\3<=M/\M<=4000) (fun (N,m,M) d=>∃ P B,d=pD P B/\Pc.Pz M 3 P B/\P.length=N+1/\P.getD 0 0=0/\P.getD N 0=B)
def jO:TSd:=(gz [] (gq gu (gj (gr .Add (gr .Add (gE (gj (dC (.int 0)) gm)) (gk 4)) (gE (gj (gk 3) gm))) (gj (gk 3) gm))))
def ia:TSd:=dSq (gB [] (gNm 4) (gL (kU (gr .Sub (gk 1) (dC (.int 1)))) [5] (gNm 5) hJ (gr .Mult (gq io (gj (gk 0) (gj (gk 2) gm))) (dB bInt bInt.mono (gj (gD .Gt (gq gn (gj (gk 0) (gj (dC (.int 4)) gm))) (dC (.int 0))) gm)))))
 jO
def kB:TSd:=dSq (gB [] (gNm 3) (gr .Add (dC (.int 1)) (gq gn (gj (gk 0) (gj (dIx (gE (gj (dC (.int 1)) (gj (dC (.int 1)) (gj (dC (.int 2)) (gj (dC (.int 4)) gm))))) (gq gn (gj (gk 0) (gj (dC (.int 4)) gm)))) gm)))))
 ia
theorem jx:Does 6 kB gY:=by
 rintro ds Q hn ⟨⟨N,m,M⟩,⟨rfl,N1,hN,m1,lm,M3,M4⟩,q⟩;dsimp only at N1 hN m1 lm M3 M4 q;refine⟨rE (n:=4) (by decide),rfl,4,⟨rfl,by decide,tV (by decide)⟩,?_⟩;rintro _ ⟨d5,rfl,d50,d51⟩;have fin:∀ c:Int,1<=c->c<=4->([D.fl,.int c].length=gn.n/\gn.run [.fl,.int c] fun d=>oAdd (.int 1) d fun d=>ia.run (qt Q) [.val .fl,.val (.int N),.val (.int m),.val d,.no,.no]):=fun c c1 c4=>by
  refine⟨rfl,c,⟨rfl,by omega,tV (by omega)⟩,?_⟩;rintro _ ⟨e,rfl,e0,e1⟩;obtain⟨w,hw⟩:∃ w:Int,w=1+e:=⟨_,rfl⟩;show ia.run (qt Q) [.val .fl,.val (.int N),.val (.int m),.val (.int (1+e)),.no,.no];rw [← hw];have b3:Lt2 3 w:=Lt2.of 4 (by omega) (by decide);have eN:((N:Int)-1).toNat=N-1:=by omega
  refine⟨by omega,by omega,by rw [qz];exact rE (by omega),drI M,drI.nil,fun i d ys hd _ hy=>?_,fun ys _ hy=>?_⟩
  ·refine⟨rfl,m,⟨rfl,by omega,lm.mono (by omega)⟩,?_⟩;rintro _ ⟨z,rfl,z0,z1⟩;refine⟨rfl,4,⟨rfl,by decide,tV (by decide)⟩,?_⟩;rintro _ ⟨j,rfl,j0,j1⟩;obtain⟨h1,h2⟩:=Fh (d:=j) (lm.le (j:=z) (by omega)) (by omega);exact⟨h1,hy.snoc h2⟩
  ·rw [qz] at hy;obtain⟨ts,rfl,lt,ht⟩:=hy;have lt:ts.length=N-1:=by omega
   have em:([.int 0]++ts.map D.int)++[D.int w]=(0::ts++[w]).map D.int:=by rw [aR];rfl
   have l0:(0::ts).length=N:=by rw [aY,lt];omega
   have last:(0::ts++[w]).getD N 0=w:=rO (by rw [aT (by omega),l0,bW];rfl);refine⟨rZ,?_,rZ,?_,?_⟩
   ·rw [aa];exact rE (by show 1+ts.length<=_;omega)
   ·rw [ai,aa];exact rE (by show 1+ts.length+1<=_;omega)
   refine⟨rfl,(0::ts++[w],w),⟨.inl (by rw [em]),by show 0<w;omega,b3.mono (by decide),by show (0::ts++[w]).length<=1000;rw [ai,l0];show N+1<=1000;omega⟩,?_⟩;rintro _ ⟨P1,B1,rfl,fm,hw1,hle⟩;dsimp only at hw1 hle;obtain⟨z1,z2⟩:=vQ (M:=M) (N:=N) fm hw1 hle (by rw [ai,l0];rfl) (fun t h=>by
    rcases aM.mp h with y|y
    ·rcases ak.mp y with y|y
     ·rw [y];exact uZ _
     ·exact ht _ y
    ·rw [aG.mp y];exact b3.mono M3) (by omega) b3 (by rw [last];omega)
   have p0:=hw1 0;have pN:=hw1 N;rw [last] at pN;refine q _ ⟨P1,B1,rfl,z1,z2,?_,?_⟩
   ·have:P1.getD 0 0*w=0:=by rw [p0];show (0:Int)*B1=0;simp
    rcases bt.mp this with y|y
    ·exact y
    ·omega
   ·exact aA (by omega) (pN.trans (bv _ _))
 exact Al d50 d51 (fin 1 (by decide) (by decide)) (fin 1 (by decide) (by decide)) (fin 2 (by decide) (by decide)) (fin 4 (by decide) (by decide))
end Dp
namespace Dp
open PySem L2
def gP:SpB:=.of 1 (α:=List Int×Int) (fun (P,B) ds=>ds=[pD P B]) (fun (P,B) d=>d = .int ((P.length:Int)-1))
def oF:TSd:=(gz [] (gr .Sub (dB bLen bLen.mono (gj (dIx (gk 0) (dC (.int 0))) gm)) (dC (.int 1))))
theorem ng:Does 1 oF gP:=by
 rintro ds Q hn ⟨⟨P,B⟩,rfl,q⟩;refine q _ ?_;show D.int (((P.map D.int).length:Int)-1)=_;rw [aa]
theorem AN{ts:List Int}{m:Nat}(hm:m<=ts.length):qE (ts.map D.int) none (some (m:Int))=(ts.take m).map D.int:=by
 unfold qE;rw [HT.vC,HT.xa,aa,dE hm,cU,bE,bH]
theorem GW(b:Nat)(ts us:List Int):Po.gl b (ts++us)=Po.gl (Po.gl b ts) us:=by
 unfold Po.gl;rw [fB]
def ir:SpB:=.of 2 (α:=List Int×Int) (fun (ts,b) ds=>ds=[.lst (ts.map .int),.int b]/\0<b/\Lt2 9000000 b/\ts.length<=1000) (fun (ts,b) d=>∃ P B,d=pD P B/\Po.Fm P B/\(∀ k,P.getD k 0*b=ts.getD k 0*B)/\P.length<=ts.length)
def jP:TSd:=(gz [] (gw (gj (dB bTuple bTuple.mono (gj (gL (gU (dSl (gk 0) dNo (gH (gk 2)))) [4] (gNm 4) hJ (gr .FloorDiv (gk 4) (gk 3))) gm)) (gj (gr .FloorDiv (gk 1) (gk 3)) gm))))
def mQ:TSd:=dSq (iA [] (gU (dSl (gk 0) dNo (gH (gk 2)))) (gNm 4)
 (dSq (dIf [] (gx (gD .Eq (gk 3) (dC (.int 1))))
 oC
 gC)
 (gB [] (gNm 3) (gq hZ (gj (gk 3) (gj (gk 4) gm))))))
 jP
def mS:TSd:=dSq (gB [] (gNm 3) (gk 1))
 mQ
def iR:TSd:=dSq (iz (i4 (gx (gD .Gt (gk 2) (dC (.int 0)))) (gx (gD .Eq (dIx (gk 0) (gr .Sub (gk 2) (dC (.int 1)))) (dC (.int 0)))))
 (nA [] 2 .Sub (dC (.int 1))))
 mS
def nK:TSd:=dSq (gB [] (gNm 2) (dB bLen bLen.mono (gj (gk 0) gm)))
 iR
theorem md:Does 5 nK ir:=by
 rintro ds Q hn ⟨⟨ts,b⟩,⟨rfl,hb,hl,hz⟩,q⟩;dsimp only at hb hl hz q;have bn:((b.natAbs:Nat):Int)=b:=by omega
 suffices h1:iR.run (qt Q) [.val (.lst (ts.map .int)),.val (.int b),.val (.int ts.length),.no,.no] by
  show iR.run (qt Q) [.val (.lst (ts.map .int)),.val (.int b),.val (.int ((ts.map D.int).length:Nat)),.no,.no];rw [aa];exact h1
 refine dSq.cut (fun s=>∃ m:Nat,s=[.val (.lst (ts.map .int)),.val (.int b),.val (.int m),.no,.no]/\m<=ts.length/\(∀ j,m<=j->ts.getD j 0=0)/\(m=0\/ts.getD (m-1) 0≠0)) ?_ ?_
 ·refine⟨fun s=>∃ m:Nat,s=[.val (.lst (ts.map .int)),.val (.int b),.val (.int m),.no,.no]/\m<=ts.length/\∀ j,m<=j->ts.getD j 0=0,fun s=>match s with|[_,_,.val (.int m),_,_]=>m.toNat|_=>0,⟨ts.length,rfl,aq _,fun j hj=>qp hj⟩,?_⟩;rintro _ ⟨m,rfl,hm,h0⟩;refine sS (p:=(0:Int)<(m:Nat)) (fun c=>?_) (fun c=>?_)
  ·obtain⟨k,rfl⟩:∃ k,m=k+1:=⟨m-1,by omega⟩;have ek:((k+1:Nat):Int)-1=(k:Int):=by omega
   show itD (ts.map D.int) (((k+1:Nat):Int)-1) _;rw [ek];refine qM (rJ (by omega)) (sS (p:=ts.getD k 0=0) (fun z=>?_) (fun z=>?_))
   ·refine⟨⟨k,?_,by omega,fun j hj=>?_⟩,?_⟩
    ·show [_,_,SD.val (.int (((k+1:Nat):Int)-1)),_,_]=_;rw [ek]
    ·rcases bO hj with w|w
     ·rw [← w];exact z
     ·exact h0 j w
    ·show ((((k+1:Nat):Int)-1)).toNat<(((k+1:Nat):Int)).toNat;omega
   ·exact⟨k+1,rfl,hm,h0,.inr z⟩
  ·exact⟨m,rfl,hm,h0,.inl (by omega)⟩
 ·rintro _ ⟨m,rfl,hm,h0,hlast⟩;obtain⟨fm,wr⟩:=Po.form hb hm h0 hlast;have tail:∀ g:Nat,g=Po.gl b.natAbs (ts.take m)->∀ o,jP.run (qt Q) [.val (.lst (ts.map .int)),.val (.int b),.val (.int m),.val (.int g),o]:=by
   rintro g hg o;rw [← hg] at fm wr;have g0:0<g:=by rw [hg];exact Po.zf (by omega) _
   have gle:g<=b.natAbs:=by rw [hg];exact dh (by omega) (Po.vM _ _).1
   have cd:∀ x:Int,sB x (g:Int):=fun x=>⟨by omega,9000000,hl.le (by rw [bP];exact gle),by decide⟩;have ec:=AN hm;refine⟨(congrArg (fun l:List D=>l.length<=sizeLine) ec).mpr (by rw [aa,aD];exact rE (by omega)),mI (fun z=>z.fdiv (g:Int)) (ts.take m),mI.nil,fun i d ys hd _ hy=>?_,fun ys _ hy=>?_⟩
   ·have hd:(qE (ts.map D.int) none (some (m:Int)))[i]? = some d:=hd;rw [ec] at hd;obtain⟨z,hz,rfl⟩:=ur hd;exact⟨cd _,hy.snoc hz rfl⟩
   ·cases hy.all (by rw [ec,aa]);exact⟨cd _,qW,q _ ⟨_,_,rfl,fm,wr,by rw [aa,aD];omega⟩⟩
  have ec:=AN hm;refine⟨fun i s=>∃ o,s=[.val (.lst (ts.map .int)),.val (.int b),.val (.int m),.val (.int ((Po.gl b.natAbs ((ts.take m).take i):Nat):Int)),o],⟨.no,?_⟩,?_,?_⟩
  ·show [_,_,_,SD.val (.int b),_]=[_,_,_,SD.val (.int ((b.natAbs:Nat):Int)),_];rw [bn]
  ·rintro i d _ hd ⟨o,rfl⟩;have hd:(qE (ts.map D.int) none (some (m:Int)))[i]? = some d:=hd;rw [ec] at hd;obtain⟨hi,rfl⟩:=xr hd;refine sS (p:=(((Po.gl b.natAbs ((ts.take m).take i):Nat):Int)=1)) (fun c=>?_) (fun c=>?_)
   ·refine tail _ ?_ _;have e:ts.take m=(ts.take m).take i++(ts.take m).drop i:=(List.take_append_drop i _).symm;have c':Po.gl b.natAbs ((ts.take m).take i)=1:=by omega
    rw [e,GW,List.take_append_of_le_length (by rw [aD];omega),dr (by rw [aD];omega),c',Po.GV]
   ·refine⟨rfl,(_,_),rfl,?_⟩;rintro _ rfl;refine⟨.val (.int ((ts.take m).getD i 0)),?_⟩;rw [rQ hi,AE];rfl
  ·rintro _ ⟨o,hs⟩;rw [show (qE (ts.map D.int) none (some (m:Int))).length=(ts.take m).length by rw [ec,aa],bN] at hs;subst hs;exact tail _ rfl _
end Dp
namespace Dp
open PySem L2
theorem EG{l x:Int}{n:Nat}(h0:l≠0)(h:l*x.fdiv l=x)(hx:Lt2 n x):Lt2 n (x.fdiv l):=by
 refine hx.le ?_;generalize x.fdiv l=y at h;rw [← h,br];exact aV _ (by omega)
end Dp
namespace Dp
open PySem L2
theorem Gp(P:List Int)(B:Int):D.dps [.tup (P.map D.int),.int B]<=60:=by
 have h:∀ P:List Int,D.dps (P.map D.int)<=1:=by
  intro P;induction P with
  | nil=>decide
  | cons a l ih =>
   show max (D.dp (.int a)) (D.dps (l.map D.int))<=1;have:D.dp (.int a)<=1:=aI _;omega
 show max (D.dps (P.map D.int)+1) (D.dps [.int B])<=60;have e:D.dps [.int B]<=1:=h [B];have:=h P;omega
theorem xf(P:List Int)(B:Int):D.pls [.tup (P.map D.int),.int B]=true:=by
 show (D.pls (P.map D.int) && D.pls [.int B])=true;rw [D.pls_ints];rfl
theorem FqD.same{n b n' b':Nat}{d d':D}{r:Rat}(h:FqD n b d r)(h':FqD n' b' d' r):d=d'/\∃ t u:Int,d=fD t u:=by
 obtain⟨t,u,rfl,u0,g,lt,lu,e⟩:=h;obtain⟨t',u',rfl,u0',g',lt',lu',e'⟩:=h';have c:=(Qp.rh (by omega) (by omega)).mp (e'.symm.trans e);obtain⟨y1,y2⟩:=Fr.uniq (t:=t) (b:=u) (by omega) u0' g' (by rw [c]);obtain⟨w1,w2⟩:=Fr.uniq (t:=t) (b:=u) (by omega) u0 g rfl;rw [← y1,← y2,w1,w2];exact⟨rfl,_,_,rfl⟩
end Dp
namespace Dp
open PySem L2
theorem vX{α:Type}{xs:List α}{j n:Nat}{v:α}(h:xs[n-j]? = some v)(e:xs.length=n)(hj:1<=j)(hn:j<=n):vg xs (-(j:Int))=some v:=by
 have e:yc xs.length (-(j:Int))=some (n-j):=by
  unfold yc;rw [e,if_neg (by omega),if_pos (by omega)];congr 1;omega
 unfold vg;rw [e];exact h
end Dp
namespace Dp
open PySem L2
theorem vN{P:List Int}{B:Int}{n:Nat}(f:Po.Fm P B)(l:P.length=n+1):P.getD n 0≠0:=by
 rcases f.last with e|e
 ·rw [e] at l;simp at l
 ·rwa [l] at e
end Dp
namespace Dp
open PySem L2
def kw:SpB:=.of 2 (α:=Int×Int) (fun x ds=>ds=[.int x.1,.int x.2]/\x.2≠0/\Lt2 9000000 x.2) (fun x d=>d=fD (Fr.top x.1 x.2) (Fr.bot x.1 x.2))
def mT:TSd:=(gz [] (gw (gj (gr .FloorDiv (gk 0) (gk 2)) (gj (gr .FloorDiv (gk 1) (gk 2)) gm))))
def mU:TSd:=dSq (dIf [] (gx (gD .Lt (gk 1) (dC (.int 0))))
 (gB [] (gNm 2) (iW (gk 2)))
 gC)
 mT
def nL:TSd:=dSq (gB [] (gNm 2) (gq hZ (gj (gk 0) (gj (gk 1) gm))))
 mU
theorem me:Does 3 nL kw:=by
 rintro ds Q hn ⟨⟨a,b⟩,⟨rfl,h0,hl⟩,q⟩;refine⟨rfl,(a,b),rfl,?_⟩;rintro _ rfl;have fin:∀ p:Int,p=Fr.part a b->sB a p/\sB b p/\2<=sizeLine/\Q (.tup [.int (a.fdiv p),.int (b.fdiv p)]):=by
  rintro p rfl;have c:∀ x,sB x (Fr.part a b):=fun x=>⟨Fr.Aq h0,9000000,hl.le (Fr.Ar h0),by decide⟩;exact⟨c _,c _,qW,q _ rfl⟩
 refine sS (p:=b<0) (fun c=>?_) (fun c=>?_)
 ·exact fin _ (by unfold Fr.part;rw [if_pos c])
 ·exact fin _ (by unfold Fr.part;rw [if_neg c])
theorem FqD.ofN{t u:Int}{n b:Nat}(u0:u≠0)(lt:Lt2 n t)(lu:Lt2 b u):FqD n b (fD (Fr.top t u) (Fr.bot t u)) ((t:Rat) / (u:Rat)):=by
 obtain⟨l1,l2,l3⟩:=Fr.low (t:=t) (b:=u) u0;obtain⟨m1,m2⟩:=Fr.BH (t:=t) (b:=u) u0;exact⟨_,_,rfl,l1,l3,lt.le m1,lu.le m2,(Qp.rh u0 (by omega)).mpr l2.symm⟩
def gX:SpB:=.of 2 (α:=List Int×Int×Nat×Nat×Nat) (fun (P,B,k,n,b) ds=>ds=[pD P B,.int k]/\Pc.Pz n b P B/\b<=9000000) (fun (P,B,k,n,b) d=>FqD n b d (Qp.q P B k))
def kC:TSd:=(gz [] (gw (gj (dC (.int 0)) (gj (dC (.int 1)) gm))))
def kE:TSd:=dSq (dIf [] (gx (iO .LtE .Lt (dC (.int 0)) (gk 1) (dB bLen bLen.mono (gj (gk 2) gm))))
 (gz [] (gq kw (gj (dIx (gk 2) (gk 1)) (gj (gk 3) gm))))
 gC)
 kC
def mf:TSd:=dSq (gB [] (gTp [2,3]) (gk 0))
 kE
theorem j9:Does 4 mf gX:=by
 rintro ds Q hn ⟨⟨P,B,k,n,b⟩,⟨rfl,z1,hb⟩,q⟩;dsimp only at z1 hb q;have p1:=z1.fm.pos;have out:P.length<=k->FqD n b (fD 0 1) (Qp.q P B k):=fun c=>by
  rw [Qp.Af c];have:=uH (n:=n) (t:=0) (uZ _);refine this.mono (aq _) ?_;cases b with
  | zero =>
   have:B.natAbs<1:=z1.bot;omega
  | succ b=>omega
 refine⟨rfl,?_⟩;refine sS (p:=((k:Nat):Int)<((P.map D.int).length:Nat)) (fun c=>?_) (fun c=>?_)
 ·rw [aa] at c;refine qM (rJ (by omega)) ⟨rfl,(P.getD k 0,B),⟨rfl,by show B≠0;omega,z1.bot.mono hb⟩,?_⟩;rintro _ rfl;exact q _ (FqD.of p1 (z1.tops k) z1.bot)
 ·rw [aa] at c;exact⟨qW,q _ (out (by omega))⟩
def mV:SpB:=.of 1 (α:=List Int×Int×Nat×Nat×Nat) (fun (P,B,k,n,b) ds=>ds=[pD P B]/\P.length=k+1/\Pc.Pz n b P B/\b<=9000000) (fun (P,B,k,n,b) d=>FqD n b d (Qp.q P B k))
def pR:TSd:=(gz [] (gq gX (gj (gk 0) (gj (gq gP (gj (gk 0) gm)) gm))))
theorem om:Does 1 pR mV:=by
 rintro ds Q hn ⟨⟨P,B,k,n,b⟩,⟨rfl,l,z1,hb⟩,q⟩;dsimp only at l z1 hb q;refine⟨rfl,(P,B),rfl,?_⟩;rintro _ rfl;refine⟨rfl,(P,B,k,n,b),⟨?_,z1,hb⟩,q⟩;show [pD P B,.int ((P.length:Int)-1)]=[pD P B,.int (k:Int)];rw [l,show ((k+1:Nat):Int)-1=(k:Int) by omega]
end Dp
namespace Dp
open PySem L2
theorem xw{a b:Int}(h:a≠0):0<Fr.cp a b:=by
 unfold Fr.cp;have:0<Int.gcd a b:=Int.gcd_pos_of_ne_zero_left b h;omega
theorem zz(a b:Int):Fr.cp a b∣a/\Fr.cp a b∣b:=by
 unfold Fr.cp;exact⟨Int.gcd_dvd_left ..,gg ..⟩
theorem sj{b c:Int}(hc:0<c)(hb:0<b)(d:c∣b):b=c*b.fdiv c/\0<b.fdiv c/\(b.fdiv c).natAbs<=b.natAbs:=by
 obtain⟨q,rfl⟩:=d;rw [cF _ (by omega)];have q0:0<q:=by
  rcases df q 0 with z|z|z
  ·have:=cZ hc z;omega
  ·rw [z,bF] at hb;omega
  ·exact z
 refine⟨rfl,q0,?_⟩;rw [br];exact aV _ (by omega)
end Dp
namespace Dp
open PySem L2
theorem FW{l:List Int}{j k:Nat}{z:Int}(h:j<l.length):(l.set j z).getD k 0=if k=j then z else l.getD k 0:=by
 rw [ah,ah,aN];by_cases c:j=k
 ·subst c;rw [if_pos rfl,if_pos h,if_pos rfl];rfl
 ·rw [if_neg c,if_neg (Ne.symm c)]
theorem AS{l:List D}{n:Nat}{d:D}{F:D->Prop}(h:l[n]? = some d)(q:F d):(match l[n]? with|some x=>F x|none=>False):=by
 rw [h];exact q
end Dp
namespace Dp
open PySem L2
theorem C6(ts:List Int):(tX (ts.map D.int)).length=ts.length:=by simp [tX]
end Dp
namespace Dp
open PySem L2
theorem Dy{b r:Int}(hb:0<b)(hr:0<r):0<b*r.fdiv (Fr.cp b r)/\r∣b*r.fdiv (Fr.cp b r):=by
 have g0:=xw (a:=b) (b:=r) (by omega);obtain⟨g1,g2⟩:=zz b r;obtain⟨e,q0,_⟩:=sj g0 hr g2;refine⟨av hb q0,?_⟩;obtain⟨c,hc⟩:=g1;refine⟨c,?_⟩;generalize r.fdiv (Fr.cp b r)=q at *;generalize Fr.cp b r=g at *;subst hc e;grind
abbrev HE(fs:List (Int×Int)):List D:=fs.map fun f=>fD f.1 f.2
theorem AT{fs:List (Int×Int)}{i:Nat}{d:D}(h:(HE fs)[i]? = some d):∃ f,fs[i]? = some f/\d=fD f.1 f.2:=by
 rw [aw] at h;obtain⟨p,hp,rfl⟩:=ab.mp h;exact⟨p,hp,rfl⟩
def jg:TSd:=(gz [] (gw (gj (gL (gU (gk 0)) [2] (gNm 2) hJ (gr .Mult (dIx (gk 2) (dC (.int 0))) (gr .FloorDiv (gk 1) (dIx (gk 2) (dC (.int 1)))))) (gj (gk 1) gm))))
def jh:TSd:=dSq (iA [] (gU (gk 0)) (gNm 2)
 (nA [] 1 .Mult (gr .FloorDiv (dIx (gk 2) (dC (.int 1))) (gq hZ (gj (gk 1) (gj (dIx (gk 2) (dC (.int 1))) gm))))))
 jg
def iF:TSd:=dSq (gB [] (gNm 1) (dC (.int 1)))
 jh
end Dp
namespace Dp
open PySem L2
def Sq(x:D)(A:List Int):Prop:=x = .lst (A.map .int)\/x = .tup (A.map .int)
theorem Sq.it{x:D}{A:List Int}(h:Sq x A):∀ R:List D->Prop,R (A.map .int)->itemsD x R:=fun R r=>by
 rcases h with rfl|rfl
 ·exact r
 ·exact r
def iL:SpB:=.of 2 (α:=D×D×List Int×List Int) (fun (x,y,A,B) ds=>ds=[x,y]/\Sq x A/\Sq y B/\A.length<=1000/\B.length<=1000)
 (fun (x,y,A,B) d=>∃ rs:List Int,d = .lst (rs.map .int)/\rs.length=max A.length B.length/\∀ k,rs.getD k 0=A.getD k 0+B.getD k 0)
def jQ:TSd:=(gz [4] (gk 4))
def jR:TSd:=dSq (iA [] (iE (gk 3)) (gTp [5,6])
 (kX [] 4 (gk 5) .Add (gk 6)))
 jQ
def gM:TSd:=dSq (kW [] 4 (jf (gk 2)))
 jR
def kG:TSd:=dSq (gB [] (gTp [2,3]) (oh (gx (gD .GtE (dB bLen bLen.mono (gj (gk 0) gm)) (dB bLen bLen.mono (gj (gk 1) gm)))) (gw (gj (gk 0) (gj (gk 1) gm))) (gw (gj (gk 1) (gj (gk 0) gm)))))
 gM
theorem EV{s0 s1:SD}{x y:D}{L S:List Int}{Q:D->Prop}(hx:Sq x L)(hy:Sq y S)(hl:S.length<=L.length)(q:∀ rs:List Int,rs.length=L.length->(∀ k,rs.getD k 0=L.getD k 0+S.getD k 0)->Q (.lst (rs.map .int))) :
  gM.run (qt Q) [s0,s1,.val x,.val y,.no,.no,.no]:=by
 refine hx.it _ (hy.it _ ⟨fun i s=>∃(o5 o6:SD) (rs:List Int),s=[s0,s1,.val x,.val y,.own (rs.map .int),o5,o6]/\rs.length=L.length/\∀ k,rs.getD k 0=L.getD k 0+(if k<i then S.getD k 0 else 0),⟨.no,.no,L,rfl,rfl,fun k=>by rw [if_neg (by omega),bL]⟩,?_,?_⟩)
 ·rintro i d _ hd ⟨o5,o6,rs,rfl,lr,hr⟩;obtain⟨hi,rfl⟩:=sJ hd;refine⟨rfl,by show (0:Int)<=((i:Nat):Int);omega,?_⟩;refine AS (d:=.int (rs.getD i 0)) (rJ (ts:=rs) (i:=i) (by omega)) ⟨.val (.int (i:Nat)),.val (.int (S.getD i 0)),rs.set i (rs.getD i 0+S.getD i 0),?_,by rw [aW,lr],fun k=>?_⟩
  ·show [s0,s1,.val x,.val y,.own ((rs.map D.int).set i (.int (rs.getD i 0+S.getD i 0))),.val (.int (i:Nat)),.val (.int (S.getD i 0))]=_;rw [map_set]
  ·rw [FW (by omega)];by_cases e:k=i
   ·rw [if_pos e,e,hr i,if_neg (by omega),if_pos (by omega)];omega
   ·rw [if_neg e,hr k];by_cases c:k<i
    ·rw [if_pos c,if_pos (by omega)]
    ·rw [if_neg c,if_neg (by omega)]
 ·rintro _ ⟨o5,o6,rs,rfl,lr,hr⟩;refine q rs lr fun k=>?_;have h:=hr k;rw [C6] at h;rw [h];by_cases c:k<S.length
  ·rw [if_pos c]
  ·rw [if_neg c,qp (fs:=S) (by omega)]
theorem jy:Does 7 kG iL:=by
 rintro ds Q hn ⟨⟨x,y,A,B⟩,⟨rfl,hx,hy,la,lb⟩,q⟩;dsimp only at hx hy la lb q;have g1:B.length<=A.length->gM.run (qt Q) [.val x,.val y,.val x,.val y,.no,.no,.no]:=fun c=>EV hx hy c fun rs lr hr=>q _ ⟨rs,rfl,by rw [lr];omega,hr⟩;have g2:A.length<=B.length->gM.run (qt Q) [.val x,.val y,.val y,.val x,.no,.no,.no]:=fun c=>EV hy hx c fun rs lr hr=>q _ ⟨rs,rfl,by rw [lr];omega,fun k=>by rw [hr k];omega⟩;have key:(if decide ((((B.map D.int).length:Nat):Int)<=(((A.map D.int).length:Nat):Int))=true then (2<=sizeLine/\2=2/\gM.run (qt Q) [.val x,.val y,.val x,.val y,.no,.no,.no]) else (2<=sizeLine/\2=2/\gM.run (qt Q) [.val x,.val y,.val y,.val x,.no,.no,.no])):=by
  refine sS (fun c=>⟨qW,rfl,g1 ?_⟩) (fun c=>⟨qW,rfl,g2 ?_⟩)
  ·rw [aa,aa] at c;omega
  ·rw [aa,aa] at c;omega
 rcases hx with rfl|rfl <;> rcases hy with rfl|rfl <;> exact key
def iC:SpB:=.of 2 (α:=D×D×List Int×List Int×Nat×Nat) (fun (x,y,A,B,n,m) ds=>ds=[x,y]/\Sq x A/\Sq y B/\A.length<=450/\B.length<=450/\(∀ i,Lt2 n (A.getD i 0))/\(∀ i,Lt2 m (B.getD i 0))/\n+m<=100000000)
 (fun (x,y,A,B,n,m) d=>∃ rs:List Int,d = .lst (rs.map .int)/\rs.length<=A.length+B.length/\∀ k,rs.getD k 0=Cv.cv (Cv.fn A) (Cv.fn B) k)
def ji:TSd:=(gz [2] (gk 2))
def g6:TSd:=dSq (iA [] (iE (gk 0)) (gTp [3,4])
 (iA [] (iE (gk 1)) (gTp [5,6])
 (kX [] 2 (gr .Add (gk 3) (gk 5)) .Add (gr .Mult (gk 4) (gk 6)))))
 ji
def jj:TSd:=dSq (kW [] 2 (gr .Mult (gE (gj (dC (.int 0)) gm)) (gr .Sub (gr .Add (dB bLen bLen.mono (gj (gk 0) gm)) (dB bLen bLen.mono (gj (gk 1) gm))) (dC (.int 1)))))
 g6
def jS:TSd:=dSq (dIf [] (iQ (ip (iP (gk 0))) (ip (iP (gk 1))))
 (gz [] (gE gm))
 gC)
 jj
theorem HH{x y:D}{A B:List Int}{n m:Nat}{Q:D->Prop}(hx:Sq x A)(hy:Sq y B)(a0:0<A.length)(b0:0<B.length)(hA:∀ i,Lt2 n (A.getD i 0))(hB:∀ i,Lt2 m (B.getD i 0))(hnm:n+m<=100000000)(q:∀ rs:List Int,rs.length<=A.length+B.length->(∀ k,rs.getD k 0=Cv.cv (Cv.fn A) (Cv.fn B) k)->Q (.lst (rs.map .int))) :
  g6.run (qt Q) [.val x,.val y,.own ((List.replicate (A.length+B.length-1) (0:Int)).map .int),.no,.no,.no,.no]:=by
 refine hx.it _ ⟨fun i s=>∃(rs:List Int) (o3 o4 o5 o6:SD),s=[.val x,.val y,.own (rs.map .int),o3,o4,o5,o6]/\rs.length=A.length+B.length-1/\∀ k,rs.getD k 0=Cv.tm (Cv.fn A) (Cv.fn B) i k,⟨_,_,_,_,_,rfl,aC,fun k=>vD _ _⟩,?_,?_⟩
 ·rintro i d _ hd ⟨rs,o3,o4,o5,o6,rfl,lr,hr⟩;obtain⟨hi,rfl⟩:=sJ hd;refine⟨rfl,hy.it _ ⟨fun k s=>∃(rs:List Int) (o5 o6:SD),s=[.val x,.val y,.own (rs.map .int),.val (.int (i:Nat)),.val (.int (A.getD i 0)),o5,o6]/\rs.length=A.length+B.length-1/\∀ m,rs.getD m 0=Cv.tm (Cv.fn A) (Cv.fn B) i m+(if i<=m/\m-i<k then Cv.fn A i*Cv.fn B (m-i) else 0),⟨rs,_,_,rfl,lr,fun m=>by rw [hr m,if_neg (by omega),bL]⟩,?_,?_⟩⟩
  ·rintro k d _ hd ⟨rs',o5',o6',rfl,lr',hr4⟩;obtain⟨hk,rfl⟩:=sJ hd;have hiF:i+k<rs'.length:=by omega
   refine⟨rfl,by show (0:Int)<=(i:Int)+(k:Int);omega,?_⟩;refine AS (d:=.int (rs'.getD (i+k) 0)) (rJ (ts:=rs') (i:=i+k) hiF) ⟨⟨n,m,hA i,hB k,hnm⟩,rs'.set (i+k) (rs'.getD (i+k) 0+A.getD i 0*B.getD k 0),.val (.int (k:Nat)),.val (.int (B.getD k 0)),?_,by rw [aW];exact lr',fun m=>?_⟩
   ·show [SD.val x,.val y,.own ((rs'.map D.int).set (i+k) (.int (rs'.getD (i+k) 0+A.getD i 0*B.getD k 0))),.val (.int (i:Nat)),.val (.int (A.getD i 0)),.val (.int (k:Nat)),.val (.int (B.getD k 0))]=_;rw [map_set]
   ·rw [ue hiF];by_cases e:m=i+k
    ·subst e;rw [if_pos rfl,hr4,if_neg (by omega),if_pos ⟨by omega,by omega⟩,show i+k-i=k by omega,bL];rfl
    ·rw [if_neg e,hr4];congr 1;by_cases c:i<=m/\m-i<k
     ·rw [if_pos c,if_pos ⟨c.1,by omega⟩]
     ·rw [if_neg c,if_neg (by omega)]
  ·rintro _ ⟨rs',o5',o6',rfl,lr',hr4⟩;rw [qC,aa] at hr4;refine⟨rs',_,_,_,_,rfl,lr',fun m=>?_⟩;rw [hr4 m,Cv.wW];congr 1;by_cases c:i<=m
   ·rw [if_pos c];by_cases c':m-i<B.length
    ·rw [if_pos ⟨c,c'⟩]
    ·rw [if_neg (fun z=>c' z.2),Cv.qr (P:=B) (by omega),bF]
   ·rw [if_neg c,if_neg (fun z=>c z.1)]
 ·rintro _ ⟨rs,o3,o4,o5,o6,rfl,lr,hr⟩;rw [qC,aa] at hr;exact q rs (by omega) fun k=>by rw [hr k,Cv.tM fun j h=>Cv.qr h]
theorem i8:Does 7 jS iC:=by
 rintro ds Q hn ⟨⟨x,y,A,B,n,m⟩,⟨rfl,hx,hy,la,lb,hA,hB,hnm⟩,q⟩;dsimp only at hx hy la lb hA hB hnm q;have none:(A=[]\/B=[])->0<=sizeLine/\Q (.lst []):=fun h=>⟨aI _,q _ ⟨[],rfl,aI _,fun k=>by
  rcases h with rfl|rfl
  ·exact (Cv.AL fun _=>rfl).symm
  ·exact (Cv.Fv fun _=>rfl).symm⟩⟩
 cases A with
 | nil=>rcases hx with rfl|rfl <;> exact none (.inl rfl)
 | cons a A =>
  cases B with
  | nil=>rcases hx with rfl|rfl <;> rcases hy with rfl|rfl <;> exact none (.inr rfl)
  | cons b B =>
   have go:=HH (Q:=Q) hx hy (dU _) (dU _) hA hB hnm fun rs lr hr=>q _ ⟨rs,rfl,lr,hr⟩;have e0:((((a::A).map D.int).length:Nat):Int)+((((b::B).map D.int).length:Nat):Int)-1=(((a::A).length+(b::B).length-1:Nat):Int):=by
    rw [aa,aa,aY,aY];omega
   have lN:(a::A).length+(b::B).length-1<=1000:=by omega
   have key:1<=sizeLine /\ -(2^63)<=((((a::A).map D.int).length:Nat):Int)+((((b::B).map D.int).length:Nat):Int)-1/\((((a::A).map D.int).length:Nat):Int)+((((b::B).map D.int).length:Nat):Int)-1<2^63/\1*(((((a::A).map D.int).length:Nat):Int)+((((b::B).map D.int).length:Nat):Int)-1).toNat<=sizeLine /\
     g6.run (qt Q) [.val x,.val y,.own (List.replicate (((((a::A).map D.int).length:Nat):Int)+((((b::B).map D.int).length:Nat):Int)-1).toNat [D.int 0]).flatten,.no,.no,.no,.no]:=by
    rw [e0,aJ,qO];generalize (a::A).length+(b::B).length-1=z at *;exact⟨rZ,by omega,by omega,rE (by omega),go⟩
   rcases hx with rfl|rfl <;> rcases hy with rfl|rfl <;> exact key
end Dp
namespace Dp
open PySem L2
def i9:SpB:=.of 2 (α:=List Int×Int×List Int×Int×Nat×Nat×Nat×Nat) (fun (P,B,P',B',n,b,m,c) ds=>ds=[pD P B,pD P' B']/\Pc.Pz n b P B/\Pc.Pz m c P' B'/\b+c<=9000000/\n+m<=9000000/\P.length<=450/\P'.length<=450)
 (fun (P,B,P',B',n,b,m,c) d=>∃ R C,d=pD R C/\Po.Fm R C/\∀ k,R.getD k 0*(B*B')=Cv.cv (Cv.fn P) (Cv.fn P') k*C)
def pr:TSd:=(gz [] (gq ir (gj (gq iC (gj (dIx (gk 0) (dC (.int 0))) (gj (dIx (gk 1) (dC (.int 0))) gm))) (gj (gr .Mult (dIx (gk 0) (dC (.int 1))) (dIx (gk 1) (dC (.int 1)))) gm))))
theorem nM:Does 2 pr i9:=by
 rintro ds Q hn ⟨⟨P1,B1,P2,B2,n,b,m,c⟩,⟨rfl,G1,G2,hb,hm,l1,l2⟩,q⟩;dsimp only at G1 G2 hb hm l1 l2 q;refine⟨rfl,(_,_,P1,P2,n,m),⟨rfl,.inr rfl,.inr rfl,l1,l2,G1.tops,G2.tops,by show n+m<=100000000;omega⟩,?_⟩;rintro _ ⟨rs,rfl,lr,hr⟩;have lr:rs.length<=P1.length+P2.length:=lr;refine⟨⟨b,c,G1.bot,G2.bot,by omega⟩,rfl,(rs,B1*B2),⟨rfl,av G1.fm.pos G2.fm.pos,(G1.bot.mul G2.bot).mono hb,by show rs.length<=1000;omega⟩,?_⟩;rintro _ ⟨R,C,rfl,fm,hw,_⟩;exact q _ ⟨R,C,rfl,fm,fun k=>(hw k).trans (by rw [← hr k])⟩
def kS:SpB:=.of 2 (α:=List Int×Int×List Int×Int×Nat×Nat×Nat×Nat) (fun (P,B,P',B',n,b,m,c) ds=>ds=[pD P B,pD P' B']/\Pc.Pz n b P B/\Pc.Pz m c P' B'/\b+c<=9000000/\n+m<=9000000/\P.length<=900/\P'.length<=900)
 (fun (P,B,P',B',n,b,m,c) d=>∃ R C,d=pD R C/\Po.Fm R C/\∀ k,R.getD k 0*(B*B')=(P.getD k 0*B'+P'.getD k 0*B)*C)
def oG:TSd:=(gz [] (gq ir (gj (gq iL (gj (gk 2) (gj (gk 4) gm))) (gj (gr .Mult (dIx (gk 0) (dC (.int 1))) (dIx (gk 1) (dC (.int 1)))) gm))))
def oI:TSd:=dSq (gB [] (gNm 4) (gL (gU (dIx (gk 1) (dC (.int 0)))) [3] (gNm 3) hJ (gr .Mult (gk 3) (dIx (gk 0) (dC (.int 1))))))
 oG
def pS:TSd:=dSq (gB [] (gNm 2) (gL (gU (dIx (gk 0) (dC (.int 0)))) [3] (gNm 3) hJ (gr .Mult (gk 3) (dIx (gk 1) (dC (.int 1))))))
 oI
theorem y7{A:List Int}{c:Int}(k:Nat):(A.map fun z=>z*c).getD k 0=A.getD k 0*c:=by
 rw [ah,ah,aw];cases A[k]? <;> simp
theorem on:Does 5 pS kS:=by
 rintro ds Q hn ⟨⟨P1,B1,P2,B2,n,b,m,c⟩,⟨rfl,G1,G2,hb,hm,l1,l2⟩,q⟩;dsimp only at G1 G2 hb hm l1 l2 q;refine⟨(congrArg (· <= sizeLine) (aa _)).mpr (rE (by omega)),mI (fun z=>z*B2) P1,mI.nil,fun i d ys hd _ hy=>?_,fun ys _ hy=>?_⟩
 ·obtain⟨z,hz,rfl⟩:=ur hd;have e:P1.getD i 0=z:=rO hz;exact⟨⟨n,c,e ▸ G1.tops i,G2.bot,by omega⟩,hy.snoc hz rfl⟩
 cases hy.all (by rw [aa]);refine⟨(congrArg (· <= sizeLine) (aa _)).mpr (rE (by omega)),mI (fun z=>z*B1) P2,mI.nil,fun i d ys hd _ hy=>?_,fun ys _ hy=>?_⟩
 ·obtain⟨z,hz,rfl⟩:=ur hd;have e:P2.getD i 0=z:=rO hz;exact⟨⟨m,b,e ▸ G2.tops i,G1.bot,by omega⟩,hy.snoc hz rfl⟩
 cases hy.all (by rw [aa]);refine⟨rfl,(_,_,P1.map (fun z=>z*B2),P2.map (fun z=>z*B1)),⟨rfl,.inl rfl,.inl rfl,by show (P1.map _).length<=1000;rw [aa];omega,by show (P2.map _).length<=1000;rw [aa];omega⟩,?_⟩;rintro _ ⟨rs,rfl,lr,hr⟩;have lr:rs.length=max (P1.map fun z=>z*B2).length (P2.map fun z=>z*B1).length:=lr;rw [aa,aa] at lr;refine⟨⟨b,c,G1.bot,G2.bot,by omega⟩,rfl,(rs,B1*B2),⟨rfl,av G1.fm.pos G2.fm.pos,(G1.bot.mul G2.bot).mono hb,by show rs.length<=1000;omega⟩,?_⟩;rintro _ ⟨R,C,rfl,fm,hw,_⟩;refine q _ ⟨R,C,rfl,fm,fun k=>(hw k).trans ?_⟩;show rs.getD k 0*C=(P1.getD k 0*B2+P2.getD k 0*B1)*C;have h:rs.getD k 0=(P1.map fun z=>z*B2).getD k 0+(P2.map fun z=>z*B1).getD k 0:=hr k;rw [h,y7,y7]
def my:SpB:=.of 2 (α:=List Int×Int×Int×Int×Nat×Nat×Nat×Nat) (fun (P,B,t,u,n,b,m,c) ds=>ds=[pD P B,fD t u]/\Pc.Pz n b P B/\0<u/\Lt2 m t/\Lt2 c u/\b+c<=9000000/\n+m<=9000000/\P.length<=900)
 (fun (P,B,t,u,n,b,m,c) d=>∃ R C,d=pD R C/\Po.Fm R C/\(∀ k,R.getD k 0*(B*u)=(P.getD k 0*t)*C)/\R.length<=P.length)
def oJ:TSd:=(gz [] (gq ir (gj (gL (gU (dIx (gk 0) (dC (.int 0)))) [2] (gNm 2) hJ (gr .Mult (gk 2) (dIx (gk 1) (dC (.int 0))))) (gj (gr .Mult (dIx (gk 0) (dC (.int 1))) (dIx (gk 1) (dC (.int 1)))) gm))))
theorem nh:Does 3 oJ my:=by
 rintro ds Q hn ⟨⟨P,B,t,u,n,b,m,c⟩,⟨rfl,G1,u0,lt,lu,hb,hm,l1⟩,q⟩;dsimp only at G1 u0 lt lu hb hm l1 q;refine⟨(congrArg (· <= sizeLine) (aa _)).mpr (rE (by omega)),mI (fun z=>z*t) P,mI.nil,fun i d ys hd _ hy=>?_,fun ys _ hy=>?_⟩
 ·obtain⟨z,hz,rfl⟩:=ur hd;have e:P.getD i 0=z:=rO hz;exact⟨⟨n,m,e ▸ G1.tops i,lt,by omega⟩,hy.snoc hz rfl⟩
 cases hy.all (by rw [aa]);refine⟨⟨b,c,G1.bot,lu,by omega⟩,rfl,(P.map (fun z=>z*t),B*u),⟨rfl,av G1.fm.pos u0,(G1.bot.mul lu).mono hb,by show (P.map _).length<=1000;rw [aa];omega⟩,?_⟩;rintro _ ⟨R,C,rfl,fm,hw,hle⟩;have hle:R.length<=(P.map fun z=>z*t).length:=hle;rw [aa] at hle;refine q _ ⟨R,C,rfl,fm,fun k=>(hw k).trans ?_,hle⟩;show (P.map fun z=>z*t).getD k 0*C=P.getD k 0*t*C;rw [y7]
end Dp
namespace Dp
open PySem L2
theorem ri{a b:Int}:((a*b:Int):Rat)=(a:Rat)*(b:Rat):=ar a b
end Dp
namespace Dp
open PySem L2
variable{P:Program}{w:World}{K:Frag}{mg:Str->Option Value}{base:Heap}
def sC(K:Frag)(n:Nat):Sp:=fun vs H Q _=>∃(d:DV) (x y:V),vs=[x,y]/\Rep K H d x/\Rep K H d y/\d.dp<n/\d.wd<=100000/\∀ H',Same H H'->Q (.bl true) H'
end Dp
namespace Qp
open L2 Cv Hv Pc
def tc(r:Rat):Nat->Nat->Rat
 | 0,k=>if k=0 then 2 else 0
 | 1,k=>if k=1 then 1 else 0
 | n+2,k=>(if k=0 then 0 else tc r (n+1) (k-1))-tc r n k*r
theorem tc.two(r:Rat)(n k:Nat):tc r (n+2) k=(if k=0 then 0 else tc r (n+1) (k-1))-tc r n k*r:=by rw [tc]
theorem yM{t u:Int}{M:Nat}(u0:0<u)(lt:Lt2 M t)(lu:Lt2 M u):∀ n:Nat,∃ F:Nat->Int,(∀ k,tc ((t:Rat) / (u:Rat)) n k=((F k:Int):Rat) / ((u^n:Int):Rat))/\(∀ k,Lt2 ((2*M+1)*n+2) (F k))/\∀ k,n<k->F k=0
 | 0=>⟨fun k=>if k=0 then 2 else 0,fun k=>by
   rw [bc];show (if k=0 then (2:Rat) else 0)=(((if k=0 then 2 else 0):Int):Rat) / _;by_cases c:k=0
   ·rw [if_pos c,if_pos c];show (2:Rat)=(2:Rat) / 1;grind
   ·rw [if_neg c,if_neg c];show (0:Rat)=(0:Rat) / 1;grind,fun k=>by
   show Lt2 _ (if k=0 then 2 else 0);split
   ·exact (show Lt2 2 2 by unfold Lt2;decide).mono (by omega)
   ·exact bG (by decide),fun k hk=>if_neg (by omega)⟩
 | 1=>⟨fun k=>if k=1 then u else 0,fun k=>by
   rw [bC,bc,bA];show (if k=1 then (1:Rat) else 0)=(((if k=1 then u else 0):Int):Rat) / _;have:=qm u0;by_cases c:k=1
   ·rw [if_pos c,if_pos c];grind
   ·rw [if_neg c,if_neg c];show (0:Rat)=(0:Rat) / (u:Rat);grind,fun k=>by
   show Lt2 _ (if k=1 then u else 0);split
   ·exact lu.mono (by omega)
   ·exact bG (by decide),fun k hk=>if_neg (by omega)⟩
 | n+2=>by
  obtain⟨F,f1,f2,f3⟩:=yM u0 lt lu (n+1);obtain⟨G,g1,g2,g3⟩:=yM u0 lt lu n;have nu:=qm u0;have np:=vF nu n;have s2:Lt2 (2*M) (t*u):=(lt.mul lu).mono (by omega);refine⟨fun k=>(if k=0 then 0 else F (k-1))*u-G k*(t*u),fun k=>?_,fun k=>?_,fun k hk=>?_⟩
  ·rw [tc.two,g1 k];simp only [ev,ar,cR];have e1:(u:Rat)^(n+2)=(u:Rat)^n*u*u:=by grind
   have e2:(u:Rat)^(n+1)=(u:Rat)^n*u:=by grind
   by_cases c:k=0
   ·rw [if_pos c,if_pos c,e1];have:((0:Int):Rat)=0:=rfl;rw [this];generalize (u:Rat)^n=w at *;grind
   ·rw [if_neg c,if_neg c,f1 (k-1),cR,e1,e2];generalize (u:Rat)^n=w at *;grind
  ·have a:Lt2 ((2*M+1)*(n+1)+2+M) ((if k=0 then 0 else F (k-1))*u):=by
    refine Lt2.mul ?_ lu;split
    ·exact bG (by decide)
    ·exact f2 _
   have b:=(g2 k).mul s2;refine ((a.mono (m:=(2*M+1)*n+2+(2*M)+(M+1)) ?_).sub (b.mono ?_)).mono ?_ <;> grind
  ·show (if k=0 then 0 else F (k-1))*u-G k*(t*u)=0;rw [if_neg (by omega),f3 (k-1) (by omega),g3 k (by omega)];simp
end Qp
namespace Dp
open PySem L2
theorem Ly{P R:List Int}{B C:Int}(p:0<B)(c:0<C)(h:∀ k,R.getD k 0*(1*B)=Cv.cv (Cv.fn Pc.X) (Cv.fn P) k*C)(k:Nat):Qp.q R C k=if k=0 then 0 else Qp.q P B (k-1):=by
 rw [Qp.uC (f:=fun k=>Cv.cv (Cv.fn Pc.X) (Cv.fn P) k) c (by omega) h k,Cv.rP,Pc.Jp (Cv.fn P) k,bA];by_cases e:k=0
 ·rw [if_pos e,if_pos e];show (0:Rat) / _=0;grind
 ·rw [if_neg e,if_neg e];rfl
theorem B5{P R:List Int}{B C t u:Int}(p:0<B)(c:0<C)(u0:0<u)(h:∀ k,R.getD k 0*(B*u)=(P.getD k 0*t)*C)(k:Nat):Qp.q R C k=Qp.q P B k*((t:Rat) / (u:Rat)):=by
 rw [Qp.uC (f:=fun k=>P.getD k 0*t) c (ao (av p u0)) h k];unfold Qp.q;simp only [ar];have n1:=Qp.qm p;have n2:=Qp.qm u0;grind
def Tk(r:Rat)(n:Nat)(P:List Int)(B:Int):Prop:=Po.Fm P B/\∀ k,Qp.q P B k=Qp.tc r n k
theorem Tk.pz{r:Rat}{n M:Nat}{P:List Int}{B:Int}{d:D}(h:Tk r n P B)(f:FqD M M d r):Pc.Pz ((2*M+1)*n+2) (M*n+1) P B/\P.length<=n+1:=by
 obtain⟨t,u,_,u0,_,lt,lu,rfl⟩:=f;obtain⟨F,f1,f2,f3⟩:=Qp.yM u0 lt lu n;have p:0<u^n:=cP u0;have hw:∀ k,P.getD k 0*u^n=F k*B:=fun k=>(Qp.rh (ao h.1.pos) (ao p)).mp ((h.2 k).trans (f1 k));exact⟨Pc.Pz.of h.1 p hw f2 (Hv.rF lu n),Pc.qH h.1 p hw fun k hk=>f3 k (by omega)⟩
theorem Tk.szs{r:Rat}{n M:Nat}{P:List Int}{B:Int}{d:D}(h:Tk r n P B)(f:FqD M M d r)(hM:M<=21)(hn:n<=13):Pc.Pz 570 280 P B/\P.length<=14:=by
 obtain⟨a,b⟩:=h.pz f;have:M*n<=21*13:=aL hM hn;have:(2*M+1)*n<=43*13:=aL (by omega) hn;exact⟨a.mono (by omega) (by omega),by omega⟩
theorem Tk.zero{r:Rat}:Tk r 0 [2] 1:=⟨⟨by decide,.inr (by decide),by decide⟩,fun k=>by
 cases k with
 | zero=>show (2:Rat) / 1=2;grind
 | succ k=>show ((([2]:List Int).getD (k+1) 0:Int):Rat) / ((1:Int):Rat)=0;rw [fc,qp (aI _)];show (0:Rat) / 1=0;grind⟩
theorem Tk.one{r:Rat}:Tk r 1 Pc.X 1:=⟨Pc.Jz.fm,fun k=>by
 match k with
 | 0=>show (0:Rat) / 1=0;grind
 | 1=>show (1:Rat) / 1=1;grind
 | k+2 =>
  rw [Qp.Af (by show 2<=k+2;omega)];show 0=if k+2=1 then 1 else 0;rw [if_neg (by omega)]⟩
end Dp
namespace Dp
open PySem L2
def ii:SpB:=.of 2 (α:=Nat×D×Rat×Nat) (fun (n,d,r,M) ds=>ds=[.int n,d]/\FqD M M d r/\M<=21/\1<=n/\n<=12) (fun (n,d,r,M) e=>∃ P B,e=pD P B/\Tk r n P B)
def jT:TSd:=(gz [] (kT 2 (gk 0)))
def jU:TSd:=dSq (iA [] (kU (gr .Sub (gk 0) (dC (.int 1)))) (gNm 3)
 (dSq (gB [] (gNm 4) (gq gv (gj (kT 2 (iW (dC (.int 2)))) (gj (gq gu (gj (gE (gj (gr .Sub (dC (.int 0)) (dIx (gk 1) (dC (.int 0)))) gm)) (gj (dIx (gk 1) (dC (.int 1))) gm))) gm))))
 (oi [] 2 (gq gA (gj (gq gv (gj (gw (gj (gw (gj (dC (.int 0)) (gj (dC (.int 1)) gm))) (gj (dC (.int 1)) gm))) (gj (kT 2 (iW (dC (.int 1)))) gm))) (gj (gk 4) gm))))))
 jT
def kH:TSd:=dSq (kW [] 2 (gE (gj (gw (gj (gw (gj (dC (.int 2)) gm)) (gj (dC (.int 1)) gm))) (gj (gw (gj (gw (gj (dC (.int 0)) (gj (dC (.int 1)) gm))) (gj (dC (.int 1)) gm))) gm))))
 jU
theorem C3(a y b c:Rat)(n1:b≠0)(n2:c≠0):a*y / (b*c)=a / b*(y / c):=by grind
theorem Bz(t u:Rat):(0-t) / u=0-t / u:=by grind
theorem DR{P S R:List Int}{B U C t u:Int}(b0:0<B)(b8:0<U)(c0:0<C)(u0:0<u)(w:S.getD 0 0*u=t*U)(h:∀ k,R.getD k 0*(B*U)=P.getD k 0*S.getD 0 0*C)(k:Nat):Qp.q R C k=Qp.q P B k*((t:Rat) / (u:Rat)):=by
 rw [Qp.uC (f:=fun k=>P.getD k 0*S.getD 0 0) c0 (ao (av b0 b8)) h k,ar,ar,C3 _ _ _ _ (Qp.qm b0) (Qp.qm b8),(Qp.rh (ao b8) (ao u0)).mpr w];rfl
theorem jz:Does 5 kH ii:=by
 rintro ds Q hn ⟨⟨n,d,r,M⟩,⟨rfl,f,hM,n1,n12⟩,q⟩;dsimp only at f hM n1 n12 q;have en:((n:Int)-1).toNat=n-1:=by omega
 have f':=f;obtain⟨t,u,rfl,u0,g,lt,lu,hr⟩:=f';refine⟨rZ,qW,qW,qW,qW,by omega,by omega,fun i s=>∃(o3 o4:SD) (xs:List D),s=[.val (.int n),.val (fD t u),.own xs,o3,o4]/\xs.length=i+2/\∀(j:Nat) (x:D),xs[j]? = some x->∃ P B,x=pD P B/\Tk r j P B,⟨.no,.no,_,rfl,rfl,fun j x hx=>?_⟩,?_,?_⟩
 ·match j,hx with
  | 0,hx =>
   cases hx;exact⟨[2],1,rfl,Tk.zero⟩
  | 1,hx =>
   cases hx;exact⟨[0,1],1,rfl,Tk.one⟩
 ·rintro i d _ hd ⟨o3,o4,xs,rfl,lx,hxs⟩;obtain⟨hi,rfl⟩:=rc hd;have hi:i<n-1:=by omega
  obtain⟨x0,e0⟩:∃ x,xs[i]? = some x:=⟨xs[i]'(by omega),by simp⟩;obtain⟨x1,e1⟩:∃ x,xs[i+1]? = some x:=⟨xs[i+1]'(by omega),by simp⟩;obtain⟨P0,B0,rfl,h0⟩:=hxs i x0 e0;obtain⟨P1,B1,rfl,h1⟩:=hxs (i+1) x1 e1;obtain⟨z0,l0⟩:=h0.szs f hM (by omega);obtain⟨z1,l1⟩:=h1.szs f hM (by omega);have b0:=h0.1.pos;have b1:=h1.1.pos;refine t7 (vX (j:=2) (by rw [show i+2-2=i by omega];exact e0) lx (by decide) (by omega)) ⟨rZ,rfl,([0-t],u),⟨.inl rfl,u0,lu.mono (by omega),by show 1<=1000;decide⟩,?_⟩;rintro _ ⟨P8,B8,rfl,f8,w8,l8⟩;have lt':Lt2 M (0-t):=lt.le (by omega);have z8:Pc.Pz M M P8 B8:=Pc.Pz.of f8 u0 w8 (fun k=>by
   cases k with
   | zero=>exact lt'
   | succ k=>rw [fc,qp (aI _)];exact uZ _) lu
  have l8':P8.length<=1:=l8;refine⟨rfl,(P0,B0,P8,B8,_,_,_,_),⟨rfl,z0,z8,by omega,by omega,by omega,by omega⟩,?_⟩;rintro _ ⟨P9,B9,rfl,f9,w9⟩;have c9:∀ k,Cv.cv (Cv.fn P0) (Cv.fn P8) k=P0.getD k 0*P8.getD 0 0:=Ca.yq fun k hk=>qp (by omega);have b8:=f8.pos;have z9:Pc.Pz 600 310 P9 B9:=(Pc.Pz.of f9 (av b0 b8) w9 (fun k=>by rw [c9 k];exact (z0.tops k).mul (z8.tops 0)) (z0.bot.mul z8.bot)).mono (by omega) (by omega);have l9:P9.length<=14:=Pc.qH f9 (av b0 b8) w9 fun k hk=>by
   rw [c9 k,qp (by omega),ax]
  have q9:∀ k,Qp.q P9 B9 k=Qp.q P0 B0 k*(0-r):=fun k=>by
   rw [DR (t:=0-t) b0 b8 f9.pos u0 (w8 0) (fun k=>by rw [w9 k,c9 k]) k,hr,ev];have i0:((0:Int):Rat)=0:=rfl;rw [i0];exact congrArg _ (Bz _ _)
  refine⟨qW,qW,t7 (vX (j:=1) (by rw [show i+2-1=i+1 by omega];exact e1) lx (by decide) (by omega)) ⟨rfl,(Pc.X,1,P1,B1,1,1,_,_),⟨rfl,Pc.Jz,z1,by decide,by decide,(by show 2<=450;decide),by omega⟩,?_⟩⟩;rintro _ ⟨R,C,rfl,fR,wR⟩;have cc:∀ k,Cv.cv (Cv.fn Pc.X) (Cv.fn P1) k=if k=0 then 0 else P1.getD (k-1) 0:=fun k=>by
   rw [Cv.rP];exact Pc.Jp (Cv.fn P1) k
  have zR:Pc.Pz 570 281 R C:=Pc.Pz.of fR (c:=1*B1) (by omega) wR (fun k=>by
   rw [cc k];split
   ·exact uZ _
   ·exact z1.tops _) (by rw [bA];exact z1.bot.mono (by decide))
  have lR:R.length<=15:=Pc.qH fR (c:=1*B1) (by omega) wR fun k hk=>by
   rw [cc k,if_neg (by omega),qp (by omega)]
  refine⟨rfl,(R,C,P9,B9,_,_,_,_),⟨rfl,zR,z9,by decide,by decide,by omega,by omega⟩,?_⟩;rintro _ ⟨V,W,rfl,fV,wV⟩;have hV:Tk r (i+2) V W:=⟨fV,fun k=>by
   rw [Qp.E7 fR.pos f9.pos fV.pos wV k,Ly b1 fR.pos wR k,q9 k,h0.2 k,Qp.tc.two];by_cases c:k=0
   ·rw [if_pos c,if_pos c];grind
   ·rw [if_neg c,if_neg c,h1.2 (k-1)];grind⟩
  refine⟨(by rw [lx,sizeLine_eq];omega),_,_,xs++[pD V W],rfl,by rw [ai,lx];rfl,fun j x hj=>?_⟩;rcases aP j xs.length with y|y
  ·rw [bj y] at hj;exact hxs j x hj
  ·have ej:j=i+2:=by
    have:=(aj.mp hj).1;rw [ai] at this;simp at this;omega
   subst ej;rw [aT (by omega),lx,bW] at hj;cases hj;exact⟨V,W,rfl,hV⟩
 ·rintro _ ⟨o3,o4,xs,rfl,lx,hxs⟩;rw [qz,en] at lx;obtain⟨x,ex⟩:∃ x,xs[n]? = some x:=⟨xs[n]'(by omega),by simp⟩;obtain⟨P1,B1,rfl,h⟩:=hxs n x ex;exact qM ex (q _ ⟨P1,B1,rfl,h⟩)
end Dp
namespace Ch
open L2 Cv Hv Pc Qp
abbrev Pl:=List Int×Int
end Ch
namespace Dp
open PySem L2 Ch
abbrev pq(p:Pl):D:=pD p.1 p.2
abbrev cD(cs:List Pl):D:=.tup (cs.map pq)
theorem Dk{l:List D}(h:1<=l.length):qE l none (some (-1))=l.take (l.length-1)/\¬ (HT.qT l.length 0 none=0/\HT.qT l.length l.length (some (-1))=l.length):=by
 have e:HT.qT l.length l.length (some (-1))=l.length-1:=by
  show (-1+(l.length:Int)).toNat=_;omega
 refine⟨?_,fun h=>by rw [e] at h;omega⟩;unfold qE;rw [e];rfl
end Dp
namespace Dp
open PySem L2 Ch
def gN:SpB:=.of 2 (α:=List Int×Int×Nat×Nat×Nat) (fun (P,B,k,n,b) ds=>ds=[pD P B,.int k]/\Pc.Pz n b P B/\b<=9000000) (fun (P,B,k,n,b) d=>FqD n b d (Qp.q P B k))
def lv:TSd:=(gz [] (gq gI (gj (dIx (dIx (gk 0) (dC (.int 0))) (gk 1)) (gj (dIx (gk 0) (dC (.int 1))) gm))))
def mW:TSd:=dSq (dIf [] (gx (gD .GtE (gk 1) (dB bLen bLen.mono (gj (dIx (gk 0) (dC (.int 0))) gm))))
 (gz [] (gw (gj (dC (.int 0)) (gj (dC (.int 1)) gm))))
 gC)
 lv
theorem kI:Does 2 mW gN:=by
 rintro ds Q hn ⟨⟨P,B,k,n,b⟩,⟨rfl,z1,hb⟩,q⟩;dsimp only at z1 hb q;have p1:=z1.fm.pos;refine sS (p:=((P.map D.int).length:Int)<=(k:Nat)) (fun c=>?_) (fun c=>?_)
 ·rw [aa] at c;refine⟨qW,q _ ?_⟩;rw [Qp.Af (by omega)];have:=uH (n:=n) (t:=0) (uZ _);refine this.mono (aq _) ?_;cases b with
  | zero =>
   have:B.natAbs<1:=z1.bot;omega
  | succ b=>omega
 ·rw [aa] at c;refine qM (rJ (by omega)) ⟨rfl,(P.getD k 0,B),⟨rfl,by show B≠0;omega,z1.bot.mono hb⟩,?_⟩;rintro _ rfl;exact q _ (FqD.of p1 (z1.tops k) z1.bot)
end Dp
namespace Dp
open PySem L2 Ch
theorem si{l:List D}{i:Int}{Q:D->Prop}(h0:0<=i)(h1:i<l.length)(h:∀ x∈l,Q x):itD l i Q:=by
 obtain⟨n,rfl⟩:∃ n:Nat,i=n:=⟨i.toNat,by omega⟩;exact qM (ac (by omega)) (h _ (bY _))
def kD(ks:List Nat):D:=.tup (ks.map fun (k:Nat)=>D.int (k:Int))
def iu:TSd:=(gz [] (dIx (gk 1) (gq gn (gj (gk 0) (gj (dB bLen bLen.mono (gj (gk 1) gm)) gm)))))
def ja:TSd:=dSq (dIf [] (gx (gD .Eq (gq gn (gj (gk 0) (gj (dC (.int 6)) gm))) (dC (.int 0))))
 (dSq (gB [] (gNm 1) (gE (gj (gw (gj (dC (.int 2)) (gj (dC (.int 2)) (gj (dC (.int 2)) gm)))) (gj (gw (gj (dC (.int 2)) (gj (dC (.int 2)) (gj (dC (.int 3)) gm)))) (gj (gw (gj (dC (.int 2)) (gj (dC (.int 3)) (gj (dC (.int 2)) gm)))) (gj (gw (gj (dC (.int 3)) (gj (dC (.int 2)) (gj (dC (.int 2)) gm)))) (gj (gw (gj (dC (.int 3)) (gj (dC (.int 3)) gm))) (gj (gw (gj (dC (.int 2)) (gj (dC (.int 4)) gm))) (gj (gw (gj (dC (.int 4)) (gj (dC (.int 2)) gm))) (gj (gw (gj (dC (.int 2)) (gj (dC (.int 5)) gm))) (gj (gw (gj (dC (.int 5)) (gj (dC (.int 2)) gm))) (gj (gw (gj (dC (.int 4)) (gj (dC (.int 3)) gm))) (gj (gw (gj (dC (.int 3)) (gj (dC (.int 4)) gm))) gm)))))))))))))
 (gB [] (gNm 1) (gr .Add (gk 1) (gE (gj (gw (gj (dC (.int 2)) (gj (dC (.int 6)) gm))) (gj (gw (gj (dC (.int 6)) (gj (dC (.int 2)) gm))) (gj (gw (gj (dC (.int 12)) gm)) (gj (gw (gj (dC (.int 8)) gm)) (gj (gw (gj (dC (.int 9)) gm)) (gj (gw (gj (dC (.int 10)) gm)) (gj (gw (gj (dC (.int 11)) gm)) (gj (gw (gj (dC (.int 7)) gm)) (gj (gw (gj (dC (.int 2)) gm)) gm)))))))))))))
 gC)
 iu
def jA:TSd:=dSq (gB [] (gNm 1) (gE (gj (gw (gj (dC (.int 2)) (gj (dC (.int 2)) gm))) (gj (gw (gj (dC (.int 2)) (gj (dC (.int 3)) gm))) (gj (gw (gj (dC (.int 3)) (gj (dC (.int 2)) gm))) (gj (gw (gj (dC (.int 2)) (gj (dC (.int 2)) gm))) (gj (gw (gj (dC (.int 4)) gm)) (gj (gw (gj (dC (.int 5)) gm)) (gj (gw (gj (dC (.int 6)) gm)) (gj (gw (gj (dC (.int 3)) gm)) gm))))))))))
 ja
def Dr(ks:List Nat)(cs:List Pl):Prop:=cs.map (fun c=>c.1.length)=ks.map (· + 1)/\∀ c∈cs,Pc.Pz 3 3 c.1 c.2
end Dp
namespace Ap
open L2 Cv Hv Pc Qp
theorem Aw(ts:List Int):∀ n,n<=ts.length->(∀ j,n<=j->ts.getD j 0=0)->∃ m,m<=ts.length/\(∀ j,m<=j->ts.getD j 0=0)/\(m=0\/ts.getD (m-1) 0≠0)
 | 0,_,h=>⟨0,aI _,h,.inl rfl⟩
 | n+1,l,h=>by
  by_cases c:ts.getD n 0=0
  ·refine Aw ts n (by omega) fun j hj=>?_;rcases bO hj with e|e
   ·rw [← e];exact c
   ·exact h j e
  ·exact⟨n+1,l,h,.inr c⟩
theorem has{F:Nat->Int}{n:Nat}{c:Int}(hc:0<c)(hF:∀ k,n<=k->F k=0):∃ R C,Po.Fm R C/\∀ k,R.getD k 0*c=F k*C:=by
 have e:∀ k,((List.range n).map F).getD k 0=F k:=fun k=>by
  rw [ah,aw];rcases aP k n with z|z
  ·rw [List.getElem?_range z];rfl
  ·rw [aS (by rw [fw];exact z)];exact (hF k z).symm
 obtain⟨m,h1,h2,h3⟩:=Aw ((List.range n).map F) n (by rw [aa,fw];exact aq _) fun j hj=>by rw [e];exact hF j hj
 obtain⟨f,w⟩:=Po.form hc h1 h2 h3;exact⟨_,_,f,fun k=>by rw [w k,e]⟩
theorem KA{P1 P2 R:List Int}{B1 B2 C:Int}(f1:Po.Fm P1 B1)(f2:Po.Fm P2 B2)(fR:Po.Fm R C)(n1:P1≠[])(n2:P2≠[])(h:∀ x,E R C x=E P1 B1 x*E P2 B2 x):P1.length+P2.length=R.length+1:=by
 have p:=av f1.pos f2.pos;obtain⟨S,D,fS,w⟩:=has (F:=cv (fn P1) (fn P2)) (n:=P1.length+P2.length) p fun k hk=>rj (a:=P1.length) (b:=P2.length) (fun j h=>qr h) (fun j h=>qr h) (by omega);obtain⟨rfl,rfl⟩:=FC fR fS fun x=>by rw [h,vj f1.pos f2.pos fS w]
 have l1:0<P1.length:=ci.mpr n1;have l2:0<P2.length:=ci.mpr n2;have t1:P1.getD (P1.length-1) 0≠0:=f1.last.resolve_left n1;have t2:P2.getD (P2.length-1) 0≠0:=f2.last.resolve_left n2;have top:=Dd (f:=fn P1) (g:=fn P2) (a:=P1.length-1) (b:=P2.length-1) (fun j hj=>qr (by omega)) (fun j hj=>qr (by omega));have e:=w (P1.length-1+(P2.length-1));rw [top] at e;have ne:R.getD (P1.length-1+(P2.length-1)) 0≠0:=fun z=>by
  rw [z,ax] at e;exact ca (ca t1 t2) (ao fR.pos) e.symm
 have up:R.length<=P1.length-1+(P2.length-1)+1:=qH fR p w fun k hk=>rj (a:=P1.length) (b:=P2.length) (fun j h=>qr h) (fun j h=>qr h) (by omega);have dn:P1.length-1+(P2.length-1)<R.length:=by
  rcases aP (P1.length-1+(P2.length-1)) R.length with z|z
  ·exact z
  ·exact absurd (qr (P:=R) z) ne
 omega
theorem JG(B:Int)(x:Rat):E [] B x=0:=by
 show (0:Rat) / _=0;grind
end Ap
namespace Dp
open PySem L2
theorem yv{P R:Nat->Int}{k s:Nat}{C:Int}(h:Ca.JH P k s R C)(s1:1<=s):R s=C/\R 0=0:=by
 obtain⟨c,g,c0,g0,h1,h2,h3⟩:=h;have:=h2 0 (by omega);rw [bE,bc,bo,g0,bA] at this;exact⟨this,h3⟩
end Dp
namespace Dp
open PySem L2
def dvs(n i:Nat):List Nat:=((List.range i).map (· + 1)).filter fun s=>n%s == 0
theorem yn(n i:Nat):dvs n (i+1)=dvs n i++(if n%(i+1)=0 then [i+1] else []):=by
 unfold dvs;rw [List.range_succ,aR,dQ];congr 1;by_cases c:n%(i+1)=0
 ·rw [if_pos c];simp [c]
 ·rw [if_neg c];simp [c]
def ky:SpB:=.of 1 (α:=Nat) (fun n ds=>ds=[.int n]/\n<=1000) (fun n d=>d = .lst ((dvs n n).map fun s=>D.int ((s:Nat):Int)))
def nN:TSd:=(gz [] (gL (iD (dC (.int 1)) (gr .Add (gk 0) (dC (.int 1)))) [1] (gNm 1) (gx (gD .Eq (gr .Mod (gk 0) (gk 1)) (dC (.int 0)))) (gk 1)))
theorem mh:Does 2 nN ky:=by
 rintro ds Q hn ⟨n,⟨rfl,hn⟩,q⟩;have lq:(uW 1 ((n:Int)+1-1).toNat).length=n:=by rw [qz];omega
 refine⟨⟨by omega,by omega,by omega,by omega⟩,(congrArg (· <= sizeLine) lq).mpr (rE (by omega)),fun i ys=>ys=(dvs n i).map fun s=>D.int ((s:Nat):Int),rfl,fun i d ys hd _ hy=>?_,fun ys _ hy=>?_⟩
 ·obtain⟨hi,rfl⟩:=rc hd;have hi:i<n:=by omega
  subst hy;have e1:(1:Int)+(i:Int)=((i+1:Nat):Int):=by omega
  rw [e1];refine⟨by omega,?_⟩;refine sS (p:=((n:Int).fmod ((i+1:Nat):Int))=0) (fun c=>?_) (fun c=>?_)
  ·have c':n%(i+1)=0:=by
    rw [cy _ (by omega)] at c;omega
   show (dvs n i).map (fun s=>D.int ((s:Nat):Int))++[D.int ((i+1:Nat):Int)]=(dvs n (i+1)).map fun s=>D.int ((s:Nat):Int);rw [yn,if_pos c',aR];rfl
  ·have c':¬ n%(i+1)=0:=fun z=>c (by
    rw [cy _ (by omega)];omega)
   show (dvs n i).map (fun s=>D.int ((s:Nat):Int))=(dvs n (i+1)).map fun s=>D.int ((s:Nat):Int);rw [yn,if_neg c',cr]
 ·have hy:ys=(dvs n (uW 1 ((n:Int)+1-1).toNat).length).map fun s=>D.int ((s:Nat):Int):=hy;rw [lq] at hy;subst hy;exact q _ rfl
end Dp
namespace Ap
open L2 Cv Hv Pc Qp
theorem GF:Po.Fm ([]:List Int) 1:=⟨by decide,.inl rfl,by decide⟩
end Ap
namespace Ap
open L2 Cv Hv Pc Qp
theorem Gc{A D:List Int}{a d:Int}(fA:Po.Fm A a)(fD:Po.Fm D d)(h:∀ x,E A a x=E D d x)(i:Nat):q A a i=q D d i:=by
 obtain⟨rfl,rfl⟩:=FC fA fD h;rfl
theorem Ij{A H D:List Int}{a c d:Int}{u:Rat}(fA:Po.Fm A a)(fH:Po.Fm H c)(fD:Po.Fm D d)(h:∀ x,E A a x=u*E H c x+E D d x)(i:Nat):q A a i=u*q H c i+q D d i:=by
 obtain⟨t,v,hv,rfl⟩:=xj u;have p1:=av fH.pos hv;have z1:∀ k,H.length<=k->H.getD k 0*t=0:=fun k hk=>by
  have:H.getD k 0=0:=qr hk;rw [this];simp
 obtain⟨S,e,fS,w⟩:=has (F:=fun k=>H.getD k 0*t) (n:=H.length) p1 z1;have eS:∀ x,E S e x=(t:Rat) / (v:Rat)*E H c x:=fun x=>by
  rw [vZ (N:=S.length+H.length) fS.pos (ao p1) w (by omega),vP,DC (P:=H) (N:=S.length+H.length) (by omega),ar];have n1:=qm fH.pos;have n2:=qm hv;show ei (fn H) x _*_ / _=_;generalize ei (fn H) x (S.length+H.length)=y;grind
 have qS:q S e i=(t:Rat) / (v:Rat)*q H c i:=by
  rw [uC (f:=fun k=>H.getD k 0*t) fS.pos (ao p1) w i,ar,ar];have n1:=qm fH.pos;have n2:=qm hv;unfold q;grind
 have p2:=av fS.pos fD.pos;obtain⟨V,b,fV,w2⟩:=has (F:=fun k=>S.getD k 0*d+D.getD k 0*e) (n:=S.length+D.length) p2 fun k hk=>by
  have x:S.getD k 0=0:=qr (by omega);have y:D.getD k 0=0:=qr (by omega);rw [x,y];simp
 rw [Gc fA fV (fun x=>by rw [h,DB fS.pos fD.pos fV.pos w2,eS]) i,E7 fS.pos fD.pos fV.pos w2,qS]
end Ap
namespace Ca
open L2 Cv Hv Pc Qp
theorem E2{G g:Nat->Int}{c U:Int}{k s j:Nat}(h:∀ i,i<s->G (s-i)*c^i=g i*U)(hj:j<s):pw (rv s G) k j*c^j=pw g k j*U^k:=by
 rw [← Cd,← B7];refine E8 (n:=j) (fun i hi=>?_) k j (aq _);show rv s G i*c^i=g i*U;rw [← h i (by omega)];unfold rv;rw [if_pos (by omega)]
end Ca
namespace Dp
open PySem L2
theorem tH(t k:Nat)(r:Int):(List.replicate t (0:Int)++[r]).getD k 0=if k=t then r else 0:=by
 rcases aP k t with y|y
 ·rw [if_neg (by omega),ah,bj (by rw [aC];exact y),dl,if_pos y];rfl
 ·by_cases e:k=t
  ·rw [if_pos e,e,ah,aT (by rw [aC];exact aq _),aC,bW];rfl
  ·rw [if_neg e,qp (by rw [ai,aC];show t+1<=k;omega)]
end Dp
namespace Dp
open PySem L2
def Fnd(c:Int)(g:Nat->Int)(s j:Nat)(F:List Int)(V:Int):Prop:=Po.Fm F V/\F.length=s+1/\∀ i,i<=s->F.getD (s-i) 0*c^i=(if i<=j then g i else 0)*V
theorem Fnd.mon{c:Int}{g:Nat->Int}{s j:Nat}{F:List Int}{V:Int}(g0:g 0=1)(h:Fnd c g s j F V):F.getD s 0=V:=by
 have:=h.2.2 0 (aI _);rw [if_pos (aI _),g0,bc,bo,bA] at this;exact this
theorem Fnd.want{P F R:List Int}{c V C:Int}{g:Nat->Int}{k s j:Nat}(c0:0<c)(g0:g 0=1)(hp:∀ j,j<s->P.getD (k*s-j) 0*c^j=P.getD (k*s) 0*Ca.pw g k j)(hL:P.getD (k*s) 0≠0)(k1:1<=k)(js:j+1<s)(h:Fnd c g s j F V)(fR:Po.Fm R C)(hR:∀ t,R.getD t 0*V^k=Pc.cp (Cv.fn F) k t*C) :
  R.getD (k*s) 0=C/\((P.getD (k*s-(j+1)) 0:Int):Rat) / ((P.getD (k*s) 0:Int):Rat)-((R.getD (k*s-(j+1)) 0:Int):Rat) / (C:Rat)=((g (j+1):Int):Rat)*(k:Rat) / ((c^(j+1):Int):Rat):=by
 have fz:∀ i,s<i->Cv.fn F i=0:=fun i hi=>Cv.qr (by rw [h.2.1];omega);have V0:=h.1.pos;have Vk:V^k≠0:=bV (ao V0);have mon:=h.mon g0;refine⟨?_,?_⟩
 ·have e:=hR (k*s);rw [Pc.xv fz k,show Cv.fn F s=V from mon,bv (V^k) C] at e;exact aA Vk e
 ·have kj:j+1<=k*s:=aF (dX js) (aV _ k1);have e:=hR (k*s-(j+1));rw [← Ca.Ce,Ca.Cb fz k (j+1) kj] at e;obtain⟨g',hg'⟩:∃ g':Nat->Int,∀ i,g' i=if i<=j then g i else 0:=⟨_,fun _=>rfl⟩;have rv:=Ca.E2 (G:=Cv.fn F) (g:=g') (c:=c) (U:=V) (k:=k) (s:=s) (j:=j+1) (fun i hi=>by rw [hg'];exact h.2.2 i (by omega)) js;have g0':g' 0=1:=by rw [hg',if_pos (aI _),g0]
  have one:=(Ca.yO (g:=g') (g':=g) (s:=j) g0' (fun i hi=>by rw [hg',if_pos hi]) k).2;rw [hg' (j+1),if_neg (by omega),Int.sub_zero] at one;have p:=hp (j+1) js;rw [one] at p;have C0:=Qp.qm fR.pos;have L0:=Qp.qJ hL;have cj:=Qp.qJ (bV (ao c0):c^(j+1)≠0);have Vr:=Qp.qJ Vk;have e1:((R.getD (k*s-(j+1)) 0:Int):Rat)*((c^(j+1):Int):Rat)=((Ca.pw g' k (j+1):Int):Rat)*(C:Rat):=by
   have:R.getD (k*s-(j+1)) 0*c^(j+1)=Ca.pw g' k (j+1)*C:=by
    refine aA Vk ?_
    calc R.getD (k*s-(j+1)) 0*c^(j+1)*V^k=R.getD (k*s-(j+1)) 0*V^k*c^(j+1):=by grind
     _=Ca.pw (Ca.rv s (Cv.fn F)) k (j+1)*c^(j+1)*C:=by rw [e];grind
     _=_:=by rw [rv];grind
   rw [← ar,this,ar]
  have p2:((P.getD (k*s-(j+1)) 0:Int):Rat)*((c^(j+1):Int):Rat)=((P.getD (k*s) 0:Int):Rat)*(((Ca.pw g' k (j+1):Int):Rat)+(k:Rat)*((g (j+1):Int):Rat)):=by
   rw [← ar,p,ar,cu,ar];rfl
  generalize ((R.getD (k*s-(j+1)) 0:Int):Rat)=r at *;generalize ((P.getD (k*s-(j+1)) 0:Int):Rat)=a at *;generalize ((P.getD (k*s) 0:Int):Rat)=l at *;generalize ((c^(j+1):Int):Rat)=u at *;generalize ((Ca.pw g' k (j+1):Int):Rat)=w at *;generalize ((g (j+1):Int):Rat)=z at *;have h1:a=l*(w+(k:Rat)*z) / u:=by grind
  have h2:r=w*(C:Rat) / u:=by grind
  rw [h1,h2];grind
theorem Fnd.next{F S F':List Int}{c V E V' ra rb:Int}{g:Nat->Int}{s j:Nat}(c0:0<c)(js:j+1<=s)(h:Fnd c g s j F V)(g0:g 0=1)(fS:Po.Fm S E)(r0:0<rb)(hS:∀ k,S.getD k 0*rb=(if k=s-(j+1) then ra else 0)*E)(hr:ra*c^(j+1)=g (j+1)*rb)(fF':Po.Fm F' V')(hF':∀ k,F'.getD k 0*(V*E)=(F.getD k 0*E+S.getD k 0*V)*V'):Fnd c g s (j+1) F' V':=by
 obtain⟨fF,lF,hF⟩:=h;have V0:=fF.pos;have E0:=fS.pos;have n:V*E≠0:=ca (ao V0) (ao E0);have key:∀ i,i<=s->F'.getD (s-i) 0*c^i=(if i<=j+1 then g i else 0)*V':=fun i hi=>by
  refine aA n (aA (ao r0) ?_);have a:=hF' (s-i);have b:=hF i hi;have d:=hS (s-i);by_cases e:i=j+1
  ·subst e;rw [if_neg (by omega),ax] at b;rw [if_pos rfl] at d;rw [if_pos (aq _)];have z:F.getD (s-(j+1)) 0=0:=(bt.mp b).resolve_right (bV (ao c0));rw [z,ax,ce] at a
   calc F'.getD (s-(j+1)) 0*c^(j+1)*(V*E)*rb=F'.getD (s-(j+1)) 0*(V*E)*c^(j+1)*rb:=by grind
    _=S.getD (s-(j+1)) 0*rb*c^(j+1)*V*V':=by rw [a];grind
    _=ra*c^(j+1)*E*V*V':=by rw [d];grind
    _=_:=by rw [hr];grind
  ·have e2:s-i≠s-(j+1):=by omega
   rw [if_neg e2,ax] at d;have z:S.getD (s-i) 0=0:=(bt.mp d).resolve_right (ao r0);rw [z,ax,bL] at a;have c1:(if i<=j+1 then g i else 0)=if i<=j then g i else 0:=by
    by_cases y:i<=j
    ·rw [if_pos y,if_pos (by omega)]
    ·rw [if_neg y,if_neg (by omega)]
   rw [c1]
   calc F'.getD (s-i) 0*c^i*(V*E)*rb=F'.getD (s-i) 0*(V*E)*c^i*rb:=by grind
    _=F.getD (s-i) 0*c^i*E*V'*rb:=by rw [a];grind
    _=_:=by rw [b];grind
 have mon:F'.getD s 0=V':=by
  have:=key 0 (aI _);rw [if_pos (aI _),g0,bc,bo,bA] at this;exact this
 refine⟨fF',?_,key⟩;have l1:F'.length<=s+1:=Pc.qH fF' (av V0 E0) hF' fun k hk=>by
  have d:=hS k;rw [if_neg (by omega),ax] at d;have z:S.getD k 0=0:=(bt.mp d).resolve_right (ao r0);rw [qp (fs:=F) (by omega),z];simp
 rcases aP s F'.length with x|x
 ·omega
 ·rw [qp x] at mon;have:=fF'.pos;omega
def Cn(P:List Int)(k s:Nat)(G:List Int)(U:Int):Prop:=Po.Fm G U/\G.length=s+1/\Ca.JH (fun i=>P.getD i 0) k s (fun i=>G.getD i 0) U
theorem Fnd.cn{P F:List Int}{c V:Int}{g:Nat->Int}{k s:Nat}(c0:0<c)(s1:1<=s)(g0:g 0=1)(hp:∀ j,j<s->P.getD (k*s-j) 0*c^j=P.getD (k*s) 0*Ca.pw g k j)(h:Fnd c g s (s-1) F V):Cn P k s F V:=by
 obtain⟨fF,lF,hF⟩:=h;refine⟨fF,lF,c,g,c0,g0,hp,fun i hi=>?_,?_⟩
 ·have:=hF i (by omega);rw [if_pos (by omega)] at this;exact this
 ·have:=hF s (aq _);rw [if_neg (by omega),ax,bW] at this;exact (bt.mp this).resolve_right (bV (ao c0))
end Dp
namespace Dp
open PySem L2
theorem Bq{c V:Int}{g:Nat->Int}{s:Nat}{F:List Int}(g0:g 0=1)(fF:Po.Fm F V)(lF:F.length<=s+1)(wF:∀ k,F.getD k 0*1=(List.replicate s (0:Int)++[1]).getD k 0*V):Fnd c g s 0 F V:=by
 have V0:=fF.pos;have hF:∀ k,F.getD k 0=if k=s then V else 0:=fun k=>by
  have:=wF k;rw [tH,bo] at this;rw [this];by_cases e:k=s
  ·rw [if_pos e,if_pos e,bA]
  ·rw [if_neg e,if_neg e,ax]
 refine⟨fF,?_,fun i hi=>?_⟩
 ·rcases aP s F.length with y|y
  ·omega
  ·have:=hF s;rw [qp y,if_pos rfl] at this;omega
 ·rw [hF];by_cases e:i=0
  ·subst e;rw [if_pos (by omega),if_pos (aq _),g0,bc,bo,bA]
  ·rw [if_neg (by omega),if_neg (by omega),ax,ax]
end Dp
namespace Dp
open PySem L2
def sN(us:Nat->Nat):Nat->Nat
 | 0=>0
 | i+1=>sN us i+us i
theorem BU{us:Nat->Nat}{i:Nat}:∀{n:Nat},i<=n->sN us i<=sN us n
 | 0,h=>by rw [show i=0 by omega];exact aq _
 | n+1,h=>by
  rcases bO h with z|z
  ·rw [z];exact aq _
  ·exact aF (BU (dW z)) (Nat.le_add_right _ _)
def KY(fs:List (Int×Int))(us:Nat->Nat)(m:Nat):Prop:=(∀ i f,fs[i]? = some f->0<f.2/\Lt2 m f.1/\Lt2 (us i) f.2)/\fs.length<=100/\sN us fs.length<=4000000/\m<=9000000
def iy:SpB:=.of 1 (α:=List (Int×Int)×(Nat->Nat)×Nat) (fun (fs,us,m) ds=>(ds=[.lst (HE fs)]\/ds=[.tup (HE fs)])/\KY fs us m)
 (fun (fs,us,m) d=>∃ b0:Int,d = .tup [.lst ((fs.map fun f=>f.1*b0.fdiv f.2).map .int),.int b0]/\0<b0/\Lt2 (sN us fs.length+1) b0/\∀(j:Nat) (f:Int×Int),fs[j]? = some f->f.2∣b0)
theorem xY{x:D}{fs:List (Int×Int)}{us:Nat->Nat}{m:Nat}{Q:D->Prop}(hx:∀ R:List D->Prop,R (HE fs)->itemsD x R)(hF:KY fs us m)(q:∀ d,(∃ b0:Int,d = .tup [.lst ((fs.map fun f=>f.1*b0.fdiv f.2).map .int),.int b0]/\0<b0/\Lt2 (sN us fs.length+1) b0/\∀(j:Nat) (f:Int×Int),fs[j]? = some f->f.2∣b0)->Q d):iF.run (qt Q) (startD 3 [x]):=by
 obtain⟨sizes,hl,hz,hm8⟩:=hF;have us8:∀{i:Nat},i<fs.length->us i<=4000000:=fun {i} h=>by
  have h1:sN us (i+1)<=sN us fs.length:=BU h;have h2:sN us (i+1)=sN us i+us i:=rfl;omega
 refine hx _ ⟨fun i s=>∃(o:SD) (b0:Int),s=[.val x,.val (.int b0),o]/\0<b0/\Lt2 (sN us i+1) b0/\∀(j:Nat) (f:Int×Int),j<i->fs[j]? = some f->f.2∣b0,⟨.no,1,rfl,by decide,by unfold sN Lt2;decide,fun j f h=>absurd h (eA _)⟩,?_,?_⟩
 ·rintro i d _ hd ⟨o,b0,rfl,h0,hl0,hd0⟩;obtain⟨f,hf,rfl⟩:=AT hd;obtain⟨b1,l1,l2⟩:=sizes i f hf;have hi:i<fs.length:=(aj.mp hf).1;have g0:=xw (a:=b0) (b:=f.2) (by omega);obtain⟨e,q0,ql⟩:=sj g0 b1 (zz b0 f.2).2;obtain⟨k1,k2⟩:=Dy h0 b1;have gl:(Fr.cp b0 f.2).natAbs<=f.2.natAbs:=dh (by omega) (eY.mpr (zz b0 f.2).2);have u8:=us8 hi;have s8:sN us (i+1)<=sN us fs.length:=BU hi;have se:sN us (i+1)=sN us i+us i:=rfl;refine⟨rfl,(b0,f.2),rfl,?_⟩;rintro _ rfl;refine⟨⟨by show Fr.cp b0 f.2≠0;omega,us i,l2.le gl,by omega⟩,⟨_,_,hl0,l2.le ql,by omega⟩,_,_,rfl,k1,(hl0.mul (l2.le ql)).mono (by omega),fun j g hj hg=>?_⟩;rcases bO (dW hj) with z|z
  ·rw [z,hf] at hg;cases hg;exact k2
  ·exact Int.dvd_mul_of_dvd_left (hd0 j g z hg)
 ·rintro _ ⟨o,b0,rfl,h0,hl0,hd0⟩;rw [aa] at hl0 hd0;have hd1:∀(j:Nat) (f:Int×Int),fs[j]? = some f->f.2∣b0:=fun j f h=>hd0 j f (aj.mp h).1 h;refine hx _ ⟨(congrArg (· <= sizeLine) (aa _)).mpr (rE (by omega)),mI (fun f:Int×Int=>f.1*b0.fdiv f.2) fs,mI.nil,fun i d ys hd _ hy=>?_,fun ys _ hy=>?_⟩
  ·obtain⟨f,hf,rfl⟩:=AT hd;obtain⟨b1,l1,l2⟩:=sizes i f hf;have u8:=us8 (aj.mp hf).1;obtain⟨e,q0,ql⟩:=sj b1 h0 (hd1 _ _ hf);exact⟨⟨by show f.2≠0;omega,us i,l2,by omega⟩,⟨_,_,l1,hl0.le ql,by omega⟩,hy.snoc hf rfl⟩
  ·cases hy.all (by rw [aa]);exact⟨qW,q _ ⟨b0,rfl,h0,hl0,hd1⟩⟩
theorem iS:Does 3 iF iy:=by
 rintro ds Q hn ⟨⟨fs,us,m⟩,⟨rfl|rfl,hF⟩,q⟩
 ·exact xY (fun R r=>r) hF q
 ·exact xY (fun R r=>r) hF q
end Dp
namespace Dp
open PySem L2 Ch
theorem rf{ds:List D}{s0:SS}{g:TGd}{e:TEd}{Q:D->Prop}(W:Nat->D->Prop)(hl:ds.length<=16777216)(h:∀ i d,ds[i]? = some d->g.run d s0 fun s1=>e.run s1 (W i))(q:∀ ys:List D,ys.length=ds.length->(∀ i y,ys[i]? = some y->W i y)->Q (.lst ys)):compD ds s0 g hJ e Q:=by
 refine⟨rE hl,fun i ys=>ys.length=i/\∀ j y,ys[j]? = some y->W j y,⟨rfl,fun j y h=>by cases h⟩,?_,?_⟩
 ·rintro i d ys hd _ ⟨l,hw⟩;refine g.mono (fun s1 w=>?_) (h i d hd);refine e.mono (fun y w=>?_) w;refine⟨by rw [ai,l];rfl,fun j z hz=>?_⟩;rcases aP j ys.length with c|c
  ·rw [bj c] at hz;exact hw j z hz
  ·rw [aT c] at hz;obtain⟨z1,z2⟩:=aj.mp hz;have e0:j-ys.length=0:=by simp at z1;omega
   have ej:j=i:=by omega
   subst ej;simp [e0] at hz;rw [← hz];exact w
 ·rintro ys _ ⟨l,hw⟩;exact q ys l hw
def IsPw(P:List Int)(B:Int)(k:Nat)(R:Pl):Prop:=Po.Fm R.1 R.2/\∀ j,R.1.getD j 0*B^k=Pc.cp (Cv.fn P) k j*R.2
def cq(P:List Int)(B:Int)(k j:Nat):Rat:=((Pc.cp (Cv.fn P) k j:Int):Rat) / ((B^k:Int):Rat)
section
variable{P:List Int}{B:Int}{k m n b:Nat}{R:Pl}
theorem IsPw.q(h:IsPw P B k R)(hB:0<B)(j:Nat):Qp.q R.1 R.2 j=cq P B k j:=Qp.uC h.1.pos (ao (cP hB)) h.2 j
theorem IsPw.len(h:IsPw P B k R)(hB:0<B)(l:P.length<=m+1):R.1.length<=k*m+1:=Pc.qH h.1 (cP hB) h.2 (Pc.ve (m:=m+1) (fun i hi=>Cv.qr (by omega)) k)
theorem IsPw.pz(h:IsPw P B k R)(z:Pc.Pz n b P B)(l:k*P.length<=400):Pc.Pz ((n+9)*k+1) (b*k+1) R.1 R.2:=Pc.Pz.of h.1 (cP z.fm.pos) h.2 (Pc.AO (l:=P.length) (fun j hj=>Cv.qr hj) (fun j=>z.tops j) k l) (Hv.rF z.bot k)
end
def ni:SpB:=.of 2 (α:=List Int×Int×Nat×Nat×Nat) (fun (P,B,k,n,b) ds=>ds=[pD P B,.int k]/\Pc.Pz n b P B/\k*P.length<=400/\k<=400/\P.length<=400/\b*k+1+b<=9000000/\(n+9)*k+1+n<=9000000)
 (fun (P,B,k,n,b) d=>∃ R,d=pq R/\IsPw P B k R)
def mz:SpB:=.of 1 (α:=List (Int×Int)×(Nat->Nat)×Nat) (fun (fs,us,m) ds=>(ds=[.lst (HE fs)]\/ds=[.tup (HE fs)])/\KY fs us m)
 (fun (fs,us,m) d=>∃ P B,d=pD P B/\Po.Fm P B/\(∀ k,P.getD k 0*(fs.getD k (0,1)).2=(fs.getD k (0,1)).1*B)/\P.length<=fs.length)
def nP:TSd:=(gz [] (gq ir (gj (gk 1) (gj (gk 2) gm))))
def oK:TSd:=dSq (gB [] (gTp [1,2]) (gq iy (gj (gk 0) gm)))
 nP
theorem nj:Does 3 oK mz:=by
 rintro ds Q hn ⟨⟨fs,us,m⟩,⟨hds,hF⟩,q⟩;have hF':=hF;obtain⟨hb,hl,hz,hm8⟩:=hF';obtain⟨x,rfl⟩:∃ x,ds=[x]:=by rcases hds with rfl|rfl <;> exact⟨_,rfl⟩
 refine⟨rfl,(fs,us,m),⟨hds,hF⟩,?_⟩;rintro _ ⟨b0,rfl,h0,hl0,hd⟩;refine⟨rfl,rfl,(fs.map fun f=>f.1*b0.fdiv f.2,b0),⟨rfl,h0,Lt2.mono hl0 (by show sN us fs.length+1<=9000000;omega),by show (fs.map fun f=>f.1*b0.fdiv f.2).length<=1000;rw [aa];omega⟩,?_⟩;rintro _ ⟨P,B,rfl,fm,hw,hle⟩;have hle:P.length<=(fs.map fun f=>f.1*b0.fdiv f.2).length:=hle;rw [aa] at hle;refine q _ ⟨P,B,rfl,fm,fun k=>?_,hle⟩
 ·have hk:P.getD k 0*b0=(fs.map fun f=>f.1*b0.fdiv f.2).getD k 0*B:=hw k;show P.getD k 0*(fs.getD k (0,1)).2=(fs.getD k (0,1)).1*B;cases hf:fs[k]? with
  | none =>
   rw [qp (fs:=fs.map fun f=>f.1*b0.fdiv f.2) (by rw [aa];exact cC.mp hf),ax] at hk;rw [qp (fs:=fs) (cC.mp hf)];rcases bt.mp hk with z|z
   ·rw [z];simp
   ·omega
  | some f =>
   have b1:=(hb k f hf).1;obtain⟨e,q0,ql⟩:=sj b1 h0 (hd _ _ hf);rw [rO (fs:=fs.map fun f=>f.1*b0.fdiv f.2) (f:=f.1*b0.fdiv f.2) (by rw [aw,hf];rfl)] at hk;rw [rO hf];generalize b0.fdiv f.2=c at *;have:(P.getD k 0*f.2)*c=(f.1*B)*c:=by
    rw [e] at hk;grind
   exact aA (by omega) this
def oo:TSd:=(gz [] (gk 2))
def oq:TSd:=dSq (iA [] (kU (gk 1)) (gNm 3)
 (gB [] (gNm 2) (gq i9 (gj (gk 2) (gj (gk 0) gm)))))
 oo
def pA:TSd:=dSq (gB [] (gNm 2) (gq mz (gj (gE (gj (gw (gj (dC (.int 1)) (gj (dC (.int 1)) gm))) gm)) gm)))
 oq
theorem nQ:Does 4 pA ni:=by
 rintro ds Q hn ⟨⟨P1,B1,k,n,b⟩,⟨rfl,z1,hkl,hk,hl,hb,hn⟩,q⟩;dsimp only at z1 hkl hk hl hb hn q;have B0:=z1.fm.pos;refine⟨qW,rZ,rfl,([(1,1)],fun _=>1,1),⟨.inl rfl,fun i f hf=>?_,by show 1<=100;omega,by show sN (fun _=>1) 1<=4000000;exact (by decide:0+1<=4000000),by show 1<=9000000;omega⟩,?_⟩
 ·cases i with
  | zero=>cases hf;exact⟨by decide,by decide,by decide⟩
  | succ i=>cases hf
 rintro _ ⟨P0,C0,rfl,f0,w0,l0⟩;obtain⟨rfl,rfl⟩:P0=[1]/\C0=1:=Po.uniq f0 Cv.yY fun j=>by
  have e:P0.getD j 0*([(1,1)].getD j (0,1):Int×Int).2=([(1,1)].getD j (0,1):Int×Int).1*C0:=w0 j;cases j with
  | zero=>exact e
  | succ j=>exact e
 refine⟨by omega,by omega,fun i s=>∃(o3:SD) (R:Pl),s=[.val (pD P1 B1),.val (.int k),.val (pq R),o3]/\IsPw P1 B1 i R,⟨.no,([1],1),rfl,Cv.yY,fun j=>?_⟩,?_,?_⟩
 ·rw [bc];cases j with
  | zero=>rfl
  | succ j=>rfl
 ·rintro i d _ hd ⟨o3,R,rfl,hR⟩;obtain⟨hi,rfl⟩:=rc hd;have hi:i<k:=by omega
  have l1:i*P1.length<=k*P1.length:=bz _ (by omega);have l2:b*i<=b*k:=aB _ (by omega);have l3:(n+9)*i<=(n+9)*k:=aB _ (by omega);have G:=hR.pz z1 (by omega);have hle:=hR.len B0 (m:=P1.length) (by omega);refine⟨rfl,(R.1,R.2,P1,B1,_,_,n,b),⟨rfl,G,z1,by omega,by omega,by show R.1.length<=450;omega,by show P1.length<=450;omega⟩,?_⟩;rintro _ ⟨R',C',rfl,fm',hw⟩;refine⟨_,(R',C'),rfl,fm',fun j=>?_⟩;have e:Cv.cv (Cv.fn R.1) (Cv.fn P1) j*B1^i=Pc.cp (Cv.fn P1) (i+1) j*R.2:=by
   show _=Cv.cv (Pc.cp (Cv.fn P1) i) (Cv.fn P1) j*R.2;rw [← Cv.rX,← Cv.rX];exact Cv.qU (fun m=>hR.2 m) fun _=>rfl
  have e2:=hw j;have fm:=hR.1;show R'.getD j 0*B1^(i+1)=Pc.cp (Cv.fn P1) (i+1) j*C';have e2:R'.getD j 0*(R.2*B1)=Cv.cv (Cv.fn R.1) (Cv.fn P1) j*C':=hw j;refine aA (ao fm.pos) ?_;rw [bC];grind
 ·rintro _ ⟨o3,R,rfl,hR⟩;rw [qz,aJ] at hR;exact q _ ⟨R,rfl,hR⟩
end Dp
namespace Dp
open PySem L2
theorem Fs{n b n' b':Nat}{d d':D}{r r':Rat}{Q:D->Prop}(h:FqD n b d r)(h':FqD n' b' d' r')(q:∀ k:Bool,(k=true↔r=r')->Q (.bl k)):oEq false d d' Q:=by
 obtain⟨t,u,rfl,h1,h2,h3,h4,h5⟩:=h;obtain⟨t',u',rfl,h1',h2',h3',h4',h5'⟩:=h';refine⟨rfl,rfl,(show (0:Nat)<=60 by decide),fun k hk=>q k (hk.trans ⟨fun e=>?_,fun e=>?_⟩)⟩
 ·cases e;rw [h5,h5']
 ·have f1:FqD n b (fD t u) r:=⟨t,u,rfl,h1,h2,h3,h4,h5⟩;have f2:FqD n' b' (fD t' u') r:=⟨t',u',rfl,h1',h2',h3',h4',by rw [e,h5']⟩;have:=(FqD.same f1 f2).1;unfold fD at this;injection this
theorem KI:FqD 1 1 (fD 0 1) 0:=uH (n:=1) (t:=0) (uZ _)
end Dp
namespace Dp
open PySem L2 Ch
theorem vK:∀{A B:List Int},A.map D.int=B.map D.int->A=B
 | [],[],_=>rfl
 | x::A,y::B,h=>by
  injection h with h1 h2;injection h1 with h1;rw [h1,vK h2]
theorem xU(P:List Int)(B:Int):D.dps [.tup (P.map D.int),.int B]<=60:=aF (Gp P B) (by decide)
theorem xg{A A':List Int}{B B':Int}{Q:D->Prop}(q:∀ k:Bool,(k=true↔A=A'/\B=B')->Q (.bl k)):oCmp .Eq (pD A B) (pD A' B') Q :=
 ⟨xf _ _,xf _ _,xU _ _,fun k hk=>q k (hk.trans ⟨fun e=>by
  injection e with e1 e2;injection e2 with e2 _;injection e1 with e1;injection e2 with e2;exact⟨vK e1,e2⟩,fun⟨a,b⟩=>by rw [a,b]⟩)⟩
end Dp
namespace Dp
open PySem L2 Ch
theorem Fp{n b n' b':Nat}{d d':D}{r r':Rat}{Q:D->Prop}(h:FqD n b d r)(h':FqD n' b' d' r')(q:∀ k:Bool,(k=true↔r=r')->Q (.bl (!k))):oEq true d d' Q:=by
 obtain⟨t,u,rfl,h1,h2,h3,h4,h5⟩:=h;obtain⟨t',u',rfl,h1',h2',h3',h4',h5'⟩:=h';refine⟨rfl,rfl,(show (0:Nat)<=60 by decide),fun k hk=>q k (hk.trans ⟨fun e=>?_,fun e=>?_⟩)⟩
 ·cases e;rw [h5,h5']
 ·have f1:FqD n b (fD t u) r:=⟨t,u,rfl,h1,h2,h3,h4,h5⟩;have f2:FqD n' b' (fD t' u') r:=⟨t',u',rfl,h1',h2',h3',h4',by rw [e,h5']⟩;have:=(FqD.same f1 f2).1;unfold fD at this;injection this
end Dp
namespace Dp
open PySem L2
def rY(P:List Int)(B:Int)(n s:Nat)(H:List Int)(V:Int):Prop:=H.length=s+1/\Qp.q H V s=1/\Qp.q H V 0=0/\∀ k,n-s+1<=k->k<=n->cq H V (n / s) k*Qp.q P B n=Qp.q P B k
def iU:SpB:=.of 3 (α:=List Int×Int×Nat×Nat×List Int×Int×Nat×Nat) (fun (P,B,n,s,H,V,a,c) ds=>ds=[pD P B,.int (s:Nat),pD H V]/\P.length=n+1/\1<=s/\s<=n/\n<=12/\Pc.Pz a a P B/\Pc.Pz c c H V/\a<=400000/\c<=60000)
 (fun (P,B,n,s,H,V,_) d=>∃ b:Bool,d = .bl b/\(b=true↔rY P B n s H V))
def oN:TSd:=(gz [] (dB bAll bAll.mono (gj (gL (iD (gr .Add (gr .Sub (gk 3) (gk 1)) (dC (.int 1))) (gr .Add (gk 3) (dC (.int 1)))) [5] (gNm 5) hJ (gD .Eq (gq gX (gj (gk 4) (gj (gk 5) gm))) (gq gX (gj (gk 0) (gj (gk 5) gm))))) gm)))
def oO:TSd:=dSq (gB [] (gNm 4) (gq my (gj (gq ni (gj (gk 2) (gj (gr .FloorDiv (gk 3) (gk 1)) gm))) (gj (gq mV (gj (gk 0) gm)) gm)))) oN
def oP:TSd:=dSq (gB [] (gNm 3) (gq gP (gj (gk 0) gm))) oO
def lw:TSd:=dSq (dIf [] (iQ (gx (gD .NotEq (gq gP (gj (gk 2) gm)) (gk 1))) (iQ (gx (gD .NotEq (gq mV (gj (gk 2) gm)) (gw (gj (dC (.int 1)) (gj (dC (.int 1)) gm))))) (gx (gD .NotEq (gq gX (gj (gk 2) (gj (dC (.int 0)) gm))) (gw (gj (dC (.int 0)) (gj (dC (.int 1)) gm)))))))
 (gz [] (dC (.bl false)))
 gC) oP
theorem KH:FqD 2 2 (fD 1 1) 1:=uH (n:=2) (t:=1) (by unfold Lt2;decide) |>.mono (aq _) (by decide)
theorem zK{ys:List D}{C:Nat->Prop}(h:∀(i:Nat) (y:D),ys[i]? = some y->∃ b:Bool,y = .bl b/\(b=true↔C i)):∃ bs:List Bool,ys=bs.map D.bl/\(bs.all id=true↔∀ i,i<ys.length->C i):=by
 induction ys generalizing C with
 | nil=>exact⟨[],rfl,by simp⟩
 | cons y ys ih =>
  obtain⟨b,rfl,hb⟩:=h 0 y rfl;obtain⟨bs,rfl,hbs⟩:=ih (C:=fun i=>C (i+1)) fun i y e=>h (i+1) y (by simpa using e);refine⟨b::bs,rfl,?_⟩;rw [dc,bh];refine⟨fun⟨h1,h2⟩ i hi=>?_,fun h=>⟨hb.mpr (h 0 (by simp)),hbs.mpr fun i hi=>h (i+1) (by simpa using hi)⟩⟩;cases i with
  | zero=>exact hb.mp h1
  | succ i=>exact hbs.mp h2 i (by simpa using hi)
theorem jV:Does 6 lw iU:=by
 rintro ds Q hn ⟨⟨P,B,n,s,H,V,a,c⟩,⟨rfl,lP,s1,sn,n12,zP,zH,ha,hc⟩,q⟩;dsimp only at q lP s1 sn n12 zP zH ha hc;have no:¬ rY P B n s H V->Q (.bl false):=fun h=>q _ ⟨false,rfl,by simp [h]⟩
 -- the later part
 have go:H.length=s+1->Qp.q H V s=1->Qp.q H V 0=0->oP.run (qt Q) [.val (pD P B),.val (.int (s:Nat)),.val (pD H V),.no,.no,.no]:=fun lH e1 e0=>by
  have ns:n / s<=12:=aF (Nat.div_le_self n s) n12;have nsl:n / s*H.length<=400:=by
   rw [lH];have:n / s*s<=n:=dN n s;have:n / s*(s+1)=n / s*s+n / s:=by rw [bJ]
   omega
  refine⟨rfl,(P,B),rfl,?_⟩;rintro _ rfl;have eN:((P.length:Int)-1)=((n:Nat):Int):=by rw [lP];omega
  show oO.run (qt Q) [.val (pD P B),.val (.int (s:Nat)),.val (pD H V),.val (.int ((P.length:Int)-1)),.no,.no];rw [eN];have ed:((n:Nat):Int).fdiv ((s:Nat):Int)=((n / s:Nat):Int):=by
   rw [cA _ (by omega)];rfl
  have cd:sB ((n:Nat):Int) ((s:Nat):Int):=⟨by omega,5,by unfold Lt2;omega,by omega⟩;refine⟨cd,?_⟩;have mlen:c*(n / s)<=60000*12:=aL hc ns;have m9:(c+9)*(n / s)<=(60000+9)*12:=aL (by omega) ns;refine⟨rfl,(H,V,n / s,c,c),⟨by show [pD H V,.int (((n:Nat):Int).fdiv ((s:Nat):Int))]=[pD H V,.int ((n / s:Nat):Int)];rw [ed],zH,nsl,by omega,by omega,by show c*(n / s)+1+c<=9000000;omega,by show (c+9)*(n / s)+1+c<=9000000;omega⟩,?_⟩;rintro _ ⟨R,rfl,pw⟩;have zR:=pw.pz zH nsl;have lR:R.1.length<=900:=by
   have:=pw.len zH.fm.pos (m:=s) (by omega);have:n / s*s<=n:=dN n s;omega
  refine⟨rfl,(P,B,n,a,a),⟨rfl,lP,zP,by show a<=9000000;omega⟩,?_⟩;rintro _ ⟨t,u,rfl,u0,_,lt,lu,et⟩;refine⟨rfl,(R.1,R.2,t,u,(c+9)*(n / s)+1,c*(n / s)+1,a,a),⟨rfl,zR,u0,lt,lu,by show c*(n / s)+1+a<=9000000;omega,by show (c+9)*(n / s)+1+a<=9000000;omega,lR⟩,?_⟩;rintro _ ⟨S,C,rfl,fm,hS,lS⟩;have zS:Pc.Pz ((c+9)*(n / s)+1+a) (c*(n / s)+1+a) S C:=Pc.Pz.of fm (av zR.fm.pos u0) hS (fun k=>(zR.tops k).mul lt) (zR.bot.mul lu);have vS:∀ k,Qp.q S C k=cq H V (n / s) k*Qp.q P B n:=fun k=>by
   rw [B5 zR.fm.pos fm.pos u0 hS k,pw.q zH.fm.pos,et]
  show oN.run (qt Q) [.val (pD P B),.val (.int (s:Nat)),.val (pD H V),.val (.int ((n:Nat):Int)),.val (pD S C),.no];have es:(((n:Nat):Int)+1-(((n:Nat):Int)-((s:Nat):Int)+1)).toNat=s:=by omega
  have ek:∀ i:Nat,((n:Nat):Int)-((s:Nat):Int)+1+(i:Nat)=((n-s+1+i:Nat):Int):=fun i=>by omega
  refine⟨⟨by omega,by omega,by omega,by omega⟩,rf (fun i y=>∃ b:Bool,y = .bl b/\(b=true↔cq H V (n / s) (n-s+1+i)*Qp.q P B n=Qp.q P B (n-s+1+i))) (by rw [qz];omega) (fun i d hd=>?_) fun ys l hw=>?_⟩
  ·obtain⟨hi,rfl⟩:=rc hd;rw [ek i];refine⟨rfl,(S,C,n-s+1+i,_,_),⟨rfl,zS,by omega⟩,?_⟩;rintro _ h1;refine⟨rfl,(P,B,n-s+1+i,a,a),⟨rfl,zP,by show a<=9000000;omega⟩,?_⟩;rintro _ h2;exact Fs h1 h2 fun k hk=>⟨k,rfl,hk.trans (by rw [vS])⟩
  ·obtain⟨bs,rfl,hb⟩:=zK hw;have ls:(bs.map D.bl).length=s:=by rw [l,qz,es]
   refine⟨bs,rfl,q _ ⟨_,rfl,hb.trans ⟨fun h=>⟨lH,e1,e0,fun k h1 h2=>?_⟩,fun h i hi=>h.2.2.2 _ (by omega) (by omega)⟩⟩⟩;have:=h (k-(n-s+1)) (by rw [ls];omega);rwa [show n-s+1+(k-(n-s+1))=k by omega] at this
 refine⟨rfl,(H,V),rfl,?_⟩;rintro _ rfl;refine GR (p:=(H.length:Int)-1=((s:Nat):Int)) (fun c1=>no fun z=>c1 (by rw [z.1];omega)) (fun c1=>?_);have lH:H.length=s+1:=by omega
 refine⟨rfl,(H,V,s,c,c),⟨rfl,lH,zH,by show c<=9000000;omega⟩,?_⟩;rintro _ h1;refine⟨qW,Fp h1 KH fun k hk=>?_⟩;cases k with
 | false=>exact no fun z=>by have:=hk.mpr z.2.1;cases this
 | true =>
  refine⟨rfl,(H,V,0,c,c),⟨rfl,zH,by show c<=9000000;omega⟩,?_⟩;rintro _ h2;refine⟨qW,Fp h2 KI fun k' hk'=>?_⟩;cases k' with
  | false=>exact no fun z=>by have:=hk'.mpr z.2.2.1;cases this
  | true=>exact go lH (hk.mp rfl) (hk'.mp rfl)
end Dp
namespace Dp
open PySem L2 Ch
def Stp(H:List Int)(V:Int)(m p r:Pl):Prop:=Po.Fm r.1 r.2/\∀ k,Qp.q r.1 r.2 k=((Cv.cv (Cv.fn m.1) (Cv.fn H) k:Int):Rat) / ((m.2*V:Int):Rat)+Qp.q p.1 p.2 k
theorem Jk{P P':List Int}{B B':Int}(F:Po.Fm P B)(F':Po.Fm P' B')(h:∀ k,Qp.q P B k=Qp.q P' B' k):P=P'/\B=B':=Po.uniq F F' fun k=>(Qp.rh (ao F.pos) (ao F'.pos)).mp (h k)
theorem Stp.uniq{H:List Int}{V:Int}{m p r r':Pl}(h:Stp H V m p r)(h':Stp H V m p r'):r=r':=by
 obtain⟨e1,e2⟩:=Jk h.1 h'.1 fun k=>(h.2 k).trans (h'.2 k).symm;cases r;cases r';exact Prod.ext e1 e2
theorem xu{f g:Nat->Int}{n m a b:Nat}(hf:∀ j,Lt2 n (f j))(hg:∀ j,Lt2 m (g j))(of:∀ j,a<=j->f j=0)(og:∀ j,b<=j->g j=0)(l:a+b<=500)(k:Nat):Lt2 (n+m+9) (Cv.cv f g k):=by
 by_cases c:a+b-1<=k
 ·rw [Cv.rj of og c];unfold Lt2;exact bG (by decide)
 ·exact Cv.Dh hf hg (by omega)
theorem DL{M:Pl}{H:List Int}{V:Int}{p:Pl}{x c e y s:Nat}{Q:D->Prop}(zM:Pc.Pz x x M.1 M.2)(zH:Pc.Pz c c H V)(zp:Pc.Pz e e p.1 p.2)(lM:M.1.length<=y)(lH:H.length=s+1)(lp:p.1.length<=s)(hy:y+s<=400)(hs:s<=12)(hx:x+c+e+20<=8000000)
  (q:∀ R:Pl,Stp H V M p R->Pc.Pz (x+c+e+10) (x+c+e+10) R.1 R.2->R.1.length<=y+s->Q (pq R)) :
  ([pq M,pD H V].length=i9.n/\i9.run [pq M,pD H V] fun d=>[d,pq p].length=kS.n/\kS.run [d,pq p] Q):=by
 refine⟨rfl,(M.1,M.2,H,V,x,x,c,c),⟨rfl,zM,zH,by show x+c<=9000000;omega,by show x+c<=9000000;omega,by show M.1.length<=450;omega,by show H.length<=450;omega⟩,?_⟩;rintro _ ⟨R1,C1,rfl,f1,h1⟩;have p1:(0:Int)<M.2*V:=av zM.fm.pos zH.fm.pos;have oM:∀ j,y<=j->Cv.fn M.1 j=0:=fun j hj=>Cv.qr (by omega);have oH:∀ j,s+1<=j->Cv.fn H j=0:=fun j hj=>Cv.qr (by omega);have z1:Pc.Pz (x+c+9) (x+c) R1 C1:=Pc.Pz.of f1 p1 h1 (fun k=>xu zM.tops zH.tops oM oH (by omega) k) (zM.bot.mul zH.bot);have l1:R1.length<=y+s:=Pc.qH f1 p1 h1 fun k hk=>Cv.rj oM oH (by omega);refine⟨rfl,(R1,C1,p.1,p.2,x+c+9,x+c,e,e),⟨rfl,z1,zp,by show x+c+e<=9000000;omega,by show x+c+9+e<=9000000;omega,by show R1.length<=900;omega,by show p.1.length<=900;omega⟩,?_⟩;rintro _ ⟨R2,C2,rfl,f2,h2⟩;have p2:(0:Int)<C1*p.2:=av f1.pos zp.fm.pos;have v1:∀ k,Qp.q R1 C1 k=((Cv.cv (Cv.fn M.1) (Cv.fn H) k:Int):Rat) / ((M.2*V:Int):Rat):=fun k=>Qp.uC f1.pos (ao p1) h1 k;refine q (R2,C2) ⟨f2,fun k=>?_⟩ (Pc.Pz.of f2 p2 h2 (fun k=>?_) ?_) ?_
 ·rw [Qp.uC f2.pos (ao p2) h2 k,← v1 k];unfold Qp.q;have a1:(C1:Rat)≠0:=by exact_mod_cast ao f1.pos
  have a2:(p.2:Rat)≠0:=by exact_mod_cast ao zp.fm.pos
  rw [ar,cu,ar,ar];grind
 ·exact (((z1.tops k).mul zp.bot).mono (by omega:x+c+9+e<=x+c+e+9)).add (((zp.tops k).mul z1.bot).mono (by omega:e+(x+c)<=x+c+e+9))
 ·exact (z1.bot.mul zp.bot).mono (by omega)
 ·refine Pc.qH f2 p2 h2 fun k hk=>?_;rw [ah,ah,aS (by omega),aS (by omega)];simp
end Dp
namespace Dp
open PySem L2 Ch
def HzR(H:List Int)(V:Int):List Pl->Pl->Prop
 | [],_=>False
 | [p],m=>m=p
 | p::p'::ps,m=>∃ m',HzR H V (p'::ps) m'/\Stp H V m' p m
theorem HzR.uniq{H:List Int}{V:Int}:∀{ps:List Pl} {m m':Pl},HzR H V ps m->HzR H V ps m'->m=m'
 | [],_,_,h,_=>h.elim
 | [p],_,_,h,h'=>Eq.trans h (Eq.symm h')
 | p::p'::ps,m,m',⟨a,h1,h2⟩,⟨b,h1',h2'⟩=>by
  cases HzR.uniq h1 h1';exact h2.uniq h2'
theorem HzR.cons{H:List Int}{V:Int}{p m m':Pl}{ps:List Pl}(h:HzR H V ps m')(s:Stp H V m' p m):HzR H V (p::ps) m:=by
 cases ps with
 | nil=>exact h.elim
 | cons q ps=>exact⟨m',h,s⟩
def rL(P:List Int)(B:Int)(H:List Int)(V:Int)(s:Nat)(ps:List Pl):Prop:=HzR H V ps (P,B)/\(∀ p∈ps,p.1.length<=s)/\∀ p,ps.getLast? = some p->p.1≠[]
def ju:SpB:=.of 3 (α:=List Int×Int×List Int×Int×Nat×List Pl×Nat×Nat×Nat) (fun (P,B,H,V,s,ps,a,c,e) ds=>ds=[pD P B,pD H V,cD ps]/\Pc.Pz a a P B/\Pc.Pz c c H V/\H.length=s+1/\1<=s/\s<=12/\ps.length<=13/\(∀ p∈ps,Pc.Pz e e p.1 p.2)/\a<=400000/\c<=60000/\e<=400000)
 (fun (P,B,H,V,s,ps,_) d=>∃ b:Bool,d = .bl b/\(b=true↔rL P B H V s ps))
def oQ:TSd:=(dSq (iA [] (jJ (dSl (gk 2) dNo (gH (iW (dC (.int 1)))))) (gNm 3)
 (gB [] (gNm 4) (gq kS (gj (gq i9 (gj (gk 4) (gj (gk 1) gm))) (gj (gk 3) gm)))))
 (gz [] (gD .Eq (gk 4) (gk 0))))
def nR:TSd:=dSq (gB [] (gNm 4) (dIx (gk 2) (iW (dC (.int 1))))) oQ
def mX:TSd:=dSq (dIf [] (iQ (ip (iP (gk 2))) (iQ (gx (gD .Lt (gq gP (gj (dIx (gk 2) (iW (dC (.int 1)))) gm)) (dC (.int 0)))) (gx (gD .GtE (dB bMax bMax.mono (gj (gL (gU (gk 2)) [3] (gNm 3) hJ (gq gP (gj (gk 3) gm))) gm)) (gq gP (gj (gk 1) gm))))))
 (gz [] (dC (.bl false)))
 gC) nR
theorem Et{ps:List Pl}{x0 x1 x3 x4:SD}{W:D->Prop}(h:ps≠[])(l:ps.length<=100)(q:∀ N:Int,(∃ p∈ps,N=(p.1.length:Int)-1)->(∀ p∈ps,(p.1.length:Int)-1<=N)->W (.int N)) :
  (dB bMax bMax.mono (gj (gL (gU (gk 2)) [3] (gNm 3) hJ (gq gP (gj (gk 3) gm))) gm)).run [x0,x1,.val (cD ps),x3,x4] W:=by
 have h0:compD (ps.map pq) [x0,x1,.val (cD ps),.no,x4] (gNm 3) hJ (gq gP (gj (gk 3) gm)) fun d=>bMax [d] W:=by
  refine rf (fun i y=>∀ p,ps[i]? = some p->y = .int ((p.1.length:Int)-1)) (by rw [aa];omega) (fun i d hd=>?_) fun ys l hw=>?_
  ·rw [aw] at hd;obtain⟨p,hp',rfl⟩:=ab.mp hd;refine⟨rfl,(p.1,p.2),rfl,?_⟩;rintro _ rfl p' h';rw [hp'] at h';cases h';rfl
  ·have ey:ys=(ps.map fun p=>(p.1.length:Int)-1).map D.int:=by
    apply dS;intro i;rw [aw,aw];cases h':ps[i]? with
    | none =>
     have:ps.length<=i:=cC.mp h';rw [aS (by rw [l,aa];exact this)];rfl
    | some p =>
     have hi:=(aj.mp h').1;have hy:i<ys.length:=by rw [l,aa];exact hi
     rw [ac hy,hw i _ (ac hy) p h'];rfl
   refine⟨_,ey,by simpa using h,fun N hN hle=>q N ?_ fun p hp=>hle _ (bB.mpr ⟨p,hp,rfl⟩)⟩;obtain⟨p,hp,e⟩:=bB.mp hN;exact⟨p,hp,e.symm⟩
 exact h0
theorem kJ:Does 5 mX ju:=by
 rintro ds Q hn ⟨⟨P,B,H,V,s,ps,a,c,e⟩,⟨rfl,zP,zH,lH,s1,s12,l13,zp,ha,hc,he⟩,q⟩;dsimp only at q zP zH lH s1 s12 l13 zp ha hc he;have no:¬ rL P B H V s ps->Q (.bl false):=fun h=>q _ ⟨false,rfl,by simp [h]⟩;by_cases hp:ps=[]
 ·subst hp;exact no fun z=>z.1
 obtain⟨init,last,rfl⟩:∃ init last,ps=init++[last]:=⟨ps.dropLast,ps.getLast hp,(eu hp).symm⟩;have gl:(init++[last]).getLast? = some last:=by simp
 have lastAt:vg ((init++[last]).map pq) (-1)=some (pq last):=by
  rw [aR];exact yx _ _
 have lm:init.length<=12:=by rw [ai,bZ] at l13;omega
 have go:(∀ p∈init++[last],p.1.length<=s)->last.1≠[]->nR.run (qt Q) [.val (pD P B),.val (pD H V),.val (cD (init++[last])),.no,.no]:=fun hl h0=>by
  refine t7 (d:=pq last) lastAt ?_;have ec:qE ((init++[last]).map pq) none (some (-1))=init.map pq:=by
   rw [(Dk (by simp)).1,aR,ai];simp
  have lp:oQ.run (qt Q) [.val (pD P B),.val (pD H V),.val (cD (init++[last])),.no,.val (pq last)]:=by
   refine⟨trivial,?_⟩;rw [ec];refine⟨fun j st=>∃(m:Pl) (o3:SD),st=[.val (pD P B),.val (pD H V),.val (cD (init++[last])),o3,.val (pq m)]/\HzR H V (init.drop (init.length-j)++[last]) m/\Pc.Pz (e+j*(c+e+10)) (e+j*(c+e+10)) m.1 m.2/\m.1.length<=s*(j+1),⟨last,_,rfl,?_,?_,?_⟩,?_,?_⟩
   ·rw [bE,gb];rfl
   ·rw [cS];exact zp last (by simp)
   ·rw [Nat.zero_add,dI];exact hl last (by simp)
   ·rintro j d _ hd ⟨m,o3,rfl,hz,z,lm'⟩;rw [← fU,aw] at hd;obtain⟨p,hp',rfl⟩:=ab.mp hd;have hj:j<init.length:=by
     have:=(aj.mp hp').1;simpa using this
    rw [bM hj] at hp';have pin:p∈init:=aO hp';have mb:j*(c+e+10)<=12*460010:=aL (by omega) (by omega);have yb:s*(j+1)<=12*13:=aL s12 (by omega);refine DL z zH (zp p (cx _ pin)) lm' lH (hl p (cx _ pin)) (by omega) s12 (by omega) fun R hs zR lR=>⟨R,.val (pq p),rfl,?_,?_,?_⟩
    ·have ed:init.drop (init.length-(j+1))=p::init.drop (init.length-j):=by
      rw [eE (by omega),show init.length-(j+1)+1=init.length-j by omega];congr 1;have:=(aj.mp hp').2;rw [← this];congr 1;omega
     rw [ed];exact HzR.cons hz hs
    ·rw [bq];exact zR.mono (by omega) (by omega)
    ·rw [bJ];exact lR
   ·rintro _ ⟨m,o3,rfl,hz,z,lm'⟩;rw [bK,aa,bW,cU] at hz;refine xg fun k hk=>q _ ⟨k,rfl,hk.trans ⟨fun⟨a1,a2⟩=>⟨?_,hl,fun p hp'=>?_⟩,fun y=>?_⟩⟩
    ·have:m=(P,B):=Prod.ext a1 a2;rw [← this];exact hz
    ·rw [gl] at hp';cases hp';exact h0
    ·have:=HzR.uniq hz y.1;rw [this];exact⟨rfl,rfl⟩
  exact lp
 have go2:last.1≠[]->(gx (gD .GtE (dB bMax bMax.mono (gj (gL (gU (gk 2)) [3] (gNm 3) hJ (gq gP (gj (gk 3) gm))) gm)) (gq gP (gj (gk 1) gm)))).run [.val (pD P B),.val (pD H V),.val (cD (init++[last])),.no,.no] fun b=>if b=true then Q (.bl false) else nR.run (qt Q) [.val (pD P B),.val (pD H V),.val (cD (init++[last])),.no,.no]:=fun h0=>by
  refine Et (by simp) (by omega) fun N hN hle=>?_;refine⟨rfl,(H,V),rfl,?_⟩;rintro _ rfl;refine sS (p:=(H.length:Int)-1<=N) (fun c1=>no fun z=>?_) (fun c1=>go (fun p hp'=>?_) h0)
  ·obtain⟨p,hp',rfl⟩:=hN;have:=z.2.1 p hp';omega
  ·have:=hle p hp';omega
 refine K8 (c:=!(!((init++[last]).map pq).isEmpty)) (fun h=>?_) (fun _=>?_)
 ·simp at h
 refine t7 (d:=pq last) lastAt ⟨rfl,(last.1,last.2),rfl,?_⟩;rintro _ rfl;refine sS (p:=(last.1.length:Int)-1<0) (fun c1=>no fun z=>?_) (fun c1=>go2 fun y=>?_)
 ·have:=z.2.2 last gl;exact this (bw.mp (by omega))
 ·rw [y] at c1;simp at c1
end Dp
namespace Dp
open PySem L2 Ch
theorem EI{α β:Type}{f:α->β}{l:List α}{lo hi:Option Int}:qE (l.map f) lo hi=(qE l lo hi).map f:=by
 unfold qE;rw [aa,bH,bX]
def sT(n:Nat):List Nat:=qE (dvs n n) (some 1) (some (-1))
theorem xD:∀ n,n<=12->∀ s∈sT n,2<=s/\s<n:=by decide
theorem xE:∀ n,n<=12->(sT n).length<=6:=by decide
def lB:SpB:=.of 1 (α:=Nat) (fun n ds=>ds=[.int (n:Nat)]/\n<=12) (fun n d=>d = .lst ((sT n).map fun s=>D.int ((s:Nat):Int)))
def ot:TSd:=(gz [] (dSl (gq ky (gj (gk 0) gm)) (gH (dC (.int 1))) (gH (iW (dC (.int 1))))))
theorem mY:Does 1 ot lB:=by
 rintro ds Q hn ⟨n,⟨rfl,n12⟩,q⟩;dsimp only at n12 q;refine⟨rfl,n,⟨rfl,by show n<=1000;omega⟩,?_⟩;rintro _ rfl;refine q _ ?_;show D.lst (qE ((dvs n n).map fun s=>D.int ((s:Nat):Int)) (some 1) (some (-1)))=_;rw [EI];rfl
abbrev uy:=List (Pl×List Pl)
def rl(x:Pl×List Pl):D:=.tup [pq x.1,cD x.2]
def qP(x:uy):D:=.tup (x.map rl)
def tD(P:List Int)(B:Int)(n:Nat)(x:uy):Prop:=x.length=(sT n).length/\∀(i s:Nat) (y:Pl×List Pl),(sT n)[i]? = some s->x[i]? = some y->rY P B n s y.1.1 y.1.2/\rL P B y.1.1 y.1.2 s y.2
def gG:SpB:=.of 2 (α:=List Int×Int×Nat×uy×Nat×Nat×Nat) (fun (P,B,n,x,a,c,e) ds=>ds=[pD P B,qP x]/\P.length=n+1/\n<=12/\Pc.Pz a a P B/\x.length<=100/\(∀ y∈x,Pc.Pz c c y.1.1 y.1.2/\y.2.length<=13/\∀ p∈y.2,Pc.Pz e e p.1 p.2)/\a<=400000/\c<=60000/\e<=400000)
 (fun (P,B,n,x,_) d=>∃ b:Bool,d = .bl b/\(b=true↔tD P B n x))
def oR:TSd:=(dSq (iA [] (nE (gk 2) (gk 1)) (gQ (gsCons (gNm 3) (gsCons (gTp [4,5]) gsNil)) 2)
 (dIf [] (iQ (ip (iP (gq iU (gj (gk 0) (gj (gk 3) (gj (gk 4) gm)))))) (ip (iP (gq ju (gj (gk 0) (gj (gk 4) (gj (gk 5) gm)))))))
 (gz [] (dC (.bl false)))
 gC))
 (gz [] (dC (.bl true))))
def pT:TSd:=dSq (dIf [] (gx (gD .NotEq (dB bLen bLen.mono (gj (gk 1) gm)) (dB bLen bLen.mono (gj (gk 2) gm))))
 (gz [] (dC (.bl false)))
 gC) oR
def mj:TSd:=dSq (gB [] (gNm 2) (gq lB (gj (gq gP (gj (gk 0) gm)) gm))) pT
theorem ka:Does 6 mj gG:=by
 rintro ds Q hn ⟨⟨P,B,n,x,a,c,e⟩,⟨rfl,lP,n12,zP,lx,hx,ha,hc,he⟩,q⟩;dsimp only at q lP n12 zP lx hx ha hc he;have no:¬ tD P B n x->Q (.bl false):=fun h=>q _ ⟨false,rfl,by simp [h]⟩;have lb:=xE n n12;refine⟨rfl,(P,B),rfl,?_⟩;rintro _ rfl;have eN:((P.length:Int)-1)=((n:Nat):Int):=by rw [lP];omega
 refine⟨rfl,n,⟨by show [D.int ((P.length:Int)-1)]=[D.int ((n:Nat):Int)];rw [eN],n12⟩,?_⟩;rintro _ rfl;have go:x.length=(sT n).length->oR.run (qt Q) [.val (pD P B),.val (qP x),.val (.lst ((sT n).map fun s=>D.int ((s:Nat):Int))),.no,.no,.no]:=fun le=>by
  refine⟨fun j st=>∃ o3 o4 o5:SD,st=[.val (pD P B),.val (qP x),.val (.lst ((sT n).map fun s=>D.int ((s:Nat):Int))),o3,o4,o5]/\∀(i s:Nat) (y:Pl×List Pl),i<j->(sT n)[i]? = some s->x[i]? = some y->rY P B n s y.1.1 y.1.2/\rL P B y.1.1 y.1.2 s y.2,⟨_,_,_,rfl,fun i s y h=>by omega⟩,?_,?_⟩
  ·rintro j d _ hd ⟨o3,o4,o5,rfl,all⟩;obtain⟨u,v,h1,h2,rfl⟩:=xJ hd;rw [aw] at h1 h2;obtain⟨s,hs,rfl⟩:=ab.mp h1;obtain⟨y,hy,rfl⟩:=ab.mp h2;obtain⟨b1,b2⟩:=xD n n12 s (aO hs);obtain⟨zh,l13,zp⟩:=hx y (aO hy);refine⟨rfl,_,_,rfl,_,_,rfl,rfl,rfl,?_⟩;refine⟨rfl,(P,B,n,s,y.1.1,y.1.2,a,c),⟨rfl,lP,by omega,by omega,n12,zP,zh,ha,hc⟩,?_⟩;rintro _ ⟨b,rfl,hb⟩;cases b with
   | false=>exact no fun z=>by have:=hb.mpr (z.2 j s y hs hy).1;cases this
   | true =>
    have cd:=hb.mp rfl;refine⟨rfl,(P,B,y.1.1,y.1.2,s,y.2,a,c,e),⟨rfl,zP,zh,cd.1,by omega,by omega,l13,zp,ha,hc,he⟩,?_⟩;rintro _ ⟨b',rfl,hb'⟩;cases b' with
    | false=>exact no fun z=>by have:=hb'.mpr (z.2 j s y hs hy).2;cases this
    | true =>
     refine⟨_,_,_,rfl,fun i s' y' hi hs' hy'=>?_⟩;by_cases ij:i<j
     ·exact all i s' y' ij hs' hy'
     ·have:i=j:=by omega
      subst this;rw [hs] at hs';rw [hy] at hy';cases hs';cases hy';exact⟨cd,hb'.mp rfl⟩
  ·rintro _ ⟨o3,o4,o5,rfl,all⟩;have hol:tD P B n x:=⟨le,fun i s y hs hy=>all i s y (by
    have:=(aj.mp hs).1;rw [rq,aa,aa];omega) hs hy⟩
   exact q _ ⟨true,rfl,by simp [hol]⟩
 refine GR (p:=((x.map rl).length:Int)=(((sT n).map fun s=>D.int ((s:Nat):Int)).length:Int)) (fun c1=>no fun z=>c1 ?_) (fun c1=>go ?_)
 ·rw [aa,aa,z.1]
 ·rw [aa,aa] at c1;omega
end Dp
namespace Dp
open PySem L2 Ch
def gR:SpB:=.of 2 (α:=List Int×Int×Nat×Nat×Nat) (fun (P,B,k,n,b) ds=>ds=[pD P B,.int (k:Nat)]/\Pc.Pz n b P B/\k*P.length<=400/\k<=400/\P.length<=400/\b*k+1+b<=9000000/\(n+9)*k+1+n<=900000) (fun (P,B,k,n,b) d=>∃ R,d=pq R/\IsPw P B k R)
def lC:TSd:=(dSq (gB [] (gNm 2) (gw (gj (gw (gj (dC (.int 1)) gm)) (gj (dC (.int 1)) gm))))
 (dSq (iA [] (kU (gk 1)) (gNm 3)
 (gB [] (gNm 2) (gq gv (gj (gk 2) (gj (gk 0) gm)))))
 (gz [] (gk 2))))
theorem jW:Does 4 lC gR:=by
 rintro ds Q hn ⟨⟨P1,B1,k,n,b⟩,⟨rfl,z1,hkl,hk,hl,hb,hn⟩,q⟩;dsimp only at z1 hkl hk hl hb hn q;have B0:=z1.fm.pos;refine⟨rZ,qW,?_⟩;refine⟨by omega,by omega,fun i s=>∃(o3:SD) (R:Pl),s=[.val (pD P1 B1),.val (.int (k:Nat)),.val (pq R),o3]/\IsPw P1 B1 i R,⟨.no,([1],1),rfl,Cv.yY,fun j=>?_⟩,?_,?_⟩
 ·rw [bc];cases j with
  | zero=>rfl
  | succ j=>rfl
 ·rintro i d _ hd ⟨o3,R,rfl,hR⟩;obtain⟨hi,rfl⟩:=rc hd;have hi:i<k:=by omega
  have l1:i*P1.length<=k*P1.length:=bz _ (by omega);have l2:b*i<=b*k:=aB _ (by omega);have l3:(n+9)*i<=(n+9)*k:=aB _ (by omega);have G:=hR.pz z1 (by omega);have hle:=hR.len B0 (m:=P1.length) (by omega);refine⟨rfl,(R.1,R.2,P1,B1,_,_,n,b),⟨rfl,G,z1,by omega,by omega,by show R.1.length<=450;omega,by show P1.length<=450;omega⟩,?_⟩;rintro _ ⟨R',C',rfl,fm',hw⟩;refine⟨_,(R',C'),rfl,fm',fun j=>?_⟩;have e:Cv.cv (Cv.fn R.1) (Cv.fn P1) j*B1^i=Pc.cp (Cv.fn P1) (i+1) j*R.2:=by
   show _=Cv.cv (Pc.cp (Cv.fn P1) i) (Cv.fn P1) j*R.2;rw [← Cv.rX,← Cv.rX];exact Cv.qU (fun m=>hR.2 m) fun _=>rfl
  have e2:=hw j;have fm:=hR.1;show R'.getD j 0*B1^(i+1)=Pc.cp (Cv.fn P1) (i+1) j*C';have e2:R'.getD j 0*(R.2*B1)=Cv.cv (Cv.fn R.1) (Cv.fn P1) j*C':=hw j;refine aA (ao fm.pos) ?_;rw [bC];grind
 ·rintro _ ⟨o3,R,rfl,hR⟩;rw [qz,aJ] at hR;exact q _ ⟨R,rfl,hR⟩
end Dp
namespace Dp
open PySem L2 Ch
theorem BL{M:Pl}{H:List Int}{V:Int}{p:Pl}{x c e y s:Nat}{Q:D->Prop}(zM:Pc.Pz x x M.1 M.2)(zH:Pc.Pz c c H V)(zp:Pc.Pz e e p.1 p.2)(lM:M.1.length<=y)(lH:H.length=s+1)(lp:p.1.length<=s)(hy:y+s<=400)(hs:s<=12)(hx:x+c+e+20<=8000000)
  (q:∀ R:Pl,Stp H V M p R->Pc.Pz (x+c+e+10) (x+c+e+10) R.1 R.2->R.1.length<=y+s->Q (pq R)) :
  ([pq M,pD H V].length=gv.n/\gv.run [pq M,pD H V] fun d=>[d,pq p].length=gA.n/\gA.run [d,pq p] Q):=by
 refine⟨rfl,(M.1,M.2,H,V,x,x,c,c),⟨rfl,zM,zH,by show x+c<=9000000;omega,by show x+c<=9000000;omega,by show M.1.length<=450;omega,by show H.length<=450;omega⟩,?_⟩;rintro _ ⟨R1,C1,rfl,f1,h1⟩;have p1:(0:Int)<M.2*V:=av zM.fm.pos zH.fm.pos;have oM:∀ j,y<=j->Cv.fn M.1 j=0:=fun j hj=>Cv.qr (by omega);have oH:∀ j,s+1<=j->Cv.fn H j=0:=fun j hj=>Cv.qr (by omega);have z1:Pc.Pz (x+c+9) (x+c) R1 C1:=Pc.Pz.of f1 p1 h1 (fun k=>xu zM.tops zH.tops oM oH (by omega) k) (zM.bot.mul zH.bot);have l1:R1.length<=y+s:=Pc.qH f1 p1 h1 fun k hk=>Cv.rj oM oH (by omega);refine⟨rfl,(R1,C1,p.1,p.2,x+c+9,x+c,e,e),⟨rfl,z1,zp,by show x+c+e<=9000000;omega,by show x+c+9+e<=9000000;omega,by show R1.length<=900;omega,by show p.1.length<=900;omega⟩,?_⟩;rintro _ ⟨R2,C2,rfl,f2,h2⟩;have p2:(0:Int)<C1*p.2:=av f1.pos zp.fm.pos;have v1:∀ k,Qp.q R1 C1 k=((Cv.cv (Cv.fn M.1) (Cv.fn H) k:Int):Rat) / ((M.2*V:Int):Rat):=fun k=>Qp.uC f1.pos (ao p1) h1 k;refine q (R2,C2) ⟨f2,fun k=>?_⟩ (Pc.Pz.of f2 p2 h2 (fun k=>?_) ?_) ?_
 ·rw [Qp.uC f2.pos (ao p2) h2 k,← v1 k];unfold Qp.q;have a1:(C1:Rat)≠0:=by exact_mod_cast ao f1.pos
  have a2:(p.2:Rat)≠0:=by exact_mod_cast ao zp.fm.pos
  rw [ar,cu,ar,ar];grind
 ·exact (((z1.tops k).mul zp.bot).mono (by omega:x+c+9+e<=x+c+e+9)).add (((zp.tops k).mul z1.bot).mono (by omega:e+(x+c)<=x+c+e+9))
 ·exact (z1.bot.mul zp.bot).mono (by omega)
 ·refine Pc.qH f2 p2 h2 fun k hk=>?_;rw [ah,ah,aS (by omega),aS (by omega)];simp
theorem vq{H:List Int}{V:Int}{p r:Pl}(fp:Po.Fm p.1 p.2)(h:Stp H V ([],1) p r):r=p:=by
 obtain⟨e1,e2⟩:=Jk h.1 fp fun k=>by
  rw [h.2 k,Cv.AL (fun j=>by unfold Cv.fn;simp)];show ((0:Int):Rat) / _+_=_;rw [show ((0:Int):Rat)=0 from rfl];grind
 exact Prod.ext e1 e2
end Dp
namespace Dp
open PySem L2 Ch
theorem u6:Po.Fm [] 1:=⟨by decide,.inl rfl,by rfl⟩
theorem wQ(e:Nat)(h:1<=e):Pc.Pz e e [] 1:=⟨u6,fun k=>by show Lt2 e 0;unfold Lt2;exact bG (by decide),by unfold Lt2;show 1<2^e;exact cJ (by omega)⟩
def oS:TSd:=(dSq (iA [] (jJ (gk 3)) (gNm 7)
 (gB [] (gNm 8) (gq gA (gj (gq gv (gj (gk 8) (gj (gk 2) gm))) (gj (gk 7) gm)))))
 (gz [] (gD .Eq (gk 8) (gk 0))))
theorem Ki{P:List Int}{B:Int}{H:List Int}{V:Int}{s c e:Nat}{ps:List Pl}{x1 o4 o5 o6 o7:SD}{Q:D->Prop}(zH:Pc.Pz c c H V)(lH:H.length=s+1)(s12:s<=12)(l13:ps.length<=13)(ne:ps≠[])(zp:∀ p∈ps,Pc.Pz e e p.1 p.2)(hl:∀ p∈ps,p.1.length<=s)(hc:c<=60000)(he:e<=400000)(e1:1<=e)
  (q:∀ b:Bool,(b=true↔HzR H V ps (P,B))->Q (.bl b)):oS.run (qt Q) [.val (pD P B),x1,.val (pD H V),.val (cD ps),o4,o5,o6,o7,.val (pD [] 1)]:=by
 refine⟨fun j st=>∃(m:Pl) (o7:SD),st=[.val (pD P B),x1,.val (pD H V),.val (cD ps),o4,o5,o6,o7,.val (pq m)]/\((j=0/\m=([],1))\/(1<=j/\HzR H V (ps.drop (ps.length-j)) m))/\Pc.Pz (e+j*(c+e+10)) (e+j*(c+e+10)) m.1 m.2/\m.1.length<=s*j,⟨([],1),_,rfl,.inl ⟨rfl,rfl⟩,?_,aI _⟩,?_,?_⟩
 ·rw [cS];exact wQ e e1
 ·rintro j d _ hd ⟨m,o7,rfl,hz,z,lm'⟩;rw [← fU,aw] at hd;obtain⟨p,hp',rfl⟩:=ab.mp hd;have hj:j<ps.length:=by
   have:=(aj.mp hp').1;simpa using this
  rw [bM hj] at hp';have pin:p∈ps:=aO hp';have mb:j*(c+e+10)<=13*460010:=aL (by omega) (by omega);have yb:s*j<=12*13:=aL s12 (by omega);have ed:ps.drop (ps.length-(j+1))=p::ps.drop (ps.length-j):=by
   rw [eE (by omega),show ps.length-(j+1)+1=ps.length-j by omega];congr 1;have:=(aj.mp hp').2;rw [← this];congr 1;omega
  refine BL z zH (zp p pin) lm' lH (hl p pin) (by omega) s12 (by omega) fun R hs zR lR=>⟨R,.val (pq p),rfl,.inr ⟨by omega,?_⟩,?_,?_⟩
  ·rw [ed];rcases hz with⟨rfl,rfl⟩|⟨j1,hz⟩
   ·rw [bE,gb];exact vq (zp p pin).fm hs
   ·exact HzR.cons hz hs
  ·rw [bq];exact zR.mono (by omega) (by omega)
  ·rw [bJ];exact lR
 ·rintro _ ⟨m,o7,rfl,hz,z,lm'⟩;rw [bK,aa,bW,cU] at hz;have lp:1<=ps.length:=ci.mpr ne;have hz:HzR H V ps m:=by
   rcases hz with⟨h,_⟩|⟨_,h⟩
   ·omega
   ·exact h
  refine xg fun k hk=>q k (hk.trans ⟨fun⟨a1,a2⟩=>?_,fun y=>?_⟩)
  ·have:m=(P,B):=Prod.ext a1 a2;rw [← this];exact hz
  ·have:=HzR.uniq hz y;rw [this];exact⟨rfl,rfl⟩
end Dp
namespace Dp
open PySem L2 Ch
theorem Es{ps:List Pl}{x0 x1 x2 x4 x5 x6 x7 x8:SD}{W:D->Prop}(h:ps≠[])(l:ps.length<=100)(q:∀ N:Int,(∃ p∈ps,N=(p.1.length:Int))->(∀ p∈ps,(p.1.length:Int)<=N)->W (.int N)) :
  (dB bMax bMax.mono (gj (gL (gU (gk 3)) [7] (gNm 7) hJ (dB bLen bLen.mono (gj (dIx (gk 7) (dC (.int 0))) gm))) gm)).run [x0,x1,x2,.val (cD ps),x4,x5,x6,x7,x8] W:=by
 have h0:compD (ps.map pq) [x0,x1,x2,.val (cD ps),x4,x5,x6,.no,x8] (gNm 7) hJ (dB bLen bLen.mono (gj (dIx (gk 7) (dC (.int 0))) gm)) fun d=>bMax [d] W:=by
  refine rf (fun i y=>∀ p,ps[i]? = some p->y = .int (p.1.length:Int)) (by rw [aa];omega) (fun i d hd=>?_) fun ys l hw=>?_
  ·rw [aw] at hd;obtain⟨p,hp',rfl⟩:=ab.mp hd;intro p' h';rw [hp'] at h';cases h';show D.int ((p.1.map D.int).length:Int)=_;rw [aa]
  ·have ey:ys=(ps.map fun p=>(p.1.length:Int)).map D.int:=by
    apply dS;intro i;rw [aw,aw];cases h':ps[i]? with
    | none =>
     have:ps.length<=i:=cC.mp h';rw [aS (by rw [l,aa];exact this)];rfl
    | some p =>
     have hi:=(aj.mp h').1;have hy:i<ys.length:=by rw [l,aa];exact hi
     rw [ac hy,hw i _ (ac hy) p h'];rfl
   refine⟨_,ey,by simpa using h,fun N hN hle=>q N ?_ fun p hp=>hle _ (bB.mpr ⟨p,hp,rfl⟩)⟩;obtain⟨p,hp,e⟩:=bB.mp hN;exact⟨p,hp,e.symm⟩
 exact h0
def pU:TSd:=dSq (gB [] (gNm 8) (gw (gj (gw gm) (gj (dC (.int 1)) gm)))) oS
def oU:TSd:=dSq (dIf [] (iQ (gx (gD .Eq (dB bLen bLen.mono (gj (gk 3) gm)) (dC (.int 0)))) (iQ (gx (gD .Eq (dIx (gk 3) (iW (dC (.int 1)))) (gw (gj (gw gm) (gj (dC (.int 1)) gm))))) (gx (gD .Gt (dB bMax bMax.mono (gj (gL (gU (gk 3)) [7] (gNm 7) hJ (dB bLen bLen.mono (gj (dIx (gk 7) (dC (.int 0))) gm))) gm)) (gk 1)))))
 (gz [] (dC (.bl false)))
 gC) pU
theorem Kj{P:List Int}{B:Int}{H:List Int}{V:Int}{s c e:Nat}{ps:List Pl}{o4 o5 o6 o7 o8:SD}{Q:D->Prop}(zH:Pc.Pz c c H V)(lH:H.length=s+1)(s12:s<=12)(l13:ps.length<=13)(zp:∀ p∈ps,Pc.Pz e e p.1 p.2)(hc:c<=60000)(he:e<=400000)(e1:1<=e)
  (q:∀ b:Bool,(b=true↔rL P B H V s ps)->Q (.bl b)):oU.run (qt Q) [.val (pD P B),.val (.int (s:Nat)),.val (pD H V),.val (cD ps),o4,o5,o6,o7,o8]:=by
 have no:¬ rL P B H V s ps->Q (.bl false):=fun h=>q _ (by simp [h]);refine sS (p:=((ps.map pq).length:Int)=0) (fun c1=>no fun z=>?_) (fun c1=>?_)
 ·rw [aa] at c1;have:ps=[]:=bw.mp (by omega);subst this;exact z.1
 have ne:ps≠[]:=fun z=>c1 (by rw [z];rfl);obtain⟨init,last,rfl⟩:∃ init last,ps=init++[last]:=⟨ps.dropLast,ps.getLast ne,(eu ne).symm⟩;have gl:(init++[last]).getLast? = some last:=by simp
 have lastAt:vg ((init++[last]).map pq) (-1)=some (pq last):=by
  rw [aR];exact yx _ _
 refine t7 (d:=pq last) lastAt ⟨FO,qW,xg (A':=[]) (B':=1) fun k hk=>?_⟩;cases k with
 | true=>exact no fun z=>z.2.2 last gl (hk.mp rfl).1
 | false =>
  have l0:last.1≠[]:=fun z=>by
   have zl:=zp last (by simp);have:last.1=[]/\last.2=1:=Po.uniq zl.fm u6 fun k=>by rw [z];simp
   have:=hk.mpr this;cases this
  refine Es ne (by omega) fun N hN hle=>?_;refine sS (p:=((s:Nat):Int)<N) (fun c2=>no fun z=>?_) (fun c2=>?_)
  ·obtain⟨p,hp',rfl⟩:=hN;have:=z.2.1 p hp';omega
  ·have hl:∀ p∈init++[last],p.1.length<=s:=fun p hp'=>by have:=hle p hp';omega
   refine⟨FO,qW,?_⟩;exact Ki zH lH s12 l13 ne zp hl hc he e1 fun b hb=>q b (hb.trans ⟨fun h=>⟨h,hl,fun p hp'=>by rw [gl] at hp';cases hp';exact l0⟩,fun h=>h.1⟩)
end Dp
namespace Dp
open PySem L2 Ch
def ic:SpB:=.of 4 (α:=List Int×Int×Nat×Nat×List Int×Int×List Pl×Nat×Nat×Nat) (fun (P,B,n,s,H,V,ps,a,c,e) ds=>ds=[pD P B,.int (s:Nat),pD H V,cD ps]/\P.length=n+1/\1<=s/\s<=n/\n<=12/\Pc.Pz a a P B/\Pc.Pz c c H V/\ps.length<=13/\(∀ p∈ps,Pc.Pz e e p.1 p.2)/\a<=400000/\c<=60000/\e<=400000/\1<=e)
 (fun (P,B,n,s,H,V,ps,_) d=>∃ b:Bool,d = .bl b/\(b=true↔rY P B n s H V/\rL P B H V s ps))
def pV:TSd:=dSq (dIf [] (ip (iP (dB bAll bAll.mono (gj (gL (iD (gr .Add (gr .Sub (gk 4) (gk 1)) (dC (.int 1))) (gr .Add (gk 4) (dC (.int 1)))) [6] (gNm 6) hJ (gD .Eq (gq gN (gj (gk 5) (gj (gk 6) gm))) (gq gN (gj (gk 0) (gj (gk 6) gm))))) gm))))
 (gz [] (dC (.bl false)))
 gC) oU
def pW:TSd:=dSq (gB [] (gNm 5) (gq gv (gj (gq gR (gj (gk 2) (gj (gr .FloorDiv (gk 4) (gk 1)) gm))) (gj (gq gu (gj (gE (gj (dIx (dIx (gk 0) (dC (.int 0))) (gk 4)) gm)) (gj (dIx (gk 0) (dC (.int 1))) gm))) gm)))) pV
def oV:TSd:=dSq (dIf [] (iQ (gx (gD .NotEq (dB bLen bLen.mono (gj (dIx (gk 2) (dC (.int 0))) gm)) (gr .Add (gk 1) (dC (.int 1))))) (iQ (gx (gD .NotEq (dIx (dIx (gk 2) (dC (.int 0))) (gk 1)) (dIx (gk 2) (dC (.int 1))))) (gx (gD .NotEq (dIx (dIx (gk 2) (dC (.int 0))) (dC (.int 0))) (dC (.int 0))))))
 (gz [] (dC (.bl false)))
 gC) pW
def kb:TSd:=dSq (gB [] (gNm 4) (gr .Sub (dB bLen bLen.mono (gj (dIx (gk 0) (dC (.int 0))) gm)) (dC (.int 1)))) oV
theorem B6{H:List Int}{V:Int}{s:Nat}(V0:0<V):Qp.q H V s=1↔H.getD s 0=V:=by
 have h:Qp.q H V s=((1:Int):Rat) / ((1:Int):Rat)↔H.getD s 0*1=1*V:=Qp.rh (ao V0) (by decide);have e:((1:Int):Rat) / ((1:Int):Rat)=1:=by show (1:Rat) / 1=1;grind
 rw [e,bo,bA] at h;exact h
theorem Ag{H:List Int}{V:Int}{s:Nat}(V0:0<V):Qp.q H V s=0↔H.getD s 0=0:=by
 have h:Qp.q H V s=((0:Int):Rat) / ((1:Int):Rat)↔H.getD s 0*1=0*V:=Qp.rh (ao V0) (by decide);have e:((0:Int):Rat) / ((1:Int):Rat)=0:=by show (0:Rat) / 1=0;grind
 rw [e,bo,ax] at h;exact h
theorem Io{T:TSd}{P:List Int}{B:Int}{H:List Int}{V:Int}{s n:Nat}{d3:D}{Q:D->Prop}(V0:0<V)(no:¬ (H.length=s+1/\Qp.q H V s=1/\Qp.q H V 0=0)->Q (.bl false))(go:H.length=s+1->Qp.q H V s=1->Qp.q H V 0=0->T.run (qt Q) [.val (pD P B),.val (.int (s:Nat)),.val (pD H V),.val d3,.val (.int (n:Nat)),.no,.no,.no,.no]) :
  (dSq (dIf [] (iQ (gx (gD .NotEq (dB bLen bLen.mono (gj (dIx (gk 2) (dC (.int 0))) gm)) (gr .Add (gk 1) (dC (.int 1))))) (iQ (gx (gD .NotEq (dIx (dIx (gk 2) (dC (.int 0))) (gk 1)) (dIx (gk 2) (dC (.int 1))))) (gx (gD .NotEq (dIx (dIx (gk 2) (dC (.int 0))) (dC (.int 0))) (dC (.int 0))))))
 (gz [] (dC (.bl false)))
 gC) T).run (qt Q) [.val (pD P B),.val (.int (s:Nat)),.val (pD H V),.val d3,.val (.int (n:Nat)),.no,.no,.no,.no]:=by
 refine GR (p:=((H.map D.int).length:Int)=((s:Nat):Int)+1) (fun c1=>no fun z=>c1 (by rw [aa,z.1];omega)) (fun c1=>?_);rw [aa] at c1;have lH:H.length=s+1:=by omega
 refine qM (rJ (by omega)) ?_;refine GR (p:=H.getD s 0=V) (fun c2=>no fun z=>c2 ((B6 V0).mp z.2.1)) (fun c2=>?_);refine qM (n:=0) (rJ (by omega)) ?_;exact GR (p:=H.getD 0 0=0) (fun c3=>no fun z=>c3 ((Ag V0).mp z.2.2)) (fun c3=>go lH ((B6 V0).mpr c2) ((Ag V0).mpr c3))
theorem DX{T:TSd}{P:List Int}{B:Int}{H:List Int}{V:Int}{s n a c:Nat}{d3:D}{Q:D->Prop}(lP:P.length=n+1)(s1:1<=s)(sn:s<=n)(n12:n<=12)(zP:Pc.Pz a a P B)(zH:Pc.Pz c c H V)(lH:H.length=s+1)(ha:a<=400000)(hc:c<=60000)
  (go:∀(S:List Int) (C:Int),Pc.Pz 2000000 2000000 S C->(∀ k,Qp.q S C k=cq H V (n / s) k*Qp.q P B n)->T.run (qt Q) [.val (pD P B),.val (.int (s:Nat)),.val (pD H V),.val d3,.val (.int (n:Nat)),.val (pD S C),.no,.no,.no]) :
  (dSq (gB [] (gNm 5) (gq gv (gj (gq gR (gj (gk 2) (gj (gr .FloorDiv (gk 4) (gk 1)) gm))) (gj (gq gu (gj (gE (gj (dIx (dIx (gk 0) (dC (.int 0))) (gk 4)) gm)) (gj (dIx (gk 0) (dC (.int 1))) gm))) gm)))) T).run (qt Q) [.val (pD P B),.val (.int (s:Nat)),.val (pD H V),.val d3,.val (.int (n:Nat)),.no,.no,.no,.no]:=by
 have ns:n / s<=12:=aF (Nat.div_le_self n s) n12;have d1:n / s*s<=n:=dN n s;have nsl:n / s*H.length<=400:=by
  rw [lH,bJ];omega
 have ed:((n:Nat):Int).fdiv ((s:Nat):Int)=((n / s:Nat):Int):=by
  rw [cA _ (by omega)];rfl
 have cd:sB ((n:Nat):Int) ((s:Nat):Int):=⟨by omega,5,by unfold Lt2;omega,by omega⟩;have mlen:c*(n / s)<=60000*12:=aL hc ns;have m9:(c+9)*(n / s)<=(60000+9)*12:=aL (by omega) ns;refine⟨cd,?_⟩;refine⟨rfl,(H,V,n / s,c,c),⟨by show [pD H V,.int (((n:Nat):Int).fdiv ((s:Nat):Int))]=[pD H V,.int ((n / s:Nat):Int)];rw [ed],zH,nsl,by omega,by omega,by show c*(n / s)+1+c<=9000000;omega,by show (c+9)*(n / s)+1+c<=900000;omega⟩,?_⟩;rintro _ ⟨R,rfl,pw⟩;have zR:=pw.pz zH nsl;have V0:=zH.fm.pos;have B0:=zP.fm.pos;have lR:R.1.length<=400:=by
  have:=pw.len V0 (m:=s) (by omega);omega
 refine qM (rJ (by omega)) ⟨rZ,rfl,([P.getD n 0],B),⟨.inl rfl,B0,zP.bot.mono (by omega),by show 1<=1000;decide⟩,?_⟩;rintro _ ⟨S,C,rfl,fS,wS,lS⟩;have lS:S.length<=1:=lS;have wS:∀ k,S.getD k 0*B=([P.getD n 0]:List Int).getD k 0*C:=wS;have zS:Pc.Pz a a S C:=Pc.Pz.of fS B0 wS (fun k=>by
  cases k with
  | zero=>exact zP.tops n
  | succ k=>exact uZ _) zP.bot
 refine⟨rfl,(R.1,R.2,S,C,(c+9)*(n / s)+1,c*(n / s)+1,a,a),⟨rfl,zR,zS,by show c*(n / s)+1+a<=9000000;omega,by show (c+9)*(n / s)+1+a<=9000000;omega,by show R.1.length<=450;omega,by show S.length<=450;omega⟩,?_⟩;rintro _ ⟨W,Z,rfl,fW,hW⟩;have hW:∀ k,W.getD k 0*(R.2*C)=Cv.cv (Cv.fn R.1) (Cv.fn S) k*Z:=hW;have C0:=fS.pos;have R0:=pw.1.pos;have cc:∀ k,Cv.cv (Cv.fn R.1) (Cv.fn S) k=R.1.getD k 0*S.getD 0 0:=fun k=>Ca.yq (fun j hj=>qp (by omega)) k;refine go W Z (Pc.Pz.of fW (av R0 C0) hW (fun k=>?_) ((zR.bot.mul zS.bot).mono (by omega))) fun k=>?_
 ·rw [cc k];exact ((zR.tops k).mul (zS.tops 0)).mono (by omega)
 ·rw [Qp.uC fW.pos (ao (av R0 C0)) hW k,cc k,← pw.q V0];have e0:Qp.q P B n=Qp.q S C 0:=((Qp.rh (ao C0) (ao B0)).mpr (wS 0)).symm;rw [e0];unfold Qp.q;rw [ar,ar];have x1:=Qp.qm C0;have x2:=Qp.qm R0;grind
theorem Gi{T:TSd}{P:List Int}{B:Int}{d2 d3:D}{S:List Int}{C:Int}{s n a:Nat}{Q:D->Prop}(s1:1<=s)(sn:s<=n)(n12:n<=12)(zP:Pc.Pz a a P B)(ha:a<=400000)(zS:Pc.Pz 2000000 2000000 S C)(no:¬ (∀ k,n-s+1<=k->k<=n->Qp.q S C k=Qp.q P B k)->Q (.bl false))
  (go:(∀ k,n-s+1<=k->k<=n->Qp.q S C k=Qp.q P B k)->T.run (qt Q) [.val (pD P B),.val (.int (s:Nat)),.val d2,.val d3,.val (.int (n:Nat)),.val (pD S C),.no,.no,.no]) :
  (dSq (dIf [] (ip (iP (dB bAll bAll.mono (gj (gL (iD (gr .Add (gr .Sub (gk 4) (gk 1)) (dC (.int 1))) (gr .Add (gk 4) (dC (.int 1)))) [6] (gNm 6) hJ (gD .Eq (gq gN (gj (gk 5) (gj (gk 6) gm))) (gq gN (gj (gk 0) (gj (gk 6) gm))))) gm))))
 (gz [] (dC (.bl false)))
 gC) T).run (qt Q) [.val (pD P B),.val (.int (s:Nat)),.val d2,.val d3,.val (.int (n:Nat)),.val (pD S C),.no,.no,.no]:=by
 have es:(((n:Nat):Int)+1-(((n:Nat):Int)-((s:Nat):Int)+1)).toNat=s:=by omega
 have ek:∀ i:Nat,((n:Nat):Int)-((s:Nat):Int)+1+(i:Nat)=((n-s+1+i:Nat):Int):=fun i=>by omega
 refine⟨⟨by omega,by omega,by omega,by omega⟩,rf (fun i y=>∃ b:Bool,y = .bl b/\(b=true↔Qp.q S C (n-s+1+i)=Qp.q P B (n-s+1+i))) (by rw [qz];omega) (fun i d hd=>?_) fun ys l hw=>?_⟩
 ·obtain⟨hi,rfl⟩:=rc hd;rw [ek i];refine⟨rfl,(S,C,n-s+1+i,_,_),⟨rfl,zS,by show 2000000<=9000000;omega⟩,?_⟩;rintro _ h1;refine⟨rfl,(P,B,n-s+1+i,a,a),⟨rfl,zP,by show a<=9000000;omega⟩,?_⟩;rintro _ h2;exact Fs h1 h2 fun k hk=>⟨k,rfl,hk⟩
 ·obtain⟨bs,rfl,hb⟩:=zK hw;have ls:(bs.map D.bl).length=s:=by rw [l,qz,es]
  have hb':bs.all id=true↔∀ k,n-s+1<=k->k<=n->Qp.q S C k=Qp.q P B k:=hb.trans ⟨fun h k h1 h2=>by
   have:=h (k-(n-s+1)) (by rw [ls];omega);rwa [show n-s+1+(k-(n-s+1))=k by omega] at this,fun h i hi=>h _ (by omega) (by omega)⟩
  refine⟨bs,rfl,?_⟩;cases hbb:bs.all id with
  | true=>exact go (hb'.mp hbb)
  | false=>exact no fun z=>by rw [hb'.mpr z] at hbb;cases hbb
theorem Kk{P:List Int}{B:Int}{H:List Int}{V:Int}{s n a c e:Nat}{ps:List Pl}{Q:D->Prop}(lP:P.length=n+1)(s1:1<=s)(sn:s<=n)(n12:n<=12)(zP:Pc.Pz a a P B)(zH:Pc.Pz c c H V)(l13:ps.length<=13)(zp:∀ p∈ps,Pc.Pz e e p.1 p.2)(ha:a<=400000)(hc:c<=60000)(he:e<=400000)(e1:1<=e)(q:∀ b:Bool,(b=true↔rY P B n s H V/\rL P B H V s ps)->Q (.bl b)):oV.run (qt Q) [.val (pD P B),.val (.int (s:Nat)),.val (pD H V),.val (cD ps),.val (.int (n:Nat)),.no,.no,.no,.no]:=by
 have no:¬ (rY P B n s H V/\rL P B H V s ps)->Q (.bl false):=fun h=>q _ (by simp [h]);refine Io zH.fm.pos (fun z=>no fun y=>z ⟨y.1.1,y.1.2.1,y.1.2.2.1⟩) fun lH q1 q0=>?_;refine DX lP s1 sn n12 zP zH lH ha hc fun S C zS hS=>?_;refine Gi s1 sn n12 zP ha zS (fun z=>no fun y=>z fun k h1 h2=>by rw [hS];exact y.1.2.2.2 k h1 h2) fun al=>?_;have cd:rY P B n s H V:=⟨lH,q1,q0,fun k h1 h2=>by rw [← hS];exact al k h1 h2⟩;exact Kj zH lH (by omega) l13 zp hc he e1 fun b hb=>q _ (hb.trans ⟨fun z=>⟨cd,z⟩,fun z=>z.2⟩)
theorem Kl{T:TSd}{P:List Int}{B:Int}{n:Nat}{d1 d2 d3:D}{Q:D->Prop}(lP:P.length=n+1)(h:T.run (qt Q) [.val (pD P B),.val d1,.val d2,.val d3,.val (.int (n:Nat)),.no,.no,.no,.no]):(dSq (gB [] (gNm 4) (gr .Sub (dB bLen bLen.mono (gj (dIx (gk 0) (dC (.int 0))) gm)) (dC (.int 1)))) T).run (qt Q) (startD 9 [pD P B,d1,d2,d3]):=by
 have eN:((P.map D.int).length:Int)-1=((n:Nat):Int):=by rw [aa,lP];omega
 show T.run (qt Q) [.val (pD P B),.val d1,.val d2,.val d3,.val (.int (((P.map D.int).length:Int)-1)),.no,.no,.no,.no];rw [eN];exact h
theorem jk:Does 9 kb ic:=by
 rintro ds Q hn ⟨⟨P,B,n,s,H,V,ps,a,c,e⟩,⟨rfl,lP,s1,sn,n12,zP,zH,l13,zp,ha,hc,he,e1⟩,q⟩;dsimp only at q lP s1 sn n12 zP zH l13 zp ha hc he e1;exact Kl lP (Kk lP s1 sn n12 zP zH l13 zp ha hc he e1 fun b hb=>q _ ⟨b,rfl,hb⟩)
end Dp
namespace Cv
theorem EZ{F:Nat->Int}{t:Nat}(h:∀ j,j≠t->F j=0):∀ n,sm F n=if t<n then F t else 0
 | 0=>by rw [if_neg (by omega)];rfl
 | n+1=>by
  rw [sm,EZ h n];by_cases e:n=t
  ·subst e;rw [if_neg (by omega),if_pos (by omega),ce]
  ·rw [h n e,bL];by_cases y:t<n
   ·rw [if_pos y,if_pos (by omega)]
   ·rw [if_neg y,if_neg (by omega)]
theorem Hd{f g:Nat->Int}{t:Nat}(h:∀ j,j≠t->f j=0)(k:Nat):cv f g k=if t<=k then f t*g (k-t) else 0:=by
 unfold cv;rw [EZ (fun j hj=>by rw [h j hj,ax])];by_cases y:t<=k
 ·rw [if_pos y,if_pos (by omega)]
 ·rw [if_neg y,if_neg (by omega)]
end Cv
namespace Ca
open Cv L2
theorem BV{a g:Nat->Int}{k s A:Nat}(hk:0<k)(k7:k<=100)(s7:s<=100)(g0:g 0=1)(ha:∀ i,Lt2 (A*i+1) (a i))
  (h:∀ j,j<=s->sm (fun i=>(((i+1:Nat):Int)*(k+1)-j*k)*a (i+1)*g (j-(i+1))) j=j*k*g j):∀ j,j<=s->Lt2 ((A+23)*j+1) (g j):=by
 intro j;induction j using Nat.strongRecOn with
 | ind j ih =>
  intro hj;rcases cW j with e|e
  ·subst e;rw [g0];exact Lt2.mono (n:=1) (by unfold Lt2;decide) (by omega)
  ·have e1:=h j hj;have hF:∀ i,i<j->Lt2 ((A+23)*j-6) ((((i+1:Nat):Int)*(k+1)-j*k)*a (i+1)*g (j-(i+1))):=fun i hi=>by
    have c1:(i+1)*(k+1)<=100*101:=aL (by omega) (by omega);have c2:j*k<=100*100:=aL (by omega) (by omega);have l1:Lt2 15 (((i+1:Nat):Int)*(k+1)-j*k):=by
     have c1':(((i+1:Nat):Int)*(k+1))=(((i+1)*(k+1):Nat):Int):=by push_cast;rfl
     have c2':((j:Int)*k)=((j*k:Nat):Int):=by push_cast;rfl
     rw [c1',c2'];unfold Lt2;omega
    have l3:=ih (j-(i+1)) (by omega) (by omega);refine ((l1.mul (ha _)).mul l3).mono ?_;obtain⟨d,rfl⟩:∃ d,j=d+(i+1):=⟨j-(i+1),by omega⟩;rw [ft];have e3:(A+23)*(d+(i+1))=(A+23)*d+(A*(i+1)+23*(i+1)):=by rw [fb,cL A 23 (i+1)]
    omega
   have b:=BN (b:=7) (i:=j) (by omega) hF;rw [e1] at b;have p:(g j).natAbs<=((j:Int)*k*g j).natAbs:=by
    rw [br];refine aV _ ?_;have:0<j*k:=Nat.mul_pos e hk;have q:((j:Int)*k)=((j*k:Nat):Int):=by push_cast;rfl
    rw [q];omega
   unfold Lt2;have e4:23<=(A+23)*j:=aF (by omega) (bS _ e);rw [show (A+23)*j+1=7+((A+23)*j-6) by omega,eZ];refine cV (aF p b) ?_;exact Nat.mul_lt_mul_of_pos_right (show j<2^7 by omega) (bG (by decide))
end Ca
namespace Dp
open PySem L2
structure Gx (P:List Int)(k s cb Y:Nat)(c:Int)(g:Nat->Int):Prop where
 c0:0<c
 lc:Lt2 cb c
 g0:g 0=1
 gl:∀ j,j<=s-1->Lt2 (Y*j+1) (g j)
 hp:∀ j,j<s->P.getD (k*s-j) 0*c^j=P.getD (k*s) 0*Ca.pw g k j
theorem Je{P:List Int}{k s M Z:Nat}(lt:∀ i,Lt2 M (P.getD i 0))(lz:Lt2 Z (P.getD (k*s) 0))(k1:1<=k)(s1:1<=s)(ks:k*s<=12)(hL:P.getD (k*s) 0≠0):∃(c:Int) (g:Nat->Int),Gx P k s (Z+8) (M+Z+31) c g:=by
 have km1:k<=k*s:=bS _ s1;have km2:s<=k*s:=aV _ k1;obtain⟨c,hc⟩:∃ c:Int,c=(((P.getD (k*s) 0).natAbs:Nat):Int)*k*k:=⟨_,rfl⟩;have lk:Lt2 4 ((k:Nat):Int):=by unfold Lt2;omega
 have ll:Lt2 Z (((P.getD (k*s) 0).natAbs:Nat):Int):=lz.le (by rw [bP];exact aq _);have lc:Lt2 (Z+8) c:=by rw [hc];exact ((ll.mul lk).mul lk).mono (by omega)
 have c0:0<c:=by
  rw [hc];have x1:0<(P.getD (k*s) 0).natAbs:=by omega
  exact av (av (by omega) (by omega)) (by omega)
 have fa:=Ca.Jm (P:=fun i=>P.getD i 0) (n:=k*s) (k:=k) (c:=c) rfl hL hc;obtain⟨a,ea⟩:∃ a:Nat->Int,∀ j,a j=if j<=k*s then (P.getD (k*s-j) 0*c^j).fdiv (P.getD (k*s) 0) else 0:=⟨_,fun _=>rfl⟩;have a0:a 0=1:=by rw [ea,if_pos (aI _)];exact (fa 0 (aI _)).2.1 rfl
 have ad:∀ i,(k*k:Int)∣a (i+1):=fun i=>by
  rw [ea];by_cases z:i+1<=k*s
  ·rw [if_pos z];exact (fa _ z).2.2 (dU _)
  ·rw [if_neg z];exact Int.dvd_zero _
 have al:∀ i,Lt2 ((M+Z+8)*i+1) (a i):=fun i=>by
  rcases cW i with e|e
  ·subst e;rw [a0,Nat.mul_zero];unfold Lt2;decide
  rw [ea];by_cases z:i<=k*s
  ·rw [if_pos z];refine EG hL (fa _ z).1 (((lt _).mul (Hv.rF lc i)).mono ?_);have e1:(M+Z+8)*i=M*i+(Z+8)*i:=by rw [cN,cL]
   have e2:M<=M*i:=bS _ e;omega
  ·rw [if_neg z];exact uZ _
 obtain⟨g,g0,gd,ge⟩:=Ca.HX k1 (a:=a) a0 ad (s-1);have gl:=Ca.BV (A:=M+Z+8) k1 (by omega) (show s-1<=100 by omega) g0 al (fun j hj=>Ca.step g0 a0 ge hj);refine⟨c,g,c0,lc,g0,gl,fun j hj=>?_⟩;have:=(fa j (by omega)).1;rw [ge j (by omega),ea,if_pos (by omega)];exact this.symm
theorem Fnd.pzW{P:List Int}{c:Int}{g:Nat->Int}{k s j cb Y:Nat}{F:List Int}{V:Int}(x:Gx P k s cb Y c g)(js:j<=s-1)(h:Fnd c g s j F V):Pc.Pz ((Y+cb)*s+2) (cb*s+1) F V:=by
 obtain⟨fF,lF,hF⟩:=h;have e0:(Y+cb)*s=Y*s+cb*s:=cL _ _ _;refine Pc.Pz.of (f:=fun t=>if t<=s then (if s-t<=j then g (s-t) else 0)*c^t else 0) fF (show 0<c^s from cP x.c0) (fun t=>?_) (fun t=>?_) (Hv.rF x.lc s)
 ·by_cases z:t<=s
  ·have e:=hF (s-t) (by omega);rw [show s-(s-t)=t by omega] at e;rw [if_pos z,show c^s=c^(s-t)*c^t by rw [← de];congr 1;omega,← bI,e];grind
  ·rw [if_neg z,qp (by omega),ax,ax]
 ·by_cases z:t<=s
  ·rw [if_pos z];by_cases y:s-t<=j
   ·rw [if_pos y];refine ((x.gl (s-t) (by omega)).mul (Hv.rF x.lc t)).mono ?_;have e1:Y*(s-t)<=Y*s:=aB _ (by omega);have e2:cb*t<=cb*s:=aB _ z;omega
   ·rw [if_neg y,ax];exact uZ _
  ·rw [if_neg z];exact uZ _
def Hw(c:Int)(s Y:Nat)(g:Nat->Int)(G:List Int)(U:Int):Prop:=Po.Fm G U/\G.length=s+1/\1<=s/\0<c/\g 0=1/\(∀ i,i<=s->G.getD (s-i) 0*c^i=g i*U)/\∀ i,i<=s->Lt2 (Y*i+1) (g i)
def Ww(V c:Int)(N A Y:Nat)(P:List Int)(B:Int):Prop:=Po.Fm P B/\P.length<=N+1/\∃ z:Nat->Int,∀ k,k<=N->P.getD k 0*(V*c^(N-k))=z k*B/\Lt2 (A+Y*(N-k)) (z k)
theorem Ww.mono{V c:Int}{N A A' Y:Nat}{P:List Int}{B:Int}(h:Ww V c N A Y P B)(l:A<=A'):Ww V c N A' Y P B:=by
 obtain⟨f,l',z,hz⟩:=h;exact⟨f,l',z,fun k hk=>⟨(hz k hk).1,(hz k hk).2.mono (by omega)⟩⟩
theorem Ww.pz{V c:Int}{N A Y cb v:Nat}{P:List Int}{B:Int}(h:Ww V c N A Y P B)(V0:0<V)(c0:0<c)(lc:Lt2 cb c)(lV:Lt2 v V):Pc.Pz (A+(Y+cb)*N+1) (v+cb*N+1) P B:=by
 obtain⟨f,l,z,hz⟩:=h;have e0:(Y+cb)*N=Y*N+cb*N:=cL _ _ _;refine Pc.Pz.of (f:=fun t=>if t<=N then z t*c^t else 0) f (av V0 (cP c0:0<c^N)) (fun t=>?_) (fun t=>?_) ((lV.mul (Hv.rF lc N)).mono (by omega))
 ·by_cases y:t<=N
  ·rw [if_pos y];have e:=(hz t y).1;have e2:c^N=c^(N-t)*c^t:=by rw [← de];congr 1;omega
   rw [e2,← bI V,← bI,e];grind
  ·rw [if_neg y,qp (by omega),ax,ax]
 ·by_cases y:t<=N
  ·rw [if_pos y];refine ((hz t y).2.mul (Hv.rF lc t)).mono ?_;have e1:Y*(N-t)<=Y*N:=aB _ (by omega);have e2:cb*t<=cb*N:=aB _ y;omega
  ·rw [if_neg y];exact uZ _
theorem Il{P:List Int}{B c:Int}{n b bb cb Y:Nat}(z:Pc.Pz b bb P B)(lP:P.length<=n+1)(c0:0<c)(lc:Lt2 cb c)(hY:cb<=Y):Ww B c n (b+1) Y P B:=by
 refine⟨z.fm,lP,fun k=>P.getD k 0*c^(n-k),fun k hk=>⟨by dsimp only;grind,?_⟩⟩;refine ((z.tops k).mul (Hv.rF lc (n-k))).mono ?_;have:cb*(n-k)<=Y*(n-k):=bz _ hY;omega
theorem DN{V c:Int}{N A Y s t:Nat}{F S:List Int}{C E:Int}(tN:t+s<=N)(wF:Ww V c N A Y F C)(lF:F.length=t+s+1)(fS:Po.Fm S E)(hS:∀ k,S.getD k 0*C=(if k=t then F.getD (t+s) 0 else 0)*E):Ww V c (N-s) A Y S E/\S.length<=t+1:=by
 obtain⟨fF,lF',z,hz⟩:=wF;have C0:=fF.pos;have lS:S.length<=t+1:=Pc.qH fS C0 hS fun k hk=>by rw [if_neg (by omega)]
 refine⟨⟨fS,by omega,fun k=>if k=t then z (t+s) else 0,fun k hk=>⟨?_,?_⟩⟩,lS⟩
 ·refine aA (ao C0) ?_;have e:=hS k;dsimp only;by_cases y:k=t
  ·subst y;rw [if_pos rfl] at e ⊢;have e2:=(hz (k+s) tN).1;rw [show N-(k+s)=N-s-k by omega] at e2
   calc S.getD k 0*(V*c^(N-s-k))*C=S.getD k 0*C*(V*c^(N-s-k)):=by grind
    _=F.getD (k+s) 0*(V*c^(N-s-k))*E:=by rw [e];grind
    _=_:=by rw [e2];grind
  ·rw [if_neg y,ax] at e;rw [if_neg y,(bt.mp e).resolve_right (ao C0)];grind
 ·dsimp only;by_cases y:k=t
  ·subst y;rw [if_pos rfl];have:=(hz (k+s) tN).2;rw [show N-(k+s)=N-s-k by omega] at this;exact this
  ·rw [if_neg y];exact uZ _
theorem Ww.sum{V c:Int}{N A A' Y:Nat}{P1 P2 R:List Int}{B1 B2 C:Int}(fR:Po.Fm R C)(h:∀ k,R.getD k 0*(B1*B2)=(P1.getD k 0*B2+P2.getD k 0*B1)*C)(h1:Ww V c N A Y P1 B1)(h2:Ww V c N A' Y P2 B2)(l:A'<=A):Ww V c N (A+1) Y R C:=by
 obtain⟨f1,l1,z1,hz1⟩:=h1;obtain⟨f2,l2,z2,hz2⟩:=h2;have p1:=f1.pos;have p2:=f2.pos;have n:B1*B2≠0:=ao (av p1 p2);refine⟨fR,Pc.qH fR (av p1 p2) h fun k hk=>?_,fun k=>z1 k+z2 k,fun k hk=>⟨?_,?_⟩⟩
 ·rw [qp (fs:=P1) (by omega),qp (fs:=P2) (by omega)];simp
 ·refine aA n ?_;have e1:=(hz1 k hk).1;have e2:=(hz2 k hk).1
  calc R.getD k 0*(V*c^(N-k))*(B1*B2)=R.getD k 0*(B1*B2)*(V*c^(N-k)):=by grind
   _=(P1.getD k 0*(V*c^(N-k))*B2+P2.getD k 0*(V*c^(N-k))*B1)*C:=by rw [h k];grind
   _=_:=by rw [e1,e2];grind
 ·have a:=(hz1 k hk).2;have b:=((hz2 k hk).2.mono (show A'+Y*(N-k)<=A+Y*(N-k) by omega));exact (a.add b).mono (by omega)
theorem DM{V c:Int}{N A Y s t:Nat}{g:Nat->Int}{G S X:List Int}{U E Xc:Int}(hw:Hw c s Y g G U)(tN:t+s<=N)(fX:Po.Fm X Xc)(wS:Ww V c (N-s) A Y S E)(lS:S.length<=t+1)(hS:∀ k,k≠t->S.getD k 0=0)(hX:∀ k,X.getD k 0*(E*U) = -Cv.cv (Cv.fn S) (Cv.fn G) k*Xc):Ww V c N (A+1) Y X Xc/\X.length<=t+s+1/\X.getD (t+s) 0*E = -S.getD t 0*Xc:=by
 obtain⟨fG,lG,s1,c0,g0,hg,gl⟩:=hw;obtain⟨fS,lS',z,hz⟩:=wS;have E0:=fS.pos;have U0:=fG.pos;have EU:E*U≠0:=ao (av E0 U0);have cvk:∀ k,Cv.cv (Cv.fn S) (Cv.fn G) k=if t<=k then S.getD t 0*G.getD (k-t) 0 else 0:=fun k=>Cv.Hd (f:=Cv.fn S) (g:=Cv.fn G) hS k;have lX:X.length<=t+s+1:=Pc.qH fX (av E0 U0) hX fun k hk=>by
  rw [cvk,if_pos (by omega),qp (fs:=G) (by omega),bF];rfl
 have gs:G.getD s 0=U:=by
  have:=hg 0 (aI _);rw [bc,bo,g0,bA] at this;exact this
 refine⟨⟨fX,by omega,fun k=>if t<=k/\k<=t+s then -(z t*g (t+s-k)) else 0,fun k hk=>⟨?_,?_⟩⟩,lX,?_⟩
 ·refine aA EU ?_;have e:=hX k;rw [cvk] at e;dsimp only;by_cases y:t<=k
  ·rw [if_pos y] at e;by_cases y2:k<=t+s
   ·rw [if_pos ⟨y,y2⟩];have e1:=(hz t (by omega)).1;have e2:=hg (t+s-k) (by omega);rw [show s-(t+s-k)=k-t by omega] at e2;have e3:c^(N-k)=c^(N-s-t)*c^(t+s-k):=by rw [← de];congr 1;omega
    calc X.getD k 0*(V*c^(N-k))*(E*U)=X.getD k 0*(E*U)*(V*c^(N-k)):=by grind
     _ = -((S.getD t 0*(V*c^(N-s-t)))*(G.getD (k-t) 0*c^(t+s-k)))*Xc:=by rw [e,e3];grind
     _=_:=by rw [e1,e2];grind
   ·rw [if_neg (fun h=>y2 h.2),ax,ax];rw [qp (fs:=X) (by omega),ax,ax]
  ·rw [if_neg y,Int.neg_zero,ax] at e;rw [if_neg (fun h=>y h.1),(bt.mp e).resolve_right EU];simp
 ·dsimp only;by_cases y:t<=k/\k<=t+s
  ·rw [if_pos y];have a:=(hz t (by omega)).2;have b:=gl (t+s-k) (by omega);refine Lt2.neg ((a.mul b).mono ?_);have e1:Y*(N-k)=Y*(N-s-t)+Y*(t+s-k):=by rw [← fb];congr 1;omega
   omega
  ·rw [if_neg y];exact uZ _
 ·have e:=hX (t+s);rw [cvk,if_pos (by omega),show t+s-t=s by omega,gs] at e;refine aA (ao U0) ?_
  calc X.getD (t+s) 0*E*U=X.getD (t+s) 0*(E*U):=by grind
   _=_:=by rw [e];grind
end Dp
namespace Dp
open PySem L2
theorem Kg{w k u:Rat}:w*k / u=w / u*k:=by grind
end Dp
namespace Dp
open PySem L2 Ch
def Hr(n b:Nat)(d:D)(r:Rat):Prop:=∃ t u:Int,d=fD t u/\0<u/\Lt2 n t/\Lt2 b u/\r=(t:Rat) / (u:Rat)
theorem FqD.v{n b:Nat}{d:D}{r:Rat}(h:FqD n b d r):Hr n b d r:=by
 obtain⟨t,u,e,p,_,l1,l2,r⟩:=h;exact⟨t,u,e,p,l1,l2,r⟩
def jb:SpB:=.of 2 (α:=D×D×Rat×Rat×Nat×Nat×Nat×Nat) (fun (d1,d2,r1,r2,n1,b1,n2,b2) ds=>ds=[d1,d2]/\Hr n1 b1 d1 r1/\Hr n2 b2 d2 r2/\b1+b2<=9000000/\n1+b2<=9000000/\n2+b1<=9000000)
 (fun (d1,d2,r1,r2,n1,b1,n2,b2) d=>FqD (n1+b2+(n2+b1)+1) (b1+b2) d (r1+r2))
def mk:TSd:=(gz [] (gq gI (gj (gr .Add (gr .Mult (dIx (gk 0) (dC (.int 0))) (dIx (gk 1) (dC (.int 1)))) (gr .Mult (dIx (gk 1) (dC (.int 0))) (dIx (gk 0) (dC (.int 1))))) (gj (gr .Mult (dIx (gk 0) (dC (.int 1))) (dIx (gk 1) (dC (.int 1)))) gm))))
theorem kc:Does 2 mk jb:=by
 rintro ds Q hn ⟨⟨d1,d2,r1,r2,n1,b1,n2,b2⟩,⟨rfl,⟨t1,u1,rfl,p1,lt1,lu1,rfl⟩,⟨t2,u2,rfl,p2,lt2,lu2,rfl⟩,hb,h1,h2⟩,q⟩;dsimp only at hb h1 h2 q;have p12:=av p1 p2;refine⟨⟨_,_,lt1,lu2,by omega⟩,⟨_,_,lt2,lu1,by omega⟩,⟨_,_,lu1,lu2,by omega⟩,rfl,(t1*u2+t2*u1,u1*u2),⟨rfl,ao p12,(lu1.mul lu2).mono hb⟩,?_⟩;rintro _ rfl;have f:=FqD.of (t:=t1*u2+t2*u1) (u:=u1*u2) (n:=n1+b2+(n2+b1)+1) p12 (((lt1.mul lu2).mono (by omega:n1+b2<=n1+b2+(n2+b1))).add ((lt2.mul lu1).mono (by omega:n2+b1<=n1+b2+(n2+b1)))) (lu1.mul lu2);refine q _ ?_;have h3:(u1:Rat)≠0:=Qp.qm p1;have h4:(u2:Rat)≠0:=Qp.qm p2;have e:((t1*u2+t2*u1:Int):Rat) / ((u1*u2:Int):Rat)=(t1:Rat) / (u1:Rat)+(t2:Rat) / (u2:Rat):=by
  rw [cu,ri,ri,ri];grind
 rw [← e];exact f
def il:SpB:=.of 2 (α:=D×D×Rat×Rat×Nat×Nat×Nat×Nat) (fun (d1,d2,r1,r2,n1,b1,n2,b2) ds=>ds=[d1,d2]/\Hr n1 b1 d1 r1/\Hr n2 b2 d2 r2/\b1+b2<=9000000/\n1+n2<=9000000)
 (fun (d1,d2,r1,r2,n1,b1,n2,b2) d=>FqD (n1+n2) (b1+b2) d (r1*r2))
def kK:TSd:=(gz [] (gq gI (gj (gr .Mult (dIx (gk 0) (dC (.int 0))) (dIx (gk 1) (dC (.int 0)))) (gj (gr .Mult (dIx (gk 0) (dC (.int 1))) (dIx (gk 1) (dC (.int 1)))) gm))))
theorem jB:Does 2 kK il:=by
 rintro ds Q hn ⟨⟨d1,d2,r1,r2,n1,b1,n2,b2⟩,⟨rfl,⟨t1,u1,rfl,p1,lt1,lu1,rfl⟩,⟨t2,u2,rfl,p2,lt2,lu2,rfl⟩,hb,h1⟩,q⟩;dsimp only at hb h1 q;have p12:=av p1 p2;refine⟨⟨_,_,lt1,lt2,by omega⟩,⟨_,_,lu1,lu2,by omega⟩,rfl,(t1*t2,u1*u2),⟨rfl,ao p12,(lu1.mul lu2).mono hb⟩,?_⟩;rintro _ rfl;have f:=FqD.of (t:=t1*t2) (u:=u1*u2) p12 (lt1.mul lt2) (lu1.mul lu2);refine q _ ?_;have h3:(u1:Rat)≠0:=Qp.qm p1;have h4:(u2:Rat)≠0:=Qp.qm p2;have e:((t1*t2:Int):Rat) / ((u1*u2:Int):Rat)=(t1:Rat) / (u1:Rat)*((t2:Rat) / (u2:Rat)):=by
  rw [ri,ri];grind
 rw [← e];exact f
def n4:TSd:=(gB [] (gNm 4) (gq gA (gj (gk 4) (gj (gq gu (gj (gr .Add (gr .Mult (gE (gj (dC (.int 0)) gm)) (gr .Sub (gk 1) (gk 5))) (gE (gj (dIx (gk 8) (dC (.int 0))) gm))) (gj (dIx (gk 8) (dC (.int 1))) gm))) gm))))
def pC:TSd:=dSq (gB [] (gNm 8) (gq il (gj (gq jb (gj (gk 6) (gj (gw (gj (gr .Sub (dC (.int 0)) (dIx (gk 7) (dC (.int 0)))) (gj (dIx (gk 7) (dC (.int 1))) gm))) gm))) (gj (gw (gj (gk 1) (gj (gk 2) gm))) gm))))
 n4
def pE:TSd:=dSq (gB [] (gNm 7) (gq gN (gj (gq gR (gj (gk 4) (gj (gr .FloorDiv (gk 2) (gk 1)) gm))) (gj (gr .Sub (gk 2) (gk 5)) gm))))
 pC
def oW:TSd:=dSq (gB [] (gNm 6) (gq il (gj (gq gN (gj (gk 0) (gj (gr .Sub (gk 2) (gk 5)) gm))) (gj (gq gI (gj (dIx (gk 3) (dC (.int 1))) (gj (dIx (gk 3) (dC (.int 0))) gm))) gm))))
 pE
theorem Jr{P F:List Int}{B V c ra rb:Int}{g:Nat->Int}{k s j cb Y nn bb:Nat}{n0 d3 d6 d7:D}{E:EndsD}(x:Gx P k s cb Y c g)(js:j+1<s)(s12:s<=12)(hF:Fnd c g s j F V)(r0:0<rb)(lt:Lt2 nn ra)(lb:Lt2 bb rb)(cap:(Y+cb)*s+2+nn<=8000000)(cap2:cb*s+1+bb<=8000000)(hr:ra*c^(j+1)=g (j+1)*rb)
  (hE:∀ F' V',Fnd c g s (j+1) F' V'->E.nx [.val (pD P B),.val (.int s),.val n0,.val d3,.val (pD F' V'),.val (.int ((j+1:Nat):Int)),.val d6,.val d7,.val (fD ra rb)]) :
  n4.run E [.val (pD P B),.val (.int s),.val n0,.val d3,.val (pD F V),.val (.int ((j+1:Nat):Int)),.val d6,.val d7,.val (fD ra rb)]:=by
 have zF:=hF.pzW x (by omega);have lF:=hF.2.1;have ek:(s:Int)-((j+1:Nat):Int)=((s-(j+1):Nat):Int):=by omega
 refine⟨rZ,?_,?_,?_,rZ,?_,rfl,(List.replicate (s-(j+1)) (0:Int)++[ra],rb),⟨.inl ?_,r0,lb.mono (by omega),?_⟩,?_⟩
 ·show -(2^63)<=(s:Int)-((j+1:Nat):Int);omega
 ·show (s:Int)-((j+1:Nat):Int)<2^63;omega
 ·show 1*((s:Int)-((j+1:Nat):Int)).toNat<=sizeLine;exact rE (by omega)
 ·show ((List.replicate ((s:Int)-((j+1:Nat):Int)).toNat [D.int 0]).flatten).length+1<=sizeLine;rw [ek,aJ,qO,aa,aC];exact rE (by omega)
 ·show [D.lst ((List.replicate ((s:Int)-((j+1:Nat):Int)).toNat [D.int 0]).flatten++[D.int ra]),.int rb]=[D.lst ((List.replicate (s-(j+1)) (0:Int)++[ra]).map D.int),.int rb];rw [ek,aJ,qO,aR];rfl
 ·show (List.replicate (s-(j+1)) (0:Int)++[ra]).length<=1000;rw [ai,aC];show s-(j+1)+1<=1000;omega
 rintro _ ⟨S,Ec,rfl,fS,wS,lS⟩;have wS:∀ k,S.getD k 0*rb=(List.replicate (s-(j+1)) (0:Int)++[ra]).getD k 0*Ec:=wS;have lS:S.length<=(List.replicate (s-(j+1)) (0:Int)++[ra]).length:=lS;rw [ai,aC] at lS;have lS:S.length<=s-(j+1)+1:=lS;have hS:∀ k,S.getD k 0*rb=(if k=s-(j+1) then ra else 0)*Ec:=fun k=>by rw [wS,tH]
 have zS:Pc.Pz nn bb S Ec:=Pc.Pz.of fS r0 hS (fun k=>by
  by_cases e:k=s-(j+1)
  ·rw [if_pos e];exact lt
  ·rw [if_neg e];exact uZ _) lb
 refine⟨rfl,(F,V,S,Ec,(Y+cb)*s+2,cb*s+1,nn,bb),⟨rfl,zF,zS,by show cb*s+1+bb<=9000000;omega,by show (Y+cb)*s+2+nn<=9000000;omega,by show F.length<=900;omega,by show S.length<=900;omega⟩,?_⟩;rintro _ ⟨F',V',rfl,fF',hF'⟩;exact hE F' V' (hF.next x.c0 (by omega) x.g0 fS r0 hS hr fF' hF')
theorem Kh{a b l t u r w k s:Rat}(hb:b≠0)(hl:l≠0)(ht:t≠0)(hu:u≠0)(hk:k≠0)(hs:s≠0)(e:l / b=t / u)(h:a / l-r=w*k):(a / b*(u / t)+(0-r))*(s / (k*s))=w:=by
 have h1:u / t=b / l:=by grind
 rw [h1];have h2:a / b*(b / l)=a / l:=by grind
 rw [h2];have h3:a / l+(0-r)=w*k:=by rw [← h];grind
 rw [h3];grind
theorem KN{P F:List Int}{B V c t1 u1:Int}{g:Nat->Int}{k s j b:Nat}{o6 o7 o8:SD}{E:EndsD}(z:Pc.Pz b b P B)(b9:b<=4000)(lP:P.length=k*s+1)(k1:1<=k)(ks:k*s<=12)(x:Gx P k s (b+8) (b+b+31) c g)(js:j+1<s)(hF:Fnd c g s j F V)(u10:0<u1)(t10:t1≠0)(lt1:Lt2 b t1)(lu1:Lt2 b u1)(et:Qp.q P B (k*s)=(t1:Rat) / (u1:Rat))
  (hE:∀ F' V' o5 o6 o7 o8,Fnd c g s (j+1) F' V'->E.nx [.val (pD P B),.val (.int s),.val (.int ((k*s:Nat):Int)),.val (fD t1 u1),.val (pD F' V'),o5,o6,o7,o8]) :
  oW.run E [.val (pD P B),.val (.int s),.val (.int ((k*s:Nat):Int)),.val (fD t1 u1),.val (pD F V),.val (.int ((j+1:Nat):Int)),o6,o7,o8]:=by
 have s1:1<=s:=by omega
 have km1:k<=k*s:=bS _ s1;have km2:s<=k*s:=aV _ k1;have hL:=vN z.fm lP;have zF:=hF.pzW x (by omega);have lF:=hF.2.1;have B0:=z.fm.pos;have kF:k*F.length=k*s+k:=by rw [lF,bJ]
 have ed:((k*s:Nat):Int).fdiv (s:Int)=(k:Int):=by
  rw [show ((k*s:Nat):Int)=(k:Int)*s by push_cast;rfl];exact dO _ (by omega)
 have ls:Lt2 4 ((s:Nat):Int):=by unfold Lt2;omega
 have ln:Lt2 4 ((k*s:Nat):Int):=by unfold Lt2;omega
 have ej:((k*s:Nat):Int)-((j+1:Nat):Int)=((k*s-(j+1):Nat):Int):=by omega
 obtain⟨n1,hn1⟩:∃ n1,n1=(b+b+31+(b+8))*s+2:=⟨_,rfl⟩;obtain⟨b1,hb1⟩:∃ b1,b1=(b+8)*s+1:=⟨_,rfl⟩;have m1:(b+b+31+(b+8))*s<=(b+b+31+(b+8))*12:=aB _ (by omega);have m2:(b+8)*s<=(b+8)*12:=aB _ (by omega);have m3:b1*k<=(b+8)*12+12:=by
  rw [hb1,cL,Nat.one_mul,Nat.mul_assoc,cB s k];have:(b+8)*(k*s)<=(b+8)*12:=aB _ ks;omega
 have m4:(n1+9)*k<=(b+b+31+(b+8))*12+132:=by
  rw [hn1,cN,cL,Nat.mul_assoc,cB s k];have:(b+b+31+(b+8))*(k*s)<=(b+b+31+(b+8))*12:=aB _ ks;omega
 rw [← hn1,← hb1] at zF;refine⟨rfl,(P,B,k*s-(j+1),b,b),⟨congrArg (fun x=>[pD P B,.int x]) ej,z,by show b<=9000000;omega⟩,?_⟩;rintro d1 f1;have f1:FqD b b d1 (Qp.q P B (k*s-(j+1))):=f1;refine⟨rfl,(u1,t1),⟨rfl,t10,lt1.mono (by omega)⟩,?_⟩;rintro d2 e;have f2:FqD b b d2 ((u1:Rat) / (t1:Rat)):=by
  rw [show d2=fD (Fr.top u1 t1) (Fr.bot u1 t1) from e];exact FqD.ofN t10 lu1 lt1
 refine⟨rfl,(d1,d2,_,_,b,b,b,b),⟨rfl,f1.v,f2.v,by show b+b<=9000000;omega,by show b+b<=9000000;omega⟩,?_⟩;rintro d6 f6;have f6:FqD (b+b) (b+b) d6 (Qp.q P B (k*s-(j+1))*((u1:Rat) / (t1:Rat))):=f6;refine⟨⟨by omega,4,ls,by decide⟩,rfl,(F,V,k,n1,b1),⟨congrArg (fun x=>[pD F V,.int x]) ed,zF,by show k*F.length<=400;omega,by show k<=400;omega,by show F.length<=400;omega,by show b1*k+1+b1<=9000000;omega,by show (n1+9)*k+1+n1<=900000;omega⟩,?_⟩;rintro _ ⟨R,rfl,pw⟩;have pw:IsPw F V k R:=pw;have zR:=pw.pz zF (by omega);obtain⟨n3,hn3⟩:∃ n3,n3=(n1+9)*k+1:=⟨_,rfl⟩;obtain⟨b3,hb3⟩:∃ b3,b3=b1*k+1:=⟨_,rfl⟩;rw [← hn3,← hb3] at zR;obtain⟨top,want⟩:=hF.want x.c0 x.g0 x.hp hL k1 js pw.1 pw.2;refine⟨rfl,(R.1,R.2,k*s-(j+1),n3,b3),⟨congrArg (fun x=>[pq R,.int x]) ej,zR,by show b3<=9000000;omega⟩,?_⟩;rintro _ ⟨t3,u3,rfl,u30,_,lt3,lu3,er3⟩;have er3:Qp.q R.1 R.2 (k*s-(j+1))=(t3:Rat) / (u3:Rat):=er3;have lz:Lt2 n3 (0-t3):=by
  have:(0-t3).natAbs=t3.natAbs:=by omega
  unfold Lt2 at lt3 ⊢;rw [this];exact lt3
 have f7:Hr n3 b3 (fD (0-t3) u3) (0-(t3:Rat) / (u3:Rat)):=⟨_,_,rfl,u30,lz,lu3,by rw [ev,show ((0:Int):Rat)=0 from rfl];grind⟩;refine⟨qW,rfl,(d6,fD (0-t3) u3,_,_,b+b,b+b,n3,b3),⟨rfl,f6.v,f7,by show b+b+b3<=9000000;omega,by show b+b+b3<=9000000;omega,by show n3+(b+b)<=9000000;omega⟩,?_⟩;rintro d8 f8;have f8:FqD (b+b+b3+(n3+(b+b))+1) (b+b+b3) d8 (Qp.q P B (k*s-(j+1))*((u1:Rat) / (t1:Rat))+(0-(t3:Rat) / (u3:Rat))):=f8;have f9:Hr 4 4 (fD ((s:Nat):Int) ((k*s:Nat):Int)) ((((s:Nat):Int):Rat) / (((k*s:Nat):Int):Rat)):=⟨_,_,rfl,by omega,ls,ln,rfl⟩;refine⟨qW,rfl,(d8,fD ((s:Nat):Int) ((k*s:Nat):Int),_,_,b+b+b3+(n3+(b+b))+1,b+b+b3,4,4),⟨rfl,f8.v,f9,by show b+b+b3+4<=9000000;omega,by show b+b+b3+(n3+(b+b))+1+4<=9000000;omega⟩,?_⟩;rintro _ ⟨ra,rb,rfl,r0,_,lra,lrb,er⟩;refine Jr x js (by omega) hF r0 lra lrb (by rw [← hn1];omega) (by rw [← hb1];omega) ?_ fun F' V' h=>hE F' V' _ _ _ _ h;have cj:c^(j+1)≠0:=bV (ao x.c0);refine (Qp.rh (ao r0) cj).mp ?_;have er:(Qp.q P B (k*s-(j+1))*((u1:Rat) / (t1:Rat))+(0-(t3:Rat) / (u3:Rat)))*((((s:Nat):Int):Rat) / (((k*s:Nat):Int):Rat))=(ra:Rat) / (rb:Rat):=er;rw [← er,← er3];have want:((P.getD (k*s-(j+1)) 0:Int):Rat) / ((P.getD (k*s) 0:Int):Rat)-Qp.q R.1 R.2 (k*s-(j+1))=((g (j+1):Int):Rat)*(k:Rat) / ((c^(j+1):Int):Rat):=want;have k0:((k:Int):Rat)≠0:=Qp.qJ (by omega);have s0:((s:Int):Rat)≠0:=Qp.qJ (by omega);have kk:((k:Int):Rat)=(k:Rat):=rfl;rw [← kk,Kg] at want;rw [show ((k*s:Nat):Int)=(k:Int)*(s:Int) by push_cast;rfl,ar];exact Kh (a:=((P.getD (k*s-(j+1)) 0:Int):Rat)) (Qp.qm B0) (Qp.qJ hL) (Qp.qJ t10) (Qp.qm u10) k0 s0 et want
def g9:SpB:=.of 2 (α:=List Int×Int×Nat×Nat×Nat) (fun (P,B,k,s,b) ds=>ds=[pD P B,.int (s:Nat)]/\Pc.Pz b b P B/\P.length=k*s+1/\1<=k/\1<=s/\k*s<=12/\b<=4000) (fun (P,B,k,s,b) d=>∃ G U,d=pD G U/\Cn P k s G U/\Pc.Pz ((b+b+31+(b+8))*s+2) ((b+8)*s+1) G U)
def pX:TSd:=(gz [] (gk 4))
def pY:TSd:=dSq (iA [] (iD (dC (.int 1)) (gk 1)) (gNm 5)
 oW) pX
def oX:TSd:=dSq (gB [] (gNm 4) (gq gu (gj (gr .Add (gr .Mult (gE (gj (dC (.int 0)) gm)) (gk 1)) (gE (gj (dC (.int 1)) gm))) (gj (dC (.int 1)) gm)))) pY
def nS:TSd:=dSq (gB [] (gNm 3) (gq gN (gj (gk 0) (gj (gk 2) gm)))) oX
def jC:TSd:=dSq (gB [] (gNm 2) (gr .Sub (dB bLen bLen.mono (gj (dIx (gk 0) (dC (.int 0))) gm)) (dC (.int 1)))) nS
theorem iZ:Does 9 jC g9:=by
 rintro ds Q hn ⟨⟨P,B,k,s,b⟩,⟨rfl,z,lP,k1,s1,ks,b9⟩,q⟩;dsimp only at z lP k1 s1 ks b9 q;have km1:k<=k*s:=bS _ s1;have km2:s<=k*s:=aV _ k1;have hL:=vN z.fm lP;obtain⟨c,g,x⟩:=Je z.tops (z.tops (k*s)) k1 s1 ks hL;suffices h1:nS.run (qt Q) [.val (pD P B),.val (.int s),.val (.int ((k*s:Nat):Int)),.no,.no,.no,.no,.no,.no] by
  show nS.run (qt Q) [.val (pD P B),.val (.int s),.val (.int (((P.map D.int).length:Int)-1)),.no,.no,.no,.no,.no,.no];rw [aa,lP,show ((k*s+1:Nat):Int)-1=((k*s:Nat):Int) by omega];exact h1
 refine⟨rfl,(P,B,k*s,b,b),⟨rfl,z,by show b<=9000000;omega⟩,?_⟩;rintro _ ⟨t1,u1,rfl,u10,_,lt1,lu1,et⟩;have et:Qp.q P B (k*s)=(t1:Rat) / (u1:Rat):=et;have t10:t1≠0:=by
  rintro rfl;have:Qp.q P B (k*s)=0:=by rw [et,show ((0:Int):Rat)=0 from rfl];grind
  exact hL ((Ag z.fm.pos).mp this)
 suffices h2:oX.run (qt Q) [.val (pD P B),.val (.int s),.val (.int ((k*s:Nat):Int)),.val (fD t1 u1),.no,.no,.no,.no,.no] from h2;refine⟨rZ,by omega,by omega,?_,rZ,?_,rfl,(List.replicate s (0:Int)++[1],1),⟨.inl ?_,cH,by show Lt2 9000000 (1:Int);unfold Lt2;exact cJ (by decide),?_⟩,?_⟩
 ·show 1*(s:Int).toNat<=sizeLine;exact rE (by omega)
 ·show ((List.replicate (s:Int).toNat [D.int 0]).flatten).length+1<=sizeLine;rw [aJ,qO,aa,aC];exact rE (by omega)
 ·show [D.lst ((List.replicate (s:Int).toNat [D.int 0]).flatten++[D.int 1]),.int 1]=[D.lst ((List.replicate s (0:Int)++[1]).map D.int),.int 1];rw [aJ,qO,aR];rfl
 ·show (List.replicate s (0:Int)++[1]).length<=1000;rw [ai,aC];show s+1<=1000;omega
 rintro _ ⟨F,V,rfl,fF,wF,lF⟩;have wF:∀ k,F.getD k 0*1=(List.replicate s (0:Int)++[1]).getD k 0*V:=wF;have lF:F.length<=(List.replicate s (0:Int)++[1]).length:=lF;rw [ai,aC] at lF;have fnd:=Bq (c:=c) x.g0 fF (show F.length<=s+1 from lF) wF;refine⟨⟨by omega,by omega,by omega,by omega⟩,fun i st=>∃ F V o5 o6 o7 o8,st=[.val (pD P B),.val (.int s),.val (.int ((k*s:Nat):Int)),.val (fD t1 u1),.val (pD F V),o5,o6,o7,o8]/\Fnd c g s i F V,⟨F,V,.no,.no,.no,.no,rfl,fnd⟩,?_,?_⟩
 ·rintro i d _ hd ⟨F,V,o5,o6,o7,o8,rfl,fnd⟩;obtain⟨hi,rfl⟩:=rc hd;have js:i+1<s:=by omega
  have e1:(1:Int)+(i:Int)=((i+1:Nat):Int):=by omega
  rw [e1];exact KN z b9 lP k1 ks x js fnd u10 t10 lt1 lu1 et fun F' V' o5 o6 o7 o8 h=>⟨F',V',o5,o6,o7,o8,rfl,h⟩
 ·rintro _ ⟨F,V,o5,o6,o7,o8,rfl,fnd⟩;rw [qz,show ((s:Int)-1).toNat=s-1 by omega] at fnd;exact q _ ⟨F,V,rfl,fnd.cn x.c0 s1 x.g0 x.hp,fnd.pzW x (aq _)⟩
end Dp
namespace Dp
open PySem L2
theorem IO{X Y:List Int}{Xc Yc:Int}(fX:Po.Fm X Xc)(fY:Po.Fm Y Yc)(hY:∀ k,Y.getD k 0*Xc = -X.getD k 0*Yc):Y.length<=X.length/\∀ x,Qp.E Y Yc x = -Qp.E X Xc x:=by
 have X0:=fX.pos;have l:Y.length<=X.length:=Pc.qH (f:=fun k => -X.getD k 0) fY X0 hY fun k hk=>by
  show -X.getD k 0=0;rw [qp hk];rfl
 refine⟨l,fun x=>?_⟩;rw [Qp.vZ (f:=fun k=>Cv.fn X k*(-1)) (N:=X.length) fY.pos (ao X0) (fun k=>by rw [hY k];unfold Cv.fn;grind) l,Qp.vP,Qp.DC (aq X.length)];rw [show ((-1:Int):Rat) = -1 from rfl];grind
structure Cap (V c:Int)(v cb Y n hn hb Am:Nat)(G:List Int)(U:Int):Prop where
 V0:0<V
 lV:Lt2 v V
 lc:Lt2 cb c
 zG:Pc.Pz hn hb G U
 n12:n<=12
 c1:Am+(Y+cb)*n+1<=3000000
 c2:v+cb*n+1<=3000000
 c3:hn<=3000000
 c4:hb<=3000000
theorem FD{V c:Int}{N A Y:Nat}:Ww V c N A Y [] 1:=⟨Ap.GF,aI _,fun _=>0,fun k _=>⟨by simp,uZ _⟩⟩
end Dp
namespace Dp
open PySem L2 Ch
theorem FP{P G M R:List Int}{B U D0 C:Int}(fP:Po.Fm P B)(fG:Po.Fm G U)(fM:Po.Fm M D0)(fR:Po.Fm R C)(e:∀ x,Qp.E P B x=Qp.E R C x+Qp.E G U x*Qp.E M D0 x):Stp G U (M,D0) (R,C) (P,B):=by
 have DU:=av fM.pos fG.pos;obtain⟨W,Z,fW,hW⟩:=Ap.has (F:=Cv.cv (Cv.fn M) (Cv.fn G)) (n:=M.length+G.length) (c:=D0*U) DU fun k hk=>Cv.rj (fun j h=>Cv.qr h) (fun j h=>Cv.qr h) (by omega);have eW:=Qp.vj fM.pos fG.pos fW hW;refine⟨fP,fun k=>?_⟩;have:=Ap.Ij (u:=1) fP fW fR (fun x=>by rw [e x,eW x];grind) k;show Qp.q P B k=_+Qp.q R C k;rw [this,Qp.uC fW.pos (ao DU) hW k,Rat.one_mul]
theorem CB{A A':List Int}{B B':Int}{Q:D->Prop}(q:∀ k:Bool,(k=true↔A=A'/\B=B')->Q (.bl (!k))):oCmp .NotEq (pD A B) (pD A' B') Q :=
 ⟨xf _ _,xf _ _,xU _ _,fun k hk=>q k (hk.trans ⟨fun e=>by
  injection e with e1 e2;injection e2 with e2 _;injection e1 with e1;injection e2 with e2;exact⟨yf e1,e2⟩,fun⟨a,b⟩=>by rw [a,b]⟩)⟩
def pF:TSd:=(i5 [] 2 3 (gq gA (gj (gk 2) (gj (gk 6) gm))) (gq gA (gj (gk 3) (gj (gq gv (gj (gk 6) (gj (gk 4) gm))) gm))))
def pZ:TSd:=dSq (gB [] (gNm 6) (gq gu (gj (gr .Add (gr .Mult (gE (gj (dC (.int 0)) gm)) (gr .Sub (dB bLen bLen.mono (gj (dIx (gk 3) (dC (.int 0))) gm)) (dB bLen bLen.mono (gj (dIx (gk 1) (dC (.int 0))) gm)))) (gE (gj (dIx (dIx (gk 3) (dC (.int 0))) (iW (dC (.int 1)))) gm))) (gj (dIx (gk 3) (dC (.int 1))) gm))))
 pF
theorem D7{V c:Int}{N A Y s t v cb n hn hb Am:Nat}{g:Nat->Int}{G F M H:List Int}{U C D0 Hc:Int}{d0:D}{o5 o6:SD}{E:EndsD}(hw:Hw c s Y g G U)(cp:Cap V c v cb Y n hn hb Am G U)(fH:Po.Fm H Hc)(hH:∀ k,H.getD k 0*U = -G.getD k 0*Hc)(Nn:N<=n)(tN:t+s<=N)(hA:A+2<=Am)(lF:F.length=t+s+1)(wF:Ww V c N A Y F C)(wM:Ww V c (N-s) A Y M D0)
  (hE:∀ S Ec F' C' M' N',Ww V c N (A+2) Y F' C'->F'.length<=t+s->Ww V c (N-s) (A+1) Y M' N'->M'.length<=max M.length (t+1)->(∀ x,Qp.E F' C' x+Qp.E G U x*Qp.E M' N' x=Qp.E F C x+Qp.E G U x*Qp.E M D0 x)->E.nx [.val d0,.val (pD G U),.val (pD M' N'),.val (pD F' C'),.val (pD H Hc),o5,.val (pD S Ec)]) :
  pZ.run E [.val d0,.val (pD G U),.val (pD M D0),.val (pD F C),.val (pD H Hc),o5,o6]:=by
 have fF:=wF.1;have fM:=wM.1;have C0:=fF.pos;have U0:=hw.1.pos;have N0:=fM.pos;have s1:=hw.2.2.1;have lG:=hw.2.1;have n12:=cp.n12;have q1:=cp.c1;have q2:=cp.c2;have q3:=cp.c3;have q4:=cp.c4;have e1:(Y+cb)*N<=(Y+cb)*n:=aB _ Nn;have e2:cb*N<=cb*n:=aB _ Nn;have e3:(Y+cb)*(N-s)<=(Y+cb)*n:=aB _ (by omega);have e4:cb*(N-s)<=cb*n:=aB _ (by omega);have zF:=(wF.pz cp.V0 hw.2.2.2.1 cp.lc cp.lV).mono (n':=3000000) (b':=3000000) (by omega) (by omega);have zM:=(wM.pz cp.V0 hw.2.2.2.1 cp.lc cp.lV).mono (n':=3000000) (b':=3000000) (by omega) (by omega);have lM:=wM.2.1;obtain⟨lH,eH⟩:=IO hw.1 fH hH;have H0:=fH.pos;have zH:Pc.Pz hn hb H Hc:=Pc.Pz.of fH U0 hH (fun k=>(cp.zG.tops k).neg) cp.zG.bot;have ek:(((F.map D.int).length:Nat):Int)-((G.map D.int).length:Nat)=((t:Nat):Int):=by
  rw [aa,aa,lG,lF];omega
 have atF:vg (F.map D.int) (-1)=some (.int (F.getD (t+s) 0)):=vX (j:=1) (n:=F.length) (by rw [lF];exact rJ (by omega)) (aa _) (by decide) (by omega);refine⟨rZ,?_,?_,?_,t7 atF ⟨rZ,?_,rfl,(List.replicate t (0:Int)++[F.getD (t+s) 0],C),⟨.inl ?_,C0,zF.bot.mono (by decide),?_⟩,?_⟩⟩
 ·show -(2^63)<=(((F.map D.int).length:Nat):Int)-((G.map D.int).length:Nat);rw [ek];omega
 ·show (((F.map D.int).length:Nat):Int)-((G.map D.int).length:Nat)<2^63;rw [ek];omega
 ·show 1*((((F.map D.int).length:Nat):Int)-((G.map D.int).length:Nat)).toNat<=sizeLine;rw [ek];exact rE (by omega)
 ·show ((List.replicate ((((F.map D.int).length:Nat):Int)-((G.map D.int).length:Nat)).toNat [D.int 0]).flatten).length+1<=sizeLine;rw [ek,aJ,qO,aa,aC];exact rE (by omega)
 ·show [D.lst ((List.replicate ((((F.map D.int).length:Nat):Int)-((G.map D.int).length:Nat)).toNat [D.int 0]).flatten++[D.int (F.getD (t+s) 0)]),.int C]=[D.lst ((List.replicate t (0:Int)++[F.getD (t+s) 0]).map D.int),.int C];rw [ek,aJ,qO,aR];rfl
 ·show (List.replicate t (0:Int)++[F.getD (t+s) 0]).length<=1000;rw [ai,aC];show t+1<=1000;omega
 rintro _ ⟨S,Ec,rfl,fS,wS,_⟩;have wS:∀ k,S.getD k 0*C=(List.replicate t (0:Int)++[F.getD (t+s) 0]).getD k 0*Ec:=wS;have hS:∀ k,S.getD k 0*C=(if k=t then F.getD (t+s) 0 else 0)*Ec:=fun k=>by rw [wS,tH]
 obtain⟨wdS,lS⟩:=DN tN wF lF fS hS;have zS:=(wdS.pz cp.V0 hw.2.2.2.1 cp.lc cp.lV).mono (n':=3000000) (b':=3000000) (by omega) (by omega);have E0:=fS.pos;refine⟨rfl,(M,D0,S,Ec,3000000,3000000,3000000,3000000),⟨rfl,zM,zS,by decide,by decide,by show M.length<=900;omega,by show S.length<=900;omega⟩,?_⟩;rintro _ ⟨M',N',rfl,fM',hM'⟩;have hM':∀ k,M'.getD k 0*(D0*Ec)=(M.getD k 0*Ec+S.getD k 0*D0)*N':=hM';refine⟨rfl,(S,Ec,H,Hc,3000000,3000000,hn,hb),⟨rfl,zS,zH,by show 3000000+hb<=9000000;omega,by show 3000000+hn<=9000000;omega,by show S.length<=450;omega,by show H.length<=450;omega⟩,?_⟩;rintro _ ⟨X,Xc,rfl,fX,hX⟩;have hX0:∀ k,X.getD k 0*(Ec*Hc)=Cv.cv (Cv.fn S) (Cv.fn H) k*Xc:=hX;have hX1:∀ k,X.getD k 0*(Ec*U) = -Cv.cv (Cv.fn S) (Cv.fn G) k*Xc:=fun k=>by
  refine aA (ao H0) ?_;have a:=hX0 k;have b:U*Cv.cv (Cv.fn S) (Cv.fn H) k=(-Hc)*Cv.cv (Cv.fn S) (Cv.fn G) k:=by
   rw [← Ca.Df,← Ca.Df];refine Ca.wE (fun j _=>rfl) fun j _=>?_;have:=hH j;show U*H.getD j 0 = -Hc*G.getD j 0;rw [bv,this];grind
  calc X.getD k 0*(Ec*U)*Hc=X.getD k 0*(Ec*Hc)*U:=by grind
   _=U*Cv.cv (Cv.fn S) (Cv.fn H) k*Xc:=by rw [a];grind
   _=_:=by rw [b];grind
 have S0:∀ k,k≠t->S.getD k 0=0:=fun k hk=>by
  have a:=hS k;rw [if_neg hk,ax] at a;exact (bt.mp a).resolve_right (ao C0)
 obtain⟨wdX,lX,xk⟩:=DM hw tN fX wdS lS S0 hX1;have zX:=(wdX.pz cp.V0 hw.2.2.2.1 cp.lc cp.lV).mono (n':=3000000) (b':=3000000) (by omega) (by omega);refine⟨rfl,(F,C,X,Xc,3000000,3000000,3000000,3000000),⟨rfl,zF,zX,by decide,by decide,by show F.length<=900;omega,by show X.length<=900;omega⟩,?_⟩;rintro _ ⟨F',C',rfl,fF',hF'⟩;have hF':∀ k,F'.getD k 0*(C*Xc)=(F.getD k 0*Xc+X.getD k 0*C)*C':=hF';have X0:=fX.pos;have lF':F'.length<=t+s:=Pc.qH fF' (av C0 X0) hF' fun k hk=>by
  rcases bO hk with e|e
  ·rw [← e];have a:=hS t;rw [if_pos rfl] at a;refine aA (ao E0) ?_
   calc (F.getD (t+s) 0*Xc+X.getD (t+s) 0*C)*Ec=F.getD (t+s) 0*Ec*Xc+X.getD (t+s) 0*Ec*C:=by grind
    _=S.getD t 0*C*Xc + -S.getD t 0*Xc*C:=by rw [xk,a]
    _=0*Ec:=by grind
  ·rw [qp (fs:=F) (by omega),qp (fs:=X) (by omega)];simp
 refine hE S Ec F' C' M' N' (Ww.sum fF' hF' (wF.mono (show A<=A+1 by omega)) wdX (aq _)) lF' (Ww.sum fM' hM' wM wdS (aq _)) (Pc.qH fM' (av N0 E0) hM' fun k hk=>?_) fun x=>?_
 ·rw [qp (fs:=M) (by omega),qp (fs:=S) (by omega)];simp
 ·rw [Qp.DB C0 fX.pos fF'.pos hF' x,Qp.vj E0 H0 fX hX0 x,eH,Qp.DB N0 E0 fM'.pos hM' x];grind
def oY:TSd:=(iz (gx (gD .GtE (dB bLen bLen.mono (gj (dIx (gk 3) (dC (.int 0))) gm)) (dB bLen bLen.mono (gj (dIx (gk 1) (dC (.int 0))) gm))))
 (dSq (gB [] (gNm 6) (gq gu (gj (gr .Add (gr .Mult (gE (gj (dC (.int 0)) gm)) (gr .Sub (dB bLen bLen.mono (gj (dIx (gk 3) (dC (.int 0))) gm)) (dB bLen bLen.mono (gj (dIx (gk 1) (dC (.int 0))) gm)))) (gE (gj (dIx (dIx (gk 3) (dC (.int 0))) (iW (dC (.int 1)))) gm))) (gj (dIx (gk 3) (dC (.int 1))) gm))))
 (i5 [] 2 3 (gq gA (gj (gk 2) (gj (gk 6) gm))) (gq gA (gj (gk 3) (gj (gq gv (gj (gk 6) (gj (gk 4) gm))) gm))))))
theorem D6{V c:Int}{N A Y s v cb n hn hb Am:Nat}{g:Nat->Int}{G P H:List Int}{U B Hc:Int}{d0:D}{o5 o6:SD}{E:EndsD}(hw:Hw c s Y g G U)(cp:Cap V c v cb Y n hn hb Am G U)(fH:Po.Fm H Hc)(hH:∀ k,H.getD k 0*U = -G.getD k 0*Hc)(Nn:N<=n)(hA:A+28<=Am)(wP:Ww V c N A Y P B)
  (hE:∀ R C M D0 o5 o6,Ww V c N (A+26) Y R C->R.length<=s->Ww V c (N-s) (A+26) Y M D0->(M=[]\/M.length+s<=P.length)->(∀ x,Qp.E P B x=Qp.E R C x+Qp.E G U x*Qp.E M D0 x)->E.nx [.val d0,.val (pD G U),.val (pD M D0),.val (pD R C),.val (pD H Hc),o5,o6]) :
  oY.run E [.val d0,.val (pD G U),.val (pD [] 1),.val (pD P B),.val (pD H Hc),o5,o6]:=by
 have s1:=hw.2.2.1;have lG:=hw.2.1;have n12:=cp.n12;have lP:=wP.2.1;refine⟨fun st=>∃(F:List Int) (C:Int) (M:List Int) (D0:Int) (o5 o6:SD) (j:Nat),st=[.val d0,.val (pD G U),.val (pD M D0),.val (pD F C),.val (pD H Hc),o5,o6]/\F.length+j<=P.length/\(j=0\/j+s<=P.length)/\Ww V c N (A+2*j) Y F C/\Ww V c (N-s) (A+2*j) Y M D0/\(M=[]\/M.length+s<=P.length)/\∀ x,Qp.E P B x=Qp.E F C x+Qp.E G U x*Qp.E M D0 x,fun st=>match st with|[_,_,_,.val (.tup (.tup l::_)),_,_,_]=>l.length|_=>0,⟨P,B,[],1,o5,o6,0,rfl,aq _,.inl rfl,wP,FD,.inl rfl,fun x=>by rw [Ap.JG];grind⟩,?_⟩;rintro _ ⟨F,C,M,D0,o5,o6,j,rfl,lF,jl,wF,wM,lM,eP⟩;refine sS (p:=(((G.map D.int).length:Nat):Int)<=((F.map D.int).length:Nat)) (fun cc=>?_) (fun cc=>?_)
 ·rw [aa,aa,lG] at cc;obtain⟨t,lt⟩:∃ t,F.length=t+s+1:=⟨F.length-s-1,by omega⟩;refine D7 hw cp fH hH Nn (by omega) (by omega) lt wF wM fun S Ec F' C' M' N' wF' lF' wM' lM' e=>⟨⟨F',C',M',N',_,_,j+1,rfl,by omega,.inr (by omega),wF'.mono (by omega),wM'.mono (by omega),?_,fun x=>by rw [eP x,e x]⟩,?_⟩
  ·rcases lM with z|z
   ·rw [z] at lM';have:M'.length<=t+1:=by simpa using lM'
    exact .inr (by omega)
   ·exact .inr (by omega)
  ·show (F'.map D.int).length<(F.map D.int).length;rw [aa,aa];omega
 ·rw [aa,aa,lG] at cc;exact hE F C M D0 o5 o6 (wF.mono (by omega)) (by omega) (wM.mono (by omega)) lM eP
def iV:SpB:=.of 2 (α:=List Int×Int×List Int×Int×Int×Int×(Nat->Int)×Nat×Nat×Nat×Nat×Nat×Nat×Nat×Nat×Nat×Nat) (fun (P,B,G,U,V,c,g,N,n,s,A,Y,v,cb,hn,hb,Am) ds=>ds=[pD P B,pD G U]/\Hw c s Y g G U/\Cap V c v cb Y n hn hb Am G U/\N<=n/\A+28<=Am/\Ww V c N A Y P B/\s<=12)
 (fun (P,B,G,U,V,c,g,N,n,s,A,Y,v,cb,hn,hb,Am) d=>∃ M D0 R C,d = .tup [pD M D0,pD R C]/\Ww V c N (A+26) Y R C/\R.length<=s/\Ww V c (N-s) (A+26) Y M D0/\(M=[]\/M.length+s<=P.length)/\Stp G U (M,D0) (R,C) (P,B))
def p6:TSd:=dSq oY (gz [] (gw (gj (gk 2) (gj (gk 3) gm))))
def oZ:TSd:=dSq (gB [] (gNm 4) (gq gu (gj (gL (gU (dIx (gk 1) (dC (.int 0)))) [5] (gNm 5) hJ (gr .Sub (dC (.int 0)) (gk 5))) (gj (dIx (gk 1) (dC (.int 1))) gm)))) p6
def lD:TSd:=dSq (i5 [] 2 3 (gw (gj (gw gm) (gj (dC (.int 1)) gm))) (gk 0)) oZ
theorem Go{T:TSd}{G:List Int}{U:Int}{d0 d2 d3:D}{Q:EndsD}(fG:Po.Fm G U)(lG:G.length<=100)(lU:Lt2 9000000 U)(h:∀ H Hc o5,Po.Fm H Hc->(∀ k,H.getD k 0*U = -G.getD k 0*Hc)->T.run Q [.val d0,.val (pD G U),.val d2,.val d3,.val (pD H Hc),o5,.no]) :
  (dSq (gB [] (gNm 4) (gq gu (gj (gL (gU (dIx (gk 1) (dC (.int 0)))) [5] (gNm 5) hJ (gr .Sub (dC (.int 0)) (gk 5))) (gj (dIx (gk 1) (dC (.int 1))) gm)))) T).run Q [.val d0,.val (pD G U),.val d2,.val d3,.no,.no,.no]:=by
 refine rf (ds:=G.map D.int) (s0:=sR [5] [.val d0,.val (pD G U),.val d2,.val d3,.no,.no,.no]) (g:=gNm 5) (e:=gr .Sub (dC (.int 0)) (gk 5)) (Q:=fun d=>[d,.int U].length=gu.n/\gu.run [d,.int U] fun d=>T.run Q [.val d0,.val (pD G U),.val d2,.val d3,.val d,.no,.no]) (fun i y=>y = .int (-(G.getD i 0))) (by rw [aa];omega) (fun i d hd=>?_) fun ys ly hy=>?_
 ·rw [aw] at hd;obtain⟨z,hz,rfl⟩:=ab.mp hd;show D.int (0-z)=D.int (-(G.getD i 0));rw [ah,hz];exact congrArg D.int (by show 0-z = -z;omega)
 ·rw [aa] at ly;have ey:ys=(G.map fun z => -z).map D.int:=by
   refine dZ (by rw [aa,aa,ly]) fun i h1 h2=>?_;rw [hy i _ (ac h1),fZ,fZ,ah,ac (by omega)];rfl
  subst ey;refine⟨rfl,(G.map fun z => -z,U),⟨.inl rfl,fG.pos,lU,by show (G.map fun z => -z).length<=1000;rw [aa];omega⟩,?_⟩;rintro _ ⟨H,Hc,rfl,fH,hH,_⟩;refine h H Hc _ fH fun k=>?_;have:=hH k;rw [this];congr 1;rw [ah,ah,aw];cases G[k]? <;> rfl
theorem Kr{T:TSd}{d0 d1:D}{E:EndsD}(h:T.run E [.val d0,.val d1,.val (pD [] 1),.val d0,.no,.no,.no]):(dSq (i5 [] 2 3 (gw (gj (gw gm) (gj (dC (.int 1)) gm))) (gk 0)) T).run E (startD 7 [d0,d1]):=by
 refine⟨FO,qW,?_⟩;exact h
theorem Kq{P G:List Int}{B U V c:Int}{g:Nat->Int}{N n s A Y v cb hn hb Am:Nat}{Q:D->Prop}(hw:Hw c s Y g G U)(cp:Cap V c v cb Y n hn hb Am G U)(Nn:N<=n)(hA:A+28<=Am)(wP:Ww V c N A Y P B)(s12:s<=12)(q:∀ d,(∃ M D0 R C,d = .tup [pD M D0,pD R C]/\Ww V c N (A+26) Y R C/\R.length<=s/\Ww V c (N-s) (A+26) Y M D0/\(M=[]\/M.length+s<=P.length)/\Stp G U (M,D0) (R,C) (P,B))->Q d):oZ.run (qt Q) [.val (pD P B),.val (pD G U),.val (pD [] 1),.val (pD P B),.no,.no,.no]:=by
 have lG:=hw.2.1;have q4:=cp.c4;refine Go hw.1 (by omega) (cp.zG.bot.mono (by omega)) fun H Hc o5 fH hH=>?_;refine D6 hw cp fH hH Nn hA wP fun R C M D0 o5 o6 wR lR wM lM e=>?_;refine⟨qW,q _ ⟨M,D0,R,C,rfl,wR,lR,wM,lM,FP wP.1 hw.1 wM.1 wR.1 e⟩⟩
theorem jX:Does 7 lD iV:=by
 rintro ds Q hn ⟨⟨P,B,G,U,V,c,g,N,n,s,A,Y,v,cb,hn',hb,Am⟩,⟨rfl,hw,cp,Nn,hA,wP,s12⟩,q⟩;exact Kr (Kq hw cp Nn hA wP s12 q)
theorem GT{G:List Int}{U:Int}{s w:Nat}(z:Pc.Pz w w G U)(lG:G.length=s+1)(s1:1<=s)(mG:G.getD s 0=U):Hw U s w (fun j=>if j=0 then 1 else G.getD (s-j) 0*U^(j-1)) G U:=by
 refine⟨z.fm,lG,s1,z.fm.pos,rfl,fun i hi=>?_,fun i hi=>?_⟩
 ·rcases cW i with e|e
  ·subst e;dsimp only;rw [if_pos rfl,bE,mG,bc];omega
  ·dsimp only;rw [if_neg (by omega),bI,← bC,show (i-1).succ=i by omega]
 ·rcases cW i with e|e
  ·subst e;dsimp only;rw [if_pos rfl,Nat.mul_zero];unfold Lt2;decide
  ·dsimp only;rw [if_neg (by omega)];refine ((z.tops _).mul (Hv.rF z.bot (i-1))).mono ?_;have:w*i=w*(i-1)+w:=by rw [← bJ];congr 1;omega
   omega
theorem GS{G:List Int}{U:Int}{p r:Pl}(fp:Po.Fm p.1 p.2)(h:Stp G U ([],1) p r):HzR G U [p] r:=vq fp h
def gT:SpB:=.of 2 (α:=List Int×Int×Nat×Nat×List Int×Int×Nat×Nat) (fun (P,B,n,a,G,U,s,w) ds=>ds=[pD P B,pD G U]/\P.length=n+1/\n<=12/\Pc.Pz a a P B/\Pc.Pz w w G U/\G.length=s+1/\G.getD s 0=U/\1<=s/\s<=12/\a<=4000/\w<=60000)
 (fun (P,B,n,a,G,U,s,w) d=>∃ ps,d=cD ps/\ps.length*s<=n+s/\rL P B G U s ps/\∀ p∈ps,Pc.Pz (a+500+(w+w)*n) (a+500+(w+w)*n) p.1 p.2)
def p7:TSd:=(gz [2] (dB bTuple bTuple.mono (gj (gk 2) gm)))
def o9:TSd:=(iz (gx (gD .NotEq (gk 3) (gw (gj (gw gm) (gj (dC (.int 1)) gm)))))
 (dSq (gB [] (gTp [3,4]) (gq iV (gj (gk 3) (gj (gk 1) gm))))
 (oi [] 2 (gk 4))))
def kL:TSd:=dSq (kW [] 2 (gE gm)) (dSq (gB [] (gNm 3) (gk 0)) (dSq o9 p7))
theorem yl{ps:List Pl}{p:Pl}:(ps++[p]).getLast? = some p:=by simp
theorem KM{P G:List Int}{B U:Int}{n a s w:Nat}{E:EndsD}(lP:P.length=n+1)(n12:n<=12)(zP:Pc.Pz a a P B)(zG:Pc.Pz w w G U)(lG:G.length=s+1)(mG:G.getD s 0=U)(s1:1<=s)(s12:s<=12)(ha:a<=4000)(hw6:w<=60000)
  (hE:∀ ps d3 o4,ps.length*s<=n+s->rL P B G U s ps->(∀ p∈ps,Pc.Pz (a+500+(w+w)*n) (a+500+(w+w)*n) p.1 p.2)->E.nx [.val (pD P B),.val (pD G U),.own (ps.map pq),.val d3,o4]) :
  o9.run E [.val (pD P B),.val (pD G U),.own [],.val (pD P B),.no]:=by
 have hw:=GT zG lG s1 mG;generalize (fun j=>if j=0 then (1:Int) else G.getD (s-j) 0*U^(j-1))=g at hw;have U0:=zG.fm.pos;have B0:=zP.fm.pos;have m1:(w+w)*n<=120000*12:=aL (by omega) n12;have m2:w*n<=60000*12:=aL hw6 n12;have m3:(w+w)*n=w*n+w*n:=cL _ _ _;have cp:Cap B U a w w n w w (a+1+400) G U:=⟨B0,zP.bot,zG.bot,zG,n12,by omega,by omega,by omega,by omega⟩;have wP:Ww B U n (a+1) w P B:=Il zP (by omega) U0 zG.bot (aq _);have P0:P≠[]:=by rintro rfl;simp at lP
 refine⟨fun st=>∃(F:List Int) (C:Int) (Ps:List Pl) (o4:SD),st=[.val (pD P B),.val (pD G U),.own (Ps.map pq),.val (pD F C),o4]/\Ww B U (n-Ps.length*s) (a+1+Ps.length*26) w F C/\(F=[]\/F.length+Ps.length*s<=n+1)/\Ps.length*s<=n+s/\(∀ p∈Ps,p.1.length<=s/\Pc.Pz (a+500+(w+w)*n) (a+500+(w+w)*n) p.1 p.2)/\((F=[]/\HzR G U Ps (P,B)/\∀ p,Ps.getLast? = some p->p.1≠[])\/(F≠[]/\∀ qs,HzR G U qs (F,C)->HzR G U (Ps++qs) (P,B))),fun st=>match st with|[_,_,_,.val (.tup (.tup l::_)),_]=>l.length|_=>0,⟨P,B,[],.no,rfl,?_,.inr (by show P.length+0*s<=_;omega),(by show 0*s<=_;omega),(fun p hp=>by cases hp),.inr ⟨P0,fun qs h=>h⟩⟩,?_⟩
 ·show Ww B U (n-0*s) (a+1+0*26) w P B;rw [cS,cS,bE];exact wP
 rintro _ ⟨F,C,Ps,o4,rfl,wF,lF,lPs,hPs,hz⟩;have fF:=wF.1;refine⟨FO,qW,CB (A':=[]) (B':=1) fun k hk=>?_⟩;cases k with
 | true =>
  obtain⟨rfl,rfl⟩:=hk.mp rfl;rcases hz with⟨_,hz,hl⟩|⟨z,_⟩
  ·exact hE Ps _ o4 lPs ⟨hz,fun p hp=>(hPs p hp).1,hl⟩ fun p hp=>(hPs p hp).2
  ·exact absurd rfl z
 | false =>
  have F0:F≠[]:=fun z=>by
   have:F=[]/\C=1:=Po.uniq fF u6 fun k=>by rw [z];simp
   have:=hk.mpr this;cases this
  have lF:F.length+Ps.length*s<=n+1:=by
   rcases lF with z|z
   ·exact absurd z F0
   ·exact z
  have lF1:1<=F.length:=ci.mpr F0;have pl:Ps.length<=Ps.length*s:=bS _ s1;have hz:∀ qs,HzR G U qs (F,C)->HzR G U (Ps++qs) (P,B):=by
   rcases hz with⟨z,_⟩|⟨_,h⟩
   ·exact absurd z F0
   ·exact h
  refine⟨rfl,(F,C,G,U,B,U,g,n-Ps.length*s,n,s,a+1+Ps.length*26,w,a,w,w,w,a+1+400),⟨rfl,hw,cp,by omega,by omega,wF,s12⟩,?_⟩;rintro _ ⟨M,D0,R,C',rfl,wR,lR,wM,lM,st⟩;have wR:Ww B U (n-Ps.length*s) (a+1+Ps.length*26+26) w R C':=wR;have wM:Ww B U (n-Ps.length*s-s) (a+1+Ps.length*26+26) w M D0:=wM;have st:Stp G U (M,D0) (R,C') (F,C):=st;have lM:M=[]\/M.length+s<=F.length:=lM;have ps':(Ps.length+1)*s=Ps.length*s+s:=bq _ _;have n1:(w+w)*(n-Ps.length*s)<=(w+w)*n:=aB _ (by omega);have n2:w*(n-Ps.length*s)<=w*n:=aB _ (by omega);have zR:Pc.Pz (a+500+(w+w)*n) (a+500+(w+w)*n) R C':=(wR.pz B0 U0 zG.bot zP.bot).mono (by omega) (by omega);have fM:=wM.1;refine⟨rfl,(congrArg (· < sizeLine) (aa _)).mpr (by rw [sizeLine_eq];omega),⟨M,D0,Ps++[(R,C')],.val (pD R C'),?_,?_,?_,?_,fun p hp=>?_,?_⟩,?_⟩
  ·show [SD.val (pD P B),.val (pD G U),.own (Ps.map pq++[pD R C']),.val (pD M D0),.val (pD R C')]=_;rw [aR];rfl
  ·rw [ai];show Ww B U (n-(Ps.length+1)*s) (a+1+(Ps.length+1)*26) w M D0;rw [ps',show n-(Ps.length*s+s)=n-Ps.length*s-s by omega];exact wM.mono (by omega)
  ·rcases lM with z|z
   ·exact .inl z
   ·refine .inr ?_;rw [ai];show M.length+(Ps.length+1)*s<=_;omega
  ·rw [ai];show (Ps.length+1)*s<=_;omega
  ·rcases aM.mp hp with y|y
   ·exact hPs p y
   ·rw [aG.mp y];exact⟨lR,zR⟩
  ·by_cases m0:M=[]
   ·subst m0;have d1:D0=1:=by
     rcases fM with⟨x1,x2,x3⟩;have:([]:List Int)=[]/\D0=1:=Po.uniq ⟨x1,x2,x3⟩ u6 fun k=>by simp
     exact this.2
    subst d1;have e:=vq wR.1 st;refine .inl ⟨rfl,hz _ (GS wR.1 st),fun p hp=>?_⟩;rw [yl] at hp;cases hp;have:F=R:=congrArg Prod.fst e;show R≠[];rw [← this];exact F0
   ·refine .inr ⟨m0,fun qs hq=>?_⟩;rw [fE];exact hz _ (HzR.cons hq st)
  ·show (M.map D.int).length<(F.map D.int).length;rw [aa,aa];rcases lM with z|z
   ·rw [z];show 0<_;omega
   ·omega
theorem jD:Does 5 kL gT:=by
 rintro ds Q hn ⟨⟨P,B,n,a,G,U,s,w⟩,⟨rfl,lP,n12,zP,zG,lG,mG,s1,s12,ha,hw⟩,q⟩;dsimp only at lP n12 zP zG lG mG s1 s12 ha hw q;refine⟨aI _,?_⟩;exact KM lP n12 zP zG lG mG s1 s12 ha hw fun ps d3 o4 l h hp=>q _ ⟨ps,rfl,l,h,hp⟩
end Dp
namespace Dp
open PySem L2 Ch
theorem Bt{P G:List Int}{B U:Int}{k s:Nat}(B0:0<B)(k1:1<=k)(s1:1<=s)(hL:P.getD (k*s) 0≠0)(h:Cn P k s G U):rY P B (k*s) s G U:=by
 obtain⟨fG,lG,cG⟩:=h;obtain⟨mG,G0⟩:=yv cG s1;obtain⟨c,g,c0,g0,hp,r1,r0⟩:=cG;have U0:=fG.pos;refine⟨lG,(B6 U0).mpr mG,(Ag U0).mpr G0,fun t h1 h2=>?_⟩;rw [Nat.mul_div_cancel _ (by omega)];obtain⟨j,js,rfl⟩:∃ j,j<s/\t=k*s-j:=⟨k*s-t,by omega,by omega⟩;have ks:s<=k*s:=aV _ k1;have kj:j<=k*s:=by omega
 have fz:∀ i,s<i->Cv.fn G i=0:=fun i hi=>Cv.qr (by omega);have e:Pc.cp (Cv.fn G) k (k*s-j)*c^j=Ca.pw g k j*U^k:=by
  rw [← Ca.Ce,Ca.Cb fz k j kj];exact Ca.E2 (G:=Cv.fn G) (g:=g) (c:=c) (U:=U) (k:=k) (s:=s) (j:=j) (fun i hi=>r1 i hi) js
 have e2:P.getD (k*s-j) 0*c^j=P.getD (k*s) 0*Ca.pw g k j:=hp j js;have cj:=Qp.qJ (bV (ao c0):c^j≠0);have Uk:=Qp.qJ (bV (ao U0):U^k≠0);have Bn:=Qp.qm B0;have a1:((Pc.cp (Cv.fn G) k (k*s-j):Int):Rat)*((c^j:Int):Rat)=((Ca.pw g k j:Int):Rat)*((U^k:Int):Rat):=by rw [← ar,e,ar]
 have a2:((P.getD (k*s-j) 0:Int):Rat)*((c^j:Int):Rat)=((P.getD (k*s) 0:Int):Rat)*((Ca.pw g k j:Int):Rat):=by rw [← ar,e2,ar]
 unfold cq Qp.q;generalize ((Pc.cp (Cv.fn G) k (k*s-j):Int):Rat)=v1 at *;generalize ((c^j:Int):Rat)=v2 at *;generalize ((Ca.pw g k j:Int):Rat)=v3 at *;generalize ((U^k:Int):Rat)=v4 at *;generalize ((P.getD (k*s-j) 0:Int):Rat)=v5 at *;generalize ((P.getD (k*s) 0:Int):Rat)=v6 at *;have b1:v1=v3*v4 / v2:=by grind
 have b2:v5=v6*v3 / v2:=by grind
 rw [b1,b2];grind
theorem wG{ds:List D}{s0:SS}{g:TGd}{c:TTd}{e:TEd}{Q:D->Prop}(p:D->Bool)(W:D->D->Prop)(hl:ds.length<=100)(h:∀ d∈ds,g.run d s0 fun s1=>c.run s1 fun k=>k=p d/\(k=true->e.run s1 (W d)))(q:∀ ys:List D,ys.length=(ds.filter p).length->(∀(i:Nat) (d y:D),(ds.filter p)[i]? = some d->ys[i]? = some y->W d y)->Q (.lst ys)):compD ds s0 g c e Q:=by
 refine⟨rE (by omega),fun i ys=>ys.length=((ds.take i).filter p).length/\∀(j:Nat) (d y:D),((ds.take i).filter p)[j]? = some d->ys[j]? = some y->W d y,⟨rfl,fun j d y h=>by cases h⟩,?_,?_⟩
 ·rintro i d ys hd _ ⟨l,hw⟩;have ed:ds.take (i+1)=ds.take i++[d]:=by rw [fv,hd];rfl
  refine g.mono (fun s1 w=>c.mono (fun k w=>?_) w) (h d (aO hd));obtain⟨ek,w⟩:=w;cases k with
  | false =>
   show _/\_;rw [ed,dQ,List.filter_cons_of_neg (by rw [← ek];decide),List.filter_nil,cr];exact⟨l,hw⟩
  | true =>
   have w:=w rfl;show e.run s1 _;refine e.mono (fun y w=>?_) w;show _/\_;rw [ed,dQ,List.filter_cons_of_pos (by rw [← ek]),List.filter_nil];refine⟨by rw [ai,ai,l];rfl,fun j d' z h1 h2=>?_⟩;rcases aP j ys.length with x|x
   ·rw [bj (by omega)] at h1;rw [bj x] at h2;exact hw j d' z h1 h2
   ·rw [aT (by omega)] at h1;rw [aT x] at h2;have e0:j-ys.length=0:=by
     have:=(aj.mp h2).1;simp at this;omega
    rw [← l,e0] at h1;rw [e0] at h2;cases h1;cases h2;exact w
 ·rintro ys _ ⟨l,hw⟩;rw [bN] at l hw;exact q ys l hw
def uS(n:Nat):List D:=uW 2 ((n:Int)-2).toNat
def uU(n:Nat)(d:D):Bool:=match d with | .int z=>decide ((n:Int).fmod z=0)|_=>false
theorem C4:∀ n,n<=12->((List.range (n-2)).filter fun i=>decide ((n:Int).fmod ((2:Int)+(i:Nat))=0)).map (fun i=>(2:Int)+(i:Nat))=(sT n).map fun s=>((s:Nat):Int):=by decide
theorem vd{n:Nat}(h:n<=12):(uS n).filter (uU n)=(sT n).map fun s=>D.int ((s:Nat):Int):=by
 have e0:=congrArg (List.map D.int) (C4 n h);rw [eK,eK] at e0;unfold uS uW;rw [show ((n:Int)-2).toNat=n-2 by omega,List.filter_map];exact e0
theorem wy{n i:Nat}{d:D}(h:(uS n)[i]? = some d):∃ s:Nat,2<=s/\s<n/\d = .int (s:Nat):=by
 obtain⟨hi,rfl⟩:=rc h;exact⟨2+i,by omega,by omega,by congr 1⟩
theorem EM:∀ n,n<=12->∀ s∈sT n,n / s*s=n/\s<=6/\1<=n / s:=by decide
end Dp
namespace Dp
open PySem L2 Ch
def gF:SpB:=.of 2 (α:=List Int×Int×Nat×uy×Nat×Nat×Nat) (fun (P,B,n,x,a,c,e) ds=>ds=[pD P B,qP x]/\P.length=n+1/\n<=12/\Pc.Pz a a P B/\x.length<=100/\(∀ y∈x,Pc.Pz c c y.1.1 y.1.2/\y.2.length<=13/\∀ p∈y.2,Pc.Pz e e p.1 p.2)/\a<=400000/\c<=60000/\e<=400000/\1<=e)
 (fun (P,B,n,x,_) d=>∃ b:Bool,d = .bl b/\(b=true↔tD P B n x))
def pG:TSd:=(gz [] (dB bAll bAll.mono (gj (gL (nE (gk 3) (gk 1)) [4,5] (gTp [4,5]) hJ (gq ic (gj (gk 0) (gj (gk 4) (gj (dIx (gk 5) (dC (.int 0))) (gj (dIx (gk 5) (dC (.int 1))) gm)))))) gm)))
def n5:TSd:=dSq (dIf [] (gx (gD .NotEq (dB bLen bLen.mono (gj (gk 1) gm)) (dB bLen bLen.mono (gj (gk 3) gm))))
 (gz [] (dC (.bl false)))
 gC) pG
def jY:TSd:=dSq (gB [] (gNm 2) (gr .Sub (dB bLen bLen.mono (gj (dIx (gk 0) (dC (.int 0))) gm)) (dC (.int 1)))) (dSq (gB [] (gNm 3) (gL (iD (dC (.int 2)) (gk 2)) [4] (gNm 4) (gx (gD .Eq (gr .Mod (gk 2) (gk 4)) (dC (.int 0)))) (gk 4))) n5)
theorem GZ{n:Nat}{ys:List D}(n12:n<=12)(l:ys.length=((uS n).filter (uU n)).length)(h:∀(i:Nat) (d y:D),((uS n).filter (uU n))[i]? = some d->ys[i]? = some y->y=d):ys=(sT n).map fun s=>D.int ((s:Nat):Int):=by
 rw [← vd n12];refine dZ l fun i h1 h2=>h i _ _ (ac h2) (ac h1)
theorem D5{T:TSd}{n:Nat}{d0 d1:D}{E:EndsD}(n12:n<=12)(h:T.run E [.val d0,.val d1,.val (.int (n:Nat)),.val (.lst ((sT n).map fun s=>D.int ((s:Nat):Int))),.no,.no]) :
  (dSq (gB [] (gNm 3) (gL (iD (dC (.int 2)) (gk 2)) [4] (gNm 4) (gx (gD .Eq (gr .Mod (gk 2) (gk 4)) (dC (.int 0)))) (gk 4))) T).run E [.val d0,.val d1,.val (.int (n:Nat)),.no,.no,.no]:=by
 refine⟨⟨by omega,by omega,by omega,by omega⟩,wG (uU n) (fun d y=>y=d) (by rw [qz];omega) (fun d hd=>?_) fun ys l hw=>?_⟩
 ·obtain⟨i,hi⟩:=dF.mp hd;obtain⟨s,s2,sn,rfl⟩:=wy hi;refine⟨by omega,?_⟩;exact⟨rfl,fun _=>rfl⟩
 ·rw [GZ n12 l hw];exact h
theorem Iv{T:TSd}{P:List Int}{B:Int}{n:Nat}{d1:D}{E:EndsD}(lP:P.length=n+1)(h:T.run E [.val (pD P B),.val d1,.val (.int (n:Nat)),.no,.no,.no]):(dSq (gB [] (gNm 2) (gr .Sub (dB bLen bLen.mono (gj (dIx (gk 0) (dC (.int 0))) gm)) (dC (.int 1)))) T).run E (startD 6 [pD P B,d1]):=by
 have eN:((P.map D.int).length:Int)-1=((n:Nat):Int):=by rw [aa,lP];omega
 show T.run E [.val (pD P B),.val d1,.val (.int (((P.map D.int).length:Int)-1)),.no,.no,.no];rw [eN];exact h
theorem Iu{P:List Int}{B:Int}{n a c e:Nat}{x:uy}{Q:D->Prop}(lP:P.length=n+1)(n12:n<=12)(zP:Pc.Pz a a P B)(lx:x.length<=100)(hx:∀ y∈x,Pc.Pz c c y.1.1 y.1.2/\y.2.length<=13/\∀ p∈y.2,Pc.Pz e e p.1 p.2)(ha:a<=400000)(hc:c<=60000)(he:e<=400000)(e1:1<=e)(q:∀ b:Bool,(b=true↔tD P B n x)->Q (.bl b)) :
  n5.run (qt Q) [.val (pD P B),.val (qP x),.val (.int (n:Nat)),.val (.lst ((sT n).map fun s=>D.int ((s:Nat):Int))),.no,.no]:=by
 have no:¬ tD P B n x->Q (.bl false):=fun h=>q _ (by simp [h]);have lb:=xE n n12;refine GR (p:=((x.map rl).length:Int)=(((sT n).map fun s=>D.int ((s:Nat):Int)).length:Int)) (fun c1=>no fun z=>c1 (by rw [aa,aa,z.1])) (fun c1=>?_);rw [aa,aa] at c1;have le:x.length=(sT n).length:=by omega
 refine rf (ds:=wO ((sT n).map fun s=>D.int ((s:Nat):Int)) (x.map rl)) (s0:=sR [4,5] [.val (pD P B),.val (qP x),.val (.int (n:Nat)),.val (.lst ((sT n).map fun s=>D.int ((s:Nat):Int))),.no,.no]) (g:=gTp [4,5]) (e:=gq ic (gj (gk 0) (gj (gk 4) (gj (dIx (gk 5) (dC (.int 0))) (gj (dIx (gk 5) (dC (.int 1))) gm))))) (Q:=fun d=>bAll [d] Q) (fun i d=>∃ b:Bool,d = .bl b/\(b=true↔∀(s:Nat) (y:Pl×List Pl),(sT n)[i]? = some s->x[i]? = some y->rY P B n s y.1.1 y.1.2/\rL P B y.1.1 y.1.2 s y.2)) (by rw [rq,aa,aa];omega) (fun i d hd=>?_) fun ys l hw=>?_
 ·obtain⟨u,v,h1,h2,rfl⟩:=xJ hd;rw [aw] at h1 h2;obtain⟨s,hs,rfl⟩:=ab.mp h1;obtain⟨y,hy,rfl⟩:=ab.mp h2;obtain⟨b1,b2⟩:=xD n n12 s (aO hs);obtain⟨zh,l13,zp⟩:=hx y (aO hy);refine⟨rfl,rfl,(P,B,n,s,y.1.1,y.1.2,y.2,a,c,e),⟨rfl,lP,by omega,by omega,n12,zP,zh,l13,zp,ha,hc,he,e1⟩,?_⟩;rintro _ ⟨b,rfl,hb⟩;exact⟨b,rfl,hb.trans ⟨fun z s' y' h1 h2=>by rw [hs] at h1;rw [hy] at h2;cases h1;cases h2;exact z,fun z=>z s y hs hy⟩⟩
 ·obtain⟨bs,rfl,hb⟩:=zK hw;refine⟨bs,rfl,q _ (hb.trans ⟨fun z=>⟨le,fun i s y hs hy=>z i ?_ s y hs hy⟩,fun z i _ s y hs hy=>z.2 i s y hs hy⟩)⟩;rw [l,rq,aa,aa];have:=(aj.mp hs).1;omega
theorem jc:Does 6 jY gF:=by
 rintro ds Q hn ⟨⟨P,B,n,x,a,c,e⟩,⟨rfl,lP,n12,zP,lx,hx,ha,hc,he,e1⟩,q⟩;exact Iv lP (D5 n12 (Iu lP n12 zP lx hx ha hc he e1 fun b hb=>q _ ⟨b,rfl,hb⟩))
def Pok(n:Nat)(y:Pl×List Pl):Prop:=∃ s,s∈sT n/\y.1.1.length=s+1/\y.1.1.getD s 0=y.1.2/\Pc.Pz 14700 14700 y.1.1 y.1.2/\1<=y.2.length/\y.2.length<=12/\∀ p∈y.2,Pc.Pz 355000 355000 p.1 p.2/\p.1.length<=12
def ig:SpB:=.of 1 (α:=List Int×Int×Nat×Nat) (fun (P,B,n,a) ds=>ds=[pD P B]/\P.length=n+1/\n<=12/\1<=n/\Pc.Pz a a P B/\a<=800)
 (fun (P,B,n,a) d=>∃ x:uy,d=qP x/\x.length<=6/\tD P B n x/\∀ y∈x,Pok n y)
def pb:TSd:=(gz [] (dB bTuple bTuple.mono (gj (gL (gU (gk 2)) [4] (gNm 4) hJ (gw (gj (gk 4) (gj (gq gT (gj (gk 0) (gj (gk 4) gm))) gm)))) gm)))
def ke:TSd:=dSq (gB [] (gNm 1) (gr .Sub (dB bLen bLen.mono (gj (dIx (gk 0) (dC (.int 0))) gm)) (dC (.int 1)))) (dSq (gB [] (gNm 2) (gL (iD (dC (.int 2)) (gk 1)) [3] (gNm 3) (gx (gD .Eq (gr .Mod (gk 1) (gk 3)) (dC (.int 0)))) (gq g9 (gj (gk 0) (gj (gk 3) gm))))) pb)
theorem Ko{T:TSd}{P:List Int}{B:Int}{n:Nat}{E:EndsD}(lP:P.length=n+1)(h:T.run E [.val (pD P B),.val (.int (n:Nat)),.no,.no,.no]):(dSq (gB [] (gNm 1) (gr .Sub (dB bLen bLen.mono (gj (dIx (gk 0) (dC (.int 0))) gm)) (dC (.int 1)))) T).run E (startD 5 [pD P B]):=by
 have eN:((P.map D.int).length:Int)-1=((n:Nat):Int):=by rw [aa,lP];omega
 show T.run E [.val (pD P B),.val (.int (((P.map D.int).length:Int)-1)),.no,.no,.no];rw [eN];exact h
def Hk(P:List Int)(B:Int)(n s:Nat)(H:Pl):Prop:=rY P B n s H.1 H.2/\H.1.getD s 0=H.2/\Pc.Pz 14700 14700 H.1 H.2
theorem CU{R:Nat->Pl->Prop}:∀(bs:List Nat) (ys:List D),(∀ i (hi:i<ys.length),∃ H:Pl,ys[i]=pq H/\∀ s,bs[i]? = some s->R s H)->∃ Hs:List Pl,ys=Hs.map pq/\∀(i s:Nat) (H:Pl),bs[i]? = some s->Hs[i]? = some H->R s H
 | _,[],_=>⟨[],rfl,fun i s H _ h=>by cases h⟩
 | bs,y::ys,ex=>by
  obtain⟨H,e,h0⟩:=ex 0 (by simp);obtain⟨Hs,rfl,hs⟩:=CU (R:=R) (bs.drop 1) ys fun i hi=>by
   obtain⟨H,e,h⟩:=ex (i+1) (by simpa using hi);exact⟨H,by simpa using e,fun s hs=>h s (by rw [fk] at hs;rw [eQ];exact hs)⟩
  have e:y=pq H:=e;subst e;refine⟨H::Hs,rfl,fun i s H' h1 h2=>?_⟩;cases i with
  | zero=>cases h2;exact h0 s h1
  | succ i=>exact hs i s H' (by rw [fk,eQ];exact h1) (by simpa using h2)
theorem Kn{T:TSd}{P:List Int}{B:Int}{n a:Nat}{E:EndsD}(lP:P.length=n+1)(n12:n<=12)(zP:Pc.Pz a a P B)(ha:a<=800)(h:∀ Hs:List Pl,Hs.length=(sT n).length->(∀(i s:Nat) (H:Pl),(sT n)[i]? = some s->Hs[i]? = some H->Hk P B n s H)->T.run E [.val (pD P B),.val (.int (n:Nat)),.val (.lst (Hs.map pq)),.no,.no]) :
  (dSq (gB [] (gNm 2) (gL (iD (dC (.int 2)) (gk 1)) [3] (gNm 3) (gx (gD .Eq (gr .Mod (gk 1) (gk 3)) (dC (.int 0)))) (gq g9 (gj (gk 0) (gj (gk 3) gm))))) T).run E [.val (pD P B),.val (.int (n:Nat)),.no,.no,.no]:=by
 refine⟨⟨by omega,by omega,by omega,by omega⟩,wG (uU n) (fun d y=>∀ s:Nat,d = .int (s:Nat)->s∈sT n->∃ H:Pl,y=pq H/\Hk P B n s H) (by rw [qz];omega) (fun d hd=>?_) fun ys l hw=>?_⟩
 ·have hd0:=hd;obtain⟨i,hi⟩:=dF.mp hd;obtain⟨s,s2,sn,rfl⟩:=wy hi;refine⟨by omega,rfl,fun hk=>?_⟩;have hin:s∈sT n:=by
   have:D.int ((s:Nat):Int)∈(uS n).filter (uU n):=bT.mpr ⟨hd0,hk⟩;rw [vd n12] at this;obtain⟨s',h',e⟩:=bB.mp this;injection e with e;have:s'=s:=by omega
   exact this ▸ h'
  obtain⟨e,s6,k1⟩:=EM n n12 s hin;refine⟨rfl,(P,B,n / s,s,a),⟨rfl,zP,by rw [e];exact lP,k1,by omega,by rw [e];exact n12,by omega⟩,?_⟩;rintro _ ⟨G,U,rfl,cn,zG⟩;have cn:Cn P (n / s) s G U:=cn;have zG:Pc.Pz ((a+a+31+(a+8))*s+2) ((a+8)*s+1) G U:=zG;have m1:(a+a+31+(a+8))*s<=(800+800+31+(800+8))*6:=aL (by omega) s6;have m2:(a+8)*s<=(800+8)*6:=aL (by omega) s6;have c39:=Bt zP.fm.pos k1 (by omega) (by rw [e];exact vN zP.fm lP) cn;rw [e] at c39;intro s' es _;injection es with es;have:s'=s:=by omega
  subst this;exact⟨(G,U),rfl,c39,(yv cn.2.2 (by omega)).1,zG.mono (by omega) (by omega)⟩
 ·have l:ys.length=((uS n).filter (uU n)).length:=l;have hw:∀(i:Nat) (d y:D),((uS n).filter (uU n))[i]? = some d->ys[i]? = some y->∀ s:Nat,d = .int (s:Nat)->s∈sT n->∃ H:Pl,y=pq H/\Hk P B n s H:=hw;rw [vd n12,aa] at l;have ex:∀ i (hi:i<ys.length),∃ H:Pl,ys[i]=pq H/\∀ s,(sT n)[i]? = some s->Hk P B n s H:=fun i hi=>by
   have hb:i<(sT n).length:=by omega
   obtain⟨H,e,hk⟩:=hw i _ _ (by rw [vd n12,aw,ac hb];rfl) (ac hi) (sT n)[i] rfl (bY _);exact⟨H,e,fun s hs=>by rw [ac hb] at hs;cases hs;exact hk⟩
  obtain⟨Hs,rfl,hs⟩:=CU (R:=Hk P B n) (sT n) ys ex;rw [aa] at l;exact h Hs l hs
theorem Km{P:List Int}{B:Int}{n a:Nat}{Hs:List Pl}{d1:D}{Q:D->Prop}(lP:P.length=n+1)(n12:n<=12)(n1:1<=n)(zP:Pc.Pz a a P B)(ha:a<=800)(lH:Hs.length=(sT n).length)(hH:∀(i s:Nat) (H:Pl),(sT n)[i]? = some s->Hs[i]? = some H->Hk P B n s H)(q:∀ x:uy,x.length<=6->tD P B n x->(∀ y∈x,Pok n y)->Q (qP x)) :
  pb.run (qt Q) [.val (pD P B),.val d1,.val (.lst (Hs.map pq)),.no,.no]:=by
 have lb:=xE n n12;refine rf (ds:=Hs.map pq) (s0:=sR [4] [.val (pD P B),.val d1,.val (.lst (Hs.map pq)),.no,.no]) (g:=gNm 4) (e:=gw (gj (gk 4) (gj (gq gT (gj (gk 0) (gj (gk 4) gm))) gm))) (Q:=fun d=>bTuple [d] Q) (fun i y=>∀(s:Nat) (H:Pl),(sT n)[i]? = some s->Hs[i]? = some H->∃ ps:List Pl,y=rl (H,ps)/\rL P B H.1 H.2 s ps/\Pok n (H,ps)) (by rw [aa];omega) (fun i d hd=>?_) fun ys l hw=>?_
 ·rw [aw] at hd;obtain⟨H,hH',rfl⟩:=ab.mp hd;have hi:=(aj.mp hH').1;have hb:i<(sT n).length:=by omega
  obtain⟨c39,mH,zH⟩:=hH i _ H (ac hb) hH';have hin:=bY hb;generalize hs:(sT n)[i]=s at *;obtain⟨b1,b2⟩:=xD n n12 s hin;have zP':=zP.mono (n':=800) (b':=800) ha ha;refine⟨rfl,(P,B,n,800,H.1,H.2,s,14700),⟨rfl,lP,n12,zP',zH,c39.1,mH,by omega,by omega,by decide,by decide⟩,?_⟩;rintro _ ⟨ps,rfl,l13,dg,zp⟩;have dg:rL P B H.1 H.2 s ps:=dg;refine⟨qW,fun s' H' h1 h2=>?_⟩;rw [ac hb,hs] at h1;rw [hH'] at h2;cases h1;cases h2;have zp:∀ p∈ps,Pc.Pz (800+500+(14700+14700)*n) (800+500+(14700+14700)*n) p.1 p.2:=zp;refine⟨ps,rfl,dg,s,hin,c39.1,mH,zH,?_,?_,fun p hp=>⟨(zp p hp).mono (by omega) (by omega),aF (dg.2.1 p hp) (by omega)⟩⟩
  ·show 1<=ps.length;cases ps with
   | nil=>exact dg.1.elim
   | cons=>exact Nat.le_add_left _ _
  ·show ps.length<=12;have l13:ps.length*s<=n+s:=l13;have:ps.length*2<=ps.length*s:=aB _ b1;omega
 ·rw [aa] at l;have key:∀(Hs:List Pl) (bs:List Nat) (ys:List D),Hs.length=bs.length->ys.length=Hs.length->(∀(i:Nat) (y:D),ys[i]? = some y->∀(s:Nat) (H:Pl),bs[i]? = some s->Hs[i]? = some H->∃ ps:List Pl,y=rl (H,ps)/\rL P B H.1 H.2 s ps/\Pok n (H,ps))->∃ x:uy,ys=x.map rl/\x.length=Hs.length/\(∀ y∈x,Pok n y)/\∀(i s:Nat) (y:Pl×List Pl),bs[i]? = some s->x[i]? = some y->Hs[i]? = some y.1/\rL P B y.1.1 y.1.2 s y.2:=by
   intro Hs;induction Hs with
   | nil =>
    intro bs ys _ l _;have:ys=[]:=bw.mp l;exact⟨[],this,rfl,(fun y h=>by cases h),fun i s y _ h=>by cases h⟩
   | cons H Hs ih =>
    intro bs ys l1 l2 h;obtain⟨b,bs,rfl⟩:∃ b bs',bs=b::bs':=by
     cases bs with
     | nil=>simp at l1
     | cons b bs=>exact⟨b,bs,rfl⟩
    obtain⟨y,ys,rfl⟩:∃ b bs',ys=b::bs':=by
     cases ys with
     | nil=>simp at l2
     | cons b bs=>exact⟨b,bs,rfl⟩
    obtain⟨ps,rfl,h1,h2⟩:=h 0 y rfl b H rfl rfl;obtain⟨x,rfl,lx,hx,hx2⟩:=ih bs ys (by simpa using l1) (by simpa using l2) fun i y hy s H' h3 h4=>h (i+1) y (by simpa using hy) s H' (by simpa using h3) (by simpa using h4);refine⟨(H,ps)::x,rfl,by simp [lx],fun y hy=>?_,fun i s y h3 h4=>?_⟩
    ·rcases ak.mp hy with z|z
     ·rw [z];exact h2
     ·exact hx y z
    ·cases i with
     | zero=>cases h3;cases h4;exact⟨rfl,h1⟩
     | succ i =>
      obtain⟨a1,a2⟩:=hx2 i s y (by simpa using h3) (by simpa using h4);exact⟨by simpa using a1,a2⟩
  obtain⟨x,rfl,lx,hx,hx2⟩:=key Hs (sT n) ys lH l hw;refine q x (by omega) ⟨by omega,fun i s y hs hy=>?_⟩ hx;obtain⟨a1,a2⟩:=hx2 i s y hs hy;exact⟨(hH i s y.1 hs a1).1,a2⟩
theorem jm:Does 5 ke ig:=by
 rintro ds Q hn ⟨⟨P,B,n,a⟩,⟨rfl,lP,n12,n1,zP,ha⟩,q⟩;exact Ko lP (Kn lP n12 zP ha fun Hs lH hH=>Km lP n12 n1 zP ha lH hH fun x l h hp=>q _ ⟨x,rfl,l,h,hp⟩)
end Dp
namespace Dp
open PySem L2 Ch
theorem qV{α:Type}{l:List α}{k:Nat}:qE l none (some ((k:Nat):Int))=l.take k:=by
 unfold qE;rw [HT.vC,HT.xa,cU,bE];rcases Nat.le_total k l.length with h|h
 ·rw [dE h]
 ·rw [Nat.min_eq_right h,bN,dr h]
theorem qL{α:Type}{l:List α}{k:Nat}:qE l (some ((k:Nat):Int)) none=l.drop k:=by
 unfold qE;rw [HT.vC,HT.xa];rcases Nat.le_total k l.length with h|h
 ·rw [dE h,dr (by rw [bf];omega)]
 ·rw [Nat.min_eq_right h,eL h,eL (aq _),List.take_nil]
theorem vp{P P':List Int}{B B':Int}{x y:Nat}{Q:D->Prop}(z:Pc.Pz x x P B)(z':Pc.Pz y y P' B')(l:P.length<=100)(l':P'.length<=100)(xy:x+y<=4000000)(q:∀ R C,Pc.Pz (x+y+1) (x+y+1) R C->R.length<=max P.length P'.length->(∀ k,R.getD k 0*(B*B')=(P.getD k 0*B'+P'.getD k 0*B)*C)->Q (pD R C)):[pD P B,pD P' B'].length=gA.n/\gA.run [pD P B,pD P' B'] Q:=by
 refine⟨rfl,(P,B,P',B',x,x,y,y),⟨rfl,z,z',by show x+y<=9000000;omega,by show x+y<=9000000;omega,by show P.length<=900;omega,by show P'.length<=900;omega⟩,?_⟩;rintro _ ⟨R,C,rfl,f,h⟩;have h:∀ k,R.getD k 0*(B*B')=(P.getD k 0*B'+P'.getD k 0*B)*C:=h;have p:=av z.fm.pos z'.fm.pos;refine q R C (Pc.Pz.of f p h (fun k=>?_) ((z.bot.mul z'.bot).mono (by omega))) (Pc.qH f p h fun k hk=>?_) h
 ·exact ((z.tops k).mul z'.bot).add (((z'.tops k).mul z.bot).mono (by omega:y+x<=x+y))
 ·rw [qp (fs:=P) (by omega),qp (fs:=P') (by omega)];simp
theorem u7{P P':List Int}{B B':Int}{x y:Nat}{Q:D->Prop}(z:Pc.Pz x x P B)(z':Pc.Pz y y P' B')(l:P.length<=100)(l':P'.length<=100)(xy:x+y<=4000000)(q:∀ R C,Pc.Pz (x+y+9) (x+y+9) R C->R.length<=P.length+P'.length-1->Q (pD R C)):[pD P B,pD P' B'].length=gv.n/\gv.run [pD P B,pD P' B'] Q:=by
 refine⟨rfl,(P,B,P',B',x,x,y,y),⟨rfl,z,z',by show x+y<=9000000;omega,by show x+y<=9000000;omega,by show P.length<=450;omega,by show P'.length<=450;omega⟩,?_⟩;rintro _ ⟨R,C,rfl,f,h⟩;have h:∀ k,R.getD k 0*(B*B')=Cv.cv (Cv.fn P) (Cv.fn P') k*C:=h;have p:=av z.fm.pos z'.fm.pos;have o1:∀ j,P.length<=j->Cv.fn P j=0:=fun j hj=>Cv.qr hj;have o2:∀ j,P'.length<=j->Cv.fn P' j=0:=fun j hj=>Cv.qr hj;exact q R C (Pc.Pz.of f p h (fun k=>xu z.tops z'.tops o1 o2 (by omega) k) ((z.bot.mul z'.bot).mono (by omega))) (Pc.qH f p h fun k hk=>Cv.rj o1 o2 (by omega))
def qX(y:Pl×List Pl):Prop:=Pc.Pz 60000 60000 y.1.1 y.1.2/\y.2.length<=13/\∀ p∈y.2,Pc.Pz 400000 400000 p.1 p.2
def iG:SpB:=.of 3 (α:=List Int×Int×Nat×(Pl×List Pl)) (fun (P,B,n,y) ds=>ds=[.fl,pD P B,rl y]/\P.length=n+1/\n<=12/\Pc.Pz 800 800 P B/\Pok n y) (fun _ d=>∃ y',d=rl y'/\qX y')
theorem xK{n:Nat}{Q:D->Prop}(n6:n<=60)(q:∀ S C,Pc.Pz 1 1 S C->S.length<=n+1->Q (pD S C)):[D.lst ((List.replicate ((n:Nat):Int).toNat [D.int 0]).flatten++[.int 1]),.int 1].length=gu.n/\gu.run [.lst ((List.replicate ((n:Nat):Int).toNat [D.int 0]).flatten++[.int 1]),.int 1] Q:=by
 refine⟨rfl,(List.replicate n (0:Int)++[1],1),⟨.inl ?_,cH,by show Lt2 9000000 (1:Int);unfold Lt2;exact cJ (by decide),?_⟩,?_⟩
 ·show [D.lst ((List.replicate ((n:Nat):Int).toNat [D.int 0]).flatten++[D.int 1]),.int 1]=[D.lst ((List.replicate n (0:Int)++[1]).map D.int),.int 1];rw [aJ,qO,aR];rfl
 ·show (List.replicate n (0:Int)++[1]).length<=1000;rw [ai,aC];show n+1<=1000;omega
 rintro _ ⟨S,C,rfl,fS,wS,lS⟩;have wS:∀ k,S.getD k 0*1=(List.replicate n (0:Int)++[1]).getD k 0*C:=wS;have lS:S.length<=(List.replicate n (0:Int)++[1]).length:=lS;rw [ai,aC] at lS;refine q S C (Pc.Pz.of fS cH wS (fun k=>?_) (by unfold Lt2;decide)) lS;rw [tH];by_cases e:k=n
 ·rw [if_pos e];unfold Lt2;decide
 ·rw [if_neg e];exact uZ _
theorem ua{n:Nat}(n6:n<=60) : -(2^63)<=((n:Nat):Int)/\((n:Nat):Int)<2^63/\1*((n:Nat):Int).toNat<=sizeLine/\((List.replicate ((n:Nat):Int).toNat [D.int 0]).flatten).length+1<=sizeLine:=by
 refine⟨by omega,by omega,rE (by omega),?_⟩;rw [aJ,qO,aa,aC];exact rE (by omega)
theorem Kt{T:TSd}{d1 d2 d3 d4:D}{s:Nat}{d6 d7:D}{S:List Int}{C:Int}{E:EndsD}(s1:1<=s)(s12:s<=12)(zS:Pc.Pz 4 4 S C)(lS:S.length<=1)(hE:∀ M N,Pc.Pz 14 14 M N->M.length<=s->T.run E [.val .fl,.val d1,.val d2,.val d3,.val d4,.val (.int (s:Nat)),.val d6,.val d7,.val (pD S C),.val (pD M N),.no,.no,.no]) :
  (dSq (gB [] (gNm 9) (gq gv (gj (gk 8) (gj (gq gu (gj (gr .Add (gr .Mult (gE (gj (dC (.int 0)) gm)) (gq gn (gj (gk 0) (gj (gk 5) gm)))) (gE (gj (dC (.int 1)) gm))) (gj (dC (.int 1)) gm))) gm)))) T).run E [.val .fl,.val d1,.val d2,.val d3,.val d4,.val (.int (s:Nat)),.val d6,.val d7,.val (pD S C),.no,.no,.no,.no]:=by
 refine⟨rZ,rfl,(s:Int),⟨rfl,by omega,tV (by omega)⟩,?_⟩;rintro _ ⟨j,rfl,j0,j1⟩;obtain⟨n,rfl⟩:∃ n:Nat,j=n:=⟨j.toNat,by omega⟩;obtain⟨p1,p2,p3,p4⟩:=ua (n:=n) (by omega);refine⟨p1,p2,p3,rZ,p4,?_⟩;refine xK (n:=n) (by omega) fun X Y zX lX=>?_;exact u7 zS zX (by omega) (by omega) (by decide) fun M N zM lM=>hE M N zM (by omega)
theorem Ku{T:TSd}{d1 d2 d3 d4 d5 d6 d7:D}{E:EndsD}(hE:∀ S C,Pc.Pz 4 4 S C->S.length<=1->T.run E [.val .fl,.val d1,.val d2,.val d3,.val d4,.val d5,.val d6,.val d7,.val (pD S C),.no,.no,.no,.no]) :
  (dSq (gB [] (gNm 8) (gq gu (gj (gE (gj (gr .Mult (dIx (gE (gj (dC (.int 1)) (gj (gr .Sub (dC (.int 0)) (dC (.int 1))) gm))) (gq gn (gj (gk 0) (gj (dC (.int 2)) gm)))) (gr .Add (dC (.int 1)) (gq gn (gj (gk 0) (gj (dC (.int 3)) gm))))) gm)) (gj (gr .Add (dC (.int 1)) (gq gn (gj (gk 0) (gj (dC (.int 2)) gm)))) gm)))) T).run E [.val .fl,.val d1,.val d2,.val d3,.val d4,.val d5,.val d6,.val d7,.no,.no,.no,.no,.no]:=by
 refine⟨qW,rfl,2,⟨rfl,by decide,tV (by decide)⟩,?_⟩;rintro _ ⟨i,rfl,i0,i1⟩;refine si i0 i1 fun x hx=>?_;obtain⟨z,rfl,hz⟩:∃ z:Int,x = .int z/\z.natAbs<=1:=by
  rcases ak.mp hx with e|e
  ·exact⟨1,e,by decide⟩
  ·exact⟨0-1,aG.mp e,by decide⟩
 refine⟨rfl,3,⟨rfl,by decide,tV (by decide)⟩,?_⟩;rintro _ ⟨j,rfl,j0,j1⟩;have lz:Lt2 1 z:=by unfold Lt2;omega
 have lj:Lt2 2 (1+j):=by unfold Lt2;omega
 refine⟨⟨_,_,lz,lj,by decide⟩,rZ,rfl,2,⟨rfl,by decide,tV (by decide)⟩,?_⟩;rintro _ ⟨k,rfl,k0,k1⟩;have lk:Lt2 2 (1+k):=by unfold Lt2;omega
 refine⟨rfl,([z*(1+j)],1+k),⟨.inl rfl,by omega,lk.mono (by decide),by show 1<=1000;decide⟩,?_⟩;rintro _ ⟨S,C,rfl,fS,wS,lS⟩;have wS:∀ t,S.getD t 0*(1+k)=([z*(1+j)]:List Int).getD t 0*C:=wS;refine hE S C (Pc.Pz.of fS (by omega) wS (fun t=>?_) (lk.mono (by decide))) lS;cases t with
 | zero=>exact (lz.mul lj).mono (by decide)
 | succ t=>exact uZ _
end Dp
namespace Dp
open PySem L2 Ch
structure Op39 (P:List Int)(B:Int)(n s:Nat)(H:List Int)(V:Int)(ps:List Pl)(a:Nat)(M:List Int)(N:Int):Prop where
 lP:P.length=n+1
 n12:n<=12
 zP:Pc.Pz 800 800 P B
 s2:2<=s
 s12:s<=12
 lH:H.length=s+1
 mH:H.getD s 0=V
 zH:Pc.Pz 14700 14700 H V
 p1:1<=ps.length
 p12:ps.length<=12
 zp:∀ p∈ps,Pc.Pz 355000 355000 p.1 p.2/\p.1.length<=12
 ha:a<ps.length
 zM:Pc.Pz 14 14 M N
 lM:M.length<=s
abbrev rR(P:List Int)(B:Int)(d2:D)(H:List Int)(V:Int)(ps:List Pl)(s:Nat)(f:Int)(a:Nat)(d8:D)(M:List Int)(N:Int):SS:=[.val .fl,.val (pD P B),.val d2,.val (pD H V),.val (cD ps),.val (.int (s:Nat)),.val (.int f),.val (.int (a:Nat)),.val d8,.val (pD M N),.no,.no,.no]
section
variable{P H M:List Int}{B V N f:Int}{n s a:Nat}{ps:List Pl}{d2 d8:D}{T:TSd}{Q:D->Prop}
theorem Op39.zp4(x:Op39 P B n s H V ps a M N):∀ p∈ps,Pc.Pz 400000 400000 p.1 p.2:=fun p hp=>(x.zp p hp).1.mono (by decide) (by decide)
theorem Op39.zH6(x:Op39 P B n s H V ps a M N):Pc.Pz 60000 60000 H V:=x.zH.mono (by decide) (by decide)
theorem rg{H':Pl}{l:List D}{qs:List Pl}(q:∀ y',qX y'->Q (rl y'))(e:l=qs.map pq)(z:Pc.Pz 60000 60000 H'.1 H'.2)(lq:qs.length<=13)(zq:∀ p∈qs,Pc.Pz 400000 400000 p.1 p.2):Q (.tup [pq H',.tup l]):=by
 subst e;exact q (H',qs) ⟨z,lq,zq⟩
theorem IK(x:Op39 P B n s H V ps a M N)(q:∀ y',qX y'->Q (rl y'))(h:T.run (qt Q) (rR P B d2 H V ps s f a d8 M N)):(dSq (dIf [] (gx (gD .Eq (gk 6) (dC (.int 0))))
 (gz [] (gw (gj (gq gA (gj (gk 3) (gj (gk 9) gm))) (gj (gq gT (gj (gk 1) (gj (gq gA (gj (gk 3) (gj (gk 9) gm))) gm))) gm))))
 gC) T).run (qt Q) (rR P B d2 H V ps s f a d8 M N):=by
 refine sS (p:=f=0) (fun _=>?_) (fun _=>h);have lH:=x.lH;have s12:=x.s12;have lM:=x.lM;refine vp x.zH x.zM (by omega) (by omega) (by decide) fun R C zR lR hR=>?_;refine vp x.zH x.zM (by omega) (by omega) (by decide) fun R' C' zR' lR' hR'=>?_;have pN:=av x.zH.fm.pos x.zM.fm.pos;have mR:R'.getD s 0=C':=by
  have:=hR' s;rw [x.mH,qp (fs:=M) (by omega),ax,bL,bv] at this;exact Int.eq_of_mul_eq_mul_left (ao pN) this
 have l2:R'.length=s+1:=by
  have c0:=zR'.fm.pos;rcases aP s R'.length with y|y
  ·have:max H.length M.length=s+1:=by omega
   omega
  ·rw [qp y] at mR;omega
 have s2:=x.s2;refine⟨rfl,(P,B,n,800,R',C',s,14715),⟨rfl,x.lP,x.n12,x.zP,zR',l2,mR,by omega,x.s12,by decide,by decide⟩,?_⟩;rintro _ ⟨qs,rfl,lq,dg,zq⟩;have lq:qs.length*s<=n+s:=lq;have zq:∀ p∈qs,Pc.Pz (800+500+(14715+14715)*n) (800+500+(14715+14715)*n) p.1 p.2:=zq;have n12:=x.n12;have:qs.length*2<=qs.length*s:=aB _ s2;exact⟨qW,rg (H':=(R,C)) (qs:=qs) q rfl (zR.mono (by decide) (by decide)) (by omega) fun p hp=>(zq p hp).mono (by omega) (by omega)⟩
theorem IJ(x:Op39 P B n s H V ps a M N)(q:∀ y',qX y'->Q (rl y'))(h:T.run (qt Q) (rR P B d2 H V ps s f a d8 M N)):(dSq (dIf [] (gx (gD .Eq (gk 6) (dC (.int 1))))
 (gz [] (gw (gj (gq gA (gj (gk 3) (gj (gq gv (gj (gk 9) (gj (gq gu (gj (gr .Add (gr .Mult (gE (gj (dC (.int 0)) gm)) (gq gn (gj (gk 0) (gj (dC (.int 3)) gm)))) (gE (gj (dC (.int 1)) gm))) (gj (dC (.int 1)) gm))) gm))) gm))) (gj (gk 4) gm))))
 gC) T).run (qt Q) (rR P B d2 H V ps s f a d8 M N):=by
 refine sS (p:=f=1) (fun _=>?_) (fun _=>h);have lH:=x.lH;have s12:=x.s12;have lM:=x.lM;have p12:=x.p12;refine⟨rZ,rfl,3,⟨rfl,by decide,tV (by decide)⟩,?_⟩;rintro _ ⟨j,rfl,j0,j1⟩;obtain⟨k,rfl⟩:∃ k:Nat,j=k:=⟨j.toNat,by omega⟩;obtain⟨p1,p2,p3,p4⟩:=ua (n:=k) (by omega);refine⟨p1,p2,p3,rZ,p4,?_⟩;refine xK (n:=k) (by omega) fun X Y zX lX=>?_;refine u7 x.zM zX (by omega) (by omega) (by decide) fun W Z zW lW=>?_;refine vp x.zH zW (by omega) (by omega) (by decide) fun R C zR lR hR=>?_;exact⟨qW,rg (H':=(R,C)) (qs:=ps) q rfl (zR.mono (by decide) (by decide)) (by omega) x.zp4⟩
theorem Eh{k:Nat}{C:Int}{x:Nat}{A:List Int}{Q:D->Prop}(z:Pc.Pz x x A C)(lA:A.length<=100)(hx:x<=400000)(k13:k<=13)(q:∀ R C',Pc.Pz (x+23) (x+23) R C'->Q (pD R C')):[D.lst [.int 1],.int (1*2^((k:Nat):Int).toNat)].length=gu.n/\gu.run [.lst [.int 1],.int (1*2^((k:Nat):Int).toNat)] fun d=>[pD A C,d].length=gv.n/\gv.run [pD A C,d] Q:=by
 have p0:(0:Int)<1*2^((k:Nat):Int).toNat:=by rw [bA];exact cP (by decide)
 have lp:Lt2 14 (1*2^((k:Nat):Int).toNat:Int):=by
  rw [bA,aJ];unfold Lt2;rw [Int.natAbs_pow];exact Nat.pow_lt_pow_right (by decide) (by omega)
 refine⟨rfl,([1],1*2^((k:Nat):Int).toNat),⟨.inl rfl,p0,lp.mono (by decide),by show 1<=1000;decide⟩,?_⟩;rintro _ ⟨S,E,rfl,fS,wS,lS⟩;have wS:∀ t,S.getD t 0*(1*2^((k:Nat):Int).toNat)=([1]:List Int).getD t 0*E:=wS;have lS:S.length<=1:=lS;have zS:Pc.Pz 14 14 S E:=Pc.Pz.of fS p0 wS (fun t=>by
  cases t with
  | zero=>show Lt2 14 (1:Int);unfold Lt2;decide
  | succ t=>exact uZ _) lp
 exact u7 z zS lA (by omega) (by omega) fun R C' zR lR=>q R C' (zR.mono (by omega) (by omega))
theorem Cl{Z:Pl->Prop}:∀ ys:List D,(∀(i:Nat) (y:D),ys[i]? = some y->∃ p:Pl,y=pq p/\Z p)->∃ qs:List Pl,ys=qs.map pq/\∀ p∈qs,Z p
 | [],_=>⟨[],rfl,fun p h=>by cases h⟩
 | y::ys,h=>by
  obtain⟨p,rfl,z⟩:=h 0 y rfl;obtain⟨qs,rfl,hq⟩:=Cl ys fun i y e=>h (i+1) y (by simpa using e);refine⟨p::qs,rfl,fun p' hp=>?_⟩;rcases ak.mp hp with e|e
  ·rw [e];exact z
  ·exact hq p' e
theorem qy{l:List D}{lo hi:Option Int}:(qE l lo hi).length<=l.length:=by
 unfold qE;rw [aD,bf];omega
theorem II(x:Op39 P B n s H V ps a M N)(q:∀ y',qX y'->Q (rl y'))(h:T.run (qt Q) (rR P B d2 H V ps s f a d8 M N)):(dSq (dIf [] (gx (gD .Eq (gk 6) (dC (.int 2))))
 (gz [] (gw (gj (gq gA (gj (gk 3) (gj (gk 3) gm))) (gj (dB bTuple bTuple.mono (gj (gL (iE (gk 4)) [10,11] (gTp [10,11]) hJ (gq gv (gj (gk 11) (gj (gq gu (gj (gE (gj (dC (.int 1)) gm)) (gj (gr .LShift (dC (.int 1)) (gk 10)) gm))) gm)))) gm)) gm))))
 gC) T).run (qt Q) (rR P B d2 H V ps s f a d8 M N):=by
 refine sS (p:=f=2) (fun _=>?_) (fun _=>h);have lH:=x.lH;have s12:=x.s12;have p12:=x.p12;refine vp x.zH x.zH (by omega) (by omega) (by decide) fun R C zR lR hR=>?_;refine rf (ds:=tX (ps.map pq)) (s0:=sR [10,11] (rR P B d2 H V ps s f a d8 M N)) (g:=gTp [10,11]) (e:=gq gv (gj (gk 11) (gj (gq gu (gj (gE (gj (dC (.int 1)) gm)) (gj (gr .LShift (dC (.int 1)) (gk 10)) gm))) gm))) (Q:=fun d=>bTuple [d] fun d=>2<=sizeLine/\Q (.tup [pD R C,d])) (fun i y=>∃ p:Pl,y=pq p/\Pc.Pz 400000 400000 p.1 p.2) (by rw [qC,aa];omega) (fun i d hd=>?_) fun ys l hw=>?_
 ·obtain⟨y,hy',rfl⟩:=wD hd;rw [aw] at hy';obtain⟨p,hp,rfl⟩:=ab.mp hy';have hi:=(aj.mp hp).1;obtain⟨zp,lp⟩:=x.zp p (aO hp);refine⟨rfl,rZ,⟨by omega,by omega,by decide⟩,?_⟩;exact Eh zp (by omega) (by decide) (by omega) fun R C zR=>⟨(R,C),rfl,zR.mono (by decide) (by decide)⟩
 ·obtain⟨qs,rfl,hq⟩:=Cl ys hw;rw [qC,aa,aa] at l;exact⟨qW,rg (H':=(R,C)) (qs:=qs) q rfl (zR.mono (by decide) (by decide)) (by omega) hq⟩
theorem IH(x:Op39 P B n s H V ps a M N)(q:∀ y',qX y'->Q (rl y'))(h:T.run (qt Q) (rR P B d2 H V ps s f a d8 M N)):(dSq (dIf [] (gx (gD .Eq (gk 6) (dC (.int 3))))
 (gz [] (gw (gj (gk 3) (gj (gr .Add (gr .Add (dSl (gk 4) dNo (gH (gk 7))) (gw (gj (gq gA (gj (dIx (gk 4) (gk 7)) (gj (gk 9) gm))) gm))) (dSl (gk 4) (gH (gr .Add (gk 7) (dC (.int 1)))) dNo)) gm))))
 gC) T).run (qt Q) (rR P B d2 H V ps s f a d8 M N):=by
 refine sS (p:=f=3) (fun _=>?_) (fun _=>h);have p12:=x.p12;have ha:=x.ha;have lM:=x.lM;have s12:=x.s12;obtain⟨zp,lp⟩:=x.zp _ (bY ha);refine⟨trivial,qM (n:=a) (d:=pq ps[a]) (by rw [aw,ac ha];rfl) ?_⟩;refine vp zp x.zM (by omega) (by omega) (by decide) fun R C zR lR hR=>?_;have l1:(qE (ps.map pq) none (some ((a:Nat):Int))).length<=12:=aF qy (by rw [aa];omega);have l2:(qE (ps.map pq) (some (((a:Nat):Int)+1)) none).length<=12:=aF qy (by rw [aa];omega);refine⟨rZ,rE (by show _+1<=_;omega),trivial,rE (by rw [ai];show _+1+_<=_;omega),qW,?_⟩;refine rg (H':=(H,V)) (qs:=ps.take a++[(R,C)]++ps.drop (a+1)) q ?_ x.zH6 ?_ fun p hp=>?_
 ·rw [qV,show ((a:Nat):Int)+1=((a+1:Nat):Int) from rfl,qL];simp [bH,bX]
 ·simp only [ai,aD,bf,bZ];omega
 ·rcases aM.mp hp with y|y
  ·rcases aM.mp y with y|y
   ·exact x.zp4 p (aZ y)
   ·rw [aG.mp y];exact zR.mono (by decide) (by decide)
  ·exact x.zp4 p (bx y)
theorem IG(x:Op39 P B n s H V ps a M N)(q:∀ y',qX y'->Q (rl y'))(h:T.run (qt Q) (rR P B d2 H V ps s f a d8 M N)):(dSq (dIf [] (gx (gD .Eq (gk 6) (dC (.int 4))))
 (gz [] (gw (gj (gk 3) (gj (gr .Add (gk 4) (gw (gj (gw (gj (gw gm) (gj (dC (.int 1)) gm))) gm))) gm))))
 gC) T).run (qt Q) (rR P B d2 H V ps s f a d8 M N):=by
 refine sS (p:=f=4) (fun _=>?_) (fun _=>h);have p12:=x.p12;refine⟨FO,qW,rZ,rE (by rw [aa];show _+1<=_;omega),qW,?_⟩;refine rg (H':=(H,V)) (qs:=ps++[([],1)]) q (by rw [aR];rfl) x.zH6 (by rw [ai];show _+1<=_;omega) fun p hp=>?_;rcases aM.mp hp with y|y
 ·exact x.zp4 p y
 ·rw [aG.mp y];exact wQ _ (by decide)
theorem IF(x:Op39 P B n s H V ps a M N)(q:∀ y',qX y'->Q (rl y'))(h:T.run (qt Q) (rR P B d2 H V ps s f a d8 M N)):(dSq (dIf [] (gx (gD .Eq (gk 6) (dC (.int 5))))
 (gz [] (gw (gj (gk 3) (gj (gr .Add (dSl (gk 4) dNo (gH (gk 7))) (dSl (gk 4) (gH (gr .Add (gk 7) (dC (.int 1)))) dNo)) gm))))
 gC) T).run (qt Q) (rR P B d2 H V ps s f a d8 M N):=by
 refine sS (p:=f=5) (fun _=>?_) (fun _=>h);have p12:=x.p12;have l1:(qE (ps.map pq) none (some ((a:Nat):Int))).length<=12:=aF qy (by rw [aa];omega);have l2:(qE (ps.map pq) (some (((a:Nat):Int)+1)) none).length<=12:=aF qy (by rw [aa];omega);refine⟨trivial,trivial,rE (by omega),qW,?_⟩;refine rg (H':=(H,V)) (qs:=ps.take a++ps.drop (a+1)) q ?_ x.zH6 ?_ fun p hp=>?_
 ·rw [qV,show ((a:Nat):Int)+1=((a+1:Nat):Int) from rfl,qL];simp [bH,bX]
 ·simp only [ai,aD,bf];omega
 ·rcases aM.mp hp with y|y
  ·exact x.zp4 p (aZ y)
  ·exact x.zp4 p (bx y)
theorem IE(x:Op39 P B n s H V ps a M N)(q:∀ y',qX y'->Q (rl y'))(h:T.run (qt Q) (rR P B d2 H V ps s f a d8 M N)):(dSq (dIf [] (i4 (gx (gD .Eq (gk 6) (dC (.int 6)))) (gx (gD .Lt (gr .Add (gk 7) (dC (.int 1))) (dB bLen bLen.mono (gj (gk 4) gm)))))
 (dSq (gB [] (gNm 12) (gw (gj (gq gA (gj (dIx (gk 4) (gk 7)) (gj (gk 3) gm))) (gj (gq gA (gj (dIx (gk 4) (gr .Add (gk 7) (dC (.int 1)))) (gj (gq gu (gj (gE (gj (gr .Sub (dC (.int 0)) (dC (.int 1))) gm)) (gj (dC (.int 1)) gm))) gm))) gm))))
 (gz [] (gw (gj (gk 3) (gj (gr .Add (gr .Add (dSl (gk 4) dNo (gH (gk 7))) (gk 12)) (dSl (gk 4) (gH (gr .Add (gk 7) (dC (.int 2)))) dNo)) gm)))))
 gC) T).run (qt Q) (rR P B d2 H V ps s f a d8 M N):=by
 refine sS (p:=f=6) (fun _=>?_) (fun _=>h);refine sS (p:=((a:Nat):Int)+1<((ps.map pq).length:Int)) (fun c=>?_) (fun _=>h);rw [aa] at c;have p12:=x.p12;have ha:=x.ha;have s12:=x.s12;have lH:=x.lH;have h1:a+1<ps.length:=by omega
 obtain⟨zp,lp⟩:=x.zp _ (bY ha);obtain⟨zp1,lp1⟩:=x.zp _ (bY h1);refine qM (n:=a) (d:=pq ps[a]) (by rw [aw,ac ha];rfl) ?_;refine vp zp x.zH (by omega) (by omega) (by decide) fun R C zR lR hR=>?_;refine qM (n:=a+1) (d:=pq ps[a+1]) (by rw [aw,ac h1];rfl) ?_;refine⟨rZ,rfl,([0-1],1),⟨.inl rfl,by show (0:Int)<1;decide,tV (m:=1) (by decide),by show 1<=1000;decide⟩,?_⟩;rintro _ ⟨S,E,rfl,fS,wS,lS⟩;have wS:∀ t,S.getD t 0*1=([0-1]:List Int).getD t 0*E:=wS;have lS:S.length<=1:=lS;have zS:Pc.Pz 1 1 S E:=Pc.Pz.of fS cH wS (fun t=>by
  cases t with
  | zero=>show Lt2 1 (0-1:Int);unfold Lt2;decide
  | succ t=>exact uZ _) (by unfold Lt2;decide)
 refine vp zp1 zS (by omega) (by omega) (by decide) fun R' C' zR' lR' hR'=>?_;have l1:(qE (ps.map pq) none (some ((a:Nat):Int))).length<=12:=aF qy (by rw [aa];omega);have l2:(qE (ps.map pq) (some (((a:Nat):Int)+2)) none).length<=12:=aF qy (by rw [aa];omega);refine⟨qW,trivial,rE (by show _+2<=_;omega),trivial,rE (by rw [ai];show _+2+_<=_;omega),qW,?_⟩;refine rg (H':=(H,V)) (qs:=ps.take a++[(R,C),(R',C')]++ps.drop (a+2)) q ?_ x.zH6 ?_ fun p hp=>?_
 ·rw [qV,show ((a:Nat):Int)+2=((a+2:Nat):Int) from rfl,qL];simp [bH,bX]
 ·simp only [ai,aD,bf,aY,List.length_nil];omega
 ·rcases aM.mp hp with y|y
  ·rcases aM.mp y with y|y
   ·exact x.zp4 p (aZ y)
   ·rcases ak.mp y with y|y
    ·rw [y];exact zR.mono (by decide) (by decide)
    ·rw [aG.mp y];exact zR'.mono (by decide) (by decide)
  ·exact x.zp4 p (bx y)
theorem ID(x:Op39 P B n s H V ps a M N)(q:∀ y',qX y'->Q (rl y'))(h:T.run (qt Q) (rR P B d2 H V ps s f a d8 M N)):(dSq (dIf [] (gx (gD .Eq (gk 6) (dC (.int 7))))
 (gz [] (gw (gj (gk 3) (gj (gw gm) gm))))
 gC) T).run (qt Q) (rR P B d2 H V ps s f a d8 M N):=by
 refine sS (p:=f=7) (fun _=>?_) (fun _=>h);exact⟨FO,qW,rg (H':=(H,V)) (qs:=[]) q rfl x.zH6 (by decide) fun p hp=>by cases hp⟩
theorem IC(x:Op39 P B n s H V ps a M N)(q:∀ y',qX y'->Q (rl y'))(h:T.run (qt Q) (rR P B d2 H V ps s f a d8 M N)):(dSq (dIf [] (gx (gD .Eq (gk 6) (dC (.int 8))))
 (gz [] (gw (gj (dIx (gE (gj (gw (gj (gw gm) (gj (dC (.int 1)) gm))) (gj (gw (gj (gw (gj (dC (.int 2)) gm)) (gj (dC (.int 1)) gm))) gm))) (gq gn (gj (gk 0) (gj (dC (.int 2)) gm)))) (gj (gk 4) gm))))
 gC) T).run (qt Q) (rR P B d2 H V ps s f a d8 M N):=by
 refine sS (p:=f=8) (fun _=>?_) (fun _=>h);have p12:=x.p12;refine⟨FO,qW,rZ,qW,qW,rfl,2,⟨rfl,by decide,tV (by decide)⟩,?_⟩;rintro _ ⟨i,rfl,i0,i1⟩;refine si i0 i1 fun z hz=>?_;rcases ak.mp hz with e|e
 ·subst e;exact⟨qW,rg (H':=([],1)) (qs:=ps) q rfl (wQ _ (by decide)) (by omega) x.zp4⟩
 ·rw [aG.mp e];refine⟨qW,rg (H':=([2],1)) (qs:=ps) q rfl ⟨⟨by decide,.inr (by decide),by rfl⟩,fun k=>?_,by unfold Lt2;exact cJ (by decide)⟩ (by omega) x.zp4⟩;cases k with
  | zero=>exact Lt2.mono (n:=2) (by unfold Lt2;decide) (by decide)
  | succ k=>exact uZ _
theorem IB(x:Op39 P B n s H V ps a M N)(q:∀ y',qX y'->Q (rl y'))(h:T.run (qt Q) (rR P B d2 H V ps s f a d8 M N)):(dSq (dIf [] (gx (gD .Eq (gk 6) (dC (.int 9))))
 (gz [] (dIx (gE (gj (gw (gj (gk 3) (gj (dSl (gr .Mult (gk 4) (dC (.int 2))) dNo (gH (dC (.int 13)))) gm))) (gj (gw (gj (gq gv (gj (gk 3) (gj (gk 3) gm))) (gj (gk 4) gm))) gm))) (gq gn (gj (gk 0) (gj (dC (.int 2)) gm)))))
 gC) T).run (qt Q) (rR P B d2 H V ps s f a d8 M N):=by
 refine sS (p:=f=9) (fun _=>?_) (fun _=>h);have p12:=x.p12;have s12:=x.s12;have lH:=x.lH;have ne:ps.map pq≠[]:=fun z=>by
  have:=x.p1;have:(ps.map pq).length=0:=by rw [z];rfl
  rw [aa] at this;omega
 have e2:(List.replicate (2:Int).toNat (ps.map pq)).flatten=(ps++ps).map pq:=by
  show (List.replicate 2 (ps.map pq)).flatten=_;simp [List.replicate]
 refine⟨fun z=>absurd z ne,by decide,by rw [aa];show ps.length*2<=100000;omega,trivial,qW,?_⟩;refine u7 x.zH x.zH (by omega) (by omega) (by decide) fun R C zR lR=>?_;refine⟨qW,qW,rfl,2,⟨rfl,by decide,tV (by decide)⟩,?_⟩;rintro _ ⟨i,rfl,i0,i1⟩;refine si i0 i1 fun z hz=>?_;rcases ak.mp hz with e|e
 ·subst e;refine rg (H':=(H,V)) (qs:=(ps++ps).take 13) q ?_ x.zH6 (by rw [aD];omega) fun p hp=>?_
  ·rw [e2,show (13:Int)=((13:Nat):Int) from rfl,qV,bH]
  ·rcases aM.mp (aZ hp) with y|y <;> exact x.zp4 p y
 ·rw [aG.mp e];exact rg (H':=(R,C)) (qs:=ps) q rfl (zR.mono (by decide) (by decide)) (by omega) x.zp4
theorem Gy(x:Op39 P B n s H V ps a M N)(q:∀ y',qX y'->Q (rl y')):((gz [] (gw (gj (gk 3) (gj (gr .Add (dSl (gk 4) (gH (gk 7)) dNo) (dSl (gk 4) dNo (gH (gk 7)))) gm))))).run (qt Q) (rR P B d2 H V ps s f a d8 M N):=by
 have p12:=x.p12;have l1:(qE (ps.map pq) none (some ((a:Nat):Int))).length<=12:=aF qy (by rw [aa];omega);have l2:(qE (ps.map pq) (some ((a:Nat):Int)) none).length<=12:=aF qy (by rw [aa];omega);refine⟨trivial,trivial,rE (by omega),qW,?_⟩;refine rg (H':=(H,V)) (qs:=ps.drop a++ps.take a) q ?_ x.zH6 ?_ fun p hp=>?_
 ·rw [qV,qL];simp [bH,bX]
 ·simp only [ai,aD,bf];omega
 ·rcases aM.mp hp with y|y
  ·exact x.zp4 p (bx y)
  ·exact x.zp4 p (aZ y)
end
end Dp
namespace Dp
open PySem L2 Ch
def pH:TSd:=(gz [] (gw (gj (gk 3) (gj (gr .Add (dSl (gk 4) (gH (gk 7)) dNo) (dSl (gk 4) dNo (gH (gk 7)))) gm))))
def pd:TSd:=dSq (dIf [] (gx (gD .Eq (gk 6) (dC (.int 0))))
 (gz [] (gw (gj (gq gA (gj (gk 3) (gj (gk 9) gm))) (gj (gq gT (gj (gk 1) (gj (gq gA (gj (gk 3) (gj (gk 9) gm))) gm))) gm))))
 gC) (dSq (dIf [] (gx (gD .Eq (gk 6) (dC (.int 1))))
 (gz [] (gw (gj (gq gA (gj (gk 3) (gj (gq gv (gj (gk 9) (gj (gq gu (gj (gr .Add (gr .Mult (gE (gj (dC (.int 0)) gm)) (gq gn (gj (gk 0) (gj (dC (.int 3)) gm)))) (gE (gj (dC (.int 1)) gm))) (gj (dC (.int 1)) gm))) gm))) gm))) (gj (gk 4) gm))))
 gC) (dSq (dIf [] (gx (gD .Eq (gk 6) (dC (.int 2))))
 (gz [] (gw (gj (gq gA (gj (gk 3) (gj (gk 3) gm))) (gj (dB bTuple bTuple.mono (gj (gL (iE (gk 4)) [10,11] (gTp [10,11]) hJ (gq gv (gj (gk 11) (gj (gq gu (gj (gE (gj (dC (.int 1)) gm)) (gj (gr .LShift (dC (.int 1)) (gk 10)) gm))) gm)))) gm)) gm))))
 gC) (dSq (dIf [] (gx (gD .Eq (gk 6) (dC (.int 3))))
 (gz [] (gw (gj (gk 3) (gj (gr .Add (gr .Add (dSl (gk 4) dNo (gH (gk 7))) (gw (gj (gq gA (gj (dIx (gk 4) (gk 7)) (gj (gk 9) gm))) gm))) (dSl (gk 4) (gH (gr .Add (gk 7) (dC (.int 1)))) dNo)) gm))))
 gC) (dSq (dIf [] (gx (gD .Eq (gk 6) (dC (.int 4))))
 (gz [] (gw (gj (gk 3) (gj (gr .Add (gk 4) (gw (gj (gw (gj (gw gm) (gj (dC (.int 1)) gm))) gm))) gm))))
 gC) (dSq (dIf [] (gx (gD .Eq (gk 6) (dC (.int 5))))
 (gz [] (gw (gj (gk 3) (gj (gr .Add (dSl (gk 4) dNo (gH (gk 7))) (dSl (gk 4) (gH (gr .Add (gk 7) (dC (.int 1)))) dNo)) gm))))
 gC) (dSq (dIf [] (i4 (gx (gD .Eq (gk 6) (dC (.int 6)))) (gx (gD .Lt (gr .Add (gk 7) (dC (.int 1))) (dB bLen bLen.mono (gj (gk 4) gm)))))
 (dSq (gB [] (gNm 12) (gw (gj (gq gA (gj (dIx (gk 4) (gk 7)) (gj (gk 3) gm))) (gj (gq gA (gj (dIx (gk 4) (gr .Add (gk 7) (dC (.int 1)))) (gj (gq gu (gj (gE (gj (gr .Sub (dC (.int 0)) (dC (.int 1))) gm)) (gj (dC (.int 1)) gm))) gm))) gm))))
 (gz [] (gw (gj (gk 3) (gj (gr .Add (gr .Add (dSl (gk 4) dNo (gH (gk 7))) (gk 12)) (dSl (gk 4) (gH (gr .Add (gk 7) (dC (.int 2)))) dNo)) gm)))))
 gC) (dSq (dIf [] (gx (gD .Eq (gk 6) (dC (.int 7))))
 (gz [] (gw (gj (gk 3) (gj (gw gm) gm))))
 gC) (dSq (dIf [] (gx (gD .Eq (gk 6) (dC (.int 8))))
 (gz [] (gw (gj (dIx (gE (gj (gw (gj (gw gm) (gj (dC (.int 1)) gm))) (gj (gw (gj (gw (gj (dC (.int 2)) gm)) (gj (dC (.int 1)) gm))) gm))) (gq gn (gj (gk 0) (gj (dC (.int 2)) gm)))) (gj (gk 4) gm))))
 gC) (dSq (dIf [] (gx (gD .Eq (gk 6) (dC (.int 9))))
 (gz [] (dIx (gE (gj (gw (gj (gk 3) (gj (dSl (gr .Mult (gk 4) (dC (.int 2))) dNo (gH (dC (.int 13)))) gm))) (gj (gw (gj (gq gv (gj (gk 3) (gj (gk 3) gm))) (gj (gk 4) gm))) gm))) (gq gn (gj (gk 0) (gj (dC (.int 2)) gm)))))
 gC) pH)))))))))
def kg:TSd:=dSq (gB [] (gTp [3,4]) (gk 2)) (dSq (gB [] (gNm 5) (gr .Sub (dB bLen bLen.mono (gj (dIx (gk 3) (dC (.int 0))) gm)) (dC (.int 1)))) (dSq (i5 [] 6 7 (gq gn (gj (gk 0) (gj (dC (.int 11)) gm))) (gq gn (gj (gk 0) (gj (dB bLen bLen.mono (gj (gk 4) gm)) gm)))) (dSq (gB [] (gNm 8) (gq gu (gj (gE (gj (gr .Mult (dIx (gE (gj (dC (.int 1)) (gj (gr .Sub (dC (.int 0)) (dC (.int 1))) gm))) (gq gn (gj (gk 0) (gj (dC (.int 2)) gm)))) (gr .Add (dC (.int 1)) (gq gn (gj (gk 0) (gj (dC (.int 3)) gm))))) gm)) (gj (gr .Add (dC (.int 1)) (gq gn (gj (gk 0) (gj (dC (.int 2)) gm)))) gm)))) (dSq (gB [] (gNm 9) (gq gv (gj (gk 8) (gj (gq gu (gj (gr .Add (gr .Mult (gE (gj (dC (.int 0)) gm)) (gq gn (gj (gk 0) (gj (gk 5) gm)))) (gE (gj (dC (.int 1)) gm))) (gj (dC (.int 1)) gm))) gm)))) pd))))
theorem Kw{T:TSd}{H:List Int}{V:Int}{ps:List Pl}{d1:D}{s:Nat}{E:EndsD}(lH:H.length=s+1)(h:T.run E [.val .fl,.val d1,.val (rl ((H,V),ps)),.val (pD H V),.val (cD ps),.val (.int (s:Nat)),.no,.no,.no,.no,.no,.no,.no]) :
  (dSq (gB [] (gTp [3,4]) (gk 2)) (dSq (gB [] (gNm 5) (gr .Sub (dB bLen bLen.mono (gj (dIx (gk 3) (dC (.int 0))) gm)) (dC (.int 1)))) T)).run E (startD 13 [.fl,d1,rl ((H,V),ps)]):=by
 have eN:((H.map D.int).length:Int)-1=((s:Nat):Int):=by rw [aa,lH];omega
 refine⟨rfl,?_⟩;show T.run E [.val .fl,.val d1,.val (rl ((H,V),ps)),.val (pD H V),.val (cD ps),.val (.int (((H.map D.int).length:Int)-1)),.no,.no,.no,.no,.no,.no,.no];rw [eN];exact h
theorem Kv{T:TSd}{d1 d2 d3 d5:D}{ps:List Pl}{E:EndsD}(p1:1<=ps.length)(p12:ps.length<=12)(h:∀(f:Int) (a:Nat),a<ps.length->T.run E [.val .fl,.val d1,.val d2,.val d3,.val (cD ps),.val d5,.val (.int f),.val (.int (a:Nat)),.no,.no,.no,.no,.no]) :
  (dSq (i5 [] 6 7 (gq gn (gj (gk 0) (gj (dC (.int 11)) gm))) (gq gn (gj (gk 0) (gj (dB bLen bLen.mono (gj (gk 4) gm)) gm)))) T).run E [.val .fl,.val d1,.val d2,.val d3,.val (cD ps),.val d5,.no,.no,.no,.no,.no,.no,.no]:=by
 refine⟨rfl,11,⟨rfl,by decide,tV (by decide)⟩,?_⟩;rintro _ ⟨f,rfl,f0,f1⟩;refine⟨rfl,((ps.map pq).length:Int),⟨rfl,by rw [aa];omega,tV (by rw [aa];omega)⟩,?_⟩;rintro _ ⟨a,rfl,a0,a1⟩;rw [aa] at a1;obtain⟨k,rfl⟩:∃ k:Nat,a=k:=⟨a.toNat,by omega⟩;exact h f k (by omega)
theorem Ks{P H M:List Int}{B V N f:Int}{n s a:Nat}{ps:List Pl}{d2 d8:D}{Q:D->Prop}(x:Op39 P B n s H V ps a M N)(q:∀ y',qX y'->Q (rl y')):pd.run (qt Q) (rR P B d2 H V ps s f a d8 M N) :=
 IK x q (IJ x q (II x q (IH x q (IG x q (IF x q (IE x q (ID x q (IC x q (IB x q (Gy x q))))))))))
theorem jn:Does 13 kg iG:=by
 rintro ds Q hn ⟨⟨P,B,n,⟨⟨H,V⟩,ps⟩⟩,⟨rfl,lP,n12,zP,s,hs,lH,mH,zH,p1,p12,zp⟩,q⟩;have q:∀ y',qX y'->Q (rl y'):=fun y' w=>q _ ⟨y',rfl,w⟩;have n12:n<=12:=n12;obtain⟨b1,b2⟩:=xD n n12 s hs;refine Kw lH (Kv p1 p12 fun f a ha=>Ku fun S C zS lS=>Kt (s:=s) (by omega) (by omega) zS lS fun M N zM lM=>?_);exact Ks ⟨lP,n12,zP,b1,by omega,lH,mH,zH,p1,p12,zp,ha,zM,lM⟩ q
def gO:SpB:=.of 4 (α:=List Int×Int×Nat×uy×uy) (fun (P,B,n,x,z) ds=>ds=[.fl,pD P B,qP x,qP z]/\P.length=n+1/\n<=12/\Pc.Pz 800 800 P B/\x.length<=6/\z.length<=6/\(∀ y∈x,Pok n y)/\∀ y∈z,qX y) (fun _ d=>∃ x':uy,d=qP x'/\x'.length<=20/\∀ y∈x',qX y)
theorem Pok.wk{n:Nat}{y:Pl×List Pl}(h:Pok n y):qX y:=by
 obtain⟨s,_,_,_,z,_,l,zp⟩:=h;exact⟨z.mono (by decide) (by decide),by omega,fun p hp=>(zp p hp).1.mono (by decide) (by decide)⟩
def n8:TSd:=(gz [] (gr .Add (gr .Add (dSl (gk 2) dNo (gH (gk 5))) (gw (gj (gq iG (gj (gk 0) (gj (gk 1) (gj (dIx (gk 2) (gk 5)) gm)))) gm))) (dSl (gk 2) (gH (gr .Add (gk 5) (dC (.int 1)))) dNo)))
def pI:TSd:=dSq (dIf [] (gx (gD .Eq (gk 5) (dB bLen bLen.mono (gj (gk 2) gm))))
 (gz [] (gr .Add (dSl (gk 2) (gH (dC (.int 1))) dNo) (gr .Mult (dSl (gk 2) dNo (gH (dC (.int 1)))) (gr .Add (dC (.int 1)) (gq gn (gj (gk 0) (gj (dC (.int 2)) gm)))))))
 gC) n8
def pJ:TSd:=dSq (dIf [] (gx (gD .Eq (gk 4) (dC (.int 0))))
 (gz [] (gr .Add (dSl (gk 2) dNo (gH (gk 5))) (dSl (gk 2) (gH (gr .Add (gk 5) (dC (.int 1)))) dNo)))
 gC) (dSq (dIf [] (gx (gD .Eq (gk 4) (dC (.int 1))))
 (gz [] (gr .Add (gr .Add (dSl (gk 2) dNo (gH (gk 5))) (dSl (gk 3) dNo (gH (dC (.int 1))))) (dSl (gk 2) (gH (gk 5)) dNo)))
 gC) pI)
def jZ:TSd:=dSq (i5 [] 4 5 (gq gn (gj (gk 0) (gj (dC (.int 6)) gm))) (gq gn (gj (gk 0) (gj (gr .Add (dB bLen bLen.mono (gj (gk 2) gm)) (dC (.int 1))) gm)))) pJ
theorem Iz{T:TSd}{d1 d3:D}{x:uy}{E:EndsD}(lx:x.length<=6)(h:∀(f:Int) (a:Nat),a<=x.length->T.run E [.val .fl,.val d1,.val (qP x),.val d3,.val (.int f),.val (.int (a:Nat))]) :
  (dSq (i5 [] 4 5 (gq gn (gj (gk 0) (gj (dC (.int 6)) gm))) (gq gn (gj (gk 0) (gj (gr .Add (dB bLen bLen.mono (gj (gk 2) gm)) (dC (.int 1))) gm)))) T).run E (startD 6 [.fl,d1,qP x,d3]):=by
 refine⟨rfl,6,⟨rfl,by decide,tV (by decide)⟩,?_⟩;rintro _ ⟨f,rfl,f0,f1⟩;refine⟨rfl,((x.map rl).length:Int)+1,⟨rfl,by rw [aa];omega,tV (by rw [aa];omega)⟩,?_⟩;rintro _ ⟨a,rfl,a0,a1⟩;rw [aa] at a1;obtain⟨k,rfl⟩:∃ k:Nat,a=k:=⟨a.toNat,by omega⟩;exact h f k (by omega)
theorem u9{Q:D->Prop}{l:List D}{x:uy}(q:∀ x':uy,x'.length<=20->(∀ y∈x',qX y)->Q (qP x'))(e:l=x.map rl)(lx:x.length<=20)(w:∀ y∈x,qX y):Q (.tup l):=by
 subst e;exact q x lx w
theorem Iw{P:List Int}{B f:Int}{n a:Nat}{x z:uy}{Q:D->Prop}(lP:P.length=n+1)(n12:n<=12)(zP:Pc.Pz 800 800 P B)(lx:x.length<=6)(hx:∀ y∈x,Pok n y)(ha:a<x.length)(q:∀ x':uy,x'.length<=20->(∀ y∈x',qX y)->Q (qP x')) :
  n8.run (qt Q) [.val .fl,.val (pD P B),.val (qP x),.val (qP z),.val (.int f),.val (.int (a:Nat))]:=by
 refine⟨trivial,qM (n:=a) (d:=rl x[a]) (by rw [aw,ac ha];rfl) ⟨rfl,(P,B,n,x[a]),⟨rfl,lP,n12,zP,hx _ (bY ha)⟩,?_⟩⟩;rintro _ ⟨y',rfl,w⟩;have l1:(qE (x.map rl) none (some ((a:Nat):Int))).length<=6:=aF qy (by rw [aa];omega);have l2:(qE (x.map rl) (some (((a:Nat):Int)+1)) none).length<=6:=aF qy (by rw [aa];omega);refine⟨rZ,rE (by show _+1<=_;omega),trivial,rE (by rw [ai];show _+1+_<=_;omega),?_⟩;refine u9 (x:=x.take a++[y']++x.drop (a+1)) q ?_ ?_ fun y hy=>?_
 ·rw [qV,show ((a:Nat):Int)+1=((a+1:Nat):Int) from rfl,qL];simp [bH,bX]
 ·simp only [ai,aD,bf,bZ];omega
 ·rcases aM.mp hy with y1|y1
  ·rcases aM.mp y1 with y1|y1
   ·exact (hx y (aZ y1)).wk
   ·rw [aG.mp y1];exact w
  ·exact (hx y (bx y1)).wk
theorem A0(k:Nat){x:uy}:(List.replicate k (x.map rl)).flatten=((List.replicate k x).flatten).map rl:=by
 rw [List.map_flatten,fi]
theorem Ix{T:TSd}{d1 d3:D}{f:Int}{a:Nat}{x:uy}{Q:D->Prop}{n:Nat}(lx:x.length<=6)(hx:∀ y∈x,Pok n y)(ha:a<=x.length)(q:∀ x':uy,x'.length<=20->(∀ y∈x',qX y)->Q (qP x'))(h:a<x.length->T.run (qt Q) [.val .fl,.val d1,.val (qP x),.val d3,.val (.int f),.val (.int (a:Nat))]) :
  (dSq (dIf [] (gx (gD .Eq (gk 5) (dB bLen bLen.mono (gj (gk 2) gm))))
 (gz [] (gr .Add (dSl (gk 2) (gH (dC (.int 1))) dNo) (gr .Mult (dSl (gk 2) dNo (gH (dC (.int 1)))) (gr .Add (dC (.int 1)) (gq gn (gj (gk 0) (gj (dC (.int 2)) gm)))))))
 gC) T).run (qt Q) [.val .fl,.val d1,.val (qP x),.val d3,.val (.int f),.val (.int (a:Nat))]:=by
 refine sS (p:=((a:Nat):Int)=((x.map rl).length:Int)) (fun _=>?_) (fun c=>h (by rw [aa] at c;omega));have e1:qE (x.map rl) none (some 1)=(x.take 1).map rl:=by rw [show (1:Int)=((1:Nat):Int) from rfl,qV,bH]
 have e2:qE (x.map rl) (some 1) none=(x.drop 1).map rl:=by rw [show (1:Int)=((1:Nat):Int) from rfl,qL,bX]
 have l1:(qE (x.map rl) none (some 1)).length<=1:=by rw [e1,aa,aD];omega
 have l2:(qE (x.map rl) (some 1) none).length<=6:=aF qy (by rw [aa];omega);refine⟨trivial,trivial,rfl,2,⟨rfl,by decide,tV (by decide)⟩,?_⟩;rintro _ ⟨j,rfl,j0,j1⟩;obtain⟨k,hk⟩:∃ k:Nat,1+j=k:=⟨(1+j).toNat,by omega⟩;have k2:k<=2:=by omega
 have lf:(List.replicate (1+j).toNat (qE (x.map rl) none (some 1))).flatten=((List.replicate k (x.take 1)).flatten).map rl:=by
  rw [e1,A0,hk,aJ]
 have ll:((List.replicate k (x.take 1)).flatten).length<=2:=by
  rw [List.length_flatten,fi,List.sum_replicate_nat,aD];have:min 1 x.length<=1:=Nat.min_le_left _ _;have:=aL k2 this;omega
 refine⟨fun _=>by omega,by omega,?_,rE (by rw [lf,aa];omega),?_⟩
 ·have:(qE (x.map rl) none (some 1)).length*(1+j).toNat<=1*2:=aL l1 (by omega);omega
 refine u9 (x:=x.drop 1++(List.replicate k (x.take 1)).flatten) q ?_ ?_ fun y hy=>?_
 ·rw [lf,e2,aR]
 ·rw [ai,bf];omega
 ·rcases aM.mp hy with y1|y1
  ·exact (hx y (bx y1)).wk
  ·obtain⟨l,hl,hy'⟩:=List.mem_flatten.mp y1;rw [(List.mem_replicate.mp hl).2] at hy';exact (hx y (aZ hy')).wk
theorem Iy{T:TSd}{d1:D}{f:Int}{a n:Nat}{x z:uy}{Q:D->Prop}(lx:x.length<=6)(lz:z.length<=6)(hx:∀ y∈x,Pok n y)(hz:∀ y∈z,qX y)(q:∀ x':uy,x'.length<=20->(∀ y∈x',qX y)->Q (qP x'))(h:T.run (qt Q) [.val .fl,.val d1,.val (qP x),.val (qP z),.val (.int f),.val (.int (a:Nat))]) :
  (dSq (dIf [] (gx (gD .Eq (gk 4) (dC (.int 0))))
 (gz [] (gr .Add (dSl (gk 2) dNo (gH (gk 5))) (dSl (gk 2) (gH (gr .Add (gk 5) (dC (.int 1)))) dNo)))
 gC) (dSq (dIf [] (gx (gD .Eq (gk 4) (dC (.int 1))))
 (gz [] (gr .Add (gr .Add (dSl (gk 2) dNo (gH (gk 5))) (dSl (gk 3) dNo (gH (dC (.int 1))))) (dSl (gk 2) (gH (gk 5)) dNo)))
 gC) T)).run (qt Q) [.val .fl,.val d1,.val (qP x),.val (qP z),.val (.int f),.val (.int (a:Nat))]:=by
 have l1:(qE (x.map rl) none (some ((a:Nat):Int))).length<=6:=aF qy (by rw [aa];omega);have l2:(qE (x.map rl) (some (((a:Nat):Int)+1)) none).length<=6:=aF qy (by rw [aa];omega);have l3:(qE (x.map rl) (some ((a:Nat):Int)) none).length<=6:=aF qy (by rw [aa];omega);have l4:(qE (z.map rl) none (some 1)).length<=6:=aF qy (by rw [aa];omega);refine sS (p:=f=0) (fun _=>?_) (fun _=>?_)
 ·refine⟨trivial,trivial,rE (by omega),?_⟩;refine u9 (x:=x.take a++x.drop (a+1)) q ?_ ?_ fun y hy=>?_
  ·rw [qV,show ((a:Nat):Int)+1=((a+1:Nat):Int) from rfl,qL];simp [bH,bX]
  ·simp only [ai,aD,bf];omega
  ·rcases aM.mp hy with y1|y1
   ·exact (hx y (aZ y1)).wk
   ·exact (hx y (bx y1)).wk
 refine sS (p:=f=1) (fun _=>?_) (fun _=>h);refine⟨trivial,trivial,rE (by omega),trivial,rE (by rw [ai];omega),?_⟩;refine u9 (x:=x.take a++z.take 1++x.drop a) q ?_ ?_ fun y hy=>?_
 ·rw [qV,show (1:Int)=((1:Nat):Int) from rfl,qV,qL];simp [bH,bX]
 ·simp only [ai,aD,bf];omega
 ·rcases aM.mp hy with y1|y1
  ·rcases aM.mp y1 with y1|y1
   ·exact (hx y (aZ y1)).wk
   ·exact hz y (aZ y1)
  ·exact (hx y (bx y1)).wk
theorem jd:Does 6 jZ gO:=by
 rintro ds Q hn ⟨⟨P,B,n,x,z⟩,⟨rfl,lP,n12,zP,lx,lz,hx,hz⟩,q⟩;have q:∀ x':uy,x'.length<=20->(∀ y∈x',qX y)->Q (qP x'):=fun x' l w=>q _ ⟨x',rfl,l,w⟩;have n12:n<=12:=n12;have lx:x.length<=6:=lx;exact Iz lx fun f a ha=>Iy lx lz hx hz q (Ix lx hx ha q fun ha'=>Iw lP n12 zP lx hx ha' q)
end Dp
namespace Dp
open PySem L2 Ch
theorem tE(r:Rat):∀ n,Qp.tc r (n+1) (n+1)=1/\∀ k,n+1<k->Qp.tc r (n+1) k=0
 | 0=>⟨by show (if 1=1 then (1:Rat) else 0)=1;rw [if_pos rfl],fun k hk=>by show (if k=1 then (1:Rat) else 0)=0;rw [if_neg (by omega)]⟩
 | 1=>by
  obtain⟨h1,h2⟩:=tE r 0;have z:∀ k,1<=k->Qp.tc r 0 k=0:=fun k hk=>by show (if k=0 then (2:Rat) else 0)=0;rw [if_neg (by omega)]
  refine⟨?_,fun k hk=>?_⟩
  ·rw [Qp.tc.two,if_neg (by omega),z 2 (by omega),show 0+1+1-1=0+1 from rfl,h1];grind
  ·rw [Qp.tc.two,if_neg (by omega),z k (by omega),h2 (k-1) (by omega)];grind
 | n+2=>by
  obtain⟨h1,h2⟩:=tE r (n+1);obtain⟨h3,h4⟩:=tE r n;refine⟨?_,fun k hk=>?_⟩
  ·rw [Qp.tc.two,if_neg (by omega),h4 (n+2+1) (by omega),show n+2+1-1=n+1+1 from rfl,h1];grind
  ·rw [Qp.tc.two,if_neg (by omega),h4 k (by omega),h2 (k-1) (by omega)];grind
theorem Eu{R:List Int}{C:Int}{N:Nat}(f:Po.Fm R C)(h:Qp.q R C N≠0)(h0:∀ j,N<j->Qp.q R C j=0):R.length=N+1:=by
 rcases aP N R.length with c|c
 ·rcases aP (N+1) R.length with c'|c'
  ·exact absurd (h0 (R.length-1) (by omega)) (Qp.Gd f (by rintro rfl;simp at c))
  ·omega
 ·exact absurd (Qp.Af c) h
theorem Tk.len39{r:Rat}{n:Nat}{P:List Int}{B:Int}(h:Tk r n P B)(n1:1<=n):P.length=n+1:=by
 obtain⟨j,rfl⟩:∃ j,n=j+1:=⟨n-1,by omega⟩;obtain⟨h1,h2⟩:=tE r j;exact Eu h.1 (by rw [h.2,h1];decide) fun k hk=>by rw [h.2,h2 k hk]
theorem A9{P G R:List Int}{B U C:Int}{n b m c s:Nat}(h:Pc.Of P B G U R C)(z1:Pc.Pz n b P B)(z2:Pc.Pz m c G U)(lP:P.length=s+1)(hl:s*G.length<=400):Pc.Pz (n+(m+c+10)*s+2) (b+(c*s+1)) R C:=by
 have U0:=z2.fm.pos;have Y:=av z1.fm.pos (Hv.pow_pos U0 s);refine Pc.Pz.of (f:=fun k=>Pc.pc (Cv.fn P) (Cv.fn G) U s k+Cv.fn P s*Pc.cp (Cv.fn G) s k) h.1 Y (fun k=>?_) (fun k=>?_) (z1.bot.mul (Hv.rF z2.bot s))
 ·have w:=h.2 k;rw [lP] at w;have w:R.getD k 0*(B*U^(s+1))=(Pc.pc (Cv.fn P) (Cv.fn G) U s k+Cv.fn P s*Pc.cp (Cv.fn G) s k)*U*C:=w;refine aA (ao U0) ?_;rw [bC] at w;generalize Pc.pc (Cv.fn P) (Cv.fn G) U s k+Cv.fn P s*Pc.cp (Cv.fn G) s k=A at *;generalize U^s=X at *;grind
 ·have a:=Pc.Fa (F:=Cv.fn P) (g:=Cv.fn G) (fun k hk=>Cv.qr hk) (fun k=>z1.tops k) (fun k=>z2.tops k) z2.bot s hl k;have c1:=Pc.AO (g:=Cv.fn G) (fun k hk=>Cv.qr hk) (fun k=>z2.tops k) s hl k;have le:(m+9)*s<=(m+c+10)*s:=bz _ (by omega);have b1:Lt2 (n+(m+c+10)*s+1) (Cv.fn P s*Pc.cp (Cv.fn G) s k):=((z1.tops s).mul c1).mono (by omega);exact a.add b1
theorem Bb{P G:List Int}{B U:Int}{x y m c n s:Nat}{Q:D->Prop}(z:Pc.Pz x y P B)(z':Pc.Pz m c G U)(lP:P.length=s+1)(lG:G.length=n+1)(n1:1<=n)(tG:G.getD n 0≠0)(tP:P.getD s 0≠0)(hN:s*n<=12)(s12:s<=12)(n12:n<=12)(h1:x+(m+c+10)*(s+2)<=30000)(h2:y+y+c*(s+1)<=30000)(q:∀ R C,Pc.Pz (x+(m+c+10)*s+2) (y+(c*s+1)) R C->R.length=s*n+1->Q (pD R C)) :
  [pD P B,pD G U].length=hI.n/\hI.run [pD P B,pD G U] Q:=by
 have a1:(s+1)*(n+1)<=190:=by
  have:(s+1)*(n+1)=s*n+s+n+1:=by rw [cL,fb];omega
  omega
 have a2:s*(n+1)<=400:=by
  have:s*(n+1)<=(s+1)*(n+1):=bz _ (by omega);omega
 refine⟨rfl,(P,B,G,U,x,y,m,c),⟨rfl,z,z',by show y+y+c*P.length<=8900000;rw [lP];omega,by show x+(m+c+10)*(P.length+1)<=4000000;rw [lP];show x+(m+c+10)*(s+2)<=4000000;omega,by show P.length*G.length<=190;rw [lP,lG];exact a1,by show P.length<=190;omega,by show G.length<=190;omega⟩,?_⟩;rintro _ ⟨R,C,rfl,o⟩;have o:Pc.Of P B G U R C:=o;exact q R C (A9 o z z' lP (by rw [lG];exact a2)) (Pc.Of.deg_eq z.fm.pos z'.fm.pos o lP lG n1 tP tG)
def tO:List Nat->Bool
 | [a]=>2<=a && a<=12
 | [a,b]=>2<=a && a<=6 && 2<=b && b<=6 && a*b<=12
 | [a,b,c]=>2<=a && a<=3 && 2<=b && b<=3 && 2<=c && c<=3 && a*(b*c)<=12
 | _=>false
def gV:SpB:=.of 1 (α:=Unit) (fun _ ds=>ds=[.fl]) (fun _ d=>∃ ks:List Nat,d=kD ks/\tO ks=true)
theorem iM:Does 2 jA gV:=by
 rintro ds Q hn ⟨_,rfl,q⟩;have key:∀ L:List (List Nat),1<=L.length->L.length<=100->(∀ ks∈L,tO ks=true)->iu.run (qt Q) [.val .fl,.val (.lst (L.map kD))]:=fun L l1 l2 h=>by
  refine⟨rfl,((L.map kD).length:Int),⟨rfl,by rw [aa];omega,tV (by rw [aa];omega)⟩,?_⟩;rintro _ ⟨i,rfl,i0,i1⟩;refine si i0 i1 fun x hx=>?_;obtain⟨ks,hk,rfl⟩:=bB.mp hx;exact q _ ⟨ks,rfl,h ks hk⟩
 refine⟨qW,qW,qW,qW,rZ,rZ,rZ,rZ,rE (n:=8) (by decide),rfl,6,⟨rfl,by decide,tV (by decide)⟩,?_⟩;rintro _ ⟨i,rfl,i0,i1⟩;refine sS (p:=i=0) (fun _=>?_) (fun _=>key [[2,2],[2,3],[3,2],[2,2],[4],[5],[6],[3]] (by decide) (by decide) (by decide));have sz3:3<=sizeLine:=rE (n:=3) (by decide);refine⟨sz3,sz3,sz3,sz3,qW,qW,qW,qW,qW,qW,qW,rE (n:=11) (by decide),qW,qW,rZ,rZ,rZ,rZ,rZ,rZ,rZ,rE (n:=9) (by decide),rE (n:=20) (by decide),?_⟩;exact key [[2,2,2],[2,2,3],[2,3,2],[3,2,2],[3,3],[2,4],[4,2],[2,5],[5,2],[4,3],[3,4],[2,6],[6,2],[12],[8],[9],[10],[11],[7],[2]] (by decide) (by decide) (by decide)
theorem sk{P:List Int}{B:Int}{x y n:Nat}(z:Pc.Pz x y P B)(l:P.length=n+1):P.getD n 0≠0:=vN z.fm l
def yC(P:List Int)(B:Int):Prop:=∃ n,Pc.Pz 800 800 P B/\P.length=n+1/\2<=n/\n<=12
def gW:SpB:=.of 1 (α:=List Nat×List Pl) (fun (ks,cs) ds=>ds=[.lst (cs.map pq)]/\tO ks=true/\Dr ks cs) (fun _ d=>∃ P B,d=pD P B/\yC P B)
def p8:TSd:=(dSq (iA [] (jJ (dSl (gk 0) dNo (gH (iW (dC (.int 1)))))) (gNm 2)
 (gB [] (gNm 1) (gq hI (gj (gk 2) (gj (gk 1) gm)))))
 (gz [] (gk 1)))
def kh:TSd:=dSq (gB [] (gNm 1) (dIx (gk 0) (iW (dC (.int 1))))) p8
theorem jo:Does 3 kh gW:=by
 rintro ds Q hn ⟨⟨ks,cs⟩,⟨rfl,hs,e,hz⟩,q⟩;have q2:∀ P B,yC P B->Q (pD P B):=fun P B h=>q _ ⟨P,B,rfl,h⟩;clear q;have hs:tO ks=true:=hs;have e:cs.map (fun c=>c.1.length)=ks.map (· + 1):=e;have hz:∀ c∈cs,Pc.Pz 3 3 c.1 c.2:=hz;have hl:cs.length=ks.length:=by have:=congrArg List.length e;simpa using this
 match ks,hs,e,hl with
 | [a],h,e,hl =>
  obtain⟨c,rfl⟩:∃ c,cs=[c]:=by
   match cs,hl with
   | [c],_=>exact⟨c,rfl⟩
  simp [tO] at h;have l1:c.1.length=a+1:=by simpa using e
  have z1:=hz c (by simp);refine⟨fun i s=>i=0/\s=[.val (.lst [pq c]),.val (pq c),.no],⟨rfl,rfl⟩,?_,?_⟩
  ·rintro i d _ hd ⟨rfl,rfl⟩;cases hd
  ·rintro _ ⟨_,rfl⟩;exact q2 c.1 c.2 ⟨a,z1.mono (by decide) (by decide),l1,by omega,by omega⟩
 | [a,b],h,e,hl =>
  obtain⟨c,d,rfl⟩:∃ c d,cs=[c,d]:=by
   match cs,hl with
   | [c,d],_=>exact⟨c,d,rfl⟩
  simp [tO] at h;have e':c.1.length=a+1/\d.1.length=b+1:=by simpa using e
  obtain⟨l1,l2⟩:=e';have z1:=hz c (by simp);have z2:=hz d (by simp);refine⟨fun i s=>(i=0/\s=[.val (.lst [pq c,pq d]),.val (pq d),.no])\/(i=1/\∃ o P B,s=[.val (.lst [pq c,pq d]),.val (pD P B),o]/\yC P B),.inl ⟨rfl,rfl⟩,?_,?_⟩
  ·rintro i d' _ hd (⟨rfl,rfl⟩|⟨rfl,_⟩)
   ·cases hd;refine Bb z1 z2 l1 l2 (by omega) (sk z2 l2) (sk z1 l1) (by omega) (by omega) (by omega) (by omega) (by omega) fun R C zR lR=>.inr ⟨rfl,_,R,C,rfl,a*b,zR.mono (by omega) (by omega),lR,?_,by omega⟩;have:2*2<=a*b:=aL (by omega) (by omega);omega
   ·cases hd
  ·rintro _ (⟨z,_⟩|⟨_,o,P,B,rfl,h⟩)
   ·cases z
   ·exact q2 P B h
 | [a,b,g],h,e,hl =>
  obtain⟨c,d,f,rfl⟩:∃ c d f,cs=[c,d,f]:=by
   match cs,hl with
   | [c,d,f],_=>exact⟨c,d,f,rfl⟩
  simp [tO] at h;have e':c.1.length=a+1/\d.1.length=b+1/\f.1.length=g+1:=by simpa using e
  obtain⟨l1,l2,l3⟩:=e';have z1:=hz c (by simp);have z2:=hz d (by simp);have z3:=hz f (by simp);have bg:b*g<=3*3:=aL (by omega) (by omega);have bg2:2*2<=b*g:=aL (by omega) (by omega);refine⟨fun i s=>(i=0/\s=[.val (.lst [pq c,pq d,pq f]),.val (pq f),.no])\/(i=1/\∃ o P B,s=[.val (.lst [pq c,pq d,pq f]),.val (pD P B),o]/\Pc.Pz 60 20 P B/\P.length=b*g+1)\/(i=2/\∃ o P B,s=[.val (.lst [pq c,pq d,pq f]),.val (pD P B),o]/\yC P B),.inl ⟨rfl,rfl⟩,?_,?_⟩
  ·rintro i d' _ hd (⟨rfl,rfl⟩|⟨rfl,o,P,B,rfl,zP,lP⟩|⟨rfl,_⟩)
   ·cases hd;exact Bb z2 z3 l2 l3 (by omega) (sk z3 l3) (sk z2 l2) (by omega) (by omega) (by omega) (by omega) (by omega) fun R C zR lR=>.inr (.inl ⟨rfl,_,R,C,rfl,zR.mono (by omega) (by omega),lR⟩)
   ·cases hd;refine Bb z1 zP l1 lP (by omega) (sk zP lP) (sk z1 l1) (by omega) (by omega) (by omega) (by omega) (by omega) fun R C zR lR=>.inr (.inr ⟨rfl,_,R,C,rfl,a*(b*g),zR.mono (by omega) (by omega),lR,?_,by omega⟩);have:2*4<=a*(b*g):=aL (by omega) bg2;omega
   ·cases hd
  ·rintro _ (⟨z,_⟩|⟨z,_⟩|⟨_,o,P,B,rfl,h⟩)
   ·cases z
   ·cases z
   ·exact q2 P B h
def gy:SpB:=.of 2 (α:=List Int×Int×Nat) (fun (P,B,n) ds=>ds=[.fl,pD P B]/\Pc.Pz 120 60 P B/\P.length=n+1/\2<=n/\n<=12) (fun _ d=>∃ P B,d=pD P B/\yC P B)
def nk:TSd:=(gz [] (gq hI (gj (gq gZ (gj (gk 0) (gj (dC (.int 3)) gm))) (gj (gq hI (gj (gk 1) (gj (gq gZ (gj (gk 0) (gj (dC (.int 3)) gm))) gm))) gm))))
theorem iB:Does 2 nk gy:=by
 rintro ds Q hn ⟨⟨P,B,n⟩,⟨rfl,zP,lP,n2,n12⟩,q⟩;have q:∀ P B,yC P B->Q (pD P B):=fun P B h=>q _ ⟨P,B,rfl,h⟩;refine⟨rfl,(3,2),⟨rfl,by decide,by unfold Lt2;decide,by decide,by decide⟩,?_⟩;rintro _ ⟨G,U,rfl,zG,lG,nG⟩;have zG:Pc.Pz 8 4 G U:=zG;refine⟨rfl,(3,2),⟨rfl,by decide,by unfold Lt2;decide,by decide,by decide⟩,?_⟩;rintro _ ⟨H,V,rfl,zH,lH,nH⟩;have zH:Pc.Pz 8 4 H V:=zH;refine Bb (n:=1) zP zH lP lH (by decide) nH (sk zP lP) (by omega) n12 (by decide) (by omega) (by omega) fun R C zR lR=>?_;have zR:Pc.Pz 390 110 R C:=zR.mono (by omega) (by omega);rw [dI] at lR;exact Bb (s:=1) zG zR lG lR (by omega) (sk zR lR) nG (by omega) (by decide) n12 (by decide) (by decide) fun R' C' zR' lR'=>q R' C' ⟨n,zR'.mono (by decide) (by decide),by rw [lR',Nat.one_mul],n2,n12⟩
end Dp
namespace Dp
open PySem L2 Ch
abbrev wY(f:Int):SS:=[.val .fl,.val (.int f),.no,.no,.no,.no,.no,.no,.no,.no,.no]
theorem vn{n:Nat}{Q:D->Prop}(n6:n<=60)(q:∀ S C,Pc.Pz 1 1 S C->S.length=n+1->Q (pD S C)):[D.lst ((List.replicate ((n:Nat):Int).toNat [D.int 0]).flatten++[.int 1]),.int 1].length=gu.n/\gu.run [.lst ((List.replicate ((n:Nat):Int).toNat [D.int 0]).flatten++[.int 1]),.int 1] Q:=by
 refine⟨rfl,(List.replicate n (0:Int)++[1],1),⟨.inl ?_,cH,by show Lt2 9000000 (1:Int);unfold Lt2;exact cJ (by decide),?_⟩,?_⟩
 ·show [D.lst ((List.replicate ((n:Nat):Int).toNat [D.int 0]).flatten++[D.int 1]),.int 1]=[D.lst ((List.replicate n (0:Int)++[1]).map D.int),.int 1];rw [aJ,qO,aR];rfl
 ·show (List.replicate n (0:Int)++[1]).length<=1000;rw [ai,aC];show n+1<=1000;omega
 rintro _ ⟨S,C,rfl,fS,wS,lS⟩;have wS:∀ k,S.getD k 0*1=(List.replicate n (0:Int)++[1]).getD k 0*C:=wS;have lS:S.length<=(List.replicate n (0:Int)++[1]).length:=lS;rw [ai,aC] at lS;have lS:S.length<=n+1:=lS;have tn:S.getD n 0=C:=by
  have:=wS n;rw [tH,if_pos rfl] at this;omega
 refine q S C (Pc.Pz.of fS cH wS (fun k=>?_) (by unfold Lt2;decide)) ?_
 ·rw [tH];by_cases e:k=n
  ·rw [if_pos e];unfold Lt2;decide
  ·rw [if_neg e];exact uZ _
 ·rcases aP n S.length with x|x
  ·omega
  ·rw [qp x] at tn;have:=fS.pos;omega
section
variable{T:TSd}{f:Int}{Q:D->Prop}
theorem IU(q:∀ P B,yC P B->Q (pD P B))(h:T.run (qt Q) (wY f)):(dSq (dIf [] (gx (gD .Lt (gk 1) (dC (.int 3))))
 (dSq (gB [] (gNm 2) (gq gV (gj (gk 0) gm)))
 (dSq (gB [] (gNm 3) (gr .Add (gE (gj (gq gK (gj (gk 0) (gj (dIx (gk 2) (dC (.int 0))) (gj (dC (.int 5)) gm)))) gm)) (gL (gU (dSl (gk 2) (gH (dC (.int 1))) dNo)) [4] (gNm 4) hJ (gq gY (gj (gk 0) (gj (gk 4) (gj (dC (.int 5)) gm)))))))
 (gz [] (gq gW (gj (gk 3) gm)))))
 gC) T).run (qt Q) (wY f):=by
 refine sS (p:=f<3) (fun _=>?_) (fun _=>h);refine⟨rfl,(),rfl,?_⟩;rintro _ ⟨ks,rfl,hs⟩;obtain⟨k,ks,rfl⟩:∃ k ks',ks=k::ks':=by
  cases ks with
  | nil=>cases hs
  | cons k ks=>exact⟨k,ks,rfl⟩
 have hk:(k::ks).length<=3/\∀ j∈k::ks,2<=j/\j<=12:=by
  match ks,hs with
  | [],h=>simp [tO] at h;exact⟨by simp,fun j hj=>by rw [aG.mp hj];omega⟩
  | [b],h =>
   simp [tO] at h;refine⟨by simp,fun j hj=>?_⟩;rcases ak.mp hj with e|hj
   ·rw [e];omega
   ·rw [aG.mp hj];omega
  | [b,c],h =>
   simp [tO] at h;refine⟨by simp,fun j hj=>?_⟩;rcases ak.mp hj with e|hj
   ·rw [e];omega
   rcases ak.mp hj with e|hj
   ·rw [e];omega
   ·rw [aG.mp hj];omega
 have k2:=hk.2 k aK;have ll:ks.length<=2:=by have:=hk.1;simp at this;omega
 refine qM (n:=0) (d:=.int (k:Int)) rfl ⟨rfl,(k,5,3),⟨rfl,by show k<=100;omega,by decide,by unfold Lt2;decide,by decide⟩,?_⟩;rintro _ ⟨P1,B1,rfl,z1,l1⟩;refine⟨rZ,trivial,?_⟩;have ec:qE ((k::ks).map fun k=>D.int ((k:Nat):Int)) (some 1) none=ks.map fun k=>D.int ((k:Nat):Int):=by
  rw [show (1:Int)=((1:Nat):Int) from rfl,qL];rfl
 refine rf (ds:=qE ((k::ks).map fun k=>D.int ((k:Nat):Int)) (some 1) none) (s0:=sR [4] [.val .fl,.val (.int f),.val (kD (k::ks)),.no,.no,.no,.no,.no,.no,.no,.no]) (g:=gNm 4) (e:=gq gY (gj (gk 0) (gj (gk 4) (gj (dC (.int 5)) gm)))) (Q:=fun y=>oBin .Add (.lst [pD P1 B1]) y fun d=>(gz [] (gq gW (gj (gk 3) gm))).run (qt Q) [.val .fl,.val (.int f),.val (kD (k::ks)),.val d,.no,.no,.no,.no,.no,.no,.no]) (fun i y=>∃ c:Pl,y=pq c/\Pc.Pz 3 3 c.1 c.2/\∀ j,ks[i]? = some j->c.1.length=j+1) (by rw [ec,aa];omega) (fun i d hd=>?_) fun ys l hw=>?_
 ·rw [ec,aw] at hd;obtain⟨j,hj,rfl⟩:=ab.mp hd;have j2:=hk.2 j (aE _ (aO hj));refine⟨rfl,(j,5,3),⟨rfl,by show 1<=j;omega,by show j<=100;omega,by decide,by unfold Lt2;decide,by decide,by decide⟩,?_⟩;rintro _ ⟨P2,B2,rfl,z2,l2,_⟩;exact⟨(P2,B2),rfl,z2,fun j' hj'=>by rw [hj] at hj';cases hj';exact l2⟩
 ·rw [ec,aa] at l;have key:∀(ks:List Nat) (ys:List D),ys.length=ks.length->(∀(i:Nat) (y:D),ys[i]? = some y->∃ c:Pl,y=pq c/\Pc.Pz 3 3 c.1 c.2/\∀ j,ks[i]? = some j->c.1.length=j+1)->∃ cs:List Pl,ys=cs.map pq/\cs.map (fun c=>c.1.length)=ks.map (· + 1)/\∀ c∈cs,Pc.Pz 3 3 c.1 c.2:=by
   intro ks;induction ks with
   | nil =>
    intro ys l _;have:ys=[]:=bw.mp l;exact⟨[],this,rfl,fun c h=>by cases h⟩
   | cons k ks ih =>
    intro ys l h;obtain⟨y,ys,rfl⟩:∃ b bs',ys=b::bs':=by
     cases ys with
     | nil=>simp at l
     | cons b bs=>exact⟨b,bs,rfl⟩
    obtain⟨c,rfl,z,hl⟩:=h 0 y rfl;obtain⟨cs,rfl,e,hz⟩:=ih ys (by simpa using l) fun i y hy=>h (i+1) y (by simpa using hy);refine⟨c::cs,rfl,by rw [bQ,bQ,e,hl k rfl],fun c' hc=>?_⟩;rcases ak.mp hc with x|x
    ·rw [x];exact z
    ·exact hz c' x
  obtain⟨cs,rfl,e,hz⟩:=key ks ys l hw;have lc:cs.length<=2:=by
   have:=congrArg List.length e;rw [aa,aa] at this;omega
  refine⟨rE (by rw [aa];show 1+_<=_;omega),?_⟩;have l1:P1.length=k+1:=l1;refine⟨rfl,(k::ks,(P1,B1)::cs),⟨rfl,hs,by rw [bQ,bQ,e];exact congrArg (· :: _) l1,fun c hc=>?_⟩,?_⟩
  ·rcases ak.mp hc with x|x
   ·rw [x];exact z1
   ·exact hz c x
  ·rintro _ ⟨P,B,rfl,h⟩;exact q P B h
theorem xG{P:List Int}{B:Int}{n:Nat}(q:∀ P B,yC P B->Q (pD P B))(z:Pc.Pz 120 60 P B)(l:P.length=n+1)(n2:2<=n)(n12:n<=12):[.fl,pD P B].length=gy.n/\gy.run [.fl,pD P B] Q:=by
 refine⟨rfl,(P,B,n),⟨rfl,z,l,n2,n12⟩,?_⟩;rintro _ ⟨P,B,rfl,h⟩;exact q P B h
theorem IT(q:∀ P B,yC P B->Q (pD P B))(h:T.run (qt Q) (wY f)):(dSq (dIf [] (gx (gD .Eq (gk 1) (dC (.int 3))))
 (dSq (gB [] (gNm 5) (dIx (gE (gj (dC (.int 4)) (gj (dC (.int 6)) (gj (dC (.int 6)) (gj (dC (.int 6)) (gj (dC (.int 8)) (gj (dC (.int 9)) (gj (dC (.int 10)) (gj (dC (.int 12)) gm))))))))) (gq gn (gj (gk 0) (gj (dC (.int 8)) gm)))))
 (gz [] (gq gy (gj (gk 0) (gj (gq ii (gj (gk 5) (gj (gq gS (gj (gk 0) (gj (dC (.int 3)) gm))) gm))) gm)))))
 gC) T).run (qt Q) (wY f):=by
 refine sS (p:=f=3) (fun _=>?_) (fun _=>h);refine⟨rE (n:=8) (by decide),rfl,8,⟨rfl,by decide,tV (by decide)⟩,?_⟩;rintro _ ⟨i,rfl,i0,i1⟩;refine si i0 i1 fun x hx=>?_;obtain⟨n,rfl,n2,n12⟩:∃ n:Nat,x = .int (n:Nat)/\2<=n/\n<=12:=by
  have:x∈([4,6,6,6,8,9,10,12]:List Nat).map fun n=>D.int ((n:Nat):Int):=hx;obtain⟨n,hn,rfl⟩:=bB.mp this;exact⟨n,rfl,(by decide:∀ n∈([4,6,6,6,8,9,10,12]:List Nat),2<=n/\n<=12) n hn⟩
 refine⟨rfl,(3,2),⟨rfl,by decide,by unfold Lt2;decide,by decide,by decide⟩,?_⟩;rintro d ⟨r,hr⟩;have hr:FqD 2 2 d r:=hr;refine⟨rfl,(n,d,r,2),⟨rfl,hr,by decide,by show 1<=n;omega,n12⟩,?_⟩;rintro _ ⟨P,B,rfl,tk⟩;have tk:Tk r n P B:=tk;have z:=(tk.pz hr).1;exact xG q (z.mono (by omega) (by omega)) (tk.len39 (by omega)) n2 n12
theorem IR(q:∀ P B,yC P B->Q (pD P B))(h:T.run (qt Q) (wY f)):(dSq (dIf [] (gx (gD .Eq (gk 1) (dC (.int 5))))
 (dSq (gB [] (gNm 5) (dIx (gE (gj (dC (.int 2)) (gj (dC (.int 3)) (gj (dC (.int 4)) (gj (dC (.int 6)) (gj (dC (.int 6)) (gj (dC (.int 8)) (gj (dC (.int 9)) (gj (dC (.int 12)) gm))))))))) (gq gn (gj (gk 0) (gj (dC (.int 8)) gm)))))
 (gz [] (gq gy (gj (gk 0) (gj (gq gu (gj (gr .Add (gr .Mult (gE (gj (dC (.int 0)) gm)) (gk 5)) (gE (gj (dC (.int 1)) gm))) (gj (dC (.int 1)) gm))) gm)))))
 gC) T).run (qt Q) (wY f):=by
 refine sS (p:=f=5) (fun _=>?_) (fun _=>h);refine⟨rE (n:=8) (by decide),rfl,8,⟨rfl,by decide,tV (by decide)⟩,?_⟩;rintro _ ⟨i,rfl,i0,i1⟩;refine si i0 i1 fun x hx=>?_;obtain⟨n,rfl,n2,n12⟩:∃ n:Nat,x = .int (n:Nat)/\2<=n/\n<=12:=by
  have:x∈([2,3,4,6,6,8,9,12]:List Nat).map fun n=>D.int ((n:Nat):Int):=hx;obtain⟨n,hn,rfl⟩:=bB.mp this;exact⟨n,rfl,(by decide:∀ n∈([2,3,4,6,6,8,9,12]:List Nat),2<=n/\n<=12) n hn⟩
 obtain⟨p1,p2,p3,p4⟩:=ua (n:=n) (by omega);refine⟨rZ,p1,p2,p3,rZ,p4,?_⟩;exact vn (by omega) fun S C zS lS=>xG q (zS.mono (by decide) (by decide)) lS n2 n12
theorem IQ(q:∀ P B,yC P B->Q (pD P B)):((gz [] (gq gK (gj (gk 0) (gj (gr .Add (dC (.int 2)) (gq gn (gj (gk 0) (gj (dIx (gE (gj (dC (.int 5)) (gj (dC (.int 5)) (gj (dC (.int 5)) (gj (dC (.int 11)) gm))))) (gq gn (gj (gk 0) (gj (dC (.int 4)) gm)))) gm)))) (gj (dC (.int 9)) gm)))))).run (qt Q) (wY f):=by
 refine⟨rE (n:=4) (by decide),rfl,4,⟨rfl,by decide,tV (by decide)⟩,?_⟩;rintro _ ⟨i,rfl,i0,i1⟩;refine si i0 i1 fun x hx=>?_;obtain⟨z,rfl,z1,z2⟩:∃ z:Int,x = .int z/\1<=z/\z<=11:=by
  have:x∈([5,5,5,11]:List Int).map D.int:=hx;obtain⟨z,hz,rfl⟩:=bB.mp this;exact⟨z,rfl,(by decide:∀ z∈([5,5,5,11]:List Int),1<=z/\z<=11) z hz⟩
 refine⟨rfl,z,⟨rfl,by omega,tV (by omega)⟩,?_⟩;rintro _ ⟨j,rfl,j0,j1⟩;obtain⟨n,hn⟩:∃ n:Nat,2+j=(n:Int):=⟨(2+j).toNat,by omega⟩;refine⟨rfl,(n,9,4),⟨by rw [← hn],by show n<=100;omega,by decide,by unfold Lt2;decide,by decide⟩,?_⟩;rintro _ ⟨P,B,rfl,z,l⟩;exact q P B ⟨n,z.mono (by decide) (by decide),l,by omega,by omega⟩
theorem Cc{P:List Int}{B:Int}{k m:Nat}{R:Pl}(h:IsPw P B k R)(f:Po.Fm P B)(l:P.length=m+1):R.1.length=k*m+1:=by
 have up:=h.len f.pos (m:=m) (by omega);have fz:∀ i,m<i->Cv.fn P i=0:=fun i hi=>Cv.qr (by omega);have t:=h.2 (k*m);rw [Pc.xv fz k] at t;have tp:R.1.getD (k*m) 0≠0:=fun z=>by
  rw [z,ax] at t;exact ca (bV (vN f l:Cv.fn P m≠0)) (ao h.1.pos) t.symm
 rcases aP (k*m) R.1.length with x|x
 ·omega
 ·exact absurd (qp x) tp
theorem FJ{P P':List Int}{B B':Int}{x y:Nat}(z:Pc.Pz x x P B)(z':Pc.Pz y y P' B')(l:P.length<=100)(l':P'.length<=100)(n:P≠[])(n':P'≠[])(xy:x+y<=4000000)(q:∀ R C,Pc.Pz (x+y+9) (x+y+9) R C->P.length+P'.length=R.length+1->Q (pD R C)):[pD P B,pD P' B'].length=gv.n/\gv.run [pD P B,pD P' B'] Q:=by
 refine⟨rfl,(P,B,P',B',x,x,y,y),⟨rfl,z,z',by show x+y<=9000000;omega,by show x+y<=9000000;omega,by show P.length<=450;omega,by show P'.length<=450;omega⟩,?_⟩;rintro _ ⟨R,C,rfl,f,h⟩;have h:∀ k,R.getD k 0*(B*B')=Cv.cv (Cv.fn P) (Cv.fn P') k*C:=h;have p:=av z.fm.pos z'.fm.pos;have o1:∀ j,P.length<=j->Cv.fn P j=0:=fun j hj=>Cv.qr hj;have o2:∀ j,P'.length<=j->Cv.fn P' j=0:=fun j hj=>Cv.qr hj;exact q R C (Pc.Pz.of f p h (fun k=>xu z.tops z'.tops o1 o2 (by omega) k) ((z.bot.mul z'.bot).mono (by omega))) (Ap.KA z.fm z'.fm f n n' (Qp.vj z.fm.pos z'.fm.pos f h))
theorem IS(q:∀ P B,yC P B->Q (pD P B))(h:T.run (qt Q) (wY f)):(dSq (dIf [] (gx (gD .Eq (gk 1) (dC (.int 4))))
 (dSq (gB [] (gTp [6,7]) (dIx (gE (gj (gw (gj (dC (.int 2)) (gj (dC (.int 1)) gm))) (gj (gw (gj (dC (.int 3)) (gj (dC (.int 1)) gm))) (gj (gw (gj (dC (.int 2)) (gj (dC (.int 1)) gm))) (gj (gw (gj (dC (.int 2)) (gj (dC (.int 2)) gm))) gm))))) (gq gn (gj (gk 0) (gj (dC (.int 4)) gm)))))
 (dSq (gB [] (gNm 8) (gq gK (gj (gk 0) (gj (gk 7) (gj (dC (.int 3)) gm)))))
 (dSq (gB [] (gNm 9) (gq gu (gj (gr .Add (gr .Mult (gE (gj (dC (.int 0)) gm)) (gk 6)) (gE (gj (dC (.int 1)) gm))) (gj (dC (.int 1)) gm))))
 (dSq (gB [] (gNm 10) (gq gv (gj (gq gu (gj (gE (gj (dC (.int 0)) (gj (dC (.int 1)) gm))) (gj (dC (.int 1)) gm))) (gj (gq gR (gj (gk 8) (gj (gk 6) gm))) gm))))
 (gz [] (gq gy (gj (gk 0) (gj (gq hI (gj (gk 10) (gj (gk 9) gm))) gm))))))))
 gC) T).run (qt Q) (wY f):=by
 refine sS (p:=f=4) (fun _=>?_) (fun _=>h);refine⟨qW,qW,qW,qW,rE (n:=4) (by decide),rfl,4,⟨rfl,by decide,tV (by decide)⟩,?_⟩;rintro _ ⟨i,rfl,i0,i1⟩;refine si i0 i1 fun x hx=>?_;obtain⟨k,m,rfl,k1,k3,m1,m2,km⟩:∃ k m:Nat,x = .tup [.int (k:Nat),.int (m:Nat)]/\2<=k/\k<=3/\1<=m/\m<=2/\(1+k*m)*k<=12:=by
  have:x∈([(2,1),(3,1),(2,1),(2,2)]:List (Nat×Nat)).map fun p=>D.tup [.int ((p.1:Nat):Int),.int ((p.2:Nat):Int)]:=hx;obtain⟨p,hp,rfl⟩:=bB.mp this;exact⟨p.1,p.2,rfl,(by decide:∀ p∈([(2,1),(3,1),(2,1),(2,2)]:List (Nat×Nat)),2<=p.1/\p.1<=3/\1<=p.2/\p.2<=2/\(1+p.1*p.2)*p.1<=12) p hp⟩
 have k6:k*m<=3*2:=aL k3 m2;refine⟨rfl,rfl,(m,3,2),⟨rfl,by show m<=100;omega,by decide,by unfold Lt2;decide,by decide⟩,?_⟩;rintro _ ⟨W,Z,rfl,zW,lW⟩;have zW:Pc.Pz 2 3 W Z:=zW;have lW:W.length=m+1:=lW;obtain⟨p1,p2,p3,p4⟩:=ua (n:=k) (by omega);refine⟨rZ,p1,p2,p3,rZ,p4,?_⟩;refine vn (by omega) fun S C zS lS=>?_;refine⟨qW,?_⟩;refine vn (n:=1) (by decide) fun X Y zX lX=>?_;have kl:k*W.length<=3*3:=aL k3 (by omega);refine⟨rfl,(W,Z,k,2,3),⟨rfl,zW,by show k*W.length<=400;omega,by show k<=400;omega,by show W.length<=400;omega,by show 3*k+1+3<=9000000;omega,by show (2+9)*k+1+2<=900000;omega⟩,?_⟩;rintro _ ⟨R,rfl,pw⟩;have pw:IsPw W Z k R:=pw;have zR:=(pw.pz zW (by omega)).mono (n':=34) (b':=34) (by omega) (by omega);have lR:=Cc pw zW.fm lW;refine FJ zX zR (by omega) (by omega) (fun z=>by rw [z] at lX;simp at lX) (fun z=>by rw [z] at lR;simp at lR) (by decide) fun O V zO lO=>?_;have lO:O.length=(1+k*m)+1:=by omega
 have km2:3<=(1+k*m)*k:=by
  have:3*1<=(1+k*m)*k:=aL (by have:2*1<=k*m:=aL k1 m1;omega) (by omega);omega
 refine Bb zO zS lO lS (by omega) (sk zS lS) (sk zO lO) km (by omega) (by omega) (by omega) (by omega) fun A E zA lA=>?_;have h0:(1+k*m)*2<=(1+k*m)*k:=aB _ k1;have h1:(1+1+10)*(1+k*m)<=(1+1+10)*6:=aB _ (by omega);have h2:1*(1+k*m)<=1*6:=aB _ (by omega);have zA:Pc.Pz (1+34+9+(1+1+10)*(1+k*m)+2) (1+34+9+(1*(1+k*m)+1)) A E:=zA;exact xG q (zA.mono (by omega) (by omega)) lA (by omega) km
end
def je:SpB:=.of 1 (α:=Unit) (fun _ ds=>ds=[.fl]) (fun _ d=>∃ P B,d=pD P B/\yC P B)
def p9:TSd:=(gz [] (gq gK (gj (gk 0) (gj (gr .Add (dC (.int 2)) (gq gn (gj (gk 0) (gj (dIx (gE (gj (dC (.int 5)) (gj (dC (.int 5)) (gj (dC (.int 5)) (gj (dC (.int 11)) gm))))) (gq gn (gj (gk 0) (gj (dC (.int 4)) gm)))) gm)))) (gj (dC (.int 9)) gm)))))
def qd:TSd:=dSq (dIf [] (gx (gD .Lt (gk 1) (dC (.int 3))))
 (dSq (gB [] (gNm 2) (gq gV (gj (gk 0) gm)))
 (dSq (gB [] (gNm 3) (gr .Add (gE (gj (gq gK (gj (gk 0) (gj (dIx (gk 2) (dC (.int 0))) (gj (dC (.int 5)) gm)))) gm)) (gL (gU (dSl (gk 2) (gH (dC (.int 1))) dNo)) [4] (gNm 4) hJ (gq gY (gj (gk 0) (gj (gk 4) (gj (dC (.int 5)) gm)))))))
 (gz [] (gq gW (gj (gk 3) gm)))))
 gC) (dSq (dIf [] (gx (gD .Eq (gk 1) (dC (.int 3))))
 (dSq (gB [] (gNm 5) (dIx (gE (gj (dC (.int 4)) (gj (dC (.int 6)) (gj (dC (.int 6)) (gj (dC (.int 6)) (gj (dC (.int 8)) (gj (dC (.int 9)) (gj (dC (.int 10)) (gj (dC (.int 12)) gm))))))))) (gq gn (gj (gk 0) (gj (dC (.int 8)) gm)))))
 (gz [] (gq gy (gj (gk 0) (gj (gq ii (gj (gk 5) (gj (gq gS (gj (gk 0) (gj (dC (.int 3)) gm))) gm))) gm)))))
 gC) (dSq (dIf [] (gx (gD .Eq (gk 1) (dC (.int 4))))
 (dSq (gB [] (gTp [6,7]) (dIx (gE (gj (gw (gj (dC (.int 2)) (gj (dC (.int 1)) gm))) (gj (gw (gj (dC (.int 3)) (gj (dC (.int 1)) gm))) (gj (gw (gj (dC (.int 2)) (gj (dC (.int 1)) gm))) (gj (gw (gj (dC (.int 2)) (gj (dC (.int 2)) gm))) gm))))) (gq gn (gj (gk 0) (gj (dC (.int 4)) gm)))))
 (dSq (gB [] (gNm 8) (gq gK (gj (gk 0) (gj (gk 7) (gj (dC (.int 3)) gm)))))
 (dSq (gB [] (gNm 9) (gq gu (gj (gr .Add (gr .Mult (gE (gj (dC (.int 0)) gm)) (gk 6)) (gE (gj (dC (.int 1)) gm))) (gj (dC (.int 1)) gm))))
 (dSq (gB [] (gNm 10) (gq gv (gj (gq gu (gj (gE (gj (dC (.int 0)) (gj (dC (.int 1)) gm))) (gj (dC (.int 1)) gm))) (gj (gq gR (gj (gk 8) (gj (gk 6) gm))) gm))))
 (gz [] (gq gy (gj (gk 0) (gj (gq hI (gj (gk 10) (gj (gk 9) gm))) gm))))))))
 gC) (dSq (dIf [] (gx (gD .Eq (gk 1) (dC (.int 5))))
 (dSq (gB [] (gNm 5) (dIx (gE (gj (dC (.int 2)) (gj (dC (.int 3)) (gj (dC (.int 4)) (gj (dC (.int 6)) (gj (dC (.int 6)) (gj (dC (.int 8)) (gj (dC (.int 9)) (gj (dC (.int 12)) gm))))))))) (gq gn (gj (gk 0) (gj (dC (.int 8)) gm)))))
 (gz [] (gq gy (gj (gk 0) (gj (gq gu (gj (gr .Add (gr .Mult (gE (gj (dC (.int 0)) gm)) (gk 5)) (gE (gj (dC (.int 1)) gm))) (gj (dC (.int 1)) gm))) gm)))))
 gC) p9)))
def nT:TSd:=dSq (gB [] (gNm 1) (gq gn (gj (gk 0) (gj (dC (.int 7)) gm)))) qd
theorem ml:Does 11 nT je:=by
 rintro ds Q hn ⟨_,rfl,q⟩;have q2:∀ P B,yC P B->Q (pD P B):=fun P B h=>q _ ⟨P,B,rfl,h⟩;refine⟨rfl,7,⟨rfl,by decide,tV (by decide)⟩,?_⟩;rintro _ ⟨f,rfl,f0,f1⟩;exact IU q2 (IT q2 (IS q2 (IR q2 (IQ q2))))
def iN:SpB:=.of 1 (α:=Unit) (fun _ ds=>ds=[.fl]) (fun _ d=>∃ P B,d=pD P B/\yC P B)
def kM:TSd:=(dSq (gB [] (gNm 1) (gq je (gj (gk 0) gm)))
 (dSq (dIf [] (gx (gD .Gt (dB bLen bLen.mono (gj (dIx (gk 1) (dC (.int 0))) gm)) (dC (.int 7))))
 (gB [] (gNm 1) (gq gK (gj (gk 0) (gj (dC (.int 4)) (gj (dC (.int 5)) gm)))))
 gC)
 (gz [] (gk 1))))
theorem jE:Does 2 kM iN:=by
 rintro ds Q hn ⟨_,rfl,q⟩;have q2:∀ P B,yC P B->Q (pD P B):=fun P B h=>q _ ⟨P,B,rfl,h⟩;refine⟨rfl,(),rfl,?_⟩;rintro _ ⟨P,B,rfl,h⟩;refine sS (p:=(7:Int)<((P.map D.int).length:Int)) (fun _=>?_) (fun _=>q2 P B h);refine⟨rfl,(4,5,3),⟨rfl,by decide,by decide,by unfold Lt2;decide,by decide⟩,?_⟩;rintro _ ⟨P,B,rfl,z,l⟩;exact q2 P B ⟨4,z.mono (by decide) (by decide),l,by decide,by decide⟩
end Dp
namespace Dp
open PySem L2 Ch
section
variable{P:Program}{w:World}{K:Frag}{mg:Str->Option Value}{base:Heap}
def gJ:SpB:=.of 2 (α:=Bool) (fun b ds=>ds=[.bl b,.bl b]) (fun _ r=>r = .bl true)
theorem yz{n k:Nat}{ps:List Str}(g:Def P w K mg base "_law_alike" k ps (sC K (n+1))):Def P w K mg base "_law_alike" k ps (yA K gJ.n gJ.run):=by
 obtain⟨f,fd,F,r⟩:=g.ex;refine⟨f,fd,F.imp (fun vs H Q E h=>?_),r⟩;obtain⟨hn,f,O,ds,fl,fO,al,lO,rp,b,rfl,q⟩:=h;obtain⟨v,v',rfl,e1,e2⟩:=Rps.two rp;cases e1;cases e2;exact⟨.bl b,.bl b,.bl b,rfl,rfl,rfl,dU _,aI _,fun H' s=>q (.bl true) rfl _ H' ⟨s.sm,fl.same s⟩ rfl⟩
end
abbrev HA:EndsD:=⟨fun _=>False,fun d=>d = .bl true,fun _=>False,fun _=>False⟩
theorem xt{P:List Int}{B:Int}{n:Nat}{x:uy}{Q:D->Prop}(z:Pc.Pz 800 800 P B)(lP:P.length=n+1)(n12:n<=12)(lx:x.length<=100)(w:∀ y∈x,qX y)(q:∀ b:Bool,(b=true↔tD P B n x)->Q (.bl b)):[pD P B,qP x].length=gG.n/\gG.run [pD P B,qP x] Q:=by
 refine⟨rfl,(P,B,n,x,800,60000,400000),⟨rfl,lP,n12,z,lx,w,by decide,by decide,by decide⟩,?_⟩;rintro _ ⟨b,rfl,h⟩;exact q b h
theorem DO{P:List Int}{B:Int}{n:Nat}{x:uy}{Q:D->Prop}(z:Pc.Pz 800 800 P B)(lP:P.length=n+1)(n12:n<=12)(lx:x.length<=100)(w:∀ y∈x,qX y)(q:∀ b:Bool,(b=true↔tD P B n x)->Q (.bl b)):[pD P B,qP x].length=gF.n/\gF.run [pD P B,qP x] Q:=by
 refine⟨rfl,(P,B,n,x,800,60000,400000),⟨rfl,lP,n12,z,lx,w,by decide,by decide,by decide,by decide⟩,?_⟩;rintro _ ⟨b,rfl,h⟩;exact q b h
theorem zJ{P:List Int}{B:Int}{n:Nat}{x:uy}{Q:D->Prop}(z:Pc.Pz 800 800 P B)(lP:P.length=n+1)(n12:n<=12)(lx:x.length<=100)(w:∀ y∈x,qX y)(q:Q (.bl true)):[pD P B,qP x].length=gG.n/\gG.run [pD P B,qP x] fun d1=>[pD P B,qP x].length=gF.n/\gF.run [pD P B,qP x] fun d2=>[d1,d2].length=gJ.n/\gJ.run [d1,d2] Q:=by
 refine xt z lP n12 lx w fun b hb=>DO z lP n12 lx w fun b' hb'=>?_;have e:b=b':=bU.mpr (hb.trans hb'.symm);subst e;refine⟨rfl,b,rfl,?_⟩;rintro _ rfl;exact q
def ou:TSd:=(gz [] (gD .Is (gq gG (gj (gk 2) (gj (gk 4) gm))) (dC (.bl true))))
def mB:TSd:=dSq (iA [] (kU (dC (.int 4))) (gNm 6)
 (dSq (gB [] (gNm 7) (gq gO (gj (gk 1) (gj (gk 2) (gj (gk 4) (gj (gk 5) gm))))))
 (dSq (dIf [] (gx (gD .Eq (gq gn (gj (gk 1) (gj (dC (.int 4)) gm))) (dC (.int 0))))
 (gB [] (gNm 7) (gr .Add (dSl (gk 7) dNo (gH (dC (.int 1)))) (dSl (gq gO (gj (gk 1) (gj (gk 2) (gj (gk 4) (gj (gk 5) gm))))) (gH (dC (.int 1))) dNo)))
 gC)
 (dIf [] (ip (iP (gq gJ (gj (gq gG (gj (gk 2) (gj (gk 7) gm))) (gj (gq gF (gj (gk 2) (gj (gk 7) gm))) gm)))))
 (gz [] (dC (.bl false)))
 gC))))
 ou
def mC:TSd:=dSq (dIf [] (gx (gD .IsNot (gq gG (gj (gk 3) (gj (gk 5) gm))) (dC (.bl true))))
 (gz [] (dC (.bl false)))
 gC)
 mB
def mD:TSd:=dSq (dIf [] (ip (iP (gq gJ (gj (gq gG (gj (gk 3) (gj (gk 4) gm))) (gj (gq gF (gj (gk 3) (gj (gk 4) gm))) gm)))))
 (gz [] (dC (.bl false)))
 gC)
 mC
def mE:TSd:=dSq (dIf [] (ip (iP (gq gJ (gj (gq gG (gj (gk 2) (gj (gk 5) gm))) (gj (gq gF (gj (gk 2) (gj (gk 5) gm))) gm)))))
 (gz [] (dC (.bl false)))
 gC)
 mD
def mF:TSd:=dSq (dIf [] (gx (gD .IsNot (gq gG (gj (gk 2) (gj (gk 4) gm))) (dC (.bl true))))
 (gz [] (dC (.bl false)))
 gC)
 mE
def mJ:TSd:=dSq (i5 [] 4 5 (gq ig (gj (gk 2) gm)) (gq ig (gj (gk 3) gm)))
 mF
def pK:TSd:=dSq (i5 [] 2 3 (gq je (gj (gk 1) gm)) (gq iN (gj (gk 1) gm)))
 mJ
abbrev uX(P P':List Int)(B B':Int)(x z:uy)(o6 o7:SD):SS:=[.no,.val .fl,.val (pD P B),.val (pD P' B'),.val (qP x),.val (qP z),o6,o7]
def lE:TSd:=(dIf [] (ip (iP (gq gJ (gj (gq gG (gj (gk 2) (gj (gk 7) gm))) (gj (gq gF (gj (gk 2) (gj (gk 7) gm))) gm)))))
 (gz [] (dC (.bl false)))
 gC)
def nq:TSd:=dSq (dIf [] (gx (gD .Eq (gq gn (gj (gk 1) (gj (dC (.int 4)) gm))) (dC (.int 0))))
 (gB [] (gNm 7) (gr .Add (dSl (gk 7) dNo (gH (dC (.int 1)))) (dSl (gq gO (gj (gk 1) (gj (gk 2) (gj (gk 4) (gj (gk 5) gm))))) (gH (dC (.int 1))) dNo)))
 gC) lE
def pL:TSd:=dSq (gB [] (gNm 7) (gq gO (gj (gk 1) (gj (gk 2) (gj (gk 4) (gj (gk 5) gm)))))) nq
section
variable{P P':List Int}{B B':Int}{x z:uy}{n:Nat}{o6:SD}{E:EndsD}
theorem CP{y:uy}(zP:Pc.Pz 800 800 P B)(lP:P.length=n+1)(n12:n<=12)(ly:y.length<=100)(w:∀ p∈y,qX p)(h:∀ o7,E.nx (uX P P' B B' x z o6 o7)):lE.run E (uX P P' B B' x z o6 (.val (qP y))) :=
 zJ zP lP n12 ly w (h _)
theorem IX(zP:Pc.Pz 800 800 P B)(lP:P.length=n+1)(n12:n<=12)(lx:x.length<=6)(lz:z.length<=6)(hx:∀ y∈x,Pok n y)(hz:∀ y∈z,qX y){o7:SD}(h:∀ o7,E.nx (uX P P' B B' x z o6 o7)):pL.run E (uX P P' B B' x z o6 o7):=by
 refine⟨rfl,(P,B,n,x,z),⟨rfl,lP,n12,zP,lx,lz,hx,hz⟩,?_⟩;rintro _ ⟨y,rfl,ly,w⟩;have ly:y.length<=20:=ly;show nq.run E (uX P P' B B' x z o6 (.val (qP y)));refine⟨rfl,4,⟨rfl,by decide,tV (by decide)⟩,?_⟩;rintro _ ⟨j,rfl,j0,j1⟩;refine sS (p:=j=0) (fun _=>?_) (fun _=>CP zP lP n12 (by omega) w h);refine⟨trivial,rfl,(P,B,n,x,z),⟨rfl,lP,n12,zP,lx,lz,hx,hz⟩,?_⟩;rintro _ ⟨y',rfl,ly',w'⟩;have ly':y'.length<=20:=ly';have e1:qE (y.map rl) none (some 1)++qE (y'.map rl) (some 1) none=(y.take 1++y'.drop 1).map rl:=by
  rw [show (1:Int)=((1:Nat):Int) from rfl,qV,qL];simp [bH,bX]
 have l1:(qE (y.map rl) none (some 1)).length<=20:=aF qy (by rw [aa];omega);have l2:(qE (y'.map rl) (some 1) none).length<=20:=aF qy (by rw [aa];omega);refine⟨trivial,rE (by omega),?_⟩;show lE.run E (uX P P' B B' x z o6 (.val (.tup (qE (y.map rl) none (some 1)++qE (y'.map rl) (some 1) none))));rw [e1];refine CP zP lP n12 ?_ (fun p hp=>?_) h
 ·rw [ai,aD,bf];omega
 ·rcases aM.mp hp with y1|y1
  ·exact w p (aZ y1)
  ·exact w' p (bx y1)
end
theorem IY{P P':List Int}{B B':Int}{x z:uy}{n:Nat}(zP:Pc.Pz 800 800 P B)(lP:P.length=n+1)(n12:n<=12)(lx:x.length<=6)(lz:z.length<=6)(hx:∀ y∈x,Pok n y)(hz:∀ y∈z,qX y)(hol:tD P B n x):mB.run HA (uX P P' B B' x z .no .no):=by
 refine⟨by decide,by decide,fun i st=>∃ o6 o7,st=uX P P' B B' x z o6 o7,⟨_,_,rfl⟩,?_,?_⟩
 ·rintro i d _ hd ⟨o6,o7,rfl⟩;exact IX zP lP n12 lx lz hx hz fun o7=>⟨_,o7,rfl⟩
 ·rintro _ ⟨o6,o7,rfl⟩;refine xt zP lP n12 (by omega) (fun y hy=>(hx y hy).wk) fun b hb=>?_;have:=hb.mpr hol;subst this;exact rfl
theorem AZ:pK.run HA (.no :: .val .fl::List.replicate 6 .no):=by
 refine⟨rfl,(),rfl,?_⟩;rintro _ ⟨P,B,rfl,n,zP,lP,n2,n12⟩;refine⟨rfl,(),rfl,?_⟩;rintro _ ⟨P',B',rfl,n',zP',lP',n2',n12'⟩;show mJ.run HA [.no,.val .fl,.val (pD P B),.val (pD P' B'),.no,.no,.no,.no];refine⟨rfl,(P,B,n,800),⟨rfl,lP,n12,by show 1<=n;omega,zP,by decide⟩,?_⟩;rintro _ ⟨x,rfl,lx,hol,hx⟩;refine⟨rfl,(P',B',n',800),⟨rfl,lP',n12',by show 1<=n';omega,zP',by decide⟩,?_⟩;rintro _ ⟨z,rfl,lz,hol',hz⟩;have lx:x.length<=6:=lx;have lz:z.length<=6:=lz;have wx:∀ y∈x,qX y:=fun y hy=>(hx y hy).wk;have wz:∀ y∈z,qX y:=fun y hy=>(hz y hy).wk;show mF.run HA (uX P P' B B' x z .no .no);refine xt zP lP n12 (by omega) wx fun b hb=>?_;have:=hb.mpr hol;subst this;show mE.run HA (uX P P' B B' x z .no .no);refine zJ zP lP n12 (by omega) wz ?_;show mD.run HA (uX P P' B B' x z .no .no);refine zJ zP' lP' n12' (by omega) wx ?_;show mC.run HA (uX P P' B B' x z .no .no);refine xt zP' lP' n12' (by omega) wz fun b hb=>?_;have:=hb.mpr hol';subst this;exact IY zP lP n12 lx lz hx wz hol
end Dp
namespace Ds
section
open PySem L2 Dp
variable{X:Cx}
def bTb:List (Str×Bool×String×BB):=[("len",true, "len",⟨bLen,bLen.mono⟩),("abs",true, "abs",⟨bAbs,bAbs.mono⟩),("all",true, "all",⟨bAll,bAll.mono⟩),("max",true, "max",⟨bMax,bMax.mono⟩),("int",false, "int",⟨bInt,bInt.mono⟩),("list",false, "list",⟨bList,bList.mono⟩),("tuple",false, "tuple",⟨bTuple,bTuple.mono⟩)]
def Lc(x:Str):Option (Bool×String×BB):=bTb.lookup x
theorem Ho{j:Nat}(hr:Room j X.A)(hc:X.calm=true)(B:Bl X.mg){x:Str}{k:Bool}{id:String}{o:BB}(h:Lc x=some (k,id,o)):X.mg x=none/\x ≠ "__name__" /\ (x == ("__debug__" : Str))=false/\(if k then bootBuiltins x=some (.builtin id)/\RB X (.builtin id) o.run else bootBuiltins x=some (.type id)/\RB X (.type id) o.run):=by
 have m:=qY h;unfold bTb at m;rcases ak.mp m with e|m
 ·cases e;exact⟨B.len,by decide,by decide,uM,B3⟩
 rcases ak.mp m with e|m
 ·cases e;exact⟨B.abs,by decide,by decide,Hj,F7⟩
 rcases ak.mp m with e|m
 ·cases e;exact⟨B.all,by decide,by decide,Dx,F6 hc⟩
 rcases ak.mp m with e|m
 ·cases e;exact⟨B.max,by decide,by decide,Hh,F4 hc⟩
 rcases ak.mp m with e|m
 ·cases e;exact⟨B.int,by decide,by decide,Dw,F5⟩
 rcases ak.mp m with e|m
 ·cases e;exact⟨B.list,by decide,by decide,sK,DP⟩
 rcases ak.mp m with e|m
 ·cases e;exact⟨B.tuple,by decide,by decide,tz,BZ⟩
 cases m
end
section
open PySem L2 Dp
variable{K:Frag}{f:Addr}{O O':List Addr}{H H':Hp}{X:Cx}{σ:L2.St}{ss:SS}{a b:Expr}{ta tb tc:TEd}{tA tB:TTd}{pos:Pos}{c:Cs}
structure Tc where
 N:List Str
 sc:Scope
 G:List (Str×Nat×SpB)
 gc:List (Str×D)
 k:Nat
 fz:List (Nat×List Nat):=[]
 own:List Nat:=[]
 mu:List Nat:=[]
def Tc.frz(T:Tc)(p:Pos):List Nat:=(T.fz.lookup p.line).getD []
def Ew(x:Str):List Str->Option Nat
 | []=>none
 | y::r=>if x=y then some 0 else (Ew x r).map (· + 1)
theorem xq{x:Str}:∀{N:List Str} {i:Nat},Ew x N=some i->N[i]? = some x
 | [],_,h=>by cases h
 | y::r,i,h=>by
  unfold Ew at h;by_cases e:x=y
  ·rw [if_pos e] at h;cases h;rw [e];rfl
  ·rw [if_neg e] at h;obtain⟨j,h1,rfl⟩:=ab.mp h;rw [cK];exact xq h1
def IZ:Option NameKind->Bool
 | some .local=>true|some .cell=>true|some .free=>true|_=>false
def HC(x:Str):Bool:=!(x == ("__debug__" : Str)) && !(x == ("__classdict__" : Str))
def Tc.slot(T:Tc)(x:Str):Option Nat:=if IZ (T.sc.names.lookup x) && HC x then Ew x T.N else none
def Tc.isG(T:Tc)(x:Str):Bool:=(T.sc.names.lookup x == some .globalImplicit) && HC x
structure CtxOk (T:Tc)(X:Cx):Prop where
 N:X.N=T.N
 nd:X.N.Nodup
 calm:X.calm=true
 room:Room T.k X.A
 vis:∀ x,IZ (T.sc.names.lookup x)=true->FB X.env.scope x
 gl:∀ x,T.sc.names.lookup x=some .globalImplicit->Gl X x
 loc:∀ x,T.sc.names.lookup x=some .local->X.env.scope.names.lookup x=some .local
 cf:∀ x,(T.sc.names.lookup x=some .cell\/T.sc.names.lookup x=some .free)->(X.env.scope.names.lookup x=some .cell\/X.env.scope.names.lookup x=some .free)
 fn:∀ x j s,(x,j,s)∈T.G->∃ ps,Def X.prog X.w X.K X.mg X.base x j ps (yA X.K s.n s.run)
 gc:∀ x d,(x,d)∈T.gc->∃ v u,X.mg x=some u/\RelV v u/\∀ f O H,Rp X.K f O H d v
 bl:Bl X.mg
 cel:∀ x,T.sc.names.lookup x=some .cell->X.env.scope.names.lookup x=some .cell/\X.fn x=true
theorem Ff{x:Str}(h:HC x=true):(x == ("__debug__" : Str))=false:=by
 unfold HC at h;rw [au] at h;exact da _ |>.mp h.1
theorem IL{x:Str}(h:HC x=true):(x == ("__classdict__" : Str))=false:=by
 unfold HC at h;rw [au] at h;exact da _ |>.mp h.2
variable{T:Tc}
theorem CtxOk.var(C:CtxOk T X){x:Str}{i:Nat}{p:Pos}(h:T.slot x=some i):PE X (.Name x p) (uc i):=by
 unfold Tc.slot at h;split at h
 ·rename_i e;obtain⟨e1,e2⟩:=au.mp e;exact yR (by rw [C.N];exact xq h) (C.vis x e1) (Ff e2) (IL e2)
 ·cases h
theorem CtxOk.slot(C:CtxOk T X){x:Str}{i:Nat}(h:T.slot x=some i):X.N[i]? = some x:=by
 unfold Tc.slot at h;split at h
 ·rw [C.N];exact xq h
 ·cases h
def AA:Option NameKind->Bool
 | some .local=>true|some .cell=>true|_=>false
theorem CtxOk.tgt(C:CtxOk T X){x:Str}{i:Nat}{p:Pos}(hl:AA (T.sc.names.lookup x)=true)(hs:T.slot x=some i):PG X (.Name x p) (wB i):=by
 cases q:T.sc.names.lookup x with
 | none=>rw [q] at hl;cases hl
 | some k =>
  rw [q] at hl;cases k <;> first|(cases hl;done)|skip
  ·exact xb C.nd (C.slot hs) (.inl (C.loc x q)) (.inr (C.loc x q))
  ·exact xb C.nd (C.slot hs) (.inr (C.cel x q).1) (.inl (C.cel x q).2)
theorem CtxOk.isG(C:CtxOk T X){x:Str}(h:T.isG x=true):Gl X x/\(x == ("__debug__" : Str))=false:=by
 obtain⟨e1,e2⟩:=au.mp h;exact⟨C.gl x (eq_of_beq e1),Ff e2⟩
def qN:Expr->Bool
 | .Starred .. => false | .Slice .. => false | .Set .. => false | .SetComp .. => false | .DictComp .. => false
 | _=>true
theorem qx{e:Expr}(h:qN e=true)(es:List Expr)(env:Env):starEach (e::es) env=(false,eval e env)::starEach es env:=by
 cases e <;> first|rfl|cases h
theorem At{e:Expr}(h:qN e=true):vh e:=by
 cases e <;> first|exact fun _ _=>rfl|cases h
theorem vc{e:Expr}(h:qN e=true)(op:CmpOp):behindInMarks op e=false:=by
 cases e <;> first|rfl|cases h
theorem uG{e:Expr}(h:qN e=true)(env:Env)(x:Value):foldedSetIterable e env x=pure x:=by
 cases e <;> first|rfl|cases h
def sI:Expr->Bool
 | .ListComp .. => true | .SetComp .. => true | .DictComp .. => true
 | _=>false
theorem uF{e:Expr}(h:sI e=false)(t:Option Expr)(l:Nat)(env:Env):swapsWith e t l env=pure false:=by
 cases e <;> first|rfl|cases h
def Fz:Expr->Bool
 | .UnaryOp .Not _ _=>false | .BoolOp .. => false | .IfExp .. => false | .Compare .. => false
 | _=>true
theorem Dv{e:Expr}(h:Fz e=true)(env:Env)(whole:Sem Value):isTrue e env whole=(do let v ← whole;standAt e.pos;holding [v] (truthy v)):=by
 cases e with
 | UnaryOp op a p=>cases op <;> first|rfl|cases h
 | BoolOp=>cases h
 | IfExp=>cases h
 | Compare=>cases h
 | _=>rfl
def sq(N:List Str)(scope:Scope):List Nat:=(List.range N.length).filter fun i=>AA (scope.names.lookup (N.getD i ""))
def BQ(out scope:Scope):Bool:=decide (scope.kind = .function) && scope.names.all (fun y=>decide (scope.names.lookup y.1=some y.2)) && scope.names.all (fun y=>decide (y.2 ≠ .free) || decide (out.names.lookup y.1=some .cell) || decide (out.names.lookup y.1=some .free))
theorem CtxOk.compS(C:CtxOk T X){scope:Scope}(h:BQ T.sc scope=true):CompS X.N X.env.scope scope (sq T.N scope):=by
 unfold BQ at h;rw [au,au] at h;obtain⟨⟨h1,h2⟩,h3⟩:=h;have one:∀ y∈scope.names,scope.names.lookup y.1=some y.2:=fun y hy=>of_decide_eq_true (cm.mp h2 y hy);refine⟨of_decide_eq_true h1,one,fun y hy e=>?_,fun y hy e=>e ▸ one y hy,fun i hi e=>?_⟩
 ·have:=cm.mp h3 y hy;rw [Bool.or_eq_true,Bool.or_eq_true] at this;rcases this with (w|w)|w
  ·exact absurd e (of_decide_eq_true w)
  ·exact C.cf _ (.inl (of_decide_eq_true w))
  ·exact C.cf _ (.inr (of_decide_eq_true w))
 ·rw [C.N] at hi e;exact bT.mpr ⟨List.mem_range.mpr hi,by rcases e with e|e <;> rw [e] <;> rfl⟩
theorem CtxOk.inner(C:CtxOk T X){scope:Scope}(s2:Shared)(H2:Hp)(fp:List Addr)(pins:List (Addr×Obj))(A:Addr):CtxOk { T with sc:=scope } (tL X scope s2 H2 fp pins A) where
 N:=C.N
 nd:=C.nd
 calm:=C.calm
 room:=C.room
 vis:=fun x h=>by
  have e:(tL X scope s2 H2 fp pins A).env.scope.names.lookup x=(scope.names.lookup x).map (t9 X.env x):=uq;have h:IZ (scope.names.lookup x)=true:=h;unfold FB;rw [e];cases q:scope.names.lookup x with
  | none=>rw [q] at h;cases h
  | some k =>
   rw [q] at h;cases k
   ·exact .inl rfl
   ·exact .inr (.inl rfl)
   ·show some (t9 X.env x .free)=_\/some (t9 X.env x .free)=_\/some (t9 X.env x .free)=_;unfold t9;split
    ·exact .inr (.inl rfl)
    ·exact .inr (.inr rfl)
   ·cases h
   ·cases h
 gl:=fun x h=>by
  have e:(tL X scope s2 H2 fp pins A).env.scope.names.lookup x=(scope.names.lookup x).map (t9 X.env x):=uq;have h:scope.names.lookup x=some .globalImplicit:=h;unfold Gl Env.kindOf;rw [e,h];rfl
 loc:=fun x h=>by
  have e:(tL X scope s2 H2 fp pins A).env.scope.names.lookup x=(scope.names.lookup x).map (t9 X.env x):=uq;have h:scope.names.lookup x=some .local:=h;rw [e,h];rfl
 cf:=fun x h=>by
  have e:(tL X scope s2 H2 fp pins A).env.scope.names.lookup x=(scope.names.lookup x).map (t9 X.env x):=uq;have h:scope.names.lookup x=some .cell\/scope.names.lookup x=some .free:=h;rw [e];rcases h with h|h
  ·rw [h];exact .inl rfl
  ·rw [h];show some (t9 X.env x .free)=_\/some (t9 X.env x .free)=_;unfold t9;split
   ·exact .inl rfl
   ·exact .inr rfl
 fn:=C.fn
 gc:=C.gc
 bl:=C.bl
 cel:=fun x h=>by
  have e:(tL X scope s2 H2 fp pins A).env.scope.names.lookup x=(scope.names.lookup x).map (t9 X.env x):=uq;have h:scope.names.lookup x=some .cell:=h;refine⟨by rw [e,h];rfl,?_⟩;show (scope.names.lookup x == some .cell)=true;rw [h];rfl
def JV:Const->Option D
 | .int i=>some (.int i) | .bool b=>some (.bl b) | .str x=>some (.str x) | .none=>some .non|_=>none
def Jg(T:Tc)(x:Str):Option D:=T.gc.lookup x
def v0(T:Tc):List Expr->Option (List Nat)
 | []=>some []
 | .Name x _::r=>if AA (T.sc.names.lookup x)=true then (T.slot x).bind fun i=>(v0 T r).map (i :: ·) else none
 | _=>none
def yK(T:Tc):List Expr->Option TGsd
 | []=>some gsNil
 | .Name x _::r=>if AA (T.sc.names.lookup x)=true then (T.slot x).bind fun i=>(yK T r).map (gsCons (gNm i)) else none
 | .Tuple es _ _::r=>(v0 T es).bind fun is=>(yK T r).map (gsCons (gTp is))
 | _=>none
def JN(T:Tc):Expr->Option TGd
 | .Name x _=>if AA (T.sc.names.lookup x)=true then (T.slot x).map gNm else none
 | .Tuple es _ _=>match v0 T es with
  | some is=>some (gTp is)
  | none=>(yK T es).map fun r=>gQ r es.length
 | _=>none
def xp(T:Tc)(x:Str)(as:List Expr):Option Nat:=if x = "len" then (match as with
 | [.Name y _]=>(T.slot y).bind fun i=>if T.mu.contains i then some i else none
 | _=>none) else none
theorem Bh{x:Str}{as:List Expr}{i:Nat}(h:xp T x as=some i):x = "len" /\ ∃ y p,as=[.Name y p]/\T.slot y=some i:=by
 unfold xp at h;split at h
 ·rename_i ex;split at h
  ·rename_i y p;obtain⟨j,h1,h⟩:=ae.mp h;split at h
   ·cases h;exact⟨ex,y,p,rfl,h1⟩
   ·cases h
  ·cases h
 ·cases h
abbrev FE:=Expr->Option TEd
abbrev FT:=Expr->Option TTd
abbrev FA:=List Expr->Option TAd
def two(E:FE)(a b:Expr)(k:TEd->TEd->TEd):Option TEd:=(E a).bind fun ta=>(E b).map fun tb=>k ta tb
def Jt(E:FE)(a:Expr):List CmpOp->List Expr->Option TEd
 | [op],[b]=>if qN b then two E a b (gD op) else none
 | [op,op'],[b,c]=>if qN b && qN c then (E a).bind fun ta=>(E b).bind fun tb=>(E c).map fun tc=>iO op op' ta tb tc else none
 | _,_=>none
def Js(E:FE)(a:Expr):List CmpOp->List Expr->Option TTd
 | [op],[b]=>if qN b then (two E a b (gD op)).map gx else none
 | [op,op'],[b,c]=>if qN b && qN c then (E a).bind fun ta=>(E b).bind fun tb=>(E c).map fun tc=>gx (iO op op' ta tb tc) else none
 | _,_=>none
def K1(E:FE)(a:Expr):UnaryOp->Option TEd
 | .USub=>(E a).map iW
 | .Not=>(E a).map oA
 | _=>none
def Lb(E:FE)(p:Pos)(op:BoolOp):List Expr->Option TEd
 | [a]=>E a
 | a::b::r=>(E a).bind fun ta=>(E (.BoolOp op (b::r) p)).map fun tb=>match op with | .And=>ph ta tb | .Or=>dOr ta tb
 | []=>none
def La(F:FT)(p:Pos)(op:BoolOp):List Expr->Option TTd
 | [a]=>F a
 | a::b::r=>(F a).bind fun ta=>(F (.BoolOp op (b::r) p)).map fun tb=>match op with | .And=>i4 ta tb | .Or=>iQ ta tb
 | []=>none
def x9(E:FE):Option Expr->Option TOd
 | none=>some dNo
 | some e=>(E e).map gH
def EC:Expr->Bool
 | .UnaryOp .USub (.Constant (.int i) _ _) _=>i == 1
 | _=>false
def Kx(T:Tc)(x:Str):Option TEd:=match T.slot x with
 | some i=>some (gk i)
 | none=>if T.isG x then (Jg T x).map dC else none
def CD(T:Tc):Expr->Option Nat
 | .Name x _=>(T.slot x).bind fun i=>if T.mu.contains i then some i else none
 | _=>none
def K6(E:FE)(T:Tc)(a b:Expr):Option TEd:=if qN b then (match CD T a with
  | some i=>(E b).map (kT i)
  | none=>two E a b dIx) else none
def HV(E:FE)(T:Tc)(a:Expr):Expr->Option TEd
 | .Slice lo hi st _=>(match st with
  | none=>(E a).bind fun ta=>(x9 E lo).bind fun tl=>(x9 E hi).map fun tu=>dSl ta tl tu
  | some m=>if lo.isNone && hi.isNone && EC m then (E a).map oB else none)
 | b=>K6 E T a b
def Dt(E:FE)(A:FA)(T:Tc)(x:Str)(as:List Expr):Option TEd:=match T.G.lookup x with
 | some (j,s)=>if decide (j<=T.k) && !as.isEmpty then (A as).map (gq s) else none
 | none=>if x = "isinstance" then (match as with
   | [a,.Name y _]=>if qN a && T.isG y then ((yE y).bind fun ty=>(E a).map (pj ty)) else none
   | _=>none)
  else (Lc x).bind fun o=>match xp T x as with
   | some i=>some (mx i)
   | none=>if as.isEmpty then none else (A as).map (dB o.2.2.run o.2.2.mono)
def GN(E:FE)(T:Tc)(tg e:Expr):Option TAd:=match e with
 | .Call (.Name x _) [a] [] _=>if x = "range" then (if qN a && T.isG "range" then (E a).map kU else none)
  else if x = "enumerate" then (match tg with
   | .Tuple .. => if qN a && T.isG "enumerate" then (E a).map iE else none
   | _=>none)
  else if x = "reversed" then (if qN a && T.isG "reversed" then (E a).map jJ else none)
  else (E e).map gU
 | .Call (.Name x _) [a,b] [] _=>if x = "range" then (if qN a && qN b && T.isG "range" then (E a).bind fun ta=>(E b).map (iD ta) else none)
  else if x = "zip" then (match tg with
   | .Tuple .. => if qN a && qN b && T.isG "zip" then (E a).bind fun ta=>(E b).map (nE ta) else none
   | _=>none)
  else (E e).map gU
 | e=>(E e).map gU
def AQ(I:Option TAd)(E:FE)(F:FT)(T:Tc)(e tg:Expr)(ifs:List Expr)(sc:Scope):Option TEd:=I.bind fun ti=>(JN { T with sc:=sc } tg).bind fun g =>
 if g.tg.all (fun i=>(sq T.N sc).contains i) then (E e).bind fun te=>(match ifs with
  | []=>some (gL ti (sq T.N sc) g hJ te)
  | [k]=>(F k).map fun tk=>gL ti (sq T.N sc) g tk te
  | _=>none) else none
def uO(E:FE):FA
 | []=>some gm
 | e::r=>if qN e then (E e).bind fun te=>(uO E r).map fun tr=>gj te tr else none
def Fg(E:FE)(T:Tc)(x:Str):List Expr->Option TEd
 | _=>none
def xC(E:FE)(T:Tc)(cp:Pos)(as:List Expr)(ks:List Keyword):Expr->Option TEd
 | .Name x _=>if ks.isEmpty then (match Fg E T x as with
  | some t=>some t
  | none=>if T.isG x then Dt E (uO E) T x as else none) else none
 | _=>none
def CY:List Comprehension->Option (Expr×Expr×List Expr)
 | [⟨tg,it,ifs,0⟩]=>if qN it then some (tg,it,ifs) else none
 | _=>none
mutual
def rA:Nat->Tc->Expr->Option TEd
 | 0,_,_=>none
 | n+1,T,e=>match e with
  | .Name x _=>Kx T x
  | .Constant k _ _=>(JV k).map dC
  | .BinOp a op b _=>two (rA n T) a b (gr op)
  | .Compare a ops bs _=>Jt (rA n T) a ops bs
  | .UnaryOp op a _=>K1 (rA n T) a op
  | .BoolOp op vs p=>Lb (rA n T) p op vs
  | .IfExp k a b _=>(xM n T k).bind fun tk=>two (rA n T) a b (oh tk)
  | .Tuple es _ _=>(uO (rA n T) es).map gw
  | .List es _=>(uO (rA n T) es).map gE
  | .Subscript a b _=>HV (rA n T) T a b
  | .Call g as ks p=>xC (rA n T) T p as ks g
  | .ListComp e gs sc _=>if BQ T.sc sc then (CY gs).bind fun (tg,it,ifs)=>AQ (GN (rA n T) T tg it) (rA n { T with sc:=sc }) (xM n { T with sc:=sc }) T e tg ifs sc else none
  | _=>none
def xM:Nat->Tc->Expr->Option TTd
 | 0,_,_=>none
 | n+1,T,e=>match e with
  | .Compare a ops bs _=>Js (rA n T) a ops bs
  | .UnaryOp op a p=>if op = .Not then (xM n T a).map ip else (rA n T (.UnaryOp op a p)).map iP
  | .BoolOp op vs p=>La (xM n T) p op vs
  | .IfExp .. => none
  | e=>(rA n T e).map iP
end
end
section
open PySem L2 Dp
variable{K:Frag}{X:Cx}{T:Tc}{pos p p2:Pos}{a b e:Expr}{E:FE}{F:FT}
def wN(X:Cx)(E:FE):Prop:=∀{e:Expr} {t:TEd},E e=some t->PE X e (LE X.K t)
def JT(X:Cx)(F:FT):Prop:=∀{e:Expr} {t:TTd},F e=some t->PT X e (LT X.K t)
theorem Jf(C:CtxOk T X){x:Str}{d:D}(hg:T.isG x=true)(h:Jg T x=some d):PE X (.Name x p) (LE X.K (dC d)):=by
 obtain⟨g1,g2⟩:=C.isG hg;obtain⟨v,u,h1,h2,h3⟩:=C.gc x d (qY h);exact dC.ok (D3 g1 h1 h2 g2) h3
theorem FI{k:Const}{d:D}{j:Nat}(h:JV k=some d):PE X (.Constant k j pos) (LE X.K (dC d)):=by
 cases k <;> first|(cases h;done)|skip
 all_goals (cases h)
 all_goals first|exact dC.ok qq fun _ _ _=>rfl|exact dC.ok Cu fun _ _ _=>rfl|exact dC.ok Gk fun _ _ _=>rfl|exact dC.ok Gn fun _ _ _=>rfl
theorem ub(C:CtxOk T X):∀{es:List Expr} {is:List Nat},v0 T es=some is->ES X es (gsAll is)/\(assignEach es X.env).length=is.length/\(assignEach es X.env).findIdx? (·.1)=none
 | [],is,h=>by
  cases h;exact⟨An,rfl,rfl⟩
 | a::r,is,h=>by
  cases a <;> first|(cases h;done)|skip
  rename_i x p;obtain⟨hl,h⟩:=af.mp (show (if AA (T.sc.names.lookup x)=true then (T.slot x).bind fun i=>(v0 T r).map (i :: ·) else none)=some is from h);obtain⟨i,h1,h⟩:=ae.mp h;obtain⟨is',h2,rfl⟩:=ab.mp h;obtain⟨q1,q2,q3⟩:=ub C h2;refine⟨xT (C.tgt hl h1) q1 rfl,?_,?_⟩
  ·show ((false,assign (.Name x p) X.env)::assignEach r X.env).length=_;rw [aY,q2];rfl
  ·show ((false,assign (.Name x p) X.env)::assignEach r X.env).findIdx? (·.1)=none;rw [dP,q3];rfl
theorem wU(C:CtxOk T X):∀{es:List Expr} {r:TGsd},yK T es=some r->ES X es (JE X.K r)/\(assignEach es X.env).length=es.length/\(assignEach es X.env).findIdx? (·.1)=none
 | [],r,h=>by
  cases h;exact⟨gsNil.ok,rfl,rfl⟩
 | a::r,t,h=>by
  cases a <;> first|(cases h;done)|skip
  ·rename_i x p;obtain⟨hl,h⟩:=af.mp (show (if AA (T.sc.names.lookup x)=true then (T.slot x).bind fun i=>(yK T r).map (gsCons (gNm i)) else none)=some t from h);obtain⟨i,h1,h⟩:=ae.mp h;obtain⟨t',h2,rfl⟩:=ab.mp h;obtain⟨q1,q2,q3⟩:=wU C h2;refine⟨gsCons.ok (gNm.ok (C.tgt hl h1)) q1 rfl,?_,?_⟩
   ·show ((false,assign (.Name x p) X.env)::assignEach r X.env).length=_;rw [aY,q2];rfl
   ·show ((false,assign (.Name x p) X.env)::assignEach r X.env).findIdx? (·.1)=none;rw [dP,q3];rfl
  ·rename_i es k p;obtain⟨is,h1,h⟩:=ae.mp (show ((v0 T es).bind fun is=>(yK T r).map (gsCons (gTp is)))=some t from h);obtain⟨t',h2,rfl⟩:=ab.mp h;obtain⟨q1,q2,q3⟩:=wU C h2;obtain⟨w1,w2,w3⟩:=ub C h1;refine⟨gsCons.ok (gTp.ok (vH C.calm w1 w2 w3)) q1 rfl,?_,?_⟩
   ·show ((false,assign (.Tuple es k p) X.env)::assignEach r X.env).length=_;rw [aY,q2];rfl
   ·show ((false,assign (.Tuple es k p) X.env)::assignEach r X.env).findIdx? (·.1)=none;rw [dP,q3];rfl
theorem yL(C:CtxOk T X){e:Expr}{g:TGd}(h:JN T e=some g):PG X e (LG X.K g):=by
 cases e <;> first|(cases h;done)|skip
 ·rename_i x p;obtain⟨hl,h⟩:=af.mp (show (if AA (T.sc.names.lookup x)=true then (T.slot x).map gNm else none)=some g from h);obtain⟨i,h1,rfl⟩:=ab.mp h;exact gNm.ok (C.tgt hl h1)
 ·rename_i es k p;have h:(match v0 T es with
   | some is=>some (gTp is)
   | none=>(yK T es).map fun r=>gQ r es.length)=some g:=h
  cases h1:v0 T es with
  | some is =>
   rw [h1] at h;cases h;obtain⟨q1,q2,q3⟩:=ub C h1;exact gTp.ok (vH C.calm q1 q2 q3)
  | none =>
   rw [h1] at h;obtain⟨r,h2,rfl⟩:=ab.mp h;obtain⟨q1,q2,q3⟩:=wU C h2;exact gQ.ok (vH C.calm q1 q2 q3)
theorem uz{k:TEd->TEd->TEd}{t:TEd}(h:two E a b k=some t):∃ ta tb,E a=some ta/\E b=some tb/\t=k ta tb:=by
 obtain⟨ta,h1,h⟩:=ae.mp h;obtain⟨tb,h2,rfl⟩:=ab.mp h;exact⟨ta,tb,h1,h2,rfl⟩
theorem EK(C:CtxOk T X)(ih:wN X E):∀{ops:List CmpOp} {bs:List Expr} {t:TEd},Jt E a ops bs=some t->PE X (.Compare a ops bs pos) (LE X.K t)
 | [op],[b],t,h=>by
  obtain⟨hn,h⟩:=af.mp h;obtain⟨ta,tb,h1,h2,rfl⟩:=uz h;exact gD.ok C.room (ih h1) (ih h2) (vc hn _)
 | [op,op'],[b,c],t,h=>by
  obtain⟨hn,h⟩:=af.mp h;obtain⟨n1,n2⟩:=au.mp hn;obtain⟨ta,h1,h⟩:=ae.mp h;obtain⟨tb,h2,h⟩:=ae.mp h;obtain⟨tc,h3,rfl⟩:=ab.mp h;exact iO.ok C.room (ih h1) (ih h2) (ih h3) (vc n2 _)
 | [],_,_,h=>by cases h
 | [_],[],_,h=>by cases h
 | [_],_::_::_,_,h=>by cases h
 | [_,_],[],_,h=>by cases h
 | [_,_],[_],_,h=>by cases h
 | [_,_],_::_::_::_,_,h=>by cases h
 | _::_::_::_,_,_,h=>by cases h
theorem EJ(C:CtxOk T X)(ih:wN X E):∀{ops:List CmpOp} {bs:List Expr} {t:TTd},Js E a ops bs=some t->PT X (.Compare a ops bs pos) (LT X.K t)
 | [op],[b],t,h=>by
  obtain⟨hn,h⟩:=af.mp h;obtain⟨t0,h0,rfl⟩:=ab.mp h;obtain⟨ta,tb,h1,h2,rfl⟩:=uz h0;exact gD.test C.room (ih h1) (ih h2) (vc hn _)
 | [op,op'],[b,c],t,h=>by
  obtain⟨hn,h⟩:=af.mp h;obtain⟨n1,n2⟩:=au.mp hn;obtain⟨ta,h1,h⟩:=ae.mp h;obtain⟨tb,h2,h⟩:=ae.mp h;obtain⟨tc,h3,rfl⟩:=ab.mp h;exact iO.test C.room (ih h1) (ih h2) (ih h3) (vc n2 _)
 | [],_,_,h=>by cases h
 | [_],[],_,h=>by cases h
 | [_],_::_::_,_,h=>by cases h
 | [_,_],[],_,h=>by cases h
 | [_,_],[_],_,h=>by cases h
 | [_,_],_::_::_::_,_,h=>by cases h
 | _::_::_::_,_,_,h=>by cases h
theorem FF(ih:wN X E){op:UnaryOp}{t:TEd}(h:K1 E a op=some t):PE X (.UnaryOp op a pos) (LE X.K t):=by
 cases op <;> first|(cases h;done)|skip
 ·obtain⟨ta,h1,rfl⟩:=ab.mp (show (E a).map oA=some t from h);exact oA.ok (ih h1)
 ·obtain⟨ta,h1,rfl⟩:=ab.mp (show (E a).map iW=some t from h);exact iW.ok (ih h1)
theorem Hm(ih:wN X E):∀{op:BoolOp} {vs:List Expr} {t:TEd},Lb E p op vs=some t->PE X (.BoolOp op vs p) (LE X.K t)
 | _,[a],_,h=>yS (ih h)
 | .And,a::b::r,t,h=>by
  obtain⟨ta,h1,h⟩:=ae.mp h;obtain⟨tb,h2,rfl⟩:=ab.mp h;exact ph.ok (ih h1) (ih h2)
 | .Or,a::b::r,t,h=>by
  obtain⟨ta,h1,h⟩:=ae.mp h;obtain⟨tb,h2,rfl⟩:=ab.mp h;exact dOr.ok (ih h1) (ih h2)
 | _,[],_,h=>by cases h
theorem Hl(ih:JT X F)(iw:∀{op:BoolOp} {vs:List Expr} {p:Pos} {t:TTd},F (.BoolOp op vs p)=some t->PW X (.BoolOp op vs p) (LT X.K t)):∀{op:BoolOp} {vs:List Expr} {t:TTd},La F p op vs=some t->PW X (.BoolOp op vs p) (LT X.K t)
 | .And,[a],_,h=>Ah (ih h)
 | .Or,[a],_,h=>Ge (ih h)
 | .And,a::b::r,t,h=>by
  obtain⟨ta,h1,h⟩:=ae.mp h;obtain⟨tb,h2,rfl⟩:=ab.mp h;exact i4.ok (ih h1) (iw h2)
 | .Or,a::b::r,t,h=>by
  obtain⟨ta,h1,h⟩:=ae.mp h;obtain⟨tb,h2,rfl⟩:=ab.mp h;exact iQ.ok (ih h1) (iw h2)
 | _,[],_,h=>by cases h
theorem xZ(ih:wN X E):∀{o:Option Expr} {t:TOd},x9 E o=some t->PO X o (LO X.K t)
 | none,_,h=>by
  cases h;exact dNo.ok
 | some e,t,h=>by
  obtain⟨ta,h1,rfl⟩:=ab.mp h;exact gH.ok (ih h1)
theorem EB{m:Expr}(h:EC m=true):∃ j p1 p3,m = .UnaryOp .USub (.Constant (.int 1) j p1) p3:=by
 unfold EC at h;split at h
 ·rename_i i j p1 p3;have e:i=1:=eq_of_beq h;exact⟨j,p1,p3,by rw [e]⟩
 ·cases h
theorem CC(C:CtxOk T X){i:Nat}(h:CD T a=some i):PE X a (uc i):=by
 cases a <;> first|(cases h;done)|skip
 obtain⟨j,h1,h⟩:=ae.mp h;obtain⟨_,h⟩:=af.mp h;cases h;exact C.var h1
theorem DK(C:CtxOk T X)(ih:wN X E){t:TEd}(h:HV E T a b=some t):PE X (.Subscript a b pos) (LE X.K t):=by
 have key:∀{b:Expr},K6 E T a b=some t->PE X (.Subscript a b pos) (LE X.K t):=fun {b} h=>by
  obtain⟨hn,h⟩:=af.mp h;cases ho:CD T a with
  | some i =>
   rw [ho] at h;obtain⟨tb,h2,rfl⟩:=ab.mp h;exact kT.ok (CC C ho) (ih h2) (At hn)
  | none =>
   rw [ho] at h;obtain⟨ta,tb,h1,h2,rfl⟩:=uz h;exact dIx.ok (ih h1) (ih h2) (At hn)
 cases b;case Slice lo hi st p2 =>
  cases st with
  | none =>
   obtain⟨tk,h0,h⟩:=ae.mp (show (E a).bind (fun ta=>(x9 E lo).bind fun tl=>(x9 E hi).map fun tu=>dSl ta tl tu)=some t from h);obtain⟨ta,h1,h⟩:=ae.mp h;obtain⟨tb,h2,rfl⟩:=ab.mp h;exact dSl.ok (ih h0) (xZ ih h1) (xZ ih h2)
  | some m =>
   have h:(if lo.isNone && hi.isNone && EC m then (E a).map oB else none)=some t:=h;split at h
   rotate_left
   ·cases h
   rename_i hm;obtain⟨hm,m1⟩:=au.mp hm;obtain⟨l1,l2⟩:=au.mp hm;cases lo <;> cases hi <;> first|(cases l1;done)|(cases l2;done)|skip
   obtain⟨j,p1,p3,rfl⟩:=EB m1;obtain⟨ta,h1,rfl⟩:=ab.mp h;exact oB.ok (k:=0) (ih h1)
 all_goals exact key h
theorem sL(ih:wN X E):∀{es:List Expr} {t:TAd},uO E es=some t->PA X es (LA X.K t)
 | [],t,h=>by
  cases h;exact gm.ok
 | e::r,t,h=>by
  obtain⟨hn,h⟩:=af.mp h;obtain⟨ta,h1,h⟩:=ae.mp h;obtain⟨tb,h2,rfl⟩:=ab.mp h;exact gj.ok (ih h1) (sL ih h2) (qx hn _ _)
theorem tJ{r:List Expr}{t:TAd}(h:uO E (a::r)=some t):starEach (a::r) X.env=(false,eval a X.env)::starEach r X.env:=qx (af.mp h).1 _ _
theorem vY:∀{r:List Expr} {t:TAd},uO E r=some t->(backTo pos (starEach r X.env)).any (·.1)=false
 | [],_,_=>rfl
 | a::r,t,h=>by
  rw [tJ h];obtain⟨hn,h⟩:=af.mp h;obtain⟨ta,h1,h⟩:=ae.mp h;obtain⟨tb,h2,rfl⟩:=ab.mp h;have:=vY h2;unfold backTo at this ⊢;rw [bQ,eI,this];rfl
theorem uN{r:List Expr}{t:TAd}(h:uO E (a::r)=some t):(backTo pos (starEach r X.env)).any (·.1)=false:=by
 obtain⟨hn,h⟩:=af.mp h;obtain⟨ta,h1,h⟩:=ae.mp h;obtain⟨tb,h2,rfl⟩:=ab.mp h;exact vY h2
theorem Dq(C:CtxOk T X)(ih:wN X E){x:Str}{as:List Expr}{t:TEd}(hg:T.isG x=true)(h:Dt E (uO E) T x as=some t):PE X (.Call (.Name x p) as [] pos) (LE X.K t):=by
 obtain⟨g1,g2⟩:=C.isG hg;unfold Dt at h;cases e1:T.G.lookup x with
 | some js =>
  obtain⟨j,s⟩:=js;rw [e1] at h;obtain⟨hk,h⟩:=af.mp h;obtain⟨k1,k2⟩:=au.mp hk;obtain⟨tb,h2,rfl⟩:=ab.mp h;cases as with
  | nil=>cases k2
  | cons a r =>
   obtain⟨ps,d⟩:=C.fn x j s (qY e1);exact gq.ok (yU d C.room (sL ih h2) (of_decide_eq_true k1) g1 g2 (tJ h2) (uN h2))
 | none =>
  rw [e1] at h;dsimp only at h;by_cases ex:x = "isinstance"
  ·subst ex;rw [if_pos rfl] at h;split at h
   ·obtain⟨hn,h⟩:=af.mp h;obtain⟨n1,n2⟩:=au.mp hn;obtain⟨ty,h1,h⟩:=ae.mp h;obtain⟨tb,h2,rfl⟩:=ab.mp h;exact pj.ok C.bl h1 g1 (C.isG n2).1 (ih h2) fun es=>qx n1 es _
   ·cases h
  ·rw [if_neg ex] at h;obtain⟨⟨k,id,o⟩,e0,h3⟩:=ae.mp h;obtain⟨b1,b2,b3,b4⟩:=Ho C.room C.calm C.bl e0;cases e2:xp T x as with
   | some i =>
    rw [e2] at h3;have h4:some (mx i)=some t:=h3;obtain⟨rfl,y,p2,rfl,e3⟩:=Bh e2;cases h4;exact mx.ok g1 C.bl.len (C.var e3) rfl
   | none =>
    rw [e2] at h3;obtain⟨hne,h5⟩:=dY.mp (show (if as.isEmpty=true then none else (uO E as).map (dB o.run o.mono))=some t from h3);obtain⟨tb,h2,rfl⟩:=ab.mp h5;cases as with
    | nil=>exact absurd rfl hne
    | cons a r =>
     cases k with
     | true =>
      obtain⟨b5,rr,b6,b7⟩:=b4;exact dB.ok b7 (qG b6 g1 b1 b5 (sL ih h2) b2 b3 (tJ h2) (uN h2))
     | false =>
      obtain⟨b5,rr,b6,b7⟩:=b4;exact dB.ok b7 (uE b6 g1 b1 b5 (sL ih h2) b2 b3 (tJ h2) (uN h2))
theorem CL(C:CtxOk T X)(ih:wN X E){x:Str}{as:List Expr}{t:TEd}(h:Fg E T x as=some t):PE X (.Call (.Name x p) as [] pos) (LE X.K t):=by
 cases h
theorem zI(C:CtxOk T X)(ih:wN X E){g:Expr}{as:List Expr}{ks:List Keyword}{t:TEd}(h:xC E T pos as ks g=some t):PE X (.Call g as ks pos) (LE X.K t):=by
 unfold xC at h;split at h
 ·split at h
  ·rename_i k0;cases List.isEmpty_iff.mp k0;split at h
   ·rename_i t' ht;cases h;exact CL C ih ht
   ·obtain⟨hg,h1⟩:=af.mp h;exact Dq C ih hg h1
  ·cases h
 ·cases h
theorem za(C:CtxOk T X)(ih:wN X E){tg e:Expr}{t:TAd}(h:GN E T tg e=some t):PI X tg e (LI X.K t):=by
 have wk:(E e).map gU=some t->PI X tg e (LI X.K t):=fun h=>by
  obtain⟨ta,h1,rfl⟩:=ab.mp h;exact gU.ok (ih h1)
 unfold GN at h;split at h
 ·rename_i x p1 a p2;by_cases ex:x = "range"
  ·subst ex;obtain⟨hn,h⟩:=af.mp (show (if qN a && T.isG "range" then (E a).map kU else none)=some t from h);obtain⟨n1,n2⟩:=au.mp hn;obtain⟨ta,h1,rfl⟩:=ab.mp h;exact kU.ok (C.isG n2).1 C.bl.range (ih h1) (qx n1 _ _)
  ·rw [if_neg ex] at h;by_cases ex:x = "enumerate"
   ·subst ex;cases tg <;> first|(cases h;done)|skip
    obtain⟨hn,h⟩:=af.mp (show (if qN a && T.isG "enumerate" then (E a).map iE else none)=some t from h);obtain⟨n1,n2⟩:=au.mp hn;obtain⟨ta,h1,rfl⟩:=ab.mp h;exact iE.ok (C.isG n2).1 C.bl.enumerate (ih h1) (qx n1 _ _)
   ·rw [if_neg ex] at h;by_cases ex:x = "reversed"
    ·subst ex;obtain⟨hn,h⟩:=af.mp (show (if qN a && T.isG "reversed" then (E a).map jJ else none)=some t from h);obtain⟨n1,n2⟩:=au.mp hn;obtain⟨ta,h1,rfl⟩:=ab.mp h;exact jJ.ok (C.isG n2).1 C.bl.reversed (ih h1) (qx n1 _ _)
    ·rw [if_neg ex] at h;exact wk h
 ·rename_i x p1 a b p2;by_cases ex:x = "range"
  ·subst ex;obtain⟨hn,h⟩:=af.mp (show (if qN a && qN b && T.isG "range" then (E a).bind fun ta=>(E b).map (iD ta) else none)=some t from h);obtain⟨n1,n2⟩:=au.mp hn;obtain⟨n0,n1⟩:=au.mp n1;obtain⟨ta,h1,h⟩:=ae.mp h;obtain⟨tb,h2,rfl⟩:=ab.mp h;exact iD.ok (C.isG n2).1 C.bl.range (ih h1) (ih h2) (by rw [qx n0,qx n1];rfl) (qx n1 _ _)
  ·rw [if_neg ex] at h;by_cases ex:x = "zip"
   ·subst ex;cases tg <;> first|(cases h;done)|skip
    obtain⟨hn,h⟩:=af.mp (show (if qN a && qN b && T.isG "zip" then (E a).bind fun ta=>(E b).map (nE ta) else none)=some t from h);obtain⟨n1,n2⟩:=au.mp hn;obtain⟨n0,n1⟩:=au.mp n1;obtain⟨ta,h1,h⟩:=ae.mp h;obtain⟨tb,h2,rfl⟩:=ab.mp h;exact nE.ok (C.isG n2).1 C.bl.zip (ih h1) (ih h2) (by rw [qx n0,qx n1];rfl) (qx n1 _ _)
   ·rw [if_neg ex] at h;exact wk h
 ·exact wk h
theorem yt{I:Option TAd}{e tg:Expr}{ifs:List Expr}{sc:Scope}{t:TEd}(C:CtxOk T X)(h:AQ I E F T e tg ifs sc=some t)(ih:∀ s2 H2 fp pins A,wN (tL X sc s2 H2 fp pins A) E)(ihF:∀ s2 H2 fp pins A,JT (tL X sc s2 H2 fp pins A) F) :
  ∃ ti g te tk,I=some ti/\t=gL ti (sq T.N sc) g tk te/\(∀ i∈g.tg,i∈sq T.N sc)/\(∀ s2 H2 fp pins A,PG (tL X sc s2 H2 fp pins A) tg (LG X.K g))/\(∀ s2 H2 fp pins A,PTs (tL X sc s2 H2 fp pins A) ifs (LT X.K tk))/\∀ s2 H2 fp pins A,PE (tL X sc s2 H2 fp pins A) e (LE X.K te):=by
 obtain⟨ti,h1,h⟩:=ae.mp h;obtain⟨g,h2,h⟩:=ae.mp h;obtain⟨hg,h⟩:=af.mp h;obtain⟨te,h3,h⟩:=ae.mp h;have hh:∀ i∈g.tg,i∈sq T.N sc:=fun i hi=>by simpa using cm.mp hg i hi
 match ifs,h with
 | [],h =>
  cases h;exact⟨ti,g,te,hJ,h1,rfl,hh,fun _ _ _ _ _=>yL (C.inner ..) h2,fun _ _ _ _ _=>pts_nil.weak fun σ H Q ⟨f,O,ss,S,q⟩=>q H (Ex.refl S.fl),fun _ _ _ _ _=>ih _ _ _ _ _ h3⟩
 | [k],h =>
  obtain⟨tk,h4,rfl⟩:=ab.mp h;exact⟨ti,g,te,tk,h1,rfl,hh,fun _ _ _ _ _=>yL (C.inner ..) h2,fun _ _ _ _ _=>DS (ihF _ _ _ _ _ h4),fun _ _ _ _ _=>ih _ _ _ _ _ h3⟩
 | _::_::_,h=>cases h
theorem AF{gs:List Comprehension}{tg it:Expr}{ifs:List Expr}(h:CY gs=some (tg,it,ifs)):gs=[⟨tg,it,ifs,0⟩]/\qN it=true:=by
 unfold CY at h;split at h
 ·obtain⟨hn,h⟩:=af.mp h;cases h;exact⟨rfl,hn⟩
 ·cases h
structure TrOk (n:Nat):Prop where
 e:∀{T:Tc} {X:Cx},CtxOk T X->wN X (rA n T)
 t:∀{T:Tc} {X:Cx},CtxOk T X->JT X (xM n T)
 w:∀{T:Tc} {X:Cx} {op:BoolOp} {vs:List Expr} {p:Pos} {t:TTd},CtxOk T X->xM n T (.BoolOp op vs p)=some t->PW X (.BoolOp op vs p) (LT X.K t)
theorem z6(ih:wN X E){t:TTd}(hb:Fz e=true)(h:(E e).map iP=some t):PT X e (LT X.K t):=by
 obtain⟨ta,h1,rfl⟩:=ab.mp h;exact iP.ok (ih h1) fun w=>Dv hb _ w
theorem uP:∀ n,TrOk n
 | 0=>⟨fun _ _ _ h=>(by cases h),fun _ _ _ h=>(by cases h),fun _ h=>(by cases h)⟩
 | n+1=>by
  have ih:=uP n;have hw:∀{T:Tc} {X:Cx} {op:BoolOp} {vs:List Expr} {p:Pos} {t:TTd},CtxOk T X->xM (n+1) T (.BoolOp op vs p)=some t->PW X (.BoolOp op vs p) (LT X.K t):=fun C h=>Hl (ih.t C) (ih.w C) h;refine⟨fun {T X} C {e t} h=>?_,fun {T X} C {e t} h=>?_,hw⟩
  ·cases e <;> first|(cases h;done)|skip
   case Name x p =>
    have h:Kx T x=some t:=h;unfold Kx at h;cases hs:T.slot x with
    | some i =>
     rw [hs] at h;cases h;exact gk.ok (C.var hs)
    | none =>
     rw [hs] at h;obtain⟨hg,h⟩:=af.mp h;obtain⟨d,h1,rfl⟩:=ab.mp h;exact Jf C hg h1
   case Constant k j p =>
    obtain⟨d,h1,rfl⟩:=ab.mp (show (JV k).map dC=some t from h);exact FI h1
   case BinOp a op b p =>
    obtain⟨ta,tb,h1,h2,rfl⟩:=uz (show two (rA n T) a b (gr op)=some t from h);exact gr.ok C.room (ih.e C h1) (ih.e C h2)
   case Compare=>exact EK C (ih.e C) h
   case UnaryOp=>exact FF (ih.e C) h
   case BoolOp=>exact Hm (ih.e C) h
   case IfExp k a b p =>
    obtain⟨tk,h0,h⟩:=ae.mp (show (xM n T k).bind (fun tk=>two (rA n T) a b (oh tk))=some t from h);obtain⟨ta,tb,h1,h2,rfl⟩:=uz h;exact oh.ok (ih.t C h0) (ih.e C h1) (ih.e C h2)
   case Tuple es k p =>
    obtain⟨ta,h1,rfl⟩:=ab.mp (show (uO (rA n T) es).map gw=some t from h);exact gw.ok (sL (ih.e C) h1)
   case List es p =>
    obtain⟨ta,h1,rfl⟩:=ab.mp (show (uO (rA n T) es).map gE=some t from h);exact gE.ok (sL (ih.e C) h1)
   case Subscript=>exact DK C (ih.e C) h
   case Call g as ks p =>
    exact zI C (ih.e C) h
   case ListComp e gs sc p =>
    obtain⟨hs,h⟩:=af.mp (show (if BQ T.sc sc then (CY gs).bind fun (tg,it,ifs)=>AQ (GN (rA n T) T tg it) (rA n { T with sc:=sc }) (xM n { T with sc:=sc }) T e tg ifs sc else none)=some t from h);obtain⟨⟨tg,it,ifs⟩,h1,h2⟩:=ae.mp h;obtain⟨rfl,hn⟩:=AF h1;obtain⟨ti,g,te,tk,q1,rfl,q2,q3,q4,q5⟩:=yt C h2 (fun _ _ _ _ _=>ih.e (C.inner ..)) (fun _ _ _ _ _=>ih.t (C.inner ..));exact gL.ok C.calm (C.compS hs) (za C (ih.e C) q1) q3 q4 q5 (fun x=>uG hn _ x) q2
  ·cases e;case Compare=>exact EJ C (ih.e C) h
   case UnaryOp op a p =>
    have h:(if op = .Not then (xM n T a).map ip else (rA n T (.UnaryOp op a p)).map iP)=some t:=h;by_cases eo:op = .Not
    ·subst eo;obtain⟨ta,h1,rfl⟩:=ab.mp (show (xM n T a).map ip=some t from h);exact ip.ok (ih.t C h1)
    ·rw [if_neg eo] at h;refine z6 (ih.e C) ?_ h;cases op <;> first|rfl|exact absurd rfl eo
   case BoolOp=>exact (hw C h).pt
   case IfExp=>cases h
   all_goals exact z6 (ih.e C) rfl h
end
section
open PySem L2 Dp
variable{K:Frag}{X:Cx}{T:Tc}{pos:Pos}
structure CtxS (T:Tc)(X:Cx):Prop extends CtxOk T X where
 scope:X.env.scope=T.sc
 bk:X.env.blockKind = .function
 xe:X.xe=fun _ _=>False
 fnT:∀ x,X.fn x=true
theorem CtxS.L(C:CtxS T X){x:Str}(h:AA (T.sc.names.lookup x)=true):By X.env.scope x:=by
 unfold L2.By;rw [C.scope];cases q:T.sc.names.lookup x with
 | none=>rw [q] at h;cases h
 | some k=>rw [q] at h;cases k <;> first|exact .inl rfl|exact .inr rfl|cases h
theorem qh.ok{fz:List Nat}{scope:Scope}{hide:List Nat}{it:TAd}{g:TGd}{c:TTd}{e:TEd}{tg iter elt:Expr}{ifs:List Expr}{i:Nat}{y:Str}{py ep:Pos}(hc:X.calm=true)(hN:X.N.Nodup)(hy:X.N[i]? = some y)(hl:By X.env.scope y)(Sc:CompS X.N X.env.scope scope hide)(hi:PI X tg iter (LI X.K it))
  (hg:∀ s2 H2 fp pins C,PG (tL X scope s2 H2 fp pins C) tg (LG X.K g)) (ht:∀ s2 H2 fp pins C,PTs (tL X scope s2 H2 fp pins C) ifs (LT X.K c)) (he:∀ s2 H2 fp pins C,PE (tL X scope s2 H2 fp pins C) elt (LE X.K e))
  (hs:∀ x,foldedSetIterable iter X.env x=pure x) (hh:∀ i∈g.tg,i∈hide) (hsw:swapsWith (.ListComp elt [⟨tg,iter,ifs,0⟩] scope ep) (some (.Name y py)) pos.line X.env=pure true) (hf:X.fn y=true\/X.env.scope.names.lookup y=some .local) :
  PS X (.Assign [.Name y py] (.ListComp elt [⟨tg,iter,ifs,0⟩] scope ep) pos) (LS X.K (gB fz (gNm i) (gL it hide g c e))) :=
 (DT (spos:=pos) hc hN hy hl Sc hi hg ht he hs hsw hf).weak fun D σ H ⟨c0,O,ss,R,q⟩=>by
  obtain⟨O',R⟩:=R.frz (fz:=fz);refine⟨c0.f,O',_,R.sl,it.mono (fun ds q J H1 e1 D0=>?_) q⟩;refine compD.ok (R.sl.ex e1) hh D0 (compD.mono (fun d q v H' e r=>?_) q);have R2:=R.ex (e1.trans e);exact q O' _ H' (R2.to (R2.sl.set r) Sub.set)
def J8(T:Tc)(x:Str)(px ep:Pos)(sc:Scope):Bool:=(T.sc.names.lookup x == some .local) && (px.line == ep.line) && !(sc.names.any fun (n,k)=>n == x && (k == .local || k == .cell))
theorem BK(C:CtxS T X){e:Expr}{gs:List Comprehension}{x:Str}{px ep:Pos}{sc:Scope}{l:Nat}:swapsWith (.ListComp e gs sc ep) (some (.Name x px)) l X.env=pure (J8 T x px ep sc):=by
 unfold swapsWith J8;show (pure (X.env.blockKind == .function && X.env.kindOf x == some .local && px.line == ep.line && !(sc.names.any fun (n,k)=>n == x && (k == .local || k == .cell))):Sem Bool)=_;rw [C.bk];unfold Env.kindOf;rw [C.scope];rfl
def CA(T:Tc)(x y:Str)(px py:Pos)(a b:Expr):Bool:=qN a && qN b && (T.sc.names.lookup x == some .local) && (T.sc.names.lookup y == some .local) && (py.line == px.line) && !(x == y) && !(foldedForSure 8 a && foldedForSure 8 b) && !(constantsAlone 8 a && constantsAlone 8 b)
theorem Cw(C:CtxS T X){x y:Str}{px py pt pt2:Pos}{a b:Expr}{kt k2:Nat}(h:CA T x y px py a b=true):swappedStores [.Tuple [.Name x px,.Name y py] kt pt] (.Tuple [a,b] k2 pt2) X.env=pure (some [x,y]):=by
 unfold CA at h;simp only [bh,da] at h;obtain⟨⟨⟨⟨⟨⟨⟨h1,h2⟩,h3⟩,h4⟩,h5⟩,h6⟩,h7⟩,h8⟩:=h;have s1:∀{e:Expr},qN e=true->(match e with | .Starred .. => true|_=>false)=false:=fun {e} h=>by cases e <;> first|rfl|cases h
 have k1:X.env.kindOf x == some .local:=by unfold Env.kindOf;rw [C.scope];exact h3
 have k2:X.env.kindOf y == some .local:=by unfold Env.kindOf;rw [C.scope];exact h4
 have n1:(y == x)=false:=by
  cases q:y == x with
  | false=>rfl
  | true =>
   have:=eq_of_beq q;subst this;rw [beq_self_eq_true] at h6;cases h6
 have k1':=eq_of_beq k1;have k2':=eq_of_beq k2;have h5':py.line=px.line:=eq_of_beq h5;have ed:([x,y]:List Str).eraseDups=[x,y]:=by
  rw [List.eraseDups_cons];simp [n1];rfl
 unfold swappedStores;have ep:∀(x:Str) (p:Pos),(Expr.Name x p).pos=p:=fun _ _=>rfl;simp [C.bk,cE,fo,k1',k2',ep,h5',ed];rw [if_neg,if_neg,if_neg]
 ·rintro⟨q1,q2⟩;rw [q1,q2] at h8;cases h8
 ·rintro⟨q1,q2⟩;rw [q1,q2] at h7;cases h7
 ·rintro (q|q)
  ·cases a <;> first|(cases h1;done)|cases q
  ·cases b <;> first|(cases h2;done)|cases q
def zE(T:Tc)(x y:Str)(a b:Expr):Bool:=!((T.sc.names.lookup x == some .local) && (T.sc.names.lookup y == some .local)) || (foldedForSure 8 a && foldedForSure 8 b)
theorem Bu(C:CtxS T X){x y:Str}{px py pt pt2:Pos}{a b:Expr}{kt k2:Nat}(h:zE T x y a b=true):swappedStores [.Tuple [.Name x px,.Name y py] kt pt] (.Tuple [a,b] k2 pt2) X.env=pure none:=by
 unfold zE at h;rcases ff.mp h with h|h
 ·have h:(X.env.kindOf x == some .local)=false\/(X.env.kindOf y == some .local)=false:=by
   unfold Env.kindOf;rw [C.scope];revert h;cases T.sc.names.lookup x == some .local <;> cases T.sc.names.lookup y == some .local <;> simp
  unfold swappedStores;simp only [cE,fo];rcases h with h|h <;> simp only [h,Bool.false_and,cI,if_false];all_goals (split <;> first|rfl|skip)
  all_goals (split <;> first|rfl|skip)
  all_goals (repeat' split) <;> first|rfl|simp_all
 ·have e:[a,b].all (foldedForSure 8)=true:=by
   show (foldedForSure 8 a && (foldedForSure 8 b && true))=true;rw [Bool.and_true];exact h
  unfold swappedStores;dsimp only;rw [if_pos e];repeat' split
  all_goals rfl
def xm:Expr->Option (Str×Str×Pos×List Expr×Pos)
 | .Call (.Attribute (.Name x _) m ap) as [] cp=>if ap.endLine == cp.line then some (x,m,ap,as,cp) else none
 | _=>none
theorem wu{e:Expr}{x m:Str}{ap cp:Pos}{as:List Expr}(h:xm e=some (x,m,ap,as,cp)):(∃ p,e = .Call (.Attribute (.Name x p) m ap) as [] cp)/\(ap.endLine == cp.line)=true:=by
 unfold xm at h;split at h
 ·obtain⟨hl,h⟩:=af.mp h;cases h;exact⟨⟨_,rfl⟩,hl⟩
 ·cases h
def En(E:FE)(T:Tc):Expr->Option TEd
 | .List es _=>(uO E es).map gE
 | .BinOp a .Mult b _=>two E a b (gr .Mult)
 | .Call (.Name x _) [a] [] _=>if x = "list" then (if qN a && T.isG "list" then (E a).map jf else none) else none
 | _=>none
def Fj:Expr->Bool
 | .Tuple .. => true|_=>false
def JP(n:Nat)(T:Tc)(p:Pos)(i:Nat)(e:Expr):Option TSd:=match xm e with
 | some (y,m,_,as,_)=>if m = "pop" then (match as with
  | []=>(T.slot y).map (nY i)
  | _=>none) else none
 | none=>if T.own.contains p.line then ((En (rA n T) T e).map (kW (T.frz p) i)) else (rA n T e).map (gB (T.frz p) (gNm i))
def Cz:List Expr->Expr->Option (Str×Pos×Str×Pos×Expr×Expr)
 | [.Name x px,.Name y py],.Tuple [a,b] _ _=>some (x,px,y,py,a,b)
 | _,_=>none
theorem Cy{es:List Expr}{e a b:Expr}{x y:Str}{px py:Pos}(h:Cz es e=some (x,px,y,py,a,b)):es=[.Name x px,.Name y py]/\∃ k p,e = .Tuple [a,b] k p:=by
 unfold Cz at h;split at h
 ·cases h;exact⟨rfl,_,_,rfl⟩
 ·cases h
def FG(n:Nat)(T:Tc)(p:Pos)(es:List Expr)(e:Expr):Option TSd:=match Cz es e with
 | some (x,px,y,py,a,b)=>if CA T x y px py a b then (T.slot x).bind fun i=>(T.slot y).bind fun j=>(if T.own.contains p.line then (En (rA n T) T a).bind fun ta=>(rA n T b).map (nZ (T.frz p) i j ta) else (rA n T a).bind fun ta=>(rA n T b).map (i5 (T.frz p) i j ta)) else if zE T x y a b then (v0 T es).bind fun is=>(rA n T e).map (gB (T.frz p) (gTp is)) else none
 | none=>if Fj e || sI e then none else (v0 T es).bind fun is=>(rA n T e).map (gB (T.frz p) (gTp is))
def Jx(n:Nat)(T:Tc)(p:Pos)(e:Expr):Expr->Option TSd
 | .Name x _=>if AA (T.sc.names.lookup x)=true then (T.slot x).bind fun i=>JP n T p i e else none
 | .Subscript a k _=>(match a with
  | .Name x _=>if qN k && !sI e then (T.slot x).bind fun i=>(rA n T k).bind fun tk=>(rA n T e).map (ku (T.frz p) i tk) else none
  | _=>none)
 | .Tuple es _ _=>FG n T p es e
 | _=>none
def KK(n:Nat)(T:Tc)(p:Pos)(e:Expr):Option TSd:=match xm e with
 | some (x,m,_,as,_)=>if m = "append" then (match as with
   | [e]=>(if qN e then (T.slot x).bind fun i=>(rA n T e).map (oi (T.frz p) i) else none)
   | _=>none)
  else if m = "pop" then (match as with
   | []=>(T.slot x).map oD
   | _=>none)
  else none
 | none=>none
mutual
def JM:Nat->Tc->Stmt->Option TSd
 | 0,_,_=>none
 | n+1,T,st=>match st with
  | .Return o p=>(match o with
   | some e=>(rA n T e).map (gz (T.frz p))
   | none=>some nX)
  | .Pass _=>some gC
  | .Break _=>some oC
  | .Expr e p=>KK n T p e
  | .Assign tgs e p=>(match tgs with
   | [tg]=>Jx n T p e tg
   | _=>none)
  | .AugAssign tg op e p=>(match tg with
   | .Name x _=>if AA (T.sc.names.lookup x)=true then (T.slot x).bind fun i=>(rA n T e).map (nA (T.frz p) i op) else none
   | .Subscript a k _=>(match a with
    | .Name x _=>if qN k then (T.slot x).bind fun i=>(rA n T k).bind fun tk=>(rA n T e).map (kX (T.frz p) i tk op) else none
    | _=>none)
   | _=>none)
  | .If k a b p=>(xM n T k).bind fun tk=>(z7 n T a).bind fun ta=>(z7 n T b).map fun tb=>dIf (T.frz p) tk ta tb
  | .While k a r _=>(match r with
   | []=>(xM n T k).bind fun tk=>(z7 n T a).map (iz tk)
   | _=>none)
  | .For tg it a r p=>(match r with
   | []=>if qN it then (GN (rA n T) T tg it).bind fun ti=>(JN T tg).bind fun g=>(z7 n T a).map (iA (T.frz p) ti g) else none
   | _=>none)
  | _=>none
def z7:Nat->Tc->List Stmt->Option TSd
 | 0,_,_=>none
 | n+1,T,sts=>match sts with
  | []=>some gC
  | st::r=>(match r with
   | []=>JM n T st
   | _=>(JM n T st).bind fun t=>(z7 n T r).map (dSq t))
end
theorem Au(C:CtxOk T X){E:FE}(ih:wN X E){e:Expr}{t:TEd}(h:En E T e=some t):PE X e (LF X.K t)/\sI e=false:=by
 unfold En at h;split at h
 ·obtain⟨ta,h1,rfl⟩:=ab.mp h;exact⟨gE.okF (sL ih h1),rfl⟩
 ·obtain⟨ta,tb,h1,h2,rfl⟩:=uz h;exact⟨qj.okF (ih h1) (ih h2),rfl⟩
 ·rename_i x p1 a p2;by_cases ex:x = "list"
  ·rw [if_pos ex] at h;subst ex;obtain⟨hn,h4⟩:=af.mp h;obtain⟨n1,n2⟩:=au.mp hn;obtain⟨ta,h1,rfl⟩:=ab.mp h4;exact⟨jf.okF (C.isG n2).1 C.bl.list (ih h1) (qx n1 _ _),rfl⟩
  ·rw [if_neg ex] at h;cases h
 ·cases h
theorem tq{e:Expr}(h:sI e=false)(t:Expr)(l:Nat)(env:Env):swapsWithSole [t] e l env=pure false:=uF h (some t) l env
theorem BG{n:Nat}(C:CtxOk T X){e:Expr}{gs:List Comprehension}{sc:Scope}{p:Pos}{t:TEd}(h:rA n T (.ListComp e gs sc p)=some t):∃ tg it ifs ti g te tk,gs=[⟨tg,it,ifs,0⟩]/\qN it=true/\CompS X.N X.env.scope sc (sq T.N sc)/\PI X tg it (LI X.K ti)/\t=gL ti (sq T.N sc) g tk te/\(∀ i∈g.tg,i∈sq T.N sc)/\(∀ s2 H2 fp pins A,PG (tL X sc s2 H2 fp pins A) tg (LG X.K g))/\(∀ s2 H2 fp pins A,PTs (tL X sc s2 H2 fp pins A) ifs (LT X.K tk))/\∀ s2 H2 fp pins A,PE (tL X sc s2 H2 fp pins A) e (LE X.K te):=by
 cases n with
 | zero=>cases h
 | succ n =>
  have ih:=uP n;obtain⟨hs,h⟩:=af.mp (show (if BQ T.sc sc then (CY gs).bind fun (tg,it,ifs)=>AQ (GN (rA n T) T tg it) (rA n { T with sc:=sc }) (xM n { T with sc:=sc }) T e tg ifs sc else none)=some t from h);obtain⟨⟨tg,it,ifs⟩,h1,h2⟩:=ae.mp h;obtain⟨rfl,hn⟩:=AF h1;obtain⟨ti,g,te,tk,q1,q0,q2,q3,q4,q5⟩:=yt C h2 (fun _ _ _ _ _=>ih.e (C.inner ..)) (fun _ _ _ _ _=>ih.t (C.inner ..));exact⟨tg,it,ifs,ti,g,te,tk,rfl,hn,C.compS hs,za C (ih.e C) q1,q0,q2,q3,q4,q5⟩
theorem GE{n:Nat}(C:CtxS T X){i:Nat}{x:Str}{e:Expr}{t:TSd}{px p:Pos}(hl:AA (T.sc.names.lookup x)=true)(hs:T.slot x=some i)(h:JP n T p i e=some t):PS X (.Assign [.Name x px] e p) (LS X.K t):=by
 have ih:wN X (rA n T):=(uP n).e C.toCtxOk;have hf:X.fn x=true\/X.env.scope.names.lookup x=some .local:=.inl (C.fnT x);unfold JP at h;split at h
 ·rename_i y m ap as cp em;obtain⟨⟨p1,rfl⟩,hn⟩:=wu em;obtain⟨rfl,h3⟩:=af.mp h;match as,h3 with
  | [],h3 =>
   obtain⟨j,h1,rfl⟩:=ab.mp h3;exact nY.ok C.nd (C.slot hs) (C.L hl) hf (C.var h1) rfl hn rfl
  | _::_,h3=>cases h3
 ·by_cases ho:T.own.contains p.line=true
  ·rw [if_pos ho] at h;obtain⟨ta,h1,rfl⟩:=ab.mp h;obtain⟨q1,q2⟩:=Au C.toCtxOk ih h1;exact kW.ok C.nd (C.slot hs) (C.L hl) q1 (uF q2 _ _ _) hf
  ·rw [if_neg ho] at h;obtain⟨ta,h1,rfl⟩:=ab.mp h;have gen:sI e=false->PS X (.Assign [.Name x px] e p) (LS X.K (gB (T.frz p) (gNm i) ta)):=fun hc=>qg.ok C.nd (C.slot hs) (C.L hl) (ih h1) (uF hc _ _ _) hf;cases e;case ListComp e gs sc ep hmm =>
    obtain⟨tg,it,ifs,ti,g,te,tk,rfl,hn,q0,qi,rfl,q2,q3,q4,q5⟩:=BG C.toCtxOk h1;cases sw:J8 T x px ep sc with
    | false=>exact qg.ok C.nd (C.slot hs) (C.L hl) (ih h1) (by rw [BK C,sw]) hf
    | true=>exact qh.ok C.calm C.nd (C.slot hs) (C.L hl) q0 qi q3 q4 q5 (fun x=>uG hn _ x) q2 (by rw [BK C,sw]) hf
   case SetComp=>cases n <;> cases h1
   case DictComp=>cases n <;> cases h1
   all_goals exact gen rfl
theorem DH{n:Nat}(C:CtxS T X){es:List Expr}{e:Expr}{t:TSd}{p pt:Pos}{kt:Nat}(h:FG n T p es e=some t):PS X (.Assign [.Tuple es kt pt] e p) (LS X.K t):=by
 have ih:wN X (rA n T):=(uP n).e C.toCtxOk;unfold FG at h;split at h
 ·rename_i x px y py a b eo;obtain⟨rfl,k,p2,rfl⟩:=Cy eo;by_cases hp:CA T x y px py a b=true
  rotate_left
  ·rw [if_neg hp] at h;obtain⟨hc,h⟩:=af.mp h;obtain⟨is,h1,h⟩:=ae.mp h;obtain⟨ta,h2,rfl⟩:=ab.mp h;obtain⟨q1,q2,q3⟩:=ub C.toCtxOk h1;exact gB.ok (ih h2) (gTp.ok (vH C.calm q1 q2 q3)) (tq rfl _ _ _) (Bu C hc) rfl
  rw [if_pos hp] at h;obtain⟨i,h1,h⟩:=ae.mp h;obtain⟨j,h2,h⟩:=ae.mp h;have hp':=hp;unfold CA at hp';simp only [bh,da] at hp';obtain⟨⟨⟨⟨⟨⟨⟨w1,w2⟩,w3⟩,w4⟩,w5⟩,w6⟩,w7⟩,w8⟩:=hp';have ne:i≠j:=by
   rintro rfl;have a1:=C.slot h1;have a2:=C.slot h2;rw [a1] at a2;cases a2;rw [beq_self_eq_true] at w6;cases w6
  by_cases ow:T.own.contains p.line=true
  ·rw [if_pos ow] at h;obtain⟨ta,h3,h⟩:=ae.mp h;obtain⟨tb,h4,rfl⟩:=ab.mp h;exact (Ck (pos:=p) C.calm C.nd (C.slot h1) (C.slot h2) ne (C.loc _ (eq_of_beq w3)) (C.loc _ (eq_of_beq w4)) (qo (Au C.toCtxOk ih h3).1 (qo (ih h4) pa_nil (qx w2 _ _)) (qx w1 _ _)) (Cw C hp) rfl).weak fun D σ H q=>nZ.weak q
  ·rw [if_neg ow] at h;obtain⟨ta,h3,h⟩:=ae.mp h;obtain⟨tb,h4,rfl⟩:=ab.mp h;exact (Ck (pos:=p) C.calm C.nd (C.slot h1) (C.slot h2) ne (C.loc _ (eq_of_beq w3)) (C.loc _ (eq_of_beq w4)) (qo (ih h3) (qo (ih h4) pa_nil (qx w2 _ _)) (qx w1 _ _)) (Cw C hp) rfl).weak fun D σ H q=>i5.weak q
 ·skip
  obtain⟨hn,h⟩:=dY.mp h;obtain⟨is,h1,h⟩:=ae.mp h;obtain⟨ta,h2,rfl⟩:=ab.mp h;obtain⟨q1,q2,q3⟩:=ub C.toCtxOk h1;have hn2:Fj e=false/\sI e=false:=by simpa using hn
  refine gB.ok (ih h2) (gTp.ok (vH C.calm q1 q2 q3)) (tq hn2.2 _ _ _) ?_ rfl;have:=hn2.1;cases e <;> first|rfl|cases this
theorem EQ{n:Nat}(C:CtxS T X){tg e:Expr}{t:TSd}{p:Pos}(h:Jx n T p e tg=some t):PS X (.Assign [tg] e p) (LS X.K t):=by
 have ih:wN X (rA n T):=(uP n).e C.toCtxOk;cases tg <;> first|(cases h;done)|skip
 case Name x px =>
  obtain⟨hl,h⟩:=af.mp (show (if AA (T.sc.names.lookup x)=true then (T.slot x).bind fun i=>JP n T p i e else none)=some t from h);obtain⟨i,h1,h⟩:=ae.mp h;exact GE C hl h1 h
 case Subscript a k sp =>
  cases a <;> first|(cases h;done)|skip
  rename_i x q;obtain⟨hn,h⟩:=af.mp (show (if qN k && !sI e then (T.slot x).bind fun i=>(rA n T k).bind fun tk=>(rA n T e).map (ku (T.frz p) i tk) else none)=some t from h);obtain⟨n1,n2⟩:=au.mp hn;obtain⟨i,h1,h⟩:=ae.mp h;obtain⟨tk,h2,h⟩:=ae.mp h;obtain⟨ta,h3,rfl⟩:=ab.mp h;have hc:sI e=false:=by simpa using n2
  refine ku.ok (C.var h1) (ih h2) (ih h3) (tq hc _ _ _) ?_ rfl (t5 (C.var h1) (ih h2) rB ?_)
  ·cases e <;> rfl
  ·intro v;cases k <;> first|rfl|cases n1
 case Tuple es k pt=>exact DH C h
theorem Ha{n:Nat}(C:CtxS T X){e:Expr}{t:TSd}{p:Pos}(h:KK n T p e=some t):PS X (.Expr e p) (LS X.K t):=by
 have ih:wN X (rA n T):=(uP n).e C.toCtxOk;unfold KK at h;split at h
 ·rename_i x m ap as cp em;obtain⟨⟨p1,rfl⟩,hl⟩:=wu em;by_cases e1:m = "append"
  ·subst e1;rw [if_pos rfl] at h;match as,h with
   | [e],h =>
    obtain⟨hn,h⟩:=af.mp h;obtain⟨i,h1,h⟩:=ae.mp h;obtain⟨ta,h2,rfl⟩:=ab.mp h;exact oi.ok (C.var h1) rfl (ih h2) (qx hn _ _) hl rfl
   | [],h=>cases h
   | _::_::_,h=>cases h
  ·rw [if_neg e1] at h;by_cases e2:m = "pop"
   ·subst e2;rw [if_pos rfl] at h;match as,h with
    | [],h =>
     obtain⟨i,h1,rfl⟩:=ab.mp h;exact oD.ok (C.var h1) rfl hl rfl
    | _::_,h=>cases h
   ·rw [if_neg e2] at h;cases h
 ·cases h
theorem yJ:∀ n,(∀{T:Tc} {X:Cx} {st:Stmt} {t:TSd},CtxS T X->JM n T st=some t->PS X st (LS X.K t))/\(∀{T:Tc} {X:Cx} {sts:List Stmt} {t:TSd},CtxS T X->z7 n T sts=some t->PSs X sts (LS X.K t))
 | 0=>⟨fun _ h=>(by cases h),fun _ h=>(by cases h)⟩
 | n+1=>by
  have ihS:=yJ n;constructor
  ·intro T X st t C h;have C':=C.toCtxOk;have ih:wN X (rA n T):=(uP n).e C';have it:JT X (xM n T):=(uP n).t C';have hp:PassesOwn (model X.prog X.w) X.A X.env X.xe:=by
    rw [C.xe];exact PassesOwn.never
   cases st <;> first|(cases h;done)|skip
   case Return o p =>
    cases o with
    | none =>
     cases h;exact nX.ok
    | some e =>
     obtain⟨ta,h1,rfl⟩:=ab.mp (show (rA n T e).map (gz (T.frz p))=some t from h);exact gz.ok (ih h1)
   case Pass=>cases h;exact gC.pass
   case Break=>cases h;exact oC.ok
   case Expr=>exact Ha C h
   case Assign tgs e p =>
    match tgs,h with
    | [tg],h=>exact EQ C h
    | [],h=>cases h
    | _::_::_,h=>cases h
   case AugAssign tg op e p =>
    cases tg <;> first|(cases h;done)|skip
    case Name x px =>
     obtain⟨hl,h⟩:=af.mp (show (if AA (T.sc.names.lookup x)=true then (T.slot x).bind fun i=>(rA n T e).map (nA (T.frz p) i op) else none)=some t from h);obtain⟨i,h1,h⟩:=ae.mp h;obtain⟨ta,h2,rfl⟩:=ab.mp h;exact nA.ok C.room C.nd (C'.slot h1) (C.L hl) (ih h2) (.inl (C.fnT _))
    case Subscript a k sp =>
     cases a <;> first|(cases h;done)|skip
     rename_i x q;obtain⟨hn,h⟩:=af.mp (show (if qN k then (T.slot x).bind fun i=>(rA n T k).bind fun tk=>(rA n T e).map (kX (T.frz p) i tk op) else none)=some t from h);obtain⟨i,h1,h⟩:=ae.mp h;obtain⟨tk,h2,h⟩:=ae.mp h;obtain⟨ta,h3,rfl⟩:=ab.mp h;refine kX.ok C.room (C.var h1) (ih h2) (ih h3) ?_;cases k <;> first|(intros;rfl)|cases hn
   case If k a b p =>
    obtain⟨tk,h0,h⟩:=ae.mp (show (xM n T k).bind (fun tk=>(z7 n T a).bind fun ta=>(z7 n T b).map fun tb=>dIf (T.frz p) tk ta tb)=some t from h);obtain⟨ta,h1,h⟩:=ae.mp h;obtain⟨tb,h2,rfl⟩:=ab.mp h;exact dIf.ok (it h0) (ihS.2 C h1) (ihS.2 C h2)
   case While k a r p =>
    cases r with
    | cons=>cases h
    | nil =>
     obtain⟨tk,h0,h⟩:=ae.mp (show (xM n T k).bind (fun tk=>(z7 n T a).map (iz tk))=some t from h);obtain⟨ta,h1,rfl⟩:=ab.mp h;exact iz.ok hp (it h0) (ihS.2 C h1)
   case For tg i a r p =>
    cases r with
    | cons=>cases h
    | nil =>
     obtain⟨hn,h⟩:=af.mp (show (if qN i then (GN (rA n T) T tg i).bind fun ti=>(JN T tg).bind fun g=>(z7 n T a).map (iA (T.frz p) ti g) else none)=some t from h);obtain⟨ti,h0,h⟩:=ae.mp h;obtain⟨g,h1,h⟩:=ae.mp h;obtain⟨tb,h2,rfl⟩:=ab.mp h;exact iA.ok hp C.calm (za C' ih h0) (yL C' h1) (ihS.2 C h2) fun x=>uG hn _ x
  ·intro T X sts t C h;match sts,h with
   | [],h =>
    cases h;exact gC.nil
   | [st],h=>exact dSq.one (ihS.1 C h)
   | st::s2::r,h =>
    obtain⟨ta,h1,h⟩:=ae.mp (show (JM n T st).bind (fun t=>(z7 n T (s2::r)).map (dSq t))=some t from h);obtain⟨tb,h2,rfl⟩:=ab.mp h;exact dSq.ok (ihS.1 C h1) (ihS.2 C h2)
theorem He{P:Program}{w:World}{mg:Str->Option Value}{base:Heap}{qual:Str}{st:Stmt}{f:Addr}{N ps:List Str}{k:Nat}{G:List (Str×Nat×SpB)}{gc:List (Str×D)}{fz:List (Nat×List Nat)}{own mu:List Nat}{cdv:Value}{A:Around}{outer:List Env}{s0:Shared}{H:Hp}{E:XK}(B:Bl mg)(S:FnScope N ps (qk st))
  (hG:∀ x j s,(x,j,s)∈G->∃ ps,Def P w K mg base x j ps (yA K s.n s.run)) (hgc:∀ x d,(x,d)∈gc->∃ v u,mg x=some u/\RelV v u/\∀ f O H,Rp K f O H d v) (hr:Room k (A.deeper (PyProof.Rows.envOfC qual (qk st) s0.heap.objs.size f cdv))) :
  CtxS ⟨N,qk st,G,gc,k,fz,own,mu⟩ (zr yD P w K mg base N qual (qk st) f cdv A outer s0 H E).nox:=by
 refine⟨⟨rfl,S.nd,rfl,hr,fun x h=>?_,fun x h=>h,fun x h=>h,fun x h=>h,hG,hgc,B,fun x h=>⟨h,rfl⟩⟩,rfl,?_,rfl,fun _=>rfl⟩
 ·have h:IZ ((qk st).names.lookup x)=true:=h;unfold FB;show (qk st).names.lookup x=_\/(qk st).names.lookup x=_\/(qk st).names.lookup x=_;cases q:(qk st).names.lookup x with
  | none=>rw [q] at h;cases h
  | some k=>rw [q] at h;cases k <;> first|exact .inl rfl|exact .inr (.inl rfl)|exact .inr (.inr rfl)|cases h
 ·show (if (qk st).kind.isAnnotationScope then ScopeKind.function else (qk st).kind) = .function;rw [S.kind];rfl
theorem GC{P:Program}{w:World}{mg:Str->Option Value}{base:Heap}{x qual:Str}{st:Stmt}{f:Addr}{fd:FuncData}{N ps:List Str}{n k:Nat}{t:TSd}{s:SpB}{G:List (Str×Nat×SpB)}{gc:List (Str×D)}{fz:List (Nat×List Nat)}{own mu:List Nat}(F:Fun K x qual st f fd)(B:Bl mg)(S:FnScope N ps (qk st))(hn:s.n=ps.length)
  (hG:∀ x j s,(x,j,s)∈G->∃ ps,Def P w K mg base x j ps (yA K s.n s.run)) (hgc:∀ x d,(x,d)∈gc->∃ v u,mg x=some u/\RelV v u/\∀ f O H,Rp K f O H d v)
  (ht:z7 n ⟨N,qk st,G,gc,k,fz,own,mu⟩ (rm st)=some t) (h:Does N.length t s):FnOk P w K mg base yD (k+1) f fd ps (yA K s.n s.run) :=
 F.ok S (fun vs H Q E q=>q.1.trans hn) (fun cdv A outer s0 H vs Q E hr q=>⟨LS K t,(yJ n).2 (He B S hG hgc hr) ht,h.ok q⟩)
end
section
open PySem L2 Dp
variable{P:Program}{w:World}{K:Frag}{mg:Str->Option Value}{base:Heap}
theorem GB{st:Stmt}{f0:Addr}{fd:FuncData}{N:List Str}{n k:Nat}{t:TSd}{rest:List Stmt}{p1 p2 p3 p4 p5:Pos}{G:List (Str×Nat×SpB)}{gc:List (Str×D)}{fz:List (Nat×List Nat)}{own mu:List Nat}(F:Fun K "law" "law" st f0 fd)(B:Bl mg)(S:FnScope ("_law_script" :: "_law_flow_here" :: N) ["_law_script"] (qk st))
  (g:Def P w K mg base "_law_flow" 1 ["_law_script"] (vt K)) (hG:∀ x j s,(x,j,s)∈G->∃ ps,Def P w K mg base x j ps (yA K s.n s.run)) (hgc:∀ x d,(x,d)∈gc->∃ v u,mg x=some u/\RelV v u/\∀ f O H,Rp K f O H d v)
  (hb:rm st = .Assign [.Name "_law_flow_here" p1] (.Call (.Name "_law_flow" p2) [.Name "_law_script" p3] [] p4) p5::rest) (hk:1<=k) (hv:(qk st).names.lookup ("_law_script" : Str)=some .local\/(qk st).names.lookup ("_law_script" : Str)=some .cell) (hl:(qk st).names.lookup ("_law_flow_here" : Str)=some .local\/(qk st).names.lookup ("_law_flow_here" : Str)=some .cell) (hg:(qk st).names.lookup ("_law_flow" : Str)=some .globalImplicit)
  (ht:z7 n ⟨"_law_script" :: "_law_flow_here" :: N,qk st,G,gc,k,fz,own,mu⟩ rest=some t) (h:t.run ⟨fun _=>False,fun d=>d = .bl true,fun _=>False,fun _=>False⟩ (.no :: .val .fl::List.replicate N.length .no)) :
  FnOk P w K mg base yD (k+1) f0 fd ["_law_script"] (Ab K):=by
 refine F.ok S (fun vs H Q E h=>?_) (fun cdv A outer s H vs Q E hr q=>?_)
 ·obtain⟨a,ns,rfl,_⟩:=h;rfl
 obtain⟨a,ns,rfl,hS,h63,q⟩:=q;refine⟨HK (FN (Aa (vt K) [] E0 (we (uc 0) DJ)) (wB 1)) (LS K t),?_,?_⟩
 ·rw [hb];refine rD (uD S.nd rfl hl (yU g hr (qo (yR rfl ?_ rfl rfl) pa_nil rfl) hk hg rfl rfl rfl) rfl (.inl rfl)) ?_
  ·rcases hv with z|z
   ·exact .inl z
   ·exact .inr (.inl z)
  refine (yJ n).2 (T:=⟨"_law_script" :: "_law_flow_here" :: N,qk st,G,gc,k,fz,own,mu⟩) ⟨⟨rfl,S.nd,rfl,hr,fun x h=>?_,fun x h=>h,fun x h=>h,fun x h=>h,hG,hgc,B,fun x h=>⟨h,rfl⟩⟩,rfl,?_,rfl,fun _=>rfl⟩ ht
  ·have h:IZ ((qk st).names.lookup x)=true:=h;unfold FB;show (qk st).names.lookup x=_\/(qk st).names.lookup x=_\/(qk st).names.lookup x=_;cases q:(qk st).names.lookup x with
   | none=>rw [q] at h;cases h
   | some k=>rw [q] at h;cases k <;> first|exact .inl rfl|exact .inr (.inl rfl)|exact .inr (.inr rfl)|cases h
  ·show (if (qk st).kind.isAnnotationScope then ScopeKind.function else (qk st).kind) = .function;rw [S.kind];rfl
 ·refine⟨_,rfl,a,ns,rfl,hS,h63,fun f H1 e1 fl hf=>?_⟩;have ef:(L2.start ("_law_script" :: "_law_flow_here" :: N) [V.ref a]).set 1 (some (V.ref f))=some (.ref a)::some (.ref f)::List.replicate N.length none:=rfl;show LS K t _ ((L2.start ("_law_script" :: "_law_flow_here" :: N) [V.ref a]).set 1 (some (V.ref f))) H1;rw [ef];have gt:∀{i:Nat} {x:SD},(SD.no::SD.val .fl::List.replicate N.length SD.no)[i]? = some x->x = .no\/(i=1/\x = .val .fl):=fun {i x} h=>by
   match i,h with
   | 0,h=>cases h;exact .inl rfl
   | 1,h=>cases h;exact .inr ⟨rfl,rfl⟩
   | i+2,h=>exact .inl (eG (aO (show (List.replicate N.length SD.no)[i]? = some x from h)))
  refine⟨⟨f,[f],H1,[f]⟩,[f],SD.no::SD.val .fl::List.replicate N.length SD.no,⟨⟨fl,aG.mpr rfl,fun b hb=>?_,fun l r e z=>?_,by simp,fun i d hd=>?_,fun i l hd=>?_⟩,fun _ h=>h,⟨fun _ _ h _ _=>h,fun l r h=>⟨r,h⟩⟩,fun b h=>.inl h,fun i l b hd=>?_⟩,?_⟩
  ·rw [aG.mp hb];exact fl.lst
  ·have z:=aG.mp z;subst z;obtain⟨l0,ns0,i,c,a0,b,h1,h2,_⟩:=fl;rw [h1] at e;cases e;rw [h1] at h2;cases ns0 <;> cases h2
  ·rcases gt hd with e|⟨rfl,e⟩
   ·cases e
   ·cases e;exact⟨_,rfl,rfl⟩
  ·rcases gt hd with e|⟨_,e⟩ <;> cases e
  ·rcases gt hd with e|⟨_,e⟩ <;> cases e
  ·refine t.mono ?_ h;refine⟨fun s z=>z.elim,fun d z v H' R=>?_,fun s z=>z.elim,fun s z=>z.elim⟩;subst z;cases (show v=_ from R.rp);exact q H'
end
section
open PySem L2 Dp
variable{P:Program}{w:World}{K:Frag}{mg:Str->Option Value}{base:Heap}
theorem LH:∀(x:Str) (j:Nat) (s:SpB),(x,j,s)∈([]:List (Str×Nat×SpB))->∃ ps,Def P w K mg base x j ps (yA K s.n s.run):=fun _ _ _ h=>absurd h aU
theorem rG{y:Str}{i:Nat}{r:SpB}{ps:List Str}{G:List (Str×Nat×SpB)}(g:Def P w K mg base y i ps (yA K r.n r.run))(h:∀(x:Str) (j:Nat) (s:SpB),(x,j,s)∈G->∃ ps,Def P w K mg base x j ps (yA K s.n s.run)):∀(x:Str) (j:Nat) (s:SpB),(x,j,s)∈(y,i,r)::G->∃ ps,Def P w K mg base x j ps (yA K s.n s.run):=fun x j s e=>by
 rcases ak.mp e with e|e
 ·cases e;exact⟨ps,g⟩
 ·exact h x j s e
theorem rK:∀(x:Str) (d:D),(x,d)∈([]:List (Str×D))->∃ v u,mg x=some u/\RelV v u/\∀ f O H,Rp K f O H d v:=fun _ _ h=>absurd h aU
end
section
open PySem L2 Dp
variable{P:Program}{w:World}{K:Frag}{mg:Str->Option Value}{base:Heap}
structure Sl (K:Frag)(f:Addr)(x:Str)(st:Stmt):Prop where
 a:PySem.W.nsIn K mainGlobals x=some (some (.ref f))
 ex:∃ fd,Fun K x x st f fd
theorem sl{f:Addr}{x:Str}{st:Stmt}{oc:Value}{od an:Option Addr}{osl:Array (Option Value)}{kV doc pm cdv ct:Value}(a:PySem.W.nsIn K mainGlobals x=some (some (.ref f)))(l:K.lookup f=some ⟨oc,od,.func (PySem.W.fnOf x x (tI st) (rm st) (qk st) .none kV doc pm an cdv ct),osl⟩)(c:PySem.W.codeIn K cdv x=true)(k:PySem.W.keepIn K (.ref f)=true):Sl K f x st:=⟨a,_,GY l c k⟩
abbrev Mg(K:Frag)(mg:Str->Option Value):Prop:=∀(x:Str) (f:Addr),PySem.W.nsIn K mainGlobals x=some (some (.ref f))->mg x=some (.ref f)
def K3(N ps:List Str)(sc:Scope):Bool:=decide (N.Nodup) && decide (N.take ps.length=ps) && (ps.all fun x=>decide (sc.names.lookup x=some .local) || decide (sc.names.lookup x=some .cell)) && sc.names.all fun y=>decide (y.2 ≠ .free)
theorem sc{N ps:List Str}{sc:Scope}(h:K3 N ps sc=true)(h1:sc.kind = .function)(h2:sc.isCoroutine=false)(h3:sc.isGenerator=false):FnScope N ps sc:=by
 unfold K3 at h;obtain⟨h,d⟩:=au.mp h;obtain⟨h,c⟩:=au.mp h;obtain⟨a,b⟩:=au.mp h;refine⟨h1,h2,h3,of_decide_eq_true a,of_decide_eq_true b,fun x hx=>?_,fun y hy=>of_decide_eq_true (cm.mp d y hy)⟩;rcases ff.mp (cm.mp c x hx) with z|z
 ·exact .inl (of_decide_eq_true z)
 ·exact .inr (of_decide_eq_true z)
abbrev o0:List (Nat×List Nat)×List Nat×List Nat:=([],[],[])
abbrev BA(x:Str)(st:Stmt)(kV doc pm:Value)(an:Option Addr)(cdv ct:Value)(us:List Value):=bindArgs (PySem.W.fnOf x x (tI st) (rm st) (qk st) .none kV doc pm an cdv ct) ⟨us,[]⟩
theorem rN{x:Str}{st:Stmt}{f:Addr}{N ps:List Str}(k:Nat)(H:List (Nat×List Nat)×List Nat×List Nat){t:TSd}{s:SpB}{G:List (Str×Nat×SpB)}{gc:List (Str×D)}(S:Sl K f x st)(W:Mg K mg)(B:Bl mg)(C:FnScope N ps (qk st))(hn:s.n=ps.length)
  (hG:∀ x j s,(x,j,s)∈G->∃ ps,Def P w K mg base x j ps (yA K s.n s.run)) (hgc:∀ x d,(x,d)∈gc->∃ v u,mg x=some u/\RelV v u/\∀ f O H,Rp K f O H d v)
  (hb:∀(kV doc pm:Value) (an:Option Addr) (cdv ct:Value) (us:List Value),us.length=ps.length->BA x st kV doc pm an cdv ct us=pure (ps.zip us))
  (ht:z7 40 ⟨N,qk st,G,gc,k,H.1,H.2.1,H.2.2⟩ (rm st)=some t) (h:Does N.length t s):Def P w K mg base x (k+1) ps (yA K s.n s.run):=by
 obtain⟨a,fd,F⟩:=S;exact .of F (W _ _ a) (F.binds hb) (GC (n:=40) (fz:=H.1) (own:=H.2.1) (mu:=H.2.2) F B C hn hG hgc ht h)
theorem u0{us:List Value}{n:Nat}(h:us.length=n+1):∃ a r,us=a::r/\r.length=n:=by
 cases us with
 | nil=>exact absurd h (Nat.succ_ne_zero n).symm
 | cons a r=>exact⟨a,r,rfl,Nat.succ.inj h⟩
theorem u1{us:List Value}(h:us.length=1):∃ a,us=[a]:=by
 obtain⟨a,r,rfl,h1⟩:=u0 (n:=0) h;exact⟨a,by rw [bw.mp h1]⟩
theorem u2{us:List Value}(h:us.length=2):∃ a b,us=[a,b]:=by
 obtain⟨a,r,rfl,h1⟩:=u0 (n:=1) h;obtain⟨b,rfl⟩:=u1 h1;exact⟨a,b,rfl⟩
theorem u3{us:List Value}(h:us.length=3):∃ a b c,us=[a,b,c]:=by
 obtain⟨a,r,rfl,h1⟩:=u0 (n:=2) h;obtain⟨b,c,rfl⟩:=u2 h1;exact⟨a,b,c,rfl⟩
theorem b1{x:Str}{st:Stmt}{p:Str}(h:∀(kV doc pm:Value) (an:Option Addr) (cdv ct u:Value),BA x st kV doc pm an cdv ct [u]=pure [(p,u)]):∀(kV doc pm:Value) (an:Option Addr) (cdv ct:Value) (us:List Value),us.length=[p].length->BA x st kV doc pm an cdv ct us=pure ([p].zip us):=fun _ _ _ _ _ _ us hl=>by
 obtain⟨_,rfl⟩:=u1 hl;exact h ..
theorem b2{x:Str}{st:Stmt}{p q:Str}(h:∀(kV doc pm:Value) (an:Option Addr) (cdv ct u v:Value),BA x st kV doc pm an cdv ct [u,v]=pure [(p,u),(q,v)]):∀(kV doc pm:Value) (an:Option Addr) (cdv ct:Value) (us:List Value),us.length=[p,q].length->BA x st kV doc pm an cdv ct us=pure ([p,q].zip us):=fun _ _ _ _ _ _ us hl=>by
 obtain⟨_,_,rfl⟩:=u2 hl;exact h ..
theorem b3{x:Str}{st:Stmt}{p q r:Str}(h:∀(kV doc pm:Value) (an:Option Addr) (cdv ct u v z:Value),BA x st kV doc pm an cdv ct [u,v,z]=pure [(p,u),(q,v),(r,z)]):∀(kV doc pm:Value) (an:Option Addr) (cdv ct:Value) (us:List Value),us.length=[p,q,r].length->BA x st kV doc pm an cdv ct us=pure ([p,q,r].zip us):=fun _ _ _ _ _ _ us hl=>by
 obtain⟨_,_,_,rfl⟩:=u3 hl;exact h ..
theorem b4{x:Str}{st:Stmt}{p q r s:Str}(h:∀(kV doc pm:Value) (an:Option Addr) (cdv ct u v z y:Value),BA x st kV doc pm an cdv ct [u,v,z,y]=pure [(p,u),(q,v),(r,z),(s,y)]):∀(kV doc pm:Value) (an:Option Addr) (cdv ct:Value) (us:List Value),us.length=[p,q,r,s].length->BA x st kV doc pm an cdv ct us=pure ([p,q,r,s].zip us):=fun _ _ _ _ _ _ us hl=>by
 obtain⟨a,l,rfl,h1⟩:=u0 (n:=3) hl;obtain⟨_,_,_,rfl⟩:=u3 h1;exact h ..
end
end Ds
set_option maxHeartbeats 4000000
namespace My
open PySem L2
def top(i:Nat):Stmt:=PySem.Challenge.pw_nestwright_k39_papers_looked_at.main.body.getD i (.Pass ⟨0,0,0,0⟩)
abbrev tU:Stmt:=top 1
abbrev vA:Stmt:=top 2
abbrev vx:Stmt:=top 4
abbrev sf:Stmt:=top 5
abbrev BR:Stmt:=top 6
abbrev tT:Stmt:=top 7
abbrev xP:Stmt:=top 8
abbrev BT:Stmt:=top 9
abbrev sM:Stmt:=top 10
abbrev sd:Stmt:=top 11
abbrev BS:Stmt:=top 12
abbrev Ac:Stmt:=top 13
abbrev xN:Stmt:=top 14
abbrev Ad:Stmt:=top 15
abbrev vB:Stmt:=top 17
abbrev wn:Stmt:=top 19
abbrev td:Stmt:=top 20
abbrev uk:Stmt:=top 21
abbrev tQ:Stmt:=top 22
abbrev t4:Stmt:=top 24
abbrev tZ:Stmt:=top 25
abbrev rC:Stmt:=top 26
abbrev uj:Stmt:=top 27
abbrev sZ:Stmt:=top 28
abbrev uR:Stmt:=top 29
abbrev tS:Stmt:=top 30
abbrev vy:Stmt:=top 31
abbrev wl:Stmt:=top 32
abbrev uQ:Stmt:=top 33
abbrev xO:Stmt:=top 34
abbrev sY:Stmt:=top 35
abbrev uh:Stmt:=top 36
abbrev rW:Stmt:=top 37
abbrev s9:Stmt:=top 38
abbrev sP:Stmt:=top 39
abbrev rV:Stmt:=top 40
abbrev tR:Stmt:=top 41
abbrev sX:Stmt:=top 42
abbrev ui:Stmt:=top 43
abbrev uf:Stmt:=top 44
abbrev ug:Stmt:=top 45
abbrev sQ:Stmt:=top 46
abbrev rT:Stmt:=top 47
abbrev rS:Stmt:=top 48
abbrev qZ:Stmt:=top 49
abbrev vz:Stmt:=top 50
abbrev sx:Stmt:=top 51
abbrev sy:Stmt:=top 52
abbrev sg:Stmt:=top 53
abbrev sA:Stmt:=top 54
abbrev sh:Stmt:=top 55
abbrev sO:Stmt:=top 56
abbrev E1:Stmt:=top 57
section
variable{P:Program}{w:World}{K:Frag}{mg:Str->Option Value}{base:Heap}
def Flow(H:Hp)(f:Addr):Prop:=∃(l:Addr) (ns:List Int) (i c a b:Int),H f=some (.lst [.ref l,.int i,.int c,.int a,.int b])/\H l=some (.lst (ns.map V.int))/\ns.length<=63/\0<=i/\i<=(ns.length:Int)/\0<=c/\0<=a/\a<2147483647
theorem Jl{H:Hp}{f l:Addr}{ns:List Int}{x:Addr}{r:List V}(h1:H f=some (.lst (.ref x::r)))(h2:H l=some (.lst (ns.map V.int))):l≠f:=by
 refine IP h2 h1 fun z=>?_;injection z with z;cases ns with
 | nil=>cases z
 | cons n ns=>rw [bQ] at z;injection z with z1;cases z1
theorem uJ{H:Hp}{f l:Addr}{ns:List Int}{i c a b i' c' a' b':Int}(h1:H f=some (.lst [.ref l,.int i,.int c,.int a,.int b]))(h2:H l=some (.lst (ns.map V.int))) :
  qR H f (.lst [.ref l,.int i',.int c',.int a',.int b']) f=some (.lst [.ref l,.int i',.int c',.int a',.int b'])/\qR H f (.lst [.ref l,.int i',.int c',.int a',.int b']) l=some (.lst (ns.map V.int))/\Sm f H (qR H f (.lst [.ref l,.int i',.int c',.int a',.int b'])):=by
 refine⟨qw,?_,fun b o n e=>?_,fun x r e=>?_⟩
 ·rw [qu (Jl h1 h2)];exact h2
 ·rw [qu n];exact e
 ·rw [h1] at e;injection e with e;injection e with e;injection e with e _;rw [← e];exact⟨_,qw⟩
theorem EN{ns:List Int}{i:Int}(h0:0<=i)(h:i<(ns.length:Int)):∃ z,vg (ns.map V.int) i=some (V.int z):=by
 obtain⟨k,rfl⟩:=dq h0;exact⟨ns[k]'(by omega),vf (by rw [aw,ac (by omega)];rfl)⟩
def vt(K:Frag):Sp:=fun vs H Q _=>∃(a:Addr) (ns:List Int),vs=[.ref a]/\SqL K H a (ns.map V.int)/\ns.length<=63/\∀ f H',Same H H'->Flow H' f->H f=none->Q (.ref f) H'
def wX:Sp:=fun vs H Q _=>∃(f:Addr) (m:Int),vs=[.ref f,.int m]/\Flow H f/\0<m/\Lt2 9000 m/\∀ d H',0<=d->d<m->Flow H' f->Sm f H H'->Q (.int d) H'
theorem n9:FnScope ["_law_script"] ["_law_script"] (qk t4):=⟨rfl,rfl,rfl,by decide +kernel,rfl,by decide +kernel,by decide +kernel⟩
theorem Ej{f:Addr}{fd:FuncData}(F:Fun K "_law_flow" "_law_flow" t4 f fd)(B:Bl mg):FnOk P w K mg base yD 1 f fd ["_law_script"] (vt K):=by
 refine F.ok n9 (fun vs H Q E h=>?_) (fun cdv A outer s H vs Q E hr h=>?_)
 ·obtain⟨a,ns,rfl,_⟩:=h;rfl
 obtain⟨a,ns,rfl,hS,h63,q⟩:=h;have nd:=n9.nd;refine⟨_,(re (@tf _ _ _ _ (@yT _ _ _ _ (@qo _ _ _ _ _ (@uE _ _ _ _ _ _ _ _ _ (y9 K) rfl B.list sK (@qo _ _ _ _ _ (pv 0) pa_nil (by rfl)) (by decide) (by decide) (by rfl) (by rfl)) (@qo _ _ _ _ _ qq (@qo _ _ _ _ _ qq (@qo _ _ _ _ _ qq (@qo _ _ _ _ _ qq pa_nil (by rfl)) (by rfl)) (by rfl)) (by rfl)) (by rfl))))),?_⟩;refine⟨_,rfl,a,_,rfl,.inl hS,fun l hl=>⟨(by show 5<=sizeLine;decide),fun p hp=>?_⟩⟩;have hpl:l≠p:=qB qw hp;refine q p _ ((Same.new hl _).trans (Same.new hp _)) ⟨l,ns,0,0,1,0,qw,?_,h63,by decide,by omega,by decide,by decide,by decide⟩ ?_
 ·rw [qu hpl];exact qw
 ·rw [qu (Ne.symm hpl)] at hp;exact hp
theorem oa:FnScope ["_law_flow_here", "_law_many", "_law_cell", "_law_digit"] ["_law_flow_here", "_law_many"] (qk tZ):=⟨rfl,rfl,rfl,by decide +kernel,rfl,by decide +kernel,by decide +kernel⟩
theorem Ei{f0:Addr}{fd:FuncData}(F:Fun K "_law_pick" "_law_pick" tZ f0 fd)(B:Bl mg):FnOk P w K mg base yD 1 f0 fd ["_law_flow_here", "_law_many"] wX:=by
 refine F.ok oa (fun vs H Q E h=>?_) (fun cdv A outer s H vs Q E hr h=>?_)
 ·obtain⟨a,ns,rfl,_⟩:=h;rfl
 obtain⟨f,m,rfl,hF,hm0,hm1,q⟩:=h;have nd:=oa.nd;refine⟨_,(ul (@vE _ _ _ _ _ _ _ _ (PW.pt (Cf (@sE _ _ _ _ _ _ _ _ xX (@q8 _ _ _ _ _ _ _ (yB K) (pv 0) qq (fun _ _=>rfl)) qq (sG _)) (Ah (@sE _ _ _ _ _ _ _ _ Fb (@q8 _ _ _ _ _ _ _ (yB K) (pv 0) qq (fun _ _=>rfl)) (@qG _ _ _ _ _ _ _ _ _ (Bg K) rfl B.len uM (@qo _ _ _ _ _ (@q8 _ _ _ _ _ _ _ (yB K) (pv 0) qq (fun _ _=>rfl)) pa_nil (by rfl)) (by decide) (by decide) (by rfl) (by rfl)) (sG _))))) (rD (@uD _ _ 2 _ _ _ _ nd rfl (by first|exact Or.inl rfl|exact Or.inr rfl) (@q8 _ _ _ _ _ _ _ (yB K) (@q8 _ _ _ _ _ _ _ (yB K) (pv 0) qq (fun _ _=>rfl)) (@q8 _ _ _ _ _ _ _ (yB K) (pv 0) qq (fun _ _=>rfl)) (fun _ _=>rfl)) (by rfl) (by first|exact .inl rfl|exact .inr rfl|assumption))
  (rD (@tj _ _ _ _ _ _ (@qQ _ _ _ _ _ _ _ _ sF (@q8 _ _ _ _ _ _ _ (yB K) (pv 0) qq (fun _ _=>rfl)) qq) (@t5 _ _ _ _ _ _ _ (pv 0) qq rB (fun _=>rfl)) (by rfl) (by rfl) (by rfl))
  (re (@vE _ _ _ _ _ _ _ _ (@sE _ _ _ _ _ _ _ _ Fd (pv 2) (@qQ _ _ _ _ _ _ _ _ CH qq qq) (sG _)) (re (@tj _ _ _ _ _ _ (pv 2) (@t5 _ _ _ _ _ _ _ (pv 0) qq rB (fun _=>rfl)) (by rfl) (by rfl) (by rfl))) (re (@tj _ _ _ _ _ _ (@qQ _ _ _ _ _ _ _ _ t6 (@qQ _ _ _ _ _ _ _ _ sF (@qQ _ _ _ _ _ _ _ _ sF (@qQ _ _ _ _ _ _ _ _ yW (@q8 _ _ _ _ _ _ _ (yB K) (pv 0) qq (fun _ _=>rfl)) qq) (@qQ _ _ _ _ _ _ _ _ t6 (pv 2) qq)) qq) qq) (@t5 _ _ _ _ _ _ _ (pv 0) qq rB (fun _=>rfl)) (by rfl) (by rfl) (by rfl))))))) pss_nil)
  (ul (@vE _ _ _ _ _ _ _ _ (@sE _ _ _ _ _ _ _ _ Fc (@q8 _ _ _ _ _ _ _ (yB K) (pv 0) qq (fun _ _=>rfl)) qq (sG _)) (rD (@uD _ _ 3 _ _ _ _ nd rfl (by first|exact Or.inl rfl|exact Or.inr rfl) (@qQ _ _ _ _ _ _ _ _ t6 (@q8 _ _ _ _ _ _ _ (yB K) (pv 0) qq (fun _ _=>rfl)) (pv 1)) (by rfl) (by first|exact .inl rfl|exact .inr rfl|assumption))
  (rD (@tj _ _ _ _ _ _ (@qQ _ _ _ _ _ _ _ _ (@xW _ _ hr) (@q8 _ _ _ _ _ _ _ (yB K) (pv 0) qq (fun _ _=>rfl)) (pv 1)) (@t5 _ _ _ _ _ _ _ (pv 0) qq rB (fun _=>rfl)) (by rfl) (by rfl) (by rfl))
  (re (@tf _ _ _ _ (pv 3))))) pss_nil)
  (rD (@tj _ _ _ _ _ _ (@qQ _ _ _ _ _ _ _ _ sF (@q8 _ _ _ _ _ _ _ (yB K) (pv 0) qq (fun _ _=>rfl)) qq) (@t5 _ _ _ _ _ _ _ (pv 0) qq rB (fun _=>rfl)) (by rfl) (by rfl) (by rfl))
  (rD (@tj _ _ _ _ _ _ (@qQ _ _ _ _ _ _ _ _ t6 (@qQ _ _ _ _ _ _ _ _ sF (@qQ _ _ _ _ _ _ _ _ sF (@qQ _ _ _ _ _ _ _ _ yW (@q8 _ _ _ _ _ _ _ (yB K) (pv 0) qq (fun _ _=>rfl)) qq) qq) (@q8 _ _ _ _ _ _ _ (yB K) (pv 0) qq (fun _ _=>rfl))) qq) (@t5 _ _ _ _ _ _ _ (pv 0) qq rB (fun _=>rfl)) (by rfl) (by rfl) (by rfl))
  (re (@tf _ _ _ _ (@qQ _ _ _ _ _ _ _ _ t6 (@qQ _ _ _ _ _ _ _ _ As (@qQ _ _ _ _ _ _ _ _ t6 (@qQ _ _ _ _ _ _ _ _ yW (@qQ _ _ _ _ _ _ _ _ sF (@qQ _ _ _ _ _ _ _ _ t6 (@q8 _ _ _ _ _ _ _ (yB K) (pv 0) qq (fun _ _=>rfl)) qq) qq) (@qQ _ _ _ _ _ _ _ _ sF (@qQ _ _ _ _ _ _ _ _ As (@q8 _ _ _ _ _ _ _ (yB K) (pv 0) qq (fun _ _=>rfl)) qq) qq)) qq) qq) (pv 1)))))))),?_⟩
 obtain⟨l,ns,i,c,a,b,h1,h2,h63,i0,i1,c0,a0,a1⟩:=hF;have hf:=SqL.of (K:=K) h1;refine⟨fun σ' H'=>(∃ o1 o2,σ'=[some (.ref f),some (.int m),o1,o2])/\Flow H' f/\Sm f H H',?_,?_⟩
 ·refine⟨_,rfl,f,_,2,_,rfl,rfl,hf,rfl,rfl,_,rfl,?_⟩;refine Ey (fun cz=>?_) (fun cz=>?_)
  ·refine⟨_,rfl,f,_,1,_,rfl,rfl,hf,rfl,_,rfl,f,_,0,_,rfl,rfl,hf,rfl,l,_,rfl,.inl (SqL.of h2),_,_,rfl,rfl,_,rfl,?_⟩;refine Ey (fun cl=>?_) (fun cl=>?_)
   ·have cl':i<(((ns.map V.int).length:Nat):Int):=of_decide_eq_true cl;rw [aa] at cl';obtain⟨z,hz⟩:=EN i0 cl';obtain⟨g1,g2,g3⟩:=uJ (i':=i+1) (c':=c) (a':=a) (b':=b) h1 h2;have gf:=SqL.of (K:=K) g1;refine⟨_,rfl,f,_,0,_,rfl,rfl,hf,rfl,_,rfl,f,_,1,_,rfl,rfl,hf,rfl,l,_,i,_,rfl,rfl,SqL.of h2,hz,?_⟩;refine⟨_,rfl,f,_,1,_,rfl,rfl,hf,rfl,_,_,rfl,rfl,_,rfl,f,_,1,1,rfl,rfl,h1,rfl,?_⟩;refine⟨_,rfl,_,_,rfl,rfl,⟨by decide,by decide,by decide⟩,_,_,rfl,rfl,_,rfl,?_⟩;refine Ey (fun cg=>?_) (fun cg=>?_)
    ·have cg':(10:Int)^(18:Int).toNat<=z:=of_decide_eq_true cg;have cg2:(0:Int)<=z:=Int.le_trans (by decide) cg';obtain⟨k1,k2,k3⟩:=uJ (i':=i+1) (c':=z) (a':=a) (b':=b) g1 g2;refine⟨_,rfl,_,rfl,f,_,2,2,rfl,rfl,g1,rfl,?_⟩;exact⟨⟨_,_,rfl⟩,⟨l,ns,i+1,z,a,b,k1,k2,h63,by omega,by omega,cg2,a0,a1⟩,g3.trans k3⟩
    ·obtain⟨k1,k2,k3⟩:=uJ (i':=i+1) (c':=c) (a':=(a*40013+z%1000003+1)%2147483647) (b':=b) g1 g2;refine⟨_,rfl,f,_,3,_,rfl,rfl,gf,rfl,_,_,rfl,rfl,.inr ⟨by decide,by decide⟩,_,rfl,_,_,rfl,rfl,(by show (0:Int)<_;decide),_,_,rfl,rfl,_,_,rfl,rfl,_,_,rfl,rfl,(by show (0:Int)<_;decide),_,rfl,f,_,3,3,rfl,rfl,g1,rfl,?_⟩;exact⟨⟨_,_,rfl⟩,⟨l,ns,i+1,c,_,b,k1,k2,h63,by omega,by omega,c0,dG _ (by decide),cX _ (by decide)⟩,g3.trans k3⟩
   ·exact⟨⟨_,_,rfl⟩,⟨l,ns,i,c,a,b,h1,h2,h63,i0,i1,c0,a0,a1⟩,Sm.refl H⟩
  ·exact GM ⟨⟨_,_,rfl⟩,⟨l,ns,i,c,a,b,h1,h2,h63,i0,i1,c0,a0,a1⟩,Sm.refl H⟩
 ·rintro _ H1 ⟨⟨o1,o2,rfl⟩,hF1,sm1⟩;clear hf h1 h2 i0 i1 c0 a0 a1 h63;obtain⟨l,ns,i,c,a,b,h1,h2,h63,i0,i1,c0,a0,a1⟩:=hF1;have hf:=SqL.of (K:=K) h1;refine⟨fun σ' H'=>σ'=[some (.ref f),some (.int m),o1,o2]/\H'=H1,?_,?_⟩
  ·refine⟨_,rfl,f,_,2,_,rfl,rfl,hf,rfl,_,_,rfl,rfl,_,rfl,?_⟩;refine Ey (fun cz=>?_) (fun cz=>?_)
   ·obtain⟨k1,k2,k3⟩:=uJ (i':=i) (c':=c.fdiv m) (a':=a) (b':=b) h1 h2;refine⟨_,rfl,f,_,2,_,rfl,rfl,hf,rfl,_,rfl,_,_,rfl,rfl,hm0,?_⟩;have fe:c.fdiv m=c / m:=cA _ (by omega:(0:Int)<=m);refine⟨_,rfl,f,_,2,_,rfl,rfl,hf,rfl,_,rfl,_,_,rfl,rfl,⟨by omega,9000,hm1,by decide⟩,_,rfl,f,_,2,2,rfl,rfl,h1,rfl,?_⟩;refine⟨_,rfl,q _ _ (dG _ (by omega)) (cX _ hm0) ⟨l,ns,i,c.fdiv m,a,b,k1,k2,h63,i0,i1,by rw [fe];exact Int.ediv_nonneg c0 (by omega),a0,a1⟩ (sm1.trans k3)⟩
   ·exact⟨rfl,rfl⟩
  ·rintro _ _ ⟨rfl,rfl⟩;obtain⟨g1,g2,g3⟩:=uJ (i':=i) (c':=c) (a':=a) (b':=b+1) h1 h2;have gf:=SqL.of (K:=K) g1;refine⟨_,rfl,f,_,4,_,rfl,rfl,hf,rfl,_,_,rfl,rfl,_,rfl,f,_,4,4,rfl,rfl,h1,rfl,?_⟩;obtain⟨k1,k2,k3⟩:=uJ (i':=i) (c':=c) (a':=(a*48271+12820163+(b+1))%2147483647) (b':=b+1) g1 g2;have kf:=SqL.of (K:=K) k1;refine⟨_,rfl,f,_,3,_,rfl,rfl,gf,rfl,_,_,rfl,rfl,.inr ⟨by decide,by decide⟩,_,_,rfl,rfl,_,rfl,f,_,4,_,rfl,rfl,gf,rfl,_,_,rfl,rfl,_,_,rfl,rfl,(by show (0:Int)<_;decide),_,rfl,f,_,3,3,rfl,rfl,g1,rfl,?_⟩;have n0:=dG (a*48271+12820163+(b+1)) (show (2147483647:Int)≠0 by decide);have n1:=cX (a*48271+12820163+(b+1)) (show (0:Int)<2147483647 by decide);refine⟨_,rfl,f,_,3,_,rfl,rfl,kf,rfl,_,_,rfl,rfl,(by show (0:Int)<_;decide),_,_,rfl,rfl,_,rfl,f,_,3,_,rfl,rfl,kf,rfl,_,_,rfl,rfl,⟨by decide,by decide⟩,_,_,rfl,rfl,_,_,rfl,rfl,.inl ⟨by omega,by omega⟩,_,_,rfl,rfl,(by show (0:Int)<_;decide),_,_,rfl,rfl,⟨by decide,by decide⟩,_,rfl,_,_,rfl,rfl,hm0,?_⟩;exact q _ _ (dG _ (by omega)) (cX _ hm0) ⟨l,ns,i,c,_,b+1,k1,k2,h63,i0,i1,c0,n0,n1⟩ ((sm1.trans g3).trans k3)
def sC(K:Frag)(n:Nat):Sp:=fun vs H Q _=>∃(d:DV) (x y:V),vs=[x,y]/\Rep K H d x/\Rep K H d y/\d.dp<n/\d.wd<=100000/\∀ H',Same H H'->Q (.bl true) H'
theorem j3:FnScope ["_law_found", "_law_due", "_law_k"] ["_law_found", "_law_due"] (qk rC):=⟨rfl,rfl,rfl,by decide +kernel,rfl,by decide +kernel,by decide +kernel⟩
theorem zL{n:Nat}{f0:Addr}{fd:FuncData}(F:Fun K "_law_alike" "_law_alike" rC f0 fd)(B:Bl mg)(g_law_alike:Def P w K mg base "_law_alike" n ["_law_found", "_law_due"] (sC K n)):FnOk P w K mg base yD (n+1) f0 fd ["_law_found", "_law_due"] (sC K (n+1)):=by
 refine F.ok j3 (fun vs H Q E h=>?_) (fun cdv A outer s H vs Q E hr h=>?_)
 ·obtain⟨d,x,y,rfl,_⟩:=h;rfl
 obtain⟨d,x,y,rfl,hx,hy,hd,hw,q⟩:=h;have nd:=j3.nd;refine⟨_,(ul (@vE _ _ _ _ _ _ _ _ (Lz K (@qG _ _ _ _ _ _ _ _ _ (KC K) rfl B.isinstance qF (@qo _ _ _ _ _ (pv 1) (@qo _ _ _ _ _ (@Co _ _ _ _ _ (@qo _ _ _ _ _ (@rM _ _ (.ty "list") _ _ rfl B.list sK rfl (by decide) (by decide)) (@qo _ _ _ _ _ (@rM _ _ (.ty "tuple") _ _ rfl B.tuple tz rfl (by decide) (by decide)) pa_nil (by rfl)) (by rfl))) pa_nil (by rfl)) (by rfl)) (by decide) (by decide) (by rfl) (by rfl)) (fun _=>rfl)) (ul (@vE _ _ _ _ _ _ _ _ (@sE _ _ _ _ _ _ _ _ CI (@qG _ _ _ _ _ _ _ _ _ (GP K) rfl B.isinstance qF (@qo _ _ _ _ _ (pv 0) (@qo _ _ _ _ _ (@rM _ _ (.ty "list") _ _ rfl B.list sK rfl (by decide) (by decide)) pa_nil (by rfl)) (by rfl)) (by decide) (by decide) (by rfl) (by rfl)) (@qG _ _ _ _ _ _ _ _ _ (GP K) rfl B.isinstance qF (@qo _ _ _ _ _ (pv 1) (@qo _ _ _ _ _ (@rM _ _ (.ty "list") _ _ rfl B.list sK rfl (by decide) (by decide)) pa_nil (by rfl)) (by rfl)) (by decide) (by decide) (by rfl) (by rfl)) (sG _)) (re (@tf _ _ _ _ Cu)) pss_nil)
  (ul (@vE _ _ _ _ _ _ _ _ (@sE _ _ _ _ _ _ _ _ CI (@qG _ _ _ _ _ _ _ _ _ (GP K) rfl B.isinstance qF (@qo _ _ _ _ _ (pv 0) (@qo _ _ _ _ _ (@rM _ _ (.ty "tuple") _ _ rfl B.tuple tz rfl (by decide) (by decide)) pa_nil (by rfl)) (by rfl)) (by decide) (by decide) (by rfl) (by rfl)) (@qG _ _ _ _ _ _ _ _ _ (GP K) rfl B.isinstance qF (@qo _ _ _ _ _ (pv 1) (@qo _ _ _ _ _ (@rM _ _ (.ty "tuple") _ _ rfl B.tuple tz rfl (by decide) (by decide)) pa_nil (by rfl)) (by rfl)) (by decide) (by decide) (by rfl) (by rfl)) (sG _)) (re (@tf _ _ _ _ Cu)) pss_nil)
  (re (@tf _ _ _ _ (yV (@vb _ _ _ _ _ _ _ _ xX (@qG _ _ _ _ _ _ _ _ _ (Bg K) rfl B.len uM (@qo _ _ _ _ _ (pv 0) pa_nil (by rfl)) (by decide) (by decide) (by rfl) (by rfl)) (@qG _ _ _ _ _ _ _ _ _ (Bg K) rfl B.len uM (@qo _ _ _ _ _ (pv 1) pa_nil (by rfl)) (by decide) (by decide) (by rfl) (by rfl)) (sG _)) (@yS _ _ _ _ _ (@qG _ _ _ _ _ _ _ _ _ (Jy K) rfl B.all Dx (@qo _ _ _ _ _ (@Ao _ _ _ _ _ _ _ _ _ _ _ _ rfl (show CompS ["_law_found", "_law_due", "_law_k"] (qk rC) _ [2] from by exact⟨rfl,by decide +kernel,by decide +kernel,by decide +kernel,by decide +kernel⟩) (wo rfl B.range (@qo _ _ _ _ _ (@qG _ _ _ _ _ _ _ _ _ (Bg K) rfl B.len uM (@qo _ _ _ _ _ (pv 1) pa_nil (by rfl)) (by decide) (by decide) (by rfl) (by rfl)) pa_nil (by rfl))) (fun _ _ _ _ _=>(@xb _ _ 2 _ nd rfl (by first|exact Or.inl rfl|exact Or.inr rfl) (by first|exact .inl rfl|exact .inr rfl|assumption))) (fun _ _ _ _ _=>pts_nil) (fun _ _ _ _ _=>(@yU _ _ _ _ _ _ _ _ _ _ _ g_law_alike hr (@qo _ _ _ _ _ (@q8 _ _ _ _ _ _ _ (K5 K) (pv 0) (pv 2) (fun _ _=>rfl)) (@qo _ _ _ _ _ (@q8 _ _ _ _ _ _ _ (K5 K) (pv 1) (pv 2) (fun _ _=>rfl)) pa_nil (by rfl)) (by rfl)) (by first|decide|omega|exact aq _) (by rfl) (by decide) (by rfl) (by rfl))) (by intro _;rfl)) pa_nil (by rfl)) (by decide) (by decide) (by rfl) (by rfl)))))))) pss_nil)
  (re (@tf _ _ _ _ (yV (@vb _ _ _ _ _ _ _ _ xX (@qG _ _ _ _ _ _ _ _ _ (GP K) rfl B.isinstance qF (@qo _ _ _ _ _ (pv 0) (@qo _ _ _ _ _ (@rM _ _ (.ty "bool") _ _ rfl B.bool xF rfl (by decide) (by decide)) pa_nil (by rfl)) (by rfl)) (by decide) (by decide) (by rfl) (by rfl)) (@qG _ _ _ _ _ _ _ _ _ (GP K) rfl B.isinstance qF (@qo _ _ _ _ _ (pv 1) (@qo _ _ _ _ _ (@rM _ _ (.ty "bool") _ _ rfl B.bool xF rfl (by decide) (by decide)) pa_nil (by rfl)) (by rfl)) (by decide) (by decide) (by rfl) (by rfl)) (sG _)) (@yS _ _ _ _ _ (@vb _ _ _ _ _ _ _ _ xX (pv 0) (pv 1) (sG _))))))),?_⟩
 rcases A1 hx hy with⟨rfl,t,bb,ty,hs,k1,k2,sc⟩|⟨tt,a,a',xs,ys,ds,rfl,rfl,q1,q2,r1,r2,e1,e2,e3⟩
 ·refine⟨fun σ H'=>σ=[some x,some x,none]/\Same H H',?_,?_⟩
  ·refine⟨_,rfl,(by show 2<=sizeLine;decide),fun p hp=>?_⟩;refine⟨x,p,t,false,["list", "tuple"],rfl,ty _,hs,qw,k1,_,rfl,?_⟩;exact GM ⟨rfl,Same.new hp _⟩
  ·rintro _ H1 ⟨rfl,s1⟩;refine⟨_,rfl,_,_,_,_,rfl,ty _,k2,_,rfl,_,_,_,_,rfl,ty _,k2,rfl,_,rfl,?_⟩;rw [decide_eq_true rfl];refine GL ?_;refine⟨_,rfl,_,rfl,sc,?_⟩;rw [decide_eq_true rfl];exact q H1 s1
 ·have l1:=r1.length;have l2:=r2.length;obtain⟨k0,⟨b1,k1⟩,⟨b2,k2⟩⟩:=q1.kit;refine⟨fun σ H'=>False,?_,fun _ _ z=>z.elim⟩;refine⟨_,rfl,(by show 2<=sizeLine;decide),fun p hp=>?_⟩;have s1:=Same.new hp (.tup [.ty "list",.ty "tuple"]);refine⟨_,p,.type tt,true,["list", "tuple"],rfl,(q2.same s1).ty,nofun,qw,k0,_,rfl,?_⟩;refine GL ?_;have e1':=q1.same s1;have e2':=q2.same s1;refine⟨fun σ H'=>σ=[some (.ref a),some (.ref a'),none]/\H'=qR H p (.tup [.ty "list",.ty "tuple"]),?_,?_⟩
  ·refine⟨_,rfl,_,_,_,_,rfl,e1'.ty,k1,_,rfl,_,_,_,_,rfl,e2'.ty,k1,rfl,_,rfl,?_⟩;exact Fi rfl ⟨rfl,rfl⟩
  ·rintro _ _ ⟨rfl,rfl⟩;refine⟨fun σ H'=>σ=[some (.ref a),some (.ref a'),none]/\H'=qR H p (.tup [.ty "list",.ty "tuple"]),?_,?_⟩
   ·refine⟨_,rfl,_,_,_,_,rfl,e1'.ty,k2,_,rfl,_,_,_,_,rfl,e2'.ty,k2,rfl,_,rfl,?_⟩;exact Fi rfl ⟨rfl,rfl⟩
   ·rintro _ _ ⟨rfl,rfl⟩;refine⟨_,rfl,a,xs,rfl,e1'.len,_,rfl,a',ys,rfl,e2'.len,rfl,_,rfl,?_⟩;rw [decide_eq_true (show V.int (xs.length:Int)=V.int (ys.length:Int) by rw [← l1,← l2])];refine GL ?_;refine⟨_,rfl,a',ys,rfl,e2'.len,_,rfl,by omega,by omega,?_⟩;rw [aJ];refine zB (n:=ys.length) (by rw [sizeLine_eq];omega) (fun i τ zs H'=>(∃ o,τ=[some (.ref a),some (.ref a'),o])/\Same H H'/\zs=(List.replicate i true).map V.bl) ⟨⟨none,rfl⟩,s1,rfl⟩ ?_ ?_
    ·rintro i _ _ H1 hi hl ⟨⟨o,rfl⟩,s2,rfl⟩;obtain⟨v1,hv1⟩:∃ v,xs[i]? = some v:=⟨xs[i]'(by omega),ac _⟩;obtain⟨v2,hv2⟩:∃ v,ys[i]? = some v:=⟨ys[i]'hi,ac _⟩;obtain⟨d1,hd1,rp1⟩:=(r1.same s2).get hv1;obtain⟨d2,hd2,rp2⟩:=(r2.same s2).get hv2;rw [hd1] at hd2;cases hd2;have wm:=zY (aO hd1);have ei:(0:Int)+(i:Int)=(i:Int):=ce _;refine⟨_,rfl,_,rfl,(q1.same s2).ix (by rw [ei];exact vf hv1) ?_⟩;refine⟨_,rfl,_,rfl,(q2.same s2).ix (by rw [ei];exact vf hv2) ?_⟩;refine⟨d1,v1,v2,rfl,rp1,rp2,by omega,by omega,fun H2 s3=>?_⟩;refine LC hi hl ⟨⟨_,rfl⟩,s2.trans s3,?_⟩;rw [List.replicate_succ',aR];rfl
    ·rintro _ _ H1 D hl ⟨⟨o,rfl⟩,s2,rfl⟩ hD;refine⟨D,_,rfl,SqL.of qw,?_⟩;have:(List.replicate ys.length true).all id=true:=by simp
     rw [this];exact q _ (s2.trans (Same.new hD _))
theorem zN{f0:Addr}{fd:FuncData}:FnOk P w K mg base yD 0 f0 fd ["_law_found", "_law_due"] (sC K 0):=by
 have no:∀ vs H Q E,¬ sC K 0 vs H Q E:=fun vs H Q E h=>by
  obtain⟨d,x,y,_,_,_,h1,_⟩:=h;omega
 exact⟨fun vs H Q E h=>absurd h (no vs H Q E),fun A outer s H args us vs Q E _ _ _ _ h=>absurd h (no vs H Q E)⟩
theorem um{f0:Addr}{fd:FuncData}(F:Fun K "_law_alike" "_law_alike" rC f0 fd)(B:Bl mg)(m:mg "_law_alike" = some (.ref f0))(b:Binds K fd ["_law_found", "_law_due"] []):∀ n,FnOk P w K mg base yD n f0 fd ["_law_found", "_law_due"] (sC K n)
 | 0=>zN
 | n+1=>zL F B (.of F m b (um F B m b n))
theorem lI:FnScope ["one", "other"] ["one", "other"] (qk tU):=Ds.sc (by kernel_rfl) rfl rfl rfl
theorem nr:FnScope ["top", "bottom", "part"] ["top", "bottom"] (qk vA):=Ds.sc (by kernel_rfl) rfl rfl rfl
theorem nt:FnScope ["tops", "bottom", "many", "part", "top"] ["tops", "bottom"] (qk vx):=Ds.sc (by kernel_rfl) rfl rfl rfl
theorem jF:FnScope ["some", "bottom", "r"] ["some"] (qk sf):=Ds.sc (by kernel_rfl) rfl rfl rfl
theorem pM:FnScope ["some", "tops", "bottom"] ["some"] (qk BR):=Ds.sc (by kernel_rfl) rfl rfl rfl
theorem lJ:FnScope ["p", "k", "tops", "bottom"] ["p", "k"] (qk tT):=Ds.sc (by kernel_rfl) rfl rfl rfl
theorem ox:FnScope ["p"] ["p"] (qk xP):=Ds.sc (by kernel_rfl) rfl rfl rfl
theorem pP:FnScope ["p"] ["p"] (qk BT):=Ds.sc (by kernel_rfl) rfl rfl rfl
theorem ki:FnScope ["tops", "others", "longer", "shorter", "made", "k", "top"] ["tops", "others"] (qk sM):=Ds.sc (by kernel_rfl) rfl rfl rfl
theorem jG:FnScope ["tops", "others", "made", "i", "top", "k", "other"] ["tops", "others"] (qk sd):=Ds.sc (by kernel_rfl) rfl rfl rfl
theorem pQ:FnScope ["p", "other", "mine", "top", "theirs"] ["p", "other"] (qk BS):=Ds.sc (by kernel_rfl) rfl rfl rfl
theorem pe:FnScope ["p", "other"] ["p", "other"] (qk Ac):=Ds.sc (by kernel_rfl) rfl rfl rfl
theorem oy:FnScope ["p", "r", "top"] ["p", "r"] (qk xN):=Ds.sc (by kernel_rfl) rfl rfl rfl
theorem pf:FnScope ["p", "k", "made", "step"] ["p", "k"] (qk Ad):=Ds.sc (by kernel_rfl) rfl rfl rfl
theorem nv:FnScope ["n", "s"] ["n"] (qk vB):=Ds.sc (by kernel_rfl) rfl rfl rfl
theorem nV:FnScope ["n"] ["n"] (qk wn):=Ds.sc (by kernel_rfl) rfl rfl rfl
theorem kN:FnScope ["f", "s", "h", "n", "made", "k"] ["f", "s", "h"] (qk td):=Ds.sc (by kernel_rfl) rfl rfl rfl
theorem mn:FnScope ["f", "h", "parts", "part", "made"] ["f", "h", "parts"] (qk uk):=Ds.sc (by kernel_rfl) rfl rfl rfl
theorem lK:FnScope ["f", "paper", "due", "s", "h", "parts"] ["f", "paper"] (qk tQ):=Ds.sc (by kernel_rfl) rfl rfl rfl
theorem mo:FnScope ["_law_a", "_law_b"] ["_law_a", "_law_b"] (qk uj):=Ds.sc (by kernel_rfl) rfl rfl rfl
theorem kO:FnScope ["_law_top", "_law_bottom", "_law_part"] ["_law_top", "_law_bottom"] (qk sZ):=Ds.sc (by kernel_rfl) rfl rfl rfl
theorem mZ:FnScope ["_law_one", "_law_other"] ["_law_one", "_law_other"] (qk uR):=Ds.sc (by kernel_rfl) rfl rfl rfl
theorem lL:FnScope ["_law_one", "_law_other"] ["_law_one", "_law_other"] (qk tS):=Ds.sc (by kernel_rfl) rfl rfl rfl
theorem nw:FnScope ["_law_tops", "_law_bottom", "_law_part", "_law_top"] ["_law_tops", "_law_bottom"] (qk vy):=Ds.sc (by kernel_rfl) rfl rfl rfl
theorem nW:FnScope ["_law_p", "_law_q", "_law_many", "_law_found", "_law_k", "_law_top"] ["_law_p", "_law_q"] (qk wl):=Ds.sc (by kernel_rfl) rfl rfl rfl
theorem m5:FnScope ["_law_p", "_law_q", "_law_found", "_law_k", "_law_top", "_law_j", "_law_other"] ["_law_p", "_law_q"] (qk uQ):=Ds.sc (by kernel_rfl) rfl rfl rfl
theorem oz:FnScope ["_law_p", "_law_q", "_law_found", "_law_top"] ["_law_p", "_law_q"] (qk xO):=Ds.sc (by kernel_rfl) rfl rfl rfl
theorem kP:FnScope ["_law_a", "_law_b"] ["_law_a", "_law_b"] (qk sY):=Ds.sc (by kernel_rfl) rfl rfl rfl
theorem mr:FnScope ["_law_flow_here", "_law_most"] ["_law_flow_here", "_law_most"] (qk uh):=Ds.sc (by kernel_rfl) rfl rfl rfl
theorem jp:FnScope ["_law_flow_here", "_law_most"] ["_law_flow_here", "_law_most"] (qk rW):=Ds.sc (by kernel_rfl) rfl rfl rfl
theorem kQ:FnScope ["_law_flow_here", "_law_many", "_law_most", "_law_tops", "_law_k", "_law_first"] ["_law_flow_here", "_law_many", "_law_most"] (qk s9):=Ds.sc (by kernel_rfl) rfl rfl rfl
theorem ko:FnScope ["_law_flow_here", "_law_many", "_law_most", "_law_bottom", "_law_tops", "_law_k"] ["_law_flow_here", "_law_many", "_law_most"] (qk sP):=Ds.sc (by kernel_rfl) rfl rfl rfl
theorem jq:FnScope ["_law_flow_here", "_law_most", "_law_first"] ["_law_flow_here", "_law_most"] (qk rV):=Ds.sc (by kernel_rfl) rfl rfl rfl
theorem lQ:FnScope ["_law_n", "_law_a", "_law_found", "_law_k", "_law_less"] ["_law_n", "_law_a"] (qk tR):=Ds.sc (by kernel_rfl) rfl rfl rfl
theorem kR:FnScope ["_law_chain", "_law_found", "_law_layer"] ["_law_chain"] (qk sX):=Ds.sc (by kernel_rfl) rfl rfl rfl
theorem ms:FnScope ["_law_p", "_law_k"] ["_law_p", "_law_k"] (qk ui):=Ds.sc (by kernel_rfl) rfl rfl rfl
theorem mt:FnScope ["_law_p", "_law_k", "_law_found", "_law_turn"] ["_law_p", "_law_k"] (qk uf):=Ds.sc (by kernel_rfl) rfl rfl rfl
theorem mw:FnScope ["_law_f", "_law_h", "_law_whole", "_law_rest", "_law_less", "_law_top", "_law_step"] ["_law_f", "_law_h"] (qk ug):=Ds.sc (by kernel_rfl) rfl rfl rfl
theorem kq:FnScope ["_law_f", "_law_h", "_law_found", "_law_left", "_law_digit"] ["_law_f", "_law_h"] (qk sQ):=Ds.sc (by kernel_rfl) rfl rfl rfl
theorem jr:FnScope ["_law_f", "_law_s", "_law_n", "_law_top", "_law_found", "_law_k", "_law_due", "_law_told", "_law_lack"] ["_law_f", "_law_s"] (qk rT):=Ds.sc (by kernel_rfl) rfl rfl rfl
theorem jt:FnScope ["_law_flow_here", "_law_some"] ["_law_flow_here"] (qk rS):=Ds.sc (by kernel_rfl) rfl rfl rfl
theorem iJ:FnScope ["_law_flow_here", "_law_f"] ["_law_flow_here", "_law_f"] (qk qZ):=Ds.sc (by kernel_rfl) rfl rfl rfl
theorem ny:FnScope ["_law_flow_here", "_law_form", "_law_sizes", "_law_layers", "_law_size", "_law_n", "_law_k", "_law_many", "_law_within", "_law_base", "_law_odd"] ["_law_flow_here"] (qk vz):=Ds.sc (by kernel_rfl) rfl rfl rfl
theorem j4:FnScope ["_law_f", "_law_n", "_law_some", "_law_s", "_law_h"] ["_law_f"] (qk sx):=Ds.sc (by kernel_rfl) rfl rfl rfl
theorem j5:FnScope ["_law_f", "_law_s", "_law_h", "_law_some", "_law_n", "_law_told", "_law_k", "_law_digit", "_law_whole"] ["_law_f", "_law_s", "_law_h", "_law_some"] (qk sy):=Ds.sc (by kernel_rfl) rfl rfl rfl
theorem jH:FnScope ["_law_f", "_law_paper", "_law_n", "_law_due", "_law_s", "_law_pair"] ["_law_f", "_law_paper"] (qk sg):=Ds.sc (by kernel_rfl) rfl rfl rfl
theorem j6:FnScope ["_law_flow_here", "_law_f", "_law_pair", "_law_h", "_law_some", "_law_s", "_law_form", "_law_at", "_law_small", "_law_more", "_law_k", "_law_digit", "_law_carried"] ["_law_flow_here", "_law_f", "_law_pair"] (qk sA):=Ds.sc (by kernel_rfl) rfl rfl rfl
theorem jI:FnScope ["_law_flow_here", "_law_f", "_law_paper", "_law_strange", "_law_form", "_law_at"] ["_law_flow_here", "_law_f", "_law_paper", "_law_strange"] (qk sh):=Ds.sc (by kernel_rfl) rfl rfl rfl
theorem kr:FnScope ["_law_flow_here", "_law_found"] ["_law_flow_here"] (qk sO):=Ds.sc (by kernel_rfl) rfl rfl rfl
theorem qf:FnScope ["_law_script", "_law_flow_here", "_law_f", "_law_other", "_law_good", "_law_strange", "_law_k", "_law_paper"] ["_law_script"] (qk E1):=Ds.sc (by kernel_rfl) rfl rfl rfl
end
theorem Hq{l:PySem.W.OpenLaw}{w:World}{K:Frag}{h:Heap}{mg:Str->Option Value}{fa:Addr}{f1 f2 f3 f4 f5 f6 f7 f8 f9 f10 f11 f12 f13 f14 f15 f16 f17 f18 f19 f20 f21 f22 f23 f24 f25 f26 f27 f28 f29 f30 f31 f32 f33 f34 f35 f36 f37 f38 f39 f40 f41 f42 f43 f44 f45 f46 f47 f48 f49 f50 f51 f52 f53:Addr}(X:K.In h)(G:h.Ns mainGlobals mg)(hfa:mg "law" = some (.ref fa))
  (h1:Ds.Sl K f1 "common_part" tU)
  (h2:Ds.Sl K f2 "fraction" vA)
  (h3:Ds.Sl K f3 "one_form" vx)
  (h4:Ds.Sl K f4 "over_one_bottom" sf)
  (h5:Ds.Sl K f5 "poly" BR)
  (h6:Ds.Sl K f6 "fraction_at" tT)
  (h7:Ds.Sl K f7 "degree" xP)
  (h8:Ds.Sl K f8 "lead" BT)
  (h9:Ds.Sl K f9 "tops_together" sM)
  (h10:Ds.Sl K f10 "tops_multiplied" sd)
  (h11:Ds.Sl K f11 "plus" BS)
  (h12:Ds.Sl K f12 "times" Ac)
  (h13:Ds.Sl K f13 "scaled" xN)
  (h14:Ds.Sl K f14 "power" Ad)
  (h15:Ds.Sl K f15 "divisors" vB)
  (h16:Ds.Sl K f16 "between" wn)
  (h17:Ds.Sl K f17 "is_candidate" td)
  (h18:Ds.Sl K f18 "are_digits" uk)
  (h19:Ds.Sl K f19 "paper_holds" tQ)
  (h20:Ds.Sl K f20 "_law_flow" t4)
  (h21:Ds.Sl K f21 "_law_pick" tZ)
  (h22:Ds.Sl K f22 "_law_alike" rC)
  (h23:Ds.Sl K f23 "_law_common" uj)
  (h24:Ds.Sl K f24 "_law_fraction" sZ)
  (h25:Ds.Sl K f25 "_law_added" uR)
  (h26:Ds.Sl K f26 "_law_product" tS)
  (h27:Ds.Sl K f27 "_law_poly" vy)
  (h28:Ds.Sl K f28 "_law_sum" wl)
  (h29:Ds.Sl K f29 "_law_times" uQ)
  (h30:Ds.Sl K f30 "_law_of" xO)
  (h31:Ds.Sl K f31 "_law_straight" sY)
  (h32:Ds.Sl K f32 "_law_number" uh)
  (h33:Ds.Sl K f33 "_law_any_fraction" rW)
  (h34:Ds.Sl K f34 "_law_any_poly" s9)
  (h35:Ds.Sl K f35 "_law_neat_poly" sP)
  (h36:Ds.Sl K f36 "_law_any_straight" rV)
  (h37:Ds.Sl K f37 "_law_turning" tR)
  (h38:Ds.Sl K f38 "_law_together" sX)
  (h39:Ds.Sl K f39 "_law_figure" ui)
  (h40:Ds.Sl K f40 "_law_raised" uf)
  (h41:Ds.Sl K f41 "_law_parted" ug)
  (h42:Ds.Sl K f42 "_law_digits_of" sQ)
  (h43:Ds.Sl K f43 "_law_candidate_of" rT)
  (h44:Ds.Sl K f44 "_law_row_of_sizes" rS)
  (h45:Ds.Sl K f45 "_law_between_straights" qZ)
  (h46:Ds.Sl K f46 "_law_nest" vz)
  (h47:Ds.Sl K f47 "_law_paper_made" sx)
  (h48:Ds.Sl K f48 "_law_pair_right" sy)
  (h49:Ds.Sl K f49 "_law_paper_right" sg)
  (h50:Ds.Sl K f50 "_law_other_pair" sA)
  (h51:Ds.Sl K f51 "_law_other_paper" sh)
  (h52:Ds.Sl K f52 "_law_small_one" sO)
  (h53:Ds.Sl K f53 "law" E1)
  (z_len:PySem.W.nsIn K mainGlobals "len" = some none)
  (z_range:PySem.W.nsIn K mainGlobals "range" = some none)
  (z_all:PySem.W.nsIn K mainGlobals "all" = some none)
  (z_any:PySem.W.nsIn K mainGlobals "any" = some none)
  (z_abs:PySem.W.nsIn K mainGlobals "abs" = some none)
  (z_int:PySem.W.nsIn K mainGlobals "int" = some none)
  (z_bool:PySem.W.nsIn K mainGlobals "bool" = some none)
  (z_str:PySem.W.nsIn K mainGlobals "str" = some none)
  (z_list:PySem.W.nsIn K mainGlobals "list" = some none)
  (z_tuple:PySem.W.nsIn K mainGlobals "tuple" = some none)
  (z_dict:PySem.W.nsIn K mainGlobals "dict" = some none)
  (z_isinstance:PySem.W.nsIn K mainGlobals "isinstance" = some none)
  (z_enumerate:PySem.W.nsIn K mainGlobals "enumerate" = some none)
  (z_reversed:PySem.W.nsIn K mainGlobals "reversed" = some none)
  (z_sorted:PySem.W.nsIn K mainGlobals "sorted" = some none)
  (z_max:PySem.W.nsIn K mainGlobals "max" = some none)
  (z_min:PySem.W.nsIn K mainGlobals "min" = some none)
  (z_sum:PySem.W.nsIn K mainGlobals "sum" = some none)
  (z_zip:PySem.W.nsIn K mainGlobals "zip" = some none)
  : ∃ fd:FuncData,(∀(s:Shared) (v:Value),BindsTo s fd ⟨[v],[]⟩ [("_law_script",v)])/\∀ base:Heap,K.In base->base.Ns mainGlobals mg->FnOk l.prog w K mg base yD 8 fa fd ["_law_script"] (Dp.Ab K):=by
 have B:Bl mg:=⟨PySem.W.mg_none_of X G z_len,PySem.W.mg_none_of X G z_range,PySem.W.mg_none_of X G z_all,PySem.W.mg_none_of X G z_any,PySem.W.mg_none_of X G z_abs,PySem.W.mg_none_of X G z_int,PySem.W.mg_none_of X G z_bool,PySem.W.mg_none_of X G z_str,PySem.W.mg_none_of X G z_list,PySem.W.mg_none_of X G z_tuple,PySem.W.mg_none_of X G z_dict,PySem.W.mg_none_of X G z_isinstance,PySem.W.mg_none_of X G z_enumerate,PySem.W.mg_none_of X G z_reversed,PySem.W.mg_none_of X G z_sorted,PySem.W.mg_none_of X G z_max,PySem.W.mg_none_of X G z_min,PySem.W.mg_none_of X G z_sum,PySem.W.mg_none_of X G z_zip⟩;have W:Ds.Mg K mg:=fun _ _ a=>PySem.W.mg_of X G a;obtain⟨a,fd,F⟩:=h53;cases hfa.symm.trans (W _ _ a);refine⟨fd,?_,fun base _ _=>?_⟩
 ·obtain⟨oc,od,kV,doc,pm,an,cdv,ct,osl,rfl,lk,hcd⟩:=F.ex;exact fun s v=>.of_eq rfl
 have gf:Def l.prog w K mg base "_law_flow" 1 ["_law_script"] (vt K):=by
  obtain⟨a,fd,F⟩:=h20;exact .of F (W _ _ a) (F.binds (Ds.b1 fun _ _ _ _ _ _ _=>rfl)) (Ej F B)
 have gp:Def l.prog w K mg base "_law_pick" 1 ["_law_flow_here", "_law_many"] (Dp.yA K Dp.gn.n Dp.gn.run):=by
  obtain⟨a,fd,F⟩:=h21;exact Dp.A4 (.of F (W _ _ a) (F.binds (Ds.b2 fun _ _ _ _ _ _ _ _=>rfl)) (Ei F B))
 have G0:=Ds.rG gp Ds.LH;have ga:Def l.prog w K mg base "_law_alike" 1 ["_law_found", "_law_due"] (Dp.yA K Dp.gJ.n Dp.gJ.run):=by
  obtain⟨a,fd,F⟩:=h22;exact Dp.yz (.of F (W _ _ a) (F.binds (Ds.b2 fun _ _ _ _ _ _ _ _=>rfl)) (um F B (W _ _ a) (F.binds (Ds.b2 fun _ _ _ _ _ _ _ _=>rfl)) 1))
 have Ga:=Ds.rG ga G0;have G1:=Ds.rG (Ds.rN 0 Ds.o0 h1 W B lI rfl Ga Ds.rK (Ds.b2 fun _ _ _ _ _ _ _ _=>rfl) (by kernel_rfl) Dp.j7) Ga;have G7:=Ds.rG (Ds.rN 0 Ds.o0 h7 W B ox rfl G1 Ds.rK (Ds.b1 fun _ _ _ _ _ _ _=>rfl) (by kernel_rfl) Dp.ng) G1;have G9:=Ds.rG (Ds.rN 0 ([(45,[4])],[42],[4]) h9 W B ki rfl G7 Ds.rK (Ds.b2 fun _ _ _ _ _ _ _ _=>rfl) (by kernel_rfl) Dp.jy) G7;have G10:=Ds.rG (Ds.rN 0 ([(53,[2])],[49],[2]) h10 W B jG rfl G9 Ds.rK (Ds.b2 fun _ _ _ _ _ _ _ _=>rfl) (by kernel_rfl) Dp.i8) G9;have G15:=Ds.rG (Ds.rN 0 Ds.o0 h15 W B nv rfl G10 Ds.rK (Ds.b1 fun _ _ _ _ _ _ _=>rfl) (by kernel_rfl) Dp.mh) G10;have G23:=Ds.rG (Ds.rN 0 Ds.o0 h23 W B mo rfl G15 Ds.rK (Ds.b2 fun _ _ _ _ _ _ _ _=>rfl) (by kernel_rfl) Dp.kz) G15;have G2:=Ds.rG (Ds.rN 1 Ds.o0 h2 W B nr rfl G23 Ds.rK (Ds.b2 fun _ _ _ _ _ _ _ _=>rfl) (by kernel_rfl) Dp.me) G23;have G3:=Ds.rG (Ds.rN 1 Ds.o0 h3 W B nt rfl G2 Ds.rK (Ds.b2 fun _ _ _ _ _ _ _ _=>rfl) (by kernel_rfl) Dp.md) G2;have G4:=Ds.rG (Ds.rN 1 Ds.o0 h4 W B jF rfl G3 Ds.rK (Ds.b1 fun _ _ _ _ _ _ _=>rfl) (by kernel_rfl) Dp.iS) G3;have G16:=Ds.rG (Ds.rN 1 Ds.o0 h16 W B nV rfl G4 Ds.rK (Ds.b1 fun _ _ _ _ _ _ _=>rfl) (by kernel_rfl) Dp.mY) G4;have G24:=Ds.rG (Ds.rN 1 Ds.o0 h24 W B kO rfl G16 Ds.rK (Ds.b2 fun _ _ _ _ _ _ _ _=>rfl) (by kernel_rfl) Dp.jK) G16;have G27:=Ds.rG (Ds.rN 1 ([(134,[0]),(138,[0]),(140,[0])],[134],[0]) h27 W B nw rfl G24 Ds.rK (Ds.b2 fun _ _ _ _ _ _ _ _=>rfl) (by kernel_rfl) Dp.lZ) G24;have G32:=Ds.rG (Ds.rN 1 Ds.o0 h32 W B mr rfl G27 Ds.rK (Ds.b2 fun _ _ _ _ _ _ _ _=>rfl) (by kernel_rfl) Dp.kA) G27;have G44:=Ds.rG (Ds.rN 1 Ds.o0 h44 W B jt rfl G32 Ds.rK (Ds.b1 fun _ _ _ _ _ _ _=>rfl) (by kernel_rfl) Dp.iM) G32;have G5:=Ds.rG (Ds.rN 2 Ds.o0 h5 W B pM rfl G44 Ds.rK (Ds.b1 fun _ _ _ _ _ _ _=>rfl) (by kernel_rfl) Dp.nj) G44;have G6:=Ds.rG (Ds.rN 2 Ds.o0 h6 W B lJ rfl G5 Ds.rK (Ds.b2 fun _ _ _ _ _ _ _ _=>rfl) (by kernel_rfl) Dp.j9) G5;have G11:=Ds.rG (Ds.rN 2 Ds.o0 h11 W B pQ rfl G6 Ds.rK (Ds.b2 fun _ _ _ _ _ _ _ _=>rfl) (by kernel_rfl) Dp.on) G6;have G12:=Ds.rG (Ds.rN 2 Ds.o0 h12 W B pe rfl G11 Ds.rK (Ds.b2 fun _ _ _ _ _ _ _ _=>rfl) (by kernel_rfl) Dp.nM) G11;have G13:=Ds.rG (Ds.rN 2 Ds.o0 h13 W B oy rfl G12 Ds.rK (Ds.b2 fun _ _ _ _ _ _ _ _=>rfl) (by kernel_rfl) Dp.nh) G12;have G25:=Ds.rG (Ds.rN 2 Ds.o0 h25 W B mZ rfl G13 Ds.rK (Ds.b2 fun _ _ _ _ _ _ _ _=>rfl) (by kernel_rfl) Dp.kc) G13;have G26:=Ds.rG (Ds.rN 2 Ds.o0 h26 W B lL rfl G25 Ds.rK (Ds.b2 fun _ _ _ _ _ _ _ _=>rfl) (by kernel_rfl) Dp.jB) G25;have G28:=Ds.rG (Ds.rN 2 ([(148,[3])],[143],[3]) h28 W B nW rfl G26 Ds.rK (Ds.b2 fun _ _ _ _ _ _ _ _=>rfl) (by kernel_rfl) Dp.mO) G26;have G29:=Ds.rG (Ds.rN 2 ([(154,[2])],[150],[2]) h29 W B m5 rfl G28 Ds.rK (Ds.b2 fun _ _ _ _ _ _ _ _=>rfl) (by kernel_rfl) Dp.kZ) G28;have G31:=Ds.rG (Ds.rN 2 Ds.o0 h31 W B kP rfl G29 Ds.rK (Ds.b2 fun _ _ _ _ _ _ _ _=>rfl) (by kernel_rfl) Dp.jN) G29;have G33:=Ds.rG (Ds.rN 2 Ds.o0 h33 W B jp rfl G31 Ds.rK (Ds.b2 fun _ _ _ _ _ _ _ _=>rfl) (by kernel_rfl) Dp.iX) G31;have G34:=Ds.rG (Ds.rN 2 Ds.o0 h34 W B kQ rfl G33 Ds.rK (Ds.b3 fun _ _ _ _ _ _ _ _ _=>rfl) (by kernel_rfl) Dp.jM) G33;have G35:=Ds.rG (Ds.rN 2 Ds.o0 h35 W B ko rfl G34 Ds.rK (Ds.b3 fun _ _ _ _ _ _ _ _ _=>rfl) (by kernel_rfl) Dp.jx) G34;have G39:=Ds.rG (Ds.rN 2 Ds.o0 h39 W B ms rfl G35 Ds.rK (Ds.b2 fun _ _ _ _ _ _ _ _=>rfl) (by kernel_rfl) Dp.kI) G35;have G8:=Ds.rG (Ds.rN 3 Ds.o0 h8 W B pP rfl G39 Ds.rK (Ds.b1 fun _ _ _ _ _ _ _=>rfl) (by kernel_rfl) Dp.om) G39;have G14:=Ds.rG (Ds.rN 3 Ds.o0 h14 W B pf rfl G8 Ds.rK (Ds.b2 fun _ _ _ _ _ _ _ _=>rfl) (by kernel_rfl) Dp.nQ) G8;have G18:=Ds.rG (Ds.rN 3 Ds.o0 h18 W B mn rfl G14 Ds.rK (Ds.b3 fun _ _ _ _ _ _ _ _ _=>rfl) (by kernel_rfl) Dp.kJ) G14;have G30:=Ds.rG (Ds.rN 3 Ds.o0 h30 W B oz rfl G18 Ds.rK (Ds.b2 fun _ _ _ _ _ _ _ _=>rfl) (by kernel_rfl) Dp.nc) G18;have G36:=Ds.rG (Ds.rN 3 Ds.o0 h36 W B jq rfl G30 Ds.rK (Ds.b2 fun _ _ _ _ _ _ _ _=>rfl) (by kernel_rfl) Dp.iY) G30;have G37:=Ds.rG (Ds.rN 3 ([],[178],[2]) h37 W B lQ rfl G36 Ds.rK (Ds.b2 fun _ _ _ _ _ _ _ _=>rfl) (by kernel_rfl) Dp.jz) G36;have G40:=Ds.rG (Ds.rN 3 Ds.o0 h40 W B mt rfl G37 Ds.rK (Ds.b2 fun _ _ _ _ _ _ _ _=>rfl) (by kernel_rfl) Dp.jW) G37;have G41:=Ds.rG (Ds.rN 3 Ds.o0 h41 W B mw rfl G40 Ds.rK (Ds.b2 fun _ _ _ _ _ _ _ _=>rfl) (by kernel_rfl) Dp.jX) G40;have G17:=Ds.rG (Ds.rN 4 Ds.o0 h17 W B kN rfl G41 Ds.rK (Ds.b3 fun _ _ _ _ _ _ _ _ _=>rfl) (by kernel_rfl) Dp.jV) G41;have G38:=Ds.rG (Ds.rN 4 Ds.o0 h38 W B kR rfl G17 Ds.rK (Ds.b1 fun _ _ _ _ _ _ _=>rfl) (by kernel_rfl) Dp.jo) G17;have G42:=Ds.rG (Ds.rN 4 ([(210,[2])],[205],[2]) h42 W B kq rfl G38 Ds.rK (Ds.b2 fun _ _ _ _ _ _ _ _=>rfl) (by kernel_rfl) Dp.jD) G38;have G43:=Ds.rG (Ds.rN 4 Ds.o0 h43 W B jr rfl G42 Ds.rK (Ds.b2 fun _ _ _ _ _ _ _ _=>rfl) (by kernel_rfl) Dp.iZ) G42;have G45:=Ds.rG (Ds.rN 4 Ds.o0 h45 W B iJ rfl G43 Ds.rK (Ds.b2 fun _ _ _ _ _ _ _ _=>rfl) (by kernel_rfl) Dp.iB) G43;have G48:=Ds.rG (Ds.rN 4 Ds.o0 h48 W B j5 rfl G45 Ds.rK (Ds.b4 fun _ _ _ _ _ _ _ _ _ _=>rfl) (by kernel_rfl) Dp.jk) G45;have G19:=Ds.rG (Ds.rN 5 Ds.o0 h19 W B lK rfl G48 Ds.rK (Ds.b2 fun _ _ _ _ _ _ _ _=>rfl) (by kernel_rfl) Dp.ka) G48;have G46:=Ds.rG (Ds.rN 5 Ds.o0 h46 W B ny rfl G19 Ds.rK (Ds.b1 fun _ _ _ _ _ _ _=>rfl) (by kernel_rfl) Dp.ml) G19;have G47:=Ds.rG (Ds.rN 5 Ds.o0 h47 W B j4 rfl G46 Ds.rK (Ds.b1 fun _ _ _ _ _ _ _=>rfl) (by kernel_rfl) Dp.jm) G46;have G49:=Ds.rG (Ds.rN 5 Ds.o0 h49 W B jH rfl G47 Ds.rK (Ds.b2 fun _ _ _ _ _ _ _ _=>rfl) (by kernel_rfl) Dp.jc) G47;have G50:=Ds.rG (Ds.rN 5 Ds.o0 h50 W B j6 rfl G49 Ds.rK (Ds.b3 fun _ _ _ _ _ _ _ _ _=>rfl) (by kernel_rfl) Dp.jn) G49;have G51:=Ds.rG (Ds.rN 6 Ds.o0 h51 W B jI rfl G50 Ds.rK (Ds.b4 fun _ _ _ _ _ _ _ _ _ _=>rfl) (by kernel_rfl) Dp.jd) G50;have G52:=Ds.rG (Ds.rN 6 Ds.o0 h52 W B kr rfl G51 Ds.rK (Ds.b1 fun _ _ _ _ _ _ _=>rfl) (by kernel_rfl) Dp.jE) G51;exact Ds.GB (n:=40) (k:=7) (gc:=[]) (fz:=[]) (own:=[]) (mu:=[]) F B qf gf G52 Ds.rK rfl (by decide) (by first|exact Or.inl rfl|exact Or.inr rfl) (by first|exact Or.inl rfl|exact Or.inr rfl) rfl (by kernel_rfl) Dp.AZ
theorem walk{l:PySem.W.OpenLaw}{q:Program}{loose:List Str}{XP:(Str->Option Value)->Heap->Prop}{YP:World->Heap->Prop}{d:DefRec}{K:Params->Frag}(hn:l.most=some 63)(hdf:d.params.defaults=[])
  (hY:∀(w:World) (h:Heap),YP w h->(K w.params).In h)
  (F:∀(w:World) (mg:Str->Option Value) (fa:Addr) (h:Heap),(K w.params).In h->h.Ns mainGlobals mg->mg d.name=some (.ref fa) ->
   ∃ fd:FuncData,(∀(s:Shared) (u:Value),BindsTo s fd ⟨[u],[]⟩ [("_law_script",u)])/\∀ base:Heap,(K w.params).In base->base.Ns mainGlobals mg->FnOk l.prog w (K w.params) mg base yD 8 fa fd ["_law_script"] (Dp.Ab (K w.params))) (hi:PyProof.Rows.importsNone q=true) (ht:l.prog.given.tree=none) :
  PySem.W.WalkO q loose XP YP l.row.toRowW d [] (fun f vs=>PySem.call f vs) :=
 L2.DF (n:=63) (k:=8) (x := "_law_script") (CX:=fun _=>yD) (sp:=fun w=>Dp.Ab (K w.params)) hn (by decide) hdf ⟨rfl,by decide,by decide⟩ hY F (fun _ _ a ns hl _ hS=>⟨a,ns,rfl,hS,hl,fun _=>rfl⟩) (fun _ _ _ _ _ z=>z) hi ht
end My
def PySem.W.Fast.tw8648702033626833157:Unit:=()
def PySem.W.Fast.tw13031902665369193471:Unit:=()
def PySem.W.Fast.tw2582504783091685597:Unit:=()
def PySem.W.Fast.tw6757993593486908171:Unit:=()
def PySem.W.Fast.tw1191755625067033531:Unit:=()
def PySem.W.Fast.tw18199828223341549704:Unit:=()
def PySem.W.Fast.tw16789389637682248845:Unit:=()
def PySem.W.Fast.tw17013788699420304487:Unit:=()
def PySem.W.Fast.tw16370443413789064989:Unit:=()
def PySem.W.Fast.tw15370306824573407806:Unit:=()
def PySem.W.Fast.tw9843186043247404757:Unit:=()
def PySem.W.Fast.tw4050888630222900157:Unit:=()
def PySem.W.Fast.tw14564922530720972111:Unit:=()
def PySem.W.Fast.tw4222253196843747894:Unit:=()
def PySem.W.Fast.tw15748189412982377242:Unit:=()
def PySem.W.Fast.tw10142734502820207248:Unit:=()
def PySem.W.Fast.tw3688691010083639682:Unit:=()
def PySem.W.Fast.tw12270846473238143142:Unit:=()
def PySem.W.Fast.tw17446840904780299855:Unit:=()
def PySem.W.Fast.tw8902921453197105691:Unit:=()
def PySem.W.Fast.tw6311431361195861616:Unit:=()
def PySem.W.Fast.tw6115713364647303538:Unit:=()
def PySem.W.Fast.tw4718013512627772676:Unit:=()
def PySem.W.Fast.tw15528118778058511590:Unit:=()
def PySem.W.Fast.tw1545940125592307411:Unit:=()
def PySem.W.Fast.tw18170663419521495262:Unit:=()
def PySem.W.Fast.tw17343996255424671895:Unit:=()
def PySem.W.Fast.tw11978843753113552882:Unit:=()
def PySem.W.Fast.tw6253105888712573898:Unit:=()
def PySem.W.Fast.tw13218352391090975727:Unit:=()
def PySem.W.Fast.tw14361595175780487844:Unit:=()
def PySem.W.Fast.tw864476884813473766:Unit:=()
def PySem.W.Fast.tw11343386390428332799:Unit:=()
def PySem.W.Fast.tw9033759601977768343:Unit:=()
def PySem.W.Fast.tw16683344485819110847:Unit:=()
def PySem.W.Fast.tw3794877420505804751:Unit:=()
def PySem.W.Fast.tw7787790949813367519:Unit:=()
def PySem.W.Fast.tw7554407381768539099:Unit:=()
def PySem.W.Fast.tw14056652450767883214:Unit:=()
def PySem.W.Fast.tw9771204361051741669:Unit:=()
def PySem.W.Fast.tw9712998428655162126:Unit:=()
def PySem.W.Fast.tw13812564518261620299:Unit:=()
def PySem.W.Fast.tw12459417641241961820:Unit:=()
def PySem.W.Fast.tw8170814643781924305:Unit:=()
def PySem.W.Fast.tw9775786516943836182:Unit:=()
def PySem.W.Fast.tw15258196436801513186:Unit:=()
def PySem.W.Fast.tw11102985049662133863:Unit:=()
def PySem.W.Fast.tw8849155814725905023:Unit:=()
def PySem.W.Fast.tw10324529101309152510:Unit:=()
def PySem.W.Fast.tw1885356572245405719:Unit:=()
def PySem.W.Fast.tw2461926982420691159:Unit:=()
def PySem.W.Fast.tw8660771924010221687:Unit:=()
def PySem.W.Fast.tw4536240736219457121:Unit:=()
def PySem.W.Fast.tw12091944712128093903:Unit:=()
def PySem.W.Fast.tw16510183539775821991:Unit:=()
def PySem.W.Fast.tw1083308169198037595:Unit:=()
def PySem.W.Fast.tw17641476789734534942:Unit:=()
def PySem.W.Fast.tw986727375551851734:Unit:=()
def PySem.W.Fast.tw6467580214242208048:Unit:=()
def PySem.W.Fast.tw5165437611474582916:Unit:=()
def PySem.W.Fast.tw1919133868153449300:Unit:=()
def PySem.W.Fast.tw1793488619313063393:Unit:=()
def PySem.W.Fast.tw7373539574995761802:Unit:=()
def PySem.W.Fast.tw15952805730221870657:Unit:=()
def PySem.W.Fast.tw18429204228581833623:Unit:=()
def PySem.W.Fast.tw239219764568056860:Unit:=()
def PySem.W.Fast.tw6417060246607556456:Unit:=()
def PySem.W.Fast.tw4322924804837929015:Unit:=()
def PySem.W.Fast.tw508193528102193970:Unit:=()
def PySem.W.Fast.tw1791959348969472289:Unit:=()
def PySem.W.Fast.tw11557029295859302065:Unit:=()
def PySem.W.Fast.tw358086863830687648:Unit:=()
open PySem PySem.W PyProof.Rows
set_option maxRecDepth 100000 in
set_option maxHeartbeats 0 in
theorem PySem.Challenge.cw_nestwright_k39_papers_looked_at_holds : PySem.Challenge.rw_nestwright_k39_papers_looked_at.Holds := by
 w_on;o_law;k_head;(case hw=>w_witness2)
 k_fill
 refine My.walk (l:=PySem.Challenge.rw_nestwright_k39_papers_looked_at) rfl rfl (fun w h Y=>PySem.W.kIn_of Y) ?F ?hi rfl
 (case hi=>kernel_rfl)
 case F =>
  intro w mg fa h KX G hmg;refine' My.Hq KX G hmg (Ds.sl ?a1 ?l1 ?c1 ?k1) (Ds.sl ?a2 ?l2 ?c2 ?k2) (Ds.sl ?a3 ?l3 ?c3 ?k3) (Ds.sl ?a4 ?l4 ?c4 ?k4) (Ds.sl ?a5 ?l5 ?c5 ?k5) (Ds.sl ?a6 ?l6 ?c6 ?k6) (Ds.sl ?a7 ?l7 ?c7 ?k7) (Ds.sl ?a8 ?l8 ?c8 ?k8) (Ds.sl ?a9 ?l9 ?c9 ?k9) (Ds.sl ?a10 ?l10 ?c10 ?k10) (Ds.sl ?a11 ?l11 ?c11 ?k11) (Ds.sl ?a12 ?l12 ?c12 ?k12) (Ds.sl ?a13 ?l13 ?c13 ?k13) (Ds.sl ?a14 ?l14 ?c14 ?k14) (Ds.sl ?a15 ?l15 ?c15 ?k15) (Ds.sl ?a16 ?l16 ?c16 ?k16) (Ds.sl ?a17 ?l17 ?c17 ?k17) (Ds.sl ?a18 ?l18 ?c18 ?k18) (Ds.sl ?a19 ?l19 ?c19 ?k19) (Ds.sl ?a20 ?l20 ?c20 ?k20) (Ds.sl ?a21 ?l21 ?c21 ?k21) (Ds.sl ?a22 ?l22 ?c22 ?k22) (Ds.sl ?a23 ?l23 ?c23 ?k23) (Ds.sl ?a24 ?l24 ?c24 ?k24) (Ds.sl ?a25 ?l25 ?c25 ?k25) (Ds.sl ?a26 ?l26 ?c26 ?k26) (Ds.sl ?a27 ?l27 ?c27 ?k27) (Ds.sl ?a28 ?l28 ?c28 ?k28) (Ds.sl ?a29 ?l29 ?c29 ?k29) (Ds.sl ?a30 ?l30 ?c30 ?k30) (Ds.sl ?a31 ?l31 ?c31 ?k31) (Ds.sl ?a32 ?l32 ?c32 ?k32) (Ds.sl ?a33 ?l33 ?c33 ?k33) (Ds.sl ?a34 ?l34 ?c34 ?k34) (Ds.sl ?a35 ?l35 ?c35 ?k35) (Ds.sl ?a36 ?l36 ?c36 ?k36) (Ds.sl ?a37 ?l37 ?c37 ?k37) (Ds.sl ?a38 ?l38 ?c38 ?k38) (Ds.sl ?a39 ?l39 ?c39 ?k39) (Ds.sl ?a40 ?l40 ?c40 ?k40) (Ds.sl ?a41 ?l41 ?c41 ?k41) (Ds.sl ?a42 ?l42 ?c42 ?k42) (Ds.sl ?a43 ?l43 ?c43 ?k43) (Ds.sl ?a44 ?l44 ?c44 ?k44) (Ds.sl ?a45 ?l45 ?c45 ?k45) (Ds.sl ?a46 ?l46 ?c46 ?k46) (Ds.sl ?a47 ?l47 ?c47 ?k47) (Ds.sl ?a48 ?l48 ?c48 ?k48) (Ds.sl ?a49 ?l49 ?c49 ?k49) (Ds.sl ?a50 ?l50 ?c50 ?k50) (Ds.sl ?a51 ?l51 ?c51 ?k51) (Ds.sl ?a52 ?l52 ?c52 ?k52) (Ds.sl ?a53 ?l53 ?c53 ?k53) ?z_len ?z_range ?z_all ?z_any ?z_abs ?z_int ?z_bool ?z_str ?z_list ?z_tuple ?z_dict ?z_isinstance ?z_enumerate ?z_reversed ?z_sorted ?z_max ?z_min ?z_sum ?z_zip
  (case a1=>k_is);(case l1=>k_is);(case c1=>k_is);(case k1=>k_is)
  (case a2=>k_is);(case l2=>k_is);(case c2=>k_is);(case k2=>k_is)
  (case a3=>k_is);(case l3=>k_is);(case c3=>k_is);(case k3=>k_is)
  (case a4=>k_is);(case l4=>k_is);(case c4=>k_is);(case k4=>k_is)
  (case a5=>k_is);(case l5=>k_is);(case c5=>k_is);(case k5=>k_is)
  (case a6=>k_is);(case l6=>k_is);(case c6=>k_is);(case k6=>k_is)
  (case a7=>k_is);(case l7=>k_is);(case c7=>k_is);(case k7=>k_is)
  (case a8=>k_is);(case l8=>k_is);(case c8=>k_is);(case k8=>k_is)
  (case a9=>k_is);(case l9=>k_is);(case c9=>k_is);(case k9=>k_is)
  (case a10=>k_is);(case l10=>k_is);(case c10=>k_is);(case k10=>k_is)
  (case a11=>k_is);(case l11=>k_is);(case c11=>k_is);(case k11=>k_is)
  (case a12=>k_is);(case l12=>k_is);(case c12=>k_is);(case k12=>k_is)
  (case a13=>k_is);(case l13=>k_is);(case c13=>k_is);(case k13=>k_is)
  (case a14=>k_is);(case l14=>k_is);(case c14=>k_is);(case k14=>k_is)
  (case a15=>k_is);(case l15=>k_is);(case c15=>k_is);(case k15=>k_is)
  (case a16=>k_is);(case l16=>k_is);(case c16=>k_is);(case k16=>k_is)
  (case a17=>k_is);(case l17=>k_is);(case c17=>k_is);(case k17=>k_is)
  (case a18=>k_is);(case l18=>k_is);(case c18=>k_is);(case k18=>k_is)
  (case a19=>k_is);(case l19=>k_is);(case c19=>k_is);(case k19=>k_is)
  (case a20=>k_is);(case l20=>k_is);(case c20=>k_is);(case k20=>k_is)
  (case a21=>k_is);(case l21=>k_is);(case c21=>k_is);(case k21=>k_is)
  (case a22=>k_is);(case l22=>k_is);(case c22=>k_is);(case k22=>k_is)
  (case a23=>k_is);(case l23=>k_is);(case c23=>k_is);(case k23=>k_is)
  (case a24=>k_is);(case l24=>k_is);(case c24=>k_is);(case k24=>k_is)
  (case a25=>k_is);(case l25=>k_is);(case c25=>k_is);(case k25=>k_is)
  (case a26=>k_is);(case l26=>k_is);(case c26=>k_is);(case k26=>k_is)
  (case a27=>k_is);(case l27=>k_is);(case c27=>k_is);(case k27=>k_is)
  (case a28=>k_is);(case l28=>k_is);(case c28=>k_is);(case k28=>k_is)
  (case a29=>k_is);(case l29=>k_is);(case c29=>k_is);(case k29=>k_is)
  (case a30=>k_is);(case l30=>k_is);(case c30=>k_is);(case k30=>k_is)
  (case a31=>k_is);(case l31=>k_is);(case c31=>k_is);(case k31=>k_is)
  (case a32=>k_is);(case l32=>k_is);(case c32=>k_is);(case k32=>k_is)
  (case a33=>k_is);(case l33=>k_is);(case c33=>k_is);(case k33=>k_is)
  (case a34=>k_is);(case l34=>k_is);(case c34=>k_is);(case k34=>k_is)
  (case a35=>k_is);(case l35=>k_is);(case c35=>k_is);(case k35=>k_is)
  (case a36=>k_is);(case l36=>k_is);(case c36=>k_is);(case k36=>k_is)
  (case a37=>k_is);(case l37=>k_is);(case c37=>k_is);(case k37=>k_is)
  (case a38=>k_is);(case l38=>k_is);(case c38=>k_is);(case k38=>k_is)
  (case a39=>k_is);(case l39=>k_is);(case c39=>k_is);(case k39=>k_is)
  (case a40=>k_is);(case l40=>k_is);(case c40=>k_is);(case k40=>k_is)
  (case a41=>k_is);(case l41=>k_is);(case c41=>k_is);(case k41=>k_is)
  (case a42=>k_is);(case l42=>k_is);(case c42=>k_is);(case k42=>k_is)
  (case a43=>k_is);(case l43=>k_is);(case c43=>k_is);(case k43=>k_is)
  (case a44=>k_is);(case l44=>k_is);(case c44=>k_is);(case k44=>k_is)
  (case a45=>k_is);(case l45=>k_is);(case c45=>k_is);(case k45=>k_is)
  (case a46=>k_is);(case l46=>k_is);(case c46=>k_is);(case k46=>k_is)
  (case a47=>k_is);(case l47=>k_is);(case c47=>k_is);(case k47=>k_is)
  (case a48=>k_is);(case l48=>k_is);(case c48=>k_is);(case k48=>k_is)
  (case a49=>k_is);(case l49=>k_is);(case c49=>k_is);(case k49=>k_is)
  (case a50=>k_is);(case l50=>k_is);(case c50=>k_is);(case k50=>k_is)
  (case a51=>k_is);(case l51=>k_is);(case c51=>k_is);(case k51=>k_is)
  (case a52=>k_is);(case l52=>k_is);(case c52=>k_is);(case k52=>k_is)
  (case a53=>k_is);(case l53=>k_is);(case c53=>k_is);(case k53=>k_is)
  (case z_len=>k_is)
  (case z_range=>k_is)
  (case z_all=>k_is)
  (case z_any=>k_is)
  (case z_abs=>k_is)
  (case z_int=>k_is)
  (case z_bool=>k_is)
  (case z_str=>k_is)
  (case z_list=>k_is)
  (case z_tuple=>k_is)
  (case z_dict=>k_is)
  (case z_isinstance=>k_is)
  (case z_enumerate=>k_is)
  (case z_reversed=>k_is)
  (case z_sorted=>k_is)
  (case z_max=>k_is)
  (case z_min=>k_is)
  (case z_sum=>k_is)
  (case z_zip=>k_is)
