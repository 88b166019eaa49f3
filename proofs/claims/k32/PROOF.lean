import PyProof.Rows.All
import Wide.All
import OpenK.AllK
import Wide.FinOn
import Lean
import PyProof.EqAt
import PyProof.EqKinds
import PyProof.TupleCall
import PySem.Challenge.RW_nestwright_k32_whole_inner_ones_in_one_a
open Array renaming length_toList → dZ
open Bool renaming and_eq_true_iff → ao, false_ne_true → az, and_eq_true → aV, eq_iff_iff → cs, false_or → cK, false_eq_true → cT, not_eq_true' → dq, or_eq_true → eK, or_eq_true_iff → gu
open Int renaming ne_of_gt → aw, mul_pos → ax, zero_mul → aE, eq_of_mul_eq_mul_right → aH, natAbs_mul → aJ, natAbs_dvd_natAbs → aR, pow_zero → aW, natAbs_natCast → aZ, pow_succ → bf, mul_comm → bg, toNat_natCast → bo, mul_one → bu, mul_ne_zero → bA, pow_pos → bH, mul_assoc → bJ, mul_zero → bN, add_zero → bS, mul_eq_zero → bT, pow_ne_zero → ca, fmod_eq_emod_of_nonneg → cq, mul_fdiv_cancel_left → cy, pow_add → cB, one_mul → cC, zero_add → cF, fdiv_eq_ediv_of_nonneg → cO, mul_fdiv_cancel → da, emod_lt_of_pos → dg, mul_neg_of_pos_of_neg → dm, lt_trichotomy → dA, dvd_mul_right → dD, dvd_trans → dE, eq_ofNat_of_zero_le → dL, dvd_mul_of_dvd_left → dM, emod_nonneg → dU, dvd_add → dX, add_mul → dY, lt_or_gt_of_ne → eh, mul_dvd_mul → eV, natAbs_pow → e8, eq_of_mul_eq_mul_left → fh, dvd_mul_of_dvd_right → fj, fmod_nonneg_of_pos → fN, fmod_def → fQ, dvd_zero → fU, dvd_refl → fX, mul_pow → gr, gcd_eq_zero_iff → gA, sub_add_cancel → gF, fmod_lt_of_pos → gG, gcd_dvd_right → gN
open List renaming length_map → ab, getD_eq_getElem?_getD → ac, size_toArray → ai, getElem?_eq_some_iff → ak, getElem?_eq_getElem → aq, mem_cons → ar, mem_cons_of_mem → au, length_append → av, mem_cons_self → ay, getElem?_set_ne → aD, getElem?_map → aG, mem_of_getElem? → aI, getElem?_set → aK, getElem?_append_right → aL, length_take → aO, mem_append_right → aP, length_cons → aQ, mem_singleton → aS, length_set → aX, getElem?_append_left → aY, not_mem_nil → bh, map_append → bj, getElem?_eq_none → bq, replicate_succ → bw, filterMap_cons → bx, all_eq_true → bz, length_reverse → bC, take_length → bD, getElem?_eq_none_iff → bF, getD_cons_succ → bG, getElem?_reverse → bI, mem_filter → bK, length_eq_zero_iff → bP, map_cons → bW, mem_range → bX, flatten_cons → bZ, mem_append → b8, append_nil → b9, length_replicate → ce, mem_iff_getElem? → cL, mem_map → cP, length_pos_iff → cR, length_range → cU, getElem?_toArray → cV, nodup_cons → cY, getD_cons_zero → cZ, take_zero → de, pairwise_iff_getElem → dh, reverse_cons → dj, getElem?_take_of_lt → dw, lookup_cons → dF, getElem?_replicate → dG, getElem?_cons_succ → dH, any_eq_true → dI, getElem?_set_self → dN, dropLast_eq_take → dR, all_cons → d6, getElem?_take → d8, eq_nil_of_length_eq_zero → eI, of_mem_zip → eJ, drop_zero → eX, length_filterMap_le → fb, eq_of_mem_replicate → ff, any_cons → fg, take_of_length_le → fv, all_map → fw, length_singleton → fJ, length_filter_le → fL, mem_append_left → fY, length_dropLast → fZ, getElem?_range → gq, mem_filterMap → gx, filter_append → gy, filterMap_nil → gz, take_add_one → gB, pairwise_map → gC, foldl_append → gE, map_reverse → gK, length_drop → gL, getElem_map → gM
open Nat renaming mul_le_mul_left → ah, le_refl → aj, lt_or_ge → am, lt_of_lt_of_le → aA, le_trans → aB, zero_le → aC, ne_of_lt → aM, le_mul_of_pos_left → aN, succ_mul → aT, mul_le_mul → aU, le_mul_of_pos_right → br, mul_comm → bt, le_of_dvd → bv, mul_le_mul_right → bB, mul_succ → bE, sub_self → bM, lt_of_le_of_lt → bO, lt_irrefl → bQ, sub_zero → bR, eq_or_lt_of_le → bV, pow_pos → bY, eq_zero_or_pos → cb, pos_of_dvd_of_pos → cr, not_lt_zero → cu, pow_le_pow_right → cw, add_sub_cancel → cE, div_le_self → cJ, le_of_succ_le → cN, mul_assoc → cX, mul_lt_mul_of_pos_right → db, le_of_eq → dc, div_mul_cancel → df, pow_add → dr, mul_one → du, dvd_mul_left → dJ, zero_mul → dO, ne_of_gt → dP, mod_eq_zero_of_dvd → dQ, div_pos → dW, add_assoc → d7, pos_of_ne_zero → d9, succ_pos → eu, le_of_lt_succ → ev, le_of_lt → ez, gcd_dvd_left → eF, mul_lt_mul_of_pos_left → eY, mul_div_le → e6, eq_of_mul_eq_mul_right → e7, eq_of_mul_eq_mul_left → e9, dvd_trans → fi, gcd_pos_of_pos_left → ft, mul_zero → fB, gcd_comm → fE, dvd_of_mod_eq_zero → fF, add_zero → fI, one_mul → ga, mul_pos → gb, le_succ → gg, lcm_dvd → gh, add_le_add_right → gm, lt_mul_div_succ → gw, lt_succ_of_lt → gH, gcd_dvd_right → gJ
open Option renaming map_eq_some_iff → aa, ite_none_right_eq_some → ae, bind_eq_some_iff → af, ite_none_left_eq_some → eE, getD_none → gv
open Rat renaming intCast_mul → aF, pow_zero → cD, mul_eq_zero → cI, pow_succ → cQ, intCast_pow → eO, intCast_inj → eQ, intCast_add → eU, intCast_eq_zero_iff → fk
set_option Elab.async false
set_option linter.all false
set_option maxRecDepth 100000
set_option genSizeOf false
set_option bootstrap.genMatcherCode false
local macro_rules | `(tactic| omega) => `(tactic| lia)
namespace L2
open PySem PySem.Spec PyProof.Rows
abbrev Key:=Sum Int Str
def keyIs:Key->Value->Bool
 | .inl k,v=>Value.isInt k v
 | .inr x,v=>Value.isStrOf x v
def keyH (w:World):Key->Int
 | .inl k=>hashInt k
 | .inr x=>hashStr w x
theorem keyIs_shape:∀ {k:Key} {v:Value},keyIs k v=true->(∃ i t,k=Sum.inl i/\v=Value.int i t)\/(∃ x t,k=Sum.inr x/\v=Value.str x t)
 | .inl i,v,h=>by
  obtain ⟨t,e⟩:=Value.isInt_shape (k:=i) (v:=v) h
  exact .inl ⟨i,t,rfl,e⟩
 | .inr x,v,h=>by
  obtain ⟨t,e⟩:=Value.isStrOf_shape (x:=x) (v:=v) h
  exact .inr ⟨x,t,rfl,e⟩
theorem keyIs_int (i:Int) (t:Tok):keyIs (.inl i) (.int i t)=true:=by simp [keyIs,Value.isInt]
theorem keyIs_str (x:Str) (t:Tok):keyIs (.inr x) (.str x t)=true:=by simp [keyIs,Value.isStrOf]
theorem key_ll (a b:Int):decide ((Sum.inl a:Key)=Sum.inl b)=(a == b):=by
 by_cases e:a=b
 ·subst e;simp
 ·have h:¬ (Sum.inl a:Key)=Sum.inl b:=fun q=>e (Sum.inl.inj q)
  rw [decide_eq_false h]
  exact (beq_eq_false_iff_ne.mpr e).symm
theorem key_rr (a b:Str):decide ((Sum.inr a:Key)=Sum.inr b)=decide (a=b):=by
 by_cases e:a=b
 ·subst e;simp
 ·have h:¬ (Sum.inr a:Key)=Sum.inr b:=fun q=>e (Sum.inr.inj q)
  rw [decide_eq_false h,decide_eq_false e]
theorem key_lr (a:Int) (b:Str):decide ((Sum.inl a:Key)=Sum.inr b)=false:=decide_eq_false (fun q=>nomatch q)
theorem key_rl (a:Str) (b:Int):decide ((Sum.inr a:Key)=Sum.inl b)=false:=decide_eq_false (fun q=>nomatch q)
def mixKind (prog:Program) (w:World):PySem.KeyKind prog w Key where
 is:=keyIs
 hash:=keyH w
 inj:=fun v a b ha hb=>by
  rcases keyIs_shape ha with ⟨i,t,rfl,rfl⟩ | ⟨x,t,rfl,rfl⟩
  ·rcases keyIs_shape hb with ⟨j,u,rfl,e⟩ | ⟨y,u,rfl,e⟩
   ·injection e with e1 _;rw [e1]
   ·exact nomatch e
  ·rcases keyIs_shape hb with ⟨j,u,rfl,e⟩ | ⟨y,u,rfl,e⟩
   ·exact nomatch e
   ·injection e with e1 _;rw [e1]
 byValue:=fun k v h=>by
  rcases keyIs_shape h with ⟨i,t,rfl,rfl⟩ | ⟨x,t,rfl,rfl⟩ <;> rfl
 pyHash:=fun hv h=>by
  rcases keyIs_shape hv with ⟨i,t,rfl,rfl⟩ | ⟨x,t,rfl,rfl⟩
  ·exact wpAny_pyHash_int h
  ·exact wpAny_pyHash_str h
 eqBool:=fun hu hv h=>by
  rcases keyIs_shape hu with ⟨i,t,rfl,rfl⟩ | ⟨x,t,rfl,rfl⟩
  ·rcases keyIs_shape hv with ⟨j,u,rfl,rfl⟩ | ⟨y,u,rfl,rfl⟩
   ·rw [key_ll] at h;exact wpAny_eqBool_int h
   ·rw [key_lr] at h;exact SeqAt.EqAt.int_str i t y u _ _ _ _ h
  ·rcases keyIs_shape hv with ⟨j,u,rfl,rfl⟩ | ⟨y,u,rfl,rfl⟩
   ·rw [key_rl] at h;exact SeqAt.EqAt.str_int x t j u _ _ _ _ h
   ·rw [key_rr] at h;exact wpAny_eqBool_str h
 «strs» := fun k x t v h=>by
  rcases keyIs_shape h with ⟨i,u,rfl,e⟩ | ⟨y,u,rfl,e⟩
  ·exact nomatch e
  ·injection e with e1 _
   subst e1
   cases v <;> rfl
end L2
namespace L2
open PySem PySem.Spec PyProof.Rows
inductive V where
 | non | bl (b:Bool) | int (i:Int) | str (x:Str) | byt (b:Array UInt8) | flt (b:UInt64) | ref (a:Addr) | ty (n:String)
 deriving DecidableEq
def RelV:V->Value->Prop
 | .non,u=>u=Value.none
 | .bl b,u=>u=Value.bool b
 | .int i,u=>∃ t,u=Value.int i t
 | .str x,u=>∃ t,u=Value.str x t
 | .byt b,u=>∃ t,u=Value.bytes b t
 | .flt b,u=>∃ t,u=Value.float b t
 | .ref a,u=>u=Value.ref a
 | .ty n,u=>u=Value.type n
abbrev Vals:List V->List Value->Prop:=Paired RelV
theorem Vals.length {xs:List V} {us:List Value} (r:Vals xs us):xs.length=us.length:=Paired.length r
theorem Vals.get:∀ {xs:List V} {us:List Value} {i:Nat} {x:V},Vals xs us->xs[i]? = some x->∃ u,us[i]? = some u/\RelV x u
 | _,_,_,_,.nil,e=>by simp at e
 | _,_,0,_,.cons r _,e=>by simp at e;subst e;exact ⟨_,rfl,r⟩
 | _,_,i+1,x,.cons _ t,e=>by
  obtain ⟨u,h1,h2⟩:=Vals.get (i:=i) (x:=x) t (by simpa using e)
  exact ⟨u,by simpa using h1,h2⟩
theorem Vals.set {x:V} {u:Value} (r:RelV x u):∀ {xs:List V} {us:List Value} (i:Nat),Vals xs us->Vals (xs.set i x) (us.set i u)
 | _,_,_,.nil=>.nil
 | _,_,0,.cons _ t=>.cons r t
 | _,_,i+1,.cons q t=>.cons q (Vals.set r i t)
theorem Vals.append:∀ {xs ys:List V} {us ws:List Value},Vals xs us->Vals ys ws->Vals (xs++ys) (us++ws)
 | _,_,_,_,.nil,s=>s
 | _,_,_,_,.cons r t,s=>.cons r (Vals.append t s)
theorem Vals.take:∀ {xs:List V} {us:List Value} (n:Nat),Vals xs us->Vals (xs.take n) (us.take n)
 | _,_,0,_=>.nil
 | _,_,_+1,.nil=>.nil
 | _,_,n+1,.cons r t=>.cons r (Vals.take n t)
theorem Vals.drop:∀ {xs:List V} {us:List Value} (n:Nat),Vals xs us->Vals (xs.drop n) (us.drop n)
 | _,_,0,r=>r
 | _,_,_+1,.nil=>.nil
 | _,_,n+1,.cons _ t=>Vals.drop n t
def RelO:Option V->Option Value->Prop
 | some v,some u=>RelV v u
 | none,none=>True
 | _,_=>False
def KV {κ:Type}:List (κ×V)->List (κ×Value)->Prop:=Paired fun (p:κ×V) (q:κ×Value)=>p.1=q.1/\RelV p.2 q.2
def kV:Key->V
 | .inl i=>.int i
 | .inr x=>.str x
inductive HO where
  | lst (xs:List V)
  | tup (xs:List V)
  | dK (kvs:List (Key×V)) | dT (kvs:List (List Key×V))
  | set (S:Int->Bool) (n:Nat)
  | ins (C dx:Addr) (fs:List (Str×V))
  | own (x:Addr)
  | xd (fs:List (Str×V))
  | met (f x:Addr)
  | rng (lo hi:Int)
  | frz (o:Obj) (u:HO)
  | tbl (ps:Array Value)
  | ext (φ:Heap->Prop)
abbrev Hp:=Addr->Option HO
def upd (H:Hp) (a:Addr) (o:HO):Hp:=fun b=>if b=a then some o else H b
theorem upd_same {H:Hp} {a:Addr} {o:HO}:upd H a o a=some o:=by unfold upd;rw [if_pos rfl]
theorem upd_ne {H:Hp} {a b:Addr} {o:HO} (h:b≠a):upd H a o b=H b:=by unfold upd;rw [if_neg h]
theorem ne_of {H:Hp} {a b:Addr} {o u:HO} (h:H a=some o) (h':H b=some u) (d:o≠u):a≠b:=by
 intro e;subst e;rw [h] at h';exact d (Option.some.inj h')
theorem ne_of_none {H:Hp} {a b:Addr} {o:HO} (h:H a=some o) (h':H b=none):a≠b:=by
 intro e;subst e;rw [h] at h';cases h'
section
variable (P:Program) (w:World)
def ObjOk (H:Hp) (h:Heap) (a:Addr):HO->Prop
 | .lst xs=>xs.length<=sizeLine/\∃ (its:List Value) (n:Nat),Vals xs its/\h.get? a=some { cls:=.type "list",data:=.seq its.toArray n }
 | .tup xs=>xs.length<=sizeLine/\∃ its:List Value,Vals xs its/\IsTup h a its.toArray
 | .dK kvs=>kvs.length<=sizeLine/\(a == sysModules)=false/\∃ vs,KV kvs vs/\h.DictOf (mixKind P w) a vs
 | .dT kvs=>kvs.length<=sizeLine/\(a == sysModules)=false/\∃ xs:List (List Key×Addr×Value),
   Paired (fun (p:List Key×V) (q:List Key×Addr×Value)=>p.1=q.1/\H q.2.1=some (.tup (p.1.map kV))/\RelV p.2 q.2.2) kvs xs /\
   ∃ o es ep,h.get? a=some o/\o.ExactDict/\o.data = .dict es ep/\es.toList=xs.map (entryOfKey (tupleKind (mixKind P w)))/\(xs.map (·.1)).Nodup
 | .set S n=>h.SetOf (intKind P w) a S n
 | .ins C dx fs=>H dx=some (.own a)/\fs.length<=1000/\dx≠a/\h.get? a=some (PySem.W.instObj C dx) /\
   ∃ mA,h.Ns1 dx mA/\(∀ f,RelO (fs.lookup f) (mA f))/\PySem.Within mA (fs.map (·.1))
 | .own _=>∃ o,h.get? a=some o
 | .xd fs=>∃ mA,h.Ns1 a mA/\∀ f,RelO (fs.lookup f) (mA f)
 | .rng lo hi=>∃ t u v,h.get? a=some { cls:=.type "range",data:=.fields #[.int lo t,.int hi u,.int 1 v] }
 | .frz o u=>h.get? a=some o/\ObjOk H h a u
 | .tbl ps=>h.get? a=some { cls:=.none,data:=.fields ps }
 | .met f x=>h.get? a=some (PySem.W.methodObj (.ref f) (.ref x))
 | .ext φ=>φ h/\(∃ o,h.get? a=some o)/\∀ h1 h2:Heap,φ h1->(∀ o,h1.get? a=some o->h2.get? a=some o)->φ h2
def HOk (H:Hp) (h:Heap):Prop:=∀ a o,H a=some o->ObjOk P w H h a o
end
section
variable {P:Program} {w:World} {H H':Hp} {h h':Heap} {a:Addr} {o:HO}
theorem ObjOk.lt (x:ObjOk P w H h a o):a<h.objs.size:=by
 cases o with
 | lst xs=>obtain ⟨_,_,_,_,e⟩:=x;exact Heap.lt_size e
 | tup xs=>obtain ⟨_,_,_,p⟩:=x;exact p.lt
 | dK kvs=>obtain ⟨_,_,_,_,o,_,_,e,_⟩:=x;exact Heap.lt_size e
 | dT kvs=>obtain ⟨_,_,_,_,o,_,_,e,_⟩:=x;exact Heap.lt_size e
 | set S n=>obtain ⟨o,_,_,_,e,_⟩:=x;exact Heap.lt_size e
 | ins C dx fs=>obtain ⟨_,_,_,e,_⟩:=x;exact Heap.lt_size e
 | own y=>obtain ⟨_,e⟩:=x;exact Heap.lt_size e
 | xd fs=>obtain ⟨_,⟨_,_,_,e,_⟩,_⟩:=x;exact Heap.lt_size e
 | rng lo hi=>obtain ⟨_,_,_,e⟩:=x;exact Heap.lt_size e
 | frz ob u=>obtain ⟨e,_⟩:=x;exact Heap.lt_size e
 | tbl ps=>exact Heap.lt_size (show h.get? a=some _ from x)
 | met f y=>exact Heap.lt_size (show h.get? a=some _ from x)
 | ext φ=>obtain ⟨_,⟨_,e⟩,_⟩:=x;exact Heap.lt_size e
theorem Paired.mapP {α β:Type} {F G:α->β->Prop}:∀ {l₁:List α} {l₂:List β},Paired F l₁ l₂->(∀ a b,F a b->G a b)->Paired G l₁ l₂
 | _,_,.nil,_=>.nil
 | _,_,.cons r t,f=>.cons (f _ _ r) (Paired.mapP t f)
theorem ObjOk.stay (x:ObjOk P w H h a o) (k:∀ b u,(b=a\/H b=some (.own a))->h.get? b=some u->h'.get? b=some u)
  (ho:∀ b,H b=some (.own a)->H' b=some (.own a)) (ht:∀ b xs,H b=some (.tup xs)->H' b=some (.tup xs)):ObjOk P w H' h' a o:=by
 induction o with
 | lst xs=>obtain ⟨z,its,n,r,e⟩:=x;exact ⟨z,its,n,r,k _ _ (.inl rfl) e⟩
 | tup xs=>obtain ⟨z,its,r,ob,e,c⟩:=x;exact ⟨z,its,r,ob,k _ _ (.inl rfl) e,c⟩
 | dK kvs=>obtain ⟨z,y,vs,r,ob,es,ep,e,c⟩:=x;exact ⟨z,y,vs,r,ob,es,ep,k _ _ (.inl rfl) e,c⟩
 | dT kvs =>
  obtain ⟨z,y,xs,r,ob,es,ep,e,c⟩:=x
  exact ⟨z,y,xs,Paired.mapP r fun p q z=>⟨z.1,ht _ _ z.2.1,z.2.2⟩,ob,es,ep,k _ _ (.inl rfl) e,c⟩
 | set S n=>obtain ⟨ob,es,ep,t,e,c⟩:=x;exact ⟨ob,es,ep,t,k _ _ (.inl rfl) e,c⟩
 | ins C dx fs =>
  obtain ⟨d,z,ne,e,mA,⟨od,es,ep,e2,c⟩,r⟩:=x
  exact ⟨ho _ d,z,ne,k _ _ (.inl rfl) e,mA,⟨od,es,ep,k _ _ (.inr d) e2,c⟩,r⟩
 | own y=>obtain ⟨ob,e⟩:=x;exact ⟨ob,k _ _ (.inl rfl) e⟩
 | xd fs=>obtain ⟨mA,⟨od,es,ep,e,c⟩,r⟩:=x;exact ⟨mA,⟨od,es,ep,k _ _ (.inl rfl) e,c⟩,r⟩
 | rng lo hi=>obtain ⟨t,u,v,e⟩:=x;exact ⟨t,u,v,k _ _ (.inl rfl) e⟩
 | frz ob u ih=>obtain ⟨e,q⟩:=x;exact ⟨k _ _ (.inl rfl) e,ih q⟩
 | tbl ps =>
  have e:h.get? a=some { cls:=.none,data:=.fields ps }:=x
  show h'.get? a=some { cls:=.none,data:=.fields ps }
  exact k a _ (.inl rfl) e
 | met f y =>
  have e:h.get? a=some (PySem.W.methodObj (.ref f) (.ref y)):=x
  show h'.get? a=some (PySem.W.methodObj (.ref f) (.ref y))
  exact k a _ (.inl rfl) e
 | ext φ=>obtain ⟨p,⟨o,e⟩,st⟩:=x;exact ⟨st _ _ p fun o q=>k _ _ (.inl rfl) q,⟨o,k _ _ (.inl rfl) e⟩,st⟩
theorem HOk.lt (x:HOk P w H h) (e:H a=some o):a<h.objs.size:=(x a o e).lt
theorem HOk.fresh (x:HOk P w H h) (e:h.objs.size<=a):H a=none:=by
 cases q:H a with
 | none=>rfl
 | some u=>exact absurd (aA (x.lt q) e) (bQ _)
theorem HOk.kept (x:HOk P w H h) (k:∀ b u,h.get? b=some u->h'.get? b=some u):HOk P w H h':=fun a o e =>
 (x a o e).stay (fun b u _ q=>k b u q) (fun _ q=>q) fun _ _ q=>q
theorem HOk.laid (x:HOk P w H h) (k:∀ b u,h.get? b=some u->h'.get? b=some u) (hp:h.objs.size<=a) (new:ObjOk P w (upd H a o) h' a o):HOk P w (upd H a o) h':=fun b u e=>by
 have hn:=x.fresh hp
 by_cases hb:b=a
 ·subst hb;rw [upd_same] at e;cases e;exact new
 ·rw [upd_ne hb] at e
  exact (x b u e).stay (fun c v _ q=>k c v q) (fun c q=>by rw [upd_ne (ne_of_none q hn)];exact q) fun c xs q=>by rw [upd_ne (ne_of_none q hn)];exact q
end
def Rd (H:Hp) (a:Addr) (u:HO):Prop:=H a=some u\/∃ o,H a=some (.frz o u)
theorem Rd.ok {P:Program} {w:World} {H:Hp} {h:Heap} {a:Addr} {u:HO} (r:Rd H a u) (x:HOk P w H h):ObjOk P w H h a u:=by
 rcases r with r | ⟨o,r⟩
 ·exact x a u r
 ·obtain ⟨_,q⟩:=x a _ r
  exact q
def Mut:Option HO->Prop
 | some (.lst _)=>True
 | some (.dK _)=>True
 | some (.dT _)=>True
 | some (.set _ _)=>True
 | some (.ins _ _ _)=>True
 | some (.ext _)=>True
 | _=>False
section
variable {P:Program} {w:World} {H:Hp} {h h':Heap} {x e:Addr} {o':HO}
theorem HOk.write (ok:HOk P w H h) (mu:Mut (H x)) (he:e=x\/H e=some (.own x)) (k:∀ b u,b≠e->h.get? b=some u->h'.get? b=some u) (heo:∃ u,h'.get? e=some u)
  (new:ObjOk P w (upd H x o') h' x o'):HOk P w (upd H x o') h':=fun b u q=>by
 have nown:∀ c y,H c=some (.own y)->c≠x:=fun c y r z=>by subst z;rw [r] at mu;exact mu
 have ntup:∀ c xs,H c=some (.tup xs)->c≠x:=fun c xs r z=>by subst z;rw [r] at mu;exact mu
 by_cases hb:b=x
 ·subst hb;rw [upd_same] at q;cases q;exact new
 ·rw [upd_ne hb] at q
  by_cases hbe:b=e
  ·have q':H b=some (.own x):=by
    rcases he with z | z
    ·exact absurd (hbe.trans z) hb
    ·rw [hbe];exact z
   rw [q] at q';cases q'
   obtain ⟨v,hv⟩:=heo
   exact ⟨v,by rw [hbe];exact hv⟩
  ·refine (ok b u q).stay (fun c v hc r=>k c v ?_ r) (fun c r=>by rw [upd_ne (nown c b r)];exact r) fun c xs r=>by rw [upd_ne (ntup c xs r)];exact r
   rcases hc with rfl | hc
   ·exact hbe
   ·rintro rfl
    rcases he with z | z
    ·exact nown c b hc z
    ·rw [hc] at z;cases z;exact hb rfl
end
structure Un (fs ex:List Addr) (H H':Hp) (h h':Heap):Prop where
 keep:∀ b o,h.get? b=some o->H b=none->b ∉ fs->b ∉ ex->h'.get? b=some o
 slot:∀ b o,h.get? b=some o->H b=none->b∈fs->b ∉ ex->∃ sl,h'.get? b=some { o with slots:=sl }
 free:∀ b o,h.get? b=some o->H b=none->b ∉ ex->H' b=none
 there:∀ b o,h.get? b=some o->b ∉ ex->∃ o',h'.get? b=some o'
 tups:∀ b xs,H b=some (.tup xs)->H' b=some (.tup xs)
 frzs:∀ b o u,H b=some (.frz o u)->H' b=some (.frz o u)
 tbls:∀ b ps,H b=some (.tbl ps)->∃ more,H' b=some (.tbl (ps++more))
section
variable {fs fs' ex ex':List Addr} {H H1 H2:Hp} {h h1 h2 h':Heap} {a x e:Addr} {o:HO}
theorem Un.any (u:Un fs ex H H1 h h1) {b:Addr} {ob:Obj} (q:h.get? b=some ob) (n:H b=none) (hx:b ∉ ex):∃ sl,h1.get? b=some { ob with slots:=sl }:=by
 by_cases hb:b∈fs
 ·exact u.slot b ob q n hb hx
 ·exact ⟨ob.slots,u.keep b ob q n hb hx⟩
theorem Un.kept (k:∀ b u,h.get? b=some u->h'.get? b=some u):Un fs ex H H h h' :=
 ⟨fun b ob q _ _ _=>k b ob q,fun b ob q _ _ _=>⟨ob.slots,k b ob q⟩,fun _ _ _ n _=>n,fun b ob q _=>⟨ob,k b ob q⟩,fun _ _ q=>q,fun _ _ _ q=>q,fun _ ps q=>⟨#[],by rw [q];simp⟩⟩
theorem Un.refl:Un fs ex H H h h:=Un.kept fun _ _ q=>q
theorem Un.laid (k:∀ b u,h.get? b=some u->h'.get? b=some u) (hp:h.objs.size<=a) (hn:H a=none):Un fs ex H (upd H a o) h h' where
 keep:=fun b u q _ _ _=>k b u q
 slot:=fun b u q _ _ _=>⟨u.slots,k b u q⟩
 free:=fun b u q n _=>by rw [upd_ne (aM (aA (Heap.lt_size q) hp))];exact n
 there:=fun b u q _=>⟨u,k b u q⟩
 tups:=fun b xs q=>by rw [upd_ne (ne_of_none q hn)];exact q
 frzs:=fun b u xs q=>by rw [upd_ne (ne_of_none q hn)];exact q
 tbls:=fun b ps q=>⟨#[],by rw [upd_ne (ne_of_none q hn),q];simp⟩
theorem Un.write (mu:Mut (H x)) (he:e=x\/H e=some (.own x)) (k:∀ b u,b≠e->h.get? b=some u->h'.get? b=some u) (heo:∃ u,h'.get? e=some u):Un fs ex H (upd H x o) h h':=by
 have hx:∀ b,H b=none->b≠x:=fun b n z=>by subst z;rw [n] at mu;exact mu
 have hb:∀ b,H b=none->b≠e:=fun b n z=>by
  subst z
  rcases he with r | r
  ·exact hx b n r
  ·rw [n] at r;cases r
 have hm:∀ b u,H b=some u->¬ Mut (some u)->b≠x:=fun b u q nm z=>by subst z;rw [q] at mu;exact nm mu
 refine ⟨fun b u q n _ _=>k b u (hb b n) q,fun b u q n _ _=>⟨u.slots,k b u (hb b n) q⟩,fun b u q n _=>by rw [upd_ne (hx b n)];exact n,fun b u q _=>?_,
  fun b xs q=>by rw [upd_ne (hm b _ q fun z=>z)];exact q,fun b u xs q=>by rw [upd_ne (hm b _ q fun z=>z)];exact q,fun b ps q=>⟨#[],by rw [upd_ne (hm b _ q fun z=>z),q];simp⟩⟩
 by_cases hbe:b=e
 ·subst hbe;exact heo
 ·exact ⟨u,k b u hbe q⟩
end
def trk (h:Heap) (H:Hp):List Addr:=(List.range h.objs.size).filter fun a=>(H a).isSome
def hidT (h:Heap) (H:Hp):Heap:=PySem.W.hideAll h (trk h H)
theorem hidT_size (h:Heap) (H:Hp):(hidT h H).objs.size=h.objs.size:=PySem.W.hideAll_size _ _
theorem hidT_get {h:Heap} {H:Hp} {b:Addr} {o:Obj} (e:h.get? b=some o) (n:H b=none):(hidT h H).get? b=some o :=
 PySem.W.hideAll_get _ e fun hm=>by
  have q:(H b).isSome=true:=(bK.mp hm).2
  rw [n] at q;simp at q
theorem of_hidT {h:Heap} {H:Hp} {b:Addr} {o:Obj} (e:(hidT h H).get? b=some o):h.get? b=some o/\H b=none:=by
 have e':h.get? b=some o:=PySem.W.of_hideAll (trk h H) e
 refine ⟨e',?_⟩
 cases q:H b with
 | none=>rfl
 | some x =>
  have hm:b∈trk h H:=bK.mpr ⟨bX.mpr (Heap.lt_size e'),by simp [q]⟩
  have z:(hidT h H).get? b=none:=PySem.W.hideAll_none (trk h H) hm
  rw [z] at e;cases e
end L2
namespace L2
open PySem PySem.Spec PyProof.Rows
structure Mod (K:PySem.W.Frag) (mg:Str->Option Value) (base:Heap):Prop where
 kin:K.In base
 glob:base.Ns mainGlobals mg
 blt:∃ mb,base.Ns builtinsNs mb/\∀ x:Str,x ≠ "__name__" -> mb x=bootBuiltins x
 nolimit:base.NoLimit
structure Cx where
 prog:Program
 w:World
 K:PySem.W.Frag
 mg:Str->Option Value
 base:Heap
 A:Around
 N:List Str
 s₀:Shared
 H₀:Hp
 env:Env
 outer:List Env
 stack:List Env
 ex:List Addr
 fn:Str->Bool
 calm:Bool
 pn:List (Addr×Obj)
 xe:Value->Shared->Prop
def frs (l:List Env):List Addr:=l.filterMap (·.frame)
abbrev Cx.fs (X:Cx):List Addr:=frs X.outer
def Vis (sc:Scope) (x:Str):Prop:=sc.names.lookup x=some .local\/sc.names.lookup x=some .cell\/sc.names.lookup x=some .free
def Loc (sc:Scope) (x:Str):Prop:=sc.names.lookup x=some .local\/sc.names.lookup x=some .cell
def Look (env:Env) (h:Heap) (m:Str->Option Value) (x:Str) (u:Value):Prop :=
 (env.kindOf x=some .local/\m x=some u)\/((env.kindOf x=some .cell\/env.kindOf x=some .free)/\∃ c,env.cells.lookup x=some c/\h.IsCell c (some u))
structure Cx.Ok (X:Cx):Prop where
 mod:Mod X.K X.mg X.base
 kind:X.env.scope.kind = .function
 glob:X.env.globals=mainGlobals
 blt:X.env.builtins=builtinsNs
 above:X.s₀.heap.objs.size<=X.env.locals
 inj:∀ x y c,X.env.cells.lookup x=some c->X.env.cells.lookup y=some c->x=y
 has:∀ x,(X.env.kindOf x=some .cell\/X.env.kindOf x=some .free)->∃ c,X.env.cells.lookup x=some c
 cab:∀ x c,X.fn x=true->X.env.cells.lookup x=some c->X.s₀.heap.objs.size<=c
 hd:X.calm=true->X.A.handled=none
 frames:X.A.frames=some X.stack
 stk:X.stack=X.outer\/(X.stack=X.env::X.outer/\X.env.frame=some X.env.locals)
 exf:∀ b∈X.ex,b≠X.env.locals/\∀ x c,X.env.cells.lookup x=some c->c≠b
 bs:∀ b o,X.base.get? b=some o->X.s₀.heap.get? b=some o/\X.H₀ b=none
 bsz:X.base.objs.size<=X.s₀.heap.objs.size
 noex:∀ b o,X.base.get? b=some o->b ∉ X.ex
 exfs:∀ b∈X.ex,b ∉ X.fs
 funs:X.s₀.heap.FunFrames X.base X.outer
 frf:∀ b∈X.fs,X.H₀ b=none
 sr:X.base.NoSeer/\X.prog.given.tree=none
 rn:∃ e l,X.stack=e::l/\e.scope.isGenerator=false/\e.scope.isCoroutine=false/\e.builtins=builtinsNs/\e.globals=mainGlobals
structure Inv (X:Cx) (pins:List (Addr×Obj)) (σ:List (Option V)) (H:Hp) (s:Shared):Prop where
 ok:X.Ok
 os:s.os=X.s₀.os
 bare:AllBare s.gens
 base:Un X.fs X.ex X.H₀ H X.s₀.heap s.heap
 loc:∃ m,s.heap.Ns X.env.locals m/\∀ (i:Nat) (x:Str) (v:V),X.N[i]? = some x->σ[i]? = some (some v)->Vis X.env.scope x->∃ u,RelV v u/\Look X.env s.heap m x u
 cell:∀ x c,X.env.cells.lookup x=some c->∃ v,s.heap.IsCell c v
 free:H X.env.locals=none
 freeC:∀ x c,X.env.cells.lookup x=some c->H c=none
 pin:∀ p∈X.pn++pins,s.heap.get? p.1=some p.2/\H p.1=none/\p.1≠X.env.locals/\p.1 ∉ X.fs/\∀ v,p.2.data ≠ .cell v
 hok:HOk X.prog X.w H s.heap
 len:σ.length=X.N.length
section
variable {X:Cx} {pins:List (Addr×Obj)} {σ:List (Option V)} {H H':Hp} {s:Shared} {h':Heap}
theorem Cx.Ok.nofr (ok:X.Ok) {b:Addr} {o:Obj} (e:X.base.get? b=some o):b ∉ X.fs:=fun hb=>by
 have:=(ok.funs.mem hb).1
 rw [e] at this;cases this
theorem Inv.bs (I:Inv X pins σ H s):∀ b o,X.base.get? b=some o->s.heap.get? b=some o/\H b=none:=fun b o e =>
 ⟨I.base.keep b o (I.ok.bs b o e).1 (I.ok.bs b o e).2 (I.ok.nofr e) (I.ok.noex b o e),I.base.free b o (I.ok.bs b o e).1 (I.ok.bs b o e).2 (I.ok.noex b o e)⟩
theorem Inv.bk (I:Inv X pins σ H s):∀ b o,X.base.get? b=some o->s.heap.get? b=some o:=fun b o e=>(I.bs b o e).1
theorem Inv.mod (I:Inv X pins σ H s):Mod X.K X.mg X.base:=I.ok.mod
theorem Inv.kIn (I:Inv X pins σ H s):X.K.In s.heap:=I.ok.mod.kin.keeps I.bk
theorem Inv.nolimit (I:Inv X pins σ H s):s.heap.NoLimit:=I.ok.mod.nolimit.keeps I.bk
theorem Inv.lt (I:Inv X pins σ H s):X.env.locals<s.heap.objs.size:=let ⟨_,hn,_⟩:=I.loc;hn.lt
theorem Inv.sz (I:Inv X pins σ H s):X.s₀.heap.objs.size<=s.heap.objs.size:=aB I.ok.above (ez I.lt)
theorem Inv.nofs (I:Inv X pins σ H s) {a:Addr} (h:s.heap.objs.size<=a):a ∉ X.fs:=fun hb=>by
 obtain ⟨_,o,ho,_⟩:=I.ok.funs.mem hb
 exact absurd (aA (Heap.lt_size ho) (aB I.sz h)) (bQ _)
theorem Inv.cne (I:Inv X pins σ H s):∀ x c,X.env.cells.lookup x=some c->c≠X.env.locals:=fun x c e z=>by
 obtain ⟨v,o,ho,hd⟩:=I.cell x c e
 obtain ⟨m,⟨o',es,ep,ho',hd',_⟩,_⟩:=I.loc
 rw [z,ho'] at ho;cases ho;rw [hd'] at hd;cases hd
theorem Inv.funs (I:Inv X pins σ H s):s.heap.FunFrames X.base X.outer:=by
 have all:∀ (l:List Env),(∀ b∈frs l,b∈X.fs)->X.s₀.heap.FunFrames X.base l->s.heap.FunFrames X.base l:=by
  intro l
  induction l with
  | nil=>intro _ _;trivial
  | cons env r ih =>
   intro hs hl
   obtain ⟨hk,⟨L,o,hf,hn,ho,hd⟩,hr⟩:=hl
   have hL:L∈X.fs:=hs L (by unfold frs;rw [bx,hf];exact ay)
   obtain ⟨sl,e⟩:=I.base.slot L o ho (I.ok.frf L hL) hL fun z=>I.ok.exfs L z hL
   exact ⟨hk,⟨L,_,hf,hn,e,hd⟩,ih (fun b hb=>hs b (by unfold frs;rw [bx,hf];exact au _ hb)) hr⟩
 exact all X.outer (fun _ hb=>hb) I.ok.funs
theorem Inv.stack (I:Inv X pins σ H s):s.heap.FunFrames X.base X.stack:=by
 rcases I.ok.stk with e | ⟨e,hf⟩
 ·rw [e];exact I.funs
 ·rw [e]
  obtain ⟨m,hn,_⟩:=I.loc
  refine .cons (by rw [I.ok.kind];decide) hf hn ?_ I.funs
  exact Heap.get?_none_of_le (aB I.ok.bsz I.ok.above)
theorem Inv.stkSub (I:Inv X pins σ H s):∀ b∈frs X.stack,b∈X.env.locals::X.fs:=fun b hb=>by
 rcases I.ok.stk with e | ⟨e,hf⟩
 ·rw [e] at hb;exact au _ hb
 ·rw [e] at hb
  unfold frs at hb
  rw [bx,hf] at hb
  exact hb
theorem Inv.stkFree (I:Inv X pins σ H s):∀ b∈frs X.stack,H b=none:=fun b hb=>by
 rcases ar.mp (I.stkSub b hb) with e | hb
 ·rw [e];exact I.free
 ·obtain ⟨_,o,ho,_⟩:=I.ok.funs.mem hb
  exact I.base.free b o ho (I.ok.frf b hb) fun z=>I.ok.exfs b z hb
theorem Inv.step {g':Array GenState} {t':Nat} {d':Drawn} {ch:List Addr} (I:Inv X pins σ H s)
  (hch:∀ b∈ch,(b∈X.ex\/X.s₀.heap.objs.size<=b)/\b≠X.env.locals/\(∀ x c,X.env.cells.lookup x=some c->c≠b)/\∀ p∈X.pn++pins,p.1≠b)
  (keep:∀ b o,b≠X.env.locals->b ∉ X.fs->b ∉ ch->s.heap.get? b=some o->H b=none->h'.get? b=some o)
  (slot:∀ b o,b≠X.env.locals->b∈X.fs->b ∉ ch->s.heap.get? b=some o->H b=none->∃ sl,h'.get? b=some { o with slots:=sl }) (free:∀ b o,b ∉ ch->s.heap.get? b=some o->H b=none->H' b=none)
  (there:∀ b o,b ∉ ch->s.heap.get? b=some o->∃ o',h'.get? b=some o')
  (tups:∀ b xs,H b=some (.tup xs)->H' b=some (.tup xs)) (frzs:∀ b o u,H b=some (.frz o u)->H' b=some (.frz o u)) (tbls:∀ b ps,H b=some (.tbl ps)->∃ more,H' b=some (.tbl (ps++more)))
  (ns:∀ m,s.heap.Ns X.env.locals m->h'.Ns X.env.locals m) (hok:HOk X.prog X.w H' h') (hg:AllBare g') :
  Inv X pins σ H' { s with heap:=h',gens:=g',drawn:=d',toks:=t' }:=by
 have neL:∀ b o,X.s₀.heap.get? b=some o->b≠X.env.locals:=fun b o e=>aM (aA (Heap.lt_size e) I.ok.above)
 have neC:∀ b o,X.s₀.heap.get? b=some o->b ∉ X.ex->b ∉ ch:=fun b o e hx hb=>by
  rcases (hch b hb).1 with z | z
  ·exact hx z
  ·exact absurd (aA (Heap.lt_size e) z) (bQ _)
 have cellK:∀ x c,X.env.cells.lookup x=some c->∀ v,s.heap.IsCell c v->h'.IsCell c v:=fun x c e v ⟨o,ho,hd⟩=>by
  have nch:c ∉ ch:=fun z=>(hch c z).2.2.1 x c e rfl
  by_cases hc:c∈X.fs
  ·obtain ⟨sl,q⟩:=slot c o (I.cne x c e) hc nch ho (I.freeC x c e)
   exact ⟨_,q,hd⟩
  ·exact ⟨o,keep c o (I.cne x c e) hc nch ho (I.freeC x c e),hd⟩
 refine ⟨I.ok,I.os,hg,⟨fun b o e n hb hx=>?_,fun b o e n hb hx=>?_,fun b o e n hx=>?_,fun b o e hx=>?_,fun b xs e=>tups b xs (I.base.tups b xs e),fun b o xs e=>frzs b o xs (I.base.frzs b o xs e),fun b ps e=>?_⟩,?_,fun x c e=>?_,?_,fun x c e=>?_,fun p hp=>?_,hok,I.len⟩
 ·exact keep b o (neL b o e) hb (neC b o e hx) (I.base.keep b o e n hb hx) (I.base.free b o e n hx)
 ·obtain ⟨sl,e1⟩:=I.base.slot b o e n hb hx
  obtain ⟨sl',e2⟩:=slot b _ (neL b o e) hb (neC b o e hx) e1 (I.base.free b o e n hx)
  exact ⟨sl',e2⟩
 ·obtain ⟨o',e1⟩:=I.base.there b o e hx
  exact free b o' (neC b o e hx) e1 (I.base.free b o e n hx)
 ·obtain ⟨o',e1⟩:=I.base.there b o e hx
  exact there b o' (neC b o e hx) e1
 ·obtain ⟨m1,e1⟩:=I.base.tbls b ps e
  obtain ⟨m2,e2⟩:=tbls b _ e1
  exact ⟨m1++m2,by rw [e2,Array.append_assoc]⟩
 ·obtain ⟨m,hn,hl⟩:=I.loc
  refine ⟨m,ns m hn,fun i x v e1 e2 e3=>?_⟩
  obtain ⟨u,r,l⟩:=hl i x v e1 e2 e3
  refine ⟨u,r,?_⟩
  rcases l with l | ⟨k,c,e,z⟩
  ·exact .inl l
  ·exact .inr ⟨k,c,e,cellK x c e _ z⟩
 ·obtain ⟨v,z⟩:=I.cell x c e
  exact ⟨v,cellK x c e v z⟩
 ·obtain ⟨m,⟨o,_,_,ho,_⟩,_⟩:=I.loc
  exact free _ o (fun z=>(hch _ z).2.1 rfl) ho I.free
 ·obtain ⟨v,o,ho,hd⟩:=I.cell x c e
  exact free c o (fun z=>(hch c z).2.2.1 x c e rfl) ho (I.freeC x c e)
 ·obtain ⟨e,n,ne,nf,d⟩:=I.pin p hp
  have nch:p.1 ∉ ch:=fun z=>(hch p.1 z).2.2.2 p hp rfl
  exact ⟨keep p.1 p.2 ne nf nch e n,free p.1 p.2 nch e n,ne,nf,d⟩
theorem Inv.un {t':Nat} (I:Inv X pins σ H s) (u:Un X.fs [] H H' s.heap h') (hok:HOk X.prog X.w H' h'):Inv X pins σ H' { s with heap:=h',toks:=t' }:=by
 obtain ⟨m,⟨o,es,ep,ho,r⟩,_⟩:=id I.loc
 obtain ⟨sl,hL⟩:=u.any ho I.free (by simp)
 exact I.step (g':=s.gens) (d':=s.drawn) (ch:=[]) (fun _ z=>nomatch z) (fun b o _ hb _ e n=>u.keep b o e n hb (by simp)) (fun b o _ hb _ e n=>u.slot b o e n hb (by simp)) (fun b o _ e n=>u.free b o e n (by simp)) (fun b o _ e=>u.there b o e (by simp)) u.tups u.frzs u.tbls (fun m' hm=>by
  obtain ⟨o',es',ep',ho',r'⟩:=hm
  rw [ho] at ho';cases ho'
  exact ⟨_,es',ep',hL,r'⟩) hok I.bare
theorem Inv.call {g':Array GenState} {t':Nat} {d':Drawn} {ch:List Addr} (I:Inv X pins σ H s) (u:Un (frs X.stack) ch H H' s.heap h') (hok:HOk X.prog X.w H' h') (hg:AllBare g')
  (hch:∀ b∈ch,(b∈X.ex\/X.s₀.heap.objs.size<=b)/\b≠X.env.locals/\(∀ x c,X.env.cells.lookup x=some c->c≠b)/\∀ p∈X.pn++pins,p.1≠b) :
  Inv X pins σ H' { s with heap:=h',gens:=g',drawn:=d',toks:=t' }:=by
 obtain ⟨m,⟨o,es,ep,ho,r⟩,_⟩:=id I.loc
 obtain ⟨sl,hL⟩:=u.any ho I.free fun z=>(hch _ z).2.1 rfl
 exact I.step (ch:=ch) hch (fun b o hL hb hc e n=>u.keep b o e n (fun z=>(ar.mp (I.stkSub b z)).elim hL hb) hc) (fun b o _ _ hc e n=>u.any e n hc) (fun b o hc e n=>u.free b o e n hc) (fun b o hc e=>u.there b o e hc) u.tups u.frzs u.tbls (fun m' hm=>by
  obtain ⟨o',es',ep',ho',r'⟩:=hm
  rw [ho] at ho';cases ho'
  exact ⟨_,es',ep',hL,r'⟩) hok hg
theorem Inv.turned {t':Nat} {it:Addr} (I:Inv X pins σ H s) (k:∀ b o,b≠it->s.heap.get? b=some o->h'.get? b=some o) (hn:H it=none) (hL:it≠X.env.locals)
  (h1:it∈X.ex\/X.s₀.heap.objs.size<=it) (h2:∀ x c,X.env.cells.lookup x=some c->c≠it) (h3:∀ p∈X.pn++pins,p.1≠it):Inv X pins σ H { s with heap:=h',toks:=t' }:=by
 have nit:∀ b u,H b=some u->b≠it:=fun b u e z=>by rw [z,hn] at e;cases e
 refine I.step (g':=s.gens) (d':=s.drawn) (ch:=[it]) (fun b hb=>?_) (fun b o _ _ hc e _=>k b o (fun z=>hc (by simp [z])) e) (fun b o _ _ hc e _=>⟨o.slots,k b o (fun z=>hc (by simp [z])) e⟩) (fun _ _ _ _ n=>n)
  (fun b o hc e=>⟨o,k b o (fun z=>hc (by simp [z])) e⟩) (fun _ _ e=>e) (fun _ _ _ e=>e) (fun b ps e=>⟨#[],by rw [e];simp⟩) (fun m hm=>?_) (fun b u e=>?_) I.bare
 ·have e:b=it:=by simpa using hb
  subst e
  exact ⟨h1,hL,h2,h3⟩
 ·obtain ⟨o,es,ep,ho,r⟩:=hm
  exact ⟨o,es,ep,k _ o (Ne.symm hL) ho,r⟩
 ·refine (I.hok b u e).stay (fun c v hc q=>k c v ?_ q) (fun _ q=>q) fun _ _ q=>q
  rcases hc with z | z
  ·rw [z];exact nit b u e
  ·exact nit c _ z
theorem Inv.tok (I:Inv X pins σ H s) (t:Nat):Inv X pins σ H { s with toks:=t }:=I.un (h':=s.heap) (t':=t) Un.refl I.hok
theorem Inv.kept {t':Nat} (I:Inv X pins σ H s) (k:∀ b u,s.heap.get? b=some u->h'.get? b=some u):Inv X pins σ H { s with heap:=h',toks:=t' }:=I.un (Un.kept k) (I.hok.kept k)
theorem Inv.laid {a:Addr} {o:HO} {t':Nat} (I:Inv X pins σ H s) (k:∀ b u,s.heap.get? b=some u->h'.get? b=some u) (hp:s.heap.objs.size<=a) (new:ObjOk X.prog X.w (upd H a o) h' a o) :
  Inv X pins σ (upd H a o) { s with heap:=h',toks:=t' }:=I.un (Un.laid k hp (I.hok.fresh hp)) (I.hok.laid k hp new)
theorem Inv.write {x e:Addr} {o:HO} {t':Nat} (I:Inv X pins σ H s) (mu:Mut (H x)) (he:e=x\/H e=some (.own x)) (k:∀ b u,b≠e->s.heap.get? b=some u->h'.get? b=some u) (heo:∃ u,h'.get? e=some u)
  (new:ObjOk X.prog X.w (upd H x o) h' x o):Inv X pins σ (upd H x o) { s with heap:=h',toks:=t' }:=I.un (Un.write mu he k heo) (I.hok.write mu he k heo new)
theorem Inv.pins_of {pins':List (Addr×Obj)} (I:Inv X pins σ H s) (h:∀ p∈pins',s.heap.get? p.1=some p.2/\H p.1=none/\p.1≠X.env.locals/\p.1 ∉ X.fs/\∀ v,p.2.data ≠ .cell v):Inv X pins' σ H s :=
 ⟨I.ok,I.os,I.bare,I.base,I.loc,I.cell,I.free,I.freeC,fun p hp=>(b8.mp hp).elim (fun z=>I.pin p (fY _ z)) (h p),I.hok,I.len⟩
theorem nodup_ix {N:List Str} (hN:N.Nodup) {i j:Nat} {x:Str} (a:N[i]? = some x) (b:N[j]? = some x):i=j:=by
 obtain ⟨h1,e1⟩:=ak.mp a
 obtain ⟨h2,e2⟩:=ak.mp b
 exact (List.getElem_inj hN).mp (e1.trans e2.symm)
theorem store_ok2 {M:Model} {A:Around} {E:Value->Shared->Prop} {i:Nat} {x:Str} {v:V} {u:Value} {Q:Unit->Shared->Prop} (I:Inv X pins σ H s) (hN:X.N.Nodup) (hi:X.N[i]? = some x) (hx:Loc X.env.scope x) (r:RelV v u)
  (h:∀ s',Inv X pins (σ.set i (some v)) H s'->(∃ a,Heap.SameBut a s.heap s'.heap/\(a=X.env.locals\/X.env.cells.lookup x=some a))->Q () s') (hf:X.fn x=true\/X.env.scope.names.lookup x=some .local:=by first | exact .inl rfl | exact .inr rfl | assumption):wpAny M A (storeName X.env x u) Q E s:=by
 obtain ⟨m,hn,hl⟩:=id I.loc
 have hcls:(X.env.scope.kind == .class || (X.env.scope.kind == .module && X.env.locals != X.env.globals))=false:=by rw [I.ok.kind];rfl
 have hiσ:i<σ.length:=by rw [I.len];exact (ak.mp hi).1
 have cne:=I.cne
 have tracked:∀ {a:Addr} {h':Heap},(∃ o,s.heap.get? a=some o/\H a=none)->Heap.SameBut a s.heap h'->HOk X.prog X.w H h':=fun {a h'} ha hs b ob e=>by
  obtain ⟨_,_,hfree⟩:=ha
  refine (I.hok b ob e).stay (fun c w' hc q=>(hs.2 c ?_).trans q) (fun _ q=>q) fun _ _ q=>q
  rintro rfl
  rcases hc with rfl | hc
  ·rw [hfree] at e;cases e
  ·rw [hfree] at hc;cases hc
 rcases hx with hk | hk
 ·refine wpAny_storeName_local hk hn (fun h' hn' hs=>?_) hcls
  obtain ⟨oL,_,_,hoL,_⟩:=id hn
  refine h _ ⟨I.ok,I.os,I.bare,⟨fun b o e n hb hx=>?_,fun b o e n hb hx=>?_,I.base.free,fun b o e hx=>?_,I.base.tups,I.base.frzs,I.base.tbls⟩,⟨_,hn',fun j y v' e1 e2 e3=>?_⟩,fun y c e=>?_,I.free,I.freeC,fun p hp=>?_,tracked ⟨oL,hoL,I.free⟩ hs,by simpa using I.len⟩ ⟨_,hs,.inl rfl⟩
  ·exact (hs.2 b (aM (aA (Heap.lt_size e) I.ok.above))).trans (I.base.keep b o e n hb hx)
  ·obtain ⟨sl,e1⟩:=I.base.slot b o e n hb hx
   exact ⟨sl,(hs.2 b (aM (aA (Heap.lt_size e) I.ok.above))).trans e1⟩
  ·obtain ⟨o',e1⟩:=I.base.there b o e hx
   exact ⟨o',(hs.2 b (aM (aA (Heap.lt_size e) I.ok.above))).trans e1⟩
  ·by_cases hj:j=i
   ·subst hj
    rw [hi] at e1;cases e1
    rw [dN hiσ] at e2
    cases e2
    exact ⟨u,r,.inl ⟨hk,by simp⟩⟩
   ·rw [aD (Ne.symm hj)] at e2
    obtain ⟨u',r',q⟩:=hl j y v' e1 e2 e3
    refine ⟨u',r',?_⟩
    rcases q with ⟨k,e⟩ | ⟨k,c,e,z⟩
    ·refine .inl ⟨k,?_⟩
     have:y≠x:=fun e=>hj (nodup_ix hN e1 (e ▸ hi))
     simp [this,e]
    ·exact .inr ⟨k,c,e,z.sameBut hs (cne y c e)⟩
  ·obtain ⟨w',z⟩:=I.cell y c e
   exact ⟨w',z.sameBut hs (cne y c e)⟩
  ·obtain ⟨e,n,ne,nf,d⟩:=I.pin p hp
   exact ⟨(hs.2 p.1 ne).trans e,n,ne,nf,d⟩
 ·have hfn:X.fn x=true:=by
   rcases hf with z | z
   ·exact z
   ·rw [z] at hk;cases hk
  obtain ⟨c,hc⟩:=I.ok.has x (.inl hk)
  obtain ⟨w',z⟩:=I.cell x c hc
  refine wpAny_storeName_cell I.ok.kind hk hc z (fun h' hc' hs=>?_)
  obtain ⟨oc,hoc,hocd⟩:=id z
  refine h { s with heap:=h' } ⟨I.ok,I.os,I.bare,⟨fun b o e n hb hx=>?_,fun b o e n hb hx=>?_,I.base.free,fun b o e hx=>?_,I.base.tups,I.base.frzs,I.base.tbls⟩,⟨m,hn.sameBut hs (Ne.symm (cne x c hc)),fun j y v' e1 e2 e3=>?_⟩,fun y c' e=>?_,I.free,I.freeC,fun p hp=>?_,tracked ⟨oc,hoc,I.freeC x c hc⟩ hs,by simpa using I.len⟩ ⟨c,hs,.inr hc⟩
  ·exact (hs.2 b (aM (aA (Heap.lt_size e) (I.ok.cab x c hfn hc)))).trans (I.base.keep b o e n hb hx)
  ·obtain ⟨sl,e1⟩:=I.base.slot b o e n hb hx
   exact ⟨sl,(hs.2 b (aM (aA (Heap.lt_size e) (I.ok.cab x c hfn hc)))).trans e1⟩
  ·obtain ⟨o',e1⟩:=I.base.there b o e hx
   exact ⟨o',(hs.2 b (aM (aA (Heap.lt_size e) (I.ok.cab x c hfn hc)))).trans e1⟩
  ·by_cases hj:j=i
   ·subst hj
    rw [hi] at e1;cases e1
    rw [dN hiσ] at e2
    cases e2
    exact ⟨u,r,.inr ⟨.inl hk,c,hc,hc'⟩⟩
   ·rw [aD (Ne.symm hj)] at e2
    obtain ⟨u',r',q⟩:=hl j y v' e1 e2 e3
    refine ⟨u',r',?_⟩
    rcases q with q | ⟨k,c',e,z'⟩
    ·exact .inl q
    ·refine .inr ⟨k,c',e,z'.sameBut hs ?_⟩
     rintro rfl
     exact hj (nodup_ix hN e1 (I.ok.inj _ _ _ e hc ▸ hi))
  ·by_cases hcc:c'=c
   ·subst hcc;exact ⟨_,hc'⟩
   ·obtain ⟨w2,z2⟩:=I.cell y c' e
    exact ⟨w2,z2.sameBut hs hcc⟩
  ·obtain ⟨e,n,ne,nf,d⟩:=I.pin p hp
   refine ⟨(hs.2 p.1 ?_).trans e,n,ne,nf,d⟩
   intro q
   rw [q,hoc] at e
   have q':oc=p.2:=Option.some.inj e
   exact d w' (by rw [← q'];exact hocd)
theorem store_ok {M:Model} {A:Around} {E:Value->Shared->Prop} {i:Nat} {x:Str} {v:V} {u:Value} {Q:Unit->Shared->Prop} (I:Inv X pins σ H s) (hN:X.N.Nodup) (hi:X.N[i]? = some x) (hx:Loc X.env.scope x) (r:RelV v u)
  (h:∀ s',Inv X pins (σ.set i (some v)) H s'->Q () s') (hf:X.fn x=true\/X.env.scope.names.lookup x=some .local:=by first | exact .inl rfl | exact .inr rfl | assumption):wpAny M A (storeName X.env x u) Q E s :=
 store_ok2 I hN hi hx r (fun s' I' _=>h s' I') hf
theorem Inv.call' {s':Shared} {ch:List Addr} (I:Inv X pins σ H s) (ho:s'.os=s.os) (u:Un (frs X.stack) ch H H' s.heap s'.heap) (hok:HOk X.prog X.w H' s'.heap) (hg:AllBare s'.gens)
  (hch:∀ b∈ch,(b∈X.ex\/X.s₀.heap.objs.size<=b)/\b≠X.env.locals/\(∀ x c,X.env.cells.lookup x=some c->c≠b)/\∀ p∈X.pn++pins,p.1≠b):Inv X pins σ H' s':=by
 obtain ⟨h',g',d',t',o'⟩:=s'
 have e:o'=s.os:=ho
 subst e
 exact I.call (g':=g') (t':=t') (d':=d') u hok hg hch
end
abbrev XK:=Value->Option Addr->Hp->Prop
abbrev St:=List (Option V)
abbrev VK:=V->Hp->Prop
abbrev TE:=St->Hp->VK->Prop
abbrev TT:=St->Hp->(Bool->Hp->Prop)->Prop
abbrev TA:=St->Hp->(List V->Hp->Prop)->Prop
structure Ends where
 nx:St->Hp->Prop
 rt:VK
 bk:St->Hp->Prop:=fun _ _=>False
 ct:St->Hp->Prop:=fun _ _=>False
abbrev TS:=Ends->St->Hp->Prop
def EP (X:Cx) (pins:List (Addr×Obj)) (σ:St) (Q:VK) (u:Value) (s':Shared):Prop:=∃ v H',Inv X pins σ H' s'/\RelV v u/\Q v H'
def TP (X:Cx) (pins:List (Addr×Obj)) (σ:St) (Q:Bool->Hp->Prop) (b:Bool) (s':Shared):Prop:=∃ H',Inv X pins σ H' s'/\Q b H'
def AP (X:Cx) (pins:List (Addr×Obj)) (σ:St) (Q:List V->Hp->Prop) (us:List Value) (s':Shared):Prop:=∃ vs H',Inv X pins σ H' s'/\Vals vs us/\Q vs H'
def SP (X:Cx) (pins:List (Addr×Obj)) (D:Ends) (f:Flow) (s':Shared):Prop :=
 match f with
 | .next=>∃ σ' H',Inv X pins σ' H' s'/\D.nx σ' H'
 | .brk=>∃ σ' H',Inv X pins σ' H' s'/\D.bk σ' H'
 | .cont=>∃ σ' H',Inv X pins σ' H' s'/\D.ct σ' H'
 | .ret u=>∃ v σ' H',Inv X pins σ' H' s'/\RelV v u/\D.rt v H'
def PE (X:Cx) (e:Expr) (t:TE):Prop :=
 ∀ (pins:List (Addr×Obj)) (s:Shared) (σ:St) (H:Hp) (Q:VK),Inv X pins σ H s->t σ H Q->wpAny (model X.prog X.w) X.A (eval e X.env) (EP X pins σ Q) X.xe s
def PT (X:Cx) (e:Expr) (t:TT):Prop :=
 ∀ (pins:List (Addr×Obj)) (s:Shared) (σ:St) (H:Hp) (Q:Bool->Hp->Prop),Inv X pins σ H s->t σ H Q->wpAny (model X.prog X.w) X.A (isTrue e X.env (eval e X.env)) (TP X pins σ Q) X.xe s
def PW (X:Cx) (e:Expr) (t:TT):Prop :=
 ∀ (whole:Sem Value) (pins:List (Addr×Obj)) (s:Shared) (σ:St) (H:Hp) (Q:Bool->Hp->Prop),Inv X pins σ H s->t σ H Q->wpAny (model X.prog X.w) X.A (isTrue e X.env whole) (TP X pins σ Q) X.xe s
theorem PW.pt {X:Cx} {e:Expr} {t:TT} (h:PW X e t):PT X e t:=h _
def PA (X:Cx) (es:List Expr) (t:TA):Prop :=
 ∀ (pos:Pos) (pins:List (Addr×Obj)) (s:Shared) (σ:St) (H:Hp) (Q:List V->Hp->Prop),Inv X pins σ H s->t σ H Q->wpAny (model X.prog X.w) X.A (spliced (backTo pos (starEach es X.env))) (AP X pins σ Q) X.xe s
def PS (X:Cx) (st:Stmt) (t:TS):Prop :=
 ∀ (pins:List (Addr×Obj)) (s:Shared) (σ:St) (H:Hp) (D:Ends),Inv X pins σ H s->t D σ H->wpAny (model X.prog X.w) X.A (exec st X.env) (SP X pins D) X.xe s
def PSs (X:Cx) (st:List Stmt) (t:TS):Prop :=
 ∀ (pins:List (Addr×Obj)) (s:Shared) (σ:St) (H:Hp) (D:Ends),Inv X pins σ H s->t D σ H->wpAny (model X.prog X.w) X.A (execs st X.env) (SP X pins D) X.xe s
theorem thn {α:Type} {t:Sem α} {Q Q':α->Shared->Prop} {M:Model} {A:Around} {E:Value->Shared->Prop} {s:Shared} (h:wpAny M A t Q E s) (hQ:∀ a s,Q a s->Q' a s):wpAny M A t Q' E s:=wpAny_mono h hQ fun _ _ x=>x
end L2
namespace L2
open PySem PySem.Spec PyProof.Rows
section
variable {X:Cx}
def tVar (i:Nat):TE:=fun σ H Q=>∃ v,σ[i]? = some (some v)/\Q v H
def tC (v:V):TE:=fun _ H Q=>Q v H
theorem pe_var {i:Nat} {x:Str} {pos:Pos} (hN:X.N[i]? = some x) (hv:Vis X.env.scope x) (hd:(x == ("__debug__" : Str))=false:=by decide) (hcd:(x == ("__classdict__" : Str))=false:=by decide):PE X (.Name x pos) (tVar i):=by
 intro pins s σ H Q I h
 obtain ⟨v,e,h⟩:=h
 obtain ⟨m,hn,hl⟩:=I.loc
 obtain ⟨u,r,l⟩:=hl i x v hN e hv
 have fin:EP X pins σ Q u s:=⟨v,H,I,r,h⟩
 rcases l with ⟨hk,hm⟩ | ⟨hk,c,hc,hcell⟩
 ·exact wpAny_Name (wpAny_loadName_local I.ok.kind hk hn hm fin) hd
 ·rcases hk with hk | hk
  ·exact wpAny_Name (wpAny_loadName_cell I.ok.kind hk hc hcell fin) hd
  ·exact wpAny_Name (wpAny_loadName_free I.ok.kind hk hc hcell fin hcd) hd
theorem pe_int {i j pos}:PE X (.Constant (.int i) j pos) (tC (.int i)):=fun _ _ _ H _ I h=>wpAny_Constant_int ⟨.int i,H,I.tok _,⟨_,rfl⟩,h⟩
theorem pe_bl {b j pos}:PE X (.Constant (.bool b) j pos) (tC (.bl b)):=fun _ _ _ H _ I h=>Constant_bool ⟨.bl b,H,I,rfl,h⟩
theorem pe_non {j pos}:PE X (.Constant .none j pos) (tC .non):=fun _ _ _ H _ I h=>Constant_none ⟨.non,H,I,rfl,h⟩
theorem pe_str {x j pos}:PE X (.Constant (.str x) j pos) (tC (.str x)):=fun _ _ _ H _ I h=>Calls.Constant_str ⟨.str x,H,I.tok _,⟨_,rfl⟩,h⟩
def Gl (X:Cx) (x:Str):Prop:=X.env.kindOf x=some .globalImplicit
theorem ld_glob {E:Value->Shared->Prop} {pins:List (Addr×Obj)} {s:Shared} {σ:St} {H:Hp} {x:Str} {u:Value} {pos:Pos} {Q:Value->Shared->Prop} (I:Inv X pins σ H s) (hg:Gl X x) (hm:X.mg x=some u) (h:Q u s)
  (hd:(x == ("__debug__" : Str))=false:=by decide):wpAny (model X.prog X.w) X.A (eval (.Name x pos) X.env) Q E s :=
 Calls.Name_function_global I.ok.kind hg (Calls.loadGlobal_global (by rw [I.ok.glob];exact I.mod.glob.keeps I.bk) hm h) hd
theorem ld_blt {E:Value->Shared->Prop} {pins:List (Addr×Obj)} {s:Shared} {σ:St} {H:Hp} {x:Str} {u:Value} {pos:Pos} {Q:Value->Shared->Prop} (I:Inv X pins σ H s) (hg:Gl X x) (hm:X.mg x=none) (hv:bootBuiltins x=some u) (h:Q u s)
  (hn:x ≠ "__name__" := by decide) (hd:(x == ("__debug__" : Str))=false:=by decide):wpAny (model X.prog X.w) X.A (eval (.Name x pos) X.env) Q E s:=by
 obtain ⟨mb,h1,h2⟩:=I.mod.blt
 exact Calls.Name_function_global I.ok.kind hg (Calls.loadGlobal_builtin (by rw [I.ok.glob];exact I.mod.glob.keeps I.bk) hm (by rw [I.ok.blt];exact h1.keeps I.bk) ((h2 x hn).trans hv) h) hd
theorem pe_glob {x:Str} {v:V} {u:Value} {pos:Pos} (hg:Gl X x) (hm:X.mg x=some u) (r:RelV v u) (hd:(x == ("__debug__" : Str))=false:=by decide):PE X (.Name x pos) (tC v) :=
 fun _ _ _ H _ I h=>ld_glob I hg hm ⟨v,H,I,r,h⟩ hd
def t2I (ta tb:TE) (k:Int->Int->Hp->Prop):St->Hp->Prop:=fun σ H=>ta σ H fun x H1=>tb σ H1 fun y H2=>∃ i j,x = .int i/\y = .int j/\k i j H2
variable {a b:Expr} {ta tb:TE} {pos:Pos}
def tCmp (p:Int->Int->Bool) (ta tb:TE):TE:=fun σ H Q=>t2I ta tb (fun i j H2=>Q (.bl (p i j)) H2) σ H
variable {tA tB':TT} {rest:List Expr}
def tAnd (t u:TT):TT:=fun σ H Q=>t σ H fun c H1=>if c=true then u σ H1 Q else Q false H1
def tOr (t u:TT):TT:=fun σ H Q=>t σ H fun c H1=>if c=true then Q true H1 else u σ H1 Q
def tNot (t:TT):TT:=fun σ H Q=>t σ H fun c H1=>Q (!c) H1
theorem pw_and1 (ha:PT X a tA):PW X (.BoolOp .And [a] pos) tA:=by
 intro wh pins s σ H Q I h
 refine isTrue_and (thn (ha pins s σ H Q I h) fun c s1 e=>?_)
 cases c with
 | true=>exact isTrue_and_nil e
 | false=>exact e
theorem pw_or1 (ha:PT X a tA):PW X (.BoolOp .Or [a] pos) tA:=by
 intro wh pins s σ H Q I h
 refine isTrue_or (thn (ha pins s σ H Q I h) fun c s1 e=>?_)
 cases c with
 | false=>exact isTrue_or_nil e
 | true=>exact e
theorem pw_and (ha:PT X a tA) (hb:PW X (.BoolOp .And (b::rest) pos) tB'):PW X (.BoolOp .And (a::b::rest) pos) (tAnd tA tB'):=by
 intro wh pins s σ H Q I h
 refine isTrue_and (thn (ha pins s σ H _ I h) fun c s1 ⟨H1,I1,q1⟩=>?_)
 cases c with
 | true=>exact hb wh pins s1 σ H1 Q I1 q1
 | false=>exact ⟨H1,I1,q1⟩
theorem pw_or (ha:PT X a tA) (hb:PW X (.BoolOp .Or (b::rest) pos) tB'):PW X (.BoolOp .Or (a::b::rest) pos) (tOr tA tB'):=by
 intro wh pins s σ H Q I h
 refine isTrue_or (thn (ha pins s σ H _ I h) fun c s1 ⟨H1,I1,q1⟩=>?_)
 cases c with
 | true=>exact ⟨H1,I1,q1⟩
 | false=>exact hb wh pins s1 σ H1 Q I1 q1
theorem pt_not (ha:PT X a tA):PT X (.UnaryOp .Not a pos) (tNot tA):=by
 intro pins s σ H Q I h
 exact isTrue_not (ha pins s σ H (fun c H1=>Q (!c) H1) I h)
def tAndV (ta tb:TE):TE:=fun σ H Q=>ta σ H fun x H1=>∃ c,x = .bl c/\if c=true then tb σ H1 Q else Q (.bl false) H1
def tOrV (ta tb:TE):TE:=fun σ H Q=>ta σ H fun x H1=>∃ c,x = .bl c/\if c=true then Q (.bl true) H1 else tb σ H1 Q
def tNotV (ta:TE):TE:=fun σ H Q=>ta σ H fun x H1=>∃ c,x = .bl c/\Q (.bl (!c)) H1
theorem pe_one {op} {t:TE} (h:PE X a t):PE X (.BoolOp op [a] pos) t:=fun pins s σ H Q I hw=>BoolOp_one (h pins s σ H Q I hw)
theorem pe_and (ha:PE X a ta) (hb:PE X (.BoolOp .And (b::rest) pos) tb):PE X (.BoolOp .And (a::b::rest) pos) (tAndV ta tb):=by
 intro pins s σ H Q I h
 refine BoolOp_and (thn (ha pins s σ H _ I h) fun v s1 ⟨x,H1,I1,r1,q1⟩=>?_)
 obtain ⟨c,rfl,q1⟩:=q1
 cases r1
 refine wpAny_truthy_bool ?_
 cases c with
 | true=>exact hb pins s1 σ H1 Q I1 q1
 | false=>exact ⟨.bl false,H1,I1,rfl,q1⟩
theorem pe_or (ha:PE X a ta) (hb:PE X (.BoolOp .Or (b::rest) pos) tb):PE X (.BoolOp .Or (a::b::rest) pos) (tOrV ta tb):=by
 intro pins s σ H Q I h
 refine BoolOp_or (thn (ha pins s σ H _ I h) fun v s1 ⟨x,H1,I1,r1,q1⟩=>?_)
 obtain ⟨c,rfl,q1⟩:=q1
 cases r1
 refine wpAny_truthy_bool ?_
 cases c with
 | false=>exact hb pins s1 σ H1 Q I1 q1
 | true=>exact ⟨.bl true,H1,I1,rfl,q1⟩
theorem pe_not (ha:PE X a ta):PE X (.UnaryOp .Not a pos) (tNotV ta):=by
 intro pins s σ H Q I h
 refine UnaryOp_ (thn (ha pins s σ H _ I h) fun v s1 ⟨x,H1,I1,r1,q1⟩=>?_)
 obtain ⟨c,rfl,q1⟩:=q1
 cases r1
 exact not_of (wpAny_truthy_bool ⟨.bl (!c),H1,I1,rfl,q1⟩)
def tIf (t:TT) (ta tb:TE):TE:=fun σ H Q=>t σ H fun c H1=>if c=true then ta σ H1 Q else tb σ H1 Q
theorem pe_ifExp {c:Expr} (hc:PT X c tA) (ha:PE X a ta) (hb:PE X b tb):PE X (.IfExp c a b pos) (tIf tA ta tb):=by
 intro pins s σ H Q I h
 refine wpAny_IfExp (thn (hc pins s σ H _ I h) fun d s1 ⟨H1,I1,q1⟩=>?_)
 cases d with
 | true=>exact ha pins s1 σ H1 Q I1 q1
 | false=>exact hb pins s1 σ H1 Q I1 q1
end
end L2
namespace L2
open PySem PySem.Spec PyProof.Rows
def SqL (K:PySem.W.Frag) (H:Hp) (a:Addr) (xs:List V):Prop :=
 Rd H a (.lst xs) \/
  ∃ (o:Obj) (its:Array Value) (n:Nat),K.lookup a=some o/\o.cls = .type "list" /\ o.dict=none/\o.data = .seq its n/\its.size<=sizeLine/\Vals xs its.toList
def SqT (K:PySem.W.Frag) (H:Hp) (a:Addr) (xs:List V):Prop :=
 Rd H a (.tup xs) \/
  ∃ (o:Obj) (its:Array Value) (n:Nat),K.lookup a=some o/\o.cls = .type "tuple" /\ o.data = .seq its n/\its.size<=sizeLine/\Vals xs its.toList
def absV:Value->Option V
 | .none=>some .non
 | .bool b=>some (.bl b)
 | .int i _=>some (.int i)
 | .str x _=>some (.str x)
 | .bytes b _=>some (.byt b)
 | .float b _=>some (.flt b)
 | .ref a=>some (.ref a)
 | .type n=>some (.ty n)
 | _=>none
theorem RelV.abs {x:V} {u:Value} (r:RelV x u):absV u=some x:=by
 cases x with
 | non=>cases r;rfl
 | bl _=>cases r;rfl
 | int _=>obtain ⟨t,rfl⟩:=r;rfl
 | str _=>obtain ⟨t,rfl⟩:=r;rfl
 | byt _=>obtain ⟨t,rfl⟩:=r;rfl
 | flt _=>obtain ⟨t,rfl⟩:=r;rfl
 | ref _=>cases r;rfl
 | ty _=>cases r;rfl
theorem RelV.inj {x y:V} {u:Value} (r:RelV x u) (q:RelV y u):x=y:=Option.some.inj (r.abs.symm.trans q.abs)
theorem Vals.inj:∀ {xs ys:List V} {us:List Value},Vals xs us->Vals ys us->xs=ys
 | _,_,_,.nil,.nil=>rfl
 | _,_,_,.cons r t,.cons r' t'=>by rw [r.inj r',Vals.inj t t']
section
variable {X:Cx} {pins:List (Addr×Obj)} {σ:St} {H:Hp} {s:Shared} {a:Addr} {xs ys:List V}
theorem SqL.of {K:PySem.W.Frag} (h:H a=some (.lst xs)):SqL K H a xs:=.inl (.inl h)
theorem SqT.of {K:PySem.W.Frag} (h:H a=some (.tup xs)):SqT K H a xs:=.inl (.inl h)
theorem Inv.list (I:Inv X pins σ H s) (h:SqL X.K H a xs):∃ its:List Value,Vals xs its/\PlainL s.heap a its.toArray/\xs.length<=sizeLine:=by
 rcases h with h | ⟨o,its,n,hk,hc,hd,hs,hz,r⟩
 ·obtain ⟨z,its,n,r,e⟩:=h.ok I.hok
  exact ⟨its,r,⟨_,n,e,rfl,rfl,rfl⟩,z⟩
 ·refine ⟨its.toList,r,⟨o,n,I.kIn a o hk,hc,hd,by simpa using hs⟩,?_⟩
  have e:=r.length
  simp only [dZ] at e
  omega
theorem Inv.tuple (I:Inv X pins σ H s) (h:SqT X.K H a xs):∃ its:List Value,Vals xs its/\IsTup s.heap a its.toArray/\xs.length<=sizeLine:=by
 rcases h with h | ⟨o,its,n,hk,hc,hs,hz,r⟩
 ·obtain ⟨z,its,r,p⟩:=h.ok I.hok
  exact ⟨its,r,p,z⟩
 ·refine ⟨its.toList,r,⟨o,I.kIn a o hk,hc,n,by simpa using hs⟩,?_⟩
  have e:=r.length
  simp only [dZ] at e
  omega
theorem Inv.list_inj (I:Inv X pins σ H s) (h:SqL X.K H a xs) (h':SqL X.K H a ys):xs=ys:=by
 obtain ⟨its,r,⟨o,n,e,_,_,d⟩,_⟩:=I.list h
 obtain ⟨its',r',⟨o',n',e',_,_,d'⟩,_⟩:=I.list h'
 rw [e] at e';cases e'
 rw [d] at d'
 injection d' with d1 _
 have:its=its':=by simpa using congrArg Array.toList d1
 subst this
 exact r.inj r'
theorem Inv.tuple_inj (I:Inv X pins σ H s) (h:SqT X.K H a xs) (h':SqT X.K H a ys):xs=ys:=by
 obtain ⟨its,r,⟨o,e,_,n,d⟩,_⟩:=I.tuple h
 obtain ⟨its',r',⟨o',e',_,n',d'⟩,_⟩:=I.tuple h'
 rw [e] at e';cases e'
 rw [d] at d'
 injection d' with d1 _
 have:its=its':=by simpa using congrArg Array.toList d1
 subst this
 exact r.inj r'
end
abbrev Cx.wish (X:Cx) (E:Value->Shared->Prop):Cx:={ X with xe:=E }
abbrev Cx.nox (X:Cx):Cx:=X.wish fun _ _=>False
theorem Cx.Ok.wish {X:Cx} (ok:X.Ok) (E:Value->Shared->Prop):(X.wish E).Ok :=
 ⟨ok.mod,ok.kind,ok.glob,ok.blt,ok.above,ok.inj,ok.has,ok.cab,ok.hd,ok.frames,ok.stk,ok.exf,ok.bs,ok.bsz,ok.noex,ok.exfs,ok.funs,ok.frf,ok.sr,ok.rn⟩
theorem Cx.Ok.unwish {X:Cx} {E:Value->Shared->Prop} (ok:(X.wish E).Ok):X.Ok :=
 ⟨ok.mod,ok.kind,ok.glob,ok.blt,ok.above,ok.inj,ok.has,ok.cab,ok.hd,ok.frames,ok.stk,ok.exf,ok.bs,ok.bsz,ok.noex,ok.exfs,ok.funs,ok.frf,ok.sr,ok.rn⟩
section
variable {X:Cx} {pins:List (Addr×Obj)} {σ:St} {H:Hp} {s:Shared} {E:Value->Shared->Prop}
theorem Inv.wish (I:Inv X pins σ H s) (E:Value->Shared->Prop):Inv (X.wish E) pins σ H s:=⟨I.ok.wish E,I.os,I.bare,I.base,I.loc,I.cell,I.free,I.freeC,I.pin,I.hok,I.len⟩
theorem Inv.unwish (I:Inv (X.wish E) pins σ H s):Inv X pins σ H s:=⟨I.ok.unwish,I.os,I.bare,I.base,I.loc,I.cell,I.free,I.freeC,I.pin,I.hok,I.len⟩
theorem SP.unwish {D:Ends} {f:Flow} {s':Shared} (h:SP (X.wish E) pins D f s'):SP X pins D f s':=by
 cases f with
 | next=>obtain ⟨σ',H',I,q⟩:=h;exact ⟨σ',H',I.unwish,q⟩
 | brk=>obtain ⟨σ',H',I,q⟩:=h;exact ⟨σ',H',I.unwish,q⟩
 | cont=>obtain ⟨σ',H',I,q⟩:=h;exact ⟨σ',H',I.unwish,q⟩
 | ret u=>obtain ⟨v,σ',H',I,r,q⟩:=h;exact ⟨v,σ',H',I.unwish,r,q⟩
theorem PSs.nox {st:List Stmt} {t:TS} (h:PSs X.nox st t):PSs X st t:=fun pins s σ H D I hw =>
 wpAny_mono (h pins s σ H D (I.wish _) hw) (fun _ _ q=>q.unwish) fun _ _ z=>False.elim z
end
section
variable {X:Cx} {st:Stmt} {rest:List Stmt} {t u:TS} {e:Expr} {te:TE} {pos:Pos}
def tNext:TS:=fun D σ H=>D.nx σ H
def tSeq (t u:TS):TS:=fun D σ H=>t { D with nx:=u D } σ H
theorem pss_nil:PSs X [] tNext:=fun _ _ σ H _ I h=>wpAny_execs_nil ⟨σ,H,I,h⟩
theorem pss_cons (h1:PS X st t) (h2:PSs X rest u):PSs X (st::rest) (tSeq t u):=by
 intro pins s σ H D I h
 refine wpAny_execs_cons (thn (h1 pins s σ H { D with nx:=u D } I h) fun f s1 q=>?_)
 cases f with
 | next =>
  obtain ⟨σ',H',I',q⟩:=q
  exact h2 pins s1 σ' H' D I' q
 | ret v=>exact q
 | brk=>exact q
 | cont=>exact q
theorem pss_one (h1:PS X st t):PSs X [st] t:=by
 intro pins s σ H D I h
 refine wpAny_execs_cons (thn (h1 pins s σ H D I h) fun f s1 q=>?_)
 cases f with
 | next=>exact wpAny_execs_nil q
 | ret v=>exact q
 | brk=>exact q
 | cont=>exact q
def tBreak:TS:=fun D σ H=>D.bk σ H
theorem ps_pass:PS X (.Pass pos) tNext:=fun _ _ σ H _ I h=>wpAny_Pass ⟨σ,H,I,h⟩
theorem ps_break:PS X (.Break pos) tBreak:=fun _ _ σ H _ I h=>wpAny_Break ⟨σ,H,I,h⟩
theorem Inv.quiet {pins:List (Addr×Obj)} {σ:St} {H:Hp} {s:Shared} (I:Inv X pins σ H s):interactive X.env=false:=by simp [interactive,I.ok.kind]
def tDrop (te:TE):TS:=fun D σ H=>te σ H fun _ H1=>D.nx σ H1
theorem ps_expr (he:PE X e te) (hs:swapsWith e none pos.line X.env=pure false:=by rfl):PS X (.Expr e pos) (tDrop te):=by
 intro pins s σ H D I h
 exact wpAny_Expr_any (thn (he pins s σ H _ I h) fun v s1 ⟨x,H1,I1,r1,q1⟩=>⟨σ,H1,I1,q1⟩) I.quiet hs
def tRet (te:TE):TS:=fun D σ H=>te σ H D.rt
theorem ps_ret (he:PE X e te):PS X (.Return (some e) pos) (tRet te):=by
 intro pins s σ H D I h
 exact wpAny_Return_some (thn (he pins s σ H _ I h) fun v s1 ⟨x,H1,I1,r1,q1⟩=>⟨x,σ,H1,I1,r1,q1⟩)
def tRetN:TS:=fun D _ H=>D.rt .non H
theorem ps_retN:PS X (.Return none pos) tRetN:=fun _ _ σ H _ I h=>wpAny_Return_none ⟨.non,σ,H,I,rfl,h⟩
def tIfS (c:TT) (t u:TS):TS:=fun D σ H=>c σ H fun b H1=>if b=true then t D σ H1 else u D σ H1
theorem ps_if {c:Expr} {a b:List Stmt} {tc:TT} (hc:PT X c tc) (ha:PSs X a t) (hb:PSs X b u):PS X (.If c a b pos) (tIfS tc t u):=by
 intro pins s σ H D I h
 refine wpAny_If (thn (hc pins s σ H _ I h) fun d s1 ⟨H1,I1,q1⟩=>?_)
 cases d with
 | true=>exact ha pins s1 σ H1 D I1 q1
 | false=>exact hb pins s1 σ H1 D I1 q1
end
abbrev TG:=V->St->Hp->(St->Hp->Prop)->Prop
abbrev TGs:=List V->St->Hp->(St->Hp->Prop)->Prop
def PG (X:Cx) (target:Expr) (t:TG):Prop :=
 ∀ (pins:List (Addr×Obj)) (s:Shared) (σ:St) (H:Hp) (v:V) (u:Value) (Q:St->Hp->Prop),Inv X pins σ H s->RelV v u->t v σ H Q ->
  wpAny (model X.prog X.w) X.A (assign target X.env u) (fun _ s'=>∃ σ' H',Inv X pins σ' H' s'/\Q σ' H') X.xe s
def PGs (X:Cx) (ts:List Expr) (t:TGs):Prop :=
 ∀ (pins:List (Addr×Obj)) (s:Shared) (σ:St) (H:Hp) (vs:List V) (us:List Value) (Q:St->Hp->Prop),Inv X pins σ H s->Vals vs us->t vs σ H Q ->
  wpAny (model X.prog X.w) X.A (assignInOrder ((assignEach ts X.env).map (·.2)) us) (fun _ s'=>∃ σ' H',Inv X pins σ' H' s'/\Q σ' H') X.xe s
abbrev TSet:=V->V->V->Hp->(Hp->Prop)->Prop
def PSet (X:Cx) (t:TSet):Prop :=
 ∀ (pins:List (Addr×Obj)) (s:Shared) (σ:St) (H:Hp) (o i v:V) (ov iv u:Value) (Q:Hp->Prop),Inv X pins σ H s->RelV o ov->RelV i iv->RelV v u->t o i v H Q ->
  wpAny (model X.prog X.w) X.A (setItem ov iv u) (fun _ s'=>∃ H',Inv X pins σ H' s'/\Q H') X.xe s
abbrev TIp:=V->V->Hp->VK->Prop
def PIp (X:Cx) (op:Operator) (t:TIp):Prop :=
 ∀ (pins:List (Addr×Obj)) (s:Shared) (σ:St) (H:Hp) (x y:V) (v u:Value) (Q:VK),Inv X pins σ H s->RelV x v->RelV y u->t x y H Q ->
  wpAny (model X.prog X.w) X.A (inplaceOp op v u) (EP X pins σ Q) X.xe s
section
variable {X:Cx} {pos:Pos}
def gName (i:Nat):TG:=fun v σ H Q=>Q (σ.set i (some v)) H
theorem pg_name {i:Nat} {x:Str} (hN:X.N.Nodup) (hi:X.N[i]? = some x) (hx:Loc X.env.scope x) (hf:X.fn x=true\/X.env.scope.names.lookup x=some .local:=by first | exact .inl rfl | exact .inr rfl | assumption):PG X (.Name x pos) (gName i):=by
 intro pins s σ H v u Q I r h
 exact wpAny_assign_Name (store_ok I hN hi hx r (fun s' I'=>⟨_,H,I',h⟩) hf)
def gNil:TGs:=fun vs σ H Q=>vs=[]/\Q σ H
def gCons (t:TG) (u:TGs):TGs:=fun vs σ H Q=>∃ v r,vs=v::r/\t v σ H fun σ' H'=>u r σ' H' Q
theorem pgs_nil:PGs X [] gNil:=by
 intro pins s σ H vs us Q I r h
 obtain ⟨e,h⟩:=h
 subst e
 cases r
 exact assignInOrder_nil ⟨σ,H,I,h⟩
theorem pgs_cons {e:Expr} {es:List Expr} {t:TG} {u:TGs} (h1:PG X e t) (h2:PGs X es u)
  (hs:(assignEach (e::es) X.env).map (·.2)=assign e X.env::(assignEach es X.env).map (·.2):=by rfl):PGs X (e::es) (gCons t u):=by
 intro pins s σ H vs us Q I r h
 obtain ⟨v,vr,e1,h⟩:=h
 subst e1
 cases r with
 | cons r rr =>
  rw [hs]
  refine assignInOrder_cons (thn (h1 pins s σ H _ _ _ I r h) fun _ s1 ⟨σ1,H1,I1,q1⟩=>?_)
  exact h2 pins s1 σ1 H1 _ _ Q I1 rr q1
def gTup (K:PySem.W.Frag) (n:Nat) (t:TGs):TG:=fun v σ H Q=>∃ a xs,v = .ref a/\SqT K H a xs/\xs.length=n/\t xs σ H Q
theorem pg_tup {es:List Expr} {k:Nat} {t:TGs} {n:Nat} (hc:X.calm=true) (h:PGs X es t)
  (hn:(assignEach es X.env).length=n:=by rfl) (hst:(assignEach es X.env).findIdx? (·.1)=none:=by rfl):PG X (.Tuple es k pos) (gTup X.K n t):=by
 intro pins s σ H v u Q I r hw
 obtain ⟨a,xs,e1,hq,hl,hw⟩:=hw
 subst e1
 cases r
 obtain ⟨its,rv,ht,hz⟩:=I.tuple hq
 refine assign_Tuple_tuple (I.ok.hd hc) ht (by simp [hn,← hl,rv.length]) hst fun h' hx=>?_
 have I1:Inv X pins σ H { s with heap:=h' }:=I.kept (t':=s.toks) fun b o e=>hx b o (aM (Heap.lt_size e)) e
 exact h pins _ σ H xs _ Q I1 (by simpa using rv) hw
def gSub (to ti:TE) (t:TSet):TG:=fun v σ H Q=>to σ H fun o H1=>ti σ H1 fun i H2=>t o i v H2 fun H3=>Q σ H3
theorem pg_sub {o i:Expr} {to ti:TE} {t:TSet} (ho:PE X o to) (hi:PE X i ti) (hs:PSet X t)
  (ha:∀ v,assign (.Subscript o i pos) X.env v=(do
   let ov ← holding [v] (eval o X.env)
   let iv ← holding [v,ov] (eval i X.env)
   standAt pos
   holding [v,ov,iv] (setItem ov iv v)
   release [v,ov,iv] []):=by intro _;rfl):PG X (.Subscript o i pos) (gSub to ti t):=by
 intro pins s σ H v u Q I r h
 rw [ha]
 refine wpAny_bind (wpAny_holding (thn (ho pins s σ H _ I h) fun ov s1 ⟨x,H1,I1,r1,q1⟩=>?_))
 refine wpAny_bind (wpAny_holding (thn (hi pins s1 σ H1 _ I1 q1) fun iv s2 ⟨y,H2,I2,r2,q2⟩=>?_))
 refine wpAny_bind (wpAny_standAt (wpAny_bind (wpAny_holding (thn (hs pins s2 σ H2 x y v ov iv u _ I2 r1 r2 r q2) fun _ s3 ⟨H3,I3,q3⟩=>?_))))
 exact wpAny_release ⟨σ,H3,I3,q3⟩
def tAsg (te:TE) (g:TG):TS:=fun D σ H=>te σ H fun x H1=>g x σ H1 D.nx
theorem ps_asg {tg e:Expr} {te:TE} {g:TG} (he:PE X e te) (hg:PG X tg g) (hs:swapsWithSole [tg] e pos.line X.env=pure false:=by rfl) (hw:swappedStores [tg] e X.env=pure none:=by rfl)
  (h1:(assignEach [tg] X.env).map (·.2)=[assign tg X.env]:=by rfl):PS X (.Assign [tg] e pos) (tAsg te g):=by
 intro pins s σ H D I h
 refine wpAny_Assign_stores (thn (he pins s σ H _ I h) fun v s1 ⟨x,H1,I1,r1,q1⟩=>?_) hs hw
 rw [h1]
 exact thn (hg pins s1 σ H1 x v _ I1 r1 q1) fun _ s2 q=>q
theorem ps_set {i:Nat} {x:Str} {e:Expr} {te:TE} {pos':Pos} (hN:X.N.Nodup) (hi:X.N[i]? = some x) (hx:Loc X.env.scope x) (he:PE X e te) (hs:swapsWith e (some (.Name x pos')) pos.line X.env=pure false:=by rfl) (hf:X.fn x=true\/X.env.scope.names.lookup x=some .local:=by first | exact .inl rfl | exact .inr rfl | assumption) :
  PS X (.Assign [.Name x pos'] e pos) (tAsg te (gName i)):=by
 intro pins s σ H D I h
 refine wpAny_Assign_Name (thn (he pins s σ H _ I h) fun v s1 ⟨y,H1,I1,r1,q1⟩=>?_) hs
 exact store_ok I1 hN hi hx r1 (fun s2 I2=>⟨_,H1,I2,q1⟩) hf
def tPar (i j:Nat) (ta:TA):TS:=fun D σ H=>ta σ H fun vs H1=>∃ v w,vs=[v,w]/\D.nx ((σ.set i (some v)).set j (some w)) H1
theorem ps_par {i j:Nat} {x y:Str} {a b:Expr} {ta:TA} {px py pt:Pos} {kt k2 pt2} (hc:X.calm=true) (hN:X.N.Nodup) (hi:X.N[i]? = some x) (hj:X.N[j]? = some y) (hij:i≠j)
  (hx:X.env.scope.names.lookup x=some .local) (hy:X.env.scope.names.lookup y=some .local) (ha:PA X [a,b] ta)
  (hw:swappedStores [.Tuple [.Name x px,.Name y py] kt pt] (.Tuple [a,b] k2 pt2) X.env=pure (some [x,y]))
  (hs:swapsWithSole [.Tuple [.Name x px,.Name y py] kt pt] (.Tuple [a,b] k2 pt2) pos.line X.env=pure false:=by rfl) :
  PS X (.Assign [.Tuple [.Name x px,.Name y py] kt pt] (.Tuple [a,b] k2 pt2) pos) (tPar i j ta):=by
 intro pins s σ H D I h
 rw [exec_Assign_arm]
 refine wpAny_bind (wpAny_standAt ?_)
 rw [hs]
 refine wpAny_bind (wpAny_pure ?_)
 rw [if_neg (by decide)]
 refine wpAny_bind (Tuple_ (thn (ha _ pins s σ H _ I h) fun us s1 ⟨vs,H1,I1,r1,q1⟩=>?_))
 obtain ⟨v,w,e1,q1⟩:=q1
 subst e1
 obtain ⟨u1,u2,rfl,rv,rw'⟩:∃ u1 u2,us=[u1,u2]/\RelV v u1/\RelV w u2:=by
  cases r1 with
  | cons p q =>
   cases q with
   | cons p' q' =>
    cases q'
    exact ⟨_,_,rfl,p,p'⟩
 refine wpAny_newObj_type ?_ (by show 2<=sizeLine;decide)
 have I2:Inv X pins σ H1 { s1 with heap:=s1.heap.push { cls:=.type "tuple",data:=.seq [u1,u2].toArray } }:=I1.kept (t':=s1.toks) fun b o e=>Heap.get?_push_of_some _ e
 rw [hw]
 refine wpAny_bind (wpAny_pure ?_)
 show wpAny (model X.prog X.w) X.A (do rule "assign.swapped-stores";let items ← unpackItems (.ref s1.heap.objs.size) 2 none;assignInOrder [fun v=>bindName X.env y v,fun v=>bindName X.env x v] items.reverse;pure Flow.next) _ _ _
 refine wpAny_bind (wpAny_rule (wpAny_bind (unpackItems_tuple (items:=#[u1,u2]) (I.ok.hd hc) (IsTup.new s1.heap _) fun h' hx'=>?_)))
 have I3:=I2.kept (h':=h') (t':=s1.toks) fun b o e=>hx' b o (aM (Heap.lt_size e)) e
 show wpAny _ _ (assignInOrder [fun v=>bindName X.env y v,fun v=>bindName X.env x v] [u2,u1] >>= fun _=>pure Flow.next) _ _ _
 refine wpAny_bind (assignInOrder_cons (wpAny_bindName (store_ok I3 hN hj (.inl hy) rw' (fun s2 I4=>?_) (.inr hy))))
 refine assignInOrder_cons (wpAny_bindName (store_ok I4 hN hi (.inl hx) rv (fun s3 I5=>assignInOrder_nil (wpAny_pure ?_)) (.inr hx)))
 rw [List.set_comm _ _ (Ne.symm hij)] at I5
 exact ⟨_,H1,I5,q1⟩
def tAug (i:Nat) (te:TE) (ti:TIp):TS:=fun D σ H=>∃ x,σ[i]? = some (some x)/\te σ H fun y H1=>ti x y H1 fun z H2=>D.nx (σ.set i (some z)) H2
theorem ps_aug {i:Nat} {x:Str} {e:Expr} {te:TE} {op:Operator} {ti:TIp} {pos':Pos} (hN:X.N.Nodup) (hi:X.N[i]? = some x) (hx:Loc X.env.scope x) (he:PE X e te) (ho:PIp X op ti) (hf:X.fn x=true\/X.env.scope.names.lookup x=some .local:=by first | exact .inl rfl | exact .inr rfl | assumption) :
  PS X (.AugAssign (.Name x pos') op e pos) (tAug i te ti):=by
 intro pins s σ H D I h
 obtain ⟨v,e1,h⟩:=h
 obtain ⟨m,hn,hl⟩:=I.loc
 have vis:Vis X.env.scope x:=by rcases hx with k | k;exact .inl k;exact .inr (.inl k)
 obtain ⟨u,r,l⟩:=hl i x v hi e1 vis
 refine wpAny_AugAssign_Name ?_
 have go:wpAny (model X.prog X.w) X.A (eval e X.env) (fun w s₂=>wpAny (model X.prog X.w) X.A (inplaceOp op u w) (fun r s₃=>wpAny (model X.prog X.w) X.A (storeName X.env x r) (fun _=>SP X pins D .next) X.xe s₃) X.xe s₂) X.xe s:=by
  refine thn (he pins s σ H _ I h) fun w s1 ⟨y,H1,I1,r1,q1⟩=>?_
  refine thn (ho pins s1 σ H1 v y u w _ I1 r r1 q1) fun z s2 ⟨zv,H2,I2,r2,q2⟩=>?_
  exact store_ok I2 hN hi hx r2 (fun s3 I3=>⟨_,H2,I3,q2⟩) hf
 rcases l with ⟨hk,hm⟩ | ⟨hk,c,hc,hcell⟩
 ·exact wpAny_loadName_local I.ok.kind hk hn hm go
 ·rcases hk with hk | hk
  ·exact wpAny_loadName_cell I.ok.kind hk hc hcell go
  ·rcases hx with k | k
   ·have:X.env.scope.names.lookup x=some .free:=hk
    rw [k] at this;cases this
   ·have:X.env.scope.names.lookup x=some .free:=hk
    rw [k] at this;cases this
def tAugS (to ti te:TE) (tget:V->V->Hp->VK->Prop) (tip:TIp) (tset:TSet):TS:=fun D σ H=>to σ H fun o H1=>ti σ H1 fun i H2=>tget o i H2 fun x H3=>te σ H3 fun y H4=>tip x y H4 fun z H5=>tset o i z H5 fun H6=>D.nx σ H6
def PGet (X:Cx) (t:V->V->Hp->VK->Prop):Prop :=
 ∀ (pins:List (Addr×Obj)) (s:Shared) (σ:St) (H:Hp) (o i:V) (ov iv:Value) (Q:VK),Inv X pins σ H s->RelV o ov->RelV i iv->t o i H Q ->
  wpAny (model X.prog X.w) X.A (getItem ov iv) (EP X pins σ Q) X.xe s
theorem ps_augS {o i e:Expr} {to ti te:TE} {tget:V->V->Hp->VK->Prop} {tip:TIp} {tset:TSet} {op:Operator} {tpos:Pos} (ho:PE X o to) (hi:PE X i ti) (hg:PGet X tget) (he:PE X e te) (hp:PIp X op tip) (hs:PSet X tset)
  (ha:∀ ov iv new,augStore i ov iv new=(do holding [new,ov,iv] (setItem ov iv new);release [new,ov,iv] [];pure .next):=by intros;rfl):PS X (.AugAssign (.Subscript o i tpos) op e pos) (tAugS to ti te tget tip tset):=by
 intro pins s σ H D I h
 refine wpAny_AugAssign_SubscriptAny (thn (ho pins s σ H _ I h) fun ov s1 ⟨x1,H1,I1,r1,q1⟩=>?_) ha
 refine thn (hi pins s1 σ H1 _ I1 q1) fun iv s2 ⟨x2,H2,I2,r2,q2⟩=>?_
 refine thn (hg pins s2 σ H2 x1 x2 ov iv _ I2 r1 r2 q2) fun old s3 ⟨x3,H3,I3,r3,q3⟩=>?_
 refine thn (he pins s3 σ H3 _ I3 q3) fun v s4 ⟨x4,H4,I4,r4,q4⟩=>?_
 refine thn (hp pins s4 σ H4 x3 x4 old v _ I4 r3 r4 q4) fun new s5 ⟨x5,H5,I5,r5,q5⟩=>?_
 exact thn (hs pins s5 σ H5 x1 x2 x5 ov iv new _ I5 r1 r2 r5 q5) fun _ s6 ⟨H6,I6,q6⟩=>⟨σ,H6,I6,q6⟩
end
section
variable {X:Cx} {pos:Pos}
def tWhile (c:TT) (tb:TS):TS:=fun D σ H=>∃ W:Nat->St->Hp->Prop,(∃ m,W m σ H)/\∀ m σ H,W m σ H ->
 c σ H fun b H1=>if b=true then ∃ N:St->Hp->Prop,(∀ σ' H',N σ' H'->∃ m',m'<m/\W m' σ' H')/\tb { D with nx:=N,ct:=N,bk:=D.nx } σ H1 else D.nx σ H1
theorem ps_while {c:Expr} {body:List Stmt} {tc:TT} {tb:TS} (hp:PassesOwn (model X.prog X.w) X.A X.env X.xe) (hc:PT X c tc) (hb:PSs X body tb):PS X (.While c body [] pos) (tWhile tc tb):=by
 intro pins s σ H D I h
 obtain ⟨W,⟨m0,w0⟩,turn⟩:=h
 refine wpAny_While (codeAny_whileLoop (fun n s'=>∃ σ' H',Inv X pins σ' H' s'/\W n σ' H') ?_ m0 ⟨σ,H,I,w0⟩)
 rintro n s1 ⟨σ1,H1,I1,w1⟩
 refine wpAny_passesOwn hp (thn (hc pins s1 σ1 H1 _ I1 (turn n σ1 H1 w1)) fun b s2 ⟨H2,I2,q2⟩=>?_)
 cases b with
 | true =>
  obtain ⟨N,hN,q2⟩:=q2
  rw [if_pos rfl]
  refine wpAny_passesOwn hp (thn (hb pins s2 σ1 H2 _ I2 q2) fun f s3 q3=>?_)
  cases f with
  | next =>
   obtain ⟨σ3,H3,I3,n3⟩:=q3
   obtain ⟨m',hm,w3⟩:=hN σ3 H3 n3
   exact ⟨m',hm,σ3,H3,I3,w3⟩
  | cont =>
   obtain ⟨σ3,H3,I3,n3⟩:=q3
   obtain ⟨m',hm,w3⟩:=hN σ3 H3 n3
   exact ⟨m',hm,σ3,H3,I3,w3⟩
  | brk=>exact q3
  | ret v=>exact q3
 | false =>
  rw [if_neg az]
  exact wpAny_execs_nil ⟨σ1,H2,I2,q2⟩
end
structure It where
 go:Nat->Hp->Prop
 yld:Nat->Hp->V->Hp->Prop
 stop:Nat->Hp->Prop
def FpOk (X:Cx) (pins:List (Addr×Obj)) (H:Hp) (b:Addr):Prop :=
 H b=none/\b≠X.env.locals/\b ∉ X.fs/\(b∈X.ex\/X.s₀.heap.objs.size<=b)/\(∀ x c,X.env.cells.lookup x=some c->c≠b)/\∀ p∈X.pn++pins,p.1≠b
theorem Inv.fpOk {X:Cx} {pins:List (Addr×Obj)} {σ:St} {H H':Hp} {s:Shared} {b:Addr} (I:Inv X pins σ H s) (hb:s.heap.objs.size<=b) (hn:H' b=none):FpOk X pins H' b:=by
 refine ⟨hn,dP (aA I.lt hb),I.nofs hb,.inr (aB I.sz hb),fun x c e z=>?_,fun p hp z=>?_⟩
 ·obtain ⟨v,q⟩:=I.cell x c e
  exact absurd (aA q.lt (by rw [z];exact hb)) (bQ _)
 ·exact absurd (aA (Heap.lt_size (I.pin p hp).1) (by rw [z];exact hb)) (bQ _)
structure Turn (P:Program) (w:World) (K:PySem.W.Frag) (tg:Expr) (J:It) (fp:List Addr) (it:Addr) (tn:Nat->Heap->Prop):Prop where
 mem:it∈fp
 obj:∀ i h,tn i h->∀ b∈fp,∃ o,h.get? b=some o/\∀ v,o.data ≠ .cell v
 keep:∀ i h h',tn i h->(∀ b∈fp,∀ o,h.get? b=some o->h'.get? b=some o)->tn i h'
 item:∀ (X:Cx),X.prog=P->X.w=w->X.K=K->X.calm=true->∀ (i:Nat) (pins:List (Addr×Obj)) (s:Shared) (σ:St) (H:Hp) (E:Value->Shared->Prop),Inv X pins σ H s->(∀ b∈fp,FpOk X pins H b)->tn i s.heap->J.go i H ->
  wpAny (model P w) X.A (pyNext (.ref it)) (fun r s1=>∃ u,r=some u /\
   wpAny (model P w) X.A (letOwnedTupleGo tg (.ref it) u) (fun _ s2=>∃ x H',Inv X pins σ H' s2/\RelV x u/\J.yld i H x H'/\tn (i+1) s2.heap/\∀ b∈fp,H' b=none) E s1) E s
 done:∀ (X:Cx),X.prog=P->X.w=w->X.K=K->X.calm=true->∀ (i:Nat) (pins:List (Addr×Obj)) (s:Shared) (σ:St) (H:Hp) (E:Value->Shared->Prop),Inv X pins σ H s->(∀ b∈fp,FpOk X pins H b)->tn i s.heap->J.stop i H ->
  wpAny (model P w) X.A (pyNext (.ref it)) (fun r s1=>r=none/\Inv X pins σ H s1) E s
 self:∀ (A:Around) (i:Nat) (s:Shared) (Q:Value->Shared->Prop) (E:Value->Shared->Prop),tn i s.heap->Q (.ref it) s->wpAny (model P w) A (pyIter (.ref it)) Q E s
abbrev TI:=St->Hp->(It->Hp->Prop)->Prop
def PIE (X:Cx) (pins:List (Addr×Obj)) (σ:St) (tg:Expr) (R:It->Hp->Prop) (itv:Value) (s2:Shared):Prop :=
 ∃ (it:Addr) (fp:List Addr) (tn:Nat->Heap->Prop) (J:It) (H':Hp),itv = .ref it/\Inv X pins σ H' s2/\Turn X.prog X.w X.K tg J fp it tn/\tn 0 s2.heap/\(∀ b∈fp,FpOk X pins H' b)/\R J H'
def PI (X:Cx) (tg iter:Expr) (wi:TI):Prop :=
 ∀ (pins:List (Addr×Obj)) (s:Shared) (σ:St) (H:Hp) (R:It->Hp->Prop),Inv X pins σ H s->wi σ H R ->
  wpAny (model X.prog X.w) X.A (eval iter X.env) (fun v s1=>wpAny (model X.prog X.w) X.A (pyIter v) (PIE X pins σ tg R) X.xe s1) X.xe s
theorem go_of {M:Model} {A:Around} {E:Value->Shared->Prop} {s:Shared} {tg:Expr} {it:Addr} {u:Value} {o:Obj} {n:String} {vs:Array Value} {Q:Unit->Shared->Prop} (ho:s.heap.get? it=some o) (hc:o.cls = .type n) (hd:o.data = .fields vs)
  (hn:["enumerate", "zip", "dict_itemiterator", "dict_reverseitemiterator", "odict_iterator", "itertools.zip_longest", "itertools.pairwise"].contains n=false) (hQ:Q () s):wpAny M A (letOwnedTupleGo tg (.ref it) u) Q E s:=by
 unfold letOwnedTupleGo
 cases tg <;> first
  | exact wpAny_pure hQ
  | (cases u <;> first
    | exact wpAny_pure hQ
    | (refine wpAny_bind (wpAny_load ho ?_)
       rw [hc,hd]
       show wpAny M A (if (["enumerate", "zip", "dict_itemiterator", "dict_reverseitemiterator", "odict_iterator", "itertools.zip_longest", "itertools.pairwise"].contains n && vs[0]? == some (rawInt _))=true then _ else _) Q E s
       rw [if_neg (by intro h;rw [hn,Bool.false_and] at h;cases h)]
       exact wpAny_pure hQ))
def Itl (K:PySem.W.Frag) (a:Addr):It :=
 ⟨fun i H=>∃ xs x,SqL K H a xs/\xs[i]? = some x,fun i H x H'=>H'=H/\∀ xs,SqL K H a xs->xs[i]? = some x,fun i H=>∃ xs,SqL K H a xs/\xs.length<=i⟩
def Itt (K:PySem.W.Frag) (a:Addr):It :=
 ⟨fun i H=>∃ xs x,SqT K H a xs/\xs[i]? = some x,fun i H x H'=>H'=H/\∀ xs,SqT K H a xs->xs[i]? = some x,fun i H=>∃ xs,SqT K H a xs/\xs.length<=i⟩
def Itr (lo:Int) (n:Nat):It:=⟨fun i _=>i<n,fun i H x H'=>H'=H/\x = .int (lo+i),fun i _=>n<=i⟩
theorem turn_list {P:Program} {w:World} {K:PySem.W.Frag} {tg:Expr} (a it:Addr):Turn P w K tg (Itl K a) [it] it (fun i h=>h.IsListIter it a i) where
 mem:=by simp
 obj:=fun i h st b hb=>by
  have e:b=it:=by simpa using hb
  subst e
  obtain ⟨o,e,c,d⟩:=st
  exact ⟨o,e,fun v z=>by rw [d] at z;cases z⟩
 keep:=fun i h h' st k=>st.at fun o e=>k it (by simp) o e
 item:=by
  intro X hP hw hK hc i pins s σ H E I hf st hg
  subst hP hw hK
  obtain ⟨xs,x,hq,hx⟩:=hg
  obtain ⟨its,rv,p,hz⟩:=I.list hq
  obtain ⟨u,hu,ru⟩:=rv.get hx
  obtain ⟨f0,f1,f2,f3,f4,f5⟩:=hf it (by simp)
  refine wpAny_pyNext_list_item st p.isList (x:=u) (by simpa using hu) fun h' st' sb=>?_
  have I1:Inv X pins σ H { s with heap:=h' }:=I.turned (t':=s.toks) (fun b o hb e=>(sb.2 b hb).trans e) f0 f1 f3 f4 f5
  obtain ⟨o,e,c,d⟩:=id st'
  exact ⟨u,rfl,go_of (s:={ s with heap:=h' }) e c d (by decide) ⟨x,H,I1,ru,⟨rfl,fun ys hy=>by rw [I.list_inj hy hq];exact hx⟩,st',fun b hb=>(hf b hb).1⟩⟩
 done:=by
  intro X hP hw hK hc i pins s σ H E I hf st hg
  subst hP hw hK
  obtain ⟨xs,hq,hx⟩:=hg
  obtain ⟨its,rv,p,hz⟩:=I.list hq
  obtain ⟨f0,f1,f2,f3,f4,f5⟩:=hf it (by simp)
  have hl:=rv.length
  exact wpAny_pyNext_list_end (I.ok.hd hc) st p.isList (by simp;omega) fun h' eb=>⟨rfl,I.turned (t':=s.toks) (fun b o hb e=>eb b o hb e) f0 f1 f3 f4 f5⟩
 self:=fun _ _ _ _ _ st h=>wpAny_pyIter_listiter st h
theorem turn_tuple {P:Program} {w:World} {K:PySem.W.Frag} {tg:Expr} (a it:Addr):Turn P w K tg (Itt K a) [it] it (fun i h=>h.IsTupleIter it a i) where
 mem:=by simp
 obj:=fun i h st b hb=>by
  have e:b=it:=by simpa using hb
  subst e
  obtain ⟨o,e,c,d⟩:=st
  exact ⟨o,e,fun v z=>by rw [d] at z;cases z⟩
 keep:=fun i h h' st k=>st.at fun o e=>k it (by simp) o e
 item:=by
  intro X hP hw hK hc i pins s σ H E I hf st hg
  subst hP hw hK
  obtain ⟨xs,x,hq,hx⟩:=hg
  obtain ⟨its,rv,p,hz⟩:=I.tuple hq
  obtain ⟨u,hu,ru⟩:=rv.get hx
  obtain ⟨f0,f1,f2,f3,f4,f5⟩:=hf it (by simp)
  refine wpAny_pyNext_tuple_item st (show s.heap.IsTuple a its.toArray from p) (x:=u) (by simpa using hu) fun h' st' sb=>?_
  have I1:Inv X pins σ H { s with heap:=h' }:=I.turned (t':=s.toks) (fun b o hb e=>(sb.2 b hb).trans e) f0 f1 f3 f4 f5
  obtain ⟨o,e,c,d⟩:=id st'
  exact ⟨u,rfl,go_of (s:={ s with heap:=h' }) e c d (by decide) ⟨x,H,I1,ru,⟨rfl,fun ys hy=>by rw [I.tuple_inj hy hq];exact hx⟩,st',fun b hb=>(hf b hb).1⟩⟩
 done:=by
  intro X hP hw hK hc i pins s σ H E I hf st hg
  subst hP hw hK
  obtain ⟨xs,hq,hx⟩:=hg
  obtain ⟨its,rv,p,hz⟩:=I.tuple hq
  obtain ⟨f0,f1,f2,f3,f4,f5⟩:=hf it (by simp)
  have hl:=rv.length
  exact wpAny_pyNext_tuple_end (I.ok.hd hc) st (show s.heap.IsTuple a its.toArray from p) (by simp;omega) fun h' eb=>⟨rfl,I.turned (t':=s.toks) (fun b o hb e=>eb b o hb e) f0 f1 f3 f4 f5⟩
 self:=fun _ _ _ _ _ st h=>wpAny_pyIter_tupleiter st h
theorem turn_range {P:Program} {w:World} {K:PySem.W.Frag} {tg:Expr} (it:Addr) (lo:Int) (n:Nat):Turn P w K tg (Itr lo n) [it] it (fun i h=>IsRangeIter h it (lo+(i:Nat)*1) ((n:Int)-(i:Nat)) 1) where
 mem:=by simp
 obj:=fun i h st b hb=>by
  have e:b=it:=by simpa using hb
  subst e
  exact ⟨_,st,fun v z=>by
   have z':Data.fields _=Data.cell v:=z
   cases z'⟩
 keep:=fun i h h' st k=>k it (by simp) _ st
 item:=by
  intro X hP hw hK hc i pins s σ H E I hf st hg
  subst hP hw hK
  obtain ⟨f0,f1,f2,f3,f4,f5⟩:=hf it (by simp)
  have W:=Walks.range (prog:=X.prog) (w:=X.w) (I.ok.hd hc) it lo 1 n
  refine W.item i s _ _ hg st fun v h' tk hv st' kk=>?_
  obtain ⟨t,rfl⟩:=hv
  have I1:Inv X pins σ H { s with heap:=h',toks:=tk }:=I.turned (fun b o hb e=>kk b o (by simpa using hb) e) f0 f1 f3 f4 f5
  refine ⟨_,rfl,go_of (s:={ s with heap:=h',toks:=tk }) (n := "range_iterator") st' rfl rfl (by decide) ⟨.int (lo+i),H,I1,⟨t,?_⟩,⟨rfl,rfl⟩,st',fun b hb=>(hf b hb).1⟩⟩
  rw [bu]
 done:=by
  intro X hP hw hK hc i pins s σ H E I hf st hg
  subst hP hw hK
  obtain ⟨f0,f1,f2,f3,f4,f5⟩:=hf it (by simp)
  exact wpAny_pyNext_range_end (I.ok.hd hc) st (by have:n<=i:=hg;omega) fun h' eb=>⟨rfl,I.turned (t':=s.toks) (fun b o hb e=>eb b o hb e) f0 f1 f3 f4 f5⟩
 self:=fun _ _ _ _ _ st h=>wpAny_pyIter_rangeiter st h
end L2
namespace L2
open PySem PySem.Spec PyProof.Rows
section
variable {X:Cx} {tg:Expr}
theorem range_it {pins:List (Addr×Obj)} {σ:St} {H:Hp} {s:Shared} {R:It->Hp->Prop} {E:Value->Shared->Prop} {lo hi:Int} {t u v:Tok} {tk:Nat} (I:Inv X pins σ H s) (h1 : -(2^62)<=lo) (h2:lo<2^62) (h3 : -(2^62)<=hi) (h4:hi<2^62)
  (q:R (Itr lo (hi-lo).toNat) H):wpAny (model X.prog X.w) X.A (pyIter (.ref s.heap.objs.size)) (PIE X pins σ tg R) E { s with heap:=s.heap.push { cls:=.type "range",data:=.fields #[.int lo t,.int hi u,.int 1 v] },toks:=tk }:=by
 refine wpAny_pyIter_range (IsRange.new ..) (small_one h1 h2 h3 h4) ?_
 have I1:Inv X pins σ H { s with heap:=s.heap.push { cls:=.type "range",data:=.fields #[.int lo t,.int hi u,.int 1 v] },toks:=tk }:=I.kept fun b o e=>Heap.get?_push_of_some _ e
 refine ⟨(s.heap.push { cls:=.type "range",data:=.fields #[.int lo t,.int hi u,.int 1 v] }).objs.size,[(s.heap.push { cls:=.type "range",data:=.fields #[.int lo t,.int hi u,.int 1 v] }).objs.size],_,_,H,rfl,
  I1.kept (t':=tk) fun b o e=>Heap.get?_push_of_some _ e,turn_range _ lo (hi-lo).toNat,?_,fun b hb=>?_,q⟩
 ·have e1:lo+((0:Nat):Int)*1=lo:=by simp
  have e2:(((hi-lo).toNat:Nat):Int)-((0:Nat):Int)=Builtin.Range.rangeSize lo hi 1:=by rw [rangeSize_one];split <;> omega
  show IsRangeIter _ _ (lo+((0:Nat):Int)*1) ((((hi-lo).toNat:Nat):Int)-((0:Nat):Int)) 1
  rw [e1,e2]
  exact Heap.get?_push_size _ rfl
 ·have e:b=(s.heap.push { cls:=.type "range",data:=.fields #[.int lo t,.int hi u,.int 1 v] }).objs.size:=by simpa using hb
  subst e
  exact I1.fpOk (aj _) (I1.hok.fresh (aj _))
def iRng1 (ta:TA):TI:=fun σ H R=>ta σ H fun vs H1=>∃ j:Int,vs=[.int j] /\ -(2^62)<=j/\j<2^62/\R (Itr 0 j.toNat) H1
def iRng2 (ta:TA):TI:=fun σ H R=>ta σ H fun vs H1=>∃ i j:Int,vs=[.int i,.int j]/\(-(2^62)<=i/\i<2^62 /\ -(2^62)<=j/\j<2^62)/\R (Itr i (j-i).toNat) H1
theorem pi_range1 {a:Expr} {ta:TA} {p pos:Pos} (hg:Gl X "range") (hm:X.mg "range" = none) (ha:PA X [a] ta) (hs:starEach [a] X.env=[(false,eval a X.env)]:=by rfl):PI X tg (.Call (.Name "range" p) [a] [] pos) (iRng1 ta):=by
 intro pins s σ H R I h
 refine Call_ (ld_blt I hg hm boot_range (PyProof.Rows.callWith_type1 (thn (ha pos pins s σ H _ I h) fun us s1 ⟨vs,H1,I1,r1,q1⟩=>?_) hs rfl))
 obtain ⟨j,e,q1,q2,q⟩:=q1
 subst e
 cases r1 with
 | cons r rr =>
  cases rr
  obtain ⟨t,rfl⟩:=r
  exact call_range_1 (range_it I1 (by omega) (by omega) q1 q2 (by simpa using q))
theorem pi_range2 {a b:Expr} {ta:TA} {p pos:Pos} (hg:Gl X "range") (hm:X.mg "range" = none) (ha:PA X [a,b] ta) (hs:starEach [a,b] X.env=[(false,eval a X.env),(false,eval b X.env)]:=by rfl) (hs2:starEach [b] X.env=[(false,eval b X.env)]:=by rfl) :
  PI X tg (.Call (.Name "range" p) [a,b] [] pos) (iRng2 ta):=by
 intro pins s σ H R I h
 refine Call_ (ld_blt I hg hm boot_range (PyProof.Rows.callWith_type1 (thn (ha pos pins s σ H _ I h) fun us s1 ⟨vs,H1,I1,r1,q1⟩=>?_) (by rw [hs,hs2]) (by rw [hs2];rfl)))
 obtain ⟨i,j,e,⟨q1,q2,q3,q4⟩,q⟩:=q1
 subst e
 cases r1 with
 | cons r rr =>
  cases rr with
  | cons r' rr =>
   cases rr
   obtain ⟨t,rfl⟩:=r
   obtain ⟨t',rfl⟩:=r'
   exact call_range_2 (range_it I1 q1 q2 q3 q4 q)
def tFor (wi:TI) (g:TG) (tb:TS):TS:=fun D σ H=>wi σ H fun J H1=>∃ W:Nat->Nat->St->Hp->Prop,(∃ m,W 0 m σ H1)/\∀ i m σ H,W i m σ H ->
 (J.stop i H/\D.nx σ H)\/(J.go i H/\∃ N:St->Hp->Prop,(∀ σ' H',N σ' H'->∃ m',m'<m/\W (i+1) m' σ' H')/\∀ x H',J.yld i H x H'->g x σ H' fun σ2 H2=>tb { D with nx:=N,ct:=N,bk:=D.nx } σ2 H2)
def pinsAt (fp:List Addr) (h:Heap):List (Addr×Obj):=fp.filterMap fun b=>(h.get? b).map fun o=>(b,o)
theorem mem_pinsAt {fp:List Addr} {h:Heap} {b:Addr} {o:Obj} (hb:b∈fp) (e:h.get? b=some o):(b,o)∈pinsAt fp h:=gx.mpr ⟨b,hb,by rw [e];rfl⟩
theorem of_pinsAt {fp:List Addr} {h:Heap} {p:Addr×Obj} (hp:p∈pinsAt fp h):p.1∈fp/\h.get? p.1=some p.2:=by
 obtain ⟨b,hb,e⟩:=gx.mp hp
 cases q:h.get? b with
 | none=>rw [q] at e;cases e
 | some o =>
  rw [q] at e
  have e':(b,o)=p:=Option.some.inj e
  subst e'
  exact ⟨hb,q⟩
theorem Inv.pinned {pins:List (Addr×Obj)} {σ:St} {H:Hp} {s:Shared} {fp:List Addr} (I:Inv X pins σ H s) (hf:∀ b∈fp,FpOk X pins H b) (ho:∀ b∈fp,∃ o,s.heap.get? b=some o/\∀ v,o.data ≠ .cell v):Inv X (pins++pinsAt fp s.heap) σ H s :=
 I.pins_of fun p hp=>(b8.mp hp).elim (fun z=>I.pin p (aP _ z)) fun z=>by
  obtain ⟨hb,e⟩:=of_pinsAt z
  obtain ⟨f0,f1,f2,_⟩:=hf p.1 hb
  obtain ⟨o,e',d⟩:=ho p.1 hb
  rw [e] at e';cases e'
  exact ⟨e,f0,f1,f2,d⟩
theorem Inv.unpinned {pins pl:List (Addr×Obj)} {σ:St} {H:Hp} {s:Shared} (I:Inv X (pins++pl) σ H s):Inv X pins σ H s:=I.pins_of fun p hp=>I.pin p (aP _ (fY _ hp))
theorem ps_for {iter:Expr} {body:List Stmt} {wi:TI} {g:TG} {tb:TS} {pos:Pos} (hp:PassesOwn (model X.prog X.w) X.A X.env X.xe) (hc:X.calm=true) (hi:PI X tg iter wi) (hg:PG X tg g) (hb:PSs X body tb)
  (hs:∀ x,foldedSetIterable iter X.env x=pure x:=by intro _;rfl):PS X (.For tg iter body [] pos) (tFor wi g tb):=by
 intro pins s σ H D I h
 refine wpAny_For (thn (hi pins s σ H _ I h) fun v s1 h1=>thn h1 fun itv s2 h2=>?_) hs
 obtain ⟨it,fp,tn,J,H2,e,I2,T,st2,f2,W,⟨m0,w0⟩,turn⟩:=h2
 subst e
 -- what stays true of the iterator's objects through the loop
 have stat:∀ {H':Hp},(∀ b∈fp,H' b=none)->∀ b∈fp,FpOk X pins H' b:=fun hn b hb=>⟨hn b hb,(f2 b hb).2⟩
 refine codeAny_forLoop_any (fun n s'=>∃ i σ' H',Inv X pins σ' H' s'/\tn i s'.heap/\(∀ b∈fp,H' b=none)/\W i n σ' H') ?_ m0 ⟨0,σ,H2,I2,st2,fun b hb=>(f2 b hb).1,w0⟩
 rintro n s3 ⟨i,σ3,H3,I3,st3,fr3,w3⟩
 rcases turn i n σ3 H3 w3 with ⟨stop,qn⟩ | ⟨go,N,hN,step⟩
 ·refine wpAny_passesOwn hp (thn (T.done X rfl rfl rfl hc i pins s3 σ3 H3 X.xe I3 (stat fr3) st3 stop) fun r s4 ⟨hr,I4⟩=>?_)
  subst hr
  exact wpAny_execs_nil ⟨σ3,H3,I4,qn⟩
 ·refine wpAny_passesOwn hp (thn (T.item X rfl rfl rfl hc i pins s3 σ3 H3 X.xe I3 (stat fr3) st3 go) fun r s4 ⟨u,hr,h4⟩=>?_)
  subst hr
  refine wpAny_passesOwn hp (thn h4 fun _ s5 ⟨x,H5,I5,r5,y5,st5,fr5⟩=>?_)
  have I5':=I5.pinned (stat fr5) (T.obj _ _ st5)
  refine wpAny_passesOwn hp (thn (hg _ s5 σ3 H5 x u _ I5' r5 (step x H5 y5)) fun _ s6 ⟨σ6,H6,I6,q6⟩=>?_)
  refine wpAny_passesOwn hp (thn (hb _ s6 σ6 H6 _ I6 q6) fun f s7 q7=>?_)
  have again:∀ {σ7:St} {H7:Hp},Inv X (pins++pinsAt fp s5.heap) σ7 H7 s7->N σ7 H7->∃ m,m<n/\∃ i σ' H',Inv X pins σ' H' s7/\tn i s7.heap/\(∀ b∈fp,H' b=none)/\W i m σ' H':=fun {σ7 H7} I7 n7=>by
   obtain ⟨m',hm,w7⟩:=hN σ7 H7 n7
   refine ⟨m',hm,i+1,σ7,H7,I7.unpinned,T.keep _ _ _ st5 fun b hb o e=>(I7.pin (b,o) (aP _ (aP _ (mem_pinsAt hb e)))).1,fun b hb=>?_,w7⟩
   obtain ⟨o,e,d⟩:=T.obj _ _ st5 b hb
   exact (I7.pin (b,o) (aP _ (aP _ (mem_pinsAt hb e)))).2.1
  cases f with
  | next=>obtain ⟨σ7,H7,I7,n7⟩:=q7;exact again I7 n7
  | cont=>obtain ⟨σ7,H7,I7,n7⟩:=q7;exact again I7 n7
  | brk=>obtain ⟨σ7,H7,I7,q7⟩:=q7;exact ⟨σ7,H7,I7.unpinned,q7⟩
  | ret v=>obtain ⟨x7,σ7,H7,I7,r7,q7⟩:=q7;exact ⟨x7,σ7,H7,I7.unpinned,r7,q7⟩
end
end L2
namespace L2
open PySem PySem.Spec PyProof.Rows
abbrev R2:=V->V->Hp->VK->Prop
def OpR (X:Cx) (f:Value->Value->Sem Value) (r:R2):Prop :=
 ∀ (pins:List (Addr×Obj)) (s:Shared) (σ:St) (H:Hp) (x y:V) (v u:Value) (Q:VK),Inv X pins σ H s->RelV x v->RelV y u->r x y H Q ->
  wpAny (model X.prog X.w) X.A (f v u) (EP X pins σ Q) X.xe s
def UnR (X:Cx) (f:Value->Sem Value) (r:V->Hp->VK->Prop):Prop :=
 ∀ (pins:List (Addr×Obj)) (s:Shared) (σ:St) (H:Hp) (x:V) (v:Value) (Q:VK),Inv X pins σ H s->RelV x v->r x H Q ->
  wpAny (model X.prog X.w) X.A (f v) (EP X pins σ Q) X.xe s
def CallR (X:Cx) (f:Value) (r:List V->Hp->VK->Prop):Prop :=
 ∀ (pins:List (Addr×Obj)) (s:Shared) (σ:St) (H:Hp) (xs:List V) (us:List Value) (Q:VK),Inv X pins σ H s->Vals xs us->r xs H Q ->
  wpAny (model X.prog X.w) X.A (call f us) (EP X pins σ Q) X.xe s
def TruR (X:Cx) (r:V->Hp->(Bool->Hp->Prop)->Prop):Prop :=
 ∀ (pins:List (Addr×Obj)) (s:Shared) (σ:St) (H:Hp) (x:V) (v:Value) (Q:Bool->Hp->Prop),Inv X pins σ H s->RelV x v->r x H Q ->
  wpAny (model X.prog X.w) X.A (truthy v) (TP X pins σ Q) X.xe s
def tOp (r:R2) (ta tb:TE):TE:=fun σ H Q=>ta σ H fun x H1=>tb σ H1 fun y H2=>r x y H2 Q
def tUn (r:V->Hp->VK->Prop) (ta:TE):TE:=fun σ H Q=>ta σ H fun x H1=>r x H1 Q
def rI (C:Int->Int->Prop) (g:Int->Int->V):R2:=fun x y H Q=>∃ i j,x = .int i/\y = .int j/\C i j/\Q (g i j) H
def rI0 (g:Int->Int->V):R2:=fun x y H Q=>∃ i j,x = .int i/\y = .int j/\Q (g i j) H
def rU (g:Int->V):V->Hp->VK->Prop:=fun x H Q=>∃ i,x = .int i/\Q (g i) H
section
variable {X:Cx} {a b c:Expr} {ta tb tc:TE} {pos:Pos}
theorem binT (ha:PE X a ta) (hb:PE X b tb) {pins:List (Addr×Obj)} {s:Shared} {σ:St} {H:Hp} {R:V->V->Hp->Prop} (I:Inv X pins σ H s)
  (h:ta σ H fun x H1=>tb σ H1 fun y H2=>R x y H2) {Q:Value->Shared->Prop} {f:Value->Value->Sem Value}
  (hf:∀ v u s2 x y H2,Inv X pins σ H2 s2->RelV x v->RelV y u->R x y H2->wpAny (model X.prog X.w) X.A (f v u) Q X.xe s2) :
  wpAny (model X.prog X.w) X.A (eval a X.env) (fun v s₁=>wpAny (model X.prog X.w) X.A (eval b X.env) (fun u s₂=>wpAny (model X.prog X.w) X.A (f v u) Q X.xe s₂) X.xe s₁) X.xe s:=by
 refine thn (ha pins s σ H _ I h) fun v s1 ⟨x,H1,I1,r1,q1⟩=>?_
 refine thn (hb pins s1 σ H1 _ I1 q1) fun u s2 ⟨y,H2,I2,r2,q2⟩=>?_
 exact hf v u s2 x y H2 I2 r1 r2 q2
theorem pe_op {op:Operator} {r:R2} (ho:OpR X (binaryOp op) r) (ha:PE X a ta) (hb:PE X b tb):PE X (.BinOp a op b pos) (tOp r ta tb):=by
 intro pins s σ H Q I h
 exact wpAny_BinOp (binT ha hb I h fun v u s2 x y H2 I2 rx ry q=>ho pins s2 σ H2 x y v u Q I2 rx ry q)
theorem pe_un {op:UnaryOp} {r:V->Hp->VK->Prop} (ho:UnR X (unaryOp op) r) (ha:PE X a ta):PE X (.UnaryOp op a pos) (tUn r ta):=by
 intro pins s σ H Q I h
 exact UnaryOp_ (thn (ha pins s σ H _ I h) fun v s1 ⟨x,H1,I1,r1,q1⟩=>ho pins s1 σ H1 x v Q I1 r1 q1)
theorem opI {f:Value->Value->Sem Value} {C:Int->Int->Prop} {g:Int->Int->Int}
  (rule:∀ (i j:Int) (t u:Tok) (s:Shared) (Q:Value->Shared->Prop) (E:Value->Shared->Prop),C i j->Q (.int (g i j) s.toks) { s with toks:=s.toks+1 }->wpAny (model X.prog X.w) X.A (f (.int i t) (.int j u)) Q E s) :
  OpR X f (rI C fun i j=>.int (g i j)):=by
 intro pins s σ H x y v u Q I rx ry h
 obtain ⟨i,j,rfl,rfl,hc,q⟩:=h
 obtain ⟨t,rfl⟩:=rx
 obtain ⟨t',rfl⟩:=ry
 exact rule i j t t' s _ _ hc ⟨.int (g i j),H,I.tok _,⟨_,rfl⟩,q⟩
theorem opI0 {f:Value->Value->Sem Value} {g:Int->Int->Int}
  (rule:∀ (i j:Int) (t u:Tok) (s:Shared) (Q:Value->Shared->Prop) (E:Value->Shared->Prop),Q (.int (g i j) s.toks) { s with toks:=s.toks+1 }->wpAny (model X.prog X.w) X.A (f (.int i t) (.int j u)) Q E s) :
  OpR X f (rI0 fun i j=>.int (g i j)):=by
 intro pins s σ H x y v u Q I rx ry h
 obtain ⟨i,j,rfl,rfl,q⟩:=h
 obtain ⟨t,rfl⟩:=rx
 obtain ⟨t',rfl⟩:=ry
 exact rule i j t t' s _ _ ⟨.int (g i j),H,I.tok _,⟨_,rfl⟩,q⟩
theorem opB0 {f:Value->Value->Sem Value} {g:Int->Int->Bool}
  (rule:∀ (i j:Int) (t u:Tok) (s:Shared) (Q:Value->Shared->Prop) (E:Value->Shared->Prop),Q (.bool (g i j)) s->wpAny (model X.prog X.w) X.A (f (.int i t) (.int j u)) Q E s) :
  OpR X f (rI0 fun i j=>.bl (g i j)):=by
 intro pins s σ H x y v u Q I rx ry h
 obtain ⟨i,j,rfl,rfl,q⟩:=h
 obtain ⟨t,rfl⟩:=rx
 obtain ⟨t',rfl⟩:=ry
 exact rule i j t t' s _ _ ⟨.bl (g i j),H,I,rfl,q⟩
def CDiv (i j:Int):Prop:=0<j/\j<1073741824
def CPow (i j:Int):Prop:=0<=j/\j<=1000000/\i.natAbs<2^64
def CMul (i j:Int):Prop:=(-(2^64)<i/\i<2^64)\/(-(2^64)<j/\j<2^64)
theorem CMul.ok {i j:Int} (h:CMul i j):IntMulOk i j:=by
 rcases h with ⟨h1,h2⟩ | ⟨h1,h2⟩
 ·exact .of_left (intBits_le_64 h1 h2)
 ·exact .of_right (intBits_le_64 h1 h2)
theorem op_add:OpR X (binaryOp .Add) (rI0 fun i j=>.int (i+j)):=opI0 fun _ _ _ _ _ _ _ q=>add_int q
theorem op_sub:OpR X (binaryOp .Sub) (rI0 fun i j=>.int (i-j)):=opI0 fun _ _ _ _ _ _ _ q=>sub_int q
theorem op_mul:OpR X (binaryOp .Mult) (rI CMul fun i j=>.int (i*j)):=opI fun _ _ _ _ _ _ _ hc q=>mul_int q hc.ok
theorem op_fdiv:OpR X (binaryOp .FloorDiv) (rI CDiv fun i j=>.int (i / j)):=opI fun i j _ _ _ _ _ hc q=>by
 have h1:(0:Int)<j:=hc.1
 have h2:j<1073741824:=hc.2
 exact floordiv_int (by omega) (by rw [cO i (by omega)];exact q) (.inl (PyProof.noPylong_small (by omega)))
theorem op_mod:OpR X (binaryOp .Mod) (rI (fun _ j=>0<j) fun i j=>.int (i%j)):=opI fun i j _ _ _ _ _ hc q=>by
 have h1:(0:Int)<j:=hc
 exact mod_int' (by omega) (by rw [cq i (by omega)];exact q)
theorem op_modN:OpR X (binaryOp .Mod) (rI (fun _ j=>j≠0) fun i j=>.int (i.fmod j)):=opI fun _ _ _ _ _ _ _ hc q=>mod_int' hc q
theorem op_pow:OpR X (binaryOp .Pow) (rI CPow fun i j=>.int (i^j.toNat)):=opI fun _ _ _ _ _ _ _ hc q=>pow_int_small hc.1 hc.2.1 hc.2.2 q
theorem op_shl:OpR X (binaryOp .LShift) (rI CPow fun i j=>.int (i*2^j.toNat)):=opI fun _ _ _ _ _ _ _ hc q=>lshift_int_small hc.1 hc.2.1 hc.2.2 q
theorem iop_add:OpR X (inplaceOp .Add) (rI0 fun i j=>.int (i+j)):=opI0 fun _ _ _ _ _ _ _ q=>iadd_int q
theorem iop_sub:OpR X (inplaceOp .Sub) (rI0 fun i j=>.int (i-j)):=opI0 fun _ _ _ _ _ _ _ q=>isub_int q
theorem unI {f:Value->Sem Value} {g:Int->Int}
  (rule:∀ (i:Int) (t:Tok) (s:Shared) (Q:Value->Shared->Prop) (E:Value->Shared->Prop),Q (.int (g i) s.toks) { s with toks:=s.toks+1 }->wpAny (model X.prog X.w) X.A (f (.int i t)) Q E s) :
  UnR X f (rU fun i=>.int (g i)):=by
 intro pins s σ H x v Q I rx h
 obtain ⟨i,rfl,q⟩:=h
 obtain ⟨t,rfl⟩:=rx
 exact rule i t s _ _ ⟨.int (g i),H,I.tok _,⟨_,rfl⟩,q⟩
theorem un_neg:UnR X (unaryOp .USub) (rU fun i=>.int (-i)):=unI fun _ _ _ _ _ q=>neg_int q
end
def scal:V->V->Bool
 | .non,.non=>true | .non,.int _=>true | .int _,.non=>true | .non,.bl _=>true | .bl _,.non=>true | .non,.str _=>true | .str _,.non=>true
 | .int _,.int _=>true | .bl _,.bl _=>true | .str _,.str _=>true | .byt _,.byt _=>true
 | .int _,.str _=>true | .str _,.int _=>true | .bl _,.str _=>true | .str _,.bl _=>true
 | _,_=>false
def rEq:R2:=fun x y H Q=>scal x y=true/\Q (.bl (decide (x=y))) H
def rNe:R2:=fun x y H Q=>scal x y=true/\Q (.bl (!decide (x=y))) H
theorem dec_int {i j:Int}:decide (V.int i=V.int j)=(i == j):=by
 rw [cs]
 simp
theorem dec_bl {i j:Bool}:decide (V.bl i=V.bl j)=(i == j):=by
 rw [cs]
 simp
theorem dec_str {i j:Str}:decide (V.str i=V.str j)=(i == j):=by
 rw [cs]
 simp
theorem dec_byt {i j:Array UInt8}:decide (V.byt i=V.byt j)=(i.toList == j.toList):=by
 rw [cs]
 cases i
 cases j
 simp
section
variable {X:Cx} {a b c:Expr} {ta tb tc:TE} {pos:Pos}
theorem fin_bl {pins:List (Addr×Obj)} {σ:St} {H:Hp} {s:Shared} {Q:VK} {k k':Bool} (I:Inv X pins σ H s) (q:Q (.bl k) H) (e:k=k'):EP X pins σ Q (.bool k') s:=by
 subst e
 exact ⟨.bl k,H,I,rfl,q⟩
theorem op_eq:OpR X (compareOp .Eq) rEq:=by
 intro pins s σ H x y v u Q I rx ry h
 obtain ⟨hs,q⟩:=h
 cases x with
 | non =>
  cases rx
  cases y with
  | non=>cases ry;exact PySem.EqNone.eq_none_none (fin_bl I q (by simp))
  | bl j=>cases ry;exact PySem.EqNone.eq_none_bool (fin_bl I q (by simp))
  | int j=>obtain ⟨t',rfl⟩:=ry;exact PySem.EqNone.eq_none_int (fin_bl I q (by simp))
  | str j=>obtain ⟨t',rfl⟩:=ry;exact PySem.EqNone.eq_none_str (fin_bl I q (by simp))
  | _=>exact absurd (show false=true from hs) az
 | bl i =>
  cases rx
  cases y with
  | non=>cases ry;exact PySem.EqNone.eq_bool_none (fin_bl I q (by simp))
  | bl j=>cases ry;exact eq_bool (fin_bl I q dec_bl)
  | str j=>obtain ⟨t',rfl⟩:=ry;exact PySem.EqMixed.eq_bool_str (fin_bl I q (by simp))
  | _=>exact absurd (show false=true from hs) az
 | int i =>
  obtain ⟨t,rfl⟩:=rx
  cases y with
  | non=>cases ry;exact PySem.EqNone.eq_int_none (fin_bl I q (by simp))
  | int j=>obtain ⟨t',rfl⟩:=ry;exact eq_int (fin_bl I q dec_int)
  | str j=>obtain ⟨t',rfl⟩:=ry;exact PySem.EqMixed.eq_int_str (fin_bl I q (by simp))
  | _=>exact absurd (show false=true from hs) az
 | str i =>
  obtain ⟨t,rfl⟩:=rx
  cases y with
  | non=>cases ry;exact PySem.EqNone.eq_str_none (fin_bl I q (by simp))
  | bl j=>cases ry;exact PySem.EqMixed.eq_str_bool (fin_bl I q (by simp))
  | int j=>obtain ⟨t',rfl⟩:=ry;exact PySem.EqMixed.eq_str_int (fin_bl I q (by simp))
  | str j=>obtain ⟨t',rfl⟩:=ry;exact eq_str (fin_bl I q dec_str)
  | _=>exact absurd (show false=true from hs) az
 | byt i =>
  obtain ⟨t,rfl⟩:=rx
  cases y with
  | byt j=>obtain ⟨t',rfl⟩:=ry;exact PySem.W.eq_bytes (fin_bl I q dec_byt)
  | _=>exact absurd (show false=true from hs) az
 | _=>cases y <;> exact absurd (show false=true from hs) az
theorem op_ne:OpR X (compareOp .NotEq) rNe:=by
 intro pins s σ H x y v u Q I rx ry h
 obtain ⟨hs,q⟩:=h
 cases x with
 | non =>
  cases rx
  cases y with
  | non=>cases ry;exact PySem.EqNone.ne_none_none (fin_bl I q (by simp))
  | bl j=>cases ry;exact PySem.EqNone.ne_none_bool (fin_bl I q (by simp))
  | int j=>obtain ⟨t',rfl⟩:=ry;exact PySem.EqNone.ne_none_int (fin_bl I q (by simp))
  | str j=>obtain ⟨t',rfl⟩:=ry;exact PySem.EqNone.ne_none_str (fin_bl I q (by simp))
  | _=>exact absurd (show false=true from hs) az
 | bl i =>
  cases rx
  cases y with
  | non=>cases ry;exact PySem.EqNone.ne_bool_none (fin_bl I q (by simp))
  | bl j=>cases ry;exact ne_bool (fin_bl I q (congrArg not dec_bl))
  | str j=>obtain ⟨t',rfl⟩:=ry;exact PySem.EqMixed.ne_bool_str (fin_bl I q (by simp))
  | _=>exact absurd (show false=true from hs) az
 | int i =>
  obtain ⟨t,rfl⟩:=rx
  cases y with
  | non=>cases ry;exact PySem.EqNone.ne_int_none (fin_bl I q (by simp))
  | int j=>obtain ⟨t',rfl⟩:=ry;exact ne_int (fin_bl I q (congrArg not dec_int))
  | str j=>obtain ⟨t',rfl⟩:=ry;exact PySem.EqMixed.ne_int_str (fin_bl I q (by simp))
  | _=>exact absurd (show false=true from hs) az
 | str i =>
  obtain ⟨t,rfl⟩:=rx
  cases y with
  | non=>cases ry;exact PySem.EqNone.ne_str_none (fin_bl I q (by simp))
  | bl j=>cases ry;exact PySem.EqMixed.ne_str_bool (fin_bl I q (by simp))
  | int j=>obtain ⟨t',rfl⟩:=ry;exact PySem.EqMixed.ne_str_int (fin_bl I q (by simp))
  | str j=>obtain ⟨t',rfl⟩:=ry;exact ne_str (fin_bl I q (congrArg not dec_str))
  | _=>exact absurd (show false=true from hs) az
 | byt i =>
  obtain ⟨t,rfl⟩:=rx
  cases y with
  | byt j=>obtain ⟨t',rfl⟩:=ry;exact PySem.W.ne_bytes (fin_bl I q (congrArg not dec_byt))
  | _=>exact absurd (show false=true from hs) az
 | _=>cases y <;> exact absurd (show false=true from hs) az
theorem op_lt:OpR X (compareOp .Lt) (rI0 fun i j=>.bl (decide (i<j))):=opB0 fun _ _ _ _ _ _ _ q=>lt_int q
theorem op_le:OpR X (compareOp .LtE) (rI0 fun i j=>.bl (decide (i<=j))):=opB0 fun _ _ _ _ _ _ _ q=>le_int q
theorem op_gt:OpR X (compareOp .Gt) (rI0 fun i j=>.bl (decide (j<i))):=opB0 fun _ _ _ _ _ _ _ q=>gt_int q
theorem op_ge:OpR X (compareOp .GtE) (rI0 fun i j=>.bl (decide (j<=i))):=opB0 fun _ _ _ _ _ _ _ q=>ge_int q
theorem op_isN:OpR X (compareOp .Is) (fun x y H Q=>y = .non/\Q (.bl (decide (x = .non))) H):=by
 intro pins s σ H x y v u Q I rx ry h
 obtain ⟨rfl,q⟩:=h
 cases ry
 refine is_none_gen (fin_bl I q ?_)
 cases x <;> first
  | (cases rx;rfl)
  | (obtain ⟨t,rfl⟩:=rx;rfl)
theorem op_notN:OpR X (compareOp .IsNot) (fun x y H Q=>y = .non/\Q (.bl (!decide (x = .non))) H):=by
 intro pins s σ H x y v u Q I rx ry h
 obtain ⟨rfl,q⟩:=h
 cases ry
 refine isnot_none_gen (fin_bl I q ?_)
 cases x <;> first
  | (cases rx;rfl)
  | (obtain ⟨t,rfl⟩:=rx;rfl)
theorem nomark (b:Expr) {op:CmpOp} (h:op ≠ .In:=by decide) (h2:op ≠ .NotIn:=by decide):behindInMarks op b=false:=by
 have e1:(op == CmpOp.In)=false:=by cases op <;> first | rfl | exact absurd rfl h
 have e2:(op == CmpOp.NotIn)=false:=by cases op <;> first | rfl | exact absurd rfl h2
 cases b <;> simp [behindInMarks,e1,e2]
theorem pe_cmpR {op:CmpOp} {r:R2} (ho:OpR X (compareOp op) r) (ha:PE X a ta) (hb:PE X b tb) (hm:behindInMarks op b=false):PE X (.Compare a [op] [b] pos) (tOp r ta tb):=by
 intro pins s σ H Q I h
 exact wpAny_Compare1 (binT ha hb I h fun v u s2 x y H2 I2 rx ry q=>ho pins s2 σ H2 x y v u Q I2 rx ry q) hm
def tTest (t:TE):TT:=fun σ H Q=>t σ H fun x H'=>∃ k,x = .bl k/\Q k H'
theorem pt_cmpR {op:CmpOp} {r:R2} (ho:OpR X (compareOp op) r) (ha:PE X a ta) (hb:PE X b tb) (hm:behindInMarks op b=false):PT X (.Compare a [op] [b] pos) (tTest (tOp r ta tb)):=by
 intro pins s σ H Q I h
 refine wpAny_isTrue_Compare1 (thn (ha pins s σ H _ I h) fun v s1 ⟨x,H1,I1,r1,q1⟩=>thn (hb pins s1 σ H1 _ I1 q1) fun u s2 ⟨y,H2,I2,r2,q2⟩ =>
  thn (ho pins s2 σ H2 x y v u _ I2 r1 r2 q2) fun c s3 ⟨z,H3,I3,r3,k,e,q3⟩=>?_) hm
 subst e
 cases r3
 exact wpAny_truthy_bool ⟨H3,I3,q3⟩
def tChain (r r':R2) (ta tb tc:TE):TE:=fun σ H Q=>ta σ H fun x H1=>tb σ H1 fun y H2=>r x y H2 fun z H3=>∃ k,z = .bl k /\
 (if k=true then tc σ H3 fun w' H4=>r' y w' H4 Q else Q (.bl false) H3)
theorem pe_chain {op op':CmpOp} {r r':R2} (ho:OpR X (compareOp op) r) (ho':OpR X (compareOp op') r') (ha:PE X a ta) (hb:PE X b tb) (hc:PE X c tc)
  (hm:lastMarks [op,op'] [b,c]=false:=by with_unfolding_all rfl):PE X (.Compare a [op,op'] [b,c] pos) (tChain r r' ta tb tc):=by
 intro pins s σ H Q I h
 refine Compare_chain (thn (ha pins s σ H _ I h) fun v s1 ⟨x,H1,I1,r1,q1⟩=>chain_link (thn (hb pins s1 σ H1 _ I1 q1) fun u s2 ⟨y,H2,I2,r2,q2⟩ =>
  thn (ho pins s2 σ H2 x y v u _ I2 r1 r2 q2) fun d s3 ⟨z,H3,I3,r3,k,e,q3⟩=>?_)) hm
 subst e
 cases r3
 refine wpAny_truthy_bool ?_
 cases k with
 | false=>exact ite_ff ⟨.bl false,H3,I3,rfl,q3⟩
 | true=>exact ite_tt (chain_last (thn (hc pins s3 σ H3 _ I3 q3) fun w' s4 ⟨z',H4,I4,r4,q4⟩=>ho' pins s4 σ H4 y z' u w' Q I4 r2 r4 q4))
theorem pt_chain {op op':CmpOp} {r r':R2} (ho:OpR X (compareOp op) r) (ho':OpR X (compareOp op') r') (ha:PE X a ta) (hb:PE X b tb) (hc:PE X c tc)
  (hm:lastMarks [op,op'] [b,c]=false:=by with_unfolding_all rfl):PT X (.Compare a [op,op'] [b,c] pos) (tTest (tChain r r' ta tb tc)):=by
 intro pins s σ H Q I h
 refine isTrue_chain (thn (ha pins s σ H _ I h) fun v s1 ⟨x,H1,I1,r1,q1⟩=>test_link (thn (hb pins s1 σ H1 _ I1 q1) fun u s2 ⟨y,H2,I2,r2,q2⟩ =>
  thn (ho pins s2 σ H2 x y v u _ I2 r1 r2 q2) fun d s3 ⟨z,H3,I3,r3,k,e,q3⟩=>?_)) hm
 subst e
 cases r3
 refine wpAny_truthy_bool ?_
 cases k with
 | false =>
  obtain ⟨k',e',q'⟩:=q3
  cases e'
  exact ite_ff ⟨H3,I3,q'⟩
 | true =>
  refine ite_tt (test_last (thn (hc pins s3 σ H3 _ I3 q3) fun w' s4 ⟨z',H4,I4,r4,q4⟩=>thn (ho' pins s4 σ H4 y z' u w' _ I4 r2 r4 q4) fun d' s5 ⟨z2,H5,I5,r5,k2,e2,q5⟩=>?_))
  subst e2
  cases r5
  exact wpAny_truthy_bool ⟨H5,I5,q5⟩
def TruV (K:PySem.W.Frag) (x:V) (H:Hp) (k:Bool):Prop :=
 match x with
 | .non=>k=false
 | .bl b=>k=b
 | .int i=>k=(i != 0)
 | .str y=>y.length<=sizeLine/\k=((y.length:Int) != 0)
 | .byt y=>y.size<=sizeLine/\k=((y.size:Int) != 0)
 | .ref p=>(∃ xs,SqL K H p xs/\k = !xs.isEmpty)\/(∃ xs,SqT K H p xs/\k = !xs.isEmpty)\/∃ kvs,H p=some (.dK kvs)/\k = !kvs.isEmpty
 | _=>False
theorem isEmpty_kv {κ:Type} {kvs:List (κ×V)} {vs:List (κ×Value)} (r:KV kvs vs):(!vs.isEmpty) = !kvs.isEmpty:=by
 cases r <;> rfl
theorem isEmpty_of {xs:List V} {its:List Value} (r:Vals xs its):(!its.toArray.isEmpty) = !xs.isEmpty:=by
 cases r <;> simp
theorem line63:(sizeLine:Nat)<2^63:=by rw [sizeLine_eq];decide
theorem tru_ok:TruR X (fun x H Q=>∃ k,TruV X.K x H k/\Q k H):=by
 intro pins s σ H x v Q I rx h
 obtain ⟨k,e,q⟩:=h
 have hl:=line63
 have hs:sizeLine=16777216:=sizeLine_eq
 cases x with
 | non =>
  cases rx
  have e':k=false:=e
  subst e'
  exact truthy_none ⟨H,I,q⟩
 | bl b =>
  cases rx
  have e':k=b:=e
  subst e'
  exact wpAny_truthy_bool ⟨H,I,q⟩
 | int i =>
  obtain ⟨t,rfl⟩:=rx
  have e':k=(i != 0):=e
  subst e'
  exact PySem.P.truthy_int ⟨H,I,q⟩
 | str y =>
  obtain ⟨t,rfl⟩:=rx
  obtain ⟨hy,e'⟩:y.length<=sizeLine/\k=((y.length:Int) != 0):=e
  subst e'
  exact PySem.P.truthy_str (by omega) ⟨H,I.tok _,q⟩
 | byt y =>
  obtain ⟨t,rfl⟩:=rx
  obtain ⟨hy,e'⟩:y.size<=sizeLine/\k=((y.size:Int) != 0):=e
  subst e'
  exact PySem.W.truthy_bytes (by omega) ⟨H,I.tok _,q⟩
 | ref p =>
  cases rx
  have e':(∃ xs,SqL X.K H p xs/\k = !xs.isEmpty)\/(∃ xs,SqT X.K H p xs/\k = !xs.isEmpty)\/∃ kvs,H p=some (.dK kvs)/\k = !kvs.isEmpty:=e
  rcases e' with ⟨xs,hx,e'⟩ | ⟨xs,hx,e'⟩ | ⟨kvs,hx,e'⟩
  ·subst e'
   obtain ⟨its,r,pl,hz⟩:=I.list hx
   have hlen:=r.length
   exact wpAny_truthy_list pl.isList (by simp only [ai];omega) ⟨H,I.tok _,by rw [isEmpty_of r];exact q⟩
  ·subst e'
   obtain ⟨its,r,pl,hz⟩:=I.tuple hx
   have hlen:=r.length
   exact truthy_tuple pl (by simp only [ai];omega) ⟨H,I.tok _,by rw [isEmpty_of r];exact q⟩
  ·subst e'
   obtain ⟨hz,hS,vs,r,m⟩:kvs.length<=sizeLine/\(p == sysModules)=false/\∃ vs,KV kvs vs/\s.heap.DictOf (mixKind X.prog X.w) p vs:=I.hok p _ hx
   have hlen:kvs.length=vs.length:=Paired.length r
   exact wpAny_truthy_dict hS m (by omega) ⟨H,I.tok _,by rw [isEmpty_kv r];exact q⟩
 | _=>exact (show False from e).elim
theorem pt_truth (ha:PE X a ta) (he:∀ whole,isTrue a X.env whole=(do let v ← whole;standAt a.pos;holding [v] (truthy v))) :
  PT X a (fun σ H Q=>ta σ H fun x H'=>∃ k,TruV X.K x H' k/\Q k H'):=by
 intro pins s σ H Q I h
 exact isTrue_plain (thn (ha pins s σ H _ I h) fun v s1 ⟨x,H1,I1,r1,q1⟩=>tru_ok pins s1 σ H1 x v Q I1 r1 q1) (he _)
theorem op_add_str:OpR X (binaryOp .Add) (fun x y H Q=>∃ i j,x = .str i/\y = .str j/\i.length+j.length<=sizeLine/\Q (.str (i++j)) H):=by
 intro pins s σ H x y v u Q I rx ry h
 obtain ⟨i,j,rfl,rfl,hz,q⟩:=h
 obtain ⟨t,rfl⟩:=rx
 obtain ⟨t',rfl⟩:=ry
 exact add_str (fun t' tk=>⟨.str (i++j),H,I.tok _,⟨_,rfl⟩,q⟩) hz
theorem iop_add_str:OpR X (inplaceOp .Add) (fun x y H Q=>∃ i j,x = .str i/\y = .str j/\i.length+j.length<=sizeLine/\Q (.str (i++j)) H):=by
 intro pins s σ H x y v u Q I rx ry h
 obtain ⟨i,j,rfl,rfl,hz,q⟩:=h
 obtain ⟨t,rfl⟩:=rx
 obtain ⟨t',rfl⟩:=ry
 exact iadd_str (fun t' tk=>⟨.str (i++j),H,I.tok _,⟨_,rfl⟩,q⟩) hz
theorem vals1 {x:V} {us:List Value} (r:Vals [x] us):∃ u,us=[u]/\RelV x u:=by
 cases r with
 | cons r1 r2=>cases r2;exact ⟨_,rfl,r1⟩
theorem vals2 {x y:V} {us:List Value} (r:Vals [x,y] us):∃ u w',us=[u,w']/\RelV x u/\RelV y w':=by
 cases r with
 | cons r1 r2 =>
  cases r2 with
  | cons r3 r4=>cases r4;exact ⟨_,_,rfl,r1,r3⟩
theorem call_abs:CallR X (.builtin "abs") (fun xs H Q=>∃ i,xs=[.int i]/\Q (.int (if i<0 then -i else i)) H):=by
 intro pins s σ H xs us Q I r h
 obtain ⟨i,rfl,q⟩:=h
 obtain ⟨u,rfl,t,rfl⟩:=vals1 r
 exact call_abs_int fun u tk=>⟨.int (if i<0 then -i else i),H,I.tok _,⟨_,rfl⟩,q⟩
theorem call_max2 (hc:X.calm=true):CallR X (.builtin "max") (fun xs H Q=>∃ i j,xs=[.int i,.int j]/\Q (.int (if j > i then j else i)) H):=by
 intro pins s σ H xs us Q I r h
 obtain ⟨i,j,rfl,q⟩:=h
 obtain ⟨u,w',rfl,⟨t,rfl⟩,⟨t',rfl⟩⟩:=vals2 r
 refine max_two_ints (I.ok.hd hc) fun h' tk k=>⟨_,H,I.kept k,?_,q⟩
 by_cases hj:j > i
 ·rw [if_pos hj,if_pos hj];exact ⟨_,rfl⟩
 ·rw [if_neg hj,if_neg hj];exact ⟨_,rfl⟩
theorem call_int1:CallR X (.type "int") (fun xs H Q=>(∃ i,xs=[.int i]/\Q (.int i) H)\/∃ k,xs=[.bl k]/\Q (.int (if k then 1 else 0)) H):=by
 intro pins s σ H xs us Q I r h
 rcases h with ⟨i,rfl,q⟩ | ⟨k,rfl,q⟩
 ·obtain ⟨u,rfl,t,rfl⟩:=vals1 r
  exact call_int_int ⟨.int i,H,I,⟨_,rfl⟩,q⟩
 ·obtain ⟨u,rfl,r1⟩:=vals1 r
  cases r1
  exact call_int_bool ⟨.int (if k then 1 else 0),H,I.tok _,⟨_,rfl⟩,q⟩
end
end L2
namespace L2
open PySem PySem.Spec PyProof.Rows
structure Room (k:Nat) (A:Around):Prop where
 hd:A.handled=none
 dp:A.depth+3*k+105<recursionLimit
 un:A.units+16*k+200<cLine
theorem Room.mono {j k:Nat} {A:Around} (r:Room k A) (h:j<=k):Room j A:=⟨r.hd,by have:=r.dp;omega,by have:=r.un;omega⟩
theorem Room.deeper {k:Nat} {A:Around} (r:Room (k+1) A) (env:Env):Room k (A.deeper env) :=
 ⟨r.hd,by have:=r.dp;show A.depth+1+3*k+105<_;omega,by have:=r.un;show A.units+3+16*k+200<_;omega⟩
theorem Room.depth {k:Nat} {A:Around} (r:Room k A):A.depth<recursionLimit:=by have:=r.dp;omega
theorem Room.units {k:Nat} {A:Around} (r:Room k A):A.units+64<cLine:=by have:=r.un;omega
def tNil:TA:=fun _ H Q=>Q [] H
def tCons (ta:TE) (tr:TA):TA:=fun σ H Q=>ta σ H fun x H1=>tr σ H1 fun xs H2=>Q (x::xs) H2
section
variable {X:Cx} {e:Expr} {es:List Expr} {te:TE} {t:TA} {pos:Pos}
theorem pa_nil:PA X [] tNil:=fun _ _ _ _ H Q I h=>Calls.spliced_nil ⟨[],H,I,.nil,h⟩
theorem pa_cons (ha:PE X e te) (hr:PA X es t) (hs:starEach (e::es) X.env=(false,eval e X.env)::starEach es X.env:=by rfl):PA X (e::es) (tCons te t):=by
 intro pos pins s σ H Q I h
 rw [hs]
 show wpAny _ _ (spliced ((false,eval e X.env)::backTo pos (starEach es X.env))) _ _ s
 refine Calls.spliced_cons (thn (ha pins s σ H _ I h) fun u s1 ⟨x,H1,I1,r1,q1⟩=>?_)
 exact thn (hr pos pins s1 σ H1 _ I1 q1) fun us s2 ⟨xs,H2,I2,r2,q2⟩=>⟨x::xs,H2,I2,.cons r1 r2,q2⟩
def tTup (t:TA):TE:=fun σ H Q=>t σ H fun xs H1=>xs.length<=sizeLine/\∀ p,H1 p=none->Q (.ref p) (upd H1 p (.tup xs))
def tLst (t:TA):TE:=fun σ H Q=>t σ H fun xs H1=>xs.length<=sizeLine/\∀ p,H1 p=none->Q (.ref p) (upd H1 p (.lst xs))
theorem pe_tup {x1} (h:PA X es t):PE X (.Tuple es x1 pos) (tTup t):=by
 intro pins s σ H Q I hq
 refine wpAny_Tuple_spliced (thn (h pos pins s σ H _ I hq) fun us s1 ⟨xs,H1,I1,r,z,q⟩=>⟨by rw [← r.length];exact z,?_⟩)
 have hf:H1 s1.heap.objs.size=none:=I1.hok.fresh (aj _)
 refine ⟨.ref s1.heap.objs.size,upd H1 s1.heap.objs.size (.tup xs),I1.laid (t':=s1.toks) (fun b u e=>Heap.get?_push_of_some _ e) (aj _) ?_,rfl,q _ hf⟩
 exact ⟨z,us,r,⟨_,Heap.get?_push_size _ rfl,rfl,_,rfl⟩⟩
theorem pe_lst (h:PA X es t):PE X (.List es pos) (tLst t):=by
 intro pins s σ H Q I hq
 refine wpAny_List_spliced (thn (h pos pins s σ H _ I hq) fun us s1 ⟨xs,H1,I1,r,z,q⟩=>⟨by rw [← r.length];exact z,?_⟩)
 have hf:H1 s1.heap.objs.size=none:=I1.hok.fresh (aj _)
 refine ⟨.ref s1.heap.objs.size,upd H1 s1.heap.objs.size (.lst xs),I1.laid (t':=s1.toks) (fun b u e=>Heap.get?_push_of_some _ e) (aj _) ?_,rfl,q _ hf⟩
 exact ⟨z,us,0,r,Heap.get?_push_size _ rfl⟩
end
abbrev Sp:=List V->Hp->VK->XK->Prop
abbrev CXT:=List Env->Hp->Shared->XK->Value->Shared->Prop
structure Env0 (P:Program) (w:World) (K:PySem.W.Frag) (mg:Str->Option Value) (base:Heap) (A:Around) (outer:List Env) (s:Shared) (H:Hp):Prop where
 frames:A.frames=some outer
 mod:Mod K mg base
 bs:∀ b o,base.get? b=some o->s.heap.get? b=some o/\H b=none
 bsz:base.objs.size<=s.heap.objs.size
 funs:s.heap.FunFrames base outer
 frf:∀ b∈frs outer,H b=none
 hok:HOk P w H s.heap
 bare:AllBare s.gens
 sr:base.NoSeer/\P.given.tree=none
def CE (outer:List Env) (P:Program) (w:World) (H:Hp) (s:Shared) (Q:VK) (u:Value) (s':Shared):Prop :=
 ∃ v H',s'.os=s.os/\AllBare s'.gens/\Un (frs outer) [] H H' s.heap s'.heap/\HOk P w H' s'.heap/\RelV v u/\Q v H'
def CR (CX:CXT) (outer:List Env) (P:Program) (w:World) (H:Hp) (s:Shared) (Q:VK) (E:XK) (r:Result) (s':Shared):Prop :=
 match r with
 | .ok (.ret u)=>CE outer P w H s Q u s'
 | .ok _=>False
 | .error e=>CX outer H s E e s'
structure FnOk (P:Program) (w:World) (K:PySem.W.Frag) (mg:Str->Option Value) (base:Heap) (CX:CXT) (k:Nat) (f:Addr) (fd:FuncData) (ps:List Str) (sp:Sp):Prop where
 len:∀ vs H Q E,sp vs H Q E->vs.length=ps.length
 run:∀ (A:Around) (outer:List Env) (s:Shared) (H:Hp) (args:Args) (us:List Value) (vs:List V) (Q:VK) (E:XK),Room k A->Env0 P w K mg base A outer s H->BindsTo s fd args (ps.zip us)->Vals vs us->sp vs H Q E ->
  codeAny (model P w) A (.call (.ref f) args) (CR CX outer P w H s Q E) s
theorem FnOk.imp {P:Program} {w:World} {K:PySem.W.Frag} {mg:Str->Option Value} {base:Heap} {CX:CXT} {k:Nat} {f:Addr} {fd:FuncData} {ps:List Str} {sp sp':Sp} (F:FnOk P w K mg base CX k f fd ps sp)
  (h:∀ vs H Q E,sp' vs H Q E->sp vs H Q E):FnOk P w K mg base CX k f fd ps sp' :=
 ⟨fun vs H Q E q=>F.len vs H Q E (h _ _ _ _ q),fun A outer s H args us vs Q E hr he hb hv hs=>F.run A outer s H args us vs Q E hr he hb hv (h _ _ _ _ hs)⟩
section
variable {X:Cx} {pins:List (Addr×Obj)} {σ:St} {H:Hp} {s s':Shared}
theorem Inv.env0 (I:Inv X pins σ H s):Env0 X.prog X.w X.K X.mg X.base X.A X.stack s H :=
 ⟨I.ok.frames,I.ok.mod,I.bs,aB I.ok.bsz I.sz,I.stack,I.stkFree,I.hok,I.bare,I.ok.sr⟩
theorem Inv.after {Q:VK} {u:Value} (I:Inv X pins σ H s) (h:CE X.stack X.prog X.w H s Q u s'):EP X pins σ Q u s':=by
 obtain ⟨v,H',os,bare,un,hok,r,q⟩:=h
 obtain ⟨hh,g,d,t,os'⟩:=s'
 obtain rfl:os'=s.os:=os
 exact ⟨v,H',I.call (h':=hh) (g':=g) (d':=d) (t':=t) (ch:=[]) un hok bare (fun b z=>absurd z (by simp)),r,q⟩
end
def tCall (sp:Sp) (dvs:List V) (E:XK) (t:TA):TE:=fun σ H Q=>t σ H fun vs H1=>sp (vs++dvs) H1 Q E
def Binds (K:PySem.W.Frag) (fd:FuncData) (ps:List Str) (ds:List Value):Prop :=
 ∀ (s:Shared) (us:List Value),K.In s.heap->(us++ds).length=ps.length->BindsTo s fd ⟨us,[]⟩ (ps.zip (us++ds))
theorem Binds.all {K:PySem.W.Frag} {fd:FuncData} {ps:List Str} (h:∀ us:List Value,us.length=ps.length->bindArgs fd ⟨us,[]⟩=pure (ps.zip us)):Binds K fd ps []:=fun s us _ hl=>by
 rw [b9] at hl ⊢
 exact .of_eq (h us hl)
def Passes (CX:CXT) (X:Cx) (E:XK):Prop:=∀ (pins:List (Addr×Obj)) (σ:St) (H:Hp) (s:Shared) (e:Value) (s':Shared),Inv X pins σ H s->CX X.stack H s E e s'->X.xe e s'
section
variable {X:Cx} {CX:CXT} {k:Nat} {f C:Addr} {fd:FuncData} {ps:List Str} {sp:Sp} {dvs:List V} {ds:List Value} {E:XK} {x m:Str} {p pos apos:Pos} {e o:Expr} {es:List Expr} {ta:TE} {t:TA}
theorem run_fn {pins:List (Addr×Obj)} {σ:St} {H:Hp} {s:Shared} {Q:VK} {us:List Value} {vs:List V} (F:FnOk X.prog X.w X.K X.mg X.base CX k f fd ps sp) (hr:Room k X.A) (hb:Binds X.K fd ps ds) (hd:Vals dvs ds) (hx:Passes CX X E)
  (I:Inv X pins σ H s) (r:Vals vs us) (h:sp (vs++dvs) H Q E):wpAny (model X.prog X.w) X.A (call (.ref f) us) (EP X pins σ Q) X.xe s:=by
 have r2:Vals (vs++dvs) (us++ds):=r.append hd
 have hl:(us++ds).length=ps.length:=by rw [← r2.length];exact F.len _ _ _ _ h
 refine wpAny_call (codeAny_mono (F.run X.A X.stack s H ⟨us,[]⟩ (us++ds) (vs++dvs) Q E hr I.env0 (hb s us I.kIn hl) r2 h) fun r s' hq=>?_)
 cases r with
 | error e=>exact hx pins σ H s e s' I hq
 | ok fl =>
  cases fl with
  | ret u=>exact I.after hq
  | next=>exact False.elim hq
  | brk=>exact False.elim hq
  | cont=>exact False.elim hq
theorem pe_call (F:FnOk X.prog X.w X.K X.mg X.base CX k f fd ps sp) (hr:Room k X.A) (hg:Gl X x) (hm:X.mg x=some (.ref f)) (hk:PySem.W.keepIn X.K (.ref f)=true) (hb:Binds X.K fd ps ds) (hd:Vals dvs ds) (hx:Passes CX X E)
  (ha:PA X (e::es) t) (hdb:(x == ("__debug__" : Str))=false:=by decide) (he:starEach (e::es) X.env=(false,eval e X.env)::starEach es X.env:=by rfl) (hpl:(backTo pos (starEach es X.env)).any (·.1)=false:=by rfl) :
  PE X (.Call (.Name x p) (e::es) [] pos) (tCall sp dvs E t):=by
 intro pins s σ H Q I h
 refine wpAny_Call_Name_kw (ld_glob I hg hm ?_ hdb)
 refine PySem.W.callWith_K (h₀:=X.base) I.ok.mod.kin hk (thn (ha pos pins s σ H _ I h) fun us s1 ⟨vs,H1,I1,r,q⟩=>⟨I1.kIn,?_⟩) he hpl
 exact run_fn F hr hb hd hx I1 r q
end
structure FnScope (N P:List Str) (sc:Scope):Prop where
 kind:sc.kind = .function
 co:sc.isCoroutine=false
 gen:sc.isGenerator=false
 nd:N.Nodup
 pre:N.take P.length=P
 par:∀ x∈P,sc.names.lookup x=some .local\/sc.names.lookup x=some .cell
 nofree:∀ y∈sc.names,y.2 ≠ .free
theorem bindL_out {kindOf:Str->Option NameKind} {x:Str}:∀ {binds:List (Str×Value)} {m:Str->Option Value},(∀ v,(x,v) ∉ binds)->bindL kindOf binds m x=m x
 | [],_,_=>rfl
 | (n,v)::r,m,h=>by
  unfold bindL
  rw [bindL_out fun w hw=>h w (au _ hw)]
  split
  ·have:x≠n:=by rintro rfl;exact h v ay
   simp [this]
  ·rfl
theorem bindC_out {kindOf:Str->Option NameKind} {x:Str}:∀ {binds:List (Str×Value)} {m:Str->Option Value},(∀ v,(x,v) ∉ binds)->bindC kindOf binds m x=m x
 | [],_,_=>rfl
 | (n,v)::r,m,h=>by
  unfold bindC
  rw [bindC_out fun w hw=>h w (au _ hw)]
  split
  ·rfl
  ·have:x≠n:=by rintro rfl;exact h v ay
   simp [this]
theorem bindL_get {kindOf:Str->Option NameKind} {x:Str} {v:Value}:∀ {P:List Str} {vs:List Value} {i:Nat} {m:Str->Option Value},P.Nodup->P[i]? = some x->vs[i]? = some v->kindOf x=some .local ->
  bindL kindOf (P.zip vs) m x=some v
 | [],_,_,_,_,h,_,_=>by simp at h
 | _::_,[],_,_,_,_,h,_=>by simp at h
 | p::P,w::vs,0,m,nd,h1,h2,hk=>by
  simp at h1 h2;subst h1;subst h2
  show bindL kindOf ((p,w)::P.zip vs) m p=_
  unfold bindL
  rw [bindL_out fun v hv=>(cY.mp nd).1 (eJ hv).1,if_pos hk]
  simp
 | p::P,w::vs,i+1,m,nd,h1,h2,hk=>by
  show bindL kindOf ((p,w)::P.zip vs) m x=_
  unfold bindL
  exact bindL_get (i:=i) (cY.mp nd).2 (by simpa using h1) (by simpa using h2) hk
theorem bindC_get {kindOf:Str->Option NameKind} {x:Str} {v:Value}:∀ {P:List Str} {vs:List Value} {i:Nat} {m:Str->Option Value},P.Nodup->P[i]? = some x->vs[i]? = some v->kindOf x≠some .local ->
  bindC kindOf (P.zip vs) m x=some v
 | [],_,_,_,_,h,_,_=>by simp at h
 | _::_,[],_,_,_,_,h,_=>by simp at h
 | p::P,w::vs,0,m,nd,h1,h2,hk=>by
  simp at h1 h2;subst h1;subst h2
  show bindC kindOf ((p,w)::P.zip vs) m p=_
  unfold bindC
  rw [bindC_out fun v hv=>(cY.mp nd).1 (eJ hv).1,if_neg hk]
  simp
 | p::P,w::vs,i+1,m,nd,h1,h2,hk=>by
  show bindC kindOf ((p,w)::P.zip vs) m x=_
  unfold bindC
  exact bindC_get (i:=i) (cY.mp nd).2 (by simpa using h1) (by simpa using h2) hk
def start (N:List Str) (vs:List V):St:=vs.map some++List.replicate (N.length-vs.length) none
def cxOf (CX:CXT) (P:Program) (w:World) (K:PySem.W.Frag) (mg:Str->Option Value) (base:Heap) (N:List Str) (qual:Str) (scope:Scope) (f:Addr) (cd:Value) (A:Around) (outer:List Env) (s:Shared) (H:Hp) (E:XK):Cx where
 prog:=P
 w:=w
 K:=K
 mg:=mg
 base:=base
 A:=A.deeper (envOfC qual scope s.heap.objs.size f cd)
 N:=N
 s₀:=s
 H₀:=H
 env:=envOfC qual scope s.heap.objs.size f cd
 outer:=outer
 stack:=envOfC qual scope s.heap.objs.size f cd::outer
 ex:=[]
 calm:=true
 fn:=fun _=>true
 pn:=[]
 xe:=fun e s'=>wpAny (model P w) (A.deeper (envOfC qual scope s.heap.objs.size f cd)) (leaving (envOfC qual scope s.heap.objs.size f cd) e) (fun _ s''=>CX outer H s E e s'') (fun e' s''=>CX outer H s E e' s'') s'
theorem cell_has {sc:Scope} {n:Nat} {x:Str} (h:sc.names.lookup x=some .cell):∃ c,(cellsFrom n sc.names []).lookup x=some c:=by
 have q:=PySem.W.cellsFrom_some sc.names n [] (.inl h)
 exact Option.isSome_iff_exists.mp q
theorem inv_start {CX:CXT} {P:Program} {w:World} {K:PySem.W.Frag} {mg:Str->Option Value} {base:Heap} {N ps:List Str} {qual:Str} {scope:Scope} {f:Addr} {cd:Value} {A:Around} {outer:List Env} {s s1:Shared} {H:Hp} {E:XK} {us:List Value} {vs:List V}
  (S:FnScope N ps scope) (hd:A.handled=none) (e0:Env0 P w K mg base A outer s H) (hl:vs.length=ps.length) (r:Vals vs us)
  (x:InCallC s s.heap.objs.size (bindL (envOfC qual scope s.heap.objs.size f cd).kindOf (ps.zip us) fun _=>none) (cellsFrom (s.heap.objs.size+1) scope.names []) (bindC (envOfC qual scope s.heap.objs.size f cd).kindOf (ps.zip us) fun _=>none) s1) :
  Inv (cxOf CX P w K mg base N qual scope f cd A outer s H E) [] (start N vs) H s1:=by
 have hpl:ps.length<=N.length:=by have:=congrArg List.length S.pre;rw [aO] at this;omega
 obtain ⟨h1,tk,rfl,hk⟩:=x.done
 have noA:∀ b:Addr,b ∉ (cxOf CX P w K mg base N qual scope f cd A outer s H E).ex:=fun b z=>absurd (show b∈([]:List Addr) from z) (by simp)
 refine ⟨⟨e0.mod,S.kind,rfl,rfl,aj _,fun y z c h1 h2=>?_,fun y hy=>?_,fun y c _ h=>?_,fun _=>hd,Around.frames_deeper e0.frames,.inr ⟨rfl,rfl⟩,fun b z=>absurd z (noA b),e0.bs,e0.bsz,fun b _ _=>noA b,fun b z=>absurd z (noA b),e0.funs,e0.frf,e0.sr,⟨_,_,rfl,S.gen,S.co,rfl,rfl⟩⟩,
  rfl,e0.bare,Un.kept hk,⟨_,x.toInCall.ns,fun i y v h1 h2 h3=>?_⟩,fun y c h=>⟨_,x.cell y c h⟩,e0.hok.fresh (aj _),fun y c h=>?_,fun p hp=>absurd (show p∈([]:List (Addr×Obj)) from hp) (by simp),e0.hok.kept hk,?_⟩
 ·exact name_of_addr x.apart (PySem.mem_of_lookup h1) (PySem.mem_of_lookup h2)
 ·have hy:scope.names.lookup y=some .cell\/scope.names.lookup y=some .free:=hy
  rcases hy with hy | hy
  ·exact cell_has hy
  ·exact absurd rfl (S.nofree _ (PySem.mem_of_lookup hy))
 ·exact ez (x.above y c (PySem.mem_of_lookup h))
 ·have hi:i<vs.length:=by
   unfold start at h2
   by_cases hi:i<vs.length
   ·exact hi
   ·rw [aL (by simpa using hi)] at h2
    rw [dG] at h2
    split at h2 <;> cases h2
  have ha:vs[i]? = some v:=by
   unfold start at h2
   rw [aY (by simpa using hi),aG] at h2
   cases e:vs[i]? with
   | none=>rw [e] at h2;cases h2
   | some a=>rw [e] at h2;cases h2;rfl
  obtain ⟨u,hu,rv⟩:=r.get ha
  have hp:ps[i]? = some y:=by
   rw [← S.pre,dw (by omega)];exact h1
  have ndP:ps.Nodup:=by rw [← S.pre];exact S.nd.sublist (List.take_sublist _ _)
  refine ⟨u,rv,?_⟩
  rcases S.par y (aI hp) with k | k
  ·exact .inl ⟨k,bindL_get ndP hp hu k⟩
  ·obtain ⟨c,e⟩:=cell_has (n:=s.heap.objs.size+1) k
   refine .inr ⟨.inl k,c,e,?_⟩
   have q:=x.cell y c e
   rw [bindC_get ndP hp hu (by show scope.names.lookup y≠_;rw [k];decide)] at q
   exact q
 ·exact e0.hok.fresh (ez (x.above y c (PySem.mem_of_lookup h)))
 ·unfold start
  show _=N.length
  rw [av,ab,ce]
  omega
theorem fn_of {CX:CXT} {P:Program} {w:World} {K:PySem.W.Frag} {mg:Str->Option Value} {base:Heap} {k:Nat} {f:Addr} {name qual:Str} {params:Arguments} {body:List Stmt} {scope:Scope} {dV kV doc pm cdv ct oc:Value} {an od:Option Addr}
  {osl:Array (Option Value)} {N ps:List Str} {sp:Sp} (lk:K.lookup f=some ⟨oc,od,.func (PySem.W.fnOf name qual params body scope dV kV doc pm an cdv ct),osl⟩) (hcd:PySem.W.codeIn K cdv qual=true) (S:FnScope N ps scope)
  (len:∀ vs H Q E,sp vs H Q E->vs.length=ps.length)
  (hbody:∀ (A:Around) (outer:List Env) (s:Shared) (H:Hp) (vs:List V) (Q:VK) (E:XK),Room k (A.deeper (envOfC qual scope s.heap.objs.size f cdv))->sp vs H Q E ->
   ∃ t,PSs (cxOf CX P w K mg base N qual scope f cdv A outer s H E) body t/\t { nx:=fun _ H'=>Q .non H',rt:=Q } (start N vs) H) :
  FnOk P w K mg base CX (k+1) f (PySem.W.fnOf name qual params body scope dV kV doc pm an cdv ct) ps sp:=by
 refine ⟨len,fun A outer s H args us vs Q E hr e0 hb r hsp=>?_⟩
 have hl:=len _ _ _ _ hsp
 have KX:K.In s.heap:=e0.mod.kin.keeps fun b o e=>(e0.bs b o e).1
 have lim:s.heap.NoLimit:=e0.mod.nolimit.keeps fun b o e=>(e0.bs b o e).1
 have hkind:∀ y∈ps.zip us,scope.names.lookup y.1=some .local\/(scope.names.lookup y.1=some .cell/\((cellsFrom (s.heap.objs.size+1) scope.names []).lookup y.1).isSome=true):=fun ⟨n,v⟩ hy=>by
  rcases S.par n (eJ hy).1 with q | q
  ·exact .inl q
  ·exact .inr ⟨q,PySem.W.cellsFrom_some _ _ _ (.inl q)⟩
 refine codeAny_call_function hr.depth (KX _ _ lk) rfl S.co S.gen rfl (PySem.W.codeRec_of KX hcd) (hb _ _ _ _ ?_)
 refine wpAny_newFunctionEnv_cells S.kind hkind fun env he s1 x=>?_
 subst he
 refine ⟨lim.keeps x.toInCall.keep,codeAny_func ?_⟩
 obtain ⟨t,ht,hq⟩:=hbody A outer s H vs Q E (hr.deeper _) hsp
 have I:Inv (cxOf CX P w K mg base N qual scope f cdv A outer s H E) [] (start N vs) H s1:=inv_start S hr.hd e0 hl r x
 refine wpAny_mono (ht [] s1 (start N vs) H _ I hq) (fun fl s' hs=>?_) fun e s' hs=>hs
 have fin:∀ {σ':St} {H':Hp} {v:V} {u:Value},Inv (cxOf CX P w K mg base N qual scope f cdv A outer s H E) [] σ' H' s'->RelV v u->Q v H'->CE outer P w H s Q u s' :=
  fun {σ' H' v u} J rv q=>⟨v,H',J.os,J.bare,J.base,J.hok,rv,q⟩
 cases fl with
 | ret u =>
  obtain ⟨v,σ',H',J,rv,q⟩:=hs
  exact fin J rv q
 | next =>
  obtain ⟨σ',H',J,q⟩:=hs
  exact fin (v:=V.non) (u:=Value.none) J rfl q
 | brk =>
  obtain ⟨_,_,_,q⟩:=hs
  exact False.elim q
 | cont =>
  obtain ⟨_,_,_,q⟩:=hs
  exact False.elim q
end L2
namespace L2
open PySem PySem.Spec PyProof.Rows
section
variable {X:Cx} {x:Str} {p pos:Pos} {e:Expr} {es:List Expr} {t:TA} {id T:String} {r:List V->Hp->VK->Prop}
def tCB (r:List V->Hp->VK->Prop) (t:TA):TE:=fun σ H Q=>t σ H fun vs H1=>r vs H1 Q
theorem pe_callB (hc:CallR X (.builtin id) r) (hg:Gl X x) (hm:X.mg x=none) (hv:bootBuiltins x=some (.builtin id)) (ha:PA X (e::es) t) (hn:x ≠ "__name__" := by decide) (hdb:(x == ("__debug__" : Str))=false:=by decide)
  (he:starEach (e::es) X.env=(false,eval e X.env)::starEach es X.env:=by rfl) (hpl:(backTo pos (starEach es X.env)).any (·.1)=false:=by rfl):PE X (.Call (.Name x p) (e::es) [] pos) (tCB r t):=by
 intro pins s σ H Q I h
 refine wpAny_Call_Name_kw (ld_blt I hg hm hv ?_ hn hdb)
 exact PyProof.Rows.callWith_builtin1 (thn (ha pos pins s σ H _ I h) fun us s1 ⟨vs,H1,I1,r1,q1⟩=>hc pins s1 σ H1 vs us Q I1 r1 q1) he hpl
theorem pe_callTy (hc:CallR X (.type T) r) (hg:Gl X x) (hm:X.mg x=none) (hv:bootBuiltins x=some (.type T)) (ha:PA X (e::es) t) (hn:x ≠ "__name__" := by decide) (hdb:(x == ("__debug__" : Str))=false:=by decide)
  (he:starEach (e::es) X.env=(false,eval e X.env)::starEach es X.env:=by rfl) (hpl:(backTo pos (starEach es X.env)).any (·.1)=false:=by rfl):PE X (.Call (.Name x p) (e::es) [] pos) (tCB r t):=by
 intro pins s σ H Q I h
 refine wpAny_Call_Name_kw (ld_blt I hg hm hv ?_ hn hdb)
 exact PyProof.Rows.callWith_type1 (thn (ha pos pins s σ H _ I h) fun us s1 ⟨vs,H1,I1,r1,q1⟩=>hc pins s1 σ H1 vs us Q I1 r1 q1) he hpl
end
end L2
namespace HT
open PySem PyProof.Rows
section
open PySem.SeqAt
open PySem.AutoSeq1 (wpAny_loadPart')
open PySem.MeetsSeq PySem.MeetsSeq2 PySem.MeetsSeq3
end
section
variable {prog:Program} {w:World} {A:Around} {E:Value->Shared->Prop} {s:Shared}
theorem cat_tup {t b:Addr} {vs ws:List Value} {Q:Value->Shared->Prop} (ht:IsTup s.heap t vs.toArray) (hb:IsTup s.heap b ws.toArray) (hv:vs≠[])
  (h1:ws=[]->Q (.ref t) s) (h2:ws≠[]->Q (.ref s.heap.objs.size) { s with heap:=s.heap.push { cls:=.type "tuple",data:=.seq (vs++ws).toArray } })
  (hsz:vs.length+ws.length<=sizeLine):wpAny (model prog w) A (binaryOp .Add (.ref t) (.ref b)) Q E s:=by
 obtain ⟨⟨cls,dd,data,sl⟩,ho,hc,n,hd⟩:=id ht
 obtain ⟨⟨cls2,dd2,data2,sl2⟩,ho2,hc2,n2,hd2⟩:=id hb
 simp only at hc hd hc2 hd2
 subst hc hd hc2 hd2
 have e:vs.toArray++ws.toArray=(vs++ws).toArray:=by simp
 by_cases hw:ws=[]
 ·exact concat_meets ⟨_,ho,rfl⟩ ⟨_,ho2,rfl⟩ noFill_tuple_add seq_tuple_add PySem.F.slot_tuple_add PySem.F.entry_tuple_add (PySem.F.args_tuple_add_2 _ _)
   (tuple_addW1 t b vs.toArray ws.toArray n n2 dd dd2 sl sl2 (by simpa using hv) (by simp [hw])) ⟨ho,ho2,h1 hw⟩
 ·refine concat_meets ⟨_,ho,rfl⟩ ⟨_,ho2,rfl⟩ noFill_tuple_add seq_tuple_add PySem.F.slot_tuple_add PySem.F.entry_tuple_add (PySem.F.args_tuple_add_2 _ _)
   (tuple_addW2 t b vs.toArray ws.toArray n n2 dd dd2 sl sl2 (by simpa using hv) (by simpa using hw) (by rw [ai,ai];exact hsz)) ⟨ho,ho2,?_⟩
  rw [e]
  exact h2 hw
def sIx (n d:Nat):Option Int->Nat
 | none=>d
 | some v=>if v<0 then (v+(n:Int)).toNat else min v.toNat n
theorem sIx_none (n d:Nat):sIx n d none=d:=rfl
theorem sIx_nat (n d k:Nat):sIx n d (some (k:Int))=min k n:=by
 show (if (k:Int)<0 then ((k:Int)+(n:Int)).toNat else min (k:Int).toNat n)=min k n
 rw [if_neg (by omega),bo]
theorem sIx_le (n d:Nat) (hd:d<=n) (o:Option Int):sIx n d o<=n:=by
 cases o with
 | none=>exact hd
 | some v =>
  show (if v<0 then (v+(n:Int)).toNat else min v.toNat n)<=n
  by_cases hv:v<0
  ·rw [if_pos hv];omega
  ·rw [if_neg hv];exact Nat.min_le_right _ _
theorem clip_eq (v:Int) (n d:Nat):(if v<0 then max (v+(n:Int)) 0 else min v (n:Int))=((sIx n d (some v):Nat):Int):=by
 show (if v<0 then max (v+(n:Int)) 0 else min v (n:Int))=(((if v<0 then (v+(n:Int)).toNat else min v.toNat n):Nat):Int)
 by_cases hv:v<0
 ·simp only [if_pos hv];omega
 ·simp only [if_neg hv];omega
theorem adjust_gen (lo hi:Option Int) (n:Nat):Builtin.Slice.sliceAdjust lo hi 1 (n:Int)=(((sIx n 0 lo:Nat):Int),((sIx n n hi:Nat):Int)):=by
 have h1:¬ ((1:Int)<0):=by omega
 unfold Builtin.Slice.sliceAdjust
 simp only [h1,if_false]
 refine Prod.ext ?_ ?_
 ·cases lo with
  | none=>rfl
  | some v=>exact clip_eq v n 0
 ·cases hi with
  | none=>rfl
  | some v=>exact clip_eq v n n
theorem places_gen (i j:Nat):Builtin.Slice.slicePlaces (i:Int) (j:Int) 1=j-i:=by
 unfold Builtin.Slice.slicePlaces
 have h1:(1:Int) > 0:=by omega
 simp only [h1,if_true,Int.ediv_one]
 split <;> omega
theorem slicePart_ {v:Value} {o:Option Int} {Q:Option Int->Shared->Prop} (p:IsPart v o) (h:Q o s):wpAny (model prog w) A (Builtin.Slice.slicePartIndex v) Q E s:=by
 cases p with
 | none=>exact slicePart_none h
 | int i t=>exact slicePart_int h
theorem sliceApplied_gen {sl:Addr} {vl vu:Value} {lo hi:Option Int} {n:Nat} {Q:Int×Int×Nat->Shared->Prop} (hs:s.heap.IsSliceOf sl vl vu .none) (pl:IsPart vl lo) (pu:IsPart vu hi)
  (h:Q (((sIx n 0 lo:Nat):Int),1,sIx n n hi-sIx n 0 lo) s):wpAny (model prog w) A (Builtin.Slice.sliceApplied (.ref sl) (pure (n:Int))) Q E s:=by
 obtain ⟨os,hos,hcs,hds⟩:=id hs
 unfold Builtin.Slice.sliceApplied Builtin.Slice.sliceFields
 refine wpAny_bind (wpAny_bind (wpAny_field hos hds (x:=vl) rfl (wpAny_bind (wpAny_field hos hds (x:=vu) rfl (wpAny_bind (wpAny_field hos hds (x:=.none) rfl (wpAny_pure ?_)))))))
 refine wpAny_bind (slicePart_none ?_)
 show wpAny _ _ (if ((1:Int) == 0)=true then _ else _) _ _ s
 rw [if_neg (by decide)]
 refine wpAny_bind (slicePart_ pl (wpAny_bind (slicePart_ pu (wpAny_bind (wpAny_pure ?_)))))
 show wpAny _ _ (match Builtin.Slice.sliceAdjust lo hi 1 (n:Int) with | (lo,hi)=>pure (lo,(1:Int),Builtin.Slice.slicePlaces lo hi 1)) _ _ s
 rw [adjust_gen lo hi n]
 show wpAny _ _ (pure (((sIx n 0 lo:Nat):Int),(1:Int),Builtin.Slice.slicePlaces ((sIx n 0 lo:Nat):Int) ((sIx n n hi:Nat):Int) 1)) _ _ s
 rw [places_gen]
 exact wpAny_pure h
theorem pick_gen (xs:Array Value) (i k:Nat):((List.range k).filterMap fun (m:Nat)=>xs[((i:Int)+(m:Int)*1).toNat]?).toArray=((xs.toList.drop i).take k).toArray:=by
 have e:(fun (m:Nat)=>xs[((i:Int)+(m:Int)*1).toNat]?)=fun m=>xs[i+m]?:=by
  funext m
  have:((i:Int)+(m:Int)*1).toNat=i+m:=by omega
  rw [this]
 rw [e]
 have:=pick_run xs i k
 rw [List.filterMap_map] at this
 have e2:((fun x=>xs[x]?)∘fun x=>i+x)=fun m=>xs[i+m]?:=rfl
 rw [e2] at this
 rw [this]
theorem getItem_tuple_cut {t sl:Addr} {items:Array Value} {vl vu:Value} {lo hi:Option Int} {Q:Value->Shared->Prop} (ht:IsTup s.heap t items) (hs:s.heap.IsSliceOf sl vl vu .none) (pl:IsPart vl lo) (pu:IsPart vu hi)
  (hw:¬ (sIx items.size 0 lo=0/\sIx items.size items.size hi=items.size))
  (h:Q (.ref s.heap.objs.size) { s with heap:=s.heap.push { cls:=.type "tuple",data:=.seq ((items.toList.drop (sIx items.size 0 lo)).take (sIx items.size items.size hi-sIx items.size 0 lo)).toArray } })
  (hsz:items.size<=sizeLine):wpAny (model prog w) A (getItem (.ref t) (.ref sl)) Q E s:=by
 have htake:sizeOk (.seq ((items.toList.drop (sIx items.size 0 lo)).take (sIx items.size items.size hi-sIx items.size 0 lo)).toArray):=by
  show ((items.toList.drop (sIx items.size 0 lo)).take (sIx items.size items.size hi-sIx items.size 0 lo)).toArray.size<=sizeLine
  rw [ai,aO,gL,dZ]
  omega
 have hj:sIx items.size items.size hi<=items.size:=sIx_le _ _ (aj _) hi
 obtain ⟨os,hos,hcs,hds⟩:=id hs
 have hTs:s.TypeIs (.ref sl) "slice" := ⟨os,hos,hcs⟩
 unfold getItem
 try with_reducible refine wpAny_holding ?_
 first | refine wpAny_bind (wpAny_pure ?_) | skip
 refine wpAny_bind (wpAny_sequenceKey ht.typeIs (by decide) ?_)
 refine wpAny_bind (wpAny_callSpecial?_slot (name:=Str.ofString "__getitem__") ht.typeIs PyProof.Rows.slot_tuple_getitem
  (wpAny_call_entry PyProof.Rows.slot_tuple_getitem ht.typeIs entry_tuple_getitem ?_ (args_tuple_getitem _ _)))
 show wpAny _ _ (Builtin.Tuple.tupleItemsOf (.ref t) >>= _) _ _ s
 refine wpAny_bind (tupleItemsOf_ ht ?_)
 refine wpAny_bind (wpAny_typeOf hTs ?_)
 rw [if_pos (by decide)]
 refine wpAny_bind (sliceApplied_gen hs pl pu ?_)
 have hno:¬ ((((sIx items.size 0 lo:Nat):Int) == 0 && (1:Int) == 1 && (sIx items.size items.size hi-sIx items.size 0 lo) == items.size)=true):=by
  intro q
  rw [aV,aV] at q
  have q1:((sIx items.size 0 lo:Nat):Int)=0:=eq_of_beq q.1.1
  have q2:sIx items.size items.size hi-sIx items.size 0 lo=items.size:=eq_of_beq q.2
  exact hw ⟨by omega,by omega⟩
 show wpAny _ _ (if (((sIx items.size 0 lo:Nat):Int) == 0 && (1:Int) == 1 && (sIx items.size items.size hi-sIx items.size 0 lo) == items.size)=true then _ else _) _ _ s
 rw [if_neg hno,pick_gen]
 first
  | exact wpAny_bind (m:=Builtin.Tuple.tupleExact _) (wpAny_newObj_type (wpAny_pure ⟨_,rfl,wpAny_pure h⟩) htake)
  | exact wpAny_bind (m:=Builtin.Tuple.tupleExact _) (wpAny_newObj_type (wpAny_bind (wpAny_pure (wpAny_pure ⟨_,rfl,wpAny_pure h⟩))) htake)
  | exact wpAny_bind (wpAny_bind (m:=Builtin.Tuple.tupleExact _) (wpAny_newObj_type (wpAny_pure (wpAny_pure ⟨_,rfl,wpAny_pure h⟩)) htake))
  | exact wpAny_bind (wpAny_bind (m:=Builtin.Tuple.tupleExact _) (wpAny_newObj_type (wpAny_pure ⟨_,rfl,wpAny_pure h⟩) htake))
end
end HT
namespace L2
open PySem PySem.Spec PyProof.Rows
abbrev TO:=St->Hp->(Option Int->Hp->Prop)->Prop
def PO (X:Cx) (e:Option Expr) (t:TO):Prop :=
 ∀ (pins:List (Addr×Obj)) (s:Shared) (σ:St) (H:Hp) (Q:Option Int->Hp->Prop),Inv X pins σ H s->t σ H Q ->
  wpAny (model X.prog X.w) X.A (evalPart e X.env) (fun u s'=>∃ o H',Inv X pins σ H' s'/\IsPart u o/\Q o H') X.xe s
def tNoPart:TO:=fun _ H Q=>Q none H
def tPart (t:TE):TO:=fun σ H Q=>t σ H fun x H1=>∃ i,x = .int i/\Q (some i) H1
section
variable {X:Cx} {e:Expr} {te:TE} {lo hi:Option Expr} {tl th:TO} {pos p2:Pos}
theorem po_none:PO X none tNoPart:=by
 intro pins s σ H Q I h
 rw [evalPart_none]
 exact wpAny_pure ⟨none,H,I,.none,h⟩
theorem po_some (h:PE X e te):PO X (some e) (tPart te):=by
 intro pins s σ H Q I hw
 rw [evalPart_some]
 refine thn (h pins s σ H _ I hw) fun u s1 ⟨x,H1,I1,r1,q1⟩=>?_
 obtain ⟨i,rfl,q⟩:=q1
 obtain ⟨t,rfl⟩:=r1
 exact ⟨some i,H1,I1,.int i t,q⟩
def SlR (X:Cx) (r:V->Option Int->Option Int->Hp->VK->Prop):Prop :=
 ∀ (pins:List (Addr×Obj)) (s:Shared) (σ:St) (H:Hp) (x:V) (v vl vu:Value) (lo hi:Option Int) (sl:Addr) (Q:VK),Inv X pins σ H s->RelV x v->s.heap.IsSliceOf sl vl vu .none->IsPart vl lo->IsPart vu hi->r x lo hi H Q ->
  ∃ T id,typeLookup (.type T) "__getitem__" = pure (some (.builtin id))/\s.TypeIs v T/\wpAny (model X.prog X.w) X.A (getItem v (.ref sl)) (EP X pins σ Q) X.xe s
theorem SlR.or {r r':V->Option Int->Option Int->Hp->VK->Prop} (h:SlR X r) (h':SlR X r'):SlR X (fun x lo hi H Q=>r x lo hi H Q\/r' x lo hi H Q):=by
 intro pins s σ H x v vl vu lo hi sl Q I rx hs pl pu q
 rcases q with q | q
 ·exact h pins s σ H x v vl vu lo hi sl Q I rx hs pl pu q
 ·exact h' pins s σ H x v vl vu lo hi sl Q I rx hs pl pu q
def tSl (r:V->Option Int->Option Int->Hp->VK->Prop) (te:TE) (tl th:TO):TE:=fun σ H Q=>te σ H fun x H1=>tl σ H1 fun l H2=>th σ H2 fun u H3=>r x l u H3 Q
theorem pe_slice {r:V->Option Int->Option Int->Hp->VK->Prop} (hr:SlR X r) (he:PE X e te) (hl:PO X lo tl) (hu:PO X hi th):PE X (.Subscript e (.Slice lo hi none p2) pos) (tSl r te tl th):=by
 intro pins s σ H Q I h
 refine Subscript_ (thn (he pins s σ H _ I h) fun v s1 ⟨x,H1,I1,r1,q1⟩=>?_)
 refine wpAny_Slice (thn (hl pins s1 σ H1 _ I1 q1) fun vl s2 ⟨l,H2,I2,pl,q2⟩=>thn (hu pins s2 σ H2 _ I2 q2) fun vu s3 ⟨u,H3,I3,pu,q3⟩=>?_)
 rw [evalPart_none]
 refine wpAny_pure ?_
 have I4:Inv X pins σ H3 { s3 with heap:=s3.heap.push { cls:=.type "slice",data:=.fields #[vl,vu,.none] } }:=I3.kept (t':=s3.toks) fun b ob q=>Heap.get?_push_of_some _ q
 obtain ⟨T,id,hT,ht,hg⟩:=hr pins { s3 with heap:=s3.heap.push { cls:=.type "slice",data:=.fields #[vl,vu,.none] } } σ H3 x v vl vu l u s3.heap.objs.size Q I4 r1 (Heap.IsSliceOf.new ..) pl pu q3
 show wpAny (model X.prog X.w) X.A (subscriptTail e (.Slice lo hi none p2) v (.ref s3.heap.objs.size)) (EP X pins σ Q) X.xe { s3 with heap:=s3.heap.push { cls:=.type "slice",data:=.fields #[vl,vu,.none] } }
 exact tail_any (ops:=[.ref s3.heap.objs.size,v]) ht hT hg (by with_unfolding_all rfl)
def cutV (xs:List V) (lo hi:Option Int):List V:=(xs.drop (HT.sIx xs.length 0 lo)).take (HT.sIx xs.length xs.length hi-HT.sIx xs.length 0 lo)
theorem cutV_length (xs:List V) (lo hi:Option Int):(cutV xs lo hi).length<=xs.length:=by
 unfold cutV
 rw [aO,gL]
 omega
def rSlT (K:PySem.W.Frag):V->Option Int->Option Int->Hp->VK->Prop:=fun x lo hi H Q=>∃ a xs,x = .ref a/\SqT K H a xs /\
 ¬ (HT.sIx xs.length 0 lo=0/\HT.sIx xs.length xs.length hi=xs.length)/\∀ p,H p=none->Q (.ref p) (upd H p (.tup (cutV xs lo hi)))
theorem sl_tup:SlR X (rSlT X.K):=by
 intro pins s σ H x v vl vu lo hi sl Q I rx hs pl pu h
 obtain ⟨a,xs,rfl,hx,hw,q⟩:=h
 cases rx
 obtain ⟨its,r,ht,hz⟩:=I.tuple hx
 have hlen:its.toArray.size=xs.length:=by rw [ai];exact r.length.symm
 refine ⟨"tuple",_,PyProof.Rows.slot_tuple_getitem.lookup,ht.typeIs,?_⟩
 refine HT.getItem_tuple_cut ht hs pl pu (by rw [hlen];exact hw) ?_ (by rw [hlen];exact hz)
 rw [hlen]
 refine ⟨.ref s.heap.objs.size,_,I.laid (t':=s.toks) (o:=.tup (cutV xs lo hi)) (fun b ob q=>Heap.get?_push_of_some _ q) (aj _) ?_,rfl,q _ (I.hok.fresh (aj _))⟩
 exact ⟨aB (cutV_length xs lo hi) hz,_,(r.drop (HT.sIx xs.length 0 lo)).take (HT.sIx xs.length xs.length hi-HT.sIx xs.length 0 lo),IsTup.new _ _⟩
def rCatT (K:PySem.W.Frag):R2:=fun x y H Q=>∃ a b xs ys,x = .ref a/\y = .ref b/\SqT K H a xs/\SqT K H b ys/\xs≠[]/\xs.length+ys.length<=sizeLine /\
 (ys=[]->Q (.ref a) H)/\(ys≠[]->∀ p,H p=none->Q (.ref p) (upd H p (.tup (xs++ys))))
theorem Vals.nil_iff {xs:List V} {us:List Value} (r:Vals xs us):us=[]↔xs=[]:=by
 cases r with
 | nil=>simp
 | cons _ _=>simp
theorem op_catT:OpR X (binaryOp .Add) (rCatT X.K):=by
 intro pins s σ H x y v u Q I rx ry h
 obtain ⟨a,b,xs,ys,rfl,rfl,ha,hb,hx,hz,q1,q2⟩:=h
 cases rx
 cases ry
 obtain ⟨its,r1,p1,_⟩:=I.tuple ha
 obtain ⟨its2,r2,p2,_⟩:=I.tuple hb
 refine HT.cat_tup p1 p2 (fun z=>hx (r1.nil_iff.mp z)) (fun z=>⟨.ref a,H,I,rfl,q1 (r2.nil_iff.mp z)⟩) (fun z=>?_) (by rw [← r1.length,← r2.length];exact hz)
 refine ⟨.ref s.heap.objs.size,_,I.laid (t':=s.toks) (o:=.tup (xs++ys)) (fun b ob q=>Heap.get?_push_of_some _ q) (aj _) ?_,rfl,q2 (fun w=>z (r2.nil_iff.mpr w)) _ (I.hok.fresh (aj _))⟩
 exact ⟨by rw [av];exact hz,_,r1.append r2,IsTup.new _ _⟩
end
end L2
namespace L2
open PySem PySem.Spec PyProof.Rows
def ixN (n:Nat) (i:Int):Option Nat:=if 0<=i then (if i<n then some i.toNat else none) else if -(n:Int)<=i then some (i+n).toNat else none
def atI {α:Type} (xs:List α) (i:Int):Option α:=(ixN xs.length i).bind fun j=>xs[j]?
theorem ixN_seq {n:Nat} {i:Int} {j:Nat} (h:ixN n i=some j):seqIndex? i n=some j/\j<n /\ -(n:Int)<=i/\i<n:=by
 unfold ixN at h
 by_cases h0:0<=i
 ·rw [if_pos h0] at h
  by_cases h1:i<n
  ·rw [if_pos h1] at h
   have e:i.toNat=j:=Option.some.inj h
   exact ⟨by rw [seqIndex_of h0 h1,e],by omega,by omega,h1⟩
  ·rw [if_neg h1] at h;cases h
 ·rw [if_neg h0] at h
  by_cases h1 : -(n:Int)<=i
  ·rw [if_pos h1] at h
   have e:(i+n).toNat=j:=Option.some.inj h
   exact ⟨by rw [seqIndex_neg (by omega) h1,e],by omega,h1,by omega⟩
  ·rw [if_neg h1] at h;cases h
theorem atI_get {α:Type} {xs:List α} {i:Int} {v:α} (h:atI xs i=some v):∃ j,seqIndex? i xs.length=some j/\xs[j]? = some v/\j<xs.length /\ -(xs.length:Int)<=i/\i<xs.length:=by
 unfold atI at h
 cases e:ixN xs.length i with
 | none=>rw [e] at h;cases h
 | some j =>
  rw [e] at h
  obtain ⟨h1,h2,h3,h4⟩:=ixN_seq e
  exact ⟨j,h1,h,h2,h3,h4⟩
theorem atI_nat {α:Type} {xs:List α} {j:Nat} {v:α} (h:xs[j]? = some v):atI xs (j:Int)=some v:=by
 have hj:j<xs.length:=(ak.mp h).1
 have e:ixN xs.length (j:Int)=some j:=by
  unfold ixN
  rw [if_pos (by omega),if_pos (by omega)];simp
 unfold atI;rw [e];exact h
def PlainIx (b:Expr):Prop:=∀ o i,subscripted b false o i=operate [o,i] (getItem o i)
def IxR (X:Cx) (r:R2):Prop :=
 ∀ (value slice:Expr) (pins:List (Addr×Obj)) (s:Shared) (σ:St) (H:Hp) (x y:V) (v u:Value) (Q:VK),Inv X pins σ H s->RelV x v->RelV y u->r x y H Q ->
  subscripted slice false v u=operate [v,u] (getItem v u)->wpAny (model X.prog X.w) X.A (subscriptTail value slice v u) (EP X pins σ Q) X.xe s
def MtR (X:Cx) (id:String) (r:V->List V->Hp->VK->Prop):Prop :=
 ∀ (pins:List (Addr×Obj)) (s:Shared) (σ:St) (H:Hp) (x:V) (xs:List V) (v:Value) (us:List Value) (Q:VK),Inv X pins σ H s->RelV x v->Vals xs us->r x xs H Q ->
  wpAny (model X.prog X.w) X.A (call (.builtin id) (v::us)) (EP X pins σ Q) X.xe s
section
variable {X:Cx} {a b:Expr} {ta tb:TE} {pos:Pos}
theorem IxR.or {r r':R2} (h:IxR X r) (h':IxR X r'):IxR X (fun x y H Q=>r x y H Q\/r' x y H Q):=by
 intro value slice pins s σ H x y v u Q I rx ry q hs
 rcases q with q | q
 ·exact h value slice pins s σ H x y v u Q I rx ry q hs
 ·exact h' value slice pins s σ H x y v u Q I rx ry q hs
theorem pe_ix {r:R2} (hr:IxR X r) (ha:PE X a ta) (hb:PE X b tb) (hs:PlainIx b):PE X (.Subscript a b pos) (tOp r ta tb):=by
 intro pins s σ H Q I h
 exact Subscript_ (binT ha hb I h fun v u s2 x y H2 I2 rx ry q=>hr a b pins s2 σ H2 x y v u Q I2 rx ry q (hs _ _))
def rIxL (K:PySem.W.Frag):R2:=fun x y H Q=>∃ p xs i v,x = .ref p/\y = .int i/\SqL K H p xs/\atI xs i=some v/\Q v H
def rIxT (K:PySem.W.Frag):R2:=fun x y H Q=>∃ p xs i v,x = .ref p/\y = .int i/\SqT K H p xs/\atI xs i=some v/\Q v H
def rIxS:R2:=fun x y H Q=>∃ z i c,x = .str z/\y = .int i/\z.length<=sizeLine/\atI z.cps.toList i=some c/\Q (.str ⟨#[c]⟩) H
theorem ix_list:IxR X (rIxL X.K):=by
 intro value slice pins s σ H x y v u Q I rx ry h hs
 obtain ⟨p,xs,i,z,rfl,rfl,hq,he,q⟩:=h
 cases rx
 obtain ⟨t,rfl⟩:=ry
 obtain ⟨its,r,pl,hz⟩:=I.list hq
 obtain ⟨j,h1,h2,h3,h4,h5⟩:=atI_get he
 obtain ⟨w,ew,rw'⟩:=r.get h2
 have hl:=r.length
 have hn:=line63
 have fin:EP X pins σ Q w s:=⟨z,H,I,rw',q⟩
 by_cases h0:0<=i
 ·have hj:i.toNat=j:=by
   rw [seqIndex_of h0 h5] at h1
   exact Option.some.inj h1
  exact item_listR pl.isList h0 (by omega) (by rw [hj];simpa using ew) fin hs
 ·have hj:(i+(its.toArray.size:Int)).toNat=j:=by
   rw [seqIndex_neg (by omega) h4] at h1
   rw [ai,← hl]
   exact Option.some.inj h1
  exact subscriptTail_builtinR (x:=w) pl.isList.typeIs slot_list_getitem.lookup
   (wpAny_getItem_list_neg (Q:=fun r s'=>r=w/\EP X pins σ Q r s') pl.isList (by omega) (by rw [ai] <;> omega) (by omega) (by rw [hj];simpa using ew) ⟨rfl,fin⟩) hs
theorem ix_tup:IxR X (rIxT X.K):=by
 intro value slice pins s σ H x y v u Q I rx ry h hs
 obtain ⟨p,xs,i,z,rfl,rfl,hq,he,q⟩:=h
 cases rx
 obtain ⟨t,rfl⟩:=ry
 obtain ⟨its,r,pl,hz⟩:=I.tuple hq
 obtain ⟨j,h1,h2,h3,h4,h5⟩:=atI_get he
 obtain ⟨w,ew,rw'⟩:=r.get h2
 have hl:=r.length
 have hn:=line63
 have fin:EP X pins σ Q w s:=⟨z,H,I,rw',q⟩
 exact subscriptTail_builtinR (x:=w) pl.typeIs slot_tuple_getitem.lookup
  (getItem_tuple (j:=j) (Q:=fun r s'=>r=w/\EP X pins σ Q r s') pl (by omega) (by omega) (by rw [ai,← hl];exact h1) (by simpa using ew) ⟨rfl,fin⟩) hs
theorem ix_str:IxR X rIxS:=by
 intro value slice pins s σ H x y v u Q I rx ry h hs
 obtain ⟨z,i,c,rfl,rfl,hz,he,q⟩:=h
 obtain ⟨t,rfl⟩:=rx
 obtain ⟨t',rfl⟩:=ry
 obtain ⟨j,h1,h2,h3,h4,h5⟩:=atI_get he
 have hl:z.cps.toList.length=z.length:=by simp [Str.length]
 rw [hl] at h1 h4 h5
 have hn:=line63
 exact tail_any (typeIs_str s z t) slot_str_getitem.lookup (getItem_str (c:=c) (by
  have e1:decide (i < -(2^63:Int))=false:=decide_eq_false (by omega)
  have e2:decide (i ≥ 2^63)=false:=decide_eq_false (by omega)
  rw [e1,e2,Bool.or_false]) (by rw [h1];simpa using h2) ⟨.str ⟨#[c]⟩,H,I.tok _,⟨_,rfl⟩,q⟩) hs
def rIx (K:PySem.W.Frag):R2:=fun x y H Q=>rIxL K x y H Q\/rIxT K x y H Q\/rIxS x y H Q
theorem ix_seq:IxR X (rIx X.K):=ix_list.or (ix_tup.or ix_str)
theorem mapSeq_set (its:List Value) (n j:Nat) (u:Value):Obj.mapSeq (·.setIfInBounds j u) { cls:=.type "list",data:=.seq its.toArray n } = { cls:=.type "list",data:=.seq (its.set j u).toArray n }:=by
 simp [Obj.mapSeq]
theorem Inv.lst {pins:List (Addr×Obj)} {σ:St} {H:Hp} {s:Shared} {p:Addr} {xs:List V} (I:Inv X pins σ H s) (h:H p=some (.lst xs)) :
  ∃ (its:List Value) (n:Nat),Vals xs its/\s.heap.get? p=some { cls:=.type "list",data:=.seq its.toArray n }/\xs.length<=sizeLine:=by
 obtain ⟨z,its,n,r,e⟩:=I.hok p _ h
 exact ⟨its,n,r,e,z⟩
theorem Inv.lstUpd {pins:List (Addr×Obj)} {σ:St} {H:Hp} {s:Shared} {p:Addr} {xs ys:List V} {its its':List Value} {n n':Nat} {f:Obj->Obj} (I:Inv X pins σ H s) (h:H p=some (.lst xs))
  (ho:s.heap.get? p=some { cls:=.type "list",data:=.seq its.toArray n }) (hf:f { cls:=.type "list",data:=.seq its.toArray n } = { cls:=.type "list",data:=.seq its'.toArray n' }) (r:Vals ys its') (hz:ys.length<=sizeLine) (t:Nat) :
  Inv X pins σ (upd H p (.lst ys)) { s with heap:=s.heap.update p f,toks:=t }:=by
 have e:(s.heap.update p f).get? p=some { cls:=.type "list",data:=.seq its'.toArray n' }:=by
  rw [Heap.get?_update_self f ho (by rw [hf] <;> rfl),hf]
 refine I.write (x:=p) (e:=p) (by rw [h];trivial) (.inl rfl) (fun b u hb q=>(Heap.get?_update_other _ _ (Ne.symm hb)).trans q) ⟨_,e⟩ ?_
 exact ⟨hz,its',n',r,e⟩
def rSetL:V->V->V->Hp->(Hp->Prop)->Prop:=fun o i v H Q=>∃ p xs k j,o = .ref p/\i = .int k/\H p=some (.lst xs)/\ixN xs.length k=some j/\Q (upd H p (.lst (xs.set j v)))
theorem set_list:PSet X rSetL:=by
 intro pins s σ H o i v ov iv u Q I ro ri rv h
 obtain ⟨p,xs,k,j,rfl,rfl,hp,hj,q⟩:=h
 cases ro
 obtain ⟨t,rfl⟩:=ri
 obtain ⟨its,n,r,ho,hz⟩:=I.lst hp
 obtain ⟨h1,h2,h3,h4⟩:=ixN_seq hj
 have hl:=r.length
 have hn:=line63
 have I':Inv X pins σ (upd H p (.lst (xs.set j v))) { s with heap:=s.heap.update p (Obj.mapSeq (·.setIfInBounds j u)) } :=
  I.lstUpd hp ho (mapSeq_set its n j u) (r.set rv j) (by rw [aX];exact hz) s.toks
 by_cases h0:0<=k
 ·have hk:k.toNat=j:=by
   rw [seqIndex_of h0 h4] at h1
   exact Option.some.inj h1
  exact PySem.W.ki_setAt ho h0 (by omega) (by rw [ai,← hl];exact h4) (by rw [hk];exact ⟨_,I',q⟩)
 ·have hk:(k+(its.toArray.size:Int)).toNat=j:=by
   rw [seqIndex_neg (by omega) h3] at h1
   rw [ai,← hl]
   exact Option.some.inj h1
  exact PySem.W.ki_setBack ho (by omega) (by rw [ai,← hl];exact h3) (by omega) (by rw [hk];exact ⟨_,I',q⟩)
theorem slice_bounds (lo hi:Option Int) (n:Nat):(sliceBounds lo hi none n).1=((HT.sIx n 0 lo:Nat):Int)/\(sliceBounds lo hi none n).2.1=((HT.sIx n n hi:Nat):Int)/\(sliceBounds lo hi none n).2.2=1:=by
 refine ⟨?_,?_,rfl⟩
 ·cases lo with
  | none=>simp [sliceBounds,HT.sIx]
  | some i =>
   simp only [sliceBounds,HT.sIx,gv,show (1:Int) > 0 by decide,if_true]
   by_cases h:i<0
   ·simp only [h,if_true] <;> omega
   ·simp only [h,if_false] <;> omega
 ·cases hi with
  | none=>simp [sliceBounds,HT.sIx]
  | some i =>
   simp only [sliceBounds,HT.sIx,gv,show (1:Int) > 0 by decide,if_true]
   by_cases h:i<0
   ·simp only [h,if_true] <;> omega
   ·simp only [h,if_false] <;> omega
theorem slicePick_cut (its:List Value) (lo hi:Option Int):slicePick its.toArray lo hi none=((its.drop (HT.sIx its.length 0 lo)).take (HT.sIx its.length its.length hi-HT.sIx its.length 0 lo)).toArray:=by
 obtain ⟨h1,h2,h3⟩:=slice_bounds lo hi its.toArray.size
 unfold slicePick
 rw [h1,h2,h3]
 simp only [sliceRange_one,pick_run,ai] <;> rfl
def rSlL (K:PySem.W.Frag):V->Option Int->Option Int->Hp->VK->Prop:=fun x lo hi H Q=>∃ a xs,x = .ref a/\SqL K H a xs/\∀ p,H p=none->Q (.ref p) (upd H p (.lst (cutV xs lo hi)))
theorem sl_list:SlR X (rSlL X.K):=by
 intro pins s σ H x v vl vu lo hi sl Q I rx hs pl pu h
 obtain ⟨a,xs,rfl,hx,q⟩:=h
 cases rx
 obtain ⟨its,r,ht,hz⟩:=I.list hx
 have hlen:=r.length
 refine ⟨"list",_,slot_list_getitem.lookup,ht.isList.typeIs,?_⟩
 refine wpAny_getItem_list_slice ht.isList hs pl pu .none (by simp) ?_ (by rw [ai] <;> omega)
 rw [slicePick_cut,← hlen]
 refine ⟨.ref s.heap.objs.size,_,I.laid (t':=s.toks) (o:=.lst (cutV xs lo hi)) (fun b ob q=>Heap.get?_push_of_some _ q) (aj _) ?_,rfl,q _ (I.hok.fresh (aj _))⟩
 exact ⟨aB (cutV_length xs lo hi) hz,_,0,(r.drop (HT.sIx xs.length 0 lo)).take (HT.sIx xs.length xs.length hi-HT.sIx xs.length 0 lo),Heap.get?_push_size _ rfl⟩
def flatV:V->Bool
 | .non=>true
 | .bl _=>true
 | .int _=>true
 | .str _=>true
 | _=>false
def eqV:V->V->Bool
 | .non,.non=>true
 | .bl a,.bl b=>a == b
 | .bl a,.int b=>(if a then 1 else 0) == b
 | .int a,.bl b=>a == (if b then 1 else 0)
 | .int a,.int b=>a == b
 | .str a,.str b=>a == b
 | _,_=>false
theorem eqAt_V {A:Around} {s:Shared} {y x:V} {u v:Value} (ry:RelV y u) (rx:RelV x v) (fy:flatV y=true) (fx:flatV x=true):SeqAt.EqAt A s u v (eqV y x):=by
 cases y with
 | non =>
  cases ry
  cases x with
  | non=>cases rx;exact SeqAt.EqAt.same _
  | bl b=>cases rx;exact SeqAt.EqAt.none_bool b
  | int b=>obtain ⟨t,rfl⟩:=rx;exact SeqAt.EqAt.none_int b t
  | str b=>obtain ⟨t,rfl⟩:=rx;exact SeqAt.EqAt.none_str b t
  | _=>exact absurd (show false=true from fx) az
 | bl a =>
  cases ry
  cases x with
  | non=>cases rx;exact SeqAt.EqAt.bool_none a
  | bl b=>cases rx;exact SeqAt.EqAt.bool_bool a b
  | int b=>obtain ⟨t,rfl⟩:=rx;exact SeqAt.EqAt.bool_int a b t
  | str b=>obtain ⟨t,rfl⟩:=rx;exact SeqAt.EqAt.bool_str a b t
  | _=>exact absurd (show false=true from fx) az
 | int a =>
  obtain ⟨t',rfl⟩:=ry
  cases x with
  | non=>cases rx;exact SeqAt.EqAt.int_none a t'
  | bl b=>cases rx;exact SeqAt.EqAt.int_bool a t' b
  | int b=>obtain ⟨t,rfl⟩:=rx;exact SeqAt.EqAt.int_int a t' b t
  | str b=>obtain ⟨t,rfl⟩:=rx;exact SeqAt.EqAt.int_str a t' b t
  | _=>exact absurd (show false=true from fx) az
 | str a =>
  obtain ⟨t',rfl⟩:=ry
  cases x with
  | non=>cases rx;exact SeqAt.EqAt.str_none a t'
  | bl b=>cases rx;exact SeqAt.EqAt.str_bool a t' b
  | int b=>obtain ⟨t,rfl⟩:=rx;exact SeqAt.EqAt.str_int a t' b t
  | str b=>obtain ⟨t,rfl⟩:=rx;exact SeqAt.EqAt.str_str a t' b t
  | _=>exact absurd (show false=true from fx) az
 | _=>exact absurd (show false=true from fy) az
def eqU (x:V) (u:Value):Bool:=match u with
 | .none=>eqV .non x
 | .bool b=>eqV (.bl b) x
 | .int i _=>eqV (.int i) x
 | .str z _=>eqV (.str z) x
 | _=>false
theorem eqU_of {x y:V} {u:Value} (r:RelV y u) (f:flatV y=true):eqU x u=eqV y x:=by
 cases y with
 | non=>cases r;rfl
 | bl b=>cases r;rfl
 | int i=>obtain ⟨t,rfl⟩:=r;rfl
 | str z=>obtain ⟨t,rfl⟩:=r;rfl
 | _=>exact absurd (show false=true from f) az
theorem any_eqU {x:V}:∀ {xs:List V} {us:List Value},Vals xs us->xs.all flatV=true->us.any (eqU x)=xs.any fun y=>eqV y x
 | _,_,.nil,_=>rfl
 | y::xs,u::us,.cons r t,f=>by
  rw [d6,aV] at f
  rw [fg,fg,eqU_of r f.1,any_eqU t f.2]
theorem mem_eqAt {A:Around} {s:Shared} {x:V} {v:Value} (rx:RelV x v) (fx:flatV x=true):∀ {xs:List V} {us:List Value},Vals xs us->xs.all flatV=true->∀ u∈us,SeqAt.EqAt A s u v (eqU x u)
 | _,_,.nil,_=>fun u hu=>by cases hu
 | y::xs,u::us,.cons r t,f=>fun u' hu=>by
  rw [d6,aV] at f
  rcases ar.mp hu with rfl | hu
  ·rw [eqU_of r f.1];exact eqAt_V r rx f.1 fx
  ·exact mem_eqAt rx fx t f.2 u' hu
def inV (x:V) (xs:List V):Bool:=xs.any fun y=>eqV y x
def rIn (K:PySem.W.Frag) (neg:Bool):R2:=fun x y H Q=>∃ p xs,y = .ref p/\(SqL K H p xs\/SqT K H p xs)/\flatV x=true/\xs.all flatV=true/\Q (.bl (if neg then !inV x xs else inV x xs)) H
theorem op_in_seq:OpR X (compareOp .In) (rIn X.K false):=by
 intro pins s σ H x y v u Q I rx ry h
 obtain ⟨p,xs,rfl,hq,fx,fs,q⟩:=h
 cases ry
 rcases hq with hq | hq
 ·obtain ⟨its,r,pl,hz⟩:=I.list hq
  refine SeqAt.in_listAt (eqU x) pl.isList (fun w hw=>mem_eqAt rx fx r fs w (by simpa using hw)) ⟨.bl _,H,I,rfl,?_⟩
  rw [show its.toArray.any (eqU x)=its.any (eqU x) by simp,any_eqU r fs]
  exact q
 ·obtain ⟨its,r,pl,hz⟩:=I.tuple hq
  refine SeqAt.in_tupleAt (eqU x) pl (fun w hw=>mem_eqAt rx fx r fs w (by simpa using hw)) ⟨.bl _,H,I,rfl,?_⟩
  rw [show its.toArray.any (eqU x)=its.any (eqU x) by simp,any_eqU r fs]
  exact q
theorem op_notIn_seq:OpR X (compareOp .NotIn) (rIn X.K true):=by
 intro pins s σ H x y v u Q I rx ry h
 obtain ⟨p,xs,rfl,hq,fx,fs,q⟩:=h
 cases ry
 rcases hq with hq | hq
 ·obtain ⟨its,r,pl,hz⟩:=I.list hq
  refine SeqAt.notIn_listAt (eqU x) pl.isList (fun w hw=>mem_eqAt rx fx r fs w (by simpa using hw)) ⟨.bl _,H,I,rfl,?_⟩
  rw [show its.toArray.any (eqU x)=its.any (eqU x) by simp,any_eqU r fs]
  exact q
 ·obtain ⟨its,r,pl,hz⟩:=I.tuple hq
  refine SeqAt.notIn_tupleAt (eqU x) pl (fun w hw=>mem_eqAt rx fx r fs w (by simpa using hw)) ⟨.bl _,H,I,rfl,?_⟩
  rw [show its.toArray.any (eqU x)=its.any (eqU x) by simp,any_eqU r fs]
  exact q
theorem call_len_seq:CallR X (.builtin "len") (fun xs H Q=>∃ p ys,xs=[.ref p]/\(SqL X.K H p ys\/SqT X.K H p ys)/\Q (.int ys.length) H):=by
 intro pins s σ H xs us Q I r h
 obtain ⟨p,ys,rfl,hq,q⟩:=h
 obtain ⟨u,rfl,rx⟩:=vals1 r
 cases rx
 have hn:=line63
 rcases hq with hq | hq
 ·obtain ⟨its,r',pl,hz⟩:=I.list hq
  have hlen:=r'.length
  exact Calls.call_len_list pl.isList (by simp only [ai] <;> omega) ⟨.int ys.length,H,I.tok _,⟨s.toks+1,by rw [ai,hlen]⟩,q⟩
 ·obtain ⟨its,r',pl,hz⟩:=I.tuple hq
  have hlen:=r'.length
  exact len_tuple pl (by simp only [ai] <;> omega) ⟨.int ys.length,H,I.tok _,⟨s.toks+1,by rw [ai,hlen]⟩,q⟩
theorem call_len_str:CallR X (.builtin "len") (fun xs H Q=>∃ z,xs=[.str z]/\z.length<=sizeLine/\Q (.int z.length) H):=by
 intro pins s σ H xs us Q I r h
 obtain ⟨z,rfl,hz,q⟩:=h
 obtain ⟨u,rfl,t,rfl⟩:=vals1 r
 have hn:=line63
 exact len_str (by omega) ⟨.int z.length,H,I.tok _,⟨_,rfl⟩,q⟩
theorem call_list_of:CallR X (.type "list") (fun xs H Q=>∃ p ys,xs=[.ref p]/\(SqL X.K H p ys\/SqT X.K H p ys)/\∀ l,H l=none->Q (.ref l) (upd H l (.lst ys))):=by
 intro pins s σ H xs us Q I r h
 obtain ⟨p,ys,rfl,hq,q⟩:=h
 obtain ⟨u,rfl,rx⟩:=vals1 r
 cases rx
 have fin:∀ (its:List Value),Vals ys its->ys.length<=sizeLine->∀ (h':Heap) (c':Nat),(∀ b o',s.heap.get? b=some o'->h'.get? b=some o') ->
   h'.get? s.heap.objs.size=some { cls:=.type "list",dict:=none,data:=.seq its.toArray c',slots:=#[] }->EP X pins σ Q (.ref s.heap.objs.size) { s with heap:=h' }:=fun its r' hz h' c' kp e =>
  ⟨.ref s.heap.objs.size,_,I.laid (t':=s.toks) kp (aj _) (show ObjOk X.prog X.w _ h' _ (.lst ys) from ⟨hz,its,c',r',e⟩),rfl,q _ (I.hok.fresh (aj _))⟩
 rcases hq with hq | hq
 ·obtain ⟨its,r',pl,hz⟩:=I.list hq
  have hlen:=r'.length
  obtain ⟨o,ho,hc,n,hd⟩:=pl.isList
  exact call_list_seq p (.inl rfl) ho hc hd (fun h' c' kp e=>fin its r' hz h' c' kp e) (by simp only [ai] <;> omega)
 ·obtain ⟨its,r',pl,hz⟩:=I.tuple hq
  have hlen:=r'.length
  obtain ⟨o,ho,hc,n,hd⟩:=pl
  exact call_list_seq p (.inr rfl) ho hc hd (fun h' c' kp e=>fin its r' hz h' c' kp e) (by simp only [ai] <;> omega)
theorem call_tuple_of:CallR X (.type "tuple") (fun xs H Q=>∃ p ys,xs=[.ref p]/\((SqL X.K H p ys/\∀ l,H l=none->Q (.ref l) (upd H l (.tup ys)))\/(SqT X.K H p ys/\Q (.ref p) H))):=by
 intro pins s σ H xs us Q I r h
 obtain ⟨p,ys,rfl,h⟩:=h
 obtain ⟨u,rfl,rx⟩:=vals1 r
 cases rx
 rcases h with ⟨hq,q⟩ | ⟨hq,q⟩
 ·obtain ⟨its,r',pl,hz⟩:=I.list hq
  have hlen:=r'.length
  refine call_tuple_list pl.isList (fun h' kp=>?_) (by simp only [ai] <;> omega)
  have I1:Inv X pins σ H { s with heap:=h' }:=I.kept (t':=s.toks) kp
  have I2:Inv X pins σ (upd H h'.objs.size (.tup ys)) { s with heap:=h'.push { cls:=.type "tuple",data:=.seq its.toArray } } :=
   I1.laid (t':=s.toks) (fun b o e=>Heap.get?_push_of_some _ e) (aj _) (show ObjOk X.prog X.w _ _ _ (.tup ys) from ⟨hz,its,r',IsTup.new _ _⟩)
  exact ⟨.ref h'.objs.size,_,I2,rfl,q _ (I1.hok.fresh (aj _))⟩
 ·obtain ⟨its,r',pl,hz⟩:=I.tuple hq
  exact call_tuple_same pl ⟨.ref p,H,I,rfl,q⟩
def tyV (K:PySem.W.Frag) (T:String) (x:V) (H:Hp):Prop:=match x with
 | .str _=>T = "str"
 | .int _=>T = "int"
 | .ref p=>(T = "list" /\ ∃ xs,SqL K H p xs)\/(T = "tuple" /\ ∃ o,K.lookup p=some o/\o.cls = .type "tuple" /\ o.dict=none) \/
   (T = "dict" /\ ((∃ kvs,H p=some (.dK kvs))\/∃ kvs,H p=some (.dT kvs)))\/(T = "set" /\ ∃ S n,H p=some (.set S n))
 | _=>False
theorem tyV_is {pins:List (Addr×Obj)} {σ:St} {H:Hp} {s:Shared} {T:String} {x:V} {v:Value} (I:Inv X pins σ H s) (r:RelV x v) (ty:tyV X.K T x H) :
  s.TypeIs v T/\∀ a,v = .ref a->∃ ob,s.heap.get? a=some ob/\ob.dict=none:=by
 cases x with
 | str z =>
  obtain ⟨t,rfl⟩:=r
  cases (show T = "str" from ty)
  exact ⟨typeIs_str s z t,fun _ e=>nomatch e⟩
 | int i =>
  obtain ⟨t,rfl⟩:=r
  cases (show T = "int" from ty)
  exact ⟨typeIs_int s i t,fun _ e=>nomatch e⟩
 | ref p =>
  cases r
  rcases ty with ⟨rfl,xs,hq⟩ | ⟨rfl,o,hk,hc,hd⟩ | ⟨rfl,hk⟩ | ⟨rfl,S,n,hk⟩
  ·obtain ⟨its,_,pl,_⟩:=I.list hq
   refine ⟨pl.isList.typeIs,fun a e=>?_⟩
   cases e
   obtain ⟨o,n,e,c,hd,_⟩:=pl
   exact ⟨o,e,hd⟩
  ·refine ⟨⟨o,I.kIn p o hk,hc⟩,fun a e=>?_⟩
   cases e
   exact ⟨o,I.kIn _ o hk,hd⟩
  ·have z:∃ o,s.heap.get? p=some o/\o.ExactDict:=by
    rcases hk with ⟨kvs,hk⟩ | ⟨kvs,hk⟩
    ·obtain ⟨_,_,_,_,o,_,_,e,ex,_⟩:=I.hok p _ hk
     exact ⟨o,e,ex⟩
    ·obtain ⟨_,_,_,_,o,_,_,e,ex,_⟩:=I.hok p _ hk
     exact ⟨o,e,ex⟩
   obtain ⟨o,e,ex⟩:=z
   refine ⟨⟨o,e,ex.1⟩,fun a e2=>?_⟩
   cases e2
   exact ⟨o,e,ex.2.1⟩
  ·obtain ⟨o,_,_,_,e,ex,_⟩:=I.hok p _ hk
   refine ⟨⟨o,e,ex.1⟩,fun a e2=>?_⟩
   cases e2
   exact ⟨o,e,ex.2.1⟩
 | _=>exact False.elim ty
def tBM0 (K:PySem.W.Frag) (T:String) (r:V->List V->Hp->VK->Prop) (to:TE):TE:=fun σ H Q=>to σ H fun x H1=>tyV K T x H1/\r x [] H1 Q
def tBM (K:PySem.W.Frag) (T:String) (r:V->List V->Hp->VK->Prop) (to:TE) (t:TA):TE:=fun σ H Q=>to σ H fun x H1=>tyV K T x H1/\t σ H1 fun xs H2=>r x xs H2 Q
variable {o e:Expr} {es:List Expr} {to:TE} {t:TA} {name:Str} {apos cpos:Pos} {T id:String} {r:V->List V->Hp->VK->Prop}
theorem pe_bm0 (pa:PlainAttrs T) (slot:Slot T name id) (hty:typeOf (.builtin id)=pure (.type "method_descriptor")) (hm:MtR X id r) (ho:PE X o to)
  (hbase:attributeBase o name X.env (eval o X.env)=eval o X.env:=by rfl) (hline:(apos.endLine == cpos.line)=true:=by rfl):PE X (.Call (.Attribute o name apos) [] [] cpos) (tBM0 X.K T r to):=by
 intro pins s σ H Q I h
 refine wpAny_Call_method0_late hbase hline (thn (ho pins s σ H _ I h) fun v s1 ⟨x,H1,I1,r1,ty,q1⟩=>?_)
 obtain ⟨h1,h2⟩:=tyV_is I1 r1 ty
 exact ⟨T,id,pa,slot,hty,h1,h2,Calls.callWith_builtin rfl (PySem.evalArgs_none (hm pins s1 σ H1 x [] v [] Q I1 r1 .nil q1))⟩
theorem pe_bm (pa:PlainAttrs T) (slot:Slot T name id) (hty:typeOf (.builtin id)=pure (.type "method_descriptor")) (hm:MtR X id r) (ho:PE X o to) (ha:PA X (e::es) t)
  (hbase:attributeBase o name X.env (eval o X.env)=eval o X.env:=by rfl)
  (hfew:((backTo cpos (starEach (e::es) X.env)).all (fun x => !x.1) && (backToKw cpos (keywordEach [] X.env)).all (fun x=>x.1.isSome)
   && decide ((e::es).length+([]:List Keyword).length+(if ([]:List Keyword).isEmpty then 0 else 1)<30))=true:=by rfl)
  (hline:(apos.endLine == cpos.line)=true:=by rfl) (hs:starEach (e::es) X.env=(false,eval e X.env)::starEach es X.env:=by rfl) (hplain:(backTo cpos (starEach es X.env)).any (·.1)=false:=by rfl) :
  PE X (.Call (.Attribute o name apos) (e::es) [] cpos) (tBM X.K T r to t):=by
 intro pins s σ H Q I h
 refine wpAny_Call_method_late hbase hfew hline rfl (thn (ho pins s σ H _ I h) fun v s1 ⟨x,H1,I1,r1,ty,q1⟩=>?_)
 obtain ⟨h1,h2⟩:=tyV_is I1 r1 ty
 refine ⟨T,id,pa,slot,hty,h1,h2,?_⟩
 have hA:=ha cpos pins s1 σ H1 _ I1 q1
 rw [hs] at hA ⊢
 refine Calls.callWith_builtin (by show (false || (backTo cpos (starEach es X.env)).any (·.1))=false;rw [hplain] <;> rfl) (Calls.evalArgs_plain ?_)
 exact thn hA fun us s2 ⟨vs,H2,I2,r2,q2⟩=>hm pins s2 σ H2 x vs v us Q I2 r1 r2 q2
end
end L2
namespace L2
open PySem PySem.Spec PyProof.Rows
def MtM (X:Cx) (id:String) (r:V->List V->Hp->VK->Prop):Prop :=
 ∀ (pins:List (Addr×Obj)) (s:Shared) (σ:St) (H:Hp) (x:V) (xs:List V) (v:Value) (us:List Value) (Q:VK),Inv X pins σ H s->RelV x v->Vals xs us->r x xs H Q ->
  wpAny (model X.prog X.w) X.A (call (.builtin id) (v::us)) (EP X pins σ Q) X.xe s
theorem Vals.one:∀ {x:V} {us:List Value},Vals [x] us->∃ u,us=[u]/\RelV x u
 | _,_,.cons r .nil=>⟨_,rfl,r⟩
theorem Vals.zero:∀ {us:List Value},Vals [] us->us=[]
 | _,.nil=>rfl
theorem Vals.dropLast {xs:List V} {us:List Value} (h:Vals xs us):Vals xs.dropLast us.dropLast:=by
 induction h with
 | nil=>exact .nil
 | cons r t ih =>
  cases t with
  | nil=>exact .nil
  | cons q t'=>exact .cons r ih
theorem Vals.reverse {xs:List V} {us:List Value} (h:Vals xs us):Vals xs.reverse us.reverse:=by
 induction h with
 | nil=>exact .nil
 | cons r t ih=>rw [dj,dj];exact Vals.append ih (.cons r .nil)
theorem Vals.rep {xs:List V} {us:List Value} (h:Vals xs us):∀ k:Nat,Vals (List.replicate k xs).flatten (List.replicate k us).flatten
 | 0=>.nil
 | k+1=>by
  rw [bw,bw,bZ,bZ]
  exact Vals.append h (Vals.rep h k)
theorem erase_last {α:Type} (l:List α):l.eraseIdx (l.length-1)=l.dropLast:=by
 induction l with
 | nil=>rfl
 | cons a r ih =>
  cases r with
  | nil=>rfl
  | cons b r =>
   have e:(a::b::r).length-1=((b::r).length-1)+1:=by
    have h1:(a::b::r).length=r.length+2:=rfl
    have h2:(b::r).length=r.length+1:=rfl
    omega
   rw [e,List.eraseIdx_cons_succ,ih]
   all_goals rfl
theorem foldl_rep (its:List Value):∀ (k:Nat) (acc:List Value),
  List.foldl (fun x1 x2=>x1++x2) acc.toArray (List.replicate k its.toArray)=(acc++(List.replicate k its).flatten).toArray
 | 0,acc=>by simp
 | k+1,acc=>by
  have e:acc.toArray++its.toArray=(acc++its).toArray:=by simp
  have e2:(acc++its)++(List.replicate k its).flatten=acc++(List.replicate (k+1) its).flatten:=by
   rw [bw,bZ,List.append_assoc]
  rw [← e2,← foldl_rep its k (acc++its),← e,bw,List.foldl_cons]
section
variable {X:Cx} {pins:List (Addr×Obj)} {σ:St} {H:Hp} {s:Shared} {l b:Addr} {xs ys zs:List V}
theorem Inv.lset {its its':List Value} {n:Nat} {f:Array Value->Array Value} {t':Nat} (I:Inv X pins σ H s) (hH:H l=some (.lst xs))
  (e:s.heap.get? l=some { cls:=.type "list",data:=.seq its.toArray n }) (hf:f its.toArray=its'.toArray) (hv:Vals ys its') (hz:ys.length<=sizeLine) :
  Inv X pins σ (upd H l (.lst ys)) { s with heap:=s.heap.update l (Obj.mapSeq f),toks:=t' }:=by
 have q:=PySem.IsL.update e f
 rw [hf] at q
 refine I.write (x:=l) (e:=l) (by rw [hH];exact trivial) (.inl rfl) (fun b' u hb hu=>(Heap.get?_update_other s.heap (Obj.mapSeq f) (Ne.symm hb)).trans hu) ⟨_,q⟩ ?_
 exact ⟨hz,its',_,hv,q⟩
theorem Inv.lnew {its:List Value} {t':Nat} (I:Inv X pins σ H s) (hv:Vals ys its) (hz:ys.length<=sizeLine) :
  Inv X pins σ (upd H s.heap.objs.size (.lst ys)) { s with heap:=s.heap.push { cls:=.type "list",data:=.seq its.toArray },toks:=t' } :=
 I.laid (fun _ _ q=>Heap.get?_push_of_some _ q) (aj _) ⟨hz,its,0,hv,Heap.get?_push_size _ rfl⟩
theorem Inv.fresh (I:Inv X pins σ H s):H s.heap.objs.size=none:=I.hok.fresh (aj _)
theorem Inv.lstM (I:Inv X pins σ H s) (hH:H l=some (.lst xs)):xs.length<=sizeLine/\∃ (its:List Value) (n:Nat),Vals xs its/\xs.length=its.length/\s.heap.get? l=some { cls:=.type "list",data:=.seq its.toArray n }:=by
 obtain ⟨z,its,n,r,e⟩:=I.hok l _ hH
 exact ⟨z,its,n,r,r.length,e⟩
theorem notLongL {n:Nat} (h:n<=sizeLine):Builtin.List.listTooLong n=false:=by
 unfold Builtin.List.listTooLong
 exact decide_eq_false (by omega)
end
section
variable {X:Cx}
def rAppend:V->List V->Hp->VK->Prop:=fun x vs H Q=>∃ l xs y,x = .ref l/\vs=[y]/\H l=some (.lst xs)/\xs.length<sizeLine/\Q .non (upd H l (.lst (xs++[y])))
theorem mt_append:MtM X "list.append" rAppend:=by
 intro pins s σ H x vs v us Q I rx rv h
 obtain ⟨l,xs,y,rfl,rfl,hH,hz,q⟩:=h
 cases rx
 obtain ⟨u,rfl,ru⟩:=rv.one
 obtain ⟨z,its,n,r,hl,e⟩:=I.lstM hH
 refine call_meets F.slot_list_append ⟨_,e,rfl⟩ F.entry_list_append (F.args_list_append_2 _ _) (PySem.list_append l its.toArray n u (by rw [ai];omega)) ⟨e,?_⟩
 refine ⟨.non,_,I.lset (its':=its++[u]) hH e (by simp) (r.append (.cons ru .nil)) ?_,rfl,q⟩
 rw [av,fJ]
 omega
def rPop:V->List V->Hp->VK->Prop:=fun x vs H Q=>∃ l xs y,x = .ref l/\vs=[]/\H l=some (.lst xs)/\xs[xs.length-1]? = some y/\Q y (upd H l (.lst xs.dropLast))
theorem mt_pop:MtM X "list.pop" rPop:=by
 intro pins s σ H x vs v us Q I rx rv h
 obtain ⟨l,xs,y,rfl,rfl,hH,hy,q⟩:=h
 cases rx
 have hus:=rv.zero
 subst hus
 obtain ⟨z,its,n,r,hl,e⟩:=I.lstM hH
 obtain ⟨u,hu,ru⟩:=r.get hy
 have hy':its.toArray[its.toArray.size-1]? = some u:=by
  show its.toArray[its.length-1]? = some u
  rw [← Array.getElem?_toList,← hl]
  exact hu
 refine call_meets F.slot_list_pop ⟨_,e,rfl⟩ F.entry_list_pop (F.args_list_pop_1 _) (MeetsSeq.list_pop_last l its.toArray n u hy' (by rw [ai];omega)) ⟨e,?_⟩
 refine ⟨y,_,I.lset (its':=its.dropLast) hH e ?_ r.dropLast ?_,ru,q⟩
 ·show its.toArray.eraseIdxIfInBounds (its.toArray.size-1)=its.dropLast.toArray
  rw [ai,List.eraseIdxIfInBounds_toArray,erase_last]
 ·rw [fZ]
  omega
def rCat:R2:=fun x y H Q=>∃ l b xs zs,x = .ref l/\y = .ref b/\H l=some (.lst xs)/\H b=some (.lst zs)/\xs.length+zs.length<=sizeLine/\∀ p,H p=none->Q (.ref p) (upd H p (.lst (xs++zs)))
theorem op_cat:OpR X (binaryOp .Add) rCat:=by
 intro pins s σ H x y v u Q I rx ry h
 obtain ⟨l,b,xs,zs,rfl,rfl,hH,hB,hz,q⟩:=h
 cases rx
 cases ry
 obtain ⟨z,its,n,r,hl,e⟩:=I.lstM hH
 obtain ⟨z2,its2,n2,r2,hl2,e2⟩:=I.lstM hB
 refine PySem.P.add_list e e2 ?_ (by rw [ai,ai];omega)
 have ea:its.toArray++its2.toArray=(its++its2).toArray:=by simp
 rw [ea]
 exact ⟨.ref _,_,I.lnew (t':=s.toks) (r.append r2) (by rw [av];omega),rfl,q _ I.fresh⟩
def rRep:R2:=fun x y H Q=>∃ l k xs,x = .ref l/\y = .int k/\H l=some (.lst xs) /\ -(2^63)<=k/\k<2^63/\xs.length*k.toNat<=sizeLine /\
 ∀ p,H p=none->Q (.ref p) (upd H p (.lst (List.replicate k.toNat xs).flatten))
theorem len_rep {α:Type} (xs:List α) (k:Nat):(List.replicate k xs).flatten.length=k*xs.length:=by
 induction k with
 | zero=>simp
 | succ k ih=>rw [bw,bZ,av,ih,aT,Nat.add_comm]
theorem op_rep:OpR X (binaryOp .Mult) rRep:=by
 intro pins s σ H x y v u Q I rx ry h
 obtain ⟨l,k,xs,rfl,rfl,hH,h1,h2,hz,q⟩:=h
 cases rx
 obtain ⟨t,rfl⟩:=ry
 obtain ⟨z,its,n,r,hl,e⟩:=I.lstM hH
 have hlen:its.toArray.size*k.toNat<=sizeLine:=by rw [ai,← hl];exact hz
 have hcap:¬ its.toArray.size*k.toNat > (2^63-1) / 8:=by
  have:(sizeLine:Nat)<=(2^63-1) / 8:=by decide
  omega
 have hfit:¬ (!Builtin.List.listFitsIndex k)=true:=by
  rw [fitsIndex_both h1 h2]
  exact az
 have hlong:¬ Builtin.List.listTooLong (its.toArray.size*k.toNat)=true:=by
  rw [notLongL hlen]
  exact az
 have hnew:List.foldl (fun x1 x2=>x1++x2) #[] (List.replicate (if its.toArray.isEmpty=true then 0 else k.toNat) its.toArray)=(List.replicate k.toNat its).flatten.toArray:=by
  have f0:∀ m:Nat,List.foldl (fun x1 x2=>x1++x2) #[] (List.replicate m its.toArray)=(List.replicate m its).flatten.toArray:=fun m=>by
   have:=foldl_rep its m []
   rw [List.nil_append] at this
   exact this
  rw [f0]
  cases its with
  | nil=>simp
  | cons a r'=>rw [if_neg (by simp)]
 refine wpAny_binaryOp_repeat_ref (T := "list") (U := "int") (by decide) ⟨_,e,rfl⟩ (fun s'=>typeIs_int s' k t) noFill_list_mul F.fills_int_mul F.slot_int_rmul repeat_list F.slot_int_index.lookup
  (call_meets F.slot_int_rmul (typeIs_int s k t) F.entry_int_rmul (F.args_int_rmul_2 _ _) (int___rmul___int_list k t l its.toArray n)
   ⟨e,rfl,⟨_,e,rfl⟩,call_meets F.slot_list_mul ⟨_,e,rfl⟩ F.entry_list_mul (F.args_list_mul_2 _ _) (AutoListH.list___mul___list_int_3 l its.toArray n k t hfit hcap hlong) ⟨e,?_⟩⟩)
 rw [hnew]
 exact ⟨.ref _,_,I.lnew (t':=s.toks) (r.rep k.toNat) (by rw [len_rep,bt];exact hz),rfl,q _ I.fresh⟩
end
section
variable {prog:Program} {w:World} {A:Around} {E:Value->Shared->Prop} {s:Shared}
set_option maxRecDepth 100000 in
end
end L2
namespace Att
open PySem PySem.W PySem.Calls PyProof.Rows
theorem ints_of_wellAll {P:Params} {h:Heap}:∀ (ns:List Int) (vs:List Value),WellAll P h vs (ns.map WData.int)->IntsAre vs ns:=by
 intro ns
 induction ns with
 | nil =>
  intro vs w
  rw [List.map_nil] at w
  cases w
  exact .nil
 | cons n ns ih =>
  intro vs w
  rw [bW] at w
  cases w with
  | cons a b =>
   cases a
   exact .cons _ _ (ih _ b)
theorem script_of {l:OpenLaw} {n:Nat} (hn:l.most=some n) {P:Params} {h:Heap} {args:List WData} {vals:List Value}
  (hpre:l.row.toRowW.claim.pre args=true) (hwl:WellAll P h vals args) :
  ∃ a vs ns,vals=[Value.ref a]/\args=[WData.list (ns.map WData.int)]/\h.get? a=some { cls:=.type "list",data:=.seq vs.toArray }/\IntsAre vs ns/\ns.length<=n:=by
 have hsh:WShape.hasAll [] args [.list .int]=true:=(pre_splitW hpre).1
 have hc:l.pre.holds [] { args:=args }=true:=(pre_splitW hpre).2
 obtain ⟨d,r,rfl,h1,h2⟩:=hasAllW_cons hsh
 obtain rfl:=hasAllW_nil h2
 obtain ⟨xs,rfl,h3⟩:=hasW_list h1
 obtain ⟨ns,rfl⟩:=items_int h3
 have hlen:ns.length<=n:=by
  unfold OpenLaw.pre at hc
  have h4:(WTm.not (.lt (.lit (.int (n:Int))) (.len (.arg 0)))).holds [] { args:=[.list (ns.map .int)] }=true:=by
   have h4:=(holds_andW hc).1
   rw [hn] at h4
   exact h4
  have h5:=condW_of h4 (w_not (w_lt w_lit (w_len_list (w_arg rfl))))
  rw [ab] at h5
  refine Nat.le_of_not_lt fun q=>?_
  have q':(n:Int)<((ns.length:Nat):Int):=by omega
  first
   | (rw [decide_eq_true q'] at h5;exact absurd h5 (by decide))
   | (simp at h5;omega)
 cases hwl with
 | cons w1 w2 =>
  cases w2
  cases w1 with
  | list ho hall=>exact ⟨_,_,ns,rfl,rfl,ho,ints_of_wellAll ns _ hall,hlen⟩
theorem post_true (l:OpenLaw) (args:List WData):l.row.toRowW.claim.post args (.bool true) args=true :=
 postW_of (r:=l.row.toRowW) (X:=(true == true))
  (show WShape.has [] (.bool true) .bool=true by first | rfl | decide | simp [WShape.has,WShape.arms,WShape.armsAll])
  (show (WTm.eq .res (.lit (.bool true))).value [] { args:=args,res:=some (.bool true),after:=args }=some (.bool (true == true)) from w_eq_bool (w_res rfl) w_lit) rfl
theorem attach_call {l:OpenLaw} {n:Nat} {q:Program} {loose:List Str} {XP:(Str->Option Value)->Heap->Prop} {YP:World->Heap->Prop} {d:DefRec}
  (hn:l.most=some n) (hdf:d.params.defaults=[])
  (call:∀ (w:World) (s₀ s₁:Shared) (mg mb:Str->Option Value) (fa:Addr) (o:Obj) (pm cd doc:Value) (a:Addr) (vs:List Value) (ns:List Int),
   Ground q loose [] XP w s₀ mg mb s₁.heap->YP w s₁.heap ->
   s₁.heap.get? fa=some o->o.data = .func (docDef d.name d.params d.body d.scope pm cd doc)->s₁.heap.CodeRec cd d.name->mg d.name=some (.ref fa) ->
   s₁.heap.get? a=some { cls:=.type "list",data:=.seq vs.toArray }->IntsAre vs ns->ns.length<=n->s₁.gens = #[] ->
   codeAny (model l.prog w) callerA (.call (.ref fa) ⟨[.ref a],[]⟩) (fun r s'=>r = .ok (.ret (.bool true))/\OldK s₁.heap s'.heap/\s'.os=s₁.os/\AllBare s'.gens) s₁) :
  WalkO q loose XP YP l.row.toRowW d [] (fun f vs=>PySem.call f vs):=by
 intro w s₀ s₁ mg mb G Y fa o pm cd doc dV kV ho hd hcd hD hmg hg args vals as hpre hlay hrd hwl hlo
 obtain rfl:dV = .none:=Dflts.none hD hdf
 obtain rfl:kV = .none:=Dflts.noKw hD
 obtain ⟨a,vs,ns,rfl,rfl,hobj,hints,hlen⟩:=script_of hn hpre hwl
 refine enter_call (codeAny_mono (call w s₀ s₁ mg mb fa o pm cd doc a vs ns G Y ho (fd_plain hd) hcd hmg hobj hints hlen hg) fun r s' hq=>?_)
 obtain ⟨rfl,h2,h3,h4⟩:=hq
 exact ⟨.inl ⟨.bool true,.bool true,[],rfl,fun _=>rfl,.bool true,post_true l _,fun _=>⟨List.Pairwise.nil,fun _ hm=>(nomatch hm)⟩⟩,h2,h3,h4⟩
end Att
namespace L2
open PySem PySem.Spec PyProof.Rows
theorem vals_ints:∀ {vs:List Value} {ns:List Int},IntsAre vs ns->Vals (ns.map V.int) vs
 | _,_,.nil=>.nil
 | _,_,.cons n t h=>.cons ⟨t,rfl⟩ (vals_ints h)
def Only (H:Hp):Prop:=∀ b,H b=none\/∃ o xs,H b=some (.frz o (.lst xs))
theorem law_call {P:Program} {w:World} {K:PySem.W.Frag} {mg mb:Str->Option Value} {CX:CXT} {k:Nat} {fa a:Addr} {fd:FuncData} {x:Str} {sp:Sp} {s₁:Shared} {vs:List Value} {ns:List Int}
  (KX:K.In s₁.heap) (hns:s₁.heap.Ns mainGlobals mg) (hb:s₁.heap.Ns builtinsNs mb) (hbb:∀ x:Str,x ≠ "__name__" -> mb x=bootBuiltins x) (hlim:s₁.heap.NoLimit) (hse:s₁.heap.NoSeer) (htr:P.given.tree=none) (hg:s₁.gens = #[])
  (ha:s₁.heap.get? a=some { cls:=.type "list",data:=.seq vs.toArray }) (hi:IntsAre vs ns) (hl:ns.length<=sizeLine) (hr:Room k callerA)
  (F:∀ base:Heap,K.In base->base.Ns mainGlobals mg->FnOk P w K mg base CX k fa fd [x] sp) (hbind:∀ (s:Shared) (u:Value),BindsTo s fd ⟨[u],[]⟩ [(x,u)])
  (hsp:∀ H:Hp,Only H->SqL K H a (ns.map V.int)->sp [.ref a] H (fun v _=>v = .bl true) fun _ _ _=>False)
  (hCX:∀ H e s',CX [] H s₁ (fun _ _ _=>False) e s'->False) :
  codeAny (model P w) callerA (.call (.ref fa) ⟨[.ref a],[]⟩) (fun r s'=>r = .ok (.ret (.bool true))/\OldK s₁.heap s'.heap/\s'.os=s₁.os/\AllBare s'.gens) s₁:=by
 have rv:=vals_ints hi
 have lenV:=hi.length
 -- from an abstract heap in which nothing but the script may be tracked
 have core:∀ H:Hp,Only H->SqL K H a (ns.map V.int)->HOk P w H s₁.heap->(∀ b,H b≠none->b=a)->(H a≠none->K.lookup a=none) ->
   codeAny (model P w) callerA (.call (.ref fa) ⟨[.ref a],[]⟩) (fun r s'=>r = .ok (.ret (.bool true))/\OldK s₁.heap s'.heap/\s'.os=s₁.os/\AllBare s'.gens) s₁:=by
  intro H hO hS hok hA hK
  have base_of:∀ {b:Addr} {o:Obj},s₁.heap.get? b=some o->H b=none->(hidT s₁.heap H).get? b=some o:=fun e n=>hidT_get e n
  have noA:∀ {b:Addr} {o:Obj} {es:Array DictEntry} {ep:Nat},s₁.heap.get? b=some o->o.data = .dict es ep->H b=none:=fun {b o es ep} e d=>by
   cases q:H b with
   | none=>rfl
   | some u =>
    have e':b=a:=hA b (by rw [q];simp)
    subst e'
    rw [ha] at e;cases e
    have d':Data.seq vs.toArray _=Data.dict es ep:=d
    cases d'
  have nsK:∀ {b:Addr} {m:Str->Option Value},s₁.heap.Ns b m->(hidT s₁.heap H).Ns b m:=fun {b m} ⟨o,es,ep,e,d,r⟩=>⟨o,es,ep,base_of e (noA e d),d,r⟩
  have hKb:K.In (hidT s₁.heap H):=fun b o e=>base_of (KX b o e) (by
   cases q:H b with
   | none=>rfl
   | some u =>
    have e':b=a:=hA b (by rw [q];simp)
    subst e'
    rw [hK (by rw [q];simp)] at e;cases e)
  have hM:Mod K mg (hidT s₁.heap H):=⟨hKb,nsK hns,⟨mb,nsK hb,hbb⟩,let ⟨mc,h1,h2⟩:=hlim;⟨mc,nsK h1,h2⟩⟩
  have hsr:(hidT s₁.heap H).NoSeer:=by
   obtain ⟨⟨mc,a1,b1⟩,⟨mm,a2,b2⟩,⟨mi,a3,b3⟩,⟨mq,bm,ob,a4,b4,c4,d4,e4⟩⟩:=hse
   refine ⟨⟨mc,nsK a1,b1⟩,⟨mm,nsK a2,b2⟩,⟨mi,nsK a3,b3⟩,⟨mq,bm,ob,nsK a4,b4,base_of c4 ?_,d4,e4⟩⟩
   cases q:H bm with
   | none=>rfl
   | some u =>
    have e':bm=a:=hA bm (by rw [q];simp)
    subst e'
    rw [ha] at c4
    cases c4
    exact absurd (show (Value.type "list")=Value.type "module" from d4) (by decide)
  have e0:Env0 P w K mg (hidT s₁.heap H) callerA [] s₁ H:=⟨rfl,hM,fun b o e=>of_hidT e,dc (hidT_size _ _),trivial,fun b hb=>absurd (show b∈([]:List Addr) from hb) (by simp),hok,.of_eq hg,hsr,htr⟩
  refine codeAny_mono ((F _ hKb (nsK hns)).run callerA [] s₁ H ⟨[.ref a],[]⟩ [.ref a] [.ref a] _ _ hr e0 (hbind s₁ (.ref a)) (.cons rfl .nil) (hsp H hO hS)) fun r s' h=>?_
  cases r with
  | error e=>exact (hCX H e s' h).elim
  | ok fl =>
   cases fl with
   | next=>exact False.elim h
   | brk=>exact False.elim h
   | cont=>exact False.elim h
   | ret u =>
    obtain ⟨v,H',os,bare,un,hok',r',q⟩:=h
    have q':v = .bl true:=q
    subst q'
    obtain rfl:u=Value.bool true:=r'
    refine ⟨rfl,OldK.of_keep fun b o e=>?_,os,bare⟩
    cases q:H b with
    | none=>exact un.keep b o e q (by intro z;exact absurd (show b∈([]:List Addr) from z) (by simp)) (by simp)
    | some u =>
     rcases hO b with z | ⟨ob,xs,z⟩
     ·rw [q] at z;cases z
     ·have z2:=un.frzs b ob _ z
      obtain ⟨e1,_⟩:=hok b _ z
      obtain ⟨e2,_⟩:=hok' b _ z2
      rw [e] at e1;cases e1
      exact e2
 cases hk:K.lookup a with
 | some o =>
  -- the script is one of the module's own objects
  have e:=KX a o hk
  rw [ha] at e
  cases e
  refine core (fun _=>none) (fun _=>.inl rfl) (.inr ⟨_,vs.toArray,_,hk,rfl,rfl,rfl,by rw [ai,lenV];exact hl,by simpa using rv⟩) (fun b u z=>by have z':(none:Option HO)=some u:=z;cases z') (fun b z=>absurd rfl z) fun z=>absurd rfl z
 | none =>
  refine core (fun b=>if b=a then some (.frz { cls:=.type "list",data:=.seq vs.toArray } (.lst (ns.map V.int))) else none) (fun b=>?_) (.inl (.inr ⟨{ cls:=.type "list",data:=.seq vs.toArray },if_pos rfl⟩)) (fun b u z=>?_) (fun b z=>?_) fun _=>hk
  ·by_cases hb:b=a
   ·exact .inr ⟨_,_,if_pos hb⟩
   ·exact .inl (if_neg hb)
  ·by_cases hb:b=a
   ·have z':=(if_pos hb).symm.trans z
    cases z'
    subst hb
    exact ⟨ha,by rw [ab];exact hl,vs,_,rv,ha⟩
   ·have z':=(if_neg hb).symm.trans z
    cases z'
  ·by_cases hb:b=a
   ·exact hb
   ·exact absurd (if_neg hb) z
end L2
namespace L2
open PySem PySem.Spec PyProof.Rows
theorem walk_of {l:PySem.W.OpenLaw} {n k:Nat} {q:Program} {loose:List Str} {XP:(Str->Option Value)->Heap->Prop} {YP:World->Heap->Prop} {d:DefRec} {K:Params->PySem.W.Frag} {CX:World->CXT} {sp:World->Sp} {x:Str}
  (hn:l.most=some n) (hn2:n<=sizeLine) (hdf:d.params.defaults=[]) (hr:Room k callerA)
  (hY:∀ (w:World) (h:Heap),YP w h->(K w.params).In h)
  (F:∀ (w:World) (mg:Str->Option Value) (fa:Addr) (h:Heap),(K w.params).In h->h.Ns mainGlobals mg->mg d.name=some (.ref fa) ->
   ∃ fd:FuncData,(∀ (s:Shared) (u:Value),BindsTo s fd ⟨[u],[]⟩ [(x,u)]) /\
    ∀ base:Heap,(K w.params).In base->base.Ns mainGlobals mg->FnOk l.prog w (K w.params) mg base (CX w) k fa fd [x] (sp w))
  (hsp:∀ (w:World) (H:Hp) (a:Addr) (ns:List Int),ns.length<=n->Only H->SqL (K w.params) H a (ns.map V.int)->sp w [.ref a] H (fun v _=>v = .bl true) fun _ _ _=>False)
  (hCX:∀ (w:World) (H:Hp) (s:Shared) (e:Value) (s':Shared),CX w [] H s (fun _ _ _=>False) e s'->False) (hi:importsNone q=true:=by decide +kernel) (ht:l.prog.given.tree=none:=by rfl) :
  PySem.W.WalkO q loose XP YP l.row.toRowW d [] (fun f vs=>PySem.call f vs):=by
 refine Att.attach_call hn hdf fun w s₀ s₁ mg mb fa o pm cd doc a vs ns G Y ho hd hcd hmg hobj hints hlen hg=>?_
 have KX:=hY w _ Y
 obtain ⟨fd,hb,hF⟩:=F w mg fa _ KX G.T.g hmg
 exact law_call KX G.T.g G.T.b G.T.builtins G.T.nolimit (G.T.seer hi) ht hg hobj hints (aB hlen hn2) hr hF hb (fun H hO hS=>hsp w H a ns hlen hO hS) fun H e s'=>hCX w H s₁ e s'
end L2
namespace L2
open PySem PySem.Spec PyProof.Rows
def defArgs (s:Stmt):Arguments:=match s with
 | .FunctionDef _ a _ _ _ _ _ _ _ _=>a
 | _=>{ posonlyargs:=[],args:=[],vararg:=none,kwonlyargs:=[],kw_defaults:=[],kwarg:=none,defaults:=[] }
def defBody (s:Stmt):List Stmt:=match s with
 | .FunctionDef _ _ b _ _ _ _ _ _ _=>b
 | _=>[]
def defScope (s:Stmt):Scope:=match s with
 | .FunctionDef _ _ _ _ _ _ sc _ _ _=>sc
 | _=>{ kind:=.function,names:=[],isGenerator:=false,isCoroutine:=false }
abbrev CX0:CXT:=fun _ _ _ _ _ _=>False
abbrev E0:XK:=fun _ _ _=>False
theorem pass0 {X:Cx}:Passes CX0 X E0:=fun _ _ _ _ _ _ _ h=>h.elim
structure Fun (K:PySem.W.Frag) (x qual:Str) (st:Stmt) (f:Addr) (fd:FuncData):Prop where
 ex:∃ (oc:Value) (od:Option Addr) (kV doc pm:Value) (an:Option Addr) (cdv ct:Value) (osl:Array (Option Value)),
  fd=PySem.W.fnOf x qual (defArgs st) (defBody st) (defScope st) .none kV doc pm an cdv ct/\K.lookup f=some ⟨oc,od,.func fd,osl⟩/\PySem.W.codeIn K cdv qual=true
 kp:PySem.W.keepIn K (.ref f)=true
section
variable {P:Program} {w:World} {K:PySem.W.Frag} {mg:Str->Option Value} {base:Heap}
theorem Fun.ok {x qual:Str} {st:Stmt} {f:Addr} {fd:FuncData} {N ps:List Str} {k:Nat} {sp:Sp} (F:Fun K x qual st f fd) (S:FnScope N ps (defScope st)) (len:∀ vs H Q E,sp vs H Q E->vs.length=ps.length)
  (hbody:∀ (cdv:Value) (A:Around) (outer:List Env) (s:Shared) (H:Hp) (vs:List V) (Q:VK) (E:XK),Room k (A.deeper (envOfC qual (defScope st) s.heap.objs.size f cdv))->sp vs H Q E ->
   ∃ t,PSs (cxOf CX0 P w K mg base N qual (defScope st) f cdv A outer s H E).nox (defBody st) t/\t { nx:=fun _ H'=>Q .non H',rt:=Q } (start N vs) H):FnOk P w K mg base CX0 (k+1) f fd ps sp:=by
 obtain ⟨oc,od,kV,doc,pm,an,cdv,ct,osl,rfl,lk,hcd⟩:=F.ex
 refine fn_of lk hcd S len fun A outer s H vs Q E hr hsp=>?_
 obtain ⟨t,h,q⟩:=hbody cdv A outer s H vs Q E hr hsp
 exact ⟨t,h.nox,q⟩
theorem Fun.binds {x qual:Str} {st:Stmt} {f:Addr} {fd:FuncData} {ps:List Str} (F:Fun K x qual st f fd)
  (h:∀ (kV doc pm:Value) (an:Option Addr) (cdv ct:Value) (us:List Value),us.length=ps.length->bindArgs (PySem.W.fnOf x qual (defArgs st) (defBody st) (defScope st) .none kV doc pm an cdv ct) ⟨us,[]⟩=pure (ps.zip us)):Binds K fd ps []:=by
 obtain ⟨oc,od,kV,doc,pm,an,cdv,ct,osl,rfl,lk,hcd⟩:=F.ex
 exact .all (h kV doc pm an cdv ct)
theorem fun_mk {x qual:Str} {st:Stmt} {f:Addr} {oc:Value} {od an:Option Addr} {osl:Array (Option Value)} {kV doc pm cdv ct:Value} (l:K.lookup f=some ⟨oc,od,.func (PySem.W.fnOf x qual (defArgs st) (defBody st) (defScope st) .none kV doc pm an cdv ct),osl⟩)
  (c:PySem.W.codeIn K cdv qual=true) (k:PySem.W.keepIn K (.ref f)=true):Fun K x qual st f (PySem.W.fnOf x qual (defArgs st) (defBody st) (defScope st) .none kV doc pm an cdv ct):=⟨⟨oc,od,kV,doc,pm,an,cdv,ct,osl,rfl,l,c⟩,k⟩
end
section
variable {X:Cx}
theorem pv (i:Nat) {x:Str} {pos:Pos} (hN:X.N[i]? = some x:=by rfl) (hv:Vis X.env.scope x:=by first | exact Or.inl rfl | exact Or.inr (Or.inl rfl) | exact Or.inr (Or.inr rfl)) (hd:(x == ("__debug__" : Str))=false:=by decide)
  (hcd:(x == ("__classdict__" : Str))=false:=by decide):PE X (.Name x pos) (tVar i):=pe_var hN hv hd hcd
end
theorem iteF {A B:Prop} (h:B):if false=true then A else B:=by
 rw [if_neg az]
 exact h
theorem ite2 {c A B:Prop} [Decidable c] (h1:c->A) (h2:¬ c->B):if c then A else B:=by
 by_cases h:c
 ·rw [if_pos h]
  exact h1 h
 ·rw [if_neg h]
  exact h2 h
def Same (H H':Hp):Prop:=∀ b o,H b=some o->H' b=some o
theorem Same.trans {H H1 H2:Hp} (a:Same H H1) (b:Same H1 H2):Same H H2:=fun c o h=>b c o (a c o h)
theorem Same.seq {K:PySem.W.Frag} {H H':Hp} {a:Addr} {xs:List V} (e:Same H H') (h:SqL K H a xs):SqL K H' a xs:=by
 rcases h with (h | ⟨o,h⟩) | h
 ·exact .inl (.inl (e _ _ h))
 ·exact .inl (.inr ⟨o,e _ _ h⟩)
 ·exact .inr h
end L2
namespace L2
open PySem PySem.Spec PyProof.Rows
theorem lk_mem {β:Type}:∀ {l:List (Str×β)} {x:Str} {k:β},l.lookup x=some k->(x,k)∈l
 | [],_,_,h=>by simp at h
 | (n,k')::r,x,k,h=>by
  rw [dF] at h
  cases e:x == n with
  | true =>
   rw [e] at h
   have e':x=n:=eq_of_beq e
   have h':some k'=some k:=h
   cases h'
   rw [e']
   exact ay
  | false =>
   rw [e] at h
   exact au _ (lk_mem h)
theorem lk_has {β:Type}:∀ {l:List (Str×β)} {x:Str} {k:β},(x,k)∈l->∃ k',l.lookup x=some k'
 | [],_,_,h=>by simp at h
 | (n,k')::r,x,k,h=>by
  rw [dF]
  cases e:x == n with
  | true=>exact ⟨k',rfl⟩
  | false =>
   rcases ar.mp h with q | q
   ·cases q
    simp at e
   ·exact lk_has q
def reK (env:Env) (x:Str) (k:NameKind):NameKind:=if (k == .free && env.scope.kind == .function && env.kindOf x == some .cell) then .cell else k
theorem lk_re {env:Env} {x:Str}:∀ {l:List (Str×NameKind)},
  (l.map fun (n,k)=>if (k == NameKind.free && env.scope.kind == .function && env.kindOf n == some .cell) then (n,NameKind.cell) else (n,k)).lookup x=(l.lookup x).map (reK env x)
 | []=>rfl
 | (n,k)::r=>by
  rw [bW]
  have ih:=@lk_re env x r
  have e0:(match ((n,k):Str×NameKind) with | (n,k)=>if (k == NameKind.free && env.scope.kind == .function && env.kindOf n == some .cell) then (n,NameKind.cell) else (n,k))=(n,reK env n k):=by
   show (if (k == NameKind.free && env.scope.kind == .function && env.kindOf n == some .cell)=true then (n,NameKind.cell) else (n,k))=(n,reK env n k)
   unfold reK
   split <;> rfl
  rw [e0,dF,dF]
  cases e:x == n with
  | true =>
   have e':x=n:=eq_of_beq e
   subst e'
   rfl
  | false=>exact ih
def clOf (cells:List (Str×Addr)):List (Str×NameKind)->List (Str×Addr)->List (Str×Addr)
 | [],acc=>acc
 | (n,k)::r,acc=>if k == .free then clOf cells r ((n,(cells.lookup n).getD 0)::acc) else clOf cells r acc
theorem clOf_sub {cells:List (Str×Addr)}:∀ {l:List (Str×NameKind)} {acc:List (Str×Addr)},(∀ y∈l,y.2 = .free->∃ c,cells.lookup y.1=some c)->(∀ p∈acc,cells.lookup p.1=some p.2) ->
  ∀ p∈clOf cells l acc,cells.lookup p.1=some p.2
 | [],acc,_,ha,p,hp=>ha p hp
 | (n,k)::r,acc,hl,ha,p,hp=>by
  unfold clOf at hp
  have hl':∀ y∈r,y.2 = .free->∃ c,cells.lookup y.1=some c:=fun y hy=>hl y (au _ hy)
  cases hk:k == NameKind.free with
  | true =>
   rw [hk,if_pos rfl] at hp
   refine clOf_sub hl' (fun q hq=>?_) p hp
   rcases ar.mp hq with e | e
   ·subst e
    obtain ⟨c,e⟩:=hl (n,k) ay (eq_of_beq hk)
    show cells.lookup n=some ((cells.lookup n).getD 0)
    rw [show cells.lookup n=some c from e]
    rfl
   ·exact ha q e
  | false =>
   rw [hk,if_neg az] at hp
   exact clOf_sub hl' ha p hp
theorem clOf_acc {cells:List (Str×Addr)}:∀ {l:List (Str×NameKind)} {acc:List (Str×Addr)} {p:Str×Addr},p∈acc->p∈clOf cells l acc
 | [],_,_,h=>h
 | (n,k)::r,acc,p,h=>by
  unfold clOf
  split
  ·exact clOf_acc (au _ h)
  ·exact clOf_acc h
theorem clOf_has {cells:List (Str×Addr)}:∀ {l:List (Str×NameKind)} {acc:List (Str×Addr)} {x:Str},(x,NameKind.free)∈l->∃ c,(x,c)∈clOf cells l acc
 | [],_,_,h=>by simp at h
 | (n,k)::r,acc,x,h=>by
  unfold clOf
  rcases ar.mp h with e | e
  ·cases e
   rw [if_pos (by rfl)]
   exact ⟨_,clOf_acc ay⟩
  ·split
   ·exact clOf_has e
   ·exact clOf_has e
theorem closure_is {env:Env}:∀ {l:List (Str×NameKind)} {acc:List (Str×Addr)},(∀ y∈l,y.2 = .free->∃ c,env.cells.lookup y.1=some c) ->
  (forIn l acc (fun (x:Str×NameKind) (r:List (Str×Addr))=>(if (x.2 == NameKind.free)=true then do let c ← cellOf env x.1;pure (ForInStep.yield ((x.1,c)::r)) else pure (ForInStep.yield r):Sem _)))=pure (clOf env.cells l acc)
 | [],_,_=>rfl
 | (n,k)::r,acc,hl=>by
  have hl':∀ y∈r,y.2 = .free->∃ c,env.cells.lookup y.1=some c:=fun y hy=>hl y (au _ hy)
  rw [List.forIn_cons]
  unfold clOf
  cases hk:k == NameKind.free with
  | true =>
   obtain ⟨c,e⟩:=hl (n,k) ay (eq_of_beq hk)
   have e':env.cells.lookup n=some c:=e
   simp only [hk,if_true]
   rw [show cellOf env n=pure c by unfold cellOf;rw [e']]
   simp only [pure_bind]
   rw [closure_is hl',e']
   rfl
  | false =>
   simp only [hk,cT,if_false,pure_bind]
   exact closure_is hl'
theorem clOf_free {cells:List (Str×Addr)}:∀ {l:List (Str×NameKind)} {acc:List (Str×Addr)} {p:Str×Addr},p∈clOf cells l acc->p∈acc\/(p.1,NameKind.free)∈l
 | [],_,_,h=>.inl h
 | (n,k)::r,acc,p,h=>by
  unfold clOf at h
  split at h
  ·rename_i hk
   rcases clOf_free h with z | z
   ·rcases ar.mp z with e | e
    ·subst e
     rw [eq_of_beq hk]
     exact .inr ay
    ·exact .inl e
   ·exact .inr (au _ z)
  ·exact (clOf_free h).imp id (au _)
theorem cf_mem:∀ {l:List (Str×NameKind)} {n:Nat} {acc:List (Str×Addr)} {p:Str×Addr},p∈cellsFrom n l acc->p∈acc\/(n<=p.2/\(p.1,NameKind.cell)∈l)
 | [],_,_,_,h=>.inl h
 | (x,k)::r,n,acc,p,h=>by
  unfold cellsFrom at h
  split at h
  ·rename_i hk
   rcases cf_mem h with z | z
   ·rcases ar.mp z with e | e
    ·subst e
     rw [eq_of_beq hk]
     exact .inr ⟨aj _,ay⟩
    ·exact .inl e
   ·exact .inr ⟨cN z.1,au _ z.2⟩
  ·exact (cf_mem h).imp id fun z=>⟨z.1,au _ z.2⟩
theorem cf_acc:∀ {l:List (Str×NameKind)} {n:Nat} {acc:List (Str×Addr)} {p:Str×Addr},p∈acc->p∈cellsFrom n l acc
 | [],_,_,_,h=>h
 | (x,k)::r,n,acc,p,h=>by
  unfold cellsFrom
  split
  ·exact cf_acc (au _ h)
  ·exact cf_acc h
theorem cf_has:∀ {l:List (Str×NameKind)} {n:Nat} {acc:List (Str×Addr)} {x:Str},(x,NameKind.cell)∈l->∃ c,(x,c)∈cellsFrom n l acc
 | [],_,_,_,h=>by simp at h
 | (y,k)::r,n,acc,x,h=>by
  unfold cellsFrom
  rcases ar.mp h with e | e
  ·cases e
   rw [if_pos (by rfl)]
   exact ⟨_,cf_acc ay⟩
  ·split <;> exact cf_has e
theorem cf_inj:∀ {l:List (Str×NameKind)} {n:Nat} {acc:List (Str×Addr)},(∀ p∈acc,p.2<n)->(∀ x y c,(x,c)∈acc->(y,c)∈acc->x=y)->∀ x y c,(x,c)∈cellsFrom n l acc->(y,c)∈cellsFrom n l acc->x=y
 | [],_,_,_,h=>h
 | (z,k)::r,n,acc,hl,h=>by
  unfold cellsFrom
  split
  ·refine cf_inj (fun p hp=>?_) fun x y c hx hy=>?_
   ·rcases ar.mp hp with e | e
    ·subst e
     exact Nat.lt_succ_self _
    ·exact gH (hl p e)
   ·rcases ar.mp hx with e | e <;> rcases ar.mp hy with e' | e'
    ·cases e;cases e';rfl
    ·cases e
     exact absurd (hl _ e') (bQ _)
    ·cases e'
     exact absurd (hl _ e) (bQ _)
    ·exact h x y c e e'
  ·exact cf_inj hl h
theorem cf_cell:∀ {l:List (Str×NameKind)} {h:Heap} {acc:List (Str×Addr)} {p:Str×Addr},p∈cellsFrom h.objs.size l acc->p∈acc\/(pushCells h l).IsCell p.2 none
 | [],_,_,_,q=>.inl q
 | (x,k)::r,h,acc,p,q=>by
  unfold cellsFrom at q
  unfold pushCells
  split at q
  ·rename_i hk
   rw [if_pos hk]
   rw [← Heap.size_push h { cls:=.type "cell",data:=.cell none }] at q
   rcases cf_cell q with z | z
   ·rcases ar.mp z with e | e
    ·subst e
     exact .inr ⟨_,pushCells_keeps _ _ _ _ (Heap.get?_push_size _ rfl),rfl⟩
    ·exact .inl e
   ·exact .inr z
  ·rename_i hk
   rw [if_neg hk]
   exact cf_cell q
theorem cs_mem {cells:List (Str×Addr)} {names:List (Str×NameKind)} {n:Nat} {x:Str} {c:Addr} (hfr:∀ y∈names,y.2 = .free->∃ c,cells.lookup y.1=some c) (h:(x,c)∈cellsFrom n names (clOf cells names [])) :
  (cells.lookup x=some c/\(x,NameKind.free)∈names)\/(n<=c/\(x,NameKind.cell)∈names):=by
 rcases cf_mem h with z | z
 ·refine .inl ⟨clOf_sub hfr (fun _ z=>absurd z bh) (x,c) z,?_⟩
  rcases clOf_free z with w | w
  ·exact absurd w bh
  ·exact w
 ·exact .inr z
theorem newEnvC {M:Model} {A:Around} {E:Value->Shared->Prop} {s:Shared} {scope:Scope} {g:Addr} {cl:List (Str×Addr)} {qual:Str} {env:Env} {Q:Env->Shared->Prop}
  (h:Q (newEnv scope s.heap.objs.size g (cellsFrom (s.heap.objs.size+1) scope.names cl) qual none .none (some env) builtinsNs) { s with heap:=pushCells (s.heap.push { cls:=.type "dict",data:=.dict #[] }) scope.names }) :
  wpAny M A (newFunctionEnv scope g cl [] qual none .none (some env)) Q E s:=by
 simp only [newFunctionEnv,Option.isSome_some,if_true]
 refine wpAny_bind (wpAny_alloc ?_)
 refine wpAny_bind (wpAny_layCells _ (fun name kind cells=>by cases hkc:kind == NameKind.cell <;> simp [hkc]) _ _ _ _ ?_)
 rw [show ({ s with heap:=s.heap.push { cls:=.type "dict",data:=.dict #[] } }:Shared).heap.objs.size=s.heap.objs.size+1 from Heap.size_push ..]
 refine wpAny_bind ?_
 rw [List.forIn_nil]
 exact wpAny_pure (wpAny_pure h)
def hideS (hide:List Nat) (σ:St):St:=hide.foldl (fun s i=>s.set i none) σ
theorem hideS_len:∀ {hide:List Nat} {σ:St},(hideS hide σ).length=σ.length
 | [],_=>rfl
 | i::r,σ=>by
  show (hideS r (σ.set i none)).length=_
  rw [hideS_len,aX]
theorem hideS_get:∀ {hide:List Nat} {σ:St} {i:Nat} {v:V},(hideS hide σ)[i]? = some (some v)->i ∉ hide/\σ[i]? = some (some v)
 | [],_,_,_,h=>⟨by simp,h⟩
 | j::r,σ,i,v,h=>by
  obtain ⟨h1,h2⟩:=hideS_get (hide:=r) (σ:=σ.set j none) h
  by_cases e:j=i
  ·subst e
   by_cases hl:j<σ.length
   ·rw [dN hl] at h2
    cases h2
   ·rw [bq (by simp;omega)] at h2
    cases h2
  ·rw [aD e] at h2
   exact ⟨by simp [h1,Ne.symm e],h2⟩
def cCx (X:Cx) (scope:Scope) (s2:Shared) (H2:Hp) (fp:List Addr) (pins:List (Addr×Obj)) (C:Addr):Cx where
 prog:=X.prog
 w:=X.w
 K:=X.K
 mg:=X.mg
 base:=X.base
 A:=X.A
 N:=X.N
 s₀:=s2
 H₀:=H2
 env:=compEnvC scope (cellsFrom (C+1) scope.names (clOf X.env.cells scope.names [])) C X.env
 outer:=X.stack
 stack:=X.stack
 ex:=fp
 fn:=fun x=>scope.names.lookup x == some .cell
 calm:=X.calm
 pn:=X.pn++pins
 xe:=fun _ _=>False
structure CompS (N:List Str) (out:Scope) (scope:Scope) (hide:List Nat):Prop where
 kind:scope.kind = .function
 one:∀ y∈scope.names,scope.names.lookup y.1=some y.2
 free:∀ y∈scope.names,y.2 = .free->out.names.lookup y.1=some .cell\/out.names.lookup y.1=some .free
 loc:∀ y∈scope.names,y.2 = .local->scope.names.lookup y.1=some .local
 own:∀ (i:Nat),i<N.length->(scope.names.lookup (N.getD i "")=some .local\/scope.names.lookup (N.getD i "")=some .cell)->i∈hide
section
variable {X:Cx} {pins:List (Addr×Obj)} {σ:St} {H:Hp} {s:Shared}
theorem cOk {scope:Scope} {hide:List Nat} (S:CompS X.N X.env.scope scope hide) {fp:List Addr} {C:Addr} (I:Inv X pins σ H s) (hf:∀ b∈fp,FpOk X pins H b) (hfo:∀ b∈fp,∃ o,s.heap.get? b=some o)
  (hC:s.heap.objs.size<=C):(cCx X scope s H fp pins C).Ok:=by
 have hfr:∀ y∈scope.names,y.2 = .free->∃ c,X.env.cells.lookup y.1=some c:=fun y hy e=>I.ok.has y.1 (S.free y hy e)
 have old:∀ x c,X.env.cells.lookup x=some c->c<s.heap.objs.size:=fun x c e=>by
  obtain ⟨v,o,ho,_⟩:=I.cell x c e
  exact Heap.lt_size ho
 have cl:∀ p∈clOf X.env.cells scope.names [],X.env.cells.lookup p.1=some p.2:=clOf_sub hfr fun _ z=>absurd z bh
 refine ⟨I.ok.mod,S.kind,I.ok.glob,I.ok.blt,hC,fun x y c e1 e2=>cf_inj (fun p hp=>gH (aA (old _ _ (cl p hp)) hC)) (fun x y c h1 h2=>I.ok.inj x y c (cl _ h1) (cl _ h2)) x y c (lk_mem e1) (lk_mem e2),fun x hx=>?_,fun x c h e=>?_,I.ok.hd,I.ok.frames,.inl rfl,fun b hb=>⟨?_,fun x c e=>?_⟩,I.bs,
  aB I.ok.bsz I.sz,fun b o e hb=>?_,fun b hb z=>?_,I.stack,I.stkFree,I.ok.sr,I.ok.rn⟩
 ·have hx':((scope.names.lookup x).map (reK X.env x)=some .cell)\/((scope.names.lookup x).map (reK X.env x)=some .free):=by
   rw [← lk_re]
   exact hx
  cases q:scope.names.lookup x with
  | none=>rw [q] at hx';rcases hx' with z | z <;> cases z
  | some k =>
   have mem:=lk_mem q
   have kf:k = .free\/k = .cell:=by
    rw [q] at hx'
    have hx2:reK X.env x k = .cell\/reK X.env x k = .free:=hx'.imp Option.some.inj Option.some.inj
    unfold reK at hx2
    by_cases c:(k == NameKind.free && X.env.scope.kind == .function && X.env.kindOf x == some .cell)=true
    ·simp only [aV,beq_iff_eq] at c
     exact .inl c.1.1
    ·rw [if_neg c] at hx2
     exact hx2.symm
   rcases kf with kf | kf
   ·subst kf
    obtain ⟨c,hc⟩:=clOf_has (cells:=X.env.cells) (acc:=[]) mem
    exact lk_has (cf_acc hc)
   ·subst kf
    obtain ⟨c,hc⟩:=cf_has (n:=C+1) (acc:=clOf X.env.cells scope.names []) mem
    exact lk_has hc
 ·have h:scope.names.lookup x=some .cell:=eq_of_beq h
  rcases cs_mem hfr (lk_mem e) with ⟨_,z⟩ | ⟨z,_⟩
  ·rw [S.one _ z] at h
   cases h
  ·exact aB hC (cN z)
 ·obtain ⟨o,e⟩:=hfo b hb
  exact aM (aA (Heap.lt_size e) hC)
 ·obtain ⟨o,e'⟩:=hfo b hb
  rcases cs_mem hfr (lk_mem e) with ⟨z,_⟩ | ⟨z,_⟩
  ·exact (hf b hb).2.2.2.2.1 x c z
  ·exact dP (aA (Heap.lt_size e') (aB hC (cN z)))
 ·rcases (hf b hb).2.2.2.1 with z | z
  ·exact I.ok.noex b o e z
  ·exact absurd (aA (Heap.lt_size (I.ok.bs b o e).1) z) (bQ _)
 ·rcases ar.mp (I.stkSub b z) with q | q
  ·exact (hf b hb).2.1 q
  ·exact (hf b hb).2.2.1 q
theorem I_stk (I:Inv X pins σ H s) {a:Addr} (h:s.heap.objs.size<=a):a ∉ frs X.stack:=fun z=>by
 rcases ar.mp (I.stkSub a z) with q | q
 ·exact absurd (aA I.lt (by rw [← q];exact h)) (bQ _)
 ·exact I.nofs h q
theorem cInv {scope:Scope} {hide:List Nat} (S:CompS X.N X.env.scope scope hide) {fp:List Addr} {C D:Addr} {h4:Heap} {tk:Nat} {ob:Obj} {m:Str->Option Value} (I:Inv X pins σ H s) (hf:∀ b∈fp,FpOk X pins H b) (hfo:∀ b∈fp,∃ o,s.heap.get? b=some o)
  (hC:s.heap.objs.size<=C) (hD:s.heap.objs.size<=D) (hDC:D≠C) (k:∀ b u,s.heap.get? b=some u->h4.get? b=some u) (hcl:∀ p∈cellsFrom (C+1) scope.names (clOf X.env.cells scope.names []),p∈clOf X.env.cells scope.names []\/h4.IsCell p.2 none) (hn:h4.Ns C m) (hDo:h4.get? D=some ob) (hob:∀ v,ob.data ≠ .cell v) :
  Inv (cCx X scope s H fp pins C) [(D,ob)] (hideS hide σ) H { s with heap:=h4,toks:=tk }:=by
 have ok:=cOk S I hf hfo hC
 have hfr:∀ y∈scope.names,y.2 = .free->∃ c,X.env.cells.lookup y.1=some c:=fun y hy e=>I.ok.has y.1 (S.free y hy e)
 have sub:∀ x c,(x,c)∈clOf X.env.cells scope.names []->X.env.cells.lookup x=some c:=fun x c e=>clOf_sub hfr (fun _ z=>absurd z bh) (x,c) e
 have ck:∀ c v,s.heap.IsCell c v->h4.IsCell c v:=fun c v ⟨o,ho,hd⟩=>⟨o,k c o ho,hd⟩
 refine ⟨ok,rfl,I.bare,Un.kept k,⟨m,hn,fun i x v e1 e2 e3=>?_⟩,fun x c e=>?_,I.hok.fresh hC,fun x c e=>?_,fun p hp=>?_,I.hok.kept k,hideS_len.trans I.len⟩
 ·obtain ⟨n1,n2⟩:=hideS_get e2
  have e3':((scope.names.lookup x).map (reK X.env x)=some .local)\/((scope.names.lookup x).map (reK X.env x)=some .cell)\/((scope.names.lookup x).map (reK X.env x)=some .free):=by
   rw [← lk_re]
   exact e3
  cases q:scope.names.lookup x with
  | none=>rw [q] at e3';rcases e3' with z | z | z <;> cases z
  | some kd =>
   rw [q] at e3'
   have e4:reK X.env x kd = .local\/reK X.env x kd = .cell\/reK X.env x kd = .free:=e3'.imp Option.some.inj fun z=>z.imp Option.some.inj Option.some.inj
   have mem:=lk_mem q
   by_cases kl:kd = .local\/kd = .cell
   ·have hi:X.N[i]? = some x:=e1
    obtain ⟨hlt,hge⟩:=ak.mp hi
    refine absurd (S.own i hlt ?_) n1
    rw [ac,hi]
    exact kl.imp (fun z=>by rw [← z];exact q) fun z=>by rw [← z];exact q
   ·have kf:kd = .free:=by
     unfold reK at e4
     by_cases c:(kd == NameKind.free && X.env.scope.kind == .function && X.env.kindOf x == some .cell)=true
     ·simp only [aV,beq_iff_eq] at c
      exact c.1.1
     ·rw [if_neg c] at e4
      rcases e4 with z | z | z
      ·exact absurd (.inl z) kl
      ·exact absurd (.inr z) kl
      ·exact z
    subst kf
    have kx:=S.free _ mem rfl
    obtain ⟨m0,_,hl⟩:=I.loc
    obtain ⟨u,r,l⟩:=hl i x v e1 n2 (.inr kx)
    refine ⟨u,r,?_⟩
    rcases l with ⟨z,_⟩ | ⟨_,c,e,z⟩
    ·have z':X.env.scope.names.lookup x=some .local:=z
     rw [z'] at kx
     rcases kx with w | w <;> cases w
    ·obtain ⟨c',hc'⟩:=clOf_has (cells:=X.env.cells) (acc:=[]) mem
     obtain ⟨c2,hc2⟩:=lk_has (cf_acc (n:=C+1) (l:=scope.names) hc')
     have ec:c2=c:=by
      rcases cs_mem hfr (lk_mem hc2) with ⟨w,_⟩ | ⟨_,w⟩
      ·exact Option.some.inj (w.symm.trans e)
      ·have w1:=S.one _ w
       rw [q] at w1
       cases w1
     subst ec
     refine .inr ⟨?_,c2,hc2,ck c2 _ z⟩
     have e5:((relabel scope X.env).names.lookup x)=some (reK X.env x .free):=by
      show (List.map _ scope.names).lookup x=_
      rw [lk_re,q]
      rfl
     rcases e4 with w | w | w
     ·unfold reK at w
      split at w <;> cases w
     ·exact .inl (e5.trans (by rw [w]))
     ·exact .inr (e5.trans (by rw [w]))
 ·rcases hcl _ (lk_mem e) with w | w
  ·obtain ⟨v,z⟩:=I.cell x c (sub x c w)
   exact ⟨v,ck c v z⟩
  ·exact ⟨_,w⟩
 ·rcases cs_mem hfr (lk_mem e) with ⟨w,_⟩ | ⟨w,_⟩
  ·exact I.freeC x c w
  ·exact I.hok.fresh (aB hC (cN w))
 ·rcases b8.mp hp with z | z
  ·obtain ⟨e,n,ne,nf,d⟩:=I.pin p z
   refine ⟨k _ _ e,n,aM (aA (Heap.lt_size e) hC),fun y=>?_,d⟩
   rcases ar.mp (I.stkSub _ y) with q | q
   ·exact ne q
   ·exact nf q
  ·have e:p=(D,ob):=by simpa using z
   subst e
   exact ⟨hDo,I.hok.fresh hD,hDC,I_stk I hD,hob⟩
theorem cOut {scope:Scope} {fp:List Addr} {C D:Addr} {n:Nat} {its:List Value} {ys:List V} {pins':List (Addr×Obj)} {τ:St} {H':Hp} {s':Shared} (I:Inv X pins σ H s) (hf:∀ b∈fp,FpOk X pins H b)
  (hD:s.heap.objs.size<=D) (J:Inv (cCx X scope s H fp pins C) pins' τ H' s') (hp:(D,({ cls:=.type "list",data:=.seq its.toArray n }:Obj))∈pins') (hv:Vals ys its) (hz:ys.length<=sizeLine) :
  Inv X pins σ (upd H' D (.lst ys)) s':=by
 obtain ⟨eD,nD,_⟩:=J.pin _ (aP _ hp)
 have u:Un (frs X.stack) fp H H' s.heap s'.heap:=J.base
 have ne:∀ b o,s.heap.get? b=some o->b≠D:=fun b o e=>aM (aA (Heap.lt_size e) hD)
 have u':Un (frs X.stack) fp H (upd H' D (.lst ys)) s.heap s'.heap:=by
  refine ⟨u.keep,u.slot,fun b o e q hx=>?_,u.there,fun b xs e=>?_,fun b o v e=>?_,fun b ps e=>?_⟩
  ·rw [upd_ne (ne b o e)]
   exact u.free b o e q hx
  ·have q:=u.tups b xs e
   rw [upd_ne (ne_of_none q nD)]
   exact q
  ·have q:=u.frzs b o v e
   rw [upd_ne (ne_of_none q nD)]
   exact q
  ·obtain ⟨more,q⟩:=u.tbls b ps e
   refine ⟨more,?_⟩
   rw [upd_ne (ne_of_none q nD)]
   exact q
 have hok:HOk X.prog X.w (upd H' D (.lst ys)) s'.heap:=fun b o e=>by
  by_cases hb:b=D
  ·subst hb
   rw [upd_same] at e
   cases e
   exact ⟨hz,its,n,hv,eD⟩
  ·rw [upd_ne hb] at e
   exact (J.hok b o e).stay (fun _ _ _ q=>q) (fun c q=>by rw [upd_ne (ne_of_none q nD)];exact q) fun c xs q=>by rw [upd_ne (ne_of_none q nD)];exact q
 refine I.call' (show s'.os=s.os from J.os) u' hok J.bare fun b hb=>?_
 obtain ⟨f0,f1,f2,f3,f4,f5⟩:=hf b hb
 exact ⟨f3,f1,f4,f5⟩
end
abbrev lObj (its:List Value) (n:Nat):Obj:={ cls:=.type "list",data:=.seq its.toArray n }
def PTs (X:Cx) (ifs:List Expr) (t:TT):Prop :=
 ∀ (pins:List (Addr×Obj)) (s:Shared) (σ:St) (H:Hp) (Q:Bool->Hp->Prop),Inv X pins σ H s->t σ H Q ->
  wpAny (model X.prog X.w) X.A (forIn ifs true fun c r=>if r=true then do let ok ← isTrue c X.env (eval c X.env);pure (ForInStep.yield ok) else pure (ForInStep.yield r)) (TP X pins σ Q) X.xe s
def tYes:TT:=fun _ H Q=>Q true H
theorem pts_nil {X:Cx}:PTs X [] tYes:=fun _ _ _ H _ I h=>wpAny_tests_nil ⟨H,I,h⟩
theorem pts_one {X:Cx} {c:Expr} {t:TT} (hc:PT X c t):PTs X [c] t:=fun pins s σ H Q I h=>wpAny_tests_one (hc pins s σ H Q I h)
theorem cLoop {Y:Cx} {tg iter elt:Expr} {ifs:List Expr} {scope:Scope} {pos:Pos} {g:TG} {te:TE} {tt:TT} {J:It} {fp:List Addr} {it D:Addr} {tn:Nat->Heap->Prop} {R:Result->Shared->Prop}
  {W:Nat->Nat->St->List V->Hp->Prop} {Z:List V->Hp->Prop} {s:Shared} {σ:St} {H:Hp} {m n0:Nat}
  (T:Turn Y.prog Y.w Y.K tg J fp it tn) (hc:Y.calm=true) (hg:PG Y tg g) (ht:PTs Y ifs tt) (he:PE Y elt te) (hx:∀ e s,Y.xe e s->False)
  (stat:∀ ob H',(∀ b∈fp,H' b=none)->∀ b∈fp,FpOk Y [(D,ob)] H' b) (hDs:Y.s₀.heap.objs.size<=D) (hDc:∀ x c,Y.env.cells.lookup x=some c->c≠D) (hDp:∀ p∈Y.pn,p.1≠D)
  (turn:∀ k m τ ys H,W k m τ ys H->(J.stop k H/\Z ys H)\/(J.go k H/\ys.length<sizeLine/\∀ x H',J.yld k H x H'->g x τ H' fun τ2 H2=>tt τ2 H2 fun b H3 =>
   if b=true then te τ2 H3 fun v H4=>∃ m',m'<m/\W (k+1) m' τ2 (ys++[v]) H4 else ∃ m',m'<m/\W (k+1) m' τ2 ys H3))
  (out:∀ (τ:St) (H':Hp) (s':Shared) (ys:List V) (its:List Value) (n:Nat),Inv Y [(D,lObj its n)] τ H' s'->Vals ys its->ys.length<=sizeLine->Z ys H'->R (.ok .next) s')
  (I:Inv Y [(D,lObj [] n0)] σ H s) (st:tn 0 s.heap) (fr:∀ b∈fp,H b=none) (w0:W 0 m σ [] H) :
  codeAny (model Y.prog Y.w) Y.A (.compLoop (.ListComp elt [⟨tg,iter,ifs,0⟩] scope pos) 0 (.ref it) (.ref D) Y.env) R s:=by
 refine codeAny_loop rfl (fun m s'=>∃ k τ H' ys its n,Inv Y [(D,lObj its n)] τ H' s'/\tn k s'.heap/\(∀ b∈fp,H' b=none)/\Vals ys its/\ys.length<=sizeLine/\W k m τ ys H') (fun m1 s1 h1=>?_) m ⟨0,σ,H,[],[],n0,I,st,fr,.nil,aC _,w0⟩
 obtain ⟨k,τ,H1,ys,its,n,I1,st1,fr1,rv,hz,w1⟩:=h1
 have no:∀ {E:Value->Shared->Prop} {α:Type} {c:Sem α} {Q:α->Shared->Prop} {s:Shared},wpAny (model Y.prog Y.w) Y.A c Q Y.xe s->wpAny (model Y.prog Y.w) Y.A c Q E s:=fun {E α c Q s} h=>wpAny_mono h (fun _ _ q=>q) fun e s' q=>(hx e s' q).elim
 show wpAny _ Y.A ((compTurn (.ListComp elt [⟨tg,iter,ifs,0⟩] scope pos) 0 (.ref it) (.ref D) Y.env).onRaise _) _ _ s1
 refine wpAny_noted ?_
 rw [compTurn_list]
 refine wpAny_bind (wpAny_standAt (wpAny_bind ?_))
 rcases turn k m1 τ ys H1 w1 with ⟨stop,z⟩ | ⟨go,hlt,step⟩
 ·refine thn (T.done Y rfl rfl rfl hc k _ s1 τ H1 _ I1 (stat _ _ fr1) st1 stop) fun r s2 ⟨hr,I2⟩=>?_
  subst hr
  exact wpAny_pure (out τ H1 s2 ys its n I2 rv hz z)
 ·refine thn (T.item Y rfl rfl rfl hc k _ s1 τ H1 _ I1 (stat _ _ fr1) st1 go) fun r s2 ⟨u,hr,h2⟩=>?_
  subst hr
  refine wpAny_bind (thn h2 fun _ s3 ⟨x,H3,I3,r3,y3,st3,fr3⟩=>?_)
  have I3':=I3.pinned (stat _ _ fr3) (T.obj _ _ st3)
  refine wpAny_bind (no (thn (hg _ s3 τ H3 x u _ I3' r3 (step x H3 y3)) fun _ s4 ⟨τ4,H4,I4,q4⟩=>?_))
  refine wpAny_bind (no (thn (ht _ s4 τ4 H4 _ I4 q4) fun ok s5 ⟨H5,I5,q5⟩=>?_))
  have frs5:∀ {H':Hp} {s':Shared} {τ':St},Inv Y ([(D,lObj its n)]++pinsAt fp s3.heap) τ' H' s'->tn (k+1) s'.heap/\∀ b∈fp,H' b=none:=fun {H' s' τ'} I'=>by
   refine ⟨T.keep _ _ _ st3 fun b hb o e=>(I'.pin (b,o) (aP _ (aP _ (mem_pinsAt hb e)))).1,fun b hb=>?_⟩
   obtain ⟨o,e,d⟩:=T.obj _ _ st3 b hb
   exact (I'.pin (b,o) (aP _ (aP _ (mem_pinsAt hb e)))).2.1
  cases ok with
  | false =>
   have q5':∃ m',m'<m1/\W (k+1) m' τ4 ys H5:=q5
   obtain ⟨m',hm,w5⟩:=q5'
   obtain ⟨a1,a2⟩:=frs5 I5
   exact wpAny_pure ⟨rfl,m',hm,k+1,τ4,H5,ys,its,n,I5.unpinned,a1,a2,rv,hz,w5⟩
  | true =>
   have q5':te τ4 H5 fun v H4=>∃ m',m'<m1/\W (k+1) m' τ4 (ys++[v]) H4:=q5
   refine wpAny_bind (wpAny_bind (no (thn (he _ s5 τ4 H5 _ I5 q5') fun v s6 ⟨y,H6,I6,r6,m',hm,w6⟩=>?_)))
   obtain ⟨a1,a2⟩:=frs5 I6
   have I7:=I6.unpinned
   obtain ⟨eD,nD,neD,nfD,_⟩:=I7.pin (D,lObj its n) (aP _ ay)
   have hlen:=rv.length
   have eD':s6.heap.get? D=some { cls:=.type "list",data:=.seq its.toArray n }:=eD
   refine wpAny_bind (call_meets F.slot_list_append ⟨_,eD',rfl⟩ F.entry_list_append (F.args_list_append_2 _ _) (PySem.list_append D its.toArray n v (by rw [ai];omega)) ⟨eD',?_⟩)
   have qD:=PySem.IsL.update eD' (·.push v)
   have I8:Inv Y [] τ4 H6 s6:=I7.pins_of fun p hp=>absurd hp bh
   have I9:Inv Y [] τ4 H6 { s6 with heap:=s6.heap.update D (Obj.mapSeq (·.push v)) }:=I8.turned (t':=s6.toks) (fun b o hb e=>(Heap.get?_update_other s6.heap (Obj.mapSeq (·.push v)) (Ne.symm hb)).trans e) nD neD (.inr hDs) hDc fun p hp=>hDp p (by simpa using hp)
   have ep:its.toArray.push v=(its++[v]).toArray:=by simp
   rw [ep] at qD
   obtain ⟨n2,qD⟩:∃ n2,(s6.heap.update D (Obj.mapSeq (·.push v))).get? D=some (lObj (its++[v]) n2):=⟨_,qD⟩
   have I10:Inv Y [(D,lObj (its++[v]) n2)] τ4 H6 { s6 with heap:=s6.heap.update D (Obj.mapSeq (·.push v)) }:=I9.pins_of fun p hp=>by
    have e:p=(D,lObj (its++[v]) n2):=by simpa using hp
    subst e
    exact ⟨qD,nD,neD,nfD,fun v z=>by have z':Data.seq _ _=Data.cell v:=z;cases z'⟩
   refine wpAny_pure (wpAny_pure ⟨rfl,m',hm,k+1,τ4,H6,ys++[y],its++[v],_,I10,?_,a2,rv.append (.cons r6 .nil),?_,w6⟩)
   ·refine T.keep _ _ _ a1 fun b hb o e=>(Heap.get?_update_other s6.heap (Obj.mapSeq (·.push v)) ?_).trans e
    have f5:=(stat (lObj its n) H6 a2 b hb).2.2.2.2.2
    exact f5 (D,lObj its n) (aP _ ay)
   ·rw [av,fJ]
    omega
theorem closure_of {scope:Scope} {env:Env} (h:∀ y∈scope.names,y.2 = .free->∃ c,env.cells.lookup y.1=some c):closureFor scope env=pure (clOf env.cells scope.names []):=by
 have q:=closure_is (env:=env) (acc:=[]) h
 unfold closureFor
 show (forIn scope.names [] _ >>= fun r=>pure r)=_
 refine Eq.trans (congrArg (· >>= fun r=>pure r) (Eq.trans ?_ q)) (by simp)
 refine congrArg (forIn scope.names []) ?_
 funext x r
 obtain ⟨n,k⟩:=x
 first
  | rfl
  | (dsimp only;split <;> simp)
def CompR (J:It) (g:TG) (tt:TT) (te:TE) (σ:St) (Q:VK) (H1:Hp):Prop:=∃ W:Nat->Nat->St->List V->Hp->Prop,(∃ m,W 0 m σ [] H1) /\
 ∀ k m τ ys H,W k m τ ys H->(J.stop k H/\∀ D,H D=none->Q (.ref D) (upd H D (.lst ys)))\/(J.go k H/\ys.length<sizeLine/\∀ x H',J.yld k H x H'->g x τ H' fun τ2 H2=>tt τ2 H2 fun b H3 =>
   if b=true then te τ2 H3 fun v H4=>∃ m',m'<m/\W (k+1) m' τ2 (ys++[v]) H4 else ∃ m',m'<m/\W (k+1) m' τ2 ys H3)
def tComp (wi:TI) (hide:List Nat) (g:TG) (tt:TT) (te:TE):TE:=fun σ H Q=>wi σ H fun J H1=>CompR J g tt te (hideS hide σ) Q H1
theorem cBlock {X:Cx} {pins:List (Addr×Obj)} {σ:St} {H:Hp} {s:Shared} {elt tg iter:Expr} {ifs:List Expr} {scope:Scope} {pos:Pos} {hide:List Nat} {g:TG} {te:TE} {tt:TT} {J:It} {fp:List Addr} {it:Addr} {tn:Nat->Heap->Prop} {RR:Value->Addr->Result->Shared->Prop} {Q:VK} {E:Value->Shared->Prop}
  (hc:X.calm=true) (S:CompS X.N X.env.scope scope hide)
  (hg:∀ s2 H2 fp pins C,PG (cCx X scope s2 H2 fp pins C) tg g) (ht:∀ s2 H2 fp pins C,PTs (cCx X scope s2 H2 fp pins C) ifs tt) (he:∀ s2 H2 fp pins C,PE (cCx X scope s2 H2 fp pins C) elt te)
  (I:Inv X pins σ H s) (T:Turn X.prog X.w X.K tg J fp it tn) (st:tn 0 s.heap) (hf:∀ b∈fp,FpOk X pins H b)
  (h:∃ W:Nat->Nat->St->List V->Hp->Prop,(∃ m,W 0 m (hideS hide σ) [] H) /\
   ∀ k m τ ys H,W k m τ ys H->(J.stop k H/\∀ D,H D=none->Q (.ref D) (upd H D (.lst ys)))\/(J.go k H/\ys.length<sizeLine/\∀ x H',J.yld k H x H'->g x τ H' fun τ2 H2=>tt τ2 H2 fun b H3 =>
    if b=true then te τ2 H3 fun v H4=>∃ m',m'<m/\W (k+1) m' τ2 (ys++[v]) H4 else ∃ m',m'<m/\W (k+1) m' τ2 ys H3))
  (hRR:∀ D C s' ys H',Inv X pins σ (upd H' D (.lst ys)) s'->FpOk X pins (upd H' D (.lst ys)) C->(∃ m,s'.heap.Ns C m)->Q (.ref D) (upd H' D (.lst ys))->RR (.ref D) C (.ok .next) s') :
  wpAny (model X.prog X.w) X.A (newList []) (fun acc s3=>wpAny (model X.prog X.w) X.A (newFunctionEnv scope X.env.globals (clOf X.env.cells scope.names []) [] X.env.qual none .none (some X.env)) (fun cenv s4 =>
   codeAny (model X.prog X.w) X.A (.compStart (.ListComp elt [⟨tg,iter,ifs,0⟩] scope pos) 0 (.ref it) acc { cenv with scope:=relabel scope X.env }) (RR acc cenv.locals) s4) E s3) E s:=by
 obtain ⟨W,⟨m0,w0⟩,turn⟩:=h
 refine wpAny_newList (newEnvC ?_) (by simp)
 dsimp only
 generalize hH2:s.heap.push { cls:=.type "list",data:=.seq ([]:List Value).toArray }=H2
 have hC:H2.objs.size=s.heap.objs.size+1:=by rw [← hH2,Heap.size_push]
 have k2:∀ b o,H2.get? b=some o->(pushCells (H2.push { cls:=.type "dict",data:=.dict #[] }) scope.names).get? b=some o:=fun b o e=>pushCells_keeps _ _ b o (Heap.get?_push_of_some _ e)
 have hcl:∀ p∈cellsFrom (H2.objs.size+1) scope.names (clOf X.env.cells scope.names []),p∈clOf X.env.cells scope.names []\/(pushCells (H2.push { cls:=.type "dict",data:=.dict #[] }) scope.names).IsCell p.2 none:=fun p hp=>by
  rw [← Heap.size_push H2 { cls:=.type "dict",data:=.dict #[] }] at hp
  exact cf_cell hp
 have hns₁:(pushCells (H2.push { cls:=.type "dict",data:=.dict #[] }) scope.names).Ns H2.objs.size fun _=>none:=(Heap.Ns.new H2 (.type "dict")).keeps (pushCells_keeps _ _)
 generalize pushCells (H2.push { cls:=.type "dict",data:=.dict #[] }) scope.names=h₁ at k2 hcl hns₁ ⊢
 have k1:∀ b o,s.heap.get? b=some o->h₁.get? b=some o:=fun b o e=>k2 b o (hH2 ▸ Heap.get?_push_of_some _ e)
 have hDC:s.heap.objs.size≠H2.objs.size:=by rw [hC];exact aM (Nat.lt_succ_self _)
 have eD:h₁.get? s.heap.objs.size=some (lObj [] 0):=k2 _ _ (hH2 ▸ Heap.get?_push_size _ rfl)
 have hfo:∀ b∈fp,∃ o,s.heap.get? b=some o:=fun b hb=>let ⟨o,e,_⟩:=T.obj _ _ st b hb;⟨o,e⟩
 have hle:s.heap.objs.size<=H2.objs.size:=by rw [hC];exact gg _
 have I1:=cInv (tk:=s.toks) S I hf hfo hle (aj _) hDC k1 hcl hns₁ eD (fun v z=>by have z':Data.seq _ _=Data.cell v:=z;cases z')
 have sub:∀ x c,(cellsFrom (H2.objs.size+1) scope.names (clOf X.env.cells scope.names [])).lookup x=some c->X.env.cells.lookup x=some c\/H2.objs.size+1<=c:=fun x c e=>(cs_mem (fun y hy e=>I.ok.has y.1 (S.free y hy e)) (lk_mem e)).imp (·.1) (·.1)
 have st1:tn 0 h₁:=T.keep _ _ _ st fun b _ o e=>k1 b o e
 have lp:codeAny (model X.prog X.w) X.A (.compLoop (.ListComp elt [⟨tg,iter,ifs,0⟩] scope pos) 0 (.ref it) (.ref s.heap.objs.size) (compEnvC scope (cellsFrom (H2.objs.size+1) scope.names (clOf X.env.cells scope.names [])) H2.objs.size X.env)) (RR (.ref s.heap.objs.size) H2.objs.size)
   { s with heap:=h₁ }:=by
  refine cLoop (Y:=cCx X scope s H fp pins H2.objs.size) (Z:=fun ys H=>∀ D,H D=none->Q (.ref D) (upd H D (.lst ys))) T hc (hg _ _ _ _ _) (ht _ _ _ _ _) (he _ _ _ _ _) (fun _ _ z=>z) (fun ob H' hn b hb=>?_) (aj _) (fun x c e z=>?_) (fun p hp z=>?_) turn (fun τ H' s' ys its n J rv hz q=>?_) I1 st1 (fun b hb=>(hf b hb).1) w0
  ·obtain ⟨f0,f1,f2,f3,f4,f5⟩:=hf b hb
   obtain ⟨o,e⟩:=hfo b hb
   have lb:=Heap.lt_size e
   refine ⟨hn b hb,aM (aA lb hle),fun z=>?_,.inl hb,fun x c e=>(sub x c e).elim (f4 x c) fun z=>dP (aA lb (aB hle (cN z))),fun p hp=>?_⟩
   ·rcases ar.mp (I.stkSub b z) with q | q
    ·exact f1 q
    ·exact f2 q
   ·rcases b8.mp hp with z | z
    ·exact f5 p z
    ·have e:p=(s.heap.objs.size,ob):=by simpa using z
     subst e
     exact dP lb
  ·rcases sub x c e with w | w
   ·obtain ⟨v,o,ho,_⟩:=I.cell x c w
    exact absurd (Heap.lt_size ho) (by rw [z];exact bQ _)
   ·rw [z,hC] at w
    exact absurd (cN w) (Nat.not_succ_le_self _)
  ·exact absurd (Heap.lt_size (I.pin p hp).1) (by rw [z];exact bQ _)
  ·obtain ⟨_,nD,_⟩:=J.pin _ (aP _ ay)
   have nC:H' H2.objs.size=none:=J.free
   refine hRR _ _ s' ys H' (cOut I hf (aj _) J ay rv hz) (I.fpOk hle ?_) ?_ (q _ nD)
   ·rw [upd_ne (Ne.symm hDC)]
    exact nC
   ·obtain ⟨m,hm,_⟩:=J.loc
    exact ⟨m,hm⟩
 exact codeAny_compStart_list lp (T.self X.A 0 _ _ _ st1 lp)
section
variable {X:Cx} {elt tg iter:Expr} {ifs:List Expr} {scope:Scope} {pos:Pos} {hide:List Nat} {wi:TI} {g:TG} {te:TE} {tt:TT}
theorem pe_comp (hc:X.calm=true) (S:CompS X.N X.env.scope scope hide) (hi:PI X tg iter wi)
  (hg:∀ s2 H2 fp pins C,PG (cCx X scope s2 H2 fp pins C) tg g) (ht:∀ s2 H2 fp pins C,PTs (cCx X scope s2 H2 fp pins C) ifs tt) (he:∀ s2 H2 fp pins C,PE (cCx X scope s2 H2 fp pins C) elt te)
  (hs:∀ x,foldedSetIterable iter X.env x=pure x:=by intro _;rfl):PE X (.ListComp elt [⟨tg,iter,ifs,0⟩] scope pos) (tComp wi hide g tt te):=by
 intro pins s σ H Q I h
 rw [eval_ListComp]
 refine wpAny_comprehension_free (use:=none) rfl hs (closure_of fun y hy e=>I.ok.has y.1 (S.free y hy e)) S.kind S.loc (thn (hi pins s σ H _ I h) fun v s1 h1=>thn h1 fun itv s2 h2=>?_)
 obtain ⟨it,fp,tn,J,H2,e,I2,T,st2,f2,q2⟩:=h2
 subst e
 refine cBlock (RR:=fun acc C=>compPost (model X.prog X.w) X.A X.xe none (EP X pins σ Q) acc C) hc S hg ht he I2 T st2 f2 q2 fun D C s' ys H' I' fC hN q=>?_
 obtain ⟨m,hm⟩:=hN
 obtain ⟨f0,f1,f2,f3,f4,f5⟩:=fC
 refine ⟨m,hm,fun h' sb=>⟨.ref D,_,?_,rfl,q⟩⟩
 exact I'.turned (t':=s'.toks) (fun b o hb e=>(sb.2 b hb).trans e) f0 f1 f3 f4 f5
theorem ps_setC {i:Nat} {y:Str} {py spos:Pos} (hc:X.calm=true) (hN:X.N.Nodup) (hy:X.N[i]? = some y) (hl:Loc X.env.scope y) (S:CompS X.N X.env.scope scope hide) (hi:PI X tg iter wi)
  (hg:∀ s2 H2 fp pins C,PG (cCx X scope s2 H2 fp pins C) tg g) (ht:∀ s2 H2 fp pins C,PTs (cCx X scope s2 H2 fp pins C) ifs tt) (he:∀ s2 H2 fp pins C,PE (cCx X scope s2 H2 fp pins C) elt te)
  (hs:∀ x,foldedSetIterable iter X.env x=pure x:=by intro _;rfl)
  (hsw:swapsWith (.ListComp elt [⟨tg,iter,ifs,0⟩] scope pos) (some (.Name y py)) spos.line X.env=pure true:=by rfl)
  (hf:X.fn y=true\/X.env.scope.names.lookup y=some .local:=by first | exact .inl rfl | exact .inr rfl | assumption) :
  PS X (.Assign [.Name y py] (.ListComp elt [⟨tg,iter,ifs,0⟩] scope pos) spos) (fun D σ H=>tComp wi hide g tt te σ H fun v H1=>D.nx (σ.set i (some v)) H1):=by
 intro pins s σ H D I h
 rw [exec_Assign_Name_used _ _ _ _ hsw]
 refine wpAny_bind (wpAny_standAt (wpAny_bind ?_))
 show wpAny _ X.A (do let _ ← comprehension (.ListComp elt [⟨tg,iter,ifs,0⟩] scope pos) scope X.env _ (newList []) false (eval iter X.env) (some (assign (.Name y py) X.env))) _ _ s
 refine wpAny_bind (thn (wpAny_comprehension_free (use:=some (assign (.Name y py) X.env)) (Q:=fun _ s'=>SP X pins D .next s') rfl hs (closure_of fun y hy e=>I.ok.has y.1 (S.free y hy e)) S.kind S.loc
  (thn (hi pins s σ H _ I h) fun v s1 h1=>thn h1 fun itv s2 h2=>?_)) (fun _ s' hq=>wpAny_pure (wpAny_pure hq)))
 obtain ⟨it,fp,tn,J,H2,e,I2,T,st2,f2,q2⟩:=h2
 subst e
 refine cBlock (Q:=fun v H1=>D.nx (σ.set i (some v)) H1) (RR:=fun acc C=>compPost (model X.prog X.w) X.A X.xe (some (assign (.Name y py) X.env)) (fun _ s'=>SP X pins D .next s') acc C) hc S hg ht he I2 T st2 f2 q2 fun A C s' ys H' I' fC hNs q=>?_
 obtain ⟨m,hm⟩:=hNs
 obtain ⟨f0,f1,f2,f3,f4,f5⟩:=fC
 show wpAny _ X.A (assign (.Name y py) X.env (.ref A)) _ _ s'
 refine wpAny_assign_Name (store_ok2 I' hN hy hl (v:=.ref A) rfl (fun s'' I'' hch=>?_) hf)
 obtain ⟨a,sb,ha⟩:=hch
 have nC:C≠a:=by
  rcases ha with z | z
  ·rw [z];exact f1
  ·exact Ne.symm (f4 _ _ z)
 refine ⟨m,hm.sameBut sb nC,fun h3 sb3=>⟨_,_,?_,q⟩⟩
 exact I''.turned (t':=s''.toks) (fun b o hb e=>(sb3.2 b hb).trans e) f0 f1 f3 f4 f5
end
end L2
namespace L2
open PySem PySem.Spec PyProof.Rows
def Lt2 (n:Nat) (i:Int):Prop:=i.natAbs<2^n
theorem Lt2.mono {n m:Nat} {i:Int} (h:Lt2 n i) (l:n<=m):Lt2 m i:=aA h (cw (by decide) l)
theorem Lt2.mul {n m:Nat} {i j:Int} (h:Lt2 n i) (l:Lt2 m j):Lt2 (n+m) (i*j):=by
 unfold Lt2
 rw [aJ,dr]
 exact Nat.mul_lt_mul'' h l
theorem Lt2.add {n:Nat} {i j:Int} (h:Lt2 n i) (l:Lt2 n j):Lt2 (n+1) (i+j):=by
 unfold Lt2 at *
 rw [Nat.pow_succ]
 omega
theorem Lt2.sub {n:Nat} {i j:Int} (h:Lt2 n i) (l:Lt2 n j):Lt2 (n+1) (i-j):=by
 unfold Lt2 at *
 rw [Nat.pow_succ]
 omega
theorem Lt2.of {n:Nat} {i:Int} (b:Nat) (h:i.natAbs<=b) (l:b<2^n):Lt2 n i:=bO h l
theorem Lt2.le {n:Nat} {i j:Int} (h:Lt2 n i) (l:j.natAbs<=i.natAbs):Lt2 n j:=bO l h
def CMulB (i j:Int):Prop:=∃ n m,Lt2 n i/\Lt2 m j/\n+m<=100000000
theorem CMulB.ok {i j:Int} (h:CMulB i j):IntMulOk i j:=by
 obtain ⟨n,m,h1,h2,h3⟩:=h
 have a:=PyProof.Rows.intBits_le h1
 have b:=PyProof.Rows.intBits_le h2
 unfold IntMulOk
 intro z
 simp only [aV,decide_eq_true_eq] at z
 have z2:((Builtin.Int.intBits i:Int)+(Builtin.Int.intBits j:Int)) > ((2^27:Nat):Int):=of_decide_eq_true z.2
 have e:(2^27:Nat)=134217728:=by decide
 rw [e] at z2
 omega
def CDivB (i j:Int):Prop:=j≠0/\∃ n,Lt2 n j/\n<=100000000
theorem Inv.pyl {X:Cx} {pins:List (Addr×Obj)} {σ:St} {H:Hp} {s:Shared} {k:Nat} (I:Inv X pins σ H s) (hr:Room k X.A):PySem.PylongRoom (model X.prog X.w) X.A s:=by
 obtain ⟨e,l,h1,h2,h3,h4,h5⟩:=I.ok.rn
 exact PySem.PylongRoom.of I.nolimit (by have:=hr.dp;show X.A.depth+100<_;omega) (PySem.SeerAt.of (I.ok.sr.1.keeps I.bk) I.ok.sr.2 (by rw [I.ok.frames,h1]) h2 h3 h4 h5)
theorem opJ {X:Cx} {f:Value->Value->Sem Value} {C:Int->Int->Prop} {g:Int->Int->Int} {k:Nat} (hr:Room k X.A)
  (rule:∀ (i j:Int) (t u:Tok) (s:Shared) (Q:Value->Shared->Prop) (E:Value->Shared->Prop),PySem.PylongRoom (model X.prog X.w) X.A s->C i j->Q (.int (g i j) s.toks) { s with toks:=s.toks+1 }->wpAny (model X.prog X.w) X.A (f (.int i t) (.int j u)) Q E s) :
  OpR X f (rI C fun i j=>.int (g i j)):=by
 intro pins s σ H x y v u Q I rx ry h
 obtain ⟨i,j,rfl,rfl,hc,q⟩:=h
 obtain ⟨t,rfl⟩:=rx
 obtain ⟨t',rfl⟩:=ry
 exact rule i j t t' s _ _ (Inv.pyl I hr) hc ⟨.int (g i j),H,I.tok _,⟨_,rfl⟩,q⟩
section
variable {X:Cx}
theorem op_mulB:OpR X (binaryOp .Mult) (rI CMulB fun i j=>.int (i*j)):=opI fun _ _ _ _ _ _ _ hc q=>mul_int q hc.ok
theorem op_fdivB {k:Nat} (hr:Room k X.A):OpR X (binaryOp .FloorDiv) (rI CDivB fun i j=>.int (i.fdiv j)):=opJ hr fun _ _ _ _ _ _ _ hp hc q=>floordiv_int hc.1 q (.inr hp)
theorem iop_mulB:OpR X (inplaceOp .Mult) (rI CMulB fun i j=>.int (i*j)):=opI fun _ _ _ _ _ _ _ hc q=>imul_int q hc.ok
theorem iop_fdivB {k:Nat} (hr:Room k X.A):OpR X (inplaceOp .FloorDiv) (rI CDivB fun i j=>.int (i.fdiv j)):=opJ hr fun _ _ _ _ _ _ _ hp hc q=>ifloordiv_int hc.1 q (.inr hp)
end
inductive DV where
 | int (i:Int) | str (x:Str) | non | bl (b:Bool) | tup (xs:List DV) | lst (xs:List DV)
mutual
def Rep (K:PySem.W.Frag) (H:Hp):DV->V->Prop
 | .int i,v=>v = .int i
 | .str x,v=>v = .str x
 | .non,v=>v = .non
 | .bl b,v=>v = .bl b
 | .tup ds,v=>∃ a vs,v = .ref a/\SqT K H a vs/\Reps K H ds vs
 | .lst ds,v=>∃ a vs,v = .ref a/\SqL K H a vs/\Reps K H ds vs
def Reps (K:PySem.W.Frag) (H:Hp):List DV->List V->Prop
 | [],vs=>vs=[]
 | d::ds,vs=>∃ v r,vs=v::r/\Rep K H d v/\Reps K H ds r
end
mutual
def DV.pl:DV->Bool
 | .int _=>true | .str _=>true | .non=>true | .bl _=>false
 | .tup ds=>DV.pls ds
 | .lst ds=>DV.pls ds
def DV.pls:List DV->Bool
 | []=>true
 | d::ds=>DV.pl d && DV.pls ds
end
mutual
def DV.dp:DV->Nat
 | .tup ds=>DV.dps ds+1
 | .lst ds=>DV.dps ds+1
 | _=>0
def DV.dps:List DV->Nat
 | []=>0
 | d::ds=>max (DV.dp d) (DV.dps ds)
end
theorem SqT.same {K:PySem.W.Frag} {H H':Hp} {a:Addr} {xs:List V} (e:Same H H') (h:SqT K H a xs):SqT K H' a xs:=by
 rcases h with (h | ⟨o,h⟩) | h
 ·exact .inl (.inl (e _ _ h))
 ·exact .inl (.inr ⟨o,e _ _ h⟩)
 ·exact .inr h
theorem Reps.length {K:PySem.W.Frag} {H:Hp}:∀ {ds:List DV} {vs:List V},Reps K H ds vs->ds.length=vs.length
 | [],vs,h=>by
  have h':vs=[]:=by unfold Reps at h;exact h
  rw [h']
  rfl
 | d::ds,vs,h=>by
  unfold Reps at h
  obtain ⟨v,r,e,_,h'⟩:=h
  rw [e,aQ,aQ,Reps.length h']
mutual
theorem Rep.same {K:PySem.W.Frag} {H H':Hp} (e:Same H H'):∀ {d:DV} {v:V},Rep K H d v->Rep K H' d v
 | .int i,v,h=>by unfold Rep at *;exact h
 | .str i,v,h=>by unfold Rep at *;exact h
 | .non,v,h=>by unfold Rep at *;exact h
 | .bl i,v,h=>by unfold Rep at *;exact h
 | .tup ds,v,h=>by
  unfold Rep at *
  obtain ⟨a,vs,h1,h2,h3⟩:=h
  exact ⟨a,vs,h1,h2.same e,Reps.same e h3⟩
 | .lst ds,v,h=>by
  unfold Rep at *
  obtain ⟨a,vs,h1,h2,h3⟩:=h
  exact ⟨a,vs,h1,e.seq h2,Reps.same e h3⟩
theorem Reps.same {K:PySem.W.Frag} {H H':Hp} (e:Same H H'):∀ {ds:List DV} {vs:List V},Reps K H ds vs->Reps K H' ds vs
 | [],v,h=>by unfold Reps at *;exact h
 | d::ds,vs,h=>by
  unfold Reps at *
  obtain ⟨v,r,h1,h2,h3⟩:=h
  exact ⟨v,r,h1,Rep.same e h2,Reps.same e h3⟩
end
section
variable {X:Cx} {pins:List (Addr×Obj)} {σ:St} {H:Hp} {s:Shared}
mutual
theorem Rep.inj (I:Inv X pins σ H s):∀ {d d':DV} {v:V},Rep X.K H d v->Rep X.K H d' v->d=d'
 | .int i,d',v,h,h'=>by
  unfold Rep at h
  subst h
  cases d' <;> unfold Rep at h' <;> first | (cases h';done) | (cases h';rfl) | (obtain ⟨_,_,e,_⟩:=h';cases e)
 | .str i,d',v,h,h'=>by
  unfold Rep at h
  subst h
  cases d' <;> unfold Rep at h' <;> first | (cases h';done) | (cases h';rfl) | (obtain ⟨_,_,e,_⟩:=h';cases e)
 | .non,d',v,h,h'=>by
  unfold Rep at h
  subst h
  cases d' <;> unfold Rep at h' <;> first | (cases h';done) | (cases h';rfl) | rfl | (obtain ⟨_,_,e,_⟩:=h';cases e)
 | .bl i,d',v,h,h'=>by
  unfold Rep at h
  subst h
  cases d' <;> unfold Rep at h' <;> first | (cases h';done) | (cases h';rfl) | (obtain ⟨_,_,e,_⟩:=h';cases e)
 | .tup ds,d',v,h,h'=>by
  unfold Rep at h
  obtain ⟨a,vs,rfl,h2,h3⟩:=h
  cases d' with
  | tup ds' =>
   unfold Rep at h'
   obtain ⟨a',vs',e,h2',h3'⟩:=h'
   cases e
   have:=I.tuple_inj h2 h2'
   subst this
   rw [Reps.inj I h3 h3']
  | lst ds' =>
   unfold Rep at h'
   obtain ⟨a',vs',e,h2',h3'⟩:=h'
   cases e
   obtain ⟨_,_,p,_⟩:=I.tuple h2
   obtain ⟨_,_,p',_⟩:=I.list h2'
   exact absurd rfl (SeqAt.ne_of_list_tuple p'.isList p)
  | _=>unfold Rep at h';cases h'
 | .lst ds,d',v,h,h'=>by
  unfold Rep at h
  obtain ⟨a,vs,rfl,h2,h3⟩:=h
  cases d' with
  | lst ds' =>
   unfold Rep at h'
   obtain ⟨a',vs',e,h2',h3'⟩:=h'
   cases e
   have:=I.list_inj h2 h2'
   subst this
   rw [Reps.inj I h3 h3']
  | tup ds' =>
   unfold Rep at h'
   obtain ⟨a',vs',e,h2',h3'⟩:=h'
   cases e
   obtain ⟨_,_,p,_⟩:=I.tuple h2'
   obtain ⟨_,_,p',_⟩:=I.list h2
   exact absurd rfl (SeqAt.ne_of_list_tuple p'.isList p)
  | _=>unfold Rep at h';cases h'
theorem Reps.inj (I:Inv X pins σ H s):∀ {ds ds':List DV} {vs:List V},Reps X.K H ds vs->Reps X.K H ds' vs->ds=ds'
 | [],ds',vs,h,h'=>by
  unfold Reps at h
  subst h
  cases ds' with
  | nil=>rfl
  | cons d r=>unfold Reps at h';obtain ⟨_,_,e,_⟩:=h';cases e
 | d::ds,ds',vs,h,h'=>by
  unfold Reps at h
  obtain ⟨v,r,e,h1,h2⟩:=h
  cases ds' with
  | nil=>unfold Reps at h';rw [h'] at e;cases e
  | cons d' r' =>
   unfold Reps at h'
   obtain ⟨v',r2,e',h1',h2'⟩:=h'
   rw [e] at e'
   cases e'
   rw [Rep.inj I h1 h1',Reps.inj I h2 h2']
end
end
theorem all_cons {e:Nat->Bool} {n:Nat}:(List.range (n+1)).all e=(e 0 && (List.range n).all fun j=>e (j+1)):=by
 rw [List.range_succ_eq_map,d6,fw]
 rfl
theorem min_all {e:Nat->Bool} {n m:Nat} (h:n=m):((List.range (min n m)).all e && n == m)=(List.range n).all e:=by
 subst h
 rw [Nat.min_self]
 simp
section
variable {X:Cx} {pins:List (Addr×Obj)} {σ:St} {H:Hp} {s:Shared}
mutual
theorem eqD (I:Inv X pins σ H s):∀ (d d':DV) (A:Around) {x y:V} {u v:Value},Rep X.K H d x->Rep X.K H d' y->RelV x u->RelV y v->d.pl=true->d'.pl=true->A.units+d.dp+1<cLine ->
  ∃ b,SeqAt.EqAt A s u v b/\(b=true↔d=d')
 | .bl _,_,_,_,_,_,_,_,_,_,_,p,_,_=>by unfold DV.pl at p;cases p
 | _,.bl _,_,_,_,_,_,_,_,_,_,_,p,_=>by unfold DV.pl at p;cases p
 | .int i,d',A,x,y,u,v,h,h',rx,ry,_,_,hu=>by
  have hu:A.units<cLine:=by omega
  unfold Rep at h
  subst h
  obtain ⟨t,rfl⟩:=rx
  cases d' with
  | bl b=>contradiction
  | int j =>
   unfold Rep at h'
   subst h'
   obtain ⟨t',rfl⟩:=ry
   exact ⟨_,SeqAt.EqAt.int_int _ _ _ _,by rw [beq_iff_eq];exact ⟨fun e=>by rw [e],fun e=>by cases e;rfl⟩⟩
  | str z =>
   unfold Rep at h'
   subst h'
   obtain ⟨t',rfl⟩:=ry
   exact ⟨_,SeqAt.EqAt.int_str _ _ _ _,by simp⟩
  | non =>
   unfold Rep at h'
   subst h'
   cases ry
   exact ⟨_,SeqAt.EqAt.int_none _ _,by simp⟩
  | tup ds' =>
   unfold Rep at h'
   obtain ⟨a,vs,rfl,h2,_⟩:=h'
   cases ry
   obtain ⟨_,_,p,_⟩:=I.tuple h2
   exact ⟨_,SeqAt.EqAt.int_tuple _ _ p hu,by simp⟩
  | lst ds' =>
   unfold Rep at h'
   obtain ⟨a,vs,rfl,h2,_⟩:=h'
   cases ry
   obtain ⟨_,_,p,_⟩:=I.list h2
   exact ⟨_,SeqAt.EqAt.int_list _ _ p.isList hu,by simp⟩
 | .str i,d',A,x,y,u,v,h,h',rx,ry,_,_,hu=>by
  have hu:A.units<cLine:=by omega
  unfold Rep at h
  subst h
  obtain ⟨t,rfl⟩:=rx
  cases d' with
  | bl b=>contradiction
  | int j =>
   unfold Rep at h'
   subst h'
   obtain ⟨t',rfl⟩:=ry
   exact ⟨_,SeqAt.EqAt.str_int _ _ _ _,by simp⟩
  | str z =>
   unfold Rep at h'
   subst h'
   obtain ⟨t',rfl⟩:=ry
   exact ⟨_,SeqAt.EqAt.str_str _ _ _ _,by rw [beq_iff_eq];exact ⟨fun e=>by rw [e],fun e=>by cases e;rfl⟩⟩
  | non =>
   unfold Rep at h'
   subst h'
   cases ry
   exact ⟨_,SeqAt.EqAt.str_none _ _,by simp⟩
  | tup ds' =>
   unfold Rep at h'
   obtain ⟨a,vs,rfl,h2,_⟩:=h'
   cases ry
   obtain ⟨_,_,p,_⟩:=I.tuple h2
   exact ⟨_,SeqAt.EqAt.str_tuple _ _ p hu,by simp⟩
  | lst ds' =>
   unfold Rep at h'
   obtain ⟨a,vs,rfl,h2,_⟩:=h'
   cases ry
   obtain ⟨_,_,p,_⟩:=I.list h2
   exact ⟨_,SeqAt.EqAt.str_list _ _ p.isList hu,by simp⟩
 | .non,d',A,x,y,u,v,h,h',rx,ry,_,_,hu=>by
  have hu:A.units<cLine:=by omega
  unfold Rep at h
  subst h
  cases rx
  cases d' with
  | bl b=>contradiction
  | int j =>
   unfold Rep at h'
   subst h'
   obtain ⟨t',rfl⟩:=ry
   exact ⟨_,SeqAt.EqAt.none_int _ _,by simp⟩
  | str z =>
   unfold Rep at h'
   subst h'
   obtain ⟨t',rfl⟩:=ry
   exact ⟨_,SeqAt.EqAt.none_str _ _,by simp⟩
  | non =>
   unfold Rep at h'
   subst h'
   cases ry
   exact ⟨_,SeqAt.EqAt.same _,by simp⟩
  | tup ds' =>
   unfold Rep at h'
   obtain ⟨a,vs,rfl,h2,_⟩:=h'
   cases ry
   obtain ⟨_,_,p,_⟩:=I.tuple h2
   exact ⟨_,SeqAt.EqAt.none_tuple p hu,by simp⟩
  | lst ds' =>
   unfold Rep at h'
   obtain ⟨a,vs,rfl,h2,_⟩:=h'
   cases ry
   obtain ⟨_,_,p,_⟩:=I.list h2
   exact ⟨_,SeqAt.EqAt.none_list p.isList hu,by simp⟩
 | .tup ds,d',A,x,y,u,v,h,h',rx,ry,pp,pp',hu=>by
  have hu0:A.units<cLine:=by omega
  have hd:=h
  unfold Rep at h
  obtain ⟨a,vs,rfl,h2,h3⟩:=h
  cases rx
  obtain ⟨its,rv,p,_⟩:=I.tuple h2
  cases d' with
  | bl b=>contradiction
  | int j =>
   unfold Rep at h'
   subst h'
   obtain ⟨t',rfl⟩:=ry
   exact ⟨_,SeqAt.EqAt.tuple_int _ _ p hu0,by simp⟩
  | str z =>
   unfold Rep at h'
   subst h'
   obtain ⟨t',rfl⟩:=ry
   exact ⟨_,SeqAt.EqAt.tuple_str _ _ p hu0,by simp⟩
  | non =>
   unfold Rep at h'
   subst h'
   cases ry
   exact ⟨_,SeqAt.EqAt.tuple_none p hu0,by simp⟩
  | lst ds' =>
   unfold Rep at h'
   obtain ⟨a',vs',rfl,h2',_⟩:=h'
   cases ry
   obtain ⟨_,_,p',_⟩:=I.list h2'
   exact ⟨_,SeqAt.EqAt.tuple_list p p'.isList hu0,by simp⟩
  | tup ds' =>
   have hd':=h'
   unfold Rep at h'
   obtain ⟨a',vs',rfl,h2',h3'⟩:=h'
   cases ry
   obtain ⟨its',rv',p',_⟩:=I.tuple h2'
   by_cases e:a=a'
   ·subst e
    exact ⟨true,SeqAt.EqAt.same _,by simp [Rep.inj I hd hd']⟩
   ·unfold DV.pl at pp pp'
    unfold DV.dp at hu
    obtain ⟨f,hf,hi⟩:=eqDs I ds ds' A.in1 h3 h3' rv rv' pp pp' (by show A.units+1+_+1<_;omega)
    refine ⟨_,SeqAt.EqAt.of_refs e (SeqAt.RcAt.tuples p p' hu0 (e:=f) fun j h1 h2=>?_),?_⟩
    ·have q:=hf j (by simpa using h1) (by simpa using h2)
     simpa using q
    ·simp only [ai,DV.tup.injEq]
     exact hi
 | .lst ds,d',A,x,y,u,v,h,h',rx,ry,pp,pp',hu=>by
  have hu0:A.units<cLine:=by omega
  have hd:=h
  unfold Rep at h
  obtain ⟨a,vs,rfl,h2,h3⟩:=h
  cases rx
  obtain ⟨its,rv,p,_⟩:=I.list h2
  cases d' with
  | bl b=>contradiction
  | int j =>
   unfold Rep at h'
   subst h'
   obtain ⟨t',rfl⟩:=ry
   exact ⟨_,SeqAt.EqAt.list_int _ _ p.isList hu0,by simp⟩
  | str z =>
   unfold Rep at h'
   subst h'
   obtain ⟨t',rfl⟩:=ry
   exact ⟨_,SeqAt.EqAt.list_str _ _ p.isList hu0,by simp⟩
  | non =>
   unfold Rep at h'
   subst h'
   cases ry
   exact ⟨_,SeqAt.EqAt.list_none p.isList hu0,by simp⟩
  | tup ds' =>
   unfold Rep at h'
   obtain ⟨a',vs',rfl,h2',_⟩:=h'
   cases ry
   obtain ⟨_,_,p',_⟩:=I.tuple h2'
   exact ⟨_,SeqAt.EqAt.list_tuple p.isList p' hu0,by simp⟩
  | lst ds' =>
   have hd':=h'
   unfold Rep at h'
   obtain ⟨a',vs',rfl,h2',h3'⟩:=h'
   cases ry
   obtain ⟨its',rv',p',_⟩:=I.list h2'
   by_cases e:a=a'
   ·subst e
    exact ⟨true,SeqAt.EqAt.same _,by simp [Rep.inj I hd hd']⟩
   ·unfold DV.pl at pp pp'
    unfold DV.dp at hu
    obtain ⟨f,hf,hi⟩:=eqDs I ds ds' A.in1 h3 h3' rv rv' pp pp' (by show A.units+1+_+1<_;omega)
    by_cases hz:its.length=its'.length
    ·refine ⟨_,SeqAt.EqAt.of_refs e (SeqAt.RcAt.lists p.isList p'.isList (by simpa using hz) hu0 (e:=f) fun j h1 h2=>?_),?_⟩
     ·have q:=hf j (by simpa using h1) (by simpa using h2)
      simpa using q
     ·simp only [ai,DV.lst.injEq]
      rw [min_all hz] at hi
      exact hi
    ·refine ⟨_,SeqAt.EqAt.of_refs e (SeqAt.RcAt.lists_lengths p.isList p'.isList (by simpa using hz) hu0),?_⟩
     simp only [cT,false_iff,DV.lst.injEq]
     intro z
     have l1:=h3.length
     have l2:=h3'.length
     rw [z] at l1
     exact hz (by rw [← rv.length,← rv'.length,← l1,← l2])
theorem eqDs (I:Inv X pins σ H s):∀ (ds ds':List DV) (A:Around) {xs ys:List V} {us vs:List Value},Reps X.K H ds xs->Reps X.K H ds' ys->Vals xs us->Vals ys vs->DV.pls ds=true->DV.pls ds'=true->A.units+DV.dps ds+1<cLine ->
  ∃ e:Nat->Bool,(∀ j (h1:j<us.length) (h2:j<vs.length),SeqAt.EqAt A s us[j] vs[j] (e j))/\((((List.range (min us.length vs.length)).all e && us.length == vs.length)=true)↔ds=ds')
 | [],ds',A,xs,ys,us,vs,h,h',rx,ry,_,_,_=>by
  unfold Reps at h
  subst h
  cases rx
  refine ⟨fun _=>true,fun j h1 _=>absurd h1 (by simp),?_⟩
  cases ds' with
  | nil=>unfold Reps at h';subst h';cases ry;simp
  | cons d r=>unfold Reps at h';obtain ⟨_,_,rfl,_⟩:=h';cases ry;simp
 | d::ds,ds',A,xs,ys,us,vs,h,h',rx,ry,pp,pp',hu=>by
  unfold Reps at h
  obtain ⟨x,r,rfl,h1,h2⟩:=h
  cases rx with
  | cons rx rxs =>
   cases ds' with
   | nil =>
    unfold Reps at h'
    subst h'
    cases ry
    exact ⟨fun _=>true,fun j _ h2=>absurd h2 (by simp),by simp⟩
   | cons d' ds' =>
    unfold Reps at h'
    obtain ⟨y,r',rfl,h1',h2'⟩:=h'
    cases ry with
    | cons ry rys =>
     unfold DV.pls at pp pp'
     rw [aV] at pp pp'
     unfold DV.dps at hu
     obtain ⟨b,hb,ib⟩:=eqD I d d' A h1 h1' rx ry pp.1 pp'.1 (by omega)
     obtain ⟨e,he,ie⟩:=eqDs I ds ds' A h2 h2' rxs rys pp.2 pp'.2 (by omega)
     refine ⟨fun j=>match j with | 0=>b | j+1=>e j,fun j=>?_,?_⟩
     ·cases j with
      | zero=>exact fun _ _=>hb
      | succ j=>exact fun q1 q2=>he j (by simpa using q1) (by simpa using q2)
     ·rw [aQ,aQ,Nat.succ_min_succ]
      have q:∀ n,(List.range (n+1)).all (fun j=>match j with | 0=>b | j+1=>e j)=(b && (List.range n).all e):=fun n=>all_cons
      rw [q]
      have q2:∀ n m:Nat,(n+1 == m+1)=(n == m):=fun n m=>by
       rw [cs]
       simp
      rw [q2,Bool.and_assoc,aV,ib,ie,List.cons.injEq]
end
def rEqT (K:PySem.W.Frag) (A:Around) (neg:Bool):R2:=fun x y H Q=>∃ ds ds',Rep K H (.tup ds) x/\Rep K H (.tup ds') y/\DV.pls ds=true/\DV.pls ds'=true/\A.units+DV.dps ds+2<cLine /\
 ∀ b,(b=true↔ds=ds')->Q (.bl (if neg then !b else b)) H
theorem op_eqT:OpR X (compareOp .Eq) (rEqT X.K X.A false):=by
 intro pins s σ H x y u v Q I rx ry h
 obtain ⟨ds,ds',h1,h2,p1,p2,hu,q⟩:=h
 unfold Rep at h1 h2
 obtain ⟨a,vs,rfl,t1,r1⟩:=h1
 obtain ⟨a',vs',rfl,t2,r2⟩:=h2
 cases rx
 cases ry
 obtain ⟨its,rv,p,_⟩:=I.tuple t1
 obtain ⟨its',rv',p',_⟩:=I.tuple t2
 obtain ⟨f,hf,hi⟩:=eqDs I ds ds' X.A.in1 r1 r2 rv rv' p1 p2 (by show X.A.units+1+_+1<_;omega)
 refine SeqAt.RcAt.tuples p p' (by omega) (e:=f) (fun j h1 h2=>?_) _ _ _ _ ⟨.bl _,H,I,rfl,q _ ?_⟩
 ·have q:=hf j (by simpa using h1) (by simpa using h2)
  simpa using q
 ·simp only [ai]
  exact hi
theorem op_neT:OpR X (compareOp .NotEq) (rEqT X.K X.A true):=by
 intro pins s σ H x y u v Q I rx ry h
 obtain ⟨ds,ds',h1,h2,p1,p2,hu,q⟩:=h
 unfold Rep at h1 h2
 obtain ⟨a,vs,rfl,t1,r1⟩:=h1
 obtain ⟨a',vs',rfl,t2,r2⟩:=h2
 cases rx
 cases ry
 obtain ⟨its,rv,p,_⟩:=I.tuple t1
 obtain ⟨its',rv',p',_⟩:=I.tuple t2
 obtain ⟨f,hf,hi⟩:=eqDs I ds ds' X.A.in1 r1 r2 rv rv' p1 p2 (by show X.A.units+1+_+1<_;omega)
 refine SeqAt.RcNeAt.tuples p p' (by omega) (e:=f) (fun j h1 h2=>?_) _ _ _ _ ⟨.bl _,H,I,rfl,q _ ?_⟩
 ·have q:=hf j (by simpa using h1) (by simpa using h2)
  simpa using q
 ·simp only [ai]
  exact hi
theorem range_all (bs:List Bool):(List.range bs.length).all (fun j=>bs.getD j false)=bs.all id:=by
 induction bs with
 | nil=>rfl
 | cons b r ih =>
  rw [aQ,all_cons,d6]
  exact congrArg (b && ·) ih
theorem call_all (hc:X.calm=true):CallR X (.builtin "all") (fun xs H Q=>∃ p,∃ bs:List Bool,xs=[.ref p]/\SqL X.K H p (bs.map V.bl)/\Q (.bl (bs.all id)) H):=by
 intro pins s σ H xs us Q I rv h
 obtain ⟨p,bs,rfl,hp,q⟩:=h
 obtain ⟨u,rfl,ru⟩:=rv.one
 cases ru
 obtain ⟨its,rv',pl,_⟩:=I.list hp
 refine call_all_walk (wpAny_pyIter_list pl.isList ?_)
 have e:∀ b o,s.heap.get? b=some o->(s.heap.push { cls:=.type "list_iterator",data:=.fields #[.ref p,.int 0 0] }).get? b=some o:=fun b o e=>Heap.get?_push_of_some _ e
 have hne:p≠s.heap.objs.size:=by
  obtain ⟨o,ho,_⟩:=pl.isList
  exact aM (Heap.lt_size ho)
 have lb:bs.length=its.length:=by rw [← rv'.length,ab]
 refine ⟨_,_,_,_,_,_,fun j=>bs.getD j false,rfl,Walks.list (A:=X.A.in1) (I.ok.hd hc) _ p hne its.toArray,⟨⟨_,Heap.get?_push_size _ rfl,rfl,rfl⟩,pl.isList.at fun o ho=>e _ o ho⟩,?_,fun h' tk hk=>?_⟩
 ·intro i v s Q E hv hq
  have hv':its[i]? = some v:=by simpa using hv
  have hi:i<bs.length:=by
   rw [lb]
   exact (ak.mp hv').1
  obtain ⟨u,hu,ru⟩:=rv'.get (i:=i) (x:=.bl bs[i]) (by simp [hi])
  rw [hv'] at hu
  cases hu
  cases ru
  have:bs.getD i false=bs[i]:=by simp [List.getD,hi]
  have hq:Q (bs.getD i false) s:=hq
  rw [this] at hq
  exact wpAny_truthy_bool hq
 ·refine ⟨.bl (bs.all id),H,I.kept (t':=tk) fun b o ho=>hk b o ?_ (e b o ho),?_,q⟩
  ·simp only [aS]
   exact aM (Heap.lt_size ho)
  ·show Value.bool _=_
   rw [← range_all,lb]
   simp
end
end L2
namespace L2
open PySem PySem.Spec PyProof.Rows
structure Def (P:Program) (w:World) (K:PySem.W.Frag) (mg:Str->Option Value) (base:Heap) (x:Str) (k:Nat) (ps:List Str) (sp:Sp):Prop where
 ex:∃ f fd,FnOk P w K mg base CX0 k f fd ps sp/\mg x=some (.ref f)/\PySem.W.keepIn K (.ref f)=true/\Binds K fd ps []
theorem Def.of {P:Program} {w:World} {K:PySem.W.Frag} {mg:Str->Option Value} {base:Heap} {x q:Str} {k:Nat} {ps:List Str} {sp:Sp} {st:Stmt} {f:Addr} {fd:FuncData} (F:Fun K x q st f fd) (m:mg x=some (.ref f)) (b:Binds K fd ps [])
  (ok:FnOk P w K mg base CX0 k f fd ps sp):Def P w K mg base x k ps sp:=⟨f,fd,ok,m,F.kp,b⟩
theorem pe_def {X:Cx} {e:Expr} {es:List Expr} {t:TA} {x:Str} {p pos:Pos} {j k:Nat} {ps:List Str} {sp:Sp} (g:Def X.prog X.w X.K X.mg X.base x j ps sp) (hr:Room k X.A) (ha:PA X (e::es) t) (hjk:j<=k:=by first | decide | omega | exact aj _) (hg:Gl X x:=by rfl)
  (hdb:(x == ("__debug__" : Str))=false:=by decide) (he:starEach (e::es) X.env=(false,eval e X.env)::starEach es X.env:=by rfl) (hpl:(backTo pos (starEach es X.env)).any (·.1)=false:=by rfl) :
  PE X (.Call (.Name x p) (e::es) [] pos) (tCall sp [] E0 t):=by
 obtain ⟨f,fd,F,m,kp,b⟩:=g.ex
 exact pe_call F (hr.mono hjk) hg m kp b .nil pass0 ha hdb he hpl
structure Bl (mg:Str->Option Value):Prop where
 len:mg "len" = none
 range:mg "range" = none
 all:mg "all" = none
 any:mg "any" = none
 abs:mg "abs" = none
 int:mg "int" = none
 bool:mg "bool" = none
 str:mg "str" = none
 list:mg "list" = none
 tuple:mg "tuple" = none
 dict:mg "dict" = none
 isinstance:mg "isinstance" = none
 enumerate:mg "enumerate" = none
 reversed:mg "reversed" = none
 sorted:mg "sorted" = none
 max:mg "max" = none
 min:mg "min" = none
 sum:mg "sum" = none
 zip:mg "zip" = none
structure Sm (f:Addr) (H H':Hp):Prop where
 app:∀ b o,b≠f->H b=some o->H' b=some o
 key:∀ l r,H f=some (.lst (.ref l::r))->∃ r',H' f=some (.lst (.ref l::r'))
instance {f:Addr} {H H':Hp}:CoeFun (Sm f H H') (fun _=>∀ b o,b≠f->H b=some o->H' b=some o):=⟨Sm.app⟩
theorem Sm.refl {f:Addr} (H:Hp):Sm f H H:=⟨fun _ _ _ h=>h,fun l r h=>⟨r,h⟩⟩
theorem Sm.trans {f:Addr} {H H1 H2:Hp} (a:Sm f H H1) (b:Sm f H1 H2):Sm f H H2:=⟨fun c o n h=>b.app c o n (a.app c o n h),fun l r h=>by
 obtain ⟨r1,h1⟩:=a.key l r h
 exact b.key l r1 h1⟩
theorem Sm.new {f p:Addr} {H:Hp} (h:H p=none) (o:HO):Sm f H (upd H p o):=⟨fun b u _ q=>by rw [upd_ne (ne_of_none q h)];exact q,fun l r q=>⟨r,by rw [upd_ne (ne_of_none q h)];exact q⟩⟩
theorem Same.new {p:Addr} {H:Hp} (h:H p=none) (o:HO):Same H (upd H p o):=fun b u q=>by rw [upd_ne (ne_of_none q h)];exact q
theorem Sm.free {f:Addr} {H H':Hp} (e:Sm f H H') {l:Addr} (hl:l≠f) (h:H' l=none):H l=none:=by
 cases q:H l with
 | none=>rfl
 | some o =>
  rw [e.app l o hl q] at h
  cases h
end L2
namespace L2
open PySem
theorem bt_len:bootBuiltins "len" = some (.builtin "len"):=by decide +kernel
theorem bt_abs:bootBuiltins "abs" = some (.builtin "abs"):=by decide +kernel
theorem bt_all:bootBuiltins "all" = some (.builtin "all"):=by decide +kernel
theorem bt_int:bootBuiltins "int" = some (.type "int"):=by decide +kernel
theorem bt_list:bootBuiltins "list" = some (.type "list"):=by decide +kernel
theorem bt_tuple:bootBuiltins "tuple" = some (.type "tuple"):=by decide +kernel
end L2
namespace L2
open PySem PySem.Spec PyProof.Rows
def tCut (t u:TS):TS:=fun D σ H=>∃ R:St->Hp->Prop,t { D with nx:=R } σ H/\∀ σ H,R σ H->u D σ H
theorem pss_cut {X:Cx} {st:Stmt} {more:List Stmt} {t u:TS} (h1:PS X st t) (h2:PSs X more u):PSs X (st::more) (tCut t u):=by
 intro pins s σ H D I h
 obtain ⟨R,a,b⟩:=h
 refine wpAny_execs_cons (thn (h1 pins s σ H { D with nx:=R } I a) fun f s1 q=>?_)
 cases f with
 | next =>
  obtain ⟨σ1,H1,I1,r1⟩:=q
  exact h2 pins s1 σ1 H1 D I1 (b σ1 H1 r1)
 | brk=>exact q
 | cont=>exact q
 | ret v=>exact q
end L2
namespace L2
open PySem PySem.Spec PyProof.Rows
section
variable {X:Cx}
theorem ixL (K:PySem.W.Frag) (hK:X.K=K:=by rfl):IxR X (rIxL K):=hK ▸ ix_list
theorem lenS (K:PySem.W.Frag) (hK:X.K=K:=by rfl):CallR X (.builtin "len") (fun xs H Q=>∃ p ys,xs=[.ref p]/\(SqL K H p ys\/SqT K H p ys)/\Q (.int ys.length) H):=hK ▸ call_len_seq
theorem allS (K:PySem.W.Frag) (hc:X.calm=true:=by rfl) (hK:X.K=K:=by rfl):CallR X (.builtin "all") (fun xs H Q=>∃ p,∃ bs:List Bool,xs=[.ref p]/\SqL K H p (bs.map V.bl)/\Q (.bl (bs.all id)) H):=hK ▸ call_all hc
theorem listOf (K:PySem.W.Frag) (hK:X.K=K:=by rfl):CallR X (.type "list") (fun xs H Q=>∃ p ys,xs=[.ref p]/\(SqL K H p ys\/SqT K H p ys)/\∀ l,H l=none->Q (.ref l) (upd H l (.lst ys))):=hK ▸ call_list_of
theorem tupleOf (K:PySem.W.Frag) (hK:X.K=K:=by rfl):CallR X (.type "tuple") (fun xs H Q=>∃ p ys,xs=[.ref p]/\((SqL K H p ys/\∀ l,H l=none->Q (.ref l) (upd H l (.tup ys)))\/(SqT K H p ys/\Q (.ref p) H))):=hK ▸ call_tuple_of
def rEqK (K:PySem.W.Frag) (neg:Bool):R2:=fun x y H Q=>∃ ds ds',Rep K H (.tup ds) x/\Rep K H (.tup ds') y/\DV.pls ds=true/\DV.pls ds'=true/\DV.dps ds<=60/\∀ b,(b=true↔ds=ds')->Q (.bl (if neg then !b else b)) H
theorem eqT (K:PySem.W.Frag) {k:Nat} (hr:Room k X.A) (hK:X.K=K:=by rfl):OpR X (compareOp .Eq) (rEqK K false):=by
 subst hK
 intro pins s σ H x y u v Q I rx ry h
 obtain ⟨ds,ds',h1,h2,p1,p2,hu,q⟩:=h
 exact op_eqT pins s σ H x y u v Q I rx ry ⟨ds,ds',h1,h2,p1,p2,by have:=hr.units;omega,q⟩
theorem neT (K:PySem.W.Frag) {k:Nat} (hr:Room k X.A) (hK:X.K=K:=by rfl):OpR X (compareOp .NotEq) (rEqK K true):=by
 subst hK
 intro pins s σ H x y u v Q I rx ry h
 obtain ⟨ds,ds',h1,h2,p1,p2,hu,q⟩:=h
 exact op_neT pins s σ H x y u v Q I rx ry ⟨ds,ds',h1,h2,p1,p2,by have:=hr.units;omega,q⟩
end
end L2
namespace Fr
open L2
def cp (t b:Int):Int:=((Int.gcd t b:Nat):Int)
def part (t b:Int):Int:=if b<0 then -cp t b else cp t b
def top (t b:Int):Int:=t.fdiv (part t b)
def bot (t b:Int):Int:=b.fdiv (part t b)
theorem gcd_step (a b:Int):Int.gcd b (a.fmod b)=Int.gcd a b:=by
 rw [fQ,Int.gcd_sub_mul_left_right,Int.gcd_comm]
theorem fmod_lt (a b:Int) (h:b≠0):(a.fmod b).natAbs<b.natAbs:=by
 rcases eh h with hb | hb
 ·have h1:=gG (-a) (b:=-b) (by omega)
  have h2:=fN (-a) (b:=-b) (by omega)
  have e:(-a).fmod (-b) = -(a.fmod b):=by
   rw [fQ,fQ,Int.neg_fdiv_neg,Int.neg_mul]
   omega
  omega
 ·have h1:=gG a hb
  have h2:=fN a hb
  omega
theorem cp_pos {t b:Int} (h:b≠0):0<cp t b:=by
 unfold cp
 have:0<Int.gcd t b:=d9 (by rw [Ne,gA];exact fun z=>h z.2)
 omega
theorem cp_le {t b:Int} (h:b≠0):(cp t b).natAbs<=b.natAbs:=by
 unfold cp
 rw [aZ]
 exact bv (by omega) (gJ _ _)
theorem part_ne {t b:Int} (h:b≠0):part t b≠0:=by
 have:=cp_pos (t:=t) h
 unfold part
 split <;> omega
theorem part_le {t b:Int} (h:b≠0):(part t b).natAbs<=b.natAbs:=by
 have:=cp_le (t:=t) h
 unfold part
 split
 ·rw [Int.natAbs_neg];exact this
 ·exact this
theorem of {p t' b':Int} (hp:p≠0) (hb:0<b') (hc:Int.gcd t' b'=1):top (p*t') (p*b')=t'/\bot (p*t') (p*b')=b':=by
 have e:part (p*t') (p*b')=p:=by
  unfold part cp
  rw [Int.gcd_mul_left,hc,du]
  rcases eh hp with h | h
  ·rw [if_pos (Int.mul_neg_of_neg_of_pos h hb)]
   omega
  ·rw [if_neg (Int.not_lt.mpr (Int.le_of_lt (ax h hb)))]
   omega
 unfold top bot
 rw [e]
 exact ⟨cy _ hp,cy _ hp⟩
theorem ex {t b:Int} (h:b≠0):∃ p t' b',p≠0/\0<b'/\Int.gcd t' b'=1/\t=p*t'/\b=p*b':=by
 have g0:0<Int.gcd t b:=d9 (by rw [Ne,gA];exact fun z=>h z.2)
 obtain ⟨t1,e1⟩:=Int.gcd_dvd_left t b
 obtain ⟨b1,e2⟩:=gN t b
 have hc:Int.gcd t1 b1=1:=by
  have q:Int.gcd ((Int.gcd t b:Int)*t1) ((Int.gcd t b:Int)*b1)=Int.gcd t b:=by rw [← e1,← e2]
  rw [Int.gcd_mul_left,aZ] at q
  exact e9 g0 (by omega)
 have g1:(0:Int)<(Int.gcd t b:Int):=by omega
 by_cases hb:b<0
 ·refine ⟨-(Int.gcd t b:Int),-t1,-b1,by omega,?_,by rw [Int.gcd_neg,Int.neg_gcd];exact hc,by rw [Int.neg_mul_neg];exact e1,by rw [Int.neg_mul_neg];exact e2⟩
  rcases dA b1 0 with z | z | z
  ·omega
  ·rw [z,bN] at e2
   omega
  ·have:=ax g1 z
   omega
 ·refine ⟨(Int.gcd t b:Int),t1,b1,by omega,?_,hc,e1,e2⟩
  rcases dA b1 0 with z | z | z
  ·have:=dm g1 z
   omega
  ·rw [z,bN] at e2
   omega
  ·exact z
theorem times {t b q:Int} (h:b≠0) (hq:q≠0):top (t*q) (b*q)=top t b/\bot (t*q) (b*q)=bot t b:=by
 obtain ⟨p,t',b',hp,hb,hc,rfl,rfl⟩:=ex (t:=t) h
 have e:=of hp hb hc
 rw [e.1,e.2]
 have m1:p*t'*q=(p*q)*t':=by rw [bJ,bg t' q,bJ]
 have m2:p*b'*q=(p*q)*b':=by rw [bJ,bg b' q,bJ]
 rw [m1,m2]
 exact of (bA hp hq) hb hc
theorem low {t b:Int} (h:b≠0):0<bot t b/\top t b*b=t*bot t b/\Int.gcd (top t b) (bot t b)=1:=by
 obtain ⟨p,t',b',hp,hb,hc,rfl,rfl⟩:=ex (t:=t) h
 have e:=of hp hb hc
 rw [e.1,e.2]
 refine ⟨hb,?_,hc⟩
 rw [Int.mul_left_comm,bJ]
theorem top_le {t b:Int} (h:b≠0):(top t b).natAbs<=t.natAbs/\(bot t b).natAbs<=b.natAbs:=by
 obtain ⟨p,t',b',hp,hb,hc,rfl,rfl⟩:=ex (t:=t) h
 have e:=of hp hb hc
 rw [e.1,e.2,aJ,aJ]
 have:0<p.natAbs:=by omega
 exact ⟨aN _ this,aN _ this⟩
theorem self {t b:Int} (hb:0<b) (hc:Int.gcd t b=1):top t b=t/\bot t b=b:=by
 have:=of (p:=1) (t':=t) (b':=b) (by decide) hb hc
 rw [cC,cC] at this
 exact this
theorem uniq {t b c d:Int} (hb:b≠0) (hd:0<d) (hc:Int.gcd c d=1) (h:t*d=c*b):top t b=c/\bot t b=d:=by
 have e1:=times (t:=t) (b:=b) (q:=d) hb (by omega)
 have e2:=times (t:=c) (b:=d) (q:=b) (by omega) hb
 have e3:=self hd hc
 rw [h,bg b d,e2.1,e2.2,e3.1,e3.2] at e1
 exact ⟨e1.1.symm,e1.2.symm⟩
end Fr
namespace L2
open PySem PySem.Spec PyProof.Rows
section
variable {X:Cx}
def iSeq (K:PySem.W.Frag) (tl:TE):TI:=fun σ H R=>tl σ H fun x H1=>∃ a,x = .ref a/\(((∃ xs,SqL K H1 a xs)/\R (Itl K a) H1)\/((∃ xs,SqT K H1 a xs)/\R (Itt K a) H1))
theorem piS (K:PySem.W.Frag) {tg l:Expr} {tl:TE} (hl:PE X l tl) (hK:X.K=K:=by rfl):PI X tg l (iSeq K tl):=by
 subst hK
 intro pins s σ H R I h
 refine thn (hl pins s σ H _ I h) fun v s1 ⟨x,H1,I1,r1,q1⟩=>?_
 obtain ⟨a,e,q1⟩:=q1
 subst e
 cases r1
 have fp1:∀ b∈[s1.heap.objs.size],FpOk X pins H1 b:=fun b hb=>by
  have e:b=s1.heap.objs.size:=by simpa using hb
  subst e
  exact I1.fpOk (aj _) (I1.hok.fresh (aj _))
 rcases q1 with ⟨⟨xs,hq⟩,q⟩ | ⟨⟨xs,hq⟩,q⟩
 ·obtain ⟨its,rv,p,hz⟩:=I1.list hq
  exact wpAny_pyIter_list p.isList ⟨s1.heap.objs.size,[s1.heap.objs.size],_,_,H1,rfl,I1.kept (t':=s1.toks) fun b o e=>Heap.get?_push_of_some _ e,turn_list a _,⟨_,Heap.get?_push_size _ rfl,rfl,rfl⟩,fp1,q⟩
 ·obtain ⟨its,rv,p,hz⟩:=I1.tuple hq
  exact wpAny_pyIter_tuple (show s1.heap.IsTuple a its.toArray from p) ⟨s1.heap.objs.size,[s1.heap.objs.size],_,_,H1,rfl,I1.kept (t':=s1.toks) fun b o e=>Heap.get?_push_of_some _ e,turn_tuple a _,⟨_,Heap.get?_push_size _ rfl,rfl,rfl⟩,fp1,q⟩
def rCat0 (K:PySem.W.Frag):R2:=fun x y H Q=>∃ a b ys,x = .ref a/\y = .ref b/\SqT K H a []/\SqT K H b ys/\Q (.ref b) H
theorem catT0 (K:PySem.W.Frag) (hK:X.K=K:=by rfl):OpR X (binaryOp .Add) (rCat0 K):=by
 subst hK
 intro pins s σ H x y u v Q I rx ry h
 obtain ⟨a,b,ys,rfl,rfl,h1,h2,q⟩:=h
 cases rx
 cases ry
 obtain ⟨its,rv,p,_⟩:=I.tuple h1
 obtain ⟨its2,rv2,p2,_⟩:=I.tuple h2
 cases rv
 obtain ⟨⟨cls,dd,data,sl⟩,ho,hc,n,hd⟩:=id p
 obtain ⟨⟨cls2,dd2,data2,sl2⟩,ho2,hc2,n2,hd2⟩:=id p2
 simp only at hc hd hc2 hd2
 subst hc hd hc2 hd2
 exact concat_meets ⟨_,ho,rfl⟩ ⟨_,ho2,rfl⟩ noFill_tuple_add seq_tuple_add PySem.F.slot_tuple_add PySem.F.entry_tuple_add (PySem.F.args_tuple_add_2 _ _)
  (tuple_addW0 a b ([]:List Value).toArray its2.toArray n n2 dd dd2 sl sl2 (by simp)) ⟨ho,ho2,⟨.ref b,H,I,rfl,q⟩⟩
def rEqLs (K:PySem.W.Frag) (neg:Bool):R2:=fun x y H Q=>∃ ds ds',Rep K H (.lst ds) x/\Rep K H (.lst ds') y/\DV.pls ds=true/\DV.pls ds'=true/\DV.dps ds<=60/\∀ b,(b=true↔ds=ds')->Q (.bl (if neg then !b else b)) H
theorem eqLs (K:PySem.W.Frag) {k:Nat} (hr:Room k X.A) (hK:X.K=K:=by rfl):OpR X (compareOp .Eq) (rEqLs K false):=by
 subst hK
 intro pins s σ H x y u v Q I rx ry h
 obtain ⟨ds,ds',h1,h2,p1,p2,hu,q⟩:=h
 have hun:=hr.units
 unfold Rep at h1 h2
 obtain ⟨a,vs,rfl,t1,r1⟩:=h1
 obtain ⟨a',vs',rfl,t2,r2⟩:=h2
 cases rx
 cases ry
 obtain ⟨its,rv,p,_⟩:=I.list t1
 obtain ⟨its',rv',p',_⟩:=I.list t2
 obtain ⟨f,hf,hi⟩:=eqDs I ds ds' X.A.in1 r1 r2 rv rv' p1 p2 (by show X.A.units+1+_+1<_;omega)
 by_cases hz:its.length=its'.length
 ·refine SeqAt.RcAt.lists p.isList p'.isList (by simpa using hz) (by omega) (e:=f) (fun j h1 h2=>?_) _ _ _ _ ⟨.bl _,H,I,rfl,q _ ?_⟩
  ·have q:=hf j (by simpa using h1) (by simpa using h2)
   simpa using q
  ·simp only [ai]
   rw [min_all hz] at hi
   exact hi
 ·refine SeqAt.RcAt.lists_lengths p.isList p'.isList (by simpa using hz) (by omega) _ _ _ _ ⟨.bl false,H,I,rfl,q false ?_⟩
  simp only [cT,false_iff]
  intro z
  have l1:=r1.length
  have l2:=r2.length
  rw [z] at l1
  exact hz (by rw [← rv.length,← rv'.length,← l1,← l2])
theorem neLs (K:PySem.W.Frag) {k:Nat} (hr:Room k X.A) (hK:X.K=K:=by rfl):OpR X (compareOp .NotEq) (rEqLs K true):=by
 subst hK
 intro pins s σ H x y u v Q I rx ry h
 obtain ⟨ds,ds',h1,h2,p1,p2,hu,q⟩:=h
 have hun:=hr.units
 unfold Rep at h1 h2
 obtain ⟨a,vs,rfl,t1,r1⟩:=h1
 obtain ⟨a',vs',rfl,t2,r2⟩:=h2
 cases rx
 cases ry
 obtain ⟨its,rv,p,_⟩:=I.list t1
 obtain ⟨its',rv',p',_⟩:=I.list t2
 obtain ⟨f,hf,hi⟩:=eqDs I ds ds' X.A.in1 r1 r2 rv rv' p1 p2 (by show X.A.units+1+_+1<_;omega)
 by_cases hz:its.length=its'.length
 ·refine SeqAt.RcNeAt.lists p.isList p'.isList (by simpa using hz) (by omega) (e:=f) (fun j h1 h2=>?_) _ _ _ _ ⟨.bl _,H,I,rfl,q _ ?_⟩
  ·have q:=hf j (by simpa using h1) (by simpa using h2)
   simpa using q
  ·simp only [ai]
   rw [min_all hz] at hi
   exact hi
 ·refine SeqAt.RcNeAt.lists_lengths p.isList p'.isList (by simpa using hz) (by omega) _ _ _ _ ⟨.bl true,H,I,rfl,q false ?_⟩
  simp only [cT,false_iff]
  intro z
  have l1:=r1.length
  have l2:=r2.length
  rw [z] at l1
  exact hz (by rw [← rv.length,← rv'.length,← l1,← l2])
end
end L2
namespace Po
open L2
def gl (b:Nat) (ts:List Int):Nat:=ts.foldl (fun g t=>Nat.gcd g t.natAbs) b
theorem gl_one (ts:List Int):gl 1 ts=1:=by
 induction ts with
 | nil=>rfl
 | cons t ts ih =>
  show gl (Nat.gcd 1 t.natAbs) ts=1
  rw [Nat.gcd_one_left]
  exact ih
theorem gl_dvd:∀ (ts:List Int) (b:Nat),gl b ts∣b/\∀ t∈ts,gl b ts∣t.natAbs
 | [],b=>⟨Nat.dvd_refl b,fun t ht=>absurd ht bh⟩
 | t::ts,b=>by
  have ih:=gl_dvd ts (Nat.gcd b t.natAbs)
  refine ⟨fi ih.1 (eF _ _),fun u hu=>?_⟩
  rcases ar.mp hu with rfl | hu
  ·exact fi ih.1 (gJ _ _)
  ·exact ih.2 u hu
theorem dvd_gl {c d:Nat}:∀ (ts:List Int) (b:Nat),d∣c*b->(∀ t∈ts,d∣c*t.natAbs)->d∣c*gl b ts
 | [],b,h,_=>h
 | t::ts,b,h,ht=>by
  refine dvd_gl ts (Nat.gcd b t.natAbs) ?_ fun u hu=>ht u (au _ hu)
  rw [← Nat.gcd_mul_left]
  exact Nat.dvd_gcd h (ht t ay)
structure Fm (P:List Int) (B:Int):Prop where
 pos:0<B
 last:P=[]\/P.getD (P.length-1) 0≠0
 gcd:gl B.natAbs P=1
theorem getD_mem {P:List Int} {t:Int} (h:t∈P):∃ k,P.getD k 0=t:=by
 obtain ⟨k,hk,e⟩:=List.getElem_of_mem h
 exact ⟨k,by simp [List.getD,hk,e]⟩
theorem dvd_of {P P':List Int} {B B':Int} (F:Fm P B) (h:∀ k,P.getD k 0*B'=P'.getD k 0*B):B.natAbs∣B'.natAbs:=by
 have q:=dvd_gl (c:=B'.natAbs) (d:=B.natAbs) P B.natAbs (dJ _ _) fun t ht=>by
  obtain ⟨k,rfl⟩:=getD_mem ht
  have e:=congrArg Int.natAbs (h k)
  rw [aJ,aJ] at e
  rw [bt,e]
  exact dJ _ _
 rw [F.gcd,du] at q
 exact q
theorem len_le {P P':List Int} (l:P=[]\/P.getD (P.length-1) 0≠0) (h:∀ k,P.getD k 0=P'.getD k 0):P.length<=P'.length:=by
 rcases l with rfl | l
 ·exact aC _
 ·rcases am P'.length P.length with z | z
  ·refine absurd ?_ l
   rw [h,ac,bq (by omega)]
   rfl
  ·exact z
theorem uniq {P P':List Int} {B B':Int} (F:Fm P B) (F':Fm P' B') (h:∀ k,P.getD k 0*B'=P'.getD k 0*B):P=P'/\B=B':=by
 have d1:=dvd_of F h
 have d2:=dvd_of F' fun k=>(h k).symm
 have e:=Nat.dvd_antisymm d1 d2
 have p1:=F.pos
 have p2:=F'.pos
 have eB:B=B':=by omega
 subst eB
 have hk:∀ k,P.getD k 0=P'.getD k 0:=fun k=>aH (by omega) (h k)
 have l1:=len_le F.last hk
 have l2:=len_le F'.last fun k=>(hk k).symm
 refine ⟨List.ext_getElem (by omega) fun k h1 h2=>?_,rfl⟩
 have q:=hk k
 simp [List.getD,h1,h2] at q
 exact q
theorem gl_mul (g:Nat):∀ (ts:List Int) (b:Nat),gl (g*b) (ts.map fun t=>(g:Int)*t)=g*gl b ts
 | [],b=>rfl
 | t::ts,b=>by
  show gl (Nat.gcd (g*b) ((g:Int)*t).natAbs) (ts.map fun t=>(g:Int)*t)=g*gl (Nat.gcd b t.natAbs) ts
  rw [aJ,aZ,Nat.gcd_mul_left]
  exact gl_mul g ts _
theorem gl_pos {b:Nat} (h:0<b) (ts:List Int):0<gl b ts:=cr (gl_dvd ts b).1 h
theorem form {ts:List Int} {b:Int} {m:Nat} (hb:0<b) (hm:m<=ts.length) (h0:∀ j,m<=j->ts.getD j 0=0) (hl:m=0\/ts.getD (m-1) 0≠0) :
  Fm ((ts.take m).map fun t=>t.fdiv ((gl b.natAbs (ts.take m):Nat):Int)) (b.fdiv ((gl b.natAbs (ts.take m):Nat):Int)) /\
  (∀ k,((ts.take m).map fun t=>t.fdiv ((gl b.natAbs (ts.take m):Nat):Int)).getD k 0*b=ts.getD k 0*(b.fdiv ((gl b.natAbs (ts.take m):Nat):Int))):=by
 have g0:0<gl b.natAbs (ts.take m):=gl_pos (by omega) _
 have gd:=gl_dvd (ts.take m) b.natAbs
 generalize hg:gl b.natAbs (ts.take m)=g at *
 have gi:(g:Int)≠0:=by omega
 have ex:∀ t:Int,g∣t.natAbs->t=(g:Int)*t.fdiv (g:Int):=fun t ht=>by
  obtain ⟨c,e⟩:(g:Int)∣t:=by first | exact Int.ofNat_dvd_left.mpr ht | exact aR.mp (by rw [aZ];exact ht)
  rw [e,cy _ gi]
 have eb:=ex b gd.1
 have et:ts.take m=((ts.take m).map fun t=>t.fdiv (g:Int)).map fun t=>(g:Int)*t:=by
  rw [List.map_map]
  refine (List.map_id (ts.take m)).symm.trans (List.map_congr_left fun t ht=>?_)
  exact ex t (gd.2 t ht)
 have bp:0<b.fdiv (g:Int):=by
  rcases dA (b.fdiv (g:Int)) 0 with z | z | z
  ·have:=dm (show (0:Int)<(g:Int) by omega) z
   omega
  ·rw [z,bN] at eb
   omega
  ·exact z
 have kk:∀ k,((ts.take m).map fun t=>t.fdiv (g:Int)).getD k 0*(g:Int)=ts.getD k 0:=fun k=>by
  by_cases hk:k<m
  ·have h1:k<(ts.take m).length:=by rw [aO];omega
   have h2:k<ts.length:=by omega
   have e1:((ts.take m).map fun t=>t.fdiv (g:Int)).getD k 0=(ts[k]).fdiv (g:Int):=by
    rw [ac,aG,dw hk,aq h2]
    rfl
   have e2:ts.getD k 0=ts[k]:=by rw [ac,aq h2];rfl
   have mem:ts[k]∈ts.take m:=by
    refine aI (i:=k) ?_
    rw [dw hk,aq h2]
   rw [e1,e2,bg]
   exact (ex _ (gd.2 _ mem)).symm
  ·rw [h0 k (by omega),ac,bq (by rw [ab,aO];omega)]
   exact aE _
 refine ⟨⟨bp,?_,?_⟩,fun k=>?_⟩
 ·have hlen:((ts.take m).map fun t=>t.fdiv (g:Int)).length=m:=by rw [ab,aO];omega
  rcases hl with z | z
  ·left
   subst z
   simp
  ·right
   rw [hlen]
   intro c
   have q:=kk (m-1)
   rw [c,aE] at q
   exact z q.symm
 ·have q:=gl_mul g ((ts.take m).map fun t=>t.fdiv (g:Int)) (b.fdiv (g:Int)).natAbs
  rw [← et] at q
  have e:g*(b.fdiv (g:Int)).natAbs=b.natAbs:=by
   conv=>rhs;rw [eb,aJ,aZ]
  rw [e,hg] at q
  exact e9 g0 (by omega)
 ·rw [← kk k,bJ,← eb]
end Po
namespace L2
open PySem PySem.Spec PyProof.Rows
section
variable {X:Cx}
theorem vals_toks:∀ {ns:List Int} {us:List Value},Vals (ns.map V.int) us->∃ xs:List (Int×Tok),us=xs.map (fun p=>Value.int p.1 p.2)/\xs.map (·.1)=ns
 | [],_,.nil=>⟨[],rfl,rfl⟩
 | n::ns,_,.cons r t=>by
  obtain ⟨tk,e⟩:∃ t,_=Value.int n t:=r
  obtain ⟨xs,e1,e2⟩:=vals_toks t
  exact ⟨(n,tk)::xs,by rw [e,e1];rfl,by rw [← e2];rfl⟩
theorem maxS (K:PySem.W.Frag) (hc:X.calm=true:=by rfl) (hK:X.K=K:=by rfl):CallR X (.builtin "max") (fun xs H Q=>∃ p,∃ ns:List Int,xs=[.ref p]/\SqL K H p (ns.map V.int)/\ns≠[]/\∀ M,M∈ns->(∀ a∈ns,a<=M)->Q (.int M) H):=by
 subst hK
 intro pins s σ H xs us Q I rv h
 obtain ⟨p,ns,rfl,hp,hn,q⟩:=h
 obtain ⟨u,rfl,ru⟩:=rv.one
 cases ru
 obtain ⟨its,rv',pl,_⟩:=I.list hp
 obtain ⟨ys,e1,e2⟩:=vals_toks rv'
 subst e1
 have hl:s.heap.IsList p (intItems ys.toArray):=by
  have:intItems ys.toArray=(ys.map (fun p=>Value.int p.1 p.2)).toArray:=by simp [intItems]
  rw [this]
  exact pl.isList
 have hsz:0<ys.toArray.size:=by
  rcases ys with _ | ⟨y,ys⟩
  ·exact absurd e2.symm hn
  ·simp
 refine max_intList (I.ok.hd hc) hl hsz fun v h' tk hv hk=>?_
 obtain ⟨t,rfl⟩:=intItems_at hv
 obtain ⟨h1,h2⟩:=argBest_gt (numAt ys.toArray) (ys.toArray.size-1)
 refine ⟨.int _,H,I.kept (t':=tk) hk,⟨t,rfl⟩,q _ ?_ fun a ha=>?_⟩
 ·rw [numAt_eq,← e2]
  exact PySem.getD_mem (by simp only [ai,ab] at *;omega)
 ·rw [← e2] at ha
  obtain ⟨j,hj,rfl⟩:=PySem.mem_getD ha
  rw [ab] at hj
  have:=h2 j (by rw [ai];omega)
  rw [numAt_eq] at this
  exact this
end
def Pol (H:Hp) (v:V) (P:List Int) (B:Int):Prop:=∃ a t,v = .ref a/\H a=some (.tup [.ref t,.int B])/\H t=some (.tup (P.map V.int))
theorem bt_max:bootBuiltins "max" = some (.builtin "max"):=by decide +kernel
theorem bt_sum:bootBuiltins "sum" = some (.builtin "sum"):=by decide +kernel
end L2
namespace L2
open PySem PySem.Spec PyProof.Rows
section
variable {X:Cx} {pins:List (Addr×Obj)} {σ:St} {H:Hp} {s:Shared} {h':Heap}
theorem Inv.turnedL {t':Nat} {fp:List Addr} (I:Inv X pins σ H s) (k:∀ b o,b ∉ fp->s.heap.get? b=some o->h'.get? b=some o) (hf:∀ b∈fp,FpOk X pins H b):Inv X pins σ H { s with heap:=h',toks:=t' }:=by
 have nit:∀ b u,H b=some u->b ∉ fp:=fun b u e z=>by rw [(hf b z).1] at e;cases e
 have hL:X.env.locals ∉ fp:=fun z=>(hf _ z).2.1 rfl
 refine I.step (g':=s.gens) (d':=s.drawn) (ch:=fp) (fun b hb=>⟨(hf b hb).2.2.2.1,(hf b hb).2.1,(hf b hb).2.2.2.2.1,(hf b hb).2.2.2.2.2⟩) (fun b o _ _ hc e _=>k b o hc e) (fun b o _ _ hc e _=>⟨o.slots,k b o hc e⟩) (fun _ _ _ _ n=>n)
  (fun b o hc e=>⟨o,k b o hc e⟩) (fun _ _ e=>e) (fun _ _ _ e=>e) (fun b ps e=>⟨#[],by rw [e];simp⟩) (fun m ⟨o,es,ep,ho,r⟩=>⟨o,es,ep,k _ o hL ho,r⟩) (fun b u e=>?_) I.bare
 refine (I.hok b u e).stay (fun c v hc q=>k c v (hc.elim (fun z=>by rw [z];exact nit b u e) fun z=>nit c _ z) q) (fun _ q=>q) fun _ _ q=>q
end
section
variable {prog:Program} {w:World} {A:Around} {E:Value->Shared->Prop} {s:Shared}
theorem nextT_item {it t:Addr} {i:Nat} {items:Array Value} {x:Value} {Q:Value->Shared->Prop} (hit:s.heap.IsTupleIter it t i) (ht:s.heap.IsTuple t items) (hx:items[i]? = some x)
  (hQ:∀ h',h'.IsTupleIter it t (i+1)->Heap.SameBut it s.heap h'->Q x { s with heap:=h' }):wpAny (model prog w) A (Builtin.SmallTypes.nextOf (.ref it)) Q E s:=by
 obtain ⟨o,ho,hc,hd⟩:=id hit;obtain ⟨ol,hol,_,nl,hdl⟩:=ht
 unfold Builtin.SmallTypes.nextOf
 refine wpAny_bind (wpAny_callSpecial?_slot (name:=Str.ofString "__next__") hit.typeIs F.slot_tuple_iterator_next (wpAny_call_entry F.slot_tuple_iterator_next hit.typeIs F.entry_tuple_iterator_next ?_ (F.args_tuple_iterator_next_1 _)))
 show wpAny _ _ (field (.ref it) 0 >>= _) _ _ s;refine wpAny_bind (wpAny_field ho hd (x:=.ref t) rfl ?_)
 show wpAny _ _ (if (Value.ref t == Value.none)=true then _ else _) _ _ s;rw [if_neg (show ¬ ((Value.ref t == Value.none)=true) from az)]
 show wpAny _ _ (field (.ref it) 1 >>= _) _ _ s;refine wpAny_bind (wpAny_field ho hd (x:=.int i 0) rfl ?_)
 show wpAny _ _ (seqItems? (.ref t) >>= _) _ _ s;refine wpAny_bind (wpAny_seqItems hol hdl ?_);simp only [bo,hx]
 refine wpAny_bind (wpAny_setField ho hd (by simp) (wpAny_pure ⟨x,rfl,wpAny_pure (hQ _ ⟨_,Heap.get?_update_self _ ho (Obj.isFreed_of_fields (Obj.data_mapFields hd _)),(Obj.cls_mapFields ..).trans hc,by rw [Obj.data_mapFields hd];simp [rawInt]⟩ (Heap.SameBut.update ..))⟩))
theorem nextT_end {it t:Addr} {i:Nat} {items:Array Value} {Q:Value->Shared->Prop} (hh:A.handled=none) (hit:s.heap.IsTupleIter it t i) (ht:s.heap.IsTuple t items) (hx:items[i]? = none)
  (hE:∀ h' e,Heap.ExtBut it s.heap h'->(∃ o,h'.get? e=some o/\o.cls = .type "StopIteration")->E (.ref e) { s with heap:=h' }):wpAny (model prog w) A (Builtin.SmallTypes.nextOf (.ref it)) Q E s:=by
 obtain ⟨o,ho,hc,hd⟩:=id hit;obtain ⟨ol,hol,_,nl,hdl⟩:=ht
 unfold Builtin.SmallTypes.nextOf
 refine wpAny_bind (wpAny_callSpecial?_slot (name:=Str.ofString "__next__") hit.typeIs F.slot_tuple_iterator_next (wpAny_call_entry F.slot_tuple_iterator_next hit.typeIs F.entry_tuple_iterator_next ?_ (F.args_tuple_iterator_next_1 _)))
 show wpAny _ _ (field (.ref it) 0 >>= _) _ _ s;refine wpAny_bind (wpAny_field ho hd (x:=.ref t) rfl ?_)
 show wpAny _ _ (if (Value.ref t == Value.none)=true then _ else _) _ _ s;rw [if_neg (show ¬ ((Value.ref t == Value.none)=true) from az)]
 show wpAny _ _ (field (.ref it) 1 >>= _) _ _ s;refine wpAny_bind (wpAny_field ho hd (x:=.int i 0) rfl ?_)
 show wpAny _ _ (seqItems? (.ref t) >>= _) _ _ s;refine wpAny_bind (wpAny_seqItems hol hdl ?_);simp only [bo,hx]
 refine wpAny_bind (wpAny_rule (wpAny_bind (wpAny_setField ho hd (by simp) ?_)));show wpAny _ _ (newExc (.type "StopIteration") [] >>= _) _ _ _
 refine wpAny_bind ?_;simp only [newExc,newTuple];refine wpAny_bind (wpAny_newObj_type ?_ (by size_fits))
 refine wpAny_bind (m:=firstArgMember _ _) (wpAny_of_eq (a:=Value.none) (by first | rfl | (simp only [firstArgMember];rfl)) ?_);refine wpAny_newObj_type ?_ (by size_fits);simp only [raiseNew];refine wpAny_bind (wpAny_handled ?_)
 first | rw [show A.in1.handled=none from hh] | rw [hh]
 refine wpAny_bind (wpAny_pure (wpAny_throw ?_));exact hE _ _ (((Heap.SameBut.update ..).extBut.push _).push _) ⟨_,Heap.get?_push_size _ rfl,rfl⟩
end
theorem drawsT {prog:Program} {w:World} {A:Around} (hh:A.handled=none) (it l:Addr) (hne:l≠it) (items:Array Value):Draws prog w A it [it,l] items.size (fun i v=>items[i]? = some v) (fun i h=>h.IsTupleIter it l i/\h.IsTuple l items) where
 live:=fun _ _ st=>let ⟨o,ho,_⟩:=st.1;⟨o,ho⟩
 frame:=fun _ _ _ st hk=>⟨let ⟨o,ho,r⟩:=st.1;⟨o,hk it (by simp) o ho,r⟩,let ⟨o,ho,r⟩:=st.2;⟨o,hk l (by simp) o ho,r⟩⟩
 item:=fun i s Q E hi st hQ=>nextT_item st.1 st.2 (x:=items[i]) (by simp [hi]) fun h' hit' hs'=>hQ _ h' s.toks (by simp [hi]) ⟨hit',let ⟨o,ho,r⟩:=st.2;⟨o,(hs'.2 l hne).trans ho,r⟩⟩ hs'
 done:=fun s Q E st hE=>nextT_end hh st.1 st.2 (by simp) hE
theorem enum_newT (l:Addr) (items:Array Value) (n:Nat) (dct:Option Addr) (sl:Array (Option Value)) :
  Meets (Builtin.«enumerate.__new__» ⟨[.type "enumerate",.ref l],[]⟩) (fun _ R s=>s.heap.get? l=some { cls:=.type "tuple",dict:=dct,data:=.seq items n,slots:=sl } /\
   R (.ok (.ret (.ref (s.heap.push { cls:=.type "tuple_iterator",data:=.fields #[.ref l,.int 0 0] }).objs.size)))
    { s with heap:=(s.heap.push { cls:=.type "tuple_iterator",data:=.fields #[.ref l,.int 0 0] }).push { cls:=.type "enumerate",data:=.fields #[.none,.bool false,.ref s.heap.objs.size,rawInt 0,.none,.none] } }) :=
 .of_wp fun prog w A R s h=>by
  obtain ⟨hp,g,d,tk,os⟩:=s;obtain ⟨hl,h⟩:=h;have hsub:=sub_enumerate;have hL:Heap.IsTuple (Shared.heap ⟨hp,g,d,tk,os⟩) l items:=⟨_,hl,rfl,n,rfl⟩
  wp_walk using AutoSeq1.wpAny_loadPart' hl
  refine wpAny_stack_any fun st=>wpAny_pure ?_
  split
  ·rename_i c _ _ _ _ _
   cases (c == Value.type "enumerate") <;> (wp_walk using AutoSeq1.wpAny_loadPart' hl,wpAny_pyIter_tuple hL;exact ⟨_,rfl,h⟩)
  ·wp_walk using AutoSeq1.wpAny_loadPart' hl,wpAny_pyIter_tuple hL;exact ⟨_,rfl,h⟩
def ItE (Sq:Hp->List V->Prop):It:=⟨fun i H=>∃ xs x,Sq H xs/\xs[i]? = some x,fun i H x H'=>∃ p v,x = .ref p/\H p=none/\H'=upd H p (.tup [.int i,v])/\∀ xs,Sq H xs->xs[i]? = some v,fun i H=>∃ xs,Sq H xs/\xs.length<=i⟩
theorem enum_laid {X:Cx} {pins:List (Addr×Obj)} {σ:St} {H:Hp} {s:Shared} {h1 h2:Heap} {e it:Addr} {tk t2:Nat} {i:Nat} {x:V} {u:Value} (I:Inv X pins σ H s) (hf:∀ b∈[e,it],FpOk X pins H b) (le:e<s.heap.objs.size) (li:it<s.heap.objs.size) (ru:RelV x u)
  (hT:h1.get? s.heap.objs.size=some { cls:=.type "tuple",data:=.seq #[.int i tk,u] }) (hk:∀ b o,b≠e->b≠it->s.heap.get? b=some o->h1.get? b=some o) (hs:Heap.SameBut e h1 h2) :
  Inv X pins σ (upd H s.heap.objs.size (.tup [.int i,x])) { s with heap:=h2,toks:=t2 }/\∀ b∈[e,it],upd H s.heap.objs.size (.tup [.int i,x]) b=none:=by
 have lt:∀ b∈[e,it],b≠s.heap.objs.size:=fun b hb=>by
  rcases ar.mp hb with z | z
  ·rw [z];exact aM le
  ·rw [aS.mp z];exact aM li
 have I1:Inv X pins σ (upd H s.heap.objs.size (.tup [.int i,x])) { s with heap:=s.heap.push { cls:=.type "tuple",data:=.seq #[.int i tk,u] },toks:=t2 } :=
  I.laid (t':=t2) (fun b u e=>Heap.get?_push_of_some _ e) (aj _) ⟨by show 2<=sizeLine;decide,[.int i tk,u],.cons ⟨tk,rfl⟩ (.cons ru .nil),⟨_,Heap.get?_push_size _ rfl,rfl,_,rfl⟩⟩
 have nn:∀ b∈[e,it],upd H s.heap.objs.size (.tup [.int i,x]) b=none:=fun b hb=>by
  rw [upd_ne (lt b hb)]
  exact (hf b hb).1
 refine ⟨Inv.turnedL (s:={ s with heap:=s.heap.push { cls:=.type "tuple",data:=.seq #[.int i tk,u] },toks:=t2 }) (t':=t2) (fp:=[e,it]) I1 (fun b o hb q=>?_) fun b hb=>⟨nn b hb,(hf b hb).2⟩,nn⟩
 have be:b≠e:=fun z=>hb (by simp [z])
 have bi:b≠it:=fun z=>hb (by simp [z])
 refine (hs.2 b be).trans ?_
 rcases Heap.get?_push_cases q with ⟨z1,z2⟩ | z
 ·rw [z1,z2]
  exact hT
 ·exact hk b o be bi z
theorem enumT_end {prog:Program} {w:World} {A:Around} {E:Value->Shared->Prop} {s:Shared} {e it l:Addr} {i:Nat} {items:Array Value} {old:Value} {Q:Option Value->Shared->Prop} (hh:A.handled=none) (he:IsEnum s.heap e it i old) (hit:s.heap.IsTupleIter it l i) (hl:s.heap.IsTuple l items)
  (hx:items[i]? = none) (hQ:∀ h',Heap.ExtBut it s.heap h'->Q none { s with heap:=h' }):wpAny (model prog w) A (pyNext (.ref e)) Q E s:=by
 have hT:s.TypeIs (.ref e) "enumerate" := ⟨_,he,rfl⟩
 unfold pyNext
 refine wpAny_bind (wpAny_attempt (wpAny_callSpecial?_slot (name:=Str.ofString "__next__") hT F.slot_enumerate_next (wpAny_call_entry F.slot_enumerate_next hT F.entry_enumerate_next ?_ (F.args_enumerate_next_1 _))))
 show wpAny _ _ (field (.ref e) 2 >>= _) _ _ _;refine wpAny_bind (wpAny_field he rfl (x:=.ref it) rfl ?_)
 refine wpAny_bind (nextT_end (A:=A.in1) hh hit hl hx fun h' x he' hx'=>?_)
 obtain ⟨o,ho,hc⟩:=hx'
 exact wpAny_bind (wpAny_isInstance (T := "StopIteration") (b:=true) ⟨o,ho,hc⟩ isSubtype_stop (wpAny_pure (hQ _ he')))
theorem enumT_call {prog:Program} {w:World} {A:Around} {E:Value->Shared->Prop} {s:Shared} {l:Addr} {items:Array Value} {Q:Value->Shared->Prop} (hL:s.heap.IsTuple l items)
  (h:∀ h',IsEnum h' (s.heap.objs.size+1) s.heap.objs.size 0 .none->h'.IsTupleIter s.heap.objs.size l 0->h'.objs.size=s.heap.objs.size+2->(∀ b o,s.heap.get? b=some o->h'.get? b=some o)->Q (.ref (s.heap.objs.size+1)) { s with heap:=h' }) :
  wpAny (model prog w) A (call (.type "enumerate") [.ref l]) Q E s:=by
 obtain ⟨⟨c,dct,dt,sl⟩,hl,hc,n,hd⟩:=hL
 have hc':c = .type "tuple" := hc
 have hd':dt = .seq items n:=hd
 subst hc' hd'
 refine callType_new F.called_enumerate (by decide) (F.typeCall_enumerate_1 _) (F.newCall_enumerate_1 _) (fun obj=>F.args_object_init_2 obj _) F.entry_enumerate_new (enum_newT l items n dct sl) ⟨hl,?_⟩
 have hz:(s.heap.push { cls:=.type "tuple_iterator",data:=.fields #[.ref l,.int 0 0] }).objs.size=s.heap.objs.size+1:=Heap.size_push ..
 show _/\_
 rw [hz]
 have he:IsEnum ((s.heap.push { cls:=.type "tuple_iterator",data:=.fields #[.ref l,.int 0 0] }).push { cls:=.type "enumerate",data:=.fields #[.none,.bool false,.ref s.heap.objs.size,rawInt 0,.none,.none] }) (s.heap.objs.size+1) s.heap.objs.size 0 .none:=by
  have:=Heap.get?_push_size (s.heap.push { cls:=.type "tuple_iterator",data:=.fields #[.ref l,.int 0 0] }) (o:={ cls:=.type "enumerate",data:=.fields #[.none,.bool false,.ref s.heap.objs.size,rawInt 0,.none,.none] }) rfl
  rw [hz] at this
  exact this
 exact ⟨⟨_,he,rfl⟩,h _ he ⟨_,Heap.get?_push_of_some _ (Heap.get?_push_size _ rfl),rfl,rfl⟩ (by rw [Heap.size_push,hz]) fun b o x=>Heap.get?_push_of_some _ (Heap.get?_push_of_some _ x)⟩
theorem turn_enumL {P:Program} {w:World} {K:PySem.W.Frag} {es:List Expr} {kk:Nat} {ps:Pos} (a e it:Addr) (hei:e≠it):Turn P w K (.Tuple es kk ps) (ItE fun H xs=>SqL K H a xs) [e,it] e (fun i h=>(∃ old,IsEnum h e it i old)/\h.IsListIter it a i) where
 mem:=by simp
 obj:=fun i h st b hb=>by
  obtain ⟨⟨old,he⟩,o,ho,hc,hd⟩:=st
  rcases ar.mp hb with z | z
  ·rw [z];exact ⟨_,he,fun v q=>by cases q⟩
  ·rw [aS.mp z];exact ⟨o,ho,fun v q=>by rw [hd] at q;cases q⟩
 keep:=fun i h h' st k=>by
  obtain ⟨⟨old,he⟩,o,ho,r⟩:=st
  exact ⟨⟨old,k e (by simp) _ he⟩,o,k it (by simp) o ho,r⟩
 item:=by
  intro X hP hw hK hc i pins s σ H E I hf st hg
  subst hP hw hK
  obtain ⟨xs,x,hq,hx⟩:=hg
  obtain ⟨its,rv,p,hz⟩:=I.list hq
  obtain ⟨u,hu,ru⟩:=rv.get hx
  obtain ⟨⟨old,he⟩,hit⟩:=st
  have hl:s.heap.IsList a its.toArray:=p.isList
  have hne:a≠it:=fun z=>by
   obtain ⟨o,ho,c,_⟩:=id hl
   obtain ⟨o',ho',c',_⟩:=id hit
   rw [z,ho'] at ho
   cases ho
   rw [c'] at c
   revert c
   decide
  have hae:e≠a:=fun z=>by
   obtain ⟨o,ho,c,_⟩:=id hl
   rw [← z,he] at ho
   cases ho
   have c':Value.type "enumerate" = Value.type _:=c
   revert c'
   decide
  have le:e<s.heap.objs.size:=Heap.lt_size he
  have li:it<s.heap.objs.size:=by obtain ⟨o,ho,_⟩:=id hit;exact Heap.lt_size ho
  refine wpAny_pyNext_enum_itemD (Draws.list (A:=X.A.in1) (I.ok.hd hc) it a hne its.toArray) he ⟨hit,hl⟩ (by have:=(ak.mp hu).1;simpa using this) hei (by simp [hei,hae]) fun y h1 tk hP ho hst hT hsz hk=>?_
  have hy:its[i]? = some y:=by simpa using hP
  rw [hu] at hy
  cases hy
  refine ⟨_,rfl,wpAny_letOwnedTupleGo_enum ho fun h2 he2 hs2=>?_⟩
  obtain ⟨I2,n2⟩:=enum_laid (t2:=tk+1) I hf le li ru hT hk hs2
  refine ⟨.ref s.heap.objs.size,_,I2,rfl,⟨_,x,rfl,I.hok.fresh (aj _),rfl,fun ys hy=>by rw [I.list_inj hy hq];exact hx⟩,⟨⟨_,by simpa using he2⟩,?_⟩,n2⟩
  obtain ⟨o,ho1,r⟩:=hst.1
  exact ⟨o,(hs2.2 it hei.symm).trans ho1,r⟩
 done:=by
  intro X hP hw hK hc i pins s σ H E I hf st hg
  subst hP hw hK
  obtain ⟨xs,hq,hx⟩:=hg
  obtain ⟨its,rv,p,hz⟩:=I.list hq
  obtain ⟨⟨old,he⟩,hit⟩:=st
  have hl:s.heap.IsList a its.toArray:=p.isList
  have hne:a≠it:=fun z=>by
   obtain ⟨o,ho,c,_⟩:=id hl
   obtain ⟨o',ho',c',_⟩:=id hit
   rw [z,ho'] at ho
   cases ho
   rw [c'] at c
   revert c
   decide
  obtain ⟨f0,f1,f2,f3,f4,f5⟩:=hf it (by simp)
  have le:=rv.length
  refine wpAny_pyNext_enum_end (I.ok.hd hc) he hit hl (by simp;omega) fun h' eb=>⟨rfl,I.turned (t':=s.toks) (fun b o hb e=>eb b o hb e) f0 f1 f3 f4 f5⟩
 self:=fun _ _ _ _ _ st h=>by
  obtain ⟨⟨old,he⟩,_⟩:=st
  exact wpAny_pyIter_enum he h
theorem turn_enumT {P:Program} {w:World} {K:PySem.W.Frag} {es:List Expr} {kk:Nat} {ps:Pos} (a e it:Addr) (hei:e≠it):Turn P w K (.Tuple es kk ps) (ItE fun H xs=>SqT K H a xs) [e,it] e (fun i h=>(∃ old,IsEnum h e it i old)/\h.IsTupleIter it a i) where
 mem:=by simp
 obj:=fun i h st b hb=>by
  obtain ⟨⟨old,he⟩,o,ho,hc,hd⟩:=st
  rcases ar.mp hb with z | z
  ·rw [z];exact ⟨_,he,fun v q=>by cases q⟩
  ·rw [aS.mp z];exact ⟨o,ho,fun v q=>by rw [hd] at q;cases q⟩
 keep:=fun i h h' st k=>by
  obtain ⟨⟨old,he⟩,o,ho,r⟩:=st
  exact ⟨⟨old,k e (by simp) _ he⟩,o,k it (by simp) o ho,r⟩
 item:=by
  intro X hP hw hK hc i pins s σ H E I hf st hg
  subst hP hw hK
  obtain ⟨xs,x,hq,hx⟩:=hg
  obtain ⟨its,rv,p,hz⟩:=I.tuple hq
  obtain ⟨u,hu,ru⟩:=rv.get hx
  obtain ⟨⟨old,he⟩,hit⟩:=st
  have hl:s.heap.IsTuple a its.toArray:=p
  have hne:a≠it:=fun z=>by
   obtain ⟨o,ho,c,_⟩:=id hl
   obtain ⟨o',ho',c',_⟩:=id hit
   rw [z,ho'] at ho
   cases ho
   rw [c'] at c
   revert c
   decide
  have hae:e≠a:=fun z=>by
   obtain ⟨o,ho,c,_⟩:=id hl
   rw [← z,he] at ho
   cases ho
   have c':Value.type "enumerate" = Value.type _:=c
   revert c'
   decide
  have le:e<s.heap.objs.size:=Heap.lt_size he
  have li:it<s.heap.objs.size:=by obtain ⟨o,ho,_⟩:=id hit;exact Heap.lt_size ho
  refine wpAny_pyNext_enum_itemD (drawsT (A:=X.A.in1) (I.ok.hd hc) it a hne its.toArray) he ⟨hit,hl⟩ (by have:=(ak.mp hu).1;simpa using this) hei (by simp [hei,hae]) fun y h1 tk hP ho hst hT hsz hk=>?_
  have hy:its[i]? = some y:=by simpa using hP
  rw [hu] at hy
  cases hy
  refine ⟨_,rfl,wpAny_letOwnedTupleGo_enum ho fun h2 he2 hs2=>?_⟩
  obtain ⟨I2,n2⟩:=enum_laid (t2:=tk+1) I hf le li ru hT hk hs2
  refine ⟨.ref s.heap.objs.size,_,I2,rfl,⟨_,x,rfl,I.hok.fresh (aj _),rfl,fun ys hy=>by rw [I.tuple_inj hy hq];exact hx⟩,⟨⟨_,by simpa using he2⟩,?_⟩,n2⟩
  obtain ⟨o,ho1,r⟩:=hst.1
  exact ⟨o,(hs2.2 it hei.symm).trans ho1,r⟩
 done:=by
  intro X hP hw hK hc i pins s σ H E I hf st hg
  subst hP hw hK
  obtain ⟨xs,hq,hx⟩:=hg
  obtain ⟨its,rv,p,hz⟩:=I.tuple hq
  obtain ⟨⟨old,he⟩,hit⟩:=st
  have hl:s.heap.IsTuple a its.toArray:=p
  have hne:a≠it:=fun z=>by
   obtain ⟨o,ho,c,_⟩:=id hl
   obtain ⟨o',ho',c',_⟩:=id hit
   rw [z,ho'] at ho
   cases ho
   rw [c'] at c
   revert c
   decide
  obtain ⟨f0,f1,f2,f3,f4,f5⟩:=hf it (by simp)
  have le:=rv.length
  refine enumT_end (I.ok.hd hc) he hit hl (by simp;omega) fun h' eb=>⟨rfl,I.turned (t':=s.toks) (fun b o hb e=>eb b o hb e) f0 f1 f3 f4 f5⟩
 self:=fun _ _ _ _ _ st h=>by
  obtain ⟨⟨old,he⟩,_⟩:=st
  exact wpAny_pyIter_enum he h
def iEnum (K:PySem.W.Frag) (ta:TA):TI:=fun σ H R=>ta σ H fun vs H1=>∃ a,vs=[.ref a]/\(((∃ xs,SqL K H1 a xs)/\R (ItE fun H xs=>SqL K H a xs) H1)\/((∃ xs,SqT K H1 a xs)/\R (ItE fun H xs=>SqT K H a xs) H1))
theorem boot_enumerate:bootBuiltins "enumerate" = some (.type "enumerate"):=by decide +kernel
theorem pi_enum {X:Cx} (K:PySem.W.Frag) {es:List Expr} {kk:Nat} {ps:Pos} {a:Expr} {ta:TA} {p pos:Pos} (hg:Gl X "enumerate") (hm:X.mg "enumerate" = none) (ha:PA X [a] ta) (hK:X.K=K:=by rfl) (hs:starEach [a] X.env=[(false,eval a X.env)]:=by rfl):PI X (.Tuple es kk ps) (.Call (.Name "enumerate" p) [a] [] pos) (iEnum K ta):=by
 subst hK
 intro pins s σ H R I h
 refine Call_ (ld_blt I hg hm boot_enumerate (PyProof.Rows.callWith_type1 (thn (ha pos pins s σ H _ I h) fun us s1 ⟨vs,H1,I1,r1,q1⟩=>?_) hs rfl))
 obtain ⟨l,e,q1⟩:=q1
 subst e
 obtain ⟨u,rfl,ru⟩:=Vals.one r1
 cases ru
 have fp1:∀ {h':Heap},∀ b∈[s1.heap.objs.size+1,s1.heap.objs.size],FpOk X pins H1 b:=fun b hb=>by
  have hb':s1.heap.objs.size<=b:=by
   rcases ar.mp hb with z | z
   ·omega
   ·rw [aS.mp z];exact aj _
  exact I1.fpOk hb' (I1.hok.fresh hb')
 rcases q1 with ⟨⟨xs,hq⟩,q⟩ | ⟨⟨xs,hq⟩,q⟩
 ·obtain ⟨its,rv,pl,hz⟩:=I1.list hq
  refine call_enumerate_list pl.isList fun h' he hit hsz hk=>?_
  refine wpAny_pyIter_enum he ?_
  exact ⟨_,[s1.heap.objs.size+1,s1.heap.objs.size],_,_,H1,rfl,I1.kept (t':=s1.toks) hk,turn_enumL l _ _ (Nat.succ_ne_self _),⟨⟨_,he⟩,hit⟩,fp1 (h':=h'),q⟩
 ·obtain ⟨its,rv,pl,hz⟩:=I1.tuple hq
  refine enumT_call pl fun h' he hit hsz hk=>?_
  refine wpAny_pyIter_enum he ?_
  exact ⟨_,[s1.heap.objs.size+1,s1.heap.objs.size],_,_,H1,rfl,I1.kept (t':=s1.toks) hk,turn_enumT l _ _ (Nat.succ_ne_self _),⟨⟨_,he⟩,hit⟩,fp1 (h':=h'),q⟩
theorem getL {X:Cx} (K:PySem.W.Frag) (hK:X.K=K:=by rfl):PGet X (fun o i H Q=>∃ p xs v,∃ j:Nat,o = .ref p/\i = .int j/\SqL K H p xs/\xs[j]? = some v/\Q v H):=by
 subst hK
 intro pins s σ H o i ov iv Q I ro ri h
 obtain ⟨p,xs,v,j,rfl,rfl,hq,hv,q⟩:=h
 cases ro
 obtain ⟨t,rfl⟩:=ri
 obtain ⟨its,r,pl,hz⟩:=I.list hq
 obtain ⟨w,ew,rw'⟩:=r.get hv
 have hl:=(ak.mp hv).1
 have hn:=line63
 exact wpAny_getItem_list pl.isList (by omega) (by omega) (by rw [bo];simpa using ew) ⟨v,H,I,rw',q⟩
end L2
namespace HT
open PySem PyProof.Rows
variable {prog:Program} {w:World} {A:Around} {E:Value->Shared->Prop} {s:Shared}
theorem getItem_tuple_whole {t sl:Addr} {items:Array Value} {vl vu:Value} {lo hi:Option Int} {Q:Value->Shared->Prop} (ht:IsTup s.heap t items) (hs:s.heap.IsSliceOf sl vl vu .none) (pl:IsPart vl lo) (pu:IsPart vu hi)
  (hw:sIx items.size 0 lo=0/\sIx items.size items.size hi=items.size) (h:Q (.ref t) s):wpAny (model prog w) A (getItem (.ref t) (.ref sl)) Q E s:=by
 obtain ⟨os,hos,hcs,hds⟩:=id hs;have hTs:s.TypeIs (.ref sl) "slice" := ⟨os,hos,hcs⟩
 unfold getItem
 try with_reducible refine wpAny_holding ?_
 first | refine wpAny_bind (wpAny_pure ?_) | skip
 refine wpAny_bind (wpAny_sequenceKey ht.typeIs (by decide) ?_);refine wpAny_bind (wpAny_callSpecial?_slot (name:=Str.ofString "__getitem__") ht.typeIs PyProof.Rows.slot_tuple_getitem (wpAny_call_entry PyProof.Rows.slot_tuple_getitem ht.typeIs entry_tuple_getitem ?_ (args_tuple_getitem _ _)))
 show wpAny _ _ (Builtin.Tuple.tupleItemsOf (.ref t) >>= _) _ _ s;refine wpAny_bind (tupleItemsOf_ ht ?_);refine wpAny_bind (wpAny_typeOf hTs ?_);rw [if_pos (by decide)];refine wpAny_bind (sliceApplied_gen hs pl pu ?_)
 have hyes:(((sIx items.size 0 lo:Nat):Int) == 0 && (1:Int) == 1 && (sIx items.size items.size hi-sIx items.size 0 lo) == items.size)=true:=by
  rw [hw.1,hw.2];simp
 show wpAny _ _ (if (((sIx items.size 0 lo:Nat):Int) == 0 && (1:Int) == 1 && (sIx items.size items.size hi-sIx items.size 0 lo) == items.size)=true then _ else _) _ _ s
 rw [if_pos hyes]
 refine wpAny_bind (m:=Builtin.Tuple.tupleIsExact _) ?_
 unfold Builtin.Tuple.tupleIsExact
 refine wpAny_bind (wpAny_typeOf ht.typeIs (wpAny_pure ?_))
 rw [if_pos (by decide)]
 first
  | exact wpAny_bind (wpAny_rule (wpAny_bind (wpAny_pure (wpAny_pure ⟨_,rfl,wpAny_pure h⟩))))
  | exact wpAny_bind (wpAny_rule (wpAny_pure ⟨_,rfl,wpAny_pure h⟩))
  | exact wpAny_bind (wpAny_rule (wpAny_bind (wpAny_pure ⟨_,rfl,wpAny_pure h⟩)))
end HT
namespace Po
open L2
theorem dvd_ofF {P:List Int} {f:Nat->Int} {B B':Int} (F:Fm P B) (h:∀ k,P.getD k 0*B'=f k*B):B.natAbs∣B'.natAbs:=by
 have q:=dvd_gl (c:=B'.natAbs) (d:=B.natAbs) P B.natAbs (dJ _ _) fun t ht=>by
  obtain ⟨k,rfl⟩:=getD_mem ht
  have e:=congrArg Int.natAbs (h k)
  rw [aJ,aJ] at e
  rw [bt,e]
  exact dJ _ _
 rw [F.gcd,du] at q
 exact q
theorem size {P:List Int} {f:Nat->Int} {B b:Int} (F:Fm P B) (hb:0<b) (h:∀ k,P.getD k 0*b=f k*B):B.natAbs<=b.natAbs/\∀ k,(P.getD k 0).natAbs<=(f k).natAbs:=by
 have d:B.natAbs<=b.natAbs:=bv (by omega) (dvd_ofF F h)
 refine ⟨d,fun k=>?_⟩
 have e:=congrArg Int.natAbs (h k)
 rw [aJ,aJ] at e
 have:(P.getD k 0).natAbs*b.natAbs<=(f k).natAbs*b.natAbs:=by
  rw [e]
  exact ah _ d
 exact Nat.le_of_mul_le_mul_right this (by omega)
end Po
namespace Cv
open L2
def sm (F:Nat->Int):Nat->Int
 | 0=>0
 | n+1=>sm F n+F n
theorem sm_congr {F G:Nat->Int} {n:Nat} (h:∀ j,j<n->F j=G j):sm F n=sm G n:=by
 induction n with
 | zero=>rfl
 | succ n ih=>rw [sm,sm,ih fun j hj=>h j (by omega),h n (by omega)]
theorem sm_zero {F:Nat->Int} {n m:Nat} (h:n<=m) (z:∀ j,n<=j->j<m->F j=0):sm F m=sm F n:=by
 induction m with
 | zero=>rw [show n=0 by omega]
 | succ m ih =>
  rcases bV h with e | e
  ·rw [e]
  ·rw [sm,ih (by omega) fun j a b=>z j a (by omega),z m (by omega) (by omega),bS]
def cv (f g:Nat->Int) (k:Nat):Int:=sm (fun j=>f j*g (k-j)) (k+1)
def tm (f g:Nat->Int) (i m:Nat):Int:=sm (fun j=>if j<=m then f j*g (m-j) else 0) i
theorem tm_cv {f g:Nat->Int} {n m:Nat} (hf:∀ j,n<=j->f j=0):tm f g n m=cv f g m:=by
 unfold tm cv
 have e1:sm (fun j=>if j<=m then f j*g (m-j) else 0) (max n (m+1))=sm (fun j=>if j<=m then f j*g (m-j) else 0) n:=sm_zero (by omega) fun j a b=>by
  show (if j<=m then f j*g (m-j) else 0)=0
  rw [hf j a,aE]
  split <;> rfl
 have e2:sm (fun j=>if j<=m then f j*g (m-j) else 0) (max n (m+1))=sm (fun j=>if j<=m then f j*g (m-j) else 0) (m+1):=sm_zero (by omega) fun j a b=>if_neg (by omega)
 rw [← e1,e2]
 exact sm_congr fun j hj=>if_pos (by omega)
theorem tm_succ (f g:Nat->Int) (i m:Nat):tm f g (i+1) m=tm f g i m+(if i<=m then f i*g (m-i) else 0):=rfl
theorem cv_out {f g:Nat->Int} {a b k:Nat} (hf:∀ j,a<=j->f j=0) (hg:∀ j,b<=j->g j=0) (h:a+b-1<=k):cv f g k=0:=by
 unfold cv
 have:sm (fun j=>f j*g (k-j)) (k+1)=sm (fun j=>f j*g (k-j)) 0:=sm_zero (aC _) fun j _ hj=>by
  show f j*g (k-j)=0
  rcases am j a with c | c
  ·rw [hg (k-j) (by omega),bN]
  ·rw [hf j c,aE]
 rw [this]
 rfl
theorem cv_zl {f g:Nat->Int} {k:Nat} (h:∀ j,f j=0):cv f g k=0:=by
 unfold cv
 have:sm (fun j=>f j*g (k-j)) (k+1)=sm (fun j=>f j*g (k-j)) 0:=sm_zero (aC _) fun j _ _=>by
  show f j*g (k-j)=0
  rw [h j,aE]
 rw [this]
 rfl
theorem cv_zr {f g:Nat->Int} {k:Nat} (h:∀ j,g j=0):cv f g k=0:=by
 unfold cv
 have:sm (fun j=>f j*g (k-j)) (k+1)=sm (fun j=>f j*g (k-j)) 0:=sm_zero (aC _) fun j _ _=>by
  show f j*g (k-j)=0
  rw [h,bN]
 rw [this]
 rfl
theorem sm_lt {F:Nat->Int} {n b:Nat}:∀ {i:Nat},i<=2^b->(∀ j,j<i->Lt2 n (F j))->(sm F i).natAbs<=i*2^n
 | 0,_,_=>by simp [sm]
 | i+1,h,hF=>by
  have ih:=sm_lt (b:=b) (i:=i) (by omega) fun j hj=>hF j (by omega)
  have h1:=hF i (by omega)
  unfold Lt2 at h1
  rw [sm,aT]
  omega
theorem cv_lt {f g:Nat->Int} {n m k b:Nat} (hf:∀ j,Lt2 n (f j)) (hg:∀ j,Lt2 m (g j)) (hk:k+1<2^b):Lt2 (n+m+b) (cv f g k):=by
 have:=sm_lt (F:=fun j=>f j*g (k-j)) (n:=n+m) (b:=b) (i:=k+1) (by omega) fun j _=>(hf j).mul (hg _)
 unfold Lt2 cv
 rw [dr 2 (n+m) b]
 have p:0<2^(n+m):=bY (by decide)
 refine bO this ?_
 rw [bt]
 exact eY hk p
theorem cv_congr {f g f' g':Nat->Int} {k:Nat} (h:∀ j,f j=f' j) (h':∀ j,g j=g' j):cv f g k=cv f' g' k:=sm_congr fun j _=>by rw [h,h']
theorem sm_mul (F:Nat->Int) (c:Int) (n:Nat):sm (fun j=>F j*c) n=sm F n*c:=by
 induction n with
 | zero=>simp [sm]
 | succ n ih=>rw [sm,sm,ih,dY]
theorem cv_scale (f g:Nat->Int) (c:Int) (k:Nat):cv (fun j=>f j*c) g k=cv f g k*c:=by
 unfold cv
 rw [← sm_mul]
 exact sm_congr fun j _=>by grind
theorem sm_head (F:Nat->Int) (n:Nat):sm F (n+1)=F 0+sm (fun j=>F (j+1)) n:=by
 induction n with
 | zero=>simp [sm]
 | succ n ih=>rw [sm,ih,sm];omega
theorem sm_rev (F:Nat->Int) (n:Nat):sm F n=sm (fun j=>F (n-1-j)) n:=by
 induction n generalizing F with
 | zero=>rfl
 | succ n ih =>
  rw [sm_head (fun j=>F (n+1-1-j)) n,sm,ih F]
  have:sm (fun j=>F (n-1-j)) n=sm (fun j=>F (n+1-1-(j+1))) n:=sm_congr fun j hj=>by rw [show n+1-1-(j+1)=n-1-j by omega]
  rw [this,show n+1-1-0=n by omega]
  omega
theorem cv_comm (f g:Nat->Int) (k:Nat):cv f g k=cv g f k:=by
 unfold cv
 rw [sm_rev]
 refine sm_congr fun j hj=>?_
 rw [show k+1-1-j=k-j by omega,show k-(k-j)=j by omega,bg]
def fn (P:List Int):Nat->Int:=fun j=>P.getD j 0
theorem fn_out {P:List Int} {j:Nat} (h:P.length<=j):fn P j=0:=by
 unfold fn
 rw [ac,bq h]
 rfl
end Cv
namespace RV
open PySem PyProof.Rows
theorem owner_rv:Manifest.owners.lookup (String.ofList ['d','e','s','r','e','v','e','r'].reverse)=some Manifest.sig_reversed:=by kernel_rfl
theorem slot_next:Slot "reversed" "__next__" "reversed.__next__" := .of (owner := "reversed") (n := "__next__") (by rw [typeLookup_type,builtinLookup_eq_fast];kernel_rfl) (by decide +kernel) (by decide +kernel) (by decide +kernel) (by first | exact .inl (by decide +kernel) | exact .inr (by decide +kernel)) (by rw [isSubtype_type];kernel_rfl)
theorem slot_iter:Slot "reversed" "__iter__" "reversed.__iter__" := .of (owner := "reversed") (n := "__iter__") (by rw [typeLookup_type,builtinLookup_eq_fast];kernel_rfl) (by decide +kernel) (by decide +kernel) (by decide +kernel) (by first | exact .inl (by decide +kernel) | exact .inr (by decide +kernel)) (by rw [isSubtype_type];kernel_rfl)
theorem slot_init:Slot "reversed" "__init__" "object.__init__" := .of (owner := "object") (n := "__init__") (by rw [typeLookup_type,builtinLookup_eq_fast];kernel_rfl) (by decide +kernel) (by decide +kernel) (by decide +kernel) (by first | exact .inl (by decide +kernel) | exact .inr (by decide +kernel)) (by rw [isSubtype_type];kernel_rfl)
theorem entry_next:entryFor table "reversed.__next__" = some Builtin.«reversed.__next__» := entryFor_of_tree (by kernel_rfl)
theorem entry_iter:entryFor table "reversed.__iter__" = some Builtin.«dict_keyiterator.__iter__» := entryFor_alias (id' := "dict_keyiterator.__iter__") (by kernel_rfl) (by first | rfl | decide +kernel | (unfold String.splitOn;simp +decide [String.splitOnAux])) (by decide +kernel) (by kernel_rfl)
theorem args_next (a:Value):argsOk "reversed.__next__" ⟨[a],[]⟩:=by
 unfold argsOk;rw [signature?_of (id := "reversed.__next__") (n:=['_','_','t','x','e','n','_','_']) (o:=['d','e','s','r','e','v','e','r']) (by kernel_rfl) owner_rv];kernel_rfl
theorem args_iter (a:Value):argsOk "reversed.__iter__" ⟨[a],[]⟩:=by
 unfold argsOk;rw [signature?_of (id := "reversed.__iter__") (n:=['_','_','r','e','t','i','_','_']) (o:=['d','e','s','r','e','v','e','r']) (by kernel_rfl) owner_rv];kernel_rfl
theorem no_rev:typeLookup (.type "tuple") "__reversed__" = pure none:=by rw [typeLookup_type,builtinLookup_eq_fast];kernel_rfl
theorem called:TypeCalled "reversed" "reversed.__new__" "object.__init__" := ⟨by decide +kernel,by decide +kernel,⟨_,_,F.mro_reversed⟩,F.made_reversed,by decide +kernel,by rw [isSubtype_type];kernel_rfl,slot_init⟩
theorem notDict:isSubtype (.type "tuple") (.type "dict")=pure false:=by rw [isSubtype_type];kernel_rfl
section
variable {prog:Program} {w:World} {A:Around} {E:Value->Shared->Prop} {s:Shared}
theorem new_tuple (t:Addr) (items:Array Value) (n:Nat) (dct:Option Addr) (sl:Array (Option Value)) :
  Meets (Builtin.«reversed.__new__» ⟨[.type "reversed",.ref t],[]⟩) (fun _ R s=>s.heap.get? t=some { cls:=.type "tuple",dict:=dct,data:=.seq items n,slots:=sl }/\(items.size:Int)<2^63 /\
   ∀ tk,R (.ok (.ret (.ref s.heap.objs.size))) { s with heap:=s.heap.push { cls:=.type "reversed",data:=.fields #[.ref t,rawInt ((items.size:Int)-1)] },toks:=tk }) :=
 .of_wp fun prog w A R s h=>by
  obtain ⟨ht,hsz,h⟩:=h
  have hT:s.heap.IsTuple t items:=⟨_,ht,rfl,n,rfl⟩
  unfold Builtin.«reversed.__new__»
  refine wpAny_bind (wpAny_of_eq (newClass_reversed _) ?_)
  try dsimp only
  refine wpAny_bind (wpAny_of_eq (a:=()) (by first | rfl | kernel_rfl) ?_)
  refine wpAny_bind (wpAny_of_eq (a:=()) (by first | rfl | kernel_rfl) ?_)
  try dsimp only
  refine wpAny_bind (wpAny_specialOf hT.typeIs no_rev ?_)
  try dsimp only
  refine wpAny_bind ?_
  show wpAny _ _ (isInstance (.ref t) (.type "dict") >>= _) _ _ s
  refine wpAny_bind (wpAny_isInstance hT.typeIs notDict ?_)
  try dsimp only
  show wpAny _ _ (if false=true then _ else _) _ _ s
  rw [if_neg az]
  refine wpAny_bind (wpAny_specialOf hT.typeIs PyProof.Rows.slot_tuple_getitem.lookup ?_)
  try dsimp only
  show wpAny _ _ (if _=true then _ else _) _ _ s
  rw [if_pos (by decide)]
  refine wpAny_pure ?_
  show wpAny _ _ (if (!true)=true then _ else _) _ _ s
  rw [if_neg (by decide)]
  refine wpAny_bind (PyProof.Rows.len_tuple hT hsz ?_)
  refine wpAny_bind (m:=asInt? _) (wpAny_pure ?_)
  try dsimp only
  refine wpAny_bind ?_
  show wpAny _ _ (newObj (.type "reversed") (.fields #[.ref t,rawInt ((items.size:Int)-1)])) _ _ _
  refine wpAny_newObj_type ?_ (by size_fits)
  exact wpAny_pure ⟨_,rfl,h _⟩
theorem call_rev {t:Addr} {items:Array Value} {Q:Value->Shared->Prop} (hT:s.heap.IsTuple t items) (hsz:(items.size:Int)<2^63)
  (h:∀ tk,Q (.ref s.heap.objs.size) { s with heap:=s.heap.push { cls:=.type "reversed",data:=.fields #[.ref t,rawInt ((items.size:Int)-1)] },toks:=tk }):wpAny (model prog w) A (call (.type "reversed") [.ref t]) Q E s:=by
 obtain ⟨⟨c,dct,dt,sl⟩,hl,hc,n,hd⟩:=hT
 have hc':c = .type "tuple" := hc
 have hd':dt = .seq items n:=hd
 subst hc' hd'
 refine callType_new called (by decide) (F.typeCall_reversed_1 _) (F.newCall_reversed_1 _) (fun obj=>F.args_object_init_2 obj _) F.entry_reversed_new (new_tuple t items n dct sl) ⟨hl,hsz,fun tk=>?_⟩
 exact ⟨⟨_,Heap.get?_push_size _ rfl,rfl⟩,h tk⟩
def Is (h:Heap) (a t:Addr) (i:Int):Prop:=∃ o,h.get? a=some o/\o.cls = .type "reversed" /\ o.data = .fields #[.ref t,rawInt i]
theorem Is.ty {a t:Addr} {i:Int} (x:Is s.heap a t i):s.TypeIs (.ref a) "reversed" := let ⟨o,ho,hc,_⟩:=x;⟨o,ho,hc⟩
theorem iter_self {a t:Addr} {i:Int} {Q:Value->Shared->Prop} (x:Is s.heap a t i) (h:Q (.ref a) s):wpAny (model prog w) A (pyIter (.ref a)) Q E s:=by
 refine wpAny_pyIter_slot x.ty slot_iter (wpAny_call_entry slot_iter x.ty entry_iter ?_ (args_iter _))
 show wpAny _ _ (ret (.ref a)) _ _ s
 exact wpAny_pure ⟨_,rfl, "reversed",_,x.ty,slot_next.lookup,h⟩
theorem next_item {it t:Addr} {i:Nat} {items:Array Value} {x:Value} {Q:Option Value->Shared->Prop} (hit:Is s.heap it t (i:Int)) (hT:s.heap.IsTuple t items) (hx:items[i]? = some x) (hsz:(items.size:Int)<2^63)
  (hQ:∀ h' tk,Is h' it t ((i:Int)-1)->Heap.SameBut it s.heap h'->Q (some x) { s with heap:=h',toks:=tk }):wpAny (model prog w) A (pyNext (.ref it)) Q E s:=by
 obtain ⟨o,ho,hc,hd⟩:=id hit
 unfold pyNext
 refine wpAny_bind (wpAny_attempt (wpAny_callSpecial?_slot (name:=Str.ofString "__next__") hit.ty slot_next (wpAny_call_entry slot_next hit.ty entry_next ?_ (args_next _))))
 unfold Builtin.«reversed.__next__»
 refine wpAny_bind (wpAny_of_eq (a:=(Value.ref it,[])) rfl ?_)
 try dsimp only
 refine wpAny_bind (wpAny_field ho hd (x:=.ref t) rfl ?_)
 refine wpAny_bind (wpAny_field ho hd (x:=rawInt (i:Int)) rfl ?_)
 try dsimp only [rawInt]
 rw [if_neg (by omega)]
 refine wpAny_bind (wpAny_specialOf hT.typeIs PyProof.Rows.slot_tuple_getitem.lookup ?_)
 show wpAny _ _ (if false=true then _ else _) _ _ s
 rw [if_neg az]
 refine wpAny_bind (wpAny_mkInt ?_)
 have hlt:i<items.size:=(Array.getElem?_eq_some_iff.mp hx).1
 refine wpAny_bind (wpAny_attempt ?_)
 refine PyProof.Rows.getItem_tuple (j:=i) (x:=x) hT (by omega) (by omega) (by unfold seqIndex?;simp;omega) hx ?_
 try dsimp only
 refine wpAny_bind (wpAny_field (s:={ s with toks:=s.toks+1 }) ho hd (x:=rawInt (i:Int)) rfl ?_)
 try dsimp only [rawInt]
 refine wpAny_bind (wpAny_setField (s:={ s with toks:=s.toks+1 }) ho hd (by simp) (wpAny_pure ⟨x,rfl,wpAny_pure (hQ _ _ ?_ (Heap.SameBut.update ..))⟩))
 exact ⟨_,Heap.get?_update_self _ ho (Obj.isFreed_of_fields (Obj.data_mapFields hd _)),(Obj.cls_mapFields ..).trans hc,by rw [Obj.data_mapFields hd];simp [rawInt]⟩
theorem next_end {it t:Addr} {Q:Option Value->Shared->Prop} (hh:A.handled=none) (hit:Is s.heap it t (-1)) (hQ:∀ h',Heap.ExtBut it s.heap h'->Q none { s with heap:=h' }):wpAny (model prog w) A (pyNext (.ref it)) Q E s:=by
 obtain ⟨o,ho,hc,hd⟩:=id hit
 unfold pyNext
 refine wpAny_bind (wpAny_attempt (wpAny_callSpecial?_slot (name:=Str.ofString "__next__") hit.ty slot_next (wpAny_call_entry slot_next hit.ty entry_next ?_ (args_next _))))
 unfold Builtin.«reversed.__next__»
 refine wpAny_bind (wpAny_of_eq (a:=(Value.ref it,[])) rfl ?_)
 try dsimp only
 refine wpAny_bind (wpAny_field ho hd (x:=.ref t) rfl ?_)
 refine wpAny_bind (wpAny_field ho hd (x:=rawInt (-1)) rfl ?_)
 try dsimp only [rawInt]
 rw [if_pos (by decide)]
 refine wpAny_bind (wpAny_rule ?_)
 refine wpAny_bind ?_
 show wpAny _ _ (setField (.ref it) 1 (rawInt (-1)) >>= _) _ _ s
 refine wpAny_bind (wpAny_setField ho hd (by simp) ?_)
 have ho':=Heap.get?_update_self (h:=s.heap) (Obj.mapFields (·.setIfInBounds 1 (rawInt (-1)))) ho (Obj.isFreed_of_fields (Obj.data_mapFields hd _))
 refine wpAny_setField ho' (Obj.data_mapFields hd _) (by simp) ?_
 refine wpAny_bind ?_;unfold Builtin.SmallTypes.stopIteration;refine wpAny_bind ?_;simp only [newExc,newTuple];refine wpAny_bind (wpAny_newObj_type ?_ (by size_fits))
 refine wpAny_bind (m:=firstArgMember _ _) (wpAny_of_eq (a:=Value.none) (by first | rfl | (simp only [firstArgMember];rfl)) ?_);refine wpAny_newObj_type ?_ (by size_fits);simp only [raiseNew];refine wpAny_bind (wpAny_handled ?_)
 first | rw [show A.in1.handled=none from hh] | rw [hh]
 refine wpAny_bind (wpAny_pure (wpAny_throw ?_))
 refine wpAny_bind (wpAny_isInstance (T := "StopIteration") (b:=true) ⟨_,Heap.get?_push_size _ rfl,rfl⟩ isSubtype_stop ?_)
 refine wpAny_pure (hQ _ fun b o hb e=>?_)
 refine Heap.get?_push_of_some _ (Heap.get?_push_of_some _ ?_)
 exact (Heap.SameBut.update ..).extBut b o hb ((Heap.SameBut.update ..).extBut b o hb e)
end
end RV
namespace L2
open PySem PySem.Spec PyProof.Rows
theorem turn_rev {P:Program} {w:World} {K:PySem.W.Frag} {tg:Expr} (n:Nat) (a it:Addr):Turn P w K tg (⟨fun i H=>i<n/\∃ xs x,SqT K H a xs/\xs.length=n/\xs.reverse[i]? = some x,fun i H x H'=>H'=H/\∀ xs,SqT K H a xs->xs.reverse[i]? = some x,fun i H=>i=n⟩:It) [it] it (fun i h=>RV.Is h it a ((n:Int)-1-(i:Int))) where
 mem:=by simp
 obj:=fun i h st b hb=>by
  have e:b=it:=by simpa using hb
  subst e
  obtain ⟨o,e,c,d⟩:=st
  exact ⟨o,e,fun v z=>by rw [d] at z;cases z⟩
 keep:=fun i h h' st k=>by
  obtain ⟨o,e,r⟩:=st
  exact ⟨o,k it (by simp) o e,r⟩
 item:=by
  intro X hP hw hK hc i pins s σ H E I hf st hg
  subst hP hw hK
  obtain ⟨hlt,xs,x,hq,hn,hx⟩:=hg
  obtain ⟨its,rv,p,hz⟩:=I.tuple hq
  have hlen:=rv.length
  rw [bI (by omega)] at hx
  obtain ⟨u,hu,ru⟩:=rv.get hx
  obtain ⟨f0,f1,f2,f3,f4,f5⟩:=hf it (by simp)
  have e0:(n:Int)-1-(i:Int)=((xs.length-1-i:Nat):Int):=by omega
  have st':RV.Is s.heap it a ((xs.length-1-i:Nat):Int):=by rw [← e0];exact st
  have hn63:=line63
  refine RV.next_item (i:=xs.length-1-i) st' (show s.heap.IsTuple a its.toArray from p) (x:=u) (by simpa using hu) (by rw [ai];omega) fun h' tk st2 sb=>?_
  have I1:Inv X pins σ H { s with heap:=h',toks:=tk }:=I.turned (t':=tk) (fun b o hb e=>(sb.2 b hb).trans e) f0 f1 f3 f4 f5
  obtain ⟨o,e,c,d⟩:=id st2
  refine ⟨u,rfl,go_of (s:={ s with heap:=h',toks:=tk }) e c d (by decide) ⟨x,H,I1,ru,⟨rfl,fun ys hy=>?_⟩,?_,fun b hb=>(hf b hb).1⟩⟩
  ·rw [I.tuple_inj hy hq,bI (by omega)]
   exact hx
  ·show RV.Is h' it a ((n:Int)-1-((i+1:Nat):Int))
   rw [show (n:Int)-1-((i+1:Nat):Int)=((xs.length-1-i:Nat):Int)-1 by omega]
   exact st2
 done:=by
  intro X hP hw hK hc i pins s σ H E I hf st hg
  subst hP hw hK
  have hg':i=n:=hg
  subst hg'
  obtain ⟨f0,f1,f2,f3,f4,f5⟩:=hf it (by simp)
  have st':RV.Is s.heap it a (-1):=by
   have e:(i:Int)-1-(i:Int) = -1:=by omega
   rw [← e]
   exact st
  exact RV.next_end (I.ok.hd hc) st' fun h' eb=>⟨rfl,I.turned (t':=s.toks) (fun b o hb e=>eb b o hb e) f0 f1 f3 f4 f5⟩
 self:=fun _ _ _ _ _ st h=>RV.iter_self st h
end L2
namespace Hv
open L2
def hv (F:Nat->Int) (t u:Int):Nat->Int
 | 0=>0
 | n+1=>(hv F t u n+F n*t^n)*u
theorem pow_lt {r:Nat} {u:Int} (h:Lt2 r u):∀ i,Lt2 (r*i+1) (u^i)
 | 0=>by rw [aW];unfold Lt2;exact aA (show (1:Int).natAbs<2^1 by decide) (cw (by decide) (by omega))
 | i+1=>by
  rw [bf]
  exact ((pow_lt h i).mul h).mono (by rw [bE];omega)
theorem pow_pos {u:Int} (h:0<u):∀ i:Nat,0<u^i
 | 0=>by rw [aW];decide
 | i+1=>by rw [bf];exact ax (pow_pos h i) h
theorem hv_congr {F G:Nat->Int} {t u:Int} {n:Nat} (h:∀ j,j<n->F j=G j):hv F t u n=hv G t u n:=by
 induction n with
 | zero=>rfl
 | succ n ih=>rw [hv,hv,ih fun j hj=>h j (by omega),h n (by omega)]
theorem hv_up {F:Nat->Int} {t u:Int} {n:Nat} (h:∀ k,n<=k->F k=0):∀ j,hv F t u (n+j)=hv F t u n*u^j
 | 0=>by rw [fI,aW,bu]
 | j+1=>by rw [← d7,hv,hv_up h j,h (n+j) (by omega),aE,bS,bf,bJ]
theorem hv_add (F G:Nat->Int) (t u:Int):∀ n,hv (fun k=>F k+G k) t u n=hv F t u n+hv G t u n
 | 0=>rfl
 | n+1=>by rw [hv,hv,hv,hv_add F G t u n];grind
theorem hv_mul (F:Nat->Int) (c t u:Int):∀ n,hv (fun k=>F k*c) t u n=hv F t u n*c
 | 0=>by simp [hv]
 | n+1=>by rw [hv,hv,hv_mul F c t u n];grind
theorem hv_zero {F:Nat->Int} {t u:Int} {n:Nat} (h:∀ j,j<n->F j=0):hv F t u n=0:=by
 induction n with
 | zero=>rfl
 | succ n ih=>rw [hv,ih fun j hj=>h j (by omega),h n (by omega)];simp
theorem hv_shift (g:Nat->Int) (c t u:Int) (i:Nat):∀ k,hv (fun m=>if i<=m then c*g (m-i) else 0) t u (i+k)=c*t^i*hv g t u k
 | 0=>by
  rw [fI,hv_zero fun j hj=>if_neg (by omega)]
  simp [hv]
 | k+1=>by
  rw [← d7,hv,hv_shift g c t u i k,if_pos (by omega),show i+k-i=k by omega,hv,cB]
  grind
theorem hv_tm (f g:Nat->Int) (t u:Int) {m:Nat} (hg:∀ k,m<=k->g k=0) (n:Nat):∀ i,i<=n->hv (fun k=>Cv.tm f g i k) t u (n+m)=hv f t u i*u^(n-i)*hv g t u m
 | 0,_=>by
  rw [hv_zero (F:=fun k=>Cv.tm f g 0 k) fun j _=>rfl]
  simp [hv]
 | i+1,h=>by
  have ih:=hv_tm f g t u hg n i (by omega)
  have e:hv (fun k=>Cv.tm f g (i+1) k) t u (n+m)=hv (fun k=>Cv.tm f g i k+(if i<=k then f i*g (k-i) else 0)) t u (n+m):=hv_congr fun j _=>rfl
  rw [e,hv_add,ih]
  obtain ⟨d,rfl⟩:∃ d,n=i+1+d:=⟨n-(i+1),by omega⟩
  have e2:i+1+d+m=i+(m+(d+1)):=by omega
  rw [e2,hv_shift,hv_up hg (d+1),hv,show i+1+d-i=d+1 by omega,show i+1+d-(i+1)=d by omega,bf]
  grind
theorem hv_cv {f g:Nat->Int} {t u:Int} {n m:Nat} (hf:∀ k,n<=k->f k=0) (hg:∀ k,m<=k->g k=0):hv (Cv.cv f g) t u (n+m)=hv f t u n*hv g t u m:=by
 have e:=hv_tm f g t u hg n n (aj _)
 rw [bM,aW,bu] at e
 rw [← e]
 exact hv_congr fun j _=>(Cv.tm_cv hf).symm
end Hv
namespace Pc
open L2 Cv Hv
theorem sm_app (F:Nat->Int) (i:Nat):∀ n,sm F (i+n)=sm F i+sm (fun j=>F (i+j)) n
 | 0=>by simp [sm]
 | n+1=>by rw [← d7,sm,sm_app F i n,sm];omega
theorem sm_add (F G:Nat->Int):∀ n,sm (fun j=>F j+G j) n=sm F n+sm G n
 | 0=>rfl
 | n+1=>by rw [sm,sm,sm,sm_add F G n];omega
theorem cv_add_l (f g h:Nat->Int) (k:Nat):cv (fun j=>f j+g j) h k=cv f h k+cv g h k:=by
 unfold cv
 rw [← sm_add]
 exact sm_congr fun j _=>by rw [dY]
theorem cv_add_r (f g h:Nat->Int) (k:Nat):cv h (fun j=>f j+g j) k=cv h f k+cv h g k:=by
 unfold cv
 rw [← sm_add]
 exact sm_congr fun j _=>by rw [Int.mul_add]
theorem cv_mul_r (f g:Nat->Int) (c:Int) (k:Nat):cv f (fun j=>g j*c) k=cv f g k*c:=by
 unfold cv
 rw [← sm_mul]
 exact sm_congr fun j _=>by grind
theorem cv_shift (g h:Nat->Int) (c:Int) (i k:Nat):cv (fun m=>if i<=m then c*g (m-i) else 0) h k=if i<=k then c*cv g h (k-i) else 0:=by
 unfold cv
 by_cases hk:i<=k
 ·rw [if_pos hk]
  obtain ⟨d,rfl⟩:∃ d,k=i+d:=⟨k-i,by omega⟩
  rw [show i+d+1=i+(d+1) by omega,sm_app]
  have e1:sm (fun j=>(if i<=j then c*g (j-i) else 0)*h (i+d-j)) i=0:=by
   rw [sm_zero (n:=0) (aC _) fun j _ hj=>by show (if i<=j then _ else 0)*_=0;rw [if_neg (by omega),aE]]
   rfl
  rw [e1,cF,show i+d-i=d by omega,bg c,← sm_mul]
  refine sm_congr fun j _=>?_
  show (if i<=i+j then c*g (i+j-i) else 0)*h (i+d-(i+j))=g j*h (d-j)*c
  rw [if_pos (by omega),show i+j-i=j by omega,show i+d-(i+j)=d-j by omega]
  grind
 ·rw [if_neg hk,sm_zero (n:=0) (aC _) fun j _ hj=>by show (if i<=j then _ else 0)*_=0;rw [if_neg (by omega),aE]]
  rfl
theorem cv_tm (f g h:Nat->Int):∀ (n k:Nat),cv (fun m=>tm f g n m) h k=tm f (fun m=>cv g h m) n k
 | 0,k=>by
  have:cv (fun m=>tm f g 0 m) h k=0:=cv_zl fun j=>rfl
  rw [this]
  rfl
 | n+1,k=>by
  rw [tm_succ,← cv_tm f g h n k,← cv_shift g h (f n) n k,← cv_add_l]
  rfl
theorem cv_assoc {f g h:Nat->Int} {n:Nat} (hf:∀ k,n<=k->f k=0) (k:Nat):cv (fun m=>cv f g m) h k=cv f (fun m=>cv g h m) k:=by
 rw [← tm_cv (g:=fun m=>cv g h m) hf,← cv_tm f g h n k]
 exact cv_congr (fun j=>(tm_cv hf).symm) fun _=>rfl
def d0:Nat->Int:=fun k=>if k=0 then 1 else 0
theorem cv_d0 (f:Nat->Int) (k:Nat):cv d0 f k=f k:=by
 have:tm d0 f 1 k=cv d0 f k:=tm_cv fun j hj=>by show (if j=0 then (1:Int) else 0)=0;rw [if_neg (by omega)]
 rw [← this]
 show 0+(if 0<=k then d0 0*f (k-0) else 0)=f k
 rw [if_pos (aC _),bR]
 show 0+1*f k=f k
 omega
def cp (g:Nat->Int):Nat->(Nat->Int)
 | 0=>d0
 | n+1=>fun k=>cv (cp g n) g k
theorem cp_out {g:Nat->Int} {m:Nat} (hg:∀ k,m<=k->g k=0):∀ (n k:Nat),n*m+1<=k->cp g n k=0
 | 0,k,h=>by show (if k=0 then (1:Int) else 0)=0;rw [if_neg (by omega)]
 | n+1,k,h=>cv_out (a:=n*m+1) (b:=m) (cp_out hg n) hg (by rw [aT] at h;omega)
def pc (F g:Nat->Int) (U:Int):Nat->(Nat->Int)
 | 0=>fun _=>0
 | n+1=>fun k=>(pc F g U n k+F n*cp g n k)*U
theorem pc_out {F g:Nat->Int} {U:Int} {m:Nat} (hg:∀ k,m<=k->g k=0):∀ (n k:Nat),n*m+1<=k->pc F g U n k=0
 | 0,_,_=>rfl
 | n+1,k,h=>by
  rw [aT] at h
  show (pc F g U n k+F n*cp g n k)*U=0
  rw [pc_out hg n k (by omega),cp_out hg n k (by omega)]
  simp
theorem horner {F g M:Nat->Int} {U:Int} {L i k:Nat} {m:Nat} (hg:∀ k,m<=k->g k=0) (hi:i<L) (h:∀ j,pc F g U L j=U^i*pc F g U (L-i) j+U*cv (cp g (L-i)) M j) (M':Nat->Int) (hM:∀ j,M' j=cv M g j+(if j=0 then F (L-1-i)*U^i else 0)) :
  pc F g U L k=U^(i+1)*pc F g U (L-(i+1)) k+U*cv (cp g (L-(i+1))) M' k:=by
 obtain ⟨d,rfl⟩:∃ d,L=i+1+d:=⟨L-(i+1),by omega⟩
 rw [h k,show i+1+d-i=d+1 by omega,show i+1+d-(i+1)=d by omega,pc,bf]
 have e1:cv (cp g (d+1)) M k=cv (cp g d) (fun m=>cv M g m) k:=by
  show cv (fun m=>cv (cp g d) g m) M k=_
  rw [cv_assoc (n:=d*m+1) (cp_out hg d)]
  exact cv_congr (fun _=>rfl) fun j=>cv_comm _ _ _
 have e2:cv (cp g d) M' k=cv (cp g d) (fun m=>cv M g m) k+cp g d k*(F d*U^i):=by
  have:cv (cp g d) M' k=cv (cp g d) (fun j=>cv M g j+d0 j*(F d*U^i)) k:=cv_congr (fun _=>rfl) fun j=>by
   rw [hM j,show i+1+d-1-i=d by omega]
   unfold d0
   by_cases z:j=0
   ·rw [if_pos z,if_pos z,cC]
   ·rw [if_neg z,if_neg z,aE]
  rw [this,cv_add_r,cv_mul_r,cv_comm (cp g d) d0,cv_d0]
 rw [e1,e2]
 show U^i*((pc F g U d k+F d*cp g d k)*U)+_=_
 grind
theorem hv_one {t u:Int}:hv d0 t u 1=u:=by
 show (0+d0 0*t^0)*u=u
 rw [aW]
 show (0+1*1)*u=u
 omega
theorem hv_cp {g:Nat->Int} {t u:Int} {m:Nat} (hg:∀ k,m<=k->g k=0):∀ n,hv (cp g n) t u (n*m+1)=hv g t u m^n*u
 | 0=>by
  rw [dO,Nat.zero_add,aW,cC]
  exact hv_one
 | n+1=>by
  rw [show (n+1)*m+1=(n*m+1)+m by rw [aT];omega]
  show hv (cv (cp g n) g) t u _=_
  rw [hv_cv (cp_out hg n) hg,hv_cp hg n,bf]
  grind
theorem hv_pc {F g:Nat->Int} {U t u:Int} {m:Nat} (hg:∀ k,m<=k->g k=0):∀ n,hv (pc F g U n) t u (n*m+1)=u*hv F (hv g t u m) (U*u^m) n
 | 0=>by
  rw [hv_zero (F:=pc F g U 0) fun j _=>rfl]
  simp [hv]
 | n+1=>by
  have e:(n+1)*m+1=(n*m+1)+m:=by rw [aT];omega
  have e1:hv (pc F g U (n+1)) t u ((n+1)*m+1)=(hv (pc F g U n) t u ((n+1)*m+1)+hv (cp g n) t u ((n+1)*m+1)*F n)*U:=by
   rw [← hv_mul (cp g n) (F n),← hv_add,← hv_mul]
   exact hv_congr fun j _=>by show (pc F g U n j+F n*cp g n j)*U=_;rw [bg (F n)]
  rw [e1,e,hv_up (pc_out hg n) m,hv_up (cp_out hg n) m,hv_pc hg n,hv_cp hg n,hv]
  grind
theorem hv_scale (F:Nat->Int) (t u c:Int):∀ n,hv F (t*c) (u*c) n=hv F t u n*c^n
 | 0=>by simp [hv]
 | n+1=>by
  rw [hv,hv,hv_scale F t u c n,gr,bf]
  grind
structure Wq (P:List Int) (B t u a b:Int):Prop where
 pos:0<b
 is:a*(B*u^P.length)=hv (fn P) t u P.length*b
theorem Wq.at {P:List Int} {B t u a b:Int} (h:Wq P B t u a b) {N:Nat} (hN:P.length<=N):a*(B*u^N)=hv (fn P) t u N*b:=by
 obtain ⟨j,rfl⟩:∃ j,N=P.length+j:=⟨N-P.length,by omega⟩
 rw [hv_up (fun k hk=>fn_out hk) j,cB]
 have:=h.is
 calc a*(B*(u^P.length*u^j))=(a*(B*u^P.length))*u^j:=by grind
  _=hv (fn P) t u P.length*b*u^j:=by rw [this]
  _=_:=by grind
theorem Wq.of_at {P:List Int} {B t u a b:Int} (hu:0<u) (hb:0<b) {N:Nat} (hN:P.length<=N) (h:a*(B*u^N)=hv (fn P) t u N*b):Wq P B t u a b:=by
 refine ⟨hb,?_⟩
 obtain ⟨j,rfl⟩:∃ j,N=P.length+j:=⟨N-P.length,by omega⟩
 rw [hv_up (fun k hk=>fn_out hk) j,cB] at h
 have U:=pow_pos hu j
 refine aH (show u^j≠0 by omega) ?_
 calc a*(B*u^P.length)*u^j=a*(B*(u^P.length*u^j)):=by grind
  _=hv (fn P) t u P.length*u^j*b:=h
  _=_:=by grind
theorem Wq.comp {P G R:List Int} {B U C t u a b x y:Int} (hB:0<B) (hU:0<U) (hu:0<u) (h1:Wq G U t u a b) (h2:Wq P B a b x y) (hR:∀ k,R.getD k 0*(B*U^P.length)=pc (fn P) (fn G) U P.length k*C) (hl:R.length<=P.length*G.length+1):Wq R C t u x y:=by
 refine Wq.of_at hu h2.pos hl ?_
 have e0:hv (fn R) t u (P.length*G.length+1)*(B*U^P.length)=u*hv (fn P) (hv (fn G) t u G.length) (U*u^G.length) P.length*C:=by
  rw [← hv_pc (fun k hk=>fn_out hk),← hv_mul,← hv_mul]
  exact hv_congr fun j _=>hR j
 have e1:=h1.is
 have e2:=h2.is
 have e3:hv (fn P) (hv (fn G) t u G.length) (U*u^G.length) P.length*b^P.length=hv (fn P) a b P.length*(U*u^G.length)^P.length:=by
  rw [← hv_scale,← hv_scale,← e1,bg b]
 have e4:(U*u^G.length)^P.length*u=U^P.length*u^(P.length*G.length+1):=by
  rw [gr,← Int.pow_mul,bf,bt G.length]
  grind
 have b0:=pow_pos h1.pos P.length
 have U0:=pow_pos hU P.length
 generalize hv (fn R) t u (P.length*G.length+1)=r at *
 generalize hv (fn P) (hv (fn G) t u G.length) (U*u^G.length) P.length=X2 at *
 generalize hv (fn P) a b P.length=X1 at *
 generalize (U*u^G.length)^P.length=W at *
 generalize u^(P.length*G.length+1)=uN at *
 generalize U^P.length=UL at *
 generalize b^P.length=bL at *
 have nz:B*UL*bL≠0:=aw (ax (ax hB U0) b0)
 refine aH nz ?_
 calc x*(C*uN)*(B*UL*bL)=(x*(B*bL))*C*(UL*uN):=by grind
  _=(X1*y)*C*(W*u):=by rw [e2,e4]
  _=(X1*W)*y*C*u:=by grind
  _=(X2*bL)*y*C*u:=by rw [e3]
  _=(u*X2*C)*(bL*y):=by grind
  _=(r*(B*UL))*(bL*y):=by rw [e0]
  _=r*y*(B*UL*bL):=by grind
theorem all_zero {F:Nat->Int} {t:Int} (ht:0<t):∀ {n:Nat},(∀ k,k<n->(F k).natAbs<t.natAbs)->sm (fun k=>F k*t^k) n=0->∀ k,k<n->F k=0
 | 0,_,_,k,hk=>absurd hk (cu _)
 | n+1,hF,h,k,hk=>by
  rw [sm_head,aW,bu] at h
  have e:sm (fun j=>F (j+1)*t^(j+1)) n=sm (fun j=>F (j+1)*t^j) n*t:=by
   rw [← sm_mul]
   exact sm_congr fun j _=>by rw [bf];grind
  rw [e] at h
  have z:F 0=0:=by
   have d:t∣F 0:=⟨- sm (fun j=>F (j+1)*t^j) n,by grind⟩
   have l:=hF 0 (by omega)
   exact Int.eq_zero_of_dvd_of_natAbs_lt_natAbs d l
  rw [z,cF] at h
  have h':sm (fun j=>F (j+1)*t^j) n=0:=by
   rcases bT.mp h with q | q
   ·exact q
   ·omega
  cases k with
  | zero=>exact z
  | succ k=>exact all_zero (F:=fun j=>F (j+1)) ht (fun j hj=>hF (j+1) (by omega)) h' k (by omega)
theorem hv_sm (F:Nat->Int) (t:Int):∀ n,hv F t 1 n=sm (fun k=>F k*t^k) n
 | 0=>rfl
 | n+1=>by rw [hv,hv_sm F t n,sm,bu]
theorem same_of_worth {R S:List Int} {C D:Int} (f:Po.Fm R C) (f':Po.Fm S D) (h:∀ t:Int,0<t->∃ x y,Wq R C t 1 x y/\Wq S D t 1 x y):R=S/\C=D:=by
 refine Po.uniq f f' fun k=>?_
 let N:=max R.length S.length
 let F:Nat->Int:=fun j=>fn R j*D-fn S j*C
 have bd:∃ t:Int,0<t/\∀ j,j<N->(F j).natAbs<t.natAbs:=by
  have:∀ n:Nat,∃ t:Int,0<t/\∀ j,j<n->(F j).natAbs<t.natAbs:=by
   intro n
   induction n with
   | zero=>exact ⟨1,by decide,fun j h=>absurd h (cu _)⟩
   | succ n ih =>
    obtain ⟨t,t0,ht⟩:=ih
    refine ⟨t+((F n).natAbs:Int)+1,by omega,fun j hj=>?_⟩
    rcases bV (ev hj) with e | e
    ·rw [e];omega
    ·have:=ht j e;omega
  exact this N
 obtain ⟨t,t0,ht⟩:=bd
 obtain ⟨x,y,w1,w2⟩:=h t t0
 have e1:=w1.at (N:=N) (by omega)
 have e2:=w2.at (N:=N) (by omega)
 rw [Int.one_pow,bu] at e1 e2
 have z:sm (fun k=>F k*t^k) N=0:=by
  rw [← hv_sm]
  have:hv F t 1 N=hv (fn R) t 1 N*D+hv (fn S) t 1 N*(-C):=by
   rw [← hv_mul,← hv_mul,← hv_add]
   exact hv_congr fun j _=>by show fn R j*D-fn S j*C=_;grind
  rw [this]
  have y0:=w1.pos
  refine aH (show y≠0 by omega) ?_
  calc (hv (fn R) t 1 N*D+hv (fn S) t 1 N * -C)*y=(hv (fn R) t 1 N*y)*D-(hv (fn S) t 1 N*y)*C:=by grind
   _=(x*C)*D-(x*D)*C:=by rw [e1,e2]
   _=0*y:=by grind
 rcases am k N with c | c
 ·have:=all_zero t0 ht z k c
  have q:fn R k*D-fn S k*C=0:=this
  show fn R k*D=fn S k*C
  omega
 ·show fn R k*D=fn S k*C
  rw [fn_out (P:=R) (by omega),fn_out (P:=S) (by omega)]
  simp
theorem cp_lt {g:Nat->Int} {m l:Nat} (hg:∀ k,l<=k->g k=0) (hs:∀ k,Lt2 m (g k)):∀ n,n*l<=400->∀ k,Lt2 ((m+9)*n+1) (cp g n k)
 | 0,_,k=>by
  show Lt2 _ (if k=0 then (1:Int) else 0)
  split
  ·unfold Lt2;exact aA (show (1:Int).natAbs<2^1 by decide) (cw (by decide) (by omega))
  ·exact bY (by decide)
 | n+1,h,k=>by
  rw [aT] at h
  have ih:=cp_lt hg hs n (by omega)
  rcases am k 500 with c | c
  ·exact (cv_lt (b:=9) ih hs (by omega)).mono (by rw [bE];omega)
  ·rw [cp_out hg (n+1) k (by rw [aT];omega)]
   exact bY (by decide)
theorem pc_lt {F g:Nat->Int} {U:Int} {n m c l:Nat} (hg:∀ k,l<=k->g k=0) (hF:∀ k,Lt2 n (F k)) (hs:∀ k,Lt2 m (g k)) (hU:Lt2 c U):∀ i,i*l<=400->∀ k,Lt2 (n+(m+c+10)*i+1) (pc F g U i k)
 | 0,_,k=>bY (by decide)
 | i+1,h,k=>by
  rw [aT] at h
  have ih:=pc_lt hg hF hs hU i (by omega) k
  have h2:Lt2 (n+(m+c+10)*i+1) (F i*cp g i k):=((hF i).mul (cp_lt hg hs i (by omega) k)).mono (by
   have:(m+9)*i<=(m+c+10)*i:=bB _ (by omega)
   omega)
  exact ((ih.add h2).mul hU).mono (by rw [bE];omega)
def X:List Int:=[0,1]
theorem fn_X (k:Nat):fn X k=if k=1 then 1 else 0:=by
 match k with
 | 0=>rfl
 | 1=>rfl
 | k+2 =>
  rw [fn_out (P:=X) (by show 2<=_;omega),if_neg (by omega)]
theorem X_fm:Po.Fm X 1:=⟨by decide,.inr (by decide),by decide⟩
theorem cv_X (f:Nat->Int) (k:Nat):cv f (fn X) k=if k=0 then 0 else f (k-1):=by
 rw [cv_comm,← tm_cv (n:=2) (fun j hj=>fn_out hj)]
 show 0+(if 0<=k then fn X 0*f (k-0) else 0)+(if 1<=k then fn X 1*f (k-1) else 0)=_
 have e0:fn X 0=0:=rfl
 have e1:fn X 1=1:=rfl
 rw [e0,e1]
 by_cases z:k=0
 ·subst z
  simp
 ·rw [if_neg z,if_pos (show 1<=k by omega)]
  simp
def Of (P:List Int) (B:Int) (G:List Int) (U:Int) (R:List Int) (C:Int):Prop:=Po.Fm R C/\∀ k,R.getD k 0*(B*U^P.length)=pc (fn P) (fn G) U P.length k*C
theorem Of.len {P G R:List Int} {B U C:Int} (hB:0<B) (hU:0<U) (h:Of P B G U R C):R.length<=P.length*G.length+1:=by
 rcases h.1.last with e | e
 ·subst e;exact aC _
 ·rcases am (P.length*G.length+1) R.length with c | c
  ·refine absurd ?_ e
   have e3:=h.2 (R.length-1)
   rw [pc_out (m:=G.length) (fun k hk=>fn_out hk) _ _ (by omega),aE] at e3
   rcases bT.mp e3 with q | q
   ·exact q
   ·have:=ax hB (pow_pos hU P.length)
    omega
  ·exact c
structure Pz (n b:Nat) (P:List Int) (B:Int):Prop where
 fm:Po.Fm P B
 tops:∀ k,Lt2 n (P.getD k 0)
 bot:Lt2 b B
theorem Pz.mono {n b n' b':Nat} {P:List Int} {B:Int} (h:Pz n b P B) (l:n<=n') (l':b<=b'):Pz n' b' P B:=⟨h.fm,fun k=>(h.tops k).mono l,h.bot.mono l'⟩
theorem Pz.of {n b:Nat} {P:List Int} {f:Nat->Int} {B c:Int} (F:Po.Fm P B) (hc:0<c) (h:∀ k,P.getD k 0*c=f k*B) (h1:∀ k,Lt2 n (f k)) (h2:Lt2 b c):Pz n b P B :=
 ⟨F,fun k=>(h1 k).le ((Po.size F hc h).2 k),h2.le (Po.size F hc h).1⟩
theorem Of.size {P G R:List Int} {B U C:Int} {n b m c:Nat} (h:Of P B G U R C) (z1:Pz n b P B) (z2:Pz m c G U) (hl:P.length*G.length<=400):Pz (n+(m+c+10)*P.length+1) (b+(c*P.length+1)) R C:=by
 have Y:=ax z1.fm.pos (pow_pos z2.fm.pos P.length)
 exact Pz.of h.1 Y h.2 (fun k=>pc_lt (fun k hk=>fn_out hk) (fun k=>z1.tops k) (fun k=>z2.tops k) z2.bot P.length hl k) (z1.bot.mul (pow_lt z2.bot P.length))
theorem cp_out' {g:Nat->Int} {m:Nat} (hg:∀ k,m<=k->g k=0):∀ (n k:Nat),n*(m-1)+1<=k->cp g n k=0
 | 0,k,h=>by show (if k=0 then (1:Int) else 0)=0;rw [if_neg (by omega)]
 | n+1,k,h=>cv_out (a:=n*(m-1)+1) (b:=m) (cp_out' hg n) hg (by rw [aT] at h;omega)
theorem pc_out' {F g:Nat->Int} {U:Int} {m:Nat} (hg:∀ k,m<=k->g k=0):∀ (n k:Nat),(n-1)*(m-1)+1<=k->pc F g U n k=0
 | 0,_,_=>rfl
 | n+1,k,h=>by
  rw [cE] at h
  have:(n-1)*(m-1)<=n*(m-1):=bB _ (by omega)
  show (pc F g U n k+F n*cp g n k)*U=0
  rw [pc_out' hg n k (by omega),cp_out' hg n k (by omega)]
  simp
theorem Of.deg {P G R:List Int} {B U C:Int} (hB:0<B) (hU:0<U) (h:Of P B G U R C):R.length<=(P.length-1)*(G.length-1)+1:=by
 rcases h.1.last with e | e
 ·subst e;exact aC _
 ·rcases am ((P.length-1)*(G.length-1)+1) R.length with c | c
  ·refine absurd ?_ e
   have e3:=h.2 (R.length-1)
   rw [pc_out' (m:=G.length) (fun k hk=>fn_out hk) _ _ (by omega),aE] at e3
   rcases bT.mp e3 with q | q
   ·exact q
   ·have:=ax hB (pow_pos hU P.length)
    omega
  ·exact c
theorem len_of {R:List Int} {C c:Int} {f:Nat->Int} {N:Nat} (F:Po.Fm R C) (hc:0<c) (h:∀ k,R.getD k 0*c=f k*C) (hf:∀ k,N<=k->f k=0):R.length<=N:=by
 rcases F.last with e | e
 ·subst e;exact aC _
 ·rcases am N R.length with z | z
  ·refine absurd ?_ e
   have e3:=h (R.length-1)
   rw [hf _ (by omega),aE] at e3
   rcases bT.mp e3 with q | q
   ·exact q
   ·omega
  ·exact z
theorem X_pz:Pz 1 1 X 1:=⟨X_fm,fun k=>by
 show Lt2 1 (fn X k)
 rw [fn_X]
 split <;> (unfold Lt2;decide),by unfold Lt2;decide⟩
end Pc
namespace L2
instance decLt2 (n:Nat) (i:Int):Decidable (Lt2 n i):=inferInstanceAs (Decidable (i.natAbs<2^n))
end L2
namespace Pc
open L2 Cv Hv
theorem cp1 (g:Nat->Int) (k:Nat):cp g 1 k=g k:=cv_d0 g k
def St (ta ba tb bb:Int) (P:List Int) (B:Int):Prop:=Po.Fm P B/\∀ k,P.getD k 0*(ba*bb)=[tb*ba,ta*bb].getD k 0*B
theorem two_out (x y:Int) (k:Nat):[x,y].getD (k+2) 0=0:=by simp
theorem step_o {R G T:List Int} {M:Nat->Int} {B U W C tb:Int} {k:Nat} (c0:0<C) (hR:∀ j,R.getD j 0*(B*W)=M j*U*C) (hT:T.getD k 0*(C*U)=cv (fn R) (fn G) k*tb):T.getD k 0*(B*(W*U))=cv M (fn G) k*U*tb:=by
 have e1:cv (fn R) (fn G) k*(B*W)=cv M (fn G) k*(U*C):=by
  rw [← cv_scale,← cv_scale]
  exact cv_congr (fun j=>by show R.getD j 0*(B*W)=_;rw [hR j];grind) fun _=>rfl
 refine aH (show C≠0 by omega) ?_
 generalize cv (fn R) (fn G) k=X at *
 generalize cv M (fn G) k=Y at *
 generalize T.getD k 0=Tk at *
 calc Tk*(B*(W*U))*C=(Tk*(C*U))*(B*W):=by grind
  _=(X*tb)*(B*W):=by rw [hT]
  _=(X*(B*W))*tb:=by grind
  _=(Y*(U*C))*tb:=by rw [e1]
  _=_:=by grind
theorem step_p {S T E:Int} {B W U tb e sb q x:Int} (t0:0<tb) (e0:0<e) (hT:T*(B*(W*U))=q*U*tb) (hE:E*B=x*e) (hS:S*(tb*e)=(T*e+E*tb)*sb):S*(B*(W*U))=(q+x*W)*U*sb:=by
 refine aH (show tb*e≠0 from aw (ax t0 e0)) ?_
 calc S*(B*(W*U))*(tb*e)=(S*(tb*e))*(B*(W*U)):=by grind
  _=((T*e+E*tb)*sb)*(B*(W*U)):=by rw [hS]
  _=((T*(B*(W*U)))*e+(E*B)*(W*U)*tb)*sb:=by grind
  _=((q*U*tb)*e+(x*e)*(W*U)*tb)*sb:=by rw [hT,hE]
  _=_:=by grind
end Pc
namespace Qp
open L2 Cv Hv Pc
theorem ne_of_pos {b:Int} (h:0<b):(b:Rat)≠0:=fun z=>by
 have:=fk.mp z
 omega
theorem ne_of_ne {b:Int} (h:b≠0):(b:Rat)≠0:=fun z=>h (fk.mp z)
theorem pow_ne {b:Rat} (h:b≠0):∀ n:Nat,b^n≠0
 | 0=>by rw [cD];decide
 | n+1=>fun z=>by
  rw [cQ] at z
  rcases cI.mp z with w | w
  ·exact pow_ne h n w
  ·exact h w
theorem pow_div (a:Rat) {b:Rat} (h:b≠0):∀ n:Nat,(a / b)^n*b^n=a^n
 | 0=>by rw [cD,cD,cD];grind
 | n+1=>by
  have ih:=pow_div a h n
  rw [cQ,cQ,cQ,← ih]
  grind
theorem div_eq {a b c d:Int} (hb:b≠0) (hd:d≠0):((a:Rat) / (b:Rat)=(c:Rat) / (d:Rat))↔a*d=c*b:=by
 have h1:=ne_of_ne hb
 have h2:=ne_of_ne hd
 constructor
 ·intro h
  have:(a:Rat)*(d:Rat)=(c:Rat)*(b:Rat):=by grind
  rw [← aF,← aF] at this
  exact eQ.mp this
 ·intro h
  have:(a:Rat)*(d:Rat)=(c:Rat)*(b:Rat):=by rw [← aF,← aF,h]
  grind
theorem num_den (x:Rat):∃ t u:Int,0<u/\x=(t:Rat) / (u:Rat):=by
 refine ⟨x.num,(x.den:Int),?_,?_⟩
 ·have:=d9 x.den_nz
  omega
 ·have:=Rat.num_divInt_den x
  rw [Rat.divInt_eq_div] at this
  exact this.symm
def ei (F:Nat->Int) (x:Rat):Nat->Rat
 | 0=>0
 | n+1=>ei F x n+(F n:Rat)*x^n
theorem ei_up {F:Nat->Int} {x:Rat} {n:Nat} (h:∀ k,n<=k->F k=0):∀ j,ei F x (n+j)=ei F x n
 | 0=>rfl
 | j+1=>by
  rw [← d7,ei,ei_up h j,h (n+j) (by omega)]
  grind
theorem ei_lin {F G:Nat->Int} {a b:Int} {x:Rat} (h:∀ k,F k*a=G k*b):∀ n,ei F x n*(a:Rat)=ei G x n*(b:Rat)
 | 0=>by rw [ei,ei];grind
 | n+1=>by
  have ih:=ei_lin (x:=x) h n
  have e:(F n:Rat)*(a:Rat)=(G n:Rat)*(b:Rat):=by rw [← aF,← aF,h n]
  rw [ei,ei]
  grind
theorem ei_add (F G:Nat->Int) (x:Rat):∀ n,ei (fun k=>F k+G k) x n=ei F x n+ei G x n
 | 0=>by rw [ei,ei,ei];grind
 | n+1=>by
  rw [ei,ei,ei,ei_add F G x n,eU]
  grind
theorem ei_mul (F:Nat->Int) (c:Int) (x:Rat):∀ n,ei (fun k=>F k*c) x n=ei F x n*(c:Rat)
 | 0=>by rw [ei,ei];grind
 | n+1=>by
  rw [ei,ei,ei_mul F c x n,aF]
  grind
theorem hv_ei (F:Nat->Int) (t:Int) {u:Int} (hu:0<u):∀ n,((hv F t u n:Int):Rat)=(u:Rat)^n*ei F ((t:Rat) / (u:Rat)) n
 | 0=>by rw [hv,ei];grind
 | n+1=>by
  have hn:=ne_of_pos hu
  have ih:=hv_ei F t hu n
  have p:=pow_div (t:Rat) hn n
  rw [hv,ei,aF,eU,aF,eO,ih,cQ,← p]
  grind
def E (P:List Int) (B:Int) (x:Rat):Rat:=ei (fn P) x P.length / (B:Rat)
theorem E_at {P:List Int} {B:Int} {x:Rat} {N:Nat} (h:P.length<=N):E P B x=ei (fn P) x N / (B:Rat):=by
 obtain ⟨j,rfl⟩:∃ j,N=P.length+j:=⟨N-P.length,by omega⟩
 rw [ei_up (fun k hk=>fn_out hk) j]
 rfl
theorem wq {P:List Int} {B t u a b:Int} (hB:0<B) (hu:0<u) (hb:0<b):Wq P B t u a b↔E P B ((t:Rat) / (u:Rat))=(a:Rat) / (b:Rat):=by
 have nB:=ne_of_pos hB
 have nu:=ne_of_pos hu
 have nb:=ne_of_pos hb
 have nU:=pow_ne nu P.length
 have key:=hv_ei (fn P) t hu P.length
 constructor
 ·intro h
  have e:=congrArg (fun z:Int=>(z:Rat)) h.is
  simp only [aF,eO] at e
  rw [key] at e
  unfold E
  generalize (u:Rat)^P.length=U at *
  generalize ei (fn P) ((t:Rat) / (u:Rat)) P.length=X at *
  have:(a:Rat)*(B:Rat)=X*(b:Rat):=by
   have:((a:Rat)*(B:Rat)-X*(b:Rat))*U=0:=by grind
   rcases cI.mp this with w | w
   ·grind
   ·exact absurd w nU
  grind
 ·intro h
  refine ⟨hb,?_⟩
  unfold E at h
  have:((a*(B*u^P.length):Int):Rat)=((hv (fn P) t u P.length*b:Int):Rat):=by
   simp only [aF,eO]
   rw [key]
   generalize (u:Rat)^P.length=U at *
   generalize ei (fn P) ((t:Rat) / (u:Rat)) P.length=X at *
   have:X*(b:Rat)=(a:Rat)*(B:Rat):=by grind
   grind
  exact eQ.mp this
theorem E_of {P G R:List Int} {B U C:Int} (hB:0<B) (hU:0<U) (h:Of P B G U R C) (x:Rat):E R C x=E P B (E G U x):=by
 obtain ⟨t,u,hu,rfl⟩:=num_den x
 obtain ⟨a,b,hb,e1⟩:=num_den (E G U ((t:Rat) / (u:Rat)))
 obtain ⟨c,d,hd,e2⟩:=num_den (E P B ((a:Rat) / (b:Rat)))
 rw [e1,e2]
 exact (wq h.1.pos hu hd).mp (Wq.comp hB hU hu ((wq hU hu hb).mpr e1) ((wq hB hb hd).mpr e2) h.2 (h.len hB hU))
theorem E_inj {R S:List Int} {C D:Int} (f:Po.Fm R C) (f':Po.Fm S D) (h:∀ x,E R C x=E S D x):R=S/\C=D:=by
 refine same_of_worth f f' fun t ht=>?_
 obtain ⟨a,b,hb,e⟩:=num_den (E R C ((t:Rat) / ((1:Int):Rat)))
 exact ⟨a,b,(wq f.pos (by decide) hb).mpr e,(wq f'.pos (by decide) hb).mpr ((h _).symm.trans e)⟩
theorem E_tops {R:List Int} {C c:Int} {f:Nat->Int} {x:Rat} {N:Nat} (hC:0<C) (hc:c≠0) (h:∀ k,R.getD k 0*c=f k*C) (hN:R.length<=N):E R C x=ei f x N / (c:Rat):=by
 rw [E_at hN]
 have e:=ei_lin (F:=fn R) (G:=f) (x:=x) h N
 have n1:=ne_of_pos hC
 have n2:=ne_of_ne hc
 grind
theorem E_sum {P1 P2 R:List Int} {B1 B2 C:Int} (h1:0<B1) (h2:0<B2) (hC:0<C) (h:∀ k,R.getD k 0*(B1*B2)=(P1.getD k 0*B2+P2.getD k 0*B1)*C) (x:Rat):E R C x=E P1 B1 x+E P2 B2 x:=by
 have l1:P1.length<=P1.length+P2.length+R.length:=by omega
 have l2:P2.length<=P1.length+P2.length+R.length:=by omega
 have l3:R.length<=P1.length+P2.length+R.length:=by omega
 rw [E_tops hC (aw (ax h1 h2)) h l3,E_at l1,E_at l2,ei_add,ei_mul,ei_mul,aF]
 have n1:=ne_of_pos h1
 have n2:=ne_of_pos h2
 show (ei (fn P1) x _*_+ei (fn P2) x _*_) / _=_
 generalize ei (fn P1) x (P1.length+P2.length+R.length)=X
 generalize ei (fn P2) x (P1.length+P2.length+R.length)=Y
 grind
theorem ei_cv {f g:Nat->Int} {n m:Nat} (hf:∀ k,n<=k->f k=0) (hg:∀ k,m<=k->g k=0) (x:Rat):ei (cv f g) x (n+m)=ei f x n*ei g x m:=by
 obtain ⟨t,u,hu,rfl⟩:=num_den x
 have e:=congrArg (fun z:Int=>(z:Rat)) (hv_cv (t:=t) (u:=u) hf hg)
 simp only [aF] at e
 rw [hv_ei _ _ hu,hv_ei _ _ hu,hv_ei _ _ hu] at e
 have n1:=pow_ne (ne_of_pos hu) n
 have n2:=pow_ne (ne_of_pos hu) m
 have e3:(u:Rat)^(n+m)=(u:Rat)^n*(u:Rat)^m:=by grind
 rw [e3] at e
 generalize (u:Rat)^n=a at *
 generalize (u:Rat)^m=b at *
 generalize ei (cv f g) ((t:Rat) / (u:Rat)) (n+m)=X at *
 generalize ei f ((t:Rat) / (u:Rat)) n=Y at *
 generalize ei g ((t:Rat) / (u:Rat)) m=Z at *
 have:(X-Y*Z)*(a*b)=0:=by grind
 rcases cI.mp this with w | w
 ·grind
 ·rcases cI.mp w with v | v
  ·exact absurd v n1
  ·exact absurd v n2
theorem E_times {P1 P2 R:List Int} {B1 B2 C:Int} (h1:0<B1) (h2:0<B2) (f:Po.Fm R C) (h:∀ k,R.getD k 0*(B1*B2)=cv (fn P1) (fn P2) k*C) (x:Rat):E R C x=E P1 B1 x*E P2 B2 x:=by
 have hC:=f.pos
 have p12:=ax h1 h2
 have l:R.length<=P1.length+P2.length:=len_of f p12 h fun k hk=>cv_out (a:=P1.length) (b:=P2.length) (fun j h=>fn_out h) (fun j h=>fn_out h) (by omega)
 rw [E_tops hC (aw p12) h l,ei_cv (fun k h=>fn_out h) (fun k h=>fn_out h),aF]
 have n1:=ne_of_pos h1
 have n2:=ne_of_pos h2
 unfold E
 grind
theorem ei1 (F:Nat->Int) (x:Rat):ei F x 1=(F 0:Rat):=by
 show 0+(F 0:Rat)*x^0=_
 rw [cD]
 grind
theorem ei2 (F:Nat->Int) (x:Rat):ei F x 2=(F 0:Rat)+(F 1:Rat)*x:=by
 show ei F x 1+(F 1:Rat)*x^1=_
 rw [ei1,Rat.pow_one]
theorem E_two {P:List Int} {B:Int} (l:P.length<=2) (x:Rat):E P B x=((P.getD 0 0:Int):Rat) / (B:Rat)+((P.getD 1 0:Int):Rat) / (B:Rat)*x:=by
 rw [E_at l,ei2]
 show (((P.getD 0 0:Int):Rat)+((P.getD 1 0:Int):Rat)*x) / _=_
 grind
theorem E_const {R:List Int} {C c b:Int} (f:Po.Fm R C) (hb:0<b) (h:∀ k,R.getD k 0*b=[c].getD k 0*C) (x:Rat):E R C x=(c:Rat) / (b:Rat):=by
 have l:R.length<=1:=len_of f hb h fun k hk=>by
  obtain ⟨j,rfl⟩:∃ j,k=j+1:=⟨k-1,by omega⟩
  simp
 rw [E_tops f.pos (aw hb) h l,ei1]
 rfl
theorem E_St {ta ba tb bb B:Int} {P:List Int} (h:St ta ba tb bb P B) (h1:0<ba) (h2:0<bb) (x:Rat):E P B x=(ta:Rat) / (ba:Rat)*x+(tb:Rat) / (bb:Rat):=by
 have p:=ax h1 h2
 have l:P.length<=2:=len_of h.1 p h.2 fun k hk=>by
  obtain ⟨j,rfl⟩:∃ j,k=j+2:=⟨k-2,by omega⟩
  exact two_out _ _ _
 rw [E_tops h.1.pos (aw p) h.2 l,ei2]
 show (((tb*ba:Int):Rat)+((ta*bb:Int):Rat)*x) / ((ba*bb:Int):Rat)=_
 rw [aF,aF,aF]
 have n1:=ne_of_pos h1
 have n2:=ne_of_pos h2
 grind
theorem E_X (x:Rat):E X 1 x=x:=by
 rw [E_two (by decide)]
 show ((0:Int):Rat) / ((1:Int):Rat)+((1:Int):Rat) / ((1:Int):Rat)*x=x
 grind
def q (P:List Int) (B:Int) (k:Nat):Rat:=((P.getD k 0:Int):Rat) / (B:Rat)
theorem q_of {R:List Int} {C c:Int} {f:Nat->Int} (hC:0<C) (hc:c≠0) (h:∀ k,R.getD k 0*c=f k*C) (k:Nat):q R C k=((f k:Int):Rat) / (c:Rat):=(div_eq (aw hC) hc).mpr (h k)
theorem q_out {P:List Int} {B:Int} {k:Nat} (h:P.length<=k):q P B k=0:=by
 unfold q
 rw [ac,bq h]
 show ((0:Int):Rat) / _=0
 grind
theorem q_lead {P:List Int} {B:Int} (f:Po.Fm P B) (h:P≠[]):q P B (P.length-1)≠0:=by
 rcases f.last with e | e
 ·exact absurd e h
 ·unfold q
  have n1:=ne_of_ne e
  have n2:=ne_of_pos f.pos
  intro z
  generalize ((P.getD (P.length-1) 0:Int):Rat)=a at *
  grind
end Qp
namespace L2
open PySem Qp
variable {K:PySem.W.Frag} {H H':Hp} {v:V} {r:Rat} {n b n' b':Nat}
theorem Fq.ne {p:Addr} {t u:Int} (hu:0<u) (e:r=(t:Rat) / (u:Rat)):r≠0↔t≠0:=by
 have n1:=ne_of_pos hu
 subst e
 constructor
 ·intro h z
  subst z
  refine h ?_
  have:((0:Int):Rat)=0:=rfl
  rw [this]
  grind
 ·intro h z
  have h':=ne_of_ne h
  generalize (t:Rat)=a at *
  grind
end L2
namespace Qp
open L2 Cv Hv Pc
theorem q_zero {P:List Int} {B:Int}:E P B 0=q P B 0:=by
 unfold E q
 have:∀ n,0<n->ei (fn P) 0 n=((P.getD 0 0:Int):Rat):=by
  intro n hn
  induction n with
  | zero=>omega
  | succ n ih =>
   rw [ei]
   cases n with
   | zero =>
    rw [ei,cD]
    show 0+((P.getD 0 0:Int):Rat)*1=_
    grind
   | succ n =>
    rw [ih (by omega),cQ]
    grind
 cases hP:P.length with
 | zero =>
  have:P=[]:=bP.mp hP
  subst this
  show 0 / _=((0:Int):Rat) / _
  rfl
 | succ n=>rw [this (n+1) (by omega)]
theorem q_sum {P1 P2 R:List Int} {B1 B2 C:Int} (h1:0<B1) (h2:0<B2) (hC:0<C) (h:∀ k,R.getD k 0*(B1*B2)=(P1.getD k 0*B2+P2.getD k 0*B1)*C) (k:Nat):q R C k=q P1 B1 k+q P2 B2 k:=by
 have e:=q_of (f:=fun k=>P1.getD k 0*B2+P2.getD k 0*B1) hC (aw (ax h1 h2)) h k
 rw [e]
 have n1:=ne_of_pos h1
 have n2:=ne_of_pos h2
 unfold q
 simp only [aF,eU]
 grind
end Qp
namespace HT
open PySem PyProof.Rows
variable {prog:Program} {w:World} {A:Around} {E:Value->Shared->Prop} {s:Shared}
theorem fm_congr {α β:Type} {f g:α->Option β}:∀ {l:List α},(∀ a∈l,f a=g a)->l.filterMap f=l.filterMap g
 | [],_=>rfl
 | a::l,h=>by
  rw [bx,bx,h a ay,fm_congr fun b hb=>h b (au _ hb)]
theorem sliceApplied_odd {sl:Addr} {vl vs:Value} {n:Nat} {Q:Int×Int×Nat->Shared->Prop} (hs:s.heap.IsSliceOf sl vl .none vs) (pl:IsPart vl (some 1)) (ps:IsPart vs (some 2))
  (h:Q (((min 1 n:Nat):Int),2,n / 2) s):wpAny (model prog w) A (Builtin.Slice.sliceApplied (.ref sl) (pure (n:Int))) Q E s:=by
 obtain ⟨os,hos,hcs,hds⟩:=id hs
 unfold Builtin.Slice.sliceApplied Builtin.Slice.sliceFields
 refine wpAny_bind (wpAny_bind (wpAny_field hos hds (x:=vl) rfl (wpAny_bind (wpAny_field hos hds (x:=.none) rfl (wpAny_bind (wpAny_field hos hds (x:=vs) rfl (wpAny_pure ?_)))))))
 refine wpAny_bind (slicePart_ ps ?_)
 show wpAny _ _ (if ((2:Int) == 0)=true then _ else _) _ _ s
 rw [if_neg (by decide)]
 refine wpAny_bind (slicePart_ pl (wpAny_bind (slicePart_none (wpAny_bind (wpAny_pure ?_)))))
 show wpAny _ _ (match Builtin.Slice.sliceAdjust (some 1) none 2 (n:Int) with | (lo,hi)=>pure (lo,(2:Int),Builtin.Slice.slicePlaces lo hi 2)) _ _ s
 have e:Builtin.Slice.sliceAdjust (some 1) none 2 (n:Int)=(((min 1 n:Nat):Int),(n:Int)):=by
  unfold Builtin.Slice.sliceAdjust
  simp
  omega
 rw [e]
 show wpAny _ _ (pure (((min 1 n:Nat):Int),(2:Int),Builtin.Slice.slicePlaces ((min 1 n:Nat):Int) (n:Int) 2)) _ _ s
 have e2:Builtin.Slice.slicePlaces ((min 1 n:Nat):Int) (n:Int) 2=n / 2:=by
  unfold Builtin.Slice.slicePlaces
  have h1:(2:Int) > 0:=by omega
  simp only [h1,if_true]
  split <;> omega
 rw [e2]
 exact wpAny_pure h
theorem getItem_tuple_odd {t sl:Addr} {items:Array Value} {vl vs:Value} {Q:Value->Shared->Prop} (ht:IsTup s.heap t items) (hs:s.heap.IsSliceOf sl vl .none vs) (pl:IsPart vl (some 1)) (ps:IsPart vs (some 2))
  (h:Q (.ref s.heap.objs.size) { s with heap:=s.heap.push { cls:=.type "tuple",data:=.seq ((List.range (items.size / 2)).filterMap fun (m:Nat)=>items[1+m*2]?).toArray } })
  (hsz:items.size<=sizeLine):wpAny (model prog w) A (getItem (.ref t) (.ref sl)) Q E s:=by
 have htake:sizeOk (.seq ((List.range (items.size / 2)).filterMap fun (m:Nat)=>items[1+m*2]?).toArray):=by
  show ((List.range (items.size / 2)).filterMap fun (m:Nat)=>items[1+m*2]?).toArray.size<=sizeLine
  rw [ai]
  have:=fb (fun (m:Nat)=>items[1+m*2]?) (List.range (items.size / 2))
  rw [cU] at this
  omega
 obtain ⟨os,hos,hcs,hds⟩:=id hs
 have hTs:s.TypeIs (.ref sl) "slice" := ⟨os,hos,hcs⟩
 unfold getItem
 try with_reducible refine wpAny_holding ?_
 first | refine wpAny_bind (wpAny_pure ?_) | skip
 refine wpAny_bind (wpAny_sequenceKey ht.typeIs (by decide) ?_)
 refine wpAny_bind (wpAny_callSpecial?_slot (name:=Str.ofString "__getitem__") ht.typeIs PyProof.Rows.slot_tuple_getitem
  (wpAny_call_entry PyProof.Rows.slot_tuple_getitem ht.typeIs entry_tuple_getitem ?_ (args_tuple_getitem _ _)))
 show wpAny _ _ (Builtin.Tuple.tupleItemsOf (.ref t) >>= _) _ _ s
 refine wpAny_bind (tupleItemsOf_ ht ?_)
 refine wpAny_bind (wpAny_typeOf hTs ?_)
 rw [if_pos (by decide)]
 refine wpAny_bind (sliceApplied_odd hs pl ps ?_)
 have hno:¬ ((((min 1 items.size:Nat):Int) == 0 && (2:Int) == 1 && (items.size / 2) == items.size)=true):=by
  intro q
  rw [aV,aV] at q
  exact absurd q.1.2 (by decide)
 show wpAny _ _ (if (((min 1 items.size:Nat):Int) == 0 && (2:Int) == 1 && (items.size / 2) == items.size)=true then _ else _) _ _ s
 have ep:((List.range (items.size / 2)).filterMap fun (m:Nat)=>items[(((min 1 items.size:Nat):Int)+(m:Int)*2).toNat]?).toArray=((List.range (items.size / 2)).filterMap fun (m:Nat)=>items[1+m*2]?).toArray:=by
  congr 1
  refine fm_congr fun m hm=>?_
  have:=bX.mp hm
  congr 1
  omega
 rw [if_neg hno,ep]
 first
  | exact wpAny_bind (m:=Builtin.Tuple.tupleExact _) (wpAny_newObj_type (wpAny_pure ⟨_,rfl,wpAny_pure h⟩) htake)
  | exact wpAny_bind (m:=Builtin.Tuple.tupleExact _) (wpAny_newObj_type (wpAny_bind (wpAny_pure (wpAny_pure ⟨_,rfl,wpAny_pure h⟩))) htake)
  | exact wpAny_bind (wpAny_bind (m:=Builtin.Tuple.tupleExact _) (wpAny_newObj_type (wpAny_pure (wpAny_pure ⟨_,rfl,wpAny_pure h⟩)) htake))
  | exact wpAny_bind (wpAny_bind (m:=Builtin.Tuple.tupleExact _) (wpAny_newObj_type (wpAny_pure ⟨_,rfl,wpAny_pure h⟩) htake))
end HT
namespace L2
open PySem PySem.Spec PyProof.Rows
section
variable {X:Cx} {e:Expr} {te:TE} {lo hi:Option Expr} {se:Expr} {tl th ts:TO} {pos p2:Pos}
def SlR3 (X:Cx) (r:V->Option Int->Option Int->Option Int->Hp->VK->Prop):Prop :=
 ∀ (pins:List (Addr×Obj)) (s:Shared) (σ:St) (H:Hp) (x:V) (v vl vu vs:Value) (lo hi st:Option Int) (sl:Addr) (Q:VK),Inv X pins σ H s->RelV x v->s.heap.IsSliceOf sl vl vu vs->IsPart vl lo->IsPart vu hi->IsPart vs st->r x lo hi st H Q ->
  ∃ T id,typeLookup (.type T) "__getitem__" = pure (some (.builtin id))/\s.TypeIs v T/\wpAny (model X.prog X.w) X.A (getItem v (.ref sl)) (EP X pins σ Q) X.xe s
def tSl3 (r:V->Option Int->Option Int->Option Int->Hp->VK->Prop) (te:TE) (tl th ts:TO):TE:=fun σ H Q=>te σ H fun x H1=>tl σ H1 fun l H2=>th σ H2 fun u H3=>ts σ H3 fun k H4=>r x l u k H4 Q
theorem pe_slice3 {r:V->Option Int->Option Int->Option Int->Hp->VK->Prop} (hr:SlR3 X r) (he:PE X e te) (hl:PO X lo tl) (hu:PO X hi th) (hs:PO X (some se) ts):PE X (.Subscript e (.Slice lo hi (some se) p2) pos) (tSl3 r te tl th ts):=by
 intro pins s σ H Q I h
 refine Subscript_ (thn (he pins s σ H _ I h) fun v s1 ⟨x,H1,I1,r1,q1⟩=>?_)
 refine wpAny_Slice (thn (hl pins s1 σ H1 _ I1 q1) fun vl s2 ⟨l,H2,I2,pl,q2⟩=>thn (hu pins s2 σ H2 _ I2 q2) fun vu s3 ⟨u,H3,I3,pu,q3⟩=>thn (hs pins s3 σ H3 _ I3 q3) fun vs s4 ⟨k,H4,I4,pk,q4⟩=>?_)
 have I5:Inv X pins σ H4 { s4 with heap:=s4.heap.push { cls:=.type "slice",data:=.fields #[vl,vu,vs] } }:=I4.kept (t':=s4.toks) fun b ob q=>Heap.get?_push_of_some _ q
 obtain ⟨T,id,hT,ht,hg⟩:=hr pins { s4 with heap:=s4.heap.push { cls:=.type "slice",data:=.fields #[vl,vu,vs] } } σ H4 x v vl vu vs l u k s4.heap.objs.size Q I5 r1 (Heap.IsSliceOf.new ..) pl pu pk q4
 show wpAny (model X.prog X.w) X.A (subscriptTail e (.Slice lo hi (some se) p2) v (.ref s4.heap.objs.size)) (EP X pins σ Q) X.xe { s4 with heap:=s4.heap.push { cls:=.type "slice",data:=.fields #[vl,vu,vs] } }
 exact tail_any (ops:=[v,.ref s4.heap.objs.size]) ht hT hg (by with_unfolding_all rfl)
theorem revL (K:PySem.W.Frag) (hK:X.K=K:=by rfl):SlR3 X (fun x lo hi st H Q=>lo=none/\hi=none/\st=some (-1)/\∃ a xs,x = .ref a/\SqL K H a xs/\∀ p,H p=none->Q (.ref p) (upd H p (.lst xs.reverse))):=by
 subst hK
 intro pins s σ H x v vl vu vs lo hi st sl Q I rx hs pl pu pk h
 obtain ⟨rfl,rfl,rfl,a,xs,rfl,hx,q⟩:=h
 cases rx
 obtain ⟨its,r,ht,hz⟩:=I.list hx
 have hlen:=r.length
 refine ⟨"list",_,slot_list_getitem.lookup,ht.isList.typeIs,?_⟩
 refine wpAny_getItem_list_slice ht.isList hs pl pu pk (by decide) ?_ (by rw [ai] <;> omega)
 rw [PySem.W.krv_pick]
 refine ⟨.ref s.heap.objs.size,_,I.laid (t':=s.toks) (o:=.lst xs.reverse) (fun b ob q=>Heap.get?_push_of_some _ q) (aj _) ?_,rfl,q _ (I.hok.fresh (aj _))⟩
 exact ⟨by rw [bC];exact hz,its.reverse,0,r.reverse,Heap.get?_push_size _ rfl⟩
def oddV (xs:List V):List V:=(List.range (xs.length / 2)).filterMap fun m=>xs[1+m*2]?
theorem vals_odd {xs:List V} {its:List Value} (r:Vals xs its):∀ ms:List Nat,Vals (ms.filterMap fun m=>xs[1+m*2]?) (ms.filterMap fun m=>its.toArray[1+m*2]?)
 | []=>.nil
 | m::ms=>by
  have ih:=vals_odd r ms
  rw [bx,bx]
  cases hx:xs[1+m*2]? with
  | none =>
   have:its.toArray[1+m*2]? = none:=by
    have h1:=bF.mp hx
    rw [cV]
    exact bF.mpr (by rw [← r.length];exact h1)
   rw [this]
   exact ih
  | some x =>
   obtain ⟨u,hu,ru⟩:=r.get hx
   have:its.toArray[1+m*2]? = some u:=by rw [cV];exact hu
   rw [this]
   exact .cons ru ih
theorem oddT (K:PySem.W.Frag) (hK:X.K=K:=by rfl):SlR3 X (fun x lo hi st H Q=>lo=some 1/\hi=none/\st=some 2/\∃ a xs,x = .ref a/\SqT K H a xs/\∀ p,H p=none->Q (.ref p) (upd H p (.tup (oddV xs)))):=by
 subst hK
 intro pins s σ H x v vl vu vs lo hi st sl Q I rx hs pl pu pk h
 obtain ⟨rfl,rfl,rfl,a,xs,rfl,hx,q⟩:=h
 cases rx
 cases pu
 obtain ⟨its,r,ht,hz⟩:=I.tuple hx
 have hlen:its.toArray.size=xs.length:=by rw [ai];exact r.length.symm
 refine ⟨"tuple",_,PyProof.Rows.slot_tuple_getitem.lookup,ht.typeIs,?_⟩
 refine HT.getItem_tuple_odd ht hs pl pk ?_ (by rw [hlen];exact hz)
 rw [hlen]
 refine ⟨.ref s.heap.objs.size,_,I.laid (t':=s.toks) (o:=.tup (oddV xs)) (fun b ob q=>Heap.get?_push_of_some _ q) (aj _) ?_,rfl,q _ (I.hok.fresh (aj _))⟩
 refine ⟨?_,_,vals_odd r _,IsTup.new _ _⟩
 have:=fb (fun (m:Nat)=>xs[1+m*2]?) (List.range (xs.length / 2))
 rw [cU] at this
 show (oddV xs).length<=sizeLine
 unfold oddV
 omega
end
def PolK (K:PySem.W.Frag) (H:Hp) (v:V) (P:List Int) (B:Int):Prop:=∃ a t,v = .ref a/\SqT K H a [.ref t,.int B]/\SqT K H t (P.map V.int)
theorem Pol.k {K:PySem.W.Frag} {H:Hp} {v:V} {P:List Int} {B:Int} (h:Pol H v P B):PolK K H v P B:=by
 obtain ⟨a,t,e,h1,h2⟩:=h
 exact ⟨a,t,e,SqT.of h1,SqT.of h2⟩
instance coePolK {K:PySem.W.Frag} {H:Hp} {v:V} {P:List Int} {B:Int}:Coe (Pol H v P B) (PolK K H v P B):=⟨Pol.k⟩
end L2
namespace Ca
open Cv
theorem sm_add (F G:Nat->Int) (n:Nat):sm (fun j=>F j+G j) n=sm F n+sm G n:=by
 induction n with
 | zero=>rfl
 | succ n ih=>rw [sm,sm,sm,ih];omega
theorem sm_dvd {F:Nat->Int} {d:Int} {n:Nat} (h:∀ j,j<n->d∣F j):d∣sm F n:=by
 induction n with
 | zero=>exact fU d
 | succ n ih=>exact dX (ih fun j hj=>h j (by omega)) (h n (by omega))
theorem cv_le {f g f' g':Nat->Int} {k:Nat} (h:∀ j,j<=k->f j=f' j) (h':∀ j,j<=k->g j=g' j):cv f g k=cv f' g' k :=
 sm_congr fun j hj=>by rw [h j (by omega),h' (k-j) (by omega)]
theorem cv_addl (f f' g:Nat->Int) (k:Nat):cv (fun j=>f j+f' j) g k=cv f g k+cv f' g k:=by
 unfold cv
 rw [← sm_add]
 exact sm_congr fun j _=>dY _ _ _
theorem cv_scl (f g:Nat->Int) (c:Int) (k:Nat):cv (fun j=>c*f j) g k=c*cv f g k:=by
 rw [bg,← cv_scale]
 exact cv_congr (fun j=>bg _ _) fun _=>rfl
theorem cv_hd (f g:Nat->Int) (k:Nat):cv f g (k+1)=f 0*g (k+1)+cv (fun j=>f (j+1)) g k:=by
 unfold cv
 rw [sm_head]
 congr 1
 exact sm_congr fun j _=>by rw [show k+1-(j+1)=k-j by omega]
theorem cv_0 (f g:Nat->Int):cv f g 0=f 0*g 0:=by simp [cv,sm]
theorem cv_assoc (f g h:Nat->Int) (k:Nat):cv (cv f g) h k=cv f (cv g h) k:=by
 induction k generalizing f g h with
 | zero=>rw [cv_0,cv_0,cv_0,cv_0,bJ]
 | succ k ih =>
  rw [cv_hd (cv f g) h,cv_hd f (cv g h),cv_0]
  have e:cv (fun j=>cv f g (j+1)) h k=cv (fun j=>f 0*g (j+1)+cv (fun j=>f (j+1)) g j) h k:=cv_congr (fun j=>cv_hd f g j) fun _=>rfl
  rw [e,cv_addl,cv_scl,ih,cv_hd g h]
  grind
theorem cv_mid (f g:Nat->Int) (k:Nat):cv f g (k+1)=f 0*g (k+1)+sm (fun j=>f (j+1)*g (k-j)) k+f (k+1)*g 0:=by
 rw [cv_hd]
 unfold cv
 rw [sm,bM]
 exact (Int.add_assoc _ _ _).symm
def pw (g:Nat->Int):Nat->Nat->Int
 | 0=>fun j=>if j=0 then 1 else 0
 | m+1=>cv (pw g m) g
theorem pw_0 {g:Nat->Int} (h:g 0=1):∀ m,pw g m 0=1
 | 0=>rfl
 | m+1=>by show cv _ _ 0=1;rw [cv_0,pw_0 h m,h];rfl
theorem pw_mod {g:Nat->Int} {k:Int} (h:g 0=1) (hg:∀ i,k∣g (i+1)):∀ m i,(k*k∣pw g m (i+1)-m*g (i+1))/\k∣pw g m (i+1)
 | 0,i=>⟨by simp [pw],by simp [pw]⟩
 | m+1,i=>by
  obtain ⟨a,b⟩:=pw_mod h hg m i
  have e:pw g (m+1) (i+1)=cv (pw g m) g (i+1):=rfl
  rw [cv_mid,pw_0 h,h] at e
  have d:k*k∣sm (fun j=>pw g m (j+1)*g (i-j)) i:=sm_dvd fun j hj=>by
   rw [show i-j=(i-j-1)+1 by omega]
   exact eV (pw_mod h hg m j).2 (hg _)
  have q:k*k∣pw g (m+1) (i+1)-(m+1:Nat)*g (i+1):=by
   rw [show pw g (m+1) (i+1)-((m+1:Nat):Int)*g (i+1)=sm (fun j=>pw g m (j+1)*g (i-j)) i+(pw g m (i+1)-m*g (i+1)) by rw [e];grind]
   exact dX d a
  refine ⟨q,?_⟩
  have q2:k∣pw g (m+1) (i+1)-(m+1:Nat)*g (i+1):=dE (dD k k) q
  have q3:k∣((m+1:Nat):Int)*g (i+1):=fj (hg i)
  have:=dX q2 q3
  rwa [gF] at this
theorem pw_one {g g':Nat->Int} {s:Nat} (h:g 0=1) (hh:∀ i,i<=s->g' i=g i):∀ m,(∀ i,i<=s->pw g' m i=pw g m i)/\pw g' m (s+1)=pw g m (s+1)+m*(g' (s+1)-g (s+1))
 | 0=>⟨fun _ _=>rfl,by simp [pw]⟩
 | m+1=>by
  obtain ⟨a,b⟩:=pw_one h hh m
  have h':g' 0=1:=by rw [hh 0 (aC _),h]
  refine ⟨fun i hi=>cv_le (fun j hj=>a j (by omega)) fun j hj=>hh j (by omega),?_⟩
  show cv (pw g' m) g' (s+1)=cv (pw g m) g (s+1)+_
  rw [cv_mid,cv_mid,pw_0 h',pw_0 h,h,h',b]
  have:sm (fun j=>pw g' m (j+1)*g' (s-j)) s=sm (fun j=>pw g m (j+1)*g (s-j)) s:=sm_congr fun j hj=>by rw [a (j+1) (by omega),hh (s-j) (by omega)]
  rw [this]
  grind
theorem root {a:Nat->Int} {k:Nat} (hk:0<k) (h0:a 0=1) (ha:∀ i,(k*k:Int)∣a (i+1)):∀ s:Nat,∃ g:Nat->Int,g 0=1/\(∀ i,(k:Int)∣g (i+1))/\∀ j,j<=s->pw g k j=a j
 | 0=>⟨fun i=>if i=0 then 1 else 0,rfl,fun i=>by simp,fun j hj=>by
   rw [show j=0 by omega,h0]
   exact pw_0 (by rfl) k⟩
 | s+1=>by
  obtain ⟨g,g0,gd,ge⟩:=root hk h0 ha s
  have m1:=(pw_mod g0 gd k s).1
  have m2:(k*k:Int)∣pw g k (s+1):=by
   have:(k*k:Int)∣k*g (s+1):=eV (fX _) (gd s)
   have:=dX m1 this
   rwa [gF] at this
  obtain ⟨t,ht⟩:=Int.dvd_sub (ha s) m2
  have hh:∀ i,i<=s->(if i=s+1 then g i+k*t else g i)=g i:=fun i hi=>if_neg (by omega)
  have P:=pw_one (g':=fun i=>if i=s+1 then g i+k*t else g i) g0 hh k
  refine ⟨fun i=>if i=s+1 then g i+k*t else g i,?_,fun i=>?_,fun j hj=>?_⟩
  ·exact (hh 0 (aC _)).trans g0
  ·show (k:Int)∣if i+1=s+1 then _ else _
   split
   ·exact dX (gd i) (dD _ _)
   ·exact gd i
  ·rcases am s j with c | c
   ·rw [show j=s+1 by omega,P.2]
    simp only [if_true]
    grind
   ·rw [P.1 j c,ge j c]
def th (f:Nat->Int):Nat->Int:=fun j=>j*f j
theorem th_cv (f g:Nat->Int) (k:Nat):th (cv f g) k=cv (th f) g k+cv f (th g) k:=by
 unfold th cv
 rw [← sm_add,bg,← sm_mul]
 refine sm_congr fun j hj=>?_
 have:((k-j:Nat):Int)=k-j:=by omega
 show f j*g (k-j)*k=j*f j*g (k-j)+f j*(((k-j:Nat):Int)*g (k-j))
 rw [this]
 grind
theorem th_pw (g:Nat->Int):∀ m j,cv (th (pw g m)) g j=m*cv (pw g m) (th g) j
 | 0,j=>by
  rw [Int.natCast_zero,aE]
  refine cv_zl fun i=>?_
  show (i:Int)*(if i=0 then 1 else 0)=0
  split
  ·rw [‹i=0›];rfl
  ·exact bN _
 | m+1,j=>by
  have e:cv (th (pw g (m+1))) g j=cv (fun i=>cv (th (pw g m)) g i+cv (pw g m) (th g) i) g j:=cv_congr (fun i=>th_cv _ _ i) fun _=>rfl
  have e1:cv (cv (th (pw g m)) g) g j=cv (fun i=>m*cv (pw g m) (th g) i) g j:=cv_congr (fun i=>th_pw g m i) fun _=>rfl
  have e2:cv (cv (pw g m) (th g)) g j=cv (pw g (m+1)) (th g) j:=by
   rw [cv_assoc]
   show _=cv (cv (pw g m) g) (th g) j
   rw [cv_assoc]
   exact cv_congr (fun _=>rfl) fun i=>cv_comm _ _ i
  rw [e,cv_addl]
  have e3:cv (fun i=>cv (th (pw g m)) g i) g j=m*cv (pw g (m+1)) (th g) j:=by
   refine Eq.trans (show _=cv (cv (th (pw g m)) g) g j from rfl) ?_
   rw [e1,cv_scl,← e2]
  have e4:cv (fun i=>cv (pw g m) (th g) i) g j=cv (pw g (m+1)) (th g) j:=e2
  rw [e3,e4]
  grind
theorem step {a g:Nat->Int} {k s j:Nat} (g0:g 0=1) (h0:a 0=1) (h:∀ j,j<=s->pw g k j=a j) (hj:j<=s) :
  sm (fun i=>(((i+1:Nat):Int)*(k+1)-j*k)*a (i+1)*g (j-(i+1))) j=j*k*g j:=by
 have e:=th_pw g k j
 have e1:cv (th (pw g k)) g j=cv (th a) g j:=cv_le (fun i hi=>by unfold th;rw [h i (by omega)]) fun _ _=>rfl
 have e2:cv (pw g k) (th g) j=cv a (th g) j:=cv_le (fun i hi=>h i (by omega)) fun _ _=>rfl
 rw [e1,e2] at e
 unfold cv at e
 rw [sm_head,sm_head] at e
 have z:th a 0=0:=by simp [th]
 have z2:th g (j-0)=j*g j:=rfl
 rw [z,z2,h0,aE,cF,cC,Int.mul_add] at e
 have q:sm (fun i=>(((i+1:Nat):Int)*(k+1)-j*k)*a (i+1)*g (j-(i+1))) j=sm (fun i=>th a (i+1)*g (j-(i+1))+a (i+1)*th g (j-(i+1))*(-k)) j:=sm_congr fun i hi=>by
  unfold th
  have:((j-(i+1):Nat):Int)=j-(i+1:Nat):=by omega
  rw [this]
  grind
 rw [q,sm_add,sm_mul (fun i=>a (i+1)*th g (j-(i+1)))]
 grind
end Ca
namespace Ca
open Cv L2
theorem root_lt {a g:Nat->Int} {k s A:Nat} (hk:0<k) (k7:k<=100) (s7:s<=100) (g0:g 0=1) (ha:∀ i,Lt2 A (a i))
  (h:∀ j,j<=s->sm (fun i=>(((i+1:Nat):Int)*(k+1)-j*k)*a (i+1)*g (j-(i+1))) j=j*k*g j):∀ j,j<=s->Lt2 ((A+22)*j+1) (g j):=by
 intro j
 induction j using Nat.strongRecOn with
 | ind j ih =>
  intro hj
  rcases cb j with e | e
  ·subst e
   rw [g0]
   exact Lt2.mono (n:=1) (by unfold Lt2;decide) (by omega)
  ·have e1:=h j hj
   have m1:(A+22)*j=(A+22)*(j-1)+(A+22):=by
    rw [show j=(j-1)+1 by omega,bE];rfl
   have hF:∀ i,i<j->Lt2 (15+A+((A+22)*(j-1)+1)) ((((i+1:Nat):Int)*(k+1)-j*k)*a (i+1)*g (j-(i+1))):=fun i hi=>by
    have c1:(i+1)*(k+1)<=100*101:=aU (by omega) (by omega)
    have c2:j*k<=100*100:=aU (by omega) (by omega)
    have l1:Lt2 15 (((i+1:Nat):Int)*(k+1)-j*k):=by
     have c1':(((i+1:Nat):Int)*(k+1))=(((i+1)*(k+1):Nat):Int):=by push_cast;rfl
     have c2':((j:Int)*k)=((j*k:Nat):Int):=by push_cast;rfl
     rw [c1',c2']
     unfold Lt2
     omega
    have l3:=(ih (j-(i+1)) (by omega) (by omega)).mono (m:=(A+22)*(j-1)+1) (Nat.succ_le_succ (ah _ (by omega)))
    exact (l1.mul (ha _)).mul l3
   have b:=sm_lt (b:=7) (i:=j) (by omega) hF
   rw [e1] at b
   have p:(g j).natAbs<=((j:Int)*k*g j).natAbs:=by
    rw [aJ]
    refine aN _ ?_
    have:0<j*k:=gb e hk
    have q:((j:Int)*k)=((j*k:Nat):Int):=by push_cast;rfl
    rw [q]
    omega
   unfold Lt2
   rw [show (A+22)*j+1=7+(15+A+((A+22)*(j-1)+1)) by omega,dr]
   refine bO (aB p b) ?_
   exact db (show j<2^7 by omega) (bY (by decide))
theorem sum_sm (ns:List Int):ns.sum=sm (fun i=>ns.getD i 0) ns.length:=by
 induction ns with
 | nil=>rfl
 | cons n ns ih =>
  rw [List.sum_cons,aQ,sm_head,ih]
  rfl
end Ca
namespace Ca
open Cv L2
theorem falls {P:Nat->Int} {n k:Nat} {c l:Int} (hl:P n=l) (h0:l≠0) (hc:c=((l.natAbs:Nat):Int)*k*k) :
  ∀ j,j<=n->l*(P (n-j)*c^j).fdiv l=P (n-j)*c^j/\(j=0->(P (n-j)*c^j).fdiv l=1)/\(0<j->(k*k:Int)∣(P (n-j)*c^j).fdiv l):=by
 intro j hj
 cases j with
 | zero =>
  rw [bR,hl,aW,bu]
  have:l.fdiv l=1:=by
   have:=da 1 h0
   rwa [cC] at this
  rw [this]
  exact ⟨bu _,fun _=>rfl,fun h=>absurd h (bQ _)⟩
 | succ j =>
  obtain ⟨z,hz⟩:∃ z:Int,((l.natAbs:Nat):Int)=z*l/\True:=by
   rcases Int.natAbs_eq l with e | e
   ·exact ⟨1,by omega,trivial⟩
   ·exact ⟨-1,by omega,trivial⟩
  have e:P (n-(j+1))*c^(j+1)=(P (n-(j+1))*z*c^j*(k*k))*l:=by
   rw [bf]
   have:c=z*l*k*k:=by rw [hc,hz.1]
   calc P (n-(j+1))*(c^j*c)=P (n-(j+1))*c^j*c:=by grind
    _=P (n-(j+1))*c^j*(z*l*k*k):=congrArg _ this
    _=_:=by grind
  rw [e,da _ h0]
  exact ⟨bg _ _,fun h=>absurd h (by omega),fun _=>Int.dvd_mul_left _ _⟩
def Cand (P:Nat->Int) (k s:Nat) (R:Nat->Int) (C:Int):Prop :=
 ∃ (c:Int) (g:Nat->Int),0<c/\g 0=1/\(∀ j,j<s->P (k*s-j)*c^j=P (k*s)*pw g k j)/\(∀ i,i<s->R (s-i)*c^i=g i*C)/\R 0=0
theorem rise {c C:Int} {R g:Nat->Int} {s:Nat} (hc:0<c) (h:∀ m,m<s->R (m+1)*c^(s-1)=g (s-(m+1))*c^m*C):∀ i,i<s->R (s-i)*c^i=g i*C:=by
 intro i hi
 have e:=h (s-i-1) (by omega)
 rw [show s-i-1+1=s-i by omega,show s-(s-i)=i by omega,show s-1=(s-i-1)+i by omega,cB] at e
 have p:c^(s-i-1)≠0:=ca (by omega)
 refine aH p ?_
 grind
end Ca
namespace L2
open PySem
section
variable {X:Cx}
theorem preSum_is:∀ (ns:List Int) (n:Nat),n<=ns.length->preSum (fun i=>ns.getD i 0) n=(ns.take n).sum
 | ns,0,_=>by simp [preSum]
 | ns,n+1,h=>by
  have e:ns.take (n+1)=ns.take n++[ns.getD n 0]:=by
   rw [List.take_succ,ac,aq (by omega)]
   rfl
  rw [e,List.sum_append,← preSum_is ns n (by omega)]
  simp [preSum]
theorem sumS (K:PySem.W.Frag) (hc:X.calm=true:=by rfl) (hK:X.K=K:=by rfl):CallR X (.builtin "sum") (fun xs H Q=>∃ p,∃ ns:List Int,xs=[.ref p]/\SqL K H p (ns.map V.int)/\Q (.int ns.sum) H):=by
 subst hK
 intro pins s σ H xs us Q I rv h
 obtain ⟨p,ns,rfl,hp,q⟩:=h
 obtain ⟨u,rfl,ru⟩:=rv.one
 cases ru
 obtain ⟨its,rv',pl,_⟩:=I.list hp
 obtain ⟨ys,e1,e2⟩:=vals_toks rv'
 subst e1
 have hl:s.heap.IsList p (intItems ys.toArray):=by
  have:intItems ys.toArray=(ys.map (fun p=>Value.int p.1 p.2)).toArray:=by simp [intItems]
  rw [this]
  exact pl.isList
 refine sum_intListG (I.ok.hd hc) hl fun h' tk t' hk=>?_
 refine ⟨.int _,H,I.kept (t':=tk) hk,⟨t',rfl⟩,?_⟩
 have:preSum (numAt ys.toArray) ys.toArray.size=ns.sum:=by
  have e:numAt ys.toArray=fun i=>ns.getD i 0:=by
   funext i
   rw [numAt_eq,← e2]
  have l:ys.toArray.size=ns.length:=by rw [← e2];simp
  rw [e,l,preSum_is ns _ (aj _),bD]
 rw [this]
 exact q
end
end L2
namespace L2
open PySem PySem.Spec PyProof.Rows
theorem turn_revL {P:Program} {w:World} {K:PySem.W.Frag} {tg:Expr} (n:Nat) (a it:Addr):Turn P w K tg (⟨fun i H=>i<n/\∃ xs x,SqL K H a xs/\xs.length=n/\xs.reverse[i]? = some x,fun i H x H'=>H'=H/\∀ xs,SqL K H a xs->xs.reverse[i]? = some x,fun i H=>i=n⟩:It) [it] it (fun i h=>h.IsRevIter it a ((n:Int)-1-(i:Int))) where
 mem:=by simp
 obj:=fun i h st b hb=>by
  have e:b=it:=by simpa using hb
  subst e
  obtain ⟨o,e,c,d⟩:=st
  exact ⟨o,e,fun v z=>by rw [d] at z;cases z⟩
 keep:=fun i h h' st k=>by
  obtain ⟨o,e,r⟩:=st
  exact ⟨o,k it (by simp) o e,r⟩
 item:=by
  intro X hP hw hK hc i pins s σ H E I hf st hg
  subst hP hw hK
  obtain ⟨hlt,xs,x,hq,hn,hx⟩:=hg
  obtain ⟨its,rv,p,hz⟩:=I.list hq
  have hlen:=rv.length
  rw [bI (by omega)] at hx
  obtain ⟨u,hu,ru⟩:=rv.get hx
  obtain ⟨f0,f1,f2,f3,f4,f5⟩:=hf it (by simp)
  have e0:(n:Int)-1-(i:Int)=((xs.length-1-i:Nat):Int):=by omega
  have st':s.heap.IsRevIter it a ((xs.length-1-i:Nat):Int):=by rw [← e0];exact st
  refine wpAny_pyNext_rev_item (i:=xs.length-1-i) st' p.isList (x:=u) (by simpa using hu) fun h' st2 sb=>?_
  have I1:Inv X pins σ H { s with heap:=h' }:=I.turned (t':=s.toks) (fun b o hb e=>(sb.2 b hb).trans e) f0 f1 f3 f4 f5
  obtain ⟨o,e,c,d⟩:=id st2
  refine ⟨u,rfl,go_of (s:={ s with heap:=h' }) e c d (by decide) ⟨x,H,I1,ru,⟨rfl,fun ys hy=>?_⟩,?_,fun b hb=>(hf b hb).1⟩⟩
  ·rw [I.list_inj hy hq,bI (by omega)]
   exact hx
  ·show h'.IsRevIter it a ((n:Int)-1-((i+1:Nat):Int))
   rw [show (n:Int)-1-((i+1:Nat):Int)=((xs.length-1-i:Nat):Int)-1 by omega]
   exact st2
 done:=by
  intro X hP hw hK hc i pins s σ H E I hf st hg
  subst hP hw hK
  have hg':i=n:=hg
  subst hg'
  obtain ⟨f0,f1,f2,f3,f4,f5⟩:=hf it (by simp)
  have st':s.heap.IsRevIter it a (-1):=by
   have e:(i:Int)-1-(i:Int) = -1:=by omega
   rw [← e]
   exact st
  exact wpAny_pyNext_rev_end (I.ok.hd hc) st' fun h' eb=>⟨rfl,I.turned (t':=s.toks) (fun b o hb e=>eb b o hb e) f0 f1 f3 f4 f5⟩
 self:=fun _ _ _ _ _ st h=>wpAny_pyIter_revIter st h
end L2
namespace L2
open PySem PySem.Spec PyProof.Rows
theorem nofill_tm:fillsNumberSlot (.type "tuple") "mul" = pure false:=PySem.fillsNumberSlot_seq (id := "tuple.__mul__") (r:=some (.builtin "tuple.__rmul__")) F.slot_tuple_mul.lookup (by decide +kernel) F.slot_tuple_rmul.lookup (by decide +kernel)
theorem rep_tm:seqRepeat? (.type "tuple")=pure (some (.builtin "tuple.__mul__")):=by
 unfold seqRepeat?;rw [PySem.seqSlot_of (T := "tuple") (name := "__mul__") (id := "tuple.__mul__") F.slot_tuple_mul.lookup (by decide +kernel),PySem.seqSlot_of (T := "tuple") (name := "__rmul__") (id := "tuple.__rmul__") F.slot_tuple_rmul.lookup (by decide +kernel)];rfl
theorem rmul_tm (a:Int) (t:Tok) (l:Addr) (items:Array Value) (n:Nat) (dd:Option Addr) (sl:Array (Option Value)):Meets (Builtin.«int.__rmul__» ⟨[.int a t,.ref l],[]⟩) (fun _ R s=>s.heap.get? l=some { cls:=.type "tuple",dict:=dd,data:=.seq items n,slots:=sl }/\R (.ok (.ret Value.notImplemented)) s) :=
 .of_wp fun prog w A R s h=>by obtain ⟨p1,p2,p3,p4,p5⟩:=s;obtain ⟨hl,h⟩:=h;wp_walk;exact ⟨_,rfl,h⟩
theorem mul_tm1 (l:Addr) (items:Array Value) (n:Nat) (u:Tok) (dd:Option Addr) (sl:Array (Option Value)):Meets (Builtin.«tuple.__mul__» ⟨[.ref l,.int 1 u],[]⟩) (fun _ R s=>s.heap.get? l=some { cls:=.type "tuple",dict:=dd,data:=.seq items n,slots:=sl }/\R (.ok (.ret (.ref l))) s) :=
 .of_wp fun prog w A R s h=>by
  obtain ⟨p1,p2,p3,p4,p5⟩:=s;obtain ⟨hl,h⟩:=h
  have f2:=AutoSeq1.sub_tuple_tuple
  wp_walk using AutoSeq1.wpAny_loadPart' hl
  exact ⟨_,rfl,h⟩
theorem mul_tm2 (l:Addr) (items:Array Value) (n:Nat) (x:Int) (u:Tok) (dd:Option Addr) (sl:Array (Option Value)) (h0:items.isEmpty=false) (h1:¬ (decide (x < -(2^63)) || decide (x ≥ 2^63))=true) (h2:(x == 1)=false) (h3:¬ x<=0) (h4:¬ (items.size:Int)*x > (2^63-1) / 8) (h5:Builtin.Tuple.tupleTooMany ((items.size:Int)*x)=false) (h6:(List.foldl (fun x1 x2=>x1++x2) #[] (List.replicate x.toNat items)).size<=sizeLine) :
  Meets (Builtin.«tuple.__mul__» ⟨[.ref l,.int x u],[]⟩) (fun _ R s=>s.heap.get? l=some { cls:=.type "tuple",dict:=dd,data:=.seq items n,slots:=sl }/\R (.ok (.ret (.ref s.heap.objs.size))) { s with heap:=s.heap.push { cls:=.type "tuple",data:=.seq (List.foldl (fun x1 x2=>x1++x2) #[] (List.replicate x.toNat items)) } }) :=
 .of_wp fun prog w A R s h=>by
  obtain ⟨p1,p2,p3,p4,p5⟩:=s;obtain ⟨hl,h⟩:=h
  have f2:=AutoSeq1.sub_tuple_tuple
  wp_walk using AutoSeq1.wpAny_loadPart' hl
  rw [if_neg h1]
  wp_walk using AutoSeq1.wpAny_loadPart' hl
  rw [if_neg h4]
  wp_walk
  exact ⟨_,rfl,h⟩
def rRepT (K:PySem.W.Frag):R2:=fun x y H Q=>∃ l xs,∃ k:Nat,x = .ref l/\y = .int k/\SqT K H l xs/\xs≠[]/\1<=k/\xs.length*k<=100000/\(k=1->Q (.ref l) H)/\(k≠1->∀ p,H p=none->Q (.ref p) (upd H p (.tup (List.replicate k xs).flatten)))
theorem op_repT {X:Cx}:OpR X (binaryOp .Mult) (rRepT X.K):=by
 intro pins s σ H x y v u Q I rx ry h
 obtain ⟨l,xs,k,rfl,rfl,hH,hne,hk,hz,q1,q2⟩:=h
 cases rx
 obtain ⟨t,rfl⟩:=ry
 obtain ⟨its,rv,p,hz2⟩:=I.tuple hH
 obtain ⟨⟨cls,dd,data,sl⟩,e,hc,n,hd⟩:=p
 simp only at hc hd
 subst hc hd
 have hl:=rv.length
 have sz:100000<=sizeLine:=by rw [sizeLine_eq];decide
 have go:∀ z:Int,z=(k:Int)->wpAny (model X.prog X.w) X.A (call (.builtin "tuple.__mul__") [.ref l,.int z t]) (EP X pins σ Q) X.xe s:=by
  rintro z hzk
  by_cases h1:k=1
  ·rw [show z=1 by omega]
   exact call_meets F.slot_tuple_mul ⟨_,e,rfl⟩ F.entry_tuple_mul (F.args_tuple_mul_2 _ _) (mul_tm1 l its.toArray n t dd sl) ⟨e,⟨.ref l,H,I,rfl,q1 h1⟩⟩
  ·have f0:∀ m:Nat,List.foldl (fun x1 x2=>x1++x2) #[] (List.replicate m its.toArray)=(List.replicate m its).flatten.toArray:=fun m=>by
    have:=foldl_rep its m []
    rw [List.nil_append] at this
    exact this
   have zk:z.toNat=k:=by omega
   have im:(its.toArray.size:Int)*z=((xs.length*k:Nat):Int):=by rw [hzk,ai,← hl];exact (Int.natCast_mul _ _).symm
   refine call_meets F.slot_tuple_mul ⟨_,e,rfl⟩ F.entry_tuple_mul (F.args_tuple_mul_2 _ _) (mul_tm2 l its.toArray n z t dd sl ?_ ?_ ?_ ?_ ?_ ?_ ?_) ⟨e,?_⟩
   ·cases its with
    | nil=>exact absurd (bP.mp hl) hne
    | cons=>rfl
   ·simp
    have:xs.length*k ≥ k:=aN _ (cR.mpr hne)
    omega
   ·have:z≠1:=by omega
    simpa using this
   ·omega
   ·rw [im]
    omega
   ·unfold Builtin.Tuple.tupleTooMany
    rw [im]
    exact decide_eq_false (by omega)
   ·rw [f0,zk,ai,len_rep,← hl,bt]
    omega
   ·rw [f0,zk]
    refine ⟨.ref _,_,I.laid (o:=.tup (List.replicate k xs).flatten) (t':=s.toks) (fun b u e=>Heap.get?_push_of_some _ e) (aj _) ⟨?_,(List.replicate k its).flatten,rv.rep k,⟨_,Heap.get?_push_size _ rfl,rfl,_,rfl⟩⟩,rfl,q2 h1 _ I.fresh⟩
    rw [len_rep,bt]
    omega
 generalize hzk:(k:Int)=z
 refine wpAny_binaryOp_repeat_ref (T := "tuple") (U := "int") (by decide) ⟨_,e,rfl⟩ (fun s'=>typeIs_int s' z t) nofill_tm F.fills_int_mul F.slot_int_rmul rep_tm F.slot_int_index.lookup
  (call_meets F.slot_int_rmul (typeIs_int s z t) F.entry_int_rmul (F.args_int_rmul_2 _ _) (rmul_tm z t l its.toArray n dd sl) ⟨e,rfl,⟨_,e,rfl⟩,go z hzk.symm⟩)
end L2
namespace L2
open PySem PySem.Spec PyProof.Rows
variable {X:Cx} {pins:List (Addr×Obj)} {σ:St} {H:Hp} {s:Shared}
def rInP (K:PySem.W.Frag) (neg:Bool):R2:=fun x y H Q=>∃ d ds,Rep K H d x/\Rep K H (.lst ds) y/\d.pl=true/\DV.pls ds=true/\DV.dps ds<=60/\∀ b,(b=true↔d∈ds)->Q (.bl (if neg then !b else b)) H
theorem reps_mem {K:PySem.W.Frag}:∀ {ds:List DV} {vs:List V} {us:List Value},Reps K H ds vs->Vals vs us->DV.pls ds=true->DV.dps ds<=60->(∀ w∈us,∃ di∈ds,∃ xi,Rep K H di xi/\RelV xi w/\di.pl=true/\di.dp<=60)/\∀ di∈ds,∃ w∈us,∃ xi,Rep K H di xi/\RelV xi w
 | [],vs,us,h,r,_,_=>by
  unfold Reps at h
  subst h
  cases r
  exact ⟨fun w h=>absurd h bh,fun w h=>absurd h bh⟩
 | d::ds,vs,us,h,r,p,hd=>by
  unfold Reps at h
  obtain ⟨x,r',rfl,h1,h2⟩:=h
  cases r with
  | cons rx rxs =>
   unfold DV.pls at p
   rw [aV] at p
   unfold DV.dps at hd
   obtain ⟨i1,i2⟩:=reps_mem h2 rxs p.2 (by omega)
   refine ⟨fun w hw=>?_,fun di hi=>?_⟩
   ·rcases ar.mp hw with e | e
    ·rw [e];exact ⟨d,ay,x,h1,rx,p.1,by omega⟩
    ·obtain ⟨di,m,z⟩:=i1 w e
     exact ⟨di,au _ m,z⟩
   ·rcases ar.mp hi with e | e
    ·rw [e];exact ⟨_,ay,x,h1,rx⟩
    ·obtain ⟨w,m,z⟩:=i2 di e
     exact ⟨w,au _ m,z⟩
open Classical in
theorem in_items {K:PySem.W.Frag} {k:Nat} (hr:Room k X.A) (hK:X.K=K) (I:Inv X pins σ H s) {d:DV} {ds:List DV} {x:V} {v:Value} {vs:List V} {us:List Value} (h1:Rep K H d x) (rx:RelV x v) (r1:Reps K H ds vs) (rv:Vals vs us) (p1:d.pl=true) (p2:DV.pls ds=true) (hd:DV.dps ds<=60) :
  ∃ e:Value->Bool,(∀ w∈us,SeqAt.EqAt X.A.in1 s w v (e w))/\(us.any e=true↔d∈ds):=by
 subst hK
 obtain ⟨i1,i2⟩:=reps_mem r1 rv p2 hd
 have hun:=hr.units
 have key:∀ w∈us,∀ di∈ds,∀ xi,Rep X.K H di xi->RelV xi w->(decide (∃ xi,RelV xi w/\Rep X.K H d xi)=true↔di=d):=fun w hw di hi xi hx rw'=>by
  rw [decide_eq_true_iff]
  constructor
  ·rintro ⟨x',r',h'⟩
   rw [RelV.inj r' rw'] at h'
   exact Rep.inj I hx h'
  ·rintro rfl
   exact ⟨xi,rw',hx⟩
 refine ⟨fun w=>decide (∃ xi,RelV xi w/\Rep X.K H d xi),fun w hw=>?_,?_⟩
 ·obtain ⟨di,hi,xi,hx,rw',pi,dpi⟩:=i1 w hw
  obtain ⟨b,hb,ib⟩:=eqD I di d X.A.in1 hx h1 rw' rx pi p1 (by show X.A.units+1+_+1<_;omega)
  have:decide (∃ xi,RelV xi w/\Rep X.K H d xi)=b:=cs.mpr ((key w hw di hi xi hx rw').trans ib.symm)
  dsimp only
  rw [this]
  exact hb
 ·rw [dI]
  constructor
  ·rintro ⟨w,hw,he⟩
   obtain ⟨di,hi,xi,hx,rw',_,_⟩:=i1 w hw
   exact (key w hw di hi xi hx rw').mp he ▸ hi
  ·intro hm
   obtain ⟨w,hw,xi,hx,rw'⟩:=i2 d hm
   exact ⟨w,hw,(key w hw d hm xi hx rw').mpr rfl⟩
theorem op_inP (K:PySem.W.Frag) {k:Nat} (hr:Room k X.A) (hK:X.K=K:=by rfl):OpR X (compareOp .In) (rInP K false):=by
 intro pins s σ H x y u v Q I rx ry h
 obtain ⟨d,ds,h1,h2,p1,p2,hd,q⟩:=h
 unfold Rep at h2
 obtain ⟨a,vs,rfl,t1,r1⟩:=h2
 cases ry
 subst hK
 obtain ⟨its,rv,p,_⟩:=I.list t1
 obtain ⟨e,he,hi⟩:=in_items hr rfl I h1 rx r1 rv p1 p2 hd
 refine SeqAt.in_listAt e p.isList (fun w hw=>he w (by simpa using hw)) ⟨.bl _,H,I,rfl,?_⟩
 rw [show its.toArray.any e=its.any e by simp]
 exact q _ hi
theorem op_notInP (K:PySem.W.Frag) {k:Nat} (hr:Room k X.A) (hK:X.K=K:=by rfl):OpR X (compareOp .NotIn) (rInP K true):=by
 intro pins s σ H x y u v Q I rx ry h
 obtain ⟨d,ds,h1,h2,p1,p2,hd,q⟩:=h
 unfold Rep at h2
 obtain ⟨a,vs,rfl,t1,r1⟩:=h2
 cases ry
 subst hK
 obtain ⟨its,rv,p,_⟩:=I.list t1
 obtain ⟨e,he,hi⟩:=in_items hr rfl I h1 rx r1 rv p1 p2 hd
 refine SeqAt.notIn_listAt e p.isList (fun w hw=>he w (by simpa using hw)) ⟨.bl _,H,I,rfl,?_⟩
 rw [show its.toArray.any e=its.any e by simp]
 exact q _ hi
end L2
set_option maxHeartbeats 1000000
set_option maxHeartbeats 1000000
namespace L2
open PySem PySem.Spec PyProof.Rows
def exObj (C:Addr) (d:Option Addr) (u:Addr):Obj:={ cls:=.ref C,dict:=d,data:=.fields #[.ref u,.none,.none,.none,.bool false,.none] }
def exO (a C:Addr) (d:Option Addr) (u:Addr):HO:=.ext fun h=>h.get? a=some (exObj C d u)
end L2
set_option maxHeartbeats 1000000
namespace DL
open PySem PySem.Spec PyProof.Rows L2
variable {prog:Program} {w:World} {A:Around} {E:Value->Shared->Prop} {s:Shared}
theorem keys_miss:typeLookup (.type "list") "keys" = pure none:=am_miss_of_fast (by decide +kernel)
theorem list_keys {l:Addr} {sl:Array (Option Value)} {xs:Array Value} {k:Nat} {Q:Option Value->Shared->Prop} (h1:s.heap.get? l=some ⟨.type "list",none,.seq xs k,sl⟩) (hA:A.handled=none)
  (q:∀ h' tk e,s.heap.NewExcOf h' e "AttributeError" -> Q none { s with heap:=h',toks:=tk }):wpAny (model prog w) A (getAttr? (.ref l) "keys") Q E s:=by
 unfold getAttr? getAttrBy?
 refine wpAny_bind (wpAny_mkText ?_)
 refine wpAny_bind (wpAny_attempt ?_)
 unfold getAttrBy
 refine wpAny_holding ?_
 refine wpAny_bind (wpAny_typeOf (T := "list") ⟨_,h1,rfl⟩ ?_)
 refine wpAny_bind ?_
 rw [F.slot_list_getattribute.lookup]
 refine wpAny_pure ?_
 show wpAny _ _ (getAttrByItsOwn _ _ _ _ _ _) _ _ _
 unfold getAttrByItsOwn hookBefore
 refine wpAny_bind (wpAny_pure ?_)
 refine wpAny_bind (wpAny_attempt ?_)
 refine wpAny_holding ?_
 show wpAny _ _ (boundAndCalled _ _ _) _ _ _
 unfold boundAndCalled
 refine wpAny_bind ?_
 rw [F.slot_list_getattribute.bind]
 refine wpAny_pure ?_
 show wpAny _ _ (call (.builtin "list.__getattribute__") [.ref l,.str "keys" s.toks]) _ _ _
 refine wpAny_call (codeAny_call_builtin F.slot_list_getattribute.plain F.entry_list_ga (F.slot_list_getattribute.check _ _ _ _ _ _ _ _ ⟨_,h1,rfl⟩ (F.args_list_getattribute_2 _ _) ?_))
 unfold Builtin.«object.__getattribute__»
 refine wpAny_bind (wpAny_pure ?_)
 refine wpAny_bind (wpAny_pure ?_)
 refine wpAny_bind (wpAny_typeOf (T := "list") ⟨_,h1,rfl⟩ ?_)
 refine wpAny_bind ?_
 unfold Builtin.ObjectAttr.find
 refine wpAny_bind ?_
 rw [keys_miss]
 refine wpAny_pure ?_
 refine wpAny_bind (wpAny_pure ?_)
 refine wpAny_bind (wpAny_pure ?_)
 show wpAny _ _ (Builtin.ObjectAttr.ownThenClass _ _ _ _) _ _ _
 unfold Builtin.ObjectAttr.ownThenClass
 have e0:∀ {Q':Option Value->Shared->Prop} {E':Value->Shared->Prop},Q' none { s with toks:=s.toks+1 }->wpAny (model prog w) A.in1 (Builtin.ObjectAttr.inOwnDict "keys" (.ref l)) Q' E' { s with toks:=s.toks+1 }:=fun {Q' E'} hq=>by
  unfold Builtin.ObjectAttr.inOwnDict Builtin.ObjectAttr.ownDict instanceDict
  wp_walk using wpAny_loadPart' h1
  exact hq
 refine wpAny_bind (e0 ?_)
 refine wpAny_bind (wpAny_pure ?_)
 unfold Builtin.ObjectAttr.byTheClass
 refine wpAny_bind (wpAny_rule (wpAny_pure ?_))
 show wpAny _ _ (Builtin.ObjectAttr.noSuchAttribute _ _) _ _ _
 unfold Builtin.ObjectAttr.noSuchAttribute typeNameOfCut shownTypeOf
 refine wpAny_bind (wpAny_bind (wpAny_bind (wpAny_typeOf (T := "list") ⟨_,h1,rfl⟩ (wpAny_pure ?_))))
 refine wpAny_pure ?_
 refine wpAny_raiseAttrError (by exact hA) (fun h' tk e hn=>?_) (by decide +kernel)
 have hT:∀ {s':Shared},s'.heap=h'->s'.TypeIs (.ref e) "AttributeError" := fun {s'} hh=>by
  obtain ⟨t,u,ht⟩:=hn.there
  exact ⟨_,by rw [hh];exact ht,rfl⟩
 show wpAny _ _ (getattributeRaised _ _ _ _ _ _ _) _ _ _
 unfold getattributeRaised
 refine wpAny_bind (wpAny_isInstance (hT rfl) sub_AttributeError ?_)
 unfold hookBehind
 refine wpAny_bind ?_
 rw [if_neg (by decide),list_getattr_none]
 refine wpAny_pure ?_
 unfold hookOrError attributeErrorLeaves
 refine wpAny_bind (wpAny_throw ?_)
 refine wpAny_bind (wpAny_isInstance (hT rfl) sub_AttributeError ?_)
 exact wpAny_pure (q _ _ _ hn.of)
theorem entry_loop:entryFor table "dict.update.loop" = some Builtin.«dict.update.loop» := by kernel_rfl
section
variable {Kt:Type} [DecidableEq Kt] {knd:KeyKind prog w Kt} {R:Result->Shared->Prop} {d l it:Addr}
theorem dict_loop (hA:A.handled=none) (kvs:List (Kt×Value)) (nd:(kvs.map (·.1)).Nodup) (hlen:kvs.length<=sizeLine) (hdl:l≠d) (hdi:d≠it) (hli:l≠it) (items:List Value) (le:items.length=kvs.length) :
  ∀ (n i:Nat) (s:Shared) (tok:Tok),items.length-i=n->i<=items.length->s.heap.IsList l items.toArray->s.heap.IsListIter it l i ->
   (∀ (j:Nat) (kv:Kt×Value),kvs[j]? = some kv->∃ (p:Addr) (key:Value) (c:Nat) (o:Obj),items[j]? = some (Value.ref p)/\p≠d/\p≠it/\s.heap.get? p=some o/\o.cls=Value.type "tuple" /\ o.data=Data.seq #[key,kv.2] c/\knd.is kv.1 key=true) ->
   Heap.DictOf knd s.heap d (kvs.take i) ->
   (∀ (h':Heap) (tk:Nat),Heap.DictOf knd h' d kvs->(∀ (b:Addr) (o:Obj),b≠d->b≠it->s.heap.get? b=some o->h'.get? b=some o)->R (Except.ok (Flow.ret Value.none)) { s with heap:=h',toks:=tk }) ->
   codeAny (model prog w) A (Code.builtin "dict.update.loop" ⟨[Value.ref d,Value.ref it,Value.int (i:Int) tok,Value.none],[]⟩) R s
 | 0,i,s,tok,hn,hi,hl,hit,hp,hd,q=>by
  refine codeAny_builtin entry_loop ?_
  unfold Builtin.«dict.update.loop»
  have hnone:items.toArray[i]? = none:=by rw [cV];exact bF.mpr (by omega)
  refine wpAny_bind (wpAny_pyNext_list_end (by exact hA) hit hl hnone fun h' ext=>?_)
  refine wpAny_bind ?_
  unfold Builtin.Dict.addKeywords
  refine wpAny_bind ?_
  simp only [List.forIn_nil]
  refine wpAny_pure (wpAny_pure ?_)
  have e:kvs.take i=kvs:=fv (by omega)
  rw [e] at hd
  exact wpAny_pure (q _ _ (hd.at fun o ho=>ext d o hdi ho) fun b o _ b2 ho=>ext b o b2 ho)
 | n+1,i,s,tok,hn,hi,hl,hit,hp,hd,q=>by
  refine codeAny_builtin entry_loop ?_
  unfold Builtin.«dict.update.loop»
  have hik:i<kvs.length:=by omega
  obtain ⟨p,key,c,o,e1,pd,pi,e2,e3,e4,e5⟩:=hp i kvs[i] (aq hik)
  refine wpAny_bind (wpAny_pyNext_list_item hit hl (x:=.ref p) (by rw [cV];exact e1) fun h1 it1 sb=>?_)
  have g1:∀ b ob,b≠it->s.heap.get? b=some ob->h1.get? b=some ob:=fun b ob hb hob=>sb.extBut _ _ hb hob
  refine wpAny_bind (wpAny_holding ?_)
  refine wpAny_bind (wpAny_tryCatch ?_)
  unfold Builtin.Dict.pairItems
  refine wpAny_bind (wpAny_typeOf (T := "tuple") ⟨o,g1 p o pi e2,e3⟩ ?_)
  show wpAny _ _ (seqItems? (.ref p) >>= _) _ _ _
  refine wpAny_bind (wpAny_seqItems (g1 p o pi e2) e4 (wpAny_pure ?_))
  show wpAny _ _ (holding [key,kvs[i].2] (dictSet d key kvs[i].2)) _ _ _
  refine wpAny_holding ?_
  have hd1:Heap.DictOf knd h1 d (kvs.take i):=hd.at fun o ho=>g1 d o hdi ho
  refine wpAny_dictSet_pairs e5 hd1 (fun h2 hd2 sb2=>?_) (by rw [aO];omega)
  have g2:∀ b ob,b≠d->h1.get? b=some ob->h2.get? b=some ob:=fun b ob hb hob=>sb2.extBut _ _ hb hob
  have est:stored (kvs.take i) kvs[i].1 kvs[i].2=kvs.take (i+1):=by
   unfold stored
   rw [if_neg]
   ·rw [List.take_succ,aq hik]
    rfl
   ·intro hany
    obtain ⟨x,hx,hxe⟩:=dI.mp hany
    have hxe:=of_decide_eq_true hxe
    obtain ⟨j,hj,hjx⟩:=List.mem_iff_getElem.mp hx
    rw [aO] at hj
    rw [List.getElem_take] at hjx
    have:=dh.mp nd j i (by rw [ab];omega) (by rw [ab];exact hik) (by omega)
    apply this
    rw [gM,gM,hjx,hxe]
  rw [est] at hd2
  refine wpAny_pure ⟨Code.quiet_builtin _ (by decide +kernel),?_⟩
  have hl2:h2.IsList l items.toArray:=by
   obtain ⟨ol,a1,a2⟩:=hl
   exact ⟨ol,g2 l ol hdl (g1 l ol hli a1),a2⟩
  have hit2:h2.IsListIter it l (i+1):=by
   obtain ⟨ol,a1,a2⟩:=it1
   exact ⟨ol,g2 it ol (Ne.symm hdi) a1,a2⟩
  exact dict_loop hA kvs nd hlen hdl hdi hli items le n (i+1) { s with heap:=h2,toks:=s.toks+1 } 0 (by omega) (by omega) hl2 hit2 (fun j kv hj=>by
   obtain ⟨p,key,c,o,e1,pd,pi,e2,e3,e4,e5⟩:=hp j kv hj
   exact ⟨p,key,c,o,e1,pd,pi,g2 p o pd (g1 p o pi e2),e3,e4,e5⟩) hd2 fun h' tk hd' keep=>q h' tk hd' fun b ob b1 b2 hob=>keep b ob b1 b2 (g2 b ob b1 (g1 b ob b2 hob))
theorem call_dict {sl:Array (Option Value)} {c0:Nat} {Q:Value->Shared->Prop} (hA:A.handled=none) (kvs:List (Kt×Value)) (nd:(kvs.map (·.1)).Nodup) (hlen:kvs.length<=sizeLine) (items:List Value) (le:items.length=kvs.length)
  (h1:s.heap.get? l=some ⟨.type "list",none,.seq items.toArray c0,sl⟩)
  (hp:∀ (j:Nat) (kv:Kt×Value),kvs[j]? = some kv->∃ (p:Addr) (key:Value) (c:Nat) (o:Obj),items[j]? = some (Value.ref p)/\s.heap.get? p=some o/\o.cls=Value.type "tuple" /\ o.data=Data.seq #[key,kv.2] c/\knd.is kv.1 key=true)
  (q:∀ (h':Heap) (tk:Nat),Heap.DictOf knd h' s.heap.objs.size kvs->(∀ (b:Addr) (o:Obj),s.heap.get? b=some o->h'.get? b=some o)->Q (.ref s.heap.objs.size) { s with heap:=h',toks:=tk }) :
  wpAny (model prog w) A (call (.type "dict") [.ref l]) Q E s:=by
 refine callType_codes F.kt_called_dict (F.kt_typeCall_dict_1 _) F.entry_dict_init (kt_code_dict_new (Q₁:=fun obj s₁=>obj = .ref s.heap.objs.size/\s₁ = { s with heap:=s.heap.push { cls:=.type "dict",data:=.dict #[] } }) _ ⟨rfl,rfl⟩) ?_
 rintro _ _ ⟨rfl,rfl⟩
 generalize hD:s.heap.objs.size=D at *
 have gD:(s.heap.push { cls:=.type "dict",data:=.dict #[] }).get? D=some { cls:=.type "dict",data:=.dict #[] }:=by rw [← hD];exact Heap.get?_push_size _ rfl
 have gk:∀ (b:Addr) (o:Obj),s.heap.get? b=some o->(s.heap.push { cls:=.type "dict",data:=.dict #[] }).get? b=some o:=fun b o hb=>Heap.get?_push_of_some _ hb
 have lt:∀ (b:Addr) (o:Obj),s.heap.get? b=some o->b<D:=fun b o hb=>by rw [← hD];exact Heap.lt_size hb
 refine ⟨⟨_,gD,rfl⟩,F.args_dict_init_2 _ _,?_⟩
 unfold Builtin.«dict.__init__» Builtin.Dict.selfAndRest
 refine wpAny_bind (wpAny_bind ?_)
 unfold Builtin.Dict.notOrdered
 rw [if_pos (by decide +kernel)]
 refine wpAny_bind (wpAny_typeOf (T := "dict") ⟨_,gD,rfl⟩ (wpAny_pure ?_))
 refine wpAny_bind (wpAny_pure (wpAny_pure ?_))
 show wpAny _ _ (Builtin.Dict.updateFrom "dict.__init__" D (.ref l) [] .none) _ _ _
 unfold Builtin.Dict.updateFrom
 refine wpAny_bind (wpAny_typeOf (T := "list") ⟨_,gk _ _ h1,rfl⟩ ?_)
 show wpAny _ _ (getAttr? (.ref l) "keys" >>= _) _ _ _
 refine wpAny_bind (list_keys (gk _ _ h1) (by exact hA) fun h2 tk2 e2 ne=>?_)
 have k2:=ne.keeps
 refine wpAny_bind (wpAny_rule ?_)
 have hl2:h2.IsList l items.toArray:=⟨_,k2 _ _ (gk _ _ h1),rfl,c0,rfl⟩
 refine wpAny_bind (wpAny_pyIter_list (s:=⟨h2,s.gens,s.drawn,tk2,s.os⟩) hl2 ?_)
 generalize hI:h2.objs.size=I at *
 have gI:(h2.push { cls:=.type "list_iterator",data:=.fields #[.ref l,.int 0 0] }).get? I=some { cls:=.type "list_iterator",data:=.fields #[.ref l,.int 0 0] }:=by rw [← hI];exact Heap.get?_push_size _ rfl
 have k3:∀ (b:Addr) (o:Obj),h2.get? b=some o->(h2.push { cls:=.type "list_iterator",data:=.fields #[.ref l,.int 0 0] }).get? b=some o:=fun b o hb=>Heap.get?_push_of_some _ hb
 have lt2:∀ (b:Addr) (o:Obj),h2.get? b=some o->b<I:=fun b o hb=>by rw [← hI];exact Heap.lt_size hb
 have lD:=lt2 _ _ (k2 _ _ gD)
 have ll:=lt2 _ _ (k2 _ _ (gk _ _ h1))
 have ll':=lt _ _ h1
 refine wpAny_pure ⟨Code.quiet_builtin _ (by decide +kernel),?_⟩
 refine dict_loop (knd:=knd) (by exact hA) kvs nd hlen (aM ll') (aM lD) (aM ll) items le items.length 0 ⟨_,s.gens,s.drawn,tk2,s.os⟩ 0 (by omega) (by omega) ?_ ?_ ?_ ?_ ?_
 ·exact ⟨⟨.type "list",none,.seq items.toArray c0,sl⟩,k3 _ _ (k2 _ _ (gk _ _ h1)),rfl,c0,rfl⟩
 ·exact ⟨_,gI,rfl,rfl⟩
 ·intro j kv hj
  obtain ⟨p,key,c,o,e1,e2,e3,e4,e5⟩:=hp j kv hj
  have y1:=lt _ _ e2
  exact ⟨p,key,c,o,e1,aM y1,aM (lt2 _ _ (k2 _ _ (gk _ _ e2))),k3 _ _ (k2 _ _ (gk _ _ e2)),e3,e4,e5⟩
 ·rw [de]
  exact ⟨_,#[],_,k3 _ _ (k2 _ _ gD),⟨rfl,rfl,rfl⟩,rfl,fun e h=>by simp at h,.nil,List.nodup_nil⟩
 ·intro h' tk hd keep
  exact ⟨rfl,q h' tk hd fun b o hb=>keep b o (aM (lt _ _ hb)) (aM (lt2 _ _ (k2 _ _ (gk _ _ hb)))) (k3 _ _ (k2 _ _ (gk _ _ hb)))⟩
end
end DL
namespace L2
open PySem PySem.Spec PyProof.Rows
theorem Inv.big {X:Cx} {pins:List (Addr×Obj)} {σ:St} {H:Hp} {s:Shared} (I:Inv X pins σ H s):(s.heap.objs.size == sysModules)=false:=by
 have h2:sysModules<mainGlobals:=by decide
 exact beq_false_of_ne (dP (Nat.lt_trans h2 (I.mod.glob.keeps I.bk).lt))
def rDict (K:PySem.W.Frag):List V->Hp->VK->Prop:=fun xs H Q=>∃ (a:Addr) (zs:List V) (kvs:List (Key×V)),xs=[.ref a]/\H a=some (.lst zs)/\zs.length=kvs.length/\(kvs.map (·.1)).Nodup/\(∀ (j:Nat) (kv:Key×V),kvs[j]? = some kv->∃ p,zs[j]? = some (.ref p)/\SqT K H p [kV kv.1,kv.2])/\∀ d,H d=none->Q (.ref d) (upd H d (.dK kvs))
theorem kv_ex {P:Nat->Key×V->Value->Prop}:∀ {kvs:List (Key×V)},(∀ (j:Nat) (kv:Key×V),kvs[j]? = some kv->∃ u,RelV kv.2 u/\P j kv u)->∃ vs:List (Key×Value),KV kvs vs/\∀ (j:Nat) (y:Key×Value),vs[j]? = some y->∃ kv,kvs[j]? = some kv/\y.1=kv.1/\P j kv y.2
 | [],_=>⟨[],.nil,fun j y h=>by cases h⟩
 | kv::kvs,h=>by
  obtain ⟨u,r,p⟩:=h 0 kv rfl
  obtain ⟨vs,k,hv⟩:=kv_ex (P:=fun j=>P (j+1)) (kvs:=kvs) fun j kv hj=>h (j+1) kv hj
  refine ⟨(kv.1,u)::vs,.cons ⟨rfl,r⟩ k,fun j y hj=>?_⟩
  cases j with
  | zero=>cases hj;exact ⟨kv,rfl,rfl,p⟩
  | succ j=>exact hv j y hj
theorem KV.keys:∀ {kvs:List (Key×V)} {vs:List (Key×Value)},KV kvs vs->vs.map (·.1)=kvs.map (·.1)
 | _,_,.nil=>rfl
 | _,_,.cons r t=>by rw [bW,bW,KV.keys t,r.1]
theorem KV.at:∀ {kvs:List (Key×V)} {vs:List (Key×Value)} {j:Nat} {kv:Key×V},KV kvs vs->kvs[j]? = some kv->∃ u,vs[j]? = some (kv.1,u)/\RelV kv.2 u
 | _,_,0,_,.cons (b:=q) r t,h=>by cases h;exact ⟨q.2,by rw [r.1];rfl,r.2⟩
 | _,_,j+1,_,.cons r t,h=>by
  rw [dH] at h
  obtain ⟨u,e1,e2⟩:=KV.at t h
  exact ⟨u,by rw [dH];exact e1,e2⟩
section
variable {X:Cx}
theorem call_dict (K:PySem.W.Frag) (hc:X.calm=true) (hK:X.K=K:=by rfl):CallR X (.type "dict") (rDict K):=by
 subst hK
 intro pins s σ H xs us Q I r h
 obtain ⟨a,zs,kvs,rfl,ha,hl,nd,hp,q⟩:=h
 obtain ⟨u,rfl,rx⟩:=vals1 r
 cases rx
 obtain ⟨hz,its,n,rv,le,e⟩:=I.lstM ha
 obtain ⟨vs,kv,hv⟩:=kv_ex (P:=fun j kv u=>∃ (p:Addr) (key:Value) (c:Nat) (o:Obj),its[j]? = some (Value.ref p)/\s.heap.get? p=some o/\o.cls=Value.type "tuple" /\ o.data=Data.seq #[key,u] c/\(mixKind X.prog X.w).is kv.1 key=true) (kvs:=kvs) fun j kv hj=>by
  obtain ⟨p,e1,hq⟩:=hp j kv hj
  obtain ⟨w,ew,rw'⟩:=rv.get e1
  cases rw'
  obtain ⟨its2,r2,⟨o,g1,g2,c,g3⟩,_⟩:=I.tuple hq
  match its2,r2,g3 with
  | [k,u],.cons rk (.cons ru .nil),g3 =>
   refine ⟨u,ru,p,k,c,o,ew,g1,g2,g3,?_⟩
   obtain ⟨kk,vv⟩:=kv
   cases kk with
   | inl i=>obtain ⟨t,rfl⟩:=rk;exact keyIs_int i t
   | inr x=>obtain ⟨t,rfl⟩:=rk;exact keyIs_str x t
 have lv:vs.length=kvs.length:=by have:=congrArg List.length kv.keys;rw [ab,ab] at this;exact this
 refine DL.call_dict (knd:=mixKind X.prog X.w) (I.ok.hd hc) vs (by rw [kv.keys];exact nd) (by omega) its (by omega) e (fun j y hj=>?_) fun h' tk hd keep=>?_
 ·obtain ⟨kv',h1,h2,p,key,c,o,g1,g2,g3,g4,g5⟩:=hv j y hj
  exact ⟨p,key,c,o,g1,g2,g3,g4,by rw [h2];exact g5⟩
 ·exact ⟨.ref s.heap.objs.size,_,I.laid (a:=s.heap.objs.size) (o:=.dK kvs) (t':=tk) keep (aj _) ⟨by omega,I.big,vs,kv,hd⟩,rfl,q _ (I.hok.fresh (aj _))⟩
def rIxD:R2:=fun x y H Q=>∃ p kvs k v,x = .ref p/\y=kV k/\H p=some (.dK kvs)/\(k,v)∈kvs/\Q v H
theorem ix_dict:IxR X rIxD:=by
 intro value slice pins s σ H x y v u Q I rx ry h hs
 obtain ⟨p,kvs,k,z,rfl,rfl,hq,he,q⟩:=h
 cases rx
 obtain ⟨hz,hn,vs,rel,dd⟩:kvs.length<=sizeLine/\(p == sysModules)=false/\∃ vs,KV kvs vs/\s.heap.DictOf (mixKind X.prog X.w) p vs:=I.hok p _ hq
 obtain ⟨j,hj⟩:=cL.mp he
 obtain ⟨w,ew,rw'⟩:=rel.at hj
 have hk:(mixKind X.prog X.w).is k u=true:=by
  cases k with
  | inl i=>obtain ⟨t,rfl⟩:=ry;exact keyIs_int i t
  | inr x=>obtain ⟨t,rfl⟩:=ry;exact keyIs_str x t
 have dd':=dd
 obtain ⟨o,es,ep,g1,g2,g3,g4,g5,nd⟩:=dd'
 have hat:valueAt vs k=some w:=by
  unfold valueAt
  have hm:(k,w)∈vs:=aI ew
  clear dd g3 g4 g5 rel ew
  induction vs with
  | nil=>cases hm
  | cons a vs ih =>
   rw [bW,cY] at nd
   rcases ar.mp hm with e | e
   ·subst e
    simp
   ·have:a.1≠k:=fun z=>nd.1 (by rw [z];exact cP.mpr ⟨_,e,rfl⟩)
    rw [List.find?_cons]
    rw [decide_eq_false this]
    exact ih nd.2 e
 have fin:EP X pins σ Q w { s with toks:=s.toks+1 }:=⟨z,H,I.tok _,rw',q⟩
 exact subscriptTail_builtinR (x:=w) (T := "dict") ⟨o,g1,g2.1⟩ PySem.F.slot_dict_getitem.lookup (wpAny_getItem_of (Q:=fun r s'=>r=w/\EP X pins σ Q r s') hk dd.mapOf hat ⟨rfl,fin⟩) hs
end
end L2
namespace Ca
open Cv
def rv (a:Nat) (f:Nat->Int):Nat->Int:=fun j=>if j<=a then f (a-j) else 0
theorem cv_rv {f g:Nat->Int} {a b i:Nat} (hf:∀ j,a<j->f j=0) (hg:∀ j,b<j->g j=0) (hi:i<=a+b):cv f g (a+b-i)=cv (rv a f) (rv b g) i:=by
 have h1:tm f g (a+1) (a+b-i)=cv f g (a+b-i):=tm_cv fun j hj=>hf j (by omega)
 have h2:tm (rv a f) (rv b g) (a+1) i=cv (rv a f) (rv b g) i:=tm_cv fun j hj=>if_neg (by omega)
 rw [← h1,← h2]
 unfold tm
 rw [sm_rev (fun j=>if j<=i then rv a f j*rv b g (i-j) else 0)]
 refine sm_congr fun j hj=>?_
 show (if j<=a+b-i then f j*g (a+b-i-j) else 0)=if a+1-1-j<=i then rv a f (a+1-1-j)*rv b g (i-(a+1-1-j)) else 0
 have e1:rv a f (a+1-1-j)=f j:=by
  unfold rv
  rw [if_pos (by omega),show a-(a+1-1-j)=j by omega]
 rw [e1]
 by_cases c:a+1-1-j<=i
 ·rw [if_pos c]
  unfold rv
  by_cases d:i-(a+1-1-j)<=b
  ·rw [if_pos d,if_pos (by omega),show b-(i-(a+1-1-j))=a+b-i-j by omega]
  ·rw [if_neg d,if_neg (by omega),bN]
 ·rw [if_neg c,hg (a+b-i-j) (by omega),bN]
  split <;> rfl
theorem pw_out {f:Nat->Int} {s:Nat} (hf:∀ j,s<j->f j=0):∀ k j,k*s<j->pw f k j=0
 | 0,j,h=>if_neg (by omega)
 | k+1,j,h=>by
  rw [aT] at h
  exact cv_out (a:=k*s+1) (b:=s+1) (fun i hi=>pw_out hf k i (by omega)) (fun i hi=>hf i (by omega)) (by omega)
theorem pw_rv {f:Nat->Int} {s:Nat} (hf:∀ j,s<j->f j=0):∀ k i,i<=k*s->pw f k (k*s-i)=pw (rv s f) k i
 | 0,i,h=>by
  rw [show i=0 by omega]
  show pw f 0 (0*s-0)=_
  rw [dO]
  rfl
 | k+1,i,h=>by
  show cv (pw f k) f ((k+1)*s-i)=cv (pw (rv s f) k) (rv s f) i
  rw [aT] at h ⊢
  rw [cv_rv (fun j hj=>pw_out hf k j hj) hf h]
  refine cv_le (fun j hj=>?_) fun _ _=>rfl
  unfold rv
  by_cases c:j<=k*s
  ·rw [if_pos c]
   exact pw_rv hf k j c
  ·rw [if_neg c]
   exact (pw_out (s:=s) (fun j hj=>if_neg (by omega)) k j (by omega)).symm
theorem pw_le {f g:Nat->Int} {n:Nat} (h:∀ j,j<=n->f j=g j):∀ k j,j<=n->pw f k j=pw g k j
 | 0,_,_=>rfl
 | k+1,j,hj=>cv_le (fun i hi=>pw_le h k i (by omega)) fun i hi=>h i (by omega)
theorem pw_geo (f:Nat->Int) (c:Int):∀ k j,pw (fun i=>f i*c^i) k j=pw f k j*c^j
 | 0,j=>by
  show (if j=0 then (1:Int) else 0)=(if j=0 then 1 else 0)*c^j
  split
  ·rw [‹j=0›,aW,bu]
  ·rw [aE]
 | k+1,j=>by
  show cv (pw (fun i=>f i*c^i) k) (fun i=>f i*c^i) j=cv (pw f k) f j*c^j
  unfold cv
  rw [← sm_mul]
  refine sm_congr fun i hi=>?_
  rw [pw_geo f c k i]
  have:c^j=c^i*c^(j-i):=by rw [← cB,show i+(j-i)=j by omega]
  rw [this]
  grind
theorem pw_scl (f:Nat->Int) (c:Int):∀ k j,pw (fun i=>f i*c) k j=pw f k j*c^k
 | 0,j=>by rw [aW,bu];rfl
 | k+1,j=>by
  show cv (pw (fun i=>f i*c) k) (fun i=>f i*c) j=cv (pw f k) f j*c^(k+1)
  unfold cv
  rw [← sm_mul]
  refine sm_congr fun i hi=>?_
  rw [pw_scl f c k i,bf]
  grind
end Ca
namespace Ca
open Cv
theorem pw_cp (g:Nat->Int):∀ k,pw g k=Pc.cp g k
 | 0=>rfl
 | k+1=>by show cv (pw g k) g=_;rw [pw_cp g k];rfl
theorem cv_const {R E:List Int} (hE:∀ j,0<j->E.getD j 0=0) (j:Nat):cv (fn R) (fn E) j=R.getD j 0*E.getD 0 0:=by
 rw [cv_comm]
 have:tm (fn E) (fn R) 1 j=cv (fn E) (fn R) j:=tm_cv fun i hi=>hE i (by omega)
 rw [← this]
 show sm _ 1=_
 rw [sm,sm,if_pos (aC _),cF,bR,bg]
 rfl
end Ca
namespace Pc
open Cv
theorem cv_top {f g:Nat->Int} {a b:Nat} (hf:∀ j,a<j->f j=0) (hg:∀ j,b<j->g j=0):cv f g (a+b)=f a*g b:=by
 have:=Ca.cv_rv (i:=0) hf hg (aC _)
 rw [bR,Ca.cv_0] at this
 rw [this]
 unfold Ca.rv
 rw [if_pos (aC _),if_pos (aC _),bR,bR]
theorem cp_top {g:Nat->Int} {d:Nat} (hg:∀ j,d<j->g j=0):∀ n,cp g n (n*d)=g d^n
 | 0=>by rw [dO,aW];rfl
 | n+1=>by
  rw [aT]
  show cv (cp g n) g (n*d+d)=_
  rw [cv_top (fun j hj=>cp_out' (m:=d+1) (fun k hk=>hg k (by omega)) n j (by show n*d+1<=j;omega)) hg,cp_top hg n,bf]
theorem Of.deg_eq {P G R:List Int} {B U C:Int} (hB:0<B) (hU:0<U) (h:Of P B G U R C) {n d:Nat} (lp:P.length=n+1) (lg:G.length=d+1) (d1:1<=d) (tp:P.getD n 0≠0) (tg:G.getD d 0≠0):R.length=n*d+1:=by
 have up:=h.deg hB hU
 rw [lp,lg] at up
 have up':R.length<=n*d+1:=up
 rcases am (n*d) R.length with c | c
 ·omega
 ·exfalso
  have e:=h.2 (n*d)
  have z:R.getD (n*d) 0=0:=by
   rw [ac,bq c]
   rfl
  rw [z,aE,lp] at e
  have hg:∀ k,d<k->fn G k=0:=fun k hk=>fn_out (by omega)
  have p0:pc (fn P) (fn G) U n (n*d)=0:=by
   cases n with
   | zero=>rfl
   | succ n=>exact pc_out' (m:=d+1) (fun k hk=>hg k (by omega)) (n+1) _ (by show n*d+1<=(n+1)*d;rw [aT];omega)
  have e2:pc (fn P) (fn G) U (n+1) (n*d)=fn P n*fn G d^n*U:=by
   show (pc (fn P) (fn G) U n (n*d)+fn P n*cp (fn G) n (n*d))*U=_
   rw [p0,cF,cp_top hg]
  rw [e2] at e
  have c0:=h.1.pos
  have:fn P n*fn G d^n*U*C≠0:=bA (bA (bA tp (ca tg)) (aw hU)) (aw c0)
  exact this e.symm
end Pc
namespace Dp
open PySem L2
abbrev St:=L2.St
def Fl (H:Hp) (f:Addr):Prop:=∃ (l:Addr) (ns:List Int) (i c a b:Int),H f=some (.lst [.ref l,.int i,.int c,.int a,.int b])/\H l=some (.lst (ns.map V.int))/\ns.length<=63/\0<=i/\i<=(ns.length:Int)/\0<=c/\0<=a/\a<2147483647
theorem Fl.same {H H':Hp} {f:Addr} (F:Fl H f) (e:Same H H'):Fl H' f:=by
 obtain ⟨l,ns,i,c,a,b,h1,h2,h⟩:=F
 exact ⟨l,ns,i,c,a,b,e _ _ h1,e _ _ h2,h⟩
theorem Fl.lst {H:Hp} {f:Addr} (F:Fl H f):∃ xs,H f=some (.lst xs):=by
 obtain ⟨l,ns,i,c,a,b,h1,_⟩:=F
 exact ⟨_,h1⟩
inductive D where
 | non | bl (b:Bool) | int (i:Int) | str (x:Str) | tup (l:List D) | lst (l:List D) | fl
  | exn (C:Addr) (x:Str) (l:List D)
  | dct (ks:List Key) (l:List D)
def XO (H:Hp) (a C:Addr) (x:Str) (us:List V):Prop:=(us=[]/\∃ u,H a=some (exO a C none u))\/∃ dx u y,us=[y]/\H a=some (exO a C (some dx) u)/\H dx=some (.xd [(x,y)])
mutual
def Rp (K:PySem.W.Frag) (f:Addr) (O:List Addr) (H:Hp):D->V->Prop
 | .non,v=>v = .non
 | .bl b,v=>v = .bl b
 | .int i,v=>v = .int i
 | .str x,v=>v = .str x
 | .tup l,v=>∃ a xs,v = .ref a/\SqT K H a xs/\Rps K f O H l xs
 | .lst l,v=>∃ a xs,v = .ref a/\a ∉ O/\H a=some (.lst xs)/\Rps K f O H l xs
 | .fl,v=>v = .ref f
 | .exn C x l,v=>∃ a us,v = .ref a/\XO H a C x us/\Rps K f O H l us
 | .dct ks l,v=>∃ a us,v = .ref a/\H a=some (.dK (ks.zip us))/\ks.length=us.length/\Rps K f O H l us
def Rps (K:PySem.W.Frag) (f:Addr) (O:List Addr) (H:Hp):List D->List V->Prop
 | [],vs=>vs=[]
 | d::ds,vs=>∃ v r,vs=v::r/\Rp K f O H d v/\Rps K f O H ds r
end
structure Ex (f:Addr) (H H':Hp):Prop where
 sm:Sm f H H'
 fl:Fl H' f
theorem Ex.refl {f:Addr} {H:Hp} (h:Fl H f):Ex f H H:=⟨Sm.refl H,h⟩
theorem Ex.trans {f:Addr} {H H1 H2:Hp} (a:Ex f H H1) (b:Ex f H1 H2):Ex f H H2:=⟨a.sm.trans b.sm,b.fl⟩
theorem Ex.new {f p:Addr} {H:Hp} (F:Fl H f) (h:H p=none) (o:HO):Ex f H (upd H p o):=⟨Sm.new h o,F.same (Same.new h o)⟩
variable {K:PySem.W.Frag} {f:Addr} {O O':List Addr} {H H':Hp}
def Kp (O:List Addr) (H H':Hp):Prop:=∀ b o,b ∉ O->H b=some o->H' b=some o
theorem Ex.kp (e:Ex f H H') (h:f∈O):Kp O H H':=fun b o n q=>e.sm.app b o (fun z=>n (z ▸ h)) q
theorem _root_.L2.SqT.kp {a:Addr} {xs:List V} (e:Kp O H H') (hO:∀ b∈O,∃ xs,H b=some (.lst xs)) (h:SqT K H a xs):SqT K H' a xs:=by
 rcases h with (h | ⟨o,h⟩) | h
 ·refine .inl (.inl (e a _ (fun z=>?_) h))
  obtain ⟨xs,q⟩:=hO a z
  rw [q] at h
  cases h
 ·refine .inl (.inr ⟨o,e a _ (fun z=>?_) h⟩)
  obtain ⟨xs,q⟩:=hO a z
  rw [q] at h
  cases h
 ·exact .inr h
theorem XO.kp {a C:Addr} {x:Str} {us:List V} (e:Kp O H H') (hO:∀ b∈O,∃ xs,H b=some (.lst xs)) (h:XO H a C x us):XO H' a C x us:=by
 rcases h with ⟨e1,u,h⟩ | ⟨dx,u,y,e1,h,hd⟩
 ·refine .inl ⟨e1,u,e a _ (fun z=>?_) h⟩
  obtain ⟨xs,q⟩:=hO a z
  rw [q] at h
  unfold exO at h
  cases h
 ·refine .inr ⟨dx,u,y,e1,e a _ (fun z=>?_) h,e dx _ (fun z=>?_) hd⟩
  ·obtain ⟨xs,q⟩:=hO a z
   rw [q] at h
   unfold exO at h
   cases h
  ·obtain ⟨xs,q⟩:=hO dx z
   rw [q] at hd
   cases hd
mutual
theorem Rp.kp (e:Kp O H H') (hO:∀ b∈O,∃ xs,H b=some (.lst xs)):∀ {d:D} {v:V},Rp K f O H d v->Rp K f O H' d v
 | .non,_,h=>h
 | .bl _,_,h=>h
 | .int _,_,h=>h
 | .str _,_,h=>h
 | .fl,_,h=>h
 | .tup l,v,h=>by
  obtain ⟨a,xs,e1,h1,h2⟩:=h
  exact ⟨a,xs,e1,h1.kp e hO,Rps.kp e hO h2⟩
 | .lst l,v,h=>by
  obtain ⟨a,xs,e1,n,h1,h2⟩:=h
  exact ⟨a,xs,e1,n,e a _ n h1,Rps.kp e hO h2⟩
 | .exn C x l,v,h=>by
  obtain ⟨a,us,e1,h1,h2⟩:=h
  exact ⟨a,us,e1,h1.kp e hO,Rps.kp e hO h2⟩
 | .dct ks l,v,h=>by
  obtain ⟨a,us,e1,h1,h2,h3⟩:=h
  exact ⟨a,us,e1,e a _ (fun z=>by obtain ⟨xs,q⟩:=hO a z;rw [q] at h1;cases h1) h1,h2,Rps.kp e hO h3⟩
theorem Rps.kp (e:Kp O H H') (hO:∀ b∈O,∃ xs,H b=some (.lst xs)):∀ {ds:List D} {vs:List V},Rps K f O H ds vs->Rps K f O H' ds vs
 | [],_,h=>h
 | d::ds,_,h=>by
  obtain ⟨v,r,e1,h1,h2⟩:=h
  exact ⟨v,r,e1,Rp.kp e hO h1,Rps.kp e hO h2⟩
end
mutual
theorem Rp.less (e:∀ a∈O',a∈O):∀ {d:D} {v:V},Rp K f O H d v->Rp K f O' H d v
 | .non,_,h=>h
 | .bl _,_,h=>h
 | .int _,_,h=>h
 | .str _,_,h=>h
 | .fl,_,h=>h
 | .tup l,v,h=>by
  obtain ⟨a,xs,e1,h1,h2⟩:=h
  exact ⟨a,xs,e1,h1,Rps.less e h2⟩
 | .lst l,v,h=>by
  obtain ⟨a,xs,e1,n,h1,h2⟩:=h
  exact ⟨a,xs,e1,fun z=>n (e a z),h1,Rps.less e h2⟩
 | .exn C x l,v,h=>by
  obtain ⟨a,us,e1,h1,h2⟩:=h
  exact ⟨a,us,e1,h1,Rps.less e h2⟩
 | .dct ks l,v,h=>by
  obtain ⟨a,us,e1,h1,h2,h3⟩:=h
  exact ⟨a,us,e1,h1,h2,Rps.less e h3⟩
theorem Rps.less (e:∀ a∈O',a∈O):∀ {ds:List D} {vs:List V},Rps K f O H ds vs->Rps K f O' H ds vs
 | [],_,h=>h
 | d::ds,_,h=>by
  obtain ⟨v,r,e1,h1,h2⟩:=h
  exact ⟨v,r,e1,Rp.less e h1,Rps.less e h2⟩
end
theorem Rps.len:∀ {ds:List D} {vs:List V},Rps K f O H ds vs->vs.length=ds.length
 | [],_,h=>by rw [show _=[] from h];rfl
 | d::ds,_,h=>by
  obtain ⟨v,r,e1,h1,h2⟩:=h
  rw [e1,aQ,aQ,Rps.len h2]
theorem Rps.nil:Rps K f O H [] []:=rfl
theorem Rps.cons {d:D} {ds:List D} {v:V} {vs:List V} (h:Rp K f O H d v) (t:Rps K f O H ds vs):Rps K f O H (d::ds) (v::vs):=⟨v,vs,rfl,h,t⟩
theorem Rps.get:∀ {ds:List D} {vs:List V} {i:Nat} {d:D},Rps K f O H ds vs->ds[i]? = some d->∃ v,vs[i]? = some v/\Rp K f O H d v
 | [],_,_,_,_,e=>by simp at e
 | d0::ds,_,i,d,h,e=>by
  obtain ⟨v,r,e1,h1,h2⟩:=h
  subst e1
  cases i with
  | zero =>
   simp at e
   subst e
   exact ⟨v,rfl,h1⟩
  | succ i =>
   obtain ⟨w,hw,h⟩:=Rps.get h2 (i:=i) (d:=d) (by simpa using e)
   exact ⟨w,by simpa using hw,h⟩
theorem Rps.append:∀ {ds es:List D} {vs ws:List V},Rps K f O H ds vs->Rps K f O H es ws->Rps K f O H (ds++es) (vs++ws)
 | [],_,_,_,h,t=>by rw [show _=[] from h];exact t
 | d::ds,_,_,_,h,t=>by
  obtain ⟨v,r,e1,h1,h2⟩:=h
  subst e1
  exact ⟨v,_,rfl,h1,Rps.append h2 t⟩
theorem Rps.take:∀ {ds:List D} {vs:List V} (n:Nat),Rps K f O H ds vs->Rps K f O H (ds.take n) (vs.take n)
 | _,_,0,_=>by rw [de,de];rfl
 | [],_,n+1,h=>by rw [show _=[] from h];rfl
 | d::ds,_,n+1,h=>by
  obtain ⟨v,r,e1,h1,h2⟩:=h
  subst e1
  exact ⟨v,_,rfl,h1,Rps.take n h2⟩
theorem Rps.drop:∀ {ds:List D} {vs:List V} (n:Nat),Rps K f O H ds vs->Rps K f O H (ds.drop n) (vs.drop n)
 | _,_,0,h=>h
 | [],_,n+1,h=>by rw [show _=[] from h];rfl
 | d::ds,_,n+1,h=>by
  obtain ⟨v,r,e1,h1,h2⟩:=h
  subst e1
  exact Rps.drop n h2
theorem Rps.set {d:D} {v:V} (q:Rp K f O H d v):∀ {ds:List D} {vs:List V} (n:Nat),Rps K f O H ds vs->Rps K f O H (ds.set n d) (vs.set n v)
 | [],_,n,h=>by rw [show _=[] from h];rfl
 | d0::ds,_,0,h=>by
  obtain ⟨w,r,e1,h1,h2⟩:=h
  subst e1
  exact ⟨v,_,rfl,q,h2⟩
 | d0::ds,_,n+1,h=>by
  obtain ⟨w,r,e1,h1,h2⟩:=h
  subst e1
  exact ⟨w,_,rfl,h1,Rps.set q n h2⟩
theorem Rps.reverse:∀ {ds:List D} {vs:List V},Rps K f O H ds vs->Rps K f O H ds.reverse vs.reverse
 | [],_,h=>by rw [show _=[] from h];rfl
 | d::ds,_,h=>by
  obtain ⟨v,r,e1,h1,h2⟩:=h
  subst e1
  rw [dj,dj]
  exact Rps.append (Rps.reverse h2) ⟨v,[],rfl,h1,rfl⟩
theorem Rps.flat {ds:List D} {vs:List V} (h:Rps K f O H ds vs):∀ n,Rps K f O H (List.replicate n ds).flatten (List.replicate n vs).flatten
 | 0=>rfl
 | n+1=>by
  rw [bw,bw,bZ,bZ]
  exact Rps.append h (Rps.flat h n)
theorem Rps.bls:∀ {bs:List Bool} {vs:List V},Rps K f O H (bs.map D.bl) vs->vs=bs.map V.bl
 | [],_,h=>h
 | b::bs,_,h=>by
  obtain ⟨v,r,e1,h1,h2⟩:=h
  rw [e1,show v=_ from h1,Rps.bls h2]
  rfl
theorem Rps.ints:∀ {bs:List Int} {vs:List V},Rps K f O H (bs.map D.int) vs->vs=bs.map V.int
 | [],_,h=>h
 | b::bs,_,h=>by
  obtain ⟨v,r,e1,h1,h2⟩:=h
  rw [e1,show v=_ from h1,Rps.ints h2]
  rfl
inductive SD where
 | no | val (d:D) | own (l:List D)
abbrev SS:=List SD
structure SlD (K:PySem.W.Frag) (f:Addr) (O:List Addr) (σ:St) (H:Hp) (ss:SS):Prop where
 fl:Fl H f
 fO:f∈O
 al:∀ a∈O,∃ xs,H a=some (.lst xs)
 lO:∀ l r,H f=some (.lst (.ref l::r))->l ∉ O
 len:ss.length=σ.length
 val:∀ (i:Nat) (d:D),ss[i]? = some (SD.val d)->∃ v,σ[i]? = some (some v)/\Rp K f O H d v
 own:∀ (i:Nat) (l:List D),ss[i]? = some (SD.own l)->∃ a xs,σ[i]? = some (some (V.ref a))/\a∈O/\a≠f/\H a=some (.lst xs)/\Rps K f O H l xs
variable {σ:St} {ss:SS}
theorem SlD.ex (R:SlD K f O σ H ss) (e:Ex f H H'):SlD K f O σ H' ss where
 fl:=e.fl
 fO:=R.fO
 al:=fun a h=>by
  by_cases z:a=f
  ·subst z
   exact e.fl.lst
  ·obtain ⟨xs,q⟩:=R.al a h
   exact ⟨xs,e.sm.app a _ z q⟩
 lO:=fun l r h=>by
  obtain ⟨l0,ns,i,c,a,b,h1,_⟩:=R.fl
  obtain ⟨r',h2⟩:=e.sm.key _ _ h1
  rw [h2] at h
  cases h
  exact R.lO _ _ h1
 len:=R.len
 val:=fun i d h=>by
  obtain ⟨v,h1,h2⟩:=R.val i d h
  exact ⟨v,h1,h2.kp (e.kp R.fO) R.al⟩
 own:=fun i l h=>by
  obtain ⟨a,xs,h1,h2,h3,h4,h5⟩:=R.own i l h
  exact ⟨a,xs,h1,h2,h3,e.sm.app a _ h3 h4,h5.kp (e.kp R.fO) R.al⟩
theorem SlD.up (R:SlD K f O σ H ss) (e:Ex f H H') {d:D} {v:V} (h:Rp K f O H d v):Rp K f O H' d v:=h.kp (e.kp R.fO) R.al
theorem SlD.ups (R:SlD K f O σ H ss) (e:Ex f H H') {d:List D} {v:List V} (h:Rps K f O H d v):Rps K f O H' d v:=h.kp (e.kp R.fO) R.al
theorem SlD.new (R:SlD K f O σ H ss) {p:Addr} (h:H p=none) (o:HO):Ex f H (upd H p o):=Ex.new R.fl h o
theorem SlD.nO (R:SlD K f O σ H ss) {p:Addr} (h:H p=none):p ∉ O:=fun z=>by
 obtain ⟨xs,q⟩:=R.al p z
 rw [h] at q
 cases q
theorem SlD.lst (R:SlD K f O σ H ss) {p:Addr} (h:H p=none) {ds:List D} {xs:List V} (q:Rps K f O H ds xs):Rp K f O (upd H p (.lst xs)) (.lst ds) (.ref p) :=
 ⟨p,xs,rfl,R.nO h,upd_same,R.ups (R.new h _) q⟩
theorem SlD.tup (R:SlD K f O σ H ss) {p:Addr} (h:H p=none) {ds:List D} {xs:List V} (q:Rps K f O H ds xs):Rp K f O (upd H p (.tup xs)) (.tup ds) (.ref p) :=
 ⟨p,xs,rfl,SqT.of upd_same,R.ups (R.new h _) q⟩
structure TEd where
 run:SS->(D->Prop)->Prop
 mono:∀ {ss Q Q'},(∀ d,Q d->Q' d)->run ss Q->run ss Q'
structure TTd where
 run:SS->(Bool->Prop)->Prop
 mono:∀ {ss Q Q'},(∀ d,Q d->Q' d)->run ss Q->run ss Q'
structure TAd where
 run:SS->(List D->Prop)->Prop
 mono:∀ {ss Q Q'},(∀ d,Q d->Q' d)->run ss Q->run ss Q'
structure TOd where
 run:SS->(Option Int->Prop)->Prop
 mono:∀ {ss Q Q'},(∀ d,Q d->Q' d)->run ss Q->run ss Q'
structure TGd where
 tg:List Nat
 run:D->SS->(SS->Prop)->Prop
 mono:∀ {d ss Q Q'},(∀ d,Q d->Q' d)->run d ss Q->run d ss Q'
def LE (K:PySem.W.Frag) (t:TEd):TE:=fun σ H Q=>∃ f O ss,SlD K f O σ H ss/\t.run ss fun d=>∀ v H',Ex f H H'->Rp K f O H' d v->Q v H'
def LT (K:PySem.W.Frag) (t:TTd):TT:=fun σ H Q=>∃ f O ss,SlD K f O σ H ss/\t.run ss fun d=>∀ H',Ex f H H'->Q d H'
def LA (K:PySem.W.Frag) (t:TAd):TA:=fun σ H Q=>∃ f O ss,SlD K f O σ H ss/\t.run ss fun ds=>∀ vs H',Ex f H H'->Rps K f O H' ds vs->Q vs H'
def LO (K:PySem.W.Frag) (t:TOd):TO:=fun σ H Q=>∃ f O ss,SlD K f O σ H ss/\t.run ss fun d=>∀ H',Ex f H H'->Q d H'
abbrev SpD:=List D->(D->Prop)->Prop
def LSp (K:PySem.W.Frag) (n:Nat) (sp:SpD):Sp:=fun vs H Q _=>vs.length=n/\∃ f O ds,Fl H f/\f∈O/\(∀ a∈O,∃ xs,H a=some (.lst xs))/\(∀ l r,H f=some (.lst (.ref l::r))->l ∉ O)/\Rps K f O H ds vs/\sp ds fun d=>∀ v H',Ex f H H'->Rp K f O H' d v->Q v H'
variable {X:Cx}
theorem _root_.L2.PE.weak {e:Expr} {t t':TE} (h:PE X e t) (w:∀ σ H Q,t' σ H Q->t σ H Q):PE X e t':=fun pins s σ H Q I q=>h pins s σ H Q I (w σ H Q q)
theorem _root_.L2.PT.weak {e:Expr} {t t':TT} (h:PT X e t) (w:∀ σ H Q,t' σ H Q->t σ H Q):PT X e t':=fun pins s σ H Q I q=>h pins s σ H Q I (w σ H Q q)
theorem _root_.L2.PA.weak {e:List Expr} {t t':TA} (h:PA X e t) (w:∀ σ H Q,t' σ H Q->t σ H Q):PA X e t':=fun pos pins s σ H Q I q=>h pos pins s σ H Q I (w σ H Q q)
theorem _root_.L2.PO.weak {e:Option Expr} {t t':TO} (h:PO X e t) (w:∀ σ H Q,t' σ H Q->t σ H Q):PO X e t':=fun pins s σ H Q I q=>h pins s σ H Q I (w σ H Q q)
def gP (i:Nat):TEd:=⟨fun ss Q=>match ss[i]? with | some (SD.val d)=>Q d | _=>False,fun {ss Q Q'} h q=>by
 revert q
 split
 ·exact h _
 ·exact id⟩
theorem gP.ok {i:Nat} {e:Expr} (h:PE X e (tVar i)):PE X e (LE X.K (gP i)):=h.weak fun σ H Q ⟨f,O,ss,R,q⟩=>by
 have q:(match ss[i]? with | some (SD.val d)=>(∀ v H',Ex f H H'->Rp X.K f O H' d v->Q v H') | _=>False):=q
 revert q
 split
 ·rename_i d e
  intro q
  obtain ⟨v,h1,h2⟩:=R.val i d e
  exact ⟨v,h1,q v H (Ex.refl R.fl) h2⟩
 ·exact False.elim
def dC (d:D):TEd:=⟨fun _ Q=>Q d,fun h q=>h _ q⟩
theorem dC.ok {e:Expr} {d:D} {v:V} (h:PE X e (tC v)) (r:∀ f O H,Rp X.K f O H d v):PE X e (LE X.K (dC d)):=h.weak fun σ H Q ⟨f,O,ss,R,q⟩=>q v H (Ex.refl R.fl) (r f O H)
abbrev OD:=D->D->(D->Prop)->Prop
def d2 (o:OD) (m:∀ {x y Q Q'},(∀ d,Q d->Q' d)->o x y Q->o x y Q') (a b:TEd):TEd:=⟨fun ss Q=>a.run ss fun x=>b.run ss fun y=>o x y Q,fun h q=>a.mono (fun x q=>b.mono (fun y q=>m h q) q) q⟩
def RD (K:PySem.W.Frag) (r:R2) (o:OD):Prop:=∀ (f:Addr) (O:List Addr) (σ:St) (ss:SS) (H:Hp) (dx dy:D) (x y:V) (Q:VK),SlD K f O σ H ss->Rp K f O H dx x->Rp K f O H dy y->o dx dy (fun d=>∀ v H',Ex f H H'->Rp K f O H' d v->Q v H')->r x y H Q
theorem d2.ok {e:Expr} {a b:TEd} {r:R2} {o:OD} {m} (hr:RD X.K r o) (h:PE X e (tOp r (LE X.K a) (LE X.K b))):PE X e (LE X.K (d2 o m a b)):=h.weak fun σ H Q ⟨f,O,ss,R,q⟩=>by
 refine ⟨f,O,ss,R,a.mono (fun dx q v1 H1 e1 r1=>?_) q⟩
 refine ⟨f,O,ss,R.ex e1,b.mono (fun dy q v2 H2 e2 r2=>?_) q⟩
 exact hr f O σ ss H2 dx dy v1 v2 Q ((R.ex e1).ex e2) ((R.ex e1).up e2 r1) r2 (m (fun d q v H' e3 r3=>q v H' (e1.trans (e2.trans e3)) r3) q)
end Dp
namespace Dp
open PySem L2
variable {K:PySem.W.Frag} {f:Addr} {O O':List Addr} {H H':Hp} {X:Cx} {σ:St} {ss:SS}
mutual
def D.pl:D->Bool
 | .int _=>true | .str _=>true | .non=>true | .bl _=>false | .fl=>false | .exn _ _ _=>false | .dct _ _=>false
 | .tup ds=>D.pls ds
 | .lst ds=>D.pls ds
def D.pls:List D->Bool
 | []=>true
 | d::ds=>D.pl d && D.pls ds
end
mutual
def D.dp:D->Nat
 | .tup ds=>D.dps ds+1
 | .lst ds=>D.dps ds+1
 | .int _=>0 | .str _=>0 | .non=>0 | .bl _=>0 | .fl=>0 | .exn _ _ _=>0 | .dct _ _=>0
def D.dps:List D->Nat
 | []=>0
 | d::ds=>max (D.dp d) (D.dps ds)
end
mutual
def D.dv:D->DV
 | .int i=>.int i | .str x=>.str x | .non=>.non | .bl b=>.bl b | .fl=>.non | .exn _ _ _=>.non | .dct _ _=>.non
 | .tup ds=>.tup (D.dvs ds)
 | .lst ds=>.lst (D.dvs ds)
def D.dvs:List D->List DV
 | []=>[]
 | d::ds=>D.dv d::D.dvs ds
end
mutual
theorem D.dv_pl:∀ {d:D},d.pl=true->d.dv.pl=true
 | .int _,_=>rfl
 | .str _,_=>rfl
 | .non,_=>rfl
 | .bl _,h=>h
 | .fl,h=>by cases h
 | .exn _ _ _,h=>by cases h
 | .dct _ _,h=>by cases h
 | .tup ds,h=>D.dvs_pl (ds:=ds) h
 | .lst ds,h=>D.dvs_pl (ds:=ds) h
theorem D.dvs_pl:∀ {ds:List D},D.pls ds=true->DV.pls (D.dvs ds)=true
 | [],_=>rfl
 | d::ds,h=>by
  have h:=ao.mp (show (d.pl && D.pls ds)=true from h)
  exact ao.mpr ⟨D.dv_pl h.1,D.dvs_pl h.2⟩
end
mutual
theorem D.dv_dp:∀ {d:D},d.dv.dp=d.dp
 | .int _=>rfl
 | .str _=>rfl
 | .non=>rfl
 | .bl _=>rfl
 | .fl=>rfl
 | .exn _ _ _=>rfl
 | .dct _ _=>rfl
 | .tup ds=>congrArg (· + 1) (D.dvs_dp (ds:=ds))
 | .lst ds=>congrArg (· + 1) (D.dvs_dp (ds:=ds))
theorem D.dvs_dp:∀ {ds:List D},DV.dps (D.dvs ds)=D.dps ds
 | []=>rfl
 | d::ds=>by
  show max (DV.dp d.dv) (DV.dps (D.dvs ds))=max d.dp (D.dps ds)
  rw [D.dv_dp,D.dvs_dp]
end
mutual
theorem D.dv_inj:∀ {d e:D},d.pl=true->e.pl=true->d.dv=e.dv->d=e
 | .int _,e,_,h,q=>by cases e <;> first | (cases q;rfl) | (cases q;done) | cases h
 | .str _,e,_,h,q=>by cases e <;> first | (cases q;rfl) | (cases q;done) | cases h
 | .non,e,_,h,q=>by cases e <;> first | rfl | (cases q;done) | cases h
 | .bl _,_,h,_,_=>by cases h
 | .fl,_,h,_,_=>by cases h
 | .exn _ _ _,_,h,_,_=>by cases h
 | .dct _ _,_,h,_,_=>by cases h
 | .tup ds,e,h1,h2,q=>by
  cases e with
  | tup es =>
   have q:DV.tup (D.dvs ds)=DV.tup (D.dvs es):=q
   injection q with q
   rw [D.dvs_inj h1 h2 q]
  | int=>cases q
  | str=>cases q
  | non=>cases q
  | bl=>cases h2
  | fl=>cases h2
  | exn=>cases h2
  | dct=>cases h2
  | lst=>cases q
 | .lst ds,e,h1,h2,q=>by
  cases e with
  | lst es =>
   have q:DV.lst (D.dvs ds)=DV.lst (D.dvs es):=q
   injection q with q
   rw [D.dvs_inj h1 h2 q]
  | int=>cases q
  | str=>cases q
  | non=>cases q
  | bl=>cases h2
  | fl=>cases h2
  | exn=>cases h2
  | dct=>cases h2
  | tup=>cases q
theorem D.dvs_inj:∀ {ds es:List D},D.pls ds=true->D.pls es=true->D.dvs ds=D.dvs es->ds=es
 | [],[],_,_,_=>rfl
 | [],_::_,_,_,q=>by cases q
 | _::_,[],_,_,q=>by cases q
 | d::ds,e::es,h1,h2,q=>by
  have h1:=ao.mp (show (d.pl && D.pls ds)=true from h1)
  have h2:=ao.mp (show (e.pl && D.pls es)=true from h2)
  have q:d.dv::D.dvs ds=e.dv::D.dvs es:=q
  injection q with q1 q2
  rw [D.dv_inj h1.1 h2.1 q1,D.dvs_inj h1.2 h2.2 q2]
end
mutual
theorem Rp.rep:∀ {d:D} {v:V},d.pl=true->Rp K f O H d v->Rep K H d.dv v
 | .int _,_,_,h=>h
 | .str _,_,_,h=>h
 | .non,_,_,h=>h
 | .bl _,_,h,_=>by cases h
 | .fl,_,h,_=>by cases h
 | .exn _ _ _,_,h,_=>by cases h
 | .dct _ _,_,h,_=>by cases h
 | .tup ds,_,p,h=>by
  obtain ⟨a,xs,e,h1,h2⟩:=h
  exact ⟨a,xs,e,h1,Rps.rep p h2⟩
 | .lst ds,_,p,h=>by
  obtain ⟨a,xs,e,_,h1,h2⟩:=h
  exact ⟨a,xs,e,SqL.of h1,Rps.rep p h2⟩
theorem Rps.rep:∀ {ds:List D} {vs:List V},D.pls ds=true->Rps K f O H ds vs->Reps K H (D.dvs ds) vs
 | [],_,_,h=>h
 | d::ds,_,p,h=>by
  have p:=ao.mp (show (d.pl && D.pls ds)=true from p)
  obtain ⟨v,r,e,h1,h2⟩:=h
  exact ⟨v,r,e,Rp.rep p.1 h1,Rps.rep p.2 h2⟩
end
theorem D.pls_ints (ns:List Int):D.pls (ns.map D.int)=true:=by
 induction ns with
 | nil=>rfl
 | cons n ns ih=>exact ih
theorem ints_inj:∀ {a b:List Int},a.map D.int=b.map D.int->a=b
 | [],[],_=>rfl
 | [],_::_,h=>by cases h
 | _::_,[],h=>by cases h
 | x::a,y::b,h=>by
  rw [bW,bW] at h
  injection h with h1 h2
  injection h1 with h1
  rw [h1,ints_inj h2]
theorem OpR.or2 {g:Value->Value->Sem Value} {r r':R2} (h:OpR X g r) (h':OpR X g r'):OpR X g (fun x y H Q=>r x y H Q\/r' x y H Q):=fun pins s σ H x y v u Q I rx ry q=>q.elim (h pins s σ H x y v u Q I rx ry) (h' pins s σ H x y v u Q I rx ry)
def oAdd:OD
 | .int i,.int j,Q=>Q (.int (i+j))
 | .str a,.str b,Q=>a.length+b.length<=sizeLine/\Q (.str (a++b))
 | .lst a,.lst b,Q=>a.length+b.length<=sizeLine/\Q (.lst (a++b))
 | .tup a,.tup b,Q=>a.length+b.length<=sizeLine/\Q (.tup (a++b))
 | _,_,_=>False
def oSub:OD
 | .int i,.int j,Q=>Q (.int (i-j))
 | _,_,_=>False
def oMul:OD
 | .int i,.int j,Q=>CMulB i j/\Q (.int (i*j))
 | .lst a,.int k,Q => -(2^63)<=k/\k<2^63/\a.length*k.toNat<=sizeLine/\Q (.lst (List.replicate k.toNat a).flatten)
 | .tup a,.int k,Q=>a≠[]/\1<=k/\a.length*k.toNat<=100000/\Q (.tup (List.replicate k.toNat a).flatten)
 | _,_,_=>False
def oDiv:OD
 | .int i,.int j,Q=>CDivB i j/\Q (.int (i.fdiv j))
 | _,_,_=>False
def oMod:OD
 | .int i,.int j,Q=>j≠0/\Q (.int (i.fmod j))
 | _,_,_=>False
def oPow:OD
 | .int i,.int j,Q=>CPow i j/\Q (.int (i^j.toNat))
 | _,_,_=>False
def oShl:OD
 | .int i,.int j,Q=>CPow i j/\Q (.int (i*2^j.toNat))
 | _,_,_=>False
def oNever:OD:=fun _ _ _=>False
def oBin:Operator->OD
 | .Add=>oAdd | .Sub=>oSub | .Mult=>oMul | .FloorDiv=>oDiv | .Mod=>oMod | .Pow=>oPow | .LShift=>oShl | _=>oNever
def oLt:OD
 | .int i,.int j,Q=>Q (.bl (decide (i<j)))
 | _,_,_=>False
def oLe:OD
 | .int i,.int j,Q=>Q (.bl (decide (i<=j)))
 | _,_,_=>False
def oGt:OD
 | .int i,.int j,Q=>Q (.bl (decide (j<i)))
 | _,_,_=>False
def oGe:OD
 | .int i,.int j,Q=>Q (.bl (decide (j<=i)))
 | _,_,_=>False
def oEq (neg:Bool):OD
 | .int i,.int j,Q=>Q (.bl (if neg then !decide (i=j) else decide (i=j)))
 | .bl i,.bl j,Q=>Q (.bl (if neg then !decide (i=j) else decide (i=j)))
 | .str i,.str j,Q=>Q (.bl (if neg then !decide (i=j) else decide (i=j)))
 | .tup a,.tup b,Q=>D.pls a=true/\D.pls b=true/\D.dps a<=60/\∀ k,(k=true↔a=b)->Q (.bl (if neg then !k else k))
 | .lst a,.lst b,Q=>neg=neg/\D.pls a=true/\D.pls b=true/\D.dps a<=60/\∀ k,(k=true↔a=b)->Q (.bl (if neg then !k else k))
 | _,_,_=>False
def oIs (neg:Bool):OD:=fun x y Q=>match y with
 | .non=>Q (.bl (match x with | .non => !neg | _=>neg))
 | _=>False
def oIn (neg:Bool):OD:=fun x y Q=>(∃ (i:Int) (ns:List Int),x = .int i/\(y = .lst (ns.map .int)\/y = .tup (ns.map .int))/\Q (.bl (if neg then !decide (i∈ns) else decide (i∈ns))))\/(∃ (i:Str) (ns:List Str),x = .str i/\(y = .lst (ns.map .str)\/y = .tup (ns.map .str))/\Q (.bl (if neg then !decide (i∈ns) else decide (i∈ns))))\/(∃ l,y = .lst l/\x.pl=true/\D.pls l=true/\D.dps l<=60/\∀ k:Bool,(k=true↔x∈l)->Q (.bl (if neg then !k else k)))
theorem oIn.mono {neg:Bool}:∀ {x y Q Q'},(∀ d,Q d->Q' d)->oIn neg x y Q->oIn neg x y Q':=fun h q=>q.imp (fun ⟨i,ns,e1,e2,q⟩=>⟨i,ns,e1,e2,h _ q⟩) (Or.imp (fun ⟨i,ns,e1,e2,q⟩=>⟨i,ns,e1,e2,h _ q⟩) fun ⟨l,e,a,b,c,q⟩=>⟨l,e,a,b,c,fun k hk=>h _ (q k hk)⟩)
def oCmp:CmpOp->OD
 | .Eq=>oEq false | .NotEq=>oEq true | .Lt=>oLt | .LtE=>oLe | .Gt=>oGt | .GtE=>oGe | .Is=>oIs false | .IsNot=>oIs true | .In=>oIn false | .NotIn=>oIn true
theorem oAdd.mono:∀ {x y Q Q'},(∀ d,Q d->Q' d)->oAdd x y Q->oAdd x y Q':=by intro x y Q Q' h;cases x <;> cases y <;> intro q <;> first | exact h _ q | exact q | exact ⟨q.1,h _ q.2⟩ | exact ⟨q.1,q.2.1,q.2.2.1,h _ q.2.2.2⟩ | exact ⟨q.1,q.2.1,q.2.2.1,fun k e=>h _ (q.2.2.2 k e)⟩ | exact ⟨q.1,q.2.1,q.2.2.1,q.2.2.2.1,fun k e=>h _ (q.2.2.2.2 k e)⟩
theorem oSub.mono:∀ {x y Q Q'},(∀ d,Q d->Q' d)->oSub x y Q->oSub x y Q':=by intro x y Q Q' h;cases x <;> cases y <;> intro q <;> first | exact h _ q | exact q | exact ⟨q.1,h _ q.2⟩ | exact ⟨q.1,q.2.1,q.2.2.1,h _ q.2.2.2⟩ | exact ⟨q.1,q.2.1,q.2.2.1,fun k e=>h _ (q.2.2.2 k e)⟩ | exact ⟨q.1,q.2.1,q.2.2.1,q.2.2.2.1,fun k e=>h _ (q.2.2.2.2 k e)⟩
theorem oMul.mono:∀ {x y Q Q'},(∀ d,Q d->Q' d)->oMul x y Q->oMul x y Q':=by intro x y Q Q' h;cases x <;> cases y <;> intro q <;> first | exact h _ q | exact q | exact ⟨q.1,h _ q.2⟩ | exact ⟨q.1,q.2.1,q.2.2.1,h _ q.2.2.2⟩ | exact ⟨q.1,q.2.1,q.2.2.1,fun k e=>h _ (q.2.2.2 k e)⟩ | exact ⟨q.1,q.2.1,q.2.2.1,q.2.2.2.1,fun k e=>h _ (q.2.2.2.2 k e)⟩
theorem oDiv.mono:∀ {x y Q Q'},(∀ d,Q d->Q' d)->oDiv x y Q->oDiv x y Q':=by intro x y Q Q' h;cases x <;> cases y <;> intro q <;> first | exact h _ q | exact q | exact ⟨q.1,h _ q.2⟩ | exact ⟨q.1,q.2.1,q.2.2.1,h _ q.2.2.2⟩ | exact ⟨q.1,q.2.1,q.2.2.1,fun k e=>h _ (q.2.2.2 k e)⟩ | exact ⟨q.1,q.2.1,q.2.2.1,q.2.2.2.1,fun k e=>h _ (q.2.2.2.2 k e)⟩
theorem oMod.mono:∀ {x y Q Q'},(∀ d,Q d->Q' d)->oMod x y Q->oMod x y Q':=by intro x y Q Q' h;cases x <;> cases y <;> intro q <;> first | exact h _ q | exact q | exact ⟨q.1,h _ q.2⟩ | exact ⟨q.1,q.2.1,q.2.2.1,h _ q.2.2.2⟩ | exact ⟨q.1,q.2.1,q.2.2.1,fun k e=>h _ (q.2.2.2 k e)⟩ | exact ⟨q.1,q.2.1,q.2.2.1,q.2.2.2.1,fun k e=>h _ (q.2.2.2.2 k e)⟩
theorem oPow.mono:∀ {x y Q Q'},(∀ d,Q d->Q' d)->oPow x y Q->oPow x y Q':=by intro x y Q Q' h;cases x <;> cases y <;> intro q <;> first | exact h _ q | exact q | exact ⟨q.1,h _ q.2⟩ | exact ⟨q.1,q.2.1,q.2.2.1,h _ q.2.2.2⟩ | exact ⟨q.1,q.2.1,q.2.2.1,fun k e=>h _ (q.2.2.2 k e)⟩ | exact ⟨q.1,q.2.1,q.2.2.1,q.2.2.2.1,fun k e=>h _ (q.2.2.2.2 k e)⟩
theorem oShl.mono:∀ {x y Q Q'},(∀ d,Q d->Q' d)->oShl x y Q->oShl x y Q':=by intro x y Q Q' h;cases x <;> cases y <;> intro q <;> first | exact q | exact ⟨q.1,h _ q.2⟩
theorem oBin.mono {op:Operator}:∀ {x y Q Q'},(∀ d,Q d->Q' d)->oBin op x y Q->oBin op x y Q':=by
 cases op
 all_goals first | exact oAdd.mono | exact oSub.mono | exact oMul.mono | exact oDiv.mono | exact oMod.mono | exact oPow.mono | exact oShl.mono | exact fun _ q=>q
theorem oLt.mono:∀ {x y Q Q'},(∀ d,Q d->Q' d)->oLt x y Q->oLt x y Q':=by intro x y Q Q' h;cases x <;> cases y <;> intro q <;> first | exact h _ q | exact q | exact ⟨q.1,h _ q.2⟩ | exact ⟨q.1,q.2.1,q.2.2.1,h _ q.2.2.2⟩ | exact ⟨q.1,q.2.1,q.2.2.1,fun k e=>h _ (q.2.2.2 k e)⟩ | exact ⟨q.1,q.2.1,q.2.2.1,q.2.2.2.1,fun k e=>h _ (q.2.2.2.2 k e)⟩
theorem oLe.mono:∀ {x y Q Q'},(∀ d,Q d->Q' d)->oLe x y Q->oLe x y Q':=by intro x y Q Q' h;cases x <;> cases y <;> intro q <;> first | exact h _ q | exact q | exact ⟨q.1,h _ q.2⟩ | exact ⟨q.1,q.2.1,q.2.2.1,h _ q.2.2.2⟩ | exact ⟨q.1,q.2.1,q.2.2.1,fun k e=>h _ (q.2.2.2 k e)⟩ | exact ⟨q.1,q.2.1,q.2.2.1,q.2.2.2.1,fun k e=>h _ (q.2.2.2.2 k e)⟩
theorem oGt.mono:∀ {x y Q Q'},(∀ d,Q d->Q' d)->oGt x y Q->oGt x y Q':=by intro x y Q Q' h;cases x <;> cases y <;> intro q <;> first | exact h _ q | exact q | exact ⟨q.1,h _ q.2⟩ | exact ⟨q.1,q.2.1,q.2.2.1,h _ q.2.2.2⟩ | exact ⟨q.1,q.2.1,q.2.2.1,fun k e=>h _ (q.2.2.2 k e)⟩ | exact ⟨q.1,q.2.1,q.2.2.1,q.2.2.2.1,fun k e=>h _ (q.2.2.2.2 k e)⟩
theorem oGe.mono:∀ {x y Q Q'},(∀ d,Q d->Q' d)->oGe x y Q->oGe x y Q':=by intro x y Q Q' h;cases x <;> cases y <;> intro q <;> first | exact h _ q | exact q | exact ⟨q.1,h _ q.2⟩ | exact ⟨q.1,q.2.1,q.2.2.1,h _ q.2.2.2⟩ | exact ⟨q.1,q.2.1,q.2.2.1,fun k e=>h _ (q.2.2.2 k e)⟩ | exact ⟨q.1,q.2.1,q.2.2.1,q.2.2.2.1,fun k e=>h _ (q.2.2.2.2 k e)⟩
theorem oEq.mono {neg:Bool}:∀ {x y Q Q'},(∀ d,Q d->Q' d)->oEq neg x y Q->oEq neg x y Q':=by intro x y Q Q' h;cases x <;> cases y <;> intro q <;> first | exact h _ q | exact q | exact ⟨q.1,h _ q.2⟩ | exact ⟨q.1,q.2.1,q.2.2.1,h _ q.2.2.2⟩ | exact ⟨q.1,q.2.1,q.2.2.1,fun k e=>h _ (q.2.2.2 k e)⟩ | exact ⟨q.1,q.2.1,q.2.2.1,q.2.2.2.1,fun k e=>h _ (q.2.2.2.2 k e)⟩
theorem oIs.mono {neg:Bool}:∀ {x y Q Q'},(∀ d,Q d->Q' d)->oIs neg x y Q->oIs neg x y Q':=by intro x y Q Q' h;cases x <;> cases y <;> intro q <;> first | exact h _ q | exact q | exact ⟨q.1,h _ q.2⟩ | exact ⟨q.1,q.2.1,q.2.2.1,h _ q.2.2.2⟩ | exact ⟨q.1,q.2.1,q.2.2.1,fun k e=>h _ (q.2.2.2 k e)⟩ | exact ⟨q.1,q.2.1,q.2.2.1,q.2.2.2.1,fun k e=>h _ (q.2.2.2.2 k e)⟩
theorem oCmp.mono {op:CmpOp}:∀ {x y Q Q'},(∀ d,Q d->Q' d)->oCmp op x y Q->oCmp op x y Q':=by
 cases op
 all_goals first | exact oLt.mono | exact oLe.mono | exact oGt.mono | exact oGe.mono | exact oEq.mono | exact oIs.mono | exact oIn.mono
def Rng (X:Cx) (g:Value->Value->Sem Value) (o:OD):Prop:=∃ r,OpR X g r/\RD X.K r o
theorem Rng.never {g:Value->Value->Sem Value}:Rng X g oNever:=⟨fun _ _ _ _=>False,fun _ _ _ _ _ _ _ _ _ _ _ _ h=>h.elim,fun _ _ _ _ _ _ _ _ _ _ _ _ _ h=>h.elim⟩
theorem rd_add:Rng X (binaryOp .Add) oAdd:=by
 refine ⟨_,OpR.or2 op_add (OpR.or2 op_add_str (OpR.or2 op_cat (OpR.or2 op_catT (catT0 X.K)))),?_⟩
 intro f O σ ss H dx dy x y Q R rx ry h
 cases dx <;> cases dy <;> first | (exact False.elim h) | skip
 ·rename_i i j
  cases rx;cases ry
  exact .inl ⟨i,j,rfl,rfl,h _ H (Ex.refl R.fl) rfl⟩
 ·rename_i i j
  cases rx;cases ry
  exact .inr (.inl ⟨i,j,rfl,rfl,h.1,h.2 _ H (Ex.refl R.fl) rfl⟩)
 ·rename_i la lb
  obtain ⟨a,xs,rfl,h1,h2⟩:=rx
  obtain ⟨b,ys,rfl,h3,h4⟩:=ry
  obtain ⟨hl,q⟩:=h
  cases la with
  | nil =>
   cases (show xs=[] from h2)
   exact .inr (.inr (.inr (.inr ⟨a,b,ys,rfl,rfl,h1,h3,q _ H (Ex.refl R.fl) ⟨b,ys,rfl,h3,h4⟩⟩)))
  | cons d la =>
   refine .inr (.inr (.inr (.inl ⟨a,b,xs,ys,rfl,rfl,h1,h3,?_,by rw [h2.len,h4.len];exact hl,fun e=>?_,fun e p hp=>?_⟩)))
   ·obtain ⟨v,r,e,_⟩:=h2
    rw [e]
    simp
   ·subst e
    cases lb with
    | nil =>
     refine q _ H (Ex.refl R.fl) ⟨a,xs,rfl,h1,?_⟩
     rw [b9]
     exact h2
    | cons=>obtain ⟨v,r,e,_⟩:=h4;cases e
   ·exact q _ _ (R.new hp _) (R.tup hp (h2.append h4))
 ·rename_i la lb
  obtain ⟨a,xs,rfl,n1,h1,h2⟩:=rx
  obtain ⟨b,ys,rfl,n2,h3,h4⟩:=ry
  exact .inr (.inr (.inl ⟨a,b,xs,ys,rfl,rfl,h1,h3,by rw [h2.len,h4.len];exact h.1,fun p hp=>h.2 _ _ (R.new hp _) (R.lst hp (h2.append h4))⟩))
theorem rd_int {g:Value->Value->Sem Value} {C:Int->Int->Prop} {w:Int->Int->Int} {o:OD} (h:OpR X g (rI C fun i j=>.int (w i j))) (ho:∀ dx dy Q,o dx dy Q->∃ i j,dx = .int i/\dy = .int j/\C i j/\Q (.int (w i j))):Rng X g o:=by
 refine ⟨_,h,fun f O σ ss H dx dy x y Q R rx ry h=>?_⟩
 obtain ⟨i,j,rfl,rfl,c,q⟩:=ho _ _ _ h
 cases rx;cases ry
 exact ⟨i,j,rfl,rfl,c,q _ H (Ex.refl R.fl) rfl⟩
theorem rd_intB {g:Value->Value->Sem Value} {w:Int->Int->Bool} {o:OD} (h:OpR X g (rI0 fun i j=>.bl (w i j))) (ho:∀ dx dy Q,o dx dy Q->∃ i j,dx = .int i/\dy = .int j/\Q (.bl (w i j))):Rng X g o:=by
 refine ⟨_,h,fun f O σ ss H dx dy x y Q R rx ry h=>?_⟩
 obtain ⟨i,j,rfl,rfl,q⟩:=ho _ _ _ h
 cases rx;cases ry
 exact ⟨i,j,rfl,rfl,q _ H (Ex.refl R.fl) rfl⟩
theorem rd_mul:Rng X (binaryOp .Mult) oMul:=by
 refine ⟨_,OpR.or2 op_mulB (OpR.or2 op_rep op_repT),?_⟩
 intro f O σ ss H dx dy x y Q R rx ry h
 cases dx <;> cases dy <;> first | (exact False.elim h) | skip
 ·rename_i i j
  cases rx;cases ry
  exact .inl ⟨i,j,rfl,rfl,h.1,h.2 _ H (Ex.refl R.fl) rfl⟩
 ·rename_i la k
  obtain ⟨a,xs,rfl,h1,h2⟩:=rx
  cases ry
  obtain ⟨z1,z2,z3,q⟩:=h
  obtain ⟨k,rfl⟩:=dL (show 0<=k by omega)
  rw [bo] at z3 q
  refine .inr (.inr ⟨a,xs,k,rfl,rfl,h1,fun z=>z1 ?_,by omega,by rw [h2.len];exact z3,fun e=>?_,fun _ p hp=>q _ _ (R.new hp _) (R.tup hp (h2.flat _))⟩)
  ·have:=h2.len
   rw [z] at this
   exact bP.mp this.symm
  ·refine q _ H (Ex.refl R.fl) ⟨a,xs,rfl,h1,?_⟩
   rw [e,bw,List.replicate_zero,bZ,List.flatten_nil,b9]
   exact h2
 ·rename_i la k
  obtain ⟨a,xs,rfl,n1,h1,h2⟩:=rx
  cases ry
  exact .inr <| .inl ⟨a,k,xs,rfl,rfl,h1,h.1,h.2.1,by rw [h2.len];exact h.2.2.1,fun p hp=>h.2.2.2 _ _ (R.new hp _) (R.lst hp (h2.flat _))⟩
theorem rd_bin {k:Nat} (hr:Room k X.A) (op:Operator):Rng X (binaryOp op) (oBin op):=by
 cases op
 case Add=>exact rd_add
 case Mult=>exact rd_mul
 case Sub =>
  refine ⟨_,op_sub,fun f O σ ss H dx dy x y Q R rx ry h=>?_⟩
  cases dx <;> cases dy <;> first | (exact False.elim h) | skip
  cases rx;cases ry
  exact ⟨_,_,rfl,rfl,h _ H (Ex.refl R.fl) rfl⟩
 case FloorDiv=>exact rd_int (op_fdivB hr) fun dx dy Q h=>by cases dx <;> cases dy <;> first | (exact False.elim h) | exact ⟨_,_,rfl,rfl,h.1,h.2⟩
 case Mod=>exact rd_int op_modN fun dx dy Q h=>by cases dx <;> cases dy <;> first | (exact False.elim h) | exact ⟨_,_,rfl,rfl,h.1,h.2⟩
 case Pow=>exact rd_int op_pow fun dx dy Q h=>by cases dx <;> cases dy <;> first | (exact False.elim h) | exact ⟨_,_,rfl,rfl,h.1,h.2⟩
 case LShift=>exact rd_int op_shl fun dx dy Q h=>by cases dx <;> cases dy <;> first | (exact False.elim h) | exact ⟨_,_,rfl,rfl,h.1,h.2⟩
 all_goals exact Rng.never
theorem rd_eq {k:Nat} (hr:Room k X.A):Rng X (compareOp .Eq) (oEq false):=by
 refine ⟨_,OpR.or2 op_eq (OpR.or2 (eqT X.K hr) (eqLs X.K hr)),?_⟩
 intro f O σ ss H dx dy x y Q R rx ry h
 cases dx <;> cases dy <;> first | (exact False.elim h) | skip
 ·rename_i i j
  cases rx;cases ry
  refine .inl ⟨rfl,?_⟩
  have e:(decide (V.bl i=V.bl j))=decide (i=j):=by cases i <;> cases j <;> rfl
  rw [e]
  exact h _ H (Ex.refl R.fl) rfl
 ·rename_i i j
  cases rx;cases ry
  refine .inl ⟨rfl,?_⟩
  have e:(decide (V.int i=V.int j))=decide (i=j):=by simp
  rw [e]
  exact h _ H (Ex.refl R.fl) rfl
 ·rename_i i j
  cases rx;cases ry
  refine .inl ⟨rfl,?_⟩
  have e:(decide (V.str i=V.str j))=decide (i=j):=by simp
  rw [e]
  exact h _ H (Ex.refl R.fl) rfl
 ·rename_i la lb
  obtain ⟨p1,p2,p3,q⟩:=h
  refine .inr (.inl ⟨D.dvs la,D.dvs lb,Rp.rep (d:=.tup la) p1 rx,Rp.rep (d:=.tup lb) p2 ry,D.dvs_pl p1,D.dvs_pl p2,by rw [D.dvs_dp];exact p3,fun b hb=>?_⟩)
  exact q b (hb.trans ⟨fun e=>D.dvs_inj p1 p2 e,fun e=>by rw [e]⟩) _ H (Ex.refl R.fl) rfl
 ·rename_i la lb
  obtain ⟨_,p1,p2,p3,q⟩:=h
  refine .inr (.inr ⟨D.dvs la,D.dvs lb,Rp.rep (d:=.lst la) p1 rx,Rp.rep (d:=.lst lb) p2 ry,D.dvs_pl p1,D.dvs_pl p2,by rw [D.dvs_dp];exact p3,fun b hb=>?_⟩)
  exact q b (hb.trans ⟨fun e=>D.dvs_inj p1 p2 e,fun e=>by rw [e]⟩) _ H (Ex.refl R.fl) rfl
theorem rd_ne {k:Nat} (hr:Room k X.A):Rng X (compareOp .NotEq) (oEq true):=by
 refine ⟨_,OpR.or2 op_ne (OpR.or2 (neT X.K hr) (neLs X.K hr)),?_⟩
 intro f O σ ss H dx dy x y Q R rx ry h
 cases dx <;> cases dy <;> first | (exact False.elim h) | skip
 ·rename_i i j
  cases rx;cases ry
  refine .inl ⟨rfl,?_⟩
  have e:(decide (V.bl i=V.bl j))=decide (i=j):=by cases i <;> cases j <;> rfl
  rw [e]
  exact h _ H (Ex.refl R.fl) rfl
 ·rename_i i j
  cases rx;cases ry
  refine .inl ⟨rfl,?_⟩
  have e:(decide (V.int i=V.int j))=decide (i=j):=by simp
  rw [e]
  exact h _ H (Ex.refl R.fl) rfl
 ·rename_i i j
  cases rx;cases ry
  refine .inl ⟨rfl,?_⟩
  have e:(decide (V.str i=V.str j))=decide (i=j):=by simp
  rw [e]
  exact h _ H (Ex.refl R.fl) rfl
 ·rename_i la lb
  obtain ⟨p1,p2,p3,q⟩:=h
  refine .inr (.inl ⟨D.dvs la,D.dvs lb,Rp.rep (d:=.tup la) p1 rx,Rp.rep (d:=.tup lb) p2 ry,D.dvs_pl p1,D.dvs_pl p2,by rw [D.dvs_dp];exact p3,fun b hb=>?_⟩)
  exact q b (hb.trans ⟨fun e=>D.dvs_inj p1 p2 e,fun e=>by rw [e]⟩) _ H (Ex.refl R.fl) rfl
 ·rename_i la lb
  obtain ⟨_,p1,p2,p3,q⟩:=h
  refine .inr (.inr ⟨D.dvs la,D.dvs lb,Rp.rep (d:=.lst la) p1 rx,Rp.rep (d:=.lst lb) p2 ry,D.dvs_pl p1,D.dvs_pl p2,by rw [D.dvs_dp];exact p3,fun b hb=>?_⟩)
  exact q b (hb.trans ⟨fun e=>D.dvs_inj p1 p2 e,fun e=>by rw [e]⟩) _ H (Ex.refl R.fl) rfl
theorem rd_is:Rng X (compareOp .Is) (oIs false):=by
 refine ⟨_,op_isN,fun f O σ ss H dx dy x y Q R rx ry h=>?_⟩
 cases dy <;> first | (exact False.elim h) | skip
 cases ry
 refine ⟨rfl,?_⟩
 cases dx
 case tup=>obtain ⟨a,xs,rfl,_⟩:=rx;exact h _ H (Ex.refl R.fl) rfl
 case lst=>obtain ⟨a,xs,rfl,_⟩:=rx;exact h _ H (Ex.refl R.fl) rfl
 case exn=>obtain ⟨a,xs,rfl,_⟩:=rx;exact h _ H (Ex.refl R.fl) rfl
 case dct=>obtain ⟨a,xs,rfl,_⟩:=rx;exact h _ H (Ex.refl R.fl) rfl
 all_goals (cases rx;exact h _ H (Ex.refl R.fl) rfl)
theorem rd_isNot:Rng X (compareOp .IsNot) (oIs true):=by
 refine ⟨_,op_notN,fun f O σ ss H dx dy x y Q R rx ry h=>?_⟩
 cases dy <;> first | (exact False.elim h) | skip
 cases ry
 refine ⟨rfl,?_⟩
 cases dx
 case tup=>obtain ⟨a,xs,rfl,_⟩:=rx;exact h _ H (Ex.refl R.fl) rfl
 case lst=>obtain ⟨a,xs,rfl,_⟩:=rx;exact h _ H (Ex.refl R.fl) rfl
 case exn=>obtain ⟨a,xs,rfl,_⟩:=rx;exact h _ H (Ex.refl R.fl) rfl
 case dct=>obtain ⟨a,xs,rfl,_⟩:=rx;exact h _ H (Ex.refl R.fl) rfl
 all_goals (cases rx;exact h _ H (Ex.refl R.fl) rfl)
theorem Rps.strs:∀ {zs:List Str} {vs:List V},Rps K f O H (zs.map D.str) vs->vs=zs.map V.str
 | [],_,h=>h
 | z::zs,_,h=>by
  obtain ⟨v,r,e1,h1,h2⟩:=h
  rw [e1,Rps.strs h2,show v = .str z from h1]
  rfl
theorem inV_int (i:Int) (ns:List Int):inV (.int i) (ns.map V.int)=decide (i∈ns):=by
 apply cs.mpr
 unfold inV
 rw [dI,decide_eq_true_iff]
 constructor
 ·rintro ⟨y,hy,e⟩
  obtain ⟨j,hj,rfl⟩:=cP.mp hy
  have e:(j == i)=true:=e
  exact beq_iff_eq.mp e ▸ hj
 ·exact fun h=>⟨_,cP.mpr ⟨i,h,rfl⟩,show (i == i)=true from beq_self_eq_true i⟩
theorem inV_str (i:Str) (ns:List Str):inV (.str i) (ns.map V.str)=decide (i∈ns):=by
 apply cs.mpr
 unfold inV
 rw [dI,decide_eq_true_iff]
 constructor
 ·rintro ⟨y,hy,e⟩
  obtain ⟨j,hj,rfl⟩:=cP.mp hy
  have e:(j == i)=true:=e
  exact beq_iff_eq.mp e ▸ hj
 ·exact fun h=>⟨_,cP.mpr ⟨i,h,rfl⟩,show (i == i)=true from beq_self_eq_true i⟩
theorem D.dvs_mem {x:D}:∀ {l:List D},x.pl=true->D.pls l=true->(x.dv∈D.dvs l↔x∈l)
 | [],_,_=>⟨fun h=>(by cases h),fun h=>by cases h⟩
 | d::l,hx,hl=>by
  have h:=ao.mp (show (d.pl && D.pls l)=true from hl)
  show x.dv∈d.dv::D.dvs l↔_
  rw [ar,ar,D.dvs_mem hx h.2]
  exact or_congr ⟨fun e=>D.dv_inj hx h.1 e,fun e=>by rw [e]⟩ Iff.rfl
theorem rd_in (neg:Bool):RD K (fun x y H Q=>rIn K neg x y H Q\/rInP K neg x y H Q) (oIn neg):=by
 rintro f O σ ss H dx dy x y Q R rx ry (⟨i,ns,rfl,hy,q⟩ | ⟨i,ns,rfl,hy,q⟩ | ⟨l,rfl,p1,p2,p3,q⟩)
 ·cases rx
  have fl:(ns.map V.int).all flatV=true:=by rw [fw];exact bz.mpr fun _ _=>rfl
  rcases hy with rfl | rfl
  ·obtain ⟨a,xs,rfl,_,h1,r1⟩:=ry
   rw [Rps.ints r1] at h1
   exact .inl ⟨a,_,rfl,.inl (SqL.of h1),rfl,fl,by rw [inV_int];exact q _ H (Ex.refl R.fl) rfl⟩
  ·obtain ⟨a,xs,rfl,h1,r1⟩:=ry
   rw [Rps.ints r1] at h1
   exact .inl ⟨a,_,rfl,.inr h1,rfl,fl,by rw [inV_int];exact q _ H (Ex.refl R.fl) rfl⟩
 ·cases rx
  have fl:(ns.map V.str).all flatV=true:=by rw [fw];exact bz.mpr fun _ _=>rfl
  rcases hy with rfl | rfl
  ·obtain ⟨a,xs,rfl,_,h1,r1⟩:=ry
   rw [Rps.strs r1] at h1
   exact .inl ⟨a,_,rfl,.inl (SqL.of h1),rfl,fl,by rw [inV_str];exact q _ H (Ex.refl R.fl) rfl⟩
  ·obtain ⟨a,xs,rfl,h1,r1⟩:=ry
   rw [Rps.strs r1] at h1
   exact .inl ⟨a,_,rfl,.inr h1,rfl,fl,by rw [inV_str];exact q _ H (Ex.refl R.fl) rfl⟩
 ·exact .inr ⟨dx.dv,D.dvs l,Rp.rep p1 rx,Rp.rep (d:=.lst l) p2 ry,D.dv_pl p1,D.dvs_pl p2,by rw [D.dvs_dp];exact p3,fun b hb=>q b (hb.trans (D.dvs_mem p1 p2)) _ H (Ex.refl R.fl) rfl⟩
theorem rd_cmp {k:Nat} (hr:Room k X.A) (op:CmpOp):Rng X (compareOp op) (oCmp op):=by
 cases op
 case Eq=>exact rd_eq hr
 case NotEq=>exact rd_ne hr
 case Lt=>exact rd_intB op_lt fun dx dy Q h=>by cases dx <;> cases dy <;> first | (exact False.elim h) | exact ⟨_,_,rfl,rfl,h⟩
 case LtE=>exact rd_intB op_le fun dx dy Q h=>by cases dx <;> cases dy <;> first | (exact False.elim h) | exact ⟨_,_,rfl,rfl,h⟩
 case Gt=>exact rd_intB op_gt fun dx dy Q h=>by cases dx <;> cases dy <;> first | (exact False.elim h) | exact ⟨_,_,rfl,rfl,h⟩
 case GtE=>exact rd_intB op_ge fun dx dy Q h=>by cases dx <;> cases dy <;> first | (exact False.elim h) | exact ⟨_,_,rfl,rfl,h⟩
 case Is=>exact rd_is
 case IsNot=>exact rd_isNot
 case In=>exact ⟨_,OpR.or2 op_in_seq (op_inP X.K hr),rd_in false⟩
 case NotIn=>exact ⟨_,OpR.or2 op_notIn_seq (op_notInP X.K hr),rd_in true⟩
end Dp
namespace Dp
open PySem L2
variable {K:PySem.W.Frag} {f:Addr} {O O':List Addr} {H H':Hp} {X:Cx} {σ:St} {ss:SS} {a b c:Expr} {ta tb tc:TEd} {tA tB:TTd} {pos:Pos}
def gT (op:Operator) (a b:TEd):TEd:=d2 (oBin op) oBin.mono a b
theorem gT.ok {k:Nat} {op:Operator} (hr:Room k X.A) (ha:PE X a (LE X.K ta)) (hb:PE X b (LE X.K tb)):PE X (.BinOp a op b pos) (LE X.K (gT op ta tb)):=by
 obtain ⟨r,h,hr⟩:=rd_bin (X:=X) hr op
 exact d2.ok hr (pe_op h ha hb)
def g8 (op:CmpOp) (a b:TEd):TEd:=d2 (oCmp op) oCmp.mono a b
theorem g8.ok {k:Nat} {op:CmpOp} (hr:Room k X.A) (ha:PE X a (LE X.K ta)) (hb:PE X b (LE X.K tb)) (hm:behindInMarks op b=false):PE X (.Compare a [op] [b] pos) (LE X.K (g8 op ta tb)):=by
 obtain ⟨r,h,hr⟩:=rd_cmp hr op
 exact d2.ok hr (pe_cmpR h ha hb hm)
def gX (t:TEd):TTd:=⟨fun ss Q=>t.run ss fun d=>match d with | .bl b=>Q b | _=>False,fun {ss Q Q'} h q=>t.mono (fun d q=>by
 revert q
 cases d <;> first | exact h _ | exact id) q⟩
theorem LE.test {t:TEd} {σ:St} {H:Hp} {Q:Bool->Hp->Prop} (h:LT X.K (gX t) σ H Q):tTest (LE X.K t) σ H Q:=by
 obtain ⟨f,O,ss,R,q⟩:=h
 refine ⟨f,O,ss,R,t.mono (fun d q v H' e r=>?_) q⟩
 cases d <;> first | exact False.elim q | skip
 cases r
 exact ⟨_,rfl,q H' e⟩
theorem g8.test {k:Nat} {op:CmpOp} (hr:Room k X.A) (ha:PE X a (LE X.K ta)) (hb:PE X b (LE X.K tb)) (hm:behindInMarks op b=false):PT X (.Compare a [op] [b] pos) (LT X.K (gX (g8 op ta tb))):=by
 obtain ⟨r,h,hr⟩:=rd_cmp hr op
 refine (pt_cmpR (pos:=pos) h ha hb hm).weak fun σ H Q q=>?_
 have q:=LE.test q
 obtain ⟨f,O,ss,R,q⟩:=q
 refine ⟨f,O,ss,R,ta.mono (fun dx q v1 H1 e1 r1=>?_) q⟩
 refine ⟨f,O,ss,R.ex e1,tb.mono (fun dy q v2 H2 e2 r2=>?_) q⟩
 exact hr f O σ ss H2 dx dy v1 v2 _ ((R.ex e1).ex e2) ((R.ex e1).up e2 r1) r2 (oCmp.mono (fun d q v H' e3 r3=>q v H' (e1.trans (e2.trans e3)) r3) q)
def i4 (op op':CmpOp) (a b c:TEd):TEd:=⟨fun ss Q=>a.run ss fun x=>b.run ss fun y=>oCmp op x y fun z=>match z with | .bl k=>if k=true then c.run ss fun w=>oCmp op' y w Q else Q (.bl false) | _=>False,fun {ss Q Q'} h q=>a.mono (fun x q=>b.mono (fun y q=>oCmp.mono (fun d q=>by
 revert q
 cases d <;> first | exact id | skip
 rename_i k
 cases k
 ·exact h _
 ·exact c.mono fun w q=>oCmp.mono h q) q) q) q⟩
theorem i4.test {k:Nat} {op op':CmpOp} (hr:Room k X.A) (ha:PE X a (LE X.K ta)) (hb:PE X b (LE X.K tb)) (hc:PE X c (LE X.K tc)) (hm:lastMarks [op,op'] [b,c]=false):PT X (.Compare a [op,op'] [b,c] pos) (LT X.K (gX (i4 op op' ta tb tc))):=by
 obtain ⟨r,h,h1⟩:=rd_cmp hr op
 obtain ⟨r',h',h2⟩:=rd_cmp hr op'
 refine (pt_chain (pos:=pos) h h' ha hb hc hm).weak fun σ H Q q=>?_
 have q:=LE.test q
 obtain ⟨f,O,ss,R,q⟩:=q
 refine ⟨f,O,ss,R,ta.mono (fun dx q v1 H1 e1 r1=>?_) q⟩
 refine ⟨f,O,ss,R.ex e1,tb.mono (fun dy q v2 H2 e2 r2=>?_) q⟩
 have R2:=(R.ex e1).ex e2
 refine h1 f O σ ss H2 dx dy v1 v2 _ R2 ((R.ex e1).up e2 r1) r2 (oCmp.mono (fun d q v H3 e3 r3=>?_) q)
 cases d <;> first | exact False.elim q | skip
 rename_i k
 cases r3
 refine ⟨k,rfl,?_⟩
 cases k
 ·exact q _ H3 (e1.trans (e2.trans e3)) rfl
 ·have R3:=R2.ex e3
  refine ⟨f,O,ss,R3,tc.mono (fun dz q v4 H4 e4 r4=>?_) q⟩
  exact h2 f O σ ss H4 dy dz v2 v4 _ (R3.ex e4) (R3.up e4 (R2.up e3 r2)) r4 (oCmp.mono (fun d q v H' e5 r5=>q v H' (e1.trans (e2.trans (e3.trans (e4.trans e5)))) r5) q)
theorem i4.ok {k:Nat} {op op':CmpOp} (hr:Room k X.A) (ha:PE X a (LE X.K ta)) (hb:PE X b (LE X.K tb)) (hc:PE X c (LE X.K tc)) (hm:lastMarks [op,op'] [b,c]=false):PE X (.Compare a [op,op'] [b,c] pos) (LE X.K (i4 op op' ta tb tc)):=by
 obtain ⟨r,h,h1⟩:=rd_cmp hr op
 obtain ⟨r',h',h2⟩:=rd_cmp hr op'
 refine (pe_chain (pos:=pos) h h' ha hb hc hm).weak fun σ H Q q=>?_
 obtain ⟨f,O,ss,R,q⟩:=q
 refine ⟨f,O,ss,R,ta.mono (fun dx q v1 H1 e1 r1=>?_) q⟩
 refine ⟨f,O,ss,R.ex e1,tb.mono (fun dy q v2 H2 e2 r2=>?_) q⟩
 have R2:=(R.ex e1).ex e2
 refine h1 f O σ ss H2 dx dy v1 v2 _ R2 ((R.ex e1).up e2 r1) r2 (oCmp.mono (fun d q v H3 e3 r3=>?_) q)
 cases d <;> first | exact False.elim q | skip
 rename_i k
 cases r3
 refine ⟨k,rfl,?_⟩
 cases k
 ·exact q _ H3 (e1.trans (e2.trans e3)) rfl
 ·have R3:=R2.ex e3
  refine ⟨f,O,ss,R3,tc.mono (fun dz q v4 H4 e4 r4=>?_) q⟩
  exact h2 f O σ ss H4 dy dz v2 v4 _ (R3.ex e4) (R3.up e4 (R2.up e3 r2)) r4 (oCmp.mono (fun d q v H' e5 r5=>q v H' (e1.trans (e2.trans (e3.trans (e4.trans e5)))) r5) q)
def kB (a:TEd):TEd:=⟨fun ss Q=>a.run ss fun d=>match d with | .int i=>Q (.int (-i)) | _=>False,fun {ss Q Q'} h q=>a.mono (fun d q=>by
 revert q
 cases d <;> first | exact h _ | exact id) q⟩
theorem kB.ok (ha:PE X a (LE X.K ta)):PE X (.UnaryOp .USub a pos) (LE X.K (kB ta)):=(pe_un (pos:=pos) un_neg ha).weak fun σ H Q ⟨f,O,ss,R,q⟩=>⟨f,O,ss,R,ta.mono (fun d q v H1 e r=>by
 cases d <;> first | exact False.elim q | skip
 cases r
 exact ⟨_,rfl,q _ H1 e rfl⟩) q⟩
def truD:D->(Bool->Prop)->Prop
 | .non,Q=>Q false
 | .bl b,Q=>Q b
 | .int i,Q=>Q (i != 0)
 | .str y,Q=>y.length<=sizeLine/\Q ((y.length:Int) != 0)
 | .tup l,Q=>Q (!l.isEmpty)
 | .lst l,Q=>Q (!l.isEmpty)
 | .fl,_=>False
 | .exn _ _ _,_=>False
 | .dct _ _,_=>False
theorem truD.mono:∀ {d:D} {Q Q':Bool->Prop},(∀ b,Q b->Q' b)->truD d Q->truD d Q'
 | .non,_,_,h,q=>h _ q
 | .bl _,_,_,h,q=>h _ q
 | .int _,_,_,h,q=>h _ q
 | .str _,_,_,h,q=>⟨q.1,h _ q.2⟩
 | .tup _,_,_,h,q=>h _ q
 | .lst _,_,_,h,q=>h _ q
 | .fl,_,_,_,q=>q
 | .exn _ _ _,_,_,_,q=>q
 | .dct _ _,_,_,_,q=>q
theorem Rps.empty:∀ {ds:List D} {vs:List V},Rps K f O H ds vs->vs.isEmpty=ds.isEmpty
 | [],_,h=>by rw [show _=[] from h];rfl
 | _::_,_,h=>by obtain ⟨v,r,e,_⟩:=h;rw [e];rfl
def lF (a:TEd):TTd:=⟨fun ss Q=>a.run ss fun d=>truD d Q,fun h q=>a.mono (fun d q=>truD.mono h q) q⟩
theorem lF.ok (ha:PE X a (LE X.K ta)) (he:∀ whole,isTrue a X.env whole=(do let v ← whole;standAt a.pos;holding [v] (truthy v))):PT X a (LT X.K (lF ta)):=(pt_truth ha he).weak fun σ H Q ⟨f,O,ss,R,q⟩=>⟨f,O,ss,R,ta.mono (fun d q v H1 e r=>by
 cases d
 case non=>cases r;exact ⟨false,rfl,q H1 e⟩
 case bl=>cases r;exact ⟨_,rfl,q H1 e⟩
 case int=>cases r;exact ⟨_,rfl,q H1 e⟩
 case str=>cases r;exact ⟨_,⟨q.1,rfl⟩,q.2 H1 e⟩
 case tup l =>
  obtain ⟨p,xs,rfl,h1,h2⟩:=r
  exact ⟨_,.inr (.inl ⟨xs,h1,by rw [h2.empty]⟩),q H1 e⟩
 case lst l =>
  obtain ⟨p,xs,rfl,_,h1,h2⟩:=r
  exact ⟨_,.inl ⟨xs,SqL.of h1,by rw [h2.empty]⟩,q H1 e⟩
 case fl=>exact False.elim q
 case exn=>exact False.elim q
 case dct=>exact False.elim q) q⟩
def ja (a b:TTd):TTd:=⟨fun ss Q=>a.run ss fun k=>if k=true then b.run ss Q else Q false,fun {ss Q Q'} h q=>a.mono (fun k q=>by
 revert q
 cases k
 ·exact h _
 ·exact b.mono h) q⟩
def jf (a b:TTd):TTd:=⟨fun ss Q=>a.run ss fun k=>if k=true then Q true else b.run ss Q,fun {ss Q Q'} h q=>a.mono (fun k q=>by
 revert q
 cases k
 ·exact b.mono h
 ·exact h _) q⟩
def jM (a:TTd):TTd:=⟨fun ss Q=>a.run ss fun k=>Q (!k),fun h q=>a.mono (fun k q=>h _ q) q⟩
theorem ja.weak {σ:St} {H:Hp} {Q:Bool->Hp->Prop} (h:LT X.K (ja tA tB) σ H Q):tAnd (LT X.K tA) (LT X.K tB) σ H Q:=by
 obtain ⟨f,O,ss,S,q⟩:=h
 refine ⟨f,O,ss,S,tA.mono (fun k q H1 e=>?_) q⟩
 cases k
 ·exact q H1 e
 ·exact ⟨f,O,ss,S.ex e,tB.mono (fun k q H2 e2=>q H2 (e.trans e2)) q⟩
theorem jf.weak {σ:St} {H:Hp} {Q:Bool->Hp->Prop} (h:LT X.K (jf tA tB) σ H Q):tOr (LT X.K tA) (LT X.K tB) σ H Q:=by
 obtain ⟨f,O,ss,S,q⟩:=h
 refine ⟨f,O,ss,S,tA.mono (fun k q H1 e=>?_) q⟩
 cases k
 ·exact ⟨f,O,ss,S.ex e,tB.mono (fun k q H2 e2=>q H2 (e.trans e2)) q⟩
 ·exact q H1 e
theorem _root_.L2.PW.weak {e:Expr} {t t':TT} (h:PW X e t) (w:∀ σ H Q,t' σ H Q->t σ H Q):PW X e t':=fun wh pins s σ H Q I q=>h wh pins s σ H Q I (w σ H Q q)
theorem ja.ok {rest:List Expr} (ha:PT X a (LT X.K tA)) (hb:PW X (.BoolOp .And (b::rest) pos) (LT X.K tB)):PW X (.BoolOp .And (a::b::rest) pos) (LT X.K (ja tA tB)):=(pw_and ha hb).weak fun _ _ _=>ja.weak
theorem jf.ok {rest:List Expr} (ha:PT X a (LT X.K tA)) (hb:PW X (.BoolOp .Or (b::rest) pos) (LT X.K tB)):PW X (.BoolOp .Or (a::b::rest) pos) (LT X.K (jf tA tB)):=(pw_or ha hb).weak fun _ _ _=>jf.weak
theorem jM.ok (ha:PT X a (LT X.K tA)):PT X (.UnaryOp .Not a pos) (LT X.K (jM tA)):=(pt_not ha).weak fun σ H Q ⟨f,O,ss,S,q⟩=>⟨f,O,ss,S,q⟩
def pg (a b:TEd):TEd:=⟨fun ss Q=>a.run ss fun d=>match d with | .bl k=>if k=true then b.run ss Q else Q (.bl false) | _=>False,fun {ss Q Q'} h q=>a.mono (fun d q=>by
 revert q
 cases d <;> first | exact id | skip
 rename_i k
 cases k
 ·exact h _
 ·exact b.mono h) q⟩
def dOr (a b:TEd):TEd:=⟨fun ss Q=>a.run ss fun d=>match d with | .bl k=>if k=true then Q (.bl true) else b.run ss Q | _=>False,fun {ss Q Q'} h q=>a.mono (fun d q=>by
 revert q
 cases d <;> first | exact id | skip
 rename_i k
 cases k
 ·exact b.mono h
 ·exact h _) q⟩
def ph (a:TEd):TEd:=⟨fun ss Q=>a.run ss fun d=>match d with | .bl k=>Q (.bl (!k)) | _=>False,fun {ss Q Q'} h q=>a.mono (fun d q=>by
 revert q
 cases d <;> first | exact h _ | exact id) q⟩
theorem pg.ok {rest:List Expr} (ha:PE X a (LE X.K ta)) (hb:PE X (.BoolOp .And (b::rest) pos) (LE X.K tb)):PE X (.BoolOp .And (a::b::rest) pos) (LE X.K (pg ta tb)):=(pe_and ha hb).weak fun σ H Q ⟨f,O,ss,S,q⟩=>⟨f,O,ss,S,ta.mono (fun d q v H1 e r=>by
 cases d <;> first | exact False.elim q | skip
 rename_i k
 cases r
 refine ⟨k,rfl,?_⟩
 cases k
 ·exact q _ H1 e rfl
 ·exact ⟨f,O,ss,S.ex e,tb.mono (fun k q v H2 e2 r=>q v H2 (e.trans e2) r) q⟩) q⟩
theorem dOr.ok {rest:List Expr} (ha:PE X a (LE X.K ta)) (hb:PE X (.BoolOp .Or (b::rest) pos) (LE X.K tb)):PE X (.BoolOp .Or (a::b::rest) pos) (LE X.K (dOr ta tb)):=(pe_or ha hb).weak fun σ H Q ⟨f,O,ss,S,q⟩=>⟨f,O,ss,S,ta.mono (fun d q v H1 e r=>by
 cases d <;> first | exact False.elim q | skip
 rename_i k
 cases r
 refine ⟨k,rfl,?_⟩
 cases k
 ·exact ⟨f,O,ss,S.ex e,tb.mono (fun k q v H2 e2 r=>q v H2 (e.trans e2) r) q⟩
 ·exact q _ H1 e rfl) q⟩
theorem ph.ok (ha:PE X a (LE X.K ta)):PE X (.UnaryOp .Not a pos) (LE X.K (ph ta)):=(pe_not (pos:=pos) ha).weak fun σ H Q ⟨f,O,ss,S,q⟩=>⟨f,O,ss,S,ta.mono (fun d q v H1 e r=>by
 cases d <;> first | exact False.elim q | skip
 rename_i k
 cases r
 exact ⟨k,rfl,q _ H1 e rfl⟩) q⟩
def oO (c:TTd) (a b:TEd):TEd:=⟨fun ss Q=>c.run ss fun k=>if k=true then a.run ss Q else b.run ss Q,fun {ss Q Q'} h q=>c.mono (fun k q=>by
 revert q
 cases k
 ·exact b.mono h
 ·exact a.mono h) q⟩
theorem oO.ok (hc:PT X c (LT X.K tA)) (ha:PE X a (LE X.K ta)) (hb:PE X b (LE X.K tb)):PE X (.IfExp c a b pos) (LE X.K (oO tA ta tb)):=(pe_ifExp (pos:=pos) hc ha hb).weak fun σ H Q ⟨f,O,ss,S,q⟩=>⟨f,O,ss,S,tA.mono (fun k q H1 e=>by
 cases k
 ·exact ⟨f,O,ss,S.ex e,tb.mono (fun k q v H2 e2 r=>q v H2 (e.trans e2) r) q⟩
 ·exact ⟨f,O,ss,S.ex e,ta.mono (fun k q v H2 e2 r=>q v H2 (e.trans e2) r) q⟩) q⟩
def gQ:TAd:=⟨fun _ Q=>Q [],fun h q=>h _ q⟩
def gO (a:TEd) (r:TAd):TAd:=⟨fun ss Q=>a.run ss fun d=>r.run ss fun ds=>Q (d::ds),fun h q=>a.mono (fun d q=>r.mono (fun ds q=>h _ q) q) q⟩
theorem gQ.ok:PA X [] (LA X.K gQ):=pa_nil.weak fun σ H Q ⟨f,O,ss,S,q⟩=>q [] H (Ex.refl S.fl) rfl
theorem gO.ok {es:List Expr} {t:TAd} (ha:PE X a (LE X.K ta)) (hr:PA X es (LA X.K t)) (hs:starEach (a::es) X.env=(false,eval a X.env)::starEach es X.env):PA X (a::es) (LA X.K (gO ta t)):=(pa_cons ha hr hs).weak fun σ H Q ⟨f,O,ss,S,q⟩ =>
 ⟨f,O,ss,S,ta.mono (fun d q v H1 e r=>⟨f,O,ss,S.ex e,t.mono (fun ds q vs H2 e2 r2=>q (v::vs) H2 (e.trans e2) ⟨v,vs,rfl,(S.ex e).up e2 r,r2⟩) q⟩) q⟩
def gZ (t:TAd):TEd:=⟨fun ss Q=>t.run ss fun ds=>ds.length<=sizeLine/\Q (.tup ds),fun h q=>t.mono (fun ds q=>⟨q.1,h _ q.2⟩) q⟩
def ig (t:TAd):TEd:=⟨fun ss Q=>t.run ss fun ds=>ds.length<=sizeLine/\Q (.lst ds),fun h q=>t.mono (fun ds q=>⟨q.1,h _ q.2⟩) q⟩
theorem gZ.ok {es:List Expr} {t:TAd} {k:Nat} (h:PA X es (LA X.K t)):PE X (.Tuple es k pos) (LE X.K (gZ t)):=(pe_tup h).weak fun σ H Q ⟨f,O,ss,S,q⟩ =>
 ⟨f,O,ss,S,t.mono (fun ds q vs H1 e r=>⟨by rw [r.len];exact q.1,fun p hp=>q.2 _ _ (e.trans ((S.ex e).new hp _)) ((S.ex e).tup hp r)⟩) q⟩
theorem ig.ok {es:List Expr} {t:TAd} (h:PA X es (LA X.K t)):PE X (.List es pos) (LE X.K (ig t)):=(pe_lst h).weak fun σ H Q ⟨f,O,ss,S,q⟩ =>
 ⟨f,O,ss,S,t.mono (fun ds q vs H1 e r=>⟨by rw [r.len];exact q.1,fun p hp=>q.2 _ _ (e.trans ((S.ex e).new hp _)) ((S.ex e).lst hp r)⟩) q⟩
def itD (l:List D) (i:Int) (Q:D->Prop):Prop:=match atI l i with | some d=>Q d | none=>False
theorem itD.mono {l:List D} {i:Int} {Q Q':D->Prop} (h:∀ d,Q d->Q' d):itD l i Q->itD l i Q':=by
 unfold itD
 split
 ·exact h _
 ·exact id
theorem itD.rp {l:List D} {xs:List V} {i:Int} {Q:D->Prop} (r:Rps K f O H l xs) (q:itD l i Q):∃ v d,atI xs i=some v/\Rp K f O H d v/\Q d:=by
 unfold itD at q
 split at q
 ·rename_i d e
  unfold atI at e ⊢
  rw [r.len]
  cases h:ixN l.length i with
  | none=>rw [h] at e;cases e
  | some j =>
   rw [h] at e
   obtain ⟨v,h1,h2⟩:=r.get (show l[j]? = some d from e)
   exact ⟨v,d,h1,h2,q⟩
 ·exact q.elim
def oIx:OD
 | .lst l,.int i,Q=>itD l i Q
 | .tup l,.int i,Q=>itD l i Q
 | .str z,.int i,Q=>z.length<=sizeLine/\∃ c,atI z.cps.toList i=some c/\Q (.str ⟨#[c]⟩)
 | .dct ks l,.int i,Q=>∃ (j:Nat) (d:D),ks[j]? = some (Sum.inl i)/\l[j]? = some d/\Q d
 | .dct ks l,.str x,Q=>∃ (j:Nat) (d:D),ks[j]? = some (Sum.inr x)/\l[j]? = some d/\Q d
 | _,_,_=>False
theorem oIx.mono:∀ {x y Q Q'},(∀ d,Q d->Q' d)->oIx x y Q->oIx x y Q':=by
 intro x y Q Q' h
 cases x <;> cases y <;> intro q <;> first | exact itD.mono h q | exact q | skip
 ·obtain ⟨q0,c,q1,q2⟩:=q
  exact ⟨q0,c,q1,h _ q2⟩
 ·obtain ⟨j,d,q0,q1,q2⟩:=q
  exact ⟨j,d,q0,q1,h _ q2⟩
 ·obtain ⟨j,d,q0,q1,q2⟩:=q
  exact ⟨j,d,q0,q1,h _ q2⟩
def rIxx (K:PySem.W.Frag):R2:=fun x y H Q=>rIx K x y H Q\/rIxD x y H Q
theorem ix_all:IxR X (rIxx X.K):=ix_seq.or ix_dict
theorem dct_at {ks:List Key} {l:List D} {us:List V} {j:Nat} {k:Key} {d:D} (h1:ks[j]? = some k) (h2:l[j]? = some d) (r:Rps K f O H l us):∃ v,(k,v)∈ks.zip us/\Rp K f O H d v:=by
 obtain ⟨v,hv,rv⟩:=r.get h2
 exact ⟨v,aI (i:=j) (by rw [List.getElem?_zip_eq_some];exact ⟨h1,hv⟩),rv⟩
theorem rd_ix:RD X.K (rIxx X.K) oIx:=by
 intro f O σ ss H dx dy x y Q R rx ry h
 cases dx <;> cases dy <;> first | (exact False.elim h) | skip
 ·rename_i z i
  cases rx;cases ry
  obtain ⟨q0,c,q1,q2⟩:=h
  exact .inl (.inr (.inr ⟨z,i,c,rfl,rfl,q0,q1,q2 _ H (Ex.refl R.fl) rfl⟩))
 ·rename_i l i
  obtain ⟨p,xs,rfl,h1,h2⟩:=rx
  cases ry
  obtain ⟨v,d,e,r,q⟩:=itD.rp h2 h
  exact .inl (.inr (.inl ⟨p,xs,i,v,rfl,rfl,h1,e,q v H (Ex.refl R.fl) r⟩))
 ·rename_i l i
  obtain ⟨p,xs,rfl,_,h1,h2⟩:=rx
  cases ry
  obtain ⟨v,d,e,r,q⟩:=itD.rp h2 h
  exact .inl (.inl ⟨p,xs,i,v,rfl,rfl,SqL.of h1,e,q v H (Ex.refl R.fl) r⟩)
 ·rename_i ks l i
  obtain ⟨p,us,rfl,h1,h2,h3⟩:=rx
  cases ry
  obtain ⟨j,d,e1,e2,q⟩:=h
  obtain ⟨v,hm,rv⟩:=dct_at e1 e2 h3
  exact .inr ⟨p,_,.inl i,v,rfl,rfl,h1,hm,q v H (Ex.refl R.fl) rv⟩
 ·rename_i ks l x
  obtain ⟨p,us,rfl,h1,h2,h3⟩:=rx
  cases ry
  obtain ⟨j,d,e1,e2,q⟩:=h
  obtain ⟨v,hm,rv⟩:=dct_at e1 e2 h3
  exact .inr ⟨p,_,.inr x,v,rfl,rfl,h1,hm,q v H (Ex.refl R.fl) rv⟩
def dIx (a b:TEd):TEd:=d2 oIx oIx.mono a b
theorem dIx.ok (ha:PE X a (LE X.K ta)) (hb:PE X b (LE X.K tb)) (hs:PlainIx b):PE X (.Subscript a b pos) (LE X.K (dIx ta tb)):=d2.ok rd_ix (pe_ix ix_all ha hb hs)
def itI (l:List D) (y:D) (Q:D->Prop):Prop:=match y with | .int j=>itD l j Q | _=>False
theorem itI.mono {l:List D} {y:D} {Q Q':D->Prop} (h:∀ d,Q d->Q' d):itI l y Q->itI l y Q':=by
 cases y <;> first | exact id | exact itD.mono h
def kC (i:Nat) (b:TEd):TEd:=⟨fun ss Q=>match ss[i]? with | some (.val d)=>b.run ss fun y=>oIx d y Q | some (.own l)=>b.run ss fun y=>itI l y Q | _=>False,fun {ss Q Q'} h q=>by
 revert q
 split
 ·exact b.mono fun y=>oIx.mono h
 ·exact b.mono fun y=>itI.mono h
 ·exact id⟩
theorem kC.ok {i:Nat} (ha:PE X a (tVar i)) (hb:PE X b (LE X.K tb)) (hs:PlainIx b):PE X (.Subscript a b pos) (LE X.K (kC i tb)):=(pe_ix (pos:=pos) ix_all ha hb hs).weak fun σ H Q ⟨f,O,ss,R,q⟩=>by
 have q:(match ss[i]? with | some (.val d)=>tb.run ss fun y=>oIx d y (fun d=>∀ v H',Ex f H H'->Rp X.K f O H' d v->Q v H') | some (.own l)=>tb.run ss fun y=>itI l y (fun d=>∀ v H',Ex f H H'->Rp X.K f O H' d v->Q v H') | _=>False):=q
 split at q
 ·rename_i d e
  obtain ⟨v,h1,h2⟩:=R.val i d e
  refine ⟨v,h1,f,O,ss,R,tb.mono (fun dy q y H1 e1 r1=>?_) q⟩
  exact rd_ix f O σ ss H1 d dy v y Q (R.ex e1) (R.up e1 h2) r1 (oIx.mono (fun d q v H' e r=>q v H' (e1.trans e) r) q)
 ·rename_i l e
  obtain ⟨p,xs,h1,h2,h3,h4,h5⟩:=R.own i l e
  refine ⟨_,h1,f,O,ss,R,tb.mono (fun dy q y H1 e1 r1=>?_) q⟩
  cases dy <;> first | exact False.elim q | skip
  cases r1
  obtain ⟨v,d,e,r,q⟩:=itD.rp (R.ups e1 h5) q
  exact .inl (.inl ⟨p,xs,_,v,rfl,rfl,SqL.of (e1.sm.app p _ h3 h4),e,q v H1 e1 r⟩)
 ·exact q.elim
def cutD {α:Type} (xs:List α) (lo hi:Option Int):List α:=(xs.drop (HT.sIx xs.length 0 lo)).take (HT.sIx xs.length xs.length hi-HT.sIx xs.length 0 lo)
theorem Rps.cut {ds:List D} {xs:List V} (r:Rps K f O H ds xs) (lo hi:Option Int):Rps K f O H (cutD ds lo hi) (cutV xs lo hi):=by
 unfold cutD cutV
 rw [r.len]
 exact (r.drop _).take _
def dNo:TOd:=⟨fun _ Q=>Q none,fun h q=>h _ q⟩
def lI (t:TEd):TOd:=⟨fun ss Q=>t.run ss fun d=>match d with | .int i=>Q (some i) | _=>False,fun {ss Q Q'} h q=>t.mono (fun d q=>by
 revert q
 cases d <;> first | exact h _ | exact id) q⟩
theorem dNo.ok:PO X none (LO X.K dNo):=po_none.weak fun σ H Q ⟨f,O,ss,S,q⟩=>q H (Ex.refl S.fl)
theorem lI.ok (ha:PE X a (LE X.K ta)):PO X (some a) (LO X.K (lI ta)):=(po_some ha).weak fun σ H Q ⟨f,O,ss,S,q⟩=>⟨f,O,ss,S,ta.mono (fun d q v H1 e r=>by
 cases d <;> first | exact False.elim q | skip
 cases r
 exact ⟨_,rfl,q H1 e⟩) q⟩
def slD (d:D) (lo hi:Option Int) (Q:D->Prop):Prop:=match d with
 | .lst l=>Q (.lst (cutD l lo hi))
 | .tup l=>True/\Q (.tup (cutD l lo hi))
 | _=>False
theorem slD.mono {d:D} {lo hi:Option Int} {Q Q':D->Prop} (h:∀ d,Q d->Q' d):slD d lo hi Q->slD d lo hi Q':=by
 cases d <;> intro q <;> first | exact h _ q | exact ⟨q.1,h _ q.2⟩ | exact q
theorem sl_whole:SlR X (fun x lo hi H Q=>∃ a xs,x = .ref a/\SqT X.K H a xs/\(HT.sIx xs.length 0 lo=0/\HT.sIx xs.length xs.length hi=xs.length)/\Q (.ref a) H):=by
 intro pins s σ H x v vl vu lo hi sl Q I rx hs pl pu h
 obtain ⟨a,xs,e,hx,hw,q⟩:=h
 subst e
 cases rx
 obtain ⟨its,r,ht,hz⟩:=I.tuple hx
 have hlen:its.toArray.size=xs.length:=by rw [ai];exact r.length.symm
 exact ⟨"tuple",_,PyProof.Rows.slot_tuple_getitem.lookup,ht.typeIs,HT.getItem_tuple_whole ht hs pl pu (by rw [hlen];exact hw) ⟨.ref a,H,I,rfl,q⟩⟩
def dSl (a:TEd) (l u:TOd):TEd:=⟨fun ss Q=>a.run ss fun d=>l.run ss fun lo=>u.run ss fun hi=>slD d lo hi Q,fun h q=>a.mono (fun d q=>l.mono (fun lo q=>u.mono (fun hi q=>slD.mono h q) q) q) q⟩
theorem dSl.ok {lo hi:Option Expr} {tl tu:TOd} {p2:Pos} (ha:PE X a (LE X.K ta)) (hl:PO X lo (LO X.K tl)) (hu:PO X hi (LO X.K tu)):PE X (.Subscript a (.Slice lo hi none p2) pos) (LE X.K (dSl ta tl tu)):=by
 refine (pe_slice (pos:=pos) (p2:=p2) (sl_list.or (sl_tup.or sl_whole)) ha hl hu).weak fun σ H Q ⟨f,O,ss,S,q⟩=>?_
 refine ⟨f,O,ss,S,ta.mono (fun d q v H1 e1 r=>?_) q⟩
 have S1:=S.ex e1
 refine ⟨f,O,ss,S1,tl.mono (fun lo q H2 e2=>?_) q⟩
 have S2:=S1.ex e2
 refine ⟨f,O,ss,S2,tu.mono (fun hi q H3 e3=>?_) q⟩
 have S3:=S2.ex e3
 have r:=S2.up e3 (S1.up e2 r)
 cases d <;> first | exact False.elim q | skip
 ·have r':=r
  obtain ⟨p,xs,rfl,h1,h2⟩:=r
  by_cases hw:HT.sIx xs.length 0 lo=0/\HT.sIx xs.length xs.length hi=xs.length
  ·refine .inr (.inr ⟨p,xs,rfl,h1,hw,q.2 _ _ (e1.trans (e2.trans e3)) ?_⟩)
   unfold cutD
   rw [← h2.len,hw.1,hw.2,eX,bR,h2.len,bD]
   exact r'
  ·exact .inr (.inl ⟨p,xs,rfl,h1,hw,fun p hp=>q.2 _ _ (e1.trans (e2.trans (e3.trans (S3.new hp _)))) (S3.tup hp (h2.cut _ _))⟩)
 ·rename_i l
  obtain ⟨p,xs,rfl,_,h1,h2⟩:=r
  exact .inl ⟨p,xs,rfl,SqL.of h1,fun p hp=>q _ _ (e1.trans (e2.trans (e3.trans (S3.new hp _)))) (S3.lst hp (h2.cut _ _))⟩
def oo (a:TEd):TEd:=⟨fun ss Q=>a.run ss fun d=>match d with | .lst l=>Q (.lst l.reverse) | _=>False,fun {ss Q Q'} h q=>a.mono (fun d q=>by
 revert q
 cases d <;> first | exact h _ | exact id) q⟩
theorem oo.ok {j k:Nat} {p1 p2 p3:Pos} (ha:PE X a (LE X.K ta)):PE X (.Subscript a (.Slice none none (some (.UnaryOp .USub (.Constant (.int 1) j p1) p3)) p2) pos) (LE X.K (oo ta)):=by
 refine (pe_slice3 (pos:=pos) (p2:=p2) (revL X.K) ha po_none po_none (po_some (pe_un (pos:=p3) un_neg (pe_int (j:=j) (pos:=p1))))).weak fun σ H Q ⟨f,O,ss,S,q⟩=>?_
 refine ⟨f,O,ss,S,ta.mono (fun d q v H1 e1 r=>?_) q⟩
 have S1:=S.ex e1
 cases d <;> first | exact False.elim q | skip
 rename_i l
 obtain ⟨p,xs,rfl,_,h1,h2⟩:=r
 exact ⟨_,rfl,_,rfl,rfl,rfl,rfl,p,xs,rfl,SqL.of h1,fun p hp=>q _ _ (e1.trans (S1.new hp _)) (S1.lst hp h2.reverse)⟩
abbrev BD:=List D->(D->Prop)->Prop
def dB (o:BD) (m:∀ {ds Q Q'},(∀ d,Q d->Q' d)->o ds Q->o ds Q') (t:TAd):TEd:=⟨fun ss Q=>t.run ss fun ds=>o ds Q,fun h q=>t.mono (fun ds q=>m h q) q⟩
def RC (K:PySem.W.Frag) (r:List V->Hp->VK->Prop) (o:BD):Prop:=∀ (f:Addr) (O:List Addr) (σ:St) (ss:SS) (H:Hp) (ds:List D) (vs:List V) (Q:VK),SlD K f O σ H ss->Rps K f O H ds vs->o ds (fun d=>∀ v H',Ex f H H'->Rp K f O H' d v->Q v H')->r vs H Q
theorem dB.ok {e:Expr} {r:List V->Hp->VK->Prop} {o:BD} {m} {t:TAd} (hr:RC X.K r o) (h:PE X e (tCB r (LA X.K t))):PE X e (LE X.K (dB o m t)):=h.weak fun σ H Q ⟨f,O,ss,S,q⟩ =>
 ⟨f,O,ss,S,t.mono (fun ds q vs H1 e1 r1=>hr f O σ ss H1 ds vs Q (S.ex e1) r1 (m (fun d q v H' e r=>q v H' (e1.trans e) r) q)) q⟩
def RB (X:Cx) (g:Value) (o:BD):Prop:=∃ r,CallR X g r/\RC X.K r o
theorem CallR.or2 {g:Value} {r r':List V->Hp->VK->Prop} (h:CallR X g r) (h':CallR X g r'):CallR X g (fun xs H Q=>r xs H Q\/r' xs H Q):=fun pins s σ H xs us Q I rx q=>q.elim (h pins s σ H xs us Q I rx) (h' pins s σ H xs us Q I rx)
def bLen:BD
 | [.lst l],Q=>Q (.int l.length)
 | [.tup l],Q=>Q (.int l.length)
 | [.str z],Q=>z.length<=sizeLine/\Q (.int z.length)
 | _,_=>False
def bAbs:BD
 | [.int i],Q=>Q (.int (if i<0 then -i else i))
 | _,_=>False
def bAll:BD
 | [.lst l],Q=>∃ bs:List Bool,l=bs.map D.bl/\Q (.bl (bs.all id))
 | _,_=>False
def bSum:BD
 | [.lst l],Q=>∃ ns:List Int,l=ns.map D.int/\Q (.int ns.sum)
 | [.tup l],Q=>∃ ns:List Int,l=ns.map D.int/\Q (.int ns.sum)
 | _,_=>False
def bMax:BD
 | [.int i,.int j],Q=>Q (.int (if j > i then j else i))
 | [.lst l],Q=>∃ ns:List Int,l=ns.map D.int/\ns≠[]/\∀ M,M∈ns->(∀ a∈ns,a<=M)->Q (.int M)
 | _,_=>False
def bInt:BD
 | [.int i],Q=>Q (.int i)
 | [.bl k],Q=>Q (.int (if k then 1 else 0))
 | _,_=>False
def bTuple:BD
 | [.lst l],Q=>Q (.tup l)
 | [.tup l],Q=>Q (.tup l)
 | _,_=>False
end Dp
namespace Dp
open PySem L2
variable {K:PySem.W.Frag} {f:Addr} {O O':List Addr} {H H':Hp} {X:Cx} {σ:St} {ss:SS} {a b c:Expr} {ta tb tc:TEd} {tA tB:TTd} {pos:Pos}
theorem Rps.one {d:D} {vs:List V} (h:Rps K f O H [d] vs):∃ v,vs=[v]/\Rp K f O H d v:=by
 obtain ⟨v,r,e,h1,h2⟩:=h
 cases (show r=[] from h2)
 exact ⟨v,e,h1⟩
theorem Rps.two {d d':D} {vs:List V} (h:Rps K f O H [d,d'] vs):∃ v v',vs=[v,v']/\Rp K f O H d v/\Rp K f O H d' v':=by
 obtain ⟨v,r,e,h1,h2⟩:=h
 obtain ⟨w,e2,h3⟩:=Rps.one h2
 subst e2
 exact ⟨v,w,e,h1,h3⟩
theorem bLen.mono:∀ {ds Q Q'},(∀ d,Q d->Q' d)->bLen ds Q->bLen ds Q':=by
 intro ds Q Q' h
 unfold bLen
 split <;> first | exact h _ | exact fun q=>⟨q.1,h _ q.2⟩ | exact id
theorem bAbs.mono:∀ {ds Q Q'},(∀ d,Q d->Q' d)->bAbs ds Q->bAbs ds Q':=by
 intro ds Q Q' h
 unfold bAbs
 split <;> first | exact h _ | exact id
theorem bAll.mono:∀ {ds Q Q'},(∀ d,Q d->Q' d)->bAll ds Q->bAll ds Q':=by
 intro ds Q Q' h
 unfold bAll
 split <;> first | exact fun ⟨bs,e,q⟩=>⟨bs,e,h _ q⟩ | exact id
theorem bSum.mono:∀ {ds Q Q'},(∀ d,Q d->Q' d)->bSum ds Q->bSum ds Q':=by
 intro ds Q Q' h
 unfold bSum
 split <;> first | exact fun ⟨bs,e,q⟩=>⟨bs,e,h _ q⟩ | exact id
theorem bMax.mono:∀ {ds Q Q'},(∀ d,Q d->Q' d)->bMax ds Q->bMax ds Q':=by
 intro ds Q Q' h
 unfold bMax
 split <;> first | exact h _ | exact fun ⟨bs,e,n,q⟩=>⟨bs,e,n,fun M m l=>h _ (q M m l)⟩ | exact id
theorem bInt.mono:∀ {ds Q Q'},(∀ d,Q d->Q' d)->bInt ds Q->bInt ds Q':=by
 intro ds Q Q' h
 unfold bInt
 split <;> first | exact h _ | exact id
theorem bTuple.mono:∀ {ds Q Q'},(∀ d,Q d->Q' d)->bTuple ds Q->bTuple ds Q':=by
 intro ds Q Q' h
 unfold bTuple
 split <;> first | exact h _ | exact id
theorem rb_len:RB X (.builtin "len") bLen:=by
 refine ⟨_,CallR.or2 (lenS X.K) call_len_str,fun f O σ ss H ds vs Q S r h=>?_⟩
 unfold bLen at h
 split at h
 ·obtain ⟨v,rfl,p,xs,rfl,_,h1,h2⟩:=Rps.one r
  refine .inl ⟨p,xs,rfl,.inl (SqL.of h1),?_⟩
  rw [h2.len]
  exact h _ H (Ex.refl S.fl) rfl
 ·obtain ⟨v,rfl,p,xs,rfl,h1,h2⟩:=Rps.one r
  refine .inl ⟨p,xs,rfl,.inr h1,?_⟩
  rw [h2.len]
  exact h _ H (Ex.refl S.fl) rfl
 ·obtain ⟨v,rfl,e⟩:=Rps.one r
  cases e
  exact .inr ⟨_,rfl,h.1,h.2 _ H (Ex.refl S.fl) rfl⟩
 ·exact h.elim
theorem rb_abs:RB X (.builtin "abs") bAbs:=by
 refine ⟨_,call_abs,fun f O σ ss H ds vs Q S r h=>?_⟩
 unfold bAbs at h
 split at h
 ·obtain ⟨v,rfl,e⟩:=Rps.one r
  cases e
  exact ⟨_,rfl,h _ H (Ex.refl S.fl) rfl⟩
 ·exact h.elim
theorem rb_all (hc:X.calm=true):RB X (.builtin "all") bAll:=by
 refine ⟨_,allS X.K hc,fun f O σ ss H ds vs Q S r h=>?_⟩
 unfold bAll at h
 split at h
 ·obtain ⟨bs,rfl,h⟩:=h
  obtain ⟨v,rfl,p,xs,rfl,_,h1,h2⟩:=Rps.one r
  cases h2.bls
  exact ⟨p,bs,rfl,SqL.of h1,h _ H (Ex.refl S.fl) rfl⟩
 ·exact h.elim
theorem sumT (K:PySem.W.Frag) (hc:X.calm=true:=by rfl) (hK:X.K=K:=by rfl):CallR X (.builtin "sum") (fun xs H Q=>∃ p,∃ ns:List Int,xs=[.ref p]/\SqT K H p (ns.map V.int)/\Q (.int ns.sum) H):=by
 subst hK
 intro pins s σ H xs us Q I rv h
 obtain ⟨p,ns,rfl,hp,q⟩:=h
 obtain ⟨u,rfl,ru⟩:=rv.one
 cases ru
 obtain ⟨its,rv',pl,_⟩:=I.tuple hp
 obtain ⟨ys,e1,e2⟩:=vals_toks rv'
 subst e1
 have hl:s.heap.IsTuple p (intItems ys.toArray):=by
  have:intItems ys.toArray=(ys.map (fun p=>Value.int p.1 p.2)).toArray:=by simp [intItems]
  rw [this]
  exact pl
 refine PySem.W.ktm_sumG (I.ok.hd hc) hl fun h' tk t' hk=>?_
 refine ⟨.int _,H,I.kept (t':=tk) hk,⟨t',rfl⟩,?_⟩
 have:preSum (numAt ys.toArray) ys.toArray.size=ns.sum:=by
  have e:numAt ys.toArray=fun i=>ns.getD i 0:=by
   funext i
   rw [numAt_eq,← e2]
  have l:ys.toArray.size=ns.length:=by rw [← e2];simp
  rw [e,l,preSum_is ns _ (aj _),bD]
 rw [this]
 exact q
theorem rb_sum (hc:X.calm=true):RB X (.builtin "sum") bSum:=by
 refine ⟨_,CallR.or2 (sumS X.K hc) (sumT X.K hc),fun f O σ ss H ds vs Q S r h=>?_⟩
 unfold bSum at h
 split at h
 ·obtain ⟨bs,rfl,h⟩:=h
  obtain ⟨v,rfl,p,xs,rfl,_,h1,h2⟩:=Rps.one r
  cases h2.ints
  exact .inl ⟨p,bs,rfl,SqL.of h1,h _ H (Ex.refl S.fl) rfl⟩
 ·obtain ⟨bs,rfl,h⟩:=h
  obtain ⟨v,rfl,p,xs,rfl,h1,h2⟩:=Rps.one r
  cases h2.ints
  exact .inr ⟨p,bs,rfl,h1,h _ H (Ex.refl S.fl) rfl⟩
 ·exact h.elim
theorem rb_max (hc:X.calm=true):RB X (.builtin "max") bMax:=by
 refine ⟨_,CallR.or2 (call_max2 hc) (maxS X.K hc),fun f O σ ss H ds vs Q S r h=>?_⟩
 unfold bMax at h
 split at h
 ·obtain ⟨v,v',rfl,e1,e2⟩:=Rps.two r
  cases e1
  cases e2
  exact .inl ⟨_,_,rfl,h _ H (Ex.refl S.fl) rfl⟩
 ·obtain ⟨bs,rfl,n,h⟩:=h
  obtain ⟨v,rfl,p,xs,rfl,_,h1,h2⟩:=Rps.one r
  cases h2.ints
  exact .inr ⟨p,bs,rfl,SqL.of h1,n,fun M m l=>h M m l _ H (Ex.refl S.fl) rfl⟩
 ·exact h.elim
theorem rb_int:RB X (.type "int") bInt:=by
 refine ⟨_,call_int1,fun f O σ ss H ds vs Q S r h=>?_⟩
 unfold bInt at h
 split at h
 ·obtain ⟨v,rfl,e⟩:=Rps.one r
  cases e
  exact .inl ⟨_,rfl,h _ H (Ex.refl S.fl) rfl⟩
 ·obtain ⟨v,rfl,e⟩:=Rps.one r
  cases e
  exact .inr ⟨_,rfl,h _ H (Ex.refl S.fl) rfl⟩
 ·exact h.elim
theorem rb_tuple:RB X (.type "tuple") bTuple:=by
 refine ⟨_,tupleOf X.K,fun f O σ ss H ds vs Q S r h=>?_⟩
 unfold bTuple at h
 split at h
 ·obtain ⟨v,rfl,p,xs,rfl,_,h1,h2⟩:=Rps.one r
  exact ⟨p,xs,rfl,.inl ⟨SqL.of h1,fun l hl=>h _ _ (S.new hl _) (S.tup hl h2)⟩⟩
 ·obtain ⟨v,rfl,p,xs,rfl,h1,h2⟩:=Rps.one r
  exact ⟨p,xs,rfl,.inr ⟨h1,h _ H (Ex.refl S.fl) ⟨p,xs,rfl,h1,h2⟩⟩⟩
 ·exact h.elim
def keyD:Key->D
 | .inl i=>.int i
 | .inr x=>.str x
def kvD (kv:Key×D):D:=.tup [keyD kv.1,kv.2]
def bDict:BD
 | [.lst l],Q=>∃ kvs:List (Key×D),l=kvs.map kvD/\(kvs.map (·.1)).Nodup/\Q (.dct (kvs.map (·.1)) (kvs.map (·.2)))
 | _,_=>False
theorem bDict.mono:∀ {ds Q Q'},(∀ d,Q d->Q' d)->bDict ds Q->bDict ds Q':=by
 intro ds Q Q' h q
 unfold bDict at q ⊢
 split at q
 ·obtain ⟨kvs,a,b,q⟩:=q
  exact ⟨kvs,a,b,h _ q⟩
 ·exact q
theorem rps_kvD:∀ {kvs:List (Key×D)} {zs:List V},Rps K f O H (kvs.map kvD) zs->∃ us:List V,us.length=kvs.length/\Rps K f O H (kvs.map (·.2)) us/\∀ (j:Nat) (kv:Key×V),((kvs.map (·.1)).zip us)[j]? = some kv->∃ p,zs[j]? = some (.ref p)/\SqT K H p [kV kv.1,kv.2]
 | [],_,h=>⟨[],rfl,.nil,fun j kv hj=>by cases hj⟩
 | kv::kvs,_,h=>by
  obtain ⟨v,r,rfl,⟨a,xs,rfl,h1,h2⟩,h3⟩:=h
  obtain ⟨v1,r1,rfl,k1,v2,r2,rfl,k2,rfl⟩:=h2
  obtain ⟨us,l,r,hj⟩:=rps_kvD h3
  refine ⟨v2::us,by rw [aQ,aQ,l],.cons k2 r,fun j kv' e=>?_⟩
  cases j with
  | zero =>
   cases e
   refine ⟨a,rfl,?_⟩
   obtain ⟨k,d⟩:=kv
   cases k with
   | inl i=>cases (show v1 = .int i from k1);exact h1
   | inr x=>cases (show v1 = .str x from k1);exact h1
  | succ j=>exact hj j kv' e
theorem bt_dict:bootBuiltins "dict" = some (.type "dict"):=by decide +kernel
theorem rb_dict (hc:X.calm=true):RB X (.type "dict") bDict:=by
 refine ⟨_,call_dict X.K hc,fun f O σ ss H ds vs Q S r h=>?_⟩
 unfold bDict at h
 split at h
 ·obtain ⟨kvs,rfl,nd,h⟩:=h
  obtain ⟨v,rfl,r1⟩:=Rps.one r
  obtain ⟨p,zs,rfl,_,h1,h2⟩:=r1
  have lz:=h2.len
  rw [ab] at lz
  obtain ⟨us,lu,ru,hj⟩:=rps_kvD h2
  have lk:((kvs.map (·.1)).zip us).length=kvs.length:=by rw [List.length_zip,ab];omega
  refine ⟨p,zs,(kvs.map (·.1)).zip us,rfl,h1,by omega,?_,hj,fun d hd=>?_⟩
  ·rw [List.map_fst_zip (by rw [ab];omega)]
   exact nd
  ·have e:=S.new hd (.dK ((kvs.map (·.1)).zip us))
   exact h _ _ e ⟨d,us,rfl,upd_same,by rw [ab];omega,S.ups e ru⟩
 ·exact h.elim
structure BB where
 run:BD
 mono:∀ {ds Q Q'},(∀ d,Q d->Q' d)->run ds Q->run ds Q'
def kr (i:Nat):TEd:=⟨fun ss Q=>match ss[i]? with | some (.val d)=>bLen [d] Q | some (.own l)=>Q (.int l.length) | _=>False,fun {ss Q Q'} h q=>by
 revert q
 split
 ·exact bLen.mono h
 ·exact h _
 ·exact id⟩
theorem kr.ok {i:Nat} {p:Pos} (hg:Gl X "len") (hm:X.mg "len" = none) (ha:PE X a (tVar i)) (hs:starEach [a] X.env=[(false,eval a X.env)]):PE X (.Call (.Name "len" p) [a] [] pos) (LE X.K (kr i)):=by
 obtain ⟨r,h1,h2⟩:=rb_len (X:=X)
 refine (pe_callB (p:=p) (pos:=pos) (CallR.or2 h1 (lenS X.K)) hg hm bt_len (pa_cons ha pa_nil hs) (by decide) (by decide) hs rfl).weak fun σ H Q ⟨f,O,ss,S,q⟩=>?_
 have q:(match ss[i]? with | some (.val d)=>bLen [d] (fun d=>∀ v H',Ex f H H'->Rp X.K f O H' d v->Q v H') | some (.own l)=>(∀ v H',Ex f H H'->Rp X.K f O H' (.int l.length) v->Q v H') | _=>False):=q
 split at q
 ·rename_i d e
  obtain ⟨v,w1,w2⟩:=S.val i d e
  exact ⟨v,w1,.inl (h2 f O σ ss H [d] [v] Q S ⟨v,[],rfl,w2,rfl⟩ q)⟩
 ·rename_i l e
  obtain ⟨p0,xs,w1,w2,w3,w4,w5⟩:=S.own i l e
  refine ⟨_,w1,.inr ⟨p0,xs,rfl,.inl (SqL.of w4),?_⟩⟩
  rw [w5.len]
  exact q _ H (Ex.refl S.fl) rfl
 ·exact q.elim
structure SpB where
 n:Nat
 run:SpD
 mono:∀ {ds Q Q'},(∀ d,Q d->Q' d)->run ds Q->run ds Q'
def SpB.of (n:Nat) {α:Type} (pre:α->List D->Prop) (post:α->D->Prop):SpB:=⟨n,fun ds Q=>∃ x,pre x ds/\∀ d,post x d->Q d,fun h ⟨x,p,q⟩=>⟨x,p,fun d r=>h _ (q d r)⟩⟩
def gS (s:SpB) (t:TAd):TEd:=⟨fun ss Q=>t.run ss fun ds=>ds.length=s.n/\s.run ds Q,fun h q=>t.mono (fun ds q=>⟨q.1,s.mono h q.2⟩) q⟩
theorem gS.ok {e:Expr} {s:SpB} {t:TAd} (h:PE X e (tCall (LSp X.K s.n s.run) [] E0 (LA X.K t))):PE X e (LE X.K (gS s t)):=h.weak fun σ H Q ⟨f,O,ss,S,q⟩ =>
 ⟨f,O,ss,S,t.mono (fun ds q vs H1 e1 r1=>by
  have S1:=S.ex e1
  refine ⟨by rw [b9,r1.len];exact q.1,f,O,ds,S1.fl,S1.fO,S1.al,S1.lO,by rw [b9];exact r1,?_⟩
  exact s.mono (fun d q v H' e r=>q v H' (e1.trans e) r) q.2) q⟩
end Dp
namespace Dp
open PySem L2
variable {K:PySem.W.Frag} {f:Addr} {O O':List Addr} {H H':Hp} {X:Cx} {σ:St} {ss:SS} {a b c:Expr} {ta tb tc:TEd} {tA tB:TTd} {pos:Pos}
mutual
theorem Rp.moved (e:∀ a∈O',a∈O\/H a=none) (k:Kp O H H') (hO:∀ b∈O,∃ xs,H b=some (.lst xs)):∀ {d:D} {v:V},Rp K f O H d v->Rp K f O' H' d v
 | .non,_,h=>h
 | .bl _,_,h=>h
 | .int _,_,h=>h
 | .str _,_,h=>h
 | .fl,_,h=>h
 | .tup l,v,h=>by
  obtain ⟨a,xs,e1,h1,h2⟩:=h
  exact ⟨a,xs,e1,h1.kp k hO,Rps.moved e k hO h2⟩
 | .lst l,v,h=>by
  obtain ⟨a,xs,e1,n,h1,h2⟩:=h
  refine ⟨a,xs,e1,fun z=>?_,k a _ n h1,Rps.moved e k hO h2⟩
  rcases e a z with q | q
  ·exact n q
  ·rw [h1] at q
   cases q
 | .exn C x l,v,h=>by
  obtain ⟨a,us,e1,h1,h2⟩:=h
  exact ⟨a,us,e1,h1.kp k hO,Rps.moved e k hO h2⟩
 | .dct ks l,v,h=>by
  obtain ⟨a,us,e1,h1,h2,h3⟩:=h
  exact ⟨a,us,e1,k a _ (fun z=>by obtain ⟨xs,q⟩:=hO a z;rw [q] at h1;cases h1) h1,h2,Rps.moved e k hO h3⟩
theorem Rps.moved (e:∀ a∈O',a∈O\/H a=none) (k:Kp O H H') (hO:∀ b∈O,∃ xs,H b=some (.lst xs)):∀ {ds:List D} {vs:List V},Rps K f O H ds vs->Rps K f O' H' ds vs
 | [],_,h=>h
 | d::ds,_,h=>by
  obtain ⟨v,r,e1,h1,h2⟩:=h
  exact ⟨v,r,e1,Rp.moved e k hO h1,Rps.moved e k hO h2⟩
end
structure ItD (K:PySem.W.Frag) (f:Addr) (O:List Addr) (J:It) (H1:Hp) (ds:List D):Prop where
 go:∀ H' i,Kp O H1 H'->i<ds.length->J.go i H'
 yld:∀ O' H' i x H'',(∀ a∈O',a∈O\/H1 a=none)->f∈O'->(∀ a∈O',∃ xs,H' a=some (.lst xs))->Kp O H1 H'->Fl H' f->i<ds.length->J.yld i H' x H''->∃ d,ds[i]? = some d/\Ex f H' H''/\Rp K f O' H'' d x
 stop:∀ H',Kp O H1 H'->J.stop ds.length H'
def LI (K:PySem.W.Frag) (t:TAd):TI:=fun σ H R=>∃ f O ss,SlD K f O σ H ss/\t.run ss fun ds=>∀ J H1,Ex f H H1->ItD K f O J H1 ds->R J H1
theorem _root_.L2.PI.weak {tg e:Expr} {t t':TI} (h:PI X tg e t) (w:∀ σ H Q,t' σ H Q->t σ H Q):PI X tg e t':=fun pins s σ H Q I q=>h pins s σ H Q I (w σ H Q q)
def itemsD:D->(List D->Prop)->Prop
 | .lst l,Q=>Q l
 | .tup l,Q=>Q l
 | _,_=>False
theorem itemsD.mono {d:D} {Q Q':List D->Prop} (h:∀ d,Q d->Q' d):itemsD d Q->itemsD d Q':=by
 cases d <;> first | exact h _ | exact id
def il (t:TEd):TAd:=⟨fun ss Q=>t.run ss fun d=>itemsD d Q,fun h q=>t.mono (fun d q=>itemsD.mono h q) q⟩
theorem il.ok {tg:Expr} (h:PE X a (LE X.K ta)):PI X tg a (LI X.K (il ta)):=(piS X.K h).weak fun σ H R ⟨f,O,ss,S,q⟩=>⟨f,O,ss,S,ta.mono (fun d q v H1 e r=>by
 have S1:=S.ex e
 cases d <;> first | exact False.elim q | skip
 ·rename_i l
  obtain ⟨p,xs,rfl,h1,h2⟩:=r
  refine ⟨p,rfl,.inr ⟨⟨xs,h1⟩,q _ H1 e ⟨fun H' i k hi=>?_,fun O' H' i x H'' hO hf al k F hi y=>?_,fun H' k=>?_⟩⟩⟩
  ·obtain ⟨v,hv,_⟩:=h2.get (show l[i]? = some l[i] by simp [hi])
   exact ⟨xs,v,h1.kp k S1.al,hv⟩
  ·obtain ⟨rfl,y⟩:=y
   obtain ⟨v,hv,r⟩:=h2.get (show l[i]? = some l[i] by simp [hi])
   have:=y xs (h1.kp k S1.al)
   rw [hv] at this
   cases this
   exact ⟨l[i],by simp [hi],Ex.refl F,r.moved hO k S1.al⟩
  ·exact ⟨xs,h1.kp k S1.al,by rw [h2.len];exact aj _⟩
 ·rename_i l
  obtain ⟨p,xs,rfl,n,h1,h2⟩:=r
  refine ⟨p,rfl,.inl ⟨⟨xs,SqL.of h1⟩,q _ H1 e ⟨fun H' i k hi=>?_,fun O' H' i x H'' hO hf al k F hi y=>?_,fun H' k=>?_⟩⟩⟩
  ·obtain ⟨v,hv,_⟩:=h2.get (show l[i]? = some l[i] by simp [hi])
   exact ⟨xs,v,SqL.of (k p _ n h1),hv⟩
  ·obtain ⟨rfl,y⟩:=y
   obtain ⟨v,hv,r⟩:=h2.get (show l[i]? = some l[i] by simp [hi])
   have:=y xs (SqL.of (k p _ n h1))
   rw [hv] at this
   cases this
   exact ⟨l[i],by simp [hi],Ex.refl F,r.moved hO k S1.al⟩
  ·exact ⟨xs,SqL.of (k p _ n h1),by rw [h2.len];exact aj _⟩) q⟩
def upTo (lo:Int) (n:Nat):List D:=(List.range n).map fun i=>.int (lo+(i:Nat))
theorem upTo_len {lo:Int} {n:Nat}:(upTo lo n).length=n:=by simp [upTo]
theorem upTo_get {lo:Int} {n i:Nat} (h:i<n):(upTo lo n)[i]? = some (.int (lo+(i:Nat))):=by simp [upTo,h]
theorem upTo_got {lo:Int} {n i:Nat} {d:D} (h:(upTo lo n)[i]? = some d):i<n/\d = .int (lo+(i:Nat)):=by
 have:=(ak.mp h).1
 rw [upTo_len] at this
 rw [upTo_get this] at h
 exact ⟨this,(Option.some.inj h).symm⟩
theorem itd_rng {lo:Int} {n:Nat} {H1:Hp}:ItD K f O (Itr lo n) H1 (upTo lo n):=by
 refine ⟨fun H' i k hi=>?_,fun O' H' i x H'' hO hf al k F hi y=>?_,fun H' k=>?_⟩
 ·rw [upTo_len] at hi
  exact hi
 ·obtain ⟨rfl,rfl⟩:=y
  rw [upTo_len] at hi
  exact ⟨_,upTo_get hi,Ex.refl F,rfl⟩
 ·rw [upTo_len]
  exact aj _
def rngD:D->(List D->Prop)->Prop
 | .int j,Q => -(2^62)<=j/\j<2^62/\Q (upTo 0 j.toNat)
 | _,_=>False
theorem rngD.mono {d:D} {Q Q':List D->Prop} (h:∀ d,Q d->Q' d):rngD d Q->rngD d Q':=by
 cases d <;> first | exact fun q=>⟨q.1,q.2.1,h _ q.2.2⟩ | exact id
def rngD2:D->D->(List D->Prop)->Prop
 | .int i,.int j,Q=>(-(2^62)<=i/\i<2^62 /\ -(2^62)<=j/\j<2^62)/\Q (upTo i (j-i).toNat)
 | _,_,_=>False
theorem rngD2.mono {d d':D} {Q Q':List D->Prop} (h:∀ d,Q d->Q' d):rngD2 d d' Q->rngD2 d d' Q':=by
 cases d <;> cases d' <;> first | exact fun q=>⟨q.1,h _ q.2⟩ | exact id
def jC (t:TEd):TAd:=⟨fun ss Q=>t.run ss fun d=>rngD d Q,fun h q=>t.mono (fun d q=>rngD.mono h q) q⟩
def jA (t u:TEd):TAd:=⟨fun ss Q=>t.run ss fun d=>u.run ss fun d'=>rngD2 d d' Q,fun h q=>t.mono (fun d q=>u.mono (fun d' q=>rngD2.mono h q) q) q⟩
theorem jC.ok {tg:Expr} {p:Pos} (hg:Gl X "range") (hm:X.mg "range" = none) (ha:PE X a (LE X.K ta)) (hs:starEach [a] X.env=[(false,eval a X.env)]):PI X tg (.Call (.Name "range" p) [a] [] pos) (LI X.K (jC ta)) :=
 (pi_range1 (p:=p) (pos:=pos) hg hm (pa_cons ha pa_nil hs) hs).weak fun σ H R ⟨f,O,ss,S,q⟩=>⟨f,O,ss,S,ta.mono (fun d q v H1 e r=>by
  cases d <;> first | exact False.elim q | skip
  cases (show v=_ from r)
  exact ⟨_,rfl,q.1,q.2.1,q.2.2 _ H1 e itd_rng⟩) q⟩
theorem jA.ok {tg:Expr} {p:Pos} (hg:Gl X "range") (hm:X.mg "range" = none) (ha:PE X a (LE X.K ta)) (hb:PE X b (LE X.K tb)) (hs:starEach [a,b] X.env=[(false,eval a X.env),(false,eval b X.env)]) (hs2:starEach [b] X.env=[(false,eval b X.env)]):PI X tg (.Call (.Name "range" p) [a,b] [] pos) (LI X.K (jA ta tb)) :=
 (pi_range2 (p:=p) (pos:=pos) hg hm (pa_cons ha (pa_cons hb pa_nil hs2) (by rw [hs,hs2])) hs hs2).weak fun σ H R ⟨f,O,ss,S,q⟩=>⟨f,O,ss,S,ta.mono (fun d q v H1 e r=>⟨f,O,ss,S.ex e,tb.mono (fun d' q v' H2 e2 r'=>by
  cases d <;> cases d' <;> first | exact False.elim q | skip
  cases (show v=_ from r)
  cases (show v'=_ from r')
  exact ⟨_,_,rfl,q.1,q.2 _ H2 (e.trans e2) itd_rng⟩) q⟩) q⟩
def Sub (σ:St) (ss:SS) (σ':St) (ss':SS):Prop:=∀ (i:Nat) (l:List D),ss'[i]? = some (SD.own l)->ss[i]? = some (SD.own l)/\σ'[i]? = σ[i]?
theorem Sub.refl:Sub σ ss σ ss:=fun _ _ h=>⟨h,rfl⟩
theorem Sub.trans {σ1 σ2:St} {s1 s2:SS} (h:Sub σ ss σ1 s1) (k:Sub σ1 s1 σ2 s2):Sub σ ss σ2 s2:=fun i l q=>by
 obtain ⟨q1,e1⟩:=k i l q
 obtain ⟨q2,e2⟩:=h i l q1
 exact ⟨q2,e1.trans e2⟩
def Agr (T:List Nat) (σ σ':St):Prop:=σ'.length=σ.length/\∀ j,j ∉ T->σ'[j]? = σ[j]?
theorem Agr.refl {T:List Nat}:Agr T σ σ:=⟨rfl,fun _ _=>rfl⟩
theorem Agr.set {T:List Nat} {i:Nat} {v:Option V} (h:i∈T):Agr T σ (σ.set i v):=⟨aX,fun j n=>aD (by rintro rfl;exact n h)⟩
theorem Agr.trans {T:List Nat} {σ1 σ2:St} (a:Agr T σ σ1) (b:Agr T σ1 σ2):Agr T σ σ2:=⟨b.1.trans a.1,fun j n=>(b.2 j n).trans (a.2 j n)⟩
def LG (K:PySem.W.Frag) (t:TGd):TG:=fun v σ H Q=>∃ f O ss d,SlD K f O σ H ss/\Rp K f O H d v/\t.run d ss fun ss'=>∀ σ' H',Ex f H H'->SlD K f O σ' H' ss'->Sub σ ss σ' ss'->Agr t.tg σ σ'->Q σ' H'
theorem SlD.set (S:SlD K f O σ H ss) {i:Nat} {d:D} {v:V} (r:Rp K f O H d v):SlD K f O (σ.set i (some v)) H (ss.set i (.val d)) where
 fl:=S.fl
 fO:=S.fO
 al:=S.al
 lO:=S.lO
 len:=by rw [aX,aX,S.len]
 val:=fun j d' h=>by
  by_cases z:i=j
  ·subst z
   rw [aK] at h
   rw [if_pos rfl] at h
   split at h
   ·cases h
    rename_i l
    exact ⟨v,by rw [aK,if_pos rfl,if_pos (by rw [← S.len];exact l)],r⟩
   ·cases h
  ·rw [aD z] at h ⊢
   exact S.val j d' h
 own:=fun j l h=>by
  by_cases z:i=j
  ·subst z
   rw [aK] at h
   rw [if_pos rfl] at h
   split at h <;> cases h
  ·rw [aD z] at h ⊢
   exact S.own j l h
theorem Sub.set {i:Nat} {d:D} {v:Option V}:Sub σ ss (σ.set i v) (ss.set i (.val d)):=fun j l h=>by
 by_cases z:i=j
 ·subst z
  rw [aK] at h
  rw [if_pos rfl] at h
  split at h <;> cases h
 ·rw [aD z] at h ⊢
  exact ⟨h,rfl⟩
def gNm (i:Nat):TGd:=⟨[i],fun d ss Q=>Q (ss.set i (.val d)),fun h q=>h _ q⟩
theorem _root_.L2.PG.weak {e:Expr} {t t':TG} (h:PG X e t) (w:∀ v σ H Q,t' v σ H Q->t v σ H Q):PG X e t':=fun pins s σ H v u Q I r q=>h pins s σ H v u Q I r (w _ σ H Q q)
end Dp
namespace Dp
open PySem L2
variable {K:PySem.W.Frag} {f:Addr} {O O':List Addr} {H H':Hp} {X:Cx} {σ:St} {ss:SS} {a b c:Expr} {ta tb tc:TEd} {tA tB:TTd} {pos:Pos}
theorem gNm.ok {i:Nat} {e:Expr} (h:PG X e (gName i)):PG X e (LG X.K (gNm i)):=h.weak fun v σ H Q ⟨f,O,ss,d,S,r,q⟩=>q _ H (Ex.refl S.fl) (S.set r) Sub.set (Agr.set ay)
def setAll (ss:SS):List Nat->List D->SS
 | i::is,d::ds=>setAll (ss.set i (.val d)) is ds
 | _,_=>ss
def gsAll:List Nat->TGs
 | []=>gNil
 | i::is=>gCons (gName i) (gsAll is)
def setAllV (σ:St):List Nat->List V->St
 | i::is,v::vs=>setAllV (σ.set i (some v)) is vs
 | _,_=>σ
theorem gsAll.run {Q:St->Hp->Prop}:∀ {is:List Nat} {vs:List V} {σ:St},vs.length=is.length->Q (setAllV σ is vs) H->gsAll is vs σ H Q
 | [],[],σ,_,q=>⟨rfl,q⟩
 | [],_::_,_,l,_=>by cases l
 | _::_,[],_,l,_=>by cases l
 | i::is,v::vs,σ,l,q=>⟨v,vs,rfl,gsAll.run (by simpa using l) q⟩
theorem SlD.all:∀ {is:List Nat} {vs:List V} {ds:List D} {σ:St} {ss:SS},SlD K f O σ H ss->Rps K f O H ds vs->SlD K f O (setAllV σ is vs) H (setAll ss is ds)
 | [],_,_,_,_,S,_=>S
 | i::is,[],[],_,_,S,_=>S
 | i::is,vs,[],_,_,S,r=>by cases (show vs=[] from r);exact S
 | i::is,vs,d::ds,σ,ss,S,r=>by
  obtain ⟨v,r',e,h1,h2⟩:=r
  subst e
  show SlD K f O (setAllV (σ.set i (some v)) is r') H (setAll (ss.set i (.val d)) is ds)
  exact SlD.all (S.set h1) h2
theorem Sub.all:∀ {is:List Nat} {vs:List V} {ds:List D} {σ:St} {ss:SS},vs.length=ds.length->Sub σ ss (setAllV σ is vs) (setAll ss is ds)
 | [],_,_,_,_,_=>Sub.refl
 | i::is,[],[],_,_,_=>Sub.refl
 | i::is,_::_,[],_,_,l=>by cases l
 | i::is,[],_::_,_,_,l=>by cases l
 | i::is,v::vs,d::ds,σ,ss,l=>Sub.trans Sub.set (Sub.all (by simpa using l))
theorem Agr.all:∀ {is T:List Nat} {vs:List V} {σ:St},(∀ i∈is,i∈T)->Agr T σ (setAllV σ is vs)
 | [],_,_,_,_=>Agr.refl
 | _::_,_,[],_,_=>Agr.refl
 | i::is,T,v::vs,σ,h=>Agr.trans (Agr.set (h i ay)) (Agr.all fun j hj=>h j (au _ hj))
def gTp (is:List Nat):TGd:=⟨is,fun d ss Q=>match d with | .tup l=>l.length=is.length/\Q (setAll ss is l) | _=>False,fun {d ss Q Q'} h q=>by
 revert q
 cases d <;> first | exact id | exact fun q=>⟨q.1,h _ q.2⟩⟩
theorem gTp.ok {is:List Nat} {e:Expr} (h:PG X e (gTup X.K is.length (gsAll is))):PG X e (LG X.K (gTp is)):=h.weak fun v σ H Q ⟨f,O,ss,d,S,r,q⟩=>by
 cases d <;> first | exact False.elim q | skip
 rename_i l
 obtain ⟨p,xs,rfl,h1,h2⟩:=r
 exact ⟨p,xs,rfl,h1,h2.len.trans q.1,gsAll.run (h2.len.trans q.1) (q.2 _ H (Ex.refl S.fl) (S.all h2) (Sub.all h2.len) (Agr.all fun _ h=>h))⟩
def enumD (l:List D):List D:=(List.range l.length).map fun i=>.tup [.int ((i:Nat):Int),l.getD i .non]
theorem enumD_len {l:List D}:(enumD l).length=l.length:=by simp [enumD]
theorem enumD_get {l:List D} {i:Nat} (h:i<l.length):(enumD l)[i]? = some (.tup [.int ((i:Nat):Int),l.getD i .non]):=by simp [enumD,h]
theorem enumD_got {l:List D} {i:Nat} {d:D} (h:(enumD l)[i]? = some d):∃ x,l[i]? = some x/\d = .tup [.int ((i:Nat):Int),x]:=by
 have hi:=(ak.mp h).1
 rw [enumD_len] at hi
 rw [enumD_get hi] at h
 refine ⟨l[i],by simp [hi],(Option.some.inj h).symm.trans ?_⟩
 rw [ac,aq hi]
 rfl
def iF (t:TEd):TAd:=⟨fun ss Q=>t.run ss fun d=>itemsD d fun l=>Q (enumD l),fun h q=>t.mono (fun d q=>itemsD.mono (fun l q=>h _ q) q) q⟩
def ku (t:TEd):TAd:=⟨fun ss Q=>t.run ss fun d=>itemsD d fun l=>Q l.reverse,fun h q=>t.mono (fun d q=>itemsD.mono (fun l q=>h _ q) q) q⟩
def hideD (hide:List Nat) (ss:SS):SS:=hide.foldl (fun s i=>s.set i .no) ss
theorem SlD.blank (S:SlD K f O σ H ss) {i:Nat} {o:Option V}:SlD K f O (σ.set i o) H (ss.set i .no) where
 fl:=S.fl
 fO:=S.fO
 al:=S.al
 lO:=S.lO
 len:=by rw [aX,aX,S.len]
 val:=fun j d' h=>by
  by_cases z:i=j
  ·subst z
   rw [aK] at h
   rw [if_pos rfl] at h
   split at h <;> cases h
  ·rw [aD z] at h ⊢
   exact S.val j d' h
 own:=fun j l h=>by
  by_cases z:i=j
  ·subst z
   rw [aK] at h
   rw [if_pos rfl] at h
   split at h <;> cases h
  ·rw [aD z] at h ⊢
   exact S.own j l h
theorem SlD.hide:∀ {hide:List Nat} {σ:St} {ss:SS},SlD K f O σ H ss->SlD K f O (hideS hide σ) H (hideD hide ss)
 | [],_,_,S=>S
 | i::r,σ,ss,S=>SlD.hide (hide:=r) (S.blank (i:=i) (o:=none))
theorem hideD_no:∀ {hide:List Nat} {ss:SS} {i:Nat},(i∈hide\/ss[i]? = some SD.no\/ss[i]? = none)->(hideD hide ss)[i]? = some SD.no\/(hideD hide ss)[i]? = none
 | [],ss,i,h=>by
  rcases h with h | h
  ·cases h
  ·exact h
 | j::r,ss,i,h=>by
  refine hideD_no (hide:=r) (ss:=ss.set j .no) ?_
  by_cases z:j=i
  ·subst z
   right
   rw [aK,if_pos rfl]
   split
   ·exact .inl rfl
   ·exact .inr rfl
  ·rw [aD z]
   rcases h with h | h
   ·rcases ar.mp h with q | q
    ·exact absurd q.symm z
    ·exact .inl q
   ·exact .inr h
theorem SlD.agr {T:List Nat} {σ':St} (S:SlD K f O σ H ss) (h:Agr T σ σ') (hT:∀ i∈T,ss[i]? = some SD.no\/ss[i]? = none):SlD K f O σ' H ss where
 fl:=S.fl
 fO:=S.fO
 al:=S.al
 lO:=S.lO
 len:=S.len.trans h.1.symm
 val:=fun j d q=>by
  rw [h.2 j fun z=>?_]
  ·exact S.val j d q
  ·rcases hT j z with w | w <;> rw [w] at q <;> cases q
 own:=fun j d q=>by
  rw [h.2 j fun z=>?_]
  ·exact S.own j d q
  ·rcases hT j z with w | w <;> rw [w] at q <;> cases q
def iG:TTd:=⟨fun _ Q=>Q true,fun h q=>h _ q⟩
def compD (ds:List D) (s0:SS) (g:TGd) (c:TTd) (e:TEd) (Q:D->Prop):Prop:=ds.length<=sizeLine/\∃ I:Nat->List D->Prop,I 0 [] /\
 (∀ i d ys,ds[i]? = some d->ys.length<=i->I i ys->g.run d s0 fun s1=>c.run s1 fun k=>if k=true then e.run s1 fun y=>I (i+1) (ys++[y]) else I (i+1) ys)/\∀ ys,ys.length<=ds.length->I ds.length ys->Q (.lst ys)
theorem compD.mono {ds:List D} {s0:SS} {g:TGd} {c:TTd} {e:TEd} {Q Q':D->Prop} (h:∀ d,Q d->Q' d):compD ds s0 g c e Q->compD ds s0 g c e Q':=fun ⟨l,I,q0,q1,q2⟩=>⟨l,I,q0,q1,fun ys l i=>h _ (q2 ys l i)⟩
def ia (it:TAd) (hide:List Nat) (g:TGd) (c:TTd) (e:TEd):TEd:=⟨fun ss Q=>it.run ss fun ds=>compD ds (hideD hide ss) g c e Q,fun h q=>it.mono (fun ds q=>compD.mono h q) q⟩
theorem compD.ok {J:It} {ds:List D} {hide:List Nat} {g:TGd} {c:TTd} {e:TEd} {Q:VK} {H1:Hp} (S:SlD K f O σ H1 ss) (hg:∀ i∈g.tg,i∈hide) (D0:ItD K f O J H1 ds) (h:compD ds (hideD hide ss) g c e fun d=>∀ v H',Ex f H1 H'->Rp K f O H' d v->Q v H') :
  CompR J (LG K g) (LT K c) (LE K e) (hideS hide σ) Q H1:=by
 obtain ⟨hl,I,q0,q1,q2⟩:=h
 refine ⟨fun k m τ ys H=>∃ yd,SlD K f O τ H (hideD hide ss)/\Rps K f O H yd ys/\yd.length<=k/\I k yd/\m=ds.length-k/\k<=ds.length/\Ex f H1 H,⟨_,[],S.hide,rfl,aj _,q0,rfl,aC _,Ex.refl S.fl⟩,?_⟩
 rintro k m τ ys H ⟨yd,S1,r1,l1,i1,rfl,k1,e1⟩
 have kp:=e1.kp S.fO
 rcases am k ds.length with hk | hk
 ·refine .inr ⟨D0.go H k kp hk,by rw [r1.len];omega,fun x H' y=>?_⟩
  obtain ⟨d,ed,e2,rd⟩:=D0.yld O H k x H' (fun a z=>.inl z) S.fO S1.al kp S1.fl hk y
  have S2:=S1.ex e2
  refine ⟨f,O,_,d,S2,rd,g.mono (fun s1 q τ2 H2 e3 S3 _ ag=>?_) (q1 k d yd ed l1 i1)⟩
  have S3':SlD K f O τ2 H2 (hideD hide ss):=(S2.ex e3).agr ag fun i hi=>hideD_no (.inl (hg i hi))
  refine ⟨f,O,s1,S3,c.mono (fun b q H3 e4=>?_) q⟩
  cases b with
  | true =>
   refine ⟨f,O,s1,S3.ex e4,e.mono (fun dy q v H4 e5 rv=>?_) q⟩
   have e14:=e2.trans (e3.trans (e4.trans e5))
   exact ⟨ds.length-(k+1),by omega,yd++[dy],(S3'.ex e4).ex e5,(S1.ups e14 r1).append ⟨v,[],rfl,rv,rfl⟩,by rw [av];simp;omega,q,rfl,hk,e1.trans e14⟩
  | false =>
   have e14:=e2.trans (e3.trans e4)
   exact ⟨ds.length-(k+1),by omega,yd,S3'.ex e4,S1.ups e14 r1,by omega,q,rfl,hk,e1.trans e14⟩
 ·have ek:k=ds.length:=by omega
  subst ek
  exact .inl ⟨D0.stop H kp,fun p hp=>q2 yd l1 i1 _ _ (e1.trans (S1.new hp _)) (S1.lst hp r1)⟩
theorem ia.ok {scope:Scope} {hide:List Nat} {it:TAd} {g:TGd} {c:TTd} {e:TEd} {tg iter elt:Expr} {ifs:List Expr} (hc:X.calm=true) (Sc:CompS X.N X.env.scope scope hide) (hi:PI X tg iter (LI X.K it))
  (hg:∀ s2 H2 fp pins C,PG (cCx X scope s2 H2 fp pins C) tg (LG X.K g)) (ht:∀ s2 H2 fp pins C,PTs (cCx X scope s2 H2 fp pins C) ifs (LT X.K c)) (he:∀ s2 H2 fp pins C,PE (cCx X scope s2 H2 fp pins C) elt (LE X.K e))
  (hs:∀ x,foldedSetIterable iter X.env x=pure x) (hh:∀ i∈g.tg,i∈hide):PE X (.ListComp elt [⟨tg,iter,ifs,0⟩] scope pos) (LE X.K (ia it hide g c e)) :=
 (pe_comp (pos:=pos) hc Sc hi hg ht he hs).weak fun σ H Q ⟨f,O,ss,S,q⟩=>⟨f,O,ss,S,it.mono (fun ds q J H1 e1 D0=>compD.ok (S.ex e1) hh D0 (compD.mono (fun d q v H' e r=>q v H' (e1.trans e) r) q)) q⟩
end Dp
namespace Dp
open PySem L2
variable {K:PySem.W.Frag} {f:Addr} {O O':List Addr} {H H':Hp} {X:Cx} {σ:St} {ss:SS} {a b:Expr} {ta tb tc:TEd} {tA tB:TTd} {pos:Pos}
theorem iF.ok {es:List Expr} {kk:Nat} {ps p:Pos} (hg:Gl X "enumerate") (hm:X.mg "enumerate" = none) (ha:PE X a (LE X.K ta)) (hs:starEach [a] X.env=[(false,eval a X.env)]):PI X (.Tuple es kk ps) (.Call (.Name "enumerate" p) [a] [] pos) (LI X.K (iF ta)) :=
 (pi_enum (p:=p) (pos:=pos) X.K hg hm (pa_cons ha pa_nil hs) rfl hs).weak fun σ H R ⟨f,O,ss,S,q⟩=>⟨f,O,ss,S,ta.mono (fun d q v H1 e r=>by
  have S1:=S.ex e
  cases d <;> first | exact False.elim q | skip
  ·rename_i l
   obtain ⟨p,xs,rfl,h1,h2⟩:=r
   refine ⟨p,rfl,.inr ⟨⟨xs,h1⟩,q _ H1 e ⟨fun H' i k hi=>?_,fun O' H' i x H'' hO hf al k F hi y=>?_,fun H' k=>?_⟩⟩⟩
   ·rw [enumD_len] at hi
    obtain ⟨v,hv,_⟩:=h2.get (show l[i]? = some l[i] by simp [hi])
    exact ⟨xs,v,h1.kp k S1.al,hv⟩
   ·rw [enumD_len] at hi
    obtain ⟨p',w,rfl,hp,rfl,y⟩:=y
    obtain ⟨v,hv,r⟩:=h2.get (show l[i]? = some l[i] by simp [hi])
    have:=y xs (h1.kp k S1.al)
    rw [hv] at this
    cases this
    refine ⟨_,enumD_get hi,Ex.new F hp _,p',_,rfl,SqT.of upd_same,.int i,_,rfl,rfl,_,[],rfl,?_,rfl⟩
    rw [ac,aq hi]
    exact (r.moved hO k S1.al).kp ((Ex.new F hp _).kp hf) al
   ·rw [enumD_len]
    exact ⟨xs,h1.kp k S1.al,by rw [h2.len];exact aj _⟩
  ·rename_i l
   obtain ⟨p,xs,rfl,n,h1,h2⟩:=r
   refine ⟨p,rfl,.inl ⟨⟨xs,SqL.of h1⟩,q _ H1 e ⟨fun H' i k hi=>?_,fun O' H' i x H'' hO hf al k F hi y=>?_,fun H' k=>?_⟩⟩⟩
   ·rw [enumD_len] at hi
    obtain ⟨v,hv,_⟩:=h2.get (show l[i]? = some l[i] by simp [hi])
    exact ⟨xs,v,SqL.of (k p _ n h1),hv⟩
   ·rw [enumD_len] at hi
    obtain ⟨p',w,rfl,hp,rfl,y⟩:=y
    obtain ⟨v,hv,r⟩:=h2.get (show l[i]? = some l[i] by simp [hi])
    have:=y xs (SqL.of (k p _ n h1))
    rw [hv] at this
    cases this
    refine ⟨_,enumD_get hi,Ex.new F hp _,p',_,rfl,SqT.of upd_same,.int i,_,rfl,rfl,_,[],rfl,?_,rfl⟩
    rw [ac,aq hi]
    exact (r.moved hO k S1.al).kp ((Ex.new F hp _).kp hf) al
   ·rw [enumD_len]
    exact ⟨xs,SqL.of (k p _ n h1),by rw [h2.len];exact aj _⟩) q⟩
def iRevS (K:PySem.W.Frag) (ta:TA):TI:=fun σ H R=>ta σ H fun vs H1=>∃ a xs,vs=[.ref a] /\
 ((SqT K H1 a xs/\R ⟨fun i H=>i<xs.length/\∃ ys x,SqT K H a ys/\ys.length=xs.length/\ys.reverse[i]? = some x,fun i H x H'=>H'=H/\∀ xs,SqT K H a xs->xs.reverse[i]? = some x,fun i H=>i=xs.length⟩ H1) \/
   (SqL K H1 a xs/\R ⟨fun i H=>i<xs.length/\∃ ys x,SqL K H a ys/\ys.length=xs.length/\ys.reverse[i]? = some x,fun i H x H'=>H'=H/\∀ xs,SqL K H a xs->xs.reverse[i]? = some x,fun i H=>i=xs.length⟩ H1))
theorem pi_revS {tg:Expr} {a:Expr} {ta:TA} {p pos:Pos} (hg:Gl X "reversed") (hm:X.mg "reversed" = none) (ha:PA X [a] ta) (hs:starEach [a] X.env=[(false,eval a X.env)]):PI X tg (.Call (.Name "reversed" p) [a] [] pos) (iRevS X.K ta):=by
 intro pins s σ H R I h
 refine PyProof.Rows.Call_ (ld_blt I hg hm PyProof.Rows.boot_reversed (PyProof.Rows.callWith_type1 (thn (ha pos pins s σ H _ I h) fun us s1 ⟨vs,H1,I1,r1,q1⟩=>?_) hs rfl))
 obtain ⟨l,xs,e,q1⟩:=q1
 subst e
 obtain ⟨u,rfl,ru⟩:=Vals.one r1
 cases ru
 rcases q1 with ⟨hq,q1⟩ | ⟨hq,q1⟩
 ·obtain ⟨its,rv,pl,hz⟩:=I1.tuple hq
  have hlen:=rv.length
  have hn63:=line63
  refine RV.call_rev (show s1.heap.IsTuple l its.toArray from pl) (by rw [ai];omega) fun tk=>?_
  have st:RV.Is (s1.heap.push { cls:=.type "reversed",data:=.fields #[.ref l,rawInt ((its.toArray.size:Int)-1)] }) s1.heap.objs.size l ((xs.length:Int)-1-((0:Nat):Int)):=⟨_,Heap.get?_push_size _ rfl,rfl,by
   rw [ai,← hlen,show (xs.length:Int)-1-((0:Nat):Int)=(xs.length:Int)-1 by omega]⟩
  refine RV.iter_self st ?_
  refine ⟨_,[s1.heap.objs.size],_,_,H1,rfl,I1.kept (t':=tk) fun b o e=>Heap.get?_push_of_some _ e,turn_rev xs.length l _,st,fun b hb=>?_,q1⟩
  rw [aS.mp hb]
  exact I1.fpOk (aj _) (I1.hok.fresh (aj _))
 ·obtain ⟨its,rv,pl,hz⟩:=I1.list hq
  have hlen:=rv.length
  refine call_reversed_list pl.isList ?_
  have st:(s1.heap.push (revObj l ((its.toArray.size:Int)-1))).IsRevIter s1.heap.objs.size l ((xs.length:Int)-1-((0:Nat):Int)):=⟨_,Heap.get?_push_size _ rfl,rfl,by
   show Data.fields #[.ref l,rawInt ((its.toArray.size:Int)-1)]=_
   rw [ai,← hlen,show (xs.length:Int)-1-((0:Nat):Int)=(xs.length:Int)-1 by omega]⟩
  refine wpAny_pyIter_revIter st ?_
  refine ⟨_,[s1.heap.objs.size],_,_,H1,rfl,I1.kept (t':=s1.toks) fun b o e=>Heap.get?_push_of_some _ e,turn_revL xs.length l _,st,fun b hb=>?_,q1⟩
  rw [aS.mp hb]
  exact I1.fpOk (aj _) (I1.hok.fresh (aj _))
theorem ku.ok {tg:Expr} {p:Pos} (hg:Gl X "reversed") (hm:X.mg "reversed" = none) (ha:PE X a (LE X.K ta)) (hs:starEach [a] X.env=[(false,eval a X.env)]):PI X tg (.Call (.Name "reversed" p) [a] [] pos) (LI X.K (ku ta)) :=
 (pi_revS (p:=p) (pos:=pos) hg hm (pa_cons ha pa_nil hs) hs).weak fun σ H R ⟨f,O,ss,S,q⟩=>⟨f,O,ss,S,ta.mono (fun d q v H1 e r=>by
  have S1:=S.ex e
  cases d <;> first | exact False.elim q | skip
  ·rename_i l
   obtain ⟨p,xs,rfl,h1,h2⟩:=r
   refine ⟨p,xs,rfl,.inl ⟨h1,q _ H1 e ⟨fun H' i k hi=>?_,fun O' H' i x H'' hO hf al k F hi y=>?_,fun H' k=>?_⟩⟩⟩
   ·obtain ⟨v,hv,_⟩:=h2.reverse.get (show l.reverse[i]? = some l.reverse[i] from aq hi)
    rw [bC] at hi
    exact ⟨by rw [h2.len];exact hi,xs,v,h1.kp k S1.al,rfl,hv⟩
   ·obtain ⟨rfl,y⟩:=y
    obtain ⟨v,hv,r⟩:=h2.reverse.get (show l.reverse[i]? = some l.reverse[i] from aq hi)
    have:=y xs (h1.kp k S1.al)
    rw [hv] at this
    cases this
    exact ⟨l.reverse[i],aq hi,Ex.refl F,r.moved hO k S1.al⟩
   ·rw [bC,h2.len]
  ·rename_i l
   obtain ⟨p,xs,rfl,n,h1,h2⟩:=r
   refine ⟨p,xs,rfl,.inr ⟨SqL.of h1,q _ H1 e ⟨fun H' i k hi=>?_,fun O' H' i x H'' hO hf al k F hi y=>?_,fun H' k=>?_⟩⟩⟩
   ·obtain ⟨v,hv,_⟩:=h2.reverse.get (show l.reverse[i]? = some l.reverse[i] from aq hi)
    rw [bC] at hi
    exact ⟨by rw [h2.len];exact hi,xs,v,SqL.of (k p _ n h1),rfl,hv⟩
   ·obtain ⟨rfl,y⟩:=y
    obtain ⟨v,hv,r⟩:=h2.reverse.get (show l.reverse[i]? = some l.reverse[i] from aq hi)
    have:=y xs (SqL.of (k p _ n h1))
    rw [hv] at this
    cases this
    exact ⟨l.reverse[i],aq hi,Ex.refl F,r.moved hO k S1.al⟩
   ·rw [bC,h2.len]) q⟩
structure Cs where
 f:Addr
 O:List Addr
 H:Hp
 S:List Addr
structure Kpc (c:Cs) (H:Hp):Prop where
 kp:∀ b o,c.H b=some o->b≠c.f->(b∈c.O\/b ∉ c.S)->H b=some o
 key:∀ l r,c.H c.f=some (.lst (.ref l::r))->∃ r',H c.f=some (.lst (.ref l::r'))
structure StR (K:PySem.W.Frag) (c:Cs) (O:List Addr) (σ:St) (H:Hp) (ss:SS):Prop where
 sl:SlD K c.f O σ H ss
 sub:∀ a∈c.O,a∈O
 kp:Kpc c H
 new:∀ a∈O,a∈c.S\/c.H a=none
 own:∀ (i:Nat) (l:List D) (a:Addr),ss[i]? = some (SD.own l)->σ[i]? = some (some (V.ref a))->(c.H a=none\/a∈c.S)/\a ∉ c.O/\∀ (j:Nat) (l':List D),ss[j]? = some (SD.own l')->σ[j]? = some (some (V.ref a))->j=i
variable {c:Cs}
theorem Kpc.ex (k:Kpc c H) (e:Ex c.f H H'):Kpc c H':=⟨fun b o h n z=>e.sm.app b o n (k.kp b o h n z),fun l r h=>by
 obtain ⟨r',h1⟩:=k.key l r h
 exact e.sm.key l r' h1⟩
theorem StR.ex (R:StR K c O σ H ss) (e:Ex c.f H H'):StR K c O σ H' ss:=⟨R.sl.ex e,R.sub,R.kp.ex e,R.new,R.own⟩
theorem StR.to {σ':St} {ss':SS} (R:StR K c O σ H ss) (S:SlD K c.f O σ' H ss') (h:Sub σ ss σ' ss'):StR K c O σ' H ss':=⟨S,R.sub,R.kp,R.new,fun i l a q e=>by
 obtain ⟨q1,e1⟩:=h i l q
 obtain ⟨w1,w2,w3⟩:=R.own i l a q1 (e1.symm.trans e)
 refine ⟨w1,w2,fun j l' q' e'=>?_⟩
 obtain ⟨q2,e2⟩:=h j l' q'
 exact w3 j l' q2 (e2.symm.trans e')⟩
def frz1 (i:Nat) (ss:SS):SS:=match ss[i]? with | some (.own l)=>ss.set i (.val (.lst l)) | _=>ss
def frz (fz:List Nat) (ss:SS):SS:=fz.foldl (fun s i=>frz1 i s) ss
theorem StR.frz1 (R:StR K c O σ H ss) {i:Nat}:∃ O',StR K c O' σ H (frz1 i ss):=by
 unfold Dp.frz1
 split
 ·rename_i l e
  obtain ⟨a,xs,h1,h2,h3,h4,h5⟩:=R.sl.own i l e
  obtain ⟨w1,w2,w3⟩:=R.own i l a e h1
  have hs:∀ b∈O.filter (fun b=>decide (b≠a)),b∈O:=fun b hb=>(bK.mp hb).1
  have hl:i<ss.length:=(ak.mp e).1
  have hlv:(σ.set i (some (V.ref a)))=σ:=by
   apply List.ext_getElem?
   intro j
   by_cases z:i=j
   ·subst z
    rw [aK,if_pos rfl,if_pos (by rw [← R.sl.len];exact hl),h1]
   ·rw [aD z]
  refine ⟨O.filter (fun b=>decide (b≠a)),⟨R.sl.fl,?_,fun b hb=>R.sl.al b (hs b hb),fun l r q z=>R.sl.lO l r q (hs _ z),by rw [aX];exact R.sl.len,fun j d q=>?_,fun j l' q=>?_⟩,fun b hb=>?_,R.kp,fun b hb=>R.new b (hs b hb),fun j l' b q e'=>?_⟩
  ·exact bK.mpr ⟨R.sl.fO,by simpa using Ne.symm h3⟩
  ·by_cases z:i=j
   ·subst z
    rw [aK,if_pos rfl,if_pos hl] at q
    cases q
    exact ⟨_,h1,a,xs,rfl,fun z=>by simpa using (bK.mp z).2,h4,h5.less hs⟩
   ·rw [aD z] at q
    obtain ⟨v,q1,q2⟩:=R.sl.val j d q
    exact ⟨v,q1,q2.less hs⟩
  ·by_cases z:i=j
   ·subst z
    rw [aK,if_pos rfl,if_pos hl] at q
    cases q
   ·rw [aD z] at q
    obtain ⟨b,ys,q1,q2,q3,q4,q5⟩:=R.sl.own j l' q
    refine ⟨b,ys,q1,bK.mpr ⟨q2,?_⟩,q3,q4,q5.less hs⟩
    have:b≠a:=by
     rintro rfl
     exact z (w3 j l' q q1).symm
    simpa using this
  ·have:b≠a:=by
    rintro rfl
    exact w2 hb
   exact bK.mpr ⟨R.sub b hb,by simpa using this⟩
  ·by_cases z:i=j
   ·subst z
    rw [aK,if_pos rfl,if_pos hl] at q
    cases q
   ·rw [aD z] at q
    obtain ⟨p1,p2,p3⟩:=R.own j l' b q e'
    refine ⟨p1,p2,fun k l2 q2 e2=>?_⟩
    by_cases z2:i=k
    ·subst z2
     rw [aK,if_pos rfl,if_pos hl] at q2
     cases q2
    ·rw [aD z2] at q2
     exact p3 k l2 q2 e2
 ·exact ⟨O,R⟩
theorem StR.frz:∀ {fz:List Nat} {ss:SS} {O:List Addr},StR K c O σ H ss->∃ O',StR K c O' σ H (Dp.frz fz ss)
 | [],_,O,R=>⟨O,R⟩
 | i::fz,ss,O,R=>by
  obtain ⟨O1,R1⟩:=R.frz1 (i:=i)
  exact StR.frz (fz:=fz) R1
structure Rt (K:PySem.W.Frag) (c:Cs) (H:Hp) (d:D) (v:V):Prop where
 fl:Fl H c.f
 kp:Kpc c H
 rp:Rp K c.f c.O H d v
theorem StR.rt (R:StR K c O σ H ss) {d:D} {v:V} (r:Rp K c.f O H d v):Rt K c H d v:=⟨R.sl.fl,R.kp,r.less R.sub⟩
def Cs.here (c:Cs) (H:Hp) (O:List Addr):Cs:=⟨c.f,c.O,H,O⟩
theorem StR.here (R:StR K c O σ H ss):StR K (c.here H O) O σ H ss:=⟨R.sl,R.sub,⟨fun b o h _ _=>h,fun l r h=>⟨r,h⟩⟩,fun a h=>.inl h,fun i l a q e=>by
 obtain ⟨a',xs,h1,h2,_⟩:=R.sl.own i l q
 rw [h1] at e
 cases e
 exact ⟨.inr h2,(R.own i l a q h1).2⟩⟩
theorem Kpc.back {O1:List Addr} {H1:Hp} (R:StR K c O1 σ H1 ss) (k:Kpc (c.here H1 O1) H):Kpc c H where
 kp:=fun b o h n z=>by
  refine k.kp b o (R.kp.kp b o h n z) n ?_
  rcases z with z | z
  ·exact .inl z
  ·refine .inr fun y=>?_
   rcases R.new b y with w | w
   ·exact z w
   ·rw [w] at h
    cases h
 key:=fun l r h=>by
  obtain ⟨r',h1⟩:=R.kp.key l r h
  exact k.key l r' h1
theorem StR.back {O1:List Addr} {H1:Hp} {σ1:St} {s1:SS} (R:StR K c O1 σ1 H1 s1) (k:StR K (c.here H1 O1) O σ H ss):StR K c O σ H ss:=by
 have low:∀ a,a ∉ c.O->(a∈O1\/H1 a=none)->a∈c.S\/c.H a=none:=fun a n z=>by
  rcases z with z | z
  ·exact R.new a z
  ·cases h:c.H a with
   | none=>exact .inr rfl
   | some o =>
    left
    by_cases y:a∈c.S
    ·exact y
    ·exfalso
     by_cases w:a=c.f
     ·subst w
      obtain ⟨xs,q⟩:=R.sl.fl.lst
      rw [q] at z
      cases z
     ·rw [R.kp.kp a o h w (.inr y)] at z
      cases z
 refine ⟨k.sl,k.sub,Kpc.back R k.kp,fun a h=>?_,fun i l a q e=>?_⟩
 ·by_cases z:a∈c.O
  ·rcases R.new a (R.sub a z) with w | w
   ·exact .inl w
   ·exact .inr w
  ·exact low a z (k.new a h)
 ·obtain ⟨w1,w2,w3⟩:=k.own i l a q e
  exact ⟨(low a w2 w1.symm).symm,w2,w3⟩
theorem Rt.back {O1:List Addr} {H1:Hp} {σ1:St} {s1:SS} (R:StR K c O1 σ1 H1 s1) {d:D} {v:V} (k:Rt K (c.here H1 O1) H d v):Rt K c H d v:=⟨k.fl,Kpc.back R k.kp,k.rp⟩
structure EndsD where
 nx:SS->Prop
 rt:D->Prop
 bk:SS->Prop
 ct:SS->Prop
structure EndsD.Le (E E':EndsD):Prop where
 nx:∀ s,E.nx s->E'.nx s
 rt:∀ d,E.rt d->E'.rt d
 bk:∀ s,E.bk s->E'.bk s
 ct:∀ s,E.ct s->E'.ct s
structure TSd where
 run:EndsD->SS->Prop
 mono:∀ {E E' ss},E.Le E'->run E ss->run E' ss
def endsD (K:PySem.W.Frag) (c:Cs) (D:Ends):EndsD:=⟨fun ss=>∀ O σ H,StR K c O σ H ss->D.nx σ H,fun d=>∀ v H,Rt K c H d v->D.rt v H,fun ss=>∀ O σ H,StR K c O σ H ss->D.bk σ H,fun ss=>∀ O σ H,StR K c O σ H ss->D.ct σ H⟩
def LS (K:PySem.W.Frag) (t:TSd):TS:=fun D σ H=>∃ c O ss,StR K c O σ H ss/\t.run (endsD K c D) ss
theorem _root_.L2.PS.weak {st:Stmt} {t t':TS} (h:PS X st t) (w:∀ D σ H,t' D σ H->t D σ H):PS X st t':=fun pins s σ H D I q=>h pins s σ H D I (w D σ H q)
theorem _root_.L2.PSs.weak {st:List Stmt} {t t':TS} (h:PSs X st t) (w:∀ D σ H,t' D σ H->t D σ H):PSs X st t':=fun pins s σ H D I q=>h pins s σ H D I (w D σ H q)
theorem StR.le {t:TEd} {Q:VK} (R:StR K c O σ H ss) {W:D->Prop} (h:t.run ss W) (hw:∀ d v H1,StR K c O σ H1 ss->Ex c.f H H1->Rp K c.f O H1 d v->W d->Q v H1):LE K t σ H Q :=
 ⟨c.f,O,ss,R.sl,t.mono (fun d q v H1 e r=>hw d v H1 (R.ex e) e r q) h⟩
theorem StR.lt {t:TTd} {Q:Bool->Hp->Prop} (R:StR K c O σ H ss) {W:Bool->Prop} (h:t.run ss W) (hw:∀ d H1,StR K c O σ H1 ss->W d->Q d H1):LT K t σ H Q :=
 ⟨c.f,O,ss,R.sl,t.mono (fun d q H1 e=>hw d H1 (R.ex e) q) h⟩
def hV:TSd:=⟨fun E ss=>E.nx ss,fun h q=>h.nx _ q⟩
theorem hV.nil:PSs X [] (LS X.K hV):=pss_nil.weak fun D σ H ⟨c,O,ss,R,q⟩=>q O σ H R
theorem hV.pass:PS X (.Pass pos) (LS X.K hV):=ps_pass.weak fun D σ H ⟨c,O,ss,R,q⟩=>q O σ H R
def pj:TSd:=⟨fun E ss=>E.bk ss,fun h q=>h.bk _ q⟩
theorem pj.ok:PS X (.Break pos) (LS X.K pj):=ps_break.weak fun D σ H ⟨c,O,ss,R,q⟩=>q O σ H R
@[reducible] def EndsD.to (E:EndsD) (P:SS->Prop):EndsD:=⟨P,E.rt,E.bk,E.ct⟩
def dSq (t u:TSd):TSd:=⟨fun E ss=>t.run (E.to (u.run E)) ss,fun {E E' ss} h q=>t.mono (E:=E.to (u.run E)) (E':=E'.to (u.run E')) ⟨fun s q=>u.mono h q,h.rt,h.bk,h.ct⟩ q⟩
theorem dSq.ok {st:Stmt} {sts:List Stmt} {t u:TSd} (h:PS X st (LS X.K t)) (g:PSs X sts (LS X.K u)):PSs X (st::sts) (LS X.K (dSq t u)):=(pss_cons h g).weak fun D σ H ⟨c,O,ss,R,q⟩ =>
 ⟨c,O,ss,R,t.mono (E:=(endsD X.K c D).to (u.run (endsD X.K c D))) ⟨fun s q O' σ' H' R'=>⟨c,O',s,R',q⟩,fun _ q=>q,fun _ q=>q,fun _ q=>q⟩ q⟩
theorem dSq.one {st:Stmt} {t:TSd} (h:PS X st (LS X.K t)):PSs X [st] (LS X.K t):=pss_one h
def g9 (fz:List Nat) (e:TEd):TSd:=⟨fun E ss=>e.run (frz fz ss) E.rt,fun h q=>e.mono h.rt q⟩
theorem g9.ok {fz:List Nat} (h:PE X a (LE X.K ta)):PS X (.Return (some a) pos) (LS X.K (g9 fz ta)):=(ps_ret h).weak fun D σ H ⟨c,O,ss,R,q⟩=>by
 obtain ⟨O',R⟩:=R.frz (fz:=fz)
 exact R.le q fun d v H1 R1 _ r w=>w v H1 (R1.rt r)
def oI:TSd:=⟨fun E ss=>E.rt .non,fun h q=>h.rt _ q⟩
theorem oI.ok:PS X (.Return none pos) (LS X.K oI):=ps_retN.weak fun D σ H ⟨c,O,ss,R,q⟩=>q .non H (R.rt rfl)
def dIf (fz:List Nat) (k:TTd) (t u:TSd):TSd:=⟨fun E ss=>k.run (frz fz ss) fun b=>if b=true then t.run E (frz fz ss) else u.run E (frz fz ss),fun {E E' ss} h q=>k.mono (fun b q=>by
 revert q
 cases b
 ·exact u.mono h
 ·exact t.mono h) q⟩
theorem dIf.ok {fz:List Nat} {st su:List Stmt} {t u:TSd} (hk:PT X a (LT X.K tA)) (ht:PSs X st (LS X.K t)) (hu:PSs X su (LS X.K u)):PS X (.If a st su pos) (LS X.K (dIf fz tA t u)):=(ps_if hk ht hu).weak fun D σ H ⟨c,O,ss,R,q⟩=>by
 obtain ⟨O',R⟩:=R.frz (fz:=fz)
 refine R.lt q fun b H1 R1 w=>?_
 cases b
 ·exact ⟨c,O',_,R1,w⟩
 ·exact ⟨c,O',_,R1,w⟩
def gU (fz:List Nat) (g:TGd) (e:TEd):TSd:=⟨fun E ss=>e.run (frz fz ss) fun d=>g.run d (frz fz ss) E.nx,fun h q=>e.mono (fun d q=>g.mono h.nx q) q⟩
theorem StR.lg {g:TGd} {d:D} {v:V} {Q:St->Hp->Prop} {W:SS->Prop} (R:StR K c O σ H ss) (r:Rp K c.f O H d v) (h:g.run d ss W) (hw:∀ ss' σ' H1,StR K c O σ' H1 ss'->W ss'->Q σ' H1):LG K g v σ H Q :=
 ⟨c.f,O,ss,d,R.sl,r,g.mono (fun s q σ' H1 e S sb ag=>hw s σ' H1 ((R.ex e).to S sb) q) h⟩
theorem gU.ok {fz:List Nat} {tg:Expr} {g:TGd} (h:PE X a (LE X.K ta)) (hg:PG X tg (LG X.K g)) (hs:swapsWithSole [tg] a pos.line X.env=pure false) (hw:swappedStores [tg] a X.env=pure none) (h1:(assignEach [tg] X.env).map (·.2)=[assign tg X.env]):PS X (.Assign [tg] a pos) (LS X.K (gU fz g ta)):=(ps_asg h hg hs hw h1).weak fun D σ H ⟨c,O,ss,R,q⟩=>by
 obtain ⟨O',R⟩:=R.frz (fz:=fz)
 exact R.le q fun d v H1 R1 _ r w=>R1.lg r w fun s' σ' H2 R2 w=>w O' σ' H2 R2
end Dp
namespace Dp
open PySem L2
variable {K:PySem.W.Frag} {f:Addr} {O O':List Addr} {H H':Hp} {X:Cx} {σ:St} {ss:SS} {a b:Expr} {ta tb tc:TEd} {tA tB:TTd} {pos:Pos} {c:Cs}
theorem qf.ok {fz:List Nat} {i:Nat} {x:Str} {p':Pos} (hN:X.N.Nodup) (hi:X.N[i]? = some x) (hx:Loc X.env.scope x) (h:PE X a (LE X.K ta)) (hs:swapsWith a (some (.Name x p')) pos.line X.env=pure false) (hf:X.fn x=true\/X.env.scope.names.lookup x=some .local) :
  PS X (.Assign [.Name x p'] a pos) (LS X.K (gU fz (gNm i) ta)):=(ps_set hN hi hx h hs hf).weak fun D σ H ⟨c,O,ss,R,q⟩=>by
 obtain ⟨O',R⟩:=R.frz (fz:=fz)
 exact R.le q fun d v H1 R1 _ r w=>w O' _ H1 (R1.to (R1.sl.set r) Sub.set)
def mV (fz:List Nat) (i j:Nat) (a b:TEd):TSd:=⟨fun E ss=>a.run (frz fz ss) fun d=>b.run (frz fz ss) fun d'=>E.nx (((frz fz ss).set i (.val d)).set j (.val d')),fun h q=>a.mono (fun d q=>b.mono (fun d' q=>h.nx _ q) q) q⟩
theorem mV.weak {fz:List Nat} {i j:Nat} {D:Ends} {ta tb:TEd} (h:LS X.K (mV fz i j ta tb) D σ H):tPar i j (tCons (LE X.K ta) (tCons (LE X.K tb) tNil)) D σ H:=by
 obtain ⟨c,O,ss,R,q⟩:=h
 obtain ⟨O',R⟩:=R.frz (fz:=fz)
 refine R.le q fun d v H1 R1 e1 r w=>R1.le w fun d' v' H2 R2 e2 r' w=>?_
 have S:=(R2.sl.set (i:=i) (R1.sl.up e2 r)).set (i:=j) r'
 exact ⟨v,v',rfl,w O' _ H2 (R2.to S (Sub.trans Sub.set Sub.set))⟩
def iM (k:TTd) (t:TSd):TSd:=⟨fun E ss=>∃ (I:SS->Prop) (μ:SS->Nat),I ss/\∀ s,I s->k.run s fun b=>if b=true then t.run ⟨fun s'=>I s'/\μ s'<μ s,E.rt,E.nx,fun s'=>I s'/\μ s'<μ s⟩ s else E.nx s,fun {E E' ss} h ⟨I,μ,q0,q⟩=>⟨I,μ,q0,fun s i=>k.mono (fun b q=>by
 revert q
 cases b
 ·exact h.nx _
 ·exact t.mono ⟨fun _ q=>q,h.rt,h.nx,fun _ q=>q⟩) (q s i)⟩⟩
theorem iM.ok {st:List Stmt} {t:TSd} (hp:PassesOwn (model X.prog X.w) X.A X.env X.xe) (hk:PT X a (LT X.K tA)) (ht:PSs X st (LS X.K t)):PS X (.While a st [] pos) (LS X.K (iM tA t)):=(ps_while hp hk ht).weak fun D σ H ⟨c,O,ss,R,I,μ,q0,q⟩=>by
 refine ⟨fun m σ H=>∃ O s,StR X.K c O σ H s/\I s/\μ s=m,⟨_,O,ss,R,q0,rfl⟩,?_⟩
 rintro m σ H ⟨O,s,R,i0,rfl⟩
 refine R.lt (q s i0) fun b H1 R1 w=>?_
 cases b with
 | false=>exact w O σ H1 R1
 | true =>
  refine ⟨fun σ' H'=>∃ O' s',StR X.K c O' σ' H' s'/\I s'/\μ s'<μ s,fun σ' H' ⟨O',s',R',i',l⟩=>⟨_,l,O',s',R',i',rfl⟩,c,O,s,R1,?_⟩
  refine t.mono ?_ w
  exact ⟨fun s' q O' σ' H' R'=>⟨O',s',R',q⟩,fun _ q=>q,fun _ q=>q,fun s' q O' σ' H' R'=>⟨O',s',R',q⟩⟩
def iC (fz:List Nat) (it:TAd) (g:TGd) (t:TSd):TSd:=⟨fun E ss=>it.run (frz fz ss) fun ds=>∃ I:Nat->SS->Prop,I 0 (frz fz ss)/\(∀ i d s,ds[i]? = some d->I i s->g.run d s fun s1=>t.run ⟨I (i+1),E.rt,E.nx,I (i+1)⟩ s1)/\∀ s,I ds.length s->E.nx s,fun {E E' ss} h q=>it.mono (fun ds ⟨I,q0,q1,q2⟩=>⟨I,q0,fun i d s e i0=>g.mono (fun s1 q=>t.mono (E:=⟨I (i+1),E.rt,E.nx,I (i+1)⟩) (E':=⟨I (i+1),E'.rt,E'.nx,I (i+1)⟩) ⟨fun _ q=>q,h.rt,h.nx,fun _ q=>q⟩ q) (q1 i d s e i0),fun s i0=>h.nx _ (q2 s i0)⟩) q⟩
theorem iC.ok {fz:List Nat} {tg iter:Expr} {st:List Stmt} {it:TAd} {g:TGd} {t:TSd} (hp:PassesOwn (model X.prog X.w) X.A X.env X.xe) (hc:X.calm=true) (hi:PI X tg iter (LI X.K it)) (hg:PG X tg (LG X.K g)) (ht:PSs X st (LS X.K t)) (hs:∀ x,foldedSetIterable iter X.env x=pure x) :
  PS X (.For tg iter st [] pos) (LS X.K (iC fz it g t)):=(ps_for hp hc hi hg ht hs).weak fun D σ H ⟨c,O,ss,R,q⟩=>by
 obtain ⟨O,R⟩:=R.frz (fz:=fz)
 refine ⟨c.f,O,_,R.sl,it.mono (fun ds q J H1 e1 D0=>?_) q⟩
 obtain ⟨I,q0,q1,q2⟩:=q
 have R1:=R.ex e1
 refine ⟨fun i m σ H=>∃ O2 s,StR X.K (c.here H1 O) O2 σ H s/\I i s/\m=ds.length-i/\i<=ds.length,⟨_,O,_,R1.here,q0,rfl,aC _⟩,?_⟩
 rintro i m σ H ⟨O2,s,R2,i0,rfl,hi⟩
 have kp:Kp O H1 H:=fun b o n h=>R2.kp.kp b o h (fun z=>n (by rw [z];exact R.sl.fO)) (.inr n)
 rcases am i ds.length with hk | hk
 ·refine .inr ⟨D0.go H i kp hk,fun σ' H'=>∃ O3 s',StR X.K (c.here H1 O) O3 σ' H' s'/\I (i+1) s',fun σ' H' ⟨O3,s',R3,i3⟩=>⟨ds.length-(i+1),by omega,O3,s',R3,i3,rfl,hk⟩,fun x H' y=>?_⟩
  obtain ⟨d,ed,e2,rd⟩:=D0.yld O2 H i x H' R2.new R2.sl.fO R2.sl.al kp R2.sl.fl hk y
  refine (R2.ex e2).lg rd (q1 i d s ed i0) fun s1 σ' H3 R3 w=>?_
  refine ⟨c.here H1 O,O2,s1,R3,?_⟩
  refine t.mono ?_ w
  exact ⟨fun s' q O' σ' H' R'=>⟨O',s',R',q⟩,fun d q v H r=>q v H (Rt.back R1 r),fun s' q O' σ' H' R'=>q O' σ' H' (StR.back R1 R'),fun s' q O' σ' H' R'=>⟨O',s',R',q⟩⟩
 ·have ek:i=ds.length:=by omega
  subst ek
  exact .inl ⟨D0.stop H kp,q2 s i0 O2 σ H (StR.back R1 R2)⟩
def LF (K:PySem.W.Frag) (t:TEd):TE:=fun σ H Q=>∃ f O ss,SlD K f O σ H ss/\t.run ss fun d=>∃ l,d = .lst l/\∀ p xs H',Ex f H H'->H p=none->H' p=some (.lst xs)->Rps K f (p::O) H' l xs->Q (.ref p) H'
theorem StR.mkOwn {l:List D} {p:Addr} {xs:List V} {i:Nat} (R:StR K c O σ H ss) (e:Ex c.f H H') (hp:H p=none) (hx:H' p=some (.lst xs)) (r':Rps K c.f (p::O) H' l xs):StR K c (p::O) (σ.set i (some (.ref p))) H' (ss.set i (.own l)):=by
 have mv:∀ b∈p::O,b∈O\/H b=none:=fun b hb=>by
  rcases ar.mp hb with z | z
  ·exact .inr (z ▸ hp)
  ·exact .inl z
 have kp:=e.kp R.sl.fO
 have np:p ∉ O:=R.sl.nO hp
 have npf:p≠c.f:=fun z=>np (z ▸ R.sl.fO)
 have low:c.H p=none\/p∈c.S:=by
  cases h:c.H p with
  | none=>exact .inl rfl
  | some o =>
   right
   by_cases y:p∈c.S
   ·exact y
   ·rw [R.kp.kp p o h npf (.inr y)] at hp
    cases hp
 have hne:∀ (j:Nat) (l':List D) (b:Addr),ss[j]? = some (SD.own l')->σ[j]? = some (some (V.ref b))->b≠p:=fun j l' b q1 q2=>by
  obtain ⟨b',ys,w1,w2,_⟩:=R.sl.own j l' q1
  rw [w1] at q2
  cases q2
  rintro rfl
  exact np w2
 refine ⟨⟨e.fl,au _ R.sl.fO,fun b hb=>?_,fun l r q=>?_,by rw [aX,aX];exact R.sl.len,fun j d q=>?_,fun j l' q=>?_⟩,fun b hb=>au _ (R.sub b hb),R.kp.ex e,fun b hb=>?_,fun j l' b q eb=>?_⟩
 ·rcases ar.mp hb with z | z
  ·exact ⟨xs,z ▸ hx⟩
  ·exact (R.sl.ex e).al b z
 ·intro z
  rcases ar.mp z with w | w
  ·subst w
   obtain ⟨l0,ns,i,c',a',b',f1,f2,f3⟩:=R.sl.fl
   obtain ⟨r',h2⟩:=e.sm.key _ _ f1
   rw [h2] at q
   cases q
   rw [hp] at f2
   cases f2
  ·exact (R.sl.ex e).lO _ _ q w
 ·by_cases z:i=j
  ·subst z
   rw [aK,if_pos rfl] at q
   split at q <;> cases q
  ·rw [aD z] at q ⊢
   obtain ⟨v,w1,w2⟩:=R.sl.val j d q
   exact ⟨v,w1,w2.moved mv kp R.sl.al⟩
 ·by_cases z:i=j
  ·subst z
   rw [aK,if_pos rfl] at q
   split at q
   ·rename_i hl
    cases q
    exact ⟨p,xs,by rw [aK,if_pos rfl,if_pos (by rw [← R.sl.len];exact hl)],ay,npf,hx,r'⟩
   ·cases q
  ·rw [aD z] at q ⊢
   obtain ⟨b,ys,w1,w2,w3,w4,w5⟩:=R.sl.own j l' q
   exact ⟨b,ys,w1,au _ w2,w3,e.sm.app b _ w3 w4,w5.moved mv kp R.sl.al⟩
 ·rcases ar.mp hb with z | z
  ·subst z
   exact low.symm
  ·exact R.new b z
 ·by_cases z:i=j
  ·subst z
   rw [aK,if_pos rfl] at eb
   split at eb
   ·cases eb
    refine ⟨low,fun w=>np (R.sub _ w),fun j' l2 q2 e2=>?_⟩
    by_cases z2:i=j'
    ·exact z2.symm
    ·rw [aD z2] at q2 e2
     exact absurd rfl (hne j' l2 _ q2 e2)
   ·cases eb
  ·rw [aD z] at q eb
   obtain ⟨w1,w2,w3⟩:=R.own j l' b q eb
   refine ⟨w1,w2,fun j' l2 q2 e2=>?_⟩
   by_cases z2:i=j'
   ·subst z2
    rw [aK,if_pos rfl] at e2
    split at e2
    ·cases e2
     exact absurd rfl (hne j l' _ q eb)
    ·cases e2
   ·rw [aD z2] at q2 e2
    exact w3 j' l2 q2 e2
theorem StR.wr {l l':List D} {i:Nat} {a:Addr} {xs:List V} (R:StR K c O σ H ss) (hs:ss[i]? = some (SD.own l)) (ha:σ[i]? = some (some (V.ref a))) (r:Rps K c.f O H l' xs):StR K c O σ (upd H a (.lst xs)) (ss.set i (.own l')):=by
 obtain ⟨a',ys,h1,h2,h3,h4,h5⟩:=R.sl.own i l hs
 rw [h1] at ha
 cases ha
 obtain ⟨w1,w2,w3⟩:=R.own i l a hs h1
 have hl:i<ss.length:=(ak.mp hs).1
 have kp:Kp O H (upd H a (.lst xs)):=fun b o n q=>by
  rw [upd_ne (by rintro rfl;exact n h2)]
  exact q
 have fl:Fl (upd H a (.lst xs)) c.f:=by
  obtain ⟨l0,ns,i,c',a',b',f1,f2,f3⟩:=R.sl.fl
  refine ⟨l0,ns,i,c',a',b',by rw [upd_ne (Ne.symm h3)];exact f1,?_,f3⟩
  rw [upd_ne (by rintro rfl;exact R.sl.lO _ _ f1 h2)]
  exact f2
 have gt:∀ {j:Nat} {s:SD},(ss.set i (.own l'))[j]? = some s->(j=i/\s = .own l')\/(j≠i/\ss[j]? = some s):=fun {j s} q=>by
  by_cases z:i=j
  ·subst z
   rw [aK,if_pos rfl,if_pos hl] at q
   exact .inl ⟨rfl,(Option.some.inj q).symm⟩
  ·rw [aD z] at q
   exact .inr ⟨Ne.symm z,q⟩
 refine ⟨⟨fl,R.sl.fO,fun b hb=>?_,fun l r q=>by rw [upd_ne (Ne.symm h3)] at q;exact R.sl.lO l r q,by rw [aX];exact R.sl.len,fun j d q=>?_,fun j l2 q=>?_⟩,R.sub,⟨fun b o q n z=>?_,fun l r q=>?_⟩,R.new,fun j l2 b q e=>?_⟩
 ·by_cases z:b=a
  ·subst z
   exact ⟨xs,upd_same⟩
  ·rw [upd_ne z]
   exact R.sl.al b hb
 ·rcases gt q with ⟨_,z⟩ | ⟨_,q⟩
  ·cases z
  ·obtain ⟨v,q1,q2⟩:=R.sl.val j d q
   exact ⟨v,q1,q2.kp kp R.sl.al⟩
 ·rcases gt q with ⟨rfl,z⟩ | ⟨z,q⟩
  ·cases z
   exact ⟨a,xs,h1,h2,h3,upd_same,r.kp kp R.sl.al⟩
  ·obtain ⟨b,zs,q1,q2,q3,q4,q5⟩:=R.sl.own j l2 q
   have nb:b≠a:=by
    rintro rfl
    exact z (w3 j l2 q q1)
   exact ⟨b,zs,q1,q2,q3,by rw [upd_ne nb];exact q4,q5.kp kp R.sl.al⟩
 ·have nb:b≠a:=by
   rintro rfl
   rcases z with z | z
   ·exact w2 z
   ·rcases w1 with w | w
    ·rw [w] at q
     cases q
    ·exact z w
  rw [upd_ne nb]
  exact R.kp.kp b o q n z
 ·obtain ⟨r',q1⟩:=R.kp.key l r q
  exact ⟨r',by rw [upd_ne (Ne.symm h3)];exact q1⟩
 ·have q':∃ l3,ss[j]? = some (SD.own l3):=by
   rcases gt q with ⟨rfl,z⟩ | ⟨z,q⟩
   ·exact ⟨l,hs⟩
   ·exact ⟨l2,q⟩
  obtain ⟨l3,q'⟩:=q'
  obtain ⟨p1,p2,p3⟩:=R.own j l3 b q' e
  refine ⟨p1,p2,fun j' l4 q4 e4=>?_⟩
  rcases gt q4 with ⟨rfl,z⟩ | ⟨z,q5⟩
  ·exact p3 _ l hs e4
  ·exact p3 j' l4 q5 e4
end Dp
namespace Dp
open PySem L2
variable {K:PySem.W.Frag} {f:Addr} {O O':List Addr} {H H':Hp} {X:Cx} {σ:St} {ss:SS} {a b:Expr} {ta tb tc:TEd} {tA tB:TTd} {pos:Pos} {c:Cs}
theorem Rps.skip {p:Addr} {H1:Hp} (S:SlD K f O σ H1 ss) (hp:H1 p=none) {o:HO} {ds:List D} {vs:List V} (r:Rps K f O H1 ds vs):Rps K f (p::O) (upd H1 p o) ds vs :=
 r.moved (fun a z=>by
  rcases ar.mp z with w | w
  ·exact .inr (by rw [w];exact hp)
  ·exact .inl w) ((S.new hp o).kp S.fO) S.al
theorem Ex.low {H1:Hp} (e:Ex f H H1) {p:Addr} (n:p≠f) (h:H1 p=none):H p=none:=e.sm.free n h
theorem ig.okF {es:List Expr} {t:TAd} (h:PA X es (LA X.K t)):PE X (.List es pos) (LF X.K (ig t)):=(pe_lst h).weak fun σ H Q ⟨f,O,ss,S,q⟩ =>
 ⟨f,O,ss,S,t.mono (fun ds q vs H1 e r=>by
  obtain ⟨hl,l,el,q⟩:=q
  cases el
  refine ⟨by rw [r.len];exact hl,fun p hp=>?_⟩
  have S1:=S.ex e
  exact q p vs _ (e.trans (S1.new hp _)) (e.low (fun z=>S1.nO hp (z ▸ S1.fO)) hp) upd_same (Rps.skip S1 hp r)) q⟩
theorem qj.okF (ha:PE X a (LE X.K ta)) (hb:PE X b (LE X.K tb)):PE X (.BinOp a .Mult b pos) (LF X.K (gT .Mult ta tb)):=(pe_op (pos:=pos) op_rep ha hb).weak fun σ H Q ⟨f,O,ss,S,q⟩=>by
 refine ⟨f,O,ss,S,ta.mono (fun dx q v1 H1 e1 r1=>?_) q⟩
 refine ⟨f,O,ss,S.ex e1,tb.mono (fun dy q v2 H2 e2 r2=>?_) q⟩
 have S2:=(S.ex e1).ex e2
 have r1:=(S.ex e1).up e2 r1
 cases dx <;> cases dy <;> first | (exact False.elim q) | skip
 ·obtain ⟨_,l,el,_⟩:=q
  cases el
 ·obtain ⟨_,_,_,l,el,_⟩:=q
  cases el
 ·rename_i la k
  obtain ⟨q1,q2,q3,l,el,q⟩:=q
  cases el
  obtain ⟨p0,xs,rfl,n1,h1,h2⟩:=r1
  cases (show v2=_ from r2)
  refine ⟨p0,k,xs,rfl,rfl,h1,q1,q2,by rw [h2.len];exact q3,fun p hp=>?_⟩
  have e12:=e1.trans e2
  exact q p _ _ (e12.trans (S2.new hp _)) (e12.low (fun z=>S2.nO hp (z ▸ S2.fO)) hp) upd_same (Rps.skip S2 hp (h2.flat _))
def i5 (t:TEd):TEd:=⟨fun ss Q=>t.run ss fun d=>itemsD d fun l=>Q (.lst l),fun h q=>t.mono (fun d q=>itemsD.mono (fun l q=>h _ q) q) q⟩
theorem i5.okF {p:Pos} (hg:Gl X "list") (hm:X.mg "list" = none) (ha:PE X a (LE X.K ta)) (hs:starEach [a] X.env=[(false,eval a X.env)]):PE X (.Call (.Name "list" p) [a] [] pos) (LF X.K (i5 ta)) :=
 (pe_callTy (p:=p) (pos:=pos) (listOf X.K) hg hm bt_list (pa_cons ha pa_nil hs) (by decide) (by decide) hs rfl).weak fun σ H Q ⟨f,O,ss,S,q⟩=>⟨f,O,ss,S,ta.mono (fun d q v H1 e r=>by
  have S1:=S.ex e
  cases d <;> first | exact False.elim q | skip
  ·rename_i l0
   obtain ⟨l,el,q⟩:=q
   cases el
   obtain ⟨p0,xs,rfl,h1,h2⟩:=r
   exact ⟨p0,xs,rfl,.inr h1,fun p hp=>q p _ _ (e.trans (S1.new hp _)) (e.low (fun z=>S1.nO hp (z ▸ S1.fO)) hp) upd_same (Rps.skip S1 hp h2)⟩
  ·rename_i l0
   obtain ⟨l,el,q⟩:=q
   cases el
   obtain ⟨p0,xs,rfl,_,h1,h2⟩:=r
   exact ⟨p0,xs,rfl,.inl (SqL.of h1),fun p hp=>q p _ _ (e.trans (S1.new hp _)) (e.low (fun z=>S1.nO hp (z ▸ S1.fO)) hp) upd_same (Rps.skip S1 hp h2)⟩) q⟩
def j5 (fz:List Nat) (i:Nat) (e:TEd):TSd:=⟨fun E ss=>e.run (frz fz ss) fun d=>match d with | .lst l=>E.nx ((frz fz ss).set i (.own l)) | _=>False,fun {E E' ss} h q=>e.mono (fun d q=>by
 revert q
 cases d <;> first | exact h.nx _ | exact id) q⟩
theorem j5.ok {fz:List Nat} {i:Nat} {x:Str} {p':Pos} (hN:X.N.Nodup) (hi:X.N[i]? = some x) (hx:Loc X.env.scope x) (h:PE X a (LF X.K ta)) (hs:swapsWith a (some (.Name x p')) pos.line X.env=pure false) (hf:X.fn x=true\/X.env.scope.names.lookup x=some .local) :
  PS X (.Assign [.Name x p'] a pos) (LS X.K (j5 fz i ta)):=(ps_set hN hi hx h hs hf).weak fun D σ H ⟨c,O,ss,R,q⟩=>by
 obtain ⟨O',R⟩:=R.frz (fz:=fz)
 refine ⟨c.f,O',_,R.sl,ta.mono (fun d q=>?_) q⟩
 cases d <;> first | exact False.elim q | skip
 rename_i l
 exact ⟨l,rfl,fun p xs H1 e hp hx r=>q _ _ H1 (R.mkOwn e hp hx r)⟩
def mX (fz:List Nat) (i:Nat) (e:TEd):TSd:=⟨fun E ss=>match (frz fz ss)[i]? with | some (.own l)=>e.run (frz fz ss) fun d=>l.length<sizeLine/\E.nx ((frz fz ss).set i (.own (l++[d]))) | _=>False,fun {E E' ss} h q=>by
 revert q
 split
 ·exact e.mono fun d q=>⟨q.1,h.nx _ q.2⟩
 ·exact id⟩
theorem mX.ok {fz:List Nat} {i:Nat} {x:Expr} {ap cp:Pos} (hx:PE X x (tVar i)) (hb:attributeBase x "append" X.env (eval x X.env)=eval x X.env) (h:PE X a (LE X.K ta)) (hs:starEach [a] X.env=[(false,eval a X.env)]) (hl:(ap.endLine == cp.line)=true) (hw:swapsWith (.Call (.Attribute x "append" ap) [a] [] cp) none pos.line X.env=pure false) :
  PS X (.Expr (.Call (.Attribute x "append" ap) [a] [] cp) pos) (LS X.K (mX fz i ta)):=by
 refine (ps_expr (pos:=pos) (pe_bm (apos:=ap) (cpos:=cp) PySem.F.plainAttrs_list PySem.F.slot_list_append PySem.F.type_list_append mt_append hx (pa_cons h pa_nil hs) hb (by rw [hs];rfl) hl hs rfl) hw).weak fun D σ H ⟨c,O,ss,R,q⟩=>?_
 obtain ⟨O',R⟩:=R.frz (fz:=fz)
 have q:(match (frz fz ss)[i]? with | some (.own l)=>ta.run (frz fz ss) fun d=>l.length<sizeLine/\(endsD X.K c D).nx ((frz fz ss).set i (.own (l++[d]))) | _=>False):=q
 split at q
 ·rename_i l el
  obtain ⟨p,xs,h1,h2,h3,h4,h5⟩:=R.sl.own i l el
  refine ⟨_,h1,.inl ⟨rfl,xs,SqL.of h4⟩,R.le q fun d v H1 R1 e1 r w=>?_⟩
  have hp:=e1.sm.app p _ h3 h4
  have r5:=R.sl.ups e1 h5
  refine ⟨p,xs,v,rfl,rfl,hp,by rw [r5.len];exact w.1,w.2 O' σ _ (R1.wr el h1 (r5.append ⟨v,[],rfl,r,rfl⟩))⟩
 ·exact q.elim
theorem Rps.dropLast:∀ {ds:List D} {vs:List V},Rps K f O H ds vs->Rps K f O H ds.dropLast vs.dropLast:=fun {ds vs} h=>by
 rw [dR,dR,h.len]
 exact h.take _
def po (i:Nat):TSd:=⟨fun E ss=>match ss[i]? with | some (.own l)=>l≠[]/\E.nx (ss.set i (.own l.dropLast)) | _=>False,fun {E E' ss} h q=>by
 revert q
 split
 ·exact fun q=>⟨q.1,h.nx _ q.2⟩
 ·exact id⟩
theorem po.ok {i:Nat} {x:Expr} {ap cp:Pos} (hx:PE X x (tVar i)) (hb:attributeBase x "pop" X.env (eval x X.env)=eval x X.env) (hl:(ap.endLine == cp.line)=true) (hw:swapsWith (.Call (.Attribute x "pop" ap) [] [] cp) none pos.line X.env=pure false) :
  PS X (.Expr (.Call (.Attribute x "pop" ap) [] [] cp) pos) (LS X.K (po i)):=by
 refine (ps_expr (pos:=pos) (pe_bm0 (apos:=ap) (cpos:=cp) PySem.F.plainAttrs_list PySem.F.slot_list_pop PySem.F.type_list_pop mt_pop hx hb hl) hw).weak fun D σ H ⟨c,O,ss,R,q⟩=>?_
 have q:(match ss[i]? with | some (.own l)=>l≠[]/\(endsD X.K c D).nx (ss.set i (.own l.dropLast)) | _=>False):=q
 split at q
 ·rename_i l el
  obtain ⟨p,xs,h1,h2,h3,h4,h5⟩:=R.sl.own i l el
  have hne:0<l.length:=cR.mpr q.1
  obtain ⟨v,hv,_⟩:=h5.get (show l[l.length-1]? = some (l[l.length-1]'(by omega)) by simp)
  exact ⟨_,h1,.inl ⟨rfl,xs,SqL.of h4⟩,p,xs,v,rfl,rfl,h4,by rw [h5.len];exact hv,q.2 O σ _ (R.wr el h1 h5.dropLast)⟩
 ·exact q.elim
def nK (j i:Nat):TSd:=⟨fun E ss=>match ss[i]? with | some (.own l)=>∃ d,l[l.length-1]? = some d/\E.nx ((ss.set i (.own l.dropLast)).set j (.val d)) | _=>False,fun {E E' ss} h q=>by
 revert q
 split
 ·exact fun ⟨d,q1,q2⟩=>⟨d,q1,h.nx _ q2⟩
 ·exact id⟩
theorem nK.ok {i j:Nat} {y:Str} {x:Expr} {ap cp p':Pos} (hN:X.N.Nodup) (hj:X.N[j]? = some y) (hy:Loc X.env.scope y) (hf:X.fn y=true\/X.env.scope.names.lookup y=some .local) (hx:PE X x (tVar i)) (hb:attributeBase x "pop" X.env (eval x X.env)=eval x X.env) (hl:(ap.endLine == cp.line)=true) (hw:swapsWith (.Call (.Attribute x "pop" ap) [] [] cp) (some (.Name y p')) pos.line X.env=pure false) :
  PS X (.Assign [.Name y p'] (.Call (.Attribute x "pop" ap) [] [] cp) pos) (LS X.K (nK j i)):=by
 refine (ps_set (pos:=pos) hN hj hy (pe_bm0 (apos:=ap) (cpos:=cp) PySem.F.plainAttrs_list PySem.F.slot_list_pop PySem.F.type_list_pop mt_pop hx hb hl) hw hf).weak fun D σ H ⟨c,O,ss,R,q⟩=>?_
 have q:(match ss[i]? with | some (.own l)=>∃ d,l[l.length-1]? = some d/\(endsD X.K c D).nx ((ss.set i (.own l.dropLast)).set j (.val d)) | _=>False):=q
 split at q
 ·rename_i l el
  obtain ⟨p,xs,h1,h2,h3,h4,h5⟩:=R.sl.own i l el
  obtain ⟨d,q1,q2⟩:=q
  obtain ⟨v,hv,rv⟩:=h5.get q1
  have R2:=R.wr el h1 h5.dropLast
  have kp:Kp O H (upd H p (.lst xs.dropLast)):=fun b o n q=>by
   rw [upd_ne (by rintro rfl;exact n h2)]
   exact q
  refine ⟨_,h1,.inl ⟨rfl,xs,SqL.of h4⟩,p,xs,v,rfl,rfl,h4,by rw [h5.len];exact hv,q2 O _ _ (R2.to (R2.sl.set (rv.kp kp R.sl.al)) Sub.set)⟩
 ·exact q.elim
def atD (l:List D) (dk:D) (Q:Nat->Prop):Prop:=match dk with | .int z=>(match ixN l.length z with | some j=>Q j | none=>False) | _=>False
theorem atD.mono {l:List D} {dk:D} {Q Q':Nat->Prop} (h:∀ j,Q j->Q' j):atD l dk Q->atD l dk Q':=by
 cases dk <;> first | exact id | skip
 unfold atD
 dsimp only
 split
 ·exact h _
 ·exact id
def kw (fz:List Nat) (i:Nat) (k e:TEd):TSd:=⟨fun E ss=>match (frz fz ss)[i]? with | some (.own l)=>e.run (frz fz ss) fun d=>k.run (frz fz ss) fun dk=>atD l dk fun j=>E.nx ((frz fz ss).set i (.own (l.set j d))) | _=>False,fun {E E' ss} h q=>by
 revert q
 split
 ·exact e.mono fun d=>k.mono fun dk=>atD.mono fun j=>h.nx _
 ·exact id⟩
theorem kw.ok {fz:List Nat} {i:Nat} {x k:Expr} {tk:TEd} {sp:Pos} (hx:PE X x (tVar i)) (hk:PE X k (LE X.K tk)) (h:PE X a (LE X.K ta)) (hs:swapsWithSole [.Subscript x k sp] a pos.line X.env=pure false) (hw:swappedStores [.Subscript x k sp] a X.env=pure none) (h1:(assignEach [.Subscript x k sp] X.env).map (·.2)=[assign (.Subscript x k sp) X.env])
  (hg:PG X (.Subscript x k sp) (gSub (tVar i) (LE X.K tk) rSetL)):PS X (.Assign [.Subscript x k sp] a pos) (LS X.K (kw fz i tk ta)):=by
 refine (ps_asg (pos:=pos) h hg hs hw h1).weak fun D σ H ⟨c,O,ss,R,q⟩=>?_
 obtain ⟨O',R⟩:=R.frz (fz:=fz)
 have q:(match (frz fz ss)[i]? with | some (.own l)=>ta.run (frz fz ss) fun d=>tk.run (frz fz ss) fun dk=>atD l dk fun j=>(endsD X.K c D).nx ((frz fz ss).set i (.own (l.set j d))) | _=>False):=q
 split at q
 ·rename_i l el
  obtain ⟨p,xs,g1,g2,g3,g4,g5⟩:=R.sl.own i l el
  refine R.le q fun d v H1 R1 e1 r w=>⟨_,g1,R1.le w fun dk vk H2 R2 e2 rk w=>?_⟩
  cases dk <;> first | exact False.elim w | skip
  rename_i z
  cases (show vk=_ from rk)
  unfold atD at w
  dsimp only at w
  split at w
  ·rename_i j ej
   have e12:=e1.trans e2
   have r5:=R.sl.ups e12 g5
   exact ⟨p,xs,z,j,rfl,rfl,e12.sm.app p _ g3 g4,by rw [r5.len];exact ej,w O' σ _ (R2.wr el g1 (r5.set (R1.sl.up e2 r) j))⟩
  ·exact w.elim
 ·exact q.elim
def oAug:Operator->OD
 | .Add=>fun x y Q=>match x,y with | .int i,.int j=>Q (.int (i+j)) | .str a,.str b=>a.length+b.length<=sizeLine/\Q (.str (a++b)) | _,_=>False
 | .Sub=>oSub
 | .Mult=>fun x y Q=>match x,y with | .int i,.int j=>CMulB i j/\Q (.int (i*j)) | _,_=>False
 | .FloorDiv=>oDiv
 | _=>oNever
theorem oAug.mono {op:Operator}:∀ {x y Q Q'},(∀ d,Q d->Q' d)->oAug op x y Q->oAug op x y Q':=by
 cases op
 all_goals first | exact oSub.mono | exact oDiv.mono | exact fun _ q=>q | skip
 all_goals (intro x y Q Q' h;cases x <;> cases y <;> intro q <;> first | exact h _ q | exact q | exact ⟨q.1,h _ q.2⟩)
theorem rd_aug {k:Nat} (hr:Room k X.A) (op:Operator):Rng X (inplaceOp op) (oAug op):=by
 cases op
 case Add =>
  refine ⟨_,OpR.or2 iop_add iop_add_str,fun f O σ ss H dx dy x y Q R rx ry h=>?_⟩
  cases dx <;> cases dy <;> first | (exact False.elim h) | skip
  ·cases rx;cases ry
   exact .inl ⟨_,_,rfl,rfl,h _ H (Ex.refl R.fl) rfl⟩
  ·cases rx;cases ry
   exact .inr ⟨_,_,rfl,rfl,h.1,h.2 _ H (Ex.refl R.fl) rfl⟩
 case Sub =>
  refine ⟨_,iop_sub,fun f O σ ss H dx dy x y Q R rx ry h=>?_⟩
  cases dx <;> cases dy <;> first | (exact False.elim h) | skip
  cases rx;cases ry
  exact ⟨_,_,rfl,rfl,h _ H (Ex.refl R.fl) rfl⟩
 case Mult=>exact rd_int iop_mulB fun dx dy Q h=>by cases dx <;> cases dy <;> first | (exact False.elim h) | exact ⟨_,_,rfl,rfl,h.1,h.2⟩
 case FloorDiv=>exact rd_int (iop_fdivB hr) fun dx dy Q h=>by cases dx <;> cases dy <;> first | (exact False.elim h) | exact ⟨_,_,rfl,rfl,h.1,h.2⟩
 all_goals exact Rng.never
def mn (fz:List Nat) (i:Nat) (op:Operator) (e:TEd):TSd:=⟨fun E ss=>match (frz fz ss)[i]? with | some (.val x)=>e.run (frz fz ss) fun y=>oAug op x y fun z=>E.nx ((frz fz ss).set i (.val z)) | _=>False,fun {E E' ss} h q=>by
 revert q
 split
 ·exact e.mono fun y=>oAug.mono fun z=>h.nx _
 ·exact id⟩
theorem mn.ok {k0:Nat} {fz:List Nat} {i:Nat} {x:Str} {op:Operator} {p':Pos} (hk0:Room k0 X.A) (hN:X.N.Nodup) (hi:X.N[i]? = some x) (hx:Loc X.env.scope x) (h:PE X a (LE X.K ta)) (hf:X.fn x=true\/X.env.scope.names.lookup x=some .local) :
  PS X (.AugAssign (.Name x p') op a pos) (LS X.K (mn fz i op ta)):=by
 obtain ⟨r,hr,hd⟩:=rd_aug (X:=X) hk0 op
 refine (ps_aug (pos:=pos) hN hi hx h (ti:=r) hr hf).weak fun D σ H ⟨c,O,ss,R,q⟩=>?_
 obtain ⟨O',R⟩:=R.frz (fz:=fz)
 have q:(match (frz fz ss)[i]? with | some (.val x)=>ta.run (frz fz ss) fun y=>oAug op x y fun z=>(endsD X.K c D).nx ((frz fz ss).set i (.val z)) | _=>False):=q
 split at q
 ·rename_i dx ex
  obtain ⟨v,g1,g2⟩:=R.sl.val i dx ex
  refine ⟨v,g1,R.le q fun dy y H1 R1 e1 ry w=>?_⟩
  refine hd c.f O' σ _ H1 dx dy v y _ R1.sl (R.sl.up e1 g2) ry (oAug.mono (fun z w v' H2 e2 rz=>?_) w)
  have R2:=R1.ex e2
  exact w O' _ H2 (R2.to (R2.sl.set rz) Sub.set)
 ·exact q.elim
def augD (l:List D) (dk:D) (Q:Nat->D->Prop):Prop:=match dk with | .int z=>0<=z/\(match l[z.toNat]? with | some x=>Q z.toNat x | none=>False) | _=>False
theorem augD.mono {l:List D} {dk:D} {Q Q':Nat->D->Prop} (h:∀ j x,Q j x->Q' j x):augD l dk Q->augD l dk Q':=by
 cases dk <;> first | exact id | skip
 unfold augD
 dsimp only
 split
 ·exact fun q=>⟨q.1,h _ _ q.2⟩
 ·exact id
def ky (fz:List Nat) (i:Nat) (k:TEd) (op:Operator) (e:TEd):TSd:=⟨fun E ss=>match (frz fz ss)[i]? with | some (.own l)=>k.run (frz fz ss) fun dk=>augD l dk fun j x=>e.run (frz fz ss) fun y=>oAug op x y fun z=>E.nx ((frz fz ss).set i (.own (l.set j z))) | _=>False,fun {E E' ss} h q=>by
 revert q
 split
 ·exact k.mono fun dk=>augD.mono fun j x=>e.mono fun y=>oAug.mono fun z=>h.nx _
 ·exact id⟩
theorem ky.ok {k0:Nat} {fz:List Nat} {i:Nat} {x k:Expr} {tk:TEd} {op:Operator} {sp:Pos} (hk0:Room k0 X.A) (hx:PE X x (tVar i)) (hk:PE X k (LE X.K tk)) (h:PE X a (LE X.K ta)) (ha:∀ ov iv new,augStore k ov iv new=(do holding [new,ov,iv] (setItem ov iv new);release [new,ov,iv] [];pure .next)) :
  PS X (.AugAssign (.Subscript x k sp) op a pos) (LS X.K (ky fz i tk op ta)):=by
 obtain ⟨r,hr,hd⟩:=rd_aug (X:=X) hk0 op
 refine (ps_augS (pos:=pos) (tpos:=sp) hx hk (getL X.K) h (tip:=r) hr set_list ha).weak fun D σ H ⟨c,O,ss,R,q⟩=>?_
 obtain ⟨O',R⟩:=R.frz (fz:=fz)
 have q:(match (frz fz ss)[i]? with | some (.own l)=>tk.run (frz fz ss) fun dk=>augD l dk fun j x=>ta.run (frz fz ss) fun y=>oAug op x y fun z=>(endsD X.K c D).nx ((frz fz ss).set i (.own (l.set j z))) | _=>False):=q
 split at q
 ·rename_i l el
  obtain ⟨p,xs,g1,g2,g3,g4,g5⟩:=R.sl.own i l el
  refine ⟨_,g1,R.le q fun dk vk H1 R1 e1 rk w=>?_⟩
  cases dk <;> first | exact False.elim w | skip
  rename_i z
  cases (show vk=_ from rk)
  obtain ⟨z0,w⟩:=w
  obtain ⟨j,rfl⟩:=dL z0
  rw [bo] at w
  split at w
  ·rename_i dx hx
   obtain ⟨v,hv,rv⟩:=g5.get hx
   refine ⟨p,xs,v,j,rfl,rfl,SqL.of (e1.sm.app p _ g3 g4),hv,R1.le w fun dy y H2 R2 e2 ry w=>?_⟩
   refine hd c.f O' σ _ H2 dx dy v y _ R2.sl (R1.sl.up e2 (R.sl.up e1 rv)) ry (oAug.mono (fun z w v' H3 e3 rz=>?_) w)
   have R3:=R2.ex e3
   have e13:=e1.trans (e2.trans e3)
   have r5:=R.sl.ups e13 g5
   have hj:j<xs.length:=(ak.mp hv).1
   refine ⟨p,xs,_,j,rfl,rfl,e13.sm.app p _ g3 g4,?_,w O' σ _ (R3.wr el g1 (r5.set rz j))⟩
   unfold ixN
   rw [if_pos (by omega),if_pos (by omega),bo]
  ·exact w.elim
 ·exact q.elim
def ownInt (l:D) (b:TEd) (s:SS) (Q:List D->Int->Prop):Prop:=match l with
 | .lst l=>b.run s fun d=>match d with | .int z=>Q l z | _=>False
 | _=>False
theorem ownInt.mono {l:D} {b:TEd} {s:SS} {Q Q':List D->Int->Prop} (h:∀ l z,Q l z->Q' l z):ownInt l b s Q->ownInt l b s Q':=by
 cases l <;> first | exact id | skip
 exact b.mono fun d q=>by
  revert q
  cases d <;> first | exact id | exact h _ _
def nL (fz:List Nat) (i j:Nat) (a b:TEd):TSd:=⟨fun E ss=>a.run (frz fz ss) fun d=>ownInt d b (frz fz ss) fun l z=>E.nx (((frz fz ss).set i (.own l)).set j (.val (.int z))),fun h q=>a.mono (fun d q=>ownInt.mono (fun l z q=>h.nx _ q) q) q⟩
theorem nL.weak {fz:List Nat} {i j:Nat} {D:Ends} {σ:St} {ta tb:TEd} (h:LS X.K (nL fz i j ta tb) D σ H):tPar i j (tCons (LF X.K ta) (tCons (LE X.K tb) tNil)) D σ H:=by
 obtain ⟨c,O,ss,R,q⟩:=h
 obtain ⟨O',R⟩:=R.frz (fz:=fz)
 refine ⟨c.f,O',_,R.sl,ta.mono (fun d q=>?_) q⟩
 cases d <;> first | exact False.elim q | skip
 rename_i l
 refine ⟨l,rfl,fun p xs H1 e1 hp hx r=>?_⟩
 have R1:=R.ex e1
 refine R1.le q fun d' v' H2 R2 e2 r' w=>?_
 cases d' <;> first | exact False.elim w | skip
 rename_i z
 cases (show v'=_ from r')
 have pO:p ∉ O':=fun hO=>by
  obtain ⟨ys,hy⟩:=R.sl.al p hO
  rw [hp] at hy
  cases hy
 have kp:=e2.kp R1.sl.fO
 have kp':Kp (p::O') H1 H2:=fun b o n h=>kp b o (fun z=>n (au _ z)) h
 have al':∀ b∈p::O',∃ xs,H1 b=some (.lst xs):=fun b hb=>by
  rcases ar.mp hb with z | z
  ·exact ⟨xs,z ▸ hx⟩
  ·exact R1.sl.al b z
 have R3:=R.mkOwn (i:=i) (e1.trans e2) hp (kp p _ pO hx) (r.kp kp' al')
 exact ⟨.ref p,.int z,rfl,w (p::O') _ H2 (R3.to (R3.sl.set (i:=j) (d:=.int z) (v:=.int z) rfl) Sub.set)⟩
def startD (n:Nat) (ds:List D):SS:=ds.map SD.val++List.replicate (n-ds.length) SD.no
theorem startD.ok {N:List Str} {ds:List D} {vs:List V} (fl:Fl H f) (fO:f∈O) (al:∀ a∈O,∃ xs,H a=some (.lst xs)) (lO:∀ l r,H f=some (.lst (.ref l::r))->l ∉ O) (r:Rps K f O H ds vs):StR K ⟨f,O,H,O⟩ O (L2.start N vs) H (startD N.length ds):=by
 have len:(startD N.length ds).length=(L2.start N vs).length:=by
  unfold startD L2.start
  rw [av,av,ab,ab,ce,ce,r.len]
 have get:∀ {i:Nat} {s:SD},(startD N.length ds)[i]? = some s->(∃ d,s = .val d/\ds[i]? = some d)\/s = .no:=fun {i s} h=>by
  unfold startD at h
  rcases am i (ds.map SD.val).length with z | z
  ·rw [aY z,aG] at h
   obtain ⟨d,h1,h2⟩:=aa.mp h
   exact .inl ⟨d,h2.symm,h1⟩
  ·rw [aL z] at h
   exact .inr (ff (aI h))
 refine ⟨⟨fl,fO,al,lO,len,fun i d h=>?_,fun i l h=>?_⟩,fun _ h=>h,⟨fun _ _ h _ _=>h,fun l r h=>⟨r,h⟩⟩,fun a h=>.inl h,fun i l a h=>?_⟩
 ·rcases get h with ⟨d',e,h1⟩ | e
  ·cases e
   obtain ⟨v,h2,h3⟩:=r.get h1
   refine ⟨v,?_,h3⟩
   unfold L2.start
   have hv:=(ak.mp h2).1
   rw [aY (by rw [ab];exact hv),aG,h2]
   rfl
  ·cases e
 ·rcases get h with ⟨d',e,h1⟩ | e <;> cases e
 ·rcases get h with ⟨d',e,h1⟩ | e <;> cases e
@[reducible] def endQ (Q:D->Prop):EndsD:=⟨fun _=>Q .non,Q,fun _=>False,fun _=>False⟩
def Does (n:Nat) (t:TSd) (s:SpB):Prop:=∀ ds Q,ds.length=s.n->s.run ds Q->t.run (endQ Q) (startD n ds)
theorem Does.ok {t:TSd} {s:SpB} {N:List Str} (h:Does N.length t s) {vs:List V} {Q:VK} {E:XK} (hs:LSp K s.n s.run vs H Q E):LS K t { nx:=fun _ H'=>Q .non H',rt:=Q } (L2.start N vs) H:=by
 obtain ⟨hn,f,O,ds,fl,fO,al,lO,r,q⟩:=hs
 refine ⟨⟨f,O,H,O⟩,O,_,startD.ok fl fO al lO r,?_⟩
 have q:=h ds _ (r.len.symm.trans hn) q
 refine t.mono ?_ q
 refine ⟨fun s q O' σ' H' R=>?_,fun d q v H' R=>?_,fun _ q=>q.elim,fun _ q=>q.elim⟩
 ·exact q .non H' ⟨⟨fun b o n h=>R.kp.kp b o h n (by by_cases z:b∈O;exact .inl z;exact .inr z),R.kp.key⟩,R.sl.fl⟩ rfl
 ·exact q v H' ⟨⟨fun b o n h=>R.kp.kp b o h n (by by_cases z:b∈O;exact .inl z;exact .inr z),R.kp.key⟩,R.fl⟩ R.rp
end Dp
namespace Dp
open PySem L2
variable {K:PySem.W.Frag} {f:Addr} {O O':List Addr} {H H':Hp} {X:Cx} {σ:St} {ss:SS} {a b:Expr} {ta tb tc:TEd} {tA tB:TTd} {pos:Pos} {c:Cs}
def LSpN (K:PySem.W.Frag) (n:Nat) (sp:SpD):Sp:=fun vs H Q _=>vs.length=n/\∃ f O ds,Fl H f/\f∈O/\(∀ a∈O,∃ xs,H a=some (.lst xs))/\(∀ l r,H f=some (.lst (.ref l::r))->l ∉ O)/\Rps K f O H ds vs/\sp ds fun d=>∃ l,d = .lst l/\∀ p xs H',Ex f H H'->H p=none->H' p=some (.lst xs)->Rps K f (p::O) H' l xs->Q (.ref p) H'
theorem gS.okF {e:Expr} {s:SpB} {t:TAd} (h:PE X e (tCall (LSpN X.K s.n s.run) [] E0 (LA X.K t))):PE X e (LF X.K (gS s t)):=h.weak fun σ H Q ⟨f,O,ss,S,q⟩ =>
 ⟨f,O,ss,S,t.mono (fun ds q vs H1 e1 r1=>by
  have S1:=S.ex e1
  refine ⟨by rw [b9,r1.len];exact q.1,f,O,ds,S1.fl,S1.fO,S1.al,S1.lO,by rw [b9];exact r1,?_⟩
  exact s.mono (fun d ⟨l,el,q⟩=>⟨l,el,fun p xs H' e hp hx r=>q p xs H' (e1.trans e) (e1.low (fun z=>S1.nO hp (z ▸ S1.fO)) hp) hx r⟩) q.2) q⟩
end Dp
namespace Dp
open PySem L2
variable {K:PySem.W.Frag} {f:Addr} {O O':List Addr} {H H':Hp} {X:Cx} {σ:St} {ss:SS} {a b:Expr} {ta tb tc:TEd} {tA tB:TTd} {pos:Pos} {c:Cs}
mutual
def D.lf:D->Bool
 | .tup ds=>D.lfs ds
 | .lst _=>false | .fl=>false
 | .exn _ _ ds=>D.lfs ds
 | .dct _ ds=>D.lfs ds
 | .int _=>true | .str _=>true | .non=>true | .bl _=>true
def D.lfs:List D->Bool
 | []=>true
 | d::ds=>d.lf && D.lfs ds
end
mutual
theorem Rp.any:∀ {d:D} {v:V},d.lf=true->Rp K f O H d v->Rp K f O' H d v
 | .non,_,_,h=>h
 | .bl _,_,_,h=>h
 | .int _,_,_,h=>h
 | .str _,_,_,h=>h
 | .fl,_,z,_=>by cases z
 | .lst _,_,z,_=>by cases z
 | .tup l,v,z,h=>by
  obtain ⟨a,xs,e1,h1,h2⟩:=h
  exact ⟨a,xs,e1,h1,Rps.any z h2⟩
 | .exn C x l,v,z,h=>by
  obtain ⟨a,us,e1,h1,h2⟩:=h
  exact ⟨a,us,e1,h1,Rps.any z h2⟩
 | .dct ks l,v,z,h=>by
  obtain ⟨a,us,e1,h1,h2,h3⟩:=h
  exact ⟨a,us,e1,h1,h2,Rps.any z h3⟩
theorem Rps.any:∀ {ds:List D} {vs:List V},D.lfs ds=true->Rps K f O H ds vs->Rps K f O' H ds vs
 | [],_,_,h=>h
 | d::ds,_,z,h=>by
  have z:=ao.mp (show (d.lf && D.lfs ds)=true from z)
  obtain ⟨v,r,e1,h1,h2⟩:=h
  exact ⟨v,r,e1,Rp.any z.1 h1,Rps.any z.2 h2⟩
end
end Dp
namespace Dp
open PySem L2
variable {K:PySem.W.Frag} {f:Addr} {O O':List Addr} {H H':Hp} {X:Cx} {σ:St} {ss:SS} {a:Expr} {ta:TEd} {pos:Pos}
def oddD (l:List D):List D:=(List.range (l.length / 2)).filterMap fun m=>l[1+m*2]?
theorem Rps.odds {ds:List D} {vs:List V} (r:Rps K f O H ds vs):∀ ms:List Nat,Rps K f O H (ms.filterMap fun m=>ds[1+m*2]?) (ms.filterMap fun m=>vs[1+m*2]?)
 | []=>.nil
 | m::ms=>by
  have ih:=Rps.odds r ms
  rw [bx,bx]
  cases hx:ds[1+m*2]? with
  | none =>
   have:vs[1+m*2]? = none:=by
    have h1:=bF.mp hx
    exact bF.mpr (by rw [r.len];exact h1)
   rw [this]
   exact ih
  | some x =>
   obtain ⟨u,hu,ru⟩:=r.get hx
   rw [hu]
   exact .cons ru ih
theorem Rps.odd {ds:List D} {vs:List V} (r:Rps K f O H ds vs):Rps K f O H (oddD ds) (oddV vs):=by
 unfold oddD oddV
 rw [r.len]
 exact r.odds _
def pq (a:TEd):TEd:=⟨fun ss Q=>a.run ss fun d=>match d with | .tup l=>Q (.tup (oddD l)) | _=>False,fun {ss Q Q'} h q=>a.mono (fun d q=>by
 revert q
 cases d <;> first | exact h _ | exact id) q⟩
theorem pq.ok {j k:Nat} {p1 p2 p3:Pos} (ha:PE X a (LE X.K ta)):PE X (.Subscript a (.Slice (some (.Constant (.int 1) j p1)) none (some (.Constant (.int 2) k p3)) p2) pos) (LE X.K (pq ta)):=by
 refine (pe_slice3 (pos:=pos) (p2:=p2) (oddT X.K) ha (po_some (pe_int (j:=j) (pos:=p1))) po_none (po_some (pe_int (j:=k) (pos:=p3)))).weak fun σ H Q ⟨f,O,ss,S,q⟩=>?_
 refine ⟨f,O,ss,S,ta.mono (fun d q v H1 e1 r=>?_) q⟩
 have S1:=S.ex e1
 cases d <;> first | exact False.elim q | skip
 rename_i l
 obtain ⟨p,xs,rfl,h1,h2⟩:=r
 exact ⟨_,rfl,_,rfl,rfl,rfl,rfl,p,xs,rfl,h1,fun p hp=>q _ _ (e1.trans (S1.new hp _)) (S1.tup hp h2.odd)⟩
end Dp
namespace Dp
open PySem L2
variable {K:PySem.W.Frag} {X:Cx} {T:Tc} {pos p p2:Pos} {a b e:Expr} {E:FE} {F:FT}
theorem _root_.L2.PTs.weak {es:List Expr} {t t':TT} (h:PTs X es t) (w:∀ σ H Q,t' σ H Q->t σ H Q):PTs X es t':=fun pins s σ H Q I q=>h pins s σ H Q I (w σ H Q q)
end Dp
namespace Dp
open PySem L2
variable {P:Program} {w:World} {K:PySem.W.Frag} {mg:Str->Option Value} {base:Heap}
def spFlow (K:PySem.W.Frag):Sp:=fun vs H Q _=>∃ (a:Addr) (ns:List Int),vs=[.ref a]/\SqL K H a (ns.map V.int)/\ns.length<=63/\∀ f H',Same H H'->Fl H' f->H f=none->Q (.ref f) H'
def spPickB:Sp:=fun vs H Q _=>∃ (f:Addr) (m:Int),vs=[.ref f,.int m]/\Fl H f/\0<m/\Lt2 9000 m/\∀ d H',0<=d->d<m->Fl H' f->Sm f H H'->Q (.int d) H'
def spLaw (K:PySem.W.Frag):Sp:=fun vs H Q _=>∃ (a:Addr) (ns:List Int),vs=[.ref a]/\SqL K H a (ns.map V.int)/\ns.length<=63/\∀ H',Q (.bl true) H'
def gR:SpB:=.of 2 (α:=Int) (fun m ds=>ds=[.fl,.int m]/\0<m/\Lt2 9000 m) (fun m d=>∃ i,d = .int i/\0<=i/\i<m)
theorem pick_deep {k:Nat} {ps:List Str} (g:Def P w K mg base "_law_pick" k ps spPickB):Def P w K mg base "_law_pick" k ps (LSp K gR.n gR.run):=by
 obtain ⟨f,fd,F,r⟩:=g.ex
 refine ⟨f,fd,F.imp (fun vs H Q E h=>?_),r⟩
 obtain ⟨hn,f,O,ds,fl,fO,al,lO,rp,m,⟨rfl,m0,m1⟩,q⟩:=h
 obtain ⟨v,v',rfl,e1,e2⟩:=Rps.two rp
 cases (show v=_ from e1)
 cases (show v'=_ from e2)
 exact ⟨f,m,rfl,fl,m0,m1,fun d H' d0 d1 fl' sm=>q (.int d) ⟨d,rfl,d0,d1⟩ _ H' ⟨sm,fl'⟩ rfl⟩
end Dp
namespace Ds
section
open PySem L2 Dp
variable {X:Cx}
def bTb:List (Str×Bool×String×BB):=[("len",true, "len",⟨bLen,bLen.mono⟩),("abs",true, "abs",⟨bAbs,bAbs.mono⟩),("all",true, "all",⟨bAll,bAll.mono⟩),("sum",true, "sum",⟨bSum,bSum.mono⟩),("max",true, "max",⟨bMax,bMax.mono⟩),("int",false, "int",⟨bInt,bInt.mono⟩),("tuple",false, "tuple",⟨bTuple,bTuple.mono⟩),("dict",false, "dict",⟨bDict,bDict.mono⟩)]
def bNm (x:Str):Option (Bool×String×BB):=bTb.lookup x
theorem bNm_ok {j:Nat} (hr:Room j X.A) (hc:X.calm=true) (B:Bl X.mg) {x:Str} {k:Bool} {id:String} {o:BB} (h:bNm x=some (k,id,o)):X.mg x=none/\x ≠ "__name__" /\ (x == ("__debug__" : Str))=false/\(if k then bootBuiltins x=some (.builtin id)/\RB X (.builtin id) o.run else bootBuiltins x=some (.type id)/\RB X (.type id) o.run):=by
 have m:=lk_mem h
 unfold bTb at m
 rcases ar.mp m with e | m
 ·cases e
  exact ⟨B.len,by decide,by decide,bt_len,rb_len⟩
 rcases ar.mp m with e | m
 ·cases e
  exact ⟨B.abs,by decide,by decide,bt_abs,rb_abs⟩
 rcases ar.mp m with e | m
 ·cases e
  exact ⟨B.all,by decide,by decide,bt_all,rb_all hc⟩
 rcases ar.mp m with e | m
 ·cases e
  exact ⟨B.sum,by decide,by decide,bt_sum,rb_sum hc⟩
 rcases ar.mp m with e | m
 ·cases e
  exact ⟨B.max,by decide,by decide,bt_max,rb_max hc⟩
 rcases ar.mp m with e | m
 ·cases e
  exact ⟨B.int,by decide,by decide,bt_int,rb_int⟩
 rcases ar.mp m with e | m
 ·cases e
  exact ⟨B.tuple,by decide,by decide,bt_tuple,rb_tuple⟩
 rcases ar.mp m with e | m
 ·cases e
  exact ⟨B.dict,by decide,by decide,bt_dict,rb_dict hc⟩
 cases m
end
section
open PySem L2 Dp
variable {K:PySem.W.Frag} {f:Addr} {O O':List Addr} {H H':Hp} {X:Cx} {σ:L2.St} {ss:SS} {a b:Expr} {ta tb tc:TEd} {tA tB:TTd} {pos:Pos} {c:Cs}
structure Tc where
 N:List Str
 sc:Scope
 G:List (Str×Nat×SpB)
 gc:List (Str×D)
 k:Nat
 fz:List (Nat×List Nat):=[]
 own:List Nat:=[]
 mu:List Nat:=[]
 gn:List (Str×Nat×SpB):=[]
def Tc.frz (T:Tc) (p:Pos):List Nat:=(T.fz.lookup p.line).getD []
def ixAt (x:Str):List Str->Option Nat
 | []=>none
 | y::r=>if x=y then some 0 else (ixAt x r).map (· + 1)
theorem ixAt_ok {x:Str}:∀ {N:List Str} {i:Nat},ixAt x N=some i->N[i]? = some x
 | [],_,h=>by cases h
 | y::r,i,h=>by
  unfold ixAt at h
  by_cases e:x=y
  ·rw [if_pos e] at h
   cases h
   rw [e]
   rfl
  ·rw [if_neg e] at h
   obtain ⟨j,h1,rfl⟩:=aa.mp h
   rw [dH]
   exact ixAt_ok h1
def isV:Option NameKind->Bool
 | some .local=>true | some .cell=>true | some .free=>true | _=>false
def okN (x:Str):Bool:=!(x == ("__debug__" : Str)) && !(x == ("__classdict__" : Str))
def Tc.slot (T:Tc) (x:Str):Option Nat:=if isV (T.sc.names.lookup x) && okN x then ixAt x T.N else none
def Tc.isG (T:Tc) (x:Str):Bool:=(T.sc.names.lookup x == some .globalImplicit) && okN x
structure CtxOk (T:Tc) (X:Cx):Prop where
 N:X.N=T.N
 nd:X.N.Nodup
 calm:X.calm=true
 room:Room T.k X.A
 vis:∀ x,isV (T.sc.names.lookup x)=true->Vis X.env.scope x
 gl:∀ x,T.sc.names.lookup x=some .globalImplicit->Gl X x
 loc:∀ x,T.sc.names.lookup x=some .local->X.env.scope.names.lookup x=some .local
 cf:∀ x,(T.sc.names.lookup x=some .cell\/T.sc.names.lookup x=some .free)->(X.env.scope.names.lookup x=some .cell\/X.env.scope.names.lookup x=some .free)
 fn:∀ x j s,(x,j,s)∈T.G->∃ ps,Def X.prog X.w X.K X.mg X.base x j ps (LSp X.K s.n s.run)
 gc:∀ x d,(x,d)∈T.gc->∃ v u,X.mg x=some u/\RelV v u/\∀ f O H,Rp X.K f O H d v
 bl:Bl X.mg
 cel:∀ x,T.sc.names.lookup x=some .cell->X.env.scope.names.lookup x=some .cell/\X.fn x=true
 gn:∀ x j s,(x,j,s)∈T.gn->∃ ps,Def X.prog X.w X.K X.mg X.base x j ps (LSpN X.K s.n s.run)
theorem okN_1 {x:Str} (h:okN x=true):(x == ("__debug__" : Str))=false:=by
 unfold okN at h
 rw [ao] at h
 exact dq _ |>.mp h.1
theorem okN_2 {x:Str} (h:okN x=true):(x == ("__classdict__" : Str))=false:=by
 unfold okN at h
 rw [ao] at h
 exact dq _ |>.mp h.2
variable {T:Tc}
theorem CtxOk.var (C:CtxOk T X) {x:Str} {i:Nat} {p:Pos} (h:T.slot x=some i):PE X (.Name x p) (tVar i):=by
 unfold Tc.slot at h
 split at h
 ·rename_i e
  obtain ⟨e1,e2⟩:=ao.mp e
  exact pe_var (by rw [C.N];exact ixAt_ok h) (C.vis x e1) (okN_1 e2) (okN_2 e2)
 ·cases h
theorem CtxOk.slot (C:CtxOk T X) {x:Str} {i:Nat} (h:T.slot x=some i):X.N[i]? = some x:=by
 unfold Tc.slot at h
 split at h
 ·rw [C.N]
  exact ixAt_ok h
 ·cases h
def isL:Option NameKind->Bool
 | some .local=>true | some .cell=>true | _=>false
theorem CtxOk.tgt (C:CtxOk T X) {x:Str} {i:Nat} {p:Pos} (hl:isL (T.sc.names.lookup x)=true) (hs:T.slot x=some i):PG X (.Name x p) (gName i):=by
 cases q:T.sc.names.lookup x with
 | none=>rw [q] at hl;cases hl
 | some k =>
  rw [q] at hl
  cases k <;> first | (cases hl;done) | skip
  ·exact pg_name C.nd (C.slot hs) (.inl (C.loc x q)) (.inr (C.loc x q))
  ·exact pg_name C.nd (C.slot hs) (.inr (C.cel x q).1) (.inl (C.cel x q).2)
theorem CtxOk.isG (C:CtxOk T X) {x:Str} (h:T.isG x=true):Gl X x/\(x == ("__debug__" : Str))=false:=by
 obtain ⟨e1,e2⟩:=ao.mp h
 exact ⟨C.gl x (eq_of_beq e1),okN_1 e2⟩
def nice:Expr->Bool
 | .Starred .. => false | .Slice .. => false | .Set .. => false | .SetComp .. => false | .DictComp .. => false
 | _=>true
theorem nice_star {e:Expr} (h:nice e=true) (es:List Expr) (env:Env):starEach (e::es) env=(false,eval e env)::starEach es env:=by
 cases e <;> first | rfl | cases h
theorem nice_ix {e:Expr} (h:nice e=true):PlainIx e:=by
 cases e <;> first | exact fun _ _=>rfl | cases h
theorem nice_in {e:Expr} (h:nice e=true) (op:CmpOp):behindInMarks op e=false:=by
 cases e <;> first | rfl | cases h
theorem nice_fold {e:Expr} (h:nice e=true) (env:Env) (x:Value):foldedSetIterable e env x=pure x:=by
 cases e <;> first | rfl | cases h
def isComp:Expr->Bool
 | .ListComp .. => true | .SetComp .. => true | .DictComp .. => true
 | _=>false
theorem nocomp_sw {e:Expr} (h:isComp e=false) (t:Option Expr) (l:Nat) (env:Env):swapsWith e t l env=pure false:=by
 cases e <;> first | rfl | cases h
def byVal:Expr->Bool
 | .UnaryOp .Not _ _=>false | .BoolOp .. => false | .IfExp .. => false | .Compare .. => false
 | _=>true
theorem byVal_ok {e:Expr} (h:byVal e=true) (env:Env) (whole:Sem Value):isTrue e env whole=(do let v ← whole;standAt e.pos;holding [v] (truthy v)):=by
 cases e with
 | UnaryOp op a p=>cases op <;> first | rfl | cases h
 | BoolOp=>cases h
 | IfExp=>cases h
 | Compare=>cases h
 | _=>rfl
def hideOf (N:List Str) (scope:Scope):List Nat:=(List.range N.length).filter fun i=>isL (scope.names.lookup (N.getD i ""))
def scOk (out scope:Scope):Bool:=decide (scope.kind = .function) && scope.names.all (fun y=>decide (scope.names.lookup y.1=some y.2)) && scope.names.all (fun y=>decide (y.2 ≠ .free) || decide (out.names.lookup y.1=some .cell) || decide (out.names.lookup y.1=some .free))
theorem CtxOk.compS (C:CtxOk T X) {scope:Scope} (h:scOk T.sc scope=true):CompS X.N X.env.scope scope (hideOf T.N scope):=by
 unfold scOk at h
 rw [ao,ao] at h
 obtain ⟨⟨h1,h2⟩,h3⟩:=h
 have one:∀ y∈scope.names,scope.names.lookup y.1=some y.2:=fun y hy=>of_decide_eq_true (bz.mp h2 y hy)
 refine ⟨of_decide_eq_true h1,one,fun y hy e=>?_,fun y hy e=>e ▸ one y hy,fun i hi e=>?_⟩
 ·have:=bz.mp h3 y hy
  rw [eK,eK] at this
  rcases this with (w | w) | w
  ·exact absurd e (of_decide_eq_true w)
  ·exact C.cf _ (.inl (of_decide_eq_true w))
  ·exact C.cf _ (.inr (of_decide_eq_true w))
 ·rw [C.N] at hi e
  exact bK.mpr ⟨bX.mpr hi,by rcases e with e | e <;> rw [e] <;> rfl⟩
theorem CtxOk.inner (C:CtxOk T X) {scope:Scope} (s2:Shared) (H2:Hp) (fp:List Addr) (pins:List (Addr×Obj)) (A:Addr):CtxOk { T with sc:=scope } (cCx X scope s2 H2 fp pins A) where
 N:=C.N
 nd:=C.nd
 calm:=C.calm
 room:=C.room
 vis:=fun x h=>by
  have e:(cCx X scope s2 H2 fp pins A).env.scope.names.lookup x=(scope.names.lookup x).map (reK X.env x):=lk_re
  have h:isV (scope.names.lookup x)=true:=h
  unfold Vis
  rw [e]
  cases q:scope.names.lookup x with
  | none=>rw [q] at h;cases h
  | some k =>
   rw [q] at h
   cases k
   ·exact .inl rfl
   ·exact .inr (.inl rfl)
   ·show some (reK X.env x .free)=_\/some (reK X.env x .free)=_\/some (reK X.env x .free)=_
    unfold reK
    split
    ·exact .inr (.inl rfl)
    ·exact .inr (.inr rfl)
   ·cases h
   ·cases h
 gl:=fun x h=>by
  have e:(cCx X scope s2 H2 fp pins A).env.scope.names.lookup x=(scope.names.lookup x).map (reK X.env x):=lk_re
  have h:scope.names.lookup x=some .globalImplicit:=h
  unfold Gl Env.kindOf
  rw [e,h]
  rfl
 loc:=fun x h=>by
  have e:(cCx X scope s2 H2 fp pins A).env.scope.names.lookup x=(scope.names.lookup x).map (reK X.env x):=lk_re
  have h:scope.names.lookup x=some .local:=h
  rw [e,h]
  rfl
 cf:=fun x h=>by
  have e:(cCx X scope s2 H2 fp pins A).env.scope.names.lookup x=(scope.names.lookup x).map (reK X.env x):=lk_re
  have h:scope.names.lookup x=some .cell\/scope.names.lookup x=some .free:=h
  rw [e]
  rcases h with h | h
  ·rw [h]
   exact .inl rfl
  ·rw [h]
   show some (reK X.env x .free)=_\/some (reK X.env x .free)=_
   unfold reK
   split
   ·exact .inl rfl
   ·exact .inr rfl
 fn:=C.fn
 gc:=C.gc
 bl:=C.bl
 cel:=fun x h=>by
  have e:(cCx X scope s2 H2 fp pins A).env.scope.names.lookup x=(scope.names.lookup x).map (reK X.env x):=lk_re
  have h:scope.names.lookup x=some .cell:=h
  refine ⟨by rw [e,h];rfl,?_⟩
  show (scope.names.lookup x == some .cell)=true
  rw [h]
  rfl
 gn:=C.gn
def trC:Const->Option D
 | .int i=>some (.int i) | .bool b=>some (.bl b) | .str x=>some (.str x) | .none=>some .non | _=>none
def gcAt (T:Tc) (x:Str):Option D:=T.gc.lookup x
def trGs (T:Tc):List Expr->Option (List Nat)
 | []=>some []
 | .Name x _::r=>if isL (T.sc.names.lookup x)=true then (T.slot x).bind fun i=>(trGs T r).map (i :: ·) else none
 | _=>none
def trG (T:Tc):Expr->Option TGd
 | .Name x _=>if isL (T.sc.names.lookup x)=true then (T.slot x).map gNm else none
 | .Tuple es _ _=>(trGs T es).map gTp
 | _=>none
def lenOwn (T:Tc) (x:Str) (as:List Expr):Option Nat:=if x = "len" then (match as with
 | [.Name y _]=>(T.slot y).bind fun i=>if T.mu.contains i then some i else none
 | _=>none) else none
theorem lenOwn_ok {x:Str} {as:List Expr} {i:Nat} (h:lenOwn T x as=some i):x = "len" /\ ∃ y p,as=[.Name y p]/\T.slot y=some i:=by
 unfold lenOwn at h
 split at h
 ·rename_i ex
  split at h
  ·rename_i y p
   obtain ⟨j,h1,h⟩:=af.mp h
   split at h
   ·cases h
    exact ⟨ex,y,p,rfl,h1⟩
   ·cases h
  ·cases h
 ·cases h
abbrev FE:=Expr->Option TEd
abbrev FT:=Expr->Option TTd
abbrev FA:=List Expr->Option TAd
def two (E:FE) (a b:Expr) (k:TEd->TEd->TEd):Option TEd:=(E a).bind fun ta=>(E b).map fun tb=>k ta tb
def cmpE (E:FE) (a:Expr):List CmpOp->List Expr->Option TEd
 | [op],[b]=>if nice b then two E a b (g8 op) else none
 | [op,op'],[b,c]=>if nice b && nice c then (E a).bind fun ta=>(E b).bind fun tb=>(E c).map fun tc=>i4 op op' ta tb tc else none
 | _,_=>none
def cmpT (E:FE) (a:Expr):List CmpOp->List Expr->Option TTd
 | [op],[b]=>if nice b then (two E a b (g8 op)).map gX else none
 | [op,op'],[b,c]=>if nice b && nice c then (E a).bind fun ta=>(E b).bind fun tb=>(E c).map fun tc=>gX (i4 op op' ta tb tc) else none
 | _,_=>none
def unE (E:FE) (a:Expr):UnaryOp->Option TEd
 | .USub=>(E a).map kB
 | .Not=>(E a).map ph
 | _=>none
def boE (E:FE) (p:Pos) (op:BoolOp):List Expr->Option TEd
 | [a]=>E a
 | a::b::r=>(E a).bind fun ta=>(E (.BoolOp op (b::r) p)).map fun tb=>match op with | .And=>pg ta tb | .Or=>dOr ta tb
 | []=>none
def boT (F:FT) (p:Pos) (op:BoolOp):List Expr->Option TTd
 | [a]=>F a
 | a::b::r=>(F a).bind fun ta=>(F (.BoolOp op (b::r) p)).map fun tb=>match op with | .And=>ja ta tb | .Or=>jf ta tb
 | []=>none
def oPart (E:FE):Option Expr->Option TOd
 | none=>some dNo
 | some e=>(E e).map lI
def isM1:Expr->Bool
 | .UnaryOp .USub (.Constant (.int i) _ _) _=>i == 1
 | _=>false
def isK (k:Int):Expr->Bool
 | .Constant (.int i) _ _=>i == k
 | _=>false
def oddE (E:FE) (a:Expr) (lo hi:Option Expr) (m:Expr):Option TEd:=match lo with
 | some l=>if isK 1 l && hi.isNone && isK 2 m then (E a).map pq else none
 | none=>none
def nmE (T:Tc) (x:Str):Option TEd:=match T.slot x with
 | some i=>some (gP i)
 | none=>if T.isG x then (gcAt T x).map dC else none
def ownAt (T:Tc):Expr->Option Nat
 | .Name x _=>(T.slot x).bind fun i=>if T.mu.contains i then some i else none
 | _=>none
def ixE (E:FE) (T:Tc) (a b:Expr):Option TEd:=if nice b then (match ownAt T a with
  | some i=>(E b).map (kC i)
  | none=>two E a b dIx) else none
def subE (E:FE) (T:Tc) (a:Expr):Expr->Option TEd
 | .Slice lo hi st _=>(match st with
  | none=>(E a).bind fun ta=>(oPart E lo).bind fun tl=>(oPart E hi).map fun tu=>dSl ta tl tu
  | some m=>if lo.isNone && hi.isNone && isM1 m then (E a).map oo else oddE E a lo hi m)
 | b=>ixE E T a b
def callE (E:FE) (A:FA) (T:Tc) (x:Str) (as:List Expr):Option TEd:=match T.G.lookup x with
 | some (j,s)=>if decide (j<=T.k) && !as.isEmpty then (A as).map (gS s) else none
 | none=>(bNm x).bind fun o=>match lenOwn T x as with
   | some i=>some (kr i)
   | none=>if as.isEmpty then none else (A as).map (dB o.2.2.run o.2.2.mono)
def itE (E:FE) (T:Tc) (tg e:Expr):Option TAd:=match e with
 | .Call (.Name x _) [a] [] _=>if x = "range" then (if nice a && T.isG "range" then (E a).map jC else none)
  else if x = "enumerate" then (match tg with
   | .Tuple .. => if nice a && T.isG "enumerate" then (E a).map iF else none
   | _=>none)
  else if x = "reversed" then (if nice a && T.isG "reversed" then (E a).map ku else none)
  else (E e).map il
 | .Call (.Name x _) [a,b] [] _=>if x = "range" then (if nice a && nice b && T.isG "range" then (E a).bind fun ta=>(E b).map (jA ta) else none)
  else (E e).map il
 | e=>(E e).map il
def compE (I:Option TAd) (E:FE) (F:FT) (T:Tc) (e tg:Expr) (ifs:List Expr) (sc:Scope):Option TEd:=I.bind fun ti=>(trG { T with sc:=sc } tg).bind fun g =>
 if g.tg.all (fun i=>(hideOf T.N sc).contains i) then (E e).bind fun te=>(match ifs with
  | []=>some (ia ti (hideOf T.N sc) g iG te)
  | [k]=>(F k).map fun tk=>ia ti (hideOf T.N sc) g tk te
  | _=>none) else none
def argE (E:FE):FA
 | []=>some gQ
 | e::r=>if nice e then (E e).bind fun te=>(argE E r).map fun tr=>gO te tr else none
def callTop (E:FE) (T:Tc) (cp:Pos) (as:List Expr) (ks:List Keyword):Expr->Option TEd
 | .Name x _=>if ks.isEmpty && T.isG x then callE E (argE E) T x as else none
 | _=>none
def gen1:List Comprehension->Option (Expr×Expr×List Expr)
 | [⟨tg,it,ifs,0⟩]=>if nice it then some (tg,it,ifs) else none
 | _=>none
mutual
def trE:Nat->Tc->Expr->Option TEd
 | 0,_,_=>none
 | n+1,T,e=>match e with
  | .Name x _=>nmE T x
  | .Constant k _ _=>(trC k).map dC
  | .BinOp a op b _=>two (trE n T) a b (gT op)
  | .Compare a ops bs _=>cmpE (trE n T) a ops bs
  | .UnaryOp op a _=>unE (trE n T) a op
  | .BoolOp op vs p=>boE (trE n T) p op vs
  | .IfExp k a b _=>(trT n T k).bind fun tk=>two (trE n T) a b (oO tk)
  | .Tuple es _ _=>(argE (trE n T) es).map gZ
  | .List es _=>(argE (trE n T) es).map ig
  | .Subscript a b _=>subE (trE n T) T a b
  | .Call g as ks p=>callTop (trE n T) T p as ks g
  | .ListComp e gs sc _=>if scOk T.sc sc then (gen1 gs).bind fun (tg,it,ifs)=>compE (itE (trE n T) T tg it) (trE n { T with sc:=sc }) (trT n { T with sc:=sc }) T e tg ifs sc else none
  | _=>none
def trT:Nat->Tc->Expr->Option TTd
 | 0,_,_=>none
 | n+1,T,e=>match e with
  | .Compare a ops bs _=>cmpT (trE n T) a ops bs
  | .UnaryOp op a p=>if op = .Not then (trT n T a).map jM else (trE n T (.UnaryOp op a p)).map lF
  | .BoolOp op vs p=>boT (trT n T) p op vs
  | .IfExp .. => none
  | e=>(trE n T e).map lF
end
end
section
open PySem L2 Dp
variable {K:PySem.W.Frag} {X:Cx} {T:Tc} {pos p p2:Pos} {a b e:Expr} {E:FE} {F:FT}
def EOk (X:Cx) (E:FE):Prop:=∀ {e:Expr} {t:TEd},E e=some t->PE X e (LE X.K t)
def FOk (X:Cx) (F:FT):Prop:=∀ {e:Expr} {t:TTd},F e=some t->PT X e (LT X.K t)
theorem gc_ok (C:CtxOk T X) {x:Str} {d:D} (hg:T.isG x=true) (h:gcAt T x=some d):PE X (.Name x p) (LE X.K (dC d)):=by
 obtain ⟨g1,g2⟩:=C.isG hg
 obtain ⟨v,u,h1,h2,h3⟩:=C.gc x d (lk_mem h)
 exact dC.ok (pe_glob g1 h1 h2 g2) h3
theorem trC_ok {k:Const} {d:D} {j:Nat} (h:trC k=some d):PE X (.Constant k j pos) (LE X.K (dC d)):=by
 cases k <;> first | (cases h;done) | skip
 all_goals (cases h)
 all_goals first | exact dC.ok pe_int fun _ _ _=>rfl | exact dC.ok pe_bl fun _ _ _=>rfl | exact dC.ok pe_str fun _ _ _=>rfl | exact dC.ok pe_non fun _ _ _=>rfl
theorem trGs_ok (C:CtxOk T X):∀ {es:List Expr} {is:List Nat},trGs T es=some is->PGs X es (gsAll is)/\(assignEach es X.env).length=is.length/\(assignEach es X.env).findIdx? (·.1)=none
 | [],is,h=>by
  cases h
  exact ⟨pgs_nil,rfl,rfl⟩
 | a::r,is,h=>by
  cases a <;> first | (cases h;done) | skip
  rename_i x p
  obtain ⟨hl,h⟩:=ae.mp (show (if isL (T.sc.names.lookup x)=true then (T.slot x).bind fun i=>(trGs T r).map (i :: ·) else none)=some is from h)
  obtain ⟨i,h1,h⟩:=af.mp h
  obtain ⟨is',h2,rfl⟩:=aa.mp h
  obtain ⟨q1,q2,q3⟩:=trGs_ok C h2
  refine ⟨pgs_cons (C.tgt hl h1) q1 rfl,?_,?_⟩
  ·show ((false,assign (.Name x p) X.env)::assignEach r X.env).length=_
   rw [aQ,q2]
   rfl
  ·show ((false,assign (.Name x p) X.env)::assignEach r X.env).findIdx? (·.1)=none
   rw [List.findIdx?_cons,q3]
   rfl
theorem trG_ok (C:CtxOk T X) {e:Expr} {g:TGd} (h:trG T e=some g):PG X e (LG X.K g):=by
 cases e <;> first | (cases h;done) | skip
 ·rename_i x p
  obtain ⟨hl,h⟩:=ae.mp (show (if isL (T.sc.names.lookup x)=true then (T.slot x).map gNm else none)=some g from h)
  obtain ⟨i,h1,rfl⟩:=aa.mp h
  exact gNm.ok (C.tgt hl h1)
 ·rename_i es k p
  obtain ⟨is,h1,rfl⟩:=aa.mp (show (trGs T es).map gTp=some g from h)
  obtain ⟨q1,q2,q3⟩:=trGs_ok C h1
  exact gTp.ok (pg_tup C.calm q1 q2 q3)
theorem two_ok {k:TEd->TEd->TEd} {t:TEd} (h:two E a b k=some t):∃ ta tb,E a=some ta/\E b=some tb/\t=k ta tb:=by
 obtain ⟨ta,h1,h⟩:=af.mp h
 obtain ⟨tb,h2,rfl⟩:=aa.mp h
 exact ⟨ta,tb,h1,h2,rfl⟩
theorem cmpE_ok (C:CtxOk T X) (ih:EOk X E):∀ {ops:List CmpOp} {bs:List Expr} {t:TEd},cmpE E a ops bs=some t->PE X (.Compare a ops bs pos) (LE X.K t)
 | [op],[b],t,h=>by
  obtain ⟨hn,h⟩:=ae.mp h
  obtain ⟨ta,tb,h1,h2,rfl⟩:=two_ok h
  exact g8.ok C.room (ih h1) (ih h2) (nice_in hn _)
 | [op,op'],[b,c],t,h=>by
  obtain ⟨hn,h⟩:=ae.mp h
  obtain ⟨n1,n2⟩:=ao.mp hn
  obtain ⟨ta,h1,h⟩:=af.mp h
  obtain ⟨tb,h2,h⟩:=af.mp h
  obtain ⟨tc,h3,rfl⟩:=aa.mp h
  exact i4.ok C.room (ih h1) (ih h2) (ih h3) (nice_in n2 _)
 | [],_,_,h=>by cases h
 | [_],[],_,h=>by cases h
 | [_],_::_::_,_,h=>by cases h
 | [_,_],[],_,h=>by cases h
 | [_,_],[_],_,h=>by cases h
 | [_,_],_::_::_::_,_,h=>by cases h
 | _::_::_::_,_,_,h=>by cases h
theorem cmpT_ok (C:CtxOk T X) (ih:EOk X E):∀ {ops:List CmpOp} {bs:List Expr} {t:TTd},cmpT E a ops bs=some t->PT X (.Compare a ops bs pos) (LT X.K t)
 | [op],[b],t,h=>by
  obtain ⟨hn,h⟩:=ae.mp h
  obtain ⟨t0,h0,rfl⟩:=aa.mp h
  obtain ⟨ta,tb,h1,h2,rfl⟩:=two_ok h0
  exact g8.test C.room (ih h1) (ih h2) (nice_in hn _)
 | [op,op'],[b,c],t,h=>by
  obtain ⟨hn,h⟩:=ae.mp h
  obtain ⟨n1,n2⟩:=ao.mp hn
  obtain ⟨ta,h1,h⟩:=af.mp h
  obtain ⟨tb,h2,h⟩:=af.mp h
  obtain ⟨tc,h3,rfl⟩:=aa.mp h
  exact i4.test C.room (ih h1) (ih h2) (ih h3) (nice_in n2 _)
 | [],_,_,h=>by cases h
 | [_],[],_,h=>by cases h
 | [_],_::_::_,_,h=>by cases h
 | [_,_],[],_,h=>by cases h
 | [_,_],[_],_,h=>by cases h
 | [_,_],_::_::_::_,_,h=>by cases h
 | _::_::_::_,_,_,h=>by cases h
theorem unE_ok (ih:EOk X E) {op:UnaryOp} {t:TEd} (h:unE E a op=some t):PE X (.UnaryOp op a pos) (LE X.K t):=by
 cases op <;> first | (cases h;done) | skip
 ·obtain ⟨ta,h1,rfl⟩:=aa.mp (show (E a).map ph=some t from h)
  exact ph.ok (ih h1)
 ·obtain ⟨ta,h1,rfl⟩:=aa.mp (show (E a).map kB=some t from h)
  exact kB.ok (ih h1)
theorem boE_ok (ih:EOk X E):∀ {op:BoolOp} {vs:List Expr} {t:TEd},boE E p op vs=some t->PE X (.BoolOp op vs p) (LE X.K t)
 | _,[a],_,h=>pe_one (ih h)
 | .And,a::b::r,t,h=>by
  obtain ⟨ta,h1,h⟩:=af.mp h
  obtain ⟨tb,h2,rfl⟩:=aa.mp h
  exact pg.ok (ih h1) (ih h2)
 | .Or,a::b::r,t,h=>by
  obtain ⟨ta,h1,h⟩:=af.mp h
  obtain ⟨tb,h2,rfl⟩:=aa.mp h
  exact dOr.ok (ih h1) (ih h2)
 | _,[],_,h=>by cases h
theorem boT_ok (ih:FOk X F) (iw:∀ {op:BoolOp} {vs:List Expr} {p:Pos} {t:TTd},F (.BoolOp op vs p)=some t->PW X (.BoolOp op vs p) (LT X.K t)):∀ {op:BoolOp} {vs:List Expr} {t:TTd},boT F p op vs=some t->PW X (.BoolOp op vs p) (LT X.K t)
 | .And,[a],_,h=>pw_and1 (ih h)
 | .Or,[a],_,h=>pw_or1 (ih h)
 | .And,a::b::r,t,h=>by
  obtain ⟨ta,h1,h⟩:=af.mp h
  obtain ⟨tb,h2,rfl⟩:=aa.mp h
  exact ja.ok (ih h1) (iw h2)
 | .Or,a::b::r,t,h=>by
  obtain ⟨ta,h1,h⟩:=af.mp h
  obtain ⟨tb,h2,rfl⟩:=aa.mp h
  exact jf.ok (ih h1) (iw h2)
 | _,[],_,h=>by cases h
theorem oPart_ok (ih:EOk X E):∀ {o:Option Expr} {t:TOd},oPart E o=some t->PO X o (LO X.K t)
 | none,_,h=>by
  cases h
  exact dNo.ok
 | some e,t,h=>by
  obtain ⟨ta,h1,rfl⟩:=aa.mp h
  exact lI.ok (ih h1)
theorem isM1_ok {m:Expr} (h:isM1 m=true):∃ j p1 p3,m = .UnaryOp .USub (.Constant (.int 1) j p1) p3:=by
 unfold isM1 at h
 split at h
 ·rename_i i j p1 p3
  have e:i=1:=eq_of_beq h
  exact ⟨j,p1,p3,by rw [e]⟩
 ·cases h
theorem ownAt_ok (C:CtxOk T X) {i:Nat} (h:ownAt T a=some i):PE X a (tVar i):=by
 cases a <;> first | (cases h;done) | skip
 obtain ⟨j,h1,h⟩:=af.mp h
 obtain ⟨_,h⟩:=ae.mp h
 cases h
 exact C.var h1
theorem isK_ok {k:Int} {m:Expr} (h:isK k m=true):∃ j p1,m = .Constant (.int k) j p1:=by
 unfold isK at h
 split at h
 ·rename_i i j p1
  have e:i=k:=eq_of_beq h
  exact ⟨j,p1,by rw [e]⟩
 ·cases h
theorem oddE_ok {lo hi:Option Expr} {m:Expr} {p2:Pos} (ih:EOk X E) {t:TEd} (h:oddE E a lo hi m=some t):PE X (.Subscript a (.Slice lo hi (some m) p2) pos) (LE X.K t):=by
 cases lo with
 | none=>cases h
 | some l =>
  obtain ⟨hm,h⟩:=ae.mp (show (if isK 1 l && hi.isNone && isK 2 m then (E a).map pq else none)=some t from h)
  obtain ⟨hm,m2⟩:=ao.mp hm
  obtain ⟨l1,h2⟩:=ao.mp hm
  cases hi with
  | some _=>cases h2
  | none =>
   obtain ⟨j,p1,rfl⟩:=isK_ok l1
   obtain ⟨k,p3,rfl⟩:=isK_ok m2
   obtain ⟨ta,h1,rfl⟩:=aa.mp h
   exact pq.ok (ih h1)
theorem subE_ok (C:CtxOk T X) (ih:EOk X E) {t:TEd} (h:subE E T a b=some t):PE X (.Subscript a b pos) (LE X.K t):=by
 have key:∀ {b:Expr},ixE E T a b=some t->PE X (.Subscript a b pos) (LE X.K t):=fun {b} h=>by
  obtain ⟨hn,h⟩:=ae.mp h
  cases ho:ownAt T a with
  | some i =>
   rw [ho] at h
   obtain ⟨tb,h2,rfl⟩:=aa.mp h
   exact kC.ok (ownAt_ok C ho) (ih h2) (nice_ix hn)
  | none =>
   rw [ho] at h
   obtain ⟨ta,tb,h1,h2,rfl⟩:=two_ok h
   exact dIx.ok (ih h1) (ih h2) (nice_ix hn)
 cases b
 case Slice lo hi st p2 =>
  cases st with
  | none =>
   obtain ⟨tk,h0,h⟩:=af.mp (show (E a).bind (fun ta=>(oPart E lo).bind fun tl=>(oPart E hi).map fun tu=>dSl ta tl tu)=some t from h)
   obtain ⟨ta,h1,h⟩:=af.mp h
   obtain ⟨tb,h2,rfl⟩:=aa.mp h
   exact dSl.ok (ih h0) (oPart_ok ih h1) (oPart_ok ih h2)
  | some m =>
   have h:(if lo.isNone && hi.isNone && isM1 m then (E a).map oo else oddE E a lo hi m)=some t:=h
   split at h
   rotate_left
   ·exact oddE_ok ih h
   rename_i hm
   obtain ⟨hm,m1⟩:=ao.mp hm
   obtain ⟨l1,l2⟩:=ao.mp hm
   cases lo <;> cases hi <;> first | (cases l1;done) | (cases l2;done) | skip
   obtain ⟨j,p1,p3,rfl⟩:=isM1_ok m1
   obtain ⟨ta,h1,rfl⟩:=aa.mp h
   exact oo.ok (k:=0) (ih h1)
 all_goals exact key h
theorem argE_ok (ih:EOk X E):∀ {es:List Expr} {t:TAd},argE E es=some t->PA X es (LA X.K t)
 | [],t,h=>by
  cases h
  exact gQ.ok
 | e::r,t,h=>by
  obtain ⟨hn,h⟩:=ae.mp h
  obtain ⟨ta,h1,h⟩:=af.mp h
  obtain ⟨tb,h2,rfl⟩:=aa.mp h
  exact gO.ok (ih h1) (argE_ok ih h2) (nice_star hn _ _)
theorem argE_star {r:List Expr} {t:TAd} (h:argE E (a::r)=some t):starEach (a::r) X.env=(false,eval a X.env)::starEach r X.env:=nice_star (ae.mp h).1 _ _
theorem argE_plain:∀ {r:List Expr} {t:TAd},argE E r=some t->(backTo pos (starEach r X.env)).any (·.1)=false
 | [],_,_=>rfl
 | a::r,t,h=>by
  rw [argE_star h]
  obtain ⟨hn,h⟩:=ae.mp h
  obtain ⟨ta,h1,h⟩:=af.mp h
  obtain ⟨tb,h2,rfl⟩:=aa.mp h
  have:=argE_plain h2
  unfold backTo at this ⊢
  rw [bW,fg,this]
  rfl
theorem argE_tail {r:List Expr} {t:TAd} (h:argE E (a::r)=some t):(backTo pos (starEach r X.env)).any (·.1)=false:=by
 obtain ⟨hn,h⟩:=ae.mp h
 obtain ⟨ta,h1,h⟩:=af.mp h
 obtain ⟨tb,h2,rfl⟩:=aa.mp h
 exact argE_plain h2
theorem callE_ok (C:CtxOk T X) (ih:EOk X E) {x:Str} {as:List Expr} {t:TEd} (hg:T.isG x=true) (h:callE E (argE E) T x as=some t):PE X (.Call (.Name x p) as [] pos) (LE X.K t):=by
 obtain ⟨g1,g2⟩:=C.isG hg
 unfold callE at h
 cases e1:T.G.lookup x with
 | some js =>
  obtain ⟨j,s⟩:=js
  rw [e1] at h
  obtain ⟨hk,h⟩:=ae.mp h
  obtain ⟨k1,k2⟩:=ao.mp hk
  obtain ⟨tb,h2,rfl⟩:=aa.mp h
  cases as with
  | nil=>cases k2
  | cons a r =>
   obtain ⟨ps,d⟩:=C.fn x j s (lk_mem e1)
   exact gS.ok (pe_def d C.room (argE_ok ih h2) (of_decide_eq_true k1) g1 g2 (argE_star h2) (argE_tail h2))
 | none =>
  rw [e1] at h
  dsimp only at h
  obtain ⟨⟨k,id,o⟩,e0,h3⟩:=af.mp h
  obtain ⟨b1,b2,b3,b4⟩:=bNm_ok C.room C.calm C.bl e0
  cases e2:lenOwn T x as with
  | some i =>
   rw [e2] at h3
   have h4:some (kr i)=some t:=h3
   obtain ⟨rfl,y,p2,rfl,e3⟩:=lenOwn_ok e2
   cases h4
   exact kr.ok g1 C.bl.len (C.var e3) rfl
  | none =>
   rw [e2] at h3
   obtain ⟨hne,h5⟩:=eE.mp (show (if as.isEmpty=true then none else (argE E as).map (dB o.run o.mono))=some t from h3)
   obtain ⟨tb,h2,rfl⟩:=aa.mp h5
   cases as with
   | nil=>exact absurd rfl hne
   | cons a r =>
    cases k with
    | true =>
     obtain ⟨b5,rr,b6,b7⟩:=b4
     exact dB.ok b7 (pe_callB b6 g1 b1 b5 (argE_ok ih h2) b2 b3 (argE_star h2) (argE_tail h2))
    | false =>
     obtain ⟨b5,rr,b6,b7⟩:=b4
     exact dB.ok b7 (pe_callTy b6 g1 b1 b5 (argE_ok ih h2) b2 b3 (argE_star h2) (argE_tail h2))
theorem callTop_ok (C:CtxOk T X) (ih:EOk X E) {g:Expr} {as:List Expr} {ks:List Keyword} {t:TEd} (h:callTop E T pos as ks g=some t):PE X (.Call g as ks pos) (LE X.K t):=by
 unfold callTop at h
 split at h
 ·obtain ⟨hk,h1⟩:=ae.mp h
  clear h
  obtain ⟨k0,hg⟩:=ao.mp hk
  cases List.isEmpty_iff.mp k0
  exact callE_ok C ih hg h1
 ·cases h
theorem itE_ok (C:CtxOk T X) (ih:EOk X E) {tg e:Expr} {t:TAd} (h:itE E T tg e=some t):PI X tg e (LI X.K t):=by
 have wk:(E e).map il=some t->PI X tg e (LI X.K t):=fun h=>by
  obtain ⟨ta,h1,rfl⟩:=aa.mp h
  exact il.ok (ih h1)
 unfold itE at h
 split at h
 ·rename_i x p1 a p2
  by_cases ex:x = "range"
  ·subst ex
   obtain ⟨hn,h⟩:=ae.mp (show (if nice a && T.isG "range" then (E a).map jC else none)=some t from h)
   obtain ⟨n1,n2⟩:=ao.mp hn
   obtain ⟨ta,h1,rfl⟩:=aa.mp h
   exact jC.ok (C.isG n2).1 C.bl.range (ih h1) (nice_star n1 _ _)
  ·rw [if_neg ex] at h
   by_cases ex:x = "enumerate"
   ·subst ex
    cases tg <;> first | (cases h;done) | skip
    obtain ⟨hn,h⟩:=ae.mp (show (if nice a && T.isG "enumerate" then (E a).map iF else none)=some t from h)
    obtain ⟨n1,n2⟩:=ao.mp hn
    obtain ⟨ta,h1,rfl⟩:=aa.mp h
    exact iF.ok (C.isG n2).1 C.bl.enumerate (ih h1) (nice_star n1 _ _)
   ·rw [if_neg ex] at h
    by_cases ex:x = "reversed"
    ·subst ex
     obtain ⟨hn,h⟩:=ae.mp (show (if nice a && T.isG "reversed" then (E a).map ku else none)=some t from h)
     obtain ⟨n1,n2⟩:=ao.mp hn
     obtain ⟨ta,h1,rfl⟩:=aa.mp h
     exact ku.ok (C.isG n2).1 C.bl.reversed (ih h1) (nice_star n1 _ _)
    ·rw [if_neg ex] at h
     exact wk h
 ·rename_i x p1 a b p2
  by_cases ex:x = "range"
  ·subst ex
   obtain ⟨hn,h⟩:=ae.mp (show (if nice a && nice b && T.isG "range" then (E a).bind fun ta=>(E b).map (jA ta) else none)=some t from h)
   obtain ⟨n1,n2⟩:=ao.mp hn
   obtain ⟨n0,n1⟩:=ao.mp n1
   obtain ⟨ta,h1,h⟩:=af.mp h
   obtain ⟨tb,h2,rfl⟩:=aa.mp h
   exact jA.ok (C.isG n2).1 C.bl.range (ih h1) (ih h2) (by rw [nice_star n0,nice_star n1];rfl) (nice_star n1 _ _)
  ·rw [if_neg ex] at h
   exact wk h
 ·exact wk h
theorem compE_is {I:Option TAd} {e tg:Expr} {ifs:List Expr} {sc:Scope} {t:TEd} (C:CtxOk T X) (h:compE I E F T e tg ifs sc=some t) (ih:∀ s2 H2 fp pins A,EOk (cCx X sc s2 H2 fp pins A) E) (ihF:∀ s2 H2 fp pins A,FOk (cCx X sc s2 H2 fp pins A) F) :
  ∃ ti g te tk,I=some ti/\t=ia ti (hideOf T.N sc) g tk te/\(∀ i∈g.tg,i∈hideOf T.N sc)/\(∀ s2 H2 fp pins A,PG (cCx X sc s2 H2 fp pins A) tg (LG X.K g))/\(∀ s2 H2 fp pins A,PTs (cCx X sc s2 H2 fp pins A) ifs (LT X.K tk))/\∀ s2 H2 fp pins A,PE (cCx X sc s2 H2 fp pins A) e (LE X.K te):=by
 obtain ⟨ti,h1,h⟩:=af.mp h
 obtain ⟨g,h2,h⟩:=af.mp h
 obtain ⟨hg,h⟩:=ae.mp h
 obtain ⟨te,h3,h⟩:=af.mp h
 have hh:∀ i∈g.tg,i∈hideOf T.N sc:=fun i hi=>by simpa using bz.mp hg i hi
 match ifs,h with
 | [],h =>
  cases h
  exact ⟨ti,g,te,iG,h1,rfl,hh,fun _ _ _ _ _=>trG_ok (C.inner ..) h2,fun _ _ _ _ _=>pts_nil.weak fun σ H Q ⟨f,O,ss,S,q⟩=>q H (Ex.refl S.fl),fun _ _ _ _ _=>ih _ _ _ _ _ h3⟩
 | [k],h =>
  obtain ⟨tk,h4,rfl⟩:=aa.mp h
  exact ⟨ti,g,te,tk,h1,rfl,hh,fun _ _ _ _ _=>trG_ok (C.inner ..) h2,fun _ _ _ _ _=>pts_one (ihF _ _ _ _ _ h4),fun _ _ _ _ _=>ih _ _ _ _ _ h3⟩
 | _::_::_,h=>cases h
theorem gen1_ok {gs:List Comprehension} {tg it:Expr} {ifs:List Expr} (h:gen1 gs=some (tg,it,ifs)):gs=[⟨tg,it,ifs,0⟩]/\nice it=true:=by
 unfold gen1 at h
 split at h
 ·obtain ⟨hn,h⟩:=ae.mp h
  cases h
  exact ⟨rfl,hn⟩
 ·cases h
structure TrOk (n:Nat):Prop where
 e:∀ {T:Tc} {X:Cx},CtxOk T X->EOk X (trE n T)
 t:∀ {T:Tc} {X:Cx},CtxOk T X->FOk X (trT n T)
 w:∀ {T:Tc} {X:Cx} {op:BoolOp} {vs:List Expr} {p:Pos} {t:TTd},CtxOk T X->trT n T (.BoolOp op vs p)=some t->PW X (.BoolOp op vs p) (LT X.K t)
theorem tru_ok2 (ih:EOk X E) {t:TTd} (hb:byVal e=true) (h:(E e).map lF=some t):PT X e (LT X.K t):=by
 obtain ⟨ta,h1,rfl⟩:=aa.mp h
 exact lF.ok (ih h1) fun w=>byVal_ok hb _ w
theorem tr_ok:∀ n,TrOk n
 | 0=>⟨fun _ _ _ h=>(by cases h),fun _ _ _ h=>(by cases h),fun _ h=>(by cases h)⟩
 | n+1=>by
  have ih:=tr_ok n
  have hw:∀ {T:Tc} {X:Cx} {op:BoolOp} {vs:List Expr} {p:Pos} {t:TTd},CtxOk T X->trT (n+1) T (.BoolOp op vs p)=some t->PW X (.BoolOp op vs p) (LT X.K t):=fun C h=>boT_ok (ih.t C) (ih.w C) h
  refine ⟨fun {T X} C {e t} h=>?_,fun {T X} C {e t} h=>?_,hw⟩
  ·cases e <;> first | (cases h;done) | skip
   case Name x p =>
    have h:nmE T x=some t:=h
    unfold nmE at h
    cases hs:T.slot x with
    | some i =>
     rw [hs] at h
     cases h
     exact gP.ok (C.var hs)
    | none =>
     rw [hs] at h
     obtain ⟨hg,h⟩:=ae.mp h
     obtain ⟨d,h1,rfl⟩:=aa.mp h
     exact gc_ok C hg h1
   case Constant k j p =>
    obtain ⟨d,h1,rfl⟩:=aa.mp (show (trC k).map dC=some t from h)
    exact trC_ok h1
   case BinOp a op b p =>
    obtain ⟨ta,tb,h1,h2,rfl⟩:=two_ok (show two (trE n T) a b (gT op)=some t from h)
    exact gT.ok C.room (ih.e C h1) (ih.e C h2)
   case Compare=>exact cmpE_ok C (ih.e C) h
   case UnaryOp=>exact unE_ok (ih.e C) h
   case BoolOp=>exact boE_ok (ih.e C) h
   case IfExp k a b p =>
    obtain ⟨tk,h0,h⟩:=af.mp (show (trT n T k).bind (fun tk=>two (trE n T) a b (oO tk))=some t from h)
    obtain ⟨ta,tb,h1,h2,rfl⟩:=two_ok h
    exact oO.ok (ih.t C h0) (ih.e C h1) (ih.e C h2)
   case Tuple es k p =>
    obtain ⟨ta,h1,rfl⟩:=aa.mp (show (argE (trE n T) es).map gZ=some t from h)
    exact gZ.ok (argE_ok (ih.e C) h1)
   case List es p =>
    obtain ⟨ta,h1,rfl⟩:=aa.mp (show (argE (trE n T) es).map ig=some t from h)
    exact ig.ok (argE_ok (ih.e C) h1)
   case Subscript=>exact subE_ok C (ih.e C) h
   case Call g as ks p =>
    exact callTop_ok C (ih.e C) h
   case ListComp e gs sc p =>
    obtain ⟨hs,h⟩:=ae.mp (show (if scOk T.sc sc then (gen1 gs).bind fun (tg,it,ifs)=>compE (itE (trE n T) T tg it) (trE n { T with sc:=sc }) (trT n { T with sc:=sc }) T e tg ifs sc else none)=some t from h)
    obtain ⟨⟨tg,it,ifs⟩,h1,h2⟩:=af.mp h
    obtain ⟨rfl,hn⟩:=gen1_ok h1
    obtain ⟨ti,g,te,tk,q1,rfl,q2,q3,q4,q5⟩:=compE_is C h2 (fun _ _ _ _ _=>ih.e (C.inner ..)) (fun _ _ _ _ _=>ih.t (C.inner ..))
    exact ia.ok C.calm (C.compS hs) (itE_ok C (ih.e C) q1) q3 q4 q5 (fun x=>nice_fold hn _ x) q2
  ·cases e
   case Compare=>exact cmpT_ok C (ih.e C) h
   case UnaryOp op a p =>
    have h:(if op = .Not then (trT n T a).map jM else (trE n T (.UnaryOp op a p)).map lF)=some t:=h
    by_cases eo:op = .Not
    ·subst eo
     obtain ⟨ta,h1,rfl⟩:=aa.mp (show (trT n T a).map jM=some t from h)
     exact jM.ok (ih.t C h1)
    ·rw [if_neg eo] at h
     refine tru_ok2 (ih.e C) ?_ h
     cases op <;> first | rfl | exact absurd rfl eo
   case BoolOp=>exact (hw C h).pt
   case IfExp=>cases h
   all_goals exact tru_ok2 (ih.e C) rfl h
end
section
open PySem L2 Dp
variable {K:PySem.W.Frag} {X:Cx} {T:Tc} {pos:Pos}
structure CtxS (T:Tc) (X:Cx):Prop extends CtxOk T X where
 scope:X.env.scope=T.sc
 bk:X.env.blockKind = .function
 xe:X.xe=fun _ _=>False
 fnT:∀ x,X.fn x=true
theorem CtxS.L (C:CtxS T X) {x:Str} (h:isL (T.sc.names.lookup x)=true):Loc X.env.scope x:=by
 unfold L2.Loc
 rw [C.scope]
 cases q:T.sc.names.lookup x with
 | none=>rw [q] at h;cases h
 | some k=>rw [q] at h;cases k <;> first | exact .inl rfl | exact .inr rfl | cases h
theorem qg.ok {fz:List Nat} {scope:Scope} {hide:List Nat} {it:TAd} {g:TGd} {c:TTd} {e:TEd} {tg iter elt:Expr} {ifs:List Expr} {i:Nat} {y:Str} {py ep:Pos} (hc:X.calm=true) (hN:X.N.Nodup) (hy:X.N[i]? = some y) (hl:Loc X.env.scope y) (Sc:CompS X.N X.env.scope scope hide) (hi:PI X tg iter (LI X.K it))
  (hg:∀ s2 H2 fp pins C,PG (cCx X scope s2 H2 fp pins C) tg (LG X.K g)) (ht:∀ s2 H2 fp pins C,PTs (cCx X scope s2 H2 fp pins C) ifs (LT X.K c)) (he:∀ s2 H2 fp pins C,PE (cCx X scope s2 H2 fp pins C) elt (LE X.K e))
  (hs:∀ x,foldedSetIterable iter X.env x=pure x) (hh:∀ i∈g.tg,i∈hide) (hsw:swapsWith (.ListComp elt [⟨tg,iter,ifs,0⟩] scope ep) (some (.Name y py)) pos.line X.env=pure true) (hf:X.fn y=true\/X.env.scope.names.lookup y=some .local) :
  PS X (.Assign [.Name y py] (.ListComp elt [⟨tg,iter,ifs,0⟩] scope ep) pos) (LS X.K (gU fz (gNm i) (ia it hide g c e))) :=
 (ps_setC (spos:=pos) hc hN hy hl Sc hi hg ht he hs hsw hf).weak fun D σ H ⟨c0,O,ss,R,q⟩=>by
  obtain ⟨O',R⟩:=R.frz (fz:=fz)
  refine ⟨c0.f,O',_,R.sl,it.mono (fun ds q J H1 e1 D0=>?_) q⟩
  refine compD.ok (R.sl.ex e1) hh D0 (compD.mono (fun d q v H' e r=>?_) q)
  have R2:=R.ex (e1.trans e)
  exact q O' _ H' (R2.to (R2.sl.set r) Sub.set)
def swB (T:Tc) (x:Str) (px ep:Pos) (sc:Scope):Bool:=(T.sc.names.lookup x == some .local) && (px.line == ep.line) && !(sc.names.any fun (n,k)=>n == x && (k == .local || k == .cell))
theorem swB_ok (C:CtxS T X) {e:Expr} {gs:List Comprehension} {x:Str} {px ep:Pos} {sc:Scope} {l:Nat}:swapsWith (.ListComp e gs sc ep) (some (.Name x px)) l X.env=pure (swB T x px ep sc):=by
 unfold swapsWith swB
 show (pure (X.env.blockKind == .function && X.env.kindOf x == some .local && px.line == ep.line && !(sc.names.any fun (n,k)=>n == x && (k == .local || k == .cell))):Sem Bool)=_
 rw [C.bk]
 unfold Env.kindOf
 rw [C.scope]
 rfl
def parB (T:Tc) (x y:Str) (px py:Pos) (a b:Expr):Bool:=nice a && nice b && (T.sc.names.lookup x == some .local) && (T.sc.names.lookup y == some .local) && (py.line == px.line) && !(x == y) && !(foldedForSure 8 a && foldedForSure 8 b) && !(constantsAlone 8 a && constantsAlone 8 b)
theorem par_ok (C:CtxS T X) {x y:Str} {px py pt pt2:Pos} {a b:Expr} {kt k2:Nat} (h:parB T x y px py a b=true):swappedStores [.Tuple [.Name x px,.Name y py] kt pt] (.Tuple [a,b] k2 pt2) X.env=pure (some [x,y]):=by
 unfold parB at h
 simp only [aV,dq] at h
 obtain ⟨⟨⟨⟨⟨⟨⟨h1,h2⟩,h3⟩,h4⟩,h5⟩,h6⟩,h7⟩,h8⟩:=h
 have s1:∀ {e:Expr},nice e=true->(match e with | .Starred .. => true | _=>false)=false:=fun {e} h=>by cases e <;> first | rfl | cases h
 have k1:X.env.kindOf x == some .local:=by unfold Env.kindOf;rw [C.scope];exact h3
 have k2:X.env.kindOf y == some .local:=by unfold Env.kindOf;rw [C.scope];exact h4
 have n1:(y == x)=false:=by
  cases q:y == x with
  | false=>rfl
  | true =>
   have:=eq_of_beq q
   subst this
   rw [beq_self_eq_true] at h6
   cases h6
 have k1':=eq_of_beq k1
 have k2':=eq_of_beq k2
 have h5':py.line=px.line:=eq_of_beq h5
 have ed:([x,y]:List Str).eraseDups=[x,y]:=by
  rw [List.eraseDups_cons]
  simp [n1]
  rfl
 unfold swappedStores
 have ep:∀ (x:Str) (p:Pos),(Expr.Name x p).pos=p:=fun _ _=>rfl
 simp [C.bk,bx,gz,k1',k2',ep,h5',ed]
 rw [if_neg,if_neg,if_neg]
 ·rintro ⟨q1,q2⟩
  rw [q1,q2] at h8
  cases h8
 ·rintro ⟨q1,q2⟩
  rw [q1,q2] at h7
  cases h7
 ·rintro (q | q)
  ·cases a <;> first | (cases h1;done) | cases q
  ·cases b <;> first | (cases h2;done) | cases q
def celled (T:Tc) (x y:Str) (a b:Expr):Bool:=!((T.sc.names.lookup x == some .local) && (T.sc.names.lookup y == some .local)) || (foldedForSure 8 a && foldedForSure 8 b)
theorem celled_ok (C:CtxS T X) {x y:Str} {px py pt pt2:Pos} {a b:Expr} {kt k2:Nat} (h:celled T x y a b=true):swappedStores [.Tuple [.Name x px,.Name y py] kt pt] (.Tuple [a,b] k2 pt2) X.env=pure none:=by
 unfold celled at h
 rcases gu.mp h with h | h
 ·have h:(X.env.kindOf x == some .local)=false\/(X.env.kindOf y == some .local)=false:=by
   unfold Env.kindOf
   rw [C.scope]
   revert h
   cases T.sc.names.lookup x == some .local <;> cases T.sc.names.lookup y == some .local <;> simp
  unfold swappedStores
  simp only [bx,gz]
  rcases h with h | h <;> simp only [h,Bool.false_and,cT,if_false]
  all_goals (split <;> first | rfl | skip)
  all_goals (split <;> first | rfl | skip)
  all_goals (repeat' split) <;> first | rfl | simp_all
 ·have e:[a,b].all (foldedForSure 8)=true:=by
   show (foldedForSure 8 a && (foldedForSure 8 b && true))=true
   rw [Bool.and_true]
   exact h
  unfold swappedStores
  dsimp only
  rw [if_pos e]
  repeat' split
  all_goals rfl
def methOf:Expr->Option (Str×Str×Pos×List Expr×Pos)
 | .Call (.Attribute (.Name x _) m ap) as [] cp=>if ap.endLine == cp.line then some (x,m,ap,as,cp) else none
 | _=>none
theorem methOf_ok {e:Expr} {x m:Str} {ap cp:Pos} {as:List Expr} (h:methOf e=some (x,m,ap,as,cp)):(∃ p,e = .Call (.Attribute (.Name x p) m ap) as [] cp)/\(ap.endLine == cp.line)=true:=by
 unfold methOf at h
 split at h
 ·obtain ⟨hl,h⟩:=ae.mp h
  cases h
  exact ⟨⟨_,rfl⟩,hl⟩
 ·cases h
def newC (E:FE) (T:Tc) (x:Str) (as:List Expr):Option TEd:=match T.gn.lookup x with
 | some (j,s)=>if decide (j<=T.k) && T.isG x then (argE E as).map (gS s) else none
 | none=>none
def newE (E:FE) (T:Tc):Expr->Option TEd
 | .List es _=>(argE E es).map ig
 | .BinOp a .Mult b _=>two E a b (gT .Mult)
 | .Call (.Name x _) [a] [] _=>if x = "list" then (if nice a && T.isG "list" then (E a).map i5 else none) else newC E T x [a]
 | .Call (.Name x _) [a,b] [] _=>newC E T x [a,b]
 | _=>none
def isTup:Expr->Bool
 | .Tuple .. => true | _=>false
def nmS (n:Nat) (T:Tc) (p:Pos) (i:Nat) (e:Expr):Option TSd:=match methOf e with
 | some (y,m,_,as,_)=>if m = "pop" then (match as with
  | []=>(T.slot y).map (nK i)
  | _=>none) else none
 | none=>if T.own.contains p.line then ((newE (trE n T) T e).map (j5 (T.frz p) i)) else (trE n T e).map (gU (T.frz p) (gNm i))
def parOf:List Expr->Expr->Option (Str×Pos×Str×Pos×Expr×Expr)
 | [.Name x px,.Name y py],.Tuple [a,b] _ _=>some (x,px,y,py,a,b)
 | _,_=>none
theorem parOf_ok {es:List Expr} {e a b:Expr} {x y:Str} {px py:Pos} (h:parOf es e=some (x,px,y,py,a,b)):es=[.Name x px,.Name y py]/\∃ k p,e = .Tuple [a,b] k p:=by
 unfold parOf at h
 split at h
 ·cases h
  exact ⟨rfl,_,_,rfl⟩
 ·cases h
def tupS (n:Nat) (T:Tc) (p:Pos) (es:List Expr) (e:Expr):Option TSd:=match parOf es e with
 | some (x,px,y,py,a,b)=>if parB T x y px py a b then (T.slot x).bind fun i=>(T.slot y).bind fun j=>(if T.own.contains p.line then (newE (trE n T) T a).bind fun ta=>(trE n T b).map (nL (T.frz p) i j ta) else (trE n T a).bind fun ta=>(trE n T b).map (mV (T.frz p) i j ta)) else if celled T x y a b then (trGs T es).bind fun is=>(trE n T e).map (gU (T.frz p) (gTp is)) else none
 | none=>if isTup e || isComp e then none else (trGs T es).bind fun is=>(trE n T e).map (gU (T.frz p) (gTp is))
def asgS (n:Nat) (T:Tc) (p:Pos) (e:Expr):Expr->Option TSd
 | .Name x _=>if isL (T.sc.names.lookup x)=true then (T.slot x).bind fun i=>nmS n T p i e else none
 | .Subscript a k _=>(match a with
  | .Name x _=>if nice k && !isComp e then (T.slot x).bind fun i=>(trE n T k).bind fun tk=>(trE n T e).map (kw (T.frz p) i tk) else none
  | _=>none)
 | .Tuple es _ _=>tupS n T p es e
 | _=>none
def exS (n:Nat) (T:Tc) (p:Pos) (e:Expr):Option TSd:=match methOf e with
 | some (x,m,_,as,_)=>if m = "append" then (match as with
   | [e]=>(if nice e then (T.slot x).bind fun i=>(trE n T e).map (mX (T.frz p) i) else none)
   | _=>none)
  else if m = "pop" then (if as.isEmpty then (T.slot x).map po else none)
  else none
 | none=>none
mutual
def trS:Nat->Tc->Stmt->Option TSd
 | 0,_,_=>none
 | n+1,T,st=>match st with
  | .Return o p=>(match o with
   | some e=>(trE n T e).map (g9 (T.frz p))
   | none=>some oI)
  | .Pass _=>some hV
  | .Break _=>some pj
  | .Expr e p=>exS n T p e
  | .Assign tgs e p=>(match tgs with
   | [tg]=>asgS n T p e tg
   | _=>none)
  | .AugAssign tg op e p=>(match tg with
   | .Name x _=>if isL (T.sc.names.lookup x)=true then (T.slot x).bind fun i=>(trE n T e).map (mn (T.frz p) i op) else none
   | .Subscript a k _=>(match a with
    | .Name x _=>if nice k then (T.slot x).bind fun i=>(trE n T k).bind fun tk=>(trE n T e).map (ky (T.frz p) i tk op) else none
    | _=>none)
   | _=>none)
  | .If k a b p=>(trT n T k).bind fun tk=>(trB n T a).bind fun ta=>(trB n T b).map fun tb=>dIf (T.frz p) tk ta tb
  | .While k a r _=>(match r with
   | []=>(trT n T k).bind fun tk=>(trB n T a).map (iM tk)
   | _=>none)
  | .For tg it a r p=>(match r with
   | []=>if nice it then (itE (trE n T) T tg it).bind fun ti=>(trG T tg).bind fun g=>(trB n T a).map (iC (T.frz p) ti g) else none
   | _=>none)
  | _=>none
def trB:Nat->Tc->List Stmt->Option TSd
 | 0,_,_=>none
 | n+1,T,sts=>match sts with
  | []=>some hV
  | st::r=>(match r with
   | []=>trS n T st
   | _=>(trS n T st).bind fun t=>(trB n T r).map (dSq t))
end
theorem newC_ok (C:CtxOk T X) {E:FE} (ih:EOk X E) {x:Str} {a:Expr} {as:List Expr} {t:TEd} {p pos:Pos} (h:newC E T x (a::as)=some t):PE X (.Call (.Name x p) (a::as) [] pos) (LF X.K t):=by
 unfold newC at h
 cases e1:T.gn.lookup x with
 | none=>rw [e1] at h;cases h
 | some js =>
  obtain ⟨j,s⟩:=js
  rw [e1] at h
  obtain ⟨hk,h⟩:=ae.mp h
  obtain ⟨k1,k2⟩:=ao.mp hk
  obtain ⟨tb,h2,rfl⟩:=aa.mp h
  obtain ⟨g1,g2⟩:=C.isG k2
  obtain ⟨ps,d⟩:=C.gn x j s (lk_mem e1)
  exact gS.okF (pe_def d C.room (argE_ok ih h2) (of_decide_eq_true k1) g1 g2 (argE_star h2) (argE_tail h2))
theorem newE_ok (C:CtxOk T X) {E:FE} (ih:EOk X E) {e:Expr} {t:TEd} (h:newE E T e=some t):PE X e (LF X.K t)/\isComp e=false:=by
 unfold newE at h
 split at h
 ·obtain ⟨ta,h1,rfl⟩:=aa.mp h
  exact ⟨ig.okF (argE_ok ih h1),rfl⟩
 ·obtain ⟨ta,tb,h1,h2,rfl⟩:=two_ok h
  exact ⟨qj.okF (ih h1) (ih h2),rfl⟩
 ·rename_i x p1 a p2
  by_cases ex:x = "list"
  ·rw [if_pos ex] at h
   obtain ⟨hn,h4⟩:=ae.mp h
   obtain ⟨n1,n2⟩:=ao.mp hn
   obtain ⟨ta,h1,rfl⟩:=aa.mp h4
   subst ex
   exact ⟨i5.okF (C.isG n2).1 C.bl.list (ih h1) (nice_star n1 _ _),rfl⟩
  ·rw [if_neg ex] at h
   exact ⟨newC_ok C ih h,rfl⟩
 ·exact ⟨newC_ok C ih h,rfl⟩
 ·cases h
theorem nocomp_sole {e:Expr} (h:isComp e=false) (t:Expr) (l:Nat) (env:Env):swapsWithSole [t] e l env=pure false:=nocomp_sw h (some t) l env
theorem trE_comp {n:Nat} (C:CtxOk T X) {e:Expr} {gs:List Comprehension} {sc:Scope} {p:Pos} {t:TEd} (h:trE n T (.ListComp e gs sc p)=some t):∃ tg it ifs ti g te tk,gs=[⟨tg,it,ifs,0⟩]/\nice it=true/\CompS X.N X.env.scope sc (hideOf T.N sc)/\PI X tg it (LI X.K ti)/\t=ia ti (hideOf T.N sc) g tk te/\(∀ i∈g.tg,i∈hideOf T.N sc)/\(∀ s2 H2 fp pins A,PG (cCx X sc s2 H2 fp pins A) tg (LG X.K g))/\(∀ s2 H2 fp pins A,PTs (cCx X sc s2 H2 fp pins A) ifs (LT X.K tk))/\∀ s2 H2 fp pins A,PE (cCx X sc s2 H2 fp pins A) e (LE X.K te):=by
 cases n with
 | zero=>cases h
 | succ n =>
  have ih:=tr_ok n
  obtain ⟨hs,h⟩:=ae.mp (show (if scOk T.sc sc then (gen1 gs).bind fun (tg,it,ifs)=>compE (itE (trE n T) T tg it) (trE n { T with sc:=sc }) (trT n { T with sc:=sc }) T e tg ifs sc else none)=some t from h)
  obtain ⟨⟨tg,it,ifs⟩,h1,h2⟩:=af.mp h
  obtain ⟨rfl,hn⟩:=gen1_ok h1
  obtain ⟨ti,g,te,tk,q1,q0,q2,q3,q4,q5⟩:=compE_is C h2 (fun _ _ _ _ _=>ih.e (C.inner ..)) (fun _ _ _ _ _=>ih.t (C.inner ..))
  exact ⟨tg,it,ifs,ti,g,te,tk,rfl,hn,C.compS hs,itE_ok C (ih.e C) q1,q0,q2,q3,q4,q5⟩
theorem nmS_ok {n:Nat} (C:CtxS T X) {i:Nat} {x:Str} {e:Expr} {t:TSd} {px p:Pos} (hl:isL (T.sc.names.lookup x)=true) (hs:T.slot x=some i) (h:nmS n T p i e=some t):PS X (.Assign [.Name x px] e p) (LS X.K t):=by
 have ih:EOk X (trE n T):=(tr_ok n).e C.toCtxOk
 have hf:X.fn x=true\/X.env.scope.names.lookup x=some .local:=.inl (C.fnT x)
 unfold nmS at h
 split at h
 ·rename_i y m ap as cp em
  obtain ⟨⟨p1,rfl⟩,hn⟩:=methOf_ok em
  obtain ⟨rfl,h3⟩:=ae.mp h
  match as,h3 with
  | [],h3 =>
   obtain ⟨j,h1,rfl⟩:=aa.mp h3
   exact nK.ok C.nd (C.slot hs) (C.L hl) hf (C.var h1) rfl hn rfl
  | _::_,h3=>cases h3
 ·by_cases ho:T.own.contains p.line=true
  ·rw [if_pos ho] at h
   obtain ⟨ta,h1,rfl⟩:=aa.mp h
   obtain ⟨q1,q2⟩:=newE_ok C.toCtxOk ih h1
   exact j5.ok C.nd (C.slot hs) (C.L hl) q1 (nocomp_sw q2 _ _ _) hf
  ·rw [if_neg ho] at h
   obtain ⟨ta,h1,rfl⟩:=aa.mp h
   have gen:isComp e=false->PS X (.Assign [.Name x px] e p) (LS X.K (gU (T.frz p) (gNm i) ta)):=fun hc=>qf.ok C.nd (C.slot hs) (C.L hl) (ih h1) (nocomp_sw hc _ _ _) hf
   cases e
   case ListComp e gs sc ep hmm =>
    obtain ⟨tg,it,ifs,ti,g,te,tk,rfl,hn,q0,qi,rfl,q2,q3,q4,q5⟩:=trE_comp C.toCtxOk h1
    cases sw:swB T x px ep sc with
    | false=>exact qf.ok C.nd (C.slot hs) (C.L hl) (ih h1) (by rw [swB_ok C,sw]) hf
    | true=>exact qg.ok C.calm C.nd (C.slot hs) (C.L hl) q0 qi q3 q4 q5 (fun x=>nice_fold hn _ x) q2 (by rw [swB_ok C,sw]) hf
   case SetComp=>cases n <;> cases h1
   case DictComp=>cases n <;> cases h1
   all_goals exact gen rfl
theorem tupS_ok {n:Nat} (C:CtxS T X) {es:List Expr} {e:Expr} {t:TSd} {p pt:Pos} {kt:Nat} (h:tupS n T p es e=some t):PS X (.Assign [.Tuple es kt pt] e p) (LS X.K t):=by
 have ih:EOk X (trE n T):=(tr_ok n).e C.toCtxOk
 unfold tupS at h
 split at h
 ·rename_i x px y py a b eo
  obtain ⟨rfl,k,p2,rfl⟩:=parOf_ok eo
  by_cases hp:parB T x y px py a b=true
  rotate_left
  ·rw [if_neg hp] at h
   obtain ⟨hc,h⟩:=ae.mp h
   obtain ⟨is,h1,h⟩:=af.mp h
   obtain ⟨ta,h2,rfl⟩:=aa.mp h
   obtain ⟨q1,q2,q3⟩:=trGs_ok C.toCtxOk h1
   exact gU.ok (ih h2) (gTp.ok (pg_tup C.calm q1 q2 q3)) (nocomp_sole rfl _ _ _) (celled_ok C hc) rfl
  rw [if_pos hp] at h
  obtain ⟨i,h1,h⟩:=af.mp h
  obtain ⟨j,h2,h⟩:=af.mp h
  have hp':=hp
  unfold parB at hp'
  simp only [aV,dq] at hp'
  obtain ⟨⟨⟨⟨⟨⟨⟨w1,w2⟩,w3⟩,w4⟩,w5⟩,w6⟩,w7⟩,w8⟩:=hp'
  have ne:i≠j:=by
   rintro rfl
   have a1:=C.slot h1
   have a2:=C.slot h2
   rw [a1] at a2
   cases a2
   rw [beq_self_eq_true] at w6
   cases w6
  by_cases ow:T.own.contains p.line=true
  ·rw [if_pos ow] at h
   obtain ⟨ta,h3,h⟩:=af.mp h
   obtain ⟨tb,h4,rfl⟩:=aa.mp h
   exact (ps_par (pos:=p) C.calm C.nd (C.slot h1) (C.slot h2) ne (C.loc _ (eq_of_beq w3)) (C.loc _ (eq_of_beq w4)) (pa_cons (newE_ok C.toCtxOk ih h3).1 (pa_cons (ih h4) pa_nil (nice_star w2 _ _)) (nice_star w1 _ _)) (par_ok C hp) rfl).weak fun D σ H q=>nL.weak q
  ·rw [if_neg ow] at h
   obtain ⟨ta,h3,h⟩:=af.mp h
   obtain ⟨tb,h4,rfl⟩:=aa.mp h
   exact (ps_par (pos:=p) C.calm C.nd (C.slot h1) (C.slot h2) ne (C.loc _ (eq_of_beq w3)) (C.loc _ (eq_of_beq w4)) (pa_cons (ih h3) (pa_cons (ih h4) pa_nil (nice_star w2 _ _)) (nice_star w1 _ _)) (par_ok C hp) rfl).weak fun D σ H q=>mV.weak q
 ·obtain ⟨hn,h⟩:=eE.mp h
  obtain ⟨is,h1,h⟩:=af.mp h
  obtain ⟨ta,h2,rfl⟩:=aa.mp h
  obtain ⟨q1,q2,q3⟩:=trGs_ok C.toCtxOk h1
  have hn2:isTup e=false/\isComp e=false:=by simpa using hn
  refine gU.ok (ih h2) (gTp.ok (pg_tup C.calm q1 q2 q3)) (nocomp_sole hn2.2 _ _ _) ?_ rfl
  have:=hn2.1
  cases e <;> first | rfl | cases this
theorem asgS_ok {n:Nat} (C:CtxS T X) {tg e:Expr} {t:TSd} {p:Pos} (h:asgS n T p e tg=some t):PS X (.Assign [tg] e p) (LS X.K t):=by
 have ih:EOk X (trE n T):=(tr_ok n).e C.toCtxOk
 cases tg <;> first | (cases h;done) | skip
 case Name x px =>
  obtain ⟨hl,h⟩:=ae.mp (show (if isL (T.sc.names.lookup x)=true then (T.slot x).bind fun i=>nmS n T p i e else none)=some t from h)
  obtain ⟨i,h1,h⟩:=af.mp h
  exact nmS_ok C hl h1 h
 case Subscript a k sp =>
  cases a <;> first | (cases h;done) | skip
  rename_i x q
  obtain ⟨hn,h⟩:=ae.mp (show (if nice k && !isComp e then (T.slot x).bind fun i=>(trE n T k).bind fun tk=>(trE n T e).map (kw (T.frz p) i tk) else none)=some t from h)
  obtain ⟨n1,n2⟩:=ao.mp hn
  obtain ⟨i,h1,h⟩:=af.mp h
  obtain ⟨tk,h2,h⟩:=af.mp h
  obtain ⟨ta,h3,rfl⟩:=aa.mp h
  have hc:isComp e=false:=by simpa using n2
  refine kw.ok (C.var h1) (ih h2) (ih h3) (nocomp_sole hc _ _ _) ?_ rfl (pg_sub (C.var h1) (ih h2) set_list ?_)
  ·cases e <;> rfl
  ·intro v
   cases k <;> first | rfl | cases n1
 case Tuple es k pt=>exact tupS_ok C h
theorem exS_ok {n:Nat} (C:CtxS T X) {e:Expr} {t:TSd} {p:Pos} (h:exS n T p e=some t):PS X (.Expr e p) (LS X.K t):=by
 have ih:EOk X (trE n T):=(tr_ok n).e C.toCtxOk
 unfold exS at h
 split at h
 ·rename_i x m ap as cp em
  obtain ⟨⟨p1,rfl⟩,hl⟩:=methOf_ok em
  by_cases e1:m = "append"
  ·subst e1
   rw [if_pos rfl] at h
   match as,h with
   | [e],h =>
    obtain ⟨hn,h⟩:=ae.mp h
    obtain ⟨i,h1,h⟩:=af.mp h
    obtain ⟨ta,h2,rfl⟩:=aa.mp h
    exact mX.ok (C.var h1) rfl (ih h2) (nice_star hn _ _) hl rfl
   | [],h=>cases h
   | _::_::_,h=>cases h
  ·rw [if_neg e1] at h
   by_cases e2:m = "pop"
   ·subst e2
    rw [if_pos rfl] at h
    obtain ⟨ha,h4⟩:=ae.mp h
    obtain ⟨i,h1,rfl⟩:=aa.mp h4
    cases as with
    | cons=>cases ha
    | nil=>exact po.ok (C.var h1) rfl hl rfl
   ·rw [if_neg e2] at h
    cases h
 ·cases h
theorem trS_ok:∀ n,(∀ {T:Tc} {X:Cx} {st:Stmt} {t:TSd},CtxS T X->trS n T st=some t->PS X st (LS X.K t))/\(∀ {T:Tc} {X:Cx} {sts:List Stmt} {t:TSd},CtxS T X->trB n T sts=some t->PSs X sts (LS X.K t))
 | 0=>⟨fun _ h=>(by cases h),fun _ h=>(by cases h)⟩
 | n+1=>by
  have ihS:=trS_ok n
  constructor
  ·intro T X st t C h
   have C':=C.toCtxOk
   have ih:EOk X (trE n T):=(tr_ok n).e C'
   have it:FOk X (trT n T):=(tr_ok n).t C'
   have hp:PassesOwn (model X.prog X.w) X.A X.env X.xe:=by
    rw [C.xe]
    exact PassesOwn.never
   cases st <;> first | (cases h;done) | skip
   case Return o p =>
    cases o with
    | none =>
     cases h
     exact oI.ok
    | some e =>
     obtain ⟨ta,h1,rfl⟩:=aa.mp (show (trE n T e).map (g9 (T.frz p))=some t from h)
     exact g9.ok (ih h1)
   case Pass=>cases h;exact hV.pass
   case Break=>cases h;exact pj.ok
   case Expr=>exact exS_ok C h
   case Assign tgs e p =>
    match tgs,h with
    | [tg],h=>exact asgS_ok C h
    | [],h=>cases h
    | _::_::_,h=>cases h
   case AugAssign tg op e p =>
    cases tg <;> first | (cases h;done) | skip
    case Name x px =>
     obtain ⟨hl,h⟩:=ae.mp (show (if isL (T.sc.names.lookup x)=true then (T.slot x).bind fun i=>(trE n T e).map (mn (T.frz p) i op) else none)=some t from h)
     obtain ⟨i,h1,h⟩:=af.mp h
     obtain ⟨ta,h2,rfl⟩:=aa.mp h
     exact mn.ok C.room C.nd (C'.slot h1) (C.L hl) (ih h2) (.inl (C.fnT _))
    case Subscript a k sp =>
     cases a <;> first | (cases h;done) | skip
     rename_i x q
     obtain ⟨hn,h⟩:=ae.mp (show (if nice k then (T.slot x).bind fun i=>(trE n T k).bind fun tk=>(trE n T e).map (ky (T.frz p) i tk op) else none)=some t from h)
     obtain ⟨i,h1,h⟩:=af.mp h
     obtain ⟨tk,h2,h⟩:=af.mp h
     obtain ⟨ta,h3,rfl⟩:=aa.mp h
     refine ky.ok C.room (C.var h1) (ih h2) (ih h3) ?_
     cases k <;> first | (intros;rfl) | cases hn
   case If k a b p =>
    obtain ⟨tk,h0,h⟩:=af.mp (show (trT n T k).bind (fun tk=>(trB n T a).bind fun ta=>(trB n T b).map fun tb=>dIf (T.frz p) tk ta tb)=some t from h)
    obtain ⟨ta,h1,h⟩:=af.mp h
    obtain ⟨tb,h2,rfl⟩:=aa.mp h
    exact dIf.ok (it h0) (ihS.2 C h1) (ihS.2 C h2)
   case While k a r p =>
    cases r with
    | cons=>cases h
    | nil =>
     obtain ⟨tk,h0,h⟩:=af.mp (show (trT n T k).bind (fun tk=>(trB n T a).map (iM tk))=some t from h)
     obtain ⟨ta,h1,rfl⟩:=aa.mp h
     exact iM.ok hp (it h0) (ihS.2 C h1)
   case For tg i a r p =>
    cases r with
    | cons=>cases h
    | nil =>
     obtain ⟨hn,h⟩:=ae.mp (show (if nice i then (itE (trE n T) T tg i).bind fun ti=>(trG T tg).bind fun g=>(trB n T a).map (iC (T.frz p) ti g) else none)=some t from h)
     obtain ⟨ti,h0,h⟩:=af.mp h
     obtain ⟨g,h1,h⟩:=af.mp h
     obtain ⟨tb,h2,rfl⟩:=aa.mp h
     exact iC.ok hp C.calm (itE_ok C' ih h0) (trG_ok C' h1) (ihS.2 C h2) fun x=>nice_fold hn _ x
  ·intro T X sts t C h
   match sts,h with
   | [],h =>
    cases h
    exact hV.nil
   | [st],h=>exact dSq.one (ihS.1 C h)
   | st::s2::r,h =>
    obtain ⟨ta,h1,h⟩:=af.mp (show (trS n T st).bind (fun t=>(trB n T (s2::r)).map (dSq t))=some t from h)
    obtain ⟨tb,h2,rfl⟩:=aa.mp h
    exact dSq.ok (ihS.1 C h1) (ihS.2 C h2)
theorem ctx_of {P:Program} {w:World} {mg:Str->Option Value} {base:Heap} {qual:Str} {st:Stmt} {f:Addr} {N ps:List Str} {k:Nat} {G gn:List (Str×Nat×SpB)} {gc:List (Str×D)} {fz:List (Nat×List Nat)} {own mu:List Nat} {cdv:Value} {A:Around} {outer:List Env} {s0:Shared} {H:Hp} {E:XK} (B:Bl mg) (S:FnScope N ps (defScope st))
  (hG:∀ x j s,(x,j,s)∈G->∃ ps,Def P w K mg base x j ps (LSp K s.n s.run)) (hgc:∀ x d,(x,d)∈gc->∃ v u,mg x=some u/\RelV v u/\∀ f O H,Rp K f O H d v) (hgn:∀ x j s,(x,j,s)∈gn->∃ ps,Def P w K mg base x j ps (LSpN K s.n s.run)) (hr:Room k (A.deeper (PyProof.Rows.envOfC qual (defScope st) s0.heap.objs.size f cdv))) :
  CtxS ⟨N,defScope st,G,gc,k,fz,own,mu,gn⟩ (cxOf CX0 P w K mg base N qual (defScope st) f cdv A outer s0 H E).nox:=by
 refine ⟨⟨rfl,S.nd,rfl,hr,fun x h=>?_,fun x h=>h,fun x h=>h,fun x h=>h,hG,hgc,B,fun x h=>⟨h,rfl⟩,hgn⟩,rfl,?_,rfl,fun _=>rfl⟩
 ·have h:isV ((defScope st).names.lookup x)=true:=h
  unfold Vis
  show (defScope st).names.lookup x=_\/(defScope st).names.lookup x=_\/(defScope st).names.lookup x=_
  cases q:(defScope st).names.lookup x with
  | none=>rw [q] at h;cases h
  | some k=>rw [q] at h;cases k <;> first | exact .inl rfl | exact .inr (.inl rfl) | exact .inr (.inr rfl) | cases h
 ·show (if (defScope st).kind.isAnnotationScope then ScopeKind.function else (defScope st).kind) = .function
  rw [S.kind]
  rfl
theorem ok_def {P:Program} {w:World} {mg:Str->Option Value} {base:Heap} {x qual:Str} {st:Stmt} {f:Addr} {fd:FuncData} {N ps:List Str} {n k:Nat} {t:TSd} {s:SpB} {G gn:List (Str×Nat×SpB)} {gc:List (Str×D)} {fz:List (Nat×List Nat)} {own mu:List Nat} (F:Fun K x qual st f fd) (B:Bl mg) (S:FnScope N ps (defScope st)) (hn:s.n=ps.length)
  (hG:∀ x j s,(x,j,s)∈G->∃ ps,Def P w K mg base x j ps (LSp K s.n s.run)) (hgc:∀ x d,(x,d)∈gc->∃ v u,mg x=some u/\RelV v u/\∀ f O H,Rp K f O H d v) (hgn:∀ x j s,(x,j,s)∈gn->∃ ps,Def P w K mg base x j ps (LSpN K s.n s.run))
  (ht:trB n ⟨N,defScope st,G,gc,k,fz,own,mu,gn⟩ (defBody st)=some t) (h:Does N.length t s):FnOk P w K mg base CX0 (k+1) f fd ps (LSp K s.n s.run) :=
 F.ok S (fun vs H Q E q=>q.1.trans hn) (fun cdv A outer s0 H vs Q E hr q=>⟨LS K t,(trS_ok n).2 (ctx_of B S hG hgc hgn hr) ht,h.ok q⟩)
end
section
open PySem L2 Dp
variable {P:Program} {w:World} {K:PySem.W.Frag} {mg:Str->Option Value} {base:Heap}
theorem ok_law {st:Stmt} {f0:Addr} {fd:FuncData} {N:List Str} {n k:Nat} {t:TSd} {rest:List Stmt} {p1 p2 p3 p4 p5:Pos} {G:List (Str×Nat×SpB)} {gc:List (Str×D)} {fz:List (Nat×List Nat)} {own mu:List Nat} (F:Fun K "law" "law" st f0 fd) (B:Bl mg) (S:FnScope ("_law_script" :: "_law_flow_here" :: N) ["_law_script"] (defScope st))
  (g:Def P w K mg base "_law_flow" 1 ["_law_script"] (spFlow K)) (hG:∀ x j s,(x,j,s)∈G->∃ ps,Def P w K mg base x j ps (LSp K s.n s.run)) (hgc:∀ x d,(x,d)∈gc->∃ v u,mg x=some u/\RelV v u/\∀ f O H,Rp K f O H d v)
  (hb:defBody st = .Assign [.Name "_law_flow_here" p1] (.Call (.Name "_law_flow" p2) [.Name "_law_script" p3] [] p4) p5::rest) (hk:1<=k) (hv:(defScope st).names.lookup ("_law_script" : Str)=some .local\/(defScope st).names.lookup ("_law_script" : Str)=some .cell) (hl:(defScope st).names.lookup ("_law_flow_here" : Str)=some .local\/(defScope st).names.lookup ("_law_flow_here" : Str)=some .cell) (hg:(defScope st).names.lookup ("_law_flow" : Str)=some .globalImplicit)
  (ht:trB n ⟨"_law_script" :: "_law_flow_here" :: N,defScope st,G,gc,k,fz,own,mu,[]⟩ rest=some t) (h:t.run ⟨fun _=>False,fun d=>d = .bl true,fun _=>False,fun _=>False⟩ (.no :: .val .fl::List.replicate N.length .no)) :
  FnOk P w K mg base CX0 (k+1) f0 fd ["_law_script"] (spLaw K):=by
 refine F.ok S (fun vs H Q E h=>?_) (fun cdv A outer s H vs Q E hr q=>?_)
 ·obtain ⟨a,ns,rfl,_⟩:=h
  rfl
 obtain ⟨a,ns,rfl,hS,h63,q⟩:=q
 refine ⟨tSeq (tAsg (tCall (spFlow K) [] E0 (tCons (tVar 0) tNil)) (gName 1)) (LS K t),?_,?_⟩
 ·rw [hb]
  refine pss_cons (ps_set S.nd rfl hl (pe_def g hr (pa_cons (pe_var rfl ?_ rfl rfl) pa_nil rfl) hk hg rfl rfl rfl) rfl (.inl rfl)) ?_
  ·rcases hv with z | z
   ·exact .inl z
   ·exact .inr (.inl z)
  refine (trS_ok n).2 (T:=⟨"_law_script" :: "_law_flow_here" :: N,defScope st,G,gc,k,fz,own,mu,[]⟩) ⟨⟨rfl,S.nd,rfl,hr,fun x h=>?_,fun x h=>h,fun x h=>h,fun x h=>h,hG,hgc,B,fun x h=>⟨h,rfl⟩,fun _ _ _ h=>absurd h bh⟩,rfl,?_,rfl,fun _=>rfl⟩ ht
  ·have h:isV ((defScope st).names.lookup x)=true:=h
   unfold Vis
   show (defScope st).names.lookup x=_\/(defScope st).names.lookup x=_\/(defScope st).names.lookup x=_
   cases q:(defScope st).names.lookup x with
   | none=>rw [q] at h;cases h
   | some k=>rw [q] at h;cases k <;> first | exact .inl rfl | exact .inr (.inl rfl) | exact .inr (.inr rfl) | cases h
  ·show (if (defScope st).kind.isAnnotationScope then ScopeKind.function else (defScope st).kind) = .function
   rw [S.kind]
   rfl
 ·refine ⟨_,rfl,a,ns,rfl,hS,h63,fun f H1 e1 fl hf=>?_⟩
  have ef:(L2.start ("_law_script" :: "_law_flow_here" :: N) [V.ref a]).set 1 (some (V.ref f))=some (.ref a)::some (.ref f)::List.replicate N.length none:=rfl
  show LS K t _ ((L2.start ("_law_script" :: "_law_flow_here" :: N) [V.ref a]).set 1 (some (V.ref f))) H1
  rw [ef]
  have gt:∀ {i:Nat} {x:SD},(SD.no::SD.val .fl::List.replicate N.length SD.no)[i]? = some x->x = .no\/(i=1/\x = .val .fl):=fun {i x} h=>by
   match i,h with
   | 0,h=>cases h;exact .inl rfl
   | 1,h=>cases h;exact .inr ⟨rfl,rfl⟩
   | i+2,h=>exact .inl (ff (aI (show (List.replicate N.length SD.no)[i]? = some x from h)))
  refine ⟨⟨f,[f],H1,[f]⟩,[f],SD.no::SD.val .fl::List.replicate N.length SD.no,⟨⟨fl,aS.mpr rfl,fun b hb=>?_,fun l r e z=>?_,by simp,fun i d hd=>?_,fun i l hd=>?_⟩,fun _ h=>h,⟨fun _ _ h _ _=>h,fun l r h=>⟨r,h⟩⟩,fun b h=>.inl h,fun i l b hd=>?_⟩,?_⟩
  ·rw [aS.mp hb]
   exact fl.lst
  ·have z:=aS.mp z
   subst z
   obtain ⟨l0,ns0,i,c,a0,b,h1,h2,_⟩:=fl
   rw [h1] at e
   cases e
   rw [h1] at h2
   cases ns0 <;> cases h2
  ·rcases gt hd with e | ⟨rfl,e⟩
   ·cases e
   ·cases e
    exact ⟨_,rfl,rfl⟩
  ·rcases gt hd with e | ⟨_,e⟩ <;> cases e
  ·rcases gt hd with e | ⟨_,e⟩ <;> cases e
  ·refine t.mono ?_ h
   refine ⟨fun s z=>z.elim,fun d z v H' R=>?_,fun s z=>z.elim,fun s z=>z.elim⟩
   subst z
   cases (show v=_ from R.rp)
   exact q H'
end
section
open PySem L2 Dp
variable {P:Program} {w:World} {K:PySem.W.Frag} {mg:Str->Option Value} {base:Heap}
theorem gs0:∀ (x:Str) (j:Nat) (s:SpB),(x,j,s)∈([]:List (Str×Nat×SpB))->∃ ps,Def P w K mg base x j ps (LSp K s.n s.run):=fun _ _ _ h=>absurd h bh
theorem gs1 {y:Str} {i:Nat} {r:SpB} {ps:List Str} {G:List (Str×Nat×SpB)} (g:Def P w K mg base y i ps (LSp K r.n r.run)) (h:∀ (x:Str) (j:Nat) (s:SpB),(x,j,s)∈G->∃ ps,Def P w K mg base x j ps (LSp K s.n s.run)):∀ (x:Str) (j:Nat) (s:SpB),(x,j,s)∈(y,i,r)::G->∃ ps,Def P w K mg base x j ps (LSp K s.n s.run):=fun x j s e=>by
 rcases ar.mp e with e | e
 ·cases e
  exact ⟨ps,g⟩
 ·exact h x j s e
theorem gc0:∀ (x:Str) (d:D),(x,d)∈([]:List (Str×D))->∃ v u,mg x=some u/\RelV v u/\∀ f O H,Rp K f O H d v:=fun _ _ h=>absurd h bh
end
section
open PySem L2 Dp
variable {P:Program} {w:World} {K:PySem.W.Frag} {mg:Str->Option Value} {base:Heap}
structure Sl (K:PySem.W.Frag) (f:Addr) (x:Str) (st:Stmt):Prop where
 a:PySem.W.nsIn K mainGlobals x=some (some (.ref f))
 ex:∃ fd,Fun K x x st f fd
theorem sl {f:Addr} {x:Str} {st:Stmt} {oc:Value} {od an:Option Addr} {osl:Array (Option Value)} {kV doc pm cdv ct:Value} (a:PySem.W.nsIn K mainGlobals x=some (some (.ref f))) (l:K.lookup f=some ⟨oc,od,.func (PySem.W.fnOf x x (defArgs st) (defBody st) (defScope st) .none kV doc pm an cdv ct),osl⟩) (c:PySem.W.codeIn K cdv x=true) (k:PySem.W.keepIn K (.ref f)=true):Sl K f x st:=⟨a,_,fun_mk l c k⟩
abbrev Mg (K:PySem.W.Frag) (mg:Str->Option Value):Prop:=∀ (x:Str) (f:Addr),PySem.W.nsIn K mainGlobals x=some (some (.ref f))->mg x=some (.ref f)
def scB (N ps:List Str) (sc:Scope):Bool:=decide (N.Nodup) && decide (N.take ps.length=ps) && (ps.all fun x=>decide (sc.names.lookup x=some .local) || decide (sc.names.lookup x=some .cell)) && sc.names.all fun y=>decide (y.2 ≠ .free)
theorem sc {N ps:List Str} {sc:Scope} (h:scB N ps sc=true) (h1:sc.kind = .function) (h2:sc.isCoroutine=false) (h3:sc.isGenerator=false):FnScope N ps sc:=by
 unfold scB at h
 obtain ⟨h,d⟩:=ao.mp h
 obtain ⟨h,c⟩:=ao.mp h
 obtain ⟨a,b⟩:=ao.mp h
 refine ⟨h1,h2,h3,of_decide_eq_true a,of_decide_eq_true b,fun x hx=>?_,fun y hy=>of_decide_eq_true (bz.mp d y hy)⟩
 rcases gu.mp (bz.mp c x hx) with z | z
 ·exact .inl (of_decide_eq_true z)
 ·exact .inr (of_decide_eq_true z)
abbrev o0:List (Nat×List Nat)×List Nat×List Nat:=([],[],[])
abbrev BA (x:Str) (st:Stmt) (kV doc pm:Value) (an:Option Addr) (cdv ct:Value) (us:List Value):=bindArgs (PySem.W.fnOf x x (defArgs st) (defBody st) (defScope st) .none kV doc pm an cdv ct) ⟨us,[]⟩
theorem gn0:∀ (x:Str) (j:Nat) (s:SpB),(x,j,s)∈([]:List (Str×Nat×SpB))->∃ ps,Def P w K mg base x j ps (LSpN K s.n s.run):=fun _ _ _ h=>absurd h bh
theorem mkd {x:Str} {st:Stmt} {f:Addr} {N ps:List Str} (k:Nat) (H:List (Nat×List Nat)×List Nat×List Nat) {t:TSd} {s:SpB} {G:List (Str×Nat×SpB)} {gc:List (Str×D)} (S:Sl K f x st) (W:Mg K mg) (B:Bl mg) (C:FnScope N ps (defScope st)) (hn:s.n=ps.length)
  (hG:∀ x j s,(x,j,s)∈G->∃ ps,Def P w K mg base x j ps (LSp K s.n s.run)) (hgc:∀ x d,(x,d)∈gc->∃ v u,mg x=some u/\RelV v u/\∀ f O H,Rp K f O H d v)
  (hb:∀ (kV doc pm:Value) (an:Option Addr) (cdv ct:Value) (us:List Value),us.length=ps.length->BA x st kV doc pm an cdv ct us=pure (ps.zip us))
  (ht:trB 40 ⟨N,defScope st,G,gc,k,H.1,H.2.1,H.2.2,[]⟩ (defBody st)=some t) (h:Does N.length t s):Def P w K mg base x (k+1) ps (LSp K s.n s.run):=by
 obtain ⟨a,fd,F⟩:=S
 exact .of F (W _ _ a) (F.binds hb) (ok_def (n:=40) (fz:=H.1) (own:=H.2.1) (mu:=H.2.2) F B C hn hG hgc gn0 ht h)
theorem u0 {us:List Value} {n:Nat} (h:us.length=n+1):∃ a r,us=a::r/\r.length=n:=by
 cases us with
 | nil=>exact absurd h (Nat.succ_ne_zero n).symm
 | cons a r=>exact ⟨a,r,rfl,Nat.succ.inj h⟩
theorem u1 {us:List Value} (h:us.length=1):∃ a,us=[a]:=by
 obtain ⟨a,r,rfl,h1⟩:=u0 (n:=0) h
 exact ⟨a,by rw [bP.mp h1]⟩
theorem u2 {us:List Value} (h:us.length=2):∃ a b,us=[a,b]:=by
 obtain ⟨a,r,rfl,h1⟩:=u0 (n:=1) h
 obtain ⟨b,rfl⟩:=u1 h1
 exact ⟨a,b,rfl⟩
theorem u3 {us:List Value} (h:us.length=3):∃ a b c,us=[a,b,c]:=by
 obtain ⟨a,r,rfl,h1⟩:=u0 (n:=2) h
 obtain ⟨b,c,rfl⟩:=u2 h1
 exact ⟨a,b,c,rfl⟩
theorem b1 {x:Str} {st:Stmt} {p:Str} (h:∀ (kV doc pm:Value) (an:Option Addr) (cdv ct u:Value),BA x st kV doc pm an cdv ct [u]=pure [(p,u)]):∀ (kV doc pm:Value) (an:Option Addr) (cdv ct:Value) (us:List Value),us.length=[p].length->BA x st kV doc pm an cdv ct us=pure ([p].zip us):=fun _ _ _ _ _ _ us hl=>by
 obtain ⟨_,rfl⟩:=u1 hl
 exact h ..
theorem b2 {x:Str} {st:Stmt} {p q:Str} (h:∀ (kV doc pm:Value) (an:Option Addr) (cdv ct u v:Value),BA x st kV doc pm an cdv ct [u,v]=pure [(p,u),(q,v)]):∀ (kV doc pm:Value) (an:Option Addr) (cdv ct:Value) (us:List Value),us.length=[p,q].length->BA x st kV doc pm an cdv ct us=pure ([p,q].zip us):=fun _ _ _ _ _ _ us hl=>by
 obtain ⟨_,_,rfl⟩:=u2 hl
 exact h ..
theorem b3 {x:Str} {st:Stmt} {p q r:Str} (h:∀ (kV doc pm:Value) (an:Option Addr) (cdv ct u v z:Value),BA x st kV doc pm an cdv ct [u,v,z]=pure [(p,u),(q,v),(r,z)]):∀ (kV doc pm:Value) (an:Option Addr) (cdv ct:Value) (us:List Value),us.length=[p,q,r].length->BA x st kV doc pm an cdv ct us=pure ([p,q,r].zip us):=fun _ _ _ _ _ _ us hl=>by
 obtain ⟨_,_,_,rfl⟩:=u3 hl
 exact h ..
end
end Ds
namespace Qp
open L2 Cv Hv Pc
def er (f:Nat->Rat) (x:Rat):Nat->Rat
 | 0=>0
 | n+1=>er f x n+f n*x^n
theorem er_E {P:List Int} {B:Int} {f:Nat->Rat} (h:∀ k,q P B k=f k) (x:Rat):∀ n,er f x n=ei (fn P) x n / (B:Rat)
 | 0=>by unfold er ei;grind
 | n+1=>by
  rw [er,ei,er_E h x n,← h n]
  show _+(((P.getD n 0:Int):Rat) / (B:Rat))*_=(_+((P.getD n 0:Int):Rat)*_) / _
  grind
end Qp
namespace Ap
open L2 Cv Hv Pc Qp
theorem last_of (ts:List Int):∀ n,n<=ts.length->(∀ j,n<=j->ts.getD j 0=0)->∃ m,m<=ts.length/\(∀ j,m<=j->ts.getD j 0=0)/\(m=0\/ts.getD (m-1) 0≠0)
 | 0,_,h=>⟨0,aC _,h,.inl rfl⟩
 | n+1,l,h=>by
  by_cases c:ts.getD n 0=0
  ·refine last_of ts n (by omega) fun j hj=>?_
   rcases bV hj with e | e
   ·rw [← e];exact c
   ·exact h j e
  ·exact ⟨n+1,l,h,.inr c⟩
theorem has {F:Nat->Int} {n:Nat} {c:Int} (hc:0<c) (hF:∀ k,n<=k->F k=0):∃ R C,Po.Fm R C/\∀ k,R.getD k 0*c=F k*C:=by
 have e:∀ k,((List.range n).map F).getD k 0=F k:=fun k=>by
  rw [ac,aG]
  rcases am k n with z | z
  ·rw [gq z]
   rfl
  ·rw [bq (by rw [cU];exact z)]
   exact (hF k z).symm
 obtain ⟨m,h1,h2,h3⟩:=last_of ((List.range n).map F) n (by rw [ab,cU];exact aj _) fun j hj=>by rw [e];exact hF j hj
 obtain ⟨f,w⟩:=Po.form hc h1 h2 h3
 exact ⟨_,_,f,fun k=>by rw [w k,e]⟩
def Pf (f:Rat->Rat):Prop:=∃ R C,Po.Fm R C/\∀ x,E R C x=f x
theorem Pf.of {P:List Int} {B:Int} (f:Po.Fm P B):Pf (E P B):=⟨P,B,f,fun _=>rfl⟩
theorem Pf.add {f g:Rat->Rat} (hf:Pf f) (hg:Pf g):Pf fun x=>f x+g x:=by
 obtain ⟨P1,B1,f1,e1⟩:=hf
 obtain ⟨P2,B2,f2,e2⟩:=hg
 obtain ⟨R,C,fR,w⟩:=has (F:=fun k=>P1.getD k 0*B2+P2.getD k 0*B1) (n:=P1.length+P2.length) (ax f1.pos f2.pos) fun k hk=>by
  have a:P1.getD k 0=0:=fn_out (by omega)
  have b:P2.getD k 0=0:=fn_out (by omega)
  rw [a,b]
  simp
 exact ⟨R,C,fR,fun x=>by rw [E_sum f1.pos f2.pos fR.pos w,e1,e2]⟩
theorem Pf.mul {f g:Rat->Rat} (hf:Pf f) (hg:Pf g):Pf fun x=>f x*g x:=by
 obtain ⟨P1,B1,f1,e1⟩:=hf
 obtain ⟨P2,B2,f2,e2⟩:=hg
 obtain ⟨R,C,fR,w⟩:=has (F:=cv (fn P1) (fn P2)) (n:=P1.length+P2.length) (ax f1.pos f2.pos) fun k hk=>cv_out (a:=P1.length) (b:=P2.length) (fun j h=>fn_out h) (fun j h=>fn_out h) (by omega)
 exact ⟨R,C,fR,fun x=>by rw [E_times f1.pos f2.pos fR w,e1,e2]⟩
theorem Pf.const (r:Rat):Pf fun _=>r:=by
 obtain ⟨t,u,hu,rfl⟩:=num_den r
 obtain ⟨R,C,fR,w⟩:=has (F:=fun k=>[t].getD k 0) (n:=1) hu fun k hk=>by
  obtain ⟨j,rfl⟩:∃ j,k=j+1:=⟨k-1,by omega⟩
  simp
 exact ⟨R,C,fR,fun x=>E_const fR hu w x⟩
theorem Pf.sub {f g:Rat->Rat} (hf:Pf f) (hg:Pf g):Pf fun x=>f x-g x:=by
 obtain ⟨R,C,f,e⟩:=hf.add ((Pf.const (-1)).mul hg)
 exact ⟨R,C,f,fun x=>by rw [e];grind⟩
theorem long {P1 P2 R:List Int} {B1 B2 C:Int} (f1:Po.Fm P1 B1) (f2:Po.Fm P2 B2) (fR:Po.Fm R C) (n1:P1≠[]) (n2:P2≠[]) (h:∀ x,E R C x=E P1 B1 x*E P2 B2 x):P1.length+P2.length=R.length+1:=by
 have p:=ax f1.pos f2.pos
 obtain ⟨S,D,fS,w⟩:=has (F:=cv (fn P1) (fn P2)) (n:=P1.length+P2.length) p fun k hk=>cv_out (a:=P1.length) (b:=P2.length) (fun j h=>fn_out h) (fun j h=>fn_out h) (by omega)
 obtain ⟨rfl,rfl⟩:=E_inj fR fS fun x=>by rw [h,E_times f1.pos f2.pos fS w]
 have l1:0<P1.length:=cR.mpr n1
 have l2:0<P2.length:=cR.mpr n2
 have t1:P1.getD (P1.length-1) 0≠0:=f1.last.resolve_left n1
 have t2:P2.getD (P2.length-1) 0≠0:=f2.last.resolve_left n2
 have top:=cv_top (f:=fn P1) (g:=fn P2) (a:=P1.length-1) (b:=P2.length-1) (fun j hj=>fn_out (by omega)) (fun j hj=>fn_out (by omega))
 have e:=w (P1.length-1+(P2.length-1))
 rw [top] at e
 have ne:R.getD (P1.length-1+(P2.length-1)) 0≠0:=fun z=>by
  rw [z,aE] at e
  exact bA (bA t1 t2) (aw fR.pos) e.symm
 have up:R.length<=P1.length-1+(P2.length-1)+1:=len_of fR p w fun k hk=>cv_out (a:=P1.length) (b:=P2.length) (fun j h=>fn_out h) (fun j h=>fn_out h) (by omega)
 have dn:P1.length-1+(P2.length-1)<R.length:=by
  rcases am (P1.length-1+(P2.length-1)) R.length with z | z
  ·exact z
  ·exact absurd (fn_out (P:=R) z) ne
 omega
abbrev Pl:=List Int×Int
def Ed (y x:Rat):List Pl->Rat
 | []=>0
 | p::ps=>E p.1 p.2 x+y*Ed y x ps
theorem Ed.pf {h:Rat->Rat} (hh:Pf h):∀ {ps:List Pl},(∀ p∈ps,Po.Fm p.1 p.2)->Pf fun x=>Ed (h x) x ps
 | [],_=>Pf.const 0
 | p::ps,f=>(Pf.of (f p ay)).add (hh.mul (Ed.pf hh fun q hq=>f q (au _ hq)))
theorem E_nil (B:Int) (x:Rat):E [] B x=0:=by
 show (0:Rat) / _=0
 grind
theorem Ed.uniq {G:List Int} {U:Int} {s:Nat} (fG:Po.Fm G U) (lG:G.length=s+1):∀ {ps qs:List Pl},ps.length=qs.length->(∀ p∈ps,Po.Fm p.1 p.2/\p.1.length<=s)->(∀ p∈qs,Po.Fm p.1 p.2/\p.1.length<=s)->(∀ x,Ed (E G U x) x ps=Ed (E G U x) x qs)->ps=qs
 | [],[],_,_,_,_=>rfl
 | p::ps,q::qs,l,hp,hq,h=>by
  have hp':∀ r∈ps,Po.Fm r.1 r.2/\r.1.length<=s:=fun r hr=>hp r (au _ hr)
  have hq':∀ r∈qs,Po.Fm r.1 r.2/\r.1.length<=s:=fun r hr=>hq r (au _ hr)
  obtain ⟨fp,lp⟩:=hp p ay
  obtain ⟨fq,lq⟩:=hq q ay
  obtain ⟨W,w,fW,eW⟩:=(Ed.pf (Pf.of fG) fun r hr=>(hp' r hr).1).sub (Ed.pf (Pf.of fG) fun r hr=>(hq' r hr).1)
  -- the rests are the same
  obtain ⟨D,d,fD,wD⟩:=has (F:=fun k=>q.1.getD k 0*p.2+p.1.getD k 0*(-1)*q.2) (n:=s) (ax fq.pos fp.pos) fun k hk=>by
   have a:p.1.getD k 0=0:=fn_out (by omega)
   have b:q.1.getD k 0=0:=fn_out (by omega)
   rw [a,b]
   simp
  have eD:∀ x,E D d x=E q.1 q.2 x-E p.1 p.2 x:=fun x=>by
   have fm:∀ k,(p.1.map fun z=>z*(-1)).getD k 0=p.1.getD k 0*(-1):=fun k=>by
    rw [ac,ac,aG]
    cases p.1[k]? <;> simp
   have e1:=E_sum (P1:=q.1) (P2:=p.1.map fun z=>z*(-1)) (R:=D) (C:=d) fq.pos fp.pos fD.pos (fun k=>by rw [fm];exact wD k) x
   have e2:E (p.1.map fun z=>z*(-1)) p.2 x = -E p.1 p.2 x:=by
    have:∀ n,ei (fn (p.1.map fun z=>z*(-1))) x n=ei (fn p.1) x n*((-1:Int):Rat):=fun n=>by
     rw [← ei_mul]
     congr 1
     funext k
     exact fm k
    unfold E
    rw [this,ab]
    show _*(-1:Rat) / _=_
    grind
   rw [e1,e2]
   grind
  have lD:D.length<=s:=len_of fD (ax fq.pos fp.pos) wD fun k hk=>by
   have a:p.1.getD k 0=0:=fn_out (by omega)
   have b:q.1.getD k 0=0:=fn_out (by omega)
   rw [a,b]
   simp
  have key:∀ x,E D d x=E G U x*E W w x:=fun x=>by
   have a:E p.1 p.2 x+E G U x*Ed (E G U x) x ps=E q.1 q.2 x+E G U x*Ed (E G U x) x qs:=h x
   rw [eD,eW]
   grind
  have W0:W=[]:=Classical.byContradiction fun nW=>by
   have:=long fG fW fD (by intro z;rw [z] at lG;simp at lG) nW key
   have:0<W.length:=cR.mpr nW
   omega
  have t:∀ x,Ed (E G U x) x ps=Ed (E G U x) x qs:=fun x=>by
   have a:=eW x
   rw [W0,E_nil] at a
   grind
  have e:=Ed.uniq fG lG (by simpa using l) hp' hq' t
  have c:∀ x,E p.1 p.2 x=E q.1 q.2 x:=fun x=>by
   have a:E p.1 p.2 x+E G U x*Ed (E G U x) x ps=E q.1 q.2 x+E G U x*Ed (E G U x) x qs:=h x
   rw [t x] at a
   grind
  obtain ⟨y1,y2⟩:=E_inj fp fq c
  rw [e,show p=q from Prod.ext y1 y2]
end Ap
namespace Ca
open Cv
theorem pw_inj {g g':Nat->Int} {k s:Nat} (hk:0<k) (g0:g 0=1) (g0':g' 0=1) (h:∀ j,j<s->pw g k j=pw g' k j):∀ j,j<s->g j=g' j:=by
 have go:∀ n,∀ j,j<n->j<s->g j=g' j:=by
  intro n
  induction n with
  | zero=>intro j hj;omega
  | succ n ih =>
   intro j hj js
   rcases am j n with z | z
   ·exact ih j z js
   ·have e:j=n:=by omega
    subst e
    cases j with
    | zero=>rw [g0,g0']
    | succ j =>
     have p:=(pw_one (g:=g) (g':=g') (s:=j) g0 (fun i hi=>(ih i (by omega) (by omega)).symm) k).2
     rw [h (j+1) js] at p
     have:(k:Int)*(g' (j+1)-g (j+1))=0:=by omega
     rcases bT.mp this with w | w <;> omega
 exact fun j hj=>go s j hj hj
theorem Cand.uniq {P:Nat->Int} {k s:Nat} {R R':List Int} {C C':Int} (hk:0<k) (hP:P (k*s)≠0) (f:Po.Fm R C) (f':Po.Fm R' C') (l:R.length=s+1) (l':R'.length=s+1) (h:Cand P k s (fun i=>R.getD i 0) C) (h':Cand P k s (fun i=>R'.getD i 0) C'):R=R'/\C=C':=by
 obtain ⟨c,g,c0,g0,h1,h2,h3⟩:=h
 obtain ⟨c',g',c0',g0',h1',h2',h3'⟩:=h'
 have e:∀ j,j<s->g j*c'^j=g' j*c^j:=by
  refine pw_inj (g:=fun i=>g i*c'^i) (g':=fun i=>g' i*c^i) hk ?_ ?_ fun j hj=>?_
  ·show g 0*c'^0=1
   rw [g0]
   simp
  ·show g' 0*c^0=1
   rw [g0']
   simp
  ·rw [pw_geo,pw_geo]
   refine fh hP ?_
   have a:=h1 j hj
   have b:=h1' j hj
   calc P (k*s)*(pw g k j*c'^j)=(P (k*s)*pw g k j)*c'^j:=by grind
    _=P (k*s-j)*c'^j*c^j:=by rw [← a];grind
    _=(P (k*s)*pw g' k j)*c^j:=by rw [← b]
    _=P (k*s)*(pw g' k j*c^j):=by grind
 refine Po.uniq f f' fun i=>?_
 rcases am s i with z | z
 ·have a:R.getD i 0=0:=fn_out (by omega)
  have b:R'.getD i 0=0:=fn_out (by omega)
  rw [a,b]
  simp
 by_cases c1:i=0
 ·subst c1
  have h3:R.getD 0 0=0:=h3
  have h3':R'.getD 0 0=0:=h3'
  rw [h3,h3']
  simp
 have a:R.getD (s-(s-i)) 0*c^(s-i)=g (s-i)*C:=h2 (s-i) (by omega)
 have b:R'.getD (s-(s-i)) 0*c'^(s-i)=g' (s-i)*C':=h2' (s-i) (by omega)
 rw [show s-(s-i)=i by omega] at a b
 have x:=e (s-i) (by omega)
 have p1:c^(s-i)≠0:=ca (aw c0)
 have p2:c'^(s-i)≠0:=ca (aw c0')
 refine aH (bA p1 p2) ?_
 generalize c^(s-i)=y at *
 generalize c'^(s-i)=y' at *
 generalize g (s-i)=u at *
 generalize g' (s-i)=u' at *
 calc R.getD i 0*C'*(y*y')=(R.getD i 0*y)*y'*C':=by grind
  _=(u*y')*C*C':=by rw [a];grind
  _=(u'*C')*y*C:=by rw [x];grind
  _=R'.getD i 0*C*(y*y'):=by rw [← b];grind
end Ca
namespace Ap
open L2 Cv Hv Pc Qp
theorem Ed.pad (y x:Rat):∀ (ps:List Pl) (n:Nat),Ed y x (ps++List.replicate n ([],1))=Ed y x ps
 | [],0=>rfl
 | [],n+1=>by
  have:=Ed.pad y x [] n
  rw [bw]
  show E [] 1 x+y*Ed y x (List.replicate n ([],1))=0
  have e:Ed y x (List.replicate n ([],1))=0:=this
  rw [e,E_nil]
  grind
 | p::ps,n=>by
  show _+y*Ed y x (ps++List.replicate n ([],1))=_+y*Ed y x ps
  rw [Ed.pad y x ps n]
theorem nil_fm:Po.Fm ([]:List Int) 1:=⟨by decide,.inl rfl,by decide⟩
theorem Ed.uniq2 {G:List Int} {U:Int} {s:Nat} (fG:Po.Fm G U) (lG:G.length=s+1) {ps qs:List Pl} (hp:∀ p∈ps,Po.Fm p.1 p.2/\p.1.length<=s) (hq:∀ p∈qs,Po.Fm p.1 p.2/\p.1.length<=s) (h:∀ x,Ed (E G U x) x ps=Ed (E G U x) x qs) (t:Nat):ps.getD t ([],1)=qs.getD t ([],1):=by
 have rep:∀ (n:Nat) (p:Pl),p∈List.replicate n (([],1):Pl)->Po.Fm p.1 p.2/\p.1.length<=s:=fun n p hp=>by
  rw [(List.mem_replicate.mp hp).2]
  exact ⟨nil_fm,aC _⟩
 have e:=Ed.uniq fG lG (ps:=ps++List.replicate qs.length ([],1)) (qs:=qs++List.replicate ps.length ([],1)) (by simp;omega) (fun p h=>by
  rcases b8.mp h with z | z
  ·exact hp p z
  ·exact rep _ p z) (fun p h=>by
  rcases b8.mp h with z | z
  ·exact hq p z
  ·exact rep _ p z) (fun x=>by rw [Ed.pad,Ed.pad,h])
 have g:∀ (l:List Pl) (n:Nat),(l++List.replicate n (([],1):Pl)).getD t ([],1)=l.getD t ([],1):=fun l n=>by
  rw [ac,ac]
  rcases am t l.length with z | z
  ·rw [aY z]
  ·rw [aL z,bq z,dG]
   split <;> rfl
 have:=congrArg (fun l:List Pl=>l.getD t ([],1)) e
 rwa [g,g] at this
end Ap
namespace Ap
open L2 Cv Hv Pc Qp
def Pl' (n:Nat) (f:Rat->Rat):Prop:=∃ R C,Po.Fm R C/\(∀ x,E R C x=f x)/\R.length<=n
theorem Pl'.of {P:List Int} {B:Int} (f:Po.Fm P B):Pl' P.length (E P B):=⟨P,B,f,fun _=>rfl,aj _⟩
theorem Pl'.mono {n m:Nat} {f:Rat->Rat} (h:Pl' n f) (l:n<=m):Pl' m f:=by
 obtain ⟨R,C,a,b,c⟩:=h
 exact ⟨R,C,a,b,by omega⟩
theorem Pl'.congr {n:Nat} {f g:Rat->Rat} (h:Pl' n f) (e:∀ x,f x=g x):Pl' n g:=by
 obtain ⟨R,C,a,b,c⟩:=h
 exact ⟨R,C,a,fun x=>by rw [b,e],c⟩
theorem Pl'.add {n:Nat} {f g:Rat->Rat} (hf:Pl' n f) (hg:Pl' n g):Pl' n fun x=>f x+g x:=by
 obtain ⟨P1,B1,f1,e1,l1⟩:=hf
 obtain ⟨P2,B2,f2,e2,l2⟩:=hg
 have z:∀ k,n<=k->P1.getD k 0*B2+P2.getD k 0*B1=0:=fun k hk=>by
  have a:P1.getD k 0=0:=fn_out (by omega)
  have b:P2.getD k 0=0:=fn_out (by omega)
  rw [a,b]
  simp
 obtain ⟨R,C,fR,w⟩:=has (F:=fun k=>P1.getD k 0*B2+P2.getD k 0*B1) (n:=n) (ax f1.pos f2.pos) z
 exact ⟨R,C,fR,fun x=>by rw [E_sum f1.pos f2.pos fR.pos w,e1,e2],len_of fR (ax f1.pos f2.pos) w z⟩
theorem Pl'.mul {n m:Nat} {f g:Rat->Rat} (hf:Pl' n f) (hg:Pl' (m+1) g):Pl' (n+m) fun x=>f x*g x:=by
 obtain ⟨P1,B1,f1,e1,l1⟩:=hf
 obtain ⟨P2,B2,f2,e2,l2⟩:=hg
 have z:∀ k,n+m<=k->cv (fn P1) (fn P2) k=0:=fun k hk=>cv_out (a:=n) (b:=m+1) (fun j h=>fn_out (by omega)) (fun j h=>fn_out (by omega)) (by omega)
 obtain ⟨R,C,fR,w⟩:=has (F:=cv (fn P1) (fn P2)) (n:=n+m) (ax f1.pos f2.pos) z
 exact ⟨R,C,fR,fun x=>by rw [E_times f1.pos f2.pos fR w,e1,e2],len_of fR (ax f1.pos f2.pos) w z⟩
theorem Pl'.const (r:Rat):Pl' 1 fun _=>r:=by
 obtain ⟨t,u,hu,rfl⟩:=num_den r
 have z:∀ k,1<=k->([t]:List Int).getD k 0=0:=fun k hk=>by
  obtain ⟨j,rfl⟩:∃ j,k=j+1:=⟨k-1,by omega⟩
  simp
 obtain ⟨R,C,fR,w⟩:=has (F:=fun k=>[t].getD k 0) (n:=1) hu z
 exact ⟨R,C,fR,fun x=>E_const fR hu w x,len_of fR hu w z⟩
theorem Pl'.smul {n:Nat} {f:Rat->Rat} (r:Rat) (hf:Pl' n f):Pl' n fun x=>r*f x:=(hf.mul (m:=0) (Pl'.const r)).congr fun x=>Rat.mul_comm _ _
theorem Pl'.x:Pl' 2 fun x=>x:=⟨X,1,⟨by decide,.inr (by decide),by decide⟩,E_X,aj _⟩
theorem Pl'.pow {s:Nat} {f:Rat->Rat} (hf:Pl' (s+1) f):∀ k:Nat,Pl' (s*k+1) fun x=>f x^k
 | 0=>(Pl'.const 1).congr fun x=>by rw [cD]
 | k+1=>((Pl'.pow hf k).mul hf).congr (fun x=>by rw [cQ]) |>.mono (by rw [bE];omega)
theorem Pl'.comp {P:List Int} {B:Int} {s:Nat} {g:Rat->Rat} (hg:Pl' (s+1) g):Pl' (s*(P.length-1)+1) fun x=>E P B (g x):=by
 have go:∀ n,Pl' (s*(n-1)+1) fun x=>er (q P B) (g x) n:=by
  intro n
  induction n with
  | zero=>exact (Pl'.const 0).mono (by omega)
  | succ n ih =>
   have a:Pl' (s*n+1) fun x=>q P B n*g x^n:=(hg.pow n).smul _
   exact ((ih.mono (gm (ah _ (by omega)) 1)).add a).congr fun x=>rfl
 refine (go P.length).congr fun x=>?_
 rw [er_E (fun _=>rfl)]
 rfl
theorem q_same {A D:List Int} {a d:Int} (fA:Po.Fm A a) (fD:Po.Fm D d) (h:∀ x,E A a x=E D d x) (i:Nat):q A a i=q D d i:=by
 obtain ⟨rfl,rfl⟩:=E_inj fA fD h
 rfl
theorem q_lin {A H D:List Int} {a c d:Int} {u:Rat} (fA:Po.Fm A a) (fH:Po.Fm H c) (fD:Po.Fm D d) (h:∀ x,E A a x=u*E H c x+E D d x) (i:Nat):q A a i=u*q H c i+q D d i:=by
 obtain ⟨t,v,hv,rfl⟩:=num_den u
 have p1:=ax fH.pos hv
 have z1:∀ k,H.length<=k->H.getD k 0*t=0:=fun k hk=>by
  have:H.getD k 0=0:=fn_out hk
  rw [this];simp
 obtain ⟨S,e,fS,w⟩:=has (F:=fun k=>H.getD k 0*t) (n:=H.length) p1 z1
 have eS:∀ x,E S e x=(t:Rat) / (v:Rat)*E H c x:=fun x=>by
  rw [E_tops (N:=S.length+H.length) fS.pos (aw p1) w (by omega),ei_mul,E_at (P:=H) (N:=S.length+H.length) (by omega),aF]
  have n1:=ne_of_pos fH.pos
  have n2:=ne_of_pos hv
  show ei (fn H) x _*_ / _=_
  generalize ei (fn H) x (S.length+H.length)=y
  grind
 have qS:q S e i=(t:Rat) / (v:Rat)*q H c i:=by
  rw [q_of (f:=fun k=>H.getD k 0*t) fS.pos (aw p1) w i,aF,aF]
  have n1:=ne_of_pos fH.pos
  have n2:=ne_of_pos hv
  unfold q
  grind
 have p2:=ax fS.pos fD.pos
 obtain ⟨V,b,fV,w2⟩:=has (F:=fun k=>S.getD k 0*d+D.getD k 0*e) (n:=S.length+D.length) p2 fun k hk=>by
  have x:S.getD k 0=0:=fn_out (by omega)
  have y:D.getD k 0=0:=fn_out (by omega)
  rw [x,y];simp
 rw [q_same fA fV (fun x=>by rw [h,E_sum fS.pos fD.pos fV.pos w2,eS]) i,q_sum fS.pos fD.pos fV.pos w2,qS]
end Ap
namespace Ca
open L2 Cv Hv Pc Qp
theorem pow_pl {G:List Int} {U:Int} (fG:Po.Fm G U) (k:Nat):∃ H C,Po.Fm H C/\(∀ x,E H C x=E G U x^k)/\∀ i,q H C i=((pw (fn G) k i:Int):Rat) / ((U^k:Int):Rat):=by
 induction k with
 | zero =>
  refine ⟨[1],1,⟨by decide,.inr (by decide),by decide⟩,fun x=>?_,fun i=>?_⟩
  ·rw [cD]
   unfold E
   show (0+((1:Int):Rat)*x^0) / ((1:Int):Rat)=1
   rw [cD]
   show (0+(1:Rat)*1) / 1=1
   grind
  ·rw [aW]
   unfold q
   congr 1
   cases i with
   | zero=>rfl
   | succ i=>rfl
 | succ k ih =>
  obtain ⟨H,C,fH,eH,qH⟩:=ih
  have p:=ax fH.pos fG.pos
  obtain ⟨S,D,fS,w⟩:=Ap.has (F:=cv (fn H) (fn G)) (n:=H.length+G.length) p fun j hj=>cv_out (a:=H.length) (b:=G.length) (fun i h=>fn_out h) (fun i h=>fn_out h) (by omega)
  refine ⟨S,D,fS,fun x=>by rw [E_times fH.pos fG.pos fS w,eH,cQ],fun i=>?_⟩
  have pU:(0:Int)<U^k:=bH fG.pos
  have hk:∀ j,fn H j*U^k=pw (fn G) k j*C:=fun j=>(div_eq (aw fH.pos) (aw pU)).mp (qH j)
  have e:cv (fn H) (fn G) i*U^k=pw (fn G) (k+1) i*C:=by
   show _=cv (pw (fn G) k) (fn G) i*C
   rw [← cv_scale,← cv_scale]
   exact cv_congr hk fun _=>rfl
  rw [q_of (f:=fun k=>cv (fn H) (fn G) k) fS.pos (aw p) w i]
  refine (div_eq (aw p) (aw (bH fG.pos))).mpr ?_
  rw [bf]
  calc cv (fn H) (fn G) i*(U^k*U)=(cv (fn H) (fn G) i*U^k)*U:=by grind
   _=pw (fn G) (k+1) i*(C*U):=by rw [e];grind
end Ca
namespace Ca
open L2 Cv Hv Pc Qp
def Sem (P:List Int) (B:Int) (k s:Nat) (G:List Int) (U:Int):Prop:=∃ r:Rat->Rat,Ap.Pl' (k*s-s+1) r/\∀ x,E P B x=q P B (k*s)*E G U x^k+r x
theorem rv_pw {G g:Nat->Int} {c U:Int} {k s j:Nat} (h:∀ i,i<s->G (s-i)*c^i=g i*U) (hj:j<s):pw (rv s G) k j*c^j=pw g k j*U^k:=by
 rw [← pw_geo,← pw_scl]
 refine pw_le (n:=j) (fun i hi=>?_) k j (aj _)
 show rv s G i*c^i=g i*U
 rw [← h i (by omega)]
 unfold rv
 rw [if_pos (by omega)]
theorem Cand.sem {P G:List Int} {B U:Int} {k s:Nat} (fP:Po.Fm P B) (lP:P.length=k*s+1) (fG:Po.Fm G U) (lG:G.length=s+1) (k1:1<=k) (s1:1<=s) (h:Cand (fun i=>P.getD i 0) k s (fun i=>G.getD i 0) U):Sem P B k s G U:=by
 obtain ⟨c,g,c0,g0,h1,h2,h3⟩:=h
 obtain ⟨H,C,fH,eH,qH⟩:=pow_pl fG k
 have ks:s<=k*s:=aN _ k1
 obtain ⟨R,D,fR,eR⟩:=(Ap.Pf.of fP).add ((Ap.Pf.const (-q P B (k*s))).mul (Ap.Pf.of fH))
 have eR:∀ x,E R D x=E P B x + -q P B (k*s)*E H C x:=eR
 have qR:∀ i,q R D i = -q P B (k*s)*q H C i+q P B i:=Ap.q_lin fR fH fP fun x=>by rw [eR];grind
 have z:∀ i,k*s-s+1<=i->q R D i=0:=fun i hi=>by
  rw [qR,qH]
  rcases am (k*s) i with w | w
  ·rw [pw_out (fun j hj=>fn_out (by omega)) k i w,q_out (P:=P) (k:=i) (by omega)]
   show _*((0:Rat) / _)+0=0
   grind
  ·obtain ⟨j,hj,rfl⟩:∃ j,j<s/\i=k*s-j:=⟨k*s-i,by omega,by omega⟩
   rw [pw_rv (fun j hj=>fn_out (by omega)) k j (by omega)]
   have a:=rv_pw (G:=fn G) (k:=k) h2 hj
   have b:P.getD (k*s-j) 0*c^j=P.getD (k*s) 0*pw g k j:=h1 j hj
   have cj:c^j≠0:=ca (aw c0)
   have e:P.getD (k*s-j) 0*U^k=P.getD (k*s) 0*pw (rv s (fn G)) k j:=by
    refine aH cj ?_
    calc P.getD (k*s-j) 0*U^k*c^j=(P.getD (k*s-j) 0*c^j)*U^k:=by grind
     _=P.getD (k*s) 0*(pw g k j*U^k):=by rw [b];grind
     _=P.getD (k*s) 0*pw (rv s (fn G)) k j*c^j:=by rw [← a];grind
   have e2:=congrArg (fun z:Int=>(z:Rat)) e
   simp only [aF] at e2
   have n1:=ne_of_pos fP.pos
   have n2:=ne_of_pos (show 0<U^k from bH fG.pos)
   unfold q
   generalize ((pw (rv s (fn G)) k j:Int):Rat)=y at *
   generalize ((P.getD (k*s) 0:Int):Rat)=p at *
   generalize ((P.getD (k*s-j) 0:Int):Rat)=p' at *
   generalize ((U^k:Int):Rat)=u at *
   have:p'=p*y / u:=by grind
   rw [this]
   grind
 refine ⟨E R D,⟨R,D,fR,fun _=>rfl,?_⟩,fun x=>by rw [eR,eH];grind⟩
 rcases am (k*s-s+1) R.length with w | w
 ·exact absurd (z (R.length-1) (by omega)) (q_lead fR (by intro e;rw [e] at w;simp at w))
 ·exact w
theorem Sem.cand {P G:List Int} {B U:Int} {k s:Nat} (fP:Po.Fm P B) (fG:Po.Fm G U) (lG:G.length=s+1) (k1:1<=k) (s1:1<=s) (mon:G.getD s 0=U) (G0:G.getD 0 0=0) (h:Sem P B k s G U):Cand (fun i=>P.getD i 0) k s (fun i=>G.getD i 0) U:=by
 obtain ⟨r,⟨R,D,fR,eR,lR⟩,e⟩:=h
 obtain ⟨H,C,fH,eH,qH⟩:=pow_pl fG k
 have ks:s<=k*s:=aN _ k1
 have qq:=Ap.q_lin (u:=q P B (k*s)) fP fH fR fun x=>by rw [e,eH,eR]
 have hg:∀ i,i<s->fn G (s-i)*U^i=(if i=0 then 1 else G.getD (s-i) 0*U^(i-1))*U:=fun i hi=>by
  cases i with
  | zero =>
   rw [if_pos rfl,bR,aW]
   show G.getD s 0*1=1*U
   rw [mon]
   omega
  | succ i =>
   rw [if_neg (by omega),cE,bf,bJ]
   rfl
 refine ⟨U,fun i=>if i=0 then 1 else G.getD (s-i) 0*U^(i-1),fG.pos,rfl,fun j hj=>?_,hg,G0⟩
 have a:=rv_pw (k:=k) hg hj
 have b:=qq (k*s-j)
 rw [qH,pw_rv (fun j hj=>fn_out (by omega)) k j (by omega),q_out (P:=R) (by omega)] at b
 have pU:(0:Int)<U^k:=bH fG.pos
 have e2:P.getD (k*s-j) 0*U^k=P.getD (k*s) 0*pw (rv s (fn G)) k j:=by
  have n1:=ne_of_pos fP.pos
  have n2:=ne_of_pos pU
  unfold q at b
  have:((P.getD (k*s-j) 0*U^k:Int):Rat)=((P.getD (k*s) 0*pw (rv s (fn G)) k j:Int):Rat):=by
   rw [aF,aF]
   generalize ((pw (rv s (fn G)) k j:Int):Rat)=y at *
   generalize ((P.getD (k*s) 0:Int):Rat)=p at *
   generalize ((P.getD (k*s-j) 0:Int):Rat)=p' at *
   generalize ((U^k:Int):Rat)=u at *
   have:p'=p*(y / u):=by grind
   rw [this]
   grind
  exact eQ.mp this
 refine aH (aw pU) ?_
 calc P.getD (k*s-j) 0*U^j*U^k=(P.getD (k*s-j) 0*U^k)*U^j:=by grind
  _=P.getD (k*s) 0*(pw (rv s (fn G)) k j*U^j):=by rw [e2];grind
  _=_:=by rw [a];grind
end Ca
namespace Ap
open L2 Cv Hv Pc Qp
theorem Ed.same {y x:Rat}:∀ {ps qs:List Pl},(∀ t,ps.getD t ([],1)=qs.getD t ([],1))->Ed y x ps=Ed y x qs
 | [],[],_=>rfl
 | [],q::qs,h=>by
  have a:=h 0
  have b:=Ed.same (ps:=[]) (qs:=qs) (y:=y) (x:=x) fun t=>by have:=h (t+1);rw [bG] at this;exact this
  have a:(([],1):Pl)=q:=a
  show 0=E q.1 q.2 x+y*Ed y x qs
  rw [← a,← b]
  show (0:Rat)=E [] 1 x+y*0
  rw [E_nil]
  grind
 | p::ps,[],h=>by
  have a:=h 0
  have b:=Ed.same (ps:=ps) (qs:=[]) (y:=y) (x:=x) fun t=>by have:=h (t+1);rw [bG] at this;exact this
  have a:p=(([],1):Pl):=a
  show E p.1 p.2 x+y*Ed y x ps=0
  rw [a,b]
  show E [] 1 x+y*0=(0:Rat)
  rw [E_nil]
  grind
 | p::ps,q::qs,h=>by
  have a:p=q:=h 0
  have b:=Ed.same (ps:=ps) (qs:=qs) (y:=y) (x:=x) fun t=>by have:=h (t+1);rw [bG,bG] at this;exact this
  show E p.1 p.2 x+y*Ed y x ps=E q.1 q.2 x+y*Ed y x qs
  rw [a,b]
end Ap
namespace Ap
open L2 Cv Hv Pc Qp
theorem len_cut {R:List Int} {C:Int} {m:Nat} (f:Po.Fm R C) (l:R.length<=m+1) (z:q R C m=0):R.length<=m:=by
 rcases am m R.length with y | y
 ·have:=q_lead f (by rintro rfl;simp at y)
  rw [show R.length-1=m by omega] at this
  exact absurd z this
 ·exact y
theorem one_long (j:Nat):∃ T c,Po.Fm T c/\T.length=j+1:=by
 obtain ⟨R,C,f,h⟩:=has (F:=fun k=>if k=j then 1 else 0) (n:=j+1) (c:=1) (by decide) (fun k hk=>if_neg (by omega))
 refine ⟨R,C,f,?_⟩
 have pos:=f.pos
 have a:R.getD j 0=C:=by
  have:=h j
  rw [if_pos rfl,bu,cC] at this
  exact this
 have le:j<R.length:=by
  rcases am j R.length with y | y
  ·exact y
  ·have:R.getD j 0=0:=fn_out y
   omega
 rcases am (j+1) R.length with y | y
 ·refine absurd ?_ (q_lead f (by rintro rfl;simp at y))
  have:=h (R.length-1)
  rw [if_neg (by omega),bu,aE] at this
  unfold q
  rw [this]
  grind
 ·omega
theorem zero_pl (n:Nat):Pl' n fun _=>0:=⟨[],1,nil_fm,fun x=>E_nil 1 x,aC _⟩
theorem div_ex {G:List Int} {U:Int} {s:Nat} (fG:Po.Fm G U) (lG:G.length=s+1):∀ (n:Nat) (P:List Int) (B:Int),Po.Fm P B->P.length<=n->∃ r m:Rat->Rat,Pl' s r/\Pl' (n-s) m/\∀ x,E P B x=r x+E G U x*m x
 | 0,P,B,f,l=>⟨E P B,fun _=>0,(Pl'.of f).mono (by omega),zero_pl _,fun x=>by grind⟩
 | m+1,P,B,f,l=>by
  rcases am m s with ms | ms
  ·exact ⟨E P B,fun _=>0,(Pl'.of f).mono (by omega),zero_pl _,fun x=>by grind⟩
  rcases am m P.length with y | y
  rotate_left
  ·obtain ⟨r,w,h1,h2,h3⟩:=div_ex fG lG m P B f y
   exact ⟨r,w,h1,h2.mono (by omega),h3⟩
  obtain ⟨T,c,fT,lT⟩:=one_long (m-s)
  obtain ⟨H,d,fH,eH,_⟩:=(Pl'.of fT).mul (m:=s) ((Pl'.of fG).mono (by omega))
  have lH:=long fT fG fH (by rintro rfl;simp at lT) (by rintro rfl;simp at lG) eH
  have hH:=q_lead fH (by rintro rfl;simp at lH;omega)
  rw [show H.length-1=m by omega] at hH
  obtain ⟨k,hk⟩:∃ k:Rat,k=q P B m / q H d m:=⟨_,rfl⟩
  have kk:q P B m=k*q H d m:=by rw [hk];grind
  obtain ⟨D,e,fD,eD,lD⟩:=((Pl'.of f).mono (m:=m+1) (by omega)).add (((Pl'.of fH).mono (m:=m+1) (by omega)).smul (-k))
  have qe:=q_lin (u:=k) f fH fD (fun x=>by rw [eD x];grind) m
  obtain ⟨r,w,h1,h2,h3⟩:=div_ex fG lG m D e fD (len_cut fD lD (by grind))
  refine ⟨r,fun x=>w x+k*E T c x,h1,(h2.mono (by omega)).add (((Pl'.of fT).mono (by omega)).smul k),fun x=>?_⟩
  have a:E P B x + -k*E H d x=r x+E G U x*w x:=(eD x).symm.trans (h3 x)
  have b:E H d x=E T c x*E G U x:=eH x
  rw [b] at a
  show E P B x=r x+E G U x*(w x+k*E T c x)
  grind
theorem dig_ex {G:List Int} {U:Int} {s:Nat} (s1:1<=s) (fG:Po.Fm G U) (lG:G.length=s+1):∀ (n:Nat) (P:List Int) (B:Int),Po.Fm P B->P.length<=n->∃ Ps:List Pl,(∀ p∈Ps,Po.Fm p.1 p.2/\p.1.length<=s)/\∀ x,E P B x=Ed (E G U x) x Ps
 | 0,P,B,f,l=>⟨[(P,B)],fun p h=>by rw [aS.mp h];exact ⟨f,by show P.length<=s;omega⟩,fun x=>by show E P B x=E P B x+E G U x*0;grind⟩
 | n+1,P,B,f,l=>by
  obtain ⟨_,_,⟨R,C,fR,eR,lR⟩,⟨M,N,fM,eM,lM⟩,e⟩:=div_ex fG lG (n+1) P B f l
  obtain ⟨Ps,h1,h2⟩:=dig_ex s1 fG lG n M N fM (by omega)
  refine ⟨(R,C)::Ps,fun p h=>?_,fun x=>?_⟩
  ·rcases ar.mp h with z | z
   ·rw [z]
    exact ⟨fR,lR⟩
   ·exact h1 p z
  ·show E P B x=E R C x+E G U x*Ed (E G U x) x Ps
   rw [← h2 x,eM x,eR x]
   exact e x
end Ap
namespace Ap
theorem quart {a2 a1 a0 b4 b3 b2 b1 b0:Rat} (h10:2*b4=3*a2) (h9:2*b3=3*a1) (h8:2*b2+b4*b4=3*a0+3*(a2*a2)) (h7:2*b1+2*(b4*b3)=6*(a1*a2))
  (h6:2*b0+2*(b4*b2)+b3*b3=a2*a2*a2+3*(a1*a1)+6*(a0*a2)) (h5:2*(b4*b1)+2*(b3*b2)=3*(a2*a2*a1)+6*(a0*a1)) (h3:2*(b3*b0)+2*(b2*b1)=a1*a1*a1+6*(a0*a1*a2)):a1=0:=by
 have e4:b4=3 / 2*a2:=by grind
 have e3:b3=3 / 2*a1:=by grind
 have e2:b2=3 / 2*a0+3 / 8*(a2*a2):=by grind
 have e1:b1=3 / 4*(a1*a2):=by grind
 have k:a1*(a2*a2-4*a0)=0:=by grind
 rcases cI.mp k with z | z
 ·exact z
 ·have ea:a0=a2*a2 / 4:=by grind
  have c:a1*a1*a1=0:=by grind
  rcases cI.mp c with z | z
  ·rcases cI.mp z with z | z <;> exact z
  ·exact z
open L2 Cv Hv Pc Qp
theorem mono_q (r:Rat) (k:Nat):∃ R C,Po.Fm R C/\∀ i,q R C i=if i=k then r else 0:=by
 obtain ⟨t,u,hu,rfl⟩:=num_den r
 obtain ⟨R,C,f,h⟩:=has (F:=fun i=>if i=k then t else 0) (n:=k+1) (c:=u) hu (fun i hi=>if_neg (by omega))
 refine ⟨R,C,f,fun i=>?_⟩
 rw [q_of f.pos (aw hu) h i]
 by_cases y:i=k
 ·rw [if_pos y,if_pos y]
 ·rw [if_neg y,if_neg y]
  show (0:Rat) / _=0
  grind
theorem er_pl (f:Nat->Rat):∀ n:Nat,∃ R C,Po.Fm R C/\∀ i,q R C i=if i<n then f i else 0
 | 0=>⟨[],1,nil_fm,fun i=>by rw [q_out (aC _),if_neg (cu _)]⟩
 | n+1=>by
  obtain ⟨R,C,fR,h⟩:=er_pl f n
  obtain ⟨M,c,fM,g⟩:=mono_q (f n) n
  obtain ⟨S,d,fS,eS⟩:=(Pf.of fR).add (Pf.of fM)
  refine ⟨S,d,fS,fun i=>?_⟩
  rw [q_lin (u:=1) fS fR fM (fun x=>by rw [eS x];grind) i,h,g]
  by_cases y:i<n
  ·rw [if_pos y,if_neg (by omega),if_pos (by omega)]
   grind
  ·rw [if_neg y]
   by_cases z:i=n
   ·rw [if_pos z,if_pos (by omega),z]
    grind
   ·rw [if_neg z,if_neg (by omega)]
    grind
theorem er_congr {f g:Nat->Rat} {x:Rat}:∀ {n:Nat},(∀ i,i<n->f i=g i)->er f x n=er g x n
 | 0,_=>rfl
 | n+1,h=>by
  show er f x n+f n*x^n=er g x n+g n*x^n
  rw [er_congr fun i hi=>h i (by omega),h n (by omega)]
theorem er_zero {f:Nat->Rat} {n:Nat} (h:∀ x,er f x n=0) (i:Nat) (hi:i<n):f i=0:=by
 obtain ⟨R,C,fR,e⟩:=er_pl f n
 have lR:R.length<=n:=by
  rcases am n R.length with y | y
  ·refine absurd ?_ (q_lead fR (by rintro rfl;simp at y))
   rw [e,if_neg (by omega)]
  ·exact y
 have z:R=[]:=(E_inj fR nil_fm fun x=>by
  rw [E_at lR,← er_E e x n,er_congr (g:=f) fun i hi=>if_pos hi,h,E_nil]).1
 have a:=e i
 rw [if_pos hi,z,q_out (aC _)] at a
 exact a.symm
theorem sq_cube {a2 a1 a0 b5 b4 b3 b2 b1 b0 c1 c0:Rat} (h:∀ u:Rat,(u^4+a2*u^2+a1*u+a0)^3+c1*(u^4+a2*u^2+a1*u+a0)+c0=(u^6+b5*u^5+b4*u^4+b3*u^3+b2*u^2+b1*u+b0)^2):a1=0:=by
 have z:=er_zero (n:=12) (f:=fun i=>[b0*b0-(a0*a0*a0+c1*a0+c0),2*(b1*b0)-(3*(a0*a0*a1)+c1*a1),2*(b2*b0)+b1*b1-(3*(a0*a0*a2)+3*(a0*a1*a1)+c1*a2),2*(b3*b0)+2*(b2*b1)-(6*(a0*a1*a2)+a1*a1*a1),2*(b4*b0)+2*(b3*b1)+b2*b2-(3*(a0*a0)+3*(a2*a2*a0)+3*(a2*a1*a1)+c1),2*(b5*b0)+2*(b4*b1)+2*(b3*b2)-(6*(a0*a1)+3*(a2*a2*a1)),2*b0+2*(b5*b1)+2*(b4*b2)+b3*b3-(6*(a0*a2)+3*(a1*a1)+a2*a2*a2),2*b1+2*(b5*b2)+2*(b4*b3)-6*(a1*a2),2*b2+2*(b5*b3)+b4*b4-(3*a0+3*(a2*a2)),2*b3+2*(b5*b4)-3*a1,2*b4+b5*b5-3*a2,2*b5].getD i 0) fun u=>by
  have e:=h u
  simp only [er,cZ,bG,List.getD_nil]
  grind
 have z3:=z 3 (by decide)
 have z5:=z 5 (by decide)
 have z6:=z 6 (by decide)
 have z7:=z 7 (by decide)
 have z8:=z 8 (by decide)
 have z9:=z 9 (by decide)
 have z10:=z 10 (by decide)
 have z11:=z 11 (by decide)
 simp only [cZ,bG] at z3 z5 z6 z7 z8 z9 z10 z11
 have b50:b5=0:=by grind
 subst b50
 exact quart (a2:=a2) (a0:=a0) (b4:=b4) (b3:=b3) (b2:=b2) (b1:=b1) (b0:=b0) (by grind) (by grind) (by grind) (by grind) (by grind) (by grind) (by grind)
theorem done_sq {y z r2 r1 r0 t1 t0 c1 c0:Rat} (hc:c1=r1-r2*r2 / 3) (hd:c0=r0-t0+t1*t1 / 4-r2*r2*r2 / 27-c1*r2 / 3) (h:y^3+r2*y^2+r1*y+r0=z^2+t1*z+t0):(y+r2 / 3)^3+c1*(y+r2 / 3)+c0=(z+t1 / 2)^2:=by
 subst hc hd
 grind
theorem four_six {p3 p2 p1 p0 v5 v4 v3 v2 v1 v0 r2 r1 r0 t1 t0:Rat} (h:∀ x:Rat,(x^4+p3*x^3+p2*x^2+p1*x+p0)^3+r2*(x^4+p3*x^3+p2*x^2+p1*x+p0)^2+r1*(x^4+p3*x^3+p2*x^2+p1*x+p0)+r0=(x^6+v5*x^5+v4*x^4+v3*x^3+v2*x^2+v1*x+v0)^2+t1*(x^6+v5*x^5+v4*x^4+v3*x^3+v2*x^2+v1*x+v0)+t0):p1=p3 / 2*(p2-p3*p3 / 4):=by
 obtain ⟨w,rfl⟩:∃ w,p3=4*w:=⟨p3 / 4,by grind⟩
 obtain ⟨c1,hc⟩:∃ c1,c1=r1-r2*r2 / 3:=⟨_,rfl⟩
 obtain ⟨c0,hd⟩:∃ c0,c0=r0-t0+t1*t1 / 4-r2*r2*r2 / 27-c1*r2 / 3:=⟨_,rfl⟩
 have z:=sq_cube (a2:=p2-6*(w*w)) (a1:=p1-2*(w*p2)+8*(w*w*w)) (a0:=p0-w*p1+w*w*p2-3*(w*w*w*w)+r2 / 3) (b5:=v5-6*w) (b4:=v4-5*(w*v5)+15*(w*w)) (b3:=v3-4*(w*v4)+10*(w*w*v5)-20*(w*w*w)) (b2:=v2-3*(w*v3)+6*(w*w*v4)-10*(w*w*w*v5)+15*(w*w*w*w)) (b1:=v1-2*(w*v2)+3*(w*w*v3)-4*(w*w*w*v4)+5*(w*w*w*w*v5)-6*(w*w*w*w*w)) (b0:=v0-w*v1+w*w*v2-w*w*w*v3+w*w*w*w*v4-w*w*w*w*w*v5+w*w*w*w*w*w+t1 / 2) (c1:=c1) (c0:=c0) fun u=>by
  have e:=done_sq hc hd (h (u-w))
  have ea:(u-w)^4+4*w*(u-w)^3+p2*(u-w)^2+p1*(u-w)+p0+r2 / 3=u^4+(p2-6*(w*w))*u^2+(p1-2*(w*p2)+8*(w*w*w))*u+(p0-w*p1+w*w*p2-3*(w*w*w*w)+r2 / 3):=by
   clear e h hc hd
   grind
  have eb:(u-w)^6+v5*(u-w)^5+v4*(u-w)^4+v3*(u-w)^3+v2*(u-w)^2+v1*(u-w)+v0+t1 / 2=u^6+(v5-6*w)*u^5+(v4-5*(w*v5)+15*(w*w))*u^4+(v3-4*(w*v4)+10*(w*w*v5)-20*(w*w*w))*u^3+(v2-3*(w*v3)+6*(w*w*v4)-10*(w*w*w*v5)+15*(w*w*w*w))*u^2+(v1-2*(w*v2)+3*(w*w*v3)-4*(w*w*w*v4)+5*(w*w*w*w*v5)-6*(w*w*w*w*w))*u+(v0-w*v1+w*w*v2-w*w*w*v3+w*w*w*w*v4-w*w*w*w*w*v5+w*w*w*w*w*w+t1 / 2):=by
   clear e h hc hd ea
   grind
  rw [ea,eb] at e
  exact e
 clear h
 grind
end Ap
namespace Dp
open PySem L2
def pD (P:List Int) (B:Int):D:=.tup [.tup (P.map .int),.int B]
def fD (t b:Int):D:=.tup [.int t,.int b]
theorem sz2:2<=sizeLine:=by rw [sizeLine_eq];decide
theorem sz1:1<=sizeLine:=by rw [sizeLine_eq];decide
theorem szN {n:Nat} (h:n<=16777216):n<=sizeLine:=by rw [sizeLine_eq];exact h
theorem ifB {c:Bool} {A B:Prop} (h1:c=true->A) (h2:c=false->B):if c=true then A else B:=by
 cases c
 ·exact h2 rfl
 ·exact h1 rfl
theorem ifP {p:Prop} [Decidable p] {A B:Prop} (h1:p->A) (h2:¬ p->B):if decide p=true then A else B:=by
 by_cases c:p
 ·rw [if_pos (decide_eq_true c)];exact h1 c
 ·rw [if_neg (by simpa using c)];exact h2 c
theorem ifN {p:Prop} [Decidable p] {A B:Prop} (h1:¬ p->A) (h2:p->B):if (!decide p)=true then A else B:=by
 by_cases c:p
 ·rw [if_neg (by simpa using c)];exact h2 c
 ·rw [if_pos (by simpa using c)];exact h1 c
theorem getD_of {α:Type} {fs:List α} {i:Nat} {f d:α} (h:fs[i]? = some f):fs.getD i d=f:=by
 rw [ac,h]
 rfl
theorem getD_out {α:Type} {fs:List α} {i:Nat} {d:α} (h:fs.length<=i):fs.getD i d=d:=by
 rw [ac,bq h]
 rfl
theorem int_at {ts:List Int} {i:Nat} {x:D} (h:(ts.map D.int)[i]? = some x):i<ts.length/\x = .int (ts.getD i 0):=by
 rw [aG] at h
 obtain ⟨z,hz,rfl⟩:=aa.mp h
 rw [getD_of hz]
 exact ⟨(ak.mp hz).1,rfl⟩
theorem at_int {ts:List Int} {i:Nat} (h:i<ts.length):(ts.map D.int)[i]? = some (.int (ts.getD i 0)):=by
 rw [aG,ac,aq h]
 rfl
theorem take_snoc {ts:List Int} {i:Nat} (h:i<ts.length):ts.take (i+1)=ts.take i++[ts.getD i 0]:=by
 rw [List.take_succ_eq_append_getElem h,ac,aq h]
 rfl
theorem gl_snoc (b:Nat) (ts:List Int) (t:Int):Po.gl b (ts++[t])=Nat.gcd (Po.gl b ts) t.natAbs:=by
 unfold Po.gl
 rw [gE]
 rfl
theorem atI_end {α:Type} (xs:List α) (x:α):atI (xs++[x]) (-1)=some x:=by
 unfold atI ixN
 rw [if_neg (by omega),if_pos (by rw [av];simp;omega)]
 show (xs++[x])[(-1+((xs++[x]).length:Int)).toNat]? = _
 rw [av,aL (by simp;omega)]
 have:(-1+((xs.length+[x].length:Nat):Int)).toNat-xs.length=0:=by simp;omega
 rw [this]
 rfl
theorem itD_nat {l:List D} {n:Nat} {d:D} {Q:D->Prop} (h:l[n]? = some d) (q:Q d):itD l (n:Int) Q:=by
 unfold itD
 rw [atI_nat h]
 exact q
theorem itD_of {l:List D} {i:Int} {d:D} {Q:D->Prop} (h:atI l i=some d) (q:Q d):itD l i Q:=by
 unfold itD
 rw [h]
 exact q
def mI {α:Type} (F:α->Int) (ts:List α):Nat->List D->Prop:=fun i ys=>ys=((ts.take i).map F).map D.int
theorem mI.nil {α:Type} {F:α->Int} {ts:List α}:mI F ts 0 []:=rfl
theorem mI.snoc {α:Type} {F:α->Int} {ts:List α} {i:Nat} {ys:List D} {t:α} {z:Int} (h:mI F ts i ys) (ht:ts[i]? = some t) (hz:z=F t):mI F ts (i+1) (ys++[.int z]):=by
 unfold mI at h ⊢
 rw [h,hz,gB,ht,bj,bj]
 rfl
theorem mI.all {α:Type} {F:α->Int} {ts:List α} {n:Nat} {ys:List D} (h:mI F ts n ys) (hn:n=ts.length):ys=(ts.map F).map D.int:=by
 unfold mI at h
 rw [h,hn,bD]
theorem get_int {ts:List Int} {i:Nat} {x:D} (h:(ts.map D.int)[i]? = some x):∃ z,ts[i]? = some z/\x = .int z:=by
 rw [aG] at h
 obtain ⟨z,hz,rfl⟩:=aa.mp h
 exact ⟨z,hz,rfl⟩
def mY:TSd:=(dSq (iM (gX (g8 .NotEq (gP 1) (dC (.int 0))))
 (mV [] 0 1 (gP 1) (gT .Mod (gP 0) (gP 1))))
 (g9 [] (dB bAbs bAbs.mono (gO (gP 0) gQ))))
def ip:SpB:=.of 2 (α:=Int×Int) (fun x ds=>ds=[.int x.1,.int x.2]) (fun x d=>d = .int (Fr.cp x.1 x.2))
theorem abs_is (x:Int):(if x<0 then -x else x)=((x.natAbs:Nat):Int):=by split <;> omega
theorem kD:Does 2 mY ip:=by
 rintro ds Q hn ⟨⟨a,b⟩,rfl,q⟩
 refine ⟨fun s=>∃ a' b':Int,s=[.val (.int a'),.val (.int b')]/\Int.gcd a' b'=Int.gcd a b,fun s=>match s with | [_,.val (.int b')]=>b'.natAbs | _=>0,⟨a,b,rfl,rfl⟩,?_⟩
 rintro _ ⟨a',b',rfl,hg⟩
 refine ifN (p:=b'=0) (fun c=>?_) (fun c=>?_)
 ·exact ⟨c,⟨b',a'.fmod b',rfl,by rw [Fr.gcd_step];exact hg⟩,Fr.fmod_lt a' b' c⟩
 ·subst c
  refine q _ ?_
  show D.int (if a'<0 then -a' else a') = .int (Fr.cp a b)
  unfold Fr.cp
  rw [abs_is,← hg,Int.gcd_zero_right]
def mo:TSd:=(dSq (mV [] 0 1 (dB bAbs bAbs.mono (gO (gP 0) gQ)) (dB bAbs bAbs.mono (gO (gP 1) gQ)))
 (dSq (iM (lF (gP 1))
 (mV [] 0 1 (gP 1) (gT .Mod (gP 0) (gP 1))))
 (g9 [] (gP 0))))
def iq:SpB:=.of 2 (α:=Int×Int) (fun x ds=>ds=[.int x.1,.int x.2]) (fun x d=>d = .int (Fr.cp x.1 x.2))
theorem j6:Does 2 mo iq:=by
 rintro ds Q hn ⟨⟨a,b⟩,rfl,q⟩
 show (dSq (iM _ _) _).run _ [.val (.int (if a<0 then -a else a)),.val (.int (if b<0 then -b else b))]
 rw [abs_is,abs_is]
 refine ⟨fun s=>∃ a' b':Nat,s=[.val (.int a'),.val (.int b')]/\Nat.gcd a' b'=Int.gcd a b,fun s=>match s with | [_,.val (.int b')]=>b'.natAbs | _=>0,⟨a.natAbs,b.natAbs,rfl,rfl⟩,?_⟩
 rintro _ ⟨a',b',rfl,hg⟩
 refine ifB (c:=((b':Int) != 0)) (fun c=>?_) (fun c=>?_)
 ·have c':b'≠0:=by
   intro z
   subst z
   simp at c
  refine ⟨by omega,⟨b',a'%b',?_,by rw [fE,← Nat.gcd_rec,fE];exact hg⟩,?_⟩
  ·show [SD.val (.int b'),.val (.int ((a':Int).fmod b'))]=_
   rw [cq _ (by omega)]
   rfl
  ·show ((a':Int).fmod b').natAbs<(b':Int).natAbs
   exact Fr.fmod_lt _ _ (by omega)
 ·have c':b'=0:=by
   have:((b':Int)=0):=by simpa using c
   omega
  subst c'
  refine q _ ?_
  show D.int a' = .int (Fr.cp a b)
  unfold Fr.cp
  rw [← hg,Nat.gcd_zero_right]
def lJ:TSd:=(dSq (gU [] (gNm 2) (gS ip (gO (gP 0) (gO (gP 1) gQ))))
 (dSq (dIf [] (gX (g8 .Lt (gP 1) (dC (.int 0))))
 (gU [] (gNm 2) (gT .Sub (dC (.int 0)) (gP 2)))
 hV)
 (g9 [] (gZ (gO (gT .FloorDiv (gP 0) (gP 2)) (gO (gT .FloorDiv (gP 1) (gP 2)) gQ))))))
def io:SpB:=.of 2 (α:=Int×Int) (fun x ds=>ds=[.int x.1,.int x.2]/\x.2≠0/\Lt2 9000000 x.2) (fun x d=>d=fD (Fr.top x.1 x.2) (Fr.bot x.1 x.2))
theorem jN:Does 3 lJ io:=by
 rintro ds Q hn ⟨⟨a,b⟩,⟨rfl,h0,hl⟩,q⟩
 refine ⟨rfl,(a,b),rfl,?_⟩
 rintro _ rfl
 have fin:∀ p:Int,p=Fr.part a b->CDivB a p/\CDivB b p/\2<=sizeLine/\Q (.tup [.int (a.fdiv p),.int (b.fdiv p)]):=by
  rintro p rfl
  have c:∀ x,CDivB x (Fr.part a b):=fun x=>⟨Fr.part_ne h0,9000000,hl.le (Fr.part_le h0),by decide⟩
  exact ⟨c _,c _,sz2,q _ rfl⟩
 refine ifP (p:=b<0) (fun c=>?_) (fun c=>?_)
 ·exact fin _ (by unfold Fr.part;rw [if_pos c];simp)
 ·exact fin _ (by unfold Fr.part;rw [if_neg c])
theorem drop_int {ts:List Int} {k:Nat} (h:k<ts.length):(((ts.take (k+1)).map D.int)).dropLast=(ts.take k).map D.int:=by
 rw [take_snoc h,bj]
 exact List.dropLast_concat
theorem dSq.cut {t u:TSd} {E:EndsD} {ss:SS} (R:SS->Prop) (h1:t.run (E.to R) ss) (h2:∀ s,R s->u.run E s):(dSq t u).run E ss:=t.mono (E:=E.to R) (E':=E.to (u.run E)) ⟨h2,fun _ z=>z,fun _ z=>z,fun _ z=>z⟩ h1
def mZ:TSd:=(g9 [0] (gZ (gO (dB bTuple bTuple.mono (gO (ia (il (gP 0)) [3] (gNm 3) iG (gT .FloorDiv (gP 3) (gP 2))) gQ)) (gO (gT .FloorDiv (gP 1) (gP 2)) gQ))))
def m4:TSd:=dSq (iC [0] (il (gP 0)) (gNm 3)
 (gU [] (gNm 2) (gS ip (gO (gP 2) (gO (gP 3) gQ)))))
 mZ
def m5:TSd:=dSq (gU [] (gNm 2) (gP 1))
 m4
def jO:TSd:=dSq (iM (ja (gX (g8 .Gt (kr 0) (dC (.int 0)))) (gX (g8 .Eq (kC 0 (kB (dC (.int 1)))) (dC (.int 0)))))
 (po 0))
 m5
def oq:TSd:=dSq (j5 [0] 0 (i5 (gP 0)))
 jO
def g7:SpB:=.of 2 (α:=List Int×Int) (fun x ds=>(ds=[.lst (x.1.map .int),.int x.2]\/ds=[.tup (x.1.map .int),.int x.2])/\0<x.2/\Lt2 9000000 x.2/\x.1.length<=1000)
 (fun x d=>∃ P B,d=pD P B/\Po.Fm P B/\(∀ k,P.getD k 0*x.2=x.1.getD k 0*B)/\P.length<=x.1.length)
theorem mr:Does 4 oq g7:=by
 rintro ds Q hn ⟨⟨ts,b⟩,⟨hd,hb,hl,hz⟩,q⟩
 dsimp only at hd hb hl hz q
 have sl:(1000:Nat)<=sizeLine:=by rw [sizeLine_eq];decide
 suffices h:jO.run (endQ Q) [.own (ts.map .int),.val (.int b),.no,.no] by
  rcases hd with rfl | rfl
  ·exact h
  ·exact h
 refine dSq.cut (fun s=>∃ m:Nat,s=[.own ((ts.take m).map .int),.val (.int b),.no,.no]/\m<=ts.length/\(∀ j,m<=j->ts.getD j 0=0)/\(m=0\/ts.getD (m-1) 0≠0)) ?_ ?_
 rotate_left
 ·rintro _ ⟨m,rfl,hm,h0,hlast⟩
  obtain ⟨fm,wr⟩:=Po.form hb hm h0 hlast
  have bn:((b.natAbs:Nat):Int)=b:=by omega
  refine ⟨fun i s=>∃ o,s=[.val (.lst ((ts.take m).map .int)),.val (.int b),.val (.int ((Po.gl b.natAbs ((ts.take m).take i):Nat):Int)),o],⟨.no,?_⟩,?_,?_⟩
  ·show [SD.val _,.val (.int b),.val (.int b),.no]=[SD.val _,.val (.int b),.val (.int ((b.natAbs:Nat):Int)),.no]
   rw [bn]
  ·rintro i d s hd ⟨o,rfl⟩
   obtain ⟨hi,rfl⟩:=int_at hd
   refine ⟨rfl,(_,_),rfl,?_⟩
   rintro _ rfl
   refine ⟨.val (.int ((ts.take m).getD i 0)),?_⟩
   rw [take_snoc hi,gl_snoc]
   rfl
  ·rintro s ⟨o,rfl⟩
   rw [ab,bD]
   have g0:0<Po.gl b.natAbs (ts.take m):=Po.gl_pos (by omega) _
   have gle:Po.gl b.natAbs (ts.take m)<=b.natAbs:=bv (by omega) (Po.gl_dvd _ _).1
   generalize Po.gl b.natAbs (ts.take m)=g at *
   have cd:∀ x:Int,CDivB x (g:Int):=fun x=>⟨by omega,9000000,hl.le (by rw [aZ];exact gle),by decide⟩
   refine ⟨by rw [ab,aO];omega,mI (fun z=>z.fdiv (g:Int)) (ts.take m),mI.nil,fun i d ys hd _ hy=>?_,fun ys _ hy=>?_⟩
   ·obtain ⟨z,hz,rfl⟩:=get_int hd
    exact ⟨cd _,hy.snoc hz rfl⟩
   ·cases hy.all (by rw [ab])
    exact ⟨cd _,sz2,q _ ⟨_,_,rfl,fm,wr,by rw [ab,aO];omega⟩⟩
 ·refine ⟨fun s=>∃ m:Nat,s=[.own ((ts.take m).map .int),.val (.int b),.no,.no]/\m<=ts.length/\∀ j,m<=j->ts.getD j 0=0,fun s=>match s with | .own l::_=>l.length | _=>0,⟨ts.length,by rw [bD],aj _,fun j hj=>getD_out hj⟩,?_⟩
  rintro _ ⟨m,rfl,hm,h0⟩
  have lm:((ts.take m).map D.int).length=m:=by rw [ab,aO];omega
  refine ifP (p:=(0:Int)<(((ts.take m).map D.int).length:Nat)) (fun c=>?_) (fun c=>?_)
  ·rw [lm] at c
   obtain ⟨k,rfl⟩:∃ k,m=k+1:=⟨m-1,by omega⟩
   have hk:k<ts.length:=by omega
   have la:atI ((ts.take (k+1)).map D.int) (-1)=some (.int (ts.getD k 0)):=by
    rw [take_snoc hk,bj]
    exact atI_end _ _
   refine itD_of la (ifP (p:=ts.getD k 0=0) (fun z=>?_) (fun z=>?_))
   ·refine ⟨fun e=>?_,⟨k,?_,by omega,fun j hj=>?_⟩,?_⟩
    ·rw [e] at lm
     cases lm
    ·show [SD.own _,_,_,_]=_
     rw [drop_int hk]
    ·rcases bV hj with w | w
     ·rw [← w];exact z
     ·exact h0 j w
    ·show (((ts.take (k+1)).map D.int)).dropLast.length<((ts.take (k+1)).map D.int).length
     rw [drop_int hk,lm,ab,aO]
     omega
   ·exact ⟨k+1,rfl,hm,h0,.inr z⟩
  ·rw [lm] at c
   exact ⟨m,rfl,hm,h0,.inl (by omega)⟩
theorem set_getD {ts:List Int} {i k:Nat} {z:Int} (h:i<ts.length):(ts.set i z).getD k 0=if k=i then z else ts.getD k 0:=by
 rw [ac,ac,aK]
 by_cases e:i=k
 ·subst e
  rw [if_pos rfl,if_pos h,if_pos rfl]
  rfl
 ·rw [if_neg e,if_neg (Ne.symm e)]
theorem map_set {ts:List Int} {i:Nat} {z:Int}:(ts.map D.int).set i (.int z)=(ts.set i z).map D.int:=by
 rw [List.map_set]
theorem snoc_getD {ts:List Int} {i k:Nat} (h:i<ts.length):(ts.take (i+1)).getD k 0=(ts.take i).getD k 0+(if k=i then ts.getD i 0 else 0):=by
 rw [take_snoc h]
 by_cases e:k=i
 ·subst e
  rw [if_pos rfl,getD_out (fs:=ts.take k) (by rw [aO];omega)]
  have:(ts.take k++[ts.getD k 0]).getD k 0=ts.getD k 0:=getD_of (by rw [aL (by rw [aO];omega),aO,Nat.min_eq_left (by omega),bM];rfl)
  rw [this,cF]
 ·rw [if_neg e,bS,← take_snoc h,ac,ac,d8,d8]
  by_cases c:k<i
  ·rw [if_pos c,if_pos (by omega)]
  ·rw [if_neg c,if_neg (by omega)]
theorem rep_ints (n:Nat):(List.replicate n [D.int 0]).flatten=(List.replicate n (0:Int)).map D.int:=by
 induction n with
 | zero=>rfl
 | succ n ih=>rw [bw,bZ,ih,bw];rfl
theorem rep_getD (n k:Nat):(List.replicate n (0:Int)).getD k 0=0:=by
 rw [ac,dG]
 split <;> rfl
theorem enum_at {ts:List Int} {i:Nat} {d:D} (h:(enumD (ts.map D.int))[i]? = some d):i<ts.length/\d = .tup [.int (i:Nat),.int (ts.getD i 0)]:=by
 obtain ⟨x,hx,rfl⟩:=enumD_got h
 obtain ⟨hi,rfl⟩:=int_at hx
 exact ⟨hi,rfl⟩
theorem atD_nat {l:List D} {n:Nat} {Q:Nat->Prop} (h:n<l.length) (q:Q n):atD l (.int (n:Nat)) Q:=by
 unfold atD
 dsimp only
 have:ixN l.length (n:Int)=some n:=by
  unfold ixN
  rw [if_pos (by omega),if_pos (by omega)]
  rfl
 rw [this]
 exact q
def nM:TSd:=(g9 [3] (gS g7 (gO (gP 3) (gO (gT .Mult (dIx (gP 0) (dC (.int 1))) (dIx (gP 1) (dC (.int 1)))) gQ))))
def nN:TSd:=dSq (iC [] (iF (dIx (gP 1) (dC (.int 0)))) (gTp [4,5])
 (kw [] 3 (gP 4) (gT .Add (kC 3 (gP 4)) (gT .Mult (gP 5) (dIx (gP 0) (dC (.int 1)))))))
 nM
def jl:TSd:=dSq (iC [] (iF (dIx (gP 0) (dC (.int 0)))) (gTp [4,5])
 (kw [] 3 (gP 4) (gT .Add (kC 3 (gP 4)) (gT .Mult (gP 5) (dIx (gP 1) (dC (.int 1)))))))
 nN
def jm:TSd:=dSq (j5 [] 3 (gT .Mult (ig (gO (dC (.int 0)) gQ)) (gP 2)))
 jl
def oP:TSd:=dSq (gU [] (gNm 2) (dB bMax bMax.mono (gO (dB bLen bLen.mono (gO (dIx (gP 0) (dC (.int 0))) gQ)) (gO (dB bLen bLen.mono (gO (dIx (gP 1) (dC (.int 0))) gQ)) gQ))))
 jm
def iD:SpB:=.of 2 (α:=List Int×Int×List Int×Int×Nat×Nat×Nat×Nat) (fun (P,B,P',B',n,b,m,c) ds=>ds=[pD P B,pD P' B']/\Pc.Pz n b P B/\Pc.Pz m c P' B'/\b+c<=9000000/\n+m<=1000000/\P.length<=900/\P'.length<=900)
 (fun (P,B,P',B',n,b,m,c) d=>∃ R C,d=pD R C/\Po.Fm R C/\∀ k,R.getD k 0*(B*B')=(P.getD k 0*B'+P'.getD k 0*B)*C)
theorem m6:Does 6 oP iD:=by
 rintro ds Q hn ⟨⟨P,B,P',B',n,b,m,c⟩,⟨rfl,G1,G2,hb,hm,l1,l2⟩,q⟩
 dsimp only at G1 G2 hb hm l1 l2 q
 have sl:(1000:Nat)<=sizeLine:=by rw [sizeLine_eq];decide
 have p1:=G1.fm.pos
 have p2:=G2.fm.pos
 obtain ⟨M,hM⟩:∃ M:Nat,M=max P.length P'.length:=⟨_,rfl⟩
 have lb1:=G1.bot
 have lb2:=G2.bot
 suffices h:jl.run (endQ Q) [.val (pD P B),.val (pD P' B'),.val (.int M),.own ((List.replicate M (0:Int)).map .int),.no,.no] by
  have e0:(if ((P'.map D.int).length:Int) > ((P.map D.int).length:Nat) then ((P'.map D.int).length:Int) else ((P.map D.int).length:Nat))=(M:Nat):=by
   rw [ab,ab]
   split <;> omega
  suffices h1:jm.run (endQ Q) [.val (pD P B),.val (pD P' B'),.val (.int M),.no,.no,.no] by
   show jm.run (endQ Q) [.val (pD P B),.val (pD P' B'),.val (.int (if ((P'.map D.int).length:Int) > ((P.map D.int).length:Nat) then ((P'.map D.int).length:Int) else ((P.map D.int).length:Nat))),.no,.no,.no]
   rw [e0]
   exact h1
  refine ⟨by rw [sizeLine_eq];decide,by omega,by omega,by show 1*M<=_;omega,?_⟩
  show jl.run (endQ Q) [.val (pD P B),.val (pD P' B'),.val (.int M),.own (List.replicate M [D.int 0]).flatten,.no,.no]
  rw [rep_ints]
  exact h
 refine ⟨fun i s=>∃ F:List Int,∃ o o':SD,s=[.val (pD P B),.val (pD P' B'),.val (.int M),.own (F.map .int),o,o']/\F.length=M/\∀ k,F.getD k 0=(P.take i).getD k 0*B',⟨_,_,_,rfl,ce,fun k=>by rw [rep_getD,de];simp⟩,?_,?_⟩
 ·rintro i d _ hd ⟨F,o,o',rfl,hF,hf⟩
  obtain ⟨hi,rfl⟩:=enum_at hd
  have hiF:i<F.length:=by omega
  refine ⟨rfl,itD_nat (at_int hiF) ⟨⟨n,c,G1.tops i,lb2,by omega⟩,atD_nat (by rw [ab];exact hiF) ⟨F.set i (F.getD i 0+P.getD i 0*B'),.val (.int (i:Nat)),.val (.int (P.getD i 0)),?_,by rw [aX];exact hF,fun k=>?_⟩⟩⟩
  ·show [SD.val _,.val _,.val _,.own ((F.map D.int).set i (.int (F.getD i 0+P.getD i 0*B'))),_,_]=_
   rw [map_set]
  ·rw [set_getD hiF,snoc_getD hi]
   by_cases e:k=i
   ·subst e
    rw [if_pos rfl,if_pos rfl,hf,dY]
   ·rw [if_neg e,if_neg e,hf,bS]
 ·rintro _ ⟨F,o,o',rfl,hF,hf⟩
  rw [enumD_len,ab,bD] at hf
  refine ⟨fun i s=>∃ F:List Int,∃ o o':SD,s=[.val (pD P B),.val (pD P' B'),.val (.int M),.own (F.map .int),o,o']/\F.length=M/\∀ k,F.getD k 0=P.getD k 0*B'+(P'.take i).getD k 0*B,⟨F,_,_,rfl,hF,fun k=>by rw [hf,de];simp⟩,?_,?_⟩
  ·rintro i d _ hd ⟨F,o,o',rfl,hF,hf⟩
   obtain ⟨hi,rfl⟩:=enum_at hd
   have hiF:i<F.length:=by omega
   refine ⟨rfl,itD_nat (at_int hiF) ⟨⟨m,b,G2.tops i,lb1,by omega⟩,atD_nat (by rw [ab];exact hiF) ⟨F.set i (F.getD i 0+P'.getD i 0*B),.val (.int (i:Nat)),.val (.int (P'.getD i 0)),?_,by rw [aX];exact hF,fun k=>?_⟩⟩⟩
   ·show [SD.val _,.val _,.val _,.own ((F.map D.int).set i (.int (F.getD i 0+P'.getD i 0*B))),_,_]=_
    rw [map_set]
   ·rw [set_getD hiF,snoc_getD hi]
    by_cases e:k=i
    ·subst e
     rw [if_pos rfl,if_pos rfl,hf,dY,Int.add_assoc]
    ·rw [if_neg e,if_neg e,hf,bS]
  ·rintro _ ⟨F,o,o',rfl,hF,hf⟩
   rw [enumD_len,ab,bD] at hf
   refine ⟨⟨b,c,lb1,lb2,by omega⟩,rfl,(F,B*B'),⟨.inl rfl,ax p1 p2,(lb1.mul lb2).mono hb,by show F.length<=1000;omega⟩,?_⟩
   rintro _ ⟨R,C,rfl,fm,hw,_⟩
   exact q _ ⟨R,C,rfl,fm,fun k=>by rw [hw k,hf k]⟩
end Dp
namespace Dp
open PySem L2
def mw:TSd:=(g9 [2] (gS g7 (gO (gP 2) (gO (gT .Mult (dIx (gP 0) (dC (.int 1))) (dIx (gP 1) (dC (.int 1)))) gQ))))
def iS:TSd:=dSq (iC [] (iF (dIx (gP 0) (dC (.int 0)))) (gTp [3,4])
 (iC [] (iF (dIx (gP 1) (dC (.int 0)))) (gTp [5,6])
 (kw [] 2 (gT .Add (gP 3) (gP 5)) (gT .Add (kC 2 (gT .Add (gP 3) (gP 5))) (gT .Mult (gP 4) (gP 6))))))
 mw
def nP:TSd:=dSq (j5 [] 2 (gT .Mult (ig (gO (dC (.int 0)) gQ)) (gT .Add (dB bLen bLen.mono (gO (dIx (gP 0) (dC (.int 0))) gQ)) (dB bLen bLen.mono (gO (dIx (gP 1) (dC (.int 0))) gQ)))))
 iS
def iL:SpB:=.of 2 (α:=List Int×Int×List Int×Int×Nat×Nat×Nat×Nat) (fun (P,B,P',B',n,b,m,c) ds=>ds=[pD P B,pD P' B']/\Pc.Pz n b P B/\Pc.Pz m c P' B'/\b+c<=9000000/\n+m<=1000000/\P.length<=450/\P'.length<=450)
 (fun (P,B,P',B',n,b,m,c) d=>∃ R C,d=pD R C/\Po.Fm R C/\∀ k,R.getD k 0*(B*B')=Cv.cv (Cv.fn P) (Cv.fn P') k*C)
theorem lQ:Does 7 nP iL:=by
 rintro ds Q hn ⟨⟨P1,B1,P2,B2,n,b,m,c⟩,⟨rfl,G1,G2,hb,hm,l1,l2⟩,q⟩
 dsimp only at G1 G2 hb hm l1 l2 q
 have sl:(1000:Nat)<=sizeLine:=by rw [sizeLine_eq];decide
 have p1:=G1.fm.pos
 have p2:=G2.fm.pos
 suffices h:iS.run (endQ Q) [.val (pD P1 B1),.val (pD P2 B2),.own ((List.replicate (P1.length+P2.length) (0:Int)).map .int),.no,.no,.no,.no] by
  have e0:(((P1.map D.int).length:Nat):Int)+((P2.map D.int).length:Nat)=((P1.length+P2.length:Nat):Int):=by
   rw [ab,ab]
   omega
  refine ⟨sz1,?_,?_,?_,?_⟩
  ·rw [e0]
   omega
  ·rw [e0]
   omega
  ·rw [e0]
   show 1*(P1.length+P2.length)<=_
   omega
  ·show iS.run (endQ Q) [.val (pD P1 B1),.val (pD P2 B2),.own (List.replicate ((((P1.map D.int).length:Nat):Int)+((P2.map D.int).length:Nat)).toNat [D.int 0]).flatten,.no,.no,.no,.no]
   rw [e0,bo,rep_ints]
   exact h
 refine ⟨fun i s=>∃ (rs:List Int) (o3 o4 o5 o6:SD),s=[.val (pD P1 B1),.val (pD P2 B2),.own (rs.map .int),o3,o4,o5,o6]/\rs.length=P1.length+P2.length/\∀ k,rs.getD k 0=Cv.tm (Cv.fn P1) (Cv.fn P2) i k,⟨_,_,_,_,_,rfl,ce,fun k=>rep_getD _ _⟩,?_,?_⟩
 ·rintro i d _ hd ⟨rs,o3,o4,o5,o6,rfl,lr,hr⟩
  obtain ⟨hi,rfl⟩:=enum_at hd
  refine ⟨rfl,fun k s=>∃ (rs:List Int) (o5 o6:SD),s=[.val (pD P1 B1),.val (pD P2 B2),.own (rs.map .int),.val (.int (i:Nat)),.val (.int (P1.getD i 0)),o5,o6]/\rs.length=P1.length+P2.length/\∀ m,rs.getD m 0=Cv.tm (Cv.fn P1) (Cv.fn P2) i m+(if i<=m/\m-i<k then Cv.fn P1 i*Cv.fn P2 (m-i) else 0),⟨rs,_,_,rfl,lr,fun m=>by rw [hr m,if_neg (by omega),bS]⟩,?_,?_⟩
  ·rintro k d _ hd ⟨rs',o5',o6',rfl,lr',hr4⟩
   obtain ⟨hk,rfl⟩:=enum_at hd
   have ik:(i:Int)+(k:Int)=((i+k:Nat):Int):=by omega
   have hiF:i+k<rs'.length:=by omega
   refine ⟨rfl,?_⟩
   show itI (rs'.map D.int) (.int ((i:Int)+(k:Int))) _
   rw [ik]
   refine itD_nat (at_int hiF) ⟨⟨n,m,G1.tops i,G2.tops k,by omega⟩,?_⟩
   show atD (rs'.map D.int) (.int ((i:Int)+(k:Int))) _
   rw [ik]
   refine atD_nat (by rw [ab];exact hiF) ⟨rs'.set (i+k) (rs'.getD (i+k) 0+P1.getD i 0*P2.getD k 0),.val (.int (k:Nat)),.val (.int (P2.getD k 0)),?_,by rw [aX];exact lr',fun m=>?_⟩
   ·show [SD.val _,.val _,.own ((rs'.map D.int).set (i+k) (.int (rs'.getD (i+k) 0+P1.getD i 0*P2.getD k 0))),_,_,_,_]=_
    rw [map_set]
   ·rw [set_getD hiF]
    by_cases e:m=i+k
    ·subst e
     rw [if_pos rfl,hr4,if_neg (by omega),if_pos ⟨by omega,by omega⟩,show i+k-i=k by omega,bS]
     rfl
    ·rw [if_neg e,hr4]
     congr 1
     by_cases c:i<=m/\m-i<k
     ·rw [if_pos c,if_pos ⟨c.1,by omega⟩]
     ·rw [if_neg c,if_neg (by omega)]
  ·rintro _ ⟨rs',o5',o6',rfl,lr',hr4⟩
   rw [enumD_len,ab] at hr4
   refine ⟨rs',_,_,_,_,rfl,lr',fun m=>?_⟩
   rw [hr4 m,Cv.tm_succ]
   congr 1
   by_cases c:i<=m
   ·rw [if_pos c]
    by_cases c':m-i<P2.length
    ·rw [if_pos ⟨c,c'⟩]
    ·rw [if_neg (fun z=>c' z.2),Cv.fn_out (P:=P2) (by omega),bN]
   ·rw [if_neg c,if_neg (fun z=>c z.1)]
 ·rintro _ ⟨rs,o3,o4,o5,o6,rfl,lr,hr⟩
  rw [enumD_len,ab] at hr
  refine ⟨⟨b,c,G1.bot,G2.bot,by omega⟩,rfl,(rs,B1*B2),⟨.inl rfl,ax p1 p2,(G1.bot.mul G2.bot).mono hb,by show rs.length<=1000;omega⟩,?_⟩
  rintro _ ⟨R,C,rfl,fm,hw,_⟩
  exact q _ ⟨R,C,rfl,fm,fun k=>by rw [hw k];show rs.getD k 0*C=_;rw [hr k,Cv.tm_cv fun j h=>Cv.fn_out h]⟩
def ot:TSd:=(g9 [] (gP 2))
def ou:TSd:=dSq (iC [] (ku (dIx (gP 0) (dC (.int 0)))) (gNm 3)
 (gU [] (gNm 2) (gS iD (gO (gS iL (gO (gP 2) (gO (gP 1) gQ))) (gO (gS g7 (gO (ig (gO (gP 3) gQ)) (gO (dIx (gP 0) (dC (.int 1))) gQ))) gQ)))))
 ot
def pC:TSd:=dSq (gU [] (gNm 2) (gZ (gO (gZ gQ) (gO (dC (.int 1)) gQ))))
 ou
def ic:SpB:=.of 2 (α:=List Int×Int×List Int×Int×Nat×Nat×Nat×Nat) (fun (P,B,P',B',n,b,m,c) ds=>ds=[pD P B,pD P' B']/\Pc.Pz n b P B/\Pc.Pz m c P' B'/\b+b+c*P.length<=8900000/\n+(m+c+10)*(P.length+1)<=400000/\P.length*P'.length<=190/\P.length<=190/\P'.length<=190)
 (fun (P,B,P',B',n,b,m,c) d=>∃ R C,d=pD R C/\Pc.Of P B P' B' R C)
theorem nQ:Does 4 pC ic:=by
 rintro ds Q hn ⟨⟨P1,B1,P2,B2,n,b,m,c⟩,⟨rfl,G1,G2,hb,hn,hl,l1,l2⟩,q⟩
 dsimp only at G1 G2 hb hn hl l1 l2 q
 have p1:=G1.fm.pos
 have p2:=G2.fm.pos
 have hL:(m+c+10)*P1.length+(m+c+10)=(m+c+10)*(P1.length+1):=by rw [bE]
 have hg:∀ k,P2.length<=k->Cv.fn P2 k=0:=fun k h=>Cv.fn_out h
 refine ⟨by rw [sizeLine_eq];decide,by rw [sizeLine_eq];decide,fun i s=>∃ (R:List Int) (C:Int) (o3:SD) (M:Nat->Int),s=[.val (pD P1 B1),.val (pD P2 B2),.val (pD R C),o3]/\Po.Fm R C/\(∀ k,R.getD k 0*(B1*B2^i)=M k*B2*C)/\(∀ k,i*P2.length+1<=k->M k=0)/\(∀ k,Lt2 (n+(m+c+10)*i+1) (M k)) /\
   ∀ k,Pc.pc (Cv.fn P1) (Cv.fn P2) B2 P1.length k=B2^i*Pc.pc (Cv.fn P1) (Cv.fn P2) B2 (P1.length-i) k+B2*Cv.cv (Pc.cp (Cv.fn P2) (P1.length-i)) M k,
  ⟨[],1,.no,fun _=>0,rfl,⟨by decide,.inl rfl,rfl⟩,fun k=>by rw [getD_out (fs:=([]:List Int)) (aC _)];simp,fun _ _=>rfl,fun k=>bY (by decide),fun k=>by rw [Cv.cv_zr fun j=>rfl];simp⟩,?_,?_⟩
 ·rintro i z _ hz ⟨R,C,o3,M,rfl,fx,ex,oM,lM,eM⟩
  have hi:i<P1.length:=by have:=(ak.mp hz).1;simpa using this
  rw [bI (by rw [ab];exact hi),ab] at hz
  obtain ⟨_,rfl⟩:=int_at hz
  have li:(m+c+10)*(i+1)<=(m+c+10)*P1.length:=ah _ hi
  rw [bE] at li
  have li2:(i+1)*P2.length<=P1.length*P2.length:=bB _ hi
  rw [aT] at li2
  have li3:c*(i+1)<=c*P1.length:=ah _ hi
  rw [bE] at li3
  have W:=Hv.pow_pos p2 i
  have lW:=Hv.pow_lt G2.bot i
  have li5:c*i<=(m+c+10)*i:=bB _ (by omega)
  have c0:=fx.pos
  have zx:Pc.Pz (n+(m+c+10)*i+1+c) (b+(c*i+1)) R C:=Pc.Pz.of fx (ax p1 W) ex (fun k=>(lM k).mul G2.bot) (G1.bot.mul lW)
  have lx:R.length<=i*P2.length+1:=Pc.len_of fx (ax p1 W) ex (fun k hk=>by rw [oM k hk,aE])
  have top:=G1.tops (P1.length-1-i)
  refine ⟨rfl,(R,C,P2,B2,_,_,_,_),⟨rfl,zx,G2,by omega,by omega,by show R.length<=450;omega,by show P2.length<=450;omega⟩,?_⟩
  rintro _ ⟨TT,tb,rfl,fT,eT⟩
  have t0:=fT.pos
  have eT':∀ k,TT.getD k 0*(B1*(B2^i*B2))=Cv.cv M (Cv.fn P2) k*B2*tb:=fun k=>Pc.step_o c0 ex (eT k)
  have W2:=ax W p2
  have cM:∀ k,Lt2 (n+(m+c+10)*i+1+m+9) (Cv.cv M (Cv.fn P2) k):=fun k=>by
   rcases am k 500 with cc | cc
   ·exact Cv.cv_lt lM G2.tops (by omega)
   ·rw [Cv.cv_out (a:=i*P2.length+1) (b:=P2.length) oM hg (by omega)]
    exact bY (by decide)
  have oT:∀ k,(i+1)*P2.length+1<=k->Cv.cv M (Cv.fn P2) k=0:=fun k hk=>Cv.cv_out (a:=i*P2.length+1) (b:=P2.length) oM hg (by rw [aT] at hk;omega)
  have zT:Pc.Pz (n+(m+c+10)*i+1+m+9+c) (b+(c*i+1+c)) TT tb:=Pc.Pz.of fT (ax p1 W2) eT' (fun k=>(cM k).mul G2.bot) (G1.bot.mul (lW.mul G2.bot))
  have lT:TT.length<=(i+1)*P2.length+1:=Pc.len_of fT (ax p1 W2) eT' (fun k hk=>by rw [oT k hk,aE])
  rw [aT] at lT
  refine ⟨sz1,rfl,([P1.getD (P1.length-1-i) 0],B1),⟨.inl rfl,p1,G1.bot.mono (by omega),by show 1<=1000;decide⟩,?_⟩
  rintro _ ⟨E,eb,rfl,fe,ee,le⟩
  dsimp only at ee le
  have e0:=fe.pos
  have ze:Pc.Pz n b E eb:=Pc.Pz.of fe p1 ee (fun k=>by
   cases k with
   | zero=>exact top
   | succ k=>rw [getD_out (fs:=[P1.getD (P1.length-1-i) 0]) (by simp)];exact bY (by decide)) G1.bot
  have le':E.length<=1:=le
  refine ⟨rfl,(TT,tb,E,eb,_,_,_,_),⟨rfl,zT,ze,by omega,by omega,by show TT.length<=900;omega,by show E.length<=900;omega⟩,?_⟩
  rintro _ ⟨R',C',rfl,fx',ex'⟩
  refine ⟨R',C',_,fun j=>Cv.cv M (Cv.fn P2) j+(if j=0 then Cv.fn P1 (P1.length-1-i)*B2^i else 0),rfl,fx',fun k=>?_,fun k hk=>?_,fun k=>?_,fun k=>Pc.horner hg hi eM _ fun j=>rfl⟩
  ·rw [bf]
   have y:=Pc.step_p t0 e0 (eT' k) (ee k) (ex' k)
   rw [y]
   congr 2
   show _=_+_
   congr 1
   cases k with
   | zero=>rfl
   | succ k=>rw [getD_out (fs:=[P1.getD (P1.length-1-i) 0]) (by simp),if_neg (by omega),aE]
  ·show Cv.cv M (Cv.fn P2) k+(if k=0 then Cv.fn P1 (P1.length-1-i)*B2^i else 0)=0
   rw [oT k hk,if_neg (by omega)]
   rfl
  ·have y2:Lt2 (n+(m+c+10)*i+1+m+9) (if k=0 then Cv.fn P1 (P1.length-1-i)*B2^i else 0):=by
    split
    ·exact (top.mul lW).mono (by omega)
    ·exact bY (by decide)
   exact ((cM k).add y2).mono (by rw [bE];omega)
 ·rintro _ ⟨R,C,o3,M,rfl,fx,ex,oM,lM,eM⟩
  rw [bC,ab] at ex eM
  refine q _ ⟨R,C,rfl,fx,fun k=>?_⟩
  rw [ex k,eM k,bM]
  show _=(_*0+B2*Cv.cv Pc.d0 M k)*C
  rw [Pc.cv_d0,bN,cF,bg B2]
end Dp
namespace Dp
open PySem L2
def FqD (n b:Nat) (d:D) (r:Rat):Prop:=∃ t u:Int,d=fD t u/\0<u/\Int.gcd t u=1/\Lt2 n t/\Lt2 b u/\r=(t:Rat) / (u:Rat)
theorem FqD.of {t u:Int} {n b:Nat} (u0:0<u) (lt:Lt2 n t) (lu:Lt2 b u):FqD n b (fD (Fr.top t u) (Fr.bot t u)) ((t:Rat) / (u:Rat)):=by
 obtain ⟨l1,l2,l3⟩:=Fr.low (t:=t) (b:=u) (by omega)
 obtain ⟨m1,m2⟩:=Fr.top_le (t:=t) (b:=u) (by omega)
 exact ⟨_,_,rfl,l1,l3,lt.le m1,lu.le m2,(Qp.div_eq (by omega) (by omega)).mpr l2.symm⟩
theorem FqD.mono {n b n' b':Nat} {d:D} {r:Rat} (h:FqD n b d r) (l:n<=n') (l':b<=b'):FqD n' b' d r:=by
 obtain ⟨t,u,e,h1,h2,h3,h4,h5⟩:=h
 exact ⟨t,u,e,h1,h2,h3.mono l,h4.mono l',h5⟩
def hJ:SpB:=.of 2 (α:=Int) (fun m ds=>ds=[.fl,.int m]/\0<=m/\Lt2 8000 m) (fun m d=>∃ z,d = .int z /\ -m<=z/\z<=m)
def m7:TSd:=(g9 [] (gT .Sub (gS gR (gO (gP 0) (gO (gT .Add (gT .Mult (dC (.int 2)) (gP 1)) (dC (.int 1))) gQ))) (gP 1)))
theorem kE:Does 2 m7 hJ:=by
 rintro ds Q hn ⟨m,⟨rfl,m0,m1⟩,q⟩
 have two:Lt2 2 2:=by decide
 have lm:Lt2 9000 (2*m+1):=((two.mul m1).add ((show Lt2 1 1 by decide).mono (m:=2+8000) (by omega))).mono (by omega)
 refine ⟨⟨_,_,two,m1,by omega⟩,rfl,2*m+1,⟨rfl,by omega,lm⟩,?_⟩
 rintro _ ⟨i,rfl,i0,i1⟩
 exact q _ ⟨_,rfl,by omega,by omega⟩
theorem lt9 {m:Int} {n:Nat} (h:m.natAbs<1000) (hn:10<=n:=by decide):Lt2 n m:=by
 unfold Lt2
 exact aA (Nat.lt_trans h (show 1000<2^10 by decide)) (cw (by decide) hn)
theorem pick4 {a b c e:Int} {i:Int} (h0:0<=i) (h1:i<4) {Q:D->Prop} (qa:Q (.int a)) (qb:Q (.int b)) (qc:Q (.int c)) (qe:Q (.int e)):itD [.int a,.int b,.int c,.int e] i Q:=by
 rcases (by omega:i=0\/i=1\/i=2\/i=3) with rfl | rfl | rfl | rfl
 ·exact qa
 ·exact qb
 ·exact qc
 ·exact qe
def iK:SpB:=.of 2 (α:=Int×Nat) (fun (m,M) ds=>ds=[.fl,.int m]/\1<=m/\Lt2 M m/\2<=M/\M<=4000) (fun (m,M) d=>∃ r,FqD M M d r)
def jD:TSd:=(g9 [] (gS io (gO (gS hJ (gO (gP 0) (gO (gP 1) gQ))) (gO (gT .Add (dC (.int 1)) (gS gR (gO (gP 0) (gO (dIx (ig (gO (dC (.int 1)) (gO (dC (.int 1)) (gO (dC (.int 3)) (gO (gP 1) gQ))))) (gS gR (gO (gP 0) (gO (dC (.int 4)) gQ)))) gQ)))) gQ))))
theorem jg:Does 2 jD iK:=by
 rintro ds Q hn ⟨⟨m,M⟩,⟨rfl,m1,lm,M2,M4⟩,q⟩
 refine ⟨rfl,m,⟨rfl,by omega,lm.mono (by omega)⟩,?_⟩
 rintro _ ⟨z,rfl,z0,z1⟩
 refine ⟨szN (n:=4) (by decide),rfl,4,⟨rfl,by decide,lt9 (by decide)⟩,?_⟩
 rintro _ ⟨i,rfl,i0,i1⟩
 have l3:Lt2 M 3:=(show Lt2 2 3 by decide).mono M2
 have key:∀ u:Int,1<=u->Lt2 M u->([D.fl,.int u].length=gR.n/\gR.run [.fl,.int u] fun d=>oAdd (.int 1) d fun d=>[D.int z,d].length=io.n/\io.run [.int z,d] Q):=fun u u1 lu=>by
  refine ⟨rfl,u,⟨rfl,by omega,lu.mono (by omega)⟩,?_⟩
  rintro _ ⟨e,rfl,e0,e1⟩
  have lb:Lt2 M (1+e):=lu.le (by omega)
  refine ⟨rfl,(z,1+e),⟨rfl,by show 1+e≠0;omega,lb.mono (by omega)⟩,?_⟩
  rintro _ rfl
  exact q _ ⟨_,FqD.of (by omega) (lm.le (by omega)) lb⟩
 exact pick4 i0 i1 (key 1 (by decide) (l3.le (by decide))) (key 1 (by decide) (l3.le (by decide))) (key 3 (by decide) l3) (key m m1 lm)
theorem getD_is_mem {α:Type} {fs:List α} {i:Nat} {d:α} (h:i<fs.length):fs.getD i d∈fs:=by
 rw [ac,aq h]
 exact List.getElem_mem h
theorem zlt (n:Nat):Lt2 n 0:=bY (by decide)
theorem drawn_poly {ts:List Int} {c B:Int} {P:List Int} {M N:Nat} (fm:Po.Fm P B) (hw:∀ k,P.getD k 0*c=ts.getD k 0*B) (hle:P.length<=ts.length) (hl:ts.length=N+1) (hs:∀ t∈ts,Lt2 M t) (c0:0<c) (lc:Lt2 3 c) (last:ts.getD N 0≠0):Pc.Pz M 3 P B/\P.length=N+1:=by
 have pB:=fm.pos
 refine ⟨Pc.Pz.of (f:=fun k=>ts.getD k 0) fm c0 hw (fun k=>?_) lc,?_⟩
 ·rcases am k ts.length with z | z
  ·exact hs _ (getD_is_mem z)
  ·rw [getD_out z];exact zlt _
 ·rcases am N P.length with z | z
  ·omega
  ·have e:=hw N
   rw [getD_out z,aE] at e
   rcases bT.mp e.symm with y | y
   ·exact absurd y last
   ·omega
theorem b01 {d:Int}:(if decide ((0:Int)<d) then (1:Int) else 0)=0\/(if decide ((0:Int)<d) then (1:Int) else 0)=1:=by
 by_cases c:(0:Int)<d
 ·exact .inr (by rw [if_pos (by simpa using c)])
 ·exact .inl (by rw [if_neg (by simpa using c)])
def drI (M:Nat):Nat->List D->Prop:=fun i ys=>∃ ts:List Int,ys=ts.map D.int/\ts.length=i/\∀ t∈ts,Lt2 M t
theorem drI.nil {M:Nat}:drI M 0 []:=⟨[],rfl,rfl,fun t h=>absurd h bh⟩
theorem drI.snoc {M i:Nat} {ys:List D} {z:Int} (h:drI M i ys) (hz:Lt2 M z):drI M (i+1) (ys++[.int z]):=by
 obtain ⟨ts,rfl,h1,h2⟩:=h
 refine ⟨ts++[z],by rw [bj];rfl,by rw [av,h1];rfl,fun t ht=>?_⟩
 rcases b8.mp ht with w | w
 ·exact h2 t w
 ·rw [aS.mp w]
  exact hz
theorem mul01 {M:Nat} {z d:Int} (lz:Lt2 M z) (M4:M<=8000):CMulB z (if decide ((0:Int)<d) then (1:Int) else 0)/\Lt2 M (z*(if decide ((0:Int)<d) then (1:Int) else 0)):=by
 rcases b01 (d:=d) with e | e
 ·rw [e]
  exact ⟨⟨M,1,lz,by decide,by omega⟩,by rw [bN];exact zlt _⟩
 ·rw [e]
  exact ⟨⟨M,1,lz,by decide,by omega⟩,by rw [bu];exact lz⟩
def gY:SpB:=.of 3 (α:=Nat×Int×Nat) (fun (N,m,M) ds=>ds=[.fl,.int N,.int m]/\N<=100/\1<=m/\Lt2 M m/\M<=4000) (fun (N,m,M) d=>∃ P B,d=pD P B/\Pc.Pz M 3 P B/\P.length=N+1)
def iX:TSd:=(g9 [] (gS g7 (gO (gT .Add (gP 3) (ig (gO (gP 5) gQ))) (gO (gT .Add (dC (.int 1)) (gS gR (gO (gP 0) (gO (dIx (ig (gO (dC (.int 1)) (gO (dC (.int 1)) (gO (dC (.int 2)) (gO (dC (.int 6)) gQ))))) (gS gR (gO (gP 0) (gO (dC (.int 4)) gQ)))) gQ)))) gQ))))
def j7:TSd:=dSq (gU [] (gNm 5) (dIx (ig (gO (dC (.int 1)) (gO (gT .Sub (dC (.int 0)) (dC (.int 1))) (gO (gT .Add (dC (.int 1)) (gS gR (gO (gP 0) (gO (gP 2) gQ)))) (gO (gT .Sub (gT .Sub (dC (.int 0)) (dC (.int 1))) (gS gR (gO (gP 0) (gO (gP 2) gQ)))) gQ))))) (gS gR (gO (gP 0) (gO (dC (.int 4)) gQ)))))
 iX
def lX:TSd:=dSq (gU [] (gNm 3) (ia (jC (gP 1)) [4] (gNm 4) iG (gT .Mult (gS hJ (gO (gP 0) (gO (gP 2) gQ))) (dB bInt bInt.mono (gO (g8 .Gt (gS gR (gO (gP 0) (gO (dC (.int 4)) gQ))) (dC (.int 0))) gQ)))))
 j7
theorem jP:Does 6 lX gY:=by
 rintro ds Q hn ⟨⟨N,m,M⟩,⟨rfl,hN,m1,lm,M4⟩,q⟩
 dsimp only at hN m1 lm M4 q
 refine ⟨by omega,by omega,by rw [upTo_len];exact szN (by omega),drI M,drI.nil,fun i d ys hd _ hy=>?_,fun ys _ hy=>?_⟩
 ·obtain ⟨hi,rfl⟩:=upTo_got hd
  refine ⟨rfl,m,⟨rfl,by omega,lm.mono (by omega)⟩,?_⟩
  rintro _ ⟨z,rfl,z0,z1⟩
  refine ⟨rfl,4,⟨rfl,by decide,lt9 (by decide)⟩,?_⟩
  rintro _ ⟨j,rfl,j0,j1⟩
  obtain ⟨h1,h2⟩:=mul01 (d:=j) (lm.le (j:=z) (by omega)) (by omega)
  exact ⟨h1,hy.snoc h2⟩
 rw [upTo_len] at hy
 obtain ⟨ts,rfl,lt,ht⟩:=hy
 have lt:ts.length=N:=by omega
 refine ⟨rfl,m,⟨rfl,by omega,lm.mono (by omega)⟩,?_⟩
 rintro _ ⟨d1,rfl,d10,d11⟩
 refine ⟨rfl,m,⟨rfl,by omega,lm.mono (by omega)⟩,?_⟩
 rintro _ ⟨d2,rfl,d20,d21⟩
 refine ⟨szN (n:=4) (by decide),rfl,4,⟨rfl,by decide,lt9 (by decide)⟩,?_⟩
 rintro _ ⟨d3,rfl,d30,d31⟩
 have key:∀ u:Int,u≠0->Lt2 M u->iX.run (endQ Q) [.val .fl,.val (.int N),.val (.int m),.val (.lst (ts.map .int)),.no,.val (.int u)]:=fun u u0 lu=>by
  refine ⟨sz1,?_,?_⟩
  ·rw [ab]
   exact szN (by show ts.length+1<=_;omega)
  refine ⟨szN (n:=4) (by decide),rfl,4,⟨rfl,by decide,lt9 (by decide)⟩,?_⟩
  rintro _ ⟨d5,rfl,d50,d51⟩
  have fin:∀ c:Int,1<=c->c<=6->([D.fl,.int c].length=gR.n/\gR.run [.fl,.int c] fun d=>oAdd (.int 1) d fun d=>[D.lst (ts.map .int++[.int u]),d].length=g7.n/\g7.run [.lst (ts.map .int++[.int u]),d] Q):=fun c c1 c6=>by
   refine ⟨rfl,c,⟨rfl,by omega,lt9 (by omega)⟩,?_⟩
   rintro _ ⟨e,rfl,e0,e1⟩
   have b3:Lt2 3 (1+e):=Lt2.of 6 (by omega) (by decide)
   have em:ts.map D.int++[.int u]=(ts++[u]).map D.int:=by rw [bj];rfl
   have last:(ts++[u]).getD N 0=u:=getD_of (by rw [aL (by omega),lt,bM];rfl)
   rw [em]
   refine ⟨rfl,(ts++[u],1+e),⟨.inl rfl,by show 0<1+e;omega,b3.mono (by decide),by show (ts++[u]).length<=1000;rw [av,lt];show N+1<=1000;omega⟩,?_⟩
   rintro _ ⟨P1,B1,rfl,fm,hw,hle⟩
   dsimp only at hw hle
   obtain ⟨z1,z2⟩:=drawn_poly (M:=M) (N:=N) fm hw hle (by rw [av,lt];rfl) (fun t h=>by
    rcases b8.mp h with y | y
    ·exact ht _ y
    ·rw [aS.mp y];exact lu) (by omega) b3 (by rw [last];exact u0)
   exact q _ ⟨P1,B1,rfl,z1,z2⟩
  exact pick4 d50 d51 (fin 1 (by decide) (by decide)) (fin 1 (by decide) (by decide)) (fin 2 (by decide) (by decide)) (fin 6 (by decide) (by decide))
 exact pick4 d30 d31 (key 1 (by decide) (lm.le (by omega))) (key (0-1) (by decide) (lm.le (by omega))) (key (1+d1) (by omega) (lm.le (by omega))) (key (0-1-d2) (by omega) (lm.le (by omega)))
end Dp
namespace Dp
open PySem L2
theorem st_sz' {ta ba tb bb B:Int} {P:List Int} {n1 b1 n2 b2:Nat} (st:Pc.St ta ba tb bb P B) (a0:0<ba) (b0:0<bb) (l1:Lt2 n1 ta) (l2:Lt2 b1 ba) (l3:Lt2 n2 tb) (l4:Lt2 b2 bb):Pc.Pz (n1+n2+b1+b2) (b1+b2) P B :=
 Pc.Pz.of st.1 (ax a0 b0) st.2 (fun k=>by
  match k with
  | 0=>exact (l3.mul l2).mono (by omega)
  | 1=>exact (l1.mul l4).mono (by omega)
  | k+2=>exact zlt _) (l2.mul l4)
theorem stQ {ta ba tb bb B:Int} {P:List Int} {n1 b1 n2 b2:Nat} (st:Pc.St ta ba tb bb P B) (a0:0<ba) (b0:0<bb) (l1:Lt2 n1 ta) (l2:Lt2 b1 ba) (l3:Lt2 n2 tb) (l4:Lt2 b2 bb) :
  Pc.Pz (n1+n2+b1+b2) (b1+b2) P B/\(∀ x,Qp.E P B x=(ta:Rat) / (ba:Rat)*x+(tb:Rat) / (bb:Rat))/\P.length<=2/\Qp.q P B 0=(tb:Rat) / (bb:Rat)/\Qp.q P B 1=(ta:Rat) / (ba:Rat):=by
 have p:=ax a0 b0
 have q:=fun k=>Qp.q_of (f:=fun k=>[tb*ba,ta*bb].getD k 0) st.1.pos (aw p) st.2 k
 refine ⟨st_sz' st a0 b0 l1 l2 l3 l4,Qp.E_St st a0 b0,Pc.len_of st.1 p st.2 fun k hk=>?_,?_,?_⟩
 ·obtain ⟨j,rfl⟩:∃ j,k=j+2:=⟨k-2,by omega⟩
  exact Pc.two_out _ _ _
 ·rw [q 0]
  exact (Qp.div_eq (aw p) (by omega)).mpr (by show tb*ba*bb=tb*(ba*bb);grind)
 ·rw [q 1]
  exact (Qp.div_eq (aw p) (by omega)).mpr (by show ta*bb*ba=ta*(ba*bb);grind)
theorem st_len {P:List Int} {B:Int} (h:Qp.q P B 1≠0) (l:P.length<=2):P.length=2/\P.getD 1 0≠0:=by
 have n1:P.getD 1 0≠0:=fun z=>h (by
  unfold Qp.q
  rw [z]
  show ((0:Int):Rat) / _=0
  have:((0:Int):Rat)=0:=rfl
  rw [this]
  grind)
 refine ⟨?_,n1⟩
 rcases am 1 P.length with z | z
 ·omega
 ·exact absurd (getD_out z) n1
def jb:SpB:=.of 2 (α:=D×D×Rat×Rat×Nat×Nat×Nat×Nat) (fun (d1,d2,r1,r2,n1,b1,n2,b2) ds=>ds=[d1,d2]/\FqD n1 b1 d1 r1/\FqD n2 b2 d2 r2/\b1+b2<=4000/\n1<=100000/\n2<=100000)
 (fun (d1,d2,r1,r2,n1,b1,n2,b2) d=>∃ P B,d=pD P B/\Pc.Pz (n1+n2+b1+b2) (b1+b2) P B/\(∀ x,Qp.E P B x=r1*x+r2)/\P.length<=2/\Qp.q P B 0=r2/\Qp.q P B 1=r1)
def lY:TSd:=(g9 [] (gS g7 (gO (ig (gO (gT .Mult (dIx (gP 1) (dC (.int 0))) (dIx (gP 0) (dC (.int 1)))) (gO (gT .Mult (dIx (gP 0) (dC (.int 0))) (dIx (gP 1) (dC (.int 1)))) gQ))) (gO (gT .Mult (dIx (gP 0) (dC (.int 1))) (dIx (gP 1) (dC (.int 1)))) gQ))))
theorem jQ:Does 2 lY jb:=by
 rintro ds Q hn ⟨⟨d1,d2,r1,r2,n1,b1,n2,b2⟩,⟨rfl,⟨ta,ba,rfl,a0,c2,l1,l2,rfl⟩,⟨tb,bb,rfl,b0,e2,l3,l4,rfl⟩,ln,m1,m2⟩,q⟩
 dsimp only at ln m1 m2 q
 refine ⟨⟨_,_,l3,l2,by omega⟩,⟨_,_,l1,l4,by omega⟩,sz2,⟨_,_,l2,l4,by omega⟩,rfl,([tb*ba,ta*bb],ba*bb),⟨.inl rfl,ax a0 b0,(l2.mul l4).mono (by omega),by show 2<=1000;decide⟩,?_⟩
 rintro _ ⟨P,B,rfl,fm,hw,hle⟩
 obtain ⟨x1,x2,x3,x4,x5⟩:=stQ ⟨fm,hw⟩ a0 b0 l1 l2 l3 l4
 exact q _ ⟨P,B,rfl,x1,x2,x3,x4,x5⟩
theorem fq_int {n:Nat} {t:Int} (l:Lt2 n t):FqD n 1 (fD t 1) (t:Rat):=⟨t,1,rfl,by decide,by simp,l,by decide,by have:((1:Int):Rat)=1:=rfl;rw [this];grind⟩
def g6:SpB:=.of 2 (α:=Int×Nat) (fun (m,M) ds=>ds=[.fl,.int m]/\1<=m/\Lt2 M m/\2<=M/\M<=1000) (fun (m,M) d=>∃ P B,d=pD P B/\Pc.Pz (4*M) (2*M) P B/\P.length=2/\P.getD 1 0≠0)
def iH:TSd:=(g9 [] (gS jb (gO (gP 2) (gO (gS iK (gO (gP 0) (gO (gP 1) gQ))) gQ))))
def jE:TSd:=dSq (gU [] (gNm 2) (dIx (ig (gO (gZ (gO (dC (.int 1)) (gO (dC (.int 1)) gQ))) (gO (gZ (gO (gT .Sub (dC (.int 0)) (dC (.int 1))) (gO (dC (.int 1)) gQ))) (gO (gS io (gO (gT .Add (dC (.int 1)) (gS gR (gO (gP 0) (gO (gP 1) gQ)))) (gO (gT .Add (dC (.int 1)) (gS gR (gO (gP 0) (gO (dC (.int 3)) gQ)))) gQ))) gQ)))) (gS gR (gO (gP 0) (gO (dC (.int 3)) gQ)))))
 iH
theorem jh:Does 3 jE g6:=by
 rintro ds Q hn ⟨⟨m,M⟩,⟨rfl,m1,lm,M2,M4⟩,q⟩
 dsimp only at m1 lm M2 M4 q
 refine ⟨sz2,sz2,rfl,m,⟨rfl,by omega,lm.mono (by omega)⟩,?_⟩
 rintro _ ⟨d1,rfl,d10,d11⟩
 refine ⟨rfl,3,⟨rfl,by decide,lt9 (by decide)⟩,?_⟩
 rintro _ ⟨d2,rfl,d20,d21⟩
 have b2:Lt2 M (1+d2):=(show Lt2 2 (1+d2) from Lt2.of 3 (by omega) (by decide)).mono M2
 refine ⟨rfl,(1+d1,1+d2),⟨rfl,by show 1+d2≠0;omega,b2.mono (by omega)⟩,?_⟩
 rintro _ rfl
 dsimp only
 refine ⟨szN (n:=3) (by decide),rfl,3,⟨rfl,by decide,lt9 (by decide)⟩,?_⟩
 rintro _ ⟨d3,rfl,d30,d31⟩
 have fin:∀ (u:D) (r:Rat),FqD M M u r->r≠0->iH.run (endQ Q) [.val .fl,.val (.int m),.val u]:=fun u r fu r0=>by
  refine ⟨rfl,(m,M),⟨rfl,m1,lm,M2,by show M<=4000;omega⟩,?_⟩
  rintro _ ⟨r2,f2⟩
  refine ⟨rfl,(u,_,r,r2,M,M,M,M),⟨rfl,fu,f2,by show M+M<=4000;omega,by show M<=100000;omega,by show M<=100000;omega⟩,?_⟩
  rintro _ ⟨P1,B1,rfl,z1,e1,l1,q0,q1⟩
  obtain ⟨len,n1⟩:=st_len (by rw [q1];exact r0) l1
  exact q _ ⟨P1,B1,rfl,z1.mono (by show M+M+M+M<=_;omega) (by show M+M<=_;omega),len,n1⟩
 have f3:=FqD.of (t:=1+d1) (u:=1+d2) (by omega) (lm.le (j:=1+d1) (by omega)) b2
 have n3:((1+d1:Int):Rat) / ((1+d2:Int):Rat)≠0:=(Fq.ne (p:=0) (by omega) rfl).mpr (by omega)
 rcases (by omega:d3=0\/d3=1\/d3=2) with rfl | rfl | rfl
 ·exact fin _ _ ((fq_int (n:=1) (t:=1) (by decide)).mono (by omega) (by omega)) (by decide)
 ·exact fin _ _ ((fq_int (n:=1) (t:=-1) (by decide)).mono (by omega) (by omega)) (by decide)
 ·exact fin _ _ f3 n3
def ir:SpB:=.of 3 (α:=Nat×Int×Nat) (fun (N,m,M) ds=>ds=[.fl,.int N,.int m]/\1<=N/\N<=100/\1<=m/\Lt2 M m/\3<=M/\M<=4000) (fun (N,m,M) d=>∃ P B,d=pD P B/\Pc.Pz M 3 P B/\P.length=N+1/\P.getD 0 0=0/\P.getD N 0=B)
def jR:TSd:=(g9 [] (gS g7 (gO (gT .Add (gT .Add (ig (gO (dC (.int 0)) gQ)) (gP 4)) (ig (gO (gP 3) gQ))) (gO (gP 3) gQ))))
def iz:TSd:=dSq (gU [] (gNm 4) (ia (jC (gT .Sub (gP 1) (dC (.int 1)))) [5] (gNm 5) iG (gT .Mult (gS hJ (gO (gP 0) (gO (gP 2) gQ))) (dB bInt bInt.mono (gO (g8 .Gt (gS gR (gO (gP 0) (gO (dC (.int 4)) gQ))) (dC (.int 0))) gQ)))))
 jR
def kF:TSd:=dSq (gU [] (gNm 3) (gT .Add (dC (.int 1)) (gS gR (gO (gP 0) (gO (dIx (ig (gO (dC (.int 1)) (gO (dC (.int 1)) (gO (dC (.int 2)) (gO (dC (.int 4)) gQ))))) (gS gR (gO (gP 0) (gO (dC (.int 4)) gQ)))) gQ)))))
 iz
theorem jF:Does 6 kF ir:=by
 rintro ds Q hn ⟨⟨N,m,M⟩,⟨rfl,N1,hN,m1,lm,M3,M4⟩,q⟩
 dsimp only at N1 hN m1 lm M3 M4 q
 refine ⟨szN (n:=4) (by decide),rfl,4,⟨rfl,by decide,lt9 (by decide)⟩,?_⟩
 rintro _ ⟨d5,rfl,d50,d51⟩
 have fin:∀ c:Int,1<=c->c<=4->([D.fl,.int c].length=gR.n/\gR.run [.fl,.int c] fun d=>oAdd (.int 1) d fun d=>iz.run (endQ Q) [.val .fl,.val (.int N),.val (.int m),.val d,.no,.no]):=fun c c1 c4=>by
  refine ⟨rfl,c,⟨rfl,by omega,lt9 (by omega)⟩,?_⟩
  rintro _ ⟨e,rfl,e0,e1⟩
  obtain ⟨w,hw⟩:∃ w:Int,w=1+e:=⟨_,rfl⟩
  show iz.run (endQ Q) [.val .fl,.val (.int N),.val (.int m),.val (.int (1+e)),.no,.no]
  rw [← hw]
  have b3:Lt2 3 w:=Lt2.of 4 (by omega) (by decide)
  have eN:((N:Int)-1).toNat=N-1:=by omega
  refine ⟨by omega,by omega,by rw [upTo_len];exact szN (by omega),drI M,drI.nil,fun i d ys hd _ hy=>?_,fun ys _ hy=>?_⟩
  ·refine ⟨rfl,m,⟨rfl,by omega,lm.mono (by omega)⟩,?_⟩
   rintro _ ⟨z,rfl,z0,z1⟩
   refine ⟨rfl,4,⟨rfl,by decide,lt9 (by decide)⟩,?_⟩
   rintro _ ⟨j,rfl,j0,j1⟩
   obtain ⟨h1,h2⟩:=mul01 (d:=j) (lm.le (j:=z) (by omega)) (by omega)
   exact ⟨h1,hy.snoc h2⟩
  ·rw [upTo_len] at hy
   obtain ⟨ts,rfl,lt,ht⟩:=hy
   have lt:ts.length=N-1:=by omega
   have em:([.int 0]++ts.map D.int)++[D.int w]=(0::ts++[w]).map D.int:=by rw [bj];rfl
   have l0:(0::ts).length=N:=by rw [aQ,lt];omega
   have last:(0::ts++[w]).getD N 0=w:=getD_of (by rw [aL (by omega),l0,bM];rfl)
   refine ⟨sz1,?_,sz1,?_,?_⟩
   ·rw [ab]
    exact szN (by show 1+ts.length<=_;omega)
   ·rw [av,ab]
    exact szN (by show 1+ts.length+1<=_;omega)
   refine ⟨rfl,(0::ts++[w],w),⟨.inl (by rw [em]),by show 0<w;omega,b3.mono (by decide),by show (0::ts++[w]).length<=1000;rw [av,l0];show N+1<=1000;omega⟩,?_⟩
   rintro _ ⟨P1,B1,rfl,fm,hw1,hle⟩
   dsimp only at hw1 hle
   obtain ⟨z1,z2⟩:=drawn_poly (M:=M) (N:=N) fm hw1 hle (by rw [av,l0];rfl) (fun t h=>by
    rcases b8.mp h with y | y
    ·rcases ar.mp y with y | y
     ·rw [y];exact zlt _
     ·exact ht _ y
    ·rw [aS.mp y];exact b3.mono M3) (by omega) b3 (by rw [last];omega)
   have p0:=hw1 0
   have pN:=hw1 N
   rw [last] at pN
   refine q _ ⟨P1,B1,rfl,z1,z2,?_,?_⟩
   ·have:P1.getD 0 0*w=0:=by rw [p0];show (0:Int)*B1=0;simp
    rcases bT.mp this with y | y
    ·exact y
    ·omega
   ·exact aH (by omega) (pN.trans (bg _ _))
 exact pick4 d50 d51 (fin 1 (by decide) (by decide)) (fin 1 (by decide) (by decide)) (fin 2 (by decide) (by decide)) (fin 4 (by decide) (by decide))
end Dp
namespace Dp
open PySem L2
def gV:SpB:=.of 2 (α:=Int×Nat×Nat) (fun (n,k,M) ds=>ds=[.int n,.int k]/\Lt2 M n/\k<=200/\(M+1)*(k+1)<=400000) (fun (n,k,M) d=>d = .int (n^k))
def kG:TSd:=(g9 [] (gP 2))
def kH:TSd:=dSq (iC [] (jC (gP 1)) (gNm 3)
 (mn [] 2 .Mult (gP 0)))
 kG
def mx:TSd:=dSq (gU [] (gNm 2) (dC (.int 1)))
 kH
theorem j8:Does 4 mx gV:=by
 rintro ds Q hn ⟨⟨n,k,M⟩,⟨rfl,ln,hk,hM⟩,q⟩
 dsimp only at ln hk hM q
 refine ⟨by omega,by omega,fun i s=>∃ o,s=[.val (.int n),.val (.int k),.val (.int (n^i)),o],⟨.no,by rw [aW];rfl⟩,?_,?_⟩
 ·rintro i d _ hd ⟨o,rfl⟩
  obtain ⟨hi,rfl⟩:=upTo_got hd
  have hi:i<k:=by omega
  have lp:=Hv.pow_lt ln i
  have l1:M*i<=(M+1)*(k+1):=aU (by omega) (by omega)
  have l2:M<=(M+1)*(k+1):=aB (by omega) (br (M+1) (by omega))
  exact ⟨⟨_,_,lp,ln,by omega⟩,_,by rw [bf];rfl⟩
 ·rintro _ ⟨o,rfl⟩
  rw [upTo_len,bo]
  exact q _ rfl
def iE:SpB:=.of 1 (α:=List Int×Int) (fun (P,B) ds=>ds=[pD P B]) (fun (P,B) d=>d = .int ((P.length:Int)-1))
def pE:TSd:=(g9 [] (gT .Sub (dB bLen bLen.mono (gO (dIx (gP 0) (dC (.int 0))) gQ)) (dC (.int 1))))
theorem nR:Does 1 pE iE:=by
 rintro ds Q hn ⟨⟨P,B⟩,rfl,q⟩
 refine q _ ?_
 show D.int (((P.map D.int).length:Int)-1)=_
 rw [ab]
theorem cutD_to {ts:List Int} {m:Nat} (hm:m<=ts.length):cutD (ts.map D.int) none (some (m:Int))=(ts.take m).map D.int:=by
 unfold cutD
 rw [HT.sIx_none,HT.sIx_nat,ab,Nat.min_eq_left hm,eX,bR,List.map_take]
theorem gl_app (b:Nat) (ts us:List Int):Po.gl b (ts++us)=Po.gl (Po.gl b ts) us:=by
 unfold Po.gl
 rw [gE]
def iy:SpB:=.of 2 (α:=List Int×Int) (fun (ts,b) ds=>ds=[.lst (ts.map .int),.int b]/\0<b/\Lt2 9000000 b/\ts.length<=1000) (fun (ts,b) d=>∃ P B,d=pD P B/\Po.Fm P B/\(∀ k,P.getD k 0*b=ts.getD k 0*B)/\P.length<=ts.length)
def jS:TSd:=(g9 [] (gZ (gO (dB bTuple bTuple.mono (gO (ia (il (dSl (gP 0) dNo (lI (gP 2)))) [4] (gNm 4) iG (gT .FloorDiv (gP 4) (gP 3))) gQ)) (gO (gT .FloorDiv (gP 1) (gP 3)) gQ))))
def m8:TSd:=dSq (iC [] (il (dSl (gP 0) dNo (lI (gP 2)))) (gNm 4)
 (dSq (dIf [] (gX (g8 .Eq (gP 3) (dC (.int 1))))
 pj
 hV)
 (gU [] (gNm 3) (gS iq (gO (gP 3) (gO (gP 4) gQ))))))
 jS
def na:TSd:=dSq (gU [] (gNm 3) (gP 1))
 m8
def i6:TSd:=dSq (iM (ja (gX (g8 .Gt (gP 2) (dC (.int 0)))) (gX (g8 .Eq (dIx (gP 0) (gT .Sub (gP 2) (dC (.int 1)))) (dC (.int 0)))))
 (mn [] 2 .Sub (dC (.int 1))))
 na
def ox:TSd:=dSq (gU [] (gNm 2) (dB bLen bLen.mono (gO (gP 0) gQ)))
 i6
theorem my:Does 5 ox iy:=by
 rintro ds Q hn ⟨⟨ts,b⟩,⟨rfl,hb,hl,hz⟩,q⟩
 dsimp only at hb hl hz q
 have bn:((b.natAbs:Nat):Int)=b:=by omega
 suffices h1:i6.run (endQ Q) [.val (.lst (ts.map .int)),.val (.int b),.val (.int ts.length),.no,.no] by
  show i6.run (endQ Q) [.val (.lst (ts.map .int)),.val (.int b),.val (.int ((ts.map D.int).length:Nat)),.no,.no]
  rw [ab]
  exact h1
 refine dSq.cut (fun s=>∃ m:Nat,s=[.val (.lst (ts.map .int)),.val (.int b),.val (.int m),.no,.no]/\m<=ts.length/\(∀ j,m<=j->ts.getD j 0=0)/\(m=0\/ts.getD (m-1) 0≠0)) ?_ ?_
 ·refine ⟨fun s=>∃ m:Nat,s=[.val (.lst (ts.map .int)),.val (.int b),.val (.int m),.no,.no]/\m<=ts.length/\∀ j,m<=j->ts.getD j 0=0,fun s=>match s with | [_,_,.val (.int m),_,_]=>m.toNat | _=>0,⟨ts.length,rfl,aj _,fun j hj=>getD_out hj⟩,?_⟩
  rintro _ ⟨m,rfl,hm,h0⟩
  refine ifP (p:=(0:Int)<(m:Nat)) (fun c=>?_) (fun c=>?_)
  ·obtain ⟨k,rfl⟩:∃ k,m=k+1:=⟨m-1,by omega⟩
   have ek:((k+1:Nat):Int)-1=(k:Int):=by omega
   show itD (ts.map D.int) (((k+1:Nat):Int)-1) _
   rw [ek]
   refine itD_nat (at_int (by omega)) (ifP (p:=ts.getD k 0=0) (fun z=>?_) (fun z=>?_))
   ·refine ⟨⟨k,?_,by omega,fun j hj=>?_⟩,?_⟩
    ·show [_,_,SD.val (.int (((k+1:Nat):Int)-1)),_,_]=_
     rw [ek]
    ·rcases bV hj with w | w
     ·rw [← w];exact z
     ·exact h0 j w
    ·show ((((k+1:Nat):Int)-1)).toNat<(((k+1:Nat):Int)).toNat
     omega
   ·exact ⟨k+1,rfl,hm,h0,.inr z⟩
  ·exact ⟨m,rfl,hm,h0,.inl (by omega)⟩
 ·rintro _ ⟨m,rfl,hm,h0,hlast⟩
  obtain ⟨fm,wr⟩:=Po.form hb hm h0 hlast
  have tail:∀ g:Nat,g=Po.gl b.natAbs (ts.take m)->∀ o,jS.run (endQ Q) [.val (.lst (ts.map .int)),.val (.int b),.val (.int m),.val (.int g),o]:=by
   rintro g hg o
   rw [← hg] at fm wr
   have g0:0<g:=by rw [hg];exact Po.gl_pos (by omega) _
   have gle:g<=b.natAbs:=by rw [hg];exact bv (by omega) (Po.gl_dvd _ _).1
   have cd:∀ x:Int,CDivB x (g:Int):=fun x=>⟨by omega,9000000,hl.le (by rw [aZ];exact gle),by decide⟩
   have ec:=cutD_to hm
   refine ⟨(congrArg (fun l:List D=>l.length<=sizeLine) ec).mpr (by rw [ab,aO];exact szN (by omega)),mI (fun z=>z.fdiv (g:Int)) (ts.take m),mI.nil,fun i d ys hd _ hy=>?_,fun ys _ hy=>?_⟩
   ·have hd:(cutD (ts.map D.int) none (some (m:Int)))[i]? = some d:=hd
    rw [ec] at hd
    obtain ⟨z,hz,rfl⟩:=get_int hd
    exact ⟨cd _,hy.snoc hz rfl⟩
   ·cases hy.all (by rw [ec,ab])
    exact ⟨cd _,sz2,q _ ⟨_,_,rfl,fm,wr,by rw [ab,aO];omega⟩⟩
  have ec:=cutD_to hm
  refine ⟨fun i s=>∃ o,s=[.val (.lst (ts.map .int)),.val (.int b),.val (.int m),.val (.int ((Po.gl b.natAbs ((ts.take m).take i):Nat):Int)),o],⟨.no,?_⟩,?_,?_⟩
  ·show [_,_,_,SD.val (.int b),_]=[_,_,_,SD.val (.int ((b.natAbs:Nat):Int)),_]
   rw [bn]
  ·rintro i d _ hd ⟨o,rfl⟩
   have hd:(cutD (ts.map D.int) none (some (m:Int)))[i]? = some d:=hd
   rw [ec] at hd
   obtain ⟨hi,rfl⟩:=int_at hd
   refine ifP (p:=(((Po.gl b.natAbs ((ts.take m).take i):Nat):Int)=1)) (fun c=>?_) (fun c=>?_)
   ·refine tail _ ?_ _
    have e:ts.take m=(ts.take m).take i++(ts.take m).drop i:=(List.take_append_drop i _).symm
    have c':Po.gl b.natAbs ((ts.take m).take i)=1:=by omega
    rw [e,gl_app,List.take_append_of_le_length (by rw [aO];omega),fv (by rw [aO];omega),c',Po.gl_one]
   ·refine ⟨rfl,(_,_),rfl,?_⟩
    rintro _ rfl
    refine ⟨.val (.int ((ts.take m).getD i 0)),?_⟩
    rw [take_snoc hi,gl_snoc]
    rfl
  ·rintro _ ⟨o,hs⟩
   rw [show (cutD (ts.map D.int) none (some (m:Int))).length=(ts.take m).length by rw [ec,ab],bD] at hs
   subst hs
   exact tail _ rfl _
end Dp
namespace Dp
open PySem L2
def nI (F:Nat->Int):Nat->List D->Prop:=fun i ys=>∃ rs:List Int,ys=rs.map D.int/\rs.length=i/\∀ k,k<i->rs.getD k 0=F k
theorem nI.nil {F:Nat->Int}:nI F 0 []:=⟨[],rfl,rfl,fun k hk=>absurd hk (cu _)⟩
theorem snoc_at (rs:List Int) (z:Int) (i:Nat):(rs++[z]).getD i 0=if i=rs.length then z else rs.getD i 0:=by
 rw [ac,ac]
 by_cases c:i=rs.length
 ·rw [if_pos c,c]
  simp
 ·rw [if_neg c]
  rcases am i rs.length with h | h
  ·rw [aY h]
  ·rw [bq (by simp;omega),bq h]
theorem nI.snoc {F:Nat->Int} {i:Nat} {ys:List D} {z:Int} (h:nI F i ys) (hz:z=F i):nI F (i+1) (ys++[.int z]):=by
 obtain ⟨rs,rfl,l,h⟩:=h
 refine ⟨rs++[z],by simp,by rw [av,l];rfl,fun k hk=>?_⟩
 rw [snoc_at,l]
 by_cases e:k=i
 ·rw [if_pos e,e];exact hz
 ·rw [if_neg e]
  exact h k (by omega)
def jn:SpB:=.of 2 (α:=List Int×Int×Nat×Nat×Nat×Nat) (fun (ts,c,n,M,C,Z) ds=>ds=[.tup (ts.map .int),.int c]/\ts.length=n+1/\n<=100/\(∀ i,Lt2 M (ts.getD i 0))/\Lt2 C c/\M<=1000000/\Lt2 Z (ts.getD n 0)/\Z<=9000000/\(C+1)*(n+1)<=400000/\ts.getD n 0≠0)
 (fun (ts,c,n,M,C,Z) d=>∃ rs:List Int,d = .lst (rs.map .int)/\rs.length=n+1/\∀ i,i<=n->rs.getD i 0=(ts.getD i 0*c^(n-i)).fdiv (ts.getD n 0))
def i7:TSd:=(g9 [] (ia (iF (gP 0)) [3,4] (gTp [3,4]) iG (gT .FloorDiv (gT .Mult (gP 4) (gS gV (gO (gP 1) (gO (gT .Sub (gP 2) (gP 3)) gQ)))) (dIx (gP 0) (gP 2)))))
def oy:TSd:=dSq (gU [] (gNm 2) (gT .Sub (dB bLen bLen.mono (gO (gP 0) gQ)) (dC (.int 1))))
 i7
theorem mB:Does 5 oy jn:=by
 rintro ds Q hn ⟨⟨ts,c,n,M,C,Z⟩,⟨rfl,ln,hn,hM,hC,M9,hZ,Z9,hz,hL⟩,q⟩
 dsimp only at ln hn hM hC M9 hZ Z9 hz hL q
 suffices h1:i7.run (endQ Q) [.val (.tup (ts.map .int)),.val (.int c),.val (.int n),.no,.no] by
  show i7.run (endQ Q) [.val (.tup (ts.map .int)),.val (.int c),.val (.int (((ts.map D.int).length:Int)-1)),.no,.no]
  rw [ab,ln,show ((n+1:Nat):Int)-1=(n:Int) by omega]
  exact h1
 have le:(enumD (ts.map D.int)).length=n+1:=by simp [enumD,ln]
 refine ⟨(congrArg (· <= sizeLine) le).mpr (szN (by omega)),nI (fun k=>(ts.getD k 0*c^(n-k)).fdiv (ts.getD n 0)),nI.nil,fun i d ys hd _ hy=>?_,fun ys _ hy=>?_⟩
 ·obtain ⟨hi,rfl⟩:=enum_at hd
  have hz2:(C+1)*(n-i+1)<=400000:=aB (ah _ (by omega)) hz
  have hz3:C*(n-i)<=400000:=aB (aU (gg _) (gg _)) hz2
  refine ⟨rfl,rfl,(c,n-i,C),⟨?_,hC,by omega,hz2⟩,?_⟩
  ·show [D.int c,.int ((n:Int)-(i:Int))]=[D.int c,.int ((n-i:Nat):Int)]
   rw [show (n:Int)-(i:Int)=((n-i:Nat):Int) by omega]
  ·rintro _ rfl
   exact ⟨⟨M,C*(n-i)+1,hM i,Hv.pow_lt hC (n-i),by omega⟩,itD_nat (at_int (by omega)) ⟨⟨hL,Z,hZ,by omega⟩,hy.snoc rfl⟩⟩
 ·have hy:nI _ (enumD (ts.map D.int)).length ys:=hy
  rw [le] at hy
  obtain ⟨rs,rfl,l,h⟩:=hy
  exact q _ ⟨rs,rfl,l,fun i hi=>h i (by omega)⟩
def jT:SpB:=.of 3 (α:=List Int×Nat×Nat×Nat×(Nat->Int)) (fun (fs,k,s,A,g) ds=>ds=[.lst (fs.map .int),.int k,.int s]/\1<=k/\k<=100/\1<=s/\s<=100/\s<=fs.length/\A<=100000/\(∀ i,Lt2 A (fs.getD i 0))/\fs.getD 0 0=1/\g 0=1/\(∀ j,j<=s-1->Ca.pw g k j=fs.getD j 0))
 (fun (fs,k,s,A,g) d=>∃ rs:List Int,d = .lst (rs.map .int)/\rs.length=s/\(∀ j,j<s->rs.getD j 0=g j)/\(∀ j,j<s->Lt2 ((A+22)*j+1) (g j)))
def mC:TSd:=(g9 [3] (gP 3))
def mD:TSd:=dSq (iC [] (jA (dC (.int 1)) (gP 2)) (gNm 4)
 (dSq (gU [] (gNm 5) (ia (jA (dC (.int 1)) (gT .Add (gP 4) (dC (.int 1)))) [6] (gNm 6) iG (gT .Mult (gT .Mult (gT .Sub (gT .Mult (gP 6) (gT .Add (gP 1) (dC (.int 1)))) (gT .Mult (gP 4) (gP 1))) (dIx (gP 0) (gP 6))) (kC 3 (gT .Sub (gP 4) (gP 6))))))
 (mX [] 3 (gT .FloorDiv (dB bSum bSum.mono (gO (gP 5) gQ)) (gT .Mult (gP 4) (gP 1))))))
 mC
def nS:TSd:=dSq (j5 [] 3 (ig (gO (dC (.int 1)) gQ)))
 mD
theorem ints_snoc (rs:List Int) (z:Int):rs.map D.int++[D.int z]=(rs++[z]).map D.int:=by simp
theorem ma:Does 7 nS jT:=by
 rintro ds Q hn ⟨⟨fs,k,n,M,g⟩,⟨rfl,k1,k2,n1,n2,ln,M9,hM,f0,g0,hg⟩,q⟩
 dsimp only at k1 k2 n1 n2 ln M9 hM f0 g0 hg q
 have hst:∀ j,j<=n-1->_:=fun j hj=>Ca.step (a:=fun i=>fs.getD i 0) g0 f0 hg hj
 have hlt:=Ca.root_lt (A:=M) k1 k2 (show n-1<=100 by omega) g0 hM hst
 have en:((n:Int)-1).toNat=n-1:=by omega
 refine ⟨sz1,⟨by omega,by omega,by omega,by omega⟩,fun i s=>∃ (o4 o5 o6:SD) (rs:List Int),s=[.val (.lst (fs.map .int)),.val (.int k),.val (.int n),.own (rs.map .int),o4,o5,o6]/\rs.length=i+1/\∀ j,j<i+1->rs.getD j 0=g j,⟨.no,.no,.no,[1],rfl,rfl,fun j hj=>?_⟩,?_,?_⟩
 ·rw [show j=0 by omega,g0]
  rfl
 ·rintro i d _ hd ⟨o4,o5,o6,rs,rfl,lr,hrs⟩
  obtain ⟨hi,rfl⟩:=upTo_got hd
  have hi':i+1<=n-1:=by omega
  have e1:(1:Int)+(i:Int)=((i+1:Nat):Int):=by omega
  rw [e1]
  have c2:(i+1)*k<=100*100:=aU (by omega) (by omega)
  have lk:Lt2 7 ((k:Nat):Int):=by unfold Lt2;omega
  have lk1:Lt2 7 ((k:Int)+1):=by unfold Lt2;omega
  have lj:Lt2 7 ((i+1:Nat):Int):=by unfold Lt2;omega
  have lu:(upTo 1 (((i+1:Nat):Int)+1-1).toNat).length=i+1:=by rw [upTo_len];omega
  refine ⟨⟨by omega,by omega,by omega,by omega⟩,(congrArg (· <= sizeLine) lu).mpr (szN (by omega)),nI (fun j=>(((j+1:Nat):Int)*(k+1)-((i+1:Nat):Int)*k)*fs.getD (j+1) 0*g (i+1-(j+1))),nI.nil,fun m d ys hd _ hy=>?_,fun ys _ hy=>?_⟩
  ·obtain ⟨hm,rfl⟩:=upTo_got hd
   have hm:m<i+1:=by omega
   have e2:(1:Int)+(m:Int)=((m+1:Nat):Int):=by omega
   rw [e2]
   have lm:Lt2 7 ((m+1:Nat):Int):=by unfold Lt2;omega
   have l1:Lt2 15 (((m+1:Nat):Int)*(k+1)-((i+1:Nat):Int)*k):=(lm.mul lk1).sub (lj.mul lk)
   have l3:=hlt (i+1-(m+1)) (by omega)
   have m3:(M+22)*(i+1-(m+1))<=100022*100:=aU (by omega) (by omega)
   have ej:((i+1:Nat):Int)-((m+1:Nat):Int)=((i+1-(m+1):Nat):Int):=by omega
   refine ⟨⟨_,_,lm,lk1,by decide⟩,⟨_,_,lj,lk,by decide⟩,itD_nat (at_int (by omega)) ⟨⟨_,_,l1,hM (m+1),by omega⟩,itD_of (d:=.int (g (i+1-(m+1)))) ?_ ⟨⟨_,_,l1.mul (hM (m+1)),l3,by omega⟩,hy.snoc rfl⟩⟩⟩
   rw [ej,← hrs (i+1-(m+1)) (by omega)]
   exact atI_nat (at_int (by omega))
  ·have hy:nI _ (upTo 1 (((i+1:Nat):Int)+1-1).toNat).length ys:=hy
   rw [lu] at hy
   obtain ⟨us,rfl,lu,hus⟩:=hy
   have es:us.sum=((i+1:Nat):Int)*k*g (i+1):=by
    rw [Ca.sum_sm,lu,← hst (i+1) hi']
    exact Cv.sm_congr fun j hj=>hus j hj
   have jk:((i+1:Nat):Int)*k≠0:=by
    have:0<(i+1)*k:=gb (by omega) k1
    have e:((i+1:Nat):Int)*k=(((i+1)*k:Nat):Int):=by push_cast;rfl
    rw [e]
    omega
   refine ⟨us,rfl,⟨_,_,lj,lk,by decide⟩,⟨jk,_,lj.mul lk,by decide⟩,(by rw [ab,sizeLine_eq];omega),?_⟩
   refine ⟨_,_,_,rs++[_],congrArg (fun l=>[SD.val (.lst (fs.map .int)),.val (.int k),.val (.int n),.own l,_,_,_]) (ints_snoc _ _),by rw [av,lr];rfl,fun j hj=>?_⟩
   rw [snoc_at,lr]
   by_cases e:j=i+1
   ·rw [if_pos e,e,es,bg,da _ jk]
   ·rw [if_neg e]
    exact hrs j (by omega)
 ·rintro _ ⟨o4,o5,o6,rs,rfl,lr,hrs⟩
  rw [upTo_len,en] at lr hrs
  exact q _ ⟨rs,rfl,by omega,fun j hj=>hrs j (by omega),fun j hj=>hlt j (by omega)⟩
end Dp
namespace Dp
open PySem L2
theorem fdiv_lt {l x:Int} {n:Nat} (h0:l≠0) (h:l*x.fdiv l=x) (hx:Lt2 n x):Lt2 n (x.fdiv l):=by
 refine hx.le ?_
 generalize x.fdiv l=y at h
 rw [← h,aJ]
 exact aN _ (by omega)
theorem rev_getD {rs:List Int} {n j:Nat} (h:rs.length=n+1) (hj:j<=n):rs.reverse.getD j 0=rs.getD (n-j) 0:=by
 rw [ac,bI (by omega),ac,h]
 congr 2
def mE:TSd:=(g9 [] (gS iy (gO (gT .Add (ig (gO (dC (.int 0)) gQ)) (gP 7)) (gO (gS gV (gO (gP 4) (gO (gT .Sub (gP 1) (dC (.int 1))) gQ))) gQ))))
def mF:TSd:=dSq (gU [] (gNm 7) (ia (jA (dC (.int 1)) (gT .Add (gP 1) (dC (.int 1)))) [8] (gNm 8) iG (gT .Mult (dIx (gP 6) (gT .Sub (gP 1) (gP 8))) (gS gV (gO (gP 4) (gO (gT .Sub (gP 8) (dC (.int 1))) gQ))))))
 mE
def iT:TSd:=dSq (gU [] (gNm 6) (gS jT (gO (gP 5) (gO (gP 3) (gO (gP 1) gQ)))))
 mF
def iU:TSd:=dSq (gU [] (gNm 5) (oo (gS jn (gO (dIx (gP 0) (dC (.int 0))) (gO (gP 4) gQ)))))
 iT
def iV:TSd:=dSq (gU [] (gNm 4) (gT .Mult (gT .Mult (dB bAbs bAbs.mono (gO (dIx (dIx (gP 0) (dC (.int 0))) (gP 2)) gQ)) (gP 3)) (gP 3)))
 iU
def iW:TSd:=dSq (gU [] (gNm 3) (gT .FloorDiv (gP 2) (gP 1)))
 iV
def nV:TSd:=dSq (gU [] (gNm 2) (gS iE (gO (gP 0) gQ)))
 iW
end Dp
namespace Dp
open PySem L2
def tI:Nat->List D->Prop:=fun i ys=>ys=(List.replicate i true).map D.bl
theorem tI.nil:tI 0 []:=rfl
theorem tI.snoc {i:Nat} {ys:List D} (h:tI i ys):tI (i+1) (ys++[.bl true]):=by
 unfold tI at h ⊢
 rw [h,List.replicate_succ',bj]
 rfl
theorem tI.all {i:Nat} {ys:List D} (h:tI i ys) {Q:D->Prop} (q:Q (.bl true)):bAll [.lst ys] Q:=by
 refine ⟨List.replicate i true,h,?_⟩
 have e:(List.replicate i true).all id=true:=by simp
 rw [e]
 exact q
theorem pD_dps (P:List Int) (B:Int):D.dps [.tup (P.map D.int),.int B]<=60:=by
 have h:∀ P:List Int,D.dps (P.map D.int)<=1:=by
  intro P
  induction P with
  | nil=>decide
  | cons a l ih =>
   show max (D.dp (.int a)) (D.dps (l.map D.int))<=1
   have:D.dp (.int a)<=1:=aC _
   omega
 show max (D.dps (P.map D.int)+1) (D.dps [.int B])<=60
 have e:D.dps [.int B]<=1:=h [B]
 have:=h P
 omega
theorem pD_pls (P:List Int) (B:Int):D.pls [.tup (P.map D.int),.int B]=true:=by
 show (D.pls (P.map D.int) && D.pls [.int B])=true
 rw [D.pls_ints]
 rfl
theorem FqD.same {n b n' b':Nat} {d d':D} {r:Rat} (h:FqD n b d r) (h':FqD n' b' d' r):d=d'/\∃ t u:Int,d=fD t u:=by
 obtain ⟨t,u,rfl,u0,g,lt,lu,e⟩:=h
 obtain ⟨t',u',rfl,u0',g',lt',lu',e'⟩:=h'
 have c:=(Qp.div_eq (by omega) (by omega)).mp (e'.symm.trans e)
 obtain ⟨y1,y2⟩:=Fr.uniq (t:=t) (b:=u) (by omega) u0' g' (by rw [c])
 obtain ⟨w1,w2⟩:=Fr.uniq (t:=t) (b:=u) (by omega) u0 g rfl
 rw [← y1,← y2,w1,w2]
 exact ⟨rfl,_,_,rfl⟩
end Dp
namespace Dp
open PySem L2
theorem lt_133 {x:Int} (h:(x.natAbs:Int)<(10:Int)^40):Lt2 133 x:=by
 unfold Lt2
 have e:(10:Int)^40=10000000000000000000000000000000000000000:=by decide
 have e2:(2:Nat)^133=10889035741470030830827987437816582766592:=by decide
 rw [e] at h
 rw [e2]
 omega
def jB:SpB:=.of 1 (α:=List Int×Int) (fun (P,B) ds=>ds=[pD P B]/\0<B/\P.length<=1000) (fun (P,B) d=>∃ c:Bool,d = .bl c/\(c=true->Lt2 133 B/\∀ i,Lt2 133 (P.getD i 0)))
def nc:TSd:=(g9 [] (pg (g8 .Lt (dIx (gP 0) (dC (.int 1))) (gT .Pow (dC (.int 10)) (dC (.int 40)))) (dB bAll bAll.mono (gO (ia (il (dIx (gP 0) (dC (.int 0)))) [1] (gNm 1) iG (g8 .Lt (dB bAbs bAbs.mono (gO (gP 1) gQ)) (gT .Pow (dC (.int 10)) (dC (.int 40))))) gQ))))
theorem kI:Does 2 nc jB:=by
 rintro ds Q hn ⟨⟨ts,b⟩,⟨rfl,b0,ll⟩,q⟩
 dsimp only at b0 ll q
 have cp:CPow 10 40:=⟨by decide,by decide,by decide⟩
 refine ⟨cp,ifP (p:=b<(10:Int)^40) (fun c=>?_) (fun c=>q _ ⟨false,rfl,fun z=>by cases z⟩)⟩
 refine ⟨(congrArg (· <= sizeLine) (ab _)).mpr (szN (by omega)),fun i ys=>ys=((ts.take i).map fun x=>decide ((x.natAbs:Int)<(10:Int)^40)).map D.bl,rfl,fun i d ys hd _ hy=>?_,fun ys _ hy=>⟨_,hy,q _ ⟨_,rfl,fun z=>⟨lt_133 (by rw [Int.natAbs_of_nonneg (Int.le_of_lt b0)];exact c),fun i=>?_⟩⟩⟩⟩
 ·obtain ⟨hj,rfl⟩:=int_at hd
  refine ⟨cp,?_⟩
  show ys++[D.bl (decide ((if ts.getD i 0<0 then -(ts.getD i 0) else ts.getD i 0)<(10:Int)^40))]=_
  rw [abs_is,take_snoc hj,bj,bj,hy]
  rfl
 ·rw [ab,bD] at z
  rcases am i ts.length with x | x
  ·rw [bz] at z
   have:=z (decide (((ts.getD i 0).natAbs:Int)<(10:Int)^40)) (cP.mpr ⟨_,getD_is_mem x,rfl⟩)
   rw [id_eq,decide_eq_true_eq] at this
   exact lt_133 this
  ·rw [getD_out x]
   exact zlt _
def iu:SpB:=.of 1 (α:=List Int×Int×List Int×Int×List Int×Int) (fun (P1,B1,P2,B2,P3,B3) ds=>ds=[.lst [pD P1 B1,pD P2 B2,pD P3 B3]]/\Pc.Pz 9 3 P1 B1/\Pc.Pz 9 3 P2 B2/\Pc.Pz 9 3 P3 B3/\P1.length<=4/\P2.length<=4/\P3.length<=4)
 (fun (P1,B1,P2,B2,P3,B3) d=>∃ R C T U,d=pD T U/\Pc.Of P2 B2 P3 B3 R C/\Pc.Of P1 B1 R C T U)
def jU:TSd:=(g9 [] (gP 1))
def jV:TSd:=dSq (iC [] (ku (dSl (gP 0) dNo (lI (kB (dC (.int 1)))))) (gNm 2)
 (gU [] (gNm 1) (gS ic (gO (gP 2) (gO (gP 1) gQ)))))
 jU
def kJ:TSd:=dSq (gU [] (gNm 1) (dIx (gP 0) (kB (dC (.int 1)))))
 jV
theorem jG:Does 3 kJ iu:=by
 rintro ds Q hn ⟨⟨P1,B1,P2,B2,P3,B3⟩,⟨rfl,z1,z2,z3,l1,l2,l3⟩,q⟩
 dsimp only at z1 z2 z3 l1 l2 l3 q
 have c2:P2.length*P3.length<=4*4:=aU l2 l3
 refine ⟨fun i s=>(i=0/\∃ o,s=[.val (.lst [pD P1 B1,pD P2 B2,pD P3 B3]),.val (pD P3 B3),o])\/(i=1/\∃ o R C,s=[.val (.lst [pD P1 B1,pD P2 B2,pD P3 B3]),.val (pD R C),o]/\Pc.Of P2 B2 P3 B3 R C)\/(i=2/\∃ o R C T U,s=[.val (.lst [pD P1 B1,pD P2 B2,pD P3 B3]),.val (pD T U),o]/\Pc.Of P2 B2 P3 B3 R C/\Pc.Of P1 B1 R C T U),.inl ⟨rfl,.no,rfl⟩,?_,?_⟩
 ·rintro i d _ hd (⟨rfl,o,rfl⟩ | ⟨rfl,o,R,C,rfl,o1⟩ | ⟨rfl,_⟩)
  ·cases hd
   refine ⟨rfl,(P2,B2,P3,B3,9,3,9,3),⟨rfl,z2,z3,by omega,by omega,by omega,by omega,by omega⟩,?_⟩
   rintro _ ⟨R,C,rfl,ho⟩
   exact .inr (.inl ⟨rfl,_,R,C,rfl,ho⟩)
  ·cases hd
   have zR:=o1.size z2 z3 (by omega)
   have lR:=o1.len z2.fm.pos z3.fm.pos
   have c3:P1.length*R.length<=4*17:=aU l1 (by omega)
   have zR':Pc.Pz 98 30 R C:=zR.mono (by omega) (by omega)
   refine ⟨rfl,(P1,B1,R,C,9,3,98,30),⟨rfl,z1,zR',by omega,by omega,by omega,by omega,by omega⟩,?_⟩
   rintro _ ⟨T,U,rfl,ho⟩
   exact .inr (.inr ⟨rfl,_,R,C,T,U,rfl,o1,ho⟩)
  ·cases hd
 ·rintro _ (⟨e,_⟩ | ⟨e,_⟩ | ⟨_,o,R,C,T,U,rfl,o1,o2⟩)
  ·cases e
  ·cases e
  ·exact q _ ⟨R,C,T,U,rfl,o1,o2⟩
end Dp
namespace Dp
open PySem L2
theorem atI_back {α:Type} {xs:List α} {j n:Nat} {v:α} (h:xs[n-j]? = some v) (e:xs.length=n) (hj:1<=j) (hn:j<=n):atI xs (-(j:Int))=some v:=by
 have e:ixN xs.length (-(j:Int))=some (n-j):=by
  unfold ixN
  rw [e,if_neg (by omega),if_pos (by omega)]
  congr 1
  omega
 unfold atI
 rw [e]
 exact h
theorem bot1 {n:Nat} {P:List Int} {B:Int} (z:Pc.Pz n 1 P B):B=1:=by
 have a:=z.fm.pos
 have b:B.natAbs<2:=z.bot
 omega
def iA:SpB:=.of 2 (α:=Nat×Int) (fun (n,z) ds=>ds=[.int n,fD z 1]/\1<=n/\n<=12/\z.natAbs<=2) (fun (n,z) d=>∃ P B,d=pD P B/\Pc.Pz (3*n+3) 1 P B/\P.length=n+1)
def kK:TSd:=(g9 [] (kC 2 (gP 0)))
def kL:TSd:=dSq (iC [] (jC (gT .Sub (gP 0) (dC (.int 1)))) (gNm 3)
 (dSq (gU [] (gNm 4) (gS iL (gO (kC 2 (kB (dC (.int 2)))) (gO (gS g7 (gO (ig (gO (gT .Sub (dC (.int 0)) (dIx (gP 1) (dC (.int 0)))) gQ)) (gO (dIx (gP 1) (dC (.int 1))) gQ))) gQ))))
 (mX [] 2 (gS iD (gO (gS iL (gO (gZ (gO (gZ (gO (dC (.int 0)) (gO (dC (.int 1)) gQ))) (gO (dC (.int 1)) gQ))) (gO (kC 2 (kB (dC (.int 1)))) gQ))) (gO (gP 4) gQ))))))
 kK
def mH:TSd:=dSq (j5 [] 2 (ig (gO (gZ (gO (gZ (gO (dC (.int 2)) gQ)) (gO (dC (.int 1)) gQ))) (gO (gZ (gO (gZ (gO (dC (.int 0)) (gO (dC (.int 1)) gQ))) (gO (dC (.int 1)) gQ))) gQ))))
 kL
theorem j9:Does 5 mH iA:=by
 rintro ds Q hn ⟨⟨n,z⟩,⟨rfl,n1,n2,hz⟩,q⟩
 dsimp only at n1 n2 hz q
 have en:((n:Int)-1).toNat=n-1:=by omega
 refine ⟨sz1,sz2,sz2,sz2,sz2,by omega,by omega,fun i s=>∃ (o3 o4:SD) (xs:List D),s=[.val (.int n),.val (fD z 1),.own xs,o3,o4]/\xs.length=i+2/\∀ (j:Nat) (x:D),xs[j]? = some x->∃ P B,x=pD P B/\Pc.Pz (3*j+3) 1 P B/\P.length=j+1/\(0<j->P.getD j 0=1),⟨.no,.no,_,rfl,rfl,fun j x hx=>?_⟩,?_,?_⟩
 ·match j,hx with
  | 0,hx =>
   cases hx
   exact ⟨[2],1,rfl,⟨⟨by decide,.inr (by decide),by decide⟩,fun k=>by
    cases k with
    | zero=>unfold Lt2;decide
    | succ k=>rw [bG,getD_out (aC _)];exact zlt _,by unfold Lt2;decide⟩,rfl,fun h=>absurd h (by decide)⟩
  | 1,hx =>
   cases hx
   exact ⟨[0,1],1,rfl,Pc.X_pz.mono (by decide) (by decide),rfl,fun _=>rfl⟩
 ·rintro i d _ hd ⟨o3,o4,xs,rfl,lx,hxs⟩
  obtain ⟨hi,rfl⟩:=upTo_got hd
  have hi:i<n-1:=by omega
  obtain ⟨x0,e0⟩:∃ x,xs[i]? = some x:=⟨xs[i]'(by omega),by simp⟩
  obtain ⟨x1,e1⟩:∃ x,xs[i+1]? = some x:=⟨xs[i+1]'(by omega),by simp⟩
  obtain ⟨P0,B0,rfl,z0,l0,_⟩:=hxs i x0 e0
  obtain ⟨P1,B1,rfl,z1,l1,t1⟩:=hxs (i+1) x1 e1
  cases bot1 z0
  cases bot1 z1
  refine itD_of (atI_back (j:=2) (by rw [show i+2-2=i by omega];exact e0) lx (by decide) (by omega)) ⟨sz1,rfl,([0-z],1),⟨.inl rfl,by show (0:Int)<1;decide,lt9 (m:=1) (by decide),by show 1<=1000;decide⟩,?_⟩
  rintro _ ⟨P8,B8,rfl,f8,w8,l8⟩
  have z8:Pc.Pz 2 1 P8 B8:=Pc.Pz.of f8 (c:=1) (by decide) w8 (fun k=>by
   cases k with
   | zero=>rw [cZ];unfold Lt2;omega
   | succ k=>rw [bG,getD_out (aC _)];exact zlt _) (by unfold Lt2;decide)
  have l8':P8.length<=1:=l8
  cases bot1 z8
  refine ⟨rfl,(P0,1,P8,1,_,_,_,_),⟨rfl,z0,z8,by decide,by omega,by omega,by omega⟩,?_⟩
  rintro _ ⟨P9,B9,rfl,f9,w9⟩
  have c9:∀ k,Cv.cv (Cv.fn P0) (Cv.fn P8) k=P0.getD k 0*P8.getD 0 0:=Ca.cv_const fun k hk=>getD_out (by omega)
  have z9:Pc.Pz (3*i+5) 1 P9 B9:=Pc.Pz.of f9 (c:=1*1) (by decide) w9 (fun k=>by rw [c9 k];exact ((z0.tops k).mul (z8.tops 0)).mono (by omega)) (by unfold Lt2;decide)
  cases bot1 z9
  refine ⟨sz2,sz2,itD_of (atI_back (j:=1) (by rw [show i+2-1=i+1 by omega];exact e1) lx (by decide) (by omega)) ⟨rfl,(Pc.X,1,P1,1,1,1,_,_),⟨rfl,Pc.X_pz,z1,by decide,by omega,(by show 2<=450;decide),by omega⟩,?_⟩⟩
  rintro _ ⟨Pq,Bc,rfl,fc,wc⟩
  have cc:∀ k,Cv.cv (Cv.fn Pc.X) (Cv.fn P1) k=if k=0 then 0 else P1.getD (k-1) 0:=fun k=>by
   rw [Cv.cv_comm]
   exact Pc.cv_X (Cv.fn P1) k
  have zc:Pc.Pz (3*(i+1)+3) 1 Pq Bc:=Pc.Pz.of fc (c:=1*1) (by decide) wc (fun k=>by
   rw [cc k]
   split
   ·exact zlt _
   ·exact z1.tops _) (by unfold Lt2;decide)
  cases bot1 zc
  have lc:Pq.length<=i+3:=Pc.len_of fc (c:=1*1) (by decide) wc fun k hk=>by
   rw [cc k,if_neg (by omega),getD_out (by omega)]
  have l9:P9.length<=i+1:=Pc.len_of f9 (c:=1*1) (by decide) w9 fun k hk=>by
   rw [c9 k,getD_out (by omega),aE]
  refine ⟨rfl,(Pq,1,P9,1,_,_,_,_),⟨rfl,zc,z9,by decide,by omega,by omega,by omega⟩,?_⟩
  rintro _ ⟨Pd,Bd,rfl,fd',wd⟩
  have zd:Pc.Pz (3*(i+2)+3) 1 Pd Bd:=Pc.Pz.of fd' (c:=1*1) (by decide) wd (fun k=>by
   show Lt2 _ (Pq.getD k 0*1+P9.getD k 0*1)
   rw [bu,bu]
   exact (((zc.tops k).mono (m:=3*i+6) (by omega)).add ((z9.tops k).mono (m:=3*i+6) (by omega))).mono (by omega)) (by unfold Lt2;decide)
  cases bot1 zd
  have td:Pd.getD (i+2) 0=1:=by
   have a:=wd (i+2)
   have b:=wc (i+2)
   rw [cc,if_neg (by omega),show i+2-1=i+1 by omega,t1 (by omega)] at b
   rw [getD_out (fs:=P9) (by omega)] at a
   omega
  have ld:Pd.length=i+3:=by
   have u:Pd.length<=i+3:=Pc.len_of fd' (c:=1*1) (by decide) wd fun k hk=>by
    rw [getD_out (fs:=Pq) (by omega),getD_out (fs:=P9) (by omega)]
    rfl
   rcases am (i+2) Pd.length with x | x
   ·omega
   ·rw [getD_out x] at td
    omega
  refine ⟨(by rw [lx,sizeLine_eq];omega),_,_,xs++[pD Pd 1],rfl,by rw [av,lx];rfl,fun j x hj=>?_⟩
  rcases am j xs.length with y | y
  ·rw [aY y] at hj
   exact hxs j x hj
  ·have ej:j=i+2:=by
    have:=(ak.mp hj).1
    rw [av] at this
    simp at this
    omega
   subst ej
   rw [aL (by omega),lx,bM] at hj
   cases hj
   exact ⟨Pd,1,rfl,zd,ld,fun _=>td⟩
 ·rintro _ ⟨o3,o4,xs,rfl,lx,hxs⟩
  rw [upTo_len,en] at lx
  obtain ⟨x,ex⟩:∃ x,xs[n]? = some x:=⟨xs[n]'(by omega),by simp⟩
  obtain ⟨P1,B1,rfl,z1,lP,_⟩:=hxs n x ex
  exact itD_nat ex (q _ ⟨P1,B1,rfl,z1,lP⟩)
end Dp
namespace Dp
open PySem L2
theorem pick3 {a b c:D} {i:Int} (h0:0<=i) (h1:i<3) {Q:D->Prop} (qa:Q a) (qb:Q b) (qc:Q c):itD [a,b,c] i Q:=by
 rcases (by omega:i=0\/i=1\/i=2) with rfl | rfl | rfl
 ·exact qa
 ·exact qb
 ·exact qc
def dS (e m:Int) (s:SS):Prop:=∃ (P:List Int) (B:Int) (o4 o5 o6 o7 o8 o9 o10:SD),s=[.val .fl,.val (.int e),.val (.int m),.val (pD P B),o4,o5,o6,o7,o8,o9,o10]/\Po.Fm P B/\2<=P.length/\P.length<=13
theorem fm_top {P:List Int} {B:Int} {n:Nat} (f:Po.Fm P B) (l:P.length=n+1):P.getD n 0≠0:=by
 rcases f.last with e | e
 ·rw [e] at l
  simp at l
 ·rwa [l] at e
def pL:TSd:=(dSq (gU [] (gNm 4) (gT .Add (dC (.int 1)) (gS gR (gO (gP 0) (gO (dIx (ig (gO (dC (.int 6)) (gO (dC (.int 12)) gQ))) (dB bInt bInt.mono (gO (g8 .Eq (gS gR (gO (gP 0) (gO (dC (.int 4)) gQ))) (dC (.int 0))) gQ))) gQ)))))
 (dSq (gU [] (gNm 3) (gS gY (gO (gP 0) (gO (gP 4) (gO (gP 2) gQ)))))
 (dIf [] (ja (gX (g8 .Eq (gS gR (gO (gP 0) (gO (dC (.int 3)) gQ))) (dC (.int 0)))) (gX (g8 .Lt (gP 4) (dC (.int 5)))))
 (dSq (gU [] (gNm 5) (ia (jC (gP 4)) [6] (gNm 6) iG (gS hJ (gO (gP 0) (gO (gT .Pow (dC (.int 10)) (dC (.int 39))) gQ)))))
 (gU [] (gNm 3) (gS iD (gO (gP 3) (gO (gS g7 (gO (gP 5) (gO (dC (.int 1)) gQ))) gQ)))))
 hV)))
def pM:TSd:=(dSq (gU [] (gNm 7) (ig (gO (gZ (gO (dC (.int 2)) (gO (dC (.int 2)) gQ))) (gO (gZ (gO (dC (.int 2)) (gO (dC (.int 3)) gQ))) (gO (gZ (gO (dC (.int 3)) (gO (dC (.int 2)) gQ))) (gO (gZ (gO (dC (.int 4)) (gO (dC (.int 2)) gQ))) (gO (gZ (gO (dC (.int 2)) (gO (dC (.int 4)) gQ))) (gO (gZ (gO (dC (.int 3)) (gO (dC (.int 3)) gQ))) (gO (gZ (gO (dC (.int 3)) (gO (dC (.int 4)) gQ))) (gO (gZ (gO (dC (.int 4)) (gO (dC (.int 3)) gQ))) (gO (gZ (gO (dC (.int 6)) (gO (dC (.int 2)) gQ))) (gO (gZ (gO (dC (.int 2)) (gO (dC (.int 6)) gQ))) (gO (gZ (gO (dC (.int 5)) (gO (dC (.int 2)) gQ))) (gO (gZ (gO (dC (.int 2)) (gO (dC (.int 5)) gQ))) gQ))))))))))))))
 (dSq (gU [] (gTp [8,6]) (dIx (gP 7) (gS gR (gO (gP 0) (gO (dC (.int 12)) gQ)))))
 (gU [] (gNm 3) (gS ic (gO (gS gY (gO (gP 0) (gO (gP 8) (gO (gP 2) gQ)))) (gO (gS ir (gO (gP 0) (gO (gP 6) (gO (gP 2) gQ)))) gQ))))))
def pP:TSd:=(dSq (gU [] (gNm 9) (dIx (ig (gO (gZ (gO (dC (.int 2)) (gO (dC (.int 2)) (gO (dC (.int 2)) gQ)))) (gO (gZ (gO (dC (.int 2)) (gO (dC (.int 2)) (gO (dC (.int 3)) gQ)))) (gO (gZ (gO (dC (.int 2)) (gO (dC (.int 3)) (gO (dC (.int 2)) gQ)))) (gO (gZ (gO (dC (.int 3)) (gO (dC (.int 2)) (gO (dC (.int 2)) gQ)))) gQ))))) (gS gR (gO (gP 0) (gO (dC (.int 4)) gQ)))))
 (gU [] (gNm 3) (gS iu (gO (ia (il (gP 9)) [6] (gNm 6) iG (gS gY (gO (gP 0) (gO (gP 6) (gO (dC (.int 3)) gQ))))) gQ))))
def pQ:TSd:=(dSq (gU [] (gNm 10) (dIx (ig (gO (dC (.int 2)) (gO (dC (.int 4)) (gO (dC (.int 6)) (gO (dC (.int 8)) (gO (dC (.int 9)) (gO (dC (.int 10)) (gO (dC (.int 12)) (gO (dC (.int 12)) gQ))))))))) (gS gR (gO (gP 0) (gO (dC (.int 8)) gQ)))))
 (dSq (gU [] (gNm 3) (gS iA (gO (gP 10) (gO (gZ (gO (gS hJ (gO (gP 0) (gO (dC (.int 2)) gQ))) (gO (dC (.int 1)) gQ))) gQ))))
 (gU [] (gNm 3) (gS ic (gO (gS g6 (gO (gP 0) (gO (dC (.int 3)) gQ))) (gO (gS ic (gO (gP 3) (gO (gS g6 (gO (gP 0) (gO (dC (.int 3)) gQ))) gQ))) gQ))))))
def ka:TSd:=(dSq (gU [] (gNm 3) (gS gY (gO (gP 0) (gO (gP 4) (gO (gP 2) gQ)))))
 (dIf [] (ja (gX (g8 .Eq (gS gR (gO (gP 0) (gO (dC (.int 3)) gQ))) (dC (.int 0)))) (gX (g8 .Lt (gP 4) (dC (.int 5)))))
 (dSq (gU [] (gNm 5) (ia (jC (gP 4)) [6] (gNm 6) iG (gS hJ (gO (gP 0) (gO (gT .Pow (dC (.int 10)) (dC (.int 39))) gQ)))))
 (gU [] (gNm 3) (gS iD (gO (gP 3) (gO (gS g7 (gO (gP 5) (gO (dC (.int 1)) gQ))) gQ)))))
 hV))
theorem d28_0 {e m:Int} {s:SS} {E:EndsD} (hE:∀ s,dS e m s->E.nx s) (hs:dS e m s) (m0:3<=m) (m9:m<=99):pL.run E s:=by
 obtain ⟨P,B,o4,o5,o6,o7,o8,o9,o10,rfl,fm,l1,l2⟩:=hs
 have lm:Lt2 7 m:=by unfold Lt2;omega
 have key:∀ N:Nat,1<=N->N<=12->ka.run E [.val .fl,.val (.int e),.val (.int m),.val (pD P B),.val (.int (N:Int)),o5,o6,o7,o8,o9,o10]:=by
  intro N N1 N2
  refine ⟨rfl,(N,m,7),⟨rfl,by omega,by omega,lm,by decide⟩,?_⟩
  rintro _ ⟨P1,B1,rfl,z1,ll1⟩
  have ll1:P1.length=N+1:=ll1
  refine ⟨rfl,3,⟨rfl,by decide,lt9 (by decide)⟩,?_⟩
  rintro _ ⟨i,rfl,i0,i1⟩
  have stay:E.nx [.val .fl,.val (.int e),.val (.int m),.val (pD P1 B1),.val (.int (N:Int)),o5,o6,o7,o8,o9,o10]:=hE _ ⟨P1,B1,_,_,_,_,_,_,_,rfl,z1.fm,by omega,by omega⟩
  refine ifP (p:=i=0) (fun _=>ifP (p:=(N:Int)<5) (fun c5=>?_) (fun _=>stay)) (fun _=>stay)
  have l39:Lt2 130 ((10:Int)^39):=by decide
  refine ⟨by omega,by omega,(congrArg (· <= sizeLine) upTo_len).mpr (szN (by omega)),drI 130,drI.nil,fun i d ys hd _ hy=>?_,fun ys _ hy=>?_⟩
  ·obtain ⟨hi,rfl⟩:=upTo_got hd
   refine ⟨⟨by decide,by decide,by decide⟩,rfl,(10:Int)^39,⟨rfl,by decide,l39.mono (by decide)⟩,?_⟩
   rintro _ ⟨z,rfl,z0,z1⟩
   exact hy.snoc (l39.le (by
    have e:(10:Int)^39=1000000000000000000000000000000000000000:=by decide
    rw [e] at z0 z1 ⊢
    omega))
  ·have hy:drI 130 (upTo 0 (N:Int).toNat).length ys:=hy
   rw [upTo_len,bo] at hy
   obtain ⟨gs,rfl,lg,hg⟩:=hy
   refine ⟨rfl,(gs,1),⟨.inl rfl,by show (0:Int)<1;decide,lt9 (m:=1) (by decide),by show gs.length<=1000;omega⟩,?_⟩
   rintro _ ⟨G,U,rfl,fG,wG,lG⟩
   have lG:G.length<=gs.length:=lG
   have zG:Pc.Pz 130 1 G U:=Pc.Pz.of fG (c:=1) (by decide) wG (fun k=>by
    show Lt2 130 (gs.getD k 0)
    rcases am k gs.length with x | x
    ·exact hg _ (getD_is_mem x)
    ·rw [getD_out x];exact zlt _) (by unfold Lt2;decide)
   refine ⟨rfl,(P1,B1,G,U,7,3,130,1),⟨rfl,z1,zG,by decide,by decide,by omega,by omega⟩,?_⟩
   rintro _ ⟨R,C,rfl,fR,wR⟩
   have wR:∀ k,R.getD k 0*(B1*U)=(P1.getD k 0*U+G.getD k 0*B1)*C:=wR
   have b1:=z1.fm.pos
   have u1:=fG.pos
   have tp:R.getD N 0≠0:=fun z=>by
    have w:=wR N
    rw [z,aE,getD_out (fs:=G) (by omega),aE,bS] at w
    exact bA (bA (fm_top z1.fm ll1) (aw u1)) (aw fR.pos) w.symm
   have up:R.length<=N+1:=Pc.len_of fR (ax b1 u1) wR fun k hk=>by
    rw [getD_out (fs:=P1) (by omega),getD_out (fs:=G) (by omega),aE,aE]
    rfl
   have dn:N<R.length:=by
    rcases am N R.length with x | x
    ·exact x
    ·exact absurd (getD_out x) tp
   exact hE _ ⟨R,C,_,_,_,_,_,_,_,rfl,fR,by omega,by omega⟩
 refine ⟨szN (n:=2) (by decide),rfl,4,⟨rfl,by decide,lt9 (by decide)⟩,?_⟩
 rintro _ ⟨i,rfl,i0,i1⟩
 have fin:∀ c:Int,1<=c->c<=12->([D.fl,.int c].length=gR.n/\gR.run [.fl,.int c] fun d=>oAdd (.int 1) d fun d=>ka.run E [.val .fl,.val (.int e),.val (.int m),.val (pD P B),.val d,o5,o6,o7,o8,o9,o10]):=fun c c1 c6=>by
  refine ⟨rfl,c,⟨rfl,by omega,lt9 (by omega)⟩,?_⟩
  rintro _ ⟨j,rfl,j0,j1⟩
  show ka.run E [.val .fl,.val (.int e),.val (.int m),.val (pD P B),.val (.int (1+j)),o5,o6,o7,o8,o9,o10]
  rw [show 1+j=(((1+j).toNat:Nat):Int) by omega]
  exact key _ (by omega) (by omega)
 by_cases c:i=0
 ·subst c
  exact fin 12 (by decide) (by decide)
 ·refine itD_of (d:=.int 6) ?_ (fin 6 (by decide) (by decide))
  show atI _ (if decide (i=0)=true then (1:Int) else 0)=_
  rw [if_neg (by simpa using c)]
  rfl
def oQ:TSd:=(gU [] (gNm 3) (gS ic (gO (gS gY (gO (gP 0) (gO (gP 8) (gO (gP 2) gQ)))) (gO (gS ir (gO (gP 0) (gO (gP 6) (gO (gP 2) gQ)))) gQ))))
theorem d28_1 {e m:Int} {s:SS} {E:EndsD} (hE:∀ s,dS e m s->E.nx s) (hs:dS e m s) (m0:3<=m) (m9:m<=99):pM.run E s:=by
 obtain ⟨P,B,o4,o5,o6,o7,o8,o9,o10,rfl,fm,l1,l2⟩:=hs
 have lm:Lt2 7 m:=by unfold Lt2;omega
 have key:∀ (a c:Nat) (x:D),2<=a->2<=c->a<=6->c<=6->a*c<=12->oQ.run E [.val .fl,.val (.int e),.val (.int m),.val (pD P B),o4,o5,.val (.int (c:Nat)),.val x,.val (.int (a:Nat)),o9,o10]:=by
  intro a c x a2 c2 a6 c6 h
  refine ⟨rfl,(a,m,7),⟨rfl,by omega,by omega,lm,by decide⟩,?_⟩
  rintro _ ⟨P1,B1,rfl,z1,ll1⟩
  refine ⟨rfl,(c,m,7),⟨rfl,by omega,by omega,by omega,lm,by decide,by decide⟩,?_⟩
  rintro _ ⟨P2,B2,rfl,z2,ll2,_,_⟩
  have ll1:P1.length=a+1:=ll1
  have ll2:P2.length=c+1:=ll2
  have lp:P1.length*P2.length<=7*7:=aU (by omega) (by omega)
  refine ⟨rfl,(P1,B1,P2,B2,7,3,7,3),⟨rfl,z1,z2,by omega,by omega,by omega,by omega,by omega⟩,?_⟩
  rintro _ ⟨R,C,rfl,ho⟩
  have lR:=ho.deg_eq z1.fm.pos z2.fm.pos ll1 ll2 (by omega) (fm_top z1.fm ll1) (fm_top z2.fm ll2)
  have:2*2<=a*c:=aU a2 c2
  exact hE _ ⟨R,C,_,_,_,_,_,_,_,rfl,ho.1,by omega,by omega⟩
 refine ⟨sz2,sz2,sz2,sz2,sz2,sz2,sz2,sz2,sz2,sz2,sz2,sz2,szN (n:=12) (by decide),rfl,12,⟨rfl,by decide,lt9 (by decide)⟩,?_⟩
 rintro _ ⟨i,rfl,i0,i1⟩
 rcases (by omega:i=0\/i=1\/i=2\/i=3\/i=4\/i=5\/i=6\/i=7\/i=8\/i=9\/i=10\/i=11) with rfl | rfl | rfl | rfl | rfl | rfl | rfl | rfl | rfl | rfl | rfl | rfl
 ·exact ⟨rfl,key 2 2 _ (by decide) (by decide) (by decide) (by decide) (by decide)⟩
 ·exact ⟨rfl,key 2 3 _ (by decide) (by decide) (by decide) (by decide) (by decide)⟩
 ·exact ⟨rfl,key 3 2 _ (by decide) (by decide) (by decide) (by decide) (by decide)⟩
 ·exact ⟨rfl,key 4 2 _ (by decide) (by decide) (by decide) (by decide) (by decide)⟩
 ·exact ⟨rfl,key 2 4 _ (by decide) (by decide) (by decide) (by decide) (by decide)⟩
 ·exact ⟨rfl,key 3 3 _ (by decide) (by decide) (by decide) (by decide) (by decide)⟩
 ·exact ⟨rfl,key 3 4 _ (by decide) (by decide) (by decide) (by decide) (by decide)⟩
 ·exact ⟨rfl,key 4 3 _ (by decide) (by decide) (by decide) (by decide) (by decide)⟩
 ·exact ⟨rfl,key 6 2 _ (by decide) (by decide) (by decide) (by decide) (by decide)⟩
 ·exact ⟨rfl,key 2 6 _ (by decide) (by decide) (by decide) (by decide) (by decide)⟩
 ·exact ⟨rfl,key 5 2 _ (by decide) (by decide) (by decide) (by decide) (by decide)⟩
 ·exact ⟨rfl,key 2 5 _ (by decide) (by decide) (by decide) (by decide) (by decide)⟩
def oR:TSd:=(gU [] (gNm 3) (gS iu (gO (ia (il (gP 9)) [6] (gNm 6) iG (gS gY (gO (gP 0) (gO (gP 6) (gO (dC (.int 3)) gQ))))) gQ)))
def pI (M b:Nat) (ks:List Nat):Nat->List D->Prop:=fun i ys=>∃ L:List (List Int×Int),ys=L.map (fun p=>pD p.1 p.2)/\L.length=i/\∀ j p,L[j]? = some p->Pc.Pz M b p.1 p.2/\p.1.length=ks.getD j 0+1
theorem pI.nil {M b:Nat} {ks:List Nat}:pI M b ks 0 []:=⟨[],rfl,rfl,fun j p h=>by cases h⟩
theorem pI.snoc {M b:Nat} {ks:List Nat} {i:Nat} {ys:List D} {P:List Int} {B:Int} (h:pI M b ks i ys) (z:Pc.Pz M b P B) (l:P.length=ks.getD i 0+1):pI M b ks (i+1) (ys++[pD P B]):=by
 obtain ⟨L,rfl,ll,hL⟩:=h
 refine ⟨L++[(P,B)],by rw [bj];rfl,by rw [av,ll];rfl,fun j p hj=>?_⟩
 rcases am j L.length with y | y
 ·rw [aY y] at hj
  exact hL j p hj
 ·have ej:j=i:=by
   have:=(ak.mp hj).1
   rw [av] at this
   simp at this
   omega
  subst ej
  rw [aL (by omega),ll,bM] at hj
  cases hj
  exact ⟨z,l⟩
theorem d28_3 {e m:Int} {s:SS} {E:EndsD} (hE:∀ s,dS e m s->E.nx s) (hs:dS e m s):pP.run E s:=by
 obtain ⟨P,B,o4,o5,o6,o7,o8,o9,o10,rfl,fm,l1,l2⟩:=hs
 have key:∀ (a b c:Nat),2<=a->a<=3->2<=b->b<=3->2<=c->c<=3->a*(b*c)<=12->oR.run E [.val .fl,.val (.int e),.val (.int m),.val (pD P B),o4,o5,o6,o7,o8,.val (.tup [.int (a:Nat),.int (b:Nat),.int (c:Nat)]),o10]:=by
  intro a b c a1 a2 b1 b2 c1 c2 h
  refine ⟨szN (n:=3) (by decide),pI 2 3 [a,b,c],pI.nil,fun i d ys hd _ hy=>?_,fun ys _ hy=>?_⟩
  ·have hd:(([a,b,c]:List Nat).map fun n=>D.int ((n:Nat):Int))[i]? = some d:=hd
   rw [aG] at hd
   obtain ⟨k,hk,rfl⟩:=aa.mp hd
   have hk':=aI hk
   have k3:k<=3:=by
    rcases ar.mp hk' with z | z
    ·omega
    ·rcases ar.mp z with z | z
     ·omega
     ·rw [aS.mp z];omega
   refine ⟨rfl,(k,3,2),⟨rfl,by omega,by decide,by decide,by decide⟩,?_⟩
   rintro _ ⟨P1,B1,rfl,z1,ll1⟩
   exact hy.snoc z1 (by rw [getD_of hk];exact ll1)
  ·obtain ⟨L,rfl,lL,hL⟩:=hy
   obtain ⟨p1,p2,p3,rfl⟩:∃ p1 p2 p3,L=[p1,p2,p3]:=by
    match L,lL with
    | [p1,p2,p3],_=>exact ⟨p1,p2,p3,rfl⟩
   obtain ⟨P1,B1⟩:=p1
   obtain ⟨P2,B2⟩:=p2
   obtain ⟨P3,B3⟩:=p3
   obtain ⟨y1,x1⟩:=hL 0 _ rfl
   obtain ⟨y2,x2⟩:=hL 1 _ rfl
   obtain ⟨y3,x3⟩:=hL 2 _ rfl
   have x1:P1.length=a+1:=x1
   have x2:P2.length=b+1:=x2
   have x3:P3.length=c+1:=x3
   refine ⟨rfl,(P1,B1,P2,B2,P3,B3),⟨rfl,y1.mono (by decide) (by decide),y2.mono (by decide) (by decide),y3.mono (by decide) (by decide),by omega,by omega,by omega⟩,?_⟩
   rintro _ ⟨R,C,T,U,rfl,o1,o2⟩
   have bc:2*2<=b*c:=aU b1 c1
   have abc:2*4<=a*(b*c):=aU a1 bc
   have lR:=Pc.Of.deg_eq y2.fm.pos y3.fm.pos o1 x2 x3 (by omega) (fm_top y2.fm x2) (fm_top y3.fm x3)
   have lT:=Pc.Of.deg_eq y1.fm.pos o1.1.pos o2 x1 lR (by omega) (fm_top y1.fm x1) (fm_top o1.1 lR)
   exact hE _ ⟨T,U,_,_,_,_,_,_,_,rfl,o2.1,by omega,by omega⟩
 refine ⟨szN (n:=3) (by decide),szN (n:=3) (by decide),szN (n:=3) (by decide),szN (n:=3) (by decide),szN (n:=4) (by decide),rfl,4,⟨rfl,by decide,lt9 (by decide)⟩,?_⟩
 rintro _ ⟨i,rfl,i0,i1⟩
 rcases (by omega:i=0\/i=1\/i=2\/i=3) with rfl | rfl | rfl | rfl
 ·exact key 2 2 2 (by decide) (by decide) (by decide) (by decide) (by decide) (by decide) (by decide)
 ·exact key 2 2 3 (by decide) (by decide) (by decide) (by decide) (by decide) (by decide) (by decide)
 ·exact key 2 3 2 (by decide) (by decide) (by decide) (by decide) (by decide) (by decide) (by decide)
 ·exact key 3 2 2 (by decide) (by decide) (by decide) (by decide) (by decide) (by decide) (by decide)
def oS:TSd:=(dSq (gU [] (gNm 3) (gS iA (gO (gP 10) (gO (gZ (gO (gS hJ (gO (gP 0) (gO (dC (.int 2)) gQ))) (gO (dC (.int 1)) gQ))) gQ))))
 (gU [] (gNm 3) (gS ic (gO (gS g6 (gO (gP 0) (gO (dC (.int 3)) gQ))) (gO (gS ic (gO (gP 3) (gO (gS g6 (gO (gP 0) (gO (dC (.int 3)) gQ))) gQ))) gQ)))))
theorem d28_4 {e m:Int} {s:SS} {E:EndsD} (hE:∀ s,dS e m s->E.nx s) (hs:dS e m s):pQ.run E s:=by
 obtain ⟨P,B,o4,o5,o6,o7,o8,o9,o10,rfl,fm,l1,l2⟩:=hs
 have key:∀ n:Nat,1<=n->n<=12->oS.run E [.val .fl,.val (.int e),.val (.int m),.val (pD P B),o4,o5,o6,o7,o8,o9,.val (.int (n:Nat))]:=by
  intro n n1 n2
  refine ⟨rfl,2,⟨rfl,by decide,by decide⟩,?_⟩
  rintro _ ⟨z,rfl,z0,z1⟩
  refine ⟨sz2,rfl,(n,z),⟨rfl,n1,n2,by show z.natAbs<=2;omega⟩,?_⟩
  rintro _ ⟨P1,B1,rfl,y1,x1⟩
  have x1:P1.length=n+1:=x1
  have y1:Pc.Pz 39 1 P1 B1:=Pc.Pz.mono y1 (by show 3*n+3<=39;omega) (by decide)
  refine ⟨rfl,(3,2),⟨rfl,by decide,by decide,by decide,by decide⟩,?_⟩
  rintro _ ⟨P2,B2,rfl,y2,x2,t2⟩
  refine ⟨rfl,(3,2),⟨rfl,by decide,by decide,by decide,by decide⟩,?_⟩
  rintro _ ⟨P3,B3,rfl,y3,x3,t3⟩
  have q1:P1.length*P3.length<=13*2:=aU (by omega) (by omega)
  refine ⟨rfl,(P1,B1,P3,B3,39,1,8,4),⟨rfl,y1,y3,by omega,by omega,by omega,by omega,by omega⟩,?_⟩
  rintro _ ⟨R,C,rfl,o1⟩
  have lR:=Pc.Of.deg_eq y1.fm.pos y3.fm.pos o1 x1 x3 (by decide) (fm_top y1.fm x1) t3
  have zR:=o1.size y1 y3 (by omega)
  have zR':Pc.Pz 400 60 R C:=zR.mono (by omega) (by omega)
  have q2:P2.length*R.length<=2*13:=aU (by omega) (by omega)
  refine ⟨rfl,(P2,B2,R,C,8,4,400,60),⟨rfl,y2,zR',by omega,by omega,by omega,by omega,by omega⟩,?_⟩
  rintro _ ⟨T,U,rfl,o2⟩
  have lT:=Pc.Of.deg_eq y2.fm.pos o1.1.pos o2 x2 lR (by omega) t2 (fm_top o1.1 lR)
  exact hE _ ⟨T,U,_,_,_,_,_,_,_,rfl,o2.1,by omega,by omega⟩
 refine ⟨szN (n:=8) (by decide),rfl,8,⟨rfl,by decide,lt9 (by decide)⟩,?_⟩
 rintro _ ⟨i,rfl,i0,i1⟩
 rcases (by omega:i=0\/i=1\/i=2\/i=3\/i=4\/i=5\/i=6\/i=7) with rfl | rfl | rfl | rfl | rfl | rfl | rfl | rfl
 ·exact key 2 (by decide) (by decide)
 ·exact key 4 (by decide) (by decide)
 ·exact key 6 (by decide) (by decide)
 ·exact key 8 (by decide) (by decide)
 ·exact key 9 (by decide) (by decide)
 ·exact key 10 (by decide) (by decide)
 ·exact key 12 (by decide) (by decide)
 ·exact key 12 (by decide) (by decide)
def jo:SpB:=.of 1 (α:=Unit) (fun _ ds=>ds=[.fl]) (fun _ d=>∃ P B n,d=pD P B/\Pc.Pz 133 133 P B/\P.length=n+1/\1<=n/\n<=12)
def kM:TSd:=(g9 [] (gP 3))
def jc:TSd:=dSq (dIf [] (jM (lF (gS jB (gO (gP 3) gQ))))
 (g9 [] (gS g7 (gO (gT .Add (gT .Mult (ig (gO (dC (.int 0)) gQ)) (dC (.int 12))) (ig (gO (dC (.int 1)) gQ))) (gO (dC (.int 1)) gQ))))
 hV)
 kM
def kN:TSd:=dSq (dIf [] (gX (g8 .Eq (gP 1) (dC (.int 4))))
 (dSq (gU [] (gNm 10) (dIx (ig (gO (dC (.int 2)) (gO (dC (.int 4)) (gO (dC (.int 6)) (gO (dC (.int 8)) (gO (dC (.int 9)) (gO (dC (.int 10)) (gO (dC (.int 12)) (gO (dC (.int 12)) gQ))))))))) (gS gR (gO (gP 0) (gO (dC (.int 8)) gQ)))))
 (dSq (gU [] (gNm 3) (gS iA (gO (gP 10) (gO (gZ (gO (gS hJ (gO (gP 0) (gO (dC (.int 2)) gQ))) (gO (dC (.int 1)) gQ))) gQ))))
 (gU [] (gNm 3) (gS ic (gO (gS g6 (gO (gP 0) (gO (dC (.int 3)) gQ))) (gO (gS ic (gO (gP 3) (gO (gS g6 (gO (gP 0) (gO (dC (.int 3)) gQ))) gQ))) gQ))))))
 hV)
 jc
def kO:TSd:=dSq (dIf [] (gX (g8 .Eq (gP 1) (dC (.int 3))))
 (dSq (gU [] (gNm 9) (dIx (ig (gO (gZ (gO (dC (.int 2)) (gO (dC (.int 2)) (gO (dC (.int 2)) gQ)))) (gO (gZ (gO (dC (.int 2)) (gO (dC (.int 2)) (gO (dC (.int 3)) gQ)))) (gO (gZ (gO (dC (.int 2)) (gO (dC (.int 3)) (gO (dC (.int 2)) gQ)))) (gO (gZ (gO (dC (.int 3)) (gO (dC (.int 2)) (gO (dC (.int 2)) gQ)))) gQ))))) (gS gR (gO (gP 0) (gO (dC (.int 4)) gQ)))))
 (gU [] (gNm 3) (gS iu (gO (ia (il (gP 9)) [6] (gNm 6) iG (gS gY (gO (gP 0) (gO (gP 6) (gO (dC (.int 3)) gQ))))) gQ))))
 hV)
 kN
def kP:TSd:=dSq (dIf [] (jf (gX (g8 .Eq (gP 1) (dC (.int 1)))) (gX (g8 .Eq (gP 1) (dC (.int 2)))))
 (dSq (gU [] (gNm 7) (ig (gO (gZ (gO (dC (.int 2)) (gO (dC (.int 2)) gQ))) (gO (gZ (gO (dC (.int 2)) (gO (dC (.int 3)) gQ))) (gO (gZ (gO (dC (.int 3)) (gO (dC (.int 2)) gQ))) (gO (gZ (gO (dC (.int 4)) (gO (dC (.int 2)) gQ))) (gO (gZ (gO (dC (.int 2)) (gO (dC (.int 4)) gQ))) (gO (gZ (gO (dC (.int 3)) (gO (dC (.int 3)) gQ))) (gO (gZ (gO (dC (.int 3)) (gO (dC (.int 4)) gQ))) (gO (gZ (gO (dC (.int 4)) (gO (dC (.int 3)) gQ))) (gO (gZ (gO (dC (.int 6)) (gO (dC (.int 2)) gQ))) (gO (gZ (gO (dC (.int 2)) (gO (dC (.int 6)) gQ))) (gO (gZ (gO (dC (.int 5)) (gO (dC (.int 2)) gQ))) (gO (gZ (gO (dC (.int 2)) (gO (dC (.int 5)) gQ))) gQ))))))))))))))
 (dSq (gU [] (gTp [8,6]) (dIx (gP 7) (gS gR (gO (gP 0) (gO (dC (.int 12)) gQ)))))
 (gU [] (gNm 3) (gS ic (gO (gS gY (gO (gP 0) (gO (gP 8) (gO (gP 2) gQ)))) (gO (gS ir (gO (gP 0) (gO (gP 6) (gO (gP 2) gQ)))) gQ))))))
 hV)
 kO
def jd:TSd:=dSq (dIf [] (gX (g8 .Eq (gP 1) (dC (.int 0))))
 (dSq (gU [] (gNm 4) (gT .Add (dC (.int 1)) (gS gR (gO (gP 0) (gO (dIx (ig (gO (dC (.int 6)) (gO (dC (.int 12)) gQ))) (dB bInt bInt.mono (gO (g8 .Eq (gS gR (gO (gP 0) (gO (dC (.int 4)) gQ))) (dC (.int 0))) gQ))) gQ)))))
 (dSq (gU [] (gNm 3) (gS gY (gO (gP 0) (gO (gP 4) (gO (gP 2) gQ)))))
 (dIf [] (ja (gX (g8 .Eq (gS gR (gO (gP 0) (gO (dC (.int 3)) gQ))) (dC (.int 0)))) (gX (g8 .Lt (gP 4) (dC (.int 5)))))
 (dSq (gU [] (gNm 5) (ia (jC (gP 4)) [6] (gNm 6) iG (gS hJ (gO (gP 0) (gO (gT .Pow (dC (.int 10)) (dC (.int 39))) gQ)))))
 (gU [] (gNm 3) (gS iD (gO (gP 3) (gO (gS g7 (gO (gP 5) (gO (dC (.int 1)) gQ))) gQ)))))
 hV)))
 hV)
 kP
def je:TSd:=dSq (gU [] (gNm 3) (gZ (gO (gZ (gO (dC (.int 0)) (gO (dC (.int 1)) gQ))) (gO (dC (.int 1)) gQ))))
 jd
def kQ:TSd:=dSq (gU [] (gNm 2) (dIx (ig (gO (dC (.int 3)) (gO (dC (.int 9)) (gO (dC (.int 99)) gQ)))) (gS gR (gO (gP 0) (gO (dC (.int 3)) gQ)))))
 je
def mJ:TSd:=dSq (gU [] (gNm 1) (gS gR (gO (gP 0) (gO (dC (.int 5)) gQ))))
 kQ
theorem go28_8 {e m:Int} {Q:D->Prop} (q:∀ d,(∃ P B n,d=pD P B/\Pc.Pz 133 133 P B/\P.length=n+1/\1<=n/\n<=12)->Q d):∀ s,dS e m s->jc.run (endQ Q) s:=by
 intro s hs
 obtain ⟨P,B,o4,o5,o6,o7,o8,o9,o10,rfl,fm,l1,l2⟩:=hs
 refine ⟨rfl,(P,B),⟨rfl,fm.pos,by show P.length<=1000;omega⟩,?_⟩
 rintro _ ⟨c,rfl,hc⟩
 cases c with
 | true=>exact q _ ⟨P,B,P.length-1,rfl,⟨fm,(hc rfl).2,(hc rfl).1⟩,by omega,by omega,by omega⟩
 | false =>
  refine ⟨sz1,by decide,by decide,szN (by decide),sz1,szN (by decide),rfl,([0,0,0,0,0,0,0,0,0,0,0,0,1],1),⟨.inl rfl,by decide,lt9 (by decide),by decide⟩,?_⟩
  rintro _ ⟨R,C,rfl,fR,wR,lR⟩
  obtain ⟨rfl,rfl⟩:R=[0,0,0,0,0,0,0,0,0,0,0,0,1]/\C=1:=Po.uniq fR ⟨by decide,.inr (by decide),by decide⟩ wR
  refine q _ ⟨_,_,12,rfl,Pc.Pz.of fR (c:=1) (f:=fun k=>([0,0,0,0,0,0,0,0,0,0,0,0,1]:List Int).getD k 0) (by decide) (fun _=>rfl) (fun k=>?_) (by decide),rfl,by decide,by decide⟩
  rcases am k 13 with x | x
  ·have:∀ k,k<13->Lt2 1 (([0,0,0,0,0,0,0,0,0,0,0,0,1]:List Int).getD k 0):=by unfold Lt2;decide
   exact (this k x).mono (by decide)
  ·show Lt2 133 (([0,0,0,0,0,0,0,0,0,0,0,0,1]:List Int).getD k 0)
   rw [getD_out (by simpa using x)]
   exact zlt _
theorem go28_3 {e m:Int} (m0:3<=m) (m9:m<=99) {Q:D->Prop} (q:∀ d,(∃ P B n,d=pD P B/\Pc.Pz 133 133 P B/\P.length=n+1/\1<=n/\n<=12)->Q d):∀ s,dS e m s->jd.run (endQ Q) s:=by
 intro s hs
 refine dSq.cut (dS e m) ?_ fun s hs=>dSq.cut (dS e m) ?_ fun s hs=>dSq.cut (dS e m) ?_ fun s hs=>dSq.cut (dS e m) ?_ (go28_8 q)
 ·have h:=hs
  obtain ⟨P,B,o4,o5,o6,o7,o8,o9,o10,rfl,_⟩:=hs
  exact ifP (p:=e=0) (fun _=>d28_0 (fun _ q=>q) h m0 m9) (fun _=>h)
 ·have h:=hs
  obtain ⟨P,B,o4,o5,o6,o7,o8,o9,o10,rfl,_⟩:=hs
  exact ifP (p:=e=1) (fun _=>d28_1 (fun _ q=>q) h m0 m9) (fun _=>ifP (p:=e=2) (fun _=>d28_1 (fun _ q=>q) h m0 m9) (fun _=>h))
 ·have h:=hs
  obtain ⟨P,B,o4,o5,o6,o7,o8,o9,o10,rfl,_⟩:=hs
  exact ifP (p:=e=3) (fun _=>d28_3 (fun _ q=>q) h) (fun _=>h)
 ·have h:=hs
  obtain ⟨P,B,o4,o5,o6,o7,o8,o9,o10,rfl,_⟩:=hs
  exact ifP (p:=e=4) (fun _=>d28_4 (fun _ q=>q) h) (fun _=>h)
theorem go28_2 {e m:Int} (m0:3<=m) (m9:m<=99) {Q:D->Prop} (q:∀ d,(∃ P B n,d=pD P B/\Pc.Pz 133 133 P B/\P.length=n+1/\1<=n/\n<=12)->Q d):je.run (endQ Q) [.val .fl,.val (.int e),.val (.int m),.no,.no,.no,.no,.no,.no,.no,.no]:=by
 have h0:dS e m [.val .fl,.val (.int e),.val (.int m),.val (pD Pc.X 1),.no,.no,.no,.no,.no,.no,.no]:=⟨Pc.X,1,_,_,_,_,_,_,_,rfl,Pc.X_fm,by decide,by decide⟩
 exact ⟨sz2,sz2,go28_3 m0 m9 q _ h0⟩
theorem head28 {T:TSd} {Q:D->Prop} (h:∀ e m:Int,3<=m->m<=99->T.run (endQ Q) [.val .fl,.val (.int e),.val (.int m),.no,.no,.no,.no,.no,.no,.no,.no]) :
  (dSq (gU [] (gNm 1) (gS gR (gO (gP 0) (gO (dC (.int 5)) gQ)))) (dSq (gU [] (gNm 2) (dIx (ig (gO (dC (.int 3)) (gO (dC (.int 9)) (gO (dC (.int 99)) gQ)))) (gS gR (gO (gP 0) (gO (dC (.int 3)) gQ))))) T)).run (endQ Q) (startD 11 [.fl]):=by
 refine ⟨rfl,5,⟨rfl,by decide,lt9 (by decide)⟩,?_⟩
 rintro _ ⟨e,rfl,e0,e1⟩
 refine ⟨szN (n:=3) (by decide),rfl,3,⟨rfl,by decide,lt9 (by decide)⟩,?_⟩
 rintro _ ⟨i,rfl,i0,i1⟩
 exact pick3 i0 i1 (h e 3 (by decide) (by decide)) (h e 9 (by decide) (by decide)) (h e 99 (by decide) (by decide))
theorem kb:Does 11 mJ jo:=by
 rintro ds Q hn ⟨_,rfl,q⟩
 exact head28 fun e m m0 m9=>go28_2 m0 m9 q
end Dp
namespace Dp
open PySem L2
def jp:SpB:=.of 2 (α:=Int×Int) (fun x ds=>ds=[.int x.1,.int x.2]/\x.2≠0/\Lt2 9000000 x.2) (fun x d=>d=fD (Fr.top x.1 x.2) (Fr.bot x.1 x.2))
def ng:TSd:=(g9 [] (gZ (gO (gT .FloorDiv (gP 0) (gP 2)) (gO (gT .FloorDiv (gP 1) (gP 2)) gQ))))
def nh:TSd:=dSq (dIf [] (gX (g8 .Lt (gP 1) (dC (.int 0))))
 (gU [] (gNm 2) (kB (gP 2)))
 hV)
 ng
def oz:TSd:=dSq (gU [] (gNm 2) (gS iq (gO (gP 0) (gO (gP 1) gQ))))
 nh
theorem mK:Does 3 oz jp:=by
 rintro ds Q hn ⟨⟨a,b⟩,⟨rfl,h0,hl⟩,q⟩
 refine ⟨rfl,(a,b),rfl,?_⟩
 rintro _ rfl
 have fin:∀ p:Int,p=Fr.part a b->CDivB a p/\CDivB b p/\2<=sizeLine/\Q (.tup [.int (a.fdiv p),.int (b.fdiv p)]):=by
  rintro p rfl
  have c:∀ x,CDivB x (Fr.part a b):=fun x=>⟨Fr.part_ne h0,9000000,hl.le (Fr.part_le h0),by decide⟩
  exact ⟨c _,c _,sz2,q _ rfl⟩
 refine ifP (p:=b<0) (fun c=>?_) (fun c=>?_)
 ·exact fin _ (by unfold Fr.part;rw [if_pos c])
 ·exact fin _ (by unfold Fr.part;rw [if_neg c])
theorem FqD.ofN {t u:Int} {n b:Nat} (u0:u≠0) (lt:Lt2 n t) (lu:Lt2 b u):FqD n b (fD (Fr.top t u) (Fr.bot t u)) ((t:Rat) / (u:Rat)):=by
 obtain ⟨l1,l2,l3⟩:=Fr.low (t:=t) (b:=u) u0
 obtain ⟨m1,m2⟩:=Fr.top_le (t:=t) (b:=u) u0
 exact ⟨_,_,rfl,l1,l3,lt.le m1,lu.le m2,(Qp.div_eq u0 (by omega)).mpr l2.symm⟩
def me:SpB:=.of 2 (α:=D×D×Rat×Rat×Nat×Nat×Nat×Nat) (fun (d1,d2,r1,r2,n1,b1,n2,b2) ds=>ds=[d1,d2]/\FqD n1 b1 d1 r1/\FqD n2 b2 d2 r2/\r2≠0/\b1+n2<=9000000/\n1+b2<=1000000)
 (fun (d1,d2,r1,r2,n1,b1,n2,b2) d=>FqD (n1+b2) (b1+n2) d (r1 / r2))
def oU:TSd:=(g9 [] (gS jp (gO (gT .Mult (dIx (gP 0) (dC (.int 0))) (dIx (gP 1) (dC (.int 1)))) (gO (gT .Mult (dIx (gP 0) (dC (.int 1))) (dIx (gP 1) (dC (.int 0)))) gQ))))
theorem ni:Does 2 oU me:=by
 rintro ds Q hn ⟨⟨d1,d2,r1,r2,n1,b1,n2,b2⟩,⟨rfl,f1,f2,z2,hb,hn⟩,q⟩
 dsimp only at f1 f2 z2 hb hn q
 obtain ⟨t1,u1,rfl,p1,g1,lt1,lu1,e1⟩:=f1
 obtain ⟨t2,u2,rfl,p2,g2,lt2,lu2,e2⟩:=f2
 have t20:t2≠0:=(Fq.ne (p:=0) p2 e2).mp z2
 refine ⟨⟨_,_,lt1,lu2,by omega⟩,⟨_,_,lu1,lt2,by omega⟩,rfl,(t1*u2,u1*t2),⟨rfl,bA (by omega) t20,(lu1.mul lt2).mono (by omega)⟩,?_⟩
 rintro _ rfl
 have:=FqD.ofN (t:=t1*u2) (u:=u1*t2) (bA (by omega) t20) (lt1.mul lu2) (lu1.mul lt2)
 refine q _ ?_
 rw [e1,e2]
 have e:((t1*u2:Int):Rat) / ((u1*t2:Int):Rat)=(t1:Rat) / (u1:Rat) / ((t2:Rat) / (u2:Rat)):=by
  have h1:(u1:Rat)≠0:=by exact_mod_cast aw p1
  have h2:(u2:Rat)≠0:=by exact_mod_cast aw p2
  have h3:(t2:Rat)≠0:=by exact_mod_cast t20
  rw [aF,aF]
  grind
 rw [← e]
 exact this
def iN:SpB:=.of 2 (α:=List Int×Int×Nat×Nat×Nat) (fun (P,B,k,n,b) ds=>ds=[pD P B,.int k]/\Pc.Pz n b P B/\b<=9000000) (fun (P,B,k,n,b) d=>FqD n b d (Qp.q P B k))
def kR:TSd:=(g9 [] (gZ (gO (dC (.int 0)) (gO (dC (.int 1)) gQ))))
def kS:TSd:=dSq (dIf [] (gX (i4 .LtE .Lt (dC (.int 0)) (gP 1) (dB bLen bLen.mono (gO (gP 2) gQ))))
 (g9 [] (gS jp (gO (dIx (gP 2) (gP 1)) (gO (gP 3) gQ))))
 hV)
 kR
def mL:TSd:=dSq (gU [] (gTp [2,3]) (gP 0))
 kS
theorem kc:Does 4 mL iN:=by
 rintro ds Q hn ⟨⟨P,B,k,n,b⟩,⟨rfl,z1,hb⟩,q⟩
 dsimp only at z1 hb q
 have p1:=z1.fm.pos
 have out:P.length<=k->FqD n b (fD 0 1) (Qp.q P B k):=fun c=>by
  rw [Qp.q_out c]
  have:=fq_int (n:=n) (t:=0) (zlt _)
  refine this.mono (aj _) ?_
  cases b with
  | zero =>
   have:B.natAbs<1:=z1.bot
   omega
  | succ b=>omega
 refine ⟨rfl,?_⟩
 refine ifP (p:=((k:Nat):Int)<((P.map D.int).length:Nat)) (fun c=>?_) (fun c=>?_)
 ·rw [ab] at c
  refine itD_nat (at_int (by omega)) ⟨rfl,(P.getD k 0,B),⟨rfl,by show B≠0;omega,z1.bot.mono hb⟩,?_⟩
  rintro _ rfl
  exact q _ (FqD.of p1 (z1.tops k) z1.bot)
 ·rw [ab] at c
  exact ⟨sz2,q _ (out (by omega))⟩
def oJ:SpB:=.of 1 (α:=List Int×Int×Nat×Nat×Nat) (fun (P,B,k,n,b) ds=>ds=[pD P B]/\P.length=k+1/\Pc.Pz n b P B/\b<=9000000) (fun (P,B,k,n,b) d=>FqD n b d (Qp.q P B k))
def p8:TSd:=(g9 [] (gS iN (gO (gP 0) (gO (gS iE (gO (gP 0) gQ)) gQ))))
theorem oW:Does 1 p8 oJ:=by
 rintro ds Q hn ⟨⟨P,B,k,n,b⟩,⟨rfl,l,z1,hb⟩,q⟩
 dsimp only at l z1 hb q
 refine ⟨rfl,(P,B),rfl,?_⟩
 rintro _ rfl
 refine ⟨rfl,(P,B,k,n,b),⟨?_,z1,hb⟩,q⟩
 show [pD P B,.int ((P.length:Int)-1)]=[pD P B,.int (k:Int)]
 rw [l,show ((k+1:Nat):Int)-1=(k:Int) by omega]
end Dp
namespace Dp
open PySem L2
theorem cp_pos {a b:Int} (h:a≠0):0<Fr.cp a b:=by
 unfold Fr.cp
 have:0<Int.gcd a b:=Int.gcd_pos_of_ne_zero_left b h
 omega
theorem cp_dvd (a b:Int):Fr.cp a b∣a/\Fr.cp a b∣b:=by
 unfold Fr.cp
 exact ⟨Int.gcd_dvd_left ..,gN ..⟩
theorem fdiv_of_dvd {b c:Int} (hc:0<c) (hb:0<b) (d:c∣b):b=c*b.fdiv c/\0<b.fdiv c/\(b.fdiv c).natAbs<=b.natAbs:=by
 obtain ⟨q,rfl⟩:=d
 rw [cy _ (by omega)]
 have q0:0<q:=by
  rcases dA q 0 with z | z | z
  ·have:=dm hc z;omega
  ·rw [z,bN] at hb;omega
  ·exact z
 refine ⟨rfl,q0,?_⟩
 rw [aJ]
 exact aN _ (by omega)
theorem dvd_next {m x:Int} (h:0<m):m∣x*m.fdiv (Fr.cp m x):=by
 have g0:=cp_pos (a:=m) (b:=x) (by omega)
 obtain ⟨g1,y,hy⟩:=cp_dvd m x
 obtain ⟨e,_,_⟩:=fdiv_of_dvd g0 h g1
 generalize m.fdiv (Fr.cp m x)=q at *
 generalize Fr.cp m x=g at *
 refine ⟨y,?_⟩
 rw [hy,e]
 grind
end Dp
namespace Dp
open PySem L2
def up1 (W:Nat->Int) (v:Nat) (c:Int):Nat->Int:=fun j=>W j+(if v<=j then c*Pc.d0 (j-v) else 0)
theorem up1_at {W:Nat->Int} {v:Nat} {c:Int} (h:W v=0):up1 W v c v=c:=by
 unfold up1 Pc.d0
 rw [h,if_pos (aj _),if_pos (bM _)]
 omega
theorem up1_ne {W:Nat->Int} {v j:Nat} {c:Int} (h:j≠v):up1 W v c j=W j:=by
 unfold up1 Pc.d0
 by_cases z:v<=j
 ·rw [if_pos z,if_neg (by omega)]
  omega
 ·rw [if_neg z]
  omega
theorem cv_up1 (W g:Nat->Int) (v:Nat) (c:Int) (k:Nat):Cv.cv (up1 W v c) g k=Cv.cv W g k+(if v<=k then c*g (k-v) else 0):=by
 unfold up1
 rw [Pc.cv_add_l,Pc.cv_shift,Pc.cv_d0]
def oA:TSd:=(g9 [2,4] (gZ (gO (oo (gP 4)) (gO (gP 2) gQ))))
def jH:TSd:=dSq (iM (gX (g8 .Gt (kr 2) (gP 3)))
 (dSq (nK 5 2)
 (dSq (mX [] 4 (gP 5))
 (iC [] (jC (gP 3)) (gNm 6)
 (ky [] 2 (gT .Add (gT .Sub (kr 2) (gP 3)) (gP 6)) .Sub (gT .Mult (gP 5) (dIx (gP 1) (gP 6))))))))
 oA
def oB:TSd:=dSq (j5 [] 4 (ig gQ))
 jH
def pF:TSd:=dSq (nL [] 2 3 (i5 (gP 0)) (gT .Sub (dB bLen bLen.mono (gO (gP 1) gQ)) (dC (.int 1))))
 oB
theorem drop_at {l:List Int} {k:Nat} (h:k<l.length-1):l.dropLast.getD k 0=l.getD k 0:=by
 rw [ac,ac,dR,d8,if_pos h]
theorem set_at {l:List Int} {j k:Nat} {z:Int} (h:j<l.length):(l.set j z).getD k 0=if k=j then z else l.getD k 0:=by
 rw [ac,ac,aK]
 by_cases c:j=k
 ·subst c
  rw [if_pos rfl,if_pos h,if_pos rfl]
  rfl
 ·rw [if_neg c,if_neg (Ne.symm c)]
theorem at_some {l:List D} {n:Nat} {d:D} {F:D->Prop} (h:l[n]? = some d) (q:F d):(match l[n]? with | some x=>F x | none=>False):=by
 rw [h]
 exact q
end Dp
namespace Dg
open Cv
theorem cvs (f g:Nat->Int) (e:Int) (k:Nat):cv f g k*e=sm (fun j=>f j*g (k-j)*e) (k+1):=(sm_mul _ _ _).symm
theorem turn {c ov un B U Gs C:Int} {s n t:Nat} {G b R L:Nat->Int} (hb:∀ j,j<=s->b j*Gs=G j*c^(s-j)) (hG:∀ j,s<j->G j=0) (hb0:∀ j,s<j->b j=0) (hl:Gs*ov=un*U) (u0:0<un) (ht:s*(t+1)<=n)
  (hR:∀ k,R k*(B*un^(t+1)*c^(n-s*(t+1)))=L k*c^k*ov^(t+1)*C) (k:Nat):cv R G k*(B*un^t*c^(n-s*t))=cv L b k*(c^k*ov^t*(C*U)):=by
 have st:s*(t+1)=s*t+s:=bE s t
 have ec:c^(n-s*t)=c^(n-s*(t+1))*c^s:=by
  rw [← cB]
  congr 1
  omega
 have key:cv R G k*(B*un^(t+1)*c^(n-s*(t+1))*c^s)=cv L b k*(c^k*ov^(t+1)*C*Gs):=by
  rw [cvs,cvs]
  refine sm_congr fun j hj=>?_
  rcases am s (k-j) with z | z
  ·rw [hG _ z,hb0 _ z]
   simp
  ·have e1:=hR j
   have e2:=hb (k-j) z
   have e3:c^s=c^(s-(k-j))*c^(k-j):=by
    rw [← cB]
    congr 1
    omega
   have e4:c^k=c^j*c^(k-j):=by
    rw [← cB]
    congr 1
    omega
   rw [e3,e4]
   generalize c^(s-(k-j))=x at *
   generalize c^(k-j)=y at *
   generalize B*un^(t+1)*c^(n-s*(t+1))=w at *
   generalize ov^(t+1)=v at *
   generalize c^j=cj at *
   calc R j*G (k-j)*(w*(x*y))=(R j*w)*(G (k-j)*x)*y:=by grind
    _=L j*b (k-j)*(cj*y*v*C*Gs):=by rw [e1,← e2];grind
 refine aH (aw u0) ?_
 calc cv R G k*(B*un^t*c^(n-s*t))*un=cv R G k*(B*un^(t+1)*c^(n-s*(t+1))*c^s):=by rw [ec,bf];grind
  _=cv L b k*(c^k*ov^(t+1)*C*Gs):=key
  _=cv L b k*(c^k*ov^t*(C*U))*un:=by
   rw [bf]
   have:cv L b k*(c^k*(ov^t*ov)*C*Gs)=cv L b k*(c^k*ov^t*C)*(Gs*ov):=by grind
   rw [this,hl]
   grind
theorem turn2 {E C U p2 X Y w:Int} (h:X*E=Y*(w*(C*U))) {p D:Int} (hp:p*E=D*w*p2):(X*p2+p*(C*U))*E=(D+Y)*w*(C*U*p2):=by
 calc (X*p2+p*(C*U))*E=(X*E)*p2+(p*E)*(C*U):=by grind
  _=(D+Y)*w*(C*U*p2):=by rw [h,hp];grind
end Dg
namespace Dp
open PySem L2
theorem pw_lt {z:Int} {M:Nat} (h:Lt2 M z) {k m:Nat} (hk:k<=m):Lt2 (M*m+1) (z^k):=(Hv.pow_lt h k).mono (gm (ah _ hk) 1)
end Dp
namespace Dp
open PySem L2
theorem enum_len (ts:List Int):(enumD (ts.map D.int)).length=ts.length:=by simp [enumD]
end Dp
namespace Dp
open PySem L2
theorem bot_next {b r:Int} (hb:0<b) (hr:0<r):0<b*r.fdiv (Fr.cp b r)/\r∣b*r.fdiv (Fr.cp b r):=by
 have g0:=cp_pos (a:=b) (b:=r) (by omega)
 obtain ⟨g1,g2⟩:=cp_dvd b r
 obtain ⟨e,q0,_⟩:=fdiv_of_dvd g0 hr g2
 refine ⟨ax hb q0,?_⟩
 obtain ⟨c,hc⟩:=g1
 refine ⟨c,?_⟩
 generalize r.fdiv (Fr.cp b r)=q at *
 generalize Fr.cp b r=g at *
 subst hc e
 grind
abbrev fs2 (fs:List (Int×Int)):List D:=fs.map fun f=>fD f.1 f.2
theorem at_frac {fs:List (Int×Int)} {i:Nat} {d:D} (h:(fs2 fs)[i]? = some d):∃ f,fs[i]? = some f/\d=fD f.1 f.2:=by
 rw [aG] at h
 obtain ⟨p,hp,rfl⟩:=aa.mp h
 exact ⟨p,hp,rfl⟩
end Dp
namespace Dp
open PySem L2
def Sq (x:D) (A:List Int):Prop:=x = .lst (A.map .int)\/x = .tup (A.map .int)
theorem Sq.it {x:D} {A:List Int} (h:Sq x A):∀ R:List D->Prop,R (A.map .int)->itemsD x R:=fun R r=>by
 rcases h with rfl | rfl
 ·exact r
 ·exact r
def iY:SpB:=.of 2 (α:=D×D×List Int×List Int) (fun (x,y,A,B) ds=>ds=[x,y]/\Sq x A/\Sq y B/\A.length<=1000/\B.length<=1000)
 (fun (x,y,A,B) d=>∃ rs:List Int,d = .lst (rs.map .int)/\rs.length=max A.length B.length/\∀ k,rs.getD k 0=A.getD k 0+B.getD k 0)
def jW:TSd:=(g9 [4] (gP 4))
def jX:TSd:=dSq (iC [] (iF (gP 3)) (gTp [5,6])
 (ky [] 4 (gP 5) .Add (gP 6)))
 jW
def hX:TSd:=dSq (j5 [] 4 (i5 (gP 2)))
 jX
def kT:TSd:=dSq (gU [] (gTp [2,3]) (oO (gX (g8 .GtE (dB bLen bLen.mono (gO (gP 0) gQ)) (dB bLen bLen.mono (gO (gP 1) gQ)))) (gZ (gO (gP 0) (gO (gP 1) gQ))) (gZ (gO (gP 1) (gO (gP 0) gQ)))))
 hX
theorem tt_go {s0 s1:SD} {x y:D} {L S:List Int} {Q:D->Prop} (hx:Sq x L) (hy:Sq y S) (hl:S.length<=L.length) (q:∀ rs:List Int,rs.length=L.length->(∀ k,rs.getD k 0=L.getD k 0+S.getD k 0)->Q (.lst (rs.map .int))) :
  hX.run (endQ Q) [s0,s1,.val x,.val y,.no,.no,.no]:=by
 refine hx.it _ (hy.it _ ⟨fun i s=>∃ (o5 o6:SD) (rs:List Int),s=[s0,s1,.val x,.val y,.own (rs.map .int),o5,o6]/\rs.length=L.length/\∀ k,rs.getD k 0=L.getD k 0+(if k<i then S.getD k 0 else 0),⟨.no,.no,L,rfl,rfl,fun k=>by rw [if_neg (by omega),bS]⟩,?_,?_⟩)
 ·rintro i d _ hd ⟨o5,o6,rs,rfl,lr,hr⟩
  obtain ⟨hi,rfl⟩:=enum_at hd
  refine ⟨rfl,by show (0:Int)<=((i:Nat):Int);omega,?_⟩
  refine at_some (d:=.int (rs.getD i 0)) (at_int (ts:=rs) (i:=i) (by omega)) ⟨.val (.int (i:Nat)),.val (.int (S.getD i 0)),rs.set i (rs.getD i 0+S.getD i 0),?_,by rw [aX,lr],fun k=>?_⟩
  ·show [s0,s1,.val x,.val y,.own ((rs.map D.int).set i (.int (rs.getD i 0+S.getD i 0))),.val (.int (i:Nat)),.val (.int (S.getD i 0))]=_
   rw [map_set]
  ·rw [set_at (by omega)]
   by_cases e:k=i
   ·rw [if_pos e,e,hr i,if_neg (by omega),if_pos (by omega)]
    omega
   ·rw [if_neg e,hr k]
    by_cases c:k<i
    ·rw [if_pos c,if_pos (by omega)]
    ·rw [if_neg c,if_neg (by omega)]
 ·rintro _ ⟨o5,o6,rs,rfl,lr,hr⟩
  refine q rs lr fun k=>?_
  have h:=hr k
  rw [enum_len] at h
  rw [h]
  by_cases c:k<S.length
  ·rw [if_pos c]
  ·rw [if_neg c,getD_out (fs:=S) (by omega)]
theorem jI:Does 7 kT iY:=by
 rintro ds Q hn ⟨⟨x,y,A,B⟩,⟨rfl,hx,hy,la,lb⟩,q⟩
 dsimp only at hx hy la lb q
 have g1:B.length<=A.length->hX.run (endQ Q) [.val x,.val y,.val x,.val y,.no,.no,.no]:=fun c=>tt_go hx hy c fun rs lr hr=>q _ ⟨rs,rfl,by rw [lr];omega,hr⟩
 have g2:A.length<=B.length->hX.run (endQ Q) [.val x,.val y,.val y,.val x,.no,.no,.no]:=fun c=>tt_go hy hx c fun rs lr hr=>q _ ⟨rs,rfl,by rw [lr];omega,fun k=>by rw [hr k];omega⟩
 have key:(if decide ((((B.map D.int).length:Nat):Int)<=(((A.map D.int).length:Nat):Int))=true then (2<=sizeLine/\2=2/\hX.run (endQ Q) [.val x,.val y,.val x,.val y,.no,.no,.no]) else (2<=sizeLine/\2=2/\hX.run (endQ Q) [.val x,.val y,.val y,.val x,.no,.no,.no])):=by
  refine ifP (fun c=>⟨sz2,rfl,g1 ?_⟩) (fun c=>⟨sz2,rfl,g2 ?_⟩)
  ·rw [ab,ab] at c
   omega
  ·rw [ab,ab] at c
   omega
 rcases hx with rfl | rfl <;> rcases hy with rfl | rfl <;> exact key
def iO:SpB:=.of 2 (α:=D×D×List Int×List Int×Nat×Nat) (fun (x,y,A,B,n,m) ds=>ds=[x,y]/\Sq x A/\Sq y B/\A.length<=450/\B.length<=450/\(∀ i,Lt2 n (A.getD i 0))/\(∀ i,Lt2 m (B.getD i 0))/\n+m<=100000000)
 (fun (x,y,A,B,n,m) d=>∃ rs:List Int,d = .lst (rs.map .int)/\rs.length<=A.length+B.length/\∀ k,rs.getD k 0=Cv.cv (Cv.fn A) (Cv.fn B) k)
def jv:TSd:=(g9 [2] (gP 2))
def ix:TSd:=dSq (iC [] (iF (gP 0)) (gTp [3,4])
 (iC [] (iF (gP 1)) (gTp [5,6])
 (ky [] 2 (gT .Add (gP 3) (gP 5)) .Add (gT .Mult (gP 4) (gP 6)))))
 jv
def jw:TSd:=dSq (j5 [] 2 (gT .Mult (ig (gO (dC (.int 0)) gQ)) (gT .Sub (gT .Add (dB bLen bLen.mono (gO (gP 0) gQ)) (dB bLen bLen.mono (gO (gP 1) gQ))) (dC (.int 1)))))
 ix
def jY:TSd:=dSq (dIf [] (jf (jM (lF (gP 0))) (jM (lF (gP 1))))
 (g9 [] (ig gQ))
 hV)
 jw
theorem tm_go {x y:D} {A B:List Int} {n m:Nat} {Q:D->Prop} (hx:Sq x A) (hy:Sq y B) (a0:0<A.length) (b0:0<B.length) (hA:∀ i,Lt2 n (A.getD i 0)) (hB:∀ i,Lt2 m (B.getD i 0)) (hnm:n+m<=100000000) (q:∀ rs:List Int,rs.length<=A.length+B.length->(∀ k,rs.getD k 0=Cv.cv (Cv.fn A) (Cv.fn B) k)->Q (.lst (rs.map .int))) :
  ix.run (endQ Q) [.val x,.val y,.own ((List.replicate (A.length+B.length-1) (0:Int)).map .int),.no,.no,.no,.no]:=by
 refine hx.it _ ⟨fun i s=>∃ (rs:List Int) (o3 o4 o5 o6:SD),s=[.val x,.val y,.own (rs.map .int),o3,o4,o5,o6]/\rs.length=A.length+B.length-1/\∀ k,rs.getD k 0=Cv.tm (Cv.fn A) (Cv.fn B) i k,⟨_,_,_,_,_,rfl,ce,fun k=>rep_getD _ _⟩,?_,?_⟩
 ·rintro i d _ hd ⟨rs,o3,o4,o5,o6,rfl,lr,hr⟩
  obtain ⟨hi,rfl⟩:=enum_at hd
  refine ⟨rfl,hy.it _ ⟨fun k s=>∃ (rs:List Int) (o5 o6:SD),s=[.val x,.val y,.own (rs.map .int),.val (.int (i:Nat)),.val (.int (A.getD i 0)),o5,o6]/\rs.length=A.length+B.length-1/\∀ m,rs.getD m 0=Cv.tm (Cv.fn A) (Cv.fn B) i m+(if i<=m/\m-i<k then Cv.fn A i*Cv.fn B (m-i) else 0),⟨rs,_,_,rfl,lr,fun m=>by rw [hr m,if_neg (by omega),bS]⟩,?_,?_⟩⟩
  ·rintro k d _ hd ⟨rs',o5',o6',rfl,lr',hr4⟩
   obtain ⟨hk,rfl⟩:=enum_at hd
   have hiF:i+k<rs'.length:=by omega
   refine ⟨rfl,by show (0:Int)<=(i:Int)+(k:Int);omega,?_⟩
   refine at_some (d:=.int (rs'.getD (i+k) 0)) (at_int (ts:=rs') (i:=i+k) hiF) ⟨⟨n,m,hA i,hB k,hnm⟩,rs'.set (i+k) (rs'.getD (i+k) 0+A.getD i 0*B.getD k 0),.val (.int (k:Nat)),.val (.int (B.getD k 0)),?_,by rw [aX];exact lr',fun m=>?_⟩
   ·show [SD.val x,.val y,.own ((rs'.map D.int).set (i+k) (.int (rs'.getD (i+k) 0+A.getD i 0*B.getD k 0))),.val (.int (i:Nat)),.val (.int (A.getD i 0)),.val (.int (k:Nat)),.val (.int (B.getD k 0))]=_
    rw [map_set]
   ·rw [set_getD hiF]
    by_cases e:m=i+k
    ·subst e
     rw [if_pos rfl,hr4,if_neg (by omega),if_pos ⟨by omega,by omega⟩,show i+k-i=k by omega,bS]
     rfl
    ·rw [if_neg e,hr4]
     congr 1
     by_cases c:i<=m/\m-i<k
     ·rw [if_pos c,if_pos ⟨c.1,by omega⟩]
     ·rw [if_neg c,if_neg (by omega)]
  ·rintro _ ⟨rs',o5',o6',rfl,lr',hr4⟩
   rw [enumD_len,ab] at hr4
   refine ⟨rs',_,_,_,_,rfl,lr',fun m=>?_⟩
   rw [hr4 m,Cv.tm_succ]
   congr 1
   by_cases c:i<=m
   ·rw [if_pos c]
    by_cases c':m-i<B.length
    ·rw [if_pos ⟨c,c'⟩]
    ·rw [if_neg (fun z=>c' z.2),Cv.fn_out (P:=B) (by omega),bN]
   ·rw [if_neg c,if_neg (fun z=>c z.1)]
 ·rintro _ ⟨rs,o3,o4,o5,o6,rfl,lr,hr⟩
  rw [enumD_len,ab] at hr
  exact q rs (by omega) fun k=>by rw [hr k,Cv.tm_cv fun j h=>Cv.fn_out h]
theorem jq:Does 7 jY iO:=by
 rintro ds Q hn ⟨⟨x,y,A,B,n,m⟩,⟨rfl,hx,hy,la,lb,hA,hB,hnm⟩,q⟩
 dsimp only at hx hy la lb hA hB hnm q
 have none:(A=[]\/B=[])->0<=sizeLine/\Q (.lst []):=fun h=>⟨aC _,q _ ⟨[],rfl,aC _,fun k=>by
  rcases h with rfl | rfl
  ·exact (Cv.cv_zl fun _=>rfl).symm
  ·exact (Cv.cv_zr fun _=>rfl).symm⟩⟩
 cases A with
 | nil=>rcases hx with rfl | rfl <;> exact none (.inl rfl)
 | cons a A =>
  cases B with
  | nil=>rcases hx with rfl | rfl <;> rcases hy with rfl | rfl <;> exact none (.inr rfl)
  | cons b B =>
   have go:=tm_go (Q:=Q) hx hy (eu _) (eu _) hA hB hnm fun rs lr hr=>q _ ⟨rs,rfl,lr,hr⟩
   have e0:((((a::A).map D.int).length:Nat):Int)+((((b::B).map D.int).length:Nat):Int)-1=(((a::A).length+(b::B).length-1:Nat):Int):=by
    rw [ab,ab,aQ,aQ]
    omega
   have lN:(a::A).length+(b::B).length-1<=1000:=by omega
   have key:1<=sizeLine /\ -(2^63)<=((((a::A).map D.int).length:Nat):Int)+((((b::B).map D.int).length:Nat):Int)-1/\((((a::A).map D.int).length:Nat):Int)+((((b::B).map D.int).length:Nat):Int)-1<2^63/\1*(((((a::A).map D.int).length:Nat):Int)+((((b::B).map D.int).length:Nat):Int)-1).toNat<=sizeLine /\
     ix.run (endQ Q) [.val x,.val y,.own (List.replicate (((((a::A).map D.int).length:Nat):Int)+((((b::B).map D.int).length:Nat):Int)-1).toNat [D.int 0]).flatten,.no,.no,.no,.no]:=by
    rw [e0,bo,rep_ints]
    generalize (a::A).length+(b::B).length-1=z at *
    exact ⟨sz1,by omega,by omega,szN (by omega),go⟩
   rcases hx with rfl | rfl <;> rcases hy with rfl | rfl <;> exact key
end Dp
namespace Dp
open PySem L2
theorem map_at {A:List Int} {c:Int} (k:Nat):(A.map fun z=>z*c).getD k 0=A.getD k 0*c:=by
 rw [ac,ac,aG]
 cases A[k]? <;> simp
end Dp
namespace Dp
open PySem L2
theorem cv_sizeP {A P:List Int} {n m:Nat} (hA:∀ k,Lt2 n (A.getD k 0)) (hP:∀ k,Lt2 m (P.getD k 0)) (la:A.length<=250) (lp:P.length<=250) (k:Nat):Lt2 (n+m+9) (Cv.cv (Cv.fn A) (Cv.fn P) k):=by
 rcases am k 510 with z | z
 ·exact Cv.cv_lt (b:=9) hA hP (by omega)
 ·rw [Cv.cv_out (a:=A.length) (b:=P.length) (fun j hj=>Cv.fn_out hj) (fun j hj=>Cv.fn_out hj) (by omega)]
  exact zlt _
def ke:SpB:=.of 2 (α:=List Int×Int×List Int×Int×Nat×Nat×Nat×Nat) (fun (P,B,P',B',n,b,m,c) ds=>ds=[pD P B,pD P' B']/\Pc.Pz n b P B/\Pc.Pz m c P' B'/\b+c*P.length<=8900000/\n+(m+c+10)*(P.length+1)<=90000000/\P.length*P'.length<=190/\P.length<=190/\P'.length<=190)
 (fun (P,B,P',B',n,b,m,c) d=>∃ R C,d=pD R C/\Pc.Of P B P' B' R C)
def pR:TSd:=(g9 [] (gS iy (gO (ia (il (gP 6)) [8] (gNm 8) iG (gT .Mult (gP 8) (gP 5))) (gO (gT .Mult (gP 3) (gP 7)) gQ))))
def pS:TSd:=dSq (iC [] (ku (gP 2)) (gNm 8)
 (dSq (gU [] (gNm 6) (gS iY (gO (gS iO (gO (gP 6) (gO (gP 4) gQ))) (gO (ig (gO (gT .Mult (gP 8) (gP 7)) gQ)) gQ))))
 (mn [] 7 .Mult (gP 5))))
 pR
def pT:TSd:=dSq (mV [] 6 7 (ig gQ) (dC (.int 1)))
 pS
def pV:TSd:=dSq (gU [] (gTp [4,5]) (gP 1))
 pT
def qh:TSd:=dSq (gU [] (gTp [2,3]) (gP 0))
 pV
theorem pG:Does 9 qh ke:=by
 rintro ds Q hn ⟨⟨P1,B1,P2,B2,n,b,m,c⟩,⟨rfl,G1,G2,hb,hn,hl,l1,l2⟩,q⟩
 dsimp only at G1 G2 hb hn hl l1 l2 q
 have p1:=G1.fm.pos
 have p2:=G2.fm.pos
 have hL:(m+c+10)*P1.length+(m+c+10)=(m+c+10)*(P1.length+1):=by rw [bE]
 have hg:∀ k,P2.length<=k->Cv.fn P2 k=0:=fun k h=>Cv.fn_out h
 refine ⟨rfl,rfl,aC _,fun i s=>∃ (rs:List Int) (o:SD),s=[.val (pD P1 B1),.val (pD P2 B2),.val (.tup (P1.map .int)),.val (.int B1),.val (.tup (P2.map .int)),.val (.int B2),.val (.lst (rs.map .int)),.val (.int (B2^i)),o]/\rs.length<=i*P2.length+1/\(∀ k,Lt2 (n+(m+c+10)*i+1) (rs.getD k 0))/\∀ k,Pc.pc (Cv.fn P1) (Cv.fn P2) B2 P1.length k=B2^i*Pc.pc (Cv.fn P1) (Cv.fn P2) B2 (P1.length-i) k+B2*Cv.cv (Pc.cp (Cv.fn P2) (P1.length-i)) (Cv.fn rs) k,
  ⟨[],.no,by rw [aW];rfl,aC _,fun k=>by rw [getD_out (fs:=([]:List Int)) (aC _)];exact zlt _,fun k=>by rw [Cv.cv_zr fun j=>Cv.fn_out (aC _)];simp⟩,?_,?_⟩
 ·rintro i d _ hd ⟨rs,o,rfl,lr,sr,hr1⟩
  have hd:(P1.map D.int).reverse[i]? = some d:=hd
  have hi:i<P1.length:=by have:=(ak.mp hd).1;simpa using this
  rw [bI (by rw [ab];exact hi),ab] at hd
  obtain ⟨_,rfl⟩:=int_at hd
  have hp1:=G1.tops (P1.length-1-i)
  have li:(m+c+10)*(i+1)<=(m+c+10)*P1.length:=ah _ hi
  rw [bE] at li
  have li2:(i+1)*P2.length<=P1.length*P2.length:=bB _ hi
  rw [aT] at li2
  have li3:c*i<=(m+c+10)*i:=bB _ (by omega)
  have ls:=Hv.pow_lt G2.bot i
  refine ⟨rfl,(_,_,rs,P2,n+(m+c+10)*i+1,m),⟨rfl,.inl rfl,.inr rfl,by show rs.length<=450;omega,by show P2.length<=450;omega,sr,G2.tops,by show n+(m+c+10)*i+1+m<=100000000;omega⟩,?_⟩
  rintro _ ⟨qs,rfl,lq,hq⟩
  have lq:qs.length<=rs.length+P2.length:=lq
  refine ⟨⟨_,_,hp1,ls,by omega⟩,sz1,rfl,(_,_,qs,[P1.getD (P1.length-1-i) 0*B2^i]),⟨rfl,.inl rfl,.inl rfl,by show qs.length<=1000;omega,by show 1<=1000;decide⟩,?_⟩
  rintro _ ⟨ws,rfl,lw,hw⟩
  have lw:ws.length=max qs.length 1:=lw
  have hw0:∀ j,Cv.fn ws j=Cv.cv (Cv.fn rs) (Cv.fn P2) j+(if j=0 then Cv.fn P1 (P1.length-1-i)*B2^i else 0):=fun j=>by
   have e:ws.getD j 0=qs.getD j 0+[P1.getD (P1.length-1-i) 0*B2^i].getD j 0:=hw j
   rw [hq j] at e
   cases j with
   | zero=>exact e
   | succ j=>rw [if_neg (by omega)];rw [getD_out (fs:=[P1.getD (P1.length-1-i) 0*B2^i]) (by simp)] at e;exact e
  refine ⟨⟨_,_,ls,G2.bot,by omega⟩,ws,_,by rw [bf];rfl,?_,fun k=>?_,fun k=>?_⟩
  ·rw [aT]
   omega
  ·show Lt2 _ (Cv.fn ws k)
   rw [hw0 k]
   have y1:Lt2 (n+(m+c+10)*i+1+m+9) (Cv.cv (Cv.fn rs) (Cv.fn P2) k):=cv_sizeP sr G2.tops (by omega) (by omega) k
   have y2:Lt2 (n+(m+c+10)*i+1+m+9) (if k=0 then Cv.fn P1 (P1.length-1-i)*B2^i else 0):=by
    split
    ·exact (hp1.mul ls).mono (by omega)
    ·exact zlt _
   exact (y1.add y2).mono (by rw [bE];omega)
  ·exact Pc.horner hg hi hr1 _ hw0
 ·rintro _ ⟨rs,o,rfl,lr,sr,hr1⟩
  rw [bC,ab] at lr sr hr1 ⊢
  have hr2:∀ k,Pc.pc (Cv.fn P1) (Cv.fn P2) B2 P1.length k=B2*rs.getD k 0:=fun k=>by
   rw [hr1 k,bM]
   show _*0+B2*Cv.cv Pc.d0 (Cv.fn rs) k=_
   rw [Pc.cv_d0,bN,cF]
   rfl
  have ls:=Hv.pow_lt G2.bot P1.length
  have Y:=ax p1 (Hv.pow_pos p2 P1.length)
  refine ⟨(congrArg (· <= sizeLine) (ab _)).mpr (szN (by omega)),mI (fun z=>z*B2) rs,mI.nil,fun i d ys hd _ hy=>?_,fun ys _ hy=>?_⟩
  ·obtain ⟨z,hz,rfl⟩:=get_int hd
   have e:rs.getD i 0=z:=getD_of hz
   exact ⟨⟨_,_,e ▸ sr i,G2.bot,by omega⟩,hy.snoc hz rfl⟩
  cases hy.all (by rw [ab])
  refine ⟨⟨_,_,G1.bot,ls,by omega⟩,rfl,(rs.map (fun z=>z*B2),B1*B2^P1.length),⟨rfl,Y,(G1.bot.mul ls).mono (by omega),by show (rs.map _).length<=1000;rw [ab];omega⟩,?_⟩
  rintro _ ⟨R,C,rfl,fm,hw,hle⟩
  refine q _ ⟨R,C,rfl,fm,fun k=>?_⟩
  have h:R.getD k 0*(B1*B2^P1.length)=(rs.map fun z=>z*B2).getD k 0*C:=hw k
  rw [h,map_at,hr2 k,bg B2]
end Dp
namespace Dp
open PySem L2
def dvs (n i:Nat):List Nat:=((List.range i).map (· + 1)).filter fun s=>n%s == 0
theorem dvs_succ (n i:Nat):dvs n (i+1)=dvs n i++(if n%(i+1)=0 then [i+1] else []):=by
 unfold dvs
 rw [List.range_succ,bj,gy]
 congr 1
 by_cases c:n%(i+1)=0
 ·rw [if_pos c]
  simp [c]
 ·rw [if_neg c]
  simp [c]
theorem mem_dvs {n s:Nat}:s∈dvs n n↔1<=s/\s<=n/\n%s=0:=by
 unfold dvs
 rw [bK,cP]
 constructor
 ·rintro ⟨⟨a,ha,rfl⟩,h⟩
  have:=bX.mp ha
  exact ⟨by omega,by omega,by simpa using h⟩
 ·rintro ⟨h1,h2,h3⟩
  exact ⟨⟨s-1,bX.mpr (by omega),by omega⟩,by simpa using h3⟩
theorem dvs_len (n i:Nat):(dvs n i).length<=i:=by
 unfold dvs
 refine aB (fL _ _) ?_
 simp
def kz:SpB:=.of 1 (α:=Nat) (fun n ds=>ds=[.int n]/\n<=1000) (fun n d=>d = .lst ((dvs n n).map fun s=>D.int ((s:Nat):Int)))
def oC:TSd:=(g9 [] (ia (jA (dC (.int 1)) (gT .Add (gP 0) (dC (.int 1)))) [1] (gNm 1) (gX (g8 .Eq (gT .Mod (gP 0) (gP 1)) (dC (.int 0)))) (gP 1)))
theorem mM:Does 2 oC kz:=by
 rintro ds Q hn ⟨n,⟨rfl,hn⟩,q⟩
 have lq:(upTo 1 ((n:Int)+1-1).toNat).length=n:=by rw [upTo_len];omega
 refine ⟨⟨by omega,by omega,by omega,by omega⟩,(congrArg (· <= sizeLine) lq).mpr (szN (by omega)),fun i ys=>ys=(dvs n i).map fun s=>D.int ((s:Nat):Int),rfl,fun i d ys hd _ hy=>?_,fun ys _ hy=>?_⟩
 ·obtain ⟨hi,rfl⟩:=upTo_got hd
  have hi:i<n:=by omega
  subst hy
  have e1:(1:Int)+(i:Int)=((i+1:Nat):Int):=by omega
  rw [e1]
  refine ⟨by omega,?_⟩
  refine ifP (p:=((n:Int).fmod ((i+1:Nat):Int))=0) (fun c=>?_) (fun c=>?_)
  ·have c':n%(i+1)=0:=by
    rw [cq _ (by omega)] at c
    omega
   show (dvs n i).map (fun s=>D.int ((s:Nat):Int))++[D.int ((i+1:Nat):Int)]=(dvs n (i+1)).map fun s=>D.int ((s:Nat):Int)
   rw [dvs_succ,if_pos c',bj]
   rfl
  ·have c':¬ n%(i+1)=0:=fun z=>c (by
    rw [cq _ (by omega)]
    omega)
   show (dvs n i).map (fun s=>D.int ((s:Nat):Int))=(dvs n (i+1)).map fun s=>D.int ((s:Nat):Int)
   rw [dvs_succ,if_neg c',b9]
 ·have hy:ys=(dvs n (upTo 1 ((n:Int)+1-1).toNat).length).map fun s=>D.int ((s:Nat):Int):=hy
  rw [lq] at hy
  subst hy
  exact q _ rfl
end Dp
namespace Dp
open PySem L2
theorem dps_intsD (P:List Int):D.dps (P.map D.int)=0:=by
 induction P with
 | nil=>rfl
 | cons a P ih=>show max 0 (D.dps (P.map D.int))=0;rw [ih];rfl
end Dp
namespace Dp
open PySem L2
theorem step_dvd {c m x:Int} (h:0<m) (hc:c∣m) (hx:c∣x):c*m.fdiv (Fr.cp m x)∣m:=by
 have g0:=cp_pos (a:=m) (b:=x) (by omega)
 obtain ⟨e,_,_⟩:=fdiv_of_dvd g0 h (cp_dvd m x).1
 have hg:c∣Fr.cp m x:=by
  unfold Fr.cp
  exact Int.dvd_coe_gcd hc hx
 obtain ⟨y,hy⟩:=hg
 generalize m.fdiv (Fr.cp m x)=q at *
 generalize Fr.cp m x=g at *
 refine ⟨y,?_⟩
 rw [e,hy]
 grind
def jZ:TSd:=(g9 [] (gP 3))
def j2:TSd:=dSq (iC [] (jA (dC (.int 1)) (gT .Add (gP 1) (dC (.int 1)))) (gNm 4)
 (mn [] 3 .Mult (gT .FloorDiv (gP 2) (gS iq (gO (gP 2) (gO (gT .Mult (dIx (gP 0) (gT .Sub (gP 1) (gP 4))) (gS gV (gO (gP 3) (gO (gP 4) gQ)))) gQ))))))
 jZ
def iB:TSd:=dSq (gU [] (gNm 3) (dC (.int 1)))
 j2
def kU:TSd:=dSq (mV [] 1 2 (gT .Sub (dB bLen bLen.mono (gO (gP 0) gQ)) (dC (.int 1))) (dB bAbs bAbs.mono (gO (dIx (gP 0) (kB (dC (.int 1)))) gQ)))
 iB
end Dp
namespace Dp
open PySem L2
theorem pw_dvd (a:Int) {m n:Nat} (h:m<=n):a^m∣a^n:=⟨a^(n-m),by rw [← cB];congr 1;omega⟩
theorem dvd_fn {P:List Int} {B c:Int} {f:Nat->Int} (F:Po.Fm P B) (h:∀ k,P.getD k 0*c=f k*B):B∣c:=aR.mp (Po.dvd_of (P':=(List.range P.length).map f) F fun k=>by
 rcases am k P.length with z | z
 ·rw [h k,ac,aG,gq z]
  rfl
 ·rw [getD_out z,getD_out (by rw [ab,cU];exact z)]
  simp)
end Dp
namespace Dp
open PySem L2
theorem lcm_dvd {b r D:Int} (hb:0<b) (hr:0<r) (h1:b∣D) (h2:r∣D):b*r.fdiv (Fr.cp b r)∣D:=by
 have g0:=cp_pos (a:=b) (b:=r) (by omega)
 obtain ⟨e,q0,_⟩:=fdiv_of_dvd g0 hr (cp_dvd b r).2
 have l:=gh (aR.mpr h1) (aR.mpr h2)
 refine aR.mp ?_
 have eg:Fr.cp b r=((Nat.gcd b.natAbs r.natAbs:Nat):Int):=rfl
 rw [aJ]
 have e2:r.natAbs=Nat.gcd b.natAbs r.natAbs*(r.fdiv (Fr.cp b r)).natAbs:=by
  have:=congrArg Int.natAbs e
  rw [aJ,eg,aZ] at this
  rw [eg]
  exact this
 have g1:0<Nat.gcd b.natAbs r.natAbs:=ft _ (by omega)
 unfold Nat.lcm at l
 generalize (r.fdiv (Fr.cp b r)).natAbs=q at *
 generalize hg:Nat.gcd b.natAbs r.natAbs=g at *
 rw [e2,show b.natAbs*(g*q)=g*(b.natAbs*q) by grind,Nat.mul_div_cancel_left _ g1] at l
 exact l
def FrD (fs:List (Int×Int)) (Dv:Int) (m:Nat):Prop:=(∀ f∈fs,0<f.2/\Lt2 m f.1/\f.2∣Dv)/\fs.length<=100/\0<Dv/\Lt2 8990000 Dv/\m<=10000000
def iI:SpB:=.of 1 (α:=List (Int×Int)×Int×Nat) (fun (fs,D,m) ds=>ds=[.lst (fs2 fs)]/\FrD fs D m)
 (fun (fs,D,m) d=>∃ b0:Int,d = .tup [.lst ((fs.map fun f=>f.1*b0.fdiv f.2).map .int),.int b0]/\0<b0/\Lt2 8990000 b0/\b0∣D/\∀ (j:Nat) (f:Int×Int),fs[j]? = some f->f.2∣b0)
def ji:TSd:=(g9 [] (gZ (gO (ia (il (gP 0)) [2] (gNm 2) iG (gT .Mult (dIx (gP 2) (dC (.int 0))) (gT .FloorDiv (gP 1) (dIx (gP 2) (dC (.int 1)))))) (gO (gP 1) gQ))))
def jj:TSd:=dSq (iC [] (il (gP 0)) (gNm 2)
 (mn [] 1 .Mult (gT .FloorDiv (dIx (gP 2) (dC (.int 1))) (gS iq (gO (gP 1) (gO (dIx (gP 2) (dC (.int 1))) gQ))))))
 ji
def jx:TSd:=dSq (gU [] (gNm 1) (dC (.int 1)))
 jj
theorem i8:Does 3 jx iI:=by
 rintro ds Q hn ⟨⟨fs,D1,m⟩,⟨rfl,hb,hl,D0,lD,hm⟩,q⟩
 dsimp only at hb hl D0 lD hm q
 have sizes:∀ {i:Nat} {f:Int×Int},fs[i]? = some f->0<f.2/\Lt2 m f.1/\f.2∣D1:=fun h=>hb _ (aI h)
 have small:∀ {c:Int},c∣D1->Lt2 8990000 c:=fun h=>lD.le (bv (by omega) (aR.mpr h))
 refine ⟨fun i s=>∃ (o:SD) (b0:Int),s=[.val (.lst (fs2 fs)),.val (.int b0),o]/\0<b0/\b0∣D1/\∀ (j:Nat) (f:Int×Int),j<i->fs[j]? = some f->f.2∣b0,⟨.no,1,rfl,by decide,Int.one_dvd _,fun j f h=>absurd h (cu _)⟩,?_,?_⟩
 ·rintro i d _ hd ⟨o,b0,rfl,h0,hl0,hd0⟩
  obtain ⟨f,hf,rfl⟩:=at_frac hd
  obtain ⟨b1,l1,l2⟩:=sizes hf
  have g0:=cp_pos (a:=b0) (b:=f.2) (by omega)
  obtain ⟨e,q0,ql⟩:=fdiv_of_dvd g0 b1 (cp_dvd b0 f.2).2
  obtain ⟨k1,k2⟩:=bot_next h0 b1
  have gl:(Fr.cp b0 f.2).natAbs<=f.2.natAbs:=bv (by omega) (aR.mpr (cp_dvd b0 f.2).2)
  refine ⟨rfl,(b0,f.2),rfl,?_⟩
  rintro _ rfl
  refine ⟨⟨by show Fr.cp b0 f.2≠0;omega,8990000,(small l2).le gl,by decide⟩,⟨_,_,small hl0,(small l2).le ql,by decide⟩,_,_,rfl,k1,lcm_dvd h0 b1 hl0 l2,fun j g hj hg=>?_⟩
  rcases bV (ev hj) with z | z
  ·rw [z,hf] at hg
   cases hg
   exact k2
  ·exact dM (hd0 j g z hg)
 ·rintro _ ⟨o,b0,rfl,h0,hl0,hd0⟩
  rw [ab] at hd0
  have hd1:∀ (j:Nat) (f:Int×Int),fs[j]? = some f->f.2∣b0:=fun j f h=>hd0 j f (ak.mp h).1 h
  refine ⟨(congrArg (· <= sizeLine) (ab _)).mpr (szN (by omega)),mI (fun f:Int×Int=>f.1*b0.fdiv f.2) fs,mI.nil,fun i d ys hd _ hy=>?_,fun ys _ hy=>?_⟩
  ·obtain ⟨f,hf,rfl⟩:=at_frac hd
   obtain ⟨b1,l1,l2⟩:=sizes hf
   obtain ⟨e,q0,ql⟩:=fdiv_of_dvd b1 h0 (hd1 _ _ hf)
   exact ⟨⟨by show f.2≠0;omega,8990000,small l2,by decide⟩,⟨_,_,l1,(small hl0).le ql,by omega⟩,hy.snoc hf rfl⟩
  ·cases hy.all (by rw [ab])
   exact ⟨sz2,q _ ⟨b0,rfl,h0,small hl0,hl0,hd1⟩⟩
def mU:SpB:=.of 1 (α:=List (Int×Int)×Int×Nat) (fun (fs,D,m) ds=>ds=[.lst (fs2 fs)]/\FrD fs D m)
 (fun (fs,D,m) d=>∃ P B,d=pD P B/\Po.Fm P B/\(∀ k,P.getD k 0*(fs.getD k (0,1)).2=(fs.getD k (0,1)).1*B)/\P.length<=fs.length/\B∣D)
def oD:TSd:=(g9 [] (gS iy (gO (gP 1) (gO (gP 2) gQ))))
def pJ:TSd:=dSq (gU [] (gTp [1,2]) (gS iI (gO (gP 0) gQ)))
 oD
theorem nX:Does 3 pJ mU:=by
 rintro ds Q hn ⟨⟨fs,D1,m⟩,⟨rfl,hF⟩,q⟩
 have hF':=hF
 obtain ⟨hb,hl,D0,lD,hm8⟩:=hF'
 refine ⟨rfl,(fs,D1,m),⟨rfl,hF⟩,?_⟩
 rintro _ ⟨b0,rfl,h0,hl0,hbD,hd⟩
 refine ⟨rfl,rfl,(fs.map fun f=>f.1*b0.fdiv f.2,b0),⟨rfl,h0,Lt2.mono hl0 (by decide),by show (fs.map fun f=>f.1*b0.fdiv f.2).length<=1000;rw [ab];omega⟩,?_⟩
 rintro _ ⟨P,B,rfl,fm,hw,hle⟩
 have hle:P.length<=(fs.map fun f=>f.1*b0.fdiv f.2).length:=hle
 rw [ab] at hle
 refine q _ ⟨P,B,rfl,fm,fun k=>?_,hle,dE (aR.mp (Po.dvd_of fm hw)) hbD⟩
 have hk:P.getD k 0*b0=(fs.map fun f=>f.1*b0.fdiv f.2).getD k 0*B:=hw k
 show P.getD k 0*(fs.getD k (0,1)).2=(fs.getD k (0,1)).1*B
 cases hf:fs[k]? with
 | none =>
  rw [getD_out (fs:=fs.map fun f=>f.1*b0.fdiv f.2) (by rw [ab];exact bF.mp hf),aE] at hk
  rw [getD_out (fs:=fs) (bF.mp hf)]
  rcases bT.mp hk with z | z
  ·rw [z];simp
  ·omega
 | some f =>
  have hm:(fs.map fun f=>f.1*b0.fdiv f.2).getD k 0=f.1*b0.fdiv f.2:=getD_of (by rw [aG,hf];rfl)
  rw [hm] at hk
  rw [getD_of hf]
  have b1:=(hb f (aI hf)).1
  obtain ⟨e,q0,_⟩:=fdiv_of_dvd b1 h0 (hd k f hf)
  refine aH (aw q0) ?_
  generalize b0.fdiv f.2=y at *
  grind
open Cv Qp in
theorem dig_turn {N N':Nat->Int} {e e' U p2:Int} {G p1:List Int} (h0:∀ k,13<=k->N k=0) (h1:∀ k,13<=k->N' k=0) (e0:0<e) (e1:0<e') (U0:0<U) (p0:0<p2) (h:∀ k,(cv N' (fn G) k*p2+p1.getD k 0*(e'*U))*e=N k*(e'*U*p2)) (x:Rat) :
  ei N x 13 / (e:Rat)=E p1 p2 x+E G U x*(ei N' x 13 / (e':Rat)):=by
 have l:=ei_lin (F:=fun k=>cv N' (fn G) k*p2+p1.getD k 0*(e'*U)) (G:=N) (x:=x) h (13+G.length+p1.length)
 rw [ei_add,ei_mul,ei_mul] at l
 have a1:ei (cv N' (fn G)) x (13+G.length+p1.length)=ei N' x 13*ei (fn G) x G.length:=by
  rw [ei_up (fun k hk=>cv_out (a:=13) (b:=G.length) (fun j hj=>h1 j hj) (fun j hj=>fn_out hj) (by omega)),ei_cv (fun k hk=>h1 k hk) (fun k hk=>fn_out hk)]
 have a2:ei (fun k=>p1.getD k 0) x (13+G.length+p1.length)=ei (fn p1) x p1.length:=by
  rw [show 13+G.length+p1.length=p1.length+(13+G.length) by omega]
  exact ei_up (fun k hk=>fn_out hk) _
 have a3:ei N x (13+G.length+p1.length)=ei N x 13:=by
  rw [show 13+G.length+p1.length=13+(G.length+p1.length) by omega]
  exact ei_up h0 _
 rw [a1,a2,a3] at l
 unfold E
 simp only [aF] at l
 have n1:=ne_of_pos e0
 have n2:=ne_of_pos e1
 have n3:=ne_of_pos U0
 have n4:=ne_of_pos p0
 generalize ei N' x 13=X at *
 generalize ei (fn G) x G.length=Y at *
 generalize ei (fn p1) x p1.length=Z at *
 generalize ei N x 13=V at *
 generalize (e:Rat)=a at *
 generalize (e':Rat)=b at *
 generalize (U:Rat)=c at *
 generalize (p2:Rat)=d at *
 have k1:V / a=(X*Y*d+Z*(b*c)) / (b*c*d):=by grind
 rw [k1]
 grind
end Dp
namespace Dp
open PySem L2
theorem ei_zero {F:Nat->Int} (h:∀ k,F k=0) (x:Rat):∀ n,Qp.ei F x n=0
 | 0=>rfl
 | n+1=>by
  rw [Qp.ei,ei_zero h x n,h n]
  show (0:Rat)+0*_=0
  grind
theorem cand_mon {P R:Nat->Int} {k s:Nat} {C:Int} (h:Ca.Cand P k s R C) (s1:1<=s):R s=C/\R 0=0:=by
 obtain ⟨c,g,c0,g0,h1,h2,h3⟩:=h
 have:=h2 0 (by omega)
 rw [bR,aW,bu,g0,cC] at this
 exact ⟨this,h3⟩
theorem cand_one {P G:List Int} {s:Nat} {U:Int} (lG:G.length=s+1) (lP:P.length=s+1) (fG:Po.Fm G U) (h:Ca.Cand (fun i=>P.getD i 0) 1 s (fun i=>G.getD i 0) U) (hL:P.getD s 0≠0):U.natAbs<=(P.getD s 0).natAbs:=by
 obtain ⟨c,g,c0,g0,h1,h2,h3⟩:=h
 have key:∀ k,G.getD k 0*P.getD s 0=(if k=0 then 0 else P.getD k 0)*U:=fun k=>by
  by_cases c1:k=0
  ·subst c1
   have h3:G.getD 0 0=0:=h3
   rw [if_pos rfl,h3]
   simp
  rw [if_neg c1]
  rcases am s k with z | z
  ·rw [getD_out (fs:=G) (i:=k) (by omega),getD_out (fs:=P) (i:=k) (by omega)]
   simp
  ·have a:P.getD (1*s-(s-k)) 0*c^(s-k)=P.getD (1*s) 0*Ca.pw g 1 (s-k):=h1 (s-k) (by omega)
   have b:G.getD (s-(s-k)) 0*c^(s-k)=g (s-k)*U:=h2 (s-k) (by omega)
   rw [ga,show s-(s-k)=k by omega] at a
   rw [show s-(s-k)=k by omega] at b
   rw [Ca.pw_cp,Pc.cp1] at a
   refine aH (show c^(s-k)≠0 from ca (aw c0)) ?_
   calc G.getD k 0*P.getD s 0*c^(s-k)=(G.getD k 0*c^(s-k))*P.getD s 0:=by grind
    _=g (s-k)*U*P.getD s 0:=by rw [b]
    _=(P.getD s 0*g (s-k))*U:=by grind
    _=P.getD k 0*U*c^(s-k):=by rw [← a];grind
 rcases eh hL with z | z
 ·have:=(Po.size (f:=fun k => -(if k=0 then 0 else P.getD k 0)) (b:=-P.getD s 0) fG (by omega) fun k=>by rw [Int.mul_neg,key k,Int.neg_mul]).1
  rwa [Int.natAbs_neg] at this
 ·exact (Po.size (f:=fun k=>if k=0 then 0 else P.getD k 0) (b:=P.getD s 0) fG z key).1
end Dp
namespace Dp
open PySem L2
theorem frac_dvd {t u a c:Int} (u0:0<u) (g:Int.gcd t u=1) (c0:0<c) (e:(t:Rat) / (u:Rat)=(a:Rat) / (c:Rat)):u∣c:=by
 have h:=(Qp.div_eq (aw u0) (aw c0)).mp e
 have d:u∣t*c:=⟨a,by rw [h,bg]⟩
 have d:=aR.mpr d
 rw [aJ] at d
 exact aR.mp (Nat.Coprime.dvd_of_dvd_mul_left (show Nat.gcd u.natAbs t.natAbs=1 by rw [fE];exact g) d)
theorem er_head (f:Nat->Rat) (y:Rat):∀ n,Qp.er f y (n+1)=f 0+y*Qp.er (fun k=>f (k+1)) y n
 | 0=>by unfold Qp.er Qp.er;grind
 | n+1=>by
  rw [Qp.er,er_head f y n,Qp.er]
  grind
theorem E_one {P:List Int} {B:Int} (l:P.length<=1) (x:Rat):Qp.E P B x=Qp.q P B 0:=by
 rw [Qp.E_at (N:=1) l,Qp.ei1]
 rfl
theorem ed_er {y x:Rat}:∀ {Ps:List (List Int×Int)} {f:Nat->Rat},(∀ p∈Ps,p.1.length<=1)->(∀ j p,Ps[j]? = some p->f j=Qp.q p.1 p.2 0)->Ap.Ed y x Ps=Qp.er f y Ps.length
 | [],_,_,_=>rfl
 | p::Ps,f,h,hf=>by
  show Qp.E p.1 p.2 x+y*Ap.Ed y x Ps=_
  rw [aQ,er_head,E_one (h p ay),hf 0 p rfl,ed_er (fun q hq=>h q (au _ hq)) fun j q hq=>hf (j+1) q hq]
theorem E_er {R:List Int} {C:Int} {N:Nat} (l:R.length<=N) (y:Rat):Qp.E R C y=Qp.er (Qp.q R C) y N:=by
 rw [Qp.er_E (fun _=>rfl),Qp.E_at l]
end Dp
namespace Dp
open PySem L2
def Mad (P:List Int) (B:Int) (k s:Nat):Prop:=∃ G U R C,Po.Fm G U/\G.length=s+1/\Ca.Cand (fun i=>P.getD i 0) k s (fun i=>G.getD i 0) U/\Po.Fm R C/\∀ x,Qp.E P B x=Qp.E R C (Qp.E G U x)
theorem const_pl (r:Rat):∃ p:List Int×Int,Po.Fm p.1 p.2/\p.1.length<=1/\∀ x,Qp.E p.1 p.2 x=r:=by
 obtain ⟨t,u,hu,rfl⟩:=Qp.num_den r
 have h1:∀ k,1<=k->([t]:List Int).getD k 0=0:=fun k hk=>getD_out hk
 obtain ⟨R,C,fR,w⟩:=Ap.has (F:=fun k=>[t].getD k 0) (n:=1) hu h1
 exact ⟨(R,C),fR,Pc.len_of fR hu w h1,fun x=>Qp.E_const fR hu w x⟩
theorem consts:∀ (n:Nat) (f:Nat->Rat),∃ Cs:List (List Int×Int),Cs.length=n/\(∀ p∈Cs,Po.Fm p.1 p.2/\p.1.length<=1)/\∀ x y,Ap.Ed y x Cs=Qp.er f y n
 | 0,f=>⟨[],rfl,fun p h=>absurd h bh,fun x y=>rfl⟩
 | n+1,f=>by
  obtain ⟨Cs,l,h,e⟩:=consts n fun k=>f (k+1)
  obtain ⟨p,fp,lp,ep⟩:=const_pl (f 0)
  refine ⟨p::Cs,by rw [aQ,l],fun q hq=>?_,fun x y=>?_⟩
  ·rcases ar.mp hq with z | z
   ·rw [z];exact ⟨fp,lp⟩
   ·exact h q z
  ·show Qp.E p.1 p.2 x+y*Ap.Ed y x Cs=_
   rw [er_head,ep,e]
theorem mem_getD {α:Type} {l:List α} {t:Nat} {d:α} {p:α->Prop} (h:∀ x∈l,p x) (hd:p d):p (l.getD t d):=by
 rcases am t l.length with z | z
 ·exact h _ (getD_is_mem z)
 ·rw [getD_out z];exact hd
open Classical in
noncomputable def ind (P:List Int) (B:Int) (n:Nat):List Nat:=(dvs n n).filter fun s=>decide (Mad P B (n / s) s)
def nD (l:List Nat):D:=.lst (l.map fun s=>D.int ((s:Nat):Int))
end Dp
namespace Dp
open PySem L2 Qp
theorem of_ex {P W:List Int} {B V:Int} (fP:Po.Fm P B) (fW:Po.Fm W V):∃ R C,Pc.Of P B W V R C:=by
 have p:0<B*V^P.length:=ax fP.pos (bH fW.pos)
 obtain ⟨R,C,fR,w⟩:=Ap.has (F:=Pc.pc (Cv.fn P) (Cv.fn W) V P.length) (n:=P.length*W.length+1) p fun k hk=>Pc.pc_out (fun j hj=>Cv.fn_out hj) P.length k hk
 exact ⟨R,C,fR,w⟩
end Dp
namespace Dp
open PySem L2
theorem pD_dps60 (A:List Int) (B:Int):D.dps [.tup (A.map D.int),.int B]<=60:=by
 show max (D.dps (A.map D.int)+1) (max 0 0)<=60
 rw [dps_intsD]
 decide
end Dp
namespace Dp
open PySem L2
def Cn (P:List Int) (k s:Nat) (G:List Int) (U:Int):Prop:=Po.Fm G U/\G.length=s+1/\Ca.Cand (fun i=>P.getD i 0) k s (fun i=>G.getD i 0) U
end Dp
namespace Dp
open PySem L2
def Out (P:List Int) (B:Int) (G:List Int) (U:Int):Prop:=∃ R C,Po.Fm R C/\∀ x,Qp.E P B x=Qp.E R C (Qp.E G U x)
theorem out_uniq {G R R':List Int} {U C C':Int} {s:Nat} (fG:Po.Fm G U) (lG:G.length=s+1) (s1:1<=s) (fR:Po.Fm R C) (fR':Po.Fm R' C') (h:∀ x,Qp.E R C (Qp.E G U x)=Qp.E R' C' (Qp.E G U x)):R=R'/\C=C':=by
 obtain ⟨Cs,lC,hC,eC⟩:=consts R.length (Qp.q R C)
 obtain ⟨Ds,lD,hD,eD⟩:=consts R'.length (Qp.q R' C')
 have u:=Ap.Ed.uniq2 fG lG (ps:=Cs) (qs:=Ds) (fun q hq=>⟨(hC q hq).1,aB (hC q hq).2 s1⟩) (fun q hq=>⟨(hD q hq).1,aB (hD q hq).2 s1⟩) (fun x=>by rw [eC,eD,← E_er (aj _),← E_er (aj _),h])
 exact Qp.E_inj fR fR' fun y=>by rw [E_er (aj R.length),← eC 0 y,Ap.Ed.same u,eD,← E_er (aj _)]
end Dp
namespace Dp
open PySem L2
theorem Cn.uniq {P G G':List Int} {U U':Int} {a s:Nat} {B:Int} (z:Po.Fm P B) (lP:P.length=a*s+1) (a1:1<=a) (h:Cn P a s G U) (h':Cn P a s G' U'):G=G'/\U=U':=Ca.Cand.uniq a1 (fm_top z lP) h.1 h'.1 h.2.1 h'.2.1 h.2.2 h'.2.2
theorem dvs_lt {n i j:Nat} {a b:Nat} (h:(dvs n n)[j]? = some a) (h':(dvs n n)[i]? = some b) (ij:j<i):a<b:=by
 have p:(dvs n n).Pairwise (· < ·):=by
  unfold dvs
  refine List.Pairwise.filter _ ?_
  rw [gC]
  exact List.Pairwise.imp (fun h=>Nat.succ_lt_succ h) List.pairwise_lt_range
 obtain ⟨hj,rfl⟩:=ak.mp h
 obtain ⟨hi,rfl⟩:=ak.mp h'
 exact dh.mp p j i hj hi ij
end Dp
namespace Dp
open PySem L2
theorem fmod_nat (m s:Nat):((m:Nat):Int).fmod (s:Int)=((m%s:Nat):Int):=by
 rw [cq _ (by omega)]
 rfl
end Dp
namespace Dp
open PySem L2
theorem len_at {Qs:List (List Int×Int)} {i:Nat} {p:List Int×Int} (h:Qs.getD i ([],1)=p) (h2:2<=p.1.length):Qs[i]? = some p:=by
 rcases am i Qs.length with y | y
 ·rw [aq y,← h,ac,aq y]
  rfl
 ·rw [getD_out y] at h
  rw [← h] at h2
  exact absurd h2 (by decide)
end Dp
namespace Dp
open PySem L2
theorem ind_len {P:List Int} {B:Int} {n:Nat}:(ind P B n).length<=n:=aB (fL _ _) (dvs_len n n)
end Dp
namespace Dp
open PySem L2
theorem comp_len {R A p:List Int} {C α c:Int} {d s:Nat} (fR:Po.Fm R C) (lR:R.length=d+1) (fA:Po.Fm A α) (lA:A.length=s+1) (s1:1<=s) (fp:Po.Fm p c) (e:∀ x,Qp.E p c x=Qp.E R C (Qp.E A α x)):p.length=d*s+1:=by
 obtain ⟨S,cS,o⟩:=of_ex fR fA
 have l:=Pc.Of.deg_eq fR.pos fA.pos o lR lA s1 (fm_top fR lR) (fm_top fA lA)
 obtain ⟨rfl,rfl⟩:=Qp.E_inj fp o.1 fun x=>by rw [e,Qp.E_of fR.pos fA.pos o]
 exact l
theorem dig_map {A W G:List Int} {α w U:Int} {s l:Nat} (fA:Po.Fm A α) (lA:A.length=s+1) (s1:1<=s) (eG:∀ x,Qp.E G U x=Qp.E W w (Qp.E A α x)):∀ rs:List (List Int×Int),(∀ r∈rs,Po.Fm r.1 r.2/\r.1.length<=l)->∃ Ps:List (List Int×Int),(∀ p∈Ps,(Po.Fm p.1 p.2/\p.1.length<=l*s)/\s∣p.1.length-1)/\∀ x,Ap.Ed (Qp.E G U x) x Ps=Ap.Ed (Qp.E W w (Qp.E A α x)) (Qp.E A α x) rs
 | [],_=>⟨[],fun p h=>absurd h bh,fun x=>rfl⟩
 | (r,c)::rs,h=>by
  obtain ⟨Ps,h1,h2⟩:=dig_map (l:=l) fA lA s1 eG rs fun r hr=>h r (au _ hr)
  obtain ⟨fr,lr⟩:=h (r,c) ay
  have fr:Po.Fm r c:=fr
  have lr:r.length<=l:=lr
  obtain ⟨S,cS,o⟩:=of_ex fr fA
  have eS:∀ x,Qp.E S cS x=Qp.E r c (Qp.E A α x):=fun x=>Qp.E_of fr.pos fA.pos o x
  refine ⟨(S,cS)::Ps,fun p hp=>?_,fun x=>?_⟩
  ·rcases ar.mp hp with z | z
   ·rw [z]
    show (Po.Fm S cS/\S.length<=l*s)/\s∣S.length-1
    rcases cb r.length with y | y
    ·have r0:r=[]:=bP.mp y
     have:S=[]:=(Qp.E_inj o.1 Ap.nil_fm fun x=>by rw [eS,r0,Ap.E_nil,Ap.E_nil]).1
     rw [this]
     exact ⟨⟨this ▸ o.1,aC _⟩,⟨0,rfl⟩⟩
    ·obtain ⟨d,hd⟩:∃ d,r.length=d+1:=⟨r.length-1,by omega⟩
     have lS:=comp_len fr hd fA lA s1 o.1 eS
     have:(d+1)*s<=l*s:=bB _ (by omega)
     rw [aT] at this
     refine ⟨⟨o.1,by omega⟩,⟨d,?_⟩⟩
     rw [lS,cE,bt]
   ·exact h1 p z
  ·show Qp.E S cS x+Qp.E G U x*Ap.Ed (Qp.E G U x) x Ps=Qp.E r c (Qp.E A α x)+Qp.E W w (Qp.E A α x)*Ap.Ed (Qp.E W w (Qp.E A α x)) (Qp.E A α x) rs
   rw [h2 x,eS x,eG x]
theorem ed_const {y x x':Rat}:∀ {Ps:List (List Int×Int)},(∀ p∈Ps,p.1.length<=1)->Ap.Ed y x Ps=Ap.Ed y x' Ps
 | [],_=>rfl
 | p::Ps,h=>by
  have l:=h p ay
  show Qp.E p.1 p.2 x+y*Ap.Ed y x Ps=Qp.E p.1 p.2 x'+y*Ap.Ed y x' Ps
  have z:p.1.getD 1 0=0:=getD_out l
  rw [ed_const (x:=x) (x':=x') fun q hq=>h q (au _ hq),Qp.E_two (by omega),Qp.E_two (by omega),z]
  have e:(((0:Int):Rat)) / (p.2:Rat)=0:=by
   show (0:Rat) / _=0
   grind
  rw [e]
  grind
theorem lcm_out {P A A' G W W':List Int} {B α α' U w w':Int} {s s' l l' L:Nat} (fA:Po.Fm A α) (lA:A.length=s+1) (s1:1<=s) (fA':Po.Fm A' α') (lA':A'.length=s'+1) (s1':1<=s') (fG:Po.Fm G U) (lG:G.length=L+1)
  (fW:Po.Fm W w) (lW:W.length=l+1) (l1:1<=l) (eL:l*s=L) (eG:∀ x,Qp.E G U x=Qp.E W w (Qp.E A α x)) (fW':Po.Fm W' w') (lW':W'.length=l'+1) (l1':1<=l') (eL':l'*s'=L) (eG':∀ x,Qp.E G U x=Qp.E W' w' (Qp.E A' α' x))
  (least:∀ d,1<=d->s∣d->s'∣d->L<=d) (o:Out P B A α) (o':Out P B A' α'):Out P B G U:=by
 obtain ⟨R,C,fR,eR⟩:=o
 obtain ⟨R',C',fR',eR'⟩:=o'
 obtain ⟨rs,r1,r2⟩:=Ap.dig_ex l1 fW lW R.length R C fR (aj _)
 obtain ⟨rs',r1',r2'⟩:=Ap.dig_ex l1' fW' lW' R'.length R' C' fR' (aj _)
 obtain ⟨Ps,p1,p2⟩:=dig_map fA lA s1 eG rs r1
 obtain ⟨Ps',p1',p2'⟩:=dig_map fA' lA' s1' eG' rs' r1'
 rw [eL] at p1
 rw [eL'] at p1'
 have e:∀ x,Qp.E P B x=Ap.Ed (Qp.E G U x) x Ps:=fun x=>by rw [p2 x,← r2,eR x]
 have e':∀ x,Qp.E P B x=Ap.Ed (Qp.E G U x) x Ps':=fun x=>by rw [p2' x,← r2',eR' x]
 have u:=Ap.Ed.uniq2 fG lG (ps:=Ps) (qs:=Ps') (fun p h=>(p1 p h).1) (fun p h=>(p1' p h).1) fun x=>by rw [← e,e']
 have one:∀ p∈Ps,p.1.length<=1:=fun p hp=>by
  rcases am p.1.length 2 with y | y
  ·omega
  obtain ⟨i,hi⟩:=cL.mp hp
  have g:=u i
  rw [getD_of hi] at g
  have h2:=p1' p (aI (len_at g.symm y))
  have h1:=p1 p hp
  have:=least (p.1.length-1) (by omega) h1.2 h2.2
  have:=h1.1.2
  omega
 obtain ⟨S,cS,fS,eS⟩:=Ap.Ed.pf (h:=fun x=>x) ⟨Pc.X,1,⟨by decide,.inr (by decide),by decide⟩,Qp.E_X⟩ (ps:=Ps) fun p h=>(p1 p h).1.1
 exact ⟨S,cS,fS,fun x=>by rw [eS,e x,ed_const one]⟩
end Dp
namespace Dp
open PySem L2 Cv Hv Pc Qp
theorem pow_top {A:List Int} {α:Int} {s:Nat} (fA:Po.Fm A α) (lA:A.length=s+1) (mon:A.getD s 0=α) (k:Nat):∃ H C,Po.Fm H C/\(∀ x,E H C x=E A α x^k)/\q H C (k*s)=1:=by
 obtain ⟨H,C,fH,eH,qH⟩:=Ca.pow_pl fA k
 refine ⟨H,C,fH,eH,?_⟩
 rw [qH,Ca.pw_cp,cp_top (fun i hi=>fn_out (by omega)),show fn A s=α from mon]
 have n2:=ne_of_pos (show 0<α^k from bH fA.pos)
 generalize ((α^k:Int):Rat)=u at *
 grind
theorem top_split {W:List Int} {w:Int} {l:Nat} (fW:Po.Fm W w) (lW:W.length=l+1):∃ r,Ap.Pl' l r/\∀ y,E W w y=q W w l*y^l+r y:=by
 obtain ⟨H,C,fH,eH,qH⟩:=pow_top (A:=Pc.X) (α:=1) (s:=1) ⟨by decide,.inr (by decide),by decide⟩ rfl rfl l
 rw [du] at qH
 have pH:Ap.Pl' (l+1) (E H C):=((Ap.Pl'.x.pow (s:=1) l).congr fun x=>by rw [eH,E_X]).mono (by omega)
 obtain ⟨D,e,fD,eD,lD⟩:=((Ap.Pl'.of fW).mono (m:=l+1) (by omega)).add (pH.smul (-(q W w l)))
 have eD:∀ x,E D e x=E W w x + -(q W w l)*E H C x:=eD
 have qe:=Ap.q_lin (u:=q W w l) fW fH fD (fun x=>by rw [eD x];grind) l
 rw [qH] at qe
 have z:q D e l=0:=by grind
 refine ⟨E D e,⟨D,e,fD,fun _=>rfl,Ap.len_cut fD lD z⟩,fun y=>?_⟩
 rw [eD y,eH,E_X]
 grind
theorem mon_comp {W A G:List Int} {w α U:Int} {l s:Nat} (fW:Po.Fm W w) (lW:W.length=l+1) (l1:1<=l) (mW:W.getD l 0=w) (fA:Po.Fm A α) (lA:A.length=s+1) (s1:1<=s) (mA:A.getD s 0=α) (fG:Po.Fm G U) (eG:∀ x,E G U x=E W w (E A α x)):G.getD (l*s) 0=U:=by
 obtain ⟨r,⟨R,C,fR,eR,lR⟩,e⟩:=top_split fW lW
 obtain ⟨H,c,fH,eH,qH⟩:=pow_top fA lA mA l
 have pA:Ap.Pl' (s+1) (E A α):=lA ▸ Ap.Pl'.of fA
 obtain ⟨S,d,fS,eS,lS⟩:=Ap.Pl'.comp (P:=R) (B:=C) pA
 have eS:∀ x,E S d x=E R C (E A α x):=eS
 have qW:q W w l=1:=by
  unfold q
  rw [mW]
  have:=ne_of_pos fW.pos
  grind
 have ls:l*s=s*(l-1)+s:=by
  obtain ⟨j,rfl⟩:∃ j,l=j+1:=⟨l-1,by omega⟩
  rw [cE,aT,bt]
 have b:s*(R.length-1)<=s*(l-1):=ah _ (by omega)
 have qe:=Ap.q_lin (u:=1) fG fH fS (fun x=>by rw [eG,e,eS,eR,eH,qW]) (l*s)
 rw [qH,q_out (P:=S) (by omega)] at qe
 have qe:q G U (l*s)=((1:Int):Rat) / ((1:Int):Rat):=by rw [qe];grind
 have:=(div_eq (aw fG.pos) (by decide)).mp qe
 omega
theorem sem_of {P G:List Int} {B U:Int} {k s:Nat} {c:Rat} {r:Rat->Rat} (k1:1<=k) (s1:1<=s) (fP:Po.Fm P B) (fG:Po.Fm G U) (lG:G.length=s+1) (mG:G.getD s 0=U) (hr:Ap.Pl' (k*s-s+1) r) (e:∀ x,E P B x=c*E G U x^k+r x):Ca.Sem P B k s G U:=by
 have ks:s<=k*s:=aN _ k1
 obtain ⟨H,C,fH,eH,qH⟩:=pow_top fG lG mG k
 have hr':=hr
 obtain ⟨S,d,fS,eS,lS⟩:=hr'
 have qe:=Ap.q_lin (u:=c) fP fH fS (fun x=>by rw [e,eH,eS]) (k*s)
 rw [qH,q_out (P:=S) (by omega)] at qe
 have qe:q P B (k*s)=c:=by rw [qe];grind
 exact ⟨r,hr,fun x=>by rw [qe];exact e x⟩
theorem cn_comp {P R A W G:List Int} {B C α w U:Int} {k l s:Nat} (k1:1<=k) (l1:1<=l) (s1:1<=s) (fP:Po.Fm P B) (fA:Po.Fm A α) (lA:A.length=s+1) (mA:A.getD s 0=α) (A0:A.getD 0 0=0) (fR:Po.Fm R C) (lR:R.length=k*l+1) (eP:∀ x,E P B x=E R C (E A α x)) (cW:Cn R k l W w) (fG:Po.Fm G U) (eG:∀ x,E G U x=E W w (E A α x)):Cn P k (l*s) G U:=by
 obtain ⟨fW,lW,cW⟩:=cW
 obtain ⟨mW,W0⟩:=cand_mon cW l1
 have lG:=comp_len fW lW fA lA s1 fG eG
 have mG:=mon_comp fW lW l1 mW fA lA s1 mA fG eG
 have ls1:1<=l*s:=gb l1 s1
 obtain ⟨r,⟨S,d,fS,eS,lS⟩,e⟩:=cW.sem fR lR fW lW k1 l1
 have pA:Ap.Pl' (s+1) (E A α):=lA ▸ Ap.Pl'.of fA
 have pr:Ap.Pl' (k*(l*s)-l*s+1) fun x=>r (E A α x):=((Ap.Pl'.comp (P:=S) (B:=d) pA).congr fun x=>eS _).mono (by
  have b:s*(S.length-1)<=s*(k*l-l):=ah _ (by omega)
  have b2:s*(k*l-l)=k*(l*s)-l*s:=by rw [Nat.mul_sub,show s*(k*l)=k*(l*s) by rw [bt s,cX],bt s l]
  omega)
 have sm:=sem_of k1 ls1 fP fG lG mG pr (c:=q R C (k*l)) fun x=>by rw [eP,e,eG]
 refine ⟨fG,lG,sm.cand fP fG lG k1 ls1 mG ?_⟩
 have z:q G U 0=((0:Int):Rat) / ((1:Int):Rat):=by
  have a0:E A α 0=0:=by
   rw [q_zero]
   unfold q
   rw [A0]
   show (0:Rat) / _=0
   grind
  rw [← q_zero,eG,a0,q_zero]
  unfold q
  rw [show W.getD 0 0=0 from W0]
  show (0:Rat) / _=(0:Rat) / _
  grind
 have:=(div_eq (aw fG.pos) (by decide)).mp z
 omega
end Dp
namespace Dp
open PySem L2 Cv Hv Pc Qp
theorem cn_ex {P:List Int} {k s:Nat} (k1:1<=k) (s1:1<=s) (hL:P.getD (k*s) 0≠0):∃ G U,Cn P k s G U:=by
 have km1:k<=k*s:=br _ s1
 have km2:s<=k*s:=aN _ k1
 obtain ⟨c,hc⟩:∃ c:Int,c=(((P.getD (k*s) 0).natAbs:Nat):Int)*k*k:=⟨_,rfl⟩
 have c0:0<c:=by
  rw [hc]
  have x1:0<(P.getD (k*s) 0).natAbs:=by omega
  exact ax (ax (by omega) (by omega)) (by omega)
 have fa:=Ca.falls (P:=fun i=>P.getD i 0) (n:=k*s) (k:=k) (c:=c) rfl hL hc
 obtain ⟨a,ea⟩:∃ a:Nat->Int,∀ j,a j=if j<=k*s then (P.getD (k*s-j) 0*c^j).fdiv (P.getD (k*s) 0) else 0:=⟨_,fun _=>rfl⟩
 have a0:a 0=1:=by rw [ea,if_pos (aC _)];exact (fa 0 (aC _)).2.1 rfl
 have ad:∀ i,(k*k:Int)∣a (i+1):=fun i=>by
  rw [ea]
  by_cases z:i+1<=k*s
  ·rw [if_pos z]
   exact (fa _ z).2.2 (eu _)
  ·rw [if_neg z]
   exact fU _
 obtain ⟨g,g0,gd,ge⟩:=Ca.root k1 (a:=a) a0 ad (s-1)
 obtain ⟨R,C,fR,w⟩:=Ap.has (F:=fun i=>if i=0 then 0 else if i<=s then g (s-i)*c^(i-1) else 0) (n:=s+1) (c:=c^(s-1)) (bH c0) (fun k hk=>by
  show (if k=0 then (0:Int) else if k<=s then g (s-k)*c^(k-1) else 0)=0
  rw [if_neg (by omega),if_neg (by omega)])
 have hw':∀ j,j<s->R.getD (j+1) 0*c^(s-1)=g (s-(j+1))*c^j*C:=fun j hj=>by
  have:=w (j+1)
  rw [if_neg (Nat.succ_ne_zero _),if_pos (Nat.succ_le_of_lt hj)] at this
  exact this
 have r1:=Ca.rise (R:=fun i=>R.getD i 0) (g:=g) c0 hw'
 have r0:R.getD 0 0=0:=by
  have:=w 0
  rw [if_pos rfl,aE] at this
  exact (bT.mp this).resolve_right (ca (aw c0))
 have rm:R.getD s 0=C:=by
  have:=r1 0 s1
  rw [aW,bu,g0,cC] at this
  exact this
 have lR:R.length=s+1:=by
  have l1:R.length<=s+1:=Pc.len_of fR (bH c0) w fun k hk=>by
   show (if k=0 then (0:Int) else if k<=s then g (s-k)*c^(k-1) else 0)=0
   rw [if_neg (by omega),if_neg (by omega)]
  rcases am s R.length with x | x
  ·omega
  ·rw [getD_out x] at rm
   have:=fR.pos
   omega
 refine ⟨R,C,fR,lR,c,g,c0,g0,fun j hj=>?_,r1,r0⟩
 have:=(fa j (by omega)).1
 show P.getD (k*s-j) 0*c^j=P.getD (k*s) 0*Ca.pw g k j
 rw [ge j (by omega),ea,if_pos (by omega)]
 exact this.symm
theorem cn_over {P A:List Int} {B α:Int} {a k l s:Nat} (k1:1<=k) (l1:1<=l) (s1:1<=s) (fP:Po.Fm P B) (lP:P.length=k*(l*s)+1) (a1:1<=a) (cA:Cn P a s A α) (o:Out P B A α):∃ G U W w,Cn P k (l*s) G U/\Po.Fm W w/\W.length=l+1/\∀ x,E G U x=E W w (E A α x):=by
 obtain ⟨fA,lA,cA⟩:=cA
 obtain ⟨mA,A0⟩:=cand_mon cA s1
 obtain ⟨R,C,fR,eP⟩:=o
 have lR:R.length=k*l+1:=by
  rcases cb R.length with y | y
  ·have r0:R=[]:=bP.mp y
   have:P=[]:=(E_inj fP Ap.nil_fm fun x=>by rw [eP,r0,Ap.E_nil,Ap.E_nil]).1
   rw [this] at lP
   simp at lP
  ·obtain ⟨d,hd⟩:∃ d,R.length=d+1:=⟨R.length-1,by omega⟩
   have e:=comp_len fR hd fA lA s1 fP eP
   rw [lP] at e
   have:d=k*l:=e7 s1 (by rw [cX];omega)
   omega
 obtain ⟨W,w,cW⟩:=cn_ex k1 l1 (fm_top fR lR)
 obtain ⟨G,U,og⟩:=of_ex cW.1 fA
 have eG:∀ x,E G U x=E W w (E A α x):=fun x=>E_of cW.1.pos fA.pos og x
 exact ⟨G,U,W,w,cn_comp k1 l1 s1 fP fA lA mA A0 fR lR eP cW og.1 eG,cW.1,cW.2.1,eG⟩
theorem cn_lcm {P A A':List Int} {B α α':Int} {a a' k l l' s s' L:Nat} (k1:1<=k) (s1:1<=s) (s1':1<=s') (L1:1<=L) (fP:Po.Fm P B) (lP:P.length=k*L+1) (a1:1<=a) (a1':1<=a') (eL:l*s=L) (eL':l'*s'=L) (least:∀ d,1<=d->s∣d->s'∣d->L<=d)
  (cA:Cn P a s A α) (o:Out P B A α) (cA':Cn P a' s' A' α') (o':Out P B A' α'):∃ G U,Cn P k L G U/\Out P B G U/\Out G U A α/\Out G U A' α':=by
 have l1:1<=l:=by
  rcases cb l with y | y
  ·rw [y,dO] at eL
   omega
  ·exact y
 have l1':1<=l':=by
  rcases cb l' with y | y
  ·rw [y,dO] at eL'
   omega
  ·exact y
 obtain ⟨G,U,W,w,cG,fW,lW,eG⟩:=cn_over k1 l1 s1 fP (by rw [eL];exact lP) a1 cA o
 obtain ⟨G',U',W',w',cG',fW',lW',eG'⟩:=cn_over k1 l1' s1' fP (by rw [eL'];exact lP) a1' cA' o'
 rw [eL] at cG
 rw [eL'] at cG'
 obtain ⟨rfl,rfl⟩:=Cn.uniq fP lP k1 cG cG'
 exact ⟨G,U,cG,lcm_out cA.1 cA.2.1 s1 cA'.1 cA'.2.1 s1' cG.1 cG.2.1 fW lW l1 eL eG fW' lW' l1' eL' eG' least o o',⟨W,w,fW,eG⟩,⟨W',w',fW',eG'⟩⟩
end Dp
namespace Dp
open PySem L2 Cv Hv Pc Qp
theorem mad_lcm {P:List Int} {B:Int} {n s s':Nat} (fP:Po.Fm P B) (lP:P.length=n+1) (n1:1<=n) (d:s∣n) (d':s'∣n) (h:Mad P B (n / s) s) (h':Mad P B (n / s') s'):Nat.lcm s s'∣n/\Mad P B (n / Nat.lcm s s') (Nat.lcm s s'):=by
 have s1:1<=s:=cr d n1
 have s1':1<=s':=cr d' n1
 obtain ⟨A,α,R,C,fA,lA,cA,fR,eR⟩:=h
 obtain ⟨A',α',R',C',fA',lA',cA',fR',eR'⟩:=h'
 have dn:Nat.lcm s s'∣n:=gh d d'
 refine ⟨dn,?_⟩
 have L1:1<=Nat.lcm s s':=Nat.lcm_pos s1 s1'
 obtain ⟨l,el⟩:s∣Nat.lcm s s':=Nat.dvd_lcm_left ..
 obtain ⟨l',el'⟩:s'∣Nat.lcm s s':=Nat.dvd_lcm_right ..
 have least:∀ d,1<=d->s∣d->s'∣d->Nat.lcm s s'<=d:=fun d d1 x y=>bv d1 (gh x y)
 have q1:∀ {t:Nat},1<=t->t∣n->1<=n / t:=fun t1 d=>dW (bv n1 d) t1
 obtain ⟨G,U,c,⟨S,e,fS,eS⟩,_⟩:=cn_lcm (k:=n / Nat.lcm s s') (q1 L1 dn) s1 s1' L1 fP (by rw [df dn];exact lP) (q1 s1 d) (q1 s1' d') (by rw [bt];exact el.symm) (by rw [bt];exact el'.symm) least ⟨fA,lA,cA⟩ ⟨R,C,fR,eR⟩ ⟨fA',lA',cA'⟩ ⟨R',C',fR',eR'⟩
 exact ⟨G,U,S,e,c.1,c.2.1,c.2.2,fS,eS⟩
end Dp
namespace Dp
open PySem L2 Cv Hv Pc Qp
theorem lead_of {P R A:List Int} {B C α:Int} {k s:Nat} (k1:1<=k) (s1:1<=s) (fP:Po.Fm P B) (fA:Po.Fm A α) (lA:A.length=s+1) (mA:A.getD s 0=α) (fR:Po.Fm R C) (lR:R.length=k+1) (e:∀ x,E P B x=E R C (E A α x)):q P B (k*s)=q R C k:=by
 obtain ⟨r,⟨S,d,fS,eS,lS⟩,er⟩:=top_split fR lR
 obtain ⟨H,c,fH,eH,qH⟩:=pow_top fA lA mA k
 have pA:Ap.Pl' (s+1) (E A α):=lA ▸ Ap.Pl'.of fA
 obtain ⟨T,t,fT,eT,lT⟩:=Ap.Pl'.comp (P:=S) (B:=d) pA
 have eT:∀ x,E T t x=E S d (E A α x):=eT
 have ks:k*s=s*(k-1)+s:=by
  obtain ⟨j,rfl⟩:∃ j,k=j+1:=⟨k-1,by omega⟩
  rw [cE,aT,bt]
 have b:s*(S.length-1)<=s*(k-1):=ah _ (by omega)
 have qe:=Ap.q_lin (u:=q R C k) fP fH fT (fun x=>by rw [e,er,eT,eS,eH]) (k*s)
 rw [qH,q_out (P:=T) (by omega)] at qe
 rw [qe]
 grind
theorem out_len {P R A:List Int} {B C α:Int} {k s:Nat} (s1:1<=s) (fP:Po.Fm P B) (lP:P.length=k*s+1) (fA:Po.Fm A α) (lA:A.length=s+1) (fR:Po.Fm R C) (e:∀ x,E P B x=E R C (E A α x)):R.length=k+1:=by
 rcases cb R.length with y | y
 ·have r0:R=[]:=bP.mp y
  have:P=[]:=(E_inj fP Ap.nil_fm fun x=>by rw [e,r0,Ap.E_nil,Ap.E_nil]).1
  rw [this] at lP
  simp at lP
 ·obtain ⟨d,hd⟩:∃ d,R.length=d+1:=⟨R.length-1,by omega⟩
  have h:=comp_len fR hd fA lA s1 fP e
  rw [lP] at h
  have:d=k:=e7 s1 (by omega)
  omega
theorem quad (p:Rat):∃ G U,Po.Fm G U/\G.length=3/\G.getD 2 0=U/\G.getD 0 0=0/\∀ x,E G U x=x^2+p*x:=by
 obtain ⟨G,U,f,h⟩:=Ap.er_pl (fun i=>[0,p,1].getD i 0) 3
 have q2:q G U 2=1:=h 2
 have q1:q G U 1=p:=h 1
 have q0:q G U 0=0:=h 0
 have l3:G.length<=3:=by
  rcases am 3 G.length with y | y
  ·refine absurd ?_ (q_lead f (by rintro rfl;simp at y))
   rw [h,if_neg (by omega)]
  ·exact y
 have lg:G.length=3:=by
  rcases am 2 G.length with y | y
  ·omega
  ·rw [q_out y] at q2
   exact absurd q2 (by decide)
 have m:G.getD 2 0=U:=by
  have a:q G U 2=((1:Int):Rat) / ((1:Int):Rat):=by rw [q2];grind
  have:=(div_eq (aw f.pos) (by decide)).mp a
  omega
 have z:G.getD 0 0=0:=by
  have a:q G U 0=((0:Int):Rat) / ((1:Int):Rat):=by rw [q0];grind
  have:=(div_eq (aw f.pos) (by decide)).mp a
  omega
 refine ⟨G,U,f,lg,m,z,fun x=>?_⟩
 rw [E_er (N:=3) l3]
 show 0+q G U 0*x^0+q G U 1*x^1+q G U 2*x^2=_
 rw [q0,q1,q2]
 grind
theorem mad_two {P:List Int} {B:Int} (fP:Po.Fm P B) (lP:P.length=13) (h4:Mad P B 3 4) (h6:Mad P B 2 6):Mad P B 6 2:=by
 obtain ⟨A,α,R,C,fA,lA,cA,fR,eR⟩:=h4
 obtain ⟨A',α',S,d,fA',lA',cA',fS,eS⟩:=h6
 obtain ⟨mA,A0⟩:=cand_mon cA (by decide)
 obtain ⟨mA',A0'⟩:=cand_mon cA' (by decide)
 have lR:=out_len (k:=3) (s:=4) (by decide) fP lP fA lA fR eR
 have lS:=out_len (k:=2) (s:=6) (by decide) fP lP fA' lA' fS eS
 have qR:=lead_of (k:=3) (s:=4) (by decide) (by decide) fP fA lA mA fR lR eR
 have qS:=lead_of (k:=2) (s:=6) (by decide) (by decide) fP fA' lA' mA' fS lS eS
 have one:∀ {X:List Int} {c:Int} {i:Nat},Po.Fm X c->X.getD i 0=c->q X c i=1:=fun f h=>by
  unfold q
  rw [h]
  have:=ne_of_pos f.pos
  grind
 have r0:q P B 12≠0:=by
  have:=q_lead fP (by rintro rfl;simp at lP)
  rw [lP] at this
  exact this
 have qR:q P B 12=q R C 3:=qR
 have qS:q P B 12=q S d 2:=qS
 have eA:∀ x,E A α x=x^4+q A α 3*x^3+q A α 2*x^2+q A α 1*x+q A α 0:=fun x=>by
  rw [E_er (N:=5) (dc lA)]
  show 0+q A α 0*x^0+q A α 1*x^1+q A α 2*x^2+q A α 3*x^3+q A α 4*x^4=_
  rw [one fA mA]
  grind
 have eA':∀ x,E A' α' x=x^6+q A' α' 5*x^5+q A' α' 4*x^4+q A' α' 3*x^3+q A' α' 2*x^2+q A' α' 1*x+q A' α' 0:=fun x=>by
  rw [E_er (N:=7) (dc lA')]
  show 0+q A' α' 0*x^0+q A' α' 1*x^1+q A' α' 2*x^2+q A' α' 3*x^3+q A' α' 4*x^4+q A' α' 5*x^5+q A' α' 6*x^6=_
  rw [one fA' mA']
  grind
 have fs:=Ap.four_six (p3:=q A α 3) (p2:=q A α 2) (p1:=q A α 1) (p0:=q A α 0) (v5:=q A' α' 5) (v4:=q A' α' 4) (v3:=q A' α' 3) (v2:=q A' α' 2) (v1:=q A' α' 1) (v0:=q A' α' 0) (r2:=q R C 2 / q P B 12) (r1:=q R C 1 / q P B 12) (r0:=q R C 0 / q P B 12) (t1:=q S d 1 / q P B 12) (t0:=q S d 0 / q P B 12) fun x=>by
  rw [← eA,← eA']
  have e:=(eR x).symm.trans (eS x)
  rw [E_er (R:=R) (C:=C) (N:=4) (dc lR),E_er (R:=S) (C:=d) (N:=3) (dc lS)] at e
  have e:0+q R C 0*E A α x^0+q R C 1*E A α x^1+q R C 2*E A α x^2+q R C 3*E A α x^3=0+q S d 0*E A' α' x^0+q S d 1*E A' α' x^1+q S d 2*E A' α' x^2:=e
  rw [← qR,← qS] at e
  generalize E A α x=y at *
  generalize E A' α' x=z at *
  generalize q P B 12=r at *
  grind
 obtain ⟨G,U,fG,lG,mG,G0,eG⟩:=quad (q A α 3 / 2)
 obtain ⟨T,t,fT,lT,_,_,eT⟩:=quad (q A α 2-q A α 3*q A α 3 / 4)
 have a0:q A α 0=0:=by
  unfold q
  rw [show A.getD 0 0=0 from A0]
  show (0:Rat) / _=0
  grind
 have eAT:∀ x,E A α x=E T t (E G U x):=fun x=>by
  rw [eA,eT,eG,a0,fs]
  grind
 obtain ⟨V,v,oV⟩:=of_ex fR fT
 have eP:∀ x,E P B x=E V v (E G U x):=fun x=>by rw [eR,eAT,E_of fR.pos fT.pos oV]
 have lV:=out_len (k:=6) (s:=2) (by decide) fP lP fG lG oV.1 eP
 obtain ⟨W,w,cW⟩:=cn_ex (P:=V) (k:=6) (s:=1) (by decide) (by decide) (fm_top oV.1 lV)
 obtain ⟨mW,W0⟩:=cand_mon cW.2.2 (by decide)
 have eW:∀ y,E W w y=y:=fun y=>by
  rw [E_two (dc cW.2.1),show W.getD 0 0=0 from W0,show W.getD 1 0=w from mW]
  have:=ne_of_pos cW.1.pos
  generalize (w:Rat)=g at *
  show (0:Rat) / g+g / g*y=y
  grind
 have c:=cn_comp (k:=6) (l:=1) (s:=2) (by decide) (by decide) (by decide) fP fG lG mG G0 oV.1 lV eP cW fG fun x=>(eW _).symm
 exact ⟨G,U,V,v,c.1,c.2.1,c.2.2,oV.1,eP⟩
end Dp
namespace Dp
open PySem L2
def Wt (y:Nat) (R:List Int) (C:Int) (s:Nat):Prop:=∀ j,j<=s->(R.getD (s-j) 0).natAbs<=C.natAbs*2^(y*j)
theorem Wt.pz {y b s:Nat} {R:List Int} {C:Int} (h:Wt y R C s) (fm:Po.Fm R C) (l:R.length=s+1) (hb:Lt2 b C):Pc.Pz (b+y*s) b R C:=by
 refine ⟨fm,fun i=>?_,hb⟩
 rcases am s i with z | z
 ·rw [getD_out (by omega)]
  exact zlt _
 ·have w:=h (s-i) (by omega)
  rw [show s-(s-i)=i by omega] at w
  have p:2^(y*(s-i))<=2^(y*s):=cw (by decide) (ah _ (by omega))
  have hb:C.natAbs<2^b:=hb
  show (R.getD i 0).natAbs<2^(b+y*s)
  rw [dr]
  exact bO w (bO (ah _ p) (db hb (bY (by decide))))
def iP:SpB:=.of 2 (α:=List Int×Int×Nat×Nat×Nat×Nat) (fun (P,B,k,s,M,Z) ds=>ds=[pD P B,.int s]/\P.length=k*s+1/\1<=k/\1<=s/\k*s<=12/\(∀ i,Lt2 M (P.getD i 0))/\Lt2 Z (P.getD (k*s) 0)/\M+(Z+8)*(k*s)<=99000/\Z<=30000/\P.getD (k*s) 0≠0)
 (fun (P,B,k,s,M,Z) d=>∃ R C,d=pD R C/\Cn P k s R C/\Wt (M+(Z+8)*(k*s)+24) R C s/\C.natAbs<=((P.getD (k*s) 0).natAbs*k*k)^(s-1))
theorem kg:Does 9 nV iP:=by
 rintro ds Q hn ⟨⟨ts,b,k,m,M,Z⟩,⟨rfl,ln,k1,m1,km,hM,hZ,hz,Z3,hL⟩,q⟩
 dsimp only at ln k1 m1 km hM hZ hz Z3 hL q
 have km1:k<=k*m:=br _ m1
 have km2:m<=k*m:=aN _ k1
 refine ⟨rfl,(ts,b),rfl,?_⟩
 rintro _ rfl
 have ek:((k*m:Nat):Int).fdiv (m:Int)=(k:Int):=by
  rw [show ((k*m:Nat):Int)=(k:Int)*m by push_cast;rfl]
  exact da _ (by omega)
 have lk:Lt2 4 ((k:Nat):Int):=by unfold Lt2;omega
 have lm:Lt2 7 ((m:Nat):Int):=by unfold Lt2;omega
 have ll:Lt2 Z (((ts.getD (k*m) 0).natAbs:Nat):Int):=hZ.le (by rw [aZ];exact aj _)
 suffices h1:iW.run (endQ Q) [.val (pD ts b),.val (.int m),.val (.int ((k*m:Nat):Int)),.no,.no,.no,.no,.no,.no] by
  show iW.run (endQ Q) [.val (pD ts b),.val (.int m),.val (.int ((ts.length:Int)-1)),.no,.no,.no,.no,.no,.no]
  rw [ln,show ((k*m+1:Nat):Int)-1=((k*m:Nat):Int) by omega]
  exact h1
 refine ⟨⟨by omega,7,lm,by decide⟩,?_⟩
 suffices h2:iV.run (endQ Q) [.val (pD ts b),.val (.int m),.val (.int ((k*m:Nat):Int)),.val (.int k),.no,.no,.no,.no,.no] by
  show iV.run (endQ Q) [.val (pD ts b),.val (.int m),.val (.int ((k*m:Nat):Int)),.val (.int (((k*m:Nat):Int).fdiv (m:Int))),.no,.no,.no,.no,.no]
  rw [ek]
  exact h2
 obtain ⟨c,hc⟩:∃ c:Int,c=(((ts.getD (k*m) 0).natAbs:Nat):Int)*k*k:=⟨_,rfl⟩
 have lc:Lt2 (Z+8) c:=by rw [hc];exact ((ll.mul lk).mul lk).mono (by omega)
 have m100:(Z+8+1)*(k*m+1)<=(Z+9)*13:=ah _ (by omega)
 suffices h3:iU.run (endQ Q) [.val (pD ts b),.val (.int m),.val (.int ((k*m:Nat):Int)),.val (.int k),.val (.int c),.no,.no,.no,.no] by
  refine itD_nat (at_int (by omega)) ⟨(congrArg (CMulB · _) (abs_is _)).mpr ⟨_,_,ll,lk,by omega⟩,(congrArg (fun z=>CMulB (z*_) _) (abs_is _)).mpr ⟨_,_,ll.mul lk,lk,by omega⟩,?_⟩
  show iU.run (endQ Q) [.val (pD ts b),.val (.int m),.val (.int ((k*m:Nat):Int)),.val (.int k),.val (.int ((if ts.getD (k*m) 0<0 then -(ts.getD (k*m) 0) else ts.getD (k*m) 0)*k*k)),.no,.no,.no,.no]
  rw [abs_is,← hc]
  exact h3
 refine ⟨rfl,(ts,c,k*m,M,Z+8,Z),⟨rfl,ln,by show k*m<=100;omega,hM,lc,by show M<=1000000;omega,hZ,by show Z<=9000000;omega,by show (Z+8+1)*(k*m+1)<=400000;omega,hL⟩,?_⟩
 rintro _ ⟨rs,rfl,lrs,hrs⟩
 suffices h4:iT.run (endQ Q) [.val (pD ts b),.val (.int m),.val (.int ((k*m:Nat):Int)),.val (.int k),.val (.int c),.val (.lst (rs.reverse.map .int)),.no,.no,.no] by
  show iT.run (endQ Q) [.val (pD ts b),.val (.int m),.val (.int ((k*m:Nat):Int)),.val (.int k),.val (.int c),.val (.lst (rs.map D.int).reverse),.no,.no,.no]
  rw [← gK]
  exact h4
 have fa:=Ca.falls (P:=fun i=>ts.getD i 0) (n:=k*m) (k:=k) (c:=c) rfl hL hc
 have ea:∀ j,j<=k*m->rs.reverse.getD j 0=(ts.getD (k*m-j) 0*c^j).fdiv (ts.getD (k*m) 0):=fun j hj=>by
  rw [rev_getD lrs hj,hrs _ (by omega),show k*m-(k*m-j)=j by omega]
 have lr:rs.reverse.length=k*m+1:=by rw [bC,lrs]
 have a0:rs.reverse.getD 0 0=1:=by rw [ea 0 (aC _)];exact (fa 0 (aC _)).2.1 rfl
 have ad:∀ i,(k*k:Int)∣rs.reverse.getD (i+1) 0:=fun i=>by
  rcases am (k*m) (i+1) with z | z
  ·rw [getD_out (by omega)]
   exact fU _
  ·rw [ea _ z]
   exact (fa _ z).2.2 (eu _)
 have al:∀ i,Lt2 (M+(Z+8)*(k*m)+1) (rs.reverse.getD i 0):=fun i=>by
  rcases am (k*m) i with z | z
  ·rw [getD_out (by omega)]
   exact zlt _
  ·rw [ea _ z]
   refine fdiv_lt hL (fa _ z).1 (((hM _).mul (Hv.pow_lt lc i)).mono ?_)
   have:(Z+8)*i<=(Z+8)*(k*m):=ah _ z
   omega
 obtain ⟨g,g0,gd,ge⟩:=Ca.root k1 (a:=fun i=>rs.reverse.getD i 0) a0 ad (m-1)
 refine ⟨rfl,(rs.reverse,k,m,M+(Z+8)*(k*m)+1,g),⟨rfl,k1,by show k<=100;omega,m1,by show m<=100;omega,by omega,by show M+(Z+8)*(k*m)+1<=100000;omega,al,a0,g0,ge⟩,?_⟩
 rintro _ ⟨us,rfl,lu,hus,hul⟩
 generalize hA:M+(Z+8)*(k*m)+1=A at *
 have c0:0<c:=by
  rw [hc]
  have x1:0<(ts.getD (k*m) 0).natAbs:=by omega
  exact ax (ax (by omega) (by omega)) (by omega)
 have zc:(Z+8+1)*(m+1)<=(Z+9)*13:=ah _ (by omega)
 have lq:(upTo 1 ((m:Int)+1-1).toNat).length=m:=by rw [upTo_len];omega
 refine ⟨⟨by omega,by omega,by omega,by omega⟩,(congrArg (· <= sizeLine) lq).mpr (szN (by omega)),nI (fun j=>g (m-(j+1))*c^j),nI.nil,fun i d ys hd _ hy=>?_,fun ys _ hy=>?_⟩
 ·obtain ⟨hi,rfl⟩:=upTo_got hd
  have hi:i<m:=by omega
  have e1:(1:Int)+(i:Int)=((i+1:Nat):Int):=by omega
  rw [e1]
  have em:(m:Int)-((i+1:Nat):Int)=((m-(i+1):Nat):Int):=by omega
  have zi:(Z+8)*i<=(Z+8+1)*(m+1):=aU (by omega) (by omega)
  have zg:(A+22)*(m-(i+1))<=(A+22)*100:=ah _ (by omega)
  refine itD_of (d:=.int (g (m-(i+1)))) ?_ ⟨rfl,(c,i,Z+8),⟨?_,lc,by show i<=200;omega,?_⟩,?_⟩
  ·rw [em,← hus (m-(i+1)) (by omega)]
   exact atI_nat (at_int (by omega))
  ·show [D.int c,.int (((i+1:Nat):Int)-1)]=[D.int c,.int (i:Int)]
   rw [show ((i+1:Nat):Int)-1=(i:Int) by omega]
  ·exact aB (ah _ (show i+1<=m+1 by omega)) (by omega)
  ·rintro _ rfl
   exact ⟨⟨_,_,hul (m-(i+1)) (by omega),Hv.pow_lt lc i,by omega⟩,hy.snoc rfl⟩
 have hy:nI _ (upTo 1 ((m:Int)+1-1).toNat).length ys:=hy
 rw [lq] at hy
 obtain ⟨ws,rfl,lw,hws⟩:=hy
 have z2:(Z+8)*(m-1)<=(Z+8)*12:=ah _ (by omega)
 have lcm:Lt2 9000000 (c^(m-1)):=(Hv.pow_lt lc (m-1)).mono (by omega)
 have pc:0<c^(m-1):=bH c0
 refine ⟨sz1,(congrArg (fun n=>1+n<=sizeLine) (ab _)).mpr (szN (by omega)),rfl,(c,m-1,Z+8),⟨?_,lc,by show m-1<=200;omega,?_⟩,?_⟩
 ·show [D.int c,.int ((m:Int)-1)]=[D.int c,.int ((m-1:Nat):Int)]
  rw [show (m:Int)-1=((m-1:Nat):Int) by omega]
 ·exact aB (ah _ (show m-1+1<=m+1 by omega)) (by omega)
 rintro _ rfl
 refine ⟨rfl,(0::ws,c^(m-1)),⟨rfl,pc,lcm,by rw [aQ];omega⟩,?_⟩
 rintro _ ⟨R,C,rfl,fm,hw,hle⟩
 have hw':∀ j,j<m->R.getD (j+1) 0*c^(m-1)=g (m-(j+1))*c^j*C:=fun j hj=>by
  have:=hw (j+1)
  rw [bG,hws j hj] at this
  exact this
 have r1:=Ca.rise (R:=fun i=>R.getD i 0) (g:=g) c0 hw'
 have r0:R.getD 0 0=0:=by
  have:=hw 0
  rw [cZ,aE] at this
  exact (bT.mp this).resolve_right (by omega)
 have rm:R.getD m 0=C:=by
  have:=r1 0 m1
  rw [aW,bu,g0,cC] at this
  exact this
 have lR:R.length=m+1:=by
  have l1:R.length<=m+1:=by rw [aQ,lw] at hle;exact hle
  rcases am m R.length with x | x
  ·omega
  ·rw [getD_out x] at rm
   have:=fm.pos
   omega
 refine q _ ⟨R,C,rfl,⟨fm,lR,c,g,c0,g0,fun j hj=>?_,r1,r0⟩,fun j hj=>?_,?_⟩
 ·have:=(fa j (by omega)).1
  rw [ge j (by omega),ea j (by omega)]
  exact this.symm
 ·rcases am j m with x | x
  ·have e:=congrArg Int.natAbs (r1 j x)
   rw [aJ,aJ,e8] at e
   have e:(R.getD (m-j) 0).natAbs*c.natAbs^j=(g j).natAbs*C.natAbs:=e
   have cj:1<=c.natAbs^j:=bY (by omega)
   have gj:(g j).natAbs<=2^((M+(Z+8)*(k*m)+24)*j):=by
    rcases cb j with y | y
    ·rw [y,g0]
     exact aj 1
    ·have h:=hul j x
     refine aB (ez h) (cw (by decide) ?_)
     have:(A+22)*j+j=(A+23)*j:=(aT (A+22) j ▸ rfl)
     rw [show M+(Z+8)*(k*m)+24=A+23 by omega]
     omega
   calc (R.getD (m-j) 0).natAbs<=(R.getD (m-j) 0).natAbs*c.natAbs^j:=br _ cj
    _=C.natAbs*(g j).natAbs:=by rw [e,bt]
    _<=_:=ah _ gj
  ·rw [show m-j=0 by omega,r0]
   exact aC _
 ·have e:=(Po.size fm pc hw).1
  rw [e8,hc,aJ,aJ,aZ,aZ] at e
  exact e
end Dp
namespace Dp
open PySem L2
def iZ:SpB:=.of 1 (α:=List Int×Nat×Nat×Nat) (fun (ts,n,M,Z) ds=>ds=[.tup (ts.map .int)]/\ts.length=n+1/\n<=20/\(∀ i,Lt2 M (ts.getD i 0))/\M<=1000000/\Lt2 Z (ts.getD n 0)/\(Z+1)*(n+2)<=390000/\ts.getD n 0≠0)
 (fun (ts,n,M,Z) d=>∃ c:Int,d = .int c/\0<c/\Lt2 Z c/\∀ j,j<=n->ts.getD n 0∣ts.getD (n-j) 0*c^j)
theorem jJ:Does 5 kU iZ:=by
 rintro ds Q hn ⟨⟨ts,n,M,Z⟩,⟨rfl,ln,n20,hM,M3,hZ,Z9,hL⟩,q⟩
 dsimp only at ln n20 hM M3 hZ Z9 hL q
 have Zl:Z+1<=(Z+1)*(n+2):=br _ (by omega)
 obtain ⟨m,hm⟩:∃ m:Int,m=(((ts.getD n 0).natAbs:Nat):Int):=⟨_,rfl⟩
 have m0:0<m:=by omega
 have lm:Lt2 Z m:=by rw [hm];exact hZ.le (by rw [aZ];exact aj _)
 have dv:∀ y:Int,m∣y↔ts.getD n 0∣y:=fun y=>by rw [hm];exact Int.natAbs_dvd
 have small:∀ c:Int,0<c->c∣m->Lt2 Z c:=fun c c0 hc=>lm.le (bv (by omega) (aR.mpr hc))
 suffices h1:iB.run (endQ Q) [.val (.tup (ts.map .int)),.val (.int n),.val (.int m),.no,.no] by
  refine itD_of (atI_back (j:=1) (n:=n+1) (v:=.int (ts.getD n 0)) (at_int (by omega)) (by rw [ab,ln]) (by decide) (by omega)) ?_
  show iB.run (endQ Q) [.val (.tup (ts.map .int)),.val (.int (((ts.map D.int).length:Int)-1)),.val (.int (if ts.getD n 0<0 then -(ts.getD n 0) else ts.getD n 0)),.no,.no]
  rw [ab,ln,show ((n+1:Nat):Int)-1=(n:Int) by omega,abs_is,← hm]
  exact h1
 have en:((n:Int)+1-1).toNat=n:=by omega
 refine ⟨⟨by omega,by omega,by omega,by omega⟩,fun i s=>∃ (c:Int) (o:SD),s=[.val (.tup (ts.map .int)),.val (.int n),.val (.int m),.val (.int c),o]/\0<c/\c∣m/\∀ j,j<=i->ts.getD n 0∣ts.getD (n-j) 0*c^j,⟨1,.no,rfl,by decide,Int.one_dvd _,fun j hj=>?_⟩,?_,?_⟩
 ·rw [show j=0 by omega,bR]
  exact dD _ _
 ·rintro i d _ hd ⟨c,o,rfl,c0,cm,hj⟩
  obtain ⟨hi,rfl⟩:=upTo_got hd
  have hi:i<n:=by omega
  have e1:(1:Int)+(i:Int)=((i+1:Nat):Int):=by omega
  rw [e1]
  have em:(n:Int)-((i+1:Nat):Int)=((n-(i+1):Nat):Int):=by omega
  have lc:=small c c0 cm
  have b2:(Z+1)*(i+1+1)<=(Z+1)*(n+2):=ah _ (by omega)
  have b3:Z*(i+1)<=(Z+1)*(n+2):=aU (by omega) (by omega)
  refine itD_of (d:=.int (ts.getD (n-(i+1)) 0)) (by rw [em];exact atI_nat (at_int (by omega))) ⟨rfl,(c,i+1,Z),⟨rfl,lc,by omega,by omega⟩,?_⟩
  rintro _ rfl
  refine ⟨⟨_,_,hM _,Hv.pow_lt lc (i+1),by omega⟩,rfl,(m,ts.getD (n-(i+1)) 0*c^(i+1)),rfl,?_⟩
  rintro _ rfl
  dsimp only
  have g0:=cp_pos (a:=m) (b:=ts.getD (n-(i+1)) 0*c^(i+1)) (by omega)
  have gd:=(cp_dvd m (ts.getD (n-(i+1)) 0*c^(i+1))).1
  obtain ⟨e,q0,ql⟩:=fdiv_of_dvd g0 m0 gd
  have nx:=dvd_next (x:=ts.getD (n-(i+1)) 0*c^(i+1)) m0
  have gl:(Fr.cp m (ts.getD (n-(i+1)) 0*c^(i+1))).natAbs<=m.natAbs:=bv (by omega) (aR.mpr gd)
  have lq:=lm.le ql
  have cx:c∣ts.getD (n-(i+1)) 0*c^(i+1):=fj ⟨c^i,by rw [bf,bg]⟩
  refine ⟨⟨by omega,Z,lm.le gl,by omega⟩,⟨_,_,lc,lq,by omega⟩,_,_,rfl,ax c0 q0,step_dvd m0 cm cx,fun j hj'=>?_⟩
  generalize m.fdiv (Fr.cp m (ts.getD (n-(i+1)) 0*c^(i+1)))=y at *
  rw [gr,← bJ]
  rcases bV hj' with z | z
  ·subst z
   have ey:y^(i+1)=y*y^i:=by rw [bf,bg]
   rw [ey,← bJ]
   exact dM ((dv _).mp nx)
  ·exact dM (hj j (by omega))
 ·rintro _ ⟨c,o,rfl,c0,cm,hj⟩
  rw [upTo_len,en] at hj
  exact q _ ⟨c,rfl,c0,small c c0 cm,hj⟩
def jr:SpB:=.of 2 (α:=List Int×List Int×Nat×Nat×Nat×Nat) (fun (L,b,s,N,A,w) ds=>ds=[.lst (L.map .int),.lst (b.map .int)]/\b.length=s+1/\b.getD s 0=1/\1<=s/\s<=100/\L.length<=N+1/\N<=100/\(∀ i,Lt2 (A+w*(N-i)) (L.getD i 0))/\(∀ i,i<=s->Lt2 (w*(s-i)+1) (b.getD i 0))/\A+w*N<=40000000)
 (fun (L,b,s,N,A,w) d=>∃ K R:List Int,d = .tup [.lst (K.map .int),.lst (R.map .int)]/\K.length=L.length-s/\R.length=min L.length s/\(∀ k,L.getD k 0=R.getD k 0+Cv.cv (Cv.fn K) (Cv.fn b) k)/\(∀ i,Lt2 (A+2*(L.length-s)+w*(N-s-i)) (K.getD i 0))/\(∀ i,Lt2 (A+2*(L.length-s)+w*(N-i)) (R.getD i 0)))
theorem mN:Does 7 pF jr:=by
 rintro ds Q hn ⟨⟨L,b,s,N,A,w⟩,⟨rfl,lb,b1,s1,s2,ll,N1,hA,hZ,A8⟩,q⟩
 dsimp only at lb b1 s1 s2 ll N1 hA hZ A8 q
 suffices h2:jH.run (endQ Q) [.val (.lst (L.map .int)),.val (.lst (b.map .int)),.own (L.map .int),.val (.int s),.own [],.no,.no] by
  refine ⟨aC _,?_⟩
  show jH.run (endQ Q) [.val (.lst (L.map .int)),.val (.lst (b.map .int)),.own (L.map .int),.val (.int (((b.map D.int).length:Int)-1)),.own [],.no,.no]
  rw [ab,lb,show ((s+1:Nat):Int)-1=(s:Int) by omega]
  exact h2
 refine ⟨fun st=>∃ (o5 o6:SD) (l M:List Int) (W:Nat->Int),st=[.val (.lst (L.map .int)),.val (.lst (b.map .int)),.own (l.map .int),.val (.int s),.own (M.map .int),o5,o6]/\l.length+M.length=L.length/\(M.length=0\/s<=l.length) /\
   (∀ k,L.getD k 0=l.getD k 0+Cv.cv W (Cv.fn b) k)/\(∀ v,v+s<l.length->W v=0)/\(∀ u,u<M.length->M.getD u 0=W (L.length-s-1-u))/\(∀ v,L.length<=v+s->W v=0)/\(∀ i,Lt2 (A+2*M.length+w*(N-i)) (l.getD i 0))/\(∀ i,Lt2 (A+2*M.length+w*(N-s-i)) (W i)),
  fun st=>match st with | [_,_,.own l,_,_,_,_]=>l.length | _=>0,⟨.no,.no,L,[],fun _=>0,rfl,rfl,.inl rfl,fun k=>?_,fun _ _=>rfl,fun u hu=>absurd hu (cu _),fun _ _=>rfl,fun i=>(hA i).mono (by simp),fun _=>zlt _⟩,?_⟩
 ·rw [Cv.cv_zl fun _=>rfl,bS]
 rintro _ ⟨o5,o6,l,M,W,rfl,lM,hs,hW,w0,hM,wt,hl,hw⟩
 refine ifP (p:=(s:Int)<(((l.map D.int).length:Nat):Int)) (fun c=>?_) (fun c=>?_)
 ·rw [ab] at c
  obtain ⟨p,hp⟩:∃ p,l.length=p+1:=⟨l.length-1,by omega⟩
  have sp:s<=p:=by omega
  have lt:Lt2 (A+2*M.length+w*(N-p)) (l.getD p 0):=hl p
  have wN:w*(N-p)<=w*N:=ah _ (Nat.sub_le _ _)
  refine ⟨.int (l.getD p 0),by rw [ab,hp];exact at_int (by omega),?_⟩
  refine ⟨by rw [ab,sizeLine_eq];omega,?_⟩
  generalize hm:l.getD p 0=m at *
  refine ⟨by omega,by omega,fun i st=>∃ (o6:SD) (r:List Int),st=[.val (.lst (L.map .int)),.val (.lst (b.map .int)),.own (r.map .int),.val (.int s),.own ((M++[m]).map .int),.val (.int m),o6]/\r.length=p/\∀ k,k<p->r.getD k 0=l.getD k 0-(if p-s<=k/\k<p-s+i then m*b.getD (k-(p-s)) 0 else 0),⟨o6,l.dropLast,?_,by rw [fZ,hp];rfl,fun k hk=>?_⟩,?_,?_⟩
  ·show [SD.val (.lst (L.map .int)),.val (.lst (b.map .int)),.own (l.map D.int).dropLast,.val (.int s),.own (M.map D.int++[.int m]),.val (.int m),o6]=_
   rw [ints_snoc,List.map_dropLast]
  ·rw [drop_at (by omega),if_neg (by omega)]
   omega
  ·rintro i d _ hd ⟨o6,r,rfl,lr,hr⟩
   obtain ⟨hi,rfl⟩:=upTo_got hd
   have hi:i<s:=by omega
   have ei:(((r.map D.int).length:Nat):Int)-(s:Int)+(0+(i:Int))=((p-s+i:Nat):Int):=by rw [ab,lr];omega
   have e0:(0:Int)+(i:Int)=(i:Int):=by omega
   refine ⟨(congrArg (fun z:Int=>0<=z) ei).mpr (by omega),?_⟩
   have et:((((r.map D.int).length:Nat):Int)-(s:Int)+(0+(i:Int))).toNat=p-s+i:=by rw [ei,bo]
   refine at_some (d:=.int (r.getD (p-s+i) 0)) (by rw [et];exact at_int (by omega)) ?_
   refine itD_of (d:=.int (b.getD i 0)) (by rw [e0];exact atI_nat (at_int (by omega))) ?_
   have wi:w*(N-p)+w*(s-i)<=w*N:=by
    rw [← Nat.mul_add]
    exact ah _ (by omega)
   refine ⟨⟨_,_,lt,hZ i (by omega),by omega⟩,.val (.int (0+(i:Int))),r.set (p-s+i) (r.getD (p-s+i) 0-m*b.getD i 0),?_,by rw [aX,lr],fun k hk=>?_⟩
   ·show [SD.val (.lst (L.map .int)),.val (.lst (b.map .int)),.own ((r.map D.int).set ((((r.map D.int).length:Nat):Int)-(s:Int)+(0+(i:Int))).toNat (.int (r.getD (p-s+i) 0-m*b.getD i 0))),.val (.int s),.own ((M++[m]).map .int),.val (.int m),.val (.int (0+(i:Int)))]=_
    rw [et,map_set]
   ·rw [set_at (by omega)]
    by_cases c:k=p-s+i
    ·rw [if_pos c,hr _ (by omega),if_neg (by omega),if_pos (by omega),c,show p-s+i-(p-s)=i by omega]
     omega
    ·rw [if_neg c,hr k hk]
     by_cases c2:p-s<=k/\k<p-s+i
     ·rw [if_pos c2,if_pos (by omega)]
     ·rw [if_neg c2,if_neg (by omega)]
  ·rintro _ ⟨o6,r,rfl,lr,hr⟩
   rw [upTo_len,bo] at hr
   have wv:W (p-s)=0:=w0 _ (by omega)
   have key:∀ k,l.getD k 0=r.getD k 0+(if p-s<=k then m*Cv.fn b (k-(p-s)) else 0):=fun k=>by
    unfold Cv.fn
    rcases Nat.lt_trichotomy k p with z | z | z
    ·rw [hr k z]
     by_cases c2:p-s<=k
     ·rw [if_pos (by omega),if_pos c2]
      omega
     ·rw [if_neg (by omega),if_neg c2]
      omega
    ·subst z
     rw [getD_out (fs:=r) (by omega),if_pos (by omega),show k-(k-s)=s by omega,b1,hm]
     omega
    ·rw [getD_out (fs:=l) (by omega),getD_out (fs:=r) (by omega),getD_out (fs:=b) (by omega)]
     split <;> omega
   have mz:2*(M++[m]).length=2*M.length+2:=by rw [av];exact bE _ _
   refine ⟨⟨_,_,r,M++[m],up1 W (p-s) m,rfl,by rw [av,lr];simp;omega,.inr (by omega),fun k=>?_,fun v hv=>?_,fun u hu=>?_,fun v hv=>?_,fun i=>?_,fun i=>?_⟩,?_⟩
   ·rw [hW k,key k,cv_up1]
    omega
   ·rw [up1_ne (by omega)]
    exact w0 v (by omega)
   ·rw [snoc_at]
    by_cases e:u=M.length
    ·rw [if_pos e,show L.length-s-1-u=p-s by omega,up1_at wv]
    ·rw [if_neg e]
     rw [av] at hu
     have hu:u<M.length+1:=hu
     rw [hM u (by omega),up1_ne (by omega)]
   ·rw [up1_ne (by omega)]
    exact wt v hv
   ·rw [mz]
    rcases am i p with z | z
    ·rw [hr i z]
     split
     ·rename_i ci
      have wi:w*(N-p)+w*(s-(i-(p-s)))=w*(N-i):=by
       rw [← Nat.mul_add]
       congr 1
       omega
      rw [show A+(2*M.length+2)+w*(N-i)=(A+2*M.length+w*(N-i)+1)+1 by omega]
      exact ((hl i).mono (by omega)).sub ((lt.mul (hZ (i-(p-s)) (by omega))).mono (by omega))
     ·rw [Int.sub_zero]
      exact (hl i).mono (by omega)
    ·rw [getD_out (by omega)]
     exact zlt _
   ·rw [mz]
    by_cases e:i=p-s
    ·rw [e,up1_at wv]
     rw [show N-s-(p-s)=N-p by omega]
     exact lt.mono (by omega)
    ·rw [up1_ne e]
     exact (hw i).mono (by omega)
   ·show (r.map D.int).length<(l.map D.int).length
    rw [ab,ab]
    omega
 ·rw [ab] at c
  have fK:∀ v,M.reverse.getD v 0=W v:=fun v=>by
   rcases am v M.length with z | z
   ·rw [ac,bI z,← ac,hM _ (by omega)]
    congr 1
    omega
   ·rw [getD_out (by rw [bC];exact z)]
    exact (wt v (by omega)).symm
  refine ⟨sz2,q _ ⟨M.reverse,l,?_,by rw [bC];omega,by omega,fun k=>?_,fun i=>?_,fun i=>?_⟩⟩
  ·show D.tup [.lst (M.map D.int).reverse,.lst (l.map D.int)]=_
   rw [← gK]
  ·rw [hW k]
   congr 1
   exact Cv.cv_congr (fun j=>(fK j).symm) fun _=>rfl
  ·rw [fK]
   exact (hw i).mono (by omega)
  ·exact (hl i).mono (by omega)
end Dp
namespace Dp
open PySem L2
def eB (b0 b:Nat):Nat:=b0+b*12+20
def yB (a w b:Nat):Nat:=a+420+(w+b)*12
def DigG (P:List Int) (B:Int) (G:List Int) (U:Int) (s n z e y:Nat) (Ps:List (List Int×Int)):Prop:=∃ (N:Nat->Nat->Int) (E:Nat->Int) (Dv:Int),(0<Dv/\Lt2 z Dv/\B∣Dv)/\Ps≠[]/\Ps.length<=20/\(∀ t k,13<=k->N t k=0)/\(∀ t,0<E t/\Lt2 e (E t))/\(∀ t k,Lt2 y (N t k))/\(∀ k,N Ps.length k=0)/\(∀ k,N 0 k*B=P.getD k 0*E 0) /\
 (∀ t p,Ps[t]? = some p->(1<=t->p.2∣Dv)/\Pc.Pz y e p.1 p.2/\p.1.length<=s/\(t+1=Ps.length->p.1≠[])/\∀ (R:Nat->Int) (C:Int),0<C->(∀ k,R k*E (t+1)=N (t+1) k*C)->∀ k,(Cv.cv R (Cv.fn G) k*p.2+p.1.getD k 0*(C*U))*E t=N t k*(C*U*p.2))
def kA:SpB:=.of 2 (α:=List Int×Int×List Int×Int×Nat×Nat×Nat×Nat×Nat×Nat) (fun (P,B,G,U,n,s,a,b0,b,y) ds=>ds=[pD P B,pD G U]/\Pc.Pz a b0 P B/\P.length=n+1/\1<=n/\n<=12/\Po.Fm G U/\Lt2 b U/\Wt y G U s/\G.length=s+1/\1<=s/\s<=12/\G.getD s 0=U/\a+b0+(y+b)*15<=4000000/\(b+1)*14<=390000/\b+y*12<=1000000)
 (fun (P,B,G,U,n,s,a,b0,b,y) d=>∃ Ps:List (List Int×Int),d = .tup (Ps.map fun p=>pD p.1 p.2)/\DigG P B G U s n (b0+b*(n-s)+1) (eB b0 b) (yB a (y+b) b) Ps)
def nj:TSd:=(g9 [11] (dB bTuple bTuple.mono (gO (gP 11) gQ)))
def nk:TSd:=dSq (iC [] (jC (gT .Add (gT .FloorDiv (gP 2) (gP 3)) (dC (.int 1)))) (gNm 7)
 (dSq (gU [] (gTp [6,12]) (gS jr (gO (gP 6) (gO (gP 5) gQ))))
 (dSq (gU [] (gNm 13) (ia (iF (gP 12)) [8,14] (gTp [14,8]) iG (gT .Mult (gT .Mult (gP 8) (gS gV (gO (gP 4) (gO (gP 14) gQ)))) (gS gV (gO (gP 9) (gO (gP 7) gQ))))))
 (mX [] 11 (gS iy (gO (gP 13) (gO (gT .Mult (gT .Mult (dIx (gP 0) (dC (.int 1))) (gS gV (gO (gP 10) (gO (gP 7) gQ)))) (gS gV (gO (gP 4) (gO (gT .Sub (gP 2) (gT .Mult (gP 3) (gP 7))) gQ)))) gQ)))))))
 nj
def nq:TSd:=dSq (j5 [] 11 (ig gQ))
 nk
def nr:TSd:=dSq (gU [] (gTp [9,10]) (gS me (gO (gZ (gO (dC (.int 1)) (gO (dC (.int 1)) gQ))) (gO (gS oJ (gO (gP 1) gQ)) gQ))))
 nq
def nt:TSd:=dSq (gU [] (gNm 6) (ia (iF (dIx (gP 0) (dC (.int 0)))) [7,8] (gTp [7,8]) iG (gT .Mult (gP 8) (gS gV (gO (gP 4) (gO (gT .Sub (gP 2) (gP 7)) gQ))))))
 nr
def nv:TSd:=dSq (gU [] (gNm 5) (gS jn (gO (dIx (gP 1) (dC (.int 0))) (gO (gP 4) gQ))))
 nt
def j3:TSd:=dSq (gU [] (gNm 4) (gS iZ (gO (dIx (gP 1) (dC (.int 0))) gQ)))
 nv
def i9:TSd:=dSq (dIf [] (gX (g8 .Lt (gP 2) (gP 3)))
 (g9 [] (gZ (gO (gP 0) gQ)))
 hV)
 j3
def oE:TSd:=dSq (gU [] (gTp [2,3]) (gZ (gO (gS iE (gO (gP 0) gQ)) (gO (gS iE (gO (gP 1) gQ)) gQ))))
 i9
theorem digG_one {P:List Int} {B:Int} {G:List Int} {U:Int} {s n a b0 z e y:Nat} (z1:Pc.Pz a b0 P B) (ln:P.length=n+1) (n2:n<=12) (lt:n<s) (h1:b0<=z) (h2:b0+1<=e) (h3:a<=y):DigG P B G U s n z e y [(P,B)]:=by
 have B0:=z1.fm.pos
 refine ⟨fun t k=>if t=0 then P.getD k 0 else 0,fun t=>if t=0 then B else 1,B,⟨B0,z1.bot.mono (by omega),fX _⟩,by simp,by show 1<=20;decide,fun t k hk=>?_,fun t=>?_,fun t k=>?_,fun k=>rfl,fun k=>rfl,fun t p hp=>?_⟩
 ·dsimp only
  split
  ·exact getD_out (by omega)
  ·rfl
 ·dsimp only
  split
  ·exact ⟨B0,z1.bot.mono (by omega)⟩
  ·exact ⟨by decide,Lt2.mono (n:=1) (by decide) (by omega)⟩
 ·dsimp only
  split
  ·exact (z1.tops k).mono (by omega)
  ·exact zlt _
 ·match t,hp with
  | 0,hp =>
   cases hp
   refine ⟨fun h=>absurd h (by decide),z1.mono (by omega) (by omega),by show P.length<=s;omega,fun _ h=>?_,fun R C C0 hR k=>?_⟩
   ·have h:P=[]:=h
    rw [h] at ln
    cases ln
   ·have r0:∀ k,R k=0:=fun k=>by
     have:R k*(if (0:Nat)+1=0 then B else 1)=(if (0:Nat)+1=0 then P.getD k 0 else 0)*C:=hR k
     rw [if_neg (by decide),if_neg (by decide)] at this
     omega
    rw [Cv.cv_zl r0]
    dsimp only
    rw [if_pos rfl,if_pos rfl]
    grind
def dgG (P:List Int) (B:Int) (G:List Int) (U c ov un:Int) (b:List Int) (n s A w y:Nat) (i:Nat) (st:SS):Prop :=
 ∃ (o7 o8 o12 o13 o14:SD) (l:List Int) (Ps:List (List Int×Int)) (L Dt:Nat->Nat->Int),st=[.val (pD P B),.val (pD G U),.val (.int n),.val (.int s),.val (.int c),.val (.lst (b.map .int)),.val (.lst (l.map .int)),o7,o8,.val (.int ov),.val (.int un),.own (Ps.map fun p=>pD p.1 p.2),o12,o13,o14] /\
  Ps.length=i/\l.length=n+1-s*i/\(∀ k,l.getD k 0=L i k)/\(0<l.length->l.getD (l.length-1) 0≠0)/\(∀ k,L 0 k=P.getD k 0*c^(n-k))/\(∀ t,t<=i->∀ k,Lt2 (A+26*t+w*(n-s*t-k)) (L t k)/\(n<k->L t k=0))/\(∀ t k,t<i->L t k=Dt t k+Cv.cv (L (t+1)) (Cv.fn b) k) /\
  (∀ t p,Ps[t]? = some p->Po.Fm p.1 p.2/\p.1.length<=s/\(∀ k,Lt2 y (Dt t k*(c^k*ov^t)))/\(t=n / s->p.1≠[])/\∀ k,p.1.getD k 0*(B*un^t*c^(n-s*t))=Dt t k*(c^k*ov^t)*p.2)
theorem digG_all {P:List Int} {B:Int} {G:List Int} {U c ov un:Int} {b:List Int} {n s a b0 bb A w y:Nat} {st:SS} (hu1:un=1) (hA:A<=a+2) (hy:y=yB a w bb) (z1:Pc.Pz a b0 P B) (ln:P.length=n+1) (n2:n<=12) (s1:1<=s) (sn:s<=n) (c0:0<c) (lc:Lt2 bb c) (u0:0<un) (lu:Lt2 1 un) (lo:Lt2 1 ov) (hb:∀ j,j<=s->Cv.fn b j*G.getD s 0=Cv.fn G j*c^(s-j)) (lb:b.length=s+1) (lG:G.length=s+1) (hl:G.getD s 0*ov=un*U)
  (h:dgG P B G U c ov un b n s A w y (n / s+1) st):∃ o7 o8 o12 o13 o14 x,∃ Ps:List (List Int×Int),st=[.val (pD P B),.val (pD G U),.val (.int n),.val (.int s),.val (.int c),.val (.lst (b.map .int)),x,o7,o8,.val (.int ov),.val (.int un),.own (Ps.map fun p=>pD p.1 p.2),o12,o13,o14]/\DigG P B G U s n (b0+bb*(n-s)+1) (eB b0 bb) y Ps:=by
 obtain ⟨o7,o8,o12,o13,o14,l,Ps,L,Dt,rfl,lP,ll,hL,_,h0,hs,hr,hd⟩:=h
 have B0:=z1.fm.pos
 have ns:s*(n / s)<=n:=e6 n s
 have ns2:n<s*(n / s+1):=gw n (by omega)
 have T12:n / s<=12:=aB (cJ _ _) n2
 have le:l=[]:=by
  apply eI
  rw [ll]
  omega
 have LT:∀ k,L (n / s+1) k=0:=fun k=>by rw [← hL k,le];rfl
 refine ⟨o7,o8,o12,o13,o14,_,Ps,rfl,fun t k=>if t<=n / s then L t k*(c^k*ov^t) else 0,fun t=>if t<=n / s then B*un^t*c^(n-s*t) else 1,B*c^(n-s),⟨ax B0 (bH c0),(z1.bot.mul (Hv.pow_lt lc (n-s))).mono (by omega),dD _ _⟩,?_,by omega,fun t k hk=>?_,fun t=>?_,fun t k=>?_,fun k=>?_,fun k=>?_,fun t p hp=>?_⟩
 ·intro z
  rw [z] at lP
  cases lP
 ·dsimp only
  split
  ·rw [(hs t (by omega) k).2 (by omega),aE]
  ·rfl
 ·dsimp only
  split
  ·rename_i tl
   refine ⟨ax (ax B0 (bH u0)) (bH c0),?_⟩
   exact ((z1.bot.mul (pw_lt lu (show t<=12 by omega))).mul (pw_lt lc (show n-s*t<=12 by omega))).mono (by unfold eB;omega)
  ·exact ⟨by decide,Lt2.mono (n:=1) (by decide) (by unfold eB;omega)⟩
 ·dsimp only
  split
  ·rename_i tl
   obtain ⟨x1,x2⟩:=hs t (by omega) k
   rcases am n k with z | z
   ·rw [x2 z,aE]
    exact zlt _
   ·have wk:w*(n-s*t-k)<=w*12:=ah _ (by omega)
    exact (x1.mul ((pw_lt lc (show k<=12 by omega)).mul (pw_lt lo (show t<=12 by omega)))).mono (by rw [hy];unfold yB;omega)
  ·exact zlt _
 ·rw [lP]
  exact if_neg (by omega)
 ·show (if 0<=n / s then L 0 k*(c^k*ov^0) else 0)*B=P.getD k 0*(if 0<=n / s then B*un^0*c^(n-s*0) else 1)
  rw [if_pos (aC _),if_pos (aC _),h0 k,aW,aW,fB,bR]
  rcases am n k with z | z
  ·rw [getD_out (fs:=P) (by omega)]
   simp
  ·have e:c^n=c^(n-k)*c^k:=by
    rw [← cB]
    congr 1
    omega
   rw [e]
   grind
 ·have tl:t<=n / s:=by
   have:=(ak.mp hp).1
   omega
  obtain ⟨d1,d2,d3,d4,d5⟩:=hd t p hp
  have E0:0<B*un^t*c^(n-s*t):=ax (ax B0 (bH u0)) (bH c0)
  have El:Lt2 (eB b0 bb) (B*un^t*c^(n-s*t)):=((z1.bot.mul (pw_lt lu (show t<=12 by omega))).mul (pw_lt lc (show n-s*t<=12 by omega))).mono (by unfold eB;omega)
  have dv:1<=t->p.2∣B*c^(n-s):=fun t1=>by
   have h1:p.2∣B*un^t*c^(n-s*t):=dvd_fn d1 d5
   rw [hu1,Int.one_pow,bu] at h1
   have:s*1<=s*t:=ah s t1
   exact dE h1 (eV (fX _) (pw_dvd _ (by omega)))
  refine ⟨dv,Pc.Pz.of d1 E0 d5 d3 El,d2,fun e=>d4 (by omega),fun R C C0 hR k=>?_⟩
  have hR:∀ k,R k*(if t+1<=n / s then B*un^(t+1)*c^(n-s*(t+1)) else 1)=(if t+1<=n / s then L (t+1) k*(c^k*ov^(t+1)) else 0)*C:=hR
  show (Cv.cv R (Cv.fn G) k*p.2+p.1.getD k 0*(C*U))*(if t<=n / s then B*un^t*c^(n-s*t) else 1)=(if t<=n / s then L t k*(c^k*ov^t) else 0)*(C*U*p.2)
  rw [if_pos tl,if_pos tl,hr t k (by omega)]
  refine Dg.turn2 ?_ (d5 k)
  rcases am t (n / s) with z | z
  ·have st:s*(t+1)<=n:=aB (ah s z) ns
   refine Dg.turn (Gs:=G.getD s 0) hb (fun j hj=>Cv.fn_out (by omega)) (fun j hj=>Cv.fn_out (by omega)) hl u0 st (fun k=>?_) k
   have:=hR k
   rw [if_pos (by omega),if_pos (by omega)] at this
   rw [this,← bJ]
  ·have r0:∀ k,R k=0:=fun k=>by
    have:=hR k
    rw [if_neg (by omega),if_neg (by omega)] at this
    omega
   have e:t+1=n / s+1:=by omega
   rw [Cv.cv_zl r0,e,Cv.cv_zl LT]
   simp
theorem dgG_next {P:List Int} {B:Int} {G:List Int} {U c ov un:Int} {b:List Int} {n s i a bb A w y:Nat} {l K R ts p1:List Int} {p2:Int} {Ps:List (List Int×Int)} {L Dt:Nat->Nat->Int} (o7 o8 o12 o13 o14:SD) (n2:n<=12) (s1:1<=s) (s8:s<=12) (hi:i<=n / s) (hA:A<=a+2) (hy:y=yB a w bb) (c0:0<c) (lc:Lt2 bb c) (o0:ov≠0) (lo:Lt2 1 ov) (E0:0<B*un^i*c^(n-s*i)) (lb:b.length=s+1) (b1:b.getD s 0=1)
  (lP:Ps.length=i) (ll:l.length=n+1-s*i) (hL:∀ k,l.getD k 0=L i k) (ht:0<l.length->l.getD (l.length-1) 0≠0) (h0:∀ k,L 0 k=P.getD k 0*c^(n-k)) (hs:∀ t,t<=i->∀ k,Lt2 (A+26*t+w*(n-s*t-k)) (L t k)/\(n<k->L t k=0)) (hr:∀ t k,t<i->L t k=Dt t k+Cv.cv (L (t+1)) (Cv.fn b) k)
  (hd:∀ t p,Ps[t]? = some p->Po.Fm p.1 p.2/\p.1.length<=s/\(∀ k,Lt2 y (Dt t k*(c^k*ov^t)))/\(t=n / s->p.1≠[])/\∀ k,p.1.getD k 0*(B*un^t*c^(n-s*t))=Dt t k*(c^k*ov^t)*p.2)
  (lK:K.length=l.length-s) (lR:R.length=min l.length s) (hK:∀ k,l.getD k 0=R.getD k 0+Cv.cv (Cv.fn K) (Cv.fn b) k) (sK:∀ j,Lt2 (A+26*i+2*(l.length-s)+w*(n-s*i-s-j)) (K.getD j 0)) (sR:∀ j,Lt2 (A+26*i+2*(l.length-s)+w*(n-s*i-j)) (R.getD j 0))
  (lt:ts.length=R.length) (et:∀ k,k<R.length->ts.getD k 0=R.getD k 0*c^k*ov^i) (fm:Po.Fm p1 p2) (hw:∀ k,p1.getD k 0*(B*un^i*c^(n-s*i))=ts.getD k 0*p2) (hle:p1.length<=ts.length) :
  dgG P B G U c ov un b n s A w y (i+1) [.val (pD P B),.val (pD G U),.val (.int n),.val (.int s),.val (.int c),.val (.lst (b.map .int)),.val (.lst (K.map .int)),o7,o8,.val (.int ov),.val (.int un),.own ((Ps.map fun p=>pD p.1 p.2)++[pD p1 p2]),o12,o13,o14]:=by
 have ns:s*(n / s)<=n:=e6 n s
 have si:s*i<=n:=aB (ah s hi) ns
 have st:s*(i+1)=s*i+s:=bE s i
 have i12:i<=12:=aB hi (aB (cJ _ _) n2)
 have tsk:∀ k,ts.getD k 0=R.getD k 0*(c^k*ov^i):=fun k=>by
  rcases am k R.length with z | z
  ·rw [et k z,bJ]
  ·rw [getD_out (by omega),getD_out z,aE]
 refine ⟨o7,o8,o12,o13,o14,K,Ps++[(p1,p2)],fun t k=>if t<=i then L t k else K.getD k 0,fun t k=>if t<i then Dt t k else R.getD k 0,by rw [bj];rfl,by rw [av,lP];rfl,by rw [lK,ll,st];omega,fun k=>(if_neg (by omega)).symm,fun hk=>?_,fun k=>?_,fun t tl k=>?_,fun t k tl=>?_,fun t p hp=>?_⟩
 ·have ls:s<l.length:=by omega
  have e:=hK (l.length-1)
  rw [getD_out (fs:=R) (by omega),cF] at e
  have e2:=Pc.cv_top (f:=Cv.fn K) (g:=Cv.fn b) (a:=K.length-1) (b:=s) (fun j hj=>Cv.fn_out (by omega)) (fun j hj=>Cv.fn_out (by omega))
  rw [show K.length-1+s=l.length-1 by omega] at e2
  rw [e2] at e
  have b1':Cv.fn b s=1:=b1
  rw [b1',bu] at e
  have:=ht (by omega)
  rw [e] at this
  exact this
 ·show (if 0<=i then L 0 k else K.getD k 0)=_
  rw [if_pos (aC _)]
  exact h0 k
 ·dsimp only
  split
  ·exact hs t (by assumption) k
  ·rw [show t=i+1 by omega]
   refine ⟨(sK k).mono ?_,fun h=>getD_out (by omega)⟩
   rw [show n-s*(i+1)-k=n-s*i-s-k by omega]
   omega
 ·dsimp only
  rcases am t i with z | z
  ·rw [if_pos (by omega),if_pos z,hr t k z]
   congr 1
   exact Cv.cv_congr (fun j=>(if_pos (by omega)).symm) fun _=>rfl
  ·have e:t=i:=by omega
   subst e
   rw [if_pos (aj _),if_neg (by omega),← hL k,hK k]
   congr 1
   exact Cv.cv_congr (fun j=>(if_neg (by omega)).symm) fun _=>rfl
 ·rcases am t Ps.length with z | z
  ·rw [aY z] at hp
   have e:(fun k=>if t<i then Dt t k else R.getD k 0)=Dt t:=funext fun k=>if_pos (by omega)
   obtain ⟨d1,d2,d3,d4,d5⟩:=hd t p hp
   refine ⟨d1,d2,fun k=>?_,d4,fun k=>?_⟩
   ·dsimp only;rw [if_pos (by omega)];exact d3 k
   ·dsimp only;rw [if_pos (by omega)];exact d5 k
  ·have e:t=i:=by
    have:=(ak.mp hp).1
    rw [av] at this
    simp at this
    omega
   subst e
   rw [aL z,lP,bM] at hp
   cases hp
   refine ⟨fm,by show p1.length<=s;omega,fun k=>?_,fun hn hp=>?_,fun k=>?_⟩
   ·dsimp only
    rw [if_neg (by omega)]
    rcases am k R.length with y | y
    ·have wk:w*(n-s*t-k)<=w*12:=ah _ (by omega)
     exact ((sR k).mul ((pw_lt lc (show k<=12 by omega)).mul (pw_lt lo (show t<=12 by omega)))).mono (by rw [hy];unfold yB;omega)
    ·rw [getD_out y,aE]
     exact zlt _
   ·have hp:p1=[]:=hp
    subst hp
    have l1:0<l.length:=by omega
    have ls:l.length<=s:=by
     have:=gw n (show 0<s by omega)
     rw [← hn] at this
     omega
    have e:=hK (l.length-1)
    have kn:K=[]:=eI (by omega)
    have k0:∀ j,Cv.fn K j=0:=fun j=>by rw [kn];rfl
    rw [Cv.cv_zl k0,bS] at e
    have w:=hw (l.length-1)
    rw [tsk,← e] at w
    have w:(0:Int)*(B*un^t*c^(n-s*t))=_:=w
    rw [aE] at w
    exact bA (bA (ht l1) (bA (ca (aw c0)) (ca o0))) (aw fm.pos) w.symm
   ·dsimp only
    rw [if_neg (by omega),← tsk]
    exact hw k
theorem digG_turn {P:List Int} {B:Int} {G:List Int} {U c ov un:Int} {bs:List Int} {n s i a b0 bb A w y:Nat} {st:SS} {E:EndsD} (hA:A<=a+2) (hyB:y=yB a w bb) (cap:a+b0+(w+bb)*15<=8000000) (cap2:(bb+1)*14<=390000) (n2:n<=12) (s1:1<=s) (s8:s<=12) (hi:i<=n / s) (B0:0<B) (lB:Lt2 b0 B) (c0:0<c) (lc:Lt2 bb c) (o0:ov≠0) (lo:Lt2 1 ov) (u0:0<un) (lu:Lt2 1 un) (lb:bs.length=s+1) (b1:bs.getD s 0=1) (hZ:∀ j,j<=s->Lt2 (w*(s-j)+1) (bs.getD j 0))
  (hE:∀ st,dgG P B G U c ov un bs n s A w y (i+1) st->E.nx st) (h:dgG P B G U c ov un bs n s A w y i st):((dSq (gU [] (gTp [6,12]) (gS jr (gO (gP 6) (gO (gP 5) gQ))))
 (dSq (gU [] (gNm 13) (ia (iF (gP 12)) [8,14] (gTp [14,8]) iG (gT .Mult (gT .Mult (gP 8) (gS gV (gO (gP 4) (gO (gP 14) gQ)))) (gS gV (gO (gP 9) (gO (gP 7) gQ))))))
 (mX [] 11 (gS iy (gO (gP 13) (gO (gT .Mult (gT .Mult (dIx (gP 0) (dC (.int 1))) (gS gV (gO (gP 10) (gO (gP 7) gQ)))) (gS gV (gO (gP 4) (gO (gT .Sub (gP 2) (gT .Mult (gP 3) (gP 7))) gQ)))) gQ)))))):TSd).run E (st.set 7 (.val (.int (0+(i:Int))))):=by
 obtain ⟨o7,o8,o12,o13,o14,l,Ps,L,Dt,rfl,lP,ll,hL,ht,h0,hs,hr,hd⟩:=h
 have ns:s*(n / s)<=n:=e6 n s
 have si:s*i<=n:=aB (ah s hi) ns
 have i12:i<=12:=aB hi (aB (cJ _ _) n2)
 have e0:(0:Int)+(i:Int)=(i:Int):=by omega
 rw [e0]
 have wN:w*(n-s*i)<=w*12:=ah _ (by omega)
 refine ⟨rfl,(l,bs,s,n-s*i,A+26*i,w),⟨rfl,lb,b1,s1,by show s<=100;omega,by show l.length<=n-s*i+1;omega,by show n-s*i<=100;omega,fun k=>by rw [hL k];exact (hs i (aj _) k).1,hZ,by show A+26*i+w*(n-s*i)<=40000000;omega⟩,?_⟩
 rintro _ ⟨K,R,rfl,lK,lR,hK,sK,sR⟩
 have lR8:R.length<=12:=by have lR:R.length=min l.length s:=lR;omega
 refine ⟨rfl,(congrArg (· <= sizeLine) (enum_len R)).mpr (szN (by omega)),nI (fun k=>R.getD k 0*c^k*ov^i),nI.nil,fun k d ys hd' _ hy=>?_,fun ys _ hy=>?_⟩
 ·obtain ⟨hk,rfl⟩:=enum_at hd'
  have lr:=sR k
  have wk:w*(n-s*i-k)<=w*12:=ah _ (by omega)
  have bk:(bb+1)*(k+1)<=(bb+1)*14:=ah _ (by omega)
  have lk:=pw_lt lc (show k<=12 by omega)
  have li:=pw_lt lo (show i<=12 by omega)
  refine ⟨rfl,rfl,(c,k,bb),⟨rfl,lc,by show k<=200;omega,by show (bb+1)*(k+1)<=400000;omega⟩,?_⟩
  rintro _ rfl
  refine ⟨⟨_,_,lr,lk,by omega⟩,rfl,(ov,i,1),⟨rfl,lo,by show i<=200;omega,by show (1+1)*(i+1)<=400000;omega⟩,?_⟩
  rintro _ rfl
  exact ⟨⟨_,_,lr.mul lk,li,by omega⟩,hy.snoc rfl⟩
 have hy:nI _ (enumD (R.map D.int)).length ys:=hy
 rw [enum_len] at hy
 obtain ⟨ts,rfl,lt,et⟩:=hy
 have ui:=pw_lt lu (show i<=12 by omega)
 have ci:=pw_lt lc (show n-s*i<=12 by omega)
 have E0:0<B*un^i*c^(n-s*i):=ax (ax B0 (bH u0)) (bH c0)
 refine ⟨rfl,(un,i,1),⟨rfl,lu,by show i<=200;omega,by show (1+1)*(i+1)<=400000;omega⟩,?_⟩
 rintro _ rfl
 have ls:Lt2 7 ((s:Nat):Int):=by unfold Lt2;omega
 have li:Lt2 7 ((i:Nat):Int):=by unfold Lt2;omega
 have es:(n:Int)-(s:Int)*(i:Int)=((n-s*i:Nat):Int):=by
  have:(s:Int)*(i:Int)=((s*i:Nat):Int):=by push_cast;rfl
  omega
 refine ⟨⟨_,_,lB,ui,by omega⟩,⟨_,_,ls,li,by decide⟩,rfl,(c,n-s*i,bb),⟨congrArg (fun z=>[D.int c,.int z]) es,lc,by show n-s*i<=200;omega,by show (bb+1)*(n-s*i+1)<=400000;exact aB (ah _ (by omega)) (aB cap2 (by decide))⟩,?_⟩
 rintro _ rfl
 refine ⟨⟨_,_,lB.mul ui,ci,by omega⟩,rfl,(ts,B*un^i*c^(n-s*i)),⟨rfl,E0,((lB.mul ui).mul ci).mono (by omega),by show ts.length<=1000;omega⟩,?_⟩
 rintro _ ⟨p1,p2,rfl,fm,hw,hle⟩
 refine ⟨by rw [ab,lP,sizeLine_eq];omega,hE _ ?_⟩
 exact dgG_next _ _ _ _ _ n2 s1 s8 hi hA hyB c0 lc o0 lo E0 lb b1 lP ll hL ht h0 hs hr hd lK lR hK sK sR lt et fm hw hle
theorem digG_go {P G:List Int} {B U:Int} {n s a b0 b y:Nat} {Q:D->Prop} (z1:Pc.Pz a b0 P B) (ln:P.length=n+1) (n1:1<=n) (n2:n<=12) (fG:Po.Fm G U) (lU:Lt2 b U) (wG:Wt y G U s) (cap:a+b0+(y+b)*15<=4000000) (cap2:(b+1)*14<=390000) (cap3:b+y*12<=1000000) (mon:G.getD s 0=U) (lG:G.length=s+1) (s1:1<=s) (s8:s<=12) (sn:s<=n) (q:∀ d,(∃ Ps:List (List Int×Int),d = .tup (Ps.map fun p=>pD p.1 p.2)/\DigG P B G U s n (b0+b*(n-s)+1) (eB b0 b) (yB a (y+b) b) Ps)->Q d) :
  j3.run (endQ Q) [.val (pD P B),.val (pD G U),.val (.int n),.val (.int s),.no,.no,.no,.no,.no,.no,.no,.no,.no,.no,.no]:=by
 have tG:G.getD s 0≠0:=fm_top fG lG
 have U0:=fG.pos
 have z2:=wG.pz fG lG lU
 have ys:y*s<=y*12:=ah _ s8
 have bs1:(b+1)*(s+2)<=(b+1)*14:=ah _ (by omega)
 have B0:=z1.fm.pos
 refine ⟨rfl,(G,s,b+y*s,b),⟨rfl,lG,by show s<=20;omega,z2.tops,by show b+y*s<=1000000;omega,by rw [mon];exact lU,by show (b+1)*(s+2)<=390000;omega,tG⟩,?_⟩
 rintro _ ⟨c,rfl,c0,lc,hdv⟩
 have lc:Lt2 b c:=lc
 refine ⟨rfl,(G,c,s,b+y*s,b,b),⟨rfl,lG,by show s<=100;omega,z2.tops,lc,by show b+y*s<=1000000;omega,by rw [mon];exact lU,by show b<=9000000;omega,by show (b+1)*(s+1)<=400000;exact aB (ah _ (by omega)) (aB cap2 (by decide)),tG⟩,?_⟩
 rintro _ ⟨bs,rfl,lb,hb⟩
 have lb:bs.length=s+1:=lb
 have hx:∀ i,i<=s->G.getD s 0*bs.getD i 0=G.getD i 0*c^(s-i):=fun i hi=>by
  have hb:bs.getD i 0=(G.getD i 0*c^(s-i)).fdiv (G.getD s 0):=hb i hi
  have hdv:G.getD s 0∣G.getD (s-(s-i)) 0*c^(s-i):=hdv (s-i) (by omega)
  rw [show s-(s-i)=i by omega] at hdv
  obtain ⟨y,hy⟩:=hdv
  rw [hb,hy,cy _ tG]
 have b1:bs.getD s 0=1:=by
  have:=hx s (aj _)
  rw [bM,aW] at this
  exact fh tG this
 have hZ:∀ j,j<=s->Lt2 ((y+b)*(s-j)+1) (bs.getD j 0):=fun j z=>by
  have h:=congrArg Int.natAbs (hx j z)
  rw [aJ,aJ,mon] at h
  have g:=wG (s-j) (by omega)
  rw [show s-(s-j)=j by omega] at g
  have cl:(c^(s-j)).natAbs<2^(b*(s-j)+1):=Hv.pow_lt lc (s-j)
  have u0:0<U.natAbs:=by omega
  have k:U.natAbs*(bs.getD j 0).natAbs<=U.natAbs*(2^(y*(s-j))*(c^(s-j)).natAbs):=by
   rw [h,← cX]
   exact bB _ g
  have k:=Nat.le_of_mul_le_mul_left k u0
  show (bs.getD j 0).natAbs<2^((y+b)*(s-j)+1)
  rw [show (y+b)*(s-j)+1=y*(s-j)+(b*(s-j)+1) by rw [Nat.add_mul];omega,dr]
  exact bO k (eY cl (bY (by decide)))
 refine ⟨(congrArg (· <= sizeLine) (enum_len P)).mpr (szN (by omega)),nI (fun k=>P.getD k 0*c^(n-k)),nI.nil,fun i d ys hd _ hy=>?_,fun ys _ hy=>?_⟩
 ·obtain ⟨hi,rfl⟩:=enum_at hd
  refine ⟨rfl,rfl,(c,n-i,b),⟨?_,lc,by show n-i<=200;omega,by show (b+1)*(n-i+1)<=400000;exact aB (ah _ (by omega)) (aB cap2 (by decide))⟩,?_⟩
  ·show [D.int c,.int ((n:Int)-(i:Int))]=[D.int c,.int ((n-i:Nat):Int)]
   rw [show (n:Int)-(i:Int)=((n-i:Nat):Int) by omega]
  ·rintro _ rfl
   exact ⟨⟨_,_,z1.tops i,pw_lt lc (show n-i<=12 by omega),by omega⟩,hy.snoc rfl⟩
 have hy:nI _ (enumD (P.map D.int)).length ys:=hy
 rw [enum_len,ln] at hy
 obtain ⟨l0,rfl,l0l,hl0⟩:=hy
 refine ⟨sz2,rfl,(G,U,s,b+y*s,b),⟨rfl,lG,z2,by show b<=9000000;omega⟩,?_⟩
 rintro dl fl
 have uR:(U:Rat)≠0:=Qp.ne_of_pos U0
 have q1:Qp.q G U s=((1:Int):Rat):=by
  unfold Qp.q
  rw [mon]
  show _=(1:Rat)
  grind
 have fl:FqD (b+y*s) b dl (Qp.q G U s):=fl
 rw [q1] at fl
 obtain ⟨rfl,_⟩:=fl.same (fq_int (n:=1) (t:=1) (by decide))
 refine ⟨rfl,(fD 1 1,fD 1 1,((1:Int):Rat),((1:Int):Rat),1,1,1,1),⟨rfl,fq_int (by decide),fq_int (by decide),by decide,by decide,by decide⟩,?_⟩
 rintro do1 fo
 have fo:FqD 2 2 do1 (((1:Int):Rat) / ((1:Int):Rat)):=fo
 rw [show ((1:Int):Rat) / ((1:Int):Rat)=((1:Int):Rat) by show (1:Rat) / 1=1;grind] at fo
 obtain ⟨rfl,_⟩:=fo.same (fq_int (n:=1) (t:=1) (by decide))
 obtain ⟨ov,hov⟩:∃ ov:Int,ov=1:=⟨_,rfl⟩
 obtain ⟨un,hun⟩:∃ un:Int,un=1:=⟨_,rfl⟩
 have lo:Lt2 1 ov:=by rw [hov];unfold Lt2;decide
 have lu:Lt2 1 un:=by rw [hun];unfold Lt2;decide
 have u0:0<un:=by omega
 have o0:ov≠0:=by omega
 have hl:G.getD s 0*ov=un*U:=by rw [mon,hov,hun];omega
 have eo:fD 1 1=fD ov un:=by rw [hov,hun]
 rw [eo]
 have ef:(n:Int).fdiv (s:Int)=((n / s:Nat):Int):=by
  rw [cO _ (by omega)]
  rfl
 have T12:n / s<=12:=aB (cJ _ _) n2
 have ls:Lt2 7 ((s:Nat):Int):=by unfold Lt2;omega
 have eT:((n:Int).fdiv (s:Int)+1).toNat=n / s+1:=by rw [ef];exact bo (n / s+1)
 have t0:(0:Int)<=((n / s:Nat):Int):=Int.natCast_nonneg _
 have t1:((n / s:Nat):Int)<=12:=by exact_mod_cast T12
 have w1 : -(2^62)<=(n:Int).fdiv (s:Int)+1:=by
  rw [ef]
  generalize ((n / s:Nat):Int)=z at *
  omega
 have w2:(n:Int).fdiv (s:Int)+1<2^62:=by
  rw [ef]
  generalize ((n / s:Nat):Int)=z at *
  omega
 have s0:(s:Int)≠0:=by omega
 refine ⟨rfl,aC _,⟨s0,7,ls,by decide⟩,w1,w2,dgG P B G U c ov un bs n s (a+2) (y+b) (yB a (y+b) b),?_,?_,?_⟩
 ·refine ⟨.no,.no,.no,.no,.no,l0,[],fun t k=>P.getD k 0*c^(n-k),fun _ _=>0,rfl,rfl,by rw [l0l];rfl,fun k=>?_,fun _=>?_,fun k=>rfl,fun t ht k=>⟨?_,fun hk=>?_⟩,fun t k ht=>absurd ht (cu _),fun t p hp=>by cases hp⟩
  ·rcases am k (n+1) with z | z
   ·exact hl0 k z
   ·show l0.getD k 0=P.getD k 0*c^(n-k)
    rw [getD_out (by omega),getD_out (fs:=P) (by omega),aE]
  ·have e:=hl0 n (by omega)
   dsimp only at e
   rw [l0l,cE,e,bM,aW,bu]
   exact fm_top z1.fm ln
  ·rw [show t=0 by omega,fB,fB,bR]
   exact ((z1.tops k).mul (Hv.pow_lt lc (n-k))).mono (by rw [Nat.add_mul];omega)
  ·show P.getD k 0*c^(n-k)=0
   rw [getD_out (by omega),aE]
 ·rintro i d st hd hS
  have hd:(upTo 0 ((n:Int).fdiv (s:Int)+1).toNat)[i]? = some d:=hd
  rw [eT] at hd
  obtain ⟨hi,rfl⟩:=upTo_got hd
  exact digG_turn (a:=a) (b0:=b0) (by omega) rfl (by omega) cap2 n2 s1 s8 (by omega) B0 z1.bot c0 lc o0 lo u0 lu lb b1 hZ (fun _ h=>h) hS
 ·rintro st hS
  have hS:dgG P B G U c ov un bs n s (a+2) (y+b) (yB a (y+b) b) (upTo 0 ((n:Int).fdiv (s:Int)+1).toNat).length st:=hS
  rw [upTo_len,eT] at hS
  obtain ⟨o7,o8,o12,o13,o14,x,Ps,rfl,hD⟩:=digG_all hun (aj _) rfl z1 ln n2 s1 sn c0 lc u0 lu lo (fun j hj=>by rw [bg];exact hx j hj) lb lG hl hS
  exact q _ ⟨Ps,rfl,hD⟩
theorem mO:Does 15 oE kA:=by
 rintro ds Q hn ⟨⟨P,B,G,U,n,s,a,b0,b,y⟩,⟨rfl,z1,ln,n1,n2,fG,lU,wG,lG,s1,s8,mon,cap,cap2,cap3⟩,q⟩
 dsimp only at z1 ln n1 n2 fG lU wG lG s1 s8 mon cap cap2 cap3 q
 refine ⟨rfl,(P,B),rfl,?_⟩
 rintro _ rfl
 refine ⟨rfl,(G,U),rfl,?_⟩
 rintro _ rfl
 refine ⟨sz2,rfl,?_⟩
 suffices h1:i9.run (endQ Q) [.val (pD P B),.val (pD G U),.val (.int n),.val (.int s),.no,.no,.no,.no,.no,.no,.no,.no,.no,.no,.no] by
  show i9.run (endQ Q) [.val (pD P B),.val (pD G U),.val (.int ((P.length:Int)-1)),.val (.int ((G.length:Int)-1)),.no,.no,.no,.no,.no,.no,.no,.no,.no,.no,.no]
  rw [ln,lG,show ((n+1:Nat):Int)-1=(n:Int) by omega,show ((s+1:Nat):Int)-1=(s:Int) by omega]
  exact h1
 refine ifP (p:=(n:Int)<(s:Int)) (fun c=>?_) (fun c=>?_)
 ·exact ⟨sz1,q _ ⟨[(P,B)],rfl,digG_one z1 ln n2 (by omega) (by omega) (by unfold eB;omega) (by unfold yB;omega)⟩⟩
 ·exact digG_go z1 ln n1 n2 fG lU wG cap cap2 cap3 mon lG s1 s8 (by omega) q
end Dp
namespace Dp
open PySem L2
theorem digG_ed {P G:List Int} {B U:Int} {s n z0 e0 y0:Nat} {Ps:List (List Int×Int)} (B0:0<B) (U0:0<U) (lP:P.length<=13) (h:DigG P B G U s n z0 e0 y0 Ps) (x:Rat):Qp.E P B x=Ap.Ed (Qp.E G U x) x Ps:=by
 obtain ⟨N,E,Dv,_,ne,l20,hN,hE,sN,hT,h0,hp⟩:=h
 have step:∀ t p,Ps[t]? = some p->Qp.ei (N t) x 13 / (E t:Rat)=Qp.E p.1 p.2 x+Qp.E G U x*(Qp.ei (N (t+1)) x 13 / (E (t+1):Rat)):=fun t p ht=>by
  obtain ⟨_,z,_,_,hr⟩:=hp t p ht
  exact dig_turn (hN t) (hN (t+1)) (hE t).1 (hE (t+1)).1 U0 z.fm.pos (hr (N (t+1)) (E (t+1)) (hE (t+1)).1 fun _=>rfl) x
 have go:∀ j t,t+j=Ps.length->Qp.ei (N t) x 13 / (E t:Rat)=Ap.Ed (Qp.E G U x) x (Ps.drop t):=by
  intro j
  induction j with
  | zero =>
   intro t ht
   rw [show t=Ps.length by omega,ei_zero hT,List.drop_length]
   show (0:Rat) / _=0
   grind
  | succ j ih =>
   intro t ht
   have lt:t<Ps.length:=by omega
   rw [step t _ (aq lt),ih (t+1) (by omega),List.drop_eq_getElem_cons lt]
   rfl
 have z:=go Ps.length 0 (by omega)
 rw [eX] at z
 rw [← z,Qp.E_at lP]
 have l:=Qp.ei_lin (F:=N 0) (G:=Cv.fn P) (x:=x) h0 13
 have n1:=Qp.ne_of_pos B0
 have n2:=Qp.ne_of_pos (hE 0).1
 grind
def gW (a Z n:Nat):Nat:=a+(Z+8)*n+24
def bU (Z k s:Nat):Nat:=if k=1 then Z else (Z+8)*(s-1)+1
def zB (b0 Z k s:Nat):Nat:=b0+bU Z k s*(k*s-s)+1
def tB (a b0 Z k s:Nat):Nat:=yB a (gW a Z (k*s)+bU Z k s) (bU Z k s)+zB b0 Z k s
def SzA (a b0 Z n:Nat):Prop:=a+(Z+8)*n<=80000/\b0<=1000000/\Z<=27000/\(Z+8)*(n-1) / 2<=26000
theorem bU_le {a b0 Z k s:Nat} (h:SzA a b0 Z (k*s)) (k1:1<=k) (s1:1<=s):bU Z k s<=27000:=by
 obtain ⟨_,_,h1,h2⟩:=h
 unfold bU
 split
 ·exact h1
 ·rename_i k2
  have:2*s<=k*s:=bB _ (by omega)
  have h3:(Z+8)*(2*(s-1))<=(Z+8)*(k*s-1):=ah _ (by omega)
  have h4:(Z+8)*(2*(s-1))=2*((Z+8)*(s-1)):=by rw [← cX,bt (Z+8) 2,cX]
  omega
theorem cand_bot {P G:List Int} {U:Int} {k s Z:Nat} (lP:P.length=k*s+1) (k1:1<=k) (s1:1<=s) (ks:k*s<=12) (hL:P.getD (k*s) 0≠0) (lZ:Lt2 Z (P.getD (k*s) 0)) (c:Cn P k s G U) (hU:U.natAbs<=((P.getD (k*s) 0).natAbs*k*k)^(s-1)):Lt2 (bU Z k s) U:=by
 obtain ⟨fG,lG,cG⟩:=c
 unfold bU
 split
 ·rename_i e
  subst e
  rw [ga] at lP hL lZ
  exact lZ.le (cand_one lG lP fG cG hL)
 ·have k12:k<=12:=aB (br _ s1) ks
  have kk:k*k<=12*12:=aU k12 k12
  have lc:Lt2 (Z+8) ((((P.getD (k*s) 0).natAbs*k*k:Nat)):Int):=by
   unfold Lt2
   rw [aZ,cX,dr]
   have lZ:(P.getD (k*s) 0).natAbs<2^Z:=lZ
   exact bO (ah _ (show k*k<=2^8 by omega)) (db lZ (by decide))
  have:=Hv.pow_lt lc (s-1)
  unfold Lt2 at this ⊢
  rw [e8,aZ] at this
  exact bO hU this
def Aprt90 (P:List Int) (B:Int) (k s:Nat) (G:List Int) (U:Int) (Ps:List (List Int×Int)):Prop:=Cn P k s G U/\Ps≠[]/\Ps.length<=20/\(∀ p∈Ps,Po.Fm p.1 p.2/\p.1.length<=s)/\∀ x,Qp.E P B x=Ap.Ed (Qp.E G U x) x Ps
def Told90 (P:List Int) (B:Int) (k s a b0 Z:Nat) (d:D):Prop:=∃ G U Ps,Aprt90 P B k s G U Ps/\Wt (gW a Z (k*s)) G U s/\Lt2 (bU Z k s) U/\((∃ (i:Nat) (p:List Int×Int),d = .tup [.str "barred",pD G U,.int (i:Int)]/\Ps[i]? = some p/\2<=p.1.length/\∀ j q,j<i->Ps[j]? = some q->q.1.length<=1) \/
 (∃ R C,d = .tup [.str "made",pD R C,pD G U]/\Pc.Pz (tB a b0 Z k s) (zB b0 Z k s) R C/\(∀ q∈Ps,q.1.length<=1)/\R.length<=20/\∀ x y,Qp.E R C y=Ap.Ed y x Ps))
def ii:SpB:=.of 2 (α:=List Int×Int×Nat×Nat×Nat×Nat×Nat) (fun (P,B,k,s,a,b0,Z) ds=>ds=[pD P B,.int s]/\Pc.Pz a b0 P B/\P.length=k*s+1/\1<=k/\1<=s/\k*s<=12/\Lt2 Z (P.getD (k*s) 0)/\SzA a b0 Z (k*s)) (fun (P,B,k,s,a,b0,Z) d=>Told90 P B k s a b0 Z d)
def nY:TSd:=(g9 [] (gZ (gO (dC (.str "made")) (gO (gS mU (gO (ia (il (gP 3)) [5] (gNm 5) iG (gS iN (gO (gP 5) (gO (dC (.int 0)) gQ)))) gQ)) (gO (gP 2) gQ)))))
def oa:TSd:=dSq (iC [] (iF (gP 3)) (gTp [4,5])
 (dIf [] (gX (g8 .GtE (gS iE (gO (gP 5) gQ)) (dC (.int 1))))
 (g9 [] (gZ (gO (dC (.str "barred")) (gO (gP 2) (gO (gP 4) gQ)))))
 hV))
 nY
def oe:TSd:=dSq (gU [] (gNm 3) (gS kA (gO (gP 0) (gO (gP 2) gQ))))
 oa
def oX:TSd:=dSq (gU [] (gNm 2) (gS iP (gO (gP 0) (gO (gP 1) gQ))))
 oe
theorem nw:Does 6 oX ii:=by
 rintro ds Q hn ⟨⟨P,B,k,s,a,b0,Zl⟩,⟨rfl,z,lP,k1,s1,ks,lZ,hsz⟩,q⟩
 dsimp only at z lP k1 s1 ks lZ hsz q
 have s12:s<=k*s:=aN _ k1
 have hL:=fm_top z.fm lP
 have hb:=bU_le hsz k1 s1
 have hsz':=hsz
 obtain ⟨c1,c2,c3,_⟩:=hsz'
 refine ⟨rfl,(P,B,k,s,a,Zl),⟨rfl,lP,k1,s1,ks,z.tops,lZ,by show a+(Zl+8)*(k*s)<=99000;omega,by show Zl<=30000;omega,hL⟩,?_⟩
 rintro _ ⟨G,U,rfl,cn,wG,hU⟩
 have wG:Wt (gW a Zl (k*s)) G U s:=wG
 have lU:=cand_bot lP k1 s1 ks hL lZ cn hU
 have cn':=cn
 obtain ⟨fG,lG,hC⟩:=cn'
 obtain ⟨mon,G0⟩:=cand_mon hC s1
 have G0:G.getD 0 0=0:=G0
 have U0:=fG.pos
 have B0:=z.fm.pos
 have hg:gW a Zl (k*s)<=80024:=by unfold gW;omega
 generalize hgW:gW a Zl (k*s)=y at *
 generalize hbU:bU Zl k s=b at *
 have yy:y*12<=80024*12:=bB _ hg
 refine ⟨rfl,(P,B,G,U,k*s,s,a,b0,b,y),⟨rfl,z,lP,by show 1<=k*s;omega,ks,fG,lU,wG,lG,s1,by show s<=12;omega,mon,by show a+b0+(y+b)*15<=4000000;omega,by show (b+1)*14<=390000;omega,by show b+y*12<=1000000;omega⟩,?_⟩
 rintro _ ⟨Ps,rfl,hD⟩
 have ed:=digG_ed B0 U0 (by omega) hD
 obtain ⟨N,E,Dv,⟨D0,lD,BD⟩,ne,l20,_,_,_,_,_,hp⟩:=hD
 have lD:Lt2 (b0+b*(k*s-s)+1) Dv:=lD
 have bk:b*(k*s-s)<=b*12:=ah _ (by omega)
 have hy:yB a (y+b) b<=9000000:=by unfold yB;omega
 have he:eB b0 b<=9000000:=by unfold eB;omega
 have ezB:zB b0 Zl k s=b0+b*(k*s-s)+1:=by unfold zB;rw [hbU]
 have etB:tB a b0 Zl k s=yB a (y+b) b+(b0+b*(k*s-s)+1):=by unfold tB;rw [ezB,hbU,hgW]
 have hz:∀ p∈Ps,Pc.Pz (yB a (y+b) b) (eB b0 b) p.1 p.2/\p.1.length<=s:=fun p h=>by
  obtain ⟨t,ht⟩:=cL.mp h
  exact ⟨(hp t p ht).2.1,(hp t p ht).2.2.1⟩
 have ap:Aprt90 P B k s G U Ps:=⟨cn,ne,l20,fun p h=>⟨(hz p h).1.fm,(hz p h).2⟩,ed⟩
 generalize yB a (y+b) b=yy at *
 generalize eB b0 b=ee at *
 generalize hzz:b0+b*(k*s-s)+1=zz at *
 refine ⟨fun i st=>(∃ o4 o5:SD,st=[.val (pD P B),.val (.int s),.val (pD G U),.val (.tup (Ps.map fun p=>pD p.1 p.2)),o4,o5])/\∀ j q,j<i->Ps[j]? = some q->q.1.length<=1,⟨⟨.no,.no,rfl⟩,fun j q h=>absurd h (cu _)⟩,?_,?_⟩
 ·rintro i d _ hd ⟨⟨o4,o5,rfl⟩,hI⟩
  obtain ⟨x,hx,rfl⟩:=enumD_got hd
  rw [aG] at hx
  obtain ⟨p,hp1,rfl⟩:=aa.mp hx
  refine ⟨rfl,rfl,(p.1,p.2),rfl,?_⟩
  rintro _ rfl
  refine ifP (p:=(1:Int)<=(p.1.length:Int)-1) (fun c=>?_) (fun c=>?_)
  ·exact ⟨szN (n:=3) (by decide),q _ ⟨G,U,Ps,ap,by rw [hgW];exact wG,by rw [hbU];exact lU,.inl ⟨i,p,rfl,hp1,by omega,hI⟩⟩⟩
  ·refine ⟨⟨_,_,rfl⟩,fun j r hj hr=>?_⟩
   rcases bV (ev hj) with e | e
   ·rw [e,hp1] at hr
    cases hr
    omega
   ·exact hI j r e hr
 ·rintro _ ⟨⟨o4,o5,rfl⟩,hI⟩
  rw [enumD_len,ab] at hI
  have one:∀ r∈Ps,r.1.length<=1:=fun r hr=>by
   obtain ⟨t,ht⟩:=cL.mp hr
   exact hI t r (ak.mp ht).1 ht
  refine ⟨(congrArg (· <= sizeLine) (ab _)).mpr (szN (by omega)),fun i ys=>∃ fs:List (Int×Int),ys=fs2 fs/\fs.length=i/\∀ (j:Nat) (f:Int×Int),fs[j]? = some f->∃ p:List Int×Int,Ps[j]? = some p/\0<f.2/\Int.gcd f.1 f.2=1/\Lt2 yy f.1/\Qp.q p.1 p.2 0=(f.1:Rat) / (f.2:Rat),⟨[],rfl,rfl,fun j f h=>by cases h⟩,fun i d ys hd _ hy=>?_,fun ys _ hy=>?_⟩
  ·rw [aG] at hd
   obtain ⟨p,hp1,rfl⟩:=aa.mp hd
   have zp:=(hz p (aI hp1)).1
   refine ⟨rfl,(p.1,p.2,0,yy,ee),⟨rfl,zp,he⟩,?_⟩
   rintro _ ⟨t,u,rfl,u0,g,lt,lu,er⟩
   obtain ⟨fs,rfl,lf,hf⟩:=hy
   refine ⟨fs++[(t,u)],by unfold fs2;rw [bj];rfl,by rw [av,lf];rfl,fun j f hj=>?_⟩
   rcases am j fs.length with y | y
   ·rw [aY y] at hj
    exact hf j f hj
   ·have ej:j=i:=by
     have:=(ak.mp hj).1
     rw [av] at this
     simp at this
     omega
    subst ej
    rw [aL (by omega),lf,bM] at hj
    cases hj
    exact ⟨p,hp1,u0,g,lt,er⟩
  ·obtain ⟨fs,rfl,lf,hf⟩:=hy
   rw [ab] at lf
   have dv:∀ f∈fs,0<f.2/\Lt2 yy f.1/\f.2∣Dv:=fun f h=>by
    obtain ⟨j,hj⟩:=cL.mp h
    obtain ⟨p,hp1,u0,g,lt,er⟩:=hf j f hj
    refine ⟨u0,lt,?_⟩
    cases j with
    | zero =>
     have e0:Qp.q P B 0=Qp.q p.1 p.2 0:=by
      have a:=ed 0
      have b0:Qp.E G U 0=0:=by
       rw [Qp.q_zero]
       unfold Qp.q
       rw [G0]
       show (0:Rat) / _=0
       grind
      rw [b0] at a
      cases Ps with
      | nil=>exact absurd rfl ne
      | cons p' Ps =>
       cases hp1
       have a:Qp.E P B 0=Qp.E p.1 p.2 0+0*_:=a
       rw [Rat.zero_mul,Rat.add_zero,Qp.q_zero,Qp.q_zero] at a
       exact a
     refine dE (frac_dvd (a:=P.getD 0 0) u0 g B0 ?_) BD
     rw [← er,← e0]
     rfl
    | succ j =>
     have zp:=(hz p (aI hp1)).1
     refine dE (frac_dvd (a:=p.1.getD 0 0) u0 g zp.fm.pos ?_) ((hp (j+1) p hp1).1 (by omega))
     rw [← er]
     rfl
   refine ⟨rfl,(fs,Dv,yy),⟨rfl,dv,by omega,D0,lD.mono (by omega),by show yy<=10000000;omega⟩,?_⟩
   rintro _ ⟨R,C,rfl,fR,wR,lR,CD⟩
   have wR:∀ k,R.getD k 0*(fs.getD k (0,1)).2=(fs.getD k (0,1)).1*C:=wR
   have lR:R.length<=fs.length:=lR
   have lC:Lt2 zz C:=lD.le (bv (by omega) (aR.mpr CD))
   refine ⟨szN (n:=3) (by decide),q _ ⟨G,U,Ps,ap,by rw [hgW];exact wG,by rw [hbU];exact lU,.inr ⟨R,C,rfl,⟨fR,fun k=>?_,by rw [ezB];exact lC⟩,one,by omega,fun x y=>?_⟩⟩⟩
   ·rcases am k fs.length with y | y
    ·obtain ⟨f,hf1⟩:∃ f,fs[k]? = some f:=⟨fs[k],aq y⟩
     have w:=wR k
     rw [getD_of hf1] at w
     obtain ⟨u0,lt,_⟩:=dv f (aI hf1)
     rw [etB]
     refine (lt.mul lC).le ?_
     rw [← w,aJ]
     exact br _ (by omega)
    ·rw [getD_out (by omega)]
     exact zlt _
   ·rw [E_er (N:=Ps.length) (by omega),ed_er (f:=Qp.q R C) one fun j p hj=>?_]
    have lj:j<fs.length:=by rw [lf];exact (ak.mp hj).1
    obtain ⟨f,hf1⟩:∃ f,fs[j]? = some f:=⟨fs[j],aq lj⟩
    obtain ⟨p',hp',u0,g,lt,er⟩:=hf j f hf1
    rw [hj] at hp'
    cases hp'
    rw [er]
    have w:=wR j
    rw [getD_of hf1] at w
    exact (Qp.div_eq (aw fR.pos) (aw u0)).mpr w
end Dp
namespace Dp
open PySem L2
structure Sz (P:List Int) (B:Int) (m a b0 Z:Nat):Prop where
 z:Pc.Pz a b0 P B
 l:P.length=m+1
 m1:1<=m
 m12:m<=12
 lZ:Lt2 Z (P.getD m 0)
 sz:SzA a b0 Z m
theorem barred_not90 {P:List Int} {B:Int} {k s:Nat} {G:List Int} {U:Int} {Ps:List (List Int×Int)} {i:Nat} {p:List Int×Int} (k1:1<=k) (s1:1<=s) (hP:P.getD (k*s) 0≠0) (a:Aprt90 P B k s G U Ps) (hi:Ps[i]? = some p) (h2:2<=p.1.length):¬ Mad P B k s:=by
 rintro ⟨G',U',R,C,fG',lG',cG',fR,e⟩
 obtain ⟨⟨fG,lG,cG⟩,_,_,hz,ed⟩:=a
 obtain ⟨rfl,rfl⟩:=Ca.Cand.uniq k1 hP fG fG' lG lG' cG cG'
 obtain ⟨Cs,lC,hC,eC⟩:=consts R.length (Qp.q R C)
 have u:=Ap.Ed.uniq2 fG lG (ps:=Ps) (qs:=Cs) (fun q hq=>hz q hq) (fun q hq=>⟨(hC q hq).1,aB (hC q hq).2 s1⟩) (fun x=>by rw [← ed,e,eC,E_er (aj _)]) i
 rw [getD_of hi] at u
 have:(Cs.getD i ([],1)).1.length<=1:=mem_getD (p:=fun q:List Int×Int=>q.1.length<=1) (fun q hq=>(hC q hq).2) (aC _)
 rw [← u] at this
 omega
theorem made_is90 {P:List Int} {B:Int} {k s:Nat} {G:List Int} {U:Int} {Ps:List (List Int×Int)} {R:List Int} {C:Int} (a:Aprt90 P B k s G U Ps) (fR:Po.Fm R C) (e:∀ x y,Qp.E R C y=Ap.Ed y x Ps):Mad P B k s:=by
 obtain ⟨⟨fG,lG,cG⟩,_,_,hz,ed⟩:=a
 exact ⟨G,U,R,C,fG,lG,cG,fR,fun x=>by rw [ed,e]⟩
noncomputable def iQ:SpB:=.of 1 (α:=List Int×Int×Nat×Nat×Nat×Nat) (fun (P,B,n,a,b0,Z) ds=>ds=[pD P B]/\Sz P B n a b0 Z) (fun (P,B,n,_,_,_) d=>d=nD (ind P B n))
noncomputable def j4:TSd:=(g9 [] (ia (il (gS kz (gO (gS iE (gO (gP 0) gQ)) gQ))) [1] (gNm 1) (gX (g8 .Eq (dIx (gS ii (gO (gP 0) (gO (gP 1) gQ))) (dC (.int 0))) (dC (.str "made")))) (gP 1)))
open Classical in
theorem jt:Does 2 j4 iQ:=by
 rintro ds Q hn ⟨⟨P,B,n,a0,b0,Z0⟩,⟨rfl,h⟩,q⟩
 dsimp only at h q
 obtain ⟨z,lP,n1,n12,lZ,hsz⟩:=h
 refine ⟨rfl,(P,B),rfl,?_⟩
 rintro _ rfl
 refine ⟨rfl,n,⟨?_,by omega⟩,?_⟩
 ·show [D.int ((P.length:Int)-1)]=[D.int (n:Int)]
  rw [lP,show ((n+1:Nat):Int)-1=(n:Int) by omega]
 rintro _ rfl
 have ll:=dvs_len n n
 refine ⟨(congrArg (· <= sizeLine) (ab _)).mpr (szN (by omega)),fun i ys=>ys=(((dvs n n).take i).filter fun s=>decide (Mad P B (n / s) s)).map fun s=>D.int ((s:Nat):Int),rfl,fun i d ys hd _ hy=>?_,fun ys _ hy=>?_⟩
 ·rw [aG] at hd
  obtain ⟨s,hs,rfl⟩:=aa.mp hd
  obtain ⟨s1,s2,s3⟩:=mem_dvs.mp (aI hs)
  have e:n / s*s=n:=by
   have:=Nat.div_add_mod n s
   rw [s3,fI,bt] at this
   exact this
  have k1:1<=n / s:=dW s2 s1
  have hP:P.getD (n / s*s) 0≠0:=by rw [e];exact fm_top z.fm lP
  refine ⟨rfl,(P,B,n / s,s,a0,b0,Z0),⟨rfl,z,by rw [e];exact lP,k1,s1,by rw [e];exact n12,by rw [e];exact lZ,by rw [e];exact hsz⟩,?_⟩
  rintro _ ⟨G,U,Ps,a,_,_,h⟩
  subst hy
  have T0:(((dvs n n).take (i+1)).filter fun s=>decide (Mad P B (n / s) s)).map (fun s=>D.int ((s:Nat):Int))=(((dvs n n).take i).filter fun s=>decide (Mad P B (n / s) s)).map (fun s=>D.int ((s:Nat):Int))++(([s]:List Nat).filter fun s=>decide (Mad P B (n / s) s)).map (fun s=>D.int ((s:Nat):Int)):=by
   rw [gB,hs,gy,bj]
   rfl
  rcases h with ⟨j,p,rfl,hj,h2,_⟩ | ⟨R,C,rfl,zR,one,lR,eR⟩
  ·have no:=barred_not90 k1 s1 hP a hj h2
   rw [List.filter_cons_of_neg (by simpa using no)] at T0
   exact (T0.trans (b9 _)).symm
  ·have yes:=made_is90 a zR.fm eR
   rw [List.filter_cons_of_pos (by simpa using yes)] at T0
   exact T0.symm
 ·rw [ab,bD] at hy
  exact q _ (congrArg D.lst hy)
noncomputable def iR:SpB:=.of 2 (α:=List Int×Int×Nat×Nat×Nat×Nat×Nat) (fun (P,B,k,s,a,b0,Z) ds=>ds=[pD P B,.int s]/\1<=k/\1<=s/\Sz P B (k*s) a b0 Z) (fun (P,B,k,s,_,_,_) d=>∃ G U,d=pD G U/\Cn P k s G U)
noncomputable def mP:TSd:=(g9 [] (gS iP (gO (gP 0) (gO (gP 1) gQ))))
theorem kh:Does 2 mP iR:=by
 rintro ds Q hn ⟨⟨P,B,k,s,a,b0,Z⟩,⟨rfl,k1,s1,h⟩,q⟩
 dsimp only at k1 s1 h q
 obtain ⟨z,lP,_,ks,lZ,c1,_,c3,_⟩:=h
 refine ⟨rfl,(P,B,k,s,a,Z),⟨rfl,lP,k1,s1,ks,z.tops,lZ,by show a+(Z+8)*(k*s)<=99000;omega,by show Z<=30000;omega,fm_top z.fm lP⟩,?_⟩
 rintro _ ⟨G,U,rfl,cn,_⟩
 exact q _ ⟨G,U,rfl,cn⟩
theorem cn_one90 {P:List Int} {B:Int} {m:Nat} (fP:Po.Fm P B) (lP:P.length=m+1) (m1:1<=m):Cn P m 1 Pc.X 1:=by
 obtain ⟨G,U,c⟩:=cn_ex (P:=P) (k:=m) (s:=1) m1 (aj _) (by rw [du];exact fm_top fP lP)
 have c':=c
 obtain ⟨fG,lG,cG⟩:=c'
 obtain ⟨mG,G0⟩:=cand_mon cG (aj _)
 have U0:=Qp.ne_of_pos fG.pos
 obtain ⟨rfl,rfl⟩:=Qp.E_inj fG Pc.X_pz.fm fun y=>by
  rw [Qp.E_X,Qp.E_two (by omega),show G.getD 0 0=0 from G0,show G.getD 1 0=U from mG]
  show (0:Rat) / _+_=_
  grind
 exact c
end Dp
namespace Dp
open PySem L2 Cv Hv Pc Qp
theorem cn_made {H A:List Int} {V α:Int} {k s:Nat} (k1:1<=k) (s1:1<=s) (fH:Po.Fm H V) (lH:H.length=k*s+1) (fA:Po.Fm A α) (lA:A.length=s+1) (mA:A.getD s 0=α) (A0:A.getD 0 0=0) (h:Out H V A α):Cn H k s A α:=by
 obtain ⟨W,w,fW,eW⟩:=h
 have lW:=out_len s1 fH lH fA lA fW eW
 have c:=cn_comp (l:=1) k1 (aj _) s1 fH fA lA mA A0 fW (by rw [du];exact lW) eW (cn_one90 fW lW k1) fA fun x=>by rw [E_X]
 rw [ga] at c
 exact c
end Dp
namespace Dp
open PySem L2
theorem nD_ints (l:List Nat):nD l = .lst ((l.map fun s=>((s:Nat):Int)).map .int):=by
 unfold nD
 rw [List.map_map]
 rfl
theorem mem_ind {P:List Int} {B:Int} {n s:Nat} (h:s∈ind P B n):1<=s/\n / s*s=n/\1<=n / s/\Mad P B (n / s) s:=by
 unfold ind at h
 obtain ⟨h1,h2⟩:=bK.mp h
 obtain ⟨s1,s2,s3⟩:=mem_dvs.mp h1
 exact ⟨s1,df (fF s3),dW s2 s1,by simpa using h2⟩
theorem mem_nat {l:List Nat} {s:Nat}:((s:Nat):Int)∈(l.map fun s=>((s:Nat):Int))↔s∈l:=by
 rw [cP]
 constructor
 ·rintro ⟨a,ha,e⟩
  have:a=s:=by omega
  exact this ▸ ha
 ·exact fun h=>⟨s,h,rfl⟩
theorem pD_inj {A A':List Int} {B B':Int} (e:[D.tup (A.map D.int),.int B]=[D.tup (A'.map D.int),.int B']):A=A'/\B=B':=by
 injection e with e1 e2
 injection e2 with e2 _
 injection e1 with e1
 injection e2 with e2
 exact ⟨ints_inj e1,e2⟩
theorem pD_eqD {neg:Bool} {A A':List Int} {B B':Int} {Q:D->Prop} (q:∀ k:Bool,(k=true↔A=A'/\B=B')->Q (.bl (if neg then !k else k))):oEq neg (pD A B) (pD A' B') Q :=
 ⟨pD_pls _ _,pD_pls _ _,pD_dps60 _ _,fun k hk=>q k (hk.trans ⟨pD_inj,fun ⟨a,b⟩=>by rw [a,b]⟩)⟩
theorem pD_eqE {A A':List Int} {B B':Int} {Q:D->Prop} (q:∀ k:Bool,(k=true↔A=A'/\B=B')->Q (.bl k)):oCmp .Eq (pD A B) (pD A' B') Q:=pD_eqD (neg:=false) q
theorem pD_neE {A:List Int} {B:Int} {Q:D->Prop} (q:Q (.bl false)):oCmp .NotEq (pD A B) (pD A B) Q:=pD_eqD (neg:=true) fun k hk=>by rw [hk.mpr ⟨rfl,rfl⟩];exact q
end Dp
namespace Dp
open PySem L2
def ok57 (a t:Nat):Bool:=decide (tB 133 133 133 a t+(133+zB 133 133 a t+8)*a<=80000) && decide (zB 133 133 a t<=1000000) && decide (133+zB 133 133 a t<=27000) && decide ((133+zB 133 133 a t+8)*(a-1) / 2<=26000) &&
  decide (bU 133 a t+gW 133 133 (a*t)*t+(bU 133 a t+8)*t<=80000) && decide (bU 133 a t<=1000000) && decide (bU 133 a t<=27000) && decide ((bU 133 a t+8)*(t-1) / 2<=26000) &&
  decide (zB 133 133 a t+zB 133 133 a t+bU 133 a t*(a+1)<=8900000) && decide (tB 133 133 133 a t+(bU 133 a t+gW 133 133 (a*t)*t+bU 133 a t+10)*(a+1+1)<=400000) && decide ((a+1)*(t+1)<=190) && decide (bU 133 a t+gW 133 133 (a*t)*t<=30000)
theorem all57:(List.range 13).all (fun a=>(List.range 13).all fun t=>decide (a=0) || decide (t=0) || decide (12<a*t) || ok57 a t)=true:=by decide +kernel
theorem num57 {a t:Nat} (a1:1<=a) (t1:1<=t) (h:a*t<=12):(SzA (tB 133 133 133 a t) (zB 133 133 a t) (133+zB 133 133 a t) a)/\(SzA (bU 133 a t+gW 133 133 (a*t)*t) (bU 133 a t) (bU 133 a t) t) /\
  zB 133 133 a t+zB 133 133 a t+bU 133 a t*(a+1)<=8900000/\tB 133 133 133 a t+(bU 133 a t+gW 133 133 (a*t)*t+bU 133 a t+10)*(a+1+1)<=400000/\(a+1)*(t+1)<=190/\bU 133 a t+gW 133 133 (a*t)*t<=30000:=by
 have at1:a<=a*t:=br _ t1
 have at2:t<=a*t:=aN _ a1
 have w:=bz.mp (bz.mp all57 a (bX.mpr (by omega))) t (bX.mpr (by omega))
 rw [decide_eq_false (show ¬ a=0 by omega),decide_eq_false (show ¬ t=0 by omega),decide_eq_false (show ¬ 12<a*t by omega),cK,cK,cK] at w
 unfold ok57 at w
 simp only [aV,decide_eq_true_eq] at w
 obtain ⟨⟨⟨⟨⟨⟨⟨⟨⟨⟨⟨n1,n2⟩,n3⟩,n4⟩,n5⟩,n6⟩,n7⟩,n8⟩,n9⟩,n10⟩,n11⟩,n12⟩:=w
 exact ⟨⟨n1,n2,n3,n4⟩,⟨n5,n6,n7,n8⟩,n9,n10,n11,n12⟩
structure Sd (P:List Int) (B:Int) (m a t:Nat) (G:List Int) (U:Int) (R:List Int) (C:Int):Prop where
 sP:Sz P B m 133 133 133
 t1:1<=t
 e:a*t=m
 a1:1<=a
 fR:Po.Fm R C
 l:R.length=a+1
 eR:∀ x,Qp.E P B x=Qp.E R C (Qp.E G U x)
 sR:∃ a' b Z,Sz R C a a' b Z
 sG:∃ a b Z,Sz G U t a b Z/\a<=30000/\b<=27000
 of:∀ {Q:D->Prop},Q (pD P B)->[pD R C,pD G U].length=ic.n/\ic.run [pD R C,pD G U] Q
theorem Sd.mk' {P G R:List Int} {B U C:Int} {m a t:Nat} (sP:Sz P B m 133 133 133) (t1:1<=t) (a1:1<=a) (e:a*t=m) (fG:Po.Fm G U) (lG:G.length=t+1) (mG:G.getD t 0=U) (wG:Wt (gW 133 133 m) G U t) (lU:Lt2 (bU 133 a t) U) (zR:Pc.Pz (tB 133 133 133 a t) (zB 133 133 a t) R C) (eR:∀ x,Qp.E P B x=Qp.E R C (Qp.E G U x)):Sd P B m a t G U R C:=by
 have m1:=sP.m1
 have m12:=sP.m12
 have at1:a<=a*t:=br _ t1
 have at2:t<=a*t:=aN _ a1
 obtain ⟨n1,n2,n3,n4,n5,n6⟩:=num57 (a:=a) a1 t1 (by omega)
 have lR:=out_len (k:=a) t1 sP.z.fm (by rw [e];exact sP.l) fG lG zR.fm eR
 have ld:=lead_of (k:=a) a1 t1 sP.z.fm fG lG mG zR.fm lR eR
 rw [e] at ld n2 n4 n6
 have zG:=wG.pz fG lG lU
 have lead:Lt2 (133+zB 133 133 a t) (R.getD a 0):=by
  have h:=(Qp.div_eq (aw sP.z.fm.pos) (aw zR.fm.pos)).mp ld
  refine (sP.lZ.mul zR.bot).le ?_
  rw [h,aJ]
  exact br _ (by have:=sP.z.fm.pos;omega)
 refine ⟨sP,t1,e,a1,zR.fm,lR,eR,⟨_,_,_,zR,lR,a1,by omega,lead,n1⟩,⟨_,_,_,⟨zG,lG,t1,by omega,by rw [mG];exact lU,n2⟩,n6,n2.2.2.1⟩,fun {Q} q=>?_⟩
 refine ⟨rfl,(R,C,G,U,tB 133 133 133 a t,zB 133 133 a t,bU 133 a t+gW 133 133 m*t,bU 133 a t),⟨rfl,zR,zG,by rw [lR];exact n3,by rw [lR];exact n4,by rw [lR,lG];exact n5,?_,?_⟩,?_⟩
 ·show R.length<=190;omega
 ·show G.length<=190;omega
 rintro _ ⟨S,c,rfl,o⟩
 have o:Pc.Of R C G U S c:=o
 obtain ⟨rfl,rfl⟩:=Qp.E_inj o.1 sP.z.fm fun x=>by rw [Qp.E_of zR.fm.pos fG.pos o,eR]
 exact q
theorem sz133 {P:List Int} {B:Int} {m:Nat} (z:Pc.Pz 133 133 P B) (l:P.length=m+1) (m1:1<=m) (m12:m<=12):Sz P B m 133 133 133:=⟨z,l,m1,m12,z.tops _,by omega,by decide,by decide,by omega⟩
end Dp
namespace Dp
open PySem L2 Qp
theorem compD_ex32 {ds:List D} {s0:SS} {g:TGd} {e:TEd} {Q:D->Prop} (W:Nat->D->Prop) (hl:ds.length<=16777216) (h:∀ i d,ds[i]? = some d->g.run d s0 fun s1=>e.run s1 (W i)) (q:∀ ys:List D,ys.length=ds.length->(∀ i y,ys[i]? = some y->W i y)->Q (.lst ys)):compD ds s0 g iG e Q:=by
 refine ⟨szN hl,fun i ys=>ys.length=i/\∀ j y,ys[j]? = some y->W j y,⟨rfl,fun j y h=>by cases h⟩,?_,?_⟩
 ·rintro i d ys hd _ ⟨l,hw⟩
  refine g.mono (fun s1 w=>?_) (h i d hd)
  refine e.mono (fun y w=>?_) w
  refine ⟨by rw [av,l];rfl,fun j z hz=>?_⟩
  rcases am j ys.length with c | c
  ·rw [aY c] at hz
   exact hw j z hz
  ·rw [aL c] at hz
   obtain ⟨z1,z2⟩:=ak.mp hz
   have e0:j-ys.length=0:=by simp at z1;omega
   have ej:j=i:=by omega
   subst ej
   simp [e0] at hz
   rw [← hz]
   exact w
 ·rintro ys _ ⟨l,hw⟩
  exact q ys l hw
def ok32 (n s t:Nat):Bool:=decide (n%s≠0) || decide (n%t≠0) || decide (Nat.gcd s t=s) || decide (Nat.gcd s t=t) || decide (Nat.gcd s t=1) || (decide (n=12) && ((decide (s=4) && decide (t=6)) || (decide (s=6) && decide (t=4))))
theorem all32:(List.range 13).all (fun n=>(List.range 13).all fun s=>(List.range 13).all fun t=>decide (n=0) || decide (s=0) || decide (t=0) || ok32 n s t)=true:=by decide +kernel
theorem ways32 {n s t:Nat} (n1:1<=n) (n12:n<=12) (d:s∣n) (d':t∣n):Nat.gcd s t=s\/Nat.gcd s t=t\/Nat.gcd s t=1\/(n=12/\((s=4/\t=6)\/(s=6/\t=4))):=by
 have s1:=cr d n1
 have t1:=cr d' n1
 have s2:=bv n1 d
 have t2:=bv n1 d'
 have w:=bz.mp (bz.mp (bz.mp all32 n (bX.mpr (by omega))) s (bX.mpr (by omega))) t (bX.mpr (by omega))
 rw [decide_eq_false (show ¬ n=0 by omega),decide_eq_false (show ¬ s=0 by omega),decide_eq_false (show ¬ t=0 by omega),cK,cK,cK] at w
 unfold ok32 at w
 rw [decide_eq_false (show ¬ n%s≠0 from fun h=>h (dQ d)),decide_eq_false (show ¬ n%t≠0 from fun h=>h (dQ d')),cK,cK] at w
 simp only [eK,aV,decide_eq_true_eq] at w
 rcases w with ((h | h) | h) | h
 ·exact .inl h
 ·exact .inr (.inl h)
 ·exact .inr (.inr (.inl h))
 ·exact .inr (.inr (.inr h))
theorem mad_gcd {P:List Int} {B:Int} {n s t:Nat} (fP:Po.Fm P B) (lP:P.length=n+1) (n1:1<=n) (n12:n<=12) (d:s∣n) (d':t∣n) (h:Mad P B (n / s) s) (h':Mad P B (n / t) t):Mad P B (n / Nat.gcd s t) (Nat.gcd s t):=by
 rcases ways32 n1 n12 d d' with e | e | e | ⟨rfl,⟨rfl,rfl⟩ | ⟨rfl,rfl⟩⟩
 ·rw [e];exact h
 ·rw [e];exact h'
 ·rw [e,Nat.div_one]
  obtain ⟨f,l,c⟩:=cn_one90 fP lP n1
  exact ⟨Pc.X,1,P,B,f,l,c,fP,fun x=>by rw [E_X]⟩
 ·exact mad_two fP lP h h'
 ·exact mad_two fP lP h' h
theorem in_ind {P:List Int} {B:Int} {n s:Nat} (n1:1<=n) (d:s∣n) (h:Mad P B (n / s) s):s∈ind P B n:=by
 unfold ind
 rw [bK]
 refine ⟨mem_dvs.mpr ⟨cr d n1,bv n1 d,dQ d⟩,?_⟩
 simpa using h
theorem gcd_in {P:List Int} {B:Int} {n s t:Nat} (fP:Po.Fm P B) (lP:P.length=n+1) (n1:1<=n) (n12:n<=12) (hs:s∈ind P B n) (ht:t∈ind P B n):Nat.gcd s t∈ind P B n/\Nat.lcm s t∈ind P B n:=by
 obtain ⟨s1,s2,_,ms⟩:=mem_ind hs
 obtain ⟨t1,t2,_,mt⟩:=mem_ind ht
 have ds:s∣n:=⟨n / s,by rw [bt];exact s2.symm⟩
 have dt:t∣n:=⟨n / t,by rw [bt];exact t2.symm⟩
 refine ⟨in_ind n1 (fi (eF s t) ds) (mad_gcd fP lP n1 n12 ds dt ms mt),?_⟩
 obtain ⟨d,h⟩:=mad_lcm fP lP n1 ds dt ms mt
 exact in_ind n1 d h
theorem szB_le {a b Z k s:Nat} (h:SzA a b Z (k*s)) (k1:1<=k) (s1:1<=s) (ks:k*s<=12) (b2:b<=27000):zB b Z k s<=351001/\tB a b Z k s<=2100000:=by
 have u:=bU_le h k1 s1
 obtain ⟨h1,_,_,_⟩:=h
 have m:bU Z k s*(k*s-s)<=27000*12:=aU u (by omega)
 have z:zB b Z k s<=351001:=by unfold zB;omega
 refine ⟨z,?_⟩
 unfold tB yB gW
 omega
abbrev toD (R:List Int) (C:Int) (G:List Int) (U:Int):D:=.tup [.str "made",pD R C,pD G U]
structure LyF (P:List Int) (B:Int) (n s:Nat) (G:List Int) (U:Int) (R:List Int) (C:Int):Prop where
 c:Cn P (n / s) s G U
 sd:Sd P B n (n / s) s G U R C
 zR:Pc.Pz (tB 133 133 133 (n / s) s) (zB 133 133 (n / s) s) R C
 zG:Pc.Pz (bU 133 (n / s) s+gW 133 133 n*s) (bU 133 (n / s) s) G U
theorem ap32 {P:List Int} {B:Int} {n s:Nat} {Q:D->Prop} (sP:Sz P B n 133 133 133) (hs:s∈ind P B n) (q:∀ G U R C,LyF P B n s G U R C->Q (toD R C G U)):[pD P B,.int (s:Int)].length=ii.n/\ii.run [pD P B,.int (s:Int)] Q:=by
 obtain ⟨s1,e,k1,md⟩:=mem_ind hs
 have lP:P.length=n / s*s+1:=by rw [e];exact sP.l
 refine ⟨rfl,(P,B,n / s,s,133,133,133),⟨rfl,sP.z,lP,k1,s1,by rw [e];exact sP.m12,by rw [e];exact sP.lZ,by rw [e];exact sP.sz⟩,?_⟩
 rintro _ ⟨G,U,Ps,ap,wt,lu,h⟩
 have wt:Wt (gW 133 133 (n / s*s)) G U s:=wt
 have lu:Lt2 (bU 133 (n / s) s) U:=lu
 rw [e] at wt
 have hL:=fm_top sP.z.fm lP
 rcases h with ⟨i,p,rfl,hi,h2,_⟩ | ⟨R,C,rfl,zR,one,lR,eR⟩
 ·exact absurd md (barred_not90 k1 s1 hL ap hi h2)
 ·obtain ⟨c,_,_,_,ed⟩:=ap
  obtain ⟨mG,G0⟩:=cand_mon c.2.2 s1
  exact q G U R C ⟨c,Sd.mk' sP s1 k1 e c.1 c.2.1 mG wt lu zR fun x=>by rw [ed,eR],zR,wt.pz c.1 c.2.1 lu⟩
theorem in_other {P G H R S:List Int} {B U V C c:Int} {n s t:Nat} (hs:LyF P B n s G U R C) (ht:LyF P B n t H V S c) (d:s∣t):Cn H (t / s) s G U/\Out H V G U:=by
 have s1:=hs.sd.t1
 have t1:=ht.sd.t1
 have et:t / s*s=t:=df d
 have k1:1<=t / s:=dW (bv t1 d) s1
 have lP:P.length=n / t*(t / s*s)+1:=by rw [et,ht.sd.e];exact ht.sd.sP.l
 obtain ⟨H',V',W,w,cH,fW,lW,eW⟩:=cn_over ht.sd.a1 k1 s1 ht.sd.sP.z.fm lP hs.sd.a1 hs.c ⟨R,C,hs.sd.fR,hs.sd.eR⟩
 rw [et] at cH
 obtain ⟨rfl,rfl⟩:=Cn.uniq ht.sd.sP.z.fm (by rw [ht.sd.e];exact ht.sd.sP.l) ht.sd.a1 cH ht.c
 obtain ⟨mG,G0⟩:=cand_mon hs.c.2.2 s1
 exact ⟨cn_made k1 s1 ht.c.1 (by rw [et];exact ht.c.2.1) hs.c.1 hs.c.2.1 mG G0 ⟨W,w,fW,eW⟩,W,w,fW,eW⟩
theorem kv32 {P:List Int} {B:Int} {n:Nat}:∀ {ys:List D} {l:List Nat},ys.length=l.length->(∀ (i:Nat) (y:D),ys[i]? = some y->∃ s G U R C,l[i]? = some s/\y = .tup [.int ((s:Nat):Int),toD R C G U]/\LyF P B n s G U R C) ->
  ∃ kvs:List (Key×D),ys=kvs.map kvD/\kvs.map (·.1)=l.map (fun s=>Sum.inl ((s:Nat):Int))/\∀ s∈l,∃ (j:Nat) (G:List Int) (U:Int) (R:List Int) (C:Int),(kvs.map (·.1))[j]? = some (Sum.inl ((s:Nat):Int))/\(kvs.map (·.2))[j]? = some (toD R C G U)/\LyF P B n s G U R C
 | [],[],_,_=>⟨[],rfl,rfl,fun s h=>by cases h⟩
 | y::ys,s::l,e,h=>by
  obtain ⟨s',G,U,R,C,e1,rfl,ly⟩:=h 0 y rfl
  cases e1
  obtain ⟨kvs,rfl,ek,hk⟩:=kv32 (ys:=ys) (l:=l) (by simpa using e) fun i y hy=>h (i+1) y hy
  refine ⟨(Sum.inl ((s:Nat):Int),toD R C G U)::kvs,rfl,by rw [bW,bW,ek],fun t ht=>?_⟩
  rcases ar.mp ht with z | z
  ·subst z
   exact ⟨0,G,U,R,C,rfl,rfl,ly⟩
  ·obtain ⟨j,G,U,R,C,h1,h2,h3⟩:=hk t z
   exact ⟨j+1,G,U,R,C,h1,h2,h3⟩
theorem ind_nodup {P:List Int} {B:Int} {n:Nat}:(ind P B n).Nodup:=by
 unfold ind
 refine List.Pairwise.filter _ ?_
 rw [dh]
 intro i j hi hj ij
 exact aM (dvs_lt (aq hi) (aq hj) ij)
theorem keys_nodup {l:List Nat} (h:l.Nodup):(l.map (fun s=>(Sum.inl ((s:Nat):Int):Key))).Nodup:=by
 rw [List.Nodup,gC]
 refine List.Pairwise.imp (fun {a b} hab e=>hab ?_) h
 have:=Sum.inl.inj e
 omega
end Dp
namespace Dp
open PySem L2 Qp
noncomputable def ju:SpB:=.of 1 (α:=List Int×Int×Nat) (fun (P,B,n) ds=>ds=[pD P B]/\Pc.Pz 133 133 P B/\P.length=n+1/\1<=n/\n<=12) (fun _ d=>d = .bl true)
noncomputable def kW:TSd:=(g9 [] (dB bAll bAll.mono (gO (ia (il (gP 1)) [3] (gNm 3) iG (g8 .Eq (gS ke (gO (dIx (dIx (gP 2) (gP 3)) (dC (.int 1))) (gO (dIx (dIx (gP 2) (gP 3)) (dC (.int 2))) gQ))) (gP 0))) gQ)))
noncomputable def iJ:TSd:=dSq (iC [] (il (gP 1)) (gNm 3)
 (dSq (dIf [] (jf (gX (g8 .NotEq (dIx (dIx (gP 2) (gP 3)) (dC (.int 0))) (dC (.str "made")))) (gX (g8 .NotEq (dIx (dIx (gP 2) (gP 3)) (dC (.int 2))) (gS iR (gO (gP 0) (gO (gP 3) gQ))))))
 (g9 [] (dC (.bl false)))
 hV)
 (iC [] (il (gP 1)) (gNm 4)
 (dSq (gU [] (gNm 5) (gS ip (gO (gP 3) (gO (gP 4) gQ))))
 (dSq (dIf [] (jf (gX (g8 .NotIn (gP 5) (gP 1))) (gX (g8 .NotIn (gT .FloorDiv (gT .Mult (gP 3) (gP 4)) (gP 5)) (gP 1))))
 (g9 [] (dC (.bl false)))
 hV)
 (dIf [] (gX (g8 .Eq (gT .Mod (gP 4) (gP 3)) (dC (.int 0))))
 (dSq (gU [] (gNm 6) (gS ii (gO (dIx (dIx (gP 2) (gP 4)) (dC (.int 2))) (gO (gP 3) gQ))))
 (dSq (dIf [] (jf (gX (g8 .NotEq (dIx (gP 6) (dC (.int 0))) (dC (.str "made")))) (gX (g8 .NotEq (dIx (gP 6) (dC (.int 2))) (dIx (dIx (gP 2) (gP 3)) (dC (.int 2))))))
 (g9 [] (dC (.bl false)))
 hV)
 (dIf [] (gX (g8 .NotEq (gS ke (gO (dIx (dIx (gP 2) (gP 4)) (dC (.int 1))) (gO (dIx (gP 6) (dC (.int 1))) gQ))) (dIx (dIx (gP 2) (gP 3)) (dC (.int 1)))))
 (g9 [] (dC (.bl false)))
 hV)))
 hV))))))
 kW
noncomputable def kX:TSd:=dSq (gU [] (gNm 2) (dB bDict bDict.mono (gO (ia (il (gP 1)) [3] (gNm 3) iG (gZ (gO (gP 3) (gO (gS ii (gO (gP 0) (gO (gP 3) gQ))) gQ)))) gQ)))
 iJ
noncomputable def mQ:TSd:=dSq (gU [] (gNm 1) (gS iQ (gO (gP 0) gQ)))
 kX
noncomputable def pW:TSd:=(dSq (gU [] (gNm 6) (gS ii (gO (dIx (dIx (gP 2) (gP 4)) (dC (.int 2))) (gO (gP 3) gQ))))
 (dSq (dIf [] (jf (gX (g8 .NotEq (dIx (gP 6) (dC (.int 0))) (dC (.str "made")))) (gX (g8 .NotEq (dIx (gP 6) (dC (.int 2))) (dIx (dIx (gP 2) (gP 3)) (dC (.int 2))))))
 (g9 [] (dC (.bl false)))
 hV)
 (dIf [] (gX (g8 .NotEq (gS ke (gO (dIx (dIx (gP 2) (gP 4)) (dC (.int 1))) (gO (dIx (gP 6) (dC (.int 1))) gQ))) (dIx (dIx (gP 2) (gP 3)) (dC (.int 1)))))
 (g9 [] (dC (.bl false)))
 hV)))
noncomputable def pX:TSd:=(dSq (gU [] (gNm 5) (gS ip (gO (gP 3) (gO (gP 4) gQ))))
 (dSq (dIf [] (jf (gX (g8 .NotIn (gP 5) (gP 1))) (gX (g8 .NotIn (gT .FloorDiv (gT .Mult (gP 3) (gP 4)) (gP 5)) (gP 1))))
 (g9 [] (dC (.bl false)))
 hV)
 (dIf [] (gX (g8 .Eq (gT .Mod (gP 4) (gP 3)) (dC (.int 0))))
 (dSq (gU [] (gNm 6) (gS ii (gO (dIx (dIx (gP 2) (gP 4)) (dC (.int 2))) (gO (gP 3) gQ))))
 (dSq (dIf [] (jf (gX (g8 .NotEq (dIx (gP 6) (dC (.int 0))) (dC (.str "made")))) (gX (g8 .NotEq (dIx (gP 6) (dC (.int 2))) (dIx (dIx (gP 2) (gP 3)) (dC (.int 2))))))
 (g9 [] (dC (.bl false)))
 hV)
 (dIf [] (gX (g8 .NotEq (gS ke (gO (dIx (dIx (gP 2) (gP 4)) (dC (.int 1))) (gO (dIx (gP 6) (dC (.int 1))) gQ))) (dIx (dIx (gP 2) (gP 3)) (dC (.int 1)))))
 (g9 [] (dC (.bl false)))
 hV)))
 hV)))
noncomputable def pY:TSd:=(dSq (dIf [] (jf (gX (g8 .NotEq (dIx (dIx (gP 2) (gP 3)) (dC (.int 0))) (dC (.str "made")))) (gX (g8 .NotEq (dIx (dIx (gP 2) (gP 3)) (dC (.int 2))) (gS iR (gO (gP 0) (gO (gP 3) gQ))))))
 (g9 [] (dC (.bl false)))
 hV)
 (iC [] (il (gP 1)) (gNm 4)
 (dSq (gU [] (gNm 5) (gS ip (gO (gP 3) (gO (gP 4) gQ))))
 (dSq (dIf [] (jf (gX (g8 .NotIn (gP 5) (gP 1))) (gX (g8 .NotIn (gT .FloorDiv (gT .Mult (gP 3) (gP 4)) (gP 5)) (gP 1))))
 (g9 [] (dC (.bl false)))
 hV)
 (dIf [] (gX (g8 .Eq (gT .Mod (gP 4) (gP 3)) (dC (.int 0))))
 (dSq (gU [] (gNm 6) (gS ii (gO (dIx (dIx (gP 2) (gP 4)) (dC (.int 2))) (gO (gP 3) gQ))))
 (dSq (dIf [] (jf (gX (g8 .NotEq (dIx (gP 6) (dC (.int 0))) (dC (.str "made")))) (gX (g8 .NotEq (dIx (gP 6) (dC (.int 2))) (dIx (dIx (gP 2) (gP 3)) (dC (.int 2))))))
 (g9 [] (dC (.bl false)))
 hV)
 (dIf [] (gX (g8 .NotEq (gS ke (gO (dIx (dIx (gP 2) (gP 4)) (dC (.int 1))) (gO (dIx (gP 6) (dC (.int 1))) gQ))) (dIx (dIx (gP 2) (gP 3)) (dC (.int 1)))))
 (g9 [] (dC (.bl false)))
 hV)))
 hV)))))
def Lay32 (P:List Int) (B:Int) (n:Nat) (d0:D):Prop:=∀ s∈ind P B n,∃ G U R C,LyF P B n s G U R C/\∀ Q:D->Prop,Q (toD R C G U)->oIx d0 (.int ((s:Nat):Int)) Q
section
variable {P:List Int} {B:Int} {n s t:Nat} {d0:D} {E:EndsD} {o5 o6:SD} {G H R S:List Int} {U V C c:Int}
theorem r32_y (hs:LyF P B n s G U R C) (ht:LyF P B n t H V S c) (d:s∣t) (gs:∀ Q:D->Prop,Q (toD R C G U)->oIx d0 (.int ((s:Nat):Int)) Q) (gt:∀ Q:D->Prop,Q (toD S c H V)->oIx d0 (.int ((t:Nat):Int)) Q) {l:D} (q:∀ o6,E.nx [.val (pD P B),.val l,.val d0,.val (.int ((s:Nat):Int)),.val (.int ((t:Nat):Int)),o5,o6]) :
  pW.run E [.val (pD P B),.val l,.val d0,.val (.int ((s:Nat):Int)),.val (.int ((t:Nat):Int)),o5,o6]:=by
 have s1:=hs.sd.t1
 have t1:=ht.sd.t1
 have et:t / s*s=t:=df d
 have k1:1<=t / s:=dW (bv t1 d) s1
 obtain ⟨cH,oH⟩:=in_other hs ht d
 have lH:H.length=t / s*s+1:=by rw [et];exact ht.c.2.1
 obtain ⟨a,b,Z,sG,ha,hb⟩:=ht.sd.sG
 refine gt _ ?_
 refine ⟨rfl,(H,V,t / s,s,a,b,Z),⟨rfl,sG.z,lH,k1,s1,by rw [et];exact sG.m12,by rw [et];exact sG.lZ,by rw [et];exact sG.sz⟩,?_⟩
 rintro _ ⟨G1,U1,Ps,ap,_,_,h⟩
 obtain ⟨rfl,rfl⟩:=Cn.uniq ht.c.1 lH k1 ap.1 cH
 rcases h with ⟨i,p,rfl,hi,h2,_⟩ | ⟨W,w,rfl,zW,one,lW,eW⟩
 ·obtain ⟨S',c',fS,eS⟩:=oH
  exact absurd (⟨G1,U1,S',c',ap.1.1,ap.1.2.1,ap.1.2.2,fS,eS⟩:Mad H V (t / s) s) (barred_not90 k1 s1 (fm_top ht.c.1 lH) ap hi h2)
 have eH:∀ x,Qp.E H V x=Qp.E W w (Qp.E G1 U1 x):=fun x=>by rw [ap.2.2.2.2 x,eW]
 have lW1:W.length=t / s+1:=out_len s1 ht.c.1 lH hs.c.1 hs.c.2.1 zW.fm eH
 refine gs _ ?_
 refine ⟨pD_pls _ _,pD_pls _ _,pD_dps _ _,fun kk hk=>?_⟩
 rw [hk.mpr rfl]
 obtain ⟨y1,y2⟩:=szB_le (a:=133) (b:=133) (Z:=133) (k:=n / t) (s:=t) (by rw [ht.sd.e];exact ht.sd.sP.sz) ht.sd.a1 t1 (by rw [ht.sd.e];exact ht.sd.sP.m12) (by decide)
 obtain ⟨y3,y4⟩:=szB_le (a:=a) (b:=b) (Z:=Z) (k:=t / s) (s:=s) (by rw [et];exact sG.sz) k1 s1 (by rw [et];exact sG.m12) hb
 have t12:=sG.m12
 have lS:=ht.sd.l
 have n12:=ht.sd.sP.m12
 have ns:n / t<=n:=cJ _ _
 have ts:t / s<=t:=cJ _ _
 obtain ⟨nT,eT⟩:∃ z:Nat,z=2100000:=⟨_,rfl⟩
 obtain ⟨nZ,eZ⟩:∃ z:Nat,z=351001:=⟨_,rfl⟩
 have zS:Pc.Pz nT nZ S c:=ht.zR.mono (by omega) (by omega)
 have zW:Pc.Pz nT nZ W w:=zW.mono (by omega) (by omega)
 have m1:S.length*W.length<=13*13:=aU (by omega) (by omega)
 have m2:nZ*S.length<=nZ*13:=ah _ (by omega)
 have m3:(nT+nZ+10)*(S.length+1)<=(nT+nZ+10)*14:=ah _ (by omega)
 refine gt _ ?_
 refine ⟨rfl,(S,c,W,w,nT,nZ,nT,nZ),⟨rfl,zS,zW,by show nZ+nZ*S.length<=8900000;omega,by show nT+(nT+nZ+10)*(S.length+1)<=90000000;omega,by show S.length*W.length<=190;omega,by show S.length<=190;omega,by show W.length<=190;omega⟩,?_⟩
 rintro _ ⟨M,m,rfl,oM⟩
 have oM:Pc.Of S c W w M m:=oM
 obtain ⟨rfl,rfl⟩:=out_uniq hs.c.1 hs.c.2.1 s1 oM.1 hs.sd.fR fun x=>by rw [E_of zS.fm.pos zW.fm.pos oM,← eH,← ht.sd.eR,← hs.sd.eR]
 refine gs _ ?_
 refine ⟨pD_pls _ _,pD_pls _ _,pD_dps _ _,fun kk hk=>?_⟩
 rw [hk.mpr rfl]
 exact q _
theorem lcm_fdiv (s t:Nat) (s1:1<=s):Int.fdiv (((s:Nat):Int)*((t:Nat):Int)) (Fr.cp ((s:Nat):Int) ((t:Nat):Int))=((Nat.lcm s t:Nat):Int):=by
 show Int.fdiv (((s:Nat):Int)*((t:Nat):Int)) ((Nat.gcd s t:Nat):Int)=_
 rw [cO _ (by omega),← Int.natCast_mul,← Int.natCast_ediv]
 rfl
theorem r32_i (sP:Sz P B n 133 133 133) (hl:Lay32 P B n d0) (is:s∈ind P B n) (it:t∈ind P B n) (q:∀ o5 o6,E.nx [.val (pD P B),.val (nD (ind P B n)),.val d0,.val (.int ((s:Nat):Int)),.val (.int ((t:Nat):Int)),o5,o6]) :
  pX.run E [.val (pD P B),.val (nD (ind P B n)),.val d0,.val (.int ((s:Nat):Int)),.val (.int ((t:Nat):Int)),o5,o6]:=by
 obtain ⟨G,U,R,C,hs,gs⟩:=hl s is
 obtain ⟨H,V,S,c,ht,gt⟩:=hl t it
 have s1:=hs.sd.t1
 have t1:=ht.sd.t1
 obtain ⟨g1,g2⟩:=gcd_in sP.z.fm sP.l sP.m1 sP.m12 is it
 have s12:s<=12:=by obtain ⟨a,b,Z,z,_⟩:=hs.sd.sG;exact z.m12
 have t12:t<=12:=by obtain ⟨a,b,Z,z,_⟩:=ht.sd.sG;exact z.m12
 have ls:Lt2 4 ((s:Nat):Int):=by unfold Lt2;show s<16;omega
 have lt:Lt2 4 ((t:Nat):Int):=by unfold Lt2;show t<16;omega
 have gp:0<Nat.gcd s t:=ft _ s1
 have gl:Nat.gcd s t<=12:=aB (bv s1 (eF s t)) s12
 have lg:Lt2 4 (Fr.cp ((s:Nat):Int) ((t:Nat):Int)):=by unfold Lt2;show Nat.gcd s t<16;omega
 refine ⟨rfl,(((s:Nat):Int),((t:Nat):Int)),rfl,?_⟩
 rintro _ rfl
 refine .inl ⟨_,_,rfl,.inl (nD_ints _),?_⟩
 rw [decide_eq_true (show Fr.cp ((s:Nat):Int) ((t:Nat):Int)∈(ind P B n).map (fun s=>((s:Nat):Int)) from mem_nat.mpr g1)]
 refine ⟨⟨4,4,ls,lt,by decide⟩,⟨by show ((Nat.gcd s t:Nat):Int)≠0;omega,4,lg,by decide⟩,?_⟩
 refine .inl ⟨_,_,rfl,.inl (nD_ints _),?_⟩
 rw [lcm_fdiv s t s1,decide_eq_true (mem_nat.mpr g2)]
 refine ⟨by omega,?_⟩
 refine ifP (p:=((t:Nat):Int).fmod (s:Int)=0) (fun e=>?_) (fun _=>q _ _)
 have d:s∣t:=by
  rw [fmod_nat] at e
  exact fF (by omega)
 exact r32_y hs ht d gs gt fun o6=>q _ _
theorem r32_b {o4:SD} (sP:Sz P B n 133 133 133) (hl:Lay32 P B n d0) (is:s∈ind P B n) (q:∀ o4 o5 o6,E.nx [.val (pD P B),.val (nD (ind P B n)),.val d0,.val (.int ((s:Nat):Int)),o4,o5,o6]) :
  pY.run E [.val (pD P B),.val (nD (ind P B n)),.val d0,.val (.int ((s:Nat):Int)),o4,o5,o6]:=by
 obtain ⟨G,U,R,C,hs,gs⟩:=hl s is
 refine gs _ ?_
 refine gs _ ?_
 refine ⟨rfl,(P,B,n / s,s,133,133,133),⟨rfl,hs.sd.a1,hs.sd.t1,by rw [hs.sd.e];exact sP⟩,?_⟩
 rintro _ ⟨G2,U2,rfl,c2⟩
 obtain ⟨rfl,rfl⟩:=Cn.uniq sP.z.fm (by rw [hs.sd.e];exact sP.l) hs.sd.a1 c2 hs.c
 refine pD_neE ?_
 refine ⟨fun i st=>∃ o4 o5 o6:SD,st=[.val (pD P B),.val (nD (ind P B n)),.val d0,.val (.int ((s:Nat):Int)),o4,o5,o6],⟨_,_,_,rfl⟩,?_,?_⟩
 ·rintro i d _ hd ⟨o4,o5,o6,rfl⟩
  have hd:((ind P B n).map fun s=>D.int ((s:Nat):Int))[i]? = some d:=hd
  rw [aG] at hd
  obtain ⟨t,ht,rfl⟩:=aa.mp hd
  exact r32_i sP hl is (aI ht) fun o5 o6=>⟨_,o5,o6,rfl⟩
 ·rintro _ ⟨o4,o5,o6,rfl⟩
  exact q _ _ _
end
theorem r32_2 {P:List Int} {B:Int} {n:Nat} {d0:D} {Q:D->Prop} (sP:Sz P B n 133 133 133) (hl:Lay32 P B n d0) (q:∀ d,d = .bl true->Q d):iJ.run (endQ Q) [.val (pD P B),.val (nD (ind P B n)),.val d0,.no,.no,.no,.no]:=by
 refine ⟨fun i st=>∃ o3 o4 o5 o6:SD,st=[.val (pD P B),.val (nD (ind P B n)),.val d0,o3,o4,o5,o6],⟨.no,.no,.no,.no,rfl⟩,?_,?_⟩
 ·rintro i d _ hd ⟨o3,o4,o5,o6,rfl⟩
  have hd:((ind P B n).map fun s=>D.int ((s:Nat):Int))[i]? = some d:=hd
  rw [aG] at hd
  obtain ⟨s,hs,rfl⟩:=aa.mp hd
  exact r32_b sP hl (aI hs) fun o4 o5 o6=>⟨_,o4,o5,o6,rfl⟩
 ·rintro _ ⟨o3,o4,o5,o6,rfl⟩
  have ll:=@ind_len P B n
  have n12:=sP.m12
  refine compD_ex32 (Q:=fun d=>bAll [d] Q) (fun _ y=>y = .bl true) (by rw [ab];omega) (fun i d hd=>?_) fun ys ly hy=>?_
  ·rw [aG] at hd
   obtain ⟨s,hs,rfl⟩:=aa.mp hd
   obtain ⟨G,U,R,C,h,g⟩:=hl s (aI hs)
   have s1:=h.sd.t1
   have lR:=h.sd.l
   have lG:=h.c.2.1
   have t12:s<=12:=by obtain ⟨a,b,Z,z,_⟩:=h.sd.sG;exact z.m12
   obtain ⟨y1,y2⟩:=szB_le (a:=133) (b:=133) (Z:=133) (k:=n / s) (s:=s) (by rw [h.sd.e];exact sP.sz) h.sd.a1 s1 (by rw [h.sd.e];exact sP.m12) (by decide)
   obtain ⟨_,⟨_,_,b27,_⟩,_,_,n5,n6⟩:=num57 h.sd.a1 s1 (by rw [h.sd.e];exact sP.m12)
   rw [h.sd.e] at n6
   have ns:n / s<=n:=cJ _ _
   obtain ⟨nT,eT⟩:∃ z:Nat,z=2100000:=⟨_,rfl⟩
   obtain ⟨nZ,eZ⟩:∃ z:Nat,z=351001:=⟨_,rfl⟩
   obtain ⟨nG,eG⟩:∃ z:Nat,z=30000:=⟨_,rfl⟩
   obtain ⟨nB,eB⟩:∃ z:Nat,z=27000:=⟨_,rfl⟩
   have zR:Pc.Pz nT nZ R C:=h.zR.mono (by omega) (by omega)
   have zG:Pc.Pz nG nB G U:=h.zG.mono (by omega) (by omega)
   have m1:R.length*G.length<=190:=by rw [lR,lG];exact n5
   have m2:nB*R.length<=nB*13:=ah _ (by omega)
   have m3:(nG+nB+10)*(R.length+1)<=(nG+nB+10)*14:=ah _ (by omega)
   refine g _ (g _ ?_)
   refine ⟨rfl,(R,C,G,U,nT,nZ,nG,nB),⟨rfl,zR,zG,by show nZ+nB*R.length<=8900000;omega,by show nT+(nG+nB+10)*(R.length+1)<=90000000;omega,m1,by show R.length<=190;omega,by show G.length<=190;omega⟩,?_⟩
   rintro _ ⟨M,m,rfl,oM⟩
   have oM:Pc.Of R C G U M m:=oM
   obtain ⟨rfl,rfl⟩:=E_inj oM.1 sP.z.fm fun x=>by rw [E_of zR.fm.pos zG.fm.pos oM,← h.sd.eR]
   exact pD_eqE (Q:=fun y=>y = .bl true) (fun k hk=>by rw [hk.mpr ⟨rfl,rfl⟩])
  ·have key:∀ ys:List D,(∀ (i:Nat) (y:D),ys[i]? = some y->y = .bl true)->∃ bs:List Bool,ys=bs.map D.bl/\bs.all id=true:=fun ys=>by
    induction ys with
    | nil=>exact fun _=>⟨[],rfl,rfl⟩
    | cons y ys ih =>
     intro hy
     obtain ⟨bs,rfl,hb⟩:=ih fun i y h=>hy (i+1) y h
     cases hy 0 y rfl
     exact ⟨true::bs,rfl,hb⟩
   obtain ⟨bs,e1,e2⟩:=key ys hy
   refine ⟨bs,e1,?_⟩
   rw [e2]
   exact q _ rfl
theorem ki:Does 7 mQ ju:=by
 rintro ds Q hn ⟨⟨P,B,n⟩,⟨rfl,z,lP,n1,n12⟩,q⟩
 dsimp only at z lP n1 n12 q
 have sP:=sz133 z lP n1 n12
 refine ⟨rfl,(P,B,n,133,133,133),⟨rfl,sP⟩,?_⟩
 rintro _ rfl
 have ll:=@ind_len P B n
 refine compD_ex32 (Q:=fun d=>bDict [d] fun d=>iJ.run (endQ Q) [.val (pD P B),.val (nD (ind P B n)),.val d,.no,.no,.no,.no]) (fun i y=>∃ s G U R C,(ind P B n)[i]? = some s/\y = .tup [.int ((s:Nat):Int),toD R C G U]/\LyF P B n s G U R C) (by rw [ab];omega) (fun i d hd=>?_) fun ys ly hy=>?_
 ·rw [aG] at hd
  obtain ⟨s,hs,rfl⟩:=aa.mp hd
  exact ap32 sP (aI hs) fun G U R C h=>⟨sz2,s,G,U,R,C,hs,rfl,h⟩
 ·rw [ab] at ly
  obtain ⟨kvs,rfl,ek,hk⟩:=kv32 ly hy
  refine ⟨kvs,rfl,by rw [ek];exact keys_nodup ind_nodup,?_⟩
  refine r32_2 sP (fun s hs=>?_) q
  obtain ⟨j,G,U,R,C,h1,h2,h3⟩:=hk s hs
  exact ⟨G,U,R,C,h3,fun Q hq=>⟨j,_,h1,h2,hq⟩⟩
noncomputable def pZ:TSd:=(g9 [] (dB bAll bAll.mono (gO (ia (jC (dC (.int 2))) [2] (gNm 2) iG (gS ju (gO (gS jo (gO (gP 1) gQ)) gQ))) gQ)))
theorem run_law32:pZ.run ⟨fun _=>False,fun d=>d = .bl true,fun _=>False,fun _=>False⟩ (.no :: .val .fl::List.replicate 1 .no):=by
 refine ⟨by decide,by decide,(congrArg (· <= sizeLine) (show (upTo 0 (Int.toNat 2)).length=2 from rfl)).mpr (szN (by decide)),tI,tI.nil,fun t d ys hd _ hy=>?_,fun ys _ hy=>?_⟩
 ·refine ⟨rfl,(),rfl,?_⟩
  rintro _ ⟨P,B,n,rfl,z,l,n1,n12⟩
  refine ⟨rfl,(P,B,n),⟨rfl,z,l,n1,n12⟩,?_⟩
  rintro _ rfl
  exact hy.snoc
 ·obtain ⟨bs,h1,h2⟩:=hy.all (Q:=fun d=>d = .bl true) rfl
  exact ⟨bs,h1,h2⟩
end Dp
set_option maxHeartbeats 4000000
namespace My
open PySem L2
def top (i:Nat):Stmt:=PySem.Challenge.pw_nestwright_k32_whole_inner_ones_in_one_a.main.body.getD i (.Pass ⟨0,0,0,0⟩)
abbrev s_common_part:Stmt:=top 1
abbrev s_fraction:Stmt:=top 2
abbrev s_divided:Stmt:=top 3
abbrev s_one_form:Stmt:=top 5
abbrev s_over_one_bottom:Stmt:=top 6
abbrev s_poly:Stmt:=top 7
abbrev s_fraction_at:Stmt:=top 8
abbrev s_degree:Stmt:=top 9
abbrev s_lead:Stmt:=top 10
abbrev s_tops_together:Stmt:=top 11
abbrev s_tops_multiplied:Stmt:=top 12
abbrev s_whole_power:Stmt:=top 14
abbrev s_divisors:Stmt:=top 16
abbrev s_in_steps:Stmt:=top 17
abbrev s_root_tops:Stmt:=top 18
abbrev s_candidate:Stmt:=top 19
abbrev s_whole_steps:Stmt:=top 20
abbrev s_parted:Stmt:=top 21
abbrev s_digits:Stmt:=top 22
abbrev s_apart:Stmt:=top 24
abbrev s_inner_degrees:Stmt:=top 25
abbrev s_inner_one:Stmt:=top 26
abbrev s_put:Stmt:=top 28
abbrev s_law_flow:Stmt:=top 30
abbrev s_law_pick:Stmt:=top 31
abbrev s_law_common:Stmt:=top 32
abbrev s_law_fraction:Stmt:=top 33
abbrev s_law_poly:Stmt:=top 34
abbrev s_law_sum:Stmt:=top 35
abbrev s_law_times:Stmt:=top 36
abbrev s_law_of:Stmt:=top 37
abbrev s_law_straight:Stmt:=top 38
abbrev s_law_number:Stmt:=top 39
abbrev s_law_any_fraction:Stmt:=top 40
abbrev s_law_any_poly:Stmt:=top 41
abbrev s_law_neat_poly:Stmt:=top 42
abbrev s_law_any_straight:Stmt:=top 43
abbrev s_law_turning:Stmt:=top 44
abbrev s_law_together:Stmt:=top 45
abbrev s_law_within:Stmt:=top 48
abbrev s_law_drawn:Stmt:=top 49
abbrev s_law_right:Stmt:=top 50
abbrev s_law:Stmt:=top 51
section
variable {P:Program} {w:World} {K:PySem.W.Frag} {mg:Str->Option Value} {base:Heap}
def Flow (H:Hp) (f:Addr):Prop:=∃ (l:Addr) (ns:List Int) (i c a b:Int),H f=some (.lst [.ref l,.int i,.int c,.int a,.int b])/\H l=some (.lst (ns.map V.int))/\ns.length<=63/\0<=i/\i<=(ns.length:Int)/\0<=c/\0<=a/\a<2147483647
theorem fl_ne {H:Hp} {f l:Addr} {ns:List Int} {x:Addr} {r:List V} (h1:H f=some (.lst (.ref x::r))) (h2:H l=some (.lst (ns.map V.int))):l≠f:=by
 refine ne_of h2 h1 fun z=>?_
 injection z with z
 cases ns with
 | nil=>cases z
 | cons n ns=>rw [bW] at z;injection z with z1;cases z1
theorem fl_set {H:Hp} {f l:Addr} {ns:List Int} {i c a b i' c' a' b':Int} (h1:H f=some (.lst [.ref l,.int i,.int c,.int a,.int b])) (h2:H l=some (.lst (ns.map V.int))) :
  upd H f (.lst [.ref l,.int i',.int c',.int a',.int b']) f=some (.lst [.ref l,.int i',.int c',.int a',.int b'])/\upd H f (.lst [.ref l,.int i',.int c',.int a',.int b']) l=some (.lst (ns.map V.int))/\Sm f H (upd H f (.lst [.ref l,.int i',.int c',.int a',.int b'])):=by
 refine ⟨upd_same,?_,fun b o n e=>?_,fun x r e=>?_⟩
 ·rw [upd_ne (fl_ne h1 h2)]
  exact h2
 ·rw [upd_ne n]
  exact e
 ·rw [h1] at e
  injection e with e
  injection e with e
  injection e with e _
  rw [← e]
  exact ⟨_,upd_same⟩
theorem at_ints {ns:List Int} {i:Int} (h0:0<=i) (h:i<(ns.length:Int)):∃ z,atI (ns.map V.int) i=some (V.int z):=by
 obtain ⟨k,rfl⟩:=dL h0
 exact ⟨ns[k]'(by omega),atI_nat (by rw [aG,aq (by omega)];rfl)⟩
def spFlow (K:PySem.W.Frag):Sp:=fun vs H Q _=>∃ (a:Addr) (ns:List Int),vs=[.ref a]/\SqL K H a (ns.map V.int)/\ns.length<=63/\∀ f H',Same H H'->Flow H' f->H f=none->Q (.ref f) H'
def spPickB:Sp:=fun vs H Q _=>∃ (f:Addr) (m:Int),vs=[.ref f,.int m]/\Flow H f/\0<m/\Lt2 9000 m/\∀ d H',0<=d->d<m->Flow H' f->Sm f H H'->Q (.int d) H'
theorem oK:FnScope ["_law_script"] ["_law_script"] (defScope s_law_flow):=⟨rfl,rfl,rfl,by decide +kernel,rfl,by decide +kernel,by decide +kernel⟩
theorem ok_flow {f:Addr} {fd:FuncData} (F:Fun K "_law_flow" "_law_flow" s_law_flow f fd) (B:Bl mg):FnOk P w K mg base CX0 1 f fd ["_law_script"] (spFlow K):=by
 refine F.ok oK (fun vs H Q E h=>?_) (fun cdv A outer s H vs Q E hr h=>?_)
 ·obtain ⟨a,ns,rfl,_⟩:=h
  rfl
 obtain ⟨a,ns,rfl,hS,h63,q⟩:=h
 have nd:=oK.nd
 refine ⟨_,(pss_one (@ps_ret _ _ _ _ (@pe_lst _ _ _ _ (@pa_cons _ _ _ _ _ (@pe_callTy _ _ _ _ _ _ _ _ _ (listOf K) rfl B.list bt_list (@pa_cons _ _ _ _ _ (pv 0) pa_nil (by rfl)) (by decide) (by decide) (by rfl) (by rfl)) (@pa_cons _ _ _ _ _ pe_int (@pa_cons _ _ _ _ _ pe_int (@pa_cons _ _ _ _ _ pe_int (@pa_cons _ _ _ _ _ pe_int pa_nil (by rfl)) (by rfl)) (by rfl)) (by rfl)) (by rfl))))),?_⟩
 refine ⟨_,rfl,a,_,rfl,.inl hS,fun l hl=>⟨(by show 5<=sizeLine;decide),fun p hp=>?_⟩⟩
 have hpl:l≠p:=ne_of_none upd_same hp
 refine q p _ ((Same.new hl _).trans (Same.new hp _)) ⟨l,ns,0,0,1,0,upd_same,?_,h63,by decide,by omega,by decide,by decide,by decide⟩ ?_
 ·rw [upd_ne hpl]
  exact upd_same
 ·rw [upd_ne (Ne.symm hpl)] at hp
  exact hp
theorem oN:FnScope ["_law_flow_here", "_law_many", "_law_cell", "_law_digit"] ["_law_flow_here", "_law_many"] (defScope s_law_pick):=⟨rfl,rfl,rfl,by decide +kernel,rfl,by decide +kernel,by decide +kernel⟩
theorem ok_pick {f0:Addr} {fd:FuncData} (F:Fun K "_law_pick" "_law_pick" s_law_pick f0 fd) (B:Bl mg):FnOk P w K mg base CX0 1 f0 fd ["_law_flow_here", "_law_many"] spPickB:=by
 refine F.ok oN (fun vs H Q E h=>?_) (fun cdv A outer s H vs Q E hr h=>?_)
 ·obtain ⟨a,ns,rfl,_⟩:=h
  rfl
 obtain ⟨f,m,rfl,hF,hm0,hm1,q⟩:=h
 have nd:=oN.nd
 refine ⟨_,(pss_cut (@ps_if _ _ _ _ _ _ _ _ (PW.pt (pw_and (@pt_cmpR _ _ _ _ _ _ _ _ op_eq (@pe_ix _ _ _ _ _ _ _ (ixL K) (pv 0) pe_int (fun _ _=>rfl)) pe_int (nomark _)) (pw_and1 (@pt_cmpR _ _ _ _ _ _ _ _ op_lt (@pe_ix _ _ _ _ _ _ _ (ixL K) (pv 0) pe_int (fun _ _=>rfl)) (@pe_callB _ _ _ _ _ _ _ _ _ (lenS K) rfl B.len bt_len (@pa_cons _ _ _ _ _ (@pe_ix _ _ _ _ _ _ _ (ixL K) (pv 0) pe_int (fun _ _=>rfl)) pa_nil (by rfl)) (by decide) (by decide) (by rfl) (by rfl)) (nomark _))))) (pss_cons (@ps_set _ _ 2 _ _ _ _ nd rfl (by first | exact Or.inl rfl | exact Or.inr rfl) (@pe_ix _ _ _ _ _ _ _ (ixL K) (@pe_ix _ _ _ _ _ _ _ (ixL K) (pv 0) pe_int (fun _ _=>rfl)) (@pe_ix _ _ _ _ _ _ _ (ixL K) (pv 0) pe_int (fun _ _=>rfl)) (fun _ _=>rfl)) (by rfl) (by first | exact .inl rfl | exact .inr rfl | assumption))
  (pss_cons (@ps_asg _ _ _ _ _ _ (@pe_op _ _ _ _ _ _ _ _ op_add (@pe_ix _ _ _ _ _ _ _ (ixL K) (pv 0) pe_int (fun _ _=>rfl)) pe_int) (@pg_sub _ _ _ _ _ _ _ (pv 0) pe_int set_list (fun _=>rfl)) (by rfl) (by rfl) (by rfl))
  (pss_one (@ps_if _ _ _ _ _ _ _ _ (@pt_cmpR _ _ _ _ _ _ _ _ op_ge (pv 2) (@pe_op _ _ _ _ _ _ _ _ op_pow pe_int pe_int) (nomark _)) (pss_one (@ps_asg _ _ _ _ _ _ (pv 2) (@pg_sub _ _ _ _ _ _ _ (pv 0) pe_int set_list (fun _=>rfl)) (by rfl) (by rfl) (by rfl))) (pss_one (@ps_asg _ _ _ _ _ _ (@pe_op _ _ _ _ _ _ _ _ op_mod (@pe_op _ _ _ _ _ _ _ _ op_add (@pe_op _ _ _ _ _ _ _ _ op_add (@pe_op _ _ _ _ _ _ _ _ op_mul (@pe_ix _ _ _ _ _ _ _ (ixL K) (pv 0) pe_int (fun _ _=>rfl)) pe_int) (@pe_op _ _ _ _ _ _ _ _ op_mod (pv 2) pe_int)) pe_int) pe_int) (@pg_sub _ _ _ _ _ _ _ (pv 0) pe_int set_list (fun _=>rfl)) (by rfl) (by rfl) (by rfl))))))) pss_nil)
  (pss_cut (@ps_if _ _ _ _ _ _ _ _ (@pt_cmpR _ _ _ _ _ _ _ _ op_gt (@pe_ix _ _ _ _ _ _ _ (ixL K) (pv 0) pe_int (fun _ _=>rfl)) pe_int (nomark _)) (pss_cons (@ps_set _ _ 3 _ _ _ _ nd rfl (by first | exact Or.inl rfl | exact Or.inr rfl) (@pe_op _ _ _ _ _ _ _ _ op_mod (@pe_ix _ _ _ _ _ _ _ (ixL K) (pv 0) pe_int (fun _ _=>rfl)) (pv 1)) (by rfl) (by first | exact .inl rfl | exact .inr rfl | assumption))
  (pss_cons (@ps_asg _ _ _ _ _ _ (@pe_op _ _ _ _ _ _ _ _ (@op_fdivB _ _ hr) (@pe_ix _ _ _ _ _ _ _ (ixL K) (pv 0) pe_int (fun _ _=>rfl)) (pv 1)) (@pg_sub _ _ _ _ _ _ _ (pv 0) pe_int set_list (fun _=>rfl)) (by rfl) (by rfl) (by rfl))
  (pss_one (@ps_ret _ _ _ _ (pv 3))))) pss_nil)
  (pss_cons (@ps_asg _ _ _ _ _ _ (@pe_op _ _ _ _ _ _ _ _ op_add (@pe_ix _ _ _ _ _ _ _ (ixL K) (pv 0) pe_int (fun _ _=>rfl)) pe_int) (@pg_sub _ _ _ _ _ _ _ (pv 0) pe_int set_list (fun _=>rfl)) (by rfl) (by rfl) (by rfl))
  (pss_cons (@ps_asg _ _ _ _ _ _ (@pe_op _ _ _ _ _ _ _ _ op_mod (@pe_op _ _ _ _ _ _ _ _ op_add (@pe_op _ _ _ _ _ _ _ _ op_add (@pe_op _ _ _ _ _ _ _ _ op_mul (@pe_ix _ _ _ _ _ _ _ (ixL K) (pv 0) pe_int (fun _ _=>rfl)) pe_int) pe_int) (@pe_ix _ _ _ _ _ _ _ (ixL K) (pv 0) pe_int (fun _ _=>rfl))) pe_int) (@pg_sub _ _ _ _ _ _ _ (pv 0) pe_int set_list (fun _=>rfl)) (by rfl) (by rfl) (by rfl))
  (pss_one (@ps_ret _ _ _ _ (@pe_op _ _ _ _ _ _ _ _ op_mod (@pe_op _ _ _ _ _ _ _ _ op_fdiv (@pe_op _ _ _ _ _ _ _ _ op_mod (@pe_op _ _ _ _ _ _ _ _ op_mul (@pe_op _ _ _ _ _ _ _ _ op_add (@pe_op _ _ _ _ _ _ _ _ op_mod (@pe_ix _ _ _ _ _ _ _ (ixL K) (pv 0) pe_int (fun _ _=>rfl)) pe_int) pe_int) (@pe_op _ _ _ _ _ _ _ _ op_add (@pe_op _ _ _ _ _ _ _ _ op_fdiv (@pe_ix _ _ _ _ _ _ _ (ixL K) (pv 0) pe_int (fun _ _=>rfl)) pe_int) pe_int)) pe_int) pe_int) (pv 1)))))))),?_⟩
 obtain ⟨l,ns,i,c,a,b,h1,h2,h63,i0,i1,c0,a0,a1⟩:=hF
 have hf:=SqL.of (K:=K) h1
 refine ⟨fun σ' H'=>(∃ o1 o2,σ'=[some (.ref f),some (.int m),o1,o2])/\Flow H' f/\Sm f H H',?_,?_⟩
 ·refine ⟨_,rfl,f,_,2,_,rfl,rfl,hf,rfl,rfl,_,rfl,?_⟩
  refine ite2 (fun cz=>?_) (fun cz=>?_)
  ·refine ⟨_,rfl,f,_,1,_,rfl,rfl,hf,rfl,_,rfl,f,_,0,_,rfl,rfl,hf,rfl,l,_,rfl,.inl (SqL.of h2),_,_,rfl,rfl,_,rfl,?_⟩
   refine ite2 (fun cl=>?_) (fun cl=>?_)
   ·have cl':i<(((ns.map V.int).length:Nat):Int):=of_decide_eq_true cl
    rw [ab] at cl'
    obtain ⟨z,hz⟩:=at_ints i0 cl'
    obtain ⟨g1,g2,g3⟩:=fl_set (i':=i+1) (c':=c) (a':=a) (b':=b) h1 h2
    have gf:=SqL.of (K:=K) g1
    refine ⟨_,rfl,f,_,0,_,rfl,rfl,hf,rfl,_,rfl,f,_,1,_,rfl,rfl,hf,rfl,l,_,i,_,rfl,rfl,SqL.of h2,hz,?_⟩
    refine ⟨_,rfl,f,_,1,_,rfl,rfl,hf,rfl,_,_,rfl,rfl,_,rfl,f,_,1,1,rfl,rfl,h1,rfl,?_⟩
    refine ⟨_,rfl,_,_,rfl,rfl,⟨by decide,by decide,by decide⟩,_,_,rfl,rfl,_,rfl,?_⟩
    refine ite2 (fun cg=>?_) (fun cg=>?_)
    ·have cg':(10:Int)^(18:Int).toNat<=z:=of_decide_eq_true cg
     have cg2:(0:Int)<=z:=Int.le_trans (by decide) cg'
     obtain ⟨k1,k2,k3⟩:=fl_set (i':=i+1) (c':=z) (a':=a) (b':=b) g1 g2
     refine ⟨_,rfl,_,rfl,f,_,2,2,rfl,rfl,g1,rfl,?_⟩
     exact ⟨⟨_,_,rfl⟩,⟨l,ns,i+1,z,a,b,k1,k2,h63,by omega,by omega,cg2,a0,a1⟩,g3.trans k3⟩
    ·obtain ⟨k1,k2,k3⟩:=fl_set (i':=i+1) (c':=c) (a':=(a*40013+z%1000003+1)%2147483647) (b':=b) g1 g2
     refine ⟨_,rfl,f,_,3,_,rfl,rfl,gf,rfl,_,_,rfl,rfl,.inr ⟨by decide,by decide⟩,_,rfl,_,_,rfl,rfl,(by show (0:Int)<_;decide),_,_,rfl,rfl,_,_,rfl,rfl,_,_,rfl,rfl,(by show (0:Int)<_;decide),_,rfl,f,_,3,3,rfl,rfl,g1,rfl,?_⟩
     exact ⟨⟨_,_,rfl⟩,⟨l,ns,i+1,c,_,b,k1,k2,h63,by omega,by omega,c0,dU _ (by decide),dg _ (by decide)⟩,g3.trans k3⟩
   ·exact ⟨⟨_,_,rfl⟩,⟨l,ns,i,c,a,b,h1,h2,h63,i0,i1,c0,a0,a1⟩,Sm.refl H⟩
  ·exact iteF ⟨⟨_,_,rfl⟩,⟨l,ns,i,c,a,b,h1,h2,h63,i0,i1,c0,a0,a1⟩,Sm.refl H⟩
 ·rintro _ H1 ⟨⟨o1,o2,rfl⟩,hF1,sm1⟩
  clear hf h1 h2 i0 i1 c0 a0 a1 h63
  obtain ⟨l,ns,i,c,a,b,h1,h2,h63,i0,i1,c0,a0,a1⟩:=hF1
  have hf:=SqL.of (K:=K) h1
  refine ⟨fun σ' H'=>σ'=[some (.ref f),some (.int m),o1,o2]/\H'=H1,?_,?_⟩
  ·refine ⟨_,rfl,f,_,2,_,rfl,rfl,hf,rfl,_,_,rfl,rfl,_,rfl,?_⟩
   refine ite2 (fun cz=>?_) (fun cz=>?_)
   ·obtain ⟨k1,k2,k3⟩:=fl_set (i':=i) (c':=c.fdiv m) (a':=a) (b':=b) h1 h2
    refine ⟨_,rfl,f,_,2,_,rfl,rfl,hf,rfl,_,rfl,_,_,rfl,rfl,hm0,?_⟩
    have fe:c.fdiv m=c / m:=cO _ (by omega:(0:Int)<=m)
    refine ⟨_,rfl,f,_,2,_,rfl,rfl,hf,rfl,_,rfl,_,_,rfl,rfl,⟨by omega,9000,hm1,by decide⟩,_,rfl,f,_,2,2,rfl,rfl,h1,rfl,?_⟩
    refine ⟨_,rfl,q _ _ (dU _ (by omega)) (dg _ hm0) ⟨l,ns,i,c.fdiv m,a,b,k1,k2,h63,i0,i1,by rw [fe];exact Int.ediv_nonneg c0 (by omega),a0,a1⟩ (sm1.trans k3)⟩
   ·exact ⟨rfl,rfl⟩
  ·rintro _ _ ⟨rfl,rfl⟩
   obtain ⟨g1,g2,g3⟩:=fl_set (i':=i) (c':=c) (a':=a) (b':=b+1) h1 h2
   have gf:=SqL.of (K:=K) g1
   refine ⟨_,rfl,f,_,4,_,rfl,rfl,hf,rfl,_,_,rfl,rfl,_,rfl,f,_,4,4,rfl,rfl,h1,rfl,?_⟩
   obtain ⟨k1,k2,k3⟩:=fl_set (i':=i) (c':=c) (a':=(a*48271+12820163+(b+1))%2147483647) (b':=b+1) g1 g2
   have kf:=SqL.of (K:=K) k1
   refine ⟨_,rfl,f,_,3,_,rfl,rfl,gf,rfl,_,_,rfl,rfl,.inr ⟨by decide,by decide⟩,_,_,rfl,rfl,_,rfl,f,_,4,_,rfl,rfl,gf,rfl,_,_,rfl,rfl,_,_,rfl,rfl,(by show (0:Int)<_;decide),_,rfl,f,_,3,3,rfl,rfl,g1,rfl,?_⟩
   have n0:=dU (a*48271+12820163+(b+1)) (show (2147483647:Int)≠0 by decide)
   have n1:=dg (a*48271+12820163+(b+1)) (show (0:Int)<2147483647 by decide)
   refine ⟨_,rfl,f,_,3,_,rfl,rfl,kf,rfl,_,_,rfl,rfl,(by show (0:Int)<_;decide),_,_,rfl,rfl,_,rfl,f,_,3,_,rfl,rfl,kf,rfl,_,_,rfl,rfl,⟨by decide,by decide⟩,_,_,rfl,rfl,_,_,rfl,rfl,.inl ⟨by omega,by omega⟩,_,_,rfl,rfl,(by show (0:Int)<_;decide),_,_,rfl,rfl,⟨by decide,by decide⟩,_,rfl,_,_,rfl,rfl,hm0,?_⟩
   exact q _ _ (dU _ (by omega)) (dg _ hm0) ⟨l,ns,i,c,_,b+1,k1,k2,h63,i0,i1,c0,n0,n1⟩ ((sm1.trans g3).trans k3)
theorem mf:FnScope ["one", "other"] ["one", "other"] (defScope s_common_part):=Ds.sc (by kernel_rfl) rfl rfl rfl
theorem oh:FnScope ["top", "bottom", "part"] ["top", "bottom"] (defScope s_fraction):=Ds.sc (by kernel_rfl) rfl rfl rfl
theorem oF:FnScope ["one", "other"] ["one", "other"] (defScope s_divided):=Ds.sc (by kernel_rfl) rfl rfl rfl
theorem oi:FnScope ["tops", "bottom", "many", "part", "top"] ["tops", "bottom"] (defScope s_one_form):=Ds.sc (by kernel_rfl) rfl rfl rfl
theorem jK:FnScope ["some", "bottom", "r"] ["some"] (defScope s_over_one_bottom):=Ds.sc (by kernel_rfl) rfl rfl rfl
theorem p6:FnScope ["some", "tops", "bottom"] ["some"] (defScope s_poly):=Ds.sc (by kernel_rfl) rfl rfl rfl
theorem mh:FnScope ["p", "k", "tops", "bottom"] ["p", "k"] (defScope s_fraction_at):=Ds.sc (by kernel_rfl) rfl rfl rfl
theorem oY:FnScope ["p"] ["p"] (defScope s_degree):=Ds.sc (by kernel_rfl) rfl rfl rfl
theorem p7:FnScope ["p"] ["p"] (defScope s_lead):=Ds.sc (by kernel_rfl) rfl rfl rfl
theorem kj:FnScope ["tops", "others", "longer", "shorter", "made", "k", "top"] ["tops", "others"] (defScope s_tops_together):=Ds.sc (by kernel_rfl) rfl rfl rfl
theorem jL:FnScope ["tops", "others", "made", "i", "top", "k", "other"] ["tops", "others"] (defScope s_tops_multiplied):=Ds.sc (by kernel_rfl) rfl rfl rfl
theorem mj:FnScope ["n", "k", "made", "step"] ["n", "k"] (defScope s_whole_power):=Ds.sc (by kernel_rfl) rfl rfl rfl
theorem oj:FnScope ["n", "s"] ["n"] (defScope s_divisors):=Ds.sc (by kernel_rfl) rfl rfl rfl
theorem om:FnScope ["tops", "c", "n", "i", "top"] ["tops", "c"] (defScope s_in_steps):=Ds.sc (by kernel_rfl) rfl rfl rfl
theorem ny:FnScope ["falling", "k", "s", "made", "j", "parts", "i"] ["falling", "k", "s"] (defScope s_root_tops):=Ds.sc (by kernel_rfl) rfl rfl rfl
theorem nA:FnScope ["f", "s", "n", "k", "c", "falling", "made", "rising", "m"] ["f", "s"] (defScope s_candidate):=Ds.sc (by kernel_rfl) rfl rfl rfl
theorem mk:FnScope ["tops", "n", "most", "c", "j"] ["tops"] (defScope s_whole_steps):=Ds.sc (by kernel_rfl) rfl rfl rfl
theorem oZ:FnScope ["tops", "by", "left", "s", "many", "most", "i"] ["tops", "by"] (defScope s_parted):=Ds.sc (by kernel_rfl) rfl rfl rfl
theorem pb:FnScope ["f", "h", "n", "s", "c", "by", "left", "i", "top", "over", "under", "told", "digit", "tops", "m"] ["f", "h"] (defScope s_digits):=Ds.sc (by kernel_rfl) rfl rfl rfl
theorem pK:FnScope ["f", "s", "h", "parts", "i", "part"] ["f", "s"] (defScope s_apart):=Ds.sc (by kernel_rfl) rfl rfl rfl
theorem ko:FnScope ["f", "s"] ["f"] (defScope s_inner_degrees):=Ds.sc (by kernel_rfl) rfl rfl rfl
theorem nE:FnScope ["f", "s"] ["f", "s"] (defScope s_inner_one):=Ds.sc (by kernel_rfl) rfl rfl rfl
theorem p9:FnScope ["f", "g", "tops", "bottom", "inner", "under", "made", "scale", "top"] ["f", "g"] (defScope s_put):=Ds.sc (by kernel_rfl) rfl rfl rfl
theorem mR:FnScope ["_law_a", "_law_b"] ["_law_a", "_law_b"] (defScope s_law_common):=Ds.sc (by kernel_rfl) rfl rfl rfl
theorem kY:FnScope ["_law_top", "_law_bottom", "_law_part"] ["_law_top", "_law_bottom"] (defScope s_law_fraction):=Ds.sc (by kernel_rfl) rfl rfl rfl
theorem on:FnScope ["_law_tops", "_law_bottom", "_law_part", "_law_top"] ["_law_tops", "_law_bottom"] (defScope s_law_poly):=Ds.sc (by kernel_rfl) rfl rfl rfl
theorem oG:FnScope ["_law_p", "_law_q", "_law_many", "_law_found", "_law_k", "_law_top"] ["_law_p", "_law_q"] (defScope s_law_sum):=Ds.sc (by kernel_rfl) rfl rfl rfl
theorem nF:FnScope ["_law_p", "_law_q", "_law_found", "_law_k", "_law_top", "_law_j", "_law_other"] ["_law_p", "_law_q"] (defScope s_law_times):=Ds.sc (by kernel_rfl) rfl rfl rfl
theorem pe:FnScope ["_law_p", "_law_q", "_law_found", "_law_top"] ["_law_p", "_law_q"] (defScope s_law_of):=Ds.sc (by kernel_rfl) rfl rfl rfl
theorem kZ:FnScope ["_law_a", "_law_b"] ["_law_a", "_law_b"] (defScope s_law_straight):=Ds.sc (by kernel_rfl) rfl rfl rfl
theorem mS:FnScope ["_law_flow_here", "_law_most"] ["_law_flow_here", "_law_most"] (defScope s_law_number):=Ds.sc (by kernel_rfl) rfl rfl rfl
theorem jy:FnScope ["_law_flow_here", "_law_most"] ["_law_flow_here", "_law_most"] (defScope s_law_any_fraction):=Ds.sc (by kernel_rfl) rfl rfl rfl
theorem lh:FnScope ["_law_flow_here", "_law_many", "_law_most", "_law_tops", "_law_k", "_law_first"] ["_law_flow_here", "_law_many", "_law_most"] (defScope s_law_any_poly):=Ds.sc (by kernel_rfl) rfl rfl rfl
theorem kq:FnScope ["_law_flow_here", "_law_many", "_law_most", "_law_bottom", "_law_tops", "_law_k"] ["_law_flow_here", "_law_many", "_law_most"] (defScope s_law_neat_poly):=Ds.sc (by kernel_rfl) rfl rfl rfl
theorem jz:FnScope ["_law_flow_here", "_law_most", "_law_first"] ["_law_flow_here", "_law_most"] (defScope s_law_any_straight):=Ds.sc (by kernel_rfl) rfl rfl rfl
theorem ml:FnScope ["_law_n", "_law_a", "_law_found", "_law_k", "_law_less"] ["_law_n", "_law_a"] (defScope s_law_turning):=Ds.sc (by kernel_rfl) rfl rfl rfl
theorem lE:FnScope ["_law_chain", "_law_found", "_law_layer"] ["_law_chain"] (defScope s_law_together):=Ds.sc (by kernel_rfl) rfl rfl rfl
theorem mT:FnScope ["_law_p", "_law_top"] ["_law_p"] (defScope s_law_within):=Ds.sc (by kernel_rfl) rfl rfl rfl
theorem nH:FnScope ["_law_flow_here", "_law_form", "_law_most", "_law_found", "_law_many", "_law_great", "_law_k", "_law_some", "_law_m", "_law_degrees", "_law_n"] ["_law_flow_here"] (defScope s_law_drawn):=Ds.sc (by kernel_rfl) rfl rfl rfl
theorem nJ:FnScope ["_law_f", "_law_some", "_law_layers", "_law_s", "_law_t", "_law_part", "_law_told"] ["_law_f"] (defScope s_law_right):=Ds.sc (by kernel_rfl) rfl rfl rfl
theorem qd:FnScope ["_law_script", "_law_flow_here", "_law_k"] ["_law_script"] (defScope s_law):=Ds.sc (by kernel_rfl) rfl rfl rfl
end
theorem all_mk {l:PySem.W.OpenLaw} {w:World} {K:PySem.W.Frag} {h:Heap} {mg:Str->Option Value} {fa:Addr} {f1 f2 f3 f4 f5 f6 f7 f8 f9 f10 f11 f12 f13 f14 f15 f16 f17 f18 f19 f20 f21 f22 f23 f24 f25 f26 f27 f28 f29 f30 f31 f32 f33 f34 f35 f36 f37 f38 f39 f40 f41 f42 f43:Addr} (X:K.In h) (G:h.Ns mainGlobals mg) (hfa:mg "law" = some (.ref fa))
  (h1:Ds.Sl K f1 "common_part" s_common_part)
  (h2:Ds.Sl K f2 "fraction" s_fraction)
  (h3:Ds.Sl K f3 "divided" s_divided)
  (h4:Ds.Sl K f4 "one_form" s_one_form)
  (h5:Ds.Sl K f5 "over_one_bottom" s_over_one_bottom)
  (h6:Ds.Sl K f6 "poly" s_poly)
  (h7:Ds.Sl K f7 "fraction_at" s_fraction_at)
  (h8:Ds.Sl K f8 "degree" s_degree)
  (h9:Ds.Sl K f9 "lead" s_lead)
  (h10:Ds.Sl K f10 "tops_together" s_tops_together)
  (h11:Ds.Sl K f11 "tops_multiplied" s_tops_multiplied)
  (h12:Ds.Sl K f12 "whole_power" s_whole_power)
  (h13:Ds.Sl K f13 "divisors" s_divisors)
  (h14:Ds.Sl K f14 "in_steps" s_in_steps)
  (h15:Ds.Sl K f15 "root_tops" s_root_tops)
  (h16:Ds.Sl K f16 "candidate" s_candidate)
  (h17:Ds.Sl K f17 "whole_steps" s_whole_steps)
  (h18:Ds.Sl K f18 "parted" s_parted)
  (h19:Ds.Sl K f19 "digits" s_digits)
  (h20:Ds.Sl K f20 "apart" s_apart)
  (h21:Ds.Sl K f21 "inner_degrees" s_inner_degrees)
  (h22:Ds.Sl K f22 "inner_one" s_inner_one)
  (h23:Ds.Sl K f23 "put" s_put)
  (h24:Ds.Sl K f24 "_law_flow" s_law_flow)
  (h25:Ds.Sl K f25 "_law_pick" s_law_pick)
  (h26:Ds.Sl K f26 "_law_common" s_law_common)
  (h27:Ds.Sl K f27 "_law_fraction" s_law_fraction)
  (h28:Ds.Sl K f28 "_law_poly" s_law_poly)
  (h29:Ds.Sl K f29 "_law_sum" s_law_sum)
  (h30:Ds.Sl K f30 "_law_times" s_law_times)
  (h31:Ds.Sl K f31 "_law_of" s_law_of)
  (h32:Ds.Sl K f32 "_law_straight" s_law_straight)
  (h33:Ds.Sl K f33 "_law_number" s_law_number)
  (h34:Ds.Sl K f34 "_law_any_fraction" s_law_any_fraction)
  (h35:Ds.Sl K f35 "_law_any_poly" s_law_any_poly)
  (h36:Ds.Sl K f36 "_law_neat_poly" s_law_neat_poly)
  (h37:Ds.Sl K f37 "_law_any_straight" s_law_any_straight)
  (h38:Ds.Sl K f38 "_law_turning" s_law_turning)
  (h39:Ds.Sl K f39 "_law_together" s_law_together)
  (h40:Ds.Sl K f40 "_law_within" s_law_within)
  (h41:Ds.Sl K f41 "_law_drawn" s_law_drawn)
  (h42:Ds.Sl K f42 "_law_right" s_law_right)
  (h43:Ds.Sl K f43 "law" s_law)
  (z_len:PySem.W.nsIn K mainGlobals "len" = some none)
  (z_range:PySem.W.nsIn K mainGlobals "range" = some none)
  (z_all:PySem.W.nsIn K mainGlobals "all" = some none)
  (z_any:PySem.W.nsIn K mainGlobals "any" = some none)
  (z_abs:PySem.W.nsIn K mainGlobals "abs" = some none)
  (z_int:PySem.W.nsIn K mainGlobals "int" = some none)
  (z_bool:PySem.W.nsIn K mainGlobals "bool" = some none)
  (z_str:PySem.W.nsIn K mainGlobals "str" = some none)
  (z_list:PySem.W.nsIn K mainGlobals "list" = some none)
  (z_tuple:PySem.W.nsIn K mainGlobals "tuple" = some none)
  (z_dict:PySem.W.nsIn K mainGlobals "dict" = some none)
  (z_isinstance:PySem.W.nsIn K mainGlobals "isinstance" = some none)
  (z_enumerate:PySem.W.nsIn K mainGlobals "enumerate" = some none)
  (z_reversed:PySem.W.nsIn K mainGlobals "reversed" = some none)
  (z_sorted:PySem.W.nsIn K mainGlobals "sorted" = some none)
  (z_max:PySem.W.nsIn K mainGlobals "max" = some none)
  (z_min:PySem.W.nsIn K mainGlobals "min" = some none)
  (z_sum:PySem.W.nsIn K mainGlobals "sum" = some none)
  (z_zip:PySem.W.nsIn K mainGlobals "zip" = some none)
  : ∃ fd:FuncData,(∀ (s:Shared) (v:Value),BindsTo s fd ⟨[v],[]⟩ [("_law_script",v)])/\∀ base:Heap,K.In base->base.Ns mainGlobals mg->FnOk l.prog w K mg base CX0 9 fa fd ["_law_script"] (Dp.spLaw K):=by
 have B:Bl mg:=⟨PySem.W.mg_none_of X G z_len,PySem.W.mg_none_of X G z_range,PySem.W.mg_none_of X G z_all,PySem.W.mg_none_of X G z_any,PySem.W.mg_none_of X G z_abs,PySem.W.mg_none_of X G z_int,PySem.W.mg_none_of X G z_bool,PySem.W.mg_none_of X G z_str,PySem.W.mg_none_of X G z_list,PySem.W.mg_none_of X G z_tuple,PySem.W.mg_none_of X G z_dict,PySem.W.mg_none_of X G z_isinstance,PySem.W.mg_none_of X G z_enumerate,PySem.W.mg_none_of X G z_reversed,PySem.W.mg_none_of X G z_sorted,PySem.W.mg_none_of X G z_max,PySem.W.mg_none_of X G z_min,PySem.W.mg_none_of X G z_sum,PySem.W.mg_none_of X G z_zip⟩
 have W:Ds.Mg K mg:=fun _ _ a=>PySem.W.mg_of X G a
 obtain ⟨a,fd,F⟩:=h43
 cases hfa.symm.trans (W _ _ a)
 refine ⟨fd,?_,fun base _ _=>?_⟩
 ·obtain ⟨oc,od,kV,doc,pm,an,cdv,ct,osl,rfl,lk,hcd⟩:=F.ex
  exact fun s v=>.of_eq rfl
 have gf:Def l.prog w K mg base "_law_flow" 1 ["_law_script"] (spFlow K):=by
  obtain ⟨a,fd,F⟩:=h24
  exact .of F (W _ _ a) (F.binds (Ds.b1 fun _ _ _ _ _ _ _=>rfl)) (ok_flow F B)
 have gp:Def l.prog w K mg base "_law_pick" 1 ["_law_flow_here", "_law_many"] (Dp.LSp K Dp.gR.n Dp.gR.run):=by
  obtain ⟨a,fd,F⟩:=h25
  exact Dp.pick_deep (.of F (W _ _ a) (F.binds (Ds.b2 fun _ _ _ _ _ _ _ _=>rfl)) (ok_pick F B))
 have G0:=Ds.gs1 gp Ds.gs0
 have G1:=Ds.gs1 (Ds.mkd 0 Ds.o0 h1 W B mf rfl G0 Ds.gc0 (Ds.b2 fun _ _ _ _ _ _ _ _=>rfl) (by kernel_rfl) Dp.j6) G0
 have G8:=Ds.gs1 (Ds.mkd 0 Ds.o0 h8 W B oY rfl G1 Ds.gc0 (Ds.b1 fun _ _ _ _ _ _ _=>rfl) (by kernel_rfl) Dp.nR) G1
 have G10:=Ds.gs1 (Ds.mkd 0 ([(47,[4])],[44],[4]) h10 W B kj rfl G8 Ds.gc0 (Ds.b2 fun _ _ _ _ _ _ _ _=>rfl) (by kernel_rfl) Dp.jI) G8
 have G11:=Ds.gs1 (Ds.mkd 0 ([(55,[2])],[51],[2]) h11 W B jL rfl G10 Ds.gc0 (Ds.b2 fun _ _ _ _ _ _ _ _=>rfl) (by kernel_rfl) Dp.jq) G10
 have G12:=Ds.gs1 (Ds.mkd 0 Ds.o0 h12 W B mj rfl G11 Ds.gc0 (Ds.b2 fun _ _ _ _ _ _ _ _=>rfl) (by kernel_rfl) Dp.j8) G11
 have G13:=Ds.gs1 (Ds.mkd 0 Ds.o0 h13 W B oj rfl G12 Ds.gc0 (Ds.b1 fun _ _ _ _ _ _ _=>rfl) (by kernel_rfl) Dp.mM) G12
 have G15:=Ds.gs1 (Ds.mkd 0 ([(73,[3])],[69],[3]) h15 W B ny rfl G13 Ds.gc0 (Ds.b3 fun _ _ _ _ _ _ _ _ _=>rfl) (by kernel_rfl) Dp.ma) G13
 have G18:=Ds.gs1 (Ds.mkd 0 ([(96,[2,4])],[89,90],[2,4]) h18 W B oZ rfl G15 Ds.gc0 (Ds.b2 fun _ _ _ _ _ _ _ _=>rfl) (by kernel_rfl) Dp.mN) G15
 have G26:=Ds.gs1 (Ds.mkd 0 Ds.o0 h26 W B mR rfl G18 Ds.gc0 (Ds.b2 fun _ _ _ _ _ _ _ _=>rfl) (by kernel_rfl) Dp.kD) G18
 have G40:=Ds.gs1 (Ds.mkd 0 Ds.o0 h40 W B mT rfl G26 Ds.gc0 (Ds.b1 fun _ _ _ _ _ _ _=>rfl) (by kernel_rfl) Dp.kI) G26
 have G2:=Ds.gs1 (Ds.mkd 1 Ds.o0 h2 W B oh rfl G40 Ds.gc0 (Ds.b2 fun _ _ _ _ _ _ _ _=>rfl) (by kernel_rfl) Dp.mK) G40
 have G4:=Ds.gs1 (Ds.mkd 1 Ds.o0 h4 W B oi rfl G2 Ds.gc0 (Ds.b2 fun _ _ _ _ _ _ _ _=>rfl) (by kernel_rfl) Dp.my) G2
 have G5:=Ds.gs1 (Ds.mkd 1 Ds.o0 h5 W B jK rfl G4 Ds.gc0 (Ds.b1 fun _ _ _ _ _ _ _=>rfl) (by kernel_rfl) Dp.i8) G4
 have G14:=Ds.gs1 (Ds.mkd 1 Ds.o0 h14 W B om rfl G5 Ds.gc0 (Ds.b2 fun _ _ _ _ _ _ _ _=>rfl) (by kernel_rfl) Dp.mB) G5
 have G17:=Ds.gs1 (Ds.mkd 1 Ds.o0 h17 W B mk rfl G14 Ds.gc0 (Ds.b1 fun _ _ _ _ _ _ _=>rfl) (by kernel_rfl) Dp.jJ) G14
 have G27:=Ds.gs1 (Ds.mkd 1 Ds.o0 h27 W B kY rfl G17 Ds.gc0 (Ds.b2 fun _ _ _ _ _ _ _ _=>rfl) (by kernel_rfl) Dp.jN) G17
 have G28:=Ds.gs1 (Ds.mkd 1 ([(160,[0]),(164,[0]),(166,[0])],[160],[0]) h28 W B on rfl G27 Ds.gc0 (Ds.b2 fun _ _ _ _ _ _ _ _=>rfl) (by kernel_rfl) Dp.mr) G27
 have G33:=Ds.gs1 (Ds.mkd 1 Ds.o0 h33 W B mS rfl G28 Ds.gc0 (Ds.b2 fun _ _ _ _ _ _ _ _=>rfl) (by kernel_rfl) Dp.kE) G28
 have G3:=Ds.gs1 (Ds.mkd 2 Ds.o0 h3 W B oF rfl G33 Ds.gc0 (Ds.b2 fun _ _ _ _ _ _ _ _=>rfl) (by kernel_rfl) Dp.ni) G33
 have G6:=Ds.gs1 (Ds.mkd 2 Ds.o0 h6 W B p6 rfl G3 Ds.gc0 (Ds.b1 fun _ _ _ _ _ _ _=>rfl) (by kernel_rfl) Dp.nX) G3
 have G7:=Ds.gs1 (Ds.mkd 2 Ds.o0 h7 W B mh rfl G6 Ds.gc0 (Ds.b2 fun _ _ _ _ _ _ _ _=>rfl) (by kernel_rfl) Dp.kc) G6
 have G16:=Ds.gs1 (Ds.mkd 2 Ds.o0 h16 W B nA rfl G7 Ds.gc0 (Ds.b2 fun _ _ _ _ _ _ _ _=>rfl) (by kernel_rfl) Dp.kg) G7
 have G23:=Ds.gs1 (Ds.mkd 2 Ds.o0 h23 W B p9 rfl G16 Ds.gc0 (Ds.b2 fun _ _ _ _ _ _ _ _=>rfl) (by kernel_rfl) Dp.pG) G16
 have G29:=Ds.gs1 (Ds.mkd 2 ([(174,[3])],[169],[3]) h29 W B oG rfl G23 Ds.gc0 (Ds.b2 fun _ _ _ _ _ _ _ _=>rfl) (by kernel_rfl) Dp.m6) G23
 have G30:=Ds.gs1 (Ds.mkd 2 ([(180,[2])],[176],[2]) h30 W B nF rfl G29 Ds.gc0 (Ds.b2 fun _ _ _ _ _ _ _ _=>rfl) (by kernel_rfl) Dp.lQ) G29
 have G32:=Ds.gs1 (Ds.mkd 2 Ds.o0 h32 W B kZ rfl G30 Ds.gc0 (Ds.b2 fun _ _ _ _ _ _ _ _=>rfl) (by kernel_rfl) Dp.jQ) G30
 have G34:=Ds.gs1 (Ds.mkd 2 Ds.o0 h34 W B jy rfl G32 Ds.gc0 (Ds.b2 fun _ _ _ _ _ _ _ _=>rfl) (by kernel_rfl) Dp.jg) G32
 have G35:=Ds.gs1 (Ds.mkd 2 Ds.o0 h35 W B lh rfl G34 Ds.gc0 (Ds.b3 fun _ _ _ _ _ _ _ _ _=>rfl) (by kernel_rfl) Dp.jP) G34
 have G36:=Ds.gs1 (Ds.mkd 2 Ds.o0 h36 W B kq rfl G35 Ds.gc0 (Ds.b3 fun _ _ _ _ _ _ _ _ _=>rfl) (by kernel_rfl) Dp.jF) G35
 have G9:=Ds.gs1 (Ds.mkd 3 Ds.o0 h9 W B p7 rfl G36 Ds.gc0 (Ds.b1 fun _ _ _ _ _ _ _=>rfl) (by kernel_rfl) Dp.oW) G36
 have G22:=Ds.gs1 (Ds.mkd 3 Ds.o0 h22 W B nE rfl G9 Ds.gc0 (Ds.b2 fun _ _ _ _ _ _ _ _=>rfl) (by kernel_rfl) Dp.kh) G9
 have G31:=Ds.gs1 (Ds.mkd 3 Ds.o0 h31 W B pe rfl G22 Ds.gc0 (Ds.b2 fun _ _ _ _ _ _ _ _=>rfl) (by kernel_rfl) Dp.nQ) G22
 have G37:=Ds.gs1 (Ds.mkd 3 Ds.o0 h37 W B jz rfl G31 Ds.gc0 (Ds.b2 fun _ _ _ _ _ _ _ _=>rfl) (by kernel_rfl) Dp.jh) G31
 have G38:=Ds.gs1 (Ds.mkd 3 ([],[204],[2]) h38 W B ml rfl G37 Ds.gc0 (Ds.b2 fun _ _ _ _ _ _ _ _=>rfl) (by kernel_rfl) Dp.j9) G37
 have G19:=Ds.gs1 (Ds.mkd 4 ([(110,[11])],[105],[11]) h19 W B pb rfl G38 Ds.gc0 (Ds.b2 fun _ _ _ _ _ _ _ _=>rfl) (by kernel_rfl) Dp.mO) G38
 have G39:=Ds.gs1 (Ds.mkd 4 Ds.o0 h39 W B lE rfl G19 Ds.gc0 (Ds.b1 fun _ _ _ _ _ _ _=>rfl) (by kernel_rfl) Dp.jG) G19
 have G20:=Ds.gs1 (Ds.mkd 5 Ds.o0 h20 W B pK rfl G39 Ds.gc0 (Ds.b2 fun _ _ _ _ _ _ _ _=>rfl) (by kernel_rfl) Dp.nw) G39
 have G41:=Ds.gs1 (Ds.mkd 5 Ds.o0 h41 W B nH rfl G20 Ds.gc0 (Ds.b1 fun _ _ _ _ _ _ _=>rfl) (by kernel_rfl) Dp.kb) G20
 have G21:=Ds.gs1 (Ds.mkd 6 Ds.o0 h21 W B ko rfl G41 Ds.gc0 (Ds.b1 fun _ _ _ _ _ _ _=>rfl) (by kernel_rfl) Dp.jt) G41
 have G42:=Ds.gs1 (Ds.mkd 7 Ds.o0 h42 W B nJ rfl G21 Ds.gc0 (Ds.b1 fun _ _ _ _ _ _ _=>rfl) (by kernel_rfl) Dp.ki) G21
 exact Ds.ok_law (n:=40) (k:=8) (gc:=[]) (fz:=[]) (own:=[]) (mu:=[]) F B qd gf G42 Ds.gc0 rfl (by decide) (by first | exact Or.inl rfl | exact Or.inr rfl) (by first | exact Or.inl rfl | exact Or.inr rfl) rfl (by kernel_rfl) Dp.run_law32
theorem walk {l:PySem.W.OpenLaw} {q:Program} {loose:List Str} {XP:(Str->Option Value)->Heap->Prop} {YP:World->Heap->Prop} {d:DefRec} {K:Params->PySem.W.Frag} (hn:l.most=some 63) (hdf:d.params.defaults=[])
  (hY:∀ (w:World) (h:Heap),YP w h->(K w.params).In h)
  (F:∀ (w:World) (mg:Str->Option Value) (fa:Addr) (h:Heap),(K w.params).In h->h.Ns mainGlobals mg->mg d.name=some (.ref fa) ->
   ∃ fd:FuncData,(∀ (s:Shared) (u:Value),BindsTo s fd ⟨[u],[]⟩ [("_law_script",u)])/\∀ base:Heap,(K w.params).In base->base.Ns mainGlobals mg->FnOk l.prog w (K w.params) mg base CX0 9 fa fd ["_law_script"] (Dp.spLaw (K w.params))) (hi:PyProof.Rows.importsNone q=true) (ht:l.prog.given.tree=none) :
  PySem.W.WalkO q loose XP YP l.row.toRowW d [] (fun f vs=>PySem.call f vs) :=
 L2.walk_of (n:=63) (k:=9) (x := "_law_script") (CX:=fun _=>CX0) (sp:=fun w=>Dp.spLaw (K w.params)) hn (by decide) hdf ⟨rfl,by decide,by decide⟩ hY F (fun _ _ a ns hl _ hS=>⟨a,ns,rfl,hS,hl,fun _=>rfl⟩) (fun _ _ _ _ _ z=>z) hi ht
end My
def PySem.W.Fast.tw11736283947308737943:Unit:=()
def PySem.W.Fast.tw14742742317564876965:Unit:=()
def PySem.W.Fast.tw13602405421475671356:Unit:=()
def PySem.W.Fast.tw17634736417753362405:Unit:=()
def PySem.W.Fast.tw12450382937714171556:Unit:=()
def PySem.W.Fast.tw11885309897366722259:Unit:=()
def PySem.W.Fast.tw1003172980768211243:Unit:=()
def PySem.W.Fast.tw16717002239008291151:Unit:=()
def PySem.W.Fast.tw9748744738309513777:Unit:=()
def PySem.W.Fast.tw18059296362670387149:Unit:=()
def PySem.W.Fast.tw7755173420759935891:Unit:=()
def PySem.W.Fast.tw8525099767416965431:Unit:=()
def PySem.W.Fast.tw238929942948059491:Unit:=()
def PySem.W.Fast.tw6573546086593211468:Unit:=()
def PySem.W.Fast.tw5218556226588552002:Unit:=()
def PySem.W.Fast.tw2999521741414596947:Unit:=()
def PySem.W.Fast.tw17530023066557901534:Unit:=()
def PySem.W.Fast.tw11434212056332570907:Unit:=()
def PySem.W.Fast.tw2410693187210395261:Unit:=()
def PySem.W.Fast.tw6892608260810297055:Unit:=()
def PySem.W.Fast.tw8264934562131855636:Unit:=()
def PySem.W.Fast.tw14880492790372964669:Unit:=()
def PySem.W.Fast.tw14572098652775185086:Unit:=()
def PySem.W.Fast.tw1538836511174070395:Unit:=()
def PySem.W.Fast.tw2230562122349143241:Unit:=()
def PySem.W.Fast.tw8252679955246913340:Unit:=()
def PySem.W.Fast.tw10809171212359377205:Unit:=()
def PySem.W.Fast.tw1779265965164544798:Unit:=()
def PySem.W.Fast.tw5968784474935153692:Unit:=()
def PySem.W.Fast.tw5744372452284620267:Unit:=()
def PySem.W.Fast.tw8921748882439536755:Unit:=()
def PySem.W.Fast.tw17236379460391525313:Unit:=()
def PySem.W.Fast.tw8419266500305250808:Unit:=()
def PySem.W.Fast.tw16482394871139052984:Unit:=()
def PySem.W.Fast.tw14456351225265656769:Unit:=()
def PySem.W.Fast.tw8694323614084183793:Unit:=()
def PySem.W.Fast.tw16743861901673513101:Unit:=()
def PySem.W.Fast.tw17401766165864324604:Unit:=()
def PySem.W.Fast.tw18187435153573608425:Unit:=()
def PySem.W.Fast.tw18436252454442250881:Unit:=()
def PySem.W.Fast.tw16374136981820856606:Unit:=()
def PySem.W.Fast.tw2629395524390435760:Unit:=()
def PySem.W.Fast.tw3208311596891141611:Unit:=()
def PySem.W.Fast.tw16178206056524496752:Unit:=()
def PySem.W.Fast.tw4486836016692877446:Unit:=()
def PySem.W.Fast.tw1324286253015915892:Unit:=()
def PySem.W.Fast.tw11883145717120060227:Unit:=()
def PySem.W.Fast.tw16059392679483373294:Unit:=()
def PySem.W.Fast.tw16870043461805380425:Unit:=()
def PySem.W.Fast.tw1308507836062904616:Unit:=()
def PySem.W.Fast.tw10819686942319947816:Unit:=()
def PySem.W.Fast.tw2704501117739071629:Unit:=()
def PySem.W.Fast.tw17093147887251407485:Unit:=()
def PySem.W.Fast.tw2542629779183933136:Unit:=()
def PySem.W.Fast.tw5186362859415150715:Unit:=()
def PySem.W.Fast.tw9535490585153169326:Unit:=()
def PySem.W.Fast.tw7268701025123614562:Unit:=()
def PySem.W.Fast.tw4961058590536815944:Unit:=()
def PySem.W.Fast.tw13555070242784673177:Unit:=()
open PySem PySem.W PyProof.Rows
set_option maxRecDepth 100000 in
set_option maxHeartbeats 0 in
theorem PySem.Challenge.cw_nestwright_k32_whole_inner_ones_in_one_a_holds : PySem.Challenge.rw_nestwright_k32_whole_inner_ones_in_one_a.Holds := by
 w_on;o_law;k_head;(case hw=>w_witness2)
 k_fill
 refine My.walk (l:=PySem.Challenge.rw_nestwright_k32_whole_inner_ones_in_one_a) rfl rfl (fun w h Y=>PySem.W.kIn_of Y) ?F ?hi rfl
 (case hi=>kernel_rfl)
 case F =>
  intro w mg fa h KX G hmg
  refine' My.all_mk KX G hmg (Ds.sl ?a1 ?l1 ?c1 ?k1) (Ds.sl ?a2 ?l2 ?c2 ?k2) (Ds.sl ?a3 ?l3 ?c3 ?k3) (Ds.sl ?a4 ?l4 ?c4 ?k4) (Ds.sl ?a5 ?l5 ?c5 ?k5) (Ds.sl ?a6 ?l6 ?c6 ?k6) (Ds.sl ?a7 ?l7 ?c7 ?k7) (Ds.sl ?a8 ?l8 ?c8 ?k8) (Ds.sl ?a9 ?l9 ?c9 ?k9) (Ds.sl ?a10 ?l10 ?c10 ?k10) (Ds.sl ?a11 ?l11 ?c11 ?k11) (Ds.sl ?a12 ?l12 ?c12 ?k12) (Ds.sl ?a13 ?l13 ?c13 ?k13) (Ds.sl ?a14 ?l14 ?c14 ?k14) (Ds.sl ?a15 ?l15 ?c15 ?k15) (Ds.sl ?a16 ?l16 ?c16 ?k16) (Ds.sl ?a17 ?l17 ?c17 ?k17) (Ds.sl ?a18 ?l18 ?c18 ?k18) (Ds.sl ?a19 ?l19 ?c19 ?k19) (Ds.sl ?a20 ?l20 ?c20 ?k20) (Ds.sl ?a21 ?l21 ?c21 ?k21) (Ds.sl ?a22 ?l22 ?c22 ?k22) (Ds.sl ?a23 ?l23 ?c23 ?k23) (Ds.sl ?a24 ?l24 ?c24 ?k24) (Ds.sl ?a25 ?l25 ?c25 ?k25) (Ds.sl ?a26 ?l26 ?c26 ?k26) (Ds.sl ?a27 ?l27 ?c27 ?k27) (Ds.sl ?a28 ?l28 ?c28 ?k28) (Ds.sl ?a29 ?l29 ?c29 ?k29) (Ds.sl ?a30 ?l30 ?c30 ?k30) (Ds.sl ?a31 ?l31 ?c31 ?k31) (Ds.sl ?a32 ?l32 ?c32 ?k32) (Ds.sl ?a33 ?l33 ?c33 ?k33) (Ds.sl ?a34 ?l34 ?c34 ?k34) (Ds.sl ?a35 ?l35 ?c35 ?k35) (Ds.sl ?a36 ?l36 ?c36 ?k36) (Ds.sl ?a37 ?l37 ?c37 ?k37) (Ds.sl ?a38 ?l38 ?c38 ?k38) (Ds.sl ?a39 ?l39 ?c39 ?k39) (Ds.sl ?a40 ?l40 ?c40 ?k40) (Ds.sl ?a41 ?l41 ?c41 ?k41) (Ds.sl ?a42 ?l42 ?c42 ?k42) (Ds.sl ?a43 ?l43 ?c43 ?k43) ?z_len ?z_range ?z_all ?z_any ?z_abs ?z_int ?z_bool ?z_str ?z_list ?z_tuple ?z_dict ?z_isinstance ?z_enumerate ?z_reversed ?z_sorted ?z_max ?z_min ?z_sum ?z_zip
  (case a1=>k_is);(case l1=>k_is);(case c1=>k_is);(case k1=>k_is)
  (case a2=>k_is);(case l2=>k_is);(case c2=>k_is);(case k2=>k_is)
  (case a3=>k_is);(case l3=>k_is);(case c3=>k_is);(case k3=>k_is)
  (case a4=>k_is);(case l4=>k_is);(case c4=>k_is);(case k4=>k_is)
  (case a5=>k_is);(case l5=>k_is);(case c5=>k_is);(case k5=>k_is)
  (case a6=>k_is);(case l6=>k_is);(case c6=>k_is);(case k6=>k_is)
  (case a7=>k_is);(case l7=>k_is);(case c7=>k_is);(case k7=>k_is)
  (case a8=>k_is);(case l8=>k_is);(case c8=>k_is);(case k8=>k_is)
  (case a9=>k_is);(case l9=>k_is);(case c9=>k_is);(case k9=>k_is)
  (case a10=>k_is);(case l10=>k_is);(case c10=>k_is);(case k10=>k_is)
  (case a11=>k_is);(case l11=>k_is);(case c11=>k_is);(case k11=>k_is)
  (case a12=>k_is);(case l12=>k_is);(case c12=>k_is);(case k12=>k_is)
  (case a13=>k_is);(case l13=>k_is);(case c13=>k_is);(case k13=>k_is)
  (case a14=>k_is);(case l14=>k_is);(case c14=>k_is);(case k14=>k_is)
  (case a15=>k_is);(case l15=>k_is);(case c15=>k_is);(case k15=>k_is)
  (case a16=>k_is);(case l16=>k_is);(case c16=>k_is);(case k16=>k_is)
  (case a17=>k_is);(case l17=>k_is);(case c17=>k_is);(case k17=>k_is)
  (case a18=>k_is);(case l18=>k_is);(case c18=>k_is);(case k18=>k_is)
  (case a19=>k_is);(case l19=>k_is);(case c19=>k_is);(case k19=>k_is)
  (case a20=>k_is);(case l20=>k_is);(case c20=>k_is);(case k20=>k_is)
  (case a21=>k_is);(case l21=>k_is);(case c21=>k_is);(case k21=>k_is)
  (case a22=>k_is);(case l22=>k_is);(case c22=>k_is);(case k22=>k_is)
  (case a23=>k_is);(case l23=>k_is);(case c23=>k_is);(case k23=>k_is)
  (case a24=>k_is);(case l24=>k_is);(case c24=>k_is);(case k24=>k_is)
  (case a25=>k_is);(case l25=>k_is);(case c25=>k_is);(case k25=>k_is)
  (case a26=>k_is);(case l26=>k_is);(case c26=>k_is);(case k26=>k_is)
  (case a27=>k_is);(case l27=>k_is);(case c27=>k_is);(case k27=>k_is)
  (case a28=>k_is);(case l28=>k_is);(case c28=>k_is);(case k28=>k_is)
  (case a29=>k_is);(case l29=>k_is);(case c29=>k_is);(case k29=>k_is)
  (case a30=>k_is);(case l30=>k_is);(case c30=>k_is);(case k30=>k_is)
  (case a31=>k_is);(case l31=>k_is);(case c31=>k_is);(case k31=>k_is)
  (case a32=>k_is);(case l32=>k_is);(case c32=>k_is);(case k32=>k_is)
  (case a33=>k_is);(case l33=>k_is);(case c33=>k_is);(case k33=>k_is)
  (case a34=>k_is);(case l34=>k_is);(case c34=>k_is);(case k34=>k_is)
  (case a35=>k_is);(case l35=>k_is);(case c35=>k_is);(case k35=>k_is)
  (case a36=>k_is);(case l36=>k_is);(case c36=>k_is);(case k36=>k_is)
  (case a37=>k_is);(case l37=>k_is);(case c37=>k_is);(case k37=>k_is)
  (case a38=>k_is);(case l38=>k_is);(case c38=>k_is);(case k38=>k_is)
  (case a39=>k_is);(case l39=>k_is);(case c39=>k_is);(case k39=>k_is)
  (case a40=>k_is);(case l40=>k_is);(case c40=>k_is);(case k40=>k_is)
  (case a41=>k_is);(case l41=>k_is);(case c41=>k_is);(case k41=>k_is)
  (case a42=>k_is);(case l42=>k_is);(case c42=>k_is);(case k42=>k_is)
  (case a43=>k_is);(case l43=>k_is);(case c43=>k_is);(case k43=>k_is)
  (case z_len=>k_is)
  (case z_range=>k_is)
  (case z_all=>k_is)
  (case z_any=>k_is)
  (case z_abs=>k_is)
  (case z_int=>k_is)
  (case z_bool=>k_is)
  (case z_str=>k_is)
  (case z_list=>k_is)
  (case z_tuple=>k_is)
  (case z_dict=>k_is)
  (case z_isinstance=>k_is)
  (case z_enumerate=>k_is)
  (case z_reversed=>k_is)
  (case z_sorted=>k_is)
  (case z_max=>k_is)
  (case z_min=>k_is)
  (case z_sum=>k_is)
  (case z_zip=>k_is)
