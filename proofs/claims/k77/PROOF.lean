import PyProof.Rows.All
import Wide.All
import OpenK.AllK
import Wide.FinOn
import Lean
import PyProof.EqAt
import PyProof.EqKinds
import PyProof.TupleCall
import PySem.Challenge.RW_nestwright_k77_whole_chains_of_what_is_p
open PySem.W (Frag)
open Array renaming size_push → fh, length_toList → fE
open Bool renaming and_eq_true_iff → ax, false_ne_true → aI, and_eq_true → bT, false_eq_true → cu, eq_iff_iff → cQ, not_eq_true' → eI, false_and → gN, or_eq_true_iff → iB
open Int renaming ne_of_gt → ao, mul_pos → ay, pow_succ → aJ, eq_of_mul_eq_mul_right → aK, zero_mul → aN, natAbs_mul → aR, toNat_natCast → aS, pow_zero → aT, natAbs_dvd_natAbs → bj, mul_one → bq, natAbs_natCast → br, mul_comm → bB, mul_zero → bD, pow_pos → bX, mul_ne_zero → b8, mul_assoc → cb, mul_eq_zero → cr, one_mul → cB, fmod_eq_emod_of_nonneg → cC, fdiv_eq_ediv_of_nonneg → cE, add_zero → cF, natAbs_pow → cJ, pow_ne_zero → cN, zero_add → cO, natCast_pow → cR, pow_add → cT, mul_fdiv_cancel_left → cV, one_pow → df, natAbs_neg → dj, lt_or_gt_of_ne → dG, le_refl → dH, eq_ofNat_of_zero_le → dI, mul_nonneg → dN, le_ediv_iff_mul_le → dO, dvd_mul_right → dP, mul_fdiv_cancel → dZ, emod_lt_of_pos → eh, mul_neg_of_pos_of_neg → eE, lt_trichotomy → eU, dvd_trans → eY, dvd_mul_of_dvd_left → fc, emod_nonneg → fj, dvd_add → fv, add_mul → fB, lt_or_le → gv, dvd_refl → gw, mul_le_mul_of_nonneg_right → gF, neg_mul_neg → gL, mul_dvd_mul → gM, eq_of_mul_eq_mul_left → gX, le_of_dvd → g7, dvd_mul_of_dvd_right → g9, fmod_nonneg_of_pos → io, fmod_def → ip, dvd_zero → iq, neg_mul → iz, mul_pow → iA, gcd_eq_zero_iff → iI, sub_add_cancel → iK, lt_or_eq_of_le → iL, fmod_lt_of_pos → iM, gcd_dvd_right → iQ
open List renaming length_map → aa, getD_eq_getElem?_getD → ae, getElem?_eq_some_iff → aj, size_toArray → am, mem_singleton → aq, getElem?_eq_getElem → au, mem_cons → av, mem_cons_of_mem → aA, length_append → aB, mem_cons_self → aG, getElem?_set_ne → aL, getElem?_map → aM, mem_of_getElem? → aO, getElem?_set → aP, length_take → aU, length_replicate → aX, mem_append_right → aY, not_mem_nil → bf, length_cons → bo, getElem?_append_right → bv, map_append → bw, length_set → bx, length_reverse → bA, getElem?_eq_none → bC, getElem?_append_left → bE, getElem?_reverse → bK, replicate_succ → bM, mem_append → bS, mem_iff_getElem? → bV, take_length → b9, mem_filter → ce, flatten_cons → cK, append_nil → cP, length_eq_zero_iff → cX, all_eq_true → cY, eq_nil_of_length_eq_zero → dc, mem_map → de, drop_eq_getElem_cons → dq, length_pos_iff → dr, getD_cons_succ → du, filterMap_cons → dw, getElem?_take_of_lt → dA, eq_of_mem_replicate → dD, reverse_cons → dJ, mem_range → dM, map_cons → dQ, length_dropLast → dR, nodup_cons → dU, lookup_cons → eZ, length_drop → e6, getElem?_replicate → e7, getElem?_cons_succ → e9, getElem?_set_self → ff, dropLast_eq_take → fi, take_zero → ft, drop_zero → fu, all_cons → fI, getElem?_take → fQ, filter_append → fU, take_add_one → ga, length_range → gb, map_reverse → gy, isEmpty_iff → gz, getElem_mem → gA, ext_getElem → gB, drop_length → gC, any_eq_true → gE, of_mem_zip → gJ, pairwise_iff_getElem → gR, getElem?_eq_none_iff → gS, any_cons → gU, pairwise_singleton → gY, filter_cons_of_pos → gZ, filter_cons_of_neg → g6, take_of_length_le → hJ, all_map → hV, length_singleton → ig, eq_replicate_iff → ii, mem_append_left → ir, getElem?_range → iy, mem_filterMap → iG, filterMap_nil → iH, foldl_append → iJ, getElem_map → iP
open Nat renaming mul_le_mul_left → ai, le_refl → ak, lt_or_ge → ar, lt_of_lt_of_le → aC, le_trans → aD, zero_le → aE, le_mul_of_pos_left → aQ, pow_pos → bg, succ_mul → bh, ne_of_lt → bt, mul_succ → bF, mul_le_mul_right → bH, mul_le_mul → bI, add_sub_cancel → bJ, pow_le_pow_right → bO, sub_zero → bP, mul_comm → bQ, le_mul_of_pos_right → bY, not_lt_zero → bZ, lt_irrefl → ca, lt_of_le_of_lt → cw, eq_or_lt_of_le → cy, sub_self → cI, le_of_dvd → cU, pow_succ → dg, le_of_succ_le → dh, dvd_mul_left → dm, div_le_self → dE, eq_zero_or_pos → dF, mul_one → dS, mul_lt_mul_of_pos_right → d9, pow_add → eJ, one_mul → eK, le_succ → eO, le_of_lt_succ → eQ, mul_assoc → eV, add_assoc → eX, dvd_trans → fJ, pos_of_ne_zero → fZ, succ_pos → gh, ne_of_gt → gm, mul_zero → gn, le_of_lt → gq, gcd_dvd_right → gr, add_zero → gu, pow_one → gG, mul_pos → gH, add_mul → gI, mul_lt_mul_of_pos_left → gO, mul_div_le → gP, mod_two_eq_zero_or_one → gQ, eq_of_mul_eq_mul_left → gT, zero_mul → hX, zero_add → ia, gcd_comm → ic, add_le_add_right → ix, pow_lt_pow_left → iD, pow_le_pow_left → iE, lt_mul_div_succ → iF, lt_trichotomy → iN, lt_succ_of_lt → iO
open Option renaming map_eq_some_iff → ab, ite_none_right_eq_some → ac, bind_eq_some_iff → af, ite_none_left_eq_some → gx, getD_none → iC
open Rat renaming intCast_mul → az, pow_succ → bc, pow_zero → bN, mul_eq_zero → cq, intCast_pow → cH, intCast_eq_zero_iff → cL, natCast_eq_zero_iff → cZ, intCast_neg → dW, intCast_inj → dX, intCast_add → dY, num_divInt_den → fY, divInt_eq_div → gg, intCast_sub → gK, mul_one → iu
open PySem renaming wpAny_bind → On, Value → Pt, sizeLine → Pv, Shared → Px, Addr → Py, wpAny_pure → PB, wpAny → PH, mainGlobals → PJ, starEach → PN, Str → PR, Program → PU, compareOp → PX, Stmt → PY, bootBuiltins → P0, World → P3, sizeLine_eq → P4, wpAny_newObj_type → P6, wpAny_callSpecial?_slot → P7, NameKind → P8, wpAny_truthy_bool → P9, Heap → Qb, Spec → Qf, wpAny_field → Qh, Around → Qi, wpAny_call_entry → Qk, wpAny_passesOwn → Qs, FuncData → Qt, wpAny_holding → Qu, mem_of_lookup → Qx, Operator → QC, builtinLookup_eq_fast → QE, Obj → QF, call_meets → QG
open List renaming replicate → Pu, range → P5
open PySem.Heap renaming get?_push_of_some → Pw, lt_size → PC, get?_push_size → PF, get?_update_other → Ql, get?_update_self → Qn, size_push → QH
open False renaming elim → PD
open PySem.W renaming mg_none_of → PL, Frag → PM, nsIn → PQ, fnOf → QA
open Option.some renaming inj → PP
open Int renaming gcd → PV
open PySem.Obj renaming mapSeq → PZ, data_mapFields → Qm
open LawfulBEq renaming eq_of_beq → Qa
open PySem.AutoSeq1 renaming wpAny_loadPart' → Qc
open PyProof.Rows renaming callWith_type1 → Qd, slot_tuple_getitem → Qj
open PySem.NameKind renaming free → Qe, cell → QD
open PySem.Builtin.Int renaming intBits → Qg
open Nat renaming gcd → Qo
open PySem.Builtin.Slice renaming slicePlaces → Qq
open PySem.Builtin.SmallTypes renaming nextOf → Qr
open PySem.Builtin.Tuple renaming tupleExact → Qv
open PySem.Builtin.List renaming listTooLong → Qw
open PySem.Heap.SameBut renaming update → Qy
open PySem.Value renaming type → Qz
open PySem.Str renaming ofString → QB
set_option Elab.async false
set_option linter.all false
set_option maxRecDepth 100000
set_option genSizeOf false
set_option bootstrap.genMatcherCode false
local macro_rules|`(tactic| omega) => `(tactic| lia)
theorem QI{c:Prop}{h:Decidable c}(hc:c){α:Sort u}{t e:α}:ite c t e=t:=if_pos hc
theorem QJ{c:Prop}{h:Decidable c}(hc:¬c){α:Sort u}{t e:α}:ite c t e=e:=if_neg hc
namespace L2
open PySem PySem.Spec PyProof.Rows
abbrev zl:=Sum Int Str
def zX:zl->Value->Bool
 | .inl k,v=>Value.isInt k v
 | .inr x,v=>Value.isStrOf x v
def Oe(w:World):zl->Int
 | .inl k=>hashInt k
 | .inr x=>hashStr w x
theorem uC:∀{k:zl} {v:Pt},zX k v=true->(∃ i t,k=Sum.inl i/\v=Value.int i t)\/(∃ x t,k=Sum.inr x/\v=Value.str x t)
 | .inl i,v,h=>by
  obtain⟨t,e⟩:=Value.isInt_shape (k:=i) (v:=v) h;exact .inl ⟨i,t,rfl,e⟩
 | .inr x,v,h=>by
  obtain⟨t,e⟩:=Value.isStrOf_shape (x:=x) (v:=v) h;exact .inr ⟨x,t,rfl,e⟩
theorem EO(i:Int)(t:Tok):zX (.inl i) (.int i t)=true:=by simp[zX,Value.isInt]
theorem EN(x:PR)(t:Tok):zX (.inr x) (.str x t)=true:=by simp[zX,Value.isStrOf]
theorem K1(a b:Int):decide ((Sum.inl a:zl)=Sum.inl b)=(a == b):=by
 by_cases e:a=b
 ·subst e;simp
 ·have h:¬ (Sum.inl a:zl)=Sum.inl b:=fun q=>e (Sum.inl.inj q);rw[decide_eq_false h];exact (beq_eq_false_iff_ne.mpr e).symm
theorem KY(a b:PR):decide ((Sum.inr a:zl)=Sum.inr b)=decide (a=b):=by
 by_cases e:a=b
 ·subst e;simp
 ·have h:¬ (Sum.inr a:zl)=Sum.inr b:=fun q=>e (Sum.inr.inj q);rw[decide_eq_false h,decide_eq_false e]
theorem K0(a:Int)(b:PR):decide ((Sum.inl a:zl)=Sum.inr b)=false:=decide_eq_false (fun q=>nomatch q)
theorem KZ(a:PR)(b:Int):decide ((Sum.inr a:zl)=Sum.inl b)=false:=decide_eq_false (fun q=>nomatch q)
def xo(prog:Program)(w:World):PySem.KeyKind prog w zl where
 is:=zX
 hash:=Oe w
 inj:=fun v a b ha hb=>by
  rcases uC ha with⟨i,t,rfl,rfl⟩|⟨x,t,rfl,rfl⟩
  ·rcases uC hb with⟨j,u,rfl,e⟩|⟨y,u,rfl,e⟩
   ·injection e with e1 _;rw[e1]
   ·exact nomatch e
  ·rcases uC hb with⟨j,u,rfl,e⟩|⟨y,u,rfl,e⟩
   ·exact nomatch e
   ·injection e with e1 _;rw[e1]
 byValue:=fun k v h=>by
  rcases uC h with⟨i,t,rfl,rfl⟩|⟨x,t,rfl,rfl⟩ <;> rfl
 pyHash:=fun hv h=>by
  rcases uC hv with⟨i,t,rfl,rfl⟩|⟨x,t,rfl,rfl⟩
  ·exact wpAny_pyHash_int h
  ·exact wpAny_pyHash_str h
 eqBool:=fun hu hv h=>by
  rcases uC hu with⟨i,t,rfl,rfl⟩|⟨x,t,rfl,rfl⟩
  ·rcases uC hv with⟨j,u,rfl,rfl⟩|⟨y,u,rfl,rfl⟩
   ·rw[K1] at h;exact wpAny_eqBool_int h
   ·rw[K0] at h;exact SeqAt.EqAt.int_str i t y u _ _ _ _ h
  ·rcases uC hv with⟨j,u,rfl,rfl⟩|⟨y,u,rfl,rfl⟩
   ·rw[KZ] at h;exact SeqAt.EqAt.str_int x t j u _ _ _ _ h
   ·rw[KY] at h;exact wpAny_eqBool_str h
 «strs» := fun k x t v h=>by
  rcases uC h with⟨i,u,rfl,e⟩|⟨y,u,rfl,e⟩
  ·exact nomatch e
  ·injection e with e1 _;subst e1;cases v <;> rfl
inductive V where
 | non|bl (b:Bool)|int (i:Int)|str (x:Str)|byt (b:Array UInt8)|flt (b:UInt64)|ref (a:Addr)|ty (n:String)
 deriving DecidableEq
def RelV:V->Value->Prop
 | .non,u=>u=Value.none
 | .bl b,u=>u=Value.bool b
 | .int i,u=>∃ t,u=Value.int i t
 | .str x,u=>∃ t,u=Value.str x t
 | .byt b,u=>∃ t,u=Value.bytes b t
 | .flt b,u=>∃ t,u=Value.float b t
 | .ref a,u=>u=Value.ref a
 | .ty n,u=>u=Value.type n
abbrev Vals:List V->List Value->Prop:=Paired RelV
theorem Vals.length(r:Vals xs us):xs.length=us.length:=Paired.length r
theorem Vals.get:∀{xs:List V} {us:List Pt} {i:Nat} {x:V},Vals xs us->xs[i]? = some x->∃ u,us[i]? = some u/\RelV x u
 | _,_,_,_,.nil,e=>by simp at e
 | _,_,0,_,.cons r _,e=>by simp at e;subst e;exact⟨_,rfl,r⟩
 | _,_,i+1,x,.cons _ t,e=>by
  obtain⟨u,h1,h2⟩:=Vals.get (i:=i) (x:=x) t (by simpa using e);exact⟨u,by simpa using h1,h2⟩
theorem Vals.set(r:RelV x u):∀{xs:List V} {us:List Pt} (i:Nat),Vals xs us->Vals (xs.set i x) (us.set i u)
 | _,_,_,.nil=>.nil
 | _,_,0,.cons _ t=>.cons r t
 | _,_,i+1,.cons q t=>.cons q (Vals.set r i t)
theorem Vals.append:∀{xs ys:List V} {us ws:List Pt},Vals xs us->Vals ys ws->Vals (xs++ys) (us++ws)
 | _,_,_,_,.nil,s=>s
 | _,_,_,_,.cons r t,s=>.cons r (Vals.append t s)
theorem Vals.take:∀{xs:List V} {us:List Pt} (n:Nat),Vals xs us->Vals (xs.take n) (us.take n)
 | _,_,0,_=>.nil
 | _,_,_+1,.nil=>.nil
 | _,_,n+1,.cons r t=>.cons r (Vals.take n t)
theorem Vals.drop:∀{xs:List V} {us:List Pt} (n:Nat),Vals xs us->Vals (xs.drop n) (us.drop n)
 | _,_,0,r=>r
 | _,_,_+1,.nil=>.nil
 | _,_,n+1,.cons _ t=>Vals.drop n t
def Nm:Option V->Option Value->Prop
 | some v,some u=>RelV v u
 | none,none=>True
 | _,_=>False
def KV{κ:Type}:List (κ×V)->List (κ×Value)->Prop:=Paired fun (p:κ×V) (q:κ×Value)=>p.1=q.1/\RelV p.2 q.2
def kV:zl->V
 | .inl i=>.int i
 | .inr x=>.str x
inductive HO where
  | lst (xs:List V)
  | tup (xs:List V)
  | dK (kvs:List (zl×V))|dT (kvs:List (List zl×V))
  | set (S:Int->Bool) (n:Nat)
  | ins (C dx:Addr) (fs:List (Str×V))
  | own (x:Addr)
  | xd (fs:List (Str×V))
  | met (f x:Addr)
  | rng (lo hi:Int)
  | frz (o:Obj) (u:HO)
  | tbl (ps:Array Value)
  | ext (φ:Heap->Prop)
abbrev Hp:=Addr->Option HO
def uH(H:Hp)(a:Addr)(o:HO):Hp:=fun b=>if b=a then some o else H b
theorem ur:uH H a o a=some o:=by unfold uH;rw[QI rfl]
theorem ul(h:b≠a):uH H a o b=H b:=by unfold uH;rw[QJ h]
theorem ML{H:Hp}{a b:Py}{o u:HO}(h:H a=some o)(h':H b=some u)(d:o≠u):a≠b:=by
 intro e;subst e;rw[h] at h';exact d (PP h')
theorem ut{H:Hp}{o:HO}(h:H a=some o)(h':H b=none):a≠b:=by
 intro e;subst e;rw[h] at h';cases h'
section
variable(P:Program)(w:World)
def ObjOk(H:Hp)(h:Heap)(a:Addr):HO->Prop
 | .lst xs=>xs.length<=sizeLine/\∃(its:List Value) (n:Nat),Vals xs its/\h.get? a=some { cls:=.type "list",data:=.seq its.toArray n }
 | .tup xs=>xs.length<=sizeLine/\∃ its:List Value,Vals xs its/\IsTup h a its.toArray
 | .dK kvs=>kvs.length<=sizeLine/\(a == sysModules)=false/\∃ vs,KV kvs vs/\h.DictOf (xo P w) a vs
 | .dT kvs=>kvs.length<=sizeLine/\(a == sysModules)=false/\∃ xs:List (List zl×Addr×Value),
   Paired (fun (p:List zl×V) (q:List zl×Addr×Value)=>p.1=q.1/\H q.2.1=some (.tup (p.1.map kV))/\RelV p.2 q.2.2) kvs xs /\
   ∃ o es ep,h.get? a=some o/\o.ExactDict/\o.data = .dict es ep/\es.toList=xs.map (entryOfKey (tupleKind (xo P w)))/\(xs.map (·.1)).Nodup
 | .set S n=>h.SetOf (intKind P w) a S n
 | .ins C dx fs=>H dx=some (.own a)/\fs.length<=1000/\dx≠a/\h.get? a=some (PySem.W.instObj C dx) /\
   ∃ mA,h.Ns1 dx mA/\(∀ f,Nm (fs.lookup f) (mA f))/\PySem.Within mA (fs.map (·.1))
 | .own _=>∃ o,h.get? a=some o
 | .xd fs=>∃ mA,h.Ns1 a mA/\∀ f,Nm (fs.lookup f) (mA f)
 | .rng lo hi=>∃ t u v,h.get? a=some { cls:=.type "range",data:=.fields #[.int lo t,.int hi u,.int 1 v] }
 | .frz o u=>h.get? a=some o/\ObjOk H h a u
 | .tbl ps=>h.get? a=some { cls:=.none,data:=.fields ps }
 | .met f x=>h.get? a=some (PySem.W.methodObj (.ref f) (.ref x))
 | .ext φ=>φ h/\(∃ o,h.get? a=some o)/\∀ h1 h2:Heap,φ h1->(∀ o,h1.get? a=some o->h2.get? a=some o)->φ h2
def HOk(H:Hp)(h:Heap):Prop:=∀ a o,H a=some o->ObjOk P w H h a o
end
section
variable{P:Program}{w:World}{H H':Hp}{h h':Heap}{a:Addr}{o:HO}
theorem ObjOk.lt(x:ObjOk P w H h a o):a<h.objs.size:=by
 cases o with
 | lst xs=>obtain⟨_,_,_,_,e⟩:=x;exact PC e
 | tup xs=>obtain⟨_,_,_,p⟩:=x;exact p.lt
 | dK kvs=>obtain⟨_,_,_,_,o,_,_,e,_⟩:=x;exact PC e
 | dT kvs=>obtain⟨_,_,_,_,o,_,_,e,_⟩:=x;exact PC e
 | set S n=>obtain⟨o,_,_,_,e,_⟩:=x;exact PC e
 | ins C dx fs=>obtain⟨_,_,_,e,_⟩:=x;exact PC e
 | own y=>obtain⟨_,e⟩:=x;exact PC e
 | xd fs=>obtain⟨_,⟨_,_,_,e,_⟩,_⟩:=x;exact PC e
 | rng lo hi=>obtain⟨_,_,_,e⟩:=x;exact PC e
 | frz ob u=>obtain⟨e,_⟩:=x;exact PC e
 | tbl ps=>exact PC (show h.get? a=some _ from x)
 | met f y=>exact PC (show h.get? a=some _ from x)
 | ext φ=>obtain⟨_,⟨_,e⟩,_⟩:=x;exact PC e
theorem Paired.mapP{α β:Type}{F G:α->β->Prop}:∀{l₁:List α} {l₂:List β},Paired F l₁ l₂->(∀ a b,F a b->G a b)->Paired G l₁ l₂
 | _,_,.nil,_=>.nil
 | _,_,.cons r t,f=>.cons (f _ _ r) (Paired.mapP t f)
theorem ObjOk.stay(x:ObjOk P w H h a o)(k:∀ b u,(b=a\/H b=some (.own a))->h.get? b=some u->h'.get? b=some u)
  (ho:∀ b,H b=some (.own a)->H' b=some (.own a)) (ht:∀ b xs,H b=some (.tup xs)->H' b=some (.tup xs)):ObjOk P w H' h' a o:=by
 induction o with
 | lst xs=>obtain⟨z,its,n,r,e⟩:=x;exact⟨z,its,n,r,k _ _ (.inl rfl) e⟩
 | tup xs=>obtain⟨z,its,r,ob,e,c⟩:=x;exact⟨z,its,r,ob,k _ _ (.inl rfl) e,c⟩
 | dK kvs=>obtain⟨z,y,vs,r,ob,es,ep,e,c⟩:=x;exact⟨z,y,vs,r,ob,es,ep,k _ _ (.inl rfl) e,c⟩
 | dT kvs =>
  obtain⟨z,y,xs,r,ob,es,ep,e,c⟩:=x;exact⟨z,y,xs,Paired.mapP r fun p q z=>⟨z.1,ht _ _ z.2.1,z.2.2⟩,ob,es,ep,k _ _ (.inl rfl) e,c⟩
 | set S n=>obtain⟨ob,es,ep,t,e,c⟩:=x;exact⟨ob,es,ep,t,k _ _ (.inl rfl) e,c⟩
 | ins C dx fs =>
  obtain⟨d,z,ne,e,mA,⟨od,es,ep,e2,c⟩,r⟩:=x;exact⟨ho _ d,z,ne,k _ _ (.inl rfl) e,mA,⟨od,es,ep,k _ _ (.inr d) e2,c⟩,r⟩
 | own y=>obtain⟨ob,e⟩:=x;exact⟨ob,k _ _ (.inl rfl) e⟩
 | xd fs=>obtain⟨mA,⟨od,es,ep,e,c⟩,r⟩:=x;exact⟨mA,⟨od,es,ep,k _ _ (.inl rfl) e,c⟩,r⟩
 | rng lo hi=>obtain⟨t,u,v,e⟩:=x;exact⟨t,u,v,k _ _ (.inl rfl) e⟩
 | frz ob u ih=>obtain⟨e,q⟩:=x;exact⟨k _ _ (.inl rfl) e,ih q⟩
 | tbl ps =>
  have e:h.get? a=some { cls:=.none,data:=.fields ps }:=x;show h'.get? a=some { cls:=.none,data:=.fields ps };exact k a _ (.inl rfl) e
 | met f y =>
  have e:h.get? a=some (PySem.W.methodObj (.ref f) (.ref y)):=x;show h'.get? a=some (PySem.W.methodObj (.ref f) (.ref y));exact k a _ (.inl rfl) e
 | ext φ=>obtain⟨p,⟨o,e⟩,st⟩:=x;exact⟨st _ _ p fun o q=>k _ _ (.inl rfl) q,⟨o,k _ _ (.inl rfl) e⟩,st⟩
theorem HOk.lt(x:HOk P w H h)(e:H a=some o):a<h.objs.size:=(x a o e).lt
theorem HOk.fresh(x:HOk P w H h)(e:h.objs.size<=a):H a=none:=by
 cases q:H a with
 | none=>rfl
 | some u=>exact absurd (aC (x.lt q) e) (ca _)
theorem HOk.kept(x:HOk P w H h)(k:∀ b u,h.get? b=some u->h'.get? b=some u):HOk P w H h':=fun a o e =>
 (x a o e).stay (fun b u _ q=>k b u q) (fun _ q=>q) fun _ _ q=>q
theorem HOk.laid(x:HOk P w H h)(k:∀ b u,h.get? b=some u->h'.get? b=some u)(hp:h.objs.size<=a)(new:ObjOk P w (uH H a o) h' a o):HOk P w (uH H a o) h':=fun b u e=>by
 have hn:=x.fresh hp;by_cases hb:b=a
 ·subst hb;rw[ur] at e;cases e;exact new
 ·rw[ul hb] at e;exact (x b u e).stay (fun c v _ q=>k c v q) (fun c q=>by rw[ul (ut q hn)];exact q) fun c xs q=>by rw[ul (ut q hn)];exact q
end
def Rd(H:Hp)(a:Addr)(u:HO):Prop:=H a=some u\/∃ o,H a=some (.frz o u)
theorem Rd.ok(r:Rd H a u)(x:HOk P w H h):ObjOk P w H h a u:=by
 rcases r with r|⟨o,r⟩
 ·exact x a u r
 ·obtain⟨_,q⟩:=x a _ r;exact q
def NB:Option HO->Prop
 | some (.lst _)=>True
 | some (.dK _)=>True
 | some (.dT _)=>True
 | some (.set _ _)=>True
 | some (.ins _ _ _)=>True
 | some (.ext _)=>True
 | _=>False
section
variable{P:Program}{w:World}{H:Hp}{h h':Heap}{x e:Addr}{o':HO}
theorem HOk.write(ok:HOk P w H h)(mu:NB (H x))(he:e=x\/H e=some (.own x))(k:∀ b u,b≠e->h.get? b=some u->h'.get? b=some u)(heo:∃ u,h'.get? e=some u)
  (new:ObjOk P w (uH H x o') h' x o'):HOk P w (uH H x o') h':=fun b u q=>by
 have nown:∀ c y,H c=some (.own y)->c≠x:=fun c y r z=>by subst z;rw[r] at mu;exact mu
 have ntup:∀ c xs,H c=some (.tup xs)->c≠x:=fun c xs r z=>by subst z;rw[r] at mu;exact mu
 by_cases hb:b=x
 ·subst hb;rw[ur] at q;cases q;exact new
 ·rw[ul hb] at q;by_cases hbe:b=e
  ·have q':H b=some (.own x):=by
    rcases he with z|z
    ·exact absurd (hbe.trans z) hb
    ·rw[hbe];exact z
   rw[q] at q';cases q';obtain⟨v,hv⟩:=heo;exact⟨v,by rw[hbe];exact hv⟩
  ·refine (ok b u q).stay (fun c v hc r=>k c v ?_ r) (fun c r=>by rw[ul (nown c b r)];exact r) fun c xs r=>by rw[ul (ntup c xs r)];exact r
   rcases hc with rfl|hc
   ·exact hbe
   ·rintro rfl;rcases he with z|z
    ·exact nown c b hc z
    ·rw[hc] at z;cases z;exact hb rfl
end
structure Un (fs ex:List Addr)(H H':Hp)(h h':Heap):Prop where
 keep:∀ b o,h.get? b=some o->H b=none->b ∉ fs->b ∉ ex->h'.get? b=some o
 slot:∀ b o,h.get? b=some o->H b=none->b∈fs->b ∉ ex->∃ sl,h'.get? b=some { o with slots:=sl }
 free:∀ b o,h.get? b=some o->H b=none->b ∉ ex->H' b=none
 there:∀ b o,h.get? b=some o->b ∉ ex->∃ o',h'.get? b=some o'
 tups:∀ b xs,H b=some (.tup xs)->H' b=some (.tup xs)
 frzs:∀ b o u,H b=some (.frz o u)->H' b=some (.frz o u)
 tbls:∀ b ps,H b=some (.tbl ps)->∃ more,H' b=some (.tbl (ps++more))
section
variable{fs fs' ex ex':List Addr}{H H1 H2:Hp}{h h1 h2 h':Heap}{a x e:Addr}{o:HO}
theorem Un.any(u:Un fs ex H H1 h h1)(q:h.get? b=some ob)(n:H b=none)(hx:b ∉ ex):∃ sl,h1.get? b=some { ob with slots:=sl }:=by
 by_cases hb:b∈fs
 ·exact u.slot b ob q n hb hx
 ·exact⟨ob.slots,u.keep b ob q n hb hx⟩
theorem Un.kept(k:∀ b u,h.get? b=some u->h'.get? b=some u):Un fs ex H H h h' :=
 ⟨fun b ob q _ _ _=>k b ob q,fun b ob q _ _ _=>⟨ob.slots,k b ob q⟩,fun _ _ _ n _=>n,fun b ob q _=>⟨ob,k b ob q⟩,fun _ _ q=>q,fun _ _ _ q=>q,fun _ ps q=>⟨#[],by rw[q];simp⟩⟩
theorem Un.refl:Un fs ex H H h h:=Un.kept fun _ _ q=>q
theorem Un.laid(k:∀ b u,h.get? b=some u->h'.get? b=some u)(hp:h.objs.size<=a)(hn:H a=none):Un fs ex H (uH H a o) h h' where
 keep:=fun b u q _ _ _=>k b u q
 slot:=fun b u q _ _ _=>⟨u.slots,k b u q⟩
 free:=fun b u q n _=>by rw[ul (bt (aC (PC q) hp))];exact n
 there:=fun b u q _=>⟨u,k b u q⟩
 tups:=fun b xs q=>by rw[ul (ut q hn)];exact q
 frzs:=fun b u xs q=>by rw[ul (ut q hn)];exact q
 tbls:=fun b ps q=>⟨#[],by rw[ul (ut q hn),q];simp⟩
theorem Un.write(mu:NB (H x))(he:e=x\/H e=some (.own x))(k:∀ b u,b≠e->h.get? b=some u->h'.get? b=some u)(heo:∃ u,h'.get? e=some u):Un fs ex H (uH H x o) h h':=by
 have hx:∀ b,H b=none->b≠x:=fun b n z=>by subst z;rw[n] at mu;exact mu
 have hb:∀ b,H b=none->b≠e:=fun b n z=>by
  subst z;rcases he with r|r
  ·exact hx b n r
  ·rw[n] at r;cases r
 have hm:∀ b u,H b=some u->¬ NB (some u)->b≠x:=fun b u q nm z=>by subst z;rw[q] at mu;exact nm mu
 refine⟨fun b u q n _ _=>k b u (hb b n) q,fun b u q n _ _=>⟨u.slots,k b u (hb b n) q⟩,fun b u q n _=>by rw[ul (hx b n)];exact n,fun b u q _=>?_,
  fun b xs q=>by rw[ul (hm b _ q fun z=>z)];exact q,fun b u xs q=>by rw[ul (hm b _ q fun z=>z)];exact q,fun b ps q=>⟨#[],by rw[ul (hm b _ q fun z=>z),q];simp⟩⟩
 by_cases hbe:b=e
 ·subst hbe;exact heo
 ·exact⟨u,k b u hbe q⟩
end
def Nv(h:Heap)(H:Hp):List Addr:=(List.range h.objs.size).filter fun a=>(H a).isSome
def zr(h:Heap)(H:Hp):Heap:=PySem.W.hideAll h (Nv h H)
theorem ET(h:Qb)(H:Hp):(zr h H).objs.size=h.objs.size:=PySem.W.hideAll_size _ _
theorem GF(e:h.get? b=some o)(n:H b=none):(zr h H).get? b=some o :=
 PySem.W.hideAll_get _ e fun hm=>by
  have q:(H b).isSome=true:=(ce.mp hm).2;rw[n] at q;simp at q
theorem Ie(e:(zr h H).get? b=some o):h.get? b=some o/\H b=none:=by
 have e':h.get? b=some o:=PySem.W.of_hideAll (Nv h H) e;refine⟨e',?_⟩;cases q:H b with
 | none=>rfl
 | some x =>
  have hm:b∈Nv h H:=ce.mpr ⟨dM.mpr (PC e'),by simp[q]⟩;have z:(zr h H).get? b=none:=PySem.W.hideAll_none (Nv h H) hm;rw[z] at e;cases e
structure Mod (K:Frag)(mg:Str->Option Value)(base:Heap):Prop where
 kin:K.In base
 glob:base.Ns mainGlobals mg
 blt:∃ mb,base.Ns builtinsNs mb/\∀ x:Str,x ≠ "__name__" -> mb x=bootBuiltins x
 nolimit:base.NoLimit
structure Cx where
 prog:Program
 w:World
 K:Frag
 mg:Str->Option Value
 base:Heap
 A:Around
 N:List Str
 s₀:Shared
 H₀:Hp
 env:Env
 outer:List Env
 stack:List Env
 ex:List Addr
 fn:Str->Bool
 calm:Bool
 pn:List (Addr×Obj)
 xe:Value->Shared->Prop
def B8(l:List Env):List Addr:=l.filterMap (·.frame)
abbrev Cx.fs(X:Cx):List Addr:=B8 X.outer
def JR(sc:Scope)(x:Str):Prop:=sc.names.lookup x=some .local\/sc.names.lookup x=some .cell\/sc.names.lookup x=some .free
def En(sc:Scope)(x:Str):Prop:=sc.names.lookup x=some .local\/sc.names.lookup x=some .cell
def OB(env:Env)(h:Heap)(m:Str->Option Value)(x:Str)(u:Value):Prop :=
 (env.kindOf x=some .local/\m x=some u)\/((env.kindOf x=some .cell\/env.kindOf x=some .free)/\∃ c,env.cells.lookup x=some c/\h.IsCell c (some u))
structure Cx.Ok (X:Cx):Prop where
 mod:Mod X.K X.mg X.base
 kind:X.env.scope.kind = .function
 glob:X.env.globals=mainGlobals
 blt:X.env.builtins=builtinsNs
 above:X.s₀.heap.objs.size<=X.env.locals
 inj:∀ x y c,X.env.cells.lookup x=some c->X.env.cells.lookup y=some c->x=y
 has:∀ x,(X.env.kindOf x=some .cell\/X.env.kindOf x=some .free)->∃ c,X.env.cells.lookup x=some c
 cab:∀ x c,X.fn x=true->X.env.cells.lookup x=some c->X.s₀.heap.objs.size<=c
 hd:X.calm=true->X.A.handled=none
 frames:X.A.frames=some X.stack
 stk:X.stack=X.outer\/(X.stack=X.env::X.outer/\X.env.frame=some X.env.locals)
 exf:∀ b∈X.ex,b≠X.env.locals/\∀ x c,X.env.cells.lookup x=some c->c≠b
 bs:∀ b o,X.base.get? b=some o->X.s₀.heap.get? b=some o/\X.H₀ b=none
 bsz:X.base.objs.size<=X.s₀.heap.objs.size
 noex:∀ b o,X.base.get? b=some o->b ∉ X.ex
 exfs:∀ b∈X.ex,b ∉ X.fs
 funs:X.s₀.heap.FunFrames X.base X.outer
 frf:∀ b∈X.fs,X.H₀ b=none
 sr:X.base.NoSeer/\X.prog.given.tree=none
 rn:∃ e l,X.stack=e::l/\e.scope.isGenerator=false/\e.scope.isCoroutine=false/\e.builtins=builtinsNs/\e.globals=mainGlobals
structure Inv (X:Cx)(pins:List (Addr×Obj))(σ:List (Option V))(H:Hp)(s:Shared):Prop where
 ok:X.Ok
 os:s.os=X.s₀.os
 bare:AllBare s.gens
 base:Un X.fs X.ex X.H₀ H X.s₀.heap s.heap
 loc:∃ m,s.heap.Ns X.env.locals m/\∀(i:Nat) (x:Str) (v:V),X.N[i]? = some x->σ[i]? = some (some v)->JR X.env.scope x->∃ u,RelV v u/\OB X.env s.heap m x u
 cell:∀ x c,X.env.cells.lookup x=some c->∃ v,s.heap.IsCell c v
 free:H X.env.locals=none
 freeC:∀ x c,X.env.cells.lookup x=some c->H c=none
 pin:∀ p∈X.pn++pins,s.heap.get? p.1=some p.2/\H p.1=none/\p.1≠X.env.locals/\p.1 ∉ X.fs/\∀ v,p.2.data ≠ .cell v
 hok:HOk X.prog X.w H s.heap
 len:σ.length=X.N.length
section
variable{X:Cx}{pins:List (Addr×Obj)}{σ:List (Option V)}{H H':Hp}{s:Shared}{h':Heap}
theorem Cx.Ok.nofr(ok:X.Ok)(e:X.base.get? b=some o):b ∉ X.fs:=fun hb=>by
 have:=(ok.funs.mem hb).1;rw[e] at this;cases this
theorem Inv.bs(I:Inv X pins σ H s):∀ b o,X.base.get? b=some o->s.heap.get? b=some o/\H b=none:=fun b o e =>
 ⟨I.base.keep b o (I.ok.bs b o e).1 (I.ok.bs b o e).2 (I.ok.nofr e) (I.ok.noex b o e),I.base.free b o (I.ok.bs b o e).1 (I.ok.bs b o e).2 (I.ok.noex b o e)⟩
theorem Inv.bk(I:Inv X pins σ H s):∀ b o,X.base.get? b=some o->s.heap.get? b=some o:=fun b o e=>(I.bs b o e).1
theorem Inv.mod(I:Inv X pins σ H s):Mod X.K X.mg X.base:=I.ok.mod
theorem Inv.kIn(I:Inv X pins σ H s):X.K.In s.heap:=I.ok.mod.kin.keeps I.bk
theorem Inv.nolimit(I:Inv X pins σ H s):s.heap.NoLimit:=I.ok.mod.nolimit.keeps I.bk
theorem Inv.lt(I:Inv X pins σ H s):X.env.locals<s.heap.objs.size:=let ⟨_,hn,_⟩:=I.loc;hn.lt
theorem Inv.sz(I:Inv X pins σ H s):X.s₀.heap.objs.size<=s.heap.objs.size:=aD I.ok.above (gq I.lt)
theorem Inv.nofs(I:Inv X pins σ H s)(h:s.heap.objs.size<=a):a ∉ X.fs:=fun hb=>by
 obtain⟨_,o,ho,_⟩:=I.ok.funs.mem hb;exact absurd (aC (PC ho) (aD I.sz h)) (ca _)
theorem Inv.cne(I:Inv X pins σ H s):∀ x c,X.env.cells.lookup x=some c->c≠X.env.locals:=fun x c e z=>by
 obtain⟨v,o,ho,hd⟩:=I.cell x c e;obtain⟨m,⟨o',es,ep,ho',hd',_⟩,_⟩:=I.loc;rw[z,ho'] at ho;cases ho;rw[hd'] at hd;cases hd
theorem Inv.funs(I:Inv X pins σ H s):s.heap.FunFrames X.base X.outer:=by
 have all:∀(l:List Env),(∀ b∈B8 l,b∈X.fs)->X.s₀.heap.FunFrames X.base l->s.heap.FunFrames X.base l:=by
  intro l;induction l with
  | nil=>intro _ _;trivial
  | cons env r ih =>
   intro hs hl;obtain⟨hk,⟨L,o,hf,hn,ho,hd⟩,hr⟩:=hl;have hL:L∈X.fs:=hs L (by unfold B8;rw[dw,hf];exact aG);obtain⟨sl,e⟩:=I.base.slot L o ho (I.ok.frf L hL) hL fun z=>I.ok.exfs L z hL;exact⟨hk,⟨L,_,hf,hn,e,hd⟩,ih (fun b hb=>hs b (by unfold B8;rw[dw,hf];exact aA _ hb)) hr⟩
 exact all X.outer (fun _ hb=>hb) I.ok.funs
theorem Inv.stack(I:Inv X pins σ H s):s.heap.FunFrames X.base X.stack:=by
 rcases I.ok.stk with e|⟨e,hf⟩
 ·rw[e];exact I.funs
 ·rw[e];obtain⟨m,hn,_⟩:=I.loc;refine .cons (by rw[I.ok.kind];decide) hf hn ?_ I.funs;exact Heap.get?_none_of_le (aD I.ok.bsz I.ok.above)
theorem Inv.stkSub(I:Inv X pins σ H s):∀ b∈B8 X.stack,b∈X.env.locals::X.fs:=fun b hb=>by
 rcases I.ok.stk with e|⟨e,hf⟩
 ·rw[e] at hb;exact aA _ hb
 ·rw[e] at hb;unfold B8 at hb;rw[dw,hf] at hb;exact hb
theorem Inv.stkFree(I:Inv X pins σ H s):∀ b∈B8 X.stack,H b=none:=fun b hb=>by
 rcases av.mp (I.stkSub b hb) with e|hb
 ·rw[e];exact I.free
 ·obtain⟨_,o,ho,_⟩:=I.ok.funs.mem hb;exact I.base.free b o ho (I.ok.frf b hb) fun z=>I.ok.exfs b z hb
theorem Inv.step{t':Nat}{d':Drawn}{ch:List Py}(I:Inv X pins σ H s)
  (hch:∀ b∈ch,(b∈X.ex\/X.s₀.heap.objs.size<=b)/\b≠X.env.locals/\(∀ x c,X.env.cells.lookup x=some c->c≠b)/\∀ p∈X.pn++pins,p.1≠b)
  (keep:∀ b o,b≠X.env.locals->b ∉ X.fs->b ∉ ch->s.heap.get? b=some o->H b=none->h'.get? b=some o)
  (slot:∀ b o,b≠X.env.locals->b∈X.fs->b ∉ ch->s.heap.get? b=some o->H b=none->∃ sl,h'.get? b=some { o with slots:=sl }) (free:∀ b o,b ∉ ch->s.heap.get? b=some o->H b=none->H' b=none)
  (there:∀ b o,b ∉ ch->s.heap.get? b=some o->∃ o',h'.get? b=some o')
  (tups:∀ b xs,H b=some (.tup xs)->H' b=some (.tup xs)) (frzs:∀ b o u,H b=some (.frz o u)->H' b=some (.frz o u)) (tbls:∀ b ps,H b=some (.tbl ps)->∃ more,H' b=some (.tbl (ps++more)))
  (ns:∀ m,s.heap.Ns X.env.locals m->h'.Ns X.env.locals m) (hok:HOk X.prog X.w H' h') (hg:AllBare g') :
  Inv X pins σ H' { s with heap:=h',gens:=g',drawn:=d',toks:=t' }:=by
 have neL:∀ b o,X.s₀.heap.get? b=some o->b≠X.env.locals:=fun b o e=>bt (aC (PC e) I.ok.above);have neC:∀ b o,X.s₀.heap.get? b=some o->b ∉ X.ex->b ∉ ch:=fun b o e hx hb=>by
  rcases (hch b hb).1 with z|z
  ·exact hx z
  ·exact absurd (aC (PC e) z) (ca _)
 have cellK:∀ x c,X.env.cells.lookup x=some c->∀ v,s.heap.IsCell c v->h'.IsCell c v:=fun x c e v ⟨o,ho,hd⟩=>by
  have nch:c ∉ ch:=fun z=>(hch c z).2.2.1 x c e rfl;by_cases hc:c∈X.fs
  ·obtain⟨sl,q⟩:=slot c o (I.cne x c e) hc nch ho (I.freeC x c e);exact⟨_,q,hd⟩
  ·exact⟨o,keep c o (I.cne x c e) hc nch ho (I.freeC x c e),hd⟩
 refine⟨I.ok,I.os,hg,⟨fun b o e n hb hx=>?_,fun b o e n hb hx=>?_,fun b o e n hx=>?_,fun b o e hx=>?_,fun b xs e=>tups b xs (I.base.tups b xs e),fun b o xs e=>frzs b o xs (I.base.frzs b o xs e),fun b ps e=>?_⟩,?_,fun x c e=>?_,?_,fun x c e=>?_,fun p hp=>?_,hok,I.len⟩
 ·exact keep b o (neL b o e) hb (neC b o e hx) (I.base.keep b o e n hb hx) (I.base.free b o e n hx)
 ·obtain⟨sl,e1⟩:=I.base.slot b o e n hb hx;obtain⟨sl',e2⟩:=slot b _ (neL b o e) hb (neC b o e hx) e1 (I.base.free b o e n hx);exact⟨sl',e2⟩
 ·obtain⟨o',e1⟩:=I.base.there b o e hx;exact free b o' (neC b o e hx) e1 (I.base.free b o e n hx)
 ·obtain⟨o',e1⟩:=I.base.there b o e hx;exact there b o' (neC b o e hx) e1
 ·obtain⟨m1,e1⟩:=I.base.tbls b ps e;obtain⟨m2,e2⟩:=tbls b _ e1;exact⟨m1++m2,by rw[e2,Array.append_assoc]⟩
 ·obtain⟨m,hn,hl⟩:=I.loc;refine⟨m,ns m hn,fun i x v e1 e2 e3=>?_⟩;obtain⟨u,r,l⟩:=hl i x v e1 e2 e3;refine⟨u,r,?_⟩;rcases l with l|⟨k,c,e,z⟩
  ·exact .inl l
  ·exact .inr ⟨k,c,e,cellK x c e _ z⟩
 ·obtain⟨v,z⟩:=I.cell x c e;exact⟨v,cellK x c e v z⟩
 ·obtain⟨m,⟨o,_,_,ho,_⟩,_⟩:=I.loc;exact free _ o (fun z=>(hch _ z).2.1 rfl) ho I.free
 ·obtain⟨v,o,ho,hd⟩:=I.cell x c e;exact free c o (fun z=>(hch c z).2.2.1 x c e rfl) ho (I.freeC x c e)
 ·obtain⟨e,n,ne,nf,d⟩:=I.pin p hp;have nch:p.1 ∉ ch:=fun z=>(hch p.1 z).2.2.2 p hp rfl;exact⟨keep p.1 p.2 ne nf nch e n,free p.1 p.2 nch e n,ne,nf,d⟩
theorem Inv.un(I:Inv X pins σ H s)(u:Un X.fs [] H H' s.heap h')(hok:HOk X.prog X.w H' h'):Inv X pins σ H' { s with heap:=h',toks:=t' }:=by
 obtain⟨m,⟨o,es,ep,ho,r⟩,_⟩:=id I.loc;obtain⟨sl,hL⟩:=u.any ho I.free (by simp);exact I.step (g':=s.gens) (d':=s.drawn) (ch:=[]) (fun _ z=>nomatch z) (fun b o _ hb _ e n=>u.keep b o e n hb (by simp)) (fun b o _ hb _ e n=>u.slot b o e n hb (by simp)) (fun b o _ e n=>u.free b o e n (by simp)) (fun b o _ e=>u.there b o e (by simp)) u.tups u.frzs u.tbls (fun m' hm=>by
  obtain⟨o',es',ep',ho',r'⟩:=hm;rw[ho] at ho';cases ho';exact⟨_,es',ep',hL,r'⟩) hok I.bare
theorem Inv.call{t':Nat}{d':Drawn}{ch:List Py}(I:Inv X pins σ H s)(u:Un (B8 X.stack) ch H H' s.heap h')(hok:HOk X.prog X.w H' h')(hg:AllBare g')
  (hch:∀ b∈ch,(b∈X.ex\/X.s₀.heap.objs.size<=b)/\b≠X.env.locals/\(∀ x c,X.env.cells.lookup x=some c->c≠b)/\∀ p∈X.pn++pins,p.1≠b) :
  Inv X pins σ H' { s with heap:=h',gens:=g',drawn:=d',toks:=t' }:=by
 obtain⟨m,⟨o,es,ep,ho,r⟩,_⟩:=id I.loc;obtain⟨sl,hL⟩:=u.any ho I.free fun z=>(hch _ z).2.1 rfl;exact I.step (ch:=ch) hch (fun b o hL hb hc e n=>u.keep b o e n (fun z=>(av.mp (I.stkSub b z)).elim hL hb) hc) (fun b o _ _ hc e n=>u.any e n hc) (fun b o hc e n=>u.free b o e n hc) (fun b o hc e=>u.there b o e hc) u.tups u.frzs u.tbls (fun m' hm=>by
  obtain⟨o',es',ep',ho',r'⟩:=hm;rw[ho] at ho';cases ho';exact⟨_,es',ep',hL,r'⟩) hok hg
theorem Inv.turned{t':Nat}(I:Inv X pins σ H s)(k:∀ b o,b≠it->s.heap.get? b=some o->h'.get? b=some o)(hn:H it=none)(hL:it≠X.env.locals)
  (h1:it∈X.ex\/X.s₀.heap.objs.size<=it) (h2:∀ x c,X.env.cells.lookup x=some c->c≠it) (h3:∀ p∈X.pn++pins,p.1≠it):Inv X pins σ H { s with heap:=h',toks:=t' }:=by
 have nit:∀ b u,H b=some u->b≠it:=fun b u e z=>by rw[z,hn] at e;cases e
 refine I.step (g':=s.gens) (d':=s.drawn) (ch:=[it]) (fun b hb=>?_) (fun b o _ _ hc e _=>k b o (fun z=>hc (by simp[z])) e) (fun b o _ _ hc e _=>⟨o.slots,k b o (fun z=>hc (by simp[z])) e⟩) (fun _ _ _ _ n=>n)
  (fun b o hc e=>⟨o,k b o (fun z=>hc (by simp[z])) e⟩) (fun _ _ e=>e) (fun _ _ _ e=>e) (fun b ps e=>⟨#[],by rw[e];simp⟩) (fun m hm=>?_) (fun b u e=>?_) I.bare
 ·have e:b=it:=by simpa using hb
  subst e;exact⟨h1,hL,h2,h3⟩
 ·obtain⟨o,es,ep,ho,r⟩:=hm;exact⟨o,es,ep,k _ o (Ne.symm hL) ho,r⟩
 ·refine (I.hok b u e).stay (fun c v hc q=>k c v ?_ q) (fun _ q=>q) fun _ _ q=>q;rcases hc with z|z
  ·rw[z];exact nit b u e
  ·exact nit c _ z
theorem Inv.tok(I:Inv X pins σ H s)(t:Nat):Inv X pins σ H { s with toks:=t }:=I.un (h':=s.heap) (t':=t) Un.refl I.hok
theorem Inv.kept(I:Inv X pins σ H s)(k:∀ b u,s.heap.get? b=some u->h'.get? b=some u):Inv X pins σ H { s with heap:=h',toks:=t' }:=I.un (Un.kept k) (I.hok.kept k)
theorem Inv.laid(I:Inv X pins σ H s)(k:∀ b u,s.heap.get? b=some u->h'.get? b=some u)(hp:s.heap.objs.size<=a)(new:ObjOk X.prog X.w (uH H a o) h' a o) :
  Inv X pins σ (uH H a o) { s with heap:=h',toks:=t' }:=I.un (Un.laid k hp (I.hok.fresh hp)) (I.hok.laid k hp new)
theorem Inv.write(I:Inv X pins σ H s)(mu:NB (H x))(he:e=x\/H e=some (.own x))(k:∀ b u,b≠e->s.heap.get? b=some u->h'.get? b=some u)(heo:∃ u,h'.get? e=some u)
  (new:ObjOk X.prog X.w (uH H x o) h' x o):Inv X pins σ (uH H x o) { s with heap:=h',toks:=t' }:=I.un (Un.write mu he k heo) (I.hok.write mu he k heo new)
theorem Inv.pins_of(I:Inv X pins σ H s)(h:∀ p∈pins',s.heap.get? p.1=some p.2/\H p.1=none/\p.1≠X.env.locals/\p.1 ∉ X.fs/\∀ v,p.2.data ≠ .cell v):Inv X pins' σ H s :=
 ⟨I.ok,I.os,I.bare,I.base,I.loc,I.cell,I.free,I.freeC,fun p hp=>(bS.mp hp).elim (fun z=>I.pin p (ir _ z)) (h p),I.hok,I.len⟩
theorem BE{N:List PR}(hN:N.Nodup){i j:Nat}{x:PR}(a:N[i]? = some x)(b:N[j]? = some x):i=j:=by
 obtain⟨h1,e1⟩:=aj.mp a;obtain⟨h2,e2⟩:=aj.mp b;exact (List.getElem_inj hN).mp (e1.trans e2.symm)
theorem zy{M:Model}{A:Qi}{E:Pt->Px->Prop}{i:Nat}{x:PR}{v:V}{u:Pt}{Q:Unit->Px->Prop}(I:Inv X pins σ H s)(hN:X.N.Nodup)(hi:X.N[i]? = some x)(hx:En X.env.scope x)(r:RelV v u)
  (h:∀ s',Inv X pins (σ.set i (some v)) H s'->(∃ a,Heap.SameBut a s.heap s'.heap/\(a=X.env.locals\/X.env.cells.lookup x=some a))->Q () s') (hf:X.fn x=true\/X.env.scope.names.lookup x=some .local:=by first|exact .inl rfl|exact .inr rfl|assumption):PH M A (storeName X.env x u) Q E s:=by
 obtain⟨m,hn,hl⟩:=id I.loc;have hcls:(X.env.scope.kind == .class || (X.env.scope.kind == .module && X.env.locals != X.env.globals))=false:=by rw[I.ok.kind];rfl
 have hiσ:i<σ.length:=by rw[I.len];exact (aj.mp hi).1
 have cne:=I.cne;have tracked:∀{a:Py} {h':Qb},(∃ o,s.heap.get? a=some o/\H a=none)->Heap.SameBut a s.heap h'->HOk X.prog X.w H h':=fun {a h'} ha hs b ob e=>by
  obtain⟨_,_,hfree⟩:=ha;refine (I.hok b ob e).stay (fun c w' hc q=>(hs.2 c ?_).trans q) (fun _ q=>q) fun _ _ q=>q;rintro rfl;rcases hc with rfl|hc
  ·rw[hfree] at e;cases e
  ·rw[hfree] at hc;cases hc
 rcases hx with hk|hk
 ·refine wpAny_storeName_local hk hn (fun h' hn' hs=>?_) hcls;obtain⟨oL,_,_,hoL,_⟩:=id hn;refine h _ ⟨I.ok,I.os,I.bare,⟨fun b o e n hb hx=>?_,fun b o e n hb hx=>?_,I.base.free,fun b o e hx=>?_,I.base.tups,I.base.frzs,I.base.tbls⟩,⟨_,hn',fun j y v' e1 e2 e3=>?_⟩,fun y c e=>?_,I.free,I.freeC,fun p hp=>?_,tracked ⟨oL,hoL,I.free⟩ hs,by simpa using I.len⟩ ⟨_,hs,.inl rfl⟩
  ·exact (hs.2 b (bt (aC (PC e) I.ok.above))).trans (I.base.keep b o e n hb hx)
  ·obtain⟨sl,e1⟩:=I.base.slot b o e n hb hx;exact⟨sl,(hs.2 b (bt (aC (PC e) I.ok.above))).trans e1⟩
  ·obtain⟨o',e1⟩:=I.base.there b o e hx;exact⟨o',(hs.2 b (bt (aC (PC e) I.ok.above))).trans e1⟩
  ·by_cases hj:j=i
   ·subst hj;rw[hi] at e1;cases e1;rw[ff hiσ] at e2;cases e2;exact⟨u,r,.inl ⟨hk,by simp⟩⟩
   ·rw[aL (Ne.symm hj)] at e2;obtain⟨u',r',q⟩:=hl j y v' e1 e2 e3;refine⟨u',r',?_⟩;rcases q with⟨k,e⟩|⟨k,c,e,z⟩
    ·refine .inl ⟨k,?_⟩;have:y≠x:=fun e=>hj (BE hN e1 (e ▸ hi));simp[this,e]
    ·exact .inr ⟨k,c,e,z.sameBut hs (cne y c e)⟩
  ·obtain⟨w',z⟩:=I.cell y c e;exact⟨w',z.sameBut hs (cne y c e)⟩
  ·obtain⟨e,n,ne,nf,d⟩:=I.pin p hp;exact⟨(hs.2 p.1 ne).trans e,n,ne,nf,d⟩
 ·have hfn:X.fn x=true:=by
   rcases hf with z|z
   ·exact z
   ·rw[z] at hk;cases hk
  obtain⟨c,hc⟩:=I.ok.has x (.inl hk);obtain⟨w',z⟩:=I.cell x c hc;refine wpAny_storeName_cell I.ok.kind hk hc z (fun h' hc' hs=>?_);obtain⟨oc,hoc,hocd⟩:=id z;refine h { s with heap:=h' } ⟨I.ok,I.os,I.bare,⟨fun b o e n hb hx=>?_,fun b o e n hb hx=>?_,I.base.free,fun b o e hx=>?_,I.base.tups,I.base.frzs,I.base.tbls⟩,⟨m,hn.sameBut hs (Ne.symm (cne x c hc)),fun j y v' e1 e2 e3=>?_⟩,fun y c' e=>?_,I.free,I.freeC,fun p hp=>?_,tracked ⟨oc,hoc,I.freeC x c hc⟩ hs,by simpa using I.len⟩ ⟨c,hs,.inr hc⟩
  ·exact (hs.2 b (bt (aC (PC e) (I.ok.cab x c hfn hc)))).trans (I.base.keep b o e n hb hx)
  ·obtain⟨sl,e1⟩:=I.base.slot b o e n hb hx;exact⟨sl,(hs.2 b (bt (aC (PC e) (I.ok.cab x c hfn hc)))).trans e1⟩
  ·obtain⟨o',e1⟩:=I.base.there b o e hx;exact⟨o',(hs.2 b (bt (aC (PC e) (I.ok.cab x c hfn hc)))).trans e1⟩
  ·by_cases hj:j=i
   ·subst hj;rw[hi] at e1;cases e1;rw[ff hiσ] at e2;cases e2;exact⟨u,r,.inr ⟨.inl hk,c,hc,hc'⟩⟩
   ·rw[aL (Ne.symm hj)] at e2;obtain⟨u',r',q⟩:=hl j y v' e1 e2 e3;refine⟨u',r',?_⟩;rcases q with q|⟨k,c',e,z'⟩
    ·exact .inl q
    ·refine .inr ⟨k,c',e,z'.sameBut hs ?_⟩;rintro rfl;exact hj (BE hN e1 (I.ok.inj _ _ _ e hc ▸ hi))
  ·by_cases hcc:c'=c
   ·subst hcc;exact⟨_,hc'⟩
   ·obtain⟨w2,z2⟩:=I.cell y c' e;exact⟨w2,z2.sameBut hs hcc⟩
  ·obtain⟨e,n,ne,nf,d⟩:=I.pin p hp;refine⟨(hs.2 p.1 ?_).trans e,n,ne,nf,d⟩;intro q;rw[q,hoc] at e;have q':oc=p.2:=PP e;exact d w' (by rw[← q'];exact hocd)
theorem vP(I:Inv X pins σ H s)(hN:X.N.Nodup)(hi:X.N[i]? = some x)(hx:En X.env.scope x)(r:RelV v u)
  (h:∀ s',Inv X pins (σ.set i (some v)) H s'->Q () s') (hf:X.fn x=true\/X.env.scope.names.lookup x=some .local:=by first|exact .inl rfl|exact .inr rfl|assumption):PH M A (storeName X.env x u) Q E s :=
 zy I hN hi hx r (fun s' I' _=>h s' I') hf
theorem Inv.call'(I:Inv X pins σ H s)(ho:s'.os=s.os)(u:Un (B8 X.stack) ch H H' s.heap s'.heap)(hok:HOk X.prog X.w H' s'.heap)(hg:AllBare s'.gens)
  (hch:∀ b∈ch,(b∈X.ex\/X.s₀.heap.objs.size<=b)/\b≠X.env.locals/\(∀ x c,X.env.cells.lookup x=some c->c≠b)/\∀ p∈X.pn++pins,p.1≠b):Inv X pins σ H' s':=by
 obtain⟨h',g',d',t',o'⟩:=s';have e:o'=s.os:=ho;subst e;exact I.call (g':=g') (t':=t') (d':=d') u hok hg hch
end
abbrev XK:=Value->Option Addr->Hp->Prop
abbrev St:=List (Option V)
abbrev VK:=V->Hp->Prop
abbrev TE:=St->Hp->VK->Prop
abbrev TT:=St->Hp->(Bool->Hp->Prop)->Prop
abbrev TA:=St->Hp->(List V->Hp->Prop)->Prop
structure Ends where
 nx:St->Hp->Prop
 rt:VK
 bk:St->Hp->Prop:=fun _ _=>False
 ct:St->Hp->Prop:=fun _ _=>False
abbrev TS:=Ends->St->Hp->Prop
def EP(X:Cx)(pins:List (Addr×Obj))(σ:St)(Q:VK)(u:Value)(s':Shared):Prop:=∃ v H',Inv X pins σ H' s'/\RelV v u/\Q v H'
def TP(X:Cx)(pins:List (Addr×Obj))(σ:St)(Q:Bool->Hp->Prop)(b:Bool)(s':Shared):Prop:=∃ H',Inv X pins σ H' s'/\Q b H'
def AP(X:Cx)(pins:List (Addr×Obj))(σ:St)(Q:List V->Hp->Prop)(us:List Value)(s':Shared):Prop:=∃ vs H',Inv X pins σ H' s'/\Vals vs us/\Q vs H'
def SP(X:Cx)(pins:List (Addr×Obj))(D:Ends)(f:Flow)(s':Shared):Prop :=
 match f with
 | .next=>∃ σ' H',Inv X pins σ' H' s'/\D.nx σ' H'
 | .brk=>∃ σ' H',Inv X pins σ' H' s'/\D.bk σ' H'
 | .cont=>∃ σ' H',Inv X pins σ' H' s'/\D.ct σ' H'
 | .ret u=>∃ v σ' H',Inv X pins σ' H' s'/\RelV v u/\D.rt v H'
def PE(X:Cx)(e:Expr)(t:TE):Prop :=
 ∀(pins:List (Addr×Obj)) (s:Shared) (σ:St) (H:Hp) (Q:VK),Inv X pins σ H s->t σ H Q->wpAny (model X.prog X.w) X.A (eval e X.env) (EP X pins σ Q) X.xe s
def PT(X:Cx)(e:Expr)(t:TT):Prop :=
 ∀(pins:List (Addr×Obj)) (s:Shared) (σ:St) (H:Hp) (Q:Bool->Hp->Prop),Inv X pins σ H s->t σ H Q->wpAny (model X.prog X.w) X.A (isTrue e X.env (eval e X.env)) (TP X pins σ Q) X.xe s
def PW(X:Cx)(e:Expr)(t:TT):Prop :=
 ∀(whole:Sem Value) (pins:List (Addr×Obj)) (s:Shared) (σ:St) (H:Hp) (Q:Bool->Hp->Prop),Inv X pins σ H s->t σ H Q->wpAny (model X.prog X.w) X.A (isTrue e X.env whole) (TP X pins σ Q) X.xe s
theorem PW.pt(h:PW X e t):PT X e t:=h _
def PA(X:Cx)(es:List Expr)(t:TA):Prop :=
 ∀(pos:Pos) (pins:List (Addr×Obj)) (s:Shared) (σ:St) (H:Hp) (Q:List V->Hp->Prop),Inv X pins σ H s->t σ H Q->wpAny (model X.prog X.w) X.A (spliced (backTo pos (starEach es X.env))) (AP X pins σ Q) X.xe s
def PS(X:Cx)(st:Stmt)(t:TS):Prop :=
 ∀(pins:List (Addr×Obj)) (s:Shared) (σ:St) (H:Hp) (D:Ends),Inv X pins σ H s->t D σ H->wpAny (model X.prog X.w) X.A (exec st X.env) (SP X pins D) X.xe s
def PSs(X:Cx)(st:List Stmt)(t:TS):Prop :=
 ∀(pins:List (Addr×Obj)) (s:Shared) (σ:St) (H:Hp) (D:Ends),Inv X pins σ H s->t D σ H->wpAny (model X.prog X.w) X.A (execs st X.env) (SP X pins D) X.xe s
theorem uA{α:Type}{t:Sem α}{Q Q':α->Px->Prop}{M:Model}{A:Qi}{E:Pt->Px->Prop}{s:Px}(h:PH M A t Q E s)(hQ:∀ a s,Q a s->Q' a s):PH M A t Q' E s:=wpAny_mono h hQ fun _ _ x=>x
section
variable{X:Cx}
def wV(i:Nat):TE:=fun σ H Q=>∃ v,σ[i]? = some (some v)/\Q v H
def tC(v:V):TE:=fun _ H Q=>Q v H
theorem Cp(hN:X.N[i]? = some x)(hv:JR X.env.scope x)(hd:(x == ("__debug__" : PR))=false:=by decide)(hcd:(x == ("__classdict__" : PR))=false:=by decide):PE X (.Name x pos) (wV i):=by
 intro pins s σ H Q I h;obtain⟨v,e,h⟩:=h;obtain⟨m,hn,hl⟩:=I.loc;obtain⟨u,r,l⟩:=hl i x v hN e hv;have fin:EP X pins σ Q u s:=⟨v,H,I,r,h⟩;rcases l with⟨hk,hm⟩|⟨hk,c,hc,hcell⟩
 ·exact wpAny_Name (wpAny_loadName_local I.ok.kind hk hn hm fin) hd
 ·rcases hk with hk|hk
  ·exact wpAny_Name (wpAny_loadName_cell I.ok.kind hk hc hcell fin) hd
  ·exact wpAny_Name (wpAny_loadName_free I.ok.kind hk hc hcell fin hcd) hd
theorem um:PE X (.Constant (.int i) j pos) (tC (.int i)):=fun _ _ _ H _ I h=>wpAny_Constant_int ⟨.int i,H,I.tok _,⟨_,rfl⟩,h⟩
theorem ME:PE X (.Constant (.bool b) j pos) (tC (.bl b)):=fun _ _ _ H _ I h=>Constant_bool ⟨.bl b,H,I,rfl,h⟩
theorem KF:PE X (.Constant .none j pos) (tC .non):=fun _ _ _ H _ I h=>Constant_none ⟨.non,H,I,rfl,h⟩
theorem KC:PE X (.Constant (.str x) j pos) (tC (.str x)):=fun _ _ _ H _ I h=>Calls.Constant_str ⟨.str x,H,I.tok _,⟨_,rfl⟩,h⟩
def Gl(X:Cx)(x:Str):Prop:=X.env.kindOf x=some .globalImplicit
theorem DU(I:Inv X pins σ H s)(hg:Gl X x)(hm:X.mg x=some u)(h:Q u s)
  (hd:(x == ("__debug__" : PR))=false:=by decide):PH (model X.prog X.w) X.A (eval (.Name x pos) X.env) Q E s :=
 Calls.Name_function_global I.ok.kind hg (Calls.loadGlobal_global (by rw[I.ok.glob];exact I.mod.glob.keeps I.bk) hm h) hd
theorem wL(I:Inv X pins σ H s)(hg:Gl X x)(hm:X.mg x=none)(hv:P0 x=some u)(h:Q u s)
  (hn:x ≠ "__name__" := by decide) (hd:(x == ("__debug__" : PR))=false:=by decide):PH (model X.prog X.w) X.A (eval (.Name x pos) X.env) Q E s:=by
 obtain⟨mb,h1,h2⟩:=I.mod.blt;exact Calls.Name_function_global I.ok.kind hg (Calls.loadGlobal_builtin (by rw[I.ok.glob];exact I.mod.glob.keeps I.bk) hm (by rw[I.ok.blt];exact h1.keeps I.bk) ((h2 x hn).trans hv) h) hd
theorem DH(hg:Gl X x)(hm:X.mg x=some u)(r:RelV v u)(hd:(x == ("__debug__" : PR))=false:=by decide):PE X (.Name x pos) (tC v) :=
 fun _ _ _ H _ I h=>DU I hg hm ⟨v,H,I,r,h⟩ hd
def Pb(ta tb:TE)(k:Int->Int->Hp->Prop):St->Hp->Prop:=fun σ H=>ta σ H fun x H1=>tb σ H1 fun y H2=>∃ i j,x = .int i/\y = .int j/\k i j H2
variable{a b:Expr}{ta tb:TE}{pos:Pos}
def O9(p:Int->Int->Bool)(ta tb:TE):TE:=fun σ H Q=>Pb ta tb (fun i j H2=>Q (.bl (p i j)) H2) σ H
variable{tA tB':TT}{rest:List Expr}
def Mc(t u:TT):TT:=fun σ H Q=>t σ H fun c H1=>if c=true then u σ H1 Q else Q false H1
def OJ(t u:TT):TT:=fun σ H Q=>t σ H fun c H1=>if c=true then Q true H1 else u σ H1 Q
def NN(t:TT):TT:=fun σ H Q=>t σ H fun c H1=>Q (!c) H1
theorem Dz(ha:PT X a tA):PW X (.BoolOp .And [a] pos) tA:=by
 intro wh pins s σ H Q I h;refine isTrue_and (uA (ha pins s σ H Q I h) fun c s1 e=>?_);cases c with
 | true=>exact isTrue_and_nil e
 | false=>exact e
theorem Kt(ha:PT X a tA):PW X (.BoolOp .Or [a] pos) tA:=by
 intro wh pins s σ H Q I h;refine isTrue_or (uA (ha pins s σ H Q I h) fun c s1 e=>?_);cases c with
 | false=>exact isTrue_or_nil e
 | true=>exact e
theorem FP(ha:PT X a tA)(hb:PW X (.BoolOp .And (b::rest) pos) tB'):PW X (.BoolOp .And (a::b::rest) pos) (Mc tA tB'):=by
 intro wh pins s σ H Q I h;refine isTrue_and (uA (ha pins s σ H _ I h) fun c s1 ⟨H1,I1,q1⟩=>?_);cases c with
 | true=>exact hb wh pins s1 σ H1 Q I1 q1
 | false=>exact⟨H1,I1,q1⟩
theorem MA(ha:PT X a tA)(hb:PW X (.BoolOp .Or (b::rest) pos) tB'):PW X (.BoolOp .Or (a::b::rest) pos) (OJ tA tB'):=by
 intro wh pins s σ H Q I h;refine isTrue_or (uA (ha pins s σ H _ I h) fun c s1 ⟨H1,I1,q1⟩=>?_);cases c with
 | true=>exact⟨H1,I1,q1⟩
 | false=>exact hb wh pins s1 σ H1 Q I1 q1
theorem Kw(ha:PT X a tA):PT X (.UnaryOp .Not a pos) (NN tA):=by
 intro pins s σ H Q I h;exact isTrue_not (ha pins s σ H (fun c H1=>Q (!c) H1) I h)
def Mb(ta tb:TE):TE:=fun σ H Q=>ta σ H fun x H1=>∃ c,x = .bl c/\if c=true then tb σ H1 Q else Q (.bl false) H1
def NM(ta tb:TE):TE:=fun σ H Q=>ta σ H fun x H1=>∃ c,x = .bl c/\if c=true then Q (.bl true) H1 else tb σ H1 Q
def L7(ta:TE):TE:=fun σ H Q=>ta σ H fun x H1=>∃ c,x = .bl c/\Q (.bl (!c)) H1
theorem KD(h:PE X a t):PE X (.BoolOp op [a] pos) t:=fun pins s σ H Q I hw=>BoolOp_one (h pins s σ H Q I hw)
theorem KH(ha:PE X a ta)(hb:PE X (.BoolOp .And (b::rest) pos) tb):PE X (.BoolOp .And (a::b::rest) pos) (Mb ta tb):=by
 intro pins s σ H Q I h;refine BoolOp_and (uA (ha pins s σ H _ I h) fun v s1 ⟨x,H1,I1,r1,q1⟩=>?_);obtain⟨c,rfl,q1⟩:=q1;cases r1;refine P9 ?_;cases c with
 | true=>exact hb pins s1 σ H1 Q I1 q1
 | false=>exact⟨.bl false,H1,I1,rfl,q1⟩
theorem MC(ha:PE X a ta)(hb:PE X (.BoolOp .Or (b::rest) pos) tb):PE X (.BoolOp .Or (a::b::rest) pos) (NM ta tb):=by
 intro pins s σ H Q I h;refine BoolOp_or (uA (ha pins s σ H _ I h) fun v s1 ⟨x,H1,I1,r1,q1⟩=>?_);obtain⟨c,rfl,q1⟩:=q1;cases r1;refine P9 ?_;cases c with
 | false=>exact hb pins s1 σ H1 Q I1 q1
 | true=>exact⟨.bl true,H1,I1,rfl,q1⟩
theorem KE(ha:PE X a ta):PE X (.UnaryOp .Not a pos) (L7 ta):=by
 intro pins s σ H Q I h;refine UnaryOp_ (uA (ha pins s σ H _ I h) fun v s1 ⟨x,H1,I1,r1,q1⟩=>?_);obtain⟨c,rfl,q1⟩:=q1;cases r1;exact not_of (P9 ⟨.bl (!c),H1,I1,rfl,q1⟩)
def O8(t:TT)(ta tb:TE):TE:=fun σ H Q=>t σ H fun c H1=>if c=true then ta σ H1 Q else tb σ H1 Q
theorem F3(hc:PT X c tA)(ha:PE X a ta)(hb:PE X b tb):PE X (.IfExp c a b pos) (O8 tA ta tb):=by
 intro pins s σ H Q I h;refine wpAny_IfExp (uA (hc pins s σ H _ I h) fun d s1 ⟨H1,I1,q1⟩=>?_);cases d with
 | true=>exact ha pins s1 σ H1 Q I1 q1
 | false=>exact hb pins s1 σ H1 Q I1 q1
end
def SqL(K:Frag)(H:Hp)(a:Addr)(xs:List V):Prop :=
 Rd H a (.lst xs) \/
  ∃(o:Obj) (its:Array Value) (n:Nat),K.lookup a=some o/\o.cls = .type "list" /\ o.dict=none/\o.data = .seq its n/\its.size<=sizeLine/\Vals xs its.toList
def SqT(K:Frag)(H:Hp)(a:Addr)(xs:List V):Prop :=
 Rd H a (.tup xs) \/
  ∃(o:Obj) (its:Array Value) (n:Nat),K.lookup a=some o/\o.cls = .type "tuple" /\ o.data = .seq its n/\its.size<=sizeLine/\Vals xs its.toList
def Ow:Value->Option V
 | .none=>some .non
 | .bool b=>some (.bl b)
 | .int i _=>some (.int i)
 | .str x _=>some (.str x)
 | .bytes b _=>some (.byt b)
 | .float b _=>some (.flt b)
 | .ref a=>some (.ref a)
 | .type n=>some (.ty n)
 | _=>none
theorem RelV.abs(r:RelV x u):Ow u=some x:=by
 cases x with
 | non=>cases r;rfl
 | bl _=>cases r;rfl
 | int _=>obtain⟨t,rfl⟩:=r;rfl
 | str _=>obtain⟨t,rfl⟩:=r;rfl
 | byt _=>obtain⟨t,rfl⟩:=r;rfl
 | flt _=>obtain⟨t,rfl⟩:=r;rfl
 | ref _=>cases r;rfl
 | ty _=>cases r;rfl
theorem RelV.inj(r:RelV x u)(q:RelV y u):x=y:=PP (r.abs.symm.trans q.abs)
theorem Vals.inj:∀{xs ys:List V} {us:List Pt},Vals xs us->Vals ys us->xs=ys
 | _,_,_,.nil,.nil=>rfl
 | _,_,_,.cons r t,.cons r' t'=>by rw[r.inj r',Vals.inj t t']
section
variable{X:Cx}{pins:List (Addr×Obj)}{σ:St}{H:Hp}{s:Shared}{a:Addr}{xs ys:List V}
theorem SqL.of{K:PM}(h:H a=some (.lst xs)):SqL K H a xs:=.inl (.inl h)
theorem SqT.of{K:PM}(h:H a=some (.tup xs)):SqT K H a xs:=.inl (.inl h)
theorem Inv.list(I:Inv X pins σ H s)(h:SqL X.K H a xs):∃ its:List Pt,Vals xs its/\PlainL s.heap a its.toArray/\xs.length<=Pv:=by
 rcases h with h|⟨o,its,n,hk,hc,hd,hs,hz,r⟩
 ·obtain⟨z,its,n,r,e⟩:=h.ok I.hok;exact⟨its,r,⟨_,n,e,rfl,rfl,rfl⟩,z⟩
 ·refine⟨its.toList,r,⟨o,n,I.kIn a o hk,hc,hd,by simpa using hs⟩,?_⟩;have e:=r.length;simp only[fE] at e;lia
theorem Inv.tuple(I:Inv X pins σ H s)(h:SqT X.K H a xs):∃ its:List Pt,Vals xs its/\IsTup s.heap a its.toArray/\xs.length<=Pv:=by
 rcases h with h|⟨o,its,n,hk,hc,hs,hz,r⟩
 ·obtain⟨z,its,r,p⟩:=h.ok I.hok;exact⟨its,r,p,z⟩
 ·refine⟨its.toList,r,⟨o,I.kIn a o hk,hc,n,by simpa using hs⟩,?_⟩;have e:=r.length;simp only[fE] at e;lia
theorem Inv.list_inj(I:Inv X pins σ H s)(h:SqL X.K H a xs)(h':SqL X.K H a ys):xs=ys:=by
 obtain⟨its,r,⟨o,n,e,_,_,d⟩,_⟩:=I.list h;obtain⟨its',r',⟨o',n',e',_,_,d'⟩,_⟩:=I.list h';rw[e] at e';cases e';rw[d] at d';injection d' with d1 _;have:its=its':=by simpa using congrArg Array.toList d1
 subst this;exact r.inj r'
theorem Inv.tuple_inj(I:Inv X pins σ H s)(h:SqT X.K H a xs)(h':SqT X.K H a ys):xs=ys:=by
 obtain⟨its,r,⟨o,e,_,n,d⟩,_⟩:=I.tuple h;obtain⟨its',r',⟨o',e',_,n',d'⟩,_⟩:=I.tuple h';rw[e] at e';cases e';rw[d] at d';injection d' with d1 _;have:its=its':=by simpa using congrArg Array.toList d1
 subst this;exact r.inj r'
end
abbrev Cx.wish(X:Cx)(E:Value->Shared->Prop):Cx:={ X with xe:=E }
abbrev Cx.nox(X:Cx):Cx:=X.wish fun _ _=>False
theorem Cx.Ok.wish{X:Cx}(ok:X.Ok)(E:Pt->Px->Prop):(X.wish E).Ok :=
 ⟨ok.mod,ok.kind,ok.glob,ok.blt,ok.above,ok.inj,ok.has,ok.cab,ok.hd,ok.frames,ok.stk,ok.exf,ok.bs,ok.bsz,ok.noex,ok.exfs,ok.funs,ok.frf,ok.sr,ok.rn⟩
theorem Cx.Ok.unwish{X:Cx}(ok:(X.wish E).Ok):X.Ok :=
 ⟨ok.mod,ok.kind,ok.glob,ok.blt,ok.above,ok.inj,ok.has,ok.cab,ok.hd,ok.frames,ok.stk,ok.exf,ok.bs,ok.bsz,ok.noex,ok.exfs,ok.funs,ok.frf,ok.sr,ok.rn⟩
section
variable{X:Cx}{pins:List (Addr×Obj)}{σ:St}{H:Hp}{s:Shared}{E:Value->Shared->Prop}
theorem Inv.wish(I:Inv X pins σ H s)(E:Pt->Px->Prop):Inv (X.wish E) pins σ H s:=⟨I.ok.wish E,I.os,I.bare,I.base,I.loc,I.cell,I.free,I.freeC,I.pin,I.hok,I.len⟩
theorem Inv.unwish(I:Inv (X.wish E) pins σ H s):Inv X pins σ H s:=⟨I.ok.unwish,I.os,I.bare,I.base,I.loc,I.cell,I.free,I.freeC,I.pin,I.hok,I.len⟩
theorem SP.unwish(h:SP (X.wish E) pins D f s'):SP X pins D f s':=by
 cases f with
 | next=>obtain⟨σ',H',I,q⟩:=h;exact⟨σ',H',I.unwish,q⟩
 | brk=>obtain⟨σ',H',I,q⟩:=h;exact⟨σ',H',I.unwish,q⟩
 | cont=>obtain⟨σ',H',I,q⟩:=h;exact⟨σ',H',I.unwish,q⟩
 | ret u=>obtain⟨v,σ',H',I,r,q⟩:=h;exact⟨v,σ',H',I.unwish,r,q⟩
theorem PSs.nox{st:List PY}{t:TS}(h:PSs X.nox st t):PSs X st t:=fun pins s σ H D I hw =>
 wpAny_mono (h pins s σ H D (I.wish _) hw) (fun _ _ q=>q.unwish) fun _ _ z=>PD z
end
section
variable{X:Cx}{st:Stmt}{rest:List Stmt}{t u:TS}{e:Expr}{te:TE}{pos:Pos}
def Jc:TS:=fun D σ H=>D.nx σ H
def L3(t u:TS):TS:=fun D σ H=>t { D with nx:=u D } σ H
theorem pss_nil:PSs X [] Jc:=fun _ _ σ H _ I h=>wpAny_execs_nil ⟨σ,H,I,h⟩
theorem vb(h1:PS X st t)(h2:PSs X rest u):PSs X (st::rest) (L3 t u):=by
 intro pins s σ H D I h;refine wpAny_execs_cons (uA (h1 pins s σ H { D with nx:=u D } I h) fun f s1 q=>?_);cases f with
 | next =>
  obtain⟨σ',H',I',q⟩:=q;exact h2 pins s1 σ' H' D I' q
 | ret v=>exact q
 | brk=>exact q
 | cont=>exact q
theorem vC(h1:PS X st t):PSs X [st] t:=by
 intro pins s σ H D I h;refine wpAny_execs_cons (uA (h1 pins s σ H D I h) fun f s1 q=>?_);cases f with
 | next=>exact wpAny_execs_nil q
 | ret v=>exact q
 | brk=>exact q
 | cont=>exact q
def J1:TS:=fun D σ H=>D.bk σ H
theorem ps_pass:PS X (.Pass pos) Jc:=fun _ _ σ H _ I h=>wpAny_Pass ⟨σ,H,I,h⟩
theorem ps_break:PS X (.Break pos) J1:=fun _ _ σ H _ I h=>wpAny_Break ⟨σ,H,I,h⟩
theorem Inv.quiet(I:Inv X pins σ H s):interactive X.env=false:=by simp[interactive,I.ok.kind]
def L9(te:TE):TS:=fun D σ H=>te σ H fun _ H1=>D.nx σ H1
theorem DC(he:PE X e te)(hs:swapsWith e none pos.line X.env=pure false:=by rfl):PS X (.Expr e pos) (L9 te):=by
 intro pins s σ H D I h;exact wpAny_Expr_any (uA (he pins s σ H _ I h) fun v s1 ⟨x,H1,I1,r1,q1⟩=>⟨σ,H1,I1,q1⟩) I.quiet hs
def NL(te:TE):TS:=fun D σ H=>te σ H D.rt
theorem Az(he:PE X e te):PS X (.Return (some e) pos) (NL te):=by
 intro pins s σ H D I h;exact wpAny_Return_some (uA (he pins s σ H _ I h) fun v s1 ⟨x,H1,I1,r1,q1⟩=>⟨x,σ,H1,I1,r1,q1⟩)
def L4:TS:=fun D _ H=>D.rt .non H
theorem ps_retN:PS X (.Return none pos) L4:=fun _ _ σ H _ I h=>wpAny_Return_none ⟨.non,σ,H,I,rfl,h⟩
def NP(c:TT)(t u:TS):TS:=fun D σ H=>c σ H fun b H1=>if b=true then t D σ H1 else u D σ H1
theorem DB{c:Expr}{a b:List PY}{tc:TT}(hc:PT X c tc)(ha:PSs X a t)(hb:PSs X b u):PS X (.If c a b pos) (NP tc t u):=by
 intro pins s σ H D I h;refine wpAny_If (uA (hc pins s σ H _ I h) fun d s1 ⟨H1,I1,q1⟩=>?_);cases d with
 | true=>exact ha pins s1 σ H1 D I1 q1
 | false=>exact hb pins s1 σ H1 D I1 q1
end
abbrev TG:=V->St->Hp->(St->Hp->Prop)->Prop
abbrev JS:=List V->St->Hp->(St->Hp->Prop)->Prop
def PG(X:Cx)(target:Expr)(t:TG):Prop :=
 ∀(pins:List (Addr×Obj)) (s:Shared) (σ:St) (H:Hp) (v:V) (u:Value) (Q:St->Hp->Prop),Inv X pins σ H s->RelV v u->t v σ H Q ->
  wpAny (model X.prog X.w) X.A (assign target X.env u) (fun _ s'=>∃ σ' H',Inv X pins σ' H' s'/\Q σ' H') X.xe s
def No(X:Cx)(ts:List Expr)(t:JS):Prop :=
 ∀(pins:List (Addr×Obj)) (s:Shared) (σ:St) (H:Hp) (vs:List V) (us:List Value) (Q:St->Hp->Prop),Inv X pins σ H s->Vals vs us->t vs σ H Q ->
  wpAny (model X.prog X.w) X.A (assignInOrder ((assignEach ts X.env).map (·.2)) us) (fun _ s'=>∃ σ' H',Inv X pins σ' H' s'/\Q σ' H') X.xe s
abbrev Ho:=V->V->V->Hp->(Hp->Prop)->Prop
def LH(X:Cx)(t:Ho):Prop :=
 ∀(pins:List (Addr×Obj)) (s:Shared) (σ:St) (H:Hp) (o i v:V) (ov iv u:Value) (Q:Hp->Prop),Inv X pins σ H s->RelV o ov->RelV i iv->RelV v u->t o i v H Q ->
  wpAny (model X.prog X.w) X.A (setItem ov iv u) (fun _ s'=>∃ H',Inv X pins σ H' s'/\Q H') X.xe s
abbrev LQ:=V->V->Hp->VK->Prop
def Oz(X:Cx)(op:Operator)(t:LQ):Prop :=
 ∀(pins:List (Addr×Obj)) (s:Shared) (σ:St) (H:Hp) (x y:V) (v u:Value) (Q:VK),Inv X pins σ H s->RelV x v->RelV y u->t x y H Q ->
  wpAny (model X.prog X.w) X.A (inplaceOp op v u) (EP X pins σ Q) X.xe s
section
variable{X:Cx}{pos:Pos}
def Aa(i:Nat):TG:=fun v σ H Q=>Q (σ.set i (some v)) H
theorem DG(hN:X.N.Nodup)(hi:X.N[i]? = some x)(hx:En X.env.scope x)(hf:X.fn x=true\/X.env.scope.names.lookup x=some .local:=by first|exact .inl rfl|exact .inr rfl|assumption):PG X (.Name x pos) (Aa i):=by
 intro pins s σ H v u Q I r h;exact wpAny_assign_Name (vP I hN hi hx r (fun s' I'=>⟨_,H,I',h⟩) hf)
def MX:JS:=fun vs σ H Q=>vs=[]/\Q σ H
def JE(t:TG)(u:JS):JS:=fun vs σ H Q=>∃ v r,vs=v::r/\t v σ H fun σ' H'=>u r σ' H' Q
theorem HU:No X [] MX:=by
 intro pins s σ H vs us Q I r h;obtain⟨e,h⟩:=h;subst e;cases r;exact assignInOrder_nil ⟨σ,H,I,h⟩
theorem F1(h1:PG X e t)(h2:No X es u)
  (hs:(assignEach (e::es) X.env).map (·.2)=assign e X.env::(assignEach es X.env).map (·.2):=by rfl):No X (e::es) (JE t u):=by
 intro pins s σ H vs us Q I r h;obtain⟨v,vr,e1,h⟩:=h;subst e1;cases r with
 | cons r rr =>
  rw[hs];refine assignInOrder_cons (uA (h1 pins s σ H _ _ _ I r h) fun _ s1 ⟨σ1,H1,I1,q1⟩=>?_);exact h2 pins s1 σ1 H1 _ _ Q I1 rr q1
def MV(K:Frag)(n:Nat)(t:JS):TG:=fun v σ H Q=>∃ a xs,v = .ref a/\SqT K H a xs/\xs.length=n/\t xs σ H Q
theorem Co(hc:X.calm=true)(h:No X es t)
  (hn:(assignEach es X.env).length=n:=by rfl) (hst:(assignEach es X.env).findIdx? (·.1)=none:=by rfl):PG X (.Tuple es k pos) (MV X.K n t):=by
 intro pins s σ H v u Q I r hw;obtain⟨a,xs,e1,hq,hl,hw⟩:=hw;subst e1;cases r;obtain⟨its,rv,ht,hz⟩:=I.tuple hq;refine assign_Tuple_tuple (I.ok.hd hc) ht (by simp[hn,← hl,rv.length]) hst fun h' hx=>?_;have I1:Inv X pins σ H { s with heap:=h' }:=I.kept (t':=s.toks) fun b o e=>hx b o (bt (PC e)) e;exact h pins _ σ H xs _ Q I1 (by simpa using rv) hw
def MW(to ti:TE)(t:Ho):TG:=fun v σ H Q=>to σ H fun o H1=>ti σ H1 fun i H2=>t o i v H2 fun H3=>Q σ H3
theorem wJ{o i:Expr}{to ti:TE}{t:Ho}(ho:PE X o to)(hi:PE X i ti)(hs:LH X t)
  (ha:∀ v,assign (.Subscript o i pos) X.env v=(do
   let ov ← holding [v] (eval o X.env)
   let iv ← holding [v,ov] (eval i X.env)
   standAt pos
   holding [v,ov,iv] (setItem ov iv v)
   release [v,ov,iv] []):=by intro _;rfl):PG X (.Subscript o i pos) (MW to ti t):=by
 intro pins s σ H v u Q I r h;rw[ha];refine On (Qu (uA (ho pins s σ H _ I h) fun ov s1 ⟨x,H1,I1,r1,q1⟩=>?_));refine On (Qu (uA (hi pins s1 σ H1 _ I1 q1) fun iv s2 ⟨y,H2,I2,r2,q2⟩=>?_));refine On (wpAny_standAt (On (Qu (uA (hs pins s2 σ H2 x y v ov iv u _ I2 r1 r2 r q2) fun _ s3 ⟨H3,I3,q3⟩=>?_))));exact wpAny_release ⟨σ,H3,I3,q3⟩
def J2(te:TE)(g:TG):TS:=fun D σ H=>te σ H fun x H1=>g x σ H1 D.nx
theorem vT{tg e:Expr}{te:TE}{g:TG}(he:PE X e te)(hg:PG X tg g)(hs:swapsWithSole [tg] e pos.line X.env=pure false:=by rfl)(hw:swappedStores [tg] e X.env=pure none:=by rfl)
  (h1:(assignEach [tg] X.env).map (·.2)=[assign tg X.env]:=by rfl):PS X (.Assign [tg] e pos) (J2 te g):=by
 intro pins s σ H D I h;refine wpAny_Assign_stores (uA (he pins s σ H _ I h) fun v s1 ⟨x,H1,I1,r1,q1⟩=>?_) hs hw;rw[h1];exact uA (hg pins s1 σ H1 x v _ I1 r1 q1) fun _ s2 q=>q
theorem xG{i:Nat}{x:PR}{e:Expr}{te:TE}{pos':Pos}(hN:X.N.Nodup)(hi:X.N[i]? = some x)(hx:En X.env.scope x)(he:PE X e te)(hs:swapsWith e (some (.Name x pos')) pos.line X.env=pure false:=by rfl)(hf:X.fn x=true\/X.env.scope.names.lookup x=some .local:=by first|exact .inl rfl|exact .inr rfl|assumption) :
  PS X (.Assign [.Name x pos'] e pos) (J2 te (Aa i)):=by
 intro pins s σ H D I h;refine wpAny_Assign_Name (uA (he pins s σ H _ I h) fun v s1 ⟨y,H1,I1,r1,q1⟩=>?_) hs;exact vP I1 hN hi hx r1 (fun s2 I2=>⟨_,H1,I2,q1⟩) hf
def J0(i j:Nat)(ta:TA):TS:=fun D σ H=>ta σ H fun vs H1=>∃ v w,vs=[v,w]/\D.nx ((σ.set i (some v)).set j (some w)) H1
theorem FV(hc:X.calm=true)(hN:X.N.Nodup)(hi:X.N[i]? = some x)(hj:X.N[j]? = some y)(hij:i≠j)
  (hx:X.env.scope.names.lookup x=some .local) (hy:X.env.scope.names.lookup y=some .local) (ha:PA X [a,b] ta)
  (hw:swappedStores [.Tuple [.Name x px,.Name y py] kt pt] (.Tuple [a,b] k2 pt2) X.env=pure (some [x,y]))
  (hs:swapsWithSole [.Tuple [.Name x px,.Name y py] kt pt] (.Tuple [a,b] k2 pt2) pos.line X.env=pure false:=by rfl) :
  PS X (.Assign [.Tuple [.Name x px,.Name y py] kt pt] (.Tuple [a,b] k2 pt2) pos) (J0 i j ta):=by
 intro pins s σ H D I h;rw[exec_Assign_arm];refine On (wpAny_standAt ?_);rw[hs];refine On (PB ?_);rw[QJ (by decide)];refine On (Tuple_ (uA (ha _ pins s σ H _ I h) fun us s1 ⟨vs,H1,I1,r1,q1⟩=>?_));obtain⟨v,w,e1,q1⟩:=q1;subst e1;obtain⟨u1,u2,rfl,rv,rw'⟩:∃ u1 u2,us=[u1,u2]/\RelV v u1/\RelV w u2:=by
  cases r1 with
  | cons p q =>
   cases q with
   | cons p' q' =>
    cases q';exact⟨_,_,rfl,p,p'⟩
 refine P6 ?_ (by show 2<=Pv;decide);have I2:Inv X pins σ H1 { s1 with heap:=s1.heap.push { cls:=.type "tuple",data:=.seq [u1,u2].toArray } }:=I1.kept (t':=s1.toks) fun b o e=>Pw _ e;rw[hw];refine On (PB ?_);show PH (model X.prog X.w) X.A (do rule "assign.swapped-stores";let items ← unpackItems (.ref s1.heap.objs.size) 2 none;assignInOrder [fun v=>bindName X.env y v,fun v=>bindName X.env x v] items.reverse;pure Flow.next) ..;refine On (wpAny_rule (On (unpackItems_tuple (items:=#[u1,u2]) (I.ok.hd hc) (IsTup.new s1.heap _) fun h' hx'=>?_)));have I3:=I2.kept (h':=h') (t':=s1.toks) fun b o e=>hx' b o (bt (PC e)) e;show PH _ _ (assignInOrder [fun v=>bindName X.env y v,fun v=>bindName X.env x v] [u2,u1] >>= fun _=>pure Flow.next) ..;refine On (assignInOrder_cons (wpAny_bindName (vP I3 hN hj (.inl hy) rw' (fun s2 I4=>?_) (.inr hy))));refine assignInOrder_cons (wpAny_bindName (vP I4 hN hi (.inl hx) rv (fun s3 I5=>assignInOrder_nil (PB ?_)) (.inr hx)));rw[List.set_comm _ _ (Ne.symm hij)] at I5;exact⟨_,H1,I5,q1⟩
def NV(i:Nat)(te:TE)(ti:LQ):TS:=fun D σ H=>∃ x,σ[i]? = some (some x)/\te σ H fun y H1=>ti x y H1 fun z H2=>D.nx (σ.set i (some z)) H2
theorem FW(hN:X.N.Nodup)(hi:X.N[i]? = some x)(hx:En X.env.scope x)(he:PE X e te)(ho:Oz X op ti)(hf:X.fn x=true\/X.env.scope.names.lookup x=some .local:=by first|exact .inl rfl|exact .inr rfl|assumption) :
  PS X (.AugAssign (.Name x pos') op e pos) (NV i te ti):=by
 intro pins s σ H D I h;obtain⟨v,e1,h⟩:=h;obtain⟨m,hn,hl⟩:=I.loc;have vis:JR X.env.scope x:=by rcases hx with k|k;exact .inl k;exact .inr (.inl k)
 obtain⟨u,r,l⟩:=hl i x v hi e1 vis;refine wpAny_AugAssign_Name ?_;have go:PH (model X.prog X.w) X.A (eval e X.env) (fun w s₂=>PH (model X.prog X.w) X.A (inplaceOp op u w) (fun r s₃=>PH (model X.prog X.w) X.A (storeName X.env x r) (fun _=>SP X pins D .next) X.xe s₃) X.xe s₂) X.xe s:=by
  refine uA (he pins s σ H _ I h) fun w s1 ⟨y,H1,I1,r1,q1⟩=>?_;refine uA (ho pins s1 σ H1 v y u w _ I1 r r1 q1) fun z s2 ⟨zv,H2,I2,r2,q2⟩=>?_;exact vP I2 hN hi hx r2 (fun s3 I3=>⟨_,H2,I3,q2⟩) hf
 rcases l with⟨hk,hm⟩|⟨hk,c,hc,hcell⟩
 ·exact wpAny_loadName_local I.ok.kind hk hn hm go
 ·rcases hk with hk|hk
  ·exact wpAny_loadName_cell I.ok.kind hk hc hcell go
  ·rcases hx with k|k
   ·have:X.env.scope.names.lookup x=some .free:=hk;rw[k] at this;cases this
   ·have:X.env.scope.names.lookup x=some .free:=hk;rw[k] at this;cases this
def Ma(to ti te:TE)(tget:V->V->Hp->VK->Prop)(tip:LQ)(tset:Ho):TS:=fun D σ H=>to σ H fun o H1=>ti σ H1 fun i H2=>tget o i H2 fun x H3=>te σ H3 fun y H4=>tip x y H4 fun z H5=>tset o i z H5 fun H6=>D.nx σ H6
def Np(X:Cx)(t:V->V->Hp->VK->Prop):Prop :=
 ∀(pins:List (Addr×Obj)) (s:Shared) (σ:St) (H:Hp) (o i:V) (ov iv:Value) (Q:VK),Inv X pins σ H s->RelV o ov->RelV i iv->t o i H Q ->
  wpAny (model X.prog X.w) X.A (getItem ov iv) (EP X pins σ Q) X.xe s
theorem HP(ho:PE X o to)(hi:PE X i ti)(hg:Np X tget)(he:PE X e te)(hp:Oz X op tip)(hs:LH X tset)
  (ha:∀ ov iv new,augStore i ov iv new=(do holding [new,ov,iv] (setItem ov iv new);release [new,ov,iv] [];pure .next):=by intros;rfl):PS X (.AugAssign (.Subscript o i tpos) op e pos) (Ma to ti te tget tip tset):=by
 intro pins s σ H D I h;refine wpAny_AugAssign_SubscriptAny (uA (ho pins s σ H _ I h) fun ov s1 ⟨x1,H1,I1,r1,q1⟩=>?_) ha;refine uA (hi pins s1 σ H1 _ I1 q1) fun iv s2 ⟨x2,H2,I2,r2,q2⟩=>?_;refine uA (hg pins s2 σ H2 x1 x2 ov iv _ I2 r1 r2 q2) fun old s3 ⟨x3,H3,I3,r3,q3⟩=>?_;refine uA (he pins s3 σ H3 _ I3 q3) fun v s4 ⟨x4,H4,I4,r4,q4⟩=>?_;refine uA (hp pins s4 σ H4 x3 x4 old v _ I4 r3 r4 q4) fun new s5 ⟨x5,H5,I5,r5,q5⟩=>?_;exact uA (hs pins s5 σ H5 x1 x2 x5 ov iv new _ I5 r1 r2 r5 q5) fun _ s6 ⟨H6,I6,q6⟩=>⟨σ,H6,I6,q6⟩
end
section
variable{X:Cx}{pos:Pos}
def JZ(c:TT)(tb:TS):TS:=fun D σ H=>∃ W:Nat->St->Hp->Prop,(∃ m,W m σ H)/\∀ m σ H,W m σ H ->
 c σ H fun b H1=>if b=true then ∃ N:St->Hp->Prop,(∀ σ' H',N σ' H'->∃ m',m'<m/\W m' σ' H')/\tb { D with nx:=N,ct:=N,bk:=D.nx } σ H1 else D.nx σ H1
theorem FU(hp:PassesOwn (model X.prog X.w) X.A X.env X.xe)(hc:PT X c tc)(hb:PSs X body tb):PS X (.While c body [] pos) (JZ tc tb):=by
 intro pins s σ H D I h;obtain⟨W,⟨m0,w0⟩,Aq⟩:=h;refine wpAny_While (codeAny_whileLoop (fun n s'=>∃ σ' H',Inv X pins σ' H' s'/\W n σ' H') ?_ m0 ⟨σ,H,I,w0⟩);rintro n s1 ⟨σ1,H1,I1,w1⟩;refine Qs hp (uA (hc pins s1 σ1 H1 _ I1 (Aq n σ1 H1 w1)) fun b s2 ⟨H2,I2,q2⟩=>?_);cases b with
 | true =>
  obtain⟨N,hN,q2⟩:=q2;rw[QI rfl];refine Qs hp (uA (hb pins s2 σ1 H2 _ I2 q2) fun f s3 q3=>?_);cases f with
  | next =>
   obtain⟨σ3,H3,I3,n3⟩:=q3;obtain⟨m',hm,w3⟩:=hN σ3 H3 n3;exact⟨m',hm,σ3,H3,I3,w3⟩
  | cont =>
   obtain⟨σ3,H3,I3,n3⟩:=q3;obtain⟨m',hm,w3⟩:=hN σ3 H3 n3;exact⟨m',hm,σ3,H3,I3,w3⟩
  | brk=>exact q3
  | ret v=>exact q3
 | false =>
  rw[QJ aI];exact wpAny_execs_nil ⟨σ1,H2,I2,q2⟩
end
structure It where
 go:Nat->Hp->Prop
 yld:Nat->Hp->V->Hp->Prop
 stop:Nat->Hp->Prop
def wm(X:Cx)(pins:List (Addr×Obj))(H:Hp)(b:Addr):Prop :=
 H b=none/\b≠X.env.locals/\b ∉ X.fs/\(b∈X.ex\/X.s₀.heap.objs.size<=b)/\(∀ x c,X.env.cells.lookup x=some c->c≠b)/\∀ p∈X.pn++pins,p.1≠b
theorem Inv.fpOk(I:Inv X pins σ H s)(hb:s.heap.objs.size<=b)(hn:H' b=none):wm X pins H' b:=by
 refine⟨hn,gm (aC I.lt hb),I.nofs hb,.inr (aD I.sz hb),fun x c e z=>?_,fun p hp z=>?_⟩
 ·obtain⟨v,q⟩:=I.cell x c e;exact absurd (aC q.lt (by rw[z];exact hb)) (ca _)
 ·exact absurd (aC (PC (I.pin p hp).1) (by rw[z];exact hb)) (ca _)
structure Turn (P:Program)(w:World)(K:Frag)(tg:Expr)(J:It)(fp:List Addr)(it:Addr)(tn:Nat->Heap->Prop):Prop where
 mem:it∈fp
 obj:∀ i h,tn i h->∀ b∈fp,∃ o,h.get? b=some o/\∀ v,o.data ≠ .cell v
 keep:∀ i h h',tn i h->(∀ b∈fp,∀ o,h.get? b=some o->h'.get? b=some o)->tn i h'
 item:∀(X:Cx),X.prog=P->X.w=w->X.K=K->X.calm=true->∀(i:Nat) (pins:List (Addr×Obj)) (s:Shared) (σ:St) (H:Hp) (E:Value->Shared->Prop),Inv X pins σ H s->(∀ b∈fp,wm X pins H b)->tn i s.heap->J.go i H ->
  wpAny (model P w) X.A (pyNext (.ref it)) (fun r s1=>∃ u,r=some u /\
   wpAny (model P w) X.A (letOwnedTupleGo tg (.ref it) u) (fun _ s2=>∃ x H',Inv X pins σ H' s2/\RelV x u/\J.yld i H x H'/\tn (i+1) s2.heap/\∀ b∈fp,H' b=none) E s1) E s
 done:∀(X:Cx),X.prog=P->X.w=w->X.K=K->X.calm=true->∀(i:Nat) (pins:List (Addr×Obj)) (s:Shared) (σ:St) (H:Hp) (E:Value->Shared->Prop),Inv X pins σ H s->(∀ b∈fp,wm X pins H b)->tn i s.heap->J.stop i H ->
  wpAny (model P w) X.A (pyNext (.ref it)) (fun r s1=>r=none/\Inv X pins σ H s1) E s
 self:∀(A:Around) (i:Nat) (s:Shared) (Q:Value->Shared->Prop) (E:Value->Shared->Prop),tn i s.heap->Q (.ref it) s->wpAny (model P w) A (pyIter (.ref it)) Q E s
abbrev TI:=St->Hp->(It->Hp->Prop)->Prop
def OX(X:Cx)(pins:List (Addr×Obj))(σ:St)(tg:Expr)(R:It->Hp->Prop)(itv:Value)(s2:Shared):Prop :=
 ∃(it:Addr) (fp:List Addr) (tn:Nat->Heap->Prop) (J:It) (H':Hp),itv = .ref it/\Inv X pins σ H' s2/\Turn X.prog X.w X.K tg J fp it tn/\tn 0 s2.heap/\(∀ b∈fp,wm X pins H' b)/\R J H'
def PI(X:Cx)(tg iter:Expr)(wi:TI):Prop :=
 ∀(pins:List (Addr×Obj)) (s:Shared) (σ:St) (H:Hp) (R:It->Hp->Prop),Inv X pins σ H s->wi σ H R ->
  wpAny (model X.prog X.w) X.A (eval iter X.env) (fun v s1=>wpAny (model X.prog X.w) X.A (pyIter v) (OX X pins σ tg R) X.xe s1) X.xe s
theorem BN{s:Px}(ho:s.heap.get? it=some o)(hc:o.cls = .type n)(hd:o.data = .fields vs)
  (hn:["enumerate", "zip", "dict_itemiterator", "dict_reverseitemiterator", "odict_iterator", "itertools.zip_longest", "itertools.pairwise"].contains n=false) (hQ:Q () s):PH M A (letOwnedTupleGo tg (.ref it) u) Q E s:=by
 unfold letOwnedTupleGo;cases tg <;> first
  | exact PB hQ
  | (cases u <;> first
    | exact PB hQ
    | (refine On (wpAny_load ho ?_)
       rw[hc,hd];show PH M A (if (["enumerate", "zip", "dict_itemiterator", "dict_reverseitemiterator", "odict_iterator", "itertools.zip_longest", "itertools.pairwise"].contains n && vs[0]? == some (rawInt _))=true then _ else _) Q E s;rw[QJ (by intro h;rw[hn,gN] at h;cases h)];exact PB hQ))
def O0(K:Frag)(a:Addr):It :=
 ⟨fun i H=>∃ xs x,SqL K H a xs/\xs[i]? = some x,fun i H x H'=>H'=H/\∀ xs,SqL K H a xs->xs[i]? = some x,fun i H=>∃ xs,SqL K H a xs/\xs.length<=i⟩
def OZ(K:Frag)(a:Addr):It :=
 ⟨fun i H=>∃ xs x,SqT K H a xs/\xs[i]? = some x,fun i H x H'=>H'=H/\∀ xs,SqT K H a xs->xs[i]? = some x,fun i H=>∃ xs,SqT K H a xs/\xs.length<=i⟩
def Nq(lo:Int)(n:Nat):It:=⟨fun i _=>i<n,fun i H x H'=>H'=H/\x = .int (lo+i),fun i _=>n<=i⟩
theorem Ep{P:PU}{w:P3}{K:PM}{tg:Expr}(a it:Py):Turn P w K tg (O0 K a) [it] it (fun i h=>h.IsListIter it a i) where
 mem:=by simp
 obj:=fun i h st b hb=>by
  have e:b=it:=by simpa using hb
  subst e;obtain⟨o,e,c,d⟩:=st;exact⟨o,e,fun v z=>by rw[d] at z;cases z⟩
 keep:=fun i h h' st k=>st.at fun o e=>k it (by simp) o e
 item:=by
  intro X hP hw hK hc i pins s σ H E I hf st hg;subst hP hw hK;obtain⟨xs,x,hq,hx⟩:=hg;obtain⟨its,rv,p,hz⟩:=I.list hq;obtain⟨u,hu,ru⟩:=rv.get hx;obtain⟨f0,f1,f2,f3,f4,f5⟩:=hf it (by simp);refine wpAny_pyNext_list_item st p.isList (x:=u) (by simpa using hu) fun h' st' sb=>?_;have I1:Inv X pins σ H { s with heap:=h' }:=I.turned (t':=s.toks) (fun b o hb e=>(sb.2 b hb).trans e) f0 f1 f3 f4 f5;obtain⟨o,e,c,d⟩:=id st';exact⟨u,rfl,BN (s:={ s with heap:=h' }) e c d (by decide) ⟨x,H,I1,ru,⟨rfl,fun ys hy=>by rw[I.list_inj hy hq];exact hx⟩,st',fun b hb=>(hf b hb).1⟩⟩
 done:=by
  intro X hP hw hK hc i pins s σ H E I hf st hg;subst hP hw hK;obtain⟨xs,hq,hx⟩:=hg;obtain⟨its,rv,p,hz⟩:=I.list hq;obtain⟨f0,f1,f2,f3,f4,f5⟩:=hf it (by simp);have hl:=rv.length;exact wpAny_pyNext_list_end (I.ok.hd hc) st p.isList (by simp;lia) fun h' eb=>⟨rfl,I.turned (t':=s.toks) (fun b o hb e=>eb b o hb e) f0 f1 f3 f4 f5⟩
 self:=fun _ _ _ _ _ st h=>wpAny_pyIter_listiter st h
theorem B9{P:PU}{w:P3}{K:PM}{tg:Expr}(a it:Py):Turn P w K tg (OZ K a) [it] it (fun i h=>h.IsTupleIter it a i) where
 mem:=by simp
 obj:=fun i h st b hb=>by
  have e:b=it:=by simpa using hb
  subst e;obtain⟨o,e,c,d⟩:=st;exact⟨o,e,fun v z=>by rw[d] at z;cases z⟩
 keep:=fun i h h' st k=>st.at fun o e=>k it (by simp) o e
 item:=by
  intro X hP hw hK hc i pins s σ H E I hf st hg;subst hP hw hK;obtain⟨xs,x,hq,hx⟩:=hg;obtain⟨its,rv,p,hz⟩:=I.tuple hq;obtain⟨u,hu,ru⟩:=rv.get hx;obtain⟨f0,f1,f2,f3,f4,f5⟩:=hf it (by simp);refine wpAny_pyNext_tuple_item st (show s.heap.IsTuple a its.toArray from p) (x:=u) (by simpa using hu) fun h' st' sb=>?_;have I1:Inv X pins σ H { s with heap:=h' }:=I.turned (t':=s.toks) (fun b o hb e=>(sb.2 b hb).trans e) f0 f1 f3 f4 f5;obtain⟨o,e,c,d⟩:=id st';exact⟨u,rfl,BN (s:={ s with heap:=h' }) e c d (by decide) ⟨x,H,I1,ru,⟨rfl,fun ys hy=>by rw[I.tuple_inj hy hq];exact hx⟩,st',fun b hb=>(hf b hb).1⟩⟩
 done:=by
  intro X hP hw hK hc i pins s σ H E I hf st hg;subst hP hw hK;obtain⟨xs,hq,hx⟩:=hg;obtain⟨its,rv,p,hz⟩:=I.tuple hq;obtain⟨f0,f1,f2,f3,f4,f5⟩:=hf it (by simp);have hl:=rv.length;exact wpAny_pyNext_tuple_end (I.ok.hd hc) st (show s.heap.IsTuple a its.toArray from p) (by simp;lia) fun h' eb=>⟨rfl,I.turned (t':=s.toks) (fun b o hb e=>eb b o hb e) f0 f1 f3 f4 f5⟩
 self:=fun _ _ _ _ _ st h=>wpAny_pyIter_tupleiter st h
theorem Cb{P:PU}{w:P3}{K:PM}{tg:Expr}(it:Py)(lo:Int)(n:Nat):Turn P w K tg (Nq lo n) [it] it (fun i h=>IsRangeIter h it (lo+(i:Nat)*1) ((n:Int)-(i:Nat)) 1) where
 mem:=by simp
 obj:=fun i h st b hb=>by
  have e:b=it:=by simpa using hb
  subst e;exact⟨_,st,fun v z=>by
   have z':Data.fields _=Data.cell v:=z;cases z'⟩
 keep:=fun i h h' st k=>k it (by simp) _ st
 item:=by
  intro X hP hw hK hc i pins s σ H E I hf st hg;subst hP hw hK;obtain⟨f0,f1,f2,f3,f4,f5⟩:=hf it (by simp);have W:=Walks.range (prog:=X.prog) (w:=X.w) (I.ok.hd hc) it lo 1 n;refine W.item i s _ _ hg st fun v h' tk hv st' kk=>?_;obtain⟨t,rfl⟩:=hv;have I1:Inv X pins σ H { s with heap:=h',toks:=tk }:=I.turned (fun b o hb e=>kk b o (by simpa using hb) e) f0 f1 f3 f4 f5;refine⟨_,rfl,BN (s:={ s with heap:=h',toks:=tk }) (n := "range_iterator") st' rfl rfl (by decide) ⟨.int (lo+i),H,I1,⟨t,?_⟩,⟨rfl,rfl⟩,st',fun b hb=>(hf b hb).1⟩⟩;rw[bq]
 done:=by
  intro X hP hw hK hc i pins s σ H E I hf st hg;subst hP hw hK;obtain⟨f0,f1,f2,f3,f4,f5⟩:=hf it (by simp);exact wpAny_pyNext_range_end (I.ok.hd hc) st (by have:n<=i:=hg;lia) fun h' eb=>⟨rfl,I.turned (t':=s.toks) (fun b o hb e=>eb b o hb e) f0 f1 f3 f4 f5⟩
 self:=fun _ _ _ _ _ st h=>wpAny_pyIter_rangeiter st h
section
variable{X:Cx}{tg:Expr}
theorem Bs{pins:List (Py×QF)}{σ:St}{H:Hp}{s:Px}{R:It->Hp->Prop}{E:Pt->Px->Prop}{lo hi:Int}{t u v:Tok}{tk:Nat}(I:Inv X pins σ H s)(h1 : -(2^62)<=lo)(h2:lo<2^62)(h3 : -(2^62)<=hi)(h4:hi<2^62)
  (q:R (Nq lo (hi-lo).toNat) H):PH (model X.prog X.w) X.A (pyIter (.ref s.heap.objs.size)) (OX X pins σ tg R) E { s with heap:=s.heap.push { cls:=.type "range",data:=.fields #[.int lo t,.int hi u,.int 1 v] },toks:=tk }:=by
 refine wpAny_pyIter_range (IsRange.new ..) (small_one h1 h2 h3 h4) ?_;have I1:Inv X pins σ H { s with heap:=s.heap.push { cls:=.type "range",data:=.fields #[.int lo t,.int hi u,.int 1 v] },toks:=tk }:=I.kept fun b o e=>Pw _ e;refine⟨(s.heap.push { cls:=.type "range",data:=.fields #[.int lo t,.int hi u,.int 1 v] }).objs.size,[(s.heap.push { cls:=.type "range",data:=.fields #[.int lo t,.int hi u,.int 1 v] }).objs.size],_,_,H,rfl,
  I1.kept (t':=tk) fun b o e=>Pw _ e,Cb _ lo (hi-lo).toNat,?_,fun b hb=>?_,q⟩
 ·have e1:lo+((0:Nat):Int)*1=lo:=by simp
  have e2:(((hi-lo).toNat:Nat):Int)-((0:Nat):Int)=Builtin.Range.rangeSize lo hi 1:=by rw[rangeSize_one];split <;> lia
  show IsRangeIter _ _ (lo+((0:Nat):Int)*1) ((((hi-lo).toNat:Nat):Int)-((0:Nat):Int)) 1;rw[e1,e2];exact PF _ rfl
 ·have e:b=(s.heap.push { cls:=.type "range",data:=.fields #[.int lo t,.int hi u,.int 1 v] }).objs.size:=by simpa using hb
  subst e;exact I1.fpOk (ak _) (I1.hok.fresh (ak _))
def MQ(ta:TA):TI:=fun σ H R=>ta σ H fun vs H1=>∃ j:Int,vs=[.int j] /\ -(2^62)<=j/\j<2^62/\R (Nq 0 j.toNat) H1
def MP(ta:TA):TI:=fun σ H R=>ta σ H fun vs H1=>∃ i j:Int,vs=[.int i,.int j]/\(-(2^62)<=i/\i<2^62 /\ -(2^62)<=j/\j<2^62)/\R (Nq i (j-i).toNat) H1
theorem EC(hg:Gl X "range")(hm:X.mg "range" = none)(ha:PA X [a] ta)(hs:PN [a] X.env=[(false,eval a X.env)]:=by rfl):PI X tg (.Call (.Name "range" p) [a] [] pos) (MQ ta):=by
 intro pins s σ H R I h;refine Call_ (wL I hg hm boot_range (Qd (uA (ha pos pins s σ H _ I h) fun us s1 ⟨vs,H1,I1,r1,q1⟩=>?_) hs rfl));obtain⟨j,e,q1,q2,q⟩:=q1;subst e;cases r1 with
 | cons r rr =>
  cases rr;obtain⟨t,rfl⟩:=r;exact call_range_1 (Bs I1 (by omega) (by omega) q1 q2 (by simpa using q))
theorem EB(hg:Gl X "range")(hm:X.mg "range" = none)(ha:PA X [a,b] ta)(hs:PN [a,b] X.env=[(false,eval a X.env),(false,eval b X.env)]:=by rfl)(hs2:PN [b] X.env=[(false,eval b X.env)]:=by rfl) :
  PI X tg (.Call (.Name "range" p) [a,b] [] pos) (MP ta):=by
 intro pins s σ H R I h;refine Call_ (wL I hg hm boot_range (Qd (uA (ha pos pins s σ H _ I h) fun us s1 ⟨vs,H1,I1,r1,q1⟩=>?_) (by rw[hs,hs2]) (by rw[hs2];rfl)));obtain⟨i,j,e,⟨q1,q2,q3,q4⟩,q⟩:=q1;subst e;cases r1 with
 | cons r rr =>
  cases rr with
  | cons r' rr =>
   cases rr;obtain⟨t,rfl⟩:=r;obtain⟨t',rfl⟩:=r';exact call_range_2 (Bs I1 q1 q2 q3 q4 q)
def NQ(wi:TI)(g:TG)(tb:TS):TS:=fun D σ H=>wi σ H fun J H1=>∃ W:Nat->Nat->St->Hp->Prop,(∃ m,W 0 m σ H1)/\∀ i m σ H,W i m σ H ->
 (J.stop i H/\D.nx σ H)\/(J.go i H/\∃ N:St->Hp->Prop,(∀ σ' H',N σ' H'->∃ m',m'<m/\W (i+1) m' σ' H')/\∀ x H',J.yld i H x H'->g x σ H' fun σ2 H2=>tb { D with nx:=N,ct:=N,bk:=D.nx } σ2 H2)
def yN(fp:List Addr)(h:Heap):List (Addr×Obj):=fp.filterMap fun b=>(h.get? b).map fun o=>(b,o)
theorem vE(hb:b∈fp)(e:h.get? b=some o):(b,o)∈yN fp h:=iG.mpr ⟨b,hb,by rw[e];rfl⟩
theorem EG(hp:p∈yN fp h):p.1∈fp/\h.get? p.1=some p.2:=by
 obtain⟨b,hb,e⟩:=iG.mp hp;cases q:h.get? b with
 | none=>rw[q] at e;cases e
 | some o =>
  rw[q] at e;have e':(b,o)=p:=PP e;subst e';exact⟨hb,q⟩
theorem Inv.pinned(I:Inv X pins σ H s)(hf:∀ b∈fp,wm X pins H b)(ho:∀ b∈fp,∃ o,s.heap.get? b=some o/\∀ v,o.data ≠ .cell v):Inv X (pins++yN fp s.heap) σ H s :=
 I.pins_of fun p hp=>(bS.mp hp).elim (fun z=>I.pin p (aY _ z)) fun z=>by
  obtain⟨hb,e⟩:=EG z;obtain⟨f0,f1,f2,_⟩:=hf p.1 hb;obtain⟨o,e',d⟩:=ho p.1 hb;rw[e] at e';cases e';exact⟨e,f0,f1,f2,d⟩
theorem Inv.unpinned(I:Inv X (pins++pl) σ H s):Inv X pins σ H s:=I.pins_of fun p hp=>I.pin p (aY _ (ir _ hp))
theorem Kx(hp:PassesOwn (model X.prog X.w) X.A X.env X.xe)(hc:X.calm=true)(hi:PI X tg iter wi)(hg:PG X tg g)(hb:PSs X body tb)
  (hs:∀ x,foldedSetIterable iter X.env x=pure x:=by intro _;rfl):PS X (.For tg iter body [] pos) (NQ wi g tb):=by
 intro pins s σ H D I h;refine wpAny_For (uA (hi pins s σ H _ I h) fun v s1 h1=>uA h1 fun itv s2 h2=>?_) hs;obtain⟨it,fp,tn,J,H2,e,I2,T,st2,f2,W,⟨m0,w0⟩,Aq⟩:=h2;subst e
 -- what stays true of the iterator's objects through the loop
 have stat:∀{H':Hp},(∀ b∈fp,H' b=none)->∀ b∈fp,wm X pins H' b:=fun hn b hb=>⟨hn b hb,(f2 b hb).2⟩;refine codeAny_forLoop_any (fun n s'=>∃ i σ' H',Inv X pins σ' H' s'/\tn i s'.heap/\(∀ b∈fp,H' b=none)/\W i n σ' H') ?_ m0 ⟨0,σ,H2,I2,st2,fun b hb=>(f2 b hb).1,w0⟩;rintro n s3 ⟨i,σ3,H3,I3,st3,fr3,w3⟩;rcases Aq i n σ3 H3 w3 with⟨stop,qn⟩|⟨go,N,hN,step⟩
 ·refine Qs hp (uA (T.done X rfl rfl rfl hc i pins s3 σ3 H3 X.xe I3 (stat fr3) st3 stop) fun r s4 ⟨hr,I4⟩=>?_);subst hr;exact wpAny_execs_nil ⟨σ3,H3,I4,qn⟩
 ·refine Qs hp (uA (T.item X rfl rfl rfl hc i pins s3 σ3 H3 X.xe I3 (stat fr3) st3 go) fun r s4 ⟨u,hr,h4⟩=>?_);subst hr;refine Qs hp (uA h4 fun _ s5 ⟨x,H5,I5,r5,y5,st5,fr5⟩=>?_);have I5':=I5.pinned (stat fr5) (T.obj _ _ st5);refine Qs hp (uA (hg _ s5 σ3 H5 x u _ I5' r5 (step x H5 y5)) fun _ s6 ⟨σ6,H6,I6,q6⟩=>?_);refine Qs hp (uA (hb _ s6 σ6 H6 _ I6 q6) fun f s7 q7=>?_);have again:∀{σ7:St} {H7:Hp},Inv X (pins++yN fp s5.heap) σ7 H7 s7->N σ7 H7->∃ m,m<n/\∃ i σ' H',Inv X pins σ' H' s7/\tn i s7.heap/\(∀ b∈fp,H' b=none)/\W i m σ' H':=fun {σ7 H7} I7 n7=>by
   obtain⟨m',hm,w7⟩:=hN σ7 H7 n7;refine⟨m',hm,i+1,σ7,H7,I7.unpinned,T.keep _ _ _ st5 fun b hb o e=>(I7.pin (b,o) (aY _ (aY _ (vE hb e)))).1,fun b hb=>?_,w7⟩;obtain⟨o,e,d⟩:=T.obj _ _ st5 b hb;exact (I7.pin (b,o) (aY _ (aY _ (vE hb e)))).2.1
  cases f with
  | next=>obtain⟨σ7,H7,I7,n7⟩:=q7;exact again I7 n7
  | cont=>obtain⟨σ7,H7,I7,n7⟩:=q7;exact again I7 n7
  | brk=>obtain⟨σ7,H7,I7,q7⟩:=q7;exact⟨σ7,H7,I7.unpinned,q7⟩
  | ret v=>obtain⟨x7,σ7,H7,I7,r7,q7⟩:=q7;exact⟨x7,σ7,H7,I7.unpinned,r7,q7⟩
end
abbrev R2:=V->V->Hp->VK->Prop
def OpR(X:Cx)(f:Value->Value->Sem Value)(r:R2):Prop :=
 ∀(pins:List (Addr×Obj)) (s:Shared) (σ:St) (H:Hp) (x y:V) (v u:Value) (Q:VK),Inv X pins σ H s->RelV x v->RelV y u->r x y H Q ->
  wpAny (model X.prog X.w) X.A (f v u) (EP X pins σ Q) X.xe s
def Ox(X:Cx)(f:Value->Sem Value)(r:V->Hp->VK->Prop):Prop :=
 ∀(pins:List (Addr×Obj)) (s:Shared) (σ:St) (H:Hp) (x:V) (v:Value) (Q:VK),Inv X pins σ H s->RelV x v->r x H Q ->
  wpAny (model X.prog X.w) X.A (f v) (EP X pins σ Q) X.xe s
def CallR(X:Cx)(f:Value)(r:List V->Hp->VK->Prop):Prop :=
 ∀(pins:List (Addr×Obj)) (s:Shared) (σ:St) (H:Hp) (xs:List V) (us:List Value) (Q:VK),Inv X pins σ H s->Vals xs us->r xs H Q ->
  wpAny (model X.prog X.w) X.A (call f us) (EP X pins σ Q) X.xe s
def Oy(X:Cx)(r:V->Hp->(Bool->Hp->Prop)->Prop):Prop :=
 ∀(pins:List (Addr×Obj)) (s:Shared) (σ:St) (H:Hp) (x:V) (v:Value) (Q:Bool->Hp->Prop),Inv X pins σ H s->RelV x v->r x H Q ->
  wpAny (model X.prog X.w) X.A (truthy v) (TP X pins σ Q) X.xe s
def L6(r:R2)(ta tb:TE):TE:=fun σ H Q=>ta σ H fun x H1=>tb σ H1 fun y H2=>r x y H2 Q
def O6(r:V->Hp->VK->Prop)(ta:TE):TE:=fun σ H Q=>ta σ H fun x H1=>r x H1 Q
def rI(C:Int->Int->Prop)(g:Int->Int->V):R2:=fun x y H Q=>∃ i j,x = .int i/\y = .int j/\C i j/\Q (g i j) H
def FL(g:Int->Int->V):R2:=fun x y H Q=>∃ i j,x = .int i/\y = .int j/\Q (g i j) H
def rU(g:Int->V):V->Hp->VK->Prop:=fun x H Q=>∃ i,x = .int i/\Q (g i) H
section
variable{X:Cx}{a b c:Expr}{ta tb tc:TE}{pos:Pos}
theorem Lv(ha:PE X a ta)(hb:PE X b tb){pins:List (Py×QF)}{s:Px}{σ:St}{H:Hp}{R:V->V->Hp->Prop}(I:Inv X pins σ H s)
  (h:ta σ H fun x H1=>tb σ H1 fun y H2=>R x y H2) {Q:Pt->Px->Prop} {f:Pt->Pt->Sem Pt}
  (hf:∀ v u s2 x y H2,Inv X pins σ H2 s2->RelV x v->RelV y u->R x y H2->PH (model X.prog X.w) X.A (f v u) Q X.xe s2) :
  PH (model X.prog X.w) X.A (eval a X.env) (fun v s₁=>PH (model X.prog X.w) X.A (eval b X.env) (fun u s₂=>PH (model X.prog X.w) X.A (f v u) Q X.xe s₂) X.xe s₁) X.xe s:=by
 refine uA (ha pins s σ H _ I h) fun v s1 ⟨x,H1,I1,r1,q1⟩=>?_;refine uA (hb pins s1 σ H1 _ I1 q1) fun u s2 ⟨y,H2,I2,r2,q2⟩=>?_;exact hf v u s2 x y H2 I2 r1 r2 q2
theorem uL{op:QC}{r:R2}(ho:OpR X (binaryOp op) r)(ha:PE X a ta)(hb:PE X b tb):PE X (.BinOp a op b pos) (L6 r ta tb):=by
 intro pins s σ H Q I h;exact wpAny_BinOp (Lv ha hb I h fun v u s2 x y H2 I2 rx ry q=>ho pins s2 σ H2 x y v u Q I2 rx ry q)
theorem Jm(ho:Ox X (unaryOp op) r)(ha:PE X a ta):PE X (.UnaryOp op a pos) (O6 r ta):=by
 intro pins s σ H Q I h;exact UnaryOp_ (uA (ha pins s σ H _ I h) fun v s1 ⟨x,H1,I1,r1,q1⟩=>ho pins s1 σ H1 x v Q I1 r1 q1)
theorem Js{f:Pt->Pt->Sem Pt}{C:Int->Int->Prop}{g:Int->Int->Int}
  (rule:∀(i j:Int) (t u:Tok) (s:Px) (Q:Pt->Px->Prop) (E:Pt->Px->Prop),C i j->Q (.int (g i j) s.toks) { s with toks:=s.toks+1 }->PH (model X.prog X.w) X.A (f (.int i t) (.int j u)) Q E s) :
  OpR X f (rI C fun i j=>.int (g i j)):=by
 intro pins s σ H x y v u Q I rx ry h;obtain⟨i,j,rfl,rfl,hc,q⟩:=h;obtain⟨t,rfl⟩:=rx;obtain⟨t',rfl⟩:=ry;exact rule i j t t' s _ _ hc ⟨.int (g i j),H,I.tok _,⟨_,rfl⟩,q⟩
theorem Ia{f:Pt->Pt->Sem Pt}{g:Int->Int->Int}
  (rule:∀(i j:Int) (t u:Tok) (s:Px) (Q:Pt->Px->Prop) (E:Pt->Px->Prop),Q (.int (g i j) s.toks) { s with toks:=s.toks+1 }->PH (model X.prog X.w) X.A (f (.int i t) (.int j u)) Q E s) :
  OpR X f (FL fun i j=>.int (g i j)):=by
 intro pins s σ H x y v u Q I rx ry h;obtain⟨i,j,rfl,rfl,q⟩:=h;obtain⟨t,rfl⟩:=rx;obtain⟨t',rfl⟩:=ry;exact rule i j t t' s _ _ ⟨.int (g i j),H,I.tok _,⟨_,rfl⟩,q⟩
theorem Ib{f:Pt->Pt->Sem Pt}{g:Int->Int->Bool}
  (rule:∀(i j:Int) (t u:Tok) (s:Px) (Q:Pt->Px->Prop) (E:Pt->Px->Prop),Q (.bool (g i j)) s->PH (model X.prog X.w) X.A (f (.int i t) (.int j u)) Q E s) :
  OpR X f (FL fun i j=>.bl (g i j)):=by
 intro pins s σ H x y v u Q I rx ry h;obtain⟨i,j,rfl,rfl,q⟩:=h;obtain⟨t,rfl⟩:=rx;obtain⟨t',rfl⟩:=ry;exact rule i j t t' s _ _ ⟨.bl (g i j),H,I,rfl,q⟩
def OG(i j:Int):Prop:=0<j/\j<1073741824
def Hs(i j:Int):Prop:=0<=j/\j<=1000000/\i.natAbs<2^64
def CMul(i j:Int):Prop:=(-(2^64)<i/\i<2^64)\/(-(2^64)<j/\j<2^64)
theorem CMul.ok(h:CMul i j):IntMulOk i j:=by
 rcases h with⟨h1,h2⟩|⟨h1,h2⟩
 ·exact .of_left (intBits_le_64 h1 h2)
 ·exact .of_right (intBits_le_64 h1 h2)
theorem vD:OpR X (binaryOp .Add) (FL fun i j=>.int (i+j)):=Ia fun _ _ _ _ _ _ _ q=>add_int q
theorem KJ:OpR X (binaryOp .Sub) (FL fun i j=>.int (i-j)):=Ia fun _ _ _ _ _ _ _ q=>sub_int q
theorem Ct:OpR X (binaryOp .Mult) (rI CMul fun i j=>.int (i*j)):=Js fun _ _ _ _ _ _ _ hc q=>mul_int q hc.ok
theorem DM:OpR X (binaryOp .FloorDiv) (rI OG fun i j=>.int (i / j)):=Js fun i j _ _ _ _ _ hc q=>by
 have h1:(0:Int)<j:=hc.1;have h2:j<1073741824:=hc.2;exact floordiv_int (by omega) (by rw[cE i (by omega)];exact q) (.inl (PyProof.noPylong_small (by omega)))
theorem wK:OpR X (binaryOp .Mod) (rI (fun _ j=>0<j) fun i j=>.int (i%j)):=Js fun i j _ _ _ _ _ hc q=>by
 have h1:(0:Int)<j:=hc;exact mod_int' (by lia) (by rw[cC i (by lia)];exact q)
theorem H8:OpR X (binaryOp .Mod) (rI (fun _ j=>j≠0) fun i j=>.int (i.fmod j)):=Js fun _ _ _ _ _ _ _ hc q=>mod_int' hc q
theorem Gf:OpR X (binaryOp .Pow) (rI Hs fun i j=>.int (i^j.toNat)):=Js fun _ _ _ _ _ _ _ hc q=>pow_int_small hc.1 hc.2.1 hc.2.2 q
theorem KK:OpR X (binaryOp .LShift) (rI Hs fun i j=>.int (i*2^j.toNat)):=Js fun _ _ _ _ _ _ _ hc q=>lshift_int_small hc.1 hc.2.1 hc.2.2 q
theorem IG:OpR X (inplaceOp .Add) (FL fun i j=>.int (i+j)):=Ia fun _ _ _ _ _ _ _ q=>iadd_int q
theorem IF:OpR X (inplaceOp .Sub) (FL fun i j=>.int (i-j)):=Ia fun _ _ _ _ _ _ _ q=>isub_int q
theorem O5{f:Pt->Sem Pt}{g:Int->Int}
  (rule:∀(i:Int) (t:Tok) (s:Px) (Q:Pt->Px->Prop) (E:Pt->Px->Prop),Q (.int (g i) s.toks) { s with toks:=s.toks+1 }->PH (model X.prog X.w) X.A (f (.int i t)) Q E s) :
  Ox X f (rU fun i=>.int (g i)):=by
 intro pins s σ H x v Q I rx h;obtain⟨i,rfl,q⟩:=h;obtain⟨t,rfl⟩:=rx;exact rule i t s _ _ ⟨.int (g i),H,I.tok _,⟨_,rfl⟩,q⟩
theorem Fa:Ox X (unaryOp .USub) (rU fun i=>.int (-i)):=O5 fun _ _ _ _ _ q=>neg_int q
end
def Mf:V->V->Bool
 | .non,.non=>true | .non,.int _=>true | .int _,.non=>true | .non,.bl _=>true | .bl _,.non=>true | .non,.str _=>true | .str _,.non=>true
 | .int _,.int _=>true | .bl _,.bl _=>true | .str _,.str _=>true | .byt _,.byt _=>true
 | .int _,.str _=>true | .str _,.int _=>true | .bl _,.str _=>true | .str _,.bl _=>true
 | _,_=>false
def Pe:R2:=fun x y H Q=>Mf x y=true/\Q (.bl (decide (x=y))) H
def Pd:R2:=fun x y H Q=>Mf x y=true/\Q (.bl (!decide (x=y))) H
theorem Eb:decide (V.int i=V.int j)=(i == j):=by
 rw[cQ];simp
theorem GO:decide (V.bl i=V.bl j)=(i == j):=by
 rw[cQ];simp
theorem Ea:decide (V.str i=V.str j)=(i == j):=by
 rw[cQ];simp
theorem Ee:decide (V.byt i=V.byt j)=(i.toList == j.toList):=by
 rw[cQ];cases i;cases j;simp
section
variable{X:Cx}{a b c:Expr}{ta tb tc:TE}{pos:Pos}
theorem uq(I:Inv X pins σ H s)(q:Q (.bl k) H)(e:k=k'):EP X pins σ Q (.bool k') s:=by
 subst e;exact⟨.bl k,H,I,rfl,q⟩
theorem Jr:OpR X (PX .Eq) Pe:=by
 intro pins s σ H x y v u Q I rx ry h;obtain⟨hs,q⟩:=h;cases x with
 | non =>
  cases rx;cases y with
  | non=>cases ry;exact PySem.EqNone.eq_none_none (uq I q (by simp))
  | bl j=>cases ry;exact PySem.EqNone.eq_none_bool (uq I q (by simp))
  | int j=>obtain⟨t',rfl⟩:=ry;exact PySem.EqNone.eq_none_int (uq I q (by simp))
  | str j=>obtain⟨t',rfl⟩:=ry;exact PySem.EqNone.eq_none_str (uq I q (by simp))
  | _=>exact absurd (show false=true from hs) aI
 | bl i =>
  cases rx;cases y with
  | non=>cases ry;exact PySem.EqNone.eq_bool_none (uq I q (by simp))
  | bl j=>cases ry;exact eq_bool (uq I q GO)
  | str j=>obtain⟨t',rfl⟩:=ry;exact PySem.EqMixed.eq_bool_str (uq I q (by simp))
  | _=>exact absurd (show false=true from hs) aI
 | int i =>
  obtain⟨t,rfl⟩:=rx;cases y with
  | non=>cases ry;exact PySem.EqNone.eq_int_none (uq I q (by simp))
  | int j=>obtain⟨t',rfl⟩:=ry;exact eq_int (uq I q Eb)
  | str j=>obtain⟨t',rfl⟩:=ry;exact PySem.EqMixed.eq_int_str (uq I q (by simp))
  | _=>exact absurd (show false=true from hs) aI
 | str i =>
  obtain⟨t,rfl⟩:=rx;cases y with
  | non=>cases ry;exact PySem.EqNone.eq_str_none (uq I q (by simp))
  | bl j=>cases ry;exact PySem.EqMixed.eq_str_bool (uq I q (by simp))
  | int j=>obtain⟨t',rfl⟩:=ry;exact PySem.EqMixed.eq_str_int (uq I q (by simp))
  | str j=>obtain⟨t',rfl⟩:=ry;exact eq_str (uq I q Ea)
  | _=>exact absurd (show false=true from hs) aI
 | byt i =>
  obtain⟨t,rfl⟩:=rx;cases y with
  | byt j=>obtain⟨t',rfl⟩:=ry;exact PySem.W.eq_bytes (uq I q Ee)
  | _=>exact absurd (show false=true from hs) aI
 | _=>cases y <;> exact absurd (show false=true from hs) aI
theorem MH:OpR X (PX .NotEq) Pd:=by
 intro pins s σ H x y v u Q I rx ry h;obtain⟨hs,q⟩:=h;cases x with
 | non =>
  cases rx;cases y with
  | non=>cases ry;exact PySem.EqNone.ne_none_none (uq I q (by simp))
  | bl j=>cases ry;exact PySem.EqNone.ne_none_bool (uq I q (by simp))
  | int j=>obtain⟨t',rfl⟩:=ry;exact PySem.EqNone.ne_none_int (uq I q (by simp))
  | str j=>obtain⟨t',rfl⟩:=ry;exact PySem.EqNone.ne_none_str (uq I q (by simp))
  | _=>exact absurd (show false=true from hs) aI
 | bl i =>
  cases rx;cases y with
  | non=>cases ry;exact PySem.EqNone.ne_bool_none (uq I q (by simp))
  | bl j=>cases ry;exact ne_bool (uq I q (congrArg not GO))
  | str j=>obtain⟨t',rfl⟩:=ry;exact PySem.EqMixed.ne_bool_str (uq I q (by simp))
  | _=>exact absurd (show false=true from hs) aI
 | int i =>
  obtain⟨t,rfl⟩:=rx;cases y with
  | non=>cases ry;exact PySem.EqNone.ne_int_none (uq I q (by simp))
  | int j=>obtain⟨t',rfl⟩:=ry;exact ne_int (uq I q (congrArg not Eb))
  | str j=>obtain⟨t',rfl⟩:=ry;exact PySem.EqMixed.ne_int_str (uq I q (by simp))
  | _=>exact absurd (show false=true from hs) aI
 | str i =>
  obtain⟨t,rfl⟩:=rx;cases y with
  | non=>cases ry;exact PySem.EqNone.ne_str_none (uq I q (by simp))
  | bl j=>cases ry;exact PySem.EqMixed.ne_str_bool (uq I q (by simp))
  | int j=>obtain⟨t',rfl⟩:=ry;exact PySem.EqMixed.ne_str_int (uq I q (by simp))
  | str j=>obtain⟨t',rfl⟩:=ry;exact ne_str (uq I q (congrArg not Ea))
  | _=>exact absurd (show false=true from hs) aI
 | byt i =>
  obtain⟨t,rfl⟩:=rx;cases y with
  | byt j=>obtain⟨t',rfl⟩:=ry;exact PySem.W.ne_bytes (uq I q (congrArg not Ee))
  | _=>exact absurd (show false=true from hs) aI
 | _=>cases y <;> exact absurd (show false=true from hs) aI
theorem Jo:OpR X (PX .Lt) (FL fun i j=>.bl (decide (i<j))):=Ib fun _ _ _ _ _ _ _ q=>lt_int q
theorem MI:OpR X (PX .LtE) (FL fun i j=>.bl (decide (i<=j))):=Ib fun _ _ _ _ _ _ _ q=>le_int q
theorem Jp:OpR X (PX .Gt) (FL fun i j=>.bl (decide (j<i))):=Ib fun _ _ _ _ _ _ _ q=>gt_int q
theorem Jq:OpR X (PX .GtE) (FL fun i j=>.bl (decide (j<=i))):=Ib fun _ _ _ _ _ _ _ q=>ge_int q
theorem KM:OpR X (PX .Is) (fun x y H Q=>y = .non/\Q (.bl (decide (x = .non))) H):=by
 intro pins s σ H x y v u Q I rx ry h;obtain⟨rfl,q⟩:=h;cases ry;refine is_none_gen (uq I q ?_);cases x <;> first
  | (cases rx;rfl)
  | (obtain⟨t,rfl⟩:=rx;rfl)
theorem HZ:OpR X (PX .IsNot) (fun x y H Q=>y = .non/\Q (.bl (!decide (x = .non))) H):=by
 intro pins s σ H x y v u Q I rx ry h;obtain⟨rfl,q⟩:=h;cases ry;refine isnot_none_gen (uq I q ?_);cases x <;> first
  | (cases rx;rfl)
  | (obtain⟨t,rfl⟩:=rx;rfl)
theorem AG(b:Expr)(h:op ≠ .In:=by decide)(h2:op ≠ .NotIn:=by decide):behindInMarks op b=false:=by
 have e1:(op == CmpOp.In)=false:=by cases op <;> first|rfl|exact absurd rfl h
 have e2:(op == CmpOp.NotIn)=false:=by cases op <;> first|rfl|exact absurd rfl h2
 cases b <;> simp[behindInMarks,e1,e2]
theorem HW{r:R2}(ho:OpR X (PX op) r)(ha:PE X a ta)(hb:PE X b tb)(hm:behindInMarks op b=false):PE X (.Compare a [op] [b] pos) (L6 r ta tb):=by
 intro pins s σ H Q I h;exact wpAny_Compare1 (Lv ha hb I h fun v u s2 x y H2 I2 rx ry q=>ho pins s2 σ H2 x y v u Q I2 rx ry q) hm
def Fg(t:TE):TT:=fun σ H Q=>t σ H fun x H'=>∃ k,x = .bl k/\Q k H'
theorem xh{op:CmpOp}{r:R2}(ho:OpR X (PX op) r)(ha:PE X a ta)(hb:PE X b tb)(hm:behindInMarks op b=false):PT X (.Compare a [op] [b] pos) (Fg (L6 r ta tb)):=by
 intro pins s σ H Q I h;refine wpAny_isTrue_Compare1 (uA (ha pins s σ H _ I h) fun v s1 ⟨x,H1,I1,r1,q1⟩=>uA (hb pins s1 σ H1 _ I1 q1) fun u s2 ⟨y,H2,I2,r2,q2⟩ =>
  uA (ho pins s2 σ H2 x y v u _ I2 r1 r2 q2) fun c s3 ⟨z,H3,I3,r3,k,e,q3⟩=>?_) hm
 subst e;cases r3;exact P9 ⟨H3,I3,q3⟩
def Fi(r r':R2)(ta tb tc:TE):TE:=fun σ H Q=>ta σ H fun x H1=>tb σ H1 fun y H2=>r x y H2 fun z H3=>∃ k,z = .bl k /\
 (if k=true then tc σ H3 fun w' H4=>r' y w' H4 Q else Q (.bl false) H3)
theorem F5(ho:OpR X (PX op) r)(ho':OpR X (PX op') r')(ha:PE X a ta)(hb:PE X b tb)(hc:PE X c tc)
  (hm:lastMarks [op,op'] [b,c]=false:=by with_unfolding_all rfl):PE X (.Compare a [op,op'] [b,c] pos) (Fi r r' ta tb tc):=by
 intro pins s σ H Q I h;refine Compare_chain (uA (ha pins s σ H _ I h) fun v s1 ⟨x,H1,I1,r1,q1⟩=>chain_link (uA (hb pins s1 σ H1 _ I1 q1) fun u s2 ⟨y,H2,I2,r2,q2⟩ =>
  uA (ho pins s2 σ H2 x y v u _ I2 r1 r2 q2) fun d s3 ⟨z,H3,I3,r3,k,e,q3⟩=>?_)) hm
 subst e;cases r3;refine P9 ?_;cases k with
 | false=>exact ite_ff ⟨.bl false,H3,I3,rfl,q3⟩
 | true=>exact ite_tt (chain_last (uA (hc pins s3 σ H3 _ I3 q3) fun w' s4 ⟨z',H4,I4,r4,q4⟩=>ho' pins s4 σ H4 y z' u w' Q I4 r2 r4 q4))
theorem FS(ho:OpR X (PX op) r)(ho':OpR X (PX op') r')(ha:PE X a ta)(hb:PE X b tb)(hc:PE X c tc)
  (hm:lastMarks [op,op'] [b,c]=false:=by with_unfolding_all rfl):PT X (.Compare a [op,op'] [b,c] pos) (Fg (Fi r r' ta tb tc)):=by
 intro pins s σ H Q I h;refine isTrue_chain (uA (ha pins s σ H _ I h) fun v s1 ⟨x,H1,I1,r1,q1⟩=>test_link (uA (hb pins s1 σ H1 _ I1 q1) fun u s2 ⟨y,H2,I2,r2,q2⟩ =>
  uA (ho pins s2 σ H2 x y v u _ I2 r1 r2 q2) fun d s3 ⟨z,H3,I3,r3,k,e,q3⟩=>?_)) hm
 subst e;cases r3;refine P9 ?_;cases k with
 | false =>
  obtain⟨k',e',q'⟩:=q3;cases e';exact ite_ff ⟨H3,I3,q'⟩
 | true =>
  refine ite_tt (test_last (uA (hc pins s3 σ H3 _ I3 q3) fun w' s4 ⟨z',H4,I4,r4,q4⟩=>uA (ho' pins s4 σ H4 y z' u w' _ I4 r2 r4 q4) fun d' s5 ⟨z2,H5,I5,r5,k2,e2,q5⟩=>?_));subst e2;cases r5;exact P9 ⟨H5,I5,q5⟩
def Nj(K:Frag)(x:V)(H:Hp)(k:Bool):Prop :=
 match x with
 | .non=>k=false
 | .bl b=>k=b
 | .int i=>k=(i != 0)
 | .str y=>y.length<=sizeLine/\k=((y.length:Int) != 0)
 | .byt y=>y.size<=sizeLine/\k=((y.size:Int) != 0)
 | .ref p=>(∃ xs,SqL K H p xs/\k = !xs.isEmpty)\/(∃ xs,SqT K H p xs/\k = !xs.isEmpty)\/∃ kvs,H p=some (.dK kvs)/\k = !kvs.isEmpty
 | _=>False
theorem CI{κ:Type}{kvs:List (κ×V)}{vs:List (κ×Pt)}(r:KV kvs vs):(!vs.isEmpty) = !kvs.isEmpty:=by
 cases r <;> rfl
theorem yT(r:Vals xs its):(!its.toArray.isEmpty) = !xs.isEmpty:=by
 cases r <;> simp
theorem vv:(Pv:Nat)<2^63:=by rw[P4];decide
theorem JX:Oy X (fun x H Q=>∃ k,Nj X.K x H k/\Q k H):=by
 intro pins s σ H x v Q I rx h;obtain⟨k,e,q⟩:=h;have hl:=vv;have hs:Pv=16777216:=P4;cases x with
 | non =>
  cases rx;have e':k=false:=e;subst e';exact truthy_none ⟨H,I,q⟩
 | bl b =>
  cases rx;have e':k=b:=e;subst e';exact P9 ⟨H,I,q⟩
 | int i =>
  obtain⟨t,rfl⟩:=rx;have e':k=(i != 0):=e;subst e';exact PySem.P.truthy_int ⟨H,I,q⟩
 | str y =>
  obtain⟨t,rfl⟩:=rx;obtain⟨hy,e'⟩:y.length<=Pv/\k=((y.length:Int) != 0):=e;subst e';exact PySem.P.truthy_str (by omega) ⟨H,I.tok _,q⟩
 | byt y =>
  obtain⟨t,rfl⟩:=rx;obtain⟨hy,e'⟩:y.size<=Pv/\k=((y.size:Int) != 0):=e;subst e';exact PySem.W.truthy_bytes (by omega) ⟨H,I.tok _,q⟩
 | ref p =>
  cases rx;have e':(∃ xs,SqL X.K H p xs/\k = !xs.isEmpty)\/(∃ xs,SqT X.K H p xs/\k = !xs.isEmpty)\/∃ kvs,H p=some (.dK kvs)/\k = !kvs.isEmpty:=e;rcases e' with⟨xs,hx,e'⟩|⟨xs,hx,e'⟩|⟨kvs,hx,e'⟩
  ·subst e';obtain⟨its,r,pl,hz⟩:=I.list hx;have hlen:=r.length;exact wpAny_truthy_list pl.isList (by simp only[am];omega) ⟨H,I.tok _,by rw[yT r];exact q⟩
  ·subst e';obtain⟨its,r,pl,hz⟩:=I.tuple hx;have hlen:=r.length;exact truthy_tuple pl (by simp only[am];omega) ⟨H,I.tok _,by rw[yT r];exact q⟩
  ·subst e';obtain⟨hz,hS,vs,r,m⟩:kvs.length<=Pv/\(p == sysModules)=false/\∃ vs,KV kvs vs/\s.heap.DictOf (xo X.prog X.w) p vs:=I.hok p _ hx;have hlen:kvs.length=vs.length:=Paired.length r;exact wpAny_truthy_dict hS m (by omega) ⟨H,I.tok _,by rw[CI r];exact q⟩
 | _=>exact (show False from e).elim
theorem FR(ha:PE X a ta)(he:∀ whole,isTrue a X.env whole=(do let v ← whole;standAt a.pos;holding [v] (truthy v))) :
  PT X a (fun σ H Q=>ta σ H fun x H'=>∃ k,Nj X.K x H' k/\Q k H'):=by
 intro pins s σ H Q I h;exact isTrue_plain (uA (ha pins s σ H _ I h) fun v s1 ⟨x,H1,I1,r1,q1⟩=>JX pins s1 σ H1 x v Q I1 r1 q1) (he _)
theorem Cu:OpR X (binaryOp .Add) (fun x y H Q=>∃ i j,x = .str i/\y = .str j/\i.length+j.length<=Pv/\Q (.str (i++j)) H):=by
 intro pins s σ H x y v u Q I rx ry h;obtain⟨i,j,rfl,rfl,hz,q⟩:=h;obtain⟨t,rfl⟩:=rx;obtain⟨t',rfl⟩:=ry;exact add_str (fun t' tk=>⟨.str (i++j),H,I.tok _,⟨_,rfl⟩,q⟩) hz
theorem BI:OpR X (inplaceOp .Add) (fun x y H Q=>∃ i j,x = .str i/\y = .str j/\i.length+j.length<=Pv/\Q (.str (i++j)) H):=by
 intro pins s σ H x y v u Q I rx ry h;obtain⟨i,j,rfl,rfl,hz,q⟩:=h;obtain⟨t,rfl⟩:=rx;obtain⟨t',rfl⟩:=ry;exact iadd_str (fun t' tk=>⟨.str (i++j),H,I.tok _,⟨_,rfl⟩,q⟩) hz
theorem yu(r:Vals [x] us):∃ u,us=[u]/\RelV x u:=by
 cases r with
 | cons r1 r2=>cases r2;exact⟨_,rfl,r1⟩
theorem LV(r:Vals [x,y] us):∃ u w',us=[u,w']/\RelV x u/\RelV y w':=by
 cases r with
 | cons r1 r2 =>
  cases r2 with
  | cons r3 r4=>cases r4;exact⟨_,_,rfl,r1,r3⟩
theorem Hf:CallR X (.builtin "abs") (fun xs H Q=>∃ i,xs=[.int i]/\Q (.int (if i<0 then -i else i)) H):=by
 intro pins s σ H xs us Q I r h;obtain⟨i,rfl,q⟩:=h;obtain⟨u,rfl,t,rfl⟩:=yu r;exact call_abs_int fun u tk=>⟨.int (if i<0 then -i else i),H,I.tok _,⟨_,rfl⟩,q⟩
theorem EZ(hc:X.calm=true):CallR X (.builtin "max") (fun xs H Q=>∃ i j,xs=[.int i,.int j]/\Q (.int (if j > i then j else i)) H):=by
 intro pins s σ H xs us Q I r h;obtain⟨i,j,rfl,q⟩:=h;obtain⟨u,w',rfl,⟨t,rfl⟩,⟨t',rfl⟩⟩:=LV r;refine max_two_ints (I.ok.hd hc) fun h' tk k=>⟨_,H,I.kept k,?_,q⟩;by_cases hj:j > i
 ·rw[QI hj,QI hj];exact⟨_,rfl⟩
 ·rw[QJ hj,QJ hj];exact⟨_,rfl⟩
theorem E1:CallR X (.type "int") (fun xs H Q=>(∃ i,xs=[.int i]/\Q (.int i) H)\/∃ k,xs=[.bl k]/\Q (.int (if k then 1 else 0)) H):=by
 intro pins s σ H xs us Q I r h;rcases h with⟨i,rfl,q⟩|⟨k,rfl,q⟩
 ·obtain⟨u,rfl,t,rfl⟩:=yu r;exact call_int_int ⟨.int i,H,I,⟨_,rfl⟩,q⟩
 ·obtain⟨u,rfl,r1⟩:=yu r;cases r1;exact call_int_bool ⟨.int (if k then 1 else 0),H,I.tok _,⟨_,rfl⟩,q⟩
end
structure Room (k:Nat)(A:Around):Prop where
 hd:A.handled=none
 dp:A.depth+3*k+105<recursionLimit
 un:A.units+16*k+200<cLine
theorem Room.mono(r:Room k A)(h:j<=k):Room j A:=⟨r.hd,by have:=r.dp;lia,by have:=r.un;lia⟩
theorem Room.deeper(r:Room (k+1) A)(env:Env):Room k (A.deeper env) :=
 ⟨r.hd,by have:=r.dp;show A.depth+1+3*k+105<_;lia,by have:=r.un;show A.units+3+16*k+200<_;lia⟩
theorem Room.in1(r:Room (k+1) A):Room k A.in1 :=
 ⟨r.hd,by have:=r.dp;show A.depth+3*k+105<_;lia,by have:=r.un;show A.units+1+16*k+200<_;lia⟩
theorem Room.depth(r:Room k A):A.depth<recursionLimit:=by have:=r.dp;lia
theorem Room.units(r:Room k A):A.units+64<cLine:=by have:=r.un;lia
def Fh:TA:=fun _ H Q=>Q [] H
def yv(ta:TE)(tr:TA):TA:=fun σ H Q=>ta σ H fun x H1=>tr σ H1 fun xs H2=>Q (x::xs) H2
section
variable{X:Cx}{e:Expr}{es:List Expr}{te:TE}{t:TA}{pos:Pos}
theorem pa_nil:PA X [] Fh:=fun _ _ _ _ H Q I h=>Calls.spliced_nil ⟨[],H,I,.nil,h⟩
theorem uu(ha:PE X e te)(hr:PA X es t)(hs:PN (e::es) X.env=(false,eval e X.env)::PN es X.env:=by rfl):PA X (e::es) (yv te t):=by
 intro pos pins s σ H Q I h;rw[hs];show PH _ _ (spliced ((false,eval e X.env)::backTo pos (PN es X.env))) _ _ s;refine Calls.spliced_cons (uA (ha pins s σ H _ I h) fun u s1 ⟨x,H1,I1,r1,q1⟩=>?_);exact uA (hr pos pins s1 σ H1 _ I1 q1) fun us s2 ⟨xs,H2,I2,r2,q2⟩=>⟨x::xs,H2,I2,.cons r1 r2,q2⟩
def NJ(t:TA):TE:=fun σ H Q=>t σ H fun xs H1=>xs.length<=sizeLine/\∀ p,H1 p=none->Q (.ref p) (uH H1 p (.tup xs))
def NO(t:TA):TE:=fun σ H Q=>t σ H fun xs H1=>xs.length<=sizeLine/\∀ p,H1 p=none->Q (.ref p) (uH H1 p (.lst xs))
theorem KB(h:PA X es t):PE X (.Tuple es x1 pos) (NJ t):=by
 intro pins s σ H Q I hq;refine wpAny_Tuple_spliced (uA (h pos pins s σ H _ I hq) fun us s1 ⟨xs,H1,I1,r,z,q⟩=>⟨by rw[← r.length];exact z,?_⟩);have hf:H1 s1.heap.objs.size=none:=I1.hok.fresh (ak _);refine⟨.ref s1.heap.objs.size,uH H1 s1.heap.objs.size (.tup xs),I1.laid (t':=s1.toks) (fun b u e=>Pw _ e) (ak _) ?_,rfl,q _ hf⟩;exact⟨z,us,r,⟨_,PF _ rfl,rfl,_,rfl⟩⟩
theorem Cq(h:PA X es t):PE X (.List es pos) (NO t):=by
 intro pins s σ H Q I hq;refine wpAny_List_spliced (uA (h pos pins s σ H _ I hq) fun us s1 ⟨xs,H1,I1,r,z,q⟩=>⟨by rw[← r.length];exact z,?_⟩);have hf:H1 s1.heap.objs.size=none:=I1.hok.fresh (ak _);refine⟨.ref s1.heap.objs.size,uH H1 s1.heap.objs.size (.lst xs),I1.laid (t':=s1.toks) (fun b u e=>Pw _ e) (ak _) ?_,rfl,q _ hf⟩;exact⟨z,us,0,r,PF _ rfl⟩
end
abbrev Sp:=List V->Hp->VK->XK->Prop
abbrev E7:=List Env->Hp->Shared->XK->Value->Shared->Prop
structure Env0 (P:Program)(w:World)(K:Frag)(mg:Str->Option Value)(base:Heap)(A:Around)(outer:List Env)(s:Shared)(H:Hp):Prop where
 frames:A.frames=some outer
 mod:Mod K mg base
 bs:∀ b o,base.get? b=some o->s.heap.get? b=some o/\H b=none
 bsz:base.objs.size<=s.heap.objs.size
 funs:s.heap.FunFrames base outer
 frf:∀ b∈B8 outer,H b=none
 hok:HOk P w H s.heap
 bare:AllBare s.gens
 sr:base.NoSeer/\P.given.tree=none
def CE(outer:List Env)(P:Program)(w:World)(H:Hp)(s:Shared)(Q:VK)(u:Value)(s':Shared):Prop :=
 ∃ v H',s'.os=s.os/\AllBare s'.gens/\Un (B8 outer) [] H H' s.heap s'.heap/\HOk P w H' s'.heap/\RelV v u/\Q v H'
def CR(CX:E7)(outer:List Env)(P:Program)(w:World)(H:Hp)(s:Shared)(Q:VK)(E:XK)(r:Result)(s':Shared):Prop :=
 match r with
 | .ok (.ret u)=>CE outer P w H s Q u s'
 | .ok _=>False
 | .error e=>CX outer H s E e s'
structure FnOk (P:Program)(w:World)(K:Frag)(mg:Str->Option Value)(base:Heap)(CX:E7)(k:Nat)(f:Addr)(fd:FuncData)(ps:List Str)(sp:Sp):Prop where
 len:∀ vs H Q E,sp vs H Q E->vs.length=ps.length
 run:∀(A:Around) (outer:List Env) (s:Shared) (H:Hp) (args:Args) (us:List Value) (vs:List V) (Q:VK) (E:XK),Room k A->Env0 P w K mg base A outer s H->BindsTo s fd args (ps.zip us)->Vals vs us->sp vs H Q E ->
  codeAny (model P w) A (.call (.ref f) args) (CR CX outer P w H s Q E) s
theorem FnOk.imp{P:PU}{w:P3}{K:PM}{mg:PR->Option Pt}{base:Qb}{CX:E7}{k:Nat}{f:Py}{fd:Qt}{ps:List PR}{sp sp':Sp}(F:FnOk P w K mg base CX k f fd ps sp)
  (h:∀ vs H Q E,sp' vs H Q E->sp vs H Q E):FnOk P w K mg base CX k f fd ps sp' :=
 ⟨fun vs H Q E q=>F.len vs H Q E (h _ _ _ _ q),fun A outer s H args us vs Q E hr he hb hv hs=>F.run A outer s H args us vs Q E hr he hb hv (h _ _ _ _ hs)⟩
theorem Env0.in1{P:PU}{w:P3}{K:PM}{mg:PR->Option Pt}{base:Qb}{A:Qi}{outer:List Env}{s:Px}{H:Hp}(e:Env0 P w K mg base A outer s H) :
  Env0 P w K mg base A.in1 outer s H:=⟨e.frames,e.mod,e.bs,e.bsz,e.funs,e.frf,e.hok,e.bare,e.sr⟩
section
variable{X:Cx}{pins:List (Addr×Obj)}{σ:St}{H:Hp}{s s':Shared}
theorem Inv.env0(I:Inv X pins σ H s):Env0 X.prog X.w X.K X.mg X.base X.A X.stack s H :=
 ⟨I.ok.frames,I.ok.mod,I.bs,aD I.ok.bsz I.sz,I.stack,I.stkFree,I.hok,I.bare,I.ok.sr⟩
theorem Inv.after(I:Inv X pins σ H s)(h:CE X.stack X.prog X.w H s Q u s'):EP X pins σ Q u s':=by
 obtain⟨v,H',os,bare,un,hok,r,q⟩:=h;obtain⟨hh,g,d,t,os'⟩:=s';obtain rfl:os'=s.os:=os;exact⟨v,H',I.call (h':=hh) (g':=g) (d':=d) (t':=t) (ch:=[]) un hok bare (fun b z=>absurd z (by simp)),r,q⟩
end
def Dl(sp:Sp)(dvs:List V)(E:XK)(t:TA):TE:=fun σ H Q=>t σ H fun vs H1=>sp (vs++dvs) H1 Q E
def Binds(K:Frag)(fd:FuncData)(ps:List Str)(ds:List Value):Prop :=
 ∀(s:Shared) (us:List Value),K.In s.heap->(us++ds).length=ps.length->BindsTo s fd ⟨us,[]⟩ (ps.zip (us++ds))
theorem Binds.all{K:PM}{fd:Qt}{ps:List PR}(h:∀ us:List Pt,us.length=ps.length->bindArgs fd ⟨us,[]⟩=pure (ps.zip us)):Binds K fd ps []:=fun s us _ hl=>by
 rw[cP] at hl ⊢;exact .of_eq (h us hl)
def De(CX:E7)(X:Cx)(E:XK):Prop:=∀(pins:List (Addr×Obj)) (σ:St) (H:Hp) (s:Shared) (e:Value) (s':Shared),Inv X pins σ H s->CX X.stack H s E e s'->X.xe e s'
section
variable{X:Cx}{CX:E7}{k:Nat}{f C:Addr}{fd:FuncData}{ps:List Str}{sp:Sp}{dvs:List V}{ds:List Value}{E:XK}{x m:Str}{p pos apos:Pos}{e o:Expr}{es:List Expr}{ta:TE}{t:TA}
theorem Kc(F:FnOk X.prog X.w X.K X.mg X.base CX k f fd ps sp)(hr:Room k X.A)(hb:Binds X.K fd ps ds)(hd:Vals dvs ds)(hx:De CX X E)
  (I:Inv X pins σ H s) (r:Vals vs us) (h:sp (vs++dvs) H Q E):PH (model X.prog X.w) X.A (call (.ref f) us) (EP X pins σ Q) X.xe s:=by
 have r2:Vals (vs++dvs) (us++ds):=r.append hd;have hl:(us++ds).length=ps.length:=by rw[← r2.length];exact F.len _ _ _ _ h
 refine wpAny_call (codeAny_mono (F.run X.A X.stack s H ⟨us,[]⟩ (us++ds) (vs++dvs) Q E hr I.env0 (hb s us I.kIn hl) r2 h) fun r s' hq=>?_);cases r with
 | error e=>exact hx pins σ H s e s' I hq
 | ok fl =>
  cases fl with
  | ret u=>exact I.after hq
  | next=>exact PD hq
  | brk=>exact PD hq
  | cont=>exact PD hq
theorem HX(F:FnOk X.prog X.w X.K X.mg X.base CX k f fd ps sp)(hr:Room k X.A)(hg:Gl X x)(hm:X.mg x=some (.ref f))(hk:PySem.W.keepIn X.K (.ref f)=true)(hb:Binds X.K fd ps ds)(hd:Vals dvs ds)(hx:De CX X E)
  (ha:PA X (e::es) t) (hdb:(x == ("__debug__" : PR))=false:=by decide) (he:PN (e::es) X.env=(false,eval e X.env)::PN es X.env:=by rfl) (hpl:(backTo pos (PN es X.env)).any (·.1)=false:=by rfl) :
  PE X (.Call (.Name x p) (e::es) [] pos) (Dl sp dvs E t):=by
 intro pins s σ H Q I h;refine wpAny_Call_Name_kw (DU I hg hm ?_ hdb);refine PySem.W.callWith_K (h₀:=X.base) I.ok.mod.kin hk (uA (ha pos pins s σ H _ I h) fun us s1 ⟨vs,H1,I1,r,q⟩=>⟨I1.kIn,?_⟩) he hpl;exact Kc F hr hb hd hx I1 r q
end
def PK(X:Cx)(kws:List Keyword)(t:TA):Prop :=
 ∀(pos:Pos) (pins:List (Addr×Obj)) (s:Shared) (σ:St) (H:Hp) (Q:List V->Hp->Prop),Inv X pins σ H s->t σ H Q->wpAny (model X.prog X.w) X.A (evalAll ((backToKw pos (keywordEach kws X.env)).map (·.2))) (AP X pins σ Q) X.xe s
section
variable{X:Cx}{CX:E7}{k:Nat}{f C:Addr}{fd:FuncData}{ps ks:List Str}{sp:Sp}{E:XK}{x m:Str}{p pos apos kpos:Pos}{e o:Expr}{es:List Expr}{kws:List Keyword}{te ta:TE}{t tk:TA}{nm:Option Str}
theorem KA:PK X [] Fh:=fun _ _ _ _ H Q I h=>wpAny_evalAll_nil ⟨[],H,I,.nil,h⟩
theorem HQ(ha:PE X e te)(hr:PK X kws t):PK X (⟨nm,e,kpos⟩::kws) (yv te t):=by
 intro pos pins s σ H Q I h;show PH _ _ (evalAll ((do let v ← eval e X.env;standAt pos;pure v)::(backToKw pos (keywordEach kws X.env)).map (·.2))) _ _ s;refine wpAny_evalAll_cons (On (uA (ha pins s σ H _ I h) fun u s1 ⟨x,H1,I1,r1,q1⟩=>On (wpAny_standAt (PB ?_))));exact uA (hr pos pins s1 σ H1 _ I1 q1) fun us s2 ⟨xs,H2,I2,r2,q2⟩=>⟨x::xs,H2,I2,.cons r1 r2,q2⟩
variable{g:List Value->List Value->List Value}{gV:List V->List V->List V}
end
structure FnScope (N P:List Str)(sc:Scope):Prop where
 kind:sc.kind = .function
 co:sc.isCoroutine=false
 gen:sc.isGenerator=false
 nd:N.Nodup
 pre:N.take P.length=P
 par:∀ x∈P,sc.names.lookup x=some .local\/sc.names.lookup x=some .cell
 nofree:∀ y∈sc.names,y.2 ≠ .free
theorem Ae{kindOf:PR->Option P8}{x:PR}:∀{binds:List (PR×Pt)} {m:PR->Option Pt},(∀ v,(x,v) ∉ binds)->bindL kindOf binds m x=m x
 | [],_,_=>rfl
 | (n,v)::r,m,h=>by
  unfold bindL;rw[Ae fun w hw=>h w (aA _ hw)];split
  ·have:x≠n:=by rintro rfl;exact h v aG
   simp[this]
  ·rfl
theorem Ah{kindOf:PR->Option P8}{x:PR}:∀{binds:List (PR×Pt)} {m:PR->Option Pt},(∀ v,(x,v) ∉ binds)->bindC kindOf binds m x=m x
 | [],_,_=>rfl
 | (n,v)::r,m,h=>by
  unfold bindC;rw[Ah fun w hw=>h w (aA _ hw)];split
  ·rfl
  ·have:x≠n:=by rintro rfl;exact h v aG
   simp[this]
theorem Af{kindOf:PR->Option P8}{x:PR}{v:Pt}:∀{P:List PR} {vs:List Pt} {i:Nat} {m:PR->Option Pt},P.Nodup->P[i]? = some x->vs[i]? = some v->kindOf x=some .local ->
  bindL kindOf (P.zip vs) m x=some v
 | [],_,_,_,_,h,_,_=>by simp at h
 | _::_,[],_,_,_,_,h,_=>by simp at h
 | p::P,w::vs,0,m,nd,h1,h2,hk=>by
  simp at h1 h2;subst h1;subst h2;show bindL kindOf ((p,w)::P.zip vs) m p=_;unfold bindL;rw[Ae fun v hv=>(dU.mp nd).1 (gJ hv).1,QI hk];simp
 | p::P,w::vs,i+1,m,nd,h1,h2,hk=>by
  show bindL kindOf ((p,w)::P.zip vs) m x=_;unfold bindL;exact Af (i:=i) (dU.mp nd).2 (by simpa using h1) (by simpa using h2) hk
theorem Ai{kindOf:PR->Option P8}{x:PR}{v:Pt}:∀{P:List PR} {vs:List Pt} {i:Nat} {m:PR->Option Pt},P.Nodup->P[i]? = some x->vs[i]? = some v->kindOf x≠some .local ->
  bindC kindOf (P.zip vs) m x=some v
 | [],_,_,_,_,h,_,_=>by simp at h
 | _::_,[],_,_,_,_,h,_=>by simp at h
 | p::P,w::vs,0,m,nd,h1,h2,hk=>by
  simp at h1 h2;subst h1;subst h2;show bindC kindOf ((p,w)::P.zip vs) m p=_;unfold bindC;rw[Ah fun v hv=>(dU.mp nd).1 (gJ hv).1,QJ hk];simp
 | p::P,w::vs,i+1,m,nd,h1,h2,hk=>by
  show bindC kindOf ((p,w)::P.zip vs) m x=_;unfold bindC;exact Ai (i:=i) (dU.mp nd).2 (by simpa using h1) (by simpa using h2) hk
def start(N:List Str)(vs:List V):St:=vs.map some++List.replicate (N.length-vs.length) none
def CW(CX:E7)(P:Program)(w:World)(K:Frag)(mg:Str->Option Value)(base:Heap)(N:List Str)(qual:Str)(scope:Scope)(f:Addr)(cd:Value)(A:Around)(outer:List Env)(s:Shared)(H:Hp)(E:XK):Cx where
 prog:=P
 w:=w
 K:=K
 mg:=mg
 base:=base
 A:=A.deeper (envOfC qual scope s.heap.objs.size f cd)
 N:=N
 s₀:=s
 H₀:=H
 env:=envOfC qual scope s.heap.objs.size f cd
 outer:=outer
 stack:=envOfC qual scope s.heap.objs.size f cd::outer
 ex:=[]
 calm:=true
 fn:=fun _=>true
 pn:=[]
 xe:=fun e s'=>wpAny (model P w) (A.deeper (envOfC qual scope s.heap.objs.size f cd)) (leaving (envOfC qual scope s.heap.objs.size f cd) e) (fun _ s''=>CX outer H s E e s'') (fun e' s''=>CX outer H s E e' s'') s'
theorem BX{sc:Scope}(h:sc.names.lookup x=some .cell):∃ c,(cellsFrom n sc.names []).lookup x=some c:=by
 have q:=PySem.W.cellsFrom_some sc.names n [] (.inl h);exact Option.isSome_iff_exists.mp q
theorem ER{CX:E7}{P:PU}{w:P3}{K:PM}{mg:PR->Option Pt}{base:Qb}{N ps:List PR}{qual:PR}{scope:Scope}{f:Py}{cd:Pt}{A:Qi}{outer:List Env}{s s1:Px}{H:Hp}{E:XK}{us:List Pt}{vs:List V}
  (S:FnScope N ps scope) (hd:A.handled=none) (e0:Env0 P w K mg base A outer s H) (hl:vs.length=ps.length) (r:Vals vs us)
  (x:InCallC s s.heap.objs.size (bindL (envOfC qual scope s.heap.objs.size f cd).kindOf (ps.zip us) fun _=>none) (cellsFrom (s.heap.objs.size+1) scope.names []) (bindC (envOfC qual scope s.heap.objs.size f cd).kindOf (ps.zip us) fun _=>none) s1) :
  Inv (CW CX P w K mg base N qual scope f cd A outer s H E) [] (start N vs) H s1:=by
 have hpl:ps.length<=N.length:=by have:=congrArg List.length S.pre;rw[aU] at this;lia
 obtain⟨h1,tk,rfl,hk⟩:=x.done;have noA:∀ b:Py,b ∉ (CW CX P w K mg base N qual scope f cd A outer s H E).ex:=fun b z=>absurd (show b∈([]:List Py) from z) (by simp);refine⟨⟨e0.mod,S.kind,rfl,rfl,ak _,fun y z c h1 h2=>?_,fun y hy=>?_,fun y c _ h=>?_,fun _=>hd,Around.frames_deeper e0.frames,.inr ⟨rfl,rfl⟩,fun b z=>absurd z (noA b),e0.bs,e0.bsz,fun b _ _=>noA b,fun b z=>absurd z (noA b),e0.funs,e0.frf,e0.sr,⟨_,_,rfl,S.gen,S.co,rfl,rfl⟩⟩,
  rfl,e0.bare,Un.kept hk,⟨_,x.toInCall.ns,fun i y v h1 h2 h3=>?_⟩,fun y c h=>⟨_,x.cell y c h⟩,e0.hok.fresh (ak _),fun y c h=>?_,fun p hp=>absurd (show p∈([]:List (Py×QF)) from hp) (by simp),e0.hok.kept hk,?_⟩
 ·exact name_of_addr x.apart (Qx h1) (Qx h2)
 ·have hy:scope.names.lookup y=some .cell\/scope.names.lookup y=some .free:=hy;rcases hy with hy|hy
  ·exact BX hy
  ·exact absurd rfl (S.nofree _ (Qx hy))
 ·exact gq (x.above y c (Qx h))
 ·have hi:i<vs.length:=by
   unfold start at h2;by_cases hi:i<vs.length
   ·exact hi
   ·rw[bv (by simpa using hi)] at h2;rw[e7] at h2;split at h2 <;> cases h2
  have ha:vs[i]? = some v:=by
   unfold start at h2;rw[bE (by simpa using hi),aM] at h2;cases e:vs[i]? with
   | none=>rw[e] at h2;cases h2
   | some a=>rw[e] at h2;cases h2;rfl
  obtain⟨u,hu,rv⟩:=r.get ha;have hp:ps[i]? = some y:=by
   rw[← S.pre,dA (by lia)];exact h1
  have ndP:ps.Nodup:=by rw[← S.pre];exact S.nd.sublist (List.take_sublist _ _)
  refine⟨u,rv,?_⟩;rcases S.par y (aO hp) with k|k
  ·exact .inl ⟨k,Af ndP hp hu k⟩
  ·obtain⟨c,e⟩:=BX (n:=s.heap.objs.size+1) k;refine .inr ⟨.inl k,c,e,?_⟩;have q:=x.cell y c e;rw[Ai ndP hp hu (by show scope.names.lookup y≠_;rw[k];decide)] at q;exact q
 ·exact e0.hok.fresh (gq (x.above y c (Qx h)))
 ·unfold start;show _=N.length;rw[aB,aa,aX];lia
theorem MY{CX:E7}{P:PU}{w:P3}{K:PM}{mg:PR->Option Pt}{base:Qb}{k:Nat}{f:Py}{name qual:PR}{params:Arguments}{body:List PY}{scope:Scope}{dV kV doc pm cdv ct oc:Pt}{an od:Option Py}
  {osl:Array (Option Pt)} {N ps:List PR} {sp:Sp} (lk:K.lookup f=some ⟨oc,od,.func (QA name qual params body scope dV kV doc pm an cdv ct),osl⟩) (hcd:PySem.W.codeIn K cdv qual=true) (S:FnScope N ps scope)
  (len:∀ vs H Q E,sp vs H Q E->vs.length=ps.length)
  (hbody:∀(A:Qi) (outer:List Env) (s:Px) (H:Hp) (vs:List V) (Q:VK) (E:XK),Room k (A.deeper (envOfC qual scope s.heap.objs.size f cdv))->sp vs H Q E ->
   ∃ t,PSs (CW CX P w K mg base N qual scope f cdv A outer s H E) body t/\t { nx:=fun _ H'=>Q .non H',rt:=Q } (start N vs) H) :
  FnOk P w K mg base CX (k+1) f (QA name qual params body scope dV kV doc pm an cdv ct) ps sp:=by
 refine⟨len,fun A outer s H args us vs Q E hr e0 hb r hsp=>?_⟩;have hl:=len _ _ _ _ hsp;have KX:K.In s.heap:=e0.mod.kin.keeps fun b o e=>(e0.bs b o e).1;have lim:s.heap.NoLimit:=e0.mod.nolimit.keeps fun b o e=>(e0.bs b o e).1;have hkind:∀ y∈ps.zip us,scope.names.lookup y.1=some .local\/(scope.names.lookup y.1=some .cell/\((cellsFrom (s.heap.objs.size+1) scope.names []).lookup y.1).isSome=true):=fun⟨n,v⟩ hy=>by
  rcases S.par n (gJ hy).1 with q|q
  ·exact .inl q
  ·exact .inr ⟨q,PySem.W.cellsFrom_some _ _ _ (.inl q)⟩
 refine codeAny_call_function hr.depth (KX _ _ lk) rfl S.co S.gen rfl (PySem.W.codeRec_of KX hcd) (hb _ _ _ _ ?_);refine wpAny_newFunctionEnv_cells S.kind hkind fun env he s1 x=>?_;subst he;refine⟨lim.keeps x.toInCall.keep,codeAny_func ?_⟩;obtain⟨t,ht,hq⟩:=hbody A outer s H vs Q E (hr.deeper _) hsp;have I:Inv (CW CX P w K mg base N qual scope f cdv A outer s H E) [] (start N vs) H s1:=ER S hr.hd e0 hl r x;refine wpAny_mono (ht [] s1 (start N vs) H _ I hq) (fun fl s' hs=>?_) fun e s' hs=>hs;have fin:∀{σ':St} {H':Hp} {v:V} {u:Pt},Inv (CW CX P w K mg base N qual scope f cdv A outer s H E) [] σ' H' s'->RelV v u->Q v H'->CE outer P w H s Q u s' :=
  fun {σ' H' v u} J rv q=>⟨v,H',J.os,J.bare,J.base,J.hok,rv,q⟩
 cases fl with
 | ret u =>
  obtain⟨v,σ',H',J,rv,q⟩:=hs;exact fin J rv q
 | next =>
  obtain⟨σ',H',J,q⟩:=hs;exact fin (v:=V.non) (u:=Value.none) J rfl q
 | brk =>
  obtain⟨_,_,_,q⟩:=hs;exact PD q
 | cont =>
  obtain⟨_,_,_,q⟩:=hs;exact PD q
section
variable{X:Cx}{x:Str}{p pos:Pos}{e:Expr}{es:List Expr}{t:TA}{id T:String}{r:List V->Hp->VK->Prop}
def NS(r:List V->Hp->VK->Prop)(t:TA):TE:=fun σ H Q=>t σ H fun vs H1=>r vs H1 Q
theorem yO(hc:CallR X (.builtin id) r)(hg:Gl X x)(hm:X.mg x=none)(hv:P0 x=some (.builtin id))(ha:PA X (e::es) t)(hn:x ≠ "__name__" := by decide)(hdb:(x == ("__debug__" : PR))=false:=by decide)
  (he:PN (e::es) X.env=(false,eval e X.env)::PN es X.env:=by rfl) (hpl:(backTo pos (PN es X.env)).any (·.1)=false:=by rfl):PE X (.Call (.Name x p) (e::es) [] pos) (NS r t):=by
 intro pins s σ H Q I h;refine wpAny_Call_Name_kw (wL I hg hm hv ?_ hn hdb);exact PyProof.Rows.callWith_builtin1 (uA (ha pos pins s σ H _ I h) fun us s1 ⟨vs,H1,I1,r1,q1⟩=>hc pins s1 σ H1 vs us Q I1 r1 q1) he hpl
theorem xJ(hc:CallR X (.type T) r)(hg:Gl X x)(hm:X.mg x=none)(hv:P0 x=some (.type T))(ha:PA X (e::es) t)(hn:x ≠ "__name__" := by decide)(hdb:(x == ("__debug__" : PR))=false:=by decide)
  (he:PN (e::es) X.env=(false,eval e X.env)::PN es X.env:=by rfl) (hpl:(backTo pos (PN es X.env)).any (·.1)=false:=by rfl):PE X (.Call (.Name x p) (e::es) [] pos) (NS r t):=by
 intro pins s σ H Q I h;refine wpAny_Call_Name_kw (wL I hg hm hv ?_ hn hdb);exact Qd (uA (ha pos pins s σ H _ I h) fun us s1 ⟨vs,H1,I1,r1,q1⟩=>hc pins s1 σ H1 vs us Q I1 r1 q1) he hpl
end
end L2
namespace HT
open PySem PyProof.Rows
section
open PySem.SeqAt
open PySem.AutoSeq1 (wpAny_loadPart')
open PySem.MeetsSeq PySem.MeetsSeq2 PySem.MeetsSeq3
end
section
variable{prog:Program}{w:World}{A:Around}{E:Value->Shared->Prop}{s:Shared}
theorem IT(ht:IsTup s.heap t vs.toArray)(hb:IsTup s.heap b ws.toArray)(hv:vs≠[])
  (h1:ws=[]->Q (.ref t) s) (h2:ws≠[]->Q (.ref s.heap.objs.size) { s with heap:=s.heap.push { cls:=.type "tuple",data:=.seq (vs++ws).toArray } })
  (hsz:vs.length+ws.length<=Pv):PH (model prog w) A (binaryOp .Add (.ref t) (.ref b)) Q E s:=by
 obtain⟨⟨cls,dd,data,sl⟩,ho,hc,n,hd⟩:=id ht;obtain⟨⟨cls2,dd2,data2,sl2⟩,ho2,hc2,n2,hd2⟩:=id hb;simp only at hc hd hc2 hd2;subst hc hd hc2 hd2;have e:vs.toArray++ws.toArray=(vs++ws).toArray:=by simp
 by_cases hw:ws=[]
 ·exact concat_meets ⟨_,ho,rfl⟩ ⟨_,ho2,rfl⟩ noFill_tuple_add seq_tuple_add PySem.F.slot_tuple_add PySem.F.entry_tuple_add (PySem.F.args_tuple_add_2 _ _)
   (tuple_addW1 t b vs.toArray ws.toArray n n2 dd dd2 sl sl2 (by simpa using hv) (by simp[hw])) ⟨ho,ho2,h1 hw⟩
 ·refine concat_meets ⟨_,ho,rfl⟩ ⟨_,ho2,rfl⟩ noFill_tuple_add seq_tuple_add PySem.F.slot_tuple_add PySem.F.entry_tuple_add (PySem.F.args_tuple_add_2 _ _)
   (tuple_addW2 t b vs.toArray ws.toArray n n2 dd dd2 sl sl2 (by simpa using hv) (by simpa using hw) (by rw[am,am];exact hsz)) ⟨ho,ho2,?_⟩
  rw[e];exact h2 hw
def uJ(n d:Nat):Option Int->Nat
 | none=>d
 | some v=>if v<0 then (v+(n:Int)).toNat else min v.toNat n
theorem FB(n d:Nat):uJ n d none=d:=rfl
theorem Dx(n d k:Nat):uJ n d (some (k:Int))=min k n:=by
 show (if (k:Int)<0 then ((k:Int)+(n:Int)).toNat else min (k:Int).toNat n)=min k n;rw[QJ (by lia),aS]
theorem Kb(n d:Nat)(hd:d<=n)(o:Option Int):uJ n d o<=n:=by
 cases o with
 | none=>exact hd
 | some v =>
  show (if v<0 then (v+(n:Int)).toNat else min v.toNat n)<=n;by_cases hv:v<0
  ·rw[QI hv];lia
  ·rw[QJ hv];exact Nat.min_le_right _ _
theorem Ek(v:Int)(n d:Nat):(if v<0 then max (v+(n:Int)) 0 else min v (n:Int))=((uJ n d (some v):Nat):Int):=by
 show (if v<0 then max (v+(n:Int)) 0 else min v (n:Int))=(((if v<0 then (v+(n:Int)).toNat else min v.toNat n):Nat):Int);by_cases hv:v<0
 ·simp only[QI hv];lia
 ·simp only[QJ hv];lia
theorem Dc(lo hi:Option Int)(n:Nat):Builtin.Slice.sliceAdjust lo hi 1 (n:Int)=(((uJ n 0 lo:Nat):Int),((uJ n n hi:Nat):Int)):=by
 have h1:¬ ((1:Int)<0):=by lia
 unfold Builtin.Slice.sliceAdjust;simp only[h1,if_false];refine Prod.ext ?_ ?_
 ·cases lo with
  | none=>rfl
  | some v=>exact Ek v n 0
 ·cases hi with
  | none=>rfl
  | some v=>exact Ek v n n
theorem Cm(i j:Nat):Qq (i:Int) (j:Int) 1=j-i:=by
 unfold Qq;have h1:(1:Int) > 0:=by lia
 simp only[h1,if_true,Int.ediv_one];split <;> lia
theorem yz(p:IsPart v o)(h:Q o s):PH (model prog w) A (Builtin.Slice.slicePartIndex v) Q E s:=by
 cases p with
 | none=>exact slicePart_none h
 | int i t=>exact slicePart_int h
theorem vy{sl:Py}{vl vu:Pt}{lo hi:Option Int}{n:Nat}{Q:Int×Int×Nat->Px->Prop}(hs:s.heap.IsSliceOf sl vl vu .none)(pl:IsPart vl lo)(pu:IsPart vu hi)
  (h:Q (((uJ n 0 lo:Nat):Int),1,uJ n n hi-uJ n 0 lo) s):PH (model prog w) A (Builtin.Slice.sliceApplied (.ref sl) (pure (n:Int))) Q E s:=by
 obtain⟨os,hos,hcs,hds⟩:=id hs;unfold Builtin.Slice.sliceApplied Builtin.Slice.sliceFields;refine On (On (Qh hos hds (x:=vl) rfl (On (Qh hos hds (x:=vu) rfl (On (Qh hos hds (x:=.none) rfl (PB ?_)))))));refine On (slicePart_none ?_);show PH _ _ (if ((1:Int) == 0)=true then _ else _) _ _ s;rw[QJ (by decide)];refine On (yz pl (On (yz pu (On (PB ?_)))));show PH _ _ (match Builtin.Slice.sliceAdjust lo hi 1 (n:Int) with|(lo,hi)=>pure (lo,(1:Int),Qq lo hi 1)) _ _ s;rw[Dc lo hi n];show PH _ _ (pure (((uJ n 0 lo:Nat):Int),(1:Int),Qq ((uJ n 0 lo:Nat):Int) ((uJ n n hi:Nat):Int) 1)) _ _ s;rw[Cm];exact PB h
theorem F0(xs:Array Pt)(i k:Nat):((P5 k).filterMap fun (m:Nat)=>xs[((i:Int)+(m:Int)*1).toNat]?).toArray=((xs.toList.drop i).take k).toArray:=by
 have e:(fun (m:Nat)=>xs[((i:Int)+(m:Int)*1).toNat]?)=fun m=>xs[i+m]?:=by
  funext m;have:((i:Int)+(m:Int)*1).toNat=i+m:=by lia
  rw[this]
 rw[e];have:=pick_run xs i k;rw[List.filterMap_map] at this;have e2:((fun x=>xs[x]?)∘fun x=>i+x)=fun m=>xs[i+m]?:=rfl;rw[e2] at this;rw[this]
theorem xr{t sl:Py}{items:Array Pt}{vl vu:Pt}{lo hi:Option Int}{Q:Pt->Px->Prop}(ht:IsTup s.heap t items)(hs:s.heap.IsSliceOf sl vl vu .none)(pl:IsPart vl lo)(pu:IsPart vu hi)
  (hw:¬ (uJ items.size 0 lo=0/\uJ items.size items.size hi=items.size))
  (h:Q (.ref s.heap.objs.size) { s with heap:=s.heap.push { cls:=.type "tuple",data:=.seq ((items.toList.drop (uJ items.size 0 lo)).take (uJ items.size items.size hi-uJ items.size 0 lo)).toArray } })
  (hsz:items.size<=Pv):PH (model prog w) A (getItem (.ref t) (.ref sl)) Q E s:=by
 have htake:sizeOk (.seq ((items.toList.drop (uJ items.size 0 lo)).take (uJ items.size items.size hi-uJ items.size 0 lo)).toArray):=by
  show ((items.toList.drop (uJ items.size 0 lo)).take (uJ items.size items.size hi-uJ items.size 0 lo)).toArray.size<=Pv;rw[am,aU,e6,fE];lia
 have hj:uJ items.size items.size hi<=items.size:=Kb _ _ (ak _) hi;obtain⟨os,hos,hcs,hds⟩:=id hs;have hTs:s.TypeIs (.ref sl) "slice" := ⟨os,hos,hcs⟩;unfold getItem;try with_reducible refine Qu ?_
 first|refine On (PB ?_)|skip
 refine On (wpAny_sequenceKey ht.typeIs (by decide) ?_);refine On (P7 (name:=QB "__getitem__") ht.typeIs Qj
  (Qk Qj ht.typeIs entry_tuple_getitem ?_ (args_tuple_getitem _ _)))
 show PH _ _ (Builtin.Tuple.tupleItemsOf (.ref t) >>= _) _ _ s;refine On (tupleItemsOf_ ht ?_);refine On (wpAny_typeOf hTs ?_);rw[QI (by decide)];refine On (vy hs pl pu ?_);have hno:¬ ((((uJ items.size 0 lo:Nat):Int) == 0 && (1:Int) == 1 && (uJ items.size items.size hi-uJ items.size 0 lo) == items.size)=true):=by
  intro q;rw[bT,bT] at q;have q1:((uJ items.size 0 lo:Nat):Int)=0:=Qa q.1.1;have q2:uJ items.size items.size hi-uJ items.size 0 lo=items.size:=Qa q.2;exact hw ⟨by lia,by lia⟩
 show PH _ _ (if (((uJ items.size 0 lo:Nat):Int) == 0 && (1:Int) == 1 && (uJ items.size items.size hi-uJ items.size 0 lo) == items.size)=true then _ else _) _ _ s;rw[QJ hno,F0];first
  | exact On (m:=Qv _) (P6 (PB ⟨_,rfl,PB h⟩) htake)
  | exact On (m:=Qv _) (P6 (On (PB (PB ⟨_,rfl,PB h⟩))) htake)
  | exact On (On (m:=Qv _) (P6 (PB (PB ⟨_,rfl,PB h⟩)) htake))
  | exact On (On (m:=Qv _) (P6 (PB ⟨_,rfl,PB h⟩) htake))
end
end HT
namespace L2
open PySem PySem.Spec PyProof.Rows
abbrev TO:=St->Hp->(Option Int->Hp->Prop)->Prop
def PO(X:Cx)(e:Option Expr)(t:TO):Prop :=
 ∀(pins:List (Addr×Obj)) (s:Shared) (σ:St) (H:Hp) (Q:Option Int->Hp->Prop),Inv X pins σ H s->t σ H Q ->
  wpAny (model X.prog X.w) X.A (evalPart e X.env) (fun u s'=>∃ o H',Inv X pins σ H' s'/\IsPart u o/\Q o H') X.xe s
def HD:TO:=fun _ H Q=>Q none H
def L5(t:TE):TO:=fun σ H Q=>t σ H fun x H1=>∃ i,x = .int i/\Q (some i) H1
section
variable{X:Cx}{e:Expr}{te:TE}{lo hi:Option Expr}{tl th:TO}{pos p2:Pos}
theorem po_none:PO X none HD:=by
 intro pins s σ H Q I h;rw[evalPart_none];exact PB ⟨none,H,I,.none,h⟩
theorem DE(h:PE X e te):PO X (some e) (L5 te):=by
 intro pins s σ H Q I hw;rw[evalPart_some];refine uA (h pins s σ H _ I hw) fun u s1 ⟨x,H1,I1,r1,q1⟩=>?_;obtain⟨i,rfl,q⟩:=q1;obtain⟨t,rfl⟩:=r1;exact⟨some i,H1,I1,.int i t,q⟩
def SlR(X:Cx)(r:V->Option Int->Option Int->Hp->VK->Prop):Prop :=
 ∀(pins:List (Addr×Obj)) (s:Shared) (σ:St) (H:Hp) (x:V) (v vl vu:Value) (lo hi:Option Int) (sl:Addr) (Q:VK),Inv X pins σ H s->RelV x v->s.heap.IsSliceOf sl vl vu .none->IsPart vl lo->IsPart vu hi->r x lo hi H Q ->
  ∃ T id,typeLookup (.type T) "__getitem__" = pure (some (.builtin id))/\s.TypeIs v T/\wpAny (model X.prog X.w) X.A (getItem v (.ref sl)) (EP X pins σ Q) X.xe s
theorem SlR.or(h:SlR X r)(h':SlR X r'):SlR X (fun x lo hi H Q=>r x lo hi H Q\/r' x lo hi H Q):=by
 intro pins s σ H x v vl vu lo hi sl Q I rx hs pl pu q;rcases q with q|q
 ·exact h pins s σ H x v vl vu lo hi sl Q I rx hs pl pu q
 ·exact h' pins s σ H x v vl vu lo hi sl Q I rx hs pl pu q
def O7(r:V->Option Int->Option Int->Hp->VK->Prop)(te:TE)(tl th:TO):TE:=fun σ H Q=>te σ H fun x H1=>tl σ H1 fun l H2=>th σ H2 fun u H3=>r x l u H3 Q
theorem F2(hr:SlR X r)(he:PE X e te)(hl:PO X lo tl)(hu:PO X hi th):PE X (.Subscript e (.Slice lo hi none p2) pos) (O7 r te tl th):=by
 intro pins s σ H Q I h;refine Subscript_ (uA (he pins s σ H _ I h) fun v s1 ⟨x,H1,I1,r1,q1⟩=>?_);refine wpAny_Slice (uA (hl pins s1 σ H1 _ I1 q1) fun vl s2 ⟨l,H2,I2,pl,q2⟩=>uA (hu pins s2 σ H2 _ I2 q2) fun vu s3 ⟨u,H3,I3,pu,q3⟩=>?_);rw[evalPart_none];refine PB ?_;have I4:Inv X pins σ H3 { s3 with heap:=s3.heap.push { cls:=.type "slice",data:=.fields #[vl,vu,.none] } }:=I3.kept (t':=s3.toks) fun b ob q=>Pw _ q;obtain⟨T,id,hT,ht,hg⟩:=hr pins { s3 with heap:=s3.heap.push { cls:=.type "slice",data:=.fields #[vl,vu,.none] } } σ H3 x v vl vu l u s3.heap.objs.size Q I4 r1 (Heap.IsSliceOf.new ..) pl pu q3;show PH (model X.prog X.w) X.A (subscriptTail e (.Slice lo hi none p2) v (.ref s3.heap.objs.size)) (EP X pins σ Q) X.xe { s3 with heap:=s3.heap.push { cls:=.type "slice",data:=.fields #[vl,vu,.none] } };exact tail_any (ops:=[.ref s3.heap.objs.size,v]) ht hT hg (by with_unfolding_all rfl)
def BV(xs:List V)(lo hi:Option Int):List V:=(xs.drop (HT.uJ xs.length 0 lo)).take (HT.uJ xs.length xs.length hi-HT.uJ xs.length 0 lo)
theorem yc(xs:List V)(lo hi:Option Int):(BV xs lo hi).length<=xs.length:=by
 unfold BV;rw[aU,e6];lia
def N3(K:Frag):V->Option Int->Option Int->Hp->VK->Prop:=fun x lo hi H Q=>∃ a xs,x = .ref a/\SqT K H a xs /\
 ¬ (HT.uJ xs.length 0 lo=0/\HT.uJ xs.length xs.length hi=xs.length)/\∀ p,H p=none->Q (.ref p) (uH H p (.tup (BV xs lo hi)))
theorem sl_tup:SlR X (N3 X.K):=by
 intro pins s σ H x v vl vu lo hi sl Q I rx hs pl pu h;obtain⟨a,xs,rfl,hx,hw,q⟩:=h;cases rx;obtain⟨its,r,ht,hz⟩:=I.tuple hx;have hlen:its.toArray.size=xs.length:=by rw[am];exact r.length.symm
 refine⟨"tuple",_,PyProof.Rows.slot_tuple_getitem.lookup,ht.typeIs,?_⟩;refine HT.xr ht hs pl pu (by rw[hlen];exact hw) ?_ (by rw[hlen];exact hz);rw[hlen];refine⟨.ref s.heap.objs.size,_,I.laid (t':=s.toks) (o:=.tup (BV xs lo hi)) (fun b ob q=>Pw _ q) (ak _) ?_,rfl,q _ (I.hok.fresh (ak _))⟩;exact⟨aD (yc xs lo hi) hz,_,(r.drop (HT.uJ xs.length 0 lo)).take (HT.uJ xs.length xs.length hi-HT.uJ xs.length 0 lo),IsTup.new _ _⟩
def Mt(K:Frag):R2:=fun x y H Q=>∃ a b xs ys,x = .ref a/\y = .ref b/\SqT K H a xs/\SqT K H b ys/\xs≠[]/\xs.length+ys.length<=sizeLine /\
 (ys=[]->Q (.ref a) H)/\(ys≠[]->∀ p,H p=none->Q (.ref p) (uH H p (.tup (xs++ys))))
theorem Vals.nil_iff(r:Vals xs us):us=[]↔xs=[]:=by
 cases r with
 | nil=>simp
 | cons _ _=>simp
theorem H9:OpR X (binaryOp .Add) (Mt X.K):=by
 intro pins s σ H x y v u Q I rx ry h;obtain⟨a,b,xs,ys,rfl,rfl,ha,hb,hx,hz,q1,q2⟩:=h;cases rx;cases ry;obtain⟨its,r1,p1,_⟩:=I.tuple ha;obtain⟨its2,r2,p2,_⟩:=I.tuple hb;refine HT.IT p1 p2 (fun z=>hx (r1.nil_iff.mp z)) (fun z=>⟨.ref a,H,I,rfl,q1 (r2.nil_iff.mp z)⟩) (fun z=>?_) (by rw[← r1.length,← r2.length];exact hz);refine⟨.ref s.heap.objs.size,_,I.laid (t':=s.toks) (o:=.tup (xs++ys)) (fun b ob q=>Pw _ q) (ak _) ?_,rfl,q2 (fun w=>z (r2.nil_iff.mpr w)) _ (I.hok.fresh (ak _))⟩;exact⟨by rw[aB];exact hz,_,r1.append r2,IsTup.new _ _⟩
end
def CF(n:Nat)(i:Int):Option Nat:=if 0<=i then (if i<n then some i.toNat else none) else if -(n:Int)<=i then some (i+n).toNat else none
def Aj{α:Type}(xs:List α)(i:Int):Option α:=(CF xs.length i).bind fun j=>xs[j]?
theorem DX(h:CF n i=some j):seqIndex? i n=some j/\j<n /\ -(n:Int)<=i/\i<n:=by
 unfold CF at h;by_cases h0:0<=i
 ·rw[QI h0] at h;by_cases h1:i<n
  ·rw[QI h1] at h;have e:i.toNat=j:=PP h;exact⟨by rw[seqIndex_of h0 h1,e],by lia,by lia,h1⟩
  ·rw[QJ h1] at h;cases h
 ·rw[QJ h0] at h;by_cases h1 : -(n:Int)<=i
  ·rw[QI h1] at h;have e:(i+n).toNat=j:=PP h;exact⟨by rw[seqIndex_neg (by lia) h1,e],by lia,h1,by lia⟩
  ·rw[QJ h1] at h;cases h
theorem A7{α:Type}{xs:List α}{i:Int}{v:α}(h:Aj xs i=some v):∃ j,seqIndex? i xs.length=some j/\xs[j]? = some v/\j<xs.length /\ -(xs.length:Int)<=i/\i<xs.length:=by
 unfold Aj at h;cases e:CF xs.length i with
 | none=>rw[e] at h;cases h
 | some j =>
  rw[e] at h;obtain⟨h1,h2,h3,h4⟩:=DX e;exact⟨j,h1,h,h2,h3,h4⟩
theorem we{α:Type}{xs:List α}{j:Nat}{v:α}(h:xs[j]? = some v):Aj xs (j:Int)=some v:=by
 have hj:j<xs.length:=(aj.mp h).1;have e:CF xs.length (j:Int)=some j:=by
  unfold CF;rw[QI (by lia),QI (by lia)];simp
 unfold Aj;rw[e];exact h
def yq(b:Expr):Prop:=∀ o i,subscripted b false o i=operate [o,i] (getItem o i)
def IxR(X:Cx)(r:R2):Prop :=
 ∀(value slice:Expr) (pins:List (Addr×Obj)) (s:Shared) (σ:St) (H:Hp) (x y:V) (v u:Value) (Q:VK),Inv X pins σ H s->RelV x v->RelV y u->r x y H Q ->
  subscripted slice false v u=operate [v,u] (getItem v u)->wpAny (model X.prog X.w) X.A (subscriptTail value slice v u) (EP X pins σ Q) X.xe s
def OY(X:Cx)(id:String)(r:V->List V->Hp->VK->Prop):Prop :=
 ∀(pins:List (Addr×Obj)) (s:Shared) (σ:St) (H:Hp) (x:V) (xs:List V) (v:Value) (us:List Value) (Q:VK),Inv X pins σ H s->RelV x v->Vals xs us->r x xs H Q ->
  wpAny (model X.prog X.w) X.A (call (.builtin id) (v::us)) (EP X pins σ Q) X.xe s
section
variable{X:Cx}{a b:Expr}{ta tb:TE}{pos:Pos}
theorem IxR.or(h:IxR X r)(h':IxR X r'):IxR X (fun x y H Q=>r x y H Q\/r' x y H Q):=by
 intro value slice pins s σ H x y v u Q I rx ry q hs;rcases q with q|q
 ·exact h value slice pins s σ H x y v u Q I rx ry q hs
 ·exact h' value slice pins s σ H x y v u Q I rx ry q hs
theorem uY{r:R2}(hr:IxR X r)(ha:PE X a ta)(hb:PE X b tb)(hs:yq b):PE X (.Subscript a b pos) (L6 r ta tb):=by
 intro pins s σ H Q I h;exact Subscript_ (Lv ha hb I h fun v u s2 x y H2 I2 rx ry q=>hr a b pins s2 σ H2 x y v u Q I2 rx ry q (hs _ _))
def Kq(K:Frag):R2:=fun x y H Q=>∃ p xs i v,x = .ref p/\y = .int i/\SqL K H p xs/\Aj xs i=some v/\Q v H
def Mo(K:Frag):R2:=fun x y H Q=>∃ p xs i v,x = .ref p/\y = .int i/\SqT K H p xs/\Aj xs i=some v/\Q v H
def Mp:R2:=fun x y H Q=>∃ z i c,x = .str z/\y = .int i/\z.length<=sizeLine/\Aj z.cps.toList i=some c/\Q (.str ⟨#[c]⟩) H
theorem ix_list:IxR X (Kq X.K):=by
 intro value slice pins s σ H x y v u Q I rx ry h hs;obtain⟨p,xs,i,z,rfl,rfl,hq,he,q⟩:=h;cases rx;obtain⟨t,rfl⟩:=ry;obtain⟨its,r,pl,hz⟩:=I.list hq;obtain⟨j,h1,h2,h3,h4,h5⟩:=A7 he;obtain⟨w,ew,rw'⟩:=r.get h2;have hl:=r.length;have hn:=vv;have fin:EP X pins σ Q w s:=⟨z,H,I,rw',q⟩;by_cases h0:0<=i
 ·have hj:i.toNat=j:=by
   rw[seqIndex_of h0 h5] at h1;exact PP h1
  exact item_listR pl.isList h0 (by omega) (by rw[hj];simpa using ew) fin hs
 ·have hj:(i+(its.toArray.size:Int)).toNat=j:=by
   rw[seqIndex_neg (by omega) h4] at h1;rw[am,← hl];exact PP h1
  exact subscriptTail_builtinR (x:=w) pl.isList.typeIs slot_list_getitem.lookup
   (wpAny_getItem_list_neg (Q:=fun r s'=>r=w/\EP X pins σ Q r s') pl.isList (by omega) (by rw[am] <;> omega) (by omega) (by rw[hj];simpa using ew) ⟨rfl,fin⟩) hs
theorem ix_tup:IxR X (Mo X.K):=by
 intro value slice pins s σ H x y v u Q I rx ry h hs;obtain⟨p,xs,i,z,rfl,rfl,hq,he,q⟩:=h;cases rx;obtain⟨t,rfl⟩:=ry;obtain⟨its,r,pl,hz⟩:=I.tuple hq;obtain⟨j,h1,h2,h3,h4,h5⟩:=A7 he;obtain⟨w,ew,rw'⟩:=r.get h2;have hl:=r.length;have hn:=vv;have fin:EP X pins σ Q w s:=⟨z,H,I,rw',q⟩;exact subscriptTail_builtinR (x:=w) pl.typeIs slot_tuple_getitem.lookup
  (getItem_tuple (j:=j) (Q:=fun r s'=>r=w/\EP X pins σ Q r s') pl (by omega) (by omega) (by rw[am,← hl];exact h1) (by simpa using ew) ⟨rfl,fin⟩) hs
theorem K3:IxR X Mp:=by
 intro value slice pins s σ H x y v u Q I rx ry h hs;obtain⟨z,i,c,rfl,rfl,hz,he,q⟩:=h;obtain⟨t,rfl⟩:=rx;obtain⟨t',rfl⟩:=ry;obtain⟨j,h1,h2,h3,h4,h5⟩:=A7 he;have hl:z.cps.toList.length=z.length:=by simp[Str.length]
 rw[hl] at h1 h4 h5;have hn:=vv;exact tail_any (typeIs_str s z t) slot_str_getitem.lookup (getItem_str (c:=c) (by
  have e1:decide (i < -(2^63:Int))=false:=decide_eq_false (by omega);have e2:decide (i ≥ 2^63)=false:=decide_eq_false (by omega);rw[e1,e2,Bool.or_false]) (by rw[h1];simpa using h2) ⟨.str ⟨#[c]⟩,H,I.tok _,⟨_,rfl⟩,q⟩) hs
def OM(K:Frag):R2:=fun x y H Q=>Kq K x y H Q\/Mo K x y H Q\/Mp x y H Q
theorem ix_seq:IxR X (OM X.K):=ix_list.or (ix_tup.or K3)
theorem CB(its:List Pt)(n j:Nat)(u:Pt):PZ (·.setIfInBounds j u) { cls:=.type "list",data:=.seq its.toArray n } = { cls:=.type "list",data:=.seq (its.set j u).toArray n }:=by
 simp[PZ]
theorem Inv.lst(I:Inv X pins σ H s)(h:H p=some (.lst xs)) :
  ∃(its:List Pt) (n:Nat),Vals xs its/\s.heap.get? p=some { cls:=.type "list",data:=.seq its.toArray n }/\xs.length<=Pv:=by
 obtain⟨z,its,n,r,e⟩:=I.hok p _ h;exact⟨its,n,r,e,z⟩
theorem Inv.lstUpd{its its':List Pt}(I:Inv X pins σ H s)(h:H p=some (.lst xs))
  (ho:s.heap.get? p=some { cls:=.type "list",data:=.seq its.toArray n }) (hf:f { cls:=.type "list",data:=.seq its.toArray n } = { cls:=.type "list",data:=.seq its'.toArray n' }) (r:Vals ys its') (hz:ys.length<=Pv) (t:Nat) :
  Inv X pins σ (uH H p (.lst ys)) { s with heap:=s.heap.update p f,toks:=t }:=by
 have e:(s.heap.update p f).get? p=some { cls:=.type "list",data:=.seq its'.toArray n' }:=by
  rw[Qn f ho (by rw[hf] <;> rfl),hf]
 refine I.write (x:=p) (e:=p) (by rw[h];trivial) (.inl rfl) (fun b u hb q=>(Ql _ _ (Ne.symm hb)).trans q) ⟨_,e⟩ ?_;exact⟨hz,its',n',r,e⟩
def Jj:V->V->V->Hp->(Hp->Prop)->Prop:=fun o i v H Q=>∃ p xs k j,o = .ref p/\i = .int k/\H p=some (.lst xs)/\CF xs.length k=some j/\Q (uH H p (.lst (xs.set j v)))
theorem va:LH X Jj:=by
 intro pins s σ H o i v ov iv u Q I ro ri rv h;obtain⟨p,xs,k,j,rfl,rfl,hp,hj,q⟩:=h;cases ro;obtain⟨t,rfl⟩:=ri;obtain⟨its,n,r,ho,hz⟩:=I.lst hp;obtain⟨h1,h2,h3,h4⟩:=DX hj;have hl:=r.length;have hn:=vv;have I':Inv X pins σ (uH H p (.lst (xs.set j v))) { s with heap:=s.heap.update p (PZ (·.setIfInBounds j u)) } :=
  I.lstUpd hp ho (CB its n j u) (r.set rv j) (by rw[bx];exact hz) s.toks
 by_cases h0:0<=k
 ·have hk:k.toNat=j:=by
   rw[seqIndex_of h0 h4] at h1;exact PP h1
  exact PySem.W.ki_setAt ho h0 (by lia) (by rw[am,← hl];exact h4) (by rw[hk];exact⟨_,I',q⟩)
 ·have hk:(k+(its.toArray.size:Int)).toNat=j:=by
   rw[seqIndex_neg (by lia) h3] at h1;rw[am,← hl];exact PP h1
  exact PySem.W.ki_setBack ho (by lia) (by rw[am,← hl];exact h3) (by lia) (by rw[hk];exact⟨_,I',q⟩)
theorem Au(lo hi:Option Int)(n:Nat):(sliceBounds lo hi none n).1=((HT.uJ n 0 lo:Nat):Int)/\(sliceBounds lo hi none n).2.1=((HT.uJ n n hi:Nat):Int)/\(sliceBounds lo hi none n).2.2=1:=by
 refine⟨?_,?_,rfl⟩
 ·cases lo with
  | none=>simp[sliceBounds,HT.uJ]
  | some i =>
   simp only[sliceBounds,HT.uJ,iC,show (1:Int) > 0 by decide,if_true];by_cases h:i<0
   ·simp only[h,if_true] <;> lia
   ·simp only[h,if_false] <;> lia
 ·cases hi with
  | none=>simp[sliceBounds,HT.uJ]
  | some i =>
   simp only[sliceBounds,HT.uJ,iC,show (1:Int) > 0 by decide,if_true];by_cases h:i<0
   ·simp only[h,if_true] <;> lia
   ·simp only[h,if_false] <;> lia
theorem zo(its:List Pt)(lo hi:Option Int):slicePick its.toArray lo hi none=((its.drop (HT.uJ its.length 0 lo)).take (HT.uJ its.length its.length hi-HT.uJ its.length 0 lo)).toArray:=by
 obtain⟨h1,h2,h3⟩:=Au lo hi its.toArray.size;unfold slicePick;rw[h1,h2,h3];simp only[sliceRange_one,pick_run,am] <;> rfl
def N4(K:Frag):V->Option Int->Option Int->Hp->VK->Prop:=fun x lo hi H Q=>∃ a xs,x = .ref a/\SqL K H a xs/\∀ p,H p=none->Q (.ref p) (uH H p (.lst (BV xs lo hi)))
theorem sl_list:SlR X (N4 X.K):=by
 intro pins s σ H x v vl vu lo hi sl Q I rx hs pl pu h;obtain⟨a,xs,rfl,hx,q⟩:=h;cases rx;obtain⟨its,r,ht,hz⟩:=I.list hx;have hlen:=r.length;refine⟨"list",_,slot_list_getitem.lookup,ht.isList.typeIs,?_⟩;refine wpAny_getItem_list_slice ht.isList hs pl pu .none (by simp) ?_ (by rw[am] <;> lia);rw[zo,← hlen];refine⟨.ref s.heap.objs.size,_,I.laid (t':=s.toks) (o:=.lst (BV xs lo hi)) (fun b ob q=>Pw _ q) (ak _) ?_,rfl,q _ (I.hok.fresh (ak _))⟩;exact⟨aD (yc xs lo hi) hz,_,0,(r.drop (HT.uJ xs.length 0 lo)).take (HT.uJ xs.length xs.length hi-HT.uJ xs.length 0 lo),PF _ rfl⟩
def wC:V->Bool
 | .non=>true
 | .bl _=>true
 | .int _=>true
 | .str _=>true
 | _=>false
def JH:V->V->Bool
 | .non,.non=>true
 | .bl a,.bl b=>a == b
 | .bl a,.int b=>(if a then 1 else 0) == b
 | .int a,.bl b=>a == (if b then 1 else 0)
 | .int a,.int b=>a == b
 | .str a,.str b=>a == b
 | _,_=>false
theorem Ld(ry:RelV y u)(rx:RelV x v)(fy:wC y=true)(fx:wC x=true):SeqAt.EqAt A s u v (JH y x):=by
 cases y with
 | non =>
  cases ry;cases x with
  | non=>cases rx;exact SeqAt.EqAt.same _
  | bl b=>cases rx;exact SeqAt.EqAt.none_bool b
  | int b=>obtain⟨t,rfl⟩:=rx;exact SeqAt.EqAt.none_int b t
  | str b=>obtain⟨t,rfl⟩:=rx;exact SeqAt.EqAt.none_str b t
  | _=>exact absurd (show false=true from fx) aI
 | bl a =>
  cases ry;cases x with
  | non=>cases rx;exact SeqAt.EqAt.bool_none a
  | bl b=>cases rx;exact SeqAt.EqAt.bool_bool a b
  | int b=>obtain⟨t,rfl⟩:=rx;exact SeqAt.EqAt.bool_int a b t
  | str b=>obtain⟨t,rfl⟩:=rx;exact SeqAt.EqAt.bool_str a b t
  | _=>exact absurd (show false=true from fx) aI
 | int a =>
  obtain⟨t',rfl⟩:=ry;cases x with
  | non=>cases rx;exact SeqAt.EqAt.int_none a t'
  | bl b=>cases rx;exact SeqAt.EqAt.int_bool a t' b
  | int b=>obtain⟨t,rfl⟩:=rx;exact SeqAt.EqAt.int_int a t' b t
  | str b=>obtain⟨t,rfl⟩:=rx;exact SeqAt.EqAt.int_str a t' b t
  | _=>exact absurd (show false=true from fx) aI
 | str a =>
  obtain⟨t',rfl⟩:=ry;cases x with
  | non=>cases rx;exact SeqAt.EqAt.str_none a t'
  | bl b=>cases rx;exact SeqAt.EqAt.str_bool a t' b
  | int b=>obtain⟨t,rfl⟩:=rx;exact SeqAt.EqAt.str_int a t' b t
  | str b=>obtain⟨t,rfl⟩:=rx;exact SeqAt.EqAt.str_str a t' b t
  | _=>exact absurd (show false=true from fx) aI
 | _=>exact absurd (show false=true from fy) aI
def CM(x:V)(u:Value):Bool:=match u with
 | .none=>JH .non x
 | .bool b=>JH (.bl b) x
 | .int i _=>JH (.int i) x
 | .str z _=>JH (.str z) x
 | _=>false
theorem GJ(r:RelV y u)(f:wC y=true):CM x u=JH y x:=by
 cases y with
 | non=>cases r;rfl
 | bl b=>cases r;rfl
 | int i=>obtain⟨t,rfl⟩:=r;rfl
 | str z=>obtain⟨t,rfl⟩:=r;rfl
 | _=>exact absurd (show false=true from f) aI
theorem xy:∀{xs:List V} {us:List Pt},Vals xs us->xs.all wC=true->us.any (CM x)=xs.any fun y=>JH y x
 | _,_,.nil,_=>rfl
 | y::xs,u::us,.cons r t,f=>by
  rw[fI,bT] at f;rw[gU,gU,GJ r f.1,xy t f.2]
theorem vW(rx:RelV x v)(fx:wC x=true):∀{xs:List V} {us:List Pt},Vals xs us->xs.all wC=true->∀ u∈us,SeqAt.EqAt A s u v (CM x u)
 | _,_,.nil,_=>fun u hu=>by cases hu
 | y::xs,u::us,.cons r t,f=>fun u' hu=>by
  rw[fI,bT] at f;rcases av.mp hu with rfl|hu
  ·rw[GJ r f.1];exact Ld r rx f.1 fx
  ·exact vW rx fx t f.2 u' hu
def LM(x:V)(xs:List V):Bool:=xs.any fun y=>JH y x
def N7(K:Frag)(neg:Bool):R2:=fun x y H Q=>∃ p xs,y = .ref p/\(SqL K H p xs\/SqT K H p xs)/\wC x=true/\xs.all wC=true/\Q (.bl (if neg then !LM x xs else LM x xs)) H
theorem EF:OpR X (PX .In) (N7 X.K false):=by
 intro pins s σ H x y v u Q I rx ry h;obtain⟨p,xs,rfl,hq,fx,fs,q⟩:=h;cases ry;rcases hq with hq|hq
 ·obtain⟨its,r,pl,hz⟩:=I.list hq;refine SeqAt.in_listAt (CM x) pl.isList (fun w hw=>vW rx fx r fs w (by simpa using hw)) ⟨.bl _,H,I,rfl,?_⟩;rw[show its.toArray.any (CM x)=its.any (CM x) by simp,xy r fs];exact q
 ·obtain⟨its,r,pl,hz⟩:=I.tuple hq;refine SeqAt.in_tupleAt (CM x) pl (fun w hw=>vW rx fx r fs w (by simpa using hw)) ⟨.bl _,H,I,rfl,?_⟩;rw[show its.toArray.any (CM x)=its.any (CM x) by simp,xy r fs];exact q
theorem AD:OpR X (PX .NotIn) (N7 X.K true):=by
 intro pins s σ H x y v u Q I rx ry h;obtain⟨p,xs,rfl,hq,fx,fs,q⟩:=h;cases ry;rcases hq with hq|hq
 ·obtain⟨its,r,pl,hz⟩:=I.list hq;refine SeqAt.notIn_listAt (CM x) pl.isList (fun w hw=>vW rx fx r fs w (by simpa using hw)) ⟨.bl _,H,I,rfl,?_⟩;rw[show its.toArray.any (CM x)=its.any (CM x) by simp,xy r fs];exact q
 ·obtain⟨its,r,pl,hz⟩:=I.tuple hq;refine SeqAt.notIn_tupleAt (CM x) pl (fun w hw=>vW rx fx r fs w (by simpa using hw)) ⟨.bl _,H,I,rfl,?_⟩;rw[show its.toArray.any (CM x)=its.any (CM x) by simp,xy r fs];exact q
theorem A2:CallR X (.builtin "len") (fun xs H Q=>∃ p ys,xs=[.ref p]/\(SqL X.K H p ys\/SqT X.K H p ys)/\Q (.int ys.length) H):=by
 intro pins s σ H xs us Q I r h;obtain⟨p,ys,rfl,hq,q⟩:=h;obtain⟨u,rfl,rx⟩:=yu r;cases rx;have hn:=vv;rcases hq with hq|hq
 ·obtain⟨its,r',pl,hz⟩:=I.list hq;have hlen:=r'.length;exact Calls.call_len_list pl.isList (by simp only[am] <;> lia) ⟨.int ys.length,H,I.tok _,⟨s.toks+1,by rw[am,hlen]⟩,q⟩
 ·obtain⟨its,r',pl,hz⟩:=I.tuple hq;have hlen:=r'.length;exact len_tuple pl (by simp only[am] <;> lia) ⟨.int ys.length,H,I.tok _,⟨s.toks+1,by rw[am,hlen]⟩,q⟩
theorem A1:CallR X (.builtin "len") (fun xs H Q=>∃ z,xs=[.str z]/\z.length<=Pv/\Q (.int z.length) H):=by
 intro pins s σ H xs us Q I r h;obtain⟨z,rfl,hz,q⟩:=h;obtain⟨u,rfl,t,rfl⟩:=yu r;have hn:=vv;exact len_str (by lia) ⟨.int z.length,H,I.tok _,⟨_,rfl⟩,q⟩
theorem AZ:CallR X (.type "list") (fun xs H Q=>∃ p ys,xs=[.ref p]/\(SqL X.K H p ys\/SqT X.K H p ys)/\∀ l,H l=none->Q (.ref l) (uH H l (.lst ys))):=by
 intro pins s σ H xs us Q I r h;obtain⟨p,ys,rfl,hq,q⟩:=h;obtain⟨u,rfl,rx⟩:=yu r;cases rx;have fin:∀(its:List Pt),Vals ys its->ys.length<=Pv->∀(h':Qb) (c':Nat),(∀ b o',s.heap.get? b=some o'->h'.get? b=some o') ->
   h'.get? s.heap.objs.size=some { cls:=.type "list",dict:=none,data:=.seq its.toArray c',slots:=#[] }->EP X pins σ Q (.ref s.heap.objs.size) { s with heap:=h' }:=fun its r' hz h' c' kp e =>
  ⟨.ref s.heap.objs.size,_,I.laid (t':=s.toks) kp (ak _) (show ObjOk X.prog X.w _ h' _ (.lst ys) from⟨hz,its,c',r',e⟩),rfl,q _ (I.hok.fresh (ak _))⟩
 rcases hq with hq|hq
 ·obtain⟨its,r',pl,hz⟩:=I.list hq;have hlen:=r'.length;obtain⟨o,ho,hc,n,hd⟩:=pl.isList;exact call_list_seq p (.inl rfl) ho hc hd (fun h' c' kp e=>fin its r' hz h' c' kp e) (by simp only[am] <;> lia)
 ·obtain⟨its,r',pl,hz⟩:=I.tuple hq;have hlen:=r'.length;obtain⟨o,ho,hc,n,hd⟩:=pl;exact call_list_seq p (.inr rfl) ho hc hd (fun h' c' kp e=>fin its r' hz h' c' kp e) (by simp only[am] <;> lia)
theorem zt:CallR X (.type "tuple") (fun xs H Q=>∃ p ys,xs=[.ref p]/\((SqL X.K H p ys/\∀ l,H l=none->Q (.ref l) (uH H l (.tup ys)))\/(SqT X.K H p ys/\Q (.ref p) H))):=by
 intro pins s σ H xs us Q I r h;obtain⟨p,ys,rfl,h⟩:=h;obtain⟨u,rfl,rx⟩:=yu r;cases rx;rcases h with⟨hq,q⟩|⟨hq,q⟩
 ·obtain⟨its,r',pl,hz⟩:=I.list hq;have hlen:=r'.length;refine call_tuple_list pl.isList (fun h' kp=>?_) (by simp only[am] <;> lia);have I1:Inv X pins σ H { s with heap:=h' }:=I.kept (t':=s.toks) kp;have I2:Inv X pins σ (uH H h'.objs.size (.tup ys)) { s with heap:=h'.push { cls:=.type "tuple",data:=.seq its.toArray } } :=
   I1.laid (t':=s.toks) (fun b o e=>Pw _ e) (ak _) (show ObjOk X.prog X.w _ _ _ (.tup ys) from⟨hz,its,r',IsTup.new _ _⟩)
  exact⟨.ref h'.objs.size,_,I2,rfl,q _ (I1.hok.fresh (ak _))⟩
 ·obtain⟨its,r',pl,hz⟩:=I.tuple hq;exact call_tuple_same pl ⟨.ref p,H,I,rfl,q⟩
def NF(K:Frag)(T:String)(x:V)(H:Hp):Prop:=match x with
 | .str _=>T = "str"
 | .int _=>T = "int"
 | .ref p=>(T = "list" /\ ∃ xs,SqL K H p xs)\/(T = "tuple" /\ ∃ o,K.lookup p=some o/\o.cls = .type "tuple" /\ o.dict=none) \/
   (T = "dict" /\ ((∃ kvs,H p=some (.dK kvs))\/∃ kvs,H p=some (.dT kvs)))\/(T = "set" /\ ∃ S n,H p=some (.set S n))
 | _=>False
theorem Fb(I:Inv X pins σ H s)(r:RelV x v)(ty:NF X.K T x H) :
  s.TypeIs v T/\∀ a,v = .ref a->∃ ob,s.heap.get? a=some ob/\ob.dict=none:=by
 cases x with
 | str z =>
  obtain⟨t,rfl⟩:=r;cases (show T = "str" from ty);exact⟨typeIs_str s z t,fun _ e=>nomatch e⟩
 | int i =>
  obtain⟨t,rfl⟩:=r;cases (show T = "int" from ty);exact⟨typeIs_int s i t,fun _ e=>nomatch e⟩
 | ref p =>
  cases r;rcases ty with⟨rfl,xs,hq⟩|⟨rfl,o,hk,hc,hd⟩|⟨rfl,hk⟩|⟨rfl,S,n,hk⟩
  ·obtain⟨its,_,pl,_⟩:=I.list hq;refine⟨pl.isList.typeIs,fun a e=>?_⟩;cases e;obtain⟨o,n,e,c,hd,_⟩:=pl;exact⟨o,e,hd⟩
  ·refine⟨⟨o,I.kIn p o hk,hc⟩,fun a e=>?_⟩;cases e;exact⟨o,I.kIn _ o hk,hd⟩
  ·have z:∃ o,s.heap.get? p=some o/\o.ExactDict:=by
    rcases hk with⟨kvs,hk⟩|⟨kvs,hk⟩
    ·obtain⟨_,_,_,_,o,_,_,e,ex,_⟩:=I.hok p _ hk;exact⟨o,e,ex⟩
    ·obtain⟨_,_,_,_,o,_,_,e,ex,_⟩:=I.hok p _ hk;exact⟨o,e,ex⟩
   obtain⟨o,e,ex⟩:=z;refine⟨⟨o,e,ex.1⟩,fun a e2=>?_⟩;cases e2;exact⟨o,e,ex.2.1⟩
  ·obtain⟨o,_,_,_,e,ex,_⟩:=I.hok p _ hk;refine⟨⟨o,e,ex.1⟩,fun a e2=>?_⟩;cases e2;exact⟨o,e,ex.2.1⟩
 | _=>exact PD ty
def NU(K:Frag)(T:String)(r:V->List V->Hp->VK->Prop)(to:TE):TE:=fun σ H Q=>to σ H fun x H1=>NF K T x H1/\r x [] H1 Q
def Pa(K:Frag)(T:String)(r:V->List V->Hp->VK->Prop)(to:TE)(t:TA):TE:=fun σ H Q=>to σ H fun x H1=>NF K T x H1/\t σ H1 fun xs H2=>r x xs H2 Q
variable{o e:Expr}{es:List Expr}{to:TE}{t:TA}{name:Str}{apos cpos:Pos}{T id:String}{r:V->List V->Hp->VK->Prop}
theorem Cr(pa:PlainAttrs T)(slot:Slot T name id)(hty:typeOf (.builtin id)=pure (.type "method_descriptor"))(hm:OY X id r)(ho:PE X o to)
  (hbase:attributeBase o name X.env (eval o X.env)=eval o X.env:=by rfl) (hline:(apos.endLine == cpos.line)=true:=by rfl):PE X (.Call (.Attribute o name apos) [] [] cpos) (NU X.K T r to):=by
 intro pins s σ H Q I h;refine wpAny_Call_method0_late hbase hline (uA (ho pins s σ H _ I h) fun v s1 ⟨x,H1,I1,r1,ty,q1⟩=>?_);obtain⟨h1,h2⟩:=Fb I1 r1 ty;exact⟨T,id,pa,slot,hty,h1,h2,Calls.callWith_builtin rfl (PySem.evalArgs_none (hm pins s1 σ H1 x [] v [] Q I1 r1 .nil q1))⟩
theorem MD(pa:PlainAttrs T)(slot:Slot T name id)(hty:typeOf (.builtin id)=pure (.type "method_descriptor"))(hm:OY X id r)(ho:PE X o to)(ha:PA X (e::es) t)
  (hbase:attributeBase o name X.env (eval o X.env)=eval o X.env:=by rfl)
  (hfew:((backTo cpos (PN (e::es) X.env)).all (fun x => !x.1) && (backToKw cpos (keywordEach [] X.env)).all (fun x=>x.1.isSome)
   && decide ((e::es).length+([]:List Keyword).length+(if ([]:List Keyword).isEmpty then 0 else 1)<30))=true:=by rfl)
  (hline:(apos.endLine == cpos.line)=true:=by rfl) (hs:PN (e::es) X.env=(false,eval e X.env)::PN es X.env:=by rfl) (hplain:(backTo cpos (PN es X.env)).any (·.1)=false:=by rfl) :
  PE X (.Call (.Attribute o name apos) (e::es) [] cpos) (Pa X.K T r to t):=by
 intro pins s σ H Q I h;refine wpAny_Call_method_late hbase hfew hline rfl (uA (ho pins s σ H _ I h) fun v s1 ⟨x,H1,I1,r1,ty,q1⟩=>?_);obtain⟨h1,h2⟩:=Fb I1 r1 ty;refine⟨T,id,pa,slot,hty,h1,h2,?_⟩;have hA:=ha cpos pins s1 σ H1 _ I1 q1;rw[hs] at hA ⊢;refine Calls.callWith_builtin (by show (false || (backTo cpos (PN es X.env)).any (·.1))=false;rw[hplain] <;> rfl) (Calls.evalArgs_plain ?_);exact uA hA fun us s2 ⟨vs,H2,I2,r2,q2⟩=>hm pins s2 σ H2 x vs v us Q I2 r1 r2 q2
end
def OA(X:Cx)(id:String)(r:V->List V->Hp->VK->Prop):Prop :=
 ∀(pins:List (Addr×Obj)) (s:Shared) (σ:St) (H:Hp) (x:V) (xs:List V) (v:Value) (us:List Value) (Q:VK),Inv X pins σ H s->RelV x v->Vals xs us->r x xs H Q ->
  wpAny (model X.prog X.w) X.A (call (.builtin id) (v::us)) (EP X pins σ Q) X.xe s
theorem Vals.one:∀{x:V} {us:List Pt},Vals [x] us->∃ u,us=[u]/\RelV x u
 | _,_,.cons r .nil=>⟨_,rfl,r⟩
theorem Vals.zero:∀{us:List Pt},Vals [] us->us=[]
 | _,.nil=>rfl
theorem Vals.dropLast(h:Vals xs us):Vals xs.dropLast us.dropLast:=by
 induction h with
 | nil=>exact .nil
 | cons r t ih =>
  cases t with
  | nil=>exact .nil
  | cons q t'=>exact .cons r ih
theorem Vals.reverse(h:Vals xs us):Vals xs.reverse us.reverse:=by
 induction h with
 | nil=>exact .nil
 | cons r t ih=>rw[dJ,dJ];exact Vals.append ih (.cons r .nil)
theorem Vals.rep(h:Vals xs us):∀ k:Nat,Vals (Pu k xs).flatten (Pu k us).flatten
 | 0=>.nil
 | k+1=>by
  rw[bM,bM,cK,cK];exact Vals.append h (Vals.rep h k)
theorem CL{α:Type}(l:List α):l.eraseIdx (l.length-1)=l.dropLast:=by
 induction l with
 | nil=>rfl
 | cons a r ih =>
  cases r with
  | nil=>rfl
  | cons b r =>
   have e:(a::b::r).length-1=((b::r).length-1)+1:=by
    have h1:(a::b::r).length=r.length+2:=rfl;have h2:(b::r).length=r.length+1:=rfl;lia
   rw[e,List.eraseIdx_cons_succ,ih];all_goals rfl
theorem xM(its:List Pt):∀(k:Nat) (acc:List Pt),
  List.foldl (fun x1 x2=>x1++x2) acc.toArray (Pu k its.toArray)=(acc++(Pu k its).flatten).toArray
 | 0,acc=>by simp
 | k+1,acc=>by
  have e:acc.toArray++its.toArray=(acc++its).toArray:=by simp
  have e2:(acc++its)++(Pu k its).flatten=acc++(Pu (k+1) its).flatten:=by
   rw[bM,cK,List.append_assoc]
  rw[← e2,← xM its k (acc++its),← e,bM,List.foldl_cons]
section
variable{X:Cx}{pins:List (Addr×Obj)}{σ:St}{H:Hp}{s:Shared}{l b:Addr}{xs ys zs:List V}
theorem Inv.lset{its its':List Pt}(I:Inv X pins σ H s)(hH:H l=some (.lst xs))
  (e:s.heap.get? l=some { cls:=.type "list",data:=.seq its.toArray n }) (hf:f its.toArray=its'.toArray) (hv:Vals ys its') (hz:ys.length<=Pv) :
  Inv X pins σ (uH H l (.lst ys)) { s with heap:=s.heap.update l (PZ f),toks:=t' }:=by
 have q:=PySem.IsL.update e f;rw[hf] at q;refine I.write (x:=l) (e:=l) (by rw[hH];exact trivial) (.inl rfl) (fun b' u hb hu=>(Ql s.heap (PZ f) (Ne.symm hb)).trans hu) ⟨_,q⟩ ?_;exact⟨hz,its',_,hv,q⟩
theorem Inv.lnew(I:Inv X pins σ H s)(hv:Vals ys its)(hz:ys.length<=Pv) :
  Inv X pins σ (uH H s.heap.objs.size (.lst ys)) { s with heap:=s.heap.push { cls:=.type "list",data:=.seq its.toArray },toks:=t' } :=
 I.laid (fun _ _ q=>Pw _ q) (ak _) ⟨hz,its,0,hv,PF _ rfl⟩
theorem Inv.fresh(I:Inv X pins σ H s):H s.heap.objs.size=none:=I.hok.fresh (ak _)
theorem Inv.lstM(I:Inv X pins σ H s)(hH:H l=some (.lst xs)):xs.length<=Pv/\∃(its:List Pt) (n:Nat),Vals xs its/\xs.length=its.length/\s.heap.get? l=some { cls:=.type "list",data:=.seq its.toArray n }:=by
 obtain⟨z,its,n,r,e⟩:=I.hok l _ hH;exact⟨z,its,n,r,r.length,e⟩
theorem BC(h:n<=Pv):Qw n=false:=by
 unfold Qw;exact decide_eq_false (by lia)
end
section
variable{X:Cx}
def HL:V->List V->Hp->VK->Prop:=fun x vs H Q=>∃ l xs y,x = .ref l/\vs=[y]/\H l=some (.lst xs)/\xs.length<sizeLine/\Q .non (uH H l (.lst (xs++[y])))
theorem EK:OA X "list.append" HL:=by
 intro pins s σ H x vs v us Q I rx rv h;obtain⟨l,xs,y,rfl,rfl,hH,hz,q⟩:=h;cases rx;obtain⟨u,rfl,ru⟩:=rv.one;obtain⟨z,its,n,r,hl,e⟩:=I.lstM hH;refine QG F.slot_list_append ⟨_,e,rfl⟩ F.entry_list_append (F.args_list_append_2 _ _) (PySem.list_append l its.toArray n u (by rw[am];lia)) ⟨e,?_⟩;refine⟨.non,_,I.lset (its':=its++[u]) hH e (by simp) (r.append (.cons ru .nil)) ?_,rfl,q⟩;rw[aB,ig];lia
def N6:V->List V->Hp->VK->Prop:=fun x vs H Q=>∃ l xs y,x = .ref l/\vs=[]/\H l=some (.lst xs)/\xs[xs.length-1]? = some y/\Q y (uH H l (.lst xs.dropLast))
theorem Gp:OA X "list.pop" N6:=by
 intro pins s σ H x vs v us Q I rx rv h;obtain⟨l,xs,y,rfl,rfl,hH,hy,q⟩:=h;cases rx;have hus:=rv.zero;subst hus;obtain⟨z,its,n,r,hl,e⟩:=I.lstM hH;obtain⟨u,hu,ru⟩:=r.get hy;have hy':its.toArray[its.toArray.size-1]? = some u:=by
  show its.toArray[its.length-1]? = some u;rw[← Array.getElem?_toList,← hl];exact hu
 refine QG F.slot_list_pop ⟨_,e,rfl⟩ F.entry_list_pop (F.args_list_pop_1 _) (MeetsSeq.list_pop_last l its.toArray n u hy' (by rw[am];lia)) ⟨e,?_⟩;refine⟨y,_,I.lset (its':=its.dropLast) hH e ?_ r.dropLast ?_,ru,q⟩
 ·show its.toArray.eraseIdxIfInBounds (its.toArray.size-1)=its.dropLast.toArray;rw[am,List.eraseIdxIfInBounds_toArray,CL]
 ·rw[dR];lia
def N8:R2:=fun x y H Q=>∃ l b xs zs,x = .ref l/\y = .ref b/\H l=some (.lst xs)/\H b=some (.lst zs)/\xs.length+zs.length<=sizeLine/\∀ p,H p=none->Q (.ref p) (uH H p (.lst (xs++zs)))
theorem KP:OpR X (binaryOp .Add) N8:=by
 intro pins s σ H x y v u Q I rx ry h;obtain⟨l,b,xs,zs,rfl,rfl,hH,hB,hz,q⟩:=h;cases rx;cases ry;obtain⟨z,its,n,r,hl,e⟩:=I.lstM hH;obtain⟨z2,its2,n2,r2,hl2,e2⟩:=I.lstM hB;refine PySem.P.add_list e e2 ?_ (by rw[am,am];lia);have ea:its.toArray++its2.toArray=(its++its2).toArray:=by simp
 rw[ea];exact⟨.ref _,_,I.lnew (t':=s.toks) (r.append r2) (by rw[aB];lia),rfl,q _ I.fresh⟩
def N5:R2:=fun x y H Q=>∃ l k xs,x = .ref l/\y = .int k/\H l=some (.lst xs) /\ -(2^63)<=k/\k<2^63/\xs.length*k.toNat<=sizeLine /\
 ∀ p,H p=none->Q (.ref p) (uH H p (.lst (List.replicate k.toNat xs).flatten))
theorem AN{α:Type}(xs:List α)(k:Nat):(Pu k xs).flatten.length=k*xs.length:=by
 induction k with
 | zero=>simp
 | succ k ih=>rw[bM,cK,aB,ih,bh,Nat.add_comm]
theorem Ge:OpR X (binaryOp .Mult) N5:=by
 intro pins s σ H x y v u Q I rx ry h;obtain⟨l,k,xs,rfl,rfl,hH,h1,h2,hz,q⟩:=h;cases rx;obtain⟨t,rfl⟩:=ry;obtain⟨z,its,n,r,hl,e⟩:=I.lstM hH;have hlen:its.toArray.size*k.toNat<=Pv:=by rw[am,← hl];exact hz
 have hcap:¬ its.toArray.size*k.toNat > (2^63-1) / 8:=by
  have:(Pv:Nat)<=(2^63-1) / 8:=by decide
  lia
 have hfit:¬ (!Builtin.List.listFitsIndex k)=true:=by
  rw[fitsIndex_both h1 h2];exact aI
 have hlong:¬ Qw (its.toArray.size*k.toNat)=true:=by
  rw[BC hlen];exact aI
 have hnew:List.foldl (fun x1 x2=>x1++x2) #[] (Pu (if its.toArray.isEmpty=true then 0 else k.toNat) its.toArray)=(Pu k.toNat its).flatten.toArray:=by
  have f0:∀ m:Nat,List.foldl (fun x1 x2=>x1++x2) #[] (Pu m its.toArray)=(Pu m its).flatten.toArray:=fun m=>by
   have:=xM its m [];rw[List.nil_append] at this;exact this
  rw[f0];cases its with
  | nil=>simp
  | cons a r'=>rw[QJ (by simp)]
 refine wpAny_binaryOp_repeat_ref (T := "list") (U := "int") (by decide) ⟨_,e,rfl⟩ (fun s'=>typeIs_int s' k t) noFill_list_mul F.fills_int_mul F.slot_int_rmul repeat_list F.slot_int_index.lookup
  (QG F.slot_int_rmul (typeIs_int s k t) F.entry_int_rmul (F.args_int_rmul_2 _ _) (int___rmul___int_list k t l its.toArray n)
   ⟨e,rfl,⟨_,e,rfl⟩,QG F.slot_list_mul ⟨_,e,rfl⟩ F.entry_list_mul (F.args_list_mul_2 _ _) (AutoListH.list___mul___list_int_3 l its.toArray n k t hfit hcap hlong) ⟨e,?_⟩⟩)
 rw[hnew];exact⟨.ref _,_,I.lnew (t':=s.toks) (r.rep k.toNat) (by rw[AN,bQ];exact hz),rfl,q _ I.fresh⟩
end
section
variable{prog:Program}{w:World}{A:Around}{E:Value->Shared->Prop}{s:Shared}
set_option maxRecDepth 100000 in
end
end L2
namespace Att
open PySem PySem.W PySem.Calls PyProof.Rows
theorem ye:∀(ns:List Int) (vs:List Pt),WellAll P h vs (ns.map WData.int)->IntsAre vs ns:=by
 intro ns;induction ns with
 | nil =>
  intro vs w;rw[List.map_nil] at w;cases w;exact .nil
 | cons n ns ih =>
  intro vs w;rw[dQ] at w;cases w with
  | cons a b =>
   cases a;exact .cons _ _ (ih _ b)
theorem Eu{l:OpenLaw}(hn:l.most=some n)
  (hpre:l.row.toRowW.claim.pre args=true) (hwl:WellAll P h vals args) :
  ∃ a vs ns,vals=[Value.ref a]/\args=[WData.list (ns.map WData.int)]/\h.get? a=some { cls:=.type "list",data:=.seq vs.toArray }/\IntsAre vs ns/\ns.length<=n:=by
 have hsh:WShape.hasAll [] args [.list .int]=true:=(pre_splitW hpre).1;have hc:l.pre.holds [] { args:=args }=true:=(pre_splitW hpre).2;obtain⟨d,r,rfl,h1,h2⟩:=hasAllW_cons hsh;obtain rfl:=hasAllW_nil h2;obtain⟨xs,rfl,h3⟩:=hasW_list h1;obtain⟨ns,rfl⟩:=items_int h3;have hlen:ns.length<=n:=by
  unfold OpenLaw.pre at hc;have h4:(WTm.not (.lt (.lit (.int (n:Int))) (.len (.arg 0)))).holds [] { args:=[.list (ns.map .int)] }=true:=by
   have h4:=(holds_andW hc).1;rw[hn] at h4;exact h4
  have h5:=condW_of h4 (w_not (w_lt w_lit (w_len_list (w_arg rfl))));rw[aa] at h5;refine Nat.le_of_not_lt fun q=>?_;have q':(n:Int)<((ns.length:Nat):Int):=by lia
  first
   | (rw[decide_eq_true q'] at h5;exact absurd h5 (by decide))
   | (simp at h5;lia)
 cases hwl with
 | cons w1 w2 =>
  cases w2;cases w1 with
  | list ho hall=>exact⟨_,_,ns,rfl,rfl,ho,ye ns _ hall,hlen⟩
theorem Ez(l:OpenLaw)(args:List WData):l.row.toRowW.claim.post args (.bool true) args=true :=
 postW_of (r:=l.row.toRowW) (X:=(true == true))
  (show WShape.has [] (.bool true) .bool=true by first|rfl|decide|simp[WShape.has,WShape.arms,WShape.armsAll])
  (show (WTm.eq .res (.lit (.bool true))).value [] { args:=args,res:=some (.bool true),after:=args }=some (.bool (true == true)) from w_eq_bool (w_res rfl) w_lit) rfl
theorem BY{l:OpenLaw}{d:DefRec}
  (hn:l.most=some n) (hdf:d.params.defaults=[])
  (call:∀(w:P3) (s₀ s₁:Px) (mg mb:PR->Option Pt) (fa:Py) (o:QF) (pm cd doc:Pt) (a:Py) (vs:List Pt) (ns:List Int),
   Ground q loose [] XP w s₀ mg mb s₁.heap->YP w s₁.heap ->
   s₁.heap.get? fa=some o->o.data = .func (docDef d.name d.params d.body d.scope pm cd doc)->s₁.heap.CodeRec cd d.name->mg d.name=some (.ref fa) ->
   s₁.heap.get? a=some { cls:=.type "list",data:=.seq vs.toArray }->IntsAre vs ns->ns.length<=n->s₁.gens = #[] ->
   codeAny (model l.prog w) callerA (.call (.ref fa) ⟨[.ref a],[]⟩) (fun r s'=>r = .ok (.ret (.bool true))/\OldK s₁.heap s'.heap/\s'.os=s₁.os/\AllBare s'.gens) s₁) :
  WalkO q loose XP YP l.row.toRowW d [] (fun f vs=>PySem.call f vs):=by
 intro w s₀ s₁ mg mb G Y fa o pm cd doc dV kV ho hd hcd hD hmg hg args vals as hpre hlay hrd hwl hlo;obtain rfl:dV = .none:=Dflts.none hD hdf;obtain rfl:kV = .none:=Dflts.noKw hD;obtain⟨a,vs,ns,rfl,rfl,hobj,hints,hlen⟩:=Eu hn hpre hwl;refine enter_call (codeAny_mono (call w s₀ s₁ mg mb fa o pm cd doc a vs ns G Y ho (fd_plain hd) hcd hmg hobj hints hlen hg) fun r s' hq=>?_);obtain⟨rfl,h2,h3,h4⟩:=hq;exact⟨.inl ⟨.bool true,.bool true,[],rfl,fun _=>rfl,.bool true,Ez l _,fun _=>⟨List.Pairwise.nil,fun _ hm=>(nomatch hm)⟩⟩,h2,h3,h4⟩
end Att
namespace L2
open PySem PySem.Spec PyProof.Rows
theorem xC:∀{vs:List Pt} {ns:List Int},IntsAre vs ns->Vals (ns.map V.int) vs
 | _,_,.nil=>.nil
 | _,_,.cons n t h=>.cons ⟨t,rfl⟩ (xC h)
def LJ(H:Hp):Prop:=∀ b,H b=none\/∃ o xs,H b=some (.frz o (.lst xs))
theorem Gz{P:PU}{K:PM}{s₁:Px}{vs:List Pt}
  (KX:K.In s₁.heap) (hns:s₁.heap.Ns PJ mg) (hb:s₁.heap.Ns builtinsNs mb) (hbb:∀ x:PR,x ≠ "__name__" -> mb x=P0 x) (hlim:s₁.heap.NoLimit) (hse:s₁.heap.NoSeer) (htr:P.given.tree=none) (hg:s₁.gens = #[])
  (ha:s₁.heap.get? a=some { cls:=.type "list",data:=.seq vs.toArray }) (hi:IntsAre vs ns) (hl:ns.length<=Pv) (hr:Room k callerA)
  (F:∀ base:Qb,K.In base->base.Ns PJ mg->FnOk P w K mg base CX k fa fd [x] sp) (hbind:∀(s:Px) (u:Pt),BindsTo s fd ⟨[u],[]⟩ [(x,u)])
  (hsp:∀ H:Hp,LJ H->SqL K H a (ns.map V.int)->sp [.ref a] H (fun v _=>v = .bl true) fun _ _ _=>False)
  (hCX:∀ H e s',CX [] H s₁ (fun _ _ _=>False) e s'->False) :
  codeAny (model P w) callerA (.call (.ref fa) ⟨[.ref a],[]⟩) (fun r s'=>r = .ok (.ret (.bool true))/\OldK s₁.heap s'.heap/\s'.os=s₁.os/\AllBare s'.gens) s₁:=by
 have rv:=xC hi;have lenV:=hi.length
 -- from an abstract heap in which nothing but the script may be tracked
 have core:∀ H:Hp,LJ H->SqL K H a (ns.map V.int)->HOk P w H s₁.heap->(∀ b,H b≠none->b=a)->(H a≠none->K.lookup a=none) ->
   codeAny (model P w) callerA (.call (.ref fa) ⟨[.ref a],[]⟩) (fun r s'=>r = .ok (.ret (.bool true))/\OldK s₁.heap s'.heap/\s'.os=s₁.os/\AllBare s'.gens) s₁:=by
  intro H hO hS hok hA hK;have base_of:∀{b:Py} {o:QF},s₁.heap.get? b=some o->H b=none->(zr s₁.heap H).get? b=some o:=fun e n=>GF e n;have noA:∀{b:Py} {o:QF} {es:Array DictEntry} {ep:Nat},s₁.heap.get? b=some o->o.data = .dict es ep->H b=none:=fun {b o es ep} e d=>by
   cases q:H b with
   | none=>rfl
   | some u =>
    have e':b=a:=hA b (by rw[q];simp);subst e';rw[ha] at e;cases e;have d':Data.seq vs.toArray _=Data.dict es ep:=d;cases d'
  have nsK:∀{b:Py} {m:PR->Option Pt},s₁.heap.Ns b m->(zr s₁.heap H).Ns b m:=fun {b m} ⟨o,es,ep,e,d,r⟩=>⟨o,es,ep,base_of e (noA e d),d,r⟩;have hKb:K.In (zr s₁.heap H):=fun b o e=>base_of (KX b o e) (by
   cases q:H b with
   | none=>rfl
   | some u =>
    have e':b=a:=hA b (by rw[q];simp);subst e';rw[hK (by rw[q];simp)] at e;cases e)
  have hM:Mod K mg (zr s₁.heap H):=⟨hKb,nsK hns,⟨mb,nsK hb,hbb⟩,let ⟨mc,h1,h2⟩:=hlim;⟨mc,nsK h1,h2⟩⟩;have hsr:(zr s₁.heap H).NoSeer:=by
   obtain⟨⟨mc,a1,b1⟩,⟨mm,a2,b2⟩,⟨mi,a3,b3⟩,⟨mq,bm,ob,a4,b4,c4,d4,e4⟩⟩:=hse;refine⟨⟨mc,nsK a1,b1⟩,⟨mm,nsK a2,b2⟩,⟨mi,nsK a3,b3⟩,⟨mq,bm,ob,nsK a4,b4,base_of c4 ?_,d4,e4⟩⟩;cases q:H bm with
   | none=>rfl
   | some u =>
    have e':bm=a:=hA bm (by rw[q];simp);subst e';rw[ha] at c4;cases c4;exact absurd (show (Qz "list")=Qz "module" from d4) (by decide)
  have e0:Env0 P w K mg (zr s₁.heap H) callerA [] s₁ H:=⟨rfl,hM,fun b o e=>Ie e,Nat.le_of_eq (ET _ _),trivial,fun b hb=>absurd (show b∈([]:List Py) from hb) (by simp),hok,.of_eq hg,hsr,htr⟩;refine codeAny_mono ((F _ hKb (nsK hns)).run callerA [] s₁ H ⟨[.ref a],[]⟩ [.ref a] [.ref a] _ _ hr e0 (hbind s₁ (.ref a)) (.cons rfl .nil) (hsp H hO hS)) fun r s' h=>?_;cases r with
  | error e=>exact (hCX H e s' h).elim
  | ok fl =>
   cases fl with
   | next=>exact PD h
   | brk=>exact PD h
   | cont=>exact PD h
   | ret u =>
    obtain⟨v,H',os,bare,un,hok',r',q⟩:=h;have q':v = .bl true:=q;subst q';obtain rfl:u=Value.bool true:=r';refine⟨rfl,OldK.of_keep fun b o e=>?_,os,bare⟩;cases q:H b with
    | none=>exact un.keep b o e q (by intro z;exact absurd (show b∈([]:List Py) from z) (by simp)) (by simp)
    | some u =>
     rcases hO b with z|⟨ob,xs,z⟩
     ·rw[q] at z;cases z
     ·have z2:=un.frzs b ob _ z;obtain⟨e1,_⟩:=hok b _ z;obtain⟨e2,_⟩:=hok' b _ z2;rw[e] at e1;cases e1;exact e2
 cases hk:K.lookup a with
 | some o =>
  -- the script is one of the module's own objects
  have e:=KX a o hk;rw[ha] at e;cases e;refine core (fun _=>none) (fun _=>.inl rfl) (.inr ⟨_,vs.toArray,_,hk,rfl,rfl,rfl,by rw[am,lenV];exact hl,by simpa using rv⟩) (fun b u z=>by have z':(none:Option HO)=some u:=z;cases z') (fun b z=>absurd rfl z) fun z=>absurd rfl z
 | none =>
  refine core (fun b=>if b=a then some (.frz { cls:=.type "list",data:=.seq vs.toArray } (.lst (ns.map V.int))) else none) (fun b=>?_) (.inl (.inr ⟨{ cls:=.type "list",data:=.seq vs.toArray },QI rfl⟩)) (fun b u z=>?_) (fun b z=>?_) fun _=>hk
  ·by_cases hb:b=a
   ·exact .inr ⟨_,_,QI hb⟩
   ·exact .inl (QJ hb)
  ·by_cases hb:b=a
   ·have z':=(QI hb).symm.trans z;cases z';subst hb;exact⟨ha,by rw[aa];exact hl,vs,_,rv,ha⟩
   ·have z':=(QJ hb).symm.trans z;cases z'
  ·by_cases hb:b=a
   ·exact hb
   ·exact absurd (QJ hb) z
theorem Hx{l:PySem.W.OpenLaw}{n k:Nat}{q:PU}{loose:List PR}{YP:P3->Qb->Prop}{d:DefRec}{K:Params->PM}{CX:P3->E7}{sp:P3->Sp}{x:PR}
  (hn:l.most=some n) (hn2:n<=Pv) (hdf:d.params.defaults=[]) (hr:Room k callerA)
  (hY:∀(w:P3) (h:Qb),YP w h->(K w.params).In h)
  (F:∀(w:P3) (mg:PR->Option Pt) (fa:Py) (h:Qb),(K w.params).In h->h.Ns PJ mg->mg d.name=some (.ref fa) ->
   ∃ fd:Qt,(∀(s:Px) (u:Pt),BindsTo s fd ⟨[u],[]⟩ [(x,u)]) /\
    ∀ base:Qb,(K w.params).In base->base.Ns PJ mg->FnOk l.prog w (K w.params) mg base (CX w) k fa fd [x] (sp w))
  (hsp:∀(w:P3) (H:Hp) (a:Py) (ns:List Int),ns.length<=n->LJ H->SqL (K w.params) H a (ns.map V.int)->sp w [.ref a] H (fun v _=>v = .bl true) fun _ _ _=>False)
  (hCX:∀(w:P3) (H:Hp) (s:Px) (e:Pt) (s':Px),CX w [] H s (fun _ _ _=>False) e s'->False) (hi:importsNone q=true:=by decide +kernel) (ht:l.prog.given.tree=none:=by rfl) :
  PySem.W.WalkO q loose XP YP l.row.toRowW d [] (fun f vs=>PySem.call f vs):=by
 refine Att.BY hn hdf fun w s₀ s₁ mg mb fa o pm cd doc a vs ns G Y ho hd hcd hmg hobj hints hlen hg=>?_;have KX:=hY w _ Y;obtain⟨fd,hb,hF⟩:=F w mg fa _ KX G.T.g hmg;exact Gz KX G.T.g G.T.b G.T.builtins G.T.nolimit (G.T.seer hi) ht hg hobj hints (aD hlen hn2) hr hF hb (fun H hO hS=>hsp w H a ns hlen hO hS) fun H e s'=>hCX w H s₁ e s'
def wd(s:Stmt):Arguments:=match s with
 | .FunctionDef _ a _ _ _ _ _ _ _ _=>a
 | _=>{ posonlyargs:=[],args:=[],vararg:=none,kwonlyargs:=[],kw_defaults:=[],kwarg:=none,defaults:=[] }
def u7(s:Stmt):List Stmt:=match s with
 | .FunctionDef _ _ b _ _ _ _ _ _ _=>b
 | _=>[]
def ug(s:Stmt):Scope:=match s with
 | .FunctionDef _ _ _ _ _ _ sc _ _ _=>sc
 | _=>{ kind:=.function,names:=[],isGenerator:=false,isCoroutine:=false }
abbrev Dh:E7:=fun _ _ _ _ _ _=>False
abbrev E0:XK:=fun _ _ _=>False
theorem MG:De Dh X E0:=fun _ _ _ _ _ _ _ h=>h.elim
structure Fun (K:Frag)(x qual:Str)(st:Stmt)(f:Addr)(fd:FuncData):Prop where
 ex:∃(oc:Value) (od:Option Addr) (kV doc pm:Value) (an:Option Addr) (cdv ct:Value) (osl:Array (Option Value)),
  fd=PySem.W.fnOf x qual (wd st) (u7 st) (ug st) .none kV doc pm an cdv ct/\K.lookup f=some ⟨oc,od,.func fd,osl⟩/\PySem.W.codeIn K cdv qual=true
 kp:PySem.W.keepIn K (.ref f)=true
section
variable{P:Program}{w:World}{K:Frag}{mg:Str->Option Value}{base:Heap}
theorem Fun.ok{x qual:PR}{st:PY}{f:Py}{fd:Qt}{N ps:List PR}{k:Nat}{sp:Sp}(F:Fun K x qual st f fd)(S:FnScope N ps (ug st))(len:∀ vs H Q E,sp vs H Q E->vs.length=ps.length)
  (hbody:∀(cdv:Pt) (A:Qi) (outer:List Env) (s:Px) (H:Hp) (vs:List V) (Q:VK) (E:XK),Room k (A.deeper (envOfC qual (ug st) s.heap.objs.size f cdv))->sp vs H Q E ->
   ∃ t,PSs (CW Dh P w K mg base N qual (ug st) f cdv A outer s H E).nox (u7 st) t/\t { nx:=fun _ H'=>Q .non H',rt:=Q } (start N vs) H):FnOk P w K mg base Dh (k+1) f fd ps sp:=by
 obtain⟨oc,od,kV,doc,pm,an,cdv,ct,osl,rfl,lk,hcd⟩:=F.ex;refine MY lk hcd S len fun A outer s H vs Q E hr hsp=>?_;obtain⟨t,h,q⟩:=hbody cdv A outer s H vs Q E hr hsp;exact⟨t,h.nox,q⟩
theorem Fun.binds{x qual:PR}{st:PY}{f:Py}{ps:List PR}(F:Fun K x qual st f fd)
  (h:∀(kV doc pm:Pt) (an:Option Py) (cdv ct:Pt) (us:List Pt),us.length=ps.length->bindArgs (QA x qual (wd st) (u7 st) (ug st) .none kV doc pm an cdv ct) ⟨us,[]⟩=pure (ps.zip us)):Binds K fd ps []:=by
 obtain⟨oc,od,kV,doc,pm,an,cdv,ct,osl,rfl,lk,hcd⟩:=F.ex;exact .all (h kV doc pm an cdv ct)
theorem K9{x qual:PR}{st:PY}{f:Py}{oc:Pt}{od an:Option Py}{kV doc pm cdv ct:Pt}(l:K.lookup f=some ⟨oc,od,.func (QA x qual (wd st) (u7 st) (ug st) .none kV doc pm an cdv ct),osl⟩)
  (c:PySem.W.codeIn K cdv qual=true) (k:PySem.W.keepIn K (.ref f)=true):Fun K x qual st f (QA x qual (wd st) (u7 st) (ug st) .none kV doc pm an cdv ct):=⟨⟨oc,od,kV,doc,pm,an,cdv,ct,osl,rfl,l,c⟩,k⟩
end
section
variable{X:Cx}
theorem pv(i:Nat)(hN:X.N[i]? = some x:=by rfl)(hv:JR X.env.scope x:=by first|exact Or.inl rfl|exact Or.inr (Or.inl rfl)|exact Or.inr (Or.inr rfl))(hd:(x == ("__debug__" : PR))=false:=by decide)
  (hcd:(x == ("__classdict__" : PR))=false:=by decide):PE X (.Name x pos) (wV i):=Cp hN hv hd hcd
end
theorem Og{A B:Prop}(h:B):if false=true then A else B:=by
 rw[QJ aI];exact h
theorem IC{c A B:Prop}[Decidable c](h1:c->A)(h2:¬ c->B):if c then A else B:=by
 by_cases h:c
 ·rw[QI h];exact h1 h
 ·rw[QJ h];exact h2 h
def Same(H H':Hp):Prop:=∀ b o,H b=some o->H' b=some o
theorem Same.trans(a:Same H H1)(b:Same H1 H2):Same H H2:=fun c o h=>b c o (a c o h)
theorem Same.seq{K:PM}{H H':Hp}{a:Py}{xs:List V}(e:Same H H')(h:SqL K H a xs):SqL K H' a xs:=by
 rcases h with (h|⟨o,h⟩)|h
 ·exact .inl (.inl (e _ _ h))
 ·exact .inl (.inr ⟨o,e _ _ h⟩)
 ·exact .inr h
theorem uT{β:Type}:∀{l:List (PR×β)} {x:PR} {k:β},l.lookup x=some k->(x,k)∈l
 | [],_,_,h=>by simp at h
 | (n,k')::r,x,k,h=>by
  rw[eZ] at h;cases e:x == n with
  | true =>
   rw[e] at h;have e':x=n:=Qa e;have h':some k'=some k:=h;cases h';rw[e'];exact aG
  | false =>
   rw[e] at h;exact aA _ (uT h)
theorem AM{β:Type}:∀{l:List (PR×β)} {x:PR} {k:β},(x,k)∈l->∃ k',l.lookup x=some k'
 | [],_,_,h=>by simp at h
 | (n,k')::r,x,k,h=>by
  rw[eZ];cases e:x == n with
  | true=>exact⟨k',rfl⟩
  | false =>
   rcases av.mp h with q|q
   ·cases q;simp at e
   ·exact AM q
def wQ(env:Env)(x:Str)(k:NameKind):NameKind:=if (k == .free && env.scope.kind == .function && env.kindOf x == some .cell) then .cell else k
theorem xq{env:Env}{x:PR}:∀{l:List (PR×P8)},
  (l.map fun (n,k)=>if (k == Qe && env.scope.kind == .function && env.kindOf n == some .cell) then (n,QD) else (n,k)).lookup x=(l.lookup x).map (wQ env x)
 | []=>rfl
 | (n,k)::r=>by
  rw[dQ];have ih:=@xq env x r;have e0:(match ((n,k):PR×P8) with|(n,k)=>if (k == Qe && env.scope.kind == .function && env.kindOf n == some .cell) then (n,QD) else (n,k))=(n,wQ env n k):=by
   show (if (k == Qe && env.scope.kind == .function && env.kindOf n == some .cell)=true then (n,QD) else (n,k))=(n,wQ env n k);unfold wQ;split <;> rfl
  rw[e0,eZ,eZ];cases e:x == n with
  | true =>
   have e':x=n:=Qa e;subst e';rfl
  | false=>exact ih
def vf(cells:List (Str×Addr)):List (Str×NameKind)->List (Str×Addr)->List (Str×Addr)
 | [],acc=>acc
 | (n,k)::r,acc=>if k == .free then vf cells r ((n,(cells.lookup n).getD 0)::acc) else vf cells r acc
theorem v7:∀{l:List (PR×P8)} {acc:List (PR×Py)},(∀ y∈l,y.2 = .free->∃ c,cells.lookup y.1=some c)->(∀ p∈acc,cells.lookup p.1=some p.2) ->
  ∀ p∈vf cells l acc,cells.lookup p.1=some p.2
 | [],acc,_,ha,p,hp=>ha p hp
 | (n,k)::r,acc,hl,ha,p,hp=>by
  unfold vf at hp;have hl':∀ y∈r,y.2 = .free->∃ c,cells.lookup y.1=some c:=fun y hy=>hl y (aA _ hy);cases hk:k == Qe with
  | true =>
   rw[hk,QI rfl] at hp;refine v7 hl' (fun q hq=>?_) p hp;rcases av.mp hq with e|e
   ·subst e;obtain⟨c,e⟩:=hl (n,k) aG (Qa hk);show cells.lookup n=some ((cells.lookup n).getD 0);rw[show cells.lookup n=some c from e];rfl
   ·exact ha q e
  | false =>
   rw[hk,QJ aI] at hp;exact v7 hl' ha p hp
theorem zb:∀{l:List (PR×P8)} {acc:List (PR×Py)} {p:PR×Py},p∈acc->p∈vf cells l acc
 | [],_,_,h=>h
 | (n,k)::r,acc,p,h=>by
  unfold vf;split
  ·exact zb (aA _ h)
  ·exact zb h
theorem xw:∀{l:List (PR×P8)} {acc:List (PR×Py)} {x:PR},(x,Qe)∈l->∃ c,(x,c)∈vf cells l acc
 | [],_,_,h=>by simp at h
 | (n,k)::r,acc,x,h=>by
  unfold vf;rcases av.mp h with e|e
  ·cases e;rw[QI (by rfl)];exact⟨_,zb aG⟩
  ·split
   ·exact xw e
   ·exact xw e
theorem wP:∀{l:List (PR×P8)} {acc:List (PR×Py)},(∀ y∈l,y.2 = .free->∃ c,env.cells.lookup y.1=some c) ->
  (forIn l acc (fun (x:PR×P8) (r:List (PR×Py))=>(if (x.2 == Qe)=true then do let c ← cellOf env x.1;pure (ForInStep.yield ((x.1,c)::r)) else pure (ForInStep.yield r):Sem _)))=pure (vf env.cells l acc)
 | [],_,_=>rfl
 | (n,k)::r,acc,hl=>by
  have hl':∀ y∈r,y.2 = .free->∃ c,env.cells.lookup y.1=some c:=fun y hy=>hl y (aA _ hy);rw[List.forIn_cons];unfold vf;cases hk:k == Qe with
  | true =>
   obtain⟨c,e⟩:=hl (n,k) aG (Qa hk);have e':env.cells.lookup n=some c:=e;simp only[hk,if_true];rw[show cellOf env n=pure c by unfold cellOf;rw[e']];simp only[pure_bind];rw[wP hl',e'];rfl
  | false =>
   simp only[hk,cu,if_false,pure_bind];exact wP hl'
theorem xR:∀{l:List (PR×P8)} {acc:List (PR×Py)} {p:PR×Py},p∈vf cells l acc->p∈acc\/(p.1,Qe)∈l
 | [],_,_,h=>.inl h
 | (n,k)::r,acc,p,h=>by
  unfold vf at h;split at h
  ·rename_i hk;rcases xR h with z|z
   ·rcases av.mp z with e|e
    ·subst e;rw[Qa hk];exact .inr aG
    ·exact .inl e
   ·exact .inr (aA _ z)
  ·exact (xR h).imp id (aA _)
theorem C4:∀{l:List (PR×P8)} {n:Nat} {acc:List (PR×Py)} {p:PR×Py},p∈cellsFrom n l acc->p∈acc\/(n<=p.2/\(p.1,QD)∈l)
 | [],_,_,_,h=>.inl h
 | (x,k)::r,n,acc,p,h=>by
  unfold cellsFrom at h;split at h
  ·rename_i hk;rcases C4 h with z|z
   ·rcases av.mp z with e|e
    ·subst e;rw[Qa hk];exact .inr ⟨ak _,aG⟩
    ·exact .inl e
   ·exact .inr ⟨dh z.1,aA _ z.2⟩
  ·exact (C4 h).imp id fun z=>⟨z.1,aA _ z.2⟩
theorem zd:∀{l:List (PR×P8)} {n:Nat} {acc:List (PR×Py)} {p:PR×Py},p∈acc->p∈cellsFrom n l acc
 | [],_,_,_,h=>h
 | (x,k)::r,n,acc,p,h=>by
  unfold cellsFrom;split
  ·exact zd (aA _ h)
  ·exact zd h
theorem GZ:∀{l:List (PR×P8)} {n:Nat} {acc:List (PR×Py)} {x:PR},(x,QD)∈l->∃ c,(x,c)∈cellsFrom n l acc
 | [],_,_,_,h=>by simp at h
 | (y,k)::r,n,acc,x,h=>by
  unfold cellsFrom;rcases av.mp h with e|e
  ·cases e;rw[QI (by rfl)];exact⟨_,zd aG⟩
  ·split <;> exact GZ e
theorem C5:∀{l:List (PR×P8)} {n:Nat} {acc:List (PR×Py)},(∀ p∈acc,p.2<n)->(∀ x y c,(x,c)∈acc->(y,c)∈acc->x=y)->∀ x y c,(x,c)∈cellsFrom n l acc->(y,c)∈cellsFrom n l acc->x=y
 | [],_,_,_,h=>h
 | (z,k)::r,n,acc,hl,h=>by
  unfold cellsFrom;split
  ·refine C5 (fun p hp=>?_) fun x y c hx hy=>?_
   ·rcases av.mp hp with e|e
    ·subst e;exact Nat.lt_succ_self _
    ·exact iO (hl p e)
   ·rcases av.mp hx with e|e <;> rcases av.mp hy with e'|e'
    ·cases e;cases e';rfl
    ·cases e;exact absurd (hl _ e') (ca _)
    ·cases e';exact absurd (hl _ e) (ca _)
    ·exact h x y c e e'
  ·exact C5 hl h
theorem AY:∀{l:List (PR×P8)} {h:Qb} {acc:List (PR×Py)} {p:PR×Py},p∈cellsFrom h.objs.size l acc->p∈acc\/(pushCells h l).IsCell p.2 none
 | [],_,_,_,q=>.inl q
 | (x,k)::r,h,acc,p,q=>by
  unfold cellsFrom at q;unfold pushCells;split at q
  ·rename_i hk;rw[QI hk];rw[← QH h { cls:=.type "cell",data:=.cell none }] at q;rcases AY q with z|z
   ·rcases av.mp z with e|e
    ·subst e;exact .inr ⟨_,pushCells_keeps _ _ _ _ (PF _ rfl),rfl⟩
    ·exact .inl e
   ·exact .inr z
  ·rename_i hk;rw[QJ hk];exact AY q
theorem y7{cells:List (PR×Py)}(hfr:∀ y∈names,y.2 = .free->∃ c,cells.lookup y.1=some c)(h:(x,c)∈cellsFrom n names (vf cells names [])) :
  (cells.lookup x=some c/\(x,Qe)∈names)\/(n<=c/\(x,QD)∈names):=by
 rcases C4 h with z|z
 ·refine .inl ⟨v7 hfr (fun _ z=>absurd z bf) (x,c) z,?_⟩;rcases xR z with w|w
  ·exact absurd w bf
  ·exact w
 ·exact .inr z
theorem Ij{s:Px}
  (h:Q (newEnv scope s.heap.objs.size g (cellsFrom (s.heap.objs.size+1) scope.names cl) qual none .none (some env) builtinsNs) { s with heap:=pushCells (s.heap.push { cls:=.type "dict",data:=.dict #[] }) scope.names }) :
  PH M A (newFunctionEnv scope g cl [] qual none .none (some env)) Q E s:=by
 simp only[newFunctionEnv,Option.isSome_some,if_true];refine On (wpAny_alloc ?_);refine On (wpAny_layCells _ (fun name kind cells=>by cases hkc:kind == QD <;> simp[hkc]) _ _ _ _ ?_);rw[show ({ s with heap:=s.heap.push { cls:=.type "dict",data:=.dict #[] } }:Px).heap.objs.size=s.heap.objs.size+1 from QH ..];refine On ?_;rw[List.forIn_nil];exact PB (PB h)
def x9(hide:List Nat)(σ:St):St:=hide.foldl (fun s i=>s.set i none) σ
theorem hideS_len:∀{hide:List Nat} {σ:St},(x9 hide σ).length=σ.length
 | [],_=>rfl
 | i::r,σ=>by
  show (x9 r (σ.set i none)).length=_;rw[hideS_len,bx]
theorem z9:∀{hide:List Nat} {σ:St} {i:Nat} {v:V},(x9 hide σ)[i]? = some (some v)->i ∉ hide/\σ[i]? = some (some v)
 | [],_,_,_,h=>⟨by simp,h⟩
 | j::r,σ,i,v,h=>by
  obtain⟨h1,h2⟩:=z9 (hide:=r) (σ:=σ.set j none) h;by_cases e:j=i
  ·subst e;by_cases hl:j<σ.length
   ·rw[ff hl] at h2;cases h2
   ·rw[bC (by simp;lia)] at h2;cases h2
  ·rw[aL e] at h2;exact⟨by simp[h1,Ne.symm e],h2⟩
def wj(X:Cx)(scope:Scope)(s2:Shared)(H2:Hp)(fp:List Addr)(pins:List (Addr×Obj))(C:Addr):Cx where
 prog:=X.prog
 w:=X.w
 K:=X.K
 mg:=X.mg
 base:=X.base
 A:=X.A
 N:=X.N
 s₀:=s2
 H₀:=H2
 env:=compEnvC scope (cellsFrom (C+1) scope.names (vf X.env.cells scope.names [])) C X.env
 outer:=X.stack
 stack:=X.stack
 ex:=fp
 fn:=fun x=>scope.names.lookup x == some .cell
 calm:=X.calm
 pn:=X.pn++pins
 xe:=fun _ _=>False
structure CompS (N:List Str)(out:Scope)(scope:Scope)(hide:List Nat):Prop where
 kind:scope.kind = .function
 one:∀ y∈scope.names,scope.names.lookup y.1=some y.2
 free:∀ y∈scope.names,y.2 = .free->out.names.lookup y.1=some .cell\/out.names.lookup y.1=some .free
 loc:∀ y∈scope.names,y.2 = .local->scope.names.lookup y.1=some .local
 own:∀(i:Nat),i<N.length->(scope.names.lookup (N.getD i "")=some .local\/scope.names.lookup (N.getD i "")=some .cell)->i∈hide
section
variable{X:Cx}{pins:List (Addr×Obj)}{σ:St}{H:Hp}{s:Shared}
theorem Pq(S:CompS X.N X.env.scope scope hide)(I:Inv X pins σ H s)(hf:∀ b∈fp,wm X pins H b)(hfo:∀ b∈fp,∃ o,s.heap.get? b=some o)
  (hC:s.heap.objs.size<=C):(wj X scope s H fp pins C).Ok:=by
 have hfr:∀ y∈scope.names,y.2 = .free->∃ c,X.env.cells.lookup y.1=some c:=fun y hy e=>I.ok.has y.1 (S.free y hy e);have old:∀ x c,X.env.cells.lookup x=some c->c<s.heap.objs.size:=fun x c e=>by
  obtain⟨v,o,ho,_⟩:=I.cell x c e;exact PC ho
 have cl:∀ p∈vf X.env.cells scope.names [],X.env.cells.lookup p.1=some p.2:=v7 hfr fun _ z=>absurd z bf;refine⟨I.ok.mod,S.kind,I.ok.glob,I.ok.blt,hC,fun x y c e1 e2=>C5 (fun p hp=>iO (aC (old _ _ (cl p hp)) hC)) (fun x y c h1 h2=>I.ok.inj x y c (cl _ h1) (cl _ h2)) x y c (uT e1) (uT e2),fun x hx=>?_,fun x c h e=>?_,I.ok.hd,I.ok.frames,.inl rfl,fun b hb=>⟨?_,fun x c e=>?_⟩,I.bs,
  aD I.ok.bsz I.sz,fun b o e hb=>?_,fun b hb z=>?_,I.stack,I.stkFree,I.ok.sr,I.ok.rn⟩
 ·have hx':((scope.names.lookup x).map (wQ X.env x)=some .cell)\/((scope.names.lookup x).map (wQ X.env x)=some .free):=by
   rw[← xq];exact hx
  cases q:scope.names.lookup x with
  | none=>rw[q] at hx';rcases hx' with z|z <;> cases z
  | some k =>
   have mem:=uT q;have kf:k = .free\/k = .cell:=by
    rw[q] at hx';have hx2:wQ X.env x k = .cell\/wQ X.env x k = .free:=hx'.imp PP PP;unfold wQ at hx2;by_cases c:(k == Qe && X.env.scope.kind == .function && X.env.kindOf x == some .cell)=true
    ·simp only[bT,beq_iff_eq] at c;exact .inl c.1.1
    ·rw[QJ c] at hx2;exact hx2.symm
   rcases kf with kf|kf
   ·subst kf;obtain⟨c,hc⟩:=xw (cells:=X.env.cells) (acc:=[]) mem;exact AM (zd hc)
   ·subst kf;obtain⟨c,hc⟩:=GZ (n:=C+1) (acc:=vf X.env.cells scope.names []) mem;exact AM hc
 ·have h:scope.names.lookup x=some .cell:=Qa h;rcases y7 hfr (uT e) with⟨_,z⟩|⟨z,_⟩
  ·rw[S.one _ z] at h;cases h
  ·exact aD hC (dh z)
 ·obtain⟨o,e⟩:=hfo b hb;exact bt (aC (PC e) hC)
 ·obtain⟨o,e'⟩:=hfo b hb;rcases y7 hfr (uT e) with⟨z,_⟩|⟨z,_⟩
  ·exact (hf b hb).2.2.2.2.1 x c z
  ·exact gm (aC (PC e') (aD hC (dh z)))
 ·rcases (hf b hb).2.2.2.1 with z|z
  ·exact I.ok.noex b o e z
  ·exact absurd (aC (PC (I.ok.bs b o e).1) z) (ca _)
 ·rcases av.mp (I.stkSub b z) with q|q
  ·exact (hf b hb).2.1 q
  ·exact (hf b hb).2.2.1 q
theorem Nr(I:Inv X pins σ H s)(h:s.heap.objs.size<=a):a ∉ B8 X.stack:=fun z=>by
 rcases av.mp (I.stkSub a z) with q|q
 ·exact absurd (aC I.lt (by rw[← q];exact h)) (ca _)
 ·exact I.nofs h q
theorem Ot(S:CompS X.N X.env.scope scope hide){h4:Qb}(I:Inv X pins σ H s)(hf:∀ b∈fp,wm X pins H b)(hfo:∀ b∈fp,∃ o,s.heap.get? b=some o)
  (hC:s.heap.objs.size<=C) (hD:s.heap.objs.size<=D) (hDC:D≠C) (k:∀ b u,s.heap.get? b=some u->h4.get? b=some u) (hcl:∀ p∈cellsFrom (C+1) scope.names (vf X.env.cells scope.names []),p∈vf X.env.cells scope.names []\/h4.IsCell p.2 none) (hn:h4.Ns C m) (hDo:h4.get? D=some ob) (hob:∀ v,ob.data ≠ .cell v) :
  Inv (wj X scope s H fp pins C) [(D,ob)] (x9 hide σ) H { s with heap:=h4,toks:=tk }:=by
 have ok:=Pq S I hf hfo hC;have hfr:∀ y∈scope.names,y.2 = .free->∃ c,X.env.cells.lookup y.1=some c:=fun y hy e=>I.ok.has y.1 (S.free y hy e);have sub:∀ x c,(x,c)∈vf X.env.cells scope.names []->X.env.cells.lookup x=some c:=fun x c e=>v7 hfr (fun _ z=>absurd z bf) (x,c) e;have ck:∀ c v,s.heap.IsCell c v->h4.IsCell c v:=fun c v ⟨o,ho,hd⟩=>⟨o,k c o ho,hd⟩;refine⟨ok,rfl,I.bare,Un.kept k,⟨m,hn,fun i x v e1 e2 e3=>?_⟩,fun x c e=>?_,I.hok.fresh hC,fun x c e=>?_,fun p hp=>?_,I.hok.kept k,hideS_len.trans I.len⟩
 ·obtain⟨n1,n2⟩:=z9 e2;have e3':((scope.names.lookup x).map (wQ X.env x)=some .local)\/((scope.names.lookup x).map (wQ X.env x)=some .cell)\/((scope.names.lookup x).map (wQ X.env x)=some .free):=by
   rw[← xq];exact e3
  cases q:scope.names.lookup x with
  | none=>rw[q] at e3';rcases e3' with z|z|z <;> cases z
  | some kd =>
   rw[q] at e3';have e4:wQ X.env x kd = .local\/wQ X.env x kd = .cell\/wQ X.env x kd = .free:=e3'.imp PP fun z=>z.imp PP PP;have mem:=uT q;by_cases kl:kd = .local\/kd = .cell
   ·have hi:X.N[i]? = some x:=e1;obtain⟨hlt,hge⟩:=aj.mp hi;refine absurd (S.own i hlt ?_) n1;rw[ae,hi];exact kl.imp (fun z=>by rw[← z];exact q) fun z=>by rw[← z];exact q
   ·have kf:kd = .free:=by
     unfold wQ at e4;by_cases c:(kd == Qe && X.env.scope.kind == .function && X.env.kindOf x == some .cell)=true
     ·simp only[bT,beq_iff_eq] at c;exact c.1.1
     ·rw[QJ c] at e4;rcases e4 with z|z|z
      ·exact absurd (.inl z) kl
      ·exact absurd (.inr z) kl
      ·exact z
    subst kf;have kx:=S.free _ mem rfl;obtain⟨m0,_,hl⟩:=I.loc;obtain⟨u,r,l⟩:=hl i x v e1 n2 (.inr kx);refine⟨u,r,?_⟩;rcases l with⟨z,_⟩|⟨_,c,e,z⟩
    ·have z':X.env.scope.names.lookup x=some .local:=z;rw[z'] at kx;rcases kx with w|w <;> cases w
    ·obtain⟨c',hc'⟩:=xw (cells:=X.env.cells) (acc:=[]) mem;obtain⟨c2,hc2⟩:=AM (zd (n:=C+1) (l:=scope.names) hc');have ec:c2=c:=by
      rcases y7 hfr (uT hc2) with⟨w,_⟩|⟨_,w⟩
      ·exact PP (w.symm.trans e)
      ·have w1:=S.one _ w;rw[q] at w1;cases w1
     subst ec;refine .inr ⟨?_,c2,hc2,ck c2 _ z⟩;have e5:((relabel scope X.env).names.lookup x)=some (wQ X.env x .free):=by
      show (List.map _ scope.names).lookup x=_;rw[xq,q];rfl
     rcases e4 with w|w|w
     ·unfold wQ at w;split at w <;> cases w
     ·exact .inl (e5.trans (by rw[w]))
     ·exact .inr (e5.trans (by rw[w]))
 ·rcases hcl _ (uT e) with w|w
  ·obtain⟨v,z⟩:=I.cell x c (sub x c w);exact⟨v,ck c v z⟩
  ·exact⟨_,w⟩
 ·rcases y7 hfr (uT e) with⟨w,_⟩|⟨w,_⟩
  ·exact I.freeC x c w
  ·exact I.hok.fresh (aD hC (dh w))
 ·rcases bS.mp hp with z|z
  ·obtain⟨e,n,ne,nf,d⟩:=I.pin p z;refine⟨k _ _ e,n,bt (aC (PC e) hC),fun y=>?_,d⟩;rcases av.mp (I.stkSub _ y) with q|q
   ·exact ne q
   ·exact nf q
  ·have e:p=(D,ob):=by simpa using z
   subst e;exact⟨hDo,I.hok.fresh hD,hDC,Nr I hD,hob⟩
theorem Os{its:List Pt}(I:Inv X pins σ H s)(hf:∀ b∈fp,wm X pins H b)
  (hD:s.heap.objs.size<=D) (J:Inv (wj X scope s H fp pins C) pins' τ H' s') (hp:(D,({ cls:=.type "list",data:=.seq its.toArray n }:QF))∈pins') (hv:Vals ys its) (hz:ys.length<=Pv) :
  Inv X pins σ (uH H' D (.lst ys)) s':=by
 obtain⟨eD,nD,_⟩:=J.pin _ (aY _ hp);have u:Un (B8 X.stack) fp H H' s.heap s'.heap:=J.base;have ne:∀ b o,s.heap.get? b=some o->b≠D:=fun b o e=>bt (aC (PC e) hD);have u':Un (B8 X.stack) fp H (uH H' D (.lst ys)) s.heap s'.heap:=by
  refine⟨u.keep,u.slot,fun b o e q hx=>?_,u.there,fun b xs e=>?_,fun b o v e=>?_,fun b ps e=>?_⟩
  ·rw[ul (ne b o e)];exact u.free b o e q hx
  ·have q:=u.tups b xs e;rw[ul (ut q nD)];exact q
  ·have q:=u.frzs b o v e;rw[ul (ut q nD)];exact q
  ·obtain⟨more,q⟩:=u.tbls b ps e;refine⟨more,?_⟩;rw[ul (ut q nD)];exact q
 have hok:HOk X.prog X.w (uH H' D (.lst ys)) s'.heap:=fun b o e=>by
  by_cases hb:b=D
  ·subst hb;rw[ur] at e;cases e;exact⟨hz,its,n,hv,eD⟩
  ·rw[ul hb] at e;exact (J.hok b o e).stay (fun _ _ _ q=>q) (fun c q=>by rw[ul (ut q nD)];exact q) fun c xs q=>by rw[ul (ut q nD)];exact q
 refine I.call' (show s'.os=s.os from J.os) u' hok J.bare fun b hb=>?_;obtain⟨f0,f1,f2,f3,f4,f5⟩:=hf b hb;exact⟨f3,f1,f4,f5⟩
end
abbrev yS(its:List Value)(n:Nat):Obj:={ cls:=.type "list",data:=.seq its.toArray n }
def PTs(X:Cx)(ifs:List Expr)(t:TT):Prop :=
 ∀(pins:List (Addr×Obj)) (s:Shared) (σ:St) (H:Hp) (Q:Bool->Hp->Prop),Inv X pins σ H s->t σ H Q ->
  wpAny (model X.prog X.w) X.A (forIn ifs true fun c r=>if r=true then do let ok ← isTrue c X.env (eval c X.env);pure (ForInStep.yield ok) else pure (ForInStep.yield r)) (TP X pins σ Q) X.xe s
def NI:TT:=fun _ H Q=>Q true H
theorem pts_nil:PTs X [] NI:=fun _ _ _ H _ I h=>wpAny_tests_nil ⟨H,I,h⟩
theorem HM(hc:PT X c t):PTs X [c] t:=fun pins s σ H Q I h=>wpAny_tests_one (hc pins s σ H Q I h)
theorem Nf{Y:Cx}{tg iter elt:Expr}{ifs:List Expr}{scope:Scope}{pos:Pos}{g:TG}{te:TE}{tt:TT}{J:It}{fp:List Py}{it D:Py}{tn:Nat->Qb->Prop}{R:Result->Px->Prop}
  {W:Nat->Nat->St->List V->Hp->Prop} {Z:List V->Hp->Prop} {s:Px} {σ:St} {H:Hp} {m n0:Nat}
  (T:Turn Y.prog Y.w Y.K tg J fp it tn) (hc:Y.calm=true) (hg:PG Y tg g) (ht:PTs Y ifs tt) (he:PE Y elt te) (hx:∀ e s,Y.xe e s->False)
  (stat:∀ ob H',(∀ b∈fp,H' b=none)->∀ b∈fp,wm Y [(D,ob)] H' b) (hDs:Y.s₀.heap.objs.size<=D) (hDc:∀ x c,Y.env.cells.lookup x=some c->c≠D) (hDp:∀ p∈Y.pn,p.1≠D)
  (Aq:∀ k m τ ys H,W k m τ ys H->(J.stop k H/\Z ys H)\/(J.go k H/\ys.length<Pv/\∀ x H',J.yld k H x H'->g x τ H' fun τ2 H2=>tt τ2 H2 fun b H3 =>
   if b=true then te τ2 H3 fun v H4=>∃ m',m'<m/\W (k+1) m' τ2 (ys++[v]) H4 else ∃ m',m'<m/\W (k+1) m' τ2 ys H3))
  (out:∀(τ:St) (H':Hp) (s':Px) (ys:List V) (its:List Pt) (n:Nat),Inv Y [(D,yS its n)] τ H' s'->Vals ys its->ys.length<=Pv->Z ys H'->R (.ok .next) s')
  (I:Inv Y [(D,yS [] n0)] σ H s) (st:tn 0 s.heap) (fr:∀ b∈fp,H b=none) (w0:W 0 m σ [] H) :
  codeAny (model Y.prog Y.w) Y.A (.compLoop (.ListComp elt [⟨tg,iter,ifs,0⟩] scope pos) 0 (.ref it) (.ref D) Y.env) R s:=by
 refine codeAny_loop rfl (fun m s'=>∃ k τ H' ys its n,Inv Y [(D,yS its n)] τ H' s'/\tn k s'.heap/\(∀ b∈fp,H' b=none)/\Vals ys its/\ys.length<=Pv/\W k m τ ys H') (fun m1 s1 h1=>?_) m ⟨0,σ,H,[],[],n0,I,st,fr,.nil,aE _,w0⟩;obtain⟨k,τ,H1,ys,its,n,I1,st1,fr1,rv,hz,w1⟩:=h1;have no:∀{E:Pt->Px->Prop} {α:Type} {c:Sem α} {Q:α->Px->Prop} {s:Px},PH (model Y.prog Y.w) Y.A c Q Y.xe s->PH (model Y.prog Y.w) Y.A c Q E s:=fun {E α c Q s} h=>wpAny_mono h (fun _ _ q=>q) fun e s' q=>(hx e s' q).elim;show PH _ Y.A ((compTurn (.ListComp elt [⟨tg,iter,ifs,0⟩] scope pos) 0 (.ref it) (.ref D) Y.env).onRaise _) _ _ s1;refine wpAny_noted ?_;rw[compTurn_list];refine On (wpAny_standAt (On ?_));rcases Aq k m1 τ ys H1 w1 with⟨stop,z⟩|⟨go,hlt,step⟩
 ·refine uA (T.done Y rfl rfl rfl hc k _ s1 τ H1 _ I1 (stat _ _ fr1) st1 stop) fun r s2 ⟨hr,I2⟩=>?_;subst hr;exact PB (out τ H1 s2 ys its n I2 rv hz z)
 ·refine uA (T.item Y rfl rfl rfl hc k _ s1 τ H1 _ I1 (stat _ _ fr1) st1 go) fun r s2 ⟨u,hr,h2⟩=>?_;subst hr;refine On (uA h2 fun _ s3 ⟨x,H3,I3,r3,y3,st3,fr3⟩=>?_);have I3':=I3.pinned (stat _ _ fr3) (T.obj _ _ st3);refine On (no (uA (hg _ s3 τ H3 x u _ I3' r3 (step x H3 y3)) fun _ s4 ⟨τ4,H4,I4,q4⟩=>?_));refine On (no (uA (ht _ s4 τ4 H4 _ I4 q4) fun ok s5 ⟨H5,I5,q5⟩=>?_));have frs5:∀{H':Hp} {s':Px} {τ':St},Inv Y ([(D,yS its n)]++yN fp s3.heap) τ' H' s'->tn (k+1) s'.heap/\∀ b∈fp,H' b=none:=fun {H' s' τ'} I'=>by
   refine⟨T.keep _ _ _ st3 fun b hb o e=>(I'.pin (b,o) (aY _ (aY _ (vE hb e)))).1,fun b hb=>?_⟩;obtain⟨o,e,d⟩:=T.obj _ _ st3 b hb;exact (I'.pin (b,o) (aY _ (aY _ (vE hb e)))).2.1
  cases ok with
  | false =>
   have q5':∃ m',m'<m1/\W (k+1) m' τ4 ys H5:=q5;obtain⟨m',hm,w5⟩:=q5';obtain⟨a1,a2⟩:=frs5 I5;exact PB ⟨rfl,m',hm,k+1,τ4,H5,ys,its,n,I5.unpinned,a1,a2,rv,hz,w5⟩
  | true =>
   have q5':te τ4 H5 fun v H4=>∃ m',m'<m1/\W (k+1) m' τ4 (ys++[v]) H4:=q5;refine On (On (no (uA (he _ s5 τ4 H5 _ I5 q5') fun v s6 ⟨y,H6,I6,r6,m',hm,w6⟩=>?_)));obtain⟨a1,a2⟩:=frs5 I6;have I7:=I6.unpinned;obtain⟨eD,nD,neD,nfD,_⟩:=I7.pin (D,yS its n) (aY _ aG);have hlen:=rv.length;have eD':s6.heap.get? D=some { cls:=.type "list",data:=.seq its.toArray n }:=eD;refine On (QG F.slot_list_append ⟨_,eD',rfl⟩ F.entry_list_append (F.args_list_append_2 _ _) (PySem.list_append D its.toArray n v (by rw[am];lia)) ⟨eD',?_⟩);have qD:=PySem.IsL.update eD' (·.push v);have I8:Inv Y [] τ4 H6 s6:=I7.pins_of fun p hp=>absurd hp bf;have I9:Inv Y [] τ4 H6 { s6 with heap:=s6.heap.update D (PZ (·.push v)) }:=I8.turned (t':=s6.toks) (fun b o hb e=>(Ql s6.heap (PZ (·.push v)) (Ne.symm hb)).trans e) nD neD (.inr hDs) hDc fun p hp=>hDp p (by simpa using hp);have ep:its.toArray.push v=(its++[v]).toArray:=by simp
   rw[ep] at qD;obtain⟨n2,qD⟩:∃ n2,(s6.heap.update D (PZ (·.push v))).get? D=some (yS (its++[v]) n2):=⟨_,qD⟩;have I10:Inv Y [(D,yS (its++[v]) n2)] τ4 H6 { s6 with heap:=s6.heap.update D (PZ (·.push v)) }:=I9.pins_of fun p hp=>by
    have e:p=(D,yS (its++[v]) n2):=by simpa using hp
    subst e;exact⟨qD,nD,neD,nfD,fun v z=>by have z':Data.seq _ _=Data.cell v:=z;cases z'⟩
   refine PB (PB ⟨rfl,m',hm,k+1,τ4,H6,ys++[y],its++[v],_,I10,?_,a2,rv.append (.cons r6 .nil),?_,w6⟩)
   ·refine T.keep _ _ _ a1 fun b hb o e=>(Ql s6.heap (PZ (·.push v)) ?_).trans e;have f5:=(stat (yS its n) H6 a2 b hb).2.2.2.2.2;exact f5 (D,yS its n) (aY _ aG)
   ·rw[aB,ig];lia
theorem za(h:∀ y∈scope.names,y.2 = .free->∃ c,env.cells.lookup y.1=some c):closureFor scope env=pure (vf env.cells scope.names []):=by
 have q:=wP (env:=env) (acc:=[]) h;unfold closureFor;show (forIn scope.names [] _ >>= fun r=>pure r)=_;refine Eq.trans (congrArg (· >>= fun r=>pure r) (Eq.trans ?_ q)) (by simp);refine congrArg (forIn scope.names []) ?_;funext x r;obtain⟨n,k⟩:=x;first
  | rfl
  | (dsimp only;split <;> simp)
def JT(J:It)(g:TG)(tt:TT)(te:TE)(σ:St)(Q:VK)(H1:Hp):Prop:=∃ W:Nat->Nat->St->List V->Hp->Prop,(∃ m,W 0 m σ [] H1) /\
 ∀ k m τ ys H,W k m τ ys H->(J.stop k H/\∀ D,H D=none->Q (.ref D) (uH H D (.lst ys)))\/(J.go k H/\ys.length<sizeLine/\∀ x H',J.yld k H x H'->g x τ H' fun τ2 H2=>tt τ2 H2 fun b H3 =>
   if b=true then te τ2 H3 fun v H4=>∃ m',m'<m/\W (k+1) m' τ2 (ys++[v]) H4 else ∃ m',m'<m/\W (k+1) m' τ2 ys H3)
def Jd(wi:TI)(hide:List Nat)(g:TG)(tt:TT)(te:TE):TE:=fun σ H Q=>wi σ H fun J H1=>JT J g tt te (x9 hide σ) Q H1
theorem Hj{X:Cx}{pins:List (Py×QF)}{σ:St}{H:Hp}{s:Px}{elt tg iter:Expr}{ifs:List Expr}{scope:Scope}{pos:Pos}{hide:List Nat}{g:TG}{te:TE}{tt:TT}{J:It}{fp:List Py}{it:Py}{tn:Nat->Qb->Prop}{RR:Pt->Py->Result->Px->Prop}{Q:VK}{E:Pt->Px->Prop}
  (hc:X.calm=true) (S:CompS X.N X.env.scope scope hide)
  (hg:∀ s2 H2 fp pins C,PG (wj X scope s2 H2 fp pins C) tg g) (ht:∀ s2 H2 fp pins C,PTs (wj X scope s2 H2 fp pins C) ifs tt) (he:∀ s2 H2 fp pins C,PE (wj X scope s2 H2 fp pins C) elt te)
  (I:Inv X pins σ H s) (T:Turn X.prog X.w X.K tg J fp it tn) (st:tn 0 s.heap) (hf:∀ b∈fp,wm X pins H b)
  (h:∃ W:Nat->Nat->St->List V->Hp->Prop,(∃ m,W 0 m (x9 hide σ) [] H) /\
   ∀ k m τ ys H,W k m τ ys H->(J.stop k H/\∀ D,H D=none->Q (.ref D) (uH H D (.lst ys)))\/(J.go k H/\ys.length<Pv/\∀ x H',J.yld k H x H'->g x τ H' fun τ2 H2=>tt τ2 H2 fun b H3 =>
    if b=true then te τ2 H3 fun v H4=>∃ m',m'<m/\W (k+1) m' τ2 (ys++[v]) H4 else ∃ m',m'<m/\W (k+1) m' τ2 ys H3))
  (hRR:∀ D C s' ys H',Inv X pins σ (uH H' D (.lst ys)) s'->wm X pins (uH H' D (.lst ys)) C->(∃ m,s'.heap.Ns C m)->Q (.ref D) (uH H' D (.lst ys))->RR (.ref D) C (.ok .next) s') :
  PH (model X.prog X.w) X.A (newList []) (fun acc s3=>PH (model X.prog X.w) X.A (newFunctionEnv scope X.env.globals (vf X.env.cells scope.names []) [] X.env.qual none .none (some X.env)) (fun cenv s4 =>
   codeAny (model X.prog X.w) X.A (.compStart (.ListComp elt [⟨tg,iter,ifs,0⟩] scope pos) 0 (.ref it) acc { cenv with scope:=relabel scope X.env }) (RR acc cenv.locals) s4) E s3) E s:=by
 obtain⟨W,⟨m0,w0⟩,Aq⟩:=h;refine wpAny_newList (Ij ?_) (by simp);dsimp only;generalize hH2:s.heap.push { cls:=.type "list",data:=.seq ([]:List Pt).toArray }=H2;have hC:H2.objs.size=s.heap.objs.size+1:=by rw[← hH2,QH]
 have k2:∀ b o,H2.get? b=some o->(pushCells (H2.push { cls:=.type "dict",data:=.dict #[] }) scope.names).get? b=some o:=fun b o e=>pushCells_keeps _ _ b o (Pw _ e);have hcl:∀ p∈cellsFrom (H2.objs.size+1) scope.names (vf X.env.cells scope.names []),p∈vf X.env.cells scope.names []\/(pushCells (H2.push { cls:=.type "dict",data:=.dict #[] }) scope.names).IsCell p.2 none:=fun p hp=>by
  rw[← QH H2 { cls:=.type "dict",data:=.dict #[] }] at hp;exact AY hp
 have hns₁:(pushCells (H2.push { cls:=.type "dict",data:=.dict #[] }) scope.names).Ns H2.objs.size fun _=>none:=(Heap.Ns.new H2 (.type "dict")).keeps (pushCells_keeps _ _);generalize pushCells (H2.push { cls:=.type "dict",data:=.dict #[] }) scope.names=h₁ at k2 hcl hns₁ ⊢;have k1:∀ b o,s.heap.get? b=some o->h₁.get? b=some o:=fun b o e=>k2 b o (hH2 ▸ Pw _ e);have hDC:s.heap.objs.size≠H2.objs.size:=by rw[hC];exact bt (Nat.lt_succ_self _)
 have eD:h₁.get? s.heap.objs.size=some (yS [] 0):=k2 _ _ (hH2 ▸ PF _ rfl);have hfo:∀ b∈fp,∃ o,s.heap.get? b=some o:=fun b hb=>let ⟨o,e,_⟩:=T.obj _ _ st b hb;⟨o,e⟩;have hle:s.heap.objs.size<=H2.objs.size:=by rw[hC];exact eO _
 have I1:=Ot (tk:=s.toks) S I hf hfo hle (ak _) hDC k1 hcl hns₁ eD (fun v z=>by have z':Data.seq _ _=Data.cell v:=z;cases z');have sub:∀ x c,(cellsFrom (H2.objs.size+1) scope.names (vf X.env.cells scope.names [])).lookup x=some c->X.env.cells.lookup x=some c\/H2.objs.size+1<=c:=fun x c e=>(y7 (fun y hy e=>I.ok.has y.1 (S.free y hy e)) (uT e)).imp (·.1) (·.1);have st1:tn 0 h₁:=T.keep _ _ _ st fun b _ o e=>k1 b o e;have lp:codeAny (model X.prog X.w) X.A (.compLoop (.ListComp elt [⟨tg,iter,ifs,0⟩] scope pos) 0 (.ref it) (.ref s.heap.objs.size) (compEnvC scope (cellsFrom (H2.objs.size+1) scope.names (vf X.env.cells scope.names [])) H2.objs.size X.env)) (RR (.ref s.heap.objs.size) H2.objs.size)
   { s with heap:=h₁ }:=by
  refine Nf (Y:=wj X scope s H fp pins H2.objs.size) (Z:=fun ys H=>∀ D,H D=none->Q (.ref D) (uH H D (.lst ys))) T hc (hg _ _ _ _ _) (ht _ _ _ _ _) (he _ _ _ _ _) (fun _ _ z=>z) (fun ob H' hn b hb=>?_) (ak _) (fun x c e z=>?_) (fun p hp z=>?_) Aq (fun τ H' s' ys its n J rv hz q=>?_) I1 st1 (fun b hb=>(hf b hb).1) w0
  ·obtain⟨f0,f1,f2,f3,f4,f5⟩:=hf b hb;obtain⟨o,e⟩:=hfo b hb;have lb:=PC e;refine⟨hn b hb,bt (aC lb hle),fun z=>?_,.inl hb,fun x c e=>(sub x c e).elim (f4 x c) fun z=>gm (aC lb (aD hle (dh z))),fun p hp=>?_⟩
   ·rcases av.mp (I.stkSub b z) with q|q
    ·exact f1 q
    ·exact f2 q
   ·rcases bS.mp hp with z|z
    ·exact f5 p z
    ·have e:p=(s.heap.objs.size,ob):=by simpa using z
     subst e;exact gm lb
  ·rcases sub x c e with w|w
   ·obtain⟨v,o,ho,_⟩:=I.cell x c w;exact absurd (PC ho) (by rw[z];exact ca _)
   ·rw[z,hC] at w;exact absurd (dh w) (Nat.not_succ_le_self _)
  ·exact absurd (PC (I.pin p hp).1) (by rw[z];exact ca _)
  ·obtain⟨_,nD,_⟩:=J.pin _ (aY _ aG);have nC:H' H2.objs.size=none:=J.free;refine hRR _ _ s' ys H' (Os I hf (ak _) J aG rv hz) (I.fpOk hle ?_) ?_ (q _ nD)
   ·rw[ul (Ne.symm hDC)];exact nC
   ·obtain⟨m,hm,_⟩:=J.loc;exact⟨m,hm⟩
 exact codeAny_compStart_list lp (T.self X.A 0 _ _ _ st1 lp)
section
variable{X:Cx}{elt tg iter:Expr}{ifs:List Expr}{scope:Scope}{pos:Pos}{hide:List Nat}{wi:TI}{g:TG}{te:TE}{tt:TT}
theorem HV(hc:X.calm=true)(S:CompS X.N X.env.scope scope hide)(hi:PI X tg iter wi)
  (hg:∀ s2 H2 fp pins C,PG (wj X scope s2 H2 fp pins C) tg g) (ht:∀ s2 H2 fp pins C,PTs (wj X scope s2 H2 fp pins C) ifs tt) (he:∀ s2 H2 fp pins C,PE (wj X scope s2 H2 fp pins C) elt te)
  (hs:∀ x,foldedSetIterable iter X.env x=pure x:=by intro _;rfl):PE X (.ListComp elt [⟨tg,iter,ifs,0⟩] scope pos) (Jd wi hide g tt te):=by
 intro pins s σ H Q I h;rw[eval_ListComp];refine wpAny_comprehension_free (use:=none) rfl hs (za fun y hy e=>I.ok.has y.1 (S.free y hy e)) S.kind S.loc (uA (hi pins s σ H _ I h) fun v s1 h1=>uA h1 fun itv s2 h2=>?_);obtain⟨it,fp,tn,J,H2,e,I2,T,st2,f2,q2⟩:=h2;subst e;refine Hj (RR:=fun acc C=>compPost (model X.prog X.w) X.A X.xe none (EP X pins σ Q) acc C) hc S hg ht he I2 T st2 f2 q2 fun D C s' ys H' I' fC hN q=>?_;obtain⟨m,hm⟩:=hN;obtain⟨f0,f1,f2,f3,f4,f5⟩:=fC;refine⟨m,hm,fun h' sb=>⟨.ref D,_,?_,rfl,q⟩⟩;exact I'.turned (t':=s'.toks) (fun b o hb e=>(sb.2 b hb).trans e) f0 f1 f3 f4 f5
theorem HN(hc:X.calm=true)(hN:X.N.Nodup)(hy:X.N[i]? = some y)(hl:En X.env.scope y)(S:CompS X.N X.env.scope scope hide)(hi:PI X tg iter wi)
  (hg:∀ s2 H2 fp pins C,PG (wj X scope s2 H2 fp pins C) tg g) (ht:∀ s2 H2 fp pins C,PTs (wj X scope s2 H2 fp pins C) ifs tt) (he:∀ s2 H2 fp pins C,PE (wj X scope s2 H2 fp pins C) elt te)
  (hs:∀ x,foldedSetIterable iter X.env x=pure x:=by intro _;rfl)
  (hsw:swapsWith (.ListComp elt [⟨tg,iter,ifs,0⟩] scope pos) (some (.Name y py)) spos.line X.env=pure true:=by rfl)
  (hf:X.fn y=true\/X.env.scope.names.lookup y=some .local:=by first|exact .inl rfl|exact .inr rfl|assumption) :
  PS X (.Assign [.Name y py] (.ListComp elt [⟨tg,iter,ifs,0⟩] scope pos) spos) (fun D σ H=>Jd wi hide g tt te σ H fun v H1=>D.nx (σ.set i (some v)) H1):=by
 intro pins s σ H D I h;rw[exec_Assign_Name_used _ _ _ _ hsw];refine On (wpAny_standAt (On ?_));show PH _ X.A (do let _ ← comprehension (.ListComp elt [⟨tg,iter,ifs,0⟩] scope pos) scope X.env _ (newList []) false (eval iter X.env) (some (assign (.Name y py) X.env))) _ _ s;refine On (uA (wpAny_comprehension_free (use:=some (assign (.Name y py) X.env)) (Q:=fun _ s'=>SP X pins D .next s') rfl hs (za fun y hy e=>I.ok.has y.1 (S.free y hy e)) S.kind S.loc
  (uA (hi pins s σ H _ I h) fun v s1 h1=>uA h1 fun itv s2 h2=>?_)) (fun _ s' hq=>PB (PB hq)))
 obtain⟨it,fp,tn,J,H2,e,I2,T,st2,f2,q2⟩:=h2;subst e;refine Hj (Q:=fun v H1=>D.nx (σ.set i (some v)) H1) (RR:=fun acc C=>compPost (model X.prog X.w) X.A X.xe (some (assign (.Name y py) X.env)) (fun _ s'=>SP X pins D .next s') acc C) hc S hg ht he I2 T st2 f2 q2 fun A C s' ys H' I' fC hNs q=>?_;obtain⟨m,hm⟩:=hNs;obtain⟨f0,f1,f2,f3,f4,f5⟩:=fC;show PH _ X.A (assign (.Name y py) X.env (.ref A)) _ _ s';refine wpAny_assign_Name (zy I' hN hy hl (v:=.ref A) rfl (fun s'' I'' hch=>?_) hf);obtain⟨a,sb,ha⟩:=hch;have nC:C≠a:=by
  rcases ha with z|z
  ·rw[z];exact f1
  ·exact Ne.symm (f4 _ _ z)
 refine⟨m,hm.sameBut sb nC,fun h3 sb3=>⟨_,_,?_,q⟩⟩;exact I''.turned (t':=s''.toks) (fun b o hb e=>(sb3.2 b hb).trans e) f0 f1 f3 f4 f5
end
def Lt2(n:Nat)(i:Int):Prop:=i.natAbs<2^n
theorem Lt2.mono(h:Lt2 n i)(l:n<=m):Lt2 m i:=aC h (bO (by decide) l)
theorem Lt2.mul(h:Lt2 n i)(l:Lt2 m j):Lt2 (n+m) (i*j):=by
 unfold Lt2;rw[aR,eJ];exact Nat.mul_lt_mul'' h l
theorem Lt2.add(h:Lt2 n i)(l:Lt2 n j):Lt2 (n+1) (i+j):=by
 unfold Lt2 at *;rw[dg];lia
theorem Lt2.sub(h:Lt2 n i)(l:Lt2 n j):Lt2 (n+1) (i-j):=by
 unfold Lt2 at *;rw[dg];lia
theorem Lt2.neg(h:Lt2 n i):Lt2 n (-i):=by
 unfold Lt2 at *;rw[dj];exact h
theorem Lt2.of(b:Nat)(h:i.natAbs<=b)(l:b<2^n):Lt2 n i:=cw h l
theorem Lt2.le(h:Lt2 n i)(l:j.natAbs<=i.natAbs):Lt2 n j:=cw l h
def CMulB(i j:Int):Prop:=∃ n m,Lt2 n i/\Lt2 m j/\n+m<=100000000
theorem CMulB.ok(h:CMulB i j):IntMulOk i j:=by
 obtain⟨n,m,h1,h2,h3⟩:=h;have a:=PyProof.Rows.intBits_le h1;have b:=PyProof.Rows.intBits_le h2;unfold IntMulOk;intro z;simp only[bT,decide_eq_true_eq] at z;have z2:((Qg i:Int)+(Qg j:Int)) > ((2^27:Nat):Int):=of_decide_eq_true z.2;have e:(2^27:Nat)=134217728:=by decide
 rw[e] at z2;lia
def v9(i j:Int):Prop:=j≠0/\∃ n,Lt2 n j/\n<=100000000
theorem Inv.pyl(I:Inv X pins σ H s)(hr:Room k X.A):PySem.PylongRoom (model X.prog X.w) X.A s:=by
 obtain⟨e,l,h1,h2,h3,h4,h5⟩:=I.ok.rn;exact PySem.PylongRoom.of I.nolimit (by have:=hr.dp;show X.A.depth+100<_;lia) (PySem.SeerAt.of (I.ok.sr.1.keeps I.bk) I.ok.sr.2 (by rw[I.ok.frames,h1]) h2 h3 h4 h5)
theorem OO{X:Cx}{f:Pt->Pt->Sem Pt}{C:Int->Int->Prop}{g:Int->Int->Int}{k:Nat}(hr:Room k X.A)
  (rule:∀(i j:Int) (t u:Tok) (s:Px) (Q:Pt->Px->Prop) (E:Pt->Px->Prop),PySem.PylongRoom (model X.prog X.w) X.A s->C i j->Q (.int (g i j) s.toks) { s with toks:=s.toks+1 }->PH (model X.prog X.w) X.A (f (.int i t) (.int j u)) Q E s) :
  OpR X f (rI C fun i j=>.int (g i j)):=by
 intro pins s σ H x y v u Q I rx ry h;obtain⟨i,j,rfl,rfl,hc,q⟩:=h;obtain⟨t,rfl⟩:=rx;obtain⟨t',rfl⟩:=ry;exact rule i j t t' s _ _ (Inv.pyl I hr) hc ⟨.int (g i j),H,I.tok _,⟨_,rfl⟩,q⟩
section
variable{X:Cx}
theorem H0:OpR X (binaryOp .Mult) (rI CMulB fun i j=>.int (i*j)):=Js fun _ _ _ _ _ _ _ hc q=>mul_int q hc.ok
theorem Bw{k:Nat}(hr:Room k X.A):OpR X (binaryOp .FloorDiv) (rI v9 fun i j=>.int (i.fdiv j)):=OO hr fun _ _ _ _ _ _ _ hp hc q=>floordiv_int hc.1 q (.inr hp)
theorem GD:OpR X (inplaceOp .Mult) (rI CMulB fun i j=>.int (i*j)):=Js fun _ _ _ _ _ _ _ hc q=>imul_int q hc.ok
theorem EQ(hr:Room k X.A):OpR X (inplaceOp .FloorDiv) (rI v9 fun i j=>.int (i.fdiv j)):=OO hr fun _ _ _ _ _ _ _ hp hc q=>ifloordiv_int hc.1 q (.inr hp)
end
inductive DV where
 | int (i:Int)|str (x:Str)|non|bl (b:Bool)|tup (xs:List DV)|lst (xs:List DV)
mutual
def Rep(K:Frag)(H:Hp):DV->V->Prop
 | .int i,v=>v = .int i
 | .str x,v=>v = .str x
 | .non,v=>v = .non
 | .bl b,v=>v = .bl b
 | .tup ds,v=>∃ a vs,v = .ref a/\SqT K H a vs/\Reps K H ds vs
 | .lst ds,v=>∃ a vs,v = .ref a/\SqL K H a vs/\Reps K H ds vs
def Reps(K:Frag)(H:Hp):List DV->List V->Prop
 | [],vs=>vs=[]
 | d::ds,vs=>∃ v r,vs=v::r/\Rep K H d v/\Reps K H ds r
end
mutual
def DV.pl:DV->Bool
 | .int _=>true | .str _=>true | .non=>true | .bl _=>false
 | .tup ds=>DV.pls ds
 | .lst ds=>DV.pls ds
def DV.pls:List DV->Bool
 | []=>true
 | d::ds=>DV.pl d && DV.pls ds
end
mutual
def DV.dp:DV->Nat
 | .tup ds=>DV.dps ds+1
 | .lst ds=>DV.dps ds+1
 | _=>0
def DV.dps:List DV->Nat
 | []=>0
 | d::ds=>max (DV.dp d) (DV.dps ds)
end
theorem SqT.same{K:PM}{H H':Hp}{a:Py}{xs:List V}(e:Same H H')(h:SqT K H a xs):SqT K H' a xs:=by
 rcases h with (h|⟨o,h⟩)|h
 ·exact .inl (.inl (e _ _ h))
 ·exact .inl (.inr ⟨o,e _ _ h⟩)
 ·exact .inr h
theorem Reps.length{K:PM}{H:Hp}:∀{ds:List DV} {vs:List V},Reps K H ds vs->ds.length=vs.length
 | [],vs,h=>by
  have h':vs=[]:=by unfold Reps at h;exact h
  rw[h'];rfl
 | d::ds,vs,h=>by
  unfold Reps at h;obtain⟨v,r,e,_,h'⟩:=h;rw[e,bo,bo,Reps.length h']
mutual
theorem Rep.same{K:PM}{H H':Hp}(e:Same H H'):∀{d:DV} {v:V},Rep K H d v->Rep K H' d v
 | .int i,v,h=>by unfold Rep at *;exact h
 | .str i,v,h=>by unfold Rep at *;exact h
 | .non,v,h=>by unfold Rep at *;exact h
 | .bl i,v,h=>by unfold Rep at *;exact h
 | .tup ds,v,h=>by
  unfold Rep at *;obtain⟨a,vs,h1,h2,h3⟩:=h;exact⟨a,vs,h1,h2.same e,Reps.same e h3⟩
 | .lst ds,v,h=>by
  unfold Rep at *;obtain⟨a,vs,h1,h2,h3⟩:=h;exact⟨a,vs,h1,e.seq h2,Reps.same e h3⟩
theorem Reps.same{K:PM}{H H':Hp}(e:Same H H'):∀{ds:List DV} {vs:List V},Reps K H ds vs->Reps K H' ds vs
 | [],v,h=>by unfold Reps at *;exact h
 | d::ds,vs,h=>by
  unfold Reps at *;obtain⟨v,r,h1,h2,h3⟩:=h;exact⟨v,r,h1,Rep.same e h2,Reps.same e h3⟩
end
section
variable{X:Cx}{pins:List (Addr×Obj)}{σ:St}{H:Hp}{s:Shared}
mutual
theorem Rep.inj(I:Inv X pins σ H s):∀{d d':DV} {v:V},Rep X.K H d v->Rep X.K H d' v->d=d'
 | .int i,d',v,h,h'=>by
  unfold Rep at h;subst h;cases d' <;> unfold Rep at h' <;> first|(cases h';done)|(cases h';rfl)|(obtain⟨_,_,e,_⟩:=h';cases e)
 | .str i,d',v,h,h'=>by
  unfold Rep at h;subst h;cases d' <;> unfold Rep at h' <;> first|(cases h';done)|(cases h';rfl)|(obtain⟨_,_,e,_⟩:=h';cases e)
 | .non,d',v,h,h'=>by
  unfold Rep at h;subst h;cases d' <;> unfold Rep at h' <;> first|(cases h';done)|(cases h';rfl)|rfl|(obtain⟨_,_,e,_⟩:=h';cases e)
 | .bl i,d',v,h,h'=>by
  unfold Rep at h;subst h;cases d' <;> unfold Rep at h' <;> first|(cases h';done)|(cases h';rfl)|(obtain⟨_,_,e,_⟩:=h';cases e)
 | .tup ds,d',v,h,h'=>by
  unfold Rep at h;obtain⟨a,vs,rfl,h2,h3⟩:=h;cases d' with
  | tup ds' =>
   unfold Rep at h';obtain⟨a',vs',e,h2',h3'⟩:=h';cases e;have:=I.tuple_inj h2 h2';subst this;rw[Reps.inj I h3 h3']
  | lst ds' =>
   unfold Rep at h';obtain⟨a',vs',e,h2',h3'⟩:=h';cases e;obtain⟨_,_,p,_⟩:=I.tuple h2;obtain⟨_,_,p',_⟩:=I.list h2';exact absurd rfl (SeqAt.ne_of_list_tuple p'.isList p)
  | _=>unfold Rep at h';cases h'
 | .lst ds,d',v,h,h'=>by
  unfold Rep at h;obtain⟨a,vs,rfl,h2,h3⟩:=h;cases d' with
  | lst ds' =>
   unfold Rep at h';obtain⟨a',vs',e,h2',h3'⟩:=h';cases e;have:=I.list_inj h2 h2';subst this;rw[Reps.inj I h3 h3']
  | tup ds' =>
   unfold Rep at h';obtain⟨a',vs',e,h2',h3'⟩:=h';cases e;obtain⟨_,_,p,_⟩:=I.tuple h2';obtain⟨_,_,p',_⟩:=I.list h2;exact absurd rfl (SeqAt.ne_of_list_tuple p'.isList p)
  | _=>unfold Rep at h';cases h'
theorem Reps.inj(I:Inv X pins σ H s):∀{ds ds':List DV} {vs:List V},Reps X.K H ds vs->Reps X.K H ds' vs->ds=ds'
 | [],ds',vs,h,h'=>by
  unfold Reps at h;subst h;cases ds' with
  | nil=>rfl
  | cons d r=>unfold Reps at h';obtain⟨_,_,e,_⟩:=h';cases e
 | d::ds,ds',vs,h,h'=>by
  unfold Reps at h;obtain⟨v,r,e,h1,h2⟩:=h;cases ds' with
  | nil=>unfold Reps at h';rw[h'] at e;cases e
  | cons d' r' =>
   unfold Reps at h';obtain⟨v',r2,e',h1',h2'⟩:=h';rw[e] at e';cases e';rw[Rep.inj I h1 h1',Reps.inj I h2 h2']
end
end
theorem all_cons:(P5 (n+1)).all e=(e 0 && (P5 n).all fun j=>e (j+1)):=by
 rw[List.range_succ_eq_map,fI,hV];rfl
theorem AH(h:n=m):((P5 (min n m)).all e && n == m)=(P5 n).all e:=by
 subst h;rw[Nat.min_self];simp
section
variable{X:Cx}{pins:List (Addr×Obj)}{σ:St}{H:Hp}{s:Shared}
mutual
theorem OQ(I:Inv X pins σ H s):∀(d d':DV) (A:Qi) {x y:V} {u v:Pt},Rep X.K H d x->Rep X.K H d' y->RelV x u->RelV y v->d.pl=true->d'.pl=true->A.units+d.dp+1<cLine ->
  ∃ b,SeqAt.EqAt A s u v b/\(b=true↔d=d')
 | .bl _,_,_,_,_,_,_,_,_,_,_,p,_,_=>by unfold DV.pl at p;cases p
 | _,.bl _,_,_,_,_,_,_,_,_,_,_,p,_=>by unfold DV.pl at p;cases p
 | .int i,d',A,x,y,u,v,h,h',rx,ry,_,_,hu=>by
  have hu:A.units<cLine:=by omega
  unfold Rep at h;subst h;obtain⟨t,rfl⟩:=rx;cases d' with
  | bl b=>contradiction
  | int j =>
   unfold Rep at h';subst h';obtain⟨t',rfl⟩:=ry;exact⟨_,SeqAt.EqAt.int_int _ _ _ _,by rw[beq_iff_eq];exact⟨fun e=>by rw[e],fun e=>by cases e;rfl⟩⟩
  | str z =>
   unfold Rep at h';subst h';obtain⟨t',rfl⟩:=ry;exact⟨_,SeqAt.EqAt.int_str _ _ _ _,by simp⟩
  | non =>
   unfold Rep at h';subst h';cases ry;exact⟨_,SeqAt.EqAt.int_none _ _,by simp⟩
  | tup ds' =>
   unfold Rep at h';obtain⟨a,vs,rfl,h2,_⟩:=h';cases ry;obtain⟨_,_,p,_⟩:=I.tuple h2;exact⟨_,SeqAt.EqAt.int_tuple _ _ p hu,by simp⟩
  | lst ds' =>
   unfold Rep at h';obtain⟨a,vs,rfl,h2,_⟩:=h';cases ry;obtain⟨_,_,p,_⟩:=I.list h2;exact⟨_,SeqAt.EqAt.int_list _ _ p.isList hu,by simp⟩
 | .str i,d',A,x,y,u,v,h,h',rx,ry,_,_,hu=>by
  have hu:A.units<cLine:=by omega
  unfold Rep at h;subst h;obtain⟨t,rfl⟩:=rx;cases d' with
  | bl b=>contradiction
  | int j =>
   unfold Rep at h';subst h';obtain⟨t',rfl⟩:=ry;exact⟨_,SeqAt.EqAt.str_int _ _ _ _,by simp⟩
  | str z =>
   unfold Rep at h';subst h';obtain⟨t',rfl⟩:=ry;exact⟨_,SeqAt.EqAt.str_str _ _ _ _,by rw[beq_iff_eq];exact⟨fun e=>by rw[e],fun e=>by cases e;rfl⟩⟩
  | non =>
   unfold Rep at h';subst h';cases ry;exact⟨_,SeqAt.EqAt.str_none _ _,by simp⟩
  | tup ds' =>
   unfold Rep at h';obtain⟨a,vs,rfl,h2,_⟩:=h';cases ry;obtain⟨_,_,p,_⟩:=I.tuple h2;exact⟨_,SeqAt.EqAt.str_tuple _ _ p hu,by simp⟩
  | lst ds' =>
   unfold Rep at h';obtain⟨a,vs,rfl,h2,_⟩:=h';cases ry;obtain⟨_,_,p,_⟩:=I.list h2;exact⟨_,SeqAt.EqAt.str_list _ _ p.isList hu,by simp⟩
 | .non,d',A,x,y,u,v,h,h',rx,ry,_,_,hu=>by
  have hu:A.units<cLine:=by omega
  unfold Rep at h;subst h;cases rx;cases d' with
  | bl b=>contradiction
  | int j =>
   unfold Rep at h';subst h';obtain⟨t',rfl⟩:=ry;exact⟨_,SeqAt.EqAt.none_int _ _,by simp⟩
  | str z =>
   unfold Rep at h';subst h';obtain⟨t',rfl⟩:=ry;exact⟨_,SeqAt.EqAt.none_str _ _,by simp⟩
  | non =>
   unfold Rep at h';subst h';cases ry;exact⟨_,SeqAt.EqAt.same _,by simp⟩
  | tup ds' =>
   unfold Rep at h';obtain⟨a,vs,rfl,h2,_⟩:=h';cases ry;obtain⟨_,_,p,_⟩:=I.tuple h2;exact⟨_,SeqAt.EqAt.none_tuple p hu,by simp⟩
  | lst ds' =>
   unfold Rep at h';obtain⟨a,vs,rfl,h2,_⟩:=h';cases ry;obtain⟨_,_,p,_⟩:=I.list h2;exact⟨_,SeqAt.EqAt.none_list p.isList hu,by simp⟩
 | .tup ds,d',A,x,y,u,v,h,h',rx,ry,pp,pp',hu=>by
  have hu0:A.units<cLine:=by omega
  have hd:=h;unfold Rep at h;obtain⟨a,vs,rfl,h2,h3⟩:=h;cases rx;obtain⟨its,rv,p,_⟩:=I.tuple h2;cases d' with
  | bl b=>contradiction
  | int j =>
   unfold Rep at h';subst h';obtain⟨t',rfl⟩:=ry;exact⟨_,SeqAt.EqAt.tuple_int _ _ p hu0,by simp⟩
  | str z =>
   unfold Rep at h';subst h';obtain⟨t',rfl⟩:=ry;exact⟨_,SeqAt.EqAt.tuple_str _ _ p hu0,by simp⟩
  | non =>
   unfold Rep at h';subst h';cases ry;exact⟨_,SeqAt.EqAt.tuple_none p hu0,by simp⟩
  | lst ds' =>
   unfold Rep at h';obtain⟨a',vs',rfl,h2',_⟩:=h';cases ry;obtain⟨_,_,p',_⟩:=I.list h2';exact⟨_,SeqAt.EqAt.tuple_list p p'.isList hu0,by simp⟩
  | tup ds' =>
   have hd':=h';unfold Rep at h';obtain⟨a',vs',rfl,h2',h3'⟩:=h';cases ry;obtain⟨its',rv',p',_⟩:=I.tuple h2';by_cases e:a=a'
   ·subst e;exact⟨true,SeqAt.EqAt.same _,by simp[Rep.inj I hd hd']⟩
   ·unfold DV.pl at pp pp';unfold DV.dp at hu;obtain⟨f,hf,hi⟩:=CN I ds ds' A.in1 h3 h3' rv rv' pp pp' (by show A.units+1+_+1<_;omega);refine⟨_,SeqAt.EqAt.of_refs e (SeqAt.RcAt.tuples p p' hu0 (e:=f) fun j h1 h2=>?_),?_⟩
    ·have q:=hf j (by simpa using h1) (by simpa using h2);simpa using q
    ·simp only[am,DV.tup.injEq];exact hi
 | .lst ds,d',A,x,y,u,v,h,h',rx,ry,pp,pp',hu=>by
  have hu0:A.units<cLine:=by omega
  have hd:=h;unfold Rep at h;obtain⟨a,vs,rfl,h2,h3⟩:=h;cases rx;obtain⟨its,rv,p,_⟩:=I.list h2;cases d' with
  | bl b=>contradiction
  | int j =>
   unfold Rep at h';subst h';obtain⟨t',rfl⟩:=ry;exact⟨_,SeqAt.EqAt.list_int _ _ p.isList hu0,by simp⟩
  | str z =>
   unfold Rep at h';subst h';obtain⟨t',rfl⟩:=ry;exact⟨_,SeqAt.EqAt.list_str _ _ p.isList hu0,by simp⟩
  | non =>
   unfold Rep at h';subst h';cases ry;exact⟨_,SeqAt.EqAt.list_none p.isList hu0,by simp⟩
  | tup ds' =>
   unfold Rep at h';obtain⟨a',vs',rfl,h2',_⟩:=h';cases ry;obtain⟨_,_,p',_⟩:=I.tuple h2';exact⟨_,SeqAt.EqAt.list_tuple p.isList p' hu0,by simp⟩
  | lst ds' =>
   have hd':=h';unfold Rep at h';obtain⟨a',vs',rfl,h2',h3'⟩:=h';cases ry;obtain⟨its',rv',p',_⟩:=I.list h2';by_cases e:a=a'
   ·subst e;exact⟨true,SeqAt.EqAt.same _,by simp[Rep.inj I hd hd']⟩
   ·unfold DV.pl at pp pp';unfold DV.dp at hu;obtain⟨f,hf,hi⟩:=CN I ds ds' A.in1 h3 h3' rv rv' pp pp' (by show A.units+1+_+1<_;omega);by_cases hz:its.length=its'.length
    ·refine⟨_,SeqAt.EqAt.of_refs e (SeqAt.RcAt.lists p.isList p'.isList (by simpa using hz) hu0 (e:=f) fun j h1 h2=>?_),?_⟩
     ·have q:=hf j (by simpa using h1) (by simpa using h2);simpa using q
     ·simp only[am,DV.lst.injEq];rw[AH hz] at hi;exact hi
    ·refine⟨_,SeqAt.EqAt.of_refs e (SeqAt.RcAt.lists_lengths p.isList p'.isList (by simpa using hz) hu0),?_⟩;simp only[cu,false_iff,DV.lst.injEq];intro z;have l1:=h3.length;have l2:=h3'.length;rw[z] at l1;exact hz (by rw[← rv.length,← rv'.length,← l1,← l2])
theorem CN(I:Inv X pins σ H s):∀(ds ds':List DV) (A:Qi) {xs ys:List V} {us vs:List Pt},Reps X.K H ds xs->Reps X.K H ds' ys->Vals xs us->Vals ys vs->DV.pls ds=true->DV.pls ds'=true->A.units+DV.dps ds+1<cLine ->
  ∃ e:Nat->Bool,(∀ j (h1:j<us.length) (h2:j<vs.length),SeqAt.EqAt A s us[j] vs[j] (e j))/\((((P5 (min us.length vs.length)).all e && us.length == vs.length)=true)↔ds=ds')
 | [],ds',A,xs,ys,us,vs,h,h',rx,ry,_,_,_=>by
  unfold Reps at h;subst h;cases rx;refine⟨fun _=>true,fun j h1 _=>absurd h1 (by simp),?_⟩;cases ds' with
  | nil=>unfold Reps at h';subst h';cases ry;simp
  | cons d r=>unfold Reps at h';obtain⟨_,_,rfl,_⟩:=h';cases ry;simp
 | d::ds,ds',A,xs,ys,us,vs,h,h',rx,ry,pp,pp',hu=>by
  unfold Reps at h;obtain⟨x,r,rfl,h1,h2⟩:=h;cases rx with
  | cons rx rxs =>
   cases ds' with
   | nil =>
    unfold Reps at h';subst h';cases ry;exact⟨fun _=>true,fun j _ h2=>absurd h2 (by simp),by simp⟩
   | cons d' ds' =>
    unfold Reps at h';obtain⟨y,r',rfl,h1',h2'⟩:=h';cases ry with
    | cons ry rys =>
     unfold DV.pls at pp pp';rw[bT] at pp pp';unfold DV.dps at hu;obtain⟨b,hb,ib⟩:=OQ I d d' A h1 h1' rx ry pp.1 pp'.1 (by lia);obtain⟨e,he,ie⟩:=CN I ds ds' A h2 h2' rxs rys pp.2 pp'.2 (by lia);refine⟨fun j=>match j with|0=>b|j+1=>e j,fun j=>?_,?_⟩
     ·cases j with
      | zero=>exact fun _ _=>hb
      | succ j=>exact fun q1 q2=>he j (by simpa using q1) (by simpa using q2)
     ·rw[bo,bo,Nat.succ_min_succ];have q:∀ n,(P5 (n+1)).all (fun j=>match j with|0=>b|j+1=>e j)=(b && (P5 n).all e):=fun n=>all_cons;rw[q];have q2:∀ n m:Nat,(n+1 == m+1)=(n == m):=fun n m=>by
       rw[cQ];simp
      rw[q2,Bool.and_assoc,bT,ib,ie,List.cons.injEq]
end
def Mr(K:Frag)(A:Around)(neg:Bool):R2:=fun x y H Q=>∃ ds ds',Rep K H (.tup ds) x/\Rep K H (.tup ds') y/\DV.pls ds=true/\DV.pls ds'=true/\A.units+DV.dps ds+2<cLine /\
 ∀ b,(b=true↔ds=ds')->Q (.bl (if neg then !b else b)) H
theorem KO:OpR X (PX .Eq) (Mr X.K X.A false):=by
 intro pins s σ H x y u v Q I rx ry h;obtain⟨ds,ds',h1,h2,p1,p2,hu,q⟩:=h;unfold Rep at h1 h2;obtain⟨a,vs,rfl,t1,r1⟩:=h1;obtain⟨a',vs',rfl,t2,r2⟩:=h2;cases rx;cases ry;obtain⟨its,rv,p,_⟩:=I.tuple t1;obtain⟨its',rv',p',_⟩:=I.tuple t2;obtain⟨f,hf,hi⟩:=CN I ds ds' X.A.in1 r1 r2 rv rv' p1 p2 (by show X.A.units+1+_+1<_;lia);refine SeqAt.RcAt.tuples p p' (by lia) (e:=f) (fun j h1 h2=>?_) _ _ _ _ ⟨.bl _,H,I,rfl,q _ ?_⟩
 ·have q:=hf j (by simpa using h1) (by simpa using h2);simpa using q
 ·simp only[am];exact hi
theorem KL:OpR X (PX .NotEq) (Mr X.K X.A true):=by
 intro pins s σ H x y u v Q I rx ry h;obtain⟨ds,ds',h1,h2,p1,p2,hu,q⟩:=h;unfold Rep at h1 h2;obtain⟨a,vs,rfl,t1,r1⟩:=h1;obtain⟨a',vs',rfl,t2,r2⟩:=h2;cases rx;cases ry;obtain⟨its,rv,p,_⟩:=I.tuple t1;obtain⟨its',rv',p',_⟩:=I.tuple t2;obtain⟨f,hf,hi⟩:=CN I ds ds' X.A.in1 r1 r2 rv rv' p1 p2 (by show X.A.units+1+_+1<_;lia);refine SeqAt.RcNeAt.tuples p p' (by lia) (e:=f) (fun j h1 h2=>?_) _ _ _ _ ⟨.bl _,H,I,rfl,q _ ?_⟩
 ·have q:=hf j (by simpa using h1) (by simpa using h2);simpa using q
 ·simp only[am];exact hi
theorem Ew(bs:List Bool):(P5 bs.length).all (fun j=>bs.getD j false)=bs.all id:=by
 induction bs with
 | nil=>rfl
 | cons b r ih =>
  rw[bo,all_cons,fI];exact congrArg (b && ·) ih
theorem He(hc:X.calm=true):CallR X (.builtin "all") (fun xs H Q=>∃ p,∃ bs:List Bool,xs=[.ref p]/\SqL X.K H p (bs.map V.bl)/\Q (.bl (bs.all id)) H):=by
 intro pins s σ H xs us Q I rv h;obtain⟨p,bs,rfl,hp,q⟩:=h;obtain⟨u,rfl,ru⟩:=rv.one;cases ru;obtain⟨its,rv',pl,_⟩:=I.list hp;refine call_all_walk (wpAny_pyIter_list pl.isList ?_);have e:∀ b o,s.heap.get? b=some o->(s.heap.push { cls:=.type "list_iterator",data:=.fields #[.ref p,.int 0 0] }).get? b=some o:=fun b o e=>Pw _ e;have hne:p≠s.heap.objs.size:=by
  obtain⟨o,ho,_⟩:=pl.isList;exact bt (PC ho)
 have lb:bs.length=its.length:=by rw[← rv'.length,aa]
 refine⟨_,_,_,_,_,_,fun j=>bs.getD j false,rfl,Walks.list (A:=X.A.in1) (I.ok.hd hc) _ p hne its.toArray,⟨⟨_,PF _ rfl,rfl,rfl⟩,pl.isList.at fun o ho=>e _ o ho⟩,?_,fun h' tk hk=>?_⟩
 ·intro i v s Q E hv hq;have hv':its[i]? = some v:=by simpa using hv
  have hi:i<bs.length:=by
   rw[lb];exact (aj.mp hv').1
  obtain⟨u,hu,ru⟩:=rv'.get (i:=i) (x:=.bl bs[i]) (by simp[hi]);rw[hv'] at hu;cases hu;cases ru;have:bs.getD i false=bs[i]:=by simp[List.getD,hi]
  have hq:Q (bs.getD i false) s:=hq;rw[this] at hq;exact P9 hq
 ·refine⟨.bl (bs.all id),H,I.kept (t':=tk) fun b o ho=>hk b o ?_ (e b o ho),?_,q⟩
  ·simp only[aq];exact bt (PC ho)
  ·show Value.bool _=_;rw[← Ew,lb];simp
end
structure Def (P:Program)(w:World)(K:Frag)(mg:Str->Option Value)(base:Heap)(x:Str)(k:Nat)(ps:List Str)(sp:Sp):Prop where
 ex:∃ f fd,FnOk P w K mg base Dh k f fd ps sp/\mg x=some (.ref f)/\PySem.W.keepIn K (.ref f)=true/\Binds K fd ps []
theorem Def.of{P:PU}{w:P3}{K:PM}{mg:PR->Option Pt}{base:Qb}{x q:PR}{k:Nat}{ps:List PR}{sp:Sp}{st:PY}{f:Py}{fd:Qt}(F:Fun K x q st f fd)(m:mg x=some (.ref f))(b:Binds K fd ps [])
  (ok:FnOk P w K mg base Dh k f fd ps sp):Def P w K mg base x k ps sp:=⟨f,fd,ok,m,F.kp,b⟩
theorem F4(g:Def X.prog X.w X.K X.mg X.base x j ps sp)(hr:Room k X.A)(ha:PA X (e::es) t)(hjk:j<=k:=by first|decide|lia|exact ak _)(hg:Gl X x:=by rfl)
  (hdb:(x == ("__debug__" : PR))=false:=by decide) (he:PN (e::es) X.env=(false,eval e X.env)::PN es X.env:=by rfl) (hpl:(backTo pos (PN es X.env)).any (·.1)=false:=by rfl) :
  PE X (.Call (.Name x p) (e::es) [] pos) (Dl sp [] E0 t):=by
 obtain⟨f,fd,F,m,kp,b⟩:=g.ex;exact HX F (hr.mono hjk) hg m kp b .nil MG ha hdb he hpl
structure Bl (mg:Str->Option Value):Prop where
 len:mg "len" = none
 range:mg "range" = none
 all:mg "all" = none
 any:mg "any" = none
 abs:mg "abs" = none
 int:mg "int" = none
 bool:mg "bool" = none
 str:mg "str" = none
 list:mg "list" = none
 tuple:mg "tuple" = none
 dict:mg "dict" = none
 isinstance:mg "isinstance" = none
 enumerate:mg "enumerate" = none
 reversed:mg "reversed" = none
 sorted:mg "sorted" = none
 max:mg "max" = none
 min:mg "min" = none
 sum:mg "sum" = none
 zip:mg "zip" = none
structure Sm (f:Addr)(H H':Hp):Prop where
 app:∀ b o,b≠f->H b=some o->H' b=some o
 key:∀ l r,H f=some (.lst (.ref l::r))->∃ r',H' f=some (.lst (.ref l::r'))
instance {f:Addr}{H H':Hp}:CoeFun (Sm f H H') (fun _=>∀ b o,b≠f->H b=some o->H' b=some o):=⟨Sm.app⟩
theorem Sm.refl(H:Hp):Sm f H H:=⟨fun _ _ _ h=>h,fun l r h=>⟨r,h⟩⟩
theorem Sm.trans(a:Sm f H H1)(b:Sm f H1 H2):Sm f H H2:=⟨fun c o n h=>b.app c o n (a.app c o n h),fun l r h=>by
 obtain⟨r1,h1⟩:=a.key l r h;exact b.key l r1 h1⟩
theorem Sm.new(h:H p=none)(o:HO):Sm f H (uH H p o):=⟨fun b u _ q=>by rw[ul (ut q h)];exact q,fun l r q=>⟨r,by rw[ul (ut q h)];exact q⟩⟩
theorem Same.new(h:H p=none)(o:HO):Same H (uH H p o):=fun b u q=>by rw[ul (ut q h)];exact q
theorem Sm.free(e:Sm f H H')(hl:l≠f)(h:H' l=none):H l=none:=by
 cases q:H l with
 | none=>rfl
 | some o =>
  rw[e.app l o hl q] at h;cases h
end L2
namespace L2
open PySem
theorem C9:P0 "len" = some (.builtin "len"):=by decide +kernel
theorem Lp:P0 "abs" = some (.builtin "abs"):=by decide +kernel
theorem Lo:P0 "all" = some (.builtin "all"):=by decide +kernel
theorem Ln:P0 "int" = some (.type "int"):=by decide +kernel
theorem A4:P0 "list" = some (.type "list"):=by decide +kernel
theorem Hl:P0 "tuple" = some (.type "tuple"):=by decide +kernel
end L2
namespace L2
open PySem PySem.Spec PyProof.Rows
def NR(t u:TS):TS:=fun D σ H=>∃ R:St->Hp->Prop,t { D with nx:=R } σ H/\∀ σ H,R σ H->u D σ H
theorem DA{X:Cx}{st:PY}{more:List PY}{t u:TS}(h1:PS X st t)(h2:PSs X more u):PSs X (st::more) (NR t u):=by
 intro pins s σ H D I h;obtain⟨R,a,b⟩:=h;refine wpAny_execs_cons (uA (h1 pins s σ H { D with nx:=R } I a) fun f s1 q=>?_);cases f with
 | next =>
  obtain⟨σ1,H1,I1,r1⟩:=q;exact h2 pins s1 σ1 H1 D I1 (b σ1 H1 r1)
 | brk=>exact q
 | cont=>exact q
 | ret v=>exact q
section
variable{X:Cx}
theorem B7(K:PM)(hK:X.K=K:=by rfl):IxR X (Kq K):=hK ▸ ix_list
theorem KW(K:PM)(hK:X.K=K:=by rfl):CallR X (.builtin "len") (fun xs H Q=>∃ p ys,xs=[.ref p]/\(SqL K H p ys\/SqT K H p ys)/\Q (.int ys.length) H):=hK ▸ A2
theorem Ou(K:PM)(hc:X.calm=true:=by rfl)(hK:X.K=K:=by rfl):CallR X (.builtin "all") (fun xs H Q=>∃ p,∃ bs:List Bool,xs=[.ref p]/\SqL K H p (bs.map V.bl)/\Q (.bl (bs.all id)) H):=hK ▸ He hc
theorem CC(K:PM)(hK:X.K=K:=by rfl):CallR X (.type "list") (fun xs H Q=>∃ p ys,xs=[.ref p]/\(SqL K H p ys\/SqT K H p ys)/\∀ l,H l=none->Q (.ref l) (uH H l (.lst ys))):=hK ▸ AZ
theorem Hz(K:PM)(hK:X.K=K:=by rfl):CallR X (.type "tuple") (fun xs H Q=>∃ p ys,xs=[.ref p]/\((SqL K H p ys/\∀ l,H l=none->Q (.ref l) (uH H l (.tup ys)))\/(SqT K H p ys/\Q (.ref p) H))):=hK ▸ zt
def Ms(K:Frag)(neg:Bool):R2:=fun x y H Q=>∃ ds ds',Rep K H (.tup ds) x/\Rep K H (.tup ds') y/\DV.pls ds=true/\DV.pls ds'=true/\DV.dps ds<=60/\∀ b,(b=true↔ds=ds')->Q (.bl (if neg then !b else b)) H
theorem Pp(K:PM)(hr:Room k X.A)(hK:X.K=K:=by rfl):OpR X (PX .Eq) (Ms K false):=by
 subst hK;intro pins s σ H x y u v Q I rx ry h;obtain⟨ds,ds',h1,h2,p1,p2,hu,q⟩:=h;exact KO pins s σ H x y u v Q I rx ry ⟨ds,ds',h1,h2,p1,p2,by have:=hr.units;lia,q⟩
theorem Pi(K:PM)(hr:Room k X.A)(hK:X.K=K:=by rfl):OpR X (PX .NotEq) (Ms K true):=by
 subst hK;intro pins s σ H x y u v Q I rx ry h;obtain⟨ds,ds',h1,h2,p1,p2,hu,q⟩:=h;exact KL pins s σ H x y u v Q I rx ry ⟨ds,ds',h1,h2,p1,p2,by have:=hr.units;lia,q⟩
end
end L2
namespace Fr
open L2
def cp(t b:Int):Int:=((Int.gcd t b:Nat):Int)
def part(t b:Int):Int:=if b<0 then -cp t b else cp t b
def top(t b:Int):Int:=t.fdiv (part t b)
def bot(t b:Int):Int:=b.fdiv (part t b)
theorem GI(a b:Int):PV b (a.fmod b)=PV a b:=by
 rw[ip,Int.gcd_sub_mul_left_right,Int.gcd_comm]
theorem D8(a b:Int)(h:b≠0):(a.fmod b).natAbs<b.natAbs:=by
 rcases dG h with hb|hb
 ·have h1:=iM (-a) (b:=-b) (by lia);have h2:=io (-a) (b:=-b) (by lia);have e:(-a).fmod (-b) = -(a.fmod b):=by
   rw[ip,ip,Int.neg_fdiv_neg,iz];lia
  lia
 ·have h1:=iM a hb;have h2:=io a hb;lia
theorem v5(h:b≠0):0<cp t b:=by
 unfold cp;have:0<PV t b:=fZ (by rw[Ne,iI];exact fun z=>h z.2);lia
theorem M7(h:b≠0):(cp t b).natAbs<=b.natAbs:=by
 unfold cp;rw[br];exact cU (by lia) (gr _ _)
theorem DI(h:b≠0):part t b≠0:=by
 have:=v5 (t:=t) h;unfold part;split <;> lia
theorem DJ(h:b≠0):(part t b).natAbs<=b.natAbs:=by
 have:=M7 (t:=t) h;unfold part;split
 ·rw[dj];exact this
 ·exact this
theorem of{p t' b':Int}(hp:p≠0)(hb:0<b')(hc:PV t' b'=1):top (p*t') (p*b')=t'/\bot (p*t') (p*b')=b':=by
 have e:part (p*t') (p*b')=p:=by
  unfold part cp;rw[Int.gcd_mul_left,hc,dS];rcases dG hp with h|h
  ·rw[QI (Int.mul_neg_of_neg_of_pos h hb)];lia
  ·rw[QJ (Int.not_lt.mpr (Int.le_of_lt (ay h hb)))];lia
 unfold top bot;rw[e];exact⟨cV _ hp,cV _ hp⟩
theorem ex(h:b≠0):∃ p t' b',p≠0/\0<b'/\PV t' b'=1/\t=p*t'/\b=p*b':=by
 have g0:0<PV t b:=fZ (by rw[Ne,iI];exact fun z=>h z.2);obtain⟨t1,e1⟩:=Int.gcd_dvd_left t b;obtain⟨b1,e2⟩:=iQ t b;have hc:PV t1 b1=1:=by
  have q:PV ((PV t b:Int)*t1) ((PV t b:Int)*b1)=PV t b:=by rw[← e1,← e2]
  rw[Int.gcd_mul_left,br] at q;exact gT g0 (by lia)
 have g1:(0:Int)<(PV t b:Int):=by lia
 by_cases hb:b<0
 ·refine⟨-(PV t b:Int),-t1,-b1,by lia,?_,by rw[Int.gcd_neg,Int.neg_gcd];exact hc,by rw[gL];exact e1,by rw[gL];exact e2⟩;rcases eU b1 0 with z|z|z
  ·lia
  ·rw[z,bD] at e2;lia
  ·have:=ay g1 z;lia
 ·refine⟨(PV t b:Int),t1,b1,by lia,?_,hc,e1,e2⟩;rcases eU b1 0 with z|z|z
  ·have:=eE g1 z;lia
  ·rw[z,bD] at e2;lia
  ·exact z
theorem Ja(h:b≠0)(hq:q≠0):top (t*q) (b*q)=top t b/\bot (t*q) (b*q)=bot t b:=by
 obtain⟨p,t',b',hp,hb,hc,rfl,rfl⟩:=ex (t:=t) h;have e:=of hp hb hc;rw[e.1,e.2];have m1:p*t'*q=(p*q)*t':=by rw[cb,bB t' q,cb]
 have m2:p*b'*q=(p*q)*b':=by rw[cb,bB b' q,cb]
 rw[m1,m2];exact of (b8 hp hq) hb hc
theorem low(h:b≠0):0<bot t b/\top t b*b=t*bot t b/\PV (top t b) (bot t b)=1:=by
 obtain⟨p,t',b',hp,hb,hc,rfl,rfl⟩:=ex (t:=t) h;have e:=of hp hb hc;rw[e.1,e.2];refine⟨hb,?_,hc⟩;rw[Int.mul_left_comm,cb]
theorem Ff(h:b≠0):(top t b).natAbs<=t.natAbs/\(bot t b).natAbs<=b.natAbs:=by
 obtain⟨p,t',b',hp,hb,hc,rfl,rfl⟩:=ex (t:=t) h;have e:=of hp hb hc;rw[e.1,e.2,aR,aR];have:0<p.natAbs:=by lia
 exact⟨aQ _ this,aQ _ this⟩
theorem self(hb:0<b)(hc:PV t b=1):top t b=t/\bot t b=b:=by
 have:=of (p:=1) (t':=t) (b':=b) (by decide) hb hc;rw[cB,cB] at this;exact this
theorem uniq(hb:b≠0)(hd:0<d)(hc:PV c d=1)(h:t*d=c*b):top t b=c/\bot t b=d:=by
 have e1:=Ja (t:=t) (b:=b) (q:=d) hb (by lia);have e2:=Ja (t:=c) (b:=d) (q:=b) (by lia) hb;have e3:=self hd hc;rw[h,bB b d,e2.1,e2.2,e3.1,e3.2] at e1;exact⟨e1.1.symm,e1.2.symm⟩
end Fr
namespace L2
open PySem PySem.Spec PyProof.Rows
section
variable{X:Cx}
def Oh(K:Frag)(tl:TE):TI:=fun σ H R=>tl σ H fun x H1=>∃ a,x = .ref a/\(((∃ xs,SqL K H1 a xs)/\R (O0 K a) H1)\/((∃ xs,SqT K H1 a xs)/\R (OZ K a) H1))
theorem Pg(K:PM)(hl:PE X l tl)(hK:X.K=K:=by rfl):PI X tg l (Oh K tl):=by
 subst hK;intro pins s σ H R I h;refine uA (hl pins s σ H _ I h) fun v s1 ⟨x,H1,I1,r1,q1⟩=>?_;obtain⟨a,e,q1⟩:=q1;subst e;cases r1;have fp1:∀ b∈[s1.heap.objs.size],wm X pins H1 b:=fun b hb=>by
  have e:b=s1.heap.objs.size:=by simpa using hb
  subst e;exact I1.fpOk (ak _) (I1.hok.fresh (ak _))
 rcases q1 with⟨⟨xs,hq⟩,q⟩|⟨⟨xs,hq⟩,q⟩
 ·obtain⟨its,rv,p,hz⟩:=I1.list hq;exact wpAny_pyIter_list p.isList ⟨s1.heap.objs.size,[s1.heap.objs.size],_,_,H1,rfl,I1.kept (t':=s1.toks) fun b o e=>Pw _ e,Ep a _,⟨_,PF _ rfl,rfl,rfl⟩,fp1,q⟩
 ·obtain⟨its,rv,p,hz⟩:=I1.tuple hq;exact wpAny_pyIter_tuple (show s1.heap.IsTuple a its.toArray from p) ⟨s1.heap.objs.size,[s1.heap.objs.size],_,_,H1,rfl,I1.kept (t':=s1.toks) fun b o e=>Pw _ e,B9 a _,⟨_,PF _ rfl,rfl,rfl⟩,fp1,q⟩
def Mv(K:Frag):R2:=fun x y H Q=>∃ a b ys,x = .ref a/\y = .ref b/\SqT K H a []/\SqT K H b ys/\Q (.ref b) H
theorem Nd(K:PM)(hK:X.K=K:=by rfl):OpR X (binaryOp .Add) (Mv K):=by
 subst hK;intro pins s σ H x y u v Q I rx ry h;obtain⟨a,b,ys,rfl,rfl,h1,h2,q⟩:=h;cases rx;cases ry;obtain⟨its,rv,p,_⟩:=I.tuple h1;obtain⟨its2,rv2,p2,_⟩:=I.tuple h2;cases rv;obtain⟨⟨cls,dd,data,sl⟩,ho,hc,n,hd⟩:=id p;obtain⟨⟨cls2,dd2,data2,sl2⟩,ho2,hc2,n2,hd2⟩:=id p2;simp only at hc hd hc2 hd2;subst hc hd hc2 hd2;exact concat_meets ⟨_,ho,rfl⟩ ⟨_,ho2,rfl⟩ noFill_tuple_add seq_tuple_add PySem.F.slot_tuple_add PySem.F.entry_tuple_add (PySem.F.args_tuple_add_2 _ _)
  (tuple_addW0 a b ([]:List Pt).toArray its2.toArray n n2 dd dd2 sl sl2 (by simp)) ⟨ho,ho2,⟨.ref b,H,I,rfl,q⟩⟩
def Jk(K:Frag)(neg:Bool):R2:=fun x y H Q=>∃ ds ds',Rep K H (.lst ds) x/\Rep K H (.lst ds') y/\DV.pls ds=true/\DV.pls ds'=true/\DV.dps ds<=60/\∀ b,(b=true↔ds=ds')->Q (.bl (if neg then !b else b)) H
theorem Om(K:PM)(hr:Room k X.A)(hK:X.K=K:=by rfl):OpR X (PX .Eq) (Jk K false):=by
 subst hK;intro pins s σ H x y u v Q I rx ry h;obtain⟨ds,ds',h1,h2,p1,p2,hu,q⟩:=h;have hun:=hr.units;unfold Rep at h1 h2;obtain⟨a,vs,rfl,t1,r1⟩:=h1;obtain⟨a',vs',rfl,t2,r2⟩:=h2;cases rx;cases ry;obtain⟨its,rv,p,_⟩:=I.list t1;obtain⟨its',rv',p',_⟩:=I.list t2;obtain⟨f,hf,hi⟩:=CN I ds ds' X.A.in1 r1 r2 rv rv' p1 p2 (by show X.A.units+1+_+1<_;lia);by_cases hz:its.length=its'.length
 ·refine SeqAt.RcAt.lists p.isList p'.isList (by simpa using hz) (by lia) (e:=f) (fun j h1 h2=>?_) _ _ _ _ ⟨.bl _,H,I,rfl,q _ ?_⟩
  ·have q:=hf j (by simpa using h1) (by simpa using h2);simpa using q
  ·simp only[am];rw[AH hz] at hi;exact hi
 ·refine SeqAt.RcAt.lists_lengths p.isList p'.isList (by simpa using hz) (by lia) _ _ _ _ ⟨.bl false,H,I,rfl,q false ?_⟩;simp only[cu,false_iff];intro z;have l1:=r1.length;have l2:=r2.length;rw[z] at l1;exact hz (by rw[← rv.length,← rv'.length,← l1,← l2])
theorem Oa(K:PM)(hr:Room k X.A)(hK:X.K=K:=by rfl):OpR X (PX .NotEq) (Jk K true):=by
 subst hK;intro pins s σ H x y u v Q I rx ry h;obtain⟨ds,ds',h1,h2,p1,p2,hu,q⟩:=h;have hun:=hr.units;unfold Rep at h1 h2;obtain⟨a,vs,rfl,t1,r1⟩:=h1;obtain⟨a',vs',rfl,t2,r2⟩:=h2;cases rx;cases ry;obtain⟨its,rv,p,_⟩:=I.list t1;obtain⟨its',rv',p',_⟩:=I.list t2;obtain⟨f,hf,hi⟩:=CN I ds ds' X.A.in1 r1 r2 rv rv' p1 p2 (by show X.A.units+1+_+1<_;lia);by_cases hz:its.length=its'.length
 ·refine SeqAt.RcNeAt.lists p.isList p'.isList (by simpa using hz) (by lia) (e:=f) (fun j h1 h2=>?_) _ _ _ _ ⟨.bl _,H,I,rfl,q _ ?_⟩
  ·have q:=hf j (by simpa using h1) (by simpa using h2);simpa using q
  ·simp only[am];rw[AH hz] at hi;exact hi
 ·refine SeqAt.RcNeAt.lists_lengths p.isList p'.isList (by simpa using hz) (by lia) _ _ _ _ ⟨.bl true,H,I,rfl,q false ?_⟩;simp only[cu,false_iff];intro z;have l1:=r1.length;have l2:=r2.length;rw[z] at l1;exact hz (by rw[← rv.length,← rv'.length,← l1,← l2])
end
end L2
namespace Po
open L2
def gl(b:Nat)(ts:List Int):Nat:=ts.foldl (fun g t=>Nat.gcd g t.natAbs) b
theorem K7(ts:List Int):gl 1 ts=1:=by
 induction ts with
 | nil=>rfl
 | cons t ts ih =>
  show gl (Qo 1 t.natAbs) ts=1;rw[Nat.gcd_one_left];exact ih
theorem yY:∀(ts:List Int) (b:Nat),gl b ts∣b/\∀ t∈ts,gl b ts∣t.natAbs
 | [],b=>⟨Nat.dvd_refl b,fun t ht=>absurd ht bf⟩
 | t::ts,b=>by
  have ih:=yY ts (Qo b t.natAbs);refine⟨fJ ih.1 (Nat.gcd_dvd_left _ _),fun u hu=>?_⟩;rcases av.mp hu with rfl|hu
  ·exact fJ ih.1 (gr _ _)
  ·exact ih.2 u hu
theorem CS:∀(ts:List Int) (b:Nat),d∣c*b->(∀ t∈ts,d∣c*t.natAbs)->d∣c*gl b ts
 | [],b,h,_=>h
 | t::ts,b,h,ht=>by
  refine CS ts (Qo b t.natAbs) ?_ fun u hu=>ht u (aA _ hu);rw[← Nat.gcd_mul_left];exact Nat.dvd_gcd h (ht t aG)
structure Fm (P:List Int)(B:Int):Prop where
 pos:0<B
 last:P=[]\/P.getD (P.length-1) 0≠0
 gcd:gl B.natAbs P=1
theorem getD_mem{P:List Int}{t:Int}(h:t∈P):∃ k,P.getD k 0=t:=by
 obtain⟨k,hk,e⟩:=List.getElem_of_mem h;exact⟨k,by simp[List.getD,hk,e]⟩
theorem AW{P P':List Int}{B B':Int}(F:Fm P B)(h:∀ k,P.getD k 0*B'=P'.getD k 0*B):B.natAbs∣B'.natAbs:=by
 have q:=CS (c:=B'.natAbs) (d:=B.natAbs) P B.natAbs (dm _ _) fun t ht=>by
  obtain⟨k,rfl⟩:=getD_mem ht;have e:=congrArg Int.natAbs (h k);rw[aR,aR] at e;rw[bQ,e];exact dm _ _
 rw[F.gcd,dS] at q;exact q
theorem Gy{P':List Int}(l:P=[]\/P.getD (P.length-1) 0≠0)(h:∀ k,P.getD k 0=P'.getD k 0):P.length<=P'.length:=by
 rcases l with rfl|l
 ·exact aE _
 ·rcases ar P'.length P.length with z|z
  ·refine absurd ?_ l;rw[h,ae,bC (by lia)];rfl
  ·exact z
theorem uniq(F:Fm P B)(F':Fm P' B')(h:∀ k,P.getD k 0*B'=P'.getD k 0*B):P=P'/\B=B':=by
 have d1:=AW F h;have d2:=AW F' fun k=>(h k).symm;have e:=Nat.dvd_antisymm d1 d2;have p1:=F.pos;have p2:=F'.pos;have eB:B=B':=by lia
 subst eB;have hk:∀ k,P.getD k 0=P'.getD k 0:=fun k=>aK (by lia) (h k);have l1:=Gy F.last hk;have l2:=Gy F'.last fun k=>(hk k).symm;refine⟨gB (by lia) fun k h1 h2=>?_,rfl⟩;have q:=hk k;simp[List.getD,h1,h2] at q;exact q
theorem GG(g:Nat):∀(ts:List Int) (b:Nat),gl (g*b) (ts.map fun t=>(g:Int)*t)=g*gl b ts
 | [],b=>rfl
 | t::ts,b=>by
  show gl (Qo (g*b) ((g:Int)*t).natAbs) (ts.map fun t=>(g:Int)*t)=g*gl (Qo b t.natAbs) ts;rw[aR,br,Nat.gcd_mul_left];exact GG g ts _
theorem CJ(h:0<b)(ts:List Int):0<gl b ts:=Nat.pos_of_dvd_of_pos (yY ts b).1 h
theorem form{ts:List Int}(hb:0<b)(hm:m<=ts.length)(h0:∀ j,m<=j->ts.getD j 0=0)(hl:m=0\/ts.getD (m-1) 0≠0) :
  Fm ((ts.take m).map fun t=>t.fdiv ((gl b.natAbs (ts.take m):Nat):Int)) (b.fdiv ((gl b.natAbs (ts.take m):Nat):Int)) /\
  (∀ k,((ts.take m).map fun t=>t.fdiv ((gl b.natAbs (ts.take m):Nat):Int)).getD k 0*b=ts.getD k 0*(b.fdiv ((gl b.natAbs (ts.take m):Nat):Int))):=by
 have g0:0<gl b.natAbs (ts.take m):=CJ (by lia) _;have gd:=yY (ts.take m) b.natAbs;generalize hg:gl b.natAbs (ts.take m)=g at *;have gi:(g:Int)≠0:=by lia
 have ex:∀ t:Int,g∣t.natAbs->t=(g:Int)*t.fdiv (g:Int):=fun t ht=>by
  obtain⟨c,e⟩:(g:Int)∣t:=by first|exact Int.ofNat_dvd_left.mpr ht|exact bj.mp (by rw[br];exact ht)
  rw[e,cV _ gi]
 have eb:=ex b gd.1;have et:ts.take m=((ts.take m).map fun t=>t.fdiv (g:Int)).map fun t=>(g:Int)*t:=by
  rw[List.map_map];refine (List.map_id (ts.take m)).symm.trans (List.map_congr_left fun t ht=>?_);exact ex t (gd.2 t ht)
 have bp:0<b.fdiv (g:Int):=by
  rcases eU (b.fdiv (g:Int)) 0 with z|z|z
  ·have:=eE (show (0:Int)<(g:Int) by lia) z;lia
  ·rw[z,bD] at eb;lia
  ·exact z
 have kk:∀ k,((ts.take m).map fun t=>t.fdiv (g:Int)).getD k 0*(g:Int)=ts.getD k 0:=fun k=>by
  by_cases hk:k<m
  ·have h1:k<(ts.take m).length:=by rw[aU];lia
   have h2:k<ts.length:=by lia
   have e1:((ts.take m).map fun t=>t.fdiv (g:Int)).getD k 0=(ts[k]).fdiv (g:Int):=by
    rw[ae,aM,dA hk,au h2];rfl
   have e2:ts.getD k 0=ts[k]:=by rw[ae,au h2];rfl
   have mem:ts[k]∈ts.take m:=by
    refine aO (i:=k) ?_;rw[dA hk,au h2]
   rw[e1,e2,bB];exact (ex _ (gd.2 _ mem)).symm
  ·rw[h0 k (by lia),ae,bC (by rw[aa,aU];lia)];exact aN _
 refine⟨⟨bp,?_,?_⟩,fun k=>?_⟩
 ·have hlen:((ts.take m).map fun t=>t.fdiv (g:Int)).length=m:=by rw[aa,aU];lia
  rcases hl with z|z
  ·left;subst z;simp
  ·right;rw[hlen];intro c;have q:=kk (m-1);rw[c,aN] at q;exact z q.symm
 ·have q:=GG g ((ts.take m).map fun t=>t.fdiv (g:Int)) (b.fdiv (g:Int)).natAbs;rw[← et] at q;have e:g*(b.fdiv (g:Int)).natAbs=b.natAbs:=by
   conv=>rhs;rw[eb,aR,br]
  rw[e,hg] at q;exact gT g0 (by lia)
 ·rw[← kk k,cb,← eb]
end Po
namespace L2
open PySem PySem.Spec PyProof.Rows
section
variable{X:Cx}
theorem wa:∀{ns:List Int} {us:List Pt},Vals (ns.map V.int) us->∃ xs:List (Int×Tok),us=xs.map (fun p=>Value.int p.1 p.2)/\xs.map (·.1)=ns
 | [],_,.nil=>⟨[],rfl,rfl⟩
 | n::ns,_,.cons r t=>by
  obtain⟨tk,e⟩:∃ t,_=Value.int n t:=r;obtain⟨xs,e1,e2⟩:=wa t;exact⟨(n,tk)::xs,by rw[e,e1];rfl,by rw[← e2];rfl⟩
theorem Oc(K:PM)(hc:X.calm=true:=by rfl)(hK:X.K=K:=by rfl):CallR X (.builtin "max") (fun xs H Q=>∃ p,∃ ns:List Int,xs=[.ref p]/\SqL K H p (ns.map V.int)/\ns≠[]/\∀ M,M∈ns->(∀ a∈ns,a<=M)->Q (.int M) H):=by
 subst hK;intro pins s σ H xs us Q I rv h;obtain⟨p,ns,rfl,hp,hn,q⟩:=h;obtain⟨u,rfl,ru⟩:=rv.one;cases ru;obtain⟨its,rv',pl,_⟩:=I.list hp;obtain⟨ys,e1,e2⟩:=wa rv';subst e1;have hl:s.heap.IsList p (intItems ys.toArray):=by
  have:intItems ys.toArray=(ys.map (fun p=>Value.int p.1 p.2)).toArray:=by simp[intItems]
  rw[this];exact pl.isList
 have hsz:0<ys.toArray.size:=by
  rcases ys with _|⟨y,ys⟩
  ·exact absurd e2.symm hn
  ·simp
 refine max_intList (I.ok.hd hc) hl hsz fun v h' tk hv hk=>?_;obtain⟨t,rfl⟩:=intItems_at hv;obtain⟨h1,h2⟩:=argBest_gt (numAt ys.toArray) (ys.toArray.size-1);refine⟨.int _,H,I.kept (t':=tk) hk,⟨t,rfl⟩,q _ ?_ fun a ha=>?_⟩
 ·rw[numAt_eq,← e2];exact PySem.getD_mem (by simp only[am,aa] at *;lia)
 ·rw[← e2] at ha;obtain⟨j,hj,rfl⟩:=PySem.mem_getD ha;rw[aa] at hj;have:=h2 j (by rw[am];lia);rw[numAt_eq] at this;exact this
end
def Pol(H:Hp)(v:V)(P:List Int)(B:Int):Prop:=∃ a t,v = .ref a/\H a=some (.tup [.ref t,.int B])/\H t=some (.tup (P.map V.int))
theorem Lm:P0 "max" = some (.builtin "max"):=by decide +kernel
theorem Ll:P0 "sum" = some (.builtin "sum"):=by decide +kernel
section
variable{X:Cx}{pins:List (Addr×Obj)}{σ:St}{H:Hp}{s:Shared}{h':Heap}
theorem Inv.turnedL{t':Nat}{fp:List Py}(I:Inv X pins σ H s)(k:∀ b o,b ∉ fp->s.heap.get? b=some o->h'.get? b=some o)(hf:∀ b∈fp,wm X pins H b):Inv X pins σ H { s with heap:=h',toks:=t' }:=by
 have nit:∀ b u,H b=some u->b ∉ fp:=fun b u e z=>by rw[(hf b z).1] at e;cases e
 have hL:X.env.locals ∉ fp:=fun z=>(hf _ z).2.1 rfl;refine I.step (g':=s.gens) (d':=s.drawn) (ch:=fp) (fun b hb=>⟨(hf b hb).2.2.2.1,(hf b hb).2.1,(hf b hb).2.2.2.2.1,(hf b hb).2.2.2.2.2⟩) (fun b o _ _ hc e _=>k b o hc e) (fun b o _ _ hc e _=>⟨o.slots,k b o hc e⟩) (fun _ _ _ _ n=>n)
  (fun b o hc e=>⟨o,k b o hc e⟩) (fun _ _ e=>e) (fun _ _ _ e=>e) (fun b ps e=>⟨#[],by rw[e];simp⟩) (fun m ⟨o,es,ep,ho,r⟩=>⟨o,es,ep,k _ o hL ho,r⟩) (fun b u e=>?_) I.bare
 refine (I.hok b u e).stay (fun c v hc q=>k c v (hc.elim (fun z=>by rw[z];exact nit b u e) fun z=>nit c _ z) q) (fun _ q=>q) fun _ _ q=>q
end
section
variable{prog:Program}{w:World}{A:Around}{E:Value->Shared->Prop}{s:Shared}
theorem Cz(hit:s.heap.IsTupleIter it t i)(ht:s.heap.IsTuple t items)(hx:items[i]? = some x)
  (hQ:∀ h',h'.IsTupleIter it t (i+1)->Heap.SameBut it s.heap h'->Q x { s with heap:=h' }):PH (model prog w) A (Qr (.ref it)) Q E s:=by
 obtain⟨o,ho,hc,hd⟩:=id hit;obtain⟨ol,hol,_,nl,hdl⟩:=ht;unfold Qr;refine On (P7 (name:=QB "__next__") hit.typeIs F.slot_tuple_iterator_next (Qk F.slot_tuple_iterator_next hit.typeIs F.entry_tuple_iterator_next ?_ (F.args_tuple_iterator_next_1 _)));show PH _ _ (field (.ref it) 0 >>= _) _ _ s;refine On (Qh ho hd (x:=.ref t) rfl ?_);show PH _ _ (if (Value.ref t == Value.none)=true then _ else _) _ _ s;rw[QJ (show ¬ ((Value.ref t == Value.none)=true) from aI)];show PH _ _ (field (.ref it) 1 >>= _) _ _ s;refine On (Qh ho hd (x:=.int i 0) rfl ?_);show PH _ _ (seqItems? (.ref t) >>= _) _ _ s;refine On (wpAny_seqItems hol hdl ?_);simp only[aS,hx];refine On (wpAny_setField ho hd (by simp) (PB ⟨x,rfl,PB (hQ _ ⟨_,Qn _ ho (Obj.isFreed_of_fields (Qm hd _)),(Obj.cls_mapFields ..).trans hc,by rw[Qm hd];simp[rawInt]⟩ (Qy ..))⟩))
theorem zU(hh:A.handled=none)(hit:s.heap.IsTupleIter it t i)(ht:s.heap.IsTuple t items)(hx:items[i]? = none)
  (hE:∀ h' e,Heap.ExtBut it s.heap h'->(∃ o,h'.get? e=some o/\o.cls = .type "StopIteration")->E (.ref e) { s with heap:=h' }):PH (model prog w) A (Qr (.ref it)) Q E s:=by
 obtain⟨o,ho,hc,hd⟩:=id hit;obtain⟨ol,hol,_,nl,hdl⟩:=ht;unfold Qr;refine On (P7 (name:=QB "__next__") hit.typeIs F.slot_tuple_iterator_next (Qk F.slot_tuple_iterator_next hit.typeIs F.entry_tuple_iterator_next ?_ (F.args_tuple_iterator_next_1 _)));show PH _ _ (field (.ref it) 0 >>= _) _ _ s;refine On (Qh ho hd (x:=.ref t) rfl ?_);show PH _ _ (if (Value.ref t == Value.none)=true then _ else _) _ _ s;rw[QJ (show ¬ ((Value.ref t == Value.none)=true) from aI)];show PH _ _ (field (.ref it) 1 >>= _) _ _ s;refine On (Qh ho hd (x:=.int i 0) rfl ?_);show PH _ _ (seqItems? (.ref t) >>= _) _ _ s;refine On (wpAny_seqItems hol hdl ?_);simp only[aS,hx];refine On (wpAny_rule (On (wpAny_setField ho hd (by simp) ?_)));show PH _ _ (newExc (.type "StopIteration") [] >>= _) ..;refine On ?_;simp only[newExc,newTuple];refine On (P6 ?_ (by size_fits));refine On (m:=firstArgMember _ _) (wpAny_of_eq (a:=Value.none) (by first|rfl|(simp only[firstArgMember];rfl)) ?_);refine P6 ?_ (by size_fits);simp only[raiseNew];refine On (wpAny_handled ?_);first|rw[show A.in1.handled=none from hh]|rw[hh]
 refine On (PB (wpAny_throw ?_));exact hE _ _ (((Qy ..).extBut.push _).push _) ⟨_,PF _ rfl,rfl⟩
end
theorem Lf{A:Qi}(hh:A.handled=none)(it l:Py)(hne:l≠it)(items:Array Pt):Draws prog w A it [it,l] items.size (fun i v=>items[i]? = some v) (fun i h=>h.IsTupleIter it l i/\h.IsTuple l items) where
 live:=fun _ _ st=>let ⟨o,ho,_⟩:=st.1;⟨o,ho⟩
 frame:=fun _ _ _ st hk=>⟨let ⟨o,ho,r⟩:=st.1;⟨o,hk it (by simp) o ho,r⟩,let ⟨o,ho,r⟩:=st.2;⟨o,hk l (by simp) o ho,r⟩⟩
 item:=fun i s Q E hi st hQ=>Cz st.1 st.2 (x:=items[i]) (by simp[hi]) fun h' hit' hs'=>hQ _ h' s.toks (by simp[hi]) ⟨hit',let ⟨o,ho,r⟩:=st.2;⟨o,(hs'.2 l hne).trans ho,r⟩⟩ hs'
 done:=fun s Q E st hE=>zU hh st.1 st.2 (by simp) hE
theorem EU(l:Py)(items:Array Pt)(n:Nat)(dct:Option Py)(sl:Array (Option Pt)) :
  Meets (Builtin.«enumerate.__new__» ⟨[.type "enumerate",.ref l],[]⟩) (fun _ R s=>s.heap.get? l=some { cls:=.type "tuple",dict:=dct,data:=.seq items n,slots:=sl } /\
   R (.ok (.ret (.ref (s.heap.push { cls:=.type "tuple_iterator",data:=.fields #[.ref l,.int 0 0] }).objs.size)))
    { s with heap:=(s.heap.push { cls:=.type "tuple_iterator",data:=.fields #[.ref l,.int 0 0] }).push { cls:=.type "enumerate",data:=.fields #[.none,.bool false,.ref s.heap.objs.size,rawInt 0,.none,.none] } }) :=
 .of_wp fun prog w A R s h=>by
  obtain⟨hp,g,d,tk,os⟩:=s;obtain⟨hl,h⟩:=h;have hsub:=sub_enumerate;have hL:Heap.IsTuple (Shared.heap ⟨hp,g,d,tk,os⟩) l items:=⟨_,hl,rfl,n,rfl⟩
  wp_walk using Qc hl
  refine wpAny_stack_any fun st=>PB ?_;split
  ·rename_i c _ _ _ _ _;cases (c == Qz "enumerate") <;> (wp_walk using Qc hl,wpAny_pyIter_tuple hL;exact⟨_,rfl,h⟩)
  ·wp_walk using Qc hl,wpAny_pyIter_tuple hL;exact⟨_,rfl,h⟩
def ND(Sq:Hp->List V->Prop):It:=⟨fun i H=>∃ xs x,Sq H xs/\xs[i]? = some x,fun i H x H'=>∃ p v,x = .ref p/\H p=none/\H'=uH H p (.tup [.int i,v])/\∀ xs,Sq H xs->xs[i]? = some v,fun i H=>∃ xs,Sq H xs/\xs.length<=i⟩
theorem Ab{X:Cx}{pins:List (Py×QF)}{σ:St}{H:Hp}{s:Px}{h1 h2:Qb}{e it:Py}{tk t2:Nat}{i:Nat}{x:V}{u:Pt}(I:Inv X pins σ H s)(hf:∀ b∈[e,it],wm X pins H b)(le:e<s.heap.objs.size)(li:it<s.heap.objs.size)(ru:RelV x u)
  (hT:h1.get? s.heap.objs.size=some { cls:=.type "tuple",data:=.seq #[.int i tk,u] }) (hk:∀ b o,b≠e->b≠it->s.heap.get? b=some o->h1.get? b=some o) (hs:Heap.SameBut e h1 h2) :
  Inv X pins σ (uH H s.heap.objs.size (.tup [.int i,x])) { s with heap:=h2,toks:=t2 }/\∀ b∈[e,it],uH H s.heap.objs.size (.tup [.int i,x]) b=none:=by
 have lt:∀ b∈[e,it],b≠s.heap.objs.size:=fun b hb=>by
  rcases av.mp hb with z|z
  ·rw[z];exact bt le
  ·rw[aq.mp z];exact bt li
 have I1:Inv X pins σ (uH H s.heap.objs.size (.tup [.int i,x])) { s with heap:=s.heap.push { cls:=.type "tuple",data:=.seq #[.int i tk,u] },toks:=t2 } :=
  I.laid (t':=t2) (fun b u e=>Pw _ e) (ak _) ⟨by show 2<=Pv;decide,[.int i tk,u],.cons ⟨tk,rfl⟩ (.cons ru .nil),⟨_,PF _ rfl,rfl,_,rfl⟩⟩
 have nn:∀ b∈[e,it],uH H s.heap.objs.size (.tup [.int i,x]) b=none:=fun b hb=>by
  rw[ul (lt b hb)];exact (hf b hb).1
 refine⟨Inv.turnedL (s:={ s with heap:=s.heap.push { cls:=.type "tuple",data:=.seq #[.int i tk,u] },toks:=t2 }) (t':=t2) (fp:=[e,it]) I1 (fun b o hb q=>?_) fun b hb=>⟨nn b hb,(hf b hb).2⟩,nn⟩;have be:b≠e:=fun z=>hb (by simp[z]);have bi:b≠it:=fun z=>hb (by simp[z]);refine (hs.2 b be).trans ?_;rcases Heap.get?_push_cases q with⟨z1,z2⟩|z
 ·rw[z1,z2];exact hT
 ·exact hk b o be bi z
theorem EV{prog:PU}{w:P3}{A:Qi}{E:Pt->Px->Prop}{s:Px}{e it l:Py}{i:Nat}{items:Array Pt}{old:Pt}{Q:Option Pt->Px->Prop}(hh:A.handled=none)(he:IsEnum s.heap e it i old)(hit:s.heap.IsTupleIter it l i)(hl:s.heap.IsTuple l items)
  (hx:items[i]? = none) (hQ:∀ h',Heap.ExtBut it s.heap h'->Q none { s with heap:=h' }):PH (model prog w) A (pyNext (.ref e)) Q E s:=by
 have hT:s.TypeIs (.ref e) "enumerate" := ⟨_,he,rfl⟩;unfold pyNext;refine On (wpAny_attempt (P7 (name:=QB "__next__") hT F.slot_enumerate_next (Qk F.slot_enumerate_next hT F.entry_enumerate_next ?_ (F.args_enumerate_next_1 _))));show PH _ _ (field (.ref e) 2 >>= _) _ _ _;refine On (Qh he rfl (x:=.ref it) rfl ?_);refine On (zU (A:=A.in1) hh hit hl hx fun h' x he' hx'=>?_);obtain⟨o,ho,hc⟩:=hx';exact On (wpAny_isInstance (T := "StopIteration") (b:=true) ⟨o,ho,hc⟩ isSubtype_stop (PB (hQ _ he')))
theorem CO(hL:s.heap.IsTuple l items)
  (h:∀ h',IsEnum h' (s.heap.objs.size+1) s.heap.objs.size 0 .none->h'.IsTupleIter s.heap.objs.size l 0->h'.objs.size=s.heap.objs.size+2->(∀ b o,s.heap.get? b=some o->h'.get? b=some o)->Q (.ref (s.heap.objs.size+1)) { s with heap:=h' }) :
  PH (model prog w) A (call (.type "enumerate") [.ref l]) Q E s:=by
 obtain⟨⟨c,dct,dt,sl⟩,hl,hc,n,hd⟩:=hL;have hc':c = .type "tuple" := hc;have hd':dt = .seq items n:=hd;subst hc' hd';refine callType_new F.called_enumerate (by decide) (F.typeCall_enumerate_1 _) (F.newCall_enumerate_1 _) (fun obj=>F.args_object_init_2 obj _) F.entry_enumerate_new (EU l items n dct sl) ⟨hl,?_⟩;have hz:(s.heap.push { cls:=.type "tuple_iterator",data:=.fields #[.ref l,.int 0 0] }).objs.size=s.heap.objs.size+1:=QH ..;show _/\_;rw[hz];have he:IsEnum ((s.heap.push { cls:=.type "tuple_iterator",data:=.fields #[.ref l,.int 0 0] }).push { cls:=.type "enumerate",data:=.fields #[.none,.bool false,.ref s.heap.objs.size,rawInt 0,.none,.none] }) (s.heap.objs.size+1) s.heap.objs.size 0 .none:=by
  have:=PF (s.heap.push { cls:=.type "tuple_iterator",data:=.fields #[.ref l,.int 0 0] }) (o:={ cls:=.type "enumerate",data:=.fields #[.none,.bool false,.ref s.heap.objs.size,rawInt 0,.none,.none] }) rfl;rw[hz] at this;exact this
 exact⟨⟨_,he,rfl⟩,h _ he ⟨_,Pw _ (PF _ rfl),rfl,rfl⟩ (by rw[QH,hz]) fun b o x=>Pw _ (Pw _ x)⟩
theorem Cd{P:PU}{w:P3}{K:PM}{es:List Expr}{kk:Nat}{ps:Pos}(a e it:Py)(hei:e≠it):Turn P w K (.Tuple es kk ps) (ND fun H xs=>SqL K H a xs) [e,it] e (fun i h=>(∃ old,IsEnum h e it i old)/\h.IsListIter it a i) where
 mem:=by simp
 obj:=fun i h st b hb=>by
  obtain⟨⟨old,he⟩,o,ho,hc,hd⟩:=st;rcases av.mp hb with z|z
  ·rw[z];exact⟨_,he,fun v q=>by cases q⟩
  ·rw[aq.mp z];exact⟨o,ho,fun v q=>by rw[hd] at q;cases q⟩
 keep:=fun i h h' st k=>by
  obtain⟨⟨old,he⟩,o,ho,r⟩:=st;exact⟨⟨old,k e (by simp) _ he⟩,o,k it (by simp) o ho,r⟩
 item:=by
  intro X hP hw hK hc i pins s σ H E I hf st hg;subst hP hw hK;obtain⟨xs,x,hq,hx⟩:=hg;obtain⟨its,rv,p,hz⟩:=I.list hq;obtain⟨u,hu,ru⟩:=rv.get hx;obtain⟨⟨old,he⟩,hit⟩:=st;have hl:s.heap.IsList a its.toArray:=p.isList;have hne:a≠it:=fun z=>by
   obtain⟨o,ho,c,_⟩:=id hl;obtain⟨o',ho',c',_⟩:=id hit;rw[z,ho'] at ho;cases ho;rw[c'] at c;revert c;decide
  have hae:e≠a:=fun z=>by
   obtain⟨o,ho,c,_⟩:=id hl;rw[← z,he] at ho;cases ho;have c':Qz "enumerate" = Qz _:=c;revert c';decide
  have le:e<s.heap.objs.size:=PC he;have li:it<s.heap.objs.size:=by obtain⟨o,ho,_⟩:=id hit;exact PC ho
  refine wpAny_pyNext_enum_itemD (Draws.list (A:=X.A.in1) (I.ok.hd hc) it a hne its.toArray) he ⟨hit,hl⟩ (by have:=(aj.mp hu).1;simpa using this) hei (by simp[hei,hae]) fun y h1 tk hP ho hst hT hsz hk=>?_;have hy:its[i]? = some y:=by simpa using hP
  rw[hu] at hy;cases hy;refine⟨_,rfl,wpAny_letOwnedTupleGo_enum ho fun h2 he2 hs2=>?_⟩;obtain⟨I2,n2⟩:=Ab (t2:=tk+1) I hf le li ru hT hk hs2;refine⟨.ref s.heap.objs.size,_,I2,rfl,⟨_,x,rfl,I.hok.fresh (ak _),rfl,fun ys hy=>by rw[I.list_inj hy hq];exact hx⟩,⟨⟨_,by simpa using he2⟩,?_⟩,n2⟩;obtain⟨o,ho1,r⟩:=hst.1;exact⟨o,(hs2.2 it hei.symm).trans ho1,r⟩
 done:=by
  intro X hP hw hK hc i pins s σ H E I hf st hg;subst hP hw hK;obtain⟨xs,hq,hx⟩:=hg;obtain⟨its,rv,p,hz⟩:=I.list hq;obtain⟨⟨old,he⟩,hit⟩:=st;have hl:s.heap.IsList a its.toArray:=p.isList;have hne:a≠it:=fun z=>by
   obtain⟨o,ho,c,_⟩:=id hl;obtain⟨o',ho',c',_⟩:=id hit;rw[z,ho'] at ho;cases ho;rw[c'] at c;revert c;decide
  obtain⟨f0,f1,f2,f3,f4,f5⟩:=hf it (by simp);have le:=rv.length;refine wpAny_pyNext_enum_end (I.ok.hd hc) he hit hl (by simp;lia) fun h' eb=>⟨rfl,I.turned (t':=s.toks) (fun b o hb e=>eb b o hb e) f0 f1 f3 f4 f5⟩
 self:=fun _ _ _ _ _ st h=>by
  obtain⟨⟨old,he⟩,_⟩:=st;exact wpAny_pyIter_enum he h
theorem Cc{P:PU}{w:P3}{K:PM}{es:List Expr}{kk:Nat}{ps:Pos}(a e it:Py)(hei:e≠it):Turn P w K (.Tuple es kk ps) (ND fun H xs=>SqT K H a xs) [e,it] e (fun i h=>(∃ old,IsEnum h e it i old)/\h.IsTupleIter it a i) where
 mem:=by simp
 obj:=fun i h st b hb=>by
  obtain⟨⟨old,he⟩,o,ho,hc,hd⟩:=st;rcases av.mp hb with z|z
  ·rw[z];exact⟨_,he,fun v q=>by cases q⟩
  ·rw[aq.mp z];exact⟨o,ho,fun v q=>by rw[hd] at q;cases q⟩
 keep:=fun i h h' st k=>by
  obtain⟨⟨old,he⟩,o,ho,r⟩:=st;exact⟨⟨old,k e (by simp) _ he⟩,o,k it (by simp) o ho,r⟩
 item:=by
  intro X hP hw hK hc i pins s σ H E I hf st hg;subst hP hw hK;obtain⟨xs,x,hq,hx⟩:=hg;obtain⟨its,rv,p,hz⟩:=I.tuple hq;obtain⟨u,hu,ru⟩:=rv.get hx;obtain⟨⟨old,he⟩,hit⟩:=st;have hl:s.heap.IsTuple a its.toArray:=p;have hne:a≠it:=fun z=>by
   obtain⟨o,ho,c,_⟩:=id hl;obtain⟨o',ho',c',_⟩:=id hit;rw[z,ho'] at ho;cases ho;rw[c'] at c;revert c;decide
  have hae:e≠a:=fun z=>by
   obtain⟨o,ho,c,_⟩:=id hl;rw[← z,he] at ho;cases ho;have c':Qz "enumerate" = Qz _:=c;revert c';decide
  have le:e<s.heap.objs.size:=PC he;have li:it<s.heap.objs.size:=by obtain⟨o,ho,_⟩:=id hit;exact PC ho
  refine wpAny_pyNext_enum_itemD (Lf (A:=X.A.in1) (I.ok.hd hc) it a hne its.toArray) he ⟨hit,hl⟩ (by have:=(aj.mp hu).1;simpa using this) hei (by simp[hei,hae]) fun y h1 tk hP ho hst hT hsz hk=>?_;have hy:its[i]? = some y:=by simpa using hP
  rw[hu] at hy;cases hy;refine⟨_,rfl,wpAny_letOwnedTupleGo_enum ho fun h2 he2 hs2=>?_⟩;obtain⟨I2,n2⟩:=Ab (t2:=tk+1) I hf le li ru hT hk hs2;refine⟨.ref s.heap.objs.size,_,I2,rfl,⟨_,x,rfl,I.hok.fresh (ak _),rfl,fun ys hy=>by rw[I.tuple_inj hy hq];exact hx⟩,⟨⟨_,by simpa using he2⟩,?_⟩,n2⟩;obtain⟨o,ho1,r⟩:=hst.1;exact⟨o,(hs2.2 it hei.symm).trans ho1,r⟩
 done:=by
  intro X hP hw hK hc i pins s σ H E I hf st hg;subst hP hw hK;obtain⟨xs,hq,hx⟩:=hg;obtain⟨its,rv,p,hz⟩:=I.tuple hq;obtain⟨⟨old,he⟩,hit⟩:=st;have hl:s.heap.IsTuple a its.toArray:=p;have hne:a≠it:=fun z=>by
   obtain⟨o,ho,c,_⟩:=id hl;obtain⟨o',ho',c',_⟩:=id hit;rw[z,ho'] at ho;cases ho;rw[c'] at c;revert c;decide
  obtain⟨f0,f1,f2,f3,f4,f5⟩:=hf it (by simp);have le:=rv.length;refine EV (I.ok.hd hc) he hit hl (by simp;omega) fun h' eb=>⟨rfl,I.turned (t':=s.toks) (fun b o hb e=>eb b o hb e) f0 f1 f3 f4 f5⟩
 self:=fun _ _ _ _ _ st h=>by
  obtain⟨⟨old,he⟩,_⟩:=st;exact wpAny_pyIter_enum he h
def MS(K:Frag)(ta:TA):TI:=fun σ H R=>ta σ H fun vs H1=>∃ a,vs=[.ref a]/\(((∃ xs,SqL K H1 a xs)/\R (ND fun H xs=>SqL K H a xs) H1)\/((∃ xs,SqT K H1 a xs)/\R (ND fun H xs=>SqT K H a xs) H1))
theorem zf:P0 "enumerate" = some (.type "enumerate"):=by decide +kernel
theorem HS(K:PM)(hg:Gl X "enumerate")(hm:X.mg "enumerate" = none)(ha:PA X [a] ta)(hK:X.K=K:=by rfl)(hs:PN [a] X.env=[(false,eval a X.env)]:=by rfl):PI X (.Tuple es kk ps) (.Call (.Name "enumerate" p) [a] [] pos) (MS K ta):=by
 subst hK;intro pins s σ H R I h;refine Call_ (wL I hg hm zf (Qd (uA (ha pos pins s σ H _ I h) fun us s1 ⟨vs,H1,I1,r1,q1⟩=>?_) hs rfl));obtain⟨l,e,q1⟩:=q1;subst e;obtain⟨u,rfl,ru⟩:=Vals.one r1;cases ru;have fp1:∀{h':Qb},∀ b∈[s1.heap.objs.size+1,s1.heap.objs.size],wm X pins H1 b:=fun b hb=>by
  have hb':s1.heap.objs.size<=b:=by
   rcases av.mp hb with z|z
   ·omega
   ·rw[aq.mp z];exact ak _
  exact I1.fpOk hb' (I1.hok.fresh hb')
 rcases q1 with⟨⟨xs,hq⟩,q⟩|⟨⟨xs,hq⟩,q⟩
 ·obtain⟨its,rv,pl,hz⟩:=I1.list hq;refine call_enumerate_list pl.isList fun h' he hit hsz hk=>?_;refine wpAny_pyIter_enum he ?_;exact⟨_,[s1.heap.objs.size+1,s1.heap.objs.size],_,_,H1,rfl,I1.kept (t':=s1.toks) hk,Cd l _ _ (Nat.succ_ne_self _),⟨⟨_,he⟩,hit⟩,fp1 (h':=h'),q⟩
 ·obtain⟨its,rv,pl,hz⟩:=I1.tuple hq;refine CO pl fun h' he hit hsz hk=>?_;refine wpAny_pyIter_enum he ?_;exact⟨_,[s1.heap.objs.size+1,s1.heap.objs.size],_,_,H1,rfl,I1.kept (t':=s1.toks) hk,Cc l _ _ (Nat.succ_ne_self _),⟨⟨_,he⟩,hit⟩,fp1 (h':=h'),q⟩
theorem Oi(K:PM)(hK:X.K=K:=by rfl):Np X (fun o i H Q=>∃ p xs v,∃ j:Nat,o = .ref p/\i = .int j/\SqL K H p xs/\xs[j]? = some v/\Q v H):=by
 subst hK;intro pins s σ H o i ov iv Q I ro ri h;obtain⟨p,xs,v,j,rfl,rfl,hq,hv,q⟩:=h;cases ro;obtain⟨t,rfl⟩:=ri;obtain⟨its,r,pl,hz⟩:=I.list hq;obtain⟨w,ew,rw'⟩:=r.get hv;have hl:=(aj.mp hv).1;have hn:=vv;exact wpAny_getItem_list pl.isList (by lia) (by lia) (by rw[aS];simpa using ew) ⟨v,H,I,rw',q⟩
end L2
namespace HT
open PySem PyProof.Rows
variable{prog:Program}{w:World}{A:Around}{E:Value->Shared->Prop}{s:Shared}
theorem wg{t sl:Py}{items:Array Pt}{vl vu:Pt}{lo hi:Option Int}{Q:Pt->Px->Prop}(ht:IsTup s.heap t items)(hs:s.heap.IsSliceOf sl vl vu .none)(pl:IsPart vl lo)(pu:IsPart vu hi)
  (hw:uJ items.size 0 lo=0/\uJ items.size items.size hi=items.size) (h:Q (.ref t) s):PH (model prog w) A (getItem (.ref t) (.ref sl)) Q E s:=by
 obtain⟨os,hos,hcs,hds⟩:=id hs;have hTs:s.TypeIs (.ref sl) "slice" := ⟨os,hos,hcs⟩;unfold getItem;try with_reducible refine Qu ?_
 first|refine On (PB ?_)|skip
 refine On (wpAny_sequenceKey ht.typeIs (by decide) ?_);refine On (P7 (name:=QB "__getitem__") ht.typeIs Qj (Qk Qj ht.typeIs entry_tuple_getitem ?_ (args_tuple_getitem _ _)));show PH _ _ (Builtin.Tuple.tupleItemsOf (.ref t) >>= _) _ _ s;refine On (tupleItemsOf_ ht ?_);refine On (wpAny_typeOf hTs ?_);rw[QI (by decide)];refine On (vy hs pl pu ?_);have hyes:(((uJ items.size 0 lo:Nat):Int) == 0 && (1:Int) == 1 && (uJ items.size items.size hi-uJ items.size 0 lo) == items.size)=true:=by
  rw[hw.1,hw.2];simp
 show PH _ _ (if (((uJ items.size 0 lo:Nat):Int) == 0 && (1:Int) == 1 && (uJ items.size items.size hi-uJ items.size 0 lo) == items.size)=true then _ else _) _ _ s;rw[QI hyes];refine On (m:=Builtin.Tuple.tupleIsExact _) ?_;unfold Builtin.Tuple.tupleIsExact;refine On (wpAny_typeOf ht.typeIs (PB ?_));rw[QI (by decide)];first
  | exact On (wpAny_rule (On (PB (PB ⟨_,rfl,PB h⟩))))
  | exact On (wpAny_rule (PB ⟨_,rfl,PB h⟩))
  | exact On (wpAny_rule (On (PB ⟨_,rfl,PB h⟩)))
end HT
namespace Po
open L2
theorem IL{P:List Int}{f:Nat->Int}{B B':Int}(F:Fm P B)(h:∀ k,P.getD k 0*B'=f k*B):B.natAbs∣B'.natAbs:=by
 have q:=CS (c:=B'.natAbs) (d:=B.natAbs) P B.natAbs (dm _ _) fun t ht=>by
  obtain⟨k,rfl⟩:=getD_mem ht;have e:=congrArg Int.natAbs (h k);rw[aR,aR] at e;rw[bQ,e];exact dm _ _
 rw[F.gcd,dS] at q;exact q
theorem size{P:List Int}{f:Nat->Int}{B b:Int}(F:Fm P B)(hb:0<b)(h:∀ k,P.getD k 0*b=f k*B):B.natAbs<=b.natAbs/\∀ k,(P.getD k 0).natAbs<=(f k).natAbs:=by
 have d:B.natAbs<=b.natAbs:=cU (by lia) (IL F h);refine⟨d,fun k=>?_⟩;have e:=congrArg Int.natAbs (h k);rw[aR,aR] at e;have:(P.getD k 0).natAbs*b.natAbs<=(f k).natAbs*b.natAbs:=by
  rw[e];exact ai _ d
 exact Nat.le_of_mul_le_mul_right this (by lia)
theorem same{f g:Nat->Int}{B B' b c:Int}(F:Fm P B)(F':Fm P' B')(hb:b≠0)(hc:c≠0)(h:∀ k,P.getD k 0*b=f k*B)(h':∀ k,P'.getD k 0*c=g k*B')(e:∀ k,f k*c=g k*b):P=P'/\B=B':=by
 refine uniq F F' fun k=>?_;have h1:=h k;have h2:=h' k;have h3:=e k;refine aK hb (aK hc ?_);generalize P.getD k 0=x at *;generalize P'.getD k 0=x' at *;generalize f k=y at *;generalize g k=y' at *
 calc x*B'*b*c=(x*b)*B'*c:=by grind
  _=y*B*B'*c:=by rw[h1]
  _=(y*c)*B*B':=by grind
  _=(y'*b)*B*B':=by rw[h3]
  _=(y'*B')*B*b:=by grind
  _=(x'*c)*B*b:=by rw[h2]
  _=x'*B*b*c:=by grind
end Po
namespace Cv
open L2
def sm(F:Nat->Int):Nat->Int
 | 0=>0
 | n+1=>sm F n+F n
theorem uo(h:∀ j,j<n->F j=G j):sm F n=sm G n:=by
 induction n with
 | zero=>rfl
 | succ n ih=>rw[sm,sm,ih fun j hj=>h j (by lia),h n (by lia)]
theorem vA(h:n<=m)(z:∀ j,n<=j->j<m->F j=0):sm F m=sm F n:=by
 induction m with
 | zero=>rw[show n=0 by lia]
 | succ m ih =>
  rcases cy h with e|e
  ·rw[e]
  ·rw[sm,ih (by lia) fun j a b=>z j a (by lia),z m (by lia) (by lia),cF]
def cv(f g:Nat->Int)(k:Nat):Int:=sm (fun j=>f j*g (k-j)) (k+1)
def tm(f g:Nat->Int)(i m:Nat):Int:=sm (fun j=>if j<=m then f j*g (m-j) else 0) i
theorem wo(hf:∀ j,n<=j->f j=0):tm f g n m=cv f g m:=by
 unfold tm cv;have e1:sm (fun j=>if j<=m then f j*g (m-j) else 0) (max n (m+1))=sm (fun j=>if j<=m then f j*g (m-j) else 0) n:=vA (by lia) fun j a b=>by
  show (if j<=m then f j*g (m-j) else 0)=0;rw[hf j a,aN];split <;> rfl
 have e2:sm (fun j=>if j<=m then f j*g (m-j) else 0) (max n (m+1))=sm (fun j=>if j<=m then f j*g (m-j) else 0) (m+1):=vA (by lia) fun j a b=>QJ (by lia);rw[← e1,e2];exact uo fun j hj=>QI (by lia)
theorem Ar(f g:Nat->Int)(i m:Nat):tm f g (i+1) m=tm f g i m+(if i<=m then f i*g (m-i) else 0):=rfl
theorem u5(hf:∀ j,a<=j->f j=0)(hg:∀ j,b<=j->g j=0)(h:a+b-1<=k):cv f g k=0:=by
 unfold cv;have:sm (fun j=>f j*g (k-j)) (k+1)=sm (fun j=>f j*g (k-j)) 0:=vA (aE _) fun j _ hj=>by
  show f j*g (k-j)=0;rcases ar j a with c|c
  ·rw[hg (k-j) (by lia),bD]
  ·rw[hf j c,aN]
 rw[this];rfl
theorem yb(h:∀ j,f j=0):cv f g k=0:=by
 unfold cv;have:sm (fun j=>f j*g (k-j)) (k+1)=sm (fun j=>f j*g (k-j)) 0:=vA (aE _) fun j _ _=>by
  show f j*g (k-j)=0;rw[h j,aN]
 rw[this];rfl
theorem GQ(h:∀ j,g j=0):cv f g k=0:=by
 unfold cv;have:sm (fun j=>f j*g (k-j)) (k+1)=sm (fun j=>f j*g (k-j)) 0:=vA (aE _) fun j _ _=>by
  show f j*g (k-j)=0;rw[h,bD]
 rw[this];rfl
theorem Fp:∀{i:Nat},i<=2^b->(∀ j,j<i->Lt2 n (F j))->(sm F i).natAbs<=i*2^n
 | 0,_,_=>by simp[sm]
 | i+1,h,hF=>by
  have ih:=Fp (b:=b) (i:=i) (by lia) fun j hj=>hF j (by lia);have h1:=hF i (by lia);unfold Lt2 at h1;rw[sm,bh];lia
theorem Ef(hf:∀ j,Lt2 n (f j))(hg:∀ j,Lt2 m (g j))(hk:k+1<2^b):Lt2 (n+m+b) (cv f g k):=by
 have:=Fp (F:=fun j=>f j*g (k-j)) (n:=n+m) (b:=b) (i:=k+1) (by lia) fun j _=>(hf j).mul (hg _);unfold Lt2 cv;rw[eJ 2 (n+m) b];have p:0<2^(n+m):=bg (by decide);refine cw this ?_;rw[bQ];exact gO hk p
theorem uE(h:∀ j,f j=f' j)(h':∀ j,g j=g' j):cv f g k=cv f' g' k:=uo fun j _=>by rw[h,h']
theorem vB(F:Nat->Int)(c:Int)(n:Nat):sm (fun j=>F j*c) n=sm F n*c:=by
 induction n with
 | zero=>simp[sm]
 | succ n ih=>rw[sm,sm,ih,fB]
theorem v3(f g:Nat->Int)(c:Int)(k:Nat):cv (fun j=>f j*c) g k=cv f g k*c:=by
 unfold cv;rw[← vB];exact uo fun j _=>by grind
theorem wb(F:Nat->Int)(n:Nat):sm F (n+1)=F 0+sm (fun j=>F (j+1)) n:=by
 induction n with
 | zero=>simp[sm]
 | succ n ih=>rw[sm,ih,sm];lia
theorem Fo(F:Nat->Int)(n:Nat):sm F n=sm (fun j=>F (n-1-j)) n:=by
 induction n generalizing F with
 | zero=>rfl
 | succ n ih =>
  rw[wb (fun j=>F (n+1-1-j)) n,sm,ih F];have:sm (fun j=>F (n-1-j)) n=sm (fun j=>F (n+1-1-(j+1))) n:=uo fun j hj=>by rw[show n+1-1-(j+1)=n-1-j by lia]
  rw[this,show n+1-1-0=n by lia];lia
theorem xt(f g:Nat->Int)(k:Nat):cv f g k=cv g f k:=by
 unfold cv;rw[Fo];refine uo fun j hj=>?_;rw[show k+1-1-j=k-j by lia,show k-(k-j)=j by lia,bB]
def fn(P:List Int):Nat->Int:=fun j=>P.getD j 0
theorem uk(h:P.length<=j):fn P j=0:=by
 unfold fn;rw[ae,bC h];rfl
end Cv
namespace RV
open PySem PyProof.Rows
theorem Bv:Manifest.owners.lookup (String.ofList ['d','e','s','r','e','v','e','r'].reverse)=some Manifest.sig_reversed:=by kernel_rfl
theorem slot_next:Slot "reversed" "__next__" "reversed.__next__" := .of (owner := "reversed") (n := "__next__") (by rw[typeLookup_type,QE];kernel_rfl) (by decide +kernel) (by decide +kernel) (by decide +kernel) (by first|exact .inl (by decide +kernel)|exact .inr (by decide +kernel)) (by rw[isSubtype_type];kernel_rfl)
theorem zC:Slot "reversed" "__iter__" "reversed.__iter__" := .of (owner := "reversed") (n := "__iter__") (by rw[typeLookup_type,QE];kernel_rfl) (by decide +kernel) (by decide +kernel) (by decide +kernel) (by first|exact .inl (by decide +kernel)|exact .inr (by decide +kernel)) (by rw[isSubtype_type];kernel_rfl)
theorem Et:Slot "reversed" "__init__" "object.__init__" := .of (owner := "object") (n := "__init__") (by rw[typeLookup_type,QE];kernel_rfl) (by decide +kernel) (by decide +kernel) (by decide +kernel) (by first|exact .inl (by decide +kernel)|exact .inr (by decide +kernel)) (by rw[isSubtype_type];kernel_rfl)
theorem yZ:entryFor table "reversed.__next__" = some Builtin.«reversed.__next__» := entryFor_of_tree (by kernel_rfl)
theorem CP:entryFor table "reversed.__iter__" = some Builtin.«dict_keyiterator.__iter__» := entryFor_alias (id' := "dict_keyiterator.__iter__") (by kernel_rfl) (by first|rfl|decide +kernel|(unfold String.splitOn;simp +decide [String.splitOnAux])) (by decide +kernel) (by kernel_rfl)
theorem Ak(a:Pt):argsOk "reversed.__next__" ⟨[a],[]⟩:=by
 unfold argsOk;rw[signature?_of (id := "reversed.__next__") (n:=['_','_','t','x','e','n','_','_']) (o:=['d','e','s','r','e','v','e','r']) (by kernel_rfl) Bv];kernel_rfl
theorem E3(a:Pt):argsOk "reversed.__iter__" ⟨[a],[]⟩:=by
 unfold argsOk;rw[signature?_of (id := "reversed.__iter__") (n:=['_','_','r','e','t','i','_','_']) (o:=['d','e','s','r','e','v','e','r']) (by kernel_rfl) Bv];kernel_rfl
theorem KS:typeLookup (.type "tuple") "__reversed__" = pure none:=by rw[typeLookup_type,QE];kernel_rfl
theorem Lk:TypeCalled "reversed" "reversed.__new__" "object.__init__" := ⟨by decide +kernel,by decide +kernel,⟨_,_,F.mro_reversed⟩,F.made_reversed,by decide +kernel,by rw[isSubtype_type];kernel_rfl,Et⟩
theorem Ih:isSubtype (.type "tuple") (.type "dict")=pure false:=by rw[isSubtype_type];kernel_rfl
section
variable{prog:Program}{w:World}{A:Around}{E:Value->Shared->Prop}{s:Shared}
theorem EJ(t:Py)(items:Array Pt)(n:Nat)(dct:Option Py)(sl:Array (Option Pt)) :
  Meets (Builtin.«reversed.__new__» ⟨[.type "reversed",.ref t],[]⟩) (fun _ R s=>s.heap.get? t=some { cls:=.type "tuple",dict:=dct,data:=.seq items n,slots:=sl }/\(items.size:Int)<2^63 /\
   ∀ tk,R (.ok (.ret (.ref s.heap.objs.size))) { s with heap:=s.heap.push { cls:=.type "reversed",data:=.fields #[.ref t,rawInt ((items.size:Int)-1)] },toks:=tk }) :=
 .of_wp fun prog w A R s h=>by
  obtain⟨ht,hsz,h⟩:=h;have hT:s.heap.IsTuple t items:=⟨_,ht,rfl,n,rfl⟩;unfold Builtin.«reversed.__new__»;refine On (wpAny_of_eq (newClass_reversed _) ?_);try dsimp only
  refine On (wpAny_of_eq (a:=()) (by first|rfl|kernel_rfl) ?_);refine On (wpAny_of_eq (a:=()) (by first|rfl|kernel_rfl) ?_);try dsimp only
  refine On (wpAny_specialOf hT.typeIs KS ?_);try dsimp only
  refine On ?_;show PH _ _ (isInstance (.ref t) (.type "dict") >>= _) _ _ s;refine On (wpAny_isInstance hT.typeIs Ih ?_);try dsimp only
  show PH _ _ (if false=true then _ else _) _ _ s;rw[QJ aI];refine On (wpAny_specialOf hT.typeIs PyProof.Rows.slot_tuple_getitem.lookup ?_);try dsimp only
  show PH _ _ (if _=true then _ else _) _ _ s;rw[QI (by decide)];refine PB ?_;show PH _ _ (if (!true)=true then _ else _) _ _ s;rw[QJ (by decide)];refine On (PyProof.Rows.len_tuple hT hsz ?_);refine On (m:=asInt? _) (PB ?_);try dsimp only
  refine On ?_;show PH _ _ (newObj (.type "reversed") (.fields #[.ref t,rawInt ((items.size:Int)-1)])) ..;refine P6 ?_ (by size_fits);exact PB ⟨_,rfl,h _⟩
theorem Hc(hT:s.heap.IsTuple t items)(hsz:(items.size:Int)<2^63)
  (h:∀ tk,Q (.ref s.heap.objs.size) { s with heap:=s.heap.push { cls:=.type "reversed",data:=.fields #[.ref t,rawInt ((items.size:Int)-1)] },toks:=tk }):PH (model prog w) A (call (.type "reversed") [.ref t]) Q E s:=by
 obtain⟨⟨c,dct,dt,sl⟩,hl,hc,n,hd⟩:=hT;have hc':c = .type "tuple" := hc;have hd':dt = .seq items n:=hd;subst hc' hd';refine callType_new Lk (by decide) (F.typeCall_reversed_1 _) (F.newCall_reversed_1 _) (fun obj=>F.args_object_init_2 obj _) F.entry_reversed_new (EJ t items n dct sl) ⟨hl,hsz,fun tk=>?_⟩;exact⟨⟨_,PF _ rfl,rfl⟩,h tk⟩
def Is(h:Heap)(a t:Addr)(i:Int):Prop:=∃ o,h.get? a=some o/\o.cls = .type "reversed" /\ o.data = .fields #[.ref t,rawInt i]
theorem Is.ty(x:Is s.heap a t i):s.TypeIs (.ref a) "reversed" := let ⟨o,ho,hc,_⟩:=x;⟨o,ho,hc⟩
theorem zY(x:Is s.heap a t i)(h:Q (.ref a) s):PH (model prog w) A (pyIter (.ref a)) Q E s:=by
 refine wpAny_pyIter_slot x.ty zC (Qk zC x.ty CP ?_ (E3 _));show PH _ _ (ret (.ref a)) _ _ s;exact PB ⟨_,rfl, "reversed",_,x.ty,slot_next.lookup,h⟩
theorem EI{it t:Py}{i:Nat}{items:Array Pt}{x:Pt}(hit:Is s.heap it t (i:Int))(hT:s.heap.IsTuple t items)(hx:items[i]? = some x)(hsz:(items.size:Int)<2^63)
  (hQ:∀ h' tk,Is h' it t ((i:Int)-1)->Heap.SameBut it s.heap h'->Q (some x) { s with heap:=h',toks:=tk }):PH (model prog w) A (pyNext (.ref it)) Q E s:=by
 obtain⟨o,ho,hc,hd⟩:=id hit;unfold pyNext;refine On (wpAny_attempt (P7 (name:=QB "__next__") hit.ty slot_next (Qk slot_next hit.ty yZ ?_ (Ak _))));unfold Builtin.«reversed.__next__»;refine On (wpAny_of_eq (a:=(Value.ref it,[])) rfl ?_);try dsimp only
 refine On (Qh ho hd (x:=.ref t) rfl ?_);refine On (Qh ho hd (x:=rawInt (i:Int)) rfl ?_);try dsimp only[rawInt]
 rw[QJ (by lia)];refine On (wpAny_specialOf hT.typeIs PyProof.Rows.slot_tuple_getitem.lookup ?_);show PH _ _ (if false=true then _ else _) _ _ s;rw[QJ aI];refine On (wpAny_mkInt ?_);have hlt:i<items.size:=(Array.getElem?_eq_some_iff.mp hx).1;refine On (wpAny_attempt ?_);refine PyProof.Rows.getItem_tuple (j:=i) (x:=x) hT (by lia) (by lia) (by unfold seqIndex?;simp;lia) hx ?_;try dsimp only
 refine On (Qh (s:={ s with toks:=s.toks+1 }) ho hd (x:=rawInt (i:Int)) rfl ?_);try dsimp only[rawInt]
 refine On (wpAny_setField (s:={ s with toks:=s.toks+1 }) ho hd (by simp) (PB ⟨x,rfl,PB (hQ _ _ ?_ (Qy ..))⟩));exact⟨_,Qn _ ho (Obj.isFreed_of_fields (Qm hd _)),(Obj.cls_mapFields ..).trans hc,by rw[Qm hd];simp[rawInt]⟩
theorem Gm(hh:A.handled=none)(hit:Is s.heap it t (-1))(hQ:∀ h',Heap.ExtBut it s.heap h'->Q none { s with heap:=h' }):PH (model prog w) A (pyNext (.ref it)) Q E s:=by
 obtain⟨o,ho,hc,hd⟩:=id hit;unfold pyNext;refine On (wpAny_attempt (P7 (name:=QB "__next__") hit.ty slot_next (Qk slot_next hit.ty yZ ?_ (Ak _))));unfold Builtin.«reversed.__next__»;refine On (wpAny_of_eq (a:=(Value.ref it,[])) rfl ?_);try dsimp only
 refine On (Qh ho hd (x:=.ref t) rfl ?_);refine On (Qh ho hd (x:=rawInt (-1)) rfl ?_);try dsimp only[rawInt]
 rw[QI (by decide)];refine On (wpAny_rule ?_);refine On ?_;show PH _ _ (setField (.ref it) 1 (rawInt (-1)) >>= _) _ _ s;refine On (wpAny_setField ho hd (by simp) ?_);have ho':=Qn (h:=s.heap) (Obj.mapFields (·.setIfInBounds 1 (rawInt (-1)))) ho (Obj.isFreed_of_fields (Qm hd _));refine wpAny_setField ho' (Qm hd _) (by simp) ?_;refine On ?_;unfold Builtin.SmallTypes.stopIteration;refine On ?_;simp only[newExc,newTuple];refine On (P6 ?_ (by size_fits));refine On (m:=firstArgMember _ _) (wpAny_of_eq (a:=Value.none) (by first|rfl|(simp only[firstArgMember];rfl)) ?_);refine P6 ?_ (by size_fits);simp only[raiseNew];refine On (wpAny_handled ?_);first|rw[show A.in1.handled=none from hh]|rw[hh]
 refine On (PB (wpAny_throw ?_));refine On (wpAny_isInstance (T := "StopIteration") (b:=true) ⟨_,PF _ rfl,rfl⟩ isSubtype_stop ?_);refine PB (hQ _ fun b o hb e=>?_);refine Pw _ (Pw _ ?_);exact (Qy ..).extBut b o hb ((Qy ..).extBut b o hb e)
end
end RV
namespace L2
open PySem PySem.Spec PyProof.Rows
theorem Fc{P:PU}{w:P3}{K:PM}{tg:Expr}(n:Nat)(a it:Py):Turn P w K tg (⟨fun i H=>i<n/\∃ xs x,SqT K H a xs/\xs.length=n/\xs.reverse[i]? = some x,fun i H x H'=>H'=H/\∀ xs,SqT K H a xs->xs.reverse[i]? = some x,fun i H=>i=n⟩:It) [it] it (fun i h=>RV.Is h it a ((n:Int)-1-(i:Int))) where
 mem:=by simp
 obj:=fun i h st b hb=>by
  have e:b=it:=by simpa using hb
  subst e;obtain⟨o,e,c,d⟩:=st;exact⟨o,e,fun v z=>by rw[d] at z;cases z⟩
 keep:=fun i h h' st k=>by
  obtain⟨o,e,r⟩:=st;exact⟨o,k it (by simp) o e,r⟩
 item:=by
  intro X hP hw hK hc i pins s σ H E I hf st hg;subst hP hw hK;obtain⟨hlt,xs,x,hq,hn,hx⟩:=hg;obtain⟨its,rv,p,hz⟩:=I.tuple hq;have hlen:=rv.length;rw[bK (by lia)] at hx;obtain⟨u,hu,ru⟩:=rv.get hx;obtain⟨f0,f1,f2,f3,f4,f5⟩:=hf it (by simp);have e0:(n:Int)-1-(i:Int)=((xs.length-1-i:Nat):Int):=by lia
  have st':RV.Is s.heap it a ((xs.length-1-i:Nat):Int):=by rw[← e0];exact st
  have hn63:=vv;refine RV.EI (i:=xs.length-1-i) st' (show s.heap.IsTuple a its.toArray from p) (x:=u) (by simpa using hu) (by rw[am];lia) fun h' tk st2 sb=>?_;have I1:Inv X pins σ H { s with heap:=h',toks:=tk }:=I.turned (t':=tk) (fun b o hb e=>(sb.2 b hb).trans e) f0 f1 f3 f4 f5;obtain⟨o,e,c,d⟩:=id st2;refine⟨u,rfl,BN (s:={ s with heap:=h',toks:=tk }) e c d (by decide) ⟨x,H,I1,ru,⟨rfl,fun ys hy=>?_⟩,?_,fun b hb=>(hf b hb).1⟩⟩
  ·rw[I.tuple_inj hy hq,bK (by lia)];exact hx
  ·show RV.Is h' it a ((n:Int)-1-((i+1:Nat):Int));rw[show (n:Int)-1-((i+1:Nat):Int)=((xs.length-1-i:Nat):Int)-1 by lia];exact st2
 done:=by
  intro X hP hw hK hc i pins s σ H E I hf st hg;subst hP hw hK;have hg':i=n:=hg;subst hg';obtain⟨f0,f1,f2,f3,f4,f5⟩:=hf it (by simp);have st':RV.Is s.heap it a (-1):=by
   have e:(i:Int)-1-(i:Int) = -1:=by lia
   rw[← e];exact st
  exact RV.Gm (I.ok.hd hc) st' fun h' eb=>⟨rfl,I.turned (t':=s.toks) (fun b o hb e=>eb b o hb e) f0 f1 f3 f4 f5⟩
 self:=fun _ _ _ _ _ st h=>RV.zY st h
end L2
namespace Hv
open L2
def hv(F:Nat->Int)(t u:Int):Nat->Int
 | 0=>0
 | n+1=>(hv F t u n+F n*t^n)*u
theorem uz(h:Lt2 r u):∀ i,Lt2 (r*i+1) (u^i)
 | 0=>by rw[aT];unfold Lt2;exact aC (show (1:Int).natAbs<2^1 by decide) (bO (by decide) (by lia))
 | i+1=>by
  rw[aJ];exact ((uz h i).mul h).mono (by rw[bF];lia)
theorem pow_pos{u:Int}(h:0<u):∀ i:Nat,0<u^i
 | 0=>by rw[aT];decide
 | i+1=>by rw[aJ];exact ay (pow_pos h i) h
theorem JB(hF:∀ k,Lt2 n (F k))(ht:Lt2 r t)(hu:Lt2 r u):∀ i,Lt2 (n+(r+1)*i+1) (hv F t u i)
 | 0=>by unfold Lt2 hv;exact bg (by decide)
 | i+1=>by
  have ih:=JB hF ht hu i;have h2:Lt2 (n+(r+1)*i+1) (F i*t^i):=((hF i).mul (uz ht i)).mono (by rw[bh];lia);exact ((ih.add h2).mul hu).mono (by rw[bF];lia)
theorem vX(h:∀ j,j<n->F j=G j):hv F t u n=hv G t u n:=by
 induction n with
 | zero=>rfl
 | succ n ih=>rw[hv,hv,ih fun j hj=>h j (by lia),h n (by lia)]
theorem z7(h:∀ k,n<=k->F k=0):∀ j,hv F t u (n+j)=hv F t u n*u^j
 | 0=>by rw[gu,aT,bq]
 | j+1=>by rw[← eX,hv,z7 h j,h (n+j) (by lia),aN,cF,aJ,cb]
theorem AS(F G:Nat->Int)(t u:Int):∀ n,hv (fun k=>F k+G k) t u n=hv F t u n+hv G t u n
 | 0=>rfl
 | n+1=>by rw[hv,hv,hv,AS F G t u n];grind
theorem wM(F:Nat->Int)(c t u:Int):∀ n,hv (fun k=>F k*c) t u n=hv F t u n*c
 | 0=>by simp[hv]
 | n+1=>by rw[hv,hv,wM F c t u n];grind
theorem AR(h:∀ j,j<n->F j=0):hv F t u n=0:=by
 induction n with
 | zero=>rfl
 | succ n ih=>rw[hv,ih fun j hj=>h j (by lia),h n (by lia)];simp
theorem BL(g:Nat->Int)(c t u:Int)(i:Nat):∀ k,hv (fun m=>if i<=m then c*g (m-i) else 0) t u (i+k)=c*t^i*hv g t u k
 | 0=>by
  rw[gu,AR fun j hj=>QJ (by lia)];simp[hv]
 | k+1=>by
  rw[← eX,hv,BL g c t u i k,QI (by lia),show i+k-i=k by lia,hv,cT];grind
theorem Jy(f g:Nat->Int)(t u:Int)(hg:∀ k,m<=k->g k=0)(n:Nat):∀ i,i<=n->hv (fun k=>Cv.tm f g i k) t u (n+m)=hv f t u i*u^(n-i)*hv g t u m
 | 0,_=>by
  rw[AR (F:=fun k=>Cv.tm f g 0 k) fun j _=>rfl];simp[hv]
 | i+1,h=>by
  have ih:=Jy f g t u hg n i (by lia);have e:hv (fun k=>Cv.tm f g (i+1) k) t u (n+m)=hv (fun k=>Cv.tm f g i k+(if i<=k then f i*g (k-i) else 0)) t u (n+m):=vX fun j _=>rfl;rw[e,AS,ih];obtain⟨d,rfl⟩:∃ d,n=i+1+d:=⟨n-(i+1),by lia⟩;have e2:i+1+d+m=i+(m+(d+1)):=by lia
  rw[e2,BL,z7 hg (d+1),hv,show i+1+d-i=d+1 by lia,show i+1+d-(i+1)=d by lia,aJ];grind
theorem JC(hf:∀ k,n<=k->f k=0)(hg:∀ k,m<=k->g k=0):hv (Cv.cv f g) t u (n+m)=hv f t u n*hv g t u m:=by
 have e:=Jy f g t u hg n n (ak _);rw[cI,aT,bq] at e;rw[← e];exact vX fun j _=>(Cv.wo hf).symm
end Hv
namespace Pc
open L2 Cv Hv
theorem Fs(F:Nat->Int)(i:Nat):∀ n,sm F (i+n)=sm F i+sm (fun j=>F (i+j)) n
 | 0=>by simp[sm]
 | n+1=>by rw[← eX,sm,Fs F i n,sm];lia
theorem wF(F G:Nat->Int):∀ n,sm (fun j=>F j+G j) n=sm F n+sm G n
 | 0=>rfl
 | n+1=>by rw[sm,sm,sm,wF F G n];lia
theorem BU(f g h:Nat->Int)(k:Nat):cv (fun j=>f j+g j) h k=cv f h k+cv g h k:=by
 unfold cv;rw[← wF];exact uo fun j _=>by rw[fB]
theorem GU(f g h:Nat->Int)(k:Nat):cv h (fun j=>f j+g j) k=cv h f k+cv h g k:=by
 unfold cv;rw[← wF];exact uo fun j _=>by rw[Int.mul_add]
theorem GT(f g:Nat->Int)(c:Int)(k:Nat):cv f (fun j=>g j*c) k=cv f g k*c:=by
 unfold cv;rw[← vB];exact uo fun j _=>by grind
theorem BR(g h:Nat->Int)(c:Int)(i k:Nat):cv (fun m=>if i<=m then c*g (m-i) else 0) h k=if i<=k then c*cv g h (k-i) else 0:=by
 unfold cv;by_cases hk:i<=k
 ·rw[QI hk];obtain⟨d,rfl⟩:∃ d,k=i+d:=⟨k-i,by lia⟩;rw[show i+d+1=i+(d+1) by lia,Fs];have e1:sm (fun j=>(if i<=j then c*g (j-i) else 0)*h (i+d-j)) i=0:=by
   rw[vA (n:=0) (aE _) fun j _ hj=>by show (if i<=j then _ else 0)*_=0;rw[QJ (by lia),aN]];rfl
  rw[e1,cO,show i+d-i=d by lia,bB c,← vB];refine uo fun j _=>?_;show (if i<=i+j then c*g (i+j-i) else 0)*h (i+d-(i+j))=g j*h (d-j)*c;rw[QI (by lia),show i+j-i=j by lia,show i+d-(i+j)=d-j by lia];grind
 ·rw[QJ hk,vA (n:=0) (aE _) fun j _ hj=>by show (if i<=j then _ else 0)*_=0;rw[QJ (by lia),aN]];rfl
theorem JL(f g h:Nat->Int):∀(n k:Nat),cv (fun m=>tm f g n m) h k=tm f (fun m=>cv g h m) n k
 | 0,k=>by
  have:cv (fun m=>tm f g 0 m) h k=0:=yb fun j=>rfl;rw[this];rfl
 | n+1,k=>by
  rw[Ar,← JL f g h n k,← BR g h (f n) n k,← BU];rfl
theorem xu(hf:∀ k,n<=k->f k=0)(k:Nat):cv (fun m=>cv f g m) h k=cv f (fun m=>cv g h m) k:=by
 rw[← wo (g:=fun m=>cv g h m) hf,← JL f g h n k];exact uE (fun j=>(wo hf).symm) fun _=>rfl
def d0:Nat->Int:=fun k=>if k=0 then 1 else 0
theorem y6(f:Nat->Int)(k:Nat):cv d0 f k=f k:=by
 have:tm d0 f 1 k=cv d0 f k:=wo fun j hj=>by show (if j=0 then (1:Int) else 0)=0;rw[QJ (by lia)]
 rw[← this];show 0+(if 0<=k then d0 0*f (k-0) else 0)=f k;rw[QI (aE _),bP];show 0+1*f k=f k;lia
def cp(g:Nat->Int):Nat->(Nat->Int)
 | 0=>d0
 | n+1=>fun k=>cv (cp g n) g k
theorem xQ(hg:∀ k,m<=k->g k=0):∀(n k:Nat),n*m+1<=k->cp g n k=0
 | 0,k,h=>by show (if k=0 then (1:Int) else 0)=0;rw[QJ (by lia)]
 | n+1,k,h=>u5 (a:=n*m+1) (b:=m) (xQ hg n) hg (by rw[bh] at h;lia)
def pc(F g:Nat->Int)(U:Int):Nat->(Nat->Int)
 | 0=>fun _=>0
 | n+1=>fun k=>(pc F g U n k+F n*cp g n k)*U
theorem AB(hg:∀ k,m<=k->g k=0):∀(n k:Nat),n*m+1<=k->pc F g U n k=0
 | 0,_,_=>rfl
 | n+1,k,h=>by
  rw[bh] at h;show (pc F g U n k+F n*cp g n k)*U=0;rw[AB hg n k (by lia),xQ hg n k (by lia)];simp
theorem GE(hg:∀ k,m<=k->g k=0)(hi:i<L)(h:∀ j,pc F g U L j=U^i*pc F g U (L-i) j+U*cv (cp g (L-i)) M j)(M':Nat->Int)(hM:∀ j,M' j=cv M g j+(if j=0 then F (L-1-i)*U^i else 0)) :
  pc F g U L k=U^(i+1)*pc F g U (L-(i+1)) k+U*cv (cp g (L-(i+1))) M' k:=by
 obtain⟨d,rfl⟩:∃ d,L=i+1+d:=⟨L-(i+1),by lia⟩;rw[h k,show i+1+d-i=d+1 by lia,show i+1+d-(i+1)=d by lia,pc,aJ];have e1:cv (cp g (d+1)) M k=cv (cp g d) (fun m=>cv M g m) k:=by
  show cv (fun m=>cv (cp g d) g m) M k=_;rw[xu (n:=d*m+1) (xQ hg d)];exact uE (fun _=>rfl) fun j=>xt ..
 have e2:cv (cp g d) M' k=cv (cp g d) (fun m=>cv M g m) k+cp g d k*(F d*U^i):=by
  have:cv (cp g d) M' k=cv (cp g d) (fun j=>cv M g j+d0 j*(F d*U^i)) k:=uE (fun _=>rfl) fun j=>by
   rw[hM j,show i+1+d-1-i=d by lia];unfold d0;by_cases z:j=0
   ·rw[QI z,QI z,cB]
   ·rw[QJ z,QJ z,aN]
  rw[this,GU,GT,xt (cp g d) d0,y6]
 rw[e1,e2];show U^i*((pc F g U d k+F d*cp g d k)*U)+_=_;grind
theorem K5:hv d0 t u 1=u:=by
 show (0+d0 0*t^0)*u=u;rw[aT];show (0+1*1)*u=u;lia
theorem JD(hg:∀ k,m<=k->g k=0):∀ n,hv (cp g n) t u (n*m+1)=hv g t u m^n*u
 | 0=>by
  rw[hX,ia,aT,cB];exact K5
 | n+1=>by
  rw[show (n+1)*m+1=(n*m+1)+m by rw[bh];lia];show hv (cv (cp g n) g) t u _=_;rw[JC (xQ hg n) hg,JD hg n,aJ];grind
theorem JA(hg:∀ k,m<=k->g k=0):∀ n,hv (pc F g U n) t u (n*m+1)=u*hv F (hv g t u m) (U*u^m) n
 | 0=>by
  rw[AR (F:=pc F g U 0) fun j _=>rfl];simp[hv]
 | n+1=>by
  have e:(n+1)*m+1=(n*m+1)+m:=by rw[bh];lia
  have e1:hv (pc F g U (n+1)) t u ((n+1)*m+1)=(hv (pc F g U n) t u ((n+1)*m+1)+hv (cp g n) t u ((n+1)*m+1)*F n)*U:=by
   rw[← wM (cp g n) (F n),← AS,← wM];exact vX fun j _=>by show (pc F g U n j+F n*cp g n j)*U=_;rw[bB (F n)]
  rw[e1,e,z7 (AB hg n) m,z7 (xQ hg n) m,JA hg n,JD hg n,hv];grind
theorem yW(F:Nat->Int)(t u c:Int):∀ n,hv F (t*c) (u*c) n=hv F t u n*c^n
 | 0=>by simp[hv]
 | n+1=>by
  rw[hv,hv,yW F t u c n,iA,aJ];grind
structure Wq (P:List Int)(B t u a b:Int):Prop where
 pos:0<b
 is:a*(B*u^P.length)=hv (fn P) t u P.length*b
theorem Wq.at(h:Wq P B t u a b)(hN:P.length<=N):a*(B*u^N)=hv (fn P) t u N*b:=by
 obtain⟨j,rfl⟩:∃ j,N=P.length+j:=⟨N-P.length,by lia⟩;rw[z7 (fun k hk=>uk hk) j,cT];have:=h.is
 calc a*(B*(u^P.length*u^j))=(a*(B*u^P.length))*u^j:=by grind
  _=hv (fn P) t u P.length*b*u^j:=by rw[this]
  _=_:=by grind
theorem Wq.of_at{P:List Int}{B t u a b:Int}(hu:0<u)(hb:0<b){N:Nat}(hN:P.length<=N)(h:a*(B*u^N)=hv (fn P) t u N*b):Wq P B t u a b:=by
 refine⟨hb,?_⟩;obtain⟨j,rfl⟩:∃ j,N=P.length+j:=⟨N-P.length,by lia⟩;rw[z7 (fun k hk=>uk hk) j,cT] at h;have U:=pow_pos hu j;refine aK (show u^j≠0 by lia) ?_
 calc a*(B*u^P.length)*u^j=a*(B*(u^P.length*u^j)):=by grind
  _=hv (fn P) t u P.length*u^j*b:=h
  _=_:=by grind
theorem Wq.comp{P G R:List Int}{B U C t u a b x y:Int}(hB:0<B)(hU:0<U)(hu:0<u)(h1:Wq G U t u a b)(h2:Wq P B a b x y)(hR:∀ k,R.getD k 0*(B*U^P.length)=pc (fn P) (fn G) U P.length k*C)(hl:R.length<=P.length*G.length+1):Wq R C t u x y:=by
 refine Wq.of_at hu h2.pos hl ?_;have e0:hv (fn R) t u (P.length*G.length+1)*(B*U^P.length)=u*hv (fn P) (hv (fn G) t u G.length) (U*u^G.length) P.length*C:=by
  rw[← JA (fun k hk=>uk hk),← wM,← wM];exact vX fun j _=>hR j
 have e1:=h1.is;have e2:=h2.is;have e3:hv (fn P) (hv (fn G) t u G.length) (U*u^G.length) P.length*b^P.length=hv (fn P) a b P.length*(U*u^G.length)^P.length:=by
  rw[← yW,← yW,← e1,bB b]
 have e4:(U*u^G.length)^P.length*u=U^P.length*u^(P.length*G.length+1):=by
  rw[iA,← Int.pow_mul,aJ,bQ G.length];grind
 have b0:=pow_pos h1.pos P.length;have U0:=pow_pos hU P.length;generalize hv (fn R) t u (P.length*G.length+1)=r at *;generalize hv (fn P) (hv (fn G) t u G.length) (U*u^G.length) P.length=X2 at *;generalize hv (fn P) a b P.length=X1 at *;generalize (U*u^G.length)^P.length=W at *;generalize u^(P.length*G.length+1)=uN at *;generalize U^P.length=UL at *;generalize b^P.length=bL at *;have nz:B*UL*bL≠0:=ao (ay (ay hB U0) b0);refine aK nz ?_
 calc x*(C*uN)*(B*UL*bL)=(x*(B*bL))*C*(UL*uN):=by grind
  _=(X1*y)*C*(W*u):=by rw[e2,e4]
  _=(X1*W)*y*C*u:=by grind
  _=(X2*bL)*y*C*u:=by rw[e3]
  _=(u*X2*C)*(bL*y):=by grind
  _=(r*(B*UL))*(bL*y):=by rw[e0]
  _=r*y*(B*UL*bL):=by grind
theorem B3{F:Nat->Int}{t:Int}(ht:0<t):∀{n:Nat},(∀ k,k<n->(F k).natAbs<t.natAbs)->sm (fun k=>F k*t^k) n=0->∀ k,k<n->F k=0
 | 0,_,_,k,hk=>absurd hk (bZ _)
 | n+1,hF,h,k,hk=>by
  rw[wb,aT,bq] at h;have e:sm (fun j=>F (j+1)*t^(j+1)) n=sm (fun j=>F (j+1)*t^j) n*t:=by
   rw[← vB];exact uo fun j _=>by rw[aJ];grind
  rw[e] at h;have z:F 0=0:=by
   have d:t∣F 0:=⟨- sm (fun j=>F (j+1)*t^j) n,by grind⟩;have l:=hF 0 (by lia);exact Int.eq_zero_of_dvd_of_natAbs_lt_natAbs d l
  rw[z,cO] at h;have h':sm (fun j=>F (j+1)*t^j) n=0:=by
   rcases cr.mp h with q|q
   ·exact q
   ·lia
  cases k with
  | zero=>exact z
  | succ k=>exact B3 (F:=fun j=>F (j+1)) ht (fun j hj=>hF (j+1) (by lia)) h' k (by lia)
theorem Jz(F:Nat->Int)(t:Int):∀ n,hv F t 1 n=sm (fun k=>F k*t^k) n
 | 0=>rfl
 | n+1=>by rw[hv,Jz F t n,sm,bq]
theorem zq(f:Po.Fm R C)(f':Po.Fm S D)(h:∀ t:Int,0<t->∃ x y,Wq R C t 1 x y/\Wq S D t 1 x y):R=S/\C=D:=by
 refine Po.uniq f f' fun k=>?_;let N:=max R.length S.length
 let F:Nat->Int:=fun j=>fn R j*D-fn S j*C
 have bd:∃ t:Int,0<t/\∀ j,j<N->(F j).natAbs<t.natAbs:=by
  have:∀ n:Nat,∃ t:Int,0<t/\∀ j,j<n->(F j).natAbs<t.natAbs:=by
   intro n;induction n with
   | zero=>exact⟨1,by decide,fun j h=>absurd h (bZ _)⟩
   | succ n ih =>
    obtain⟨t,t0,ht⟩:=ih;refine⟨t+((F n).natAbs:Int)+1,by lia,fun j hj=>?_⟩;rcases cy (eQ hj) with e|e
    ·rw[e];lia
    ·have:=ht j e;lia
  exact this N
 obtain⟨t,t0,ht⟩:=bd;obtain⟨x,y,w1,w2⟩:=h t t0;have e1:=w1.at (N:=N) (by lia);have e2:=w2.at (N:=N) (by lia);rw[df,bq] at e1 e2;have z:sm (fun k=>F k*t^k) N=0:=by
  rw[← Jz];have:hv F t 1 N=hv (fn R) t 1 N*D+hv (fn S) t 1 N*(-C):=by
   rw[← wM,← wM,← AS];exact vX fun j _=>by show fn R j*D-fn S j*C=_;grind
  rw[this];have y0:=w1.pos;refine aK (show y≠0 by lia) ?_
  calc (hv (fn R) t 1 N*D+hv (fn S) t 1 N * -C)*y=(hv (fn R) t 1 N*y)*D-(hv (fn S) t 1 N*y)*C:=by grind
   _=(x*C)*D-(x*D)*C:=by rw[e1,e2]
   _=0*y:=by grind
 rcases ar k N with c|c
 ·have:=B3 t0 ht z k c;have q:fn R k*D-fn S k*C=0:=this;show fn R k*D=fn S k*C;lia
 ·show fn R k*D=fn S k*C;rw[uk (P:=R) (by lia),uk (P:=S) (by lia)];simp
theorem GW(hg:∀ k,l<=k->g k=0)(hs:∀ k,Lt2 m (g k)):∀ n,n*l<=400->∀ k,Lt2 ((m+9)*n+1) (cp g n k)
 | 0,_,k=>by
  show Lt2 _ (if k=0 then (1:Int) else 0);split
  ·unfold Lt2;exact aC (show (1:Int).natAbs<2^1 by decide) (bO (by decide) (by lia))
  ·exact bg (by decide)
 | n+1,h,k=>by
  rw[bh] at h;have ih:=GW hg hs n (by lia);rcases ar k 500 with c|c
  ·exact (Ef (b:=9) ih hs (by lia)).mono (by rw[bF];lia)
  ·rw[xQ hg (n+1) k (by rw[bh];lia)];exact bg (by decide)
theorem F6(hg:∀ k,l<=k->g k=0)(hF:∀ k,Lt2 n (F k))(hs:∀ k,Lt2 m (g k))(hU:Lt2 c U):∀ i,i*l<=400->∀ k,Lt2 (n+(m+c+10)*i+1) (pc F g U i k)
 | 0,_,k=>bg (by decide)
 | i+1,h,k=>by
  rw[bh] at h;have ih:=F6 hg hF hs hU i (by lia) k;have h2:Lt2 (n+(m+c+10)*i+1) (F i*cp g i k):=((hF i).mul (GW hg hs i (by lia) k)).mono (by
   have:(m+9)*i<=(m+c+10)*i:=bH _ (by lia);lia)
  exact ((ih.add h2).mul hU).mono (by rw[bF];lia)
def X:List Int:=[0,1]
theorem Oj(k:Nat):fn X k=if k=1 then 1 else 0:=by
 match k with
 | 0=>rfl
 | 1=>rfl
 | k+2 =>
  rw[uk (P:=X) (by show 2<=_;lia),QJ (by lia)]
theorem IZ:Po.Fm X 1:=⟨by decide,.inr (by decide),by decide⟩
theorem Op(f:Nat->Int)(k:Nat):cv f (fn X) k=if k=0 then 0 else f (k-1):=by
 rw[xt,← wo (n:=2) (fun j hj=>uk hj)];show 0+(if 0<=k then fn X 0*f (k-0) else 0)+(if 1<=k then fn X 1*f (k-1) else 0)=_;have e0:fn X 0=0:=rfl;have e1:fn X 1=1:=rfl;rw[e0,e1];by_cases z:k=0
 ·subst z;simp
 ·rw[QJ z,QI (show 1<=k by lia)];simp
theorem M8:∀(n k:Nat),cp (fn X) n k=if k=n then 1 else 0
 | 0,k=>rfl
 | n+1,k=>by
  show cv (cp (fn X) n) (fn X) k=_;rw[Op];by_cases z:k=0
  ·rw[QI z,QJ (by lia)]
  ·rw[QJ z,M8 n (k-1)];by_cases e:k=n+1
   ·rw[QI (by lia),QI e]
   ·rw[QJ (by lia),QJ e]
theorem MF(F:Nat->Int):∀(n k:Nat),pc F (fn X) 1 n k=if k<n then F k else 0
 | 0,k=>rfl
 | n+1,k=>by
  show (pc F (fn X) 1 n k+F n*cp (fn X) n k)*1=_;rw[MF F n k,M8,bq];by_cases e:k=n
  ·subst e;rw[QJ (by lia),QI rfl,QI (by lia)];lia
  ·rw[QJ e,bD,cF];by_cases c:k<n
   ·rw[QI c,QI (by lia)]
   ·rw[QJ c,QJ (by lia)]
def Of(P:List Int)(B:Int)(G:List Int)(U:Int)(R:List Int)(C:Int):Prop:=Po.Fm R C/\∀ k,R.getD k 0*(B*U^P.length)=pc (fn P) (fn G) U P.length k*C
theorem Of.uniq{P G R S:List Int}{B U C D:Int}(hB:0<B)(hU:0<U)(h:Of P B G U R C)(h':Of P B G U S D):R=S/\C=D:=by
 have:B*U^P.length≠0:=ao (ay hB (pow_pos hU _));exact Po.same h.1 h'.1 this this h.2 h'.2 fun k=>rfl
theorem Of.len{P G R:List Int}{B U C:Int}(hB:0<B)(hU:0<U)(h:Of P B G U R C):R.length<=P.length*G.length+1:=by
 rcases h.1.last with e|e
 ·subst e;exact aE _
 ·rcases ar (P.length*G.length+1) R.length with c|c
  ·refine absurd ?_ e;have e3:=h.2 (R.length-1);rw[AB (m:=G.length) (fun k hk=>uk hk) _ _ (by lia),aN] at e3;rcases cr.mp e3 with q|q
   ·exact q
   ·have:=ay hB (pow_pos hU P.length);lia
  ·exact c
theorem Of.right(f:Po.Fm P B)(h:Of P B X 1 R C):R=P/\C=B:=by
 refine Po.uniq h.1 f fun k=>?_;have e:=h.2 k;rw[df,bq,MF] at e;rw[e];by_cases c:k<P.length
 ·rw[QI c];rfl
 ·rw[QJ c];have:P.getD k 0=0:=uk (P:=P) (by lia);rw[this]
def It(P:List Int)(B:Int):Nat->List Int->Int->Prop
 | 0,R,C=>R=X/\C=1
 | k+1,R,C=>∃ R' C',It P B k R' C'/\Of P B R' C' R C
theorem It.fm:∀{k:Nat} {R:List Int} {C:Int},It P B k R C->Po.Fm R C
 | 0,R,C,h=>by obtain⟨rfl,rfl⟩:=h;exact IZ
 | k+1,R,C,h=>by obtain⟨_,_,_,h⟩:=h;exact h.1
theorem It.uniq(hB:0<B):∀{k:Nat} {R R':List Int} {C C':Int},It P B k R C->It P B k R' C'->R=R'/\C=C'
 | 0,_,_,_,_,h,h'=>by obtain⟨rfl,rfl⟩:=h;obtain⟨rfl,rfl⟩:=h';exact⟨rfl,rfl⟩
 | k+1,_,_,_,_,h,h'=>by
  obtain⟨S,D,h1,h2⟩:=h;obtain⟨S',D',h1',h2'⟩:=h';obtain⟨rfl,rfl⟩:=It.uniq hB h1 h1';exact h2.uniq hB h1.fm.pos h2'
structure Pz (n b:Nat)(P:List Int)(B:Int):Prop where
 fm:Po.Fm P B
 tops:∀ k,Lt2 n (P.getD k 0)
 bot:Lt2 b B
theorem Pz.mono(h:Pz n b P B)(l:n<=n')(l':b<=b'):Pz n' b' P B:=⟨h.fm,fun k=>(h.tops k).mono l,h.bot.mono l'⟩
theorem Pz.of{n b:Nat}{f:Nat->Int}{B c:Int}(F:Po.Fm P B)(hc:0<c)(h:∀ k,P.getD k 0*c=f k*B)(h1:∀ k,Lt2 n (f k))(h2:Lt2 b c):Pz n b P B :=
 ⟨F,fun k=>(h1 k).le ((Po.size F hc h).2 k),h2.le (Po.size F hc h).1⟩
theorem Of.size{P G R:List Int}{B U C:Int}{n b m c:Nat}(h:Of P B G U R C)(z1:Pz n b P B)(z2:Pz m c G U)(hl:P.length*G.length<=400):Pz (n+(m+c+10)*P.length+1) (b+(c*P.length+1)) R C:=by
 have Y:=ay z1.fm.pos (pow_pos z2.fm.pos P.length);exact Pz.of h.1 Y h.2 (fun k=>F6 (fun k hk=>uk hk) (fun k=>z1.tops k) (fun k=>z2.tops k) z2.bot P.length hl k) (z1.bot.mul (uz z2.bot P.length))
theorem AX(hg:∀ k,m<=k->g k=0):∀(n k:Nat),n*(m-1)+1<=k->cp g n k=0
 | 0,k,h=>by show (if k=0 then (1:Int) else 0)=0;rw[QJ (by lia)]
 | n+1,k,h=>u5 (a:=n*(m-1)+1) (b:=m) (AX hg n) hg (by rw[bh] at h;lia)
theorem yh(hg:∀ k,m<=k->g k=0):∀(n k:Nat),(n-1)*(m-1)+1<=k->pc F g U n k=0
 | 0,_,_=>rfl
 | n+1,k,h=>by
  rw[bJ] at h;have:(n-1)*(m-1)<=n*(m-1):=bH _ (by lia);show (pc F g U n k+F n*cp g n k)*U=0;rw[yh hg n k (by lia),AX hg n k (by lia)];simp
theorem Of.deg{P G R:List Int}{B U C:Int}(hB:0<B)(hU:0<U)(h:Of P B G U R C):R.length<=(P.length-1)*(G.length-1)+1:=by
 rcases h.1.last with e|e
 ·subst e;exact aE _
 ·rcases ar ((P.length-1)*(G.length-1)+1) R.length with c|c
  ·refine absurd ?_ e;have e3:=h.2 (R.length-1);rw[yh (m:=G.length) (fun k hk=>uk hk) _ _ (by lia),aN] at e3;rcases cr.mp e3 with q|q
   ·exact q
   ·have:=ay hB (pow_pos hU P.length);lia
  ·exact c
theorem uU{R:List Int}{C c:Int}{f:Nat->Int}{N:Nat}(F:Po.Fm R C)(hc:0<c)(h:∀ k,R.getD k 0*c=f k*C)(hf:∀ k,N<=k->f k=0):R.length<=N:=by
 rcases F.last with e|e
 ·subst e;exact aE _
 ·rcases ar N R.length with z|z
  ·refine absurd ?_ e;have e3:=h (R.length-1);rw[hf _ (by lia),aN] at e3;rcases cr.mp e3 with q|q
   ·exact q
   ·lia
  ·exact z
theorem E4:Pz 1 1 X 1:=⟨IZ,fun k=>by
 show Lt2 1 (fn X k);rw[Oj];split <;> (unfold Lt2;decide),by unfold Lt2;decide⟩
end Pc
namespace L2
instance decLt2 (n:Nat)(i:Int):Decidable (Lt2 n i):=inferInstanceAs (Decidable (i.natAbs<2^n))
end L2
namespace Pc
open L2 Cv Hv
theorem Oq(g:Nat->Int)(k:Nat):cp g 1 k=g k:=y6 g k
theorem Ph(F g:Nat->Int)(U:Int)(k:Nat):pc F g U 2 k=(F 0*d0 k*U+F 1*g k)*U:=by
 show ((0+F 0*d0 k)*U+F 1*cp g 1 k)*U=_;rw[Oq,cO]
theorem Of.two(h2:P.length=2)(hU:0<U)(h:Of P B G U S D)(k:Nat):S.getD k 0*(B*U)=(P.getD 0 0*d0 k*U+P.getD 1 0*G.getD k 0)*D:=by
 have q:=h.2 k;rw[h2,Ph] at q;have q':S.getD k 0*(B*U^2)=(P.getD 0 0*d0 k*U+P.getD 1 0*G.getD k 0)*U*D:=q;refine aK (show U≠0 by lia) ?_;rw[show (U:Int)^2=U*U by rw[aJ,aJ,aT,cB]] at q';grind
def St(ta ba tb bb:Int)(P:List Int)(B:Int):Prop:=Po.Fm P B/\∀ k,P.getD k 0*(ba*bb)=[tb*ba,ta*bb].getD k 0*B
theorem wU(x y:Int)(k:Nat):[x,y].getD (k+2) 0=0:=by simp
theorem J5{R T:List Int}(c0:0<C)(hR:∀ j,R.getD j 0*(B*W)=M j*U*C)(hT:T.getD k 0*(C*U)=cv (fn R) (fn G) k*tb):T.getD k 0*(B*(W*U))=cv M (fn G) k*U*tb:=by
 have e1:cv (fn R) (fn G) k*(B*W)=cv M (fn G) k*(U*C):=by
  rw[← v3,← v3];exact uE (fun j=>by show R.getD j 0*(B*W)=_;rw[hR j];grind) fun _=>rfl
 refine aK (show C≠0 by lia) ?_;generalize cv (fn R) (fn G) k=X at *;generalize cv M (fn G) k=Y at *;generalize T.getD k 0=Tk at *
 calc Tk*(B*(W*U))*C=(Tk*(C*U))*(B*W):=by grind
  _=(X*tb)*(B*W):=by rw[hT]
  _=(X*(B*W))*tb:=by grind
  _=(Y*(U*C))*tb:=by rw[e1]
  _=_:=by grind
theorem J4{S T E:Int}(t0:0<tb)(e0:0<e)(hT:T*(B*(W*U))=q*U*tb)(hE:E*B=x*e)(hS:S*(tb*e)=(T*e+E*tb)*sb):S*(B*(W*U))=(q+x*W)*U*sb:=by
 refine aK (show tb*e≠0 from ao (ay t0 e0)) ?_
 calc S*(B*(W*U))*(tb*e)=(S*(tb*e))*(B*(W*U)):=by grind
  _=((T*e+E*tb)*sb)*(B*(W*U)):=by rw[hS]
  _=((T*(B*(W*U)))*e+(E*B)*(W*U)*tb)*sb:=by grind
  _=((q*U*tb)*e+(x*e)*(W*U)*tb)*sb:=by rw[hT,hE]
  _=_:=by grind
end Pc
namespace Qp
open L2 Cv Hv Pc
theorem uh{b:Int}(h:0<b):(b:Rat)≠0:=fun z=>by
 have:=cL.mp z;lia
theorem uO{b:Int}(h:b≠0):(b:Rat)≠0:=fun z=>h (cL.mp z)
theorem ve{b:Rat}(h:b≠0):∀ n:Nat,b^n≠0
 | 0=>by rw[bN];decide
 | n+1=>fun z=>by
  rw[bc] at z;rcases cq.mp z with w|w
  ·exact ve h n w
  ·exact h w
theorem xk(a:Rat)(h:b≠0):∀ n:Nat,(a / b)^n*b^n=a^n
 | 0=>by rw[bN,bN,bN];grind
 | n+1=>by
  have ih:=xk a h n;rw[bc,bc,bc,← ih];grind
theorem uD{a b c d:Int}(hb:b≠0)(hd:d≠0):((a:Rat) / (b:Rat)=(c:Rat) / (d:Rat))↔a*d=c*b:=by
 have h1:=uO hb;have h2:=uO hd;constructor
 ·intro h;have:(a:Rat)*(d:Rat)=(c:Rat)*(b:Rat):=by grind
  rw[← az,← az] at this;exact dX.mp this
 ·intro h;have:(a:Rat)*(d:Rat)=(c:Rat)*(b:Rat):=by rw[← az,← az,h]
  grind
theorem u6(x:Rat):∃ t u:Int,0<u/\x=(t:Rat) / (u:Rat):=by
 refine⟨x.num,(x.den:Int),?_,?_⟩
 ·have:=fZ x.den_nz;lia
 ·have:=fY x;rw[gg] at this;exact this.symm
def ei(F:Nat->Int)(x:Rat):Nat->Rat
 | 0=>0
 | n+1=>ei F x n+(F n:Rat)*x^n
theorem Ad(h:∀ k,n<=k->F k=0):∀ j,ei F x (n+j)=ei F x n
 | 0=>rfl
 | j+1=>by
  rw[← eX,ei,Ad h j,h (n+j) (by lia)];grind
theorem AV{a b:Int}{x:Rat}(h:∀ k,F k*a=G k*b):∀ n,ei F x n*(a:Rat)=ei G x n*(b:Rat)
 | 0=>by rw[ei,ei];grind
 | n+1=>by
  have ih:=AV (x:=x) h n;have e:(F n:Rat)*(a:Rat)=(G n:Rat)*(b:Rat):=by rw[← az,← az,h n]
  rw[ei,ei];grind
theorem CQ(F G:Nat->Int)(x:Rat):∀ n,ei (fun k=>F k+G k) x n=ei F x n+ei G x n
 | 0=>by rw[ei,ei,ei];grind
 | n+1=>by
  rw[ei,ei,ei,CQ F G x n,dY];grind
theorem v0(F:Nat->Int)(c:Int)(x:Rat):∀ n,ei (fun k=>F k*c) x n=ei F x n*(c:Rat)
 | 0=>by rw[ei,ei];grind
 | n+1=>by
  rw[ei,ei,v0 F c x n,az];grind
theorem z8(F:Nat->Int)(t:Int)(hu:0<u):∀ n,((hv F t u n:Int):Rat)=(u:Rat)^n*ei F ((t:Rat) / (u:Rat)) n
 | 0=>by rw[hv,ei];grind
 | n+1=>by
  have hn:=uh hu;have ih:=z8 F t hu n;have p:=xk (t:Rat) hn n;rw[hv,ei,az,dY,az,cH,ih,bc,← p];grind
def E(P:List Int)(B:Int)(x:Rat):Rat:=ei (fn P) x P.length / (B:Rat)
theorem zu(h:P.length<=N):E P B x=ei (fn P) x N / (B:Rat):=by
 obtain⟨j,rfl⟩:∃ j,N=P.length+j:=⟨N-P.length,by lia⟩;rw[Ad (fun k hk=>uk hk) j];rfl
theorem wq{P:List Int}{B t u a b:Int}(hB:0<B)(hu:0<u)(hb:0<b):Wq P B t u a b↔E P B ((t:Rat) / (u:Rat))=(a:Rat) / (b:Rat):=by
 have nB:=uh hB;have nu:=uh hu;have nb:=uh hb;have nU:=ve nu P.length;have key:=z8 (fn P) t hu P.length;constructor
 ·intro h;have e:=congrArg (fun z:Int=>(z:Rat)) h.is;simp only[az,cH] at e;rw[key] at e;unfold E;generalize (u:Rat)^P.length=U at *;generalize ei (fn P) ((t:Rat) / (u:Rat)) P.length=X at *;have:(a:Rat)*(B:Rat)=X*(b:Rat):=by
   have:((a:Rat)*(B:Rat)-X*(b:Rat))*U=0:=by grind
   rcases cq.mp this with w|w
   ·grind
   ·exact absurd w nU
  grind
 ·intro h;refine⟨hb,?_⟩;unfold E at h;have:((a*(B*u^P.length):Int):Rat)=((hv (fn P) t u P.length*b:Int):Rat):=by
   simp only[az,cH];rw[key];generalize (u:Rat)^P.length=U at *;generalize ei (fn P) ((t:Rat) / (u:Rat)) P.length=X at *;have:X*(b:Rat)=(a:Rat)*(B:Rat):=by grind
   grind
  exact dX.mp this
theorem wn(hB:0<B)(hU:0<U)(h:Of P B G U R C)(x:Rat):E R C x=E P B (E G U x):=by
 obtain⟨t,u,hu,rfl⟩:=u6 x;obtain⟨a,b,hb,e1⟩:=u6 (E G U ((t:Rat) / (u:Rat)));obtain⟨c,d,hd,e2⟩:=u6 (E P B ((a:Rat) / (b:Rat)));rw[e1,e2];exact (wq h.1.pos hu hd).mp (Wq.comp hB hU hu ((wq hU hu hb).mpr e1) ((wq hB hb hd).mpr e2) h.2 (h.len hB hU))
theorem uQ(f:Po.Fm R C)(f':Po.Fm S D)(h:∀ x,E R C x=E S D x):R=S/\C=D:=by
 refine zq f f' fun t ht=>?_;obtain⟨a,b,hb,e⟩:=u6 (E R C ((t:Rat) / ((1:Int):Rat)));exact⟨a,b,(wq f.pos (by decide) hb).mpr e,(wq f'.pos (by decide) hb).mpr ((h _).symm.trans e)⟩
theorem xU{C c:Int}{f:Nat->Int}{x:Rat}{N:Nat}(hC:0<C)(hc:c≠0)(h:∀ k,R.getD k 0*c=f k*C)(hN:R.length<=N):E R C x=ei f x N / (c:Rat):=by
 rw[zu hN];have e:=AV (F:=fn R) (G:=f) (x:=x) h N;have n1:=uh hC;have n2:=uO hc;grind
theorem B6{B1 B2 C:Int}(h1:0<B1)(h2:0<B2)(hC:0<C)(h:∀ k,R.getD k 0*(B1*B2)=(P1.getD k 0*B2+P2.getD k 0*B1)*C)(x:Rat):E R C x=E P1 B1 x+E P2 B2 x:=by
 have l1:P1.length<=P1.length+P2.length+R.length:=by lia
 have l2:P2.length<=P1.length+P2.length+R.length:=by lia
 have l3:R.length<=P1.length+P2.length+R.length:=by lia
 rw[xU hC (ao (ay h1 h2)) h l3,zu l1,zu l2,CQ,v0,v0,az];have n1:=uh h1;have n2:=uh h2;show (ei (fn P1) x _*_+ei (fn P2) x _*_) / _=_;generalize ei (fn P1) x (P1.length+P2.length+R.length)=X;generalize ei (fn P2) x (P1.length+P2.length+R.length)=Y;grind
theorem JJ{f g:Nat->Int}{n m:Nat}(hf:∀ k,n<=k->f k=0)(hg:∀ k,m<=k->g k=0)(x:Rat):ei (cv f g) x (n+m)=ei f x n*ei g x m:=by
 obtain⟨t,u,hu,rfl⟩:=u6 x;have e:=congrArg (fun z:Int=>(z:Rat)) (JC (t:=t) (u:=u) hf hg);simp only[az] at e;rw[z8 _ _ hu,z8 _ _ hu,z8 _ _ hu] at e;have n1:=ve (uh hu) n;have n2:=ve (uh hu) m;have e3:(u:Rat)^(n+m)=(u:Rat)^n*(u:Rat)^m:=by grind
 rw[e3] at e;generalize (u:Rat)^n=a at *;generalize (u:Rat)^m=b at *;generalize ei (cv f g) ((t:Rat) / (u:Rat)) (n+m)=X at *;generalize ei f ((t:Rat) / (u:Rat)) n=Y at *;generalize ei g ((t:Rat) / (u:Rat)) m=Z at *;have:(X-Y*Z)*(a*b)=0:=by grind
 rcases cq.mp this with w|w
 ·grind
 ·rcases cq.mp w with v|v
  ·exact absurd v n1
  ·exact absurd v n2
theorem yr{B1 B2 C:Int}(h1:0<B1)(h2:0<B2)(f:Po.Fm R C)(h:∀ k,R.getD k 0*(B1*B2)=cv (fn P1) (fn P2) k*C)(x:Rat):E R C x=E P1 B1 x*E P2 B2 x:=by
 have hC:=f.pos;have p12:=ay h1 h2;have l:R.length<=P1.length+P2.length:=uU f p12 h fun k hk=>u5 (a:=P1.length) (b:=P2.length) (fun j h=>uk h) (fun j h=>uk h) (by lia);rw[xU hC (ao p12) h l,JJ (fun k h=>uk h) (fun k h=>uk h),az];have n1:=uh h1;have n2:=uh h2;unfold E;grind
theorem Oo(F:Nat->Int)(x:Rat):ei F x 1=(F 0:Rat):=by
 show 0+(F 0:Rat)*x^0=_;rw[bN];grind
theorem OR(F:Nat->Int)(x:Rat):ei F x 2=(F 0:Rat)+(F 1:Rat)*x:=by
 show ei F x 1+(F 1:Rat)*x^1=_;rw[Oo,Rat.pow_one]
theorem Al(l:P.length<=2)(x:Rat):E P B x=((P.getD 0 0:Int):Rat) / (B:Rat)+((P.getD 1 0:Int):Rat) / (B:Rat)*x:=by
 rw[zu l,OR];show (((P.getD 0 0:Int):Rat)+((P.getD 1 0:Int):Rat)*x) / _=_;grind
theorem yt{C c b:Int}(f:Po.Fm R C)(hb:0<b)(h:∀ k,R.getD k 0*b=[c].getD k 0*C)(x:Rat):E R C x=(c:Rat) / (b:Rat):=by
 have l:R.length<=1:=uU f hb h fun k hk=>by
  obtain⟨j,rfl⟩:∃ j,k=j+1:=⟨k-1,by lia⟩;simp
 rw[xU f.pos (ao hb) h l,Oo];rfl
theorem OF{P:List Int}(h:St ta ba tb bb P B)(h1:0<ba)(h2:0<bb)(x:Rat):E P B x=(ta:Rat) / (ba:Rat)*x+(tb:Rat) / (bb:Rat):=by
 have p:=ay h1 h2;have l:P.length<=2:=uU h.1 p h.2 fun k hk=>by
  obtain⟨j,rfl⟩:∃ j,k=j+2:=⟨k-2,by lia⟩;exact wU _ _ _
 rw[xU h.1.pos (ao p) h.2 l,OR];show (((tb*ba:Int):Rat)+((ta*bb:Int):Rat)*x) / ((ba*bb:Int):Rat)=_;rw[az,az,az];have n1:=uh h1;have n2:=uh h2;grind
theorem Hw(x:Rat):E X 1 x=x:=by
 rw[Al (by decide)];show ((0:Int):Rat) / ((1:Int):Rat)+((1:Int):Rat) / ((1:Int):Rat)*x=x;grind
def q(P:List Int)(B:Int)(k:Nat):Rat:=((P.getD k 0:Int):Rat) / (B:Rat)
theorem Mz{R S:List Int}{C D:Int}(f:Po.Fm R C)(f':Po.Fm S D)(h:∀ k,q R C k=q S D k):R=S/\C=D :=
 Po.uniq f f' fun k=>(uD (ao f.pos) (ao f'.pos)).mp (h k)
theorem Av{R:List Int}{C c:Int}{f:Nat->Int}(hC:0<C)(hc:c≠0)(h:∀ k,R.getD k 0*c=f k*C)(k:Nat):q R C k=((f k:Int):Rat) / (c:Rat):=(uD (ao hC) hc).mpr (h k)
theorem uK(h:P.length<=k):q P B k=0:=by
 unfold q;rw[ae,bC h];show ((0:Int):Rat) / _=0;grind
theorem uS(f:Po.Fm P B)(h:P≠[]):q P B (P.length-1)≠0:=by
 rcases f.last with e|e
 ·exact absurd e h
 ·unfold q;have n1:=uO e;have n2:=uh f.pos;intro z;generalize ((P.getD (P.length-1) 0:Int):Rat)=a at *;grind
theorem JN(hg:∀ k,2<=k->g k=0):∀ n,cp g n n=g 1^n/\cp g (n+1) n=(n+1:Int)*g 1^n*g 0/\∀ k,n<k->cp g n k=0
 | 0=>by
  refine⟨by rw[aT];rfl,?_,fun k hk=>by show (if k=0 then (1:Int) else 0)=0;rw[QJ (by lia)]⟩;rw[Oq];simp
 | n+1=>by
  obtain⟨h1,h2,h3⟩:=JN hg n;have hz:∀(f:Nat->Int) (k:Nat),cv f g (k+1)=f (k+1)*g 0+f k*g 1:=fun f k=>by
   rw[xt];have:tm g f 2 (k+1)=cv g f (k+1):=wo hg;rw[← this];show (0+(if 0<=k+1 then g 0*f (k+1-0) else 0))+(if 1<=k+1 then g 1*f (k+1-1) else 0)=_;rw[QI (by lia),QI (by lia),bP,bJ];grind
  have a1:cp g (n+1) (n+1)=g 1^(n+1):=by
   show cv (cp g n) g (n+1)=_;rw[hz,h3 (n+1) (by lia),h1,aJ];grind
  refine⟨a1,?_,fun k hk=>?_⟩
  ·show cv (cp g (n+1)) g (n+1)=_;rw[hz,a1,h2,aJ];push_cast;grind
  ·obtain⟨j,rfl⟩:∃ j,k=j+1:=⟨k-1,by lia⟩;show cv (cp g n) g (j+1)=0;rw[hz,h3 (j+1) (by lia),h3 j (by lia)];simp
theorem Jn(hg:∀ k,2<=k->g k=0)(n:Nat):pc F g U (n+1) n=F n*g 1^n*U/\(∀ k,n<k->pc F g U (n+1) k=0):=by
 have z:∀ n k,n<=k->pc F g U n k=0:=fun n k hk=>by
  cases n with
  | zero=>rfl
  | succ n=>exact yh (m:=2) hg (n+1) k (by lia)
 refine⟨?_,fun k hk=>z _ _ hk⟩;show (pc F g U n n+F n*cp g n n)*U=_;rw[z n n (ak _),(JN hg n).1];grind
theorem Gh(f:Po.Fm P B)(fG:Po.Fm G U)(lG:G.length=2)(hP:P≠[])(g1:G.getD 1 0≠0)(h:Of P B G U R C) :
  R.length=P.length/\q R C (P.length-1)=q P B (P.length-1)*q G U 1^(P.length-1):=by
 have hB:=f.pos;have hU:=fG.pos;have hC:=h.1.pos;have hg:∀ k,2<=k->fn G k=0:=fun k hk=>uk (by omega);obtain⟨n,hn⟩:∃ n,P.length=n+1:=⟨P.length-1,by cases P;exact absurd rfl hP;simp⟩;have hW:=ay hB (pow_pos hU (n+1));have h2:=h.2;rw[hn] at h2;have e:=Av hC (ao hW) h2 n;rw[(Jn hg n).1,az,az,az,cH,cH] at e;have nB:=uh hB;have nU:=uh hU;have nUn:=ve nU n;have e2:q R C n=q P B n*q G U 1^n:=by
  rw[e];show ((P.getD n 0:Int):Rat)*((G.getD 1 0:Int):Rat)^n*(U:Rat) / ((B:Rat)*(U:Rat)^(n+1))=((P.getD n 0:Int):Rat) / (B:Rat)*(((G.getD 1 0:Int):Rat) / (U:Rat))^n;have p:=xk ((G.getD 1 0:Int):Rat) nU n;rw[← p,bc];generalize (((G.getD 1 0:Int):Rat) / (U:Rat))^n=Z;generalize (U:Rat)^n=W at *;grind
 have l1:R.length<=n+1:=uU h.1 hW h2 fun k hk=>(Jn hg n).2 k (by omega);rw[hn,bJ];refine⟨?_,e2⟩;rcases ar R.length (n+1) with z|z
 ·have z1:=uK (B:=C) (show R.length<=n by omega);rw[z1] at e2;have z2:=uS f hP;rw[hn,bJ] at z2;have z3:q G U 1≠0:=by
   unfold q;have n1:=uO g1;generalize ((G.getD 1 0:Int):Rat)=a at *;intro z;grind
  have z4:=ve z3 n;rcases cq.mp e2.symm with w|w
  ·exact absurd w z2
  ·exact absurd w z4
 ·omega
end Qp
namespace L2
open PySem Qp
variable{K:Frag}{H H':Hp}{v:V}{r:Rat}{n b n' b':Nat}
theorem Fq.ne{p:Py}{t u:Int}(hu:0<u)(e:r=(t:Rat) / (u:Rat)):r≠0↔t≠0:=by
 have n1:=uh hu;subst e;constructor
 ·intro h z;subst z;refine h ?_;have:((0:Int):Rat)=0:=rfl;rw[this];grind
 ·intro h z;have h':=uO h;generalize (t:Rat)=a at *;grind
end L2
namespace Qp
open L2 Cv Hv Pc
theorem uV:E P B 0=q P B 0:=by
 unfold E q;have:∀ n,0<n->ei (fn P) 0 n=((P.getD 0 0:Int):Rat):=by
  intro n hn;induction n with
  | zero=>lia
  | succ n ih =>
   rw[ei];cases n with
   | zero =>
    rw[ei,bN];show 0+((P.getD 0 0:Int):Rat)*1=_;grind
   | succ n =>
    rw[ih (by lia),bc];grind
 cases hP:P.length with
 | zero =>
  have:P=[]:=cX.mp hP;subst this;show 0 / _=((0:Int):Rat) / _;rfl
 | succ n=>rw[this (n+1) (by lia)]
theorem Mx(h1:0<B1)(h2:0<B2)(hC:0<C)(h:∀ k,R.getD k 0*(B1*B2)=(P1.getD k 0*B2+P2.getD k 0*B1)*C)(k:Nat):q R C k=q P1 B1 k+q P2 B2 k:=by
 have e:=Av (f:=fun k=>P1.getD k 0*B2+P2.getD k 0*B1) hC (ao (ay h1 h2)) h k;rw[e];have n1:=uh h1;have n2:=uh h2;unfold q;simp only[az,dY];grind
end Qp
namespace L2
open PySem PySem.Spec PyProof.Rows
section
variable{X:Cx}{e:Expr}{te:TE}{lo hi:Option Expr}{se:Expr}{tl th ts:TO}{pos p2:Pos}
def Nl(X:Cx)(r:V->Option Int->Option Int->Option Int->Hp->VK->Prop):Prop :=
 ∀(pins:List (Addr×Obj)) (s:Shared) (σ:St) (H:Hp) (x:V) (v vl vu vs:Value) (lo hi st:Option Int) (sl:Addr) (Q:VK),Inv X pins σ H s->RelV x v->s.heap.IsSliceOf sl vl vu vs->IsPart vl lo->IsPart vu hi->IsPart vs st->r x lo hi st H Q ->
  ∃ T id,typeLookup (.type T) "__getitem__" = pure (some (.builtin id))/\s.TypeIs v T/\wpAny (model X.prog X.w) X.A (getItem v (.ref sl)) (EP X pins σ Q) X.xe s
def NK(r:V->Option Int->Option Int->Option Int->Hp->VK->Prop)(te:TE)(tl th ts:TO):TE:=fun σ H Q=>te σ H fun x H1=>tl σ H1 fun l H2=>th σ H2 fun u H3=>ts σ H3 fun k H4=>r x l u k H4 Q
theorem ED(hr:Nl X r)(he:PE X e te)(hl:PO X lo tl)(hu:PO X hi th)(hs:PO X (some se) ts):PE X (.Subscript e (.Slice lo hi (some se) p2) pos) (NK r te tl th ts):=by
 intro pins s σ H Q I h;refine Subscript_ (uA (he pins s σ H _ I h) fun v s1 ⟨x,H1,I1,r1,q1⟩=>?_);refine wpAny_Slice (uA (hl pins s1 σ H1 _ I1 q1) fun vl s2 ⟨l,H2,I2,pl,q2⟩=>uA (hu pins s2 σ H2 _ I2 q2) fun vu s3 ⟨u,H3,I3,pu,q3⟩=>uA (hs pins s3 σ H3 _ I3 q3) fun vs s4 ⟨k,H4,I4,pk,q4⟩=>?_);have I5:Inv X pins σ H4 { s4 with heap:=s4.heap.push { cls:=.type "slice",data:=.fields #[vl,vu,vs] } }:=I4.kept (t':=s4.toks) fun b ob q=>Pw _ q;obtain⟨T,id,hT,ht,hg⟩:=hr pins { s4 with heap:=s4.heap.push { cls:=.type "slice",data:=.fields #[vl,vu,vs] } } σ H4 x v vl vu vs l u k s4.heap.objs.size Q I5 r1 (Heap.IsSliceOf.new ..) pl pu pk q4;show PH (model X.prog X.w) X.A (subscriptTail e (.Slice lo hi (some se) p2) v (.ref s4.heap.objs.size)) (EP X pins σ Q) X.xe { s4 with heap:=s4.heap.push { cls:=.type "slice",data:=.fields #[vl,vu,vs] } };exact tail_any (ops:=[v,.ref s4.heap.objs.size]) ht hT hg (by with_unfolding_all rfl)
theorem N2(K:PM)(hK:X.K=K:=by rfl):Nl X (fun x lo hi st H Q=>lo=none/\hi=none/\st=some (-1)/\∃ a xs,x = .ref a/\SqL K H a xs/\∀ p,H p=none->Q (.ref p) (uH H p (.lst xs.reverse))):=by
 subst hK;intro pins s σ H x v vl vu vs lo hi st sl Q I rx hs pl pu pk h;obtain⟨rfl,rfl,rfl,a,xs,rfl,hx,q⟩:=h;cases rx;obtain⟨its,r,ht,hz⟩:=I.list hx;have hlen:=r.length;refine⟨"list",_,slot_list_getitem.lookup,ht.isList.typeIs,?_⟩;refine wpAny_getItem_list_slice ht.isList hs pl pu pk (by decide) ?_ (by rw[am] <;> lia);rw[PySem.W.krv_pick];refine⟨.ref s.heap.objs.size,_,I.laid (t':=s.toks) (o:=.lst xs.reverse) (fun b ob q=>Pw _ q) (ak _) ?_,rfl,q _ (I.hok.fresh (ak _))⟩;exact⟨by rw[bA];exact hz,its.reverse,0,r.reverse,PF _ rfl⟩
end
def Nn(K:Frag)(H:Hp)(v:V)(P:List Int)(B:Int):Prop:=∃ a t,v = .ref a/\SqT K H a [.ref t,.int B]/\SqT K H t (P.map V.int)
theorem Pol.k{K:PM}{H:Hp}{v:V}{P:List Int}{B:Int}(h:Pol H v P B):Nn K H v P B:=by
 obtain⟨a,t,e,h1,h2⟩:=h;exact⟨a,t,e,SqT.of h1,SqT.of h2⟩
instance coePolK {K:Frag}{H:Hp}{v:V}{P:List Int}{B:Int}:Coe (Pol H v P B) (Nn K H v P B):=⟨Pol.k⟩
theorem Iq:OA X "int.bit_length" (fun x vs H Q=>∃ i,x = .int i/\vs=[]/\Q (.int ((Qg i:Nat):Int)) H):=by
 intro pins s σ H x vs v us Q I rx rv h;obtain⟨i,rfl,rfl,q⟩:=h;obtain⟨t,rfl⟩:=rx;have hus:=rv.zero;subst hus;exact call_int_bit_length ⟨.int _,H,I.tok _,⟨_,rfl⟩,q⟩
end L2
namespace Rt
structure Is (n:Int)(k:Nat)(r:Int):Prop where
 pos:0<=r
 le:r^k<=n
 most:∀ s:Int,0<=s->s^k<=n->s<=r
theorem Is.uniq(h:Is n k r)(h':Is n k r'):r=r':=by
 have h1:=h.most r' h'.pos h'.le;have h2:=h'.most r h.pos h.le;lia
theorem xI{t:Int}(h:0<=t):∀ k:Nat,0<=t^k
 | 0=>by rw[aT];decide
 | k+1=>by rw[aJ];exact dN (xI h k) h
theorem pow_pos{t:Int}(h:0<t):∀ k:Nat,0<t^k
 | 0=>by rw[aT];decide
 | k+1=>by rw[aJ];exact ay (pow_pos h k) h
theorem xj{s t:Int}(h0:0<=s)(h:s<=t):∀ k:Nat,s^k<=t^k
 | 0=>by rw[aT,aT];exact dH _
 | k+1=>by
  rw[aJ,aJ];exact Int.mul_le_mul (xj h0 h k) h h0 (xI (by lia) k)
theorem uz{s t:Int}(h0:0<=s)(h:s<t){k:Nat}(hk:1<=k):s^k<t^k:=by
 obtain⟨j,rfl⟩:∃ j,k=j+1:=⟨k-1,by lia⟩;rw[aJ,aJ];have h1:=xj h0 (by lia:s<=t) j;have h2:=pow_pos (by lia:0<t) j;have h3:=xI h0 j
 calc s^j*s<=t^j*s:=gF h1 h0
  _<t^j*t:=Int.mul_lt_mul_of_pos_left h h2
theorem Is.of{n r:Int}{k:Nat}(hk:1<=k)(h0:0<=r)(h1:r^k<=n)(h2:n<(r+1)^k):Is n k r:=by
 refine⟨h0,h1,fun s hs h=>?_⟩;rcases gv r s with c|c
 ·have:=xj (by lia:0<=r+1) (by lia:r+1<=s) k;lia
 ·exact c
theorem Ni{s t:Int}(hs:0<=s)(ht:0<=t):∀ k:Nat,((k:Int)+1)*s*t^k<=(k:Int)*t^(k+1)+s^(k+1)
 | 0=>by simp[aJ]
 | k+1=>by
  have ih:=Ni hs ht k;have h2:0<=t^k*((t-s)*(t-s)):=dN (xI ht k) (by
   rcases Int.le_total t s with c|c
   ·exact Int.mul_nonneg_of_nonpos_of_nonpos (by lia) (by lia)
   ·exact dN (by lia) (by lia))
  have h3:0<=((k:Int)+1)*(t^k*((t-s)*(t-s))):=dN (by lia) h2;have h4:=Int.mul_le_mul_of_nonneg_left ih hs;rw[aJ t (k+1),aJ s (k+1)];rw[aJ t k] at *;generalize t^k=T at *;generalize s^(k+1)=S at *;push_cast;grind
theorem KU{n t s:Int}{k:Nat}(hk:1<=k)(ht:0<t)(hs:0<=s)(h:s^k<=n):s<=(((k:Int)-1)*t+n / t^(k-1)) / (k:Int):=by
 obtain⟨j,rfl⟩:∃ j,k=j+1:=⟨k-1,by lia⟩;rw[bJ];have T:=pow_pos ht j;refine (dO (by lia)).mpr ?_;have a:=Ni hs (by lia:0<=t) j;have:(((j+1:Nat):Int)*s-(j:Int)*t)<=n / t^j:=by
  refine (dO T).mpr ?_;rw[aJ t j] at a;generalize t^j=U at *;push_cast;grind
 have e:((j+1:Nat):Int)=(j:Int)+1:=by lia
 rw[e] at this ⊢;have e2:(j:Int)+1-1=(j:Int):=by lia
 rw[e2];have e3:s*((j:Int)+1)=((j:Int)+1)*s:=bB _ _;lia
theorem stop{n t:Int}{k:Nat}(hk:1<=k)(ht:0<t)(hu:∀ s:Int,0<=s->s^k<=n->s<=t)(h:t<=(((k:Int)-1)*t+n / t^(k-1)) / (k:Int)):Is n k t:=by
 obtain⟨j,rfl⟩:∃ j,k=j+1:=⟨k-1,by lia⟩;rw[bJ] at h;have T:=pow_pos ht j;refine⟨by lia,?_,hu⟩;have h1:=(dO (by lia)).mp h;have e:((j+1:Nat):Int)=(j:Int)+1:=by lia
 rw[e] at h1;have e2:(j:Int)+1-1=(j:Int):=by lia
 rw[e2] at h1;have e3:t*((j:Int)+1)=(j:Int)*t+t:=by grind
 have h2:t<=n / t^j:=by lia
 have h3:=(dO T).mp h2;rw[aJ,bB];exact h3
end Rt
namespace Rt
open L2
def RtV(t b:Int)(k:Nat)(fs:List (Int×Int)):Prop:=∃ o u:Int,Is ((t.natAbs:Nat):Int) k o/\Is b k u /\
 fs=if (t<0/\k%2=0)\/o^k≠((t.natAbs:Nat):Int)\/u^k≠b then [] else if t<0 then [(-o,u)] else if k%2=0/\0<o then [(-o,u),(o,u)] else [(o,u)]
theorem RtV.len(h:RtV t b k fs):fs.length<=2:=by
 obtain⟨o,u,h1,h2,rfl⟩:=h;split
 ·simp
 ·split
  ·simp
  ·split <;> simp
theorem yj(o:Int):∀ k:Nat,(-o)^k=if k%2=0 then o^k else -(o^k)
 | 0=>by simp
 | k+1=>by
  rw[aJ,aJ,yj o k];by_cases c:k%2=0
  ·rw[QI c,QJ (by lia)];grind
  ·rw[QJ c,QI (by lia)];grind
theorem RtV.root(h:RtV t b k fs):∀ f∈fs,f.1^k=t/\f.2^k=b/\f.1.natAbs^k=t.natAbs:=by
 obtain⟨o,u,h1,h2,rfl⟩:=h;intro f hf;split at hf
 ·exact absurd hf bf
 ·rename_i c;have c1:¬ (t<0/\k%2=0):=fun z=>c (.inl z);have c2:o^k=((t.natAbs:Nat):Int):=Decidable.byContradiction fun z=>c (.inr (.inl z));have c3:u^k=b:=Decidable.byContradiction fun z=>c (.inr (.inr z));have o0:=h1.pos;have oN:o.natAbs^k=t.natAbs:=by
   have e:((o.natAbs^k:Nat):Int)=((t.natAbs:Nat):Int):=by
    rw[cR,← c2];congr 1;lia
   exact Int.ofNat_inj.mp e
  split at hf
  ·rename_i d;rw[aq.mp hf];refine⟨?_,c3,by rw[dj];exact oN⟩;show (-o)^k=t;rw[yj,QJ (fun z=>c1 ⟨d,z⟩),c2];lia
  ·rename_i d;split at hf
   ·rename_i e;rcases av.mp hf with rfl|hf
    ·refine⟨?_,c3,by rw[dj];exact oN⟩;show (-o)^k=t;rw[yj,QI e.1,c2];lia
    ·rw[aq.mp hf];exact⟨by show o^k=t;rw[c2];lia,c3,oN⟩
   ·rw[aq.mp hf];exact⟨by show o^k=t;rw[c2];lia,c3,oN⟩
theorem Is.zero{k:Nat}(hk:1<=k):Is 0 k 0:=by
 refine⟨dH _,?_,fun s hs h=>?_⟩
 ·obtain⟨j,rfl⟩:∃ j,k=j+1:=⟨k-1,by lia⟩;rw[aJ,bD];exact dH _
 ·rcases gv 0 s with c|c
  ·have:=pow_pos c k;lia
  ·exact c
theorem Is.one{k:Nat}(hk:1<=k):Is 1 k 1:=by
 refine Is.of hk (by decide) (by rw[df];exact dH _) ?_;have:=uz (s:=1) (t:=2) (by decide) (by decide) hk;rw[df] at this;exact this
theorem start{n:Int}{k b:Nat}(hk:1<=k)(hn:n.natAbs<2^b){s:Int}(hs:0<=s)(h:s^k<=n):s<=1*2^(b / k+1):=by
 rw[cB];rcases gv ((2:Int)^(b / k+1)) s with c|c
 ·have h1:=xj (xI (by decide:(0:Int)<=2) (b / k+1)) (Int.le_of_lt c) k;rw[← Int.pow_mul] at h1;have h2:b<=(b / k+1)*k:=by
   have:=Nat.div_add_mod b k;have m:=Nat.mod_lt b (by lia:0<k);rw[gI,eK,bQ (b / k)];lia
  have h3:(2:Nat)^b<=2^((b / k+1)*k):=bO (by decide) h2;have h4:(2:Int)^((b / k+1)*k)=((2^((b / k+1)*k):Nat):Int):=by rw[cR];rfl
  lia
 ·exact c
end Rt
namespace Rt
theorem ex{k:Nat}(hk:1<=k):∀ m:Nat,∃ r:Int,0<=r/\r^k<=(m:Int)/\(m:Int)<(r+1)^k
 | 0=>⟨0,dH _,(Is.zero hk).le,by rw[cO,df];decide⟩
 | m+1=>by
  obtain⟨r,h0,h1,h2⟩:=ex hk m;by_cases c:(r+1)^k<=((m+1:Nat):Int)
  ·refine⟨r+1,by lia,c,?_⟩;have:=uz (by lia:0<=r+1) (by lia:r+1<r+1+1) hk;lia
  ·exact⟨r,h0,by lia,by lia⟩
theorem has(hk:1<=k)(hn:0<=n):∃ r,Is n k r:=by
 obtain⟨m,rfl⟩:=dI hn;obtain⟨r,h0,h1,h2⟩:=ex hk m;exact⟨r,Is.of hk h0 h1 h2⟩
theorem Is.self{n r:Int}{k:Nat}(hk:1<=k)(hn:0<=n)(h:Is n k r):r<=n:=by
 rcases gv r 1 with c|c
 ·have:=h.pos;lia
 ·have h1:=h.le;obtain⟨j,rfl⟩:∃ j,k=j+1:=⟨k-1,by lia⟩;rw[aJ] at h1;have:=pow_pos (by lia:0<r) j;have h2:=gF (show (1:Int)<=r^j by lia) (show 0<=r by lia);lia
end Rt
namespace Ca
open Cv
theorem wF(F G:Nat->Int)(n:Nat):sm (fun j=>F j+G j) n=sm F n+sm G n:=by
 induction n with
 | zero=>rfl
 | succ n ih=>rw[sm,sm,sm,ih];lia
theorem J8(h:∀ j,j<n->d∣F j):d∣sm F n:=by
 induction n with
 | zero=>exact iq d
 | succ n ih=>exact fv (ih fun j hj=>h j (by lia)) (h n (by lia))
theorem BS(h:∀ j,j<=k->f j=f' j)(h':∀ j,j<=k->g j=g' j):cv f g k=cv f' g' k :=
 uo fun j hj=>by rw[h j (by lia),h' (k-j) (by lia)]
theorem Eg(f f' g:Nat->Int)(k:Nat):cv (fun j=>f j+f' j) g k=cv f g k+cv f' g k:=by
 unfold cv;rw[← wF];exact uo fun j _=>fB ..
theorem GS(f g:Nat->Int)(c:Int)(k:Nat):cv (fun j=>c*f j) g k=c*cv f g k:=by
 rw[bB,← v3];exact uE (fun j=>bB _ _) fun _=>rfl
theorem BT(f g:Nat->Int)(k:Nat):cv f g (k+1)=f 0*g (k+1)+cv (fun j=>f (j+1)) g k:=by
 unfold cv;rw[wb];congr 1;exact uo fun j _=>by rw[show k+1-(j+1)=k-j by lia]
theorem C1(f g:Nat->Int):cv f g 0=f 0*g 0:=by simp[cv,sm]
theorem xu(f g h:Nat->Int)(k:Nat):cv (cv f g) h k=cv f (cv g h) k:=by
 induction k generalizing f g h with
 | zero=>rw[C1,C1,C1,C1,cb]
 | succ k ih =>
  rw[BT (cv f g) h,BT f (cv g h),C1];have e:cv (fun j=>cv f g (j+1)) h k=cv (fun j=>f 0*g (j+1)+cv (fun j=>f (j+1)) g j) h k:=uE (fun j=>BT f g j) fun _=>rfl;rw[e,Eg,GS,ih,BT g h];grind
theorem CZ(f g:Nat->Int)(k:Nat):cv f g (k+1)=f 0*g (k+1)+sm (fun j=>f (j+1)*g (k-j)) k+f (k+1)*g 0:=by
 rw[BT];unfold cv;rw[sm,cI];exact (Int.add_assoc ..).symm
def pw(g:Nat->Int):Nat->Nat->Int
 | 0=>fun j=>if j=0 then 1 else 0
 | m+1=>cv (pw g m) g
theorem FQ(h:g 0=1):∀ m,pw g m 0=1
 | 0=>rfl
 | m+1=>by show cv _ _ 0=1;rw[C1,FQ h m,h];rfl
theorem Ck(h:g 0=1)(hg:∀ i,k∣g (i+1)):∀ m i,(k*k∣pw g m (i+1)-m*g (i+1))/\k∣pw g m (i+1)
 | 0,i=>⟨by simp[pw],by simp[pw]⟩
 | m+1,i=>by
  obtain⟨a,b⟩:=Ck h hg m i;have e:pw g (m+1) (i+1)=cv (pw g m) g (i+1):=rfl;rw[CZ,FQ h,h] at e;have d:k*k∣sm (fun j=>pw g m (j+1)*g (i-j)) i:=J8 fun j hj=>by
   rw[show i-j=(i-j-1)+1 by lia];exact gM (Ck h hg m j).2 (hg _)
  have q:k*k∣pw g (m+1) (i+1)-(m+1:Nat)*g (i+1):=by
   rw[show pw g (m+1) (i+1)-((m+1:Nat):Int)*g (i+1)=sm (fun j=>pw g m (j+1)*g (i-j)) i+(pw g m (i+1)-m*g (i+1)) by rw[e];grind];exact fv d a
  refine⟨q,?_⟩;have q2:k∣pw g (m+1) (i+1)-(m+1:Nat)*g (i+1):=eY (dP k k) q;have q3:k∣((m+1:Nat):Int)*g (i+1):=g9 (hg i);have:=fv q2 q3;rwa [iK] at this
theorem Cj(h:g 0=1)(hh:∀ i,i<=s->g' i=g i):∀ m,(∀ i,i<=s->pw g' m i=pw g m i)/\pw g' m (s+1)=pw g m (s+1)+m*(g' (s+1)-g (s+1))
 | 0=>⟨fun _ _=>rfl,by simp[pw]⟩
 | m+1=>by
  obtain⟨a,b⟩:=Cj h hh m;have h':g' 0=1:=by rw[hh 0 (aE _),h]
  refine⟨fun i hi=>BS (fun j hj=>a j (by lia)) fun j hj=>hh j (by lia),?_⟩;show cv (pw g' m) g' (s+1)=cv (pw g m) g (s+1)+_;rw[CZ,CZ,FQ h',FQ h,h,h',b];have:sm (fun j=>pw g' m (j+1)*g' (s-j)) s=sm (fun j=>pw g m (j+1)*g (s-j)) s:=uo fun j hj=>by rw[a (j+1) (by lia),hh (s-j) (by lia)]
  rw[this];grind
theorem root{a:Nat->Int}{k:Nat}(hk:0<k)(h0:a 0=1)(ha:∀ i,(k*k:Int)∣a (i+1)):∀ s:Nat,∃ g:Nat->Int,g 0=1/\(∀ i,(k:Int)∣g (i+1))/\∀ j,j<=s->pw g k j=a j
 | 0=>⟨fun i=>if i=0 then 1 else 0,rfl,fun i=>by simp,fun j hj=>by
   rw[show j=0 by lia,h0];exact FQ (by rfl) k⟩
 | s+1=>by
  obtain⟨g,g0,gd,ge⟩:=root hk h0 ha s;have m1:=(Ck g0 gd k s).1;have m2:(k*k:Int)∣pw g k (s+1):=by
   have:(k*k:Int)∣k*g (s+1):=gM (gw _) (gd s);have:=fv m1 this;rwa [iK] at this
  obtain⟨t,ht⟩:=Int.dvd_sub (ha s) m2;have hh:∀ i,i<=s->(if i=s+1 then g i+k*t else g i)=g i:=fun i hi=>QJ (by lia);have P:=Cj (g':=fun i=>if i=s+1 then g i+k*t else g i) g0 hh k;refine⟨fun i=>if i=s+1 then g i+k*t else g i,?_,fun i=>?_,fun j hj=>?_⟩
  ·exact (hh 0 (aE _)).trans g0
  ·show (k:Int)∣if i+1=s+1 then _ else _;split
   ·exact fv (gd i) (dP _ _)
   ·exact gd i
  ·rcases ar s j with c|c
   ·rw[show j=s+1 by lia,P.2];simp only[if_true];grind
   ·rw[P.1 j c,ge j c]
def th(f:Nat->Int):Nat->Int:=fun j=>j*f j
theorem LZ(f g:Nat->Int)(k:Nat):th (cv f g) k=cv (th f) g k+cv f (th g) k:=by
 unfold th cv;rw[← wF,bB,← vB];refine uo fun j hj=>?_;have:((k-j:Nat):Int)=k-j:=by lia
 show f j*g (k-j)*k=j*f j*g (k-j)+f j*(((k-j:Nat):Int)*g (k-j));rw[this];grind
theorem Jb(g:Nat->Int):∀ m j,cv (th (pw g m)) g j=m*cv (pw g m) (th g) j
 | 0,j=>by
  rw[Int.natCast_zero,aN];refine yb fun i=>?_;show (i:Int)*(if i=0 then 1 else 0)=0;split
  ·rw[‹i=0›];rfl
  ·exact bD _
 | m+1,j=>by
  have e:cv (th (pw g (m+1))) g j=cv (fun i=>cv (th (pw g m)) g i+cv (pw g m) (th g) i) g j:=uE (fun i=>LZ _ _ i) fun _=>rfl;have e1:cv (cv (th (pw g m)) g) g j=cv (fun i=>m*cv (pw g m) (th g) i) g j:=uE (fun i=>Jb g m i) fun _=>rfl;have e2:cv (cv (pw g m) (th g)) g j=cv (pw g (m+1)) (th g) j:=by
   rw[xu];show _=cv (cv (pw g m) g) (th g) j;rw[xu];exact uE (fun _=>rfl) fun i=>xt _ _ i
  rw[e,Eg];have e3:cv (fun i=>cv (th (pw g m)) g i) g j=m*cv (pw g (m+1)) (th g) j:=by
   refine Eq.trans (show _=cv (cv (th (pw g m)) g) g j from rfl) ?_;rw[e1,GS,← e2]
  have e4:cv (fun i=>cv (pw g m) (th g) i) g j=cv (pw g (m+1)) (th g) j:=e2;rw[e3,e4];grind
theorem step{a g:Nat->Int}{k s j:Nat}(g0:g 0=1)(h0:a 0=1)(h:∀ j,j<=s->pw g k j=a j)(hj:j<=s) :
  sm (fun i=>(((i+1:Nat):Int)*(k+1)-j*k)*a (i+1)*g (j-(i+1))) j=j*k*g j:=by
 have e:=Jb g k j;have e1:cv (th (pw g k)) g j=cv (th a) g j:=BS (fun i hi=>by unfold th;rw[h i (by lia)]) fun _ _=>rfl;have e2:cv (pw g k) (th g) j=cv a (th g) j:=BS (fun i hi=>h i (by lia)) fun _ _=>rfl;rw[e1,e2] at e;unfold cv at e;rw[wb,wb] at e;have z:th a 0=0:=by simp[th]
 have z2:th g (j-0)=j*g j:=rfl;rw[z,z2,h0,aN,cO,cB,Int.mul_add] at e;have q:sm (fun i=>(((i+1:Nat):Int)*(k+1)-j*k)*a (i+1)*g (j-(i+1))) j=sm (fun i=>th a (i+1)*g (j-(i+1))+a (i+1)*th g (j-(i+1))*(-k)) j:=uo fun i hi=>by
  unfold th;have:((j-(i+1):Nat):Int)=j-(i+1:Nat):=by lia
  rw[this];grind
 rw[q,wF,vB (fun i=>a (i+1)*th g (j-(i+1)))];grind
end Ca
namespace Ca
open Cv L2
theorem HI{a g:Nat->Int}{k s A:Nat}(hk:0<k)(k7:k<=100)(s7:s<=100)(g0:g 0=1)(ha:∀ i,Lt2 A (a i))
  (h:∀ j,j<=s->sm (fun i=>(((i+1:Nat):Int)*(k+1)-j*k)*a (i+1)*g (j-(i+1))) j=j*k*g j):∀ j,j<=s->Lt2 ((A+22)*j+1) (g j):=by
 intro j;induction j using Nat.strongRecOn with
 | ind j ih =>
  intro hj;rcases dF j with e|e
  ·subst e;rw[g0];exact Lt2.mono (n:=1) (by unfold Lt2;decide) (by lia)
  ·have e1:=h j hj;have m1:(A+22)*j=(A+22)*(j-1)+(A+22):=by
    rw[show j=(j-1)+1 by lia,bF];rfl
   have hF:∀ i,i<j->Lt2 (15+A+((A+22)*(j-1)+1)) ((((i+1:Nat):Int)*(k+1)-j*k)*a (i+1)*g (j-(i+1))):=fun i hi=>by
    have c1:(i+1)*(k+1)<=100*101:=bI (by lia) (by lia);have c2:j*k<=100*100:=bI (by lia) (by lia);have l1:Lt2 15 (((i+1:Nat):Int)*(k+1)-j*k):=by
     have c1':(((i+1:Nat):Int)*(k+1))=(((i+1)*(k+1):Nat):Int):=by push_cast;rfl
     have c2':((j:Int)*k)=((j*k:Nat):Int):=by push_cast;rfl
     rw[c1',c2'];unfold Lt2;lia
    have l3:=(ih (j-(i+1)) (by lia) (by lia)).mono (m:=(A+22)*(j-1)+1) (Nat.succ_le_succ (ai _ (by lia)));exact (l1.mul (ha _)).mul l3
   have b:=Fp (b:=7) (i:=j) (by lia) hF;rw[e1] at b;have p:(g j).natAbs<=((j:Int)*k*g j).natAbs:=by
    rw[aR];refine aQ _ ?_;have:0<j*k:=gH e hk;have q:((j:Int)*k)=((j*k:Nat):Int):=by push_cast;rfl
    rw[q];lia
   unfold Lt2;rw[show (A+22)*j+1=7+(15+A+((A+22)*(j-1)+1)) by lia,eJ];refine cw (aD p b) ?_;exact d9 (show j<2^7 by lia) (bg (by decide))
theorem J3(ns:List Int):ns.sum=sm (fun i=>ns.getD i 0) ns.length:=by
 induction ns with
 | nil=>rfl
 | cons n ns ih =>
  rw[List.sum_cons,bo,wb,ih];rfl
theorem JF{P:Nat->Int}{n k:Nat}{c l:Int}(hl:P n=l)(h0:l≠0)(hc:c=((l.natAbs:Nat):Int)*k*k) :
  ∀ j,j<=n->l*(P (n-j)*c^j).fdiv l=P (n-j)*c^j/\(j=0->(P (n-j)*c^j).fdiv l=1)/\(0<j->(k*k:Int)∣(P (n-j)*c^j).fdiv l):=by
 intro j hj;cases j with
 | zero =>
  rw[bP,hl,aT,bq];have:l.fdiv l=1:=by
   have:=dZ 1 h0;rwa [cB] at this
  rw[this];exact⟨bq _,fun _=>rfl,fun h=>absurd h (ca _)⟩
 | succ j =>
  obtain⟨z,hz⟩:∃ z:Int,((l.natAbs:Nat):Int)=z*l/\True:=by
   rcases Int.natAbs_eq l with e|e
   ·exact⟨1,by lia,trivial⟩
   ·exact⟨-1,by lia,trivial⟩
  have e:P (n-(j+1))*c^(j+1)=(P (n-(j+1))*z*c^j*(k*k))*l:=by
   rw[aJ];have:c=z*l*k*k:=by rw[hc,hz.1]
   calc P (n-(j+1))*(c^j*c)=P (n-(j+1))*c^j*c:=by grind
    _=P (n-(j+1))*c^j*(z*l*k*k):=congrArg _ this
    _=_:=by grind
  rw[e,dZ _ h0];exact⟨bB _ _,fun h=>absurd h (by lia),fun _=>Int.dvd_mul_left _ _⟩
def Cand(P:Nat->Int)(k s:Nat)(R:Nat->Int)(C:Int):Prop :=
 ∃(c:Int) (g:Nat->Int),0<c/\g 0=1/\(∀ j,j<s->P (k*s-j)*c^j=P (k*s)*pw g k j)/\(∀ i,i<s->R (s-i)*c^i=g i*C)/\R 0=0
theorem Mh{c C:Int}{R g:Nat->Int}{s:Nat}(hc:0<c)(h:∀ m,m<s->R (m+1)*c^(s-1)=g (s-(m+1))*c^m*C):∀ i,i<s->R (s-i)*c^i=g i*C:=by
 intro i hi;have e:=h (s-i-1) (by lia);rw[show s-i-1+1=s-i by lia,show s-(s-i)=i by lia,show s-1=(s-i-1)+i by lia,cT] at e;have p:c^(s-i-1)≠0:=cN (by lia);refine aK p ?_;grind
end Ca
namespace L2
open PySem
section
variable{X:Cx}
theorem xH:∀(ns:List Int) (n:Nat),n<=ns.length->preSum (fun i=>ns.getD i 0) n=(ns.take n).sum
 | ns,0,_=>by simp[preSum]
 | ns,n+1,h=>by
  have e:ns.take (n+1)=ns.take n++[ns.getD n 0]:=by
   rw[List.take_succ,ae,au (by lia)];rfl
  rw[e,List.sum_append,← xH ns n (by lia)];simp[preSum]
theorem NZ(K:PM)(hc:X.calm=true:=by rfl)(hK:X.K=K:=by rfl):CallR X (.builtin "sum") (fun xs H Q=>∃ p,∃ ns:List Int,xs=[.ref p]/\SqL K H p (ns.map V.int)/\Q (.int ns.sum) H):=by
 subst hK;intro pins s σ H xs us Q I rv h;obtain⟨p,ns,rfl,hp,q⟩:=h;obtain⟨u,rfl,ru⟩:=rv.one;cases ru;obtain⟨its,rv',pl,_⟩:=I.list hp;obtain⟨ys,e1,e2⟩:=wa rv';subst e1;have hl:s.heap.IsList p (intItems ys.toArray):=by
  have:intItems ys.toArray=(ys.map (fun p=>Value.int p.1 p.2)).toArray:=by simp[intItems]
  rw[this];exact pl.isList
 refine sum_intListG (I.ok.hd hc) hl fun h' tk t' hk=>?_;refine⟨.int _,H,I.kept (t':=tk) hk,⟨t',rfl⟩,?_⟩;have:preSum (numAt ys.toArray) ys.toArray.size=ns.sum:=by
  have e:numAt ys.toArray=fun i=>ns.getD i 0:=by
   funext i;rw[numAt_eq,← e2]
  have l:ys.toArray.size=ns.length:=by rw[← e2];simp
  rw[e,l,xH ns _ (ak _),b9]
 rw[this];exact q
end
end L2
namespace L2
open PySem PySem.Spec PyProof.Rows
theorem Eo{P:PU}{w:P3}{K:PM}{tg:Expr}(n:Nat)(a it:Py):Turn P w K tg (⟨fun i H=>i<n/\∃ xs x,SqL K H a xs/\xs.length=n/\xs.reverse[i]? = some x,fun i H x H'=>H'=H/\∀ xs,SqL K H a xs->xs.reverse[i]? = some x,fun i H=>i=n⟩:It) [it] it (fun i h=>h.IsRevIter it a ((n:Int)-1-(i:Int))) where
 mem:=by simp
 obj:=fun i h st b hb=>by
  have e:b=it:=by simpa using hb
  subst e;obtain⟨o,e,c,d⟩:=st;exact⟨o,e,fun v z=>by rw[d] at z;cases z⟩
 keep:=fun i h h' st k=>by
  obtain⟨o,e,r⟩:=st;exact⟨o,k it (by simp) o e,r⟩
 item:=by
  intro X hP hw hK hc i pins s σ H E I hf st hg;subst hP hw hK;obtain⟨hlt,xs,x,hq,hn,hx⟩:=hg;obtain⟨its,rv,p,hz⟩:=I.list hq;have hlen:=rv.length;rw[bK (by lia)] at hx;obtain⟨u,hu,ru⟩:=rv.get hx;obtain⟨f0,f1,f2,f3,f4,f5⟩:=hf it (by simp);have e0:(n:Int)-1-(i:Int)=((xs.length-1-i:Nat):Int):=by lia
  have st':s.heap.IsRevIter it a ((xs.length-1-i:Nat):Int):=by rw[← e0];exact st
  refine wpAny_pyNext_rev_item (i:=xs.length-1-i) st' p.isList (x:=u) (by simpa using hu) fun h' st2 sb=>?_;have I1:Inv X pins σ H { s with heap:=h' }:=I.turned (t':=s.toks) (fun b o hb e=>(sb.2 b hb).trans e) f0 f1 f3 f4 f5;obtain⟨o,e,c,d⟩:=id st2;refine⟨u,rfl,BN (s:={ s with heap:=h' }) e c d (by decide) ⟨x,H,I1,ru,⟨rfl,fun ys hy=>?_⟩,?_,fun b hb=>(hf b hb).1⟩⟩
  ·rw[I.list_inj hy hq,bK (by lia)];exact hx
  ·show h'.IsRevIter it a ((n:Int)-1-((i+1:Nat):Int));rw[show (n:Int)-1-((i+1:Nat):Int)=((xs.length-1-i:Nat):Int)-1 by lia];exact st2
 done:=by
  intro X hP hw hK hc i pins s σ H E I hf st hg;subst hP hw hK;have hg':i=n:=hg;subst hg';obtain⟨f0,f1,f2,f3,f4,f5⟩:=hf it (by simp);have st':s.heap.IsRevIter it a (-1):=by
   have e:(i:Int)-1-(i:Int) = -1:=by lia
   rw[← e];exact st
  exact wpAny_pyNext_rev_end (I.ok.hd hc) st' fun h' eb=>⟨rfl,I.turned (t':=s.toks) (fun b o hb e=>eb b o hb e) f0 f1 f3 f4 f5⟩
 self:=fun _ _ _ _ _ st h=>wpAny_pyIter_revIter st h
theorem EH:fillsNumberSlot (.type "tuple") "mul" = pure false:=PySem.fillsNumberSlot_seq (id := "tuple.__mul__") (r:=some (.builtin "tuple.__rmul__")) F.slot_tuple_mul.lookup (by decide +kernel) F.slot_tuple_rmul.lookup (by decide +kernel)
theorem Kf:seqRepeat? (.type "tuple")=pure (some (.builtin "tuple.__mul__")):=by
 unfold seqRepeat?;rw[PySem.seqSlot_of (T := "tuple") (name := "__mul__") (id := "tuple.__mul__") F.slot_tuple_mul.lookup (by decide +kernel),PySem.seqSlot_of (T := "tuple") (name := "__rmul__") (id := "tuple.__rmul__") F.slot_tuple_rmul.lookup (by decide +kernel)];rfl
theorem HJ(a:Int)(t:Tok)(l:Py)(items:Array Pt)(n:Nat)(dd:Option Py)(sl:Array (Option Pt)):Meets (Builtin.«int.__rmul__» ⟨[.int a t,.ref l],[]⟩) (fun _ R s=>s.heap.get? l=some { cls:=.type "tuple",dict:=dd,data:=.seq items n,slots:=sl }/\R (.ok (.ret Value.notImplemented)) s) :=
 .of_wp fun prog w A R s h=>by obtain⟨p1,p2,p3,p4,p5⟩:=s;obtain⟨hl,h⟩:=h;wp_walk;exact⟨_,rfl,h⟩
theorem Ip(l:Py)(items:Array Pt)(n:Nat)(u:Tok)(dd:Option Py)(sl:Array (Option Pt)):Meets (Builtin.«tuple.__mul__» ⟨[.ref l,.int 1 u],[]⟩) (fun _ R s=>s.heap.get? l=some { cls:=.type "tuple",dict:=dd,data:=.seq items n,slots:=sl }/\R (.ok (.ret (.ref l))) s) :=
 .of_wp fun prog w A R s h=>by
  obtain⟨p1,p2,p3,p4,p5⟩:=s;obtain⟨hl,h⟩:=h;have f2:=AutoSeq1.sub_tuple_tuple
  wp_walk using Qc hl
  exact⟨_,rfl,h⟩
theorem Io(l:Py)(items:Array Pt)(n:Nat)(x:Int)(u:Tok)(dd:Option Py)(sl:Array (Option Pt))(h0:items.isEmpty=false)(h1:¬ (decide (x < -(2^63)) || decide (x ≥ 2^63))=true)(h2:(x == 1)=false)(h3:¬ x<=0)(h4:¬ (items.size:Int)*x > (2^63-1) / 8)(h5:Builtin.Tuple.tupleTooMany ((items.size:Int)*x)=false)(h6:(List.foldl (fun x1 x2=>x1++x2) #[] (Pu x.toNat items)).size<=Pv) :
  Meets (Builtin.«tuple.__mul__» ⟨[.ref l,.int x u],[]⟩) (fun _ R s=>s.heap.get? l=some { cls:=.type "tuple",dict:=dd,data:=.seq items n,slots:=sl }/\R (.ok (.ret (.ref s.heap.objs.size))) { s with heap:=s.heap.push { cls:=.type "tuple",data:=.seq (List.foldl (fun x1 x2=>x1++x2) #[] (Pu x.toNat items)) } }) :=
 .of_wp fun prog w A R s h=>by
  obtain⟨p1,p2,p3,p4,p5⟩:=s;obtain⟨hl,h⟩:=h;have f2:=AutoSeq1.sub_tuple_tuple
  wp_walk using Qc hl
  rw[QJ h1]
  wp_walk using Qc hl
  rw[QJ h4]
  wp_walk
  exact⟨_,rfl,h⟩
def Mm(K:Frag):R2:=fun x y H Q=>∃ l xs,∃ k:Nat,x = .ref l/\y = .int k/\SqT K H l xs/\xs≠[]/\1<=k/\xs.length*k<=100000/\(k=1->Q (.ref l) H)/\(k≠1->∀ p,H p=none->Q (.ref p) (uH H p (.tup (List.replicate k xs).flatten)))
theorem HY:OpR X (binaryOp .Mult) (Mm X.K):=by
 intro pins s σ H x y v u Q I rx ry h;obtain⟨l,xs,k,rfl,rfl,hH,hne,hk,hz,q1,q2⟩:=h;cases rx;obtain⟨t,rfl⟩:=ry;obtain⟨its,rv,p,hz2⟩:=I.tuple hH;obtain⟨⟨cls,dd,data,sl⟩,e,hc,n,hd⟩:=p;simp only at hc hd;subst hc hd;have hl:=rv.length;have sz:100000<=Pv:=by rw[P4];decide
 have go:∀ z:Int,z=(k:Int)->PH (model X.prog X.w) X.A (call (.builtin "tuple.__mul__") [.ref l,.int z t]) (EP X pins σ Q) X.xe s:=by
  rintro z hzk;by_cases h1:k=1
  ·rw[show z=1 by lia];exact QG F.slot_tuple_mul ⟨_,e,rfl⟩ F.entry_tuple_mul (F.args_tuple_mul_2 _ _) (Ip l its.toArray n t dd sl) ⟨e,⟨.ref l,H,I,rfl,q1 h1⟩⟩
  ·have f0:∀ m:Nat,List.foldl (fun x1 x2=>x1++x2) #[] (Pu m its.toArray)=(Pu m its).flatten.toArray:=fun m=>by
    have:=xM its m [];rw[List.nil_append] at this;exact this
   have zk:z.toNat=k:=by lia
   have im:(its.toArray.size:Int)*z=((xs.length*k:Nat):Int):=by rw[hzk,am,← hl];exact (Int.natCast_mul _ _).symm
   refine QG F.slot_tuple_mul ⟨_,e,rfl⟩ F.entry_tuple_mul (F.args_tuple_mul_2 _ _) (Io l its.toArray n z t dd sl ?_ ?_ ?_ ?_ ?_ ?_ ?_) ⟨e,?_⟩
   ·cases its with
    | nil=>exact absurd (cX.mp hl) hne
    | cons=>rfl
   ·simp;have:xs.length*k ≥ k:=aQ _ (dr.mpr hne);lia
   ·have:z≠1:=by lia
    simpa using this
   ·lia
   ·rw[im];lia
   ·unfold Builtin.Tuple.tupleTooMany;rw[im];exact decide_eq_false (by lia)
   ·rw[f0,zk,am,AN,← hl,bQ];lia
   ·rw[f0,zk];refine⟨.ref _,_,I.laid (o:=.tup (Pu k xs).flatten) (t':=s.toks) (fun b u e=>Pw _ e) (ak _) ⟨?_,(Pu k its).flatten,rv.rep k,⟨_,PF _ rfl,rfl,_,rfl⟩⟩,rfl,q2 h1 _ I.fresh⟩;rw[AN,bQ];lia
 generalize hzk:(k:Int)=z;refine wpAny_binaryOp_repeat_ref (T := "tuple") (U := "int") (by decide) ⟨_,e,rfl⟩ (fun s'=>typeIs_int s' z t) EH F.fills_int_mul F.slot_int_rmul Kf F.slot_int_index.lookup
  (QG F.slot_int_rmul (typeIs_int s z t) F.entry_int_rmul (F.args_int_rmul_2 _ _) (HJ z t l its.toArray n dd sl) ⟨e,rfl,⟨_,e,rfl⟩,go z hzk.symm⟩)
variable{X:Cx}{pins:List (Addr×Obj)}{σ:St}{H:Hp}{s:Shared}
def Kr(K:Frag)(neg:Bool):R2:=fun x y H Q=>∃ d ds,Rep K H d x/\Rep K H (.lst ds) y/\d.pl=true/\DV.pls ds=true/\DV.dps ds<=60/\∀ b,(b=true↔d∈ds)->Q (.bl (if neg then !b else b)) H
theorem Br{K:PM}:∀{ds:List DV} {vs:List V} {us:List Pt},Reps K H ds vs->Vals vs us->DV.pls ds=true->DV.dps ds<=60->(∀ w∈us,∃ di∈ds,∃ xi,Rep K H di xi/\RelV xi w/\di.pl=true/\di.dp<=60)/\∀ di∈ds,∃ w∈us,∃ xi,Rep K H di xi/\RelV xi w
 | [],vs,us,h,r,_,_=>by
  unfold Reps at h;subst h;cases r;exact⟨fun w h=>absurd h bf,fun w h=>absurd h bf⟩
 | d::ds,vs,us,h,r,p,hd=>by
  unfold Reps at h;obtain⟨x,r',rfl,h1,h2⟩:=h;cases r with
  | cons rx rxs =>
   unfold DV.pls at p;rw[bT] at p;unfold DV.dps at hd;obtain⟨i1,i2⟩:=Br h2 rxs p.2 (by lia);refine⟨fun w hw=>?_,fun di hi=>?_⟩
   ·rcases av.mp hw with e|e
    ·rw[e];exact⟨d,aG,x,h1,rx,p.1,by lia⟩
    ·obtain⟨di,m,z⟩:=i1 w e;exact⟨di,aA _ m,z⟩
   ·rcases av.mp hi with e|e
    ·rw[e];exact⟨_,aG,x,h1,rx⟩
    ·obtain⟨w,m,z⟩:=i2 di e;exact⟨w,aA _ m,z⟩
open Classical in
theorem BK{K:PM}{k:Nat}(hr:Room k X.A)(hK:X.K=K)(I:Inv X pins σ H s){d:DV}{ds:List DV}{x:V}{v:Pt}{vs:List V}{us:List Pt}(h1:Rep K H d x)(rx:RelV x v)(r1:Reps K H ds vs)(rv:Vals vs us)(p1:d.pl=true)(p2:DV.pls ds=true)(hd:DV.dps ds<=60) :
  ∃ e:Pt->Bool,(∀ w∈us,SeqAt.EqAt X.A.in1 s w v (e w))/\(us.any e=true↔d∈ds):=by
 subst hK;obtain⟨i1,i2⟩:=Br r1 rv p2 hd;have hun:=hr.units;have key:∀ w∈us,∀ di∈ds,∀ xi,Rep X.K H di xi->RelV xi w->(decide (∃ xi,RelV xi w/\Rep X.K H d xi)=true↔di=d):=fun w hw di hi xi hx rw'=>by
  rw[decide_eq_true_iff];constructor
  ·rintro⟨x',r',h'⟩;rw[RelV.inj r' rw'] at h';exact Rep.inj I hx h'
  ·rintro rfl;exact⟨xi,rw',hx⟩
 refine⟨fun w=>decide (∃ xi,RelV xi w/\Rep X.K H d xi),fun w hw=>?_,?_⟩
 ·obtain⟨di,hi,xi,hx,rw',pi,dpi⟩:=i1 w hw;obtain⟨b,hb,ib⟩:=OQ I di d X.A.in1 hx h1 rw' rx pi p1 (by show X.A.units+1+_+1<_;lia);have:decide (∃ xi,RelV xi w/\Rep X.K H d xi)=b:=cQ.mpr ((key w hw di hi xi hx rw').trans ib.symm);dsimp only;rw[this];exact hb
 ·rw[gE];constructor
  ·rintro⟨w,hw,he⟩;obtain⟨di,hi,xi,hx,rw',_,_⟩:=i1 w hw;exact (key w hw di hi xi hx rw').mp he ▸ hi
  ·intro hm;obtain⟨w,hw,xi,hx,rw'⟩:=i2 d hm;exact⟨w,hw,(key w hw d hm xi hx rw').mpr rfl⟩
theorem KN(K:PM)(hr:Room k X.A)(hK:X.K=K:=by rfl):OpR X (PX .In) (Kr K false):=by
 intro pins s σ H x y u v Q I rx ry h;obtain⟨d,ds,h1,h2,p1,p2,hd,q⟩:=h;unfold Rep at h2;obtain⟨a,vs,rfl,t1,r1⟩:=h2;cases ry;subst hK;obtain⟨its,rv,p,_⟩:=I.list t1;obtain⟨e,he,hi⟩:=BK hr rfl I h1 rx r1 rv p1 p2 hd;refine SeqAt.in_listAt e p.isList (fun w hw=>he w (by simpa using hw)) ⟨.bl _,H,I,rfl,?_⟩;rw[show its.toArray.any e=its.any e by simp];exact q _ hi
theorem EE(K:PM)(hr:Room k X.A)(hK:X.K=K:=by rfl):OpR X (PX .NotIn) (Kr K true):=by
 intro pins s σ H x y u v Q I rx ry h;obtain⟨d,ds,h1,h2,p1,p2,hd,q⟩:=h;unfold Rep at h2;obtain⟨a,vs,rfl,t1,r1⟩:=h2;cases ry;subst hK;obtain⟨its,rv,p,_⟩:=I.list t1;obtain⟨e,he,hi⟩:=BK hr rfl I h1 rx r1 rv p1 p2 hd;refine SeqAt.notIn_listAt e p.isList (fun w hw=>he w (by simpa using hw)) ⟨.bl _,H,I,rfl,?_⟩;rw[show its.toArray.any e=its.any e by simp];exact q _ hi
end L2
set_option maxHeartbeats 1000000
set_option maxHeartbeats 1000000
set_option maxHeartbeats 1000000
namespace DL
open PySem PySem.Spec PyProof.Rows L2 PySem.W
variable{prog:Program}{w:World}{A:Around}{E:Value->Shared->Prop}{s:Shared}
theorem An{h:Qb}(g:Array Pt->Array Pt)(e:h.get? a=some (seqObj "list" xs n)):(h.update a (PZ g)).get? a=some (seqObj "list" (g xs) (if ((g xs).size == xs.size)=true then n else n+1)):=by
 exact Qn (PZ g) e rfl
theorem ul{h:Qb}(g:Array Pt->Array Pt)(hb:b≠a)(e:h.get? b=some o):(h.update a (PZ g)).get? b=some o:=(Ql h (PZ g) (Ne.symm hb)).trans e
theorem Fd(ha:s.heap.get? a=some (seqObj "list" #[v] n))
  (hc:∀(kS:Py) (h1:Qb),s.heap.objs.size<=kS->(∀ b o,b≠a->s.heap.get? b=some o->h1.get? b=some o)->h1.get? a=some (seqObj "list" #[] (n+1))->h1.get? kS=some (seqObj "list" #[] 0) ->
   PH (model prog w) A (call f [v]) (fun k s2=>s2.heap.get? a=some (seqObj "list" #[] (n+1))/\s2.heap.get? kS=some (seqObj "list" #[] 0) /\
    ∀(h3:Qb) (c:Nat),(∀ b o,b≠a->b≠kS->s2.heap.get? b=some o->h3.get? b=some o)->h3.get? a=some (seqObj "list" #[v] c)->(∃ o,h3.get? kS=some o)->P (.done (.ret .none)) { s2 with heap:=h3 }) (fun _ _=>False) { s with heap:=h1 }) :
  PH (model prog w) A (ksk_tree a f false) P E s:=by
 unfold ksk_tree;refine On (listItems_at ha rfl ?_);refine On (listUpdate_at ha rfl ?_);have e1:=An (fun _ => #[]) ha;refine On (seqEpoch_at e1 rfl ?_);refine On (wpAny_newTuple ?_);refine On (wpAny_newList ?_);refine Qu ?_;dsimp only;unfold ksk_rest;refine On (wpAny_rule ?_);have hp:=PF ((s.heap.update a (PZ fun _ => #[])).push { cls:=.type "tuple",data:=.seq [v].toArray }) (o:={ cls:=.type "list",data:=.seq [].toArray }) rfl;generalize hk:((s.heap.update a (PZ fun _ => #[])).push { cls:=.type "tuple",data:=.seq [v].toArray }).objs.size=kS at hp ⊢;have hks:s.heap.objs.size<=kS:=by
  rw[← hk];show _<=(Array.push (s.heap.update a (PZ fun _ => #[])).objs _).size;rw[fh,Heap.size_update];lia
 have k1:∀ b o,(s.heap.update a (PZ fun _ => #[])).get? b=some o->(((s.heap.update a (PZ fun _ => #[])).push { cls:=.type "tuple",data:=.seq [v].toArray }).push { cls:=.type "list",data:=.seq [].toArray }).get? b=some o:=fun b o e=>Pw _ (Pw _ e);have nak:a≠kS:=fun z=>ca _ (aC (z ▸ PC ha) hks);refine On ?_;rw[← Array.forIn_toList];show PH _ _ (forIn [v] PUnit.unit _) _ _ _;rw[List.forIn_cons];refine On (On (wpAny_attempt ?_));refine wpAny_mono (hc kS _ hks (fun b o hb e=>k1 b o (ul _ hb e)) (k1 _ _ e1) hp) (fun k s2 ⟨g1,g2,g3⟩=>?_) (fun _ _ z=>z.elim);dsimp only;refine On (listUpdate_at g2 rfl ?_);refine PB ?_;dsimp only;rw[List.forIn_nil];refine PB ?_;have e2:=An (fun xs=>xs.push k) g2;refine On (listItems_at e2 rfl ?_);unfold ksk_end;simp only[cu,if_false];have ez:(#[v]:Array Pt).size<2:=by show 1<2;lia
 rw[QI ez,QI ez];refine On (PB ?_);refine On (PB ?_);have ezp:((#[]:Array Pt).push k).zip #[v] = #[(k,v)]:=by simp
 rw[ezp];show PH _ _ (ksk_tail a false (n+1) (.ref kS) (SortSt.mk' general' #[(k,v)] #[] 7 none)) _ _ _;unfold ksk_tail;refine On (listUpdate_at e2 rfl ?_);refine On (wpAny_letGo ?_);have g4:((s2.heap.update kS (PZ fun xs=>xs.push k)).update kS (PZ fun _ => #[])).get? a=some (seqObj "list" #[] (n+1)):=ul _ nak (ul _ nak g1);refine On (seqEpoch_at g4 rfl ?_);have em:(Array.map (fun x:Keyed=>x.snd) (arrOf (SortSt.mk' general' #[(k,v)] #[] 7 none))) = #[v]:=by
  show Array.map (fun x:Keyed=>x.snd) #[(k,v)] = #[v];simp
 simp only[cu,if_false];rw[em];refine On (listUpdate_at g4 rfl ?_);have e5:=An (fun _ => #[v]) g4;show PH _ _ (if (n+1 != n+1)=true then _ else _) _ _ _;rw[QJ (by simp)];refine PB (g3 _ _ (fun b o h1 h2 e=>ul _ h1 (ul _ h2 (ul _ h2 e))) e5 ?_);exact⟨_,ul _ (Ne.symm nak) (An _ e2)⟩
theorem Ci(hl:s.heap.IsList l #[v])
  (hc:∀(D kS:Py) (h1:Qb) (n:Nat),s.heap.objs.size<=D->s.heap.objs.size<=kS->D≠kS->(∀ b o,s.heap.get? b=some o->h1.get? b=some o)->h1.get? D=some (seqObj "list" #[] n)->h1.get? kS=some (seqObj "list" #[] 0) ->
   PH (model prog w) A.in1.in1 (call (.ref q) [v]) (fun k s2=>s2.heap.get? D=some (seqObj "list" #[] n)/\s2.heap.get? kS=some (seqObj "list" #[] 0) /\
    ∀(h3:Qb) (c:Nat),(∀ b o,b≠D->b≠kS->s2.heap.get? b=some o->h3.get? b=some o)->h3.get? D=some (seqObj "list" #[v] c)->(∃ o,h3.get? kS=some o)->Q (.ref D) { s2 with heap:=h3 }) (fun _ _=>False) { s with heap:=h1 }) :
  PH (model prog w) A (call (.builtin "sorted") [.ref l] [(QB "key",.ref q)]) Q E s:=by
 refine call_function_entry_kw kind_sorted plain_sorted entry_sorted (ksk_s1 _ _) ?_;unfold Builtin.«sorted»;refine On (PB ?_);show PH _ _ (collect (.ref l) >>= _) ..;refine On (collect_list (vs:=[v]) hl ?_);refine On (wpAny_newList ?_);dsimp only;generalize hh:(s.heap.push (seqObj "list" #[] 0)).update s.heap.objs.size (PZ fun x=>x++[v].toArray)=h0;have hz:s.heap.objs.size<=h0.objs.size:=by
  rw[← hh,Heap.size_update];show _<=(Array.push s.heap.objs _).size;rw[fh];lia
 have k0:∀ b o,s.heap.get? b=some o->h0.get? b=some o:=fun b o e=>by
  rw[← hh];exact ul _ (bt (PC e)) (Pw _ e)
 have eD:=PF h0 (o:={ cls:=.type "list",data:=.seq [v].toArray }) rfl;refine On (Qu ?_);refine wpAny_call_entry_kw F.slot_list_sort ⟨_,eD,rfl⟩ F.entry_list_sort ?_ (ksk_l1 _ _);rw[ksk_t1];refine Fd (n:=0) eD fun kS h1 hk k1 e1 e2=>?_;have nDk:h0.objs.size≠kS:=fun z=>by
  rw[← z] at hk;have:(h0.push { cls:=.type "list",data:=.seq [v].toArray }).objs.size=h0.objs.size+1:=fh _;rw[this] at hk;exact absurd hk (by lia)
 refine wpAny_mono (hc h0.objs.size kS h1 1 hz ?_ nDk (fun b o e=>k1 b o (bt (aC (PC e) hz)) (Pw _ (k0 b o e))) e1 e2) (fun k s2 ⟨g1,g2,g3⟩=>⟨g1,g2,fun h3 c q1 q2 q3=>⟨_,rfl,PB ⟨_,rfl,g3 h3 c q1 q2 q3⟩⟩⟩) (fun _ _ z=>z);have:(h0.push { cls:=.type "list",data:=.seq [v].toArray }).objs.size=h0.objs.size+1:=fh _;rw[this] at hk;lia
end DL
namespace L2
open PySem PySem.Spec
section
variable{X:Cx}{pins:List (Addr×Obj)}{σ:St}{H:Hp}{s:Shared}
theorem K6(g:HOk P w H h)(hD:H D=none)(hk:H kS=none)(k:∀ b u,b≠D->b≠kS->h.get? b=some u->h'.get? b=some u)(new:ObjOk P w (uH H D o) h' D o):HOk P w (uH H D o) h':=by
 intro b u e;by_cases c:b=D
 ·subst c;have:(uH H b o) b=some o:=ur ..;rw[this] at e;cases e;exact new
 ·have e0:H b=some u:=(L2.ul c).symm.trans e;refine (g b u e0).stay (fun d v hd q=>?_) (fun d q=>?_) fun d xs q=>?_
  ·have hd':H d≠none:=by
    rcases hd with z|z
    ·rw[z,e0];exact fun z=>by cases z
    ·rw[z];exact fun z=>by cases z
   exact k d v (fun z=>hd' (z ▸ hD)) (fun z=>hd' (z ▸ hk)) q
  ·rw[L2.ul fun z=>by rw[z,hD] at q;cases q];exact q
  ·rw[L2.ul fun z=>by rw[z,hD] at q;cases q];exact q
theorem Hd(F:FnOk X.prog X.w X.K X.mg X.base Dh k f fd ps sp)(hr:Room (k+2) X.A)(hb:Binds X.K fd ps [])(I:Inv X pins σ H s)(e:H l=some (.lst [y]))
  (h:sp [y] H (fun _ H2=>∀ D,H2 D=none->Q (.ref D) (uH H2 D (.lst [y]))) E0):PH (model X.prog X.w) X.A (call (.builtin "sorted") [.ref l] [("key",.ref f)]) (EP X pins σ Q) X.xe s:=by
 obtain⟨z,its,n,r,hl,eL⟩:=I.lstM e;obtain⟨u,rfl,ru⟩:=r.one;refine DL.Ci ⟨_,eL,rfl,n,rfl⟩ fun D kS h1 n1 zD zk nDk k1 e1 e2=>?_;have I1:Inv X pins σ H { s with heap:=h1 }:=I.kept (t':=s.toks) k1;have hlen:([u]++[]).length=ps.length:=F.len _ _ _ _ h;have nst:∀ b,s.heap.objs.size<=b->b ∉ B8 X.stack:=fun b hb z=>by
  obtain⟨_,o,ho,_⟩:=I.stack.mem z;exact absurd (PC ho) (Nat.not_lt.mpr hb)
 refine wpAny_call (codeAny_mono (F.run X.A.in1.in1 X.stack _ H ⟨[u],[]⟩ [u] [y] _ E0 hr.in1.in1 I1.env0.in1.in1 (hb _ [u] I1.kIn hlen) (.cons ru .nil) h) fun r s' hq=>?_);cases r with
 | error e=>exact hq.elim
 | ok fl =>
  cases fl with
  | ret kv =>
   obtain⟨v,H',os,bare,un,hok,rv,q⟩:=hq;have fD:=I.hok.fresh zD;have fk:=I.hok.fresh zk;refine⟨un.keep D _ e1 fD (nst D zD) (by simp),un.keep kS _ e2 fk (nst kS zk) (by simp),fun h3 c q1 q2 q3=>?_⟩;have gD:=un.free D _ e1 fD (by simp);have gk:=un.free kS _ e2 fk (by simp);have ne:∀ b o,s.heap.get? b=some o->b≠D/\b≠kS:=fun b o ho=>⟨bt (aC (PC ho) zD),bt (aC (PC ho) zk)⟩;have hok3:HOk X.prog X.w (uH H' D (.lst [y])) h3:=K6 hok gD gk q1 ⟨by show 1<=Pv;decide,[u],c,.cons ru .nil,q2⟩;have un3:Un (B8 X.stack) [] H (uH H' D (.lst [y])) s.heap h3:=by
    refine⟨fun b o e n hb hx=>q1 b o (ne b o e).1 (ne b o e).2 (un.keep b o (k1 b o e) n hb hx),fun b o e n hb hx=>?_,fun b o e n hx=>?_,fun b o e hx=>?_,fun b xs e=>?_,fun b o u e=>?_,fun b ps e=>?_⟩
    ·obtain⟨sl,g⟩:=un.slot b o (k1 b o e) n hb hx;exact⟨sl,q1 b _ (ne b o e).1 (ne b o e).2 g⟩
    ·rw[L2.ul (ne b o e).1];exact un.free b o (k1 b o e) n hx
    ·obtain⟨o',g⟩:=un.there b o (k1 b o e) hx;exact⟨o',q1 b _ (ne b o e).1 (ne b o e).2 g⟩
    ·rw[L2.ul fun z=>by rw[z,fD] at e;cases e];exact un.tups b xs e
    ·rw[L2.ul fun z=>by rw[z,fD] at e;cases e];exact un.frzs b o u e
    ·obtain⟨m,g⟩:=un.tbls b ps e;exact⟨m,by rw[L2.ul fun z=>by rw[z,fD] at e;cases e];exact g⟩
   obtain⟨hh,g,d,t,os'⟩:=s';obtain rfl:os'=s.os:=os;have I3:=I.call (h':=h3) (g':=g) (d':=d) (t':=t) (ch:=[]) un3 hok3 bare (fun b z=>absurd z (by simp));exact⟨.ref D,_,I3,rfl,q D gD⟩
  | next=>exact hq.elim
  | brk=>exact hq.elim
  | cont=>exact hq.elim
def L8(sp:Sp)(te:TE):TE:=fun σ H Q=>te σ H fun x H1=>∃ l y,x = .ref l/\H1 l=some (.lst [y])/\sp [y] H1 (fun _ H2=>∀ D,H2 D=none->Q (.ref D) (uH H2 D (.lst [y]))) E0
theorem KG(g:Def X.prog X.w X.K X.mg X.base y j ps sp)(hr:Room k X.A)(hjk:j+2<=k)(hg:Gl X "sorted")(hm:X.mg "sorted" = none)(hy:Gl X y)(hdb:(y == ("__debug__" : PR))=false)(he:PE X e te)
  (hs:PN [e] X.env=[(false,eval e X.env)]):PE X (.Call (.Name "sorted" p) [e] [⟨some "key",.Name y py,kp⟩] pos) (L8 sp te):=by
 intro pins s σ H Q I h;obtain⟨f,fd,F,m,kp',b⟩:=g.ex;refine wpAny_Call_Name_kw (wL I hg hm PyProof.Rows.boot_sorted ?_);refine PyProof.Rows.callWith_builtin_kwB (by rw[hs];rfl) rfl ?_;refine PyProof.Rows.evalArgs_kw2 rfl (uA (uu he pa_nil hs pos pins s σ H (fun vs H1=>match vs with|[x]=>∃ l z,x = .ref l/\H1 l=some (.lst [z])/\sp [z] H1 (fun _ H2=>∀ D,H2 D=none->Q (.ref D) (uH H2 D (.lst [z]))) E0|_=>False) I h) fun us s1 ⟨vs,H1,I1,r,q⟩=>?_) hs;dsimp only at q;split at q
 ·obtain⟨l,z,e1,e2,q⟩:=q;subst e1;obtain⟨u,rfl,ru⟩:=r.one;cases ru;refine uA (HQ (DH (v:=.ref f) hy m rfl hdb) KA pos pins s1 σ H1 (fun vs H2=>vs=[.ref f]/\H2=H1) I1 ⟨rfl,rfl⟩) fun ws s2 ⟨zs,H2,I2,rz,e3,e4⟩=>?_;subst e3 e4;obtain⟨u,rfl,ru⟩:=rz.one;cases ru;exact Hd F (hr.mono hjk) b I2 e2 q
 ·exact q.elim
theorem BJ:∀{ns:List Int} {us:List Pt},Vals (ns.map V.int) us->PyProof.Rows.IntsAre us ns
 | [],us,h=>by cases h;exact .nil
 | n::ns,us,h=>by
  rw[dQ] at h;cases h with
  | cons a b =>
   obtain⟨t,rfl⟩:=a;exact .cons _ _ (BJ b)
def Ko:List V->Hp->VK->Prop:=fun xs H Q=>∃ p ns,xs=[.ref p]/\H p=some (.lst (ns.map V.int))/\ns.length<64/\∀(ns':List Int) D,ns'.Perm ns->ns'.Pairwise (· <= ·)->H D=none->Q (.ref D) (uH H D (.lst (ns'.map V.int)))
theorem C7:CallR X (.builtin "sorted") Ko:=by
 intro pins s σ H xs us Q I r h;obtain⟨p,ns,rfl,hp,hl,q⟩:=h;obtain⟨u,rfl,rx⟩:=r.one;cases rx;obtain⟨z,its,n,rv,le,e⟩:=I.lstM hp;rw[aa] at le;refine PyProof.Rows.sorted_ints ⟨_,e,rfl,n,rfl⟩ (BJ rv) (by lia) fun out ns' i1 i2 i3=>?_;obtain⟨c,e3⟩:=PyProof.Rows.sortedAll_at s.heap its out;have zD:s.heap.objs.size<=s.heap.objs.size+1:=eO _;have lo:ns'.length=ns.length:=i2.length_eq;have I3:Inv X pins σ (uH H (s.heap.objs.size+1) (.lst (ns'.map V.int))) { s with heap:=PyProof.Rows.sortedAll s.heap its out,toks:=s.toks } :=
  I.laid (fun b u hb=>PyProof.Rows.sortedAll_old hb) zD ⟨by rw[aa,lo];rw[aa] at z;exact z,out.toList,c,xC i1,by rw[e3]⟩
 exact⟨.ref _,_,I3,rfl,q ns' _ i2 i3 (I.hok.fresh zD)⟩
end
end L2
set_option maxHeartbeats 1000000
namespace DL
open PySem PySem.Spec PyProof.Rows L2
variable{prog:Program}{w:World}{A:Around}{E:Value->Shared->Prop}{s:Shared}
theorem M1:fillsInplaceSlot (.type "list") "add" true=pure false:=by
 unfold fillsInplaceSlot;dsimp only;rw[F.slot_list_iadd.lookup];rfl
theorem Ey:typeLookup (.type "list") (dunderR "add")=pure none:=am_miss_of_fast (by decide +kernel)
theorem La:fillsNumberSlot (.type "list") "add" = pure false:=by
 unfold fillsNumberSlot;dsimp only;rw[F.slot_list_add.lookup,Ey];rfl
theorem one(h1:s.TypeIs (.ref l) "list")(h2:s.TypeIs (.ref b) "list")(q:Q none s):PH (model prog w) A (binaryOp1 "add" (.ref l) (.ref b)) Q E s:=by
 unfold binaryOp1;refine On (wpAny_typeOf h1 ?_);refine On (wpAny_typeOf h2 ?_);refine On ?_;rw[La];refine PB ?_;dsimp only;have e:(Qz "list" == Qz "list")=true:=by decide
 rw[e];refine On (PB ?_);simp only[gN,cu,if_false];refine On (PB ?_);exact PB q
theorem seq:seqSlot? (.type "list") (dunderI "add")=pure (some (.builtin "list.__iadd__")):=by
 unfold seqSlot?;dsimp only;rw[F.slot_list_iadd.lookup];rfl
theorem ES(h1:s.TypeIs (.ref l) "list")(h2:s.TypeIs (.ref b) "list")(q:PH (model prog w) A (call (.builtin "list.__iadd__") [.ref l,.ref b]) Q E s):PH (model prog w) A (inplaceOp .Add (.ref l) (.ref b)) Q E s:=by
 unfold inplaceOp;refine Qu ?_;dsimp only;refine On (wpAny_typeOf h1 ?_);refine On ?_;show PH _ _ (fillsInplaceSlot (.type "list") "add" true) ..;rw[M1];refine PB ?_;simp only[cu,if_false];show PH _ _ (binaryOp1 "add" (.ref l) (.ref b) >>= _) ..;refine On (one h1 h2 ?_);dsimp only;show PH _ _ (seqSlot? (.type "list") (dunderI "add") >>= _) ..;rw[seq];refine On (PB ?_);exact On (wpAny_rule q)
end DL
namespace L2
open PySem PySem.Spec
variable{X:Cx}
def OI:LQ:=fun x y H Q=>∃ l b xs zs,x = .ref l/\y = .ref b/\H l=some (.lst xs)/\H b=some (.lst zs)/\xs.length+zs.length<=sizeLine/\Q (.ref l) (uH H l (.lst (xs++zs)))
theorem FZ:Oz X .Add OI:=by
 intro pins s σ H x y v u Q I rx ry h;obtain⟨l,b,xs,zs,rfl,rfl,hH,hB,hz,q⟩:=h;cases rx;cases ry;obtain⟨z,its,n,r,hl,e⟩:=I.lstM hH;obtain⟨z2,its2,n2,r2,hl2,e2⟩:=I.lstM hB;have hsz:its.toArray.size+its2.toArray.size<=Pv:=by rw[am,am];lia
 have hlong:¬ (!its.toArray.isEmpty && Qw (its.toArray.size+its2.toArray.size))=true:=by
  rw[BC hsz,Bool.and_false];exact aI
 refine DL.ES ⟨_,e,rfl⟩ ⟨_,e2,rfl⟩ ?_;refine QG F.slot_list_iadd ⟨_,e,rfl⟩ F.entry_list_iadd (F.args_list_iadd_2 _ _)
  (AutoSeq1.list___iadd___list_list_0 l its.toArray n b its2.toArray n2 hlong (by rw[am];lia) (by lia)) ⟨e,e2,?_⟩
 refine⟨.ref l,_,I.lset (its':=its++its2) hH e (by simp) (r.append r2) ?_,rfl,q⟩;rw[aB];lia
end L2
namespace L2
open PySem PySem.Spec PyProof.Rows
def M5(C:Addr)(d:Option Addr)(u:Addr):Obj:={ cls:=.ref C,dict:=d,data:=.fields #[.ref u,.none,.none,.none,.bool false,.none] }
def NA(a C:Addr)(d:Option Addr)(u:Addr):HO:=.ext fun h=>h.get? a=some (M5 C d u)
end L2
set_option maxHeartbeats 1000000
namespace L2
open PySem PySem.Spec PyProof.Rows
theorem KV.at:∀{kvs:List (zl×V)} {vs:List (zl×Pt)} {j:Nat} {kv:zl×V},KV kvs vs->kvs[j]? = some kv->∃ u,vs[j]? = some (kv.1,u)/\RelV kv.2 u
 | _,_,0,_,.cons (b:=q) r t,h=>by cases h;exact⟨q.2,by rw[r.1];rfl,r.2⟩
 | _,_,j+1,_,.cons r t,h=>by
  rw[e9] at h;obtain⟨u,e1,e2⟩:=KV.at t h;exact⟨u,by rw[e9];exact e1,e2⟩
section
variable{X:Cx}
def Mq:R2:=fun x y H Q=>∃ p kvs k v,x = .ref p/\y=kV k/\H p=some (.dK kvs)/\(k,v)∈kvs/\Q v H
theorem IA:IxR X Mq:=by
 intro value slice pins s σ H x y v u Q I rx ry h hs;obtain⟨p,kvs,k,z,rfl,rfl,hq,he,q⟩:=h;cases rx;obtain⟨hz,hn,vs,rel,dd⟩:kvs.length<=Pv/\(p == sysModules)=false/\∃ vs,KV kvs vs/\s.heap.DictOf (xo X.prog X.w) p vs:=I.hok p _ hq;obtain⟨j,hj⟩:=bV.mp he;obtain⟨w,ew,rw'⟩:=rel.at hj;have hk:(xo X.prog X.w).is k u=true:=by
  cases k with
  | inl i=>obtain⟨t,rfl⟩:=ry;exact EO i t
  | inr x=>obtain⟨t,rfl⟩:=ry;exact EN x t
 have dd':=dd;obtain⟨o,es,ep,g1,g2,g3,g4,g5,nd⟩:=dd';have hat:valueAt vs k=some w:=by
  unfold valueAt;have hm:(k,w)∈vs:=aO ew;clear dd g3 g4 g5 rel ew;induction vs with
  | nil=>cases hm
  | cons a vs ih =>
   rw[dQ,dU] at nd;rcases av.mp hm with e|e
   ·subst e;simp
   ·have:a.1≠k:=fun z=>nd.1 (by rw[z];exact de.mpr ⟨_,e,rfl⟩);rw[List.find?_cons];rw[decide_eq_false this];exact ih nd.2 e
 have fin:EP X pins σ Q w { s with toks:=s.toks+1 }:=⟨z,H,I.tok _,rw',q⟩;exact subscriptTail_builtinR (x:=w) (T := "dict") ⟨o,g1,g2.1⟩ PySem.F.slot_dict_getitem.lookup (wpAny_getItem_of (Q:=fun r s'=>r=w/\EP X pins σ Q r s') hk dd.mapOf hat ⟨rfl,fin⟩) hs
end
end L2
namespace Ca
open Cv
def rv(a:Nat)(f:Nat->Int):Nat->Int:=fun j=>if j<=a then f (a-j) else 0
theorem JM(hf:∀ j,a<j->f j=0)(hg:∀ j,b<j->g j=0)(hi:i<=a+b):cv f g (a+b-i)=cv (rv a f) (rv b g) i:=by
 have h1:tm f g (a+1) (a+b-i)=cv f g (a+b-i):=wo fun j hj=>hf j (by lia);have h2:tm (rv a f) (rv b g) (a+1) i=cv (rv a f) (rv b g) i:=wo fun j hj=>QJ (by lia);rw[← h1,← h2];unfold tm;rw[Fo (fun j=>if j<=i then rv a f j*rv b g (i-j) else 0)];refine uo fun j hj=>?_;show (if j<=a+b-i then f j*g (a+b-i-j) else 0)=if a+1-1-j<=i then rv a f (a+1-1-j)*rv b g (i-(a+1-1-j)) else 0;have e1:rv a f (a+1-1-j)=f j:=by
  unfold rv;rw[QI (by lia),show a-(a+1-1-j)=j by lia]
 rw[e1];by_cases c:a+1-1-j<=i
 ·rw[QI c];unfold rv;by_cases d:i-(a+1-1-j)<=b
  ·rw[QI d,QI (by lia),show b-(i-(a+1-1-j))=a+b-i-j by lia]
  ·rw[QJ d,QJ (by lia),bD]
 ·rw[QJ c,hg (a+b-i-j) (by lia),bD];split <;> rfl
theorem Ax(hf:∀ j,s<j->f j=0):∀ k j,k*s<j->pw f k j=0
 | 0,j,h=>QJ (by lia)
 | k+1,j,h=>by
  rw[bh] at h;exact u5 (a:=k*s+1) (b:=s+1) (fun i hi=>Ax hf k i (by lia)) (fun i hi=>hf i (by lia)) (by lia)
theorem FN(hf:∀ j,s<j->f j=0):∀ k i,i<=k*s->pw f k (k*s-i)=pw (rv s f) k i
 | 0,i,h=>by
  rw[show i=0 by lia];show pw f 0 (0*s-0)=_;rw[hX];rfl
 | k+1,i,h=>by
  show cv (pw f k) f ((k+1)*s-i)=cv (pw (rv s f) k) (rv s f) i;rw[bh] at h ⊢;rw[JM (fun j hj=>Ax hf k j hj) hf h];refine BS (fun j hj=>?_) fun _ _=>rfl;unfold rv;by_cases c:j<=k*s
  ·rw[QI c];exact FN hf k j c
  ·rw[QJ c];exact (Ax (s:=s) (fun j hj=>QJ (by lia)) k j (by lia)).symm
theorem Jl(h:∀ j,j<=n->f j=g j):∀ k j,j<=n->pw f k j=pw g k j
 | 0,_,_=>rfl
 | k+1,j,hj=>BS (fun i hi=>Jl h k i (by lia)) fun i hi=>h i (by lia)
theorem Ay(f:Nat->Int)(c:Int):∀ k j,pw (fun i=>f i*c^i) k j=pw f k j*c^j
 | 0,j=>by
  show (if j=0 then (1:Int) else 0)=(if j=0 then 1 else 0)*c^j;split
  ·rw[‹j=0›,aT,bq]
  ·rw[aN]
 | k+1,j=>by
  show cv (pw (fun i=>f i*c^i) k) (fun i=>f i*c^i) j=cv (pw f k) f j*c^j;unfold cv;rw[← vB];refine uo fun i hi=>?_;rw[Ay f c k i];have:c^j=c^i*c^(j-i):=by rw[← cT,show i+(j-i)=j by lia]
  rw[this];grind
theorem FM(f:Nat->Int)(c:Int):∀ k j,pw (fun i=>f i*c) k j=pw f k j*c^k
 | 0,j=>by rw[aT,bq];rfl
 | k+1,j=>by
  show cv (pw (fun i=>f i*c) k) (fun i=>f i*c) j=cv (pw f k) f j*c^(k+1);unfold cv;rw[← vB];refine uo fun i hi=>?_;rw[FM f c k i,aJ];grind
theorem FO(g:Nat->Int):∀ k,pw g k=Pc.cp g k
 | 0=>rfl
 | k+1=>by show cv (pw g k) g=_;rw[FO g k];rfl
end Ca
namespace Pc
open Cv
theorem CY(hf:∀ j,a<j->f j=0)(hg:∀ j,b<j->g j=0):cv f g (a+b)=f a*g b:=by
 have:=Ca.JM (i:=0) hf hg (aE _);rw[bP,Ca.C1] at this;rw[this];unfold Ca.rv;rw[QI (aE _),QI (aE _),bP,bP]
theorem C2(hg:∀ j,d<j->g j=0):∀ n,cp g n (n*d)=g d^n
 | 0=>by rw[hX,aT];rfl
 | n+1=>by
  rw[bh];show cv (cp g n) g (n*d+d)=_;rw[CY (fun j hj=>AX (m:=d+1) (fun k hk=>hg k (by lia)) n j (by show n*d+1<=j;lia)) hg,C2 hg n,aJ]
theorem Of.deg_eq(hB:0<B)(hU:0<U)(h:Of P B G U R C)(lp:P.length=n+1)(lg:G.length=d+1)(d1:1<=d)(tp:P.getD n 0≠0)(tg:G.getD d 0≠0):R.length=n*d+1:=by
 have up:=h.deg hB hU;rw[lp,lg] at up;have up':R.length<=n*d+1:=up;rcases ar (n*d) R.length with c|c
 ·lia
 ·exfalso;have e:=h.2 (n*d);have z:R.getD (n*d) 0=0:=by
   rw[ae,bC c];rfl
  rw[z,aN,lp] at e;have hg:∀ k,d<k->fn G k=0:=fun k hk=>uk (by lia);have p0:pc (fn P) (fn G) U n (n*d)=0:=by
   cases n with
   | zero=>rfl
   | succ n=>exact yh (m:=d+1) (fun k hk=>hg k (by lia)) (n+1) _ (by show n*d+1<=(n+1)*d;rw[bh];lia)
  have e2:pc (fn P) (fn G) U (n+1) (n*d)=fn P n*fn G d^n*U:=by
   show (pc (fn P) (fn G) U n (n*d)+fn P n*cp (fn G) n (n*d))*U=_;rw[p0,cO,C2 hg]
  rw[e2] at e;have c0:=h.1.pos;have:fn P n*fn G d^n*U*C≠0:=b8 (b8 (b8 tp (cN tg)) (ao hU)) (ao c0);exact this e.symm
end Pc
namespace Ch
open L2 Cv Hv Pc Qp
abbrev Pl:=List Int×Int
def Ec:List Pl->Rat->Rat
 | [],x=>x
 | c::cs,x=>E c.1 c.2 (Ec cs x)
def ld(c:Pl):Rat:=q c.1 c.2 (c.1.length-1)
def vi:List Pl->Rat×Rat
 | []=>(1,0)
 | c::cs=>(ld c*(vi cs).1^(c.1.length-1),E c.1 c.2 (vi cs).2)
def NT:List Pl->List Pl->Prop
 | [],ds=>ds=[]
 | c::cs,ds=>∃ d ds',ds=d::ds'/\Po.Fm d.1 d.2/\(∀ x,E d.1 d.2 x=(E c.1 c.2 ((vi cs).1*x+(vi cs).2)-(vi (c::cs)).2)*(1 / (vi (c::cs)).1))/\NT cs ds'
def Neat:List Pl->List Pl->Prop
 | [],ds=>False
 | c::cs,ds=>∃ d ds',ds=d::ds'/\Po.Fm d.1 d.2/\(∀ x,E d.1 d.2 x=E c.1 c.2 ((vi cs).1*x+(vi cs).2))/\NT cs ds'
def Ly(c:Pl):Prop:=Po.Fm c.1 c.2/\3<=c.1.length
theorem Ly.ld(h:Ly c):ld c≠0:=uS h.1 (by intro e;have:=h.2;rw[e] at this;simp at this)
theorem AE:∀{cs:List Pl},(∀ c∈cs,Ly c)->(vi cs).1≠0
 | [],_=>by show (1:Rat)≠0;decide
 | c::cs,h=>by
  intro z;rcases cq.mp z with w|w
  ·exact (h c aG).ld w
  ·exact ve (AE fun d hd=>h d (aA _ hd)) _ w
theorem NT.ec:∀{cs ds:List Pl},(∀ c∈cs,Ly c)->NT cs ds->∀ x,(vi cs).1*Ec ds x+(vi cs).2=Ec cs x
 | [],_,_,h,x=>by
  rw[show _=[] from h];show (1:Rat)*x+0=x;grind
 | c::cs,_,hl,⟨d,ds,e1,f,e,t⟩,x=>by
  subst e1;have ih:=NT.ec (fun d hd=>hl d (aA _ hd)) t x;have n:=AE hl;show (vi (c::cs)).1*E d.1 d.2 (Ec ds x)+(vi (c::cs)).2=E c.1 c.2 (Ec cs x);rw[e,ih];generalize (vi (c::cs)).1=a at *;grind
theorem Neat.ec(hl:∀ c∈cs,Ly c)(h:Neat cs ds)(x:Rat):Ec ds x=Ec cs x:=by
 match cs,h with
 | c::cs,⟨d,ds',e1,f,e,t⟩ =>
  subst e1;show E d.1 d.2 (Ec ds' x)=E c.1 c.2 (Ec cs x);rw[e,NT.ec (fun d hd=>hl d (aA _ hd)) t x]
theorem DT(f1:Po.Fm P1 B)(f2:Po.Fm G U)(l2:G.length=2)(g1:G.getD 1 0≠0)(h3:3<=P1.length)(o:Of P1 B G U S D):S.length=P1.length/\ld (S,D)=ld (P1,B)*q G U 1^(P1.length-1):=by
 obtain⟨a,b⟩:=Gh f1 f2 l2 (by intro e;rw[e] at h3;simp at h3) g1 o;refine⟨a,?_⟩;show q S D (S.length-1)=_;rw[a];exact b
theorem yR(l1:P1.length=2)(n1:P1.getD 1 0≠0)(f1:Po.Fm P1 B)(f2:Po.Fm G U)(h3:3<=G.length)(o:Of P1 B G U S D):S.length=G.length/\ld (S,D)=q P1 B 1*ld (G,U):=by
 have hB:=f1.pos;have hU:=f2.pos;have hD:=o.1.pos;have hW:=ay hB hU;have t:=o.two l1 hU;have d0':∀ k,1<=k->d0 k=0:=fun k hk=>by show (if k=0 then (1:Int) else 0)=0;rw[QJ (by lia)]
 have qk:∀ k,1<=k->q S D k=q P1 B 1*q G U k:=fun k hk=>by
  have e:=Av (f:=fun k=>P1.getD 0 0*d0 k*U+P1.getD 1 0*G.getD k 0) hD (ao hW) t k;rw[e,d0' k hk];have n1:=uh hB;have n2:=uh hU;unfold q;simp only[az,dY];have z:((0:Int):Rat)=0:=rfl;rw[z];grind
 have ql:ld (G,U)≠0:=uS (P:=G) (B:=U) f2 (by intro e;rw[e] at h3;simp at h3);have qp:q P1 B 1≠0:=by
  unfold q;have a:=uO n1;have b:=uh hB;generalize ((P1.getD 1 0:Int):Rat)=x at *;intro z;grind
 have len:S.length=G.length:=by
  have l1':S.length<=G.length:=uU o.1 hW t fun k hk=>by
   rw[d0' k (by lia)];have:G.getD k 0=0:=uk hk;rw[this];simp
  have l2:G.length-1<S.length:=by
   rcases ar (G.length-1) S.length with z|z
   ·exact z
   ·have e:=qk (G.length-1) (by lia);rw[uK z] at e;rcases cq.mp e.symm with w|w
    ·exact absurd w qp
    ·exact absurd w ql
  lia
 refine⟨len,?_⟩;show q S D (S.length-1)=_;rw[len];exact qk _ (by lia)
def Ob(m c:Nat)(w:Rat×Rat):Prop:=∃ ta tb u:Int,0<u/\w.1=(ta:Rat) / (u:Rat)/\w.2=(tb:Rat) / (u:Rat)/\Lt2 m ta/\Lt2 m tb/\Lt2 c u
theorem Ob.x:Ob 1 1 (1,0):=⟨1,0,1,by decide,by show (1:Rat)=1 / 1;grind,by show (0:Rat)=0 / 1;grind,by unfold Lt2;decide,by unfold Lt2;decide,by unfold Lt2;decide⟩
theorem Ob.mono(h:Ob m c w)(l:m<=m')(l':c<=c'):Ob m' c' w:=by
 obtain⟨ta,tb,u,u0,e1,e2,l1,l2,l3⟩:=h;exact⟨ta,tb,u,u0,e1,e2,l1.mono l,l2.mono l,l3.mono l'⟩
theorem OE{P:List Int}{B t u:Int}(hB:0<B)(hu:0<u):E P B ((t:Rat) / (u:Rat))=((hv (fn P) t u P.length:Int):Rat) / ((B*u^P.length:Int):Rat):=by
 rw[z8 (fn P) t hu P.length,az,cH];unfold E;have n1:=uh hB;have n2:=ve (uh hu) P.length;generalize (u:Rat)^P.length=U at *;grind
theorem IH(p t u B:Rat)(n:Nat)(nu:u≠0)(nB:B≠0):p / B*(t / u)^n=p*t^n*u / (B*u^(n+1)):=by
 have e:=xk t nu n;have n1:=ve nu n;rw[bc];generalize (t / u)^n=x at *;generalize u^n=y at *;generalize t^n=z at *;grind
theorem Ob.cons{x:Pl}{cs:List Pl}{n b m c:Nat}(z:Pz n b x.1 x.2)(h:Ob m c (vi cs))(cm:c<=m)(lx:1<=x.1.length):Ob (n+(m+1)*x.1.length+2) (b+(c*x.1.length+1)) (vi (x::cs)):=by
 obtain⟨ta,tb,u,u0,e1,e2,l1,l2,l3⟩:=h;obtain⟨d,hd⟩:∃ d,x.1.length=d+1:=⟨x.1.length-1,by lia⟩;have B0:=z.fm.pos;refine⟨x.1.getD d 0*ta^d*u,hv (fn x.1) tb u x.1.length,x.2*u^x.1.length,ay B0 (bX u0),?_,?_,?_,?_,?_⟩
 ·show q x.1 x.2 (x.1.length-1)*(vi cs).1^(x.1.length-1)=_;rw[e1,hd,bJ];unfold q;rw[IH _ _ _ _ _ (uh u0) (uh B0),az,az,az,cH,cH]
 ·show E x.1 x.2 (vi cs).2=_;rw[e2,OE B0 u0]
 ·refine (((z.tops d).mul (uz l1 d)).mul l3).mono ?_;rw[hd];have:(m+1)*(d+1)=m*d+m+d+1:=by grind
  lia
 ·exact (JB z.tops l2 (l3.mono cm) x.1.length).mono (by lia)
 ·exact z.bot.mul (uz l3 _)
theorem Ob.pz(h:Ob m c w)(f:Po.Fm G U)(l:G.length<=2)(q1:q G U 1=w.1)(q0:q G U 0=w.2):Pz m c G U:=by
 obtain⟨ta,tb,u,u0,e1,e2,l1,l2,l3⟩:=h;have U0:=f.pos;refine Pz.of (f:=fun k=>[tb,ta].getD k 0) f u0 (fun k=>?_) (fun k=>?_) l3
 ·match k with
  | 0=>exact (uD (ao U0) (ao u0)).mp (q0.trans e2)
  | 1=>exact (uD (ao U0) (ao u0)).mp (q1.trans e1)
  | k+2 =>
   rw[wU,show G.getD (k+2) 0=0 from uk (by lia)];simp
 ·match k with
  | 0=>exact l2
  | 1=>exact l1
  | k+2=>show Lt2 _ ([tb,ta].getD (k+2) 0);rw[wU];exact bg (by decide)
theorem IJ(z:Pz n b S D)(f:Po.Fm G U)(l:G.length<=2)(q1:q G U 1=q S D d)(q0:q G U 0=q S D 0):Pz n b G U :=
 Ob.pz (w:=(q S D d,q S D 0)) ⟨S.getD d 0,S.getD 0 0,D,z.fm.pos,rfl,rfl,z.tops _,z.tops _,z.bot⟩ f l q1 q0
theorem Il(z:Pz n b S D)(h3:3<=S.length)(fT:Po.Fm T A)(lT:T.length=2)(q1:q T A 1=1 / q S D (S.length-1))(q0:q T A 0=(0-q S D 0) / q S D (S.length-1))(o:Of T A S D R C):Pz n n R C:=by
 have D0:=z.fm.pos;have A0:=fT.pos;have hW:=ay A0 D0;have t:=o.two lT D0;have lne:S.getD (S.length-1) 0≠0:=by
  rcases z.fm.last with e|e
  ·rw[e] at h3;simp at h3
  ·exact e
 obtain⟨p,hp⟩:∃ p,p=S.getD (S.length-1) 0:=⟨_,rfl⟩;rw[← hp] at lne;have key:∀ k,R.getD k 0*p=(if k=0 then 0 else S.getD k 0)*C:=fun k=>by
  have e:=Av (f:=fun k=>T.getD 0 0*d0 k*D+T.getD 1 0*S.getD k 0) o.1.pos (ao hW) t k;have e2:q R C k=q T A 0*((d0 k:Int):Rat)+q T A 1*q S D k:=by
   rw[e];have n1:=uh A0;have n2:=uh D0;unfold q;simp only[az,dY];generalize ((T.getD 0 0:Int):Rat)=y0;generalize ((T.getD 1 0:Int):Rat)=y1;generalize ((S.getD k 0:Int):Rat)=y2;generalize ((d0 k:Int):Rat)=y3;grind
  have e3:q R C k=(((if k=0 then 0 else S.getD k 0):Int):Rat) / ((p:Int):Rat):=by
   rw[e2,q1,q0];unfold q;rw[← hp];have n2:=uh D0;have n3:=uO lne;by_cases c:k=0
   ·subst c;rw[QI rfl];show _*((1:Int):Rat)+_=((0:Int):Rat) / _;have i1:((1:Int):Rat)=1:=rfl;have i0:((0:Int):Rat)=0:=rfl;rw[i1,i0];generalize ((S.getD 0 0:Int):Rat)=y;grind
   ·rw[QJ c];have dz:d0 k=0:=by show (if k=0 then (1:Int) else 0)=0;rw[QJ c]
    rw[dz];have i0:((0:Int):Rat)=0:=rfl;rw[i0];generalize ((S.getD k 0:Int):Rat)=y;grind
  exact (uD (ao o.1.pos) lne).mp e3
 have sz:∀ k,Lt2 n (if k=0 then 0 else S.getD k 0):=fun k=>by
  split
  ·exact bg (by decide)
  ·exact z.tops _
 rcases dG lne with s|s
 ·refine Pz.of (f:=fun k => -(if k=0 then 0 else S.getD k 0)) (c:=-p) o.1 (by lia) (fun k=>?_) (fun k=>?_) ?_
  ·have:=key k;grind
  ·have:=sz k;unfold Lt2 at this ⊢;rw[dj];exact this
  ·have:=z.tops (S.length-1);rw[← hp] at this;unfold Lt2 at this ⊢;rw[dj];exact this
 ·exact Pz.of (f:=fun k=>if k=0 then 0 else S.getD k 0) (c:=p) o.1 s key sz (hp ▸ z.tops _)
end Ch
namespace Dp
open PySem L2
abbrev St:=L2.St
def Fl(H:Hp)(f:Addr):Prop:=∃(l:Addr) (ns:List Int) (i c a b:Int),H f=some (.lst [.ref l,.int i,.int c,.int a,.int b])/\H l=some (.lst (ns.map V.int))/\ns.length<=63/\0<=i/\i<=(ns.length:Int)/\0<=c/\0<=a/\a<2147483647
theorem Fl.same(F:Fl H f)(e:Same H H'):Fl H' f:=by
 obtain⟨l,ns,i,c,a,b,h1,h2,h⟩:=F;exact⟨l,ns,i,c,a,b,e _ _ h1,e _ _ h2,h⟩
theorem Fl.lst(F:Fl H f):∃ xs,H f=some (.lst xs):=by
 obtain⟨l,ns,i,c,a,b,h1,_⟩:=F;exact⟨_,h1⟩
inductive D where
 | non|bl (b:Bool)|int (i:Int)|str (x:Str)|tup (l:List D)|lst (l:List D)|fl
  | exn (C:Addr) (x:Str) (l:List D)
  | dct (ks:List zl) (l:List D)
def XO(H:Hp)(a C:Addr)(x:Str)(us:List V):Prop:=(us=[]/\∃ u,H a=some (NA a C none u))\/∃ dx u y,us=[y]/\H a=some (NA a C (some dx) u)/\H dx=some (.xd [(x,y)])
mutual
def Rp(K:Frag)(f:Addr)(O:List Addr)(H:Hp):D->V->Prop
 | .non,v=>v = .non
 | .bl b,v=>v = .bl b
 | .int i,v=>v = .int i
 | .str x,v=>v = .str x
 | .tup l,v=>∃ a xs,v = .ref a/\SqT K H a xs/\Rps K f O H l xs
 | .lst l,v=>∃ a xs,v = .ref a/\a ∉ O/\H a=some (.lst xs)/\Rps K f O H l xs
 | .fl,v=>v = .ref f
 | .exn C x l,v=>∃ a us,v = .ref a/\XO H a C x us/\Rps K f O H l us
 | .dct ks l,v=>∃ a us,v = .ref a/\H a=some (.dK (ks.zip us))/\ks.length=us.length/\Rps K f O H l us
def Rps(K:Frag)(f:Addr)(O:List Addr)(H:Hp):List D->List V->Prop
 | [],vs=>vs=[]
 | d::ds,vs=>∃ v r,vs=v::r/\Rp K f O H d v/\Rps K f O H ds r
end
structure Ex (f:Addr)(H H':Hp):Prop where
 sm:Sm f H H'
 fl:Fl H' f
theorem Ex.refl(h:Fl H f):Ex f H H:=⟨Sm.refl H,h⟩
theorem Ex.trans(a:Ex f H H1)(b:Ex f H1 H2):Ex f H H2:=⟨a.sm.trans b.sm,b.fl⟩
theorem Ex.new(F:Fl H f)(h:H p=none)(o:HO):Ex f H (uH H p o):=⟨Sm.new h o,F.same (Same.new h o)⟩
variable{K:Frag}{f:Addr}{O O':List Addr}{H H':Hp}
def Kp(O:List Addr)(H H':Hp):Prop:=∀ b o,b ∉ O->H b=some o->H' b=some o
theorem Ex.kp(e:Ex f H H')(h:f∈O):Kp O H H':=fun b o n q=>e.sm.app b o (fun z=>n (z ▸ h)) q
theorem _root_.L2.SqT.kp(e:Kp O H H')(hO:∀ b∈O,∃ xs,H b=some (.lst xs))(h:SqT K H a xs):SqT K H' a xs:=by
 rcases h with (h|⟨o,h⟩)|h
 ·refine .inl (.inl (e a _ (fun z=>?_) h));obtain⟨xs,q⟩:=hO a z;rw[q] at h;cases h
 ·refine .inl (.inr ⟨o,e a _ (fun z=>?_) h⟩);obtain⟨xs,q⟩:=hO a z;rw[q] at h;cases h
 ·exact .inr h
theorem XO.kp(e:Kp O H H')(hO:∀ b∈O,∃ xs,H b=some (.lst xs))(h:XO H a C x us):XO H' a C x us:=by
 rcases h with⟨e1,u,h⟩|⟨dx,u,y,e1,h,hd⟩
 ·refine .inl ⟨e1,u,e a _ (fun z=>?_) h⟩;obtain⟨xs,q⟩:=hO a z;rw[q] at h;unfold NA at h;cases h
 ·refine .inr ⟨dx,u,y,e1,e a _ (fun z=>?_) h,e dx _ (fun z=>?_) hd⟩
  ·obtain⟨xs,q⟩:=hO a z;rw[q] at h;unfold NA at h;cases h
  ·obtain⟨xs,q⟩:=hO dx z;rw[q] at hd;cases hd
mutual
theorem Rp.kp(e:Kp O H H')(hO:∀ b∈O,∃ xs,H b=some (.lst xs)):∀{d:D} {v:V},Rp K f O H d v->Rp K f O H' d v
 | .non,_,h=>h
 | .bl _,_,h=>h
 | .int _,_,h=>h
 | .str _,_,h=>h
 | .fl,_,h=>h
 | .tup l,v,h=>by
  obtain⟨a,xs,e1,h1,h2⟩:=h;exact⟨a,xs,e1,h1.kp e hO,Rps.kp e hO h2⟩
 | .lst l,v,h=>by
  obtain⟨a,xs,e1,n,h1,h2⟩:=h;exact⟨a,xs,e1,n,e a _ n h1,Rps.kp e hO h2⟩
 | .exn C x l,v,h=>by
  obtain⟨a,us,e1,h1,h2⟩:=h;exact⟨a,us,e1,h1.kp e hO,Rps.kp e hO h2⟩
 | .dct ks l,v,h=>by
  obtain⟨a,us,e1,h1,h2,h3⟩:=h;exact⟨a,us,e1,e a _ (fun z=>by obtain⟨xs,q⟩:=hO a z;rw[q] at h1;cases h1) h1,h2,Rps.kp e hO h3⟩
theorem Rps.kp(e:Kp O H H')(hO:∀ b∈O,∃ xs,H b=some (.lst xs)):∀{ds:List D} {vs:List V},Rps K f O H ds vs->Rps K f O H' ds vs
 | [],_,h=>h
 | d::ds,_,h=>by
  obtain⟨v,r,e1,h1,h2⟩:=h;exact⟨v,r,e1,Rp.kp e hO h1,Rps.kp e hO h2⟩
end
mutual
theorem Rp.less(e:∀ a∈O',a∈O):∀{d:D} {v:V},Rp K f O H d v->Rp K f O' H d v
 | .non,_,h=>h
 | .bl _,_,h=>h
 | .int _,_,h=>h
 | .str _,_,h=>h
 | .fl,_,h=>h
 | .tup l,v,h=>by
  obtain⟨a,xs,e1,h1,h2⟩:=h;exact⟨a,xs,e1,h1,Rps.less e h2⟩
 | .lst l,v,h=>by
  obtain⟨a,xs,e1,n,h1,h2⟩:=h;exact⟨a,xs,e1,fun z=>n (e a z),h1,Rps.less e h2⟩
 | .exn C x l,v,h=>by
  obtain⟨a,us,e1,h1,h2⟩:=h;exact⟨a,us,e1,h1,Rps.less e h2⟩
 | .dct ks l,v,h=>by
  obtain⟨a,us,e1,h1,h2,h3⟩:=h;exact⟨a,us,e1,h1,h2,Rps.less e h3⟩
theorem Rps.less(e:∀ a∈O',a∈O):∀{ds:List D} {vs:List V},Rps K f O H ds vs->Rps K f O' H ds vs
 | [],_,h=>h
 | d::ds,_,h=>by
  obtain⟨v,r,e1,h1,h2⟩:=h;exact⟨v,r,e1,Rp.less e h1,Rps.less e h2⟩
end
theorem Rps.len:∀{ds:List D} {vs:List V},Rps K f O H ds vs->vs.length=ds.length
 | [],_,h=>by rw[show _=[] from h];rfl
 | d::ds,_,h=>by
  obtain⟨v,r,e1,h1,h2⟩:=h;rw[e1,bo,bo,Rps.len h2]
theorem Rps.get:∀{ds:List D} {vs:List V} {i:Nat} {d:D},Rps K f O H ds vs->ds[i]? = some d->∃ v,vs[i]? = some v/\Rp K f O H d v
 | [],_,_,_,_,e=>by simp at e
 | d0::ds,_,i,d,h,e=>by
  obtain⟨v,r,e1,h1,h2⟩:=h;subst e1;cases i with
  | zero =>
   simp at e;subst e;exact⟨v,rfl,h1⟩
  | succ i =>
   obtain⟨w,hw,h⟩:=Rps.get h2 (i:=i) (d:=d) (by simpa using e);exact⟨w,by simpa using hw,h⟩
theorem Rps.append:∀{ds es:List D} {vs ws:List V},Rps K f O H ds vs->Rps K f O H es ws->Rps K f O H (ds++es) (vs++ws)
 | [],_,_,_,h,t=>by rw[show _=[] from h];exact t
 | d::ds,_,_,_,h,t=>by
  obtain⟨v,r,e1,h1,h2⟩:=h;subst e1;exact⟨v,_,rfl,h1,Rps.append h2 t⟩
theorem Rps.take:∀{ds:List D} {vs:List V} (n:Nat),Rps K f O H ds vs->Rps K f O H (ds.take n) (vs.take n)
 | _,_,0,_=>by rw[ft,ft];rfl
 | [],_,n+1,h=>by rw[show _=[] from h];rfl
 | d::ds,_,n+1,h=>by
  obtain⟨v,r,e1,h1,h2⟩:=h;subst e1;exact⟨v,_,rfl,h1,Rps.take n h2⟩
theorem Rps.drop:∀{ds:List D} {vs:List V} (n:Nat),Rps K f O H ds vs->Rps K f O H (ds.drop n) (vs.drop n)
 | _,_,0,h=>h
 | [],_,n+1,h=>by rw[show _=[] from h];rfl
 | d::ds,_,n+1,h=>by
  obtain⟨v,r,e1,h1,h2⟩:=h;subst e1;exact Rps.drop n h2
theorem Rps.set(q:Rp K f O H d v):∀{ds:List D} {vs:List V} (n:Nat),Rps K f O H ds vs->Rps K f O H (ds.set n d) (vs.set n v)
 | [],_,n,h=>by rw[show _=[] from h];rfl
 | d0::ds,_,0,h=>by
  obtain⟨w,r,e1,h1,h2⟩:=h;subst e1;exact⟨v,_,rfl,q,h2⟩
 | d0::ds,_,n+1,h=>by
  obtain⟨w,r,e1,h1,h2⟩:=h;subst e1;exact⟨w,_,rfl,h1,Rps.set q n h2⟩
theorem Rps.reverse:∀{ds:List D} {vs:List V},Rps K f O H ds vs->Rps K f O H ds.reverse vs.reverse
 | [],_,h=>by rw[show _=[] from h];rfl
 | d::ds,_,h=>by
  obtain⟨v,r,e1,h1,h2⟩:=h;subst e1;rw[dJ,dJ];exact Rps.append (Rps.reverse h2) ⟨v,[],rfl,h1,rfl⟩
theorem Rps.flat(h:Rps K f O H ds vs):∀ n,Rps K f O H (Pu n ds).flatten (Pu n vs).flatten
 | 0=>rfl
 | n+1=>by
  rw[bM,bM,cK,cK];exact Rps.append h (Rps.flat h n)
theorem Rps.bls:∀{bs:List Bool} {vs:List V},Rps K f O H (bs.map D.bl) vs->vs=bs.map V.bl
 | [],_,h=>h
 | b::bs,_,h=>by
  obtain⟨v,r,e1,h1,h2⟩:=h;rw[e1,show v=_ from h1,Rps.bls h2];rfl
theorem Rps.ints:∀{bs:List Int} {vs:List V},Rps K f O H (bs.map D.int) vs->vs=bs.map V.int
 | [],_,h=>h
 | b::bs,_,h=>by
  obtain⟨v,r,e1,h1,h2⟩:=h;rw[e1,show v=_ from h1,Rps.ints h2];rfl
inductive SD where
 | no|val (d:D)|own (l:List D)
abbrev SS:=List SD
structure SlD (K:Frag)(f:Addr)(O:List Addr)(σ:St)(H:Hp)(ss:SS):Prop where
 fl:Fl H f
 fO:f∈O
 al:∀ a∈O,∃ xs,H a=some (.lst xs)
 lO:∀ l r,H f=some (.lst (.ref l::r))->l ∉ O
 len:ss.length=σ.length
 val:∀(i:Nat) (d:D),ss[i]? = some (SD.val d)->∃ v,σ[i]? = some (some v)/\Rp K f O H d v
 own:∀(i:Nat) (l:List D),ss[i]? = some (SD.own l)->∃ a xs,σ[i]? = some (some (V.ref a))/\a∈O/\a≠f/\H a=some (.lst xs)/\Rps K f O H l xs
variable{σ:St}{ss:SS}
theorem SlD.ex(R:SlD K f O σ H ss)(e:Ex f H H'):SlD K f O σ H' ss where
 fl:=e.fl
 fO:=R.fO
 al:=fun a h=>by
  by_cases z:a=f
  ·subst z;exact e.fl.lst
  ·obtain⟨xs,q⟩:=R.al a h;exact⟨xs,e.sm.app a _ z q⟩
 lO:=fun l r h=>by
  obtain⟨l0,ns,i,c,a,b,h1,_⟩:=R.fl;obtain⟨r',h2⟩:=e.sm.key _ _ h1;rw[h2] at h;cases h;exact R.lO _ _ h1
 len:=R.len
 val:=fun i d h=>by
  obtain⟨v,h1,h2⟩:=R.val i d h;exact⟨v,h1,h2.kp (e.kp R.fO) R.al⟩
 own:=fun i l h=>by
  obtain⟨a,xs,h1,h2,h3,h4,h5⟩:=R.own i l h;exact⟨a,xs,h1,h2,h3,e.sm.app a _ h3 h4,h5.kp (e.kp R.fO) R.al⟩
theorem SlD.up(R:SlD K f O σ H ss)(e:Ex f H H')(h:Rp K f O H d v):Rp K f O H' d v:=h.kp (e.kp R.fO) R.al
theorem SlD.ups(R:SlD K f O σ H ss)(e:Ex f H H')(h:Rps K f O H d v):Rps K f O H' d v:=h.kp (e.kp R.fO) R.al
theorem SlD.new(R:SlD K f O σ H ss)(h:H p=none)(o:HO):Ex f H (uH H p o):=Ex.new R.fl h o
theorem SlD.nO(R:SlD K f O σ H ss)(h:H p=none):p ∉ O:=fun z=>by
 obtain⟨xs,q⟩:=R.al p z;rw[h] at q;cases q
theorem SlD.lst(R:SlD K f O σ H ss)(h:H p=none)(q:Rps K f O H ds xs):Rp K f O (uH H p (.lst xs)) (.lst ds) (.ref p) :=
 ⟨p,xs,rfl,R.nO h,ur,R.ups (R.new h _) q⟩
theorem SlD.tup(R:SlD K f O σ H ss)(h:H p=none)(q:Rps K f O H ds xs):Rp K f O (uH H p (.tup xs)) (.tup ds) (.ref p) :=
 ⟨p,xs,rfl,SqT.of ur,R.ups (R.new h _) q⟩
structure TEd where
 run:SS->(D->Prop)->Prop
 mono:∀{ss Q Q'},(∀ d,Q d->Q' d)->run ss Q->run ss Q'
structure TTd where
 run:SS->(Bool->Prop)->Prop
 mono:∀{ss Q Q'},(∀ d,Q d->Q' d)->run ss Q->run ss Q'
structure TAd where
 run:SS->(List D->Prop)->Prop
 mono:∀{ss Q Q'},(∀ d,Q d->Q' d)->run ss Q->run ss Q'
structure TOd where
 run:SS->(Option Int->Prop)->Prop
 mono:∀{ss Q Q'},(∀ d,Q d->Q' d)->run ss Q->run ss Q'
structure TGd where
 tg:List Nat
 run:D->SS->(SS->Prop)->Prop
 mono:∀{d ss Q Q'},(∀ d,Q d->Q' d)->run d ss Q->run d ss Q'
def LE(K:Frag)(t:TEd):TE:=fun σ H Q=>∃ f O ss,SlD K f O σ H ss/\t.run ss fun d=>∀ v H',Ex f H H'->Rp K f O H' d v->Q v H'
def LT(K:Frag)(t:TTd):TT:=fun σ H Q=>∃ f O ss,SlD K f O σ H ss/\t.run ss fun d=>∀ H',Ex f H H'->Q d H'
def LA(K:Frag)(t:TAd):TA:=fun σ H Q=>∃ f O ss,SlD K f O σ H ss/\t.run ss fun ds=>∀ vs H',Ex f H H'->Rps K f O H' ds vs->Q vs H'
def LO(K:Frag)(t:TOd):TO:=fun σ H Q=>∃ f O ss,SlD K f O σ H ss/\t.run ss fun d=>∀ H',Ex f H H'->Q d H'
abbrev OW:=List D->(D->Prop)->Prop
def Bf(K:Frag)(n:Nat)(sp:OW):Sp:=fun vs H Q _=>vs.length=n/\∃ f O ds,Fl H f/\f∈O/\(∀ a∈O,∃ xs,H a=some (.lst xs))/\(∀ l r,H f=some (.lst (.ref l::r))->l ∉ O)/\Rps K f O H ds vs/\sp ds fun d=>∀ v H',Ex f H H'->Rp K f O H' d v->Q v H'
variable{X:Cx}
theorem _root_.L2.PE.weak(h:PE X e t)(w:∀ σ H Q,t' σ H Q->t σ H Q):PE X e t':=fun pins s σ H Q I q=>h pins s σ H Q I (w σ H Q q)
theorem _root_.L2.PT.weak(h:PT X e t)(w:∀ σ H Q,t' σ H Q->t σ H Q):PT X e t':=fun pins s σ H Q I q=>h pins s σ H Q I (w σ H Q q)
theorem _root_.L2.PA.weak(h:PA X e t)(w:∀ σ H Q,t' σ H Q->t σ H Q):PA X e t':=fun pos pins s σ H Q I q=>h pos pins s σ H Q I (w σ H Q q)
theorem _root_.L2.PO.weak(h:PO X e t)(w:∀ σ H Q,t' σ H Q->t σ H Q):PO X e t':=fun pins s σ H Q I q=>h pins s σ H Q I (w σ H Q q)
def iS(i:Nat):TEd:=⟨fun ss Q=>match ss[i]? with|some (SD.val d)=>Q d|_=>False,fun {ss Q Q'} h q=>by
 revert q;split
 ·exact h _
 ·exact id⟩
theorem iS.ok(h:PE X e (wV i)):PE X e (LE X.K (iS i)):=h.weak fun σ H Q ⟨f,O,ss,R,q⟩=>by
 have q:(match ss[i]? with|some (SD.val d)=>(∀ v H',Ex f H H'->Rp X.K f O H' d v->Q v H')|_=>False):=q;revert q;split
 ·rename_i d e;intro q;obtain⟨v,h1,h2⟩:=R.val i d e;exact⟨v,h1,q v H (Ex.refl R.fl) h2⟩
 ·exact PD
def dC(d:D):TEd:=⟨fun _ Q=>Q d,fun h q=>h _ q⟩
theorem dC.ok(h:PE X e (tC v))(r:∀ f O H,Rp X.K f O H d v):PE X e (LE X.K (dC d)):=h.weak fun σ H Q ⟨f,O,ss,R,q⟩=>q v H (Ex.refl R.fl) (r f O H)
abbrev OD:=D->D->(D->Prop)->Prop
def d2(o:OD)(m:∀{x y Q Q'},(∀ d,Q d->Q' d)->o x y Q->o x y Q')(a b:TEd):TEd:=⟨fun ss Q=>a.run ss fun x=>b.run ss fun y=>o x y Q,fun h q=>a.mono (fun x q=>b.mono (fun y q=>m h q) q) q⟩
def RD(K:Frag)(r:R2)(o:OD):Prop:=∀(f:Addr) (O:List Addr) (σ:St) (ss:SS) (H:Hp) (dx dy:D) (x y:V) (Q:VK),SlD K f O σ H ss->Rp K f O H dx x->Rp K f O H dy y->o dx dy (fun d=>∀ v H',Ex f H H'->Rp K f O H' d v->Q v H')->r x y H Q
theorem d2.ok(hr:RD X.K r o)(h:PE X e (L6 r (LE X.K a) (LE X.K b))):PE X e (LE X.K (d2 o m a b)):=h.weak fun σ H Q ⟨f,O,ss,R,q⟩=>by
 refine⟨f,O,ss,R,a.mono (fun dx q v1 H1 e1 r1=>?_) q⟩;refine⟨f,O,ss,R.ex e1,b.mono (fun dy q v2 H2 e2 r2=>?_) q⟩;exact hr f O σ ss H2 dx dy v1 v2 Q ((R.ex e1).ex e2) ((R.ex e1).up e2 r1) r2 (m (fun d q v H' e3 r3=>q v H' (e1.trans (e2.trans e3)) r3) q)
end Dp
namespace Dp
open PySem L2
variable{K:Frag}{f:Addr}{O O':List Addr}{H H':Hp}{X:Cx}{σ:St}{ss:SS}
mutual
def D.pl:D->Bool
 | .int _=>true | .str _=>true | .non=>true | .bl _=>false | .fl=>false | .exn _ _ _=>false | .dct _ _=>false
 | .tup ds=>D.pls ds
 | .lst ds=>D.pls ds
def D.pls:List D->Bool
 | []=>true
 | d::ds=>D.pl d && D.pls ds
end
mutual
def D.dp:D->Nat
 | .tup ds=>D.dps ds+1
 | .lst ds=>D.dps ds+1
 | .int _=>0 | .str _=>0 | .non=>0 | .bl _=>0 | .fl=>0 | .exn _ _ _=>0 | .dct _ _=>0
def D.dps:List D->Nat
 | []=>0
 | d::ds=>max (D.dp d) (D.dps ds)
end
mutual
def D.dv:D->DV
 | .int i=>.int i | .str x=>.str x | .non=>.non | .bl b=>.bl b | .fl=>.non | .exn _ _ _=>.non | .dct _ _=>.non
 | .tup ds=>.tup (D.dvs ds)
 | .lst ds=>.lst (D.dvs ds)
def D.dvs:List D->List DV
 | []=>[]
 | d::ds=>D.dv d::D.dvs ds
end
mutual
theorem D.dv_pl:∀{d:D},d.pl=true->d.dv.pl=true
 | .int _,_=>rfl
 | .str _,_=>rfl
 | .non,_=>rfl
 | .bl _,h=>h
 | .fl,h=>by cases h
 | .exn ..,h=>by cases h
 | .dct _ _,h=>by cases h
 | .tup ds,h=>D.dvs_pl (ds:=ds) h
 | .lst ds,h=>D.dvs_pl (ds:=ds) h
theorem D.dvs_pl:∀{ds:List D},D.pls ds=true->DV.pls (D.dvs ds)=true
 | [],_=>rfl
 | d::ds,h=>by
  have h:=ax.mp (show (d.pl && D.pls ds)=true from h);exact ax.mpr ⟨D.dv_pl h.1,D.dvs_pl h.2⟩
end
mutual
theorem D.dv_dp:∀{d:D},d.dv.dp=d.dp
 | .int _=>rfl
 | .str _=>rfl
 | .non=>rfl
 | .bl _=>rfl
 | .fl=>rfl
 | .exn _ _ _=>rfl
 | .dct _ _=>rfl
 | .tup ds=>congrArg (· + 1) (D.dvs_dp (ds:=ds))
 | .lst ds=>congrArg (· + 1) (D.dvs_dp (ds:=ds))
theorem D.dvs_dp:∀{ds:List D},DV.dps (D.dvs ds)=D.dps ds
 | []=>rfl
 | d::ds=>by
  show max (DV.dp d.dv) (DV.dps (D.dvs ds))=max d.dp (D.dps ds);rw[D.dv_dp,D.dvs_dp]
end
mutual
theorem D.dv_inj:∀{d e:D},d.pl=true->e.pl=true->d.dv=e.dv->d=e
 | .int _,e,_,h,q=>by cases e <;> first|(cases q;rfl)|(cases q;done)|cases h
 | .str _,e,_,h,q=>by cases e <;> first|(cases q;rfl)|(cases q;done)|cases h
 | .non,e,_,h,q=>by cases e <;> first|rfl|(cases q;done)|cases h
 | .bl _,_,h,_,_=>by cases h
 | .fl,_,h,_,_=>by cases h
 | .exn ..,_,h,_,_=>by cases h
 | .dct _ _,_,h,_,_=>by cases h
 | .tup ds,e,h1,h2,q=>by
  cases e with
  | tup es =>
   have q:DV.tup (D.dvs ds)=DV.tup (D.dvs es):=q;injection q with q;rw[D.dvs_inj h1 h2 q]
  | int=>cases q
  | str=>cases q
  | non=>cases q
  | bl=>cases h2
  | fl=>cases h2
  | exn=>cases h2
  | dct=>cases h2
  | lst=>cases q
 | .lst ds,e,h1,h2,q=>by
  cases e with
  | lst es =>
   have q:DV.lst (D.dvs ds)=DV.lst (D.dvs es):=q;injection q with q;rw[D.dvs_inj h1 h2 q]
  | int=>cases q
  | str=>cases q
  | non=>cases q
  | bl=>cases h2
  | fl=>cases h2
  | exn=>cases h2
  | dct=>cases h2
  | tup=>cases q
theorem D.dvs_inj:∀{ds es:List D},D.pls ds=true->D.pls es=true->D.dvs ds=D.dvs es->ds=es
 | [],[],_,_,_=>rfl
 | [],_::_,_,_,q=>by cases q
 | _::_,[],_,_,q=>by cases q
 | d::ds,e::es,h1,h2,q=>by
  have h1:=ax.mp (show (d.pl && D.pls ds)=true from h1);have h2:=ax.mp (show (e.pl && D.pls es)=true from h2);have q:d.dv::D.dvs ds=e.dv::D.dvs es:=q;injection q with q1 q2;rw[D.dv_inj h1.1 h2.1 q1,D.dvs_inj h1.2 h2.2 q2]
end
mutual
theorem Rp.rep:∀{d:D} {v:V},d.pl=true->Rp K f O H d v->Rep K H d.dv v
 | .int _,_,_,h=>h
 | .str _,_,_,h=>h
 | .non,_,_,h=>h
 | .bl _,_,h,_=>by cases h
 | .fl,_,h,_=>by cases h
 | .exn ..,_,h,_=>by cases h
 | .dct _ _,_,h,_=>by cases h
 | .tup ds,_,p,h=>by
  obtain⟨a,xs,e,h1,h2⟩:=h;exact⟨a,xs,e,h1,Rps.rep p h2⟩
 | .lst ds,_,p,h=>by
  obtain⟨a,xs,e,_,h1,h2⟩:=h;exact⟨a,xs,e,SqL.of h1,Rps.rep p h2⟩
theorem Rps.rep:∀{ds:List D} {vs:List V},D.pls ds=true->Rps K f O H ds vs->Reps K H (D.dvs ds) vs
 | [],_,_,h=>h
 | d::ds,_,p,h=>by
  have p:=ax.mp (show (d.pl && D.pls ds)=true from p);obtain⟨v,r,e,h1,h2⟩:=h;exact⟨v,r,e,Rp.rep p.1 h1,Rps.rep p.2 h2⟩
end
theorem D.pls_ints(ns:List Int):D.pls (ns.map D.int)=true:=by
 induction ns with
 | nil=>rfl
 | cons n ns ih=>exact ih
theorem OpR.or2(h:OpR X g r)(h':OpR X g r'):OpR X g (fun x y H Q=>r x y H Q\/r' x y H Q):=fun pins s σ H x y v u Q I rx ry q=>q.elim (h pins s σ H x y v u Q I rx ry) (h' pins s σ H x y v u Q I rx ry)
def oAdd:OD
 | .int i,.int j,Q=>Q (.int (i+j))
 | .str a,.str b,Q=>a.length+b.length<=sizeLine/\Q (.str (a++b))
 | .lst a,.lst b,Q=>a.length+b.length<=sizeLine/\Q (.lst (a++b))
 | .tup a,.tup b,Q=>a.length+b.length<=sizeLine/\Q (.tup (a++b))
 | _,_,_=>False
def oSub:OD
 | .int i,.int j,Q=>Q (.int (i-j))
 | _,_,_=>False
def oMul:OD
 | .int i,.int j,Q=>CMulB i j/\Q (.int (i*j))
 | .lst a,.int k,Q => -(2^63)<=k/\k<2^63/\a.length*k.toNat<=sizeLine/\Q (.lst (List.replicate k.toNat a).flatten)
 | .tup a,.int k,Q=>a≠[]/\1<=k/\a.length*k.toNat<=100000/\Q (.tup (List.replicate k.toNat a).flatten)
 | _,_,_=>False
def oDiv:OD
 | .int i,.int j,Q=>v9 i j/\Q (.int (i.fdiv j))
 | _,_,_=>False
def oMod:OD
 | .int i,.int j,Q=>j≠0/\Q (.int (i.fmod j))
 | _,_,_=>False
def oPow:OD
 | .int i,.int j,Q=>Hs i j/\Q (.int (i^j.toNat))
 | _,_,_=>False
def oShl:OD
 | .int i,.int j,Q=>Hs i j/\Q (.int (i*2^j.toNat))
 | _,_,_=>False
def Cy:OD:=fun _ _ _=>False
def oBin:Operator->OD
 | .Add=>oAdd | .Sub=>oSub | .Mult=>oMul | .FloorDiv=>oDiv | .Mod=>oMod | .Pow=>oPow | .LShift=>oShl|_=>Cy
def oLt:OD
 | .int i,.int j,Q=>Q (.bl (decide (i<j)))
 | _,_,_=>False
def oLe:OD
 | .int i,.int j,Q=>Q (.bl (decide (i<=j)))
 | _,_,_=>False
def oGt:OD
 | .int i,.int j,Q=>Q (.bl (decide (j<i)))
 | _,_,_=>False
def oGe:OD
 | .int i,.int j,Q=>Q (.bl (decide (j<=i)))
 | _,_,_=>False
def oEq(neg:Bool):OD
 | .int i,.int j,Q=>Q (.bl (if neg then !decide (i=j) else decide (i=j)))
 | .bl i,.bl j,Q=>Q (.bl (if neg then !decide (i=j) else decide (i=j)))
 | .str i,.str j,Q=>Q (.bl (if neg then !decide (i=j) else decide (i=j)))
 | .tup a,.tup b,Q=>D.pls a=true/\D.pls b=true/\D.dps a<=60/\∀ k,(k=true↔a=b)->Q (.bl (if neg then !k else k))
 | .lst a,.lst b,Q=>neg=neg/\D.pls a=true/\D.pls b=true/\D.dps a<=60/\∀ k,(k=true↔a=b)->Q (.bl (if neg then !k else k))
 | _,_,_=>False
def oIs(neg:Bool):OD:=fun x y Q=>match y with
 | .non=>Q (.bl (match x with | .non => !neg|_=>neg))
 | _=>False
def oIn(neg:Bool):OD:=fun x y Q=>(∃(i:Int) (ns:List Int),x = .int i/\(y = .lst (ns.map .int)\/y = .tup (ns.map .int))/\Q (.bl (if neg then !decide (i∈ns) else decide (i∈ns))))\/(∃(i:Str) (ns:List Str),x = .str i/\(y = .lst (ns.map .str)\/y = .tup (ns.map .str))/\Q (.bl (if neg then !decide (i∈ns) else decide (i∈ns))))\/(∃ l,y = .lst l/\x.pl=true/\D.pls l=true/\D.dps l<=60/\∀ k:Bool,(k=true↔x∈l)->Q (.bl (if neg then !k else k)))
theorem oIn.mono:∀{x y Q Q'},(∀ d,Q d->Q' d)->oIn neg x y Q->oIn neg x y Q':=fun h q=>q.imp (fun⟨i,ns,e1,e2,q⟩=>⟨i,ns,e1,e2,h _ q⟩) (Or.imp (fun⟨i,ns,e1,e2,q⟩=>⟨i,ns,e1,e2,h _ q⟩) fun⟨l,e,a,b,c,q⟩=>⟨l,e,a,b,c,fun k hk=>h _ (q k hk)⟩)
def oCmp:CmpOp->OD
 | .Eq=>oEq false | .NotEq=>oEq true | .Lt=>oLt | .LtE=>oLe | .Gt=>oGt | .GtE=>oGe | .Is=>oIs false | .IsNot=>oIs true | .In=>oIn false | .NotIn=>oIn true
theorem oAdd.mono:∀{x y Q Q'},(∀ d,Q d->Q' d)->oAdd x y Q->oAdd x y Q':=by intro x y Q Q' h;cases x <;> cases y <;> intro q <;> first|exact h _ q|exact q|exact⟨q.1,h _ q.2⟩|exact⟨q.1,q.2.1,q.2.2.1,h _ q.2.2.2⟩|exact⟨q.1,q.2.1,q.2.2.1,fun k e=>h _ (q.2.2.2 k e)⟩|exact⟨q.1,q.2.1,q.2.2.1,q.2.2.2.1,fun k e=>h _ (q.2.2.2.2 k e)⟩
theorem oSub.mono:∀{x y Q Q'},(∀ d,Q d->Q' d)->oSub x y Q->oSub x y Q':=by intro x y Q Q' h;cases x <;> cases y <;> intro q <;> first|exact h _ q|exact q|exact⟨q.1,h _ q.2⟩|exact⟨q.1,q.2.1,q.2.2.1,h _ q.2.2.2⟩|exact⟨q.1,q.2.1,q.2.2.1,fun k e=>h _ (q.2.2.2 k e)⟩|exact⟨q.1,q.2.1,q.2.2.1,q.2.2.2.1,fun k e=>h _ (q.2.2.2.2 k e)⟩
theorem oMul.mono:∀{x y Q Q'},(∀ d,Q d->Q' d)->oMul x y Q->oMul x y Q':=by intro x y Q Q' h;cases x <;> cases y <;> intro q <;> first|exact h _ q|exact q|exact⟨q.1,h _ q.2⟩|exact⟨q.1,q.2.1,q.2.2.1,h _ q.2.2.2⟩|exact⟨q.1,q.2.1,q.2.2.1,fun k e=>h _ (q.2.2.2 k e)⟩|exact⟨q.1,q.2.1,q.2.2.1,q.2.2.2.1,fun k e=>h _ (q.2.2.2.2 k e)⟩
theorem oDiv.mono:∀{x y Q Q'},(∀ d,Q d->Q' d)->oDiv x y Q->oDiv x y Q':=by intro x y Q Q' h;cases x <;> cases y <;> intro q <;> first|exact h _ q|exact q|exact⟨q.1,h _ q.2⟩|exact⟨q.1,q.2.1,q.2.2.1,h _ q.2.2.2⟩|exact⟨q.1,q.2.1,q.2.2.1,fun k e=>h _ (q.2.2.2 k e)⟩|exact⟨q.1,q.2.1,q.2.2.1,q.2.2.2.1,fun k e=>h _ (q.2.2.2.2 k e)⟩
theorem oMod.mono:∀{x y Q Q'},(∀ d,Q d->Q' d)->oMod x y Q->oMod x y Q':=by intro x y Q Q' h;cases x <;> cases y <;> intro q <;> first|exact h _ q|exact q|exact⟨q.1,h _ q.2⟩|exact⟨q.1,q.2.1,q.2.2.1,h _ q.2.2.2⟩|exact⟨q.1,q.2.1,q.2.2.1,fun k e=>h _ (q.2.2.2 k e)⟩|exact⟨q.1,q.2.1,q.2.2.1,q.2.2.2.1,fun k e=>h _ (q.2.2.2.2 k e)⟩
theorem oPow.mono:∀{x y Q Q'},(∀ d,Q d->Q' d)->oPow x y Q->oPow x y Q':=by intro x y Q Q' h;cases x <;> cases y <;> intro q <;> first|exact h _ q|exact q|exact⟨q.1,h _ q.2⟩|exact⟨q.1,q.2.1,q.2.2.1,h _ q.2.2.2⟩|exact⟨q.1,q.2.1,q.2.2.1,fun k e=>h _ (q.2.2.2 k e)⟩|exact⟨q.1,q.2.1,q.2.2.1,q.2.2.2.1,fun k e=>h _ (q.2.2.2.2 k e)⟩
theorem oShl.mono:∀{x y Q Q'},(∀ d,Q d->Q' d)->oShl x y Q->oShl x y Q':=by intro x y Q Q' h;cases x <;> cases y <;> intro q <;> first|exact q|exact⟨q.1,h _ q.2⟩
theorem oBin.mono:∀{x y Q Q'},(∀ d,Q d->Q' d)->oBin op x y Q->oBin op x y Q':=by
 cases op;all_goals first|exact oAdd.mono|exact oSub.mono|exact oMul.mono|exact oDiv.mono|exact oMod.mono|exact oPow.mono|exact oShl.mono|exact fun _ q=>q
theorem oLt.mono:∀{x y Q Q'},(∀ d,Q d->Q' d)->oLt x y Q->oLt x y Q':=by intro x y Q Q' h;cases x <;> cases y <;> intro q <;> first|exact h _ q|exact q|exact⟨q.1,h _ q.2⟩|exact⟨q.1,q.2.1,q.2.2.1,h _ q.2.2.2⟩|exact⟨q.1,q.2.1,q.2.2.1,fun k e=>h _ (q.2.2.2 k e)⟩|exact⟨q.1,q.2.1,q.2.2.1,q.2.2.2.1,fun k e=>h _ (q.2.2.2.2 k e)⟩
theorem oLe.mono:∀{x y Q Q'},(∀ d,Q d->Q' d)->oLe x y Q->oLe x y Q':=by intro x y Q Q' h;cases x <;> cases y <;> intro q <;> first|exact h _ q|exact q|exact⟨q.1,h _ q.2⟩|exact⟨q.1,q.2.1,q.2.2.1,h _ q.2.2.2⟩|exact⟨q.1,q.2.1,q.2.2.1,fun k e=>h _ (q.2.2.2 k e)⟩|exact⟨q.1,q.2.1,q.2.2.1,q.2.2.2.1,fun k e=>h _ (q.2.2.2.2 k e)⟩
theorem oGt.mono:∀{x y Q Q'},(∀ d,Q d->Q' d)->oGt x y Q->oGt x y Q':=by intro x y Q Q' h;cases x <;> cases y <;> intro q <;> first|exact h _ q|exact q|exact⟨q.1,h _ q.2⟩|exact⟨q.1,q.2.1,q.2.2.1,h _ q.2.2.2⟩|exact⟨q.1,q.2.1,q.2.2.1,fun k e=>h _ (q.2.2.2 k e)⟩|exact⟨q.1,q.2.1,q.2.2.1,q.2.2.2.1,fun k e=>h _ (q.2.2.2.2 k e)⟩
theorem oGe.mono:∀{x y Q Q'},(∀ d,Q d->Q' d)->oGe x y Q->oGe x y Q':=by intro x y Q Q' h;cases x <;> cases y <;> intro q <;> first|exact h _ q|exact q|exact⟨q.1,h _ q.2⟩|exact⟨q.1,q.2.1,q.2.2.1,h _ q.2.2.2⟩|exact⟨q.1,q.2.1,q.2.2.1,fun k e=>h _ (q.2.2.2 k e)⟩|exact⟨q.1,q.2.1,q.2.2.1,q.2.2.2.1,fun k e=>h _ (q.2.2.2.2 k e)⟩
theorem oEq.mono:∀{x y Q Q'},(∀ d,Q d->Q' d)->oEq neg x y Q->oEq neg x y Q':=by intro x y Q Q' h;cases x <;> cases y <;> intro q <;> first|exact h _ q|exact q|exact⟨q.1,h _ q.2⟩|exact⟨q.1,q.2.1,q.2.2.1,h _ q.2.2.2⟩|exact⟨q.1,q.2.1,q.2.2.1,fun k e=>h _ (q.2.2.2 k e)⟩|exact⟨q.1,q.2.1,q.2.2.1,q.2.2.2.1,fun k e=>h _ (q.2.2.2.2 k e)⟩
theorem oIs.mono:∀{x y Q Q'},(∀ d,Q d->Q' d)->oIs neg x y Q->oIs neg x y Q':=by intro x y Q Q' h;cases x <;> cases y <;> intro q <;> first|exact h _ q|exact q|exact⟨q.1,h _ q.2⟩|exact⟨q.1,q.2.1,q.2.2.1,h _ q.2.2.2⟩|exact⟨q.1,q.2.1,q.2.2.1,fun k e=>h _ (q.2.2.2 k e)⟩|exact⟨q.1,q.2.1,q.2.2.1,q.2.2.2.1,fun k e=>h _ (q.2.2.2.2 k e)⟩
theorem oCmp.mono:∀{x y Q Q'},(∀ d,Q d->Q' d)->oCmp op x y Q->oCmp op x y Q':=by
 cases op;all_goals first|exact oLt.mono|exact oLe.mono|exact oGt.mono|exact oGe.mono|exact oEq.mono|exact oIs.mono|exact oIn.mono
def Rng(X:Cx)(g:Value->Value->Sem Value)(o:OD):Prop:=∃ r,OpR X g r/\RD X.K r o
theorem Rng.never:Rng X g Cy:=⟨fun _ _ _ _=>False,fun _ _ _ _ _ _ _ _ _ _ _ _ h=>h.elim,fun _ _ _ _ _ _ _ _ _ _ _ _ _ h=>h.elim⟩
theorem Ki:Rng X (binaryOp .Add) oAdd:=by
 refine⟨_,OpR.or2 vD (OpR.or2 Cu (OpR.or2 KP (OpR.or2 H9 (Nd X.K)))),?_⟩;intro f O σ ss H dx dy x y Q R rx ry h;cases dx <;> cases dy <;> first|(exact PD h)|skip
 ·rename_i i j;cases rx;cases ry;exact .inl ⟨i,j,rfl,rfl,h _ H (Ex.refl R.fl) rfl⟩
 ·rename_i i j;cases rx;cases ry;exact .inr (.inl ⟨i,j,rfl,rfl,h.1,h.2 _ H (Ex.refl R.fl) rfl⟩)
 ·rename_i la lb;obtain⟨a,xs,rfl,h1,h2⟩:=rx;obtain⟨b,ys,rfl,h3,h4⟩:=ry;obtain⟨hl,q⟩:=h;cases la with
  | nil =>
   cases (show xs=[] from h2);exact .inr (.inr (.inr (.inr ⟨a,b,ys,rfl,rfl,h1,h3,q _ H (Ex.refl R.fl) ⟨b,ys,rfl,h3,h4⟩⟩)))
  | cons d la =>
   refine .inr (.inr (.inr (.inl ⟨a,b,xs,ys,rfl,rfl,h1,h3,?_,by rw[h2.len,h4.len];exact hl,fun e=>?_,fun e p hp=>?_⟩)))
   ·obtain⟨v,r,e,_⟩:=h2;rw[e];simp
   ·subst e;cases lb with
    | nil =>
     refine q _ H (Ex.refl R.fl) ⟨a,xs,rfl,h1,?_⟩;rw[cP];exact h2
    | cons=>obtain⟨v,r,e,_⟩:=h4;cases e
   ·exact q _ _ (R.new hp _) (R.tup hp (h2.append h4))
 ·rename_i la lb;obtain⟨a,xs,rfl,n1,h1,h2⟩:=rx;obtain⟨b,ys,rfl,n2,h3,h4⟩:=ry;exact .inr (.inr (.inl ⟨a,b,xs,ys,rfl,rfl,h1,h3,by rw[h2.len,h4.len];exact h.1,fun p hp=>h.2 _ _ (R.new hp _) (R.lst hp (h2.append h4))⟩))
theorem xE{g:Pt->Pt->Sem Pt}{C:Int->Int->Prop}{w:Int->Int->Int}{o:OD}(h:OpR X g (rI C fun i j=>.int (w i j)))(ho:∀ dx dy Q,o dx dy Q->∃ i j,dx = .int i/\dy = .int j/\C i j/\Q (.int (w i j))):Rng X g o:=by
 refine⟨_,h,fun f O σ ss H dx dy x y Q R rx ry h=>?_⟩;obtain⟨i,j,rfl,rfl,c,q⟩:=ho _ _ _ h;cases rx;cases ry;exact⟨i,j,rfl,rfl,c,q _ H (Ex.refl R.fl) rfl⟩
theorem yg{g:Pt->Pt->Sem Pt}{w:Int->Int->Bool}{o:OD}(h:OpR X g (FL fun i j=>.bl (w i j)))(ho:∀ dx dy Q,o dx dy Q->∃ i j,dx = .int i/\dy = .int j/\Q (.bl (w i j))):Rng X g o:=by
 refine⟨_,h,fun f O σ ss H dx dy x y Q R rx ry h=>?_⟩;obtain⟨i,j,rfl,rfl,q⟩:=ho _ _ _ h;cases rx;cases ry;exact⟨i,j,rfl,rfl,q _ H (Ex.refl R.fl) rfl⟩
theorem Kg:Rng X (binaryOp .Mult) oMul:=by
 refine⟨_,OpR.or2 H0 (OpR.or2 Ge HY),?_⟩;intro f O σ ss H dx dy x y Q R rx ry h;cases dx <;> cases dy <;> first|(exact PD h)|skip
 ·rename_i i j;cases rx;cases ry;exact .inl ⟨i,j,rfl,rfl,h.1,h.2 _ H (Ex.refl R.fl) rfl⟩
 ·rename_i la k;obtain⟨a,xs,rfl,h1,h2⟩:=rx;cases ry;obtain⟨z1,z2,z3,q⟩:=h;obtain⟨k,rfl⟩:=dI (show 0<=k by lia);rw[aS] at z3 q;refine .inr (.inr ⟨a,xs,k,rfl,rfl,h1,fun z=>z1 ?_,by lia,by rw[h2.len];exact z3,fun e=>?_,fun _ p hp=>q _ _ (R.new hp _) (R.tup hp (h2.flat _))⟩)
  ·have:=h2.len;rw[z] at this;exact cX.mp this.symm
  ·refine q _ H (Ex.refl R.fl) ⟨a,xs,rfl,h1,?_⟩;rw[e,bM,List.replicate_zero,cK,List.flatten_nil,cP];exact h2
 ·rename_i la k;obtain⟨a,xs,rfl,n1,h1,h2⟩:=rx;cases ry;exact .inr <| .inl ⟨a,k,xs,rfl,rfl,h1,h.1,h.2.1,by rw[h2.len];exact h.2.2.1,fun p hp=>h.2.2.2 _ _ (R.new hp _) (R.lst hp (h2.flat _))⟩
theorem Kh(hr:Room k X.A)(op:QC):Rng X (binaryOp op) (oBin op):=by
 cases op;case Add=>exact Ki
 case Mult=>exact Kg
 case Sub =>
  refine⟨_,KJ,fun f O σ ss H dx dy x y Q R rx ry h=>?_⟩;cases dx <;> cases dy <;> first|(exact PD h)|skip
  cases rx;cases ry;exact⟨_,_,rfl,rfl,h _ H (Ex.refl R.fl) rfl⟩
 case FloorDiv=>exact xE (Bw hr) fun dx dy Q h=>by cases dx <;> cases dy <;> first|(exact PD h)|exact⟨_,_,rfl,rfl,h.1,h.2⟩
 case Mod=>exact xE H8 fun dx dy Q h=>by cases dx <;> cases dy <;> first|(exact PD h)|exact⟨_,_,rfl,rfl,h.1,h.2⟩
 case Pow=>exact xE Gf fun dx dy Q h=>by cases dx <;> cases dy <;> first|(exact PD h)|exact⟨_,_,rfl,rfl,h.1,h.2⟩
 case LShift=>exact xE KK fun dx dy Q h=>by cases dx <;> cases dy <;> first|(exact PD h)|exact⟨_,_,rfl,rfl,h.1,h.2⟩
 all_goals exact Rng.never
theorem Ml(hr:Room k X.A):Rng X (PX .Eq) (oEq false):=by
 refine⟨_,OpR.or2 Jr (OpR.or2 (Pp X.K hr) (Om X.K hr)),?_⟩;intro f O σ ss H dx dy x y Q R rx ry h;cases dx <;> cases dy <;> first|(exact PD h)|skip
 ·rename_i i j;cases rx;cases ry;refine .inl ⟨rfl,?_⟩;have e:(decide (V.bl i=V.bl j))=decide (i=j):=by cases i <;> cases j <;> rfl
  rw[e];exact h _ H (Ex.refl R.fl) rfl
 ·rename_i i j;cases rx;cases ry;refine .inl ⟨rfl,?_⟩;have e:(decide (V.int i=V.int j))=decide (i=j):=by simp
  rw[e];exact h _ H (Ex.refl R.fl) rfl
 ·rename_i i j;cases rx;cases ry;refine .inl ⟨rfl,?_⟩;have e:(decide (V.str i=V.str j))=decide (i=j):=by simp
  rw[e];exact h _ H (Ex.refl R.fl) rfl
 ·rename_i la lb;obtain⟨p1,p2,p3,q⟩:=h;refine .inr (.inl ⟨D.dvs la,D.dvs lb,Rp.rep (d:=.tup la) p1 rx,Rp.rep (d:=.tup lb) p2 ry,D.dvs_pl p1,D.dvs_pl p2,by rw[D.dvs_dp];exact p3,fun b hb=>?_⟩);exact q b (hb.trans ⟨fun e=>D.dvs_inj p1 p2 e,fun e=>by rw[e]⟩) _ H (Ex.refl R.fl) rfl
 ·rename_i la lb;obtain⟨_,p1,p2,p3,q⟩:=h;refine .inr (.inr ⟨D.dvs la,D.dvs lb,Rp.rep (d:=.lst la) p1 rx,Rp.rep (d:=.lst lb) p2 ry,D.dvs_pl p1,D.dvs_pl p2,by rw[D.dvs_dp];exact p3,fun b hb=>?_⟩);exact q b (hb.trans ⟨fun e=>D.dvs_inj p1 p2 e,fun e=>by rw[e]⟩) _ H (Ex.refl R.fl) rfl
theorem Mi(hr:Room k X.A):Rng X (PX .NotEq) (oEq true):=by
 refine⟨_,OpR.or2 MH (OpR.or2 (Pi X.K hr) (Oa X.K hr)),?_⟩;intro f O σ ss H dx dy x y Q R rx ry h;cases dx <;> cases dy <;> first|(exact PD h)|skip
 ·rename_i i j;cases rx;cases ry;refine .inl ⟨rfl,?_⟩;have e:(decide (V.bl i=V.bl j))=decide (i=j):=by cases i <;> cases j <;> rfl
  rw[e];exact h _ H (Ex.refl R.fl) rfl
 ·rename_i i j;cases rx;cases ry;refine .inl ⟨rfl,?_⟩;have e:(decide (V.int i=V.int j))=decide (i=j):=by simp
  rw[e];exact h _ H (Ex.refl R.fl) rfl
 ·rename_i i j;cases rx;cases ry;refine .inl ⟨rfl,?_⟩;have e:(decide (V.str i=V.str j))=decide (i=j):=by simp
  rw[e];exact h _ H (Ex.refl R.fl) rfl
 ·rename_i la lb;obtain⟨p1,p2,p3,q⟩:=h;refine .inr (.inl ⟨D.dvs la,D.dvs lb,Rp.rep (d:=.tup la) p1 rx,Rp.rep (d:=.tup lb) p2 ry,D.dvs_pl p1,D.dvs_pl p2,by rw[D.dvs_dp];exact p3,fun b hb=>?_⟩);exact q b (hb.trans ⟨fun e=>D.dvs_inj p1 p2 e,fun e=>by rw[e]⟩) _ H (Ex.refl R.fl) rfl
 ·rename_i la lb;obtain⟨_,p1,p2,p3,q⟩:=h;refine .inr (.inr ⟨D.dvs la,D.dvs lb,Rp.rep (d:=.lst la) p1 rx,Rp.rep (d:=.lst lb) p2 ry,D.dvs_pl p1,D.dvs_pl p2,by rw[D.dvs_dp];exact p3,fun b hb=>?_⟩);exact q b (hb.trans ⟨fun e=>D.dvs_inj p1 p2 e,fun e=>by rw[e]⟩) _ H (Ex.refl R.fl) rfl
theorem Mj:Rng X (PX .Is) (oIs false):=by
 refine⟨_,KM,fun f O σ ss H dx dy x y Q R rx ry h=>?_⟩;cases dy <;> first|(exact PD h)|skip
 cases ry;refine⟨rfl,?_⟩;cases dx;case tup=>obtain⟨a,xs,rfl,_⟩:=rx;exact h _ H (Ex.refl R.fl) rfl
 case lst=>obtain⟨a,xs,rfl,_⟩:=rx;exact h _ H (Ex.refl R.fl) rfl
 case exn=>obtain⟨a,xs,rfl,_⟩:=rx;exact h _ H (Ex.refl R.fl) rfl
 case dct=>obtain⟨a,xs,rfl,_⟩:=rx;exact h _ H (Ex.refl R.fl) rfl
 all_goals (cases rx;exact h _ H (Ex.refl R.fl) rfl)
theorem FG:Rng X (PX .IsNot) (oIs true):=by
 refine⟨_,HZ,fun f O σ ss H dx dy x y Q R rx ry h=>?_⟩;cases dy <;> first|(exact PD h)|skip
 cases ry;refine⟨rfl,?_⟩;cases dx;case tup=>obtain⟨a,xs,rfl,_⟩:=rx;exact h _ H (Ex.refl R.fl) rfl
 case lst=>obtain⟨a,xs,rfl,_⟩:=rx;exact h _ H (Ex.refl R.fl) rfl
 case exn=>obtain⟨a,xs,rfl,_⟩:=rx;exact h _ H (Ex.refl R.fl) rfl
 case dct=>obtain⟨a,xs,rfl,_⟩:=rx;exact h _ H (Ex.refl R.fl) rfl
 all_goals (cases rx;exact h _ H (Ex.refl R.fl) rfl)
theorem Rps.strs:∀{zs:List PR} {vs:List V},Rps K f O H (zs.map D.str) vs->vs=zs.map V.str
 | [],_,h=>h
 | z::zs,_,h=>by
  obtain⟨v,r,e1,h1,h2⟩:=h;rw[e1,Rps.strs h2,show v = .str z from h1];rfl
theorem D5(i:Int)(ns:List Int):LM (.int i) (ns.map V.int)=decide (i∈ns):=by
 apply cQ.mpr;unfold LM;rw[gE,decide_eq_true_iff];constructor
 ·rintro⟨y,hy,e⟩;obtain⟨j,hj,rfl⟩:=de.mp hy;have e:(j == i)=true:=e;exact beq_iff_eq.mp e ▸ hj
 ·exact fun h=>⟨_,de.mpr ⟨i,h,rfl⟩,show (i == i)=true from beq_self_eq_true i⟩
theorem D4(i:PR)(ns:List PR):LM (.str i) (ns.map V.str)=decide (i∈ns):=by
 apply cQ.mpr;unfold LM;rw[gE,decide_eq_true_iff];constructor
 ·rintro⟨y,hy,e⟩;obtain⟨j,hj,rfl⟩:=de.mp hy;have e:(j == i)=true:=e;exact beq_iff_eq.mp e ▸ hj
 ·exact fun h=>⟨_,de.mpr ⟨i,h,rfl⟩,show (i == i)=true from beq_self_eq_true i⟩
theorem D.dvs_mem:∀{l:List D},x.pl=true->D.pls l=true->(x.dv∈D.dvs l↔x∈l)
 | [],_,_=>⟨fun h=>(by cases h),fun h=>by cases h⟩
 | d::l,hx,hl=>by
  have h:=ax.mp (show (d.pl && D.pls l)=true from hl);show x.dv∈d.dv::D.dvs l↔_;rw[av,av,D.dvs_mem hx h.2];exact or_congr ⟨fun e=>D.dv_inj hx h.1 e,fun e=>by rw[e]⟩ Iff.rfl
theorem Ji(neg:Bool):RD K (fun x y H Q=>N7 K neg x y H Q\/Kr K neg x y H Q) (oIn neg):=by
 rintro f O σ ss H dx dy x y Q R rx ry (⟨i,ns,rfl,hy,q⟩|⟨i,ns,rfl,hy,q⟩|⟨l,rfl,p1,p2,p3,q⟩)
 ·cases rx;have fl:(ns.map V.int).all wC=true:=by rw[hV];exact cY.mpr fun _ _=>rfl
  rcases hy with rfl|rfl
  ·obtain⟨a,xs,rfl,_,h1,r1⟩:=ry;rw[Rps.ints r1] at h1;exact .inl ⟨a,_,rfl,.inl (SqL.of h1),rfl,fl,by rw[D5];exact q _ H (Ex.refl R.fl) rfl⟩
  ·obtain⟨a,xs,rfl,h1,r1⟩:=ry;rw[Rps.ints r1] at h1;exact .inl ⟨a,_,rfl,.inr h1,rfl,fl,by rw[D5];exact q _ H (Ex.refl R.fl) rfl⟩
 ·cases rx;have fl:(ns.map V.str).all wC=true:=by rw[hV];exact cY.mpr fun _ _=>rfl
  rcases hy with rfl|rfl
  ·obtain⟨a,xs,rfl,_,h1,r1⟩:=ry;rw[Rps.strs r1] at h1;exact .inl ⟨a,_,rfl,.inl (SqL.of h1),rfl,fl,by rw[D4];exact q _ H (Ex.refl R.fl) rfl⟩
  ·obtain⟨a,xs,rfl,h1,r1⟩:=ry;rw[Rps.strs r1] at h1;exact .inl ⟨a,_,rfl,.inr h1,rfl,fl,by rw[D4];exact q _ H (Ex.refl R.fl) rfl⟩
 ·exact .inr ⟨dx.dv,D.dvs l,Rp.rep p1 rx,Rp.rep (d:=.lst l) p2 ry,D.dv_pl p1,D.dvs_pl p2,by rw[D.dvs_dp];exact p3,fun b hb=>q b (hb.trans (D.dvs_mem p1 p2)) _ H (Ex.refl R.fl) rfl⟩
theorem xF(hr:Room k X.A)(op:CmpOp):Rng X (PX op) (oCmp op):=by
 cases op;case Eq=>exact Ml hr
 case NotEq=>exact Mi hr
 case Lt=>exact yg Jo fun dx dy Q h=>by cases dx <;> cases dy <;> first|(exact PD h)|exact⟨_,_,rfl,rfl,h⟩
 case LtE=>exact yg MI fun dx dy Q h=>by cases dx <;> cases dy <;> first|(exact PD h)|exact⟨_,_,rfl,rfl,h⟩
 case Gt=>exact yg Jp fun dx dy Q h=>by cases dx <;> cases dy <;> first|(exact PD h)|exact⟨_,_,rfl,rfl,h⟩
 case GtE=>exact yg Jq fun dx dy Q h=>by cases dx <;> cases dy <;> first|(exact PD h)|exact⟨_,_,rfl,rfl,h⟩
 case Is=>exact Mj
 case IsNot=>exact FG
 case In=>exact⟨_,OpR.or2 EF (KN X.K hr),Ji false⟩
 case NotIn=>exact⟨_,OpR.or2 AD (EE X.K hr),Ji true⟩
end Dp
namespace Dp
open PySem L2
variable{K:Frag}{f:Addr}{O O':List Addr}{H H':Hp}{X:Cx}{σ:St}{ss:SS}{a b c:Expr}{ta tb tc:TEd}{tA tB:TTd}{pos:Pos}
def iV(op:Operator)(a b:TEd):TEd:=d2 (oBin op) oBin.mono a b
theorem iV.ok(hr:Room k X.A)(ha:PE X a (LE X.K ta))(hb:PE X b (LE X.K tb)):PE X (.BinOp a op b pos) (LE X.K (iV op ta tb)):=by
 obtain⟨r,h,hr⟩:=Kh (X:=X) hr op;exact d2.ok hr (uL h ha hb)
def i6(op:CmpOp)(a b:TEd):TEd:=d2 (oCmp op) oCmp.mono a b
theorem i6.ok(hr:Room k X.A)(ha:PE X a (LE X.K ta))(hb:PE X b (LE X.K tb))(hm:behindInMarks op b=false):PE X (.Compare a [op] [b] pos) (LE X.K (i6 op ta tb)):=by
 obtain⟨r,h,hr⟩:=xF hr op;exact d2.ok hr (HW h ha hb hm)
def i5(t:TEd):TTd:=⟨fun ss Q=>t.run ss fun d=>match d with | .bl b=>Q b|_=>False,fun {ss Q Q'} h q=>t.mono (fun d q=>by
 revert q;cases d <;> first|exact h _|exact id) q⟩
theorem LE.test(h:LT X.K (i5 t) σ H Q):Fg (LE X.K t) σ H Q:=by
 obtain⟨f,O,ss,R,q⟩:=h;refine⟨f,O,ss,R,t.mono (fun d q v H' e r=>?_) q⟩;cases d <;> first|exact PD q|skip
 cases r;exact⟨_,rfl,q H' e⟩
theorem i6.test(hr:Room k X.A)(ha:PE X a (LE X.K ta))(hb:PE X b (LE X.K tb))(hm:behindInMarks op b=false):PT X (.Compare a [op] [b] pos) (LT X.K (i5 (i6 op ta tb))):=by
 obtain⟨r,h,hr⟩:=xF hr op;refine (xh (pos:=pos) h ha hb hm).weak fun σ H Q q=>?_;have q:=LE.test q;obtain⟨f,O,ss,R,q⟩:=q;refine⟨f,O,ss,R,ta.mono (fun dx q v1 H1 e1 r1=>?_) q⟩;refine⟨f,O,ss,R.ex e1,tb.mono (fun dy q v2 H2 e2 r2=>?_) q⟩;exact hr f O σ ss H2 dx dy v1 v2 _ ((R.ex e1).ex e2) ((R.ex e1).up e2 r1) r2 (oCmp.mono (fun d q v H' e3 r3=>q v H' (e1.trans (e2.trans e3)) r3) q)
def jU(op op':CmpOp)(a b c:TEd):TEd:=⟨fun ss Q=>a.run ss fun x=>b.run ss fun y=>oCmp op x y fun z=>match z with | .bl k=>if k=true then c.run ss fun w=>oCmp op' y w Q else Q (.bl false)|_=>False,fun {ss Q Q'} h q=>a.mono (fun x q=>b.mono (fun y q=>oCmp.mono (fun d q=>by
 revert q;cases d <;> first|exact id|skip
 rename_i k;cases k
 ·exact h _
 ·exact c.mono fun w q=>oCmp.mono h q) q) q) q⟩
theorem jU.test(hr:Room k X.A)(ha:PE X a (LE X.K ta))(hb:PE X b (LE X.K tb))(hc:PE X c (LE X.K tc))(hm:lastMarks [op,op'] [b,c]=false):PT X (.Compare a [op,op'] [b,c] pos) (LT X.K (i5 (jU op op' ta tb tc))):=by
 obtain⟨r,h,h1⟩:=xF hr op;obtain⟨r',h',h2⟩:=xF hr op';refine (FS (pos:=pos) h h' ha hb hc hm).weak fun σ H Q q=>?_;have q:=LE.test q;obtain⟨f,O,ss,R,q⟩:=q;refine⟨f,O,ss,R,ta.mono (fun dx q v1 H1 e1 r1=>?_) q⟩;refine⟨f,O,ss,R.ex e1,tb.mono (fun dy q v2 H2 e2 r2=>?_) q⟩;have R2:=(R.ex e1).ex e2;refine h1 f O σ ss H2 dx dy v1 v2 _ R2 ((R.ex e1).up e2 r1) r2 (oCmp.mono (fun d q v H3 e3 r3=>?_) q);cases d <;> first|exact PD q|skip
 rename_i k;cases r3;refine⟨k,rfl,?_⟩;cases k
 ·exact q _ H3 (e1.trans (e2.trans e3)) rfl
 ·have R3:=R2.ex e3;refine⟨f,O,ss,R3,tc.mono (fun dz q v4 H4 e4 r4=>?_) q⟩;exact h2 f O σ ss H4 dy dz v2 v4 _ (R3.ex e4) (R3.up e4 (R2.up e3 r2)) r4 (oCmp.mono (fun d q v H' e5 r5=>q v H' (e1.trans (e2.trans (e3.trans (e4.trans e5)))) r5) q)
theorem jU.ok(hr:Room k X.A)(ha:PE X a (LE X.K ta))(hb:PE X b (LE X.K tb))(hc:PE X c (LE X.K tc))(hm:lastMarks [op,op'] [b,c]=false):PE X (.Compare a [op,op'] [b,c] pos) (LE X.K (jU op op' ta tb tc)):=by
 obtain⟨r,h,h1⟩:=xF hr op;obtain⟨r',h',h2⟩:=xF hr op';refine (F5 (pos:=pos) h h' ha hb hc hm).weak fun σ H Q q=>?_;obtain⟨f,O,ss,R,q⟩:=q;refine⟨f,O,ss,R,ta.mono (fun dx q v1 H1 e1 r1=>?_) q⟩;refine⟨f,O,ss,R.ex e1,tb.mono (fun dy q v2 H2 e2 r2=>?_) q⟩;have R2:=(R.ex e1).ex e2;refine h1 f O σ ss H2 dx dy v1 v2 _ R2 ((R.ex e1).up e2 r1) r2 (oCmp.mono (fun d q v H3 e3 r3=>?_) q);cases d <;> first|exact PD q|skip
 rename_i k;cases r3;refine⟨k,rfl,?_⟩;cases k
 ·exact q _ H3 (e1.trans (e2.trans e3)) rfl
 ·have R3:=R2.ex e3;refine⟨f,O,ss,R3,tc.mono (fun dz q v4 H4 e4 r4=>?_) q⟩;exact h2 f O σ ss H4 dy dz v2 v4 _ (R3.ex e4) (R3.up e4 (R2.up e3 r2)) r4 (oCmp.mono (fun d q v H' e5 r5=>q v H' (e1.trans (e2.trans (e3.trans (e4.trans e5)))) r5) q)
def mw(a:TEd):TEd:=⟨fun ss Q=>a.run ss fun d=>match d with | .int i=>Q (.int (-i))|_=>False,fun {ss Q Q'} h q=>a.mono (fun d q=>by
 revert q;cases d <;> first|exact h _|exact id) q⟩
theorem mw.ok(ha:PE X a (LE X.K ta)):PE X (.UnaryOp .USub a pos) (LE X.K (mw ta)):=(Jm (pos:=pos) Fa ha).weak fun σ H Q ⟨f,O,ss,R,q⟩=>⟨f,O,ss,R,ta.mono (fun d q v H1 e r=>by
 cases d <;> first|exact PD q|skip
 cases r;exact⟨_,rfl,q _ H1 e rfl⟩) q⟩
def truD:D->(Bool->Prop)->Prop
 | .non,Q=>Q false
 | .bl b,Q=>Q b
 | .int i,Q=>Q (i != 0)
 | .str y,Q=>y.length<=sizeLine/\Q ((y.length:Int) != 0)
 | .tup l,Q=>Q (!l.isEmpty)
 | .lst l,Q=>Q (!l.isEmpty)
 | .fl,_=>False
 | .exn _ _ _,_=>False
 | .dct _ _,_=>False
theorem truD.mono:∀{d:D} {Q Q':Bool->Prop},(∀ b,Q b->Q' b)->truD d Q->truD d Q'
 | .non,_,_,h,q=>h _ q
 | .bl _,_,_,h,q=>h _ q
 | .int _,_,_,h,q=>h _ q
 | .str _,_,_,h,q=>⟨q.1,h _ q.2⟩
 | .tup _,_,_,h,q=>h _ q
 | .lst _,_,_,h,q=>h _ q
 | .fl,_,_,_,q=>q
 | .exn ..,_,_,_,q=>q
 | .dct _ _,_,_,_,q=>q
theorem Rps.empty:∀{ds:List D} {vs:List V},Rps K f O H ds vs->vs.isEmpty=ds.isEmpty
 | [],_,h=>by rw[show _=[] from h];rfl
 | _::_,_,h=>by obtain⟨v,r,e,_⟩:=h;rw[e];rfl
def kA(a:TEd):TTd:=⟨fun ss Q=>a.run ss fun d=>truD d Q,fun h q=>a.mono (fun d q=>truD.mono h q) q⟩
theorem kA.ok(ha:PE X a (LE X.K ta))(he:∀ whole,isTrue a X.env whole=(do let v ← whole;standAt a.pos;holding [v] (truthy v))):PT X a (LT X.K (kA ta)):=(FR ha he).weak fun σ H Q ⟨f,O,ss,R,q⟩=>⟨f,O,ss,R,ta.mono (fun d q v H1 e r=>by
 cases d;case non=>cases r;exact⟨false,rfl,q H1 e⟩
 case bl=>cases r;exact⟨_,rfl,q H1 e⟩
 case int=>cases r;exact⟨_,rfl,q H1 e⟩
 case str=>cases r;exact⟨_,⟨q.1,rfl⟩,q.2 H1 e⟩
 case tup l =>
  obtain⟨p,xs,rfl,h1,h2⟩:=r;exact⟨_,.inr (.inl ⟨xs,h1,by rw[h2.empty]⟩),q H1 e⟩
 case lst l =>
  obtain⟨p,xs,rfl,_,h1,h2⟩:=r;exact⟨_,.inl ⟨xs,SqL.of h1,by rw[h2.empty]⟩,q H1 e⟩
 case fl=>exact PD q
 case exn=>exact PD q
 case dct=>exact PD q) q⟩
def kG(a b:TTd):TTd:=⟨fun ss Q=>a.run ss fun k=>if k=true then b.run ss Q else Q false,fun {ss Q Q'} h q=>a.mono (fun k q=>by
 revert q;cases k
 ·exact h _
 ·exact b.mono h) q⟩
def mB(a b:TTd):TTd:=⟨fun ss Q=>a.run ss fun k=>if k=true then Q true else b.run ss Q,fun {ss Q Q'} h q=>a.mono (fun k q=>by
 revert q;cases k
 ·exact b.mono h
 ·exact h _) q⟩
def j5(a:TTd):TTd:=⟨fun ss Q=>a.run ss fun k=>Q (!k),fun h q=>a.mono (fun k q=>h _ q) q⟩
theorem kG.weak(h:LT X.K (kG tA tB) σ H Q):Mc (LT X.K tA) (LT X.K tB) σ H Q:=by
 obtain⟨f,O,ss,S,q⟩:=h;refine⟨f,O,ss,S,tA.mono (fun k q H1 e=>?_) q⟩;cases k
 ·exact q H1 e
 ·exact⟨f,O,ss,S.ex e,tB.mono (fun k q H2 e2=>q H2 (e.trans e2)) q⟩
theorem mB.weak(h:LT X.K (mB tA tB) σ H Q):OJ (LT X.K tA) (LT X.K tB) σ H Q:=by
 obtain⟨f,O,ss,S,q⟩:=h;refine⟨f,O,ss,S,tA.mono (fun k q H1 e=>?_) q⟩;cases k
 ·exact⟨f,O,ss,S.ex e,tB.mono (fun k q H2 e2=>q H2 (e.trans e2)) q⟩
 ·exact q H1 e
theorem _root_.L2.PW.weak(h:PW X e t)(w:∀ σ H Q,t' σ H Q->t σ H Q):PW X e t':=fun wh pins s σ H Q I q=>h wh pins s σ H Q I (w σ H Q q)
theorem kG.ok(ha:PT X a (LT X.K tA))(hb:PW X (.BoolOp .And (b::rest) pos) (LT X.K tB)):PW X (.BoolOp .And (a::b::rest) pos) (LT X.K (kG tA tB)):=(FP ha hb).weak fun _ _ _=>kG.weak
theorem mB.ok(ha:PT X a (LT X.K tA))(hb:PW X (.BoolOp .Or (b::rest) pos) (LT X.K tB)):PW X (.BoolOp .Or (a::b::rest) pos) (LT X.K (mB tA tB)):=(MA ha hb).weak fun _ _ _=>mB.weak
theorem j5.ok(ha:PT X a (LT X.K tA)):PT X (.UnaryOp .Not a pos) (LT X.K (j5 tA)):=(Kw ha).weak fun σ H Q ⟨f,O,ss,S,q⟩=>⟨f,O,ss,S,q⟩
def sX(a b:TEd):TEd:=⟨fun ss Q=>a.run ss fun d=>match d with | .bl k=>if k=true then b.run ss Q else Q (.bl false)|_=>False,fun {ss Q Q'} h q=>a.mono (fun d q=>by
 revert q;cases d <;> first|exact id|skip
 rename_i k;cases k
 ·exact h _
 ·exact b.mono h) q⟩
def dOr(a b:TEd):TEd:=⟨fun ss Q=>a.run ss fun d=>match d with | .bl k=>if k=true then Q (.bl true) else b.run ss Q|_=>False,fun {ss Q Q'} h q=>a.mono (fun d q=>by
 revert q;cases d <;> first|exact id|skip
 rename_i k;cases k
 ·exact b.mono h
 ·exact h _) q⟩
def sY(a:TEd):TEd:=⟨fun ss Q=>a.run ss fun d=>match d with | .bl k=>Q (.bl (!k))|_=>False,fun {ss Q Q'} h q=>a.mono (fun d q=>by
 revert q;cases d <;> first|exact h _|exact id) q⟩
theorem sX.ok(ha:PE X a (LE X.K ta))(hb:PE X (.BoolOp .And (b::rest) pos) (LE X.K tb)):PE X (.BoolOp .And (a::b::rest) pos) (LE X.K (sX ta tb)):=(KH ha hb).weak fun σ H Q ⟨f,O,ss,S,q⟩=>⟨f,O,ss,S,ta.mono (fun d q v H1 e r=>by
 cases d <;> first|exact PD q|skip
 rename_i k;cases r;refine⟨k,rfl,?_⟩;cases k
 ·exact q _ H1 e rfl
 ·exact⟨f,O,ss,S.ex e,tb.mono (fun k q v H2 e2 r=>q v H2 (e.trans e2) r) q⟩) q⟩
theorem dOr.ok(ha:PE X a (LE X.K ta))(hb:PE X (.BoolOp .Or (b::rest) pos) (LE X.K tb)):PE X (.BoolOp .Or (a::b::rest) pos) (LE X.K (dOr ta tb)):=(MC ha hb).weak fun σ H Q ⟨f,O,ss,S,q⟩=>⟨f,O,ss,S,ta.mono (fun d q v H1 e r=>by
 cases d <;> first|exact PD q|skip
 rename_i k;cases r;refine⟨k,rfl,?_⟩;cases k
 ·exact⟨f,O,ss,S.ex e,tb.mono (fun k q v H2 e2 r=>q v H2 (e.trans e2) r) q⟩
 ·exact q _ H1 e rfl) q⟩
theorem sY.ok(ha:PE X a (LE X.K ta)):PE X (.UnaryOp .Not a pos) (LE X.K (sY ta)):=(KE (pos:=pos) ha).weak fun σ H Q ⟨f,O,ss,S,q⟩=>⟨f,O,ss,S,ta.mono (fun d q v H1 e r=>by
 cases d <;> first|exact PD q|skip
 rename_i k;cases r;exact⟨k,rfl,q _ H1 e rfl⟩) q⟩
def qL(c:TTd)(a b:TEd):TEd:=⟨fun ss Q=>c.run ss fun k=>if k=true then a.run ss Q else b.run ss Q,fun {ss Q Q'} h q=>c.mono (fun k q=>by
 revert q;cases k
 ·exact b.mono h
 ·exact a.mono h) q⟩
theorem qL.ok(hc:PT X c (LT X.K tA))(ha:PE X a (LE X.K ta))(hb:PE X b (LE X.K tb)):PE X (.IfExp c a b pos) (LE X.K (qL tA ta tb)):=(F3 (pos:=pos) hc ha hb).weak fun σ H Q ⟨f,O,ss,S,q⟩=>⟨f,O,ss,S,tA.mono (fun k q H1 e=>by
 cases k
 ·exact⟨f,O,ss,S.ex e,tb.mono (fun k q v H2 e2 r=>q v H2 (e.trans e2) r) q⟩
 ·exact⟨f,O,ss,S.ex e,ta.mono (fun k q v H2 e2 r=>q v H2 (e.trans e2) r) q⟩) q⟩
def iT:TAd:=⟨fun _ Q=>Q [],fun h q=>h _ q⟩
def iR(a:TEd)(r:TAd):TAd:=⟨fun ss Q=>a.run ss fun d=>r.run ss fun ds=>Q (d::ds),fun h q=>a.mono (fun d q=>r.mono (fun ds q=>h _ q) q) q⟩
theorem iT.ok:PA X [] (LA X.K iT):=pa_nil.weak fun σ H Q ⟨f,O,ss,S,q⟩=>q [] H (Ex.refl S.fl) rfl
theorem iR.ok(ha:PE X a (LE X.K ta))(hr:PA X es (LA X.K t))(hs:PN (a::es) X.env=(false,eval a X.env)::PN es X.env):PA X (a::es) (LA X.K (iR ta t)):=(uu ha hr hs).weak fun σ H Q ⟨f,O,ss,S,q⟩ =>
 ⟨f,O,ss,S,ta.mono (fun d q v H1 e r=>⟨f,O,ss,S.ex e,t.mono (fun ds q vs H2 e2 r2=>q (v::vs) H2 (e.trans e2) ⟨v,vs,rfl,(S.ex e).up e2 r,r2⟩) q⟩) q⟩
def jg(t:TAd):TEd:=⟨fun ss Q=>t.run ss fun ds=>ds.length<=sizeLine/\Q (.tup ds),fun h q=>t.mono (fun ds q=>⟨q.1,h _ q.2⟩) q⟩
def je(t:TAd):TEd:=⟨fun ss Q=>t.run ss fun ds=>ds.length<=sizeLine/\Q (.lst ds),fun h q=>t.mono (fun ds q=>⟨q.1,h _ q.2⟩) q⟩
theorem jg.ok(h:PA X es (LA X.K t)):PE X (.Tuple es k pos) (LE X.K (jg t)):=(KB h).weak fun σ H Q ⟨f,O,ss,S,q⟩ =>
 ⟨f,O,ss,S,t.mono (fun ds q vs H1 e r=>⟨by rw[r.len];exact q.1,fun p hp=>q.2 _ _ (e.trans ((S.ex e).new hp _)) ((S.ex e).tup hp r)⟩) q⟩
theorem je.ok(h:PA X es (LA X.K t)):PE X (.List es pos) (LE X.K (je t)):=(Cq h).weak fun σ H Q ⟨f,O,ss,S,q⟩ =>
 ⟨f,O,ss,S,t.mono (fun ds q vs H1 e r=>⟨by rw[r.len];exact q.1,fun p hp=>q.2 _ _ (e.trans ((S.ex e).new hp _)) ((S.ex e).lst hp r)⟩) q⟩
def itD(l:List D)(i:Int)(Q:D->Prop):Prop:=match Aj l i with|some d=>Q d|none=>False
theorem itD.mono(h:∀ d,Q d->Q' d):itD l i Q->itD l i Q':=by
 unfold itD;split
 ·exact h _
 ·exact id
theorem itD.rp(r:Rps K f O H l xs)(q:itD l i Q):∃ v d,Aj xs i=some v/\Rp K f O H d v/\Q d:=by
 unfold itD at q;split at q
 ·rename_i d e;unfold Aj at e ⊢;rw[r.len];cases h:CF l.length i with
  | none=>rw[h] at e;cases e
  | some j =>
   rw[h] at e;obtain⟨v,h1,h2⟩:=r.get (show l[j]? = some d from e);exact⟨v,d,h1,h2,q⟩
 ·exact q.elim
def oIx:OD
 | .lst l,.int i,Q=>itD l i Q
 | .tup l,.int i,Q=>itD l i Q
 | .str z,.int i,Q=>z.length<=sizeLine/\∃ c,Aj z.cps.toList i=some c/\Q (.str ⟨#[c]⟩)
 | .dct ks l,.int i,Q=>∃(j:Nat) (d:D),ks[j]? = some (Sum.inl i)/\l[j]? = some d/\Q d
 | .dct ks l,.str x,Q=>∃(j:Nat) (d:D),ks[j]? = some (Sum.inr x)/\l[j]? = some d/\Q d
 | _,_,_=>False
theorem oIx.mono:∀{x y Q Q'},(∀ d,Q d->Q' d)->oIx x y Q->oIx x y Q':=by
 intro x y Q Q' h;cases x <;> cases y <;> intro q <;> first|exact itD.mono h q|exact q|skip
 ·obtain⟨q0,c,q1,q2⟩:=q;exact⟨q0,c,q1,h _ q2⟩
 ·obtain⟨j,d,q0,q1,q2⟩:=q;exact⟨j,d,q0,q1,h _ q2⟩
 ·obtain⟨j,d,q0,q1,q2⟩:=q;exact⟨j,d,q0,q1,h _ q2⟩
def Mn(K:Frag):R2:=fun x y H Q=>OM K x y H Q\/Mq x y H Q
theorem GA:IxR X (Mn X.K):=ix_seq.or IA
theorem GP{ks:List zl}{l:List D}{us:List V}{j:Nat}{k:zl}{d:D}(h1:ks[j]? = some k)(h2:l[j]? = some d)(r:Rps K f O H l us):∃ v,(k,v)∈ks.zip us/\Rp K f O H d v:=by
 obtain⟨v,hv,rv⟩:=r.get h2;exact⟨v,aO (i:=j) (by rw[List.getElem?_zip_eq_some];exact⟨h1,hv⟩),rv⟩
theorem Jh:RD X.K (Mn X.K) oIx:=by
 intro f O σ ss H dx dy x y Q R rx ry h;cases dx <;> cases dy <;> first|(exact PD h)|skip
 ·rename_i z i;cases rx;cases ry;obtain⟨q0,c,q1,q2⟩:=h;exact .inl (.inr (.inr ⟨z,i,c,rfl,rfl,q0,q1,q2 _ H (Ex.refl R.fl) rfl⟩))
 ·rename_i l i;obtain⟨p,xs,rfl,h1,h2⟩:=rx;cases ry;obtain⟨v,d,e,r,q⟩:=itD.rp h2 h;exact .inl (.inr (.inl ⟨p,xs,i,v,rfl,rfl,h1,e,q v H (Ex.refl R.fl) r⟩))
 ·rename_i l i;obtain⟨p,xs,rfl,_,h1,h2⟩:=rx;cases ry;obtain⟨v,d,e,r,q⟩:=itD.rp h2 h;exact .inl (.inl ⟨p,xs,i,v,rfl,rfl,SqL.of h1,e,q v H (Ex.refl R.fl) r⟩)
 ·rename_i ks l i;obtain⟨p,us,rfl,h1,h2,h3⟩:=rx;cases ry;obtain⟨j,d,e1,e2,q⟩:=h;obtain⟨v,hm,rv⟩:=GP e1 e2 h3;exact .inr ⟨p,_,.inl i,v,rfl,rfl,h1,hm,q v H (Ex.refl R.fl) rv⟩
 ·rename_i ks l x;obtain⟨p,us,rfl,h1,h2,h3⟩:=rx;cases ry;obtain⟨j,d,e1,e2,q⟩:=h;obtain⟨v,hm,rv⟩:=GP e1 e2 h3;exact .inr ⟨p,_,.inr x,v,rfl,rfl,h1,hm,q v H (Ex.refl R.fl) rv⟩
def dIx(a b:TEd):TEd:=d2 oIx oIx.mono a b
theorem dIx.ok(ha:PE X a (LE X.K ta))(hb:PE X b (LE X.K tb))(hs:yq b):PE X (.Subscript a b pos) (LE X.K (dIx ta tb)):=d2.ok Jh (uY GA ha hb hs)
def itI(l:List D)(y:D)(Q:D->Prop):Prop:=match y with | .int j=>itD l j Q|_=>False
theorem itI.mono(h:∀ d,Q d->Q' d):itI l y Q->itI l y Q':=by
 cases y <;> first|exact id|exact itD.mono h
def pR(i:Nat)(b:TEd):TEd:=⟨fun ss Q=>match ss[i]? with|some (.val d)=>b.run ss fun y=>oIx d y Q|some (.own l)=>b.run ss fun y=>itI l y Q|_=>False,fun {ss Q Q'} h q=>by
 revert q;split
 ·exact b.mono fun y=>oIx.mono h
 ·exact b.mono fun y=>itI.mono h
 ·exact id⟩
theorem pR.ok(ha:PE X a (wV i))(hb:PE X b (LE X.K tb))(hs:yq b):PE X (.Subscript a b pos) (LE X.K (pR i tb)):=(uY (pos:=pos) GA ha hb hs).weak fun σ H Q ⟨f,O,ss,R,q⟩=>by
 have q:(match ss[i]? with|some (.val d)=>tb.run ss fun y=>oIx d y (fun d=>∀ v H',Ex f H H'->Rp X.K f O H' d v->Q v H')|some (.own l)=>tb.run ss fun y=>itI l y (fun d=>∀ v H',Ex f H H'->Rp X.K f O H' d v->Q v H')|_=>False):=q;split at q
 ·rename_i d e;obtain⟨v,h1,h2⟩:=R.val i d e;refine⟨v,h1,f,O,ss,R,tb.mono (fun dy q y H1 e1 r1=>?_) q⟩;exact Jh f O σ ss H1 d dy v y Q (R.ex e1) (R.up e1 h2) r1 (oIx.mono (fun d q v H' e r=>q v H' (e1.trans e) r) q)
 ·rename_i l e;obtain⟨p,xs,h1,h2,h3,h4,h5⟩:=R.own i l e;refine⟨_,h1,f,O,ss,R,tb.mono (fun dy q y H1 e1 r1=>?_) q⟩;cases dy <;> first|exact PD q|skip
  cases r1;obtain⟨v,d,e,r,q⟩:=itD.rp (R.ups e1 h5) q;exact .inl (.inl ⟨p,xs,_,v,rfl,rfl,SqL.of (e1.sm.app p _ h3 h4),e,q v H1 e1 r⟩)
 ·exact q.elim
def xv{α:Type}(xs:List α)(lo hi:Option Int):List α:=(xs.drop (HT.uJ xs.length 0 lo)).take (HT.uJ xs.length xs.length hi-HT.uJ xs.length 0 lo)
theorem Rps.cut(r:Rps K f O H ds xs)(lo hi:Option Int):Rps K f O H (xv ds lo hi) (BV xs lo hi):=by
 unfold xv BV;rw[r.len];exact (r.drop _).take _
def dNo:TOd:=⟨fun _ Q=>Q none,fun h q=>h _ q⟩
def kH(t:TEd):TOd:=⟨fun ss Q=>t.run ss fun d=>match d with | .int i=>Q (some i)|_=>False,fun {ss Q Q'} h q=>t.mono (fun d q=>by
 revert q;cases d <;> first|exact h _|exact id) q⟩
theorem dNo.ok:PO X none (LO X.K dNo):=po_none.weak fun σ H Q ⟨f,O,ss,S,q⟩=>q H (Ex.refl S.fl)
theorem kH.ok(ha:PE X a (LE X.K ta)):PO X (some a) (LO X.K (kH ta)):=(DE ha).weak fun σ H Q ⟨f,O,ss,S,q⟩=>⟨f,O,ss,S,ta.mono (fun d q v H1 e r=>by
 cases d <;> first|exact PD q|skip
 cases r;exact⟨_,rfl,q H1 e⟩) q⟩
def slD(d:D)(lo hi:Option Int)(Q:D->Prop):Prop:=match d with
 | .lst l=>Q (.lst (xv l lo hi))
 | .tup l=>True/\Q (.tup (xv l lo hi))
 | _=>False
theorem slD.mono(h:∀ d,Q d->Q' d):slD d lo hi Q->slD d lo hi Q':=by
 cases d <;> intro q <;> first|exact h _ q|exact⟨q.1,h _ q.2⟩|exact q
theorem Ft:SlR X (fun x lo hi H Q=>∃ a xs,x = .ref a/\SqT X.K H a xs/\(HT.uJ xs.length 0 lo=0/\HT.uJ xs.length xs.length hi=xs.length)/\Q (.ref a) H):=by
 intro pins s σ H x v vl vu lo hi sl Q I rx hs pl pu h;obtain⟨a,xs,e,hx,hw,q⟩:=h;subst e;cases rx;obtain⟨its,r,ht,hz⟩:=I.tuple hx;have hlen:its.toArray.size=xs.length:=by rw[am];exact r.length.symm
 exact⟨"tuple",_,PyProof.Rows.slot_tuple_getitem.lookup,ht.typeIs,HT.wg ht hs pl pu (by rw[hlen];exact hw) ⟨.ref a,H,I,rfl,q⟩⟩
def dSl(a:TEd)(l u:TOd):TEd:=⟨fun ss Q=>a.run ss fun d=>l.run ss fun lo=>u.run ss fun hi=>slD d lo hi Q,fun h q=>a.mono (fun d q=>l.mono (fun lo q=>u.mono (fun hi q=>slD.mono h q) q) q) q⟩
theorem dSl.ok(ha:PE X a (LE X.K ta))(hl:PO X lo (LO X.K tl))(hu:PO X hi (LO X.K tu)):PE X (.Subscript a (.Slice lo hi none p2) pos) (LE X.K (dSl ta tl tu)):=by
 refine (F2 (pos:=pos) (p2:=p2) (sl_list.or (sl_tup.or Ft)) ha hl hu).weak fun σ H Q ⟨f,O,ss,S,q⟩=>?_;refine⟨f,O,ss,S,ta.mono (fun d q v H1 e1 r=>?_) q⟩;have S1:=S.ex e1;refine⟨f,O,ss,S1,tl.mono (fun lo q H2 e2=>?_) q⟩;have S2:=S1.ex e2;refine⟨f,O,ss,S2,tu.mono (fun hi q H3 e3=>?_) q⟩;have S3:=S2.ex e3;have r:=S2.up e3 (S1.up e2 r);cases d <;> first|exact PD q|skip
 ·have r':=r;obtain⟨p,xs,rfl,h1,h2⟩:=r;by_cases hw:HT.uJ xs.length 0 lo=0/\HT.uJ xs.length xs.length hi=xs.length
  ·refine .inr (.inr ⟨p,xs,rfl,h1,hw,q.2 _ _ (e1.trans (e2.trans e3)) ?_⟩);unfold xv;rw[← h2.len,hw.1,hw.2,fu,bP,h2.len,b9];exact r'
  ·exact .inr (.inl ⟨p,xs,rfl,h1,hw,fun p hp=>q.2 _ _ (e1.trans (e2.trans (e3.trans (S3.new hp _)))) (S3.tup hp (h2.cut _ _))⟩)
 ·rename_i l;obtain⟨p,xs,rfl,_,h1,h2⟩:=r;exact .inl ⟨p,xs,rfl,SqL.of h1,fun p hp=>q _ _ (e1.trans (e2.trans (e3.trans (S3.new hp _)))) (S3.lst hp (h2.cut _ _))⟩
def qM(a:TEd):TEd:=⟨fun ss Q=>a.run ss fun d=>match d with | .lst l=>Q (.lst l.reverse)|_=>False,fun {ss Q Q'} h q=>a.mono (fun d q=>by
 revert q;cases d <;> first|exact h _|exact id) q⟩
theorem qM.ok{k:Nat}(ha:PE X a (LE X.K ta)):PE X (.Subscript a (.Slice none none (some (.UnaryOp .USub (.Constant (.int 1) j p1) p3)) p2) pos) (LE X.K (qM ta)):=by
 refine (ED (pos:=pos) (p2:=p2) (N2 X.K) ha po_none po_none (DE (Jm (pos:=p3) Fa (um (j:=j) (pos:=p1))))).weak fun σ H Q ⟨f,O,ss,S,q⟩=>?_;refine⟨f,O,ss,S,ta.mono (fun d q v H1 e1 r=>?_) q⟩;have S1:=S.ex e1;cases d <;> first|exact PD q|skip
 rename_i l;obtain⟨p,xs,rfl,_,h1,h2⟩:=r;exact⟨_,rfl,_,rfl,rfl,rfl,rfl,p,xs,rfl,SqL.of h1,fun p hp=>q _ _ (e1.trans (S1.new hp _)) (S1.lst hp h2.reverse)⟩
abbrev BD:=List D->(D->Prop)->Prop
def dB(o:BD)(m:∀{ds Q Q'},(∀ d,Q d->Q' d)->o ds Q->o ds Q')(t:TAd):TEd:=⟨fun ss Q=>t.run ss fun ds=>o ds Q,fun h q=>t.mono (fun ds q=>m h q) q⟩
def RC(K:Frag)(r:List V->Hp->VK->Prop)(o:BD):Prop:=∀(f:Addr) (O:List Addr) (σ:St) (ss:SS) (H:Hp) (ds:List D) (vs:List V) (Q:VK),SlD K f O σ H ss->Rps K f O H ds vs->o ds (fun d=>∀ v H',Ex f H H'->Rp K f O H' d v->Q v H')->r vs H Q
theorem dB.ok(hr:RC X.K r o)(h:PE X e (NS r (LA X.K t))):PE X e (LE X.K (dB o m t)):=h.weak fun σ H Q ⟨f,O,ss,S,q⟩ =>
 ⟨f,O,ss,S,t.mono (fun ds q vs H1 e1 r1=>hr f O σ ss H1 ds vs Q (S.ex e1) r1 (m (fun d q v H' e r=>q v H' (e1.trans e) r) q)) q⟩
def RB(X:Cx)(g:Value)(o:BD):Prop:=∃ r,CallR X g r/\RC X.K r o
theorem CallR.or2(h:CallR X g r)(h':CallR X g r'):CallR X g (fun xs H Q=>r xs H Q\/r' xs H Q):=fun pins s σ H xs us Q I rx q=>q.elim (h pins s σ H xs us Q I rx) (h' pins s σ H xs us Q I rx)
def bLen:BD
 | [.lst l],Q=>Q (.int l.length)
 | [.tup l],Q=>Q (.int l.length)
 | [.str z],Q=>z.length<=sizeLine/\Q (.int z.length)
 | _,_=>False
def bAbs:BD
 | [.int i],Q=>Q (.int (if i<0 then -i else i))
 | _,_=>False
def bAll:BD
 | [.lst l],Q=>∃ bs:List Bool,l=bs.map D.bl/\Q (.bl (bs.all id))
 | _,_=>False
def bSum:BD
 | [.lst l],Q=>∃ ns:List Int,l=ns.map D.int/\Q (.int ns.sum)
 | [.tup l],Q=>∃ ns:List Int,l=ns.map D.int/\Q (.int ns.sum)
 | _,_=>False
def bMax:BD
 | [.int i,.int j],Q=>Q (.int (if j > i then j else i))
 | [.lst l],Q=>∃ ns:List Int,l=ns.map D.int/\ns≠[]/\∀ M,M∈ns->(∀ a∈ns,a<=M)->Q (.int M)
 | _,_=>False
def bInt:BD
 | [.int i],Q=>Q (.int i)
 | [.bl k],Q=>Q (.int (if k then 1 else 0))
 | _,_=>False
def bList:BD
 | [.lst l],Q=>Q (.lst l)
 | [.tup l],Q=>Q (.lst l)
 | _,_=>False
def bTuple:BD
 | [.lst l],Q=>Q (.tup l)
 | [.tup l],Q=>Q (.tup l)
 | _,_=>False
end Dp
namespace Dp
open PySem L2
variable{K:Frag}{f:Addr}{O O':List Addr}{H H':Hp}{X:Cx}{σ:St}{ss:SS}{a b c:Expr}{ta tb tc:TEd}{tA tB:TTd}{pos:Pos}
theorem Rps.one(h:Rps K f O H [d] vs):∃ v,vs=[v]/\Rp K f O H d v:=by
 obtain⟨v,r,e,h1,h2⟩:=h;cases (show r=[] from h2);exact⟨v,e,h1⟩
theorem Rps.two(h:Rps K f O H [d,d'] vs):∃ v v',vs=[v,v']/\Rp K f O H d v/\Rp K f O H d' v':=by
 obtain⟨v,r,e,h1,h2⟩:=h;obtain⟨w,e2,h3⟩:=Rps.one h2;subst e2;exact⟨v,w,e,h1,h3⟩
theorem bLen.mono:∀{ds Q Q'},(∀ d,Q d->Q' d)->bLen ds Q->bLen ds Q':=by
 intro ds Q Q' h;unfold bLen;split <;> first|exact h _|exact fun q=>⟨q.1,h _ q.2⟩|exact id
theorem bAbs.mono:∀{ds Q Q'},(∀ d,Q d->Q' d)->bAbs ds Q->bAbs ds Q':=by
 intro ds Q Q' h;unfold bAbs;split <;> first|exact h _|exact id
theorem bAll.mono:∀{ds Q Q'},(∀ d,Q d->Q' d)->bAll ds Q->bAll ds Q':=by
 intro ds Q Q' h;unfold bAll;split <;> first|exact fun⟨bs,e,q⟩=>⟨bs,e,h _ q⟩|exact id
theorem bSum.mono:∀{ds Q Q'},(∀ d,Q d->Q' d)->bSum ds Q->bSum ds Q':=by
 intro ds Q Q' h;unfold bSum;split <;> first|exact fun⟨bs,e,q⟩=>⟨bs,e,h _ q⟩|exact id
theorem bMax.mono:∀{ds Q Q'},(∀ d,Q d->Q' d)->bMax ds Q->bMax ds Q':=by
 intro ds Q Q' h;unfold bMax;split <;> first|exact h _|exact fun⟨bs,e,n,q⟩=>⟨bs,e,n,fun M m l=>h _ (q M m l)⟩|exact id
theorem bInt.mono:∀{ds Q Q'},(∀ d,Q d->Q' d)->bInt ds Q->bInt ds Q':=by
 intro ds Q Q' h;unfold bInt;split <;> first|exact h _|exact id
theorem bList.mono:∀{ds Q Q'},(∀ d,Q d->Q' d)->bList ds Q->bList ds Q':=by
 intro ds Q Q' h;unfold bList;split <;> first|exact h _|exact id
theorem bTuple.mono:∀{ds Q Q'},(∀ d,Q d->Q' d)->bTuple ds Q->bTuple ds Q':=by
 intro ds Q Q' h;unfold bTuple;split <;> first|exact h _|exact id
theorem FK:RB X (.builtin "len") bLen:=by
 refine⟨_,CallR.or2 (KW X.K) A1,fun f O σ ss H ds vs Q S r h=>?_⟩;unfold bLen at h;split at h
 ·obtain⟨v,rfl,p,xs,rfl,_,h1,h2⟩:=Rps.one r;refine .inl ⟨p,xs,rfl,.inl (SqL.of h1),?_⟩;rw[h2.len];exact h _ H (Ex.refl S.fl) rfl
 ·obtain⟨v,rfl,p,xs,rfl,h1,h2⟩:=Rps.one r;refine .inl ⟨p,xs,rfl,.inr h1,?_⟩;rw[h2.len];exact h _ H (Ex.refl S.fl) rfl
 ·obtain⟨v,rfl,e⟩:=Rps.one r;cases e;exact .inr ⟨_,rfl,h.1,h.2 _ H (Ex.refl S.fl) rfl⟩
 ·exact h.elim
theorem Kn:RB X (.builtin "abs") bAbs:=by
 refine⟨_,Hf,fun f O σ ss H ds vs Q S r h=>?_⟩;unfold bAbs at h;split at h
 ·obtain⟨v,rfl,e⟩:=Rps.one r;cases e;exact⟨_,rfl,h _ H (Ex.refl S.fl) rfl⟩
 ·exact h.elim
theorem Km(hc:X.calm=true):RB X (.builtin "all") bAll:=by
 refine⟨_,Ou X.K hc,fun f O σ ss H ds vs Q S r h=>?_⟩;unfold bAll at h;split at h
 ·obtain⟨bs,rfl,h⟩:=h;obtain⟨v,rfl,p,xs,rfl,_,h1,h2⟩:=Rps.one r;cases h2.bls;exact⟨p,bs,rfl,SqL.of h1,h _ H (Ex.refl S.fl) rfl⟩
 ·exact h.elim
theorem NY(K:PM)(hc:X.calm=true:=by rfl)(hK:X.K=K:=by rfl):CallR X (.builtin "sum") (fun xs H Q=>∃ p,∃ ns:List Int,xs=[.ref p]/\SqT K H p (ns.map V.int)/\Q (.int ns.sum) H):=by
 subst hK;intro pins s σ H xs us Q I rv h;obtain⟨p,ns,rfl,hp,q⟩:=h;obtain⟨u,rfl,ru⟩:=rv.one;cases ru;obtain⟨its,rv',pl,_⟩:=I.tuple hp;obtain⟨ys,e1,e2⟩:=wa rv';subst e1;have hl:s.heap.IsTuple p (intItems ys.toArray):=by
  have:intItems ys.toArray=(ys.map (fun p=>Value.int p.1 p.2)).toArray:=by simp[intItems]
  rw[this];exact pl
 refine PySem.W.ktm_sumG (I.ok.hd hc) hl fun h' tk t' hk=>?_;refine⟨.int _,H,I.kept (t':=tk) hk,⟨t',rfl⟩,?_⟩;have:preSum (numAt ys.toArray) ys.toArray.size=ns.sum:=by
  have e:numAt ys.toArray=fun i=>ns.getD i 0:=by
   funext i;rw[numAt_eq,← e2]
  have l:ys.toArray.size=ns.length:=by rw[← e2];simp
  rw[e,l,xH ns _ (ak _),b9]
 rw[this];exact q
theorem Kj(hc:X.calm=true):RB X (.builtin "sum") bSum:=by
 refine⟨_,CallR.or2 (NZ X.K hc) (NY X.K hc),fun f O σ ss H ds vs Q S r h=>?_⟩;unfold bSum at h;split at h
 ·obtain⟨bs,rfl,h⟩:=h;obtain⟨v,rfl,p,xs,rfl,_,h1,h2⟩:=Rps.one r;cases h2.ints;exact .inl ⟨p,bs,rfl,SqL.of h1,h _ H (Ex.refl S.fl) rfl⟩
 ·obtain⟨bs,rfl,h⟩:=h;obtain⟨v,rfl,p,xs,rfl,h1,h2⟩:=Rps.one r;cases h2.ints;exact .inr ⟨p,bs,rfl,h1,h _ H (Ex.refl S.fl) rfl⟩
 ·exact h.elim
theorem Kk(hc:X.calm=true):RB X (.builtin "max") bMax:=by
 refine⟨_,CallR.or2 (EZ hc) (Oc X.K hc),fun f O σ ss H ds vs Q S r h=>?_⟩;unfold bMax at h;split at h
 ·obtain⟨v,v',rfl,e1,e2⟩:=Rps.two r;cases e1;cases e2;exact .inl ⟨_,_,rfl,h _ H (Ex.refl S.fl) rfl⟩
 ·obtain⟨bs,rfl,n,h⟩:=h;obtain⟨v,rfl,p,xs,rfl,_,h1,h2⟩:=Rps.one r;cases h2.ints;exact .inr ⟨p,bs,rfl,SqL.of h1,n,fun M m l=>h M m l _ H (Ex.refl S.fl) rfl⟩
 ·exact h.elim
theorem Kl:RB X (.type "int") bInt:=by
 refine⟨_,E1,fun f O σ ss H ds vs Q S r h=>?_⟩;unfold bInt at h;split at h
 ·obtain⟨v,rfl,e⟩:=Rps.one r;cases e;exact .inl ⟨_,rfl,h _ H (Ex.refl S.fl) rfl⟩
 ·obtain⟨v,rfl,e⟩:=Rps.one r;cases e;exact .inr ⟨_,rfl,h _ H (Ex.refl S.fl) rfl⟩
 ·exact h.elim
theorem HK:RB X (.type "list") bList:=by
 refine⟨_,CC X.K,fun f O σ ss H ds vs Q S r h=>?_⟩;unfold bList at h;split at h
 ·obtain⟨v,rfl,p,xs,rfl,_,h1,h2⟩:=Rps.one r;exact⟨p,xs,rfl,.inl (SqL.of h1),fun l hl=>h _ _ (S.new hl _) (S.lst hl h2)⟩
 ·obtain⟨v,rfl,p,xs,rfl,h1,h2⟩:=Rps.one r;exact⟨p,xs,rfl,.inr h1,fun l hl=>h _ _ (S.new hl _) (S.lst hl h2)⟩
 ·exact h.elim
theorem FI:RB X (.type "tuple") bTuple:=by
 refine⟨_,Hz X.K,fun f O σ ss H ds vs Q S r h=>?_⟩;unfold bTuple at h;split at h
 ·obtain⟨v,rfl,p,xs,rfl,_,h1,h2⟩:=Rps.one r;exact⟨p,xs,rfl,.inl ⟨SqL.of h1,fun l hl=>h _ _ (S.new hl _) (S.tup hl h2)⟩⟩
 ·obtain⟨v,rfl,p,xs,rfl,h1,h2⟩:=Rps.one r;exact⟨p,xs,rfl,.inr ⟨h1,h _ H (Ex.refl S.fl) ⟨p,xs,rfl,h1,h2⟩⟩⟩
 ·exact h.elim
def ON(p:List Int×Int):D:=.tup [.tup (p.1.map .int),.int p.2]
theorem KI(p:List Int×Int):(ON p).pl=true:=by
 show (D.pls (p.1.map D.int) && true)=true;rw[D.pls_ints];rfl
theorem AC:∀(ps:List (List Int×Int)),D.pls (ps.map ON)=true
 | []=>rfl
 | p::ps=>ax.mpr ⟨KI p,AC ps⟩
theorem FD:∀{ns:List Int} {xs:List V},Rps K f O H (ns.map D.int) xs->xs=ns.map V.int
 | [],_,h=>h
 | n::ns,_,⟨v,r,e,h1,h2⟩=>by
  rw[e,show v=V.int n from h1,FD h2];rfl
theorem FC:∀{ns:List Int},Rps K f O H (ns.map D.int) (ns.map V.int)
 | []=>rfl
 | n::ns=>⟨_,_,rfl,rfl,FC⟩
theorem E2:P0 "sorted" = some (.builtin "sorted"):=by decide +kernel
structure BB where
 run:BD
 mono:∀{ds Q Q'},(∀ d,Q d->Q' d)->run ds Q->run ds Q'
def mS(i:Nat):TEd:=⟨fun ss Q=>match ss[i]? with|some (.val d)=>bLen [d] Q|some (.own l)=>Q (.int l.length)|_=>False,fun {ss Q Q'} h q=>by
 revert q;split
 ·exact bLen.mono h
 ·exact h _
 ·exact id⟩
theorem mS.ok(hg:Gl X "len")(hm:X.mg "len" = none)(ha:PE X a (wV i))(hs:PN [a] X.env=[(false,eval a X.env)]):PE X (.Call (.Name "len" p) [a] [] pos) (LE X.K (mS i)):=by
 obtain⟨r,h1,h2⟩:=FK (X:=X);refine (yO (p:=p) (pos:=pos) (CallR.or2 h1 (KW X.K)) hg hm C9 (uu ha pa_nil hs) (by decide) (by decide) hs rfl).weak fun σ H Q ⟨f,O,ss,S,q⟩=>?_;have q:(match ss[i]? with|some (.val d)=>bLen [d] (fun d=>∀ v H',Ex f H H'->Rp X.K f O H' d v->Q v H')|some (.own l)=>(∀ v H',Ex f H H'->Rp X.K f O H' (.int l.length) v->Q v H')|_=>False):=q;split at q
 ·rename_i d e;obtain⟨v,w1,w2⟩:=S.val i d e;exact⟨v,w1,.inl (h2 f O σ ss H [d] [v] Q S ⟨v,[],rfl,w2,rfl⟩ q)⟩
 ·rename_i l e;obtain⟨p0,xs,w1,w2,w3,w4,w5⟩:=S.own i l e;refine⟨_,w1,.inr ⟨p0,xs,rfl,.inl (SqL.of w4),?_⟩⟩;rw[w5.len];exact q _ H (Ex.refl S.fl) rfl
 ·exact q.elim
structure SpB where
 n:Nat
 run:OW
 mono:∀{ds Q Q'},(∀ d,Q d->Q' d)->run ds Q->run ds Q'
def SpB.of(n:Nat){α:Type}(pre:α->List D->Prop)(post:α->D->Prop):SpB:=⟨n,fun ds Q=>∃ x,pre x ds/\∀ d,post x d->Q d,fun h ⟨x,p,q⟩=>⟨x,p,fun d r=>h _ (q d r)⟩⟩
def iU(s:SpB)(t:TAd):TEd:=⟨fun ss Q=>t.run ss fun ds=>ds.length=s.n/\s.run ds Q,fun h q=>t.mono (fun ds q=>⟨q.1,s.mono h q.2⟩) q⟩
theorem iU.ok(h:PE X e (Dl (Bf X.K s.n s.run) [] E0 (LA X.K t))):PE X e (LE X.K (iU s t)):=h.weak fun σ H Q ⟨f,O,ss,S,q⟩ =>
 ⟨f,O,ss,S,t.mono (fun ds q vs H1 e1 r1=>by
  have S1:=S.ex e1;refine⟨by rw[cP,r1.len];exact q.1,f,O,ds,S1.fl,S1.fO,S1.al,S1.lO,by rw[cP];exact r1,?_⟩;exact s.mono (fun d q v H' e r=>q v H' (e1.trans e) r) q.2) q⟩
end Dp
namespace Dp
open PySem L2
variable{K:Frag}{f:Addr}{O O':List Addr}{H H':Hp}{X:Cx}{σ:St}{ss:SS}{a b c:Expr}{ta tb tc:TEd}{tA tB:TTd}{pos:Pos}
mutual
theorem Rp.moved(e:∀ a∈O',a∈O\/H a=none)(k:Kp O H H')(hO:∀ b∈O,∃ xs,H b=some (.lst xs)):∀{d:D} {v:V},Rp K f O H d v->Rp K f O' H' d v
 | .non,_,h=>h
 | .bl _,_,h=>h
 | .int _,_,h=>h
 | .str _,_,h=>h
 | .fl,_,h=>h
 | .tup l,v,h=>by
  obtain⟨a,xs,e1,h1,h2⟩:=h;exact⟨a,xs,e1,h1.kp k hO,Rps.moved e k hO h2⟩
 | .lst l,v,h=>by
  obtain⟨a,xs,e1,n,h1,h2⟩:=h;refine⟨a,xs,e1,fun z=>?_,k a _ n h1,Rps.moved e k hO h2⟩;rcases e a z with q|q
  ·exact n q
  ·rw[h1] at q;cases q
 | .exn C x l,v,h=>by
  obtain⟨a,us,e1,h1,h2⟩:=h;exact⟨a,us,e1,h1.kp k hO,Rps.moved e k hO h2⟩
 | .dct ks l,v,h=>by
  obtain⟨a,us,e1,h1,h2,h3⟩:=h;exact⟨a,us,e1,k a _ (fun z=>by obtain⟨xs,q⟩:=hO a z;rw[q] at h1;cases h1) h1,h2,Rps.moved e k hO h3⟩
theorem Rps.moved(e:∀ a∈O',a∈O\/H a=none)(k:Kp O H H')(hO:∀ b∈O,∃ xs,H b=some (.lst xs)):∀{ds:List D} {vs:List V},Rps K f O H ds vs->Rps K f O' H' ds vs
 | [],_,h=>h
 | d::ds,_,h=>by
  obtain⟨v,r,e1,h1,h2⟩:=h;exact⟨v,r,e1,Rp.moved e k hO h1,Rps.moved e k hO h2⟩
end
structure ItD (K:Frag)(f:Addr)(O:List Addr)(J:It)(H1:Hp)(ds:List D):Prop where
 go:∀ H' i,Kp O H1 H'->i<ds.length->J.go i H'
 yld:∀ O' H' i x H'',(∀ a∈O',a∈O\/H1 a=none)->f∈O'->(∀ a∈O',∃ xs,H' a=some (.lst xs))->Kp O H1 H'->Fl H' f->i<ds.length->J.yld i H' x H''->∃ d,ds[i]? = some d/\Ex f H' H''/\Rp K f O' H'' d x
 stop:∀ H',Kp O H1 H'->J.stop ds.length H'
def LI(K:Frag)(t:TAd):TI:=fun σ H R=>∃ f O ss,SlD K f O σ H ss/\t.run ss fun ds=>∀ J H1,Ex f H H1->ItD K f O J H1 ds->R J H1
theorem _root_.L2.PI.weak(h:PI X tg e t)(w:∀ σ H Q,t' σ H Q->t σ H Q):PI X tg e t':=fun pins s σ H Q I q=>h pins s σ H Q I (w σ H Q q)
def itemsD:D->(List D->Prop)->Prop
 | .lst l,Q=>Q l
 | .tup l,Q=>Q l
 | _,_=>False
theorem itemsD.mono(h:∀ d,Q d->Q' d):itemsD d Q->itemsD d Q':=by
 cases d <;> first|exact h _|exact id
def jd(t:TEd):TAd:=⟨fun ss Q=>t.run ss fun d=>itemsD d Q,fun h q=>t.mono (fun d q=>itemsD.mono h q) q⟩
theorem jd.ok(h:PE X a (LE X.K ta)):PI X tg a (LI X.K (jd ta)):=(Pg X.K h).weak fun σ H R ⟨f,O,ss,S,q⟩=>⟨f,O,ss,S,ta.mono (fun d q v H1 e r=>by
 have S1:=S.ex e;cases d <;> first|exact PD q|skip
 ·rename_i l;obtain⟨p,xs,rfl,h1,h2⟩:=r;refine⟨p,rfl,.inr ⟨⟨xs,h1⟩,q _ H1 e ⟨fun H' i k hi=>?_,fun O' H' i x H'' hO hf al k F hi y=>?_,fun H' k=>?_⟩⟩⟩
  ·obtain⟨v,hv,_⟩:=h2.get (show l[i]? = some l[i] by simp[hi]);exact⟨xs,v,h1.kp k S1.al,hv⟩
  ·obtain⟨rfl,y⟩:=y;obtain⟨v,hv,r⟩:=h2.get (show l[i]? = some l[i] by simp[hi]);have:=y xs (h1.kp k S1.al);rw[hv] at this;cases this;exact⟨l[i],by simp[hi],Ex.refl F,r.moved hO k S1.al⟩
  ·exact⟨xs,h1.kp k S1.al,by rw[h2.len];exact ak _⟩
 ·rename_i l;obtain⟨p,xs,rfl,n,h1,h2⟩:=r;refine⟨p,rfl,.inl ⟨⟨xs,SqL.of h1⟩,q _ H1 e ⟨fun H' i k hi=>?_,fun O' H' i x H'' hO hf al k F hi y=>?_,fun H' k=>?_⟩⟩⟩
  ·obtain⟨v,hv,_⟩:=h2.get (show l[i]? = some l[i] by simp[hi]);exact⟨xs,v,SqL.of (k p _ n h1),hv⟩
  ·obtain⟨rfl,y⟩:=y;obtain⟨v,hv,r⟩:=h2.get (show l[i]? = some l[i] by simp[hi]);have:=y xs (SqL.of (k p _ n h1));rw[hv] at this;cases this;exact⟨l[i],by simp[hi],Ex.refl F,r.moved hO k S1.al⟩
  ·exact⟨xs,SqL.of (k p _ n h1),by rw[h2.len];exact ak _⟩) q⟩
def vN(lo:Int)(n:Nat):List D:=(List.range n).map fun i=>.int (lo+(i:Nat))
theorem uw:(vN lo n).length=n:=by simp[vN]
theorem Bg(h:i<n):(vN lo n)[i]? = some (.int (lo+(i:Nat))):=by simp[vN,h]
theorem uG(h:(vN lo n)[i]? = some d):i<n/\d = .int (lo+(i:Nat)):=by
 have:=(aj.mp h).1;rw[uw] at this;rw[Bg this] at h;exact⟨this,(PP h).symm⟩
theorem DZ:ItD K f O (Nq lo n) H1 (vN lo n):=by
 refine⟨fun H' i k hi=>?_,fun O' H' i x H'' hO hf al k F hi y=>?_,fun H' k=>?_⟩
 ·rw[uw] at hi;exact hi
 ·obtain⟨rfl,rfl⟩:=y;rw[uw] at hi;exact⟨_,Bg hi,Ex.refl F,rfl⟩
 ·rw[uw];exact ak _
def rngD:D->(List D->Prop)->Prop
 | .int j,Q => -(2^62)<=j/\j<2^62/\Q (vN 0 j.toNat)
 | _,_=>False
theorem rngD.mono(h:∀ d,Q d->Q' d):rngD d Q->rngD d Q':=by
 cases d <;> first|exact fun q=>⟨q.1,q.2.1,h _ q.2.2⟩|exact id
def rngD2:D->D->(List D->Prop)->Prop
 | .int i,.int j,Q=>(-(2^62)<=i/\i<2^62 /\ -(2^62)<=j/\j<2^62)/\Q (vN i (j-i).toNat)
 | _,_,_=>False
theorem rngD2.mono(h:∀ d,Q d->Q' d):rngD2 d d' Q->rngD2 d d' Q':=by
 cases d <;> cases d' <;> first|exact fun q=>⟨q.1,h _ q.2⟩|exact id
def mY(t:TEd):TAd:=⟨fun ss Q=>t.run ss fun d=>rngD d Q,fun h q=>t.mono (fun d q=>rngD.mono h q) q⟩
def kI(t u:TEd):TAd:=⟨fun ss Q=>t.run ss fun d=>u.run ss fun d'=>rngD2 d d' Q,fun h q=>t.mono (fun d q=>u.mono (fun d' q=>rngD2.mono h q) q) q⟩
theorem mY.ok(hg:Gl X "range")(hm:X.mg "range" = none)(ha:PE X a (LE X.K ta))(hs:PN [a] X.env=[(false,eval a X.env)]):PI X tg (.Call (.Name "range" p) [a] [] pos) (LI X.K (mY ta)) :=
 (EC (p:=p) (pos:=pos) hg hm (uu ha pa_nil hs) hs).weak fun σ H R ⟨f,O,ss,S,q⟩=>⟨f,O,ss,S,ta.mono (fun d q v H1 e r=>by
  cases d <;> first|exact PD q|skip
  cases (show v=_ from r);exact⟨_,rfl,q.1,q.2.1,q.2.2 _ H1 e DZ⟩) q⟩
theorem kI.ok(hg:Gl X "range")(hm:X.mg "range" = none)(ha:PE X a (LE X.K ta))(hb:PE X b (LE X.K tb))(hs:PN [a,b] X.env=[(false,eval a X.env),(false,eval b X.env)])(hs2:PN [b] X.env=[(false,eval b X.env)]):PI X tg (.Call (.Name "range" p) [a,b] [] pos) (LI X.K (kI ta tb)) :=
 (EB (p:=p) (pos:=pos) hg hm (uu ha (uu hb pa_nil hs2) (by rw[hs,hs2])) hs hs2).weak fun σ H R ⟨f,O,ss,S,q⟩=>⟨f,O,ss,S,ta.mono (fun d q v H1 e r=>⟨f,O,ss,S.ex e,tb.mono (fun d' q v' H2 e2 r'=>by
  cases d <;> cases d' <;> first|exact PD q|skip
  cases (show v=_ from r);cases (show v'=_ from r');exact⟨_,_,rfl,q.1,q.2 _ H2 (e.trans e2) DZ⟩) q⟩) q⟩
def Sub(σ:St)(ss:SS)(σ':St)(ss':SS):Prop:=∀(i:Nat) (l:List D),ss'[i]? = some (SD.own l)->ss[i]? = some (SD.own l)/\σ'[i]? = σ[i]?
theorem Sub.refl:Sub σ ss σ ss:=fun _ _ h=>⟨h,rfl⟩
theorem Sub.trans(h:Sub σ ss σ1 s1)(k:Sub σ1 s1 σ2 s2):Sub σ ss σ2 s2:=fun i l q=>by
 obtain⟨q1,e1⟩:=k i l q;obtain⟨q2,e2⟩:=h i l q1;exact⟨q2,e1.trans e2⟩
def Agr(T:List Nat)(σ σ':St):Prop:=σ'.length=σ.length/\∀ j,j ∉ T->σ'[j]? = σ[j]?
theorem Agr.refl:Agr T σ σ:=⟨rfl,fun _ _=>rfl⟩
theorem Agr.set(h:i∈T):Agr T σ (σ.set i v):=⟨bx,fun j n=>aL (by rintro rfl;exact n h)⟩
theorem Agr.trans(a:Agr T σ σ1)(b:Agr T σ1 σ2):Agr T σ σ2:=⟨b.1.trans a.1,fun j n=>(b.2 j n).trans (a.2 j n)⟩
def LG(K:Frag)(t:TGd):TG:=fun v σ H Q=>∃ f O ss d,SlD K f O σ H ss/\Rp K f O H d v/\t.run d ss fun ss'=>∀ σ' H',Ex f H H'->SlD K f O σ' H' ss'->Sub σ ss σ' ss'->Agr t.tg σ σ'->Q σ' H'
theorem SlD.set(S:SlD K f O σ H ss)(r:Rp K f O H d v):SlD K f O (σ.set i (some v)) H (ss.set i (.val d)) where
 fl:=S.fl
 fO:=S.fO
 al:=S.al
 lO:=S.lO
 len:=by rw[bx,bx,S.len]
 val:=fun j d' h=>by
  by_cases z:i=j
  ·subst z;rw[aP] at h;rw[QI rfl] at h;split at h
   ·cases h;rename_i l;exact⟨v,by rw[aP,QI rfl,QI (by rw[← S.len];exact l)],r⟩
   ·cases h
  ·rw[aL z] at h ⊢;exact S.val j d' h
 own:=fun j l h=>by
  by_cases z:i=j
  ·subst z;rw[aP] at h;rw[QI rfl] at h;split at h <;> cases h
  ·rw[aL z] at h ⊢;exact S.own j l h
theorem Sub.set:Sub σ ss (σ.set i v) (ss.set i (.val d)):=fun j l h=>by
 by_cases z:i=j
 ·subst z;rw[aP] at h;rw[QI rfl] at h;split at h <;> cases h
 ·rw[aL z] at h ⊢;exact⟨h,rfl⟩
def gNm(i:Nat):TGd:=⟨[i],fun d ss Q=>Q (ss.set i (.val d)),fun h q=>h _ q⟩
theorem _root_.L2.PG.weak(h:PG X e t)(w:∀ v σ H Q,t' v σ H Q->t v σ H Q):PG X e t':=fun pins s σ H v u Q I r q=>h pins s σ H v u Q I r (w _ σ H Q q)
end Dp
namespace Dp
open PySem L2
variable{K:Frag}{f:Addr}{O O':List Addr}{H H':Hp}{X:Cx}{σ:St}{ss:SS}{a b c:Expr}{ta tb tc:TEd}{tA tB:TTd}{pos:Pos}
theorem gNm.ok(h:PG X e (Aa i)):PG X e (LG X.K (gNm i)):=h.weak fun v σ H Q ⟨f,O,ss,d,S,r,q⟩=>q _ H (Ex.refl S.fl) (S.set r) Sub.set (Agr.set aG)
def yA(ss:SS):List Nat->List D->SS
 | i::is,d::ds=>yA (ss.set i (.val d)) is ds
 | _,_=>ss
def gsAll:List Nat->JS
 | []=>MX
 | i::is=>JE (Aa i) (gsAll is)
def wc(σ:St):List Nat->List V->St
 | i::is,v::vs=>wc (σ.set i (some v)) is vs
 | _,_=>σ
theorem gsAll.run:∀{is:List Nat} {vs:List V} {σ:St},vs.length=is.length->Q (wc σ is vs) H->gsAll is vs σ H Q
 | [],[],σ,_,q=>⟨rfl,q⟩
 | [],_::_,_,l,_=>by cases l
 | _::_,[],_,l,_=>by cases l
 | i::is,v::vs,σ,l,q=>⟨v,vs,rfl,gsAll.run (by simpa using l) q⟩
theorem SlD.all:∀{is:List Nat} {vs:List V} {ds:List D} {σ:St} {ss:SS},SlD K f O σ H ss->Rps K f O H ds vs->SlD K f O (wc σ is vs) H (yA ss is ds)
 | [],_,_,_,_,S,_=>S
 | i::is,[],[],_,_,S,_=>S
 | i::is,vs,[],_,_,S,r=>by cases (show vs=[] from r);exact S
 | i::is,vs,d::ds,σ,ss,S,r=>by
  obtain⟨v,r',e,h1,h2⟩:=r;subst e;show SlD K f O (wc (σ.set i (some v)) is r') H (yA (ss.set i (.val d)) is ds);exact SlD.all (S.set h1) h2
theorem Sub.all:∀{is:List Nat} {vs:List V} {ds:List D} {σ:St} {ss:SS},vs.length=ds.length->Sub σ ss (wc σ is vs) (yA ss is ds)
 | [],_,_,_,_,_=>Sub.refl
 | i::is,[],[],_,_,_=>Sub.refl
 | i::is,_::_,[],_,_,l=>by cases l
 | i::is,[],_::_,_,_,l=>by cases l
 | i::is,v::vs,d::ds,σ,ss,l=>Sub.trans Sub.set (Sub.all (by simpa using l))
theorem Agr.all:∀{is T:List Nat} {vs:List V} {σ:St},(∀ i∈is,i∈T)->Agr T σ (wc σ is vs)
 | [],_,_,_,_=>Agr.refl
 | _::_,_,[],_,_=>Agr.refl
 | i::is,T,v::vs,σ,h=>Agr.trans (Agr.set (h i aG)) (Agr.all fun j hj=>h j (aA _ hj))
def gTp(is:List Nat):TGd:=⟨is,fun d ss Q=>match d with | .tup l=>l.length=is.length/\Q (yA ss is l)|_=>False,fun {d ss Q Q'} h q=>by
 revert q;cases d <;> first|exact id|exact fun q=>⟨q.1,h _ q.2⟩⟩
theorem gTp.ok{is:List Nat}(h:PG X e (MV X.K is.length (gsAll is))):PG X e (LG X.K (gTp is)):=h.weak fun v σ H Q ⟨f,O,ss,d,S,r,q⟩=>by
 cases d <;> first|exact PD q|skip
 rename_i l;obtain⟨p,xs,rfl,h1,h2⟩:=r;exact⟨p,xs,rfl,h1,h2.len.trans q.1,gsAll.run (h2.len.trans q.1) (q.2 _ H (Ex.refl S.fl) (S.all h2) (Sub.all h2.len) (Agr.all fun _ h=>h))⟩
def vc(l:List D):List D:=(List.range l.length).map fun i=>.tup [.int ((i:Nat):Int),l.getD i .non]
theorem uy:(vc l).length=l.length:=by simp[vc]
theorem xO(h:i<l.length):(vc l)[i]? = some (.tup [.int ((i:Nat):Int),l.getD i .non]):=by simp[vc,h]
theorem Ac{i:Nat}{d:D}(h:(vc l)[i]? = some d):∃ x,l[i]? = some x/\d = .tup [.int ((i:Nat):Int),x]:=by
 have hi:=(aj.mp h).1;rw[uy] at hi;rw[xO hi] at h;refine⟨l[i],by simp[hi],(PP h).symm.trans ?_⟩;rw[ae,au hi];rfl
def jv(t:TEd):TAd:=⟨fun ss Q=>t.run ss fun d=>itemsD d fun l=>Q (vc l),fun h q=>t.mono (fun d q=>itemsD.mono (fun l q=>h _ q) q) q⟩
def kX(t:TEd):TAd:=⟨fun ss Q=>t.run ss fun d=>itemsD d fun l=>Q l.reverse,fun h q=>t.mono (fun d q=>itemsD.mono (fun l q=>h _ q) q) q⟩
def yX(hide:List Nat)(ss:SS):SS:=hide.foldl (fun s i=>s.set i .no) ss
theorem SlD.blank(S:SlD K f O σ H ss):SlD K f O (σ.set i o) H (ss.set i .no) where
 fl:=S.fl
 fO:=S.fO
 al:=S.al
 lO:=S.lO
 len:=by rw[bx,bx,S.len]
 val:=fun j d' h=>by
  by_cases z:i=j
  ·subst z;rw[aP] at h;rw[QI rfl] at h;split at h <;> cases h
  ·rw[aL z] at h ⊢;exact S.val j d' h
 own:=fun j l h=>by
  by_cases z:i=j
  ·subst z;rw[aP] at h;rw[QI rfl] at h;split at h <;> cases h
  ·rw[aL z] at h ⊢;exact S.own j l h
theorem SlD.hide:∀{hide:List Nat} {σ:St} {ss:SS},SlD K f O σ H ss->SlD K f O (x9 hide σ) H (yX hide ss)
 | [],_,_,S=>S
 | i::r,σ,ss,S=>SlD.hide (hide:=r) (S.blank (i:=i) (o:=none))
theorem BM:∀{hide:List Nat} {ss:SS} {i:Nat},(i∈hide\/ss[i]? = some SD.no\/ss[i]? = none)->(yX hide ss)[i]? = some SD.no\/(yX hide ss)[i]? = none
 | [],ss,i,h=>by
  rcases h with h|h
  ·cases h
  ·exact h
 | j::r,ss,i,h=>by
  refine BM (hide:=r) (ss:=ss.set j .no) ?_;by_cases z:j=i
  ·subst z;right;rw[aP,QI rfl];split
   ·exact .inl rfl
   ·exact .inr rfl
  ·rw[aL z];rcases h with h|h
   ·rcases av.mp h with q|q
    ·exact absurd q.symm z
    ·exact .inl q
   ·exact .inr h
theorem SlD.agr(S:SlD K f O σ H ss)(h:Agr T σ σ')(hT:∀ i∈T,ss[i]? = some SD.no\/ss[i]? = none):SlD K f O σ' H ss where
 fl:=S.fl
 fO:=S.fO
 al:=S.al
 lO:=S.lO
 len:=S.len.trans h.1.symm
 val:=fun j d q=>by
  rw[h.2 j fun z=>?_]
  ·exact S.val j d q
  ·rcases hT j z with w|w <;> rw[w] at q <;> cases q
 own:=fun j d q=>by
  rw[h.2 j fun z=>?_]
  ·exact S.own j d q
  ·rcases hT j z with w|w <;> rw[w] at q <;> cases q
def jt:TTd:=⟨fun _ Q=>Q true,fun h q=>h _ q⟩
def compD(ds:List D)(s0:SS)(g:TGd)(c:TTd)(e:TEd)(Q:D->Prop):Prop:=ds.length<=sizeLine/\∃ I:Nat->List D->Prop,I 0 [] /\
 (∀ i d ys,ds[i]? = some d->ys.length<=i->I i ys->g.run d s0 fun s1=>c.run s1 fun k=>if k=true then e.run s1 fun y=>I (i+1) (ys++[y]) else I (i+1) ys)/\∀ ys,ys.length<=ds.length->I ds.length ys->Q (.lst ys)
theorem compD.mono{ds:List D}{s0:SS}{g:TGd}{c:TTd}{e:TEd}{Q Q':D->Prop}(h:∀ d,Q d->Q' d):compD ds s0 g c e Q->compD ds s0 g c e Q':=fun⟨l,I,q0,q1,q2⟩=>⟨l,I,q0,q1,fun ys l i=>h _ (q2 ys l i)⟩
def i7(it:TAd)(hide:List Nat)(g:TGd)(c:TTd)(e:TEd):TEd:=⟨fun ss Q=>it.run ss fun ds=>compD ds (yX hide ss) g c e Q,fun h q=>it.mono (fun ds q=>compD.mono h q) q⟩
theorem compD.ok{J:It}{ds:List D}{hide:List Nat}{g:TGd}{c:TTd}{e:TEd}{Q:VK}{H1:Hp}(S:SlD K f O σ H1 ss)(hg:∀ i∈g.tg,i∈hide)(D0:ItD K f O J H1 ds)(h:compD ds (yX hide ss) g c e fun d=>∀ v H',Ex f H1 H'->Rp K f O H' d v->Q v H') :
  JT J (LG K g) (LT K c) (LE K e) (x9 hide σ) Q H1:=by
 obtain⟨hl,I,q0,q1,q2⟩:=h;refine⟨fun k m τ ys H=>∃ yd,SlD K f O τ H (yX hide ss)/\Rps K f O H yd ys/\yd.length<=k/\I k yd/\m=ds.length-k/\k<=ds.length/\Ex f H1 H,⟨_,[],S.hide,rfl,ak _,q0,rfl,aE _,Ex.refl S.fl⟩,?_⟩;rintro k m τ ys H ⟨yd,S1,r1,l1,i1,rfl,k1,e1⟩;have kp:=e1.kp S.fO;rcases ar k ds.length with hk|hk
 ·refine .inr ⟨D0.go H k kp hk,by rw[r1.len];lia,fun x H' y=>?_⟩;obtain⟨d,ed,e2,rd⟩:=D0.yld O H k x H' (fun a z=>.inl z) S.fO S1.al kp S1.fl hk y;have S2:=S1.ex e2;refine⟨f,O,_,d,S2,rd,g.mono (fun s1 q τ2 H2 e3 S3 _ ag=>?_) (q1 k d yd ed l1 i1)⟩;have S3':SlD K f O τ2 H2 (yX hide ss):=(S2.ex e3).agr ag fun i hi=>BM (.inl (hg i hi));refine⟨f,O,s1,S3,c.mono (fun b q H3 e4=>?_) q⟩;cases b with
  | true =>
   refine⟨f,O,s1,S3.ex e4,e.mono (fun dy q v H4 e5 rv=>?_) q⟩;have e14:=e2.trans (e3.trans (e4.trans e5));exact⟨ds.length-(k+1),by lia,yd++[dy],(S3'.ex e4).ex e5,(S1.ups e14 r1).append ⟨v,[],rfl,rv,rfl⟩,by rw[aB];simp;lia,q,rfl,hk,e1.trans e14⟩
  | false =>
   have e14:=e2.trans (e3.trans e4);exact⟨ds.length-(k+1),by lia,yd,S3'.ex e4,S1.ups e14 r1,by lia,q,rfl,hk,e1.trans e14⟩
 ·have ek:k=ds.length:=by lia
  subst ek;exact .inl ⟨D0.stop H kp,fun p hp=>q2 yd l1 i1 _ _ (e1.trans (S1.new hp _)) (S1.lst hp r1)⟩
theorem i7.ok{scope:Scope}{hide:List Nat}{it:TAd}{g:TGd}{c:TTd}{e:TEd}{tg iter elt:Expr}{ifs:List Expr}(hc:X.calm=true)(Sc:CompS X.N X.env.scope scope hide)(hi:PI X tg iter (LI X.K it))
  (hg:∀ s2 H2 fp pins C,PG (wj X scope s2 H2 fp pins C) tg (LG X.K g)) (ht:∀ s2 H2 fp pins C,PTs (wj X scope s2 H2 fp pins C) ifs (LT X.K c)) (he:∀ s2 H2 fp pins C,PE (wj X scope s2 H2 fp pins C) elt (LE X.K e))
  (hs:∀ x,foldedSetIterable iter X.env x=pure x) (hh:∀ i∈g.tg,i∈hide):PE X (.ListComp elt [⟨tg,iter,ifs,0⟩] scope pos) (LE X.K (i7 it hide g c e)) :=
 (HV (pos:=pos) hc Sc hi hg ht he hs).weak fun σ H Q ⟨f,O,ss,S,q⟩=>⟨f,O,ss,S,it.mono (fun ds q J H1 e1 D0=>compD.ok (S.ex e1) hh D0 (compD.mono (fun d q v H' e r=>q v H' (e1.trans e) r) q)) q⟩
end Dp
namespace Dp
open PySem L2
variable{K:Frag}{f:Addr}{O O':List Addr}{H H':Hp}{X:Cx}{σ:St}{ss:SS}{a b:Expr}{ta tb tc:TEd}{tA tB:TTd}{pos:Pos}
theorem jv.ok(hg:Gl X "enumerate")(hm:X.mg "enumerate" = none)(ha:PE X a (LE X.K ta))(hs:PN [a] X.env=[(false,eval a X.env)]):PI X (.Tuple es kk ps) (.Call (.Name "enumerate" p) [a] [] pos) (LI X.K (jv ta)) :=
 (HS (p:=p) (pos:=pos) X.K hg hm (uu ha pa_nil hs) rfl hs).weak fun σ H R ⟨f,O,ss,S,q⟩=>⟨f,O,ss,S,ta.mono (fun d q v H1 e r=>by
  have S1:=S.ex e;cases d <;> first|exact PD q|skip
  ·rename_i l;obtain⟨p,xs,rfl,h1,h2⟩:=r;refine⟨p,rfl,.inr ⟨⟨xs,h1⟩,q _ H1 e ⟨fun H' i k hi=>?_,fun O' H' i x H'' hO hf al k F hi y=>?_,fun H' k=>?_⟩⟩⟩
   ·rw[uy] at hi;obtain⟨v,hv,_⟩:=h2.get (show l[i]? = some l[i] by simp[hi]);exact⟨xs,v,h1.kp k S1.al,hv⟩
   ·rw[uy] at hi;obtain⟨p',w,rfl,hp,rfl,y⟩:=y;obtain⟨v,hv,r⟩:=h2.get (show l[i]? = some l[i] by simp[hi]);have:=y xs (h1.kp k S1.al);rw[hv] at this;cases this;refine⟨_,xO hi,Ex.new F hp _,p',_,rfl,SqT.of ur,.int i,_,rfl,rfl,_,[],rfl,?_,rfl⟩;rw[ae,au hi];exact (r.moved hO k S1.al).kp ((Ex.new F hp _).kp hf) al
   ·rw[uy];exact⟨xs,h1.kp k S1.al,by rw[h2.len];exact ak _⟩
  ·rename_i l;obtain⟨p,xs,rfl,n,h1,h2⟩:=r;refine⟨p,rfl,.inl ⟨⟨xs,SqL.of h1⟩,q _ H1 e ⟨fun H' i k hi=>?_,fun O' H' i x H'' hO hf al k F hi y=>?_,fun H' k=>?_⟩⟩⟩
   ·rw[uy] at hi;obtain⟨v,hv,_⟩:=h2.get (show l[i]? = some l[i] by simp[hi]);exact⟨xs,v,SqL.of (k p _ n h1),hv⟩
   ·rw[uy] at hi;obtain⟨p',w,rfl,hp,rfl,y⟩:=y;obtain⟨v,hv,r⟩:=h2.get (show l[i]? = some l[i] by simp[hi]);have:=y xs (SqL.of (k p _ n h1));rw[hv] at this;cases this;refine⟨_,xO hi,Ex.new F hp _,p',_,rfl,SqT.of ur,.int i,_,rfl,rfl,_,[],rfl,?_,rfl⟩;rw[ae,au hi];exact (r.moved hO k S1.al).kp ((Ex.new F hp _).kp hf) al
   ·rw[uy];exact⟨xs,SqL.of (k p _ n h1),by rw[h2.len];exact ak _⟩) q⟩
def MR(K:Frag)(ta:TA):TI:=fun σ H R=>ta σ H fun vs H1=>∃ a xs,vs=[.ref a] /\
 ((SqT K H1 a xs/\R ⟨fun i H=>i<xs.length/\∃ ys x,SqT K H a ys/\ys.length=xs.length/\ys.reverse[i]? = some x,fun i H x H'=>H'=H/\∀ xs,SqT K H a xs->xs.reverse[i]? = some x,fun i H=>i=xs.length⟩ H1) \/
   (SqL K H1 a xs/\R ⟨fun i H=>i<xs.length/\∃ ys x,SqL K H a ys/\ys.length=xs.length/\ys.reverse[i]? = some x,fun i H x H'=>H'=H/\∀ xs,SqL K H a xs->xs.reverse[i]? = some x,fun i H=>i=xs.length⟩ H1))
theorem HR{tg:Expr}{a:Expr}{ta:TA}{p pos:Pos}(hg:Gl X "reversed")(hm:X.mg "reversed" = none)(ha:PA X [a] ta)(hs:PN [a] X.env=[(false,eval a X.env)]):PI X tg (.Call (.Name "reversed" p) [a] [] pos) (MR X.K ta):=by
 intro pins s σ H R I h;refine PyProof.Rows.Call_ (wL I hg hm PyProof.Rows.boot_reversed (Qd (uA (ha pos pins s σ H _ I h) fun us s1 ⟨vs,H1,I1,r1,q1⟩=>?_) hs rfl));obtain⟨l,xs,e,q1⟩:=q1;subst e;obtain⟨u,rfl,ru⟩:=Vals.one r1;cases ru;rcases q1 with⟨hq,q1⟩|⟨hq,q1⟩
 ·obtain⟨its,rv,pl,hz⟩:=I1.tuple hq;have hlen:=rv.length;have hn63:=vv;refine RV.Hc (show s1.heap.IsTuple l its.toArray from pl) (by rw[am];lia) fun tk=>?_;have st:RV.Is (s1.heap.push { cls:=.type "reversed",data:=.fields #[.ref l,rawInt ((its.toArray.size:Int)-1)] }) s1.heap.objs.size l ((xs.length:Int)-1-((0:Nat):Int)):=⟨_,PF _ rfl,rfl,by
   rw[am,← hlen,show (xs.length:Int)-1-((0:Nat):Int)=(xs.length:Int)-1 by lia]⟩
  refine RV.zY st ?_;refine⟨_,[s1.heap.objs.size],_,_,H1,rfl,I1.kept (t':=tk) fun b o e=>Pw _ e,Fc xs.length l _,st,fun b hb=>?_,q1⟩;rw[aq.mp hb];exact I1.fpOk (ak _) (I1.hok.fresh (ak _))
 ·obtain⟨its,rv,pl,hz⟩:=I1.list hq;have hlen:=rv.length;refine call_reversed_list pl.isList ?_;have st:(s1.heap.push (revObj l ((its.toArray.size:Int)-1))).IsRevIter s1.heap.objs.size l ((xs.length:Int)-1-((0:Nat):Int)):=⟨_,PF _ rfl,rfl,by
   show Data.fields #[.ref l,rawInt ((its.toArray.size:Int)-1)]=_;rw[am,← hlen,show (xs.length:Int)-1-((0:Nat):Int)=(xs.length:Int)-1 by lia]⟩
  refine wpAny_pyIter_revIter st ?_;refine⟨_,[s1.heap.objs.size],_,_,H1,rfl,I1.kept (t':=s1.toks) fun b o e=>Pw _ e,Eo xs.length l _,st,fun b hb=>?_,q1⟩;rw[aq.mp hb];exact I1.fpOk (ak _) (I1.hok.fresh (ak _))
theorem kX.ok(hg:Gl X "reversed")(hm:X.mg "reversed" = none)(ha:PE X a (LE X.K ta))(hs:PN [a] X.env=[(false,eval a X.env)]):PI X tg (.Call (.Name "reversed" p) [a] [] pos) (LI X.K (kX ta)) :=
 (HR (p:=p) (pos:=pos) hg hm (uu ha pa_nil hs) hs).weak fun σ H R ⟨f,O,ss,S,q⟩=>⟨f,O,ss,S,ta.mono (fun d q v H1 e r=>by
  have S1:=S.ex e;cases d <;> first|exact PD q|skip
  ·rename_i l;obtain⟨p,xs,rfl,h1,h2⟩:=r;refine⟨p,xs,rfl,.inl ⟨h1,q _ H1 e ⟨fun H' i k hi=>?_,fun O' H' i x H'' hO hf al k F hi y=>?_,fun H' k=>?_⟩⟩⟩
   ·obtain⟨v,hv,_⟩:=h2.reverse.get (show l.reverse[i]? = some l.reverse[i] from au hi);rw[bA] at hi;exact⟨by rw[h2.len];exact hi,xs,v,h1.kp k S1.al,rfl,hv⟩
   ·obtain⟨rfl,y⟩:=y;obtain⟨v,hv,r⟩:=h2.reverse.get (show l.reverse[i]? = some l.reverse[i] from au hi);have:=y xs (h1.kp k S1.al);rw[hv] at this;cases this;exact⟨l.reverse[i],au hi,Ex.refl F,r.moved hO k S1.al⟩
   ·rw[bA,h2.len]
  ·rename_i l;obtain⟨p,xs,rfl,n,h1,h2⟩:=r;refine⟨p,xs,rfl,.inr ⟨SqL.of h1,q _ H1 e ⟨fun H' i k hi=>?_,fun O' H' i x H'' hO hf al k F hi y=>?_,fun H' k=>?_⟩⟩⟩
   ·obtain⟨v,hv,_⟩:=h2.reverse.get (show l.reverse[i]? = some l.reverse[i] from au hi);rw[bA] at hi;exact⟨by rw[h2.len];exact hi,xs,v,SqL.of (k p _ n h1),rfl,hv⟩
   ·obtain⟨rfl,y⟩:=y;obtain⟨v,hv,r⟩:=h2.reverse.get (show l.reverse[i]? = some l.reverse[i] from au hi);have:=y xs (SqL.of (k p _ n h1));rw[hv] at this;cases this;exact⟨l.reverse[i],au hi,Ex.refl F,r.moved hO k S1.al⟩
   ·rw[bA,h2.len]) q⟩
structure Cs where
 f:Addr
 O:List Addr
 H:Hp
 S:List Addr
structure Kpc (c:Cs)(H:Hp):Prop where
 kp:∀ b o,c.H b=some o->b≠c.f->(b∈c.O\/b ∉ c.S)->H b=some o
 key:∀ l r,c.H c.f=some (.lst (.ref l::r))->∃ r',H c.f=some (.lst (.ref l::r'))
structure StR (K:Frag)(c:Cs)(O:List Addr)(σ:St)(H:Hp)(ss:SS):Prop where
 sl:SlD K c.f O σ H ss
 sub:∀ a∈c.O,a∈O
 kp:Kpc c H
 new:∀ a∈O,a∈c.S\/c.H a=none
 own:∀(i:Nat) (l:List D) (a:Addr),ss[i]? = some (SD.own l)->σ[i]? = some (some (V.ref a))->(c.H a=none\/a∈c.S)/\a ∉ c.O/\∀(j:Nat) (l':List D),ss[j]? = some (SD.own l')->σ[j]? = some (some (V.ref a))->j=i
variable{c:Cs}
theorem Kpc.ex(k:Kpc c H)(e:Ex c.f H H'):Kpc c H':=⟨fun b o h n z=>e.sm.app b o n (k.kp b o h n z),fun l r h=>by
 obtain⟨r',h1⟩:=k.key l r h;exact e.sm.key l r' h1⟩
theorem StR.ex(R:StR K c O σ H ss)(e:Ex c.f H H'):StR K c O σ H' ss:=⟨R.sl.ex e,R.sub,R.kp.ex e,R.new,R.own⟩
theorem StR.to(R:StR K c O σ H ss)(S:SlD K c.f O σ' H ss')(h:Sub σ ss σ' ss'):StR K c O σ' H ss':=⟨S,R.sub,R.kp,R.new,fun i l a q e=>by
 obtain⟨q1,e1⟩:=h i l q;obtain⟨w1,w2,w3⟩:=R.own i l a q1 (e1.symm.trans e);refine⟨w1,w2,fun j l' q' e'=>?_⟩;obtain⟨q2,e2⟩:=h j l' q';exact w3 j l' q2 (e2.symm.trans e')⟩
def frz1(i:Nat)(ss:SS):SS:=match ss[i]? with|some (.own l)=>ss.set i (.val (.lst l))|_=>ss
def frz(fz:List Nat)(ss:SS):SS:=fz.foldl (fun s i=>frz1 i s) ss
theorem StR.frz1(R:StR K c O σ H ss):∃ O',StR K c O' σ H (frz1 i ss):=by
 unfold Dp.frz1;split
 ·rename_i l e;obtain⟨a,xs,h1,h2,h3,h4,h5⟩:=R.sl.own i l e;obtain⟨w1,w2,w3⟩:=R.own i l a e h1;have hs:∀ b∈O.filter (fun b=>decide (b≠a)),b∈O:=fun b hb=>(ce.mp hb).1;have hl:i<ss.length:=(aj.mp e).1;have hlv:(σ.set i (some (V.ref a)))=σ:=by
   apply List.ext_getElem?;intro j;by_cases z:i=j
   ·subst z;rw[aP,QI rfl,QI (by rw[← R.sl.len];exact hl),h1]
   ·rw[aL z]
  refine⟨O.filter (fun b=>decide (b≠a)),⟨R.sl.fl,?_,fun b hb=>R.sl.al b (hs b hb),fun l r q z=>R.sl.lO l r q (hs _ z),by rw[bx];exact R.sl.len,fun j d q=>?_,fun j l' q=>?_⟩,fun b hb=>?_,R.kp,fun b hb=>R.new b (hs b hb),fun j l' b q e'=>?_⟩
  ·exact ce.mpr ⟨R.sl.fO,by simpa using Ne.symm h3⟩
  ·by_cases z:i=j
   ·subst z;rw[aP,QI rfl,QI hl] at q;cases q;exact⟨_,h1,a,xs,rfl,fun z=>by simpa using (ce.mp z).2,h4,h5.less hs⟩
   ·rw[aL z] at q;obtain⟨v,q1,q2⟩:=R.sl.val j d q;exact⟨v,q1,q2.less hs⟩
  ·by_cases z:i=j
   ·subst z;rw[aP,QI rfl,QI hl] at q;cases q
   ·rw[aL z] at q;obtain⟨b,ys,q1,q2,q3,q4,q5⟩:=R.sl.own j l' q;refine⟨b,ys,q1,ce.mpr ⟨q2,?_⟩,q3,q4,q5.less hs⟩;have:b≠a:=by
     rintro rfl;exact z (w3 j l' q q1).symm
    simpa using this
  ·have:b≠a:=by
    rintro rfl;exact w2 hb
   exact ce.mpr ⟨R.sub b hb,by simpa using this⟩
  ·by_cases z:i=j
   ·subst z;rw[aP,QI rfl,QI hl] at q;cases q
   ·rw[aL z] at q;obtain⟨p1,p2,p3⟩:=R.own j l' b q e';refine⟨p1,p2,fun k l2 q2 e2=>?_⟩;by_cases z2:i=k
    ·subst z2;rw[aP,QI rfl,QI hl] at q2;cases q2
    ·rw[aL z2] at q2;exact p3 k l2 q2 e2
 ·exact⟨O,R⟩
theorem StR.frz:∀{fz:List Nat} {ss:SS} {O:List Py},StR K c O σ H ss->∃ O',StR K c O' σ H (Dp.frz fz ss)
 | [],_,O,R=>⟨O,R⟩
 | i::fz,ss,O,R=>by
  obtain⟨O1,R1⟩:=R.frz1 (i:=i);exact StR.frz (fz:=fz) R1
structure Rt (K:Frag)(c:Cs)(H:Hp)(d:D)(v:V):Prop where
 fl:Fl H c.f
 kp:Kpc c H
 rp:Rp K c.f c.O H d v
theorem StR.rt(R:StR K c O σ H ss)(r:Rp K c.f O H d v):Rt K c H d v:=⟨R.sl.fl,R.kp,r.less R.sub⟩
def Cs.here(c:Cs)(H:Hp)(O:List Addr):Cs:=⟨c.f,c.O,H,O⟩
theorem StR.here(R:StR K c O σ H ss):StR K (c.here H O) O σ H ss:=⟨R.sl,R.sub,⟨fun b o h _ _=>h,fun l r h=>⟨r,h⟩⟩,fun a h=>.inl h,fun i l a q e=>by
 obtain⟨a',xs,h1,h2,_⟩:=R.sl.own i l q;rw[h1] at e;cases e;exact⟨.inr h2,(R.own i l a q h1).2⟩⟩
theorem Kpc.back(R:StR K c O1 σ H1 ss)(k:Kpc (c.here H1 O1) H):Kpc c H where
 kp:=fun b o h n z=>by
  refine k.kp b o (R.kp.kp b o h n z) n ?_;rcases z with z|z
  ·exact .inl z
  ·refine .inr fun y=>?_;rcases R.new b y with w|w
   ·exact z w
   ·rw[w] at h;cases h
 key:=fun l r h=>by
  obtain⟨r',h1⟩:=R.kp.key l r h;exact k.key l r' h1
theorem StR.back(R:StR K c O1 σ1 H1 s1)(k:StR K (c.here H1 O1) O σ H ss):StR K c O σ H ss:=by
 have low:∀ a,a ∉ c.O->(a∈O1\/H1 a=none)->a∈c.S\/c.H a=none:=fun a n z=>by
  rcases z with z|z
  ·exact R.new a z
  ·cases h:c.H a with
   | none=>exact .inr rfl
   | some o =>
    left;by_cases y:a∈c.S
    ·exact y
    ·exfalso;by_cases w:a=c.f
     ·subst w;obtain⟨xs,q⟩:=R.sl.fl.lst;rw[q] at z;cases z
     ·rw[R.kp.kp a o h w (.inr y)] at z;cases z
 refine⟨k.sl,k.sub,Kpc.back R k.kp,fun a h=>?_,fun i l a q e=>?_⟩
 ·by_cases z:a∈c.O
  ·rcases R.new a (R.sub a z) with w|w
   ·exact .inl w
   ·exact .inr w
  ·exact low a z (k.new a h)
 ·obtain⟨w1,w2,w3⟩:=k.own i l a q e;exact⟨(low a w2 w1.symm).symm,w2,w3⟩
theorem Rt.back(R:StR K c O1 σ1 H1 s1)(k:Rt K (c.here H1 O1) H d v):Rt K c H d v:=⟨k.fl,Kpc.back R k.kp,k.rp⟩
structure EndsD where
 nx:SS->Prop
 rt:D->Prop
 bk:SS->Prop
 ct:SS->Prop
structure EndsD.Le (E E':EndsD):Prop where
 nx:∀ s,E.nx s->E'.nx s
 rt:∀ d,E.rt d->E'.rt d
 bk:∀ s,E.bk s->E'.bk s
 ct:∀ s,E.ct s->E'.ct s
structure TSd where
 run:EndsD->SS->Prop
 mono:∀{E E' ss},E.Le E'->run E ss->run E' ss
def wE(K:Frag)(c:Cs)(D:Ends):EndsD:=⟨fun ss=>∀ O σ H,StR K c O σ H ss->D.nx σ H,fun d=>∀ v H,Rt K c H d v->D.rt v H,fun ss=>∀ O σ H,StR K c O σ H ss->D.bk σ H,fun ss=>∀ O σ H,StR K c O σ H ss->D.ct σ H⟩
def LS(K:Frag)(t:TSd):TS:=fun D σ H=>∃ c O ss,StR K c O σ H ss/\t.run (wE K c D) ss
theorem _root_.L2.PS.weak(h:PS X st t)(w:∀ D σ H,t' D σ H->t D σ H):PS X st t':=fun pins s σ H D I q=>h pins s σ H D I (w D σ H q)
theorem _root_.L2.PSs.weak(h:PSs X st t)(w:∀ D σ H,t' D σ H->t D σ H):PSs X st t':=fun pins s σ H D I q=>h pins s σ H D I (w D σ H q)
theorem StR.le(R:StR K c O σ H ss)(h:t.run ss W)(hw:∀ d v H1,StR K c O σ H1 ss->Ex c.f H H1->Rp K c.f O H1 d v->W d->Q v H1):LE K t σ H Q :=
 ⟨c.f,O,ss,R.sl,t.mono (fun d q v H1 e r=>hw d v H1 (R.ex e) e r q) h⟩
theorem StR.lt(R:StR K c O σ H ss)(h:t.run ss W)(hw:∀ d H1,StR K c O σ H1 ss->W d->Q d H1):LT K t σ H Q :=
 ⟨c.f,O,ss,R.sl,t.mono (fun d q H1 e=>hw d H1 (R.ex e) q) h⟩
def i8:TSd:=⟨fun E ss=>E.nx ss,fun h q=>h.nx _ q⟩
theorem i8.nil:PSs X [] (LS X.K i8):=pss_nil.weak fun D σ H ⟨c,O,ss,R,q⟩=>q O σ H R
theorem i8.pass:PS X (.Pass pos) (LS X.K i8):=ps_pass.weak fun D σ H ⟨c,O,ss,R,q⟩=>q O σ H R
def sZ:TSd:=⟨fun E ss=>E.bk ss,fun h q=>h.bk _ q⟩
theorem sZ.ok:PS X (.Break pos) (LS X.K sZ):=ps_break.weak fun D σ H ⟨c,O,ss,R,q⟩=>q O σ H R
@[reducible] def EndsD.to(E:EndsD)(P:SS->Prop):EndsD:=⟨P,E.rt,E.bk,E.ct⟩
def dSq(t u:TSd):TSd:=⟨fun E ss=>t.run (E.to (u.run E)) ss,fun {E E' ss} h q=>t.mono (E:=E.to (u.run E)) (E':=E'.to (u.run E')) ⟨fun s q=>u.mono h q,h.rt,h.bk,h.ct⟩ q⟩
theorem dSq.ok(h:PS X st (LS X.K t))(g:PSs X sts (LS X.K u)):PSs X (st::sts) (LS X.K (dSq t u)):=(vb h g).weak fun D σ H ⟨c,O,ss,R,q⟩ =>
 ⟨c,O,ss,R,t.mono (E:=(wE X.K c D).to (u.run (wE X.K c D))) ⟨fun s q O' σ' H' R'=>⟨c,O',s,R',q⟩,fun _ q=>q,fun _ q=>q,fun _ q=>q⟩ q⟩
theorem dSq.one(h:PS X st (LS X.K t)):PSs X [st] (LS X.K t):=vC h
def iZ(fz:List Nat)(e:TEd):TSd:=⟨fun E ss=>e.run (frz fz ss) E.rt,fun h q=>e.mono h.rt q⟩
theorem iZ.ok(h:PE X a (LE X.K ta)):PS X (.Return (some a) pos) (LS X.K (iZ fz ta)):=(Az h).weak fun D σ H ⟨c,O,ss,R,q⟩=>by
 obtain⟨O',R⟩:=R.frz (fz:=fz);exact R.le q fun d v H1 R1 _ r w=>w v H1 (R1.rt r)
def sd:TSd:=⟨fun E ss=>E.rt .non,fun h q=>h.rt _ q⟩
theorem sd.ok:PS X (.Return none pos) (LS X.K sd):=ps_retN.weak fun D σ H ⟨c,O,ss,R,q⟩=>q .non H (R.rt rfl)
def dIf(fz:List Nat)(k:TTd)(t u:TSd):TSd:=⟨fun E ss=>k.run (frz fz ss) fun b=>if b=true then t.run E (frz fz ss) else u.run E (frz fz ss),fun {E E' ss} h q=>k.mono (fun b q=>by
 revert q;cases b
 ·exact u.mono h
 ·exact t.mono h) q⟩
theorem dIf.ok(hk:PT X a (LT X.K tA))(ht:PSs X st (LS X.K t))(hu:PSs X su (LS X.K u)):PS X (.If a st su pos) (LS X.K (dIf fz tA t u)):=(DB hk ht hu).weak fun D σ H ⟨c,O,ss,R,q⟩=>by
 obtain⟨O',R⟩:=R.frz (fz:=fz);refine R.lt q fun b H1 R1 w=>?_;cases b
 ·exact⟨c,O',_,R1,w⟩
 ·exact⟨c,O',_,R1,w⟩
def iY(fz:List Nat)(g:TGd)(e:TEd):TSd:=⟨fun E ss=>e.run (frz fz ss) fun d=>g.run d (frz fz ss) E.nx,fun h q=>e.mono (fun d q=>g.mono h.nx q) q⟩
theorem StR.lg(R:StR K c O σ H ss)(r:Rp K c.f O H d v)(h:g.run d ss W)(hw:∀ ss' σ' H1,StR K c O σ' H1 ss'->W ss'->Q σ' H1):LG K g v σ H Q :=
 ⟨c.f,O,ss,d,R.sl,r,g.mono (fun s q σ' H1 e S sb ag=>hw s σ' H1 ((R.ex e).to S sb) q) h⟩
theorem iY.ok(h:PE X a (LE X.K ta))(hg:PG X tg (LG X.K g))(hs:swapsWithSole [tg] a pos.line X.env=pure false)(hw:swappedStores [tg] a X.env=pure none)(h1:(assignEach [tg] X.env).map (·.2)=[assign tg X.env]):PS X (.Assign [tg] a pos) (LS X.K (iY fz g ta)):=(vT h hg hs hw h1).weak fun D σ H ⟨c,O,ss,R,q⟩=>by
 obtain⟨O',R⟩:=R.frz (fz:=fz);exact R.le q fun d v H1 R1 _ r w=>R1.lg r w fun s' σ' H2 R2 w=>w O' σ' H2 R2
end Dp
namespace Dp
open PySem L2
variable{K:Frag}{f:Addr}{O O':List Addr}{H H':Hp}{X:Cx}{σ:St}{ss:SS}{a b:Expr}{ta tb tc:TEd}{tA tB:TTd}{pos:Pos}{c:Cs}
theorem ub.ok(hN:X.N.Nodup)(hi:X.N[i]? = some x)(hx:En X.env.scope x)(h:PE X a (LE X.K ta))(hs:swapsWith a (some (.Name x p')) pos.line X.env=pure false)(hf:X.fn x=true\/X.env.scope.names.lookup x=some .local) :
  PS X (.Assign [.Name x p'] a pos) (LS X.K (iY fz (gNm i) ta)):=(xG hN hi hx h hs hf).weak fun D σ H ⟨c,O,ss,R,q⟩=>by
 obtain⟨O',R⟩:=R.frz (fz:=fz);exact R.le q fun d v H1 R1 _ r w=>w O' _ H1 (R1.to (R1.sl.set r) Sub.set)
def mZ(fz:List Nat)(i j:Nat)(a b:TEd):TSd:=⟨fun E ss=>a.run (frz fz ss) fun d=>b.run (frz fz ss) fun d'=>E.nx (((frz fz ss).set i (.val d)).set j (.val d')),fun h q=>a.mono (fun d q=>b.mono (fun d' q=>h.nx _ q) q) q⟩
theorem mZ.weak{fz:List Nat}{i j:Nat}{D:Ends}{ta tb:TEd}(h:LS X.K (mZ fz i j ta tb) D σ H):J0 i j (yv (LE X.K ta) (yv (LE X.K tb) Fh)) D σ H:=by
 obtain⟨c,O,ss,R,q⟩:=h;obtain⟨O',R⟩:=R.frz (fz:=fz);refine R.le q fun d v H1 R1 e1 r w=>R1.le w fun d' v' H2 R2 e2 r' w=>?_;have S:=(R2.sl.set (i:=i) (R1.sl.up e2 r)).set (i:=j) r';exact⟨v,v',rfl,w O' _ H2 (R2.to S (Sub.trans Sub.set Sub.set))⟩
def jB(k:TTd)(t:TSd):TSd:=⟨fun E ss=>∃(I:SS->Prop) (μ:SS->Nat),I ss/\∀ s,I s->k.run s fun b=>if b=true then t.run ⟨fun s'=>I s'/\μ s'<μ s,E.rt,E.nx,fun s'=>I s'/\μ s'<μ s⟩ s else E.nx s,fun {E E' ss} h ⟨I,μ,q0,q⟩=>⟨I,μ,q0,fun s i=>k.mono (fun b q=>by
 revert q;cases b
 ·exact h.nx _
 ·exact t.mono ⟨fun _ q=>q,h.rt,h.nx,fun _ q=>q⟩) (q s i)⟩⟩
theorem jB.ok(hp:PassesOwn (model X.prog X.w) X.A X.env X.xe)(hk:PT X a (LT X.K tA))(ht:PSs X st (LS X.K t)):PS X (.While a st [] pos) (LS X.K (jB tA t)):=(FU hp hk ht).weak fun D σ H ⟨c,O,ss,R,I,μ,q0,q⟩=>by
 refine⟨fun m σ H=>∃ O s,StR X.K c O σ H s/\I s/\μ s=m,⟨_,O,ss,R,q0,rfl⟩,?_⟩;rintro m σ H ⟨O,s,R,i0,rfl⟩;refine R.lt (q s i0) fun b H1 R1 w=>?_;cases b with
 | false=>exact w O σ H1 R1
 | true =>
  refine⟨fun σ' H'=>∃ O' s',StR X.K c O' σ' H' s'/\I s'/\μ s'<μ s,fun σ' H' ⟨O',s',R',i',l⟩=>⟨_,l,O',s',R',i',rfl⟩,c,O,s,R1,?_⟩;refine t.mono ?_ w;exact⟨fun s' q O' σ' H' R'=>⟨O',s',R',q⟩,fun _ q=>q,fun _ q=>q,fun s' q O' σ' H' R'=>⟨O',s',R',q⟩⟩
def jq(fz:List Nat)(it:TAd)(g:TGd)(t:TSd):TSd:=⟨fun E ss=>it.run (frz fz ss) fun ds=>∃ I:Nat->SS->Prop,I 0 (frz fz ss)/\(∀ i d s,ds[i]? = some d->I i s->g.run d s fun s1=>t.run ⟨I (i+1),E.rt,E.nx,I (i+1)⟩ s1)/\∀ s,I ds.length s->E.nx s,fun {E E' ss} h q=>it.mono (fun ds ⟨I,q0,q1,q2⟩=>⟨I,q0,fun i d s e i0=>g.mono (fun s1 q=>t.mono (E:=⟨I (i+1),E.rt,E.nx,I (i+1)⟩) (E':=⟨I (i+1),E'.rt,E'.nx,I (i+1)⟩) ⟨fun _ q=>q,h.rt,h.nx,fun _ q=>q⟩ q) (q1 i d s e i0),fun s i0=>h.nx _ (q2 s i0)⟩) q⟩
theorem jq.ok(hp:PassesOwn (model X.prog X.w) X.A X.env X.xe)(hc:X.calm=true)(hi:PI X tg iter (LI X.K it))(hg:PG X tg (LG X.K g))(ht:PSs X st (LS X.K t))(hs:∀ x,foldedSetIterable iter X.env x=pure x) :
  PS X (.For tg iter st [] pos) (LS X.K (jq fz it g t)):=(Kx hp hc hi hg ht hs).weak fun D σ H ⟨c,O,ss,R,q⟩=>by
 obtain⟨O,R⟩:=R.frz (fz:=fz);refine⟨c.f,O,_,R.sl,it.mono (fun ds q J H1 e1 D0=>?_) q⟩;obtain⟨I,q0,q1,q2⟩:=q;have R1:=R.ex e1;refine⟨fun i m σ H=>∃ O2 s,StR X.K (c.here H1 O) O2 σ H s/\I i s/\m=ds.length-i/\i<=ds.length,⟨_,O,_,R1.here,q0,rfl,aE _⟩,?_⟩;rintro i m σ H ⟨O2,s,R2,i0,rfl,hi⟩;have kp:Kp O H1 H:=fun b o n h=>R2.kp.kp b o h (fun z=>n (by rw[z];exact R.sl.fO)) (.inr n);rcases ar i ds.length with hk|hk
 ·refine .inr ⟨D0.go H i kp hk,fun σ' H'=>∃ O3 s',StR X.K (c.here H1 O) O3 σ' H' s'/\I (i+1) s',fun σ' H' ⟨O3,s',R3,i3⟩=>⟨ds.length-(i+1),by lia,O3,s',R3,i3,rfl,hk⟩,fun x H' y=>?_⟩;obtain⟨d,ed,e2,rd⟩:=D0.yld O2 H i x H' R2.new R2.sl.fO R2.sl.al kp R2.sl.fl hk y;refine (R2.ex e2).lg rd (q1 i d s ed i0) fun s1 σ' H3 R3 w=>?_;refine⟨c.here H1 O,O2,s1,R3,?_⟩;refine t.mono ?_ w;exact⟨fun s' q O' σ' H' R'=>⟨O',s',R',q⟩,fun d q v H r=>q v H (Rt.back R1 r),fun s' q O' σ' H' R'=>q O' σ' H' (StR.back R1 R'),fun s' q O' σ' H' R'=>⟨O',s',R',q⟩⟩
 ·have ek:i=ds.length:=by lia
  subst ek;exact .inl ⟨D0.stop H kp,q2 s i0 O2 σ H (StR.back R1 R2)⟩
def LF(K:Frag)(t:TEd):TE:=fun σ H Q=>∃ f O ss,SlD K f O σ H ss/\t.run ss fun d=>∃ l,d = .lst l/\∀ p xs H',Ex f H H'->H p=none->H' p=some (.lst xs)->Rps K f (p::O) H' l xs->Q (.ref p) H'
theorem StR.mkOwn(R:StR K c O σ H ss)(e:Ex c.f H H')(hp:H p=none)(hx:H' p=some (.lst xs))(r':Rps K c.f (p::O) H' l xs):StR K c (p::O) (σ.set i (some (.ref p))) H' (ss.set i (.own l)):=by
 have mv:∀ b∈p::O,b∈O\/H b=none:=fun b hb=>by
  rcases av.mp hb with z|z
  ·exact .inr (z ▸ hp)
  ·exact .inl z
 have kp:=e.kp R.sl.fO;have np:p ∉ O:=R.sl.nO hp;have npf:p≠c.f:=fun z=>np (z ▸ R.sl.fO);have low:c.H p=none\/p∈c.S:=by
  cases h:c.H p with
  | none=>exact .inl rfl
  | some o =>
   right;by_cases y:p∈c.S
   ·exact y
   ·rw[R.kp.kp p o h npf (.inr y)] at hp;cases hp
 have hne:∀(j:Nat) (l':List D) (b:Py),ss[j]? = some (SD.own l')->σ[j]? = some (some (V.ref b))->b≠p:=fun j l' b q1 q2=>by
  obtain⟨b',ys,w1,w2,_⟩:=R.sl.own j l' q1;rw[w1] at q2;cases q2;rintro rfl;exact np w2
 refine⟨⟨e.fl,aA _ R.sl.fO,fun b hb=>?_,fun l r q=>?_,by rw[bx,bx];exact R.sl.len,fun j d q=>?_,fun j l' q=>?_⟩,fun b hb=>aA _ (R.sub b hb),R.kp.ex e,fun b hb=>?_,fun j l' b q eb=>?_⟩
 ·rcases av.mp hb with z|z
  ·exact⟨xs,z ▸ hx⟩
  ·exact (R.sl.ex e).al b z
 ·intro z;rcases av.mp z with w|w
  ·subst w;obtain⟨l0,ns,i,c',a',b',f1,f2,f3⟩:=R.sl.fl;obtain⟨r',h2⟩:=e.sm.key _ _ f1;rw[h2] at q;cases q;rw[hp] at f2;cases f2
  ·exact (R.sl.ex e).lO _ _ q w
 ·by_cases z:i=j
  ·subst z;rw[aP,QI rfl] at q;split at q <;> cases q
  ·rw[aL z] at q ⊢;obtain⟨v,w1,w2⟩:=R.sl.val j d q;exact⟨v,w1,w2.moved mv kp R.sl.al⟩
 ·by_cases z:i=j
  ·subst z;rw[aP,QI rfl] at q;split at q
   ·rename_i hl;cases q;exact⟨p,xs,by rw[aP,QI rfl,QI (by rw[← R.sl.len];exact hl)],aG,npf,hx,r'⟩
   ·cases q
  ·rw[aL z] at q ⊢;obtain⟨b,ys,w1,w2,w3,w4,w5⟩:=R.sl.own j l' q;exact⟨b,ys,w1,aA _ w2,w3,e.sm.app b _ w3 w4,w5.moved mv kp R.sl.al⟩
 ·rcases av.mp hb with z|z
  ·subst z;exact low.symm
  ·exact R.new b z
 ·by_cases z:i=j
  ·subst z;rw[aP,QI rfl] at eb;split at eb
   ·cases eb;refine⟨low,fun w=>np (R.sub _ w),fun j' l2 q2 e2=>?_⟩;by_cases z2:i=j'
    ·exact z2.symm
    ·rw[aL z2] at q2 e2;exact absurd rfl (hne j' l2 _ q2 e2)
   ·cases eb
  ·rw[aL z] at q eb;obtain⟨w1,w2,w3⟩:=R.own j l' b q eb;refine⟨w1,w2,fun j' l2 q2 e2=>?_⟩;by_cases z2:i=j'
   ·subst z2;rw[aP,QI rfl] at e2;split at e2
    ·cases e2;exact absurd rfl (hne j l' _ q eb)
    ·cases e2
   ·rw[aL z2] at q2 e2;exact w3 j' l2 q2 e2
theorem StR.wr{l l':List D}{i:Nat}{a:Py}{xs:List V}(R:StR K c O σ H ss)(hs:ss[i]? = some (SD.own l))(ha:σ[i]? = some (some (V.ref a)))(r:Rps K c.f O H l' xs):StR K c O σ (uH H a (.lst xs)) (ss.set i (.own l')):=by
 obtain⟨a',ys,h1,h2,h3,h4,h5⟩:=R.sl.own i l hs;rw[h1] at ha;cases ha;obtain⟨w1,w2,w3⟩:=R.own i l a hs h1;have hl:i<ss.length:=(aj.mp hs).1;have kp:Kp O H (uH H a (.lst xs)):=fun b o n q=>by
  rw[ul (by rintro rfl;exact n h2)];exact q
 have fl:Fl (uH H a (.lst xs)) c.f:=by
  obtain⟨l0,ns,i,c',a',b',f1,f2,f3⟩:=R.sl.fl;refine⟨l0,ns,i,c',a',b',by rw[ul (Ne.symm h3)];exact f1,?_,f3⟩;rw[ul (by rintro rfl;exact R.sl.lO _ _ f1 h2)];exact f2
 have gt:∀{j:Nat} {s:SD},(ss.set i (.own l'))[j]? = some s->(j=i/\s = .own l')\/(j≠i/\ss[j]? = some s):=fun {j s} q=>by
  by_cases z:i=j
  ·subst z;rw[aP,QI rfl,QI hl] at q;exact .inl ⟨rfl,(PP q).symm⟩
  ·rw[aL z] at q;exact .inr ⟨Ne.symm z,q⟩
 refine⟨⟨fl,R.sl.fO,fun b hb=>?_,fun l r q=>by rw[ul (Ne.symm h3)] at q;exact R.sl.lO l r q,by rw[bx];exact R.sl.len,fun j d q=>?_,fun j l2 q=>?_⟩,R.sub,⟨fun b o q n z=>?_,fun l r q=>?_⟩,R.new,fun j l2 b q e=>?_⟩
 ·by_cases z:b=a
  ·subst z;exact⟨xs,ur⟩
  ·rw[ul z];exact R.sl.al b hb
 ·rcases gt q with⟨_,z⟩|⟨_,q⟩
  ·cases z
  ·obtain⟨v,q1,q2⟩:=R.sl.val j d q;exact⟨v,q1,q2.kp kp R.sl.al⟩
 ·rcases gt q with⟨rfl,z⟩|⟨z,q⟩
  ·cases z;exact⟨a,xs,h1,h2,h3,ur,r.kp kp R.sl.al⟩
  ·obtain⟨b,zs,q1,q2,q3,q4,q5⟩:=R.sl.own j l2 q;have nb:b≠a:=by
    rintro rfl;exact z (w3 j l2 q q1)
   exact⟨b,zs,q1,q2,q3,by rw[ul nb];exact q4,q5.kp kp R.sl.al⟩
 ·have nb:b≠a:=by
   rintro rfl;rcases z with z|z
   ·exact w2 z
   ·rcases w1 with w|w
    ·rw[w] at q;cases q
    ·exact z w
  rw[ul nb];exact R.kp.kp b o q n z
 ·obtain⟨r',q1⟩:=R.kp.key l r q;exact⟨r',by rw[ul (Ne.symm h3)];exact q1⟩
 ·have q':∃ l3,ss[j]? = some (SD.own l3):=by
   rcases gt q with⟨rfl,z⟩|⟨z,q⟩
   ·exact⟨l,hs⟩
   ·exact⟨l2,q⟩
  obtain⟨l3,q'⟩:=q';obtain⟨p1,p2,p3⟩:=R.own j l3 b q' e;refine⟨p1,p2,fun j' l4 q4 e4=>?_⟩;rcases gt q4 with⟨rfl,z⟩|⟨z,q5⟩
  ·exact p3 _ l hs e4
  ·exact p3 j' l4 q5 e4
end Dp
namespace Dp
open PySem L2
variable{K:Frag}{f:Addr}{O O':List Addr}{H H':Hp}{X:Cx}{σ:St}{ss:SS}{a b:Expr}{ta tb tc:TEd}{tA tB:TTd}{pos:Pos}{c:Cs}
theorem Rps.skip(S:SlD K f O σ H1 ss)(hp:H1 p=none)(r:Rps K f O H1 ds vs):Rps K f (p::O) (uH H1 p o) ds vs :=
 r.moved (fun a z=>by
  rcases av.mp z with w|w
  ·exact .inr (by rw[w];exact hp)
  ·exact .inl w) ((S.new hp o).kp S.fO) S.al
theorem Ex.low(e:Ex f H H1)(n:p≠f)(h:H1 p=none):H p=none:=e.sm.free n h
theorem je.okF(h:PA X es (LA X.K t)):PE X (.List es pos) (LF X.K (je t)):=(Cq h).weak fun σ H Q ⟨f,O,ss,S,q⟩ =>
 ⟨f,O,ss,S,t.mono (fun ds q vs H1 e r=>by
  obtain⟨hl,l,el,q⟩:=q;cases el;refine⟨by rw[r.len];exact hl,fun p hp=>?_⟩;have S1:=S.ex e;exact q p vs _ (e.trans (S1.new hp _)) (e.low (fun z=>S1.nO hp (z ▸ S1.fO)) hp) ur (Rps.skip S1 hp r)) q⟩
theorem uf.okF(ha:PE X a (LE X.K ta))(hb:PE X b (LE X.K tb)):PE X (.BinOp a .Mult b pos) (LF X.K (iV .Mult ta tb)):=(uL (pos:=pos) Ge ha hb).weak fun σ H Q ⟨f,O,ss,S,q⟩=>by
 refine⟨f,O,ss,S,ta.mono (fun dx q v1 H1 e1 r1=>?_) q⟩;refine⟨f,O,ss,S.ex e1,tb.mono (fun dy q v2 H2 e2 r2=>?_) q⟩;have S2:=(S.ex e1).ex e2;have r1:=(S.ex e1).up e2 r1;cases dx <;> cases dy <;> first|(exact PD q)|skip
 ·obtain⟨_,l,el,_⟩:=q;cases el
 ·obtain⟨_,_,_,l,el,_⟩:=q;cases el
 ·rename_i la k;obtain⟨q1,q2,q3,l,el,q⟩:=q;cases el;obtain⟨p0,xs,rfl,n1,h1,h2⟩:=r1;cases (show v2=_ from r2);refine⟨p0,k,xs,rfl,rfl,h1,q1,q2,by rw[h2.len];exact q3,fun p hp=>?_⟩;have e12:=e1.trans e2;exact q p _ _ (e12.trans (S2.new hp _)) (e12.low (fun z=>S2.nO hp (z ▸ S2.fO)) hp) ur (Rps.skip S2 hp (h2.flat _))
def jV(t:TEd):TEd:=⟨fun ss Q=>t.run ss fun d=>itemsD d fun l=>Q (.lst l),fun h q=>t.mono (fun d q=>itemsD.mono (fun l q=>h _ q) q) q⟩
theorem jV.okF(hg:Gl X "list")(hm:X.mg "list" = none)(ha:PE X a (LE X.K ta))(hs:PN [a] X.env=[(false,eval a X.env)]):PE X (.Call (.Name "list" p) [a] [] pos) (LF X.K (jV ta)) :=
 (xJ (p:=p) (pos:=pos) (CC X.K) hg hm A4 (uu ha pa_nil hs) (by decide) (by decide) hs rfl).weak fun σ H Q ⟨f,O,ss,S,q⟩=>⟨f,O,ss,S,ta.mono (fun d q v H1 e r=>by
  have S1:=S.ex e;cases d <;> first|exact PD q|skip
  ·rename_i l0;obtain⟨l,el,q⟩:=q;cases el;obtain⟨p0,xs,rfl,h1,h2⟩:=r;exact⟨p0,xs,rfl,.inr h1,fun p hp=>q p _ _ (e.trans (S1.new hp _)) (e.low (fun z=>S1.nO hp (z ▸ S1.fO)) hp) ur (Rps.skip S1 hp h2)⟩
  ·rename_i l0;obtain⟨l,el,q⟩:=q;cases el;obtain⟨p0,xs,rfl,_,h1,h2⟩:=r;exact⟨p0,xs,rfl,.inl (SqL.of h1),fun p hp=>q p _ _ (e.trans (S1.new hp _)) (e.low (fun z=>S1.nO hp (z ▸ S1.fO)) hp) ur (Rps.skip S1 hp h2)⟩) q⟩
def kY(fz:List Nat)(i:Nat)(e:TEd):TSd:=⟨fun E ss=>e.run (frz fz ss) fun d=>match d with | .lst l=>E.nx ((frz fz ss).set i (.own l))|_=>False,fun {E E' ss} h q=>e.mono (fun d q=>by
 revert q;cases d <;> first|exact h.nx _|exact id) q⟩
theorem kY.ok(hN:X.N.Nodup)(hi:X.N[i]? = some x)(hx:En X.env.scope x)(h:PE X a (LF X.K ta))(hs:swapsWith a (some (.Name x p')) pos.line X.env=pure false)(hf:X.fn x=true\/X.env.scope.names.lookup x=some .local) :
  PS X (.Assign [.Name x p'] a pos) (LS X.K (kY fz i ta)):=(xG hN hi hx h hs hf).weak fun D σ H ⟨c,O,ss,R,q⟩=>by
 obtain⟨O',R⟩:=R.frz (fz:=fz);refine⟨c.f,O',_,R.sl,ta.mono (fun d q=>?_) q⟩;cases d <;> first|exact PD q|skip
 rename_i l;exact⟨l,rfl,fun p xs H1 e hp hx r=>q _ _ H1 (R.mkOwn e hp hx r)⟩
def oz(fz:List Nat)(i:Nat)(e:TEd):TSd:=⟨fun E ss=>match (frz fz ss)[i]? with|some (.own l)=>e.run (frz fz ss) fun d=>l.length<sizeLine/\E.nx ((frz fz ss).set i (.own (l++[d])))|_=>False,fun {E E' ss} h q=>by
 revert q;split
 ·exact e.mono fun d q=>⟨q.1,h.nx _ q.2⟩
 ·exact id⟩
theorem oz.ok(hx:PE X x (wV i))(hb:attributeBase x "append" X.env (eval x X.env)=eval x X.env)(h:PE X a (LE X.K ta))(hs:PN [a] X.env=[(false,eval a X.env)])(hl:(ap.endLine == cp.line)=true)(hw:swapsWith (.Call (.Attribute x "append" ap) [a] [] cp) none pos.line X.env=pure false) :
  PS X (.Expr (.Call (.Attribute x "append" ap) [a] [] cp) pos) (LS X.K (oz fz i ta)):=by
 refine (DC (pos:=pos) (MD (apos:=ap) (cpos:=cp) PySem.F.plainAttrs_list PySem.F.slot_list_append PySem.F.type_list_append EK hx (uu h pa_nil hs) hb (by rw[hs];rfl) hl hs rfl) hw).weak fun D σ H ⟨c,O,ss,R,q⟩=>?_;obtain⟨O',R⟩:=R.frz (fz:=fz);have q:(match (frz fz ss)[i]? with|some (.own l)=>ta.run (frz fz ss) fun d=>l.length<Pv/\(wE X.K c D).nx ((frz fz ss).set i (.own (l++[d])))|_=>False):=q;split at q
 ·rename_i l el;obtain⟨p,xs,h1,h2,h3,h4,h5⟩:=R.sl.own i l el;refine⟨_,h1,.inl ⟨rfl,xs,SqL.of h4⟩,R.le q fun d v H1 R1 e1 r w=>?_⟩;have hp:=e1.sm.app p _ h3 h4;have r5:=R.sl.ups e1 h5;refine⟨p,xs,v,rfl,rfl,hp,by rw[r5.len];exact w.1,w.2 O' σ _ (R1.wr el h1 (r5.append ⟨v,[],rfl,r,rfl⟩))⟩
 ·exact q.elim
theorem Rps.dropLast:∀{ds:List D} {vs:List V},Rps K f O H ds vs->Rps K f O H ds.dropLast vs.dropLast:=fun {ds vs} h=>by
 rw[fi,fi,h.len];exact h.take _
def s9(i:Nat):TSd:=⟨fun E ss=>match ss[i]? with|some (.own l)=>l≠[]/\E.nx (ss.set i (.own l.dropLast))|_=>False,fun {E E' ss} h q=>by
 revert q;split
 ·exact fun q=>⟨q.1,h.nx _ q.2⟩
 ·exact id⟩
theorem s9.ok(hx:PE X x (wV i))(hb:attributeBase x "pop" X.env (eval x X.env)=eval x X.env)(hl:(ap.endLine == cp.line)=true)(hw:swapsWith (.Call (.Attribute x "pop" ap) [] [] cp) none pos.line X.env=pure false) :
  PS X (.Expr (.Call (.Attribute x "pop" ap) [] [] cp) pos) (LS X.K (s9 i)):=by
 refine (DC (pos:=pos) (Cr (apos:=ap) (cpos:=cp) PySem.F.plainAttrs_list PySem.F.slot_list_pop PySem.F.type_list_pop Gp hx hb hl) hw).weak fun D σ H ⟨c,O,ss,R,q⟩=>?_;have q:(match ss[i]? with|some (.own l)=>l≠[]/\(wE X.K c D).nx (ss.set i (.own l.dropLast))|_=>False):=q;split at q
 ·rename_i l el;obtain⟨p,xs,h1,h2,h3,h4,h5⟩:=R.sl.own i l el;have hne:0<l.length:=dr.mpr q.1;obtain⟨v,hv,_⟩:=h5.get (show l[l.length-1]? = some (l[l.length-1]'(by lia)) by simp);exact⟨_,h1,.inl ⟨rfl,xs,SqL.of h4⟩,p,xs,v,rfl,rfl,h4,by rw[h5.len];exact hv,q.2 O σ _ (R.wr el h1 h5.dropLast)⟩
 ·exact q.elim
def qO(j i:Nat):TSd:=⟨fun E ss=>match ss[i]? with|some (.own l)=>∃ d,l[l.length-1]? = some d/\E.nx ((ss.set i (.own l.dropLast)).set j (.val d))|_=>False,fun {E E' ss} h q=>by
 revert q;split
 ·exact fun⟨d,q1,q2⟩=>⟨d,q1,h.nx _ q2⟩
 ·exact id⟩
theorem qO.ok(hN:X.N.Nodup)(hj:X.N[j]? = some y)(hy:En X.env.scope y)(hf:X.fn y=true\/X.env.scope.names.lookup y=some .local)(hx:PE X x (wV i))(hb:attributeBase x "pop" X.env (eval x X.env)=eval x X.env)(hl:(ap.endLine == cp.line)=true)(hw:swapsWith (.Call (.Attribute x "pop" ap) [] [] cp) (some (.Name y p')) pos.line X.env=pure false) :
  PS X (.Assign [.Name y p'] (.Call (.Attribute x "pop" ap) [] [] cp) pos) (LS X.K (qO j i)):=by
 refine (xG (pos:=pos) hN hj hy (Cr (apos:=ap) (cpos:=cp) PySem.F.plainAttrs_list PySem.F.slot_list_pop PySem.F.type_list_pop Gp hx hb hl) hw hf).weak fun D σ H ⟨c,O,ss,R,q⟩=>?_;have q:(match ss[i]? with|some (.own l)=>∃ d,l[l.length-1]? = some d/\(wE X.K c D).nx ((ss.set i (.own l.dropLast)).set j (.val d))|_=>False):=q;split at q
 ·rename_i l el;obtain⟨p,xs,h1,h2,h3,h4,h5⟩:=R.sl.own i l el;obtain⟨d,q1,q2⟩:=q;obtain⟨v,hv,rv⟩:=h5.get q1;have R2:=R.wr el h1 h5.dropLast;have kp:Kp O H (uH H p (.lst xs.dropLast)):=fun b o n q=>by
   rw[ul (by rintro rfl;exact n h2)];exact q
  refine⟨_,h1,.inl ⟨rfl,xs,SqL.of h4⟩,p,xs,v,rfl,rfl,h4,by rw[h5.len];exact hv,q2 O _ _ (R2.to (R2.sl.set (rv.kp kp R.sl.al)) Sub.set)⟩
 ·exact q.elim
def atD(l:List D)(dk:D)(Q:Nat->Prop):Prop:=match dk with | .int z=>(match CF l.length z with|some j=>Q j|none=>False)|_=>False
theorem atD.mono(h:∀ j,Q j->Q' j):atD l dk Q->atD l dk Q':=by
 cases dk <;> first|exact id|skip
 unfold atD;dsimp only;split
 ·exact h _
 ·exact id
def mT(fz:List Nat)(i:Nat)(k e:TEd):TSd:=⟨fun E ss=>match (frz fz ss)[i]? with|some (.own l)=>e.run (frz fz ss) fun d=>k.run (frz fz ss) fun dk=>atD l dk fun j=>E.nx ((frz fz ss).set i (.own (l.set j d)))|_=>False,fun {E E' ss} h q=>by
 revert q;split
 ·exact e.mono fun d=>k.mono fun dk=>atD.mono fun j=>h.nx _
 ·exact id⟩
theorem mT.ok(hx:PE X x (wV i))(hk:PE X k (LE X.K tk))(h:PE X a (LE X.K ta))(hs:swapsWithSole [.Subscript x k sp] a pos.line X.env=pure false)(hw:swappedStores [.Subscript x k sp] a X.env=pure none)(h1:(assignEach [.Subscript x k sp] X.env).map (·.2)=[assign (.Subscript x k sp) X.env])
  (hg:PG X (.Subscript x k sp) (MW (wV i) (LE X.K tk) Jj)):PS X (.Assign [.Subscript x k sp] a pos) (LS X.K (mT fz i tk ta)):=by
 refine (vT (pos:=pos) h hg hs hw h1).weak fun D σ H ⟨c,O,ss,R,q⟩=>?_;obtain⟨O',R⟩:=R.frz (fz:=fz);have q:(match (frz fz ss)[i]? with|some (.own l)=>ta.run (frz fz ss) fun d=>tk.run (frz fz ss) fun dk=>atD l dk fun j=>(wE X.K c D).nx ((frz fz ss).set i (.own (l.set j d)))|_=>False):=q;split at q
 ·rename_i l el;obtain⟨p,xs,g1,g2,g3,g4,g5⟩:=R.sl.own i l el;refine R.le q fun d v H1 R1 e1 r w=>⟨_,g1,R1.le w fun dk vk H2 R2 e2 rk w=>?_⟩;cases dk <;> first|exact PD w|skip
  rename_i z;cases (show vk=_ from rk);unfold atD at w;dsimp only at w;split at w
  ·rename_i j ej;have e12:=e1.trans e2;have r5:=R.sl.ups e12 g5;exact⟨p,xs,z,j,rfl,rfl,e12.sm.app p _ g3 g4,by rw[r5.len];exact ej,w O' σ _ (R2.wr el g1 (r5.set (R1.sl.up e2 r) j))⟩
  ·exact w.elim
 ·exact q.elim
def oAug:Operator->OD
 | .Add=>fun x y Q=>match x,y with | .int i,.int j=>Q (.int (i+j)) | .str a,.str b=>a.length+b.length<=sizeLine/\Q (.str (a++b))|_,_=>False
 | .Sub=>oSub
 | .Mult=>fun x y Q=>match x,y with | .int i,.int j=>CMulB i j/\Q (.int (i*j))|_,_=>False
 | .FloorDiv=>oDiv
 | _=>Cy
theorem oAug.mono:∀{x y Q Q'},(∀ d,Q d->Q' d)->oAug op x y Q->oAug op x y Q':=by
 cases op;all_goals first|exact oSub.mono|exact oDiv.mono|exact fun _ q=>q|skip
 all_goals (intro x y Q Q' h;cases x <;> cases y <;> intro q <;> first|exact h _ q|exact q|exact⟨q.1,h _ q.2⟩)
theorem FH(hr:Room k X.A)(op:QC):Rng X (inplaceOp op) (oAug op):=by
 cases op;case Add =>
  refine⟨_,OpR.or2 IG BI,fun f O σ ss H dx dy x y Q R rx ry h=>?_⟩;cases dx <;> cases dy <;> first|(exact PD h)|skip
  ·cases rx;cases ry;exact .inl ⟨_,_,rfl,rfl,h _ H (Ex.refl R.fl) rfl⟩
  ·cases rx;cases ry;exact .inr ⟨_,_,rfl,rfl,h.1,h.2 _ H (Ex.refl R.fl) rfl⟩
 case Sub =>
  refine⟨_,IF,fun f O σ ss H dx dy x y Q R rx ry h=>?_⟩;cases dx <;> cases dy <;> first|(exact PD h)|skip
  cases rx;cases ry;exact⟨_,_,rfl,rfl,h _ H (Ex.refl R.fl) rfl⟩
 case Mult=>exact xE GD fun dx dy Q h=>by cases dx <;> cases dy <;> first|(exact PD h)|exact⟨_,_,rfl,rfl,h.1,h.2⟩
 case FloorDiv=>exact xE (EQ hr) fun dx dy Q h=>by cases dx <;> cases dy <;> first|(exact PD h)|exact⟨_,_,rfl,rfl,h.1,h.2⟩
 all_goals exact Rng.never
def pS(fz:List Nat)(i:Nat)(op:Operator)(e:TEd):TSd:=⟨fun E ss=>match (frz fz ss)[i]? with|some (.val x)=>e.run (frz fz ss) fun y=>oAug op x y fun z=>E.nx ((frz fz ss).set i (.val z))|_=>False,fun {E E' ss} h q=>by
 revert q;split
 ·exact e.mono fun y=>oAug.mono fun z=>h.nx _
 ·exact id⟩
theorem pS.ok(hk0:Room k0 X.A)(hN:X.N.Nodup)(hi:X.N[i]? = some x)(hx:En X.env.scope x)(h:PE X a (LE X.K ta))(hf:X.fn x=true\/X.env.scope.names.lookup x=some .local) :
  PS X (.AugAssign (.Name x p') op a pos) (LS X.K (pS fz i op ta)):=by
 obtain⟨r,hr,hd⟩:=FH (X:=X) hk0 op;refine (FW (pos:=pos) hN hi hx h (ti:=r) hr hf).weak fun D σ H ⟨c,O,ss,R,q⟩=>?_;obtain⟨O',R⟩:=R.frz (fz:=fz);have q:(match (frz fz ss)[i]? with|some (.val x)=>ta.run (frz fz ss) fun y=>oAug op x y fun z=>(wE X.K c D).nx ((frz fz ss).set i (.val z))|_=>False):=q;split at q
 ·rename_i dx ex;obtain⟨v,g1,g2⟩:=R.sl.val i dx ex;refine⟨v,g1,R.le q fun dy y H1 R1 e1 ry w=>?_⟩;refine hd c.f O' σ _ H1 dx dy v y _ R1.sl (R.sl.up e1 g2) ry (oAug.mono (fun z w v' H2 e2 rz=>?_) w);have R2:=R1.ex e2;exact w O' _ H2 (R2.to (R2.sl.set rz) Sub.set)
 ·exact q.elim
def augD(l:List D)(dk:D)(Q:Nat->D->Prop):Prop:=match dk with | .int z=>0<=z/\(match l[z.toNat]? with|some x=>Q z.toNat x|none=>False)|_=>False
theorem augD.mono(h:∀ j x,Q j x->Q' j x):augD l dk Q->augD l dk Q':=by
 cases dk <;> first|exact id|skip
 unfold augD;dsimp only;split
 ·exact fun q=>⟨q.1,h _ _ q.2⟩
 ·exact id
def mU(fz:List Nat)(i:Nat)(k:TEd)(op:Operator)(e:TEd):TSd:=⟨fun E ss=>match (frz fz ss)[i]? with|some (.own l)=>k.run (frz fz ss) fun dk=>augD l dk fun j x=>e.run (frz fz ss) fun y=>oAug op x y fun z=>E.nx ((frz fz ss).set i (.own (l.set j z)))|_=>False,fun {E E' ss} h q=>by
 revert q;split
 ·exact k.mono fun dk=>augD.mono fun j x=>e.mono fun y=>oAug.mono fun z=>h.nx _
 ·exact id⟩
theorem mU.ok(hk0:Room k0 X.A)(hx:PE X x (wV i))(hk:PE X k (LE X.K tk))(h:PE X a (LE X.K ta))(ha:∀ ov iv new,augStore k ov iv new=(do holding [new,ov,iv] (setItem ov iv new);release [new,ov,iv] [];pure .next)) :
  PS X (.AugAssign (.Subscript x k sp) op a pos) (LS X.K (mU fz i tk op ta)):=by
 obtain⟨r,hr,hd⟩:=FH (X:=X) hk0 op;refine (HP (pos:=pos) (tpos:=sp) hx hk (Oi X.K) h (tip:=r) hr va ha).weak fun D σ H ⟨c,O,ss,R,q⟩=>?_;obtain⟨O',R⟩:=R.frz (fz:=fz);have q:(match (frz fz ss)[i]? with|some (.own l)=>tk.run (frz fz ss) fun dk=>augD l dk fun j x=>ta.run (frz fz ss) fun y=>oAug op x y fun z=>(wE X.K c D).nx ((frz fz ss).set i (.own (l.set j z)))|_=>False):=q;split at q
 ·rename_i l el;obtain⟨p,xs,g1,g2,g3,g4,g5⟩:=R.sl.own i l el;refine⟨_,g1,R.le q fun dk vk H1 R1 e1 rk w=>?_⟩;cases dk <;> first|exact PD w|skip
  rename_i z;cases (show vk=_ from rk);obtain⟨z0,w⟩:=w;obtain⟨j,rfl⟩:=dI z0;rw[aS] at w;split at w
  ·rename_i dx hx;obtain⟨v,hv,rv⟩:=g5.get hx;refine⟨p,xs,v,j,rfl,rfl,SqL.of (e1.sm.app p _ g3 g4),hv,R1.le w fun dy y H2 R2 e2 ry w=>?_⟩;refine hd c.f O' σ _ H2 dx dy v y _ R2.sl (R1.sl.up e2 (R.sl.up e1 rv)) ry (oAug.mono (fun z w v' H3 e3 rz=>?_) w);have R3:=R2.ex e3;have e13:=e1.trans (e2.trans e3);have r5:=R.sl.ups e13 g5;have hj:j<xs.length:=(aj.mp hv).1;refine⟨p,xs,_,j,rfl,rfl,e13.sm.app p _ g3 g4,?_,w O' σ _ (R3.wr el g1 (r5.set rz j))⟩;unfold CF;rw[QI (by lia),QI (by lia),aS]
  ·exact w.elim
 ·exact q.elim
def ownInt(l:D)(b:TEd)(s:SS)(Q:List D->Int->Prop):Prop:=match l with
 | .lst l=>b.run s fun d=>match d with | .int z=>Q l z|_=>False
 | _=>False
theorem ownInt.mono{l:D}{b:TEd}{s:SS}{Q Q':List D->Int->Prop}(h:∀ l z,Q l z->Q' l z):ownInt l b s Q->ownInt l b s Q':=by
 cases l <;> first|exact id|skip
 exact b.mono fun d q=>by
  revert q;cases d <;> first|exact id|exact h _ _
def qP(fz:List Nat)(i j:Nat)(a b:TEd):TSd:=⟨fun E ss=>a.run (frz fz ss) fun d=>ownInt d b (frz fz ss) fun l z=>E.nx (((frz fz ss).set i (.own l)).set j (.val (.int z))),fun h q=>a.mono (fun d q=>ownInt.mono (fun l z q=>h.nx _ q) q) q⟩
theorem qP.weak{fz:List Nat}{i j:Nat}{D:Ends}{σ:St}{ta tb:TEd}(h:LS X.K (qP fz i j ta tb) D σ H):J0 i j (yv (LF X.K ta) (yv (LE X.K tb) Fh)) D σ H:=by
 obtain⟨c,O,ss,R,q⟩:=h;obtain⟨O',R⟩:=R.frz (fz:=fz);refine⟨c.f,O',_,R.sl,ta.mono (fun d q=>?_) q⟩;cases d <;> first|exact PD q|skip
 rename_i l;refine⟨l,rfl,fun p xs H1 e1 hp hx r=>?_⟩;have R1:=R.ex e1;refine R1.le q fun d' v' H2 R2 e2 r' w=>?_;cases d' <;> first|exact PD w|skip
 rename_i z;cases (show v'=_ from r');have pO:p ∉ O':=fun hO=>by
  obtain⟨ys,hy⟩:=R.sl.al p hO;rw[hp] at hy;cases hy
 have kp:=e2.kp R1.sl.fO;have kp':Kp (p::O') H1 H2:=fun b o n h=>kp b o (fun z=>n (aA _ z)) h;have al':∀ b∈p::O',∃ xs,H1 b=some (.lst xs):=fun b hb=>by
  rcases av.mp hb with z|z
  ·exact⟨xs,z ▸ hx⟩
  ·exact R1.sl.al b z
 have R3:=R.mkOwn (i:=i) (e1.trans e2) hp (kp p _ pO hx) (r.kp kp' al');exact⟨.ref p,.int z,rfl,w (p::O') _ H2 (R3.to (R3.sl.set (i:=j) (d:=.int z) (v:=.int z) rfl) Sub.set)⟩
def startD(n:Nat)(ds:List D):SS:=ds.map SD.val++List.replicate (n-ds.length) SD.no
theorem startD.ok(fl:Fl H f)(fO:f∈O)(al:∀ a∈O,∃ xs,H a=some (.lst xs))(lO:∀ l r,H f=some (.lst (.ref l::r))->l ∉ O)(r:Rps K f O H ds vs):StR K ⟨f,O,H,O⟩ O (L2.start N vs) H (startD N.length ds):=by
 have len:(startD N.length ds).length=(L2.start N vs).length:=by
  unfold startD L2.start;rw[aB,aB,aa,aa,aX,aX,r.len]
 have get:∀{i:Nat} {s:SD},(startD N.length ds)[i]? = some s->(∃ d,s = .val d/\ds[i]? = some d)\/s = .no:=fun {i s} h=>by
  unfold startD at h;rcases ar i (ds.map SD.val).length with z|z
  ·rw[bE z,aM] at h;obtain⟨d,h1,h2⟩:=ab.mp h;exact .inl ⟨d,h2.symm,h1⟩
  ·rw[bv z] at h;exact .inr (dD (aO h))
 refine⟨⟨fl,fO,al,lO,len,fun i d h=>?_,fun i l h=>?_⟩,fun _ h=>h,⟨fun _ _ h _ _=>h,fun l r h=>⟨r,h⟩⟩,fun a h=>.inl h,fun i l a h=>?_⟩
 ·rcases get h with⟨d',e,h1⟩|e
  ·cases e;obtain⟨v,h2,h3⟩:=r.get h1;refine⟨v,?_,h3⟩;unfold L2.start;have hv:=(aj.mp h2).1;rw[bE (by rw[aa];exact hv),aM,h2];rfl
  ·cases e
 ·rcases get h with⟨d',e,h1⟩|e <;> cases e
 ·rcases get h with⟨d',e,h1⟩|e <;> cases e
@[reducible] def ux(Q:D->Prop):EndsD:=⟨fun _=>Q .non,Q,fun _=>False,fun _=>False⟩
def Does(n:Nat)(t:TSd)(s:SpB):Prop:=∀ ds Q,ds.length=s.n->s.run ds Q->t.run (ux Q) (startD n ds)
theorem Does.ok(h:Does N.length t s)(hs:Bf K s.n s.run vs H Q E):LS K t { nx:=fun _ H'=>Q .non H',rt:=Q } (L2.start N vs) H:=by
 obtain⟨hn,f,O,ds,fl,fO,al,lO,r,q⟩:=hs;refine⟨⟨f,O,H,O⟩,O,_,startD.ok fl fO al lO r,?_⟩;have q:=h ds _ (r.len.symm.trans hn) q;refine t.mono ?_ q;refine⟨fun s q O' σ' H' R=>?_,fun d q v H' R=>?_,fun _ q=>q.elim,fun _ q=>q.elim⟩
 ·exact q .non H' ⟨⟨fun b o n h=>R.kp.kp b o h n (by by_cases z:b∈O;exact .inl z;exact .inr z),R.kp.key⟩,R.sl.fl⟩ rfl
 ·exact q v H' ⟨⟨fun b o n h=>R.kp.kp b o h n (by by_cases z:b∈O;exact .inl z;exact .inr z),R.kp.key⟩,R.fl⟩ R.rp
end Dp
namespace Dp
open PySem L2
variable{K:Frag}{f:Addr}{O O':List Addr}{H H':Hp}{X:Cx}{σ:St}{ss:SS}{a b:Expr}{ta tb tc:TEd}{tA tB:TTd}{pos:Pos}{c:Cs}
mutual
def D.lf:D->Bool
 | .tup ds=>D.lfs ds
 | .lst _=>false | .fl=>false
 | .exn _ _ ds=>D.lfs ds
 | .dct _ ds=>D.lfs ds
 | .int _=>true | .str _=>true | .non=>true | .bl _=>true
def D.lfs:List D->Bool
 | []=>true
 | d::ds=>d.lf && D.lfs ds
end
mutual
theorem Rp.any:∀{d:D} {v:V},d.lf=true->Rp K f O H d v->Rp K f O' H d v
 | .non,_,_,h=>h
 | .bl _,_,_,h=>h
 | .int _,_,_,h=>h
 | .str _,_,_,h=>h
 | .fl,_,z,_=>by cases z
 | .lst _,_,z,_=>by cases z
 | .tup l,v,z,h=>by
  obtain⟨a,xs,e1,h1,h2⟩:=h;exact⟨a,xs,e1,h1,Rps.any z h2⟩
 | .exn C x l,v,z,h=>by
  obtain⟨a,us,e1,h1,h2⟩:=h;exact⟨a,us,e1,h1,Rps.any z h2⟩
 | .dct ks l,v,z,h=>by
  obtain⟨a,us,e1,h1,h2,h3⟩:=h;exact⟨a,us,e1,h1,h2,Rps.any z h3⟩
theorem Rps.any:∀{ds:List D} {vs:List V},D.lfs ds=true->Rps K f O H ds vs->Rps K f O' H ds vs
 | [],_,_,h=>h
 | d::ds,_,z,h=>by
  have z:=ax.mp (show (d.lf && D.lfs ds)=true from z);obtain⟨v,r,e1,h1,h2⟩:=h;exact⟨v,r,e1,Rp.any z.1 h1,Rps.any z.2 h2⟩
end
end Dp
namespace Dp
open PySem L2
variable{K:Frag}{f:Addr}{O O':List Addr}{H H':Hp}{X:Cx}{σ:St}{ss:SS}{a b c:Expr}{ta tb tc:TEd}{pos:Pos}
def qQ(t:TEd):TEd:=⟨fun ss Q=>t.run ss fun d=>∃ i,d = .int i/\Q (.int ((Builtin.Int.intBits i:Nat):Int)),fun h q=>t.mono (fun d ⟨i,e,q⟩=>⟨i,e,h _ q⟩) q⟩
theorem qQ.ok(ha:PE X a (LE X.K ta))(hb:attributeBase a "bit_length" X.env (eval a X.env)=eval a X.env)(hl:(ap.endLine == cp.line)=true):PE X (.Call (.Attribute a "bit_length" ap) [] [] cp) (LE X.K (qQ ta)):=by
 refine (Cr (apos:=ap) (cpos:=cp) PySem.F.plainAttrs_int PySem.F.slot_int_bit_length PySem.F.type_int_bit_length Iq ha hb hl).weak fun σ H Q ⟨f,O,ss,S,q⟩=>?_;refine⟨f,O,ss,S,ta.mono (fun d q v H1 e r=>?_) q⟩;obtain⟨i,rfl,q⟩:=q;cases r;exact⟨rfl,i,rfl,rfl,q _ H1 e rfl⟩
end Dp
namespace Dp
open PySem L2
variable{K:Frag}{f:Addr}{O O':List Addr}{H H':Hp}{X:Cx}{σ:St}{ss:SS}{pos:Pos}
def td(fz:List Nat)(i:Nat)(e:TEd):TSd:=⟨fun E ss=>match (frz fz ss)[i]? with|some (.own l)=>e.run (frz fz ss) fun d=>∃ l',d = .lst l'/\l.length+l'.length<=sizeLine/\E.nx ((frz fz ss).set i (.own (l++l')))|_=>False,fun {E E' ss} h q=>by
 revert q;split
 ·exact e.mono fun d ⟨l',a,b,q⟩=>⟨l',a,b,h.nx _ q⟩
 ·exact id⟩
end Dp
namespace Dp
open PySem L2
variable{K:Frag}{f:Addr}{O O':List Addr}{H H':Hp}{X:Cx}{σ:St}{ss:SS}{pos:Pos}
theorem td.okA(hN:X.N.Nodup)(hi:X.N[i]? = some x)(hx:En X.env.scope x)(h:PE X a (LE X.K ta))(hf:X.fn x=true\/X.env.scope.names.lookup x=some .local) :
  PS X (.AugAssign (.Name x p') .Add a pos) (LS X.K (td fz i ta)):=by
 refine (FW (pos:=pos) hN hi hx h (ti:=OI) FZ hf).weak fun D σ H ⟨c,O,ss,R,q⟩=>?_;obtain⟨O',R⟩:=R.frz (fz:=fz);have q:(match (frz fz ss)[i]? with|some (.own l)=>ta.run (frz fz ss) fun d=>∃ l',d = .lst l'/\l.length+l'.length<=Pv/\(wE X.K c D).nx ((frz fz ss).set i (.own (l++l')))|_=>False):=q;split at q
 ·rename_i l el;obtain⟨p,xs,h1,h2,h3,h4,h5⟩:=R.sl.own i l el;refine⟨_,h1,R.le q fun d v H1 R1 e1 r ⟨l',ed,w1,w2⟩=>?_⟩;subst ed;obtain⟨b,zs,rfl,nb,hb',rs⟩:=r;have hp:=e1.sm.app p _ h3 h4;have r5:=R.sl.ups e1 h5;refine⟨p,b,xs,zs,rfl,rfl,hp,hb',by rw[r5.len,rs.len];exact w1,?_⟩;have es:σ.set i (some (.ref p))=σ:=by
   obtain⟨hlt,e2⟩:=aj.mp h1;rw[← e2];exact List.set_getElem_self hlt
  show D.nx (σ.set i (some (.ref p))) _;rw[es];exact w2 O' σ _ (R1.wr el h1 (r5.append rs))
 ·exact q.elim
def tf(s:SpB)(e:TEd):TEd:=⟨fun ss Q=>e.run ss fun d=>∃ x,d = .lst [x]/\s.n=1/\s.run [x] fun _=>Q (.lst [x]),fun h q=>e.mono (fun d ⟨x,a,b,q⟩=>⟨x,a,b,s.mono (fun _=>h _) q⟩) q⟩
theorem tf.ok(h:PE X e (L8 (Bf X.K s.n s.run) (LE X.K t))):PE X e (LE X.K (tf s t)):=h.weak fun σ H Q ⟨f,O,ss,S,q⟩ =>
 ⟨f,O,ss,S,t.mono (fun d ⟨x,ed,hn,q⟩ v H1 e1 r1=>by
  subst ed;have S1:=S.ex e1;obtain⟨b,zs,rfl,nb,hb,rs⟩:=r1;obtain⟨y,rfl,ry⟩:=Rps.one rs;refine⟨b,y,rfl,hb,by rw[hn];rfl,f,O,[x],S1.fl,S1.fO,S1.al,S1.lO,rs,s.mono (fun d' q v H2 e2 r2 D hD=>?_) q⟩;have S2:=S1.ex e2;exact q _ _ ((e1.trans e2).trans (S2.new hD _)) (S2.lst hD (S1.ups e2 rs))) q⟩
end Dp
namespace Dp
open PySem L2
variable{K:Frag}{f:Addr}{O:List Addr}{H:Hp}{X:Cx}
def bSortI:BD
 | [.lst l],Q=>∃ ns:List Int,l=ns.map D.int/\ns.length<64/\∀ ns':List Int,ns'.Perm ns->ns'.Pairwise (· <= ·)->Q (.lst (ns'.map D.int))
 | _,_=>False
theorem bSortI.mono:∀{ds Q Q'},(∀ d,Q d->Q' d)->bSortI ds Q->bSortI ds Q':=by
 intro ds Q Q' h;unfold bSortI;split
 ·exact fun⟨bs,e,n,q⟩=>⟨bs,e,n,fun ns' a b=>h _ (q ns' a b)⟩
 ·exact id
theorem FJ:RB X (.builtin "sorted") bSortI:=by
 refine⟨_,C7,fun f O σ ss H ds vs Q S r h=>?_⟩;unfold bSortI at h;split at h
 ·obtain⟨ns,rfl,n,h⟩:=h;obtain⟨v,rfl,r1⟩:=Rps.one r;obtain⟨p,xs,rfl,_,h1,h2⟩:=r1;exact⟨p,ns,rfl,by rw[h1,FD h2],n,fun ns' l a b hl=>h ns' a b _ _ (S.new hl _) (S.lst hl FC)⟩
 ·exact h.elim
end Dp
namespace Dp
open PySem L2
variable{K:Frag}{X:Cx}{T:Tc}{pos p p2:Pos}{a b e:Expr}{E:FE}{F:FT}
theorem _root_.L2.PTs.weak(h:PTs X es t)(w:∀ σ H Q,t' σ H Q->t σ H Q):PTs X es t':=fun pins s σ H Q I q=>h pins s σ H Q I (w σ H Q q)
end Dp
namespace Dp
open PySem L2
variable{P:Program}{w:World}{K:Frag}{mg:Str->Option Value}{base:Heap}
def yx(K:Frag):Sp:=fun vs H Q _=>∃(a:Addr) (ns:List Int),vs=[.ref a]/\SqL K H a (ns.map V.int)/\ns.length<=63/\∀ f H',Same H H'->Fl H' f->H f=none->Q (.ref f) H'
def As:Sp:=fun vs H Q _=>∃(f:Addr) (m:Int),vs=[.ref f,.int m]/\Fl H f/\0<m/\Lt2 9000 m/\∀ d H',0<=d->d<m->Fl H' f->Sm f H H'->Q (.int d) H'
def Do(K:Frag):Sp:=fun vs H Q _=>∃(a:Addr) (ns:List Int),vs=[.ref a]/\SqL K H a (ns.map V.int)/\ns.length<=63/\∀ H',Q (.bl true) H'
def iX:SpB:=.of 2 (α:=Int) (fun m ds=>ds=[.fl,.int m]/\0<m/\Lt2 9000 m) (fun m d=>∃ i,d = .int i/\0<=i/\i<m)
theorem EA(g:Def P w K mg base "_law_pick" k ps As):Def P w K mg base "_law_pick" k ps (Bf K iX.n iX.run):=by
 obtain⟨f,fd,F,r⟩:=g.ex;refine⟨f,fd,F.imp (fun vs H Q E h=>?_),r⟩;obtain⟨hn,f,O,ds,fl,fO,al,lO,rp,m,⟨rfl,m0,m1⟩,q⟩:=h;obtain⟨v,v',rfl,e1,e2⟩:=Rps.two rp;cases (show v=_ from e1);cases (show v'=_ from e2);exact⟨f,m,rfl,fl,m0,m1,fun d H' d0 d1 fl' sm=>q (.int d) ⟨d,rfl,d0,d1⟩ _ H' ⟨sm,fl'⟩ rfl⟩
end Dp
namespace Ds
section
open PySem L2 Dp
variable{X:Cx}
def bTb:List (Str×Bool×String×BB):=[("len",true, "len",⟨bLen,bLen.mono⟩),("abs",true, "abs",⟨bAbs,bAbs.mono⟩),("all",true, "all",⟨bAll,bAll.mono⟩),("sum",true, "sum",⟨bSum,bSum.mono⟩),("max",true, "max",⟨bMax,bMax.mono⟩),("int",false, "int",⟨bInt,bInt.mono⟩),("list",false, "list",⟨bList,bList.mono⟩),("tuple",false, "tuple",⟨bTuple,bTuple.mono⟩),("sorted",true, "sorted",⟨bSortI,bSortI.mono⟩)]
def OV(x:Str):Option (Bool×String×BB):=bTb.lookup x
theorem Lw{j:Nat}(hr:Room j X.A)(hc:X.calm=true)(B:Bl X.mg){x:PR}{k:Bool}{id:String}{o:BB}(h:OV x=some (k,id,o)):X.mg x=none/\x ≠ "__name__" /\ (x == ("__debug__" : PR))=false/\(if k then P0 x=some (.builtin id)/\RB X (.builtin id) o.run else P0 x=some (.type id)/\RB X (.type id) o.run):=by
 have m:=uT h;unfold bTb at m;rcases av.mp m with e|m
 ·cases e;exact⟨B.len,by decide,by decide,C9,FK⟩
 rcases av.mp m with e|m
 ·cases e;exact⟨B.abs,by decide,by decide,Lp,Kn⟩
 rcases av.mp m with e|m
 ·cases e;exact⟨B.all,by decide,by decide,Lo,Km hc⟩
 rcases av.mp m with e|m
 ·cases e;exact⟨B.sum,by decide,by decide,Ll,Kj hc⟩
 rcases av.mp m with e|m
 ·cases e;exact⟨B.max,by decide,by decide,Lm,Kk hc⟩
 rcases av.mp m with e|m
 ·cases e;exact⟨B.int,by decide,by decide,Ln,Kl⟩
 rcases av.mp m with e|m
 ·cases e;exact⟨B.list,by decide,by decide,A4,HK⟩
 rcases av.mp m with e|m
 ·cases e;exact⟨B.tuple,by decide,by decide,Hl,FI⟩
 rcases av.mp m with e|m
 ·cases e;exact⟨B.sorted,by decide,by decide,E2,FJ⟩
 cases m
end
section
open PySem L2 Dp
variable{K:Frag}{f:Addr}{O O':List Addr}{H H':Hp}{X:Cx}{σ:L2.St}{ss:SS}{a b:Expr}{ta tb tc:TEd}{tA tB:TTd}{pos:Pos}{c:Cs}
structure Tc where
 N:List Str
 sc:Scope
 G:List (Str×Nat×SpB)
 gc:List (Str×D)
 k:Nat
 fz:List (Nat×List Nat):=[]
 own:List Nat:=[]
 mu:List Nat:=[]
def Tc.frz(T:Tc)(p:Pos):List Nat:=(T.fz.lookup p.line).getD []
def IB(x:Str):List Str->Option Nat
 | []=>none
 | y::r=>if x=y then some 0 else (IB x r).map (· + 1)
theorem AQ:∀{N:List PR} {i:Nat},IB x N=some i->N[i]? = some x
 | [],_,h=>by cases h
 | y::r,i,h=>by
  unfold IB at h;by_cases e:x=y
  ·rw[QI e] at h;cases h;rw[e];rfl
  ·rw[QJ e] at h;obtain⟨j,h1,rfl⟩:=ab.mp h;rw[e9];exact AQ h1
def MN:Option NameKind->Bool
 | some .local=>true|some .cell=>true|some .free=>true|_=>false
def LL(x:Str):Bool:=!(x == ("__debug__" : Str)) && !(x == ("__classdict__" : Str))
def Tc.slot(T:Tc)(x:Str):Option Nat:=if MN (T.sc.names.lookup x) && LL x then IB x T.N else none
def Tc.isG(T:Tc)(x:Str):Bool:=(T.sc.names.lookup x == some .globalImplicit) && LL x
structure CtxOk (T:Tc)(X:Cx):Prop where
 N:X.N=T.N
 nd:X.N.Nodup
 calm:X.calm=true
 room:Room T.k X.A
 vis:∀ x,MN (T.sc.names.lookup x)=true->JR X.env.scope x
 gl:∀ x,T.sc.names.lookup x=some .globalImplicit->Gl X x
 loc:∀ x,T.sc.names.lookup x=some .local->X.env.scope.names.lookup x=some .local
 cf:∀ x,(T.sc.names.lookup x=some .cell\/T.sc.names.lookup x=some .free)->(X.env.scope.names.lookup x=some .cell\/X.env.scope.names.lookup x=some .free)
 fn:∀ x j s,(x,j,s)∈T.G->∃ ps,Def X.prog X.w X.K X.mg X.base x j ps (Bf X.K s.n s.run)
 gc:∀ x d,(x,d)∈T.gc->∃ v u,X.mg x=some u/\RelV v u/\∀ f O H,Rp X.K f O H d v
 bl:Bl X.mg
 cel:∀ x,T.sc.names.lookup x=some .cell->X.env.scope.names.lookup x=some .cell/\X.fn x=true
theorem Jt(h:LL x=true):(x == ("__debug__" : PR))=false:=by
 unfold LL at h;rw[ax] at h;exact eI _ |>.mp h.1
theorem MJ(h:LL x=true):(x == ("__classdict__" : PR))=false:=by
 unfold LL at h;rw[ax] at h;exact eI _ |>.mp h.2
variable{T:Tc}
theorem CtxOk.var(C:CtxOk T X)(h:T.slot x=some i):PE X (.Name x p) (wV i):=by
 unfold Tc.slot at h;split at h
 ·rename_i e;obtain⟨e1,e2⟩:=ax.mp e;exact Cp (by rw[C.N];exact AQ h) (C.vis x e1) (Jt e2) (MJ e2)
 ·cases h
theorem CtxOk.slot(C:CtxOk T X)(h:T.slot x=some i):X.N[i]? = some x:=by
 unfold Tc.slot at h;split at h
 ·rw[C.N];exact AQ h
 ·cases h
def E6:Option NameKind->Bool
 | some .local=>true|some .cell=>true|_=>false
theorem CtxOk.tgt(C:CtxOk T X)(hl:E6 (T.sc.names.lookup x)=true)(hs:T.slot x=some i):PG X (.Name x p) (Aa i):=by
 cases q:T.sc.names.lookup x with
 | none=>rw[q] at hl;cases hl
 | some k =>
  rw[q] at hl;cases k <;> first|(cases hl;done)|skip
  ·exact DG C.nd (C.slot hs) (.inl (C.loc x q)) (.inr (C.loc x q))
  ·exact DG C.nd (C.slot hs) (.inr (C.cel x q).1) (.inl (C.cel x q).2)
theorem CtxOk.isG(C:CtxOk T X)(h:T.isG x=true):Gl X x/\(x == ("__debug__" : PR))=false:=by
 obtain⟨e1,e2⟩:=ax.mp h;exact⟨C.gl x (Qa e1),Jt e2⟩
def uI:Expr->Bool
 | .Starred .. => false | .Slice .. => false | .Set .. => false | .SetComp .. => false | .DictComp .. => false
 | _=>true
theorem uv(h:uI e=true)(es:List Expr)(env:Env):PN (e::es) env=(false,eval e env)::PN es env:=by
 cases e <;> first|rfl|cases h
theorem DN(h:uI e=true):yq e:=by
 cases e <;> first|exact fun _ _=>rfl|cases h
theorem yi(h:uI e=true)(op:CmpOp):behindInMarks op e=false:=by
 cases e <;> first|rfl|cases h
theorem xL(h:uI e=true)(env:Env)(x:Pt):foldedSetIterable e env x=pure x:=by
 cases e <;> first|rfl|cases h
def vG:Expr->Bool
 | .ListComp .. => true | .SetComp .. => true | .DictComp .. => true
 | _=>false
theorem xK(h:vG e=false)(t:Option Expr)(l:Nat)(env:Env):swapsWith e t l env=pure false:=by
 cases e <;> first|rfl|cases h
def JQ:Expr->Bool
 | .UnaryOp .Not _ _=>false | .BoolOp .. => false | .IfExp .. => false | .Compare .. => false
 | _=>true
theorem Hk(h:JQ e=true)(env:Env)(whole:Sem Pt):isTrue e env whole=(do let v ← whole;standAt e.pos;holding [v] (truthy v)):=by
 cases e with
 | UnaryOp op a p=>cases op <;> first|rfl|cases h
 | BoolOp=>cases h
 | IfExp=>cases h
 | Compare=>cases h
 | _=>rfl
def vw(N:List Str)(scope:Scope):List Nat:=(List.range N.length).filter fun i=>E6 (scope.names.lookup (N.getD i ""))
def Fv(out scope:Scope):Bool:=decide (scope.kind = .function) && scope.names.all (fun y=>decide (scope.names.lookup y.1=some y.2)) && scope.names.all (fun y=>decide (y.2 ≠ .free) || decide (out.names.lookup y.1=some .cell) || decide (out.names.lookup y.1=some .free))
theorem CtxOk.compS(C:CtxOk T X)(h:Fv T.sc scope=true):CompS X.N X.env.scope scope (vw T.N scope):=by
 unfold Fv at h;rw[ax,ax] at h;obtain⟨⟨h1,h2⟩,h3⟩:=h;have one:∀ y∈scope.names,scope.names.lookup y.1=some y.2:=fun y hy=>of_decide_eq_true (cY.mp h2 y hy);refine⟨of_decide_eq_true h1,one,fun y hy e=>?_,fun y hy e=>e ▸ one y hy,fun i hi e=>?_⟩
 ·have:=cY.mp h3 y hy;rw[Bool.or_eq_true,Bool.or_eq_true] at this;rcases this with (w|w)|w
  ·exact absurd e (of_decide_eq_true w)
  ·exact C.cf _ (.inl (of_decide_eq_true w))
  ·exact C.cf _ (.inr (of_decide_eq_true w))
 ·rw[C.N] at hi e;exact ce.mpr ⟨dM.mpr hi,by rcases e with e|e <;> rw[e] <;> rfl⟩
theorem CtxOk.inner(C:CtxOk T X)(s2:Px)(H2:Hp)(fp:List Py)(pins:List (Py×QF))(A:Py):CtxOk { T with sc:=scope } (wj X scope s2 H2 fp pins A) where
 N:=C.N
 nd:=C.nd
 calm:=C.calm
 room:=C.room
 vis:=fun x h=>by
  have e:(wj X scope s2 H2 fp pins A).env.scope.names.lookup x=(scope.names.lookup x).map (wQ X.env x):=xq;have h:MN (scope.names.lookup x)=true:=h;unfold JR;rw[e];cases q:scope.names.lookup x with
  | none=>rw[q] at h;cases h
  | some k =>
   rw[q] at h;cases k
   ·exact .inl rfl
   ·exact .inr (.inl rfl)
   ·show some (wQ X.env x .free)=_\/some (wQ X.env x .free)=_\/some (wQ X.env x .free)=_;unfold wQ;split
    ·exact .inr (.inl rfl)
    ·exact .inr (.inr rfl)
   ·cases h
   ·cases h
 gl:=fun x h=>by
  have e:(wj X scope s2 H2 fp pins A).env.scope.names.lookup x=(scope.names.lookup x).map (wQ X.env x):=xq;have h:scope.names.lookup x=some .globalImplicit:=h;unfold Gl Env.kindOf;rw[e,h];rfl
 loc:=fun x h=>by
  have e:(wj X scope s2 H2 fp pins A).env.scope.names.lookup x=(scope.names.lookup x).map (wQ X.env x):=xq;have h:scope.names.lookup x=some .local:=h;rw[e,h];rfl
 cf:=fun x h=>by
  have e:(wj X scope s2 H2 fp pins A).env.scope.names.lookup x=(scope.names.lookup x).map (wQ X.env x):=xq;have h:scope.names.lookup x=some .cell\/scope.names.lookup x=some .free:=h;rw[e];rcases h with h|h
  ·rw[h];exact .inl rfl
  ·rw[h];show some (wQ X.env x .free)=_\/some (wQ X.env x .free)=_;unfold wQ;split
   ·exact .inl rfl
   ·exact .inr rfl
 fn:=C.fn
 gc:=C.gc
 bl:=C.bl
 cel:=fun x h=>by
  have e:(wj X scope s2 H2 fp pins A).env.scope.names.lookup x=(scope.names.lookup x).map (wQ X.env x):=xq;have h:scope.names.lookup x=some .cell:=h;refine⟨by rw[e,h];rfl,?_⟩;show (scope.names.lookup x == some .cell)=true;rw[h];rfl
def NG:Const->Option D
 | .int i=>some (.int i) | .bool b=>some (.bl b) | .str x=>some (.str x) | .none=>some .non|_=>none
def MU(T:Tc)(x:Str):Option D:=T.gc.lookup x
def Cf(T:Tc):List Expr->Option (List Nat)
 | []=>some []
 | .Name x _::r=>if E6 (T.sc.names.lookup x)=true then (T.slot x).bind fun i=>(Cf T r).map (i :: ·) else none
 | _=>none
def Nx(T:Tc):Expr->Option TGd
 | .Name x _=>if E6 (T.sc.names.lookup x)=true then (T.slot x).map gNm else none
 | .Tuple es _ _=>(Cf T es).map gTp
 | _=>none
def AO(T:Tc)(x:Str)(as:List Expr):Option Nat:=if x = "len" then (match as with
 | [.Name y _]=>(T.slot y).bind fun i=>if T.mu.contains i then some i else none
 | _=>none) else none
theorem EM(h:AO T x as=some i):x = "len" /\ ∃ y p,as=[.Name y p]/\T.slot y=some i:=by
 unfold AO at h;split at h
 ·rename_i ex;split at h
  ·rename_i y p;obtain⟨j,h1,h⟩:=af.mp h;split at h
   ·cases h;exact⟨ex,y,p,rfl,h1⟩
   ·cases h
  ·cases h
 ·cases h
abbrev FE:=Expr->Option TEd
abbrev FT:=Expr->Option TTd
abbrev FA:=List Expr->Option TAd
def two(E:FE)(a b:Expr)(k:TEd->TEd->TEd):Option TEd:=(E a).bind fun ta=>(E b).map fun tb=>k ta tb
def Nb(E:FE)(a:Expr):List CmpOp->List Expr->Option TEd
 | [op],[b]=>if uI b then two E a b (i6 op) else none
 | [op,op'],[b,c]=>if uI b && uI c then (E a).bind fun ta=>(E b).bind fun tb=>(E c).map fun tc=>jU op op' ta tb tc else none
 | _,_=>none
def Na(E:FE)(a:Expr):List CmpOp->List Expr->Option TTd
 | [op],[b]=>if uI b then (two E a b (i6 op)).map i5 else none
 | [op,op'],[b,c]=>if uI b && uI c then (E a).bind fun ta=>(E b).bind fun tb=>(E c).map fun tc=>i5 (jU op op' ta tb tc) else none
 | _,_=>none
def OH(E:FE)(a:Expr):UnaryOp->Option TEd
 | .USub=>(E a).map mw
 | .Not=>(E a).map sY
 | _=>none
def OU(E:FE)(p:Pos)(op:BoolOp):List Expr->Option TEd
 | [a]=>E a
 | a::b::r=>(E a).bind fun ta=>(E (.BoolOp op (b::r) p)).map fun tb=>match op with | .And=>sX ta tb | .Or=>dOr ta tb
 | []=>none
def OT(F:FT)(p:Pos)(op:BoolOp):List Expr->Option TTd
 | [a]=>F a
 | a::b::r=>(F a).bind fun ta=>(F (.BoolOp op (b::r) p)).map fun tb=>match op with | .And=>kG ta tb | .Or=>mB ta tb
 | []=>none
def By(E:FE):Option Expr->Option TOd
 | none=>some dNo
 | some e=>(E e).map kH
def IE:Expr->Bool
 | .UnaryOp .USub (.Constant (.int i) _ _) _=>i == 1
 | _=>false
def N9(T:Tc)(x:Str):Option TEd:=match T.slot x with
 | some i=>some (iS i)
 | none=>if T.isG x then (MU T x).map dC else none
def Gd(T:Tc):Expr->Option Nat
 | .Name x _=>(T.slot x).bind fun i=>if T.mu.contains i then some i else none
 | _=>none
def OP(E:FE)(T:Tc)(a b:Expr):Option TEd:=if uI b then (match Gd T a with
  | some i=>(E b).map (pR i)
  | none=>two E a b dIx) else none
def Md(E:FE)(T:Tc)(a:Expr):Expr->Option TEd
 | .Slice lo hi st _=>(match st with
  | none=>(E a).bind fun ta=>(By E lo).bind fun tl=>(By E hi).map fun tu=>dSl ta tl tu
  | some m=>if lo.isNone && hi.isNone && IE m then (E a).map qM else none)
 | b=>OP E T a b
def Hh(E:FE)(A:FA)(T:Tc)(x:Str)(as:List Expr):Option TEd:=match T.G.lookup x with
 | some (j,s)=>if decide (j<=T.k) && !as.isEmpty then (A as).map (iU s) else none
 | none=>(OV x).bind fun o=>match AO T x as with
   | some i=>some (mS i)
   | none=>if as.isEmpty then none else (A as).map (dB o.2.2.run o.2.2.mono)
def K4(E:FE)(T:Tc)(tg e:Expr):Option TAd:=match e with
 | .Call (.Name x _) [a] [] _=>if x = "range" then (if uI a && T.isG "range" then (E a).map mY else none)
  else if x = "enumerate" then (match tg with
   | .Tuple .. => if uI a && T.isG "enumerate" then (E a).map jv else none
   | _=>none)
  else if x = "reversed" then (if uI a && T.isG "reversed" then (E a).map kX else none)
  else (E e).map jd
 | .Call (.Name x _) [a,b] [] _=>if x = "range" then (if uI a && uI b && T.isG "range" then (E a).bind fun ta=>(E b).map (kI ta) else none)
  else (E e).map jd
 | e=>(E e).map jd
def Ei(I:Option TAd)(E:FE)(F:FT)(T:Tc)(e tg:Expr)(ifs:List Expr)(sc:Scope):Option TEd:=I.bind fun ti=>(Nx { T with sc:=sc } tg).bind fun g =>
 if g.tg.all (fun i=>(vw T.N sc).contains i) then (E e).bind fun te=>(match ifs with
  | []=>some (i7 ti (vw T.N sc) g jt te)
  | [k]=>(F k).map fun tk=>i7 ti (vw T.N sc) g tk te
  | _=>none) else none
def xT(E:FE):FA
 | []=>some iT
 | e::r=>if uI e then (E e).bind fun te=>(xT E r).map fun tr=>iR te tr else none
def K2(E:FE)(T:Tc)(x:Str)(as:List Expr)(ks:List Keyword):Option TEd:=match as,ks with
 | [a],[⟨some m,.Name y _,_⟩]=>if x = "sorted" then (if m = "key" then (if uI a && T.isG "sorted" && T.isG y then (match T.G.lookup y with
  | some (j,s)=>if decide (j+2<=T.k) then (E a).map (tf s) else none
  | none=>none) else none) else none) else none
 | _,_=>none
def A3(E:FE)(T:Tc)(cp:Pos)(as:List Expr)(ks:List Keyword):Expr->Option TEd
 | .Name x _=>if ks.isEmpty then (if T.isG x then Hh E (xT E) T x as else none) else K2 E T x as ks
 | .Attribute (.Name x p) m ap=>if m = "bit_length" then (if ks.isEmpty && as.isEmpty && (ap.endLine == cp.line) then (E (.Name x p)).map qQ else none) else none
 | _=>none
def GH:List Comprehension->Option (Expr×Expr×List Expr)
 | [⟨tg,it,ifs,0⟩]=>if uI it then some (tg,it,ifs) else none
 | _=>none
mutual
def u9:Nat->Tc->Expr->Option TEd
 | 0,_,_=>none
 | n+1,T,e=>match e with
  | .Name x _=>N9 T x
  | .Constant k _ _=>(NG k).map dC
  | .BinOp a op b _=>two (u9 n T) a b (iV op)
  | .Compare a ops bs _=>Nb (u9 n T) a ops bs
  | .UnaryOp op a _=>OH (u9 n T) a op
  | .BoolOp op vs p=>OU (u9 n T) p op vs
  | .IfExp k a b _=>(Bh n T k).bind fun tk=>two (u9 n T) a b (qL tk)
  | .Tuple es _ _=>(xT (u9 n T) es).map jg
  | .List es _=>(xT (u9 n T) es).map je
  | .Subscript a b _=>Md (u9 n T) T a b
  | .Call g as ks p=>A3 (u9 n T) T p as ks g
  | .ListComp e gs sc _=>if Fv T.sc sc then (GH gs).bind fun (tg,it,ifs)=>Ei (K4 (u9 n T) T tg it) (u9 n { T with sc:=sc }) (Bh n { T with sc:=sc }) T e tg ifs sc else none
  | _=>none
def Bh:Nat->Tc->Expr->Option TTd
 | 0,_,_=>none
 | n+1,T,e=>match e with
  | .Compare a ops bs _=>Na (u9 n T) a ops bs
  | .UnaryOp op a p=>if op = .Not then (Bh n T a).map j5 else (u9 n T (.UnaryOp op a p)).map kA
  | .BoolOp op vs p=>OT (Bh n T) p op vs
  | .IfExp .. => none
  | e=>(u9 n T e).map kA
end
end
section
open PySem L2 Dp
variable{K:Frag}{X:Cx}{T:Tc}{pos p p2:Pos}{a b e:Expr}{E:FE}{F:FT}
def Am(X:Cx)(E:FE):Prop:=∀{e:Expr} {t:TEd},E e=some t->PE X e (LE X.K t)
def NE(X:Cx)(F:FT):Prop:=∀{e:Expr} {t:TTd},F e=some t->PT X e (LT X.K t)
theorem MT(C:CtxOk T X)(hg:T.isG x=true)(h:MU T x=some d):PE X (.Name x p) (LE X.K (dC d)):=by
 obtain⟨g1,g2⟩:=C.isG hg;obtain⟨v,u,h1,h2,h3⟩:=C.gc x d (uT h);exact dC.ok (DH g1 h1 h2 g2) h3
theorem JY(h:NG k=some d):PE X (.Constant k j pos) (LE X.K (dC d)):=by
 cases k <;> first|(cases h;done)|skip
 all_goals (cases h)
 all_goals first|exact dC.ok um fun _ _ _=>rfl|exact dC.ok ME fun _ _ _=>rfl|exact dC.ok KC fun _ _ _=>rfl|exact dC.ok KF fun _ _ _=>rfl
theorem yf(C:CtxOk T X):∀{es:List Expr} {is:List Nat},Cf T es=some is->No X es (gsAll is)/\(assignEach es X.env).length=is.length/\(assignEach es X.env).findIdx? (·.1)=none
 | [],is,h=>by
  cases h;exact⟨HU,rfl,rfl⟩
 | a::r,is,h=>by
  cases a <;> first|(cases h;done)|skip
  rename_i x p;obtain⟨hl,h⟩:=ac.mp (show (if E6 (T.sc.names.lookup x)=true then (T.slot x).bind fun i=>(Cf T r).map (i :: ·) else none)=some is from h);obtain⟨i,h1,h⟩:=af.mp h;obtain⟨is',h2,rfl⟩:=ab.mp h;obtain⟨q1,q2,q3⟩:=yf C h2;refine⟨F1 (C.tgt hl h1) q1 rfl,?_,?_⟩
  ·show ((false,assign (.Name x p) X.env)::assignEach r X.env).length=_;rw[bo,q2];rfl
  ·show ((false,assign (.Name x p) X.env)::assignEach r X.env).findIdx? (·.1)=none;rw[List.findIdx?_cons,q3];rfl
theorem Cg(C:CtxOk T X)(h:Nx T e=some g):PG X e (LG X.K g):=by
 cases e <;> first|(cases h;done)|skip
 ·rename_i x p;obtain⟨hl,h⟩:=ac.mp (show (if E6 (T.sc.names.lookup x)=true then (T.slot x).map gNm else none)=some g from h);obtain⟨i,h1,rfl⟩:=ab.mp h;exact gNm.ok (C.tgt hl h1)
 ·rename_i es k p;obtain⟨is,h1,rfl⟩:=ab.mp (show (Cf T es).map gTp=some g from h);obtain⟨q1,q2,q3⟩:=yf C h1;exact gTp.ok (Co C.calm q1 q2 q3)
theorem xD(h:two E a b k=some t):∃ ta tb,E a=some ta/\E b=some tb/\t=k ta tb:=by
 obtain⟨ta,h1,h⟩:=af.mp h;obtain⟨tb,h2,rfl⟩:=ab.mp h;exact⟨ta,tb,h1,h2,rfl⟩
theorem IQ(C:CtxOk T X)(ih:Am X E):∀{ops:List CmpOp} {bs:List Expr} {t:TEd},Nb E a ops bs=some t->PE X (.Compare a ops bs pos) (LE X.K t)
 | [op],[b],t,h=>by
  obtain⟨hn,h⟩:=ac.mp h;obtain⟨ta,tb,h1,h2,rfl⟩:=xD h;exact i6.ok C.room (ih h1) (ih h2) (yi hn _)
 | [op,op'],[b,c],t,h=>by
  obtain⟨hn,h⟩:=ac.mp h;obtain⟨n1,n2⟩:=ax.mp hn;obtain⟨ta,h1,h⟩:=af.mp h;obtain⟨tb,h2,h⟩:=af.mp h;obtain⟨tc,h3,rfl⟩:=ab.mp h;exact jU.ok C.room (ih h1) (ih h2) (ih h3) (yi n2 _)
 | [],_,_,h=>by cases h
 | [_],[],_,h=>by cases h
 | [_],_::_::_,_,h=>by cases h
 | [_,_],[],_,h=>by cases h
 | [_,_],[_],_,h=>by cases h
 | [_,_],_::_::_::_,_,h=>by cases h
 | _::_::_::_,_,_,h=>by cases h
theorem IP(C:CtxOk T X)(ih:Am X E):∀{ops:List CmpOp} {bs:List Expr} {t:TTd},Na E a ops bs=some t->PT X (.Compare a ops bs pos) (LT X.K t)
 | [op],[b],t,h=>by
  obtain⟨hn,h⟩:=ac.mp h;obtain⟨t0,h0,rfl⟩:=ab.mp h;obtain⟨ta,tb,h1,h2,rfl⟩:=xD h0;exact i6.test C.room (ih h1) (ih h2) (yi hn _)
 | [op,op'],[b,c],t,h=>by
  obtain⟨hn,h⟩:=ac.mp h;obtain⟨n1,n2⟩:=ax.mp hn;obtain⟨ta,h1,h⟩:=af.mp h;obtain⟨tb,h2,h⟩:=af.mp h;obtain⟨tc,h3,rfl⟩:=ab.mp h;exact jU.test C.room (ih h1) (ih h2) (ih h3) (yi n2 _)
 | [],_,_,h=>by cases h
 | [_],[],_,h=>by cases h
 | [_],_::_::_,_,h=>by cases h
 | [_,_],[],_,h=>by cases h
 | [_,_],[_],_,h=>by cases h
 | [_,_],_::_::_::_,_,h=>by cases h
 | _::_::_::_,_,_,h=>by cases h
theorem JV(ih:Am X E)(h:OH E a op=some t):PE X (.UnaryOp op a pos) (LE X.K t):=by
 cases op <;> first|(cases h;done)|skip
 ·obtain⟨ta,h1,rfl⟩:=ab.mp (show (E a).map sY=some t from h);exact sY.ok (ih h1)
 ·obtain⟨ta,h1,rfl⟩:=ab.mp (show (E a).map mw=some t from h);exact mw.ok (ih h1)
theorem Lu(ih:Am X E):∀{op:BoolOp} {vs:List Expr} {t:TEd},OU E p op vs=some t->PE X (.BoolOp op vs p) (LE X.K t)
 | _,[a],_,h=>KD (ih h)
 | .And,a::b::r,t,h=>by
  obtain⟨ta,h1,h⟩:=af.mp h;obtain⟨tb,h2,rfl⟩:=ab.mp h;exact sX.ok (ih h1) (ih h2)
 | .Or,a::b::r,t,h=>by
  obtain⟨ta,h1,h⟩:=af.mp h;obtain⟨tb,h2,rfl⟩:=ab.mp h;exact dOr.ok (ih h1) (ih h2)
 | _,[],_,h=>by cases h
theorem Ls(ih:NE X F)(iw:∀{op:BoolOp} {vs:List Expr} {p:Pos} {t:TTd},F (.BoolOp op vs p)=some t->PW X (.BoolOp op vs p) (LT X.K t)):∀{op:BoolOp} {vs:List Expr} {t:TTd},OT F p op vs=some t->PW X (.BoolOp op vs p) (LT X.K t)
 | .And,[a],_,h=>Dz (ih h)
 | .Or,[a],_,h=>Kt (ih h)
 | .And,a::b::r,t,h=>by
  obtain⟨ta,h1,h⟩:=af.mp h;obtain⟨tb,h2,rfl⟩:=ab.mp h;exact kG.ok (ih h1) (iw h2)
 | .Or,a::b::r,t,h=>by
  obtain⟨ta,h1,h⟩:=af.mp h;obtain⟨tb,h2,rfl⟩:=ab.mp h;exact mB.ok (ih h1) (iw h2)
 | _,[],_,h=>by cases h
theorem Bx(ih:Am X E):∀{o:Option Expr} {t:TOd},By E o=some t->PO X o (LO X.K t)
 | none,_,h=>by
  cases h;exact dNo.ok
 | some e,t,h=>by
  obtain⟨ta,h1,rfl⟩:=ab.mp h;exact kH.ok (ih h1)
theorem ID(h:IE m=true):∃ j p1 p3,m = .UnaryOp .USub (.Constant (.int 1) j p1) p3:=by
 unfold IE at h;split at h
 ·rename_i i j p1 p3;have e:i=1:=Qa h;exact⟨j,p1,p3,by rw[e]⟩
 ·cases h
theorem Gc(C:CtxOk T X)(h:Gd T a=some i):PE X a (wV i):=by
 cases a <;> first|(cases h;done)|skip
 obtain⟨j,h1,h⟩:=af.mp h;obtain⟨_,h⟩:=ac.mp h;cases h;exact C.var h1
theorem HE(C:CtxOk T X)(ih:Am X E)(h:Md E T a b=some t):PE X (.Subscript a b pos) (LE X.K t):=by
 have key:∀{b:Expr},OP E T a b=some t->PE X (.Subscript a b pos) (LE X.K t):=fun {b} h=>by
  obtain⟨hn,h⟩:=ac.mp h;cases ho:Gd T a with
  | some i =>
   rw[ho] at h;obtain⟨tb,h2,rfl⟩:=ab.mp h;exact pR.ok (Gc C ho) (ih h2) (DN hn)
  | none =>
   rw[ho] at h;obtain⟨ta,tb,h1,h2,rfl⟩:=xD h;exact dIx.ok (ih h1) (ih h2) (DN hn)
 cases b;case Slice lo hi st p2 =>
  cases st with
  | none =>
   obtain⟨tk,h0,h⟩:=af.mp (show (E a).bind (fun ta=>(By E lo).bind fun tl=>(By E hi).map fun tu=>dSl ta tl tu)=some t from h);obtain⟨ta,h1,h⟩:=af.mp h;obtain⟨tb,h2,rfl⟩:=ab.mp h;exact dSl.ok (ih h0) (Bx ih h1) (Bx ih h2)
  | some m =>
   have h:(if lo.isNone && hi.isNone && IE m then (E a).map qM else none)=some t:=h;split at h
   rotate_left
   ·cases h
   rename_i hm;obtain⟨hm,m1⟩:=ax.mp hm;obtain⟨l1,l2⟩:=ax.mp hm;cases lo <;> cases hi <;> first|(cases l1;done)|(cases l2;done)|skip
   obtain⟨j,p1,p3,rfl⟩:=ID m1;obtain⟨ta,h1,rfl⟩:=ab.mp h;exact qM.ok (k:=0) (ih h1)
 all_goals exact key h
theorem vI(ih:Am X E):∀{es:List Expr} {t:TAd},xT E es=some t->PA X es (LA X.K t)
 | [],t,h=>by
  cases h;exact iT.ok
 | e::r,t,h=>by
  obtain⟨hn,h⟩:=ac.mp h;obtain⟨ta,h1,h⟩:=af.mp h;obtain⟨tb,h2,rfl⟩:=ab.mp h;exact iR.ok (ih h1) (vI ih h2) (uv hn _ _)
theorem wf(h:xT E (a::r)=some t):PN (a::r) X.env=(false,eval a X.env)::PN r X.env:=uv (ac.mp h).1 _ _
theorem zh:∀{r:List Expr} {t:TAd},xT E r=some t->(backTo pos (PN r X.env)).any (·.1)=false
 | [],_,_=>rfl
 | a::r,t,h=>by
  rw[wf h];obtain⟨hn,h⟩:=ac.mp h;obtain⟨ta,h1,h⟩:=af.mp h;obtain⟨tb,h2,rfl⟩:=ab.mp h;have:=zh h2;unfold backTo at this ⊢;rw[dQ,gU,this];rfl
theorem xS(h:xT E (a::r)=some t):(backTo pos (PN r X.env)).any (·.1)=false:=by
 obtain⟨hn,h⟩:=ac.mp h;obtain⟨ta,h1,h⟩:=af.mp h;obtain⟨tb,h2,rfl⟩:=ab.mp h;exact zh h2
theorem Hg(C:CtxOk T X)(ih:Am X E){x:PR}{as:List Expr}{t:TEd}(hg:T.isG x=true)(h:Hh E (xT E) T x as=some t):PE X (.Call (.Name x p) as [] pos) (LE X.K t):=by
 obtain⟨g1,g2⟩:=C.isG hg;unfold Hh at h;cases e1:T.G.lookup x with
 | some js =>
  obtain⟨j,s⟩:=js;rw[e1] at h;obtain⟨hk,h⟩:=ac.mp h;obtain⟨k1,k2⟩:=ax.mp hk;obtain⟨tb,h2,rfl⟩:=ab.mp h;cases as with
  | nil=>cases k2
  | cons a r =>
   obtain⟨ps,d⟩:=C.fn x j s (uT e1);exact iU.ok (F4 d C.room (vI ih h2) (of_decide_eq_true k1) g1 g2 (wf h2) (xS h2))
 | none =>
  rw[e1] at h;dsimp only at h;obtain⟨⟨k,id,o⟩,e0,h3⟩:=af.mp h;obtain⟨b1,b2,b3,b4⟩:=Lw C.room C.calm C.bl e0;cases e2:AO T x as with
  | some i =>
   rw[e2] at h3;have h4:some (mS i)=some t:=h3;obtain⟨rfl,y,p2,rfl,e3⟩:=EM e2;cases h4;exact mS.ok g1 C.bl.len (C.var e3) rfl
  | none =>
   rw[e2] at h3;obtain⟨hne,h5⟩:=gx.mp (show (if as.isEmpty=true then none else (xT E as).map (dB o.run o.mono))=some t from h3);obtain⟨tb,h2,rfl⟩:=ab.mp h5;cases as with
   | nil=>exact absurd rfl hne
   | cons a r =>
    cases k with
    | true =>
     obtain⟨b5,rr,b6,b7⟩:=b4;exact dB.ok b7 (yO b6 g1 b1 b5 (vI ih h2) b2 b3 (wf h2) (xS h2))
    | false =>
     obtain⟨b5,rr,b6,b7⟩:=b4;exact dB.ok b7 (xJ b6 g1 b1 b5 (vI ih h2) b2 b3 (wf h2) (xS h2))
theorem Iz(C:CtxOk T X)(ih:Am X E)(h:K2 E T x as ks=some t):PE X (.Call (.Name x p) as ks pos) (LE X.K t):=by
 unfold K2 at h;split at h
 ·rename_i a m y py kp;obtain⟨q1,h1⟩:=ac.mp h;obtain⟨q2,h2⟩:=ac.mp h1;obtain⟨hk,h3⟩:=ac.mp h2;clear h h1 h2;subst q1 q2;revert h3;intro h;obtain⟨k1,k3⟩:=ax.mp hk;obtain⟨k1,k2⟩:=ax.mp k1;cases e1:T.G.lookup y with
  | none=>rw[e1] at h;cases h
  | some js =>
   obtain⟨j,s⟩:=js;rw[e1] at h;obtain⟨hj,h⟩:=ac.mp h;obtain⟨ta,h2,rfl⟩:=ab.mp h;obtain⟨ps,d⟩:=C.fn y j s (uT e1);obtain⟨g1,g2⟩:=C.isG k3;exact tf.ok (KG d C.room (of_decide_eq_true hj) (C.isG k2).1 C.bl.sorted g1 g2 (ih h2) (uv k1 _ _))
 ·cases h
theorem C8(C:CtxOk T X)(ih:Am X E)(h:A3 E T pos as ks g=some t):PE X (.Call g as ks pos) (LE X.K t):=by
 unfold A3 at h;split at h
 ·split at h
  ·rename_i k0;obtain⟨hg,h1⟩:=ac.mp h;cases gz.mp k0;exact Hg C ih hg h1
  ·exact Iz C ih h
 ·obtain⟨k3,h1⟩:=ac.mp h;clear h;cases k3;obtain⟨hk,h2⟩:=ac.mp h1;obtain⟨k1,k2⟩:=ax.mp hk;obtain⟨k4,k5⟩:=ax.mp k1;cases gz.mp k4;cases gz.mp k5;obtain⟨ta,h4,rfl⟩:=ab.mp h2;exact qQ.ok (ih h4) rfl k2
 ·cases h
theorem CH(C:CtxOk T X)(ih:Am X E)(h:K4 E T tg e=some t):PI X tg e (LI X.K t):=by
 have wk:(E e).map jd=some t->PI X tg e (LI X.K t):=fun h=>by
  obtain⟨ta,h1,rfl⟩:=ab.mp h;exact jd.ok (ih h1)
 unfold K4 at h;split at h
 ·rename_i x p1 a p2;by_cases ex:x = "range"
  ·subst ex;obtain⟨hn,h⟩:=ac.mp (show (if uI a && T.isG "range" then (E a).map mY else none)=some t from h);obtain⟨n1,n2⟩:=ax.mp hn;obtain⟨ta,h1,rfl⟩:=ab.mp h;exact mY.ok (C.isG n2).1 C.bl.range (ih h1) (uv n1 _ _)
  ·rw[QJ ex] at h;by_cases ex:x = "enumerate"
   ·subst ex;cases tg <;> first|(cases h;done)|skip
    obtain⟨hn,h⟩:=ac.mp (show (if uI a && T.isG "enumerate" then (E a).map jv else none)=some t from h);obtain⟨n1,n2⟩:=ax.mp hn;obtain⟨ta,h1,rfl⟩:=ab.mp h;exact jv.ok (C.isG n2).1 C.bl.enumerate (ih h1) (uv n1 _ _)
   ·rw[QJ ex] at h;by_cases ex:x = "reversed"
    ·subst ex;obtain⟨hn,h⟩:=ac.mp (show (if uI a && T.isG "reversed" then (E a).map kX else none)=some t from h);obtain⟨n1,n2⟩:=ax.mp hn;obtain⟨ta,h1,rfl⟩:=ab.mp h;exact kX.ok (C.isG n2).1 C.bl.reversed (ih h1) (uv n1 _ _)
    ·rw[QJ ex] at h;exact wk h
 ·rename_i x p1 a b p2;by_cases ex:x = "range"
  ·subst ex;obtain⟨hn,h⟩:=ac.mp (show (if uI a && uI b && T.isG "range" then (E a).bind fun ta=>(E b).map (kI ta) else none)=some t from h);obtain⟨n1,n2⟩:=ax.mp hn;obtain⟨n0,n1⟩:=ax.mp n1;obtain⟨ta,h1,h⟩:=af.mp h;obtain⟨tb,h2,rfl⟩:=ab.mp h;exact kI.ok (C.isG n2).1 C.bl.range (ih h1) (ih h2) (by rw[uv n0,uv n1];rfl) (uv n1 _ _)
  ·rw[QJ ex] at h;exact wk h
 ·exact wk h
theorem BW(C:CtxOk T X)(h:Ei I E F T e tg ifs sc=some t)(ih:∀ s2 H2 fp pins A,Am (wj X sc s2 H2 fp pins A) E)(ihF:∀ s2 H2 fp pins A,NE (wj X sc s2 H2 fp pins A) F) :
  ∃ ti g te tk,I=some ti/\t=i7 ti (vw T.N sc) g tk te/\(∀ i∈g.tg,i∈vw T.N sc)/\(∀ s2 H2 fp pins A,PG (wj X sc s2 H2 fp pins A) tg (LG X.K g))/\(∀ s2 H2 fp pins A,PTs (wj X sc s2 H2 fp pins A) ifs (LT X.K tk))/\∀ s2 H2 fp pins A,PE (wj X sc s2 H2 fp pins A) e (LE X.K te):=by
 obtain⟨ti,h1,h⟩:=af.mp h;obtain⟨g,h2,h⟩:=af.mp h;obtain⟨hg,h⟩:=ac.mp h;obtain⟨te,h3,h⟩:=af.mp h;have hh:∀ i∈g.tg,i∈vw T.N sc:=fun i hi=>by simpa using cY.mp hg i hi
 match ifs,h with
 | [],h =>
  cases h;exact⟨ti,g,te,jt,h1,rfl,hh,fun _ _ _ _ _=>Cg (C.inner ..) h2,fun _ _ _ _ _=>pts_nil.weak fun σ H Q ⟨f,O,ss,S,q⟩=>q H (Ex.refl S.fl),fun _ _ _ _ _=>ih _ _ _ _ _ h3⟩
 | [k],h =>
  obtain⟨tk,h4,rfl⟩:=ab.mp h;exact⟨ti,g,te,tk,h1,rfl,hh,fun _ _ _ _ _=>Cg (C.inner ..) h2,fun _ _ _ _ _=>HM (ihF _ _ _ _ _ h4),fun _ _ _ _ _=>ih _ _ _ _ _ h3⟩
 | _::_::_,h=>cases h
theorem D7(h:GH gs=some (tg,it,ifs)):gs=[⟨tg,it,ifs,0⟩]/\uI it=true:=by
 unfold GH at h;split at h
 ·obtain⟨hn,h⟩:=ac.mp h;cases h;exact⟨rfl,hn⟩
 ·cases h
structure TrOk (n:Nat):Prop where
 e:∀{T:Tc} {X:Cx},CtxOk T X->Am X (u9 n T)
 t:∀{T:Tc} {X:Cx},CtxOk T X->NE X (Bh n T)
 w:∀{T:Tc} {X:Cx} {op:BoolOp} {vs:List Expr} {p:Pos} {t:TTd},CtxOk T X->Bh n T (.BoolOp op vs p)=some t->PW X (.BoolOp op vs p) (LT X.K t)
theorem Dj(ih:Am X E)(hb:JQ e=true)(h:(E e).map kA=some t):PT X e (LT X.K t):=by
 obtain⟨ta,h1,rfl⟩:=ab.mp h;exact kA.ok (ih h1) fun w=>Hk hb _ w
theorem xV:∀ n,TrOk n
 | 0=>⟨fun _ _ _ h=>(by cases h),fun _ _ _ h=>(by cases h),fun _ h=>(by cases h)⟩
 | n+1=>by
  have ih:=xV n;have hw:∀{T:Tc} {X:Cx} {op:BoolOp} {vs:List Expr} {p:Pos} {t:TTd},CtxOk T X->Bh (n+1) T (.BoolOp op vs p)=some t->PW X (.BoolOp op vs p) (LT X.K t):=fun C h=>Ls (ih.t C) (ih.w C) h;refine⟨fun {T X} C {e t} h=>?_,fun {T X} C {e t} h=>?_,hw⟩
  ·cases e <;> first|(cases h;done)|skip
   case Name x p =>
    have h:N9 T x=some t:=h;unfold N9 at h;cases hs:T.slot x with
    | some i =>
     rw[hs] at h;cases h;exact iS.ok (C.var hs)
    | none =>
     rw[hs] at h;obtain⟨hg,h⟩:=ac.mp h;obtain⟨d,h1,rfl⟩:=ab.mp h;exact MT C hg h1
   case Constant k j p =>
    obtain⟨d,h1,rfl⟩:=ab.mp (show (NG k).map dC=some t from h);exact JY h1
   case BinOp a op b p =>
    obtain⟨ta,tb,h1,h2,rfl⟩:=xD (show two (u9 n T) a b (iV op)=some t from h);exact iV.ok C.room (ih.e C h1) (ih.e C h2)
   case Compare=>exact IQ C (ih.e C) h
   case UnaryOp=>exact JV (ih.e C) h
   case BoolOp=>exact Lu (ih.e C) h
   case IfExp k a b p =>
    obtain⟨tk,h0,h⟩:=af.mp (show (Bh n T k).bind (fun tk=>two (u9 n T) a b (qL tk))=some t from h);obtain⟨ta,tb,h1,h2,rfl⟩:=xD h;exact qL.ok (ih.t C h0) (ih.e C h1) (ih.e C h2)
   case Tuple es k p =>
    obtain⟨ta,h1,rfl⟩:=ab.mp (show (xT (u9 n T) es).map jg=some t from h);exact jg.ok (vI (ih.e C) h1)
   case List es p =>
    obtain⟨ta,h1,rfl⟩:=ab.mp (show (xT (u9 n T) es).map je=some t from h);exact je.ok (vI (ih.e C) h1)
   case Subscript=>exact HE C (ih.e C) h
   case Call g as ks p =>
    exact C8 C (ih.e C) h
   case ListComp e gs sc p =>
    obtain⟨hs,h⟩:=ac.mp (show (if Fv T.sc sc then (GH gs).bind fun (tg,it,ifs)=>Ei (K4 (u9 n T) T tg it) (u9 n { T with sc:=sc }) (Bh n { T with sc:=sc }) T e tg ifs sc else none)=some t from h);obtain⟨⟨tg,it,ifs⟩,h1,h2⟩:=af.mp h;obtain⟨rfl,hn⟩:=D7 h1;obtain⟨ti,g,te,tk,q1,rfl,q2,q3,q4,q5⟩:=BW C h2 (fun _ _ _ _ _=>ih.e (C.inner ..)) (fun _ _ _ _ _=>ih.t (C.inner ..));exact i7.ok C.calm (C.compS hs) (CH C (ih.e C) q1) q3 q4 q5 (fun x=>xL hn _ x) q2
  ·cases e;case Compare=>exact IP C (ih.e C) h
   case UnaryOp op a p =>
    have h:(if op = .Not then (Bh n T a).map j5 else (u9 n T (.UnaryOp op a p)).map kA)=some t:=h;by_cases eo:op = .Not
    ·subst eo;obtain⟨ta,h1,rfl⟩:=ab.mp (show (Bh n T a).map j5=some t from h);exact j5.ok (ih.t C h1)
    ·rw[QJ eo] at h;refine Dj (ih.e C) ?_ h;cases op <;> first|rfl|exact absurd rfl eo
   case BoolOp=>exact (hw C h).pt
   case IfExp=>cases h
   all_goals exact Dj (ih.e C) rfl h
end
section
open PySem L2 Dp
variable{K:Frag}{X:Cx}{T:Tc}{pos:Pos}
structure CtxS (T:Tc)(X:Cx):Prop extends CtxOk T X where
 scope:X.env.scope=T.sc
 bk:X.env.blockKind = .function
 xe:X.xe=fun _ _=>False
 fnT:∀ x,X.fn x=true
theorem CtxS.L(C:CtxS T X)(h:E6 (T.sc.names.lookup x)=true):En X.env.scope x:=by
 unfold L2.En;rw[C.scope];cases q:T.sc.names.lookup x with
 | none=>rw[q] at h;cases h
 | some k=>rw[q] at h;cases k <;> first|exact .inl rfl|exact .inr rfl|cases h
theorem uc.ok(hc:X.calm=true)(hN:X.N.Nodup)(hy:X.N[i]? = some y)(hl:En X.env.scope y)(Sc:CompS X.N X.env.scope scope hide)(hi:PI X tg iter (LI X.K it))
  (hg:∀ s2 H2 fp pins C,PG (wj X scope s2 H2 fp pins C) tg (LG X.K g)) (ht:∀ s2 H2 fp pins C,PTs (wj X scope s2 H2 fp pins C) ifs (LT X.K c)) (he:∀ s2 H2 fp pins C,PE (wj X scope s2 H2 fp pins C) elt (LE X.K e))
  (hs:∀ x,foldedSetIterable iter X.env x=pure x) (hh:∀ i∈g.tg,i∈hide) (hsw:swapsWith (.ListComp elt [⟨tg,iter,ifs,0⟩] scope ep) (some (.Name y py)) pos.line X.env=pure true) (hf:X.fn y=true\/X.env.scope.names.lookup y=some .local) :
  PS X (.Assign [.Name y py] (.ListComp elt [⟨tg,iter,ifs,0⟩] scope ep) pos) (LS X.K (iY fz (gNm i) (i7 it hide g c e))) :=
 (HN (spos:=pos) hc hN hy hl Sc hi hg ht he hs hsw hf).weak fun D σ H ⟨c0,O,ss,R,q⟩=>by
  obtain⟨O',R⟩:=R.frz (fz:=fz);refine⟨c0.f,O',_,R.sl,it.mono (fun ds q J H1 e1 D0=>?_) q⟩;refine compD.ok (R.sl.ex e1) hh D0 (compD.mono (fun d q v H' e r=>?_) q);have R2:=R.ex (e1.trans e);exact q O' _ H' (R2.to (R2.sl.set r) Sub.set)
def NW(T:Tc)(x:Str)(px ep:Pos)(sc:Scope):Bool:=(T.sc.names.lookup x == some .local) && (px.line == ep.line) && !(sc.names.any fun (n,k)=>n == x && (k == .local || k == .cell))
theorem Fk(C:CtxS T X):swapsWith (.ListComp e gs sc ep) (some (.Name x px)) l X.env=pure (NW T x px ep sc):=by
 unfold swapsWith NW;show (pure (X.env.blockKind == .function && X.env.kindOf x == some .local && px.line == ep.line && !(sc.names.any fun (n,k)=>n == x && (k == .local || k == .cell))):Sem Bool)=_;rw[C.bk];unfold Env.kindOf;rw[C.scope];rfl
def Ga(T:Tc)(x y:Str)(px py:Pos)(a b:Expr):Bool:=uI a && uI b && (T.sc.names.lookup x == some .local) && (T.sc.names.lookup y == some .local) && (py.line == px.line) && !(x == y) && !(foldedForSure 8 a && foldedForSure 8 b) && !(constantsAlone 8 a && constantsAlone 8 b)
theorem F7(C:CtxS T X)(h:Ga T x y px py a b=true):swappedStores [.Tuple [.Name x px,.Name y py] kt pt] (.Tuple [a,b] k2 pt2) X.env=pure (some [x,y]):=by
 unfold Ga at h;simp only[bT,eI] at h;obtain⟨⟨⟨⟨⟨⟨⟨h1,h2⟩,h3⟩,h4⟩,h5⟩,h6⟩,h7⟩,h8⟩:=h;have s1:∀{e:Expr},uI e=true->(match e with | .Starred .. => true|_=>false)=false:=fun {e} h=>by cases e <;> first|rfl|cases h
 have k1:X.env.kindOf x == some .local:=by unfold Env.kindOf;rw[C.scope];exact h3
 have k2:X.env.kindOf y == some .local:=by unfold Env.kindOf;rw[C.scope];exact h4
 have n1:(y == x)=false:=by
  cases q:y == x with
  | false=>rfl
  | true =>
   have:=Qa q;subst this;rw[beq_self_eq_true] at h6;cases h6
 have k1':=Qa k1;have k2':=Qa k2;have h5':py.line=px.line:=Qa h5;have ed:([x,y]:List PR).eraseDups=[x,y]:=by
  rw[List.eraseDups_cons];simp[n1];rfl
 unfold swappedStores;have ep:∀(x:PR) (p:Pos),(Expr.Name x p).pos=p:=fun _ _=>rfl;simp[C.bk,dw,iH,k1',k2',ep,h5',ed];rw[QJ,QJ,QJ]
 ·rintro⟨q1,q2⟩;rw[q1,q2] at h8;cases h8
 ·rintro⟨q1,q2⟩;rw[q1,q2] at h7;cases h7
 ·rintro (q|q)
  ·cases a <;> first|(cases h1;done)|cases q
  ·cases b <;> first|(cases h2;done)|cases q
def C6(T:Tc)(x y:Str)(a b:Expr):Bool:=!((T.sc.names.lookup x == some .local) && (T.sc.names.lookup y == some .local)) || (foldedForSure 8 a && foldedForSure 8 b)
theorem EY(C:CtxS T X)(h:C6 T x y a b=true):swappedStores [.Tuple [.Name x px,.Name y py] kt pt] (.Tuple [a,b] k2 pt2) X.env=pure none:=by
 unfold C6 at h;rcases iB.mp h with h|h
 ·have h:(X.env.kindOf x == some .local)=false\/(X.env.kindOf y == some .local)=false:=by
   unfold Env.kindOf;rw[C.scope];revert h;cases T.sc.names.lookup x == some .local <;> cases T.sc.names.lookup y == some .local <;> simp
  unfold swappedStores;simp only[dw,iH];rcases h with h|h <;> simp only[h,gN,cu,if_false];all_goals (split <;> first|rfl|skip)
  all_goals (split <;> first|rfl|skip)
  all_goals (repeat' split) <;> first|rfl|simp_all
 ·have e:[a,b].all (foldedForSure 8)=true:=by
   show (foldedForSure 8 a && (foldedForSure 8 b && true))=true;rw[Bool.and_true];exact h
  unfold swappedStores;dsimp only;rw[QI e];repeat' split
  all_goals rfl
def AI:Expr->Option (Str×Str×Pos×List Expr×Pos)
 | .Call (.Attribute (.Name x _) m ap) as [] cp=>if ap.endLine == cp.line then some (x,m,ap,as,cp) else none
 | _=>none
theorem zV(h:AI e=some (x,m,ap,as,cp)):(∃ p,e = .Call (.Attribute (.Name x p) m ap) as [] cp)/\(ap.endLine == cp.line)=true:=by
 unfold AI at h;split at h
 ·obtain⟨hl,h⟩:=ac.mp h;cases h;exact⟨⟨_,rfl⟩,hl⟩
 ·cases h
def Ik(E:FE)(T:Tc):Expr->Option TEd
 | .List es _=>(xT E es).map je
 | .BinOp a .Mult b _=>two E a b (iV .Mult)
 | .Call (.Name x _) [a] [] _=>if x = "list" then (if uI a && T.isG "list" then (E a).map jV else none) else none
 | _=>none
def Jv:Expr->Bool
 | .Tuple .. => true|_=>false
def Ny(n:Nat)(T:Tc)(p:Pos)(i:Nat)(e:Expr):Option TSd:=match AI e with
 | some (y,m,_,as,_)=>if m = "pop" then (match as with
  | []=>(T.slot y).map (qO i)
  | _=>none) else none
 | none=>if T.own.contains p.line then ((Ik (u9 n T) T e).map (kY (T.frz p) i)) else (u9 n T e).map (iY (T.frz p) (gNm i))
def F9:List Expr->Expr->Option (Str×Pos×Str×Pos×Expr×Expr)
 | [.Name x px,.Name y py],.Tuple [a,b] _ _=>some (x,px,y,py,a,b)
 | _,_=>none
theorem F8(h:F9 es e=some (x,px,y,py,a,b)):es=[.Name x px,.Name y py]/\∃ k p,e = .Tuple [a,b] k p:=by
 unfold F9 at h;split at h
 ·cases h;exact⟨rfl,_,_,rfl⟩
 ·cases h
def JW(n:Nat)(T:Tc)(p:Pos)(es:List Expr)(e:Expr):Option TSd:=match F9 es e with
 | some (x,px,y,py,a,b)=>if Ga T x y px py a b then (T.slot x).bind fun i=>(T.slot y).bind fun j=>(if T.own.contains p.line then (Ik (u9 n T) T a).bind fun ta=>(u9 n T b).map (qP (T.frz p) i j ta) else (u9 n T a).bind fun ta=>(u9 n T b).map (mZ (T.frz p) i j ta)) else if C6 T x y a b then (Cf T es).bind fun is=>(u9 n T e).map (iY (T.frz p) (gTp is)) else none
 | none=>if Jv e || vG e then none else (Cf T es).bind fun is=>(u9 n T e).map (iY (T.frz p) (gTp is))
def Nh(n:Nat)(T:Tc)(p:Pos)(e:Expr):Expr->Option TSd
 | .Name x _=>if E6 (T.sc.names.lookup x)=true then (T.slot x).bind fun i=>Ny n T p i e else none
 | .Subscript a k _=>(match a with
  | .Name x _=>if uI k && !vG e then (T.slot x).bind fun i=>(u9 n T k).bind fun tk=>(u9 n T e).map (mT (T.frz p) i tk) else none
  | _=>none)
 | .Tuple es _ _=>JW n T p es e
 | _=>none
def Ol(n:Nat)(T:Tc)(p:Pos)(e:Expr):Option TSd:=match AI e with
 | some (x,m,_,as,_)=>if m = "append" then (match as with
   | [e]=>(if uI e then (T.slot x).bind fun i=>(u9 n T e).map (oz (T.frz p) i) else none)
   | _=>none)
  else if m = "pop" then (if as.isEmpty then (T.slot x).map s9 else none)
  else none
 | none=>none
def Jw:Operator->Bool
 | .Add=>true
 | _=>false
theorem GC:∀{op:QC},Jw op=true->op = .Add
 | .Add,_=>rfl
def Lx(T:Tc)(p:Pos)(i:Nat)(op:Operator)(t:TEd):TSd:=if T.mu.contains i && Jw op then td (T.frz p) i t else pS (T.frz p) i op t
mutual
def Nw:Nat->Tc->Stmt->Option TSd
 | 0,_,_=>none
 | n+1,T,st=>match st with
  | .Return o p=>(match o with
   | some e=>(u9 n T e).map (iZ (T.frz p))
   | none=>some sd)
  | .Pass _=>some i8
  | .Break _=>some sZ
  | .Expr e p=>Ol n T p e
  | .Assign tgs e p=>(match tgs with
   | [tg]=>Nh n T p e tg
   | _=>none)
  | .AugAssign tg op e p=>(match tg with
   | .Name x _=>if E6 (T.sc.names.lookup x)=true then (T.slot x).bind fun i=>(u9 n T e).map (Lx T p i op) else none
   | .Subscript a k _=>(match a with
    | .Name x _=>if uI k then (T.slot x).bind fun i=>(u9 n T k).bind fun tk=>(u9 n T e).map (mU (T.frz p) i tk op) else none
    | _=>none)
   | _=>none)
  | .If k a b p=>(Bh n T k).bind fun tk=>(Dk n T a).bind fun ta=>(Dk n T b).map fun tb=>dIf (T.frz p) tk ta tb
  | .While k a r _=>(match r with
   | []=>(Bh n T k).bind fun tk=>(Dk n T a).map (jB tk)
   | _=>none)
  | .For tg it a r p=>(match r with
   | []=>if uI it then (K4 (u9 n T) T tg it).bind fun ti=>(Nx T tg).bind fun g=>(Dk n T a).map (jq (T.frz p) ti g) else none
   | _=>none)
  | _=>none
def Dk:Nat->Tc->List Stmt->Option TSd
 | 0,_,_=>none
 | n+1,T,sts=>match sts with
  | []=>some i8
  | st::r=>(match r with
   | []=>Nw n T st
   | _=>(Nw n T st).bind fun t=>(Dk n T r).map (dSq t))
end
theorem DO(C:CtxOk T X)(ih:Am X E)(h:Ik E T e=some t):PE X e (LF X.K t)/\vG e=false:=by
 unfold Ik at h;split at h
 ·obtain⟨ta,h1,rfl⟩:=ab.mp h;exact⟨je.okF (vI ih h1),rfl⟩
 ·obtain⟨ta,tb,h1,h2,rfl⟩:=xD h;exact⟨uf.okF (ih h1) (ih h2),rfl⟩
 ·rename_i x p1 a p2;by_cases ex:x = "list"
  ·rw[QI ex] at h;obtain⟨hn,h4⟩:=ac.mp h;obtain⟨n1,n2⟩:=ax.mp hn;obtain⟨ta,h1,rfl⟩:=ab.mp h4;subst ex;exact⟨jV.okF (C.isG n2).1 C.bl.list (ih h1) (uv n1 _ _),rfl⟩
  ·rw[QJ ex] at h;cases h
 ·cases h
theorem vV(h:vG e=false)(t:Expr)(l:Nat)(env:Env):swapsWithSole [t] e l env=pure false:=xK h (some t) l env
theorem Fe(C:CtxOk T X)(h:u9 n T (.ListComp e gs sc p)=some t):∃ tg it ifs ti g te tk,gs=[⟨tg,it,ifs,0⟩]/\uI it=true/\CompS X.N X.env.scope sc (vw T.N sc)/\PI X tg it (LI X.K ti)/\t=i7 ti (vw T.N sc) g tk te/\(∀ i∈g.tg,i∈vw T.N sc)/\(∀ s2 H2 fp pins A,PG (wj X sc s2 H2 fp pins A) tg (LG X.K g))/\(∀ s2 H2 fp pins A,PTs (wj X sc s2 H2 fp pins A) ifs (LT X.K tk))/\∀ s2 H2 fp pins A,PE (wj X sc s2 H2 fp pins A) e (LE X.K te):=by
 cases n with
 | zero=>cases h
 | succ n =>
  have ih:=xV n;obtain⟨hs,h⟩:=ac.mp (show (if Fv T.sc sc then (GH gs).bind fun (tg,it,ifs)=>Ei (K4 (u9 n T) T tg it) (u9 n { T with sc:=sc }) (Bh n { T with sc:=sc }) T e tg ifs sc else none)=some t from h);obtain⟨⟨tg,it,ifs⟩,h1,h2⟩:=af.mp h;obtain⟨rfl,hn⟩:=D7 h1;obtain⟨ti,g,te,tk,q1,q0,q2,q3,q4,q5⟩:=BW C h2 (fun _ _ _ _ _=>ih.e (C.inner ..)) (fun _ _ _ _ _=>ih.t (C.inner ..));exact⟨tg,it,ifs,ti,g,te,tk,rfl,hn,C.compS hs,CH C (ih.e C) q1,q0,q2,q3,q4,q5⟩
theorem KT(C:CtxS T X)(hl:E6 (T.sc.names.lookup x)=true)(hs:T.slot x=some i)(h:Ny n T p i e=some t):PS X (.Assign [.Name x px] e p) (LS X.K t):=by
 have ih:Am X (u9 n T):=(xV n).e C.toCtxOk;have hf:X.fn x=true\/X.env.scope.names.lookup x=some .local:=.inl (C.fnT x);unfold Ny at h;split at h
 ·rename_i y m ap as cp em;obtain⟨⟨p1,rfl⟩,hn⟩:=zV em;obtain⟨rfl,h3⟩:=ac.mp h;match as,h3 with
  | [],h3 =>
   obtain⟨j,h1,rfl⟩:=ab.mp h3;exact qO.ok C.nd (C.slot hs) (C.L hl) hf (C.var h1) rfl hn rfl
  | _::_,h3=>cases h3
 ·by_cases ho:T.own.contains p.line=true
  ·rw[QI ho] at h;obtain⟨ta,h1,rfl⟩:=ab.mp h;obtain⟨q1,q2⟩:=DO C.toCtxOk ih h1;exact kY.ok C.nd (C.slot hs) (C.L hl) q1 (xK q2 ..) hf
  ·rw[QJ ho] at h;obtain⟨ta,h1,rfl⟩:=ab.mp h;have gen:vG e=false->PS X (.Assign [.Name x px] e p) (LS X.K (iY (T.frz p) (gNm i) ta)):=fun hc=>ub.ok C.nd (C.slot hs) (C.L hl) (ih h1) (xK hc ..) hf;cases e;case ListComp e gs sc ep hmm =>
    obtain⟨tg,it,ifs,ti,g,te,tk,rfl,hn,q0,qi,rfl,q2,q3,q4,q5⟩:=Fe C.toCtxOk h1;cases sw:NW T x px ep sc with
    | false=>exact ub.ok C.nd (C.slot hs) (C.L hl) (ih h1) (by rw[Fk C,sw]) hf
    | true=>exact uc.ok C.calm C.nd (C.slot hs) (C.L hl) q0 qi q3 q4 q5 (fun x=>xL hn _ x) q2 (by rw[Fk C,sw]) hf
   case SetComp=>cases n <;> cases h1
   case DictComp=>cases n <;> cases h1
   all_goals exact gen rfl
theorem HA(C:CtxS T X)(h:JW n T p es e=some t):PS X (.Assign [.Tuple es kt pt] e p) (LS X.K t):=by
 have ih:Am X (u9 n T):=(xV n).e C.toCtxOk;unfold JW at h;split at h
 ·rename_i x px y py a b eo;obtain⟨rfl,k,p2,rfl⟩:=F8 eo;by_cases hp:Ga T x y px py a b=true
  rotate_left
  ·rw[QJ hp] at h;obtain⟨hc,h⟩:=ac.mp h;obtain⟨is,h1,h⟩:=af.mp h;obtain⟨ta,h2,rfl⟩:=ab.mp h;obtain⟨q1,q2,q3⟩:=yf C.toCtxOk h1;exact iY.ok (ih h2) (gTp.ok (Co C.calm q1 q2 q3)) (vV rfl ..) (EY C hc) rfl
  rw[QI hp] at h;obtain⟨i,h1,h⟩:=af.mp h;obtain⟨j,h2,h⟩:=af.mp h;have hp':=hp;unfold Ga at hp';simp only[bT,eI] at hp';obtain⟨⟨⟨⟨⟨⟨⟨w1,w2⟩,w3⟩,w4⟩,w5⟩,w6⟩,w7⟩,w8⟩:=hp';have ne:i≠j:=by
   rintro rfl;have a1:=C.slot h1;have a2:=C.slot h2;rw[a1] at a2;cases a2;rw[beq_self_eq_true] at w6;cases w6
  by_cases ow:T.own.contains p.line=true
  ·rw[QI ow] at h;obtain⟨ta,h3,h⟩:=af.mp h;obtain⟨tb,h4,rfl⟩:=ab.mp h;exact (FV (pos:=p) C.calm C.nd (C.slot h1) (C.slot h2) ne (C.loc _ (Qa w3)) (C.loc _ (Qa w4)) (uu (DO C.toCtxOk ih h3).1 (uu (ih h4) pa_nil (uv w2 _ _)) (uv w1 _ _)) (F7 C hp) rfl).weak fun D σ H q=>qP.weak q
  ·rw[QJ ow] at h;obtain⟨ta,h3,h⟩:=af.mp h;obtain⟨tb,h4,rfl⟩:=ab.mp h;exact (FV (pos:=p) C.calm C.nd (C.slot h1) (C.slot h2) ne (C.loc _ (Qa w3)) (C.loc _ (Qa w4)) (uu (ih h3) (uu (ih h4) pa_nil (uv w2 _ _)) (uv w1 _ _)) (F7 C hp) rfl).weak fun D σ H q=>mZ.weak q
 ·obtain⟨hn,h⟩:=gx.mp h;obtain⟨is,h1,h⟩:=af.mp h;obtain⟨ta,h2,rfl⟩:=ab.mp h;obtain⟨q1,q2,q3⟩:=yf C.toCtxOk h1;have hn2:Jv e=false/\vG e=false:=by simpa using hn
  refine iY.ok (ih h2) (gTp.ok (Co C.calm q1 q2 q3)) (vV hn2.2 ..) ?_ rfl;have:=hn2.1;cases e <;> first|rfl|cases this
theorem IW(C:CtxS T X)(h:Nh n T p e tg=some t):PS X (.Assign [tg] e p) (LS X.K t):=by
 have ih:Am X (u9 n T):=(xV n).e C.toCtxOk;cases tg <;> first|(cases h;done)|skip
 case Name x px =>
  obtain⟨hl,h⟩:=ac.mp (show (if E6 (T.sc.names.lookup x)=true then (T.slot x).bind fun i=>Ny n T p i e else none)=some t from h);obtain⟨i,h1,h⟩:=af.mp h;exact KT C hl h1 h
 case Subscript a k sp =>
  cases a <;> first|(cases h;done)|skip
  rename_i x q;obtain⟨hn,h⟩:=ac.mp (show (if uI k && !vG e then (T.slot x).bind fun i=>(u9 n T k).bind fun tk=>(u9 n T e).map (mT (T.frz p) i tk) else none)=some t from h);obtain⟨n1,n2⟩:=ax.mp hn;obtain⟨i,h1,h⟩:=af.mp h;obtain⟨tk,h2,h⟩:=af.mp h;obtain⟨ta,h3,rfl⟩:=ab.mp h;have hc:vG e=false:=by simpa using n2
  refine mT.ok (C.var h1) (ih h2) (ih h3) (vV hc ..) ?_ rfl (wJ (C.var h1) (ih h2) va ?_)
  ·cases e <;> rfl
  ·intro v;cases k <;> first|rfl|cases n1
 case Tuple es k pt=>exact HA C h
theorem Lb(C:CtxS T X)(h:Ol n T p e=some t):PS X (.Expr e p) (LS X.K t):=by
 have ih:Am X (u9 n T):=(xV n).e C.toCtxOk;unfold Ol at h;split at h
 ·rename_i x m ap as cp em;obtain⟨⟨p1,rfl⟩,hl⟩:=zV em;by_cases e1:m = "append"
  ·subst e1;rw[QI rfl] at h;match as,h with
   | [e],h =>
    obtain⟨hn,h⟩:=ac.mp h;obtain⟨i,h1,h⟩:=af.mp h;obtain⟨ta,h2,rfl⟩:=ab.mp h;exact oz.ok (C.var h1) rfl (ih h2) (uv hn _ _) hl rfl
   | [],h=>cases h
   | _::_::_,h=>cases h
  ·rw[QJ e1] at h;by_cases e2:m = "pop"
   ·subst e2;rw[QI rfl] at h;obtain⟨ha,h4⟩:=ac.mp h;obtain⟨i,h1,rfl⟩:=ab.mp h4;cases as with
    | cons=>cases ha
    | nil=>exact s9.ok (C.var h1) rfl hl rfl
   ·rw[QJ e2] at h;cases h
 ·cases h
theorem Ce:∀ n,(∀{T:Tc} {X:Cx} {st:PY} {t:TSd},CtxS T X->Nw n T st=some t->PS X st (LS X.K t))/\(∀{T:Tc} {X:Cx} {sts:List PY} {t:TSd},CtxS T X->Dk n T sts=some t->PSs X sts (LS X.K t))
 | 0=>⟨fun _ h=>(by cases h),fun _ h=>(by cases h)⟩
 | n+1=>by
  have ihS:=Ce n;constructor
  ·intro T X st t C h;have C':=C.toCtxOk;have ih:Am X (u9 n T):=(xV n).e C';have it:NE X (Bh n T):=(xV n).t C';have hp:PassesOwn (model X.prog X.w) X.A X.env X.xe:=by
    rw[C.xe];exact PassesOwn.never
   cases st <;> first|(cases h;done)|skip
   case Return o p =>
    cases o with
    | none =>
     cases h;exact sd.ok
    | some e =>
     obtain⟨ta,h1,rfl⟩:=ab.mp (show (u9 n T e).map (iZ (T.frz p))=some t from h);exact iZ.ok (ih h1)
   case Pass=>cases h;exact i8.pass
   case Break=>cases h;exact sZ.ok
   case Expr=>exact Lb C h
   case Assign tgs e p =>
    match tgs,h with
    | [tg],h=>exact IW C h
    | [],h=>cases h
    | _::_::_,h=>cases h
   case AugAssign tg op e p =>
    cases tg <;> first|(cases h;done)|skip
    case Name x px =>
     obtain⟨hl,h⟩:=ac.mp (show (if E6 (T.sc.names.lookup x)=true then (T.slot x).bind fun i=>(u9 n T e).map (Lx T p i op) else none)=some t from h);obtain⟨i,h1,h⟩:=af.mp h;obtain⟨ta,h2,rfl⟩:=ab.mp h;unfold Lx;split
     ·rename_i hk;obtain⟨_,k2⟩:=ax.mp hk;cases GC k2;exact td.okA C.nd (C'.slot h1) (C.L hl) (ih h2) (.inl (C.fnT _))
     ·exact pS.ok C.room C.nd (C'.slot h1) (C.L hl) (ih h2) (.inl (C.fnT _))
    case Subscript a k sp =>
     cases a <;> first|(cases h;done)|skip
     rename_i x q;obtain⟨hn,h⟩:=ac.mp (show (if uI k then (T.slot x).bind fun i=>(u9 n T k).bind fun tk=>(u9 n T e).map (mU (T.frz p) i tk op) else none)=some t from h);obtain⟨i,h1,h⟩:=af.mp h;obtain⟨tk,h2,h⟩:=af.mp h;obtain⟨ta,h3,rfl⟩:=ab.mp h;refine mU.ok C.room (C.var h1) (ih h2) (ih h3) ?_;cases k <;> first|(intros;rfl)|cases hn
   case If k a b p =>
    obtain⟨tk,h0,h⟩:=af.mp (show (Bh n T k).bind (fun tk=>(Dk n T a).bind fun ta=>(Dk n T b).map fun tb=>dIf (T.frz p) tk ta tb)=some t from h);obtain⟨ta,h1,h⟩:=af.mp h;obtain⟨tb,h2,rfl⟩:=ab.mp h;exact dIf.ok (it h0) (ihS.2 C h1) (ihS.2 C h2)
   case While k a r p =>
    cases r with
    | cons=>cases h
    | nil =>
     obtain⟨tk,h0,h⟩:=af.mp (show (Bh n T k).bind (fun tk=>(Dk n T a).map (jB tk))=some t from h);obtain⟨ta,h1,rfl⟩:=ab.mp h;exact jB.ok hp (it h0) (ihS.2 C h1)
   case For tg i a r p =>
    cases r with
    | cons=>cases h
    | nil =>
     obtain⟨hn,h⟩:=ac.mp (show (if uI i then (K4 (u9 n T) T tg i).bind fun ti=>(Nx T tg).bind fun g=>(Dk n T a).map (jq (T.frz p) ti g) else none)=some t from h);obtain⟨ti,h0,h⟩:=af.mp h;obtain⟨g,h1,h⟩:=af.mp h;obtain⟨tb,h2,rfl⟩:=ab.mp h;exact jq.ok hp C.calm (CH C' ih h0) (Cg C' h1) (ihS.2 C h2) fun x=>xL hn _ x
  ·intro T X sts t C h;match sts,h with
   | [],h =>
    cases h;exact i8.nil
   | [st],h=>exact dSq.one (ihS.1 C h)
   | st::s2::r,h =>
    obtain⟨ta,h1,h⟩:=af.mp (show (Nw n T st).bind (fun t=>(Dk n T (s2::r)).map (dSq t))=some t from h);obtain⟨tb,h2,rfl⟩:=ab.mp h;exact dSq.ok (ihS.1 C h1) (ihS.2 C h2)
theorem Lh(B:Bl mg)(S:FnScope N ps (ug st))
  (hG:∀ x j s,(x,j,s)∈G->∃ ps,Def P w K mg base x j ps (Bf K s.n s.run)) (hgc:∀ x d,(x,d)∈gc->∃ v u,mg x=some u/\RelV v u/\∀ f O H,Rp K f O H d v) (hr:Room k (A.deeper (PyProof.Rows.envOfC qual (ug st) s0.heap.objs.size f cdv))) :
  CtxS ⟨N,ug st,G,gc,k,fz,own,mu⟩ (CW Dh P w K mg base N qual (ug st) f cdv A outer s0 H E).nox:=by
 refine⟨⟨rfl,S.nd,rfl,hr,fun x h=>?_,fun x h=>h,fun x h=>h,fun x h=>h,hG,hgc,B,fun x h=>⟨h,rfl⟩⟩,rfl,?_,rfl,fun _=>rfl⟩
 ·have h:MN ((ug st).names.lookup x)=true:=h;unfold JR;show (ug st).names.lookup x=_\/(ug st).names.lookup x=_\/(ug st).names.lookup x=_;cases q:(ug st).names.lookup x with
  | none=>rw[q] at h;cases h
  | some k=>rw[q] at h;cases k <;> first|exact .inl rfl|exact .inr (.inl rfl)|exact .inr (.inr rfl)|cases h
 ·show (if (ug st).kind.isAnnotationScope then ScopeKind.function else (ug st).kind) = .function;rw[S.kind];rfl
theorem KR(F:Fun K x qual st f fd)(B:Bl mg)(S:FnScope N ps (ug st))(hn:s.n=ps.length)
  (hG:∀ x j s,(x,j,s)∈G->∃ ps,Def P w K mg base x j ps (Bf K s.n s.run)) (hgc:∀ x d,(x,d)∈gc->∃ v u,mg x=some u/\RelV v u/\∀ f O H,Rp K f O H d v)
  (ht:Dk n ⟨N,ug st,G,gc,k,fz,own,mu⟩ (u7 st)=some t) (h:Does N.length t s):FnOk P w K mg base Dh (k+1) f fd ps (Bf K s.n s.run) :=
 F.ok S (fun vs H Q E q=>q.1.trans hn) (fun cdv A outer s0 H vs Q E hr q=>⟨LS K t,(Ce n).2 (Lh B S hG hgc hr) ht,h.ok q⟩)
end
section
open PySem L2 Dp
variable{P:Program}{w:World}{K:Frag}{mg:Str->Option Value}{base:Heap}
theorem KQ(F:Fun K "law" "law" st f0 fd)(B:Bl mg)(S:FnScope ("_law_script" :: "_law_flow_here" :: N) ["_law_script"] (ug st))
  (g:Def P w K mg base "_law_flow" 1 ["_law_script"] (yx K)) (hG:∀ x j s,(x,j,s)∈G->∃ ps,Def P w K mg base x j ps (Bf K s.n s.run)) (hgc:∀ x d,(x,d)∈gc->∃ v u,mg x=some u/\RelV v u/\∀ f O H,Rp K f O H d v)
  (hb:u7 st = .Assign [.Name "_law_flow_here" p1] (.Call (.Name "_law_flow" p2) [.Name "_law_script" p3] [] p4) p5::rest) (hk:1<=k) (hv:(ug st).names.lookup ("_law_script" : PR)=some .local\/(ug st).names.lookup ("_law_script" : PR)=some .cell) (hl:(ug st).names.lookup ("_law_flow_here" : PR)=some .local\/(ug st).names.lookup ("_law_flow_here" : PR)=some .cell) (hg:(ug st).names.lookup ("_law_flow" : PR)=some .globalImplicit)
  (ht:Dk n ⟨"_law_script" :: "_law_flow_here" :: N,ug st,G,gc,k,fz,own,mu⟩ rest=some t) (h:t.run ⟨fun _=>False,fun d=>d = .bl true,fun _=>False,fun _=>False⟩ (.no :: .val .fl::Pu N.length .no)) :
  FnOk P w K mg base Dh (k+1) f0 fd ["_law_script"] (Do K):=by
 refine F.ok S (fun vs H Q E h=>?_) (fun cdv A outer s H vs Q E hr q=>?_)
 ·obtain⟨a,ns,rfl,_⟩:=h;rfl
 obtain⟨a,ns,rfl,hS,h63,q⟩:=q;refine⟨L3 (J2 (Dl (yx K) [] E0 (yv (wV 0) Fh)) (Aa 1)) (LS K t),?_,?_⟩
 ·rw[hb];refine vb (xG S.nd rfl hl (F4 g hr (uu (Cp rfl ?_ rfl rfl) pa_nil rfl) hk hg rfl rfl rfl) rfl (.inl rfl)) ?_
  ·rcases hv with z|z
   ·exact .inl z
   ·exact .inr (.inl z)
  refine (Ce n).2 (T:=⟨"_law_script" :: "_law_flow_here" :: N,ug st,G,gc,k,fz,own,mu⟩) ⟨⟨rfl,S.nd,rfl,hr,fun x h=>?_,fun x h=>h,fun x h=>h,fun x h=>h,hG,hgc,B,fun x h=>⟨h,rfl⟩⟩,rfl,?_,rfl,fun _=>rfl⟩ ht
  ·have h:MN ((ug st).names.lookup x)=true:=h;unfold JR;show (ug st).names.lookup x=_\/(ug st).names.lookup x=_\/(ug st).names.lookup x=_;cases q:(ug st).names.lookup x with
   | none=>rw[q] at h;cases h
   | some k=>rw[q] at h;cases k <;> first|exact .inl rfl|exact .inr (.inl rfl)|exact .inr (.inr rfl)|cases h
  ·show (if (ug st).kind.isAnnotationScope then ScopeKind.function else (ug st).kind) = .function;rw[S.kind];rfl
 ·refine⟨_,rfl,a,ns,rfl,hS,h63,fun f H1 e1 fl hf=>?_⟩;have ef:(L2.start ("_law_script" :: "_law_flow_here" :: N) [V.ref a]).set 1 (some (V.ref f))=some (.ref a)::some (.ref f)::Pu N.length none:=rfl;show LS K t _ ((L2.start ("_law_script" :: "_law_flow_here" :: N) [V.ref a]).set 1 (some (V.ref f))) H1;rw[ef];have gt:∀{i:Nat} {x:SD},(SD.no::SD.val .fl::Pu N.length SD.no)[i]? = some x->x = .no\/(i=1/\x = .val .fl):=fun {i x} h=>by
   match i,h with
   | 0,h=>cases h;exact .inl rfl
   | 1,h=>cases h;exact .inr ⟨rfl,rfl⟩
   | i+2,h=>exact .inl (dD (aO (show (Pu N.length SD.no)[i]? = some x from h)))
  refine⟨⟨f,[f],H1,[f]⟩,[f],SD.no::SD.val .fl::Pu N.length SD.no,⟨⟨fl,aq.mpr rfl,fun b hb=>?_,fun l r e z=>?_,by simp,fun i d hd=>?_,fun i l hd=>?_⟩,fun _ h=>h,⟨fun _ _ h _ _=>h,fun l r h=>⟨r,h⟩⟩,fun b h=>.inl h,fun i l b hd=>?_⟩,?_⟩
  ·rw[aq.mp hb];exact fl.lst
  ·have z:=aq.mp z;subst z;obtain⟨l0,ns0,i,c,a0,b,h1,h2,_⟩:=fl;rw[h1] at e;cases e;rw[h1] at h2;cases ns0 <;> cases h2
  ·rcases gt hd with e|⟨rfl,e⟩
   ·cases e
   ·cases e;exact⟨_,rfl,rfl⟩
  ·rcases gt hd with e|⟨_,e⟩ <;> cases e
  ·rcases gt hd with e|⟨_,e⟩ <;> cases e
  ·refine t.mono ?_ h;refine⟨fun s z=>z.elim,fun d z v H' R=>?_,fun s z=>z.elim,fun s z=>z.elim⟩;subst z;cases (show v=_ from R.rp);exact q H'
end
section
open PySem L2 Dp
variable{P:Program}{w:World}{K:Frag}{mg:Str->Option Value}{base:Heap}
theorem Pm:∀(x:PR) (j:Nat) (s:SpB),(x,j,s)∈([]:List (PR×Nat×SpB))->∃ ps,Def P w K mg base x j ps (Bf K s.n s.run):=fun _ _ _ h=>absurd h bf
theorem uX(g:Def P w K mg base y i ps (Bf K r.n r.run))(h:∀(x:PR) (j:Nat) (s:SpB),(x,j,s)∈G->∃ ps,Def P w K mg base x j ps (Bf K s.n s.run)):∀(x:PR) (j:Nat) (s:SpB),(x,j,s)∈(y,i,r)::G->∃ ps,Def P w K mg base x j ps (Bf K s.n s.run):=fun x j s e=>by
 rcases av.mp e with e|e
 ·cases e;exact⟨ps,g⟩
 ·exact h x j s e
theorem uZ:∀(x:PR) (d:D),(x,d)∈([]:List (PR×D))->∃ v u,mg x=some u/\RelV v u/\∀ f O H,Rp K f O H d v:=fun _ _ h=>absurd h bf
theorem Pn(g:∃ v u,mg y=some u/\RelV v u/\∀ f O H,Rp K f O H c v)(h:∀(x:PR) (d:D),(x,d)∈gc->∃ v u,mg x=some u/\RelV v u/\∀ f O H,Rp K f O H d v):∀(x:PR) (d:D),(x,d)∈(y,c)::gc->∃ v u,mg x=some u/\RelV v u/\∀ f O H,Rp K f O H d v:=fun x d e=>by
 rcases av.mp e with e|e
 ·cases e;exact g
 ·exact h x d e
end
section
open PySem L2 Dp
variable{P:Program}{w:World}{K:Frag}{mg:Str->Option Value}{base:Heap}
structure Sl (K:Frag)(f:Addr)(x:Str)(st:Stmt):Prop where
 a:PySem.W.nsIn K mainGlobals x=some (some (.ref f))
 ex:∃ fd,Fun K x x st f fd
theorem sl{f:Py}{x:PR}{st:PY}{oc:Pt}{od an:Option Py}{osl:Array (Option Pt)}{kV doc pm cdv ct:Pt}(a:PQ K PJ x=some (some (.ref f)))(l:K.lookup f=some ⟨oc,od,.func (QA x x (wd st) (u7 st) (ug st) .none kV doc pm an cdv ct),osl⟩)(c:PySem.W.codeIn K cdv x=true)(k:PySem.W.keepIn K (.ref f)=true):Sl K f x st:=⟨a,_,K9 l c k⟩
abbrev Mg(K:Frag)(mg:Str->Option Value):Prop:=∀(x:Str) (f:Addr),PySem.W.nsIn K mainGlobals x=some (some (.ref f))->mg x=some (.ref f)
def OL(N ps:List Str)(sc:Scope):Bool:=decide (N.Nodup) && decide (N.take ps.length=ps) && (ps.all fun x=>decide (sc.names.lookup x=some .local) || decide (sc.names.lookup x=some .cell)) && sc.names.all fun y=>decide (y.2 ≠ .free)
theorem sc{sc:Scope}(h:OL N ps sc=true)(h1:sc.kind = .function)(h2:sc.isCoroutine=false)(h3:sc.isGenerator=false):FnScope N ps sc:=by
 unfold OL at h;obtain⟨h,d⟩:=ax.mp h;obtain⟨h,c⟩:=ax.mp h;obtain⟨a,b⟩:=ax.mp h;refine⟨h1,h2,h3,of_decide_eq_true a,of_decide_eq_true b,fun x hx=>?_,fun y hy=>of_decide_eq_true (cY.mp d y hy)⟩;rcases iB.mp (cY.mp c x hx) with z|z
 ·exact .inl (of_decide_eq_true z)
 ·exact .inr (of_decide_eq_true z)
abbrev o0:List (Nat×List Nat)×List Nat×List Nat:=([],[],[])
abbrev BA(x:Str)(st:Stmt)(kV doc pm:Value)(an:Option Addr)(cdv ct:Value)(us:List Value):=bindArgs (PySem.W.fnOf x x (wd st) (u7 st) (ug st) .none kV doc pm an cdv ct) ⟨us,[]⟩
theorem u4(k:Nat)(H:List (Nat×List Nat)×List Nat×List Nat)(S:Sl K f x st)(W:Mg K mg)(B:Bl mg)(C:FnScope N ps (ug st))(hn:s.n=ps.length)
  (hG:∀ x j s,(x,j,s)∈G->∃ ps,Def P w K mg base x j ps (Bf K s.n s.run)) (hgc:∀ x d,(x,d)∈gc->∃ v u,mg x=some u/\RelV v u/\∀ f O H,Rp K f O H d v)
  (hb:∀(kV doc pm:Pt) (an:Option Py) (cdv ct:Pt) (us:List Pt),us.length=ps.length->BA x st kV doc pm an cdv ct us=pure (ps.zip us))
  (ht:Dk 40 ⟨N,ug st,G,gc,k,H.1,H.2.1,H.2.2⟩ (u7 st)=some t) (h:Does N.length t s):Def P w K mg base x (k+1) ps (Bf K s.n s.run):=by
 obtain⟨a,fd,F⟩:=S;exact .of F (W _ _ a) (F.binds hb) (KR (n:=40) (fz:=H.1) (own:=H.2.1) (mu:=H.2.2) F B C hn hG hgc ht h)
theorem u0{us:List Pt}(h:us.length=n+1):∃ a r,us=a::r/\r.length=n:=by
 cases us with
 | nil=>exact absurd h (Nat.succ_ne_zero n).symm
 | cons a r=>exact⟨a,r,rfl,Nat.succ.inj h⟩
theorem u1{us:List Pt}(h:us.length=1):∃ a,us=[a]:=by
 obtain⟨a,r,rfl,h1⟩:=u0 (n:=0) h;exact⟨a,by rw[cX.mp h1]⟩
theorem u2{us:List Pt}(h:us.length=2):∃ a b,us=[a,b]:=by
 obtain⟨a,r,rfl,h1⟩:=u0 (n:=1) h;obtain⟨b,rfl⟩:=u1 h1;exact⟨a,b,rfl⟩
theorem u3{us:List Pt}(h:us.length=3):∃ a b c,us=[a,b,c]:=by
 obtain⟨a,r,rfl,h1⟩:=u0 (n:=2) h;obtain⟨b,c,rfl⟩:=u2 h1;exact⟨a,b,c,rfl⟩
theorem b1(h:∀(kV doc pm:Pt) (an:Option Py) (cdv ct u:Pt),BA x st kV doc pm an cdv ct [u]=pure [(p,u)]):∀(kV doc pm:Pt) (an:Option Py) (cdv ct:Pt) (us:List Pt),us.length=[p].length->BA x st kV doc pm an cdv ct us=pure ([p].zip us):=fun _ _ _ _ _ _ us hl=>by
 obtain⟨_,rfl⟩:=u1 hl;exact h ..
theorem b2(h:∀(kV doc pm:Pt) (an:Option Py) (cdv ct u v:Pt),BA x st kV doc pm an cdv ct [u,v]=pure [(p,u),(q,v)]):∀(kV doc pm:Pt) (an:Option Py) (cdv ct:Pt) (us:List Pt),us.length=[p,q].length->BA x st kV doc pm an cdv ct us=pure ([p,q].zip us):=fun _ _ _ _ _ _ us hl=>by
 obtain⟨_,_,rfl⟩:=u2 hl;exact h ..
theorem b3(h:∀(kV doc pm:Pt) (an:Option Py) (cdv ct u v z:Pt),BA x st kV doc pm an cdv ct [u,v,z]=pure [(p,u),(q,v),(r,z)]):∀(kV doc pm:Pt) (an:Option Py) (cdv ct:Pt) (us:List Pt),us.length=[p,q,r].length->BA x st kV doc pm an cdv ct us=pure ([p,q,r].zip us):=fun _ _ _ _ _ _ us hl=>by
 obtain⟨_,_,_,rfl⟩:=u3 hl;exact h ..
end
end Ds
namespace Qp
open L2 Cv Hv Pc
def er(f:Nat->Rat)(x:Rat):Nat->Rat
 | 0=>0
 | n+1=>er f x n+f n*x^n
theorem Lc(h:∀ k,q P B k=f k)(x:Rat):∀ n,er f x n=ei (fn P) x n / (B:Rat)
 | 0=>by unfold er ei;grind
 | n+1=>by
  rw[er,ei,Lc h x n,← h n];show _+(((P.getD n 0:Int):Rat) / (B:Rat))*_=(_+((P.getD n 0:Int):Rat)*_) / _;grind
end Qp
namespace Ap
open L2 Cv Hv Pc Qp
theorem DW(ts:List Int):∀ n,n<=ts.length->(∀ j,n<=j->ts.getD j 0=0)->∃ m,m<=ts.length/\(∀ j,m<=j->ts.getD j 0=0)/\(m=0\/ts.getD (m-1) 0≠0)
 | 0,_,h=>⟨0,aE _,h,.inl rfl⟩
 | n+1,l,h=>by
  by_cases c:ts.getD n 0=0
  ·refine DW ts n (by lia) fun j hj=>?_;rcases cy hj with e|e
   ·rw[← e];exact c
   ·exact h j e
  ·exact⟨n+1,l,h,.inr c⟩
theorem has{F:Nat->Int}{n:Nat}{c:Int}(hc:0<c)(hF:∀ k,n<=k->F k=0):∃ R C,Po.Fm R C/\∀ k,R.getD k 0*c=F k*C:=by
 have e:∀ k,((P5 n).map F).getD k 0=F k:=fun k=>by
  rw[ae,aM];rcases ar k n with z|z
  ·rw[iy z];rfl
  ·rw[bC (by rw[gb];exact z)];exact (hF k z).symm
 obtain⟨m,h1,h2,h3⟩:=DW ((P5 n).map F) n (by rw[aa,gb];exact ak _) fun j hj=>by rw[e];exact hF j hj
 obtain⟨f,w⟩:=Po.form hc h1 h2 h3;exact⟨_,_,f,fun k=>by rw[w k,e]⟩
def Pf(f:Rat->Rat):Prop:=∃ R C,Po.Fm R C/\∀ x,E R C x=f x
theorem Pf.of(f:Po.Fm P B):Pf (E P B):=⟨P,B,f,fun _=>rfl⟩
theorem Pf.add(hf:Pf f)(hg:Pf g):Pf fun x=>f x+g x:=by
 obtain⟨P1,B1,f1,e1⟩:=hf;obtain⟨P2,B2,f2,e2⟩:=hg;obtain⟨R,C,fR,w⟩:=has (F:=fun k=>P1.getD k 0*B2+P2.getD k 0*B1) (n:=P1.length+P2.length) (ay f1.pos f2.pos) fun k hk=>by
  have a:P1.getD k 0=0:=uk (by lia);have b:P2.getD k 0=0:=uk (by lia);rw[a,b];simp
 exact⟨R,C,fR,fun x=>by rw[B6 f1.pos f2.pos fR.pos w,e1,e2]⟩
theorem Pf.mul{f g:Rat->Rat}(hf:Pf f)(hg:Pf g):Pf fun x=>f x*g x:=by
 obtain⟨P1,B1,f1,e1⟩:=hf;obtain⟨P2,B2,f2,e2⟩:=hg;obtain⟨R,C,fR,w⟩:=has (F:=cv (fn P1) (fn P2)) (n:=P1.length+P2.length) (ay f1.pos f2.pos) fun k hk=>u5 (a:=P1.length) (b:=P2.length) (fun j h=>uk h) (fun j h=>uk h) (by lia);exact⟨R,C,fR,fun x=>by rw[yr f1.pos f2.pos fR w,e1,e2]⟩
theorem Pf.const(r:Rat):Pf fun _=>r:=by
 obtain⟨t,u,hu,rfl⟩:=u6 r;obtain⟨R,C,fR,w⟩:=has (F:=fun k=>[t].getD k 0) (n:=1) hu fun k hk=>by
  obtain⟨j,rfl⟩:∃ j,k=j+1:=⟨k-1,by lia⟩;simp
 exact⟨R,C,fR,fun x=>yt fR hu w x⟩
theorem Pf.sub(hf:Pf f)(hg:Pf g):Pf fun x=>f x-g x:=by
 obtain⟨R,C,f,e⟩:=hf.add ((Pf.const (-1)).mul hg);exact⟨R,C,f,fun x=>by rw[e];grind⟩
theorem Od{P1 P2 R:List Int}{B1 B2 C:Int}(f1:Po.Fm P1 B1)(f2:Po.Fm P2 B2)(fR:Po.Fm R C)(n1:P1≠[])(n2:P2≠[])(h:∀ x,E R C x=E P1 B1 x*E P2 B2 x):P1.length+P2.length=R.length+1:=by
 have p:=ay f1.pos f2.pos;obtain⟨S,D,fS,w⟩:=has (F:=cv (fn P1) (fn P2)) (n:=P1.length+P2.length) p fun k hk=>u5 (a:=P1.length) (b:=P2.length) (fun j h=>uk h) (fun j h=>uk h) (by lia);obtain⟨rfl,rfl⟩:=uQ fR fS fun x=>by rw[h,yr f1.pos f2.pos fS w]
 have l1:0<P1.length:=dr.mpr n1;have l2:0<P2.length:=dr.mpr n2;have t1:P1.getD (P1.length-1) 0≠0:=f1.last.resolve_left n1;have t2:P2.getD (P2.length-1) 0≠0:=f2.last.resolve_left n2;have top:=CY (f:=fn P1) (g:=fn P2) (a:=P1.length-1) (b:=P2.length-1) (fun j hj=>uk (by lia)) (fun j hj=>uk (by lia));have e:=w (P1.length-1+(P2.length-1));rw[top] at e;have ne:R.getD (P1.length-1+(P2.length-1)) 0≠0:=fun z=>by
  rw[z,aN] at e;exact b8 (b8 t1 t2) (ao fR.pos) e.symm
 have up:R.length<=P1.length-1+(P2.length-1)+1:=uU fR p w fun k hk=>u5 (a:=P1.length) (b:=P2.length) (fun j h=>uk h) (fun j h=>uk h) (by lia);have dn:P1.length-1+(P2.length-1)<R.length:=by
  rcases ar (P1.length-1+(P2.length-1)) R.length with z|z
  ·exact z
  ·exact absurd (uk (P:=R) z) ne
 lia
abbrev Pl:=List Int×Int
def Ed(y x:Rat):List Pl->Rat
 | []=>0
 | p::ps=>E p.1 p.2 x+y*Ed y x ps
theorem Ed.pf(hh:Pf h):∀{ps:List Pl},(∀ p∈ps,Po.Fm p.1 p.2)->Pf fun x=>Ed (h x) x ps
 | [],_=>Pf.const 0
 | p::ps,f=>(Pf.of (f p aG)).add (hh.mul (Ed.pf hh fun q hq=>f q (aA _ hq)))
theorem xA(B:Int)(x:Rat):E [] B x=0:=by
 show (0:Rat) / _=0;grind
theorem Ed.uniq{U:Int}{s:Nat}(fG:Po.Fm G U)(lG:G.length=s+1):∀{ps qs:List Pl},ps.length=qs.length->(∀ p∈ps,Po.Fm p.1 p.2/\p.1.length<=s)->(∀ p∈qs,Po.Fm p.1 p.2/\p.1.length<=s)->(∀ x,Ed (E G U x) x ps=Ed (E G U x) x qs)->ps=qs
 | [],[],_,_,_,_=>rfl
 | p::ps,q::qs,l,hp,hq,h=>by
  have hp':∀ r∈ps,Po.Fm r.1 r.2/\r.1.length<=s:=fun r hr=>hp r (aA _ hr);have hq':∀ r∈qs,Po.Fm r.1 r.2/\r.1.length<=s:=fun r hr=>hq r (aA _ hr);obtain⟨fp,lp⟩:=hp p aG;obtain⟨fq,lq⟩:=hq q aG;obtain⟨W,w,fW,eW⟩:=(Ed.pf (Pf.of fG) fun r hr=>(hp' r hr).1).sub (Ed.pf (Pf.of fG) fun r hr=>(hq' r hr).1)
  -- the rests are the same
  obtain⟨D,d,fD,wD⟩:=has (F:=fun k=>q.1.getD k 0*p.2+p.1.getD k 0*(-1)*q.2) (n:=s) (ay fq.pos fp.pos) fun k hk=>by
   have a:p.1.getD k 0=0:=uk (by lia);have b:q.1.getD k 0=0:=uk (by lia);rw[a,b];simp
  have eD:∀ x,E D d x=E q.1 q.2 x-E p.1 p.2 x:=fun x=>by
   have fm:∀ k,(p.1.map fun z=>z*(-1)).getD k 0=p.1.getD k 0*(-1):=fun k=>by
    rw[ae,ae,aM];cases p.1[k]? <;> simp
   have e1:=B6 (P1:=q.1) (P2:=p.1.map fun z=>z*(-1)) (R:=D) (C:=d) fq.pos fp.pos fD.pos (fun k=>by rw[fm];exact wD k) x;have e2:E (p.1.map fun z=>z*(-1)) p.2 x = -E p.1 p.2 x:=by
    have:∀ n,ei (fn (p.1.map fun z=>z*(-1))) x n=ei (fn p.1) x n*((-1:Int):Rat):=fun n=>by
     rw[← v0];congr 1;funext k;exact fm k
    unfold E;rw[this,aa];show _*(-1:Rat) / _=_;grind
   rw[e1,e2];grind
  have lD:D.length<=s:=uU fD (ay fq.pos fp.pos) wD fun k hk=>by
   have a:p.1.getD k 0=0:=uk (by lia);have b:q.1.getD k 0=0:=uk (by lia);rw[a,b];simp
  have key:∀ x,E D d x=E G U x*E W w x:=fun x=>by
   have a:E p.1 p.2 x+E G U x*Ed (E G U x) x ps=E q.1 q.2 x+E G U x*Ed (E G U x) x qs:=h x;rw[eD,eW];grind
  have W0:W=[]:=Classical.byContradiction fun nW=>by
   have:=Od fG fW fD (by intro z;rw[z] at lG;simp at lG) nW key;have:0<W.length:=dr.mpr nW;lia
  have t:∀ x,Ed (E G U x) x ps=Ed (E G U x) x qs:=fun x=>by
   have a:=eW x;rw[W0,xA] at a;grind
  have e:=Ed.uniq fG lG (by simpa using l) hp' hq' t;have c:∀ x,E p.1 p.2 x=E q.1 q.2 x:=fun x=>by
   have a:E p.1 p.2 x+E G U x*Ed (E G U x) x ps=E q.1 q.2 x+E G U x*Ed (E G U x) x qs:=h x;rw[t x] at a;grind
  obtain⟨y1,y2⟩:=uQ fp fq c;rw[e,show p=q from Prod.ext y1 y2]
end Ap
namespace Ca
open Cv
theorem Ku(hk:0<k)(g0:g 0=1)(g0':g' 0=1)(h:∀ j,j<s->pw g k j=pw g' k j):∀ j,j<s->g j=g' j:=by
 have go:∀ n,∀ j,j<n->j<s->g j=g' j:=by
  intro n;induction n with
  | zero=>intro j hj;omega
  | succ n ih =>
   intro j hj js;rcases ar j n with z|z
   ·exact ih j z js
   ·have e:j=n:=by omega
    subst e;cases j with
    | zero=>rw[g0,g0']
    | succ j =>
     have p:=(Cj (g:=g) (g':=g') (s:=j) g0 (fun i hi=>(ih i (by omega) (by omega)).symm) k).2;rw[h (j+1) js] at p;have:(k:Int)*(g' (j+1)-g (j+1))=0:=by omega
     rcases cr.mp this with w|w <;> omega
 exact fun j hj=>go s j hj hj
theorem Cand.uniq(hk:0<k)(hP:P (k*s)≠0)(f:Po.Fm R C)(f':Po.Fm R' C')(l:R.length=s+1)(l':R'.length=s+1)(h:Cand P k s (fun i=>R.getD i 0) C)(h':Cand P k s (fun i=>R'.getD i 0) C'):R=R'/\C=C':=by
 obtain⟨c,g,c0,g0,h1,h2,h3⟩:=h;obtain⟨c',g',c0',g0',h1',h2',h3'⟩:=h';have e:∀ j,j<s->g j*c'^j=g' j*c^j:=by
  refine Ku (g:=fun i=>g i*c'^i) (g':=fun i=>g' i*c^i) hk ?_ ?_ fun j hj=>?_
  ·show g 0*c'^0=1;rw[g0];simp
  ·show g' 0*c^0=1;rw[g0'];simp
  ·rw[Ay,Ay];refine gX hP ?_;have a:=h1 j hj;have b:=h1' j hj
   calc P (k*s)*(pw g k j*c'^j)=(P (k*s)*pw g k j)*c'^j:=by grind
    _=P (k*s-j)*c'^j*c^j:=by rw[← a];grind
    _=(P (k*s)*pw g' k j)*c^j:=by rw[← b]
    _=P (k*s)*(pw g' k j*c^j):=by grind
 refine Po.uniq f f' fun i=>?_;rcases ar s i with z|z
 ·have a:R.getD i 0=0:=uk (by lia);have b:R'.getD i 0=0:=uk (by lia);rw[a,b];simp
 by_cases c1:i=0
 ·subst c1;have h3:R.getD 0 0=0:=h3;have h3':R'.getD 0 0=0:=h3';rw[h3,h3'];simp
 have a:R.getD (s-(s-i)) 0*c^(s-i)=g (s-i)*C:=h2 (s-i) (by lia);have b:R'.getD (s-(s-i)) 0*c'^(s-i)=g' (s-i)*C':=h2' (s-i) (by lia);rw[show s-(s-i)=i by lia] at a b;have x:=e (s-i) (by lia);have p1:c^(s-i)≠0:=cN (ao c0);have p2:c'^(s-i)≠0:=cN (ao c0');refine aK (b8 p1 p2) ?_;generalize c^(s-i)=y at *;generalize c'^(s-i)=y' at *;generalize g (s-i)=u at *;generalize g' (s-i)=u' at *
 calc R.getD i 0*C'*(y*y')=(R.getD i 0*y)*y'*C':=by grind
  _=(u*y')*C*C':=by rw[a];grind
  _=(u'*C')*y*C:=by rw[x];grind
  _=R'.getD i 0*C*(y*y'):=by rw[← b];grind
end Ca
namespace Ap
open L2 Cv Hv Pc Qp
theorem Ed.pad(y x:Rat):∀(ps:List Pl) (n:Nat),Ed y x (ps++Pu n ([],1))=Ed y x ps
 | [],0=>rfl
 | [],n+1=>by
  have:=Ed.pad y x [] n;rw[bM];show E [] 1 x+y*Ed y x (Pu n ([],1))=0;have e:Ed y x (Pu n ([],1))=0:=this;rw[e,xA];grind
 | p::ps,n=>by
  show _+y*Ed y x (ps++Pu n ([],1))=_+y*Ed y x ps;rw[Ed.pad y x ps n]
theorem yQ:Po.Fm ([]:List Int) 1:=⟨by decide,.inl rfl,by decide⟩
theorem Ed.uniq2(fG:Po.Fm G U)(lG:G.length=s+1)(hp:∀ p∈ps,Po.Fm p.1 p.2/\p.1.length<=s)(hq:∀ p∈qs,Po.Fm p.1 p.2/\p.1.length<=s)(h:∀ x,Ed (E G U x) x ps=Ed (E G U x) x qs)(t:Nat):ps.getD t ([],1)=qs.getD t ([],1):=by
 have rep:∀(n:Nat) (p:Pl),p∈Pu n (([],1):Pl)->Po.Fm p.1 p.2/\p.1.length<=s:=fun n p hp=>by
  rw[(List.mem_replicate.mp hp).2];exact⟨yQ,aE _⟩
 have e:=Ed.uniq fG lG (ps:=ps++Pu qs.length ([],1)) (qs:=qs++Pu ps.length ([],1)) (by simp;lia) (fun p h=>by
  rcases bS.mp h with z|z
  ·exact hp p z
  ·exact rep _ p z) (fun p h=>by
  rcases bS.mp h with z|z
  ·exact hq p z
  ·exact rep _ p z) (fun x=>by rw[Ed.pad,Ed.pad,h])
 have g:∀(l:List Pl) (n:Nat),(l++Pu n (([],1):Pl)).getD t ([],1)=l.getD t ([],1):=fun l n=>by
  rw[ae,ae];rcases ar t l.length with z|z
  ·rw[bE z]
  ·rw[bv z,bC z,e7];split <;> rfl
 have:=congrArg (fun l:List Pl=>l.getD t ([],1)) e;rwa [g,g] at this
def Pl'(n:Nat)(f:Rat->Rat):Prop:=∃ R C,Po.Fm R C/\(∀ x,E R C x=f x)/\R.length<=n
theorem Pl'.of(f:Po.Fm P B):Pl' P.length (E P B):=⟨P,B,f,fun _=>rfl,ak _⟩
theorem Pl'.mono(h:Pl' n f)(l:n<=m):Pl' m f:=by
 obtain⟨R,C,a,b,c⟩:=h;exact⟨R,C,a,b,by lia⟩
theorem Pl'.congr(h:Pl' n f)(e:∀ x,f x=g x):Pl' n g:=by
 obtain⟨R,C,a,b,c⟩:=h;exact⟨R,C,a,fun x=>by rw[b,e],c⟩
theorem Pl'.add{n:Nat}(hf:Pl' n f)(hg:Pl' n g):Pl' n fun x=>f x+g x:=by
 obtain⟨P1,B1,f1,e1,l1⟩:=hf;obtain⟨P2,B2,f2,e2,l2⟩:=hg;have z:∀ k,n<=k->P1.getD k 0*B2+P2.getD k 0*B1=0:=fun k hk=>by
  have a:P1.getD k 0=0:=uk (by lia);have b:P2.getD k 0=0:=uk (by lia);rw[a,b];simp
 obtain⟨R,C,fR,w⟩:=has (F:=fun k=>P1.getD k 0*B2+P2.getD k 0*B1) (n:=n) (ay f1.pos f2.pos) z;exact⟨R,C,fR,fun x=>by rw[B6 f1.pos f2.pos fR.pos w,e1,e2],uU fR (ay f1.pos f2.pos) w z⟩
theorem Pl'.mul{n m:Nat}{f g:Rat->Rat}(hf:Pl' n f)(hg:Pl' (m+1) g):Pl' (n+m) fun x=>f x*g x:=by
 obtain⟨P1,B1,f1,e1,l1⟩:=hf;obtain⟨P2,B2,f2,e2,l2⟩:=hg;have z:∀ k,n+m<=k->cv (fn P1) (fn P2) k=0:=fun k hk=>u5 (a:=n) (b:=m+1) (fun j h=>uk (by lia)) (fun j h=>uk (by lia)) (by lia);obtain⟨R,C,fR,w⟩:=has (F:=cv (fn P1) (fn P2)) (n:=n+m) (ay f1.pos f2.pos) z;exact⟨R,C,fR,fun x=>by rw[yr f1.pos f2.pos fR w,e1,e2],uU fR (ay f1.pos f2.pos) w z⟩
theorem Pl'.const(r:Rat):Pl' 1 fun _=>r:=by
 obtain⟨t,u,hu,rfl⟩:=u6 r;have z:∀ k,1<=k->([t]:List Int).getD k 0=0:=fun k hk=>by
  obtain⟨j,rfl⟩:∃ j,k=j+1:=⟨k-1,by lia⟩;simp
 obtain⟨R,C,fR,w⟩:=has (F:=fun k=>[t].getD k 0) (n:=1) hu z;exact⟨R,C,fR,fun x=>yt fR hu w x,uU fR hu w z⟩
theorem Pl'.smul(r:Rat)(hf:Pl' n f):Pl' n fun x=>r*f x:=(hf.mul (m:=0) (Pl'.const r)).congr fun x=>Rat.mul_comm _ _
theorem Pl'.x:Pl' 2 fun x=>x:=⟨X,1,⟨by decide,.inr (by decide),by decide⟩,Hw,ak _⟩
theorem Pl'.pow(hf:Pl' (s+1) f):∀ k:Nat,Pl' (s*k+1) fun x=>f x^k
 | 0=>(Pl'.const 1).congr fun x=>by rw[bN]
 | k+1=>((Pl'.pow hf k).mul hf).congr (fun x=>by rw[bc]) |>.mono (by rw[bF];lia)
theorem Pl'.comp(hg:Pl' (s+1) g):Pl' (s*(P.length-1)+1) fun x=>E P B (g x):=by
 have go:∀ n,Pl' (s*(n-1)+1) fun x=>er (q P B) (g x) n:=by
  intro n;induction n with
  | zero=>exact (Pl'.const 0).mono (by lia)
  | succ n ih =>
   have a:Pl' (s*n+1) fun x=>q P B n*g x^n:=(hg.pow n).smul _;exact ((ih.mono (ix (ai _ (by lia)) 1)).add a).congr fun x=>rfl
 refine (go P.length).congr fun x=>?_;rw[Lc (fun _=>rfl)];rfl
theorem Ks(fA:Po.Fm A a)(fD:Po.Fm D d)(h:∀ x,E A a x=E D d x)(i:Nat):q A a i=q D d i:=by
 obtain⟨rfl,rfl⟩:=uQ fA fD h;rfl
theorem vn{A H D:List Int}{a c d:Int}{u:Rat}(fA:Po.Fm A a)(fH:Po.Fm H c)(fD:Po.Fm D d)(h:∀ x,E A a x=u*E H c x+E D d x)(i:Nat):q A a i=u*q H c i+q D d i:=by
 obtain⟨t,v,hv,rfl⟩:=u6 u;have p1:=ay fH.pos hv;have z1:∀ k,H.length<=k->H.getD k 0*t=0:=fun k hk=>by
  have:H.getD k 0=0:=uk hk;rw[this];simp
 obtain⟨S,e,fS,w⟩:=has (F:=fun k=>H.getD k 0*t) (n:=H.length) p1 z1;have eS:∀ x,E S e x=(t:Rat) / (v:Rat)*E H c x:=fun x=>by
  rw[xU (N:=S.length+H.length) fS.pos (ao p1) w (by lia),v0,zu (P:=H) (N:=S.length+H.length) (by lia),az];have n1:=uh fH.pos;have n2:=uh hv;show ei (fn H) x _*_ / _=_;generalize ei (fn H) x (S.length+H.length)=y;grind
 have qS:q S e i=(t:Rat) / (v:Rat)*q H c i:=by
  rw[Av (f:=fun k=>H.getD k 0*t) fS.pos (ao p1) w i,az,az];have n1:=uh fH.pos;have n2:=uh hv;unfold q;grind
 have p2:=ay fS.pos fD.pos;obtain⟨V,b,fV,w2⟩:=has (F:=fun k=>S.getD k 0*d+D.getD k 0*e) (n:=S.length+D.length) p2 fun k hk=>by
  have x:S.getD k 0=0:=uk (by lia);have y:D.getD k 0=0:=uk (by lia);rw[x,y];simp
 rw[Ks fA fV (fun x=>by rw[h,B6 fS.pos fD.pos fV.pos w2,eS]) i,Mx fS.pos fD.pos fV.pos w2,qS]
end Ap
namespace Ca
open L2 Cv Hv Pc Qp
theorem Cl{G:List Int}{U:Int}(fG:Po.Fm G U)(k:Nat):∃ H C,Po.Fm H C/\(∀ x,E H C x=E G U x^k)/\∀ i,q H C i=((pw (fn G) k i:Int):Rat) / ((U^k:Int):Rat):=by
 induction k with
 | zero =>
  refine⟨[1],1,⟨by decide,.inr (by decide),by decide⟩,fun x=>?_,fun i=>?_⟩
  ·rw[bN];unfold E;show (0+((1:Int):Rat)*x^0) / ((1:Int):Rat)=1;rw[bN];show (0+(1:Rat)*1) / 1=1;grind
  ·rw[aT];unfold q;congr 1;cases i with
   | zero=>rfl
   | succ i=>rfl
 | succ k ih =>
  obtain⟨H,C,fH,eH,qH⟩:=ih;have p:=ay fH.pos fG.pos;obtain⟨S,D,fS,w⟩:=Ap.has (F:=cv (fn H) (fn G)) (n:=H.length+G.length) p fun j hj=>u5 (a:=H.length) (b:=G.length) (fun i h=>uk h) (fun i h=>uk h) (by lia);refine⟨S,D,fS,fun x=>by rw[yr fH.pos fG.pos fS w,eH,bc],fun i=>?_⟩;have pU:(0:Int)<U^k:=bX fG.pos;have hk:∀ j,fn H j*U^k=pw (fn G) k j*C:=fun j=>(uD (ao fH.pos) (ao pU)).mp (qH j);have e:cv (fn H) (fn G) i*U^k=pw (fn G) (k+1) i*C:=by
   show _=cv (pw (fn G) k) (fn G) i*C;rw[← v3,← v3];exact uE hk fun _=>rfl
  rw[Av (f:=fun k=>cv (fn H) (fn G) k) fS.pos (ao p) w i];refine (uD (ao p) (ao (bX fG.pos))).mpr ?_;rw[aJ]
  calc cv (fn H) (fn G) i*(U^k*U)=(cv (fn H) (fn G) i*U^k)*U:=by grind
   _=pw (fn G) (k+1) i*(C*U):=by rw[e];grind
def Sem(P:List Int)(B:Int)(k s:Nat)(G:List Int)(U:Int):Prop:=∃ r:Rat->Rat,Ap.Pl' (k*s-s+1) r/\∀ x,E P B x=q P B (k*s)*E G U x^k+r x
theorem Jg(h:∀ i,i<s->G (s-i)*c^i=g i*U)(hj:j<s):pw (rv s G) k j*c^j=pw g k j*U^k:=by
 rw[← Ay,← FM];refine Jl (n:=j) (fun i hi=>?_) k j (ak _);show rv s G i*c^i=g i*U;rw[← h i (by lia)];unfold rv;rw[QI (by lia)]
theorem Cand.sem(fP:Po.Fm P B)(lP:P.length=k*s+1)(fG:Po.Fm G U)(lG:G.length=s+1)(k1:1<=k)(s1:1<=s)(h:Cand (fun i=>P.getD i 0) k s (fun i=>G.getD i 0) U):Sem P B k s G U:=by
 obtain⟨c,g,c0,g0,h1,h2,h3⟩:=h;obtain⟨H,C,fH,eH,qH⟩:=Cl fG k;have ks:s<=k*s:=aQ _ k1;obtain⟨R,D,fR,eR⟩:=(Ap.Pf.of fP).add ((Ap.Pf.const (-q P B (k*s))).mul (Ap.Pf.of fH));have eR:∀ x,E R D x=E P B x + -q P B (k*s)*E H C x:=eR;have qR:∀ i,q R D i = -q P B (k*s)*q H C i+q P B i:=Ap.vn fR fH fP fun x=>by rw[eR];grind
 have z:∀ i,k*s-s+1<=i->q R D i=0:=fun i hi=>by
  rw[qR,qH];rcases ar (k*s) i with w|w
  ·rw[Ax (fun j hj=>uk (by lia)) k i w,uK (P:=P) (k:=i) (by lia)];show _*((0:Rat) / _)+0=0;grind
  ·obtain⟨j,hj,rfl⟩:∃ j,j<s/\i=k*s-j:=⟨k*s-i,by lia,by lia⟩;rw[FN (fun j hj=>uk (by lia)) k j (by lia)];have a:=Jg (G:=fn G) (k:=k) h2 hj;have b:P.getD (k*s-j) 0*c^j=P.getD (k*s) 0*pw g k j:=h1 j hj;have cj:c^j≠0:=cN (ao c0);have e:P.getD (k*s-j) 0*U^k=P.getD (k*s) 0*pw (rv s (fn G)) k j:=by
    refine aK cj ?_
    calc P.getD (k*s-j) 0*U^k*c^j=(P.getD (k*s-j) 0*c^j)*U^k:=by grind
     _=P.getD (k*s) 0*(pw g k j*U^k):=by rw[b];grind
     _=P.getD (k*s) 0*pw (rv s (fn G)) k j*c^j:=by rw[← a];grind
   have e2:=congrArg (fun z:Int=>(z:Rat)) e;simp only[az] at e2;have n1:=uh fP.pos;have n2:=uh (show 0<U^k from bX fG.pos);unfold q;generalize ((pw (rv s (fn G)) k j:Int):Rat)=y at *;generalize ((P.getD (k*s) 0:Int):Rat)=p at *;generalize ((P.getD (k*s-j) 0:Int):Rat)=p' at *;generalize ((U^k:Int):Rat)=u at *;have:p'=p*y / u:=by grind
   rw[this];grind
 refine⟨E R D,⟨R,D,fR,fun _=>rfl,?_⟩,fun x=>by rw[eR,eH];grind⟩;rcases ar (k*s-s+1) R.length with w|w
 ·exact absurd (z (R.length-1) (by lia)) (uS fR (by intro e;rw[e] at w;simp at w))
 ·exact w
theorem Sem.cand(fP:Po.Fm P B)(fG:Po.Fm G U)(lG:G.length=s+1)(k1:1<=k)(s1:1<=s)(mon:G.getD s 0=U)(G0:G.getD 0 0=0)(h:Sem P B k s G U):Cand (fun i=>P.getD i 0) k s (fun i=>G.getD i 0) U:=by
 obtain⟨r,⟨R,D,fR,eR,lR⟩,e⟩:=h;obtain⟨H,C,fH,eH,qH⟩:=Cl fG k;have ks:s<=k*s:=aQ _ k1;have qq:=Ap.vn (u:=q P B (k*s)) fP fH fR fun x=>by rw[e,eH,eR]
 have hg:∀ i,i<s->fn G (s-i)*U^i=(if i=0 then 1 else G.getD (s-i) 0*U^(i-1))*U:=fun i hi=>by
  cases i with
  | zero =>
   rw[QI rfl,bP,aT];show G.getD s 0*1=1*U;rw[mon];lia
  | succ i =>
   rw[QJ (by lia),bJ,aJ,cb];rfl
 refine⟨U,fun i=>if i=0 then 1 else G.getD (s-i) 0*U^(i-1),fG.pos,rfl,fun j hj=>?_,hg,G0⟩;have a:=Jg (k:=k) hg hj;have b:=qq (k*s-j);rw[qH,FN (fun j hj=>uk (by lia)) k j (by lia),uK (P:=R) (by lia)] at b;have pU:(0:Int)<U^k:=bX fG.pos;have e2:P.getD (k*s-j) 0*U^k=P.getD (k*s) 0*pw (rv s (fn G)) k j:=by
  have n1:=uh fP.pos;have n2:=uh pU;unfold q at b;have:((P.getD (k*s-j) 0*U^k:Int):Rat)=((P.getD (k*s) 0*pw (rv s (fn G)) k j:Int):Rat):=by
   rw[az,az];generalize ((pw (rv s (fn G)) k j:Int):Rat)=y at *;generalize ((P.getD (k*s) 0:Int):Rat)=p at *;generalize ((P.getD (k*s-j) 0:Int):Rat)=p' at *;generalize ((U^k:Int):Rat)=u at *;have:p'=p*(y / u):=by grind
   rw[this];grind
  exact dX.mp this
 refine aK (ao pU) ?_
 calc P.getD (k*s-j) 0*U^j*U^k=(P.getD (k*s-j) 0*U^k)*U^j:=by grind
  _=P.getD (k*s) 0*(pw (rv s (fn G)) k j*U^j):=by rw[e2];grind
  _=_:=by rw[a];grind
end Ca
namespace Ap
open L2 Cv Hv Pc Qp
theorem Gx{p:Pl}(f:Po.Fm p.1 p.2)(b:Rat)(a0:a≠0):∃ r:Pl,Po.Fm r.1 r.2/\(∀ x,E r.1 r.2 x=a*E p.1 p.2 x+b)/\(2<=r.1.length↔2<=p.1.length)/\r.1.length<=max 1 p.1.length:=by
 have l0:Pl' (max 1 p.1.length) fun x=>a*E p.1 p.2 x+b:=(((Pl'.of f).mono (Nat.le_max_right _ _)).smul a).add ((Pl'.const b).mono (Nat.le_max_left _ _));obtain⟨R,C,fR,eR,lR⟩:=l0;refine⟨(R,C),fR,eR,⟨fun h=>?_,fun h=>?_⟩,lR⟩
 ·have h:2<=R.length:=h;lia
 ·show 2<=R.length;obtain⟨S,D,fS,eS,lS⟩:=Pl'.const b;have qq:=vn (u:=a) fR f fS (fun x=>by rw[eR,eS]) (p.1.length-1);rw[uK (P:=S) (k:=p.1.length-1) (by lia)] at qq;have ql:=uS f (by intro e;rw[e] at h;simp at h);rcases ar (p.1.length-1) R.length with w|w
  ·lia
  ·rw[uK (P:=R) w] at qq;have:a*q p.1 p.2 (p.1.length-1)=0:=by grind
   rcases cq.mp this with z|z
   ·exact absurd z a0
   ·exact absurd z ql
theorem Ed.same:∀{ps qs:List Pl},(∀ t,ps.getD t ([],1)=qs.getD t ([],1))->Ed y x ps=Ed y x qs
 | [],[],_=>rfl
 | [],q::qs,h=>by
  have a:=h 0;have b:=Ed.same (ps:=[]) (qs:=qs) (y:=y) (x:=x) fun t=>by have:=h (t+1);rw[du] at this;exact this
  have a:(([],1):Pl)=q:=a;show 0=E q.1 q.2 x+y*Ed y x qs;rw[← a,← b];show (0:Rat)=E [] 1 x+y*0;rw[xA];grind
 | p::ps,[],h=>by
  have a:=h 0;have b:=Ed.same (ps:=ps) (qs:=[]) (y:=y) (x:=x) fun t=>by have:=h (t+1);rw[du] at this;exact this
  have a:p=(([],1):Pl):=a;show E p.1 p.2 x+y*Ed y x ps=0;rw[a,b];show E [] 1 x+y*0=(0:Rat);rw[xA];grind
 | p::ps,q::qs,h=>by
  have a:p=q:=h 0;have b:=Ed.same (ps:=ps) (qs:=qs) (y:=y) (x:=x) fun t=>by have:=h (t+1);rw[du,du] at this;exact this
  show E p.1 p.2 x+y*Ed y x ps=E q.1 q.2 x+y*Ed y x qs;rw[a,b]
theorem Iv(f:Po.Fm R C)(l:R.length<=m+1)(z:q R C m=0):R.length<=m:=by
 rcases ar m R.length with y|y
 ·have:=uS f (by rintro rfl;simp at y);rw[show R.length-1=m by lia] at this;exact absurd z this
 ·exact y
theorem Di(n:Nat):Pl' n fun _=>0:=⟨[],1,yQ,fun x=>xA 1 x,aE _⟩
theorem Gq(r:Rat)(k:Nat):∃ R C,Po.Fm R C/\∀ i,q R C i=if i=k then r else 0:=by
 obtain⟨t,u,hu,rfl⟩:=u6 r;obtain⟨R,C,f,h⟩:=has (F:=fun i=>if i=k then t else 0) (n:=k+1) (c:=u) hu (fun i hi=>QJ (by lia));refine⟨R,C,f,fun i=>?_⟩;rw[Av f.pos (ao hu) h i];by_cases y:i=k
 ·rw[QI y,QI y]
 ·rw[QJ y,QJ y];show (0:Rat) / _=0;grind
theorem JG(f:Nat->Rat):∀ n:Nat,∃ R C,Po.Fm R C/\∀ i,q R C i=if i<n then f i else 0
 | 0=>⟨[],1,yQ,fun i=>by rw[uK (aE _),QJ (bZ _)]⟩
 | n+1=>by
  obtain⟨R,C,fR,h⟩:=JG f n;obtain⟨M,c,fM,g⟩:=Gq (f n) n;obtain⟨S,d,fS,eS⟩:=(Pf.of fR).add (Pf.of fM);refine⟨S,d,fS,fun i=>?_⟩;rw[vn (u:=1) fS fR fM (fun x=>by rw[eS x];grind) i,h,g];by_cases y:i<n
  ·rw[QI y,QJ (by lia),QI (by lia)];grind
  ·rw[QJ y];by_cases z:i=n
   ·rw[QI z,QI (by lia),z];grind
   ·rw[QJ z,QJ (by lia)];grind
end Ap
namespace Dt
variable{a b:Rw}{P:List Rw}{cs:List Nat}
def rs:Nat->(Nat->Rat)->Rat
 | 0,_=>0
 | n+1,f=>rs n f+f n
variable{R A Q:List Rb}{col:Nat}
end Dt
namespace Dp
open PySem L2
def pD(P:List Int)(B:Int):D:=.tup [.tup (P.map .int),.int B]
def fD(t b:Int):D:=.tup [.int t,.int b]
theorem vK:2<=Pv:=by rw[P4];decide
theorem zn:1<=Pv:=by rw[P4];decide
theorem vO(h:n<=16777216):n<=Pv:=by rw[P4];exact h
theorem Pk{c:Bool}{A B:Prop}(h1:c=true->A)(h2:c=false->B):if c=true then A else B:=by
 cases c
 ·exact h2 rfl
 ·exact h1 rfl
theorem yo{p:Prop}[Decidable p]{A B:Prop}(h1:p->A)(h2:¬ p->B):if decide p=true then A else B:=by
 by_cases c:p
 ·rw[QI (decide_eq_true c)];exact h1 c
 ·rw[QJ (by simpa using c)];exact h2 c
theorem Nz{p:Prop}[Decidable p]{A B:Prop}(h1:¬ p->A)(h2:p->B):if (!decide p)=true then A else B:=by
 by_cases c:p
 ·rw[QJ (by simpa using c)];exact h2 c
 ·rw[QI (by simpa using c)];exact h1 c
theorem uM{α:Type}{fs:List α}{i:Nat}{f d:α}(h:fs[i]? = some f):fs.getD i d=f:=by
 rw[ae,h];rfl
theorem uj{α:Type}{fs:List α}{i:Nat}{d:α}(h:fs.length<=i):fs.getD i d=d:=by
 rw[ae,bC h];rfl
theorem yV{ts:List Int}{i:Nat}{x:D}(h:(ts.map D.int)[i]? = some x):i<ts.length/\x = .int (ts.getD i 0):=by
 rw[aM] at h;obtain⟨z,hz,rfl⟩:=ab.mp h;rw[uM hz];exact⟨(aj.mp hz).1,rfl⟩
theorem uP{ts:List Int}(h:i<ts.length):(ts.map D.int)[i]? = some (.int (ts.getD i 0)):=by
 rw[aM,ae,au h];rfl
theorem vh{ts:List Int}(h:i<ts.length):ts.take (i+1)=ts.take i++[ts.getD i 0]:=by
 rw[List.take_succ_eq_append_getElem h,ae,au h];rfl
theorem D6(b:Nat)(ts:List Int)(t:Int):Po.gl b (ts++[t])=Qo (Po.gl b ts) t.natAbs:=by
 unfold Po.gl;rw[iJ];rfl
theorem IV{α:Type}(xs:List α)(x:α):Aj (xs++[x]) (-1)=some x:=by
 unfold Aj CF;rw[QJ (by lia),QI (by rw[aB];simp;lia)];show (xs++[x])[(-1+((xs++[x]).length:Int)).toNat]? = _;rw[aB,bv (by simp;lia)];have:(-1+((xs.length+[x].length:Nat):Int)).toNat-xs.length=0:=by simp;lia
 rw[this];rfl
theorem vg{l:List D}{n:Nat}{d:D}(h:l[n]? = some d)(q:Q d):itD l (n:Int) Q:=by
 unfold itD;rw[we h];exact q
theorem vF(h:Aj l i=some d)(q:Q d):itD l i Q:=by
 unfold itD;rw[h];exact q
def mI{α:Type}(F:α->Int)(ts:List α):Nat->List D->Prop:=fun i ys=>ys=((ts.take i).map F).map D.int
theorem mI.nil{α:Type}{F:α->Int}{ts:List α}:mI F ts 0 []:=rfl
theorem mI.snoc{α:Type}{F:α->Int}{ts:List α}{i:Nat}{ys:List D}{t:α}{z:Int}(h:mI F ts i ys)(ht:ts[i]? = some t)(hz:z=F t):mI F ts (i+1) (ys++[.int z]):=by
 unfold mI at h ⊢;rw[h,hz,ga,ht,bw,bw];rfl
theorem mI.all{α:Type}{F:α->Int}{ts:List α}{n:Nat}{ys:List D}(h:mI F ts n ys)(hn:n=ts.length):ys=(ts.map F).map D.int:=by
 unfold mI at h;rw[h,hn,b9]
theorem vH{ts:List Int}{i:Nat}{x:D}(h:(ts.map D.int)[i]? = some x):∃ z,ts[i]? = some z/\x = .int z:=by
 rw[aM] at h;obtain⟨z,hz,rfl⟩:=ab.mp h;exact⟨z,hz,rfl⟩
def pT:TSd:=(dSq (jB (i5 (i6 .NotEq (iS 1) (dC (.int 0))))
 (mZ [] 0 1 (iS 1) (iV .Mod (iS 0) (iS 1))))
 (iZ [] (dB bAbs bAbs.mono (iR (iS 0) iT))))
def jH:SpB:=.of 2 (α:=Int×Int) (fun x ds=>ds=[.int x.1,.int x.2]) (fun x d=>d = .int (Fr.cp x.1 x.2))
theorem vJ(x:Int):(if x<0 then -x else x)=((x.natAbs:Nat):Int):=by split <;> lia
theorem m4:Does 2 pT jH:=by
 rintro ds Q hn ⟨⟨a,b⟩,rfl,q⟩;refine⟨fun s=>∃ a' b':Int,s=[.val (.int a'),.val (.int b')]/\PV a' b'=PV a b,fun s=>match s with|[_,.val (.int b')]=>b'.natAbs|_=>0,⟨a,b,rfl,rfl⟩,?_⟩;rintro _ ⟨a',b',rfl,hg⟩;refine Nz (p:=b'=0) (fun c=>?_) (fun c=>?_)
 ·exact⟨c,⟨b',a'.fmod b',rfl,by rw[Fr.GI];exact hg⟩,Fr.D8 a' b' c⟩
 ·subst c;refine q _ ?_;show D.int (if a'<0 then -a' else a') = .int (Fr.cp a b);unfold Fr.cp;rw[vJ,← hg,Int.gcd_zero_right]
def oB:TSd:=(dSq (mZ [] 0 1 (dB bAbs bAbs.mono (iR (iS 0) iT)) (dB bAbs bAbs.mono (iR (iS 1) iT)))
 (dSq (jB (kA (iS 1))
 (mZ [] 0 1 (iS 1) (iV .Mod (iS 0) (iS 1))))
 (iZ [] (iS 0))))
def jj:SpB:=.of 2 (α:=Int×Int) (fun x ds=>ds=[.int x.1,.int x.2]) (fun x d=>d = .int (Fr.cp x.1 x.2))
theorem mC:Does 2 oB jj:=by
 rintro ds Q hn ⟨⟨a,b⟩,rfl,q⟩;show (dSq (jB _ _) _).run _ [.val (.int (if a<0 then -a else a)),.val (.int (if b<0 then -b else b))];rw[vJ,vJ];refine⟨fun s=>∃ a' b':Nat,s=[.val (.int a'),.val (.int b')]/\Qo a' b'=PV a b,fun s=>match s with|[_,.val (.int b')]=>b'.natAbs|_=>0,⟨a.natAbs,b.natAbs,rfl,rfl⟩,?_⟩;rintro _ ⟨a',b',rfl,hg⟩;refine Pk (c:=((b':Int) != 0)) (fun c=>?_) (fun c=>?_)
 ·have c':b'≠0:=by
   intro z;subst z;simp at c
  refine⟨by lia,⟨b',a'%b',?_,by rw[ic,← Nat.gcd_rec,ic];exact hg⟩,?_⟩
  ·show [SD.val (.int b'),.val (.int ((a':Int).fmod b'))]=_;rw[cC _ (by lia)];rfl
  ·show ((a':Int).fmod b').natAbs<(b':Int).natAbs;exact Fr.D8 _ _ (by lia)
 ·have c':b'=0:=by
   have:((b':Int)=0):=by simpa using c
   lia
  subst c';refine q _ ?_;show D.int a' = .int (Fr.cp a b);unfold Fr.cp;rw[← hg,Nat.gcd_zero_right]
def nV:TSd:=(dSq (iY [] (gNm 2) (iU jH (iR (iS 0) (iR (iS 1) iT))))
 (dSq (dIf [] (i5 (i6 .Lt (iS 1) (dC (.int 0))))
 (iY [] (gNm 2) (iV .Sub (dC (.int 0)) (iS 2)))
 i8)
 (iZ [] (jg (iR (iV .FloorDiv (iS 0) (iS 2)) (iR (iV .FloorDiv (iS 1) (iS 2)) iT))))))
def jo:SpB:=.of 2 (α:=Int×Int) (fun x ds=>ds=[.int x.1,.int x.2]/\x.2≠0/\Lt2 9000000 x.2) (fun x d=>d=fD (Fr.top x.1 x.2) (Fr.bot x.1 x.2))
theorem kZ:Does 3 nV jo:=by
 rintro ds Q hn ⟨⟨a,b⟩,⟨rfl,h0,hl⟩,q⟩;refine⟨rfl,(a,b),rfl,?_⟩;rintro _ rfl;have fin:∀ p:Int,p=Fr.part a b->v9 a p/\v9 b p/\2<=Pv/\Q (.tup [.int (a.fdiv p),.int (b.fdiv p)]):=by
  rintro p rfl;have c:∀ x,v9 x (Fr.part a b):=fun x=>⟨Fr.DI h0,9000000,hl.le (Fr.DJ h0),by decide⟩;exact⟨c _,c _,vK,q _ rfl⟩
 refine yo (p:=b<0) (fun c=>?_) (fun c=>?_)
 ·exact fin _ (by unfold Fr.part;rw[QI c];simp)
 ·exact fin _ (by unfold Fr.part;rw[QJ c])
theorem BQ{ts:List Int}(h:k<ts.length):(((ts.take (k+1)).map D.int)).dropLast=(ts.take k).map D.int:=by
 rw[vh h,bw];exact List.dropLast_concat
theorem dSq.cut(R:SS->Prop)(h1:t.run (E.to R) ss)(h2:∀ s,R s->u.run E s):(dSq t u).run E ss:=t.mono (E:=E.to R) (E':=E.to (u.run E)) ⟨h2,fun _ z=>z,fun _ z=>z,fun _ z=>z⟩ h1
def pV:TSd:=(iZ [0] (jg (iR (dB bTuple bTuple.mono (iR (i7 (jd (iS 0)) [3] (gNm 3) jt (iV .FloorDiv (iS 3) (iS 2))) iT)) (iR (iV .FloorDiv (iS 1) (iS 2)) iT))))
def pW:TSd:=dSq (jq [0] (jd (iS 0)) (gNm 3)
 (iY [] (gNm 2) (iU jH (iR (iS 2) (iR (iS 3) iT)))))
 pV
def pX:TSd:=dSq (iY [] (gNm 2) (iS 1))
 pW
def lh:TSd:=dSq (jB (kG (i5 (i6 .Gt (mS 0) (dC (.int 0)))) (i5 (i6 .Eq (pR 0 (mw (dC (.int 1)))) (dC (.int 0)))))
 (s9 0))
 pX
def rH:TSd:=dSq (kY [0] 0 (jV (iS 0)))
 lh
def i9:SpB:=.of 2 (α:=List Int×Int) (fun x ds=>(ds=[.lst (x.1.map .int),.int x.2]\/ds=[.tup (x.1.map .int),.int x.2])/\0<x.2/\Lt2 9000000 x.2/\x.1.length<=1000)
 (fun x d=>∃ P B,d=pD P B/\Po.Fm P B/\(∀ k,P.getD k 0*x.2=x.1.getD k 0*B)/\P.length<=x.1.length)
theorem oC:Does 4 rH i9:=by
 rintro ds Q hn ⟨⟨ts,b⟩,⟨hd,hb,hl,hz⟩,q⟩;dsimp only at hd hb hl hz q;have sl:(1000:Nat)<=Pv:=by rw[P4];decide
 suffices h:lh.run (ux Q) [.own (ts.map .int),.val (.int b),.no,.no] by
  rcases hd with rfl|rfl
  ·exact h
  ·exact h
 refine dSq.cut (fun s=>∃ m:Nat,s=[.own ((ts.take m).map .int),.val (.int b),.no,.no]/\m<=ts.length/\(∀ j,m<=j->ts.getD j 0=0)/\(m=0\/ts.getD (m-1) 0≠0)) ?_ ?_
 rotate_left
 ·rintro _ ⟨m,rfl,hm,h0,hlast⟩;obtain⟨fm,wr⟩:=Po.form hb hm h0 hlast;have bn:((b.natAbs:Nat):Int)=b:=by lia
  refine⟨fun i s=>∃ o,s=[.val (.lst ((ts.take m).map .int)),.val (.int b),.val (.int ((Po.gl b.natAbs ((ts.take m).take i):Nat):Int)),o],⟨.no,?_⟩,?_,?_⟩
  ·show [SD.val _,.val (.int b),.val (.int b),.no]=[SD.val _,.val (.int b),.val (.int ((b.natAbs:Nat):Int)),.no];rw[bn]
  ·rintro i d s hd ⟨o,rfl⟩;obtain⟨hi,rfl⟩:=yV hd;refine⟨rfl,(_,_),rfl,?_⟩;rintro _ rfl;refine⟨.val (.int ((ts.take m).getD i 0)),?_⟩;rw[vh hi,D6];rfl
  ·rintro s ⟨o,rfl⟩;rw[aa,b9];have g0:0<Po.gl b.natAbs (ts.take m):=Po.CJ (by lia) _;have gle:Po.gl b.natAbs (ts.take m)<=b.natAbs:=cU (by lia) (Po.yY _ _).1;generalize Po.gl b.natAbs (ts.take m)=g at *;have cd:∀ x:Int,v9 x (g:Int):=fun x=>⟨by lia,9000000,hl.le (by rw[br];exact gle),by decide⟩;refine⟨by rw[aa,aU];lia,mI (fun z=>z.fdiv (g:Int)) (ts.take m),mI.nil,fun i d ys hd _ hy=>?_,fun ys _ hy=>?_⟩
   ·obtain⟨z,hz,rfl⟩:=vH hd;exact⟨cd _,hy.snoc hz rfl⟩
   ·cases hy.all (by rw[aa]);exact⟨cd _,vK,q _ ⟨_,_,rfl,fm,wr,by rw[aa,aU];lia⟩⟩
 ·refine⟨fun s=>∃ m:Nat,s=[.own ((ts.take m).map .int),.val (.int b),.no,.no]/\m<=ts.length/\∀ j,m<=j->ts.getD j 0=0,fun s=>match s with | .own l::_=>l.length|_=>0,⟨ts.length,by rw[b9],ak _,fun j hj=>uj hj⟩,?_⟩;rintro _ ⟨m,rfl,hm,h0⟩;have lm:((ts.take m).map D.int).length=m:=by rw[aa,aU];lia
  refine yo (p:=(0:Int)<(((ts.take m).map D.int).length:Nat)) (fun c=>?_) (fun c=>?_)
  ·rw[lm] at c;obtain⟨k,rfl⟩:∃ k,m=k+1:=⟨m-1,by lia⟩;have hk:k<ts.length:=by lia
   have la:Aj ((ts.take (k+1)).map D.int) (-1)=some (.int (ts.getD k 0)):=by
    rw[vh hk,bw];exact IV _ _
   refine vF la (yo (p:=ts.getD k 0=0) (fun z=>?_) (fun z=>?_))
   ·refine⟨fun e=>?_,⟨k,?_,by lia,fun j hj=>?_⟩,?_⟩
    ·rw[e] at lm;cases lm
    ·show [SD.own _,_,_,_]=_;rw[BQ hk]
    ·rcases cy hj with w|w
     ·rw[← w];exact z
     ·exact h0 j w
    ·show (((ts.take (k+1)).map D.int)).dropLast.length<((ts.take (k+1)).map D.int).length;rw[BQ hk,lm,aa,aU];lia
   ·exact⟨k+1,rfl,hm,h0,.inr z⟩
  ·rw[lm] at c;exact⟨m,rfl,hm,h0,.inl (by lia)⟩
theorem wY{ts:List Int}(h:i<ts.length):(ts.set i z).getD k 0=if k=i then z else ts.getD k 0:=by
 rw[ae,ae,aP];by_cases e:i=k
 ·subst e;rw[QI rfl,QI h,QI rfl];rfl
 ·rw[QJ e,QJ (Ne.symm e)]
theorem map_set{ts:List Int}:(ts.map D.int).set i (.int z)=(ts.set i z).map D.int:=by
 rw[List.map_set]
theorem zA{ts:List Int}{i k:Nat}(h:i<ts.length):(ts.take (i+1)).getD k 0=(ts.take i).getD k 0+(if k=i then ts.getD i 0 else 0):=by
 rw[vh h];by_cases e:k=i
 ·subst e;rw[QI rfl,uj (fs:=ts.take k) (by rw[aU];lia)];have:(ts.take k++[ts.getD k 0]).getD k 0=ts.getD k 0:=uM (by rw[bv (by rw[aU];lia),aU,Nat.min_eq_left (by lia),cI];rfl);rw[this,cO]
 ·rw[QJ e,cF,← vh h,ae,ae,fQ,fQ];by_cases c:k<i
  ·rw[QI c,QI (by lia)]
  ·rw[QJ c,QJ (by lia)]
theorem xg(n:Nat):(Pu n [D.int 0]).flatten=(Pu n (0:Int)).map D.int:=by
 induction n with
 | zero=>rfl
 | succ n ih=>rw[bM,cK,ih,bM];rfl
theorem yL(n k:Nat):(Pu n (0:Int)).getD k 0=0:=by
 rw[ae,e7];split <;> rfl
theorem uW{ts:List Int}(h:(vc (ts.map D.int))[i]? = some d):i<ts.length/\d = .tup [.int (i:Nat),.int (ts.getD i 0)]:=by
 obtain⟨x,hx,rfl⟩:=Ac h;obtain⟨hi,rfl⟩:=yV hx;exact⟨hi,rfl⟩
theorem A9(h:n<l.length)(q:Q n):atD l (.int (n:Nat)) Q:=by
 unfold atD;dsimp only;have:CF l.length (n:Int)=some n:=by
  unfold CF;rw[QI (by lia),QI (by lia)];rfl
 rw[this];exact q
def qT:TSd:=(iZ [3] (iU i9 (iR (iS 3) (iR (iV .Mult (dIx (iS 0) (dC (.int 1))) (dIx (iS 1) (dC (.int 1)))) iT))))
def qU:TSd:=dSq (jq [] (jv (dIx (iS 1) (dC (.int 0)))) (gTp [4,5])
 (mT [] 3 (iS 4) (iV .Add (pR 3 (iS 4)) (iV .Mult (iS 5) (dIx (iS 0) (dC (.int 1)))))))
 qT
def ka:TSd:=dSq (jq [] (jv (dIx (iS 0) (dC (.int 0)))) (gTp [4,5])
 (mT [] 3 (iS 4) (iV .Add (pR 3 (iS 4)) (iV .Mult (iS 5) (dIx (iS 1) (dC (.int 1)))))))
 qU
def kb:TSd:=dSq (kY [] 3 (iV .Mult (je (iR (dC (.int 0)) iT)) (iS 2)))
 ka
def sq:TSd:=dSq (iY [] (gNm 2) (dB bMax bMax.mono (iR (dB bLen bLen.mono (iR (dIx (iS 0) (dC (.int 0))) iT)) (iR (dB bLen bLen.mono (iR (dIx (iS 1) (dC (.int 0))) iT)) iT))))
 kb
def nX:SpB:=.of 2 (α:=List Int×Int×List Int×Int×Nat×Nat×Nat×Nat) (fun (P,B,P',B',n,b,m,c) ds=>ds=[pD P B,pD P' B']/\Pc.Pz n b P B/\Pc.Pz m c P' B'/\b+c<=9000000/\n+m<=1000000/\P.length<=900/\P'.length<=900)
 (fun (P,B,P',B',n,b,m,c) d=>∃ R C,d=pD R C/\Po.Fm R C/\∀ k,R.getD k 0*(B*B')=(P.getD k 0*B'+P'.getD k 0*B)*C)
theorem pY:Does 6 sq nX:=by
 rintro ds Q hn ⟨⟨P,B,P',B',n,b,m,c⟩,⟨rfl,G1,G2,hb,hm,l1,l2⟩,q⟩;dsimp only at G1 G2 hb hm l1 l2 q;have sl:(1000:Nat)<=Pv:=by rw[P4];decide
 have p1:=G1.fm.pos;have p2:=G2.fm.pos;obtain⟨M,hM⟩:∃ M:Nat,M=max P.length P'.length:=⟨_,rfl⟩;have lb1:=G1.bot;have lb2:=G2.bot;suffices h:ka.run (ux Q) [.val (pD P B),.val (pD P' B'),.val (.int M),.own ((Pu M (0:Int)).map .int),.no,.no] by
  have e0:(if ((P'.map D.int).length:Int) > ((P.map D.int).length:Nat) then ((P'.map D.int).length:Int) else ((P.map D.int).length:Nat))=(M:Nat):=by
   rw[aa,aa];split <;> lia
  suffices h1:kb.run (ux Q) [.val (pD P B),.val (pD P' B'),.val (.int M),.no,.no,.no] by
   show kb.run (ux Q) [.val (pD P B),.val (pD P' B'),.val (.int (if ((P'.map D.int).length:Int) > ((P.map D.int).length:Nat) then ((P'.map D.int).length:Int) else ((P.map D.int).length:Nat))),.no,.no,.no];rw[e0];exact h1
  refine⟨by rw[P4];decide,by lia,by lia,by show 1*M<=_;lia,?_⟩;show ka.run (ux Q) [.val (pD P B),.val (pD P' B'),.val (.int M),.own (Pu M [D.int 0]).flatten,.no,.no];rw[xg];exact h
 refine⟨fun i s=>∃ F:List Int,∃ o o':SD,s=[.val (pD P B),.val (pD P' B'),.val (.int M),.own (F.map .int),o,o']/\F.length=M/\∀ k,F.getD k 0=(P.take i).getD k 0*B',⟨_,_,_,rfl,aX,fun k=>by rw[yL,ft];simp⟩,?_,?_⟩
 ·rintro i d _ hd ⟨F,o,o',rfl,hF,hf⟩;obtain⟨hi,rfl⟩:=uW hd;have hiF:i<F.length:=by lia
  refine⟨rfl,vg (uP hiF) ⟨⟨n,c,G1.tops i,lb2,by lia⟩,A9 (by rw[aa];exact hiF) ⟨F.set i (F.getD i 0+P.getD i 0*B'),.val (.int (i:Nat)),.val (.int (P.getD i 0)),?_,by rw[bx];exact hF,fun k=>?_⟩⟩⟩
  ·show [SD.val _,.val _,.val _,.own ((F.map D.int).set i (.int (F.getD i 0+P.getD i 0*B'))),_,_]=_;rw[map_set]
  ·rw[wY hiF,zA hi];by_cases e:k=i
   ·subst e;rw[QI rfl,QI rfl,hf,fB]
   ·rw[QJ e,QJ e,hf,cF]
 ·rintro _ ⟨F,o,o',rfl,hF,hf⟩;rw[uy,aa,b9] at hf;refine⟨fun i s=>∃ F:List Int,∃ o o':SD,s=[.val (pD P B),.val (pD P' B'),.val (.int M),.own (F.map .int),o,o']/\F.length=M/\∀ k,F.getD k 0=P.getD k 0*B'+(P'.take i).getD k 0*B,⟨F,_,_,rfl,hF,fun k=>by rw[hf,ft];simp⟩,?_,?_⟩
  ·rintro i d _ hd ⟨F,o,o',rfl,hF,hf⟩;obtain⟨hi,rfl⟩:=uW hd;have hiF:i<F.length:=by lia
   refine⟨rfl,vg (uP hiF) ⟨⟨m,b,G2.tops i,lb1,by lia⟩,A9 (by rw[aa];exact hiF) ⟨F.set i (F.getD i 0+P'.getD i 0*B),.val (.int (i:Nat)),.val (.int (P'.getD i 0)),?_,by rw[bx];exact hF,fun k=>?_⟩⟩⟩
   ·show [SD.val _,.val _,.val _,.own ((F.map D.int).set i (.int (F.getD i 0+P'.getD i 0*B))),_,_]=_;rw[map_set]
   ·rw[wY hiF,zA hi];by_cases e:k=i
    ·subst e;rw[QI rfl,QI rfl,hf,fB,Int.add_assoc]
    ·rw[QJ e,QJ e,hf,cF]
  ·rintro _ ⟨F,o,o',rfl,hF,hf⟩;rw[uy,aa,b9] at hf;refine⟨⟨b,c,lb1,lb2,by lia⟩,rfl,(F,B*B'),⟨.inl rfl,ay p1 p2,(lb1.mul lb2).mono hb,by show F.length<=1000;lia⟩,?_⟩;rintro _ ⟨R,C,rfl,fm,hw,_⟩;exact q _ ⟨R,C,rfl,fm,fun k=>by rw[hw k,hf k]⟩
def oD:TSd:=(iZ [2] (iU i9 (iR (iS 2) (iR (iV .Mult (dIx (iS 0) (dC (.int 1))) (dIx (iS 1) (dC (.int 1)))) iT))))
def jI:TSd:=dSq (jq [] (jv (dIx (iS 0) (dC (.int 0)))) (gTp [3,4])
 (jq [] (jv (dIx (iS 1) (dC (.int 0)))) (gTp [5,6])
 (mT [] 2 (iV .Add (iS 3) (iS 5)) (iV .Add (pR 2 (iV .Add (iS 3) (iS 5))) (iV .Mult (iS 4) (iS 6))))))
 oD
def qV:TSd:=dSq (kY [] 2 (iV .Mult (je (iR (dC (.int 0)) iT)) (iV .Add (dB bLen bLen.mono (iR (dIx (iS 0) (dC (.int 0))) iT)) (dB bLen bLen.mono (iR (dIx (iS 1) (dC (.int 0))) iT)))))
 jI
def lv:SpB:=.of 2 (α:=List Int×Int×List Int×Int×Nat×Nat×Nat×Nat) (fun (P,B,P',B',n,b,m,c) ds=>ds=[pD P B,pD P' B']/\Pc.Pz n b P B/\Pc.Pz m c P' B'/\b+c<=9000000/\n+m<=1000000/\P.length<=450/\P'.length<=450)
 (fun (P,B,P',B',n,b,m,c) d=>∃ R C,d=pD R C/\Po.Fm R C/\∀ k,R.getD k 0*(B*B')=Cv.cv (Cv.fn P) (Cv.fn P') k*C)
theorem nY:Does 7 qV lv:=by
 rintro ds Q hn ⟨⟨P1,B1,P2,B2,n,b,m,c⟩,⟨rfl,G1,G2,hb,hm,l1,l2⟩,q⟩;dsimp only at G1 G2 hb hm l1 l2 q;have sl:(1000:Nat)<=Pv:=by rw[P4];decide
 have p1:=G1.fm.pos;have p2:=G2.fm.pos;suffices h:jI.run (ux Q) [.val (pD P1 B1),.val (pD P2 B2),.own ((Pu (P1.length+P2.length) (0:Int)).map .int),.no,.no,.no,.no] by
  have e0:(((P1.map D.int).length:Nat):Int)+((P2.map D.int).length:Nat)=((P1.length+P2.length:Nat):Int):=by
   rw[aa,aa];lia
  refine⟨zn,?_,?_,?_,?_⟩
  ·rw[e0];lia
  ·rw[e0];lia
  ·rw[e0];show 1*(P1.length+P2.length)<=_;lia
  ·show jI.run (ux Q) [.val (pD P1 B1),.val (pD P2 B2),.own (Pu ((((P1.map D.int).length:Nat):Int)+((P2.map D.int).length:Nat)).toNat [D.int 0]).flatten,.no,.no,.no,.no];rw[e0,aS,xg];exact h
 refine⟨fun i s=>∃(rs:List Int) (o3 o4 o5 o6:SD),s=[.val (pD P1 B1),.val (pD P2 B2),.own (rs.map .int),o3,o4,o5,o6]/\rs.length=P1.length+P2.length/\∀ k,rs.getD k 0=Cv.tm (Cv.fn P1) (Cv.fn P2) i k,⟨_,_,_,_,_,rfl,aX,fun k=>yL _ _⟩,?_,?_⟩
 ·rintro i d _ hd ⟨rs,o3,o4,o5,o6,rfl,lr,hr⟩;obtain⟨hi,rfl⟩:=uW hd;refine⟨rfl,fun k s=>∃(rs:List Int) (o5 o6:SD),s=[.val (pD P1 B1),.val (pD P2 B2),.own (rs.map .int),.val (.int (i:Nat)),.val (.int (P1.getD i 0)),o5,o6]/\rs.length=P1.length+P2.length/\∀ m,rs.getD m 0=Cv.tm (Cv.fn P1) (Cv.fn P2) i m+(if i<=m/\m-i<k then Cv.fn P1 i*Cv.fn P2 (m-i) else 0),⟨rs,_,_,rfl,lr,fun m=>by rw[hr m,QJ (by lia),cF]⟩,?_,?_⟩
  ·rintro k d _ hd ⟨rs',o5',o6',rfl,lr',hr4⟩;obtain⟨hk,rfl⟩:=uW hd;have ik:(i:Int)+(k:Int)=((i+k:Nat):Int):=by lia
   have hiF:i+k<rs'.length:=by lia
   refine⟨rfl,?_⟩;show itI (rs'.map D.int) (.int ((i:Int)+(k:Int))) _;rw[ik];refine vg (uP hiF) ⟨⟨n,m,G1.tops i,G2.tops k,by lia⟩,?_⟩;show atD (rs'.map D.int) (.int ((i:Int)+(k:Int))) _;rw[ik];refine A9 (by rw[aa];exact hiF) ⟨rs'.set (i+k) (rs'.getD (i+k) 0+P1.getD i 0*P2.getD k 0),.val (.int (k:Nat)),.val (.int (P2.getD k 0)),?_,by rw[bx];exact lr',fun m=>?_⟩
   ·show [SD.val _,.val _,.own ((rs'.map D.int).set (i+k) (.int (rs'.getD (i+k) 0+P1.getD i 0*P2.getD k 0))),_,_,_,_]=_;rw[map_set]
   ·rw[wY hiF];by_cases e:m=i+k
    ·subst e;rw[QI rfl,hr4,QJ (by lia),QI ⟨by lia,by lia⟩,show i+k-i=k by lia,cF];rfl
    ·rw[QJ e,hr4];congr 1;by_cases c:i<=m/\m-i<k
     ·rw[QI c,QI ⟨c.1,by lia⟩]
     ·rw[QJ c,QJ (by lia)]
  ·rintro _ ⟨rs',o5',o6',rfl,lr',hr4⟩;rw[uy,aa] at hr4;refine⟨rs',_,_,_,_,rfl,lr',fun m=>?_⟩;rw[hr4 m,Cv.Ar];congr 1;by_cases c:i<=m
   ·rw[QI c];by_cases c':m-i<P2.length
    ·rw[QI ⟨c,c'⟩]
    ·rw[QJ (fun z=>c' z.2),Cv.uk (P:=P2) (by lia),bD]
   ·rw[QJ c,QJ (fun z=>c z.1)]
 ·rintro _ ⟨rs,o3,o4,o5,o6,rfl,lr,hr⟩;rw[uy,aa] at hr;refine⟨⟨b,c,G1.bot,G2.bot,by lia⟩,rfl,(rs,B1*B2),⟨.inl rfl,ay p1 p2,(G1.bot.mul G2.bot).mono hb,by show rs.length<=1000;lia⟩,?_⟩;rintro _ ⟨R,C,rfl,fm,hw,_⟩;exact q _ ⟨R,C,rfl,fm,fun k=>by rw[hw k];show rs.getD k 0*C=_;rw[hr k,Cv.wo fun j h=>Cv.uk h]⟩
def rJ:TSd:=(iZ [] (iS 2))
def rK:TSd:=dSq (jq [] (kX (dIx (iS 0) (dC (.int 0)))) (gNm 3)
 (iY [] (gNm 2) (iU nX (iR (iU lv (iR (iS 2) (iR (iS 1) iT))) (iR (iU i9 (iR (je (iR (iS 3) iT)) (iR (dIx (iS 0) (dC (.int 1))) iT))) iT)))))
 rJ
def tj:TSd:=dSq (iY [] (gNm 2) (jg (iR (jg iT) (iR (dC (.int 1)) iT))))
 rK
def kw:SpB:=.of 2 (α:=List Int×Int×List Int×Int×Nat×Nat×Nat×Nat) (fun (P,B,P',B',n,b,m,c) ds=>ds=[pD P B,pD P' B']/\Pc.Pz n b P B/\Pc.Pz m c P' B'/\b+b+c*P.length<=8900000/\n+(m+c+10)*(P.length+1)<=400000/\P.length*P'.length<=190/\P.length<=190/\P'.length<=190)
 (fun (P,B,P',B',n,b,m,c) d=>∃ R C,d=pD R C/\Pc.Of P B P' B' R C)
theorem qX:Does 4 tj kw:=by
 rintro ds Q hn ⟨⟨P1,B1,P2,B2,n,b,m,c⟩,⟨rfl,G1,G2,hb,hn,hl,l1,l2⟩,q⟩;dsimp only at G1 G2 hb hn hl l1 l2 q;have p1:=G1.fm.pos;have p2:=G2.fm.pos;have hL:(m+c+10)*P1.length+(m+c+10)=(m+c+10)*(P1.length+1):=by rw[bF]
 have hg:∀ k,P2.length<=k->Cv.fn P2 k=0:=fun k h=>Cv.uk h;refine⟨by rw[P4];decide,by rw[P4];decide,fun i s=>∃(R:List Int) (C:Int) (o3:SD) (M:Nat->Int),s=[.val (pD P1 B1),.val (pD P2 B2),.val (pD R C),o3]/\Po.Fm R C/\(∀ k,R.getD k 0*(B1*B2^i)=M k*B2*C)/\(∀ k,i*P2.length+1<=k->M k=0)/\(∀ k,Lt2 (n+(m+c+10)*i+1) (M k)) /\
   ∀ k,Pc.pc (Cv.fn P1) (Cv.fn P2) B2 P1.length k=B2^i*Pc.pc (Cv.fn P1) (Cv.fn P2) B2 (P1.length-i) k+B2*Cv.cv (Pc.cp (Cv.fn P2) (P1.length-i)) M k,
  ⟨[],1,.no,fun _=>0,rfl,⟨by decide,.inl rfl,rfl⟩,fun k=>by rw[uj (fs:=([]:List Int)) (aE _)];simp,fun _ _=>rfl,fun k=>bg (by decide),fun k=>by rw[Cv.GQ fun j=>rfl];simp⟩,?_,?_⟩
 ·rintro i z _ hz ⟨R,C,o3,M,rfl,fx,ex,oM,lM,eM⟩;have hi:i<P1.length:=by have:=(aj.mp hz).1;simpa using this
  rw[bK (by rw[aa];exact hi),aa] at hz;obtain⟨_,rfl⟩:=yV hz;have li:(m+c+10)*(i+1)<=(m+c+10)*P1.length:=ai _ hi;rw[bF] at li;have li2:(i+1)*P2.length<=P1.length*P2.length:=bH _ hi;rw[bh] at li2;have li3:c*(i+1)<=c*P1.length:=ai _ hi;rw[bF] at li3;have W:=Hv.pow_pos p2 i;have lW:=Hv.uz G2.bot i;have li5:c*i<=(m+c+10)*i:=bH _ (by lia);have c0:=fx.pos;have zx:Pc.Pz (n+(m+c+10)*i+1+c) (b+(c*i+1)) R C:=Pc.Pz.of fx (ay p1 W) ex (fun k=>(lM k).mul G2.bot) (G1.bot.mul lW);have lx:R.length<=i*P2.length+1:=Pc.uU fx (ay p1 W) ex (fun k hk=>by rw[oM k hk,aN]);have top:=G1.tops (P1.length-1-i);refine⟨rfl,(R,C,P2,B2,_,_,_,_),⟨rfl,zx,G2,by lia,by lia,by show R.length<=450;lia,by show P2.length<=450;lia⟩,?_⟩;rintro _ ⟨TT,tb,rfl,fT,eT⟩;have t0:=fT.pos;have eT':∀ k,TT.getD k 0*(B1*(B2^i*B2))=Cv.cv M (Cv.fn P2) k*B2*tb:=fun k=>Pc.J5 c0 ex (eT k);have W2:=ay W p2;have cM:∀ k,Lt2 (n+(m+c+10)*i+1+m+9) (Cv.cv M (Cv.fn P2) k):=fun k=>by
   rcases ar k 500 with cc|cc
   ·exact Cv.Ef lM G2.tops (by lia)
   ·rw[Cv.u5 (a:=i*P2.length+1) (b:=P2.length) oM hg (by lia)];exact bg (by decide)
  have oT:∀ k,(i+1)*P2.length+1<=k->Cv.cv M (Cv.fn P2) k=0:=fun k hk=>Cv.u5 (a:=i*P2.length+1) (b:=P2.length) oM hg (by rw[bh] at hk;lia);have zT:Pc.Pz (n+(m+c+10)*i+1+m+9+c) (b+(c*i+1+c)) TT tb:=Pc.Pz.of fT (ay p1 W2) eT' (fun k=>(cM k).mul G2.bot) (G1.bot.mul (lW.mul G2.bot));have lT:TT.length<=(i+1)*P2.length+1:=Pc.uU fT (ay p1 W2) eT' (fun k hk=>by rw[oT k hk,aN]);rw[bh] at lT;refine⟨zn,rfl,([P1.getD (P1.length-1-i) 0],B1),⟨.inl rfl,p1,G1.bot.mono (by lia),by show 1<=1000;decide⟩,?_⟩;rintro _ ⟨E,eb,rfl,fe,ee,le⟩;dsimp only at ee le;have e0:=fe.pos;have ze:Pc.Pz n b E eb:=Pc.Pz.of fe p1 ee (fun k=>by
   cases k with
   | zero=>exact top
   | succ k=>rw[uj (fs:=[P1.getD (P1.length-1-i) 0]) (by simp)];exact bg (by decide)) G1.bot
  have le':E.length<=1:=le;refine⟨rfl,(TT,tb,E,eb,_,_,_,_),⟨rfl,zT,ze,by lia,by lia,by show TT.length<=900;lia,by show E.length<=900;lia⟩,?_⟩;rintro _ ⟨R',C',rfl,fx',ex'⟩;refine⟨R',C',_,fun j=>Cv.cv M (Cv.fn P2) j+(if j=0 then Cv.fn P1 (P1.length-1-i)*B2^i else 0),rfl,fx',fun k=>?_,fun k hk=>?_,fun k=>?_,fun k=>Pc.GE hg hi eM _ fun j=>rfl⟩
  ·rw[aJ];have y:=Pc.J4 t0 e0 (eT' k) (ee k) (ex' k);rw[y];congr 2;show _=_+_;congr 1;cases k with
   | zero=>rfl
   | succ k=>rw[uj (fs:=[P1.getD (P1.length-1-i) 0]) (by simp),QJ (by lia),aN]
  ·show Cv.cv M (Cv.fn P2) k+(if k=0 then Cv.fn P1 (P1.length-1-i)*B2^i else 0)=0;rw[oT k hk,QJ (by lia)];rfl
  ·have y2:Lt2 (n+(m+c+10)*i+1+m+9) (if k=0 then Cv.fn P1 (P1.length-1-i)*B2^i else 0):=by
    split
    ·exact (top.mul lW).mono (by lia)
    ·exact bg (by decide)
   exact ((cM k).add y2).mono (by rw[bF];lia)
 ·rintro _ ⟨R,C,o3,M,rfl,fx,ex,oM,lM,eM⟩;rw[bA,aa] at ex eM;refine q _ ⟨R,C,rfl,fx,fun k=>?_⟩;rw[ex k,eM k,cI];show _=(_*0+B2*Cv.cv Pc.d0 M k)*C;rw[Pc.y6,bD,cO,bB B2]
def FqD(n b:Nat)(d:D)(r:Rat):Prop:=∃ t u:Int,d=fD t u/\0<u/\Int.gcd t u=1/\Lt2 n t/\Lt2 b u/\r=(t:Rat) / (u:Rat)
theorem FqD.of(u0:0<u)(lt:Lt2 n t)(lu:Lt2 b u):FqD n b (fD (Fr.top t u) (Fr.bot t u)) ((t:Rat) / (u:Rat)):=by
 obtain⟨l1,l2,l3⟩:=Fr.low (t:=t) (b:=u) (by lia);obtain⟨m1,m2⟩:=Fr.Ff (t:=t) (b:=u) (by lia);exact⟨_,_,rfl,l1,l3,lt.le m1,lu.le m2,(Qp.uD (by lia) (by lia)).mpr l2.symm⟩
theorem FqD.mono(h:FqD n b d r)(l:n<=n')(l':b<=b'):FqD n' b' d r:=by
 obtain⟨t,u,e,h1,h2,h3,h4,h5⟩:=h;exact⟨t,u,e,h1,h2,h3.mono l,h4.mono l',h5⟩
def jJ:SpB:=.of 2 (α:=Int) (fun m ds=>ds=[.fl,.int m]/\0<=m/\Lt2 8000 m) (fun m d=>∃ z,d = .int z /\ -m<=z/\z<=m)
def pZ:TSd:=(iZ [] (iV .Sub (iU iX (iR (iS 0) (iR (iV .Add (iV .Mult (dC (.int 2)) (iS 1)) (dC (.int 1))) iT))) (iS 1)))
theorem m5:Does 2 pZ jJ:=by
 rintro ds Q hn ⟨m,⟨rfl,m0,m1⟩,q⟩;have two:Lt2 2 2:=by decide
 have lm:Lt2 9000 (2*m+1):=((two.mul m1).add ((show Lt2 1 1 by decide).mono (m:=2+8000) (by lia))).mono (by lia);refine⟨⟨_,_,two,m1,by lia⟩,rfl,2*m+1,⟨rfl,by lia,lm⟩,?_⟩;rintro _ ⟨i,rfl,i0,i1⟩;exact q _ ⟨_,rfl,by lia,by lia⟩
theorem Ht(h:m.natAbs<1000)(hn:10<=n:=by decide):Lt2 n m:=by
 unfold Lt2;exact aC (Nat.lt_trans h (show 1000<2^10 by decide)) (bO (by decide) hn)
theorem DF(h0:0<=i)(h1:i<4)(qa:Q (.int a))(qb:Q (.int b))(qc:Q (.int c))(qe:Q (.int e)):itD [.int a,.int b,.int c,.int e] i Q:=by
 rcases (by lia:i=0\/i=1\/i=2\/i=3) with rfl|rfl|rfl|rfl
 ·exact qa
 ·exact qb
 ·exact qc
 ·exact qe
def jD:SpB:=.of 2 (α:=Int×Nat) (fun (m,M) ds=>ds=[.fl,.int m]/\1<=m/\Lt2 M m/\2<=M/\M<=4000) (fun (m,M) d=>∃ r,FqD M M d r)
def kO:TSd:=(iZ [] (iU jo (iR (iU jJ (iR (iS 0) (iR (iS 1) iT))) (iR (iV .Add (dC (.int 1)) (iU iX (iR (iS 0) (iR (dIx (je (iR (dC (.int 1)) (iR (dC (.int 1)) (iR (dC (.int 3)) (iR (iS 1) iT))))) (iU iX (iR (iS 0) (iR (dC (.int 4)) iT)))) iT)))) iT))))
theorem j7:Does 2 kO jD:=by
 rintro ds Q hn ⟨⟨m,M⟩,⟨rfl,m1,lm,M2,M4⟩,q⟩;refine⟨rfl,m,⟨rfl,by lia,lm.mono (by lia)⟩,?_⟩;rintro _ ⟨z,rfl,z0,z1⟩;refine⟨vO (n:=4) (by decide),rfl,4,⟨rfl,by decide,Ht (by decide)⟩,?_⟩;rintro _ ⟨i,rfl,i0,i1⟩;have l3:Lt2 M 3:=(show Lt2 2 3 by decide).mono M2;have key:∀ u:Int,1<=u->Lt2 M u->([D.fl,.int u].length=iX.n/\iX.run [.fl,.int u] fun d=>oAdd (.int 1) d fun d=>[D.int z,d].length=jo.n/\jo.run [.int z,d] Q):=fun u u1 lu=>by
  refine⟨rfl,u,⟨rfl,by lia,lu.mono (by lia)⟩,?_⟩;rintro _ ⟨e,rfl,e0,e1⟩;have lb:Lt2 M (1+e):=lu.le (by lia);refine⟨rfl,(z,1+e),⟨rfl,by show 1+e≠0;lia,lb.mono (by lia)⟩,?_⟩;rintro _ rfl;exact q _ ⟨_,FqD.of (by lia) (lm.le (by lia)) lb⟩
 exact DF i0 i1 (key 1 (by decide) (l3.le (by decide))) (key 1 (by decide) (l3.le (by decide))) (key 3 (by decide) l3) (key m m1 lm)
theorem vY{α:Type}{fs:List α}{i:Nat}{d:α}(h:i<fs.length):fs.getD i d∈fs:=by
 rw[ae,au h];exact gA h
theorem xB(n:Nat):Lt2 n 0:=bg (by decide)
theorem CU{ts:List Int}{c B:Int}{P:List Int}{M N:Nat}(fm:Po.Fm P B)(hw:∀ k,P.getD k 0*c=ts.getD k 0*B)(hle:P.length<=ts.length)(hl:ts.length=N+1)(hs:∀ t∈ts,Lt2 M t)(c0:0<c)(lc:Lt2 3 c)(last:ts.getD N 0≠0):Pc.Pz M 3 P B/\P.length=N+1:=by
 have pB:=fm.pos;refine⟨Pc.Pz.of (f:=fun k=>ts.getD k 0) fm c0 hw (fun k=>?_) lc,?_⟩
 ·rcases ar k ts.length with z|z
  ·exact hs _ (vY z)
  ·rw[uj z];exact xB _
 ·rcases ar N P.length with z|z
  ·lia
  ·have e:=hw N;rw[uj z,aN] at e;rcases cr.mp e.symm with y|y
   ·exact absurd y last
   ·lia
theorem Pr:(if decide ((0:Int)<d) then (1:Int) else 0)=0\/(if decide ((0:Int)<d) then (1:Int) else 0)=1:=by
 by_cases c:(0:Int)<d
 ·exact .inr (by rw[QI (by simpa using c)])
 ·exact .inl (by rw[QJ (by simpa using c)])
def drI(M:Nat):Nat->List D->Prop:=fun i ys=>∃ ts:List Int,ys=ts.map D.int/\ts.length=i/\∀ t∈ts,Lt2 M t
theorem drI.nil:drI M 0 []:=⟨[],rfl,rfl,fun t h=>absurd h bf⟩
theorem drI.snoc(h:drI M i ys)(hz:Lt2 M z):drI M (i+1) (ys++[.int z]):=by
 obtain⟨ts,rfl,h1,h2⟩:=h;refine⟨ts++[z],by rw[bw];rfl,by rw[aB,h1];rfl,fun t ht=>?_⟩;rcases bS.mp ht with w|w
 ·exact h2 t w
 ·rw[aq.mp w];exact hz
theorem MM(lz:Lt2 M z)(M4:M<=8000):CMulB z (if decide ((0:Int)<d) then (1:Int) else 0)/\Lt2 M (z*(if decide ((0:Int)<d) then (1:Int) else 0)):=by
 rcases Pr (d:=d) with e|e
 ·rw[e];exact⟨⟨M,1,lz,by decide,by lia⟩,by rw[bD];exact xB _⟩
 ·rw[e];exact⟨⟨M,1,lz,by decide,by lia⟩,by rw[bq];exact lz⟩
def jp:SpB:=.of 3 (α:=Nat×Int×Nat) (fun (N,m,M) ds=>ds=[.fl,.int N,.int m]/\N<=100/\1<=m/\Lt2 M m/\M<=4000) (fun (N,m,M) d=>∃ P B,d=pD P B/\Pc.Pz M 3 P B/\P.length=N+1)
def jR:TSd:=(iZ [] (iU i9 (iR (iV .Add (iS 3) (je (iR (iS 5) iT))) (iR (iV .Add (dC (.int 1)) (iU iX (iR (iS 0) (iR (dIx (je (iR (dC (.int 1)) (iR (dC (.int 1)) (iR (dC (.int 2)) (iR (dC (.int 6)) iT))))) (iU iX (iR (iS 0) (iR (dC (.int 4)) iT)))) iT)))) iT))))
def mD:TSd:=dSq (iY [] (gNm 5) (dIx (je (iR (dC (.int 1)) (iR (iV .Sub (dC (.int 0)) (dC (.int 1))) (iR (iV .Add (dC (.int 1)) (iU iX (iR (iS 0) (iR (iS 2) iT)))) (iR (iV .Sub (iV .Sub (dC (.int 0)) (dC (.int 1))) (iU iX (iR (iS 0) (iR (iS 2) iT)))) iT))))) (iU iX (iR (iS 0) (iR (dC (.int 4)) iT)))))
 jR
def nZ:TSd:=dSq (iY [] (gNm 3) (i7 (mY (iS 1)) [4] (gNm 4) jt (iV .Mult (iU jJ (iR (iS 0) (iR (iS 2) iT))) (dB bInt bInt.mono (iR (i6 .Gt (iU iX (iR (iS 0) (iR (dC (.int 4)) iT))) (dC (.int 0))) iT)))))
 mD
theorem lE:Does 6 nZ jp:=by
 rintro ds Q hn ⟨⟨N,m,M⟩,⟨rfl,hN,m1,lm,M4⟩,q⟩;dsimp only at hN m1 lm M4 q;refine⟨by lia,by lia,by rw[uw];exact vO (by lia),drI M,drI.nil,fun i d ys hd _ hy=>?_,fun ys _ hy=>?_⟩
 ·obtain⟨hi,rfl⟩:=uG hd;refine⟨rfl,m,⟨rfl,by lia,lm.mono (by lia)⟩,?_⟩;rintro _ ⟨z,rfl,z0,z1⟩;refine⟨rfl,4,⟨rfl,by decide,Ht (by decide)⟩,?_⟩;rintro _ ⟨j,rfl,j0,j1⟩;obtain⟨h1,h2⟩:=MM (d:=j) (lm.le (j:=z) (by lia)) (by lia);exact⟨h1,hy.snoc h2⟩
 rw[uw] at hy;obtain⟨ts,rfl,lt,ht⟩:=hy;have lt:ts.length=N:=by lia
 refine⟨rfl,m,⟨rfl,by lia,lm.mono (by lia)⟩,?_⟩;rintro _ ⟨d1,rfl,d10,d11⟩;refine⟨rfl,m,⟨rfl,by lia,lm.mono (by lia)⟩,?_⟩;rintro _ ⟨d2,rfl,d20,d21⟩;refine⟨vO (n:=4) (by decide),rfl,4,⟨rfl,by decide,Ht (by decide)⟩,?_⟩;rintro _ ⟨d3,rfl,d30,d31⟩;have key:∀ u:Int,u≠0->Lt2 M u->jR.run (ux Q) [.val .fl,.val (.int N),.val (.int m),.val (.lst (ts.map .int)),.no,.val (.int u)]:=fun u u0 lu=>by
  refine⟨zn,?_,?_⟩
  ·rw[aa];exact vO (by show ts.length+1<=_;lia)
  refine⟨vO (n:=4) (by decide),rfl,4,⟨rfl,by decide,Ht (by decide)⟩,?_⟩;rintro _ ⟨d5,rfl,d50,d51⟩;have fin:∀ c:Int,1<=c->c<=6->([D.fl,.int c].length=iX.n/\iX.run [.fl,.int c] fun d=>oAdd (.int 1) d fun d=>[D.lst (ts.map .int++[.int u]),d].length=i9.n/\i9.run [.lst (ts.map .int++[.int u]),d] Q):=fun c c1 c6=>by
   refine⟨rfl,c,⟨rfl,by lia,Ht (by lia)⟩,?_⟩;rintro _ ⟨e,rfl,e0,e1⟩;have b3:Lt2 3 (1+e):=Lt2.of 6 (by lia) (by decide);have em:ts.map D.int++[.int u]=(ts++[u]).map D.int:=by rw[bw];rfl
   have last:(ts++[u]).getD N 0=u:=uM (by rw[bv (by lia),lt,cI];rfl);rw[em];refine⟨rfl,(ts++[u],1+e),⟨.inl rfl,by show 0<1+e;lia,b3.mono (by decide),by show (ts++[u]).length<=1000;rw[aB,lt];show N+1<=1000;lia⟩,?_⟩;rintro _ ⟨P1,B1,rfl,fm,hw,hle⟩;dsimp only at hw hle;obtain⟨z1,z2⟩:=CU (M:=M) (N:=N) fm hw hle (by rw[aB,lt];rfl) (fun t h=>by
    rcases bS.mp h with y|y
    ·exact ht _ y
    ·rw[aq.mp y];exact lu) (by lia) b3 (by rw[last];exact u0)
   exact q _ ⟨P1,B1,rfl,z1,z2⟩
  exact DF d50 d51 (fin 1 (by decide) (by decide)) (fin 1 (by decide) (by decide)) (fin 2 (by decide) (by decide)) (fin 6 (by decide) (by decide))
 exact DF d30 d31 (key 1 (by decide) (lm.le (by lia))) (key (0-1) (by decide) (lm.le (by lia))) (key (1+d1) (by lia) (lm.le (by lia))) (key (0-1-d2) (by lia) (lm.le (by lia)))
theorem J6(st:Pc.St ta ba tb bb P B)(a0:0<ba)(b0:0<bb)(l1:Lt2 n1 ta)(l2:Lt2 b1 ba)(l3:Lt2 n2 tb)(l4:Lt2 b2 bb):Pc.Pz (n1+n2+b1+b2) (b1+b2) P B :=
 Pc.Pz.of st.1 (ay a0 b0) st.2 (fun k=>by
  match k with
  | 0=>exact (l3.mul l2).mono (by lia)
  | 1=>exact (l1.mul l4).mono (by lia)
  | k+2=>exact xB _) (l2.mul l4)
theorem OK(st:Pc.St ta ba tb bb P B)(a0:0<ba)(b0:0<bb)(l1:Lt2 n1 ta)(l2:Lt2 b1 ba)(l3:Lt2 n2 tb)(l4:Lt2 b2 bb) :
  Pc.Pz (n1+n2+b1+b2) (b1+b2) P B/\(∀ x,Qp.E P B x=(ta:Rat) / (ba:Rat)*x+(tb:Rat) / (bb:Rat))/\P.length<=2/\Qp.q P B 0=(tb:Rat) / (bb:Rat)/\Qp.q P B 1=(ta:Rat) / (ba:Rat):=by
 have p:=ay a0 b0;have q:=fun k=>Qp.Av (f:=fun k=>[tb*ba,ta*bb].getD k 0) st.1.pos (ao p) st.2 k;refine⟨J6 st a0 b0 l1 l2 l3 l4,Qp.OF st a0 b0,Pc.uU st.1 p st.2 fun k hk=>?_,?_,?_⟩
 ·obtain⟨j,rfl⟩:∃ j,k=j+2:=⟨k-2,by lia⟩;exact Pc.wU ..
 ·rw[q 0];exact (Qp.uD (ao p) (by lia)).mpr (by show tb*ba*bb=tb*(ba*bb);grind)
 ·rw[q 1];exact (Qp.uD (ao p) (by lia)).mpr (by show ta*bb*ba=ta*(ba*bb);grind)
theorem yw(h:Qp.q P B 1≠0)(l:P.length<=2):P.length=2/\P.getD 1 0≠0:=by
 have n1:P.getD 1 0≠0:=fun z=>h (by
  unfold Qp.q;rw[z];show ((0:Int):Rat) / _=0;have:((0:Int):Rat)=0:=rfl;rw[this];grind)
 refine⟨?_,n1⟩;rcases ar 1 P.length with z|z
 ·lia
 ·exact absurd (uj z) n1
def j6:SpB:=.of 2 (α:=D×D×Rat×Rat×Nat×Nat×Nat×Nat) (fun (d1,d2,r1,r2,n1,b1,n2,b2) ds=>ds=[d1,d2]/\FqD n1 b1 d1 r1/\FqD n2 b2 d2 r2/\b1+b2<=4000/\n1<=100000/\n2<=100000)
 (fun (d1,d2,r1,r2,n1,b1,n2,b2) d=>∃ P B,d=pD P B/\Pc.Pz (n1+n2+b1+b2) (b1+b2) P B/\(∀ x,Qp.E P B x=r1*x+r2)/\P.length<=2/\Qp.q P B 0=r2/\Qp.q P B 1=r1)
def n5:TSd:=(iZ [] (iU i9 (iR (je (iR (iV .Mult (dIx (iS 1) (dC (.int 0))) (dIx (iS 0) (dC (.int 1)))) (iR (iV .Mult (dIx (iS 0) (dC (.int 0))) (dIx (iS 1) (dC (.int 1)))) iT))) (iR (iV .Mult (dIx (iS 0) (dC (.int 1))) (dIx (iS 1) (dC (.int 1)))) iT))))
theorem lI:Does 2 n5 j6:=by
 rintro ds Q hn ⟨⟨d1,d2,r1,r2,n1,b1,n2,b2⟩,⟨rfl,⟨ta,ba,rfl,a0,c2,l1,l2,rfl⟩,⟨tb,bb,rfl,b0,e2,l3,l4,rfl⟩,ln,m1,m2⟩,q⟩;dsimp only at ln m1 m2 q;refine⟨⟨_,_,l3,l2,by lia⟩,⟨_,_,l1,l4,by lia⟩,vK,⟨_,_,l2,l4,by lia⟩,rfl,([tb*ba,ta*bb],ba*bb),⟨.inl rfl,ay a0 b0,(l2.mul l4).mono (by lia),by show 2<=1000;decide⟩,?_⟩;rintro _ ⟨P,B,rfl,fm,hw,hle⟩;obtain⟨x1,x2,x3,x4,x5⟩:=OK ⟨fm,hw⟩ a0 b0 l1 l2 l3 l4;exact q _ ⟨P,B,rfl,x1,x2,x3,x4,x5⟩
theorem vx(l:Lt2 n t):FqD n 1 (fD t 1) (t:Rat):=⟨t,1,rfl,by decide,by simp,l,by decide,by have:((1:Int):Rat)=1:=rfl;rw[this];grind⟩
def iW:SpB:=.of 2 (α:=Int×Nat×Nat) (fun (n,k,M) ds=>ds=[.int n,.int k]/\Lt2 M n/\k<=200/\(M+1)*(k+1)<=400000) (fun (n,k,M) d=>d = .int (n^k))
def m7:TSd:=(iZ [] (iS 2))
def m8:TSd:=dSq (jq [] (mY (iS 1)) (gNm 3)
 (pS [] 2 .Mult (iS 0)))
 m7
def oE:TSd:=dSq (iY [] (gNm 2) (dC (.int 1)))
 m8
theorem mE:Does 4 oE iW:=by
 rintro ds Q hn ⟨⟨n,k,M⟩,⟨rfl,ln,hk,hM⟩,q⟩;dsimp only at ln hk hM q;refine⟨by lia,by lia,fun i s=>∃ o,s=[.val (.int n),.val (.int k),.val (.int (n^i)),o],⟨.no,by rw[aT];rfl⟩,?_,?_⟩
 ·rintro i d _ hd ⟨o,rfl⟩;obtain⟨hi,rfl⟩:=uG hd;have hi:i<k:=by lia
  have lp:=Hv.uz ln i;have l1:M*i<=(M+1)*(k+1):=bI (by lia) (by lia);have l2:M<=(M+1)*(k+1):=aD (by lia) (bY (M+1) (by lia));exact⟨⟨_,_,lp,ln,by lia⟩,_,by rw[aJ];rfl⟩
 ·rintro _ ⟨o,rfl⟩;rw[uw,aS];exact q _ rfl
def jf:SpB:=.of 1 (α:=List Int×Int) (fun (P,B) ds=>ds=[pD P B]) (fun (P,B) d=>d = .int ((P.length:Int)-1))
def tq:TSd:=(iZ [] (iV .Sub (dB bLen bLen.mono (iR (dIx (iS 0) (dC (.int 0))) iT)) (dC (.int 1))))
theorem qY:Does 1 tq jf:=by
 rintro ds Q hn ⟨⟨P,B⟩,rfl,q⟩;refine q _ ?_;show D.int (((P.map D.int).length:Int)-1)=_;rw[aa]
theorem Eh{ts:List Int}(hm:m<=ts.length):xv (ts.map D.int) none (some (m:Int))=(ts.take m).map D.int:=by
 unfold xv;rw[HT.FB,HT.Dx,aa,Nat.min_eq_left hm,fu,bP,List.map_take]
theorem K8(b:Nat)(ts us:List Int):Po.gl b (ts++us)=Po.gl (Po.gl b ts) us:=by
 unfold Po.gl;rw[iJ]
def ji:SpB:=.of 2 (α:=List Int×Int) (fun (ts,b) ds=>ds=[.lst (ts.map .int),.int b]/\0<b/\Lt2 9000000 b/\ts.length<=1000) (fun (ts,b) d=>∃ P B,d=pD P B/\Po.Fm P B/\(∀ k,P.getD k 0*b=ts.getD k 0*B)/\P.length<=ts.length)
def lJ:TSd:=(iZ [] (jg (iR (dB bTuple bTuple.mono (iR (i7 (jd (dSl (iS 0) dNo (kH (iS 2)))) [4] (gNm 4) jt (iV .FloorDiv (iS 4) (iS 3))) iT)) (iR (iV .FloorDiv (iS 1) (iS 3)) iT))))
def p6:TSd:=dSq (jq [] (jd (dSl (iS 0) dNo (kH (iS 2)))) (gNm 4)
 (dSq (dIf [] (i5 (i6 .Eq (iS 3) (dC (.int 1))))
 sZ
 i8)
 (iY [] (gNm 3) (iU jj (iR (iS 3) (iR (iS 4) iT))))))
 lJ
def p7:TSd:=dSq (iY [] (gNm 3) (iS 1))
 p6
def jW:TSd:=dSq (jB (kG (i5 (i6 .Gt (iS 2) (dC (.int 0)))) (i5 (i6 .Eq (dIx (iS 0) (iV .Sub (iS 2) (dC (.int 1)))) (dC (.int 0)))))
 (pS [] 2 .Sub (dC (.int 1))))
 p7
def rL:TSd:=dSq (iY [] (gNm 2) (dB bLen bLen.mono (iR (iS 0) iT)))
 jW
theorem oF:Does 5 rL ji:=by
 rintro ds Q hn ⟨⟨ts,b⟩,⟨rfl,hb,hl,hz⟩,q⟩;dsimp only at hb hl hz q;have bn:((b.natAbs:Nat):Int)=b:=by lia
 suffices h1:jW.run (ux Q) [.val (.lst (ts.map .int)),.val (.int b),.val (.int ts.length),.no,.no] by
  show jW.run (ux Q) [.val (.lst (ts.map .int)),.val (.int b),.val (.int ((ts.map D.int).length:Nat)),.no,.no];rw[aa];exact h1
 refine dSq.cut (fun s=>∃ m:Nat,s=[.val (.lst (ts.map .int)),.val (.int b),.val (.int m),.no,.no]/\m<=ts.length/\(∀ j,m<=j->ts.getD j 0=0)/\(m=0\/ts.getD (m-1) 0≠0)) ?_ ?_
 ·refine⟨fun s=>∃ m:Nat,s=[.val (.lst (ts.map .int)),.val (.int b),.val (.int m),.no,.no]/\m<=ts.length/\∀ j,m<=j->ts.getD j 0=0,fun s=>match s with|[_,_,.val (.int m),_,_]=>m.toNat|_=>0,⟨ts.length,rfl,ak _,fun j hj=>uj hj⟩,?_⟩;rintro _ ⟨m,rfl,hm,h0⟩;refine yo (p:=(0:Int)<(m:Nat)) (fun c=>?_) (fun c=>?_)
  ·obtain⟨k,rfl⟩:∃ k,m=k+1:=⟨m-1,by lia⟩;have ek:((k+1:Nat):Int)-1=(k:Int):=by lia
   show itD (ts.map D.int) (((k+1:Nat):Int)-1) _;rw[ek];refine vg (uP (by lia)) (yo (p:=ts.getD k 0=0) (fun z=>?_) (fun z=>?_))
   ·refine⟨⟨k,?_,by lia,fun j hj=>?_⟩,?_⟩
    ·show [_,_,SD.val (.int (((k+1:Nat):Int)-1)),_,_]=_;rw[ek]
    ·rcases cy hj with w|w
     ·rw[← w];exact z
     ·exact h0 j w
    ·show ((((k+1:Nat):Int)-1)).toNat<(((k+1:Nat):Int)).toNat;lia
   ·exact⟨k+1,rfl,hm,h0,.inr z⟩
  ·exact⟨m,rfl,hm,h0,.inl (by lia)⟩
 ·rintro _ ⟨m,rfl,hm,h0,hlast⟩;obtain⟨fm,wr⟩:=Po.form hb hm h0 hlast;have tail:∀ g:Nat,g=Po.gl b.natAbs (ts.take m)->∀ o,lJ.run (ux Q) [.val (.lst (ts.map .int)),.val (.int b),.val (.int m),.val (.int g),o]:=by
   rintro g hg o;rw[← hg] at fm wr;have g0:0<g:=by rw[hg];exact Po.CJ (by lia) _
   have gle:g<=b.natAbs:=by rw[hg];exact cU (by lia) (Po.yY _ _).1
   have cd:∀ x:Int,v9 x (g:Int):=fun x=>⟨by lia,9000000,hl.le (by rw[br];exact gle),by decide⟩;have ec:=Eh hm;refine⟨(congrArg (fun l:List D=>l.length<=Pv) ec).mpr (by rw[aa,aU];exact vO (by lia)),mI (fun z=>z.fdiv (g:Int)) (ts.take m),mI.nil,fun i d ys hd _ hy=>?_,fun ys _ hy=>?_⟩
   ·have hd:(xv (ts.map D.int) none (some (m:Int)))[i]? = some d:=hd;rw[ec] at hd;obtain⟨z,hz,rfl⟩:=vH hd;exact⟨cd _,hy.snoc hz rfl⟩
   ·cases hy.all (by rw[ec,aa]);exact⟨cd _,vK,q _ ⟨_,_,rfl,fm,wr,by rw[aa,aU];lia⟩⟩
  have ec:=Eh hm;refine⟨fun i s=>∃ o,s=[.val (.lst (ts.map .int)),.val (.int b),.val (.int m),.val (.int ((Po.gl b.natAbs ((ts.take m).take i):Nat):Int)),o],⟨.no,?_⟩,?_,?_⟩
  ·show [_,_,_,SD.val (.int b),_]=[_,_,_,SD.val (.int ((b.natAbs:Nat):Int)),_];rw[bn]
  ·rintro i d _ hd ⟨o,rfl⟩;have hd:(xv (ts.map D.int) none (some (m:Int)))[i]? = some d:=hd;rw[ec] at hd;obtain⟨hi,rfl⟩:=yV hd;refine yo (p:=(((Po.gl b.natAbs ((ts.take m).take i):Nat):Int)=1)) (fun c=>?_) (fun c=>?_)
   ·refine tail _ ?_ _;have e:ts.take m=(ts.take m).take i++(ts.take m).drop i:=(List.take_append_drop i _).symm;have c':Po.gl b.natAbs ((ts.take m).take i)=1:=by lia
    rw[e,K8,List.take_append_of_le_length (by rw[aU];lia),hJ (by rw[aU];lia),c',Po.K7]
   ·refine⟨rfl,(_,_),rfl,?_⟩;rintro _ rfl;refine⟨.val (.int ((ts.take m).getD i 0)),?_⟩;rw[vh hi,D6];rfl
  ·rintro _ ⟨o,hs⟩;rw[show (xv (ts.map D.int) none (some (m:Int))).length=(ts.take m).length by rw[ec,aa],b9] at hs;subst hs;exact tail _ rfl _
def nI(F:Nat->Int):Nat->List D->Prop:=fun i ys=>∃ rs:List Int,ys=rs.map D.int/\rs.length=i/\∀ k,k<i->rs.getD k 0=F k
theorem nI.nil:nI F 0 []:=⟨[],rfl,rfl,fun k hk=>absurd hk (bZ _)⟩
theorem At(rs:List Int)(z:Int)(i:Nat):(rs++[z]).getD i 0=if i=rs.length then z else rs.getD i 0:=by
 rw[ae,ae];by_cases c:i=rs.length
 ·rw[QI c,c];simp
 ·rw[QJ c];rcases ar i rs.length with h|h
  ·rw[bE h]
  ·rw[bC (by simp;lia),bC h]
theorem nI.snoc(h:nI F i ys)(hz:z=F i):nI F (i+1) (ys++[.int z]):=by
 obtain⟨rs,rfl,l,h⟩:=h;refine⟨rs++[z],by simp,by rw[aB,l];rfl,fun k hk=>?_⟩;rw[At,l];by_cases e:k=i
 ·rw[QI e,e];exact hz
 ·rw[QJ e];exact h k (by lia)
def kc:SpB:=.of 2 (α:=List Int×Int×Nat×Nat×Nat×Nat) (fun (ts,c,n,M,C,Z) ds=>ds=[.tup (ts.map .int),.int c]/\ts.length=n+1/\n<=100/\(∀ i,Lt2 M (ts.getD i 0))/\Lt2 C c/\M<=1000000/\Lt2 Z (ts.getD n 0)/\Z<=9000000/\(C+1)*(n+1)<=400000/\ts.getD n 0≠0)
 (fun (ts,c,n,M,C,Z) d=>∃ rs:List Int,d = .lst (rs.map .int)/\rs.length=n+1/\∀ i,i<=n->rs.getD i 0=(ts.getD i 0*c^(n-i)).fdiv (ts.getD n 0))
def jX:TSd:=(iZ [] (i7 (jv (iS 0)) [3,4] (gTp [3,4]) jt (iV .FloorDiv (iV .Mult (iS 4) (iU iW (iR (iS 1) (iR (iV .Sub (iS 2) (iS 3)) iT)))) (dIx (iS 0) (iS 2)))))
def rM:TSd:=dSq (iY [] (gNm 2) (iV .Sub (dB bLen bLen.mono (iR (iS 0) iT)) (dC (.int 1))))
 jX
theorem oG:Does 5 rM kc:=by
 rintro ds Q hn ⟨⟨ts,c,n,M,C,Z⟩,⟨rfl,ln,hn,hM,hC,M9,hZ,Z9,hz,hL⟩,q⟩;dsimp only at ln hn hM hC M9 hZ Z9 hz hL q;suffices h1:jX.run (ux Q) [.val (.tup (ts.map .int)),.val (.int c),.val (.int n),.no,.no] by
  show jX.run (ux Q) [.val (.tup (ts.map .int)),.val (.int c),.val (.int (((ts.map D.int).length:Int)-1)),.no,.no];rw[aa,ln,show ((n+1:Nat):Int)-1=(n:Int) by lia];exact h1
 have le:(vc (ts.map D.int)).length=n+1:=by simp[vc,ln]
 refine⟨(congrArg (· <= Pv) le).mpr (vO (by lia)),nI (fun k=>(ts.getD k 0*c^(n-k)).fdiv (ts.getD n 0)),nI.nil,fun i d ys hd _ hy=>?_,fun ys _ hy=>?_⟩
 ·obtain⟨hi,rfl⟩:=uW hd;have hz2:(C+1)*(n-i+1)<=400000:=aD (ai _ (by lia)) hz;have hz3:C*(n-i)<=400000:=aD (bI (eO _) (eO _)) hz2;refine⟨rfl,rfl,(c,n-i,C),⟨?_,hC,by lia,hz2⟩,?_⟩
  ·show [D.int c,.int ((n:Int)-(i:Int))]=[D.int c,.int ((n-i:Nat):Int)];rw[show (n:Int)-(i:Int)=((n-i:Nat):Int) by lia]
  ·rintro _ rfl;exact⟨⟨M,C*(n-i)+1,hM i,Hv.uz hC (n-i),by lia⟩,vg (uP (by lia)) ⟨⟨hL,Z,hZ,by lia⟩,hy.snoc rfl⟩⟩
 ·have hy:nI _ (vc (ts.map D.int)).length ys:=hy;rw[le] at hy;obtain⟨rs,rfl,l,h⟩:=hy;exact q _ ⟨rs,rfl,l,fun i hi=>h i (by lia)⟩
def lQ:SpB:=.of 3 (α:=List Int×Nat×Nat×Nat×(Nat->Int)) (fun (fs,k,s,A,g) ds=>ds=[.lst (fs.map .int),.int k,.int s]/\1<=k/\k<=100/\1<=s/\s<=100/\s<=fs.length/\A<=100000/\(∀ i,Lt2 A (fs.getD i 0))/\fs.getD 0 0=1/\g 0=1/\(∀ j,j<=s-1->Ca.pw g k j=fs.getD j 0))
 (fun (fs,k,s,A,g) d=>∃ rs:List Int,d = .lst (rs.map .int)/\rs.length=s/\(∀ j,j<s->rs.getD j 0=g j)/\(∀ j,j<s->Lt2 ((A+22)*j+1) (g j)))
def oH:TSd:=(iZ [3] (iS 3))
def oI:TSd:=dSq (jq [] (kI (dC (.int 1)) (iS 2)) (gNm 4)
 (dSq (iY [] (gNm 5) (i7 (kI (dC (.int 1)) (iV .Add (iS 4) (dC (.int 1)))) [6] (gNm 6) jt (iV .Mult (iV .Mult (iV .Sub (iV .Mult (iS 6) (iV .Add (iS 1) (dC (.int 1)))) (iV .Mult (iS 4) (iS 1))) (dIx (iS 0) (iS 6))) (pR 3 (iV .Sub (iS 4) (iS 6))))))
 (oz [] 3 (iV .FloorDiv (dB bSum bSum.mono (iR (iS 5) iT)) (iV .Mult (iS 4) (iS 1))))))
 oH
def qZ:TSd:=dSq (kY [] 3 (je (iR (dC (.int 1)) iT)))
 oI
theorem z5(rs:List Int)(z:Int):rs.map D.int++[D.int z]=(rs++[z]).map D.int:=by simp
theorem n6:Does 7 qZ lQ:=by
 rintro ds Q hn ⟨⟨fs,k,n,M,g⟩,⟨rfl,k1,k2,n1,n2,ln,M9,hM,f0,g0,hg⟩,q⟩;dsimp only at k1 k2 n1 n2 ln M9 hM f0 g0 hg q;have hst:∀ j,j<=n-1->_:=fun j hj=>Ca.step (a:=fun i=>fs.getD i 0) g0 f0 hg hj;have hlt:=Ca.HI (A:=M) k1 k2 (show n-1<=100 by lia) g0 hM hst;have en:((n:Int)-1).toNat=n-1:=by lia
 refine⟨zn,⟨by lia,by lia,by lia,by lia⟩,fun i s=>∃(o4 o5 o6:SD) (rs:List Int),s=[.val (.lst (fs.map .int)),.val (.int k),.val (.int n),.own (rs.map .int),o4,o5,o6]/\rs.length=i+1/\∀ j,j<i+1->rs.getD j 0=g j,⟨.no,.no,.no,[1],rfl,rfl,fun j hj=>?_⟩,?_,?_⟩
 ·rw[show j=0 by lia,g0];rfl
 ·rintro i d _ hd ⟨o4,o5,o6,rs,rfl,lr,hrs⟩;obtain⟨hi,rfl⟩:=uG hd;have hi':i+1<=n-1:=by lia
  have e1:(1:Int)+(i:Int)=((i+1:Nat):Int):=by lia
  rw[e1];have c2:(i+1)*k<=100*100:=bI (by lia) (by lia);have lk:Lt2 7 ((k:Nat):Int):=by unfold Lt2;lia
  have lk1:Lt2 7 ((k:Int)+1):=by unfold Lt2;lia
  have lj:Lt2 7 ((i+1:Nat):Int):=by unfold Lt2;lia
  have lu:(vN 1 (((i+1:Nat):Int)+1-1).toNat).length=i+1:=by rw[uw];lia
  refine⟨⟨by lia,by lia,by lia,by lia⟩,(congrArg (· <= Pv) lu).mpr (vO (by lia)),nI (fun j=>(((j+1:Nat):Int)*(k+1)-((i+1:Nat):Int)*k)*fs.getD (j+1) 0*g (i+1-(j+1))),nI.nil,fun m d ys hd _ hy=>?_,fun ys _ hy=>?_⟩
  ·obtain⟨hm,rfl⟩:=uG hd;have hm:m<i+1:=by lia
   have e2:(1:Int)+(m:Int)=((m+1:Nat):Int):=by lia
   rw[e2];have lm:Lt2 7 ((m+1:Nat):Int):=by unfold Lt2;lia
   have l1:Lt2 15 (((m+1:Nat):Int)*(k+1)-((i+1:Nat):Int)*k):=(lm.mul lk1).sub (lj.mul lk);have l3:=hlt (i+1-(m+1)) (by lia);have m3:(M+22)*(i+1-(m+1))<=100022*100:=bI (by lia) (by lia);have ej:((i+1:Nat):Int)-((m+1:Nat):Int)=((i+1-(m+1):Nat):Int):=by lia
   refine⟨⟨_,_,lm,lk1,by decide⟩,⟨_,_,lj,lk,by decide⟩,vg (uP (by lia)) ⟨⟨_,_,l1,hM (m+1),by lia⟩,vF (d:=.int (g (i+1-(m+1)))) ?_ ⟨⟨_,_,l1.mul (hM (m+1)),l3,by lia⟩,hy.snoc rfl⟩⟩⟩;rw[ej,← hrs (i+1-(m+1)) (by lia)];exact we (uP (by lia))
  ·have hy:nI _ (vN 1 (((i+1:Nat):Int)+1-1).toNat).length ys:=hy;rw[lu] at hy;obtain⟨us,rfl,lu,hus⟩:=hy;have es:us.sum=((i+1:Nat):Int)*k*g (i+1):=by
    rw[Ca.J3,lu,← hst (i+1) hi'];exact Cv.uo fun j hj=>hus j hj
   have jk:((i+1:Nat):Int)*k≠0:=by
    have:0<(i+1)*k:=gH (by lia) k1;have e:((i+1:Nat):Int)*k=(((i+1)*k:Nat):Int):=by push_cast;rfl
    rw[e];lia
   refine⟨us,rfl,⟨_,_,lj,lk,by decide⟩,⟨jk,_,lj.mul lk,by decide⟩,(by rw[aa,P4];lia),?_⟩;refine⟨_,_,_,rs++[_],congrArg (fun l=>[SD.val (.lst (fs.map .int)),.val (.int k),.val (.int n),.own l,_,_,_]) (z5 _ _),by rw[aB,lr];rfl,fun j hj=>?_⟩;rw[At,lr];by_cases e:j=i+1
   ·rw[QI e,e,es,bB,dZ _ jk]
   ·rw[QJ e];exact hrs j (by lia)
 ·rintro _ ⟨o4,o5,o6,rs,rfl,lr,hrs⟩;rw[uw,en] at lr hrs;exact q _ ⟨rs,rfl,by lia,fun j hj=>hrs j (by lia),fun j hj=>hlt j (by lia)⟩
theorem II(h0:l≠0)(h:l*x.fdiv l=x)(hx:Lt2 n x):Lt2 n (x.fdiv l):=by
 refine hx.le ?_;generalize x.fdiv l=y at h;rw[← h,aR];exact aQ _ (by lia)
theorem FF{rs:List Int}(h:rs.length=n+1)(hj:j<=n):rs.reverse.getD j 0=rs.getD (n-j) 0:=by
 rw[ae,bK (by lia),ae,h];congr 2
def oJ:TSd:=(iZ [] (iU ji (iR (iV .Add (je (iR (dC (.int 0)) iT)) (iS 7)) (iR (iU iW (iR (iS 4) (iR (iV .Sub (iS 1) (dC (.int 1))) iT))) iT))))
def oK:TSd:=dSq (iY [] (gNm 7) (i7 (kI (dC (.int 1)) (iV .Add (iS 1) (dC (.int 1)))) [8] (gNm 8) jt (iV .Mult (dIx (iS 6) (iV .Sub (iS 1) (iS 8))) (iU iW (iR (iS 4) (iR (iV .Sub (iS 8) (dC (.int 1))) iT))))))
 oJ
def jK:TSd:=dSq (iY [] (gNm 6) (iU lQ (iR (iS 5) (iR (iS 3) (iR (iS 1) iT)))))
 oK
def jL:TSd:=dSq (iY [] (gNm 5) (qM (iU kc (iR (dIx (iS 0) (dC (.int 0))) (iR (iS 4) iT)))))
 jK
def jM:TSd:=dSq (iY [] (gNm 4) (iV .Mult (iV .Mult (dB bAbs bAbs.mono (iR (dIx (dIx (iS 0) (dC (.int 0))) (iS 2)) iT)) (iS 3)) (iS 3)))
 jL
def jN:TSd:=dSq (iY [] (gNm 3) (iV .FloorDiv (iS 2) (iS 1)))
 jM
def q8:TSd:=dSq (iY [] (gNm 2) (iU jf (iR (iS 0) iT)))
 jN
theorem Gb(P:List Int)(B:Int):D.dps [.tup (P.map D.int),.int B]<=60:=by
 have h:∀ P:List Int,D.dps (P.map D.int)<=1:=by
  intro P;induction P with
  | nil=>decide
  | cons a l ih =>
   show max (D.dp (.int a)) (D.dps (l.map D.int))<=1;have:D.dp (.int a)<=1:=aE _;lia
 show max (D.dps (P.map D.int)+1) (D.dps [.int B])<=60;have e:D.dps [.int B]<=1:=h [B];have:=h P;lia
theorem yP(P:List Int)(B:Int):D.pls [.tup (P.map D.int),.int B]=true:=by
 show (D.pls (P.map D.int) && D.pls [.int B])=true;rw[D.pls_ints];rfl
theorem FqD.same(h:FqD n b d r)(h':FqD n' b' d' r):d=d'/\∃ t u:Int,d=fD t u:=by
 obtain⟨t,u,rfl,u0,g,lt,lu,e⟩:=h;obtain⟨t',u',rfl,u0',g',lt',lu',e'⟩:=h';have c:=(Qp.uD (by lia) (by lia)).mp (e'.symm.trans e);obtain⟨y1,y2⟩:=Fr.uniq (t:=t) (b:=u) (by lia) u0' g' (by rw[c]);obtain⟨w1,w2⟩:=Fr.uniq (t:=t) (b:=u) (by lia) u0 g rfl;rw[← y1,← y2,w1,w2];exact⟨rfl,_,_,rfl⟩
theorem Gu(h:(x.natAbs:Int)<(10:Int)^40):Lt2 133 x:=by
 unfold Lt2;have e:(10:Int)^40=10000000000000000000000000000000000000000:=by decide
 have e2:(2:Nat)^133=10889035741470030830827987437816582766592:=by decide
 rw[e] at h;rw[e2];lia
theorem BZ{α:Type}{xs:List α}{j n:Nat}{v:α}(h:xs[n-j]? = some v)(e:xs.length=n)(hj:1<=j)(hn:j<=n):Aj xs (-(j:Int))=some v:=by
 have e:CF xs.length (-(j:Int))=some (n-j):=by
  unfold CF;rw[e,QJ (by lia),QI (by lia)];congr 1;lia
 unfold Aj;rw[e];exact h
theorem Lq(z:Pc.Pz n 1 P B):B=1:=by
 have a:=z.fm.pos;have b:B.natAbs<2:=z.bot;lia
theorem MB(h0:0<=i)(h1:i<3)(qa:Q a)(qb:Q b)(qc:Q c):itD [a,b,c] i Q:=by
 rcases (by lia:i=0\/i=1\/i=2) with rfl|rfl|rfl
 ·exact qa
 ·exact qb
 ·exact qc
theorem uB(f:Po.Fm P B)(l:P.length=n+1):P.getD n 0≠0:=by
 rcases f.last with e|e
 ·rw[e] at l;simp at l
 ·rwa [l] at e
def jz:SpB:=.of 2 (α:=Int×Int) (fun x ds=>ds=[.int x.1,.int x.2]/\x.2≠0/\Lt2 9000000 x.2) (fun x d=>d=fD (Fr.top x.1 x.2) (Fr.bot x.1 x.2))
def p8:TSd:=(iZ [] (jg (iR (iV .FloorDiv (iS 0) (iS 2)) (iR (iV .FloorDiv (iS 1) (iS 2)) iT))))
def qd:TSd:=dSq (dIf [] (i5 (i6 .Lt (iS 1) (dC (.int 0))))
 (iY [] (gNm 2) (mw (iS 2)))
 i8)
 p8
def rN:TSd:=dSq (iY [] (gNm 2) (iU jj (iR (iS 0) (iR (iS 1) iT))))
 qd
theorem oO:Does 3 rN jz:=by
 rintro ds Q hn ⟨⟨a,b⟩,⟨rfl,h0,hl⟩,q⟩;refine⟨rfl,(a,b),rfl,?_⟩;rintro _ rfl;have fin:∀ p:Int,p=Fr.part a b->v9 a p/\v9 b p/\2<=Pv/\Q (.tup [.int (a.fdiv p),.int (b.fdiv p)]):=by
  rintro p rfl;have c:∀ x,v9 x (Fr.part a b):=fun x=>⟨Fr.DI h0,9000000,hl.le (Fr.DJ h0),by decide⟩;exact⟨c _,c _,vK,q _ rfl⟩
 refine yo (p:=b<0) (fun c=>?_) (fun c=>?_)
 ·exact fin _ (by unfold Fr.part;rw[QI c])
 ·exact fin _ (by unfold Fr.part;rw[QJ c])
theorem FqD.ofN(u0:u≠0)(lt:Lt2 n t)(lu:Lt2 b u):FqD n b (fD (Fr.top t u) (Fr.bot t u)) ((t:Rat) / (u:Rat)):=by
 obtain⟨l1,l2,l3⟩:=Fr.low (t:=t) (b:=u) u0;obtain⟨m1,m2⟩:=Fr.Ff (t:=t) (b:=u) u0;exact⟨_,_,rfl,l1,l3,lt.le m1,lu.le m2,(Qp.uD u0 (by lia)).mpr l2.symm⟩
def jw:SpB:=.of 2 (α:=D×D×Rat×Rat×Nat×Nat×Nat×Nat) (fun (d1,d2,r1,r2,n1,b1,n2,b2) ds=>ds=[d1,d2]/\FqD n1 b1 d1 r1/\FqD n2 b2 d2 r2/\r2≠0/\b1+n2<=9000000/\n1+b2<=1000000)
 (fun (d1,d2,r1,r2,n1,b1,n2,b2) d=>FqD (n1+b2) (b1+n2) d (r1 / r2))
def sv:TSd:=(iZ [] (iU jz (iR (iV .Mult (dIx (iS 0) (dC (.int 0))) (dIx (iS 1) (dC (.int 1)))) (iR (iV .Mult (dIx (iS 0) (dC (.int 1))) (dIx (iS 1) (dC (.int 0)))) iT))))
theorem qf:Does 2 sv jw:=by
 rintro ds Q hn ⟨⟨d1,d2,r1,r2,n1,b1,n2,b2⟩,⟨rfl,f1,f2,z2,hb,hn⟩,q⟩;dsimp only at f1 f2 z2 hb hn q;obtain⟨t1,u1,rfl,p1,g1,lt1,lu1,e1⟩:=f1;obtain⟨t2,u2,rfl,p2,g2,lt2,lu2,e2⟩:=f2;have t20:t2≠0:=(Fq.ne (p:=0) p2 e2).mp z2;refine⟨⟨_,_,lt1,lu2,by lia⟩,⟨_,_,lu1,lt2,by lia⟩,rfl,(t1*u2,u1*t2),⟨rfl,b8 (by lia) t20,(lu1.mul lt2).mono (by lia)⟩,?_⟩;rintro _ rfl;have:=FqD.ofN (t:=t1*u2) (u:=u1*t2) (b8 (by lia) t20) (lt1.mul lu2) (lu1.mul lt2);refine q _ ?_;rw[e1,e2];have e:((t1*u2:Int):Rat) / ((u1*t2:Int):Rat)=(t1:Rat) / (u1:Rat) / ((t2:Rat) / (u2:Rat)):=by
  have h1:(u1:Rat)≠0:=by exact_mod_cast ao p1
  have h2:(u2:Rat)≠0:=by exact_mod_cast ao p2
  have h3:(t2:Rat)≠0:=by exact_mod_cast t20
  rw[az,az];grind
 rw[← e];exact this
def ja:SpB:=.of 2 (α:=List Int×Int×Nat×Nat×Nat) (fun (P,B,k,n,b) ds=>ds=[pD P B,.int k]/\Pc.Pz n b P B/\b<=9000000) (fun (P,B,k,n,b) d=>FqD n b d (Qp.q P B k))
def nc:TSd:=(iZ [] (jg (iR (dC (.int 0)) (iR (dC (.int 1)) iT))))
def ng:TSd:=dSq (dIf [] (i5 (jU .LtE .Lt (dC (.int 0)) (iS 1) (dB bLen bLen.mono (iR (iS 2) iT))))
 (iZ [] (iU jz (iR (dIx (iS 2) (iS 1)) (iR (iS 3) iT))))
 i8)
 nc
def oQ:TSd:=dSq (iY [] (gTp [2,3]) (iS 0))
 ng
theorem mF:Does 4 oQ ja:=by
 rintro ds Q hn ⟨⟨P,B,k,n,b⟩,⟨rfl,z1,hb⟩,q⟩;dsimp only at z1 hb q;have p1:=z1.fm.pos;have out:P.length<=k->FqD n b (fD 0 1) (Qp.q P B k):=fun c=>by
  rw[Qp.uK c];have:=vx (n:=n) (t:=0) (xB _);refine this.mono (ak _) ?_;cases b with
  | zero =>
   have:B.natAbs<1:=z1.bot;lia
  | succ b=>lia
 refine⟨rfl,?_⟩;refine yo (p:=((k:Nat):Int)<((P.map D.int).length:Nat)) (fun c=>?_) (fun c=>?_)
 ·rw[aa] at c;refine vg (uP (by lia)) ⟨rfl,(P.getD k 0,B),⟨rfl,by show B≠0;lia,z1.bot.mono hb⟩,?_⟩;rintro _ rfl;exact q _ (FqD.of p1 (z1.tops k) z1.bot)
 ·rw[aa] at c;exact⟨vK,q _ (out (by lia))⟩
def lV:SpB:=.of 1 (α:=List Int×Int×Nat×Nat×Nat) (fun (P,B,k,n,b) ds=>ds=[pD P B]/\P.length=k+1/\Pc.Pz n b P B/\b<=9000000) (fun (P,B,k,n,b) d=>FqD n b d (Qp.q P B k))
def t5:TSd:=(iZ [] (iU ja (iR (iS 0) (iR (iU jf (iR (iS 0) iT)) iT))))
theorem sx:Does 1 t5 lV:=by
 rintro ds Q hn ⟨⟨P,B,k,n,b⟩,⟨rfl,l,z1,hb⟩,q⟩;dsimp only at l z1 hb q;refine⟨rfl,(P,B),rfl,?_⟩;rintro _ rfl;refine⟨rfl,(P,B,k,n,b),⟨?_,z1,hb⟩,q⟩;show [pD P B,.int ((P.length:Int)-1)]=[pD P B,.int (k:Int)];rw[l,show ((k+1:Nat):Int)-1=(k:Int) by lia]
theorem v5(h:a≠0):0<Fr.cp a b:=by
 unfold Fr.cp;have:0<PV a b:=Int.gcd_pos_of_ne_zero_left b h;lia
theorem wO(a b:Int):Fr.cp a b∣a/\Fr.cp a b∣b:=by
 unfold Fr.cp;exact⟨Int.gcd_dvd_left ..,iQ ..⟩
theorem uF{b c:Int}(hc:0<c)(hb:0<b)(d:c∣b):b=c*b.fdiv c/\0<b.fdiv c/\(b.fdiv c).natAbs<=b.natAbs:=by
 obtain⟨q,rfl⟩:=d;rw[cV _ (by lia)];have q0:0<q:=by
  rcases eU q 0 with z|z|z
  ·have:=eE hc z;lia
  ·rw[z,bD] at hb;lia
  ·exact z
 refine⟨rfl,q0,?_⟩;rw[aR];exact aQ _ (by lia)
theorem GK{m x:Int}(h:0<m):m∣x*m.fdiv (Fr.cp m x):=by
 have g0:=v5 (a:=m) (b:=x) (by lia);obtain⟨g1,y,hy⟩:=wO m x;obtain⟨e,_,_⟩:=uF g0 h g1;generalize m.fdiv (Fr.cp m x)=q at *;generalize Fr.cp m x=g at *;refine⟨y,?_⟩;rw[hy,e];grind
def JU(W:Nat->Int)(v:Nat)(c:Int):Nat->Int:=fun j=>W j+(if v<=j then c*Pc.d0 (j-v) else 0)
theorem E9(h:W v=0):JU W v c v=c:=by
 unfold JU Pc.d0;rw[h,QI (ak _),QI (cI _)];lia
theorem Ao(h:j≠v):JU W v c j=W j:=by
 unfold JU Pc.d0;by_cases z:v<=j
 ·rw[QI z,QJ (by lia)];lia
 ·rw[QJ z];lia
theorem Lg(W g:Nat->Int)(v:Nat)(c:Int)(k:Nat):Cv.cv (JU W v c) g k=Cv.cv W g k+(if v<=k then c*g (k-v) else 0):=by
 unfold JU;rw[Pc.BU,Pc.BR,Pc.y6]
def rO:TSd:=(iZ [2,4] (jg (iR (qM (iS 4)) (iR (iS 2) iT))))
def kP:TSd:=dSq (jB (i5 (i6 .Gt (mS 2) (iS 3)))
 (dSq (qO 5 2)
 (dSq (oz [] 4 (iS 5))
 (jq [] (mY (iS 3)) (gNm 6)
 (mU [] 2 (iV .Add (iV .Sub (mS 2) (iS 3)) (iS 6)) .Sub (iV .Mult (iS 5) (dIx (iS 1) (iS 6))))))))
 rO
def rP:TSd:=dSq (kY [] 4 (je iT))
 kP
def tv:TSd:=dSq (qP [] 2 3 (jV (iS 0)) (iV .Sub (dB bLen bLen.mono (iR (iS 1) iT)) (dC (.int 1))))
 rP
theorem IM{l:List Int}(h:k<l.length-1):l.dropLast.getD k 0=l.getD k 0:=by
 rw[ae,ae,fi,fQ,QI h]
theorem Fu{l:List Int}(h:j<l.length):(l.set j z).getD k 0=if k=j then z else l.getD k 0:=by
 rw[ae,ae,aP];by_cases c:j=k
 ·subst c;rw[QI rfl,QI h,QI rfl];rfl
 ·rw[QJ c,QJ (Ne.symm c)]
theorem A5{l:List D}{n:Nat}{d:D}{F:D->Prop}(h:l[n]? = some d)(q:F d):(match l[n]? with|some x=>F x|none=>False):=by
 rw[h];exact q
end Dp
namespace Dg
open Cv
theorem OS(f g:Nat->Int)(e:Int)(k:Nat):cv f g k*e=sm (fun j=>f j*g (k-j)*e) (k+1):=(vB ..).symm
theorem Aq(hb:∀ j,j<=s->b j*Gs=G j*c^(s-j))(hG:∀ j,s<j->G j=0)(hb0:∀ j,s<j->b j=0)(hl:Gs*ov=un*U)(u0:0<un)(ht:s*(t+1)<=n)
  (hR:∀ k,R k*(B*un^(t+1)*c^(n-s*(t+1)))=L k*c^k*ov^(t+1)*C) (k:Nat):cv R G k*(B*un^t*c^(n-s*t))=cv L b k*(c^k*ov^t*(C*U)):=by
 have st:s*(t+1)=s*t+s:=bF s t;have ec:c^(n-s*t)=c^(n-s*(t+1))*c^s:=by
  rw[← cT];congr 1;lia
 have key:cv R G k*(B*un^(t+1)*c^(n-s*(t+1))*c^s)=cv L b k*(c^k*ov^(t+1)*C*Gs):=by
  rw[OS,OS];refine uo fun j hj=>?_;rcases ar s (k-j) with z|z
  ·rw[hG _ z,hb0 _ z];simp
  ·have e1:=hR j;have e2:=hb (k-j) z;have e3:c^s=c^(s-(k-j))*c^(k-j):=by
    rw[← cT];congr 1;lia
   have e4:c^k=c^j*c^(k-j):=by
    rw[← cT];congr 1;lia
   rw[e3,e4];generalize c^(s-(k-j))=x at *;generalize c^(k-j)=y at *;generalize B*un^(t+1)*c^(n-s*(t+1))=w at *;generalize ov^(t+1)=v at *;generalize c^j=cj at *
   calc R j*G (k-j)*(w*(x*y))=(R j*w)*(G (k-j)*x)*y:=by grind
    _=L j*b (k-j)*(cj*y*v*C*Gs):=by rw[e1,← e2];grind
 refine aK (ao u0) ?_
 calc cv R G k*(B*un^t*c^(n-s*t))*un=cv R G k*(B*un^(t+1)*c^(n-s*(t+1))*c^s):=by rw[ec,aJ];grind
  _=cv L b k*(c^k*ov^(t+1)*C*Gs):=key
  _=cv L b k*(c^k*ov^t*(C*U))*un:=by
   rw[aJ];have:cv L b k*(c^k*(ov^t*ov)*C*Gs)=cv L b k*(c^k*ov^t*C)*(Gs*ov):=by grind
   rw[this,hl];grind
theorem LX(h:X*E=Y*(w*(C*U))){p D:Int}(hp:p*E=D*w*p2):(X*p2+p*(C*U))*E=(D+Y)*w*(C*U*p2):=by
 calc (X*p2+p*(C*U))*E=(X*E)*p2+(p*E)*(C*U):=by grind
  _=(D+Y)*w*(C*U*p2):=by rw[h,hp];grind
end Dg
namespace Dp
open PySem L2
theorem vz(h:Lt2 M z)(hk:k<=m):Lt2 (M*m+1) (z^k):=(Hv.uz h k).mono (ix (ai _ hk) 1)
theorem vZ(ts:List Int):(vc (ts.map D.int)).length=ts.length:=by simp[vc]
theorem Hm{b r:Int}(hb:0<b)(hr:0<r):0<b*r.fdiv (Fr.cp b r)/\r∣b*r.fdiv (Fr.cp b r):=by
 have g0:=v5 (a:=b) (b:=r) (by lia);obtain⟨g1,g2⟩:=wO b r;obtain⟨e,q0,_⟩:=uF g0 hr g2;refine⟨ay hb q0,?_⟩;obtain⟨c,hc⟩:=g1;refine⟨c,?_⟩;generalize r.fdiv (Fr.cp b r)=q at *;generalize Fr.cp b r=g at *;subst hc e;grind
abbrev Hu(fs:List (Int×Int)):List D:=fs.map fun f=>fD f.1 f.2
theorem A6{i:Nat}{d:D}(h:(Hu fs)[i]? = some d):∃ f,fs[i]? = some f/\d=fD f.1 f.2:=by
 rw[aM] at h;obtain⟨p,hp,rfl⟩:=ab.mp h;exact⟨p,hp,rfl⟩
def Sq(x:D)(A:List Int):Prop:=x = .lst (A.map .int)\/x = .tup (A.map .int)
theorem Sq.it(h:Sq x A):∀ R:List D->Prop,R (A.map .int)->itemsD x R:=fun R r=>by
 rcases h with rfl|rfl
 ·exact r
 ·exact r
def jx:SpB:=.of 2 (α:=D×D×List Int×List Int) (fun (x,y,A,B) ds=>ds=[x,y]/\Sq x A/\Sq y B/\A.length<=1000/\B.length<=1000)
 (fun (x,y,A,B) d=>∃ rs:List Int,d = .lst (rs.map .int)/\rs.length=max A.length B.length/\∀ k,rs.getD k 0=A.getD k 0+B.getD k 0)
def lY:TSd:=(iZ [4] (iS 4))
def ma:TSd:=dSq (jq [] (jv (iS 3)) (gTp [5,6])
 (mU [] 4 (iS 5) .Add (iS 6)))
 lY
def jb:TSd:=dSq (kY [] 4 (jV (iS 2)))
 ma
def ni:TSd:=dSq (iY [] (gTp [2,3]) (qL (i5 (i6 .GtE (dB bLen bLen.mono (iR (iS 0) iT)) (dB bLen bLen.mono (iR (iS 1) iT)))) (jg (iR (iS 0) (iR (iS 1) iT))) (jg (iR (iS 1) (iR (iS 0) iT)))))
 jb
theorem I0{s0 s1:SD}{x y:D}{Q:D->Prop}(hx:Sq x L)(hy:Sq y S)(hl:S.length<=L.length)(q:∀ rs:List Int,rs.length=L.length->(∀ k,rs.getD k 0=L.getD k 0+S.getD k 0)->Q (.lst (rs.map .int))) :
  jb.run (ux Q) [s0,s1,.val x,.val y,.no,.no,.no]:=by
 refine hx.it _ (hy.it _ ⟨fun i s=>∃(o5 o6:SD) (rs:List Int),s=[s0,s1,.val x,.val y,.own (rs.map .int),o5,o6]/\rs.length=L.length/\∀ k,rs.getD k 0=L.getD k 0+(if k<i then S.getD k 0 else 0),⟨.no,.no,L,rfl,rfl,fun k=>by rw[QJ (by lia),cF]⟩,?_,?_⟩)
 ·rintro i d _ hd ⟨o5,o6,rs,rfl,lr,hr⟩;obtain⟨hi,rfl⟩:=uW hd;refine⟨rfl,by show (0:Int)<=((i:Nat):Int);lia,?_⟩;refine A5 (d:=.int (rs.getD i 0)) (uP (ts:=rs) (i:=i) (by lia)) ⟨.val (.int (i:Nat)),.val (.int (S.getD i 0)),rs.set i (rs.getD i 0+S.getD i 0),?_,by rw[bx,lr],fun k=>?_⟩
  ·show [s0,s1,.val x,.val y,.own ((rs.map D.int).set i (.int (rs.getD i 0+S.getD i 0))),.val (.int (i:Nat)),.val (.int (S.getD i 0))]=_;rw[map_set]
  ·rw[Fu (by lia)];by_cases e:k=i
   ·rw[QI e,e,hr i,QJ (by lia),QI (by lia)];lia
   ·rw[QJ e,hr k];by_cases c:k<i
    ·rw[QI c,QI (by lia)]
    ·rw[QJ c,QJ (by lia)]
 ·rintro _ ⟨o5,o6,rs,rfl,lr,hr⟩;refine q rs lr fun k=>?_;have h:=hr k;rw[vZ] at h;rw[h];by_cases c:k<S.length
  ·rw[QI c]
  ·rw[QJ c,uj (fs:=S) (by lia)]
theorem kQ:Does 7 ni jx:=by
 rintro ds Q hn ⟨⟨x,y,A,B⟩,⟨rfl,hx,hy,la,lb⟩,q⟩;dsimp only at hx hy la lb q;have g1:B.length<=A.length->jb.run (ux Q) [.val x,.val y,.val x,.val y,.no,.no,.no]:=fun c=>I0 hx hy c fun rs lr hr=>q _ ⟨rs,rfl,by rw[lr];lia,hr⟩;have g2:A.length<=B.length->jb.run (ux Q) [.val x,.val y,.val y,.val x,.no,.no,.no]:=fun c=>I0 hy hx c fun rs lr hr=>q _ ⟨rs,rfl,by rw[lr];lia,fun k=>by rw[hr k];lia⟩;have key:(if decide ((((B.map D.int).length:Nat):Int)<=(((A.map D.int).length:Nat):Int))=true then (2<=Pv/\2=2/\jb.run (ux Q) [.val x,.val y,.val x,.val y,.no,.no,.no]) else (2<=Pv/\2=2/\jb.run (ux Q) [.val x,.val y,.val y,.val x,.no,.no,.no])):=by
  refine yo (fun c=>⟨vK,rfl,g1 ?_⟩) (fun c=>⟨vK,rfl,g2 ?_⟩)
  ·rw[aa,aa] at c;lia
  ·rw[aa,aa] at c;lia
 rcases hx with rfl|rfl <;> rcases hy with rfl|rfl <;> exact key
def jF:SpB:=.of 2 (α:=D×D×List Int×List Int×Nat×Nat) (fun (x,y,A,B,n,m) ds=>ds=[x,y]/\Sq x A/\Sq y B/\A.length<=450/\B.length<=450/\(∀ i,Lt2 n (A.getD i 0))/\(∀ i,Lt2 m (B.getD i 0))/\n+m<=100000000)
 (fun (x,y,A,B,n,m) d=>∃ rs:List Int,d = .lst (rs.map .int)/\rs.length<=A.length+B.length/\∀ k,rs.getD k 0=Cv.cv (Cv.fn A) (Cv.fn B) k)
def kB:TSd:=(iZ [2] (iS 2))
def jn:TSd:=dSq (jq [] (jv (iS 0)) (gTp [3,4])
 (jq [] (jv (iS 1)) (gTp [5,6])
 (mU [] 2 (iV .Add (iS 3) (iS 5)) .Add (iV .Mult (iS 4) (iS 6)))))
 kB
def kC:TSd:=dSq (kY [] 2 (iV .Mult (je (iR (dC (.int 0)) iT)) (iV .Sub (iV .Add (dB bLen bLen.mono (iR (iS 0) iT)) (dB bLen bLen.mono (iR (iS 1) iT))) (dC (.int 1)))))
 jn
def md:TSd:=dSq (dIf [] (mB (j5 (kA (iS 0))) (j5 (kA (iS 1))))
 (iZ [] (je iT))
 i8)
 kC
theorem LY{x y:D}{n m:Nat}{Q:D->Prop}(hx:Sq x A)(hy:Sq y B)(a0:0<A.length)(b0:0<B.length)(hA:∀ i,Lt2 n (A.getD i 0))(hB:∀ i,Lt2 m (B.getD i 0))(hnm:n+m<=100000000)(q:∀ rs:List Int,rs.length<=A.length+B.length->(∀ k,rs.getD k 0=Cv.cv (Cv.fn A) (Cv.fn B) k)->Q (.lst (rs.map .int))) :
  jn.run (ux Q) [.val x,.val y,.own ((Pu (A.length+B.length-1) (0:Int)).map .int),.no,.no,.no,.no]:=by
 refine hx.it _ ⟨fun i s=>∃(rs:List Int) (o3 o4 o5 o6:SD),s=[.val x,.val y,.own (rs.map .int),o3,o4,o5,o6]/\rs.length=A.length+B.length-1/\∀ k,rs.getD k 0=Cv.tm (Cv.fn A) (Cv.fn B) i k,⟨_,_,_,_,_,rfl,aX,fun k=>yL _ _⟩,?_,?_⟩
 ·rintro i d _ hd ⟨rs,o3,o4,o5,o6,rfl,lr,hr⟩;obtain⟨hi,rfl⟩:=uW hd;refine⟨rfl,hy.it _ ⟨fun k s=>∃(rs:List Int) (o5 o6:SD),s=[.val x,.val y,.own (rs.map .int),.val (.int (i:Nat)),.val (.int (A.getD i 0)),o5,o6]/\rs.length=A.length+B.length-1/\∀ m,rs.getD m 0=Cv.tm (Cv.fn A) (Cv.fn B) i m+(if i<=m/\m-i<k then Cv.fn A i*Cv.fn B (m-i) else 0),⟨rs,_,_,rfl,lr,fun m=>by rw[hr m,QJ (by lia),cF]⟩,?_,?_⟩⟩
  ·rintro k d _ hd ⟨rs',o5',o6',rfl,lr',hr4⟩;obtain⟨hk,rfl⟩:=uW hd;have hiF:i+k<rs'.length:=by lia
   refine⟨rfl,by show (0:Int)<=(i:Int)+(k:Int);lia,?_⟩;refine A5 (d:=.int (rs'.getD (i+k) 0)) (uP (ts:=rs') (i:=i+k) hiF) ⟨⟨n,m,hA i,hB k,hnm⟩,rs'.set (i+k) (rs'.getD (i+k) 0+A.getD i 0*B.getD k 0),.val (.int (k:Nat)),.val (.int (B.getD k 0)),?_,by rw[bx];exact lr',fun m=>?_⟩
   ·show [SD.val x,.val y,.own ((rs'.map D.int).set (i+k) (.int (rs'.getD (i+k) 0+A.getD i 0*B.getD k 0))),.val (.int (i:Nat)),.val (.int (A.getD i 0)),.val (.int (k:Nat)),.val (.int (B.getD k 0))]=_;rw[map_set]
   ·rw[wY hiF];by_cases e:m=i+k
    ·subst e;rw[QI rfl,hr4,QJ (by lia),QI ⟨by lia,by lia⟩,show i+k-i=k by lia,cF];rfl
    ·rw[QJ e,hr4];congr 1;by_cases c:i<=m/\m-i<k
     ·rw[QI c,QI ⟨c.1,by lia⟩]
     ·rw[QJ c,QJ (by lia)]
  ·rintro _ ⟨rs',o5',o6',rfl,lr',hr4⟩;rw[uy,aa] at hr4;refine⟨rs',_,_,_,_,rfl,lr',fun m=>?_⟩;rw[hr4 m,Cv.Ar];congr 1;by_cases c:i<=m
   ·rw[QI c];by_cases c':m-i<B.length
    ·rw[QI ⟨c,c'⟩]
    ·rw[QJ (fun z=>c' z.2),Cv.uk (P:=B) (by lia),bD]
   ·rw[QJ c,QJ (fun z=>c z.1)]
 ·rintro _ ⟨rs,o3,o4,o5,o6,rfl,lr,hr⟩;rw[uy,aa] at hr;exact q rs (by lia) fun k=>by rw[hr k,Cv.wo fun j h=>Cv.uk h]
theorem ke:Does 7 md jF:=by
 rintro ds Q hn ⟨⟨x,y,A,B,n,m⟩,⟨rfl,hx,hy,la,lb,hA,hB,hnm⟩,q⟩;dsimp only at hx hy la lb hA hB hnm q;have none:(A=[]\/B=[])->0<=Pv/\Q (.lst []):=fun h=>⟨aE _,q _ ⟨[],rfl,aE _,fun k=>by
  rcases h with rfl|rfl
  ·exact (Cv.yb fun _=>rfl).symm
  ·exact (Cv.GQ fun _=>rfl).symm⟩⟩
 cases A with
 | nil=>rcases hx with rfl|rfl <;> exact none (.inl rfl)
 | cons a A =>
  cases B with
  | nil=>rcases hx with rfl|rfl <;> rcases hy with rfl|rfl <;> exact none (.inr rfl)
  | cons b B =>
   have go:=LY (Q:=Q) hx hy (gh _) (gh _) hA hB hnm fun rs lr hr=>q _ ⟨rs,rfl,lr,hr⟩;have e0:((((a::A).map D.int).length:Nat):Int)+((((b::B).map D.int).length:Nat):Int)-1=(((a::A).length+(b::B).length-1:Nat):Int):=by
    rw[aa,aa,bo,bo];lia
   have lN:(a::A).length+(b::B).length-1<=1000:=by lia
   have key:1<=Pv /\ -(2^63)<=((((a::A).map D.int).length:Nat):Int)+((((b::B).map D.int).length:Nat):Int)-1/\((((a::A).map D.int).length:Nat):Int)+((((b::B).map D.int).length:Nat):Int)-1<2^63/\1*(((((a::A).map D.int).length:Nat):Int)+((((b::B).map D.int).length:Nat):Int)-1).toNat<=Pv /\
     jn.run (ux Q) [.val x,.val y,.own (Pu (((((a::A).map D.int).length:Nat):Int)+((((b::B).map D.int).length:Nat):Int)-1).toNat [D.int 0]).flatten,.no,.no,.no,.no]:=by
    rw[e0,aS,xg];generalize (a::A).length+(b::B).length-1=z at *;exact⟨zn,by lia,by lia,vO (by lia),go⟩
   rcases hx with rfl|rfl <;> rcases hy with rfl|rfl <;> exact key
def ud:SpB:=.of 2 (α:=List Int×Int×List Int×Int×Nat×Nat×Nat×Nat) (fun (P,B,P',B',n,b,m,c) ds=>ds=[pD P B,pD P' B']/\Pc.Pz n b P B/\Pc.Pz m c P' B'/\b+c<=9000000/\n+m<=1000000/\P.length<=450/\P'.length<=450)
 (fun (P,B,P',B',n,b,m,c) d=>∃ R C,d=pD R C/\Po.Fm R C/\∀ k,R.getD k 0*(B*B')=Cv.cv (Cv.fn P) (Cv.fn P') k*C)
def sf:SpB:=.of 2 (α:=List Int×Int×List Int×Int×Nat×Nat×Nat×Nat) (fun (P,B,P',B',n,b,m,c) ds=>ds=[pD P B,pD P' B']/\Pc.Pz n b P B/\Pc.Pz m c P' B'/\b+c<=9000000/\n+m<=1000000/\P.length<=900/\P'.length<=900)
 (fun (P,B,P',B',n,b,m,c) d=>∃ R C,d=pD R C/\Po.Fm R C/\∀ k,R.getD k 0*(B*B')=(P.getD k 0*B'+P'.getD k 0*B)*C)
def tw:TSd:=(iZ [] (iU ji (iR (iU jx (iR (iS 2) (iR (iS 4) iT))) (iR (iV .Mult (dIx (iS 0) (dC (.int 1))) (dIx (iS 1) (dC (.int 1)))) iT))))
def tx:TSd:=dSq (iY [] (gNm 4) (i7 (jd (dIx (iS 1) (dC (.int 0)))) [3] (gNm 3) jt (iV .Mult (iS 3) (dIx (iS 0) (dC (.int 1))))))
 tw
def t6:TSd:=dSq (iY [] (gNm 2) (i7 (jd (dIx (iS 0) (dC (.int 0)))) [3] (gNm 3) jt (iV .Mult (iS 3) (dIx (iS 1) (dC (.int 1))))))
 tx
theorem AJ{A:List Int}(k:Nat):(A.map fun z=>z*c).getD k 0=A.getD k 0*c:=by
 rw[ae,ae,aM];cases A[k]? <;> simp
theorem sy:Does 5 t6 sf:=by
 rintro ds Q hn ⟨⟨P1,B1,P2,B2,n,b,m,c⟩,⟨rfl,G1,G2,hb,hm,l1,l2⟩,q⟩;dsimp only at G1 G2 hb hm l1 l2 q;refine⟨(congrArg (· <= Pv) (aa _)).mpr (vO (by lia)),mI (fun z=>z*B2) P1,mI.nil,fun i d ys hd _ hy=>?_,fun ys _ hy=>?_⟩
 ·obtain⟨z,hz,rfl⟩:=vH hd;have e:P1.getD i 0=z:=uM hz;exact⟨⟨n,c,e ▸ G1.tops i,G2.bot,by lia⟩,hy.snoc hz rfl⟩
 cases hy.all (by rw[aa]);refine⟨(congrArg (· <= Pv) (aa _)).mpr (vO (by lia)),mI (fun z=>z*B1) P2,mI.nil,fun i d ys hd _ hy=>?_,fun ys _ hy=>?_⟩
 ·obtain⟨z,hz,rfl⟩:=vH hd;have e:P2.getD i 0=z:=uM hz;exact⟨⟨m,b,e ▸ G2.tops i,G1.bot,by lia⟩,hy.snoc hz rfl⟩
 cases hy.all (by rw[aa]);refine⟨rfl,(_,_,P1.map (fun z=>z*B2),P2.map (fun z=>z*B1)),⟨rfl,.inl rfl,.inl rfl,by show (P1.map _).length<=1000;rw[aa];lia,by show (P2.map _).length<=1000;rw[aa];lia⟩,?_⟩;rintro _ ⟨rs,rfl,lr,hr⟩;have lr:rs.length=max (P1.map fun z=>z*B2).length (P2.map fun z=>z*B1).length:=lr;rw[aa,aa] at lr;refine⟨⟨b,c,G1.bot,G2.bot,by lia⟩,rfl,(rs,B1*B2),⟨rfl,ay G1.fm.pos G2.fm.pos,(G1.bot.mul G2.bot).mono hb,by show rs.length<=1000;lia⟩,?_⟩;rintro _ ⟨R,C,rfl,fm,hw,_⟩;refine q _ ⟨R,C,rfl,fm,fun k=>(hw k).trans ?_⟩;show rs.getD k 0*C=(P1.getD k 0*B2+P2.getD k 0*B1)*C;have h:rs.getD k 0=(P1.map fun z=>z*B2).getD k 0+(P2.map fun z=>z*B1).getD k 0:=hr k;rw[h,AJ,AJ]
def pK:SpB:=.of 2 (α:=List Int×Int×Int×Int×Nat×Nat×Nat×Nat) (fun (P,B,t,u,n,b,m,c) ds=>ds=[pD P B,fD t u]/\Pc.Pz n b P B/\0<u/\Lt2 m t/\Lt2 c u/\b+c<=9000000/\n+m<=1000000/\P.length<=900)
 (fun (P,B,t,u,n,b,m,c) d=>∃ R C,d=pD R C/\Po.Fm R C/\(∀ k,R.getD k 0*(B*u)=(P.getD k 0*t)*C)/\R.length<=P.length)
def tD:TSd:=(iZ [] (iU ji (iR (i7 (jd (dIx (iS 0) (dC (.int 0)))) [2] (gNm 2) jt (iV .Mult (iS 2) (dIx (iS 1) (dC (.int 0))))) (iR (iV .Mult (dIx (iS 0) (dC (.int 1))) (dIx (iS 1) (dC (.int 1)))) iT))))
theorem q9:Does 3 tD pK:=by
 rintro ds Q hn ⟨⟨P,B,t,u,n,b,m,c⟩,⟨rfl,G1,u0,lt,lu,hb,hm,l1⟩,q⟩;dsimp only at G1 u0 lt lu hb hm l1 q;refine⟨(congrArg (· <= Pv) (aa _)).mpr (vO (by lia)),mI (fun z=>z*t) P,mI.nil,fun i d ys hd _ hy=>?_,fun ys _ hy=>?_⟩
 ·obtain⟨z,hz,rfl⟩:=vH hd;have e:P.getD i 0=z:=uM hz;exact⟨⟨n,m,e ▸ G1.tops i,lt,by lia⟩,hy.snoc hz rfl⟩
 cases hy.all (by rw[aa]);refine⟨⟨b,c,G1.bot,lu,by lia⟩,rfl,(P.map (fun z=>z*t),B*u),⟨rfl,ay G1.fm.pos u0,(G1.bot.mul lu).mono hb,by show (P.map _).length<=1000;rw[aa];lia⟩,?_⟩;rintro _ ⟨R,C,rfl,fm,hw,hle⟩;have hle:R.length<=(P.map fun z=>z*t).length:=hle;rw[aa] at hle;refine q _ ⟨R,C,rfl,fm,fun k=>(hw k).trans ?_,hle⟩;show (P.map fun z=>z*t).getD k 0*C=P.getD k 0*t*C;rw[AJ]
theorem ri:((a*b:Int):Rat)=(a:Rat)*(b:Rat):=az a b
def n8:SpB:=.of 2 (α:=D×D×Rat×Rat×Nat×Nat×Nat×Nat) (fun (d1,d2,r1,r2,n1,b1,n2,b2) ds=>ds=[d1,d2]/\FqD n1 b1 d1 r1/\FqD n2 b2 d2 r2/\b1+b2<=9000000/\n1+b2<=1000000/\n2+b1<=1000000)
 (fun (d1,d2,r1,r2,n1,b1,n2,b2) d=>FqD (n1+b2+(n2+b1)+1) (b1+b2) d (r1-r2))
def tP:TSd:=(iZ [] (iU jz (iR (iV .Sub (iV .Mult (dIx (iS 0) (dC (.int 0))) (dIx (iS 1) (dC (.int 1)))) (iV .Mult (dIx (iS 1) (dC (.int 0))) (dIx (iS 0) (dC (.int 1))))) (iR (iV .Mult (dIx (iS 0) (dC (.int 1))) (dIx (iS 1) (dC (.int 1)))) iT))))
theorem rQ:Does 2 tP n8:=by
 rintro ds Q hn ⟨⟨d1,d2,r1,r2,n1,b1,n2,b2⟩,⟨rfl,⟨t1,u1,rfl,p1,g1,lt1,lu1,rfl⟩,⟨t2,u2,rfl,p2,g2,lt2,lu2,rfl⟩,hb,h1,h2⟩,q⟩;dsimp only at hb h1 h2 q;have p12:=ay p1 p2;refine⟨⟨_,_,lt1,lu2,by lia⟩,⟨_,_,lt2,lu1,by lia⟩,⟨_,_,lu1,lu2,by lia⟩,rfl,(t1*u2-t2*u1,u1*u2),⟨rfl,ao p12,(lu1.mul lu2).mono hb⟩,?_⟩;rintro _ rfl;have f:=FqD.of (t:=t1*u2-t2*u1) (u:=u1*u2) p12 (((lt1.mul lu2).mono (m:=n1+b2+(n2+b1)) (by lia)).sub ((lt2.mul lu1).mono (by lia))) (lu1.mul lu2);refine q _ ?_;have h3:(u1:Rat)≠0:=by exact_mod_cast ao p1
 have h4:(u2:Rat)≠0:=by exact_mod_cast ao p2
 have e:((t1*u2-t2*u1:Int):Rat) / ((u1*u2:Int):Rat)=(t1:Rat) / (u1:Rat)-(t2:Rat) / (u2:Rat):=by
  rw[gK,ri,ri,ri];grind
 rw[← e];exact f
def jO:SpB:=.of 2 (α:=D×D×Rat×Rat×Nat×Nat×Nat×Nat) (fun (d1,d2,r1,r2,n1,b1,n2,b2) ds=>ds=[d1,d2]/\FqD n1 b1 d1 r1/\FqD n2 b2 d2 r2/\b1+b2<=9000000/\n1+n2<=1000000)
 (fun (d1,d2,r1,r2,n1,b1,n2,b2) d=>FqD (n1+n2) (b1+b2) d (r1*r2))
def qg:TSd:=(iZ [] (iU jz (iR (iV .Mult (dIx (iS 0) (dC (.int 0))) (dIx (iS 1) (dC (.int 0)))) (iR (iV .Mult (dIx (iS 0) (dC (.int 1))) (dIx (iS 1) (dC (.int 1)))) iT))))
theorem nk:Does 2 qg jO:=by
 rintro ds Q hn ⟨⟨d1,d2,r1,r2,n1,b1,n2,b2⟩,⟨rfl,⟨t1,u1,rfl,p1,g1,lt1,lu1,rfl⟩,⟨t2,u2,rfl,p2,g2,lt2,lu2,rfl⟩,hb,h1⟩,q⟩;dsimp only at hb h1 q;have p12:=ay p1 p2;refine⟨⟨_,_,lt1,lt2,by lia⟩,⟨_,_,lu1,lu2,by lia⟩,rfl,(t1*t2,u1*u2),⟨rfl,ao p12,(lu1.mul lu2).mono hb⟩,?_⟩;rintro _ rfl;have f:=FqD.of (t:=t1*t2) (u:=u1*u2) p12 (lt1.mul lt2) (lu1.mul lu2);refine q _ ?_;have h3:(u1:Rat)≠0:=by exact_mod_cast ao p1
 have h4:(u2:Rat)≠0:=by exact_mod_cast ao p2
 have e:((t1*t2:Int):Rat) / ((u1*u2:Int):Rat)=(t1:Rat) / (u1:Rat)*((t2:Rat) / (u2:Rat)):=by
  rw[ri,ri];grind
 rw[← e];exact f
def kg:SpB:=.of 2 (α:=D×D×Rat×Rat×Nat×Nat×Nat×Nat) (fun (d1,d2,r1,r2,n1,b1,n2,b2) ds=>ds=[d1,d2]/\FqD n1 b1 d1 r1/\FqD n2 b2 d2 r2/\b1+b2<=4000/\n1+n2<=100000)
 (fun (d1,d2,r1,r2,n1,b1,n2,b2) d=>∃ P B,d=pD P B/\Pc.Pz (n1+n2+b1+b2) (b1+b2) P B/\(∀ x,Qp.E P B x=r1*x+r2)/\P.length<=2/\Qp.q P B 0=r2/\Qp.q P B 1=r1)
theorem GR(hA:∀ k,Lt2 n (A.getD k 0))(hP:∀ k,Lt2 m (P.getD k 0))(la:A.length<=250)(lp:P.length<=250)(k:Nat):Lt2 (n+m+9) (Cv.cv (Cv.fn A) (Cv.fn P) k):=by
 rcases ar k 510 with z|z
 ·exact Cv.Ef (b:=9) hA hP (by lia)
 ·rw[Cv.u5 (a:=A.length) (b:=P.length) (fun j hj=>Cv.uk hj) (fun j hj=>Cv.uk hj) (by lia)];exact xB _
def mH:SpB:=.of 2 (α:=List Int×Int×List Int×Int×Nat×Nat×Nat×Nat) (fun (P,B,P',B',n,b,m,c) ds=>ds=[pD P B,pD P' B']/\Pc.Pz n b P B/\Pc.Pz m c P' B'/\b+c*P.length<=8900000/\n+(m+c+10)*(P.length+1)<=90000000/\P.length*P'.length<=190/\P.length<=190/\P'.length<=190)
 (fun (P,B,P',B',n,b,m,c) d=>∃ R C,d=pD R C/\Pc.Of P B P' B' R C)
def tQ:TSd:=(iZ [] (iU ji (iR (i7 (jd (iS 6)) [8] (gNm 8) jt (iV .Mult (iS 8) (iS 5))) (iR (iV .Mult (iS 3) (iS 7)) iT))))
def tR:TSd:=dSq (jq [] (kX (iS 2)) (gNm 8)
 (dSq (iY [] (gNm 6) (iU jx (iR (iU jF (iR (iS 6) (iR (iS 4) iT))) (iR (je (iR (iV .Mult (iS 8) (iS 7)) iT)) iT))))
 (pS [] 7 .Mult (iS 5))))
 tQ
def tS:TSd:=dSq (mZ [] 6 7 (je iT) (dC (.int 1)))
 tR
def tT:TSd:=dSq (iY [] (gTp [4,5]) (iS 1))
 tS
def ue:TSd:=dSq (iY [] (gTp [2,3]) (iS 0))
 tT
theorem tE:Does 9 ue mH:=by
 rintro ds Q hn ⟨⟨P1,B1,P2,B2,n,b,m,c⟩,⟨rfl,G1,G2,hb,hn,hl,l1,l2⟩,q⟩;dsimp only at G1 G2 hb hn hl l1 l2 q;have p1:=G1.fm.pos;have p2:=G2.fm.pos;have hL:(m+c+10)*P1.length+(m+c+10)=(m+c+10)*(P1.length+1):=by rw[bF]
 have hg:∀ k,P2.length<=k->Cv.fn P2 k=0:=fun k h=>Cv.uk h;refine⟨rfl,rfl,aE _,fun i s=>∃(rs:List Int) (o:SD),s=[.val (pD P1 B1),.val (pD P2 B2),.val (.tup (P1.map .int)),.val (.int B1),.val (.tup (P2.map .int)),.val (.int B2),.val (.lst (rs.map .int)),.val (.int (B2^i)),o]/\rs.length<=i*P2.length+1/\(∀ k,Lt2 (n+(m+c+10)*i+1) (rs.getD k 0))/\∀ k,Pc.pc (Cv.fn P1) (Cv.fn P2) B2 P1.length k=B2^i*Pc.pc (Cv.fn P1) (Cv.fn P2) B2 (P1.length-i) k+B2*Cv.cv (Pc.cp (Cv.fn P2) (P1.length-i)) (Cv.fn rs) k,
  ⟨[],.no,by rw[aT];rfl,aE _,fun k=>by rw[uj (fs:=([]:List Int)) (aE _)];exact xB _,fun k=>by rw[Cv.GQ fun j=>Cv.uk (aE _)];simp⟩,?_,?_⟩
 ·rintro i d _ hd ⟨rs,o,rfl,lr,sr,hr1⟩;have hd:(P1.map D.int).reverse[i]? = some d:=hd;have hi:i<P1.length:=by have:=(aj.mp hd).1;simpa using this
  rw[bK (by rw[aa];exact hi),aa] at hd;obtain⟨_,rfl⟩:=yV hd;have hp1:=G1.tops (P1.length-1-i);have li:(m+c+10)*(i+1)<=(m+c+10)*P1.length:=ai _ hi;rw[bF] at li;have li2:(i+1)*P2.length<=P1.length*P2.length:=bH _ hi;rw[bh] at li2;have li3:c*i<=(m+c+10)*i:=bH _ (by lia);have ls:=Hv.uz G2.bot i;refine⟨rfl,(_,_,rs,P2,n+(m+c+10)*i+1,m),⟨rfl,.inl rfl,.inr rfl,by show rs.length<=450;lia,by show P2.length<=450;lia,sr,G2.tops,by show n+(m+c+10)*i+1+m<=100000000;lia⟩,?_⟩;rintro _ ⟨qs,rfl,lq,hq⟩;have lq:qs.length<=rs.length+P2.length:=lq;refine⟨⟨_,_,hp1,ls,by lia⟩,zn,rfl,(_,_,qs,[P1.getD (P1.length-1-i) 0*B2^i]),⟨rfl,.inl rfl,.inl rfl,by show qs.length<=1000;lia,by show 1<=1000;decide⟩,?_⟩;rintro _ ⟨ws,rfl,lw,hw⟩;have lw:ws.length=max qs.length 1:=lw;have hw0:∀ j,Cv.fn ws j=Cv.cv (Cv.fn rs) (Cv.fn P2) j+(if j=0 then Cv.fn P1 (P1.length-1-i)*B2^i else 0):=fun j=>by
   have e:ws.getD j 0=qs.getD j 0+[P1.getD (P1.length-1-i) 0*B2^i].getD j 0:=hw j;rw[hq j] at e;cases j with
   | zero=>exact e
   | succ j=>rw[QJ (by lia)];rw[uj (fs:=[P1.getD (P1.length-1-i) 0*B2^i]) (by simp)] at e;exact e
  refine⟨⟨_,_,ls,G2.bot,by lia⟩,ws,_,by rw[aJ];rfl,?_,fun k=>?_,fun k=>?_⟩
  ·rw[bh];lia
  ·show Lt2 _ (Cv.fn ws k);rw[hw0 k];have y1:Lt2 (n+(m+c+10)*i+1+m+9) (Cv.cv (Cv.fn rs) (Cv.fn P2) k):=GR sr G2.tops (by lia) (by lia) k;have y2:Lt2 (n+(m+c+10)*i+1+m+9) (if k=0 then Cv.fn P1 (P1.length-1-i)*B2^i else 0):=by
    split
    ·exact (hp1.mul ls).mono (by lia)
    ·exact xB _
   exact (y1.add y2).mono (by rw[bF];lia)
  ·exact Pc.GE hg hi hr1 _ hw0
 ·rintro _ ⟨rs,o,rfl,lr,sr,hr1⟩;rw[bA,aa] at lr sr hr1 ⊢;have hr2:∀ k,Pc.pc (Cv.fn P1) (Cv.fn P2) B2 P1.length k=B2*rs.getD k 0:=fun k=>by
   rw[hr1 k,cI];show _*0+B2*Cv.cv Pc.d0 (Cv.fn rs) k=_;rw[Pc.y6,bD,cO];rfl
  have ls:=Hv.uz G2.bot P1.length;have Y:=ay p1 (Hv.pow_pos p2 P1.length);refine⟨(congrArg (· <= Pv) (aa _)).mpr (vO (by lia)),mI (fun z=>z*B2) rs,mI.nil,fun i d ys hd _ hy=>?_,fun ys _ hy=>?_⟩
  ·obtain⟨z,hz,rfl⟩:=vH hd;have e:rs.getD i 0=z:=uM hz;exact⟨⟨_,_,e ▸ sr i,G2.bot,by lia⟩,hy.snoc hz rfl⟩
  cases hy.all (by rw[aa]);refine⟨⟨_,_,G1.bot,ls,by lia⟩,rfl,(rs.map (fun z=>z*B2),B1*B2^P1.length),⟨rfl,Y,(G1.bot.mul ls).mono (by lia),by show (rs.map _).length<=1000;rw[aa];lia⟩,?_⟩;rintro _ ⟨R,C,rfl,fm,hw,hle⟩;refine q _ ⟨R,C,rfl,fm,fun k=>?_⟩;have h:R.getD k 0*(B1*B2^P1.length)=(rs.map fun z=>z*B2).getD k 0*C:=hw k;rw[h,AJ,hr2 k,bB B2]
def kh:SpB:=.of 1 (α:=List Int×Int×Nat×Nat) (fun (P,B,n,b) ds=>ds=[pD P B]/\Pc.Pz n b P B/\Qp.q P B 1≠0/\2*n+b+2<=4000)
 (fun (P,B,n,b) d=>∃ R C,d=pD R C/\Pc.Pz (5*(n+b)+8) (2*(n+b)+2) R C/\(∀ x,Qp.E R C x=1 / Qp.q P B 1*x+(0-Qp.q P B 0) / Qp.q P B 1)/\R.length<=2/\Qp.q R C 0=(0-Qp.q P B 0) / Qp.q P B 1/\Qp.q R C 1=1 / Qp.q P B 1)
def nq:TSd:=(iZ [] (iU kg (iR (iU jw (iR (jg (iR (dC (.int 1)) (iR (dC (.int 1)) iT))) (iR (iS 1) iT))) (iR (iU jw (iR (iU n8 (iR (jg (iR (dC (.int 0)) (iR (dC (.int 1)) iT))) (iR (iS 2) iT))) (iR (iS 1) iT))) iT))))
def oR:TSd:=dSq (mZ [] 1 2 (iU ja (iR (iS 0) (iR (dC (.int 1)) iT))) (iU ja (iR (iS 0) (iR (dC (.int 0)) iT))))
 nq
theorem mJ:Does 3 oR kh:=by
 rintro ds Q hn ⟨⟨P,B,n,b⟩,⟨rfl,G,h1,hz⟩,q⟩;dsimp only at G h1 hz q;refine⟨rfl,(P,B,1,n,b),⟨rfl,G,by lia⟩,?_⟩;rintro da fa;refine⟨rfl,(P,B,0,n,b),⟨rfl,G,by lia⟩,?_⟩;rintro db fb;have fa:FqD n b da (Qp.q P B 1):=fa;have fb:FqD n b db (Qp.q P B 0):=fb;have i1:((1:Int):Rat)=1:=rfl;have i0:((0:Int):Rat)=0:=rfl;refine⟨vK,rfl,(fD 1 1,da,((1:Int):Rat),Qp.q P B 1,1,1,n,b),⟨rfl,vx (by decide),fa,h1,by show 1+n<=9000000;lia,by show 1+b<=1000000;lia⟩,?_⟩;rintro d1 f1;refine⟨vK,rfl,(fD 0 1,db,((0:Int):Rat),Qp.q P B 0,0,1,n,b),⟨rfl,vx (xB _),fb,by show 1+b<=9000000;lia,by show 0+b<=1000000;lia,by show n+1<=1000000;lia⟩,?_⟩;rintro d2 f2;refine⟨rfl,(d2,da,((0:Int):Rat)-Qp.q P B 0,Qp.q P B 1,0+b+(n+1)+1,1+b,n,b),⟨rfl,f2,fa,h1,by show 1+b+n<=9000000;lia,by show 0+b+(n+1)+1+b<=1000000;lia⟩,?_⟩;rintro d3 f3;refine⟨rfl,(d1,d3,((1:Int):Rat) / Qp.q P B 1,(((0:Int):Rat)-Qp.q P B 0) / Qp.q P B 1,1+b,1+n,0+b+(n+1)+1+b,1+b+n),⟨rfl,f1,f3,by show 1+n+(1+b+n)<=4000;lia,by show 1+b+(0+b+(n+1)+1+b)<=100000;lia⟩,?_⟩;rintro _ ⟨R,C,rfl,z,e,l,q0,q1⟩;rw[i1,i0] at e;rw[i0] at q0;rw[i1] at q1;exact q _ ⟨R,C,rfl,Pc.Pz.mono z (by show 1+b+(0+b+(n+1)+1+b)+(1+n)+(1+b+n)<=_;lia) (by show 1+n+(1+b+n)<=_;lia),e,l,q0,q1⟩
def dvs(n i:Nat):List Nat:=((List.range i).map (· + 1)).filter fun s=>n%s == 0
theorem BP(n i:Nat):dvs n (i+1)=dvs n i++(if n%(i+1)=0 then [i+1] else []):=by
 unfold dvs;rw[List.range_succ,bw,fU];congr 1;by_cases c:n%(i+1)=0
 ·rw[QI c];simp[c]
 ·rw[QJ c];simp[c]
theorem mem_dvs:s∈dvs n n↔1<=s/\s<=n/\n%s=0:=by
 unfold dvs;rw[ce,de];constructor
 ·rintro⟨⟨a,ha,rfl⟩,h⟩;have:=dM.mp ha;exact⟨by lia,by lia,by simpa using h⟩
 ·rintro⟨h1,h2,h3⟩;exact⟨⟨s-1,dM.mpr (by lia),by lia⟩,by simpa using h3⟩
theorem IK(n i:Nat):(dvs n i).length<=i:=by
 unfold dvs;refine aD (List.length_filter_le _ _) ?_;simp
def mV:SpB:=.of 1 (α:=Nat) (fun n ds=>ds=[.int n]/\n<=1000) (fun n d=>d = .lst ((dvs n n).map fun s=>D.int ((s:Nat):Int)))
def rR:TSd:=(iZ [] (i7 (kI (dC (.int 1)) (iV .Add (iS 0) (dC (.int 1)))) [1] (gNm 1) (i5 (i6 .Eq (iV .Mod (iS 0) (iS 1)) (dC (.int 0)))) (iS 1)))
theorem oS:Does 2 rR mV:=by
 rintro ds Q hn ⟨n,⟨rfl,hn⟩,q⟩;have lq:(vN 1 ((n:Int)+1-1).toNat).length=n:=by rw[uw];lia
 refine⟨⟨by lia,by lia,by lia,by lia⟩,(congrArg (· <= Pv) lq).mpr (vO (by lia)),fun i ys=>ys=(dvs n i).map fun s=>D.int ((s:Nat):Int),rfl,fun i d ys hd _ hy=>?_,fun ys _ hy=>?_⟩
 ·obtain⟨hi,rfl⟩:=uG hd;have hi:i<n:=by lia
  subst hy;have e1:(1:Int)+(i:Int)=((i+1:Nat):Int):=by lia
  rw[e1];refine⟨by lia,?_⟩;refine yo (p:=((n:Int).fmod ((i+1:Nat):Int))=0) (fun c=>?_) (fun c=>?_)
  ·have c':n%(i+1)=0:=by
    rw[cC _ (by lia)] at c;lia
   show (dvs n i).map (fun s=>D.int ((s:Nat):Int))++[D.int ((i+1:Nat):Int)]=(dvs n (i+1)).map fun s=>D.int ((s:Nat):Int);rw[BP,QI c',bw];rfl
  ·have c':¬ n%(i+1)=0:=fun z=>c (by
    rw[cC _ (by lia)];lia)
   show (dvs n i).map (fun s=>D.int ((s:Nat):Int))=(dvs n (i+1)).map fun s=>D.int ((s:Nat):Int);rw[BP,QJ c',cP]
 ·have hy:ys=(dvs n (vN 1 ((n:Int)+1-1).toNat).length).map fun s=>D.int ((s:Nat):Int):=hy;rw[lq] at hy;subst hy;exact q _ rfl
abbrev lD:D:=pD Pc.X 1
theorem C3(X:K.In h)(G:h.Ns PJ mg)(zL:PQ K PJ "LETTER" = some (some (.ref la)))(lL:K.lookup la=some ⟨.type "tuple",dL,.seq #[.ref lt,.int 1 t1] nL,sL⟩)(lT:K.lookup lt=some ⟨.type "tuple",dT,.seq #[.int 0 t2,.int 1 t3] nT,sT⟩):∃ v u,mg "LETTER" = some u/\RelV v u/\∀ f O H,Rp K f O H lD v :=
 ⟨.ref la,_,PySem.W.mg_of X G zL,rfl,fun f O H=>⟨la,[.ref lt,.int 1],rfl,.inr ⟨_,_,_,lL,rfl,rfl,(by show 2<=Pv;decide),.cons rfl (.cons ⟨_,rfl⟩ .nil)⟩,_,_,rfl,⟨lt,[.int 0,.int 1],rfl,.inr ⟨_,_,_,lT,rfl,rfl,(by show 2<=Pv;decide),.cons ⟨_,rfl⟩ (.cons ⟨_,rfl⟩ .nil)⟩,_,_,rfl,rfl,_,_,rfl,rfl,rfl⟩,_,_,rfl,rfl,rfl⟩⟩
theorem pls_ints(P:List Int):D.pls (P.map D.int)=true:=by
 induction P with
 | nil=>rfl
 | cons a P ih=>exact ih
theorem xP(P:List Int):D.dps (P.map D.int)=0:=by
 induction P with
 | nil=>rfl
 | cons a P ih=>show max 0 (D.dps (P.map D.int))=0;rw[ih];rfl
end Dp
namespace Dp
open PySem L2 Ch
abbrev pq(p:Pl):D:=pD p.1 p.2
abbrev cD(cs:List Pl):D:=.tup (cs.map pq)
theorem GV{l:List D}(h:1<=l.length):xv l none (some (-1))=l.take (l.length-1)/\¬ (HT.uJ l.length 0 none=0/\HT.uJ l.length l.length (some (-1))=l.length):=by
 have e:HT.uJ l.length l.length (some (-1))=l.length-1:=by
  show (-1+(l.length:Int)).toNat=_;lia
 refine⟨?_,fun h=>by rw[e] at h;lia⟩;unfold xv;rw[e];rfl
theorem EX{l:List D}(h:1<=l.length):xv l (some 1) none=l.drop 1/\¬ (HT.uJ l.length 0 (some 1)=0/\HT.uJ l.length l.length none=l.length):=by
 have e:HT.uJ l.length 0 (some 1)=1:=by
  have:=HT.Dx l.length 0 1;rw[show ((1:Nat):Int)=1 from rfl] at this;rw[this];lia
 refine⟨?_,fun h=>by rw[e] at h;lia⟩;unfold xv;rw[e];show (l.drop 1).take (l.length-1)=l.drop 1;rw[hJ (by rw[e6];lia)]
def Tz(k:Nat):List Pl->Nat->Nat->Nat->Prop
 | [],_,_,_=>False
 | c::cs,n,b,l=>(cs=[]/\Pc.Pz n b c.1 c.2/\c.1.length<=l)\/(∃ n1 b1 m c' l':Nat,Pc.Pz n1 b1 c.1 c.2/\Tz k cs m c' l'/\k*b1+c'*c.1.length<=8900000/\n1+(m+c'+10)*(c.1.length+1)<=400000/\c.1.length*l'<=190/\c.1.length<=190/\l'<=190/\n1+(m+c'+10)*c.1.length+1<=n/\b1+(c'*c.1.length+1)<=b/\c.1.length*l'+1<=l)
theorem Tz.drop:∀{cs:List Pl} {n b l:Nat} (k:Nat),k<cs.length->Tz j cs n b l->∃ n b l,Tz j (cs.drop k) n b l
 | [],_,_,_,_,h,_=>absurd h (bZ _)
 | c::cs,n,b,l,0,_,t=>⟨n,b,l,t⟩
 | c::cs,n,b,l,k+1,h,t=>by
  rcases t with⟨e,_⟩|⟨n1,b1,m,c',l',_,t,_⟩
  ·subst e;simp at h
  ·exact Tz.drop k (by simpa using h) t
theorem Tz.fm(t:Tz j (c::cs) n b l):Po.Fm c.1 c.2:=by
 rcases t with⟨_,z,_⟩|⟨_,_,_,_,_,z,_⟩
 ·exact z.fm
 ·exact z.fm
def Mk(j:Nat)(cs:List Pl)(P:List Int)(B:Int):Prop:=Po.Fm P B/\(∀ x,Qp.E P B x=Ec cs x)/\∀ n b l,Tz j cs n b l->Pc.Pz n b P B/\P.length<=l
theorem Mk.step(h:Mk j cs P B)(f:Po.Fm c.1 c.2)(o:Pc.Of c.1 c.2 P B R C)(hc:cs≠[])   : Mk j (c::cs) R C:=by
 refine⟨o.1,fun x=>?_,fun n b l t=>?_⟩
 ·rw[Qp.wn f.pos h.1.pos o,h.2.1];rfl
 ·rcases t with⟨e,_⟩|⟨n1,b1,m,c',l',z,t,h1,h2,h3,h4,h5,h6,h7,h8⟩
  ·exact absurd e hc
  ·obtain⟨zp,lp⟩:=h.2.2 _ _ _ t;have ll:c.1.length*P.length<=c.1.length*l':=ai _ lp;exact⟨(o.size z zp (by lia)).mono h6 h7,aD (o.len f.pos h.1.pos) (by lia)⟩
theorem HF{cs:List Pl}(hi:i+1<cs.length):cs.drop (cs.length-1-(i+1))=cs[cs.length-2-i]'(by lia)::cs.drop (cs.length-1-i):=by
 rw[show cs.length-1-(i+1)=cs.length-2-i by lia,dq (by lia),show cs.length-2-i+1=cs.length-1-i by lia]
def ki:SpB:=.of 1 (α:=List Pl) (fun cs ds=>ds=[cD cs]/\cs.length<=100/\∃ n b l,Tz 1 cs n b l) (fun cs d=>∃ P B,d=pD P B/\Mk 1 cs P B)
def qh:TSd:=(iZ [] (iS 1))
def qj:TSd:=dSq (jq [] (kX (dSl (iS 0) dNo (kH (mw (dC (.int 1)))))) (gNm 2)
 (iY [] (gNm 1) (iU mH (iR (iS 2) (iR (iS 1) iT)))))
 qh
def rS:TSd:=dSq (iY [] (gNm 1) (dIx (iS 0) (mw (dC (.int 1)))))
 qj
theorem oU:Does 3 rS ki:=by
 rintro ds Q hn ⟨cs,⟨rfl,l100,n0,b0,l0,t0⟩,q⟩;dsimp only at l100 t0 q;have l1:1<=cs.length:=by
  cases cs with
  | nil=>exact t0.elim
  | cons c cs=>simp
 obtain⟨k1,k2⟩:=GV (l:=cs.map pq) (by rw[aa];exact l1);obtain⟨x,hx⟩:∃ x,cs[cs.length-1]? = some x:=⟨cs[cs.length-1]'(by lia),by simp⟩;have dx:cs.drop (cs.length-1-0)=[x]:=by
  obtain⟨h,e⟩:=aj.mp hx;rw[bP,dq h,e,List.drop_of_length_le (by lia)]
 refine vF (BZ (j:=1) (n:=cs.length) (v:=pq x) (by rw[aM,hx];rfl) (by rw[aa]) (by decide) l1) ⟨trivial,?_⟩;rw[k1,aa];refine⟨fun i s=>∃(o:SD) (P:List Int) (B:Int),s=[.val (cD cs),.val (pD P B),o]/\Mk 1 (cs.drop (cs.length-1-i)) P B,⟨.no,x.1,x.2,rfl,?_⟩,?_,?_⟩
 ·rw[dx];obtain⟨n,b,l,t⟩:=t0.drop (cs.length-1) (by lia);rw[bP] at dx;rw[dx] at t;refine⟨t.fm,fun y=>rfl,fun n b l t=>?_⟩;rcases t with⟨_,z,h⟩|⟨_,_,_,_,_,_,t,_⟩
  ·exact⟨z,h⟩
  ·exact t.elim
 ·rintro i d _ hd ⟨o,P,B,rfl,h⟩;have hd:((cs.map pq).take (cs.length-1)).reverse[i]? = some d:=hd;have hi:i<cs.length-1:=by have:=(aj.mp hd).1;simp at this;lia
  rw[bK (by rw[aU,aa];lia),aU,aa,dA (by lia),aM,show min (cs.length-1) cs.length-1-i=cs.length-2-i by lia,au (by lia)] at hd;cases hd;have e:=HF (cs:=cs) (i:=i) (by lia);obtain⟨n,b,l,t⟩:=t0.drop (cs.length-1-(i+1)) (by lia);have ne:cs.drop (cs.length-1-i)≠[]:=fun z=>by
   have:=congrArg List.length z;rw[e6] at this;simp at this;lia
  rw[e] at t;generalize cs[cs.length-2-i]'(by lia)=c at *;have f:=t.fm;rcases t with⟨z,_⟩|⟨n1,b1,m,c',l',z,t,h1,h2,h3,h4,h5,h6,h7,h8⟩
  ·exact absurd z ne
  obtain⟨zp,lp⟩:=h.2.2 _ _ _ t;have ll:c.1.length*P.length<=c.1.length*l':=ai _ lp;refine⟨rfl,(c.1,c.2,P,B,n1,b1,m,c'),⟨rfl,z,zp,by show b1+c'*c.1.length<=8900000;lia,by show n1+(m+c'+10)*(c.1.length+1)<=90000000;lia,by show c.1.length*P.length<=190;lia,h4,by show P.length<=190;lia⟩,?_⟩;rintro _ ⟨R,C,rfl,o⟩;refine⟨_,R,C,rfl,?_⟩;rw[e];exact h.step f o ne
 ·rintro _ ⟨o,P,B,rfl,h⟩;rw[bA,aU,aa,show cs.length-1-min (cs.length-1) cs.length=0 by lia] at h;exact q _ ⟨P,B,rfl,h⟩
def NX:List Pl->List Pl->Prop
 | [],ds=>ds=[]
 | c::cs,ds=>∃ d ds',ds=d::ds'/\Po.Fm d.1 d.2/\(∀ x,Qp.E d.1 d.2 x=(Qp.E c.1 c.2 ((vi cs).1*x+(vi cs).2)-(vi (c::cs)).2)*(1 / (vi (c::cs)).1))/\d.1.length=c.1.length/\ld d=1/\(∀ n b m c':Nat,Pc.Pz n b c.1 c.2->Ob m c' (vi cs)->Pc.Pz (n+(m+c'+10)*c.1.length+1) (n+(m+c'+10)*c.1.length+1) d.1 d.2)/\NX cs ds'
theorem NX.nt:∀{cs ds:List Pl},NX cs ds->NT cs ds
 | [],_,h=>h
 | _::_,_,⟨d,ds',e,f,x,_,_,_,n⟩=>⟨d,ds',e,f,x,n.nt⟩
def SzT:List Pl->Prop
 | []=>True
 | c::cs=>Ly c/\c.1.length<=13/\(∃ n b m c':Nat,Pc.Pz n b c.1 c.2/\Ob m c' (vi cs)/\2*(n+(m+c'+10)*c.1.length+1)+(b+(c'*c.1.length+1))+2<=4000/\b+(c'*c.1.length+1)<=1600)/\SzT cs
theorem SzT.drop:∀{cs:List Pl} (k:Nat),SzT cs->SzT (cs.drop k)
 | [],k,_=>by rw[List.drop_nil];exact trivial
 | c::cs,0,h=>h
 | c::cs,k+1,h=>SzT.drop k h.2.2.2
theorem SzT.ly:∀{cs:List Pl},SzT cs->∀ c∈cs,Ly c
 | [],_,_,h=>absurd h bf
 | c::cs,s,d,h=>by
  rcases av.mp h with e|e
  ·rw[e];exact s.1
  ·exact SzT.ly s.2.2.2 d e
def Nk(j:Nat):List Pl->Prop
 | []=>False
 | c::cs=>Ly c/\c.1.length<=13/\(∃ n b m c':Nat,Pc.Pz n b c.1 c.2/\Ob m c' (vi cs)/\j*b+c'*c.1.length<=8900000/\n+(m+c'+10)*(c.1.length+1)<=400000)/\SzT cs
def To(w:Rat×Rat)(G:List Int)(U:Int):Prop:=Po.Fm G U/\G.length=2/\G.getD 1 0≠0/\Qp.q G U 1=w.1/\Qp.q G U 0=w.2
theorem To.E(h:To w G U)(x:Rat):Qp.E G U x=w.1*x+w.2:=by
 rw[Qp.Al (by rw[h.2.1];exact ak _),← h.2.2.2.1,← h.2.2.2.2];unfold Qp.q;grind
theorem To.x:To (1,0) Pc.X 1:=⟨Pc.E4.fm,rfl,by decide,by show (1:Rat) / 1=1;grind,by show (0:Rat) / 1=0;grind⟩
theorem AL{c:Pl}{cs:List Pl}{G S:List Int}{U D:Int}(hc:Ly c)(t:To (vi cs) G U)(o:Pc.Of c.1 c.2 G U S D):S.length=c.1.length/\Qp.q S D (S.length-1)=(vi (c::cs)).1/\Qp.q S D 0=(vi (c::cs)).2/\∀ x,Qp.E S D x=Qp.E c.1 c.2 ((vi cs).1*x+(vi cs).2):=by
 obtain⟨a,b⟩:=DT hc.1 t.1 t.2.1 t.2.2.1 hc.2 o;have e:∀ x,Qp.E S D x=Qp.E c.1 c.2 ((vi cs).1*x+(vi cs).2):=fun x=>by rw[Qp.wn hc.1.pos t.1.pos o,t.E]
 refine⟨a,?_,?_,e⟩
 ·have b:Qp.q S D (S.length-1)=_:=b;rw[b,t.2.2.2.1];rfl
 ·rw[← Qp.uV,e,show (vi cs).1*0+(vi cs).2=(vi cs).2 by grind];rfl
theorem AK{c:Pl}{cs:List Pl}{G S:List Int}{U D:Int}{n b m c':Nat}(l:c.1.length<=13)(t:To (vi cs) G U)(o:Pc.Of c.1 c.2 G U S D)(z:Pc.Pz n b c.1 c.2)(ob:Ob m c' (vi cs)):Pc.Pz m c' G U/\Pc.Pz (n+(m+c'+10)*c.1.length+1) (b+(c'*c.1.length+1)) S D:=by
 have zG:=ob.pz t.1 (by rw[t.2.1];exact ak _) t.2.2.2.1 t.2.2.2.2;exact⟨zG,o.size z zG (by rw[t.2.1];lia)⟩
theorem Cw{a:Rat}(h:a≠0):1 / a≠0:=by
 intro z;have:a*(1 / a)=1:=by grind
 rw[z,Rat.mul_zero] at this;exact absurd this (by decide)
theorem Ov(a b y:Rat):1 / a*y+(0-b) / a=(y-b)*(1 / a):=by grind
theorem Im{c:Pl}{cs ds:List Pl}{G S T R:List Int}{U D A C:Int}(hl:∀ d∈c::cs,Ly d)(l13:c.1.length<=13)(t:To (vi cs) G U)(o:Pc.Of c.1 c.2 G U S D)(fT:Po.Fm T A)(lT:T.length<=2)(eT:∀ x,Qp.E T A x=1 / Qp.q S D (S.length-1)*x+(0-Qp.q S D 0) / Qp.q S D (S.length-1))(q1:Qp.q T A 1=1 / Qp.q S D (S.length-1))(q0:Qp.q T A 0=(0-Qp.q S D 0) / Qp.q S D (S.length-1))(o2:Pc.Of T A S D R C)(n:NX cs ds):NX (c::cs) ((R,C)::ds):=by
 have hc:=hl c aG;obtain⟨a1,a2,a3,a4⟩:=AL hc t o;have ne:=AE hl;have h3:3<=S.length:=by rw[a1];exact hc.2
 obtain⟨len,n1⟩:=yw (by rw[q1,a2];exact Cw ne) lT;obtain⟨b1,b2⟩:=yR len n1 fT o.1 h3 o2;refine⟨(R,C),ds,rfl,o2.1,fun x=>?_,b1.trans a1,?_,fun n b m c' z ob=>?_,n⟩
 ·show Qp.E R C x=_;rw[Qp.wn fT.pos o.1.pos o2,eT,a2,a3,a4,Ov]
 ·rw[b2,q1];show 1 / Qp.q S D (S.length-1)*Qp.q S D (S.length-1)=1;rw[a2];grind
 ·exact Il (AK l13 t o z ob).2 h3 fT len q1 q0 o2
theorem HC{cs:List Pl}(hi:i<cs.length):cs.drop (cs.length-(i+1))=cs[cs.length-1-i]'(by lia)::cs.drop (cs.length-i):=by
 rw[show cs.length-(i+1)=cs.length-1-i by lia,dq (by lia),show cs.length-1-i+1=cs.length-i by lia]
def NH:List Pl->List Pl->Prop
 | [],_=>False
 | c::cs,ds=>∃ d ds',ds=d::ds'/\Po.Fm d.1 d.2/\(∀ x,Qp.E d.1 d.2 x=Qp.E c.1 c.2 ((vi cs).1*x+(vi cs).2))/\d.1.length=c.1.length/\(∀ n b m c':Nat,Pc.Pz n b c.1 c.2->Ob m c' (vi cs)->Pc.Pz (n+(m+c'+10)*c.1.length+1) (b+(c'*c.1.length+1)) d.1 d.2)/\NX cs ds'
theorem NH.neat:∀{cs ds:List Pl},NH cs ds->Neat cs ds
 | _::_,_,⟨d,ds',e,f,x,_,_,n⟩=>⟨d,ds',e,f,x,n.nt⟩
def me:SpB:=.of 1 (α:=List Pl) (fun cs ds=>ds=[cD cs]/\cs.length<=100/\Nk 1 cs) (fun cs d=>∃ ds,d=cD ds/\NH cs ds)
def tF:TSd:=(iZ [1] (dB bTuple bTuple.mono (iR (qM (iS 1)) iT)))
def tH:TSd:=dSq (oz [] 1 (iU mH (iR (dIx (iS 0) (dC (.int 0))) (iR (iS 2) iT))))
 tF
def tI:TSd:=dSq (jq [] (kX (dSl (iS 0) (kH (dC (.int 1))) dNo)) (gNm 3)
 (dSq (iY [] (gNm 4) (iU mH (iR (iS 3) (iR (iS 2) iT))))
 (dSq (iY [] (gNm 2) (iU kg (iR (iU lV (iR (iS 4) iT)) (iR (iU ja (iR (iS 4) (iR (dC (.int 0)) iT))) iT))))
 (oz [] 1 (iU mH (iR (iU kh (iR (iS 2) iT)) (iR (iS 4) iT)))))))
 tH
def tJ:TSd:=dSq (iY [] (gNm 2) (dC lD))
 tI
def t7:TSd:=dSq (kY [] 1 (je iT))
 tJ
theorem sA:Does 5 t7 me:=by
 rintro ds Q hn ⟨cs,⟨rfl,l100,sz⟩,q⟩;dsimp only at l100 sz q;match cs,l100,sz,q with
 | c0::ts,l100,⟨hc0,l0,⟨n0,b0,m0,k0,z0,ob0,y1,y2⟩,sz⟩,q =>
 rw[bo] at l100;obtain⟨k1,k2⟩:=EX (l:=(c0::ts).map pq) (by simp);have hl:=sz.ly;refine⟨aE _,trivial,?_⟩;rw[k1];refine⟨fun i s=>∃(o3 o4:SD) (G:List Int) (U:Int) (ds:List Pl),s=[.val (cD (c0::ts)),.own (ds.reverse.map pq),.val (pD G U),o3,o4]/\NX (ts.drop (ts.length-i)) ds/\To (vi (ts.drop (ts.length-i))) G U/\ds.length=i,⟨.no,.no,Pc.X,1,[],rfl,?_,?_,rfl⟩,?_,?_⟩
 ·rw[bP,gC];exact rfl
 ·rw[bP,gC];exact To.x
 ·rintro i d _ hd ⟨o3,o4,G,U,ds,rfl,nx,t,ld⟩;have hd:(ts.map pq).reverse[i]? = some d:=hd;have hi:i<ts.length:=by have:=(aj.mp hd).1;simpa using this
  rw[bK (by rw[aa];exact hi),aa,aM,au (by lia)] at hd;cases hd;have e:=HC hi;have s1:=sz.drop (ts.length-(i+1));have hl1:∀ x∈ts.drop (ts.length-(i+1)),Ly x:=fun x hx=>hl x (List.mem_of_mem_drop hx);rw[e] at s1 hl1;generalize ts[ts.length-1-i]'(by lia)=c at *;generalize ts.drop (ts.length-i)=us at *;obtain⟨hc,l13,⟨n,b,m,k,z,ob,y1,y3⟩,_⟩:=s1;have c3:=hc.2;have w1:m+k+10<=(m+k+10)*c.1.length:=bY _ (by lia);have w2:(m+k+10)*(c.1.length+1)=(m+k+10)*c.1.length+(m+k+10):=bF _ _;have zG:=ob.pz t.1 (by rw[t.2.1];exact ak _) t.2.2.2.1 t.2.2.2.2;have lG:=t.2.1;refine⟨rfl,(c.1,c.2,G,U,n,b,m,k),⟨rfl,z,zG,by show b+k*c.1.length<=8900000;lia,by show n+(m+k+10)*(c.1.length+1)<=90000000;lia,by show c.1.length*G.length<=190;rw[lG];lia,by show c.1.length<=190;lia,by show G.length<=190;lia⟩,?_⟩;rintro _ ⟨S,D1,rfl,o⟩;have o:Pc.Of c.1 c.2 G U S D1:=o;obtain⟨a1,a2,a3,a4⟩:=AL hc t o;have zS:=(AK l13 t o z ob).2;generalize n+(m+k+10)*c.1.length+1=N at *;generalize b+(k*c.1.length+1)=W at *;have lS:S.length=S.length-1+1:=by lia
  refine⟨rfl,(S,D1,S.length-1,N,W),⟨rfl,lS,zS,by show W<=9000000;lia⟩,?_⟩;rintro d1 f1;refine⟨rfl,(S,D1,0,N,W),⟨rfl,zS,by show W<=9000000;lia⟩,?_⟩;rintro d2 f2;refine⟨rfl,(d1,d2,Qp.q S D1 (S.length-1),Qp.q S D1 0,N,W,N,W),⟨rfl,f1,f2,by show W+W<=4000;lia,by show N+N<=100000;lia⟩,?_⟩;rintro _ ⟨G',U',rfl,z',e',l',q0',q1'⟩;have q0':Qp.q G' U' 0=Qp.q S D1 0:=q0';have q1':Qp.q G' U' 1=Qp.q S D1 (S.length-1):=q1';have ne:=AE hl1;obtain⟨len',n1'⟩:=yw (by rw[q1',a2];exact ne) l';have zG':Pc.Pz N W G' U':=IJ zS z'.fm l' q1' q0';refine⟨rfl,(G',U',N,W),⟨rfl,zG',by rw[q1',a2];exact ne,y1⟩,?_⟩;rintro _ ⟨T,A,rfl,zT,eT,lT,t0,t1⟩;have eT:∀ x,Qp.E T A x=1 / Qp.q G' U' 1*x+(0-Qp.q G' U' 0) / Qp.q G' U' 1:=eT;have t0:Qp.q T A 0=(0-Qp.q G' U' 0) / Qp.q G' U' 1:=t0;have t1:Qp.q T A 1=1 / Qp.q G' U' 1:=t1;rw[q1',q0'] at eT t0;rw[q1'] at t1;have zT:Pc.Pz (5*(N+W)+8) (2*(N+W)+2) T A:=zT;have lT:T.length<=2:=lT;have lTS:T.length*S.length<=2*13:=bI lT (by lia);have c2:W*T.length<=W*2:=ai _ lT;have c4:(N+W+10)*(T.length+1)<=(N+W+10)*3:=ai _ (by lia);refine⟨rfl,(T,A,S,D1,_,_,N,W),⟨rfl,zT,zS,by show 2*(N+W)+2+W*T.length<=8900000;lia,by show 5*(N+W)+8+(N+W+10)*(T.length+1)<=90000000;lia,by show T.length*S.length<=190;lia,by show T.length<=190;lia,by show S.length<=190;lia⟩,?_⟩;rintro _ ⟨R,C,rfl,o2⟩;have o2:Pc.Of T A S D1 R C:=o2;refine⟨by rw[aa,bA,ld,P4];lia,.val (pq c),.val (pD S D1),G',U',(R,C)::ds,?_,by rw[e];exact Im hl1 l13 t o zT.fm lT eT t1 t0 o2 nx,by rw[e];exact⟨z'.fm,len',n1',q1'.trans a2,q0'.trans a3⟩,by rw[bo,ld]⟩;rw[dJ,bw];rfl
 ·rintro _ ⟨o3,o4,G,U,ds,rfl,nx,t,ld⟩;have eL:((List.drop 1 ((c0::ts).map pq)).reverse).length=ts.length:=by simp
  rw[eL] at nx t ld;rw[cI,fu] at nx t;have zG:=ob0.pz t.1 (by rw[t.2.1];exact ak _) t.2.2.2.1 t.2.2.2.2;have lG:=t.2.1;refine vg (n:=0) (d:=pq c0) rfl ⟨rfl,(c0.1,c0.2,G,U,n0,b0,m0,k0),⟨rfl,z0,zG,by show b0+k0*c0.1.length<=8900000;lia,by show n0+(m0+k0+10)*(c0.1.length+1)<=90000000;lia,by show c0.1.length*G.length<=190;rw[lG];lia,by show c0.1.length<=190;lia,by show G.length<=190;lia⟩,?_⟩;rintro _ ⟨R,C,rfl,o⟩;have o:Pc.Of c0.1 c0.2 G U R C:=o;obtain⟨a1,a2,a3,a4⟩:=AL hc0 t o;refine⟨by rw[aa,bA,ld,P4];lia,?_⟩;have er:(ds.reverse.map pq++[pD R C]).reverse=((R,C)::ds).map pq:=by
   rw[List.reverse_append,← gy,List.reverse_reverse];rfl
  have fin:Q (cD ((R,C)::ds)):=q _ ⟨(R,C)::ds,rfl,(R,C),ds,rfl,o.1,a4,a1,fun n b m c' z ob=>(AK l0 t o z ob).2,nx⟩;show Q (.tup (ds.reverse.map pq++[pD R C]).reverse);rw[er];exact fin
theorem L1(p s a B:Rat)(nb:B≠0)(na:a≠0)(hs:s*s=1)(ha:a*s≠0):(0-p*s) / (a*s)=(0-p / B) / (a / B):=by
 have:s≠0:=fun z=>by rw[z] at hs;grind
 grind
theorem L0(s a B:Rat)(nb:B≠0)(na:a≠0)(hs:s*s=1)(ha:a*s≠0):B*s / (a*s)=1 / (a / B):=by
 have:s≠0:=fun z=>by rw[z] at hs;grind
 grind
def jG:SpB:=.of 1 (α:=List Int×Int×Nat×Nat) (fun (P,B,n,b) ds=>ds=[pD P B]/\Pc.Pz n b P B/\P.length=2/\P.getD 1 0≠0/\n<=8000/\b<=8000)
 (fun (P,B,n,b) d=>∃ R C,d=pD R C/\Pc.Pz (n+b+1) n R C/\R.length<=2/\Qp.q R C 1=1 / Qp.q P B 1/\Qp.q R C 0=(0-Qp.q P B 0) / Qp.q P B 1)
def jE:TSd:=(iZ [] (iU i9 (iR (je (iR (iV .Sub (dC (.int 0)) (iV .Mult (iS 1) (iS 3))) (iR (iV .Mult (dIx (iS 0) (dC (.int 1))) (iS 3)) iT))) (iR (dB bAbs bAbs.mono (iR (iS 2) iT)) iT))))
def kD:TSd:=dSq (iY [] (gNm 3) (dIx (je (iR (iV .Sub (dC (.int 0)) (dC (.int 1))) (iR (dC (.int 1)) iT))) (dB bInt bInt.mono (iR (i6 .Gt (iS 2) (dC (.int 0))) iT))))
 jE
def mf:TSd:=dSq (iY [] (gTp [1,2]) (dIx (iS 0) (dC (.int 0))))
 kD
theorem kj:Does 4 mf jG:=by
 rintro ds Q hn ⟨⟨P,B,n,b⟩,⟨rfl,z,l2,p1,hn,hb⟩,q⟩;dsimp only at z l2 p1 hn hb q;obtain⟨x,y,rfl⟩:∃ x y,P=[x,y]:=by
  match P,l2 with
  | [x,y],_=>exact⟨x,y,rfl⟩
 have p1:y≠0:=p1;have B0:=z.fm.pos;have lx:Lt2 n x:=z.tops 0;have ly:Lt2 n y:=z.tops 1;have key:∀ s:Int,Lt2 1 s->s*s=1->y*s=(y.natAbs:Int)->jE.run (ux Q) [.val (pD [x,y] B),.val (.int x),.val (.int y),.val (.int s)]:=fun s ls ss ys=>by
  have a0:(0:Int)<((y.natAbs:Nat):Int):=by lia
  have la:Lt2 n ((y.natAbs:Nat):Int):=by unfold Lt2;rw[br];exact ly
  refine⟨⟨n,1,lx,ls,by lia⟩,⟨b,1,z.bot,ls,by lia⟩,vK,rfl,([0-x*s,B*s],((y.natAbs:Nat):Int)),⟨.inl ?_,a0,la.mono (by lia),by show 2<=1000;decide⟩,?_⟩
  ·show [D.lst [.int (0-x*s),.int (B*s)],.int (if y<0 then -y else y)]=_;rw[vJ];rfl
  rintro _ ⟨R,C,rfl,fR,wR,lR⟩;have wR:∀ k,R.getD k 0*((y.natAbs:Nat):Int)=[0-x*s,B*s].getD k 0*C:=wR;have qq:=fun k=>Qp.Av (f:=fun k=>[0-x*s,B*s].getD k 0) fR.pos (ao a0) wR k;have ys':((y.natAbs:Int):Rat)=(y:Rat)*(s:Rat):=by rw[← ys,az]
  have hs:(s:Rat)*(s:Rat)=1:=by rw[← az,ss];rfl
  have ny:(y:Rat)≠0:=Qp.uO p1;have nB:=Qp.uh B0;have nys:(y:Rat)*(s:Rat)≠0:=by rw[← ys'];exact Qp.uh a0
  refine q _ ⟨R,C,rfl,?_,lR,?_,?_⟩
  ·refine Pc.Pz.of fR a0 wR (fun k=>?_) la;match k with
   | 0=>exact (((lx.mul ls).mono (m:=n+1) (ak _)).le (by show (0-x*s).natAbs<=(x*s).natAbs;lia)).mono (by lia)
   | 1=>exact (z.bot.mul ls).mono (by lia)
   | k+2=>rw[Pc.wU];exact xB _
  ·rw[qq 1];show ((B*s:Int):Rat) / ((y.natAbs:Int):Rat)=1 / ((y:Rat) / (B:Rat));rw[ys',az];exact L0 _ _ _ nB ny hs nys
  ·rw[qq 0];show ((0-x*s:Int):Rat) / ((y.natAbs:Int):Rat)=(0-(x:Rat) / (B:Rat)) / ((y:Rat) / (B:Rat));rw[ys',gK,az];exact L1 _ _ _ _ nB ny hs nys
 refine⟨rfl,vK,?_⟩;by_cases c:0<y
 ·refine vF (d:=.int 1) ?_ (key 1 (by unfold Lt2;decide) (by decide) (by lia));show Aj _ (if decide (0<y)=true then (1:Int) else 0)=_;rw[QI (by simpa using c)];rfl
 ·refine vF (d:=.int (0-1)) ?_ (key (0-1) (by unfold Lt2;decide) (by decide) (by lia));show Aj _ (if decide (0<y)=true then (1:Int) else 0)=_;rw[QJ (by simpa using c)];rfl
def qm:TSd:=(iZ [] (dC (.bl true)))
def rT:TSd:=dSq (jq [] (jd (iS 0)) (gNm 1)
 (dIf [] (i5 (i6 .GtE (dB bMax bMax.mono (iR (iV .Add (i7 (jd (dIx (iS 1) (dC (.int 0)))) [2] (gNm 2) jt (dB bAbs bAbs.mono (iR (iS 2) iT))) (je (iR (dIx (iS 1) (dC (.int 1))) iT))) iT)) (iV .Pow (dC (.int 10)) (dC (.int 40)))))
 (iZ [] (dC (.bl false)))
 i8))
 qm
end Dp
namespace Dp
open PySem L2
theorem Fn{c m x:Int}(h:0<m)(hc:c∣m)(hx:c∣x):c*m.fdiv (Fr.cp m x)∣m:=by
 have g0:=v5 (a:=m) (b:=x) (by lia);obtain⟨e,_,_⟩:=uF g0 h (wO m x).1;have hg:c∣Fr.cp m x:=by
  unfold Fr.cp;exact Int.dvd_coe_gcd hc hx
 obtain⟨y,hy⟩:=hg;generalize m.fdiv (Fr.cp m x)=q at *;generalize Fr.cp m x=g at *;refine⟨y,?_⟩;rw[e,hy];grind
def mh:TSd:=(iZ [] (iS 3))
def mj:TSd:=dSq (jq [] (kI (dC (.int 1)) (iV .Add (iS 1) (dC (.int 1)))) (gNm 4)
 (pS [] 3 .Mult (iV .FloorDiv (iS 2) (iU jj (iR (iS 2) (iR (iV .Mult (dIx (iS 0) (iV .Sub (iS 1) (iS 4))) (iU iW (iR (iS 3) (iR (iS 4) iT)))) iT))))))
 mh
def ju:TSd:=dSq (iY [] (gNm 3) (dC (.int 1)))
 mj
def nr:TSd:=dSq (mZ [] 1 2 (iV .Sub (dB bLen bLen.mono (iR (iS 0) iT)) (dC (.int 1))) (dB bAbs bAbs.mono (iR (dIx (iS 0) (mw (dC (.int 1)))) iT)))
 ju
theorem Kv(a:Int)(h:m<=n):a^m∣a^n:=⟨a^(n-m),by rw[← cT];congr 1;lia⟩
theorem CT{P:List Int}{B c:Int}{f:Nat->Int}(F:Po.Fm P B)(h:∀ k,P.getD k 0*c=f k*B):B∣c:=bj.mp (Po.AW (P':=(P5 P.length).map f) F fun k=>by
 rcases ar k P.length with z|z
 ·rw[h k,ae,aM,iy z];rfl
 ·rw[uj z,uj (by rw[aa,gb];exact z)];simp)
theorem lcm_dvd{b r D:Int}(hb:0<b)(hr:0<r)(h1:b∣D)(h2:r∣D):b*r.fdiv (Fr.cp b r)∣D:=by
 have g0:=v5 (a:=b) (b:=r) (by lia);obtain⟨e,q0,_⟩:=uF g0 hr (wO b r).2;have l:=Nat.lcm_dvd (bj.mpr h1) (bj.mpr h2);refine bj.mp ?_;have eg:Fr.cp b r=((Qo b.natAbs r.natAbs:Nat):Int):=rfl;rw[aR];have e2:r.natAbs=Qo b.natAbs r.natAbs*(r.fdiv (Fr.cp b r)).natAbs:=by
  have:=congrArg Int.natAbs e;rw[aR,eg,br] at this;rw[eg];exact this
 have g1:0<Qo b.natAbs r.natAbs:=Nat.gcd_pos_of_pos_left _ (by lia);unfold Nat.lcm at l;generalize (r.fdiv (Fr.cp b r)).natAbs=q at *;generalize hg:Qo b.natAbs r.natAbs=g at *;rw[e2,show b.natAbs*(g*q)=g*(b.natAbs*q) by grind,Nat.mul_div_cancel_left _ g1] at l;exact l
def O4(fs:List (Int×Int))(Dv:Int)(m:Nat):Prop:=(∀ f∈fs,0<f.2/\Lt2 m f.1/\f.2∣Dv)/\fs.length<=100/\0<Dv/\Lt2 8990000 Dv/\m<=10000000
def jA:SpB:=.of 1 (α:=List (Int×Int)×Int×Nat) (fun (fs,D,m) ds=>ds=[.lst (Hu fs)]/\O4 fs D m)
 (fun (fs,D,m) d=>∃ b0:Int,d = .tup [.lst ((fs.map fun f=>f.1*b0.fdiv f.2).map .int),.int b0]/\0<b0/\Lt2 8990000 b0/\b0∣D/\∀(j:Nat) (f:Int×Int),fs[j]? = some f->f.2∣b0)
def j8:TSd:=(iZ [] (jg (iR (i7 (jd (iS 0)) [2] (gNm 2) jt (iV .Mult (dIx (iS 2) (dC (.int 0))) (iV .FloorDiv (iS 1) (dIx (iS 2) (dC (.int 1)))))) (iR (iS 1) iT))))
def j9:TSd:=dSq (jq [] (jd (iS 0)) (gNm 2)
 (pS [] 1 .Mult (iV .FloorDiv (dIx (iS 2) (dC (.int 1))) (iU jj (iR (iS 1) (iR (dIx (iS 2) (dC (.int 1))) iT))))))
 j8
def kE:TSd:=dSq (iY [] (gNm 1) (dC (.int 1)))
 j9
theorem jY:Does 3 kE jA:=by
 rintro ds Q hn ⟨⟨fs,D1,m⟩,⟨rfl,hb,hl,D0,lD,hm⟩,q⟩;dsimp only at hb hl D0 lD hm q;have sizes:∀{i:Nat} {f:Int×Int},fs[i]? = some f->0<f.2/\Lt2 m f.1/\f.2∣D1:=fun h=>hb _ (aO h);have small:∀{c:Int},c∣D1->Lt2 8990000 c:=fun h=>lD.le (cU (by lia) (bj.mpr h));refine⟨fun i s=>∃(o:SD) (b0:Int),s=[.val (.lst (Hu fs)),.val (.int b0),o]/\0<b0/\b0∣D1/\∀(j:Nat) (f:Int×Int),j<i->fs[j]? = some f->f.2∣b0,⟨.no,1,rfl,by decide,Int.one_dvd _,fun j f h=>absurd h (bZ _)⟩,?_,?_⟩
 ·rintro i d _ hd ⟨o,b0,rfl,h0,hl0,hd0⟩;obtain⟨f,hf,rfl⟩:=A6 hd;obtain⟨b1,l1,l2⟩:=sizes hf;have g0:=v5 (a:=b0) (b:=f.2) (by lia);obtain⟨e,q0,ql⟩:=uF g0 b1 (wO b0 f.2).2;obtain⟨k1,k2⟩:=Hm h0 b1;have gl:(Fr.cp b0 f.2).natAbs<=f.2.natAbs:=cU (by lia) (bj.mpr (wO b0 f.2).2);refine⟨rfl,(b0,f.2),rfl,?_⟩;rintro _ rfl;refine⟨⟨by show Fr.cp b0 f.2≠0;lia,8990000,(small l2).le gl,by decide⟩,⟨_,_,small hl0,(small l2).le ql,by decide⟩,_,_,rfl,k1,lcm_dvd h0 b1 hl0 l2,fun j g hj hg=>?_⟩;rcases cy (eQ hj) with z|z
  ·rw[z,hf] at hg;cases hg;exact k2
  ·exact fc (hd0 j g z hg)
 ·rintro _ ⟨o,b0,rfl,h0,hl0,hd0⟩;rw[aa] at hd0;have hd1:∀(j:Nat) (f:Int×Int),fs[j]? = some f->f.2∣b0:=fun j f h=>hd0 j f (aj.mp h).1 h;refine⟨(congrArg (· <= Pv) (aa _)).mpr (vO (by lia)),mI (fun f:Int×Int=>f.1*b0.fdiv f.2) fs,mI.nil,fun i d ys hd _ hy=>?_,fun ys _ hy=>?_⟩
  ·obtain⟨f,hf,rfl⟩:=A6 hd;obtain⟨b1,l1,l2⟩:=sizes hf;obtain⟨e,q0,ql⟩:=uF b1 h0 (hd1 _ _ hf);exact⟨⟨by show f.2≠0;lia,8990000,small l2,by decide⟩,⟨_,_,l1,(small hl0).le ql,by lia⟩,hy.snoc hf rfl⟩
  ·cases hy.all (by rw[aa]);exact⟨vK,q _ ⟨b0,rfl,h0,small hl0,hl0,hd1⟩⟩
def jS:SpB:=.of 1 (α:=List (Int×Int)×Int×Nat) (fun (fs,D,m) ds=>ds=[.lst (Hu fs)]/\O4 fs D m)
 (fun (fs,D,m) d=>∃ P B,d=pD P B/\Po.Fm P B/\(∀ k,P.getD k 0*(fs.getD k (0,1)).2=(fs.getD k (0,1)).1*B)/\P.length<=fs.length/\B∣D)
def rV:TSd:=(iZ [] (iU ji (iR (iS 1) (iR (iS 2) iT))))
def tK:TSd:=dSq (iY [] (gTp [1,2]) (iU jA (iR (iS 0) iT)))
 rV
theorem ra:Does 3 tK jS:=by
 rintro ds Q hn ⟨⟨fs,D1,m⟩,⟨rfl,hF⟩,q⟩;have hF':=hF;obtain⟨hb,hl,D0,lD,hm8⟩:=hF';refine⟨rfl,(fs,D1,m),⟨rfl,hF⟩,?_⟩;rintro _ ⟨b0,rfl,h0,hl0,hbD,hd⟩;refine⟨rfl,rfl,(fs.map fun f=>f.1*b0.fdiv f.2,b0),⟨rfl,h0,Lt2.mono hl0 (by decide),by show (fs.map fun f=>f.1*b0.fdiv f.2).length<=1000;rw[aa];lia⟩,?_⟩;rintro _ ⟨P,B,rfl,fm,hw,hle⟩;have hle:P.length<=(fs.map fun f=>f.1*b0.fdiv f.2).length:=hle;rw[aa] at hle;refine q _ ⟨P,B,rfl,fm,fun k=>?_,hle,eY (bj.mp (Po.AW fm hw)) hbD⟩;have hk:P.getD k 0*b0=(fs.map fun f=>f.1*b0.fdiv f.2).getD k 0*B:=hw k;show P.getD k 0*(fs.getD k (0,1)).2=(fs.getD k (0,1)).1*B;cases hf:fs[k]? with
 | none =>
  rw[uj (fs:=fs.map fun f=>f.1*b0.fdiv f.2) (by rw[aa];exact gS.mp hf),aN] at hk;rw[uj (fs:=fs) (gS.mp hf)];rcases cr.mp hk with z|z
  ·rw[z];simp
  ·lia
 | some f =>
  have hm:(fs.map fun f=>f.1*b0.fdiv f.2).getD k 0=f.1*b0.fdiv f.2:=uM (by rw[aM,hf];rfl);rw[hm] at hk;rw[uM hf];have b1:=(hb f (aO hf)).1;obtain⟨e,q0,_⟩:=uF b1 h0 (hd k f hf);refine aK (ao q0) ?_;generalize b0.fdiv f.2=y at *;grind
theorem AU(h:∀ k,F k=0)(x:Rat):∀ n,Qp.ei F x n=0
 | 0=>rfl
 | n+1=>by
  rw[Qp.ei,AU h x n,h n];show (0:Rat)+0*_=0;grind
theorem v8(h:Ca.Cand P k s R C)(s1:1<=s):R s=C/\R 0=0:=by
 obtain⟨c,g,c0,g0,h1,h2,h3⟩:=h;have:=h2 0 (by lia);rw[bP,aT,bq,g0,cB] at this;exact⟨this,h3⟩
theorem Ha{P G:List Int}(lG:G.length=s+1)(lP:P.length=s+1)(fG:Po.Fm G U)(h:Ca.Cand (fun i=>P.getD i 0) 1 s (fun i=>G.getD i 0) U)(hL:P.getD s 0≠0):U.natAbs<=(P.getD s 0).natAbs:=by
 obtain⟨c,g,c0,g0,h1,h2,h3⟩:=h;have key:∀ k,G.getD k 0*P.getD s 0=(if k=0 then 0 else P.getD k 0)*U:=fun k=>by
  by_cases c1:k=0
  ·subst c1;have h3:G.getD 0 0=0:=h3;rw[QI rfl,h3];simp
  rw[QJ c1];rcases ar s k with z|z
  ·rw[uj (fs:=G) (i:=k) (by lia),uj (fs:=P) (i:=k) (by lia)];simp
  ·have a:P.getD (1*s-(s-k)) 0*c^(s-k)=P.getD (1*s) 0*Ca.pw g 1 (s-k):=h1 (s-k) (by lia);have b:G.getD (s-(s-k)) 0*c^(s-k)=g (s-k)*U:=h2 (s-k) (by lia);rw[eK,show s-(s-k)=k by lia] at a;rw[show s-(s-k)=k by lia] at b;rw[Ca.FO,Pc.Oq] at a;refine aK (show c^(s-k)≠0 from cN (ao c0)) ?_
   calc G.getD k 0*P.getD s 0*c^(s-k)=(G.getD k 0*c^(s-k))*P.getD s 0:=by grind
    _=g (s-k)*U*P.getD s 0:=by rw[b]
    _=(P.getD s 0*g (s-k))*U:=by grind
    _=P.getD k 0*U*c^(s-k):=by rw[← a];grind
 rcases dG hL with z|z
 ·have:=(Po.size (f:=fun k => -(if k=0 then 0 else P.getD k 0)) (b:=-P.getD s 0) fG (by lia) fun k=>by rw[Int.mul_neg,key k,iz]).1;rwa [dj] at this
 ·exact (Po.size (f:=fun k=>if k=0 then 0 else P.getD k 0) (b:=P.getD s 0) fG z key).1
theorem BO{t u a c:Int}(u0:0<u)(g:PV t u=1)(c0:0<c)(e:(t:Rat) / (u:Rat)=(a:Rat) / (c:Rat)):u∣c:=by
 have h:=(Qp.uD (ao u0) (ao c0)).mp e;have d:u∣t*c:=⟨a,by rw[h,bB]⟩;have d:=bj.mpr d;rw[aR] at d;exact bj.mp (Nat.Coprime.dvd_of_dvd_mul_left (show Qo u.natAbs t.natAbs=1 by rw[ic];exact g) d)
theorem AT(f:Nat->Rat)(y:Rat):∀ n,Qp.er f y (n+1)=f 0+y*Qp.er (fun k=>f (k+1)) y n
 | 0=>by unfold Qp.er Qp.er;grind
 | n+1=>by
  rw[Qp.er,AT f y n,Qp.er];grind
theorem Nt(l:P.length<=1)(x:Rat):Qp.E P B x=Qp.q P B 0:=by
 rw[Qp.zu (N:=1) l,Qp.Oo];rfl
theorem JK:∀{Ps:List (List Int×Int)} {f:Nat->Rat},(∀ p∈Ps,p.1.length<=1)->(∀ j p,Ps[j]? = some p->f j=Qp.q p.1 p.2 0)->Ap.Ed y x Ps=Qp.er f y Ps.length
 | [],_,_,_=>rfl
 | p::Ps,f,h,hf=>by
  show Qp.E p.1 p.2 x+y*Ap.Ed y x Ps=_;rw[bo,AT,Nt (h p aG),hf 0 p rfl,JK (fun q hq=>h q (aA _ hq)) fun j q hq=>hf (j+1) q hq]
theorem Df(l:R.length<=N)(y:Rat):Qp.E R C y=Qp.er (Qp.q R C) y N:=by
 rw[Qp.Lc (fun _=>rfl),Qp.zu l]
def B5(P:List Int)(B:Int)(k s:Nat):Prop:=∃ G U R C,Po.Fm G U/\G.length=s+1/\Ca.Cand (fun i=>P.getD i 0) k s (fun i=>G.getD i 0) U/\Po.Fm R C/\∀ x,Qp.E P B x=Qp.E R C (Qp.E G U x)
theorem GX(r:Rat):∃ p:List Int×Int,Po.Fm p.1 p.2/\p.1.length<=1/\∀ x,Qp.E p.1 p.2 x=r:=by
 obtain⟨t,u,hu,rfl⟩:=Qp.u6 r;have h1:∀ k,1<=k->([t]:List Int).getD k 0=0:=fun k hk=>uj hk;obtain⟨R,C,fR,w⟩:=Ap.has (F:=fun k=>[t].getD k 0) (n:=1) hu h1;exact⟨(R,C),fR,Pc.uU fR hu w h1,fun x=>Qp.yt fR hu w x⟩
theorem y8:∀(n:Nat) (f:Nat->Rat),∃ Cs:List (List Int×Int),Cs.length=n/\(∀ p∈Cs,Po.Fm p.1 p.2/\p.1.length<=1)/\∀ x y,Ap.Ed y x Cs=Qp.er f y n
 | 0,f=>⟨[],rfl,fun p h=>absurd h bf,fun x y=>rfl⟩
 | n+1,f=>by
  obtain⟨Cs,l,h,e⟩:=y8 n fun k=>f (k+1);obtain⟨p,fp,lp,ep⟩:=GX (f 0);refine⟨p::Cs,by rw[bo,l],fun q hq=>?_,fun x y=>?_⟩
  ·rcases av.mp hq with z|z
   ·rw[z];exact⟨fp,lp⟩
   ·exact h q z
  ·show Qp.E p.1 p.2 x+y*Ap.Ed y x Cs=_;rw[AT,ep,e]
theorem mem_getD{α:Type}{l:List α}{t:Nat}{d:α}{p:α->Prop}(h:∀ x∈l,p x)(hd:p d):p (l.getD t d):=by
 rcases ar t l.length with z|z
 ·exact h _ (vY z)
 ·rw[uj z];exact hd
open Classical in
noncomputable def ind(P:List Int)(B:Int)(n:Nat):List Nat:=(dvs n n).filter fun s=>decide (B5 P B (n / s) s)
def nD(l:List Nat):D:=.lst (l.map fun s=>D.int ((s:Nat):Int))
end Dp
namespace Dp
open PySem L2 Qp
theorem vt{P W:List Int}{B V:Int}(fP:Po.Fm P B)(fW:Po.Fm W V):∃ R C,Pc.Of P B W V R C:=by
 have p:0<B*V^P.length:=ay fP.pos (bX fW.pos);obtain⟨R,C,fR,w⟩:=Ap.has (F:=Pc.pc (Cv.fn P) (Cv.fn W) V P.length) (n:=P.length*W.length+1) p fun k hk=>Pc.AB (fun j hj=>Cv.uk hj) P.length k hk;exact⟨R,C,fR,w⟩
theorem Dn(c d:Rat)(c0:c≠0):∃ W V,Po.Fm W V/\W.length=2/\W.getD 1 0≠0/\Qp.q W V 1=c/\∀ x,Qp.E W V x=c*x+d:=by
 obtain⟨W,V,fW,eW,lW⟩:=(Ap.Pl'.x.smul c).add ((Ap.Pl'.const d).mono (m:=2) (by decide));obtain⟨S,e,fS,eS,lS⟩:=Ap.Pl'.const d;have q1:=Ap.vn (u:=c) fW Pc.E4.fm fS (fun x=>by rw[eW,eS,Qp.Hw]) 1;rw[Qp.uK (P:=S) (k:=1) (by lia)] at q1;have q1:Qp.q W V 1=c:=by
  rw[q1];show c*((1:Rat) / 1)+0=c;grind
 obtain⟨l,n⟩:=yw (by rw[q1];exact c0) lW;exact⟨W,V,fW,l,n,q1,eW⟩
end Dp
namespace Dp
open PySem L2
theorem D9:∀ n,(∀ j,j<n->F j=G j)->Qp.ei F x n=Qp.ei G x n
 | 0,_=>rfl
 | n+1,h=>by rw[Qp.ei,Qp.ei,D9 n fun j hj=>h j (by lia),h n (by lia)]
def Cn(P:List Int)(k s:Nat)(G:List Int)(U:Int):Prop:=Po.Fm G U/\G.length=s+1/\Ca.Cand (fun i=>P.getD i 0) k s (fun i=>G.getD i 0) U
theorem LK(c0:0<c)(h:∀ k,X.getD k 0=if k=n then c else 0)(y:Rat):Qp.E X c y=y^n:=by
 have lX:X.length<=n+1\/n+1<X.length:=by lia
 have hz:∀ m,n+1<=m->Qp.ei (Cv.fn X) y m=Qp.ei (Cv.fn X) y (n+1):=fun m hm=>by
  have:=Qp.Ad (F:=Cv.fn X) (x:=y) (n:=n+1) (fun k hk=>by show X.getD k 0=0;rw[h,QJ (by lia)]) (m-(n+1));rw[← this];congr 1;lia
 have e0:Qp.ei (Cv.fn X) y n=0:=by
  rw[D9 (G:=fun _=>0) n fun j hj=>by show X.getD j 0=0;rw[h,QJ (by lia)]];exact AU (fun _=>rfl) y n
 have c1:=Qp.uh c0;rw[Qp.zu (N:=max X.length (n+1)) (Nat.le_max_left _ _),hz _ (Nat.le_max_right _ _),Qp.ei,e0,show Cv.fn X n=c by show X.getD n 0=c;rw[h,QI rfl]];grind
def LU(P:List Int)(B:Int)(G:List Int)(U:Int):Prop:=∃ R C,Po.Fm R C/\∀ x,Qp.E P B x=Qp.E R C (Qp.E G U x)
theorem xl(fG:Po.Fm G U)(lG:G.length=s+1)(s1:1<=s)(fR:Po.Fm R C)(fR':Po.Fm R' C')(h:∀ x,Qp.E R C (Qp.E G U x)=Qp.E R' C' (Qp.E G U x)):R=R'/\C=C':=by
 obtain⟨Cs,lC,hC,eC⟩:=y8 R.length (Qp.q R C);obtain⟨Ds,lD,hD,eD⟩:=y8 R'.length (Qp.q R' C');have u:=Ap.Ed.uniq2 fG lG (ps:=Cs) (qs:=Ds) (fun q hq=>⟨(hC q hq).1,aD (hC q hq).2 s1⟩) (fun q hq=>⟨(hD q hq).1,aD (hD q hq).2 s1⟩) (fun x=>by rw[eC,eD,← Df (ak _),← Df (ak _),h]);exact Qp.uQ fR fR' fun y=>by rw[Df (ak R.length),← eC 0 y,Ap.Ed.same u,eD,← Df (ak _)]
theorem Ig{G P:List Int}{U B:Int}{s:Nat}{p:List Int×Int}{i:Nat}(fG:Po.Fm G U)(lG:G.length=s+1)(s1:1<=s)(hP:∀ p∈Ps,Po.Fm p.1 p.2/\p.1.length<=s)(e:∀ x,Qp.E P B x=Ap.Ed (Qp.E G U x) x Ps)(hi:Ps[i]? = some p)(h2:2<=p.1.length):¬ LU P B G U:=by
 rintro⟨R,C,fR,eR⟩;obtain⟨Cs,lC,hC,eC⟩:=y8 R.length (Qp.q R C);have u:=Ap.Ed.uniq2 fG lG (ps:=Ps) (qs:=Cs) hP (fun q hq=>⟨(hC q hq).1,aD (hC q hq).2 s1⟩) (fun x=>by rw[← e,eR,eC,Df (ak _)]) i;rw[uM hi] at u;have:(Cs.getD i ([],1)).1.length<=1:=mem_getD (p:=fun q:List Int×Int=>q.1.length<=1) (fun q hq=>(hC q hq).2) (aE _);rw[← u] at this;lia
theorem Cn.uniq(z:Po.Fm P B)(lP:P.length=a*s+1)(a1:1<=a)(h:Cn P a s G U)(h':Cn P a s G' U'):G=G'/\U=U':=Ca.Cand.uniq a1 (uB z lP) h.1 h'.1 h.2.1 h'.2.1 h.2.2 h'.2.2
end Dp
namespace Dp
open PySem L2 Ch
def kJ:SpB:=.of 1 (α:=List Pl) (fun cs ds=>ds=[.lst (cs.map pq)]/\(∀ p∈cs,0<p.2/\p.1.length<=1000)) (fun cs d=>∃ c:Bool,d = .bl c/\(c=true->∀ p∈cs,Lt2 133 p.2/\∀ i,Lt2 133 (p.1.getD i 0)))
theorem nv:Does 3 rT kJ:=by
 rintro ds Q hn ⟨cs,⟨rfl,hp⟩,q⟩;dsimp only at hp q;have cp:Hs 10 40:=⟨by decide,by decide,by decide⟩;refine⟨fun i s=>(∃ o o':SD,s=[.val (.lst (cs.map pq)),o,o'])/\∀ j p,j<i->cs[j]? = some p->Lt2 133 p.2/\∀ i,Lt2 133 (p.1.getD i 0),⟨⟨.no,.no,rfl⟩,fun j p h=>absurd h (bZ _)⟩,?_,?_⟩
 ·rintro i d _ hd ⟨⟨o,o',rfl⟩,hI⟩;have hd:(cs.map pq)[i]? = some d:=hd;rw[aM] at hd;obtain⟨p,hp1,rfl⟩:=ab.mp hd;obtain⟨b0,ll⟩:=hp p (aO hp1);refine⟨(congrArg (· <= Pv) (aa _)).mpr (vO (by lia)),mI (fun z:Int=>((z.natAbs:Nat):Int)) p.1,mI.nil,fun j d ys hd _ hy=>?_,fun ys _ hy=>?_⟩
  ·obtain⟨z,hz,rfl⟩:=vH hd;exact hy.snoc hz (vJ z)
  cases hy.all (by rw[aa]);refine⟨zn,by rw[aa,aa];exact vO (by show p.1.length+1<=_;lia),p.1.map (fun z:Int=>((z.natAbs:Nat):Int))++[p.2],by rw[bw];rfl,by simp,fun M hM hle=>⟨cp,?_⟩⟩;refine yo (p:=(10:Int)^40<=M) (fun c=>q _ ⟨false,rfl,fun z=>by cases z⟩) (fun c=>⟨⟨_,_,rfl⟩,fun j p' hj hp'=>?_⟩);rcases cy (eQ hj) with e|e
  ·rw[e,hp1] at hp';cases hp';have lt:∀ a∈p.1.map (fun z:Int=>((z.natAbs:Nat):Int))++[p.2],a<(10:Int)^40:=fun a ha=>by
    have:=hle a ha;lia
   refine⟨?_,fun i=>?_⟩
   ·have:=lt p.2 (by simp);exact Gu (by rw[Int.natAbs_of_nonneg (by lia)];exact this)
   ·rcases ar i p.1.length with x|x
    ·exact Gu (lt _ (bS.mpr (.inl (de.mpr ⟨_,vY x,rfl⟩))))
    ·rw[uj x];exact xB _
  ·exact hI j p' e hp'
 ·rintro _ ⟨⟨o,o',rfl⟩,hI⟩;rw[aa] at hI;refine q _ ⟨true,rfl,fun _ p hp=>?_⟩;obtain⟨j,hj⟩:=bV.mp hp;exact hI j p (aj.mp hj).1 hj
end Dp
namespace Dp
open PySem L2
theorem y9(fR:Po.Fm R C)(lR:R.length=d+1)(fA:Po.Fm A α)(lA:A.length=s+1)(s1:1<=s)(fp:Po.Fm p c)(e:∀ x,Qp.E p c x=Qp.E R C (Qp.E A α x)):p.length=d*s+1:=by
 obtain⟨S,cS,o⟩:=vt fR fA;have l:=Pc.Of.deg_eq fR.pos fA.pos o lR lA s1 (uB fR lR) (uB fA lA);obtain⟨rfl,rfl⟩:=Qp.uQ fp o.1 fun x=>by rw[e,Qp.wn fR.pos fA.pos o]
 exact l
end Dp
namespace Dp
open PySem L2 Cv Hv Pc Qp
theorem AA(fA:Po.Fm A α)(lA:A.length=s+1)(mon:A.getD s 0=α)(k:Nat):∃ H C,Po.Fm H C/\(∀ x,E H C x=E A α x^k)/\q H C (k*s)=1:=by
 obtain⟨H,C,fH,eH,qH⟩:=Ca.Cl fA k;refine⟨H,C,fH,eH,?_⟩;rw[qH,Ca.FO,C2 (fun i hi=>uk (by lia)),show fn A s=α from mon];have n2:=uh (show 0<α^k from bX fA.pos);generalize ((α^k:Int):Rat)=u at *;grind
theorem Er(fW:Po.Fm W w)(lW:W.length=l+1):∃ r,Ap.Pl' l r/\∀ y,E W w y=q W w l*y^l+r y:=by
 obtain⟨H,C,fH,eH,qH⟩:=AA (A:=Pc.X) (α:=1) (s:=1) ⟨by decide,.inr (by decide),by decide⟩ rfl rfl l;rw[dS] at qH;have pH:Ap.Pl' (l+1) (E H C):=((Ap.Pl'.x.pow (s:=1) l).congr fun x=>by rw[eH,Hw]).mono (by lia);obtain⟨D,e,fD,eD,lD⟩:=((Ap.Pl'.of fW).mono (m:=l+1) (by lia)).add (pH.smul (-(q W w l)));have eD:∀ x,E D e x=E W w x + -(q W w l)*E H C x:=eD;have qe:=Ap.vn (u:=q W w l) fW fH fD (fun x=>by rw[eD x];grind) l;rw[qH] at qe;have z:q D e l=0:=by grind
 refine⟨E D e,⟨D,e,fD,fun _=>rfl,Ap.Iv fD lD z⟩,fun y=>?_⟩;rw[eD y,eH,Hw];grind
theorem Gr(fW:Po.Fm W w)(lW:W.length=l+1)(l1:1<=l)(mW:W.getD l 0=w)(fA:Po.Fm A α)(lA:A.length=s+1)(s1:1<=s)(mA:A.getD s 0=α)(fG:Po.Fm G U)(eG:∀ x,E G U x=E W w (E A α x)):G.getD (l*s) 0=U:=by
 obtain⟨r,⟨R,C,fR,eR,lR⟩,e⟩:=Er fW lW;obtain⟨H,c,fH,eH,qH⟩:=AA fA lA mA l;have pA:Ap.Pl' (s+1) (E A α):=lA ▸ Ap.Pl'.of fA;obtain⟨S,d,fS,eS,lS⟩:=Ap.Pl'.comp (P:=R) (B:=C) pA;have eS:∀ x,E S d x=E R C (E A α x):=eS;have qW:q W w l=1:=by
  unfold q;rw[mW];have:=uh fW.pos;grind
 have ls:l*s=s*(l-1)+s:=by
  obtain⟨j,rfl⟩:∃ j,l=j+1:=⟨l-1,by lia⟩;rw[bJ,bh,bQ]
 have b:s*(R.length-1)<=s*(l-1):=ai _ (by lia);have qe:=Ap.vn (u:=1) fG fH fS (fun x=>by rw[eG,e,eS,eR,eH,qW]) (l*s);rw[qH,uK (P:=S) (by lia)] at qe;have qe:q G U (l*s)=((1:Int):Rat) / ((1:Int):Rat):=by rw[qe];grind
 have:=(uD (ao fG.pos) (by decide)).mp qe;lia
theorem Ka(k1:1<=k)(s1:1<=s)(fP:Po.Fm P B)(fG:Po.Fm G U)(lG:G.length=s+1)(mG:G.getD s 0=U)(hr:Ap.Pl' (k*s-s+1) r)(e:∀ x,E P B x=c*E G U x^k+r x):Ca.Sem P B k s G U:=by
 have ks:s<=k*s:=aQ _ k1;obtain⟨H,C,fH,eH,qH⟩:=AA fG lG mG k;have hr':=hr;obtain⟨S,d,fS,eS,lS⟩:=hr';have qe:=Ap.vn (u:=c) fP fH fS (fun x=>by rw[e,eH,eS]) (k*s);rw[qH,uK (P:=S) (by lia)] at qe;have qe:q P B (k*s)=c:=by rw[qe];grind
 exact⟨r,hr,fun x=>by rw[qe];exact e x⟩
theorem Ej(k1:1<=k)(l1:1<=l)(s1:1<=s)(fP:Po.Fm P B)(fA:Po.Fm A α)(lA:A.length=s+1)(mA:A.getD s 0=α)(A0:A.getD 0 0=0)(fR:Po.Fm R C)(lR:R.length=k*l+1)(eP:∀ x,E P B x=E R C (E A α x))(cW:Cn R k l W w)(fG:Po.Fm G U)(eG:∀ x,E G U x=E W w (E A α x)):Cn P k (l*s) G U:=by
 obtain⟨fW,lW,cW⟩:=cW;obtain⟨mW,W0⟩:=v8 cW l1;have lG:=y9 fW lW fA lA s1 fG eG;have mG:=Gr fW lW l1 mW fA lA s1 mA fG eG;have ls1:1<=l*s:=gH l1 s1;obtain⟨r,⟨S,d,fS,eS,lS⟩,e⟩:=cW.sem fR lR fW lW k1 l1;have pA:Ap.Pl' (s+1) (E A α):=lA ▸ Ap.Pl'.of fA;have pr:Ap.Pl' (k*(l*s)-l*s+1) fun x=>r (E A α x):=((Ap.Pl'.comp (P:=S) (B:=d) pA).congr fun x=>eS _).mono (by
  have b:s*(S.length-1)<=s*(k*l-l):=ai _ (by lia);have b2:s*(k*l-l)=k*(l*s)-l*s:=by rw[Nat.mul_sub,show s*(k*l)=k*(l*s) by rw[bQ s,eV],bQ s l]
  lia)
 have sm:=Ka k1 ls1 fP fG lG mG pr (c:=q R C (k*l)) fun x=>by rw[eP,e,eG]
 refine⟨fG,lG,sm.cand fP fG lG k1 ls1 mG ?_⟩;have z:q G U 0=((0:Int):Rat) / ((1:Int):Rat):=by
  have a0:E A α 0=0:=by
   rw[uV];unfold q;rw[A0];show (0:Rat) / _=0;grind
  rw[← uV,eG,a0,uV];unfold q;rw[show W.getD 0 0=0 from W0];show (0:Rat) / _=(0:Rat) / _;grind
 have:=(uD (ao fG.pos) (by decide)).mp z;lia
theorem JO(k1:1<=k)(s1:1<=s)(hL:P.getD (k*s) 0≠0):∃ G U,Cn P k s G U:=by
 have km1:k<=k*s:=bY _ s1;have km2:s<=k*s:=aQ _ k1;obtain⟨c,hc⟩:∃ c:Int,c=(((P.getD (k*s) 0).natAbs:Nat):Int)*k*k:=⟨_,rfl⟩;have c0:0<c:=by
  rw[hc];have x1:0<(P.getD (k*s) 0).natAbs:=by lia
  exact ay (ay (by lia) (by lia)) (by lia)
 have fa:=Ca.JF (P:=fun i=>P.getD i 0) (n:=k*s) (k:=k) (c:=c) rfl hL hc;obtain⟨a,ea⟩:∃ a:Nat->Int,∀ j,a j=if j<=k*s then (P.getD (k*s-j) 0*c^j).fdiv (P.getD (k*s) 0) else 0:=⟨_,fun _=>rfl⟩;have a0:a 0=1:=by rw[ea,QI (aE _)];exact (fa 0 (aE _)).2.1 rfl
 have ad:∀ i,(k*k:Int)∣a (i+1):=fun i=>by
  rw[ea];by_cases z:i+1<=k*s
  ·rw[QI z];exact (fa _ z).2.2 (gh _)
  ·rw[QJ z];exact iq _
 obtain⟨g,g0,gd,ge⟩:=Ca.root k1 (a:=a) a0 ad (s-1);obtain⟨R,C,fR,w⟩:=Ap.has (F:=fun i=>if i=0 then 0 else if i<=s then g (s-i)*c^(i-1) else 0) (n:=s+1) (c:=c^(s-1)) (bX c0) (fun k hk=>by
  show (if k=0 then (0:Int) else if k<=s then g (s-k)*c^(k-1) else 0)=0;rw[QJ (by lia),QJ (by lia)])
 have hw':∀ j,j<s->R.getD (j+1) 0*c^(s-1)=g (s-(j+1))*c^j*C:=fun j hj=>by
  have:=w (j+1);rw[QJ (Nat.succ_ne_zero _),QI (Nat.succ_le_of_lt hj)] at this;exact this
 have r1:=Ca.Mh (R:=fun i=>R.getD i 0) (g:=g) c0 hw';have r0:R.getD 0 0=0:=by
  have:=w 0;rw[QI rfl,aN] at this;exact (cr.mp this).resolve_right (cN (ao c0))
 have rm:R.getD s 0=C:=by
  have:=r1 0 s1;rw[aT,bq,g0,cB] at this;exact this
 have lR:R.length=s+1:=by
  have l1:R.length<=s+1:=Pc.uU fR (bX c0) w fun k hk=>by
   show (if k=0 then (0:Int) else if k<=s then g (s-k)*c^(k-1) else 0)=0;rw[QJ (by lia),QJ (by lia)]
  rcases ar s R.length with x|x
  ·lia
  ·rw[uj x] at rm;have:=fR.pos;lia
 refine⟨R,C,fR,lR,c,g,c0,g0,fun j hj=>?_,r1,r0⟩;have:=(fa j (by lia)).1;show P.getD (k*s-j) 0*c^j=P.getD (k*s) 0*Ca.pw g k j;rw[ge j (by lia),ea,QI (by lia)];exact this.symm
theorem DK(s1:1<=s)(fP:Po.Fm P B)(lP:P.length=k*s+1)(fA:Po.Fm A α)(lA:A.length=s+1)(fR:Po.Fm R C)(e:∀ x,E P B x=E R C (E A α x)):R.length=k+1:=by
 rcases dF R.length with y|y
 ·have r0:R=[]:=cX.mp y;have:P=[]:=(uQ fP Ap.yQ fun x=>by rw[e,r0,Ap.xA,Ap.xA]).1;rw[this] at lP;simp at lP
 ·obtain⟨d,hd⟩:∃ d,R.length=d+1:=⟨R.length-1,by lia⟩;have h:=y9 fR hd fA lA s1 fP e;rw[lP] at h;have:d=k:=Nat.eq_of_mul_eq_mul_right s1 (by lia);lia
end Dp
namespace Dp
open PySem L2 Dt Ch
theorem v6(W:Nat->D->Prop)(hl:ds.length<=16777216)(h:∀ i d,ds[i]? = some d->g.run d s0 fun s1=>e.run s1 (W i))(q:∀ ys:List D,ys.length=ds.length->(∀ i y,ys[i]? = some y->W i y)->Q (.lst ys)):compD ds s0 g jt e Q:=by
 refine⟨vO hl,fun i ys=>ys.length=i/\∀ j y,ys[j]? = some y->W j y,⟨rfl,fun j y h=>by cases h⟩,?_,?_⟩
 ·rintro i d ys hd _ ⟨l,hw⟩;refine g.mono (fun s1 w=>?_) (h i d hd);refine e.mono (fun y w=>?_) w;refine⟨by rw[aB,l];rfl,fun j z hz=>?_⟩;rcases ar j ys.length with c|c
  ·rw[bE c] at hz;exact hw j z hz
  ·rw[bv c] at hz;obtain⟨z1,z2⟩:=aj.mp hz;have e0:j-ys.length=0:=by simp at z1;lia
   have ej:j=i:=by lia
   subst ej;simp[e0] at hz;rw[← hz];exact w
 ·rintro ys _ ⟨l,hw⟩;exact q ys l hw
theorem JI:∀ N,Qp.ei F x N / (B:Rat)=rs N fun j=>((F j:Int):Rat) / (B:Rat)*x^j
 | 0=>by show (0:Rat) / _=0;grind
 | N+1=>by
  show (Qp.ei F x N+(F N:Rat)*x^N) / (B:Rat)=rs N _+_;rw[← JI N];grind
theorem OC(h:P.length<=N):Qp.E P B x=rs N fun j=>Qp.q P B j*x^j:=by
 rw[Qp.zu h,JI];rfl
end Dp
namespace Dp
open PySem L2
theorem Ir(h0:0<=n)(h:n<2000000):Lt2 21 n:=by
 unfold Lt2;have:(2:Nat)^21=2097152:=by decide
 lia
def jy:SpB:=.of 2 (α:=Int×Nat) (fun (n,k) ds=>ds=[.int n,.int k]/\0<=n/\Lt2 20000 n/\1<=k/\k<=15) (fun (n,k) d=>∃ r,d = .int r/\Rt.Is n k r)
def ko:TSd:=(jB (kA (dC (.bl true)))
 (dSq (iY [] (gNm 3) (iV .FloorDiv (iV .Add (iV .Mult (iV .Sub (iS 1) (dC (.int 1))) (iS 2)) (iV .FloorDiv (iS 0) (iU iW (iR (iS 2) (iR (iV .Sub (iS 1) (dC (.int 1))) iT))))) (iS 1)))
 (dSq (dIf [] (i5 (i6 .GtE (iS 3) (iS 2)))
 (iZ [] (iS 2))
 i8)
 (iY [] (gNm 2) (iS 3)))))
def oa:TSd:=dSq (iY [] (gNm 2) (iV .LShift (dC (.int 1)) (iV .Add (iV .FloorDiv (qQ (iS 0)) (iS 1)) (dC (.int 1)))))
 ko
def qo:TSd:=dSq (dIf [] (i5 (i6 .Eq (iS 0) (dC (.int 0))))
 (iZ [] (dC (.int 0)))
 i8)
 oa
theorem nA:Does 4 qo jy:=by
 rintro ds Q hn ⟨⟨n,k⟩,⟨rfl,n0,ln,k1,k15⟩,q⟩;dsimp only at n0 ln k1 k15 q;refine yo (p:=n=0) (fun c=>?_) (fun c=>?_)
 ·subst c;exact q _ ⟨0,rfl,Rt.Is.zero k1⟩
 have npos:0<n:=by lia
 have hb:Qg n<=20000:=PySem.intBits_le_iff.mpr ln;have hlt:n.natAbs<2^Qg n:=PySem.intBits_le_iff.mp (ak _);refine⟨n,rfl,?_⟩;generalize hbi:Qg n=b at *;obtain⟨m,hdiv,hmk,hmb,hst⟩:∃ m:Nat,Int.fdiv (b:Int) (k:Int)=(m:Int)/\m*k<=b/\m<=b/\m=b / k:=⟨b / k,by rw[cE _ (by lia),Int.natCast_ediv],Nat.div_mul_le_self b k,dE _ _,rfl⟩;have hb2:(m+2)*k<=b+2*k:=by
  rw[gI];lia
 refine⟨⟨by lia,21,Ir (by lia) (by lia),by lia⟩,⟨by rw[hdiv];lia,by rw[hdiv];lia,by decide⟩,?_⟩;show ko.run (ux Q) [.val (.int n),.val (.int k),.val (.int (1*2^(Int.fdiv (b:Int) (k:Int)+1).toNat)),.no];rw[hdiv,show ((m:Int)+1).toNat=m+1 by lia];refine⟨fun s=>∃(t:Int) (o:SD),s=[.val (.int n),.val (.int k),.val (.int t),o]/\0<t/\t<=1*2^(m+1)/\∀ s:Int,0<=s->s^k<=n->s<=t,fun s=>match s with|[_,_,.val (.int t),_]=>t.toNat|_=>0,⟨_,.no,rfl,by rw[cB];exact Rt.pow_pos (by decide) _,dH _,fun s hs h=>by rw[hst];exact Rt.start k1 hlt hs h⟩,?_⟩;rintro _ ⟨t,o,rfl,t0,tb,hu⟩;have lt:Lt2 (m+2) t:=by
  show t.natAbs<2^(m+2);have e1:(2:Int)^(m+1)=((2^(m+1):Nat):Int):=by rw[cR];rfl
  have e2:(2:Nat)^(m+2)=2^(m+1)*2:=dg ..;rw[cB,e1] at tb;have:=bg (n:=m+1) (show 0<2 by decide);lia
 have ek:(k:Int)-1=((k-1:Nat):Int):=by lia
 have hk1:(m+2)*(k-1)<=(m+2)*k:=ai _ (by lia);have hk2:(m+2+1)*(k-1+1)<=20003*15:=bI (by lia) (by lia);have lp:Lt2 ((m+2)*(k-1)+1) (t^(k-1)):=Hv.uz lt (k-1);have T:=Rt.pow_pos t0 (k-1);have fe:n.fdiv (t^(k-1))=n / t^(k-1):=cE _ (by lia);obtain⟨N,hN⟩:∃ N,(((k:Int)-1)*t+n / t^(k-1)) / (k:Int)=N:=⟨_,rfl⟩;have fN:Int.fdiv (((k:Int)-1)*t+n.fdiv (t^(k-1))) (k:Int)=N:=by rw[fe,cE _ (by lia),hN]
 have nw:∀ s:Int,0<=s->s^k<=n->s<=N:=fun s hs h=>by rw[← hN];exact Rt.KU k1 t0 hs h
 refine⟨⟨21,m+2,Ir (by lia) (by lia),lt,by lia⟩,rfl,(t,k-1,m+2),⟨?_,lt,by show k-1<=200;lia,by show (m+2+1)*(k-1+1)<=400000;lia⟩,?_⟩
 ·show [D.int t,.int ((k:Int)-1)]=_;rw[ek]
 rintro _ rfl;refine⟨⟨by show t^(k-1)≠0;lia,_,lp,by lia⟩,⟨by lia,21,Ir (by lia) (by lia),by lia⟩,?_⟩;have key:∀ z:Int,z=N->(dSq (dIf [] (i5 (i6 .GtE (iS 3) (iS 2))) (iZ [] (iS 2)) i8) (iY [] (gNm 2) (iS 3))).run ⟨fun s'=>(∃(t:Int) (o:SD),s'=[.val (.int n),.val (.int k),.val (.int t),o]/\0<t/\t<=1*2^(m+1)/\∀ s:Int,0<=s->s^k<=n->s<=t)/\(match s' with|[_,_,.val (.int t),_]=>t.toNat|_=>0)<t.toNat,Q,fun _=>False,fun s'=>(∃(t:Int) (o:SD),s'=[.val (.int n),.val (.int k),.val (.int t),o]/\0<t/\t<=1*2^(m+1)/\∀ s:Int,0<=s->s^k<=n->s<=t)/\(match s' with|[_,_,.val (.int t),_]=>t.toNat|_=>0)<t.toNat⟩ [.val (.int n),.val (.int k),.val (.int t),.val (.int z)]:=by
  rintro N rfl;refine yo (p:=t<=N) (fun c=>q _ ⟨t,rfl,Rt.stop k1 t0 hu (by rw[hN];exact c)⟩) (fun c=>?_);have:=nw 1 (by decide) (by rw[df];lia);refine⟨⟨N,_,rfl,by lia,by lia,nw⟩,?_⟩;show N.toNat<t.toNat;lia
 exact key _ fN
def rb:SpB:=.of 2 (α:=Int×Int×Nat) (fun (t,b,k) ds=>ds=[fD t b,.int k]/\0<b/\Int.gcd t b=1/\Lt2 20000 t/\Lt2 20000 b/\1<=k/\k<=15) (fun (t,b,k) d=>∃ fs,d = .lst (Hu fs)/\Rt.RtV t b k fs)
def sB:TSd:=(iZ [] (je (iR (jg (iR (mw (iS 4)) (iR (iS 5) iT))) (iR (jg (iR (iS 4) (iR (iS 5) iT))) iT))))
def sC:TSd:=dSq (dIf [] (i5 (i6 .Eq (iS 4) (dC (.int 0))))
 (iZ [] (je (iR (jg (iR (dC (.int 0)) (iR (dC (.int 1)) iT))) iT)))
 i8)
 sB
def sD:TSd:=dSq (dIf [] (i5 (i6 .Eq (iV .Mod (iS 1) (dC (.int 2))) (dC (.int 1))))
 (iZ [] (je (iR (jg (iR (qL (i5 (i6 .Lt (iS 2) (dC (.int 0)))) (mw (iS 4)) (iS 4)) (iR (iS 5) iT))) iT)))
 i8)
 sC
def pL:TSd:=dSq (dIf [] (mB (i5 (i6 .NotEq (iU iW (iR (iS 4) (iR (iS 1) iT))) (dB bAbs bAbs.mono (iR (iS 2) iT)))) (i5 (i6 .NotEq (iU iW (iR (iS 5) (iR (iS 1) iT))) (iS 3))))
 (iZ [] (je iT))
 i8)
 sD
def pM:TSd:=dSq (mZ [] 4 5 (iU jy (iR (dB bAbs bAbs.mono (iR (iS 2) iT)) (iR (iS 1) iT))) (iU jy (iR (iS 3) (iR (iS 1) iT))))
 pL
def pN:TSd:=dSq (dIf [] (kG (i5 (i6 .Lt (iS 2) (dC (.int 0)))) (i5 (i6 .Eq (iV .Mod (iS 1) (dC (.int 2))) (dC (.int 0)))))
 (iZ [] (je iT))
 i8)
 pM
def tU:TSd:=dSq (iY [] (gTp [2,3]) (iS 0))
 pN
theorem Bc(t:Int):(if t<0 then -t else t)=((t.natAbs:Nat):Int):=by split <;> lia
theorem Ju(h:Rt.Is n k r)(k1:1<=k)(n0:0<=n)(l:Lt2 M n):Lt2 M r:=l.le (by
 have:=h.self k1 n0;have:=h.pos;lia)
theorem Kd(k1:1<=k)(k15:k<=15)(b0:0<b)(ho:Rt.Is ((t.natAbs:Nat):Int) k o)(hu:Rt.Is b k u)(lo:Lt2 20000 o)(lu:Lt2 20000 u)(hne:¬ (t<0/\k%2=0))(hg:PV t b=1)(q:∀ d,(∃ fs,d = .lst (Hu fs)/\Rt.RtV t b k fs)->Q d) :
  pL.run (ux Q) [.val (fD t b),.val (.int (k:Nat)),.val (.int t),.val (.int b),.val (.int o),.val (.int u)]:=by
 have km:Int.fmod ((k:Nat):Int) 2=((k%2:Nat):Int):=by rw[cC _ (by lia)];lia
 have sz:∀{n:Int},Lt2 20000 n->(20000+1)*(k+1)<=400000:=fun _=>by
  have:20001*(k+1)<=20001*16:=ai _ (by lia);lia
 refine⟨rfl,(o,k,20000),⟨rfl,lo,by show k<=200;lia,sz lo⟩,?_⟩;rintro _ rfl;refine Nz (p:=o^k=if t<0 then -t else t) (fun c=>?_) (fun c1=>?_)
 ·rw[Bc] at c;exact⟨aE _,q _ ⟨[],rfl,o,u,ho,hu,by rw[QI (.inr (.inl c))]⟩⟩
 ·rw[Bc] at c1;refine⟨rfl,(u,k,20000),⟨rfl,lu,by show k<=200;lia,sz lu⟩,?_⟩;rintro _ rfl;refine Nz (p:=u^k=b) (fun c=>⟨aE _,q _ ⟨[],rfl,o,u,ho,hu,by rw[QI (.inr (.inr c))]⟩⟩) (fun c2=>?_);have hno:¬ ((t<0/\k%2=0)\/o^k≠((t.natAbs:Nat):Int)\/u^k≠b):=by
   rintro (z|z|z)
   ·exact hne z
   ·exact z c1
   ·exact z c2
  refine⟨by decide,?_⟩;refine yo (p:=Int.fmod ((k:Nat):Int) 2=1) (fun c=>?_) (fun c=>?_)
  ·rw[km] at c;refine yo (p:=t<0) (fun ct=>?_) (fun ct=>?_)
   ·exact⟨vK,zn,q _ ⟨[(-o,u)],rfl,o,u,ho,hu,by rw[QJ hno,QI ct]⟩⟩
   ·exact⟨vK,zn,q _ ⟨[(o,u)],rfl,o,u,ho,hu,by rw[QJ hno,QJ ct,QJ (by lia)]⟩⟩
  ·rw[km] at c;have k2:k%2=0:=by lia
   have t0:¬ t<0:=fun z=>hne ⟨z,k2⟩;refine yo (p:=o=0) (fun co=>?_) (fun co=>?_)
   ·refine⟨vK,zn,q _ ⟨[(0,1)],rfl,o,u,ho,hu,?_⟩⟩;rw[QJ hno,QJ t0,QJ (by lia)];have tz:t=0:=by
     have z:o^k=0:=by rw[co];exact Int.zero_pow (by lia)
     rw[c1] at z;lia
    rw[tz,Int.gcd_zero_left] at hg;have bz:b=1:=by lia
    rw[bz] at hu;rw[co,hu.uniq (Rt.Is.one k1)]
   ·have:=ho.pos;exact⟨vK,vK,vK,q _ ⟨[(-o,u),(o,u)],rfl,o,u,ho,hu,by rw[QJ hno,QJ t0,QI ⟨k2,by lia⟩]⟩⟩
theorem rW:Does 6 tU rb:=by
 rintro ds Q hn ⟨⟨t,b,k⟩,⟨rfl,b0,hg,lt,lb,k1,k15⟩,q⟩;dsimp only at b0 hg lt lb k1 k15 q;have km:Int.fmod ((k:Nat):Int) 2=((k%2:Nat):Int):=by rw[cC _ (by lia)];lia
 obtain⟨o0,ho0⟩:=Rt.has (n:=((t.natAbs:Nat):Int)) k1 (by lia);obtain⟨u0,hu0⟩:=Rt.has (n:=b) k1 (by lia);have go:¬ (t<0/\k%2=0)->pM.run (ux Q) [.val (fD t b),.val (.int (k:Nat)),.val (.int t),.val (.int b),.no,.no]:=fun hne=>by
  have la:Lt2 20000 ((t.natAbs:Nat):Int):=lt;refine⟨rfl,(((t.natAbs:Nat):Int),k),⟨by show [D.int (if t<0 then -t else t),.int (k:Nat)]=_;rw[Bc],by show (0:Int)<=((t.natAbs:Nat):Int);lia,la,k1,k15⟩,?_⟩;rintro _ ⟨o,rfl,ho⟩;refine⟨rfl,(b,k),⟨rfl,by show 0<=b;lia,lb,k1,k15⟩,?_⟩;rintro _ ⟨u,rfl,hu⟩;exact Kd k1 k15 b0 ho hu (Ju ho k1 (by lia) la) (Ju hu k1 (by lia) lb) hne hg q
 refine⟨rfl,?_⟩;show pN.run (ux Q) [.val (fD t b),.val (.int (k:Nat)),.val (.int t),.val (.int b),.no,.no];refine yo (p:=t<0) (fun ct=>?_) (fun ct=>go fun z=>ct z.1);refine⟨by decide,?_⟩;refine yo (p:=Int.fmod ((k:Nat):Int) 2=0) (fun c=>?_) (fun c=>go fun z=>c (by rw[km,z.2];rfl));rw[km] at c;exact⟨aE _,q _ ⟨[],rfl,o0,u0,ho0,hu0,by rw[QI (.inl ⟨ct,by lia⟩)]⟩⟩
end Dp
namespace Dp
open PySem L2 Dt
theorem Bt(h:PV x y=1)(k:Nat):PV (x^k) (y^k)=1:=by
 have e:PV (x^k) (y^k)=Qo (x.natAbs^k) (y.natAbs^k):=by
  show Qo (x^k).natAbs (y^k).natAbs=_;rw[cJ,cJ]
 rw[e];exact Nat.Coprime.pow k k h
theorem CK(k1:1<=k)(h:PV (x^k) (y^k)=1):PV x y=1:=by
 have e:PV (x^k) (y^k)=Qo (x.natAbs^k) (y.natAbs^k):=by
  show Qo (x^k).natAbs (y^k).natAbs=_;rw[cJ,cJ]
 rw[e] at h;have d1:Qo x.natAbs y.natAbs∣Qo (x.natAbs^k) (y.natAbs^k):=by
  refine Nat.dvd_gcd ?_ ?_
  ·exact fJ (Nat.gcd_dvd_left _ _) (by
    obtain⟨j,rfl⟩:∃ j,k=j+1:=⟨k-1,by lia⟩;rw[dg];exact dm _ _)
  ·exact fJ (gr _ _) (by
    obtain⟨j,rfl⟩:∃ j,k=j+1:=⟨k-1,by lia⟩;rw[dg];exact dm _ _)
 rw[h] at d1;exact Nat.dvd_one.mp d1
theorem Dy{x y:Int}(hy:0<y)(k:Nat):((x:Rat) / (y:Rat))^k=((x^k:Int):Rat) / ((y^k:Int):Rat):=by
 have h1:=Qp.xk (x:Rat) (Qp.uh hy) k;have h2:=Qp.ve (Qp.uh hy) k;rw[cH,cH,← h1];generalize (y:Rat)^k=z at *;grind
theorem zj{x:Int}(k:Nat):(((x.natAbs:Nat):Int))^k=(((x^k).natAbs:Nat):Int):=by
 rw[cJ,cR]
theorem BH(k1:1<=k)(h0:0<=o):Rt.Is (o^k) k o:=Rt.Is.of k1 h0 (dH _) (Rt.uz h0 (by lia) k1)
theorem ya(x:Int)(h:k%2=0):0<=x^k:=by
 obtain⟨j,rfl⟩:∃ j,k=j+j:=⟨k / 2,by lia⟩;rw[cT];generalize x^j=y;rcases Int.le_total 0 y with c|c
 ·exact dN c c
 ·have:=dN (a:=-y) (b:=-y) (by lia) (by lia);rw[gL] at this;exact this
theorem yK{t b:Int}{k:Nat}{fs:List (Int×Int)}{x y:Int}(h:Rt.RtV t b k fs)(k1:1<=k)(b0:0<b)(hg:PV t b=1)(y0:0<y)(hxy:PV x y=1)(e:((x:Rat) / (y:Rat))^k=(t:Rat) / (b:Rat)):(x,y)∈fs:=by
 have yk:0<y^k:=bX y0;rw[Dy y0] at e;have e':=(Qp.uD (ao yk) (ao b0)).mp e;obtain⟨y1,y2⟩:=Fr.uniq (t:=x^k) (b:=y^k) (by lia) b0 hg e';obtain⟨y3,y4⟩:=Fr.uniq (t:=x^k) (b:=y^k) (c:=x^k) (d:=y^k) (by lia) yk (Bt hxy k) rfl;have et:x^k=t:=y3.symm.trans y1;have eb:y^k=b:=y4.symm.trans y2;obtain⟨o,u,ho,hu,rfl⟩:=h;have eo:o=((x.natAbs:Nat):Int):=by
  refine ho.uniq ?_;rw[← et,← zj];exact BH k1 (by lia)
 have eu:u=y:=by
  refine hu.uniq ?_;rw[← eb];exact BH k1 (by lia)
 have o0:0<=o:=ho.pos;rw[QJ]
 ·by_cases ct:t<0
  ·rw[QI ct];have kodd:k%2=1:=by
    rcases gQ k with c|c
    ·have:=ya x c;lia
    ·exact c
   have xn:x<0:=by
    rcases (show x<0\/0<=x by lia) with c|c
    ·exact c
    ·have:=Rt.xI c k;lia
   rw[eo,eu,show -((x.natAbs:Nat):Int)=x by lia];exact aq.mpr rfl
  ·rw[QJ ct];by_cases c2:k%2=0/\0<o
   ·rw[QI c2,eu];rcases (show x<0\/0<=x by lia) with c|c
    ·rw[show x = -o by lia];exact aG
    ·rw[show x=o by lia];exact aA _ (aq.mpr rfl)
   ·rw[QJ c2,eu];have xe:x=o:=by
     rcases (show x<0\/0<=x by lia) with c|c
     ·exfalso;have op:0<o:=by lia
      have kodd:k%2=1:=by
       rcases gQ k with c'|c'
       ·exact absurd ⟨c',op⟩ c2
       ·exact c'
      have e1:=Rt.yj (-x) k;rw[Int.neg_neg,QJ (by lia)] at e1;have:=Rt.pow_pos (show 0 < -x by lia) k;lia
     ·lia
    rw[xe];exact aq.mpr rfl
 ·rintro (⟨z1,z2⟩|z|z)
  ·have:=ya x z2;lia
  ·apply z;rw[eo,← et,zj]
  ·apply z;rw[eu,eb]
theorem Bq{t b:Int}{k:Nat}{fs:List (Int×Int)}{f:Int×Int}(h:Rt.RtV t b k fs)(k1:1<=k)(b0:0<b)(hg:PV t b=1)(hf:f∈fs):0<f.2/\PV f.1 f.2=1/\((f.1:Rat) / (f.2:Rat))^k=(t:Rat) / (b:Rat):=by
 obtain⟨e1,e2,_⟩:=h.root f hf;have p:0<f.2:=by
  obtain⟨o,u,ho,hu,rfl⟩:=h;have u0:=hu.pos;have:f.2=u\/False:=by
   split at hf
   ·cases hf
   ·split at hf
    ·rw[aq.mp hf];exact .inl rfl
    ·split at hf
     ·rcases av.mp hf with z|z
      ·rw[z];exact .inl rfl
      ·rw[aq.mp z];exact .inl rfl
     ·rw[aq.mp hf];exact .inl rfl
  rcases this with z|z
  ·rcases iL u0 with c|c
   ·lia
   ·rw[z,← c] at e2;obtain⟨j,rfl⟩:∃ j,k=j+1:=⟨k-1,by lia⟩;rw[aJ,bD] at e2;lia
  ·exact z.elim
 refine⟨p,CK k1 (by rw[e1,e2];exact hg),?_⟩;rw[Dy p,e1,e2]
end Dp
namespace Dp
open PySem L2
def Wt(y:Nat)(R:List Int)(C:Int)(s:Nat):Prop:=∀ j,j<=s->(R.getD (s-j) 0).natAbs<=C.natAbs*2^(y*j)
theorem Wt.pz(h:Wt y R C s)(fm:Po.Fm R C)(l:R.length=s+1)(hb:Lt2 b C):Pc.Pz (b+y*s) b R C:=by
 refine⟨fm,fun i=>?_,hb⟩;rcases ar s i with z|z
 ·rw[uj (by lia)];exact xB _
 ·have w:=h (s-i) (by lia);rw[show s-(s-i)=i by lia] at w;have p:2^(y*(s-i))<=2^(y*s):=bO (by decide) (ai _ (by lia));have hb:C.natAbs<2^b:=hb;show (R.getD i 0).natAbs<2^(b+y*s);rw[eJ];exact cw w (cw (ai _ p) (d9 hb (bg (by decide))))
def kq:SpB:=.of 2 (α:=List Int×Int×Nat×Nat×Nat×Nat) (fun (P,B,k,s,M,Z) ds=>ds=[pD P B,.int s]/\P.length=k*s+1/\1<=k/\1<=s/\k*s<=16/\k<=15/\(∀ i,Lt2 M (P.getD i 0))/\Lt2 Z (P.getD (k*s) 0)/\M+(Z+8)*(k*s)<=99000/\Z<=20001/\P.getD (k*s) 0≠0)
 (fun (P,B,k,s,M,Z) d=>∃ R C,d=pD R C/\Cn P k s R C/\Wt (M+(Z+8)*(k*s)+24) R C s/\C.natAbs<=((P.getD (k*s) 0).natAbs*k*k)^(s-1))
theorem mK:Does 9 q8 kq:=by
 rintro ds Q hn ⟨⟨ts,b,k,m,M,Z⟩,⟨rfl,ln,k1,m1,km,k15,hM,hZ,hz,Z3,hL⟩,q⟩;dsimp only at ln k1 m1 km k15 hM hZ hz Z3 hL q;have km1:k<=k*m:=bY _ m1;have km2:m<=k*m:=aQ _ k1;refine⟨rfl,(ts,b),rfl,?_⟩;rintro _ rfl;have ek:((k*m:Nat):Int).fdiv (m:Int)=(k:Int):=by
  rw[show ((k*m:Nat):Int)=(k:Int)*m by push_cast;rfl];exact dZ _ (by lia)
 have lk:Lt2 4 ((k:Nat):Int):=by unfold Lt2;lia
 have lm:Lt2 7 ((m:Nat):Int):=by unfold Lt2;lia
 have ll:Lt2 Z (((ts.getD (k*m) 0).natAbs:Nat):Int):=hZ.le (by rw[br];exact ak _);suffices h1:jN.run (ux Q) [.val (pD ts b),.val (.int m),.val (.int ((k*m:Nat):Int)),.no,.no,.no,.no,.no,.no] by
  show jN.run (ux Q) [.val (pD ts b),.val (.int m),.val (.int ((ts.length:Int)-1)),.no,.no,.no,.no,.no,.no];rw[ln,show ((k*m+1:Nat):Int)-1=((k*m:Nat):Int) by lia];exact h1
 refine⟨⟨by lia,7,lm,by decide⟩,?_⟩;suffices h2:jM.run (ux Q) [.val (pD ts b),.val (.int m),.val (.int ((k*m:Nat):Int)),.val (.int k),.no,.no,.no,.no,.no] by
  show jM.run (ux Q) [.val (pD ts b),.val (.int m),.val (.int ((k*m:Nat):Int)),.val (.int (((k*m:Nat):Int).fdiv (m:Int))),.no,.no,.no,.no,.no];rw[ek];exact h2
 obtain⟨c,hc⟩:∃ c:Int,c=(((ts.getD (k*m) 0).natAbs:Nat):Int)*k*k:=⟨_,rfl⟩;have lc:Lt2 (Z+8) c:=by rw[hc];exact ((ll.mul lk).mul lk).mono (by lia)
 have m100:(Z+8+1)*(k*m+1)<=(Z+9)*17:=ai _ (by lia);suffices h3:jL.run (ux Q) [.val (pD ts b),.val (.int m),.val (.int ((k*m:Nat):Int)),.val (.int k),.val (.int c),.no,.no,.no,.no] by
  refine vg (uP (by lia)) ⟨(congrArg (CMulB · _) (vJ _)).mpr ⟨_,_,ll,lk,by lia⟩,(congrArg (fun z=>CMulB (z*_) _) (vJ _)).mpr ⟨_,_,ll.mul lk,lk,by lia⟩,?_⟩;show jL.run (ux Q) [.val (pD ts b),.val (.int m),.val (.int ((k*m:Nat):Int)),.val (.int k),.val (.int ((if ts.getD (k*m) 0<0 then -(ts.getD (k*m) 0) else ts.getD (k*m) 0)*k*k)),.no,.no,.no,.no];rw[vJ,← hc];exact h3
 refine⟨rfl,(ts,c,k*m,M,Z+8,Z),⟨rfl,ln,by show k*m<=100;lia,hM,lc,by show M<=1000000;lia,hZ,by show Z<=9000000;lia,by show (Z+8+1)*(k*m+1)<=400000;lia,hL⟩,?_⟩;rintro _ ⟨rs,rfl,lrs,hrs⟩;suffices h4:jK.run (ux Q) [.val (pD ts b),.val (.int m),.val (.int ((k*m:Nat):Int)),.val (.int k),.val (.int c),.val (.lst (rs.reverse.map .int)),.no,.no,.no] by
  show jK.run (ux Q) [.val (pD ts b),.val (.int m),.val (.int ((k*m:Nat):Int)),.val (.int k),.val (.int c),.val (.lst (rs.map D.int).reverse),.no,.no,.no];rw[← gy];exact h4
 have fa:=Ca.JF (P:=fun i=>ts.getD i 0) (n:=k*m) (k:=k) (c:=c) rfl hL hc;have ea:∀ j,j<=k*m->rs.reverse.getD j 0=(ts.getD (k*m-j) 0*c^j).fdiv (ts.getD (k*m) 0):=fun j hj=>by
  rw[FF lrs hj,hrs _ (by lia),show k*m-(k*m-j)=j by lia]
 have lr:rs.reverse.length=k*m+1:=by rw[bA,lrs]
 have a0:rs.reverse.getD 0 0=1:=by rw[ea 0 (aE _)];exact (fa 0 (aE _)).2.1 rfl
 have ad:∀ i,(k*k:Int)∣rs.reverse.getD (i+1) 0:=fun i=>by
  rcases ar (k*m) (i+1) with z|z
  ·rw[uj (by lia)];exact iq _
  ·rw[ea _ z];exact (fa _ z).2.2 (gh _)
 have al:∀ i,Lt2 (M+(Z+8)*(k*m)+1) (rs.reverse.getD i 0):=fun i=>by
  rcases ar (k*m) i with z|z
  ·rw[uj (by lia)];exact xB _
  ·rw[ea _ z];refine II hL (fa _ z).1 (((hM _).mul (Hv.uz lc i)).mono ?_);have:(Z+8)*i<=(Z+8)*(k*m):=ai _ z;lia
 obtain⟨g,g0,gd,ge⟩:=Ca.root k1 (a:=fun i=>rs.reverse.getD i 0) a0 ad (m-1);refine⟨rfl,(rs.reverse,k,m,M+(Z+8)*(k*m)+1,g),⟨rfl,k1,by show k<=100;lia,m1,by show m<=100;lia,by lia,by show M+(Z+8)*(k*m)+1<=100000;lia,al,a0,g0,ge⟩,?_⟩;rintro _ ⟨us,rfl,lu,hus,hul⟩;generalize hA:M+(Z+8)*(k*m)+1=A at *;have c0:0<c:=by
  rw[hc];have x1:0<(ts.getD (k*m) 0).natAbs:=by lia
  exact ay (ay (by lia) (by lia)) (by lia)
 have zc:(Z+8+1)*(m+1)<=(Z+9)*17:=ai _ (by lia);have lq:(vN 1 ((m:Int)+1-1).toNat).length=m:=by rw[uw];lia
 refine⟨⟨by lia,by lia,by lia,by lia⟩,(congrArg (· <= Pv) lq).mpr (vO (by lia)),nI (fun j=>g (m-(j+1))*c^j),nI.nil,fun i d ys hd _ hy=>?_,fun ys _ hy=>?_⟩
 ·obtain⟨hi,rfl⟩:=uG hd;have hi:i<m:=by lia
  have e1:(1:Int)+(i:Int)=((i+1:Nat):Int):=by lia
  rw[e1];have em:(m:Int)-((i+1:Nat):Int)=((m-(i+1):Nat):Int):=by lia
  have zi:(Z+8)*i<=(Z+8+1)*(m+1):=bI (by lia) (by lia);have zg:(A+22)*(m-(i+1))<=(A+22)*100:=ai _ (by lia);refine vF (d:=.int (g (m-(i+1)))) ?_ ⟨rfl,(c,i,Z+8),⟨?_,lc,by show i<=200;lia,?_⟩,?_⟩
  ·rw[em,← hus (m-(i+1)) (by lia)];exact we (uP (by lia))
  ·show [D.int c,.int (((i+1:Nat):Int)-1)]=[D.int c,.int (i:Int)];rw[show ((i+1:Nat):Int)-1=(i:Int) by lia]
  ·exact aD (ai _ (show i+1<=m+1 by lia)) (by lia)
  ·rintro _ rfl;exact⟨⟨_,_,hul (m-(i+1)) (by lia),Hv.uz lc i,by lia⟩,hy.snoc rfl⟩
 have hy:nI _ (vN 1 ((m:Int)+1-1).toNat).length ys:=hy;rw[lq] at hy;obtain⟨ws,rfl,lw,hws⟩:=hy;have z2:(Z+8)*(m-1)<=(Z+8)*16:=ai _ (by lia);have lcm:Lt2 9000000 (c^(m-1)):=(Hv.uz lc (m-1)).mono (by lia);have pc:0<c^(m-1):=bX c0;refine⟨zn,(congrArg (fun n=>1+n<=Pv) (aa _)).mpr (vO (by lia)),rfl,(c,m-1,Z+8),⟨?_,lc,by show m-1<=200;lia,?_⟩,?_⟩
 ·show [D.int c,.int ((m:Int)-1)]=[D.int c,.int ((m-1:Nat):Int)];rw[show (m:Int)-1=((m-1:Nat):Int) by lia]
 ·exact aD (ai _ (show m-1+1<=m+1 by lia)) (by lia)
 rintro _ rfl;refine⟨rfl,(0::ws,c^(m-1)),⟨rfl,pc,lcm,by rw[bo];lia⟩,?_⟩;rintro _ ⟨R,C,rfl,fm,hw,hle⟩;have hw':∀ j,j<m->R.getD (j+1) 0*c^(m-1)=g (m-(j+1))*c^j*C:=fun j hj=>by
  have:=hw (j+1);rw[du,hws j hj] at this;exact this
 have r1:=Ca.Mh (R:=fun i=>R.getD i 0) (g:=g) c0 hw';have r0:R.getD 0 0=0:=by
  have:=hw 0;rw[List.getD_cons_zero,aN] at this;exact (cr.mp this).resolve_right (by lia)
 have rm:R.getD m 0=C:=by
  have:=r1 0 m1;rw[aT,bq,g0,cB] at this;exact this
 have lR:R.length=m+1:=by
  have l1:R.length<=m+1:=by rw[bo,lw] at hle;exact hle
  rcases ar m R.length with x|x
  ·lia
  ·rw[uj x] at rm;have:=fm.pos;lia
 refine q _ ⟨R,C,rfl,⟨fm,lR,c,g,c0,g0,fun j hj=>?_,r1,r0⟩,fun j hj=>?_,?_⟩
 ·have:=(fa j (by lia)).1;rw[ge j (by lia),ea j (by lia)];exact this.symm
 ·rcases ar j m with x|x
  ·have e:=congrArg Int.natAbs (r1 j x);rw[aR,aR,cJ] at e;have e:(R.getD (m-j) 0).natAbs*c.natAbs^j=(g j).natAbs*C.natAbs:=e;have cj:1<=c.natAbs^j:=bg (by lia);have gj:(g j).natAbs<=2^((M+(Z+8)*(k*m)+24)*j):=by
    rcases dF j with y|y
    ·rw[y,g0];exact ak 1
    ·have h:=hul j x;refine aD (gq h) (bO (by decide) ?_);have:(A+22)*j+j=(A+23)*j:=(bh (A+22) j ▸ rfl);rw[show M+(Z+8)*(k*m)+24=A+23 by lia];lia
   calc (R.getD (m-j) 0).natAbs<=(R.getD (m-j) 0).natAbs*c.natAbs^j:=bY _ cj
    _=C.natAbs*(g j).natAbs:=by rw[e,bQ]
    _<=_:=ai _ gj
  ·rw[show m-j=0 by lia,r0];exact aE _
 ·have e:=(Po.size fm pc hw).1;rw[cJ,hc,aR,aR,br,br] at e;exact e
def jT:SpB:=.of 1 (α:=List Int×Nat×Nat×Nat) (fun (ts,n,M,Z) ds=>ds=[.tup (ts.map .int)]/\ts.length=n+1/\n<=20/\(∀ i,Lt2 M (ts.getD i 0))/\M<=1000000/\Lt2 Z (ts.getD n 0)/\(Z+1)*(n+2)<=390000/\ts.getD n 0≠0)
 (fun (ts,n,M,Z) d=>∃ c:Int,d = .int c/\0<c/\Lt2 Z c/\∀ j,j<=n->ts.getD n 0∣ts.getD (n-j) 0*c^j)
theorem kR:Does 5 nr jT:=by
 rintro ds Q hn ⟨⟨ts,n,M,Z⟩,⟨rfl,ln,n20,hM,M3,hZ,Z9,hL⟩,q⟩;dsimp only at ln n20 hM M3 hZ Z9 hL q;have Zl:Z+1<=(Z+1)*(n+2):=bY _ (by lia);obtain⟨m,hm⟩:∃ m:Int,m=(((ts.getD n 0).natAbs:Nat):Int):=⟨_,rfl⟩;have m0:0<m:=by lia
 have lm:Lt2 Z m:=by rw[hm];exact hZ.le (by rw[br];exact ak _)
 have dv:∀ y:Int,m∣y↔ts.getD n 0∣y:=fun y=>by rw[hm];exact Int.natAbs_dvd
 have small:∀ c:Int,0<c->c∣m->Lt2 Z c:=fun c c0 hc=>lm.le (cU (by lia) (bj.mpr hc));suffices h1:ju.run (ux Q) [.val (.tup (ts.map .int)),.val (.int n),.val (.int m),.no,.no] by
  refine vF (BZ (j:=1) (n:=n+1) (v:=.int (ts.getD n 0)) (uP (by lia)) (by rw[aa,ln]) (by decide) (by lia)) ?_;show ju.run (ux Q) [.val (.tup (ts.map .int)),.val (.int (((ts.map D.int).length:Int)-1)),.val (.int (if ts.getD n 0<0 then -(ts.getD n 0) else ts.getD n 0)),.no,.no];rw[aa,ln,show ((n+1:Nat):Int)-1=(n:Int) by lia,vJ,← hm];exact h1
 have en:((n:Int)+1-1).toNat=n:=by lia
 refine⟨⟨by lia,by lia,by lia,by lia⟩,fun i s=>∃(c:Int) (o:SD),s=[.val (.tup (ts.map .int)),.val (.int n),.val (.int m),.val (.int c),o]/\0<c/\c∣m/\∀ j,j<=i->ts.getD n 0∣ts.getD (n-j) 0*c^j,⟨1,.no,rfl,by decide,Int.one_dvd _,fun j hj=>?_⟩,?_,?_⟩
 ·rw[show j=0 by lia,bP];exact dP _ _
 ·rintro i d _ hd ⟨c,o,rfl,c0,cm,hj⟩;obtain⟨hi,rfl⟩:=uG hd;have hi:i<n:=by lia
  have e1:(1:Int)+(i:Int)=((i+1:Nat):Int):=by lia
  rw[e1];have em:(n:Int)-((i+1:Nat):Int)=((n-(i+1):Nat):Int):=by lia
  have lc:=small c c0 cm;have b2:(Z+1)*(i+1+1)<=(Z+1)*(n+2):=ai _ (by lia);have b3:Z*(i+1)<=(Z+1)*(n+2):=bI (by lia) (by lia);refine vF (d:=.int (ts.getD (n-(i+1)) 0)) (by rw[em];exact we (uP (by lia))) ⟨rfl,(c,i+1,Z),⟨rfl,lc,by lia,by lia⟩,?_⟩;rintro _ rfl;refine⟨⟨_,_,hM _,Hv.uz lc (i+1),by lia⟩,rfl,(m,ts.getD (n-(i+1)) 0*c^(i+1)),rfl,?_⟩;rintro _ rfl;dsimp only;have g0:=v5 (a:=m) (b:=ts.getD (n-(i+1)) 0*c^(i+1)) (by lia);have gd:=(wO m (ts.getD (n-(i+1)) 0*c^(i+1))).1;obtain⟨e,q0,ql⟩:=uF g0 m0 gd;have nx:=GK (x:=ts.getD (n-(i+1)) 0*c^(i+1)) m0;have gl:(Fr.cp m (ts.getD (n-(i+1)) 0*c^(i+1))).natAbs<=m.natAbs:=cU (by lia) (bj.mpr gd);have lq:=lm.le ql;have cx:c∣ts.getD (n-(i+1)) 0*c^(i+1):=g9 ⟨c^i,by rw[aJ,bB]⟩;refine⟨⟨by lia,Z,lm.le gl,by lia⟩,⟨_,_,lc,lq,by lia⟩,_,_,rfl,ay c0 q0,Fn m0 cm cx,fun j hj'=>?_⟩;generalize m.fdiv (Fr.cp m (ts.getD (n-(i+1)) 0*c^(i+1)))=y at *;rw[iA,← cb];rcases cy hj' with z|z
  ·subst z;have ey:y^(i+1)=y*y^i:=by rw[aJ,bB]
   rw[ey,← cb];exact fc ((dv _).mp nx)
  ·exact fc (hj j (by lia))
 ·rintro _ ⟨c,o,rfl,c0,cm,hj⟩;rw[uw,en] at hj;exact q _ ⟨c,rfl,c0,small c c0 cm,hj⟩
def kr:SpB:=.of 2 (α:=List Int×List Int×Nat×Nat×Nat×Nat) (fun (L,b,s,N,A,w) ds=>ds=[.lst (L.map .int),.lst (b.map .int)]/\b.length=s+1/\b.getD s 0=1/\1<=s/\s<=100/\L.length<=N+1/\N<=100/\(∀ i,Lt2 (A+w*(N-i)) (L.getD i 0))/\(∀ i,i<=s->Lt2 (w*(s-i)+1) (b.getD i 0))/\A+w*N<=40000000)
 (fun (L,b,s,N,A,w) d=>∃ K R:List Int,d = .tup [.lst (K.map .int),.lst (R.map .int)]/\K.length=L.length-s/\R.length=min L.length s/\(∀ k,L.getD k 0=R.getD k 0+Cv.cv (Cv.fn K) (Cv.fn b) k)/\(∀ i,Lt2 (A+2*(L.length-s)+w*(N-s-i)) (K.getD i 0))/\(∀ i,Lt2 (A+2*(L.length-s)+w*(N-i)) (R.getD i 0)))
theorem oV:Does 7 tv kr:=by
 rintro ds Q hn ⟨⟨L,b,s,N,A,w⟩,⟨rfl,lb,b1,s1,s2,ll,N1,hA,hZ,A8⟩,q⟩;dsimp only at lb b1 s1 s2 ll N1 hA hZ A8 q;suffices h2:kP.run (ux Q) [.val (.lst (L.map .int)),.val (.lst (b.map .int)),.own (L.map .int),.val (.int s),.own [],.no,.no] by
  refine⟨aE _,?_⟩;show kP.run (ux Q) [.val (.lst (L.map .int)),.val (.lst (b.map .int)),.own (L.map .int),.val (.int (((b.map D.int).length:Int)-1)),.own [],.no,.no];rw[aa,lb,show ((s+1:Nat):Int)-1=(s:Int) by lia];exact h2
 refine⟨fun st=>∃(o5 o6:SD) (l M:List Int) (W:Nat->Int),st=[.val (.lst (L.map .int)),.val (.lst (b.map .int)),.own (l.map .int),.val (.int s),.own (M.map .int),o5,o6]/\l.length+M.length=L.length/\(M.length=0\/s<=l.length) /\
   (∀ k,L.getD k 0=l.getD k 0+Cv.cv W (Cv.fn b) k)/\(∀ v,v+s<l.length->W v=0)/\(∀ u,u<M.length->M.getD u 0=W (L.length-s-1-u))/\(∀ v,L.length<=v+s->W v=0)/\(∀ i,Lt2 (A+2*M.length+w*(N-i)) (l.getD i 0))/\(∀ i,Lt2 (A+2*M.length+w*(N-s-i)) (W i)),
  fun st=>match st with|[_,_,.own l,_,_,_,_]=>l.length|_=>0,⟨.no,.no,L,[],fun _=>0,rfl,rfl,.inl rfl,fun k=>?_,fun _ _=>rfl,fun u hu=>absurd hu (bZ _),fun _ _=>rfl,fun i=>(hA i).mono (by simp),fun _=>xB _⟩,?_⟩
 ·rw[Cv.yb fun _=>rfl,cF]
 rintro _ ⟨o5,o6,l,M,W,rfl,lM,hs,hW,w0,hM,wt,hl,hw⟩;refine yo (p:=(s:Int)<(((l.map D.int).length:Nat):Int)) (fun c=>?_) (fun c=>?_)
 ·rw[aa] at c;obtain⟨p,hp⟩:∃ p,l.length=p+1:=⟨l.length-1,by lia⟩;have sp:s<=p:=by lia
  have lt:Lt2 (A+2*M.length+w*(N-p)) (l.getD p 0):=hl p;have wN:w*(N-p)<=w*N:=ai _ (Nat.sub_le _ _);refine⟨.int (l.getD p 0),by rw[aa,hp];exact uP (by lia),?_⟩;refine⟨by rw[aa,P4];lia,?_⟩;generalize hm:l.getD p 0=m at *;refine⟨by lia,by lia,fun i st=>∃(o6:SD) (r:List Int),st=[.val (.lst (L.map .int)),.val (.lst (b.map .int)),.own (r.map .int),.val (.int s),.own ((M++[m]).map .int),.val (.int m),o6]/\r.length=p/\∀ k,k<p->r.getD k 0=l.getD k 0-(if p-s<=k/\k<p-s+i then m*b.getD (k-(p-s)) 0 else 0),⟨o6,l.dropLast,?_,by rw[dR,hp];rfl,fun k hk=>?_⟩,?_,?_⟩
  ·show [SD.val (.lst (L.map .int)),.val (.lst (b.map .int)),.own (l.map D.int).dropLast,.val (.int s),.own (M.map D.int++[.int m]),.val (.int m),o6]=_;rw[z5,List.map_dropLast]
  ·rw[IM (by lia),QJ (by lia)];lia
  ·rintro i d _ hd ⟨o6,r,rfl,lr,hr⟩;obtain⟨hi,rfl⟩:=uG hd;have hi:i<s:=by lia
   have ei:(((r.map D.int).length:Nat):Int)-(s:Int)+(0+(i:Int))=((p-s+i:Nat):Int):=by rw[aa,lr];lia
   have e0:(0:Int)+(i:Int)=(i:Int):=by lia
   refine⟨(congrArg (fun z:Int=>0<=z) ei).mpr (by lia),?_⟩;have et:((((r.map D.int).length:Nat):Int)-(s:Int)+(0+(i:Int))).toNat=p-s+i:=by rw[ei,aS]
   refine A5 (d:=.int (r.getD (p-s+i) 0)) (by rw[et];exact uP (by lia)) ?_;refine vF (d:=.int (b.getD i 0)) (by rw[e0];exact we (uP (by lia))) ?_;have wi:w*(N-p)+w*(s-i)<=w*N:=by
    rw[← Nat.mul_add];exact ai _ (by lia)
   refine⟨⟨_,_,lt,hZ i (by lia),by lia⟩,.val (.int (0+(i:Int))),r.set (p-s+i) (r.getD (p-s+i) 0-m*b.getD i 0),?_,by rw[bx,lr],fun k hk=>?_⟩
   ·show [SD.val (.lst (L.map .int)),.val (.lst (b.map .int)),.own ((r.map D.int).set ((((r.map D.int).length:Nat):Int)-(s:Int)+(0+(i:Int))).toNat (.int (r.getD (p-s+i) 0-m*b.getD i 0))),.val (.int s),.own ((M++[m]).map .int),.val (.int m),.val (.int (0+(i:Int)))]=_;rw[et,map_set]
   ·rw[Fu (by lia)];by_cases c:k=p-s+i
    ·rw[QI c,hr _ (by lia),QJ (by lia),QI (by lia),c,show p-s+i-(p-s)=i by lia];lia
    ·rw[QJ c,hr k hk];by_cases c2:p-s<=k/\k<p-s+i
     ·rw[QI c2,QI (by lia)]
     ·rw[QJ c2,QJ (by lia)]
  ·rintro _ ⟨o6,r,rfl,lr,hr⟩;rw[uw,aS] at hr;have wv:W (p-s)=0:=w0 _ (by lia);have key:∀ k,l.getD k 0=r.getD k 0+(if p-s<=k then m*Cv.fn b (k-(p-s)) else 0):=fun k=>by
    unfold Cv.fn;rcases iN k p with z|z|z
    ·rw[hr k z];by_cases c2:p-s<=k
     ·rw[QI (by lia),QI c2];lia
     ·rw[QJ (by lia),QJ c2];lia
    ·subst z;rw[uj (fs:=r) (by lia),QI (by lia),show k-(k-s)=s by lia,b1,hm];lia
    ·rw[uj (fs:=l) (by lia),uj (fs:=r) (by lia),uj (fs:=b) (by lia)];split <;> lia
   have mz:2*(M++[m]).length=2*M.length+2:=by rw[aB];exact bF _ _
   refine⟨⟨_,_,r,M++[m],JU W (p-s) m,rfl,by rw[aB,lr];simp;lia,.inr (by lia),fun k=>?_,fun v hv=>?_,fun u hu=>?_,fun v hv=>?_,fun i=>?_,fun i=>?_⟩,?_⟩
   ·rw[hW k,key k,Lg];lia
   ·rw[Ao (by lia)];exact w0 v (by lia)
   ·rw[At];by_cases e:u=M.length
    ·rw[QI e,show L.length-s-1-u=p-s by lia,E9 wv]
    ·rw[QJ e];rw[aB] at hu;have hu:u<M.length+1:=hu;rw[hM u (by lia),Ao (by lia)]
   ·rw[Ao (by lia)];exact wt v hv
   ·rw[mz];rcases ar i p with z|z
    ·rw[hr i z];split
     ·rename_i ci;have wi:w*(N-p)+w*(s-(i-(p-s)))=w*(N-i):=by
       rw[← Nat.mul_add];congr 1;lia
      rw[show A+(2*M.length+2)+w*(N-i)=(A+2*M.length+w*(N-i)+1)+1 by lia];exact ((hl i).mono (by lia)).sub ((lt.mul (hZ (i-(p-s)) (by lia))).mono (by lia))
     ·rw[Int.sub_zero];exact (hl i).mono (by lia)
    ·rw[uj (by lia)];exact xB _
   ·rw[mz];by_cases e:i=p-s
    ·rw[e,E9 wv];rw[show N-s-(p-s)=N-p by lia];exact lt.mono (by lia)
    ·rw[Ao e];exact (hw i).mono (by lia)
   ·show (r.map D.int).length<(l.map D.int).length;rw[aa,aa];lia
 ·rw[aa] at c;have fK:∀ v,M.reverse.getD v 0=W v:=fun v=>by
   rcases ar v M.length with z|z
   ·rw[ae,bK z,← ae,hM _ (by lia)];congr 1;lia
   ·rw[uj (by rw[bA];exact z)];exact (wt v (by lia)).symm
  refine⟨vK,q _ ⟨M.reverse,l,?_,by rw[bA];lia,by lia,fun k=>?_,fun i=>?_,fun i=>?_⟩⟩
  ·show D.tup [.lst (M.map D.int).reverse,.lst (l.map D.int)]=_;rw[← gy]
  ·rw[hW k];congr 1;exact Cv.uE (fun j=>(fK j).symm) fun _=>rfl
  ·rw[fK];exact (hw i).mono (by lia)
  ·exact (hl i).mono (by lia)
def eB(b0 b:Nat):Nat:=b0+b*16+20
def yB(a w b:Nat):Nat:=a+700+(w+b)*16
def Hr(P:List Int)(B:Int)(G:List Int)(U:Int)(s n z e y:Nat)(Ps:List (List Int×Int)):Prop:=∃(N:Nat->Nat->Int) (E:Nat->Int) (Dv:Int),(0<Dv/\Lt2 z Dv/\B∣Dv)/\Ps≠[]/\Ps.length<=20/\(∀ t k,17<=k->N t k=0)/\(∀ t,0<E t/\Lt2 e (E t))/\(∀ t k,Lt2 y (N t k))/\(∀ k,N Ps.length k=0)/\(∀ k,N 0 k*B=P.getD k 0*E 0) /\
 (∀ t p,Ps[t]? = some p->(1<=t->p.2∣Dv)/\Pc.Pz y e p.1 p.2/\p.1.length<=s/\(t+1=Ps.length->p.1≠[])/\∀(R:Nat->Int) (C:Int),0<C->(∀ k,R k*E (t+1)=N (t+1) k*C)->∀ k,(Cv.cv R (Cv.fn G) k*p.2+p.1.getD k 0*(C*U))*E t=N t k*(C*U*p.2))
def mX:SpB:=.of 2 (α:=List Int×Int×List Int×Int×Nat×Nat×Nat×Nat×Nat×Nat) (fun (P,B,G,U,n,s,a,b0,b,y) ds=>ds=[pD P B,pD G U]/\Pc.Pz a b0 P B/\P.length=n+1/\1<=n/\n<=16/\Po.Fm G U/\Lt2 b U/\Wt y G U s/\G.length=s+1/\1<=s/\s<=16/\G.getD s 0=U/\a+b0+(y+b)*19<=4000000/\(b+1)*18<=390000/\b+y*16<=1000000)
 (fun (P,B,G,U,n,s,a,b0,b,y) d=>∃ Ps:List (List Int×Int),d = .tup (Ps.map fun p=>pD p.1 p.2)/\Hr P B G U s n (b0+b*(n-s)+1) (eB b0 b) (yB a (y+b) b) Ps)
def qr:TSd:=(iZ [11] (dB bTuple bTuple.mono (iR (iS 11) iT)))
def qt:TSd:=dSq (jq [] (mY (iV .Add (iV .FloorDiv (iS 2) (iS 3)) (dC (.int 1)))) (gNm 7)
 (dSq (iY [] (gTp [6,12]) (iU kr (iR (iS 6) (iR (iS 5) iT))))
 (dSq (iY [] (gNm 13) (i7 (jv (iS 12)) [8,14] (gTp [14,8]) jt (iV .Mult (iV .Mult (iS 8) (iU iW (iR (iS 4) (iR (iS 14) iT)))) (iU iW (iR (iS 9) (iR (iS 7) iT))))))
 (oz [] 11 (iU ji (iR (iS 13) (iR (iV .Mult (iV .Mult (dIx (iS 0) (dC (.int 1))) (iU iW (iR (iS 10) (iR (iS 7) iT)))) (iU iW (iR (iS 4) (iR (iV .Sub (iS 2) (iV .Mult (iS 3) (iS 7))) iT)))) iT)))))))
 qr
def qu:TSd:=dSq (kY [] 11 (je iT))
 qt
def qv:TSd:=dSq (iY [] (gTp [9,10]) (iU jw (iR (jg (iR (dC (.int 1)) (iR (dC (.int 1)) iT))) (iR (iU lV (iR (iS 1) iT)) iT))))
 qu
def qw:TSd:=dSq (iY [] (gNm 6) (i7 (jv (dIx (iS 0) (dC (.int 0)))) [7,8] (gTp [7,8]) jt (iV .Mult (iS 8) (iU iW (iR (iS 4) (iR (iV .Sub (iS 2) (iS 7)) iT))))))
 qv
def qx:TSd:=dSq (iY [] (gNm 5) (iU kc (iR (dIx (iS 1) (dC (.int 0))) (iR (iS 4) iT))))
 qw
def mn:TSd:=dSq (iY [] (gNm 4) (iU jT (iR (dIx (iS 1) (dC (.int 0))) iT)))
 qx
def jZ:TSd:=dSq (dIf [] (i5 (i6 .Lt (iS 2) (iS 3)))
 (iZ [] (jg (iR (iS 0) iT)))
 i8)
 mn
def rX:TSd:=dSq (iY [] (gTp [2,3]) (jg (iR (iU jf (iR (iS 0) iT)) (iR (iU jf (iR (iS 1) iT)) iT))))
 jZ
theorem GL(z1:Pc.Pz a b0 P B)(ln:P.length=n+1)(n2:n<=16)(lt:n<s)(h1:b0<=z)(h2:b0+1<=e)(h3:a<=y):Hr P B G U s n z e y [(P,B)]:=by
 have B0:=z1.fm.pos;refine⟨fun t k=>if t=0 then P.getD k 0 else 0,fun t=>if t=0 then B else 1,B,⟨B0,z1.bot.mono (by lia),gw _⟩,by simp,by show 1<=20;decide,fun t k hk=>?_,fun t=>?_,fun t k=>?_,fun k=>rfl,fun k=>rfl,fun t p hp=>?_⟩
 ·dsimp only;split
  ·exact uj (by lia)
  ·rfl
 ·dsimp only;split
  ·exact⟨B0,z1.bot.mono (by lia)⟩
  ·exact⟨by decide,Lt2.mono (n:=1) (by decide) (by lia)⟩
 ·dsimp only;split
  ·exact (z1.tops k).mono (by lia)
  ·exact xB _
 ·match t,hp with
  | 0,hp =>
   cases hp;refine⟨fun h=>absurd h (by decide),z1.mono (by lia) (by lia),by show P.length<=s;lia,fun _ h=>?_,fun R C C0 hR k=>?_⟩
   ·have h:P=[]:=h;rw[h] at ln;cases ln
   ·have r0:∀ k,R k=0:=fun k=>by
     have:R k*(if (0:Nat)+1=0 then B else 1)=(if (0:Nat)+1=0 then P.getD k 0 else 0)*C:=hR k;rw[QJ (by decide),QJ (by decide)] at this;lia
    rw[Cv.yb r0];dsimp only;rw[QI rfl,QI rfl];grind
def LN(P:List Int)(B:Int)(G:List Int)(U c ov un:Int)(b:List Int)(n s A w y:Nat)(i:Nat)(st:SS):Prop :=
 ∃(o7 o8 o12 o13 o14:SD) (l:List Int) (Ps:List (List Int×Int)) (L Dt:Nat->Nat->Int),st=[.val (pD P B),.val (pD G U),.val (.int n),.val (.int s),.val (.int c),.val (.lst (b.map .int)),.val (.lst (l.map .int)),o7,o8,.val (.int ov),.val (.int un),.own (Ps.map fun p=>pD p.1 p.2),o12,o13,o14] /\
  Ps.length=i/\l.length=n+1-s*i/\(∀ k,l.getD k 0=L i k)/\(0<l.length->l.getD (l.length-1) 0≠0)/\(∀ k,L 0 k=P.getD k 0*c^(n-k))/\(∀ t,t<=i->∀ k,Lt2 (A+34*t+w*(n-s*t-k)) (L t k)/\(n<k->L t k=0))/\(∀ t k,t<i->L t k=Dt t k+Cv.cv (L (t+1)) (Cv.fn b) k) /\
  (∀ t p,Ps[t]? = some p->Po.Fm p.1 p.2/\p.1.length<=s/\(∀ k,Lt2 y (Dt t k*(c^k*ov^t)))/\(t=n / s->p.1≠[])/\∀ k,p.1.getD k 0*(B*un^t*c^(n-s*t))=Dt t k*(c^k*ov^t)*p.2)
theorem GM(hu1:un=1)(hA:A<=a+2)(hy:y=yB a w bb)(z1:Pc.Pz a b0 P B)(ln:P.length=n+1)(n2:n<=16)(s1:1<=s)(sn:s<=n)(c0:0<c)(lc:Lt2 bb c)(u0:0<un)(lu:Lt2 1 un)(lo:Lt2 1 ov)(hb:∀ j,j<=s->Cv.fn b j*G.getD s 0=Cv.fn G j*c^(s-j))(lb:b.length=s+1)(lG:G.length=s+1)(hl:G.getD s 0*ov=un*U)
  (h:LN P B G U c ov un b n s A w y (n / s+1) st):∃ o7 o8 o12 o13 o14 x,∃ Ps:List (List Int×Int),st=[.val (pD P B),.val (pD G U),.val (.int n),.val (.int s),.val (.int c),.val (.lst (b.map .int)),x,o7,o8,.val (.int ov),.val (.int un),.own (Ps.map fun p=>pD p.1 p.2),o12,o13,o14]/\Hr P B G U s n (b0+bb*(n-s)+1) (eB b0 bb) y Ps:=by
 obtain⟨o7,o8,o12,o13,o14,l,Ps,L,Dt,rfl,lP,ll,hL,_,h0,hs,hr,hd⟩:=h;have B0:=z1.fm.pos;have ns:s*(n / s)<=n:=gP n s;have ns2:n<s*(n / s+1):=iF n (by lia);have T12:n / s<=16:=aD (dE _ _) n2;have le:l=[]:=by
  apply dc;rw[ll];lia
 have LT:∀ k,L (n / s+1) k=0:=fun k=>by rw[← hL k,le];rfl
 refine⟨o7,o8,o12,o13,o14,_,Ps,rfl,fun t k=>if t<=n / s then L t k*(c^k*ov^t) else 0,fun t=>if t<=n / s then B*un^t*c^(n-s*t) else 1,B*c^(n-s),⟨ay B0 (bX c0),(z1.bot.mul (Hv.uz lc (n-s))).mono (by lia),dP _ _⟩,?_,by lia,fun t k hk=>?_,fun t=>?_,fun t k=>?_,fun k=>?_,fun k=>?_,fun t p hp=>?_⟩
 ·intro z;rw[z] at lP;cases lP
 ·dsimp only;split
  ·rw[(hs t (by lia) k).2 (by lia),aN]
  ·rfl
 ·dsimp only;split
  ·rename_i tl;refine⟨ay (ay B0 (bX u0)) (bX c0),?_⟩;exact ((z1.bot.mul (vz lu (show t<=16 by lia))).mul (vz lc (show n-s*t<=16 by lia))).mono (by unfold eB;lia)
  ·exact⟨by decide,Lt2.mono (n:=1) (by decide) (by unfold eB;lia)⟩
 ·dsimp only;split
  ·rename_i tl;obtain⟨x1,x2⟩:=hs t (by lia) k;rcases ar n k with z|z
   ·rw[x2 z,aN];exact xB _
   ·have wk:w*(n-s*t-k)<=w*16:=ai _ (by lia);exact (x1.mul ((vz lc (show k<=16 by lia)).mul (vz lo (show t<=16 by lia)))).mono (by rw[hy];unfold yB;lia)
  ·exact xB _
 ·rw[lP];exact QJ (by lia)
 ·show (if 0<=n / s then L 0 k*(c^k*ov^0) else 0)*B=P.getD k 0*(if 0<=n / s then B*un^0*c^(n-s*0) else 1);rw[QI (aE _),QI (aE _),h0 k,aT,aT,gn,bP];rcases ar n k with z|z
  ·rw[uj (fs:=P) (by lia)];simp
  ·have e:c^n=c^(n-k)*c^k:=by
    rw[← cT];congr 1;lia
   rw[e];grind
 ·have tl:t<=n / s:=by
   have:=(aj.mp hp).1;lia
  obtain⟨d1,d2,d3,d4,d5⟩:=hd t p hp;have E0:0<B*un^t*c^(n-s*t):=ay (ay B0 (bX u0)) (bX c0);have El:Lt2 (eB b0 bb) (B*un^t*c^(n-s*t)):=((z1.bot.mul (vz lu (show t<=16 by lia))).mul (vz lc (show n-s*t<=16 by lia))).mono (by unfold eB;lia);have dv:1<=t->p.2∣B*c^(n-s):=fun t1=>by
   have h1:p.2∣B*un^t*c^(n-s*t):=CT d1 d5;rw[hu1,df,bq] at h1;have:s*1<=s*t:=ai s t1;exact eY h1 (gM (gw _) (Kv _ (by lia)))
  refine⟨dv,Pc.Pz.of d1 E0 d5 d3 El,d2,fun e=>d4 (by lia),fun R C C0 hR k=>?_⟩;have hR:∀ k,R k*(if t+1<=n / s then B*un^(t+1)*c^(n-s*(t+1)) else 1)=(if t+1<=n / s then L (t+1) k*(c^k*ov^(t+1)) else 0)*C:=hR;show (Cv.cv R (Cv.fn G) k*p.2+p.1.getD k 0*(C*U))*(if t<=n / s then B*un^t*c^(n-s*t) else 1)=(if t<=n / s then L t k*(c^k*ov^t) else 0)*(C*U*p.2);rw[QI tl,QI tl,hr t k (by lia)];refine Dg.LX ?_ (d5 k);rcases ar t (n / s) with z|z
  ·have st:s*(t+1)<=n:=aD (ai s z) ns;refine Dg.Aq (Gs:=G.getD s 0) hb (fun j hj=>Cv.uk (by lia)) (fun j hj=>Cv.uk (by lia)) hl u0 st (fun k=>?_) k;have:=hR k;rw[QI (by lia),QI (by lia)] at this;rw[this,← cb]
  ·have r0:∀ k,R k=0:=fun k=>by
    have:=hR k;rw[QJ (by lia),QJ (by lia)] at this;lia
   have e:t+1=n / s+1:=by lia
   rw[Cv.yb r0,e,Cv.yb LT];simp
theorem GN{P:List Int}{B:Int}{G:List Int}{U c ov un:Int}{b:List Int}{n s i a bb A w y:Nat}{l K R ts p1:List Int}{p2:Int}{Ps:List (List Int×Int)}{L Dt:Nat->Nat->Int}(o7 o8 o12 o13 o14:SD)(n2:n<=16)(s1:1<=s)(s8:s<=16)(hi:i<=n / s)(hA:A<=a+2)(hy:y=yB a w bb)(c0:0<c)(lc:Lt2 bb c)(o0:ov≠0)(lo:Lt2 1 ov)(E0:0<B*un^i*c^(n-s*i))(lb:b.length=s+1)(b1:b.getD s 0=1)
  (lP:Ps.length=i) (ll:l.length=n+1-s*i) (hL:∀ k,l.getD k 0=L i k) (ht:0<l.length->l.getD (l.length-1) 0≠0) (h0:∀ k,L 0 k=P.getD k 0*c^(n-k)) (hs:∀ t,t<=i->∀ k,Lt2 (A+34*t+w*(n-s*t-k)) (L t k)/\(n<k->L t k=0)) (hr:∀ t k,t<i->L t k=Dt t k+Cv.cv (L (t+1)) (Cv.fn b) k)
  (hd:∀ t p,Ps[t]? = some p->Po.Fm p.1 p.2/\p.1.length<=s/\(∀ k,Lt2 y (Dt t k*(c^k*ov^t)))/\(t=n / s->p.1≠[])/\∀ k,p.1.getD k 0*(B*un^t*c^(n-s*t))=Dt t k*(c^k*ov^t)*p.2)
  (lK:K.length=l.length-s) (lR:R.length=min l.length s) (hK:∀ k,l.getD k 0=R.getD k 0+Cv.cv (Cv.fn K) (Cv.fn b) k) (sK:∀ j,Lt2 (A+34*i+2*(l.length-s)+w*(n-s*i-s-j)) (K.getD j 0)) (sR:∀ j,Lt2 (A+34*i+2*(l.length-s)+w*(n-s*i-j)) (R.getD j 0))
  (lt:ts.length=R.length) (et:∀ k,k<R.length->ts.getD k 0=R.getD k 0*c^k*ov^i) (fm:Po.Fm p1 p2) (hw:∀ k,p1.getD k 0*(B*un^i*c^(n-s*i))=ts.getD k 0*p2) (hle:p1.length<=ts.length) :
  LN P B G U c ov un b n s A w y (i+1) [.val (pD P B),.val (pD G U),.val (.int n),.val (.int s),.val (.int c),.val (.lst (b.map .int)),.val (.lst (K.map .int)),o7,o8,.val (.int ov),.val (.int un),.own ((Ps.map fun p=>pD p.1 p.2)++[pD p1 p2]),o12,o13,o14]:=by
 have ns:s*(n / s)<=n:=gP n s;have si:s*i<=n:=aD (ai s hi) ns;have st:s*(i+1)=s*i+s:=bF s i;have i12:i<=16:=aD hi (aD (dE _ _) n2);have tsk:∀ k,ts.getD k 0=R.getD k 0*(c^k*ov^i):=fun k=>by
  rcases ar k R.length with z|z
  ·rw[et k z,cb]
  ·rw[uj (by lia),uj z,aN]
 refine⟨o7,o8,o12,o13,o14,K,Ps++[(p1,p2)],fun t k=>if t<=i then L t k else K.getD k 0,fun t k=>if t<i then Dt t k else R.getD k 0,by rw[bw];rfl,by rw[aB,lP];rfl,by rw[lK,ll,st];lia,fun k=>(QJ (by lia)).symm,fun hk=>?_,fun k=>?_,fun t tl k=>?_,fun t k tl=>?_,fun t p hp=>?_⟩
 ·have ls:s<l.length:=by lia
  have e:=hK (l.length-1);rw[uj (fs:=R) (by lia),cO] at e;have e2:=Pc.CY (f:=Cv.fn K) (g:=Cv.fn b) (a:=K.length-1) (b:=s) (fun j hj=>Cv.uk (by lia)) (fun j hj=>Cv.uk (by lia));rw[show K.length-1+s=l.length-1 by lia] at e2;rw[e2] at e;have b1':Cv.fn b s=1:=b1;rw[b1',bq] at e;have:=ht (by lia);rw[e] at this;exact this
 ·show (if 0<=i then L 0 k else K.getD k 0)=_;rw[QI (aE _)];exact h0 k
 ·dsimp only;split
  ·exact hs t (by assumption) k
  ·rw[show t=i+1 by lia];refine⟨(sK k).mono ?_,fun h=>uj (by lia)⟩;rw[show n-s*(i+1)-k=n-s*i-s-k by lia];lia
 ·dsimp only;rcases ar t i with z|z
  ·rw[QI (by lia),QI z,hr t k z];congr 1;exact Cv.uE (fun j=>(QI (by lia)).symm) fun _=>rfl
  ·have e:t=i:=by lia
   subst e;rw[QI (ak _),QJ (by lia),← hL k,hK k];congr 1;exact Cv.uE (fun j=>(QJ (by lia)).symm) fun _=>rfl
 ·rcases ar t Ps.length with z|z
  ·rw[bE z] at hp;have e:(fun k=>if t<i then Dt t k else R.getD k 0)=Dt t:=funext fun k=>QI (by lia);obtain⟨d1,d2,d3,d4,d5⟩:=hd t p hp;refine⟨d1,d2,fun k=>?_,d4,fun k=>?_⟩
   ·dsimp only;rw[QI (by lia)];exact d3 k
   ·dsimp only;rw[QI (by lia)];exact d5 k
  ·have e:t=i:=by
    have:=(aj.mp hp).1;rw[aB] at this;simp at this;lia
   subst e;rw[bv z,lP,cI] at hp;cases hp;refine⟨fm,by show p1.length<=s;lia,fun k=>?_,fun hn hp=>?_,fun k=>?_⟩
   ·dsimp only;rw[QJ (by lia)];rcases ar k R.length with y|y
    ·have wk:w*(n-s*t-k)<=w*16:=ai _ (by lia);exact ((sR k).mul ((vz lc (show k<=16 by lia)).mul (vz lo (show t<=16 by lia)))).mono (by rw[hy];unfold yB;lia)
    ·rw[uj y,aN];exact xB _
   ·have hp:p1=[]:=hp;subst hp;have l1:0<l.length:=by lia
    have ls:l.length<=s:=by
     have:=iF n (show 0<s by lia);rw[← hn] at this;lia
    have e:=hK (l.length-1);have kn:K=[]:=dc (by lia);have k0:∀ j,Cv.fn K j=0:=fun j=>by rw[kn];rfl
    rw[Cv.yb k0,cF] at e;have w:=hw (l.length-1);rw[tsk,← e] at w;have w:(0:Int)*(B*un^t*c^(n-s*t))=_:=w;rw[aN] at w;exact b8 (b8 (ht l1) (b8 (cN (ao c0)) (cN o0))) (ao fm.pos) w.symm
   ·dsimp only;rw[QJ (by lia),← tsk];exact hw k
theorem EW{bs:List Int}{E:EndsD}(hA:A<=a+2)(hyB:y=yB a w bb)(cap:a+b0+(w+bb)*19<=5000000)(cap2:(bb+1)*18<=390000)(n2:n<=16)(s1:1<=s)(s8:s<=16)(hi:i<=n / s)(B0:0<B)(lB:Lt2 b0 B)(c0:0<c)(lc:Lt2 bb c)(o0:ov≠0)(lo:Lt2 1 ov)(u0:0<un)(lu:Lt2 1 un)(lb:bs.length=s+1)(b1:bs.getD s 0=1)(hZ:∀ j,j<=s->Lt2 (w*(s-j)+1) (bs.getD j 0))
  (hE:∀ st,LN P B G U c ov un bs n s A w y (i+1) st->E.nx st) (h:LN P B G U c ov un bs n s A w y i st):((dSq (iY [] (gTp [6,12]) (iU kr (iR (iS 6) (iR (iS 5) iT))))
 (dSq (iY [] (gNm 13) (i7 (jv (iS 12)) [8,14] (gTp [14,8]) jt (iV .Mult (iV .Mult (iS 8) (iU iW (iR (iS 4) (iR (iS 14) iT)))) (iU iW (iR (iS 9) (iR (iS 7) iT))))))
 (oz [] 11 (iU ji (iR (iS 13) (iR (iV .Mult (iV .Mult (dIx (iS 0) (dC (.int 1))) (iU iW (iR (iS 10) (iR (iS 7) iT)))) (iU iW (iR (iS 4) (iR (iV .Sub (iS 2) (iV .Mult (iS 3) (iS 7))) iT)))) iT)))))):TSd).run E (st.set 7 (.val (.int (0+(i:Int))))):=by
 obtain⟨o7,o8,o12,o13,o14,l,Ps,L,Dt,rfl,lP,ll,hL,ht,h0,hs,hr,hd⟩:=h;have ns:s*(n / s)<=n:=gP n s;have si:s*i<=n:=aD (ai s hi) ns;have i12:i<=16:=aD hi (aD (dE _ _) n2);have e0:(0:Int)+(i:Int)=(i:Int):=by omega
 rw[e0];have wN:w*(n-s*i)<=w*16:=ai _ (by omega);refine⟨rfl,(l,bs,s,n-s*i,A+34*i,w),⟨rfl,lb,b1,s1,by show s<=100;omega,by show l.length<=n-s*i+1;omega,by show n-s*i<=100;omega,fun k=>by rw[hL k];exact (hs i (ak _) k).1,hZ,by show A+34*i+w*(n-s*i)<=40000000;omega⟩,?_⟩;rintro _ ⟨K,R,rfl,lK,lR,hK,sK,sR⟩;have lR8:R.length<=16:=by have lR:R.length=min l.length s:=lR;omega
 refine⟨rfl,(congrArg (· <= Pv) (vZ R)).mpr (vO (by omega)),nI (fun k=>R.getD k 0*c^k*ov^i),nI.nil,fun k d ys hd' _ hy=>?_,fun ys _ hy=>?_⟩
 ·obtain⟨hk,rfl⟩:=uW hd';have lr:=sR k;have wk:w*(n-s*i-k)<=w*16:=ai _ (by omega);have bk:(bb+1)*(k+1)<=(bb+1)*18:=ai _ (by omega);have lk:=vz lc (show k<=16 by omega);have li:=vz lo (show i<=16 by omega);refine⟨rfl,rfl,(c,k,bb),⟨rfl,lc,by show k<=200;omega,by show (bb+1)*(k+1)<=400000;omega⟩,?_⟩;rintro _ rfl;refine⟨⟨_,_,lr,lk,by omega⟩,rfl,(ov,i,1),⟨rfl,lo,by show i<=200;omega,by show (1+1)*(i+1)<=400000;omega⟩,?_⟩;rintro _ rfl;exact⟨⟨_,_,lr.mul lk,li,by omega⟩,hy.snoc rfl⟩
 have hy:nI _ (vc (R.map D.int)).length ys:=hy;rw[vZ] at hy;obtain⟨ts,rfl,lt,et⟩:=hy;have ui:=vz lu (show i<=16 by omega);have ci:=vz lc (show n-s*i<=16 by omega);have E0:0<B*un^i*c^(n-s*i):=ay (ay B0 (bX u0)) (bX c0);refine⟨rfl,(un,i,1),⟨rfl,lu,by show i<=200;omega,by show (1+1)*(i+1)<=400000;omega⟩,?_⟩;rintro _ rfl;have ls:Lt2 7 ((s:Nat):Int):=by unfold Lt2;omega
 have li:Lt2 7 ((i:Nat):Int):=by unfold Lt2;omega
 have es:(n:Int)-(s:Int)*(i:Int)=((n-s*i:Nat):Int):=by
  have:(s:Int)*(i:Int)=((s*i:Nat):Int):=by push_cast;rfl
  omega
 refine⟨⟨_,_,lB,ui,by omega⟩,⟨_,_,ls,li,by decide⟩,rfl,(c,n-s*i,bb),⟨congrArg (fun z=>[D.int c,.int z]) es,lc,by show n-s*i<=200;omega,by show (bb+1)*(n-s*i+1)<=400000;exact aD (ai _ (by omega)) (aD cap2 (by decide))⟩,?_⟩;rintro _ rfl;refine⟨⟨_,_,lB.mul ui,ci,by omega⟩,rfl,(ts,B*un^i*c^(n-s*i)),⟨rfl,E0,((lB.mul ui).mul ci).mono (by omega),by show ts.length<=1000;omega⟩,?_⟩;rintro _ ⟨p1,p2,rfl,fm,hw,hle⟩;refine⟨by rw[aa,lP,P4];omega,hE _ ?_⟩;exact GN _ _ _ _ _ n2 s1 s8 hi hA hyB c0 lc o0 lo E0 lb b1 lP ll hL ht h0 hs hr hd lK lR hK sK sR lt et fm hw hle
theorem IN(z1:Pc.Pz a b0 P B)(ln:P.length=n+1)(n1:1<=n)(n2:n<=16)(fG:Po.Fm G U)(lU:Lt2 b U)(wG:Wt y G U s)(cap:a+b0+(y+b)*19<=4000000)(cap2:(b+1)*18<=390000)(cap3:b+y*16<=1000000)(mon:G.getD s 0=U)(lG:G.length=s+1)(s1:1<=s)(s8:s<=16)(sn:s<=n)(q:∀ d,(∃ Ps:List (List Int×Int),d = .tup (Ps.map fun p=>pD p.1 p.2)/\Hr P B G U s n (b0+b*(n-s)+1) (eB b0 b) (yB a (y+b) b) Ps)->Q d) :
  mn.run (ux Q) [.val (pD P B),.val (pD G U),.val (.int n),.val (.int s),.no,.no,.no,.no,.no,.no,.no,.no,.no,.no,.no]:=by
 have tG:G.getD s 0≠0:=uB fG lG;have U0:=fG.pos;have z2:=wG.pz fG lG lU;have ys:y*s<=y*16:=ai _ s8;have bs1:(b+1)*(s+2)<=(b+1)*18:=ai _ (by lia);have B0:=z1.fm.pos;refine⟨rfl,(G,s,b+y*s,b),⟨rfl,lG,by show s<=20;lia,z2.tops,by show b+y*s<=1000000;lia,by rw[mon];exact lU,by show (b+1)*(s+2)<=390000;lia,tG⟩,?_⟩;rintro _ ⟨c,rfl,c0,lc,hdv⟩;have lc:Lt2 b c:=lc;refine⟨rfl,(G,c,s,b+y*s,b,b),⟨rfl,lG,by show s<=100;lia,z2.tops,lc,by show b+y*s<=1000000;lia,by rw[mon];exact lU,by show b<=9000000;lia,by show (b+1)*(s+1)<=400000;exact aD (ai _ (by lia)) (aD cap2 (by decide)),tG⟩,?_⟩;rintro _ ⟨bs,rfl,lb,hb⟩;have lb:bs.length=s+1:=lb;have hx:∀ i,i<=s->G.getD s 0*bs.getD i 0=G.getD i 0*c^(s-i):=fun i hi=>by
  have hb:bs.getD i 0=(G.getD i 0*c^(s-i)).fdiv (G.getD s 0):=hb i hi;have hdv:G.getD s 0∣G.getD (s-(s-i)) 0*c^(s-i):=hdv (s-i) (by lia);rw[show s-(s-i)=i by lia] at hdv;obtain⟨y,hy⟩:=hdv;rw[hb,hy,cV _ tG]
 have b1:bs.getD s 0=1:=by
  have:=hx s (ak _);rw[cI,aT] at this;exact gX tG this
 have hZ:∀ j,j<=s->Lt2 ((y+b)*(s-j)+1) (bs.getD j 0):=fun j z=>by
  have h:=congrArg Int.natAbs (hx j z);rw[aR,aR,mon] at h;have g:=wG (s-j) (by lia);rw[show s-(s-j)=j by lia] at g;have cl:(c^(s-j)).natAbs<2^(b*(s-j)+1):=Hv.uz lc (s-j);have u0:0<U.natAbs:=by lia
  have k:U.natAbs*(bs.getD j 0).natAbs<=U.natAbs*(2^(y*(s-j))*(c^(s-j)).natAbs):=by
   rw[h,← eV];exact bH _ g
  have k:=Nat.le_of_mul_le_mul_left k u0;show (bs.getD j 0).natAbs<2^((y+b)*(s-j)+1);rw[show (y+b)*(s-j)+1=y*(s-j)+(b*(s-j)+1) by rw[gI];lia,eJ];exact cw k (gO cl (bg (by decide)))
 refine⟨(congrArg (· <= Pv) (vZ P)).mpr (vO (by lia)),nI (fun k=>P.getD k 0*c^(n-k)),nI.nil,fun i d ys hd _ hy=>?_,fun ys _ hy=>?_⟩
 ·obtain⟨hi,rfl⟩:=uW hd;refine⟨rfl,rfl,(c,n-i,b),⟨?_,lc,by show n-i<=200;lia,by show (b+1)*(n-i+1)<=400000;exact aD (ai _ (by lia)) (aD cap2 (by decide))⟩,?_⟩
  ·show [D.int c,.int ((n:Int)-(i:Int))]=[D.int c,.int ((n-i:Nat):Int)];rw[show (n:Int)-(i:Int)=((n-i:Nat):Int) by lia]
  ·rintro _ rfl;exact⟨⟨_,_,z1.tops i,vz lc (show n-i<=16 by lia),by lia⟩,hy.snoc rfl⟩
 have hy:nI _ (vc (P.map D.int)).length ys:=hy;rw[vZ,ln] at hy;obtain⟨l0,rfl,l0l,hl0⟩:=hy;refine⟨vK,rfl,(G,U,s,b+y*s,b),⟨rfl,lG,z2,by show b<=9000000;lia⟩,?_⟩;rintro dl fl;have uR:(U:Rat)≠0:=Qp.uh U0;have q1:Qp.q G U s=((1:Int):Rat):=by
  unfold Qp.q;rw[mon];show _=(1:Rat);grind
 have fl:FqD (b+y*s) b dl (Qp.q G U s):=fl;rw[q1] at fl;obtain⟨rfl,_⟩:=fl.same (vx (n:=1) (t:=1) (by decide));refine⟨rfl,(fD 1 1,fD 1 1,((1:Int):Rat),((1:Int):Rat),1,1,1,1),⟨rfl,vx (by decide),vx (by decide),by decide,by decide,by decide⟩,?_⟩;rintro do1 fo;have fo:FqD 2 2 do1 (((1:Int):Rat) / ((1:Int):Rat)):=fo;rw[show ((1:Int):Rat) / ((1:Int):Rat)=((1:Int):Rat) by show (1:Rat) / 1=1;grind] at fo;obtain⟨rfl,_⟩:=fo.same (vx (n:=1) (t:=1) (by decide));obtain⟨ov,hov⟩:∃ ov:Int,ov=1:=⟨_,rfl⟩;obtain⟨un,hun⟩:∃ un:Int,un=1:=⟨_,rfl⟩;have lo:Lt2 1 ov:=by rw[hov];unfold Lt2;decide
 have lu:Lt2 1 un:=by rw[hun];unfold Lt2;decide
 have u0:0<un:=by lia
 have o0:ov≠0:=by lia
 have hl:G.getD s 0*ov=un*U:=by rw[mon,hov,hun];lia
 have eo:fD 1 1=fD ov un:=by rw[hov,hun]
 rw[eo];have ef:(n:Int).fdiv (s:Int)=((n / s:Nat):Int):=by
  rw[cE _ (by lia)];rfl
 have T12:n / s<=16:=aD (dE _ _) n2;have ls:Lt2 7 ((s:Nat):Int):=by unfold Lt2;lia
 have eT:((n:Int).fdiv (s:Int)+1).toNat=n / s+1:=by rw[ef];exact aS (n / s+1)
 have t0:(0:Int)<=((n / s:Nat):Int):=Int.natCast_nonneg _;have t1:((n / s:Nat):Int)<=16:=by exact_mod_cast T12
 have w1 : -(2^62)<=(n:Int).fdiv (s:Int)+1:=by
  rw[ef];generalize ((n / s:Nat):Int)=z at *;lia
 have w2:(n:Int).fdiv (s:Int)+1<2^62:=by
  rw[ef];generalize ((n / s:Nat):Int)=z at *;lia
 have s0:(s:Int)≠0:=by lia
 refine⟨rfl,aE _,⟨s0,7,ls,by decide⟩,w1,w2,LN P B G U c ov un bs n s (a+2) (y+b) (yB a (y+b) b),?_,?_,?_⟩
 ·refine⟨.no,.no,.no,.no,.no,l0,[],fun t k=>P.getD k 0*c^(n-k),fun _ _=>0,rfl,rfl,by rw[l0l];rfl,fun k=>?_,fun _=>?_,fun k=>rfl,fun t ht k=>⟨?_,fun hk=>?_⟩,fun t k ht=>absurd ht (bZ _),fun t p hp=>by cases hp⟩
  ·rcases ar k (n+1) with z|z
   ·exact hl0 k z
   ·show l0.getD k 0=P.getD k 0*c^(n-k);rw[uj (by lia),uj (fs:=P) (by lia),aN]
  ·have e:=hl0 n (by lia);dsimp only at e;rw[l0l,bJ,e,cI,aT,bq];exact uB z1.fm ln
  ·rw[show t=0 by lia,gn,gn,bP];exact ((z1.tops k).mul (Hv.uz lc (n-k))).mono (by rw[gI];lia)
  ·show P.getD k 0*c^(n-k)=0;rw[uj (by lia),aN]
 ·rintro i d st hd hS;have hd:(vN 0 ((n:Int).fdiv (s:Int)+1).toNat)[i]? = some d:=hd;rw[eT] at hd;obtain⟨hi,rfl⟩:=uG hd;exact EW (a:=a) (b0:=b0) (by lia) rfl (by lia) cap2 n2 s1 s8 (by lia) B0 z1.bot c0 lc o0 lo u0 lu lb b1 hZ (fun _ h=>h) hS
 ·rintro st hS;have hS:LN P B G U c ov un bs n s (a+2) (y+b) (yB a (y+b) b) (vN 0 ((n:Int).fdiv (s:Int)+1).toNat).length st:=hS;rw[uw,eT] at hS;obtain⟨o7,o8,o12,o13,o14,x,Ps,rfl,hD⟩:=GM hun (ak _) rfl z1 ln n2 s1 sn c0 lc u0 lu lo (fun j hj=>by rw[bB];exact hx j hj) lb lG hl hS;exact q _ ⟨Ps,rfl,hD⟩
theorem oW:Does 15 rX mX:=by
 rintro ds Q hn ⟨⟨P,B,G,U,n,s,a,b0,b,y⟩,⟨rfl,z1,ln,n1,n2,fG,lU,wG,lG,s1,s8,mon,cap,cap2,cap3⟩,q⟩;dsimp only at z1 ln n1 n2 fG lU wG lG s1 s8 mon cap cap2 cap3 q;refine⟨rfl,(P,B),rfl,?_⟩;rintro _ rfl;refine⟨rfl,(G,U),rfl,?_⟩;rintro _ rfl;refine⟨vK,rfl,?_⟩;suffices h1:jZ.run (ux Q) [.val (pD P B),.val (pD G U),.val (.int n),.val (.int s),.no,.no,.no,.no,.no,.no,.no,.no,.no,.no,.no] by
  show jZ.run (ux Q) [.val (pD P B),.val (pD G U),.val (.int ((P.length:Int)-1)),.val (.int ((G.length:Int)-1)),.no,.no,.no,.no,.no,.no,.no,.no,.no,.no,.no];rw[ln,lG,show ((n+1:Nat):Int)-1=(n:Int) by lia,show ((s+1:Nat):Int)-1=(s:Int) by lia];exact h1
 refine yo (p:=(n:Int)<(s:Int)) (fun c=>?_) (fun c=>?_)
 ·exact⟨zn,q _ ⟨[(P,B)],rfl,GL z1 ln n2 (by lia) (by lia) (by unfold eB;lia) (by unfold yB;lia)⟩⟩
 ·exact IN z1 ln n1 n2 fG lU wG cap cap2 cap3 mon lG s1 s8 (by lia) q
end Dp
namespace Dp
open PySem L2
open Cv Qp in
theorem CV(h0:∀ k,17<=k->N k=0)(h1:∀ k,17<=k->N' k=0)(e0:0<e)(e1:0<e')(U0:0<U)(p0:0<p2)(h:∀ k,(cv N' (fn G) k*p2+p1.getD k 0*(e'*U))*e=N k*(e'*U*p2))(x:Rat) :
  ei N x 17 / (e:Rat)=E p1 p2 x+E G U x*(ei N' x 17 / (e':Rat)):=by
 have l:=AV (F:=fun k=>cv N' (fn G) k*p2+p1.getD k 0*(e'*U)) (G:=N) (x:=x) h (17+G.length+p1.length);rw[CQ,v0,v0] at l;have a1:ei (cv N' (fn G)) x (17+G.length+p1.length)=ei N' x 17*ei (fn G) x G.length:=by
  rw[Ad (fun k hk=>u5 (a:=17) (b:=G.length) (fun j hj=>h1 j hj) (fun j hj=>uk hj) (by lia)),JJ (fun k hk=>h1 k hk) (fun k hk=>uk hk)]
 have a2:ei (fun k=>p1.getD k 0) x (17+G.length+p1.length)=ei (fn p1) x p1.length:=by
  rw[show 17+G.length+p1.length=p1.length+(17+G.length) by lia];exact Ad (fun k hk=>uk hk) _
 have a3:ei N x (17+G.length+p1.length)=ei N x 17:=by
  rw[show 17+G.length+p1.length=17+(G.length+p1.length) by lia];exact Ad h0 _
 rw[a1,a2,a3] at l;unfold E;simp only[az] at l;have n1:=uh e0;have n2:=uh e1;have n3:=uh U0;have n4:=uh p0;generalize ei N' x 17=X at *;generalize ei (fn G) x G.length=Y at *;generalize ei (fn p1) x p1.length=Z at *;generalize ei N x 17=V at *;generalize (e:Rat)=a at *;generalize (e':Rat)=b at *;generalize (U:Rat)=c at *;generalize (p2:Rat)=d at *;have k1:V / a=(X*Y*d+Z*(b*c)) / (b*c*d):=by grind
 rw[k1];grind
theorem IO(B0:0<B)(U0:0<U)(lP:P.length<=17)(h:Hr P B G U s n z0 e0 y0 Ps)(x:Rat):Qp.E P B x=Ap.Ed (Qp.E G U x) x Ps:=by
 obtain⟨N,E,Dv,_,ne,l20,hN,hE,sN,hT,h0,hp⟩:=h;have step:∀ t p,Ps[t]? = some p->Qp.ei (N t) x 17 / (E t:Rat)=Qp.E p.1 p.2 x+Qp.E G U x*(Qp.ei (N (t+1)) x 17 / (E (t+1):Rat)):=fun t p ht=>by
  obtain⟨_,z,_,_,hr⟩:=hp t p ht;exact CV (hN t) (hN (t+1)) (hE t).1 (hE (t+1)).1 U0 z.fm.pos (hr (N (t+1)) (E (t+1)) (hE (t+1)).1 fun _=>rfl) x
 have go:∀ j t,t+j=Ps.length->Qp.ei (N t) x 17 / (E t:Rat)=Ap.Ed (Qp.E G U x) x (Ps.drop t):=by
  intro j;induction j with
  | zero =>
   intro t ht;rw[show t=Ps.length by lia,AU hT,gC];show (0:Rat) / _=0;grind
  | succ j ih =>
   intro t ht;have lt:t<Ps.length:=by lia
   rw[step t _ (au lt),ih (t+1) (by lia),dq lt];rfl
 have z:=go Ps.length 0 (by lia);rw[fu] at z;rw[← z,Qp.zu lP];have l:=Qp.AV (F:=N 0) (G:=Cv.fn P) (x:=x) h0 17;have n1:=Qp.uh B0;have n2:=Qp.uh (hE 0).1;grind
def gW(a Z n:Nat):Nat:=a+(Z+8)*n+24
def bU(Z k s:Nat):Nat:=if k=1 then Z else (Z+8)*(s-1)+1
def zB(b0 Z k s:Nat):Nat:=b0+bU Z k s*(k*s-s)+1
def tB(a b0 Z k s:Nat):Nat:=yB a (gW a Z (k*s)+bU Z k s) (bU Z k s)+zB b0 Z k s
def LR(a b0 Z n:Nat):Prop:=a+(Z+8)*n<=50000/\b0<=1000000/\Z<=20001/\(Z+8)*(n-1) / 2<=20000
theorem Ng(h:LR a b0 Z (k*s))(k1:1<=k)(s1:1<=s):bU Z k s<=20001:=by
 obtain⟨_,_,h1,h2⟩:=h;unfold bU;split
 ·exact h1
 ·rename_i k2;have:2*s<=k*s:=bH _ (by lia);have h3:(Z+8)*(2*(s-1))<=(Z+8)*(k*s-1):=ai _ (by lia);have h4:(Z+8)*(2*(s-1))=2*((Z+8)*(s-1)):=by rw[← eV,bQ (Z+8) 2,eV]
  lia
theorem Hb(lP:P.length=k*s+1)(k1:1<=k)(s1:1<=s)(ks:k*s<=16)(hL:P.getD (k*s) 0≠0)(lZ:Lt2 Z (P.getD (k*s) 0))(c:Cn P k s G U)(hU:U.natAbs<=((P.getD (k*s) 0).natAbs*k*k)^(s-1)):Lt2 (bU Z k s) U:=by
 obtain⟨fG,lG,cG⟩:=c;unfold bU;split
 ·rename_i e;subst e;rw[eK] at lP hL lZ;exact lZ.le (Ha lG lP fG cG hL)
 ·have k12:k<=16:=aD (bY _ s1) ks;have kk:k*k<=16*16:=bI k12 k12;have lc:Lt2 (Z+8) ((((P.getD (k*s) 0).natAbs*k*k:Nat)):Int):=by
   unfold Lt2;rw[br,eV,eJ];have lZ:(P.getD (k*s) 0).natAbs<2^Z:=lZ;exact cw (ai _ (show k*k<=2^8 by lia)) (d9 lZ (by decide))
  have:=Hv.uz lc (s-1);unfold Lt2 at this ⊢;rw[cJ,br] at this;exact cw hU this
def Bd(P:List Int)(B:Int)(k s:Nat)(G:List Int)(U:Int)(Ps:List (List Int×Int)):Prop:=Cn P k s G U/\Ps≠[]/\Ps.length<=20/\(∀ p∈Ps,Po.Fm p.1 p.2/\p.1.length<=s)/\∀ x,Qp.E P B x=Ap.Ed (Qp.E G U x) x Ps
def Dd(P:List Int)(B:Int)(k s a b0 Z:Nat)(d:D):Prop:=∃ G U Ps,Bd P B k s G U Ps/\Wt (gW a Z (k*s)) G U s/\Lt2 (bU Z k s) U/\((∃(i:Nat) (p:List Int×Int),d = .tup [.str "barred",pD G U,.int (i:Int)]/\Ps[i]? = some p/\2<=p.1.length/\∀ j q,j<i->Ps[j]? = some q->q.1.length<=1) \/
 (∃ R C,d = .tup [.str "made",pD R C,pD G U]/\Pc.Pz (tB a b0 Z k s) (zB b0 Z k s) R C/\(∀ q∈Ps,q.1.length<=1)/\R.length<=20/\∀ x y,Qp.E R C y=Ap.Ed y x Ps))
def j2:SpB:=.of 2 (α:=List Int×Int×Nat×Nat×Nat×Nat×Nat) (fun (P,B,k,s,a,b0,Z) ds=>ds=[pD P B,.int s]/\Pc.Pz a b0 P B/\P.length=k*s+1/\1<=k/\1<=s/\k*s<=16/\k<=15/\Lt2 Z (P.getD (k*s) 0)/\LR a b0 Z (k*s)) (fun (P,B,k,s,a,b0,Z) d=>Dd P B k s a b0 Z d)
def rc:TSd:=(iZ [] (jg (iR (dC (.str "made")) (iR (iU jS (iR (i7 (jd (iS 3)) [5] (gNm 5) jt (iU ja (iR (iS 5) (iR (dC (.int 0)) iT)))) iT)) (iR (iS 2) iT)))))
def re:TSd:=dSq (jq [] (jv (iS 3)) (gTp [4,5])
 (dIf [] (i5 (i6 .GtE (iU jf (iR (iS 5) iT)) (dC (.int 1))))
 (iZ [] (jg (iR (dC (.str "barred")) (iR (iS 2) (iR (iS 4) iT)))))
 i8))
 rc
def rf:TSd:=dSq (iY [] (gNm 3) (iU mX (iR (iS 0) (iR (iS 2) iT))))
 re
def sE:TSd:=dSq (iY [] (gNm 2) (iU kq (iR (iS 0) (iR (iS 1) iT))))
 rf
theorem qy:Does 6 sE j2:=by
 rintro ds Q hn ⟨⟨P,B,k,s,a,b0,Zl⟩,⟨rfl,z,lP,k1,s1,ks,k15,lZ,hsz⟩,q⟩;dsimp only at z lP k1 s1 ks k15 lZ hsz q;have s12:s<=k*s:=aQ _ k1;have hL:=uB z.fm lP;have hb:=Ng hsz k1 s1;have hsz':=hsz;obtain⟨c1,c2,c3,_⟩:=hsz';refine⟨rfl,(P,B,k,s,a,Zl),⟨rfl,lP,k1,s1,ks,k15,z.tops,lZ,by show a+(Zl+8)*(k*s)<=99000;lia,by show Zl<=20001;lia,hL⟩,?_⟩;rintro _ ⟨G,U,rfl,cn,wG,hU⟩;have wG:Wt (gW a Zl (k*s)) G U s:=wG;have lU:=Hb lP k1 s1 ks hL lZ cn hU;have cn':=cn;obtain⟨fG,lG,hC⟩:=cn';obtain⟨mon,G0⟩:=v8 hC s1;have G0:G.getD 0 0=0:=G0;have U0:=fG.pos;have B0:=z.fm.pos;have hg:gW a Zl (k*s)<=50024:=by unfold gW;lia
 generalize hgW:gW a Zl (k*s)=y at *;generalize hbU:bU Zl k s=b at *;have yy:y*16<=50024*16:=bH _ hg;refine⟨rfl,(P,B,G,U,k*s,s,a,b0,b,y),⟨rfl,z,lP,by show 1<=k*s;lia,ks,fG,lU,wG,lG,s1,by show s<=16;lia,mon,by show a+b0+(y+b)*19<=4000000;lia,by show (b+1)*18<=390000;lia,by show b+y*16<=1000000;lia⟩,?_⟩;rintro _ ⟨Ps,rfl,hD⟩;have ed:=IO B0 U0 (by lia) hD;obtain⟨N,E,Dv,⟨D0,lD,BD⟩,ne,l20,_,_,_,_,_,hp⟩:=hD;have lD:Lt2 (b0+b*(k*s-s)+1) Dv:=lD;have bk:b*(k*s-s)<=b*16:=ai _ (by lia);have hy:yB a (y+b) b<=9000000:=by unfold yB;lia
 have he:eB b0 b<=9000000:=by unfold eB;lia
 have ezB:zB b0 Zl k s=b0+b*(k*s-s)+1:=by unfold zB;rw[hbU]
 have etB:tB a b0 Zl k s=yB a (y+b) b+(b0+b*(k*s-s)+1):=by unfold tB;rw[ezB,hbU,hgW]
 have hz:∀ p∈Ps,Pc.Pz (yB a (y+b) b) (eB b0 b) p.1 p.2/\p.1.length<=s:=fun p h=>by
  obtain⟨t,ht⟩:=bV.mp h;exact⟨(hp t p ht).2.1,(hp t p ht).2.2.1⟩
 have ap:Bd P B k s G U Ps:=⟨cn,ne,l20,fun p h=>⟨(hz p h).1.fm,(hz p h).2⟩,ed⟩;generalize yB a (y+b) b=yy at *;generalize eB b0 b=ee at *;generalize hzz:b0+b*(k*s-s)+1=zz at *;refine⟨fun i st=>(∃ o4 o5:SD,st=[.val (pD P B),.val (.int s),.val (pD G U),.val (.tup (Ps.map fun p=>pD p.1 p.2)),o4,o5])/\∀ j q,j<i->Ps[j]? = some q->q.1.length<=1,⟨⟨.no,.no,rfl⟩,fun j q h=>absurd h (bZ _)⟩,?_,?_⟩
 ·rintro i d _ hd ⟨⟨o4,o5,rfl⟩,hI⟩;obtain⟨x,hx,rfl⟩:=Ac hd;rw[aM] at hx;obtain⟨p,hp1,rfl⟩:=ab.mp hx;refine⟨rfl,rfl,(p.1,p.2),rfl,?_⟩;rintro _ rfl;refine yo (p:=(1:Int)<=(p.1.length:Int)-1) (fun c=>?_) (fun c=>?_)
  ·exact⟨vO (n:=3) (by decide),q _ ⟨G,U,Ps,ap,by rw[hgW];exact wG,by rw[hbU];exact lU,.inl ⟨i,p,rfl,hp1,by lia,hI⟩⟩⟩
  ·refine⟨⟨_,_,rfl⟩,fun j r hj hr=>?_⟩;rcases cy (eQ hj) with e|e
   ·rw[e,hp1] at hr;cases hr;lia
   ·exact hI j r e hr
 ·rintro _ ⟨⟨o4,o5,rfl⟩,hI⟩;rw[uy,aa] at hI;have one:∀ r∈Ps,r.1.length<=1:=fun r hr=>by
   obtain⟨t,ht⟩:=bV.mp hr;exact hI t r (aj.mp ht).1 ht
  refine⟨(congrArg (· <= Pv) (aa _)).mpr (vO (by lia)),fun i ys=>∃ fs:List (Int×Int),ys=Hu fs/\fs.length=i/\∀(j:Nat) (f:Int×Int),fs[j]? = some f->∃ p:List Int×Int,Ps[j]? = some p/\0<f.2/\PV f.1 f.2=1/\Lt2 yy f.1/\Qp.q p.1 p.2 0=(f.1:Rat) / (f.2:Rat),⟨[],rfl,rfl,fun j f h=>by cases h⟩,fun i d ys hd _ hy=>?_,fun ys _ hy=>?_⟩
  ·rw[aM] at hd;obtain⟨p,hp1,rfl⟩:=ab.mp hd;have zp:=(hz p (aO hp1)).1;refine⟨rfl,(p.1,p.2,0,yy,ee),⟨rfl,zp,he⟩,?_⟩;rintro _ ⟨t,u,rfl,u0,g,lt,lu,er⟩;obtain⟨fs,rfl,lf,hf⟩:=hy;refine⟨fs++[(t,u)],by unfold Hu;rw[bw];rfl,by rw[aB,lf];rfl,fun j f hj=>?_⟩;rcases ar j fs.length with y|y
   ·rw[bE y] at hj;exact hf j f hj
   ·have ej:j=i:=by
     have:=(aj.mp hj).1;rw[aB] at this;simp at this;lia
    subst ej;rw[bv (by lia),lf,cI] at hj;cases hj;exact⟨p,hp1,u0,g,lt,er⟩
  ·obtain⟨fs,rfl,lf,hf⟩:=hy;rw[aa] at lf;have dv:∀ f∈fs,0<f.2/\Lt2 yy f.1/\f.2∣Dv:=fun f h=>by
    obtain⟨j,hj⟩:=bV.mp h;obtain⟨p,hp1,u0,g,lt,er⟩:=hf j f hj;refine⟨u0,lt,?_⟩;cases j with
    | zero =>
     have e0:Qp.q P B 0=Qp.q p.1 p.2 0:=by
      have a:=ed 0;have b0:Qp.E G U 0=0:=by
       rw[Qp.uV];unfold Qp.q;rw[G0];show (0:Rat) / _=0;grind
      rw[b0] at a;cases Ps with
      | nil=>exact absurd rfl ne
      | cons p' Ps =>
       cases hp1;have a:Qp.E P B 0=Qp.E p.1 p.2 0+0*_:=a;rw[Rat.zero_mul,Rat.add_zero,Qp.uV,Qp.uV] at a;exact a
     refine eY (BO (a:=P.getD 0 0) u0 g B0 ?_) BD;rw[← er,← e0];rfl
    | succ j =>
     have zp:=(hz p (aO hp1)).1;refine eY (BO (a:=p.1.getD 0 0) u0 g zp.fm.pos ?_) ((hp (j+1) p hp1).1 (by lia));rw[← er];rfl
   refine⟨rfl,(fs,Dv,yy),⟨rfl,dv,by lia,D0,lD.mono (by lia),by show yy<=10000000;lia⟩,?_⟩;rintro _ ⟨R,C,rfl,fR,wR,lR,CD⟩;have wR:∀ k,R.getD k 0*(fs.getD k (0,1)).2=(fs.getD k (0,1)).1*C:=wR;have lR:R.length<=fs.length:=lR;have lC:Lt2 zz C:=lD.le (cU (by lia) (bj.mpr CD));refine⟨vO (n:=3) (by decide),q _ ⟨G,U,Ps,ap,by rw[hgW];exact wG,by rw[hbU];exact lU,.inr ⟨R,C,rfl,⟨fR,fun k=>?_,by rw[ezB];exact lC⟩,one,by lia,fun x y=>?_⟩⟩⟩
   ·rcases ar k fs.length with y|y
    ·obtain⟨f,hf1⟩:∃ f,fs[k]? = some f:=⟨fs[k],au y⟩;have w:=wR k;rw[uM hf1] at w;obtain⟨u0,lt,_⟩:=dv f (aO hf1);rw[etB];refine (lt.mul lC).le ?_;rw[← w,aR];exact bY _ (by lia)
    ·rw[uj (by lia)];exact xB _
   ·rw[Df (N:=Ps.length) (by lia),JK (f:=Qp.q R C) one fun j p hj=>?_];have lj:j<fs.length:=by rw[lf];exact (aj.mp hj).1
    obtain⟨f,hf1⟩:∃ f,fs[j]? = some f:=⟨fs[j],au lj⟩;obtain⟨p',hp',u0,g,lt,er⟩:=hf j f hf1;rw[hj] at hp';cases hp';rw[er];have w:=wR j;rw[uM hf1] at w;exact (Qp.uD (ao fR.pos) (ao u0)).mpr w
end Dp
namespace Dp
open PySem L2 Qp Ap Dt
theorem Da(μ:Rat):∀ m:Nat,∃ r,Pl' m r/\∀ x,(x+μ)^(m+1)=x^(m+1)+((m:Rat)+1)*μ*x^m+r x
 | 0=>⟨fun _=>0,Di 0,fun x=>by
  rw[bc,bc,bN,bN];have:((0:Nat):Rat)=0:=rfl;rw[this];grind⟩
 | m+1=>by
  obtain⟨r,hr,e⟩:=Da μ m;have a:Pl' (m+1) fun x=>(((m:Rat)+1)*μ*μ)*x^m:=((Pl'.x.pow (s:=1) m).mono (by lia)).smul _;have b:Pl' (m+1) fun x=>r x*(x+μ):=hr.mul (m:=1) (Pl'.x.add ((Pl'.const μ).mono (by decide)));refine⟨_,a.add b,fun x=>?_⟩;have e1:((m+1:Nat):Rat)=(m:Rat)+1:=by norm_cast
  rw[bc,e,e1,bc x (m+1),bc x m];generalize x^m=y;generalize r x=z;grind
theorem DQ(k:Nat):∃ R C,Po.Fm R C/\(∀ x,E R C x=x^k)/\∀ i,q R C i=if i=k then 1 else 0:=by
 obtain⟨R,C,f,h⟩:=Gq 1 k;refine⟨R,C,f,fun x=>LK f.pos (fun i=>?_) x,h⟩;have hc:=uh f.pos;have:=h i;unfold q at this;by_cases y:i=k
 ·rw[QI y] at this ⊢;exact dX.mp (by grind)
 ·rw[QJ y] at this ⊢;exact cL.mp (by grind)
theorem Mw(fP:Po.Fm P B)(hr:Pl' m r)(e:∀ x,E P B x=c*x^(m+1)+(d*x^m+r x)):q P B (m+1)=c/\q P B m=d:=by
 obtain⟨R,C,fR,eR,lR⟩:=hr;obtain⟨X1,c1,f1,e1,h1⟩:=DQ (m+1);obtain⟨X2,c2,f2,e2,h2⟩:=DQ m;obtain⟨S,s,fS,eS⟩:=(Pf.const d).mul (Pf.of f2);have eS:∀ x,E S s x=d*E X2 c2 x:=eS;obtain⟨T,t,fT,eT⟩:=(Pf.of fS).add (Pf.of fR);have eT:∀ x,E T t x=E S s x+E R C x:=eT;have a:∀ i,q P B i=c*q X1 c1 i+q T t i:=vn fP f1 fT fun x=>by rw[e,e1,eT,eS,e2,eR]
 have b:∀ i,q T t i=d*q X2 c2 i+q R C i:=vn fT f2 fR fun x=>by rw[eT,eS]
 constructor
 ·rw[a,b,h1,h2,QI rfl,QJ (by lia),uK (P:=R) (by lia)];grind
 ·rw[a,b,h1,h2,QJ (by lia),QI rfl,uK (P:=R) (by lia)];grind
def Mu(f:Rat->Rat)(L μ:Rat)(m:Nat):Prop:=∃ r,Pl' (m-1) r/\∀ x,f x=L*(x+μ)^m+r x
theorem Mu.congr(h:Mu f L μ m)(e:∀ x,f x=g x):Mu g L μ m:=by
 obtain⟨r,hr,e'⟩:=h;exact⟨r,hr,fun x=>by rw[← e,e']⟩
theorem Mu.get(fP:Po.Fm P B)(h:Mu (E P B) L μ (m+1)):q P B (m+1)=L/\q P B m=L*(((m:Rat)+1)*μ):=by
 obtain⟨r,hr,e⟩:=h;obtain⟨r',hr',e'⟩:=Da μ m;refine Mw fP (hr.add (hr'.smul L)) fun x=>?_;rw[e,e'];generalize x^m=y;grind
theorem Mu.of(fP:Po.Fm P B)(lP:P.length=m+2):Mu (E P B) (q P B (m+1)) (q P B m / ((((m:Rat)+1))*q P B (m+1))) (m+1):=by
 have l0:q P B (m+1)≠0:=by
  have:=uS fP (by intro e;rw[e] at lP;simp at lP);rwa [lP] at this
 have m0:((m:Rat)+1)≠0:=by
  have:((m:Rat)+1)=((m+1:Nat):Rat):=by norm_cast
  rw[this];intro z;have:=cZ.mp z;lia
 obtain⟨r',hr',e'⟩:=Da (q P B m / ((((m:Rat)+1))*q P B (m+1))) m;have rp:∀ n,Pl' n fun x=>rs n fun j=>q P B j*x^j:=by
  intro n;induction n with
  | zero=>exact Di 0
  | succ n ih=>exact ((ih.mono (by lia)).add (((Pl'.x.pow (s:=1) n).mono (by lia)).smul (q P B n))).congr fun x=>rfl
 refine⟨_,(rp m).add (hr'.smul (-(q P B (m+1)))),fun x=>?_⟩;rw[OC (N:=m+2) (by lia),e'];show rs m _+q P B m*x^m+q P B (m+1)*x^(m+1)=_;generalize (rs m fun j=>q P B j*x^j)=z;generalize x^m=y;generalize x^(m+1)=w;generalize r' x=v;grind
theorem Hn(hA:Pl' (s+3) A)(ht:Pl' (s+1) t):∀ m:Nat,Pl' ((m+1)*(s+2)-1) fun x=>(A x+t x)^(m+1)-A x^(m+1)
 | 0=>ht.congr (fun x=>by grind) |>.mono (by lia)
 | m+1=>by
  have a:=Hn hA ht m;have b:Pl' (s+3) fun x=>A x+t x:=hA.add (ht.mono (by lia));have c:Pl' (s+1+(s+2)*(m+1)) fun x=>t x*A x^(m+1):=ht.mul (hA.pow (s:=s+2) (m+1));have e:(m+1+1)*(s+2)=(m+1)*(s+2)+(s+2):=bh _ _;have e2:(s+2)*(m+1)=(m+1)*(s+2):=bQ _ _;have p:s+2<=(m+1)*(s+2):=aQ _ (by lia);refine (((a.mul (m:=s+2) b).mono (by lia)).add (c.mono (by lia))).congr fun x=>?_;show ((A x+t x)^(m+1)-A x^(m+1))*(A x+t x)+t x*A x^(m+1)=(A x+t x)^(m+1+1)-A x^(m+1+1);rw[bc (A x+t x) (m+1),bc (A x) (m+1)];generalize (A x+t x)^(m+1)=u;generalize A x^(m+1)=v;grind
theorem Bu(x:Rat)(a b:Nat):x^(a+b)=x^a*x^b:=by
 induction b with
 | zero=>rw[gu,bN,iu]
 | succ b ih=>rw[← eX,bc,ih,bc,Rat.mul_assoc]
theorem FY(x:Rat)(a b:Nat):(x^a)^b=x^(a*b):=by
 induction b with
 | zero=>rw[gn,bN,bN]
 | succ b ih=>rw[bc,ih,bF,Bu]
theorem BF(x y:Rat)(a:Nat):(x*y)^a=x^a*y^a:=by
 induction a with
 | zero=>rw[bN,bN,bN,iu]
 | succ a ih=>rw[bc,ih,bc,bc];grind
theorem Me(ν:Rat):Pl' 2 fun x=>x+ν:=Pl'.x.add ((Pl'.const ν).mono (by decide))
theorem Mu.comp(hf:Mu f L μ (m+1))(hg:Mu g b ν (s+2)):Mu (fun x=>f (g x)) (L*b^(m+1)) ν ((m+1)*(s+2)):=by
 obtain⟨r,hr,e⟩:=hf;obtain⟨r',hr',e'⟩:=hg;have hr':Pl' (s+1) r':=hr';have hr:Pl' m r:=hr;have hA:Pl' (s+3) fun x=>b*(x+ν)^(s+2):=(((Me ν).pow (s:=1) (s+2)).mono (by lia)).smul b;have ht:Pl' (s+1) fun x=>r' x+μ:=hr'.add ((Pl'.const μ).mono (by lia));have d:=(Hn hA ht m).smul L;have gp:Pl' (s+3) g:=(hA.add (hr'.mono (by lia))).congr fun x=>(e' x).symm;have hm:s+2<=(m+1)*(s+2):=aQ _ (by lia);have rg:Pl' ((m+1)*(s+2)-1) fun x=>r (g x):=by
  obtain⟨R,C,fR,eR,lR⟩:=hr;refine ((Pl'.comp (P:=R) (B:=C) (s:=s+2) gp).congr fun x=>eR (g x)).mono ?_;have:(s+2)*(R.length-1)<=(s+2)*(m-1):=ai _ (by lia);have h2:(s+2)*(m-1)+(s+2)<=(m+1)*(s+2):=by
   rw[bQ (s+2),← bh];exact bH _ (by lia)
  lia
 refine⟨_,d.add rg,fun x=>?_⟩;have k1:g x+μ=b*(x+ν)^(s+2)+(r' x+μ):=by rw[e'];grind
 dsimp only;rw[e,k1,show (m+1)*(s+2)=(s+2)*(m+1) from bQ _ _,← FY];have k2:=BF b ((x+ν)^(s+2)) (m+1);generalize (b*(x+ν)^(s+2)+(r' x+μ))^(m+1)=u;generalize ((x+ν)^(s+2))^(m+1)=v at *;rw[k2];generalize r (g x)=w;generalize b^(m+1)=z;grind
theorem Mu.lin(hf:Mu f L μ (m+2))(c0:c≠0):Mu (fun x=>f (c*x+d)) (L*c^(m+2)) ((d+μ) / c) (m+2):=by
 obtain⟨r,hr,e⟩:=hf;have hr:Pl' (m+1) r:=hr;have lp:Pl' 2 fun x=>c*x+d:=(Pl'.x.smul c).add ((Pl'.const d).mono (by decide));have rg:Pl' (m+1) fun x=>r (c*x+d):=by
  obtain⟨R,C,fR,eR,lR⟩:=hr;exact ((Pl'.comp (P:=R) (B:=C) (s:=1) lp).congr fun x=>eR (c*x+d)).mono (by lia)
 refine⟨_,rg,fun x=>?_⟩;have k1:c*x+d+μ=c*(x+(d+μ) / c):=by grind
 dsimp only;rw[e,k1,BF];grind
def Be(f:Rat->Rat):Nat->Rat->Rat
 | 0,x=>x
 | k+1,x=>Be f k (f x)
theorem ym(f:Rat->Rat):∀(k:Nat) (x:Rat),Be f (k+1) x=f (Be f k x)
 | 0,_=>rfl
 | k+1,x=>ym f k (f x)
def LP(s:Nat):Nat->Nat
 | 0=>0
 | k+1=>LP s k+s^k
theorem CG(h:Mu f b ν (s+2)):∀ k:Nat,Mu (Be f (k+1)) (b^LP (s+2) (k+1)) ν ((s+2)^(k+1))
 | 0=>by
  show Mu f (b^(0+(s+2)^0)) ν ((s+2)^(0+1));rw[Nat.pow_zero,ia,gG,bc,bN,Rat.one_mul];exact h
 | k+1=>by
  have ih:=CG h k;obtain⟨m,hm⟩:∃ m,(s+2)^(k+1)=m+1:=⟨(s+2)^(k+1)-1,by have:=bg (n:=k+1) (show 0<s+2 by lia);lia⟩;rw[hm] at ih;have c:=ih.comp h;rw[← hm,← dg,← Bu] at c;exact c
theorem zZ{H:List Int}{V:Int}{s:Nat}(fH:Po.Fm H V)(lH:H.length=s+1)(s1:1<=s):∀ k:Nat,∃ W w,Po.Fm W w/\W.length=s^k+1/\∀ x,E W w x=Be (E H V) k x
 | 0=>⟨Pc.X,1,Pc.IZ,rfl,fun x=>Hw x⟩
 | k+1=>by
  obtain⟨W,w,fW,lW,eW⟩:=zZ fH lH s1 k;obtain⟨R,C,o⟩:=vt fW fH;have e:∀ x,E R C x=E W w (E H V x):=fun x=>wn fW.pos fH.pos o x;exact⟨R,C,o.1,by rw[dg];exact y9 fW lW fH lH s1 o.1 e,fun x=>by rw[e,eW];rfl⟩
theorem Gn{H:List Int}{V:Int}{s:Nat}(fH:Po.Fm H V)(lH:H.length=s+1)(s1:1<=s):∃ A α,Po.Fm A α/\A.length=s+1/\A.getD s 0=α/\A.getD 0 0=0/\(∀ x,E H V x=q H V s*E A α x+q H V 0)/\∀ i,1<=i->q H V i=q H V s*q A α i:=by
 have b0:q H V s≠0:=by
  have:=uS fH (by intro e;rw[e] at lH;simp at lH);rwa [lH] at this
 obtain⟨A,α,fA,hA⟩:=JG (fun i=>if i=0 then 0 else q H V i / q H V s) (s+1);have qs:q A α s=1:=by
  rw[hA,QI (by lia),QJ (by lia)];grind
 have q0:q A α 0=0:=by rw[hA,QI (by lia),QI rfl]
 have a0:=uh fA.pos;have mA:A.getD s 0=α:=by
  unfold q at qs;exact dX.mp (by grind)
 have z0:A.getD 0 0=0:=by
  unfold q at q0;exact cL.mp (by grind)
 have lA:A.length=s+1:=by
  rcases ar s A.length with y|y
  ·rcases ar (s+1) A.length with z|z
   ·refine absurd ?_ (uS fA (by rintro rfl;simp at y));rw[hA,QJ (by lia)]
   ·lia
  ·rw[uK y] at qs;exact absurd qs (by decide)
 have qq:∀ i,1<=i->q H V i=q H V s*q A α i:=fun i hi=>by
  rw[hA];by_cases y:i<s+1
  ·rw[QI y,QJ (by lia)];grind
  ·rw[QJ y,uK (by lia)];grind
 refine⟨A,α,fA,lA,mA,z0,?_,qq⟩;obtain⟨r,fr,er,_,_⟩:=Gx (p:=(A,α)) fA (q H V 0) b0;obtain⟨S,d,fS,eS,lS⟩:=Pl'.const (q H V 0);have ql:=vn (u:=q H V s) fr fA fS (fun x=>by rw[er,eS]);obtain⟨e1,e2⟩:=Mz fH fr fun i=>by
  rw[ql i];rcases dF i with y|y
  ·subst y;rw[q0,← uV (P:=S),eS];grind
  ·rw[qq i y,uK (P:=S) (by lia)];grind
 intro x;rw[← er x,e1,e2]
theorem GY(fP:Po.Fm P B)(lP:P.length=m+1)(m1:1<=m):Cn P m 1 Pc.X 1:=by
 obtain⟨G,U,c⟩:=JO (P:=P) (k:=m) (s:=1) m1 (ak _) (by rw[dS];exact uB fP lP);have c':=c;obtain⟨fG,lG,cG⟩:=c';obtain⟨mG,G0⟩:=v8 cG (ak _);have U0:=Qp.uh fG.pos;obtain⟨rfl,rfl⟩:=Qp.uQ fG Pc.E4.fm fun y=>by
  rw[Qp.Hw,Qp.Al (by lia),show G.getD 0 0=0 from G0,show G.getD 1 0=U from mG];show (0:Rat) / _+_=_;grind
 exact c
theorem vj{H A:List Int}{V α:Int}{k s:Nat}(k1:1<=k)(s1:1<=s)(fH:Po.Fm H V)(lH:H.length=k*s+1)(fA:Po.Fm A α)(lA:A.length=s+1)(mA:A.getD s 0=α)(A0:A.getD 0 0=0)(h:LU H V A α):Cn H k s A α:=by
 obtain⟨W,w,fW,eW⟩:=h;have lW:=DK s1 fH lH fA lA fW eW;have c:=Ej (l:=1) k1 (ak _) s1 fH fA lA mA A0 fW (by rw[dS];exact lW) eW (GY fW lW k1) fA fun x=>by rw[Hw]
 rw[eK] at c;exact c
def Ag(P:List Int)(B:Int)(k:Nat)(H:List Int)(V:Int):Prop:=Po.Fm H V/\∀ x,Be (E H V) k x=E P B x
def wl(R:List Int)(C:Int)(G:List Int)(U:Int)(n s:Nat)(b:Rat):Rat:=b*q R C (n-1) / ((n:Rat)*q R C n)-q G U (s-1) / (s:Rat)
theorem Ba{P H:List Int}{B V:Int}{k n:Nat}(fP:Po.Fm P B)(lP:P.length=n+1)(n2:1<=n)(h:Ag P B k H V):∃ s,H.length=s+1/\s^k=n\/k=0:=by
 obtain⟨fH,e⟩:=h;rcases dF k with y|y
 ·exact⟨0,.inr y⟩
 match hl:H.length with
 | 0 =>
  have hn:H=[]:=dc hl;obtain⟨j,rfl⟩:∃ j,k=j+1:=⟨k-1,by lia⟩;have:P=[]:=(uQ fP yQ fun x=>by rw[← e,ym,hn,xA,xA]).1;rw[this] at lP;cases lP
 | 1 =>
  obtain⟨j,rfl⟩:∃ j,k=j+1:=⟨k-1,by lia⟩;obtain⟨S,d,fS,eS,lS⟩:=Pl'.const (E H V 0);have:P=S:=(uQ fP fS fun x=>by
   rw[← e,ym,eS,Al (by lia),Al (by lia),uj (fs:=H) (i:=1) (by lia)];show _+(0:Rat) / _*_=_+(0:Rat) / _*_;grind).1
  rw[this] at lP;lia
 | s+2 =>
  obtain⟨W,w,fW,lW,eW⟩:=zZ fH (s:=s+1) hl (by lia) k;have:P=W:=(uQ fP fW fun x=>by rw[← e,eW]).1;rw[this] at lP;exact⟨s+1,.inl ⟨rfl,by lia⟩⟩
theorem Bb{P H:List Int}{B V:Int}{k s:Nat}(fP:Po.Fm P B)(lH:H.length=s+3)(h:Ag P B (k+1) H V):q P B ((s+2)^(k+1))=q H V (s+2)^LP (s+2) (k+1):=by
 obtain⟨fH,e⟩:=h;have m:=CG (Mu.of fH (m:=s+1) (by lia)) k;obtain⟨m',hm⟩:∃ m,(s+2)^(k+1)=m+1:=⟨(s+2)^(k+1)-1,by have:=bg (n:=k+1) (show 0<s+2 by lia);lia⟩;have m2:=m.congr e;rw[show s+1+1=s+2 from rfl] at m2;rw[hm] at m2 ⊢;exact (m2.get fP).1
theorem B4{P H G R:List Int}{B V U C:Int}{k s n:Nat}(en:n=(s+2)^(k+1))(fP:Po.Fm P B)(lP:P.length=n*(s+2)+1)(lH:H.length=s+3)(h:Ag P B (k+2) H V)(cG:Cn P n (s+2) G U):LU P B G U/\(Po.Fm R C->(∀ x,E P B x=E R C (E G U x))->∀ x,E H V x=q H V (s+2)*E G U x+wl R C G U n (s+2) (q H V (s+2))):=by
 obtain⟨fH,e⟩:=h;have n1:1<=n:=by rw[en];exact bg (by lia)
 have n2:2<=n:=by
  rw[en,dg];have:=bg (n:=k) (show 0<s+2 by lia);have:=aQ (s+2) this;lia
 obtain⟨A,α,fA,lA,mA,A0,eA,qA⟩:=Gn fH (s:=s+2) lH (by lia);have b0:q H V (s+2)≠0:=by
  have:=uS fH (by intro e;rw[e] at lH;simp at lH);rwa [lH] at this
 obtain⟨W,w,fW,lW,eW⟩:=zZ fH (s:=s+2) lH (by lia) (k+1);obtain⟨T,t,fT,lT,_,q1,eT⟩:=Dn (q H V (s+2)) (q H V 0) b0;obtain⟨S,d,o⟩:=vt fW fT;have fS:=o.1;have eS:∀ y,E S d y=Be (E H V) (k+1) (q H V (s+2)*y+q H V 0):=fun y=>by rw[wn fW.pos fT.pos o,eT,eW]
 have eP:∀ x,E P B x=E S d (E A α x):=fun x=>by
  rw[← e,eS,← eA];rfl
 have oA:LU P B A α:=⟨S,d,fS,eP⟩;have cA:=vj n1 (by lia) fP lP fA lA mA A0 oA;have hL:P.getD (n*(s+2)) 0≠0:=uB fP lP;obtain⟨fG,lG,cG'⟩:=cG;obtain⟨rfl,rfl⟩:=Ca.Cand.uniq n1 hL fG cA.1 lG cA.2.1 cG' cA.2.2;refine⟨oA,fun fR eR x=>?_⟩;obtain⟨rfl,rfl⟩:=xl fG lG (by lia) fR fS fun x=>by rw[← eR,← eP]
 have mu:=CG (Mu.of fH (m:=s+1) (by lia)) k;obtain⟨j,hj⟩:∃ j,(s+1+1)^(k+1)=j+2:=⟨n-2,by rw[show s+1+1=s+2 from rfl,← en];lia⟩;rw[hj] at mu;have ml:=mu.lin (d:=q H V 0) b0;have ml:=ml.congr fun y=>(eS y).symm;obtain⟨g1,g2⟩:=ml.get fR;have nj:n=j+2:=by rw[en];exact hj
 have lR:q R C (j+1+1)≠0:=by
  rw[g1];intro z;rcases cq.mp z with z|z
  ·exact ve b0 _ z
  ·exact ve b0 _ z
 rw[eA];congr 1;unfold wl;have hn1:n-1=j+1:=by lia
 rw[hn1,show n=j+1+1 from nj,g2,g1,show s+2-1=s+1 from rfl];rw[g1] at lR;have qs:=qA (s+1) (by lia);have c1:((j+1+1:Nat):Rat)=((j+1:Nat):Rat)+1:=by norm_cast
 have c2:((s+2:Nat):Rat)=((s+1:Nat):Rat)+1:=by norm_cast
 have p1:((j+1:Nat):Rat)+1≠0:=by
  rw[← c1];intro z;have:=cZ.mp z;lia
 have p2:((s+1:Nat):Rat)+1≠0:=by
  rw[← c2];intro z;have:=cZ.mp z;lia
 rw[c1,c2];rw[show s+1+1=s+2 from rfl] at *;generalize q H V (s+2)^LP (s+2) (k+1)*q H V (s+2)^(j+2)=L at *;generalize q H V (s+2)=b at *;generalize q H V (s+1)=h1 at *;generalize q G U (s+1)=g at *;generalize ((j+1:Nat):Rat)+1=N at *;generalize ((s+1:Nat):Rat)+1=M at *;generalize q H V 0=c;grind
end Dp
namespace Dp
open PySem L2
theorem yU:∀{A B:List Int},A.map D.int=B.map D.int->A=B
 | [],[],_=>rfl
 | x::A,y::B,h=>by
  injection h with h1 h2;injection h1 with h1;rw[h1,yU h2]
def kK:SpB:=.of 2 (α:=Nat×Nat) (fun (s,k) ds=>ds=[.int s,.int k]/\s<=100/\k<=20) (fun (s,k) d=>d = .int (LP s k:Nat))
def qz:TSd:=(iZ [] (dB bSum bSum.mono (iR (i7 (mY (iS 1)) [2] (gNm 2) jt (iU iW (iR (iS 0) (iR (iS 2) iT)))) iT)))
theorem Gw(s:Nat):∀(k:Nat) (us:List Int),us.length=k->(∀ j,j<k->us.getD j 0=(s:Int)^j)->us.sum=((LP s k:Nat):Int)
 | 0,us,l,_=>by
  rw[dc l];rfl
 | k+1,us,l,h=>by
  have e:us=us.dropLast++[us.getD k 0]:=by
   have ne:us≠[]:=by intro z;rw[z] at l;cases l
   have:=List.dropLast_concat_getLast ne;rw[List.getLast_eq_getElem] at this;rw[ae,au (by lia)];simp only[l,bJ] at this;exact this.symm
  rw[e,List.sum_append,Gw s k us.dropLast (by rw[dR,l];rfl) fun j hj=>by
   rw[← h j (by lia)];conv=>rhs;rw[e]
   rw[ae,ae,bE (by rw[dR];lia)],h k (by lia)]
  show _+((s:Int)^k+0)=((LP s k+s^k:Nat):Int);rw[Int.natCast_add,cR];lia
theorem nE:Does 3 qz kK:=by
 rintro ds Q hn ⟨⟨s,k⟩,⟨rfl,s1,k1⟩,q⟩;dsimp only at s1 k1 q;have lu:(vN 0 ((k:Nat):Int).toNat).length=k:=by rw[uw];lia
 refine⟨by lia,by lia,(congrArg (· <= Pv) lu).mpr (vO (by lia)),nI (fun j=>(s:Int)^j),nI.nil,fun m d ys hd _ hy=>?_,fun ys _ hy=>?_⟩
 ·obtain⟨hm,rfl⟩:=uG hd;rw[aS] at hm;refine⟨rfl,((s:Int),m,7),⟨?_,by unfold Lt2;lia,by show m<=200;lia,by show (7+1)*(m+1)<=400000;lia⟩,?_⟩
  ·show [D.int s,.int (0+(m:Int))]=_;rw[cO]
  rintro _ rfl;exact hy.snoc rfl
 ·have hy:nI _ (vN 0 ((k:Nat):Int).toNat).length ys:=hy;rw[lu] at hy;obtain⟨us,rfl,l,h⟩:=hy;exact⟨us,rfl,q _ (by rw[Gw s k us l h])⟩
def wB(n1 b1 b2 b3:Nat):Nat:=b2+b3+(b3+b1+7+n1+(b2+7))
def wT(n1 b1 n2 b2 n3 b3:Nat):Nat:=n2+n3+b2+b3+(n3+n1+1+b1+(b2+7)+(n2+1+(b3+b1+7+n1))+1)+(b3+b1+7+n1+(b2+7))+1
def j3:SpB:=.of 3 (α:=(List Int×Int×List Int×Int)×D×Rat×(Nat×Nat)×Nat×Nat×Nat×Nat×Nat×Nat) (fun ((R,C,G,U),d,r,(n,s),n1,b1,n2,b2,n3,b3) ds=>ds=[pD R C,pD G U,d]/\FqD n3 b3 d r/\Pc.Pz n1 b1 R C/\R.length=n+1/\1<=n/\n<=100/\Pc.Pz n2 b2 G U/\G.length=s+1/\1<=s/\s<=100/\wB n1 b1 b2 b3<=900000/\wT n1 b1 n2 b2 n3 b3<=1000000)
 (fun ((R,C,G,U),_,r,(n,s),n1,b1,n2,b2,n3,b3) d=>∃ W w,d=pD W w/\Pc.Pz (wT n1 b1 n2 b2 n3 b3) (wB n1 b1 b2 b3) W w/\∀ x,Qp.E W w x=r*Qp.E G U x+wl R C G U n s r)
def oX:TSd:=(iZ [] (iU sf (iR (iU pK (iR (iS 1) (iR (iS 2) iT))) (iR (iU jS (iR (je (iR (iU n8 (iR (iS 5) (iR (iS 6) iT))) iT)) iT)) iT))))
def oY:TSd:=dSq (iY [] (gNm 6) (iU jw (iR (iU ja (iR (iS 1) (iR (iV .Sub (iS 4) (dC (.int 1))) iT))) (iR (jg (iR (iS 4) (iR (dC (.int 1)) iT))) iT))))
 oX
def jP:TSd:=dSq (iY [] (gNm 5) (iU jw (iR (iU jO (iR (iS 2) (iR (iU ja (iR (iS 0) (iR (iV .Sub (iS 3) (dC (.int 1))) iT))) iT))) (iR (iU jO (iR (jg (iR (iS 3) (iR (dC (.int 1)) iT))) (iR (iU lV (iR (iS 0) iT)) iT))) iT))))
 oY
def rh:TSd:=dSq (mZ [] 3 4 (iU jf (iR (iS 0) iT)) (iU jf (iR (iS 1) iT)))
 jP
theorem oe:Does 7 rh j3:=by
 rintro ds Q hn ⟨⟨⟨R,C,G,U⟩,d,r,⟨n,s⟩,n1,b1,n2,b2,n3,b3⟩,⟨rfl,fa,zR,lR,n1',n100,zG,lG,s1,s100,hB,hT⟩,q⟩;dsimp only at fa zR lR n1' n100 zG lG s1 s100 hB hT q;unfold wB at hB;unfold wT at hT;have lead0:Qp.q R C n≠0:=by
  have:=Qp.uS zR.fm (by intro e;rw[e] at lR;simp at lR);rwa [lR] at this
 have ln:Lt2 7 ((n:Nat):Int):=by unfold Lt2;lia
 have ls:Lt2 7 ((s:Nat):Int):=by unfold Lt2;lia
 have n0:((n:Nat):Rat)≠0:=fun z=>by have:=cZ.mp z;lia
 have s0:((s:Nat):Rat)≠0:=fun z=>by have:=cZ.mp z;lia
 refine⟨rfl,(R,C),rfl,?_⟩;rintro _ rfl;refine⟨rfl,(G,U),rfl,?_⟩;rintro _ rfl;suffices h1:jP.run (ux Q) [.val (pD R C),.val (pD G U),.val d,.val (.int n),.val (.int s),.no,.no] by
  show jP.run (ux Q) [.val (pD R C),.val (pD G U),.val d,.val (.int ((R.length:Int)-1)),.val (.int ((G.length:Int)-1)),.no,.no];rw[lR,lG,show ((n+1:Nat):Int)-1=(n:Int) by lia,show ((s+1:Nat):Int)-1=(s:Int) by lia];exact h1
 refine⟨rfl,(R,C,n-1,n1,b1),⟨?_,zR,by show b1<=9000000;lia⟩,?_⟩
 ·show [pD R C,.int ((n:Int)-1)]=[pD R C,.int ((n-1:Nat):Int)];rw[show (n:Int)-1=((n-1:Nat):Int) by lia]
 intro d1 f1;have f1:FqD n1 b1 d1 (Qp.q R C (n-1)):=f1;refine⟨rfl,(d,d1,r,Qp.q R C (n-1),n3,b3,n1,b1),⟨rfl,fa,f1,by lia,by lia⟩,?_⟩;intro d2 f2;have f2:FqD (n3+n1) (b3+b1) d2 (r*Qp.q R C (n-1)):=f2;refine⟨vK,rfl,(R,C,n,n1,b1),⟨rfl,lR,zR,by show b1<=9000000;lia⟩,?_⟩;intro d3 f3;have f3:FqD n1 b1 d3 (Qp.q R C n):=f3;refine⟨rfl,(fD n 1,d3,((n:Int):Rat),Qp.q R C n,7,1,n1,b1),⟨rfl,vx ln,f3,by lia,by lia⟩,?_⟩;intro d4 f4;have f4:FqD (7+n1) (1+b1) d4 (((n:Int):Rat)*Qp.q R C n):=f4;have cn:((n:Int):Rat)=((n:Nat):Rat):=rfl;have cs:((s:Int):Rat)=((s:Nat):Rat):=rfl;refine⟨rfl,(d2,d4,_,_,n3+n1,b3+b1,7+n1,1+b1),⟨rfl,f2,f4,?_,by lia,by lia⟩,?_⟩
 ·intro z;rcases cq.mp z with z|z
  ·exact n0 z
  ·exact lead0 z
 intro d5 f5;have f5:FqD (n3+n1+(1+b1)) (b3+b1+(7+n1)) d5 (r*Qp.q R C (n-1) / (((n:Int):Rat)*Qp.q R C n)):=f5;refine⟨rfl,(G,U,s-1,n2,b2),⟨?_,zG,by show b2<=9000000;lia⟩,?_⟩
 ·show [pD G U,.int ((s:Int)-1)]=[pD G U,.int ((s-1:Nat):Int)];rw[show (s:Int)-1=((s-1:Nat):Int) by lia]
 intro d6 f6;have f6:FqD n2 b2 d6 (Qp.q G U (s-1)):=f6;refine⟨vK,rfl,(d6,fD s 1,Qp.q G U (s-1),((s:Int):Rat),n2,b2,7,1),⟨rfl,f6,vx ls,s0,by lia,by lia⟩,?_⟩;intro d7 f7;have f7:FqD (n2+1) (b2+7) d7 (Qp.q G U (s-1) / ((s:Int):Rat)):=f7;refine fa.elim fun t fa'=>fa'.elim fun u fa''=>?_;obtain⟨rfl,u0,gc,lt,lu,er⟩:=fa'';refine⟨rfl,(G,U,t,u,n2,b2,n3,b3),⟨rfl,zG,u0,lt,lu,by lia,by lia,by lia⟩,?_⟩;rintro _ ⟨S,e,rfl,fS,wS,lS⟩;have wS:∀ k,S.getD k 0*(U*u)=(G.getD k 0*t)*e:=wS;have lS:S.length<=G.length:=lS;have zS:Pc.Pz (n2+n3) (b2+b3) S e:=Pc.Pz.of fS (ay zG.fm.pos u0) wS (fun k=>(zG.tops k).mul lt) (zG.bot.mul lu);refine⟨rfl,(d5,d7,_,_,n3+n1+(1+b1),b3+b1+(7+n1),n2+1,b2+7),⟨rfl,f5,f7,by lia,by lia,by lia⟩,?_⟩;intro d8 f8;have f8:FqD (n3+n1+(1+b1)+(b2+7)+(n2+1+(b3+b1+(7+n1)))+1) (b3+b1+(7+n1)+(b2+7)) d8 (r*Qp.q R C (n-1) / (((n:Int):Rat)*Qp.q R C n)-Qp.q G U (s-1) / ((s:Int):Rat)):=f8;obtain⟨t8,u8,rfl,u80,g8,lt8,lu8,e8⟩:=f8;refine⟨zn,rfl,([(t8,u8)],u8,n3+n1+(1+b1)+(b2+7)+(n2+1+(b3+b1+(7+n1)))+1),⟨rfl,fun f hf=>?_,by show 1<=100;decide,u80,lu8.mono (by lia),by show _<=10000000;lia⟩,?_⟩
 ·rw[aq.mp hf];exact⟨u80,lt8,gw _⟩
 rintro _ ⟨T,v,rfl,fT,wT',lT,vd⟩;have lT:T.length<=1:=lT;have w0:T.getD 0 0*u8=t8*v:=wT' 0;have wk:∀ k,T.getD k 0*u8=([t8]:List Int).getD k 0*v:=fun k=>by
  cases k with
  | zero=>exact w0
  | succ k =>
   rw[uj (by lia),uj (fs:=([t8]:List Int)) (by simp)];simp
 have zT:Pc.Pz (n3+n1+(1+b1)+(b2+7)+(n2+1+(b3+b1+(7+n1)))+1) (b3+b1+(7+n1)+(b2+7)) T v:=Pc.Pz.of fT u80 wk (fun k=>by
  cases k with
  | zero=>exact lt8
  | succ k=>rw[uj (fs:=([t8]:List Int)) (by simp)];exact xB _) lu8
 refine⟨rfl,(S,e,T,v,_,_,_,_),⟨rfl,zS,zT,by lia,by lia,by lia,by lia⟩,?_⟩;rintro _ ⟨W,w,rfl,fW,wW⟩;have wW:∀ k,W.getD k 0*(e*v)=(S.getD k 0*v+T.getD k 0*e)*w:=wW;refine q _ ⟨W,w,rfl,Pc.Pz.of fW (ay fS.pos fT.pos) wW (fun k=>?_) ((zS.bot.mul zT.bot).mono (by unfold wB;lia)),fun x=>?_⟩
 ·have a:=(zS.tops k).mul zT.bot;have b:=(zT.tops k).mul zS.bot;unfold wT;exact ((a.mono (m:=n2+n3+b2+b3+(n3+n1+1+b1+(b2+7)+(n2+1+(b3+b1+7+n1))+1)+(b3+b1+7+n1+(b2+7))) (by lia)).add (b.mono (by lia)))
 ·have eS:Qp.E S e x=r*Qp.E G U x:=by
   have l:=Qp.xU (x:=x) (N:=G.length) fS.pos (ao (ay zG.fm.pos u0)) wS lS;rw[l,show (fun k=>G.getD k 0*t)=(fun k=>Cv.fn G k*t) from rfl,Qp.v0,er];unfold Qp.E;have h1:=Qp.uh zG.fm.pos;have h2:=Qp.uh u0;rw[ri];generalize Qp.ei (Cv.fn G) x G.length=y;grind
  have eT:Qp.E T v x=(t8:Rat) / (u8:Rat):=Qp.yt fT u80 wk x;rw[Qp.B6 fS.pos fT.pos fW.pos wW,eS,eT,← e8];unfold wl;rfl
def aZ(n b l:Nat):Nat->Nat×Nat
 | 0=>(1,1)
 | j+1=>(n+((aZ n b l j).1+(aZ n b l j).2+10)*l+1,b+((aZ n b l j).2*l+1))
theorem It.e(hB:0<B):∀{k:Nat} {R:List Int} {C:Int},Pc.It P B k R C->∀ x,Qp.E R C x=Be (Qp.E P B) k x
 | 0,_,_,⟨rfl,rfl⟩,x=>Qp.Hw x
 | k+1,R,C,⟨S,d,h,o⟩,x=>by
  rw[ym,Qp.wn hB h.fm.pos o,It.e hB h]
theorem It.len(fP:Po.Fm P B)(lP:P.length=s+1)(s1:1<=s)(h:Pc.It P B k R C):R.length=s^k+1:=by
 obtain⟨W,w,fW,lW,eW⟩:=zZ fP lP s1 k;obtain⟨rfl,rfl⟩:=Qp.uQ h.fm fW fun x=>by rw[It.e fP.pos h,eW]
 exact lW
def E5(l k n b c1 c2:Nat):Prop:=∀ j,j<k->c1*b+(aZ n b l j).2*l<=8900000/\n+((aZ n b l j).1+(aZ n b l j).2+10)*(l+1)<=c2/\l*((l-1)^j+1)<=190/\(l-1)^j+1<=190
def mo:SpB:=.of 2 (α:=List Int×Int×Nat×Nat×Nat×Nat) (fun (P,B,s,k,n,b) ds=>ds=[pD P B,.int k]/\Pc.Pz n b P B/\P.length=s+1/\1<=s/\s<=100/\k<=20/\E5 (s+1) k n b 1 90000000) (fun (P,B,s,k,n,b) d=>∃ R C,d=pD R C/\Pc.It P B k R C)
def sG:TSd:=(iZ [] (iS 2))
def sH:TSd:=dSq (jq [] (mY (iS 1)) (gNm 3)
 (iY [] (gNm 2) (iU mH (iR (iS 0) (iR (iS 2) iT)))))
 sG
def tV:TSd:=dSq (iY [] (gNm 2) (iU jS (iR (je (iR (jg (iR (dC (.int 0)) (iR (dC (.int 1)) iT))) (iR (jg (iR (dC (.int 1)) (iR (dC (.int 1)) iT))) iT))) iT)))
 sH
theorem rY:Does 4 tV mo:=by
 rintro ds Q hn ⟨⟨P,B,s,k,n,b⟩,⟨rfl,z,lP,s1,s100,k20,hz⟩,q⟩;dsimp only at z lP s1 s100 k20 hz q;refine⟨vK,vK,vK,rfl,([(0,1),(1,1)],1,1),⟨rfl,fun f hf=>?_,by show 2<=100;decide,by decide,Lt2.mono (n:=1) (by decide) (by decide),by show 1<=10000000;decide⟩,?_⟩
 ·rcases av.mp hf with e|e
  ·rw[e];exact⟨by decide,by decide,by decide⟩
  ·rw[aq.mp e];exact⟨by decide,by decide,by decide⟩
 rintro _ ⟨X,c,rfl,fX,wX,lX,cd⟩;have lX:X.length<=2:=lX;have c1:c=1:=by
  have:=g7 (by decide) cd;have:=fX.pos;lia
 subst c1;obtain⟨rfl,_⟩:=Qp.uQ fX Pc.IZ fun x=>by
  have w0:X.getD 0 0*1=0*1:=wX 0;have w1:X.getD 1 0*1=1*1:=wX 1;rw[Qp.Hw,Qp.Al lX,show X.getD 0 0=0 by lia,show X.getD 1 0=1 by lia];show (0:Rat) / 1+(1:Rat) / 1*x=x;grind
 refine⟨by lia,by lia,fun i st=>∃(o:SD) (R:List Int) (C:Int),st=[.val (pD P B),.val (.int k),.val (pD R C),o]/\Pc.It P B i R C/\Pc.Pz (aZ n b (s+1) i).1 (aZ n b (s+1) i).2 R C,⟨.no,Pc.X,1,rfl,⟨rfl,rfl⟩,Pc.E4⟩,?_,?_⟩
 ·rintro i d _ hd ⟨o,R,C,rfl,it,zR⟩;obtain⟨hi,rfl⟩:=uG hd;rw[aS] at hi;obtain⟨y1,y2,y3,y4⟩:=hz i hi;rw[show s+1-1=s from rfl] at y3 y4;have lR:=It.len z.fm lP s1 it;rw[eK] at y1;refine⟨rfl,(P,B,R,C,n,b,_,_),⟨rfl,z,zR,by rw[lP];exact y1,by rw[lP];exact y2,by rw[lP,lR];exact y3,by rw[lP];lia,by rw[lR];exact y4⟩,?_⟩;rintro _ ⟨R',C',rfl,o'⟩;have o':Pc.Of P B R C R' C':=o';refine⟨_,R',C',rfl,⟨R,C,it,o'⟩,?_⟩;have:=o'.size z zR (by rw[lP,lR];lia);rw[lP] at this;exact this
 ·rintro _ ⟨o,R,C,rfl,it,zR⟩;rw[uw,aS] at it;exact q _ ⟨R,C,rfl,it⟩
def mr:SpB:=.of 2 (α:=List Int×Int×Nat×Nat×Nat×Nat) (fun (P,B,s,k,n,b) ds=>ds=[pD P B,.int k]/\Pc.Pz n b P B/\P.length=s+1/\1<=s/\s<=100/\k<=20/\E5 (s+1) k n b 2 400000) (fun (P,B,s,k,n,b) d=>∃ R C,d=pD R C/\Pc.It P B k R C)
def oZ:TSd:=(iZ [] (iS 2))
def pb:TSd:=dSq (jq [] (mY (iS 1)) (gNm 3)
 (iY [] (gNm 2) (iU kw (iR (iS 0) (iR (iS 2) iT)))))
 oZ
def rj:TSd:=dSq (iY [] (gNm 2) (jg (iR (jg (iR (dC (.int 0)) (iR (dC (.int 1)) iT))) (iR (dC (.int 1)) iT))))
 pb
theorem og:Does 4 rj mr:=by
 rintro ds Q hn ⟨⟨P,B,s,k,n,b⟩,⟨rfl,z,lP,s1,s100,k20,hz⟩,q⟩;dsimp only at z lP s1 s100 k20 hz q;refine⟨vK,vK,by lia,by lia,fun i st=>∃(o:SD) (R:List Int) (C:Int),st=[.val (pD P B),.val (.int k),.val (pD R C),o]/\Pc.It P B i R C/\Pc.Pz (aZ n b (s+1) i).1 (aZ n b (s+1) i).2 R C,⟨.no,Pc.X,1,rfl,⟨rfl,rfl⟩,Pc.E4⟩,?_,?_⟩
 ·rintro i d _ hd ⟨o,R,C,rfl,it,zR⟩;obtain⟨hi,rfl⟩:=uG hd;rw[aS] at hi;obtain⟨y1,y2,y3,y4⟩:=hz i hi;rw[show s+1-1=s from rfl] at y3 y4;have lR:=It.len z.fm lP s1 it;refine⟨rfl,(P,B,R,C,n,b,_,_),⟨rfl,z,zR,by rw[lP];show b+b+_<=_;lia,by rw[lP];exact y2,by rw[lP,lR];exact y3,by rw[lP];lia,by rw[lR];exact y4⟩,?_⟩;rintro _ ⟨R',C',rfl,o'⟩;have o':Pc.Of P B R C R' C':=o';refine⟨_,R',C',rfl,⟨R,C,it,o'⟩,?_⟩;have:=o'.size z zR (by rw[lP,lR];lia);rw[lP] at this;exact this
 ·rintro _ ⟨o,R,C,rfl,it,zR⟩;rw[uw,aS] at it;exact q _ ⟨R,C,rfl,it⟩
end Dp
namespace Dp
open PySem L2 Ch
theorem pD_iff{A A':List Int}:[D.tup (A.map D.int),.int B]=[D.tup (A'.map D.int),.int B']↔A=A'/\B=B':=⟨fun e=>by
  injection e with e1 e2;injection e2 with e2 _;injection e1 with e1;injection e2 with e2;exact⟨yU e1,e2⟩,fun⟨a,b⟩=>by rw[a,b]⟩
theorem Gv:∀{ys:List D} {Φ:Nat->Pl->Prop},(∀ i y,ys[i]? = some y->∃ p,y=pq p/\Φ i p)->∃ ps:List Pl,ys=ps.map pq/\∀ i p,ps[i]? = some p->Φ i p
 | [],_,_=>⟨[],rfl,fun i p h=>by cases h⟩
 | y::ys,Φ,h=>by
  obtain⟨p,rfl,hp⟩:=h 0 y rfl;obtain⟨ps,rfl,hps⟩:=Gv (ys:=ys) (Φ:=fun i=>Φ (i+1)) fun i y hy=>h (i+1) y hy;refine⟨p::ps,rfl,fun i q hq=>?_⟩;cases i with
  | zero=>cases hq;exact hp
  | succ i=>exact hps i q hq
theorem HG(h:Rt.RtV t b k fs)(k1:1<=k)(b0:0<b):fs.Pairwise fun f g=>((f.1:Rat) / (f.2:Rat))<((g.1:Rat) / (g.2:Rat)):=by
 obtain⟨o,u,ho,hu,rfl⟩:=h;split
 ·exact .nil
 rename_i c;split
 ·exact gY _ _
 split
 ·rename_i c2;have u0:0<u:=by
   rcases iL hu.pos with y|y
   ·exact y
   ·exfalso;apply c;refine .inr (.inr ?_);rw[← y,Int.zero_pow (by lia)];lia
  refine List.pairwise_pair.mpr ?_;show ((-o:Int):Rat) / (u:Rat)<(o:Rat) / (u:Rat);have hu':(0:Rat)<(u:Rat):=Rat.intCast_pos.mpr u0;have ho':(0:Rat)<(o:Rat):=Rat.intCast_pos.mpr c2.2;have e:((-o:Int):Rat) = -(o:Rat):=dW o;rw[e];have hd:(0:Rat)<(o:Rat) / (u:Rat):=by
   rw[Rat.div_def];exact Rat.mul_pos ho' (Rat.inv_pos.mpr hu')
  have e2 : -(o:Rat) / (u:Rat) = -((o:Rat) / (u:Rat)):=by grind
  rw[e2];generalize (o:Rat) / (u:Rat)=z at *;grind
 ·exact gY _ _
theorem Iu(fW:Po.Fm W w)(fG:Po.Fm G U)(lG:G.length=s+1)(s1:1<=s)(r0:r≠0)(e:∀ x,Qp.E W w x=r*Qp.E G U x+c):W.length=s+1/\Qp.q W w s=r*Qp.q G U s:=by
 obtain⟨S,d,fS,eS,lS⟩:=Ap.Pl'.const c;have ql:=Ap.vn (u:=r) fW fG fS (fun x=>by rw[e,eS]);have qs:Qp.q W w s=r*Qp.q G U s:=by
  rw[ql,Qp.uK (P:=S) (by lia)];grind
 refine⟨?_,qs⟩;obtain⟨p,fp,ep,_,lp⟩:=Ap.Gx (p:=(G,U)) fG c r0;obtain⟨rfl,rfl⟩:=Qp.uQ fW fp fun x=>by rw[e,ep]
 have lp:p.1.length<=max 1 G.length:=lp;rcases ar s p.1.length with y|y
 ·lia
 ·rw[Qp.uK y] at qs;have g0:=Qp.uS fG (by intro e;rw[e] at lG;simp at lG);rw[lG] at g0;rcases cq.mp qs.symm with z|z
  ·exact absurd z r0
  ·exact absurd z g0
def Nu(P:List Int)(B:Int)(k:Nat)(hs:List Pl):Prop:=(∀ h:Pl,h∈hs↔Ag P B k h.1 h.2)/\hs.Pairwise fun h h'=>ld h<ld h'
def Shp(s k:Nat):Prop:=(s=2/\k=2)\/(s=2/\k=3)\/(s=2/\k=4)\/(s=3/\k=2)\/(s=4/\k=2)
theorem J9(h:s^k=n)(n2:2<=n)(n16:n<=16)(k2:2<=k)(k4:k<=4):Shp s k:=by
 have s4:s<=4:=by
  rcases ar 4 s with y|y
  ·have h1:5^2<=s^2:=iE y 2;have h2:s^2<=s^k:=bO (by lia) k2;lia
  ·exact y
 have:∀ s∈P5 5,∀ k∈P5 5,2<=k->2<=s^k->s^k<=16->(s=2/\k=2)\/(s=2/\k=3)\/(s=2/\k=4)\/(s=3/\k=2)\/(s=4/\k=2):=by decide +kernel
 exact this s (dM.mpr (by lia)) k (dM.mpr (by lia)) k2 (by lia) (by lia)
def nR(s m:Nat):Nat:=tB 600 600 600 m s
def bR(s m:Nat):Nat:=zB 600 600 m s
def bG(s m:Nat):Nat:=bU 600 m s
def nG(s m:Nat):Nat:=bG s m+gW 600 600 (m*s)*s
def nW(s m:Nat):Nat:=wT (nR s m) (bR s m) (nG s m) (bG s m) 600 600
def bW(s m:Nat):Nat:=wB (nR s m) (bR s m) (bG s m) 600
structure ShS (s k:Nat):Prop where
 s2:2<=s
 s4:s<=4
 k2:2<=k
 k4:k<=4
 m1:2<=s^(k-1)
 m15:s^(k-1)<=15
 mm:s^(k-1)*s=s^k
 sz:LR 600 600 600 (s^(k-1)*s)
 e1:1<=LP s k
 e15:LP s k<=15
 w1:wB (nR s (s^(k-1))) (bR s (s^(k-1))) (bG s (s^(k-1))) 600<=900000
 w2:wT (nR s (s^(k-1))) (bR s (s^(k-1))) (nG s (s^(k-1))) (bG s (s^(k-1))) 600 600<=1000000
 ag:∀ j,j<k->1*bW s (s^(k-1))+(aZ (nW s (s^(k-1))) (bW s (s^(k-1))) (s+1) j).2*(s+1)<=8900000/\nW s (s^(k-1))+((aZ (nW s (s^(k-1))) (bW s (s^(k-1))) (s+1) j).1+(aZ (nW s (s^(k-1))) (bW s (s^(k-1))) (s+1) j).2+10)*(s+1+1)<=90000000/\(s+1)*((s+1-1)^j+1)<=190/\(s+1-1)^j+1<=190
theorem Shp.s{s k:Nat}(h:Shp s k):ShS s k:=by
 rcases h with⟨rfl,rfl⟩|⟨rfl,rfl⟩|⟨rfl,rfl⟩|⟨rfl,rfl⟩|⟨rfl,rfl⟩;all_goals exact⟨by decide,by decide,by decide,by decide,by decide,by decide,by decide,by unfold LR;decide,by decide,by decide,by decide +kernel,by decide +kernel,by decide +kernel⟩
def jh:SpB:=.of 2 (α:=List Int×Int×Nat×Nat) (fun (P,B,n,k) ds=>ds=[pD P B,.int k]/\Pc.Pz 600 600 P B/\P.length=n+1/\2<=n/\n<=16/\2<=k/\k<=4) (fun (P,B,n,k) d=>∃ hs:List Pl,d = .lst (hs.map pq)/\Nu P B k hs/\∀ w∈hs,∃ s:Nat,s^k=n/\w.1.length=s+1/\Pc.Pz (nW s (s^(k-1))) (bW s (s^(k-1))) w.1 w.2)
def jC:TSd:=(iZ [] (i7 (jd (iS 6)) [8] (gNm 8) (i5 (i6 .Eq (iU mo (iR (iS 8) (iR (iS 1) iT))) (iS 0))) (iS 8)))
def nF:TSd:=dSq (iY [] (gNm 6) (i7 (jd (iU rb (iR (iU lV (iR (iS 0) iT)) (iR (iU kK (iR (iS 2) (iR (iS 1) iT))) iT)))) [7] (gNm 7) jt (iU j3 (iR (iS 4) (iR (iS 5) (iR (iS 7) iT))))))
 jC
def nH:TSd:=dSq (dIf [] (i5 (i6 .Eq (iS 3) (dC (.str "barred"))))
 (iZ [] (je iT))
 i8)
 nF
def nJ:TSd:=dSq (iY [] (gTp [3,4,5]) (iU j2 (iR (iS 0) (iR (iS 2) iT))))
 nH
def nK:TSd:=dSq (dIf [] (i5 (i6 .NotEq (iU iW (iR (iS 2) (iR (iS 1) iT))) (iU jf (iR (iS 0) iT))))
 (iZ [] (je iT))
 i8)
 nJ
def pd:TSd:=dSq (iY [] (gNm 2) (iU jy (iR (iU jf (iR (iS 0) iT)) (iR (iS 1) iT))))
 nK
open Classical in
theorem IY{ws:List Pl}(fP:Po.Fm P B)(hS:ShS s k)(lw:ws.length<=2)(hw:∀ w∈ws,Pc.Pz (nW s (s^(k-1))) (bW s (s^(k-1))) w.1 w.2/\w.1.length=s+1)(q:Q (.lst ((ws.filter fun w=>decide (Ag P B k w.1 w.2)).map pq))) :
  jC.run (ux Q) [.val (pD P B),.val (.int (k:Nat)),.val (.int (s:Nat)),.val d3,.val d4,.val d5,.val (.lst (ws.map pq)),o7,o8]:=by
 have h1:=hS.s2;have h2:=hS.s4;have h3:=hS.k4;refine⟨(congrArg (· <= Pv) (aa _)).mpr (vO (by lia)),fun i ys=>ys=((ws.take i).filter fun w=>decide (Ag P B k w.1 w.2)).map pq,rfl,fun i d ys hd _ hy=>?_,fun ys _ hy=>?_⟩
 ·rw[aM] at hd;obtain⟨w,hi,rfl⟩:=ab.mp hd;obtain⟨zw,lw'⟩:=hw w (aO hi);refine⟨rfl,(w.1,w.2,s,k,_,_),⟨rfl,zw,lw',by show 1<=s;lia,by show s<=100;lia,by show k<=20;lia,hS.ag⟩,?_⟩;rintro _ ⟨R,C,rfl,it⟩;have it:Pc.It w.1 w.2 k R C:=it;refine⟨yP _ _,yP _ _,Gb _ _,fun kk hk=>?_⟩;have hk:=hk.trans (pD_iff (A:=R) (A':=P) (B:=C) (B':=B));have key:Ag P B k w.1 w.2↔R=P/\C=B:=by
   constructor
   ·rintro⟨_,e⟩;exact Qp.uQ it.fm fP fun x=>by rw[It.e zw.fm.pos it,e]
   ·rintro⟨rfl,rfl⟩;exact⟨zw.fm,fun x=>(It.e zw.fm.pos it x).symm⟩
  have T0:((ws.take (i+1)).filter fun w=>decide (Ag P B k w.1 w.2)).map pq=((ws.take i).filter fun w=>decide (Ag P B k w.1 w.2)).map pq++(([w]:List Pl).filter fun w=>decide (Ag P B k w.1 w.2)).map pq:=by
   rw[ga,hi,fU,bw];rfl
  subst hy;cases kk with
  | true =>
   have a:=key.mpr (hk.mp rfl);rw[gZ (by simpa using a)] at T0;exact T0.symm
  | false =>
   have a:¬ Ag P B k w.1 w.2:=fun z=>by have:false=true:=hk.mpr (key.mp z);cases this
   rw[g6 (by simpa using a)] at T0;exact (T0.trans (cP _)).symm
 ·rw[aa,b9] at hy;subst hy;exact q
end Dp
namespace Dp
open PySem L2 Ch
theorem yM{s t k:Nat}(k1:1<=k)(h:s^k=t^k):s=t:=by
 rcases iN s t with y|y|y
 ·have:=iD y (show k≠0 by lia);lia
 ·exact y
 ·have:=iD y (show k≠0 by lia);lia
theorem Ii{B:Int}{n k s:Nat}(fP:Po.Fm P B)(lP:P.length=n+1)(n2:2<=n)(k2:2<=k)(h:Rt.Is (n:Int) k (s:Int))(c:(s:Int)^k≠(n:Int))(H:Pl):¬ Ag P B k H.1 H.2:=fun a=>by
 obtain⟨t,z⟩:=Ba fP lP (by lia) a;rcases z with⟨lt,et⟩|z
 ·have h1:=h.most (t:Int) (by lia) (by rw[← cR,et];exact dH _);have h2:=h.le;rw[← cR] at h2 c;have h3:t^k<=s^k:=iE (by lia) k;apply c;lia
 ·lia
theorem IX{P G R:List Int}{B U C t u:Int}{n k s:Nat}{fs:List (Int×Int)}{ws:List Pl}(fP:Po.Fm P B)(hS:ShS s k)(en:s^k=n)(lP:P.length=n+1)(cG:Cn P (s^(k-1)) s G U)(mon:G.getD s 0=U)(fR:Po.Fm R C)(eR:∀ x,Qp.E P B x=Qp.E R C (Qp.E G U x))(u0:0<u)(gc:PV t u=1)(el:Qp.q P B n=(t:Rat) / (u:Rat))(hr:Rt.RtV t u (LP s k) fs)(ll:ws.length=fs.length)
  (hw:∀(i:Nat) (w:Pl),ws[i]? = some w->∃ f:Int×Int,fs[i]? = some f/\Po.Fm w.1 w.2/\∀ x,Qp.E w.1 w.2 x=((f.1:Rat) / (f.2:Rat))*Qp.E G U x+wl R C G U (s^(k-1)) s ((f.1:Rat) / (f.2:Rat))):(∀ w∈ws,w.1.length=s+1)/\(∀ h:Pl,Ag P B k h.1 h.2->h∈ws)/\ws.Pairwise fun h h'=>ld h<ld h':=by
 have s2:=hS.s2;have k2:=hS.k2;have e1:=hS.e1;obtain⟨fG,lG,cG'⟩:=cG;have U0:=Qp.uh fG.pos;have qG:Qp.q G U s=1:=by
  unfold Qp.q;rw[mon];grind
 have lead0:Qp.q P B n≠0:=by
  have:=Qp.uS fP (by intro e;rw[e] at lP;simp at lP);rwa [lP] at this
 have fne:∀ f∈fs,((f.1:Rat) / (f.2:Rat))≠0:=fun f hf z=>by
  have:=(Bq hr e1 u0 gc hf).2.2;rw[z,← el] at this;obtain⟨j,hj⟩:∃ j,LP s k=j+1:=⟨LP s k-1,by lia⟩;rw[hj,bc,Rat.mul_zero] at this;exact lead0 this.symm
 have each:∀(i:Nat) (w:Pl),ws[i]? = some w->∃ f:Int×Int,fs[i]? = some f/\w.1.length=s+1/\ld w=(f.1:Rat) / (f.2:Rat):=fun i w h=>by
  obtain⟨f,hf,fw,ew⟩:=hw i w h;obtain⟨a,b⟩:=Iu fw fG lG (by lia) (fne f (aO hf)) ew;refine⟨f,hf,a,?_⟩;unfold ld;rw[a,show s+1-1=s from rfl,b,qG,iu]
 refine⟨fun w h=>?_,fun h a=>?_,?_⟩
 ·obtain⟨i,hi⟩:=bV.mp h;exact (each i w hi).choose_spec.2.1
 ·obtain⟨H,V⟩:=h;have a:Ag P B k H V:=a;obtain⟨t',z⟩:=Ba fP lP (by have:=bg (n:=k) (show 0<s by lia);lia) a;rcases z with⟨lt,et⟩|z
  ·have ts:t'=s:=yM (k:=k) (by lia) (by rw[et,en]);subst ts;obtain⟨s',rfl⟩:∃ s',t'=s'+2:=⟨t'-2,by lia⟩;obtain⟨k',rfl⟩:∃ k',k=k'+2:=⟨k-2,by lia⟩;have lead:=Bb fP lt a;rw[en,el] at lead;have nd:(((Qp.q H V (s'+2)).num:Int):Rat) / (((Qp.q H V (s'+2)).den:Int):Rat)=Qp.q H V (s'+2):=by
    have:=fY (Qp.q H V (s'+2));rw[gg] at this;exact this
   have mem:=yK hr e1 u0 gc (x:=(Qp.q H V (s'+2)).num) (y:=((Qp.q H V (s'+2)).den:Int)) (by have:=(Qp.q H V (s'+2)).den_pos;lia) (by rw[PV];exact (Qp.q H V (s'+2)).reduced) (by
    rw[nd,lead])
   obtain⟨i,hi⟩:=bV.mp mem;have il:i<ws.length:=by rw[ll];exact (aj.mp hi).1
   obtain⟨f,hf,fw,ew⟩:=hw i _ (au il);rw[hi] at hf;cases hf;simp only[nd] at ew;have is:=(B4 (R:=R) (C:=C) (en:=rfl) fP (by have:=hS.mm;rw[show k'+2-1=k'+1 from rfl] at this;rw[this,en];exact lP) lt a ⟨fG,lG,cG'⟩).2 fR eR;obtain⟨x1,x2⟩:=Qp.uQ a.1 fw fun x=>by rw[is,ew];rfl
   have:(H,V)=ws[i]:=Prod.ext x1 x2;rw[this];exact gA il
  ·lia
 ·refine gR.mpr fun i j hi hj ij=>?_;obtain⟨f,hf,_,e⟩:=each i _ (au hi);obtain⟨g,hg,_,e'⟩:=each j _ (au hj);rw[e,e'];have r:=gR.mp (HG hr e1 u0) i j (by lia) (by lia) ij;rw[(aj.mp hf).2,(aj.mp hg).2] at r;exact r
open Classical in
theorem mL:Does 9 pd jh:=by
 rintro ds Q hn ⟨⟨P,B,n,k⟩,⟨rfl,z,lP,n2,n16,k2,k4⟩,q⟩;dsimp only at z lP n2 n16 k2 k4 q;refine⟨rfl,(P,B),rfl,?_⟩;rintro _ rfl;refine⟨rfl,((n:Int),k),⟨?_,by show (0:Int)<=n;lia,(Ir (by lia) (by lia)).mono (by decide),by show 1<=k;lia,by show k<=15;lia⟩,?_⟩
 ·show [D.int ((P.length:Int)-1),.int k]=[D.int (n:Int),.int k];rw[lP,show ((n+1:Nat):Int)-1=(n:Int) by lia]
 rintro _ ⟨r,rfl,hr⟩;have hr:Rt.Is (n:Int) k r:=hr;obtain⟨s,rfl⟩:∃ s:Nat,r=(s:Int):=⟨r.toNat,by have:=hr.pos;lia⟩;have s16:s<=16:=by
  have h1:=hr.self (by lia) (by lia);lia
 refine⟨rfl,((s:Int),k,7),⟨rfl,by unfold Lt2;lia,by show k<=200;lia,by show (7+1)*(k+1)<=400000;lia⟩,?_⟩;rintro _ rfl;refine⟨rfl,(P,B),rfl,?_⟩;rintro _ rfl;have eln:(P.length:Int)-1=(n:Int):=by lia
 refine Nz (p:=(s:Int)^k=(P.length:Int)-1) (fun c=>?_) (fun c=>?_)
 ·rw[eln] at c;exact⟨aE _,q _ ⟨[],rfl,⟨fun h=>⟨fun x=>absurd x bf,fun a=>absurd a (Ii z.fm lP n2 k2 hr c h)⟩,.nil⟩,fun w h=>absurd h bf⟩⟩
 rw[eln] at c;have en:s^k=n:=by
  rw[← cR] at c;lia
 have hS:=(J9 en n2 n16 k2 k4).s;have s2:=hS.s2;have s4:=hS.s4;have mm:=hS.mm;have hm:=hS.m1;have ln:P.length=s^(k-1)*s+1:=by rw[mm,en];exact lP
 refine⟨rfl,(P,B,s^(k-1),s,600,600,600),⟨rfl,z,ln,by show 1<=s^(k-1);lia,by show 1<=s;lia,by rw[mm,en];exact n16,hS.m15,z.tops _,hS.sz⟩,?_⟩;rintro _ ⟨G,U,Ps,ap,wG,lU,h0⟩;have ap':=ap;obtain⟨cG,_,_,hz,ed⟩:=ap';have cG':=cG;obtain⟨fG,lG,cG''⟩:=cG';obtain⟨mon,G0⟩:=v8 cG'' (show 1<=s by lia);have mon:G.getD s 0=U:=mon;rcases h0 with⟨i,p,rfl,hi,hp,hf⟩|⟨R,C,rfl,zR,one,lR,eR⟩
 ·refine⟨rfl,?_⟩;refine⟨aE _,q _ ⟨[],rfl,⟨fun h=>⟨fun x=>absurd x bf,fun a=>?_⟩,.nil⟩,fun w h=>absurd h bf⟩⟩;exfalso;obtain⟨H,V⟩:=h;have a:Ag P B k H V:=a;obtain⟨t',zz⟩:=Ba z.fm lP (by lia) a;rcases zz with⟨lt,et⟩|zz
  ·have ts:t'=s:=yM (k:=k) (by lia) (by rw[et,en]);subst ts;obtain⟨s',rfl⟩:∃ s',t'=s'+2:=⟨t'-2,by lia⟩;obtain⟨k',rfl⟩:∃ k',k=k'+2:=⟨k-2,by lia⟩;have o:=(B4 (R:=[]) (C:=1) (en:=rfl) z.fm ln lt a cG).1;exact Ig fG lG (by lia) hz ed hi hp o
  ·lia
 ·have eR':∀ x,Qp.E P B x=Qp.E R C (Qp.E G U x):=fun x=>by rw[ed,eR]
  have lR':=DK (s:=s) (by lia) z.fm ln fG lG zR.fm eR';refine⟨rfl,?_⟩;refine⟨rfl,(P,B,n,600,600),⟨rfl,lP,z,by decide⟩,?_⟩;rintro _ ⟨t,u,rfl,u0,gc,lt,lu,el⟩;refine⟨rfl,(s,k),⟨rfl,by show s<=100;lia,by show k<=20;lia⟩,?_⟩;rintro _ rfl;refine⟨rfl,(t,u,LP s k),⟨rfl,u0,gc,lt.mono (by decide),lu.mono (by decide),hS.e1,hS.e15⟩,?_⟩;rintro _ ⟨fs,rfl,rv⟩;have rv:Rt.RtV t u (LP s k) fs:=rv;have lf:=rv.len;have zG:Pc.Pz (nG s (s^(k-1))) (bG s (s^(k-1))) G U:=wG.pz fG lG lU;suffices h4:compD (Hu fs) [.val (pD P B),.val (.int k),.val (.int s),.val (.str "made"),.val (pD R C),.val (pD G U),.no,.no,.no] (gNm 7) jt (iU j3 (iR (iS 4) (iR (iS 5) (iR (iS 7) iT)))) (fun d=>jC.run (ux Q) [.val (pD P B),.val (.int k),.val (.int s),.val (.str "made"),.val (pD R C),.val (pD G U),.val d,.no,.no]) from h4;refine v6 (fun i y=>∃(f:Int×Int) (w:Pl),fs[i]? = some f/\y=pq w/\Pc.Pz (nW s (s^(k-1))) (bW s (s^(k-1))) w.1 w.2/\∀ x,Qp.E w.1 w.2 x=((f.1:Rat) / (f.2:Rat))*Qp.E G U x+wl R C G U (s^(k-1)) s ((f.1:Rat) / (f.2:Rat))) (show (Hu fs).length<=16777216 by rw[aa];lia) (fun i d hd=>?_) (fun ys ly hy=>?_)
  ·obtain⟨f,hf,rfl⟩:=A6 hd;obtain⟨f0,fg,fe⟩:=Bq rv hS.e1 u0 gc (aO hf);have sm:=rv.root f (aO hf);refine⟨rfl,((R,C,G,U),fD f.1 f.2,(f.1:Rat) / (f.2:Rat),(s^(k-1),s),nR s (s^(k-1)),bR s (s^(k-1)),nG s (s^(k-1)),bG s (s^(k-1)),600,600),⟨rfl,⟨f.1,f.2,rfl,f0,fg,?_,?_,rfl⟩,zR,lR',by show 1<=s^(k-1);lia,by have:=hS.m15;show s^(k-1)<=100;lia,zG,lG,by show 1<=s;lia,by show s<=100;lia,hS.w1,hS.w2⟩,?_⟩
   ·refine lt.le ?_;rw[← sm.1,cJ];exact Nat.le_self_pow (by have:=hS.e1;lia) _
   ·refine lu.le ?_;rw[← sm.2.1,cJ];exact Nat.le_self_pow (by have:=hS.e1;lia) _
   ·rintro _ ⟨W,w,rfl,zW,eW⟩;exact⟨f,(W,w),hf,rfl,zW,eW⟩
  ·obtain⟨ws,rfl,hw⟩:=Gv (Φ:=fun i w=>∃ f:Int×Int,fs[i]? = some f/\Pc.Pz (nW s (s^(k-1))) (bW s (s^(k-1))) w.1 w.2/\∀ x,Qp.E w.1 w.2 x=((f.1:Rat) / (f.2:Rat))*Qp.E G U x+wl R C G U (s^(k-1)) s ((f.1:Rat) / (f.2:Rat))) fun i y h=>by
    obtain⟨f,w,h1,h2,h3,h4⟩:=hy i y h;exact⟨w,h2,f,h1,h3,h4⟩
   rw[aa,aa] at ly;obtain⟨m1,m2,m3⟩:=IX z.fm hS en lP cG mon zR.fm eR' u0 gc el rv ly fun i w h=>by
    obtain⟨f,h1,h2,h3⟩:=hw i w h;exact⟨f,h1,h2.fm,h3⟩
   refine IY z.fm hS (by lia) (fun w h=>?_) (q _ ⟨_,rfl,⟨fun h=>?_,m3.filter _⟩,fun w h=>?_⟩)
   ·obtain⟨i,hi⟩:=bV.mp h;obtain⟨f,h1,h2,h3⟩:=hw i w hi;exact⟨h2,m1 w h⟩
   ·rw[ce];exact⟨fun x=>of_decide_eq_true x.2,fun a=>⟨m2 h a,decide_eq_true a⟩⟩
   ·have h:=(ce.mp h).1;obtain⟨i,hi⟩:=bV.mp h;obtain⟨f,h1,h2,h3⟩:=hw i w hi;exact⟨s,en,m1 w h,h2⟩
end Dp
namespace Dp
open PySem L2 Ch Qp
theorem x8(r:Rat):((r.num:Int):Rat) / ((r.den:Int):Rat)=r:=by
 have:=fY r;rw[gg] at this;exact this
theorem Kz{x y:Rat}{e:Nat}(e1:1<=e)(h:x^e=y^e):x=y\/(x = -y/\e%2=0):=by
 have d0:0<((x^e).den:Int):=by have:=(x^e).den_pos;lia
 have gc:PV (x^e).num ((x^e).den:Int)=1:=by rw[PV];exact (x^e).reduced
 obtain⟨o,ho⟩:=Rt.has (n:=(((x^e).num.natAbs:Nat):Int)) e1 (by lia);obtain⟨u,hu⟩:=Rt.has (n:=((x^e).den:Int)) e1 (by lia);obtain⟨fs,hf⟩:∃ fs,Rt.RtV (x^e).num ((x^e).den:Int) e fs:=⟨_,o,u,ho,hu,rfl⟩;have mx:=yK hf e1 d0 gc (x:=x.num) (y:=(x.den:Int)) (by have:=x.den_pos;lia) (by rw[PV];exact x.reduced) (by rw[x8,x8]);have my:=yK hf e1 d0 gc (x:=y.num) (y:=(y.den:Int)) (by have:=y.den_pos;lia) (by rw[PV];exact y.reduced) (by rw[x8,x8,h]);obtain⟨o',u',_,_,rfl⟩:=hf;have fin:∀ p:Int×Int,(x.num,(x.den:Int))=p->(y.num,(y.den:Int))=p->x=y:=fun p h1 h2=>by
  rw[← x8 x,← x8 y];have:=h1.trans h2.symm;injection this with a b;rw[a,b]
 split at mx
 ·cases mx
 rename_i c;rw[QJ c] at my;split at mx
 ·rename_i ct;rw[QI ct] at my;exact .inl (fin _ (aq.mp mx) (aq.mp my))
 rename_i ct;rw[QJ ct] at my;split at mx
 ·rename_i c2;rw[QI c2] at my;have neg:∀ a b:Rat,((a.num,(a.den:Int))=(-o',u'))->((b.num,(b.den:Int))=(o',u'))->a = -b:=fun a b h1 h2=>by
   rw[← x8 a,← x8 b];injection h1 with a1 a2;injection h2 with b1 b2;rw[a1,a2,b1,b2,dW];grind
  rcases av.mp mx with z|z
  ·rcases av.mp my with w|w
   ·exact .inl (fin _ z w)
   ·exact .inr ⟨neg _ _ z (aq.mp w),c2.1⟩
  ·rcases av.mp my with w|w
   ·refine .inr ⟨?_,c2.1⟩;have:=neg _ _ w (aq.mp z);rw[this];grind
   ·exact .inl (fin _ (aq.mp z) (aq.mp w))
 ·rename_i c2;rw[QJ c2] at my;exact .inl (fin _ (aq.mp mx) (aq.mp my))
theorem LB{P H H':List Int}{B V V':Int}{k s:Nat}(fP:Po.Fm P B)(lH:H.length=s+3)(lH':H'.length=s+3)(h:Ag P B (k+2) H V)(h':Ag P B (k+2) H' V'):(q H' V' (s+2)=q H V (s+2)/\H'=H/\V'=V)\/((LP (s+2) (k+2))%2=0/\∃ c,∀ x,E H' V' x=c-E H V x):=by
 have l1:P.length=(s+2)^(k+2)+1:=by
  obtain⟨W,w,fW,lW,eW⟩:=zZ h.1 (s:=s+2) lH (by omega) (k+2);obtain⟨rfl,_⟩:=uQ fP fW fun x=>by rw[← h.2,eW]
  exact lW
 obtain⟨n,hn⟩:∃ n,n=(s+2)^(k+1):=⟨_,rfl⟩;have l2:P.length=n*(s+2)+1:=by rw[l1,hn,← dg]
 have n1:1<=n:=by rw[hn];exact bg (by omega)
 obtain⟨G,U,cG⟩:=JO (P:=P) (k:=n) (s:=s+2) n1 (by omega) (uB fP l2);obtain⟨R,C,fR,eR⟩:=(B4 (R:=[]) (C:=1) hn fP l2 lH h cG).1;have i1:=(B4 (R:=R) (C:=C) hn fP l2 lH h cG).2 fR eR;have i2:=(B4 (R:=R) (C:=C) hn fP l2 lH' h' cG).2 fR eR;have a1:=Bb fP lH h;have a2:=Bb fP lH' h';have e1:1<=LP (s+2) (k+2):=by
  show 1<=LP (s+2) (k+1)+(s+2)^(k+1);have:=bg (n:=k+1) (show 0<s+2 by omega);omega
 rcases Kz (x:=q H' V' (s+2)) (y:=q H V (s+2)) e1 (by rw[← a1,← a2]) with z|⟨z,ev⟩
 ·exact .inl ⟨z,uQ h'.1 h.1 fun x=>by rw[i2,i1,z]⟩
 ·refine .inr ⟨ev,wl R C G U n (s+2) (q H' V' (s+2))+wl R C G U n (s+2) (q H V (s+2)),fun x=>?_⟩;rw[i2,i1,z];grind
theorem LD{P H H':List Int}{B V V':Int}(fP:Po.Fm P B)(lH:H.length=4)(h:Ag P B 2 H V)(h':Ag P B 2 H' V'){c:Rat}(e:∀ x,E H' V' x=c-E H V x):c = -(2*q H V 2) / (3*q H V 3):=by
 have fH:=h.1;have q3:q H V 3≠0:=by
  have:=uS fH (by intro e;rw[e] at lH;simp at lH);rwa [lH] at this
 have key:∀ x,c-E H V (c-E H V x)=E H V (E H V x):=fun x=>by
  have a:E H V (E H V x)=E P B x:=h.2 x;have b:E H' V' (E H' V' x)=E P B x:=h'.2 x;rw[a,← b,e,e]
 have mu:=Mu.of fH (m:=2) lH;obtain⟨T,t,fT,lT,_,q1,eT⟩:=Dn (-1) c (by decide);obtain⟨S,d,o⟩:=vt fH fT;obtain⟨S',d',o'⟩:=vt fT o.1;have eS:∀ y,E S d y=E H V (-1*y+c):=fun y=>by rw[wn fH.pos fT.pos o,eT]
 have eS':∀ y,E S' d' y=c-E H V (-1*y+c):=fun y=>by
  rw[wn fT.pos o.1.pos o',eT,eS];grind
 obtain⟨rfl,rfl⟩:=xl (s:=3) fH lH (by decide) o'.1 fH fun x=>by
  rw[eS',← key x];congr 2;grind
 have ml:=(mu.lin (c:=-1) (d:=c) (by decide)).congr fun y=>(eS y).symm;obtain⟨g1,g2⟩:=ml.get o.1;have ql:q S' d' 2 = -1*q S d 2:=by
  obtain⟨W,w,fW,eW,lW⟩:=Ap.Pl'.const c;have:=Ap.vn (u:=-1) o'.1 o.1 fW (fun x=>by rw[eS',eS,eW];grind) 2;rw[uK (P:=W) (by lia)] at this;rw[this];grind
 rw[g2] at ql;have c2:((2:Nat):Rat)+1=3:=by
  rw[show ((2:Nat):Rat)=(2:Rat) from rfl];grind
 rw[c2] at ql;have c3:(-1:Rat)^(1+2) = -1:=by grind
 rw[c3] at ql;generalize q S' d' (2+1)=a at *;generalize q S' d' 3=a at *;generalize q S' d' 2=b at *;grind
end Dp
namespace Dp
open PySem L2 Ch
theorem J7(h:Pc.Of L v S d O o)(len:L.length=2)(zL:Pc.Pz nl vl L v)(zS:Pc.Pz n b S d):Pc.Pz (nl+max n b+1) (vl+b) O o:=by
 have d0:=zS.fm.pos;refine Pc.Pz.of (c:=v*d) (f:=fun k=>L.getD 0 0*Pc.d0 k*d+L.getD 1 0*S.getD k 0) h.1 (ay zL.fm.pos d0) (fun k=>?_) (fun k=>?_) (zL.bot.mul zS.bot)
 ·have e:=h.2 k;have e1:Pc.cp (Cv.fn S) 1 k=S.getD k 0:=Pc.y6 (Cv.fn S) k;rw[len] at e;have e:O.getD k 0*(v*d^2)=((0+L.getD 0 0*Pc.d0 k)*d+L.getD 1 0*Pc.cp (Cv.fn S) 1 k)*d*o:=e;rw[e1] at e;refine aK (ao d0) ?_;rw[show O.getD k 0*(v*d)*d=O.getD k 0*(v*d^2) by grind,e];grind
 ·have l0:Lt2 nl (L.getD 0 0*Pc.d0 k):=by
   unfold Pc.d0;split
   ·rw[bq];exact zL.tops 0
   ·rw[bD];exact xB _
  exact ((l0.mul zS.bot).mono (m:=nl+max n b) (by lia)).add (((zL.tops 1).mul (zS.tops k)).mono (by lia))
def aW(l:Nat):Nat->Nat
 | 0=>2
 | j+1=>2+(aW l j+1+10)*l+1
theorem BG(z:Pc.Pz 2 1 H 1)(l5:H.length<=5)(lH:H.length=s+1)(s1:1<=s):∀{j:Nat} {R:List Int} {C:Int},s^(j+1)<=16->Pc.It H 1 (j+1) R C->Pc.Pz (aW H.length j) 1 R C
 | 0,R,C,_,⟨_,_,⟨rfl,rfl⟩,o⟩=>by
  obtain⟨rfl,rfl⟩:=o.right z.fm;exact z
 | j+1,R,C,hs,⟨S,d,it,o⟩=>by
  have hs':s^(j+1)<=16:=aD (bO s1 (eO _)) hs;have zS:=BG z l5 lH s1 hs' it;have lS:=It.len z.fm lH s1 it;cases Lq zS;have sz:=o.size z zS (by rw[lS];exact aD (bI l5 (show s^(j+1)+1<=17 by lia)) (by decide));refine⟨o.1,sz.tops,?_⟩;have:C∣1*1^H.length:=CT o.1 o.2;rw[cB,df] at this;have:=g7 (by decide) this;have:=o.1.pos;show C.natAbs<2;lia
def aV:Nat->Nat
 | 0=>2
 | j+1=>2*aV j+6
theorem GB(z:Pc.Pz 2 1 H 1)(lH:H.length=3)(h1:H.getD 1 0=0)(h2:H.getD 2 0=1):∀{j:Nat} {R:List Int} {C:Int},2^(j+1)<=16->Pc.It H 1 (j+1) R C->Pc.Pz (aV j) 1 R C
 | 0,R,C,_,⟨_,_,⟨rfl,rfl⟩,o⟩=>by
  obtain⟨rfl,rfl⟩:=o.right z.fm;exact z
 | j+1,R,C,hs,⟨S,d,it,o⟩=>by
  have hs':2^(j+1)<=16:=aD (bO (by decide) (eO _)) hs;have zS:=GB z lH h1 h2 hs' it;have lR:R.length=2^(j+2)+1:=It.len (k:=j+2) (s:=2) z.fm lH (by decide) ⟨S,d,it,o⟩;cases Lq zS;have c1:C=1:=by
   have:C∣1*1^H.length:=CT o.1 o.2;rw[cB,df] at this;have:=g7 (by decide) this;have:=o.1.pos;lia
  subst c1;refine⟨o.1,fun k=>?_,by unfold Lt2;decide⟩;rcases ar k 31 with y|y
  ·have e:=o.2 k;rw[lH,df,bq,bq,bq] at e;have e1:∀ i,Pc.cp (Cv.fn S) 1 i=S.getD i 0:=fun i=>Pc.y6 (Cv.fn S) i;have e:R.getD k 0=(((0+H.getD 0 0*Pc.d0 k)*1+H.getD 1 0*Pc.cp (Cv.fn S) 1 k)*1+H.getD 2 0*Pc.cp (Cv.fn S) 2 k)*1:=e;have l2:Lt2 (aV j+aV j+5) (Pc.cp (Cv.fn S) 2 k):=Cv.Ef (f:=Pc.cp (Cv.fn S) 1) (b:=5) (fun i=>by rw[e1];exact zS.tops i) zS.tops (by lia);have l0:Lt2 2 (H.getD 0 0*Pc.d0 k):=by
    unfold Pc.d0;split
    ·rw[bq];exact z.tops 0
    ·rw[bD];exact xB _
   rw[e,h1,h2,show (((0+H.getD 0 0*Pc.d0 k)*1+0*Pc.cp (Cv.fn S) 1 k)*1+1*Pc.cp (Cv.fn S) 2 k)*1=H.getD 0 0*Pc.d0 k+Pc.cp (Cv.fn S) 2 k by grind];exact ((l0.mono (m:=aV j+aV j+5) (by lia)).add l2).mono (by show _<=2*aV j+6;lia)
  ·have:R.length<=17:=by rw[lR];exact Nat.succ_le_succ hs
   rw[uj (by lia)];exact xB _
structure AgL (s k:Nat):Prop where
 s2:2<=s
 s4:s<=4
 k2:2<=k
 k4:k<=4
 n16:s^k<=16
 n2:2<=s^k
 ag:∀ j,j<k->2*45+(aZ 275 45 (s+1) j).2*(s+1)<=8900000/\275+((aZ 275 45 (s+1) j).1+(aZ 275 45 (s+1) j).2+10)*(s+1+1)<=400000/\(s+1)*((s+1-1)^j+1)<=190/\(s+1-1)^j+1<=190
 sm:aW (s+1) (k-1)<=133\/(s=2/\aV (k-1)<=133)
theorem Shp.l{s k:Nat}(h:Shp s k):AgL s k:=by
 rcases h with⟨rfl,rfl⟩|⟨rfl,rfl⟩|⟨rfl,rfl⟩|⟨rfl,rfl⟩|⟨rfl,rfl⟩;all_goals exact⟨by decide,by decide,by decide,by decide,by decide,by decide,by decide +kernel,by decide⟩
theorem D2{H:List Int}{V:Int}{k:Nat}{P:List Int}{B:Int}(fH:Po.Fm H V)(it:Pc.It H V k P B):Ag P B k H V:=⟨fH,fun x=>(It.e fH.pos it x).symm⟩
theorem Em{P H H':List Int}{B V V':Int}{s k:Nat}(hs:Shp s k)(lH:H.length=s+1)(h:Ag P B k H V)(fP:Po.Fm P B)(h':Ag P B k H' V'):H'.length=s+1/\P.length=s^k+1:=by
 obtain⟨s2,s4,k2,k4,n16,n2,_,_⟩:=hs.l;have lP:P.length=s^k+1:=by
  obtain⟨W,w,fW,lW,eW⟩:=zZ h.1 lH (by lia) k;obtain⟨rfl,_⟩:=Qp.uQ fP fW fun x=>by rw[← h.2,eW]
  exact lW
 obtain⟨t,z⟩:=Ba fP lP (by lia) h';rcases z with⟨lt,et⟩|z
 ·rw[yM (by lia) et] at lt;exact⟨lt,lP⟩
 ·lia
theorem LC{P H H':List Int}{B V V':Int}{s k:Nat}(hs:Shp s k)(lH:H.length=s+1)(h:Ag P B k H V)(fP:Po.Fm P B)(h':Ag P B k H' V'):(H'=H/\V'=V)\/(s=3/\k=2/\∃ c,∀ x,Qp.E H' V' x=c-Qp.E H V x):=by
 obtain⟨lH',_⟩:=Em hs lH h fP h';obtain⟨s2,s4,k2,k4,n16,n2,_,_⟩:=hs.l;obtain⟨s',rfl⟩:∃ s',s=s'+2:=⟨s-2,by lia⟩;obtain⟨k',rfl⟩:∃ k',k=k'+2:=⟨k-2,by lia⟩;rcases LB fP lH lH' h h' with⟨_,z⟩|⟨ev,c⟩
 ·exact .inl z
 ·refine .inr ?_;rcases hs with⟨a,b⟩|⟨a,b⟩|⟨a,b⟩|⟨a,b⟩|⟨a,b⟩
  ·rw[a,b] at ev;exact absurd ev (by decide)
  ·rw[a,b] at ev;exact absurd ev (by decide)
  ·rw[a,b] at ev;exact absurd ev (by decide)
  ·exact⟨a,b,c⟩
  ·rw[a,b] at ev;exact absurd ev (by decide)
theorem Ky{ls:List Pl}:pq x∈ls.map pq↔x∈ls:=by
 rw[de];constructor
 ·rintro⟨y,hy,e⟩;injection e with e;obtain⟨e1,e2⟩:=pD_iff.mp e;rwa [← show y=x from Prod.ext e1 e2]
 ·exact fun h=>⟨x,h,rfl⟩
theorem FX:∀ ls:List Pl,D.dps (ls.map pq)<=60
 | []=>aE _
 | l::ls=>by
  show max (D.dps [.tup (l.1.map D.int),.int l.2]+1) (D.dps (ls.map pq))<=60;have h1:D.dps [.tup (l.1.map D.int),.int l.2]<=2:=by
   show max (D.dps (l.1.map D.int)+1) (max 0 0)<=2;rw[xP];decide
  have:=FX ls;lia
theorem Jx{x:Pl}{ls:List Pl}{neg:Bool}{Q:D->Prop}(q:∀ b:Bool,(b=true↔x∈ls)->Q (.bl (if neg then !b else b))):oIn neg (pq x) (.lst (ls.map pq)) Q :=
 .inr (.inr ⟨ls.map pq,rfl,yP _ _,AC ls,FX ls,fun b h=>q b (h.trans Ky)⟩)
end Dp
namespace Dp
open PySem L2 Ch Qp
theorem DY(f:Rat->Rat)(j:Nat):∀(k:Nat) (x:Rat),Be (Be f j) k x=Be f (j*k) x
 | 0,_=>rfl
 | k+1,x=>by
  show Be (Be f j) k (Be f j x)=_;rw[DY f j k];have add:∀(a b:Nat) (x:Rat),Be f a (Be f b x)=Be f (b+a) x:=fun a b=>by
   induction b with
   | zero=>intro x;rw[ia];rfl
   | succ b ih=>intro x;rw[show b+1+a=(b+a)+1 by lia];exact ih (f x)
  rw[add,bF,Nat.add_comm]
end Dp
namespace Dp
open PySem L2 Ch
theorem Db{F H G:List Int}{B V U:Int}(h:Ag F B 2 G U)(a:Ag G U 2 H V):Ag F B 4 H V:=⟨a.1,fun x=>by
 have e:Be (Qp.E H V) 2=Qp.E G U:=funext fun y=>a.2 y;rw[show (4:Nat)=2*2 from rfl,← DY,e];exact h.2 x⟩
theorem D3{x:Pl}{ls:List Pl}{Q:D->Prop}(m:x∈ls)(q:Q (.bl true)):oIn false (pq x) (.lst (ls.map pq)) Q:=Jx fun b hb=>by
 cases hb.mpr m;exact q
abbrev pe:SpB:=kg
def qB:TSd:=(iZ [] (iU jS (iR (je (iR (iS 1) (iR (iS 0) iT))) iT)))
theorem nM:Does 2 qB pe:=by
 rintro ds Q hn ⟨⟨d1,d2,r1,r2,n1,b1,n2,b2⟩,⟨rfl,⟨ta,ba,rfl,a0,c2,l1,l2,rfl⟩,⟨tb,bb,rfl,b0,e2,l3,l4,rfl⟩,ln,m1⟩,q⟩;dsimp only at ln m1 q;refine⟨vK,rfl,([(tb,bb),(ta,ba)],bb*ba,n1+n2+(b1+b2)),⟨rfl,?_⟩,?_⟩
 ·refine⟨fun f hf=>?_,by show 2<=100;decide,ay b0 a0,(l4.mul l2).mono (by lia),by show n1+n2+(b1+b2)<=_;lia⟩;rcases av.mp hf with z|z
  ·rw[z];exact⟨b0,l3.mono (by lia),dP _ _⟩
  ·rw[aq.mp z];exact⟨a0,l1.mono (by lia),Int.dvd_mul_left _ _⟩
 rintro _ ⟨P,B,rfl,fm,hw,hle,_⟩;have w0:P.getD 0 0*bb=tb*B:=hw 0;have w1:P.getD 1 0*ba=ta*B:=hw 1;have hle:P.length<=2:=hle;obtain⟨x1,x2,x3,x4,x5⟩:=OK (ta:=ta) (ba:=ba) (tb:=tb) (bb:=bb) ⟨fm,fun k=>by
  match k with
  | 0=>show P.getD 0 0*(ba*bb)=tb*ba*B;grind
  | 1=>show P.getD 1 0*(ba*bb)=ta*bb*B;grind
  | k+2 =>
   show P.getD (k+2) 0*(ba*bb)=0*B;rw[uj (by lia)];simp⟩ a0 b0 l1 l2 l3 l4
 exact q _ ⟨P,B,rfl,x1,x2,x3,x4,x5⟩
structure Sz77 (P:List Int)(B:Int)(m a b0 Z:Nat):Prop where
 z:Pc.Pz a b0 P B
 l:P.length=m+1
 m1:1<=m
 m15:m<=15
 lZ:Lt2 Z (P.getD m 0)
 sz:LR a b0 Z m
theorem xx{P:List Int}{B:Int}{k s:Nat}{G:List Int}{U:Int}{i:Nat}{p:List Int×Int}(k1:1<=k)(s1:1<=s)(hP:P.getD (k*s) 0≠0)(a:Bd P B k s G U Ps)(hi:Ps[i]? = some p)(h2:2<=p.1.length):¬ B5 P B k s:=by
 rintro⟨G',U',R,C,fG',lG',cG',fR,e⟩;obtain⟨⟨fG,lG,cG⟩,_,_,hz,ed⟩:=a;obtain⟨rfl,rfl⟩:=Ca.Cand.uniq k1 hP fG fG' lG lG' cG cG';obtain⟨Cs,lC,hC,eC⟩:=y8 R.length (Qp.q R C);have u:=Ap.Ed.uniq2 fG lG (ps:=Ps) (qs:=Cs) (fun q hq=>hz q hq) (fun q hq=>⟨(hC q hq).1,aD (hC q hq).2 s1⟩) (fun x=>by rw[← ed,e,eC,Df (ak _)]) i;rw[uM hi] at u;have:(Cs.getD i ([],1)).1.length<=1:=mem_getD (p:=fun q:List Int×Int=>q.1.length<=1) (fun q hq=>(hC q hq).2) (aE _);rw[← u] at this;lia
theorem EL(a:Bd P B k s G U Ps)(fR:Po.Fm R C)(e:∀ x y,Qp.E R C y=Ap.Ed y x Ps):B5 P B k s:=by
 obtain⟨⟨fG,lG,cG⟩,_,_,hz,ed⟩:=a;exact⟨G,U,R,C,fG,lG,cG,fR,fun x=>by rw[ed,e]⟩
noncomputable def jr:SpB:=.of 1 (α:=List Int×Int×Nat×Nat×Nat×Nat) (fun (P,B,n,a,b0,Z) ds=>ds=[pD P B]/\Sz77 P B n a b0 Z) (fun (P,B,n,_,_,_) d=>d=nD (ind P B n))
noncomputable def ms:TSd:=(iZ [] (i7 (jd (iU mV (iR (iU jf (iR (iS 0) iT)) iT))) [1] (gNm 1) (i5 (i6 .Eq (dIx (iU j2 (iR (iS 0) (iR (iS 1) iT))) (dC (.int 0))) (dC (.str "made")))) (iS 1)))
open Classical in
theorem ku:Does 2 ms jr:=by
 rintro ds Q hn ⟨⟨P,B,n,a0,b0,Z0⟩,⟨rfl,h⟩,q⟩;dsimp only at h q;obtain⟨z,lP,n1,n12,lZ,hsz⟩:=h;refine⟨rfl,(P,B),rfl,?_⟩;rintro _ rfl;refine⟨rfl,n,⟨?_,by lia⟩,?_⟩
 ·show [D.int ((P.length:Int)-1)]=[D.int (n:Int)];rw[lP,show ((n+1:Nat):Int)-1=(n:Int) by lia]
 rintro _ rfl;have ll:=IK n n;refine⟨(congrArg (· <= Pv) (aa _)).mpr (vO (by lia)),fun i ys=>ys=(((dvs n n).take i).filter fun s=>decide (B5 P B (n / s) s)).map fun s=>D.int ((s:Nat):Int),rfl,fun i d ys hd _ hy=>?_,fun ys _ hy=>?_⟩
 ·rw[aM] at hd;obtain⟨s,hs,rfl⟩:=ab.mp hd;obtain⟨s1,s2,s3⟩:=mem_dvs.mp (aO hs);have e:n / s*s=n:=by
   have:=Nat.div_add_mod n s;rw[s3,gu,bQ] at this;exact this
  have k1:1<=n / s:=Nat.div_pos s2 s1;have kn:n / s<=n:=dE _ _;have hP:P.getD (n / s*s) 0≠0:=by rw[e];exact uB z.fm lP
  refine⟨rfl,(P,B,n / s,s,a0,b0,Z0),⟨rfl,z,by rw[e];exact lP,k1,s1,by rw[e];exact aD n12 (by decide),aD kn n12,by rw[e];exact lZ,by rw[e];exact hsz⟩,?_⟩;rintro _ ⟨G,U,Ps,a,_,_,h⟩;subst hy;have T0:(((dvs n n).take (i+1)).filter fun s=>decide (B5 P B (n / s) s)).map (fun s=>D.int ((s:Nat):Int))=(((dvs n n).take i).filter fun s=>decide (B5 P B (n / s) s)).map (fun s=>D.int ((s:Nat):Int))++(([s]:List Nat).filter fun s=>decide (B5 P B (n / s) s)).map (fun s=>D.int ((s:Nat):Int)):=by
   rw[ga,hs,fU,bw];rfl
  rcases h with⟨j,p,rfl,hj,h2,_⟩|⟨R,C,rfl,zR,one,lR,eR⟩
  ·have no:=xx k1 s1 hP a hj h2;rw[g6 (by simpa using no)] at T0;exact (T0.trans (cP _)).symm
  ·have yes:=EL a zR.fm eR;rw[gZ (by simpa using yes)] at T0;exact T0.symm
 ·rw[aa,b9] at hy;exact q _ (congrArg D.lst hy)
theorem xm(k1:1<=k)(s1:1<=s)(fP:Po.Fm P B)(lP:P.length=k*s+1)(fA:Po.Fm A α)(lA:A.length=s+1)(mA:A.getD s 0=α)(A0:A.getD 0 0=0)(h:LU P B A α):B5 P B k s:=by
 obtain⟨f,l,c⟩:=vj k1 s1 fP lP fA lA mA A0 h;obtain⟨R,C,fR,e⟩:=h;exact⟨A,α,R,C,f,l,c,fR,e⟩
theorem yl(n1:1<=n)(fP:Po.Fm P B)(lP:P.length=n+1):B5 P B n 1 :=
 xm n1 (ak _) fP (by rw[dS];exact lP) Pc.E4.fm rfl rfl rfl ⟨P,B,fP,fun x=>by rw[Qp.Hw]⟩
theorem DR(n1:1<=n)(fP:Po.Fm P B)(lP:P.length=n+1):Qp.q P B n≠0/\∃ N e,Po.Fm N e/\N.length=n+1/\N.getD n 0=e/\N.getD 0 0=0/\(∀ x,Qp.E N e x=(Qp.E P B x-Qp.E P B 0)*(1 / Qp.q P B n))/\∀ k,1<=k->Qp.q N e k=1 / Qp.q P B n*Qp.q P B k:=by
 have q0:Qp.q P B n≠0:=by
  have:=Qp.uS fP (by rintro rfl;simp at lP);rw[lP] at this;exact this
 refine⟨q0,?_⟩;generalize hq:Qp.q P B n=c at *;obtain⟨N,e,fN,eN,lN⟩:=(((Ap.Pl'.of fP).mono (m:=n+1) (by lia)).smul (1 / c)).add ((Ap.Pl'.const (-Qp.E P B 0*(1 / c))).mono (by lia));obtain⟨T,f,fT,eT,lT⟩:=Ap.Pl'.const (-Qp.E P B 0*(1 / c));have qN:=Ap.vn (u:=1 / c) fN fP fT fun x=>by rw[eN,eT]
 have n1:Qp.q N e n=1:=by
  rw[qN,hq,Qp.uK (P:=T) (k:=n) (by lia)];grind
 have eN:∀ x,Qp.E N e x=(Qp.E P B x-Qp.E P B 0)*(1 / c):=fun x=>by rw[eN];grind
 have e0:=fN.pos;have nC:N.getD n 0=e:=by
  have h:((N.getD n 0:Int):Rat) / (e:Rat)=((1:Int):Rat) / ((1:Int):Rat):=by
   have:Qp.q N e n=((1:Int):Rat) / ((1:Int):Rat):=by rw[n1];show (1:Rat)=1 / 1;grind
   exact this
  have:=(Qp.uD (ao e0) (by decide)).mp h;lia
 refine⟨N,e,fN,?_,nC,?_,eN,fun k hk=>by rw[qN,Qp.uK (P:=T) (k:=k) (by lia)];grind⟩
 ·rcases ar n N.length with w|w
  ·lia
  ·rw[uj w] at nC;lia
 ·have h:Qp.q N e 0=0:=by
   rw[← Qp.uV,eN];grind
  have n2:=Qp.uh e0;unfold Qp.q at h;have:((N.getD 0 0:Int):Rat)=0:=by
   generalize ((N.getD 0 0:Int):Rat)=y at *;have:y=y / (e:Rat)*e:=by grind
   rw[this,h];grind
  exact cL.mp this
theorem xp(n1:1<=n)(fP:Po.Fm P B)(lP:P.length=n+1):B5 P B 1 n:=by
 obtain⟨q0,N,e,fN,lN,mN,N0,eN,_⟩:=DR n1 fP lP;obtain⟨W,V,fW,lW,nW,qW,eW⟩:=Dn (Qp.q P B n) (Qp.E P B 0) q0;refine xm (ak _) n1 fP (by rw[eK];exact lP) fN lN mN N0 ⟨W,V,fW,fun x=>?_⟩;rw[eW,eN];generalize Qp.q P B n=u at *;grind
open Classical in
theorem yn(h:∀ s∈dvs n n,B5 P B (n / s) s):ind P B n=dvs n n:=by
 unfold ind;rw[List.filter_eq_self];exact fun s hs=>decide_eq_true (h s hs)
def S77(P:List Int)(B:Int)(n:Nat):Prop:=Pc.Pz 600 600 P B/\P.length=n+1
def NC(p:Nat):Nat->List Pl->List Int->Int->Prop
 | 0,L,P,B=>L=[(P,B)]/\S77 P B p
 | j+1,L,P,B=>∃(G:List Int) (U:Int) (R:List Int) (C:Int) (L':List Pl),L=L'++[(G,U)]/\S77 P B (p^(j+2))/\S77 G U p/\G.getD p 0=U/\G.getD 0 0=0/\(∀ x,Qp.E P B x=Qp.E R C (Qp.E G U x))/\NC p j L' R C
theorem NC.sz:∀{j:Nat} {L:List Pl} {P:List Int} {B:Int},NC p j L P B->S77 P B (p^(j+1))
 | 0,_,_,_,h=>by rw[gG];exact h.2
 | j+1,_,_,_,h=>by obtain⟨_,_,_,_,_,_,h,_⟩:=h;exact h
theorem Hq:∀(L M:List Pl) (x:Rat),Ec (L++M) x=Ec L (Ec M x)
 | [],_,_=>rfl
 | c::L,M,x=>by
  show Qp.E c.1 c.2 (Ec (L++M) x)=_;rw[Hq L M x];rfl
theorem NC.ec:∀{j:Nat} {L:List Pl} {P:List Int} {B:Int},NC p j L P B->∀ x,Qp.E P B x=Ec L x
 | 0,_,_,_,h,x=>by rw[h.1];rfl
 | j+1,_,_,_,h,x=>by
  obtain⟨G,U,R,C,L',h,_,_,_,_,e,n⟩:=h;rw[h,Hq,e,n.ec];rfl
theorem NC.len:∀{j:Nat} {L:List Pl} {P:List Int} {B:Int},NC p j L P B->L.length=j+1/\∀ c∈L,c.1.length=p+1
 | 0,_,_,_,h=>by
  obtain⟨h,z⟩:=h;rw[h];exact⟨rfl,fun c hc=>by rw[aq.mp hc];exact z.2⟩
 | j+1,_,_,_,h=>by
  obtain⟨G,U,R,C,L',h,_,z,_,_,_,n⟩:=h;obtain⟨a,b⟩:=n.len;rw[h];refine⟨by rw[aB,a];rfl,fun c hc=>?_⟩;rcases bS.mp hc with q|q
  ·exact b c q
  ·rw[aq.mp q];exact z.2
end Dp
namespace Dp
open PySem L2 Ch
def kL:SpB:=.of 1 (α:=List Pl) (fun cs ds=>ds=[cD cs]/\cs.length<=100) (fun cs d=>d = .lst (cs.map fun c=>D.int ((c.1.length:Int)-1)))
def qC:TSd:=(iZ [] (i7 (jd (iS 0)) [1] (gNm 1) jt (iU jf (iR (iS 1) iT))))
theorem nN:Does 2 qC kL:=by
 rintro ds Q hn ⟨cs,⟨rfl,hl⟩,q⟩;dsimp only at hl q;refine v6 (fun i y=>∃ c,cs[i]? = some c/\y=D.int ((c.1.length:Int)-1)) (by rw[aa];lia) (fun i d hd=>?_) fun ys ly hy=>q _ (congrArg D.lst ?_)
 ·rw[aM] at hd;obtain⟨c,hc,rfl⟩:=ab.mp hd;refine⟨rfl,(c.1,c.2),rfl,?_⟩;rintro _ rfl;exact⟨c,hc,rfl⟩
 ·rw[aa] at ly;refine gB (by rw[ly,aa]) fun i h1 h2=>?_;obtain⟨c,hc,e⟩:=hy i _ (au h1);rw[e,iP,(aj.mp hc).2]
def Pj(p j:Nat):Prop:=(p=2/\j<=2)\/(p=3/\j<=1)
def jc(m:Nat):SpB:=.of 1 (α:=List Int×Int×Nat×Nat×List Pl) (fun (P,B,p,j,L) ds=>ds=[pD P B]/\Pj p j/\j<m/\NC p j L P B) (fun (P,B,p,j,L) d=>d = .lst [cD L])
noncomputable def rZ(m:Nat):TSd:=(dSq (iY [] (gTp [3,4,5]) (iU j2 (iR (iS 0) (iR (iS 2) iT))))
 (dIf [] (i5 (i6 .Eq (iU jr (iR (iS 5) iT)) (je (iR (dC (.int 1)) (iR (iS 2) iT)))))
 (td [] 1 (i7 (jd (iU (jc m) (iR (iS 4) iT))) [6] (gNm 6) jt (iV .Add (iS 6) (jg (iR (iS 5) iT)))))
 i8))
def oh:TSd:=(iZ [1] (qL (kA (iS 1)) (tf kL (iS 1)) (je (iR (jg (iR (iS 0) iT)) iT))))
noncomputable def ky(m:Nat):TSd:=(dSq (kY [] 1 (je iT))
 (dSq (jq [] (jd (dSl (iU jr (iR (iS 0) iT)) (kH (dC (.int 1))) (kH (mw (dC (.int 1)))))) (gNm 2)
 (rZ m))
 oh))
theorem Fj(h:n<=9):LR 600 600 600 n:=by
 have e:(600+8)*n<=(600+8)*9:=ai _ h;have e2:(600+8)*(n-1)<=(600+8)*9:=ai _ (by lia);refine⟨by lia,by decide,by decide,by lia⟩
theorem S77.to(h:S77 P B n)(n1:1<=n)(n9:n<=9):Sz77 P B n 600 600 600:=⟨h.1,h.2,n1,by lia,h.1.tops _,Fj n9⟩
theorem IS(q:Q (.lst [.tup [x0]])):oh.run (ux Q) [.val x0,.own [],o2,o3,o4,o5,o6]:=by
 exact⟨zn,zn,q⟩
theorem IR(hl:cs.length<=100)(q:Q (.lst [cD cs])):oh.run (ux Q) [.val x0,.own [cD cs],o2,o3,o4,o5,o6]:=by
 refine⟨_,rfl,rfl,cs,⟨rfl,hl⟩,?_⟩;rintro _ rfl;exact q
theorem Bi{P:List Int}{B:Int}{d:D}(k1:1<=k)(s1:1<=s)(hP:P.getD (k*s) 0≠0)(h:Dd P B k s a b0 Z d)(mad:B5 P B k s) :
  ∃ G U R C,d = .tup [.str "made",pD R C,pD G U]/\Cn P k s G U/\Po.Fm R C/\(∀ x,Qp.E P B x=Qp.E R C (Qp.E G U x))/\Wt (gW a Z (k*s)) G U s/\Lt2 (bU Z k s) U:=by
 obtain⟨G,U,Ps,ap,wt,bu,h⟩:=h;rcases h with⟨i,p,rfl,hi,h2,_⟩|⟨R,C,rfl,zR,one,lR,eR⟩
 ·exact absurd mad (xx k1 s1 hP ap hi h2)
 ·exact⟨G,U,R,C,rfl,ap.1,zR.fm,fun x=>by rw[ap.2.2.2.2 x,eR x],wt,bu⟩
theorem HB(k1:1<=k)(s1:1<=s)(fP:Po.Fm P B)(lP:P.length=k*s+1)(fG:Po.Fm G U)(lG:G.length=s+1)(mG:G.getD s 0=U)(G0:G.getD 0 0=0)(fR:Po.Fm R C)(e:∀ x,Qp.E P B x=Qp.E R C (Qp.E G U x))(h:Dd P B k s a b0 Z d):d = .tup [.str "made",pD R C,pD G U]:=by
 have o:LU P B G U:=⟨R,C,fR,e⟩;obtain⟨G',U',R',C',rfl,c,fR',e',_⟩:=Bi k1 s1 (uB fP lP) h (xm k1 s1 fP lP fG lG mG G0 o);obtain⟨rfl,rfl⟩:=Cn.uniq fP lP k1 c (vj k1 s1 fP lP fG lG mG G0 o);obtain⟨rfl,rfl⟩:=xl fG lG s1 fR' fR fun x=>by rw[← e,← e']
 rfl
theorem z6(hp:p=2\/p=3)(h:S77 P B p):ind P B p=[1,p]:=by
 rw[yn fun s hs=>?_]
 ·rcases hp with rfl|rfl <;> rfl
 ·have:s=1\/s=p:=by
   rcases hp with rfl|rfl
   ·exact (by revert s;decide:∀ s∈dvs 2 2,s=1\/s=2) s hs
   ·exact (by revert s;decide:∀ s∈dvs 3 3,s=1\/s=3) s hs
  have p1:1<=p:=by lia
  rcases this with rfl|rfl
  ·rw[Nat.div_one];exact yl p1 h.1.fm h.2
  ·rw[Nat.div_self p1];exact xp p1 h.1.fm h.2
theorem Lj(pj:Pj p j)(jm:j<m)(n:NC p j L R C)(q:Q (.lst [cD (L++[(G,U)])])) :
  (i7 (jd (iU (jc m) (iR (iS 4) iT))) [6] (gNm 6) jt (iV .Add (iS 6) (jg (iR (iS 5) iT)))).run [.val x0,o1,o2,.val x3,.val (pD R C),.val (pD G U),o6] Q:=by
 refine⟨rfl,(R,C,p,j,L),⟨rfl,pj,jm,n⟩,?_⟩;rintro _ rfl;have ll:L.length<=3:=by rw[n.len.1];unfold Pj at pj;lia
 refine v6 (ds:=[cD L]) (Q:=Q) (fun i y=>y=cD (L++[(G,U)])) (by show (1:Nat)<=_;decide) (fun i d hd=>?_) fun ys ly hy=>?_
 ·match i,hd with
  | 0,hd =>
   cases hd;refine⟨zn,vO (by rw[aa];show L.length+1<=_;lia),?_⟩;show D.tup _=D.tup _;rw[bw];rfl
  | i+1,hd=>cases hd
 ·match ys,ly,hy with
  | [y],_,hy =>
   rw[hy 0 y rfl];exact q
theorem JP(pj:Pj p (j+1))(jm:j<m)(zP:S77 P B (p^(j+2)))(zG:S77 G U p)(mG:G.getD p 0=U)(G0:G.getD 0 0=0)(e:∀ x,Qp.E P B x=Qp.E R C (Qp.E G U x))(n:NC p j L R C)
  (q:E.nx [.val (pD P B),.own [cD (L++[(G,U)])],.val (.int p),.val (.str "made"),.val (pD R C),.val (pD G U),o6]):(rZ m).run E [.val (pD P B),.own [],.val (.int p),o3,o4,o5,o6]:=by
 have hp:p=2\/p=3:=by unfold Pj at pj;lia
 have p1:1<=p:=by lia
 have k1:1<=p^(j+1):=bg p1;have lP:P.length=p^(j+1)*p+1:=zP.2;have n9:p^(j+1)*p<=9/\p^(j+1)<=9:=by
  rcases pj with⟨rfl,h⟩|⟨rfl,h⟩
  ·have:j=0\/j=1:=by lia
   rcases this with rfl|rfl <;> decide
  ·have:j=0:=by lia
   subst this;decide
 refine⟨rfl,(P,B,p^(j+1),p,600,600,600),⟨rfl,zP.1,lP,k1,p1,aD n9.1 (by decide),aD n9.2 (by decide),zP.1.tops _,Fj n9.1⟩,?_⟩;rintro d hd;obtain rfl:=HB k1 p1 zP.1.fm lP zG.1.fm zG.2 mG G0 n.sz.1.fm e hd;refine⟨rfl,?_⟩;refine⟨rfl,(G,U,p,600,600,600),⟨rfl,zG.to p1 (by lia)⟩,?_⟩;rintro _ rfl;dsimp only;rw[z6 hp zG];refine⟨vK,?_⟩;refine⟨rfl,rfl,rfl,?_,fun k hk=>?_⟩
 ·exact of_decide_eq_true rfl
 rw[hk.mpr rfl];exact Lj (by unfold Pj at pj ⊢;lia) jm n ⟨_,rfl,zn,q⟩
theorem Nc{P G R G2 R0:List Int}{B U C U2 C0:Int}{m:Nat}{o1 o3 o4 o5 o6:SD}{E:EndsD}(zP:S77 P B 8)(zG:S77 G U 2)(mG:G.getD 2 0=U)(G0:G.getD 0 0=0)(e:∀ x,Qp.E P B x=Qp.E R C (Qp.E G U x))(zR:S77 R C 4)(zG2:S77 G2 U2 2)(mG2:G2.getD 2 0=U2)(G20:G2.getD 0 0=0)(e2:∀ x,Qp.E R C x=Qp.E R0 C0 (Qp.E G2 U2 x))(f0:Po.Fm R0 C0)
  (q:∀ a b c,E.nx [.val (pD P B),o1,.val (.int 4),a,b,c,o6]):B5 P B 2 4/\(rZ m).run E [.val (pD P B),o1,.val (.int 4),o3,o4,o5,o6]:=by
 obtain⟨M,v,oM⟩:=vt zG2.1.fm zG.1.fm;have eM:∀ x,Qp.E M v x=Qp.E G2 U2 (Qp.E G U x):=fun x=>Qp.wn zG2.1.fm.pos zG.1.fm.pos oM x;have c2:Cn R 2 2 G2 U2:=vj (by decide) (by decide) zR.1.fm zR.2 zG2.1.fm zG2.2 mG2 G20 ⟨R0,C0,f0,e2⟩;have c:Cn P 2 (2*2) M v:=Ej (by decide) (by decide) (by decide) zP.1.fm zG.1.fm zG.2 mG G0 zR.1.fm zR.2 e c2 oM.1 eM;have oP:∀ x,Qp.E P B x=Qp.E R0 C0 (Qp.E M v x):=fun x=>by rw[e,e2,eM]
 have mad:B5 P B 2 4:=⟨M,v,R0,C0,c.1,c.2.1,c.2.2,f0,oP⟩;refine⟨mad,?_⟩;refine⟨rfl,(P,B,2,4,600,600,600),⟨rfl,zP.1,zP.2,by decide,by decide,by decide,by decide,zP.1.tops _,Fj (by decide)⟩,?_⟩;rintro d hd;obtain⟨G',U',R',C',rfl,c',fR',e',wt,bu⟩:=Bi (by decide) (by decide) (uB zP.1.fm zP.2) hd mad;obtain⟨rfl,rfl⟩:=Cn.uniq (a:=2) (s:=4) zP.1.fm zP.2 (by decide) c' c;obtain⟨mM,M0⟩:=v8 c'.2.2 (by decide);have mM:G'.getD 4 0=U':=mM;have zM:=wt.pz c'.1 c'.2.1 bu;have lM:G'.length=5:=c'.2.1;have hi:ind G' U' 4=[1,2,4]:=by
  rw[yn fun s hs=>?_]
  ·rfl
  ·have:s=1\/s=2\/s=4:=(by revert s;decide:∀ s∈dvs 4 4,s=1\/s=2\/s=4) s hs;rcases this with rfl|rfl|rfl
   ·exact yl (n:=4) (by decide) c'.1 lM
   ·exact xm (k:=2) (s:=2) (by decide) (by decide) c'.1 lM zG.1.fm zG.2 mG G0 ⟨G2,U2,zG2.1.fm,eM⟩
   ·exact xp (n:=4) (by decide) c'.1 lM
 refine⟨rfl,?_⟩;refine⟨rfl,(G',U',4,23777,1825,1825),⟨rfl,zM.mono (by decide) (by decide),lM,by decide,by decide,by rw[mM];exact bu.mono (by decide),by decide,by decide,by decide,by decide⟩,?_⟩;rintro _ rfl;dsimp only;rw[hi];refine⟨vK,?_⟩;refine⟨rfl,rfl,rfl,of_decide_eq_true rfl,fun k hk=>?_⟩;have kf:k=false:=by
  cases k with
  | false=>rfl
  | true=>exact absurd (congrArg List.length (hk.mp rfl)) (by decide)
 rw[kf];exact q _ _ _
theorem j4(m:Nat):Does 7 (ky m) (jc (m+1)):=by
 rintro ds Q hn ⟨⟨P,B,p,j,L⟩,⟨rfl,pj,jm,h⟩,q⟩;dsimp only at pj jm h q;have hp:p=2\/p=3:=by unfold Pj at pj;lia
 have p1:1<=p:=by lia
 refine⟨aE _,?_⟩;match j,h with
 | 0,h =>
  obtain⟨hL,z⟩:=h;refine⟨rfl,(P,B,p,600,600,600),⟨rfl,z.to p1 (by lia)⟩,?_⟩;rintro _ rfl;dsimp only;rw[z6 hp z];refine⟨fun i s=>s=[.val (pD P B),.own [],.no,.no,.no,.no,.no],rfl,fun i d s hd _=>?_,fun s hs=>?_⟩
  ·have hd:([]:List D)[i]? = some d:=hd;cases hd
  ·subst hs;refine IS (q _ ?_);rw[hL];rfl
 | j+1,h =>
  obtain⟨G,U,R,C,L',hL,zP,zG,mG,G0,e,n⟩:=h;have lP:P.length=p^(j+1)*p+1:=zP.2;have k1:1<=p^(j+1):=bg p1;have mp:B5 P B (p^(j+1)) p:=xm k1 p1 zP.1.fm lP zG.1.fm zG.2 mG G0 ⟨R,C,n.sz.1.fm,e⟩;have ll:(L'++[(G,U)]).length<=100:=by rw[aB,n.len.1];show j+1+1<=100;unfold Pj at pj;lia
  have fin:∀{o2 o3 o4 o5 o6:SD},oh.run (ux Q) [.val (pD P B),.own [cD (L'++[(G,U)])],o2,o3,o4,o5,o6]:=IR ll (q _ (by rw[hL]));match j,n with
  | 0,n =>
   have zP:S77 P B (p*p):=by rw[show p*p=p^2 by rw[Nat.pow_two]];exact zP
   rw[gG] at mp;have hi:ind P B (p*p)=[1,p,p*p]:=by
    rw[yn fun s hs=>?_]
    ·rcases hp with rfl|rfl <;> rfl
    ·have:s=1\/s=p\/s=p*p:=by
      rcases hp with rfl|rfl
      ·exact (by revert s;decide:∀ s∈dvs 4 4,s=1\/s=2\/s=4) s hs
      ·exact (by revert s;decide:∀ s∈dvs 9 9,s=1\/s=3\/s=9) s hs
     have pp:1<=p*p:=gH p1 p1;rcases this with rfl|rfl|rfl
     ·rw[Nat.div_one];exact yl pp zP.1.fm zP.2
     ·rw[Nat.mul_div_cancel _ p1];exact mp
     ·rw[Nat.div_self pp];exact xp pp zP.1.fm zP.2
   have p9:1<=p*p/\p*p<=9:=by rcases hp with rfl|rfl <;> decide
   refine⟨rfl,(P,B,p*p,600,600,600),⟨rfl,zP.to p9.1 p9.2⟩,?_⟩;rintro _ rfl;dsimp only;rw[hi];refine⟨fun i s=>(i=0/\s=[.val (pD P B),.own [],.no,.no,.no,.no,.no])\/(i=1/\oh.run (ux Q) s),.inl ⟨rfl,rfl⟩,fun i d s hd hs=>?_,fun s hs=>?_⟩
   ·have hd:([D.int p]:List D)[i]? = some d:=hd;match i,hd with
    | 0,hd =>
     cases hd;rcases hs with⟨_,rfl⟩|⟨z,_⟩
     ·exact JP (j:=0) pj (by lia) (by rw[Nat.pow_two];exact zP) zG mG G0 e n (.inr ⟨rfl,fin⟩)
     ·cases z
    | i+1,hd=>cases hd
   ·rcases hs with⟨z,_⟩|⟨_,hs⟩
    ·cases z
    ·exact hs
  | j+1,n =>
   obtain⟨rfl,rfl⟩:p=2/\j=0:=by unfold Pj at pj;lia
   have n':=n;obtain⟨G2,U2,R0,C0,L2,hL2,zR,zG2,mG2,G20,e2,n2⟩:=n';have zP:S77 P B 8:=zP;have mp:B5 P B 4 2:=mp;have f0:Po.Fm R0 C0:=n2.sz.1.fm;have b2:=@Nc P G R G2 R0 B U C U2 C0 m (.own [cD (L'++[(G,U)])]);have mq:B5 P B 2 4:=(b2 (o3:=.no) (o4:=.no) (o5:=.no) (o6:=.no) (E:=⟨fun _=>True,fun _=>True,fun _=>True,fun _=>True⟩) zP zG mG G0 e zR zG2 mG2 G20 e2 f0 fun _ _ _=>trivial).1;have hi:ind P B 8=[1,2,4,8]:=by
    rw[yn fun s hs=>?_]
    ·rfl
    ·have:s=1\/s=2\/s=4\/s=8:=(by revert s;decide:∀ s∈dvs 8 8,s=1\/s=2\/s=4\/s=8) s hs;rcases this with rfl|rfl|rfl|rfl
     ·exact yl (n:=8) (by decide) zP.1.fm zP.2
     ·exact mp
     ·exact mq
     ·exact xp (n:=8) (by decide) zP.1.fm zP.2
   refine⟨rfl,(P,B,8,600,600,600),⟨rfl,zP.to (by decide) (by decide)⟩,?_⟩;rintro _ rfl;dsimp only;rw[hi];refine⟨fun i s=>(i=0/\s=[.val (pD P B),.own [],.no,.no,.no,.no,.no])\/(1<=i/\∃ o2 o3 o4 o5 o6,s=[.val (pD P B),.own [cD (L'++[(G,U)])],o2,o3,o4,o5,o6]),.inl ⟨rfl,rfl⟩,fun i d s hd hs=>?_,fun s hs=>?_⟩
   ·have hd:([D.int 2,D.int 4]:List D)[i]? = some d:=hd;match i,hd with
    | 0,hd =>
     cases hd;rcases hs with⟨_,rfl⟩|⟨z,_⟩
     ·exact JP (p:=2) (j:=1) pj (by lia) zP zG mG G0 e n (.inr ⟨ak _,_,_,_,_,_,rfl⟩)
     ·cases z
    | 1,hd =>
     cases hd;rcases hs with⟨z,_⟩|⟨_,o2,o3,o4,o5,o6,rfl⟩
     ·cases z
     ·refine (b2 zP zG mG G0 e zR zG2 mG2 G20 e2 f0 fun a b c=>?_).2;exact .inr ⟨Nat.le_add_left _ _,_,_,_,_,_,rfl⟩
    | i+2,hd=>cases hd
   ·rcases hs with⟨z,_⟩|⟨_,o2,o3,o4,o5,o6,rfl⟩
    ·cases z
    ·exact fin
theorem Aw{R:List Int}{C:Int}{n b:Nat}{f:Nat->Int}{c:Int}(fR:Po.Fm R C)(c0:c≠0)(h:∀ k,Qp.q R C k=(f k:Rat) / (c:Rat))(l1:∀ k,Lt2 n (f k))(l2:Lt2 b c):Pc.Pz n b R C:=by
 have e:∀ k,R.getD k 0*c=f k*C:=fun k=>(Qp.uD (ao fR.pos) c0).mp (h k);rcases dG c0 with s|s
 ·exact Pc.Pz.of fR (c:=-c) (f:=fun k => -f k) (by lia) (fun k=>by rw[Int.mul_neg,e,iz]) (fun k=>(l1 k).neg) l2.neg
 ·exact Pc.Pz.of fR s e l1 l2
theorem vU(h:Pc.Of P B G U R C)(z1:Pc.Pz n b P B)(z2:Pc.Pz m c G U)(lP:P.length=s+1)(hl:s*G.length<=400):Pc.Pz (n+(m+c+10)*s+2) (b+(c*s+1)) R C:=by
 have U0:=z2.fm.pos;have Y:=ay z1.fm.pos (Hv.pow_pos U0 s);refine Pc.Pz.of (f:=fun k=>Pc.pc (Cv.fn P) (Cv.fn G) U s k+Cv.fn P s*Pc.cp (Cv.fn G) s k) h.1 Y (fun k=>?_) (fun k=>?_) (z1.bot.mul (Hv.uz z2.bot s))
 ·have w:=h.2 k;rw[lP] at w;have w:R.getD k 0*(B*U^(s+1))=(Pc.pc (Cv.fn P) (Cv.fn G) U s k+Cv.fn P s*Pc.cp (Cv.fn G) s k)*U*C:=w;refine aK (ao U0) ?_;rw[aJ] at w;generalize Pc.pc (Cv.fn P) (Cv.fn G) U s k+Cv.fn P s*Pc.cp (Cv.fn G) s k=A at *;generalize U^s=X at *;grind
 ·have a:=Pc.F6 (F:=Cv.fn P) (g:=Cv.fn G) (fun k hk=>Cv.uk hk) (fun k=>z1.tops k) (fun k=>z2.tops k) z2.bot s hl k;have c1:=Pc.GW (g:=Cv.fn G) (fun k hk=>Cv.uk hk) (fun k=>z2.tops k) s hl k;have le:(m+9)*s<=(m+c+10)*s:=bH _ (by lia);have b1:Lt2 (n+(m+c+10)*s+1) (Cv.fn P s*Pc.cp (Cv.fn G) s k):=((z1.tops s).mul c1).mono (by lia);exact a.add b1
theorem DP{P:List Int}{B:Int}{n a b:Nat}(n1:1<=n)(z:Pc.Pz a b P B)(lP:P.length=n+1):Qp.q P B n≠0/\∃ N e,Pc.Pz a a N e/\N.length=n+1/\N.getD n 0=e/\N.getD 0 0=0/\∀ x,Qp.E P B x=Qp.q P B n*Qp.E N e x+Qp.q P B 0:=by
 obtain⟨q0,N,e,fN,lN,mN,N0,eN,qN⟩:=DR n1 z.fm lP;refine⟨q0,N,e,Aw (f:=fun k=>if k=0 then 0 else P.getD k 0) (c:=P.getD n 0) fN (uB z.fm lP) (fun k=>?_) (fun k=>?_) (z.tops n),lN,mN,N0,fun x=>?_⟩
 ·have B0:=Qp.uh z.fm.pos;have t0:=Qp.uO (uB z.fm lP);by_cases hk:k=0
  ·subst hk;rw[QI rfl];unfold Qp.q;rw[N0];show ((0:Int):Rat) / _=((0:Int):Rat) / _;grind
  ·rw[QJ hk,qN k (by lia)];unfold Qp.q;generalize ((P.getD k 0:Int):Rat)=x at *;generalize ((P.getD n 0:Int):Rat)=y at *;grind
 ·split
  ·exact xB _
  ·exact z.tops k
 ·rw[eN,← Qp.uV];generalize Qp.q P B n=u at *;grind
theorem DS{P:List Int}{B:Int}{n a b:Nat}(z:Pc.Pz a b P B)(q0:Qp.q P B n≠0):∃ W V,Pc.Pz a b W V/\W.length=2/\W.getD 1 0≠0/\∀ x,Qp.E W V x=Qp.q P B n*x+Qp.q P B 0:=by
 obtain⟨W,V,fW,lW,nW,qW,eW⟩:=Dn (Qp.q P B n) (Qp.q P B 0) q0;have w0:Qp.q W V 0=Qp.q P B 0:=by rw[← Qp.uV (P:=W),eW];grind
 refine⟨W,V,Aw (f:=fun k=>[P.getD 0 0,P.getD n 0].getD k 0) (c:=B) fW (ao z.fm.pos) (fun k=>?_) (fun k=>?_) z.bot,lW,nW,eW⟩
 ·match k with
  | 0=>exact w0
  | 1=>exact qW
  | k+2 =>
   rw[Qp.uK (by lia)];show (0:Rat)=((0:Int):Rat) / _;grind
 ·match k with
  | 0=>exact z.tops 0
  | 1=>exact z.tops n
  | k+2=>exact xB _
theorem CA{H K F:List Int}{V κ B:Int}{p a b m c:Nat}(p1:1<=p)(p3:p<=3)(z:Pc.Pz a b H V)(lH:H.length=p+1)(zK:Pc.Pz m c K κ)(lK:K.length=p+1)(h1:a+(m+c+10)*p+2<=600)(h2:b+(c*p+1)<=600)(zF:S77 F B (p^2))(e:∀ x,Qp.E F B x=Qp.E H V (Qp.E K κ x)):∃ L,NC p 1 L F B:=by
 have m6:m<=600:=by
  have:m*1<=(m+c+10)*p:=bI (by lia) p1;lia
 obtain⟨q0,N,v,zN,lN,mN,N0,eN⟩:=DP p1 zK lK;obtain⟨W,w,zW,lW,nW,eW⟩:=DS zK q0;obtain⟨R,C,o⟩:=vt z.fm zW.fm;have zR:=vU o z zW lH (by rw[lW];lia);have lR:R.length=p+1:=by
  rw[← lH];exact (Qp.Gh z.fm zW.fm lW (by intro e;rw[e] at lH;simp at lH) nW o).1
 refine⟨[(R,C)]++[(N,v)],N,v,R,C,[(R,C)],rfl,zF,⟨zN.mono m6 m6,lN⟩,mN,N0,fun x=>?_,rfl,zR.mono h1 h2,lR⟩;rw[e,Qp.wn z.fm.pos zW.fm.pos o,eW,← eN x]
theorem Go{H F:List Int}{V B:Int}(z:Pc.Pz 45 10 H V)(lH:H.length=3)(zF:S77 F B 8)(e:∀ x,Qp.E F B x=Qp.E H V (Qp.E H V (Qp.E H V x))):∃ L,NC 2 2 L F B:=by
 obtain⟨q0,N,v,zN,lN,mN,N0,eN⟩:=DP (by decide) z lH;obtain⟨W,w,zW,lW,nW,eW⟩:=DS z q0;obtain⟨R,C,o⟩:=vt z.fm zW.fm;have zR:=(vU o z zW lH (by rw[lW];decide)).mono (n':=177) (b':=31) (by decide) (by decide);have lR:R.length=3:=by
  rw[← lH];exact (Qp.Gh z.fm zW.fm lW (by intro e;rw[e] at lH;simp at lH) nW o).1
 obtain⟨S,D1,o2⟩:=vt z.fm zR.fm;have zS:=(vU o2 z zR lH (by rw[lR];decide)).mono (n':=600) (b':=600) (by decide) (by decide);have eS:∀ x,Qp.E S D1 x=Qp.E H V (Qp.E R C x):=fun x=>Qp.wn z.fm.pos zR.fm.pos o2 x;have lS:S.length=5:=Pc.Of.deg_eq (n:=2) (d:=2) z.fm.pos zR.fm.pos o2 lH lR (by decide) (uB z.fm lH) (uB zR.fm lR);obtain⟨L,n⟩:=CA (p:=2) (by decide) (by decide) z lH zR lR (by decide) (by decide) ⟨zS,lS⟩ eS;refine⟨L++[(N,v)],N,v,S,D1,L,rfl,zF,⟨zN.mono (by decide) (by decide),lN⟩,mN,N0,fun x=>?_,n⟩;rw[e,eS,Qp.wn z.fm.pos zW.fm.pos o,eW,← eN x]
def Sw(P:List Int)(B:Int)(n:Nat):Prop:=Po.Fm P B/\P.length=n+1
def NCw(p:Nat):Nat->List Pl->List Int->Int->Prop
 | 0,L,P,B=>L=[(P,B)]/\Sw P B p
 | j+1,L,P,B=>∃(G:List Int) (U:Int) (R:List Int) (C:Int) (L':List Pl),L=L'++[(G,U)]/\Sw P B (p^(j+2))/\Sw G U p/\G.getD p 0=U/\G.getD 0 0=0/\(∀ x,Qp.E P B x=Qp.E R C (Qp.E G U x))/\NCw p j L' R C
theorem NC.w:∀{j:Nat} {L:List Pl} {P:List Int} {B:Int},NC p j L P B->NCw p j L P B
 | 0,_,_,_,h=>⟨h.1,h.2.1.fm,h.2.2⟩
 | j+1,_,_,_,h=>by
  obtain⟨G,U,R,C,L',h,zP,zG,mG,G0,e,n⟩:=h;exact⟨G,U,R,C,L',h,⟨zP.1.fm,zP.2⟩,⟨zG.1.fm,zG.2⟩,mG,G0,e,n.w⟩
theorem NCw.sz:∀{j:Nat} {L:List Pl} {P:List Int} {B:Int},NCw p j L P B->Sw P B (p^(j+1))
 | 0,_,_,_,h=>by rw[gG];exact h.2
 | j+1,_,_,_,h=>by obtain⟨_,_,_,_,_,_,h,_⟩:=h;exact h
theorem NCw.uniq(p1:1<=p):∀{j:Nat} {L M:List Pl} {P:List Int} {B:Int},NCw p j L P B->NCw p j M P B->L=M
 | 0,_,_,_,_,h,h'=>by rw[h.1,h'.1]
 | j+1,_,_,P,B,h,k=>by
  obtain⟨G,U,R,C,L',rfl,zP,zG,mG,G0,e,n⟩:=h;obtain⟨G',U',R',C',M',rfl,_,zG',mG',G0',e',n'⟩:=k;have lP:P.length=p^(j+1)*p+1:=zP.2;have k1:1<=p^(j+1):=bg p1;have c:=vj k1 p1 zP.1 lP zG.1 zG.2 mG G0 ⟨R,C,n.sz.1,e⟩;have c':=vj k1 p1 zP.1 lP zG'.1 zG'.2 mG' G0' ⟨R',C',n'.sz.1,e'⟩;obtain⟨rfl,rfl⟩:=Cn.uniq zP.1 lP k1 c c';obtain⟨rfl,rfl⟩:=xl zG.1 zG.2 p1 n.sz.1 n'.sz.1 fun x=>by rw[← e,← e']
  rw[NCw.uniq p1 n n']
theorem AF(h:NX (c::cs) (d::ds))(l:c.1.length=p+1):Sw d.1 d.2 p/\d.1.getD p 0=d.2/\d.1.getD 0 0=0/\NX cs ds:=by
 obtain⟨d',ds',e,f,ex,ld1,l1,_,n⟩:=h;cases e;have lp:d.1.length=p+1:=ld1.trans l;have e0:=f.pos;have n2:=Qp.uh e0;refine⟨⟨f,lp⟩,?_,?_,n⟩
 ·have h:((d.1.getD p 0:Int):Rat) / (d.2:Rat)=((1:Int):Rat) / ((1:Int):Rat):=by
   have:Qp.q d.1 d.2 p=((1:Int):Rat) / ((1:Int):Rat):=by
    have l1:Qp.q d.1 d.2 (d.1.length-1)=1:=l1;rw[lp,bJ] at l1;rw[l1];show (1:Rat)=1 / 1;grind
   exact this
  have:=(Qp.uD (ao e0) (by decide)).mp h;lia
 ·have h:Qp.q d.1 d.2 0=0:=by
   rw[← Qp.uV,ex,show (vi cs).1*0+(vi cs).2=(vi cs).2 by grind];show (Qp.E c.1 c.2 (vi cs).2-Qp.E c.1 c.2 (vi cs).2)*_=0;grind
  unfold Qp.q at h;have:((d.1.getD 0 0:Int):Rat)=0:=by
   generalize ((d.1.getD 0 0:Int):Rat)=y at *;have:y=y / (d.2:Rat)*d.2:=by grind
   rw[this,h];grind
  exact cL.mp this
theorem Gi{a b F:Pl}(p1:2<=p)(la:a.1.length=p+1)(lb:b.1.length=p+1)(fa:Po.Fm a.1 a.2)(fb:Po.Fm b.1 b.2)(sF:Sw F.1 F.2 (p^2))(e:∀ x,Qp.E F.1 F.2 x=Qp.E a.1 a.2 (Qp.E b.1 b.2 x))(h:NH [a,b] ds):NCw p 1 ds F.1 F.2:=by
 have hl:∀ c∈[a,b],Ly c:=fun c hc=>by
  rcases av.mp hc with rfl|hc
  ·exact⟨fa,by lia⟩
  ·rw[aq.mp hc];exact⟨fb,by lia⟩
 have ec:=h.neat.ec hl;obtain⟨d,ds',rfl,fd,ex,ld1,_,n⟩:=h;match ds',n with
 | [],n=>obtain⟨_,_,z,_⟩:=n;cases z
 | g::ds',n =>
  obtain⟨sg,mg,g0,n⟩:=AF n lb;cases (show ds'=[] from n);refine⟨g.1,g.2,d.1,d.2,[d],rfl,sF,sg,mg,g0,fun x=>?_,rfl,fd,ld1.trans la⟩;have:=ec x;rw[e];exact this.symm
theorem Gj{a F:Pl}(la:a.1.length=3)(fa:Po.Fm a.1 a.2)(sF:Sw F.1 F.2 8)(e:∀ x,Qp.E F.1 F.2 x=Qp.E a.1 a.2 (Qp.E a.1 a.2 (Qp.E a.1 a.2 x)))(h:NH [a,a,a] ds):NCw 2 2 ds F.1 F.2:=by
 have hl:∀ c∈[a,a,a],Ly c:=fun c hc=>by
  have:c=a:=by simpa using hc
  rw[this];exact⟨fa,by lia⟩
 have ec:=h.neat.ec hl;obtain⟨d,ds',rfl,fd,ex,ld1,_,n⟩:=h;match ds',n with
 | [],n=>obtain⟨_,_,z,_⟩:=n;cases z
 | g::[],n=>obtain⟨_,_,z,_,_,_,_,_,n⟩:=n;cases z;obtain⟨_,_,z,_⟩:=n;cases z
 | g::g'::ds',n =>
  obtain⟨sg,mg,g0,n⟩:=AF (p:=2) n la;obtain⟨sg',mg',g0',n⟩:=AF (p:=2) n la;cases (show ds'=[] from n);obtain⟨R,C,o⟩:=vt fd sg.1;have eR:∀ x,Qp.E R C x=Qp.E d.1 d.2 (Qp.E g.1 g.2 x):=fun x=>Qp.wn fd.pos sg.1.pos o x;have ld:d.1.length=3:=ld1.trans la;have lR:R.length=5:=Pc.Of.deg_eq (n:=2) (d:=2) fd.pos sg.1.pos o ld sg.2 (by decide) (uB fd ld) (uB sg.1 sg.2);refine⟨g'.1,g'.2,R,C,[d,g],rfl,sF,sg',mg',g0',fun x=>?_,g.1,g.2,d.1,d.2,[d],rfl,⟨o.1,lR⟩,sg,mg,g0,eR,rfl,fd,ld⟩;have:=ec x;rw[e,eR];exact this.symm
def Sh77(s kk n b:Nat):Prop:=(s=2/\kk=4/\n=45/\b=10)\/(s=3/\kk=2/\n=60/\b=13)
def xz(H:List Int)(V:Int)(s:Nat):Prop:=∃ kk n b,Sh77 s kk n b/\Pc.Pz n b H V/\H.length=s+1/\∀ R C,Pc.It H V kk R C->Pc.Pz 133 133 R C
def zm(s k:Nat):Prop:=(s=2/\k=2)\/(s=2/\k=3)\/(s=3/\k=2)
def mt:SpB:=.of 1 (α:=Unit) (fun _ ds=>ds=[.fl]) (fun _ d=>∃ H V s k,d = .tup [pD H V,.int (k:Nat)]/\xz H V s/\zm s k)
def pg:TSd:=(iZ [] (jg (iR (iS 3) (iR (iS 2) iT))))
def kM:TSd:=dSq (dIf [] (j5 (kA (iU kJ (iR (je (iR (iU mr (iR (iS 3) (iR (iV .Sub (dC (.int 4)) (iV .Mult (dC (.int 2)) (dB bInt bInt.mono (iR (i6 .Eq (iS 1) (dC (.int 3))) iT)))) iT))) iT)) iT))))
 (iY [] (gNm 3) (iU i9 (iR (iV .Add (iV .Add (je (iR (iV .Add (dC (.int 1)) (iU iX (iR (iS 0) (iR (dC (.int 3)) iT)))) iT)) (iV .Mult (je (iR (dC (.int 0)) iT)) (iV .Sub (iS 1) (dC (.int 1))))) (je (iR (dC (.int 1)) iT))) (iR (dC (.int 1)) iT))))
 i8)
 pg
def jQ:TSd:=dSq (dIf [] (i5 (i6 .Eq (iU iX (iR (iS 0) (iR (dC (.int 4)) iT))) (dC (.int 0))))
 (dSq (iY [] (gNm 3) (iU i9 (iR (i7 (jv (dIx (iS 3) (dC (.int 0)))) [4,5] (gTp [4,5]) jt (iV .Mult (iS 5) (dB bInt bInt.mono (iR (i6 .Eq (iV .Mod (iV .Sub (iS 1) (iS 4)) (dC (.int 2))) (dC (.int 0))) iT)))) (iR (dIx (iS 3) (dC (.int 1))) iT))))
 (dSq (iY [] (gNm 6) (iU j6 (iR (jg (iR (dC (.int 1)) (iR (dC (.int 1)) iT))) (iR (iU jD (iR (iS 0) (iR (dC (.int 3)) iT))) iT))))
 (iY [] (gNm 3) (iU kw (iR (iU jG (iR (iS 6) iT)) (iR (iU kw (iR (iS 3) (iR (iS 6) iT))) iT))))))
 i8)
 kM
def kN:TSd:=dSq (iY [] (gNm 3) (iU jp (iR (iS 0) (iR (iS 1) (iR (dIx (je (iR (dC (.int 3)) (iR (dC (.int 9)) (iR (dC (.int 99)) (iR (dC (.int 999)) iT))))) (iU iX (iR (iS 0) (iR (dC (.int 4)) iT)))) iT)))))
 jQ
def rl:TSd:=dSq (iY [] (gTp [1,2]) (dIx (je (iR (jg (iR (dC (.int 2)) (iR (dC (.int 2)) iT))) (iR (jg (iR (dC (.int 2)) (iR (dC (.int 3)) iT))) (iR (jg (iR (dC (.int 3)) (iR (dC (.int 2)) iT))) iT)))) (iU iX (iR (iS 0) (iR (dC (.int 3)) iT)))))
 kN
structure Ag77 (s kk n b:Nat):Prop where
 s2:2<=s
 s3:s<=3
 k4:kk<=4
 k1:2<=kk
 n16:s^kk<=16
 ag:E5 (s+1) kk n b 2 400000
 sm:aW (s+1) (kk-1)<=133\/(s=2/\aV (kk-1)<=133)
 lo:2<=n/\1<=b
 h1:10+(2+2+10)*s+2+3<=n
 h2:3+(2*s+1)+2<=b
 ek:(4:Int)-2*(if decide ((s:Int)=3) then (1:Int) else 0)=(kk:Int)
theorem Sh77.a(h:Sh77 s kk n b):Ag77 s kk n b:=by
 rcases h with⟨rfl,rfl,rfl,rfl⟩|⟨rfl,rfl,rfl,rfl⟩;all_goals exact⟨by decide,by decide,by decide,by decide,by decide,by unfold E5;decide +kernel,by decide,by decide,by decide,by decide,by decide⟩
theorem zQ{H:List Int}{V:Int}{s kk n b k:Nat}{o4 o5 o6:SD}{Q:D->Prop}(hs:Sh77 s kk n b)(hk:zm s k)(z:Pc.Pz n b H V)(lH:H.length=s+1)(q:∀ d,(∃ H V s k,d = .tup [pD H V,.int (k:Nat)]/\xz H V s/\zm s k)->Q d):kM.run (ux Q) [.val .fl,.val (.int (s:Nat)),.val (.int (k:Nat)),.val (pD H V),o4,o5,o6]:=by
 obtain⟨s2,s3,k4,k1,n16,ag,sm,lo,_,_,ek⟩:=hs.a;refine⟨⟨2,1,by decide,?_,by decide⟩,?_⟩
 ·show Lt2 1 (if decide ((s:Int)=3)=true then (1:Int) else 0);split <;> (unfold Lt2;decide)
 refine⟨rfl,(H,V,s,kk,n,b),⟨?_,z,lH,by show 1<=s;lia,by show s<=100;lia,by show kk<=20;lia,ag⟩,?_⟩
 ·show [pD H V,D.int (4-2*(if decide ((s:Int)=3)=true then (1:Int) else 0))]=[pD H V,D.int _];rw[ek]
 rintro _ ⟨R,C,rfl,it⟩;have it:Pc.It H V kk R C:=it;have lR:=It.len z.fm lH (by lia) it;refine⟨zn,rfl,[(R,C)],⟨rfl,fun p hp=>?_⟩,?_⟩
 ·rw[aq.mp hp];exact⟨it.fm.pos,by show R.length<=1000;lia⟩
 rintro _ ⟨c,rfl,hc⟩;cases c with
 | true =>
  obtain⟨h1,h2⟩:=hc rfl (R,C) aG;refine⟨vK,q _ ⟨H,V,s,k,rfl,⟨kk,n,b,hs,z,lH,fun R' C' it'=>?_⟩,hk⟩⟩;obtain⟨rfl,rfl⟩:=it.uniq z.fm.pos it';exact⟨it.fm,h2,h1⟩
 | false =>
  refine⟨rfl,3,⟨rfl,by decide,Ht (by decide)⟩,?_⟩;rintro _ ⟨i,rfl,i0,i3⟩;have e1:((s:Int)-1)=((s-1:Nat):Int):=by lia
  refine⟨zn,zn,⟨by lia,by lia,?_,?_⟩⟩
  ·rw[e1];show 1*(s-1)<=_;have:=vO (n:=s-1) (by lia);lia
  have hl:(Pu ((s:Int)-1).toNat [D.int 0]).flatten=(Pu (s-1) (0:Int)).map D.int:=by rw[e1,aS,xg]
  have lz:(1+s-1+1)<=Pv:=vO (by lia);rw[hl];obtain⟨ts,hts⟩:∃ ts,ts=[1+i]++Pu (s-1) (0:Int)++[1]:=⟨_,rfl⟩;have lt:ts.length=s+1:=by rw[hts,aB,aB,aX];show 1+(s-1)+1=s+1;lia
  refine⟨by rw[aa,aX];show 1+(s-1)<=_;lia,zn,by rw[aB,aa,aX];show 1+(s-1)+1<=_;lia,rfl,(ts,1),⟨.inl ?_,by show (0:Int)<1;decide,Ht (m:=1) (by decide),by show ts.length<=1000;lia⟩,?_⟩
  ·rw[hts,bw,bw];rfl
  rintro _ ⟨P,B,rfl,fm,hw,hle⟩;have hw:∀ j,P.getD j 0*1=ts.getD j 0*B:=hw;have hle:P.length<=ts.length:=hle;have tl:∀ j,Lt2 2 (ts.getD j 0):=fun j=>by
   have:ts.getD j 0=0\/ts.getD j 0=1\/ts.getD j 0=1+i:=by
    rcases ar j ts.length with y|y
    ·have m:ts.getD j 0∈ts:=by
      rw[ae,au y];exact gA y
     rw[hts] at m ⊢;rcases bS.mp m with m|m
     ·rcases bS.mp m with m|m
      ·exact .inr (.inr (aq.mp m))
      ·exact .inl (dD m)
     ·exact .inr (.inl (aq.mp m))
    ·exact .inl (uj y)
   unfold Lt2;rcases this with e|e|e <;> rw[e] <;> lia
  have zP:Pc.Pz 2 1 P B:=Pc.Pz.of fm (c:=1) (by decide) hw tl (by unfold Lt2;decide);cases Lq zP;have last:ts.getD s 0=1:=by
   rw[hts];exact uM (by rw[bv (by rw[aB,aX];show 1+(s-1)<=s;lia),aB,aX,show s-([1+i].length+(s-1))=0 by show s-(1+(s-1))=0;lia];rfl)
  have lP:P.length=s+1:=by
   have:=hw s;rw[last] at this;rcases ar s P.length with y|y
   ·lia
   ·rw[uj y] at this;lia
  refine⟨vK,q _ ⟨P,1,s,k,rfl,⟨kk,n,b,hs,zP.mono lo.1 lo.2,lP,fun R' C' it'=>?_⟩,hk⟩⟩;obtain⟨j,rfl⟩:∃ j,kk=j+1:=⟨kk-1,by lia⟩;rcases sm with sm|⟨s2',sm⟩
  ·have:=BG zP (by lia) lP (by lia) n16 it';rw[lP] at this;exact this.mono sm (by decide)
  ·subst s2';have w1:P.getD 1 0*1=ts.getD 1 0*1:=hw 1;have w2:P.getD 2 0*1=ts.getD 2 0*1:=hw 2;have t1:ts.getD 1 0=0:=by rw[hts];rfl
   exact (GB zP lP (by lia) (by lia) n16 it').mono sm (by decide)
theorem E8{L:List Int}{v:Int}{r:Rat}{n b:Nat}(fL:Po.Fm L v)(l:L.length<=2){t u:Int}(u0:0<u)(lt:Lt2 n t)(lu:Lt2 n u)(lb:Lt2 b u)(q1:Qp.q L v 1=1)(q0:Qp.q L v 0=(t:Rat) / (u:Rat)):Pc.Pz n b L v:=by
 have u1:=Qp.uh u0;refine Aw (f:=fun k=>[t,u].getD k 0) (c:=u) fL (ao u0) (fun k=>?_) (fun k=>?_) lb
 ·match k with
  | 0=>exact q0
  | 1 =>
   rw[q1];show (1:Rat)=(u:Rat) / (u:Rat);grind
  | k+2 =>
   rw[Qp.uK (by lia)];show (0:Rat)=((0:Int):Rat) / _;grind
 ·match k with
  | 0=>exact lt
  | 1=>exact lu
  | k+2=>exact xB _
theorem Gg(hs:Sh77 s kk n b)(hk:zm s k)(z:Pc.Pz 10 3 P B)(lP:P.length=s+1)(q:∀ d,(∃ H V s k,d = .tup [pD H V,.int (k:Nat)]/\xz H V s/\zm s k)->Q d):jQ.run (ux Q) [.val .fl,.val (.int (s:Nat)),.val (.int (k:Nat)),.val (pD P B),.no,.no,.no]:=by
 obtain⟨s2,s3,k4,k1,n16,ag,sm,lo,hA,hB,ek⟩:=hs.a;have z':Pc.Pz n b P B:=z.mono (by lia) (by lia);refine⟨rfl,4,⟨rfl,by decide,Ht (by decide)⟩,?_⟩;rintro _ ⟨i,rfl,i0,i4⟩;refine yo (p:=i=0) (fun c=>?_) (fun c=>zQ hs hk z' lP q);have le:(vc (P.map D.int)).length=s+1:=by simp[vc,lP]
 refine⟨(congrArg (· <= Pv) le).mpr (vO (by lia)),nI (fun j=>P.getD j 0*(if decide (((s:Int)-(j:Int)).fmod 2=0) then (1:Int) else 0)),nI.nil,fun j d ys hd _ hy=>?_,fun ys _ hy=>?_⟩
 ·obtain⟨hj,rfl⟩:=uW hd;refine⟨rfl,by decide,?_,hy.snoc rfl⟩;refine⟨10,1,z.tops j,?_,by decide⟩;by_cases h:((s:Int)-(j:Int)).fmod 2=0
  ·show Lt2 1 (if decide (((s:Int)-(j:Int)).fmod 2=0) then (1:Int) else 0);rw[QI (decide_eq_true h)];decide
  ·show Lt2 1 (if decide (((s:Int)-(j:Int)).fmod 2=0) then (1:Int) else 0);rw[QJ (by simpa using h)];decide
 have hy:nI _ (vc (P.map D.int)).length ys:=hy;rw[le] at hy;obtain⟨ts,rfl,lt,ht⟩:=hy;refine⟨rfl,(ts,B),⟨.inl rfl,z.fm.pos,z.bot.mono (by decide),by show ts.length<=1000;lia⟩,?_⟩;rintro _ ⟨H,V,rfl,fH,hw,hle⟩;have hw:∀ j,H.getD j 0*B=ts.getD j 0*V:=hw;have hle:H.length<=ts.length:=hle;have tl:∀ j,Lt2 10 (ts.getD j 0):=fun j=>by
  rcases ar j (s+1) with y|y
  ·rw[ht j y];dsimp only;split
   ·rw[bq];exact z.tops j
   ·rw[bD];exact xB _
  ·rw[uj (by lia)];exact xB _
 have zH:Pc.Pz 10 3 H V:=Pc.Pz.of fH z.fm.pos hw tl z.bot;have top:=uB z.fm lP;have lH:H.length=s+1:=by
  have e:=hw s;rw[ht s (by lia)] at e;dsimp only at e;rw[Int.sub_self,QI (by decide),bq] at e;rcases ar s H.length with y|y
  ·lia
  ·rw[uj y,aN] at e;rcases cr.mp e.symm with w|w
   ·exact absurd w top
   ·have:=fH.pos;lia
 refine⟨vK,rfl,(3,2),⟨rfl,by decide,by unfold Lt2;decide,by decide,by decide⟩,?_⟩;rintro d ⟨r,fr⟩;have fr:FqD 2 2 d r:=fr;refine⟨rfl,(fD 1 1,d,1,r,1,1,2,2),⟨rfl,vx (t:=1) (by decide),fr,by decide,by decide,by decide⟩,?_⟩;rintro _ ⟨L,v,rfl,zL,eL,lL,q0,q1⟩;have lL:L.length<=2:=lL;have q1:Qp.q L v 1=1:=q1;have q0:Qp.q L v 0=r:=q0;obtain⟨t,u,_,u0,_,lt',lu,er⟩:=fr;have zL:Pc.Pz 2 2 L v:=E8 (r:=r) zL.fm lL u0 lt' lu lu q1 (q0.trans er);obtain⟨len,n1⟩:=yw (by rw[q1];decide) lL;refine⟨rfl,(L,v,2,2),⟨rfl,zL,len,n1,by decide,by decide⟩,?_⟩;rintro _ ⟨L2,v2,rfl,zL2,lL2,p1,p0⟩;have lL2:L2.length<=2:=lL2;have p1:Qp.q L2 v2 1=1 / Qp.q L v 1:=p1;have p0:Qp.q L2 v2 0=(0-Qp.q L v 0) / Qp.q L v 1:=p0;have p1':Qp.q L2 v2 1=1:=by rw[p1,q1];grind
 have zL2:Pc.Pz 2 2 L2 v2:=E8 (r:=r) (t:=-t) zL2.fm lL2 u0 lt'.neg lu lu p1' (by rw[p0,q1,q0,er,dW];grind);obtain⟨len2,n2⟩:=yw (by rw[p1'];decide) lL2;refine⟨rfl,(H,V,L,v,10,3,2,2),⟨rfl,zH,zL,by rw[lH];lia,by rw[lH];lia,by rw[lH,len];lia,by lia,by lia⟩,?_⟩;rintro _ ⟨M,w,rfl,o⟩;have o:Pc.Of H V L v M w:=o;obtain⟨lM,_⟩:=Ch.DT zH.fm zL.fm len n1 (by lia) o;have zM:=vU o zH zL lH (by rw[len];lia);refine⟨rfl,(L2,v2,M,w,2,2,10+(2+2+10)*s+2,3+(2*s+1)),⟨rfl,zL2,zM,by rw[len2];lia,by rw[len2];lia,by rw[lM,lH,len2];lia,by lia,by lia⟩,?_⟩;rintro _ ⟨M2,w2,rfl,o2⟩;have o2:Pc.Of L2 v2 M w M2 w2:=o2;obtain⟨lM2,_⟩:=yR len2 n2 zL2.fm zM.fm (by lia) o2;have zM2:=(J7 o2 len2 zL2 zM).mono (n':=n) (b':=b) (by lia) (by lia);exact zQ hs hk zM2 (by lia) q
theorem oi:Does 7 rl mt:=by
 rintro ds Q hn ⟨_,rfl,q⟩;have key:∀ s k kk n b:Nat,Sh77 s kk n b->zm s k->kN.run (ux Q) [.val .fl,.val (.int (s:Nat)),.val (.int (k:Nat)),.no,.no,.no,.no]:=fun s k kk n b hs hk=>by
  obtain⟨s2,s3,k4,k1,n16,ag,sm,lo,hA,hB,ek⟩:=hs.a;have go:∀ m:Int,1<=m->m<=999->([D.fl,.int (s:Nat),.int m].length=jp.n/\jp.run [.fl,.int (s:Nat),.int m] fun d=>jQ.run (ux Q) [.val .fl,.val (.int (s:Nat)),.val (.int (k:Nat)),.val d,.no,.no,.no]):=fun m m1 m9=>by
   refine⟨rfl,(s,m,10),⟨rfl,by show s<=100;lia,m1,by unfold Lt2;lia,by decide⟩,?_⟩;rintro _ ⟨P,B,rfl,z,lP⟩;exact Gg hs hk z lP q
  refine⟨vO (n:=4) (by decide),rfl,4,⟨rfl,by decide,Ht (by decide)⟩,?_⟩;rintro _ ⟨i,rfl,i0,i1⟩;exact DF i0 i1 (go 3 (by decide) (by decide)) (go 9 (by decide) (by decide)) (go 99 (by decide) (by decide)) (go 999 (by decide) (by decide))
 refine⟨vK,vK,vK,vO (n:=3) (by decide),rfl,3,⟨rfl,by decide,Ht (by decide)⟩,?_⟩;rintro _ ⟨i,rfl,i0,i1⟩;exact MB i0 i1 ⟨rfl,key 2 2 4 45 10 (by unfold Sh77;decide) (by unfold zm;decide)⟩ ⟨rfl,key 2 3 4 45 10 (by unfold Sh77;decide) (by unfold zm;decide)⟩ ⟨rfl,key 3 2 2 60 13 (by unfold Sh77;decide) (by unfold zm;decide)⟩
def jl:SpB:=.of 1 (α:=List Pl) (fun cs ds=>ds=[cD cs]/\cs.length<=100) (fun cs d=>d = .lst (cs.map fun c=>D.int ((c.1.length:Int)-1)))
def ph:TSd:=(iZ [] (i7 (jd (iS 0)) [1] (gNm 1) jt (iV .Sub (dB bLen bLen.mono (iR (dIx (iS 1) (dC (.int 0))) iT)) (dC (.int 1)))))
theorem mO:Does 2 ph jl:=by
 rintro ds Q hn ⟨cs,⟨rfl,hl⟩,q⟩;dsimp only at hl q;refine v6 (fun i y=>∃ c,cs[i]? = some c/\y=D.int ((c.1.length:Int)-1)) (by rw[aa];lia) (fun i d hd=>?_) fun ys ly hy=>q _ (congrArg D.lst ?_)
 ·rw[aM] at hd;obtain⟨c,hc,rfl⟩:=ab.mp hd;exact⟨c,hc,congrArg (fun n:Nat=>D.int ((n:Int)-1)) (aa _)⟩
 ·rw[aa] at ly;refine gB (by rw[ly,aa]) fun i h1 h2=>?_;obtain⟨c,hc,e⟩:=hy i _ (au h1);rw[e,iP,(aj.mp hc).2]
theorem NC.lay:∀{j:Nat} {L:List Pl} {P:List Int} {B:Int},NC p j L P B->∀ c∈L,S77 c.1 c.2 p
 | 0,_,_,_,h,c,hc=>by
  obtain⟨h,z⟩:=h;rw[h] at hc;rw[aq.mp hc];exact z
 | j+1,_,_,_,h,c,hc=>by
  obtain⟨G,U,R,C,L',h,_,z,_,_,_,n⟩:=h;rw[h] at hc;rcases bS.mp hc with q|q
  ·exact n.lay c q
  ·rw[aq.mp q];exact z
theorem LW(p3:p<=3)(h:∀ c∈L,S77 c.1 c.2 p)(l1:1<=L.length)(l3:L.length<=3)(hp:L.length=3->p<=2):∃ n b l,Tz 1 L n b l:=by
 match L,h,l1,l3,hp with
 | [a],h,_,_,_=>exact⟨600,600,4,.inl ⟨rfl,(h a (by simp)).1,by rw[(h a (by simp)).2];lia⟩⟩
 | [a,b],h,_,_,_ =>
  have ha:=h a (by simp);have hb:=h b (by simp);refine⟨6000,4000,100,.inr ⟨600,600,600,600,4,ha.1,.inl ⟨rfl,hb.1,by rw[hb.2];lia⟩,?_⟩⟩;rw[ha.2];refine⟨by lia,by lia,by lia,by lia,by lia,by lia,by lia,by lia⟩
 | [a,b,c],h,_,_,hp =>
  have ha:=h a (by simp);have hb:=h b (by simp);have hc:=h c (by simp);have p2:=hp rfl;refine⟨60000,60000,190,.inr ⟨600,600,6000,4000,13,ha.1,.inr ⟨600,600,600,600,4,hb.1,.inl ⟨rfl,hc.1,by rw[hc.2];lia⟩,?_⟩,?_⟩⟩
  ·rw[hb.2];refine⟨by lia,by lia,by lia,by lia,by lia,by lia,by lia,by lia⟩
  ·rw[ha.2];refine⟨by lia,by lia,by lia,by lia,by lia,by lia,by lia,by lia⟩
theorem HH{F H:List Int}{B V:Int}{s k:Nat}{w:Pl}(one:xz H V s)(hk:zm s k)(fF:Po.Fm F B)(ah:Ag F B k H V)(aw:Ag F B k w.1 w.2):(s=2/\w=(H,V))\/(s=3/\k=2/\Pc.Pz 140 80 w.1 w.2/\w.1.length=4):=by
 obtain⟨kk,n,b,hs,z,lH,_⟩:=one;have sh:Shp s k:=by unfold zm at hk;unfold Shp;lia
 have lw:=(Em sh lH ah fF aw).1;rcases LC sh lH ah fF aw with⟨e1,e2⟩|⟨rfl,rfl,c,hc⟩
 ·rcases hs with⟨rfl,rfl,rfl,rfl⟩|⟨rfl,rfl,rfl,rfl⟩
  ·exact .inl ⟨rfl,Prod.ext e1 e2⟩
  ·refine .inr ⟨rfl,by unfold zm at hk;lia,?_,lw⟩;rw[e1,e2];exact z.mono (by decide) (by decide)
 ·obtain⟨rfl,rfl,rfl⟩:kk=2/\n=60/\b=13:=by unfold Sh77 at hs;lia
  refine .inr ⟨rfl,rfl,?_,lw⟩;have ec:=LD fF lH ah aw hc;obtain⟨T,f,fT,eT,lT⟩:=Ap.Pl'.const c;have ql:=Ap.vn (u:=-1) aw.1 z.fm fT fun x=>by rw[hc,eT];grind
  have V0:=Qp.uh z.fm.pos;have t3:=uB z.fm lH;have T3:=Qp.uO t3;have q0:Qp.q w.1 w.2 0=c-Qp.q H V 0:=by rw[← Qp.uV,hc,Qp.uV]
  refine Aw (f:=fun k=>if k=0 then -(2*H.getD 2 0*V)-3*H.getD 3 0*H.getD 0 0 else -(3*H.getD 3 0*H.getD k 0)) (c:=3*H.getD 3 0*V) aw.1 ?_ (fun k=>?_) (fun k=>?_) ?_
  ·intro z0;rcases cr.mp z0 with y|y
   ·lia
   ·exact absurd y (ao z.fm.pos)
  ·by_cases hk0:k=0
   ·subst hk0;rw[QI rfl,q0,ec];unfold Qp.q;simp only[gK,dW,az];generalize ((H.getD 0 0:Int):Rat)=x0 at *;generalize ((H.getD 2 0:Int):Rat)=x2 at *;generalize ((H.getD 3 0:Int):Rat)=x3 at *;generalize (V:Rat)=y at *;show -(2*(x2 / y)) / (3*(x3 / y))-x0 / y=(-(2*x2*y)-3*x3*x0) / (3*x3*y);grind
   ·rw[QJ hk0,ql,Qp.uK (P:=T) (k:=k) (by lia)];unfold Qp.q;simp only[dW,az];generalize ((H.getD k 0:Int):Rat)=x0 at *;generalize ((H.getD 3 0:Int):Rat)=x3 at *;generalize (V:Rat)=y at *;show -1*(x0 / y)+0 = -(3*x3*x0) / (3*x3*y);grind
  ·have h3:Lt2 62 (3*H.getD 3 0):=((show Lt2 2 3 by unfold Lt2;decide).mul (z.tops 3)).mono (by decide);have h2:Lt2 62 (2*H.getD 2 0):=((show Lt2 2 2 by unfold Lt2;decide).mul (z.tops 2)).mono (by decide);split
   ·have a1:Lt2 122 (2*H.getD 2 0*V):=(h2.mul z.bot).mono (by decide);have a2:Lt2 122 (3*H.getD 3 0*H.getD 0 0):=(h3.mul (z.tops 0)).mono (by decide);have:=a1.neg.add a2.neg;rw[← Int.sub_eq_add_neg] at this;exact this.mono (by decide)
   ·exact ((h3.mul (z.tops k)).mono (by decide)).neg
  ·exact (((show Lt2 2 3 by unfold Lt2;decide).mul (z.tops 3)).mul z.bot).mono (by decide)
theorem MK(z:Pc.Pz n b w.1 w.2)(l3:3<=w.1.length):Ob (n+(1+1)*w.1.length+2) (b+(1*w.1.length+1)) (vi [w]):=Ob.cons z Ob.x (ak _) (by lia)
theorem Dm{w:Pl}(z:Pc.Pz 140 80 w.1 w.2)(l3:3<=w.1.length)(l4:w.1.length<=4):Nk 1 [w,w]:=by
 have ly:Ly w:=⟨z.fm,l3⟩;have h0:(80+(1*w.1.length+1))*w.1.length<=90*4:=bI (by lia) l4;refine⟨ly,by lia,⟨_,_,_,_,z,MK z l3,by lia,?_⟩,ly,by lia,⟨_,_,1,1,z,Ob.x,by lia,by lia⟩,trivial⟩;have:(140+(1+1)*w.1.length+2+(80+(1*w.1.length+1))+10)*(w.1.length+1)<=300*5:=bI (by lia) (by lia);lia
theorem Es{w:Pl}(z:Pc.Pz 45 10 w.1 w.2)(l3:w.1.length=3):Nk 1 [w,w,w]:=by
 have ly:Ly w:=⟨z.fm,by lia⟩;have o1:=(MK z (by lia)).mono (m':=53) (c':=14) (by rw[l3];decide) (by rw[l3];decide);have o2:=(Ob.cons (x:=w) z o1 (by decide) (by lia)).mono (m':=209) (c':=53) (by rw[l3];decide) (by rw[l3];decide);refine⟨ly,by lia,⟨_,_,_,_,z,o2,by rw[l3];decide,by rw[l3];decide⟩,ly,by lia,⟨_,_,_,_,z,o1,by rw[l3];decide,by rw[l3];decide⟩,ly,by lia,⟨_,_,1,1,z,Ob.x,by rw[l3];decide,by rw[l3];decide⟩,trivial⟩
def sI:TSd:=(iZ [] (sX (i6 .In (iS 4) (iU jh (iR (iS 11) (iR (dC (.int 2)) iT)))) (i6 .In (iS 2) (iU jh (iR (iS 11) (iR (dC (.int 4)) iT))))))
def pP:TSd:=dSq (iY [] (gNm 11) (iU mo (iR (iS 4) (iR (dC (.int 2)) iT))))
 sI
def pQ:TSd:=dSq (dIf [] (mB (i5 (i6 .Gt (dB bLen bLen.mono (iR (dIx (iS 2) (dC (.int 0))) iT)) (dC (.int 3)))) (i5 (i6 .Gt (iS 3) (dC (.int 2)))))
 (iZ [] (dC (.bl true)))
 i8)
 pP
def kz:TSd:=dSq (jq [] (jd (iS 6)) (gNm 7)
 (jq [] (jd (iU (jc 3) (iR (iS 7) iT))) (gNm 8)
 (dSq (iY [] (gNm 9) (iU me (iR (iV .Mult (dB bTuple bTuple.mono (iR (iS 8) iT)) (iS 3)) iT)))
 (dSq (dIf [] (mB (i5 (i6 .NotIn (iS 9) (iS 5))) (i5 (i6 .NotEq (iU ki (iR (iS 9) iT)) (iS 4))))
 (iZ [] (dC (.bl false)))
 i8)
 (dIf [] (j5 (kA (dB bAll bAll.mono (iR (i7 (jd (iS 5)) [10] (gNm 10) jt (i6 .Eq (dB bSortI bSortI.mono (iR (iU jl (iR (iS 10) iT)) iT)) (dB bSortI bSortI.mono (iR (iV .Mult (iU jl (iR (iS 8) iT)) (iS 3)) iT)))) iT))))
 (iZ [] (dC (.bl false)))
 i8)))))
 pQ
def sJ:TSd:=dSq (dIf [] (i5 (i6 .NotIn (iS 2) (iS 6)))
 (iZ [] (dC (.bl false)))
 i8)
 kz
def sM:TSd:=dSq (iY [] (gNm 6) (iU jh (iR (iS 4) (iR (iS 3) iT))))
 sJ
def sO:TSd:=dSq (iY [] (gNm 5) (iU (jc 3) (iR (iS 4) iT)))
 sM
def sP:TSd:=dSq (iY [] (gNm 4) (iU mo (iR (iS 2) (iR (iS 3) iT))))
 sO
def tW:TSd:=dSq (iY [] (gTp [2,3]) (iU mt (iR (iS 1) iT)))
 sP
def T77_c:TSd:=(dIf [] (j5 (kA (dB bAll bAll.mono (iR (i7 (jd (iS 5)) [10] (gNm 10) jt (i6 .Eq (dB bSortI bSortI.mono (iR (iU jl (iR (iS 10) iT)) iT)) (dB bSortI bSortI.mono (iR (iV .Mult (iU jl (iR (iS 8) iT)) (iS 3)) iT)))) iT))))
 (iZ [] (dC (.bl false)))
 i8)
def T77_b:TSd:=dSq (dIf [] (mB (i5 (i6 .NotIn (iS 9) (iS 5))) (i5 (i6 .NotEq (iU ki (iR (iS 9) iT)) (iS 4))))
 (iZ [] (dC (.bl false)))
 i8)
 T77_c
def T77_in:TSd:=dSq (iY [] (gNm 9) (iU me (iR (iV .Mult (dB bTuple bTuple.mono (iR (iS 8) iT)) (iS 3)) iT)))
 T77_b
theorem Hi(L:List Pl):D.pls (L.map pq)=true:=AC L
theorem DD:∀ ls:List Pl,D.dps (ls.map pq)<=3
 | []=>aE _
 | l::ls=>by
  show max (D.dps [.tup (l.1.map D.int),.int l.2]+1) (D.dps (ls.map pq))<=3;have h1:D.dps [.tup (l.1.map D.int),.int l.2]<=2:=by
   show max (D.dps (l.1.map D.int)+1) (max 0 0)<=2;rw[xP];decide
  have:=DD ls;lia
theorem MO(q:Q (.bl (!neg))):oIn neg (cD L) (.lst [cD L]) Q:=by
 refine .inr (.inr ⟨[cD L],rfl,Hi L,?_,?_,fun b hb=>?_⟩)
 ·show (D.pls (L.map pq) && true)=true;rw[Hi];rfl
 ·show max (D.dps (L.map pq)+1) 0<=60;have:=DD L;lia
 ·rw[hb.mpr aG];cases neg <;> exact q
theorem Gk{E:EndsD}{b:TTd}{t u T:TSd}(hi:∀ Q,Q (cD L)->(iS i).run (frz [] ss) Q)(hj:∀ Q,Q (.lst [cD L])->(iS j).run (frz [] ss) Q)(h:b.run (frz [] ss) fun k=>if k=true then t.run (E.to (T.run E)) (frz [] ss) else u.run (E.to (T.run E)) (frz [] ss)):(dSq (dIf [] (mB (i5 (i6 .NotIn (iS i) (iS j))) b) t u) T).run E ss:=by
 have h0:oIn true (cD L) (.lst [cD L]) (fun d=>match d with|D.bl k=>(if k=true then (if true=true then t.run (E.to (T.run E)) (frz [] ss) else u.run (E.to (T.run E)) (frz [] ss)) else b.run (frz [] ss) fun k=>if k=true then t.run (E.to (T.run E)) (frz [] ss) else u.run (E.to (T.run E)) (frz [] ss))|_=>False):=MO h;exact hi _ (hj _ h0)
theorem Bz{E:EndsD}{c:TEd}(hc:∀ Q,Q (.lst [.bl true])->c.run (frz [] ss) Q)(h:E.nx (frz [] ss)):(dIf [] (j5 (kA (dB bAll bAll.mono (iR c iT)))) t i8).run E ss:=hc _ ⟨[true],rfl,h⟩
theorem zE{ns:List Int}(h:ns.Perm (Pu k m)):ns=Pu k m:=by
 refine ii.mpr ⟨by rw[h.length_eq,aX],fun b hb=>?_⟩;exact dD (h.mem_iff.mp hb)
theorem M6{L:List Pl}(l:L.length=k)(h:∀ c∈L,c.1.length=s+1):(L.map fun c=>D.int ((c.1.length:Int)-1))=(Pu k (s:Int)).map D.int:=by
 rw[List.map_replicate];refine ii.mpr ⟨by rw[aa,l],fun b hb=>?_⟩;obtain⟨c,hc,rfl⟩:=de.mp hb;rw[h c hc,show ((s+1:Nat):Int)-1=(s:Int) by lia]
theorem Lr{E:EndsD}{d2 d6:D}{F:List Int}{B:Int}{s k:Nat}{w:Pl}{L:List Pl}{o9 o10:SD}(hk:k=2\/k=3)(hS:Nk 1 (Pu k w))(hN:∀ ds,NH (Pu k w) ds->ds=L)(lw:w.1.length=s+1)(lL:L.length=k)(hL:∀ c∈L,c.1.length=s+1)(tz:∃ n b l,Tz 1 L n b l)(fF:Po.Fm F B)(eF:∀ x,Qp.E F B x=Ec L x)
  (q:∀ o9 o10,E.nx [.no,.val .fl,.val d2,.val (.int (k:Nat)),.val (pD F B),.val (.lst [cD L]),.val d6,.val (pq w),.val (cD [w]),o9,o10,.no]) :
  T77_in.run E [.no,.val .fl,.val d2,.val (.int (k:Nat)),.val (pD F B),.val (.lst [cD L]),.val d6,.val (pq w),.val (cD [w]),o9,o10,.no]:=by
 have e1:(Pu ((k:Nat):Int).toNat [pq w]).flatten=(Pu k w).map pq:=by rcases hk with rfl|rfl <;> rfl
 have k3:k<=3:=by lia
 refine⟨List.cons_ne_nil _ _,by lia,?_,?_⟩
 ·show 1*((k:Nat):Int).toNat<=100000;lia
 show ([D.tup (Pu ((k:Nat):Int).toNat [pq w]).flatten].length=me.n/\me.run [D.tup (Pu ((k:Nat):Int).toNat [pq w]).flatten] _);rw[e1];refine⟨rfl,Pu k w,⟨rfl,by rw[aX];lia,hS⟩,?_⟩;rintro _ ⟨ds,rfl,nh⟩;obtain rfl:=hN ds nh;suffices hb:T77_b.run E [.no,.val .fl,.val d2,.val (.int (k:Nat)),.val (pD F B),.val (.lst [cD ds]),.val d6,.val (pq w),.val (cD [w]),.val (cD ds),o10,.no] from hb;refine Gk (i:=9) (j:=5) (L:=ds) ?_ ?_ ?_
 ·exact fun Q q=>q
 ·exact fun Q q=>q
 refine⟨rfl,ds,⟨rfl,by lia,tz⟩,?_⟩;rintro _ ⟨P',B',rfl,mk⟩;have mk:Mk 1 ds P' B':=mk;obtain⟨rfl,rfl⟩:=Qp.uQ mk.1 fF fun x=>by rw[mk.2.1,eF]
 refine⟨yP _ _,yP _ _,Gb _ _,fun kk hkk=>?_⟩;rw[hkk.mpr rfl];suffices hcc:T77_c.run E [.no,.val .fl,.val d2,.val (.int (k:Nat)),.val (pD P' B'),.val (.lst [cD ds]),.val d6,.val (pq w),.val (cD [w]),.val (cD ds),o10,.no] from hcc;refine Bz ?_ (q _ _);intro Q qq;refine v6 (ds:=[cD ds]) (Q:=Q) (fun i y=>y = .bl true) (by show (1:Nat)<=_;decide) (fun i d hd=>?_) fun ys ly hy=>?_
 ·match i,hd with
  | i+1,hd=>cases hd
  | 0,hd =>
   cases hd;refine⟨rfl,ds,⟨rfl,by lia⟩,?_⟩;rintro _ rfl;rw[M6 lL hL];refine⟨Pu k (s:Int),rfl,by rw[aX];lia,fun ns p _=>?_⟩;cases zE p;refine⟨rfl,[w],⟨rfl,by show (1:Nat)<=100;decide⟩,?_⟩;rintro _ rfl;rw[M6 (L:=[w]) (k:=1) rfl fun c hc=>by rw[aq.mp hc];exact lw];refine⟨by lia,by lia,?_,?_⟩
   ·show 1*((k:Nat):Int).toNat<=_;have:=vO (n:=3) (by decide);lia
   have e2:(Pu ((k:Nat):Int).toNat ((Pu 1 (s:Int)).map D.int)).flatten=(Pu k (s:Int)).map D.int:=by rcases hk with rfl|rfl <;> rfl
   rw[e2];refine⟨Pu k (s:Int),rfl,by rw[aX];lia,fun ns p _=>?_⟩;cases zE p;refine⟨rfl,?_,?_,?_,fun kk hkk=>?_⟩
   ·exact pls_ints _
   ·exact pls_ints _
   ·rw[xP];exact aE _
   ·rw[hkk.mpr rfl];rfl
 ·match ys,ly,hy with
  | [y],_,hy =>
   rw[hy 0 y rfl];exact qq
def E77:EndsD:=⟨fun _=>False,fun d=>d = .bl true,fun _=>False,fun _=>False⟩
theorem yp{H M F:List Int}{V v B:Int}{n b m c s:Nat}(z:Pc.Pz n b H V)(lH:H.length=s+1)(zM:Pc.Pz m c M v)(lM:M.length<=5)(s3:s<=3)(fF:Po.Fm F B)(e:∀ x,Qp.E F B x=Qp.E H V (Qp.E M v x)):Pc.Pz (n+(m+c+10)*s+2) (b+(c*s+1)) F B:=by
 obtain⟨R,C,o⟩:=vt z.fm zM.fm;obtain⟨rfl,rfl⟩:=Qp.uQ fF o.1 fun x=>by rw[e,Qp.wn z.fm.pos zM.fm.pos o]
 exact vU o z zM lH (by have:s*M.length<=3*5:=bI s3 lM;lia)
theorem Li{H F:List Int}{V B:Int}{s k:Nat}(one:xz H V s)(hk:zm s k)(it:Pc.It H V k F B):S77 F B (s^k)/\∃ L,NC s (k-1) L F B:=by
 obtain⟨kk,n,b,hs,z,lH,_⟩:=one;have lF:=It.len z.fm lH (by have:=hs.a.s2;lia) it;have eF:=It.e z.fm.pos it;rcases hk with⟨rfl,rfl⟩|⟨rfl,rfl⟩|⟨rfl,rfl⟩
 ·obtain⟨rfl,rfl,rfl⟩:kk=4/\n=45/\b=10:=by unfold Sh77 at hs;lia
  have e2:∀ x,Qp.E F B x=Qp.E H V (Qp.E H V x):=eF;have zF:S77 F B (2^2):=⟨(yp z lH z (by lia) (by decide) it.fm e2).mono (by decide) (by decide),lF⟩;exact⟨zF,CA (by decide) (by decide) z lH z lH (by decide) (by decide) zF e2⟩
 ·obtain⟨rfl,rfl,rfl⟩:kk=4/\n=45/\b=10:=by unfold Sh77 at hs;lia
  have e3:∀ x,Qp.E F B x=Qp.E H V (Qp.E H V (Qp.E H V x)):=eF;obtain⟨M,v,o⟩:=vt z.fm z.fm;have eM:∀ x,Qp.E M v x=Qp.E H V (Qp.E H V x):=fun x=>Qp.wn z.fm.pos z.fm.pos o x;have lM:M.length=5:=Pc.Of.deg_eq (n:=2) (d:=2) z.fm.pos z.fm.pos o lH lH (by decide) (uB z.fm lH) (uB z.fm lH);have zM:=(yp z lH z (by lia) (by decide) o.1 eM).mono (n':=177) (b':=31) (by decide) (by decide);have zF:S77 F B (2^3):=⟨(yp z lH zM (by lia) (by decide) it.fm fun x=>by rw[e3,eM]).mono (by decide) (by decide),lF⟩;exact⟨zF,Go z lH zF e3⟩
 ·obtain⟨rfl,rfl,rfl⟩:kk=2/\n=60/\b=13:=by unfold Sh77 at hs;lia
  have e2:∀ x,Qp.E F B x=Qp.E H V (Qp.E H V x):=eF;have zF:S77 F B (3^2):=⟨(yp z lH z (by lia) (by decide) it.fm e2).mono (by decide) (by decide),lF⟩;exact⟨zF,CA (by decide) (by decide) z lH z lH (by decide) (by decide) zF e2⟩
theorem Ke{H F:List Int}{V B:Int}{s k:Nat}{w:Pl}{L:List Pl}(one:xz H V s)(hk:zm s k)(zF:S77 F B (s^k))(ah:Ag F B k H V)(aw:Ag F B k w.1 w.2)(n:NC s (k-1) L F B) :
  S77 w.1 w.2 s/\Nk 1 (Pu k w)/\∀ ds,NH (Pu k w) ds->ds=L:=by
 have aw':=aw.2;have fw:=aw.1;rcases HH one hk zF.1.fm ah aw with⟨rfl,rfl⟩|⟨rfl,rfl,zw,lw⟩
 ·obtain⟨kk,n',b,hs,z,lH,_⟩:=one;obtain⟨rfl,rfl,rfl⟩:kk=4/\n'=45/\b=10:=by unfold Sh77 at hs;lia
  refine⟨⟨z.mono (by decide) (by decide),lH⟩,?_⟩;have:k=2\/k=3:=by unfold zm at hk;lia
  rcases this with rfl|rfl
  ·exact⟨Dm (w:=(H,V)) (z.mono (by decide) (by decide)) (by rw[lH];decide) (by rw[lH];decide),fun ds h=>NCw.uniq (by decide) (Gi (F:=(F,B)) (a:=(H,V)) (b:=(H,V)) (by decide) lH lH fw fw ⟨zF.1.fm,zF.2⟩ (fun x=>(aw' x).symm) h) n.w⟩
  ·exact⟨Es (w:=(H,V)) z lH,fun ds h=>NCw.uniq (by decide) (Gj (F:=(F,B)) (a:=(H,V)) lH fw ⟨zF.1.fm,zF.2⟩ (fun x=>(aw' x).symm) h) n.w⟩
 ·exact⟨⟨zw.mono (by decide) (by decide),lw⟩,Dm zw (by lia) (by lia),fun ds h=>NCw.uniq (by decide) (Gi (F:=(F,B)) (p:=3) (by decide) lw lw fw fw ⟨zF.1.fm,zF.2⟩ (fun x=>(aw' x).symm) h) n.w⟩
theorem Iw{H F:List Int}{V B:Int}{d5 d6:D}{o7 o8 o9 o10:SD}(one:xz H V 2)(zF:S77 F B 4)(it:Pc.It H V 2 F B):pP.run E77 [.no,.val .fl,.val (pD H V),.val (.int (2:Nat)),.val (pD F B),.val d5,.val d6,o7,o8,o9,o10,.no]:=by
 obtain⟨kk,n',b,hs,z,lH,small⟩:=one;obtain⟨rfl,rfl,rfl⟩:kk=4/\n'=45/\b=10:=by unfold Sh77 at hs;lia
 refine⟨rfl,(F,B,4,2,600,600),⟨rfl,zF.1,zF.2,by decide,by decide,by decide,by unfold E5;decide +kernel⟩,?_⟩;rintro _ ⟨R,C,rfl,it2⟩;have it2:Pc.It F B 2 R C:=it2;have aF:Ag R C 2 F B:=D2 zF.1.fm it2;have aH:Ag R C 4 H V:=Db aF (D2 z.fm it);obtain⟨M,v,o⟩:=vt z.fm it.fm;obtain⟨M2,v2,o2⟩:=vt z.fm o.1;have it4:Pc.It H V 4 M2 v2:=⟨M,v,⟨F,B,it,o⟩,o2⟩;obtain⟨rfl,rfl⟩:=Qp.uQ it2.fm it4.fm fun x=>by rw[It.e z.fm.pos it4,← aH.2 x]
 have zR:=small _ _ it4;have lR:R.length=17:=It.len z.fm lH (by decide) it4;have zR':Pc.Pz 600 600 R C:=zR.mono (by decide) (by decide);refine⟨rfl,(R,C,16,2),⟨rfl,zR',lR,by decide,by decide,by decide,by decide⟩,?_⟩;rintro _ ⟨qs,rfl,hr,_⟩;have hr:Nu R C 2 qs:=hr;have g2:∀ ss,ss=[SD.no,.val .fl,.val (pD H V),.val (.int (2:Nat)),.val (pD F B),.val d5,.val d6,o7,o8,o9,o10,.val (pD R C)]->(i6 .In (iS 2) (iU jh (iR (iS 11) (iR (dC (.int 4)) iT)))).run ss fun d=>d = .bl true:=by
  rintro _ rfl;refine⟨rfl,(R,C,16,4),⟨rfl,zR',lR,by decide,by decide,by decide,by decide⟩,?_⟩;rintro _ ⟨ps,rfl,hp,_⟩;have hp:Nu R C 4 ps:=hp;exact D3 (x:=(H,V)) (Q:=fun d=>d = .bl true) ((hp.1 (H,V)).mpr aH) rfl
 have h0:oIn false (pq (F,B)) (.lst (qs.map pq)) (fun d=>match d with|D.bl k=>(if k=true then (i6 .In (iS 2) (iU jh (iR (iS 11) (iR (dC (.int 4)) iT)))).run [SD.no,.val .fl,.val (pD H V),.val (.int (2:Nat)),.val (pD F B),.val d5,.val d6,o7,o8,o9,o10,.val (pD R C)] (fun d=>d = .bl true) else (D.bl false) = .bl true)|_=>False):=D3 (x:=(F,B)) ((hr.1 (F,B)).mpr aF) (g2 _ rfl);exact h0
theorem Ix{H F:List Int}{V B:Int}{s k:Nat}{d5 d6:D}{o7 o8 o9 o10:SD}(one:xz H V s)(hk:zm s k)(zF:S77 F B (s^k))(it:Pc.It H V k F B):pQ.run E77 [.no,.val .fl,.val (pD H V),.val (.int (k:Nat)),.val (pD F B),.val d5,.val d6,o7,o8,o9,o10,.no]:=by
 have lH:H.length=s+1:=by obtain⟨_,_,_,_,_,lH,_⟩:=one;exact lH
 refine yo (p:=((H.map D.int).length:Int) > 3) (fun c=>rfl) (fun c=>?_);rw[aa,lH] at c;refine yo (p:=((k:Nat):Int) > 2) (fun c=>rfl) (fun c2=>?_);obtain⟨rfl,rfl⟩:s=2/\k=2:=by unfold zm at hk;lia
 exact Iw one zF it
theorem Iy{H F:List Int}{V B:Int}{s k:Nat}{hs L:List Pl}(one:xz H V s)(hk:zm s k)(zF:S77 F B (s^k))(it:Pc.It H V k F B)(n:NC s (k-1) L F B)(hr:Nu F B k hs):kz.run E77 [.no,.val .fl,.val (pD H V),.val (.int (k:Nat)),.val (pD F B),.val (.lst [cD L]),.val (.lst (hs.map pq)),.no,.no,.no,.no,.no]:=by
 have fH:Po.Fm H V:=by obtain⟨_,_,_,_,z,_⟩:=one;exact z.fm
 have ah:=D2 fH it;have hk':(k=2\/k=3)/\s<=3/\2<=s:=by unfold zm at hk;lia
 refine⟨fun i ss=>∃ o7 o8 o9 o10,ss=[.no,.val .fl,.val (pD H V),.val (.int (k:Nat)),.val (pD F B),.val (.lst [cD L]),.val (.lst (hs.map pq)),o7,o8,o9,o10,.no],⟨_,_,_,_,rfl⟩,?_,?_⟩
 ·rintro i d _ hd ⟨o7,o8,o9,o10,rfl⟩;have hd:(hs.map pq)[i]? = some d:=hd;rw[aM] at hd;obtain⟨w,hw,rfl⟩:=ab.mp hd;obtain⟨zw,hS,hN⟩:=Ke one hk zF ah ((hr.1 w).mp (aO hw)) n;refine⟨rfl,(w.1,w.2,s,0,[w]),⟨rfl,by unfold Pj;lia,by decide,rfl,zw⟩,?_⟩;rintro _ rfl;refine⟨fun j ss=>∃ o8 o9 o10,ss=[.no,.val .fl,.val (pD H V),.val (.int (k:Nat)),.val (pD F B),.val (.lst [cD L]),.val (.lst (hs.map pq)),.val (pq w),o8,o9,o10,.no],⟨_,_,_,rfl⟩,?_,?_⟩
  ·rintro j d _ hd ⟨o8,o9,o10,rfl⟩;have hd:[cD [w]][j]? = some d:=hd;match j,hd with
   | j+1,hd=>cases hd
   | 0,hd =>
    cases hd;have ln:=n.len;refine Lr (s:=s) hk'.1 hS hN zw.2 (by rw[ln.1];lia) ln.2 (LW hk'.2.1 n.lay (by rw[ln.1];lia) (by rw[ln.1];lia) (fun e=>by rw[ln.1] at e;unfold zm at hk;lia)) zF.1.fm n.ec fun o9 o10=>?_;exact⟨_,_,_,rfl⟩
  ·rintro _ ⟨o8,o9,o10,rfl⟩;exact⟨_,_,_,_,rfl⟩
 ·rintro _ ⟨o7,o8,o9,o10,rfl⟩;exact Ix one hk zF it
theorem Ev:tW.run ⟨fun _=>False,fun d=>d = .bl true,fun _=>False,fun _=>False⟩ (.no :: .val .fl::Pu 10 .no):=by
 refine⟨rfl,(),rfl,?_⟩;rintro _ ⟨H,V,s,k,rfl,one,hk⟩;have one':=one;obtain⟨kk,n',b,hs,z,lH,small⟩:=one';have hk':(k=2\/k=3)/\s<=3/\2<=s:=by unfold zm at hk;lia
 refine⟨rfl,?_⟩;refine⟨rfl,(H,V,s,k,60,13),⟨rfl,?_,lH,by show 1<=s;lia,by show s<=100;lia,by show k<=20;lia,?_⟩,?_⟩
 ·rcases hs with⟨rfl,rfl,rfl,rfl⟩|⟨rfl,rfl,rfl,rfl⟩
  ·exact z.mono (by decide) (by decide)
  ·exact z
 ·rcases hk with⟨rfl,rfl⟩|⟨rfl,rfl⟩|⟨rfl,rfl⟩ <;> (unfold E5;decide +kernel)
 rintro _ ⟨F,B,rfl,it⟩;have it:Pc.It H V k F B:=it;obtain⟨zF,L,n⟩:=Li one hk it;refine⟨rfl,(F,B,s,k-1,L),⟨rfl,by unfold Pj;unfold zm at hk;lia,by show k-1<3;lia,n⟩,?_⟩;rintro _ rfl;have sk:2<=s^k/\s^k<=16:=by rcases hk with⟨rfl,rfl⟩|⟨rfl,rfl⟩|⟨rfl,rfl⟩ <;> decide
 refine⟨rfl,(F,B,s^k,k),⟨rfl,zF.1,zF.2,sk.1,sk.2,by show 2<=k;lia,by show k<=4;lia⟩,?_⟩;rintro _ ⟨qs,rfl,hr,_⟩;have hr:Nu F B k qs:=hr;have h0:oIn true (pq (H,V)) (.lst (qs.map pq)) (fun d=>match d with|D.bl k'=>(if k'=true then (iZ [] (dC (.bl false))).run (E77.to (kz.run E77)) [.no,.val .fl,.val (pD H V),.val (.int (k:Nat)),.val (pD F B),.val (.lst [cD L]),.val (.lst (qs.map pq)),.no,.no,.no,.no,.no] else kz.run E77 [.no,.val .fl,.val (pD H V),.val (.int (k:Nat)),.val (pD F B),.val (.lst [cD L]),.val (.lst (qs.map pq)),.no,.no,.no,.no,.no])|_=>False):=Jx fun b hb=>by
  cases hb.mpr ((hr.1 (H,V)).mpr (D2 z.fm it));exact Iy one hk zF it n hr
 exact h0
theorem oj:Does 7 (ky 0) (jc 1):=j4 0
theorem om:Does 7 (ky 1) (jc 2):=j4 1
theorem po:Does 7 (ky 2) (jc 3):=j4 2
theorem Hy(k:Nat):FnOk P w K mg base Dh k f fd ps (Bf K (jc 0).n (jc 0).run) :=
 ⟨fun vs H Q E ⟨_,_,_,_,_,_,_,_,_,_,⟨_,_,h,_⟩,_⟩=>absurd h (bZ _),fun A outer s H args us vs Q E _ _ _ _ ⟨_,_,_,_,_,_,_,_,_,_,⟨_,_,h,_⟩,_⟩=>absurd h (bZ _)⟩
end Dp
set_option maxHeartbeats 4000000
namespace My
open PySem L2
def top(i:Nat):Stmt:=PySem.Challenge.pw_nestwright_k77_whole_chains_of_what_is_p.main.body.getD i (.Pass ⟨0,0,0,0⟩)
abbrev wz:Stmt:=top 1
abbrev yI:Stmt:=top 2
abbrev Dq:Stmt:=top 3
abbrev w9:Stmt:=top 4
abbrev zO:Stmt:=top 5
abbrev yE:Stmt:=top 7
abbrev vp:Stmt:=top 8
abbrev Fw:Stmt:=top 9
abbrev wy:Stmt:=top 10
abbrev Bo:Stmt:=top 11
abbrev Fz:Stmt:=top 12
abbrev vL:Stmt:=top 13
abbrev vo:Stmt:=top 14
abbrev Fx:Stmt:=top 15
abbrev Bj:Stmt:=top 16
abbrev wu:Stmt:=top 18
abbrev wZ:Stmt:=top 19
abbrev Dr:Stmt:=top 20
abbrev yJ:Stmt:=top 22
abbrev yH:Stmt:=top 23
abbrev xX:Stmt:=top 24
abbrev x6:Stmt:=top 25
abbrev wp:Stmt:=top 26
abbrev Bk:Stmt:=top 27
abbrev Bn:Stmt:=top 28
abbrev Du:Stmt:=top 30
abbrev vM:Stmt:=top 31
abbrev Je:Stmt:=top 33
abbrev Dw:Stmt:=top 34
abbrev xa:Stmt:=top 36
abbrev xW:Stmt:=top 37
abbrev wA:Stmt:=top 38
abbrev yD:Stmt:=top 41
abbrev ww:Stmt:=top 42
abbrev yC:Stmt:=top 44
abbrev Fy:Stmt:=top 45
abbrev xf:Stmt:=top 46
abbrev Bp:Stmt:=top 47
abbrev wI:Stmt:=top 49
abbrev wH:Stmt:=top 50
abbrev xc:Stmt:=top 51
abbrev vR:Stmt:=top 52
abbrev yF:Stmt:=top 53
abbrev zI:Stmt:=top 54
abbrev xY:Stmt:=top 55
abbrev Bm:Stmt:=top 56
abbrev vQ:Stmt:=top 57
abbrev vq:Stmt:=top 58
abbrev xb:Stmt:=top 59
abbrev vm:Stmt:=top 60
abbrev vS:Stmt:=top 61
abbrev yG:Stmt:=top 62
abbrev xZ:Stmt:=top 63
abbrev zJ:Stmt:=top 64
abbrev wx:Stmt:=top 65
abbrev Jf:Stmt:=top 66
section
variable{P:Program}{w:World}{K:Frag}{mg:Str->Option Value}{base:Heap}
def Flow(H:Hp)(f:Addr):Prop:=∃(l:Addr) (ns:List Int) (i c a b:Int),H f=some (.lst [.ref l,.int i,.int c,.int a,.int b])/\H l=some (.lst (ns.map V.int))/\ns.length<=63/\0<=i/\i<=(ns.length:Int)/\0<=c/\0<=a/\a<2147483647
theorem MZ{H:Hp}{f l:Py}{ns:List Int}{x:Py}{r:List V}(h1:H f=some (.lst (.ref x::r)))(h2:H l=some (.lst (ns.map V.int))):l≠f:=by
 refine ML h2 h1 fun z=>?_;injection z with z;cases ns with
 | nil=>cases z
 | cons n ns=>rw[dQ] at z;injection z with z1;cases z1
theorem xN{H:Hp}{f l:Py}{ns:List Int}{i c a b i' c' a' b':Int}(h1:H f=some (.lst [.ref l,.int i,.int c,.int a,.int b]))(h2:H l=some (.lst (ns.map V.int))) :
  uH H f (.lst [.ref l,.int i',.int c',.int a',.int b']) f=some (.lst [.ref l,.int i',.int c',.int a',.int b'])/\uH H f (.lst [.ref l,.int i',.int c',.int a',.int b']) l=some (.lst (ns.map V.int))/\Sm f H (uH H f (.lst [.ref l,.int i',.int c',.int a',.int b'])):=by
 refine⟨ur,?_,fun b o n e=>?_,fun x r e=>?_⟩
 ·rw[ul (MZ h1 h2)];exact h2
 ·rw[ul n];exact e
 ·rw[h1] at e;injection e with e;injection e with e;injection e with e _;rw[← e];exact⟨_,ur⟩
theorem IU{ns:List Int}(h0:0<=i)(h:i<(ns.length:Int)):∃ z,Aj (ns.map V.int) i=some (V.int z):=by
 obtain⟨k,rfl⟩:=dI h0;exact⟨ns[k]'(by lia),we (by rw[aM,au (by lia)];rfl)⟩
def yx(K:Frag):Sp:=fun vs H Q _=>∃(a:Addr) (ns:List Int),vs=[.ref a]/\SqL K H a (ns.map V.int)/\ns.length<=63/\∀ f H',Same H H'->Flow H' f->H f=none->Q (.ref f) H'
def As:Sp:=fun vs H Q _=>∃(f:Addr) (m:Int),vs=[.ref f,.int m]/\Flow H f/\0<m/\Lt2 9000 m/\∀ d H',0<=d->d<m->Flow H' f->Sm f H H'->Q (.int d) H'
theorem sj:FnScope ["_law_script"] ["_law_script"] (ug wI):=⟨rfl,rfl,rfl,by decide +kernel,rfl,by decide +kernel,by decide +kernel⟩
theorem Id(F:Fun K "_law_flow" "_law_flow" wI f fd)(B:Bl mg):FnOk P w K mg base Dh 1 f fd ["_law_script"] (yx K):=by
 refine F.ok sj (fun vs H Q E h=>?_) (fun cdv A outer s H vs Q E hr h=>?_)
 ·obtain⟨a,ns,rfl,_⟩:=h;rfl
 obtain⟨a,ns,rfl,hS,h63,q⟩:=h;have nd:=sj.nd;refine⟨_,(vC (@Az _ _ _ _ (@Cq _ _ _ _ (@uu _ _ _ _ _ (@xJ _ _ _ _ _ _ _ _ _ (CC K) rfl B.list A4 (@uu _ _ _ _ _ (pv 0) pa_nil (by rfl)) (by decide) (by decide) (by rfl) (by rfl)) (@uu _ _ _ _ _ um (@uu _ _ _ _ _ um (@uu _ _ _ _ _ um (@uu _ _ _ _ _ um pa_nil (by rfl)) (by rfl)) (by rfl)) (by rfl)) (by rfl))))),?_⟩;refine⟨_,rfl,a,_,rfl,.inl hS,fun l hl=>⟨(by show 5<=Pv;decide),fun p hp=>?_⟩⟩;have hpl:l≠p:=ut ur hp;refine q p _ ((Same.new hl _).trans (Same.new hp _)) ⟨l,ns,0,0,1,0,ur,?_,h63,by decide,by lia,by decide,by decide,by decide⟩ ?_
 ·rw[ul hpl];exact ur
 ·rw[ul (Ne.symm hpl)] at hp;exact hp
theorem so:FnScope ["_law_flow_here", "_law_many", "_law_cell", "_law_digit"] ["_law_flow_here", "_law_many"] (ug wH):=⟨rfl,rfl,rfl,by decide +kernel,rfl,by decide +kernel,by decide +kernel⟩
theorem Ic(F:Fun K "_law_pick" "_law_pick" wH f0 fd)(B:Bl mg):FnOk P w K mg base Dh 1 f0 fd ["_law_flow_here", "_law_many"] As:=by
 refine F.ok so (fun vs H Q E h=>?_) (fun cdv A outer s H vs Q E hr h=>?_)
 ·obtain⟨a,ns,rfl,_⟩:=h;rfl
 obtain⟨f,m,rfl,hF,hm0,hm1,q⟩:=h;have nd:=so.nd;refine⟨_,(DA (@DB _ _ _ _ _ _ _ _ (PW.pt (FP (@xh _ _ _ _ _ _ _ _ Jr (@uY _ _ _ _ _ _ _ (B7 K) (pv 0) um (fun _ _=>rfl)) um (AG _)) (Dz (@xh _ _ _ _ _ _ _ _ Jo (@uY _ _ _ _ _ _ _ (B7 K) (pv 0) um (fun _ _=>rfl)) (@yO _ _ _ _ _ _ _ _ _ (KW K) rfl B.len C9 (@uu _ _ _ _ _ (@uY _ _ _ _ _ _ _ (B7 K) (pv 0) um (fun _ _=>rfl)) pa_nil (by rfl)) (by decide) (by decide) (by rfl) (by rfl)) (AG _))))) (vb (@xG _ _ 2 _ _ _ _ nd rfl (by first|exact Or.inl rfl|exact Or.inr rfl) (@uY _ _ _ _ _ _ _ (B7 K) (@uY _ _ _ _ _ _ _ (B7 K) (pv 0) um (fun _ _=>rfl)) (@uY _ _ _ _ _ _ _ (B7 K) (pv 0) um (fun _ _=>rfl)) (fun _ _=>rfl)) (by rfl) (by first|exact .inl rfl|exact .inr rfl|assumption))
  (vb (@vT _ _ _ _ _ _ (@uL _ _ _ _ _ _ _ _ vD (@uY _ _ _ _ _ _ _ (B7 K) (pv 0) um (fun _ _=>rfl)) um) (@wJ _ _ _ _ _ _ _ (pv 0) um va (fun _=>rfl)) (by rfl) (by rfl) (by rfl))
  (vC (@DB _ _ _ _ _ _ _ _ (@xh _ _ _ _ _ _ _ _ Jq (pv 2) (@uL _ _ _ _ _ _ _ _ Gf um um) (AG _)) (vC (@vT _ _ _ _ _ _ (pv 2) (@wJ _ _ _ _ _ _ _ (pv 0) um va (fun _=>rfl)) (by rfl) (by rfl) (by rfl))) (vC (@vT _ _ _ _ _ _ (@uL _ _ _ _ _ _ _ _ wK (@uL _ _ _ _ _ _ _ _ vD (@uL _ _ _ _ _ _ _ _ vD (@uL _ _ _ _ _ _ _ _ Ct (@uY _ _ _ _ _ _ _ (B7 K) (pv 0) um (fun _ _=>rfl)) um) (@uL _ _ _ _ _ _ _ _ wK (pv 2) um)) um) um) (@wJ _ _ _ _ _ _ _ (pv 0) um va (fun _=>rfl)) (by rfl) (by rfl) (by rfl))))))) pss_nil)
  (DA (@DB _ _ _ _ _ _ _ _ (@xh _ _ _ _ _ _ _ _ Jp (@uY _ _ _ _ _ _ _ (B7 K) (pv 0) um (fun _ _=>rfl)) um (AG _)) (vb (@xG _ _ 3 _ _ _ _ nd rfl (by first|exact Or.inl rfl|exact Or.inr rfl) (@uL _ _ _ _ _ _ _ _ wK (@uY _ _ _ _ _ _ _ (B7 K) (pv 0) um (fun _ _=>rfl)) (pv 1)) (by rfl) (by first|exact .inl rfl|exact .inr rfl|assumption))
  (vb (@vT _ _ _ _ _ _ (@uL _ _ _ _ _ _ _ _ (@Bw _ _ hr) (@uY _ _ _ _ _ _ _ (B7 K) (pv 0) um (fun _ _=>rfl)) (pv 1)) (@wJ _ _ _ _ _ _ _ (pv 0) um va (fun _=>rfl)) (by rfl) (by rfl) (by rfl))
  (vC (@Az _ _ _ _ (pv 3))))) pss_nil)
  (vb (@vT _ _ _ _ _ _ (@uL _ _ _ _ _ _ _ _ vD (@uY _ _ _ _ _ _ _ (B7 K) (pv 0) um (fun _ _=>rfl)) um) (@wJ _ _ _ _ _ _ _ (pv 0) um va (fun _=>rfl)) (by rfl) (by rfl) (by rfl))
  (vb (@vT _ _ _ _ _ _ (@uL _ _ _ _ _ _ _ _ wK (@uL _ _ _ _ _ _ _ _ vD (@uL _ _ _ _ _ _ _ _ vD (@uL _ _ _ _ _ _ _ _ Ct (@uY _ _ _ _ _ _ _ (B7 K) (pv 0) um (fun _ _=>rfl)) um) um) (@uY _ _ _ _ _ _ _ (B7 K) (pv 0) um (fun _ _=>rfl))) um) (@wJ _ _ _ _ _ _ _ (pv 0) um va (fun _=>rfl)) (by rfl) (by rfl) (by rfl))
  (vC (@Az _ _ _ _ (@uL _ _ _ _ _ _ _ _ wK (@uL _ _ _ _ _ _ _ _ DM (@uL _ _ _ _ _ _ _ _ wK (@uL _ _ _ _ _ _ _ _ Ct (@uL _ _ _ _ _ _ _ _ vD (@uL _ _ _ _ _ _ _ _ wK (@uY _ _ _ _ _ _ _ (B7 K) (pv 0) um (fun _ _=>rfl)) um) um) (@uL _ _ _ _ _ _ _ _ vD (@uL _ _ _ _ _ _ _ _ DM (@uY _ _ _ _ _ _ _ (B7 K) (pv 0) um (fun _ _=>rfl)) um) um)) um) um) (pv 1)))))))),?_⟩
 obtain⟨l,ns,i,c,a,b,h1,h2,h63,i0,i1,c0,a0,a1⟩:=hF;have hf:=SqL.of (K:=K) h1;refine⟨fun σ' H'=>(∃ o1 o2,σ'=[some (.ref f),some (.int m),o1,o2])/\Flow H' f/\Sm f H H',?_,?_⟩
 ·refine⟨_,rfl,f,_,2,_,rfl,rfl,hf,rfl,rfl,_,rfl,?_⟩;refine IC (fun cz=>?_) (fun cz=>?_)
  ·refine⟨_,rfl,f,_,1,_,rfl,rfl,hf,rfl,_,rfl,f,_,0,_,rfl,rfl,hf,rfl,l,_,rfl,.inl (SqL.of h2),_,_,rfl,rfl,_,rfl,?_⟩;refine IC (fun cl=>?_) (fun cl=>?_)
   ·have cl':i<(((ns.map V.int).length:Nat):Int):=of_decide_eq_true cl;rw[aa] at cl';obtain⟨z,hz⟩:=IU i0 cl';obtain⟨g1,g2,g3⟩:=xN (i':=i+1) (c':=c) (a':=a) (b':=b) h1 h2;have gf:=SqL.of (K:=K) g1;refine⟨_,rfl,f,_,0,_,rfl,rfl,hf,rfl,_,rfl,f,_,1,_,rfl,rfl,hf,rfl,l,_,i,_,rfl,rfl,SqL.of h2,hz,?_⟩;refine⟨_,rfl,f,_,1,_,rfl,rfl,hf,rfl,_,_,rfl,rfl,_,rfl,f,_,1,1,rfl,rfl,h1,rfl,?_⟩;refine⟨_,rfl,_,_,rfl,rfl,⟨by decide,by decide,by decide⟩,_,_,rfl,rfl,_,rfl,?_⟩;refine IC (fun cg=>?_) (fun cg=>?_)
    ·have cg':(10:Int)^(18:Int).toNat<=z:=of_decide_eq_true cg;have cg2:(0:Int)<=z:=Int.le_trans (by decide) cg';obtain⟨k1,k2,k3⟩:=xN (i':=i+1) (c':=z) (a':=a) (b':=b) g1 g2;refine⟨_,rfl,_,rfl,f,_,2,2,rfl,rfl,g1,rfl,?_⟩;exact⟨⟨_,_,rfl⟩,⟨l,ns,i+1,z,a,b,k1,k2,h63,by lia,by lia,cg2,a0,a1⟩,g3.trans k3⟩
    ·obtain⟨k1,k2,k3⟩:=xN (i':=i+1) (c':=c) (a':=(a*40013+z%1000003+1)%2147483647) (b':=b) g1 g2;refine⟨_,rfl,f,_,3,_,rfl,rfl,gf,rfl,_,_,rfl,rfl,.inr ⟨by decide,by decide⟩,_,rfl,_,_,rfl,rfl,(by show (0:Int)<_;decide),_,_,rfl,rfl,_,_,rfl,rfl,_,_,rfl,rfl,(by show (0:Int)<_;decide),_,rfl,f,_,3,3,rfl,rfl,g1,rfl,?_⟩;exact⟨⟨_,_,rfl⟩,⟨l,ns,i+1,c,_,b,k1,k2,h63,by lia,by lia,c0,fj _ (by decide),eh _ (by decide)⟩,g3.trans k3⟩
   ·exact⟨⟨_,_,rfl⟩,⟨l,ns,i,c,a,b,h1,h2,h63,i0,i1,c0,a0,a1⟩,Sm.refl H⟩
  ·exact Og ⟨⟨_,_,rfl⟩,⟨l,ns,i,c,a,b,h1,h2,h63,i0,i1,c0,a0,a1⟩,Sm.refl H⟩
 ·rintro _ H1 ⟨⟨o1,o2,rfl⟩,hF1,sm1⟩;clear hf h1 h2 i0 i1 c0 a0 a1 h63;obtain⟨l,ns,i,c,a,b,h1,h2,h63,i0,i1,c0,a0,a1⟩:=hF1;have hf:=SqL.of (K:=K) h1;refine⟨fun σ' H'=>σ'=[some (.ref f),some (.int m),o1,o2]/\H'=H1,?_,?_⟩
  ·refine⟨_,rfl,f,_,2,_,rfl,rfl,hf,rfl,_,_,rfl,rfl,_,rfl,?_⟩;refine IC (fun cz=>?_) (fun cz=>?_)
   ·obtain⟨k1,k2,k3⟩:=xN (i':=i) (c':=c.fdiv m) (a':=a) (b':=b) h1 h2;refine⟨_,rfl,f,_,2,_,rfl,rfl,hf,rfl,_,rfl,_,_,rfl,rfl,hm0,?_⟩;have fe:c.fdiv m=c / m:=cE _ (by lia:(0:Int)<=m);refine⟨_,rfl,f,_,2,_,rfl,rfl,hf,rfl,_,rfl,_,_,rfl,rfl,⟨by lia,9000,hm1,by decide⟩,_,rfl,f,_,2,2,rfl,rfl,h1,rfl,?_⟩;refine⟨_,rfl,q _ _ (fj _ (by lia)) (eh _ hm0) ⟨l,ns,i,c.fdiv m,a,b,k1,k2,h63,i0,i1,by rw[fe];exact Int.ediv_nonneg c0 (by lia),a0,a1⟩ (sm1.trans k3)⟩
   ·exact⟨rfl,rfl⟩
  ·rintro _ _ ⟨rfl,rfl⟩;obtain⟨g1,g2,g3⟩:=xN (i':=i) (c':=c) (a':=a) (b':=b+1) h1 h2;have gf:=SqL.of (K:=K) g1;refine⟨_,rfl,f,_,4,_,rfl,rfl,hf,rfl,_,_,rfl,rfl,_,rfl,f,_,4,4,rfl,rfl,h1,rfl,?_⟩;obtain⟨k1,k2,k3⟩:=xN (i':=i) (c':=c) (a':=(a*48271+12820163+(b+1))%2147483647) (b':=b+1) g1 g2;have kf:=SqL.of (K:=K) k1;refine⟨_,rfl,f,_,3,_,rfl,rfl,gf,rfl,_,_,rfl,rfl,.inr ⟨by decide,by decide⟩,_,_,rfl,rfl,_,rfl,f,_,4,_,rfl,rfl,gf,rfl,_,_,rfl,rfl,_,_,rfl,rfl,(by show (0:Int)<_;decide),_,rfl,f,_,3,3,rfl,rfl,g1,rfl,?_⟩;have n0:=fj (a*48271+12820163+(b+1)) (show (2147483647:Int)≠0 by decide);have n1:=eh (a*48271+12820163+(b+1)) (show (0:Int)<2147483647 by decide);refine⟨_,rfl,f,_,3,_,rfl,rfl,kf,rfl,_,_,rfl,rfl,(by show (0:Int)<_;decide),_,_,rfl,rfl,_,rfl,f,_,3,_,rfl,rfl,kf,rfl,_,_,rfl,rfl,⟨by decide,by decide⟩,_,_,rfl,rfl,_,_,rfl,rfl,.inl ⟨by lia,by lia⟩,_,_,rfl,rfl,(by show (0:Int)<_;decide),_,_,rfl,rfl,⟨by decide,by decide⟩,_,rfl,_,_,rfl,rfl,hm0,?_⟩;exact q _ _ (fj _ (by lia)) (eh _ hm0) ⟨l,ns,i,c,_,b+1,k1,k2,h63,i0,i1,c0,n0,n1⟩ ((sm1.trans g3).trans k3)
theorem on:FnScope ["one", "other"] ["one", "other"] (ug wz):=Ds.sc (by kernel_rfl) rfl rfl rfl
theorem rq:FnScope ["top", "bottom", "part"] ["top", "bottom"] (ug yI):=Ds.sc (by kernel_rfl) rfl rfl rfl
theorem tL:FnScope ["one", "other"] ["one", "other"] (ug Dq):=Ds.sc (by kernel_rfl) rfl rfl rfl
theorem pC:FnScope ["one", "other"] ["one", "other"] (ug w9):=Ds.sc (by kernel_rfl) rfl rfl rfl
theorem r8:FnScope ["one", "other"] ["one", "other"] (ug zO):=Ds.sc (by kernel_rfl) rfl rfl rfl
theorem rA:FnScope ["tops", "bottom", "many", "part", "top"] ["tops", "bottom"] (ug yE):=Ds.sc (by kernel_rfl) rfl rfl rfl
theorem kT:FnScope ["some", "bottom", "r"] ["some"] (ug vp):=Ds.sc (by kernel_rfl) rfl rfl rfl
theorem tX:FnScope ["some", "tops", "bottom"] ["some"] (ug Fw):=Ds.sc (by kernel_rfl) rfl rfl rfl
theorem oo:FnScope ["p", "k", "tops", "bottom"] ["p", "k"] (ug wy):=Ds.sc (by kernel_rfl) rfl rfl rfl
theorem sQ:FnScope ["p"] ["p"] (ug Bo):=Ds.sc (by kernel_rfl) rfl rfl rfl
theorem tY:FnScope ["p"] ["p"] (ug Fz):=Ds.sc (by kernel_rfl) rfl rfl rfl
theorem mP:FnScope ["tops", "others", "longer", "shorter", "made", "k", "top"] ["tops", "others"] (ug vL):=Ds.sc (by kernel_rfl) rfl rfl rfl
theorem kU:FnScope ["tops", "others", "made", "i", "top", "k", "other"] ["tops", "others"] (ug vo):=Ds.sc (by kernel_rfl) rfl rfl rfl
theorem tZ:FnScope ["p", "other", "mine", "top", "theirs"] ["p", "other"] (ug Fx):=Ds.sc (by kernel_rfl) rfl rfl rfl
theorem sS:FnScope ["p", "r", "top"] ["p", "r"] (ug Bj):=Ds.sc (by kernel_rfl) rfl rfl rfl
theorem oq:FnScope ["n", "k", "made", "step"] ["n", "k"] (ug wu):=Ds.sc (by kernel_rfl) rfl rfl rfl
theorem pE:FnScope ["n", "k", "root", "nearer"] ["n", "k"] (ug wZ):=Ds.sc (by kernel_rfl) rfl rfl rfl
theorem tM:FnScope ["r", "k", "top", "bottom", "over", "under"] ["r", "k"] (ug Dr):=Ds.sc (by kernel_rfl) rfl rfl rfl
theorem rB:FnScope ["n", "s"] ["n"] (ug yJ):=Ds.sc (by kernel_rfl) rfl rfl rfl
theorem rC:FnScope ["tops", "c", "n", "i", "top"] ["tops", "c"] (ug yH):=Ds.sc (by kernel_rfl) rfl rfl rfl
theorem qE:FnScope ["falling", "k", "s", "made", "j", "parts", "i"] ["falling", "k", "s"] (ug xX):=Ds.sc (by kernel_rfl) rfl rfl rfl
theorem qF:FnScope ["f", "s", "n", "k", "c", "falling", "made", "rising", "m"] ["f", "s"] (ug x6):=Ds.sc (by kernel_rfl) rfl rfl rfl
theorem ot:FnScope ["tops", "n", "most", "c", "j"] ["tops"] (ug wp):=Ds.sc (by kernel_rfl) rfl rfl rfl
theorem sU:FnScope ["tops", "by", "left", "s", "many", "most", "i"] ["tops", "by"] (ug Bk):=Ds.sc (by kernel_rfl) rfl rfl rfl
theorem sV:FnScope ["f", "h", "n", "s", "c", "by", "left", "i", "top", "over", "under", "told", "digit", "tops", "m"] ["f", "h"] (ug Bn):=Ds.sc (by kernel_rfl) rfl rfl rfl
theorem tN:FnScope ["f", "s", "h", "parts", "i", "part"] ["f", "s"] (ug Du):=Ds.sc (by kernel_rfl) rfl rfl rfl
theorem mQ:FnScope ["f", "s"] ["f"] (ug vM):=Ds.sc (by kernel_rfl) rfl rfl rfl
theorem t9:FnScope ["f", "g", "tops", "bottom", "inner", "under", "made", "scale", "top"] ["f", "g"] (ug Je):=Ds.sc (by kernel_rfl) rfl rfl rfl
theorem tO:FnScope ["f", "k", "made", "step"] ["f", "k"] (ug Dw):=Ds.sc (by kernel_rfl) rfl rfl rfl
theorem pF:FnScope ["s", "k", "step"] ["s", "k"] (ug xa):=Ds.sc (by kernel_rfl) rfl rfl rfl
theorem qI:FnScope ["g", "h", "a", "n", "s", "high", "low"] ["g", "h", "a"] (ug xW):=Ds.sc (by kernel_rfl) rfl rfl rfl
theorem ou:FnScope ["f", "k", "s", "word", "g", "h", "some", "a", "one"] ["f", "k"] (ug wA):=Ds.sc (by kernel_rfl) rfl rfl rfl
theorem rD:FnScope ["a", "b"] ["a", "b"] (ug yD):=Ds.sc (by kernel_rfl) rfl rfl rfl
theorem ox:FnScope ["l", "a", "b"] ["l"] (ug ww):=Ds.sc (by kernel_rfl) rfl rfl rfl
theorem rE:FnScope ["chain", "made", "layer"] ["chain"] (ug yC):=Ds.sc (by kernel_rfl) rfl rfl rfl
theorem t4:FnScope ["chain", "told", "taken_off", "layer", "made"] ["chain"] (ug Fy):=Ds.sc (by kernel_rfl) rfl rfl rfl
theorem pG:FnScope ["chain", "layer"] ["chain"] (ug xf):=Ds.sc (by kernel_rfl) rfl rfl rfl
theorem mR:FnScope ["f", "told", "s", "word", "g", "h", "chain"] ["f"] (ug Bp):=Ds.sc (by kernel_rfl) rfl rfl rfl
theorem pI:FnScope ["_law_a", "_law_b"] ["_law_a", "_law_b"] (ug xc):=Ds.sc (by kernel_rfl) rfl rfl rfl
theorem nP:FnScope ["_law_top", "_law_bottom", "_law_part"] ["_law_top", "_law_bottom"] (ug vR):=Ds.sc (by kernel_rfl) rfl rfl rfl
theorem rF:FnScope ["_law_tops", "_law_bottom", "_law_part", "_law_top"] ["_law_tops", "_law_bottom"] (ug yF):=Ds.sc (by kernel_rfl) rfl rfl rfl
theorem r9:FnScope ["_law_p", "_law_q", "_law_many", "_law_found", "_law_k", "_law_top"] ["_law_p", "_law_q"] (ug zI):=Ds.sc (by kernel_rfl) rfl rfl rfl
theorem qJ:FnScope ["_law_p", "_law_q", "_law_found", "_law_k", "_law_top", "_law_j", "_law_other"] ["_law_p", "_law_q"] (ug xY):=Ds.sc (by kernel_rfl) rfl rfl rfl
theorem sW:FnScope ["_law_p", "_law_q", "_law_found", "_law_top"] ["_law_p", "_law_q"] (ug Bm):=Ds.sc (by kernel_rfl) rfl rfl rfl
theorem nQ:FnScope ["_law_a", "_law_b"] ["_law_a", "_law_b"] (ug vQ):=Ds.sc (by kernel_rfl) rfl rfl rfl
theorem kW:FnScope ["_law_l", "_law_b", "_law_a", "_law_sign"] ["_law_l"] (ug vq):=Ds.sc (by kernel_rfl) rfl rfl rfl
theorem pJ:FnScope ["_law_flow_here", "_law_most"] ["_law_flow_here", "_law_most"] (ug xb):=Ds.sc (by kernel_rfl) rfl rfl rfl
theorem kF:FnScope ["_law_flow_here", "_law_most"] ["_law_flow_here", "_law_most"] (ug vm):=Ds.sc (by kernel_rfl) rfl rfl rfl
theorem nS:FnScope ["_law_flow_here", "_law_many", "_law_most", "_law_tops", "_law_k", "_law_first"] ["_law_flow_here", "_law_many", "_law_most"] (ug vS):=Ds.sc (by kernel_rfl) rfl rfl rfl
theorem rG:FnScope ["_law_some", "_law_p", "_law_top"] ["_law_some"] (ug yG):=Ds.sc (by kernel_rfl) rfl rfl rfl
theorem qK:FnScope ["_law_h", "_law_k", "_law_found", "_law_turn"] ["_law_h", "_law_k"] (ug xZ):=Ds.sc (by kernel_rfl) rfl rfl rfl
theorem sa:FnScope ["_law_flow_here", "_law_d", "_law_k", "_law_h", "_law_j", "_law_top", "_law_l"] ["_law_flow_here"] (ug zJ):=Ds.sc (by kernel_rfl) rfl rfl rfl
theorem oy:FnScope ["_law_chain", "_law_layer"] ["_law_chain"] (ug wx):=Ds.sc (by kernel_rfl) rfl rfl rfl
theorem ua:FnScope ["_law_script", "_law_flow_here", "_law_h", "_law_k", "_law_f", "_law_some", "_law_roots_told", "_law_one_here", "_law_chain", "_law_many", "_law_other", "_law_further"] ["_law_script"] (ug Jf):=Ds.sc (by kernel_rfl) rfl rfl rfl
end
theorem vd{ps:List PR}(k:Nat)(S:Ds.Sl K f x st)(W:Ds.Mg K mg)
  (hb:∀(kV doc pm:Pt) (an:Option Py) (cdv ct:Pt) (us:List Pt),us.length=ps.length->Ds.BA x st kV doc pm an cdv ct us=pure (ps.zip us)):Def P w K mg base x k ps (Dp.Bf K (Dp.jc 0).n (Dp.jc 0).run):=by
 obtain⟨a,fd,F⟩:=S;exact .of F (W _ _ a) (F.binds hb) (Dp.Hy k)
theorem Lz{l:PySem.W.OpenLaw}{K:PM}(X:K.In h)(G:h.Ns PJ mg)(hfa:mg "law" = some (.ref fa))
  (h1:Ds.Sl K f1 "common_part" wz)
  (h2:Ds.Sl K f2 "fraction" yI)
  (h3:Ds.Sl K f3 "taken" Dq)
  (h4:Ds.Sl K f4 "multiplied" w9)
  (h5:Ds.Sl K f5 "divided" zO)
  (h6:Ds.Sl K f6 "one_form" yE)
  (h7:Ds.Sl K f7 "over_one_bottom" vp)
  (h8:Ds.Sl K f8 "poly" Fw)
  (h9:Ds.Sl K f9 "fraction_at" wy)
  (h10:Ds.Sl K f10 "degree" Bo)
  (h11:Ds.Sl K f11 "lead" Fz)
  (h12:Ds.Sl K f12 "tops_together" vL)
  (h13:Ds.Sl K f13 "tops_multiplied" vo)
  (h14:Ds.Sl K f14 "plus" Fx)
  (h15:Ds.Sl K f15 "scaled" Bj)
  (h16:Ds.Sl K f16 "whole_power" wu)
  (h17:Ds.Sl K f17 "whole_root" wZ)
  (h18:Ds.Sl K f18 "roots" Dr)
  (h19:Ds.Sl K f19 "divisors" yJ)
  (h20:Ds.Sl K f20 "in_steps" yH)
  (h21:Ds.Sl K f21 "root_tops" xX)
  (h22:Ds.Sl K f22 "candidate" x6)
  (h23:Ds.Sl K f23 "whole_steps" wp)
  (h24:Ds.Sl K f24 "parted" Bk)
  (h25:Ds.Sl K f25 "digits" Bn)
  (h26:Ds.Sl K f26 "apart" Du)
  (h27:Ds.Sl K f27 "inner_degrees" vM)
  (h28:Ds.Sl K f28 "put" Je)
  (h29:Ds.Sl K f29 "again" Dw)
  (h30:Ds.Sl K f30 "lead_power" xa)
  (h31:Ds.Sl K f31 "with_lead" xW)
  (h32:Ds.Sl K f32 "again_roots" wA)
  (h33:Ds.Sl K f33 "straight" yD)
  (h34:Ds.Sl K f34 "turned_back" ww)
  (h35:Ds.Sl K f35 "together" yC)
  (h36:Ds.Sl K f36 "neat" Fy)
  (h37:Ds.Sl K f37 "degrees_of" xf)
  (h38:Ds.Sl K f38 "chains" Bp)
  (h39:Ds.Sl K f39 "_law_flow" wI)
  (h40:Ds.Sl K f40 "_law_pick" wH)
  (h41:Ds.Sl K f41 "_law_common" xc)
  (h42:Ds.Sl K f42 "_law_fraction" vR)
  (h43:Ds.Sl K f43 "_law_poly" yF)
  (h44:Ds.Sl K f44 "_law_sum" zI)
  (h45:Ds.Sl K f45 "_law_times" xY)
  (h46:Ds.Sl K f46 "_law_of" Bm)
  (h47:Ds.Sl K f47 "_law_straight" vQ)
  (h48:Ds.Sl K f48 "_law_turned_back" vq)
  (h49:Ds.Sl K f49 "_law_number" xb)
  (h50:Ds.Sl K f50 "_law_any_fraction" vm)
  (h51:Ds.Sl K f51 "_law_any_poly" vS)
  (h52:Ds.Sl K f52 "_law_fits" yG)
  (h53:Ds.Sl K f53 "_law_again" xZ)
  (h54:Ds.Sl K f54 "_law_one" zJ)
  (h55:Ds.Sl K f55 "_law_degrees" wx)
  (h56:Ds.Sl K f56 "law" Jf)
  (z_len:PQ K PJ "len" = some none)
  (z_range:PQ K PJ "range" = some none)
  (z_all:PQ K PJ "all" = some none)
  (z_any:PQ K PJ "any" = some none)
  (z_abs:PQ K PJ "abs" = some none)
  (z_int:PQ K PJ "int" = some none)
  (z_bool:PQ K PJ "bool" = some none)
  (z_str:PQ K PJ "str" = some none)
  (z_list:PQ K PJ "list" = some none)
  (z_tuple:PQ K PJ "tuple" = some none)
  (z_dict:PQ K PJ "dict" = some none)
  (z_isinstance:PQ K PJ "isinstance" = some none)
  (z_enumerate:PQ K PJ "enumerate" = some none)
  (z_reversed:PQ K PJ "reversed" = some none)
  (z_sorted:PQ K PJ "sorted" = some none)
  (z_max:PQ K PJ "max" = some none)
  (z_min:PQ K PJ "min" = some none)
  (z_sum:PQ K PJ "sum" = some none)
  (z_zip:PQ K PJ "zip" = some none)
       (zL:PQ K PJ "LETTER" = some (some (.ref la))) (lL:K.lookup la=some ⟨.type "tuple",dL,.seq #[.ref lt,.int 1 t1] nL,sL⟩) (lT:K.lookup lt=some ⟨.type "tuple",dT,.seq #[.int 0 t2,.int 1 t3] nT,sT⟩)
  : ∃ fd:Qt,(∀(s:Px) (v:Pt),BindsTo s fd ⟨[v],[]⟩ [("_law_script",v)])/\∀ base:Qb,K.In base->base.Ns PJ mg->FnOk l.prog w K mg base Dh 11 fa fd ["_law_script"] (Dp.Do K):=by
 have B:Bl mg:=⟨PL X G z_len,PL X G z_range,PL X G z_all,PL X G z_any,PL X G z_abs,PL X G z_int,PL X G z_bool,PL X G z_str,PL X G z_list,PL X G z_tuple,PL X G z_dict,PL X G z_isinstance,PL X G z_enumerate,PL X G z_reversed,PL X G z_sorted,PL X G z_max,PL X G z_min,PL X G z_sum,PL X G z_zip⟩;have W:Ds.Mg K mg:=fun _ _ a=>PySem.W.mg_of X G a;obtain⟨a,fd,F⟩:=h56;cases hfa.symm.trans (W _ _ a);refine⟨fd,?_,fun base _ _=>?_⟩
 ·obtain⟨oc,od,kV,doc,pm,an,cdv,ct,osl,rfl,lk,hcd⟩:=F.ex;exact fun s v=>.of_eq rfl
 have gf:Def l.prog w K mg base "_law_flow" 1 ["_law_script"] (yx K):=by
  obtain⟨a,fd,F⟩:=h39;exact .of F (W _ _ a) (F.binds (Ds.b1 fun _ _ _ _ _ _ _=>rfl)) (Id F B)
 have gp:Def l.prog w K mg base "_law_pick" 1 ["_law_flow_here", "_law_many"] (Dp.Bf K Dp.iX.n Dp.iX.run):=by
  obtain⟨a,fd,F⟩:=h40;exact Dp.EA (.of F (W _ _ a) (F.binds (Ds.b2 fun _ _ _ _ _ _ _ _=>rfl)) (Ic F B))
 have G0:=Ds.uX gp Ds.Pm;have G1:=Ds.uX (Ds.u4 0 Ds.o0 h1 W B on rfl G0 Ds.uZ (Ds.b2 fun _ _ _ _ _ _ _ _=>rfl) (by kernel_rfl) Dp.mC) G0;have G10:=Ds.uX (Ds.u4 0 Ds.o0 h10 W B sQ rfl G1 Ds.uZ (Ds.b1 fun _ _ _ _ _ _ _=>rfl) (by kernel_rfl) Dp.qY) G1;have G12:=Ds.uX (Ds.u4 0 ([(51,[4])],[48],[4]) h12 W B mP rfl G10 Ds.uZ (Ds.b2 fun _ _ _ _ _ _ _ _=>rfl) (by kernel_rfl) Dp.kQ) G10;have G13:=Ds.uX (Ds.u4 0 ([(59,[2])],[55],[2]) h13 W B kU rfl G12 Ds.uZ (Ds.b2 fun _ _ _ _ _ _ _ _=>rfl) (by kernel_rfl) Dp.ke) G12;have G16:=Ds.uX (Ds.u4 0 Ds.o0 h16 W B oq rfl G13 Ds.uZ (Ds.b2 fun _ _ _ _ _ _ _ _=>rfl) (by kernel_rfl) Dp.mE) G13;have G19:=Ds.uX (Ds.u4 0 Ds.o0 h19 W B rB rfl G16 Ds.uZ (Ds.b1 fun _ _ _ _ _ _ _=>rfl) (by kernel_rfl) Dp.oS) G16;have G21:=Ds.uX (Ds.u4 0 ([(104,[3])],[100],[3]) h21 W B qE rfl G19 Ds.uZ (Ds.b3 fun _ _ _ _ _ _ _ _ _=>rfl) (by kernel_rfl) Dp.n6) G19;have G24:=Ds.uX (Ds.u4 0 ([(127,[2,4])],[120,121],[2,4]) h24 W B sU rfl G21 Ds.uZ (Ds.b2 fun _ _ _ _ _ _ _ _=>rfl) (by kernel_rfl) Dp.oV) G21;have G41:=Ds.uX (Ds.u4 0 Ds.o0 h41 W B pI rfl G24 Ds.uZ (Ds.b2 fun _ _ _ _ _ _ _ _=>rfl) (by kernel_rfl) Dp.m4) G24;have G52:=Ds.uX (Ds.u4 0 Ds.o0 h52 W B rG rfl G41 Ds.uZ (Ds.b1 fun _ _ _ _ _ _ _=>rfl) (by kernel_rfl) Dp.nv) G41;have G55:=Ds.uX (Ds.u4 0 Ds.o0 h55 W B oy rfl G52 Ds.uZ (Ds.b1 fun _ _ _ _ _ _ _=>rfl) (by kernel_rfl) Dp.mO) G52;have G2:=Ds.uX (Ds.u4 1 Ds.o0 h2 W B rq rfl G55 Ds.uZ (Ds.b2 fun _ _ _ _ _ _ _ _=>rfl) (by kernel_rfl) Dp.oO) G55;have G6:=Ds.uX (Ds.u4 1 Ds.o0 h6 W B rA rfl G2 Ds.uZ (Ds.b2 fun _ _ _ _ _ _ _ _=>rfl) (by kernel_rfl) Dp.oF) G2;have G7:=Ds.uX (Ds.u4 1 Ds.o0 h7 W B kT rfl G6 Ds.uZ (Ds.b1 fun _ _ _ _ _ _ _=>rfl) (by kernel_rfl) Dp.jY) G6;have G17:=Ds.uX (Ds.u4 1 Ds.o0 h17 W B pE rfl G7 Ds.uZ (Ds.b2 fun _ _ _ _ _ _ _ _=>rfl) (by kernel_rfl) Dp.nA) G7;have G20:=Ds.uX (Ds.u4 1 Ds.o0 h20 W B rC rfl G17 Ds.uZ (Ds.b2 fun _ _ _ _ _ _ _ _=>rfl) (by kernel_rfl) Dp.oG) G17;have G23:=Ds.uX (Ds.u4 1 Ds.o0 h23 W B ot rfl G20 Ds.uZ (Ds.b1 fun _ _ _ _ _ _ _=>rfl) (by kernel_rfl) Dp.kR) G20;have G30:=Ds.uX (Ds.u4 1 Ds.o0 h30 W B pF rfl G23 Ds.uZ (Ds.b2 fun _ _ _ _ _ _ _ _=>rfl) (by kernel_rfl) Dp.nE) G23;have G37:=Ds.uX (Ds.u4 1 Ds.o0 h37 W B pG rfl G30 Ds.uZ (Ds.b1 fun _ _ _ _ _ _ _=>rfl) (by kernel_rfl) Dp.nN) G30;have G42:=Ds.uX (Ds.u4 1 Ds.o0 h42 W B nP rfl G37 Ds.uZ (Ds.b2 fun _ _ _ _ _ _ _ _=>rfl) (by kernel_rfl) Dp.kZ) G37;have G43:=Ds.uX (Ds.u4 1 ([(242,[0]),(246,[0]),(248,[0])],[242],[0]) h43 W B rF rfl G42 Ds.uZ (Ds.b2 fun _ _ _ _ _ _ _ _=>rfl) (by kernel_rfl) Dp.oC) G42;have G49:=Ds.uX (Ds.u4 1 Ds.o0 h49 W B pJ rfl G43 Ds.uZ (Ds.b2 fun _ _ _ _ _ _ _ _=>rfl) (by kernel_rfl) Dp.m5) G43;have G3:=Ds.uX (Ds.u4 2 Ds.o0 h3 W B tL rfl G49 Ds.uZ (Ds.b2 fun _ _ _ _ _ _ _ _=>rfl) (by kernel_rfl) Dp.rQ) G49;have G4:=Ds.uX (Ds.u4 2 Ds.o0 h4 W B pC rfl G3 Ds.uZ (Ds.b2 fun _ _ _ _ _ _ _ _=>rfl) (by kernel_rfl) Dp.nk) G3;have G5:=Ds.uX (Ds.u4 2 Ds.o0 h5 W B r8 rfl G4 Ds.uZ (Ds.b2 fun _ _ _ _ _ _ _ _=>rfl) (by kernel_rfl) Dp.qf) G4;have G8:=Ds.uX (Ds.u4 2 Ds.o0 h8 W B tX rfl G5 Ds.uZ (Ds.b1 fun _ _ _ _ _ _ _=>rfl) (by kernel_rfl) Dp.ra) G5;have G9:=Ds.uX (Ds.u4 2 Ds.o0 h9 W B oo rfl G8 Ds.uZ (Ds.b2 fun _ _ _ _ _ _ _ _=>rfl) (by kernel_rfl) Dp.mF) G8;have G14:=Ds.uX (Ds.u4 2 Ds.o0 h14 W B tZ rfl G9 Ds.uZ (Ds.b2 fun _ _ _ _ _ _ _ _=>rfl) (by kernel_rfl) Dp.sy) G9;have G15:=Ds.uX (Ds.u4 2 Ds.o0 h15 W B sS rfl G14 Ds.uZ (Ds.b2 fun _ _ _ _ _ _ _ _=>rfl) (by kernel_rfl) Dp.q9) G14;have G18:=Ds.uX (Ds.u4 2 Ds.o0 h18 W B tM rfl G15 Ds.uZ (Ds.b2 fun _ _ _ _ _ _ _ _=>rfl) (by kernel_rfl) Dp.rW) G15;have G22:=Ds.uX (Ds.u4 2 Ds.o0 h22 W B qF rfl G18 Ds.uZ (Ds.b2 fun _ _ _ _ _ _ _ _=>rfl) (by kernel_rfl) Dp.mK) G18;have G28:=Ds.uX (Ds.u4 2 Ds.o0 h28 W B t9 rfl G22 Ds.uZ (Ds.b2 fun _ _ _ _ _ _ _ _=>rfl) (by kernel_rfl) Dp.tE) G22;have G44:=Ds.uX (Ds.u4 2 ([(256,[3])],[251],[3]) h44 W B r9 rfl G28 Ds.uZ (Ds.b2 fun _ _ _ _ _ _ _ _=>rfl) (by kernel_rfl) Dp.pY) G28;have G45:=Ds.uX (Ds.u4 2 ([(262,[2])],[258],[2]) h45 W B qJ rfl G44 Ds.uZ (Ds.b2 fun _ _ _ _ _ _ _ _=>rfl) (by kernel_rfl) Dp.nY) G44;have G47:=Ds.uX (Ds.u4 2 Ds.o0 h47 W B nQ rfl G45 Ds.uZ (Ds.b2 fun _ _ _ _ _ _ _ _=>rfl) (by kernel_rfl) Dp.lI) G45;have G48:=Ds.uX (Ds.u4 2 Ds.o0 h48 W B kW rfl G47 Ds.uZ (Ds.b1 fun _ _ _ _ _ _ _=>rfl) (by kernel_rfl) Dp.kj) G47;have G50:=Ds.uX (Ds.u4 2 Ds.o0 h50 W B kF rfl G48 Ds.uZ (Ds.b2 fun _ _ _ _ _ _ _ _=>rfl) (by kernel_rfl) Dp.j7) G48;have G51:=Ds.uX (Ds.u4 2 Ds.o0 h51 W B nS rfl G50 Ds.uZ (Ds.b3 fun _ _ _ _ _ _ _ _ _=>rfl) (by kernel_rfl) Dp.lE) G50;have G11:=Ds.uX (Ds.u4 3 Ds.o0 h11 W B tY rfl G51 Ds.uZ (Ds.b1 fun _ _ _ _ _ _ _=>rfl) (by kernel_rfl) Dp.sx) G51;have G29:=Ds.uX (Ds.u4 3 Ds.o0 h29 W B tO rfl G11 Ds.uZ (Ds.b2 fun _ _ _ _ _ _ _ _=>rfl) (by kernel_rfl) Dp.rY) G11;have G33:=Ds.uX (Ds.u4 3 Ds.o0 h33 W B rD rfl G29 Ds.uZ (Ds.b2 fun _ _ _ _ _ _ _ _=>rfl) (by kernel_rfl) Dp.nM) G29;have G35:=Ds.uX (Ds.u4 3 Ds.o0 h35 W B rE rfl G33 Ds.uZ (Ds.b1 fun _ _ _ _ _ _ _=>rfl) (by kernel_rfl) Dp.oU) G33;have G46:=Ds.uX (Ds.u4 3 Ds.o0 h46 W B sW rfl G35 Ds.uZ (Ds.b2 fun _ _ _ _ _ _ _ _=>rfl) (by kernel_rfl) Dp.qX) G35;have G25:=Ds.uX (Ds.u4 4 ([(141,[11])],[136],[11]) h25 W B sV rfl G46 Ds.uZ (Ds.b2 fun _ _ _ _ _ _ _ _=>rfl) (by kernel_rfl) Dp.oW) G46;have G31:=Ds.uX (Ds.u4 4 Ds.o0 h31 W B qI rfl G25 Ds.uZ (Ds.b3 fun _ _ _ _ _ _ _ _ _=>rfl) (by kernel_rfl) Dp.oe) G25;have G34:=Ds.uX (Ds.u4 4 Ds.o0 h34 W B ox rfl G31 Ds.uZ (Ds.b1 fun _ _ _ _ _ _ _=>rfl) (by kernel_rfl) Dp.mJ) G31;have G53:=Ds.uX (Ds.u4 4 Ds.o0 h53 W B qK rfl G34 Ds.uZ (Ds.b2 fun _ _ _ _ _ _ _ _=>rfl) (by kernel_rfl) Dp.og) G34;have G26:=Ds.uX (Ds.u4 5 Ds.o0 h26 W B tN rfl G53 Ds.uZ (Ds.b2 fun _ _ _ _ _ _ _ _=>rfl) (by kernel_rfl) Dp.qy) G53;have G36:=Ds.uX (Ds.u4 5 ([(204,[1])],[197],[1]) (gc:=[("LETTER",Dp.lD)]) h36 W B t4 rfl G26 (Ds.Pn (Dp.C3 X G zL lL lT) Ds.uZ) (Ds.b1 fun _ _ _ _ _ _ _=>rfl) (by kernel_rfl) Dp.sA) G26;have G54:=Ds.uX (Ds.u4 5 Ds.o0 h54 W B sa rfl G36 Ds.uZ (Ds.b1 fun _ _ _ _ _ _ _=>rfl) (by kernel_rfl) Dp.oi) G36;have G27:=Ds.uX (Ds.u4 6 Ds.o0 h27 W B mQ rfl G54 Ds.uZ (Ds.b1 fun _ _ _ _ _ _ _=>rfl) (by kernel_rfl) Dp.ku) G54;have G32:=Ds.uX (Ds.u4 6 Ds.o0 h32 W B ou rfl G27 Ds.uZ (Ds.b2 fun _ _ _ _ _ _ _ _=>rfl) (by kernel_rfl) Dp.mL) G27;have V38:=Ds.uX (vd 7 h38 W (Ds.b1 fun _ _ _ _ _ _ _=>rfl)) G32;have A38:=Ds.uX (Ds.u4 7 ([(213,[1])],[208],[1]) h38 W B mR rfl V38 Ds.uZ (Ds.b1 fun _ _ _ _ _ _ _=>rfl) (by kernel_rfl) Dp.oj) V38;have B38:=Ds.uX (Ds.u4 8 ([(213,[1])],[208],[1]) h38 W B mR rfl A38 Ds.uZ (Ds.b1 fun _ _ _ _ _ _ _=>rfl) (by kernel_rfl) Dp.om) A38;have G38:=Ds.uX (Ds.u4 9 ([(213,[1])],[208],[1]) h38 W B mR rfl B38 Ds.uZ (Ds.b1 fun _ _ _ _ _ _ _=>rfl) (by kernel_rfl) Dp.po) B38;exact Ds.KQ (n:=40) (k:=10) (gc:=[]) (fz:=[]) (own:=[]) (mu:=[]) F B ua gf G38 Ds.uZ rfl (by decide) (by first|exact Or.inl rfl|exact Or.inr rfl) (by first|exact Or.inl rfl|exact Or.inr rfl) rfl (by kernel_rfl) Dp.Ev
theorem walk{l:PySem.W.OpenLaw}{q:PU}{loose:List PR}{YP:P3->Qb->Prop}{d:DefRec}{K:Params->PM}(hn:l.most=some 63)(hdf:d.params.defaults=[])
  (hY:∀(w:P3) (h:Qb),YP w h->(K w.params).In h)
  (F:∀(w:P3) (mg:PR->Option Pt) (fa:Py) (h:Qb),(K w.params).In h->h.Ns PJ mg->mg d.name=some (.ref fa) ->
   ∃ fd:Qt,(∀(s:Px) (u:Pt),BindsTo s fd ⟨[u],[]⟩ [("_law_script",u)])/\∀ base:Qb,(K w.params).In base->base.Ns PJ mg->FnOk l.prog w (K w.params) mg base Dh 11 fa fd ["_law_script"] (Dp.Do (K w.params))) (hi:PyProof.Rows.importsNone q=true) (ht:l.prog.given.tree=none) :
  PySem.W.WalkO q loose XP YP l.row.toRowW d [] (fun f vs=>PySem.call f vs) :=
 L2.Hx (n:=63) (k:=11) (x := "_law_script") (CX:=fun _=>Dh) (sp:=fun w=>Dp.Do (K w.params)) hn (by decide) hdf ⟨rfl,by decide,by decide⟩ hY F (fun _ _ a ns hl _ hS=>⟨a,ns,rfl,hS,hl,fun _=>rfl⟩) (fun _ _ _ _ _ z=>z) hi ht
end My
namespace PySem.W.Fast
def tw8484075787006678379:=()
def tw12190092597383815511:=()
def tw5141001075615971676:=()
def tw14203712184029047918:=()
def tw13481299786035604887:=()
def tw6599317157314584332:=()
def tw16202494180964844221:=()
def tw4092903658318539599:=()
def tw3825288331715115065:=()
def tw4066566034312481240:=()
def tw10523136211547415693:=()
def tw17407743170219887211:=()
def tw10993949387880108753:=()
def tw11176563413091125674:=()
def tw7660833190215696982:=()
def tw7494087976680103874:=()
def tw10583933346897837491:=()
def tw5440077817229783288:=()
def tw5105197699937081166:=()
def tw10349116432044949579:=()
def tw131737932038814459:=()
def tw7444640953973647017:=()
def tw5696723312753105088:=()
def tw9508570698881093025:=()
def tw14292480479331223470:=()
def tw5690275248852569435:=()
def tw14911725472734269786:=()
def tw17262166365389935577:=()
def tw9648253836248760927:=()
def tw1403511179900953114:=()
def tw15040944002402490048:=()
def tw16754524936320367320:=()
def tw9597560671491949453:=()
def tw16854154031131292165:=()
def tw594368473416424675:=()
def tw4857735148183318544:=()
def tw1768117224093459112:=()
def tw1302061770015061866:=()
def tw163652062599741640:=()
def tw5435868755879260572:=()
def tw16872969710668621626:=()
def tw17329875049452187352:=()
def tw16863326389006390790:=()
def tw5269388196504466291:=()
def tw2864431291051130160:=()
def tw15790614799357106271:=()
def tw582042244889304826:=()
def tw3494032566860322542:=()
def tw11119195535881146311:=()
def tw2649387726805118333:=()
def tw8425590991375494047:=()
def tw3892055289710285808:=()
def tw11951758751826734738:=()
def tw2632500659869410503:=()
def tw5792368840633113627:=()
def tw13179664237048732068:=()
def tw10540887092224324796:=()
def tw2406590241050718552:=()
def tw10134183346092395123:=()
def tw5621293615816099954:=()
def tw4355750287571736654:=()
def tw887873956104475541:=()
def tw11781764298655053523:=()
def tw17307523606536889038:=()
def tw11254440961492099567:=()
def tw10868090796795572414:=()
def tw16159944768324065391:=()
def tw14308907775572657254:=()
def tw1591314082828341779:=()
def tw16634228961457809417:=()
def tw11840311714759914494:=()
def tw5704344197565323649:=()
def tw11041315462537899828:=()
def tw7751483580767863348:=()
def tw6232096831651152683:=()
def tw15455302255386503667:=()
def tw15496646485365176405:=()
def tw4013217938487543349:=()
def tw11626666425916146023:=()
def tw15113889929864580878:=()
def tw13303522282121692890:=()
def tw424143905820557923:=()
def tw2835166529500686880:=()
def tw3134899830893912085:=()
def tw17677044409651078024:=()
def tw17782204688254623623:=()
def tw18290857594586979588:=()
def tw13751903064083933987:=()
def tw4474453204984915737:=()
def tw1596629844797084217:=()
def tw6880395646587449027:=()
def tw10735597995042745280:=()
def tw8861734139675338635:=()
def tw2487065174706063143:=()
def tw10932225619550621051:=()
def tw13412466006569362548:=()
def tw6461546425504434727:=()
def tw15105142867195267314:=()
def tw15084158370491656680:=()
def tw4537628016419253204:=()
def tw18438125914569095514:=()
def tw16276384891374762844:=()
def tw4367171537392644473:=()
def tw3284775223735419154:=()
def tw12523877861404393935:=()
def tw5739394550942264523:=()
def tw2560071769718768525:=()
def tw4366216240003519196:=()
def tw17116729338496483666:=()
def tw10498077195865738612:=()
def tw9038979366517587886:=()
def tw17232729484386952815:=()
def tw11488895315359122270:=()
def tw10059787936428598871:=()
def tw4837310172769229917:=()
def tw10372003423886619697:=()
def tw11182543262059204909:=()
def tw6210946852270312526:=()
def tw15190951579159385172:=()
def tw13485942792166590880:=()
def tw12104598186908979411:=()
def tw14753727154749202526:=()
def tw16721545962145471849:=()
def tw7216936803609368228:=()
def tw15291007181293682250:=()
def tw11124142239739690765:=()
def tw2941195926883647016:=()
def tw16835431306105843642:=()
def tw13835168214997277454:=()
def tw8951893085650134717:=()
def tw510660932968218222:=()
def tw11989001409173916243:=()
def tw1386145923383193844:=()
def tw2988797846195379986:=()
def tw16153490917042887423:=()
def tw2183057930259365454:=()
def tw4301880406046808955:=()
def tw12016192652047504350:=()
def tw3078024356211022197:=()
def tw12694140555133358681:=()
def tw941601149834733994:=()
def tw10559789234332474074:=()
def tw14545016315400831483:=()
def tw12656681071275583905:=()
def tw5625942033692209405:=()
def tw7779433594482214073:=()
def tw875568622758282980:=()
def tw16260526347825060410:=()
def tw13892603892733950082:=()
def tw18177314494325337241:=()
def tw12720670666259229668:=()
def tw1032109217656665160:=()
def tw17073058082495910812:=()
def tw485524660185940560:=()
def tw11211150630121884376:=()
def tw6860649373035288197:=()
def tw16466941808637338543:=()
def tw7971490083000367437:=()
def tw10548161245067125046:=()
def tw997902818796099461:=()
def tw6526520257455639130:=()
def tw17503577045583855797:=()
def tw14713832333387134997:=()
def tw15620906339727425033:=()
def tw10932195736624559083:=()
def tw16786370884315703331:=()
def tw9990096051778875496:=()
def tw2205371672312034414:=()
def tw6083987249388514431:=()
def tw5024183204028992350:=()
def tw7295354016777996393:=()
def tw14371153185904576080:=()
def tw18225078088607152308:=()
def tw15821331160515293399:=()
def tw11852701325017709339:=()
def tw4585702541756913928:=()
def tw16790266081699793983:=()
def tw12828421268374952480:=()
def tw3937312300477758260:=()
def tw5256053062936805491:=()
def tw3789724091709954666:=()
def tw16694784321187723090:=()
def tw13395086555548704543:=()
def tw4490764736482542862:=()
def tw17771091866593263334:=()
def tw4848341210506225508:=()
def tw8637887216515352244:=()
def tw17456334983108695681:=()
def tw5524008558568595746:=()
def tw803147136499348294:=()
def tw6037823492136733486:=()
def tw18294338065685005723:=()
def tw548022865717097373:=()
def tw591630940073690752:=()
def tw18037945732550805007:=()
def tw8586602557841458280:=()
def tw11850351707719973541:=()
def tw6283398982710544537:=()
def tw17388386355471731752:=()
def tw12929360188956027116:=()
def tw13099679854626151994:=()
def tw1803623809497032071:=()
def tw14979949227816173919:=()
def tw7134557081523877714:=()
def tw15914009580603727796:=()
def tw2754096602498697548:=()
def tw1141603151426516443:=()
def tw6671231041495313927:=()
def tw17851951658607881059:=()
def tw7687020528054702404:=()
def tw406772503637673489:=()
def tw12183174580672935547:=()
def tw18228298118901707665:=()
def tw9801902061720267827:=()
def tw2463695079692985178:=()
def tw7604903011216359395:=()
def tw5748926646742619587:=()
def tw11676549401364310982:=()
def tw7752470379292913874:=()
def tw6683573829546213359:=()
def tw6935227430179101872:=()
def tw14296358611135566015:=()
def tw4321848920348695909:=()
def tw9551822720923865018:=()
def tw13215639267231669090:=()
def tw10129512648976270444:=()
def tw14848923890427260449:=()
def tw6203538691940923259:=()
end PySem.W.Fast
open PySem PySem.W PyProof.Rows
set_option maxRecDepth 100000 in
set_option maxHeartbeats 0 in
theorem PySem.Challenge.cw_nestwright_k77_whole_chains_of_what_is_p_holds : PySem.Challenge.rw_nestwright_k77_whole_chains_of_what_is_p.Holds := by
 w_on;o_law;k_head;(case hw=>w_witness2)
 k_fill
 refine My.walk (l:=PySem.Challenge.rw_nestwright_k77_whole_chains_of_what_is_p) rfl rfl (fun w h Y=>PySem.W.kIn_of Y) ?F ?hi rfl
 (case hi=>kernel_rfl)
 case F =>
  intro w mg fa h KX G hmg;refine' My.Lz KX G hmg (Ds.sl ?a1 ?l1 ?c1 ?k1) (Ds.sl ?a2 ?l2 ?c2 ?k2) (Ds.sl ?a3 ?l3 ?c3 ?k3) (Ds.sl ?a4 ?l4 ?c4 ?k4) (Ds.sl ?a5 ?l5 ?c5 ?k5) (Ds.sl ?a6 ?l6 ?c6 ?k6) (Ds.sl ?a7 ?l7 ?c7 ?k7) (Ds.sl ?a8 ?l8 ?c8 ?k8) (Ds.sl ?a9 ?l9 ?c9 ?k9) (Ds.sl ?a10 ?l10 ?c10 ?k10) (Ds.sl ?a11 ?l11 ?c11 ?k11) (Ds.sl ?a12 ?l12 ?c12 ?k12) (Ds.sl ?a13 ?l13 ?c13 ?k13) (Ds.sl ?a14 ?l14 ?c14 ?k14) (Ds.sl ?a15 ?l15 ?c15 ?k15) (Ds.sl ?a16 ?l16 ?c16 ?k16) (Ds.sl ?a17 ?l17 ?c17 ?k17) (Ds.sl ?a18 ?l18 ?c18 ?k18) (Ds.sl ?a19 ?l19 ?c19 ?k19) (Ds.sl ?a20 ?l20 ?c20 ?k20) (Ds.sl ?a21 ?l21 ?c21 ?k21) (Ds.sl ?a22 ?l22 ?c22 ?k22) (Ds.sl ?a23 ?l23 ?c23 ?k23) (Ds.sl ?a24 ?l24 ?c24 ?k24) (Ds.sl ?a25 ?l25 ?c25 ?k25) (Ds.sl ?a26 ?l26 ?c26 ?k26) (Ds.sl ?a27 ?l27 ?c27 ?k27) (Ds.sl ?a28 ?l28 ?c28 ?k28) (Ds.sl ?a29 ?l29 ?c29 ?k29) (Ds.sl ?a30 ?l30 ?c30 ?k30) (Ds.sl ?a31 ?l31 ?c31 ?k31) (Ds.sl ?a32 ?l32 ?c32 ?k32) (Ds.sl ?a33 ?l33 ?c33 ?k33) (Ds.sl ?a34 ?l34 ?c34 ?k34) (Ds.sl ?a35 ?l35 ?c35 ?k35) (Ds.sl ?a36 ?l36 ?c36 ?k36) (Ds.sl ?a37 ?l37 ?c37 ?k37) (Ds.sl ?a38 ?l38 ?c38 ?k38) (Ds.sl ?a39 ?l39 ?c39 ?k39) (Ds.sl ?a40 ?l40 ?c40 ?k40) (Ds.sl ?a41 ?l41 ?c41 ?k41) (Ds.sl ?a42 ?l42 ?c42 ?k42) (Ds.sl ?a43 ?l43 ?c43 ?k43) (Ds.sl ?a44 ?l44 ?c44 ?k44) (Ds.sl ?a45 ?l45 ?c45 ?k45) (Ds.sl ?a46 ?l46 ?c46 ?k46) (Ds.sl ?a47 ?l47 ?c47 ?k47) (Ds.sl ?a48 ?l48 ?c48 ?k48) (Ds.sl ?a49 ?l49 ?c49 ?k49) (Ds.sl ?a50 ?l50 ?c50 ?k50) (Ds.sl ?a51 ?l51 ?c51 ?k51) (Ds.sl ?a52 ?l52 ?c52 ?k52) (Ds.sl ?a53 ?l53 ?c53 ?k53) (Ds.sl ?a54 ?l54 ?c54 ?k54) (Ds.sl ?a55 ?l55 ?c55 ?k55) (Ds.sl ?a56 ?l56 ?c56 ?k56) ?z_len ?z_range ?z_all ?z_any ?z_abs ?z_int ?z_bool ?z_str ?z_list ?z_tuple ?z_dict ?z_isinstance ?z_enumerate ?z_reversed ?z_sorted ?z_max ?z_min ?z_sum ?z_zip ?zL ?lL ?lT
  (case a1=>k_is);(case l1=>k_is);(case c1=>k_is);(case k1=>k_is)
  (case a2=>k_is);(case l2=>k_is);(case c2=>k_is);(case k2=>k_is)
  (case a3=>k_is);(case l3=>k_is);(case c3=>k_is);(case k3=>k_is)
  (case a4=>k_is);(case l4=>k_is);(case c4=>k_is);(case k4=>k_is)
  (case a5=>k_is);(case l5=>k_is);(case c5=>k_is);(case k5=>k_is)
  (case a6=>k_is);(case l6=>k_is);(case c6=>k_is);(case k6=>k_is)
  (case a7=>k_is);(case l7=>k_is);(case c7=>k_is);(case k7=>k_is)
  (case a8=>k_is);(case l8=>k_is);(case c8=>k_is);(case k8=>k_is)
  (case a9=>k_is);(case l9=>k_is);(case c9=>k_is);(case k9=>k_is)
  (case a10=>k_is);(case l10=>k_is);(case c10=>k_is);(case k10=>k_is)
  (case a11=>k_is);(case l11=>k_is);(case c11=>k_is);(case k11=>k_is)
  (case a12=>k_is);(case l12=>k_is);(case c12=>k_is);(case k12=>k_is)
  (case a13=>k_is);(case l13=>k_is);(case c13=>k_is);(case k13=>k_is)
  (case a14=>k_is);(case l14=>k_is);(case c14=>k_is);(case k14=>k_is)
  (case a15=>k_is);(case l15=>k_is);(case c15=>k_is);(case k15=>k_is)
  (case a16=>k_is);(case l16=>k_is);(case c16=>k_is);(case k16=>k_is)
  (case a17=>k_is);(case l17=>k_is);(case c17=>k_is);(case k17=>k_is)
  (case a18=>k_is);(case l18=>k_is);(case c18=>k_is);(case k18=>k_is)
  (case a19=>k_is);(case l19=>k_is);(case c19=>k_is);(case k19=>k_is)
  (case a20=>k_is);(case l20=>k_is);(case c20=>k_is);(case k20=>k_is)
  (case a21=>k_is);(case l21=>k_is);(case c21=>k_is);(case k21=>k_is)
  (case a22=>k_is);(case l22=>k_is);(case c22=>k_is);(case k22=>k_is)
  (case a23=>k_is);(case l23=>k_is);(case c23=>k_is);(case k23=>k_is)
  (case a24=>k_is);(case l24=>k_is);(case c24=>k_is);(case k24=>k_is)
  (case a25=>k_is);(case l25=>k_is);(case c25=>k_is);(case k25=>k_is)
  (case a26=>k_is);(case l26=>k_is);(case c26=>k_is);(case k26=>k_is)
  (case a27=>k_is);(case l27=>k_is);(case c27=>k_is);(case k27=>k_is)
  (case a28=>k_is);(case l28=>k_is);(case c28=>k_is);(case k28=>k_is)
  (case a29=>k_is);(case l29=>k_is);(case c29=>k_is);(case k29=>k_is)
  (case a30=>k_is);(case l30=>k_is);(case c30=>k_is);(case k30=>k_is)
  (case a31=>k_is);(case l31=>k_is);(case c31=>k_is);(case k31=>k_is)
  (case a32=>k_is);(case l32=>k_is);(case c32=>k_is);(case k32=>k_is)
  (case a33=>k_is);(case l33=>k_is);(case c33=>k_is);(case k33=>k_is)
  (case a34=>k_is);(case l34=>k_is);(case c34=>k_is);(case k34=>k_is)
  (case a35=>k_is);(case l35=>k_is);(case c35=>k_is);(case k35=>k_is)
  (case a36=>k_is);(case l36=>k_is);(case c36=>k_is);(case k36=>k_is)
  (case a37=>k_is);(case l37=>k_is);(case c37=>k_is);(case k37=>k_is)
  (case a38=>k_is);(case l38=>k_is);(case c38=>k_is);(case k38=>k_is)
  (case a39=>k_is);(case l39=>k_is);(case c39=>k_is);(case k39=>k_is)
  (case a40=>k_is);(case l40=>k_is);(case c40=>k_is);(case k40=>k_is)
  (case a41=>k_is);(case l41=>k_is);(case c41=>k_is);(case k41=>k_is)
  (case a42=>k_is);(case l42=>k_is);(case c42=>k_is);(case k42=>k_is)
  (case a43=>k_is);(case l43=>k_is);(case c43=>k_is);(case k43=>k_is)
  (case a44=>k_is);(case l44=>k_is);(case c44=>k_is);(case k44=>k_is)
  (case a45=>k_is);(case l45=>k_is);(case c45=>k_is);(case k45=>k_is)
  (case a46=>k_is);(case l46=>k_is);(case c46=>k_is);(case k46=>k_is)
  (case a47=>k_is);(case l47=>k_is);(case c47=>k_is);(case k47=>k_is)
  (case a48=>k_is);(case l48=>k_is);(case c48=>k_is);(case k48=>k_is)
  (case a49=>k_is);(case l49=>k_is);(case c49=>k_is);(case k49=>k_is)
  (case a50=>k_is);(case l50=>k_is);(case c50=>k_is);(case k50=>k_is)
  (case a51=>k_is);(case l51=>k_is);(case c51=>k_is);(case k51=>k_is)
  (case a52=>k_is);(case l52=>k_is);(case c52=>k_is);(case k52=>k_is)
  (case a53=>k_is);(case l53=>k_is);(case c53=>k_is);(case k53=>k_is)
  (case a54=>k_is);(case l54=>k_is);(case c54=>k_is);(case k54=>k_is)
  (case a55=>k_is);(case l55=>k_is);(case c55=>k_is);(case k55=>k_is)
  (case a56=>k_is);(case l56=>k_is);(case c56=>k_is);(case k56=>k_is)
  (case z_len=>k_is)
  (case z_range=>k_is)
  (case z_all=>k_is)
  (case z_any=>k_is)
  (case z_abs=>k_is)
  (case z_int=>k_is)
  (case z_bool=>k_is)
  (case z_str=>k_is)
  (case z_list=>k_is)
  (case z_tuple=>k_is)
  (case z_dict=>k_is)
  (case z_isinstance=>k_is)
  (case z_enumerate=>k_is)
  (case z_reversed=>k_is)
  (case z_sorted=>k_is)
  (case z_max=>k_is)
  (case z_min=>k_is)
  (case z_sum=>k_is)
  (case z_zip=>k_is)
  (case zL=>k_is);(case lL=>k_is);(case lT=>k_is)
