import PyProof.Rows.All
import Wide.All
import OpenK.AllK
import Wide.FinOn
import Lean
import PyProof.EqAt
import PyProof.EqKinds
import PyProof.TupleCall
import PyProof.ZipIter
import PyProof.Draws
import PyProof.StrOps2
import KE.KLcPair
import KE.KDictLaws
import KE.KSortTup
import KE.KDictList
import PyProof.ListMulRoad
import PyProof.EnumMake
import PyProof.EnumFor
import PySem.Challenge.RW_gloss_k43_whole_ranks_or_ring
set_option Elab.async false
set_option linter.all false
set_option maxRecDepth 100000
set_option genSizeOf false
set_option genSizeOfSpec false
set_option compiler.extract_closed false
open Array renaming getElem?_eq_getElem→O1,length_toList→Py,getElem?_toList→Qf,getElem?_eq_none→QL,toList_push→Sy,getElem_toList→Tc,perm_iff_toList_perm→Tv,append_assoc→VL
open Bool renaming false_ne_true→Oz,and_eq_true_iff→Ph,and_eq_true→Qa,false_eq_true→Ro,and_false→SM,or_eq_true→Vf,false_and→W9,true_and→Xh,or_true→Xi
open Int renaming emod_nonneg→Ol,emod_lt_of_pos→Oo,toNat_natCast→Pz,le_refl→Sx,emod_emod_of_dvd→Vw,mul_emod→Wu,le_of_lt→Ww,natCast_emod→WL
open List renaming length_map→Ng,getElem?_eq_some_iff→Nj,length_append→Np,mem_singleton→Nq,getElem?_eq_getElem→Nr,mem_cons_of_mem→Nt,mem_of_getElem?→Nv,mem_cons_self→Ny,mem_append→Nz,map_append→NK,getElem?_map→NP,mem_cons→NT,mem_append_right→NZ,size_toArray→N5,append_nil→N6,take_length→Oa,length_take→Oc,nodup_cons→Od,take_add_one→Oe,getElem?_of_mem→Og,length_cons→Oj,mem_map→Oq,flatMap_cons→Ov,map_cons→Ow,getElem?_append_left→Ox,nodup_append→O4,length_singleton→O5,flatMap_append→O7,mem_append_left→O8,length_drop→O9,take_of_length_le→Pb,mem_of_mem_take→Pg,map_map→Pq,mem_filterMap→Pu,getElem?_append_right→Px,all_eq_true→PJ,append_assoc→PN,getD_eq_getElem?_getD→PX,dropLast_concat_getLast→Qh,getElem?_cons_succ→Ql,getElem_mem→Qm,mem_flatMap→Qn,getElem?_set_self→Qo,filterMap_cons→Qp,map_congr_left→Qq,length_reverse→Qs,mem_range→Qt,nodup_nil→Qu,mem_filter→Qv,length_filter_le→Qx,filter_append→Qy,lookup_cons→Qz,foldl_cons→QJ,drop_of_length_le→QK,getElem?_eq_none→QM,take_append_drop→QS,getElem?_set_ne→QT,mem_of_mem_drop→QV,find?_cons→QX,getElem?_nil→Q0,take_append_of_le_length→Q9,cons_append→Rb,filter_eq_nil_iff→Rk,reverse_cons→Rv,any_cons→Ry,mem_iff_getElem→RG,getElem?_eq_none_iff→RJ,mem_or_eq_of_mem_set→RK,drop_eq_getElem_cons→RL,pairwise_iff_getElem→RM,flatMap_nil→RN,append_cancel_left→R5,filter_cons_of_pos→R6,length_set→R7,getElem?_drop→Sd,take_sublist→Ss,drop_zero→SN,perm_append_comm→S8,mergeSort_perm→Ti,nil_append→Tj,filter_sublist→Tn,perm_ext_iff_of_nodup→Tt,length_eraseIdx_of_lt→Tz,map_nil→TJ,pairwise_cons→T3,getLast?_eq_getElem?→T8,getElem?_take_of_lt→Uc,ext_getElem?→Uh,foldl_append→Uj,map_take→Us,filter_cons_of_neg→Ut,pairwise_lt_range→Va,of_mem_zip→Ve,all_append→Vg,getElem?_toArray→Vn,lookup_cons_self→Vo,dropLast_concat→Vx,getLastD_concat→Vy,mem_map_of_mem→VH,length_pos_iff→VJ,filterMap_map→VR,take_nil→V4,map_drop→V5,getElem?_set→Wj,drop_sublist→Wk,getElem_drop→Wm,getElem_inj→Wy,filter_cons→WD,getElem_map→WM,forIn_cons→WT,length_nil→WY,take_zero→Xc,all_map→Xj
open Nat renaming le_refl→Nu,lt_of_lt_of_le→Om,ne_of_lt→Ot,zero_le→OD,le_trans→OJ,lt_irrefl→Qj,min_eq_left→Qw,le_succ→Q5,lt_succ_self→Q8,min_eq_right→Ra,le_succ_of_le→Rz,le_of_lt→RP,le_of_eq→TF,sub_self→TQ,lt_trans→TV,sub_zero→TX,succ_le_succ→Ux,le_add_right→Uy,not_lt_zero→Vl,lt_succ_of_lt→Wg,ne_of_gt→Wq,lt_or_ge→Wv,le_antisymm→WW
open Option renaming isSome_map→Sv,map_some→Tg,isSome_iff_exists→Ub,map_eq_some_iff→UW,getD_none→Wz
open PyProof.Rows renaming boot_isinstance→O2,slot_tuple_getitem→Pr,boot_tuple→QF,callWith_type1→Rq,boot_int→Rt,get?_update_seq→Ru,listUpdate_at→R9,boot_max→S7,boot_sorted→Uk,subscriptTail_builtinR→UJ,boot_list→U9,boot_bool→Vb,boot_min→Vj,boot_all→Vk,entry_tuple_getitem→VB,args_tuple_getitem→V0,seqEpoch_at→W5
open PyProof.Rows.F renaming entry_set_update_loop→Uv
open PySem renaming wpAny_bind→Nf,wpAny_pure→Ni,boot_len→Ou,wpAny_holding→Pa,wpAny_newObj_type→Pj,wpAny_mono→PK,wpAny_callSpecial?_slot→PL,wpAny_call_entry→P0,wpAny_truthy_bool→Qd,wpAny_setField→Qi,wpAny_typeNameOfWhole_keyiter→QB,codeAny_call_builtin→QD,wpAny_setState_of→QG,codeAny_builtin→QH,wpAny_passesOwn→QW,wpAny_typeNameOf_keyiter→QZ,mem_of_lookup→Q6,wpAny_isInstance→Rf,wpAny_askSetting→Rg,wpAny_call→Ri,wpAny_rule→Rj,wpAny_Call_Name_kw→Rn,tupleKind_room_in1→Rp,wpAny_of_eq→Rr,wpAny_attempt→Rx,wpAny_loadPart_at→RB,codeAny_mono→RQ,wpAny_typeOf→RV,wpAny_execs_nil→RZ,plainObj_wpAny_Assign_Attribute→Sq,wpAny_loadPart→SJ,sizeLine_eq→Te,wpAny_ite_false→Tp,wpAny_setEntries_of→Tq,wpAny_isSubtype_exc→Tr,wpAny_fieldsOf→T4,wpAny_ite_true→T6,wpAny_pyIter_list→T9,slot_list_getitem→Ud,wpAny_getItem_list_slice→Ue,wpAny_comprehension_free→Ug,wpAny_dictEntries→Ui,wpAny_standAt→Uo,wpAny_newList→Uu,noFill_tuple_add→Uw,entryFor_of_tree→Uz,wpAny_isTrue_Compare1→Vd,wpAny_dictEpoch→Vh,wpAny_isOneOf_keyiter→Vi,call_meets→Vq,wpAny_pyIter_keyiter→Vv,seq_tuple_add→VP,evalPart_none→V1,wpAny_load→V8,wpAny_sequenceKey→Wc,list_append→Wf,wpAny_Call_method→Wh,wpAny_pyIter_slot→Wi,wpAny_storeSet_of→Wn,wpAny_setEpoch_of→Wo,concat_meets→Wr,wpAny_mkText→Ws,call_meetsIn→Wt,sub_set_self→Wx,wpAny_field→WR,wpAny_Name→Xd,typeIs_str→Xg
open PySem.Builtin.ObjectAttr renaming dataDescriptor?→Vc
open PySem.Calls renaming spliced_cons→Rm,evalArgs_plain→RD,callWith_builtin→Sh,call_function_entry→T5,spliced_nil→Ua
open PySem.Challenge renaming pw_gloss_k43_whole_ranks_or_ring→TY
open PySem.Code renaming quiet_builtin→Qk
open PySem.EqMixed renaming ne_bool_str→Xa,ne_str_bool→Xb,ne_int_str→Xe,ne_str_int→Xf
open PySem.F renaming plainAttrs_list→Ob,slot_list_append→Oh,type_list_append→Oi,slot_dict_keyiterator_next→Qg,attr_ValueError→Q7,args_tuple_add_2→RT,slot_list_extend→RW,type_list_extend→RX,entry_tuple_add→R4,slot_tuple_add→Sg,slot_dict_get→SQ,args_dict_keyiterator_next_1→SX,entry_dict_keyiterator_next→S9,slot_dict_setdefault→Td,store_ValueError→Um,args_dict_get_3→Uq,plainAttrs_dict→Ur,entry_dict_get→U8,called_set→Vm,args_list_append_2→Vt,args_list_extend_2→Vu,entry_list_append→VD,entry_list_extend→VF,slot_list_append→V2,slot_list_extend→V3,slot_dict_iter→WK,entry_bexc_ga→WX,slot_set_init→W6,slot_set_iter→W7
open PySem.Heap renaming get?_push_of_some→Nk,get?_push_size→NQ,lt_size→N7,get?_update_self→Pk,get?_update_ne→Qc,size_push→Rh,get?_update_other→UL,get?_none_of_le→Vs
open PySem.Heap.Ns1 renaming of_empty→V9
open PySem.Obj renaming data_mapFields→Pn,isFreed_of_fields→Qe,cls_mapFields→Sw
open PySem.SeqAt renaming in_listAt→W0
open PySem.SeqAt.EqAt renaming int_int→V6
open PySem.Value renaming isInt_shape→V7
open PySem.W renaming Frag→Nh,mg_of→N8,mg_none_of→O6,kia_one→PB,looks_findIn→QC,callWith_K→R3,plainGet_of→Tf,cellsFrom_some→UG,looks_findIn→Vp,hideAll_none→Vr,hideAll_get→Vz,looks_mroIn→VG,of_hideAll→VN,kitx_list→Wa,kitx_dict→Wb,bind_fn→WQ,kas_place→W4,looks_clsIn→W8
open PySem.W.KasT renaming kasWp_bind→R8
namespace L2
open PySem PySem.Spec PyProof.Rows
abbrev Key:=Sum Int Str
def qj:Key->Value->Bool
 | .inl k,v=>Value.isInt k v
 | .inr x,v=>Value.isStrOf x v
def keyH (w:World):Key->Int
 | .inl k=>hashInt k
 | .inr x=>hashStr w x
theorem dj:∀ {k:Key} {v:Value},qj k v=true->(∃ i t,k=Sum.inl i/\v=Value.int i t)∨(∃ x t,k=Sum.inr x/\v=Value.str x t)
 | .inl i,v,h=>by
  obtain ⟨t,e⟩:=V7 (k:=i) (v:=v) h
  exact .inl ⟨i,t,rfl,e⟩
 | .inr x,v,h=>by
  obtain ⟨t,e⟩:=Value.isStrOf_shape (x:=x) (v:=v) h
  exact .inr ⟨x,t,rfl,e⟩
theorem BZ (i:Int) (t:Tok):qj (.inl i) (.int i t)=true:=by simp [qj,Value.isInt]
theorem Bb (x:Str) (t:Tok):qj (.inr x) (.str x t)=true:=by simp [qj,Value.isStrOf]
theorem JQ (a b:Int):decide ((Sum.inl a:Key)=Sum.inl b)=(a==b):=by
 by_cases e:a=b
 ·subst e; simp
 ·have h:¬ (Sum.inl a:Key)=Sum.inl b:=fun q=>e (Sum.inl.inj q)
  rw [decide_eq_false h]
  exact (beq_eq_false_iff_ne.mpr e).symm
theorem Kr (a b:Str):decide ((Sum.inr a:Key)=Sum.inr b)=decide (a=b):=by
 by_cases e:a=b
 ·subst e; simp
 ·have h:¬ (Sum.inr a:Key)=Sum.inr b:=fun q=>e (Sum.inr.inj q)
  rw [decide_eq_false h,decide_eq_false e]
theorem Lg (a:Int) (b:Str):decide ((Sum.inl a:Key)=Sum.inr b)=false:=decide_eq_false (fun q=>nomatch q)
theorem KJ (a:Str) (b:Int):decide ((Sum.inr a:Key)=Sum.inl b)=false:=decide_eq_false (fun q=>nomatch q)
def bU (prog:Program) (w:World):PySem.KeyKind prog w Key where
 is:=qj
 hash:=keyH w
 inj:=fun v a b ha hb=>by
  rcases dj ha with ⟨i,t,rfl,rfl⟩ | ⟨x,t,rfl,rfl⟩
  ·rcases dj hb with ⟨j,u,rfl,e⟩ | ⟨y,u,rfl,e⟩
   ·injection e with e1 _; rw [e1]
   ·exact nomatch e
  ·rcases dj hb with ⟨j,u,rfl,e⟩ | ⟨y,u,rfl,e⟩
   ·exact nomatch e
   ·injection e with e1 _; rw [e1]
 byValue:=fun k v h=>by
  rcases dj h with ⟨i,t,rfl,rfl⟩ | ⟨x,t,rfl,rfl⟩ <;> rfl
 pyHash:=fun hv h=>by
  rcases dj hv with ⟨i,t,rfl,rfl⟩ | ⟨x,t,rfl,rfl⟩
  ·exact wpAny_pyHash_int h
  ·exact wpAny_pyHash_str h
 eqBool:=fun hu hv h=>by
  rcases dj hu with ⟨i,t,rfl,rfl⟩ | ⟨x,t,rfl,rfl⟩
  ·rcases dj hv with ⟨j,u,rfl,rfl⟩ | ⟨y,u,rfl,rfl⟩
   ·rw [JQ] at h; exact wpAny_eqBool_int h
   ·rw [Lg] at h; exact SeqAt.EqAt.int_str i t y u _ _ _ _ h
  ·rcases dj hv with ⟨j,u,rfl,rfl⟩ | ⟨y,u,rfl,rfl⟩
   ·rw [KJ] at h; exact SeqAt.EqAt.str_int x t j u _ _ _ _ h
   ·rw [Kr] at h; exact wpAny_eqBool_str h
 «strs»:=fun k x t v h=>by
  rcases dj h with ⟨i,u,rfl,e⟩ | ⟨y,u,rfl,e⟩
  ·exact nomatch e
  ·injection e with e1 _
   subst e1
   cases v <;> rfl
theorem yF (prog:Program) (w:World) (k:Key) (v:Value):(bU prog w).is k v=qj k v:=rfl
theorem wz (prog:Program) (w:World) (i:Int) (t:Tok):(bU prog w).is (.inl i) (.int i t)=true:=BZ i t
theorem xq (prog:Program) (w:World) (x:Str) (t:Tok):(bU prog w).is (.inr x) (.str x t)=true:=Bb x t
inductive V where
 | non | bl (b:Bool) | int (i:Int) | str (x:Str) | byt (b:Array UInt8) | flt (b:UInt64) | ref (a:Addr) | ty (n:String)
 deriving DecidableEq
def RelV:V->Value->Prop
 | .non,u=>u=Value.none
 | .bl b,u=>u=Value.bool b
 | .int i,u=>∃ t,u=Value.int i t
 | .str x,u=>∃ t,u=Value.str x t
 | .byt b,u=>∃ t,u=Value.bytes b t
 | .flt b,u=>∃ t,u=Value.float b t
 | .ref a,u=>u=Value.ref a
 | .ty n,u=>u=Value.type n
abbrev Vals:List V->List Value->Prop:=Paired RelV
theorem Vals.length {xs:List V} {us:List Value} (r:Vals xs us):xs.length=us.length:=Paired.length r
theorem Vals.get:∀ {xs:List V} {us:List Value} {i:Nat} {x:V},Vals xs us->xs[i]?=some x->∃ u,us[i]?=some u/\RelV x u
 | _,_,_,_,.nil,e=>by simp at e
 | _,_,0,_,.cons r _,e=>by simp at e; subst e; exact ⟨_,rfl,r⟩
 | _,_,i+1,x,.cons _ t,e=>by
  obtain ⟨u,h1,h2⟩:=Vals.get (i:=i) (x:=x) t (by simpa using e)
  exact ⟨u,by simpa using h1,h2⟩
theorem Vals.set {x:V} {u:Value} (r:RelV x u):∀ {xs:List V} {us:List Value} (i:Nat),Vals xs us->Vals (xs.set i x) (us.set i u)
 | _,_,_,.nil=>.nil
 | _,_,0,.cons _ t=>.cons r t
 | _,_,i+1,.cons q t=>.cons q (Vals.set r i t)
theorem Vals.append:∀ {xs ys:List V} {us ws:List Value},Vals xs us->Vals ys ws->Vals (xs++ys) (us++ws)
 | _,_,_,_,.nil,s=>s
 | _,_,_,_,.cons r t,s=>.cons r (Vals.append t s)
theorem Vals.take:∀ {xs:List V} {us:List Value} (n:Nat),Vals xs us->Vals (xs.take n) (us.take n)
 | _,_,0,_=>.nil
 | _,_,_+1,.nil=>.nil
 | _,_,n+1,.cons r t=>.cons r (Vals.take n t)
theorem Vals.drop:∀ {xs:List V} {us:List Value} (n:Nat),Vals xs us->Vals (xs.drop n) (us.drop n)
 | _,_,0,r=>r
 | _,_,_+1,.nil=>.nil
 | _,_,n+1,.cons _ t=>Vals.drop n t
theorem Vals.none_of:∀ {xs:List V} {us:List Value} {i:Nat},Vals xs us->xs[i]?=none->us[i]?=none:=fun {xs us i} r e=>by
 have h1:=r.length
 have h2:xs.length<=i:=RJ.mp e
 exact RJ.mpr (by omega)
def RelO:Option V->Option Value->Prop
 | some v,some u=>RelV v u
 | none,none=>True
 | _,_=>False
def KV {κ:Type}:List (κ×V)->List (κ×Value)->Prop:=Paired fun (p:κ×V) (q:κ×Value)=>p.1=q.1/\RelV p.2 q.2
def kV:Key->V
 | .inl i=>.int i
 | .inr x=>.str x
inductive HO where
 | lst (xs:List V)
 | tup (xs:List V)
 | dK (kvs:List (Key×V)) | dT (kvs:List (List Key×V))
 | set (S:Int->Bool) (n:Nat)
 | ins (C dx:Addr) (fs:List (Str×V))
 | own (x:Addr)
 | xd (fs:List (Str×V))
 | met (f x:Addr)
 | rng (lo hi:Int)
 | frz (o:Obj) (u:HO)
 | tbl (ps:Array Value)
 | ext (φ:Heap->Prop)
abbrev Hp:=Addr->Option HO
def upd (H:Hp) (a:Addr) (o:HO):Hp:=fun b=>if b=a then some o else H b
theorem ak {H:Hp} {a:Addr} {o:HO}:upd H a o a=some o:=by unfold upd; rw [if_pos rfl]
theorem aC {H:Hp} {a b:Addr} {o:HO} (h:b≠a):upd H a o b=H b:=by unfold upd; rw [if_neg h]
theorem iu {H:Hp} {a b:Addr} {o u:HO} (h:H a=some o) (h':H b=some u) (d:o≠u):a≠b:=by
 intro e; subst e; rw [h] at h'; exact d (Option.some.inj h')
theorem bZ {H:Hp} {a b:Addr} {o:HO} (h:H a=some o) (h':H b=none):a≠b:=by
 intro e; subst e; rw [h] at h'; cases h'
section
variable (P:Program) (w:World)
def ObjOk (H:Hp) (h:Heap) (a:Addr):HO->Prop
 | .lst xs=>xs.length<=sizeLine/\∃ (its:List Value) (n:Nat),Vals xs its/\h.get? a=some { cls:=.type "list",data:=.seq its.toArray n }
 | .tup xs=>xs.length<=sizeLine/\∃ its:List Value,Vals xs its/\IsTup h a its.toArray
 | .dK kvs=>kvs.length<=sizeLine/\(a==sysModules)=false/\∃ vs,KV kvs vs/\h.DictOf (bU P w) a vs
 | .dT kvs=>kvs.length<=sizeLine/\(a==sysModules)=false/\∃ xs:List (List Key×Addr×Value),
   Paired (fun (p:List Key×V) (q:List Key×Addr×Value)=>p.1=q.1/\H q.2.1=some (.tup (p.1.map kV))/\RelV p.2 q.2.2) kvs xs /\
   ∃ o es ep,h.get? a=some o/\o.ExactDict/\o.data=.dict es ep/\es.toList=xs.map (entryOfKey (tupleKind (bU P w)))/\(xs.map (·.1)).Nodup
 | .set S n=>h.SetOf (intKind P w) a S n
 | .ins C dx fs=>H dx=some (.own a)/\fs.length<=1000/\dx≠a/\h.get? a=some (PySem.W.instObj C dx) /\
   ∃ mA,h.Ns1 dx mA/\(∀ f,RelO (fs.lookup f) (mA f))/\PySem.Within mA (fs.map (·.1))
 | .own _=>∃ o,h.get? a=some o
 | .xd fs=>∃ mA,h.Ns1 a mA/\∀ f,RelO (fs.lookup f) (mA f)
 | .rng lo hi=>∃ t u v,h.get? a=some { cls:=.type "range",data:=.fields #[.int lo t,.int hi u,.int 1 v] }
 | .frz o u=>h.get? a=some o/\ObjOk H h a u
 | .tbl ps=>h.get? a=some { cls:=.none,data:=.fields ps }
 | .met f x=>h.get? a=some (PySem.W.methodObj (.ref f) (.ref x))
 | .ext φ=>φ h/\(∃ o,h.get? a=some o)/\∀ h1 h2:Heap,φ h1->(∀ o,h1.get? a=some o->h2.get? a=some o)->φ h2
def HOk (H:Hp) (h:Heap):Prop:=∀ a o,H a=some o->ObjOk P w H h a o
end
section
variable {P:Program} {w:World} {H H':Hp} {h h':Heap} {a:Addr} {o:HO}
theorem ObjOk.lt (x:ObjOk P w H h a o):a<h.objs.size:=by
 cases o with
 | lst xs=>obtain ⟨_,_,_,_,e⟩:=x; exact N7 e
 | tup xs=>obtain ⟨_,_,_,p⟩:=x; exact p.lt
 | dK kvs=>obtain ⟨_,_,_,_,o,_,_,e,_⟩:=x; exact N7 e
 | dT kvs=>obtain ⟨_,_,_,_,o,_,_,e,_⟩:=x; exact N7 e
 | set S n=>obtain ⟨o,_,_,_,e,_⟩:=x; exact N7 e
 | ins C dx fs=>obtain ⟨_,_,_,e,_⟩:=x; exact N7 e
 | own y=>obtain ⟨_,e⟩:=x; exact N7 e
 | xd fs=>obtain ⟨_,⟨_,_,_,e,_⟩,_⟩:=x; exact N7 e
 | rng lo hi=>obtain ⟨_,_,_,e⟩:=x; exact N7 e
 | frz ob u=>obtain ⟨e,_⟩:=x; exact N7 e
 | tbl ps=>exact N7 (show h.get? a=some _ from x)
 | met f y=>exact N7 (show h.get? a=some _ from x)
 | ext φ=>obtain ⟨_,⟨_,e⟩,_⟩:=x; exact N7 e
theorem Paired.mapP {α β:Type} {F G:α->β->Prop}:∀ {l₁:List α} {l₂:List β},Paired F l₁ l₂->(∀ a b,F a b->G a b)->Paired G l₁ l₂
 | _,_,.nil,_=>.nil
 | _,_,.cons r t,f=>.cons (f _ _ r) (Paired.mapP t f)
theorem ObjOk.stay (x:ObjOk P w H h a o) (k:∀ b u,(b=a∨H b=some (.own a))->h.get? b=some u->h'.get? b=some u)
  (ho:∀ b,H b=some (.own a)->H' b=some (.own a)) (ht:∀ b xs,H b=some (.tup xs)->H' b=some (.tup xs)):ObjOk P w H' h' a o:=by
 induction o with
 | lst xs=>obtain ⟨z,its,n,r,e⟩:=x; exact ⟨z,its,n,r,k _ _ (.inl rfl) e⟩
 | tup xs=>obtain ⟨z,its,r,ob,e,c⟩:=x; exact ⟨z,its,r,ob,k _ _ (.inl rfl) e,c⟩
 | dK kvs=>obtain ⟨z,y,vs,r,ob,es,ep,e,c⟩:=x; exact ⟨z,y,vs,r,ob,es,ep,k _ _ (.inl rfl) e,c⟩
 | dT kvs =>
  obtain ⟨z,y,xs,r,ob,es,ep,e,c⟩:=x
  exact ⟨z,y,xs,Paired.mapP r fun p q z=>⟨z.1,ht _ _ z.2.1,z.2.2⟩,ob,es,ep,k _ _ (.inl rfl) e,c⟩
 | set S n=>obtain ⟨ob,es,ep,t,e,c⟩:=x; exact ⟨ob,es,ep,t,k _ _ (.inl rfl) e,c⟩
 | ins C dx fs =>
  obtain ⟨d,z,ne,e,mA,⟨od,es,ep,e2,c⟩,r⟩:=x
  exact ⟨ho _ d,z,ne,k _ _ (.inl rfl) e,mA,⟨od,es,ep,k _ _ (.inr d) e2,c⟩,r⟩
 | own y=>obtain ⟨ob,e⟩:=x; exact ⟨ob,k _ _ (.inl rfl) e⟩
 | xd fs=>obtain ⟨mA,⟨od,es,ep,e,c⟩,r⟩:=x; exact ⟨mA,⟨od,es,ep,k _ _ (.inl rfl) e,c⟩,r⟩
 | rng lo hi=>obtain ⟨t,u,v,e⟩:=x; exact ⟨t,u,v,k _ _ (.inl rfl) e⟩
 | frz ob u ih=>obtain ⟨e,q⟩:=x; exact ⟨k _ _ (.inl rfl) e,ih q⟩
 | tbl ps =>
  have e:h.get? a=some { cls:=.none,data:=.fields ps }:=x
  show h'.get? a=some { cls:=.none,data:=.fields ps }
  exact k a _ (.inl rfl) e
 | met f y =>
  have e:h.get? a=some (PySem.W.methodObj (.ref f) (.ref y)):=x
  show h'.get? a=some (PySem.W.methodObj (.ref f) (.ref y))
  exact k a _ (.inl rfl) e
 | ext φ=>obtain ⟨p,⟨o,e⟩,st⟩:=x; exact ⟨st _ _ p fun o q=>k _ _ (.inl rfl) q,⟨o,k _ _ (.inl rfl) e⟩,st⟩
theorem HOk.lt (x:HOk P w H h) (e:H a=some o):a<h.objs.size:=(x a o e).lt
theorem HOk.fresh (x:HOk P w H h) (e:h.objs.size<=a):H a=none:=by
 cases q:H a with
 | none=>rfl
 | some u=>exact absurd (Om (x.lt q) e) (Qj _)
theorem HOk.kept (x:HOk P w H h) (k:∀ b u,h.get? b=some u->h'.get? b=some u):HOk P w H h':=fun a o e =>
 (x a o e).stay (fun b u _ q=>k b u q) (fun _ q=>q) fun _ _ q=>q
theorem HOk.laid (x:HOk P w H h) (k:∀ b u,h.get? b=some u->h'.get? b=some u) (hp:h.objs.size<=a) (new:ObjOk P w (upd H a o) h' a o):HOk P w (upd H a o) h':=fun b u e=>by
 have hn:=x.fresh hp
 by_cases hb:b=a
 ·subst hb; rw [ak] at e; cases e; exact new
 ·rw [aC hb] at e
  exact (x b u e).stay (fun c v _ q=>k c v q) (fun c q=>by rw [aC (bZ q hn)]; exact q) fun c xs q=>by rw [aC (bZ q hn)]; exact q
end
def Rd (H:Hp) (a:Addr) (u:HO):Prop:=H a=some u∨∃ o,H a=some (.frz o u)
theorem Rd.of {H:Hp} {a:Addr} {u:HO} (h:H a=some u):Rd H a u:=.inl h
theorem Rd.ok {P:Program} {w:World} {H:Hp} {h:Heap} {a:Addr} {u:HO} (r:Rd H a u) (x:HOk P w H h):ObjOk P w H h a u:=by
 rcases r with r | ⟨o,r⟩
 ·exact x a u r
 ·obtain ⟨_,q⟩:=x a _ r
  exact q
def Mut:Option HO->Prop
 | some (.lst _)=>True
 | some (.dK _)=>True
 | some (.dT _)=>True
 | some (.set _ _)=>True
 | some (.ins _ _ _)=>True
 | some (.ext _)=>True
 | _=>False
section
variable {P:Program} {w:World} {H:Hp} {h h':Heap} {x e:Addr} {o':HO}
theorem HOk.write (ok:HOk P w H h) (mu:Mut (H x)) (he:e=x∨H e=some (.own x)) (k:∀ b u,b≠e->h.get? b=some u->h'.get? b=some u) (heo:∃ u,h'.get? e=some u)
  (new:ObjOk P w (upd H x o') h' x o'):HOk P w (upd H x o') h':=fun b u q=>by
 have nown:∀ c y,H c=some (.own y)->c≠x:=fun c y r z=>by subst z; rw [r] at mu; exact mu
 have ntup:∀ c xs,H c=some (.tup xs)->c≠x:=fun c xs r z=>by subst z; rw [r] at mu; exact mu
 by_cases hb:b=x
 ·subst hb; rw [ak] at q; cases q; exact new
 ·rw [aC hb] at q
  by_cases hbe:b=e
  ·have q':H b=some (.own x):=by
    rcases he with z | z
    ·exact absurd (hbe.trans z) hb
    ·rw [hbe]; exact z
   rw [q] at q'; cases q'
   obtain ⟨v,hv⟩:=heo
   exact ⟨v,by rw [hbe]; exact hv⟩
  ·refine (ok b u q).stay (fun c v hc r=>k c v ?_ r) (fun c r=>by rw [aC (nown c b r)]; exact r) fun c xs r=>by rw [aC (ntup c xs r)]; exact r
   rcases hc with rfl | hc
   ·exact hbe
   ·rintro rfl
    rcases he with z | z
    ·exact nown c b hc z
    ·rw [hc] at z; cases z; exact hb rfl
end
structure Un (fs ex:List Addr) (H H':Hp) (h h':Heap):Prop where
 keep:∀ b o,h.get? b=some o->H b=none->b∉fs->b∉ex->h'.get? b=some o
 slot:∀ b o,h.get? b=some o->H b=none->b∈fs->b∉ex->∃ sl,h'.get? b=some { o with slots:=sl }
 free:∀ b o,h.get? b=some o->H b=none->b∉ex->H' b=none
 there:∀ b o,h.get? b=some o->b∉ex->∃ o',h'.get? b=some o'
 tups:∀ b xs,H b=some (.tup xs)->H' b=some (.tup xs)
 frzs:∀ b o u,H b=some (.frz o u)->H' b=some (.frz o u)
 tbls:∀ b ps,H b=some (.tbl ps)->∃ more,H' b=some (.tbl (ps++more))
section
variable {fs fs' ex ex':List Addr} {H H1 H2:Hp} {h h1 h2 h':Heap} {a x e:Addr} {o:HO}
theorem Un.any (u:Un fs ex H H1 h h1) {b:Addr} {ob:Obj} (q:h.get? b=some ob) (n:H b=none) (hx:b∉ex):∃ sl,h1.get? b=some { ob with slots:=sl }:=by
 by_cases hb:b∈fs
 ·exact u.slot b ob q n hb hx
 ·exact ⟨ob.slots,u.keep b ob q n hb hx⟩
theorem Un.trans (a:Un fs ex H H1 h h1) (b:Un fs ex H1 H2 h1 h2):Un fs ex H H2 h h2 where
 keep:=fun c ob q n hc hx=>b.keep c ob (a.keep c ob q n hc hx) (a.free c ob q n hx) hc hx
 slot:=fun c ob q n hc hx=>by
  obtain ⟨sl,e1⟩:=a.slot c ob q n hc hx
  obtain ⟨sl',e2⟩:=b.slot c _ e1 (a.free c ob q n hx) hc hx
  exact ⟨sl',e2⟩
 free:=fun c ob q n hx=>by
  obtain ⟨o',e1⟩:=a.there c ob q hx
  exact b.free c o' e1 (a.free c ob q n hx) hx
 there:=fun c ob q hx=>by
  obtain ⟨o',e1⟩:=a.there c ob q hx
  exact b.there c o' e1 hx
 tups:=fun c xs q=>b.tups c xs (a.tups c xs q)
 frzs:=fun c ob xs q=>b.frzs c ob xs (a.frzs c ob xs q)
 tbls:=fun c ps q=>by
  obtain ⟨m1,e1⟩:=a.tbls c ps q
  obtain ⟨m2,e2⟩:=b.tbls c _ e1
  exact ⟨m1++m2,by rw [e2,VL]⟩
theorem Un.kept (k:∀ b u,h.get? b=some u->h'.get? b=some u):Un fs ex H H h h' :=
 ⟨fun b ob q _ _ _=>k b ob q,fun b ob q _ _ _=>⟨ob.slots,k b ob q⟩,fun _ _ _ n _=>n,fun b ob q _=>⟨ob,k b ob q⟩,fun _ _ q=>q,fun _ _ _ q=>q,fun _ ps q=>⟨#[],by rw [q]; simp⟩⟩
theorem Un.refl:Un fs ex H H h h:=Un.kept fun _ _ q=>q
theorem Un.laid (k:∀ b u,h.get? b=some u->h'.get? b=some u) (hp:h.objs.size<=a) (hn:H a=none):Un fs ex H (upd H a o) h h' where
 keep:=fun b u q _ _ _=>k b u q
 slot:=fun b u q _ _ _=>⟨u.slots,k b u q⟩
 free:=fun b u q n _=>by rw [aC (Ot (Om (N7 q) hp))]; exact n
 there:=fun b u q _=>⟨u,k b u q⟩
 tups:=fun b xs q=>by rw [aC (bZ q hn)]; exact q
 frzs:=fun b u xs q=>by rw [aC (bZ q hn)]; exact q
 tbls:=fun b ps q=>⟨#[],by rw [aC (bZ q hn),q]; simp⟩
theorem Un.write (mu:Mut (H x)) (he:e=x∨H e=some (.own x)) (k:∀ b u,b≠e->h.get? b=some u->h'.get? b=some u) (heo:∃ u,h'.get? e=some u):Un fs ex H (upd H x o) h h':=by
 have hx:∀ b,H b=none->b≠x:=fun b n z=>by subst z; rw [n] at mu; exact mu
 have hb:∀ b,H b=none->b≠e:=fun b n z=>by
  subst z
  rcases he with r | r
  ·exact hx b n r
  ·rw [n] at r; cases r
 have hm:∀ b u,H b=some u->¬ Mut (some u)->b≠x:=fun b u q nm z=>by subst z; rw [q] at mu; exact nm mu
 refine ⟨fun b u q n _ _=>k b u (hb b n) q,fun b u q n _ _=>⟨u.slots,k b u (hb b n) q⟩,fun b u q n _=>by rw [aC (hx b n)]; exact n,fun b u q _=>?_,
  fun b xs q=>by rw [aC (hm b _ q fun z=>z)]; exact q,fun b u xs q=>by rw [aC (hm b _ q fun z=>z)]; exact q,fun b ps q=>⟨#[],by rw [aC (hm b _ q fun z=>z),q]; simp⟩⟩
 by_cases hbe:b=e
 ·subst hbe; exact heo
 ·exact ⟨u,k b u hbe q⟩
theorem Un.mono (u:Un fs ex H H1 h h1) (hs:∀ b∈fs,b∈fs') (hx:∀ b∈ex,b∈ex'):Un fs' ex' H H1 h h1 :=
 ⟨fun b ob q n hb he=>u.keep b ob q n (fun z=>hb (hs b z)) fun z=>he (hx b z),fun _ _ q n _ he=>u.any q n fun z=>he (hx _ z),fun b ob q n he=>u.free b ob q n fun z=>he (hx b z),fun b ob q he=>u.there b ob q fun z=>he (hx b z),u.tups,u.frzs,u.tbls⟩
end
def trk (h:Heap) (H:Hp):List Addr:=(List.range h.objs.size).filter fun a=>(H a).isSome
def hidT (h:Heap) (H:Hp):Heap:=PySem.W.hideAll h (trk h H)
theorem Ce (h:Heap) (H:Hp):(hidT h H).objs.size=h.objs.size:=PySem.W.hideAll_size _ _
theorem DP {h:Heap} {H:Hp} {b:Addr} {o:Obj} (e:h.get? b=some o) (n:H b=none):(hidT h H).get? b=some o :=
 Vz _ e fun hm=>by
  have q:(H b).isSome=true:=(Qv.mp hm).2
  rw [n] at q; simp at q
theorem HW {h:Heap} {H:Hp} {b:Addr} {o:Obj} (e:(hidT h H).get? b=some o):h.get? b=some o/\H b=none:=by
 have e':h.get? b=some o:=VN (trk h H) e
 refine ⟨e',?_⟩
 cases q:H b with
 | none=>rfl
 | some x =>
  have hm:b∈trk h H:=Qv.mpr ⟨Qt.mpr (N7 e'),by simp [q]⟩
  have z:(hidT h H).get? b=none:=Vr (trk h H) hm
  rw [z] at e; cases e
def Jc (g h:Heap) (L:Addr):List (Addr×Obj):=(List.range h.objs.size).filterMap fun a=>if a=L∨(g.get? a).isSome=true then none else (h.get? a).map fun o=>(a,o)
def rest (g h:Heap) (L d:Addr):List (Addr×Obj):=(Jc g h L).filter fun p=>decide (p.1≠d)
structure Mod (K:Nh) (mg:Str->Option Value) (base:Heap):Prop where
 kin:K.In base
 glob:base.Ns mainGlobals mg
 blt:∃ mb,base.Ns builtinsNs mb/\∀ x:Str,x≠"__name__"->mb x=bootBuiltins x
 nolimit:base.NoLimit
/-- the context: a def's body (or a comprehension's block) running. base: fixed through the whole law; s₀,H₀: the entry; outer: the frames whose slots others may change (a def's callers); stack: all frames that run;
  ex: iterators that were made ahead of the entry and are walked here (a comprehension's); fn: the names whose cells were made at the entry (a def: all; a comprehension's block: its own); calm: not within an except suite; pn: pins that every state bears; xe: what is wanted of an exception that leaves the code -/
structure Cx where
 prog:Program
 w:World
 K:Nh
 mg:Str->Option Value
 base:Heap
 A:Around
 N:List Str
 s₀:Shared
 H₀:Hp
 env:Env
 outer:List Env
 stack:List Env
 ex:List Addr
 fn:Str->Bool
 calm:Bool
 pn:List (Addr×Obj)
 xe:Value->Shared->Prop
def frs (l:List Env):List Addr:=l.filterMap (·.frame)
abbrev Cx.fs (X:Cx):List Addr:=frs X.outer
def Vis (sc:Scope) (x:Str):Prop:=sc.names.lookup x=some .local∨sc.names.lookup x=some .cell∨sc.names.lookup x=some .free
def Loc (sc:Scope) (x:Str):Prop:=sc.names.lookup x=some .local∨sc.names.lookup x=some .cell
def Look (env:Env) (h:Heap) (m:Str->Option Value) (x:Str) (u:Value):Prop :=
 (env.kindOf x=some .local/\m x=some u)∨((env.kindOf x=some .cell∨env.kindOf x=some .free)/\∃ c,env.cells.lookup x=some c/\h.IsCell c (some u))
structure Cx.Ok (X:Cx):Prop where
 mod:Mod X.K X.mg X.base
 kind:X.env.scope.kind=.function
 glob:X.env.globals=mainGlobals
 blt:X.env.builtins=builtinsNs
 above:X.s₀.heap.objs.size<=X.env.locals
 inj:∀ x y c,X.env.cells.lookup x=some c->X.env.cells.lookup y=some c->x=y
 has:∀ x,(X.env.kindOf x=some .cell∨X.env.kindOf x=some .free)->∃ c,X.env.cells.lookup x=some c
 cab:∀ x c,X.fn x=true->X.env.cells.lookup x=some c->X.s₀.heap.objs.size<=c
 hd:X.calm=true->X.A.handled=none
 frames:X.A.frames=some X.stack
 stk:X.stack=X.outer∨(X.stack=X.env::X.outer/\X.env.frame=some X.env.locals)
 exf:∀ b∈X.ex,b≠X.env.locals/\∀ x c,X.env.cells.lookup x=some c->c≠b
 bs:∀ b o,X.base.get? b=some o->X.s₀.heap.get? b=some o/\X.H₀ b=none
 bsz:X.base.objs.size<=X.s₀.heap.objs.size
 noex:∀ b o,X.base.get? b=some o->b∉X.ex
 exfs:∀ b∈X.ex,b∉X.fs
 funs:X.s₀.heap.FunFrames X.base X.outer
 frf:∀ b∈X.fs,X.H₀ b=none
structure Inv (X:Cx) (pins:List (Addr×Obj)) (σ:List (Option V)) (H:Hp) (s:Shared):Prop where
 ok:X.Ok
 os:s.os=X.s₀.os
 bare:AllBare s.gens
 base:Un X.fs X.ex X.H₀ H X.s₀.heap s.heap
 loc:∃ m,s.heap.Ns X.env.locals m/\∀ (i:Nat) (x:Str) (v:V),X.N[i]?=some x->σ[i]?=some (some v)->Vis X.env.scope x->∃ u,RelV v u/\Look X.env s.heap m x u
 cell:∀ x c,X.env.cells.lookup x=some c->∃ v,s.heap.IsCell c v
 free:H X.env.locals=none
 freeC:∀ x c,X.env.cells.lookup x=some c->H c=none
 pin:∀ p∈X.pn++pins,s.heap.get? p.1=some p.2/\H p.1=none/\p.1≠X.env.locals/\p.1∉X.fs/\∀ v,p.2.data≠.cell v
 hok:HOk X.prog X.w H s.heap
 len:σ.length=X.N.length
section
variable {X:Cx} {pins:List (Addr×Obj)} {σ:List (Option V)} {H H':Hp} {s:Shared} {h':Heap}
theorem Cx.Ok.nofr (ok:X.Ok) {b:Addr} {o:Obj} (e:X.base.get? b=some o):b∉X.fs:=fun hb=>by
 have:=(ok.funs.mem hb).1
 rw [e] at this; cases this
theorem Inv.bs (I:Inv X pins σ H s):∀ b o,X.base.get? b=some o->s.heap.get? b=some o/\H b=none:=fun b o e =>
 ⟨I.base.keep b o (I.ok.bs b o e).1 (I.ok.bs b o e).2 (I.ok.nofr e) (I.ok.noex b o e),I.base.free b o (I.ok.bs b o e).1 (I.ok.bs b o e).2 (I.ok.noex b o e)⟩
theorem Inv.bk (I:Inv X pins σ H s):∀ b o,X.base.get? b=some o->s.heap.get? b=some o:=fun b o e=>(I.bs b o e).1
theorem Inv.mod (I:Inv X pins σ H s):Mod X.K X.mg X.base:=I.ok.mod
theorem Inv.kIn (I:Inv X pins σ H s):X.K.In s.heap:=I.ok.mod.kin.keeps I.bk
theorem Inv.nolimit (I:Inv X pins σ H s):s.heap.NoLimit:=I.ok.mod.nolimit.keeps I.bk
theorem Inv.fr (I:Inv X pins σ H s):∃ m,Fr X.base X.env.locals s.heap m :=
 let ⟨m,hn,_⟩:=I.loc
 ⟨m,hn,I.bk,OJ I.ok.bsz I.ok.above⟩
theorem Inv.lt (I:Inv X pins σ H s):X.env.locals<s.heap.objs.size:=let ⟨_,hn,_⟩:=I.loc; hn.lt
theorem Inv.sz (I:Inv X pins σ H s):X.s₀.heap.objs.size<=s.heap.objs.size:=OJ I.ok.above (RP I.lt)
theorem Inv.nofs (I:Inv X pins σ H s) {a:Addr} (h:s.heap.objs.size<=a):a∉X.fs:=fun hb=>by
 obtain ⟨_,o,ho,_⟩:=I.ok.funs.mem hb
 exact absurd (Om (N7 ho) (OJ I.sz h)) (Qj _)
theorem Inv.cne (I:Inv X pins σ H s):∀ x c,X.env.cells.lookup x=some c->c≠X.env.locals:=fun x c e z=>by
 obtain ⟨v,o,ho,hd⟩:=I.cell x c e
 obtain ⟨m,⟨o',es,ep,ho',hd',_⟩,_⟩:=I.loc
 rw [z,ho'] at ho; cases ho; rw [hd'] at hd; cases hd
theorem Inv.funs (I:Inv X pins σ H s):s.heap.FunFrames X.base X.outer:=by
 have all:∀ (l:List Env),(∀ b∈frs l,b∈X.fs)->X.s₀.heap.FunFrames X.base l->s.heap.FunFrames X.base l:=by
  intro l
  induction l with
  | nil=>intro _ _; trivial
  | cons env r ih =>
   intro hs hl
   obtain ⟨hk,⟨L,o,hf,hn,ho,hd⟩,hr⟩:=hl
   have hL:L∈X.fs:=hs L (by unfold frs; rw [Qp,hf]; exact Ny)
   obtain ⟨sl,e⟩:=I.base.slot L o ho (I.ok.frf L hL) hL fun z=>I.ok.exfs L z hL
   exact ⟨hk,⟨L,_,hf,hn,e,hd⟩,ih (fun b hb=>hs b (by unfold frs; rw [Qp,hf]; exact Nt _ hb)) hr⟩
 exact all X.outer (fun _ hb=>hb) I.ok.funs
theorem Inv.stack (I:Inv X pins σ H s):s.heap.FunFrames X.base X.stack:=by
 rcases I.ok.stk with e | ⟨e,hf⟩
 ·rw [e]; exact I.funs
 ·rw [e]
  obtain ⟨m,hn,_⟩:=I.loc
  refine .cons (by rw [I.ok.kind]; decide) hf hn ?_ I.funs
  exact Vs (OJ I.ok.bsz I.ok.above)
theorem Inv.stkSub (I:Inv X pins σ H s):∀ b∈frs X.stack,b∈X.env.locals::X.fs:=fun b hb=>by
 rcases I.ok.stk with e | ⟨e,hf⟩
 ·rw [e] at hb; exact Nt _ hb
 ·rw [e] at hb
  unfold frs at hb
  rw [Qp,hf] at hb
  exact hb
theorem Inv.stkFree (I:Inv X pins σ H s):∀ b∈frs X.stack,H b=none:=fun b hb=>by
 rcases NT.mp (I.stkSub b hb) with e | hb
 ·rw [e]; exact I.free
 ·obtain ⟨_,o,ho,_⟩:=I.ok.funs.mem hb
  exact I.base.free b o ho (I.ok.frf b hb) fun z=>I.ok.exfs b z hb
theorem Inv.step {g':Array GenState} {t':Nat} {d':Drawn} {ch:List Addr} (I:Inv X pins σ H s)
  (hch:∀ b∈ch,(b∈X.ex∨X.s₀.heap.objs.size<=b)/\b≠X.env.locals/\(∀ x c,X.env.cells.lookup x=some c->c≠b)/\∀ p∈X.pn++pins,p.1≠b)
  (keep:∀ b o,b≠X.env.locals->b∉X.fs->b∉ch->s.heap.get? b=some o->H b=none->h'.get? b=some o)
  (slot:∀ b o,b≠X.env.locals->b∈X.fs->b∉ch->s.heap.get? b=some o->H b=none->∃ sl,h'.get? b=some { o with slots:=sl }) (free:∀ b o,b∉ch->s.heap.get? b=some o->H b=none->H' b=none)
  (there:∀ b o,b∉ch->s.heap.get? b=some o->∃ o',h'.get? b=some o')
  (tups:∀ b xs,H b=some (.tup xs)->H' b=some (.tup xs)) (frzs:∀ b o u,H b=some (.frz o u)->H' b=some (.frz o u)) (tbls:∀ b ps,H b=some (.tbl ps)->∃ more,H' b=some (.tbl (ps++more)))
  (ns:∀ m,s.heap.Ns X.env.locals m->h'.Ns X.env.locals m) (hok:HOk X.prog X.w H' h') (hg:AllBare g') :
  Inv X pins σ H' { s with heap:=h',gens:=g',drawn:=d',toks:=t' }:=by
 have neL:∀ b o,X.s₀.heap.get? b=some o->b≠X.env.locals:=fun b o e=>Ot (Om (N7 e) I.ok.above)
 have neC:∀ b o,X.s₀.heap.get? b=some o->b∉X.ex->b∉ch:=fun b o e hx hb=>by
  rcases (hch b hb).1 with z | z
  ·exact hx z
  ·exact absurd (Om (N7 e) z) (Qj _)
 have cellK:∀ x c,X.env.cells.lookup x=some c->∀ v,s.heap.IsCell c v->h'.IsCell c v:=fun x c e v ⟨o,ho,hd⟩=>by
  have nch:c∉ch:=fun z=>(hch c z).2.2.1 x c e rfl
  by_cases hc:c∈X.fs
  ·obtain ⟨sl,q⟩:=slot c o (I.cne x c e) hc nch ho (I.freeC x c e)
   exact ⟨_,q,hd⟩
  ·exact ⟨o,keep c o (I.cne x c e) hc nch ho (I.freeC x c e),hd⟩
 refine ⟨I.ok,I.os,hg,⟨fun b o e n hb hx=>?_,fun b o e n hb hx=>?_,fun b o e n hx=>?_,fun b o e hx=>?_,fun b xs e=>tups b xs (I.base.tups b xs e),fun b o xs e=>frzs b o xs (I.base.frzs b o xs e),fun b ps e=>?_⟩,?_,fun x c e=>?_,?_,fun x c e=>?_,fun p hp=>?_,hok,I.len⟩
 ·exact keep b o (neL b o e) hb (neC b o e hx) (I.base.keep b o e n hb hx) (I.base.free b o e n hx)
 ·obtain ⟨sl,e1⟩:=I.base.slot b o e n hb hx
  obtain ⟨sl',e2⟩:=slot b _ (neL b o e) hb (neC b o e hx) e1 (I.base.free b o e n hx)
  exact ⟨sl',e2⟩
 ·obtain ⟨o',e1⟩:=I.base.there b o e hx
  exact free b o' (neC b o e hx) e1 (I.base.free b o e n hx)
 ·obtain ⟨o',e1⟩:=I.base.there b o e hx
  exact there b o' (neC b o e hx) e1
 ·obtain ⟨m1,e1⟩:=I.base.tbls b ps e
  obtain ⟨m2,e2⟩:=tbls b _ e1
  exact ⟨m1++m2,by rw [e2,VL]⟩
 ·obtain ⟨m,hn,hl⟩:=I.loc
  refine ⟨m,ns m hn,fun i x v e1 e2 e3=>?_⟩
  obtain ⟨u,r,l⟩:=hl i x v e1 e2 e3
  refine ⟨u,r,?_⟩
  rcases l with l | ⟨k,c,e,z⟩
  ·exact .inl l
  ·exact .inr ⟨k,c,e,cellK x c e _ z⟩
 ·obtain ⟨v,z⟩:=I.cell x c e
  exact ⟨v,cellK x c e v z⟩
 ·obtain ⟨m,⟨o,_,_,ho,_⟩,_⟩:=I.loc
  exact free _ o (fun z=>(hch _ z).2.1 rfl) ho I.free
 ·obtain ⟨v,o,ho,hd⟩:=I.cell x c e
  exact free c o (fun z=>(hch c z).2.2.1 x c e rfl) ho (I.freeC x c e)
 ·obtain ⟨e,n,ne,nf,d⟩:=I.pin p hp
  have nch:p.1∉ch:=fun z=>(hch p.1 z).2.2.2 p hp rfl
  exact ⟨keep p.1 p.2 ne nf nch e n,free p.1 p.2 nch e n,ne,nf,d⟩
theorem Inv.un {t':Nat} (I:Inv X pins σ H s) (u:Un X.fs [] H H' s.heap h') (hok:HOk X.prog X.w H' h'):Inv X pins σ H' { s with heap:=h',toks:=t' }:=by
 obtain ⟨m,⟨o,es,ep,ho,r⟩,_⟩:=id I.loc
 obtain ⟨sl,hL⟩:=u.any ho I.free (by simp)
 exact I.step (g':=s.gens) (d':=s.drawn) (ch:=[]) (fun _ z=>nomatch z) (fun b o _ hb _ e n=>u.keep b o e n hb (by simp)) (fun b o _ hb _ e n=>u.slot b o e n hb (by simp)) (fun b o _ e n=>u.free b o e n (by simp)) (fun b o _ e=>u.there b o e (by simp)) u.tups u.frzs u.tbls (fun m' hm=>by
  obtain ⟨o',es',ep',ho',r'⟩:=hm
  rw [ho] at ho'; cases ho'
  exact ⟨_,es',ep',hL,r'⟩) hok I.bare
theorem Inv.call {g':Array GenState} {t':Nat} {d':Drawn} {ch:List Addr} (I:Inv X pins σ H s) (u:Un (frs X.stack) ch H H' s.heap h') (hok:HOk X.prog X.w H' h') (hg:AllBare g')
  (hch:∀ b∈ch,(b∈X.ex∨X.s₀.heap.objs.size<=b)/\b≠X.env.locals/\(∀ x c,X.env.cells.lookup x=some c->c≠b)/\∀ p∈X.pn++pins,p.1≠b) :
  Inv X pins σ H' { s with heap:=h',gens:=g',drawn:=d',toks:=t' }:=by
 obtain ⟨m,⟨o,es,ep,ho,r⟩,_⟩:=id I.loc
 obtain ⟨sl,hL⟩:=u.any ho I.free fun z=>(hch _ z).2.1 rfl
 exact I.step (ch:=ch) hch (fun b o hL hb hc e n=>u.keep b o e n (fun z=>(NT.mp (I.stkSub b z)).elim hL hb) hc) (fun b o _ _ hc e n=>u.any e n hc) (fun b o hc e n=>u.free b o e n hc) (fun b o hc e=>u.there b o e hc) u.tups u.frzs u.tbls (fun m' hm=>by
  obtain ⟨o',es',ep',ho',r'⟩:=hm
  rw [ho] at ho'; cases ho'
  exact ⟨_,es',ep',hL,r'⟩) hok hg
theorem Inv.turned {t':Nat} {it:Addr} (I:Inv X pins σ H s) (k:∀ b o,b≠it->s.heap.get? b=some o->h'.get? b=some o) (hn:H it=none) (hL:it≠X.env.locals)
  (h1:it∈X.ex∨X.s₀.heap.objs.size<=it) (h2:∀ x c,X.env.cells.lookup x=some c->c≠it) (h3:∀ p∈X.pn++pins,p.1≠it):Inv X pins σ H { s with heap:=h',toks:=t' }:=by
 have nit:∀ b u,H b=some u->b≠it:=fun b u e z=>by rw [z,hn] at e; cases e
 refine I.step (g':=s.gens) (d':=s.drawn) (ch:=[it]) (fun b hb=>?_) (fun b o _ _ hc e _=>k b o (fun z=>hc (by simp [z])) e) (fun b o _ _ hc e _=>⟨o.slots,k b o (fun z=>hc (by simp [z])) e⟩) (fun _ _ _ _ n=>n)
  (fun b o hc e=>⟨o,k b o (fun z=>hc (by simp [z])) e⟩) (fun _ _ e=>e) (fun _ _ _ e=>e) (fun b ps e=>⟨#[],by rw [e]; simp⟩) (fun m hm=>?_) (fun b u e=>?_) I.bare
 ·have e:b=it:=by simpa using hb
  subst e
  exact ⟨h1,hL,h2,h3⟩
 ·obtain ⟨o,es,ep,ho,r⟩:=hm
  exact ⟨o,es,ep,k _ o (Ne.symm hL) ho,r⟩
 ·refine (I.hok b u e).stay (fun c v hc q=>k c v ?_ q) (fun _ q=>q) fun _ _ q=>q
  rcases hc with z | z
  ·rw [z]; exact nit b u e
  ·exact nit c _ z
theorem Inv.tok (I:Inv X pins σ H s) (t:Nat):Inv X pins σ H { s with toks:=t }:=I.un (h':=s.heap) (t':=t) Un.refl I.hok
theorem Inv.kept {t':Nat} (I:Inv X pins σ H s) (k:∀ b u,s.heap.get? b=some u->h'.get? b=some u):Inv X pins σ H { s with heap:=h',toks:=t' }:=I.un (Un.kept k) (I.hok.kept k)
theorem Inv.laid {a:Addr} {o:HO} {t':Nat} (I:Inv X pins σ H s) (k:∀ b u,s.heap.get? b=some u->h'.get? b=some u) (hp:s.heap.objs.size<=a) (new:ObjOk X.prog X.w (upd H a o) h' a o) :
  Inv X pins σ (upd H a o) { s with heap:=h',toks:=t' }:=I.un (Un.laid k hp (I.hok.fresh hp)) (I.hok.laid k hp new)
theorem Inv.write {x e:Addr} {o:HO} {t':Nat} (I:Inv X pins σ H s) (mu:Mut (H x)) (he:e=x∨H e=some (.own x)) (k:∀ b u,b≠e->s.heap.get? b=some u->h'.get? b=some u) (heo:∃ u,h'.get? e=some u)
  (new:ObjOk X.prog X.w (upd H x o) h' x o):Inv X pins σ (upd H x o) { s with heap:=h',toks:=t' }:=I.un (Un.write mu he k heo) (I.hok.write mu he k heo new)
theorem Inv.pins_of {pins':List (Addr×Obj)} (I:Inv X pins σ H s) (h:∀ p∈pins',s.heap.get? p.1=some p.2/\H p.1=none/\p.1≠X.env.locals/\p.1∉X.fs/\∀ v,p.2.data≠.cell v):Inv X pins' σ H s :=
 ⟨I.ok,I.os,I.bare,I.base,I.loc,I.cell,I.free,I.freeC,fun p hp=>(Nz.mp hp).elim (fun z=>I.pin p (O8 _ z)) (h p),I.hok,I.len⟩
theorem pH {N:List Str} (hN:N.Nodup) {i j:Nat} {x:Str} (a:N[i]?=some x) (b:N[j]?=some x):i=j:=by
 obtain ⟨h1,e1⟩:=Nj.mp a
 obtain ⟨h2,e2⟩:=Nj.mp b
 exact (Wy hN).mp (e1.trans e2.symm)
theorem BX {M:Model} {A:Around} {E:Value->Shared->Prop} {i:Nat} {x:Str} {v:V} {u:Value} {Q:Unit->Shared->Prop} (I:Inv X pins σ H s) (hN:X.N.Nodup) (hi:X.N[i]?=some x) (hx:Loc X.env.scope x) (r:RelV v u)
  (h:∀ s',Inv X pins (σ.set i (some v)) H s'->(∃ a,Heap.SameBut a s.heap s'.heap/\(a=X.env.locals∨X.env.cells.lookup x=some a))->Q () s') (hf:X.fn x=true∨X.env.scope.names.lookup x=some .local:=by first | exact .inl rfl | exact .inr rfl | assumption):wpAny M A (storeName X.env x u) Q E s:=by
 obtain ⟨m,hn,hl⟩:=id I.loc
 have hcls:(X.env.scope.kind==.class || (X.env.scope.kind==.module && X.env.locals != X.env.globals))=false:=by rw [I.ok.kind]; rfl
 have hiσ:i<σ.length:=by rw [I.len]; exact (Nj.mp hi).1
 have cne:=I.cne
 have tracked:∀ {a:Addr} {h':Heap},(∃ o,s.heap.get? a=some o/\H a=none)->Heap.SameBut a s.heap h'->HOk X.prog X.w H h':=fun {a h'} ha hs b ob e=>by
  obtain ⟨_,_,hfree⟩:=ha
  refine (I.hok b ob e).stay (fun c w' hc q=>(hs.2 c ?_).trans q) (fun _ q=>q) fun _ _ q=>q
  rintro rfl
  rcases hc with rfl | hc
  ·rw [hfree] at e; cases e
  ·rw [hfree] at hc; cases hc
 rcases hx with hk | hk
 ·refine wpAny_storeName_local hk hn (fun h' hn' hs=>?_) hcls
  obtain ⟨oL,_,_,hoL,_⟩:=id hn
  refine h _ ⟨I.ok,I.os,I.bare,⟨fun b o e n hb hx=>?_,fun b o e n hb hx=>?_,I.base.free,fun b o e hx=>?_,I.base.tups,I.base.frzs,I.base.tbls⟩,⟨_,hn',fun j y v' e1 e2 e3=>?_⟩,fun y c e=>?_,I.free,I.freeC,fun p hp=>?_,tracked ⟨oL,hoL,I.free⟩ hs,by simpa using I.len⟩ ⟨_,hs,.inl rfl⟩
  ·exact (hs.2 b (Ot (Om (N7 e) I.ok.above))).trans (I.base.keep b o e n hb hx)
  ·obtain ⟨sl,e1⟩:=I.base.slot b o e n hb hx
   exact ⟨sl,(hs.2 b (Ot (Om (N7 e) I.ok.above))).trans e1⟩
  ·obtain ⟨o',e1⟩:=I.base.there b o e hx
   exact ⟨o',(hs.2 b (Ot (Om (N7 e) I.ok.above))).trans e1⟩
  ·by_cases hj:j=i
   ·subst hj
    rw [hi] at e1; cases e1
    rw [Qo hiσ] at e2
    cases e2
    exact ⟨u,r,.inl ⟨hk,by simp⟩⟩
   ·rw [QT (Ne.symm hj)] at e2
    obtain ⟨u',r',q⟩:=hl j y v' e1 e2 e3
    refine ⟨u',r',?_⟩
    rcases q with ⟨k,e⟩ | ⟨k,c,e,z⟩
    ·refine .inl ⟨k,?_⟩
     have:y≠x:=fun e=>hj (pH hN e1 (e▸hi))
     simp [this,e]
    ·exact .inr ⟨k,c,e,z.sameBut hs (cne y c e)⟩
  ·obtain ⟨w',z⟩:=I.cell y c e
   exact ⟨w',z.sameBut hs (cne y c e)⟩
  ·obtain ⟨e,n,ne,nf,d⟩:=I.pin p hp
   exact ⟨(hs.2 p.1 ne).trans e,n,ne,nf,d⟩
 ·have hfn:X.fn x=true:=by
   rcases hf with z | z
   ·exact z
   ·rw [z] at hk; cases hk
  obtain ⟨c,hc⟩:=I.ok.has x (.inl hk)
  obtain ⟨w',z⟩:=I.cell x c hc
  refine wpAny_storeName_cell I.ok.kind hk hc z (fun h' hc' hs=>?_)
  obtain ⟨oc,hoc,hocd⟩:=id z
  refine h { s with heap:=h' } ⟨I.ok,I.os,I.bare,⟨fun b o e n hb hx=>?_,fun b o e n hb hx=>?_,I.base.free,fun b o e hx=>?_,I.base.tups,I.base.frzs,I.base.tbls⟩,⟨m,hn.sameBut hs (Ne.symm (cne x c hc)),fun j y v' e1 e2 e3=>?_⟩,fun y c' e=>?_,I.free,I.freeC,fun p hp=>?_,tracked ⟨oc,hoc,I.freeC x c hc⟩ hs,by simpa using I.len⟩ ⟨c,hs,.inr hc⟩
  ·exact (hs.2 b (Ot (Om (N7 e) (I.ok.cab x c hfn hc)))).trans (I.base.keep b o e n hb hx)
  ·obtain ⟨sl,e1⟩:=I.base.slot b o e n hb hx
   exact ⟨sl,(hs.2 b (Ot (Om (N7 e) (I.ok.cab x c hfn hc)))).trans e1⟩
  ·obtain ⟨o',e1⟩:=I.base.there b o e hx
   exact ⟨o',(hs.2 b (Ot (Om (N7 e) (I.ok.cab x c hfn hc)))).trans e1⟩
  ·by_cases hj:j=i
   ·subst hj
    rw [hi] at e1; cases e1
    rw [Qo hiσ] at e2
    cases e2
    exact ⟨u,r,.inr ⟨.inl hk,c,hc,hc'⟩⟩
   ·rw [QT (Ne.symm hj)] at e2
    obtain ⟨u',r',q⟩:=hl j y v' e1 e2 e3
    refine ⟨u',r',?_⟩
    rcases q with q | ⟨k,c',e,z'⟩
    ·exact .inl q
    ·refine .inr ⟨k,c',e,z'.sameBut hs ?_⟩
     rintro rfl
     exact hj (pH hN e1 (I.ok.inj _ _ _ e hc▸hi))
  ·by_cases hcc:c'=c
   ·subst hcc; exact ⟨_,hc'⟩
   ·obtain ⟨w2,z2⟩:=I.cell y c' e
    exact ⟨w2,z2.sameBut hs hcc⟩
  ·obtain ⟨e,n,ne,nf,d⟩:=I.pin p hp
   refine ⟨(hs.2 p.1 ?_).trans e,n,ne,nf,d⟩
   intro q
   rw [q,hoc] at e
   have q':oc=p.2:=Option.some.inj e
   exact d w' (by rw [<- q']; exact hocd)
theorem qP {M:Model} {A:Around} {E:Value->Shared->Prop} {i:Nat} {x:Str} {v:V} {u:Value} {Q:Unit->Shared->Prop} (I:Inv X pins σ H s) (hN:X.N.Nodup) (hi:X.N[i]?=some x) (hx:Loc X.env.scope x) (r:RelV v u)
  (h:∀ s',Inv X pins (σ.set i (some v)) H s'->Q () s') (hf:X.fn x=true∨X.env.scope.names.lookup x=some .local:=by first | exact .inl rfl | exact .inr rfl | assumption):wpAny M A (storeName X.env x u) Q E s :=
 BX I hN hi hx r (fun s' I' _=>h s' I') hf
theorem Inv.call' {s':Shared} {ch:List Addr} (I:Inv X pins σ H s) (ho:s'.os=s.os) (u:Un (frs X.stack) ch H H' s.heap s'.heap) (hok:HOk X.prog X.w H' s'.heap) (hg:AllBare s'.gens)
  (hch:∀ b∈ch,(b∈X.ex∨X.s₀.heap.objs.size<=b)/\b≠X.env.locals/\(∀ x c,X.env.cells.lookup x=some c->c≠b)/\∀ p∈X.pn++pins,p.1≠b):Inv X pins σ H' s':=by
 obtain ⟨h',g',d',t',o'⟩:=s'
 have e:o'=s.os:=ho
 subst e
 exact I.call (g':=g') (t':=t') (d':=d') u hok hg hch
end
abbrev XK:=Value->Option Addr->Hp->Prop
abbrev St:=List (Option V)
abbrev VK:=V->Hp->Prop
abbrev TE:=St->Hp->VK->Prop
abbrev TT:=St->Hp->(Bool->Hp->Prop)->Prop
abbrev TA:=St->Hp->(List V->Hp->Prop)->Prop
structure Ends where
 nx:St->Hp->Prop
 rt:VK
 bk:St->Hp->Prop:=fun _ _=>False
 ct:St->Hp->Prop:=fun _ _=>False
abbrev TS:=Ends->St->Hp->Prop
def EP (X:Cx) (pins:List (Addr×Obj)) (σ:St) (Q:VK) (u:Value) (s':Shared):Prop:=∃ v H',Inv X pins σ H' s'/\RelV v u/\Q v H'
def TP (X:Cx) (pins:List (Addr×Obj)) (σ:St) (Q:Bool->Hp->Prop) (b:Bool) (s':Shared):Prop:=∃ H',Inv X pins σ H' s'/\Q b H'
def AP (X:Cx) (pins:List (Addr×Obj)) (σ:St) (Q:List V->Hp->Prop) (us:List Value) (s':Shared):Prop:=∃ vs H',Inv X pins σ H' s'/\Vals vs us/\Q vs H'
def SP (X:Cx) (pins:List (Addr×Obj)) (D:Ends) (f:Flow) (s':Shared):Prop :=
 match f with
 | .next=>∃ σ' H',Inv X pins σ' H' s'/\D.nx σ' H'
 | .brk=>∃ σ' H',Inv X pins σ' H' s'/\D.bk σ' H'
 | .cont=>∃ σ' H',Inv X pins σ' H' s'/\D.ct σ' H'
 | .ret u=>∃ v σ' H',Inv X pins σ' H' s'/\RelV v u/\D.rt v H'
def PE (X:Cx) (e:Expr) (t:TE):Prop :=
 ∀ (pins:List (Addr×Obj)) (s:Shared) (σ:St) (H:Hp) (Q:VK),Inv X pins σ H s->t σ H Q->wpAny (model X.prog X.w) X.A (eval e X.env) (EP X pins σ Q) X.xe s
def PT (X:Cx) (e:Expr) (t:TT):Prop :=
 ∀ (pins:List (Addr×Obj)) (s:Shared) (σ:St) (H:Hp) (Q:Bool->Hp->Prop),Inv X pins σ H s->t σ H Q->wpAny (model X.prog X.w) X.A (isTrue e X.env (eval e X.env)) (TP X pins σ Q) X.xe s
def PW (X:Cx) (e:Expr) (t:TT):Prop :=
 ∀ (whole:Sem Value) (pins:List (Addr×Obj)) (s:Shared) (σ:St) (H:Hp) (Q:Bool->Hp->Prop),Inv X pins σ H s->t σ H Q->wpAny (model X.prog X.w) X.A (isTrue e X.env whole) (TP X pins σ Q) X.xe s
theorem PW.pt {X:Cx} {e:Expr} {t:TT} (h:PW X e t):PT X e t:=h _
def PA (X:Cx) (es:List Expr) (t:TA):Prop :=
 ∀ (pos:Pos) (pins:List (Addr×Obj)) (s:Shared) (σ:St) (H:Hp) (Q:List V->Hp->Prop),Inv X pins σ H s->t σ H Q->wpAny (model X.prog X.w) X.A (spliced (backTo pos (starEach es X.env))) (AP X pins σ Q) X.xe s
def PS (X:Cx) (st:Stmt) (t:TS):Prop :=
 ∀ (pins:List (Addr×Obj)) (s:Shared) (σ:St) (H:Hp) (D:Ends),Inv X pins σ H s->t D σ H->wpAny (model X.prog X.w) X.A (exec st X.env) (SP X pins D) X.xe s
def PSs (X:Cx) (st:List Stmt) (t:TS):Prop :=
 ∀ (pins:List (Addr×Obj)) (s:Shared) (σ:St) (H:Hp) (D:Ends),Inv X pins σ H s->t D σ H->wpAny (model X.prog X.w) X.A (execs st X.env) (SP X pins D) X.xe s
theorem thn {α:Type} {t:Sem α} {Q Q':α->Shared->Prop} {M:Model} {A:Around} {E:Value->Shared->Prop} {s:Shared} (h:wpAny M A t Q E s) (hQ:∀ a s,Q a s->Q' a s):wpAny M A t Q' E s:=PK h hQ fun _ _ x=>x
section
variable {X:Cx}
def tVar (i:Nat):TE:=fun σ H Q=>∃ v,σ[i]?=some (some v)/\Q v H
def tC (v:V):TE:=fun _ H Q=>Q v H
theorem La {i:Nat} {x:Str} {pos:Pos} (hN:X.N[i]?=some x) (hv:Vis X.env.scope x) (hd:(x==("__debug__":Str))=false:=by decide) (hcd:(x==("__classdict__":Str))=false:=by decide):PE X (.Name x pos) (tVar i):=by
 intro pins s σ H Q I h
 obtain ⟨v,e,h⟩:=h
 obtain ⟨m,hn,hl⟩:=I.loc
 obtain ⟨u,r,l⟩:=hl i x v hN e hv
 have fin:EP X pins σ Q u s:=⟨v,H,I,r,h⟩
 rcases l with ⟨hk,hm⟩ | ⟨hk,c,hc,hcell⟩
 ·exact Xd (wpAny_loadName_local I.ok.kind hk hn hm fin) hd
 ·rcases hk with hk | hk
  ·exact Xd (wpAny_loadName_cell I.ok.kind hk hc hcell fin) hd
  ·exact Xd (wpAny_loadName_free I.ok.kind hk hc hcell fin hcd) hd
theorem au {i j pos}:PE X (.Constant (.int i) j pos) (tC (.int i)):=fun _ _ _ H _ I h=>wpAny_Constant_int ⟨.int i,H,I.tok _,⟨_,rfl⟩,h⟩
theorem jf {b j pos}:PE X (.Constant (.bool b) j pos) (tC (.bl b)):=fun _ _ _ H _ I h=>Constant_bool ⟨.bl b,H,I,rfl,h⟩
theorem Eh {j pos}:PE X (.Constant .none j pos) (tC .non):=fun _ _ _ H _ I h=>Constant_none ⟨.non,H,I,rfl,h⟩
theorem cJ {x j pos}:PE X (.Constant (.str x) j pos) (tC (.str x)):=fun _ _ _ H _ I h=>Calls.Constant_str ⟨.str x,H,I.tok _,⟨_,rfl⟩,h⟩
def Gl (X:Cx) (x:Str):Prop:=X.env.kindOf x=some .globalImplicit
theorem j6 {E:Value->Shared->Prop} {pins:List (Addr×Obj)} {s:Shared} {σ:St} {H:Hp} {x:Str} {u:Value} {pos:Pos} {Q:Value->Shared->Prop} (I:Inv X pins σ H s) (hg:Gl X x) (hm:X.mg x=some u) (h:Q u s)
  (hd:(x==("__debug__":Str))=false:=by decide):wpAny (model X.prog X.w) X.A (eval (.Name x pos) X.env) Q E s :=
 Calls.Name_function_global I.ok.kind hg (Calls.loadGlobal_global (by rw [I.ok.glob]; exact I.mod.glob.keeps I.bk) hm h) hd
theorem qX {E:Value->Shared->Prop} {pins:List (Addr×Obj)} {s:Shared} {σ:St} {H:Hp} {x:Str} {u:Value} {pos:Pos} {Q:Value->Shared->Prop} (I:Inv X pins σ H s) (hg:Gl X x) (hm:X.mg x=none) (hv:bootBuiltins x=some u) (h:Q u s)
  (hn:x≠"__name__":=by decide) (hd:(x==("__debug__":Str))=false:=by decide):wpAny (model X.prog X.w) X.A (eval (.Name x pos) X.env) Q E s:=by
 obtain ⟨mb,h1,h2⟩:=I.mod.blt
 exact Calls.Name_function_global I.ok.kind hg (Calls.loadGlobal_builtin (by rw [I.ok.glob]; exact I.mod.glob.keeps I.bk) hm (by rw [I.ok.blt]; exact h1.keeps I.bk) ((h2 x hn).trans hv) h) hd
theorem fG {x:Str} {v:V} {u:Value} {pos:Pos} (hg:Gl X x) (hm:X.mg x=some u) (r:RelV v u) (hd:(x==("__debug__":Str))=false:=by decide):PE X (.Name x pos) (tC v) :=
 fun _ _ _ H _ I h=>j6 I hg hm ⟨v,H,I,r,h⟩ hd
theorem iG {x:Str} {v:V} {u:Value} {pos:Pos} (hg:Gl X x) (hm:X.mg x=none) (hv:bootBuiltins x=some u) (r:RelV v u) (hn:x≠"__name__":=by decide) (hd:(x==("__debug__":Str))=false:=by decide):PE X (.Name x pos) (tC v) :=
 fun _ _ _ H _ I h=>qX I hg hm hv ⟨v,H,I,r,h⟩ hn hd
variable {a b:Expr} {ta tb:TE} {pos:Pos}
def PC (X:Cx) (op:CmpOp) (a b:Expr) (t:TE):Prop :=
 ∀ (pins:List (Addr×Obj)) (s:Shared) (σ:St) (H:Hp) (Q:VK),Inv X pins σ H s->t σ H Q ->
  wpAny (model X.prog X.w) X.A (eval a X.env) (fun v s₁=>wpAny (model X.prog X.w) X.A (eval b X.env) (fun u s₂=>wpAny (model X.prog X.w) X.A (compareOp op v u) (EP X pins σ Q) X.xe s₂) X.xe s₁) X.xe s
theorem xg (b:Expr) {op:CmpOp} (h:op≠.In) (h2:op≠.NotIn):behindInMarks op b=false:=by
 have e1:(op==CmpOp.In)=false:=by cases op <;> first | rfl | exact absurd rfl h
 have e2:(op==CmpOp.NotIn)=false:=by cases op <;> first | rfl | exact absurd rfl h2
 cases b <;> simp [behindInMarks,e1,e2]
def tB (t:TE):TT:=fun σ H Q=>t σ H fun x H1=>∃ c,x=.bl c/\Q c H1
theorem Ka {op:CmpOp} {t:TE} (h:PC X op a b t) (h1:behindInMarks op b=false:=by first | exact xg _ (by decide) (by decide) | rfl):PE X (.Compare a [op] [b] pos) t:=fun pins s σ H Q I hw=>wpAny_Compare1 (h pins s σ H Q I hw) h1
theorem gG {op:CmpOp} {t:TE} (h:PC X op a b t) (h1:behindInMarks op b=false:=by first | exact xg _ (by decide) (by decide) | rfl):PT X (.Compare a [op] [b] pos) (tB t):=by
 intro pins s σ H Q I hw
 refine Vd (thn (h pins s σ H _ I hw) fun v s1 h1=>thn h1 fun u s2 h2=>thn h2 fun c s3 ⟨x,H1,I1,r1,q1⟩=>?_) h1
 obtain ⟨d,rfl,q⟩:=q1
 cases r1
 exact Qd ⟨H1,I1,q⟩
theorem fB {e:Expr} {t:TE} (h:PE X e t) (he:∀ whole,isTrue e X.env whole=(do let v<-whole; standAt e.pos; holding [v] (truthy v)):=by intro _; rfl):PT X e (tB t):=by
 intro pins s σ H Q I hw
 refine isTrue_plain (thn (h pins s σ H _ I hw) fun v s1 ⟨x,H1,I1,r1,q1⟩=>?_) (he _)
 obtain ⟨d,rfl,q⟩:=q1
 cases r1
 exact Qd ⟨H1,I1,q⟩
variable {tA tB':TT} {rest:List Expr}
def tAnd (t u:TT):TT:=fun σ H Q=>t σ H fun c H1=>if c=true then u σ H1 Q else Q false H1
def tOr (t u:TT):TT:=fun σ H Q=>t σ H fun c H1=>if c=true then Q true H1 else u σ H1 Q
def tNot (t:TT):TT:=fun σ H Q=>t σ H fun c H1=>Q (!c) H1
theorem jx (ha:PT X a tA):PW X (.BoolOp .And [a] pos) tA:=by
 intro wh pins s σ H Q I h
 refine isTrue_and (thn (ha pins s σ H Q I h) fun c s1 e=>?_)
 cases c with
 | true=>exact isTrue_and_nil e
 | false=>exact e
theorem lC (ha:PT X a tA):PW X (.BoolOp .Or [a] pos) tA:=by
 intro wh pins s σ H Q I h
 refine isTrue_or (thn (ha pins s σ H Q I h) fun c s1 e=>?_)
 cases c with
 | false=>exact isTrue_or_nil e
 | true=>exact e
theorem jT (ha:PT X a tA) (hb:PW X (.BoolOp .And (b::rest) pos) tB'):PW X (.BoolOp .And (a::b::rest) pos) (tAnd tA tB'):=by
 intro wh pins s σ H Q I h
 refine isTrue_and (thn (ha pins s σ H _ I h) fun c s1 ⟨H1,I1,q1⟩=>?_)
 cases c with
 | true=>exact hb wh pins s1 σ H1 Q I1 q1
 | false=>exact ⟨H1,I1,q1⟩
theorem lO (ha:PT X a tA) (hb:PW X (.BoolOp .Or (b::rest) pos) tB'):PW X (.BoolOp .Or (a::b::rest) pos) (tOr tA tB'):=by
 intro wh pins s σ H Q I h
 refine isTrue_or (thn (ha pins s σ H _ I h) fun c s1 ⟨H1,I1,q1⟩=>?_)
 cases c with
 | true=>exact ⟨H1,I1,q1⟩
 | false=>exact hb wh pins s1 σ H1 Q I1 q1
theorem iK (ha:PT X a tA):PT X (.UnaryOp .Not a pos) (tNot tA):=by
 intro pins s σ H Q I h
 exact isTrue_not (ha pins s σ H (fun c H1=>Q (!c) H1) I h)
def Mf (ta tb:TE):TE:=fun σ H Q=>ta σ H fun x H1=>∃ c,x=.bl c/\if c=true then tb σ H1 Q else Q (.bl false) H1
def tOrV (ta tb:TE):TE:=fun σ H Q=>ta σ H fun x H1=>∃ c,x=.bl c/\if c=true then Q (.bl true) H1 else tb σ H1 Q
theorem yU {op} {t:TE} (h:PE X a t):PE X (.BoolOp op [a] pos) t:=fun pins s σ H Q I hw=>BoolOp_one (h pins s σ H Q I hw)
theorem Gf (ha:PE X a ta) (hb:PE X (.BoolOp .And (b::rest) pos) tb):PE X (.BoolOp .And (a::b::rest) pos) (Mf ta tb):=by
 intro pins s σ H Q I h
 refine BoolOp_and (thn (ha pins s σ H _ I h) fun v s1 ⟨x,H1,I1,r1,q1⟩=>?_)
 obtain ⟨c,rfl,q1⟩:=q1
 cases r1
 refine Qd ?_
 cases c with
 | true=>exact hb pins s1 σ H1 Q I1 q1
 | false=>exact ⟨.bl false,H1,I1,rfl,q1⟩
theorem Lx (ha:PE X a ta) (hb:PE X (.BoolOp .Or (b::rest) pos) tb):PE X (.BoolOp .Or (a::b::rest) pos) (tOrV ta tb):=by
 intro pins s σ H Q I h
 refine BoolOp_or (thn (ha pins s σ H _ I h) fun v s1 ⟨x,H1,I1,r1,q1⟩=>?_)
 obtain ⟨c,rfl,q1⟩:=q1
 cases r1
 refine Qd ?_
 cases c with
 | false=>exact hb pins s1 σ H1 Q I1 q1
 | true=>exact ⟨.bl true,H1,I1,rfl,q1⟩
def tIf (t:TT) (ta tb:TE):TE:=fun σ H Q=>t σ H fun c H1=>if c=true then ta σ H1 Q else tb σ H1 Q
theorem Dd {c:Expr} (hc:PT X c tA) (ha:PE X a ta) (hb:PE X b tb):PE X (.IfExp c a b pos) (tIf tA ta tb):=by
 intro pins s σ H Q I h
 refine wpAny_IfExp (thn (hc pins s σ H _ I h) fun d s1 ⟨H1,I1,q1⟩=>?_)
 cases d with
 | true=>exact ha pins s1 σ H1 Q I1 q1
 | false=>exact hb pins s1 σ H1 Q I1 q1
end
def SqL (K:Nh) (H:Hp) (a:Addr) (xs:List V):Prop :=
 Rd H a (.lst xs) ∨
  ∃ (o:Obj) (its:Array Value) (n:Nat),K.lookup a=some o/\o.cls=.type "list"/\o.dict=none/\o.data=.seq its n/\its.size<=sizeLine/\Vals xs its.toList
def SqT (K:Nh) (H:Hp) (a:Addr) (xs:List V):Prop :=
 Rd H a (.tup xs) ∨
  ∃ (o:Obj) (its:Array Value) (n:Nat),K.lookup a=some o/\o.cls=.type "tuple"/\o.data=.seq its n/\its.size<=sizeLine/\Vals xs its.toList
def absV:Value->Option V
 | .none=>some .non
 | .bool b=>some (.bl b)
 | .int i _=>some (.int i)
 | .str x _=>some (.str x)
 | .bytes b _=>some (.byt b)
 | .float b _=>some (.flt b)
 | .ref a=>some (.ref a)
 | .type n=>some (.ty n)
 | _=>none
theorem RelV.abs {x:V} {u:Value} (r:RelV x u):absV u=some x:=by
 cases x with
 | non=>cases r; rfl
 | bl _=>cases r; rfl
 | int _=>obtain ⟨t,rfl⟩:=r; rfl
 | str _=>obtain ⟨t,rfl⟩:=r; rfl
 | byt _=>obtain ⟨t,rfl⟩:=r; rfl
 | flt _=>obtain ⟨t,rfl⟩:=r; rfl
 | ref _=>cases r; rfl
 | ty _=>cases r; rfl
theorem RelV.inj {x y:V} {u:Value} (r:RelV x u) (q:RelV y u):x=y:=Option.some.inj (r.abs.symm.trans q.abs)
theorem Vals.inj:∀ {xs ys:List V} {us:List Value},Vals xs us->Vals ys us->xs=ys
 | _,_,_,.nil,.nil=>rfl
 | _,_,_,.cons r t,.cons r' t'=>by rw [r.inj r',Vals.inj t t']
section
variable {X:Cx} {pins:List (Addr×Obj)} {σ:St} {H:Hp} {s:Shared} {a:Addr} {xs ys:List V}
theorem SqL.of {K:Nh} (h:H a=some (.lst xs)):SqL K H a xs:=.inl (.inl h)
theorem SqT.of {K:Nh} (h:H a=some (.tup xs)):SqT K H a xs:=.inl (.inl h)
theorem Inv.list (I:Inv X pins σ H s) (h:SqL X.K H a xs):∃ its:List Value,Vals xs its/\PlainL s.heap a its.toArray/\xs.length<=sizeLine:=by
 rcases h with h | ⟨o,its,n,hk,hc,hd,hs,hz,r⟩
 ·obtain ⟨z,its,n,r,e⟩:=h.ok I.hok
  exact ⟨its,r,⟨_,n,e,rfl,rfl,rfl⟩,z⟩
 ·refine ⟨its.toList,r,⟨o,n,I.kIn a o hk,hc,hd,by simpa using hs⟩,?_⟩
  have e:=r.length
  simp only [Py] at e
  omega
theorem Inv.tuple (I:Inv X pins σ H s) (h:SqT X.K H a xs):∃ its:List Value,Vals xs its/\IsTup s.heap a its.toArray/\xs.length<=sizeLine:=by
 rcases h with h | ⟨o,its,n,hk,hc,hs,hz,r⟩
 ·obtain ⟨z,its,r,p⟩:=h.ok I.hok
  exact ⟨its,r,p,z⟩
 ·refine ⟨its.toList,r,⟨o,I.kIn a o hk,hc,n,by simpa using hs⟩,?_⟩
  have e:=r.length
  simp only [Py] at e
  omega
theorem Inv.list_inj (I:Inv X pins σ H s) (h:SqL X.K H a xs) (h':SqL X.K H a ys):xs=ys:=by
 obtain ⟨its,r,⟨o,n,e,_,_,d⟩,_⟩:=I.list h
 obtain ⟨its',r',⟨o',n',e',_,_,d'⟩,_⟩:=I.list h'
 rw [e] at e'; cases e'
 rw [d] at d'
 injection d' with d1 _
 have:its=its':=by simpa using congrArg Array.toList d1
 subst this
 exact r.inj r'
theorem Inv.tuple_inj (I:Inv X pins σ H s) (h:SqT X.K H a xs) (h':SqT X.K H a ys):xs=ys:=by
 obtain ⟨its,r,⟨o,e,_,n,d⟩,_⟩:=I.tuple h
 obtain ⟨its',r',⟨o',e',_,n',d'⟩,_⟩:=I.tuple h'
 rw [e] at e'; cases e'
 rw [d] at d'
 injection d' with d1 _
 have:its=its':=by simpa using congrArg Array.toList d1
 subst this
 exact r.inj r'
end
abbrev Cx.wish (X:Cx) (E:Value->Shared->Prop):Cx:={ X with xe:=E }
abbrev Cx.nox (X:Cx):Cx:=X.wish fun _ _=>False
theorem Cx.Ok.wish {X:Cx} (ok:X.Ok) (E:Value->Shared->Prop):(X.wish E).Ok :=
 ⟨ok.mod,ok.kind,ok.glob,ok.blt,ok.above,ok.inj,ok.has,ok.cab,ok.hd,ok.frames,ok.stk,ok.exf,ok.bs,ok.bsz,ok.noex,ok.exfs,ok.funs,ok.frf⟩
theorem Cx.Ok.unwish {X:Cx} {E:Value->Shared->Prop} (ok:(X.wish E).Ok):X.Ok :=
 ⟨ok.mod,ok.kind,ok.glob,ok.blt,ok.above,ok.inj,ok.has,ok.cab,ok.hd,ok.frames,ok.stk,ok.exf,ok.bs,ok.bsz,ok.noex,ok.exfs,ok.funs,ok.frf⟩
section
variable {X:Cx} {pins:List (Addr×Obj)} {σ:St} {H:Hp} {s:Shared} {E:Value->Shared->Prop}
theorem Inv.wish (I:Inv X pins σ H s) (E:Value->Shared->Prop):Inv (X.wish E) pins σ H s:=⟨I.ok.wish E,I.os,I.bare,I.base,I.loc,I.cell,I.free,I.freeC,I.pin,I.hok,I.len⟩
theorem Inv.unwish (I:Inv (X.wish E) pins σ H s):Inv X pins σ H s:=⟨I.ok.unwish,I.os,I.bare,I.base,I.loc,I.cell,I.free,I.freeC,I.pin,I.hok,I.len⟩
theorem SP.unwish {D:Ends} {f:Flow} {s':Shared} (h:SP (X.wish E) pins D f s'):SP X pins D f s':=by
 cases f with
 | next=>obtain ⟨σ',H',I,q⟩:=h; exact ⟨σ',H',I.unwish,q⟩
 | brk=>obtain ⟨σ',H',I,q⟩:=h; exact ⟨σ',H',I.unwish,q⟩
 | cont=>obtain ⟨σ',H',I,q⟩:=h; exact ⟨σ',H',I.unwish,q⟩
 | ret u=>obtain ⟨v,σ',H',I,r,q⟩:=h; exact ⟨v,σ',H',I.unwish,r,q⟩
theorem PE.nox {e:Expr} {t:TE} (h:PE X.nox e t):PE X e t:=fun pins s σ H Q I hw =>
 PK (h pins s σ H Q (I.wish _) hw) (fun _ _ ⟨v,H',I',r,q⟩=>⟨v,H',I'.unwish,r,q⟩) fun _ _ z=>False.elim z
theorem PT.nox {e:Expr} {t:TT} (h:PT X.nox e t):PT X e t:=fun pins s σ H Q I hw =>
 PK (h pins s σ H Q (I.wish _) hw) (fun _ _ ⟨H',I',q⟩=>⟨H',I'.unwish,q⟩) fun _ _ z=>False.elim z
theorem PSs.nox {st:List Stmt} {t:TS} (h:PSs X.nox st t):PSs X st t:=fun pins s σ H D I hw =>
 PK (h pins s σ H D (I.wish _) hw) (fun _ _ q=>q.unwish) fun _ _ z=>False.elim z
end
section
variable {X:Cx} {st:Stmt} {rest:List Stmt} {t u:TS} {e:Expr} {te:TE} {pos:Pos}
def oh:TS:=fun D σ H=>D.nx σ H
def tSeq (t u:TS):TS:=fun D σ H=>t { D with nx:=u D } σ H
theorem aR:PSs X [] oh:=fun _ _ σ H _ I h=>RZ ⟨σ,H,I,h⟩
theorem ao (h1:PS X st t) (h2:PSs X rest u):PSs X (st::rest) (tSeq t u):=by
 intro pins s σ H D I h
 refine wpAny_execs_cons (thn (h1 pins s σ H { D with nx:=u D } I h) fun f s1 q=>?_)
 cases f with
 | next =>
  obtain ⟨σ',H',I',q⟩:=q
  exact h2 pins s1 σ' H' D I' q
 | ret v=>exact q
 | brk=>exact q
 | cont=>exact q
theorem aD (h1:PS X st t):PSs X [st] t:=by
 intro pins s σ H D I h
 refine wpAny_execs_cons (thn (h1 pins s σ H D I h) fun f s1 q=>?_)
 cases f with
 | next=>exact RZ q
 | ret v=>exact q
 | brk=>exact q
 | cont=>exact q
def Lr:TS:=fun D σ H=>D.ct σ H
theorem vI:PS X (.Continue pos) Lr:=fun _ _ σ H _ I h=>wpAny_Continue ⟨σ,H,I,h⟩
theorem Inv.quiet {pins:List (Addr×Obj)} {σ:St} {H:Hp} {s:Shared} (I:Inv X pins σ H s):interactive X.env=false:=by simp [interactive,I.ok.kind]
def JD (te:TE):TS:=fun D σ H=>te σ H fun _ H1=>D.nx σ H1
theorem cC (he:PE X e te) (hs:swapsWith e none pos.line X.env=pure false:=by rfl):PS X (.Expr e pos) (JD te):=by
 intro pins s σ H D I h
 exact wpAny_Expr_any (thn (he pins s σ H _ I h) fun v s1 ⟨x,H1,I1,r1,q1⟩=>⟨σ,H1,I1,q1⟩) I.quiet hs
def tRet (te:TE):TS:=fun D σ H=>te σ H D.rt
theorem aU (he:PE X e te):PS X (.Return (some e) pos) (tRet te):=by
 intro pins s σ H D I h
 exact wpAny_Return_some (thn (he pins s σ H _ I h) fun v s1 ⟨x,H1,I1,r1,q1⟩=>⟨x,σ,H1,I1,r1,q1⟩)
def tIfS (c:TT) (t u:TS):TS:=fun D σ H=>c σ H fun b H1=>if b=true then t D σ H1 else u D σ H1
theorem bJ {c:Expr} {a b:List Stmt} {tc:TT} (hc:PT X c tc) (ha:PSs X a t) (hb:PSs X b u):PS X (.If c a b pos) (tIfS tc t u):=by
 intro pins s σ H D I h
 refine wpAny_If (thn (hc pins s σ H _ I h) fun d s1 ⟨H1,I1,q1⟩=>?_)
 cases d with
 | true=>exact ha pins s1 σ H1 D I1 q1
 | false=>exact hb pins s1 σ H1 D I1 q1
def Lf:TS:=fun _ _ _=>False
theorem nD {sts:List Stmt}:PSs X sts Lf:=fun _ _ _ _ _ _ h=>h.elim
end
abbrev TG:=V->St->Hp->(St->Hp->Prop)->Prop
abbrev TGs:=List V->St->Hp->(St->Hp->Prop)->Prop
def PG (X:Cx) (target:Expr) (t:TG):Prop :=
 ∀ (pins:List (Addr×Obj)) (s:Shared) (σ:St) (H:Hp) (v:V) (u:Value) (Q:St->Hp->Prop),Inv X pins σ H s->RelV v u->t v σ H Q ->
  wpAny (model X.prog X.w) X.A (assign target X.env u) (fun _ s'=>∃ σ' H',Inv X pins σ' H' s'/\Q σ' H') X.xe s
def PGs (X:Cx) (ts:List Expr) (t:TGs):Prop :=
 ∀ (pins:List (Addr×Obj)) (s:Shared) (σ:St) (H:Hp) (vs:List V) (us:List Value) (Q:St->Hp->Prop),Inv X pins σ H s->Vals vs us->t vs σ H Q ->
  wpAny (model X.prog X.w) X.A (assignInOrder ((assignEach ts X.env).map (·.2)) us) (fun _ s'=>∃ σ' H',Inv X pins σ' H' s'/\Q σ' H') X.xe s
section
variable {X:Cx} {pos:Pos}
def kY (i:Nat):TG:=fun v σ H Q=>Q (σ.set i (some v)) H
theorem aK {i:Nat} {x:Str} (hN:X.N.Nodup) (hi:X.N[i]?=some x) (hx:Loc X.env.scope x) (hf:X.fn x=true∨X.env.scope.names.lookup x=some .local:=by first | exact .inl rfl | exact .inr rfl | assumption):PG X (.Name x pos) (kY i):=by
 intro pins s σ H v u Q I r h
 exact wpAny_assign_Name (qP I hN hi hx r (fun s' I'=>⟨_,H,I',h⟩) hf)
def gNil:TGs:=fun vs σ H Q=>vs=[]/\Q σ H
def LC (t:TG) (u:TGs):TGs:=fun vs σ H Q=>∃ v r,vs=v::r/\t v σ H fun σ' H'=>u r σ' H' Q
theorem iC:PGs X [] gNil:=by
 intro pins s σ H vs us Q I r h
 obtain ⟨e,h⟩:=h
 subst e
 cases r
 exact assignInOrder_nil ⟨σ,H,I,h⟩
theorem bM {e:Expr} {es:List Expr} {t:TG} {u:TGs} (h1:PG X e t) (h2:PGs X es u)
  (hs:(assignEach (e::es) X.env).map (·.2)=assign e X.env::(assignEach es X.env).map (·.2):=by rfl):PGs X (e::es) (LC t u):=by
 intro pins s σ H vs us Q I r h
 obtain ⟨v,vr,e1,h⟩:=h
 subst e1
 cases r with
 | cons r rr =>
  rw [hs]
  refine assignInOrder_cons (thn (h1 pins s σ H _ _ _ I r h) fun _ s1 ⟨σ1,H1,I1,q1⟩=>?_)
  exact h2 pins s1 σ1 H1 _ _ Q I1 rr q1
def gTup (K:Nh) (n:Nat) (t:TGs):TG:=fun v σ H Q=>∃ a xs,v=.ref a/\SqT K H a xs/\xs.length=n/\t xs σ H Q
theorem jW {es:List Expr} {k:Nat} {t:TGs} {n:Nat} (hc:X.calm=true) (h:PGs X es t)
  (hn:(assignEach es X.env).length=n:=by rfl) (hst:(assignEach es X.env).findIdx? (·.1)=none:=by rfl):PG X (.Tuple es k pos) (gTup X.K n t):=by
 intro pins s σ H v u Q I r hw
 obtain ⟨a,xs,e1,hq,hl,hw⟩:=hw
 subst e1
 cases r
 obtain ⟨its,rv,ht,hz⟩:=I.tuple hq
 refine assign_Tuple_tuple (I.ok.hd hc) ht (by simp [hn,<- hl,rv.length]) hst fun h' hx=>?_
 have I1:Inv X pins σ H { s with heap:=h' }:=I.kept (t':=s.toks) fun b o e=>hx b o (Ot (N7 e)) e
 exact h pins _ σ H xs _ Q I1 (by simpa using rv) hw
def tAsg (te:TE) (g:TG):TS:=fun D σ H=>te σ H fun x H1=>g x σ H1 D.nx
theorem aF {i:Nat} {x:Str} {e:Expr} {te:TE} {pos':Pos} (hN:X.N.Nodup) (hi:X.N[i]?=some x) (hx:Loc X.env.scope x) (he:PE X e te) (hs:swapsWith e (some (.Name x pos')) pos.line X.env=pure false:=by rfl) (hf:X.fn x=true∨X.env.scope.names.lookup x=some .local:=by first | exact .inl rfl | exact .inr rfl | assumption) :
  PS X (.Assign [.Name x pos'] e pos) (tAsg te (kY i)):=by
 intro pins s σ H D I h
 refine wpAny_Assign_Name (thn (he pins s σ H _ I h) fun v s1 ⟨y,H1,I1,r1,q1⟩=>?_) hs
 exact qP I1 hN hi hx r1 (fun s2 I2=>⟨_,H1,I2,q1⟩) hf
end
section
variable {X:Cx} {pos:Pos}
def CZ (c:TT) (tb:TS):TS:=fun D σ H=>∃ W:Nat->St->Hp->Prop,(∃ m,W m σ H)/\∀ m σ H,W m σ H ->
 c σ H fun b H1=>if b=true then ∃ N:St->Hp->Prop,(∀ σ' H',N σ' H'->∃ m',m'<m/\W m' σ' H')/\tb { D with nx:=N,ct:=N,bk:=D.nx } σ H1 else D.nx σ H1
theorem qG {c:Expr} {body:List Stmt} {tc:TT} {tb:TS} (hp:PassesOwn (model X.prog X.w) X.A X.env X.xe) (hc:PT X c tc) (hb:PSs X body tb):PS X (.While c body [] pos) (CZ tc tb):=by
 intro pins s σ H D I h
 obtain ⟨W,⟨m0,w0⟩,turn⟩:=h
 refine wpAny_While (codeAny_whileLoop (fun n s'=>∃ σ' H',Inv X pins σ' H' s'/\W n σ' H') ?_ m0 ⟨σ,H,I,w0⟩)
 rintro n s1 ⟨σ1,H1,I1,w1⟩
 refine QW hp (thn (hc pins s1 σ1 H1 _ I1 (turn n σ1 H1 w1)) fun b s2 ⟨H2,I2,q2⟩=>?_)
 cases b with
 | true =>
  obtain ⟨N,hN,q2⟩:=q2
  rw [if_pos rfl]
  refine QW hp (thn (hb pins s2 σ1 H2 _ I2 q2) fun f s3 q3=>?_)
  cases f with
  | next =>
   obtain ⟨σ3,H3,I3,n3⟩:=q3
   obtain ⟨m',hm,w3⟩:=hN σ3 H3 n3
   exact ⟨m',hm,σ3,H3,I3,w3⟩
  | cont =>
   obtain ⟨σ3,H3,I3,n3⟩:=q3
   obtain ⟨m',hm,w3⟩:=hN σ3 H3 n3
   exact ⟨m',hm,σ3,H3,I3,w3⟩
  | brk=>exact q3
  | ret v=>exact q3
 | false =>
  rw [if_neg Oz]
  exact RZ ⟨σ1,H2,I2,q2⟩
end
structure It where
 go:Nat->Hp->Prop
 yld:Nat->Hp->V->Hp->Prop
 stop:Nat->Hp->Prop
def FpOk (X:Cx) (pins:List (Addr×Obj)) (H:Hp) (b:Addr):Prop :=
 H b=none/\b≠X.env.locals/\b∉X.fs/\(b∈X.ex∨X.s₀.heap.objs.size<=b)/\(∀ x c,X.env.cells.lookup x=some c->c≠b)/\∀ p∈X.pn++pins,p.1≠b
theorem Inv.fpOk {X:Cx} {pins:List (Addr×Obj)} {σ:St} {H H':Hp} {s:Shared} {b:Addr} (I:Inv X pins σ H s) (hb:s.heap.objs.size<=b) (hn:H' b=none):FpOk X pins H' b:=by
 refine ⟨hn,Wq (Om I.lt hb),I.nofs hb,.inr (OJ I.sz hb),fun x c e z=>?_,fun p hp z=>?_⟩
 ·obtain ⟨v,q⟩:=I.cell x c e
  exact absurd (Om q.lt (by rw [z]; exact hb)) (Qj _)
 ·exact absurd (Om (N7 (I.pin p hp).1) (by rw [z]; exact hb)) (Qj _)
structure Turn (P:Program) (w:World) (K:Nh) (tg:Expr) (J:It) (fp:List Addr) (it:Addr) (tn:Nat->Heap->Prop):Prop where
 mem:it∈fp
 obj:∀ i h,tn i h->∀ b∈fp,∃ o,h.get? b=some o/\∀ v,o.data≠.cell v
 keep:∀ i h h',tn i h->(∀ b∈fp,∀ o,h.get? b=some o->h'.get? b=some o)->tn i h'
 item:∀ (X:Cx),X.prog=P->X.w=w->X.K=K->X.calm=true->∀ (i:Nat) (pins:List (Addr×Obj)) (s:Shared) (σ:St) (H:Hp) (E:Value->Shared->Prop),Inv X pins σ H s->(∀ b∈fp,FpOk X pins H b)->tn i s.heap->J.go i H ->
  wpAny (model P w) X.A (pyNext (.ref it)) (fun r s1=>∃ u,r=some u /\
   wpAny (model P w) X.A (letOwnedTupleGo tg (.ref it) u) (fun _ s2=>∃ x H',Inv X pins σ H' s2/\RelV x u/\J.yld i H x H'/\tn (i+1) s2.heap/\∀ b∈fp,H' b=none) E s1) E s
 done:∀ (X:Cx),X.prog=P->X.w=w->X.K=K->X.calm=true->∀ (i:Nat) (pins:List (Addr×Obj)) (s:Shared) (σ:St) (H:Hp) (E:Value->Shared->Prop),Inv X pins σ H s->(∀ b∈fp,FpOk X pins H b)->tn i s.heap->J.stop i H ->
  wpAny (model P w) X.A (pyNext (.ref it)) (fun r s1=>r=none/\Inv X pins σ H s1) E s
 self:∀ (A:Around) (i:Nat) (s:Shared) (Q:Value->Shared->Prop) (E:Value->Shared->Prop),tn i s.heap->Q (.ref it) s->wpAny (model P w) A (pyIter (.ref it)) Q E s
abbrev TI:=St->Hp->(It->Hp->Prop)->Prop
def PIE (X:Cx) (pins:List (Addr×Obj)) (σ:St) (tg:Expr) (R:It->Hp->Prop) (itv:Value) (s2:Shared):Prop :=
 ∃ (it:Addr) (fp:List Addr) (tn:Nat->Heap->Prop) (J:It) (H':Hp),itv=.ref it/\Inv X pins σ H' s2/\Turn X.prog X.w X.K tg J fp it tn/\tn 0 s2.heap/\(∀ b∈fp,FpOk X pins H' b)/\R J H'
def PI (X:Cx) (tg iter:Expr) (wi:TI):Prop :=
 ∀ (pins:List (Addr×Obj)) (s:Shared) (σ:St) (H:Hp) (R:It->Hp->Prop),Inv X pins σ H s->wi σ H R ->
  wpAny (model X.prog X.w) X.A (eval iter X.env) (fun v s1=>wpAny (model X.prog X.w) X.A (pyIter v) (PIE X pins σ tg R) X.xe s1) X.xe s
theorem wA {M:Model} {A:Around} {E:Value → Shared → Prop} {s:Shared} {tg:Expr} {it:Addr} {u:Value} {o:Obj} {n:String} {vs:Array Value} {Q:Unit → Shared → Prop} (ho:s.heap.get? it=some o) (hc:o.cls=.type n) (hd:o.data=.fields vs)
    (hn:["enumerate", "zip", "dict_itemiterator", "dict_reverseitemiterator", "odict_iterator", "itertools.zip_longest", "itertools.pairwise"].contains n=false) (hQ:Q () s):wpAny M A (letOwnedTupleGo tg (.ref it) u) Q E s:=by
  unfold letOwnedTupleGo
  cases tg <;> first
    | exact Ni hQ
    | (cases u <;> first
        | exact Ni hQ
        | (refine Nf (V8 ho ?_)
           rw [hc, hd]
           show wpAny M A (if (["enumerate", "zip", "dict_itemiterator", "dict_reverseitemiterator", "odict_iterator", "itertools.zip_longest", "itertools.pairwise"].contains n && vs[0]?==some (rawInt _))=true then _ else _) Q E s
           rw [if_neg (by intro h; rw [hn, W9] at h; cases h)]
           exact Ni hQ))
def Itl (K:Nh) (a:Addr):It :=
 ⟨fun i H=>∃ xs x,SqL K H a xs/\xs[i]?=some x,fun i H x H'=>H'=H/\∀ xs,SqL K H a xs->xs[i]?=some x,fun i H=>∃ xs,SqL K H a xs/\xs.length<=i⟩
def Itt (K:Nh) (a:Addr):It :=
 ⟨fun i H=>∃ xs x,SqT K H a xs/\xs[i]?=some x,fun i H x H'=>H'=H/\∀ xs,SqT K H a xs->xs[i]?=some x,fun i H=>∃ xs,SqT K H a xs/\xs.length<=i⟩
def Itr (lo:Int) (n:Nat):It:=⟨fun i _=>i<n,fun i H x H'=>H'=H/\x=.int (lo+i),fun i _=>n<=i⟩
theorem Cq {P:Program} {w:World} {K:Nh} {tg:Expr} (a it:Addr):Turn P w K tg (Itl K a) [it] it (fun i h=>h.IsListIter it a i) where
 mem:=by simp
 obj:=fun i h st b hb=>by
  have e:b=it:=by simpa using hb
  subst e
  obtain ⟨o,e,c,d⟩:=st
  exact ⟨o,e,fun v z=>by rw [d] at z; cases z⟩
 keep:=fun i h h' st k=>st.at fun o e=>k it (by simp) o e
 item:=by
  intro X hP hw hK hc i pins s σ H E I hf st hg
  subst hP hw hK
  obtain ⟨xs,x,hq,hx⟩:=hg
  obtain ⟨its,rv,p,hz⟩:=I.list hq
  obtain ⟨u,hu,ru⟩:=rv.get hx
  obtain ⟨f0,f1,f2,f3,f4,f5⟩:=hf it (by simp)
  refine wpAny_pyNext_list_item st p.isList (x:=u) (by simpa using hu) fun h' st' sb=>?_
  have I1:Inv X pins σ H { s with heap:=h' }:=I.turned (t':=s.toks) (fun b o hb e=>(sb.2 b hb).trans e) f0 f1 f3 f4 f5
  obtain ⟨o,e,c,d⟩:=id st'
  exact ⟨u,rfl,wA (s:={ s with heap:=h' }) e c d (by decide) ⟨x,H,I1,ru,⟨rfl,fun ys hy=>by rw [I.list_inj hy hq]; exact hx⟩,st',fun b hb=>(hf b hb).1⟩⟩
 done:=by
  intro X hP hw hK hc i pins s σ H E I hf st hg
  subst hP hw hK
  obtain ⟨xs,hq,hx⟩:=hg
  obtain ⟨its,rv,p,hz⟩:=I.list hq
  obtain ⟨f0,f1,f2,f3,f4,f5⟩:=hf it (by simp)
  have hl:=rv.length
  exact wpAny_pyNext_list_end (I.ok.hd hc) st p.isList (by simp; omega) fun h' eb=>⟨rfl,I.turned (t':=s.toks) (fun b o hb e=>eb b o hb e) f0 f1 f3 f4 f5⟩
 self:=fun _ _ _ _ _ st h=>wpAny_pyIter_listiter st h
theorem yO {P:Program} {w:World} {K:Nh} {tg:Expr} (a it:Addr):Turn P w K tg (Itt K a) [it] it (fun i h=>h.IsTupleIter it a i) where
 mem:=by simp
 obj:=fun i h st b hb=>by
  have e:b=it:=by simpa using hb
  subst e
  obtain ⟨o,e,c,d⟩:=st
  exact ⟨o,e,fun v z=>by rw [d] at z; cases z⟩
 keep:=fun i h h' st k=>st.at fun o e=>k it (by simp) o e
 item:=by
  intro X hP hw hK hc i pins s σ H E I hf st hg
  subst hP hw hK
  obtain ⟨xs,x,hq,hx⟩:=hg
  obtain ⟨its,rv,p,hz⟩:=I.tuple hq
  obtain ⟨u,hu,ru⟩:=rv.get hx
  obtain ⟨f0,f1,f2,f3,f4,f5⟩:=hf it (by simp)
  refine wpAny_pyNext_tuple_item st (show s.heap.IsTuple a its.toArray from p) (x:=u) (by simpa using hu) fun h' st' sb=>?_
  have I1:Inv X pins σ H { s with heap:=h' }:=I.turned (t':=s.toks) (fun b o hb e=>(sb.2 b hb).trans e) f0 f1 f3 f4 f5
  obtain ⟨o,e,c,d⟩:=id st'
  exact ⟨u,rfl,wA (s:={ s with heap:=h' }) e c d (by decide) ⟨x,H,I1,ru,⟨rfl,fun ys hy=>by rw [I.tuple_inj hy hq]; exact hx⟩,st',fun b hb=>(hf b hb).1⟩⟩
 done:=by
  intro X hP hw hK hc i pins s σ H E I hf st hg
  subst hP hw hK
  obtain ⟨xs,hq,hx⟩:=hg
  obtain ⟨its,rv,p,hz⟩:=I.tuple hq
  obtain ⟨f0,f1,f2,f3,f4,f5⟩:=hf it (by simp)
  have hl:=rv.length
  exact wpAny_pyNext_tuple_end (I.ok.hd hc) st (show s.heap.IsTuple a its.toArray from p) (by simp; omega) fun h' eb=>⟨rfl,I.turned (t':=s.toks) (fun b o hb e=>eb b o hb e) f0 f1 f3 f4 f5⟩
 self:=fun _ _ _ _ _ st h=>wpAny_pyIter_tupleiter st h
theorem xG {P:Program} {w:World} {K:Nh} {tg:Expr} (it:Addr) (lo:Int) (n:Nat):Turn P w K tg (Itr lo n) [it] it (fun i h=>IsRangeIter h it (lo+(i:Nat)*1) ((n:Int)-(i:Nat)) 1) where
 mem:=by simp
 obj:=fun i h st b hb=>by
  have e:b=it:=by simpa using hb
  subst e
  exact ⟨_,st,fun v z=>by
   have z':Data.fields _=Data.cell v:=z
   cases z'⟩
 keep:=fun i h h' st k=>k it (by simp) _ st
 item:=by
  intro X hP hw hK hc i pins s σ H E I hf st hg
  subst hP hw hK
  obtain ⟨f0,f1,f2,f3,f4,f5⟩:=hf it (by simp)
  have W:=Walks.range (prog:=X.prog) (w:=X.w) (I.ok.hd hc) it lo 1 n
  refine W.item i s _ _ hg st fun v h' tk hv st' kk=>?_
  obtain ⟨t,rfl⟩:=hv
  have I1:Inv X pins σ H { s with heap:=h',toks:=tk }:=I.turned (fun b o hb e=>kk b o (by simpa using hb) e) f0 f1 f3 f4 f5
  refine ⟨_,rfl,wA (s:={ s with heap:=h',toks:=tk }) (n:="range_iterator") st' rfl rfl (by decide) ⟨.int (lo+i),H,I1,⟨t,?_⟩,⟨rfl,rfl⟩,st',fun b hb=>(hf b hb).1⟩⟩
  rw [Int.mul_one]
 done:=by
  intro X hP hw hK hc i pins s σ H E I hf st hg
  subst hP hw hK
  obtain ⟨f0,f1,f2,f3,f4,f5⟩:=hf it (by simp)
  exact wpAny_pyNext_range_end (I.ok.hd hc) st (by have:n<=i:=hg; omega) fun h' eb=>⟨rfl,I.turned (t':=s.toks) (fun b o hb e=>eb b o hb e) f0 f1 f3 f4 f5⟩
 self:=fun _ _ _ _ _ st h=>wpAny_pyIter_rangeiter st h
section
variable {X:Cx} {tg:Expr}
def Lz (K:Nh) (tl:TE):TI:=fun σ H R=>tl σ H fun x H1=>∃ a,x=.ref a/\(∃ xs,SqL K H1 a xs)/\R (Itl K a) H1
def iTup (K:Nh) (tl:TE):TI:=fun σ H R=>tl σ H fun x H1=>∃ a,x=.ref a/\(∃ xs,SqT K H1 a xs)/\R (Itt K a) H1
theorem cu {l:Expr} {tl:TE} (hl:PE X l tl):PI X tg l (Lz X.K tl):=by
 intro pins s σ H R I h
 refine thn (hl pins s σ H _ I h) fun v s1 ⟨x,H1,I1,r1,q1⟩=>?_
 obtain ⟨a,e,⟨xs,hq⟩,q⟩:=q1
 subst e
 cases r1
 obtain ⟨its,rv,p,hz⟩:=I1.list hq
 refine T9 p.isList ?_
 refine ⟨s1.heap.objs.size,[s1.heap.objs.size],_,_,H1,rfl,I1.kept (t':=s1.toks) fun b o e=>Nk _ e,Cq a _,⟨_,NQ _ rfl,rfl,rfl⟩,fun b hb=>?_,q⟩
 have e:b=s1.heap.objs.size:=by simpa using hb
 subst e
 exact I1.fpOk (Nu _) (I1.hok.fresh (Nu _))
theorem uT {l:Expr} {tl:TE} (hl:PE X l tl):PI X tg l (iTup X.K tl):=by
 intro pins s σ H R I h
 refine thn (hl pins s σ H _ I h) fun v s1 ⟨x,H1,I1,r1,q1⟩=>?_
 obtain ⟨a,e,⟨xs,hq⟩,q⟩:=q1
 subst e
 cases r1
 obtain ⟨its,rv,p,hz⟩:=I1.tuple hq
 refine wpAny_pyIter_tuple (show s1.heap.IsTuple a its.toArray from p) ?_
 refine ⟨s1.heap.objs.size,[s1.heap.objs.size],_,_,H1,rfl,I1.kept (t':=s1.toks) fun b o e=>Nk _ e,yO a _,⟨_,NQ _ rfl,rfl,rfl⟩,fun b hb=>?_,q⟩
 have e:b=s1.heap.objs.size:=by simpa using hb
 subst e
 exact I1.fpOk (Nu _) (I1.hok.fresh (Nu _))
theorem vP {pins:List (Addr×Obj)} {σ:St} {H:Hp} {s:Shared} {R:It->Hp->Prop} {E:Value->Shared->Prop} {lo hi:Int} {t u v:Tok} {tk:Nat} (I:Inv X pins σ H s) (h1:-(2 ^ 62)<=lo) (h2:lo<2 ^ 62) (h3:-(2 ^ 62)<=hi) (h4:hi<2 ^ 62)
  (q:R (Itr lo (hi-lo).toNat) H):wpAny (model X.prog X.w) X.A (pyIter (.ref s.heap.objs.size)) (PIE X pins σ tg R) E { s with heap:=s.heap.push { cls:=.type "range",data:=.fields #[.int lo t,.int hi u,.int 1 v] },toks:=tk }:=by
 refine wpAny_pyIter_range (IsRange.new ..) (small_one h1 h2 h3 h4) ?_
 have I1:Inv X pins σ H { s with heap:=s.heap.push { cls:=.type "range",data:=.fields #[.int lo t,.int hi u,.int 1 v] },toks:=tk }:=I.kept fun b o e=>Nk _ e
 refine ⟨(s.heap.push { cls:=.type "range",data:=.fields #[.int lo t,.int hi u,.int 1 v] }).objs.size,[(s.heap.push { cls:=.type "range",data:=.fields #[.int lo t,.int hi u,.int 1 v] }).objs.size],_,_,H,rfl,
  I1.kept (t':=tk) fun b o e=>Nk _ e,xG _ lo (hi-lo).toNat,?_,fun b hb=>?_,q⟩
 ·have e1:lo+((0:Nat):Int)*1=lo:=by simp
  have e2:(((hi-lo).toNat:Nat):Int)-((0:Nat):Int)=Builtin.Range.rangeSize lo hi 1:=by rw [rangeSize_one]; split <;> omega
  show IsRangeIter _ _ (lo+((0:Nat):Int)*1) ((((hi-lo).toNat:Nat):Int)-((0:Nat):Int)) 1
  rw [e1,e2]
  exact NQ _ rfl
 ·have e:b=(s.heap.push { cls:=.type "range",data:=.fields #[.int lo t,.int hi u,.int 1 v] }).objs.size:=by simpa using hb
  subst e
  exact I1.fpOk (Nu _) (I1.hok.fresh (Nu _))
def MF (ta:TA):TI:=fun σ H R=>ta σ H fun vs H1=>∃ j:Int,vs=[.int j]/\-(2 ^ 62)<=j/\j<2 ^ 62/\R (Itr 0 j.toNat) H1
def M9 (ta:TA):TI:=fun σ H R=>ta σ H fun vs H1=>∃ i j:Int,vs=[.int i,.int j]/\(-(2 ^ 62)<=i/\i<2 ^ 62/\-(2 ^ 62)<=j/\j<2 ^ 62)/\R (Itr i (j-i).toNat) H1
theorem iU {a:Expr} {ta:TA} {p pos:Pos} (hg:Gl X "range") (hm:X.mg "range"=none) (ha:PA X [a] ta) (hs:starEach [a] X.env=[(false,eval a X.env)]:=by rfl):PI X tg (.Call (.Name "range" p) [a] [] pos) (MF ta):=by
 intro pins s σ H R I h
 refine Call_ (qX I hg hm boot_range (Rq (thn (ha pos pins s σ H _ I h) fun us s1 ⟨vs,H1,I1,r1,q1⟩=>?_) hs rfl))
 obtain ⟨j,e,q1,q2,q⟩:=q1
 subst e
 cases r1 with
 | cons r rr =>
  cases rr
  obtain ⟨t,rfl⟩:=r
  exact call_range_1 (vP I1 (by omega) (by omega) q1 q2 (by simpa using q))
theorem sS {a b:Expr} {ta:TA} {p pos:Pos} (hg:Gl X "range") (hm:X.mg "range"=none) (ha:PA X [a,b] ta) (hs:starEach [a,b] X.env=[(false,eval a X.env),(false,eval b X.env)]:=by rfl) (hs2:starEach [b] X.env=[(false,eval b X.env)]:=by rfl) :
  PI X tg (.Call (.Name "range" p) [a,b] [] pos) (M9 ta):=by
 intro pins s σ H R I h
 refine Call_ (qX I hg hm boot_range (Rq (thn (ha pos pins s σ H _ I h) fun us s1 ⟨vs,H1,I1,r1,q1⟩=>?_) (by rw [hs,hs2]) (by rw [hs2]; rfl)))
 obtain ⟨i,j,e,⟨q1,q2,q3,q4⟩,q⟩:=q1
 subst e
 cases r1 with
 | cons r rr =>
  cases rr with
  | cons r' rr =>
   cases rr
   obtain ⟨t,rfl⟩:=r
   obtain ⟨t',rfl⟩:=r'
   exact call_range_2 (vP I1 q1 q2 q3 q4 q)
def tFor (wi:TI) (g:TG) (tb:TS):TS:=fun D σ H=>wi σ H fun J H1=>∃ W:Nat->Nat->St->Hp->Prop,(∃ m,W 0 m σ H1)/\∀ i m σ H,W i m σ H ->
 (J.stop i H/\D.nx σ H)∨(J.go i H/\∃ N:St->Hp->Prop,(∀ σ' H',N σ' H'->∃ m',m'<m/\W (i+1) m' σ' H')/\∀ x H',J.yld i H x H'->g x σ H' fun σ2 H2=>tb { D with nx:=N,ct:=N,bk:=D.nx } σ2 H2)
def ji (fp:List Addr) (h:Heap):List (Addr×Obj):=fp.filterMap fun b=>(h.get? b).map fun o=>(b,o)
theorem jr {fp:List Addr} {h:Heap} {b:Addr} {o:Obj} (hb:b∈fp) (e:h.get? b=some o):(b,o)∈ji fp h:=Pu.mpr ⟨b,hb,by rw [e]; rfl⟩
theorem sO {fp:List Addr} {h:Heap} {p:Addr×Obj} (hp:p∈ji fp h):p.1∈fp/\h.get? p.1=some p.2:=by
 obtain ⟨b,hb,e⟩:=Pu.mp hp
 cases q:h.get? b with
 | none=>rw [q] at e; cases e
 | some o =>
  rw [q] at e
  have e':(b,o)=p:=Option.some.inj e
  subst e'
  exact ⟨hb,q⟩
theorem Inv.pinned {pins:List (Addr×Obj)} {σ:St} {H:Hp} {s:Shared} {fp:List Addr} (I:Inv X pins σ H s) (hf:∀ b∈fp,FpOk X pins H b) (ho:∀ b∈fp,∃ o,s.heap.get? b=some o/\∀ v,o.data≠.cell v):Inv X (pins++ji fp s.heap) σ H s :=
 I.pins_of fun p hp=>(Nz.mp hp).elim (fun z=>I.pin p (NZ _ z)) fun z=>by
  obtain ⟨hb,e⟩:=sO z
  obtain ⟨f0,f1,f2,_⟩:=hf p.1 hb
  obtain ⟨o,e',d⟩:=ho p.1 hb
  rw [e] at e'; cases e'
  exact ⟨e,f0,f1,f2,d⟩
theorem Inv.unpinned {pins pl:List (Addr×Obj)} {σ:St} {H:Hp} {s:Shared} (I:Inv X (pins++pl) σ H s):Inv X pins σ H s:=I.pins_of fun p hp=>I.pin p (NZ _ (O8 _ hp))
theorem cj {iter:Expr} {body:List Stmt} {wi:TI} {g:TG} {tb:TS} {pos:Pos} (hp:PassesOwn (model X.prog X.w) X.A X.env X.xe) (hc:X.calm=true) (hi:PI X tg iter wi) (hg:PG X tg g) (hb:PSs X body tb)
  (hs:∀ x,foldedSetIterable iter X.env x=pure x:=by intro _; rfl):PS X (.For tg iter body [] pos) (tFor wi g tb):=by
 intro pins s σ H D I h
 refine wpAny_For (thn (hi pins s σ H _ I h) fun v s1 h1=>thn h1 fun itv s2 h2=>?_) hs
 obtain ⟨it,fp,tn,J,H2,e,I2,T,st2,f2,W,⟨m0,w0⟩,turn⟩:=h2
 subst e
 have stat:∀ {H':Hp},(∀ b∈fp,H' b=none)->∀ b∈fp,FpOk X pins H' b:=fun hn b hb=>⟨hn b hb,(f2 b hb).2⟩
 refine codeAny_forLoop_any (fun n s'=>∃ i σ' H',Inv X pins σ' H' s'/\tn i s'.heap/\(∀ b∈fp,H' b=none)/\W i n σ' H') ?_ m0 ⟨0,σ,H2,I2,st2,fun b hb=>(f2 b hb).1,w0⟩
 rintro n s3 ⟨i,σ3,H3,I3,st3,fr3,w3⟩
 rcases turn i n σ3 H3 w3 with ⟨stop,qn⟩ | ⟨go,N,hN,step⟩
 ·refine QW hp (thn (T.done X rfl rfl rfl hc i pins s3 σ3 H3 X.xe I3 (stat fr3) st3 stop) fun r s4 ⟨hr,I4⟩=>?_)
  subst hr
  exact RZ ⟨σ3,H3,I4,qn⟩
 ·refine QW hp (thn (T.item X rfl rfl rfl hc i pins s3 σ3 H3 X.xe I3 (stat fr3) st3 go) fun r s4 ⟨u,hr,h4⟩=>?_)
  subst hr
  refine QW hp (thn h4 fun _ s5 ⟨x,H5,I5,r5,y5,st5,fr5⟩=>?_)
  have I5':=I5.pinned (stat fr5) (T.obj _ _ st5)
  refine QW hp (thn (hg _ s5 σ3 H5 x u _ I5' r5 (step x H5 y5)) fun _ s6 ⟨σ6,H6,I6,q6⟩=>?_)
  refine QW hp (thn (hb _ s6 σ6 H6 _ I6 q6) fun f s7 q7=>?_)
  have again:∀ {σ7:St} {H7:Hp},Inv X (pins++ji fp s5.heap) σ7 H7 s7->N σ7 H7->∃ m,m<n/\∃ i σ' H',Inv X pins σ' H' s7/\tn i s7.heap/\(∀ b∈fp,H' b=none)/\W i m σ' H':=fun {σ7 H7} I7 n7=>by
   obtain ⟨m',hm,w7⟩:=hN σ7 H7 n7
   refine ⟨m',hm,i+1,σ7,H7,I7.unpinned,T.keep _ _ _ st5 fun b hb o e=>(I7.pin (b,o) (NZ _ (NZ _ (jr hb e)))).1,fun b hb=>?_,w7⟩
   obtain ⟨o,e,d⟩:=T.obj _ _ st5 b hb
   exact (I7.pin (b,o) (NZ _ (NZ _ (jr hb e)))).2.1
  cases f with
  | next=>obtain ⟨σ7,H7,I7,n7⟩:=q7; exact again I7 n7
  | cont=>obtain ⟨σ7,H7,I7,n7⟩:=q7; exact again I7 n7
  | brk=>obtain ⟨σ7,H7,I7,q7⟩:=q7; exact ⟨σ7,H7,I7.unpinned,q7⟩
  | ret v=>obtain ⟨x7,σ7,H7,I7,r7,q7⟩:=q7; exact ⟨x7,σ7,H7,I7.unpinned,r7,q7⟩
end
theorem cN {K:Nh} {a:Addr} {xs:List V} {g:TG} {tb:TS} {D:Ends} {σ:St} {H:Hp} (Pv:Nat->St->Hp->Prop) (h0:Pv 0 σ H) (hl:∀ i σ H,i<=xs.length->Pv i σ H->SqL K H a xs)
  (hs:∀ i x σ H,xs[i]?=some x->Pv i σ H->g x σ H fun σ2 H2=>tb { D with nx:=Pv (i+1),ct:=Pv (i+1),bk:=D.nx } σ2 H2) (hd:∀ σ H,Pv xs.length σ H->D.nx σ H) :
  ∃ W:Nat->Nat->St->Hp->Prop,(∃ m,W 0 m σ H)/\∀ i m σ H,W i m σ H ->
   ((Itl K a).stop i H/\D.nx σ H)∨((Itl K a).go i H/\∃ N:St->Hp->Prop,(∀ σ' H',N σ' H'->∃ m',m'<m/\W (i+1) m' σ' H')/\∀ x H',(Itl K a).yld i H x H'->g x σ H' fun σ2 H2=>tb { D with nx:=N,ct:=N,bk:=D.nx } σ2 H2):=by
 refine ⟨fun i m σ H=>m=xs.length-i/\i<=xs.length/\Pv i σ H,⟨xs.length,by simp,OD _,h0⟩,?_⟩
 rintro i m σ H ⟨rfl,hi,p⟩
 have q:=hl i σ H hi p
 by_cases hlt:i<xs.length
 ·refine .inr ⟨⟨xs,xs[i],q,by simp [hlt]⟩,Pv (i+1),fun σ' H' p'=>⟨xs.length-(i+1),by omega,rfl,hlt,p'⟩,fun x H' y=>?_⟩
  obtain ⟨e,y⟩:=y
  subst e
  exact hs i x σ _ (y xs q) p
 ·have e:i=xs.length:=by omega
  subst e
  exact .inl ⟨⟨xs,q,Nu _⟩,hd σ H p⟩
theorem pB {K:Nh} {a:Addr} {xs:List V} {g:TG} {tb:TS} {D:Ends} {σ:St} {H:Hp} (Pv:Nat->St->Hp->Prop) (h0:Pv 0 σ H) (hl:∀ i σ H,i<=xs.length->Pv i σ H->SqT K H a xs)
  (hs:∀ i x σ H,xs[i]?=some x->Pv i σ H->g x σ H fun σ2 H2=>tb { D with nx:=Pv (i+1),ct:=Pv (i+1),bk:=D.nx } σ2 H2) (hd:∀ σ H,Pv xs.length σ H->D.nx σ H) :
  ∃ W:Nat->Nat->St->Hp->Prop,(∃ m,W 0 m σ H)/\∀ i m σ H,W i m σ H ->
   ((Itt K a).stop i H/\D.nx σ H)∨((Itt K a).go i H/\∃ N:St->Hp->Prop,(∀ σ' H',N σ' H'->∃ m',m'<m/\W (i+1) m' σ' H')/\∀ x H',(Itt K a).yld i H x H'->g x σ H' fun σ2 H2=>tb { D with nx:=N,ct:=N,bk:=D.nx } σ2 H2):=by
 refine ⟨fun i m σ H=>m=xs.length-i/\i<=xs.length/\Pv i σ H,⟨xs.length,by simp,OD _,h0⟩,?_⟩
 rintro i m σ H ⟨rfl,hi,p⟩
 have q:=hl i σ H hi p
 by_cases hlt:i<xs.length
 ·refine .inr ⟨⟨xs,xs[i],q,by simp [hlt]⟩,Pv (i+1),fun σ' H' p'=>⟨xs.length-(i+1),by omega,rfl,hlt,p'⟩,fun x H' y=>?_⟩
  obtain ⟨e,y⟩:=y
  subst e
  exact hs i x σ _ (y xs q) p
 ·have e:i=xs.length:=by omega
  subst e
  exact .inl ⟨⟨xs,q,Nu _⟩,hd σ H p⟩
theorem gb {lo:Int} {n:Nat} {g:TG} {tb:TS} {D:Ends} {σ:St} {H:Hp} (Pv:Nat->St->Hp->Prop) (h0:Pv 0 σ H)
  (hs:∀ i σ H,i<n->Pv i σ H->g (.int (lo+i)) σ H fun σ2 H2=>tb { D with nx:=Pv (i+1),ct:=Pv (i+1),bk:=D.nx } σ2 H2) (hd:∀ σ H,Pv n σ H->D.nx σ H) :
  ∃ W:Nat->Nat->St->Hp->Prop,(∃ m,W 0 m σ H)/\∀ i m σ H,W i m σ H ->
   ((Itr lo n).stop i H/\D.nx σ H)∨((Itr lo n).go i H/\∃ N:St->Hp->Prop,(∀ σ' H',N σ' H'->∃ m',m'<m/\W (i+1) m' σ' H')/\∀ x H',(Itr lo n).yld i H x H'->g x σ H' fun σ2 H2=>tb { D with nx:=N,ct:=N,bk:=D.nx } σ2 H2):=by
 refine ⟨fun i m σ H=>m=n-i/\i<=n/\Pv i σ H,⟨n,by simp,OD _,h0⟩,?_⟩
 rintro i m σ H ⟨rfl,hi,p⟩
 by_cases hlt:i<n
 ·refine .inr ⟨hlt,Pv (i+1),fun σ' H' p'=>⟨n-(i+1),by omega,rfl,hlt,p'⟩,fun x H' y=>?_⟩
  obtain ⟨e,y⟩:=y
  subst e y
  exact hs i σ _ hlt p
 ·have e:i=n:=by omega
  subst e
  exact .inl ⟨Nu _,hd σ H p⟩
abbrev R2:=V->V->Hp->VK->Prop
def OpR (X:Cx) (f:Value->Value->Sem Value) (r:R2):Prop :=
 ∀ (pins:List (Addr×Obj)) (s:Shared) (σ:St) (H:Hp) (x y:V) (v u:Value) (Q:VK),Inv X pins σ H s->RelV x v->RelV y u->r x y H Q ->
  wpAny (model X.prog X.w) X.A (f v u) (EP X pins σ Q) X.xe s
def UnR (X:Cx) (f:Value->Sem Value) (r:V->Hp->VK->Prop):Prop :=
 ∀ (pins:List (Addr×Obj)) (s:Shared) (σ:St) (H:Hp) (x:V) (v:Value) (Q:VK),Inv X pins σ H s->RelV x v->r x H Q ->
  wpAny (model X.prog X.w) X.A (f v) (EP X pins σ Q) X.xe s
def CallR (X:Cx) (f:Value) (r:List V->Hp->VK->Prop):Prop :=
 ∀ (pins:List (Addr×Obj)) (s:Shared) (σ:St) (H:Hp) (xs:List V) (us:List Value) (Q:VK),Inv X pins σ H s->Vals xs us->r xs H Q ->
  wpAny (model X.prog X.w) X.A (call f us) (EP X pins σ Q) X.xe s
def TruR (X:Cx) (r:V->Hp->(Bool->Hp->Prop)->Prop):Prop :=
 ∀ (pins:List (Addr×Obj)) (s:Shared) (σ:St) (H:Hp) (x:V) (v:Value) (Q:Bool->Hp->Prop),Inv X pins σ H s->RelV x v->r x H Q ->
  wpAny (model X.prog X.w) X.A (truthy v) (TP X pins σ Q) X.xe s
def tOp (r:R2) (ta tb:TE):TE:=fun σ H Q=>ta σ H fun x H1=>tb σ H1 fun y H2=>r x y H2 Q
def tUn (r:V->Hp->VK->Prop) (ta:TE):TE:=fun σ H Q=>ta σ H fun x H1=>r x H1 Q
def rI (C:Int->Int->Prop) (g:Int->Int->V):R2:=fun x y H Q=>∃ i j,x=.int i/\y=.int j/\C i j/\Q (g i j) H
def rI0 (g:Int->Int->V):R2:=fun x y H Q=>∃ i j,x=.int i/\y=.int j/\Q (g i j) H
def rU (g:Int->V):V->Hp->VK->Prop:=fun x H Q=>∃ i,x=.int i/\Q (g i) H
section
variable {X:Cx} {a b c:Expr} {ta tb tc:TE} {pos:Pos}
theorem binT (ha:PE X a ta) (hb:PE X b tb) {pins:List (Addr×Obj)} {s:Shared} {σ:St} {H:Hp} {R:V->V->Hp->Prop} (I:Inv X pins σ H s)
  (h:ta σ H fun x H1=>tb σ H1 fun y H2=>R x y H2) {Q:Value->Shared->Prop} {f:Value->Value->Sem Value}
  (hf:∀ v u s2 x y H2,Inv X pins σ H2 s2->RelV x v->RelV y u->R x y H2->wpAny (model X.prog X.w) X.A (f v u) Q X.xe s2) :
  wpAny (model X.prog X.w) X.A (eval a X.env) (fun v s₁=>wpAny (model X.prog X.w) X.A (eval b X.env) (fun u s₂=>wpAny (model X.prog X.w) X.A (f v u) Q X.xe s₂) X.xe s₁) X.xe s:=by
 refine thn (ha pins s σ H _ I h) fun v s1 ⟨x,H1,I1,r1,q1⟩=>?_
 refine thn (hb pins s1 σ H1 _ I1 q1) fun u s2 ⟨y,H2,I2,r2,q2⟩=>?_
 exact hf v u s2 x y H2 I2 r1 r2 q2
theorem aG {op:Operator} {r:R2} (ho:OpR X (binaryOp op) r) (ha:PE X a ta) (hb:PE X b tb):PE X (.BinOp a op b pos) (tOp r ta tb):=by
 intro pins s σ H Q I h
 exact wpAny_BinOp (binT ha hb I h fun v u s2 x y H2 I2 rx ry q=>ho pins s2 σ H2 x y v u Q I2 rx ry q)
theorem jM {op:UnaryOp} {r:V->Hp->VK->Prop} (ho:UnR X (unaryOp op) r) (ha:PE X a ta):PE X (.UnaryOp op a pos) (tUn r ta):=by
 intro pins s σ H Q I h
 exact UnaryOp_ (thn (ha pins s σ H _ I h) fun v s1 ⟨x,H1,I1,r1,q1⟩=>ho pins s1 σ H1 x v Q I1 r1 q1)
theorem opI {f:Value->Value->Sem Value} {C:Int->Int->Prop} {g:Int->Int->Int}
  (rule:∀ (i j:Int) (t u:Tok) (s:Shared) (Q:Value->Shared->Prop) (E:Value->Shared->Prop),C i j->Q (.int (g i j) s.toks) { s with toks:=s.toks+1 }->wpAny (model X.prog X.w) X.A (f (.int i t) (.int j u)) Q E s) :
  OpR X f (rI C fun i j=>.int (g i j)):=by
 intro pins s σ H x y v u Q I rx ry h
 obtain ⟨i,j,rfl,rfl,hc,q⟩:=h
 obtain ⟨t,rfl⟩:=rx
 obtain ⟨t',rfl⟩:=ry
 exact rule i j t t' s _ _ hc ⟨.int (g i j),H,I.tok _,⟨_,rfl⟩,q⟩
theorem opI0 {f:Value->Value->Sem Value} {g:Int->Int->Int}
  (rule:∀ (i j:Int) (t u:Tok) (s:Shared) (Q:Value->Shared->Prop) (E:Value->Shared->Prop),Q (.int (g i j) s.toks) { s with toks:=s.toks+1 }->wpAny (model X.prog X.w) X.A (f (.int i t) (.int j u)) Q E s) :
  OpR X f (rI0 fun i j=>.int (g i j)):=by
 intro pins s σ H x y v u Q I rx ry h
 obtain ⟨i,j,rfl,rfl,q⟩:=h
 obtain ⟨t,rfl⟩:=rx
 obtain ⟨t',rfl⟩:=ry
 exact rule i j t t' s _ _ ⟨.int (g i j),H,I.tok _,⟨_,rfl⟩,q⟩
theorem opB0 {f:Value->Value->Sem Value} {g:Int->Int->Bool}
  (rule:∀ (i j:Int) (t u:Tok) (s:Shared) (Q:Value->Shared->Prop) (E:Value->Shared->Prop),Q (.bool (g i j)) s->wpAny (model X.prog X.w) X.A (f (.int i t) (.int j u)) Q E s) :
  OpR X f (rI0 fun i j=>.bl (g i j)):=by
 intro pins s σ H x y v u Q I rx ry h
 obtain ⟨i,j,rfl,rfl,q⟩:=h
 obtain ⟨t,rfl⟩:=rx
 obtain ⟨t',rfl⟩:=ry
 exact rule i j t t' s _ _ ⟨.bl (g i j),H,I,rfl,q⟩
def CDiv (i j:Int):Prop:=0<j/\j<1073741824
def CPow (i j:Int):Prop:=0<=j/\j<=1000000/\i.natAbs<2 ^ 64
def CMul (i j:Int):Prop:=(-(2 ^ 64)<i/\i<2 ^ 64)∨(-(2 ^ 64)<j/\j<2 ^ 64)
theorem CMul.ok {i j:Int} (h:CMul i j):IntMulOk i j:=by
 rcases h with ⟨h1,h2⟩ | ⟨h1,h2⟩
 ·exact .of_left (intBits_le_64 h1 h2)
 ·exact .of_right (intBits_le_64 h1 h2)
theorem bW:OpR X (binaryOp .Add) (rI0 fun i j=>.int (i+j)):=opI0 fun _ _ _ _ _ _ _ q=>add_int q
theorem yL:OpR X (binaryOp .Sub) (rI0 fun i j=>.int (i-j)):=opI0 fun _ _ _ _ _ _ _ q=>sub_int q
theorem fZ:OpR X (binaryOp .Mult) (rI CMul fun i j=>.int (i*j)):=opI fun _ _ _ _ _ _ _ hc q=>mul_int q hc.ok
theorem dD:OpR X (binaryOp .FloorDiv) (rI CDiv fun i j=>.int (i / j)):=opI fun i j _ _ _ _ _ hc q=>by
 have h1:(0:Int)<j:=hc.1
 have h2:j<1073741824:=hc.2
 exact floordiv_int (by omega) (by rw [Int.fdiv_eq_ediv_of_nonneg i (by omega)]; exact q) (.inl (PyProof.noPylong_small (by omega)))
theorem bw:OpR X (binaryOp .Mod) (rI (fun _ j=>0<j) fun i j=>.int (i % j)):=opI fun i j _ _ _ _ _ hc q=>by
 have h1:(0:Int)<j:=hc
 exact mod_int' (by omega) (by rw [Int.fmod_eq_emod_of_nonneg i (by omega)]; exact q)
theorem yJ:OpR X (binaryOp .Pow) (rI CPow fun i j=>.int (i ^ j.toNat)):=opI fun _ _ _ _ _ _ _ hc q=>pow_int_small hc.1 hc.2.1 hc.2.2 q
theorem unI {f:Value->Sem Value} {g:Int->Int}
  (rule:∀ (i:Int) (t:Tok) (s:Shared) (Q:Value->Shared->Prop) (E:Value->Shared->Prop),Q (.int (g i) s.toks) { s with toks:=s.toks+1 }->wpAny (model X.prog X.w) X.A (f (.int i t)) Q E s) :
  UnR X f (rU fun i=>.int (g i)):=by
 intro pins s σ H x v Q I rx h
 obtain ⟨i,rfl,q⟩:=h
 obtain ⟨t,rfl⟩:=rx
 exact rule i t s _ _ ⟨.int (g i),H,I.tok _,⟨_,rfl⟩,q⟩
theorem gW:UnR X (unaryOp .USub) (rU fun i=>.int (-i)):=unI fun _ _ _ _ _ q=>neg_int q
end
def scal:V->V->Bool
 | .non,.non=>true | .non,.int _=>true | .int _,.non=>true | .non,.bl _=>true | .bl _,.non=>true | .non,.str _=>true | .str _,.non=>true
 | .int _,.int _=>true | .bl _,.bl _=>true | .str _,.str _=>true | .byt _,.byt _=>true
 | .int _,.str _=>true | .str _,.int _=>true | .bl _,.str _=>true | .str _,.bl _=>true
 | _,_=>false
def rEq:R2:=fun x y H Q=>scal x y=true/\Q (.bl (decide (x=y))) H
def rNe:R2:=fun x y H Q=>scal x y=true/\Q (.bl (!decide (x=y))) H
theorem Ak {i j:Int}:decide (V.int i=V.int j)=(i==j):=by
 rw [Bool.eq_iff_iff]
 simp
theorem Dc {i j:Bool}:decide (V.bl i=V.bl j)=(i==j):=by
 rw [Bool.eq_iff_iff]
 simp
theorem za {i j:Str}:decide (V.str i=V.str j)=(i==j):=by
 rw [Bool.eq_iff_iff]
 simp
theorem zG {i j:Array UInt8}:decide (V.byt i=V.byt j)=(i.toList==j.toList):=by
 rw [Bool.eq_iff_iff]
 cases i
 cases j
 simp
section
variable {X:Cx} {a b c:Expr} {ta tb tc:TE} {pos:Pos}
theorem bT {pins:List (Addr×Obj)} {σ:St} {H:Hp} {s:Shared} {Q:VK} {k k':Bool} (I:Inv X pins σ H s) (q:Q (.bl k) H) (e:k=k'):EP X pins σ Q (.bool k') s:=by
 subst e
 exact ⟨.bl k,H,I,rfl,q⟩
theorem eG:OpR X (compareOp .Eq) rEq:=by
 intro pins s σ H x y v u Q I rx ry h
 obtain ⟨hs,q⟩:=h
 cases x with
 | non =>
  cases rx
  cases y with
  | non=>cases ry; exact PySem.EqNone.eq_none_none (bT I q (by simp))
  | bl j=>cases ry; exact PySem.EqNone.eq_none_bool (bT I q (by simp))
  | int j=>obtain ⟨t',rfl⟩:=ry; exact PySem.EqNone.eq_none_int (bT I q (by simp))
  | str j=>obtain ⟨t',rfl⟩:=ry; exact PySem.EqNone.eq_none_str (bT I q (by simp))
  | _=>exact absurd (show false=true from hs) Oz
 | bl i =>
  cases rx
  cases y with
  | non=>cases ry; exact PySem.EqNone.eq_bool_none (bT I q (by simp))
  | bl j=>cases ry; exact eq_bool (bT I q Dc)
  | str j=>obtain ⟨t',rfl⟩:=ry; exact PySem.EqMixed.eq_bool_str (bT I q (by simp))
  | _=>exact absurd (show false=true from hs) Oz
 | int i =>
  obtain ⟨t,rfl⟩:=rx
  cases y with
  | non=>cases ry; exact PySem.EqNone.eq_int_none (bT I q (by simp))
  | int j=>obtain ⟨t',rfl⟩:=ry; exact eq_int (bT I q Ak)
  | str j=>obtain ⟨t',rfl⟩:=ry; exact PySem.EqMixed.eq_int_str (bT I q (by simp))
  | _=>exact absurd (show false=true from hs) Oz
 | str i =>
  obtain ⟨t,rfl⟩:=rx
  cases y with
  | non=>cases ry; exact PySem.EqNone.eq_str_none (bT I q (by simp))
  | bl j=>cases ry; exact PySem.EqMixed.eq_str_bool (bT I q (by simp))
  | int j=>obtain ⟨t',rfl⟩:=ry; exact PySem.EqMixed.eq_str_int (bT I q (by simp))
  | str j=>obtain ⟨t',rfl⟩:=ry; exact eq_str (bT I q za)
  | _=>exact absurd (show false=true from hs) Oz
 | byt i =>
  obtain ⟨t,rfl⟩:=rx
  cases y with
  | byt j=>obtain ⟨t',rfl⟩:=ry; exact PySem.W.eq_bytes (bT I q zG)
  | _=>exact absurd (show false=true from hs) Oz
 | _=>cases y <;> exact absurd (show false=true from hs) Oz
theorem Jv:OpR X (compareOp .NotEq) rNe:=by
 intro pins s σ H x y v u Q I rx ry h
 obtain ⟨hs,q⟩:=h
 cases x with
 | non =>
  cases rx
  cases y with
  | non=>cases ry; exact PySem.EqNone.ne_none_none (bT I q (by simp))
  | bl j=>cases ry; exact PySem.EqNone.ne_none_bool (bT I q (by simp))
  | int j=>obtain ⟨t',rfl⟩:=ry; exact PySem.EqNone.ne_none_int (bT I q (by simp))
  | str j=>obtain ⟨t',rfl⟩:=ry; exact PySem.EqNone.ne_none_str (bT I q (by simp))
  | _=>exact absurd (show false=true from hs) Oz
 | bl i =>
  cases rx
  cases y with
  | non=>cases ry; exact PySem.EqNone.ne_bool_none (bT I q (by simp))
  | bl j=>cases ry; exact ne_bool (bT I q (congrArg not Dc))
  | str j=>obtain ⟨t',rfl⟩:=ry; exact Xa (bT I q (by simp))
  | _=>exact absurd (show false=true from hs) Oz
 | int i =>
  obtain ⟨t,rfl⟩:=rx
  cases y with
  | non=>cases ry; exact PySem.EqNone.ne_int_none (bT I q (by simp))
  | int j=>obtain ⟨t',rfl⟩:=ry; exact ne_int (bT I q (congrArg not Ak))
  | str j=>obtain ⟨t',rfl⟩:=ry; exact Xe (bT I q (by simp))
  | _=>exact absurd (show false=true from hs) Oz
 | str i =>
  obtain ⟨t,rfl⟩:=rx
  cases y with
  | non=>cases ry; exact PySem.EqNone.ne_str_none (bT I q (by simp))
  | bl j=>cases ry; exact Xb (bT I q (by simp))
  | int j=>obtain ⟨t',rfl⟩:=ry; exact Xf (bT I q (by simp))
  | str j=>obtain ⟨t',rfl⟩:=ry; exact ne_str (bT I q (congrArg not za))
  | _=>exact absurd (show false=true from hs) Oz
 | byt i =>
  obtain ⟨t,rfl⟩:=rx
  cases y with
  | byt j=>obtain ⟨t',rfl⟩:=ry; exact PySem.W.ne_bytes (bT I q (congrArg not zG))
  | _=>exact absurd (show false=true from hs) Oz
 | _=>cases y <;> exact absurd (show false=true from hs) Oz
theorem qe:OpR X (compareOp .Lt) (rI0 fun i j=>.bl (decide (i<j))):=opB0 fun _ _ _ _ _ _ _ q=>lt_int q
theorem GJ:OpR X (compareOp .LtE) (rI0 fun i j=>.bl (decide (i<=j))):=opB0 fun _ _ _ _ _ _ _ q=>le_int q
theorem uh:OpR X (compareOp .Gt) (rI0 fun i j=>.bl (decide (j<i))):=opB0 fun _ _ _ _ _ _ _ q=>gt_int q
theorem Bx:OpR X (compareOp .In) (fun x y H Q=>∃ i j,x=.str i/\y=.str j/\Q (.bl (!(Builtin.Str.occurrences j i 0 j.length 1).isEmpty)) H):=by
 intro pins s σ H x y v u Q I rx ry h
 obtain ⟨i,j,rfl,rfl,q⟩:=h
 obtain ⟨t,rfl⟩:=rx
 obtain ⟨t',rfl⟩:=ry
 exact in_str (bT I q rfl)
theorem Jb:OpR X (compareOp .IsNot) (fun x y H Q=>y=.non/\Q (.bl (!decide (x=.non))) H):=by
 intro pins s σ H x y v u Q I rx ry h
 obtain ⟨rfl,q⟩:=h
 cases ry
 refine isnot_none_gen (bT I q ?_)
 cases x <;> first
  | (cases rx; rfl)
  | (obtain ⟨t,rfl⟩:=rx; rfl)
theorem OpR.or {f:Value->Value->Sem Value} {r r':R2} (h:OpR X f r) (h':OpR X f r'):OpR X f (fun x y H Q=>r x y H Q∨r' x y H Q):=by
 intro pins s σ H x y v u Q I rx ry q
 rcases q with q | q
 ·exact h pins s σ H x y v u Q I rx ry q
 ·exact h' pins s σ H x y v u Q I rx ry q
theorem bD (b:Expr) {op:CmpOp} (h:op≠.In:=by decide) (h2:op≠.NotIn:=by decide):behindInMarks op b=false:=by
 have e1:(op==CmpOp.In)=false:=by cases op <;> first | rfl | exact absurd rfl h
 have e2:(op==CmpOp.NotIn)=false:=by cases op <;> first | rfl | exact absurd rfl h2
 cases b <;> simp [behindInMarks,e1,e2]
theorem o8 {op:CmpOp} {r:R2} (ho:OpR X (compareOp op) r) (ha:PE X a ta) (hb:PE X b tb) (hm:behindInMarks op b=false):PE X (.Compare a [op] [b] pos) (tOp r ta tb):=by
 intro pins s σ H Q I h
 exact wpAny_Compare1 (binT ha hb I h fun v u s2 x y H2 I2 rx ry q=>ho pins s2 σ H2 x y v u Q I2 rx ry q) hm
def Jt (t:TE):TT:=fun σ H Q=>t σ H fun x H'=>∃ k,x=.bl k/\Q k H'
theorem aN {op:CmpOp} {r:R2} (ho:OpR X (compareOp op) r) (ha:PE X a ta) (hb:PE X b tb) (hm:behindInMarks op b=false):PT X (.Compare a [op] [b] pos) (Jt (tOp r ta tb)):=by
 intro pins s σ H Q I h
 refine Vd (thn (ha pins s σ H _ I h) fun v s1 ⟨x,H1,I1,r1,q1⟩=>thn (hb pins s1 σ H1 _ I1 q1) fun u s2 ⟨y,H2,I2,r2,q2⟩ =>
  thn (ho pins s2 σ H2 x y v u _ I2 r1 r2 q2) fun c s3 ⟨z,H3,I3,r3,k,e,q3⟩=>?_) hm
 subst e
 cases r3
 exact Qd ⟨H3,I3,q3⟩
def KZ (r r':R2) (ta tb tc:TE):TE:=fun σ H Q=>ta σ H fun x H1=>tb σ H1 fun y H2=>r x y H2 fun z H3=>∃ k,z=.bl k /\
 (if k=true then tc σ H3 fun w' H4=>r' y w' H4 Q else Q (.bl false) H3)
theorem Eb {op op':CmpOp} {r r':R2} (ho:OpR X (compareOp op) r) (ho':OpR X (compareOp op') r') (ha:PE X a ta) (hb:PE X b tb) (hc:PE X c tc)
  (hm:lastMarks [op,op'] [b,c]=false:=by with_unfolding_all rfl):PT X (.Compare a [op,op'] [b,c] pos) (Jt (KZ r r' ta tb tc)):=by
 intro pins s σ H Q I h
 refine isTrue_chain (thn (ha pins s σ H _ I h) fun v s1 ⟨x,H1,I1,r1,q1⟩=>test_link (thn (hb pins s1 σ H1 _ I1 q1) fun u s2 ⟨y,H2,I2,r2,q2⟩ =>
  thn (ho pins s2 σ H2 x y v u _ I2 r1 r2 q2) fun d s3 ⟨z,H3,I3,r3,k,e,q3⟩=>?_)) hm
 subst e
 cases r3
 refine Qd ?_
 cases k with
 | false =>
  obtain ⟨k',e',q'⟩:=q3
  cases e'
  exact ite_ff ⟨H3,I3,q'⟩
 | true =>
  refine ite_tt (test_last (thn (hc pins s3 σ H3 _ I3 q3) fun w' s4 ⟨z',H4,I4,r4,q4⟩=>thn (ho' pins s4 σ H4 y z' u w' _ I4 r2 r4 q4) fun d' s5 ⟨z2,H5,I5,r5,k2,e2,q5⟩=>?_))
  subst e2
  cases r5
  exact Qd ⟨H5,I5,q5⟩
def TruV (K:Nh) (x:V) (H:Hp) (k:Bool):Prop :=
 match x with
 | .non=>k=false
 | .bl b=>k=b
 | .int i=>k=(i != 0)
 | .str y=>y.length<=sizeLine/\k=((y.length:Int) != 0)
 | .byt y=>y.size<=sizeLine/\k=((y.size:Int) != 0)
 | .ref p=>(∃ xs,SqL K H p xs/\k = !xs.isEmpty)∨(∃ xs,SqT K H p xs/\k = !xs.isEmpty)∨∃ kvs,H p=some (.dK kvs)/\k = !kvs.isEmpty
 | _=>False
theorem yC {κ:Type} {kvs:List (κ×V)} {vs:List (κ×Value)} (r:KV kvs vs):(!vs.isEmpty) = !kvs.isEmpty:=by
 cases r <;> rfl
theorem qz {xs:List V} {its:List Value} (r:Vals xs its):(!its.toArray.isEmpty) = !xs.isEmpty:=by
 cases r <;> simp
theorem nG:(sizeLine:Nat)<2 ^ 63:=by rw [Te]; decide
theorem JL:TruR X (fun x H Q=>∃ k,TruV X.K x H k/\Q k H):=by
 intro pins s σ H x v Q I rx h
 obtain ⟨k,e,q⟩:=h
 have hl:=nG
 have hs:sizeLine=16777216:=Te
 cases x with
 | non =>
  cases rx
  have e':k=false:=e
  subst e'
  exact truthy_none ⟨H,I,q⟩
 | bl b =>
  cases rx
  have e':k=b:=e
  subst e'
  exact Qd ⟨H,I,q⟩
 | int i =>
  obtain ⟨t,rfl⟩:=rx
  have e':k=(i != 0):=e
  subst e'
  exact PySem.P.truthy_int ⟨H,I,q⟩
 | str y =>
  obtain ⟨t,rfl⟩:=rx
  obtain ⟨hy,e'⟩:y.length<=sizeLine/\k=((y.length:Int) != 0):=e
  subst e'
  exact PySem.P.truthy_str (by omega) ⟨H,I.tok _,q⟩
 | byt y =>
  obtain ⟨t,rfl⟩:=rx
  obtain ⟨hy,e'⟩:y.size<=sizeLine/\k=((y.size:Int) != 0):=e
  subst e'
  exact PySem.W.truthy_bytes (by omega) ⟨H,I.tok _,q⟩
 | ref p =>
  cases rx
  have e':(∃ xs,SqL X.K H p xs/\k = !xs.isEmpty)∨(∃ xs,SqT X.K H p xs/\k = !xs.isEmpty)∨∃ kvs,H p=some (.dK kvs)/\k = !kvs.isEmpty:=e
  rcases e' with ⟨xs,hx,e'⟩ | ⟨xs,hx,e'⟩ | ⟨kvs,hx,e'⟩
  ·subst e'
   obtain ⟨its,r,pl,hz⟩:=I.list hx
   have hlen:=r.length
   exact wpAny_truthy_list pl.isList (by simp only [N5]; omega) ⟨H,I.tok _,by rw [qz r]; exact q⟩
  ·subst e'
   obtain ⟨its,r,pl,hz⟩:=I.tuple hx
   have hlen:=r.length
   exact truthy_tuple pl (by simp only [N5]; omega) ⟨H,I.tok _,by rw [qz r]; exact q⟩
  ·subst e'
   obtain ⟨hz,hS,vs,r,m⟩:kvs.length<=sizeLine/\(p==sysModules)=false/\∃ vs,KV kvs vs/\s.heap.DictOf (bU X.prog X.w) p vs:=I.hok p _ hx
   have hlen:kvs.length=vs.length:=Paired.length r
   exact wpAny_truthy_dict hS m (by omega) ⟨H,I.tok _,by rw [yC r]; exact q⟩
 | _=>exact (show False from e).elim
theorem Gr (ha:PE X a ta) (he:∀ whole,isTrue a X.env whole=(do let v<-whole; standAt a.pos; holding [v] (truthy v))) :
  PT X a (fun σ H Q=>ta σ H fun x H'=>∃ k,TruV X.K x H' k/\Q k H'):=by
 intro pins s σ H Q I h
 exact isTrue_plain (thn (ha pins s σ H _ I h) fun v s1 ⟨x,H1,I1,r1,q1⟩=>JL pins s1 σ H1 x v Q I1 r1 q1) (he _)
theorem gQ:OpR X (binaryOp .Add) (fun x y H Q=>∃ i j,x=.str i/\y=.str j/\i.length+j.length<=sizeLine/\Q (.str (i++j)) H):=by
 intro pins s σ H x y v u Q I rx ry h
 obtain ⟨i,j,rfl,rfl,hz,q⟩:=h
 obtain ⟨t,rfl⟩:=rx
 obtain ⟨t',rfl⟩:=ry
 exact add_str (fun t' tk=>⟨.str (i++j),H,I.tok _,⟨_,rfl⟩,q⟩) hz
theorem vals1 {x:V} {us:List Value} (r:Vals [x] us):∃ u,us=[u]/\RelV x u:=by
 cases r with
 | cons r1 r2=>cases r2; exact ⟨_,rfl,r1⟩
theorem vals2 {x y:V} {us:List Value} (r:Vals [x,y] us):∃ u w',us=[u,w']/\RelV x u/\RelV y w':=by
 cases r with
 | cons r1 r2 =>
  cases r2 with
  | cons r3 r4=>cases r4; exact ⟨_,_,rfl,r1,r3⟩
theorem sU (hc:X.calm=true):CallR X (.builtin "max") (fun xs H Q=>∃ i j,xs=[.int i,.int j]/\Q (.int (if j>i then j else i)) H):=by
 intro pins s σ H xs us Q I r h
 obtain ⟨i,j,rfl,q⟩:=h
 obtain ⟨u,w',rfl,⟨t,rfl⟩,⟨t',rfl⟩⟩:=vals2 r
 refine max_two_ints (I.ok.hd hc) fun h' tk k=>⟨_,H,I.kept k,?_,q⟩
 by_cases hj:j>i
 ·rw [if_pos hj,if_pos hj]; exact ⟨_,rfl⟩
 ·rw [if_neg hj,if_neg hj]; exact ⟨_,rfl⟩
theorem sI (hc:X.calm=true):CallR X (.builtin "min") (fun xs H Q=>∃ i j,xs=[.int i,.int j]/\Q (.int (if j<i then j else i)) H):=by
 intro pins s σ H xs us Q I r h
 obtain ⟨i,j,rfl,q⟩:=h
 obtain ⟨u,w',rfl,⟨t,rfl⟩,⟨t',rfl⟩⟩:=vals2 r
 refine min_two_ints (I.ok.hd hc) fun h' tk k=>⟨_,H,I.kept k,?_,q⟩
 by_cases hj:j<i
 ·rw [if_pos hj,if_pos hj]; exact ⟨_,rfl⟩
 ·rw [if_neg hj,if_neg hj]; exact ⟨_,rfl⟩
theorem sV:CallR X (.type "int") (fun xs H Q=>(∃ i,xs=[.int i]/\Q (.int i) H)∨∃ k,xs=[.bl k]/\Q (.int (if k then 1 else 0)) H):=by
 intro pins s σ H xs us Q I r h
 rcases h with ⟨i,rfl,q⟩ | ⟨k,rfl,q⟩
 ·obtain ⟨u,rfl,t,rfl⟩:=vals1 r
  exact call_int_int ⟨.int i,H,I,⟨_,rfl⟩,q⟩
 ·obtain ⟨u,rfl,r1⟩:=vals1 r
  cases r1
  exact call_int_bool ⟨.int (if k then 1 else 0),H,I.tok _,⟨_,rfl⟩,q⟩
end
structure ObjM (h:Heap) (x dx C:Addr) (mA:Str->Option Value):Prop where
 obj:h.get? x=some (PySem.W.instObj C dx)
 ns:h.Ns1 dx mA
 ne:dx≠x
theorem Bt {h:Heap} {dx:Addr} {mA:Str->Option Value} (n:h.Ns1 dx mA):∃ od,h.get? dx=some od/\∀ name,PySem.W.lookIn name od=some (mA name):=by
 obtain ⟨o,es,ep,ho,hd,hk,_,hm⟩:=n
 refine ⟨o,ho,fun name=>?_⟩
 have e:=hm name
 unfold nsFind findBy at e
 rw [<- Array.find?_toList] at e
 unfold PySem.W.lookIn
 rw [hd]
 dsimp only
 split
 ·rename_i y q
  rw [q] at e
  exact congrArg some e
 ·rename_i q
  rw [q] at e
  have a:es.toList.any (·.refKey)=false:=by
   rw [List.any_eq_false]
   intro y hy
   obtain ⟨z,t,hkey⟩:=hk y (Array.mem_toList_iff.mp hy)
   simp [DictEntry.refKey,hkey]
  have a':¬ es.toList.any (·.refKey)=true:=by rw [a]; exact Oz
  rw [if_neg a']
  exact congrArg some e
theorem ObjM.look {h:Heap} {x dx C:Addr} {mA:Str->Option Value} (I:ObjM h x dx C mA):∃ od,PySem.W.InstAt h x (PySem.W.instObj C dx) C (some od)/\∀ name,PySem.W.lookIn name od=some (mA name) :=
 let ⟨od,ho,hl⟩:=Bt I.ns
 ⟨od,⟨I.obj,rfl,rfl,ho⟩,hl⟩
section
variable {prog:Program} {w:World} {A:Around} {E:Value->Shared->Prop} {s:Shared} {K:Nh} {x dx C f:Addr} {mA:Str->Option Value} {name:Str} {v:Value}
theorem get_map {expr:Bool} {Q:Value->Shared->Prop} (X:K.In s.heap) (I:ObjM s.heap x dx C mA) (hg:PySem.W.plainGet K C name=true) (hh:PySem.W.hasDictIn K C=true)
  (ha:PySem.W.findIn K (.ref C) name=some none) (hv:mA name=some v) (hv':PySem.W.handedIn v=true) (h:Q v { s with toks:=s.toks+1 }) :
  wpAny (model prog w) A (getAttr (.ref x) name expr) Q E s:=by
 obtain ⟨od,J,hl⟩:=I.look
 exact PySem.W.get_value X J (Tf hg).1 (PySem.W.findObj_own hh ha rfl (by rw [hl,hv])) hv' h
theorem Dz {pl:Sem Bool} {Q:Value×List Value->Shared->Prop} (X:K.In s.heap) (I:ObjM s.heap x dx C mA) (hg:PySem.W.plainGet K C name=true)
  (hf:PySem.W.findIn K (.ref C) name=some (some (.ref f))) (ht:PySem.W.isFn K (.ref f)=true) (hv:mA name=none) (h:Q (.ref f,[.ref x]) s) :
  wpAny (model prog w) A (getMethod (.ref x) name pl) Q E s:=by
 obtain ⟨od,J,hl⟩:=I.look
 exact PySem.W.method_fn X J (Tf hg).1 (Tf hg).2 hf (beq_iff_eq.mp ht) (by show (PySem.W.lookIn name od).map (·.isSome)=some false; rw [hl,hv]; rfl) h
theorem Ib {ns:List Str} {Q:Unit->Shared->Prop} (X:K.In s.heap) (I:ObjM s.heap x dx C mA)
  (hs:PySem.W.findIn K (.ref C) "__setattr__"=some (some (.builtin "object.__setattr__"))) (hp:PySem.W.plainOver K C=true) (ht:PySem.W.takerIn K C name=some none) (hh:PySem.W.hasDictIn K C=true)
  (hw:PySem.Within mA ns) (hsz:ns.length<=sizeLine)
  (h:∀ h',ObjM h' x dx C (fun y=>if y=name then some v else mA y)->Heap.SameBut dx s.heap h'->Q () { s with heap:=h',toks:=s.toks+2 }) :
  wpAny (model prog w) A (setAttr (.ref x) name v) Q E s:=by
 obtain ⟨od,J,hl⟩:=I.look
 refine PySem.W.set_plain X J hs (PySem.W.osa_open (s:={ s with toks:=s.toks+1 }) (r:=none) X J hp ht fun b=>?_)
 obtain ⟨cd,hc,hd'⟩:=PySem.W.any_some hh
 have hx:s.heap.get? x=some ⟨.ref C,some dx,.plain,#[]⟩:=I.obj
 refine Nf (Ni (Nf (Nf (SJ hx (Nf (PySem.W.Looks.here (s:={ s with toks:=s.toks+1 }) (PySem.W.looks_clsIn X hc) ?_))))))
 rw [hd']
 refine Ni (a:=some dx) (Nf (Ni (Nf ?_)))
 refine wpAny_nsSet1 (s:={ s with toks:=s.toks+1 }) I.ns fun h' hn2 hs2=>?_
 obtain ⟨oD,esD,epD,hoD,hdD,hcD⟩:=hn2.count (PySem.Within.cons name v hw)
 refine Nf (wpAny_lookBehind hoD (by rw [hdD]; exact pastItsLine_dict (OJ hcD (by rw [Oj]; omega))) ?_)
 exact Ni (h _ ⟨(hs2.2 _ (Ne.symm I.ne)).trans I.obj,hn2,I.ne⟩ hs2)
theorem CQ {R:Result->Shared->Prop} {vs:List Value} {kw:List (Str×Value)} (X:K.In s.heap) (hm:PySem.W.makesIn K C=true)
  (hi:PySem.W.findIn K (.ref C) "__init__"=some (some (.ref f))) (hf:PySem.W.typeIn K (.ref f)=some (.type "function"))
  (h:codeAny (model prog w) (A.under (.builtin "type.__call__" ⟨.ref C::vs,kw⟩)) (.call (.ref f) ⟨.ref (s.heap.objs.size+1)::vs,kw⟩) (PySem.W.InitBack (s.heap.objs.size+1) R)
   { s with heap:=(s.heap.push PySem.W.emptyDict).push (PySem.W.instObj C s.heap.objs.size) }) :
  codeAny (model prog w) A (.call (.ref C) ⟨vs,kw⟩) R s:=by
 obtain ⟨hh,g,d,t,os⟩:=s
 exact PySem.W.make_core (PySem.W.makes_of X hm) (QC X hi) (fun self=>WQ X self hf) (.inl rfl) h
end
def putF (f:Str) (v:V):List (Str×V)->List (Str×V)
 | []=>[(f,v)]
 | (g,x)::r=>if g=f then (g,v)::r else (g,x)::putF f v r
theorem oE (f g:Str) (v:V):∀ fs:List (Str×V),(putF f v fs).lookup g=if g=f then some v else fs.lookup g
 | []=>by
  show List.lookup g [(f,v)]=_
  by_cases h:g=f
  ·have hb:(g==f)=true:=beq_iff_eq.mpr h
   simp only [List.lookup,hb,if_pos h]
  ·have hb:(g==f)=false:=beq_eq_false_iff_ne.mpr h
   simp only [List.lookup,hb,if_neg h]
 | (k,x)::r=>by
  have ih:=oE f g v r
  rw [show putF f v ((k,x)::r)=(if k=f then (k,v)::r else (k,x)::putF f v r) from rfl]
  by_cases hk:k=f
  ·rw [if_pos hk]
   by_cases h:g=k
   ·have hb:(g==k)=true:=beq_iff_eq.mpr h
    simp only [List.lookup,hb,if_pos (h.trans hk)]
   ·have hb:(g==k)=false:=beq_eq_false_iff_ne.mpr h
    simp only [List.lookup,hb,if_neg (fun e:g=f=>h (e.trans hk.symm))]
  ·rw [if_neg hk]
   by_cases h:g=k
   ·have hb:(g==k)=true:=beq_iff_eq.mpr h
    simp only [List.lookup,hb,if_neg (fun e:g=f=>hk (h.symm.trans e))]
   ·have hb:(g==k)=false:=beq_eq_false_iff_ne.mpr h
    simp only [List.lookup,hb]
    exact ih
theorem nC (f:Str) (v:V):∀ fs:List (Str×V),f∈(putF f v fs).map (·.1)/\∀ g,g∈fs.map (·.1)->g∈(putF f v fs).map (·.1)
 | []=>⟨by simp [putF],fun g h=>by simp at h⟩
 | (k,x)::r=>by
  obtain ⟨i1,i2⟩:=nC f v r
  rw [show putF f v ((k,x)::r)=(if k=f then (k,v)::r else (k,x)::putF f v r) from rfl]
  by_cases hk:k=f
  ·rw [if_pos hk]
   subst hk
   exact ⟨by simp,fun g h=>by simpa using h⟩
  ·rw [if_neg hk]
   refine ⟨?_,fun g h=>?_⟩
   ·rw [Ow]
    exact Nt _ i1
   ·rw [Ow] at h ⊢
    rcases NT.mp h with e | e
    ·exact NT.mpr (.inl e)
    ·exact Nt _ (i2 g e)
theorem n8 (f:Str) (v:V):∀ fs:List (Str×V),(putF f v fs).length<=fs.length+1
 | []=>by simp [putF]
 | (k,x)::r=>by
  have ih:=n8 f v r
  rw [show putF f v ((k,x)::r)=(if k=f then (k,v)::r else (k,x)::putF f v r) from rfl]
  by_cases hk:k=f
  ·rw [if_pos hk,Oj,Oj]; omega
  ·rw [if_neg hk,Oj,Oj]; omega
theorem RelO.some_of {v:V} {o:Option Value} (r:RelO (some v) o):∃ u,o=some u/\RelV v u:=by
 cases o with
 | none=>exact (show False from r).elim
 | some u=>exact ⟨u,rfl,r⟩
theorem RelO.none_of {o:Option Value} (r:RelO none o):o=none:=by
 cases o with
 | none=>rfl
 | some u=>exact (show False from r).elim
theorem sE {v:V} {u:Value} (r:RelV v u):PySem.W.handedIn u=true:=by
 cases v with
 | non=>cases (show u=Value.none from r); rfl
 | bl b=>cases (show u=Value.bool b from r); rfl
 | int i=>obtain ⟨t,e⟩:=(show ∃ t,u=Value.int i t from r); cases e; rfl
 | str x=>obtain ⟨t,e⟩:=(show ∃ t,u=Value.str x t from r); cases e; rfl
 | byt b=>obtain ⟨t,e⟩:=(show ∃ t,u=Value.bytes b t from r); cases e; rfl
 | flt b=>obtain ⟨t,e⟩:=(show ∃ t,u=Value.float b t from r); cases e; rfl
 | ref a=>cases (show u=Value.ref a from r); rfl
 | ty n=>cases (show u=Value.type n from r); rfl
section
variable {P:Program} {w:World} {H H':Hp} {h h':Heap} {a C dx:Addr} {fs fs':List (Str×V)}
theorem oW (hok:HOk P w H h) (e:H a=some (.ins C dx fs)):∃ mA,ObjM h a dx C mA/\(∀ f,RelO (fs.lookup f) (mA f))/\PySem.Within mA (fs.map (·.1))/\fs.length<=1000/\H dx=some (.own a):=by
 obtain ⟨d,z,ne,ob,mA,n,r,q⟩:=(show ObjOk P w H h a (.ins C dx fs) from hok a _ e)
 exact ⟨mA,⟨ob,n,ne⟩,r,q,z,d⟩
end
structure Cls (K:Nh) (C:Addr):Prop where
 pg:PySem.W.plainGet K C Str.empty=true
 hd:PySem.W.hasDictIn K C=true
 po:PySem.W.plainOver K C=true
 sa:PySem.W.findIn K (.ref C) "__setattr__"=some (some (.builtin "object.__setattr__"))
theorem Cls.get {K:Nh} {C:Addr} (c:Cls K C) (f:Str):PySem.W.plainGet K C f=true:=c.pg
def NoAttr (K:Nh) (C:Addr) (f:Str):Prop:=PySem.W.findIn K (.ref C) f=some none
theorem NoAttr.taker {K:Nh} {C:Addr} {f:Str} (n:NoAttr K C f):PySem.W.takerIn K C f=some none:=by
 unfold PySem.W.takerIn
 rw [show PySem.W.findIn K (.ref C) f=some none from n]
 rfl
structure Con (K:Nh) (C:Addr) (f:Str) (v:V) (u:Value):Prop where
 at_:PySem.W.findIn K (.ref C) f=some (some u)
 rel:RelV v u
 get:PySem.W.specialIn K u "__get__"=some none
 cp:PySem.W.copiedNames.contains f=false
structure Meth (K:Nh) (C:Addr) (m:Str) (f:Addr):Prop where
 at_:PySem.W.findIn K (.ref C) m=some (some (.ref f))
 fn:PySem.W.isFn K (.ref f)=true
 kp:PySem.W.keepIn K (.ref f)=true
section
variable {X:Cx} {pins:List (Addr×Obj)} {σ:St} {H:Hp} {s:Shared} {a C dx:Addr} {fs:List (Str×V)} {f:Str} {v:V} {A:Around} {E:Value->Shared->Prop}
theorem yM {b:Bool} {Q:Value->Shared->Prop} (I:Inv X pins σ H s) (e:H a=some (.ins C dx fs)) (c:Cls X.K C) (n:NoAttr X.K C f) (l:fs.lookup f=some v)
  (h:∀ u s',Inv X pins σ H s'->RelV v u->Q u s'):wpAny (model X.prog X.w) A (getAttr (.ref a) f b) Q E s:=by
 obtain ⟨mA,O,r,_,_,_⟩:=oW I.hok e
 obtain ⟨u,hu,ru⟩:=RelO.some_of (v:=v) (o:=mA f) (by rw [<- l]; exact r f)
 exact get_map I.kIn O (c.get f) c.hd n hu (sE ru) (h u _ (I.tok _) ru)
theorem xK {m:Str} {g:Addr} {pl:Sem Bool} {Q:Value×List Value->Shared->Prop} (I:Inv X pins σ H s) (e:H a=some (.ins C dx fs)) (c:Cls X.K C) (k:Meth X.K C m g) (l:fs.lookup m=none)
  (h:Q (.ref g,[.ref a]) s):wpAny (model X.prog X.w) A (getMethod (.ref a) m pl) Q E s:=by
 obtain ⟨mA,O,r,_,_,_⟩:=oW I.hok e
 have hn:mA m=none:=RelO.none_of (by rw [<- l]; exact r m)
 exact Dz I.kIn O (c.get m) k.at_ k.fn hn h
theorem yW {y:V} {u:Value} {Q:Unit->Shared->Prop} (I:Inv X pins σ H s) (e:H a=some (.ins C dx fs)) (c:Cls X.K C) (n:NoAttr X.K C f) (hl:fs.length<1000) (ry:RelV y u)
  (h:∀ s',Inv X pins σ (upd H a (.ins C dx (putF f y fs))) s'->Q () s'):wpAny (model X.prog X.w) A (setAttr (.ref a) f u) Q E s:=by
 obtain ⟨mA,O,r,wi,_,ho⟩:=oW I.hok e
 have hz:(fs.map (·.1)).length<=sizeLine:=by rw [Ng,Te]; omega
 refine Ib I.kIn O c.sa c.po n.taker c.hd wi hz fun h' O' sb=>h _ ?_
 have hd:∃ o,h'.get? dx=some o:=let ⟨o,_,_,e',_⟩:=O'.ns; ⟨o,e'⟩
 refine I.write (x:=a) (e:=dx) (by rw [e]; exact True.intro) (.inr ho) (fun b q hb z=>(sb.2 b hb).trans z) hd ?_
 refine ⟨by rw [aC O.ne]; exact ho,?_,O.ne,O'.obj,_,O'.ns,fun g=>?_,fun g hg=>?_⟩
 ·have:=n8 f y fs; omega
 ·show RelO ((putF f y fs).lookup g) (if g=f then some u else mA g)
  rw [oE]
  by_cases q:g=f
  ·rw [if_pos q,if_pos q]; exact ry
  ·rw [if_neg q,if_neg q]; exact r g
 ·by_cases q:g=f
  ·rw [q]; exact (nC f y fs).1
  ·refine (nC f y fs).2 g (wi g fun z=>hg ?_)
   show (if g=f then some u else mA g)=none
   rw [if_neg q]; exact z
theorem Inv.made (I:Inv X pins σ H s):Inv X pins σ (upd (upd H s.heap.objs.size (.own (s.heap.objs.size+1))) (s.heap.objs.size+1) (.ins C s.heap.objs.size []))
  { s with heap:=(s.heap.push PySem.W.emptyDict).push (PySem.W.instObj C s.heap.objs.size) }:=by
 have e1:(s.heap.push PySem.W.emptyDict).get? s.heap.objs.size=some PySem.W.emptyDict:=NQ s.heap rfl
 have e2:((s.heap.push PySem.W.emptyDict).push (PySem.W.instObj C s.heap.objs.size)).get? (s.heap.objs.size+1)=some (PySem.W.instObj C s.heap.objs.size):=by
  have:=NQ (s.heap.push PySem.W.emptyDict) (o:=PySem.W.instObj C s.heap.objs.size) rfl
  rwa [Rh] at this
 have e3:(s.heap.push PySem.W.emptyDict).Ns s.heap.objs.size (fun _=>none):=⟨PySem.W.emptyDict,#[],_,e1,rfl,(fun e he=>absurd he (by simp)),fun _=>rfl⟩
 have I1:=I.laid (a:=s.heap.objs.size) (o:=.own (s.heap.objs.size+1)) (h':=s.heap.push PySem.W.emptyDict) (t':=s.toks) (fun b u q=>Nk _ q) (Nu _) ⟨_,e1⟩
 refine I1.laid (a:=s.heap.objs.size+1) (o:=.ins C s.heap.objs.size []) (t':=s.toks) (fun b u q=>Nk _ q) (TF (Rh _ _)) ?_
 have ne:s.heap.objs.size≠s.heap.objs.size+1:=Ot (Q8 _)
 refine ⟨by rw [aC ne,ak],OD _,ne,e2,fun _=>none,(V9 e3).at fun o q=>Nk _ q,fun _=>True.intro,fun y hy=>absurd rfl hy⟩
theorem zT {prog:Program} {w:World} {env:Env} {e:Expr} {f:Str} {pos:Pos} {s:Shared} {Q:Value->Shared->Prop} (hb:attributeBase e f env (eval e env)=eval e env)
  (h:wpAny (model prog w) A (eval e env) (fun o s₁=>wpAny (model prog w) A (getAttr o f true) Q E s₁) E s):wpAny (model prog w) A (eval (.Attribute e f pos) env) Q E s :=
 Attribute_any_ h (by rw [arm_eval_Attribute,hb])
end
def tFld (K:Nh) (ta:TE) (f:Str):TE:=fun σ H Q=>ta σ H fun x H1=>∃ a C dx fs v,x=.ref a/\H1 a=some (.ins C dx fs)/\Cls K C/\NoAttr K C f/\fs.lookup f=some v/\Q v H1
def sFld (K:Nh) (ta tv:TE) (f:Str):TS:=fun D σ H=>tv σ H fun y H1=>ta σ H1 fun x H2=>∃ a C dx fs,x=.ref a/\H2 a=some (.ins C dx fs)/\Cls K C/\NoAttr K C f/\fs.length<1000 /\
 D.nx σ (upd H2 a (.ins C dx (putF f y fs)))
section
variable {X:Cx} {o e value:Expr} {f:Str} {pos pos' tpos:Pos} {ta tv:TE}
theorem qY (he:PE X e ta) (hb:attributeBase e f X.env (eval e X.env)=eval e X.env):PE X (.Attribute e f pos) (tFld X.K ta f):=by
 intro pins s σ H Q I h
 refine zT hb (thn (he pins s σ H _ I h) fun u s1 ⟨x,H1,I1,rx,a,C,dx,fs,v,ex,ea,c,n,l,q⟩=>?_)
 subst ex
 obtain rfl:u=Value.ref a:=rx
 exact yM I1 ea c n l fun u' s2 I2 ru=>⟨v,H1,I2,ru,q⟩
theorem Ds (ha:PE X o ta) (hv:PE X value tv) (hs:swapsWith value (some (.Attribute o f pos')) pos.line X.env=pure false):PS X (.Assign [.Attribute o f pos'] value pos) (sFld X.K ta tv f):=by
 intro pins s σ H D I h
 refine Sq (thn (hv pins s σ H _ I h) fun u s1 ⟨y,H1,I1,ry,q⟩=>thn (ha pins s1 σ H1 _ I1 q) fun ov s2 ⟨x,H2,I2,rx,a,C,dx,fs,ex,ea,c,n,l,q2⟩=>?_) hs
 subst ex
 obtain rfl:ov=Value.ref a:=rx
 exact yW I2 ea c n l ry fun s3 I3=>⟨σ,_,I3,q2⟩
end
section
variable {X:Cx} {pins:List (Addr×Obj)} {σ:St} {H:Hp} {s:Shared} {A:Around} {E:Value->Shared->Prop} {Q:Value->Shared->Prop} {c:Value} {b:Bool}
inductive TyOf (K:Nh) (H:Hp):V->Value->Prop where
 | non:TyOf K H .non (.type "NoneType")
 | bl (x:Bool):TyOf K H (.bl x) (.type "bool")
 | int (i:Int):TyOf K H (.int i) (.type "int")
 | str (x:Str):TyOf K H (.str x) (.type "str")
 | flt (x:UInt64):TyOf K H (.flt x) (.type "float")
 | lst {a:Addr} {xs:List V} (e:H a=some (.lst xs)):TyOf K H (.ref a) (.type "list")
 | frz {a:Addr} {o:Obj} {xs:List V} (e:H a=some (.frz o (.lst xs))):TyOf K H (.ref a) (.type "list")
 | tup {a:Addr} {xs:List V} (e:H a=some (.tup xs)):TyOf K H (.ref a) (.type "tuple")
 | dK {a:Addr} {kvs:List (Key×V)} (e:H a=some (.dK kvs)):TyOf K H (.ref a) (.type "dict")
 | dT {a:Addr} {kvs:List (List Key×V)} (e:H a=some (.dT kvs)):TyOf K H (.ref a) (.type "dict")
 | ins {a C dx:Addr} {fs:List (Str×V)} (e:H a=some (.ins C dx fs)) (cl:Cls K C) (ha:PySem.W.findIn K (.ref C) "__class__"=some (some (.builtin "object.__class__")))
   (hn:PySem.W.specialIn K (.builtin "object.__class__") "__get__"=some (some (.builtin "getset_descriptor.__get__"))) (htk:PySem.W.takesIn K (.builtin "object.__class__")=some true)
   (hm:PySem.W.mroIn K C (.type "object")=some true):TyOf K H (.ref a) (.ref C)
theorem Bl {x:V} {u t:Value} (I:Inv X pins σ H s) (rx:RelV x u) (ty:TyOf X.K H x t) (e:PySem.W.kitOne X.K t c=some b) (h:∀ tk,Q (.bool b) { s with toks:=tk }) :
  wpAny (model X.prog X.w) A (call (.builtin "isinstance") [u,c]) Q E s:=by
 cases ty with
 | non=>cases (show u=Value.none from rx); exact PB PySem.W.kitx_none I.kIn True.intro e (fun z=>nomatch z) h
 | bl y=>cases (show u=Value.bool y from rx); exact PB PySem.W.kitx_bool I.kIn True.intro e (fun z=>nomatch z) h
 | int i=>obtain ⟨t,q⟩:=(show ∃ t,u=Value.int i t from rx); cases q; exact PB PySem.W.kitx_int I.kIn True.intro e (fun z=>nomatch z) h
 | str y=>obtain ⟨t,q⟩:=(show ∃ t,u=Value.str y t from rx); cases q; exact PB PySem.W.kitx_str I.kIn True.intro e (fun z=>nomatch z) h
 | flt y=>obtain ⟨t,q⟩:=(show ∃ t,u=Value.float y t from rx); cases q; exact PB PySem.W.kitx_float I.kIn True.intro e (fun z=>nomatch z) h
 | @lst a xs ea =>
  cases (show u=Value.ref a from rx)
  obtain ⟨_,_,n,_,h1⟩:=(show ObjOk X.prog X.w H s.heap a (.lst xs) from I.hok a _ ea)
  exact PB Wa I.kIn ⟨_,h1,rfl⟩ e (fun z=>nomatch z) h
 | @frz a ob xs ea =>
  cases (show u=Value.ref a from rx)
  obtain ⟨_,_,_,n,_,h1⟩:=(show ObjOk X.prog X.w H s.heap a (.frz ob (.lst xs)) from I.hok a _ ea)
  exact PB Wa I.kIn ⟨_,h1,rfl⟩ e (fun z=>nomatch z) h
 | @tup a xs ea =>
  cases (show u=Value.ref a from rx)
  obtain ⟨_,_,_,p⟩:=(show ObjOk X.prog X.w H s.heap a (.tup xs) from I.hok a _ ea)
  obtain ⟨o,h1,h2,_⟩:=p
  exact PB PySem.W.kitx_tuple I.kIn ⟨o,h1,h2⟩ e (fun z=>nomatch z) h
 | @dK a kvs ea =>
  cases (show u=Value.ref a from rx)
  obtain ⟨_,_,vs,_,p⟩:=(show ObjOk X.prog X.w H s.heap a (.dK kvs) from I.hok a _ ea)
  obtain ⟨o,es,ep,h1,h2,_⟩:=p
  exact PB Wb I.kIn ⟨o,h1,h2.1⟩ e (fun z=>nomatch z) h
 | @dT a kvs ea =>
  cases (show u=Value.ref a from rx)
  obtain ⟨_,_,xs,_,o,es,ep,h1,h2,_⟩:=(show ObjOk X.prog X.w H s.heap a (.dT kvs) from I.hok a _ ea)
  exact PB Wb I.kIn ⟨o,h1,h2.1⟩ e (fun z=>nomatch z) h
 | @ins a C dx fs ea cl ha hn htk hm =>
  cases (show u=Value.ref a from rx)
  obtain ⟨mA,O,_⟩:=oW I.hok ea
  obtain ⟨od,J,_⟩:=O.look
  exact PB (PySem.W.kitx_own (cl.get _) cl.hd ha hn htk hm) I.kIn J e (fun z=>nomatch z) h
end
structure Room (k:Nat) (A:Around):Prop where
 hd:A.handled=none
 dp:A.depth+3*k+5<recursionLimit
 un:A.units+16*k+200<cLine
 gd:A.guards=some []
theorem Room.mono {j k:Nat} {A:Around} (r:Room k A) (h:j<=k):Room j A:=⟨r.hd,by have:=r.dp; omega,by have:=r.un; omega,r.gd⟩
theorem Room.deeper {k:Nat} {A:Around} (r:Room (k+1) A) (env:Env):Room k (A.deeper env) :=
 ⟨r.hd,by have:=r.dp; show A.depth+1+3*k+5<_; omega,by have:=r.un; show A.units+3+16*k+200<_; omega,r.gd⟩
theorem Room.in1 {k:Nat} {A:Around} (r:Room (k+1) A):Room k A.in1 :=
 ⟨r.hd,by have:=r.dp; show A.depth+3*k+5<_; omega,by have:=r.un; show A.units+1+16*k+200<_; omega,r.gd⟩
theorem xH {A:Around} {C:Addr} {us:List Value} {kw:List (Str×Value)}:(A.under (.builtin "type.__call__" ⟨.ref C::us,kw⟩)).depth=A.depth+1:=by
 first | rfl | simp [Around.under,Code.weight,Code.isCreation,Code.isGuard,Code.isCaller,Code.frames,Code.isFrame,guardIds]
theorem yD {A:Around} {C:Addr} {us:List Value} {kw:List (Str×Value)}:(A.under (.builtin "type.__call__" ⟨.ref C::us,kw⟩)).units=A.units+1:=by
 first | rfl | simp [Around.under,Code.cUnits,Code.frames,Code.isFrame]
theorem vR {A:Around} {C:Addr} {us:List Value} {kw:List (Str×Value)}:(A.under (.builtin "type.__call__" ⟨.ref C::us,kw⟩)).guards=A.guards:=by
 first | rfl | simp [Around.under,Code.guards,Code.isGuard,guardIds,pushGuards]
theorem Room.make {k:Nat} {A:Around} (r:Room (k+1) A) (C:Addr) (us:List Value) (kw:List (Str×Value)):Room k (A.under (.builtin "type.__call__" ⟨.ref C::us,kw⟩)) :=
 ⟨r.hd,by have:=r.dp; rw [xH]; omega,by have:=r.un; rw [yD]; omega,by rw [vR]; exact r.gd⟩
theorem Room.depth {k:Nat} {A:Around} (r:Room k A):A.depth<recursionLimit:=by have:=r.dp; omega
theorem Room.units {k:Nat} {A:Around} (r:Room k A):A.units+64<cLine:=by have:=r.un; omega
theorem Room.units0 {k:Nat} {A:Around} (r:Room k A):A.units<cLine:=by have:=r.un; omega
def tNil:TA:=fun _ H Q=>Q [] H
def cX (ta:TE) (tr:TA):TA:=fun σ H Q=>ta σ H fun x H1=>tr σ H1 fun xs H2=>Q (x::xs) H2
section
variable {X:Cx} {e:Expr} {es:List Expr} {te:TE} {t:TA} {pos:Pos}
theorem aq:PA X [] tNil:=fun _ _ _ _ H Q I h=>Ua ⟨[],H,I,.nil,h⟩
theorem aj (ha:PE X e te) (hr:PA X es t) (hs:starEach (e::es) X.env=(false,eval e X.env)::starEach es X.env:=by rfl):PA X (e::es) (cX te t):=by
 intro pos pins s σ H Q I h
 rw [hs]
 show wpAny _ _ (spliced ((false,eval e X.env)::backTo pos (starEach es X.env))) _ _ s
 refine Rm (thn (ha pins s σ H _ I h) fun u s1 ⟨x,H1,I1,r1,q1⟩=>?_)
 exact thn (hr pos pins s1 σ H1 _ I1 q1) fun us s2 ⟨xs,H2,I2,r2,q2⟩=>⟨x::xs,H2,I2,.cons r1 r2,q2⟩
def tTup (t:TA):TE:=fun σ H Q=>t σ H fun xs H1=>xs.length<=sizeLine/\∀ p,H1 p=none->Q (.ref p) (upd H1 p (.tup xs))
def tLst (t:TA):TE:=fun σ H Q=>t σ H fun xs H1=>xs.length<=sizeLine/\∀ p,H1 p=none->Q (.ref p) (upd H1 p (.lst xs))
theorem bh {x1} (h:PA X es t):PE X (.Tuple es x1 pos) (tTup t):=by
 intro pins s σ H Q I hq
 refine wpAny_Tuple_spliced (thn (h pos pins s σ H _ I hq) fun us s1 ⟨xs,H1,I1,r,z,q⟩=>⟨by rw [<- r.length]; exact z,?_⟩)
 have hf:H1 s1.heap.objs.size=none:=I1.hok.fresh (Nu _)
 refine ⟨.ref s1.heap.objs.size,upd H1 s1.heap.objs.size (.tup xs),I1.laid (t':=s1.toks) (fun b u e=>Nk _ e) (Nu _) ?_,rfl,q _ hf⟩
 exact ⟨z,us,r,⟨_,NQ _ rfl,rfl,_,rfl⟩⟩
theorem cD (h:PA X es t):PE X (.List es pos) (tLst t):=by
 intro pins s σ H Q I hq
 refine wpAny_List_spliced (thn (h pos pins s σ H _ I hq) fun us s1 ⟨xs,H1,I1,r,z,q⟩=>⟨by rw [<- r.length]; exact z,?_⟩)
 have hf:H1 s1.heap.objs.size=none:=I1.hok.fresh (Nu _)
 refine ⟨.ref s1.heap.objs.size,upd H1 s1.heap.objs.size (.lst xs),I1.laid (t':=s1.toks) (fun b u e=>Nk _ e) (Nu _) ?_,rfl,q _ hf⟩
 exact ⟨z,us,0,r,NQ _ rfl⟩
end
abbrev Sp:=List V->Hp->VK->XK->Prop
abbrev CXT:=List Env->Hp->Shared->XK->Value->Shared->Prop
structure Env0 (P:Program) (w:World) (K:Nh) (mg:Str->Option Value) (base:Heap) (A:Around) (outer:List Env) (s:Shared) (H:Hp):Prop where
 frames:A.frames=some outer
 mod:Mod K mg base
 bs:∀ b o,base.get? b=some o->s.heap.get? b=some o/\H b=none
 bsz:base.objs.size<=s.heap.objs.size
 funs:s.heap.FunFrames base outer
 frf:∀ b∈frs outer,H b=none
 hok:HOk P w H s.heap
 bare:AllBare s.gens
def CE (outer:List Env) (P:Program) (w:World) (H:Hp) (s:Shared) (Q:VK) (u:Value) (s':Shared):Prop :=
 ∃ v H',s'.os=s.os/\AllBare s'.gens/\Un (frs outer) [] H H' s.heap s'.heap/\HOk P w H' s'.heap/\RelV v u/\Q v H'
def CR (CX:CXT) (outer:List Env) (P:Program) (w:World) (H:Hp) (s:Shared) (Q:VK) (E:XK) (r:Result) (s':Shared):Prop :=
 match r with
 | .ok (.ret u)=>CE outer P w H s Q u s'
 | .ok _=>False
 | .error e=>CX outer H s E e s'
structure FnOk (P:Program) (w:World) (K:Nh) (mg:Str->Option Value) (base:Heap) (CX:CXT) (k:Nat) (f:Addr) (fd:FuncData) (ps:List Str) (sp:Sp):Prop where
 len:∀ vs H Q E,sp vs H Q E->vs.length=ps.length
 run:∀ (A:Around) (outer:List Env) (s:Shared) (H:Hp) (args:Args) (us:List Value) (vs:List V) (Q:VK) (E:XK),Room k A->Env0 P w K mg base A outer s H->BindsTo s fd args (ps.zip us)->Vals vs us->sp vs H Q E ->
  codeAny (model P w) A (.call (.ref f) args) (CR CX outer P w H s Q E) s
theorem FnOk.mono {P:Program} {w:World} {K:Nh} {mg:Str->Option Value} {base:Heap} {CX:CXT} {j k:Nat} {f:Addr} {fd:FuncData} {ps:List Str} {sp:Sp} (F:FnOk P w K mg base CX j f fd ps sp) (h:j<=k) :
  FnOk P w K mg base CX k f fd ps sp:=⟨F.len,fun A outer s H args us vs Q E hr=>F.run A outer s H args us vs Q E (hr.mono h)⟩
theorem FnOk.imp {P:Program} {w:World} {K:Nh} {mg:Str->Option Value} {base:Heap} {CX:CXT} {k:Nat} {f:Addr} {fd:FuncData} {ps:List Str} {sp sp':Sp} (F:FnOk P w K mg base CX k f fd ps sp)
  (h:∀ vs H Q E,sp' vs H Q E->sp vs H Q E):FnOk P w K mg base CX k f fd ps sp' :=
 ⟨fun vs H Q E q=>F.len vs H Q E (h _ _ _ _ q),fun A outer s H args us vs Q E hr he hb hv hs=>F.run A outer s H args us vs Q E hr he hb hv (h _ _ _ _ hs)⟩
theorem Env0.make {P:Program} {w:World} {K:Nh} {mg:Str->Option Value} {base:Heap} {A:Around} {outer:List Env} {s:Shared} {H:Hp} (e:Env0 P w K mg base A outer s H) (C:Addr) (us:List Value) (kw:List (Str×Value)) :
  Env0 P w K mg base (A.under (.builtin "type.__call__" ⟨.ref C::us,kw⟩)) outer s H:=⟨by first | exact e.frames | (simpa [Around.under,Code.envs,Code.isFrame,pushEnvs] using e.frames),e.mod,e.bs,e.bsz,e.funs,e.frf,e.hok,e.bare⟩
theorem Env0.in1 {P:Program} {w:World} {K:Nh} {mg:Str->Option Value} {base:Heap} {A:Around} {outer:List Env} {s:Shared} {H:Hp} (e:Env0 P w K mg base A outer s H) :
  Env0 P w K mg base A.in1 outer s H:=⟨e.frames,e.mod,e.bs,e.bsz,e.funs,e.frf,e.hok,e.bare⟩
section
variable {X:Cx} {pins:List (Addr×Obj)} {σ:St} {H:Hp} {s s':Shared}
theorem Inv.env0 (I:Inv X pins σ H s):Env0 X.prog X.w X.K X.mg X.base X.A X.stack s H :=
 ⟨I.ok.frames,I.ok.mod,I.bs,OJ I.ok.bsz I.sz,I.stack,I.stkFree,I.hok,I.bare⟩
theorem Inv.after {Q:VK} {u:Value} (I:Inv X pins σ H s) (h:CE X.stack X.prog X.w H s Q u s'):EP X pins σ Q u s':=by
 obtain ⟨v,H',os,bare,un,hok,r,q⟩:=h
 obtain ⟨hh,g,d,t,os'⟩:=s'
 obtain rfl:os'=s.os:=os
 exact ⟨v,H',I.call (h':=hh) (g':=g) (d':=d) (t':=t) (ch:=[]) un hok bare (fun b z=>absurd z (by simp)),r,q⟩
end
def wN (sp:Sp) (dvs:List V) (E:XK) (t:TA):TE:=fun σ H Q=>t σ H fun vs H1=>sp (vs++dvs) H1 Q E
def Mz (C:Addr) (m:Str) (sp:Sp) (dvs:List V) (E:XK) (ta:TE) (t:TA):TE:=fun σ H Q=>ta σ H fun x H1=>∃ a dx fs,x=.ref a/\H1 a=some (.ins C dx fs)/\fs.lookup m=none /\
 t σ H1 fun vs H2=>sp (x::(vs++dvs)) H2 Q E
def M4 (C:Addr) (sp:Sp) (dvs:List V) (E:XK) (t:TA):TE:=fun σ H Q=>t σ H fun vs H1=>∀ x dx,H1 x=none->H1 dx=none->dx≠x ->
 sp (.ref x::(vs++dvs)) (upd (upd H1 dx (.own x)) x (.ins C dx [])) (fun v H2=>v=.non/\Q (.ref x) H2) E
def Binds (K:Nh) (fd:FuncData) (ps:List Str) (ds:List Value):Prop :=
 ∀ (s:Shared) (us:List Value),K.In s.heap->(us++ds).length=ps.length->BindsTo s fd ⟨us,[]⟩ (ps.zip (us++ds))
theorem Binds.all {K:Nh} {fd:FuncData} {ps:List Str} (h:∀ us:List Value,us.length=ps.length->bindArgs fd ⟨us,[]⟩=pure (ps.zip us)):Binds K fd ps []:=fun s us _ hl=>by
 rw [N6] at hl ⊢
 exact .of_eq (h us hl)
def Passes (CX:CXT) (X:Cx) (E:XK):Prop:=∀ (pins:List (Addr×Obj)) (σ:St) (H:Hp) (s:Shared) (e:Value) (s':Shared),Inv X pins σ H s->CX X.stack H s E e s'->X.xe e s'
section
variable {X:Cx} {CX:CXT} {k:Nat} {f C:Addr} {fd:FuncData} {ps:List Str} {sp:Sp} {dvs:List V} {ds:List Value} {E:XK} {x m:Str} {p pos apos:Pos} {e o:Expr} {es:List Expr} {ta:TE} {t:TA}
theorem Gj {pins:List (Addr×Obj)} {σ:St} {H:Hp} {s:Shared} {Q:VK} {us:List Value} {vs:List V} (F:FnOk X.prog X.w X.K X.mg X.base CX k f fd ps sp) (hr:Room k X.A) (hb:Binds X.K fd ps ds) (hd:Vals dvs ds) (hx:Passes CX X E)
  (I:Inv X pins σ H s) (r:Vals vs us) (h:sp (vs++dvs) H Q E):wpAny (model X.prog X.w) X.A (call (.ref f) us) (EP X pins σ Q) X.xe s:=by
 have r2:Vals (vs++dvs) (us++ds):=r.append hd
 have hl:(us++ds).length=ps.length:=by rw [<- r2.length]; exact F.len _ _ _ _ h
 refine Ri (RQ (F.run X.A X.stack s H ⟨us,[]⟩ (us++ds) (vs++dvs) Q E hr I.env0 (hb s us I.kIn hl) r2 h) fun r s' hq=>?_)
 cases r with
 | error e=>exact hx pins σ H s e s' I hq
 | ok fl =>
  cases fl with
  | ret u=>exact I.after hq
  | next=>exact False.elim hq
  | brk=>exact False.elim hq
  | cont=>exact False.elim hq
theorem Io (F:FnOk X.prog X.w X.K X.mg X.base CX k f fd ps sp) (hr:Room k X.A) (hg:Gl X x) (hm:X.mg x=some (.ref f)) (hk:PySem.W.keepIn X.K (.ref f)=true) (hb:Binds X.K fd ps ds) (hd:Vals dvs ds) (hx:Passes CX X E)
  (ha:PA X (e::es) t) (hdb:(x==("__debug__":Str))=false:=by decide) (he:starEach (e::es) X.env=(false,eval e X.env)::starEach es X.env:=by rfl) (hpl:(backTo pos (starEach es X.env)).any (·.1)=false:=by rfl) :
  PE X (.Call (.Name x p) (e::es) [] pos) (wN sp dvs E t):=by
 intro pins s σ H Q I h
 refine Rn (j6 I hg hm ?_ hdb)
 refine R3 (h₀:=X.base) I.ok.mod.kin hk (thn (ha pos pins s σ H _ I h) fun us s1 ⟨vs,H1,I1,r,q⟩=>⟨I1.kIn,?_⟩) he hpl
 exact Gj F hr hb hd hx I1 r q
theorem IV {pl:Sem Bool} (he:PE X o ta) (c:Cls X.K C) (hm:Meth X.K C m f) (F:FnOk X.prog X.w X.K X.mg X.base CX k f fd ps sp) (hr:Room k X.A) (hb:Binds X.K fd ps ds) (hd:Vals dvs ds) (hx:Passes CX X E) (ha:PA X (e::es) t)
  (hst:starEach (e::es) X.env=(false,eval e X.env)::starEach es X.env:=by rfl) (hpl:(backTo pos (starEach es X.env)).any (·.1)=false:=by rfl)
  (ht:eval (.Call (.Attribute o m apos) (e::es) [] pos) X.env=(do
   let ov<-eval o X.env
   standAt apos.atName
   let (f,first)<-holding [ov] (getMethod ov m pl)
   callWith pos f first (backTo pos (starEach (e::es) X.env)) (backToKw pos (keywordEach [] X.env))):=by rfl) :
  PE X (.Call (.Attribute o m apos) (e::es) [] pos) (Mz C m sp dvs E ta t):=by
 intro pins s σ H Q I h
 refine PySem.W.methodCall_KW (pl:=pl) (thn (he pins s σ H _ I h) fun u s1 ⟨x,H1,I1,rx,a,dx,fs,ex,ea,l,q⟩=>?_) ht
 subst ex
 obtain rfl:u=Value.ref a:=rx
 refine xK I1 ea c hm l ?_
 refine R3 (first:=[.ref a]) (h₀:=X.base) I.ok.mod.kin hm.kp (thn (ha pos pins s1 σ H1 _ I1 q) fun us s2 ⟨vs,H2,I2,r,q2⟩=>⟨I2.kIn,?_⟩) hst hpl
 exact Gj (us:=.ref a::us) (vs:=.ref a::vs) F hr hb hd hx I2 (.cons rfl r) q2
structure Mk (K:Nh) (C f:Addr):Prop where
 makes:PySem.W.makesIn K C=true
 init:PySem.W.findIn K (.ref C) "__init__"=some (some (.ref f))
 fn:PySem.W.isFn K (.ref f)=true
 kp:PySem.W.keepIn K (.ref C)=true
theorem Dp {pins:List (Addr×Obj)} {σ:St} {H:Hp} {s:Shared} {Q:VK} {us:List Value} {vs:List V} (M:Mk X.K C f) (F:FnOk X.prog X.w X.K X.mg X.base CX k f fd ps sp) (hr:Room (k+1) X.A) (hb:Binds X.K fd ps ds) (hd:Vals dvs ds)
  (hx:Passes CX X E) (I:Inv X pins σ H s) (r:Vals vs us)
  (h:∀ x dx,H x=none->H dx=none->dx≠x->sp (.ref x::(vs++dvs)) (upd (upd H dx (.own x)) x (.ins C dx [])) (fun v H2=>v=.non/\Q (.ref x) H2) E) :
  wpAny (model X.prog X.w) X.A (call (.ref C) us) (EP X pins σ Q) X.xe s:=by
 have hq:=h (s.heap.objs.size+1) s.heap.objs.size (I.hok.fresh (Q5 _)) (I.hok.fresh (Nu _)) (Ot (Q8 _))
 have I2:=Inv.made (C:=C) I
 have r2:Vals (V.ref (s.heap.objs.size+1)::(vs++dvs)) (Value.ref (s.heap.objs.size+1)::(us++ds)):=.cons rfl (r.append hd)
 have hl:(Value.ref (s.heap.objs.size+1)::us++ds).length=ps.length:=by
  have e:=r2.length
  rw [F.len _ _ _ _ hq] at e
  exact e.symm
 refine Ri (CQ (f:=f) I.kIn M.makes M.init (beq_iff_eq.mp M.fn) (RQ (F.run _ X.stack _ _ ⟨Value.ref (s.heap.objs.size+1)::us,[]⟩ (Value.ref (s.heap.objs.size+1)::(us++ds)) _ _ E (hr.make C us [])
  (I2.env0.make C us []) (hb _ (Value.ref (s.heap.objs.size+1)::us) I2.kIn hl) r2 hq) fun r s' hq'=>?_))
 cases r with
 | error e=>exact hx pins σ _ _ e s' I2 hq'
 | ok fl =>
  cases fl with
  | ret u =>
   obtain ⟨v,H',I3,rv,ev,q3⟩:=I2.after hq'
   subst ev
   exact ⟨rv,⟨V.ref (s.heap.objs.size+1),H',I3,rfl,q3⟩⟩
  | next=>exact False.elim hq'
  | brk=>exact False.elim hq'
  | cont=>exact False.elim hq'
theorem Ik (M:Mk X.K C f) (F:FnOk X.prog X.w X.K X.mg X.base CX k f fd ps sp) (hr:Room (k+1) X.A) (hg:Gl X x) (hm:X.mg x=some (.ref C)) (hb:Binds X.K fd ps ds) (hd:Vals dvs ds) (hx:Passes CX X E)
  (ha:PA X (e::es) t) (hdb:(x==("__debug__":Str))=false:=by decide) (he:starEach (e::es) X.env=(false,eval e X.env)::starEach es X.env:=by rfl) (hpl:(backTo pos (starEach es X.env)).any (·.1)=false:=by rfl) :
  PE X (.Call (.Name x p) (e::es) [] pos) (M4 C sp dvs E t):=by
 intro pins s σ H Q I h
 refine Rn (j6 I hg hm ?_ hdb)
 refine R3 (h₀:=X.base) I.ok.mod.kin M.kp (thn (ha pos pins s σ H _ I h) fun us s1 ⟨vs,H1,I1,r,q⟩=>⟨I1.kIn,?_⟩) he hpl
 exact Dp M F hr hb hd hx I1 r q
end
section
variable {X:Cx} {CX:CXT} {k:Nat} {f C:Addr} {fd:FuncData} {ps ks:List Str} {sp:Sp} {E:XK} {x m:Str} {p pos apos kpos:Pos} {e o:Expr} {es:List Expr} {kws:List Keyword} {te ta:TE} {t tk:TA} {nm:Option Str}
structure KBinds (K:Nh) (fd:FuncData) (ps ks:List Str) (g:List Value->List Value->List Value) (gV:List V->List V->List V):Prop where
 to:∀ (s:Shared) (us ws:List Value),K.In s.heap->(g us ws).length=ps.length->BindsTo s fd ⟨us,ks.zip ws⟩ (ps.zip (g us ws))
 rel:∀ {vs:List V} {us:List Value} {zs:List V} {ws:List Value},Vals vs us->Vals zs ws->Vals (gV vs zs) (g us ws)
variable {g:List Value->List Value->List Value} {gV:List V->List V->List V}
end
structure FnScope (N P:List Str) (sc:Scope):Prop where
 kind:sc.kind=.function
 co:sc.isCoroutine=false
 gen:sc.isGenerator=false
 nd:N.Nodup
 pre:N.take P.length=P
 par:∀ x∈P,sc.names.lookup x=some .local∨sc.names.lookup x=some .cell
 nofree:∀ y∈sc.names,y.2≠.free
theorem tO {kindOf:Str->Option NameKind} {x:Str}:∀ {binds:List (Str×Value)} {m:Str->Option Value},(∀ v,(x,v)∉binds)->bindL kindOf binds m x=m x
 | [],_,_=>rfl
 | (n,v)::r,m,h=>by
  unfold bindL
  rw [tO fun w hw=>h w (Nt _ hw)]
  split
  ·have:x≠n:=by rintro rfl; exact h v Ny
   simp [this]
  ·rfl
theorem sY {kindOf:Str->Option NameKind} {x:Str}:∀ {binds:List (Str×Value)} {m:Str->Option Value},(∀ v,(x,v)∉binds)->bindC kindOf binds m x=m x
 | [],_,_=>rfl
 | (n,v)::r,m,h=>by
  unfold bindC
  rw [sY fun w hw=>h w (Nt _ hw)]
  split
  ·rfl
  ·have:x≠n:=by rintro rfl; exact h v Ny
   simp [this]
theorem su {kindOf:Str->Option NameKind} {x:Str} {v:Value}:∀ {P:List Str} {vs:List Value} {i:Nat} {m:Str->Option Value},P.Nodup->P[i]?=some x->vs[i]?=some v->kindOf x=some .local ->
  bindL kindOf (P.zip vs) m x=some v
 | [],_,_,_,_,h,_,_=>by simp at h
 | _::_,[],_,_,_,_,h,_=>by simp at h
 | p::P,w::vs,0,m,nd,h1,h2,hk=>by
  simp at h1 h2; subst h1; subst h2
  show bindL kindOf ((p,w)::P.zip vs) m p=_
  unfold bindL
  rw [tO fun v hv=>(Od.mp nd).1 (Ve hv).1,if_pos hk]
  simp
 | p::P,w::vs,i+1,m,nd,h1,h2,hk=>by
  show bindL kindOf ((p,w)::P.zip vs) m x=_
  unfold bindL
  exact su (i:=i) (Od.mp nd).2 (by simpa using h1) (by simpa using h2) hk
theorem tE {kindOf:Str->Option NameKind} {x:Str} {v:Value}:∀ {P:List Str} {vs:List Value} {i:Nat} {m:Str->Option Value},P.Nodup->P[i]?=some x->vs[i]?=some v->kindOf x≠some .local ->
  bindC kindOf (P.zip vs) m x=some v
 | [],_,_,_,_,h,_,_=>by simp at h
 | _::_,[],_,_,_,_,h,_=>by simp at h
 | p::P,w::vs,0,m,nd,h1,h2,hk=>by
  simp at h1 h2; subst h1; subst h2
  show bindC kindOf ((p,w)::P.zip vs) m p=_
  unfold bindC
  rw [sY fun v hv=>(Od.mp nd).1 (Ve hv).1,if_neg hk]
  simp
 | p::P,w::vs,i+1,m,nd,h1,h2,hk=>by
  show bindC kindOf ((p,w)::P.zip vs) m x=_
  unfold bindC
  exact tE (i:=i) (Od.mp nd).2 (by simpa using h1) (by simpa using h2) hk
def start (N:List Str) (vs:List V):St:=vs.map some++List.replicate (N.length-vs.length) none
def cxOf (CX:CXT) (P:Program) (w:World) (K:Nh) (mg:Str->Option Value) (base:Heap) (N:List Str) (qual:Str) (scope:Scope) (f:Addr) (cd:Value) (A:Around) (outer:List Env) (s:Shared) (H:Hp) (E:XK):Cx where
 prog:=P
 w:=w
 K:=K
 mg:=mg
 base:=base
 A:=A.deeper (envOfC qual scope s.heap.objs.size f cd)
 N:=N
 s₀:=s
 H₀:=H
 env:=envOfC qual scope s.heap.objs.size f cd
 outer:=outer
 stack:=envOfC qual scope s.heap.objs.size f cd::outer
 ex:=[]
 calm:=true
 fn:=fun _=>true
 pn:=[]
 xe:=fun e s'=>wpAny (model P w) (A.deeper (envOfC qual scope s.heap.objs.size f cd)) (leaving (envOfC qual scope s.heap.objs.size f cd) e) (fun _ s''=>CX outer H s E e s'') (fun e' s''=>CX outer H s E e' s'') s'
theorem wK {sc:Scope} {n:Nat} {x:Str} (h:sc.names.lookup x=some .cell):∃ c,(cellsFrom n sc.names []).lookup x=some c:=by
 have q:=UG sc.names n [] (.inl h)
 exact Ub.mp q
theorem Bg {CX:CXT} {P:Program} {w:World} {K:Nh} {mg:Str->Option Value} {base:Heap} {N ps:List Str} {qual:Str} {scope:Scope} {f:Addr} {cd:Value} {A:Around} {outer:List Env} {s s1:Shared} {H:Hp} {E:XK} {us:List Value} {vs:List V}
  (S:FnScope N ps scope) (hd:A.handled=none) (e0:Env0 P w K mg base A outer s H) (hl:vs.length=ps.length) (r:Vals vs us)
  (x:InCallC s s.heap.objs.size (bindL (envOfC qual scope s.heap.objs.size f cd).kindOf (ps.zip us) fun _=>none) (cellsFrom (s.heap.objs.size+1) scope.names []) (bindC (envOfC qual scope s.heap.objs.size f cd).kindOf (ps.zip us) fun _=>none) s1) :
  Inv (cxOf CX P w K mg base N qual scope f cd A outer s H E) [] (start N vs) H s1:=by
 have hpl:ps.length<=N.length:=by have:=congrArg List.length S.pre; rw [Oc] at this; omega
 obtain ⟨h1,tk,rfl,hk⟩:=x.done
 have noA:∀ b:Addr,b∉(cxOf CX P w K mg base N qual scope f cd A outer s H E).ex:=fun b z=>absurd (show b∈([]:List Addr) from z) (by simp)
 refine ⟨⟨e0.mod,S.kind,rfl,rfl,Nu _,fun y z c h1 h2=>?_,fun y hy=>?_,fun y c _ h=>?_,fun _=>hd,Around.frames_deeper e0.frames,.inr ⟨rfl,rfl⟩,fun b z=>absurd z (noA b),e0.bs,e0.bsz,fun b _ _=>noA b,fun b z=>absurd z (noA b),e0.funs,e0.frf⟩,
  rfl,e0.bare,Un.kept hk,⟨_,x.toInCall.ns,fun i y v h1 h2 h3=>?_⟩,fun y c h=>⟨_,x.cell y c h⟩,e0.hok.fresh (Nu _),fun y c h=>?_,fun p hp=>absurd (show p∈([]:List (Addr×Obj)) from hp) (by simp),e0.hok.kept hk,?_⟩
 ·exact name_of_addr x.apart (Q6 h1) (Q6 h2)
 ·have hy:scope.names.lookup y=some .cell∨scope.names.lookup y=some .free:=hy
  rcases hy with hy | hy
  ·exact wK hy
  ·exact absurd rfl (S.nofree _ (Q6 hy))
 ·exact RP (x.above y c (Q6 h))
 ·have hi:i<vs.length:=by
   unfold start at h2
   by_cases hi:i<vs.length
   ·exact hi
   ·rw [Px (by simpa using hi)] at h2
    rw [List.getElem?_replicate] at h2
    split at h2 <;> cases h2
  have ha:vs[i]?=some v:=by
   unfold start at h2
   rw [Ox (by simpa using hi),NP] at h2
   cases e:vs[i]? with
   | none=>rw [e] at h2; cases h2
   | some a=>rw [e] at h2; cases h2; rfl
  obtain ⟨u,hu,rv⟩:=r.get ha
  have hp:ps[i]?=some y:=by
   rw [<- S.pre,Uc (by omega)]; exact h1
  have ndP:ps.Nodup:=by rw [<- S.pre]; exact S.nd.sublist (Ss _ _)
  refine ⟨u,rv,?_⟩
  rcases S.par y (Nv hp) with k | k
  ·exact .inl ⟨k,su ndP hp hu k⟩
  ·obtain ⟨c,e⟩:=wK (n:=s.heap.objs.size+1) k
   refine .inr ⟨.inl k,c,e,?_⟩
   have q:=x.cell y c e
   rw [tE ndP hp hu (by show scope.names.lookup y≠_; rw [k]; decide)] at q
   exact q
 ·exact e0.hok.fresh (RP (x.above y c (Q6 h)))
 ·unfold start
  show _=N.length
  rw [Np,Ng,List.length_replicate]
  omega
theorem Jr {CX:CXT} {P:Program} {w:World} {K:Nh} {mg:Str->Option Value} {base:Heap} {k:Nat} {f:Addr} {name qual:Str} {params:Arguments} {body:List Stmt} {scope:Scope} {dV kV doc pm cdv ct oc:Value} {an od:Option Addr}
  {osl:Array (Option Value)} {N ps:List Str} {sp:Sp} (lk:K.lookup f=some ⟨oc,od,.func (PySem.W.fnOf name qual params body scope dV kV doc pm an cdv ct),osl⟩) (hcd:PySem.W.codeIn K cdv qual=true) (S:FnScope N ps scope)
  (len:∀ vs H Q E,sp vs H Q E->vs.length=ps.length)
  (hbody:∀ (A:Around) (outer:List Env) (s:Shared) (H:Hp) (vs:List V) (Q:VK) (E:XK),Room k (A.deeper (envOfC qual scope s.heap.objs.size f cdv))->sp vs H Q E ->
   ∃ t,PSs (cxOf CX P w K mg base N qual scope f cdv A outer s H E) body t/\t { nx:=fun _ H'=>Q .non H',rt:=Q } (start N vs) H) :
  FnOk P w K mg base CX (k+1) f (PySem.W.fnOf name qual params body scope dV kV doc pm an cdv ct) ps sp:=by
 refine ⟨len,fun A outer s H args us vs Q E hr e0 hb r hsp=>?_⟩
 have hl:=len _ _ _ _ hsp
 have KX:K.In s.heap:=e0.mod.kin.keeps fun b o e=>(e0.bs b o e).1
 have lim:s.heap.NoLimit:=e0.mod.nolimit.keeps fun b o e=>(e0.bs b o e).1
 have hkind:∀ y∈ps.zip us,scope.names.lookup y.1=some .local∨(scope.names.lookup y.1=some .cell/\((cellsFrom (s.heap.objs.size+1) scope.names []).lookup y.1).isSome=true):=fun ⟨n,v⟩ hy=>by
  rcases S.par n (Ve hy).1 with q | q
  ·exact .inl q
  ·exact .inr ⟨q,UG _ _ _ (.inl q)⟩
 refine codeAny_call_function hr.depth (KX _ _ lk) rfl S.co S.gen rfl (PySem.W.codeRec_of KX hcd) (hb _ _ _ _ ?_)
 refine wpAny_newFunctionEnv_cells S.kind hkind fun env he s1 x=>?_
 subst he
 refine ⟨lim.keeps x.toInCall.keep,codeAny_func ?_⟩
 obtain ⟨t,ht,hq⟩:=hbody A outer s H vs Q E (hr.deeper _) hsp
 have I:Inv (cxOf CX P w K mg base N qual scope f cdv A outer s H E) [] (start N vs) H s1:=Bg S hr.hd e0 hl r x
 refine PK (ht [] s1 (start N vs) H _ I hq) (fun fl s' hs=>?_) fun e s' hs=>hs
 have fin:∀ {σ':St} {H':Hp} {v:V} {u:Value},Inv (cxOf CX P w K mg base N qual scope f cdv A outer s H E) [] σ' H' s'->RelV v u->Q v H'->CE outer P w H s Q u s' :=
  fun {σ' H' v u} J rv q=>⟨v,H',J.os,J.bare,J.base,J.hok,rv,q⟩
 cases fl with
 | ret u =>
  obtain ⟨v,σ',H',J,rv,q⟩:=hs
  exact fin J rv q
 | next =>
  obtain ⟨σ',H',J,q⟩:=hs
  exact fin (v:=V.non) (u:=Value.none) J rfl q
 | brk =>
  obtain ⟨_,_,_,q⟩:=hs
  exact False.elim q
 | cont =>
  obtain ⟨_,_,_,q⟩:=hs
  exact False.elim q
section
variable {X:Cx} {x:Str} {p pos:Pos} {e:Expr} {es:List Expr} {t:TA} {id T:String} {r:List V->Hp->VK->Prop}
def tCB (r:List V->Hp->VK->Prop) (t:TA):TE:=fun σ H Q=>t σ H fun vs H1=>r vs H1 Q
theorem aH (hc:CallR X (.builtin id) r) (hg:Gl X x) (hm:X.mg x=none) (hv:bootBuiltins x=some (.builtin id)) (ha:PA X (e::es) t) (hn:x≠"__name__":=by decide) (hdb:(x==("__debug__":Str))=false:=by decide)
  (he:starEach (e::es) X.env=(false,eval e X.env)::starEach es X.env:=by rfl) (hpl:(backTo pos (starEach es X.env)).any (·.1)=false:=by rfl):PE X (.Call (.Name x p) (e::es) [] pos) (tCB r t):=by
 intro pins s σ H Q I h
 refine Rn (qX I hg hm hv ?_ hn hdb)
 exact PyProof.Rows.callWith_builtin1 (thn (ha pos pins s σ H _ I h) fun us s1 ⟨vs,H1,I1,r1,q1⟩=>hc pins s1 σ H1 vs us Q I1 r1 q1) he hpl
theorem eF (hc:CallR X (.type T) r) (hg:Gl X x) (hm:X.mg x=none) (hv:bootBuiltins x=some (.type T)) (ha:PA X (e::es) t) (hn:x≠"__name__":=by decide) (hdb:(x==("__debug__":Str))=false:=by decide)
  (he:starEach (e::es) X.env=(false,eval e X.env)::starEach es X.env:=by rfl) (hpl:(backTo pos (starEach es X.env)).any (·.1)=false:=by rfl):PE X (.Call (.Name x p) (e::es) [] pos) (tCB r t):=by
 intro pins s σ H Q I h
 refine Rn (qX I hg hm hv ?_ hn hdb)
 exact Rq (thn (ha pos pins s σ H _ I h) fun us s1 ⟨vs,H1,I1,r1,q1⟩=>hc pins s1 σ H1 vs us Q I1 r1 q1) he hpl
end
end L2
namespace HT
open PySem PyProof.Rows
section
open PySem.SeqAt
open PySem.AutoSeq1 (wpAny_loadPart')
open PySem.MeetsSeq PySem.MeetsSeq2 PySem.MeetsSeq3
end
section
variable {prog:Program} {w:World} {A:Around} {E:Value->Shared->Prop} {s:Shared}
theorem cat_tup {t b:Addr} {vs ws:List Value} {Q:Value->Shared->Prop} (ht:IsTup s.heap t vs.toArray) (hb:IsTup s.heap b ws.toArray) (hv:vs≠[])
  (h1:ws=[]->Q (.ref t) s) (h2:ws≠[]->Q (.ref s.heap.objs.size) { s with heap:=s.heap.push { cls:=.type "tuple",data:=.seq (vs++ws).toArray } })
  (hsz:vs.length+ws.length<=sizeLine):wpAny (model prog w) A (binaryOp .Add (.ref t) (.ref b)) Q E s:=by
 obtain ⟨⟨cls,dd,data,sl⟩,ho,hc,n,hd⟩:=id ht
 obtain ⟨⟨cls2,dd2,data2,sl2⟩,ho2,hc2,n2,hd2⟩:=id hb
 simp only at hc hd hc2 hd2
 subst hc hd hc2 hd2
 have e:vs.toArray++ws.toArray=(vs++ws).toArray:=by simp
 by_cases hw:ws=[]
 ·exact Wr ⟨_,ho,rfl⟩ ⟨_,ho2,rfl⟩ Uw VP Sg R4 (RT _ _)
   (tuple_addW1 t b vs.toArray ws.toArray n n2 dd dd2 sl sl2 (by simpa using hv) (by simp [hw])) ⟨ho,ho2,h1 hw⟩
 ·refine Wr ⟨_,ho,rfl⟩ ⟨_,ho2,rfl⟩ Uw VP Sg R4 (RT _ _)
   (tuple_addW2 t b vs.toArray ws.toArray n n2 dd dd2 sl sl2 (by simpa using hv) (by simpa using hw) (by rw [N5,N5]; exact hsz)) ⟨ho,ho2,?_⟩
  rw [e]
  exact h2 hw
def sIx (n d:Nat):Option Int->Nat
 | none=>d
 | some v=>if v<0 then (v+(n:Int)).toNat else min v.toNat n
theorem sIx_none (n d:Nat):sIx n d none=d:=rfl
theorem sIx_nat (n d k:Nat):sIx n d (some (k:Int))=min k n:=by
 show (if (k:Int)<0 then ((k:Int)+(n:Int)).toNat else min (k:Int).toNat n)=min k n
 rw [if_neg (by omega),Pz]
theorem sIx_le (n d:Nat) (hd:d<=n) (o:Option Int):sIx n d o<=n:=by
 cases o with
 | none=>exact hd
 | some v =>
  show (if v<0 then (v+(n:Int)).toNat else min v.toNat n)<=n
  by_cases hv:v<0
  ·rw [if_pos hv]; omega
  ·rw [if_neg hv]; exact Nat.min_le_right _ _
theorem zL (v:Int) (n d:Nat):(if v<0 then max (v+(n:Int)) 0 else min v (n:Int))=((sIx n d (some v):Nat):Int):=by
 show (if v<0 then max (v+(n:Int)) 0 else min v (n:Int))=(((if v<0 then (v+(n:Int)).toNat else min v.toNat n):Nat):Int)
 by_cases hv:v<0
 ·simp only [if_pos hv]; omega
 ·simp only [if_neg hv]; omega
theorem yV (lo hi:Option Int) (n:Nat):Builtin.Slice.sliceAdjust lo hi 1 (n:Int)=(((sIx n 0 lo:Nat):Int),((sIx n n hi:Nat):Int)):=by
 have h1:¬ ((1:Int)<0):=by omega
 unfold Builtin.Slice.sliceAdjust
 simp only [h1,if_false]
 refine Prod.ext ?_ ?_
 ·cases lo with
  | none=>rfl
  | some v=>exact zL v n 0
 ·cases hi with
  | none=>rfl
  | some v=>exact zL v n n
theorem xZ (i j:Nat):Builtin.Slice.slicePlaces (i:Int) (j:Int) 1=j-i:=by
 unfold Builtin.Slice.slicePlaces
 have h1:(1:Int)>0:=by omega
 simp only [h1,if_true,Int.ediv_one]
 split <;> omega
theorem rE {v:Value} {o:Option Int} {Q:Option Int->Shared->Prop} (p:IsPart v o) (h:Q o s):wpAny (model prog w) A (Builtin.Slice.slicePartIndex v) Q E s:=by
 cases p with
 | none=>exact slicePart_none h
 | int i t=>exact slicePart_int h
theorem sliceApplied_gen {sl:Addr} {vl vu:Value} {lo hi:Option Int} {n:Nat} {Q:Int×Int×Nat->Shared->Prop} (hs:s.heap.IsSliceOf sl vl vu .none) (pl:IsPart vl lo) (pu:IsPart vu hi)
  (h:Q (((sIx n 0 lo:Nat):Int),1,sIx n n hi-sIx n 0 lo) s):wpAny (model prog w) A (Builtin.Slice.sliceApplied (.ref sl) (pure (n:Int))) Q E s:=by
 obtain ⟨os,hos,hcs,hds⟩:=id hs
 unfold Builtin.Slice.sliceApplied Builtin.Slice.sliceFields
 refine Nf (Nf (WR hos hds (x:=vl) rfl (Nf (WR hos hds (x:=vu) rfl (Nf (WR hos hds (x:=.none) rfl (Ni ?_)))))))
 refine Nf (slicePart_none ?_)
 show wpAny _ _ (if ((1:Int)==0)=true then _ else _) _ _ s
 rw [if_neg (by decide)]
 refine Nf (rE pl (Nf (rE pu (Nf (Ni ?_)))))
 show wpAny _ _ (match Builtin.Slice.sliceAdjust lo hi 1 (n:Int) with | (lo,hi)=>pure (lo,(1:Int),Builtin.Slice.slicePlaces lo hi 1)) _ _ s
 rw [yV lo hi n]
 show wpAny _ _ (pure (((sIx n 0 lo:Nat):Int),(1:Int),Builtin.Slice.slicePlaces ((sIx n 0 lo:Nat):Int) ((sIx n n hi:Nat):Int) 1)) _ _ s
 rw [xZ]
 exact Ni h
theorem Gy (xs:Array Value) (i k:Nat):((List.range k).filterMap fun (m:Nat)=>xs[((i:Int)+(m:Int)*1).toNat]?).toArray=((xs.toList.drop i).take k).toArray:=by
 have e:(fun (m:Nat)=>xs[((i:Int)+(m:Int)*1).toNat]?)=fun m=>xs[i+m]?:=by
  funext m
  have:((i:Int)+(m:Int)*1).toNat=i+m:=by omega
  rw [this]
 rw [e]
 have:=pick_run xs i k
 rw [VR] at this
 have e2:((fun x=>xs[x]?)∘fun x=>i+x)=fun m=>xs[i+m]?:=rfl
 rw [e2] at this
 rw [this]
theorem getItem_tuple_cut {t sl:Addr} {items:Array Value} {vl vu:Value} {lo hi:Option Int} {Q:Value->Shared->Prop} (ht:IsTup s.heap t items) (hs:s.heap.IsSliceOf sl vl vu .none) (pl:IsPart vl lo) (pu:IsPart vu hi)
  (hw:¬ (sIx items.size 0 lo=0/\sIx items.size items.size hi=items.size))
  (h:Q (.ref s.heap.objs.size) { s with heap:=s.heap.push { cls:=.type "tuple",data:=.seq ((items.toList.drop (sIx items.size 0 lo)).take (sIx items.size items.size hi-sIx items.size 0 lo)).toArray } })
  (hsz:items.size<=sizeLine):wpAny (model prog w) A (getItem (.ref t) (.ref sl)) Q E s:=by
 have htake:sizeOk (.seq ((items.toList.drop (sIx items.size 0 lo)).take (sIx items.size items.size hi-sIx items.size 0 lo)).toArray):=by
  show ((items.toList.drop (sIx items.size 0 lo)).take (sIx items.size items.size hi-sIx items.size 0 lo)).toArray.size<=sizeLine
  rw [N5,Oc,O9,Py]
  omega
 have hj:sIx items.size items.size hi<=items.size:=sIx_le _ _ (Nu _) hi
 obtain ⟨os,hos,hcs,hds⟩:=id hs
 have hTs:s.TypeIs (.ref sl) "slice":=⟨os,hos,hcs⟩
 unfold getItem
 try with_reducible refine Pa ?_
 first | refine Nf (Ni ?_) | skip
 refine Nf (Wc ht.typeIs (by decide) ?_)
 refine Nf (PL (name:=Str.ofString "__getitem__") ht.typeIs Pr
  (P0 Pr ht.typeIs VB ?_ (V0 _ _)))
 show wpAny _ _ (Builtin.Tuple.tupleItemsOf (.ref t) >>= _) _ _ s
 refine Nf (tupleItemsOf_ ht ?_)
 refine Nf (RV hTs ?_)
 rw [if_pos (by decide)]
 refine Nf (sliceApplied_gen hs pl pu ?_)
 have hno:¬ ((((sIx items.size 0 lo:Nat):Int)==0 && (1:Int)==1 && (sIx items.size items.size hi-sIx items.size 0 lo)==items.size)=true):=by
  intro q
  rw [Qa,Qa] at q
  have q1:((sIx items.size 0 lo:Nat):Int)=0:=eq_of_beq q.1.1
  have q2:sIx items.size items.size hi-sIx items.size 0 lo=items.size:=eq_of_beq q.2
  exact hw ⟨by omega,by omega⟩
 show wpAny _ _ (if (((sIx items.size 0 lo:Nat):Int)==0 && (1:Int)==1 && (sIx items.size items.size hi-sIx items.size 0 lo)==items.size)=true then _ else _) _ _ s
 rw [if_neg hno,Gy]
 first
  | exact Nf (m:=Builtin.Tuple.tupleExact _) (Pj (Ni ⟨_,rfl,Ni h⟩) htake)
  | exact Nf (m:=Builtin.Tuple.tupleExact _) (Pj (Nf (Ni (Ni ⟨_,rfl,Ni h⟩))) htake)
  | exact Nf (Nf (m:=Builtin.Tuple.tupleExact _) (Pj (Ni (Ni ⟨_,rfl,Ni h⟩)) htake))
  | exact Nf (Nf (m:=Builtin.Tuple.tupleExact _) (Pj (Ni ⟨_,rfl,Ni h⟩) htake))
end
end HT
namespace L2
open PySem PySem.Spec PyProof.Rows
abbrev TO:=St->Hp->(Option Int->Hp->Prop)->Prop
def PO (X:Cx) (e:Option Expr) (t:TO):Prop :=
 ∀ (pins:List (Addr×Obj)) (s:Shared) (σ:St) (H:Hp) (Q:Option Int->Hp->Prop),Inv X pins σ H s->t σ H Q ->
  wpAny (model X.prog X.w) X.A (evalPart e X.env) (fun u s'=>∃ o H',Inv X pins σ H' s'/\IsPart u o/\Q o H') X.xe s
def uD:TO:=fun _ H Q=>Q none H
def Jq (t:TE):TO:=fun σ H Q=>t σ H fun x H1=>∃ i,x=.int i/\Q (some i) H1
theorem intsAre_of {ns:List Int}:∀ {us:List Value},Vals (ns.map V.int) us->IntsAre us ns:=by
 induction ns with
 | nil=>intro us r; rw [TJ] at r; cases r; exact .nil
 | cons n ns ih =>
  intro us r
  rw [Ow] at r
  cases r with
  | cons r1 r2 =>
   obtain ⟨t,e⟩:=r1
   subst e
   exact .cons n t (ih r2)
section
variable {X:Cx} {e:Expr} {te:TE} {lo hi:Option Expr} {tl th:TO} {pos p2:Pos}
theorem fO:PO X none uD:=by
 intro pins s σ H Q I h
 rw [V1]
 exact Ni ⟨none,H,I,.none,h⟩
theorem bY (h:PE X e te):PO X (some e) (Jq te):=by
 intro pins s σ H Q I hw
 rw [evalPart_some]
 refine thn (h pins s σ H _ I hw) fun u s1 ⟨x,H1,I1,r1,q1⟩=>?_
 obtain ⟨i,rfl,q⟩:=q1
 obtain ⟨t,rfl⟩:=r1
 exact ⟨some i,H1,I1,.int i t,q⟩
def SlR (X:Cx) (r:V->Option Int->Option Int->Hp->VK->Prop):Prop :=
 ∀ (pins:List (Addr×Obj)) (s:Shared) (σ:St) (H:Hp) (x:V) (v vl vu:Value) (lo hi:Option Int) (sl:Addr) (Q:VK),Inv X pins σ H s->RelV x v->s.heap.IsSliceOf sl vl vu .none->IsPart vl lo->IsPart vu hi->r x lo hi H Q ->
  ∃ T id,typeLookup (.type T) "__getitem__"=pure (some (.builtin id))/\s.TypeIs v T/\wpAny (model X.prog X.w) X.A (getItem v (.ref sl)) (EP X pins σ Q) X.xe s
theorem SlR.or {r r':V->Option Int->Option Int->Hp->VK->Prop} (h:SlR X r) (h':SlR X r'):SlR X (fun x lo hi H Q=>r x lo hi H Q∨r' x lo hi H Q):=by
 intro pins s σ H x v vl vu lo hi sl Q I rx hs pl pu q
 rcases q with q | q
 ·exact h pins s σ H x v vl vu lo hi sl Q I rx hs pl pu q
 ·exact h' pins s σ H x v vl vu lo hi sl Q I rx hs pl pu q
def tSl (r:V->Option Int->Option Int->Hp->VK->Prop) (te:TE) (tl th:TO):TE:=fun σ H Q=>te σ H fun x H1=>tl σ H1 fun l H2=>th σ H2 fun u H3=>r x l u H3 Q
theorem cM {r:V->Option Int->Option Int->Hp->VK->Prop} (hr:SlR X r) (he:PE X e te) (hl:PO X lo tl) (hu:PO X hi th):PE X (.Subscript e (.Slice lo hi none p2) pos) (tSl r te tl th):=by
 intro pins s σ H Q I h
 refine Subscript_ (thn (he pins s σ H _ I h) fun v s1 ⟨x,H1,I1,r1,q1⟩=>?_)
 refine wpAny_Slice (thn (hl pins s1 σ H1 _ I1 q1) fun vl s2 ⟨l,H2,I2,pl,q2⟩=>thn (hu pins s2 σ H2 _ I2 q2) fun vu s3 ⟨u,H3,I3,pu,q3⟩=>?_)
 rw [V1]
 refine Ni ?_
 have I4:Inv X pins σ H3 { s3 with heap:=s3.heap.push { cls:=.type "slice",data:=.fields #[vl,vu,.none] } }:=I3.kept (t':=s3.toks) fun b ob q=>Nk _ q
 obtain ⟨T,id,hT,ht,hg⟩:=hr pins { s3 with heap:=s3.heap.push { cls:=.type "slice",data:=.fields #[vl,vu,.none] } } σ H3 x v vl vu l u s3.heap.objs.size Q I4 r1 (Heap.IsSliceOf.new ..) pl pu q3
 show wpAny (model X.prog X.w) X.A (subscriptTail e (.Slice lo hi none p2) v (.ref s3.heap.objs.size)) (EP X pins σ Q) X.xe { s3 with heap:=s3.heap.push { cls:=.type "slice",data:=.fields #[vl,vu,.none] } }
 exact tail_any (ops:=[.ref s3.heap.objs.size,v]) ht hT hg (by with_unfolding_all rfl)
def cutV (xs:List V) (lo hi:Option Int):List V:=(xs.drop (HT.sIx xs.length 0 lo)).take (HT.sIx xs.length xs.length hi-HT.sIx xs.length 0 lo)
theorem oH (xs:List V) (lo hi:Option Int):(cutV xs lo hi).length<=xs.length:=by
 unfold cutV
 rw [Oc,O9]
 omega
def rSlT (K:Nh):V->Option Int->Option Int->Hp->VK->Prop:=fun x lo hi H Q=>∃ a xs,x=.ref a/\SqT K H a xs /\
 ¬ (HT.sIx xs.length 0 lo=0/\HT.sIx xs.length xs.length hi=xs.length)/\∀ p,H p=none->Q (.ref p) (upd H p (.tup (cutV xs lo hi)))
theorem xP:SlR X (rSlT X.K):=by
 intro pins s σ H x v vl vu lo hi sl Q I rx hs pl pu h
 obtain ⟨a,xs,rfl,hx,hw,q⟩:=h
 cases rx
 obtain ⟨its,r,ht,hz⟩:=I.tuple hx
 have hlen:its.toArray.size=xs.length:=by rw [N5]; exact r.length.symm
 refine ⟨"tuple",_,Pr.lookup,ht.typeIs,?_⟩
 refine HT.getItem_tuple_cut ht hs pl pu (by rw [hlen]; exact hw) ?_ (by rw [hlen]; exact hz)
 rw [hlen]
 refine ⟨.ref s.heap.objs.size,_,I.laid (t':=s.toks) (o:=.tup (cutV xs lo hi)) (fun b ob q=>Nk _ q) (Nu _) ?_,rfl,q _ (I.hok.fresh (Nu _))⟩
 exact ⟨OJ (oH xs lo hi) hz,_,(r.drop (HT.sIx xs.length 0 lo)).take (HT.sIx xs.length xs.length hi-HT.sIx xs.length 0 lo),IsTup.new _ _⟩
def Ju (K:Nh):R2:=fun x y H Q=>∃ a b xs ys,x=.ref a/\y=.ref b/\SqT K H a xs/\SqT K H b ys/\xs≠[]/\xs.length+ys.length<=sizeLine /\
 (ys=[]->Q (.ref a) H)/\(ys≠[]->∀ p,H p=none->Q (.ref p) (upd H p (.tup (xs++ys))))
theorem Vals.nil_iff {xs:List V} {us:List Value} (r:Vals xs us):us=[]↔xs=[]:=by
 cases r with
 | nil=>simp
 | cons _ _=>simp
theorem uZ:OpR X (binaryOp .Add) (Ju X.K):=by
 intro pins s σ H x y v u Q I rx ry h
 obtain ⟨a,b,xs,ys,rfl,rfl,ha,hb,hx,hz,q1,q2⟩:=h
 cases rx
 cases ry
 obtain ⟨its,r1,p1,_⟩:=I.tuple ha
 obtain ⟨its2,r2,p2,_⟩:=I.tuple hb
 refine HT.cat_tup p1 p2 (fun z=>hx (r1.nil_iff.mp z)) (fun z=>⟨.ref a,H,I,rfl,q1 (r2.nil_iff.mp z)⟩) (fun z=>?_) (by rw [<- r1.length,<- r2.length]; exact hz)
 refine ⟨.ref s.heap.objs.size,_,I.laid (t':=s.toks) (o:=.tup (xs++ys)) (fun b ob q=>Nk _ q) (Nu _) ?_,rfl,q2 (fun w=>z (r2.nil_iff.mpr w)) _ (I.hok.fresh (Nu _))⟩
 exact ⟨by rw [Np]; exact hz,_,r1.append r2,IsTup.new _ _⟩
end
def ixN (n:Nat) (i:Int):Option Nat:=if 0<=i then (if i<n then some i.toNat else none) else if -(n:Int)<=i then some (i+n).toNat else none
def atI {α:Type} (xs:List α) (i:Int):Option α:=(ixN xs.length i).bind fun j=>xs[j]?
theorem GQ {n:Nat} {i:Int} {j:Nat} (h:ixN n i=some j):seqIndex? i n=some j/\j<n/\-(n:Int)<=i/\i<n:=by
 unfold ixN at h
 by_cases h0:0<=i
 ·rw [if_pos h0] at h
  by_cases h1:i<n
  ·rw [if_pos h1] at h
   have e:i.toNat=j:=Option.some.inj h
   exact ⟨by rw [seqIndex_of h0 h1,e],by omega,by omega,h1⟩
  ·rw [if_neg h1] at h; cases h
 ·rw [if_neg h0] at h
  by_cases h1:-(n:Int)<=i
  ·rw [if_pos h1] at h
   have e:(i+n).toNat=j:=Option.some.inj h
   exact ⟨by rw [seqIndex_neg (by omega) h1,e],by omega,h1,by omega⟩
  ·rw [if_neg h1] at h; cases h
theorem uV {α:Type} {xs:List α} {i:Int} {v:α} (h:atI xs i=some v):∃ j,seqIndex? i xs.length=some j/\xs[j]?=some v/\j<xs.length/\-(xs.length:Int)<=i/\i<xs.length:=by
 unfold atI at h
 cases e:ixN xs.length i with
 | none=>rw [e] at h; cases h
 | some j =>
  rw [e] at h
  obtain ⟨h1,h2,h3,h4⟩:=GQ e
  exact ⟨j,h1,h,h2,h3,h4⟩
theorem dh {α:Type} {xs:List α} {j:Nat} {v:α} (h:xs[j]?=some v):atI xs (j:Int)=some v:=by
 have hj:j<xs.length:=(Nj.mp h).1
 have e:ixN xs.length (j:Int)=some j:=by
  unfold ixN
  rw [if_pos (by omega),if_pos (by omega)]; simp
 unfold atI; rw [e]; exact h
theorem jP {α:Type} (xs:List α) (v:α):atI (xs++[v]) (-1)=some v:=by
 have hl:(xs++[v]).length=xs.length+1:=by simp
 have e:ixN (xs++[v]).length (-1)=some xs.length:=by
  unfold ixN
  rw [hl,if_neg (by decide),if_pos (by omega)]
  congr 1
  omega
 unfold atI
 rw [e]
 show (xs++[v])[xs.length]?=some v
 simp
def Hj (b:Expr):Prop:=∀ o i,subscripted b false o i=operate [o,i] (getItem o i)
def IxR (X:Cx) (r:R2):Prop :=
 ∀ (value slice:Expr) (pins:List (Addr×Obj)) (s:Shared) (σ:St) (H:Hp) (x y:V) (v u:Value) (Q:VK),Inv X pins σ H s->RelV x v->RelV y u->r x y H Q ->
  subscripted slice false v u=operate [v,u] (getItem v u)->wpAny (model X.prog X.w) X.A (subscriptTail value slice v u) (EP X pins σ Q) X.xe s
def MtR (X:Cx) (id:String) (r:V->List V->Hp->VK->Prop):Prop :=
 ∀ (pins:List (Addr×Obj)) (s:Shared) (σ:St) (H:Hp) (x:V) (xs:List V) (v:Value) (us:List Value) (Q:VK),Inv X pins σ H s->RelV x v->Vals xs us->r x xs H Q ->
  wpAny (model X.prog X.w) X.A (call (.builtin id) (v::us)) (EP X pins σ Q) X.xe s
section
variable {X:Cx} {a b:Expr} {ta tb:TE} {pos:Pos}
theorem IxR.or {r r':R2} (h:IxR X r) (h':IxR X r'):IxR X (fun x y H Q=>r x y H Q∨r' x y H Q):=by
 intro value slice pins s σ H x y v u Q I rx ry q hs
 rcases q with q | q
 ·exact h value slice pins s σ H x y v u Q I rx ry q hs
 ·exact h' value slice pins s σ H x y v u Q I rx ry q hs
theorem MtR.or {id:String} {r r':V->List V->Hp->VK->Prop} (h:MtR X id r) (h':MtR X id r'):MtR X id (fun x xs H Q=>r x xs H Q∨r' x xs H Q):=by
 intro pins s σ H x xs v us Q I rx rs q
 rcases q with q | q
 ·exact h pins s σ H x xs v us Q I rx rs q
 ·exact h' pins s σ H x xs v us Q I rx rs q
theorem aJ {r:R2} (hr:IxR X r) (ha:PE X a ta) (hb:PE X b tb) (hs:Hj b):PE X (.Subscript a b pos) (tOp r ta tb):=by
 intro pins s σ H Q I h
 exact Subscript_ (binT ha hb I h fun v u s2 x y H2 I2 rx ry q=>hr a b pins s2 σ H2 x y v u Q I2 rx ry q (hs _ _))
def rIxL (K:Nh):R2:=fun x y H Q=>∃ p xs i v,x=.ref p/\y=.int i/\SqL K H p xs/\atI xs i=some v/\Q v H
def rIxT (K:Nh):R2:=fun x y H Q=>∃ p xs i v,x=.ref p/\y=.int i/\SqT K H p xs/\atI xs i=some v/\Q v H
def rIxS:R2:=fun x y H Q=>∃ z i c,x=.str z/\y=.int i/\z.length<=sizeLine/\atI z.cps.toList i=some c/\Q (.str ⟨#[c]⟩) H
theorem aZ:IxR X (rIxL X.K):=by
 intro value slice pins s σ H x y v u Q I rx ry h hs
 obtain ⟨p,xs,i,z,rfl,rfl,hq,he,q⟩:=h
 cases rx
 obtain ⟨t,rfl⟩:=ry
 obtain ⟨its,r,pl,hz⟩:=I.list hq
 obtain ⟨j,h1,h2,h3,h4,h5⟩:=uV he
 obtain ⟨w,ew,rw'⟩:=r.get h2
 have hl:=r.length
 have hn:=nG
 have fin:EP X pins σ Q w s:=⟨z,H,I,rw',q⟩
 by_cases h0:0<=i
 ·have hj:i.toNat=j:=by
   rw [seqIndex_of h0 h5] at h1
   exact Option.some.inj h1
  exact item_listR pl.isList h0 (by omega) (by rw [hj]; simpa using ew) fin hs
 ·have hj:(i+(its.toArray.size:Int)).toNat=j:=by
   rw [seqIndex_neg (by omega) h4] at h1
   rw [N5,<- hl]
   exact Option.some.inj h1
  exact UJ (x:=w) pl.isList.typeIs Ud.lookup
   (wpAny_getItem_list_neg (Q:=fun r s'=>r=w/\EP X pins σ Q r s') pl.isList (by omega) (by rw [N5] <;> omega) (by omega) (by rw [hj]; simpa using ew) ⟨rfl,fin⟩) hs
theorem bA:IxR X (rIxT X.K):=by
 intro value slice pins s σ H x y v u Q I rx ry h hs
 obtain ⟨p,xs,i,z,rfl,rfl,hq,he,q⟩:=h
 cases rx
 obtain ⟨t,rfl⟩:=ry
 obtain ⟨its,r,pl,hz⟩:=I.tuple hq
 obtain ⟨j,h1,h2,h3,h4,h5⟩:=uV he
 obtain ⟨w,ew,rw'⟩:=r.get h2
 have hl:=r.length
 have hn:=nG
 have fin:EP X pins σ Q w s:=⟨z,H,I,rw',q⟩
 exact UJ (x:=w) pl.typeIs slot_tuple_getitem.lookup
  (getItem_tuple (j:=j) (Q:=fun r s'=>r=w/\EP X pins σ Q r s') pl (by omega) (by omega) (by rw [N5,<- hl]; exact h1) (by simpa using ew) ⟨rfl,fin⟩) hs
theorem yK:IxR X rIxS:=by
 intro value slice pins s σ H x y v u Q I rx ry h hs
 obtain ⟨z,i,c,rfl,rfl,hz,he,q⟩:=h
 obtain ⟨t,rfl⟩:=rx
 obtain ⟨t',rfl⟩:=ry
 obtain ⟨j,h1,h2,h3,h4,h5⟩:=uV he
 have hl:z.cps.toList.length=z.length:=by simp [Str.length]
 rw [hl] at h1 h4 h5
 have hn:=nG
 exact tail_any (Xg s z t) slot_str_getitem.lookup (getItem_str (c:=c) (by
  have e1:decide (i < -(2 ^ 63:Int))=false:=decide_eq_false (by omega)
  have e2:decide (i ≥ 2 ^ 63)=false:=decide_eq_false (by omega)
  rw [e1,e2,Bool.or_false]) (by rw [h1]; simpa using h2) ⟨.str ⟨#[c]⟩,H,I.tok _,⟨_,rfl⟩,q⟩) hs
theorem Inv.lst {pins:List (Addr×Obj)} {σ:St} {H:Hp} {s:Shared} {p:Addr} {xs:List V} (I:Inv X pins σ H s) (h:H p=some (.lst xs)) :
  ∃ (its:List Value) (n:Nat),Vals xs its/\s.heap.get? p=some { cls:=.type "list",data:=.seq its.toArray n }/\xs.length<=sizeLine:=by
 obtain ⟨z,its,n,r,e⟩:=I.hok p _ h
 exact ⟨its,n,r,e,z⟩
theorem mO (lo hi:Option Int) (n:Nat):(sliceBounds lo hi none n).1=((HT.sIx n 0 lo:Nat):Int)/\(sliceBounds lo hi none n).2.1=((HT.sIx n n hi:Nat):Int)/\(sliceBounds lo hi none n).2.2=1:=by
 refine ⟨?_,?_,rfl⟩
 ·cases lo with
  | none=>simp [sliceBounds,HT.sIx]
  | some i =>
   simp only [sliceBounds,HT.sIx,Wz,show (1:Int)>0 by decide,if_true]
   by_cases h:i<0
   ·simp only [h,if_true] <;> omega
   ·simp only [h,if_false] <;> omega
 ·cases hi with
  | none=>simp [sliceBounds,HT.sIx]
  | some i =>
   simp only [sliceBounds,HT.sIx,Wz,show (1:Int)>0 by decide,if_true]
   by_cases h:i<0
   ·simp only [h,if_true] <;> omega
   ·simp only [h,if_false] <;> omega
theorem rQ (its:List Value) (lo hi:Option Int):slicePick its.toArray lo hi none=((its.drop (HT.sIx its.length 0 lo)).take (HT.sIx its.length its.length hi-HT.sIx its.length 0 lo)).toArray:=by
 obtain ⟨h1,h2,h3⟩:=mO lo hi its.toArray.size
 unfold slicePick
 rw [h1,h2,h3]
 simp only [sliceRange_one,pick_run,N5] <;> rfl
def rSlL (K:Nh):V->Option Int->Option Int->Hp->VK->Prop:=fun x lo hi H Q=>∃ a xs,x=.ref a/\SqL K H a xs/\∀ p,H p=none->Q (.ref p) (upd H p (.lst (cutV xs lo hi)))
theorem lU:SlR X (rSlL X.K):=by
 intro pins s σ H x v vl vu lo hi sl Q I rx hs pl pu h
 obtain ⟨a,xs,rfl,hx,q⟩:=h
 cases rx
 obtain ⟨its,r,ht,hz⟩:=I.list hx
 have hlen:=r.length
 refine ⟨"list",_,Ud.lookup,ht.isList.typeIs,?_⟩
 refine Ue ht.isList hs pl pu .none (by simp) ?_ (by rw [N5] <;> omega)
 rw [rQ,<- hlen]
 refine ⟨.ref s.heap.objs.size,_,I.laid (t':=s.toks) (o:=.lst (cutV xs lo hi)) (fun b ob q=>Nk _ q) (Nu _) ?_,rfl,q _ (I.hok.fresh (Nu _))⟩
 exact ⟨OJ (oH xs lo hi) hz,_,0,(r.drop (HT.sIx xs.length 0 lo)).take (HT.sIx xs.length xs.length hi-HT.sIx xs.length 0 lo),NQ _ rfl⟩
theorem bB:CallR X (.builtin "len") (fun xs H Q=>∃ p ys,xs=[.ref p]/\(SqL X.K H p ys∨SqT X.K H p ys)/\Q (.int ys.length) H):=by
 intro pins s σ H xs us Q I r h
 obtain ⟨p,ys,rfl,hq,q⟩:=h
 obtain ⟨u,rfl,rx⟩:=vals1 r
 cases rx
 have hn:=nG
 rcases hq with hq | hq
 ·obtain ⟨its,r',pl,hz⟩:=I.list hq
  have hlen:=r'.length
  exact Calls.call_len_list pl.isList (by simp only [N5] <;> omega) ⟨.int ys.length,H,I.tok _,⟨s.toks+1,by rw [N5,hlen]⟩,q⟩
 ·obtain ⟨its,r',pl,hz⟩:=I.tuple hq
  have hlen:=r'.length
  exact len_tuple pl (by simp only [N5] <;> omega) ⟨.int ys.length,H,I.tok _,⟨s.toks+1,by rw [N5,hlen]⟩,q⟩
theorem dM:CallR X (.builtin "len") (fun xs H Q=>∃ z,xs=[.str z]/\z.length<=sizeLine/\Q (.int z.length) H):=by
 intro pins s σ H xs us Q I r h
 obtain ⟨z,rfl,hz,q⟩:=h
 obtain ⟨u,rfl,t,rfl⟩:=vals1 r
 have hn:=nG
 exact len_str (by omega) ⟨.int z.length,H,I.tok _,⟨_,rfl⟩,q⟩
theorem CallR.or {f:Value} {r r':List V->Hp->VK->Prop} (h:CallR X f r) (h':CallR X f r'):CallR X f (fun xs H Q=>r xs H Q∨r' xs H Q):=by
 intro pins s σ H xs us Q I rs q
 rcases q with q | q
 ·exact h pins s σ H xs us Q I rs q
 ·exact h' pins s σ H xs us Q I rs q
theorem gn:CallR X (.type "tuple") (fun xs H Q=>∃ p ys,xs=[.ref p]/\((SqL X.K H p ys/\∀ l,H l=none->Q (.ref l) (upd H l (.tup ys)))∨(SqT X.K H p ys/\Q (.ref p) H))):=by
 intro pins s σ H xs us Q I r h
 obtain ⟨p,ys,rfl,h⟩:=h
 obtain ⟨u,rfl,rx⟩:=vals1 r
 cases rx
 rcases h with ⟨hq,q⟩ | ⟨hq,q⟩
 ·obtain ⟨its,r',pl,hz⟩:=I.list hq
  have hlen:=r'.length
  refine call_tuple_list pl.isList (fun h' kp=>?_) (by simp only [N5] <;> omega)
  have I1:Inv X pins σ H { s with heap:=h' }:=I.kept (t':=s.toks) kp
  have I2:Inv X pins σ (upd H h'.objs.size (.tup ys)) { s with heap:=h'.push { cls:=.type "tuple",data:=.seq its.toArray } } :=
   I1.laid (t':=s.toks) (fun b o e=>Nk _ e) (Nu _) (show ObjOk X.prog X.w _ _ _ (.tup ys) from ⟨hz,its,r',IsTup.new _ _⟩)
  exact ⟨.ref h'.objs.size,_,I2,rfl,q _ (I1.hok.fresh (Nu _))⟩
 ·obtain ⟨its,r',pl,hz⟩:=I.tuple hq
  exact call_tuple_same pl ⟨.ref p,H,I,rfl,q⟩
def tyV (K:Nh) (T:String) (x:V) (H:Hp):Prop:=match x with
 | .str _=>T="str"
 | .int _=>T="int"
 | .ref p=>(T="list"/\∃ xs,SqL K H p xs)∨(T="tuple"/\∃ o,K.lookup p=some o/\o.cls=.type "tuple"/\o.dict=none) ∨
   (T="dict"/\((∃ kvs,H p=some (.dK kvs))∨∃ kvs,H p=some (.dT kvs)))∨(T="set"/\∃ S n,H p=some (.set S n))
 | _=>False
theorem J8 {pins:List (Addr×Obj)} {σ:St} {H:Hp} {s:Shared} {T:String} {x:V} {v:Value} (I:Inv X pins σ H s) (r:RelV x v) (ty:tyV X.K T x H) :
  s.TypeIs v T/\∀ a,v=.ref a->∃ ob,s.heap.get? a=some ob/\ob.dict=none:=by
 cases x with
 | str z =>
  obtain ⟨t,rfl⟩:=r
  cases (show T="str" from ty)
  exact ⟨Xg s z t,fun _ e=>nomatch e⟩
 | int i =>
  obtain ⟨t,rfl⟩:=r
  cases (show T="int" from ty)
  exact ⟨typeIs_int s i t,fun _ e=>nomatch e⟩
 | ref p =>
  cases r
  rcases ty with ⟨rfl,xs,hq⟩ | ⟨rfl,o,hk,hc,hd⟩ | ⟨rfl,hk⟩ | ⟨rfl,S,n,hk⟩
  ·obtain ⟨its,_,pl,_⟩:=I.list hq
   refine ⟨pl.isList.typeIs,fun a e=>?_⟩
   cases e
   obtain ⟨o,n,e,c,hd,_⟩:=pl
   exact ⟨o,e,hd⟩
  ·refine ⟨⟨o,I.kIn p o hk,hc⟩,fun a e=>?_⟩
   cases e
   exact ⟨o,I.kIn _ o hk,hd⟩
  ·have z:∃ o,s.heap.get? p=some o/\o.ExactDict:=by
    rcases hk with ⟨kvs,hk⟩ | ⟨kvs,hk⟩
    ·obtain ⟨_,_,_,_,o,_,_,e,ex,_⟩:=I.hok p _ hk
     exact ⟨o,e,ex⟩
    ·obtain ⟨_,_,_,_,o,_,_,e,ex,_⟩:=I.hok p _ hk
     exact ⟨o,e,ex⟩
   obtain ⟨o,e,ex⟩:=z
   refine ⟨⟨o,e,ex.1⟩,fun a e2=>?_⟩
   cases e2
   exact ⟨o,e,ex.2.1⟩
  ·obtain ⟨o,_,_,_,e,ex,_⟩:=I.hok p _ hk
   refine ⟨⟨o,e,ex.1⟩,fun a e2=>?_⟩
   cases e2
   exact ⟨o,e,ex.2.1⟩
 | _=>exact False.elim ty
def tBM (K:Nh) (T:String) (r:V->List V->Hp->VK->Prop) (to:TE) (t:TA):TE:=fun σ H Q=>to σ H fun x H1=>tyV K T x H1/\t σ H1 fun xs H2=>r x xs H2 Q
variable {o e:Expr} {es:List Expr} {to:TE} {t:TA} {name:Str} {apos cpos:Pos} {T id:String} {r:V->List V->Hp->VK->Prop}
theorem dZ (pa:PlainAttrs T) (slot:Slot T name id) (hty:typeOf (.builtin id)=pure (.type "method_descriptor")) (hm:MtR X id r) (ho:PE X o to) (ha:PA X (e::es) t)
  (hbase:attributeBase o name X.env (eval o X.env)=eval o X.env:=by rfl)
  (hfew:((backTo cpos (starEach (e::es) X.env)).all (fun x=>!x.1) && (backToKw cpos (keywordEach [] X.env)).all (fun x=>x.1.isSome)
   && decide ((e::es).length+([]:List Keyword).length+(if ([]:List Keyword).isEmpty then 0 else 1)<30))=true:=by rfl)
  (hline:(apos.endLine==cpos.line)=true:=by rfl) (hs:starEach (e::es) X.env=(false,eval e X.env)::starEach es X.env:=by rfl) (hplain:(backTo cpos (starEach es X.env)).any (·.1)=false:=by rfl) :
  PE X (.Call (.Attribute o name apos) (e::es) [] cpos) (tBM X.K T r to t):=by
 intro pins s σ H Q I h
 refine wpAny_Call_method_late hbase hfew hline rfl (thn (ho pins s σ H _ I h) fun v s1 ⟨x,H1,I1,r1,ty,q1⟩=>?_)
 obtain ⟨h1,h2⟩:=J8 I1 r1 ty
 refine ⟨T,id,pa,slot,hty,h1,h2,?_⟩
 have hA:=ha cpos pins s1 σ H1 _ I1 q1
 rw [hs] at hA ⊢
 refine Sh (by show (false || (backTo cpos (starEach es X.env)).any (·.1))=false; rw [hplain] <;> rfl) (RD ?_)
 exact thn hA fun us s2 ⟨vs,H2,I2,r2,q2⟩=>hm pins s2 σ H2 x vs v us Q I2 r1 r2 q2
/- xs.append(e),list.index on a module's tuple .. are MtR facts of 06m -/
end
def MtM (X:Cx) (id:String) (r:V->List V->Hp->VK->Prop):Prop :=
 ∀ (pins:List (Addr×Obj)) (s:Shared) (σ:St) (H:Hp) (x:V) (xs:List V) (v:Value) (us:List Value) (Q:VK),Inv X pins σ H s->RelV x v->Vals xs us->r x xs H Q ->
  wpAny (model X.prog X.w) X.A (call (.builtin id) (v::us)) (EP X pins σ Q) X.xe s
theorem Vals.one:∀ {x:V} {us:List Value},Vals [x] us->∃ u,us=[u]/\RelV x u
 | _,_,.cons r .nil=>⟨_,rfl,r⟩
theorem Vals.zero:∀ {us:List Value},Vals [] us->us=[]
 | _,.nil=>rfl
theorem Vals.dropLast {xs:List V} {us:List Value} (h:Vals xs us):Vals xs.dropLast us.dropLast:=by
 induction h with
 | nil=>exact .nil
 | cons r t ih =>
  cases t with
  | nil=>exact .nil
  | cons q t'=>exact .cons r ih
theorem Vals.eraseIdx:∀ {xs:List V} {us:List Value} (i:Nat),Vals xs us->Vals (xs.eraseIdx i) (us.eraseIdx i)
 | _,_,_,.nil=>.nil
 | _,_,0,.cons _ t=>t
 | _,_,i+1,.cons r t=>.cons r (Vals.eraseIdx i t)
theorem Vals.reverse {xs:List V} {us:List Value} (h:Vals xs us):Vals xs.reverse us.reverse:=by
 induction h with
 | nil=>exact .nil
 | cons r t ih=>rw [Rv,Rv]; exact Vals.append ih (.cons r .nil)
section
variable {X:Cx} {pins:List (Addr×Obj)} {σ:St} {H:Hp} {s:Shared} {l b:Addr} {xs ys zs:List V}
theorem Inv.lset {its its':List Value} {n:Nat} {f:Array Value->Array Value} {t':Nat} (I:Inv X pins σ H s) (hH:H l=some (.lst xs))
  (e:s.heap.get? l=some { cls:=.type "list",data:=.seq its.toArray n }) (hf:f its.toArray=its'.toArray) (hv:Vals ys its') (hz:ys.length<=sizeLine) :
  Inv X pins σ (upd H l (.lst ys)) { s with heap:=s.heap.update l (Obj.mapSeq f),toks:=t' }:=by
 have q:=PySem.IsL.update e f
 rw [hf] at q
 refine I.write (x:=l) (e:=l) (by rw [hH]; exact trivial) (.inl rfl) (fun b' u hb hu=>(UL s.heap (Obj.mapSeq f) (Ne.symm hb)).trans hu) ⟨_,q⟩ ?_
 exact ⟨hz,its',_,hv,q⟩
theorem Inv.lnew {its:List Value} {t':Nat} (I:Inv X pins σ H s) (hv:Vals ys its) (hz:ys.length<=sizeLine) :
  Inv X pins σ (upd H s.heap.objs.size (.lst ys)) { s with heap:=s.heap.push { cls:=.type "list",data:=.seq its.toArray },toks:=t' } :=
 I.laid (fun _ _ q=>Nk _ q) (Nu _) ⟨hz,its,0,hv,NQ _ rfl⟩
theorem Inv.fresh (I:Inv X pins σ H s):H s.heap.objs.size=none:=I.hok.fresh (Nu _)
theorem Inv.lstM (I:Inv X pins σ H s) (hH:H l=some (.lst xs)):xs.length<=sizeLine/\∃ (its:List Value) (n:Nat),Vals xs its/\xs.length=its.length/\s.heap.get? l=some { cls:=.type "list",data:=.seq its.toArray n }:=by
 obtain ⟨z,its,n,r,e⟩:=I.hok l _ hH
 exact ⟨z,its,n,r,r.length,e⟩
theorem vZ {n:Nat} (h:n<=sizeLine):Builtin.List.listTooLong n=false:=by
 unfold Builtin.List.listTooLong
 exact decide_eq_false (by omega)
end
section
variable {X:Cx}
def zB:V->List V->Hp->VK->Prop:=fun x vs H Q=>∃ l xs y,x=.ref l/\vs=[y]/\H l=some (.lst xs)/\xs.length<sizeLine/\Q .non (upd H l (.lst (xs++[y])))
theorem bO:MtM X "list.append" zB:=by
 intro pins s σ H x vs v us Q I rx rv h
 obtain ⟨l,xs,y,rfl,rfl,hH,hz,q⟩:=h
 cases rx
 obtain ⟨u,rfl,ru⟩:=rv.one
 obtain ⟨z,its,n,r,hl,e⟩:=I.lstM hH
 refine Vq V2 ⟨_,e,rfl⟩ VD (Vt _ _) (Wf l its.toArray n u (by rw [N5]; omega)) ⟨e,?_⟩
 refine ⟨.non,_,I.lset (its':=its++[u]) hH e (by simp) (r.append (.cons ru .nil)) ?_,rfl,q⟩
 rw [Np,O5]
 omega
def Hg:V->List V->Hp->VK->Prop:=fun x vs H Q=>∃ l b xs zs,x=.ref l/\vs=[.ref b]/\H l=some (.lst xs)/\H b=some (.lst zs)/\xs.length+zs.length<=sizeLine/\Q .non (upd H l (.lst (xs++zs)))
theorem Cj:MtM X "list.extend" Hg:=by
 intro pins s σ H x vs v us Q I rx rv h
 obtain ⟨l,b,xs,zs,rfl,rfl,hH,hB,hz,q⟩:=h
 cases rx
 obtain ⟨u,rfl,ru⟩:=rv.one
 cases ru
 obtain ⟨z,its,n,r,hl,e⟩:=I.lstM hH
 obtain ⟨z2,its2,n2,r2,hl2,e2⟩:=I.lstM hB
 have hsz:its.toArray.size+its2.toArray.size<=sizeLine:=by rw [N5,N5]; omega
 have hlong:¬ (!its.toArray.isEmpty && Builtin.List.listTooLong (its.toArray.size+its2.toArray.size))=true:=by
  rw [vZ hsz,SM]
  exact Oz
 refine Vq V3 ⟨_,e,rfl⟩ VF (Vu _ _)
  (AutoSeq1.list_extend_list_list_0 l its.toArray n b its2.toArray n2 hlong (by rw [N5]; omega) (by omega)) ⟨e,e2,?_⟩
 refine ⟨.non,_,I.lset (its':=its++its2) hH e (by simp) (r.append r2) ?_,rfl,q⟩
 rw [Np]
 omega
def rCat:R2:=fun x y H Q=>∃ l b xs zs,x=.ref l/\y=.ref b/\H l=some (.lst xs)/\H b=some (.lst zs)/\xs.length+zs.length<=sizeLine/\∀ p,H p=none->Q (.ref p) (upd H p (.lst (xs++zs)))
theorem xQ:OpR X (binaryOp .Add) rCat:=by
 intro pins s σ H x y v u Q I rx ry h
 obtain ⟨l,b,xs,zs,rfl,rfl,hH,hB,hz,q⟩:=h
 cases rx
 cases ry
 obtain ⟨z,its,n,r,hl,e⟩:=I.lstM hH
 obtain ⟨z2,its2,n2,r2,hl2,e2⟩:=I.lstM hB
 refine PySem.P.add_list e e2 ?_ (by rw [N5,N5]; omega)
 have ea:its.toArray++its2.toArray=(its++its2).toArray:=by simp
 rw [ea]
 exact ⟨.ref _,_,I.lnew (t':=s.toks) (r.append r2) (by rw [Np]; omega),rfl,q _ I.fresh⟩
end
section
variable {prog:Program} {w:World} {A:Around} {E:Value->Shared->Prop} {s:Shared}
end
section
variable {X:Cx}
end
end L2
namespace Att
open PySem PySem.W PySem.Calls PyProof.Rows
theorem oM {P:Params} {h:Heap}:∀ (ns:List Int) (vs:List Value),WellAll P h vs (ns.map WData.int)->IntsAre vs ns:=by
 intro ns
 induction ns with
 | nil =>
  intro vs w
  rw [TJ] at w
  cases w
  exact .nil
 | cons n ns ih =>
  intro vs w
  rw [Ow] at w
  cases w with
  | cons a b =>
   cases a
   exact .cons _ _ (ih _ b)
theorem Bu {l:OpenLaw} {n:Nat} (hn:l.most=some n) {P:Params} {h:Heap} {args:List WData} {vals:List Value}
  (hpre:l.row.toRowW.claim.pre args=true) (hwl:WellAll P h vals args) :
  ∃ a vs ns,vals=[Value.ref a]/\args=[WData.list (ns.map WData.int)]/\h.get? a=some { cls:=.type "list",data:=.seq vs.toArray }/\IntsAre vs ns/\ns.length<=n:=by
 have hsh:WShape.hasAll [] args [.list .int]=true:=(pre_splitW hpre).1
 have hc:l.pre.holds [] { args:=args }=true:=(pre_splitW hpre).2
 obtain ⟨d,r,rfl,h1,h2⟩:=hasAllW_cons hsh
 obtain rfl:=hasAllW_nil h2
 obtain ⟨xs,rfl,h3⟩:=hasW_list h1
 obtain ⟨ns,rfl⟩:=items_int h3
 have hlen:ns.length<=n:=by
  unfold OpenLaw.pre at hc
  have h4:(WTm.not (.lt (.lit (.int (n:Int))) (.len (.arg 0)))).holds [] { args:=[.list (ns.map .int)] }=true:=by
   have h4:=(holds_andW hc).1
   rw [hn] at h4
   exact h4
  have h5:=condW_of h4 (w_not (w_lt w_lit (w_len_list (w_arg rfl))))
  rw [Ng] at h5
  refine Nat.le_of_not_lt fun q=>?_
  have q':(n:Int)<((ns.length:Nat):Int):=by omega
  first
   | (rw [decide_eq_true q'] at h5; exact absurd h5 (by decide))
   | (simp at h5; omega)
 cases hwl with
 | cons w1 w2 =>
  cases w2
  cases w1 with
  | list ho hall=>exact ⟨_,_,ns,rfl,rfl,ho,oM ns _ hall,hlen⟩
theorem Bm (l:OpenLaw) (args:List WData):l.row.toRowW.claim.post args (.bool true) args=true :=
 postW_of (r:=l.row.toRowW) (X:=(true==true))
  (show WShape.has [] (.bool true) .bool=true by first | rfl | decide | simp [WShape.has,WShape.arms,WShape.armsAll])
  (show (WTm.eq .res (.lit (.bool true))).value [] { args:=args,res:=some (.bool true),after:=args }=some (.bool (true==true)) from w_eq_bool (w_res rfl) w_lit) rfl
theorem attach_call {l:OpenLaw} {n:Nat} {q:Program} {loose:List Str} {XP:(Str->Option Value)->Heap->Prop} {YP:World->Heap->Prop} {d:DefRec}
  (hn:l.most=some n) (hdf:d.params.defaults=[])
  (call:∀ (w:World) (s₀ s₁:Shared) (mg mb:Str->Option Value) (fa:Addr) (o:Obj) (pm cd doc:Value) (a:Addr) (vs:List Value) (ns:List Int),
   Ground q loose [] XP w s₀ mg mb s₁.heap->YP w s₁.heap ->
   s₁.heap.get? fa=some o->o.data=.func (docDef d.name d.params d.body d.scope pm cd doc)->s₁.heap.CodeRec cd d.name->mg d.name=some (.ref fa) ->
   s₁.heap.get? a=some { cls:=.type "list",data:=.seq vs.toArray }->IntsAre vs ns->ns.length<=n->s₁.gens=#[] ->
   codeAny (model l.prog w) callerA (.call (.ref fa) ⟨[.ref a],[]⟩) (fun r s'=>r=.ok (.ret (.bool true))/\OldK s₁.heap s'.heap/\s'.os=s₁.os/\AllBare s'.gens) s₁) :
  WalkO q loose XP YP l.row.toRowW d [] (fun f vs=>PySem.call f vs):=by
 intro w s₀ s₁ mg mb G Y fa o pm cd doc dV kV ho hd hcd hD hmg hg args vals as hpre hlay hrd hwl hlo
 obtain rfl:dV=.none:=Dflts.none hD hdf
 obtain rfl:kV=.none:=Dflts.noKw hD
 obtain ⟨a,vs,ns,rfl,rfl,hobj,hints,hlen⟩:=Bu hn hpre hwl
 refine enter_call (RQ (call w s₀ s₁ mg mb fa o pm cd doc a vs ns G Y ho (fd_plain hd) hcd hmg hobj hints hlen hg) fun r s' hq=>?_)
 obtain ⟨rfl,h2,h3,h4⟩:=hq
 exact ⟨.inl ⟨.bool true,.bool true,[],rfl,fun _=>rfl,.bool true,Bm l _,fun _=>⟨List.Pairwise.nil,fun _ hm=>(nomatch hm)⟩⟩,h2,h3,h4⟩
section
variable {prog:Program} {w:World} {A:Around} {E:Value->Shared->Prop} {s:Shared} {K:Frag}
end
end Att
namespace L2
open PySem PySem.Spec PyProof.Rows
theorem nY:∀ {vs:List Value} {ns:List Int},IntsAre vs ns->Vals (ns.map V.int) vs
 | _,_,.nil=>.nil
 | _,_,.cons n t h=>.cons ⟨t,rfl⟩ (nY h)
def Only (H:Hp):Prop:=∀ b,H b=none∨∃ o xs,H b=some (.frz o (.lst xs))
theorem FW {P:Program} {w:World} {K:Nh} {mg mb:Str->Option Value} {CX:CXT} {k:Nat} {fa a:Addr} {fd:FuncData} {x:Str} {sp:Sp} {s₁:Shared} {vs:List Value} {ns:List Int}
  (KX:K.In s₁.heap) (hns:s₁.heap.Ns mainGlobals mg) (hb:s₁.heap.Ns builtinsNs mb) (hbb:∀ x:Str,x≠"__name__"->mb x=bootBuiltins x) (hlim:s₁.heap.NoLimit) (hg:s₁.gens=#[])
  (ha:s₁.heap.get? a=some { cls:=.type "list",data:=.seq vs.toArray }) (hi:IntsAre vs ns) (hl:ns.length<=sizeLine) (hr:Room k callerA)
  (F:∀ base:Heap,K.In base->base.Ns mainGlobals mg->FnOk P w K mg base CX k fa fd [x] sp) (hbind:∀ (s:Shared) (u:Value),BindsTo s fd ⟨[u],[]⟩ [(x,u)])
  (hsp:∀ H:Hp,Only H->SqL K H a (ns.map V.int)->sp [.ref a] H (fun v _=>v=.bl true) fun _ _ _=>False)
  (hCX:∀ H e s',CX [] H s₁ (fun _ _ _=>False) e s'->False) :
  codeAny (model P w) callerA (.call (.ref fa) ⟨[.ref a],[]⟩) (fun r s'=>r=.ok (.ret (.bool true))/\OldK s₁.heap s'.heap/\s'.os=s₁.os/\AllBare s'.gens) s₁:=by
 have rv:=nY hi
 have lenV:=hi.length
 have core:∀ H:Hp,Only H->SqL K H a (ns.map V.int)->HOk P w H s₁.heap->(∀ b,H b≠none->b=a)->(H a≠none->K.lookup a=none) ->
   codeAny (model P w) callerA (.call (.ref fa) ⟨[.ref a],[]⟩) (fun r s'=>r=.ok (.ret (.bool true))/\OldK s₁.heap s'.heap/\s'.os=s₁.os/\AllBare s'.gens) s₁:=by
  intro H hO hS hok hA hK
  have base_of:∀ {b:Addr} {o:Obj},s₁.heap.get? b=some o->H b=none->(hidT s₁.heap H).get? b=some o:=fun e n=>DP e n
  have noA:∀ {b:Addr} {o:Obj} {es:Array DictEntry} {ep:Nat},s₁.heap.get? b=some o->o.data=.dict es ep->H b=none:=fun {b o es ep} e d=>by
   cases q:H b with
   | none=>rfl
   | some u =>
    have e':b=a:=hA b (by rw [q]; simp)
    subst e'
    rw [ha] at e; cases e
    have d':Data.seq vs.toArray _=Data.dict es ep:=d
    cases d'
  have nsK:∀ {b:Addr} {m:Str->Option Value},s₁.heap.Ns b m->(hidT s₁.heap H).Ns b m:=fun {b m} ⟨o,es,ep,e,d,r⟩=>⟨o,es,ep,base_of e (noA e d),d,r⟩
  have hKb:K.In (hidT s₁.heap H):=fun b o e=>base_of (KX b o e) (by
   cases q:H b with
   | none=>rfl
   | some u =>
    have e':b=a:=hA b (by rw [q]; simp)
    subst e'
    rw [hK (by rw [q]; simp)] at e; cases e)
  have hM:Mod K mg (hidT s₁.heap H):=⟨hKb,nsK hns,⟨mb,nsK hb,hbb⟩,let ⟨mc,h1,h2⟩:=hlim; ⟨mc,nsK h1,h2⟩⟩
  have e0:Env0 P w K mg (hidT s₁.heap H) callerA [] s₁ H:=⟨rfl,hM,fun b o e=>HW e,TF (Ce _ _),trivial,fun b hb=>absurd (show b∈([]:List Addr) from hb) (by simp),hok,.of_eq hg⟩
  refine RQ ((F _ hKb (nsK hns)).run callerA [] s₁ H ⟨[.ref a],[]⟩ [.ref a] [.ref a] _ _ hr e0 (hbind s₁ (.ref a)) (.cons rfl .nil) (hsp H hO hS)) fun r s' h=>?_
  cases r with
  | error e=>exact (hCX H e s' h).elim
  | ok fl =>
   cases fl with
   | next=>exact False.elim h
   | brk=>exact False.elim h
   | cont=>exact False.elim h
   | ret u =>
    obtain ⟨v,H',os,bare,un,hok',r',q⟩:=h
    have q':v=.bl true:=q
    subst q'
    obtain rfl:u=Value.bool true:=r'
    refine ⟨rfl,OldK.of_keep fun b o e=>?_,os,bare⟩
    cases q:H b with
    | none=>exact un.keep b o e q (by intro z; exact absurd (show b∈([]:List Addr) from z) (by simp)) (by simp)
    | some u =>
     rcases hO b with z | ⟨ob,xs,z⟩
     ·rw [q] at z; cases z
     ·have z2:=un.frzs b ob _ z
      obtain ⟨e1,_⟩:=hok b _ z
      obtain ⟨e2,_⟩:=hok' b _ z2
      rw [e] at e1; cases e1
      exact e2
 cases hk:K.lookup a with
 | some o =>
  have e:=KX a o hk
  rw [ha] at e
  cases e
  refine core (fun _=>none) (fun _=>.inl rfl) (.inr ⟨_,vs.toArray,_,hk,rfl,rfl,rfl,by rw [N5,lenV]; exact hl,by simpa using rv⟩) (fun b u z=>by have z':(none:Option HO)=some u:=z; cases z') (fun b z=>absurd rfl z) fun z=>absurd rfl z
 | none =>
  refine core (fun b=>if b=a then some (.frz { cls:=.type "list",data:=.seq vs.toArray } (.lst (ns.map V.int))) else none) (fun b=>?_) (.inl (.inr ⟨{ cls:=.type "list",data:=.seq vs.toArray },if_pos rfl⟩)) (fun b u z=>?_) (fun b z=>?_) fun _=>hk
  ·by_cases hb:b=a
   ·exact .inr ⟨_,_,if_pos hb⟩
   ·exact .inl (if_neg hb)
  ·by_cases hb:b=a
   ·have z':=(if_pos hb).symm.trans z
    cases z'
    subst hb
    exact ⟨ha,by rw [Ng]; exact hl,vs,_,rv,ha⟩
   ·have z':=(if_neg hb).symm.trans z
    cases z'
  ·by_cases hb:b=a
   ·exact hb
   ·exact absurd (if_neg hb) z
abbrev KOf {K:Nh} {h:Heap} (_:K.In h):Nh:=K
theorem walk_of {l:PySem.W.OpenLaw} {n k:Nat} {q:Program} {loose:List Str} {XP:(Str->Option Value)->Heap->Prop} {YP:World->Heap->Prop} {d:DefRec} {K:Params->Nh} {CX:World->CXT} {sp:World->Sp} {x:Str}
  (hn:l.most=some n) (hn2:n<=sizeLine) (hdf:d.params.defaults=[]) (hr:Room k callerA)
  (hY:∀ (w:World) (h:Heap),YP w h->(K w.params).In h)
  (F:∀ (w:World) (mg:Str->Option Value) (fa:Addr) (h:Heap),(K w.params).In h->h.Ns mainGlobals mg->mg d.name=some (.ref fa) ->
   ∃ fd:FuncData,(∀ (s:Shared) (u:Value),BindsTo s fd ⟨[u],[]⟩ [(x,u)]) /\
    ∀ base:Heap,(K w.params).In base->base.Ns mainGlobals mg->FnOk l.prog w (K w.params) mg base (CX w) k fa fd [x] (sp w))
  (hsp:∀ (w:World) (H:Hp) (a:Addr) (ns:List Int),ns.length<=n->Only H->SqL (K w.params) H a (ns.map V.int)->sp w [.ref a] H (fun v _=>v=.bl true) fun _ _ _=>False)
  (hCX:∀ (w:World) (H:Hp) (s:Shared) (e:Value) (s':Shared),CX w [] H s (fun _ _ _=>False) e s'->False) :
  PySem.W.WalkO q loose XP YP l.row.toRowW d [] (fun f vs=>PySem.call f vs):=by
 refine Att.attach_call hn hdf fun w s₀ s₁ mg mb fa o pm cd doc a vs ns G Y ho hd hcd hmg hobj hints hlen hg=>?_
 have KX:=hY w _ Y
 obtain ⟨fd,hb,hF⟩:=F w mg fa _ KX G.T.g hmg
 exact FW KX G.T.g G.T.b G.T.builtins G.T.nolimit hg hobj hints (OJ hlen hn2) hr hF hb (fun H hO hS=>hsp w H a ns hlen hO hS) fun H e s'=>hCX w H s₁ e s'
end L2
/- THE LAST THEOREM (shape; LID,My.* are yours):
  My.Adr: a structure of the addresses that your layer names (classes,functions); My.Txt K t: a structure (Prop) of the equations over K;
  My.txt_mk:{K} {implicit addresses ..} (e1:nsIn K mainGlobals "law"=some (some (.ref f))) (e2:K.lookup f=some ⟨oc,od,.func (fnOf "law" "law" params body scope dV kV doc pm an cdv ct),sl⟩) (e3:codeIn K cdv "law"=true) ..:∃ t,My.Txt K t
set_option maxRecDepth 100000 in
set_option maxHeartbeats 0 in
theorem PySem.Challenge.cw_LID_holds:PySem.Challenge.rw_LID.Holds:=by
 w_on; o_law; k_head; (case hw=>w_witness2)
 k_fill
 refine L2.walk_of (l:=PySem.Challenge.rw_LID) (n:=63) (k:=40) (x:="script") (CX:=fun w=>..) (sp:=fun _=>My.sp_law) rfl (by decide) rfl ⟨rfl,by decide,by decide⟩ (fun w h Y=>PySem.W.kIn_of Y) ?F ?S ?C
 case F =>
  intro w mg fa h KX G hmg
  have T:∃ t,My.Txt (L2.KOf KX) t:=by
   dsimp only [L2.KOf]
   refine' My.txt_mk ?e1 ?e2 ?e3 ..
   (case e1=>PySem.W.k_is)
   (case e2=>PySem.W.k_is)
   ..
  obtain ⟨t,T⟩:=T
  have e0:=hmg.symm.trans (N8 KX G T.law)
  cases e0
  exact ⟨_,fun s u=>.of_eq rfl,fun base kb nb=>My.law_fn T kb nb⟩
 case S=>exact fun w H a ns hl hO hS=>..
 case C=>exact ..
(the tactic k_is has no namespace: write k_is) -/
namespace L2
open PySem PySem.Spec PyProof.Rows
def inClass (s:Stmt) (j:Nat):Stmt:=match s with
 | .ClassDef _ _ _ body _ _ _ _ _ _ _=>body.getD j (.Pass ⟨0,0,0,0⟩)
 | _=>.Pass ⟨0,0,0,0⟩
def aP (s:Stmt):Arguments:=match s with
 | .FunctionDef _ a _ _ _ _ _ _ _ _=>a
 | _=>{ posonlyargs:=[],args:=[],vararg:=none,kwonlyargs:=[],kw_defaults:=[],kwarg:=none,defaults:=[] }
def aM (s:Stmt):List Stmt:=match s with
 | .FunctionDef _ _ b _ _ _ _ _ _ _=>b
 | _=>[]
def aA (s:Stmt):Scope:=match s with
 | .FunctionDef _ _ _ _ _ _ sc _ _ _=>sc
 | _=>{ kind:=.function,names:=[],isGenerator:=false,isCoroutine:=false }
abbrev CX0:CXT:=fun _ _ _ _ _ _=>False
abbrev E0:XK:=fun _ _ _=>False
theorem zp {X:Cx}:Passes CX0 X E0:=fun _ _ _ _ _ _ _ h=>h.elim
structure Fun (K:Nh) (x qual:Str) (st:Stmt) (f:Addr) (fd:FuncData):Prop where
 ex:∃ (oc:Value) (od:Option Addr) (kV doc pm:Value) (an:Option Addr) (cdv ct:Value) (osl:Array (Option Value)),
  fd=PySem.W.fnOf x qual (aP st) (aM st) (aA st) .none kV doc pm an cdv ct/\K.lookup f=some ⟨oc,od,.func fd,osl⟩/\PySem.W.codeIn K cdv qual=true
 kp:PySem.W.keepIn K (.ref f)=true
section
variable {P:Program} {w:World} {K:Nh} {mg:Str->Option Value} {base:Heap}
theorem Fun.ok {x qual:Str} {st:Stmt} {f:Addr} {fd:FuncData} {N ps:List Str} {k:Nat} {sp:Sp} (F:Fun K x qual st f fd) (S:FnScope N ps (aA st)) (len:∀ vs H Q E,sp vs H Q E->vs.length=ps.length)
  (hbody:∀ (cdv:Value) (A:Around) (outer:List Env) (s:Shared) (H:Hp) (vs:List V) (Q:VK) (E:XK),Room k (A.deeper (envOfC qual (aA st) s.heap.objs.size f cdv))->sp vs H Q E ->
   ∃ t,PSs (cxOf CX0 P w K mg base N qual (aA st) f cdv A outer s H E).nox (aM st) t/\t { nx:=fun _ H'=>Q .non H',rt:=Q } (start N vs) H):FnOk P w K mg base CX0 (k+1) f fd ps sp:=by
 obtain ⟨oc,od,kV,doc,pm,an,cdv,ct,osl,rfl,lk,hcd⟩:=F.ex
 refine Jr lk hcd S len fun A outer s H vs Q E hr hsp=>?_
 obtain ⟨t,h,q⟩:=hbody cdv A outer s H vs Q E hr hsp
 exact ⟨t,h.nox,q⟩
theorem Fun.binds {x qual:Str} {st:Stmt} {f:Addr} {fd:FuncData} {ps:List Str} (F:Fun K x qual st f fd)
  (h:∀ (kV doc pm:Value) (an:Option Addr) (cdv ct:Value) (us:List Value),us.length=ps.length->bindArgs (PySem.W.fnOf x qual (aP st) (aM st) (aA st) .none kV doc pm an cdv ct) ⟨us,[]⟩=pure (ps.zip us)):Binds K fd ps []:=by
 obtain ⟨oc,od,kV,doc,pm,an,cdv,ct,osl,rfl,lk,hcd⟩:=F.ex
 exact .all (h kV doc pm an cdv ct)
theorem bH {x qual:Str} {st:Stmt} {f:Addr} {oc:Value} {od an:Option Addr} {osl:Array (Option Value)} {kV doc pm cdv ct:Value} (l:K.lookup f=some ⟨oc,od,.func (PySem.W.fnOf x qual (aP st) (aM st) (aA st) .none kV doc pm an cdv ct),osl⟩)
  (c:PySem.W.codeIn K cdv qual=true) (k:PySem.W.keepIn K (.ref f)=true):Fun K x qual st f (PySem.W.fnOf x qual (aP st) (aM st) (aA st) .none kV doc pm an cdv ct):=⟨⟨oc,od,kV,doc,pm,an,cdv,ct,osl,rfl,l,c⟩,k⟩
end
section
variable {X:Cx}
theorem pv (i:Nat) {x:Str} {pos:Pos} (hN:X.N[i]?=some x:=by rfl) (hv:Vis X.env.scope x:=by first | exact Or.inl rfl | exact Or.inr (Or.inl rfl) | exact Or.inr (Or.inr rfl)) (hd:(x==("__debug__":Str))=false:=by decide)
  (hcd:(x==("__classdict__":Str))=false:=by decide):PE X (.Name x pos) (tVar i):=La hN hv hd hcd
end
theorem iteF {A B:Prop} (h:B):if false=true then A else B:=by
 rw [if_neg Oz]
 exact h
theorem iteT {A B:Prop} (h:A):if true=true then A else B:=by
 rw [if_pos rfl]
 exact h
theorem ite2 {c A B:Prop} [Decidable c] (h1:c->A) (h2:¬ c->B):if c then A else B:=by
 by_cases h:c
 ·rw [if_pos h]
  exact h1 h
 ·rw [if_neg h]
  exact h2 h
def Same (H H':Hp):Prop:=∀ b o,H b=some o->H' b=some o
theorem Same.refl (H:Hp):Same H H:=fun _ _ h=>h
theorem Same.trans {H H1 H2:Hp} (a:Same H H1) (b:Same H1 H2):Same H H2:=fun c o h=>b c o (a c o h)
theorem Same.free {H H':Hp} (e:Same H H') {l:Addr} (h:H' l=Option.none):H l=Option.none:=by
 cases q:H l with
 | none=>rfl
 | some o =>
  rw [e l o q] at h
  cases h
theorem Same.seq {K:Nh} {H H':Hp} {a:Addr} {xs:List V} (e:Same H H') (h:SqL K H a xs):SqL K H' a xs:=by
 rcases h with (h | ⟨o,h⟩) | h
 ·exact .inl (.inl (e _ _ h))
 ·exact .inl (.inr ⟨o,e _ _ h⟩)
 ·exact .inr h
theorem lG {env:Env}:∀ (names:List (Str×NameKind)) (acc:List (Str×Addr)),(∀ y∈names,y.2=NameKind.free->∃ c,env.cells.lookup y.1=some c)->(∀ y c,acc.lookup y=some c->env.cells.lookup y=some c) ->
  ∃ cl,(forIn names acc fun (x:Str×NameKind) (r:List (Str×Addr))=>(if x.2==NameKind.free then do let a<-cellOf env x.1; pure (ForInStep.yield ((x.1,a)::r)) else pure (ForInStep.yield r):Sem (ForInStep (List (Str×Addr)))))=pure cl /\
   (∀ y c,cl.lookup y=some c->env.cells.lookup y=some c)/\(∀ y,(∃ c,acc.lookup y=some c)->∃ c,cl.lookup y=some c)/\∀ y,(y,NameKind.free)∈names->∃ c,cl.lookup y=some c
 | [],acc,_,ha=>⟨acc,rfl,ha,fun _ h=>h,fun _ h=>by cases h⟩
 | (n,k)::r,acc,hf,ha=>by
  by_cases hk:k=NameKind.free
  ·subst hk
   obtain ⟨c,hc⟩:=hf (n,.free) Ny rfl
   have ha':∀ y c',((n,c)::acc).lookup y=some c'->env.cells.lookup y=some c':=fun y c' h=>by
    rw [Qz] at h
    cases e:y==n with
    | true =>
     rw [e] at h
     cases h
     have e':y=n:=by simpa using e
     rw [e']; exact hc
    | false=>rw [e] at h; exact ha y c' h
   obtain ⟨cl,h1,h2,h3,h4⟩:=lG r ((n,c)::acc) (fun y hy=>hf y (Nt _ hy)) ha'
   refine ⟨cl,?_,h2,fun y hy=>h3 y ?_,fun y hy=>?_⟩
   ·rw [WT]
    simp only [beq_self_eq_true,if_true,cellOf,hc,pure_bind]
    exact h1
   ·rw [Qz]
    cases e:y==n with
    | true=>exact ⟨c,rfl⟩
    | false=>exact hy
   ·rcases NT.mp hy with e | hy
    ·cases e
     exact h3 n ⟨c,by rw [Qz,beq_self_eq_true]⟩
    ·exact h4 y hy
  ·have hb:(k==NameKind.free)=false:=by simpa using hk
   obtain ⟨cl,h1,h2,h3,h4⟩:=lG r acc (fun y hy=>hf y (Nt _ hy)) ha
   refine ⟨cl,?_,h2,h3,fun y hy=>?_⟩
   ·rw [WT]
    simp only [hb,Ro,if_false,pure_bind]
    exact h1
   ·rcases NT.mp hy with e | hy
    ·cases e; exact absurd rfl hk
    ·exact h4 y hy
theorem qm {scope:Scope} {env:Env} (h:∀ y∈scope.names,y.2=NameKind.free->∃ c,env.cells.lookup y.1=some c) :
  ∃ cl,closureFor scope env=pure cl/\(∀ y c,cl.lookup y=some c->env.cells.lookup y=some c)/\∀ y,(y,NameKind.free)∈scope.names->∃ c,cl.lookup y=some c:=by
 obtain ⟨cl,h1,h2,_,h4⟩:=lG scope.names [] h (fun y c z=>by simp at z)
 refine ⟨cl,?_,h2,h4⟩
 have e:closureFor scope env=((forIn scope.names ([]:List (Str×Addr)) fun (x:Str×NameKind) (r:List (Str×Addr))=>(if x.2==NameKind.free then do let a<-cellOf env x.1; pure (ForInStep.yield ((x.1,a)::r)) else pure (ForInStep.yield r):Sem (ForInStep (List (Str×Addr))))) >>= fun cs=>pure cs):=rfl
 rw [e,h1]
 rfl
structure CompOk (N:List Str) (fs scope:Scope) (x:Str):Prop where
 kind:scope.kind=.function
 cell:∀ y∈scope.names,y.2≠NameKind.cell
 free:∀ y∈scope.names,y.2=NameKind.free->fs.names.lookup y.1=some .cell∨fs.names.lookup y.1=some .free
 locs:∀ y∈scope.names,y.2=NameKind.local->scope.names.lookup y.1=some .local/\y.1∉N
 own:scope.names.lookup x=some .local
def nP (N:List Str) (fs scope:Scope) (x:Str):Bool :=
 decide (scope.kind=.function) && scope.names.all (fun y=>decide (y.2≠NameKind.cell) && (decide (y.2≠NameKind.free) || decide (fs.names.lookup y.1=some .cell) || decide (fs.names.lookup y.1=some .free)) &&
  (decide (y.2≠NameKind.local) || (decide (scope.names.lookup y.1=some .local) && decide (y.1∉N)))) && decide (scope.names.lookup x=some .local)
theorem CompOk.of {N:List Str} {fs scope:Scope} {x:Str} (h:nP N fs scope x=true):CompOk N fs scope x:=by
 unfold nP at h
 simp only [Qa,Vf,decide_eq_true_eq,PJ] at h
 obtain ⟨⟨h1,h2⟩,h3⟩:=h
 refine ⟨h1,fun y hy=>(h2 y hy).1.1,fun y hy e=>?_,fun y hy e=>?_,h3⟩
 ·rcases (h2 y hy).1.2 with (z | z) | z
  ·exact absurd e z
  ·exact .inl z
  ·exact .inr z
 ·rcases (h2 y hy).2 with z | z
  ·exact absurd e z
  ·exact z
def cU (X:Cx) (x:Str) (scope:Scope) (cl:List (Str×Addr)) (C:Addr) (fp:List Addr) (s₀:Shared) (H₀:Hp):Cx :=
 { X with N:=X.N++[x],s₀:=s₀,H₀:=H₀,env:=compEnvC scope cl C X.env,outer:=X.stack,stack:=X.stack,ex:=fp,fn:=fun _=>false,pn:=[],xe:=fun _ _=>False }
theorem jB {f:Str×NameKind->NameKind} {y:Str}:∀ {l:List (Str×NameKind)} {k:NameKind},(l.map fun p=>(p.1,f p)).lookup y=some k->∃ k0,(y,k0)∈l/\l.lookup y=some k0/\k=f (y,k0)
 | [],_,h=>by simp at h
 | (n,k0)::r,k,h=>by
  rw [Ow,Qz] at h
  cases e:y==n with
  | true =>
   rw [e] at h
   have e':y=n:=by simpa using e
   subst e'
   cases h
   exact ⟨k0,Ny,by rw [Qz,e],rfl⟩
  | false =>
   rw [e] at h
   obtain ⟨k1,h1,h2,h3⟩:=jB h
   exact ⟨k1,Nt _ h1,by rw [Qz,e]; exact h2,h3⟩
theorem fD {scope:Scope} {env:Env} {y:Str} {k:NameKind} (h:(relabel scope env).names.lookup y=some k) :
  (scope.names.lookup y=some k/\(y,k)∈scope.names)∨(k=.cell/\scope.names.lookup y=some .free/\(y,NameKind.free)∈scope.names):=by
 have e:(relabel scope env).names=scope.names.map fun p=>(p.1,(fun (q:Str×NameKind)=>if (q.2==NameKind.free && env.scope.kind==.function && env.kindOf q.1==some .cell)=true then NameKind.cell else q.2) p):=by
  unfold relabel
  refine Qq fun p _=>?_
  obtain ⟨n,k⟩:=p
  dsimp only
  split <;> rfl
 rw [e] at h
 obtain ⟨k0,h1,h2,h3⟩:=jB h
 dsimp only at h3
 split at h3
 ·rename_i c
  simp only [Qa,beq_iff_eq] at c
  obtain ⟨⟨c1,_⟩,_⟩:=c
  subst c1
  exact .inr ⟨h3,h2,h1⟩
 ·subst h3
  exact .inl ⟨h2,h1⟩
section
variable {X:Cx} {pins:List (Addr×Obj)} {σ:St} {H:Hp} {s:Shared}
theorem Fb {x:Str} {scope:Scope} {cl:List (Str×Addr)} {C:Addr} {fp:List Addr} {s':Shared} (I:Inv X pins σ H s) (ok:CompOk X.N X.env.scope scope x)
  (c1:∀ y c,cl.lookup y=some c->X.env.cells.lookup y=some c) (c2:∀ y,(y,NameKind.free)∈scope.names->∃ c,cl.lookup y=some c) (hf:∀ b∈fp,FpOk X pins H b)
  (hC:s.heap.objs.size<=C) (hn:s'.heap.Ns C fun _=>none) (hk:∀ b o,s.heap.get? b=some o->s'.heap.get? b=some o) (ho:s'.os=s.os) (hg:s'.gens=s.gens) (hfs:∀ b∈fp,b<s.heap.objs.size) :
  Inv (cU X x scope cl C fp s H) [] (σ++[none]) H s':=by
 have fresh:H C=none:=I.hok.fresh hC
 have CneC:∀ y c,cl.lookup y=some c->c≠C:=fun y c e z=>by
  obtain ⟨v,q⟩:=I.cell y c (c1 y c e)
  exact absurd (Om q.lt (by rw [z]; exact hC)) (Qj _)
 refine ⟨⟨I.ok.mod,ok.kind,I.ok.glob,I.ok.blt,hC,fun y z c h1 h2=>I.ok.inj y z c (c1 y c h1) (c1 z c h2),fun y hy=>?_,fun y c z=>?_,I.ok.hd,I.ok.frames,.inl rfl,fun b hb=>⟨?_,fun y c e=>(hf b hb).2.2.2.2.1 y c (c1 y c e)⟩,
   I.bs,OJ I.ok.bsz I.sz,fun b o e hb=>?_,fun b hb hb2=>?_,I.stack,I.stkFree⟩,
  ho,by rw [hg]; exact I.bare,Un.kept hk,⟨_,hn,fun i y v h1 h2 h3=>?_⟩,fun y c e=>?_,fresh,fun y c e=>I.freeC y c (c1 y c e),fun p hp=>absurd (show p∈([]:List (Addr×Obj)) from hp) (by simp),I.hok.kept hk,?_⟩
 ·
  have hy:(relabel scope X.env).names.lookup y=some .cell∨(relabel scope X.env).names.lookup y=some .free:=hy
  have hm:(y,NameKind.free)∈scope.names:=by
   rcases hy with hy | hy
   ·rcases fD hy with ⟨_,z⟩ | ⟨_,_,z⟩
    ·exact absurd rfl (ok.cell _ z)
    ·exact z
   ·rcases fD hy with ⟨_,z⟩ | ⟨_,_,z⟩
    ·exact z
    ·exact z
  exact c2 y hm
 ·exact absurd (show false=true from z) (by decide)
 ·exact Ot (Om (hfs b hb) hC)
 ·
  rcases (hf b hb).2.2.2.1 with z | z
  ·exact I.ok.noex b o e z
  ·exact absurd (Om (N7 (I.ok.bs b o e).1) z) (Qj _)
 ·
  have hb2:b∈frs X.stack:=hb2
  rcases NT.mp (I.stkSub b hb2) with z | z
  ·exact (hf b hb).2.1 z
  ·exact (hf b hb).2.2.1 z
 ·
  have hy:(relabel scope X.env).names.lookup y=some .local∨(relabel scope X.env).names.lookup y=some .cell∨(relabel scope X.env).names.lookup y=some .free:=h3
  have h1:(X.N++[x])[i]?=some y:=h1
  by_cases hi:i<X.N.length
  ·have e1:X.N[i]?=some y:=by rw [Ox hi] at h1; exact h1
   have e2:σ[i]?=some (some v):=by rw [Ox (by rw [I.len]; exact hi)] at h2; exact h2
   have hyN:y∈X.N:=Nv e1
   have hm:((y,NameKind.free)∈scope.names)/\((relabel scope X.env).names.lookup y=some .cell∨(relabel scope X.env).names.lookup y=some .free):=by
    rcases hy with hy | hy | hy
    ·rcases fD hy with ⟨_,z⟩ | ⟨z,_⟩
     ·exact absurd hyN (ok.locs _ z rfl).2
     ·cases z
    ·rcases fD hy with ⟨_,z⟩ | ⟨_,_,z⟩
     ·exact absurd rfl (ok.cell _ z)
     ·exact ⟨z,.inl hy⟩
    ·rcases fD hy with ⟨_,z⟩ | ⟨_,_,z⟩
     ·exact ⟨z,.inr hy⟩
     ·exact ⟨z,.inr hy⟩
   obtain ⟨c,hc⟩:=c2 y hm.1
   obtain ⟨m,_,hl⟩:=I.loc
   have hv:Vis X.env.scope y:=by
    rcases ok.free _ hm.1 rfl with z | z
    ·exact .inr (.inl z)
    ·exact .inr (.inr z)
   obtain ⟨u,r,l⟩:=hl i y v e1 e2 hv
   refine ⟨u,r,.inr ⟨hm.2,c,hc,?_⟩⟩
   rcases l with ⟨kl,_⟩ | ⟨_,c',e',q⟩
   ·have kl:X.env.scope.names.lookup y=some .local:=kl
    rcases ok.free _ hm.1 rfl with z | z
    ·rw [kl] at z; cases z
    ·rw [kl] at z; cases z
   ·rw [c1 y c hc] at e'
    cases e'
    obtain ⟨oc,hoc,hd⟩:=q
    exact ⟨oc,hk _ _ hoc,hd⟩
  ·rw [Px (by rw [I.len]; omega)] at h2
   have:i-σ.length=0∨1<=i-σ.length:=by omega
   rcases this with z | z
   ·rw [z] at h2; cases h2
   ·rw [QM (by simpa using z)] at h2; cases h2
 ·obtain ⟨v,oc,hoc,hd⟩:=I.cell y c (c1 y c e)
  exact ⟨v,oc,hk _ _ hoc,hd⟩
 ·show (σ++[none]).length=(X.N++[x]).length
  rw [Np,Np,I.len] <;> rfl
end
def PTs (X:Cx) (ifs:List Expr) (t:TT):Prop :=
 ∀ (pins:List (Addr×Obj)) (s:Shared) (σ:St) (H:Hp) (Q:Bool->Hp->Prop),Inv X pins σ H s->t σ H Q ->
  wpAny (model X.prog X.w) X.A (forIn ifs true fun c r=>if r=true then do let ok<-isTrue c X.env (eval c X.env); pure (ForInStep.yield ok) else pure (ForInStep.yield r)) (TP X pins σ Q) X.xe s
def tYes:TT:=fun _ H Q=>Q true H
theorem mD {X:Cx}:PTs X [] tYes:=fun _ _ _ H _ I h=>wpAny_tests_nil ⟨H,I,h⟩
theorem oU {X:Cx} {c:Expr} {t:TT} (h:PT X c t):PTs X [c] t:=fun pins s σ H Q I hw=>wpAny_tests_one (h pins s σ H Q I hw)
theorem thnF {α:Type} {t:Sem α} {Q Q':α->Shared->Prop} {M:Model} {A:Around} {E:Value->Shared->Prop} {s:Shared} (h:wpAny M A t Q (fun _ _=>False) s) (hQ:∀ a s,Q a s->Q' a s):wpAny M A t Q' E s:=PK h hQ fun _ _ x=>x.elim
def j4 (J:It) (tt:TT) (te:TE) (fin:List V->Hp->Prop) (σ:St) (H:Hp):Prop :=
 ∃ W:Nat->Nat->List V->Hp->Prop,(∃ m,W 0 m [] H)/\∀ i m ys H,W i m ys H ->
  (J.stop i H/\fin ys H)∨(J.go i H/\∀ x H',J.yld i H x H'->tt (σ++[some x]) H' fun b H2 =>
   if b=true then te (σ++[some x]) H2 fun y H3=>ys.length<sizeLine/\∃ m',m'<m/\W (i+1) m' (ys++[y]) H3 else ∃ m',m'<m/\W (i+1) m' ys H2)
def listAt (its:List Value) (c:Nat):Obj:={ cls:=.type "list",data:=.seq its.toArray c }
section
variable {X:Cx} {pins:List (Addr×Obj)} {σ:St} {H:Hp} {s:Shared} {E:Value->Shared->Prop}
theorem tX {elt iter:Expr} {x:Str} {px:Pos} {ifs:List Expr} {scope:Scope} {pos:Pos} {cl:List (Str×Addr)} {J:It} {it:Addr} {fp:List Addr} {tn:Nat->Heap->Prop} {tt:TT} {te:TE} {fin:List V->Hp->Prop}
  {RR:Value->Addr->Result->Shared->Prop} (I:Inv X pins σ H s) (hcalm:X.calm=true) (ok:CompOk X.N X.env.scope scope x) (hN:(X.N++[x]).Nodup)
  (c1:∀ y c,cl.lookup y=some c->X.env.cells.lookup y=some c) (c2:∀ y,(y,NameKind.free)∈scope.names->∃ c,cl.lookup y=some c)
  (T:Turn X.prog X.w X.K (.Name x px) J fp it tn) (st:tn 0 s.heap) (hf:∀ b∈fp,FpOk X pins H b)
  (ht:∀ C fp s₀ H₀,PTs (cU X x scope cl C fp s₀ H₀) ifs tt) (he:∀ C fp s₀ H₀,PE (cU X x scope cl C fp s₀ H₀) elt te) (rd:j4 J tt te fin σ H)
  (hR:∀ (D C:Addr) (ys:List V) (H':Hp) (s':Shared),H' D=none->fin ys H'->Inv X pins σ (upd H' D (.lst ys)) s'->(∃ m,s'.heap.Ns C m)->FpOk X pins (upd H' D (.lst ys)) C->RR (.ref D) C (.ok .next) s') :
  wpAny (model X.prog X.w) X.A (newList []) (fun acc s₃=>wpAny (model X.prog X.w) X.A (newFunctionEnv scope X.env.globals cl [] X.env.qual none .none (some X.env)) (fun cenv s₄ =>
   codeAny (model X.prog X.w) X.A (.compStart (.ListComp elt [⟨.Name x px,iter,ifs,0⟩] scope pos) 0 (.ref it) acc { cenv with scope:=relabel scope X.env }) (RR acc cenv.locals) s₄) E s₃) E s:=by
 refine Pj (wpAny_newFunctionEnv ok.cell (by intro y hy; simp at hy) (fun h₁ hns₁ hsb₁=>?_) ok.kind)
 dsimp only at hns₁ hsb₁ ⊢
 generalize hH2:s.heap.push { cls:=.type "list",dict:=none,data:=.seq ([]:List Value).toArray }=H2 at hns₁ hsb₁ ⊢
 have hC:H2.objs.size=s.heap.objs.size+1:=by rw [<- hH2,Rh]
 have hDC:s.heap.objs.size≠H2.objs.size:=by rw [hC]; exact Ot (Q8 _)
 have hCle:s.heap.objs.size<=H2.objs.size:=by rw [hC]; exact Q5 _
 have below:∀ b,b<s.heap.objs.size->b≠H2.objs.size/\b≠s.heap.objs.size:=fun b hb=>⟨by rw [hC]; exact Ot (Wg hb),Ot hb⟩
 have old:∀ b o,s.heap.get? b=some o->h₁.get? b=some o:=fun b o e=>hsb₁.extBut b o (below b (N7 e)).1 (Nk _ (hH2▸Nk _ e))
 have hD:h₁.get? s.heap.objs.size=some (listAt [] 0):=hsb₁.extBut _ _ hDC (Nk _ (hH2▸NQ _ rfl))
 have hfs:∀ b∈fp,b<s.heap.objs.size:=fun b hb=>let ⟨_,e,_⟩:=T.obj 0 _ st b hb; N7 e
 have hns₂:h₁.Ns H2.objs.size fun _=>none:=by
  have e:(fun x=>([]:List (Str×Value)).reverse.lookup x)=fun _=>none:=rfl
  rw [e] at hns₁
  exact hns₁
 obtain ⟨W,⟨m0,w0⟩,turn⟩:=rd
 generalize hDD:s.heap.objs.size=D at *
 generalize hCC:H2.objs.size=C at *
 have Dle:s.heap.objs.size<=D:=TF hDD
 have loop:∀ s₃:Shared,s₃={ s with heap:=h₁,toks:=s.toks+([]:List (Str×Value)).length } ->
   codeAny (model X.prog X.w) X.A (.compLoop (.ListComp elt [⟨.Name x px,iter,ifs,0⟩] scope pos) 0 (.ref it) (.ref D) (compEnvC scope cl C X.env)) (RR (.ref D) C) s₃:=by
  rintro s₃ rfl
  have I0:Inv (cU X x scope cl C fp s H) [] (σ++[none]) H { s with heap:=h₁,toks:=s.toks+([]:List (Str×Value)).length } :=
   Fb I ok c1 c2 hf (by rw [hDD]; exact hCle) hns₂ old rfl rfl (fun b hb=>by rw [hDD]; exact hfs b hb)
  have cellD:∀ y c,cl.lookup y=some c->c≠D:=fun y c e z=>by
   obtain ⟨v,q⟩:=I.cell y c (c1 y c e)
   exact absurd q.lt (by rw [z,<- hDD]; exact Qj _)
  have stat:∀ {H':Hp} {pl:List (Addr×Obj)},(∀ p∈pl,p.1=D)->(∀ b∈fp,H' b=none)->∀ b∈fp,FpOk (cU X x scope cl C fp s H) pl H' b:=fun {H' pl} hpl hn b hb =>
   ⟨hn b hb,(below b (hfs b hb)).1,fun hb2=>by
    have hb2:b∈frs X.stack:=hb2
    rcases NT.mp (I.stkSub b hb2) with z | z
    ·exact (hf b hb).2.1 z
    ·exact (hf b hb).2.2.1 z,.inl hb,fun y c e=>(hf b hb).2.2.2.2.1 y c (c1 y c e),fun p hp=>by
     have hp:p∈[]++pl:=hp
     rw [hpl p (by simpa using hp)]
     exact Ne.symm (below b (hfs b hb)).2⟩
  have pinD:∀ {σ':St} {H':Hp} {s':Shared} {its:List Value} {c:Nat},Inv (cU X x scope cl C fp s H) [] σ' H' s'->s'.heap.get? D=some (listAt its c)->H' D=none->Inv (cU X x scope cl C fp s H) [(D,listAt its c)] σ' H' s':=fun {σ' H' s' its c} I' e n =>
   I'.pins_of fun p hp=>by
    have hp:p=(D,listAt its c):=by simpa using hp
    subst hp
    refine ⟨e,n,hDC,fun hb2=>?_,fun v z=>by cases z⟩
    have hb2:D∈frs X.stack:=hb2
    rcases NT.mp (I.stkSub D hb2) with z | z
    ·exact absurd I.lt (by rw [<- z,<- hDD]; exact Qj _)
    ·exact I.nofs Dle z
  refine codeAny_compLoop_tests (fun n s'=>∃ i v H' ys its c,Inv (cU X x scope cl C fp s H) [] (σ++[v]) H' s'/\tn i s'.heap/\(∀ b∈fp,H' b=none)/\s'.heap.get? D=some (listAt its c)/\H' D=none/\Vals ys its/\ys.length<=sizeLine/\W i n ys H')
   ?_ m0 ⟨0,none,H,[],[],0,I0,T.keep 0 _ _ st fun b _ o e=>old b o e,fun b hb=>(hf b hb).1,hD,I.hok.fresh Dle,.nil,OD _,w0⟩
  rintro n s' ⟨i,v,H',ys,its,c,I1,st1,fr1,e1,n1,r1,z1,w1⟩
  have I1p:=pinD I1 e1 n1
  have fok1:=stat (H':=H') (pl:=[(D,listAt its c)]) (fun p hp=>by simp at hp; rw [hp]) fr1
  rcases turn i n ys H' w1 with ⟨stop,qf⟩ | ⟨go,step⟩
  ·refine thn (T.done (cU X x scope cl C fp s H) rfl rfl rfl hcalm i _ s' _ H' _ I1p fok1 st1 stop) fun r s2 ⟨hr,I2⟩=>?_
   subst hr
   obtain ⟨e2,n2,_⟩:=I2.pin (D,listAt its c) (NZ _ (by simp))
   have u2:Un (frs X.stack) fp H H' s.heap s2.heap:=I2.base
   have neD:∀ b o,s.heap.get? b=some o->b≠D:=fun b o e=>(below b (by rw [<- hDD]; exact N7 e)).2
   have tD:∀ b o,H' b=some o->b≠D:=fun b o e z=>by rw [z,n1] at e; cases e
   have hok2:HOk X.prog X.w (upd H' D (.lst ys)) s2.heap:=fun b o e=>by
    by_cases hb:b=D
    ·subst hb
     rw [ak] at e
     cases e
     exact ⟨z1,its,c,r1,e2⟩
    ·rw [aC hb] at e
     exact (I2.hok b o e).stay (fun _ _ _ q=>q) (fun d q=>by rw [aC (tD d _ q)]; exact q) fun d xs q=>by rw [aC (tD d _ q)]; exact q
   have I3:Inv X pins σ (upd H' D (.lst ys)) s2:=I.call' (ch:=fp) (show s2.os=s.os from I2.os)
    ⟨u2.keep,u2.slot,fun b o e n hx=>by rw [aC (neD b o e)]; exact u2.free b o e n hx,u2.there,fun b xs e=>by
     have q:=u2.tups b xs e
     rw [aC (tD b _ q)]; exact q,fun b o u e=>by
     have q:=u2.frzs b o u e
     rw [aC (tD b _ q)]; exact q,fun b ps e=>by
     obtain ⟨more,q⟩:=u2.tbls b ps e
     exact ⟨more,by rw [aC (tD b _ q)]; exact q⟩⟩ hok2 I2.bare (fun b hb=>⟨(hf b hb).2.2.2.1,(hf b hb).2.1,(hf b hb).2.2.2.2.1,(hf b hb).2.2.2.2.2⟩)
   obtain ⟨m2,hm2,_⟩:=I2.loc
   exact hR D C ys H' s2 n1 qf I3 ⟨m2,hm2⟩ (I.fpOk (by rw [hDD]; exact hCle) (by rw [aC (Ne.symm hDC)]; exact I2.free))
  ·refine thn (T.item (cU X x scope cl C fp s H) rfl rfl rfl hcalm i _ s' _ H' _ I1p fok1 st1 go) fun r s2 ⟨u,hr,h2⟩=>?_
   subst hr
   have ea:assign (.Name x px) (compEnvC scope cl C X.env) u=(letOwnedTupleGo (.Name x px) (.ref it) u >>= fun _=>assign (.Name x px) (compEnvC scope cl C X.env) u):=rfl
   show wpAny _ _ (assign (.Name x px) (compEnvC scope cl C X.env) u) _ _ s2
   rw [ea]
   refine Nf (thn h2 fun _ s3 ⟨y,H3,I3,ry,yl,st3,fr3⟩=>?_)
   obtain ⟨e3,n3,_⟩:=I3.pin (D,listAt its c) (NZ _ (by simp))
   have I3p:=I3.pinned (stat (pl:=[(D,listAt its c)]) (fun p hp=>by simp at hp; rw [hp]) fr3) (T.obj _ _ st3)
   have hxl:(relabel scope X.env).names.lookup x=some .local:=lookup_relabel_local ok.own
   have hxi:(X.N++[x])[X.N.length]?=some x:=by rw [Px (Nu _),TQ] <;> rfl
   have hset:(σ++[v]).set X.N.length (some y)=σ++[some y]:=by
    rw [<- I.len,List.set_append_right _ _ (Nu _),TQ] <;> rfl
   refine thnF (aK (X:=cU X x scope cl C fp s H) (i:=X.N.length) (x:=x) hN hxi (.inl hxl) (.inr hxl) _ s3 _ H3 y u (fun σ' H'=>σ'=σ++[some y]/\H'=H3) I3p ry ⟨hset,rfl⟩) fun _ s4 ⟨σ4,H4,I4,hσ,hH⟩=>?_
   subst hσ hH
   have back:∀ {H6:Hp} {s6:Shared} {its':List Value} {c':Nat},Inv (cU X x scope cl C fp s H) (ji fp s3.heap) (σ++[some y]) H6 s6->s6.heap.get? D=some (listAt its' c')->H6 D=none->∀ {ys':List V} {m':Nat},Vals ys' its'->ys'.length<=sizeLine->m'<n->W (i+1) m' ys' H6 ->
     ∃ m,m<n/\∃ i v H' ys its c,Inv (cU X x scope cl C fp s H) [] (σ++[v]) H' s6/\tn i s6.heap/\(∀ b∈fp,H' b=none)/\s6.heap.get? D=some (listAt its c)/\H' D=none/\Vals ys its/\ys.length<=sizeLine/\W i m ys H' :=
    fun {H6 s6 its' c'} I6 e6 n6 {ys' m'} r6 z6 lt6 w6=>by
     refine ⟨m',lt6,i+1,some y,H6,ys',its',c',I6.pins_of (fun p hp=>by simp at hp),T.keep _ _ _ st3 fun b hb o e=>(I6.pin (b,o) (NZ _ (jr hb e))).1,fun b hb=>?_,e6,n6,r6,z6,w6⟩
     obtain ⟨o,e,_⟩:=T.obj _ _ st3 b hb
     exact (I6.pin (b,o) (NZ _ (jr hb e))).2.1
   refine thnF (ht C fp s H _ s4 _ H4 _ I4 (step y H4 yl)) fun b s5 ⟨H5,I5,q5⟩=>?_
   obtain ⟨e5,n5,_⟩:=I5.pin (D,listAt its c) (NZ _ (by simp))
   cases b with
   | false =>
    obtain ⟨m',lt,w5⟩:=(show ∃ m',m'<n/\W (i+1) m' ys H5 from q5)
    exact back (I5.pins_of fun p hp=>I5.pin p (NZ _ (NZ _ hp))) e5 n5 r1 z1 lt w5
   | true =>
    refine thnF (he C fp s H _ s5 _ H5 _ I5 q5) fun yv s6 ⟨z,H6,I6,rz,hl6,m',lt,w6⟩=>?_
    obtain ⟨e6,n6,_⟩:=I6.pin (D,listAt its c) (NZ _ (by simp))
    have hlen:=r1.length
    refine Vq V2 ⟨_,e6,rfl⟩ VD (Vt _ _) (Wf D its.toArray c yv (by rw [N5]; omega)) ⟨e6,?_⟩
    have q:=PySem.IsL.update e6 (·.push yv)
    have I6':Inv (cU X x scope cl C fp s H) (ji fp s3.heap) (σ++[some y]) H6 s6:=I6.pins_of fun p hp=>I6.pin p (NZ _ (NZ _ hp))
    have I7:Inv (cU X x scope cl C fp s H) (ji fp s3.heap) (σ++[some y]) H6 { s6 with heap:=s6.heap.update D (Obj.mapSeq (·.push yv)) } :=
     I6'.turned (it:=D) (t':=s6.toks) (fun b o hb e=>(UL s6.heap (Obj.mapSeq (·.push yv)) (Ne.symm hb)).trans e) n6 hDC (.inr Dle) (fun y c e=>cellD y c e) (fun p hp=>by
      have hp:p∈[]++ji fp s3.heap:=hp
      obtain ⟨hb,_⟩:=sO (show p∈ji fp s3.heap by simpa using hp)
      exact (below _ (hfs _ hb)).2)
    exact back I7 (its':=its++[yv]) (by
     have q':=q
     simp only [List.push_toArray] at q'
     exact q') n6 (r1.append (.cons rz .nil)) (by rw [Np,O5]; omega) lt w6
 exact codeAny_compStart_list (loop _ rfl) (T.self X.A 0 _ _ _ (T.keep 0 _ _ st fun b _ o e=>old b o e) (loop _ rfl))
def zP (wi:TI) (tt:TT) (te:TE):TE:=fun σ H Q=>wi σ H fun J H1=>j4 J tt te (fun ys H2=>∀ p,H2 p=none->Q (.ref p) (upd H2 p (.lst ys))) σ H1
theorem ju {elt iter:Expr} {x:Str} {px:Pos} {ifs:List Expr} {scope:Scope} {pos:Pos} {wi:TI} {tt:TT} {te:TE} (N:List Str) (fs:Scope) (hcalm:X.calm=true) (ok:nP N fs scope x=true) (hN:(N++[x]).Nodup) (hi:PI X (.Name x px) iter wi)
  (ht:∀ cl C fp s₀ H₀,PTs (cU X x scope cl C fp s₀ H₀) ifs tt) (he:∀ cl C fp s₀ H₀,PE (cU X x scope cl C fp s₀ H₀) elt te)
  (hs:∀ x,foldedSetIterable iter X.env x=pure x:=by intro _; rfl) (eN:X.N=N:=by rfl) (eS:X.env.scope=fs:=by rfl):PE X (.ListComp elt [⟨.Name x px,iter,ifs,0⟩] scope pos) (zP wi tt te):=by
 intro pins s σ H Q I h
 subst eN eS
 have ok:=CompOk.of ok
 obtain ⟨cl,hcl,c1,c2⟩:=qm (scope:=scope) (env:=X.env) fun y hy e=>I.ok.has y.1 (ok.free y hy e)
 rw [eval_ListComp]
 refine Ug (use:=none) rfl hs hcl ok.kind (fun y hy e=>(ok.locs y hy e).1) (thn (hi pins s σ H _ I h) fun v s1 h1=>thn h1 fun itv s2 h2=>?_)
 obtain ⟨it,fp,tn,J,H2,e,I2,T,st2,f2,rd⟩:=h2
 subst e
 refine tX (RR:=fun acc C=>compPost (model X.prog X.w) X.A X.xe none (EP X pins σ Q) acc C) I2 hcalm ok hN c1 c2 T st2 f2 (ht cl) (he cl) rd fun D C ys H' s' hD q I' hm fC=>?_
 obtain ⟨m,hm⟩:=hm
 refine ⟨m,hm,fun h' hs'=>⟨.ref D,_,I'.turned (t':=s'.toks) (fun b o hb e=>(hs'.2 b hb).trans e) fC.1 fC.2.1 fC.2.2.2.1 fC.2.2.2.2.1 fC.2.2.2.2.2,rfl,q D hD⟩⟩
theorem qb {i:Nat} {y:Str} {py spos:Pos} {elt iter:Expr} {x:Str} {px:Pos} {ifs:List Expr} {scope:Scope} {pos:Pos} {wi:TI} {tt:TT} {te:TE} (N:List Str) (fs:Scope) (hcalm:X.calm=true) (ok:nP N fs scope x=true) (hN:(N++[x]).Nodup) (hi:PI X (.Name x px) iter wi)
  (ht:∀ cl C fp s₀ H₀,PTs (cU X x scope cl C fp s₀ H₀) ifs tt) (he:∀ cl C fp s₀ H₀,PE (cU X x scope cl C fp s₀ H₀) elt te) (hy:X.N[i]?=some y) (hyl:Loc X.env.scope y)
  (hsw:swapsWith (.ListComp elt [⟨.Name x px,iter,ifs,0⟩] scope pos) (some (.Name y py)) spos.line X.env=pure true:=by rfl)
  (hs:∀ x,foldedSetIterable iter X.env x=pure x:=by intro _; rfl) (hf:X.fn y=true∨X.env.scope.names.lookup y=some .local:=by first | exact .inl rfl | exact .inr rfl | assumption) (eN:X.N=N:=by rfl) (eS:X.env.scope=fs:=by rfl) :
  PS X (.Assign [.Name y py] (.ListComp elt [⟨.Name x px,iter,ifs,0⟩] scope pos) spos) (tAsg (zP wi tt te) (kY i)):=by
 intro pins s σ H D I h
 subst eN eS
 have ok:=CompOk.of ok
 obtain ⟨cl,hcl,c1,c2⟩:=qm (scope:=scope) (env:=X.env) fun y hy e=>I.ok.has y.1 (ok.free y hy e)
 rw [exec_Assign_Name_used _ _ _ _ hsw]
 refine Nf (Uo (Nf ?_))
 have ee:evalThenUse (.ListComp elt [⟨.Name x px,iter,ifs,0⟩] scope pos) X.env (assign (.Name y py) X.env)=(comprehension (.ListComp elt [⟨.Name x px,iter,ifs,0⟩] scope pos) scope X.env (firstIterPos [⟨.Name x px,iter,ifs,0⟩] pos) (newList []) (firstAsync [⟨.Name x px,iter,ifs,0⟩]) (firstIter [⟨.Name x px,iter,ifs,0⟩] X.env) (some (assign (.Name y py) X.env)) >>= fun _=>pure ()):=rfl
 rw [ee]
 refine Nf (Ug (use:=some (assign (.Name y py) X.env)) rfl hs hcl ok.kind (fun y hy e=>(ok.locs y hy e).1) (thn (hi pins s σ H _ I h) fun v s1 h1=>thn h1 fun itv s2 h2=>?_))
 obtain ⟨it,fp,tn,J,H2,e,I2,T,st2,f2,rd⟩:=h2
 subst e
 refine tX (RR:=fun acc C=>compPost (model X.prog X.w) X.A X.xe (some (assign (.Name y py) X.env)) _ acc C) I2 hcalm ok hN c1 c2 T st2 f2 (ht cl) (he cl) rd fun A C ys H' s' hA q I' hm fC=>?_
 obtain ⟨m,o,es,ep,ho,hd,hr⟩:=hm
 have I'':Inv X (pins++[(C,o)]) σ (upd H' A (.lst ys)) s':=I'.pins_of fun p hp=>by
  rcases Nz.mp hp with z | z
  ·exact I'.pin p (NZ _ z)
  ·have z:p=(C,o):=by simpa using z
   subst z
   exact ⟨ho,fC.1,fC.2.1,fC.2.2.1,fun v z=>by rw [hd] at z; cases z⟩
 refine thn (aK (X:=X) (i:=i) (x:=y) (hN.sublist (List.sublist_append_left _ _)) hy hyl hf _ s' σ _ (.ref A) (.ref A) (fun σ' H''=>σ'=σ.set i (some (.ref A))/\H''=upd H' A (.lst ys)) I'' rfl ⟨rfl,rfl⟩) fun _ s3 ⟨σ3,H3,I3,e1,e2⟩=>?_
 subst e1 e2
 obtain ⟨ho3,n3,_⟩:=I3.pin (C,o) (NZ _ (by simp))
 refine ⟨m,⟨o,es,ep,ho3,hd,hr⟩,fun h' hs'=>Ni (Ni ⟨_,_,?_,q A hA⟩)⟩
 exact (I3.pins_of fun p hp=>I3.pin p (NZ _ (O8 _ hp))).turned (it:=C) (t':=s3.toks) (fun b o hb e=>(hs'.2 b hb).trans e) n3 fC.2.1 fC.2.2.2.1 fC.2.2.2.2.1 fC.2.2.2.2.2
end
abbrev one (c:Nat):Str:=⟨#[c]⟩
def Its (x:Str):It:=⟨fun i _=>i<x.length,fun i H v H'=>H'=H/\∃ c,x.cps.toList[i]?=some c/\v=.str (one c),fun i _=>x.length<=i⟩
theorem vU {P:Program} {w:World} {K:Nh} {tg:Expr} (it:Addr) (ty:String) (x:Str) (t:Tok) (hW:∀ A':Around,A'.handled=none->Walks P w A' it [it] [it] x.cps.size (SignAt x) (fun i h=>h.IsStrIter it ty x t i))
  (hn:["enumerate","zip","dict_itemiterator","dict_reverseitemiterator","odict_iterator","itertools.zip_longest","itertools.pairwise"].contains ty=false)
  (hself:∀ (A:Around) (i:Nat) (s:Shared) (Q:Value->Shared->Prop) (E:Value->Shared->Prop),s.heap.IsStrIter it ty x t i->Q (.ref it) s->wpAny (model P w) A (pyIter (.ref it)) Q E s) :
  Turn P w K tg (Its x) [it] it (fun i h=>h.IsStrIter it ty x t i/\i<=x.length) where
 mem:=by simp
 obj:=fun i h st b hb=>by
  have e:b=it:=by simpa using hb
  subst e
  obtain ⟨⟨o,e,c,d⟩,_⟩:=st
  exact ⟨o,e,fun v z=>by rw [d] at z; cases z⟩
 keep:=fun i h h' st k=>by
  obtain ⟨⟨o,e,c,d⟩,l⟩:=st
  exact ⟨⟨o,k it (by simp) o e,c,d⟩,l⟩
 item:=by
  intro X hP hw hK hc i pins s σ H E I hf st hg
  subst hP hw hK
  obtain ⟨f0,f1,f2,f3,f4,f5⟩:=hf it (by simp)
  have hg:i<x.length:=hg
  refine (hW X.A (I.ok.hd hc)).item i s _ _ hg st.1 fun v h' tk hv st' kk=>?_
  obtain ⟨c,u,hx,rfl⟩:=hv
  have I1:Inv X pins σ H { s with heap:=h',toks:=tk }:=I.turned (fun b o hb e=>kk b o (by simpa using hb) e) f0 f1 f3 f4 f5
  obtain ⟨o,e,hcl,hd⟩:=id st'
  refine ⟨_,rfl,wA (s:={ s with heap:=h',toks:=tk }) e hcl hd hn ⟨.str (one c),H,I1,⟨u,rfl⟩,⟨rfl,c,by simpa using hx,rfl⟩,⟨st',hg⟩,fun b hb=>(hf b hb).1⟩⟩
 done:=by
  intro X hP hw hK hc i pins s σ H E I hf st hg
  subst hP hw hK
  obtain ⟨f0,f1,f2,f3,f4,f5⟩:=hf it (by simp)
  have e:i=x.cps.size:=WW st.2 hg
  subst e
  exact (hW X.A (I.ok.hd hc)).done s _ _ st.1 fun h' tk kk=>⟨rfl,I.turned (fun b o hb e=>kk b o (by simpa using hb) e) f0 f1 f3 f4 f5⟩
 self:=fun A i s Q E st h=>hself A i s Q E st.1 h
section
variable {X:Cx} {tg:Expr}
def iStr (te:TE):TI:=fun σ H R=>te σ H fun v H1=>∃ x,v=.str x/\R (Its x) H1
theorem Kd {e:Expr} {te:TE} (he:PE X e te):PI X tg e (iStr te):=by
 intro pins s σ H R I h
 refine thn (he pins s σ H _ I h) fun v s1 ⟨y,H1,I1,r1,q1⟩=>?_
 obtain ⟨x,rfl,q⟩:=q1
 obtain ⟨t,rfl⟩:=r1
 have fok:∀ b∈[s1.heap.objs.size],FpOk X pins H1 b:=fun b hb=>by
  have e:b=s1.heap.objs.size:=by simpa using hb
  subst e
  exact I1.fpOk (Nu _) (I1.hok.fresh (Nu _))
 cases ha:x.cps.all (· < 128)
 ·refine wpAny_pyIter_wide ha ?_
  exact ⟨s1.heap.objs.size,[s1.heap.objs.size],_,_,H1,rfl,I1.kept (t':=s1.toks) fun b o e=>Nk _ e,
   vU _ "str_iterator" x t (fun A' hA=>Walks.strWide hA _ x t) (by decide) (fun A i s Q E st h=>wpAny_pyIter_striter_wide st h),⟨⟨_,NQ _ rfl,rfl,rfl⟩,OD _⟩,fok,q⟩
 ·refine wpAny_pyIter_ascii ha ?_
  exact ⟨s1.heap.objs.size,[s1.heap.objs.size],_,_,H1,rfl,I1.kept (t':=s1.toks) fun b o e=>Nk _ e,
   vU _ "str_ascii_iterator" x t (fun A' hA=>Walks.strAscii hA _ x t) (by decide) (fun A i s Q E st h=>wpAny_pyIter_striter_ascii st h),⟨⟨_,NQ _ rfl,rfl,rfl⟩,OD _⟩,fok,q⟩
end
theorem Kp {σ:St} {H:Hp} {Q:Bool->Hp->Prop} (q:Q true H):tYes σ H Q:=q
theorem Bw {J:It} {te:TE} {fin:List V->Hp->Prop} {σ:St} {H:Hp} (ys:List V) (Pv:Nat->Hp->Prop) (hz:ys.length<=sizeLine) (h0:Pv 0 H) (hgo:∀ i H,i<ys.length->Pv i H->J.go i H) (hst:∀ H,Pv ys.length H->J.stop ys.length H)
  (step:∀ i y H x H',ys[i]?=some y->Pv i H->J.yld i H x H'->te (σ++[some x]) H' fun z H3=>z=y/\Pv (i+1) H3) (hd:∀ H,Pv ys.length H->fin ys H)
  (mono:∀ σ H Q Q',(∀ v H1,Q v H1->Q' v H1)->te σ H Q->te σ H Q'):j4 J tYes te fin σ H:=by
 refine ⟨fun i m zs H=>m=ys.length-i/\i<=ys.length/\zs=ys.take i/\Pv i H,⟨_,rfl,OD _,by simp,h0⟩,?_⟩
 rintro i m zs H ⟨rfl,hi,rfl,p⟩
 by_cases hlt:i<ys.length
 ·refine .inr ⟨hgo i H hlt p,fun x H' y=>?_⟩
  refine Kp (iteT ?_)
  refine mono _ _ _ _ (fun v H1 q=>?_) (step i ys[i] H x H' (Nr hlt) p y)
  obtain ⟨e,p'⟩:=q
  refine ⟨by rw [Oc]; omega,ys.length-(i+1),by omega,rfl,hlt,?_,p'⟩
  rw [Oe,Nr hlt,e] <;> rfl
 ·have e:i=ys.length:=by omega
  subst e
  refine .inl ⟨hst H p,?_⟩
  rw [Oa]
  exact hd H p
def cutC (x:Str) (lo hi:Option Int):List Nat:=(x.cps.toList.drop (HT.sIx x.length 0 lo)).take (HT.sIx x.length x.length hi-HT.sIx x.length 0 lo)
theorem BW (x:Str) (lo hi:Option Int):Txt.slice x lo hi=⟨(cutC x lo hi).toArray⟩:=by
 obtain ⟨h1,h2,h3⟩:=mO lo hi x.length
 have hle:HT.sIx x.length x.length hi<=x.length:=HT.sIx_le _ _ (Nu _) _
 have e1:Builtin.Str.strSliceIndices lo hi 1 x.length=Builtin.Str.strSliceIndices (some ((HT.sIx x.length 0 lo:Nat):Int)) (some ((HT.sIx x.length x.length hi:Nat):Int)) 1 x.length:=by
  have hle0:HT.sIx x.length 0 lo<=x.length:=HT.sIx_le _ _ (OD _) _
  have q:∀ (o:Option Int) (d:Nat),d<=x.length->(match o with | none=>(d:Int) | some i=>let i:=if i<0 then i+(x.length:Int) else i; max 0 (min i (x.length:Int)))=((HT.sIx x.length d o:Nat):Int):=by
   intro o d hd
   cases o with
   | none=>rfl
   | some i =>
    simp only [HT.sIx]
    by_cases h:i<0
    ·simp only [h,if_true] <;> omega
    ·simp only [h,if_false] <;> omega
  have ql:=q lo 0 (OD _)
  have qh:=q hi x.length (Nu _)
  have ql':=q (some ((HT.sIx x.length 0 lo:Nat):Int)) 0 (OD _)
  have qh':=q (some ((HT.sIx x.length x.length hi:Nat):Int)) x.length (Nu _)
  rw [HT.sIx_nat,Qw hle0] at ql'
  rw [HT.sIx_nat,Qw hle] at qh'
  unfold Builtin.Str.strSliceIndices
  simp only [show (1:Int)>0 by decide,if_true]
  simp only [] at ql qh ql' qh'
  first
   | (rw [ql',qh']; exact congrArg₂ (fun a b=>sliceRange a b 1) ql qh)
   | (congr 1 <;> first | exact ql.trans ql'.symm | exact qh.trans qh'.symm)
 by_cases hc:HT.sIx x.length 0 lo<=HT.sIx x.length x.length hi
 ·have e2:=StrLaws.sliceText_nat x hc hle
  unfold Txt.slice
  unfold StrLaws.sliceText at e2
  rw [e1]
  exact e2
 ·have e3:Builtin.Str.strSliceIndices (some ((HT.sIx x.length 0 lo:Nat):Int)) (some ((HT.sIx x.length x.length hi:Nat):Int)) 1 x.length=[]:=by
   have hle0:HT.sIx x.length 0 lo<=x.length:=HT.sIx_le _ _ (OD _) _
   have a1:¬ (((HT.sIx x.length 0 lo:Nat):Int)<0):=by omega
   have a2:¬ (((HT.sIx x.length x.length hi:Nat):Int)<0):=by omega
   have b1:max (0:Int) (min ((HT.sIx x.length 0 lo:Nat):Int) (x.length:Int))=((HT.sIx x.length 0 lo:Nat):Int):=by omega
   have b2:max (0:Int) (min ((HT.sIx x.length x.length hi:Nat):Int) (x.length:Int))=((HT.sIx x.length x.length hi:Nat):Int):=by omega
   simp only [Builtin.Str.strSliceIndices,sliceRange,a1,a2,if_false,b1,b2,show ((1:Int)>0)=True from by simp,if_true]
   rw [if_neg (by omega)] <;> rfl
  unfold Txt.slice
  rw [e1,e3]
  have e4:HT.sIx x.length x.length hi-HT.sIx x.length 0 lo=0:=by omega
  unfold cutC
  rw [e4,Xc]
  split
  ·rename_i h
   have h0:x.length=0:=by
    have h':(0:Nat)=x.length:=by simpa using h
    exact h'.symm
   have:x.cps=#[]:=Array.eq_empty_of_size_eq_zero h0
   cases x
   simp_all
  ·rfl
section
variable {X:Cx}
def rSlS:V->Option Int->Option Int->Hp->VK->Prop:=fun x lo hi H Q=>∃ z,x=.str z/\z.length<=sizeLine/\Q (.str ⟨(cutC z lo hi).toArray⟩) H
theorem rF {v:Value} {o:Option Int} (p:IsPart v o):∃ q,v=partValue q/\q.map (·.1)=o:=by
 cases p with
 | none=>exact ⟨none,rfl,rfl⟩
 | int i t=>exact ⟨some (i,t),rfl,rfl⟩
theorem qy:SlR X rSlS:=by
 intro pins s σ H x v vl vu lo hi sl Q I rx hs pl pu h
 obtain ⟨z,rfl,hz,q⟩:=h
 obtain ⟨t,rfl⟩:=rx
 obtain ⟨ql,rfl,el⟩:=rF pl
 obtain ⟨qu,rfl,eu⟩:=rF pu
 refine ⟨"str",_,F.slot_str_getitem.lookup,Xg _ _ _,?_⟩
 refine wpAny_getItem_str_slice (l:=ql) (u:=qu) (st:=none) hs rfl ?_
 have fin:∀ t' k,EP X pins σ Q (.str (Txt.slice z lo hi) t') { s with toks:=k }:=fun t' k=>⟨.str ⟨(cutC z lo hi).toArray⟩,H,I.tok _,⟨t',by rw [BW]⟩,q⟩
 unfold sliceMade slicePicked
 rw [el,eu]
 exact post_val_or_str ⟨OJ (Txt.slice_le z lo hi) hz,fin⟩
theorem jK (hc:X.calm=true):CallR X (.builtin "all") (fun xs H Q=>∃ (p:Addr) (bs:List Bool),xs=[.ref p]/\H p=some (.lst (bs.map V.bl))/\Q (.bl (bs.all id)) H):=by
 intro pins s σ H xs us Q I r h
 obtain ⟨p,bs,rfl,hp,q⟩:=h
 obtain ⟨u,rfl,ru⟩:=vals1 r
 cases ru
 obtain ⟨its,rv,ht,hz⟩:=I.list (SqL.of (K:=X.K) hp)
 have hlen:its.length=bs.length:=by rw [<- rv.length,Ng]
 refine call_all_walk (T9 ht.isList ?_)
 have hne:p≠s.heap.objs.size:=Ot (I.hok.lt hp)
 refine ⟨s.heap.objs.size,_,_,_,_,_,fun i=>bs.getD i false,rfl,Walks.list (show X.A.in1.handled=none from I.ok.hd hc) _ p hne its.toArray,⟨⟨_,NQ _ rfl,rfl,rfl⟩,?_⟩,?_,?_⟩
 ·obtain ⟨o,e,c⟩:=ht.isList
  exact ⟨o,Nk _ e,c⟩
 ·intro i v s' Q' E' hv hq
  have hv:its[i]?=some v:=by simpa using hv
  have hi:i<its.length:=(Nj.mp hv).1
  obtain ⟨w,hw,rw'⟩:=rv.get (i:=i) (x:=V.bl (bs.getD i false)) (by
   rw [NP,Nr (by omega),PX,Nr (by omega)] <;> rfl)
  rw [hv] at hw
  cases hw
  cases rw'
  exact Qd hq
 ·intro h' tk hk
  have e:(List.range its.toArray.size).all (fun i=>bs.getD i false)=bs.all id:=by
   rw [N5,hlen]
   rw [Bool.eq_iff_iff,PJ,PJ]
   constructor
   ·intro a b hb
    obtain ⟨i,hi,e⟩:=RG.mp hb
    have:=a i (Qt.mpr hi)
    rw [PX,Nr hi,e] at this
    exact this
   ·intro a i hi
    have hi:=Qt.mp hi
    rw [PX,Nr hi]
    exact a _ (Qm hi)
  rw [e]
  refine ⟨.bl _,H,I.kept (t':=tk) fun b o e=>hk b o ?_ (Nk _ e),rfl,q⟩
  intro hb
  have:b=s.heap.objs.size:=by simpa using hb
  rw [this] at e
  exact absurd (N7 e) (Qj _)
def clsV:V->Option Value
 | .ty n=>some (.type n)
 | .ref a=>some (.ref a)
 | _=>none
def rIsi (K:Nh):List V->Hp->VK->Prop:=fun xs H Q=>∃ x c t cv b,xs=[x,c]/\clsV c=some cv/\TyOf K H x t/\PySem.W.kitOne K t cv=some b/\Q (.bl b) H
theorem gY:CallR X (.builtin "isinstance") (rIsi X.K):=by
 intro pins s σ H xs us Q I r h
 obtain ⟨x,c,t,cv,b,rfl,hc,ty,e,q⟩:=h
 obtain ⟨u,w',rfl,rx,rc⟩:=vals2 r
 have ec:w'=cv:=by
  cases c with
  | ty n=>cases hc; exact rc
  | ref a=>cases hc; exact rc
  | _=>cases hc
 subst ec
 exact Bl I rx ty e fun tk=>⟨.bl b,H,I.tok _,rfl,q⟩
theorem Inv.big {pins:List (Addr×Obj)} {σ:St} {H:Hp} {s:Shared} (I:Inv X pins σ H s):sysModules<s.heap.objs.size:=by
 have h:mainGlobals<s.heap.objs.size:=(I.mod.glob.keeps I.bk).lt
 exact TV (by decide) h
end
structure Def (P:Program) (w:World) (K:Nh) (mg:Str->Option Value) (base:Heap) (CX:CXT) (k:Nat) (x:Str) (ps:List Str) (sp:Sp):Prop where
 ex:∃ (f:Addr) (fd:FuncData),FnOk P w K mg base CX k f fd ps sp/\Binds K fd ps []/\PySem.W.keepIn K (.ref f)=true/\mg x=some (.ref f)
theorem Def.mk' {P:Program} {w:World} {K:Nh} {mg:Str->Option Value} {base:Heap} {CX:CXT} {k:Nat} {x:Str} {ps:List Str} {sp:Sp} {f:Addr} {fd:FuncData} (F:FnOk P w K mg base CX k f fd ps sp) (b:Binds K fd ps []) (kp:PySem.W.keepIn K (.ref f)=true) (m:mg x=some (.ref f)) :
  Def P w K mg base CX k x ps sp:=⟨f,fd,F,b,kp,m⟩
section
variable {X:Cx} {CX:CXT} {k:Nat} {x:Str} {ps:List Str} {sp:Sp} {E:XK} {p pos:Pos} {e:Expr} {es:List Expr} {t:TA}
theorem uL (D:Def X.prog X.w X.K X.mg X.base CX k x ps sp) (hr:Room k X.A) (hx:Passes CX X E) (ha:PA X (e::es) t) (hg:Gl X x:=by rfl) (hdb:(x==("__debug__":Str))=false:=by decide)
  (he:starEach (e::es) X.env=(false,eval e X.env)::starEach es X.env:=by rfl) (hpl:(backTo pos (starEach es X.env)).any (·.1)=false:=by rfl):PE X (.Call (.Name x p) (e::es) [] pos) (wN sp [] E t):=by
 obtain ⟨f,fd,F,b,kp,m⟩:=D.ex
 exact Io F hr hg m kp b .nil hx ha hdb he hpl
theorem aX (D:Def X.prog X.w X.K X.mg X.base CX0 k x ps sp) (hr:Room k X.A) (ha:PA X (e::es) t) (hg:Gl X x:=by rfl) (hdb:(x==("__debug__":Str))=false:=by decide)
  (he:starEach (e::es) X.env=(false,eval e X.env)::starEach es X.env:=by rfl) (hpl:(backTo pos (starEach es X.env)).any (·.1)=false:=by rfl):PE X (.Call (.Name x p) (e::es) [] pos) (wN sp [] E0 t) :=
 uL D hr zp ha hg hdb he hpl
end
structure Fly (P:Program) (w:World) (l:List Env) (H H':Hp) (s s':Shared) (e:Addr) (C:Value):Prop where
 fl:∃ B a0,Heap.FlyingW B l e C a0 s'.heap/\HOk P w H' B/\(∀ b o,s.heap.get? b=some o->H b=none->b∉frs l->B.get? b=some o)/\∀ b o,s.heap.get? b=some o->b∉frs l->∃ o',B.get? b=some o'
 os:s'.os=s.os
 bare:AllBare s'.gens
 slot:∀ b o,s.heap.get? b=some o->H b=none->b∈frs l->∃ sl,s'.heap.get? b=some { o with slots:=sl }
 free:∀ b o,s.heap.get? b=some o->H b=none->H' b=none
 tups:∀ b xs,H b=some (.tup xs)->H' b=some (.tup xs)
 frzs:∀ b o u,H b=some (.frz o u)->H' b=some (.frz o u)
 tbls:∀ b ps,H b=some (.tbl ps)->∃ more,H' b=some (.tbl (ps++more))
 new:H' e=none/\s.heap.get? e=none
theorem Fly.there {P:Program} {w:World} {l:List Env} {H H':Hp} {s s':Shared} {e:Addr} {C:Value} (F:Fly P w l H H' s s' e C) (b:Addr) (o:Obj) (q:s.heap.get? b=some o):∃ o',s'.heap.get? b=some o':=by
 obtain ⟨B,a0,fl,_,_,c2⟩:=F.fl
 by_cases hb:b∈frs l
 ·obtain ⟨_,o',ho',_⟩:=fl.2.2.1.mem hb
  exact ⟨o',ho'⟩
 ·obtain ⟨o',r⟩:=c2 b o q hb
  exact ⟨o',fl.1 b o' r⟩
theorem vh {l:List Env} {h base:Heap} (F:h.FunFrames base l) {b:Addr} (hb:b∈frs l):∃ o,h.get? b=some o/\∀ vs,o.data≠.fields vs:=by
 obtain ⟨_,o,ho,hd⟩:=F.mem hb
 exact ⟨o,ho,hd⟩
section
variable {P:Program} {w:World} {K:Nh} {mg:Str->Option Value} {base:Heap} {N:List Str} {qual:Str} {scope:Scope} {f:Addr} {cd:Value} {A:Around} {outer:List Env} {s₀:Shared} {H₀:Hp} {E:XK}
end
abbrev Cx.inTry (X:Cx) (pn:List (Addr×Obj)) (E:Value->Shared->Prop):Cx:={ X with pn:=pn,xe:=E }
abbrev Cx.inSuite (X:Cx) (e:Addr):Cx:={ X with A:=X.A.mark (some (.ref e)),calm:=false,xe:=fun _ _=>False }
section
variable {X:Cx} {pins:List (Addr×Obj)} {σ:St} {H:Hp} {s:Shared}
theorem Cx.Ok.inTry (ok:X.Ok) (pn:List (Addr×Obj)) (E:Value->Shared->Prop):(X.inTry pn E).Ok :=
 ⟨ok.mod,ok.kind,ok.glob,ok.blt,ok.above,ok.inj,ok.has,ok.cab,ok.hd,ok.frames,ok.stk,ok.exf,ok.bs,ok.bsz,ok.noex,ok.exfs,ok.funs,ok.frf⟩
theorem Cx.Ok.inSuite (ok:X.Ok) (e:Addr):(X.inSuite e).Ok :=
 ⟨ok.mod,ok.kind,ok.glob,ok.blt,ok.above,ok.inj,ok.has,ok.cab,fun z=>absurd (show false=true from z) (by decide),ok.frames,ok.stk,ok.exf,ok.bs,ok.bsz,ok.noex,ok.exfs,ok.funs,ok.frf⟩
theorem Inv.inTry (I:Inv X pins σ H s) (E:Value->Shared->Prop):Inv (X.inTry (X.pn++pins) E) [] σ H s :=
 ⟨I.ok.inTry _ _,I.os,I.bare,I.base,I.loc,I.cell,I.free,I.freeC,fun p hp=>I.pin p (by simpa using hp),I.hok,I.len⟩
theorem Inv.ofTry {pn ps:List (Addr×Obj)} {E:Value->Shared->Prop} (ok:X.Ok) (I:Inv (X.inTry (X.pn++pn) E) ps σ H s):Inv X pn σ H s :=
 ⟨ok,I.os,I.bare,I.base,I.loc,I.cell,I.free,I.freeC,fun p hp=>I.pin p (O8 _ hp),I.hok,I.len⟩
theorem Inv.inSuite (I:Inv X pins σ H s) (e:Addr):Inv (X.inSuite e) pins σ H s :=
 ⟨I.ok.inSuite e,I.os,I.bare,I.base,I.loc,I.cell,I.free,I.freeC,I.pin,I.hok,I.len⟩
theorem Inv.ofSuite {e:Addr} (ok:X.Ok) (I:Inv (X.inSuite e) pins σ H s):Inv X pins σ H s :=
 ⟨ok,I.os,I.bare,I.base,I.loc,I.cell,I.free,I.freeC,I.pin,I.hok,I.len⟩
theorem Inv.land {H':Hp} {s':Shared} {e:Addr} {C a0:Value} {B h3:Heap} {t':Nat} (I:Inv X pins σ H s) (F:Fly X.prog X.w X.stack H H' s s' e C) (fl:Heap.FlyingW B X.stack e C a0 s'.heap) (okB:HOk X.prog X.w H' B)
  (c1:∀ b o,s.heap.get? b=some o->H b=none->b∉frs X.stack->B.get? b=some o) (c2:∀ b o,s.heap.get? b=some o->b∉frs X.stack->∃ o',B.get? b=some o') (st:B.StaysIn h3) (up:s'.heap.UpToSlots h3) :
  Inv X pins σ H' { s' with heap:=h3,toks:=t' }:=by
 have upF:∀ b o,s'.heap.get? b=some o->b∈frs X.stack->∃ sl,h3.get? b=some { o with slots:=sl }:=fun b o q hb=>by
  obtain ⟨o',ho',hd⟩:=vh fl.2.2.1 hb
  rw [q] at ho'
  cases ho'
  exact up b o q hd
 refine I.call' (s':={ s' with heap:=h3,toks:=t' }) (ch:=[]) F.os ⟨fun b o q n hb _=>st b o (c1 b o q n hb),fun b o q n hb _=>?_,fun b o q n _=>F.free b o q n,fun b o q _=>?_,F.tups,F.frzs,F.tbls⟩ (okB.kept st) F.bare (fun _ z=>nomatch z)
 ·obtain ⟨sl,r⟩:=F.slot b o q n hb
  obtain ⟨sl2,r2⟩:=upF b _ r hb
  exact ⟨sl2,r2⟩
 ·by_cases hb:b∈frs X.stack
  ·obtain ⟨o',ho',hd⟩:=vh fl.2.2.1 hb
   obtain ⟨sl,r⟩:=up b o' ho' hd
   exact ⟨_,r⟩
  ·obtain ⟨o',r⟩:=c2 b o q hb
   exact ⟨o',st b o' r⟩
theorem SP.ofSuite {e:Addr} {D:Ends} {f:Flow} (ok:X.Ok) (q:SP (X.inSuite e) pins D f s):SP X pins D f s:=by
 cases f with
 | next=>obtain ⟨σ1,H1,J,q⟩:=q; exact ⟨σ1,H1,Inv.ofSuite ok J,q⟩
 | brk=>obtain ⟨σ1,H1,J,q⟩:=q; exact ⟨σ1,H1,Inv.ofSuite ok J,q⟩
 | cont=>obtain ⟨σ1,H1,J,q⟩:=q; exact ⟨σ1,H1,Inv.ofSuite ok J,q⟩
 | ret u=>obtain ⟨v,σ1,H1,J,r,q⟩:=q; exact ⟨v,σ1,H1,Inv.ofSuite ok J,r,q⟩
theorem SP.ofTry {pn:List (Addr×Obj)} {E:Value->Shared->Prop} {D:Ends} {f:Flow} (ok:X.Ok) (q:SP (X.inTry (X.pn++pn) E) [] D f s):SP X pn D f s:=by
 cases f with
 | next=>obtain ⟨σ1,H1,J,q⟩:=q; exact ⟨σ1,H1,Inv.ofTry ok J,q⟩
 | brk=>obtain ⟨σ1,H1,J,q⟩:=q; exact ⟨σ1,H1,Inv.ofTry ok J,q⟩
 | cont=>obtain ⟨σ1,H1,J,q⟩:=q; exact ⟨σ1,H1,Inv.ofTry ok J,q⟩
 | ret u=>obtain ⟨v,σ1,H1,J,r,q⟩:=q; exact ⟨v,σ1,H1,Inv.ofTry ok J,r,q⟩
theorem rO {M:Model} {h:Heap} {e:Addr} {o:Obj} (q:h.get? e=some o):PySem.W.Looks M h (typeOf (.ref e)) o.cls:=(PySem.W.Looks.ld q).andThen .now
end
structure EqOk {α:Type} [DecidableEq α] (X:Cx) (A:Around) (R:Hp->α->V->Prop):Prop where
 eq:∀ (pins:List (Addr×Obj)) (σ:St) (H:Hp) (s:Shared),Inv X pins σ H s->∀ a b x y u v,R H a x->R H b y->RelV x u->RelV y v->SeqAt.EqAt A s u v (decide (a=b))
 fn:∀ (pins:List (Addr×Obj)) (σ:St) (H:Hp) (s:Shared),Inv X pins σ H s->∀ a b x,R H a x->R H b x->a=b
def strR:Hp->Str->V->Prop:=fun _ z v=>v=.str z
def tupR {α:Type} (K:Nh) (R:Hp->α->V->Prop):Hp->List α->V->Prop:=fun H zs v=>∃ a xs,v=.ref a/\SqT K H a xs/\Paired (R H) zs xs
def lstR {α:Type} (K:Nh) (R:Hp->α->V->Prop):Hp->List α->V->Prop:=fun H zs v=>∃ a xs,v=.ref a/\SqL K H a xs/\Paired (R H) zs xs
theorem aY {α β:Type} {F:α->β->Prop}:∀ {l₁:List α} {l₂:List β} {i:Nat} {b:β},Paired F l₁ l₂->l₂[i]?=some b->∃ a,l₁[i]?=some a/\F a b
 | _,_,_,_,.nil,e=>by simp at e
 | _,_,0,_,.cons h _,e=>by simp at e; subst e; exact ⟨_,rfl,h⟩
 | _,_,i+1,b,.cons _ t,e=>by
  obtain ⟨a,h1,h2⟩:=aY (i:=i) (b:=b) t (by simpa using e)
  exact ⟨a,by simpa using h1,h2⟩
theorem nq {α β:Type} {F:α->β->Prop} (hf:∀ a b x,F a x->F b x->a=b):∀ {l l':List α} {m:List β},Paired F l m->Paired F l' m->l=l'
 | _,_,_,.nil,.nil=>rfl
 | _,_,_,.cons h t,.cons h' t'=>by rw [hf _ _ _ h h',nq hf t t']
theorem iw {α β:Type} {F:α->β->Prop} {f:α->β} (h:∀ a,F a (f a)):∀ l:List α,Paired F l (l.map f)
 | []=>.nil
 | a::r=>.cons (h a) (iw h r)
theorem uO {α:Type} [DecidableEq α] (xs ys:List α):((List.range (min xs.length ys.length)).all (fun j=>decide (xs[j]?=ys[j]?)) && xs.length==ys.length)=decide (xs=ys):=by
 rw [Bool.eq_iff_iff]
 simp only [Qa,PJ,Qt,decide_eq_true_eq,beq_iff_eq]
 constructor
 ·rintro ⟨h1,h2⟩
  refine Uh fun i=>?_
  by_cases hi:i<xs.length
  ·exact h1 i (by omega)
  ·rw [QM (by omega),QM (by omega)]
 ·rintro rfl
  exact ⟨fun _ _=>rfl,rfl⟩
section
variable {X:Cx} {α:Type} [DecidableEq α] {R:Hp->α->V->Prop}
theorem wg {A:Around}:EqOk X A strR where
 eq:=fun pins σ H s I a b x y u v ra rb ru rv=>by
  cases ra
  cases rb
  obtain ⟨t,rfl⟩:=ru
  obtain ⟨t',rfl⟩:=rv
  exact SeqAt.EqAt.str_str a t b t'
 fn:=fun pins σ H s I a b x ra rb=>by
  rw [ra] at rb
  exact V.str.inj rb
theorem vO {A:Around} (h:EqOk X A R) {pins:List (Addr×Obj)} {σ:St} {H:Hp} {s:Shared} (I:Inv X pins σ H s) {zs ws:List α} {xs ys:List V} {its its2:List Value} (r:Vals xs its) (r':Vals ys its2) (p:Paired (R H) zs xs) (p':Paired (R H) ws ys)
  (j:Nat) (h1:j<its.toArray.size) (h2:j<its2.toArray.size):SeqAt.EqAt A s its.toArray[j] its2.toArray[j] (decide (zs[j]?=ws[j]?)):=by
 have l1:j<its.length:=by simpa using h1
 have l2:j<its2.length:=by simpa using h2
 have k1:j<xs.length:=by rw [r.length]; exact l1
 have k2:j<ys.length:=by rw [r'.length]; exact l2
 obtain ⟨u,hu,ru⟩:=r.get (Nr k1)
 obtain ⟨v,hv,rv⟩:=r'.get (Nr k2)
 obtain ⟨a,ha,ra⟩:=aY p (Nr k1)
 obtain ⟨b,hb,rb⟩:=aY p' (Nr k2)
 have e1:its.toArray[j]=u:=by
  rw [Nr l1] at hu
  simpa using Option.some.inj hu
 have e2:its2.toArray[j]=v:=by
  rw [Nr l2] at hv
  simpa using Option.some.inj hv
 have e3:decide (zs[j]?=ws[j]?)=decide (a=b):=by
  rw [ha,hb]
  exact decide_eq_decide.mpr ⟨fun z=>Option.some.inj z,fun z=>by rw [z]⟩
 rw [e1,e2,e3]
 exact h.eq pins σ H s I a b _ _ u v ra rb ru rv
theorem FJ {A:Around} (h:EqOk X A.in1 R) (hu:A.units<cLine) {pins:List (Addr×Obj)} {σ:St} {H:Hp} {s:Shared} (I:Inv X pins σ H s) {zs ws:List α} {a b:Addr} {xs ys:List V} (q:SqT X.K H a xs) (q':SqT X.K H b ys) (p:Paired (R H) zs xs) (p':Paired (R H) ws ys) :
  SeqAt.RcAt A s (.ref a) (.ref b) (decide (zs=ws))/\SeqAt.RcNeAt A s (.ref a) (.ref b) (!decide (zs=ws)):=by
 obtain ⟨its,r,t,_⟩:=I.tuple q
 obtain ⟨its2,r',t',_⟩:=I.tuple q'
 have e:((List.range (min its.toArray.size its2.toArray.size)).all (fun j=>decide (zs[j]?=ws[j]?)) && its.toArray.size==its2.toArray.size)=decide (zs=ws):=by
  have l1:its.toArray.size=zs.length:=by rw [N5,<- r.length,p.length]
  have l2:its2.toArray.size=ws.length:=by rw [N5,<- r'.length,p'.length]
  rw [l1,l2]
  exact uO zs ws
 have g1:=SeqAt.RcAt.tuples (A:=A) (s:=s) (l:=a) (b:=b) (e:=fun j=>decide (zs[j]?=ws[j]?)) t t' hu (fun j h1 h2=>vO h I r r' p p' j h1 h2)
 have g2:=SeqAt.RcNeAt.tuples (A:=A) (s:=s) (l:=a) (b:=b) (e:=fun j=>decide (zs[j]?=ws[j]?)) t t' hu (fun j h1 h2=>vO h I r r' p p' j h1 h2)
 rw [e] at g1 g2
 exact ⟨g1,g2⟩
theorem vG {A:Around} (h:EqOk X A.in1 R) (hu:A.units<cLine):EqOk X A (tupR X.K R) where
 eq:=fun pins σ H s I zs ws x y u v ⟨a,xs,e1,q,p⟩ ⟨b,ys,e2,q',p'⟩ ru rv=>by
  subst e1 e2
  cases ru
  cases rv
  by_cases hab:a=b
  ·subst hab
   have ex:=I.tuple_inj q q'
   subst ex
   have ez:=nq (h.fn pins σ H s I) p p'
   rw [decide_eq_true ez]
   exact SeqAt.EqAt.same _
  ·exact SeqAt.EqAt.of_refs hab (FJ h hu I q q' p p').1
 fn:=fun pins σ H s I zs ws x ⟨a,xs,e1,q,p⟩ ⟨b,ys,e2,q',p'⟩=>by
  subst e1
  cases e2
  have ex:=I.tuple_inj q q'
  subst ex
  exact nq (h.fn pins σ H s I) p p'
theorem v7 (h:EqOk X X.A.in1 R) (hu:X.A.units<cLine):OpR X (compareOp .Eq) (fun x y H Q=>∃ zs ws,tupR X.K R H zs x/\tupR X.K R H ws y/\Q (.bl (decide (zs=ws))) H):=by
 intro pins s σ H x y v u Q I rx ry hq
 obtain ⟨zs,ws,⟨a,xs,e1,q,p⟩,⟨b,ys,e2,q',p'⟩,hQ⟩:=hq
 subst e1 e2
 cases rx
 cases ry
 exact (FJ h hu I q q' p p').1 X.prog X.w _ _ ⟨.bl _,H,I,rfl,hQ⟩
theorem qw:OpR X (binaryOp .Add) (fun x y H Q=>∃ a b ys,x=.ref a/\y=.ref b/\SqT X.K H a []/\SqT X.K H b ys/\Q (.ref b) H):=by
 intro pins s σ H x y v u Q I rx ry h
 obtain ⟨a,b,ys,rfl,rfl,ha,hb,q⟩:=h
 cases rx
 cases ry
 obtain ⟨its,r1,p1,_⟩:=I.tuple ha
 obtain ⟨its2,r2,p2,_⟩:=I.tuple hb
 cases r1
 obtain ⟨⟨c1,d1,t1,l1⟩,o1,hc1,n1,hd1⟩:=p1
 obtain ⟨⟨c2,d2,t2,l2⟩,o2,hc2,n2,hd2⟩:=p2
 simp only at hc1 hd1 hc2 hd2
 subst hc1 hd1 hc2 hd2
 exact Wr ⟨_,o1,rfl⟩ ⟨_,o2,rfl⟩ Uw VP Sg R4 (RT _ _)
  (tuple_addW0 a b #[] its2.toArray n1 n2 d1 d2 l1 l2 rfl) ⟨o1,o2,⟨.ref b,H,I,rfl,q⟩⟩
def pP (x y:Str):Bool:=decide (y.length<=x.length) && decide (x.cps.toList.drop (x.length-y.length)=y.cps.toList)
theorem GX:MtR X "str.endswith" (fun x vs H Q=>∃ z y,x=.str z/\vs=[.str y]/\Q (.bl (pP z y)) H):=by
 intro pins s σ H x vs v us Q I rx rv h
 obtain ⟨z,y,rfl,rfl,q⟩:=h
 obtain ⟨t,rfl⟩:=rx
 obtain ⟨u,rfl,ru⟩:=vals1 rv
 obtain ⟨t',rfl⟩:=ru
 refine SC.endswith ⟨.bl (pP z y),H,I,?_,q⟩
 show Value.bool (Txt.endswith z y)=Value.bool (pP z y)
 have e:Txt.endswith z y=pP z y:=by
  unfold Txt.endswith pP
  rw [StrLaws.subAt_eq]
  by_cases hl:y.length<=z.length
  ·have e1:(z.cps.toList.drop (z.length-y.length)).take y.length=z.cps.toList.drop (z.length-y.length):=Pb (by rw [O9]; simp [Str.length] at hl ⊢; omega)
   rw [e1]
   have e2:(z.cps.toList.drop (z.length-y.length)==y.cps.toList)=decide (z.cps.toList.drop (z.length-y.length)=y.cps.toList):=by
    rw [Bool.eq_iff_iff]
    simp
   rw [e2]
   simp [hl]
  ·simp [hl]
 rw [e]
end
section
variable {X:Cx} {t:St->Hp->Prop}
end
structure XCls (K:Nh) (D:Addr):Prop where
 cl:(PySem.W.clsIn K D).isSome=true
 ga:PySem.W.findIn K (.ref D) "__getattribute__"=some (some (.builtin "BaseException.__getattribute__"))
 gt:PySem.W.findIn K (.ref D) "__getattr__"=some none
 at_:PySem.W.findIn K (.ref D) "__class__"=some (some (.builtin "object.__class__"))
 sp:PySem.W.specialIn K (.builtin "object.__class__") "__get__"=some (some (.builtin "getset_descriptor.__get__"))
 tk:PySem.W.takesIn K (.builtin "object.__class__")=some true
 ob:PySem.W.mroIn K D (.type "object")=some true
 be:PySem.W.mroIn K D (.type "BaseException")=some true
theorem gP {M:Model} {h:Heap} {x D:Addr} {ox:Obj} (ho:h.get? x=some ox) (hc:ox.cls=.ref D):PySem.W.Looks M h (typeOf (.ref x)) (.ref D):=hc▸rO ho
section
variable {prog:Program} {w:World} {A:Around} {E:Value->Shared->Prop} {s:Shared} {K:Nh} {x D:Addr} {ox:Obj}
theorem find_class {M:Model} {h:Heap} {v:Value} (X:K.In h) (T:XCls K D):PySem.W.Looks M h (PySem.Builtin.ObjectAttr.find v (.ref D) "__class__") (PySem.Builtin.ObjectAttr.Found.bind (.builtin "getset_descriptor.__get__") (.builtin "object.__class__")):=by
 have L3:=PySem.W.looks_takesIn (M:=M) X T.tk
 have L4:PySem.W.Looks M h (Vc (some (.builtin "object.__class__")) (some (.builtin "getset_descriptor.__get__"))) (some (.builtin "getset_descriptor.__get__",.builtin "object.__class__")):=L3.andThen .now
 have L5:PySem.W.Looks M h (PySem.Builtin.ObjectAttr.getOf (some (.builtin "object.__class__"))) (some (.builtin "getset_descriptor.__get__")):=PySem.W.looks_specialIn X T.sp
 exact (QC X T.at_).andThen (L5.andThen (L4.andThen (PySem.W.Looks.tag .now)))
open PySem.W PySem.Builtin PySem.Builtin.ObjectAttr PySem.Builtin.Getset_descriptor in
theorem FT {R:Result->Shared->Prop} {tp:Value} (X:K.In s.heap) (ho:s.heap.get? x=some ox) (hc:ox.cls=.ref D) (hm:mroIn K D (.type "object")=some true) (h:R (.ok (.ret (.ref D))) s) :
  codeAny (model prog w) A (.call (.builtin "getset_descriptor.__get__") ⟨[.builtin "object.__class__",.ref x,tp],[]⟩) R s:=by
 obtain ⟨hh,g,dr,t,os⟩:=s
 have L0:=gP (M:=model prog w) ho hc
 have L1:=VG (M:=model prog w) X hm
 refine QD KF.slot_gs.plain KF.entry_gs (KF.slot_gs.check _ _ _ _ _ _ _ _ KF.type_class (KF.args_gs _ _ _) ?_)
 (unfold Builtin.«getset_descriptor.__get__» descrGet; rw [dga_obj])
 refine Nf (Ni ?_)
 (unfold descrGetter descrCheckInstance descrNameAndClass isInstance; simp only [KF.owner_class]; repeat lk)
 refine ⟨Qk _ (by decide +kernel),QH KF.entry_class ?_⟩
 (unfold Builtin.«object.__class__» shownTypeOf; repeat lk)
 exact h
theorem Cm {Q:Option Value->Shared->Prop} (X:K.In s.heap) (T:XCls K D) (ho:s.heap.get? x=some ox) (hc:ox.cls=.ref D) (h:Q (some (.ref D)) { s with toks:=s.toks+1 }):wpAny (model prog w) A (getAttr? (.ref x) "__class__") Q E s:=by
 obtain ⟨hh,g,d,t,os⟩:=s
 have L0:=gP (M:=model prog w) ho hc
 have L1:=QC (M:=model prog w) X T.ga
 have L2:=QC (M:=model prog w) X T.gt
 have L3:=find_class (M:=model prog w) (v:=.ref x) X T
 have L4:=VG (M:=model prog w) X T.be
 have bnd:=Q7.ga.bind (.ref x)
 unfold getAttr? getAttrBy? getAttrBy
 refine Nf (Ws (Nf (Rx (Pa (Nf (L0.at (Nf (L1.at ?_))))))))
 have hx2:(Value.builtin "BaseException.__getattribute__"==Value.builtin "object.__getattribute__")=false:=by decide +kernel
 show wpAny _ _ (if (onTheHeap (Value.ref D) && (Value.builtin "BaseException.__getattribute__"==Value.builtin "object.__getattribute__"))=true then _ else _) _ _ _
 rw [hx2,SM,if_neg Oz]
 unfold getAttrByItsOwn hookBefore
 refine Nf ?_
 show wpAny _ _ (typeLookup (Value.ref D) "__getattr__") _ _ _
 refine L2.at (Nf (Rx (Pa ?_)))
 show wpAny _ _ (boundAndCalled (Value.builtin "BaseException.__getattribute__") (Value.ref x) _) _ _ _
 unfold boundAndCalled
 rw [bnd]
 refine Nf (Ni (Ri ?_))
 refine QD Q7.ga.plain WX ?_
 have hk:builtinKind "BaseException.__getattribute__"=some .slot:=by decide +kernel
 have hsp:splitId "BaseException.__getattribute__"=some ("BaseException","__getattribute__"):=by decide +kernel
 have hargs:=F.args_bexc_ga (.ref x) (.str "__class__" t)
 show wpAny _ _ (checkBuiltinCall "BaseException.__getattribute__" ⟨[Value.ref x,Value.str "__class__" t],[]⟩) _ _ _
 simp only [checkBuiltinCall,hk,hsp]
 refine Nf ?_
 unfold isInstance
 refine Nf (L0.at ?_)
 refine L4.at ?_
 repeat (first | with_reducible refine L0.at ?_ | with_reducible refine L3.at ?_ | wp_step)
 refine FT (s:=⟨hh,g,d,t+1,os⟩) X ho hc T.ob ?_
 exact Ni (PySem.W.handed_on rfl (Ni h))
theorem vY (T:XCls K D):PySem.W.KitX K (.ref x) (.ref D) (fun h=>∃ ox,h.get? x=some ox/\ox.cls=.ref D) where
 ty:=fun _ _ _ ⟨_,ho,hc⟩=>gP ho hc
 it:=fun _ _ X _=>by
  have hc:=T.cl
  unfold PySem.W.clsIn at hc
  split at hc
  ·rename_i ho
   intro A' Q' E' s' k q
   unfold isType loadHead
   exact Nf (SJ (k _ _ (X _ _ ho)) (Ni q))
  ·cases hc
 ne:=fun h tp dd its n sl X htp=>by
  have hc:=T.cl
  refine Bool.eq_false_iff.mpr fun q=>?_
  have e:D=tp:=Value.ref.inj (beq_iff_eq.mp q)
  subst e
  unfold PySem.W.clsIn at hc
  split at hc
  ·rename_i ho
   have z:=(X _ _ ho).symm.trans htp
   cases z
  ·cases hc
 ca:=fun X ⟨_,ho,hc⟩ k=>Cm X T ho hc k
end
section
variable {X:Cx}
theorem Inv.seen {pins:List (Addr×Obj)} {σ:St} {H:Hp} {s:Shared} {e:Addr} {φ:Heap->Prop} {o:Obj} (I:Inv X pins σ H s) (n:H e=none) (ho:s.heap.get? e=some o) (hφ:φ s.heap) (st:∀ h1 h2:Heap,φ h1->(∀ o,h1.get? e=some o->h2.get? e=some o)->φ h2)
  (h0:X.s₀.heap.get? e=none) (hl:e≠X.env.locals) (hc:∀ x c,X.env.cells.lookup x=some c->c≠e) (hp:∀ p∈X.pn++pins,p.1≠e) (hb:X.base.get? e=none):Inv X pins σ (upd H e (.ext φ)) s:=by
 have tD:∀ b u,H b=some u->b≠e:=fun b u q z=>by rw [z,n] at q; cases q
 have h0':∀ b u,X.s₀.heap.get? b=some u->b≠e:=fun b u q z=>by rw [z,h0] at q; cases q
 refine ⟨I.ok,I.os,I.bare,⟨I.base.keep,I.base.slot,fun b u q m hx=>by rw [aC (h0' b u q)]; exact I.base.free b u q m hx,I.base.there,fun b xs q=>?_,fun b u v q=>?_,fun b ps q=>?_⟩,I.loc,I.cell,by rw [aC (Ne.symm hl)]; exact I.free,fun x c q=>by rw [aC (hc x c q)]; exact I.freeC x c q,fun p q=>?_,fun b u q=>?_,I.len⟩
 ·have z:=I.base.tups b xs q
  rw [aC (tD b _ z)]; exact z
 ·have z:=I.base.frzs b u v q
  rw [aC (tD b _ z)]; exact z
 ·obtain ⟨more,z⟩:=I.base.tbls b ps q
  exact ⟨more,by rw [aC (tD b _ z)]; exact z⟩
 ·obtain ⟨a1,a2,a3⟩:=I.pin p q
  exact ⟨a1,by rw [aC (hp p q)]; exact a2,a3⟩
 ·by_cases z:b=e
  ·subst z
   rw [ak] at q
   cases q
   exact ⟨hφ,⟨o,ho⟩,st⟩
  ·rw [aC z] at q
   exact (I.hok b u q).stay (fun _ _ _ y=>y) (fun c y=>by rw [aC (tD c _ y)]; exact y) fun c xs y=>by rw [aC (tD c _ y)]; exact y
end
section
variable {X:Cx} {pins:List (Addr×Obj)} {σ:St} {H:Hp} {s:Shared}
theorem name_goes {M:Model} {A:Around} {E:Value->Shared->Prop} {i:Nat} {n:Str} {pos:Pos} {Q:Unit->Shared->Prop} (I:Inv X pins σ H s) (hN:X.N.Nodup) (hi:X.N[i]?=some n) (hk:X.env.scope.names.lookup n=some .local)
  (h:∀ s',Inv X pins (σ.set i none) H s'->Q () s'):wpAny M A (do bindName X.env n .none; unbindBehindTheSuite X.env n pos) Q E s:=by
 obtain ⟨m,hn,hl⟩:=id I.loc
 have hcls:(X.env.scope.kind==.class || (X.env.scope.kind==.module && X.env.locals != X.env.globals))=false:=by rw [I.ok.kind]; rfl
 obtain ⟨oL,_,_,hoL,_⟩:=id hn
 have hiσ:i<σ.length:=by rw [I.len]; exact (Nj.mp hi).1
 refine wpAny_nameGoes_keeps hk hn hcls fun h' v hn' hs=>h _ ?_
 have ne0:∀ b o,X.s₀.heap.get? b=some o->b≠X.env.locals:=fun b o e=>Ot (Om (N7 e) I.ok.above)
 refine ⟨I.ok,I.os,I.bare,⟨fun b o e n' hb hx=>(hs.2 b (ne0 b o e)).trans (I.base.keep b o e n' hb hx),fun b o e n' hb hx=>?_,I.base.free,fun b o e hx=>?_,I.base.tups,I.base.frzs,I.base.tbls⟩,⟨_,hn',fun j y v' e1 e2 e3=>?_⟩,fun y c e=>?_,I.free,I.freeC,fun p hp=>?_,fun b ob e=>?_,by simpa using I.len⟩
 ·obtain ⟨sl,e1⟩:=I.base.slot b o e n' hb hx
  exact ⟨sl,(hs.2 b (ne0 b o e)).trans e1⟩
 ·obtain ⟨o',e1⟩:=I.base.there b o e hx
  exact ⟨o',(hs.2 b (ne0 b o e)).trans e1⟩
 ·by_cases hj:j=i
  ·subst hj
   rw [Qo hiσ] at e2
   cases e2
  ·rw [QT (Ne.symm hj)] at e2
   obtain ⟨u',r',q⟩:=hl j y v' e1 e2 e3
   refine ⟨u',r',?_⟩
   rcases q with ⟨k,e⟩ | ⟨k,c,e,z⟩
   ·have hy:y≠n:=fun z=>hj (pH hN e1 (z▸hi))
    exact .inl ⟨k,by simp [hy,e]⟩
   ·exact .inr ⟨k,c,e,z.sameBut hs (I.cne y c e)⟩
 ·obtain ⟨w',z⟩:=I.cell y c e
  exact ⟨w',z.sameBut hs (I.cne y c e)⟩
 ·obtain ⟨e,n',ne,nf,d⟩:=I.pin p hp
  exact ⟨(hs.2 p.1 ne).trans e,n',ne,nf,d⟩
 ·refine (I.hok b ob e).stay (fun c w' hc q=>(hs.2 c ?_).trans q) (fun _ q=>q) fun _ _ q=>q
  intro z
  rcases hc with y | y
  ·rw [<- y,z,I.free] at e
   cases e
  ·rw [z,I.free] at y
   cases y
end
theorem Fun.okX {P:Program} {w:World} {K:Nh} {mg:Str->Option Value} {base:Heap} {CX:CXT} {x qual:Str} {st:Stmt} {f:Addr} {fd:FuncData} {N ps:List Str} {k:Nat} {sp:Sp} (F:Fun K x qual st f fd) (S:FnScope N ps (aA st)) (len:∀ vs H Q E,sp vs H Q E->vs.length=ps.length)
  (hbody:∀ (cdv:Value) (A:Around) (outer:List Env) (s:Shared) (H:Hp) (vs:List V) (Q:VK) (E:XK),Room k (A.deeper (envOfC qual (aA st) s.heap.objs.size f cdv))->sp vs H Q E ->
   ∃ t,PSs (cxOf CX P w K mg base N qual (aA st) f cdv A outer s H E) (aM st) t/\t { nx:=fun _ H'=>Q .non H',rt:=Q } (start N vs) H):FnOk P w K mg base CX (k+1) f fd ps sp:=by
 obtain ⟨oc,od,kV,doc,pm,an,cdv,ct,osl,rfl,lk,hcd⟩:=F.ex
 exact Jr lk hcd S len fun A outer s H vs Q E hr hsp=>hbody cdv A outer s H vs Q E hr hsp
theorem vL (xs:List V) (l:V):cutV (xs++[l]) none (some (-1))=xs/\¬ (HT.sIx (xs++[l]).length 0 none=0/\HT.sIx (xs++[l]).length (xs++[l]).length (some (-1))=(xs++[l]).length):=by
 have e:HT.sIx (xs++[l]).length (xs++[l]).length (some (-1))=xs.length:=by
  have z:HT.sIx (xs++[l]).length (xs++[l]).length (some (-1))=((-1:Int)+((xs++[l]).length:Int)).toNat:=rfl
  rw [z,Np,O5]
  omega
 constructor
 ·unfold cutV
  rw [e,HT.sIx_none,SN,TX,Q9 (Nu _),Oa]
 ·rw [e,Np,O5]
  omega
theorem pY {H:Hp} {p:Addr} (h:H p=none) (o:HO):Same H (upd H p o):=fun b u q=>by rw [aC (bZ q h)]; exact q
theorem Same.seqT {K:Nh} {H H':Hp} {a:Addr} {xs:List V} (e:Same H H') (h:SqT K H a xs):SqT K H' a xs:=by
 rcases h with (h | ⟨o,h⟩) | h
 ·exact .inl (.inl (e _ _ h))
 ·exact .inl (.inr ⟨o,e _ _ h⟩)
 ·exact .inr h
abbrev Js (K:Nh):R2:=fun x y H Q=>(∃ a b ys,x=.ref a/\y=.ref b/\SqT K H a []/\SqT K H b ys/\Q (.ref b) H)∨Ju K x y H Q
theorem HX {K:Nh} {H:Hp} {Q:VK} {a b:Addr} {xs ys:List V} (ha:SqT K H a xs) (hb:H b=some (.tup ys)) (hy:ys≠[]) (hz:xs.length+ys.length<=sizeLine) (q:∀ p H',Same H H'->H' p=some (.tup (xs++ys))->Q (.ref p) H'):Js K (.ref a) (.ref b) H Q:=by
 by_cases hx:xs=[]
 ·subst hx
  exact .inl ⟨a,b,ys,rfl,rfl,ha,SqT.of hb,q b H (Same.refl H) hb⟩
 ·exact .inr ⟨a,b,xs,ys,rfl,rfl,ha,SqT.of hb,hx,hz,fun z=>absurd z hy,fun _ p hp=>q p _ (pY hp _) ak⟩
theorem zZ {K:Nh} {σ:St} {H:Hp} {Q:VK} {i:Nat} {a:Addr} {xs:List V} {l z:V} {te:TE} (hσ:σ[i]?=some (some (.ref a))) (hS:SqT K H a (xs++[l])) (hz:xs.length+1<=sizeLine) (ht:∀ H1,Same H H1->∀ Q1:VK,Q1 z H1->te σ H1 Q1)
  (q:∀ p H',Same H H'->H' p=some (.tup (xs++[z]))->Q (.ref p) H'):tOp (Js K) (tSl (rSlT K) (tVar i) uD (Jq (tUn (rU fun i=>.int (-i)) (tC (.int 1))))) (tTup (cX te tNil)) σ H Q:=by
 obtain ⟨e,nw⟩:=vL xs l
 refine ⟨_,hσ,1,rfl,_,rfl,a,_,rfl,hS,nw,fun p hp=>?_⟩
 have g1:=pY hp (.tup (cutV (xs++[l]) none (some (-1))))
 refine ht _ g1 _ ⟨(by show 1<=sizeLine; decide),fun p2 hp2=>?_⟩
 have g2:=pY hp2 (.tup [z])
 refine HX (xs:=xs) (ys:=[z]) (g2.seqT (SqT.of (by rw [ak,e]))) ak (by simp) hz fun p3 H' g3 h3=>q p3 H' (g1.trans (g2.trans g3)) h3
section
variable {X:Cx}
end
end L2
namespace D
open PySem L2
def top (i:Nat):Stmt:=TY.main.body.getD i (.Pass ⟨0,0,0,0⟩)
abbrev fW:Stmt:=top 9
abbrev ni:Stmt:=top 11
abbrev iD:Stmt:=top 12
abbrev cW:Stmt:=top 14
abbrev gk:Stmt:=top 21
abbrev bN:Stmt:=top 23
abbrev d7:Stmt:=top 24
abbrev cG:Stmt:=top 25
abbrev bV:Stmt:=top 26
abbrev dR:Stmt:=top 28
abbrev gj:Stmt:=top 29
abbrev eY:Stmt:=top 30
abbrev jw:Stmt:=top 31
abbrev lD:Stmt:=top 33
abbrev cY:Stmt:=top 34
abbrev cP:Stmt:=top 35
abbrev gH:Stmt:=top 36
abbrev iQ:Stmt:=top 38
abbrev iB:Stmt:=top 39
abbrev fU:Stmt:=top 40
abbrev dY:Stmt:=top 41
abbrev iW:Stmt:=top 42
abbrev gO:Stmt:=top 43
abbrev fj:Stmt:=top 44
abbrev fX:Stmt:=top 45
abbrev iZ:Stmt:=top 46
abbrev iy:Stmt:=top 47
abbrev gR:Stmt:=top 48
abbrev dX:Stmt:=top 49
abbrev cQ:Stmt:=top 50
abbrev gK:Stmt:=top 51
abbrev cO:Stmt:=top 52
end D
namespace L2
open PySem PySem.Spec PyProof.Rows
section
variable {X:Cx} {pins:List (Addr×Obj)} {σ:St} {H:Hp} {s:Shared} {A:Around} {a b:Addr} {xs ys:List V}
end
section
variable {X:Cx} {n:Nat}
end
inductive F where
 | nil
 | say (n:Int) (ws:List Str) (r:F)
 | tell (n:Int) (sc:Str) (ph:List Str) (bs:List (Str×Str)) (ms:List Str) (r:F)
 | part (n:Int) (i r:F)
 deriving DecidableEq
inductive Th where
 | say (n:Int) (ws:List Str)
 | tell (n:Int) (sc:Str) (ph:List Str) (bs:List (Str×Str)) (ms:List Str)
 | part (n:Int) (i:F)
 deriving DecidableEq
def F.ths:F->List Th
 | .nil=>[]
 | .say n ws r=>.say n ws::r.ths
 | .tell n sc ph bs ms r=>.tell n sc ph bs ms::r.ths
 | .part n i r=>.part n i::r.ths
def Th.cons:Th->F->F
 | .say n ws,r=>.say n ws r
 | .tell n sc ph bs ms,r=>.tell n sc ph bs ms r
 | .part n i,r=>.part n i r
def F.of:List Th->F
 | []=>.nil
 | t::r=>t.cons (F.of r)
theorem Er (t:Th) (f:F):(t.cons f).ths=t::f.ths:=by cases t <;> rfl
theorem jO:∀ ts:List Th,(F.of ts).ths=ts
 | []=>rfl
 | t::r=>by
  show (t.cons (F.of r)).ths=_
  rw [Er,jO r]
def F.ord:F->List Th
 | .nil=>[]
 | .say n ws r=>.say n ws::r.ord
 | .tell n sc ph bs ms r=>.tell n sc ph bs ms::r.ord
 | .part n i r=>.part n i::(i.ord++r.ord)
def Th.sub:Th->F
 | .part _ i=>i
 | _=>.nil
def Th.ord (t:Th):List Th:=t::t.sub.ord
theorem gF:∀ f:F,f.ord=f.ths.flatMap Th.ord
 | .nil=>rfl
 | .say n ws r=>by
  show Th.say n ws::r.ord=_
  rw [gF r] <;> rfl
 | .tell n sc ph bs ms r=>by
  show Th.tell n sc ph bs ms::r.ord=_
  rw [gF r] <;> rfl
 | .part n i r=>by
  show Th.part n i::(i.ord++r.ord)=_
  rw [gF r] <;> rfl
def Th.num:Th->Int
 | .say n _=>n
 | .tell n _ _ _ _=>n
 | .part n _=>n
def F.dep:F->Nat
 | .nil=>0
 | .say _ _ r=>r.dep
 | .tell _ _ _ _ _ r=>r.dep
 | .part _ i r=>max (i.dep+1) r.dep
def wR (H:Hp) (ws:List Str) (v:V):Prop:=∃ a,v=.ref a/\H a=some (.tup (ws.map V.str))
def cpR (H:Hp) (cp:Str×Str) (v:V):Prop:=∃ a,v=.ref a/\H a=some (.tup [.str cp.1,.str cp.2])
def bR (H:Hp) (bs:List (Str×Str)) (v:V):Prop:=∃ a xs,v=.ref a/\H a=some (.tup xs)/\Paired (cpR H) bs xs
def sayR (H:Hp) (n:Int) (ws:List Str) (v:V):Prop:=∃ a x,v=.ref a/\H a=some (.tup [.str "say",.int n,x])/\wR H ws x
def tellR (H:Hp) (n:Int) (sc:Str) (ph:List Str) (bs:List (Str×Str)) (ms:List Str) (v:V):Prop:=∃ a x y z,v=.ref a/\H a=some (.tup [.str "tell",.int n,.str sc,x,y,z])/\wR H ph x/\bR H bs y/\wR H ms z
def fR (H:Hp):F->List V->Prop
 | .nil,xs=>xs=[]
 | .say n ws r,xs=>∃ v ys,xs=v::ys/\sayR H n ws v/\fR H r ys
 | .tell n sc ph bs ms r,xs=>∃ v ys,xs=v::ys/\tellR H n sc ph bs ms v/\fR H r ys
 | .part n i r,xs=>∃ v ys,xs=v::ys/\(∃ a b zs,v=.ref a/\H a=some (.tup [.str "part",.int n,.ref b])/\H b=some (.tup zs)/\fR H i zs)/\fR H r ys
def fP (H:Hp) (n:Int) (i:F) (v:V):Prop:=∃ a b zs,v=.ref a/\H a=some (.tup [.str "part",.int n,.ref b])/\H b=some (.tup zs)/\fR H i zs
def thR (H:Hp):Th->V->Prop
 | .say n ws,v=>sayR H n ws v
 | .tell n sc ph bs ms,v=>tellR H n sc ph bs ms v
 | .part n i,v=>fP H n i v
theorem jm {H:Hp}:∀ {f:F} {xs:List V},fR H f xs↔Paired (thR H) f.ths xs
 | .nil,xs=>⟨fun h=>by cases (show xs=[] from h); exact .nil,fun h=>by cases h; exact rfl⟩
 | .say n ws r,xs=>⟨fun ⟨v,ys,e,q,z⟩=>by subst e; exact .cons q (jm.mp z),fun h=>by cases h with | cons q z=>exact ⟨_,_,rfl,q,jm.mpr z⟩⟩
 | .tell n sc ph bs ms r,xs=>⟨fun ⟨v,ys,e,q,z⟩=>by subst e; exact .cons q (jm.mp z),fun h=>by cases h with | cons q z=>exact ⟨_,_,rfl,q,jm.mpr z⟩⟩
 | .part n i r,xs=>⟨fun ⟨v,ys,e,q,z⟩=>by subst e; exact .cons q (jm.mp z),fun h=>by cases h with | cons q z=>exact ⟨_,_,rfl,q,jm.mpr z⟩⟩
def TSame (H H':Hp):Prop:=∀ b xs,H b=some (.tup xs)->H' b=some (.tup xs)
theorem Same.t {H H':Hp} (g:Same H H'):TSame H H':=fun b xs q=>g b _ q
theorem TSame.refl (H:Hp):TSame H H:=fun _ _ q=>q
theorem TSame.trans {H H1 H2:Hp} (g:TSame H H1) (g':TSame H1 H2):TSame H H2:=fun b xs q=>g' b xs (g b xs q)
theorem TSame.upd {H:Hp} {p:Addr} {o:HO} (h:∀ xs,H p≠some (.tup xs)):TSame H (upd H p o):=fun b xs q=>by
 have hb:b≠p:=fun e=>by
  rw [e] at q
  exact h xs q
 rw [aC hb]
 exact q
theorem TSame.lst {H:Hp} {p:Addr} {ys:List V} {o:HO} (h:H p=some (.lst ys)):TSame H (L2.upd H p o):=TSame.upd fun xs q=>by
 rw [h] at q
 cases q
theorem TSame.new {H:Hp} {p:Addr} {o:HO} (h:H p=none):TSame H (L2.upd H p o):=TSame.upd fun xs q=>by
 rw [h] at q
 cases q
theorem wR.mono {H H':Hp} {ws:List Str} {v:V} (h:wR H ws v) (g:TSame H H'):wR H' ws v:=let ⟨a,e,q⟩:=h; ⟨a,e,g _ _ q⟩
theorem cpR.mono {H H':Hp} {cp:Str×Str} {v:V} (h:cpR H cp v) (g:TSame H H'):cpR H' cp v:=let ⟨a,e,q⟩:=h; ⟨a,e,g _ _ q⟩
theorem bR.mono {H H':Hp} {bs:List (Str×Str)} {v:V} (h:bR H bs v) (g:TSame H H'):bR H' bs v:=let ⟨a,xs,e,q,p⟩:=h; ⟨a,xs,e,g _ _ q,Paired.mapP p fun _ _ z=>z.mono g⟩
theorem sayR.mono {H H':Hp} {n:Int} {ws:List Str} {v:V} (h:sayR H n ws v) (g:TSame H H'):sayR H' n ws v:=let ⟨a,x,e,q,p⟩:=h; ⟨a,x,e,g _ _ q,p.mono g⟩
theorem tellR.mono {H H':Hp} {n:Int} {sc:Str} {ph:List Str} {bs:List (Str×Str)} {ms:List Str} {v:V} (h:tellR H n sc ph bs ms v) (g:TSame H H'):tellR H' n sc ph bs ms v:=let ⟨a,x,y,z,e,q,p1,p2,p3⟩:=h; ⟨a,x,y,z,e,g _ _ q,p1.mono g,p2.mono g,p3.mono g⟩
theorem j8 {H H':Hp} (g:TSame H H'):∀ {f:F} {xs:List V},fR H f xs->fR H' f xs
 | .nil,_,h=>h
 | .say n ws r,_,⟨v,ys,e,q,z⟩=>⟨v,ys,e,q.mono g,j8 g z⟩
 | .tell n sc ph bs ms r,_,⟨v,ys,e,q,z⟩=>⟨v,ys,e,q.mono g,j8 g z⟩
 | .part n i r,_,⟨v,ys,e,⟨a,b,zs,e1,q1,q2,q3⟩,z⟩=>⟨v,ys,e,⟨a,b,zs,e1,g _ _ q1,g _ _ q2,j8 g q3⟩,j8 g z⟩
theorem thR.mono {H H':Hp} {t:Th} {v:V} (h:thR H t v) (g:TSame H H'):thR H' t v:=by
 cases t with
 | say n ws=>exact sayR.mono h g
 | tell n sc ph bs ms=>exact tellR.mono h g
 | part n i =>
  obtain ⟨a,b,zs,e,q1,q2,q3⟩:=h
  exact ⟨a,b,zs,e,g _ _ q1,g _ _ q2,j8 g q3⟩
abbrev thsR (H:Hp):List Th->List V->Prop:=Paired (thR H)
theorem thsR.mono {H H':Hp} {ts:List Th} {xs:List V} (h:thsR H ts xs) (g:TSame H H'):thsR H' ts xs:=Paired.mapP h fun _ _ z=>z.mono g
section
variable {X:Cx} {pins:List (Addr×Obj)} {σ:St} {H:Hp} {s:Shared}
end
section
variable {prog:Program} {w:World} {A:Around} {E:Value->Shared->Prop} {s:Shared}
theorem mW {t sl:Addr} {items:Array Value} {vl vu:Value} {lo hi:Option Int} {Q:Value->Shared->Prop} (ht:IsTup s.heap t items) (hs:s.heap.IsSliceOf sl vl vu .none) (pl:IsPart vl lo) (pu:IsPart vu hi)
  (hw:HT.sIx items.size 0 lo=0/\HT.sIx items.size items.size hi=items.size) (h:Q (.ref t) s):wpAny (model prog w) A (getItem (.ref t) (.ref sl)) Q E s:=by
 obtain ⟨o1,e1,c1,_⟩:=id hs
 have k1:s.TypeIs (.ref sl) "slice":=⟨o1,e1,c1⟩
 unfold getItem
 try with_reducible refine Pa ?_
 first | refine Nf (Ni ?_) | skip
 refine Nf (Wc ht.typeIs (by decide) (Nf (PL (name:=Str.ofString "__getitem__") ht.typeIs Pr (P0 Pr ht.typeIs VB ?_ (V0 _ _)))))
 show wpAny _ _ (Builtin.Tuple.tupleItemsOf (.ref t) >>= _) _ _ s
 refine Nf (tupleItemsOf_ ht (Nf (RV k1 ?_)))
 rw [if_pos (by decide)]
 refine Nf (HT.sliceApplied_gen hs pl pu ?_)
 rw [hw.1,hw.2]
 show wpAny _ _ (if ((((0:Nat):Int)==0 && (1:Int)==1 && (items.size-0)==items.size)=true) then _ else _) _ _ s
 rw [if_pos (by simp)]
 unfold Builtin.Tuple.tupleIsExact
 refine Nf (Nf (RV ht.typeIs (Ni ?_)))
 rw [if_pos (by decide)]
 first
  | exact Nf (Rj (Ni ⟨_,rfl,Ni h⟩))
  | exact Nf (Rj (Nf (Ni (Ni ⟨_,rfl,Ni h⟩))))
  | exact Nf (Nf (Rj (Ni (Ni ⟨_,rfl,Ni h⟩))))
  | trace_state
end
section
variable {X:Cx}
def rSlW (K:Nh):V->Option Int->Option Int->Hp->VK->Prop:=fun x lo hi H Q=>∃ a xs,x=.ref a/\SqT K H a xs/\(HT.sIx xs.length 0 lo=0/\HT.sIx xs.length xs.length hi=xs.length)/\Q (.ref a) H
theorem Jg:SlR X (rSlW X.K):=by
 intro pins s σ H x v vl vu lo hi sl Q I rx hs pl pu h
 obtain ⟨a,xs,rfl,hx,hw,q⟩:=h
 cases rx
 obtain ⟨its,r,ht,hz⟩:=I.tuple hx
 have hlen:its.toArray.size=xs.length:=by rw [N5]; exact r.length.symm
 exact ⟨"tuple",_,Pr.lookup,ht.typeIs,mW ht hs pl pu (by rw [hlen]; exact hw) ⟨.ref a,H,I,rfl,q⟩⟩
end
end L2
namespace D
open PySem L2
def oF (ns:List Int) (k:Int):Int:=if 0<(ns.length:Int) then (ns.getD (k*7 % (ns.length:Int)).toNat 0*48271+k*7919) % 2147483647 else k*7919+5
def cZ (ns:List Int) (k:Int):Int:=if k<(ns.length:Int) then ns.getD k.toNat 0 else oF ns k*oF ns k % 2147483629
def good (c:Nat):Bool:=(decide (97<=c) && decide (c<=122)) || (decide (65<=c) && decide (c<=90)) || (decide (48<=c) && decide (c<=57))
abbrev W62:Str:=("abcdefghijklmnopqrstuvwxyzABCDEFGHIJKLMNOPQRSTUVWXYZ0123456789":Str)
theorem DR {ns:List Int} {k:Int} (h0:0<=k) (h:k<(ns.length:Int)):atI (ns.map V.int) k=some (.int (ns.getD k.toNat 0)):=by
 have hk:k.toNat<ns.length:=by omega
 have ek:k=((k.toNat:Nat):Int):=by omega
 have q:atI (ns.map V.int) ((k.toNat:Nat):Int)=some (.int (ns.getD k.toNat 0)):=dh (by rw [NP,Nr hk,PX,Nr hk] <;> rfl)
 rw [<- ek] at q
 exact q
def qM (K:Nh):Sp:=fun vs H Q _=>∃ (a:Addr) (ns:List Int) (k:Int),vs=[.ref a,.int k]/\SqL K H a (ns.map V.int)/\ns.length<=63/\0<=k/\k<=100000/\Q (.int (cZ ns k)) H
section
variable {P:Program} {w:World} {K:Nh} {mg:Str->Option Value} {base:Heap} {f:Addr} {fd:FuncData}
theorem yS:FnScope ["_law_script","_law_k","_law_number_here"] ["_law_script","_law_k"] (aA iQ):=⟨rfl,rfl,rfl,by decide +kernel,rfl,by decide +kernel,by decide +kernel⟩
theorem Hq (F:Fun K "_law_cell" "_law_cell" iQ f fd) (ml:mg "len"=none):FnOk P w K mg base CX0 1 f fd ["_law_script","_law_k"] (qM K):=by
 refine F.ok yS (fun vs H Q E h=>?_) (fun cdv A outer s H vs Q E hr h=>?_)
 ·obtain ⟨a,ns,k,rfl,_⟩:=h
  rfl
 obtain ⟨a,ns,k,rfl,hS,h63,h0,h1,q⟩:=h
 refine ⟨_,ao (bJ (aN qe (pv 1) (aH bB rfl ml Ou (aj (pv 0) aq)) (bD _)) (aD (aU (aJ aZ (pv 0) (pv 1) (fun _ _=>rfl)))) aR)
  (ao (aF (i:=2) yS.nd rfl (Or.inl rfl) (aG bW (aG fZ (pv 1) au) au))
  (ao (bJ (aN uh (aH bB rfl ml Ou (aj (pv 0) aq)) au (bD _))
   (aD (aF (i:=2) yS.nd rfl (Or.inl rfl) (aG bw (aG bW (aG fZ (aJ aZ (pv 0) (aG bw (aG fZ (pv 1) au) (aH bB rfl ml Ou (aj (pv 0) aq))) (fun _ _=>rfl)) au) (aG fZ (pv 1) au)) au))) aR)
  (aD (aU (aG bw (aG fZ (pv 2) (pv 2)) au))))),?_⟩
 have hl:(ns.map V.int).length=ns.length:=Ng _
 refine ⟨_,rfl,_,rfl,a,_,rfl,.inl hS,_,_,rfl,rfl,_,rfl,?_⟩
 refine ite2 (fun c=>?_) (fun c=>?_)
 ·have c':k<(((ns.map V.int).length:Nat):Int):=of_decide_eq_true c
  rw [hl] at c'
  refine ⟨_,rfl,_,rfl,a,_,_,_,rfl,rfl,hS,DR h0 c',?_⟩
  have e:cZ ns k=ns.getD k.toNat 0:=if_pos c'
  rw [e] at q
  exact q
 ·have c':¬ k<(((ns.map V.int).length:Nat):Int):=of_decide_eq_false (Bool.eq_false_iff.mpr c)
  rw [hl] at c'
  have e:cZ ns k=oF ns k*oF ns k % 2147483629:=if_neg c'
  rw [e] at q
  refine ⟨_,rfl,_,_,rfl,rfl,.inr ⟨by decide,by decide⟩,_,_,rfl,rfl,?_⟩
  refine ⟨_,rfl,a,_,rfl,.inl hS,_,_,rfl,rfl,_,rfl,?_⟩
  refine ite2 (fun d=>?_) (fun d=>?_)
  ·have d':(0:Int)<(((ns.map V.int).length:Nat):Int):=of_decide_eq_true d
   rw [hl] at d'
   have hm0:0<=k*7 % (ns.length:Int):=Ol _ (by omega)
   have hm1:k*7 % (ns.length:Int)<(ns.length:Int):=Oo _ d'
   have en:oF ns k=(ns.getD (k*7 % (ns.length:Int)).toNat 0*48271+k*7919) % 2147483647:=if_pos d'
   have b0:0<=oF ns k:=by rw [en]; exact Ol _ (by decide)
   have b1:oF ns k<2147483647:=by rw [en]; exact Oo _ (by decide)
   refine ⟨_,rfl,_,rfl,_,_,rfl,rfl,.inr ⟨by decide,by decide⟩,_,rfl,a,_,rfl,.inl hS,_,_,rfl,rfl,by rw [hl]; exact d',a,_,_,_,rfl,rfl,hS,DR (by rw [hl]; exact hm0) (by rw [hl]; exact hm1),_,_,rfl,rfl,.inr ⟨by decide,by decide⟩,
    _,rfl,_,_,rfl,rfl,.inr ⟨by decide,by decide⟩,_,_,rfl,rfl,_,_,rfl,rfl,(by show (0:Int)<_; decide),?_⟩
   rw [hl]
   dsimp only
   rw [<- en]
   exact ⟨_,rfl,_,rfl,_,_,rfl,rfl,.inl ⟨by omega,by omega⟩,_,_,rfl,rfl,(by show (0:Int)<_; decide),q⟩
  ·have d':¬ (0:Int)<(((ns.map V.int).length:Nat):Int):=of_decide_eq_false (Bool.eq_false_iff.mpr d)
   rw [hl] at d'
   have en:oF ns k=k*7919+5:=if_neg d'
   rw [en] at q
   exact ⟨_,rfl,_,rfl,_,_,rfl,rfl,.inl ⟨by omega,by omega⟩,_,_,rfl,rfl,(by show (0:Int)<_; decide),q⟩
end
theorem aB {H:Hp} {p:Addr} (h:H p=none) (o:HO):Same H (upd H p o):=fun b u q=>by rw [aC (bZ q h)]; exact q
abbrev cs (x:Str):List Nat:=x.cps.toList
theorem fV (x:Str):(cs x).length=x.length:=by simp [Str.length]
theorem iJ (x y:Str):cs (x++y)=cs x++cs y:=by
 show (x.cps++y.cps).toList=_
 simp
theorem jY (l:List Nat):cs ⟨l.toArray⟩=l:=by simp
theorem rB (l:List Nat):(⟨l.toArray⟩:Str).length=l.length:=by simp [Str.length]
theorem len_app (x y:Str):(x++y).length=x.length+y.length:=by rw [<- fV,iJ,Np,fV,fV]
theorem oX {x y:Str} (h:cs x=cs y):x=y:=by
 cases x with
 | mk a =>
  cases y with
  | mk b=>exact congrArg Str.mk (Array.toList_inj.mp h)
def allGood (x:Str):Prop:=(cs x).all good=true
theorem allGood.app {x y:Str} (h1:allGood x) (h2:allGood y):allGood (x++y):=by
 unfold allGood
 rw [iJ,Vg,h1,h2]
 rfl
theorem allGood.mk {l:List Nat} (h:l.all good=true):allGood ⟨l.toArray⟩:=by
 unfold allGood
 rw [jY]
 exact h
theorem Dr {l:List Nat} {n:Nat} (h:l.all good=true):(l.take n).all good=true:=by
 rw [PJ] at h ⊢
 exact fun c hc=>h c (Pg hc)
theorem yQ {c:Nat} (h:good c=true):c<128:=by
 unfold good at h
 simp only [Vf,Qa,decide_eq_true_eq] at h
 omega
theorem allGood.small {x:Str} (h:allGood x):∀ c∈x.cps.toList,c<16 ^ 8:=fun c hc=>TV (yQ (PJ.mp h c hc)) (by decide)
theorem pD (x:Str) {i:Int} (h:0<=i):cutC x (some i) none=(cs x).drop i.toNat:=by
 have e:i=((i.toNat:Nat):Int):=by omega
 unfold cutC
 rw [e,HT.sIx_nat,HT.sIx_none]
 show ((cs x).drop (min i.toNat x.length)).take (x.length-min i.toNat x.length)=_
 rw [Pb (by rw [O9,fV]; exact Nu _)]
 have ei:(((i.toNat:Nat):Int)).toNat=i.toNat:=by omega
 rw [ei]
 by_cases hi:i.toNat<=x.length
 ·rw [Qw hi]
 ·rw [Ra (by omega),QK (by rw [fV]; exact Nu _),QK (by rw [fV]; omega)]
theorem rH (x:Str) {i:Int} (h:0<=i):cutC x none (some i)=(cs x).take i.toNat:=by
 have e:i=((i.toNat:Nat):Int):=by omega
 unfold cutC
 rw [e,HT.sIx_nat,HT.sIx_none]
 show ((cs x).drop 0).take (min i.toNat x.length-0)=_
 have ei:(((i.toNat:Nat):Int)).toNat=i.toNat:=by omega
 rw [ei,SN,TX]
 by_cases hi:i.toNat<=x.length
 ·rw [Qw hi]
 ·rw [Ra (by omega),Pb (by rw [fV]; exact Nu _),Pb (by rw [fV]; omega)]
theorem big:(100000:Nat)<=sizeLine:=by decide
theorem Fg:(cs W62).all good=true:=by decide +kernel
structure Nm (mg:Str->Option Value):Prop where
 len:mg "len"=none
 range:mg "range"=none
 int:mg "int"=none
 tuple:mg "tuple"=none
 list:mg "list"=none
 mx:mg "max"=none
 mn:mg "min"=none
 isi:mg "isinstance"=none
def Wd (x:Str):Prop:=1<=x.length/\x.length<=20/\allGood x
theorem aL {H H':Hp} {p:Addr} (hp:H p=none) (g:Same H H') (o:HO):Same H (upd H' p o):=fun b u e=>by rw [aC (bZ e hp)]; exact g b u e
theorem at_of {α:Type} {xs:List α} {k:Int} (h0:0<=k) (h:k<(xs.length:Int)):∃ v,atI xs k=some v/\xs[k.toNat]?=some v:=by
 have hk:k.toNat<xs.length:=by omega
 have ek:k=((k.toNat:Nat):Int):=by omega
 have q:=dh (Nr hk)
 rw [<- ek] at q
 exact ⟨_,q,Nr hk⟩
theorem pI {ws:List Str} {k:Int} (h0:0<=k) (h:k<(ws.length:Int)):∃ z,z∈ws/\atI (ws.map V.str) k=some (.str z):=by
 obtain ⟨v,h1,h2⟩:=at_of (xs:=ws.map V.str) h0 (by rw [Ng]; exact h)
 rw [NP] at h2
 cases hz:ws[k.toNat]? with
 | none=>rw [hz] at h2; cases h2
 | some z =>
  rw [hz] at h2
  cases h2
  exact ⟨z,Nv hz,h1⟩
theorem Kz {is:List Int} {k:Int} (h0:0<=k) (h:k<(is.length:Int)):∃ z,z∈is/\atI (is.map V.int) k=some (.int z):=by
 obtain ⟨v,h1,h2⟩:=at_of (xs:=is.map V.int) h0 (by rw [Ng]; exact h)
 rw [NP] at h2
 cases hz:is[k.toNat]? with
 | none=>rw [hz] at h2; cases h2
 | some z =>
  rw [hz] at h2
  cases h2
  exact ⟨z,Nv hz,h1⟩
end D
namespace L2
open PySem
theorem uX {σ:St} {H:Hp} {Q:Option Int->Hp->Prop} (h:Q none H):uD σ H Q:=h
theorem qL {X b c:St->Hp->Prop} {r:VK} {i:Nat} {x:V} {σ:St} {H:Hp} (h:X (σ.set i (some x)) H):kY i x σ H (Ends.nx { nx:=X,rt:=r,bk:=b,ct:=c }):=h
theorem xU {c1 c2:TT} {t u:TS} {D:Ends} {σ:St} {H:Hp} (b1 b2:Bool) (h1:∀ Q:Bool->Hp->Prop,Q b1 H->c1 σ H Q) (h2:∀ Q:Bool->Hp->Prop,Q b2 H->c2 σ H Q) (ht:b1=true->b2=true->t { D with nx:=u D } σ H) (hn:¬ (b1=true/\b2=true)->u D σ H):tSeq (tIfS (tAnd c1 c2) t oh) u D σ H:=by
 show c1 σ H fun b H1=>if b=true then c2 σ H1 (fun b H1=>if b=true then t { D with nx:=u D } σ H1 else u D σ H1) else (if false=true then t { D with nx:=u D } σ H1 else u D σ H1)
 refine h1 _ ?_
 cases b1 with
 | false =>
  rw [if_neg (by decide),if_neg (by decide)]
  exact hn fun z=>by cases z.1
 | true =>
  rw [if_pos rfl]
  refine h2 _ ?_
  cases b2 with
  | false =>
   rw [if_neg (by decide)]
   exact hn fun z=>by cases z.2
  | true =>
   rw [if_pos rfl]
   exact ht rfl rfl
theorem wL (xs:List V) (a b:Nat):cutV xs (some (a:Int)) (some (b:Int))=(xs.drop a).take (b-a):=by
 unfold cutV
 rw [HT.sIx_nat,HT.sIx_nat]
 by_cases h:a<=xs.length
 ·rw [Qw h]
  by_cases h2:b<=xs.length
  ·rw [Qw h2]
  ·rw [Ra (by omega),Pb (by rw [O9]; omega),Pb (by rw [O9]; omega)]
 ·rw [Ra (show xs.length<=a by omega),QK (Nu _),QK (show xs.length<=a by omega),V4,V4]
theorem Ad (xs:List V) (b:Nat):cutV xs none (some (b:Int))=xs.take b:=by
 unfold cutV
 rw [HT.sIx_nat,HT.sIx_none,SN,TX]
 by_cases h2:b<=xs.length
 ·rw [Qw h2]
 ·rw [Ra (by omega),Pb (Nu _),Pb (by omega)]
theorem uQ {c1 c2:TT} {t u:TS} {D:Ends} {σ:St} {H:Hp} (b1 b2:Bool) (J:St->Hp->Prop) (h1:∀ Q:Bool->Hp->Prop,Q b1 H->c1 σ H Q) (h2:∀ Q:Bool->Hp->Prop,Q b2 H->c2 σ H Q) (ht:b1=true->b2=true->∀ N:St->Hp->Prop,(∀ σ' H',J σ' H'->N σ' H')->t { D with nx:=N } σ H) (hn:¬ (b1=true/\b2=true)->J σ H) (hu:∀ σ' H',J σ' H'->u D σ' H'):tSeq (tIfS (tAnd c1 c2) t oh) u D σ H :=
 xU b1 b2 h1 h2 (fun z1 z2=>ht z1 z2 _ hu) fun z=>hu σ H (hn z)
theorem Same.push {H:Hp} {p:Addr} (h:H p=none) (o:HO):Same H (upd H p o):=fun b u q=>by rw [aC (bZ q h)]; exact q
section
variable {X:Cx}
def rSlX:V->Option Int->Option Int->Hp->VK->Prop:=fun x lo hi H Q=>∃ a xs,x=.ref a/\H a=some (.tup xs)/\∀ p H',Same H H'->H' p=some (.tup (cutV xs lo hi))->Q (.ref p) H'
theorem o7:SlR X rSlX:=by
 intro pins s σ H x v vl vu lo hi sl Q I rx hs pl pu h
 refine (SlR.or xP Jg) pins s σ H x v vl vu lo hi sl Q I rx hs pl pu ?_
 obtain ⟨a,xs,rfl,hx,q⟩:=h
 by_cases hw:HT.sIx xs.length 0 lo=0/\HT.sIx xs.length xs.length hi=xs.length
 ·refine .inr ⟨a,xs,rfl,SqT.of hx,hw,q a H (Same.refl H) ?_⟩
  have e:cutV xs lo hi=xs:=by
   unfold cutV
   rw [hw.1,hw.2,SN,TX,Oa]
  rw [e]
  exact hx
 ·exact .inl ⟨a,xs,rfl,SqT.of hx,hw,fun p hp=>q p _ (Same.push hp _) ak⟩
def MJ:R2:=fun x y H Q=>∃ a b xs ys,x=.ref a/\y=.ref b/\H a=some (.tup xs)/\H b=some (.tup ys)/\xs.length+ys.length<=sizeLine/\∀ p H',Same H H'->H' p=some (.tup (xs++ys))->Q (.ref p) H'
theorem jj:OpR X (binaryOp .Add) MJ:=by
 intro pins s σ H x y v u Q I rx ry h
 refine (OpR.or uZ qw) pins s σ H x y v u Q I rx ry ?_
 obtain ⟨a,b,xs,ys,rfl,rfl,ha,hb,hz,q⟩:=h
 cases xs with
 | nil=>exact .inr ⟨a,b,ys,rfl,rfl,SqT.of ha,SqT.of hb,q b H (Same.refl H) hb⟩
 | cons z zs =>
  refine .inl ⟨a,b,_,ys,rfl,rfl,SqT.of ha,SqT.of hb,by simp,hz,fun e=>?_,fun e p hp=>q p _ (Same.push hp _) ak⟩
  subst e
  exact q a H (Same.refl H) (by rw [N6]; exact ha)
end
theorem pC {c:TT} {t u:TS} {D:Ends} {σ:St} {H:Hp} (b:Bool) (hc:∀ Q:Bool->Hp->Prop,Q b H->c σ H Q) (ht:b=true->t D σ H) (hu:b=false->u D σ H):tIfS c t u D σ H:=by
 show c σ H fun b H1=>if b=true then t D σ H1 else u D σ H1
 refine hc _ ?_
 cases b with
 | true=>rw [if_pos rfl]; exact ht rfl
 | false=>rw [if_neg (by decide)]; exact hu rfl
theorem qN {c1 c2:TT} {σ:St} {H:Hp} (b1 b2:Bool) (h1:∀ Q:Bool->Hp->Prop,Q b1 H->c1 σ H Q) (h2:b1=true->∀ Q:Bool->Hp->Prop,Q b2 H->c2 σ H Q):∀ Q:Bool->Hp->Prop,Q (b1 && b2) H->tAnd c1 c2 σ H Q:=by
 intro Q q
 show c1 σ H fun c H1=>if c=true then c2 σ H1 Q else Q false H1
 refine h1 _ ?_
 cases b1 with
 | true=>rw [if_pos rfl]; exact h2 rfl _ q
 | false=>rw [if_neg (by decide)]; exact q
theorem wU {c:TT} {t u:TS} {D:Ends} {σ:St} {H:Hp} (b:Bool) (hc:∀ Q:Bool->Hp->Prop,(∀ H',Same H H'->Q b H')->c σ H Q) (ht:b=true->∀ H',Same H H'->t D σ H') (hu:b=false->∀ H',Same H H'->u D σ H'):tIfS c t u D σ H:=by
 show c σ H fun b H1=>if b=true then t D σ H1 else u D σ H1
 refine hc _ fun H' g=>?_
 cases b with
 | true=>rw [if_pos rfl]; exact ht rfl H' g
 | false=>rw [if_neg (by decide)]; exact hu rfl H' g
theorem mY {c:TT} {t u:TS} {D:Ends} {σ:St} {H:Hp} (b:Bool) (hc:∀ Q:Bool->Hp->Prop,(∀ H',Same H H'->Q b H')->c σ H Q) (ht:b=true->∀ H',Same H H'->t { D with nx:=u D } σ H') (hu:b=false->∀ H',Same H H'->u D σ H'):tSeq (tIfS c t oh) u D σ H :=
 wU (t:=t) (u:=oh) (D:={ D with nx:=u D }) b hc ht hu
theorem JT {c1 c2:TT} {σ:St} {H:Hp} (b1 b2:Bool) (h1:∀ Q:Bool->Hp->Prop,(∀ H',Same H H'->Q b1 H')->c1 σ H Q) (h2:b1=true->∀ H1,Same H H1->∀ Q:Bool->Hp->Prop,(∀ H',Same H1 H'->Q b2 H')->c2 σ H1 Q):∀ Q:Bool->Hp->Prop,(∀ H',Same H H'->Q (b1 && b2) H')->tAnd c1 c2 σ H Q:=by
 intro Q q
 show c1 σ H fun c H1=>if c=true then c2 σ H1 Q else Q false H1
 refine h1 _ fun H1 g1=>?_
 cases b1 with
 | true=>rw [if_pos rfl]; exact h2 rfl H1 g1 _ fun H' g=>q H' (g1.trans g)
 | false=>rw [if_neg (by decide)]; exact q H1 g1
theorem pX {c1 c2:TT} {σ:St} {H:Hp} (b1 b2:Bool) (h1:∀ Q:Bool->Hp->Prop,(∀ H',Same H H'->Q b1 H')->c1 σ H Q) (h2:b1=false->∀ H1,Same H H1->∀ Q:Bool->Hp->Prop,(∀ H',Same H1 H'->Q b2 H')->c2 σ H1 Q):∀ Q:Bool->Hp->Prop,(∀ H',Same H H'->Q (b1 || b2) H')->tOr c1 c2 σ H Q:=by
 intro Q q
 show c1 σ H fun c H1=>if c=true then Q true H1 else c2 σ H1 Q
 refine h1 _ fun H1 g1=>?_
 cases b1 with
 | true=>rw [if_pos rfl]; exact q H1 g1
 | false=>rw [if_neg (by decide)]; exact h2 rfl H1 g1 _ fun H' g=>q H' (g1.trans g)
theorem qd {c:TT} {σ:St} {H:Hp} (b:Bool) (h:∀ Q:Bool->Hp->Prop,(∀ H',Same H H'->Q b H')->c σ H Q):∀ Q:Bool->Hp->Prop,(∀ H',Same H H'->Q (!b) H')->tNot c σ H Q:=fun Q q=>h _ fun H' g=>q H' g
end L2
namespace L2
open PySem PySem.Spec PyProof.Rows
section
variable {X:Cx}
end
end L2
namespace D
open PySem L2
theorem cg {α β:Type} {F:α->β->Prop} {a:α} {b:β}:∀ {l:List α} {m:List β},Paired F l m->F a b->Paired F (l++[a]) (m++[b])
 | _,_,.nil,h=>.cons h .nil
 | _,_,.cons r t,h=>.cons r (cg t h)
def jo:List Str:=["all","part","here","else"]
def qQ (last:Str) (b:Str×Str) (o:Str):Prop:=∃ pre:Str,last=pre++b.1/\o=pre++b.2
def JH (ws:List Str) (last:Str) (bs:List (Str×Str)):Prop:=∃ os:List Str,Paired (qQ last) bs os/\(last::os).Nodup/\∀ o∈os,o∈ws
def TlOk (ws:List Str) (sc:Str) (ph:List Str) (bs:List (Str×Str)) (ms:List Str):Prop :=
 sc∈jo/\ph.length<=4/\(∀ z∈ph,z∈ws)/\bs.length<=5/\(∃ p0 last,ph=p0++[last]/\JH ws last bs)/\1<=ms.length/\ms.length<=60/\∀ z∈ms,z∈ws
structure MnOk (ws:List Str):Prop where
 wd:∀ x∈ws,Wd x
def ThOk (ws:List Str):Th->Prop
 | .say _ zs=>1<=zs.length/\zs.length<=200/\∀ z∈zs,z∈ws
 | .tell _ sc ph bs ms=>TlOk ws sc ph bs ms
 | .part _ _=>True
structure DocQ (ns:List Int) (ws:List Str) (f:L2.F) (m:Nat):Prop where
 dep:f.dep<=8
 nd:(f.ord.map Th.num).Nodup
 few:f.ord.length<=45
 ok:∀ t∈f.ord,ThOk ws t
 pos:∀ t∈f.ord,0<t.num
abbrev Mk:=Int×Int×Int×List Int
def mkR (H:Hp) (m:Mk) (v:V):Prop:=∃ a p,v=.ref a/\H a=some (.tup [.int m.1,.int m.2.1,.int m.2.2.1,.ref p])/\H p=some (.tup (m.2.2.2.map V.int))
theorem mkR.mono {H H':Hp} {m:Mk} {v:V} (h:mkR H m v) (g:TSame H H'):mkR H' m v:=let ⟨a,p,e,h1,h2⟩:=h; ⟨a,p,e,g _ _ h1,g _ _ h2⟩
abbrev mksR (H:Hp):List Mk->List V->Prop:=Paired (mkR H)
theorem mksR.mono {H H':Hp} {ms:List Mk} {xs:List V} (h:mksR H ms xs) (g:TSame H H'):mksR H' ms xs:=Paired.mapP h fun _ _ z=>z.mono g
def aV:L2.F->List Int
 | .nil=>[]
 | .say _ _ r=>aV r
 | .tell n _ _ _ _ r=>n::aV r
 | .part _ i r=>aV i++aV r
def DocW (f:L2.F):Prop:=∃ ws,MnOk ws/\DocQ [] ws f 12
end D
namespace L2
open PySem PySem.Spec PyProof.Rows
section
variable {κ:Type} [DecidableEq κ]
def valV (kvs:List (κ×V)) (k:κ):Option V:=(kvs.find? fun kv=>decide (kv.1=k)).map (·.2)
def putK (kvs:List (κ×V)) (k:κ) (v:V):List (κ×V) :=
 if (kvs.any fun kv=>decide (kv.1=k))=true then kvs.map (fun kv=>if kv.1=k then (kv.1,v) else kv) else kvs++[(k,v)]
def Jm (kvs:List (κ×V)) (k:κ):List (κ×V):=kvs.filter fun kv=>decide (kv.1≠k)
theorem Et {k:κ}:valV ([]:List (κ×V)) k=none:=rfl
theorem cT {p:κ×V} {r:List (κ×V)} {k:κ} (e:p.1=k):valV (p::r) k=some p.2:=by simp [valV,QX,e]
theorem cA {p:κ×V} {r:List (κ×V)} {k:κ} (e:¬ p.1=k):valV (p::r) k=valV r k:=by simp [valV,QX,e]
theorem jd (k:κ):∀ kvs:List (κ×V),(kvs.any fun kv=>decide (kv.1=k))=(valV kvs k).isSome
 | []=>rfl
 | p::r=>by
  rw [Ry]
  by_cases e:p.1=k
  ·simp only [cT e,decide_eq_true e,Bool.true_or,Option.isSome_some]
  ·rw [cA e,decide_eq_false e,Bool.false_or]; exact jd k r
theorem wI (k j:κ) (y:V):∀ kvs:List (κ×V),valV (kvs.map fun kv=>if kv.1=k then (kv.1,y) else kv) j=(valV kvs j).map fun x=>if j=k then y else x
 | []=>rfl
 | p::r=>by
  have ih:=wI k j y r
  rw [Ow]
  by_cases h:p.1=k
  ·rw [if_pos h]
   by_cases e:p.1=j
   ·rw [cT (p:=(p.1,y)) e,cT e,Tg,if_pos (e.symm.trans h)]
   ·rw [cA (p:=(p.1,y)) e,cA e,ih]
  ·rw [if_neg h]
   by_cases e:p.1=j
   ·rw [cT (p:=p) e,cT e,Tg,if_neg (fun z=>h (e.trans z))]
   ·rw [cA (p:=p) e,cA e,ih]
theorem tQ (k j:κ) (y:V):∀ kvs:List (κ×V),valV kvs k=none->valV (kvs++[(k,y)]) j=if j=k then some y else valV kvs j
 | [],_=>by
  by_cases e:k=j
  ·rw [if_pos e.symm]; exact cT (p:=(k,y)) e
  ·rw [if_neg (fun z=>e z.symm)]; exact cA (p:=(k,y)) e
 | p::r,hn=>by
  rw [Rb]
  have hk:¬ p.1=k:=fun z=>by rw [cT z] at hn; cases hn
  rw [cA hk] at hn
  have ih:=tQ k j y r hn
  by_cases e:p.1=j
  ·rw [cT e,cT e,if_neg (fun z=>hk (e.trans z))]
  ·rw [cA e,cA e,ih]
theorem dG (kvs:List (κ×V)) (k j:κ) (y:V):valV (putK kvs k y) j=if j=k then some y else valV kvs j:=by
 unfold putK
 by_cases a:(kvs.any fun kv=>decide (kv.1=k))=true
 ·rw [if_pos a,wI]
  rw [jd] at a
  by_cases e:j=k
  ·obtain ⟨x,hx⟩:=Ub.mp a
   rw [if_pos e,e,hx,Tg,if_pos rfl]
  ·rw [if_neg e]
   cases valV kvs j with
   | none=>rfl
   | some x=>rw [Tg,if_neg e]
 ·rw [if_neg a]
  refine tQ k j y kvs ?_
  rw [jd] at a
  cases q:valV kvs k with
  | none=>rfl
  | some x=>rw [q] at a; exact (a rfl).elim
theorem dw (kvs:List (κ×V)) (k:κ) (v:V):(putK kvs k v).length<=kvs.length+1:=by
 unfold putK
 split
 ·rw [Ng]; omega
 ·rw [Np,Oj,WY]; omega
theorem jE {kvs:List (κ×V)} {k:κ} (v:V) (h:valV kvs k=none):putK kvs k v=kvs++[(k,v)]:=by
 unfold putK
 rw [jd,h]
 exact if_neg (by decide)
theorem RelO.isSome_eq {o:Option V} {u:Option Value} (r:RelO o u):o.isSome=u.isSome:=by
 cases o with
 | none=>cases u with
  | none=>rfl
  | some _=>exact (show False from r).elim
 | some _=>cases u with
  | none=>exact (show False from r).elim
  | some _=>rfl
theorem RelO.getD {o:Option V} {u:Option Value} {d:V} {d':Value} (r:RelO o u) (rd:RelV d d'):RelV (o.getD d) (u.getD d'):=by
 cases o with
 | none=>cases u with
  | none=>exact rd
  | some _=>exact (show False from r).elim
 | some _=>cases u with
  | none=>exact (show False from r).elim
  | some _=>exact r
theorem KV.val {kvs:List (κ×V)} {vs:List (κ×Value)} (r:KV kvs vs) (k:κ):RelO (valV kvs k) (valueAt vs k):=by
 unfold KV at r
 induction r with
 | nil=>exact True.intro
 | @cons p q ps qs h t ih =>
  obtain ⟨h1,h2⟩:=h
  by_cases e:p.1=k
  ·have e':q.1=k:=h1.symm.trans e
   have b:valueAt (q::qs) k=some q.2:=by simp [valueAt,QX,e']
   rw [cT e,b]; exact h2
  ·have e':¬ q.1=k:=fun z=>e (h1.trans z)
   have b:valueAt (q::qs) k=valueAt qs k:=by simp [valueAt,QX,e']
   rw [cA e,b]; exact ih
theorem KV.any {kvs:List (κ×V)} {vs:List (κ×Value)} (r:KV kvs vs) (k:κ):(kvs.any fun kv=>decide (kv.1=k))=vs.any fun kv=>decide (kv.1=k):=by
 unfold KV at r
 induction r with
 | nil=>rfl
 | cons h t ih=>rw [Ry,Ry,ih,h.1]
theorem KV.repl {kvs:List (κ×V)} {vs:List (κ×Value)} (r:KV kvs vs) (k:κ) {y:V} {u:Value} (ry:RelV y u) :
  KV (kvs.map fun kv=>if kv.1=k then (kv.1,y) else kv) (vs.map fun kv=>if kv.1=k then (kv.1,u) else kv):=by
 unfold KV at r ⊢
 induction r with
 | nil=>exact .nil
 | @cons p q ps qs h t ih =>
  rw [Ow,Ow]
  refine .cons ?_ ih
  obtain ⟨h1,h2⟩:=h
  by_cases e:p.1=k
  ·rw [if_pos e,if_pos (h1.symm.trans e)]; exact ⟨h1,ry⟩
  ·rw [if_neg e,if_neg (fun z=>e (h1.trans z))]; exact ⟨h1,h2⟩
theorem KV.put {kvs:List (κ×V)} {vs:List (κ×Value)} (r:KV kvs vs) (k:κ) {y:V} {u:Value} (ry:RelV y u):KV (putK kvs k y) (stored vs k u):=by
 unfold putK stored
 rw [r.any k]
 by_cases e:(vs.any fun kv=>decide (kv.1=k))=true
 ·rw [if_pos e,if_pos e]; exact r.repl k ry
 ·rw [if_neg e,if_neg e]; exact Paired.snoc r ⟨rfl,ry⟩
theorem KV.drop {kvs:List (κ×V)} {vs:List (κ×Value)} (r:KV kvs vs) (k:κ):KV (Jm kvs k) (without vs k):=by
 unfold KV at r ⊢
 unfold Jm without
 induction r with
 | nil=>exact .nil
 | @cons p q ps qs h t ih =>
  obtain ⟨h1,h2⟩:=h
  rw [WD,WD]
  by_cases e:p.1=k
  ·have a:¬ decide (p.1≠k)=true:=by simp [e]
   have b:¬ decide (q.1≠k)=true:=by simp [h1.symm.trans e]
   rw [if_neg a,if_neg b]; exact ih
  ·have e':¬ q.1=k:=fun z=>e (h1.trans z)
   have a:decide (p.1≠k)=true:=by simp [e]
   have b:decide (q.1≠k)=true:=by simp [e']
   rw [if_pos a,if_pos b]; exact .cons ⟨h1,h2⟩ ih
theorem KV.keys {kvs:List (κ×V)} {vs:List (κ×Value)} (r:KV kvs vs):kvs.map (·.1)=vs.map (·.1):=by
 unfold KV at r
 induction r with
 | nil=>rfl
 | cons h t ih=>rw [Ow,Ow,ih,h.1]
theorem KV.length {kvs:List (κ×V)} {vs:List (κ×Value)} (r:KV kvs vs):kvs.length=vs.length:=Paired.length r
end
theorem nZ {P:Program} {w:World} {k:Key} {u:Value} (r:RelV (kV k) u):(bU P w).is k u=true:=by
 cases k with
 | inl i=>obtain ⟨t,e⟩:=(show ∃ t,u=Value.int i t from r); subst e; exact wz P w i t
 | inr x=>obtain ⟨t,e⟩:=(show ∃ t,u=Value.str x t from r); subst e; exact xq P w x t
theorem sZ {P:Program} {w:World}:∀ {ks:List Key} {us:List Value},Vals (ks.map kV) us->ItemsAre (bU P w) ks us
 | [],_,r=>by rw [TJ] at r; cases r; exact .nil
 | k::ks,_,r=>by
  rw [Ow] at r
  cases r with
  | cons h t=>exact .cons (nZ h) (sZ t)
abbrev KT (H:Hp):List (List Key×V)->List (List Key×Addr×Value)->Prop:=Paired fun p q=>p.1=q.1/\H q.2.1=some (.tup (p.1.map kV))/\RelV p.2 q.2.2
theorem KT.val {H:Hp} {kvs:List (List Key×V)} {xs:List (List Key×Addr×Value)} (r:KT H kvs xs) (k:List Key):RelO (valV kvs k) ((atKey xs k).map (·.2)):=by
 induction r with
 | nil=>exact True.intro
 | @cons p q ps qs h t ih =>
  obtain ⟨h1,_,h2⟩:=h
  by_cases e:p.1=k
  ·have e':q.1=k:=h1.symm.trans e
   have b:atKey (q::qs) k=some q.2:=by simp [atKey,QX,e']
   rw [cT e,b]; exact h2
  ·have e':¬ q.1=k:=fun z=>e (h1.trans z)
   have b:atKey (q::qs) k=atKey qs k:=by simp [atKey,QX,e']
   rw [cA e,b]; exact ih
theorem KT.repl {H:Hp} {kvs:List (List Key×V)} {xs:List (List Key×Addr×Value)} (r:KT H kvs xs) (k:List Key) {y:V} {u:Value} (ry:RelV y u) :
  KT H (kvs.map fun kv=>if kv.1=k then (kv.1,y) else kv) (xs.map (putAt k u)):=by
 induction r with
 | nil=>exact .nil
 | @cons p q ps qs h t ih =>
  rw [Ow,Ow]
  refine .cons ?_ ih
  obtain ⟨h1,h2,h3⟩:=h
  unfold putAt
  by_cases e:p.1=k
  ·rw [if_pos e,if_pos (h1.symm.trans e)]; exact ⟨h1,h2,ry⟩
  ·rw [if_neg e,if_neg (fun z=>e (h1.trans z))]; exact ⟨h1,h2,h3⟩
theorem KT.put {H:Hp} {kvs:List (List Key×V)} {xs:List (List Key×Addr×Value)} (r:KT H kvs xs) (k:List Key) {b:Addr} {y:V} {u:Value} (hb:H b=some (.tup (k.map kV))) (ry:RelV y u) :
  KT H (putK kvs k y) (storedH xs k b u):=by
 have e:(kvs.any fun kv=>decide (kv.1=k))=(atKey xs k).isSome:=by
  rw [jd,(r.val k).isSome_eq,Sv]
 unfold putK storedH
 rw [e]
 by_cases q:(atKey xs k).isSome=true
 ·rw [if_pos q,if_pos q]; exact r.repl k ry
 ·rw [if_neg q,if_neg q]; exact Paired.snoc r ⟨rfl,hb,ry⟩
theorem KT.keeps {H H':Hp} {kvs:List (List Key×V)} {xs:List (List Key×Addr×Value)} (r:KT H kvs xs) (ht:∀ b ys,H b=some (.tup ys)->H' b=some (.tup ys)):KT H' kvs xs :=
 Paired.mapP r fun _ _ z=>⟨z.1,ht _ _ z.2.1,z.2.2⟩
section
variable {P:Program} {w:World} {H:Hp} {h:Heap} {a:Addr}
theorem Dt {u:HO} (ok:HOk P w H h) (e:Rd H a u):ObjOk P w H h a u:=e.ok ok
theorem mL {kvs:List (Key×V)} (ok:HOk P w H h) (e:Rd H a (.dK kvs)):kvs.length<=sizeLine/\(a==sysModules)=false/\∃ vs,KV kvs vs/\h.DictOf (bU P w) a vs :=
 show ObjOk P w H h a (.dK kvs) from Dt ok e
theorem Gk {kvs:List (Key×V)} (ok:HOk P w H h) (e:H a=some (.dK kvs)):kvs.length<=sizeLine/\(a==sysModules)=false/\∃ vs,KV kvs vs/\h.DictOf (bU P w) a vs:=mL ok (.inl e)
theorem nT {ks:List Key} (ok:HOk P w H h) (e:H a=some (.tup (ks.map kV))):(tupleKind (bU P w)).is h ks a:=by
 obtain ⟨_,its,r,o,h1,h2,n,h3⟩:=(show ObjOk P w H h a (.tup (ks.map kV)) from ok a _ e)
 exact ⟨o,its.toArray,n,h1,h2,h3,by simpa using sZ r⟩
theorem pO {kvs:List (List Key×V)} (ok:HOk P w H h) (e:Rd H a (.dT kvs)):kvs.length<=sizeLine/\(a==sysModules)=false /\
  ∃ xs,KT H kvs xs/\h.DictOfH (tupleKind (bU P w)) a xs:=by
 obtain ⟨z,y,xs,r,o,es,ep,h1,h2,h3,h4,h5⟩:=(show ObjOk P w H h a (.dT kvs) from Dt ok e)
 refine ⟨z,y,xs,r,o,es,ep,h1,h2,h3,h4,fun x hx=>?_,h5⟩
 have all:∀ {l:List (List Key×V)} {m:List (List Key×Addr×Value)},KT H l m->∀ x∈m,(tupleKind (bU P w)).is h x.1 x.2.1:=by
  intro l m q
  induction q with
  | nil=>intro x hx; exact nomatch hx
  | @cons p q ps qs hq t ih =>
   intro x hx
   rcases NT.mp hx with e | hx
   ·subst e
    exact nT ok (by rw [<- hq.1]; exact hq.2.1)
   ·exact ih x hx
 exact all r x hx
theorem Lw {kvs:List (List Key×V)} (ok:HOk P w H h) (e:H a=some (.dT kvs)):kvs.length<=sizeLine/\(a==sysModules)=false /\
  ∃ xs,KT H kvs xs/\h.DictOfH (tupleKind (bU P w)) a xs:=pO ok (.inl e)
end
def DGet (H:Hp) (a:Addr) (y:V) (r:Option V):Prop :=
 (∃ kvs k,Rd H a (.dK kvs)/\y=kV k/\r=valV kvs k)∨∃ kvs k b,Rd H a (.dT kvs)/\y=.ref b/\H b=some (.tup (k.map kV))/\r=valV kvs k
def DPut (H:Hp) (a:Addr) (y v:V) (H':Hp):Prop :=
 (∃ kvs k,H a=some (.dK kvs)/\y=kV k/\kvs.length<sizeLine/\H'=upd H a (.dK (putK kvs k v))) ∨
 ∃ kvs k b,H a=some (.dT kvs)/\y=.ref b/\H b=some (.tup (k.map kV))/\kvs.length<sizeLine/\H'=upd H a (.dT (putK kvs k v))
theorem DGet.k {H:Hp} {a:Addr} {kvs:List (Key×V)} {k:Key} (e:H a=some (.dK kvs)):DGet H a (kV k) (valV kvs k):=.inl ⟨kvs,k,.inl e,rfl,rfl⟩
theorem DGet.t {H:Hp} {a b:Addr} {kvs:List (List Key×V)} {k:List Key} (e:H a=some (.dT kvs)) (eb:H b=some (.tup (k.map kV))):DGet H a (.ref b) (valV kvs k):=.inr ⟨kvs,k,b,.inl e,rfl,eb,rfl⟩
theorem DPut.k {H:Hp} {a:Addr} {kvs:List (Key×V)} {k:Key} {v:V} (e:H a=some (.dK kvs)) (hl:kvs.length<sizeLine):DPut H a (kV k) v (upd H a (.dK (putK kvs k v))):=.inl ⟨kvs,k,e,rfl,hl,rfl⟩
theorem DPut.t {H:Hp} {a b:Addr} {kvs:List (List Key×V)} {k:List Key} {v:V} (e:H a=some (.dT kvs)) (eb:H b=some (.tup (k.map kV))) (hl:kvs.length<sizeLine) :
  DPut H a (.ref b) v (upd H a (.dT (putK kvs k v))):=.inr ⟨kvs,k,b,e,rfl,eb,hl,rfl⟩
section
variable {X:Cx} {pins:List (Addr×Obj)} {σ:St} {H:Hp} {s:Shared} {a:Addr} {y v:V} {u r:Value} {o:Option V} {A:Around} {E:Value->Shared->Prop}
theorem Bo {Q:Value->Shared->Prop} (hu:A.units+1<cLine) (I:Inv X pins σ H s) (g:DGet H a y (some v)) (ry:RelV y u) (h:∀ w' s',Inv X pins σ H s'->RelV v w'->Q w' s') :
  wpAny (model X.prog X.w) A (getItem (.ref a) u) Q E s:=by
 rcases g with ⟨kvs,k,e,ey,l⟩ | ⟨kvs,k,b,e,ey,eb,l⟩
 ·subst ey
  obtain ⟨z,hd,vs,rel,dd⟩:=mL I.hok e
  obtain ⟨w',hw,rw'⟩:=RelO.some_of (v:=v) (o:=valueAt vs k) (by rw [l]; exact rel.val k)
  exact wpAny_getItem_of (nZ ry) dd.mapOf hw (h w' _ (I.tok _) rw')
 ·subst ey
  cases (show u=Value.ref b from ry)
  obtain ⟨z,hd,xs,rel,dd⟩:=pO I.hok e
  obtain ⟨w',hw,rw'⟩:=RelO.some_of (v:=v) (o:=(atKey xs k).map (·.2)) (by rw [l]; exact rel.val k)
  obtain ⟨p,hp,hp2⟩:=UW.mp hw
  refine wpAny_getItem_heap (Rp hu) (nT I.hok eb) dd hp ?_
  rw [hp2]
  exact h w' _ (I.tok _) rw'
theorem d_in {Q:Value->Shared->Prop} (hu:A.units+1<cLine) (I:Inv X pins σ H s) (g:DGet H a y o) (ry:RelV y u) (h:∀ s',Inv X pins σ H s'->Q (.bool o.isSome) s') :
  wpAny (model X.prog X.w) A (compareOp .In u (.ref a)) Q E s:=by
 rcases g with ⟨kvs,k,e,ey,l⟩ | ⟨kvs,k,b,e,ey,eb,l⟩
 ·subst ey
  obtain ⟨z,hd,vs,rel,dd⟩:=mL I.hok e
  refine wpAny_in_of (nZ ry) hd dd.mapOf ?_
  rw [<- (rel.val k).isSome_eq,<- l]
  exact h _ (I.tok _)
 ·subst ey
  cases (show u=Value.ref b from ry)
  obtain ⟨z,hd,xs,rel,dd⟩:=pO I.hok e
  refine wpAny_in_heap (Rp hu) (nT I.hok eb) hd dd ?_
  have q:=(rel.val k).isSome_eq
  rw [Sv] at q
  rw [<- q,<- l]
  exact h _ (I.tok _)
theorem Iw {Q:Value->Shared->Prop} (hu:A.units+1<cLine) (I:Inv X pins σ H s) (g:DGet H a y o) (ry:RelV y u) (h:∀ s',Inv X pins σ H s'->Q (.bool (!o.isSome)) s') :
  wpAny (model X.prog X.w) A (compareOp .NotIn u (.ref a)) Q E s:=by
 rcases g with ⟨kvs,k,e,ey,l⟩ | ⟨kvs,k,b,e,ey,eb,l⟩
 ·subst ey
  obtain ⟨z,hd,vs,rel,dd⟩:=mL I.hok e
  refine wpAny_notIn_of (nZ ry) hd dd.mapOf ?_
  rw [<- (rel.val k).isSome_eq,<- l]
  exact h _ (I.tok _)
 ·subst ey
  cases (show u=Value.ref b from ry)
  obtain ⟨z,hd,xs,rel,dd⟩:=pO I.hok e
  refine wpAny_notIn_heap (Rp hu) (nT I.hok eb) hd dd ?_
  have q:=(rel.val k).isSome_eq
  rw [Sv] at q
  rw [<- q,<- l]
  exact h _ (I.tok _)
theorem oN {h':Heap} {t':Nat} {ob:HO} (I:Inv X pins σ H s) (mu:Mut (H a)) (hs:Heap.SameBut a s.heap h') (he:∃ q,h'.get? a=some q) (new:ObjOk X.prog X.w (upd H a ob) h' a ob) :
  Inv X pins σ (upd H a ob) { s with heap:=h',toks:=t' } :=
 I.write (x:=a) (e:=a) mu (.inl rfl) (fun b q hb z=>(hs.2 b hb).trans z) he new
theorem yP {P:Program} {w:World} {H':Hp} {h':Heap} {kvs:List (Key×V)} {vs:List (Key×Value)} (z:kvs.length<=sizeLine) (hd:(a==sysModules)=false) (rel:KV kvs vs) (dd:h'.DictOf (bU P w) a vs) :
  ObjOk P w H' h' a (.dK kvs):=⟨z,hd,vs,rel,dd⟩
theorem Ay {H':Hp} {Q:Unit->Shared->Prop} (hu:A.units+1<cLine) (I:Inv X pins σ H s) (g:DPut H a y v H') (ry:RelV y u) (rv:RelV v r) (h:∀ s',Inv X pins σ H' s'->Q () s') :
  wpAny (model X.prog X.w) A (setItem (.ref a) u r) Q E s:=by
 rcases g with ⟨kvs,k,e,ey,l,eH⟩ | ⟨kvs,k,b,e,ey,eb,l,eH⟩
 ·subst ey eH
  obtain ⟨z,hd,vs,rel,dd⟩:=Gk I.hok e
  have hz:vs.length<=sizeLine:=by rw [<- rel.length]; exact z
  have hl:(putK kvs k v).length<=sizeLine:=by have:=dw kvs k v; omega
  refine wpAny_setItem_pairs (hsz:=hz) (nZ ry) dd fun h' dd' hs=>h _ ?_
  have he:∃ q,h'.get? a=some q:=let ⟨q,_,_,hq,_⟩:=dd'; ⟨q,hq⟩
  exact oN I (by rw [e]; exact True.intro) hs he (yP hl hd (rel.put k rv) dd')
 ·subst ey eH
  cases (show u=Value.ref b from ry)
  obtain ⟨z,hd,xs,rel,dd⟩:=Lw I.hok e
  have hz:xs.length<=sizeLine:=by rw [<- Paired.length rel]; exact z
  have hl:(putK kvs k v).length<=sizeLine:=by have:=dw kvs k v; omega
  refine wpAny_setItem_heap (hsz:=hz) (Rp hu) (nT I.hok eb) dd fun h' dd' hs=>h _ ?_
  obtain ⟨q,es,ep,hq,h2,h3,h4,_,h5⟩:=dd'
  refine oN I (by rw [e]; exact True.intro) hs ⟨q,hq⟩ ⟨hl,hd,_,(rel.put k eb rv).keeps fun c ys ec=>?_,q,es,ep,hq,h2,h3,h4,h5⟩
  rw [aC (iu ec e (fun z=>nomatch z))]
  exact ec
end
section
variable {X:Cx} {pins:List (Addr×Obj)} {σ:St} {H:Hp} {s:Shared} {a:Addr} {kvs:List (Key×V)} {k:Key} {u:Value} {A:Around} {E:Value->Shared->Prop}
theorem Ms {Q:Value->Shared->Prop} (I:Inv X pins σ H s) (e:Rd H a (.dK kvs)) (h:∀ t s',Inv X pins σ H s'->Q (.int kvs.length t) s'):wpAny (model X.prog X.w) A (call (.builtin "len") [.ref a]) Q E s:=by
 obtain ⟨z,hd,vs,rel,dd⟩:=mL I.hok e
 refine call_len_dict hd dd (by rw [<- rel.length]; rw [Te] at z; omega) ?_
 rw [<- rel.length]
 exact h _ _ (I.tok _)
end
def NoSl (i:Expr):Prop:=∀ ov iv,subscripted i false ov iv=operate [ov,iv] (getItem ov iv)
theorem HB {prog:Program} {w:World} {A:Around} {E:Value->Shared->Prop} {s:Shared} {env:Env} {value slice:Expr} {pos:Pos} {T id:String} {Q:Value->Shared->Prop}
  (hl:typeLookup (.type T) "__getitem__"=pure (some (.builtin id))) (hs:NoSl slice)
  (h:wpAny (model prog w) A (eval value env) (fun o s₁=>wpAny (model prog w) A (eval slice env) (fun i s₂=>s₂.TypeIs o T/\wpAny (model prog w) A (getItem o i) Q E s₂) E s₁) E s) :
  wpAny (model prog w) A (eval (.Subscript value slice pos) env) Q E s:=by
 refine Subscript_ (PK h (fun o s₁ h₁=>PK h₁ (fun i s₂ h₂=>?_) fun _ _ x=>x) fun _ _ x=>x)
 obtain ⟨hT,h₂⟩:=h₂
 unfold subscriptTail
 refine Nf ?_
 rw [getitemInPython_of_ne hT.not_modules]
 refine Nf (wpAny_specialOf hT hl ?_)
 have fin:wpAny (model prog w) A (subscripted slice false o i) (fun r s₃=>wpAny (model prog w) A (letTemporaryGo value o r >>= fun _=>pure r) Q E s₃) E s₂:=by
  rw [hs o i]
  exact wpAny_operating (PK h₂ (fun r s₃ h₃=>Nf (wpAny_letTemporaryGo (Ni h₃))) fun _ _ x=>x)
 first
  | exact Ni (Nf fin)
  | exact Nf (Ni (Nf fin))
  | exact Nf fin
theorem vM {X:Cx} {pins:List (Addr×Obj)} {σ:St} {H:Hp} {s:Shared} {a:Addr} {y:V} {o:Option V} (I:Inv X pins σ H s) (g:DGet H a y o):s.TypeIs (.ref a) "dict":=by
 rcases g with ⟨kvs,k,e,_,_⟩ | ⟨kvs,k,b,e,_,_,_⟩
 ·obtain ⟨_,_,vs,_,dd⟩:=mL I.hok e
  exact dd.typeIs
 ·obtain ⟨_,_,xs,_,dd⟩:=pO I.hok e
  exact dd.typeIs
def MK (td ty:TE):TE:=fun σ H Q=>td σ H fun x H1=>ty σ H1 fun y H2=>∃ a v,x=.ref a/\DGet H2 a y (some v)/\Q v H2
def tDIn (ty td:TE):TE:=fun σ H Q=>ty σ H fun y H1=>td σ H1 fun x H2=>∃ a o,x=.ref a/\DGet H2 a y o/\Q (.bl o.isSome) H2
def HN (ty td:TE):TE:=fun σ H Q=>ty σ H fun y H1=>td σ H1 fun x H2=>∃ a o,x=.ref a/\DGet H2 a y o/\Q (.bl (!o.isSome)) H2
def Eu (td ty tv:TE):TS:=fun D σ H=>tv σ H fun v H1=>td σ H1 fun x H2=>ty σ H2 fun y H3=>∃ a H4,x=.ref a/\DPut H3 a y v H4/\D.nx σ H4
section
variable {X:Cx} {o i e value:Expr} {pos pos' tpos:Pos} {td ty tv:TE}
theorem cH (hu:X.A.units+1<cLine) (ho:PE X o td) (hi:PE X i ty) (hs:NoSl i):PE X (.Subscript o i pos) (MK td ty):=by
 intro pins s σ H Q I h
 refine HB PySem.F.slot_dict_getitem.lookup hs (thn (ho pins s σ H _ I h) fun u s1 ⟨x,H1,I1,rx,q1⟩=>thn (hi pins s1 σ H1 _ I1 q1) fun iv s2 ⟨y,H2,I2,ry,a,v,ex,g,q2⟩=>?_)
 subst ex
 obtain rfl:u=Value.ref a:=rx
 exact ⟨vM I2 g,Bo hu I2 g ry fun w' s3 I3 rw'=>⟨v,H2,I3,rw',q2⟩⟩
theorem uY (hu:X.A.units+1<cLine) (hi:PE X i ty) (ho:PE X o td):PC X .In i o (tDIn ty td):=by
 intro pins s σ H Q I h
 refine thn (hi pins s σ H _ I h) fun iv s1 ⟨y,H1,I1,ry,q1⟩=>thn (ho pins s1 σ H1 _ I1 q1) fun u s2 ⟨x,H2,I2,rx,a,ov,ex,g,q2⟩=>?_
 subst ex
 obtain rfl:u=Value.ref a:=rx
 exact d_in hu I2 g ry fun s3 I3=>⟨.bl ov.isSome,H2,I3,rfl,q2⟩
theorem d8 (hu:X.A.units+1<cLine) (hi:PE X i ty) (ho:PE X o td):PC X .NotIn i o (HN ty td):=by
 intro pins s σ H Q I h
 refine thn (hi pins s σ H _ I h) fun iv s1 ⟨y,H1,I1,ry,q1⟩=>thn (ho pins s1 σ H1 _ I1 q1) fun u s2 ⟨x,H2,I2,rx,a,ov,ex,g,q2⟩=>?_
 subst ex
 obtain rfl:u=Value.ref a:=rx
 exact Iw hu I2 g ry fun s3 I3=>⟨.bl (!ov.isSome),H2,I3,rfl,q2⟩
theorem fJ (hu:X.A.units+1<cLine) (ho:PE X o td) (hi:PE X i ty) (hv:PE X value tv) (hs:swapsWith value (some (.Subscript o i pos')) pos.line X.env=pure false) :
  PS X (.Assign [.Subscript o i pos'] value pos) (Eu td ty tv):=by
 intro pins s σ H D I h
 refine wpAny_Assign_Subscript (thn (hv pins s σ H _ I h) fun r s1 ⟨v,H1,I1,rv,q1⟩=>thn (ho pins s1 σ H1 _ I1 q1) fun u s2 ⟨x,H2,I2,rx,q2⟩=>thn (hi pins s2 σ H2 _ I2 q2) fun iv s3 ⟨y,H3,I3,ry,a,H4,ex,g,q3⟩=>?_) hs
 subst ex
 obtain rfl:u=Value.ref a:=rx
 exact Ay hu I3 g ry rv fun s4 I4=>⟨σ,H4,I4,q3⟩
end
theorem wM {P:Program} {w:World} {H:Hp} (h:Heap) (hb:sysModules<h.objs.size):ObjOk P w H (h.push { cls:=.type "dict",data:=.dict #[] }) h.objs.size (.dK []) :=
 ⟨OD _,beq_eq_false_iff_ne.mpr (Ne.symm (Ot hb)),[],.nil,Heap.DictOf.new h⟩
theorem Ek {P:Program} {w:World} {H:Hp} (h:Heap) (hb:sysModules<h.objs.size):ObjOk P w H (h.push { cls:=.type "dict",data:=.dict #[] }) h.objs.size (.dT []) :=
 ⟨OD _,beq_eq_false_iff_ne.mpr (Ne.symm (Ot hb)),[],.nil,_,#[],0,NQ _ rfl,⟨rfl,rfl,rfl⟩,rfl,rfl,Qu⟩
def Lh:TE:=fun _ H Q=>∀ p,H p=none->Q (.ref p) (upd H p (.dK []))
def JZ:TE:=fun _ H Q=>∀ p,H p=none->Q (.ref p) (upd H p (.dT []))
section
variable {X:Cx} {pos:Pos}
theorem iz:PE X (.Dict [] [] pos) Lh:=fun pins s σ H Q I h =>
 wpAny_Dict_empty ⟨.ref s.heap.objs.size,_,I.laid (a:=s.heap.objs.size) (o:=.dK []) (t':=s.toks) (fun _ _ q=>Nk _ q) (Nu _) (wM s.heap I.big),rfl,h _ (I.hok.fresh (Nu _))⟩
theorem lV:PE X (.Dict [] [] pos) JZ:=fun pins s σ H Q I h =>
 wpAny_Dict_empty ⟨.ref s.heap.objs.size,_,I.laid (a:=s.heap.objs.size) (o:=.dT []) (t':=s.toks) (fun _ _ q=>Nk _ q) (Nu _) (Ek s.heap I.big),rfl,h _ (I.hok.fresh (Nu _))⟩
end
def yc:List (TE×TE)->St->Hp->(List (V×V)->Hp->Prop)->Prop
 | [],_,H,Q=>Q [] H
 | (tk,tv)::r,σ,H,Q=>tk σ H fun x H1=>tv σ H1 fun y H2=>yc r σ H2 fun ps H3=>Q ((x,y)::ps) H3
abbrev VV:List (V×V)->List (Value×Value)->Prop:=Paired fun p q=>RelV p.1 q.1/\RelV p.2 q.2
def PPs (X:Cx) (pos:Pos) (keys:List (Option Expr)) (values:List Expr) (trs:List (TE×TE)):Prop :=
 ∀ (pins:List (Addr×Obj)) (s:Shared) (σ:St) (H:Hp) (Q:List (V×V)->Hp->Prop),Inv X pins σ H s->yc trs σ H Q ->
  wpAny (model X.prog X.w) X.A (evalPairs (pairTrees keys values X.env pos)) (fun vs s'=>∃ ps H',Inv X pins σ H' s'/\VV ps vs/\Q ps H') X.xe s
theorem G3 {X:Cx} {pos:Pos}:PPs X pos [] [] []:=fun pins s σ H Q I h=>pairTrees_nil_walk ⟨[],H,I,.nil,h⟩
theorem wO {X:Cx} {pos:Pos} {k v:Expr} {ks:List (Option Expr)} {vs:List Expr} {tk tv:TE} {trs:List (TE×TE)} (hk:PE X k tk) (hv:PE X v tv) (hr:PPs X pos ks vs trs) :
  PPs X pos (some k::ks) (v::vs) ((tk,tv)::trs):=fun pins s σ H Q I h =>
 pairTrees_cons_walk (thn (hk pins s σ H _ I h) fun u s1 ⟨x,H1,I1,rx,q1⟩=>thn (hv pins s1 σ H1 _ I1 q1) fun w2 s2 ⟨y,H2,I2,ry,q2⟩ =>
  thn (hr pins s2 σ H2 _ I2 q2) fun ws s3 ⟨ps,H3,I3,rel,q3⟩=>⟨(x,y)::ps,H3,I3,.cons ⟨rx,ry⟩ rel,q3⟩)
def nM (kvs more:List (Key×V)):List (Key×V):=more.foldl (fun acc kv=>putK acc kv.1 kv.2) kvs
theorem KV.merge:∀ {more:List (Key×V)} {rs:List (Key×Value)} {kvs:List (Key×V)} {vs:List (Key×Value)},KV more rs->KV kvs vs->KV (nM kvs more) (merged vs rs):=by
 intro more rs kvs vs r
 unfold KV at r
 induction r generalizing kvs vs with
 | nil=>intro q; exact q
 | @cons p q ps qs h t ih =>
  intro r0
  have e:KV (putK kvs p.1 p.2) (stored vs q.1 q.2):=by
   have:=r0.put p.1 h.2
   rw [<- h.1]; exact this
  exact ih e
theorem lq:∀ (more kvs:List (Key×V)),(nM kvs more).length<=kvs.length+more.length
 | [],kvs=>by show kvs.length<=kvs.length+0; omega
 | p::r,kvs=>by
  have h1:=lq r (putK kvs p.1 p.2)
  have h2:=dw kvs p.1 p.2
  show (nM (putK kvs p.1 p.2) r).length<=_
  rw [Oj]; omega
theorem rD {P:Program} {w:World}:∀ {kvs:List (Key×V)} {ws:List (Value×Value)},VV (kvs.map fun kv=>(kV kv.1,kv.2)) ws->∃ rs,Carries (bU P w) ws rs/\KV kvs rs
 | [],_,r=>by rw [TJ] at r; cases r; exact ⟨[],True.intro,.nil⟩
 | p::kvs,_,r=>by
  rw [Ow] at r
  cases r with
  | @cons a b as bs h t =>
   obtain ⟨rs,c,q⟩:=rD (P:=P) (w:=w) t
   obtain ⟨b1,b2⟩:=b
   exact ⟨(p.1,b2)::rs,⟨nZ h.1,rfl,c⟩,.cons ⟨rfl,h.2⟩ q⟩
def Mq (trs:List (TE×TE)):TE:=fun σ H Q=>∀ p,H p=none->yc trs σ (upd H p (.dK [])) fun ps H2=>H2 p=some (.dK [])/\∃ kvs:List (Key×V),ps=kvs.map (fun kv=>(kV kv.1,kv.2))/\kvs.length<=15/\Q (.ref p) (upd H2 p (.dK (nM [] kvs)))
theorem G4 {X:Cx} {pos:Pos} {keys:List (Option Expr)} {values:List Expr} {trs:List (TE×TE)} (h:PPs X pos keys values trs) (hall:keys.all (·.isSome)=true) (hl:keys.length=values.length) (h0:keys≠[])
  (h15:keys.length<=15):PE X (.Dict keys values pos) (Mq trs):=by
 intro pins s σ H Q I q
 have hn:=I.hok.fresh (Nu s.heap.objs.size)
 have I1:=I.laid (a:=s.heap.objs.size) (o:=.dK []) (h':=s.heap.push { cls:=.type "dict",data:=.dict #[] }) (t':=s.toks) (fun _ _ q=>Nk _ q) (Nu _) (wM s.heap I.big)
 refine wpAny_Dict_walk (knd:=bU X.prog X.w) hall hl h0 h15 (thn (h pins _ σ _ _ I1 (q _ hn)) fun ws s2 ⟨ps,H2,I2,rel,e,kvs,ep,lk,q2⟩=>?_)
 subst ep
 obtain ⟨rs,c,rk⟩:=rD (P:=X.prog) (w:=X.w) rel
 obtain ⟨z,hd,vs0,r0,dd⟩:=Gk I2.hok e
 cases r0
 refine ⟨rs,c,dd,fun h' dd' hs=>⟨.ref s.heap.objs.size,_,?_,rfl,q2⟩⟩
 have hz:(nM [] kvs).length<=sizeLine:=by
  have h1:=lq kvs []
  rw [WY] at h1
  rw [Te]; omega
 have he:∃ q,h'.get? s.heap.objs.size=some q:=let ⟨q,_,_,hq,_⟩:=dd'; ⟨q,hq⟩
 exact oN I2 (by rw [e]; exact True.intro) hs he (yP hz hd (rk.merge .nil) dd')
structure M1 (X:Cx) (o:Expr) (m:Str) (apos:Pos) (e:Expr) (cpos:Pos):Prop where
 base:attributeBase o m X.env (eval o X.env)=eval o X.env
 few:((backTo cpos (starEach [e] X.env)).all (fun x=>!x.1) && (backToKw cpos (keywordEach [] X.env)).all (fun x=>x.1.isSome)
  && decide (([e]:List Expr).length+([]:List Keyword).length+(if ([]:List Keyword).isEmpty then 0 else 1)<30))=true
 line:(apos.endLine==cpos.line)=true
 trees:backTo cpos (starEach [e] X.env)=[(false,eval e X.env)]
structure M2 (X:Cx) (o:Expr) (m:Str) (apos:Pos) (e f:Expr) (cpos:Pos):Prop where
 base:attributeBase o m X.env (eval o X.env)=eval o X.env
 few:((backTo cpos (starEach [e,f] X.env)).all (fun x=>!x.1) && (backToKw cpos (keywordEach [] X.env)).all (fun x=>x.1.isSome)
  && decide (([e,f]:List Expr).length+([]:List Keyword).length+(if ([]:List Keyword).isEmpty then 0 else 1)<30))=true
 line:(apos.endLine==cpos.line)=true
 trees:backTo cpos (starEach [e,f] X.env)=[(false,eval e X.env),(false,eval f X.env)]
def IsD (H:Hp) (a:Addr):Prop:=(∃ kvs,Rd H a (.dK kvs))∨∃ kvs,Rd H a (.dT kvs)
theorem Ej {X:Cx} {pins:List (Addr×Obj)} {σ:St} {H:Hp} {s:Shared} {a:Addr} (I:Inv X pins σ H s) (d:IsD H a) :
  s.TypeIs (.ref a) "dict"/\(∀ b,Value.ref a=.ref b->∃ ob,s.heap.get? b=some ob/\ob.dict=none)/\(a==sysModules)=false:=by
 rcases d with ⟨kvs,e⟩ | ⟨kvs,e⟩
 ·obtain ⟨_,hd,vs,_,dd⟩:=mL I.hok e
  refine ⟨dd.typeIs,fun b q=>?_,hd⟩
  cases q
  obtain ⟨ob,_,_,h1,h2,_⟩:=dd
  exact ⟨ob,h1,h2.2.1⟩
 ·obtain ⟨_,hd,xs,_,dd⟩:=pO I.hok e
  refine ⟨dd.typeIs,fun b q=>?_,hd⟩
  cases q
  obtain ⟨ob,_,_,h1,h2,_⟩:=dd
  exact ⟨ob,h1,h2.2.1⟩
section
variable {X:Cx} {pins:List (Addr×Obj)} {σ:St} {H:Hp} {s:Shared} {a:Addr} {y d:V} {u r:Value} {o:Option V} {A:Around} {E:Value->Shared->Prop}
theorem Ko {Q:Value->Shared->Prop} (hu:A.units+1<cLine) (I:Inv X pins σ H s) (g:DGet H a y o) (ry:RelV y u) (rd:RelV d r) (h:∀ w' s',Inv X pins σ H s'->RelV (o.getD d) w'->Q w' s') :
  wpAny (model X.prog X.w) A (call (.builtin "dict.get") [.ref a,u,r]) Q E s:=by
 rcases g with ⟨kvs,k,e,ey,l⟩ | ⟨kvs,k,b,e,ey,eb,l⟩
 ·subst ey
  obtain ⟨z,hd,vs,rel,dd⟩:=mL I.hok e
  refine Wt SQ dd.typeIs U8 (Uq _ _ _) (meets_dict_get_default (bU X.prog X.w) a (nZ ry) hd r) ⟨_,dd.mapOf,h _ _ (I.tok _) ?_⟩
  rw [l]
  exact (rel.val k).getD rd
 ·subst ey
  cases (show u=Value.ref b from ry)
  obtain ⟨z,hd,xs,rel,dd⟩:=pO I.hok e
  refine Wt SQ dd.typeIs U8 (Uq _ _ _) (meetsH_dict_get_default (tupleKind (bU X.prog X.w)) a b hd r) ⟨Rp hu,k,xs,nT I.hok eb,dd,h _ _ (I.tok _) ?_⟩
  rw [l]
  exact (rel.val k).getD rd
end
def Le (td ty tx:TE):TE:=fun σ H Q=>td σ H fun x H1=>∃ a,x=.ref a/\IsD H1 a/\ty σ H1 fun y H2=>tx σ H2 fun z H3=>∃ o,DGet H3 a y o/\Q (o.getD z) H3
section
variable {X:Cx} {o e f:Expr} {apos cpos:Pos} {td ty tx:TE}
theorem vD (hu:X.A.units+1<cLine) (ho:PE X o td) (he:PE X e ty) (hf:PE X f tx) (m:M2 X o "get" apos e f cpos):PE X (.Call (.Attribute o "get" apos) [e,f] [] cpos) (Le td ty tx):=by
 intro pins s σ H Q I h
 refine Wh m.base m.few m.line Ur SQ PySem.F.type_dict_get (thn (ho pins s σ H _ I h) fun u s1 ⟨x,H1,I1,rx,a,ex,d,q1⟩=>?_)
 subst ex
 obtain rfl:u=Value.ref a:=rx
 obtain ⟨t1,t2,_⟩:=Ej I1 d
 refine ⟨t1,t2,?_⟩
 rw [m.trees]
 refine Sh rfl (RD (Rm (thn (he pins s1 σ H1 _ I1 q1) fun iv s2 ⟨y,H2,I2,ry,q2⟩ =>
  Rm (thn (hf pins s2 σ H2 _ I2 q2) fun fv s3 ⟨z,H3,I3,rz,ov,g,q3⟩=>Ua ?_))))
 exact Ko hu I3 g ry rz fun w' s4 I4 rw'=>⟨_,H3,I4,rw',q3⟩
end
section
variable {X:Cx} {pins:List (Addr×Obj)} {σ:St} {H:Hp} {s:Shared} {a:Addr} {kvs:List (Key×V)} {A:Around} {E:Value->Shared->Prop}
end
section
variable {X:Cx} {pins:List (Addr×Obj)} {σ:St} {H:Hp} {s:Shared} {a:Addr} {y:V} {u:Value} {A:Around} {E:Value->Shared->Prop}
end
section
variable {X:Cx} {pins:List (Addr×Obj)} {σ:St} {H:Hp} {s:Shared} {d:Addr} {o o':HO}
theorem Inv.shift (I:Inv X pins σ H s) (e:H d=some o) (h1:∀ xs,o≠.tup xs) (h2:∀ y,o≠.own y) (h3:∀ ps,o≠.tbl ps) (hf:∀ ob u,X.H₀ d≠some (.frz ob u)) (new:ObjOk X.prog X.w (upd H d o') s.heap d o'):Inv X pins σ (upd H d o') s:=by
 have nn:∀ b,H b=none->upd H d o' b=none:=fun b n=>by
  rw [aC (show b≠d from fun z=>by rw [z,e] at n; cases n)]
  exact n
 have nt:∀ b xs,H b=some (.tup xs)->upd H d o' b=some (.tup xs):=fun b xs q=>by
  rw [aC (show b≠d from fun z=>by rw [z,e] at q; exact h1 xs (Option.some.inj q))]
  exact q
 refine ⟨I.ok,I.os,I.bare,⟨I.base.keep,I.base.slot,fun b ob q n x=>nn b (I.base.free b ob q n x),I.base.there,fun b xs q=>nt b xs (I.base.tups b xs q),fun b ob u q=>?_,fun b ps q=>?_⟩,I.loc,I.cell,nn _ I.free,fun x c z=>nn c (I.freeC x c z),fun p hp=>?_,fun b u q=>?_,I.len⟩
 ·rw [aC (show b≠d from fun z=>hf ob u (by rw [<- z]; exact q))]
  exact I.base.frzs b ob u q
 ·obtain ⟨m,r⟩:=I.base.tbls b ps q
  refine ⟨m,?_⟩
  rw [aC (show b≠d from fun z=>by rw [z,e] at r; exact h3 _ (Option.some.inj r))]
  exact r
 ·obtain ⟨a1,a2,a3⟩:=I.pin p hp
  exact ⟨a1,nn _ a2,a3⟩
 ·by_cases hb:b=d
  ·subst hb
   rw [ak] at q
   cases q
   exact new
  ·rw [aC hb] at q
   refine (I.hok b u q).stay (fun _ _ _ r=>r) (fun c r=>?_) nt
   rw [aC (show c≠d from fun z=>by rw [z,e] at r; exact h2 _ (Option.some.inj r))]
   exact r
end
section
variable {prog:Program} {w:World} {A:Around} {E:Value->Shared->Prop} {s:Shared} {d it:Addr} {o:Obj} {es:Array DictEntry} {ep i:Nat}
theorem tY {Q:Value->Shared->Prop} (nd:(d==sysModules)=false) (e1:s.heap.get? d=some o) (e2:o.ExactDict) (e3:o.data=.dict es ep)
  (q:Q (.ref s.heap.objs.size) { s with heap:=s.heap.push { cls:=.type "dict_keyiterator",data:=.fields #[.ref d,.int 0 0,.int es.size 0,.int ep 0] } }):wpAny (model prog w) A (pyIter (.ref d)) Q E s:=by
 have tD:s.TypeIs (.ref d) "dict":=⟨o,e1,e2.1⟩
 refine Wi tD WK (P0 WK tD F.entry_dict_iter ?_ (F.args_dict_iter_1 _))
 unfold Builtin.«dict.__iter__» Builtin.Dict.dictSlotNone
 refine Nf (Nf (wpAny_notOrdered_dict tD ?_))
 refine (show wpAny _ _ (pure (Value.ref d)) _ _ s from Ni ?_)
 show wpAny _ _ (Builtin.Dict.showsAll d >>= _) _ _ s
 unfold Builtin.Dict.showsAll
 rw [if_neg (by rw [nd]; decide)]
 refine Nf (Ni (Nf (Ui e1 e3 (Nf (Vh e1 e3 ?_)))))
 refine Nf (Pj (Ni ⟨_,rfl,"dict_keyiterator",_,⟨_,NQ _ rfl,rfl⟩,Qg.lookup,?_⟩))
 simpa [rawInt] using q
theorem tU {en:DictEntry} {Q:Option Value->Shared->Prop} (t:s.heap.IsKeyIter it d i es.size ep) (e1:s.heap.get? d=some o) (e3:o.data=.dict es ep) (hx:es[i]?=some en)
  (q:∀ h',h'.IsKeyIter it d (i+1) es.size ep->Heap.SameBut it s.heap h'->Q (some en.key) { s with heap:=h' }):wpAny (model prog w) A (pyNext (.ref it)) Q E s:=by
 obtain ⟨oi,i1,i2,i3⟩:=id t
 have tI:=t.typeIs
 unfold pyNext
 refine Nf (Rx (PL (name:=Str.ofString "__next__") tI Qg (P0 Qg tI S9 ?_ (SX _))))
 refine Nf (Ni (Nf (Nf ?_)))
 first | refine Nf (QB tI (Ni ?_)) | refine Nf (QZ tI (Ni ?_))
 refine Nf (T4 i1 i3 ?_)
 simp only [show Builtin.Dict_items.ownsTuple "dict_keyiterator"=false by decide,Ro,if_false]
 show wpAny _ _ (if (Value.ref d==Value.none)=true then _ else _) _ _ s
 rw [if_neg (show ¬ ((Value.ref d==Value.none)=true) from fun z=>nomatch z)]
 refine Nf (Ni (Nf (Ui e1 e3 ?_)))
 rw [if_neg (by simp)]
 refine Nf (Ni (Nf (Vh e1 e3 ?_)))
 rw [if_neg (by simp)]
 refine Ni ?_
 simp only [show ¬ ((i:Int)<0) by omega,if_false,Pz,hx]
 refine Nf ?_
 first | refine Nf (QB tI (Ni ?_)) | refine Nf (QZ tI (Ni ?_))
 refine Nf (Vi tI ?_)
 refine (show wpAny _ _ (setField (.ref it) 1 (rawInt ((i:Int)+1)) >>= _) _ _ s from Nf (Qi i1 i3 (by simp) ?_))
 have t':(s.heap.update it (Obj.mapFields (·.setIfInBounds 1 (rawInt ((i:Int)+1))))).IsKeyIter it d (i+1) es.size ep :=
  ⟨_,Pk _ i1 (Qe (Pn i3 _)),(Sw ..).trans i2,by rw [Pn i3]; simp [rawInt]⟩
 refine Nf (Pa (Nf (Vi (s:={ s with heap:=s.heap.update it (Obj.mapFields (·.setIfInBounds 1 (rawInt ((i:Int)+1)))) }) t'.typeIs ?_)))
 refine (show wpAny _ _ (pure en.key) _ _ _ from Ni (Ni ⟨_,rfl,Ni (q _ t' (Heap.SameBut.update ..))⟩))
theorem wG {Q:Option Value->Shared->Prop} (hh:A.handled=none) (t:s.heap.IsKeyIter it d i es.size ep) (e1:s.heap.get? d=some o) (e3:o.data=.dict es ep) (hx:es.size<=i)
  (q:∀ h',Heap.ExtBut it s.heap h'->Q none { s with heap:=h' }):wpAny (model prog w) A (pyNext (.ref it)) Q E s:=by
 obtain ⟨oi,i1,i2,i3⟩:=id t
 have tI:=t.typeIs
 unfold pyNext
 refine Nf (Rx (PL (name:=Str.ofString "__next__") tI Qg (P0 Qg tI S9 ?_ (SX _))))
 refine Nf (Ni (Nf (Nf ?_)))
 first | refine Nf (QB tI (Ni ?_)) | refine Nf (QZ tI (Ni ?_))
 refine Nf (T4 i1 i3 ?_)
 simp only [show Builtin.Dict_items.ownsTuple "dict_keyiterator"=false by decide,Ro,if_false]
 show wpAny _ _ (if (Value.ref d==Value.none)=true then _ else _) _ _ s
 rw [if_neg (show ¬ ((Value.ref d==Value.none)=true) from fun z=>nomatch z)]
 refine Nf (Ni (Nf (Ui e1 e3 ?_)))
 rw [if_neg (by simp)]
 refine Nf (Ni (Nf (Vh e1 e3 ?_)))
 rw [if_neg (by simp)]
 refine Ni ?_
 simp only [show ¬ ((i:Int)<0) by omega,if_false,Pz,QL hx]
 refine Nf ?_
 first | refine Nf (QB tI (Ni ?_)) | refine Nf (QZ tI (Ni ?_))
 refine (show wpAny _ _ (setField (.ref it) 0 .none >>= _) _ _ s from Nf (Qi i1 i3 (by simp) ?_))
 refine (show wpAny _ _ (newExc (.type "StopIteration") [] >>= _) _ _ _ from Nf ?_)
 simp only [newExc,newTuple]
 refine Nf (Pj ?_ (by size_fits))
 refine Nf (m:=firstArgMember _ _) (Rr (a:=Value.none) (by first | rfl | (simp only [firstArgMember]; rfl)) (Pj ?_ (by size_fits)))
 simp only [raiseNew]
 refine Nf (wpAny_handled ?_)
 rw [show A.in1.handled=none from hh]
 refine Nf (Ni (wpAny_throw ?_))
 refine Nf (Rf (T:="StopIteration") (b:=true) ⟨_,NQ _ rfl,by rfl⟩ isSubtype_stop ?_)
 exact Ni (q _ (((Heap.SameBut.update ..).extBut.push _).push _))
end
theorem bQ {α β:Type} {F:α->β->Prop}:∀ {l₁:List α} {l₂:List β} {i:Nat} {a:α},Paired F l₁ l₂->l₁[i]?=some a->∃ b,l₂[i]?=some b/\F a b
 | _,_,_,_,.nil,e=>by simp at e
 | _,_,0,_,.cons h _,e=>by simp at e; subst e; exact ⟨_,rfl,h⟩
 | _,_,i+1,a,.cons _ t,e=>by
  simp only [Ql] at e
  obtain ⟨b,e',q⟩:=bQ t e
  exact ⟨b,by simpa using e',q⟩
section
variable {X:Cx} {tg:Expr}
def nU (X:Cx) (d:Addr):Prop:=∀ ob u,X.H₀ d≠some (.frz ob u)
end
theorem kJ {H H':Hp} {d:Addr} {o u:HO} (e:H d=some u) (g:Same (upd H d o) H'):Same H (upd H' d u):=fun b v q=>by
 by_cases hb:b=d
 ·subst hb
  rw [e] at q
  cases q
  exact ak
 ·rw [aC hb]
  exact g b v (by rw [aC hb]; exact q)
end L2
namespace L2
open PySem PySem.Spec PySem.W PySem.Calls PyProof.Rows
section
variable {prog:Program} {w:World} {A:Around} {d:Addr} {o:Obj} {es:Array DictEntry} {ep:Nat}
theorem Ax (hh:A.handled=none) (I:Addr) (ne:d≠I) (e3:o.data=.dict es ep):Walks prog w A I [I,d] [I] es.size (fun i v=>∃ en,es[i]?=some en/\v=en.key) (fun i h=>h.IsKeyIter I d i es.size ep/\h.get? d=some o) where
 sub:=by intro b hb; simp at hb; simp [hb]
 frame:=fun _ _ _ st hk=>⟨st.1.at fun o e=>hk I (by simp) o e,hk d (by simp) o st.2⟩
 item:=fun i s Q E hi st hQ=>by
  have hx:es[i]?=some es[i]:=O1 hi
  exact tU st.1 st.2 e3 hx fun h' it' sb=>hQ _ h' s.toks ⟨_,hx,rfl⟩ ⟨it',(sb.2 d ne).trans st.2⟩ fun b o hb e=>(sb.2 b (fun z=>hb (by simp [z]))).trans e
 done:=fun s Q E st hQ=>wG hh st.1 st.2 e3 (Nu _) fun h' eb=>hQ h' s.toks fun b o hb e=>eb b o (fun z=>hb (by simp [z])) e
 self:=fun _ _ _ _ st hQ=>Vv st.1 hQ
theorem zU (lo:(d==sysModules)=false) (e2:o.ExactDict) (e3:o.data=.dict es ep):KdlSrc prog w "dict" d d es.size (fun i v=>∃ en,es[i]?=some en/\v=en.key) (fun h=>h.get? d=some o) where
 type:=fun _ hm=>⟨o,hm,e2.1⟩
 there:=fun _ hm=>⟨N7 hm,N7 hm⟩
 keep:=fun _ _ hm hk=>hk d (.inl rfl) o hm
 notList:=by decide
 notTuple:=by decide
 hint:=fun _ _ _ _ hm hq=>kdl_hint_dict ⟨o,hm,e2.1⟩ hq
 iter:=fun _ _ hh hm=>⟨_,_,(fun _ _ hq=>tY lo hm e2 e3 hq),Ax hh _ (Ot (N7 hm)) e3,⟨⟨_,NQ _ rfl,rfl,rfl⟩,Nk _ hm⟩⟩
end
theorem ou {H:Hp}:∀ {kvs:List (List Key×V)} {xs:List (List Key×Addr×Value)},KT H kvs xs->Paired (fun kv y=>∃ b,y=V.ref b/\H b=some (.tup (kv.1.map kV))) kvs (xs.map fun q=>V.ref q.2.1)
 | _,_,.nil=>.nil
 | _,_,.cons h t=>.cons ⟨_,rfl,h.2.1⟩ (ou t)
theorem tV:∀ (xs:List (List Key×Addr×Value)),Vals (xs.map fun q=>V.ref q.2.1) (xs.map fun q=>Value.ref q.2.1)
 | []=>.nil
 | _::r=>.cons rfl (tV r)
section
variable {X:Cx}
theorem xO (hc:X.calm=true):CallR X (.type "list") (fun xs H Q=>∃ (a:Addr) (kvs:List (List Key×V)),xs=[V.ref a]/\Rd H a (.dT kvs)/\∀ l ys,H l=none->Paired (fun kv y=>∃ b,y=V.ref b/\H b=some (.tup (kv.1.map kV))) kvs ys->Q (.ref l) (upd H l (.lst ys))):=by
 intro pins s σ H xs us Q I r h
 obtain ⟨a,kvs,rfl,ha,q⟩:=h
 obtain ⟨u,rfl,ru⟩:=vals1 r
 cases ru
 obtain ⟨z,y,ks,rp,o,es,ep,h1,h2,h3,h4,h5⟩:=(show ObjOk X.prog X.w H s.heap a (.dT kvs) from Dt I.hok ha)
 have hz:es.size=kvs.length:=by rw [size_of_entries h4,Paired.length rp]
 have hk:es.size=ks.length:=size_of_entries h4
 refine kdl_call (zU y h2 h3) (I.ok.hd hc) h1 (by rw [hz]; exact z) fun h' tk acc' c' keep hnew hit=>?_
 have ea:acc'.toList=ks.map fun q=>Value.ref q.2.1:=by
  apply Uh
  intro j
  rw [Qf,NP]
  cases e:ks[j]? with
  | none =>
   have:ks.length<=j:=RJ.mp e
   rw [QL (by rw [hit.1]; omega)]
   rfl
  | some x =>
   have jl:j<ks.length:=(Nj.mp e).1
   have jl2:j<acc'.size:=by rw [hit.1]; omega
   have hj:acc'[j]?=some acc'[j]:=O1 jl2
   obtain ⟨en,e1,e2⟩:=hit.2 j _ hj
   obtain ⟨k2,b,u⟩:=x
   have een:es[j]?=some (entryOfKey (tupleKind (bU X.prog X.w)) (k2,b,u)):=by rw [entry_at h4,e] <;> rfl
   rw [een] at e1
   cases e1
   rw [hj,e2]
   rfl
 refine ⟨.ref s.heap.objs.size,_,I.laid (t':=tk) keep (Nu _) (show ObjOk X.prog X.w _ h' _ (.lst (ks.map fun q=>V.ref q.2.1)) from ⟨?_,ks.map fun q=>Value.ref q.2.1,c',tV ks,?_⟩),rfl,q _ _ (I.hok.fresh (Nu _)) (ou rp)⟩
 ·rw [Ng,<- hk,hz]; exact z
 ·rw [<- ea]
  simpa using hnew
end
theorem Ie {P:Program} {w:World} {k:Key} {u:Value} (h:(bU P w).is k u=true):RelV (kV k) u:=by
 rw [yF] at h
 cases k with
 | inl i=>exact V7 (show Value.isInt i u=true from h)
 | inr x =>
  have h:u.isStr x=true:=by rw [isStr_of]; exact h
  cases u with
  | str y t =>
   have:y=x:=LawfulBEq.eq_of_beq (show (y==x)=true from h)
   subst this
   exact ⟨t,rfl⟩
  | _=>cases h
theorem lK {P:Program} {w:World}:∀ {es:List DictEntry} {vs:List (Key×Value)},Pairs (bU P w) es vs->Vals (vs.map fun q=>kV q.1) (es.map (·.key))
 | _,_,.nil=>.nil
 | _,_,.cons h _ t=>.cons (Ie h) (lK t)
theorem pairs_len {P:Program} {w:World}:∀ {es:List DictEntry} {vs:List (Key×Value)},Pairs (bU P w) es vs->es.length=vs.length
 | _,_,.nil=>rfl
 | _,_,.cons _ _ t=>congrArg (· + 1) (pairs_len t)
theorem uJ:∀ {kvs:List (Key×V)} {vs:List (Key×Value)},KV kvs vs->vs.map (·.1)=kvs.map (·.1)
 | _,_,.nil=>rfl
 | _,_,.cons h t=>by rw [Ow,Ow,uJ t,h.1]
section
variable {X:Cx}
theorem yI (hc:X.calm=true):CallR X (.type "list") (fun xs H Q=>∃ (a:Addr) (kvs:List (Key×V)),xs=[V.ref a]/\Rd H a (.dK kvs)/\∀ l,H l=none->Q (.ref l) (upd H l (.lst (kvs.map fun kv=>kV kv.1)))):=by
 intro pins s σ H xs us Q I r h
 obtain ⟨a,kvs,rfl,ha,q⟩:=h
 obtain ⟨u,rfl,ru⟩:=vals1 r
 cases ru
 obtain ⟨z,y,vs,rp,o,es,ep,h1,h2,h3,h4,h5,h6⟩:=mL I.hok ha
 have hv:es.toList.length=vs.length:=pairs_len h5
 rw [Py] at hv
 have hz:es.size=kvs.length:=by rw [hv,Paired.length rp]
 refine kdl_call (zU y h2 h3) (I.ok.hd hc) h1 (by rw [hz]; exact z) fun h' tk acc' c' keep hnew hit=>?_
 have ea:acc'.toList=es.toList.map (·.key):=by
  apply Uh
  intro j
  rw [Qf,NP,Qf]
  cases e:es[j]? with
  | none =>
   have:es.size<=j:=Array.getElem?_eq_none_iff.mp e
   rw [QL (by rw [hit.1]; omega)]
   rfl
  | some x =>
   have jl:j<es.size:=(Array.getElem?_eq_some_iff.mp e).1
   have jl2:j<acc'.size:=by rw [hit.1]; omega
   have hj:acc'[j]?=some acc'[j]:=O1 jl2
   obtain ⟨en,e1,e2⟩:=hit.2 j _ hj
   rw [e] at e1
   cases e1
   rw [hj,e2]
   rfl
 have ek:vs.map (fun q=>kV q.1)=kvs.map fun kv=>kV kv.1:=by
  have:=congrArg (List.map kV) (uJ rp)
  rw [Pq,Pq] at this
  exact this
 refine ⟨.ref s.heap.objs.size,_,I.laid (t':=tk) keep (Nu _) (show ObjOk X.prog X.w _ h' _ (.lst (kvs.map fun kv=>kV kv.1)) from ⟨by rw [Ng]; exact z,es.toList.map (·.key),c',by rw [<- ek]; exact lK h5,?_⟩),rfl,q _ (I.hok.fresh (Nu _))⟩
 rw [<- ea]
 simpa using hnew
end
end L2
namespace L2
open PySem PySem.Spec PyProof.Rows
def ItK (d:Addr) (ob:Obj) (kvs:List (Key×V)):It :=
 ⟨fun i H=>H d=some (.frz ob (.dK kvs))/\i<kvs.length,
  fun i H v H'=>H'=H/\∃ k x,kvs[i]?=some (k,x)/\v=kV k,
  fun i H=>H d=some (.frz ob (.dK kvs))/\kvs.length<=i⟩
theorem GP {P:Program} {w:World} {kvs:List (Key×V)} {vs:List (Key×Value)} {es:Array DictEntry} {i:Nat} {k:Key} {x:V} (rp:KV kvs vs) (h5:Pairs (bU P w) es.toList vs) (e:kvs[i]?=some (k,x)):∃ en,es[i]?=some en/\RelV (kV k) en.key:=by
 have ek:vs.map (fun q=>kV q.1)=kvs.map fun kv=>kV kv.1:=by
  have:=congrArg (List.map kV) (uJ rp)
  rw [Pq,Pq] at this
  exact this
 have hv:=lK h5
 rw [ek] at hv
 obtain ⟨u,hu,ru⟩:=hv.get (i:=i) (x:=kV k) (by rw [NP,e] <;> rfl)
 rw [NP,Qf] at hu
 cases q:es[i]? with
 | none=>rw [q] at hu; cases hu
 | some en =>
  rw [q] at hu
  cases hu
  exact ⟨en,rfl,ru⟩
theorem yx {P:Program} {w:World} {K:Nh} {tg:Expr} {d it:Addr} {ob:Obj} {es:Array DictEntry} {ep:Nat} {kvs:List (Key×V)} (hd:ob.data=.dict es ep) (hz:es.size=kvs.length) :
  Turn P w K tg (ItK d ob kvs) [it] it (fun i h=>h.IsKeyIter it d i es.size ep) where
 mem:=by simp
 obj:=fun i h st b hb=>by
  have e:b=it:=by simpa using hb
  subst e
  obtain ⟨o,e,c,d⟩:=st
  exact ⟨o,e,fun v z=>by rw [d] at z; cases z⟩
 keep:=fun i h h' st k=>st.at fun o e=>k it (by simp) o e
 item:=by
  intro X hP hw hK hc i pins s σ H E I hf st hg
  subst hP hw hK
  obtain ⟨e,hi⟩:=hg
  obtain ⟨f0,f1,f2,f3,f4,f5⟩:=hf it (by simp)
  obtain ⟨e1,kk⟩:=(show ObjOk X.prog X.w H s.heap d (.frz ob (.dK kvs)) from I.hok d _ e)
  obtain ⟨z,y,vs,rp,o2,es2,ep2,a1,a2,a3,a4,a5,a6⟩:=(show ObjOk X.prog X.w H s.heap d (.dK kvs) from kk)
  rw [e1] at a1
  cases a1
  rw [hd] at a3
  cases a3
  obtain ⟨⟨k,x⟩,ek⟩:∃ p,kvs[i]?=some p:=⟨kvs[i],by simp [hi]⟩
  obtain ⟨en,een,rk⟩:=GP rp a5 ek
  refine tU st e1 hd een fun h' st' sb=>?_
  have I1:Inv X pins σ H { s with heap:=h' }:=I.turned (t':=s.toks) (fun b o hb e=>(sb.2 b hb).trans e) f0 f1 f3 f4 f5
  obtain ⟨o,e,c,d⟩:=id st'
  exact ⟨en.key,rfl,wA (s:={ s with heap:=h' }) e c d (by decide) ⟨kV k,H,I1,rk,⟨rfl,k,x,ek,rfl⟩,st',fun b hb=>(hf b hb).1⟩⟩
 done:=by
  intro X hP hw hK hc i pins s σ H E I hf st hg
  subst hP hw hK
  obtain ⟨e,hi⟩:=hg
  obtain ⟨f0,f1,f2,f3,f4,f5⟩:=hf it (by simp)
  obtain ⟨e1,_⟩:=(show ObjOk X.prog X.w H s.heap d (.frz ob (.dK kvs)) from I.hok d _ e)
  exact wG (I.ok.hd hc) st e1 hd (by omega) fun h' eb=>⟨rfl,I.turned (t':=s.toks) (fun b o hb e=>eb b o hb e) f0 f1 f3 f4 f5⟩
 self:=fun _ _ _ _ _ st h=>Vv st h
section
variable {X:Cx} {tg:Expr}
def thawK (Ok:Addr->Prop) (D:Ends):Ends where
 nx:=fun σ H=>∃ d ob kvs,Ok d/\H d=some (.frz ob (.dK kvs))/\D.nx σ (upd H d (.dK kvs))
 rt:=fun v H=>∃ d ob kvs,Ok d/\H d=some (.frz ob (.dK kvs))/\D.rt v (upd H d (.dK kvs))
 bk:=fun σ H=>∃ d ob kvs,Ok d/\H d=some (.frz ob (.dK kvs))/\D.bk σ (upd H d (.dK kvs))
 ct:=fun σ H=>∃ d ob kvs,Ok d/\H d=some (.frz ob (.dK kvs))/\D.ct σ (upd H d (.dK kvs))
def vB (Ok:Addr->Prop) (td:TE):TI:=fun σ H R=>td σ H fun x H1=>∃ d kvs,x=.ref d/\H1 d=some (.dK kvs)/\∀ ob,Ok d->R (ItK d ob kvs) (upd H1 d (.frz ob (.dK kvs)))
def Ly (td:TE) (g:TG) (tb:TS):TS:=fun D σ H=>∀ Ok:Addr->Prop,tFor (vB Ok td) g tb (thawK Ok D) σ H
theorem K7 {P:Program} {w:World} {H:Hp} {h:Heap} {d:Addr} {ob:Obj} {kvs:List (Key×V)} (e:H d=some (.dK kvs)) (k:ObjOk P w H h d (.dK kvs)) (e1:h.get? d=some ob):ObjOk P w (upd H d (.frz ob (.dK kvs))) h d (.frz ob (.dK kvs)):=by
 refine ⟨e1,k.stay (fun _ _ _ r=>r) (fun c r=>?_) fun c xs r=>?_⟩
 ·rw [aC (iu r e (fun z=>nomatch z))]; exact r
 ·rw [aC (iu r e (fun z=>nomatch z))]; exact r
theorem J9 {P:Program} {w:World} {H:Hp} {h:Heap} {d:Addr} {ob:Obj} {kvs:List (Key×V)} (e:H d=some (.frz ob (.dK kvs))) (k:ObjOk P w H h d (.frz ob (.dK kvs))):ObjOk P w (upd H d (.dK kvs)) h d (.dK kvs):=by
 obtain ⟨_,k⟩:=k
 refine (show ObjOk P w H h d (.dK kvs) from k).stay (fun _ _ _ r=>r) (fun c r=>?_) fun c xs r=>?_
 ·rw [aC (iu r e (fun z=>nomatch z))]; exact r
 ·rw [aC (iu r e (fun z=>nomatch z))]; exact r
theorem Inv.thawK {pins:List (Addr×Obj)} {σ:St} {H:Hp} {s:Shared} {d:Addr} {ob:Obj} {kvs:List (Key×V)} (I:Inv X pins σ H s) (n:nU X d) (e:H d=some (.frz ob (.dK kvs))):Inv X pins σ (upd H d (.dK kvs)) s :=
 I.shift e (fun _ z=>nomatch z) (fun _ z=>nomatch z) (fun _ z=>nomatch z) n (J9 e (I.hok d _ e))
theorem pK {l:Expr} {tl:TE} (hl:PE X l tl):PI X tg l (vB (nU X) tl):=by
 intro pins s σ H R I h
 refine thn (hl pins s σ H _ I h) fun v s1 ⟨x,H1,I1,r1,q1⟩=>?_
 obtain ⟨d,kvs,e,hd,q⟩:=q1
 subst e
 cases r1
 have k:=I1.hok d _ hd
 obtain ⟨z,y,vs,rp,ob,es,ep,a1,a2,a3,a4,a5,a6⟩:=(show ObjOk X.prog X.w H1 s1.heap d (.dK kvs) from k)
 have hv:es.toList.length=vs.length:=pairs_len a5
 rw [Py] at hv
 have hz:es.size=kvs.length:=by rw [hv,Paired.length rp]
 have nf:nU X d:=fun o u z=>by
  have:=I1.base.frzs d o u z
  rw [hd] at this
  cases this
 have I2:=I1.shift hd (fun _ z=>nomatch z) (fun _ z=>nomatch z) (fun _ z=>nomatch z) nf (K7 hd k a1)
 refine tY y a1 a2 a3 ?_
 refine ⟨s1.heap.objs.size,[s1.heap.objs.size],_,_,_,rfl,I2.kept (t':=s1.toks) fun b o e=>Nk _ e,yx a3 hz,⟨_,NQ _ rfl,rfl,rfl⟩,fun b hb=>?_,q ob nf⟩
 have e:b=s1.heap.objs.size:=by simpa using hb
 subst e
 exact I2.fpOk (Nu _) (I2.hok.fresh (Nu _))
theorem Ae {iter:Expr} {body:List Stmt} {td:TE} {g:TG} {tb:TS} {pos:Pos} (hp:PassesOwn (model X.prog X.w) X.A X.env X.xe) (hc:X.calm=true) (hi:PE X iter td) (hg:PG X tg g) (hb:PSs X body tb)
  (hs:∀ x,foldedSetIterable iter X.env x=pure x:=by intro _; rfl):PS X (.For tg iter body [] pos) (Ly td g tb):=by
 intro pins s σ H D I h
 refine thn (cj hp hc (pK hi) hg hb hs pins s σ H _ I (h (nU X))) fun f s' q=>?_
 cases f with
 | next=>obtain ⟨σ',H',I',d,ob,kvs,n,e,q⟩:=q; exact ⟨σ',_,I'.thawK n e,q⟩
 | brk=>obtain ⟨σ',H',I',d,ob,kvs,n,e,q⟩:=q; exact ⟨σ',_,I'.thawK n e,q⟩
 | cont=>obtain ⟨σ',H',I',d,ob,kvs,n,e,q⟩:=q; exact ⟨σ',_,I'.thawK n e,q⟩
 | ret v=>obtain ⟨x',σ',H',I',r,d,ob,kvs,n,e,q⟩:=q; exact ⟨x',σ',_,I'.thawK n e,r,q⟩
end
theorem uo {d:Addr} {ob:Obj} {kvs:List (Key×V)} {g:TG} {tb:TS} {D:Ends} {σ:St} {H:Hp} (Pv:Nat->St->Hp->Prop) (h0:Pv 0 σ H) (hl:∀ i σ H,i<=kvs.length->Pv i σ H->H d=some (.frz ob (.dK kvs)))
  (hs:∀ i k x σ H,kvs[i]?=some (k,x)->Pv i σ H->g (kV k) σ H fun σ2 H2=>tb { D with nx:=Pv (i+1),ct:=Pv (i+1),bk:=D.nx } σ2 H2) (hd:∀ σ H,Pv kvs.length σ H->D.nx σ H) :
  ∃ W:Nat->Nat->St->Hp->Prop,(∃ m,W 0 m σ H)/\∀ i m σ H,W i m σ H ->
   ((ItK d ob kvs).stop i H/\D.nx σ H)∨((ItK d ob kvs).go i H/\∃ N:St->Hp->Prop,(∀ σ' H',N σ' H'->∃ m',m'<m/\W (i+1) m' σ' H')/\∀ x H',(ItK d ob kvs).yld i H x H'->g x σ H' fun σ2 H2=>tb { D with nx:=N,ct:=N,bk:=D.nx } σ2 H2):=by
 refine ⟨fun i m σ H=>m=kvs.length-i/\i<=kvs.length/\Pv i σ H,⟨kvs.length,by simp,OD _,h0⟩,?_⟩
 rintro i m σ H ⟨rfl,hi,p⟩
 have q:=hl i σ H hi p
 by_cases hlt:i<kvs.length
 ·refine .inr ⟨⟨q,hlt⟩,Pv (i+1),fun σ' H' p'=>⟨kvs.length-(i+1),by omega,rfl,hlt,p'⟩,?_⟩
  rintro v H' ⟨rfl,k,x,ek,rfl⟩
  exact hs i k x σ _ ek p
 ·have e:i=kvs.length:=by omega
  subst e
  exact .inl ⟨⟨q,Nu _⟩,hd σ H p⟩
section
variable {X:Cx}
def K9 (td:TE) (tt:TT) (te:TE):TE:=fun σ H Q=>∀ Ok:Addr->Prop,zP (vB Ok td) tt te σ H fun v H2=>∃ d ob kvs,Ok d/\H2 d=some (.frz ob (.dK kvs))/\Q v (upd H2 d (.dK kvs))
theorem Cy {elt iter:Expr} {x:Str} {px:Pos} {ifs:List Expr} {scope:Scope} {pos:Pos} {td:TE} {tt:TT} {te:TE} (N:List Str) (fs:Scope) (hcalm:X.calm=true) (ok:nP N fs scope x=true) (hN:(N++[x]).Nodup) (hi:PE X iter td)
  (ht:∀ cl C fp s₀ H₀,PTs (cU X x scope cl C fp s₀ H₀) ifs tt) (he:∀ cl C fp s₀ H₀,PE (cU X x scope cl C fp s₀ H₀) elt te)
  (hs:∀ x,foldedSetIterable iter X.env x=pure x:=by intro _; rfl) (eN:X.N=N:=by rfl) (eS:X.env.scope=fs:=by rfl):PE X (.ListComp elt [⟨.Name x px,iter,ifs,0⟩] scope pos) (K9 td tt te):=by
 intro pins s σ H Q I h
 refine thn (ju N fs hcalm ok hN (pK hi) ht he hs eN eS pins s σ H _ I (h (nU X))) fun v s' ⟨y,H',I',r,d,ob,kvs,n,e,q⟩=>⟨y,_,I'.thawK n e,r,q⟩
def Ck (i:Nat) (td:TE) (tt:TT) (te:TE):TS:=fun D σ H=>∀ Ok:Addr->Prop,tAsg (zP (vB Ok td) tt te) (kY i) (thawK Ok D) σ H
theorem wV {i:Nat} {y:Str} {py spos:Pos} {elt iter:Expr} {x:Str} {px:Pos} {ifs:List Expr} {scope:Scope} {pos:Pos} {td:TE} {tt:TT} {te:TE} (N:List Str) (fs:Scope) (hcalm:X.calm=true) (ok:nP N fs scope x=true) (hN:(N++[x]).Nodup) (hi:PE X iter td)
  (ht:∀ cl C fp s₀ H₀,PTs (cU X x scope cl C fp s₀ H₀) ifs tt) (he:∀ cl C fp s₀ H₀,PE (cU X x scope cl C fp s₀ H₀) elt te) (hy:X.N[i]?=some y) (hyl:Loc X.env.scope y)
  (hsw:swapsWith (.ListComp elt [⟨.Name x px,iter,ifs,0⟩] scope pos) (some (.Name y py)) spos.line X.env=pure true:=by rfl)
  (hs:∀ x,foldedSetIterable iter X.env x=pure x:=by intro _; rfl) (hf:X.fn y=true∨X.env.scope.names.lookup y=some .local:=by first | exact .inl rfl | exact .inr rfl | assumption) (eN:X.N=N:=by rfl) (eS:X.env.scope=fs:=by rfl) :
  PS X (.Assign [.Name y py] (.ListComp elt [⟨.Name x px,iter,ifs,0⟩] scope pos) spos) (Ck i td tt te):=by
 intro pins s σ H D I h
 refine thn (qb N fs hcalm ok hN (pK hi) ht he hy hyl hsw hs hf eN eS pins s σ H _ I (h (nU X))) fun f s' q=>?_
 cases f with
 | next=>obtain ⟨σ',H',I',d,ob,kvs,n,e,q⟩:=q; exact ⟨σ',_,I'.thawK n e,q⟩
 | brk=>obtain ⟨σ',H',I',d,ob,kvs,n,e,q⟩:=q; exact ⟨σ',_,I'.thawK n e,q⟩
 | cont=>obtain ⟨σ',H',I',d,ob,kvs,n,e,q⟩:=q; exact ⟨σ',_,I'.thawK n e,q⟩
 | ret v=>obtain ⟨x',σ',H',I',r,d,ob,kvs,n,e,q⟩:=q; exact ⟨x',σ',_,I'.thawK n e,r,q⟩
end
theorem rA {d:Addr} {ob:Obj} {kvs:List (Key×V)} {tt:TT} {te:TE} {fin:List V->Hp->Prop} {σ:St} {H:Hp} (Pv:Nat->List V->Hp->Prop) (hz:kvs.length<=sizeLine) (h0:Pv 0 [] H) (hl:∀ i ys H,i<=kvs.length->Pv i ys H->H d=some (.frz ob (.dK kvs))/\ys.length<=i)
  (hs:∀ i k x ys H,kvs[i]?=some (k,x)->Pv i ys H->∀ (KY:V->Hp->Prop) (KN:Hp->Prop),(∀ y H3,Pv (i+1) (ys++[y]) H3->KY y H3)->(∀ H3,Pv (i+1) ys H3->KN H3)->tt (σ++[some (kV k)]) H fun b H2=>if b=true then te (σ++[some (kV k)]) H2 KY else KN H2)
  (hd:∀ ys H,Pv kvs.length ys H->fin ys H):j4 (ItK d ob kvs) tt te fin σ H:=by
 refine ⟨fun i m ys H=>m=kvs.length-i/\i<=kvs.length/\Pv i ys H,⟨kvs.length,by simp,OD _,h0⟩,?_⟩
 rintro i m ys H ⟨rfl,hi,p⟩
 obtain ⟨q,hy⟩:=hl i ys H hi p
 by_cases hlt:i<kvs.length
 ·refine .inr ⟨⟨q,hlt⟩,?_⟩
  rintro v H' ⟨rfl,k,x,ek,rfl⟩
  exact hs i k x ys _ ek p _ _ (fun z H3 p3=>⟨by omega,kvs.length-(i+1),by omega,rfl,hlt,p3⟩) fun H3 p3=>⟨kvs.length-(i+1),by omega,rfl,hlt,p3⟩
 ·have e:i=kvs.length:=by omega
  subst e
  exact .inl ⟨⟨q,Nu _⟩,hd ys H p⟩
end L2
namespace L2
open PySem
theorem Dh {H:Hp} {p:Addr} (h:H p=none) (o:HO):Same H (upd H p o):=fun b u q=>by rw [aC (bZ q h)]; exact q
theorem o9 {H H':Hp} {p:Addr} (hp:H p=none) (g:Same H H') (o:HO):Same H (upd H' p o):=fun b u e=>by rw [aC (bZ e hp)]; exact g b u e
theorem m6 {α β:Type} {R:α->β->Prop}:∀ {l:List α} {m:List β} {l':List α} {m':List β},Paired R l m->Paired R l' m'->Paired R (l++l') (m++m')
 | _,_,_,_,.nil,h=>h
 | _,_,_,_,.cons r t,h=>.cons r (m6 t h)
theorem Gd {α:Type} {b:α}:∀ {l:List α} {i:Nat},l.Nodup->b∉l->(l.set i b).Nodup
 | [],_,_,_=>Qu
 | a::l,0,h,hb=>Od.mpr ⟨fun z=>hb (Nt _ z),(Od.mp h).2⟩
 | a::l,i+1,h,hb=>by
  obtain ⟨h1,h2⟩:=Od.mp h
  refine Od.mpr ⟨fun z=>?_,Gd h2 fun z=>hb (Nt _ z)⟩
  rcases RK z with z | z
  ·exact h1 z
  ·exact hb (by rw [z]; exact Ny)
def uK (L:List (Int×Addr)):List (Key×V):=L.map fun u=>(Sum.inl u.1,V.ref u.2)
theorem mH {n:Int}:∀ {L:List (Int×Addr)},n∉L.map (·.1)->valV (uK L) (Sum.inl n:Key)=none
 | [],_=>rfl
 | u::L,h=>by
  have h1:¬ (Sum.inl u.1:Key)=Sum.inl n:=fun e=>h (by cases e; exact Ny)
  exact (cA (p:=((Sum.inl u.1:Key),V.ref u.2)) h1).trans (mH fun z=>h (Nt _ z))
theorem jZ {n:Int} {a:Addr}:∀ {L:List (Int×Addr)} {i:Nat},(L.map (·.1)).Nodup->L[i]?=some (n,a)->valV (uK L) (Sum.inl n:Key)=some (.ref a)
 | u::L,0,_,e=>by
  cases e
  exact cT (p:=((Sum.inl n:Key),V.ref a)) rfl
 | u::L,i+1,nd,e=>by
  have nd:(u.1::L.map (·.1)).Nodup:=nd
  obtain ⟨h1,h2⟩:=Od.mp nd
  have hm:n∈L.map (·.1):=Oq.mpr ⟨(n,a),Nv (by simpa using e),rfl⟩
  have h3:¬ (Sum.inl u.1:Key)=Sum.inl n:=fun z=>by
   have:u.1=n:=Sum.inl.inj z
   exact h1 (by rw [this]; exact hm)
  exact (cA (p:=((Sum.inl u.1:Key),V.ref u.2)) h3).trans (jZ h2 (by simpa using e))
theorem Fw (L M:List (Int×Addr)):uK (L++M)=uK L++uK M:=NK ..
theorem tG {n:Int} {b:Addr}:∀ {L:List (Int×Addr)},n∉L.map (·.1)->(uK L).map (fun kv=>if kv.1=(Sum.inl n:Key) then (kv.1,V.ref b) else kv)=uK L
 | [],_=>rfl
 | u::L,h=>by
  have h1:¬ (Sum.inl u.1:Key)=Sum.inl n:=fun e=>h (by cases e; exact Ny)
  show (if (Sum.inl u.1:Key)=Sum.inl n then _ else ((Sum.inl u.1:Key),V.ref u.2))::(uK L).map _=((Sum.inl u.1:Key),V.ref u.2)::uK L
  rw [if_neg h1,tG fun z=>h (Nt _ z)]
theorem Dj {n:Int} {a b:Addr}:∀ {L:List (Int×Addr)} {i:Nat},(L.map (·.1)).Nodup->L[i]?=some (n,a)->(uK L).map (fun kv=>if kv.1=(Sum.inl n:Key) then (kv.1,V.ref b) else kv)=uK (L.set i (n,b))
 | u::L,0,nd,e=>by
  cases e
  have nd:(n::L.map (·.1)).Nodup:=nd
  show (if (Sum.inl n:Key)=Sum.inl n then ((Sum.inl n:Key),V.ref b) else _)::(uK L).map _=((Sum.inl n:Key),V.ref b)::uK L
  rw [if_pos rfl,tG (Od.mp nd).1]
 | u::L,i+1,nd,e=>by
  have nd:(u.1::L.map (·.1)).Nodup:=nd
  obtain ⟨h1,h2⟩:=Od.mp nd
  have hm:n∈L.map (·.1):=Oq.mpr ⟨(n,a),Nv (by simpa using e),rfl⟩
  have h3:¬ (Sum.inl u.1:Key)=Sum.inl n:=fun z=>by
   have:u.1=n:=Sum.inl.inj z
   exact h1 (by rw [this]; exact hm)
  show (if (Sum.inl u.1:Key)=Sum.inl n then _ else ((Sum.inl u.1:Key),V.ref u.2))::(uK L).map _=((Sum.inl u.1:Key),V.ref u.2)::uK (L.set i (n,b))
  rw [if_neg h3,Dj h2 (by simpa using e)]
theorem Kq {n:Int} {a b:Addr} {L:List (Int×Addr)} {i:Nat} (nd:(L.map (·.1)).Nodup) (e:L[i]?=some (n,a)):putK (uK L) (Sum.inl n:Key) (.ref b)=uK (L.set i (n,b)):=by
 unfold putK
 rw [jd,jZ nd e,if_pos (show (some (V.ref a)).isSome=true from rfl),Dj nd e]
structure Ul (H0 H:Hp) (r:Addr) (L:List (Int×Addr)) (C:List (List Int)):Prop where
 same:Same H0 H
 hr:H r=some (.dK (uK L))
 lv:Paired (fun (u:Int×Addr) (c:List Int)=>H u.2=some (.lst (c.map V.int))) L C
 nk:(L.map (·.1)).Nodup
 na:(L.map (·.2)).Nodup
 nr:∀ u∈L,u.2≠r
 fr:H0 r=none
 fl:∀ u∈L,H0 u.2=none
theorem Ul.keep {H0 H H':Hp} {r:Addr} {L:List (Int×Addr)} {C:List (List Int)} (h:Ul H0 H r L C) (g:Same H H'):Ul H0 H' r L C :=
 ⟨h.same.trans g,g _ _ h.hr,Paired.mapP h.lv fun _ _ z=>g _ _ z,h.nk,h.na,h.nr,h.fr,h.fl⟩
theorem fQ {H:Hp} {x:Addr} {o:HO}:∀ {L:List (Int×Addr)} {C:List (List Int)},Paired (fun (u:Int×Addr) (c:List Int)=>H u.2=some (.lst (c.map V.int))) L C->(∀ u∈L,u.2≠x)->Paired (fun (u:Int×Addr) (c:List Int)=>upd H x o u.2=some (.lst (c.map V.int))) L C
 | _,_,.nil,_=>.nil
 | _,_,.cons h t,n=>.cons (by rw [aC (n _ Ny)]; exact h) (fQ t fun u hu=>n u (Nt _ hu))
theorem Ul.put {H0 H:Hp} {r l:Addr} {L:List (Int×Addr)} {C:List (List Int)} {n:Int} (h:Ul H0 H r L C) (hl:H l=none) (hn:n∉L.map (·.1)):Ul H0 (upd (upd H l (.lst [])) r (.dK (putK (uK L) (Sum.inl n:Key) (.ref l)))) r (L++[(n,l)]) (C++[[]]):=by
 have nlr:l≠r:=fun z=>by rw [z,h.hr] at hl; cases hl
 have hl0:H0 l=none:=h.same.free hl
 have nl:∀ u∈L,u.2≠l:=fun u hu z=>by
  obtain ⟨i,hi⟩:=Og hu
  obtain ⟨c,_,hc⟩:=bQ h.lv hi
  rw [z,hl] at hc
  cases hc
 refine ⟨o9 h.fr (h.same.trans (Dh hl _)) _,?_,?_,?_,?_,?_,h.fr,?_⟩
 ·rw [ak,jE _ (mH hn),Fw]
  rfl
 ·refine m6 (fQ (fQ h.lv nl) h.nr) (.cons ?_ .nil)
  rw [aC nlr,ak]
  rfl
 ·rw [NK]
  refine O4.mpr ⟨h.nk,by simp,fun a ha b hb e=>?_⟩
  have hb:b=n:=by simpa using hb
  exact hn (by rw [<- hb,<- e]; exact ha)
 ·rw [NK]
  refine O4.mpr ⟨h.na,by simp,fun a ha b hb e=>?_⟩
  have hb:b=l:=by simpa using hb
  obtain ⟨u,hu,rfl⟩:=Oq.mp ha
  exact nl u hu (e.trans hb)
 ·intro u hu
  rcases Nz.mp hu with z | z
  ·exact h.nr u z
  ·rw [Nq.mp z]; exact nlr
 ·intro u hu
  rcases Nz.mp hu with z | z
  ·exact h.fl u z
  ·rw [Nq.mp z]; exact hl0
theorem pZ {H:Hp} {o:List Int}:∀ {L:List (Int×Addr)} {C:List (List Int)} {i:Nat} {n:Int} {a:Addr},Paired (fun (u:Int×Addr) (c:List Int)=>H u.2=some (.lst (c.map V.int))) L C->(L.map (·.2)).Nodup->L[i]?=some (n,a)->Paired (fun (u:Int×Addr) (c:List Int)=>upd H a (.lst (o.map V.int)) u.2=some (.lst (c.map V.int))) L (C.set i o)
 | _,_,0,n,a,.cons h t,nd,e=>by
  cases e
  obtain ⟨h1,_⟩:=Od.mp (show (a::_).Nodup from nd)
  exact .cons ak (fQ t fun u hu z=>h1 (Oq.mpr ⟨u,hu,z⟩))
 | _,_,i+1,n,a,.cons (a:=u) h t,nd,e=>by
  obtain ⟨h1,h2⟩:=Od.mp (show (u.2::_).Nodup from nd)
  have e':=e
  rw [Ql] at e'
  refine .cons ?_ (pZ t h2 e')
  rw [aC fun z=>h1 (Oq.mpr ⟨(n,a),Nv e',z.symm⟩)]
  exact h
theorem Ul.ext {H0 H:Hp} {r a:Addr} {L:List (Int×Addr)} {C:List (List Int)} {i:Nat} {n:Int} {o:List Int} (h:Ul H0 H r L C) (e:L[i]?=some (n,a)):Ul H0 (upd H a (.lst (o.map V.int))) r L (C.set i o):=by
 have hm:=Nv e
 exact ⟨o9 (h.fl _ hm) h.same _,by rw [aC (h.nr _ hm).symm]; exact h.hr,pZ h.lv h.na e,h.nk,h.na,h.nr,h.fr,h.fl⟩
theorem rm {n:Int} {a b:Addr}:∀ {L:List (Int×Addr)} {i:Nat},L[i]?=some (n,a)->(L.set i (n,b)).map (·.1)=L.map (·.1)
 | _::_,0,e=>by cases e; rfl
 | u::L,i+1,e=>by
  rw [Ql] at e
  show u.1::(L.set i (n,b)).map (·.1)=u.1::L.map (·.1)
  rw [rm e]
theorem rG {H:Hp} {o:List Int} {n:Int} {b:Addr} (hb:H b=some (.lst (o.map V.int))):∀ {L:List (Int×Addr)} {C:List (List Int)} {i:Nat},Paired (fun (u:Int×Addr) (c:List Int)=>H u.2=some (.lst (c.map V.int))) L C->i<L.length->Paired (fun (u:Int×Addr) (c:List Int)=>H u.2=some (.lst (c.map V.int))) (L.set i (n,b)) (C.set i o)
 | _,_,0,.cons h t,_=>.cons hb t
 | _,_,i+1,.cons h t,hi=>.cons h (rG hb t (by simpa using hi))
theorem Ul.repl {H0 H H1:Hp} {r a b:Addr} {L:List (Int×Addr)} {C:List (List Int)} {i:Nat} {n:Int} {o:List Int} (h:Ul H0 H r L C) (g:Same H H1) (e:L[i]?=some (n,a)) (hb:H b=none) (hb1:H1 b=some (.lst (o.map V.int))):Ul H0 (upd H1 r (.dK (putK (uK L) (Sum.inl n:Key) (.ref b)))) r (L.set i (n,b)) (C.set i o):=by
 have h1:=h.keep g
 have nbr:b≠r:=fun z=>by rw [z,h.hr] at hb; cases hb
 have hi:=(Nj.mp e).1
 have nb:∀ u∈L,u.2≠b:=fun u hu z=>by
  obtain ⟨j,hj⟩:=Og hu
  obtain ⟨c,_,hc⟩:=bQ h.lv hj
  rw [z,hb] at hc
  cases hc
 have hs:∀ u∈L.set i (n,b),u∈L∨u=(n,b):=fun u hu=>(RK hu)
 refine ⟨o9 h.fr h1.same _,by rw [ak,Kq h.nk e],?_,by rw [rm e]; exact h.nk,?_,?_,h.fr,?_⟩
 ·refine fQ (rG hb1 h1.lv hi) fun u hu=>?_
  rcases hs u hu with z | z
  ·exact h.nr u z
  ·rw [z]; exact nbr
 ·have hset:(L.set i (n,b)).map (·.2)=(L.map (·.2)).set i b:=List.map_set ..
  rw [hset]
  refine Gd h.na fun z=>?_
  obtain ⟨u,hu,e2⟩:=Oq.mp z
  exact nb u hu e2
 ·intro u hu
  rcases hs u hu with z | z
  ·exact h.nr u z
  ·rw [z]; exact nbr
 ·intro u hu
  rcases hs u hu with z | z
  ·exact h.fl u z
  ·rw [z]; exact h.same.free hb
theorem Ul.start {H0 H:Hp} {r:Addr} (g:Same H0 H) (hr:H r=none):Ul H0 (upd H r (.dK [])) r [] [] :=
 ⟨g.trans (Dh hr _),ak,.nil,Qu,Qu,(fun _ z=>by cases z),g.free hr,(fun _ z=>by cases z)⟩
end L2
namespace L2
open PySem PySem.Spec PySem.W PyProof.Rows
section
variable {X:Cx}
theorem j7:CallR X (.builtin "len") (fun xs H Q=>∃ (a:Addr) (kvs:List (Key×V)),xs=[V.ref a]/\Rd H a (.dK kvs)/\Q (.int kvs.length) H):=by
 intro pins s σ H xs us Q I r h
 obtain ⟨a,kvs,rfl,ha,q⟩:=h
 obtain ⟨u,rfl,ru⟩:=vals1 r
 cases ru
 exact Ms I ha fun t s' I'=>⟨.int kvs.length,H,I',⟨t,rfl⟩,q⟩
end
theorem Ul.putC {H0 H H1:Hp} {r l:Addr} {L:List (Int×Addr)} {C:List (List Int)} {n:Int} {c:List Int} (h:Ul H0 H r L C) (g:Same H H1) (hl:H l=none) (hl1:H1 l=some (.lst (c.map V.int))) (hn:n∉L.map (·.1)):Ul H0 (upd H1 r (.dK (putK (uK L) (Sum.inl n:Key) (.ref l)))) r (L++[(n,l)]) (C++[c]):=by
 have h1:=h.keep g
 have nlr:l≠r:=fun z=>by rw [z,h.hr] at hl; cases hl
 have hl0:H0 l=none:=h.same.free hl
 have nl:∀ u∈L,u.2≠l:=fun u hu z=>by
  obtain ⟨i,hi⟩:=Og hu
  obtain ⟨c,_,hc⟩:=bQ h.lv hi
  rw [z,hl] at hc
  cases hc
 refine ⟨o9 h.fr h1.same _,?_,?_,?_,?_,?_,h.fr,?_⟩
 ·rw [ak,jE _ (mH hn),Fw]
  rfl
 ·refine m6 (fQ h1.lv h.nr) (.cons ?_ .nil)
  rw [aC nlr]
  exact hl1
 ·rw [NK]
  refine O4.mpr ⟨h.nk,by simp,fun a ha b hb e=>?_⟩
  have hb:b=n:=by simpa using hb
  exact hn (by rw [<- hb,<- e]; exact ha)
 ·rw [NK]
  refine O4.mpr ⟨h.na,by simp,fun a ha b hb e=>?_⟩
  have hb:b=l:=by simpa using hb
  obtain ⟨u,hu,rfl⟩:=Oq.mp ha
  exact nl u hu (e.trans hb)
 ·intro u hu
  rcases Nz.mp hu with z | z
  ·exact h.nr u z
  ·rw [Nq.mp z]; exact nlr
 ·intro u hu
  rcases Nz.mp hu with z | z
  ·exact h.fl u z
  ·rw [Nq.mp z]; exact hl0
structure Dl (H:Hp) (r:Addr) (L:List (Int×Addr)) (C:List (List Int)):Prop where
 hr:H r=some (.dK (uK L))
 lv:Paired (fun (u:Int×Addr) (c:List Int)=>H u.2=some (.lst (c.map V.int))) L C
 nk:(L.map (·.1)).Nodup
theorem Dl.keep {H H':Hp} {r:Addr} {L:List (Int×Addr)} {C:List (List Int)} (h:Dl H r L C) (g:Same H H'):Dl H' r L C:=⟨g _ _ h.hr,Paired.mapP h.lv fun _ _ z=>g _ _ z,h.nk⟩
theorem Ul.dl {H0 H:Hp} {r:Addr} {L:List (Int×Addr)} {C:List (List Int)} (h:Ul H0 H r L C):Dl H r L C:=⟨h.hr,h.lv,h.nk⟩
theorem zm {L:List (Int×Addr)} {i:Nat} {k:Key} {x:V} (h:(uK L)[i]?=some (k,x)):∃ n a,L[i]?=some (n,a)/\k=Sum.inl n/\x=.ref a:=by
 unfold uK at h
 rw [NP] at h
 cases e:L[i]? with
 | none=>rw [e] at h; cases h
 | some u =>
  rw [e] at h
  obtain ⟨n,a⟩:=u
  cases h
  exact ⟨n,a,rfl,rfl,rfl⟩
theorem yp {K:Nh} {a:Addr} {xs:List V} {tt:TT} {te:TE} {fin:List V->Hp->Prop} {σ:St} {H:Hp} (Pv:Nat->List V->Hp->Prop) (hz:xs.length<=sizeLine) (h0:Pv 0 [] H) (hl:∀ i ys H,i<=xs.length->Pv i ys H->SqL K H a xs/\ys.length<=i)
  (hs:∀ i x ys H,xs[i]?=some x->Pv i ys H->∀ (KY:V->Hp->Prop) (KN:Hp->Prop),(∀ y H3,Pv (i+1) (ys++[y]) H3->KY y H3)->(∀ H3,Pv (i+1) ys H3->KN H3)->tt (σ++[some x]) H fun b H2=>if b=true then te (σ++[some x]) H2 KY else KN H2)
  (hd:∀ ys H,Pv xs.length ys H->fin ys H):j4 (Itl K a) tt te fin σ H:=by
 refine ⟨fun i m ys H=>m=xs.length-i/\i<=xs.length/\Pv i ys H,⟨xs.length,by simp,OD _,h0⟩,?_⟩
 rintro i m ys H ⟨rfl,hi,p⟩
 obtain ⟨q,hy⟩:=hl i ys H hi p
 by_cases hlt:i<xs.length
 ·refine .inr ⟨⟨xs,xs[i],q,by simp [hlt]⟩,fun x H' y=>?_⟩
  obtain ⟨e,y⟩:=y
  subst e
  exact hs i x ys _ (y xs q) p _ _ (fun z H3 p3=>⟨by omega,xs.length-(i+1),by omega,rfl,hlt,p3⟩) fun H3 p3=>⟨xs.length-(i+1),by omega,rfl,hlt,p3⟩
 ·have e:i=xs.length:=by omega
  subst e
  exact .inl ⟨⟨xs,q,Nu _⟩,hd ys H p⟩
theorem xJ {K:Nh} {a:Addr} {xs:List V} {te:TE} {fin:List V->Hp->Prop} {σ:St} {H:Hp} (Pv:Nat->List V->Hp->Prop) (hz:xs.length<=sizeLine) (h0:Pv 0 [] H) (hl:∀ i ys H,i<=xs.length->Pv i ys H->SqL K H a xs/\ys.length<=i)
  (hs:∀ i x ys H,xs[i]?=some x->Pv i ys H->∀ (KY:V->Hp->Prop),(∀ y H3,Pv (i+1) (ys++[y]) H3->KY y H3)->te (σ++[some x]) H KY)
  (hd:∀ ys H,Pv xs.length ys H->fin ys H):j4 (Itl K a) tYes te fin σ H :=
 yp Pv hz h0 hl (fun i x ys H hx p KY KN k1 _=>by
  unfold tYes
  dsimp only
  rw [if_pos rfl]
  exact hs i x ys H hx p KY k1) hd
end L2
namespace D
open PySem L2
abbrev oneS (d:Nat):Str:=⟨#[d]⟩
theorem pF {c:TT} {t u:TS} {D:Ends} {σ:St} {H:Hp} (b:Bool) (M:St->Hp->Prop) (hc:∀ Q:Bool->Hp->Prop,Q b H->c σ H Q) (ht:b=true->∀ Nx:Ends,(∀ σ' H',M σ' H'->Nx.nx σ' H')->t Nx σ H) (hf:b=false->M σ H) (hn:∀ σ' H',M σ' H'->u D σ' H'):tSeq (tIfS c t oh) u D σ H :=
 pC (t:=t) (u:=oh) (D:={ D with nx:=u D }) b hc (fun z=>ht z _ hn) (fun z=>hn _ _ (hf z))
theorem ix62 {i:Int} {H:Hp} {Q:VK} (h0:0<=i) (h1:i<62) (q:∀ d,good d=true->Q (.str (oneS d)) H):rIxS (.str W62) (.int i) H Q:=by
 have hk:i.toNat<W62.cps.toList.length:=by rw [show W62.cps.toList.length=62 by decide +kernel]; omega
 have ek:i=((i.toNat:Nat):Int):=by omega
 have hd:=Nr hk
 have q2:=dh hd
 rw [<- ek] at q2
 exact ⟨_,_,_,rfl,rfl,(by decide +kernel),q2,q _ (PJ.mp Fg _ (Qm hk))⟩
def mQ:Sp:=fun vs H Q _=>∃ c k:Int,vs=[.int c,.int k]/\0<=k/\k<=1000/\∀ (xs:List Int) r H',Same H H'->H r=none->H' r=some (.lst (xs.map V.int))->xs.length=k.toNat->(∀ x∈xs,0<=x)->Q (.ref r) H'
def Ah (K:Nh):Sp:=fun vs H Q _=>∃ (a:Addr) (ns:List Int),vs=[.ref a]/\SqL K H a (ns.map V.int)/\ns.length<=63/\∀ (ws:List Str) r H',Same H H'->H' r=some (.lst (ws.map V.str))->H r=none->ws.length=10->(∀ x∈ws,Wd x)->Q (.ref r) H'
section
variable {P:Program} {w:World} {K:Nh} {mg:Str->Option Value} {base:Heap} {f:Addr} {fd:FuncData}
theorem iY:FnScope ["_law_cell_here","_law_many","_law_xs","_law_number_here","_law_k"] ["_law_cell_here","_law_many"] (aA fU):=⟨rfl,rfl,rfl,by decide +kernel,rfl,by decide +kernel,by decide +kernel⟩
set_option maxHeartbeats 4000000 in
theorem Bv (F:Fun K "_law_stream" "_law_stream" fU f fd) (T:Nm mg):FnOk P w K mg base CX0 2 f fd ["_law_cell_here","_law_many"] mQ:=by
 refine F.ok iY (fun vs H Q E h=>?_) (fun cdv A outer s H vs Q E hr h=>?_)
 ·obtain ⟨c,k,rfl,_⟩:=h
  rfl
 obtain ⟨c,k,rfl,k0,k1,q⟩:=h
 refine ⟨_,ao (aF (i:=2) iY.nd rfl (Or.inl rfl) (cD aq))
  (ao (aF (i:=3) iY.nd rfl (Or.inl rfl) (aG dD (pv 0) au))
  (ao (cj PassesOwn.never rfl (iU rfl T.range (aj (pv 1) aq)) (aK (i:=4) iY.nd rfl (Or.inl rfl))
   (aD (bJ (aN eG (aG bw (pv 0) au) au (bD _))
    (ao (cC (dZ Ob Oh Oi bO (pv 2) (aj (aG bw (pv 3) (aG yJ au au)) aq)))
    (aD (aF (i:=3) iY.nd rfl (Or.inl rfl) (aG dD (pv 3) (aG yJ au au)))))
    (ao (aF (i:=3) iY.nd rfl (Or.inl rfl) (aG bw (aG bW (aG fZ (pv 3) au) au) au))
    (aD (cC (dZ Ob Oh Oi bO (pv 2) (aj (aG bw (aG fZ (pv 3) au) au) aq))))))))
  (aD (aU (pv 2))))),?_⟩
 have hb:=big
 refine ⟨(by show 0<=sizeLine; decide),fun r hr0=>?_⟩
 have g0:=aB hr0 (.lst [])
 refine ⟨_,rfl,_,_,rfl,rfl,⟨by decide,by decide⟩,_,rfl,k,rfl,by omega,by omega,?_⟩
 refine gb (lo:=0) (n:=k.toNat) (fun i σ' H'=>Same H H'/\∃ (x:Int) (xs:List Int) (u4:Option V),σ'=[some (.int c),some (.int k),some (.ref r),some (.int x),u4]/\H' r=some (.lst (xs.map V.int))/\xs.length=i/\∀ x∈xs,0<=x) ?_ ?_ ?_
 ·exact ⟨g0,_,[],_,rfl,ak,rfl,fun _ h=>nomatch h⟩
 ·rintro i σ' H1 hi ⟨g,x,xs,u4,rfl,hl,hxl,hx⟩
  have put:∀ y:Int,0<=y->∀ z∈xs++[y],0<=z:=fun y y0 z hz=>by
   rcases Nz.mp hz with k | k
   ·exact hx z k
   ·rw [Nq.mp k]; exact y0
  refine ⟨_,rfl,_,_,rfl,rfl,(by show (0:Int)<_; decide),rfl,_,rfl,?_⟩
  refine ite2 (fun _=>?_) (fun _=>?_)
  ·refine ⟨_,rfl,.inl ⟨rfl,_,SqL.of hl⟩,_,rfl,_,_,rfl,rfl,⟨by decide,by decide,by decide⟩,_,_,rfl,rfl,(by show (0:Int)<10 ^ (4:Int).toNat; decide),r,_,_,rfl,rfl,hl,by rw [Ng,hxl]; omega,?_⟩
   refine ⟨_,rfl,_,_,rfl,rfl,⟨by decide,by decide,by decide⟩,_,_,rfl,rfl,⟨by decide,by decide⟩,?_⟩
   exact ⟨aL hr0 g _,_,xs++[x % 10 ^ (4:Int).toNat],_,rfl,by rw [ak,NK] <;> rfl,by rw [Np,hxl] <;> rfl,put _ (Ol _ (by decide))⟩
  ·refine ⟨_,rfl,_,_,rfl,rfl,.inr ⟨by decide,by decide⟩,_,_,rfl,rfl,_,_,rfl,rfl,(by show (0:Int)<_; decide),?_⟩
   refine ⟨_,rfl,.inl ⟨rfl,_,SqL.of hl⟩,_,rfl,_,_,rfl,rfl,.inr ⟨by decide,by decide⟩,_,_,rfl,rfl,(by show (0:Int)<_; decide),r,_,_,rfl,rfl,hl,by rw [Ng,hxl]; omega,?_⟩
   exact ⟨aL hr0 g _,_,xs++[_],_,rfl,by rw [ak,NK] <;> rfl,by rw [Np,hxl] <;> rfl,put _ (Ol _ (by decide))⟩
 ·rintro σ' H1 ⟨g,x,xs,u4,rfl,hl,hxl,hx⟩
  exact ⟨_,rfl,q xs r H1 g hr0 hl hxl hx⟩
abbrev NMU:List Str:=["_law_script","_law_some","_law_cell_here","_law_size","_law_at","_law_signs","_law_menu_here","_law_k","_law_word","_law_j","_law_sign"]
theorem eX:FnScope NMU ["_law_script"] (aA iB):=⟨rfl,rfl,rfl,by decide +kernel,rfl,by decide +kernel,by decide +kernel⟩
set_option maxHeartbeats 8000000 in
theorem Fd (F:Fun K "_law_menu" "_law_menu" iB f fd) (T:Nm mg) (GC:Def P w K mg base CX0 1 "_law_cell" ["_law_script","_law_k"] (qM K)) (GS:Def P w K mg base CX0 2 "_law_stream" ["_law_cell_here","_law_many"] mQ):FnOk P w K mg base CX0 3 f fd ["_law_script"] (Ah K):=by
 refine F.ok eX (fun vs H Q E h=>?_) (fun cdv A outer s H vs Q E hr h=>?_)
 ·obtain ⟨a,ns,rfl,_⟩:=h
  rfl
 obtain ⟨a,ns,rfl,hS,h63,q⟩:=h
 refine ⟨_,ao (aF (i:=1) eX.nd rfl (Or.inl rfl) cJ)
  (ao (aF (i:=2) eX.nd rfl (Or.inl rfl) (aX GC (hr.mono (by decide)) (aj (pv 0) (aj au aq))))
  (ao (aF (i:=3) eX.nd rfl (Or.inl rfl) (aG bW au (aG bw (pv 2) au)))
  (ao (aF (i:=4) eX.nd rfl (Or.inl rfl) (aG bw (aG dD (pv 2) au) (pv 3)))
  (ao (qb (i:=5) NMU (aA iB) rfl (by decide +kernel) (by decide +kernel) (cu (aX GS hr (aj (aG dD (pv 2) au) (aj (pv 3) aq)))) (fun _ _ _ _ _=>mD) (fun _ _ _ _ _=>aG bw (pv 11) au) rfl (Or.inl rfl))
  (ao (aF (i:=6) eX.nd rfl (Or.inl rfl) (cD aq))
  (ao (cj PassesOwn.never rfl (iU rfl T.range (aj au aq)) (aK (i:=7) eX.nd rfl (Or.inl rfl))
   (ao (aF (i:=8) eX.nd rfl (Or.inl rfl) cJ)
   (ao (cj PassesOwn.never rfl (iU rfl T.range (aj (pv 3) aq)) (aK (i:=9) eX.nd rfl (Or.inl rfl))
    (ao (aF (i:=10) eX.nd rfl (Or.inl rfl) (aG bw (aG bW (aJ aZ (pv 5) (pv 9) (fun _ _=>rfl)) (aG fZ (aG fZ au (pv 7)) (eF sV rfl T.int Rt (aj (o8 eG (pv 9) (pv 4) (bD _)) aq)))) au))
    (ao (bJ (PW.pt (jT (aN eG (pv 9) (pv 4) (bD _)) (jx (aN eG (aG bw (pv 2) au) au (bD _)))))
     (aD (aF (i:=10) eX.nd rfl (Or.inl rfl) (aG bW (aG bw (aG bW (aJ aZ (pv 5) (pv 9) (fun _ _=>rfl)) (aG dD (pv 7) au)) au) (aG fZ (aG bw (pv 7) au) au)))) aR)
    (aD (aF (i:=8) eX.nd rfl (Or.inl rfl) (aG gQ (pv 8) (aJ yK (pv 1) (pv 10) (fun _ _=>rfl))))))))
   (aD (cC (dZ Ob Oh Oi bO (pv 6) (aj (pv 8) aq)))))))
  (aD (aU (aG xQ (pv 6) (cD (aj (aG gQ (aJ aZ (pv 6) au (fun _ _=>rfl)) (aJ yK (pv 1) (aJ aZ (pv 5) au (fun _ _=>rfl)) (fun _ _=>rfl))) (aj (aG gQ (aJ aZ (pv 6) au (fun _ _=>rfl)) (aJ yK (pv 1) (aG bw (aG bW (aJ aZ (pv 5) (jM gW au) (fun _ _=>rfl)) au) au) (fun _ _=>rfl))) aq)))))))))))),?_⟩
 have hb:=big
 refine ⟨_,rfl,a,ns,0,rfl,hS,h63,by decide,by decide,?_⟩
 generalize cZ ns 0=c
 have c0:0<=c % 19:=Ol _ (by decide)
 have c1:c % 19<19:=Oo _ (by decide)
 refine ⟨_,rfl,_,_,rfl,rfl,(by show (0:Int)<_; decide),_,_,rfl,rfl,?_⟩
 dsimp only
 generalize hn:1+c % 19=n
 have n0:1<=n:=by omega
 have n1:n<=19:=by omega
 clear c0 c1 hn
 refine ⟨_,rfl,_,_,rfl,rfl,⟨by decide,by decide⟩,_,rfl,_,_,rfl,rfl,(by show (0:Int)<n; omega),?_⟩
 dsimp only
 generalize c / 19 % n=at'
 refine ⟨_,rfl,_,_,rfl,rfl,⟨by decide,by decide⟩,_,rfl,_,n,rfl,by omega,by omega,fun ys yr Hy gy hyr eyr hyl hy0=>?_⟩
 refine ⟨yr,rfl,⟨_,SqL.of eyr⟩,?_⟩
 refine xJ (K:=K) (a:=yr) (xs:=ys.map V.int) (fun i zs H'=>H'=Hy/\zs=((ys.take i).map fun x=>x % 62).map V.int) (by rw [Ng]; omega) ⟨rfl,rfl⟩ (fun i zs H' hi h=>⟨by rw [h.1]; exact SqL.of eyr,by rw [h.2,Ng,Ng,Oc]; omega⟩) ?_ ?_
 ·rintro i x zs H' hi ⟨rfl,rfl⟩ KY k1
  rw [NP] at hi
  cases ex:ys[i]? with
  | none=>rw [ex] at hi; cases hi
  | some y =>
   rw [ex] at hi
   cases hi
   refine ⟨_,rfl,_,_,rfl,rfl,(by show (0:Int)<_; decide),k1 _ _ ⟨rfl,?_⟩⟩
   rw [Oe,ex,NK,NK]
   rfl
 rintro zs H1 ⟨rfl,rfl⟩ sr hsr0
 rw [Ng,Oa]
 obtain ⟨sg,esg,hsl,hsg⟩:∃ sg:List Int,ys.map (fun x=>x % 62)=sg/\sg.length=n.toNat/\∀ x∈sg,0<=x/\x<62:=by
  refine ⟨_,rfl,by rw [Ng,hyl],fun x hx=>?_⟩
  obtain ⟨y,_,rfl⟩:=Oq.mp hx
  exact ⟨Ol _ (by decide),Oo _ (by decide)⟩
 rw [esg]
 have gz:Same H (upd H1 sr (.lst (sg.map V.int))):=gy.trans (aB hsr0 _)
 have hsr:upd H1 sr (.lst (sg.map V.int)) sr=some (.lst (sg.map V.int)):=ak
 show (tSeq _ _:TS) _ _ (upd H1 sr (.lst (sg.map V.int)))
 generalize upd H1 sr (.lst (sg.map V.int))=H1 at gz hsr
 clear gy hyr eyr hyl hy0 esg
 refine ⟨(by show 0<=sizeLine; decide),fun r hr0=>?_⟩
 have g2:=aB hr0 (.lst [])
 have hrH:H r=none:=gz.free hr0
 have sgat:∀ j:Nat,j<n.toNat->∃ x,atI (sg.map V.int) ((j:Nat):Int)=some (.int x)/\0<=x/\x<62:=fun j hj=>by
  have hj2:j<sg.length:=by omega
  have hm:=hsg _ (Qm hj2)
  exact ⟨sg[j],dh (by rw [NP,Nr hj2] <;> rfl),hm.1,hm.2⟩
 refine ⟨8,rfl,by decide,by decide,?_⟩
 refine gb (lo:=0) (n:=(8:Int).toNat) (fun i σ' H'=>Same H1 H'/\∃ (ws:List Str) (u7 u9 u10 u11:Option V),σ'=[some (.ref a),some (.str W62),some (.int c),some (.int n),some (.int at'),some (.ref sr),some (.ref r),u7,u9,u10,u11]/\H' r=some (.lst (ws.map V.str))/\ws.length=i/\∀ z∈ws,1<=z.length/\z.length<=19/\allGood z) ?_ ?_ ?_
 ·exact ⟨g2,[],_,_,_,_,rfl,ak,rfl,fun _ h=>nomatch h⟩
 ·rintro i σ' H' hi ⟨g,ws,u7,u9,u10,u11,rfl,hlr,hwl,hws⟩
  have hi8:i<8:=hi
  have hsr':=g _ _ hsr
  refine ⟨_,rfl,n,rfl,by omega,by omega,?_⟩
  refine gb (lo:=0) (n:=n.toNat) (fun j σ2 H2=>H2=H'/\∃ (y:Str) (u10 u11:Option V),σ2=[some (.ref a),some (.str W62),some (.int c),some (.int n),some (.int at'),some (.ref sr),some (.ref r),some (.int (0+(i:Int))),some (.str y),u10,u11]/\y.length=j/\allGood y) ?_ ?_ ?_
  ·exact ⟨rfl,("":Str),_,_,rfl,by decide +kernel,by unfold allGood; decide +kernel⟩
  ·rintro j σ2 H2 hj ⟨rfl,y,v8,v9,rfl,hy,gy⟩
   have ej:(0:Int)+(j:Int)=((j:Nat):Int):=by omega
   obtain ⟨Y,hYa,hY0,hY1⟩:=sgat j hj
   rw [<- ej] at hYa
   refine ⟨_,rfl,_,rfl,sr,_,_,_,rfl,rfl,SqL.of hsr',hYa,_,rfl,_,_,rfl,rfl,.inl ⟨by decide,by decide⟩,_,rfl,_,rfl,rfl,.inr ⟨_,rfl,_,_,rfl,rfl,.inl ⟨by omega,by omega⟩,_,_,rfl,rfl,_,_,rfl,rfl,(by show (0:Int)<_; decide),?_⟩⟩
   generalize (if decide (V.int (0+(j:Int))=V.int at')=true then (1:Int) else 0)=bq
   have s0:0<=(Y+7*(0+(i:Int))*bq) % 62:=Ol _ (by decide)
   have s1:(Y+7*(0+(i:Int))*bq) % 62<62:=Oo _ (by decide)
   refine qL ?_
   refine uQ (decide (V.int (0+(j:Int))=V.int at')) (decide (V.int (c % 3)=V.int 1)) (fun σ H3=>H3=H2/\∃ (d:Int),0<=d/\d<62/\σ=[some (.ref a),some (.str W62),some (.int c),some (.int n),some (.int at'),some (.ref sr),some (.ref r),some (.int (0+(i:Int))),some (.str y),some (.int (0+(j:Int))),some (.int d)]) (fun Q q=>⟨_,rfl,_,rfl,rfl,_,rfl,q⟩) (fun Q q=>⟨_,rfl,_,_,rfl,rfl,(by show (0:Int)<_; decide),rfl,_,rfl,q⟩) (fun z1 z2 Nx hN=>?_) (fun z=>⟨rfl,_,s0,s1,rfl⟩) ?_
   ·refine ⟨_,rfl,_,rfl,sr,_,_,_,rfl,rfl,SqL.of hsr',hYa,_,rfl,_,_,rfl,rfl,⟨by decide,by decide⟩,_,_,rfl,rfl,_,_,rfl,rfl,(by show (0:Int)<_; decide),_,rfl,_,_,rfl,rfl,(by show (0:Int)<_; decide),_,_,rfl,rfl,.inr ⟨by decide,by decide⟩,_,_,rfl,rfl,?_⟩
    have r0:0<=(Y+(0+(i:Int)) / 2) % 26:=Ol _ (by decide)
    have r1:(Y+(0+(i:Int)) / 2) % 26<26:=Oo _ (by decide)
    have r2:0<=(0+(i:Int)) % 2:=Ol _ (by decide)
    have r3:(0+(i:Int)) % 2<2:=Oo _ (by decide)
    exact hN _ _ ⟨rfl,_,by omega,by omega,rfl⟩
   rintro σ3 H3 ⟨rfl,d,d0,d1,rfl⟩
   refine ⟨_,rfl,_,rfl,_,rfl,ix62 d0 d1 fun e ge=>?_⟩
   exact ⟨_,_,rfl,rfl,(by show y.length+1<=sizeLine; omega),rfl,y++oneS e,_,_,rfl,by rw [len_app,hy] <;> rfl,gy.app (by unfold allGood; simp [cs,ge])⟩
  ·rintro σ2 H2 ⟨rfl,y,v8,v9,rfl,hy,gy⟩
   refine ⟨_,rfl,.inl ⟨rfl,_,SqL.of hlr⟩,_,rfl,r,_,_,rfl,rfl,hlr,by rw [Ng,hwl]; omega,?_⟩
   refine ⟨aL hr0 g _,ws++[y],_,_,_,_,rfl,by rw [ak,NK] <;> rfl,by rw [Np,hwl] <;> rfl,fun z hzm=>?_⟩
   rcases Nz.mp hzm with k | k
   ·exact hws z k
   ·rw [Nq.mp k]
    exact ⟨by omega,by omega,gy⟩
 ·rintro σ' H' ⟨g,ws,u7,u9,u10,u11,rfl,hlr,hwl,hws⟩
  have hwl:ws.length=8:=hwl
  obtain ⟨Y,hYa,hY0,hY1⟩:=sgat 0 (by omega)
  obtain ⟨sg0,Z,rfl⟩:∃ l x,sg=l++[x]:=by
   have hne:sg≠[]:=fun z=>by rw [z] at hsl; have:0=n.toNat:=hsl; omega
   exact ⟨sg.dropLast,sg.getLast hne,(Qh hne).symm⟩
  have hZa:atI ((sg0++[Z]).map V.int) (-1)=some (.int Z):=by
   rw [NK]
   exact jP _ _
  have w0:=hws _ (Qm (show 0<ws.length by omega))
  have w1:=hws _ (Qm (show 1<ws.length by omega))
  have a0:atI (ws.map V.str) 0=some (.str ws[0]):=dh (j:=0) (by rw [NP,Nr (by omega)] <;> rfl)
  have a1:atI (ws.map V.str) 1=some (.str ws[1]):=dh (j:=1) (by rw [NP,Nr (by omega)] <;> rfl)
  generalize ws[0]=x0 at w0 a0
  generalize ws[1]=x1 at w1 a1
  refine ⟨_,rfl,_,rfl,r,_,_,_,rfl,rfl,SqL.of hlr,a0,_,rfl,_,rfl,sr,_,_,_,rfl,rfl,SqL.of (g _ _ hsr),hYa,ix62 hY0 hY1 fun e ge=>?_⟩
  refine ⟨_,_,rfl,rfl,(by show x0.length+1<=sizeLine; omega),_,rfl,r,_,_,_,rfl,rfl,SqL.of hlr,a1,_,rfl,_,rfl,1,rfl,sr,_,_,_,rfl,rfl,SqL.of (g _ _ hsr),hZa,_,_,rfl,rfl,_,_,rfl,rfl,(by show (0:Int)<_; decide),ix62 (Ol _ (by decide)) (Oo _ (by decide)) fun e2 ge2=>?_⟩
  refine ⟨_,_,rfl,rfl,(by show x1.length+1<=sizeLine; omega),(by show 2<=sizeLine; decide),fun p hp=>?_⟩
  have g3:=aB hp (.lst [.str (x0++oneS e),.str (x1++oneS e2)])
  refine ⟨r,p,ws.map V.str,[.str (x0++oneS e),.str (x1++oneS e2)],rfl,rfl,g3 _ _ hlr,ak,by rw [Ng]; show _+2<=_; omega,fun p2 hp2=>?_⟩
  have g4:=aB hp2 (.lst (ws.map V.str++[.str (x0++oneS e),.str (x1++oneS e2)]))
  have gA:=((gz.trans g).trans g3).trans g4
  refine q (ws++[x0++oneS e,x1++oneS e2]) p2 _ gA (by rw [ak,NK] <;> rfl) (((gz.trans g).trans g3).free hp2) (by rw [Np,hwl] <;> rfl) fun z hz=>?_
  rcases Nz.mp hz with k | k
  ·have:=hws z k
   exact ⟨this.1,by omega,this.2.2⟩
  ·have k:z=x0++oneS e∨z=x1++oneS e2:=by simpa using k
   rcases k with rfl | rfl
   ·refine ⟨by rw [len_app]; omega,by rw [len_app]; show x0.length+1<=20; omega,w0.2.2.app (by unfold allGood; simp [cs,ge])⟩
   ·refine ⟨by rw [len_app]; omega,by rw [len_app]; show x1.length+1<=20; omega,w1.2.2.app (by unfold allGood; simp [cs,ge2])⟩
end
end D
namespace L2
open PySem PySem.Spec PyProof.Rows
section
variable {X:Cx} {α:Type} [DecidableEq α] {R:Hp->α->V->Prop}
noncomputable def standsFor (R:Hp->α->V->Prop) (H:Hp) (z:α) (u:Value):Bool:=@decide (∃ x,RelV x u/\R H z x) (Classical.propDecidable _)
theorem mK {A:Around} (h:EqOk X A R) {pins:List (Addr×Obj)} {σ:St} {H:Hp} {s:Shared} (I:Inv X pins σ H s) {z a:α} {x:V} {u:Value} (r:RelV x u) (p:R H a x):standsFor R H z u=decide (a=z):=by
 unfold standsFor
 by_cases e:a=z
 ·subst e
  rw [decide_eq_true rfl]
  exact @decide_eq_true _ (Classical.propDecidable _) ⟨x,r,p⟩
 ·rw [decide_eq_false e]
  refine @decide_eq_false _ (Classical.propDecidable _) fun ⟨y,ry,py⟩=>e ?_
  have ex:=RelV.inj r ry
  subst ex
  exact h.fn pins σ H s I _ _ _ p py
theorem jq {A:Around} (h:EqOk X A R) {pins:List (Addr×Obj)} {σ:St} {H:Hp} {s:Shared} (I:Inv X pins σ H s) {z:α}:∀ {zs:List α} {xs:List V} {us:List Value},Vals xs us->Paired (R H) zs xs->us.any (standsFor R H z)=decide (z∈zs)
 | _,_,_,.nil,.nil=>by simp
 | _::_,_::_,_::_,.cons r rs,.cons p ps=>by
  rw [Ry,mK h I r p,jq h I rs ps]
  simp only [NT,Bool.decide_or]
  congr 1
  exact decide_eq_decide.mpr eq_comm
theorem jy {A:Around} (h:EqOk X A R) {pins:List (Addr×Obj)} {σ:St} {H:Hp} {s:Shared} (I:Inv X pins σ H s) {z:α} {x:V} {v:Value} (rz:RelV x v) (pz:R H z x):∀ {zs:List α} {xs:List V} {us:List Value},Vals xs us->Paired (R H) zs xs->∀ u∈us,SeqAt.EqAt A s u v (standsFor R H z u)
 | _,_,_,.nil,.nil,_,hu=>nomatch hu
 | _::_,_::_,_::_,.cons r rs,.cons p ps,u,hu=>by
  rcases NT.mp hu with e | e
  ·subst e
   rw [mK h I r p]
   exact h.eq pins σ H s I _ _ _ _ _ _ p pz r rz
  ·exact jy h I rz pz rs ps u e
theorem Dy (h:EqOk X X.A.in1 R):OpR X (compareOp .In) (fun x y H Q=>∃ z zs,R H z x/\lstR X.K R H zs y/\Q (.bl (decide (z∈zs))) H):=by
 intro pins s σ H x y v u Q I rx ry hh
 obtain ⟨z,zs,pz,⟨a,xs,rfl,hq,ps⟩,q⟩:=hh
 cases ry
 obtain ⟨its,r,pl,hz⟩:=I.list hq
 refine W0 (standsFor R H z) pl.isList (fun w hw=>jy h I rx pz r ps w (by simpa using hw)) ⟨.bl _,H,I,rfl,?_⟩
 rw [show its.toArray.any (standsFor R H z)=its.any (standsFor R H z) by simp,jq h I r ps]
 exact q
end
section
variable {X:Cx} {t:St->Hp->Prop}
end
theorem contains_of {M:Model} {A:Around} {E:Value->Shared->Prop} {s:Shared} {u v:Value} {Q:Bool->Shared->Prop} (h:wpAny M A (compareOp .In v u) (fun z s'=>∃ b,z=.bool b/\Q b s') E s):wpAny M A (contains u v) Q E s:=by
 intro Γ p hΓ
 have h1:=h Γ p hΓ
 have h2:Sem.wp M Γ (Sem.bind (contains u v) fun b=>Sem.pure (Value.bool b)) (fun a _ s'=>∃ b,a=.bool b/\Q b s') (fun e _ s'=>E e s') p s:=h1
 rw [Sem.wp_bind] at h2
 refine Sem.wp_mono M Γ _ (fun b p' s' hb=>?_) (fun _ _ _ z=>z) p s h2
 have hb:∃ c,Value.bool b=.bool c/\Q c s':=hb
 obtain ⟨c,e,q⟩:=hb
 cases e
 exact q
section
variable {X:Cx} {α:Type} [DecidableEq α] {R:Hp->α->V->Prop}
theorem jD (h:EqOk X X.A.in1 R):OpR X (compareOp .NotIn) (fun x y H Q=>∃ z zs,R H z x/\lstR X.K R H zs y/\Q (.bl (!decide (z∈zs))) H):=by
 intro pins s σ H x y v u Q I rx ry hh
 obtain ⟨z,zs,pz,⟨a,xs,rfl,hq,ps⟩,q⟩:=hh
 cases ry
 obtain ⟨its,r,pl,hz⟩:=I.list hq
 refine (show wpAny _ _ (contains (.ref a) v >>= fun b=>pure (Value.bool !b)) _ _ s from Nf (contains_of (W0 (standsFor R H z) pl.isList (fun w hw=>jy h I rx pz r ps w (by simpa using hw)) ⟨_,rfl,Ni ⟨.bl _,H,I,rfl,?_⟩⟩)))
 rw [show its.toArray.any (standsFor R H z)=its.any (standsFor R H z) by simp,jq h I r ps]
 exact q
end
end L2
namespace D
open PySem L2
theorem oZ {K:Nh} {H:Hp} {zs:List Str} {v:V} (h:wR H zs v):tupR K strR H zs v:=by
 obtain ⟨a,e,q⟩:=h
 have all:∀ zs:List Str,Paired (strR H) zs (zs.map V.str):=fun zs=>by
  induction zs with
  | nil=>exact .nil
  | cons z r ih=>exact .cons rfl ih
 exact ⟨a,_,e,SqT.of q,all zs⟩
theorem Ht {p:Prop} (h:¬ p) (i:Decidable p):@decide p i=false:=@decide_eq_false p i h
theorem Ew {p:Prop} (h:p) (i:Decidable p):@decide p i=true:=@decide_eq_true p i h
theorem gn_u {i:Nat} {x:V} {σ:St} {H:Hp} {k:St->Hp->Prop} (h:k (σ.set i (some x)) H):kY i x σ H k:=h
theorem DW {te:TE} {g:TG} {u:TS} {D:Ends} {σ:St} {H:Hp} (h:te σ H fun x H1=>g x σ H1 (u D)):tSeq (tAsg te g) u D σ H:=h
structure ShOk (p0:List Str) (last:Str) (bs:List (Str×Str)) (os:List Str):Prop where
 len:p0.length<=3
 wd:∀ z∈p0++[last],Wd z
 bd:Paired (qQ last) bs os
 nd:(last::os).Nodup
 wo:∀ o∈os,Wd o
 few:bs.length<=2
def Jx:Sp:=fun vs H Q _=>∃ (a xr:Addr) (xs0:List Int) (p0:List Str) (last:Str),vs=[.ref a,.ref xr]/\H xr=some (.lst (xs0.map V.int))/\xs0.length<=2/\(∀ x∈xs0,0<=x)/\H a=some (.tup ((p0++[last]).map V.str))/\p0.length<=3/\(∀ z∈p0++[last],Wd z) /\
 ∀ bs os vb sl xs t H',Same H H'->H sl=none->H' t=some (.tup [.ref a,vb,.ref sl])->bR H' bs vb->H' sl=some (.lst xs)->Paired (wR H') ((last::os).map fun o=>p0++[o]) xs->ShOk p0 last bs os->Q (.ref t) H'
section
variable {P:Program} {w:World} {K:Nh} {mg:Str->Option Value} {base:Heap} {f:Addr} {fd:FuncData}
theorem mF:FnScope ["_law_phrase","_law_xs","_law_shapes_here","_law_bends","_law_last","_law_x","_law_left","_law_put","_law_shape"] ["_law_phrase","_law_xs"] (aA dY):=⟨rfl,rfl,rfl,by decide +kernel,rfl,by decide +kernel,by decide +kernel⟩
set_option maxHeartbeats 8000000 in
theorem Lb (F:Fun K "_law_shapes" "_law_shapes" dY f fd) (T:Nm mg):FnOk P w K mg base CX0 3 f fd ["_law_phrase","_law_xs"] Jx:=by
 refine F.ok mF (fun vs H Q E h=>?_) (fun cdv A outer s H vs Q E hr h=>?_)
 ·obtain ⟨a,xr,xs,p0,last,rfl,_⟩:=h
  rfl
 obtain ⟨a,xr,xs,p0,last,rfl,exr0,hxl,hx0,ha,hp3,hwd,q⟩:=h
 have hu:(A.deeper (PyProof.Rows.envOfC "_law_shapes" (aA dY) s.heap.objs.size f cdv)).in1.units<cLine:=by
  have:=hr.units
  show (A.deeper (PyProof.Rows.envOfC "_law_shapes" (aA dY) s.heap.objs.size f cdv)).units+1<cLine
  omega
 refine ⟨_,ao (aF (i:=2) mF.nd rfl (Or.inl rfl) (cD (aj (pv 0) aq)))
  (ao (aF (i:=3) mF.nd rfl (Or.inl rfl) (bh aq))
  (ao (aF (i:=4) mF.nd rfl (Or.inl rfl) (aJ bA (pv 0) (jM gW au) (fun _ _=>rfl)))
  (ao (cj PassesOwn.never rfl (cu (pv 1)) (aK (i:=5) mF.nd rfl (Or.inl rfl))
   (ao (aF (i:=6) mF.nd rfl (Or.inl rfl) (aG yL (aH dM rfl T.len Ou (aj (pv 4) aq)) (aH (sI rfl) rfl T.mn Vj (aj (aH dM rfl T.len Ou (aj (pv 4) aq)) (aj (aG bw (pv 5) au) aq)))))
   (ao (aF (i:=7) mF.nd rfl (Or.inl rfl) (cM qy (cM qy cJ (bY (aG bw (aG dD (pv 5) au) au)) fO) fO (bY (aG bw (aG dD (pv 5) au) au))))
   (ao (aF (i:=8) mF.nd rfl (Or.inl rfl) (aG (OpR.or qw uZ) (cM xP (pv 0) fO (bY (jM gW au))) (bh (aj (aG gQ (cM qy (pv 4) fO (bY (pv 6))) (pv 7)) aq))))
   (aD (bJ (PW.pt (jT (aN (jD (vG wg hu)) (pv 8) (pv 2) (by with_unfolding_all rfl)) (jx (Eb GJ GJ au (aH dM rfl T.len Ou (aj (aJ bA (pv 8) (jM gW au) (fun _ _=>rfl)) aq)) au))))
    (ao (cC (dZ Ob Oh Oi bO (pv 2) (aj (pv 8) aq)))
    (aD (aF (i:=3) mF.nd rfl (Or.inl rfl) (aG jj (pv 3) (bh (aj (bh (aj (cM qy (pv 4) (bY (pv 6)) fO) (aj (pv 7) aq))) aq)))))) aR))))))
  (aD (aU (bh (aj (pv 0) (aj (pv 3) (aj (pv 2) aq))))))))),?_⟩
 have hb:=big
 have wl:=hwd last (NZ _ Ny)
 have l20:=wl.2.1
 have zl:last.length<=sizeLine:=by omega
 have em:(p0++[last]).map V.str=p0.map V.str++[.str last]:=by rw [NK] <;> rfl
 rw [em] at ha
 refine ⟨_,rfl,(by show 1<=sizeLine; decide),fun sl hsl=>?_⟩
 have k0:=aB hsl (.lst [.ref a])
 have e0:upd H sl (.lst [.ref a]) sl=some (.lst [.ref a]):=ak
 generalize upd H sl (.lst [.ref a])=H0 at k0 e0
 refine ⟨(by show 0<=sizeLine; decide),fun b0 hb0=>?_⟩
 have k1:=aB hb0 (.tup [])
 have e1:upd H0 b0 (.tup []) b0=some (.tup []):=ak
 generalize upd H0 b0 (.tup [])=H1 at k1 e1
 have k01:=k0.trans k1
 refine ⟨_,rfl,1,rfl,a,_,_,_,rfl,rfl,SqT.of (k01 _ _ ha),jP _ _,?_⟩
 have exr:=k01 _ _ exr0
 have nxs:xr≠sl:=fun e=>by rw [e] at exr0; rw [exr0] at hsl; cases hsl
 refine ⟨_,rfl,xr,rfl,⟨_,SqL.of exr⟩,?_⟩
 refine cN (K:=K) (a:=xr) (xs:=xs.map V.int) (fun i σ' H'=>Same H H'/\H' xr=some (.lst (xs.map V.int))/\∃ (bs:List (Str×Str)) (os:List Str) (b:Addr) (bx ys:List V) (u5 u6 u7 u8:Option V),σ'=[some (.ref a),some (.ref xr),some (.ref sl),some (.ref b),some (.str last),u5,u6,u7,u8]/\H' b=some (.tup bx)/\Paired (cpR H') bs bx/\H' sl=some (.lst ys)/\Paired (wR H') ((last::os).map fun o=>p0++[o]) ys/\Paired (qQ last) bs os/\(last::os).Nodup/\(∀ o∈os,Wd o)/\bs.length<=i) ?_ (fun i σ' H' _ h=>SqL.of h.2.1) ?_ ?_
 ·exact ⟨k01,exr,[],[],b0,[],[.ref a],_,_,_,_,rfl,e1,.nil,k1 _ _ e0,.cons ⟨a,rfl,by rw [em]; exact k01 _ _ ha⟩ .nil,.nil,by simp,(fun _ z=>by cases z),Nu _⟩
 ·rintro i y σ' H3 hi ⟨g3,hx3,bs,os,b,bx,ys,u5,u6,u7,u8,rfl,hb3,hbs,hs3,hys,hbd,hnd,hwo,hbl⟩
  rw [NP] at hi
  cases ex:xs[i]? with
  | none=>rw [ex] at hi; cases hi
  | some x =>
   rw [ex] at hi
   cases hi
   have hi3:i<3:=by
    have:=(Nj.mp ex).1
    omega
   have x3:0<=x % 3:=Ol _ (by decide)
   refine ⟨_,rfl,last,rfl,zl,_,rfl,last,rfl,zl,_,rfl,_,_,rfl,rfl,(by show (0:Int)<_; decide),_,_,rfl,_,_,rfl,rfl,?_⟩
   dsimp only
   have hleft:∃ k:Nat,k<=last.length/\(last.length:Int)-(if x % 3<(last.length:Int) then x % 3 else (last.length:Int))=((k:Nat):Int):=by
    split
    ·exact ⟨last.length-(x % 3).toNat,by omega,by omega⟩
    ·exact ⟨0,by omega,by omega⟩
   obtain ⟨left,hl1,hl2⟩:=hleft
   rw [hl2]
   have r0:0<=x / 3 % 8:=Ol _ (by decide)
   have r1:0<=x / 24 % 3:=Ol _ (by decide)
   refine ⟨_,rfl,_,_,rfl,rfl,⟨by decide,by decide⟩,_,_,rfl,rfl,(by show (0:Int)<_; decide),_,rfl,?_⟩
   refine uX ⟨("sE7nd0Gy":Str),rfl,by decide +kernel,?_⟩
   refine uX ⟨_,rfl,_,_,rfl,rfl,⟨by decide,by decide⟩,_,_,rfl,rfl,(by show (0:Int)<_; decide),_,rfl,_,rfl,?_,?_⟩
   ·rw [rB,pD _ r0,O9]
    have:(cs ("sE7nd0Gy":Str)).length=8:=by decide +kernel
    omega
   have hput:∃ put:Str,(⟨(cutC ⟨(cutC ("sE7nd0Gy":Str) (some (x / 3 % 8)) none).toArray⟩ none (some (x / 24 % 3))).toArray⟩:Str)=put/\put.length<=2/\allGood put:=by
    refine ⟨_,rfl,?_,?_⟩
    ·rw [rB,rH _ r1,Oc]
     have:x / 24 % 3<3:=Oo _ (by decide)
     omega
    ·unfold allGood
     rw [jY,rH _ r1,jY,pD _ r0]
     have hg:(cs ("sE7nd0Gy":Str)).all good=true:=by decide +kernel
     rw [PJ] at hg ⊢
     exact fun z hz=>hg z (QV (Pg hz))
   obtain ⟨put,hput,hp2,gp⟩:=hput
   rw [hput]
   refine qL ?_
   have ecl:(⟨(cutC last none (some ((left:Nat):Int))).toArray⟩:Str)=⟨((cs last).take left).toArray⟩:=by
    rw [rH last (by omega)] <;> rfl
   have ecr:(⟨(cutC last (some ((left:Nat):Int)) none).toArray⟩:Str)=⟨((cs last).drop left).toArray⟩:=by
    rw [pD last (by omega)] <;> rfl
   have hlo:(⟨((cs last).take left).toArray⟩++put:Str).length=left+put.length:=by
    rw [len_app,rB,Oc,fV]
    omega
   have hgo:allGood (⟨((cs last).take left).toArray⟩++put:Str):=by
    refine allGood.app ?_ gp
    unfold allGood
    rw [jY]
    have:=wl.2.2
    unfold allGood at this
    rw [PJ] at this ⊢
    exact fun z hz=>this z (Pg hz)
   have hbo:qQ last (⟨((cs last).drop left).toArray⟩,put) (⟨((cs last).take left).toArray⟩++put):=by
    refine ⟨⟨((cs last).take left).toArray⟩,oX ?_,rfl⟩
    rw [iJ,jY,jY,QS]
   generalize ho:(⟨((cs last).take left).toArray⟩++put:Str)=o at hlo hgo hbo
   refine DW ?_
   refine zZ (i:=0) (xs:=p0.map V.str) (l:=.str last) (z:=.str o) rfl (SqT.of (g3 _ _ ha)) (by rw [Ng]; omega) (fun H4 g4 Q1 hq=>?_) (fun r H4 g4 h4=>?_)
   ·refine ⟨_,rfl,_,rfl,_,rfl,last,rfl,zl,_,rfl,_,_,rfl,rfl,?_,?_⟩
    ·rw [ecl,rB,Oc,fV]
     omega
    ·rw [ecl,ho]
     exact hq
   have ew:wR H4 (p0++[o]) (.ref r):=⟨r,rfl,by rw [h4,NK] <;> rfl⟩
   refine gn_u ?_
   have hys4:=Paired.mapP hys fun _ _ z=>z.mono g4.t
   have stay:Same H H4/\H4 xr=some (.lst (xs.map V.int))/\∃ (bs:List (Str×Str)) (os:List Str) (b':Addr) (bx ys:List V) (u5 u6 u7 u8:Option V),[some (V.ref a),some (.ref xr),some (.ref sl),some (.ref b),some (.str last),some (.int x),some (.int (left:Nat)),some (.str put),some (.ref r)]=[some (.ref a),some (.ref xr),some (.ref sl),some (.ref b'),some (.str last),u5,u6,u7,u8]/\H4 b'=some (.tup bx)/\Paired (cpR H4) bs bx/\H4 sl=some (.lst ys)/\Paired (wR H4) ((last::os).map fun o=>p0++[o]) ys/\Paired (qQ last) bs os/\(last::os).Nodup/\(∀ o∈os,Wd o)/\bs.length<=i+1:=⟨g3.trans g4,g4 _ _ hx3,bs,os,b,bx,ys,_,_,_,_,rfl,g4 _ _ hb3,Paired.mapP hbs fun _ _ z=>z.mono g4.t,g4 _ _ hs3,hys4,hbd,hnd,hwo,Rz hbl⟩
   by_cases hm:p0++[o]∈(last::os).map fun o=>p0++[o]
   ·refine pC false (qN false true (fun Q q=>⟨_,rfl,_,rfl,p0++[o],_,oZ ew,⟨sl,ys,rfl,SqL.of (g4 _ _ hs3),Paired.mapP hys4 fun _ _ z=>oZ z⟩,_,rfl,?_⟩) (fun z=>by cases z)) (fun z=>by cases z) (fun _=>stay)
    rw [Ew hm]
    exact q
   ·refine pC (true && (decide ((1:Int)<=(o.length:Int)) && decide ((o.length:Int)<=20))) (qN true _ (fun Q q=>⟨_,rfl,_,rfl,p0++[o],_,oZ ew,⟨sl,ys,rfl,SqL.of (g4 _ _ hs3),Paired.mapP hys4 fun _ _ z=>oZ z⟩,_,rfl,?_⟩) (fun _ Q q=>?_)) (fun z=>?_) (fun _=>stay)
    ·rw [Ht hm]
     exact q
    ·have ea8:atI (p0.map V.str++[V.str o]) (-1)=some (.str o):=jP _ _
     refine ⟨_,rfl,1,rfl,r,_,_,_,rfl,rfl,SqT.of h4,ea8,o,rfl,by omega,_,_,rfl,rfl,_,rfl,?_⟩
     by_cases hz:(1:Int)<=(o.length:Int)
     ·rw [if_pos (decide_eq_true hz)]
      rw [decide_eq_true hz,Xh] at q
      exact ⟨_,_,rfl,rfl,_,rfl,q⟩
     ·rw [if_neg (by rw [decide_eq_false hz]; decide)]
      rw [decide_eq_false hz,W9] at q
      exact ⟨_,rfl,q⟩
    ·rw [Xh,Ph] at z
     have z1:=of_decide_eq_true z.1
     have z2:=of_decide_eq_true z.2
     have wo:Wd o:=⟨by omega,by omega,hgo⟩
     have hno:o∉last::os:=fun z=>hm (Oq.mpr ⟨o,z,rfl⟩)
     have yl:ys.length<=10:=by
      rw [<- Paired.length hys,Ng,Oj,<- Paired.length hbd]
      omega
     have hs4:=g4 _ _ hs3
     refine ⟨_,rfl,.inl ⟨rfl,_,SqL.of hs4⟩,_,rfl,sl,_,_,rfl,rfl,hs4,by omega,?_⟩
     have t5:TSame H4 (upd H4 sl (.lst (ys++[.ref r]))):=TSame.lst hs4
     have g5:Same H (upd H4 sl (.lst (ys++[.ref r]))):=aL hsl (g3.trans g4) _
     have hb5:upd H4 sl (.lst (ys++[.ref r])) b=some (.tup bx):=t5 _ _ (g4 _ _ hb3)
     have hx5:upd H4 sl (.lst (ys++[.ref r])) xr=some (.lst (xs.map V.int)):=by rw [aC nxs]; exact g4 _ _ hx3
     have hs5:upd H4 sl (.lst (ys++[.ref r])) sl=some (.lst (ys++[.ref r])):=ak
     generalize upd H4 sl (.lst (ys++[.ref r]))=H5 at t5 g5 hb5 hx5 hs5
     refine ⟨_,rfl,_,rfl,_,rfl,_,rfl,uX ?_⟩
     refine ⟨last,rfl,zl,_,rfl,(by show 2<=sizeLine; decide),fun p2 hq2=>?_⟩
     rw [ecr]
     have g6:=aB hq2 (.tup [.str ⟨((cs last).drop left).toArray⟩,.str put])
     have e6:upd H5 p2 (.tup [.str ⟨((cs last).drop left).toArray⟩,.str put]) p2=some (.tup [.str ⟨((cs last).drop left).toArray⟩,.str put]):=ak
     generalize upd H5 p2 (.tup [.str ⟨((cs last).drop left).toArray⟩,.str put])=H6 at g6 e6
     refine ⟨(by show 1<=sizeLine; decide),fun p3 hq3=>?_⟩
     have g7:=aB hq3 (.tup [.ref p2])
     have bl:bx.length<=10:=by
      rw [<- Paired.length hbs]
      omega
     refine ⟨b,p3,bx,[.ref p2],rfl,rfl,g7 _ _ (g6 _ _ hb5),ak,(by show bx.length+1<=sizeLine; omega),fun p4 H8 g8 h8=>?_⟩
     have g68:=(g6.trans g7).trans g8
     have t8:=t5.trans g68.t
     refine ⟨g5.trans g68,g68 _ _ hx5,bs++[(⟨((cs last).drop left).toArray⟩,put)],os++[o],p4,bx++[.ref p2],ys++[.ref r],_,_,_,_,rfl,h8,?_,g68 _ _ hs5,?_,cg hbd hbo,?_,?_,?_⟩
     ·exact cg (Paired.mapP hbs fun _ _ z=>(z.mono g4.t).mono t8) ⟨p2,rfl,(g7.trans g8) _ _ e6⟩
     ·rw [<- Rb,NK]
      exact cg (Paired.mapP hys4 fun _ _ z=>z.mono t8) (ew.mono t8)
     ·rw [<- Rb]
      refine O4.mpr ⟨hnd,by simp,fun u hu v hv e=>hno ?_⟩
      rw [Nq.mp hv] at e
      rw [<- e]; exact hu
     ·intro u hu
      rcases Nz.mp hu with k | k
      ·exact hwo u k
      ·rw [Nq.mp k]; exact wo
     ·rw [Np]
      show bs.length+1<=i+1
      omega
 ·rintro σ' H3 ⟨g3,hx3,bs,os,b,bx,ys,u5,u6,u7,u8,rfl,hb3,hbs,hs3,hys,hbd,hnd,hwo,hbl⟩
  rw [Ng] at hbl
  refine ⟨_,rfl,_,rfl,_,rfl,(by show 3<=sizeLine; decide),fun t ht=>?_⟩
  have g4:=aB ht (.tup [.ref a,.ref b,.ref sl])
  exact q bs os (.ref b) sl ys t _ (g3.trans g4) hsl ak ⟨b,bx,rfl,g4 _ _ hb3,Paired.mapP hbs fun _ _ z=>z.mono g4.t⟩ (g4 _ _ hs3) (Paired.mapP hys fun _ _ z=>z.mono g4.t) ⟨hp3,hwd,hbd,hnd,hwo,by omega⟩
end
abbrev Bk:=List Str×Str×List (Str×Str)×List Str
def Bk.ok (e:Bk):Prop:=ShOk e.1 e.2.1 e.2.2.1 e.2.2.2
def Bk.shapes (e:Bk):List (List Str):=(e.2.1::e.2.2.2).map fun o=>e.1++[o]
def bkR (H:Hp) (e:Bk) (v:V):Prop:=∃ t a vb sl xs,v=.ref t/\H t=some (.tup [.ref a,vb,.ref sl])/\H a=some (.tup ((e.1++[e.2.1]).map V.str))/\bR H e.2.2.1 vb/\H sl=some (.lst xs)/\Paired (wR H) (Bk.shapes e) xs
theorem bkR.mono {H H':Hp} {e:Bk} {v:V} (h:bkR H e v) (g:Same H H'):bkR H' e v:=by
 obtain ⟨t,a,vb,sl,xs,e1,h1,h2,⟨b,bx,e2,h3,h4⟩,h5,h6⟩:=h
 exact ⟨t,a,vb,sl,xs,e1,g _ _ h1,g _ _ h2,⟨b,bx,e2,g _ _ h3,Paired.mapP h4 fun _ _ z=>z.mono g.t⟩,g _ _ h5,Paired.mapP h6 fun _ _ z=>z.mono g.t⟩
theorem bkR.upd {H:Hp} {r:Addr} {o:HO} {e:Bk} {v:V} {H0:Hp} (h:bkR H0 e v) (g:Same H0 H) (hr:H0 r=none):bkR (L2.upd H r o) e v:=h.mono (aL hr g o)
def Fe (K:Nh):Sp:=fun vs H Q _=>∃ (a me:Addr) (ns:List Int) (ws:List Str),vs=[.ref a,.ref me]/\SqL K H a (ns.map V.int)/\ns.length<=63/\H me=some (.lst (ws.map V.str))/\ws.length=10/\(∀ x∈ws,Wd x) /\
 ∀ (B:List Bk) r xs H',Same H H'->H r=none->H' r=some (.lst xs)->Paired (bkR H') B xs->B.length=5->(∀ e∈B,Bk.ok e)->Q (.ref r) H'
theorem sH {xs:List Int} {k:Nat} (h:k<xs.length):∃ x,x∈xs/\atI (xs.map V.int) ((k:Nat):Int)=some (.int x) :=
 ⟨xs[k],Qm h,dh (by rw [NP,Nr h] <;> rfl)⟩
theorem lX (xs:List Int) (a b:Nat):cutV (xs.map V.int) (some (a:Int)) (some (b:Int))=((xs.drop a).take (b-a)).map V.int:=by
 rw [wL,Us,V5]
section
variable {P:Program} {w:World} {K:Nh} {mg:Str->Option Value} {base:Heap} {f:Addr} {fd:FuncData}
theorem lE:FnScope ["_law_script","_law_menu_here","_law_book_here","_law_k","_law_xs","_law_phrase","_law_x"] ["_law_script","_law_menu_here"] (aA iW):=⟨rfl,rfl,rfl,by decide +kernel,rfl,by decide +kernel,by decide +kernel⟩
set_option maxHeartbeats 8000000 in
theorem HD (F:Fun K "_law_book" "_law_book" iW f fd) (T:Nm mg) (GC:Def P w K mg base CX0 1 "_law_cell" ["_law_script","_law_k"] (qM K)) (GS:Def P w K mg base CX0 2 "_law_stream" ["_law_cell_here","_law_many"] mQ) (GH:Def P w K mg base CX0 3 "_law_shapes" ["_law_phrase","_law_xs"] Jx):FnOk P w K mg base CX0 4 f fd ["_law_script","_law_menu_here"] (Fe K):=by
 refine F.ok lE (fun vs H Q E h=>?_) (fun cdv A outer s H vs Q E hr h=>?_)
 ·obtain ⟨a,me,ns,ws,rfl,_⟩:=h
  rfl
 obtain ⟨a,me,ns,ws,rfl,hS,h63,hme,hw10,hwd,q⟩:=h
 refine ⟨_,ao (aF (i:=2) lE.nd rfl (Or.inl rfl) (cD aq))
  (ao (cj PassesOwn.never rfl (iU rfl T.range (aj au aq)) (aK (i:=3) lE.nd rfl (Or.inl rfl))
   (ao (aF (i:=4) lE.nd rfl (Or.inl rfl) (aX GS (hr.mono (by decide)) (aj (aX GC (hr.mono (by decide)) (aj (pv 0) (aj (aG bW au (pv 3)) aq))) (aj au aq))))
   (ao (aF (i:=5) lE.nd rfl (Or.inl rfl) (bh (aj (aJ aZ (pv 1) (pv 3) (fun _ _=>rfl)) aq)))
   (ao (cj PassesOwn.never rfl (cu (cM lU (pv 4) (bY au) (bY (aG bW au (aJ aZ (cD (aj au (aj au (aj au (aj au (aj au (aj au (aj au aq)))))))) (aG bw (aJ aZ (pv 4) au (fun _ _=>rfl)) au) (fun _ _=>rfl)))))) (aK (i:=6) lE.nd rfl (Or.inl rfl))
    (aD (aF (i:=5) lE.nd rfl (Or.inl rfl) (aG jj (pv 5) (bh (aj (aJ aZ (pv 1) (aG bW au (aG bw (pv 6) au)) (fun _ _=>rfl)) aq))))))
   (aD (cC (dZ Ob Oh Oi bO (pv 2) (aj (aX GH hr (aj (pv 5) (aj (cM lU (pv 4) (bY au) (bY (aG bW au (aG bw (aJ aZ (pv 4) au (fun _ _=>rfl)) au)))) aq))) aq))))))))
  (aD (aU (pv 2)))),?_⟩
 have hb:=big
 refine ⟨(by show 0<=sizeLine; decide),fun r hr0=>?_⟩
 have k0:=aB hr0 (.lst [])
 refine ⟨5,rfl,by decide,by decide,?_⟩
 refine gb (lo:=0) (n:=(5:Int).toNat) (fun i σ' H'=>Same H H'/\∃ (B:List Bk) (xs:List V) (u3 u4 u5 u6:Option V),σ'=[some (.ref a),some (.ref me),some (.ref r),u3,u4,u5,u6]/\H' r=some (.lst xs)/\(∀ H2,(∀ b o,b≠r->H' b=some o->H2 b=some o)->Paired (bkR H2) B xs)/\B.length=i/\∀ e∈B,Bk.ok e) ?_ ?_ ?_
 ·exact ⟨k0,[],[],_,_,_,_,rfl,ak,(fun _ _=>.nil),rfl,fun _ h=>by cases h⟩
 ·rintro i σ' H1 hi ⟨g1,B,xs,u3,u4,u5,u6,rfl,hr1,hB,hBl,hBo⟩
  have hi5:i<5:=hi
  have bxl:xs.length=i:=by rw [<- Paired.length (hB H1 fun _ _ _ z=>z),hBl]
  refine ⟨_,rfl,_,rfl,_,_,rfl,rfl,a,ns,4+(0+(i:Int)),rfl,g1.seq hS,h63,by omega,by omega,?_⟩
  generalize cZ ns (4+(0+(i:Int)))=c
  refine ⟨c,7,rfl,by decide,by decide,fun ys yr Hs gs hyr eyr hyl hy0=>?_⟩
  have hyl:ys.length=7:=hyl
  obtain ⟨y0,hy0m,ey0⟩:=sH (xs:=ys) (k:=0) (by omega)
  obtain ⟨y4,hy4m,ey4⟩:=sH (xs:=ys) (k:=4) (by omega)
  obtain ⟨x0,hx0,ex0⟩:=pI (ws:=ws) (k:=0+(i:Int)) (by omega) (by omega)
  have hme1:=(g1.trans gs) _ _ hme
  refine ⟨_,rfl,_,rfl,me,_,_,_,rfl,rfl,SqL.of hme1,ex0,(by show 1<=sizeLine; decide),fun p hp=>?_⟩
  have g2:=aB hp (.tup [.str x0])
  have e2:upd Hs p (.tup [.str x0]) p=some (.tup ([x0].map V.str)):=ak
  generalize upd Hs p (.tup [.str x0])=H2 at g2 e2
  obtain ⟨sz,hsz,esz⟩:=Kz (is:=[0,0,1,2,0,1,3]) (k:=y0 % 7) (Ol _ (by decide)) (Oo _ (by decide))
  have s03:0<=sz/\sz<=3:=by
   simp only [NT,List.not_mem_nil,or_false] at hsz
   omega
  refine ⟨_,rfl,_,rfl,(by show 7<=sizeLine; decide),fun p2 hp2=>?_⟩
  have g3:=aB hp2 (.lst [.int 0,.int 0,.int 1,.int 2,.int 0,.int 1,.int 3])
  have e3:upd H2 p2 (.lst [.int 0,.int 0,.int 1,.int 2,.int 0,.int 1,.int 3]) p2=some (.lst [.int 0,.int 0,.int 1,.int 2,.int 0,.int 1,.int 3]):=ak
  generalize upd H2 p2 (.lst [.int 0,.int 0,.int 1,.int 2,.int 0,.int 1,.int 3])=H3 at g3 e3
  have ey3:=(g2.trans g3) _ _ eyr
  refine ⟨_,rfl,yr,_,_,_,rfl,rfl,SqL.of ey3,ey0,_,_,rfl,rfl,(by show (0:Int)<_; decide),p2,_,_,_,rfl,rfl,SqL.of e3,esz,_,_,rfl,rfl,_,rfl,yr,_,rfl,SqL.of ey3,fun p4 hp4=>?_⟩
  have ec:cutV (ys.map V.int) (some 1) (some (1+sz))=((ys.drop 1).take ((1+sz).toNat-1)).map V.int:=by
   have e4:1+sz=(((1+sz).toNat:Nat):Int):=by omega
   rw [e4]
   exact lX ys 1 _
  rw [ec]
  have tl:((ys.drop 1).take ((1+sz).toNat-1)).length<=3:=by
   rw [Oc]
   omega
  generalize (ys.drop 1).take ((1+sz).toNat-1)=ts at tl
  have g4:=aB hp4 (.lst (ts.map V.int))
  have e4:upd H3 p4 (.lst (ts.map V.int)) p4=some (.lst (ts.map V.int)):=ak
  generalize upd H3 p4 (.lst (ts.map V.int))=H4 at g4 e4
  have g24:=(g2.trans g3).trans g4
  refine ⟨p4,rfl,⟨_,SqL.of e4⟩,?_⟩
  refine cN (K:=K) (a:=p4) (xs:=ts.map V.int) (fun j σ' H'=>Same H4 H'/\∃ (ph:List Str) (p:Addr) (u6:Option V),σ'=[some (.ref a),some (.ref me),some (.ref r),some (.int (0+(i:Int))),some (.ref yr),some (.ref p),u6]/\H' p=some (.tup (ph.map V.str))/\ph.length=j+1/\∀ z∈ph,z∈ws) ?_ (fun j σ' H' _ h=>SqL.of (h.1 _ _ e4)) ?_ ?_
  ·exact ⟨Same.refl _,[x0],p,_,rfl,(g3.trans g4) _ _ e2,rfl,fun z hz=>by rw [Nq.mp hz]; exact hx0⟩
  ·rintro j y σ' H5 hj ⟨g5,ph,p,v6,rfl,hp5,hpl,hpw⟩
   rw [NP] at hj
   cases ey:ts[j]? with
   | none=>rw [ey] at hj; cases hj
   | some yy =>
    rw [ey] at hj
    cases hj
    have hj3:j<3:=by
     have:=(Nj.mp ey).1
     omega
    have y50:0<=yy % 5:=Ol _ (by decide)
    have y51:yy % 5<5:=Oo _ (by decide)
    obtain ⟨x1,hx1,ex1⟩:=pI (ws:=ws) (k:=5+yy % 5) (by omega) (by omega)
    have hme5:=g5 _ _ (g24 _ _ hme1)
    refine ⟨_,rfl,_,rfl,_,rfl,_,_,rfl,rfl,(by show (0:Int)<_; decide),_,_,rfl,rfl,me,_,_,_,rfl,rfl,SqL.of hme5,ex1,(by show 1<=sizeLine; decide),fun p5 hp5'=>?_⟩
    have g6:=aB hp5' (.tup [.str x1])
    refine ⟨p,p5,_,_,rfl,rfl,g6 _ _ hp5,ak,by rw [Ng]; show _+1<=_; omega,fun p6 H6 g7 h6=>?_⟩
    refine ⟨g5.trans (g6.trans g7),ph++[x1],p6,_,rfl,by rw [h6,NK] <;> rfl,by rw [Np,hpl] <;> rfl,fun z hz=>?_⟩
    rcases Nz.mp hz with k | k
    ·exact hpw z k
    ·rw [Nq.mp k]; exact hx1
  ·rintro σ' H5 ⟨g5,ph,p,v6,rfl,hp5,hpl,hpw⟩
   rw [Ng] at hpl
   obtain ⟨p0,last,rfl⟩:∃ p0 last,ph=p0++[last]:=by
    have hne:ph≠[]:=fun z=>by rw [z] at hpl; simp at hpl
    exact ⟨ph.dropLast,ph.getLast hne,(Qh hne).symm⟩
   rw [Np] at hpl
   have hpl:p0.length+1=ts.length+1:=hpl
   have g15:=(gs.trans g24).trans g5
   have hr5:=g15 _ _ hr1
   have ey5:=(g4.trans g5) _ _ ey3
   have r0:0<=y4 % 3:=Ol _ (by decide)
   have r1:y4 % 3<3:=Oo _ (by decide)
   refine ⟨_,rfl,.inl ⟨rfl,_,SqL.of hr5⟩,_,rfl,_,rfl,_,rfl,_,rfl,yr,_,_,_,rfl,rfl,SqL.of ey5,ey4,_,_,rfl,rfl,(by show (0:Int)<_; decide),_,_,rfl,rfl,_,rfl,yr,_,rfl,SqL.of ey5,fun q6 hq6=>?_⟩
   have ec6:cutV (ys.map V.int) (some 5) (some (5+y4 % 3))=((ys.drop 5).take ((5+y4 % 3).toNat-5)).map V.int:=by
    have e4:5+y4 % 3=(((5+y4 % 3).toNat:Nat):Int):=by omega
    rw [e4]
    exact lX ys 5 _
   rw [ec6]
   have sl2:((ys.drop 5).take ((5+y4 % 3).toNat-5)).length<=2:=by
    rw [Oc,O9,hyl]
    omega
   have sl0:∀ x∈(ys.drop 5).take ((5+y4 % 3).toNat-5),0<=x:=fun x hx=>hy0 x (QV (Pg hx))
   generalize (ys.drop 5).take ((5+y4 % 3).toNat-5)=ss at sl2 sl0
   have g56:=aB hq6 (.lst (ss.map V.int))
   have e6:upd H5 q6 (.lst (ss.map V.int)) q6=some (.lst (ss.map V.int)):=ak
   generalize upd H5 q6 (.lst (ss.map V.int))=H5' at g56 e6
   refine ⟨p,q6,ss,p0,last,rfl,e6,sl2,sl0,g56 _ _ hp5,by omega,fun z hz=>hwd z (hpw z hz),fun bs os vb sl zs t H6 g6 hsl ht hvb hsl6 hzs hok=>?_⟩
   have hr6:=g6 _ _ (g56 _ _ hr5)
   refine ⟨r,_,_,rfl,rfl,hr6,by omega,?_⟩
   have ntr:t≠r:=fun e=>by rw [e,hr6] at ht; cases ht
   have npr:p≠r:=fun e=>by rw [e,hr5] at hp5; cases hp5
   have nsr:sl≠r:=fun e=>by rw [e,g56 _ _ hr5] at hsl; cases hsl
   have tup:∀ (H2:Hp),(∀ b o,b≠r->upd H6 r (.lst (xs++[.ref t])) b=some o->H2 b=some o)->∀ b o,b≠r->H6 b=some o->H2 b=some o:=fun H2 hk b o nb e=>hk b o nb (by rw [aC nb]; exact e)
   refine ⟨aL hr0 ((g1.trans g15).trans (g56.trans g6)) _,B++[(p0,last,bs,os)],xs++[.ref t],_,_,_,_,rfl,ak,fun H2 hk=>?_,by rw [Np,hBl] <;> rfl,fun e he=>?_⟩
   ·have hk6:=tup H2 hk
    have tk:TSame H6 H2:=fun b us e=>hk6 b _ (fun z=>by rw [z,hr6] at e; cases e) e
    refine cg (hB H2 fun b o nb e=>hk6 b o nb ((g15.trans (g56.trans g6)) _ _ e)) ?_
    obtain ⟨vb',bx,rfl,hv1,hv2⟩:=hvb
    exact ⟨t,p,.ref vb',sl,zs,rfl,hk6 _ _ ntr ht,hk6 _ _ npr (g6 _ _ (g56 _ _ hp5)),⟨vb',bx,rfl,tk _ _ hv1,Paired.mapP hv2 fun _ _ z=>z.mono tk⟩,hk6 _ _ nsr hsl6,Paired.mapP hzs fun _ _ z=>z.mono tk⟩
   ·rcases Nz.mp he with k | k
    ·exact hBo e k
    ·rw [Nq.mp k]; exact hok
 ·rintro σ' H1 ⟨g1,B,xs,u3,u4,u5,u6,rfl,hr1,hB,hBl,hBo⟩
  exact ⟨_,rfl,q B r xs H1 g1 hr0 hr1 (hB H1 fun _ _ _ z=>z) hBl hBo⟩
end
structure BkOk (H:Hp) (br me:Addr) (B:List Bk) (bx:List V) (ws:List Str):Prop where
 hb:H br=some (.lst bx)
 bk:Paired (bkR H) B bx
 bl:B.length=5
 ok:∀ e∈B,Bk.ok e
 hm:H me=some (.lst (ws.map V.str))
 ml:ws.length=10
 wd:∀ x∈ws,Wd x
theorem BkOk.keep {H H':Hp} {br me:Addr} {B:List Bk} {bx:List V} {ws:List Str} (h:BkOk H br me B bx ws) (g:Same H H'):BkOk H' br me B bx ws :=
 ⟨g _ _ h.hb,Paired.mapP h.bk fun _ _ z=>z.mono g,h.bl,h.ok,g _ _ h.hm,h.ml,h.wd⟩
theorem Bk.shape_ok {e:Bk} (h:Bk.ok e):∀ l∈Bk.shapes e,1<=l.length/\l.length<=4/\∀ z∈l,Wd z:=fun l hl=>by
 obtain ⟨o,ho,rfl⟩:=Oq.mp hl
 have h3:=h.len
 refine ⟨by rw [Np]; simp,by rw [Np]; show e.1.length+1<=4; omega,fun z hz=>?_⟩
 rcases Nz.mp hz with k | k
 ·exact h.wd z (O8 _ k)
 ·rw [Nq.mp k]
  rcases NT.mp ho with j | j
  ·rw [j]; exact h.wd _ (NZ _ Ny)
  ·exact h.wo o j
def qZ (K:Nh):Sp:=fun vs H Q _=>∃ (xr br me:Addr) (be:Int) (xs:List Int) (B:List Bk) (bx:List V) (ws:List Str),vs=[.ref xr,.ref br,.ref me,.int be]/\H xr=some (.lst (xs.map V.int))/\(∀ x∈xs,0<=x)/\xs.length<=8/\BkOk H br me B bx ws/\0<=be/\be<=5 /\
 ∀ (zs:List Str) p H',Same H H'->H' p=some (.tup (zs.map V.str))->xs.length<=zs.length->zs.length<=4*xs.length->(∀ z∈zs,Wd z)->Q (.ref p) H'
section
variable {P:Program} {w:World} {K:Nh} {mg:Str->Option Value} {base:Heap} {f:Addr} {fd:FuncData}
theorem iR:FnScope ["_law_xs","_law_book_here","_law_menu_here","_law_below","_law_row","_law_x","_law_shapes_here"] ["_law_xs","_law_book_here","_law_menu_here","_law_below"] (aA gO):=⟨rfl,rfl,rfl,by decide +kernel,rfl,by decide +kernel,by decide +kernel⟩
set_option maxHeartbeats 8000000 in
theorem BL (F:Fun K "_law_words" "_law_words" gO f fd) (T:Nm mg):FnOk P w K mg base CX0 1 f fd ["_law_xs","_law_book_here","_law_menu_here","_law_below"] (qZ K):=by
 refine F.ok iR (fun vs H Q E h=>?_) (fun cdv A outer s H vs Q E hr h=>?_)
 ·obtain ⟨xr,br,me,be,xs,B,bx,ws,rfl,_⟩:=h
  rfl
 obtain ⟨xr,br,me,be,xs,B,bx,ws,rfl,hxr,hx0,hx8,hK,be0,be5,q⟩:=h
 refine ⟨_,ao (aF (i:=4) iR.nd rfl (Or.inl rfl) (bh aq))
  (ao (cj PassesOwn.never rfl (cu (pv 0)) (aK (i:=5) iR.nd rfl (Or.inl rfl))
   (aD (bJ (PW.pt (jT (aN qe (aG bw (pv 5) au) au (bD _)) (jx (aN uh (pv 3) au (bD _)))))
    (ao (aF (i:=6) iR.nd rfl (Or.inl rfl) (aJ bA (aJ aZ (pv 1) (aG bw (aG dD (pv 5) au) (pv 3)) (fun _ _=>rfl)) au (fun _ _=>rfl)))
    (aD (aF (i:=4) iR.nd rfl (Or.inl rfl) (aG jj (pv 4) (aJ aZ (pv 6) (aG bw (aG dD (pv 5) au) (aH bB rfl T.len Ou (aj (pv 6) aq))) (fun _ _=>rfl))))))
    (aD (aF (i:=4) iR.nd rfl (Or.inl rfl) (aG jj (pv 4) (bh (aj (aJ aZ (pv 2) (aG bW au (aG bw (aG dD (pv 5) au) au)) (fun _ _=>rfl)) aq))))))))
  (aD (aU (pv 4)))),?_⟩
 have hb:=big
 refine ⟨(by show 0<=sizeLine; decide),fun p0 hp0=>?_⟩
 have k0:=aB hp0 (.tup [])
 have e0:upd H p0 (.tup []) p0=some (.tup (([]:List Str).map V.str)):=ak
 generalize upd H p0 (.tup [])=H0 at k0 e0
 refine ⟨_,rfl,xr,rfl,⟨_,SqL.of (k0 _ _ hxr)⟩,?_⟩
 refine cN (K:=K) (a:=xr) (xs:=xs.map V.int) (fun i σ' H'=>Same H H'/\∃ (zs:List Str) (p:Addr) (u5 u6:Option V),σ'=[some (.ref xr),some (.ref br),some (.ref me),some (.int be),some (.ref p),u5,u6]/\H' p=some (.tup (zs.map V.str))/\i<=zs.length/\zs.length<=4*i/\∀ z∈zs,Wd z) ?_ (fun i σ' H' _ h=>SqL.of (h.1 _ _ hxr)) ?_ ?_
 ·exact ⟨k0,[],p0,_,_,rfl,e0,Nu _,Nu _,fun _ z=>by cases z⟩
 ·rintro i y σ' H1 hi ⟨g1,zs,p,u5,u6,rfl,hp1,hz1,hz4,hzw⟩
  rw [NP] at hi
  cases ex:xs[i]? with
  | none=>rw [ex] at hi; cases hi
  | some x =>
   rw [ex] at hi
   cases hi
   have hi8:i<8:=by
    have:=(Nj.mp ex).1
    omega
   have K1:=hK.keep g1
   refine pC (decide (x % 3<2) && decide (be>0)) (qN _ _ (fun Q q=>⟨_,rfl,_,_,rfl,rfl,(by show (0:Int)<_; decide),_,_,rfl,rfl,_,rfl,q⟩) (fun _ Q q=>⟨_,rfl,_,_,rfl,rfl,_,rfl,q⟩)) (fun z=>?_) (fun _=>?_)
   ·have hbe:be>0:=of_decide_eq_true (Ph.mp z).2
    have q0:0<=x / 3 % be:=Ol _ (by omega)
    have q1:x / 3 % be<be:=Oo _ hbe
    have bxl:bx.length=5:=by rw [<- Paired.length K1.bk,K1.bl]
    have hk:(x / 3 % be).toNat<bx.length:=by omega
    obtain ⟨e,he,t,a,vb,sl,ys,ev,t1,t2,t3,t4,t5⟩:=aY K1.bk (Nr hk)
    have ek:x / 3 % be=(((x / 3 % be).toNat:Nat):Int):=by omega
    have ea:atI bx (x / 3 % be)=some (.ref t):=by
     rw [ek]
     exact dh (by rw [Nr hk,ev])
    have heo:=K1.ok e (Nv he)
    refine ⟨_,rfl,_,rfl,_,_,rfl,rfl,⟨by decide,by decide⟩,_,rfl,_,_,rfl,rfl,hbe,br,_,_,_,rfl,rfl,SqL.of K1.hb,ea,t,_,_,_,rfl,rfl,SqT.of t1,rfl,?_⟩
    have yl:ys.length=(Bk.shapes e).length:=(Paired.length t5).symm
    have yl1:1<=ys.length:=by rw [yl]; unfold Bk.shapes; rw [Ng]; simp
    have s0:0<=x / 15 % (ys.length:Int):=Ol _ (by omega)
    have s1:x / 15 % (ys.length:Int)<(ys.length:Int):=Oo _ (by omega)
    have hk2:(x / 15 % (ys.length:Int)).toNat<ys.length:=by omega
    obtain ⟨l,hl,la,le,lh⟩:=aY t5 (Nr hk2)
    have ek2:x / 15 % (ys.length:Int)=(((x / 15 % (ys.length:Int)).toNat:Nat):Int):=by omega
    have el:atI ys (x / 15 % (ys.length:Int))=some (.ref la):=by
     rw [ek2]
     exact dh (by rw [Nr hk2,le])
    obtain ⟨l1,l4,lw⟩:=Bk.shape_ok heo l (Nv hl)
    refine ⟨_,rfl,_,rfl,_,rfl,_,_,rfl,rfl,⟨by decide,by decide⟩,_,rfl,sl,_,rfl,.inl (SqL.of t4),_,_,rfl,rfl,(by show (0:Int)<(ys.length:Int); omega),sl,_,_,_,rfl,rfl,SqL.of t4,el,p,la,_,_,rfl,rfl,hp1,lh,by rw [Ng,Ng]; omega,fun p2 H2 g2 h2=>?_⟩
    refine ⟨g1.trans g2,zs++l,p2,_,_,rfl,by rw [h2,NK],by rw [Np]; omega,by rw [Np]; omega,fun z hz=>?_⟩
    rcases Nz.mp hz with k | k
    ·exact hzw z k
    ·exact lw z k
   ·have q0:0<=x / 3 % 5:=Ol _ (by decide)
    have q1:x / 3 % 5<5:=Oo _ (by decide)
    have ml:=K1.ml
    obtain ⟨x1,hx1,ex1⟩:=pI (ws:=ws) (k:=5+x / 3 % 5) (by omega) (by omega)
    refine ⟨_,rfl,_,rfl,_,rfl,_,_,rfl,rfl,⟨by decide,by decide⟩,_,_,rfl,rfl,(by show (0:Int)<_; decide),_,_,rfl,rfl,me,_,_,_,rfl,rfl,SqL.of K1.hm,ex1,(by show 1<=sizeLine; decide),fun p2 hp2=>?_⟩
    have g2:=aB hp2 (.tup [.str x1])
    refine ⟨p,p2,_,_,rfl,rfl,g2 _ _ hp1,ak,by rw [Ng]; show _+1<=_; omega,fun p3 H3 g3 h3=>?_⟩
    refine ⟨g1.trans (g2.trans g3),zs++[x1],p3,_,_,rfl,by rw [h3,NK] <;> rfl,by rw [Np]; show _<=_+1; omega,by rw [Np]; show _+1<=_; omega,fun z hz=>?_⟩
    rcases Nz.mp hz with k | k
    ·exact hzw z k
    ·rw [Nq.mp k]; exact K1.wd x1 hx1
 ·rintro σ' H1 ⟨g1,zs,p,u5,u6,rfl,hp1,hz1,hz4,hzw⟩
  rw [Ng] at hz1 hz4
  exact ⟨_,rfl,q zs p H1 g1 hp1 hz1 hz4 hzw⟩
end
structure TlW (sc:Str) (ph:List Str) (bs:List (Str×Str)) (ms:List Str):Prop where
 sc:sc∈jo
 ph:∃ p0 last os,ph=p0++[last]/\ShOk p0 last bs os
 m1:1<=ms.length
 m2:ms.length<=32
 mw:∀ z∈ms,Wd z
def zM (K:Nh):Sp:=fun vs H Q _=>∃ (xr br me:Addr) (n hd be:Int) (xs:List Int) (B:List Bk) (bx:List V) (ws:List Str),vs=[.ref xr,.int n,.int hd,.ref br,.ref me,.int be]/\H xr=some (.lst (xs.map V.int))/\(∀ x∈xs,0<=x)/\xs.length=8/\BkOk H br me B bx ws/\0<=hd/\hd<5/\0<=be/\be<=5 /\
 ∀ sc ph bs ms v H',Same H H'->tellR H' n sc ph bs ms v->TlW sc ph bs ms->Q v H'
section
variable {P:Program} {w:World} {K:Nh} {mg:Str->Option Value} {base:Heap} {f:Addr} {fd:FuncData}
theorem kh:FnScope ["_law_xs","_law_number_here","_law_head","_law_book_here","_law_menu_here","_law_below","_law_scope","_law_phrase","_law_bends"] ["_law_xs","_law_number_here","_law_head","_law_book_here","_law_menu_here","_law_below"] (aA fj):=⟨rfl,rfl,rfl,by decide +kernel,rfl,by decide +kernel,by decide +kernel⟩
set_option maxHeartbeats 8000000 in
theorem CV (F:Fun K "_law_telling" "_law_telling" fj f fd) (GW:Def P w K mg base CX0 1 "_law_words" ["_law_xs","_law_book_here","_law_menu_here","_law_below"] (qZ K)):FnOk P w K mg base CX0 2 f fd ["_law_xs","_law_number_here","_law_head","_law_book_here","_law_menu_here","_law_below"] (zM K):=by
 refine F.ok kh (fun vs H Q E h=>?_) (fun cdv A outer s H vs Q E hr h=>?_)
 ·obtain ⟨xr,br,me,n,hd,be,xs,B,bx,ws,rfl,_⟩:=h
  rfl
 obtain ⟨xr,br,me,n,hd,be,xs,B,bx,ws,rfl,hxr,hx0,hx8,hK,hd0,hd5,be0,be5,q⟩:=h
 refine ⟨_,ao (aF (i:=6) kh.nd rfl (Or.inl rfl) (aJ aZ (cD (aj cJ (aj cJ (aj cJ (aj cJ aq))))) (aG bw (aJ aZ (pv 0) au (fun _ _=>rfl)) au) (fun _ _=>rfl)))
  (ao (aF (i:=7) kh.nd rfl (Or.inl rfl) (aJ bA (aJ aZ (pv 3) (pv 2) (fun _ _=>rfl)) au (fun _ _=>rfl)))
  (ao (aF (i:=8) kh.nd rfl (Or.inl rfl) (aJ bA (aJ aZ (pv 3) (pv 2) (fun _ _=>rfl)) au (fun _ _=>rfl)))
  (ao (bJ (aN eG (aG bw (aG dD (aJ aZ (pv 0) au (fun _ _=>rfl)) au) au) au (bD _))
   (ao (aF (i:=7) kh.nd rfl (Or.inl rfl) (bh (aj (aJ aZ (pv 4) (pv 2) (fun _ _=>rfl)) aq)))
   (aD (aF (i:=8) kh.nd rfl (Or.inl rfl) (bh aq)))) aR)
  (aD (aU (bh (aj cJ (aj (pv 1) (aj (pv 6) (aj (pv 7) (aj (pv 8) (aj (aX GW hr (aj (cM lU (pv 0) (bY au) (bY (aG bW au (aG bw (aJ aZ (pv 0) au (fun _ _=>rfl)) au)))) (aj (pv 3) (aj (pv 4) (aj (pv 5) aq))))) aq)))))))))))),?_⟩
 have hb:=big
 obtain ⟨x2,hx2,ex2⟩:=sH (xs:=xs) (k:=2) (by omega)
 obtain ⟨x1,hx1,ex1⟩:=sH (xs:=xs) (k:=1) (by omega)
 obtain ⟨sc,hsc,esc⟩:=pI (ws:=jo) (k:=x2 % 4) (Ol _ (by decide)) (by show x2 % 4<4; exact Oo _ (by decide))
 refine ⟨(by show 4<=sizeLine; decide),fun p1 hp1=>?_⟩
 have g1:Same H (upd H p1 (.lst [.str "all",.str "part",.str "here",.str "else"])):=aB hp1 _
 have e1:upd H p1 (.lst [.str "all",.str "part",.str "here",.str "else"]) p1=some (.lst (jo.map V.str)):=ak
 generalize upd H p1 (.lst [.str "all",.str "part",.str "here",.str "else"])=H1 at g1 e1
 refine ⟨_,rfl,xr,_,_,_,rfl,rfl,SqL.of (g1 _ _ hxr),ex2,_,_,rfl,rfl,(by show (0:Int)<_; decide),p1,_,_,_,rfl,rfl,SqL.of e1,esc,?_⟩
 have K1:=hK.keep g1
 have bxl:bx.length=5:=by rw [<- Paired.length K1.bk,K1.bl]
 have hk:hd.toNat<bx.length:=by omega
 obtain ⟨e,he,t,a,vb,sl,ys,ev,t1,t2,t3,t4,t5⟩:=aY K1.bk (Nr hk)
 have ek:hd=((hd.toNat:Nat):Int):=by omega
 have ea:atI bx hd=some (.ref t):=by
  rw [ek]
  exact dh (by rw [Nr hk,ev])
 have heo:=K1.ok e (Nv he)
 refine ⟨_,rfl,_,rfl,br,_,_,_,rfl,rfl,SqL.of K1.hb,ea,t,_,_,_,rfl,rfl,SqT.of t1,rfl,?_⟩
 refine ⟨_,rfl,_,rfl,br,_,_,_,rfl,rfl,SqL.of K1.hb,ea,t,_,_,_,rfl,rfl,SqT.of t1,rfl,?_⟩
 refine qL ?_
 have ml:=K1.ml
 have r0:0<=x1 % 4:=Ol _ (by decide)
 have r1:x1 % 4<4:=Oo _ (by decide)
 refine pF (decide (V.int (x2 / 4 % 5)=V.int 1)) (fun σ H2=>Same H1 H2/\∃ (ph:List Str) (bs:List (Str×Str)) (vp vb:V),σ=[some (.ref xr),some (.int n),some (.int hd),some (.ref br),some (.ref me),some (.int be),some (.str sc),some vp,some vb]/\wR H2 ph vp/\bR H2 bs vb/\∃ p0 last os,ph=p0++[last]/\ShOk p0 last bs os) (fun Q q=>⟨_,rfl,xr,_,_,_,rfl,rfl,SqL.of (g1 _ _ hxr),ex2,_,_,rfl,rfl,⟨by decide,by decide⟩,_,_,rfl,rfl,(by show (0:Int)<_; decide),rfl,_,rfl,q⟩) (fun _ Nx hN=>?_) (fun _=>⟨Same.refl _,e.1++[e.2.1],e.2.2.1,.ref a,vb,rfl,⟨a,rfl,t2⟩,t3,e.1,e.2.1,e.2.2.2,rfl,heo⟩) ?_
 ·obtain ⟨x0,hx0',ex0⟩:=pI (ws:=ws) (k:=hd) hd0 (by omega)
  refine ⟨_,rfl,_,rfl,me,_,_,_,rfl,rfl,SqL.of K1.hm,ex0,(by show 1<=sizeLine; decide),fun p2 hp2=>?_⟩
  have g2:=aB hp2 (.tup [.str x0])
  have e2:upd H1 p2 (.tup [.str x0]) p2=some (.tup ([x0].map V.str)):=ak
  generalize upd H1 p2 (.tup [.str x0])=H2 at g2 e2
  refine ⟨(by show 0<=sizeLine; decide),fun p3 hp3=>?_⟩
  have g3:=aB hp3 (.tup [])
  refine hN _ _ ⟨g2.trans g3,[x0],[],.ref p2,.ref p3,rfl,⟨p2,rfl,g3 _ _ e2⟩,⟨p3,[],rfl,ak,.nil⟩,[],x0,[],rfl,⟨by simp,fun z hz=>?_,.nil,by simp,(fun _ z=>by cases z),by simp⟩⟩
  rw [Nq.mp hz]
  exact K1.wd x0 hx0'
 rintro σ2 H2 ⟨g2,ph,bs,vp,vb',rfl,hph,hbs,hsh⟩
 have hxr2:=g2 _ _ (g1 _ _ hxr)
 refine ⟨_,rfl,_,rfl,_,rfl,_,rfl,_,rfl,_,rfl,_,rfl,xr,_,_,_,rfl,rfl,SqL.of hxr2,ex1,_,_,rfl,rfl,(by show (0:Int)<_; decide),_,_,rfl,rfl,_,rfl,xr,_,rfl,SqL.of hxr2,fun p4 hp4=>?_⟩
 have ec:cutV (xs.map V.int) (some 3) (some (4+x1 % 4))=((xs.drop 3).take ((4+x1 % 4).toNat-3)).map V.int:=by
  have e4:4+x1 % 4=(((4+x1 % 4).toNat:Nat):Int):=by omega
  rw [e4]
  exact lX xs 3 _
 rw [ec]
 have g4:=aB hp4 (.lst (((xs.drop 3).take ((4+x1 % 4).toNat-3)).map V.int))
 have e4:upd H2 p4 (.lst (((xs.drop 3).take ((4+x1 % 4).toNat-3)).map V.int)) p4=some (.lst (((xs.drop 3).take ((4+x1 % 4).toNat-3)).map V.int)):=ak
 generalize upd H2 p4 (.lst (((xs.drop 3).take ((4+x1 % 4).toNat-3)).map V.int))=H4 at g4 e4
 have sl1:((xs.drop 3).take ((4+x1 % 4).toNat-3)).length=(4+x1 % 4).toNat-3:=by
  rw [Oc,O9,hx8]
  omega
 refine ⟨_,rfl,_,rfl,_,rfl,p4,br,me,be,_,B,bx,ws,rfl,e4,fun x hx=>hx0 x (QV (Pg hx)),by omega,K1.keep (g2.trans g4),be0,be5,fun zs p5 H5 g5 h5 hz1 hz2 hzw=>?_⟩
 refine ⟨(by show 6<=sizeLine; decide),fun p6 hp6=>?_⟩
 have g6:=aB hp6 (.tup [.str "tell",.int n,.str sc,vp,vb',.ref p5])
 have g26:=(g4.trans g5).trans g6
 exact q sc ph bs zs _ _ ((g1.trans g2).trans g26) ⟨p6,vp,vb',.ref p5,rfl,ak,hph.mono g26.t,hbs.mono g26.t,⟨p5,rfl,g6 _ _ h5⟩⟩ ⟨hsc,hsh,by omega,by omega,hzw⟩
end
def sy (ns:List Int):Int:=if cZ ns 1 / 42 % 2=1 then 1+cZ ns 2 % 10 ^ (59:Int).toNat else 1+cZ ns 2 % 9
def numU (ns:List Int) (k:Int):Int:=sy ns+k*(1+cZ ns 1 % 42) % 43*(1+cZ ns 1 / 84 % 1000)
theorem Lk:∀ m:Fin 43,1<=m.val->∃ i:Fin 43,m.val*i.val % 43=1:=by decide
theorem Mi {k j m:Int} (k0:0<=k) (k1:k<43) (j0:0<=j) (j1:j<43) (m1:1<=m) (m2:m<=42) (h:k*m % 43=j*m % 43):k=j:=by
 obtain ⟨i,hi⟩:=Lk ⟨m.toNat,by omega⟩ (by show 1<=m.toNat; omega)
 have hi:m*(i.val:Int) % 43=1:=by
  have e:(((m.toNat*i.val % 43:Nat)):Int)=1:=by rw [hi]; rfl
  rw [WL,Int.natCast_mul] at e
  have em:((m.toNat:Nat):Int)=m:=by omega
  rw [em] at e
  exact e
 have step:∀ x:Int,0<=x->x<43->x=(x*m % 43)*(i.val:Int) % 43:=fun x x0 x1=>by
  rw [Wu (x*m % 43),Vw _ (Int.dvd_refl 43),<- Wu,Int.mul_assoc,Wu,hi,Int.mul_one,Vw _ (Int.dvd_refl 43),Int.emod_eq_of_lt x0 x1]
 rw [step k k0 k1,step j j0 j1,h]
theorem Av (ns:List Int):1<=sy ns:=by
 unfold sy
 split
 ·have:0<=cZ ns 2 % 10 ^ (59:Int).toNat:=Ol _ (by decide)
  omega
 ·have:0<=cZ ns 2 % 9:=Ol _ (by decide)
  omega
theorem pU (ns:List Int) (k:Int):0<numU ns k:=by
 have h1:=Av ns
 have h2:0<=k*(1+cZ ns 1 % 42) % 43:=Ol _ (by decide)
 have h3:0<=cZ ns 1 / 84 % 1000:=Ol _ (by decide)
 have h4:=Int.mul_nonneg h2 (show 0<=1+cZ ns 1 / 84 % 1000 by omega)
 unfold numU
 omega
theorem qg (ns:List Int) {k j:Int} (k0:0<=k) (k1:k<43) (j0:0<=j) (j1:j<43) (h:numU ns k=numU ns j):k=j:=by
 have h3:0<=cZ ns 1 / 84 % 1000:=Ol _ (by decide)
 have m0:0<=cZ ns 1 % 42:=Ol _ (by decide)
 have m1:cZ ns 1 % 42<42:=Oo _ (by decide)
 unfold numU at h
 have h4:k*(1+cZ ns 1 % 42) % 43*(1+cZ ns 1 / 84 % 1000)=j*(1+cZ ns 1 % 42) % 43*(1+cZ ns 1 / 84 % 1000):=by omega
 exact Mi k0 k1 j0 j1 (by omega) (by omega) (Int.eq_of_mul_eq_mul_right (by omega) h4)
def DQ (K:Nh):Sp:=fun vs H Q _=>∃ (a:Addr) (ns:List Int) (k:Int),vs=[.ref a,.int k]/\SqL K H a (ns.map V.int)/\ns.length<=63/\0<=k/\k<=42/\Q (.int (numU ns k)) H
section
variable {P:Program} {w:World} {K:Nh} {mg:Str->Option Value} {base:Heap} {f:Addr} {fd:FuncData}
theorem uG:FnScope ["_law_script","_law_k","_law_cell_here","_law_base"] ["_law_script","_law_k"] (aA fX):=⟨rfl,rfl,rfl,by decide +kernel,rfl,by decide +kernel,by decide +kernel⟩
set_option maxHeartbeats 4000000 in
theorem Ir (F:Fun K "_law_number" "_law_number" fX f fd) (GC:Def P w K mg base CX0 1 "_law_cell" ["_law_script","_law_k"] (qM K)):FnOk P w K mg base CX0 2 f fd ["_law_script","_law_k"] (DQ K):=by
 refine F.ok uG (fun vs H Q E h=>?_) (fun cdv A outer s H vs Q E hr h=>?_)
 ·obtain ⟨a,ns,k,rfl,_⟩:=h
  rfl
 obtain ⟨a,ns,k,rfl,hS,h63,k0,k42,q⟩:=h
 refine ⟨_,ao (aF (i:=2) uG.nd rfl (Or.inl rfl) (aX GC hr (aj (pv 0) (aj au aq))))
  (ao (aF (i:=3) uG.nd rfl (Or.inl rfl) (aG bW au (aG bw (aX GC hr (aj (pv 0) (aj au aq))) au)))
  (ao (bJ (aN eG (aG bw (aG dD (pv 2) au) au) au (bD _))
   (aD (aF (i:=3) uG.nd rfl (Or.inl rfl) (aG bW au (aG bw (aX GC hr (aj (pv 0) (aj au aq))) (aG yJ au au))))) aR)
  (aD (aU (aG bW (pv 3) (aG fZ (aG bw (aG fZ (pv 1) (aG bW au (aG bw (pv 2) au))) au) (aG bW au (aG bw (aG dD (pv 2) au) au)))))))),?_⟩
 have r0:0<=k*(1+cZ ns 1 % 42) % 43:=Ol _ (by decide)
 have r1:k*(1+cZ ns 1 % 42) % 43<43:=Oo _ (by decide)
 refine ⟨_,rfl,a,ns,1,rfl,hS,h63,by decide,by decide,?_⟩
 refine ⟨_,rfl,a,ns,2,rfl,hS,h63,by decide,by decide,_,_,rfl,rfl,(by show (0:Int)<_; decide),_,_,rfl,rfl,?_⟩
 refine qL ?_
 refine pF (decide (V.int (cZ ns 1 / 42 % 2)=V.int 1)) (fun σ H2=>H2=H/\σ=[some (.ref a),some (.int k),some (.int (cZ ns 1)),some (.int (sy ns))]) (fun Q q=>⟨_,rfl,_,_,rfl,rfl,⟨by decide,by decide⟩,_,_,rfl,rfl,(by show (0:Int)<_; decide),rfl,_,rfl,q⟩) (fun z Nx hN=>?_) (fun z=>⟨rfl,?_⟩) ?_
 ·have z1:cZ ns 1 / 42 % 2=1:=V.int.inj (of_decide_eq_true z)
  refine ⟨_,rfl,a,ns,2,rfl,hS,h63,by decide,by decide,_,_,rfl,rfl,⟨by decide,by decide,by decide⟩,_,_,rfl,rfl,(by show (0:Int)<10 ^ (59:Int).toNat; decide),_,_,rfl,rfl,?_⟩
  refine hN _ _ ⟨rfl,?_⟩
  unfold sy
  rw [if_pos z1]
  rfl
 ·have z1:¬ cZ ns 1 / 42 % 2=1:=fun e=>by rw [e] at z; cases z
  unfold sy
  rw [if_neg z1]
  rfl
 rintro σ2 H2 ⟨rfl,rfl⟩
 exact ⟨_,rfl,_,rfl,_,rfl,_,_,rfl,rfl,(by show (0:Int)<_; decide),_,_,rfl,rfl,_,_,rfl,rfl,.inl ⟨by omega,by omega⟩,_,_,rfl,rfl,(by show (0:Int)<_; decide),_,rfl,_,_,rfl,rfl,⟨by decide,by decide⟩,_,_,rfl,rfl,(by show (0:Int)<_; decide),_,_,rfl,rfl,_,_,rfl,rfl,.inl ⟨by omega,by omega⟩,_,_,rfl,rfl,q⟩
end
abbrev Rw:=List Int×(Int ⊕ Th)
def Rw.num (r:Rw):Int:=match r.2 with
 | .inl n=>n
 | .inr t=>t.num
def rwU (H:Hp) (r:Rw) (v:V):Prop:=∃ a pa x,v=.ref a/\H a=some (.tup [.ref pa,x])/\H pa=some (.tup (r.1.map V.int))/\match r.2 with
 | .inl n=>∃ q,x=.ref q/\H q=some (.tup [.str "part",.int n])
 | .inr t=>thR H t x
theorem rwU.mono {H H':Hp} {r:Rw} {v:V} (h:rwU H r v) (g:TSame H H'):rwU H' r v:=by
 obtain ⟨a,pa,x,e,h1,h2,h3⟩:=h
 obtain ⟨p,y⟩:=r
 refine ⟨a,pa,x,e,g _ _ h1,g _ _ h2,?_⟩
 cases y with
 | inl n=>obtain ⟨q,e,h⟩:=h3; exact ⟨q,e,g _ _ h⟩
 | inr t=>exact thR.mono h3 g
def LeafU (t:Th):Prop:=(∃ n zs,t=.say n zs/\1<=zs.length/\zs.length<=32/\∀ z∈zs,Wd z)∨∃ n sc ph bs ms,t=.tell n sc ph bs ms/\TlW sc ph bs ms
def PathOk (R:List Rw) (p:List Int):Prop:=p.length<=9/\(p=[0]∨∃ q n,((q,Sum.inl n):Rw)∈R/\p=q++[n])
theorem PathOk.mono {R R':List Rw} {p:List Int} (h:PathOk R p) (g:∀ r∈R,r∈R'):PathOk R' p :=
 ⟨h.1,h.2.imp id fun ⟨q,n,hm,e⟩=>⟨q,n,g _ hm,e⟩⟩
structure RwsOk (ns:List Int) (R:List Rw) (path:List Int):Prop where
 num:∀ (j:Nat) (r:Rw),R[j]?=some r->Rw.num r=numU ns (j:Int)
 leaf:∀ p t,((p,Sum.inr t):Rw)∈R->LeafU t
 pth:∀ (j:Nat) (r:Rw),R[j]?=some r->PathOk (R.take j) r.1
 cur:PathOk R path
 prt:∀ p n,((p,Sum.inl n):Rw)∈R->p.length<=8
theorem RwsOk.start (ns:List Int):RwsOk ns [] [0]:=⟨(fun j r e=>by rw [Q0] at e; cases e),(fun p t h=>by cases h),(fun j r e=>by rw [Q0] at e; cases e),⟨by decide,.inl rfl⟩,(fun p n h=>by cases h)⟩
theorem RwsOk.put {ns:List Int} {R:List Rw} {path path':List Int} {x:Int ⊕ Th} (h:RwsOk ns R path) (hn:Rw.num (path,x)=numU ns (R.length:Int)) (hl:∀ t,x=.inr t->LeafU t) (hq:∀ n,x=.inl n->path.length<=8) (hp:PathOk (R++[(path,x)]) path'):RwsOk ns (R++[(path,x)]) path':=by
 have at':∀ (j:Nat) (r:Rw),(R++[(path,x)])[j]?=some r->(R[j]?=some r/\j<R.length)∨(j=R.length/\r=(path,x)):=fun j r e=>by
  by_cases hj:j<R.length
  ·rw [Ox hj] at e
   exact .inl ⟨e,hj⟩
  ·rw [Px (by omega)] at e
   have hj2:j=R.length:=by
    have:=(Nj.mp e).1
    simp at this
    omega
   subst hj2
   rw [TQ] at e
   cases e
   exact .inr ⟨rfl,rfl⟩
 refine ⟨fun j r e=>?_,fun p t hm=>?_,fun j r e=>?_,hp,fun p n hm=>?_⟩
 ·rcases at' j r e with ⟨e,_⟩ | ⟨rfl,rfl⟩
  ·exact h.num j r e
  ·exact hn
 ·rcases Nz.mp hm with z | z
  ·exact h.leaf p t z
  ·have:=Nq.mp z
   cases this
   exact hl t rfl
 ·rcases at' j r e with ⟨e,hj⟩ | ⟨rfl,rfl⟩
  ·rw [Q9 (by omega)]
   exact h.pth j r e
  ·rw [Q9 (Nu _),Oa]
   exact h.cur
 ·rcases Nz.mp hm with z | z
  ·exact h.prt p n z
  ·have:=Nq.mp z
   cases this
   exact hq n rfl
theorem RwsOk.back {ns:List Int} {R:List Rw} {path:List Int} (h:RwsOk ns R path) (h1:1<path.length):RwsOk ns R path.dropLast:=by
 refine ⟨h.num,h.leaf,h.pth,?_,h.prt⟩
 obtain ⟨hl,e | ⟨q,n,hm,e⟩⟩:=h.cur
 ·rw [e] at h1
  exact absurd h1 (by decide)
 ·rw [e,Vx]
  obtain ⟨j,hj⟩:=Og hm
  exact (h.pth j _ hj).mono fun r hr=>Pg hr
def uF (K:Nh):Sp:=fun vs H Q _=>∃ (a:Addr) (ns:List Int),vs=[.ref a,.int 20]/\SqL K H a (ns.map V.int)/\ns.length<=63 /\
 ∀ (R:List Rw) (path:List Int) (zs:List Str) r xs H',Same H H'->H r=none->H' r=some (.lst xs)->Paired (rwU H') (R++[([0],.inr (.say (numU ns 41) zs))]) xs->RwsOk ns R path->R.length<=20->1<=zs.length->zs.length<=32->(∀ z∈zs,Wd z)->Q (.ref r) H'
section
variable {P:Program} {w:World} {K:Nh} {mg:Str->Option Value} {base:Heap} {f:Addr} {fd:FuncData}
theorem dJ:FnScope ["_law_script","_law_most","_law_menu_here","_law_book_here","_law_cell_here","_law_rows_here","_law_path","_law_told","_law_k","_law_xs","_law_number_here","_law_head","_law_below"] ["_law_script","_law_most"] (aA iZ):=⟨rfl,rfl,rfl,by decide +kernel,rfl,by decide +kernel,by decide +kernel⟩
set_option maxHeartbeats 8000000 in
theorem Fi (F:Fun K "_law_rows" "_law_rows" iZ f fd) (T:Nm mg) (GC:Def P w K mg base CX0 1 "_law_cell" ["_law_script","_law_k"] (qM K)) (GM:Def P w K mg base CX0 3 "_law_menu" ["_law_script"] (Ah K)) (GS:Def P w K mg base CX0 2 "_law_stream" ["_law_cell_here","_law_many"] mQ) (GB:Def P w K mg base CX0 4 "_law_book" ["_law_script","_law_menu_here"] (Fe K)) (GW:Def P w K mg base CX0 1 "_law_words" ["_law_xs","_law_book_here","_law_menu_here","_law_below"] (qZ K)) (GT:Def P w K mg base CX0 2 "_law_telling" ["_law_xs","_law_number_here","_law_head","_law_book_here","_law_menu_here","_law_below"] (zM K)) (GN:Def P w K mg base CX0 2 "_law_number" ["_law_script","_law_k"] (DQ K)):FnOk P w K mg base CX0 5 f fd ["_law_script","_law_most"] (uF K):=by
 refine F.ok dJ (fun vs H Q E h=>?_) (fun cdv A outer s H vs Q E hr h=>?_)
 ·obtain ⟨a,ns,rfl,_⟩:=h
  rfl
 obtain ⟨a,ns,rfl,hS,h63,q⟩:=h
 refine ⟨_,ao (aF (i:=2) dJ.nd rfl (Or.inl rfl) (aX GM (hr.mono (by decide)) (aj (pv 0) aq)))
  (ao (aF (i:=3) dJ.nd rfl (Or.inl rfl) (aX GB hr (aj (pv 0) (aj (pv 2) aq))))
  (ao (aF (i:=4) dJ.nd rfl (Or.inl rfl) (aX GC (hr.mono (by decide)) (aj (pv 0) (aj au aq))))
  (ao (aF (i:=5) dJ.nd rfl (Or.inl rfl) (cD aq))
  (ao (aF (i:=6) dJ.nd rfl (Or.inl rfl) (bh (aj au aq)))
  (ao (aF (i:=7) dJ.nd rfl (Or.inl rfl) au)
  (ao (cj PassesOwn.never rfl (sS rfl T.range (aj au (aj (aH (sU rfl) rfl T.mx S7 (aj au (aj (aH (sI rfl) rfl T.mn Vj (aj (aG bW au (pv 1)) (aj (aH bB rfl T.len Ou (aj (pv 0) aq)) aq))) aq))) aq))) (aK (i:=8) dJ.nd rfl (Or.inl rfl))
   (ao (aF (i:=9) dJ.nd rfl (Or.inl rfl) (aX GS (hr.mono (by decide)) (aj (aX GC (hr.mono (by decide)) (aj (pv 0) (aj (pv 8) aq))) (aj au aq))))
   (ao (aF (i:=10) dJ.nd rfl (Or.inl rfl) (aX GN (hr.mono (by decide)) (aj (pv 0) (aj (aH bB rfl T.len Ou (aj (pv 5) aq)) aq))))
   (aD (bJ (PW.pt (jT (aN eG (aG bw (aJ aZ (pv 9) au (fun _ _=>rfl)) au) au (bD _)) (jx (aN uh (aH bB rfl T.len Ou (aj (pv 6) aq)) au (bD _)))))
    (aD (aF (i:=6) dJ.nd rfl (Or.inl rfl) (cM o7 (pv 6) fO (bY (jM gW au)))))
    (aD (bJ (PW.pt (jT (aN eG (aG bw (aJ aZ (pv 9) au (fun _ _=>rfl)) au) au (bD _)) (jx (aN GJ (aH bB rfl T.len Ou (aj (pv 6) aq)) au (bD _)))))
     (ao (cC (dZ Ob Oh Oi bO (pv 5) (aj (bh (aj (pv 6) (aj (bh (aj cJ (aj (pv 10) aq))) aq))) aq)))
     (aD (aF (i:=6) dJ.nd rfl (Or.inl rfl) (aG jj (pv 6) (bh (aj (pv 10) aq))))))
     (aD (bJ (aN qe (aG bw (aJ aZ (pv 9) au (fun _ _=>rfl)) au) au (bD _))
      (ao (aF (i:=11) dJ.nd rfl (Or.inl rfl) (aG bw (aG bW (aG dD (pv 4) au) (aG fZ (pv 7) (aG bW au (aG bw (pv 4) au)))) au))
      (ao (aF (i:=12) dJ.nd rfl (Or.inl rfl) (aJ aZ (cD (aj (pv 11) (aj au aq))) (eF sV rfl T.int Rt (aj (o8 eG (aG bw (aG dD (pv 4) au) au) au (bD _)) aq)) (fun _ _=>rfl)))
      (ao (cC (dZ Ob Oh Oi bO (pv 5) (aj (bh (aj (pv 6) (aj (aX GT (hr.mono (by decide)) (aj (pv 9) (aj (pv 10) (aj (pv 11) (aj (pv 3) (aj (pv 2) (aj (pv 12) aq))))))) aq))) aq)))
      (aD (aF (i:=7) dJ.nd rfl (Or.inl rfl) (aG bW (pv 7) au))))))
      (aD (cC (dZ Ob Oh Oi bO (pv 5) (aj (bh (aj (pv 6) (aj (bh (aj cJ (aj (pv 10) (aj (aX GW (hr.mono (by decide)) (aj (cM lU (pv 9) (bY au) (bY (aG bW au (aG bw (aJ aZ (pv 9) au (fun _ _=>rfl)) au)))) (aj (pv 3) (aj (pv 2) (aj au aq))))) aq)))) aq))) aq)))))))))))))
  (aD (aU (aG xQ (pv 5) (cD (aj (bh (aj (bh (aj au aq)) (aj (bh (aj cJ (aj (aX GN (hr.mono (by decide)) (aj (pv 0) (aj au aq))) (aj (aX GW (hr.mono (by decide)) (aj (aX GS (hr.mono (by decide)) (aj (aG dD (pv 4) au) (aj au aq))) (aj (pv 3) (aj (pv 2) (aj au aq))))) aq)))) aq))) aq))))))))))),?_⟩
 have hb:=big
 refine ⟨_,rfl,a,ns,rfl,hS,h63,fun ws me H1 g1 hme _ hw10 hwd=>?_⟩
 refine ⟨_,rfl,_,rfl,a,me,ns,ws,rfl,g1.seq hS,h63,hme,hw10,hwd,fun B br bx H2 g2 hbr0 hbr hB hBl hBo=>?_⟩
 have K2:BkOk H2 br me B bx ws:=⟨hbr,hB,hBl,hBo,g2 _ _ hme,hw10,hwd⟩
 have g12:=g1.trans g2
 refine ⟨_,rfl,a,ns,3,rfl,g12.seq hS,h63,by decide,by decide,?_⟩
 generalize cZ ns 3=c
 refine ⟨(by show 0<=sizeLine; decide),fun r hr0=>?_⟩
 have g3:=aB hr0 (.lst [])
 have e3:upd H2 r (.lst []) r=some (.lst []):=ak
 generalize upd H2 r (.lst [])=H3 at g3 e3
 refine ⟨(by show 1<=sizeLine; decide),fun p0 hp0=>?_⟩
 have g4:=aB hp0 (.tup [.int 0])
 have e4:upd H3 p0 (.tup [.int 0]) p0=some (.tup (([0]:List Int).map V.int)):=ak
 generalize upd H3 p0 (.tup [.int 0])=H4 at g4 e4
 have hrH:H r=none:=g12.free hr0
 have g24:=g3.trans g4
 refine ⟨_,rfl,_,_,rfl,rfl,_,rfl,a,_,rfl,.inl ((g12.trans g24).seq hS),_,_,rfl,_,_,rfl,?_⟩
 have hN:∃ N:Int,(if (if (((ns.map V.int).length:Nat):Int)<9+20 then (((ns.map V.int).length:Nat):Int) else 9+20)>16 then (if (((ns.map V.int).length:Nat):Int)<9+20 then (((ns.map V.int).length:Nat):Int) else 9+20) else 16)=N/\16<=N/\N<=29:=by
  refine ⟨_,rfl,?_,?_⟩
  ·split <;> omega
  ·split
   ·split <;> omega
   ·omega
 obtain ⟨N,eN,N16,N29⟩:=hN
 refine ⟨9,N,by rw [<- eN],⟨by omega,by omega,by omega,by omega⟩,?_⟩
 refine gb (lo:=9) (n:=(N-9).toNat) (fun i σ' H'=>Same H2 H'/\∃ (R:List Rw) (path:List Int) (pp:Addr) (td:Int) (xs:List V) (u8 u9 u10 u11 u12:Option V),σ'=[some (.ref a),some (.int 20),some (.ref me),some (.ref br),some (.int c),some (.ref r),some (.ref pp),some (.int td),u8,u9,u10,u11,u12]/\H' r=some (.lst xs)/\Paired (rwU H') R xs/\RwsOk ns R path/\H' pp=some (.tup (path.map V.int))/\R.length<=i/\0<=td/\td<=i) ?_ ?_ ?_
 ·exact ⟨g24,[],[0],p0,0,[],_,_,_,_,_,rfl,g4 _ _ e3,.nil,RwsOk.start ns,e4,Nu _,by decide,by decide⟩
 ·rintro i σ' H5 hi ⟨g5,R,path,pp,td,xs,u8,u9,u10,u11,u12,rfl,hr5,hR,hO,hpp,hRl,td0,td1⟩
  have hi20:i<20:=by omega
  have hS5:=(g12.trans g5).seq hS
  have xl:=Paired.length hR
  refine ⟨_,rfl,_,rfl,a,ns,9+(i:Int),rfl,hS5,h63,by omega,by omega,?_⟩
  refine ⟨_,8,rfl,by decide,by decide,fun ys yr H6 g6 hyr eyr hyl hy0=>?_⟩
  have hr6:=g6 _ _ hr5
  refine ⟨_,rfl,_,rfl,r,_,rfl,.inl (SqL.of hr6),a,ns,(xs.length:Int),rfl,g6.seq hS5,h63,by omega,by omega,?_⟩
  have hyl:ys.length=8:=hyl
  obtain ⟨y0,hy0m,ey0⟩:=sH (xs:=ys) (k:=0) (by omega)
  obtain ⟨y1,hy1m,ey1⟩:=sH (xs:=ys) (k:=1) (by omega)
  have en:((xs.length:Nat):Int)=((R.length:Nat):Int):=by rw [xl]
  rw [en]
  have hR6:=Paired.mapP hR fun _ _ z=>z.mono g6.t
  have hpp6:=g6 _ _ hpp
  have g26:=g5.trans g6
  have pl:path.length<=9:=hO.cur.1
  have pm:(path.map V.int).length=path.length:=Ng _
  refine qL ?_
  have K6:=K2.keep g26
  have rowput:∀ (Hx:Hp) (x:Int ⊕ Th) (v:V) (q2:Addr),Same H6 Hx->Hx q2=some (.tup [.ref pp,v])->(match x with | .inl n=>∃ q,v=.ref q/\Hx q=some (.tup [.str "part",.int n]) | .inr t=>thR Hx t v)->Same H2 (upd Hx r (.lst (xs++[.ref q2])))/\upd Hx r (.lst (xs++[.ref q2])) r=some (.lst (xs++[.ref q2]))/\Paired (rwU (upd Hx r (.lst (xs++[.ref q2])))) (R++[(path,x)]) (xs++[.ref q2])/\upd Hx r (.lst (xs++[.ref q2])) pp=some (.tup (path.map V.int)):=fun Hx x v q2 gx e2 hx=>by
   have hrx:=gx _ _ hr6
   have tx:TSame Hx (upd Hx r (.lst (xs++[.ref q2]))):=TSame.lst hrx
   refine ⟨aL hr0 (g26.trans gx) _,ak,cg (Paired.mapP hR6 fun _ _ z=>z.mono (gx.t.trans tx)) ⟨q2,pp,v,rfl,tx _ _ e2,tx _ _ (gx _ _ hpp6),?_⟩,tx _ _ (gx _ _ hpp6)⟩
   cases x with
   | inl n=>obtain ⟨q,e,h⟩:=hx; exact ⟨q,e,tx _ _ h⟩
   | inr t=>exact thR.mono hx tx
  have xle:xs.length+1<=sizeLine:=by omega
  refine pC (decide (V.int (y0 % 9)=V.int 8) && decide ((((path.map V.int).length:Nat):Int)>1)) (qN _ _ (fun Q q=>⟨_,rfl,yr,_,_,_,rfl,rfl,SqL.of eyr,ey0,_,_,rfl,rfl,(by show (0:Int)<_; decide),rfl,_,rfl,q⟩) (fun _ Q q=>⟨_,rfl,pp,_,rfl,.inr (SqT.of hpp6),_,_,rfl,rfl,_,rfl,q⟩)) (fun z=>?_) (fun _=>?_)
  ·have z1:(((path.map V.int).length:Nat):Int)>1:=of_decide_eq_true (Ph.mp z).2
   have hne:path≠[]:=fun e=>by rw [e] at z1; exact absurd z1 (by decide)
   refine ⟨_,rfl,1,rfl,_,rfl,pp,_,rfl,hpp6,fun p7 H7 g7 h7=>?_⟩
   have ep:path.map V.int=path.dropLast.map V.int++[.int (path.getLast hne)]:=by
    conv=>lhs; rw [<- Qh hne]
    rw [NK] <;> rfl
   have h7':H7 p7=some (.tup (path.dropLast.map V.int)):=by
    rw [h7]
    have:=(vL (path.dropLast.map V.int) (.int (path.getLast hne))).1
    rw [<- ep] at this
    exact congrArg (fun z=>some (HO.tup z)) this
   exact ⟨g26.trans g7,R,path.dropLast,p7,td,xs,_,_,_,_,_,rfl,g7 _ _ hr6,Paired.mapP hR6 fun _ _ z=>z.mono g7.t,hO.back (by omega),h7',Rz hRl,td0,by omega⟩
  ·refine pC (decide (V.int (y0 % 9)=V.int 7) && decide ((((path.map V.int).length:Nat):Int)<=8)) (qN _ _ (fun Q q=>⟨_,rfl,yr,_,_,_,rfl,rfl,SqL.of eyr,ey0,_,_,rfl,rfl,(by show (0:Int)<_; decide),rfl,_,rfl,q⟩) (fun _ Q q=>⟨_,rfl,pp,_,rfl,.inr (SqT.of hpp6),_,_,rfl,rfl,_,rfl,q⟩)) (fun z=>?_) (fun _=>?_)
   ·have z1:(((path.map V.int).length:Nat):Int)<=8:=of_decide_eq_true (Ph.mp z).2
    refine ⟨_,rfl,.inl ⟨rfl,_,SqL.of hr6⟩,_,rfl,_,rfl,(by show 2<=sizeLine; decide),fun q1 hq1=>?_⟩
    have g7:=aB hq1 (.tup [.str "part",.int (numU ns ((R.length:Nat):Int))])
    have e7:upd H6 q1 (.tup [.str "part",.int (numU ns ((R.length:Nat):Int))]) q1=some (.tup [.str "part",.int (numU ns ((R.length:Nat):Int))]):=ak
    generalize upd H6 q1 (.tup [.str "part",.int (numU ns ((R.length:Nat):Int))])=H7 at g7 e7
    refine ⟨(by show 2<=sizeLine; decide),fun q2 hq2=>?_⟩
    have g8:=aB hq2 (.tup [.ref pp,.ref q1])
    have e8:upd H7 q2 (.tup [.ref pp,.ref q1]) q2=some (.tup [.ref pp,.ref q1]):=ak
    generalize upd H7 q2 (.tup [.ref pp,.ref q1])=H8 at g8 e8
    have g68:=g7.trans g8
    refine ⟨r,_,_,rfl,rfl,g68 _ _ hr6,xle,?_⟩
    obtain ⟨a1,a2,a3,a4⟩:=rowput H8 (.inl (numU ns ((R.length:Nat):Int))) (.ref q1) q2 g68 e8 ⟨q1,rfl,g8 _ _ e7⟩
    generalize upd H8 r (.lst (xs++[.ref q2]))=H9 at a1 a2 a3 a4
    refine ⟨_,rfl,_,rfl,(by show 1<=sizeLine; decide),fun q3 hq3=>?_⟩
    have g10:=aB hq3 (.tup [.int (numU ns ((R.length:Nat):Int))])
    refine ⟨pp,q3,_,_,rfl,rfl,g10 _ _ a4,ak,by rw [pm]; show _+1<=_; omega,fun q4 H11 g11 h11=>?_⟩
    have g91:=g10.trans g11
    refine ⟨a1.trans g91,R++[(path,.inl (numU ns ((R.length:Nat):Int)))],path++[numU ns ((R.length:Nat):Int)],q4,td,xs++[.ref q2],_,_,_,_,_,rfl,g91 _ _ a2,Paired.mapP a3 fun _ _ z=>z.mono g91.t,hO.put rfl (fun t e=>by cases e) (fun n e=>by omega) ⟨by rw [Np]; show path.length+1<=9; omega,.inr ⟨path,_,NZ _ Ny,rfl⟩⟩,by rw [h11,NK] <;> rfl,by rw [Np]; show R.length+1<=i+1; omega,td0,by omega⟩
   ·refine pC (decide (y0 % 9<5)) (fun Q q=>⟨_,rfl,yr,_,_,_,rfl,rfl,SqL.of eyr,ey0,_,_,rfl,rfl,(by show (0:Int)<_; decide),_,_,rfl,rfl,_,rfl,q⟩) (fun z=>?_) (fun _=>?_)
    ·refine ⟨_,rfl,_,_,rfl,rfl,⟨by decide,by decide⟩,_,rfl,_,rfl,_,_,rfl,rfl,(by show (0:Int)<_; decide),_,_,rfl,rfl,_,_,rfl,rfl,.inl ⟨by omega,by omega⟩,_,_,rfl,rfl,_,_,rfl,rfl,(by show (0:Int)<_; decide),?_⟩
     dsimp only
     have hd0:0<=(c / 32+td*(1+c % 4)) % 5:=Ol _ (by decide)
     have hd5:(c / 32+td*(1+c % 4)) % 5<5:=Oo _ (by decide)
     generalize (c / 32+td*(1+c % 4)) % 5=hd at hd0 hd5
     refine ⟨_,rfl,(by show 2<=sizeLine; decide),fun pb hpb=>?_⟩
     have g7:=aB hpb (.lst [.int hd,.int 5])
     have e7:upd H6 pb (.lst [.int hd,.int 5]) pb=some (.lst [.int hd,.int 5]):=ak
     generalize upd H6 pb (.lst [.int hd,.int 5])=H7 at g7 e7
     refine ⟨_,rfl,_,_,rfl,rfl,⟨by decide,by decide⟩,_,_,rfl,rfl,(by show (0:Int)<_; decide),rfl,.inr ⟨_,rfl,?_⟩⟩
     have hbe:∀ bq:Bool,∃ be:Int,atI [V.int hd,.int 5] (if bq=true then 1 else 0)=some (.int be)/\0<=be/\be<=5:=fun bq=>by
      cases bq with
      | false=>exact ⟨hd,rfl,by omega,by omega⟩
      | true=>exact ⟨5,rfl,by decide,by decide⟩
     obtain ⟨be,ebe,be0,be5⟩:=hbe (decide (V.int (c / 4 % 8)=V.int 1))
     refine ⟨pb,_,_,_,rfl,rfl,SqL.of e7,ebe,?_⟩
     refine ⟨_,rfl,.inl ⟨rfl,_,SqL.of (g7 _ _ hr6)⟩,_,rfl,_,rfl,_,rfl,_,rfl,_,rfl,_,rfl,_,rfl,yr,br,me,_,hd,be,ys,B,bx,ws,rfl,g7 _ _ eyr,hy0,hyl,K6.keep g7,hd0,hd5,be0,be5,fun sc ph bs ms v H8 g8 ht hok=>?_⟩
     refine ⟨(by show 2<=sizeLine; decide),fun q2 hq2=>?_⟩
     have g9:=aB hq2 (.tup [.ref pp,v])
     have e9:upd H8 q2 (.tup [.ref pp,v]) q2=some (.tup [.ref pp,v]):=ak
     generalize upd H8 q2 (.tup [.ref pp,v])=H9 at g9 e9
     have g69:=(g7.trans g8).trans g9
     refine ⟨r,_,_,rfl,rfl,g69 _ _ hr6,xle,?_⟩
     obtain ⟨a1,a2,a3,a4⟩:=rowput H9 (.inr (.tell (numU ns ((R.length:Nat):Int)) sc ph bs ms)) v q2 g69 e9 (thR.mono (t:=.tell (numU ns ((R.length:Nat):Int)) sc ph bs ms) ht g9.t)
     generalize upd H9 r (.lst (xs++[.ref q2]))=H10 at a1 a2 a3 a4
     refine ⟨_,rfl,_,_,rfl,rfl,?_⟩
     exact ⟨a1,R++[(path,.inr (.tell (numU ns ((R.length:Nat):Int)) sc ph bs ms))],path,pp,td+1,xs++[.ref q2],_,_,_,_,_,rfl,a2,a3,hO.put rfl (fun t e=>by cases e; exact .inr ⟨_,sc,ph,bs,ms,rfl,hok⟩) (fun n e=>by cases e) (hO.cur.mono fun r hr=>O8 _ hr),a4,by rw [Np]; show R.length+1<=i+1; omega,by omega,by omega⟩
    ·have r0:0<=y1 % 4:=Ol _ (by decide)
     have r1:y1 % 4<4:=Oo _ (by decide)
     refine ⟨_,rfl,.inl ⟨rfl,_,SqL.of hr6⟩,_,rfl,_,rfl,_,rfl,_,rfl,_,rfl,yr,_,_,_,rfl,rfl,SqL.of eyr,ey1,_,_,rfl,rfl,(by show (0:Int)<_; decide),_,_,rfl,rfl,_,rfl,yr,_,rfl,SqL.of eyr,fun p4 hp4=>?_⟩
     have ec:cutV (ys.map V.int) (some 3) (some (4+y1 % 4))=((ys.drop 3).take ((4+y1 % 4).toNat-3)).map V.int:=by
      have e4:4+y1 % 4=(((4+y1 % 4).toNat:Nat):Int):=by omega
      rw [e4]
      exact lX ys 3 _
     rw [ec]
     have g7:=aB hp4 (.lst (((ys.drop 3).take ((4+y1 % 4).toNat-3)).map V.int))
     have e7:upd H6 p4 (.lst (((ys.drop 3).take ((4+y1 % 4).toNat-3)).map V.int)) p4=some (.lst (((ys.drop 3).take ((4+y1 % 4).toNat-3)).map V.int)):=ak
     generalize upd H6 p4 (.lst (((ys.drop 3).take ((4+y1 % 4).toNat-3)).map V.int))=H7 at g7 e7
     have sl1:((ys.drop 3).take ((4+y1 % 4).toNat-3)).length=(4+y1 % 4).toNat-3:=by
      rw [Oc,O9,hyl]
      omega
     refine ⟨_,rfl,_,rfl,p4,br,me,5,_,B,bx,ws,rfl,e7,fun x hx=>hy0 x (QV (Pg hx)),by omega,K6.keep g7,by decide,by decide,fun zs p5 H8 g8 h8 hz1 hz2 hzw=>?_⟩
     refine ⟨(by show 3<=sizeLine; decide),fun q1 hq1=>?_⟩
     have g9:=aB hq1 (.tup [.str "say",.int (numU ns ((R.length:Nat):Int)),.ref p5])
     have e9:upd H8 q1 (.tup [.str "say",.int (numU ns ((R.length:Nat):Int)),.ref p5]) q1=some (.tup [.str "say",.int (numU ns ((R.length:Nat):Int)),.ref p5]):=ak
     generalize upd H8 q1 (.tup [.str "say",.int (numU ns ((R.length:Nat):Int)),.ref p5])=H9 at g9 e9
     refine ⟨(by show 2<=sizeLine; decide),fun q2 hq2=>?_⟩
     have g10:=aB hq2 (.tup [.ref pp,.ref q1])
     have e10:upd H9 q2 (.tup [.ref pp,.ref q1]) q2=some (.tup [.ref pp,.ref q1]):=ak
     generalize upd H9 q2 (.tup [.ref pp,.ref q1])=H10 at g10 e10
     have gA:=((g7.trans g8).trans g9).trans g10
     refine ⟨r,_,_,rfl,rfl,gA _ _ hr6,xle,?_⟩
     obtain ⟨a1,a2,a3,a4⟩:=rowput H10 (.inr (.say (numU ns ((R.length:Nat):Int)) zs)) (.ref q1) q2 gA e10 ⟨q1,.ref p5,rfl,g10 _ _ e9,p5,rfl,(g9.trans g10) _ _ h8⟩
     generalize upd H10 r (.lst (xs++[.ref q2]))=H11 at a1 a2 a3 a4
     exact ⟨a1,R++[(path,.inr (.say (numU ns ((R.length:Nat):Int)) zs))],path,pp,td,xs++[.ref q2],_,_,_,_,_,rfl,a2,a3,hO.put rfl (fun t e=>by cases e; exact .inl ⟨_,zs,rfl,by omega,by omega,hzw⟩) (fun n e=>by cases e) (hO.cur.mono fun r hr=>O8 _ hr),a4,by rw [Np]; show R.length+1<=i+1; omega,td0,by omega⟩
 ·rintro σ' H5 ⟨g5,R,path,pp,td,xs,u8,u9,u10,u11,u12,rfl,hr5,hR,hO,hpp,hRl,td0,td1⟩
  have hS5:=(g12.trans g5).seq hS
  have xl:=Paired.length hR
  have hR20:R.length<=20:=by omega
  refine ⟨_,rfl,(by show 1<=sizeLine; decide),fun q0 hq0=>?_⟩
  have g6:=aB hq0 (.tup [.int 0])
  have e6:upd H5 q0 (.tup [.int 0]) q0=some (.tup (([0]:List Int).map V.int)):=ak
  generalize upd H5 q0 (.tup [.int 0])=H6 at g6 e6
  refine ⟨_,rfl,a,ns,41,rfl,g6.seq hS5,h63,by decide,by decide,_,rfl,_,_,rfl,rfl,⟨by decide,by decide⟩,_,4,rfl,by decide,by decide,fun ys yr H7 g7 hyr eyr hyl hy0=>?_⟩
  have hyl:ys.length=4:=hyl
  have g57:=g6.trans g7
  refine ⟨_,rfl,_,rfl,yr,br,me,5,ys,B,bx,ws,rfl,eyr,hy0,by omega,K2.keep (g5.trans g57),by decide,by decide,fun zs p8 H8 g8 h8 hz1 hz2 hzw=>?_⟩
  refine ⟨(by show 3<=sizeLine; decide),fun q1 hq1=>?_⟩
  have g9:=aB hq1 (.tup [.str "say",.int (numU ns 41),.ref p8])
  have e9:upd H8 q1 (.tup [.str "say",.int (numU ns 41),.ref p8]) q1=some (.tup [.str "say",.int (numU ns 41),.ref p8]):=ak
  generalize upd H8 q1 (.tup [.str "say",.int (numU ns 41),.ref p8])=H9 at g9 e9
  refine ⟨(by show 2<=sizeLine; decide),fun q2 hq2=>?_⟩
  have g10:=aB hq2 (.tup [.ref q0,.ref q1])
  have e10:upd H9 q2 (.tup [.ref q0,.ref q1]) q2=some (.tup [.ref q0,.ref q1]):=ak
  generalize upd H9 q2 (.tup [.ref q0,.ref q1])=H10 at g10 e10
  refine ⟨(by show 1<=sizeLine; decide),fun q3 hq3=>?_⟩
  have g11:=aB hq3 (.lst [.ref q2])
  have e11:upd H10 q3 (.lst [.ref q2]) q3=some (.lst [.ref q2]):=ak
  generalize upd H10 q3 (.lst [.ref q2])=H11 at g11 e11
  have gA:=((g57.trans g8).trans g9).trans (g10.trans g11)
  refine ⟨r,q3,xs,[.ref q2],rfl,rfl,gA _ _ hr5,e11,by show _+1<=_; omega,fun q4 hq4=>?_⟩
  have g12':=aB hq4 (.lst (xs++[.ref q2]))
  have gZ:=(g12.trans g5).trans (gA.trans g12')
  have tZ:=(gA.trans g12').t
  refine q R path zs q4 (xs++[.ref q2]) _ gZ (((g12.trans g5).trans gA).free hq4) ak (cg (Paired.mapP hR fun _ _ z=>z.mono tZ) ?_) hO hR20 (by omega) (by omega) hzw
  exact ⟨q2,q0,.ref q1,rfl,(g11.trans g12') _ _ e10,((g7.trans g8).trans (g9.trans (g10.trans (g11.trans g12')))) _ _ e6,q1,.ref p8,rfl,(g10.trans (g11.trans g12')) _ _ e9,p8,rfl,(g9.trans (g10.trans (g11.trans g12'))) _ _ h8⟩
end
theorem jJ {tc:TT} {tb:TS} {D:Ends} {σ:St} {H:Hp} (W:Nat->St->Hp->Prop) (Post:St->Hp->Prop) (h0:∃ m,W m σ H)
  (hs:∀ R:St->Hp->Prop,(∀ σ H,Post σ H->R σ H)->∀ m σ H,W m σ H->tc σ H fun b H1=>if b=true then ∃ N:St->Hp->Prop,(∀ σ' H',N σ' H'->∃ m',m'<m/\W m' σ' H')/\tb { D with nx:=N,ct:=N,bk:=D.nx } σ H1 else R σ H1)
  (hp:∀ σ H,Post σ H->D.nx σ H):CZ tc tb D σ H:=⟨W,h0,fun m σ H hw=>hs D.nx hp m σ H hw⟩
section
variable {P:Program} {w:World} {K:Nh} {mg:Str->Option Value} {base:Heap} {f:Addr} {fd:FuncData}
end
section
variable {P:Program} {w:World} {K:Nh} {mg:Str->Option Value} {base:Heap} {f:Addr} {fd:FuncData}
end
theorem dO {α β:Type} {F:α->β->Prop}:∀ {l l':List α} {m m':List β},Paired F l m->Paired F l' m'->Paired F (l++l') (m++m')
 | _,_,_,_,.nil,h=>h
 | _::_,_,_::_,_,.cons q r,h=>.cons q (dO r h)
theorem dz {α β:Type} {F:α->β->Prop}:∀ {l:List α} {m:List β},Paired F l m->l.length=m.length
 | _,_,.nil=>rfl
 | _::_,_::_,.cons _ r=>by rw [Oj,Oj,dz r]
def dH (ts:List Th):List Int:=(ts.flatMap Th.ord).map Th.num
theorem uc (a b:List Th):dH (a++b)=dH a++dH b:=by
 unfold dH
 rw [O7,NK]
theorem yu (n:Int) (ts:List Th):dH [.part n (F.of ts)]=n::dH ts:=by
 unfold dH
 show ((Th.part n (F.of ts)::(F.of ts).ord)++[]).map Th.num=_
 rw [N6,Ow,gF,jO] <;> rfl
theorem wH (t:Th) (f:F):(t.cons f).dep=max (t.cons .nil).dep f.dep:=by
 cases t with
 | say n ws=>show f.dep=max 0 f.dep; omega
 | tell n sc ph bs ms=>show f.dep=max 0 f.dep; omega
 | part n i=>show max (i.dep+1) f.dep=max (max (i.dep+1) 0) f.dep; omega
theorem zN:∀ (a b:List Th),(F.of (a++b)).dep=max (F.of a).dep (F.of b).dep
 | [],b=>by show (F.of b).dep=max 0 _; omega
 | t::r,b=>by
  show (t.cons (F.of (r++b))).dep=max (t.cons (F.of r)).dep _
  rw [wH,wH t (F.of r),zN r b]
  omega
def lW (t:Th):Prop:=¬ ∃ n i,t=.part n i
theorem Bf {t:Th} (h:lW t):(L2.F.of [t]).dep=0:=by
 cases t with
 | say n ws=>rfl
 | tell n sc ph bs ms=>rfl
 | part n i=>exact absurd ⟨n,i,rfl⟩ h
def parU (r:Rw):Int:=r.1.getLastD 0
def bld:List Rw->Int->List Th
 | [],_=>[]
 | r::R,k=>if parU r=k then (match r.2 with | .inl n=>Th.part n (L2.F.of (bld R n)) | .inr t=>t)::bld R k else bld R k
def WfU:List Int->List Rw->Prop
 | _,[]=>True
 | K,r::R=>parU r∈K/\match r.2 with
  | .inl n=>n∉K/\WfU (K++[n]) R
  | .inr t=>t.ord=[t]/\WfU K R
theorem iV {f g:Int->List Int} {a:List Int} {k0:Int} (h0:g k0=a++f k0) (h1:∀ k,k≠k0->g k=f k):∀ {K:List Int},K.Nodup->k0∈K->(K.flatMap g).Perm (a++K.flatMap f)
 | [],_,h=>nomatch h
 | k::K,nd,h=>by
  obtain ⟨n1,n2⟩:=Od.mp nd
  rw [Ov,Ov]
  by_cases e:k=k0
  ·subst e
   have eK:K.flatMap g=K.flatMap f:=by
    have:∀ k'∈K,g k'=f k':=fun k' hk=>h1 k' fun z=>n1 (by rw [<- z]; exact hk)
    clear h nd n1 n2
    induction K with
    | nil=>rfl
    | cons x r ih=>rw [Ov,Ov,this x Ny,ih fun y hy=>this y (Nt _ hy)]
   rw [h0,eK,PN]
  ·rw [h1 k e]
   have hk:k0∈K:=by
    rcases NT.mp h with z | z
    ·exact absurd z.symm e
    ·exact z
   have ih:=iV h0 h1 n2 hk
   refine (ih.append_left (f k)).trans ?_
   rw [<- PN,<- PN]
   exact S8.append_right _
theorem pQ:∀ {R:List Rw} {K:List Int},K.Nodup->WfU K R->(K.flatMap fun k=>dH (bld R k)).Perm (R.map Rw.num)
 | [],K,_,_=>by
  have:(K.flatMap fun k=>dH (bld [] k))=[]:=by
   induction K with
   | nil=>rfl
   | cons x r ih=>rw [Ov]; exact ih (Od.mp ‹_›).2 trivial
  rw [this]
  exact .nil
 | r::R,K,nd,h=>by
  obtain ⟨h1,h2⟩:=h
  obtain ⟨p,x⟩:=r
  have ene:∀ k,k≠parU (p,x)->bld ((p,x)::R) k=bld R k:=fun k hk=>if_neg fun z=>hk z.symm
  cases x with
  | inl n =>
   obtain ⟨hn,h2⟩:=h2
   have nd':(K++[n]).Nodup:=O4.mpr ⟨nd,by simp,fun a ha b hb e=>hn (by rw [<- Nq.mp hb,<- e]; exact ha)⟩
   have ih:=pQ nd' h2
   have e0:dH (bld ((p,.inl n)::R) (parU (p,.inl n)))=(n::dH (bld R n))++dH (bld R (parU (p,.inl n))):=by
    have e:bld ((p,.inl n)::R) (parU (p,.inl n))=[Th.part n (L2.F.of (bld R n))]++bld R (parU (p,.inl n)):=if_pos rfl
    rw [e,uc,yu]
   refine (iV (g:=fun k=>dH (bld ((p,.inl n)::R) k)) (f:=fun k=>dH (bld R k)) e0 (fun k hk=>by show dH (bld _ k)=_; rw [ene k hk]) nd h1).trans ?_
   rw [O7] at ih
   have ih:((K.flatMap fun k=>dH (bld R k))++(dH (bld R n)++[])).Perm (R.map Rw.num):=ih
   rw [N6] at ih
   exact (S8.trans ih).cons n
  | inr t =>
   obtain ⟨ho,h2⟩:=h2
   have ih:=pQ nd h2
   have e0:dH (bld ((p,.inr t)::R) (parU (p,.inr t)))=[t.num]++dH (bld R (parU (p,.inr t))):=by
    have e:bld ((p,.inr t)::R) (parU (p,.inr t))=[t]++bld R (parU (p,.inr t)):=if_pos rfl
    rw [e,uc]
    congr 1
    unfold dH
    rw [Ov,RN,N6,ho]
    rfl
   refine (iV (g:=fun k=>dH (bld ((p,.inr t)::R) k)) (f:=fun k=>dH (bld R k)) e0 (fun k hk=>by show dH (bld _ k)=_; rw [ene k hk]) nd h1).trans ?_
   exact ih.cons t.num
def thU (R:List Rw):Int ⊕ Th->Th
 | .inl n=>.part n (L2.F.of (bld R n))
 | .inr t=>t
theorem qK {R:List Rw} {p:List Int} {x:Int ⊕ Th} {k:Int} (e:parU (p,x)=k):bld ((p,x)::R) k=thU R x::bld R k:=by
 cases x with
 | inl n=>exact if_pos e
 | inr t=>exact if_pos e
theorem zY:∀ {R:List Rw} {k:Int} {t:Th},(∀ p t,((p,Sum.inr t):Rw)∈R->t.ord=[t])->t∈(bld R k).flatMap Th.ord->(∃ n i,t=.part n i)∨∃ p,((p,Sum.inr t):Rw)∈R
 | [],_,_,_,h=>nomatch h
 | (p,x)::R,k,t,hl,h=>by
  have hl':∀ p t,((p,Sum.inr t):Rw)∈R->t.ord=[t]:=fun p t hm=>hl p t (Nt _ hm)
  have up:∀ {j:Int},t∈(bld R j).flatMap Th.ord->(∃ n i,t=.part n i)∨∃ q,((q,Sum.inr t):Rw)∈(p,x)::R:=fun h=>(zY hl' h).imp id fun ⟨q,hq⟩=>⟨q,Nt _ hq⟩
  by_cases e:parU (p,x)=k
  ·rw [qK e,Ov] at h
   rcases Nz.mp h with z | z
   ·cases x with
    | inl n =>
     have z:t∈Th.part n (L2.F.of (bld R n))::(L2.F.of (bld R n)).ord:=z
     rcases NT.mp z with y | y
     ·exact .inl ⟨_,_,y⟩
     ·rw [gF,jO] at y
      exact up y
    | inr u =>
     have z:t∈u.ord:=z
     rw [hl p u Ny] at z
     rw [Nq.mp z]
     exact .inr ⟨p,Ny⟩
   ·exact up z
  ·have eb:bld ((p,x)::R) k=bld R k:=if_neg e
   rw [eb] at h
   exact up h
theorem yX (Lv:Int->Nat):∀ {R:List Rw} {k:Int},(∀ r∈R,r.1.length=Lv (parU r))->(∀ p n,((p,Sum.inl n):Rw)∈R->Lv n=p.length+1/\p.length<=8)->(∀ p t,((p,Sum.inr t):Rw)∈R->lW t)->(L2.F.of (bld R k)).dep=0∨(L2.F.of (bld R k)).dep+Lv k<=9
 | [],_,_,_,_=>.inl rfl
 | (p,x)::R,k,h1,h2,h3=>by
  have h1':∀ r∈R,r.1.length=Lv (parU r):=fun r hr=>h1 r (Nt _ hr)
  have h2':∀ p n,((p,Sum.inl n):Rw)∈R->Lv n=p.length+1/\p.length<=8:=fun p n hm=>h2 p n (Nt _ hm)
  have h3':∀ p t,((p,Sum.inr t):Rw)∈R->lW t:=fun p t hm=>h3 p t (Nt _ hm)
  have ih:∀ j,(L2.F.of (bld R j)).dep=0∨(L2.F.of (bld R j)).dep+Lv j<=9:=fun j=>yX Lv h1' h2' h3'
  by_cases e:parU (p,x)=k
  ·rw [qK e]
   have ed:(L2.F.of (thU R x::bld R k)).dep=max (L2.F.of [thU R x]).dep (L2.F.of (bld R k)).dep:=zN [thU R x] (bld R k)
   rw [ed]
   have hk:=ih k
   cases x with
   | inl n =>
    obtain ⟨a,b⟩:=h2 p n Ny
    have hp:p.length=Lv k:=by rw [<- e]; exact h1 _ Ny
    have e1:(L2.F.of [thU R (.inl n)]).dep=(L2.F.of (bld R n)).dep+1:=by
     show max ((L2.F.of (bld R n)).dep+1) 0=_
     omega
    rw [e1]
    have hn:=ih n
    right
    omega
   | inr t =>
    have e1:(L2.F.of [thU R (.inr t)]).dep=0:=Bf (h3 p t Ny)
    rw [e1]
    omega
  ·have eb:bld ((p,x)::R) k=bld R k:=if_neg e
   rw [eb]
   exact ih k
def jC (R:List Rw):List Int:=R.filterMap fun r=>match r.2 with
 | .inl n=>some n
 | .inr _=>none
theorem qF {R:List Rw} {n:Int}:n∈jC R↔∃ q,((q,Sum.inl n):Rw)∈R:=by
 unfold jC
 rw [Pu]
 constructor
 ·rintro ⟨⟨q,x⟩,hm,e⟩
  cases x with
  | inl m =>
   have e:some m=some n:=e
   cases e
   exact ⟨q,hm⟩
  | inr t =>
   have e:(none:Option Int)=some n:=e
   cases e
 ·rintro ⟨q,hm⟩
  exact ⟨_,hm,rfl⟩
theorem LeafU.ord {t:Th} (h:LeafU t):t.ord=[t]:=by
 rcases h with ⟨n,zs,rfl,_⟩ | ⟨n,sc,ph,bs,ms,rfl,_⟩ <;> rfl
theorem LeafU.leaf {t:Th} (h:LeafU t):lW t:=by
 rcases h with ⟨n,zs,rfl,_⟩ | ⟨n,sc,ph,bs,ms,rfl,_⟩ <;> (rintro ⟨m,i,e⟩; cases e)
theorem zV {ns:List Int} {R:List Rw} {path:List Int} (h:RwsOk ns R path) (h20:R.length<=20) {l:Rw} (hl:parU l=0) {t:Th} (ht:l.2=.inr t) (ho:t.ord=[t]):∀ (k j:Nat),R.length-j=k->j<=R.length->WfU (0::jC (R.take j)) (R.drop j++[l])
 | 0,j,hk,hj=>by
  have:R.drop j=[]:=List.drop_eq_nil_of_le (by omega)
  rw [this]
  obtain ⟨p,x⟩:=l
  have ht:x=.inr t:=ht
  subst ht
  exact ⟨by rw [hl]; exact Ny,ho,trivial⟩
 | k+1,j,hk,hj=>by
  have hj':j<R.length:=by omega
  have ih:=zV h h20 hl ht ho k (j+1) (by omega) (by omega)
  rw [RL hj']
  have er:R[j]?=some R[j]:=Nr hj'
  have hn:=h.num j _ er
  have hp:=h.pth j _ er
  have hlf:=fun p t (e:R[j]=(p,Sum.inr t))=>h.leaf p t (by rw [<- e]; exact Qm hj')
  have etk:jC (R.take (j+1))=jC (R.take j)++jC [R[j]]:=by
   unfold jC
   rw [Oe,er,List.filterMap_append]
   rfl
  rw [etk] at ih
  generalize R[j]=r at hn hp hlf ih er
  obtain ⟨p,x⟩:=r
  refine ⟨?_,?_⟩
  ·obtain ⟨_,e | ⟨q,n,hm,e⟩⟩:=hp
   ·have e:p=[0]:=e
    rw [e]
    exact Ny
   ·have e:p=q++[n]:=e
    have:parU (p,x)=n:=by
     unfold parU
     rw [e]
     simp
    rw [this]
    exact Nt _ (qF.mpr ⟨q,hm⟩)
  ·cases x with
   | inl n =>
    have hn:n=numU ns (j:Int):=hn
    refine ⟨fun z=>?_,ih⟩
    rcases NT.mp z with y | y
    ·have:=pU ns (j:Int)
     omega
    ·obtain ⟨q,hq⟩:=qF.mp y
     obtain ⟨i,hi⟩:=Og hq
     have hij:i<j:=by
      have:=(Nj.mp hi).1
      rw [Oc] at this
      omega
     rw [Uc hij] at hi
     have h2:n=numU ns (i:Int):=h.num i _ hi
     have:=qg ns (k:=(i:Int)) (j:=(j:Int)) (by omega) (by omega) (by omega) (by omega) (by rw [<- h2,<- hn])
     omega
   | inr u =>
    refine ⟨(hlf p u rfl).ord,?_⟩
    have:jC [((p,Sum.inr u):Rw)]=[]:=rfl
    rw [this,N6] at ih
    exact ih
theorem yZ {ns:List Int} {R:List Rw} {path:List Int} (h:RwsOk ns R path) (h20:R.length<=20) (zs:List Str):WfU [0] (R++[([0],.inr (.say (numU ns 41) zs))]) :=
 zV h h20 (l:=([0],.inr (.say (numU ns 41) zs))) rfl rfl rfl R.length 0 (by omega) (OD _)
def isPt (n:Int) (r:Rw):Bool:=match r.2 with
 | .inl m=>decide (m=n)
 | .inr _=>false
def lvU (R:List Rw) (n:Int):Nat:=if n=0 then 1 else ((R.find? (isPt n)).map fun r=>r.1.length+1).getD 0
theorem GK {ns:List Int} {R:List Rw} {path:List Int} (h:RwsOk ns R path) (h20:R.length<=20) {q q':List Int} {n:Int} (a:((q,Sum.inl n):Rw)∈R) (b:((q',Sum.inl n):Rw)∈R):q=q':=by
 obtain ⟨i,hi⟩:=Og a
 obtain ⟨j,hj⟩:=Og b
 have h1:n=numU ns (i:Int):=h.num i _ hi
 have h2:n=numU ns (j:Int):=h.num j _ hj
 have il:=(Nj.mp hi).1
 have jl:=(Nj.mp hj).1
 have:=qg ns (k:=(i:Int)) (j:=(j:Int)) (by omega) (by omega) (by omega) (by omega) (by rw [<- h1,<- h2])
 have e:i=j:=by omega
 subst e
 rw [hi] at hj
 cases hj
 rfl
theorem Al {ns:List Int} {R:List Rw} {path:List Int} (h:RwsOk ns R path) (h20:R.length<=20) {q:List Int} {n:Int} (a:((q,Sum.inl n):Rw)∈R):lvU R n=q.length+1:=by
 obtain ⟨i,hi⟩:=Og a
 have h1:n=numU ns (i:Int):=h.num i _ hi
 have hp:=pU ns (i:Int)
 unfold lvU
 rw [if_neg (by omega)]
 cases e:R.find? (isPt n) with
 | none =>
  have:=List.find?_eq_none.mp e _ a
  exact absurd (show isPt n (q,.inl n)=true from decide_eq_true rfl) this
 | some r =>
  have hm:=List.mem_of_find?_eq_some e
  have hb:=List.find?_some e
  obtain ⟨q',x⟩:=r
  cases x with
  | inl m =>
   have:m=n:=of_decide_eq_true hb
   subst this
   rw [GK h h20 a hm]
   rfl
  | inr t=>cases hb
theorem J4 {ns:List Int} {R:List Rw} {path:List Int} (h:RwsOk ns R path) (h20:R.length<=20) {r:Rw} (hr:r∈R):r.1.length=lvU R (parU r):=by
 obtain ⟨j,hj⟩:=Og hr
 obtain ⟨_,e | ⟨q,n,hm,e⟩⟩:=h.pth j r hj
 ·unfold parU
  rw [e]
  rfl
 ·have hm:=Pg hm
  have ep:parU r=n:=by
   unfold parU
   rw [e]
   simp
  rw [ep,Al h h20 hm,e,Np]
  rfl
theorem Ei {ns:List Int} {R:List Rw} {path:List Int} (h:RwsOk ns R path) (h20:R.length<=20) (zs:List Str):(L2.F.of (bld (R++[([0],.inr (.say (numU ns 41) zs))]) 0)).dep<=8:=by
 have:=yX (lvU R) (R:=R++[([0],.inr (.say (numU ns 41) zs))]) (k:=0) (fun r hr=>?_) (fun p n hm=>?_) (fun p t hm=>?_)
 ·have e:lvU R 0=1:=rfl
  omega
 ·rcases Nz.mp hr with z | z
  ·exact J4 h h20 z
  ·rw [Nq.mp z]
   rfl
 ·rcases Nz.mp hm with z | z
  ·exact ⟨Al h h20 z,h.prt p n z⟩
  ·cases Nq.mp z
 ·rcases Nz.mp hm with z | z
  ·exact (h.leaf p t z).leaf
  ·cases Nq.mp z
   rintro ⟨m,i,e⟩
   cases e
theorem ThOk.more {ws ws':List Str} (g:∀ z∈ws,z∈ws'):∀ {t:Th},ThOk ws t->ThOk ws' t
 | .say _ _,⟨h1,h2,h3⟩=>⟨h1,h2,fun z hz=>g z (h3 z hz)⟩
 | .tell _ _ _ _ _,⟨h1,h2,h3,h4,⟨p0,last,e,os,b1,b2,b3⟩,h6,h7,h8⟩=>⟨h1,h2,fun z hz=>g z (h3 z hz),h4,⟨p0,last,e,os,b1,b2,fun o ho=>g o (b3 o ho)⟩,h6,h7,fun z hz=>g z (h8 z hz)⟩
 | .part _ _,_=>trivial
theorem Je {t:Th} (h:LeafU t):∃ l:List Str,(∀ z∈l,Wd z)/\ThOk l t:=by
 rcases h with ⟨n,zs,rfl,h1,h2,h3⟩ | ⟨n,sc,ph,bs,ms,rfl,h⟩
 ·exact ⟨zs,h3,h1,by omega,fun z hz=>hz⟩
 ·obtain ⟨p0,last,os,rfl,ho⟩:=h.ph
  have h3:=ho.len
  have h4:=ho.few
  have h5:=h.m2
  refine ⟨(p0++[last])++(os++ms),fun z hz=>?_,h.sc,?_,fun z hz=>O8 _ hz,by omega,⟨p0,last,rfl,os,ho.bd,ho.nd,fun o hm=>NZ _ (O8 _ hm)⟩,h.m1,by omega,fun z hz=>NZ _ (NZ _ hz)⟩
  ·rcases Nz.mp hz with k | k
   ·exact ho.wd z k
   ·rcases Nz.mp k with k | k
    ·exact ho.wo z k
    ·exact h.mw z k
  ·rw [Np]
   show p0.length+1<=4
   omega
theorem Ga:∀ ts:List Th,(∀ t∈ts,LeafU t)->∃ ws:List Str,(∀ z∈ws,Wd z)/\∀ t∈ts,ThOk ws t
 | [],_=>⟨[],(fun _ z=>by cases z),fun _ z=>by cases z⟩
 | t::ts,h=>by
  obtain ⟨l,l1,l2⟩:=Je (h t Ny)
  obtain ⟨ws,w1,w2⟩:=Ga ts fun u hu=>h u (Nt _ hu)
  refine ⟨l++ws,fun z hz=>(Nz.mp hz).elim (l1 z) (w1 z),fun u hu=>?_⟩
  rcases NT.mp hu with e | e
  ·rw [e]; exact l2.more fun z hz=>O8 _ hz
  ·exact (w2 u e).more fun z hz=>NZ _ hz
def dI (ns:List Int) (R:List Rw) (zs:List Str):List Rw:=R++[([0],.inr (.say (numU ns 41) zs))]
theorem Jk {ns:List Int} {R:List Rw} {path:List Int} (h:RwsOk ns R path) {zs:List Str} (z1:1<=zs.length) (z2:zs.length<=32) (zw:∀ z∈zs,Wd z):∀ p t,((p,Sum.inr t):Rw)∈dI ns R zs->LeafU t:=fun p t hm=>by
 rcases Nz.mp hm with z | z
 ·exact h.leaf p t z
 ·cases Nq.mp z
  exact .inl ⟨_,zs,rfl,z1,z2,zw⟩
theorem Mj {ns:List Int} {R:List Rw} {path:List Int} (h:RwsOk ns R path) (h20:R.length<=20) (zs:List Str):((dI ns R zs).map Rw.num).Nodup/\∀ n∈(dI ns R zs).map Rw.num,0<n:=by
 have at':∀ (j:Nat) (r:Rw),(dI ns R zs)[j]?=some r->∃ k:Int,0<=k/\k<43/\Rw.num r=numU ns k/\((j<R.length/\k=j)∨(j=R.length/\k=41)):=fun j r e=>by
  unfold dI at e
  by_cases hj:j<R.length
  ·rw [Ox hj] at e
   exact ⟨j,by omega,by omega,h.num j r e,.inl ⟨hj,rfl⟩⟩
  ·rw [Px (by omega)] at e
   have hj2:j=R.length:=by
    have:=(Nj.mp e).1
    simp at this
    omega
   subst hj2
   rw [TQ] at e
   cases e
   exact ⟨41,by decide,by decide,rfl,.inr ⟨rfl,rfl⟩⟩
 refine ⟨RM.mpr fun i j hi hj hij e=>?_,fun n hn=>?_⟩
 ·rw [Ng] at hi hj
  rw [WM,WM] at e
  obtain ⟨k,k0,k1,ek,c1⟩:=at' i _ (Nr hi)
  obtain ⟨m,m0,m1,em,c2⟩:=at' j _ (Nr hj)
  have:=qg ns k0 k1 m0 m1 (by rw [<- ek,<- em,e])
  omega
 ·obtain ⟨r,hr,rfl⟩:=Oq.mp hn
  obtain ⟨j,hj⟩:=Og hr
  obtain ⟨k,_,_,ek,_⟩:=at' j r hj
  rw [ek]
  exact pU ns k
theorem Dm {ns:List Int} {R:List Rw} {path:List Int} (h:RwsOk ns R path) (h20:R.length<=20) {zs:List Str} (z1:1<=zs.length) (z2:zs.length<=32) (zw:∀ z∈zs,Wd z):DocW (L2.F.of (bld (dI ns R zs) 0)):=by
 have hl:=Jk h z1 z2 zw
 have hlo:∀ p t,((p,Sum.inr t):Rw)∈dI ns R zs->t.ord=[t]:=fun p t hm=>(hl p t hm).ord
 obtain ⟨nd,ps⟩:=Mj h h20 zs
 have pm:=pQ (R:=dI ns R zs) (K:=[0]) (by simp) (yZ h h20 zs)
 have pm:(dH (bld (dI ns R zs) 0)).Perm ((dI ns R zs).map Rw.num):=by
  have e:([0].flatMap fun k=>dH (bld (dI ns R zs) k))=dH (bld (dI ns R zs) 0):=by
   rw [Ov,RN,N6]
  rw [e] at pm
  exact pm
 have eo:(L2.F.of (bld (dI ns R zs) 0)).ord.map Th.num=dH (bld (dI ns R zs) 0):=by
  rw [gF,jO]
  rfl
 obtain ⟨ws,w1,w2⟩:=Ga ((dI ns R zs).filterMap fun r=>match r.2 with | .inl _=>none | .inr t=>some t) fun t ht=>by
  obtain ⟨⟨p,x⟩,hm,e⟩:=Pu.mp ht
  cases x with
  | inl n=>cases e
  | inr u=>cases e; exact hl p _ hm
 refine ⟨ws,⟨w1⟩,Ei h h20 zs,by rw [eo]; exact pm.nodup_iff.mpr nd,?_,fun t ht=>?_,fun t ht=>?_⟩
 ·have:=pm.length_eq
  rw [<- eo,Ng,Ng] at this
  rw [this]
  unfold dI
  rw [Np]
  show R.length+1<=45
  omega
 ·rw [gF,jO] at ht
  rcases zY hlo ht with ⟨n,i,rfl⟩ | ⟨p,hm⟩
  ·trivial
  ·exact w2 t (Pu.mpr ⟨_,hm,rfl⟩)
 ·refine ps t.num (pm.mem_iff.mp ?_)
  rw [<- eo]
  exact Oq.mpr ⟨t,ht,rfl⟩
end D
namespace L2
open PySem PySem.Spec PyProof.Rows
def intR:Hp->Int->V->Prop:=fun _ z v=>v=.int z
theorem jN {X:Cx} {A:Around}:EqOk X A intR where
 eq:=fun pins σ H s I a b x y u v ra rb ru rv=>by
  cases ra
  cases rb
  obtain ⟨t,rfl⟩:=ru
  obtain ⟨t',rfl⟩:=rv
  have h:=V6 (A:=A) (s:=s) a t b t'
  have e:(a==b)=decide (a=b):=by rw [Bool.eq_iff_iff,beq_iff_eq,decide_eq_true_eq]
  rw [e] at h
  exact h
 fn:=fun pins σ H s I a b x ra rb=>by
  rw [ra] at rb
  exact V.int.inj rb
section
variable {X:Cx}
end
section
variable {prog:Program} {w:World} {A:Around} {E:Value->Shared->Prop} {s:Shared} {d:Addr} {o:Obj} {es:Array DictEntry} {ep:Nat}
end
section
variable {X:Cx}
end
def qH (N N':List Str) (sc:Scope):Bool:=decide (N'.length=N.length) && (N.zip N').all fun p=>decide (p.1=p.2) || decide (sc.names.lookup p.2=none)
def Hid (N N':List Str) (σ:St):Prop:=∀ (i:Nat) (y:Str),N[i]?=some y->N'[i]?≠some y->σ[i]?=some none
section
variable {X:Cx} {N':List Str} {pins:List (Addr×Obj)} {σ:St} {H:Hp} {s:Shared}
theorem Inv.hide (I:Inv X pins σ H s) (h:qH X.N N' X.env.scope=true):Inv { X with N:=N' } pins σ H s:=by
 unfold qH at h
 simp only [Qa,decide_eq_true_eq,PJ,Vf] at h
 obtain ⟨hl,ha⟩:=h
 refine ⟨⟨I.ok.mod,I.ok.kind,I.ok.glob,I.ok.blt,I.ok.above,I.ok.inj,I.ok.has,I.ok.cab,I.ok.hd,I.ok.frames,I.ok.stk,I.ok.exf,I.ok.bs,I.ok.bsz,I.ok.noex,I.ok.exfs,I.ok.funs,I.ok.frf⟩,I.os,I.bare,I.base,?_,I.cell,I.free,I.freeC,I.pin,I.hok,I.len.trans hl.symm⟩
 obtain ⟨m,hm,hv⟩:=I.loc
 refine ⟨m,hm,fun i x v h1 h2 h3=>?_⟩
 have h1:N'[i]?=some x:=h1
 have li:i<N'.length:=(Nj.mp h1).1
 have li2:i<X.N.length:=by omega
 have hz:(X.N.zip N')[i]?=some (X.N[i],x):=by
  rw [List.getElem?_zip_eq_some]
  exact ⟨Nr li2,h1⟩
 rcases ha _ (Nv hz) with e | e
 ·exact hv i x v (by rw [Nr li2]; exact congrArg some e) h2 h3
 ·have e:X.env.scope.names.lookup x=none:=e
  have h3:Vis X.env.scope x:=h3
  unfold Vis at h3
  rw [e] at h3
  rcases h3 with z | z | z <;> cases z
theorem Inv.back (I:Inv { X with N:=N' } pins σ H s) (h:qH X.N N' X.env.scope=true) (hh:Hid X.N N' σ):Inv X pins σ H s:=by
 unfold qH at h
 simp only [Qa,decide_eq_true_eq] at h
 refine ⟨⟨I.ok.mod,I.ok.kind,I.ok.glob,I.ok.blt,I.ok.above,I.ok.inj,I.ok.has,I.ok.cab,I.ok.hd,I.ok.frames,I.ok.stk,I.ok.exf,I.ok.bs,I.ok.bsz,I.ok.noex,I.ok.exfs,I.ok.funs,I.ok.frf⟩,I.os,I.bare,I.base,?_,I.cell,I.free,I.freeC,I.pin,I.hok,I.len.trans h.1⟩
 obtain ⟨m,hm,hv⟩:=I.loc
 refine ⟨m,hm,fun i x v h1 h2 h3=>?_⟩
 by_cases e:N'[i]?=some x
 ·exact hv i x v e h2 h3
 ·rw [hh i x h1 e] at h2
  cases h2
theorem Jf {st:Stmt} {t:TS} (N N':List Str) (fs:Scope) (ok:qH N N' fs=true) (h:PS { X with N:=N' } st t) (eN:X.N=N:=by rfl) (eS:X.env.scope=fs:=by rfl):PS X st (fun D σ H=>t { nx:=fun σ' H'=>Hid N N' σ'/\D.nx σ' H',rt:=fun _ _=>False } σ H):=by
 intro pins s σ H D I hw
 subst eN eS
 refine thn (h pins s σ H _ (I.hide ok) hw) fun fl s' q=>?_
 cases fl with
 | next =>
  obtain ⟨σ',H',I',hh,q⟩:=q
  exact ⟨σ',H',I'.back ok hh,q⟩
 | brk=>obtain ⟨_,_,_,q⟩:=q; exact q.elim
 | cont=>obtain ⟨_,_,_,q⟩:=q; exact q.elim
 | ret u=>obtain ⟨_,_,_,_,_,q⟩:=q; exact q.elim
end
end L2
namespace L2
open PySem
section
variable {P:Program} {w:World} {K:Nh} {mg:Str->Option Value} {base:Heap} {f:Addr}
end
end L2
namespace L2
open PySem PySem.Spec PyProof.Rows
section
variable {X:Cx} {t:St->Hp->Prop}
end
end L2
namespace D
open PySem L2
def phR (H:Hp) (l:List Str) (v:V):Prop:=∃ p,v=.ref p/\H p=some (.tup (l.map V.str))
theorem phR.mono {H H':Hp} {l:List Str} {v:V} (h:phR H l v) (g:TSame H H'):phR H' l v:=let ⟨p,e,h⟩:=h; ⟨p,e,g _ _ h⟩
abbrev phsR (H:Hp):List (List Str)->List V->Prop:=Paired (phR H)
theorem phsR.mono {H H':Hp} {L:List (List Str)} {xs:List V} (h:phsR H L xs) (g:TSame H H'):phsR H' L xs:=Paired.mapP h fun _ _ z=>z.mono g
def sJ (last:Str) (b:Str×Str):Str:=⟨((cs last).take (last.length-b.1.length)).toArray⟩++b.2
theorem m8 {last o:Str} {b:Str×Str} (h:qQ last b o):sJ last b=o:=by
 obtain ⟨pre,rfl,rfl⟩:=h
 refine oX ?_
 unfold sJ
 rw [iJ,jY,iJ,iJ,len_app,Nat.add_sub_cancel,<- fV,List.take_left']
 rfl
def shT (ph:List Str) (bs:List (Str×Str)):List (List Str):=ph::bs.map fun b=>ph.dropLast++[sJ (ph.getLastD "") b]
theorem qC (p0:List Str) (last:Str) (bs:List (Str×Str)):shT (p0++[last]) bs=(p0++[last])::bs.map fun b=>p0++[sJ last b]:=by
 unfold shT
 rw [Vx,Vy]
section
variable {P:Program} {w:World} {K:Nh} {mg:Str->Option Value} {base:Heap} {f:Addr} {fd:FuncData}
end
theorem yg {P:Program} {w:World} {K:Nh} {mg:Str->Option Value} {base:Heap} {CX:CXT} {k:Nat} {f:Addr} {fd:FuncData} {ps:List Str} {sp:Sp} (h:∀ vs H Q E,¬ sp vs H Q E):FnOk P w K mg base CX k f fd ps sp :=
 ⟨fun vs H Q E z=>absurd z (h vs H Q E),fun _ _ _ H _ _ vs Q E _ _ _ _ z=>absurd z (h vs H Q E)⟩
def iT (H:Hp) (a:Addr) (xs:List Int):Prop:=H a=some (.tup (xs.map V.int))
abbrev Tl:=Int×Str×List Int×List (List Str)
def tlsF:L2.F->List Int->List Tl
 | .nil,_=>[]
 | .say _ _ r,p=>tlsF r p
 | .tell n sc ph bs _ r,p=>(n,sc,p,shT ph bs)::tlsF r p
 | .part n i r,p=>tlsF i (p++[n])++tlsF r p
theorem mJ:∀ (f:L2.F) (p:List Int),(tlsF f p).length<=f.ord.length
 | .nil,_=>Nu _
 | .say n ws r,p=>Rz (mJ r p)
 | .tell n sc ph bs ms r,p=>Ux (mJ r p)
 | .part n i r,p=>by
  have h1:=mJ i (p++[n])
  have h2:=mJ r p
  show (tlsF i (p++[n])++tlsF r p).length<=(Th.part n i::(i.ord++r.ord)).length
  rw [Np,Oj,Np]
  omega
def knd:Th->Str
 | .say _ _=>"say"
 | .tell _ _ _ _ _=>"tell"
 | .part _ _=>"part"
theorem gU {H:Hp} {t:Th} {v:V} (h:thR H t v):∃ a xs,v=.ref a/\H a=some (.tup xs)/\atI xs 0=some (.str (knd t))/\atI xs 1=some (.int t.num):=by
 cases t with
 | say n ws =>
  obtain ⟨a,x,e,q,_⟩:=h
  exact ⟨a,_,e,q,rfl,rfl⟩
 | tell n sc ph bs ms =>
  obtain ⟨a,x,y,z,e,q,_⟩:=h
  exact ⟨a,_,e,q,rfl,rfl⟩
 | part n i =>
  obtain ⟨a,b,zs,e,q,_⟩:=h
  exact ⟨a,_,e,q,rfl,rfl⟩
def tlR (H:Hp) (t:Tl) (v:V):Prop:=∃ a pp sl xs,v=.ref a/\H a=some (.tup [.int t.1,.str t.2.1,.ref pp,.ref sl])/\iT H pp t.2.2.1/\H sl=some (.lst xs)/\phsR H t.2.2.2 xs
def tlN (r:Addr) (H:Hp) (t:Tl) (v:V):Prop:=∃ a pp sl xs,v=.ref a/\H a=some (.tup [.int t.1,.str t.2.1,.ref pp,.ref sl])/\iT H pp t.2.2.1/\H sl=some (.lst xs)/\phsR H t.2.2.2 xs/\sl≠r
theorem tlR.mono {H H':Hp} {t:Tl} {v:V} (h:tlR H t v) (g:Same H H'):tlR H' t v:=let ⟨a,pp,sl,xs,e,h1,h2,h3,h4⟩:=h; ⟨a,pp,sl,xs,e,g _ _ h1,g _ _ h2,g _ _ h3,h4.mono g.t⟩
theorem tlN.mono {r:Addr} {H H':Hp} {t:Tl} {v:V} (h:tlN r H t v) (g:Same H H'):tlN r H' t v:=let ⟨a,pp,sl,xs,e,h1,h2,h3,h4,h5⟩:=h; ⟨a,pp,sl,xs,e,g _ _ h1,g _ _ h2,g _ _ h3,h4.mono g.t,h5⟩
theorem tlN.upd {r:Addr} {H:Hp} {t:Tl} {v:V} {ys:List V} {o:HO} (h:tlN r H t v) (hr:H r=some (.lst ys)):tlN r (L2.upd H r o) t v:=by
 obtain ⟨a,pp,sl,xs,e,h1,h2,h3,h4,h5⟩:=h
 have g:TSame H (L2.upd H r o):=TSame.lst hr
 exact ⟨a,pp,sl,xs,e,g _ _ h1,g _ _ h2,by rw [aC h5]; exact h3,h4.mono g,h5⟩
theorem tlR.new {r:Addr} {H:Hp} {t:Tl} {v:V} {o:HO} (h:tlR H t v) (hr:H r=none):tlN r (L2.upd H r o) t v:=by
 have g:=aB hr o
 obtain ⟨a,pp,sl,xs,e,h1,h2,h3,h4⟩:=h
 exact ⟨a,pp,sl,xs,e,g _ _ h1,g _ _ h2,g _ _ h3,h4.mono g.t,bZ h3 hr⟩
def LQ (ws:List Str) (f:L2.F):Prop:=∀ t∈f.ord,ThOk ws t
section
variable {P:Program} {w:World} {K:Nh} {mg:Str->Option Value} {base:Heap} {f:Addr} {fd:FuncData}
end
def inr (l:List Str):List Key:=l.map Sum.inr
theorem yj (l:List Str):(inr l).map kV=l.map V.str:=by unfold inr; rw [Pq]; rfl
theorem pq:∀ {a b:List Str},inr a=inr b->a=b
 | [],[],_=>rfl
 | [],_::_,h=>by cases h
 | _::_,[],h=>by cases h
 | x::a,y::b,h=>by
  obtain ⟨h1,h2⟩:=List.cons.inj (show (Sum.inr x:Key)::inr a=Sum.inr y::inr b from h)
  rw [Sum.inr.inj h1,pq h2]
section
variable {α:Type}
abbrev Tab (α:Type):=List (List Str×α)
def aQ (T:Tab α) (k:List Str):Option α:=(T.find? fun t=>decide (t.1=k)).map (·.2)
def putA (T:Tab α) (k:List Str) (v:α):Tab α:=if (T.any fun t=>decide (t.1=k))=true then T.map (fun t=>if t.1=k then (t.1,v) else t) else T++[(k,v)]
theorem cB (t:List Str×α) (T:Tab α) (k:List Str):aQ (t::T) k=if t.1=k then some t.2 else aQ T k:=by
 unfold aQ
 rw [QX]
 by_cases h:t.1=k
 ·rw [if_pos h,decide_eq_true h] <;> rfl
 ·rw [if_neg h,decide_eq_false h]
theorem iM (k:List Str):∀ T:Tab α,(T.any fun t=>decide (t.1=k))=(aQ T k).isSome
 | []=>rfl
 | t::T=>by
  rw [Ry,cB,iM k T]
  by_cases h:t.1=k
  ·rw [if_pos h,decide_eq_true h] <;> rfl
  ·rw [if_neg h,decide_eq_false h] <;> rfl
theorem wZ (k j:List Str) (v:α):∀ T:Tab α,aQ (T.map fun t=>if t.1=k then (t.1,v) else t) j=(aQ T j).map fun x=>if j=k then v else x
 | []=>rfl
 | t::T=>by
  rw [Ow,cB,cB,wZ k j v T]
  by_cases h:t.1=k
  ·rw [if_pos h]
   by_cases h2:t.1=j
   ·rw [if_pos h2,if_pos h2]
    show _=some (if j=k then v else t.2)
    rw [if_pos (h2.symm.trans h)]
   ·rw [if_neg h2,if_neg h2]
  ·rw [if_neg h]
   by_cases h2:t.1=j
   ·rw [if_pos h2,if_pos h2]
    show _=some (if j=k then v else t.2)
    rw [if_neg (fun z=>h (h2.trans z))]
   ·rw [if_neg h2,if_neg h2]
theorem tM (k j:List Str) (v:α):∀ T:Tab α,aQ T k=none->aQ (T++[(k,v)]) j=if j=k then some v else aQ T j
 | [],_=>by
  show aQ [(k,v)] j=_
  rw [cB]
  by_cases h:j=k
  ·rw [if_pos h,if_pos h.symm]
  ·rw [if_neg h,if_neg (fun z=>h z.symm)]
 | t::T,h0=>by
  rw [cB] at h0
  rw [Rb,cB,cB]
  by_cases h:t.1=k
  ·rw [if_pos h] at h0
   cases h0
  ·rw [if_neg h] at h0
   rw [tM k j v T h0]
   by_cases h2:t.1=j
   ·rw [if_pos h2,if_pos h2,if_neg (fun z=>h (h2.trans z))]
   ·rw [if_neg h2,if_neg h2]
theorem rC (T:Tab α) (k j:List Str) (v:α):aQ (putA T k v) j=if j=k then some v else aQ T j:=by
 unfold putA
 rw [iM]
 cases h:aQ T k with
 | none =>
  rw [if_neg (show ¬ (none:Option α).isSome=true from fun z=>nomatch z)]
  exact tM k j v T h
 | some x =>
  rw [if_pos (show (some x).isSome=true from rfl),wZ]
  by_cases e:j=k
  ·subst e
   rw [h,if_pos rfl]
   show some (if j=j then v else x)=_
   rw [if_pos rfl]
  ·rw [if_neg e]
   cases aQ T j with
   | none=>rfl
   | some y =>
    show some (if j=k then v else y)=_
    rw [if_neg e]
def aW (T:Tab α):List (List Str):=T.map (·.1)
theorem fY (T:Tab α) (k:List Str):k∈aW T↔(aQ T k).isSome=true:=by
 induction T with
 | nil=>exact ⟨(fun h=>nomatch h),(fun h=>nomatch h)⟩
 | cons t T ih =>
  rw [cB]
  show k∈t.1::aW T↔_
  by_cases h:t.1=k
  ·rw [if_pos h]
   exact ⟨fun _=>rfl,fun _=>by rw [h]; exact Ny⟩
  ·rw [if_neg h,<- ih]
   exact ⟨fun z=>(NT.mp z).resolve_left (fun y=>h y.symm),Nt _⟩
theorem wu (T:Tab α) (k:List Str) (v:α) (h:(aW T).Nodup):(aW (putA T k v)).Nodup:=by
 unfold putA
 by_cases e:(T.any fun t=>decide (t.1=k))=true
 ·rw [if_pos e]
  have:aW (T.map fun t=>if t.1=k then (t.1,v) else t)=aW T:=by
   unfold aW
   rw [Pq]
   refine Qq fun t _=>?_
   show (if t.1=k then (t.1,v) else t).1=t.1
   split <;> rfl
  rw [this]
  exact h
 ·rw [if_neg e]
  unfold aW
  rw [NK]
  refine O4.mpr ⟨h,by simp,fun x hx y hy z=>?_⟩
  rw [iM] at e
  rw [show ([(k,v)]:Tab α).map (·.1)=[k] from rfl] at hy
  rw [Nq.mp hy] at z
  exact e ((fY T k).mp (by rw [<- z]; exact hx))
theorem zf (T:Tab α) (k:List Str) (v:α):(putA T k v).length<=T.length+1:=by
 unfold putA
 by_cases e:(T.any fun t=>decide (t.1=k))=true
 ·rw [if_pos e,Ng]; omega
 ·rw [if_neg e,Np]; exact Nu _
def enR (R:Hp->α->V->Prop) (H:Hp) (t:List Str×α) (kv:List Key×V):Prop:=kv.1=inr t.1/\R H t.2 kv.2
abbrev tabR (R:Hp->α->V->Prop) (H:Hp):Tab α->List (List Key×V)->Prop:=Paired (enR R H)
variable {R:Hp->α->V->Prop} {H H':Hp}
theorem eV {T:Tab α} {kvs:List (List Key×V)} (h:tabR R H T kvs) (g:∀ a v,R H a v->R H' a v):tabR R H' T kvs:=Paired.mapP h fun _ _ z=>⟨z.1,g _ _ z.2⟩
theorem Ip {t:List Str×α} {kv:List Key×V} (h:enR R H t kv) (k:List Str):decide (kv.1=inr k)=decide (t.1=k):=by
 by_cases e:t.1=k
 ·rw [decide_eq_true e,decide_eq_true (by rw [h.1,e])]
 ·rw [decide_eq_false e,decide_eq_false (fun z=>e (pq (h.1.symm.trans z)))]
theorem zX {k:List Str}:∀ {T:Tab α} {kvs:List (List Key×V)},tabR R H T kvs->(kvs.any fun kv=>decide (kv.1=inr k))=T.any fun t=>decide (t.1=k)
 | _,_,.nil=>rfl
 | _,_,.cons h r=>by rw [Ry,Ry,Ip h,zX r]
theorem wJ {k:List Str} {v:α} {x:V} (hp:R H v x):∀ {T:Tab α} {kvs:List (List Key×V)},tabR R H T kvs->tabR R H (T.map fun t=>if t.1=k then (t.1,v) else t) (kvs.map fun kv=>if kv.1=inr k then (kv.1,x) else kv)
 | _,_,.nil=>.nil
 | _,_,.cons (a:=t) (b:=kv) h r=>by
  refine .cons ?_ (wJ hp r)
  show enR R H (if t.1=k then (t.1,v) else t) (if kv.1=inr k then (kv.1,x) else kv)
  by_cases e:t.1=k
  ·rw [if_pos e,if_pos (by rw [h.1,e])]
   exact ⟨h.1,hp⟩
  ·rw [if_neg e,if_neg (fun z=>e (pq (h.1.symm.trans z)))]
   exact h
theorem uM {T:Tab α} {kvs:List (List Key×V)} {k:List Str} {v:α} {x:V} (h:tabR R H T kvs) (hp:R H v x):tabR R H (putA T k v) (putK kvs (inr k) x):=by
 unfold putA putK
 rw [zX h]
 by_cases e:(T.any fun t=>decide (t.1=k))=true
 ·rw [if_pos e,if_pos e]
  exact wJ hp h
 ·rw [if_neg e,if_neg e]
  exact cg h ⟨rfl,hp⟩
theorem m5 {k:List Str}:∀ {T:Tab α} {kvs:List (List Key×V)},tabR R H T kvs->(aQ T k=none/\valV kvs (inr k)=none)∨∃ v x,aQ T k=some v/\valV kvs (inr k)=some x/\R H v x
 | _,_,.nil=>.inl ⟨rfl,rfl⟩
 | t::T,kv::kvs,.cons h r=>by
  by_cases z:t.1=k
  ·refine .inr ⟨t.2,kv.2,by rw [cB,if_pos z],cT (by rw [h.1,z]),h.2⟩
  ·rw [cB,if_neg z,cA (fun y=>z (pq (h.1.symm.trans y)))]
   exact m5 r
theorem Du {T:Tab α} (hn:(aW T).Nodup) {t:List Str×α} (h:t∈T):aQ T t.1=some t.2:=by
 induction T with
 | nil=>cases h
 | cons u T ih =>
  have hn':(u.1::aW T).Nodup:=hn
  obtain ⟨h1,h2⟩:=Od.mp hn'
  rw [cB]
  rcases NT.mp h with e | e
  ·rw [e,if_pos rfl]
  ·rw [if_neg (fun z=>h1 (by rw [z]; exact Oq.mpr ⟨t,e,rfl⟩))]
   exact ih h2 e
end
def bF (sc:Str) (p pl:List Int):Int:=if sc="part"/\pl.take p.length=p then 1+p.length else if sc="here"/\pl=p then 100 else if sc="all" then 1 else if sc="else" then 0 else -1
theorem tupI {K:Nh} {H:Hp} {a:Addr} {xs:List Int} (h:iT H a xs):tupR K intR H xs (.ref a):=⟨a,_,rfl,SqT.of h,iw (F:=intR H) (f:=V.int) (fun _=>rfl) xs⟩
section
variable {P:Program} {w:World} {K:Nh} {mg:Str->Option Value} {base:Heap} {f:Addr} {fd:FuncData}
end
abbrev Best:=Tab (Int×List Int)
def sortI (ns:List Int):List Int:=ns.mergeSort fun a b=>decide (a<=b)
theorem Gp {ns ns':List Int} (p:ns'.Perm ns) (h:ns'.Pairwise (·<=·)):ns'=sortI ns:=by
 have h2:(sortI ns).Pairwise (·<=·):=by
  have:=List.pairwise_mergeSort (le:=fun a b:Int=>decide (a<=b)) (fun a b c h1 h2=>decide_eq_true (Int.le_trans (of_decide_eq_true h1) (of_decide_eq_true h2))) (fun a b=>by
   rcases Int.le_total a b with z | z
   ·rw [decide_eq_true z]; rfl
   ·rw [decide_eq_true z]; exact Xi _) ns
  exact this.imp fun z=>of_decide_eq_true z
 exact List.Perm.eq_of_pairwise (fun a b _ _ h1 h2=>Int.le_antisymm h1 h2) h h2 (p.trans (Ti ns _).symm)
def getB (B:Best) (k:List Str):Int×List Int:=(aQ B k).getD (0,[])
def cV (fo n:Int) (B:Best) (k:List Str):Best:=if 0<=fo/\(getB B k).1<=fo then putA B k (fo,(if (getB B k).1<fo then [] else (getB B k).2)++[n]) else B
def jG (pl:List Int) (B:Best) (t:Tl):Best:=t.2.2.2.foldl (cV (bF t.2.1 t.2.2.1 pl) t.1) B
def fu (pl:List Int) (ts:List Tl):Best:=ts.foldl (jG pl) []
def dueE (b:List Str×(Int×List Int)):List Str×List Int:=(b.1,sortI b.2.2)
def winD (pl:List Int) (ts:List Tl):Tab (List Int):=(fu pl ts).map dueE
def beR (H:Hp) (b:Int×List Int) (v:V):Prop:=∃ p l,v=.ref p/\H p=some (.tup [.int b.1,.ref l])/\H l=some (.lst (b.2.map V.int))
theorem beR.mono {H H':Hp} {b:Int×List Int} {v:V} (h:beR H b v) (g:Same H H'):beR H' b v:=let ⟨p,l,e,h1,h2⟩:=h; ⟨p,l,e,g _ _ h1,g _ _ h2⟩
theorem beR.upd {H:Hp} {d:Addr} {kvs:List (List Key×V)} {o:HO} {b:Int×List Int} {v:V} (h:beR H b v) (hd:H d=some (.dT kvs)):beR (L2.upd H d o) b v:=by
 obtain ⟨p,l,e,h1,h2⟩:=h
 exact ⟨p,l,e,by rw [aC (iu h1 hd (fun z=>nomatch z))]; exact h1,by rw [aC (iu h2 hd (fun z=>nomatch z))]; exact h2⟩
def wnR (H:Hp) (ns:List Int) (v:V):Prop:=∃ p,v=.ref p/\H p=some (.tup (ns.map V.int))
theorem wnR.mono {H H':Hp} {ns:List Int} {v:V} (h:wnR H ns v) (g:TSame H H'):wnR H' ns v:=let ⟨p,e,h1⟩:=h; ⟨p,e,g _ _ h1⟩
structure TlsOk (ts:List Tl):Prop where
 few:ts.length<=45
 ok:∀ t∈ts,t.2.2.2.Nodup/\t.2.2.2.length<=6/\t.2.2.1.length<=1000
structure BOk (B:Best) (m:Nat) (c:List Str->Nat):Prop where
 nd:(aW B).Nodup
 len:B.length<=m
 few:∀ k b,aQ B k=some b->b.2.length<=c k
theorem BOk.step {B:Best} {m:Nat} {c:List Str->Nat} (h:BOk B m c) (fo n:Int) (k:List Str):BOk (cV fo n B k) (m+1) (fun j=>c j+if j=k then 1 else 0):=by
 unfold cV
 by_cases e:0<=fo/\(getB B k).1<=fo
 ·rw [if_pos e]
  refine ⟨wu _ _ _ h.nd,OJ (zf _ _ _) (Ux h.len),fun j b hb=>?_⟩
  rw [rC] at hb
  by_cases z:j=k
  ·rw [if_pos z] at hb
   cases hb
   rw [if_pos z]
   have:(getB B k).2.length<=c k:=by
    unfold getB
    cases q:aQ B k with
    | none=>exact OD _
    | some b=>exact h.few k b q
   subst z
   show ((if (getB B j).1<fo then [] else (getB B j).2)++[n]).length<=_
   rw [Np,O5]
   split
   ·show 0+1<=_; omega
   ·omega
  ·rw [if_neg z] at hb
   have:=h.few j b hb
   omega
 ·rw [if_neg e]
  exact ⟨h.nd,Rz h.len,fun j b hb=>by have:=h.few j b hb; omega⟩
theorem BOk.mono {B:Best} {m m':Nat} {c c':List Str->Nat} (h:BOk B m c) (hm:m<=m') (hc:∀ k,c k<=c' k):BOk B m' c':=⟨h.nd,OJ h.len hm,fun k b hb=>OJ (h.few k b hb) (hc k)⟩
theorem pN {L:List (List Str)} (h:L.Nodup) (k:List Str):L.count k<=1:=by
 rcases Wv (L.count k) 2 with z | z
 ·omega
 ·have:=List.nodup_iff_count.mp h k
  omega
theorem FZ (B:Best):aW (B.map dueE)=aW B:=by unfold aW; rw [Pq]; rfl
theorem lZ (k:List Str):∀ B:Best,aQ (B.map dueE) k=(aQ B k).map fun b=>sortI b.2
 | []=>rfl
 | b::B=>by
  rw [Ow,cB,cB,lZ k B]
  show (if b.1=k then some (sortI b.2.2) else _)=_
  by_cases h:b.1=k
  ·rw [if_pos h,if_pos h] <;> rfl
  ·rw [if_neg h,if_neg h]
theorem qI {α:Type} {l:List α} {i:Nat} {a:α} (h:l.Nodup) (e:l[i]?=some a):a∉l.take i:=fun z=>by
 have hi:=(Nj.mp e).1
 have hd:l.drop i=a::l.drop (i+1):=by
  rw [RL hi,(Nj.mp e).2]
 rw [<- QS i l,hd] at h
 exact (O4.mp h).2.2 a z a Ny rfl
section
variable {P:Program} {w:World} {K:Nh} {mg:Str->Option Value} {base:Heap} {f:Addr} {fd:FuncData}
end
structure Alike (T U:Tab (List Int)):Prop where
 nt:(aW T).Nodup
 nu:(aW U).Nodup
 same:∀ k,aQ T k=aQ U k
theorem Alike.len {T U:Tab (List Int)} (h:Alike T U):T.length=U.length:=by
 have p:(aW T).Perm (aW U):=by
  refine (Tt h.nt h.nu).mpr fun k=>?_
  rw [fY,fY,h.same]
 have:=p.length_eq
 unfold aW at this
 rw [Ng,Ng] at this
 exact this
section
variable {P:Program} {w:World} {K:Nh} {mg:Str->Option Value} {base:Heap} {f:Addr} {fd:FuncData}
end
theorem kZ {α β:Type} {g:α->β}:∀ {l:List α},(l.map g).Nodup->∀ {a b:α},a∈l->b∈l->g a=g b->a=b
 | [],_,_,_,h,_,_=>nomatch h
 | x::l,hn,a,b,ha,hb,e=>by
  obtain ⟨h1,h2⟩:=Od.mp (show (g x::l.map g).Nodup from hn)
  rcases NT.mp ha with ea | ha
  ·rcases NT.mp hb with eb | hb
   ·rw [ea,eb]
   ·rw [ea] at e
    exact absurd (by rw [e]; exact Oq.mpr ⟨b,hb,rfl⟩) h1
  ·rcases NT.mp hb with eb | hb
   ·rw [eb] at e
    exact absurd (by rw [<- e]; exact Oq.mpr ⟨a,ha,rfl⟩) h1
   ·exact kZ h2 ha hb e
theorem Ld {ws:List Str} {sc:Str} {ph:List Str} {bs:List (Str×Str)} {ms:List Str} (h:TlOk ws sc ph bs ms):(shT ph bs).Nodup/\(shT ph bs).length<=6:=by
 obtain ⟨_,_,_,hb5,⟨p0,last,rfl,os,hp,hn,how⟩,_⟩:=h
 have e:shT (p0++[last]) bs=(last::os).map fun o=>p0++[o]:=by
  rw [qC,Ow]
  congr 1
  clear hn hb5 how
  induction hp with
  | nil=>rfl
  | cons h r ih=>rw [Ow,Ow,m8 h,ih]
 rw [e]
 refine ⟨?_,?_⟩
 ·refine List.Pairwise.map _ (fun a b hab z=>hab ?_) hn
  have:=R5 z
  exact (List.cons.inj this).1
 ·rw [Ng,Oj,<- Paired.length hp]
  omega
theorem pG:∀ {f:L2.F} {p:List Int} {ws:List Str},LQ ws f->p.length+f.dep<=1000->∀ t∈tlsF f p,t.2.2.2.Nodup/\t.2.2.2.length<=6/\t.2.2.1.length<=1000
 | .nil,_,_,_,_,_,h=>nomatch h
 | .say m zs r,p,ws,ho,hd,t,h=>pG (f:=r) (fun u hu=>ho u (Nt _ hu)) hd t h
 | .tell m sc ph bs ms r,p,ws,ho,hd,t,h=>by
  have hd':p.length+r.dep<=1000:=hd
  rcases NT.mp h with e | e
  ·subst e
   obtain ⟨h1,h2⟩:=Ld (ho _ Ny)
   exact ⟨h1,h2,by show p.length<=1000; omega⟩
  ·exact pG (f:=r) (fun u hu=>ho u (Nt _ hu)) hd' t e
 | .part m j r,p,ws,ho,hd,t,h=>by
  have hd':p.length+max (j.dep+1) r.dep<=1000:=hd
  rcases Nz.mp h with e | e
  ·exact pG (f:=j) (fun u hu=>ho u (Nt _ (O8 _ hu))) (by rw [Np,O5]; omega) t e
  ·exact pG (f:=r) (fun u hu=>ho u (Nt _ (NZ _ hu))) (by omega) t e
theorem DocQ.tls {ns:List Int} {ws:List Str} {f:L2.F} (h:DocQ ns ws f 12):TlsOk (tlsF f [0]) :=
 ⟨OJ (mJ f [0]) h.few,pG h.ok (by have:=h.dep; show 1+f.dep<=1000; omega)⟩
def Gm:Sp:=fun vs H Q _=>∃ (sc:Str) (a b:Addr) (ts ps:List Int),vs=[.str sc,.ref a,.ref b]/\sc∈jo/\iT H a ts/\iT H b ps/\ts.length<=1000/\ps.length<=1000/\∀ H',Same H H'->Q (.int (bF sc ts ps)) H'
structure NmS (mg:Str->Option Value):Prop where
 e:∃ t,mg "STRENGTH_ELSE"=some (.int 0 t)
 a:∃ t,mg "STRENGTH_ALL"=some (.int 1 t)
 h:∃ t,mg "STRENGTH_HERE"=some (.int 100 t)
 n:∃ t,mg "GOVERNS_NOT"=some (.int (-1) t)
section
variable {P:Program} {w:World} {K:Nh} {mg:Str->Option Value} {base:Heap} {f:Addr} {fd:FuncData}
theorem MP:FnScope ["scope","told","place"] ["scope","told","place"] (aA gk):=⟨rfl,rfl,rfl,by decide +kernel,rfl,by decide +kernel,by decide +kernel⟩
set_option maxHeartbeats 4000000 in
theorem Ku (F:Fun K "strength" "strength" gk f fd) (ml:mg "len"=none) (T:NmS mg):FnOk P w K mg base CX0 1 f fd ["scope","told","place"] Gm:=by
 obtain ⟨t1,he⟩:=T.e
 obtain ⟨t2,ha⟩:=T.a
 obtain ⟨t3,hh⟩:=T.h
 obtain ⟨t4,hn⟩:=T.n
 refine F.ok MP (fun vs H Q E h=>?_) (fun cdv A outer s H vs Q E hr h=>?_)
 ·obtain ⟨sc,a,b,ts,ps,rfl,_⟩:=h
  rfl
 obtain ⟨sc,a,b,ts,ps,rfl,hsc,hA,hB,k9,p9,q⟩:=h
 refine ⟨_,ao (bJ (aN eG (pv 0) cJ (bD _)) (aD (aU (fG (v:=.int 0) rfl he ⟨_,rfl⟩))) aR)
  (ao (bJ (aN eG (pv 0) cJ (bD _)) (aD (aU (fG (v:=.int 1) rfl ha ⟨_,rfl⟩))) aR)
  (ao (bJ (aN eG (pv 0) cJ (bD _)) (aD (aU (Dd (aN (v7 jN hr.units0) (pv 2) (pv 1) (bD _)) (fG (v:=.int 100) rfl hh ⟨_,rfl⟩) (fG (v:=.int (-1)) rfl hn ⟨_,rfl⟩)))) aR)
  (ao (bJ (aN (v7 jN hr.units0) (cM o7 (pv 2) fO (bY (aH bB rfl ml Ou (aj (pv 1) aq)))) (pv 1) (bD _)) (aD (aU (aG bW (aH bB rfl ml Ou (aj (pv 1) aq)) au))) aR)
  (aD (aU (fG (v:=.int (-1)) rfl hn ⟨_,rfl⟩)))))),?_⟩
 have el:((ts.map V.int).length:Int)=(ts.length:Int):=by rw [Ng]
 refine ⟨_,rfl,rfl,_,rfl,?_⟩
 refine ite2 (fun d=>?_) (fun d1=>?_)
 ·have d':sc="else":=V.str.inj (of_decide_eq_true d)
  have e:bF sc ts ps=0:=by rw [d']; unfold bF; rw [if_neg (fun z=>absurd z.1 (by decide)),if_neg (fun z=>absurd z.1 (by decide)),if_neg (by decide),if_pos rfl]
  rw [e] at q
  exact q H (Same.refl H)
 have n1:¬ sc="else":=fun z=>d1 (decide_eq_true (congrArg V.str z))
 refine ⟨_,rfl,rfl,_,rfl,?_⟩
 refine ite2 (fun d=>?_) (fun d2=>?_)
 ·have d':sc="all":=V.str.inj (of_decide_eq_true d)
  have e:bF sc ts ps=1:=by rw [d']; unfold bF; rw [if_neg (fun z=>absurd z.1 (by decide)),if_neg (fun z=>absurd z.1 (by decide)),if_pos rfl]
  rw [e] at q
  exact q H (Same.refl H)
 have n2:¬ sc="all":=fun z=>d2 (decide_eq_true (congrArg V.str z))
 have eZ:bF sc ts ps=if sc="part"/\ps.take ts.length=ts then 1+(ts.length:Int) else if sc="here"/\ps=ts then 100 else -1:=by unfold bF; rw [if_neg n2,if_neg n1]
 rw [eZ] at q
 refine ⟨_,rfl,rfl,_,rfl,?_⟩
 refine ite2 (fun d=>?_) (fun d3=>?_)
 ·have d':sc="here":=V.str.inj (of_decide_eq_true d)
  rw [if_neg (fun z=>by rw [d'] at z; exact absurd z.1 (by decide))] at q
  refine ⟨_,rfl,_,rfl,ps,ts,tupI hB,tupI hA,_,rfl,?_⟩
  refine ite2 (fun c=>?_) (fun c=>?_)
  ·have c':ps=ts:=of_decide_eq_true c
   rw [if_pos ⟨d',c'⟩] at q
   exact q H (Same.refl H)
  ·rw [if_neg (fun z=>c (decide_eq_true z.2))] at q
   exact q H (Same.refl H)
 have n3:¬ sc="here":=fun z=>d3 (decide_eq_true (congrArg V.str z))
 have hp:sc="part":=by
  rcases NT.mp hsc with z | hsc
  ·exact absurd z n2
  rcases NT.mp hsc with z | hsc
  ·exact z
  rcases NT.mp hsc with z | hsc
  ·exact absurd z n3
  rcases NT.mp hsc with z | hsc
  ·exact absurd z n1
  ·cases hsc
 refine ⟨_,rfl,_,rfl,a,_,rfl,.inr (SqT.of hA),_,rfl,b,_,rfl,hB,fun c H1 g1 h1=>?_⟩
 rw [el,Ad,<- Us] at h1
 refine ⟨_,rfl,_,_,tupI (xs:=ps.take ts.length) h1,tupI (show iT H1 a ts from g1 _ _ hA),_,rfl,?_⟩
 refine ite2 (fun c=>?_) (fun c=>?_)
 ·rw [if_pos ⟨hp,of_decide_eq_true c⟩] at q
  refine ⟨_,rfl,a,_,rfl,.inr (SqT.of (g1 _ _ hA)),_,_,rfl,rfl,?_⟩
  rw [el]
  show Q (.int ((ts.length:Int)+1)) H1
  rw [Int.add_comm]
  exact q H1 g1
 ·rw [if_neg (fun z=>c (decide_eq_true z.2)),if_neg (fun z=>n3 z.1)] at q
  exact q H1 g1
end
end D
namespace L2
open PySem PySem.Spec PyProof.Rows
end L2
namespace L2
open PySem
section
variable {prog:Program} {w:World} {A:Around} {E:Value->Shared->Prop} {s:Shared}
structure ZipOff (z TI TO i1 i2:Addr) (fp1 fp2:List Addr):Prop where
 a:TI≠z/\TO≠z/\i1≠z/\i2≠z/\TI≠TO/\TI≠i1/\TI≠i2/\TO≠i1/\TO≠i2/\i1≠i2
 b:z∉fp1/\TO∉fp1/\i2∉fp1
 c:z∉fp2/\TO∉fp2/\i1∉fp2
variable {z TI TO i1 i2:Addr} {fp1 fp2:List Addr} {n1 n2 k:Nat} {P1 P2:Nat->Value->Prop} {S1 S2:Nat->Heap->Prop} {u0 v0:Value}
end
section
variable {prog:Program} {w:World} {A:Around} {E:Value->Shared->Prop} {s:Shared}
end
end L2
namespace L2
open PySem PySem.Spec PyProof.Rows
section
variable {X:Cx} {pins:List (Addr×Obj)} {σ:St} {H:Hp} {s:Shared} {a c:Addr} {xs:List V}
end
structure ZipAt (z TI TO i1 i2 a b:Addr) (i:Nat) (h:Heap):Prop where
 z:IsZip h z TI TO .none
 ti:IsPair h TI (.ref i1) (.ref i2)
 to:∃ u v,IsPair h TO u v
 t:h.IsTupleIter i1 a i
 l:h.IsListIter i2 b i
structure Five (z TI TO i1 i2:Addr):Prop where
 a:TI≠z/\TO≠z/\i1≠z/\i2≠z/\TI≠TO/\TI≠i1/\TI≠i2/\TO≠i1/\TO≠i2/\i1≠i2
section
variable {P:Program} {w:World} {K:Nh} {elts:List Expr} {kt:Nat} {pt:Pos}
end
section
variable {X:Cx} {elts:List Expr} {kt:Nat} {pt:Pos}
end
section
variable {X:Cx}
end
end L2
namespace D
open PySem L2
def isW (x:Str):Bool:=decide (1<=x.length) && decide (x.length<=20) && x.cps.toList.all good
theorem Km {x:Str} (h:Wd x):isW x=true:=by
 unfold isW
 rw [decide_eq_true h.1,decide_eq_true h.2.1,show x.cps.toList.all good=true from h.2.2] <;> rfl
theorem Fv (c:Nat):decide (c∈W62.cps.toList)=good c:=by
 by_cases h:c<128
 ·have all:∀ c:_root_.Fin 128,decide (c.val∈W62.cps.toList)=good c.val:=by decide +kernel
  exact all ⟨c,h⟩
 ·have l:∀ d∈W62.cps.toList,d<128:=by decide +kernel
  have h1:c∉W62.cps.toList:=fun z=>h (l c z)
  have h2:good c=false:=by
   unfold good
   rw [decide_eq_false (show ¬ c<=122 by omega),decide_eq_false (show ¬ c<=90 by omega),decide_eq_false (show ¬ c<=57 by omega)]
   simp
  rw [decide_eq_false h1,h2]
structure Tw (K:Nh) (mg:Str->Option Value):Prop where
 len:mg "len"=none
 isi:mg "isinstance"=none
 str:mg "str"=none
 all:mg "all"=none
 tuple:mg "tuple"=none
 most:∃ t,mg "MOST_SIGNS"=some (.int 20 t)
 signs:∃ t,mg "WORD_SIGNS"=some (.str W62 t)
 kS:PySem.W.kitOne K (.type "str") (.type "str")=some true
def Ep:Sp:=fun vs H Q _=>∃ x:Str,vs=[.str x]/\x.length<=sizeLine/\∀ H',Same H H'->Q (.bl (isW x)) H'
section
variable {P:Program} {w:World} {K:Nh} {mg:Str->Option Value} {base:Heap} {f:Addr} {fd:FuncData}
theorem JR:FnScope ["thing"] ["thing"] (aA fW):=⟨rfl,rfl,rfl,by decide +kernel,rfl,by decide +kernel,by decide +kernel⟩
theorem Hv (F:Fun K "is_word" "is_word" fW f fd) (T:Tw K mg):FnOk P w K mg base CX0 1 f fd ["thing"] Ep:=by
 refine F.ok JR (fun vs H Q E h=>?_) (fun cdv A outer s H vs Q E hr h=>?_)
 ·obtain ⟨v,rfl,_⟩:=h
  rfl
 obtain ⟨x,rfl,hz,q⟩:=h
 obtain ⟨tm,hm⟩:=T.most
 obtain ⟨tw,hw⟩:=T.signs
 refine ⟨_,ao (bJ (iK (fB (aH gY rfl T.isi O2 (aj (pv 0) (aj (iG (v:=.ty "str") rfl T.str PyProof.Rows.boot_str rfl) aq))))) (aD (aU jf)) aR)
  (ao (bJ (PW.pt (lO (aN qe (aH dM rfl T.len Ou (aj (pv 0) aq)) au (bD _)) (lC (aN uh (aH dM rfl T.len Ou (aj (pv 0) aq)) (fG (v:=.int 20) rfl hm ⟨_,rfl⟩) (bD _))))) (aD (aU jf)) aR)
  (aD (aU (aH (jK rfl) rfl T.all Vk (aj (ju ["thing"] (aA fW) rfl (by decide +kernel) (by decide +kernel) (Kd (pv 0)) (fun _ _ _ _ _=>mD)
   (fun _ _ _ _ _=>o8 Bx (pv 1) (fG (v:=.str W62) rfl hw ⟨_,rfl⟩) (by with_unfolding_all rfl))) aq))))),?_⟩
 refine ⟨_,rfl,_,_,_,_,true,rfl,rfl,.str x,T.kS,_,rfl,?_⟩
 refine iteF ?_
 refine ⟨_,rfl,x,rfl,hz,_,_,rfl,rfl,_,rfl,?_⟩
 refine ite2 (fun c=>?_) (fun c=>?_)
 ·have c':(x.length:Int)<1:=of_decide_eq_true c
  refine iteT ?_
  have e:isW x=false:=by
   unfold isW
   rw [decide_eq_false (show ¬ 1<=x.length by omega)] <;> rfl
  rw [e] at q
  exact q H (Same.refl H)
 ·have c':¬ (x.length:Int)<1:=of_decide_eq_false (Bool.eq_false_iff.mpr c)
  refine ⟨_,rfl,x,rfl,hz,_,_,rfl,rfl,_,rfl,?_⟩
  refine ite2 (fun d=>?_) (fun d=>?_)
  ·have d':(20:Int)<(x.length:Int):=of_decide_eq_true d
   have e:isW x=false:=by
    unfold isW
    rw [decide_eq_false (show ¬ x.length<=20 by omega),SM] <;> rfl
   rw [e] at q
   exact q H (Same.refl H)
  ·have d':¬ (20:Int)<(x.length:Int):=of_decide_eq_false (Bool.eq_false_iff.mpr d)
   have hl:(x.cps.toList.map fun c=>V.bl (good c)).length=x.length:=by simp [Str.length]
   refine ⟨_,rfl,x,rfl,?_⟩
   refine Bw (x.cps.toList.map fun c=>V.bl (good c)) (fun _ H'=>H'=H) (by rw [hl]; exact hz) rfl (fun i H' hi _=>by rw [hl] at hi; exact hi) (fun H' _=>by rw [hl]; exact Nu _) ?_ ?_ ?_
   ·rintro i y H1 v' H2 hy rfl ⟨rfl,c,hc,rfl⟩
    rw [NP,hc] at hy
    cases hy
    refine ⟨_,rfl,one c,W62,rfl,rfl,?_,rfl⟩
    rw [StrLaws.found_one,Fv]
   ·rintro H1 rfl p hp
    refine ⟨p,x.cps.toList.map good,rfl,?_,?_⟩
    ·rw [ak,Pq] <;> rfl
    ·have e:isW x=(x.cps.toList.map good).all id:=by
      unfold isW
      rw [decide_eq_true (show 1<=x.length by omega),decide_eq_true (show x.length<=20 by omega),Xj] <;> rfl
     rw [e] at q
     exact q _ (aB hp _)
   ·rintro σ' H1 Q1 Q2 hq ⟨u,hu,i,j,e1,e2,z⟩
    exact ⟨u,hu,i,j,e1,e2,hq _ _ z⟩
end
def dB (last:Str) (b:Str×Str):Str:=⟨((cs last).take (last.length-b.1.length)++cs b.2).toArray⟩
structure FOk (last:Str) (bs:List (Str×Str)):Prop where
 len:bs.length<=5
 fit:∀ b∈bs,b.1.length<=last.length/\(cs last).drop (last.length-b.1.length)=cs b.1/\b.2.length<=20/\allGood b.1/\allGood b.2/\1<=(dB last b).length/\(dB last b).length<=20
 nd:(last::bs.map (dB last)).Nodup
def Gh:Sp:=fun vs H Q _=>∃ (a b:Addr) (ws:List Str) (l:Str) (cp:Str×Str),vs=[.ref a,.ref b]/\H a=some (.tup ((ws++[l]).map V.str))/\H b=some (.tup [.str cp.1,.str cp.2])/\ws.length<=4/\Wd l /\
 (cp.1.length<=l.length/\(cs l).drop (l.length-cp.1.length)=cs cp.1/\cp.2.length<=20/\allGood cp.1/\allGood cp.2/\1<=(dB l cp).length/\(dB l cp).length<=20)/\∀ r H',Same H H'->H' r=some (.tup ((ws++[dB l cp]).map V.str))->Q (.ref r) H'
def zF:Sp:=fun vs H Q _=>∃ (a:Addr) (v:V) (ws:List Str) (l:Str) (bs:List (Str×Str)),vs=[.ref a,v]/\H a=some (.tup ((ws++[l]).map V.str))/\bR H bs v/\ws.length<=4/\Wd l/\FOk l bs/\∀ r xs H',Same H H'->H' r=some (.tup xs)->Paired (wR H') ((ws++[l])::bs.map fun c=>ws++[dB l c]) xs->Q (.ref r) H'
theorem CW {l:Str} {cp:Str×Str} (h1:cp.1.length<=l.length) (h2:(cs l).drop (l.length-cp.1.length)=cs cp.1):pP l cp.1=true:=by
 unfold pP
 rw [decide_eq_true h1,decide_eq_true h2] <;> rfl
theorem xV {l:Str} {cp:Str×Str} (h1:allGood l) (h2:allGood cp.2):allGood (dB l cp):=by
 unfold dB
 exact .mk (by rw [Vg,Dr h1,show (cs cp.2).all good=true from h2] <;> rfl)
theorem CP {l:Str} {cp:Str×Str} {n:Int} (h0:0<=n) (hn:n=(l.length:Int)-(cp.1.length:Int)):(⟨(cutC l none (some n)).toArray⟩:Str)++cp.2=dB l cp:=by
 refine oX ?_
 unfold dB
 rw [iJ,jY,jY,rH l h0]
 congr 2
 omega
theorem jU (H:Hp):∀ zs:List Str,Paired (strR H) zs (zs.map V.str)
 | []=>.nil
 | _::r=>.cons rfl (jU H r)
theorem Kf {K:Nh} {H:Hp} {zs:List Str} {v:V} (h:wR H zs v):tupR K strR H zs v:=let ⟨a,e,q⟩:=h; ⟨a,_,e,SqT.of q,jU _ _⟩
section
variable {P:Program} {w:World} {K:Nh} {mg:Str->Option Value} {base:Heap} {f:Addr} {fd:FuncData}
theorem vg:FnScope ["phrase","bend","last","cut","new_last"] ["phrase","bend"] (aA ni):=⟨rfl,rfl,rfl,by decide +kernel,rfl,by decide +kernel,by decide +kernel⟩
set_option maxHeartbeats 4000000 in
theorem Hu (F:Fun K "bent" "bent" ni f fd) (T:Tw K mg) (GW:Def P w K mg base CX0 1 "is_word" ["thing"] Ep):FnOk P w K mg base CX0 2 f fd ["phrase","bend"] Gh:=by
 refine F.ok vg (fun vs H Q E h=>?_) (fun cdv A outer s H vs Q E hr h=>?_)
 ·obtain ⟨a,b,ws,l,cp,rfl,_⟩:=h
  rfl
 obtain ⟨a,b,ws,l,cp,rfl,ha,hb0,nw,hl,⟨f1,f2,f3,f4,f5,f6,f7⟩,q⟩:=h
 refine ⟨_,ao (aF (i:=2) vg.nd rfl (Or.inl rfl) (aJ bA (pv 0) (jM gW au) (fun _ _=>rfl)))
  (ao (aF (i:=3) vg.nd rfl (Or.inl rfl) (aJ bA (pv 1) au (fun _ _=>rfl)))
  (ao (bJ (iK (fB (dZ PySem.F.plainAttrs_str PySem.F.slot_str_endswith PySem.F.type_str_endswith GX (pv 2) (aj (pv 3) aq)))) nD aR)
  (ao (aF (i:=4) vg.nd rfl (Or.inl rfl) (aG gQ (cM qy (pv 2) fO (bY (aG yL (aH dM rfl T.len Ou (aj (pv 2) aq)) (aH dM rfl T.len Ou (aj (pv 3) aq))))) (aJ bA (pv 1) au (fun _ _=>rfl))))
  (ao (bJ (iK (fB (aX GW hr (aj (pv 4) aq)))) nD aR)
  (aD (aU (aG (OpR.or qw uZ) (cM xP (pv 0) fO (bY (jM gW au))) (bh (aj (pv 4) aq))))))))),?_⟩
 have hb:=big
 have l20:=hl.2.1
 have zl:l.length<=sizeLine:=by omega
 have zc:cp.1.length<=sizeLine:=by omega
 have em:(ws++[l]).map V.str=ws.map V.str++[.str l]:=by rw [NK] <;> rfl
 have ha':SqT K H a (ws.map V.str++[.str l]):=SqT.of (by rw [<- em]; exact ha)
 refine ⟨_,rfl,1,rfl,a,_,_,_,rfl,rfl,ha',jP _ _,?_⟩
 refine ⟨_,rfl,b,_,_,_,rfl,rfl,SqT.of hb0,rfl,?_⟩
 refine ⟨_,rfl,rfl,_,rfl,l,cp.1,rfl,rfl,_,rfl,?_⟩
 rw [CW f1 f2]
 refine iteF ?_
 refine ⟨_,rfl,_,rfl,l,rfl,zl,_,rfl,cp.1,rfl,zc,_,_,rfl,rfl,_,rfl,l,rfl,zl,_,rfl,b,_,_,_,rfl,rfl,SqT.of hb0,rfl,_,_,rfl,rfl,?_,?_⟩
 ·rw [rB,rH _ (by omega),Oc,fV]
  omega
 ·rw [CP (cp:=cp) (show (0:Int)<=(l.length:Int)-(cp.1.length:Int) by omega) rfl]
  have hng:=xV (cp:=cp) hl.2.2 f5
  refine ⟨_,rfl,_,rfl,by omega,fun H1 g1=>⟨_,rfl,?_⟩⟩
  rw [Km ⟨f6,f7,hng⟩]
  refine iteF ?_
  refine zZ (xs:=ws.map V.str) (l:=.str l) (z:=.str (dB l cp)) rfl (g1.seqT ha') (by rw [Ng]; omega) (fun H2 g2 Q1 hq=>⟨_,rfl,hq⟩) (fun r H' g h=>q r H' (g1.trans g) ?_)
  rw [h,NK] <;> rfl
theorem oY:FnScope ["phrase","bends","found","bend","form"] ["phrase","bends"] (aA iD):=⟨rfl,rfl,rfl,by decide +kernel,rfl,by decide +kernel,by decide +kernel⟩
theorem Hw {p:Prop} (h:¬ p) (i:Decidable p):@decide p i=false:=@decide_eq_false p i h
set_option maxHeartbeats 4000000 in
theorem Gi (F:Fun K "forms" "forms" iD f fd) (T:Tw K mg) (GB:Def P w K mg base CX0 2 "bent" ["phrase","bend"] Gh):FnOk P w K mg base CX0 3 f fd ["phrase","bends"] zF:=by
 refine F.ok oY (fun vs H Q E h=>?_) (fun cdv A outer s H vs Q E hr h=>?_)
 ·obtain ⟨a,b,ws,l,cps,rfl,_⟩:=h
  rfl
 obtain ⟨a,v,ws,l,bs,rfl,ha,⟨b,bxs,rfl,hbx,hbp⟩,nw,hl,hB,q⟩:=h
 have hu:(A.deeper (PyProof.Rows.envOfC "forms" (aA iD) s.heap.objs.size f cdv)).in1.units<cLine:=by
  have:=hr.units
  show (A.deeper (PyProof.Rows.envOfC "forms" (aA iD) s.heap.objs.size f cdv)).units+1<cLine
  omega
 refine ⟨_,ao (aF (i:=2) oY.nd rfl (Or.inl rfl) (cD (aj (pv 0) aq)))
  (ao (cj PassesOwn.never rfl (uT (pv 1)) (aK (i:=3) oY.nd rfl (Or.inl rfl))
   (ao (aF (i:=4) oY.nd rfl (Or.inl rfl) (aX GB hr (aj (pv 0) (aj (pv 3) aq))))
   (ao (bJ (aN (Dy (vG wg hu)) (pv 4) (pv 2) (by with_unfolding_all rfl)) nD aR)
   (aD (cC (dZ Ob Oh Oi bO (pv 2) (aj (pv 4) aq)))))))
  (aD (aU (eF gn rfl T.tuple QF (aj (pv 2) aq))))),?_⟩
 have hb:=big
 have hbl:=dz hbp
 have hn:=hB.len
 refine ⟨_,rfl,(by show 1<=sizeLine; decide),fun p hp=>?_⟩
 have keep:∀ (H':Hp) (o:HO),Same H H'->Same H (upd H' p o):=fun H' o g=>aL hp g o
 have k0:=keep H (.lst [.ref a]) (Same.refl H)
 refine ⟨_,rfl,b,rfl,⟨_,SqT.of (k0 _ _ hbx)⟩,?_⟩
 refine pB (K:=K) (a:=b) (xs:=bxs) (fun i σ' H'=>Same H H'/\(∃ u v:Option V,σ'=[some (.ref a),some (.ref b),some (.ref p),u,v])/\∃ xs,H' p=some (.lst xs)/\Paired (wR H') ((ws++[l])::(bs.take i).map fun c=>ws++[dB l c]) xs) ?_ (fun i σ' H' _ h=>SqT.of (h.1 _ _ hbx)) ?_ ?_
 ·exact ⟨k0,⟨none,none,rfl⟩,_,ak,.cons ⟨a,rfl,k0 _ _ ha⟩ .nil⟩
 ·rintro i x σ' H' hi ⟨g,⟨u,v,rfl⟩,xs,hxs,ht⟩
  obtain ⟨cp,hcp,r,rfl,hr1⟩:=aY hbp hi
  have hm:=Nv hcp
  refine ⟨_,rfl,_,rfl,a,r,ws,l,cp,rfl,g _ _ ha,g _ _ hr1,nw,hl,hB.fit cp hm,fun r2 H2 g2 h2=>?_⟩
  have gA:=g.trans g2
  have hx2:=g2 _ _ hxs
  have ht2:Paired (wR H2) ((ws++[l])::(bs.take i).map fun c=>ws++[dB l c]) xs:=Paired.mapP ht fun _ _ z=>z.mono g2.t
  refine ⟨_,rfl,_,rfl,ws++[dB l cp],_,⟨r2,_,rfl,SqT.of h2,jU _ _⟩,⟨p,xs,rfl,SqL.of hx2,Paired.mapP ht2 fun _ _ z=>Kf z⟩,_,rfl,?_⟩
  have hno:ws++[dB l cp]∉(ws++[l])::(bs.take i).map fun c=>ws++[dB l c]:=by
   intro z
   have nd:=hB.nd
   have hsp:bs=bs.take i++cp::bs.drop (i+1):=by
    have hil:=(Nj.mp hcp).1
    have e:=(Nj.mp hcp).2
    rw [<- e,<- RL hil,QS]
   rw [hsp,NK,Ow] at nd
   have nd2:∀ y∈l::(bs.take i).map (dB l),y≠dB l cp:=by
    have:=(O4 (l₁:=l::(bs.take i).map (dB l)) (l₂:=dB l cp::(bs.drop (i+1)).map (dB l))).mp nd
    exact fun y hy=>this.2.2 y hy _ Ny
   rcases NT.mp z with e | e
   ·have:=(List.cons.inj (R5 e)).1
    exact nd2 l Ny this.symm
   ·obtain ⟨c,hc,e⟩:=Oq.mp e
    have:=(List.cons.inj (R5 e)).1
    exact nd2 _ (Nt _ (VH hc)) this
  rw [Hw hno]
  refine iteF ?_
  have hlx:xs.length<=6:=by
   rw [<- dz ht,Oj,Ng,Oc]
   omega
  refine ⟨_,rfl,.inl ⟨rfl,_,SqL.of hx2⟩,_,rfl,p,_,_,rfl,rfl,hx2,by omega,?_⟩
  refine ⟨keep H2 _ gA,⟨_,_,rfl⟩,xs++[.ref r2],ak,?_⟩
  have tl:TSame H2 (upd H2 p (.lst (xs++[.ref r2]))):=TSame.lst hx2
  rw [Oe,hcp,NK,<- Rb]
  exact cg (Paired.mapP ht2 fun _ _ z=>z.mono tl) ⟨r2,rfl,tl _ _ h2⟩
 ·rintro σ' H' ⟨g,⟨u,v,rfl⟩,xs,hxs,ht⟩
  refine ⟨_,rfl,p,_,rfl,.inl ⟨SqL.of hxs,fun r hr1=>?_⟩⟩
  rw [<- hbl,Oa] at ht
  exact q _ xs _ (g.trans (aB hr1 _)) ak (Paired.mapP ht fun _ _ z=>z.mono (aB hr1 _).t)
end
theorem mZ (t:Th):decide (V.str (knd t)=V.str "part")=true↔∃ n i,t=.part n i:=by
 cases t with
 | say n ws=>exact ⟨fun z=>absurd z (by show ¬ decide (V.str "say"=V.str "part")=true; decide),fun ⟨_,_,e⟩=>nomatch e⟩
 | tell n sc ph bs ms=>exact ⟨fun z=>absurd z (by show ¬ decide (V.str "tell"=V.str "part")=true; decide),fun ⟨_,_,e⟩=>nomatch e⟩
 | part n i=>exact ⟨fun _=>⟨n,i,rfl⟩,fun _=>decide_eq_true rfl⟩
theorem Gw {t:Th} (h:¬ ∃ n i,t=.part n i):t.sub=.nil:=by
 cases t with
 | say n ws=>rfl
 | tell n sc ph bs ms=>rfl
 | part n i=>exact absurd ⟨n,i,rfl⟩ h
abbrev PTh:=List Int×Th
def ordP:List Int->F->List PTh
 | _,.nil=>[]
 | p,.say n ws r=>(p,.say n ws)::ordP p r
 | p,.tell n sc ph bs ms r=>(p,.tell n sc ph bs ms)::ordP p r
 | p,.part n i r=>(p,.part n i)::(ordP (p++[n]) i++ordP p r)
def ordQ (x:PTh):List PTh:=x::ordP (x.1++[x.2.num]) x.2.sub
theorem je:∀ (p:List Int) (f:F),ordP p f=(f.ths.map fun t=>(p,t)).flatMap ordQ
 | _,.nil=>rfl
 | p,.say n ws r=>by
  show (p,Th.say n ws)::ordP p r=_
  rw [je p r] <;> rfl
 | p,.tell n sc ph bs ms r=>by
  show (p,Th.tell n sc ph bs ms)::ordP p r=_
  rw [je p r] <;> rfl
 | p,.part n i r=>by
  show (p,Th.part n i)::(ordP (p++[n]) i++ordP p r)=_
  rw [je p r] <;> rfl
theorem fM:∀ (p:List Int) (f:F),(ordP p f).map Prod.snd=f.ord
 | _,.nil=>rfl
 | p,.say n ws r=>by
  show Th.say n ws::(ordP p r).map Prod.snd=Th.say n ws::r.ord
  rw [fM p r]
 | p,.tell n sc ph bs ms r=>by
  show Th.tell n sc ph bs ms::(ordP p r).map Prod.snd=Th.tell n sc ph bs ms::r.ord
  rw [fM p r]
 | p,.part n i r=>by
  show Th.part n i::(ordP (p++[n]) i++ordP p r).map Prod.snd=Th.part n i::(i.ord++r.ord)
  rw [NK,fM p r,fM _ i]
theorem gC (p:List Int) (f:F):(ordP p f).length=f.ord.length:=by
 rw [<- fM p f,Ng]
theorem jc:∀ (p:List Int) (f:F) (x:PTh),x∈ordP p f->x.1.length<=p.length+f.dep
 | _,.nil,_,h=>nomatch h
 | p,.say n ws r,x,h=>by
  rcases NT.mp h with e | e
  ·subst e; exact Uy _ _
  ·exact jc p r x e
 | p,.tell n sc ph bs ms r,x,h=>by
  rcases NT.mp h with e | e
  ·subst e; exact Uy _ _
  ·exact jc p r x e
 | p,.part n i r,x,h=>by
  show _<=p.length+max (i.dep+1) r.dep
  rcases NT.mp h with e | e
  ·subst e; exact Uy _ _
  ·rcases Nz.mp e with e | e
   ·have:=jc (p++[n]) i x e
    rw [Np,O5] at this
    omega
   ·have:=jc p r x e
    omega
def pR (H:Hp) (x:PTh) (v:V):Prop:=∃ q a u,v=.ref q/\H q=some (.tup [.ref a,u])/\iT H a x.1/\thR H x.2 u
theorem pR.mono {H H':Hp} {x:PTh} {v:V} (h:pR H x v) (g:TSame H H'):pR H' x v:=by
 obtain ⟨q,a,u,e,h1,h2,h3⟩:=h
 exact ⟨q,a,u,e,g _ _ h1,g _ _ h2,h3.mono g⟩
abbrev psR (H:Hp):List PTh->List V->Prop:=Paired (pR H)
theorem psR.mono {H H':Hp} {ts:List PTh} {xs:List V} (h:psR H ts xs) (g:TSame H H'):psR H' ts xs:=Paired.mapP h fun _ _ z=>z.mono g
theorem uq {f:F} {p:List Int} {i:Nat} {t:Th} (h:f.ths[i]?=some t):((f.ths.take (i+1)).map fun t=>(p,t))=((f.ths.take i).map fun t=>(p,t))++[(p,t)]:=by
 rw [Oe,h,NK] <;> rfl
def qR (H:Hp) (x:PTh) (v:V):Prop:=∃ q a u,v=.ref q/\H q=some (.tup [u,.ref a])/\iT H a x.1/\thR H x.2 u
theorem qR.mono {H H':Hp} {x:PTh} {v:V} (h:qR H x v) (g:TSame H H'):qR H' x v:=by
 obtain ⟨q,a,u,e,h1,h2,h3⟩:=h
 exact ⟨q,a,u,e,g _ _ h1,g _ _ h2,h3.mono g⟩
abbrev qsR (H:Hp):List PTh->List V->Prop:=Paired (qR H)
theorem qsR.mono {H H':Hp} {ts:List PTh} {xs:List V} (h:qsR H ts xs) (g:TSame H H'):qsR H' ts xs:=Paired.mapP h fun _ _ z=>z.mono g
def sG (d:Nat):Sp:=fun vs H Q _=>∃ (v:V) (n:Int) (f:F) (a:Addr) (p:List Int),vs=[v,.ref a]/\fP H n f v/\iT H a p/\f.dep<d/\f.ord.length<=1000/\p.length+f.dep<=1000 /\
 ∀ r xs H',Same H H'->H r=none->H' r=some (.lst xs)->qsR H' (ordP p f) xs->Q (.ref r) H'
theorem jk {t:Th}:∀ {f:F},t∈f.ths->t.sub.dep+1<=f.dep∨¬ ∃ n i,t=.part n i
 | .say n ws r,h=>by
  rcases NT.mp h with e | e
  ·exact .inr (fun ⟨_,_,z⟩=>by rw [e] at z; cases z)
  ·exact jk (f:=r) e
 | .tell n sc ph bs ms r,h=>by
  rcases NT.mp h with e | e
  ·exact .inr (fun ⟨_,_,z⟩=>by rw [e] at z; cases z)
  ·exact jk (f:=r) e
 | .part n i r,h=>by
  rcases NT.mp h with e | e
  ·subst e
   exact .inl (by show i.dep+1<=max (i.dep+1) r.dep; omega)
  ·rcases jk (f:=r) e with z | z
   ·exact .inl (by show _<=max (i.dep+1) r.dep; omega)
   ·exact .inr z
theorem nj {f:F} {p:List Int} {i:Nat} {t:Th} (h:f.ths[i]?=some t):((f.ths.take (i+1)).map fun t=>(p,t)).flatMap ordQ=((f.ths.take i).map fun t=>(p,t)).flatMap ordQ++((p,t)::ordP (p++[t.num]) t.sub):=by
 rw [uq h,O7]
 congr 1
 show ordQ (p,t)++[]=_
 rw [N6] <;> rfl
theorem zR {f:F} {p:List Int} (i:Nat):(((f.ths.take i).map fun t=>(p,t)).flatMap ordQ).length<=f.ord.length:=by
 rw [<- gC p f,je]
 conv=>rhs; rw [<- QS i f.ths,NK,O7,Np]
 omega
section
variable {P:Program} {w:World} {K:Nh} {mg:Str->Option Value} {base:Heap} {f:Addr} {fd:FuncData}
theorem Fl:FnScope ["part","path","found","thing"] ["part","path"] (aA bN):=⟨rfl,rfl,rfl,by decide +kernel,rfl,by decide +kernel,by decide +kernel⟩
set_option maxHeartbeats 4000000 in
theorem Fp {d:Nat} (F:Fun K "things_with_homes" "things_with_homes" bN f fd) (G:Def P w K mg base CX0 d "things_with_homes" ["part","path"] (sG d)):FnOk P w K mg base CX0 (d+1) f fd ["part","path"] (sG (d+1)):=by
 refine F.ok Fl (fun vs H Q E h=>?_) (fun cdv A outer s H vs Q E hr h=>?_)
 ·obtain ⟨v,n,fo,a,p,rfl,_⟩:=h
  rfl
 obtain ⟨v,n,fo,a,p,rfl,hv,ha,hd,hlen,hpl,q⟩:=h
 refine ⟨_,ao (aF (i:=2) Fl.nd rfl (Or.inl rfl) (cD aq))
  (ao (cj PassesOwn.never rfl (uT (aJ bA (pv 0) au (fun _ _=>rfl))) (aK (i:=3) Fl.nd rfl (Or.inl rfl))
   (ao (cC (dZ Ob Oh Oi bO (pv 2) (aj (bh (aj (pv 3) (aj (pv 1) aq))) aq)))
   (aD (bJ (aN eG (aJ bA (pv 3) au (fun _ _=>rfl)) cJ (bD _))
    (aD (cC (dZ Ob RW RX Cj (pv 2) (aj (aX G hr (aj (pv 3) (aj (aG jj (pv 1) (bh (aj (aJ bA (pv 3) au (fun _ _=>rfl)) aq))) aq))) aq)))) aR))))
  (aD (aU (pv 2)))),?_⟩
 have hb:=big
 obtain ⟨da,db,zs0,rfl,h1,h2,h3⟩:=hv
 have hths:=jm.mp h3
 refine ⟨(by show 0<=sizeLine; decide),fun l hl=>?_⟩
 have g1:=aB hl (.lst [])
 have e1:upd H l (.lst []) l=some (.lst []):=ak
 generalize upd H l (.lst [])=H1 at g1 e1 ⊢
 refine ⟨_,rfl,da,_,_,_,rfl,rfl,SqT.of (g1 _ _ h1),rfl,db,rfl,⟨_,SqT.of (g1 _ _ h2)⟩,?_⟩
 refine pB (K:=K) (a:=db) (xs:=zs0) (fun i σ' H'=>∃ (zs:List V) (u:Option V),σ'=[some (.ref da),some (.ref a),some (.ref l),u]/\Same H H'/\H' l=some (.lst zs)/\qsR H' (((fo.ths.take i).map fun t=>(p,t)).flatMap ordQ) zs) ?_ (fun i σ' H' _ h=>by obtain ⟨zs,u,_,g,_⟩:=h; exact SqT.of (g _ _ h2)) ?_ ?_
 ·exact ⟨[],none,rfl,g1,e1,.nil⟩
 ·rintro i v σ' H' hi ⟨zs,u,rfl,g,hl',hzs⟩
  obtain ⟨th,hth,hv⟩:=aY hths hi
  have hv':=hv.mono g.t
  have hsz:zs.length<=1000:=by
   rw [<- dz hzs]
   exact OJ (zR i) hlen
  refine ⟨_,rfl,.inl ⟨rfl,_,SqL.of hl'⟩,_,rfl,_,rfl,(by show 2<=sizeLine; decide),fun t1 ht1=>?_⟩
  have k1:=aB ht1 (.tup [v,.ref a])
  have l1:upd H' t1 (.tup [v,.ref a]) l=some (.lst zs):=k1 _ _ hl'
  have x1:qR (upd H' t1 (.tup [v,.ref a])) (p,th) (.ref t1):=⟨t1,a,v,rfl,ak,k1 _ _ (g _ _ ha),hv'.mono k1.t⟩
  generalize upd H' t1 (.tup [v,.ref a])=H2 at k1 l1 x1 ⊢
  refine ⟨l,_,_,rfl,rfl,l1,by omega,?_⟩
  have k2:TSame H2 (upd H2 l (.lst (zs++[.ref t1]))):=TSame.lst l1
  have kk:Same H (upd H2 l (.lst (zs++[.ref t1]))):=aL hl (g.trans k1) _
  have e2:upd H2 l (.lst (zs++[.ref t1])) l=some (.lst (zs++[.ref t1])):=ak
  have z2:qsR (upd H2 l (.lst (zs++[.ref t1]))) (((fo.ths.take i).map fun t=>(p,t)).flatMap ordQ++[(p,th)]) (zs++[.ref t1]):=dO ((hzs.mono k1.t).mono k2) (.cons (x1.mono k2) .nil)
  have v2:=(hv'.mono k1.t).mono k2
  generalize upd H2 l (.lst (zs++[.ref t1]))=H3 at k2 kk e2 z2 v2 ⊢
  obtain ⟨va,vx,rfl,hva,hk0,_⟩:=gU v2
  refine ⟨_,rfl,va,_,_,_,rfl,rfl,SqT.of hva,hk0,rfl,_,rfl,?_⟩
  refine ite2 (fun dd=>?_) (fun dd=>?_)
  ·obtain ⟨pn,k,rfl⟩:=(mZ th).mp dd
   obtain ⟨pa,pb,pz,ea,w1,w2,w3⟩:=v2
   cases ea
   have hdk:k.dep+1<=fo.dep:=by
    rcases jk (f:=fo) (Nv hth) with z | z
    ·exact z
    ·exact absurd ⟨pn,k,rfl⟩ z
   have hkl:(((fo.ths.take i).map fun t=>(p,t)).flatMap ordQ).length+(k.ord.length+1)<=1000:=by
    have z:=zR (f:=fo) (p:=p) (i+1)
    rw [nj hth,Np,Oj,gC] at z
    exact OJ z hlen
   refine ⟨_,rfl,.inl ⟨rfl,_,SqL.of e2⟩,_,rfl,_,rfl,_,rfl,va,_,_,_,rfl,rfl,SqT.of w1,rfl,(by show 1<=sizeLine; decide),fun t2 ht2=>?_⟩
   have k3:=aB ht2 (.tup [.int pn])
   have e3:upd H3 t2 (.tup [.int pn]) t2=some (.tup [.int pn]):=ak
   generalize upd H3 t2 (.tup [.int pn])=H4 at k3 e3 ⊢
   refine ⟨a,t2,_,_,rfl,rfl,k3 _ _ (kk _ _ ha),e3,by rw [Ng,O5]; omega,fun t3 H5 g5 h5=>?_⟩
   have h5':iT H5 t3 (p++[pn]):=by
    show H5 t3=_
    rw [NK]
    exact h5
   have k5:=k3.trans g5
   refine ⟨.ref va,pn,k,t3,p++[pn],rfl,⟨va,pb,pz,rfl,k5 _ _ w1,k5 _ _ w2,j8 k5.t w3⟩,h5',by omega,by omega,by rw [Np,O5]; omega,fun r xs H6 g6 fr er hxs=>?_⟩
   have k6:=k5.trans g6
   have e6:=k6 _ _ e2
   have hxl:xs.length=k.ord.length:=by rw [<- dz hxs,gC]
   refine ⟨l,r,_,_,rfl,rfl,e6,er,by rw [Np,O5]; omega,?_⟩
   have k7:TSame H6 (upd H6 l (.lst (zs++[.ref t1]++xs))):=TSame.lst e6
   refine ⟨zs++[.ref t1]++xs,_,rfl,aL hl (kk.trans k6) _,ak,?_⟩
   rw [nj hth]
   have e8:((p,Th.part pn k)::ordP (p++[(Th.part pn k).num]) (Th.part pn k).sub)=[(p,Th.part pn k)]++ordP (p++[pn]) k:=rfl
   rw [e8,<- PN]
   exact dO ((z2.mono k6.t).mono k7) (hxs.mono k7)
  ·refine ⟨_,_,rfl,kk,e2,?_⟩
   rw [nj hth,Gw (fun z=>dd ((mZ th).mpr z))]
   exact z2
 ·rintro σ' H' ⟨zs,u,rfl,g,hl',hzs⟩
  have el:zs0.length=fo.ths.length:=(dz hths).symm
  rw [el,Oa,<- je] at hzs
  exact ⟨_,rfl,q l zs H' g hl hl' hzs⟩
theorem Gx (F:Fun K "things_with_homes" "things_with_homes" bN f fd) (b:Binds K fd ["part","path"] []) (kp:PySem.W.keepIn K (.ref f)=true) (hm:mg "things_with_homes"=some (.ref f)):∀ d,FnOk P w K mg base CX0 d f fd ["part","path"] (sG d)
 | 0=>yg fun vs H Q E ⟨v,n,fo,a,p,_,_,_,hd,_⟩=>absurd hd (Vl _)
 | d+1=>Fp F (Def.mk' (Gx F b kp hm d) b kp hm)
end
structure Tree (f:F):Prop where
 dep:f.dep<=10
 len:f.ord.length<=200
 nd:(f.ord.map Th.num).Nodup
 pos:∀ t∈f.ord,1<=t.num
theorem lY {f:F} {p:List Int} {x:PTh} (h:x∈ordP p f):x.2∈f.ord:=by
 rw [<- fM p f]
 exact VH h
section
variable {P:Program} {w:World} {K:Nh} {mg:Str->Option Value} {base:Heap} {f:Addr} {fd:FuncData} {CT:Addr}
end
end D
namespace L2
open PySem PySem.Spec PyProof.Rows
section
variable {X:Cx} {pins:List (Addr×Obj)} {σ:St} {H:Hp} {s:Shared} {a:Addr} {kvs:List (Key×V)} {k:Key} {u r:Value} {d:V} {A:Around} {E:Value->Shared->Prop}
theorem DN {Q:Value->Shared->Prop} (I:Inv X pins σ H s) (e:H a=some (.dK kvs)) (ry:RelV (kV k) u) (rd:RelV d r) (hl:kvs.length<sizeLine)
  (h1:∀ v w' s',valV kvs k=some v->Inv X pins σ H s'->RelV v w'->Q w' s') (h2:∀ s',valV kvs k=none->Inv X pins σ (upd H a (.dK (putK kvs k d))) s'->Q r s') :
  wpAny (model X.prog X.w) A (call (.builtin "dict.setdefault") [.ref a,u,r]) Q E s:=by
 obtain ⟨z,hd,vs,rel,dd⟩:=Gk I.hok e
 have rv:=rel.val k
 refine Wt Td dd.typeIs PySem.F.entry_dict_setdefault (PySem.F.args_dict_setdefault_3 _ _ _) (kt_meets_setdefault (bU X.prog X.w) a (nZ ry) hd r) ⟨vs,dd,by rw [<- rel.length]; exact z,fun v hv=>?_,fun hn h' dd' hs=>?_⟩
 ·rw [hv] at rv
  cases hq:valV kvs k with
  | none=>rw [hq] at rv; exact absurd rv (fun z=>by cases z)
  | some w0 =>
   rw [hq] at rv
   exact h1 w0 v _ hq (I.tok _) rv
 ·have hq:valV kvs k=none:=by
   rw [hn] at rv
   cases hq:valV kvs k with
   | none=>rfl
   | some w0=>rw [hq] at rv; exact absurd rv (fun z=>by cases z)
  have hz:(putK kvs k d).length<=sizeLine:=by have:=dw kvs k d; omega
  have he:∃ q,h'.get? a=some q:=let ⟨q,_,_,hq,_⟩:=dd'; ⟨q,hq⟩
  exact h2 _ hq (oN I (by rw [e]; exact True.intro) hs he (yP hz hd (rel.put k rd) dd'))
end
def FP (td ty tx:TE):TE:=fun σ H Q=>td σ H fun x H1=>∃ a,x=.ref a/\IsD H1 a/\ty σ H1 fun y H2=>tx σ H2 fun z H3=>∃ kvs k,H3 a=some (.dK kvs)/\y=kV k/\kvs.length<sizeLine /\
 (∀ v,valV kvs k=some v->Q v H3)/\(valV kvs k=none->Q z (upd H3 a (.dK (putK kvs k z))))
section
variable {X:Cx} {o e f:Expr} {apos cpos:Pos} {td ty tx:TE}
theorem CN (ho:PE X o td) (he:PE X e ty) (hf:PE X f tx) (m:M2 X o "setdefault" apos e f cpos):PE X (.Call (.Attribute o "setdefault" apos) [e,f] [] cpos) (FP td ty tx):=by
 intro pins s σ H Q I h
 refine Wh m.base m.few m.line Ur Td PySem.F.type_dict_setdefault (thn (ho pins s σ H _ I h) fun u s1 ⟨x,H1,I1,rx,a,ex,d,q1⟩=>?_)
 subst ex
 obtain rfl:u=Value.ref a:=rx
 obtain ⟨t1,t2,_⟩:=Ej I1 d
 refine ⟨t1,t2,?_⟩
 rw [m.trees]
 refine Sh rfl (RD (Rm (thn (he pins s1 σ H1 _ I1 q1) fun iv s2 ⟨y,H2,I2,ry,q2⟩ =>
  Rm (thn (hf pins s2 σ H2 _ I2 q2) fun fv s3 ⟨z,H3,I3,rz,kvs,k,ea,ey,hl,q3,q4⟩=>Ua ?_))))
 subst ey
 exact DN I3 ea ry rz hl (fun v w' s4 hv I4 rw'=>⟨v,H3,I4,rw',q3 v hv⟩) (fun s4 hn I4=>⟨z,_,I4,rz,q4 hn⟩)
end
theorem jF {α β:Type} {f g:α->Option β}:∀ {l:List α},(∀ x∈l,f x=g x)->l.filterMap f=l.filterMap g
 | [],_=>rfl
 | x::r,h=>by
  rw [Qp,Qp,h x Ny,jF (l:=r) fun y hy=>h y (Nt _ hy)]
theorem cg {α β:Type} {F:α->β->Prop} {a:α} {b:β}:∀ {l:List α} {m:List β},Paired F l m->F a b->Paired F (l++[a]) (m++[b])
 | _,_,.nil,h=>.cons h .nil
 | _,_,.cons h1 t,h=>.cons h1 (cg t h)
theorem jz {α β:Type} {F:α->β->Prop}:∀ {l:List α} {m:List β},Paired F l m->Paired F l.reverse m.reverse
 | _,_,.nil=>.nil
 | _,_,.cons h t=>by
  rw [Rv,Rv]
  exact cg (jz t) h
theorem Cp {α:Type} (ys:List α):(List.range ys.length).filterMap (ys[·]?)=ys:=by
 have h:=pick_run ys.toArray 0 ys.length
 have e:((List.range ys.length).map (0 + ·))=List.range ys.length:=by simp
 rw [e] at h
 simpa using h
theorem rP (its:List Value):slicePick its.toArray none none (some (-1))=its.reverse.toArray:=by
 unfold slicePick
 have hb:sliceBounds none none (some (-1)) its.toArray.size=((its.length:Int)-1,-1,-1):=by simp [sliceBounds]
 rw [hb]
 congr 1
 have hr:sliceRange ((its.length:Int)-1) (-1) (-1)=(List.range its.length).map fun k=>its.length-1-k:=by
  unfold sliceRange
  simp only [show ¬ ((-1:Int)>0) by decide,if_false]
  by_cases h0:its.length=0
  ·rw [h0]; rfl
  ·rw [if_pos (by omega)]
   have e:(((its.length:Int)-1 - -1 - -1-1) / (- -1)).toNat=its.length:=by
    have:(- -1:Int)=1:=rfl
    rw [this,Int.ediv_one]
    omega
   rw [e]
   refine Qq fun k hk=>?_
   have:=Qt.mp hk
   omega
 rw [hr,VR]
 have e2:=Cp its.reverse
 rw [Qs] at e2
 rw [<- e2]
 refine jF fun k hk=>?_
 have hk:=Qt.mp hk
 show its.toArray[its.length-1-k]?=its.reverse[k]?
 rw [List.getElem?_reverse hk]
 simp
def Mu (K:Nh) (te:TE) (tt:TO):TE:=fun σ H Q=>te σ H fun x H1=>tt σ H1 fun o H2=>o=some (-1)/\∃ a xs,x=.ref a/\SqL K H2 a xs/\∀ p,H2 p=none->Q (.ref p) (upd H2 p (.lst xs.reverse))
theorem uN {X:Cx} {e st:Expr} {te:TE} {tt:TO} {pos p2:Pos} (he:PE X e te) (hst:PO X (some st) tt):PE X (.Subscript e (.Slice none none (some st) p2) pos) (Mu X.K te tt):=by
 intro pins s σ H Q I h
 refine Subscript_ (thn (he pins s σ H _ I h) fun v s1 ⟨x,H1,I1,r1,q1⟩=>?_)
 refine wpAny_Slice ?_
 rw [V1]
 refine Ni (Ni (thn (hst pins s1 σ H1 _ I1 q1) fun vs s3 ⟨o,H3,I3,ps,eo,a,xs,ex,hx,q3⟩=>?_))
 subst eo ex
 cases r1
 have I4:Inv X pins σ H3 { s3 with heap:=s3.heap.push { cls:=.type "slice",data:=.fields #[.none,.none,vs] } }:=I3.kept (t':=s3.toks) fun b ob q=>Nk _ q
 obtain ⟨its,r,ht,hz⟩:=I4.list hx
 have hlen:=r.length
 show wpAny (model X.prog X.w) X.A (subscriptTail e (.Slice none none (some st) p2) (.ref a) (.ref s3.heap.objs.size)) (EP X pins σ Q) X.xe { s3 with heap:=s3.heap.push { cls:=.type "slice",data:=.fields #[.none,.none,vs] } }
 refine tail_any (ops:=[.ref a,.ref s3.heap.objs.size]) ht.isList.typeIs Ud.lookup ?_ (by with_unfolding_all rfl)
 refine Ue ht.isList (Heap.IsSliceOf.new ..) .none .none ps (by decide) ?_ (by rw [N5] <;> omega)
 rw [rP]
 refine ⟨.ref _,_,I4.laid (t':=s3.toks) (o:=.lst xs.reverse) (fun b ob q=>Nk _ q) (Nu _) ?_,rfl,q3 _ (I4.hok.fresh (Nu _))⟩
 exact ⟨by rw [Qs]; omega,_,0,jz r,NQ _ rfl⟩
section
open PySem.SeqAt
open PySem.AutoSeq1 (wpAny_loadPart')
open PySem.MeetsSeq PySem.MeetsSeq2 PySem.MeetsSeq3
theorem xY (l b:Addr) (its its2:Array Value) (n n2:Nat) (dd:Option Addr) (sl:Array (Option Value)) (h0:¬ (!its.isEmpty && Builtin.List.listTooLong (its.size+its2.size))=true) (h1:its.size<=sizeLine) (h2:its.size+its2.size<=sizeLine+1) :
  Meets (Builtin.«list.extend» ⟨[.ref l,.ref b],[]⟩)
   (fun _ R s=>s.heap.get? l=some { cls:=.type "list",data:=.seq its n }/\s.heap.get? b=some { cls:=.type "tuple",dict:=dd,data:=.seq its2 n2,slots:=sl } /\
    R (.ok (.ret Value.none)) { s with heap:=s.heap.update l (Obj.mapSeq fun x=>x++its2) }) :=
 .of_wp fun prog w A R s h=>by
  obtain ⟨hp,g,d,tk,os⟩:=s
  obtain ⟨hl,hb,h⟩:=h
  have f2:=AutoSeq1.sub_tuple_tuple
  have f3:=AutoSeq1.sub_list_list
  have f4:=AutoSeq1.sub_tuple_list
  have hz:(its++its2).size<=sizeLine+1:=by rw [Array.size_append]; exact h2
  wp_walk using (wpAny_updateSeq hl rfl (hz:=h1) (_hz':=hz)),wpAny_loadPart' hl,wpAny_loadPart' hb
  exact ⟨_,rfl,h⟩
end
section
variable {X:Cx}
def DG (K:Nh):V->List V->Hp->VK->Prop:=fun x vs H Q=>∃ l b xs zs,x=.ref l/\vs=[.ref b]/\H l=some (.lst xs)/\H b=some (.tup zs)/\xs.length+zs.length<=sizeLine/\Q .non (upd H l (.lst (xs++zs)))
theorem qW:MtM X "list.extend" (DG X.K):=by
 intro pins s σ H x vs v us Q I rx rv h
 obtain ⟨l,b,xs,zs,rfl,rfl,hH,hB,hz,q⟩:=h
 cases rx
 obtain ⟨u,rfl,ru⟩:=rv.one
 cases ru
 obtain ⟨z,its,n,r,hl,e⟩:=I.lstM hH
 obtain ⟨its2,r2,ht,hz2⟩:=I.tuple (SqT.of (K:=X.K) hB)
 obtain ⟨⟨oc,od,dt,sl⟩,e2,hc,n2,hd⟩:=ht
 dsimp only at hc hd
 subst hc hd
 have l1:=r.length
 have l2:=r2.length
 have hsz:its.toArray.size+its2.toArray.size<=sizeLine:=by rw [N5,N5]; omega
 have hlong:¬ (!its.toArray.isEmpty && Builtin.List.listTooLong (its.toArray.size+its2.toArray.size))=true:=by
  rw [vZ hsz,SM]
  exact Oz
 refine Vq V3 ⟨_,e,rfl⟩ VF (Vu _ _) (xY l b its.toArray its2.toArray n n2 od sl hlong (by rw [N5]; omega) (by omega)) ⟨e,e2,?_⟩
 exact ⟨.non,_,I.lset (its':=its++its2) hH e (by simp) (r.append r2) (by rw [Np]; omega),rfl,q⟩
end
end L2
namespace D
open PySem L2
abbrev HTh:=Int×Th
def full (D:Int->List Th):Th->Th
 | .say n ws=>.say n ws
 | .tell n sc ph bs ms=>.tell n sc ph bs ms
 | .part n _=>.part n (L2.F.of (D n))
def stepM (D:Int->List Th) (x:HTh):Int->List Th:=fun k=>if k=x.1 then full D x.2::D k else D k
def sX (rows:List HTh):Int->List Th:=rows.foldr (fun x D=>stepM D x) fun _=>[]
def rwR (H:Hp):Th->V->Prop
 | .say n ws,v=>thR H (.say n ws) v
 | .tell n sc ph bs ms,v=>thR H (.tell n sc ph bs ms) v
 | .part n _,v=>∃ b,v=.ref b/\H b=some (.tup [.str "part",.int n])
theorem rwR.mono {H H':Hp} {t:Th} {v:V} (h:rwR H t v) (g:TSame H H'):rwR H' t v:=by
 cases t with
 | say n ws=>exact thR.mono (t:=.say n ws) h g
 | tell n sc ph bs ms=>exact thR.mono (t:=.tell n sc ph bs ms) h g
 | part n i =>
  obtain ⟨b,e,q⟩:=h
  exact ⟨b,e,g _ _ q⟩
theorem Fq {H:Hp} {t:Th} {v:V} (h:rwR H t v):∃ a xs,v=.ref a/\H a=some (.tup xs)/\atI xs 0=some (.str (knd t))/\atI xs 1=some (.int t.num):=by
 cases t with
 | say n ws=>exact gU (t:=.say n ws) h
 | tell n sc ph bs ms=>exact gU (t:=.tell n sc ph bs ms) h
 | part n i =>
  obtain ⟨b,e,q⟩:=h
  exact ⟨b,_,e,q,rfl,rfl⟩
def rL (H:Hp) (x:HTh) (v:V):Prop:=∃ q a u p,v=.ref q/\H q=some (.tup [.ref a,u])/\iT H a (p++[x.1])/\rwR H x.2 u
theorem rL.mono {H H':Hp} {x:HTh} {v:V} (h:rL H x v) (g:TSame H H'):rL H' x v:=by
 obtain ⟨q,a,u,p,e,h1,h2,h3⟩:=h
 exact ⟨q,a,u,p,e,g _ _ h1,g _ _ h2,h3.mono g⟩
abbrev rLs (H:Hp):List HTh->List V->Prop:=Paired (rL H)
theorem rLs.mono {H H':Hp} {ts:List HTh} {xs:List V} (h:rLs H ts xs) (g:TSame H H'):rLs H' ts xs:=Paired.mapP h fun _ _ z=>z.mono g
structure DI (H0 H:Hp) (d:Addr) (D:Int->List Th) (i:Nat):Prop where
 ex:∃ kvs:List (Key×V),H d=some (.dK kvs)/\kvs.length<=i /\
  (∀ k:Int,(valV kvs (Sum.inl k)=none/\D k=[])∨∃ l xs,valV kvs (Sum.inl k)=some (.ref l)/\H l=some (.lst xs)/\thsR H (D k).reverse xs/\H0 l=none) /\
  ∀ k k' l,valV kvs (Sum.inl k)=some (.ref l)->valV kvs (Sum.inl k')=some (.ref l)->k=k'
 len:∀ k,(D k).length<=i
theorem Ft {kvs:List (Key×V)} {k:Key} {v:V}:(putK kvs k v).length<=kvs.length+1:=dw kvs k v
theorem uw (p:List Int) (h:Int):atI ((p++[h]).map V.int) (-1)=some (.int h):=by
 rw [NK]
 exact jP _ _
def cvU (r:Rw):HTh:=(parU r,match r.2 with | .inl n=>Th.part n .nil | .inr t=>t)
theorem Aj:∀ {R:List Rw},(∀ p t,((p,Sum.inr t):Rw)∈R->lW t)->∀ k,sX (R.map cvU) k=bld R k
 | [],_,_=>rfl
 | (p,x)::R,h,k=>by
  have ih:=Aj (R:=R) fun p t hm=>h p t (Nt _ hm)
  have e:sX (((p,x)::R).map cvU)=stepM (sX (R.map cvU)) (cvU (p,x)):=rfl
  rw [e]
  unfold stepM
  have e1:(cvU (p,x)).1=parU (p,x):=rfl
  rw [e1]
  by_cases hk:k=parU (p,x)
  ·rw [if_pos hk,qK hk.symm,ih k]
   congr 1
   cases x with
   | inl n =>
    show Th.part n (L2.F.of (sX (R.map cvU) n))=Th.part n (L2.F.of (bld R n))
    rw [ih n]
   | inr t =>
    have hl:=h p t Ny
    show full (sX (R.map cvU)) t=t
    cases t with
    | say n ws=>rfl
    | tell n sc ph bs ms=>rfl
    | part n i=>exact absurd ⟨n,i,rfl⟩ hl
  ·have eb:bld ((p,x)::R) k=bld R k:=if_neg fun z=>hk z.symm
   rw [if_neg hk,eb,ih k]
theorem Nb {H:Hp} {r:Rw} {v:V} (h:rwU H r v) (hp:r.1≠[]) (hl:∀ t,r.2=.inr t->lW t):rL H (cvU r) v:=by
 obtain ⟨a,pa,x,e,h1,h2,h3⟩:=h
 obtain ⟨p,y⟩:=r
 have hp:p≠[]:=hp
 refine ⟨a,pa,x,p.dropLast,e,h1,?_,?_⟩
 ·have e1:(cvU (p,y)).1=p.getLast hp:=by
   show p.getLastD 0=_
   conv=>lhs; rw [<- Qh hp]
   rw [Vy]
  show H pa=some (.tup ((p.dropLast++[(cvU (p,y)).1]).map V.int))
  rw [e1,Qh]
  exact h2
 ·cases y with
  | inl n=>exact h3
  | inr t =>
   have hl:=hl t rfl
   cases t with
   | say n ws=>exact h3
   | tell n sc ph bs ms=>exact h3
   | part n i=>exact absurd ⟨n,i,rfl⟩ hl
theorem Gg {H:Hp}:∀ {R:List Rw} {xs:List V},Paired (rwU H) R xs->(∀ r∈R,r.1≠[])->(∀ p t,((p,Sum.inr t):Rw)∈R->lW t)->rLs H (R.map cvU) xs
 | _,_,.nil,_,_=>.nil
 | (p,x)::R,_,.cons h t,hp,hl=>.cons (Nb h (hp _ Ny) fun t e=>hl p t (by rw [<- show x=.inr t from e]; exact Ny)) (Gg t (fun r hr=>hp r (Nt _ hr)) fun p t hm=>hl p t (Nt _ hm))
def yt:Sp:=fun vs H Q _=>∃ (ra:Addr) (xs:List V) (R:List Rw),vs=[.ref ra]/\H ra=some (.lst xs)/\Paired (rwU H) R xs/\(∀ r∈R,r.1≠[])/\(∀ p t,((p,Sum.inr t):Rw)∈R->lW t)/\R.length<=1000/\∀ u H',Same H H'->fP H' 0 (L2.F.of (bld R 0)) u->Q u H'
theorem DI.new {H0 H:Hp} {d:Addr} (e:H d=some (.dK [])):DI H0 H d (fun _=>[]) 0:=⟨⟨[],e,Nu _,fun _=>.inl ⟨rfl,rfl⟩,fun _ _ _ h=>nomatch h⟩,fun _=>Nu _⟩
theorem DI.keep {H0 H H':Hp} {d:Addr} {D:Int->List Th} {i:Nat} (h:DI H0 H d D i) (g:Same H H'):DI H0 H' d D i:=by
 obtain ⟨⟨kvs,e,hl,hk,hi⟩,hn⟩:=h
 refine ⟨⟨kvs,g _ _ e,hl,fun k=>?_,hi⟩,hn⟩
 rcases hk k with z | ⟨l,xs,z1,z2,z3,z4⟩
 ·exact .inl z
 ·exact .inr ⟨l,xs,z1,g _ _ z2,thsR.mono z3 g.t,z4⟩
theorem vV (D:Int->List Th) (x:HTh):(stepM D x x.1).reverse=(D x.1).reverse++[full D x.2]:=by
 unfold stepM
 rw [if_pos rfl,Rv]
theorem wj {D:Int->List Th} {i:Nat} (h:∀ k,(D k).length<=i) (x:HTh):∀ k,(stepM D x k).length<=i+1:=fun k=>by
 unfold stepM
 have:=h k
 split
 ·rw [Oj]; omega
 ·omega
theorem vX {H:Hp} {d:Addr} {kvs:List (Key×V)} {o:HO} (h:H d=some (.dK kvs)):TSame H (upd H d o):=TSame.upd fun xs q=>by
 rw [h] at q
 cases q
theorem DI.there {H0 H:Hp} {d l:Addr} {D:Int->List Th} {i:Nat} {kvs:List (Key×V)} {xs:List V} {x:HTh} {u:V} (e:H d=some (.dK kvs)) (hl:kvs.length<=i)
  (hk:∀ k:Int,(valV kvs (Sum.inl k)=none/\D k=[])∨∃ l xs,valV kvs (Sum.inl k)=some (.ref l)/\H l=some (.lst xs)/\thsR H (D k).reverse xs/\H0 l=none)
  (hi:∀ k k' l,valV kvs (Sum.inl k)=some (.ref l)->valV kvs (Sum.inl k')=some (.ref l)->k=k') (hn:∀ k,(D k).length<=i)
  (hv:valV kvs (Sum.inl x.1)=some (.ref l)) (hx:H l=some (.lst xs)) (ht:thsR H (D x.1).reverse xs) (hu:thR H (full D x.2) u) (hl0:H0 l=none) :
  DI H0 (upd H l (.lst (xs++[u]))) d (stepM D x) (i+1):=by
 have g:TSame H (upd H l (.lst (xs++[u]))):=TSame.lst hx
 have ndl:d≠l:=iu e hx (fun z=>nomatch z)
 refine ⟨⟨kvs,by rw [aC ndl]; exact e,by omega,fun k=>?_,hi⟩,wj hn x⟩
 by_cases hkx:k=x.1
 ·subst hkx
  refine .inr ⟨l,_,hv,ak,?_,hl0⟩
  rw [vV]
  exact dO (thsR.mono ht g) (.cons (hu.mono g) .nil)
 ·have eD:stepM D x k=D k:=if_neg hkx
  rw [eD]
  rcases hk k with z | ⟨l',xs',z1,z2,z3,z4⟩
  ·exact .inl z
  ·have nll:l'≠l:=fun z=>hkx (hi k x.1 l (by rw [<- z]; exact z1) hv)
   exact .inr ⟨l',xs',z1,by rw [aC nll]; exact z2,thsR.mono z3 g,z4⟩
theorem DI.first {H0 H:Hp} {d l:Addr} {D:Int->List Th} {i:Nat} {kvs:List (Key×V)} {x:HTh} {u:V} (e:H d=some (.dK kvs)) (hl:kvs.length<=i)
  (hk:∀ k:Int,(valV kvs (Sum.inl k)=none/\D k=[])∨∃ l xs,valV kvs (Sum.inl k)=some (.ref l)/\H l=some (.lst xs)/\thsR H (D k).reverse xs/\H0 l=none)
  (hi:∀ k k' l,valV kvs (Sum.inl k)=some (.ref l)->valV kvs (Sum.inl k')=some (.ref l)->k=k') (hn:∀ k,(D k).length<=i)
  (hv:valV kvs (Sum.inl x.1)=none) (hnew:∀ k l',valV kvs (Sum.inl k)=some (.ref l')->l'≠l) (hll:H l=some (.lst [])) (hD:D x.1=[]) (hu:thR H (full D x.2) u) (hl0:H0 l=none) :
  DI H0 (upd (upd H d (.dK (putK kvs (Sum.inl x.1) (.ref l)))) l (.lst [u])) d (stepM D x) (i+1):=by
 have g1:TSame H (upd H d (.dK (putK kvs (Sum.inl x.1) (.ref l)))):=vX e
 have ndl:d≠l:=iu e hll (fun z=>nomatch z)
 have e1:upd H d (.dK (putK kvs (Sum.inl x.1) (.ref l))) l=some (.lst []):=by rw [aC ndl.symm]; exact hll
 have g2:TSame (upd H d (.dK (putK kvs (Sum.inl x.1) (.ref l)))) (upd (upd H d (.dK (putK kvs (Sum.inl x.1) (.ref l)))) l (.lst [u])):=TSame.lst e1
 have g:=g1.trans g2
 refine ⟨⟨putK kvs (Sum.inl x.1) (.ref l),by rw [aC ndl,ak],by have:=Ft (kvs:=kvs) (k:=Sum.inl x.1) (v:=.ref l); omega,fun k=>?_,fun k k' l'=>?_⟩,wj hn x⟩
 ·rw [dG]
  by_cases hkx:k=x.1
  ·subst hkx
   rw [if_pos rfl]
   refine .inr ⟨l,[u],rfl,ak,?_,hl0⟩
   rw [vV,hD]
   exact .cons (hu.mono g) .nil
  ·rw [if_neg (fun z=>hkx (Sum.inl.inj z))]
   have eD:stepM D x k=D k:=if_neg hkx
   rw [eD]
   rcases hk k with z | ⟨l',xs',z1,z2,z3,z4⟩
   ·exact .inl z
   ·have nll:=hnew k l' z1
    have nld:l'≠d:=iu z2 e (fun z=>nomatch z)
    exact .inr ⟨l',xs',z1,by rw [aC nll,aC nld]; exact z2,thsR.mono z3 g,z4⟩
 ·rw [dG,dG]
  intro a b
  by_cases h1:(Sum.inl k:Key)=Sum.inl x.1
  ·by_cases h2:(Sum.inl k':Key)=Sum.inl x.1
   ·exact Sum.inl.inj (h1.trans h2.symm)
   ·rw [if_pos h1] at a
    rw [if_neg h2] at b
    cases a
    exact absurd rfl (hnew k' _ b)
  ·by_cases h2:(Sum.inl k':Key)=Sum.inl x.1
   ·rw [if_neg h1] at a
    rw [if_pos h2] at b
    cases b
    exact absurd rfl (hnew k _ a)
   ·rw [if_neg h1] at a
    rw [if_neg h2] at b
    exact hi k k' l' a b
section
variable {P:Program} {w:World} {K:Nh} {mg:Str->Option Value} {base:Heap} {f:Addr} {fd:FuncData}
abbrev NM:List Str:=["_law_rows_here","_law_inner","_law_path","_law_thing"]
theorem rM:FnScope NM ["_law_rows_here"] (aA iy):=⟨rfl,rfl,rfl,by decide +kernel,rfl,by decide +kernel,by decide +kernel⟩
set_option maxHeartbeats 8000000 in
theorem Hr (F:Fun K "_law_made" "_law_made" iy f fd) (mt:mg "tuple"=none):FnOk P w K mg base CX0 1 f fd ["_law_rows_here"] yt:=by
 refine F.ok rM (fun vs H Q E h=>?_) (fun cdv A outer s H vs Q E hr h=>?_)
 ·obtain ⟨ra,xs,rows,rfl,_⟩:=h
  rfl
 obtain ⟨ra,xs,R0,rfl,hra,hrows0,hp0,hl0,hlen0,q0⟩:=h
 obtain ⟨rows,hrows,hlen,q⟩:∃ rows:List HTh,rLs H rows xs/\rows.length<=1000/\∀ u H',Same H H'->fP H' 0 (L2.F.of (sX rows 0)) u->Q u H' :=
  ⟨R0.map cvU,Gg hrows0 hp0 hl0,by rw [Ng]; exact hlen0,fun u H' g h=>q0 u H' g (by rw [<- Aj hl0 0]; exact h)⟩
 clear hrows0 hp0 hl0 hlen0 q0
 have hu:(A.deeper (PyProof.Rows.envOfC "_law_made" (aA iy) s.heap.objs.size f cdv)).units+1<cLine:=by
  have:=hr.units
  omega
 refine ⟨_,ao (aF (i:=1) rM.nd rfl (Or.inl rfl) iz)
  (ao (cj PassesOwn.never rfl (cu (uN (pv 0) (bY (jM gW au)))) (jW rfl (bM (aK (i:=2) rM.nd rfl (Or.inl rfl)) (bM (aK (i:=3) rM.nd rfl (Or.inl rfl)) iC)))
   (ao (bJ (aN eG (aJ bA (pv 3) au (fun _ _=>rfl)) cJ (bD _))
    (aD (aF (i:=3) rM.nd rfl (Or.inl rfl) (bh (aj cJ (aj (aJ bA (pv 3) au (fun _ _=>rfl)) (aj (eF gn rfl mt QF (aj (uN (vD hu (pv 1) (aJ bA (pv 3) au (fun _ _=>rfl)) (cD aq) ⟨rfl,rfl,rfl,rfl⟩) (bY (jM gW au))) aq)) aq)))))) aR)
   (aD (cC (dZ Ob Oh Oi bO (CN (pv 1) (aJ bA (pv 2) (jM gW au) (fun _ _=>rfl)) (cD aq) ⟨rfl,rfl,rfl,rfl⟩) (aj (pv 3) aq))))))
  (aD (aU (bh (aj cJ (aj au (aj (eF gn rfl mt QF (aj (uN (vD hu (pv 1) au (cD aq) ⟨rfl,rfl,rfl,rfl⟩) (bY (jM gW au))) aq)) aq))))))),?_⟩
 have hb:=big
 intro d hd
 have g1:=aB hd (.dK [])
 have e1:upd H d (.dK []) d=some (.dK []):=ak
 show (tSeq _ _:TS) _ _ (upd H d (.dK []))
 generalize upd H d (.dK [])=H1 at g1 e1 ⊢
 refine ⟨_,rfl,1,rfl,-1,rfl,rfl,ra,xs,rfl,SqL.of (g1 _ _ hra),fun r hr0=>?_⟩
 have g2:=aB hr0 (.lst xs.reverse)
 have e2:upd H1 r (.lst xs.reverse) r=some (.lst xs.reverse):=ak
 have d2:=(DI.new (H0:=upd H r (.lst xs.reverse)) e1).keep g2
 have rr2:rLs (upd H1 r (.lst xs.reverse)) rows.reverse xs.reverse:=jz (rLs.mono hrows (g1.trans g2).t)
 have fr:H r=none:=g1.free hr0
 have ndr:d≠r:=bZ e1 hr0
 generalize upd H1 r (.lst xs.reverse)=H2 at g2 e2 d2 rr2 ⊢
 refine ⟨r,rfl,⟨_,SqL.of e2⟩,?_⟩
 have bf:∀ l,upd H r (.lst xs.reverse) l=none->l≠r/\H l=none:=fun l hl=>by
  have h1:l≠r:=fun e=>by rw [e,ak] at hl; cases hl
  rw [aC h1] at hl
  exact ⟨h1,hl⟩
 have tell:∀ {H':Hp} {D:Int->List Th} {i:Nat} {k:Int},DI (upd H r (.lst xs.reverse)) H' d D i->∀ (z:Addr) (kvs:List (Key×V)),H' d=some (.dK kvs)->∀ Hz,Same H' Hz->Hz z=some (.lst [])->∃ (l:Addr) (ys:List V),(valV kvs (Sum.inl k)).getD (.ref z)=.ref l/\Hz l=some (.lst ys)/\thsR Hz (D k) ys.reverse/\ys.length<=i:=by
  intro H' D i k h z kvs hkv Hz gz hz
  obtain ⟨⟨kvs',e',hl,hk,hi⟩,hn⟩:=h
  rw [hkv] at e'
  cases e'
  rcases hk k with ⟨z1,z2⟩ | ⟨l,ys,z1,z2,z3,z4⟩
  ·exact ⟨z,[],by rw [z1] <;> rfl,hz,by rw [z2]; exact .nil,OD _⟩
  ·have z5:=jz z3
   rw [List.reverse_reverse] at z5
   refine ⟨l,ys,by rw [z1] <;> rfl,gz _ _ z2,thsR.mono z5 gz.t,?_⟩
   have:=dz z3
   rw [Qs] at this
   have:=hn k
   omega
 refine cN (K:=K) (a:=r) (xs:=xs.reverse) (fun i σ' H'=>∃ (u u':Option V),σ'=[some (.ref ra),some (.ref d),u,u']/\Same H H'/\H' r=some (.lst xs.reverse)/\rLs H' rows.reverse xs.reverse/\DI (upd H r (.lst xs.reverse)) H' d ((rows.reverse.take i).foldl stepM fun _=>[]) i) ?_ (fun i σ' H' _ h=>by obtain ⟨_,_,_,_,z,_⟩:=h; exact SqL.of z) ?_ ?_
 ·exact ⟨none,none,rfl,g1.trans g2,e2,rr2,d2⟩
 ·rintro i v σ' H' hi ⟨u0,u1,rfl,g,er,hrr,hdi⟩
  obtain ⟨x,hx,hv⟩:=aY hrr hi
  have hi1:i<1000:=by
   have h1:=(Nj.mp hx).1
   rw [Qs] at h1
   omega
  have eD:(rows.reverse.take (i+1)).foldl stepM (fun _=>[])=stepM ((rows.reverse.take i).foldl stepM fun _=>[]) x:=by
   rw [Oe,hx,Uj] <;> rfl
  rw [eD]
  generalize (rows.reverse.take i).foldl stepM (fun _=>[])=D at hdi ⊢
  obtain ⟨vq,va,vu,vp,rfl,k1,k2,k3⟩:=hv
  refine ⟨vq,_,rfl,SqT.of k1,rfl,_,_,rfl,_,_,rfl,rfl,?_⟩
  have put:∀ (u:V) (H3:Hp) (R:Ends),Same H' H3->thR H3 (full D x.2) u->(∀ H4,Same H H4->H4 r=some (.lst xs.reverse)->rLs H4 rows.reverse xs.reverse->DI (upd H r (.lst xs.reverse)) H4 d (stepM D x) (i+1)->R.nx [some (.ref ra),some (.ref d),some (.ref va),some u] H4) ->
    ∀ t0:TS,t0=JD (tBM K "list" zB (FP (tVar 1) (tOp (rIxT K) (tVar 2) (tUn (rU fun i=>.int (-i)) (tC (.int 1)))) (tLst tNil)) (cX (tVar 3) tNil))->t0 R [some (.ref ra),some (.ref d),some (.ref va),some u] H3:=by
   rintro u H3 R g3 hu3 hR t0 rfl
   have hdi3:=hdi.keep g3
   obtain ⟨⟨kvs,e3,hl3,hk3,hi3⟩,hn3⟩:=hdi3
   refine ⟨_,rfl,d,rfl,.inl ⟨kvs,.inl e3⟩,_,rfl,1,rfl,va,_,_,_,rfl,rfl,SqT.of (g3 _ _ k2),uw vp x.1,(by show 0<=sizeLine; decide),fun z hz=>?_⟩
   have gz:=aB hz (.lst [])
   have ez:upd H3 z (.lst []) z=some (.lst []):=ak
   have e4:=gz _ _ e3
   have hn4:∀ k l',valV kvs (Sum.inl k)=some (.ref l')->l'≠z:=fun k l' hq=>by
    rcases hk3 k with ⟨z1,_⟩ | ⟨l2,ys,z1,z2,_⟩
    ·rw [z1] at hq; cases hq
    ·rw [z1] at hq
     cases hq
     exact bZ z2 hz
   have hk4:∀ k:Int,(valV kvs (Sum.inl k)=none/\D k=[])∨∃ l ys,valV kvs (Sum.inl k)=some (.ref l)/\upd H3 z (.lst []) l=some (.lst ys)/\thsR (upd H3 z (.lst [])) (D k).reverse ys/\upd H r (.lst xs.reverse) l=none:=fun k=>by
    rcases hk3 k with z0 | ⟨l2,ys,z1,z2,z3,z4⟩
    ·exact .inl z0
    ·exact .inr ⟨l2,ys,z1,gz _ _ z2,thsR.mono z3 gz.t,z4⟩
   have hu4:=hu3.mono gz.t
   have er4:=(g3.trans gz) _ _ er
   have rr4:=rLs.mono hrr (g3.trans gz).t
   have gH4:=g.trans (g3.trans gz)
   have hz0:H z=none:=(g.trans g3).free hz
   generalize upd H3 z (.lst [])=H4 at gz ez e4 hk4 hu4 er4 rr4 gH4 ⊢
   refine ⟨kvs,Sum.inl x.1,e4,rfl,by omega,fun v hv=>?_,fun hv=>?_⟩
   ·rcases hk4 x.1 with ⟨z1,_⟩ | ⟨l,ys,z1,z2,z3,z4⟩
    ·rw [z1] at hv; cases hv
    ·rw [z1] at hv
     cases hv
     obtain ⟨lr,lH⟩:=bf l z4
     have yl:ys.length<=i:=by
      have:=dz z3
      rw [Qs] at this
      have:=hn3 x.1
      omega
     refine ⟨.inl ⟨rfl,_,SqL.of z2⟩,_,rfl,l,_,_,rfl,rfl,z2,by omega,?_⟩
     exact hR _ (aL lH gH4 _) (by rw [aC (Ne.symm lr)]; exact er4) (rLs.mono rr4 (TSame.lst z2)) (DI.there e4 hl3 hk4 hi3 hn3 z1 z2 z3 hu4 z4)
   ·have ndz:d≠z:=iu e4 ez (fun z=>nomatch z)
    have g5:TSame H4 (upd H4 d (.dK (putK kvs (Sum.inl x.1) (.ref z)))):=vX e4
    have ez5:upd H4 d (.dK (putK kvs (Sum.inl x.1) (.ref z))) z=some (.lst []):=by rw [aC ndz.symm]; exact ez
    have hD0:D x.1=[]:=by
     rcases hk4 x.1 with ⟨_,z2⟩ | ⟨l,ys,z1,_⟩
     ·exact z2
     ·rw [z1] at hv; cases hv
    have rz:r≠z:=fun e=>by
     rw [<- e] at hz
     rw [g3 _ _ er] at hz
     cases hz
    have drr:r≠d:=fun e=>ndr e.symm
    refine ⟨.inl ⟨rfl,_,SqL.of ez5⟩,_,rfl,z,_,_,rfl,rfl,ez5,by show 0<sizeLine; omega,?_⟩
    exact hR _ (aL hz0 (aL hd gH4 _) _) (by rw [aC rz,aC drr]; exact er4) (rLs.mono rr4 (g5.trans (TSame.lst ez5))) (DI.first e4 hl3 hk4 hi3 hn3 hv hn4 ez hD0 hu4 (by rw [aC (Ne.symm rz)]; exact hz0))
  obtain ⟨ta,tx,rfl,hta,hk0,hk1⟩:=Fq k3
  refine ⟨_,rfl,ta,_,_,_,rfl,rfl,SqT.of hta,hk0,rfl,_,rfl,?_⟩
  refine ite2 (fun c=>?_) (fun c=>?_)
  ·obtain ⟨pn,pi,ep⟩:=(mZ x.2).mp c
   rw [ep] at hk1
   obtain ⟨⟨kvs,e3,_⟩,_⟩:=id hdi
   refine ⟨_,rfl,ta,_,_,_,rfl,rfl,SqT.of hta,hk1,_,rfl,d,rfl,.inl ⟨kvs,.inl e3⟩,_,rfl,ta,_,_,_,rfl,rfl,SqT.of hta,hk1,(by show 0<=sizeLine; decide),fun z hz=>?_⟩
   have gz:=aB hz (.lst [])
   obtain ⟨l,ys,y1,y2,y3,y4⟩:=tell (k:=pn) hdi z kvs e3 _ gz ak
   refine ⟨_,DGet.k (k:=Sum.inl pn) (gz _ _ e3),1,rfl,-1,rfl,rfl,l,ys,y1,SqL.of y2,fun p1 hp1=>?_⟩
   have gp1:=aB hp1 (.lst ys.reverse)
   refine ⟨p1,ys.reverse,rfl,.inl ⟨SqL.of ak,fun p2 hp2=>⟨(by show 3<=sizeLine; decide),fun p3 hp3=>?_⟩⟩⟩
   have gp2:=aB hp2 (.tup ys.reverse)
   have gp3:=aB hp3 (.tup [.str "part",.int pn,.ref p2])
   have gg:=((gz.trans gp1).trans gp2).trans gp3
   refine put (.ref p3) _ _ gg ?_ ?_ _ rfl
   rotate_left
   ·intro H4 a1 a2 a3 a4
    exact ⟨_,_,rfl,a1,a2,a3,a4⟩
   rw [ep]
   exact ⟨p3,p2,ys.reverse,rfl,ak,gp3 _ _ ak,jm.mpr (by rw [jO]; exact thsR.mono y3 ((gp1.trans gp2).trans gp3).t)⟩
  ·have nl:¬ ∃ n i,x.2=.part n i:=fun z=>c ((mZ x.2).mpr z)
   unfold oh
   dsimp only
   refine put (.ref ta) H' _ (Same.refl H') ?_ ?_ _ rfl
   rotate_left
   ·intro H4 a1 a2 a3 a4
    exact ⟨_,_,rfl,a1,a2,a3,a4⟩
   cases hx2:x.2 with
   | say n ws=>rw [hx2] at k3; exact k3
   | tell n sc ph bs ms=>rw [hx2] at k3; exact k3
   | part n i=>exact absurd ⟨n,i,hx2⟩ nl
 ·rintro σ' H' ⟨u0,u1,rfl,g,er,hrr,hdi⟩
  have el:xs.reverse.length=rows.reverse.length:=by rw [Qs,Qs,dz hrows]
  rw [el,Oa,List.foldl_reverse] at hdi
  obtain ⟨⟨kvs,e3,_⟩,_⟩:=id hdi
  refine ⟨_,rfl,d,rfl,.inl ⟨kvs,.inl e3⟩,(by show 0<=sizeLine; decide),fun z hz=>?_⟩
  have gz:=aB hz (.lst [])
  obtain ⟨l,ys,y1,y2,y3,y4⟩:=tell (k:=0) hdi z kvs e3 _ gz ak
  refine ⟨_,DGet.k (k:=Sum.inl 0) (gz _ _ e3),1,rfl,-1,rfl,rfl,l,ys,y1,SqL.of y2,fun p1 hp1=>?_⟩
  have gp1:=aB hp1 (.lst ys.reverse)
  refine ⟨p1,ys.reverse,rfl,.inl ⟨SqL.of ak,fun p2 hp2=>⟨(by show 3<=sizeLine; decide),fun p3 hp3=>?_⟩⟩⟩
  have gp2:=aB hp2 (.tup ys.reverse)
  have gp3:=aB hp3 (.tup [.str "part",.int 0,.ref p2])
  have gg:=((gz.trans gp1).trans gp2).trans gp3
  exact q _ _ (g.trans gg) ⟨p3,p2,ys.reverse,rfl,ak,gp3 _ _ ak,jm.mpr (by rw [jO]; exact thsR.mono y3 ((gp1.trans gp2).trans gp3).t)⟩
end
def mapT {α β:Type} (g:α->β) (T:Tab α):Tab β:=T.map fun t=>(t.1,g t.2)
theorem kj {α β:Type} (g:α->β) (T:Tab α):aW (mapT g T)=aW T:=by unfold aW mapT; rw [Pq]; rfl
theorem gJ {α β:Type} (g:α->β) (k:List Str):∀ T:Tab α,aQ (mapT g T) k=(aQ T k).map g
 | []=>rfl
 | t::T=>by
  show aQ ((t.1,g t.2)::mapT g T) k=_
  rw [cB,cB,gJ g k T]
  by_cases h:t.1=k
  ·rw [if_pos h,if_pos h] <;> rfl
  ·rw [if_neg h,if_neg h]
theorem lQ {α β:Type} (g:α->β) (T:Tab α) (k:List Str) (v:α):mapT g (putA T k v)=putA (mapT g T) k (g v):=by
 unfold putA
 rw [iM,iM,gJ,Sv]
 split
 ·unfold mapT
  rw [Pq,Pq]
  refine Qq fun t _=>?_
  show ((if t.1=k then (t.1,v) else t).1,g (if t.1=k then (t.1,v) else t).2)=if t.1=k then (t.1,g v) else (t.1,g t.2)
  by_cases h:t.1=k
  ·rw [if_pos h,if_pos h]
  ·rw [if_neg h,if_neg h]
 ·unfold mapT
  rw [NK] <;> rfl
theorem FQ {α:Type} {T:Tab α} {k:List Str} {v:α} (hn:(aW T).Nodup) (h:aQ T k=some v):putA T k v=T:=by
 unfold putA
 rw [iM,h,if_pos (show (some v).isSome=true from rfl)]
 have:∀ t∈T,(if t.1=k then (t.1,v) else t)=t:=fun t ht=>by
  by_cases e:t.1=k
  ·rw [if_pos e]
   have:=Du hn ht
   rw [e,h] at this
   cases this
   rfl
  ·rw [if_neg e]
 rw [Qq this,List.map_id']
def step1 (fo n:Int) (o:Option (Int×List Int)):Option (Int×List Int):=if 0<=fo/\(o.getD (0,[])).1<=fo then some (fo,(if (o.getD (0,[])).1<fo then [] else (o.getD (0,[])).2)++[n]) else o
theorem Bs (fo n:Int) (B:Best) (k j:List Str):aQ (cV fo n B k) j=if j=k then step1 fo n (aQ B j) else aQ B j:=by
 unfold cV step1 getB
 by_cases e:j=k
 ·subst e
  rw [if_pos rfl]
  split
  ·rw [rC,if_pos rfl]
  ·rfl
 ·rw [if_neg e]
  split
  ·rw [rC,if_neg e]
  ·rfl
theorem qJ (fo n:Int) (j:List Str):∀ (fs:List (List Str)) (B:Best),fs.Nodup->aQ (fs.foldl (cV fo n) B) j=if j∈fs then step1 fo n (aQ B j) else aQ B j
 | [],B,_=>by rw [if_neg (fun h=>nomatch h)] <;> rfl
 | k::fs,B,nd=>by
  rw [QJ,qJ fo n j fs _ (Od.mp nd).2,Bs]
  by_cases e:j=k
  ·subst e
   rw [if_neg (Od.mp nd).1,if_pos rfl,if_pos Ny]
  ·rw [if_neg e]
   have:j∈k::fs↔j∈fs:=by simp [e]
   simp only [this]
def Ch (pl:List Int) (j:List Str) (ts:List Tl):Option (Int×List Int)->Prop
 | none=>∀ t∈ts,j∈t.2.2.2->bF t.2.1 t.2.2.1 pl<0
 | some (M,l)=>0<=M/\(∀ t∈ts,j∈t.2.2.2->bF t.2.1 t.2.2.1 pl<=M)/\(∃ t∈ts,j∈t.2.2.2/\bF t.2.1 t.2.2.1 pl=M)/\l=(ts.filter fun t=>decide (j∈t.2.2.2) && decide (bF t.2.1 t.2.2.1 pl=M)).map (·.1)
theorem rW {M:Int} {pl:List Int} {j:List Str} {ts:List Tl} (h:∀ t∈ts,j∈t.2.2.2->bF t.2.1 t.2.2.1 pl<M):(ts.filter fun t=>decide (j∈t.2.2.2) && decide (bF t.2.1 t.2.2.1 pl=M))=[]:=by
 rw [Rk]
 intro t ht z
 obtain ⟨a,b⟩:=Ph.mp z
 have:=h t ht (of_decide_eq_true a)
 have:=of_decide_eq_true b
 omega
theorem HY {pl:List Int} {j:List Str} {ts:List Tl} {t:Tl} {o:Option (Int×List Int)} (h:Ch pl j ts o):Ch pl j (ts++[t]) (if j∈t.2.2.2 then step1 (bF t.2.1 t.2.2.1 pl) t.1 o else o):=by
 by_cases hj:j∈t.2.2.2
 ·rw [if_pos hj]
  unfold step1
  generalize hfo:bF t.2.1 t.2.2.1 pl=fo
  cases o with
  | none =>
   have h:∀ t∈ts,j∈t.2.2.2->bF t.2.1 t.2.2.1 pl<0:=h
   by_cases z:0<=fo
   ·rw [if_pos ⟨z,z⟩]
    refine ⟨z,fun u hu hju=>?_,⟨t,by simp,hj,hfo⟩,?_⟩
    ·rcases Nz.mp hu with m | m
     ·have:=h u m hju; omega
     ·rw [Nq.mp m,hfo]; exact Sx _
    ·rw [Qy,rW (fun u hu hju=>by have:=h u hu hju; omega)]
     rw [R6 (by rw [decide_eq_true hj,decide_eq_true hfo] <;> rfl)]
     show (if (0:Int)<fo then [] else [])++[t.1]=[t.1]
     split <;> rfl
   ·rw [if_neg (fun y=>z y.1)]
    intro u hu hju
    rcases Nz.mp hu with m | m
    ·exact h u m hju
    ·rw [Nq.mp m,hfo]; omega
  | some b =>
   obtain ⟨M,l⟩:=b
   obtain ⟨h0,h1,⟨u0,hu0,hj0,e0⟩,rfl⟩:0<=M/\(∀ t∈ts,j∈t.2.2.2->bF t.2.1 t.2.2.1 pl<=M)/\(∃ t∈ts,j∈t.2.2.2/\bF t.2.1 t.2.2.1 pl=M)/\l=(ts.filter fun t=>decide (j∈t.2.2.2) && decide (bF t.2.1 t.2.2.1 pl=M)).map (·.1):=h
   by_cases z:0<=fo/\M<=fo
   ·have z':0<=fo/\((some (M,(ts.filter fun t=>decide (j∈t.2.2.2) && decide (bF t.2.1 t.2.2.1 pl=M)).map (·.1)):Option (Int×List Int)).getD (0,[])).1<=fo:=z
    rw [if_pos z']
    refine ⟨z.1,fun u hu hju=>?_,⟨t,by simp,hj,hfo⟩,?_⟩
    ·rcases Nz.mp hu with m | m
     ·have:=h1 u m hju; omega
     ·rw [Nq.mp m,hfo]; exact Sx _
    ·rw [Qy,NK,R6 (by rw [decide_eq_true hj,decide_eq_true hfo] <;> rfl)]
     show (if M<fo then [] else _)++[t.1]=_++[t.1]
     congr 1
     by_cases y:M<fo
     ·rw [if_pos y,rW (fun u hu hju=>by have:=h1 u hu hju; omega)] <;> rfl
     ·rw [if_neg y]
      have:M=fo:=by omega
      subst this
      rfl
   ·have z':¬ (0<=fo/\((some (M,(ts.filter fun t=>decide (j∈t.2.2.2) && decide (bF t.2.1 t.2.2.1 pl=M)).map (·.1)):Option (Int×List Int)).getD (0,[])).1<=fo):=z
    rw [if_neg z']
    have lt:fo<M:=by
     by_cases y:0<=fo
     ·have:¬ M<=fo:=fun q=>z ⟨y,q⟩
      omega
     ·omega
    refine ⟨h0,fun u hu hju=>?_,⟨u0,Nz.mpr (.inl hu0),hj0,e0⟩,?_⟩
    ·rcases Nz.mp hu with m | m
     ·exact h1 u m hju
     ·rw [Nq.mp m,hfo]; omega
    ·rw [Qy,Ut (fun q=>by
      have:=of_decide_eq_true (Ph.mp q).2
      omega),List.filter_nil,N6]
 ·rw [if_neg hj]
  cases o with
  | none =>
   intro u hu hju
   rcases Nz.mp hu with m | m
   ·exact (show ∀ t∈ts,j∈t.2.2.2->bF t.2.1 t.2.2.1 pl<0 from h) u m hju
   ·rw [Nq.mp m] at hju; exact absurd hju hj
  | some b =>
   obtain ⟨M,l⟩:=b
   obtain ⟨h0,h1,⟨u0,hu0,hj0,e0⟩,rfl⟩:0<=M/\(∀ t∈ts,j∈t.2.2.2->bF t.2.1 t.2.2.1 pl<=M)/\(∃ t∈ts,j∈t.2.2.2/\bF t.2.1 t.2.2.1 pl=M)/\l=(ts.filter fun t=>decide (j∈t.2.2.2) && decide (bF t.2.1 t.2.2.1 pl=M)).map (·.1):=h
   refine ⟨h0,fun u hu hju=>?_,⟨u0,Nz.mpr (.inl hu0),hj0,e0⟩,?_⟩
   ·rcases Nz.mp hu with m | m
    ·exact h1 u m hju
    ·rw [Nq.mp m] at hju; exact absurd hju hj
   ·have e1:([t].filter fun t=>decide (j∈t.2.2.2) && decide (bF t.2.1 t.2.2.1 pl=M))=[]:=by simp [hj]
    rw [Qy,e1,N6]
theorem zE (pl:List Int) (j:List Str):∀ (ts pre:List Tl) (B:Best),(∀ t∈ts,t.2.2.2.Nodup)->Ch pl j pre (aQ B j)->Ch pl j (pre++ts) (aQ (ts.foldl (jG pl) B) j)
 | [],pre,B,_,h=>by rw [N6]; exact h
 | t::ts,pre,B,nd,h=>by
  rw [QJ,show pre++t::ts=pre++[t]++ts by simp]
  refine zE pl j ts (pre++[t]) _ (fun u hu=>nd u (Nt _ hu)) ?_
  show Ch pl j (pre++[t]) (aQ (t.2.2.2.foldl (cV (bF t.2.1 t.2.2.1 pl) t.1) B) j)
  rw [qJ _ _ _ _ _ (nd t Ny)]
  exact HY h
theorem rJ {pl:List Int} {j:List Str} {ts:List Tl} (nd:∀ t∈ts,t.2.2.2.Nodup):Ch pl j ts (aQ (fu pl ts) j):=by
 have:=zE pl j ts [] [] nd (show Ch pl j [] none from fun _ h=>nomatch h)
 rwa [Tj] at this
theorem Ci {pl:List Int} {ts ts':List Tl} (nd:∀ t∈ts,t.2.2.2.Nodup) (p:ts'.Perm ts) (srt:(ts'.map (·.1)).Pairwise (·<=·)) (j:List Str):(aQ (fu pl ts') j).map (·.2)=(aQ (fu pl ts) j).map fun b=>sortI b.2:=by
 have c':Ch pl j ts' (aQ (fu pl ts') j):=rJ fun t ht=>nd t (p.mem_iff.mp ht)
 have c:Ch pl j ts (aQ (fu pl ts) j):=rJ nd
 generalize aQ (fu pl ts') j=o' at c'
 generalize aQ (fu pl ts) j=o at c
 cases o' with
 | none =>
  cases o with
  | none=>rfl
  | some b =>
   obtain ⟨M,l⟩:=b
   obtain ⟨h0,_,⟨t,ht,hj,e⟩,_⟩:=c
   have:=(show ∀ t∈ts',j∈t.2.2.2->bF t.2.1 t.2.2.1 pl<0 from c') t (p.mem_iff.mpr ht) hj
   omega
 | some b' =>
  obtain ⟨M',l'⟩:=b'
  obtain ⟨h0',h1',⟨t',ht',hj',e'⟩,el'⟩:=c'
  cases o with
  | none =>
   have:=(show ∀ t∈ts,j∈t.2.2.2->bF t.2.1 t.2.2.1 pl<0 from c) t' (p.mem_iff.mp ht') hj'
   omega
  | some b =>
   obtain ⟨M,l⟩:=b
   obtain ⟨h0,h1,⟨t,ht,hj,e⟩,el⟩:=c
   have a1:=h1' t (p.mem_iff.mpr ht) hj
   have a2:=h1 t' (p.mem_iff.mp ht') hj'
   have eM:M'=M:=by omega
   subst eM
   show some l'=some (sortI l)
   rw [Gp (ns:=l) (ns':=l')]
   ·rw [el',el]
    exact (p.filter _).map _
   ·rw [el']
    exact srt.sublist (Tn.map _)
theorem Cd {sc:Str} {p pl:List Int} (h:bF sc p pl≠-1):0<=bF sc p pl:=by
 unfold bF at h ⊢
 split
 ·omega
 ·split
  ·decide
  ·split
   ·decide
   ·split
    ·decide
    ·rename_i h1 h2 h3 h4
     rw [if_neg h1,if_neg h2,if_neg h3,if_neg h4] at h
     exact absurd rfl h
def tpR (H:Hp) (t:Tl) (v:V):Prop:=∃ a pp ft xs,v=.ref a/\H a=some (.tup [.int t.1,.str t.2.1,.ref pp,.ref ft])/\iT H pp t.2.2.1/\H ft=some (.tup xs)/\phsR H t.2.2.2 xs
theorem tpR.mono {H H':Hp} {t:Tl} {v:V} (h:tpR H t v) (g:TSame H H'):tpR H' t v:=let ⟨a,pp,ft,xs,e,h1,h2,h3,h4⟩:=h; ⟨a,pp,ft,xs,e,g _ _ h1,g _ _ h2,g _ _ h3,h4.mono g⟩
def isI (_:Hp) (i:Int) (v:V):Prop:=v=.int i
def Jw:Sp:=fun vs H Q _=>∃ (ta pb:Addr) (ts:List Tl) (xs:List V) (pl:List Int),vs=[.ref ta,.ref pb]/\H ta=some (.lst xs)/\Paired (tpR H) ts xs/\iT H pb pl/\pl.length<=1000/\TlsOk ts/\(∀ t∈ts,t.2.1∈jo) /\
 ∀ r kvs H',Same H H'->H r=none->H' r=some (.dT kvs)->tabR wnR H' (mapT (·.2) (fu pl ts)) kvs->(aW (fu pl ts)).Nodup->Q (.ref r) H'
structure TwoD (H:Hp) (ds dt:Addr) (B:Best) (ks kt:List (List Key×V)):Prop where
 s:H ds=some (.dT ks)
 t:H dt=some (.dT kt)
 rs:tabR isI H (mapT (·.1) B) ks
 rt:tabR wnR H (mapT (·.2) B) kt
 ne:ds≠dt
theorem TwoD.mono {H H':Hp} {ds dt:Addr} {B:Best} {ks kt:List (List Key×V)} (h:TwoD H ds dt B ks kt) (g:Same H H'):TwoD H' ds dt B ks kt:=⟨g _ _ h.s,g _ _ h.t,eV h.rs fun _ _ z=>z,eV h.rt fun _ _ z=>z.mono g.t,h.ne⟩
section
variable {P:Program} {w:World} {K:Nh} {mg:Str->Option Value} {base:Heap} {f:Addr} {fd:FuncData}
theorem mj:FnScope ["tellings","place","strengths","told","number","scope","path","phrases","power","phrase"] ["tellings","place"] (aA gj):=⟨rfl,rfl,rfl,by decide +kernel,rfl,by decide +kernel,by decide +kernel⟩
set_option maxHeartbeats 16000000 in
theorem K5 (F:Fun K "told_at" "told_at" gj f fd) (T:NmS mg) (GF:Def P w K mg base CX0 1 "strength" ["scope","told","place"] Gm):FnOk P w K mg base CX0 2 f fd ["tellings","place"] Jw:=by
 obtain ⟨tn,hn⟩:=T.n
 refine F.ok mj (fun vs H Q E h=>?_) (fun cdv A outer s H vs Q E hr h=>?_)
 ·obtain ⟨ta,pb,ts,xs,pl,rfl,_⟩:=h
  rfl
 obtain ⟨ta,pb,ts,xs,pl,rfl,hta,hts,hpb,hpl,hok,hsc,q⟩:=h
 have hu1:(A.deeper (PyProof.Rows.envOfC "told_at" (aA gj) s.heap.objs.size f cdv)).units+1<cLine:=by have:=hr.un; omega
 refine ⟨_,ao (aF (i:=2) mj.nd rfl (Or.inl rfl) lV)
  (ao (aF (i:=3) mj.nd rfl (Or.inl rfl) lV)
  (ao (cj PassesOwn.never rfl (cu (pv 0)) (jW rfl (bM (aK (i:=4) mj.nd rfl (Or.inl rfl)) (bM (aK (i:=5) mj.nd rfl (Or.inl rfl)) (bM (aK (i:=6) mj.nd rfl (Or.inl rfl)) (bM (aK (i:=7) mj.nd rfl (Or.inl rfl)) iC)))))
   (ao (aF (i:=8) mj.nd rfl (Or.inl rfl) (aX GF hr (aj (pv 5) (aj (pv 6) (aj (pv 1) aq)))))
   (ao (bJ (aN eG (pv 8) (fG (v:=.int (-1)) rfl hn ⟨_,rfl⟩) (bD _)) (aD vI) aR)
   (aD (cj PassesOwn.never rfl (uT (pv 7)) (aK (i:=9) mj.nd rfl (Or.inl rfl))
    (aD (bJ (PW.pt (lO (gG (d8 hu1 (pv 9) (pv 3))) (lC (aN uh (pv 8) (cH hu1 (pv 2) (pv 9) (fun _ _=>rfl)) (bD _)))))
     (ao (fJ hu1 (pv 2) (pv 9) (pv 8) rfl)
     (aD (fJ hu1 (pv 3) (pv 9) (bh (aj (pv 4) aq)) rfl)))
     (aD (bJ (aN eG (pv 8) (cH hu1 (pv 2) (pv 9) (fun _ _=>rfl)) (bD _))
      (aD (fJ hu1 (pv 3) (pv 9) (aG jj (cH hu1 (pv 3) (pv 9) (fun _ _=>rfl)) (bh (aj (pv 4) aq))) rfl)) aR)))))))))
  (aD (aU (pv 3))))),?_⟩
 have hb:=big
 refine fun ds hds=>fun dt hdt=>?_
 have g0:=aB hds (.dT [])
 have nsd:ds≠dt:=fun e=>by rw [<- e,ak] at hdt; cases hdt
 have ndt:H dt=none:=g0.free hdt
 have g1:=g0.trans (aB hdt (.dT []))
 have d0:TwoD (upd (upd H ds (.dT [])) dt (.dT [])) ds dt [] [] []:=⟨by rw [aC nsd,ak],ak,.nil,.nil,nsd⟩
 generalize upd (upd H ds (.dT [])) dt (.dT [])=H0 at g1 d0 ⊢
 refine ⟨_,rfl,ta,rfl,⟨_,SqL.of (g1 _ _ hta)⟩,?_⟩
 refine cN (K:=K) (a:=ta) (xs:=xs) (fun i σ' H'=>Same H H'/\∃ (ks kt:List (List Key×V)) (u4 u5 u6 u7 u8 u9:Option V),σ'=[some (.ref ta),some (.ref pb),some (.ref ds),some (.ref dt),u4,u5,u6,u7,u8,u9]/\TwoD H' ds dt ((ts.take i).foldl (jG pl) []) ks kt/\BOk ((ts.take i).foldl (jG pl) []) (6*i) (fun _=>i)) ?_ (fun i σ' H' _ h=>SqL.of (h.1 _ _ hta)) ?_ ?_
 ·exact ⟨g1,[],[],_,_,_,_,_,_,rfl,d0,⟨Qu,Nu _,fun k b hb=>nomatch hb⟩⟩
 ·rintro i v σ' H1 hi ⟨g,ks,kt,u4,u5,u6,u7,u8,u9,rfl,hD,hBo⟩
  obtain ⟨t,et,htv⟩:=aY hts hi
  have hscp:=hsc _ (Nv et)
  obtain ⟨n,sc,p,shs⟩:=t
  obtain ⟨o1,o2,o3⟩:=hok.ok _ (Nv et)
  have o1:shs.Nodup:=o1
  have o2:shs.length<=6:=o2
  have o3:p.length<=1000:=o3
  obtain ⟨va,pp,sl,ys,rfl,k1,k2,k3,k4⟩:=htv.mono g.t
  have hi12:i<45:=by
   have:=(Nj.mp et).1
   have:=hok.few
   omega
  have eB:(ts.take (i+1)).foldl (jG pl) []=shs.foldl (cV (bF sc p pl) n) ((ts.take i).foldl (jG pl) []):=by
   rw [Oe,et,Uj] <;> rfl
  rw [eB]
  generalize (ts.take i).foldl (jG pl) []=B at hD hBo
  refine ⟨va,_,rfl,SqT.of k1,rfl,_,_,rfl,_,_,rfl,_,_,rfl,_,_,rfl,rfl,?_⟩
  refine ⟨_,rfl,_,rfl,_,rfl,sc,pp,pb,p,pl,rfl,hscp,k2,g _ _ hpb,o3,hpl,fun H2 g2=>?_⟩
  have fpos:=@Cd sc p pl
  generalize bF sc p pl=fo at fpos
  refine ⟨_,rfl,rfl,_,rfl,?_⟩
  refine ite2 (fun z=>?_) (fun z=>?_)
  ·have z':fo=-1:=V.int.inj (of_decide_eq_true z)
   have eS:∀ (l:List (List Str)) (B:Best),l.foldl (cV fo n) B=B:=fun l=>by
    induction l with
    | nil=>intro B; rfl
    | cons x r ih =>
     intro B
     rw [QJ,show cV fo n B x=B from if_neg (fun y=>by omega)]
     exact ih B
   refine ⟨g.trans g2,ks,kt,_,_,_,_,_,_,rfl,?_,?_⟩
   ·rw [eS]; exact hD.mono g2
   ·rw [eS]; exact hBo.mono (by omega) fun k=>Q5 _
  have f0:0<=fo:=fpos fun y=>z (decide_eq_true (congrArg V.int y))
  refine ⟨_,rfl,sl,rfl,⟨_,SqT.of (g2 _ _ k3)⟩,?_⟩
  have yl:=Paired.length k4
  refine pB (K:=K) (a:=sl) (xs:=ys) (fun j σ' H'=>Same H H'/\H' sl=some (.tup ys)/\phsR H' shs ys/\∃ (ks kt:List (List Key×V)) (u9:Option V),σ'=[some (.ref ta),some (.ref pb),some (.ref ds),some (.ref dt),some (.int n),some (.str sc),some (.ref pp),some (.ref sl),some (.int fo),u9]/\TwoD H' ds dt ((shs.take j).foldl (cV fo n) B) ks kt/\BOk ((shs.take j).foldl (cV fo n) B) (6*i+j) (fun k=>i+(shs.take j).count k)) ?_ (fun j σ' H' _ h=>SqT.of h.2.1) ?_ ?_
  ·exact ⟨g.trans g2,g2 _ _ k3,k4.mono g2.t,ks,kt,_,rfl,hD.mono g2,hBo.mono (Nu _) fun k=>Nu _⟩
  ·rintro j y σ' H3 hj ⟨g3,hsl,hph,ks,kt,u9,rfl,hD3,hBo3⟩
   obtain ⟨k,ek,pk,rfl,hpk⟩:=aY hph hj
   have hj6:j<6:=by
    have:=(Nj.mp ek).1
    omega
   have eS:(shs.take (j+1)).foldl (cV fo n) B=cV fo n ((shs.take j).foldl (cV fo n) B) k:=by
    rw [Oe,ek,Uj] <;> rfl
   have hBo4:=hBo3.step fo n k
   rw [eS]
   have hBo5:BOk (cV fo n ((shs.take j).foldl (cV fo n) B) k) (6*i+(j+1)) (fun x=>i+(shs.take (j+1)).count x):=hBo4.mono (by omega) fun x=>by
    rw [Oe,ek,List.count_append]
    show i+(shs.take j).count x+(if x=k then 1 else 0)<=i+((shs.take j).count x + [k].count x)
    rw [List.count_singleton]
    by_cases z:x=k
    ·rw [if_pos z,if_pos (by rw [z]; exact beq_self_eq_true _)]; omega
    ·rw [if_neg z]; omega
   clear eS hBo4
   generalize (shs.take j).foldl (cV fo n) B=C at hD3 hBo3 hBo5
   have lenS:ks.length<=6*i+j:=by
    have e:=Paired.length hD3.rs
    unfold mapT at e
    rw [Ng] at e
    have:=hBo3.len
    omega
   have lenT:kt.length<=6*i+j:=by
    have e:=Paired.length hD3.rt
    unfold mapT at e
    rw [Ng] at e
    have:=hBo3.len
    omega
   have lk:=gJ (fun b:Int×List Int=>b.1) k C
   have lw:=gJ (fun b:Int×List Int=>b.2) k C
   have hpk':H3 pk=some (.tup ((inr k).map kV)):=by rw [yj]; exact hpk
   have put2:∀ (D:Ends) (Cn:Best),Cn=putA C k (fo,[n])->BOk Cn (6*i+(j+1)) (fun x=>i+(shs.take (j+1)).count x)->D.nx=(fun σ' H'=>Same H H'/\H' sl=some (.tup ys)/\phsR H' shs ys/\∃ (ks kt:List (List Key×V)) (u9:Option V),σ'=[some (.ref ta),some (.ref pb),some (.ref ds),some (.ref dt),some (.int n),some (.str sc),some (.ref pp),some (.ref sl),some (.int fo),u9]/\TwoD H' ds dt Cn ks kt/\BOk Cn (6*i+(j+1)) (fun x=>i+(shs.take (j+1)).count x)) ->
     tSeq (Eu (tVar 2) (tVar 9) (tVar 8)) (Eu (tVar 3) (tVar 9) (tTup (cX (tVar 4) tNil))) D [some (.ref ta),some (.ref pb),some (.ref ds),some (.ref dt),some (.int n),some (.str sc),some (.ref pp),some (.ref sl),some (.int fo),some (.ref pk)] H3:=by
    intro D Cn eC bC hD
    refine ⟨_,rfl,_,rfl,_,rfl,ds,_,rfl,DPut.t (k:=inr k) hD3.s hpk' (by omega),?_⟩
    have t4:TSame H3 (upd H3 ds (.dT (putK ks (inr k) (.int fo)))):=TSame.upd fun xs z=>by rw [hD3.s] at z; cases z
    refine ⟨_,rfl,(by show 1<=sizeLine; decide),fun t1 ht1=>?_⟩
    have g5:=aB ht1 (.tup [.int n])
    have e5:upd (upd H3 ds (.dT (putK ks (inr k) (.int fo)))) t1 (.tup [.int n]) t1=some (.tup [.int n]):=ak
    have h5t:=g5 _ _ (show upd H3 ds (.dT (putK ks (inr k) (.int fo))) dt=some (.dT kt) by rw [aC hD3.ne.symm]; exact hD3.t)
    have h5s:=g5 _ _ (show upd H3 ds (.dT (putK ks (inr k) (.int fo))) ds=some (.dT (putK ks (inr k) (.int fo))) from ak)
    have h5l:=g5 _ _ (show upd H3 ds (.dT (putK ks (inr k) (.int fo))) sl=some (.tup ys) from t4 _ _ hsl)
    have h5k:=g5 _ _ (t4 _ _ hpk')
    have t5:=t4.trans g5.t
    have s5:Same H (upd (upd H3 ds (.dT (putK ks (inr k) (.int fo)))) t1 (.tup [.int n])):=(aL hds g3 _).trans g5
    generalize upd (upd H3 ds (.dT (putK ks (inr k) (.int fo)))) t1 (.tup [.int n])=H5 at g5 e5 h5t h5s h5l h5k t5 s5
    refine ⟨_,rfl,_,rfl,dt,_,rfl,DPut.t (k:=inr k) h5t h5k (by omega),?_⟩
    have t6:TSame H5 (upd H5 dt (.dT (putK kt (inr k) (.ref t1)))):=TSame.upd fun xs z=>by rw [h5t] at z; cases z
    rw [hD]
    refine ⟨aL ndt s5 _,t6 _ _ h5l,hph.mono (t5.trans t6),_,_,_,rfl,⟨by rw [aC hD3.ne]; exact h5s,ak,?_,?_,hD3.ne⟩,bC⟩
    ·rw [eC,lQ]
     exact eV (uM (R:=isI) (H:=H3) hD3.rs rfl) fun _ _ z=>z
    ·rw [eC,lQ]
     exact uM (eV hD3.rt fun _ _ z=>z.mono (t5.trans t6)) ⟨t1,rfl,t6 _ _ e5⟩
   refine ⟨_,rfl,_,rfl,dt,_,rfl,DGet.t (k:=inr k) hD3.t hpk',_,rfl,?_⟩
   rcases m5 (k:=k) hD3.rt with ⟨e1,e2⟩ | ⟨wl,wv,e1,e2,rw1⟩
   ·rw [e2]
    have eC:aQ C k=none:=by
     rw [lw] at e1
     cases e:aQ C k with
     | none=>rfl
     | some b=>rw [e] at e1; cases e1
    have gB:getB C k=(0,[]):=by unfold getB; rw [eC] <;> rfl
    have eS:cV fo n C k=putA C k (fo,[n]):=by
     unfold cV
     rw [gB,if_pos ⟨f0,f0⟩]
     congr 2
     split <;> rfl
    exact iteT (iteT (put2 _ _ eS hBo5 rfl))
   ·rw [e2]
    obtain ⟨b,eC,rfl⟩:∃ b,aQ C k=some b/\wl=b.2:=by
     rw [lw] at e1
     cases e:aQ C k with
     | none=>rw [e] at e1; cases e1
     | some b=>rw [e] at e1; cases e1; exact ⟨b,rfl,rfl⟩
    have gB:getB C k=b:=by unfold getB; rw [eC] <;> rfl
    obtain ⟨sv,es1,es2⟩:∃ sv,valV ks (inr k)=some sv/\sv=.int b.1:=by
     rcases m5 (k:=k) hD3.rs with ⟨e1,e2⟩ | ⟨x,xv,e1,e2,r⟩
     ·rw [lk,eC] at e1; cases e1
     ·rw [lk,eC] at e1
      cases e1
      exact ⟨xv,e2,r⟩
    subst es2
    have dgs:=DGet.t (k:=inr k) hD3.s hpk'
    rw [es1] at dgs
    refine iteF ⟨_,rfl,_,rfl,_,rfl,ds,_,rfl,dgs,_,_,rfl,rfl,_,rfl,?_⟩
    refine ite2 (fun z=>?_) (fun z=>?_)
    ·have z':fo>b.1:=of_decide_eq_true z
     have eS:cV fo n C k=putA C k (fo,[n]):=by
      unfold cV
      rw [gB,if_pos ⟨f0,Ww z'⟩,if_pos z'] <;> rfl
     exact put2 _ _ eS hBo5 rfl
    ·have z':¬ fo>b.1:=fun y=>z (decide_eq_true y)
     refine ⟨_,rfl,_,rfl,_,rfl,ds,_,rfl,dgs,rfl,_,rfl,?_⟩
     refine ite2 (fun y=>?_) (fun y=>?_)
     ·have y':fo=b.1:=V.int.inj (of_decide_eq_true y)
      have eS:cV fo n C k=putA C k (fo,b.2++[n]):=by
       unfold cV
       rw [gB,if_pos ⟨f0,by omega⟩,if_neg (by omega)]
      obtain ⟨wp,rfl,hwp⟩:=rw1
      have dgt:=DGet.t (k:=inr k) hD3.t hpk'
      rw [e2] at dgt
      have bl:b.2.length<=46:=by
       have h1:=hBo3.few k b eC
       have h2:=pN (o1.sublist (Ss j shs)) k
       omega
      refine ⟨_,rfl,_,rfl,dt,_,rfl,dgt,_,rfl,(by show 1<=sizeLine; decide),fun t1 ht1=>?_⟩
      have g5:=aB ht1 (.tup [.int n])
      refine ⟨wp,t1,_,_,rfl,rfl,g5 _ _ hwp,ak,(by rw [Ng]; show b.2.length+1<=sizeLine; omega),fun t2 H6 g6 h6=>?_⟩
      have g36:=g5.trans g6
      have hD6:=hD3.mono g36
      refine ⟨_,rfl,_,rfl,dt,_,rfl,DPut.t (k:=inr k) hD6.t (g36 _ _ hpk') (by omega),?_⟩
      have t7:TSame H6 (upd H6 dt (.dT (putK kt (inr k) (.ref t2)))):=TSame.upd fun xs z=>by rw [hD6.t] at z; cases z
      refine ⟨aL ndt (g3.trans g36) _,t7 _ _ (g36 _ _ hsl),hph.mono (g36.t.trans t7),ks,_,_,rfl,⟨by rw [aC hD3.ne]; exact hD6.s,ak,?_,?_,hD3.ne⟩,hBo5⟩
      ·rw [eS,lQ,FQ (by rw [kj]; exact hBo3.nd) (by rw [gJ,eC,y'] <;> rfl)]
       exact eV hD3.rs fun _ _ z=>z
      ·rw [eS,lQ]
       refine uM (eV hD3.rt fun _ _ z=>z.mono (g36.t.trans t7)) ⟨t2,rfl,t7 _ _ ?_⟩
       rw [h6,NK] <;> rfl
     ·have y':fo≠b.1:=fun e=>y (decide_eq_true (congrArg V.int e))
      have eS:cV fo n C k=C:=if_neg fun ⟨x1,x2⟩=>by rw [gB] at x2; omega
      rw [eS] at hBo5 ⊢
      exact ⟨g3,hsl,hph,ks,kt,_,rfl,hD3,hBo5⟩
  ·rintro σ' H3 ⟨g3,hsl,hph,ks,kt,u9,rfl,hD3,hBo3⟩
   rw [<- yl,Oa] at hD3 hBo3
   exact ⟨g3,ks,kt,_,_,_,_,_,_,rfl,hD3,hBo3.mono (by show 6*i+shs.length<=6*(i+1); omega) fun k=>by have:=pN o1 k; show i+shs.count k<=i+1; omega⟩
 ·rintro σ' H1 ⟨g,ks,kt,u4,u5,u6,u7,u8,u9,rfl,hD,hBo⟩
  have xl:=Paired.length hts
  rw [<- xl,Oa] at hD hBo
  exact ⟨_,rfl,q dt kt _ g ndt hD.t hD.rt hBo.nd⟩
end
end D
namespace L2
open PySem
theorem nO {α:Type}:∀ {l:List α} {i j:Nat} {a:α},l.Nodup->l[i]?=some a->l[j]?=some a->i=j
 | [],_,_,_,_,h,_=>by simp at h
 | x::r,0,0,_,_,_,_=>rfl
 | x::r,0,j+1,a,nd,h1,h2=>by
  have e:x=a:=by simpa using h1
  have m:a∈r:=Nv (i:=j) (by simpa using h2)
  rw [<- e] at m
  exact absurd m (Od.mp nd).1
 | x::r,i+1,0,a,nd,h1,h2=>by
  have e:x=a:=by simpa using h2
  have m:a∈r:=Nv (i:=i) (by simpa using h1)
  rw [<- e] at m
  exact absurd m (Od.mp nd).1
 | x::r,i+1,j+1,a,nd,h1,h2=>by
  rw [nO (Od.mp nd).2 (i:=i) (j:=j) (a:=a) (by simpa using h1) (by simpa using h2)]
theorem qT {α:Type} {l:List α} {x p:α} {i:Nat} (h:(l++[x])[i]?=some p):l[i]?=some p∨(i=l.length/\p=x):=by
 by_cases lt:i<l.length
 ·rw [Ox lt] at h
  exact .inl h
 ·rw [Px (by omega)] at h
  have z:i-l.length=0:=by
   cases e:i-l.length with
   | zero=>rfl
   | succ n=>rw [e] at h; simp at h
  rw [z] at h
  exact .inr ⟨by omega,by simpa using h.symm⟩
theorem pJ {α:Type} {l:List α} {x p:α} {i:Nat} (h:l[i]?=some p):(l++[x])[i]?=some p:=by
 obtain ⟨lt,_⟩:=Nj.mp h
 rw [Ox lt]
 exact h
theorem Ja {α:Type} {l:List α} {s i:Nat} {k k':α} (h:(l.set s k)[i]?=some k'):(i=s/\k'=k)∨(i≠s/\l[i]?=some k'):=by
 rw [Wj] at h
 by_cases e:s=i
 ·rw [if_pos e] at h
  split at h
  ·exact .inl ⟨e.symm,by simpa using h.symm⟩
  ·cases h
 ·rw [if_neg e] at h
  exact .inr ⟨fun z=>e z.symm,h⟩
abbrev Trie:=List (List (Key×V))
structure TrI (T:Trie) (ps:List (List Str)):Prop where
 len:T.length=ps.length
 zero:ps[0]?=some []
 nd:ps.Nodup
 yes:∀ {s:Nat} {kvs:List (Key×V)} {p:List Str} {w:Str} {v:V},T[s]?=some kvs->ps[s]?=some p->valV kvs (.inr w)=some v->∃ n:Nat,v=.int n/\ps[n]?=some (p++[w])
 no:∀ {s:Nat} {kvs:List (Key×V)} {p:List Str} {w:Str},T[s]?=some kvs->ps[s]?=some p->valV kvs (.inr w)=none->p++[w]∉ps
 pre:∀ {p:List Str} {w:Str},p++[w]∈ps->p∈ps
 sz:∀ kvs∈T,kvs.length<=T.length
theorem TrI.new:TrI [[]] [[]]:=by
 have one:∀ {s:Nat} {kvs:List (Key×V)},([[]]:Trie)[s]?=some kvs->kvs=[]:=fun {s kvs} h=>by
  have m:=Nv h
  simpa using m
 refine ⟨rfl,rfl,by simp,fun h _ hv=>?_,fun _ _ _ hm=>?_,fun hm=>?_,fun kvs hk=>?_⟩
 ·rw [one h] at hv
  cases hv
 ·have:=Nq.mp hm
  simp at this
 ·have:=Nq.mp hm
  simp at this
 ·rw [Nq.mp hk]
  exact OD _
theorem TrI.pos {T:Trie} {ps:List (List Str)} (h:TrI T ps):0<ps.length:=(Nj.mp h.zero).1
theorem pW {p q:List Str} {u w:Str} (e:p++[u]=q++[w]):p=q/\u=w:=by
 have:=List.append_inj' e rfl
 exact ⟨this.1,by simpa using this.2⟩
theorem TrI.add {T:Trie} {ps:List (List Str)} {s:Nat} {kvs:List (Key×V)} {p:List Str} {w:Str} (h:TrI T ps) (hs:T[s]?=some kvs) (hp:ps[s]?=some p) (hn:valV kvs (.inr w)=none) :
  TrI (T.set s (putK kvs (.inr w) (.int T.length))++[[]]) (ps++[p++[w]]):=by
 have nw:=h.no hs hp hn
 have idx:∀ {i:Nat} {k':List (Key×V)} {p':List Str},(T.set s (putK kvs (.inr w) (.int T.length))++[[]])[i]?=some k'->(ps++[p++[w]])[i]?=some p' ->
   (i=s/\k'=putK kvs (.inr w) (.int T.length)/\p'=p)∨(i≠s/\T[i]?=some k'/\ps[i]?=some p')∨(k'=[]/\p'=p++[w]):=by
  intro i k' p' h1 h2
  rcases qT h1 with a | ⟨a,b⟩
  ·rcases qT h2 with c | ⟨c,d⟩
   ·rcases Ja a with ⟨e,f⟩ | ⟨e,f⟩
    ·subst e
     rw [hp] at c
     exact .inl ⟨rfl,f,(Option.some.inj c).symm⟩
    ·exact .inr (.inl ⟨e,f,c⟩)
   ·have:=(Nj.mp a).1
    rw [R7,h.len] at this
    omega
  ·rw [R7,h.len] at a
   rcases qT h2 with c | ⟨c,d⟩
   ·have:=(Nj.mp c).1
    omega
   ·exact .inr (.inr ⟨b,d⟩)
 refine ⟨?_,pJ h.zero,?_,fun h1 h2 hv=>?_,fun h1 h2 hv=>?_,fun hm=>?_,fun k hk=>?_⟩
 ·simp [h.len]
 ·rw [O4]
  refine ⟨h.nd,by simp,fun a ha b hb=>?_⟩
  rw [Nq.mp hb]
  intro e
  exact nw (e▸ha)
 ·rcases idx h1 h2 with ⟨_,e,e2⟩ | ⟨_,a,b⟩ | ⟨e,_⟩
  ·subst e e2
   rw [dG] at hv
   split at hv
   ·rename_i e
    cases e
    cases hv
    refine ⟨T.length,rfl,?_⟩
    rw [h.len]
    simp
   ·obtain ⟨n,e,q⟩:=h.yes hs hp hv
    exact ⟨n,e,pJ q⟩
  ·obtain ⟨n,e,q⟩:=h.yes a b hv
   exact ⟨n,e,pJ q⟩
  ·subst e
   cases hv
 ·intro hm
  rcases idx h1 h2 with ⟨_,e,e2⟩ | ⟨ne,a,b⟩ | ⟨_,e⟩
  ·subst e e2
   rw [dG] at hv
   split at hv
   ·cases hv
   ·rename_i ne
    rcases Nz.mp hm with m | m
    ·exact h.no hs hp hv m
    ·exact ne (by rw [(pW (Nq.mp m)).2])
  ·rcases Nz.mp hm with m | m
   ·exact h.no a b hv m
   ·have e:=(pW (Nq.mp m)).1
    subst e
    exact ne (nO h.nd b hp)
  ·subst e
   rcases Nz.mp hm with m | m
   ·exact nw (h.pre m)
   ·have:=congrArg List.length (Nq.mp m)
    simp at this
 ·rcases Nz.mp hm with m | m
  ·exact Nz.mpr (.inl (h.pre m))
  ·rw [(pW (Nq.mp m)).1]
   exact Nz.mpr (.inl (Nv hp))
 ·have hl:(T.set s (putK kvs (.inr w) (.int T.length))++[[]]).length=T.length+1:=by simp
  rw [hl]
  rcases Nz.mp hk with m | m
  ·rcases RK m with m | m
   ·have:=h.sz k m
    omega
   ·rw [m]
    have h1:=dw kvs (.inr w) (.int T.length)
    have h2:=h.sz kvs (Nv hs)
    omega
  ·rw [Nq.mp m]
   exact OD _
theorem TrI.takes {T:Trie} {ps:List (List Str)} (h:TrI T ps) {l:List Str} (hl:l∈ps):∀ n,l.take (l.length-n)∈ps
 | 0=>by simpa using hl
 | n+1=>by
  have ih:=h.takes hl n
  by_cases e:l.length-n=0
  ·rw [show l.length-(n+1)=l.length-n by omega]
   exact ih
  ·have q:l.length-n=l.length-(n+1)+1:=by omega
   have lt:l.length-(n+1)<l.length:=by omega
   rw [q,Oe,Nr lt] at ih
   exact h.pre ih
theorem TrI.take {T:Trie} {ps:List (List Str)} (h:TrI T ps) {l:List Str} (hl:l∈ps) {j:Nat} (hj:j<=l.length):l.take j∈ps:=by
 have:=h.takes hl (l.length-j)
 rwa [show l.length-(l.length-j)=j by omega] at this
structure EndsOk (E:List (Key×V)) (ps L:List (List Str)):Prop where
 lt:∀ {s:Nat},(valV E (.inl s)).isSome=true->s<ps.length
 iff:∀ {s:Nat} {p:List Str},ps[s]?=some p->((valV E (.inl s)).isSome=true↔p∈L)
 all:∀ l∈L,l∈ps
theorem EndsOk.new:EndsOk [] [[]] []:=⟨fun h=>(by cases h),fun _=>⟨fun h=>(by cases h),fun h=>(by cases h)⟩,fun _ h=>(by cases h)⟩
theorem EndsOk.add {E:List (Key×V)} {T:Trie} {ps e L:List (List Str)} {l:List Str} {s:Nat} {v:V} (h:EndsOk E ps L) (ti:TrI T (ps++e)) (hs:(ps++e)[s]?=some l):EndsOk (putK E (.inl (s:Int)) v) (ps++e) (L++[l]) where
 lt:=fun {i} hi=>by
  rw [dG] at hi
  split at hi
  ·rename_i z
   have z:(i:Int)=(s:Int):=by injection z
   have:i=s:=by omega
   subst this
   exact (Nj.mp hs).1
  ·have:=h.lt hi
   rw [Np]
   omega
 iff:=fun {i p} hp=>by
  rw [dG]
  split
  ·rename_i z
   have z:(i:Int)=(s:Int):=by injection z
   have:i=s:=by omega
   subst this
   rw [hs] at hp
   cases hp
   exact ⟨fun _=>Nz.mpr (.inr (Nq.mpr rfl)),fun _=>rfl⟩
  ·rename_i z
   have ne:i≠s:=fun q=>z (by rw [q])
   have nl:p≠l:=fun q=>ne (nO ti.nd hp (by rw [q]; exact hs))
   have e1:p∈L++[l]↔p∈L:=by simp [nl]
   rw [e1]
   by_cases lt:i<ps.length
   ·rw [Ox lt] at hp
    exact h.iff hp
   ·have n1:¬ (valV E (.inl (i:Int))).isSome=true:=fun q=>lt (h.lt q)
    have n2:p∉L:=fun q=>by
     obtain ⟨j,hj⟩:=Og (h.all p q)
     have jl:=(Nj.mp hj).1
     have:i=j:=nO ti.nd hp (by rw [Ox jl]; exact hj)
     omega
    exact ⟨fun q=>absurd q n1,fun q=>absurd q n2⟩
 all:=fun p hp=>by
  rcases Nz.mp hp with m | m
  ·exact Nz.mpr (.inl (h.all p m))
  ·rw [Nq.mp m]
   exact Nv hs
end L2
namespace L2
open PySem PySem.W PyProof.Rows
def KP (key:Nat->Int) (p:Array Nat) (i:Nat):Int:=key ((p[i]?).getD 0)
theorem getD_at (p:Array Nat) (i:Nat):p.getD i 0=(p[i]?).getD 0:=by
 by_cases h:i<p.size
 ·simp [Array.getD,h]
 ·simp [Array.getD,h]
structure POk (key:Nat->Int) (N:Nat) (p:Array Nat):Prop where
 pm:p.toList.Perm (List.range N)
 un:∀ i j,i<N->j<N->key i=key j->i=j
theorem POk.sz {key:Nat->Int} {N:Nat} {p:Array Nat} (h:POk key N p):p.size=N:=by
 have:=h.pm.length_eq
 simpa using this
theorem POk.lt {key:Nat->Int} {N:Nat} {p:Array Nat} (h:POk key N p) {i:Nat} (hi:i<N):(p[i]?).getD 0<N:=by
 have hs:=h.sz
 have hi':i<p.size:=by omega
 rw [O1 hi']
 have m:p[i]∈p.toList:=by simp
 have:=Qt.mp (h.pm.mem_iff.mp m)
 simpa using this
theorem POk.ne {key:Nat->Int} {N:Nat} {p:Array Nat} (h:POk key N p) {i j:Nat} (hi:i<N) (hj:j<N) (n:i≠j):KP key p i≠KP key p j:=fun e=>by
 have hs:=h.sz
 have e1:=h.un _ _ (h.lt hi) (h.lt hj) e
 have nd:p.toList.Nodup:=h.pm.nodup_iff.mpr List.nodup_range
 have hi':i<p.size:=by omega
 have hj':j<p.size:=by omega
 rw [O1 hi',O1 hj'] at e1
 simp only [Option.getD_some] at e1
 exact n (nO nd (i:=i) (j:=j) (a:=p[i]) (by simp) (by rw [e1]; simp))
def Up (key:Nat->Int) (p:Array Nat) (n:Nat):Prop:=∀ i j,i<=j->j<n->KP key p i<=KP key p j
def Dn (key:Nat->Int) (p:Array Nat) (n:Nat):Prop:=∀ i j,i<j->j<n->KP key p j<KP key p i
def Asks (cmp:Nat->Nat->(Bool->Shared->Prop)->Shared->Prop) (key:Nat->Int) (N:Nat) (s:Shared):Prop:=∀ i j C,i<N->j<N->key i≠key j->C (decide (key i<key j)) s->cmp i j C s
section
variable {cmp:Nat->Nat->(Bool->Shared->Prop)->Shared->Prop} {key:Nat->Int} {N:Nat} {s:Shared}
theorem wk {α:Type} {p:Array Nat} {i j:Nat} {k:Bool->KasT α} {Q:α->Shared->Prop} (ha:Asks cmp key N s) (hp:POk key N p) (hi:i<N) (hj:j<N) (n:i≠j) (h1:KP key p i<KP key p j->(k true).kasWp cmp Q s) (h2:KP key p j<KP key p i->(k false).kasWp cmp Q s):(KasT.ask (p.getD i 0) (p.getD j 0) k).kasWp cmp Q s:=by
 have ne:=hp.ne hi hj n
 rw [getD_at,getD_at]
 refine ha _ _ _ (hp.lt hi) (hp.lt hj) ne ?_
 by_cases z:KP key p i<KP key p j
 ·rw [show decide (key ((p[i]?).getD 0)<key ((p[j]?).getD 0))=true from decide_eq_true z]
  exact h1 z
 ·rw [show decide (key ((p[i]?).getD 0)<key ((p[j]?).getD 0))=false from decide_eq_false z]
  exact h2 (by unfold KP at *; omega)
theorem Fj {p:Array Nat} (ha:Asks cmp key N s) (hp:POk key N p):∀ (f n:Nat) {Q:Nat->Shared->Prop},1<=n->n+f<=N->Up key p n->(∀ m,n<=m->m<=n+f->Up key p m->(m<n+f->KP key p m<KP key p (m-1))->Q m s)->(kas_asc p f n).kasWp cmp Q s
 | 0,n,Q,_,_,up,q=>q n (Nu _) (Nu _) up fun z=>absurd z (by omega)
 | f+1,n,Q,h1,h2,up,q=>by
  refine wk (i:=n) (j:=n-1) ha hp (by omega) (by omega) (by omega) (fun z=>?_) (fun z=>?_)
  ·rw [if_pos rfl]
   exact q n (Nu _) (by omega) up fun _=>z
  ·rw [if_neg (by decide)]
   refine Fj ha hp f (n+1) (by omega) (by omega) (fun i j hij hj=>?_) fun m a b c d=>q m (by omega) (by omega) c fun x=>d (by omega)
   by_cases e:j=n
   ·subst e
    by_cases e2:i=j
    ·subst e2; exact Sx _
    ·have:=up i (j-1) (by omega) (by omega)
     omega
   ·exact up i j hij (by omega)
theorem Gz {p:Array Nat} (ha:Asks cmp key N s) (hp:POk key N p):∀ (f n:Nat) {Q:Array Nat×Nat×Nat->Shared->Prop},1<=n->n+f<=N->Dn key p n->(∀ m,n<=m->m<=n+f->Dn key p m->Q (p,m,0) s)->(kas_desc f p n 0).kasWp cmp Q s
 | 0,n,Q,_,_,dn,q=>q n (Nu _) (Nu _) dn
 | f+1,n,Q,h1,h2,dn,q=>by
  refine wk (i:=n) (j:=n-1) ha hp (by omega) (by omega) (by omega) (fun z=>?_) (fun z=>?_)
  ·rw [if_pos rfl,if_neg (by decide)]
   refine Gz ha hp f (n+1) (by omega) (by omega) (fun i j hij hj=>?_) fun m a b c=>q m (by omega) (by omega) c
   by_cases e:j=n
   ·subst e
    by_cases e2:i=j-1
    ·subst e2; exact z
    ·have:=dn i (j-1) (by omega) (by omega)
     omega
   ·exact dn i j hij (by omega)
  ·rw [if_neg (by decide)]
   refine wk (i:=n-1) (j:=n) ha hp (by omega) (by omega) (by omega) (fun _=>?_) (fun y=>absurd y (by omega))
   rw [if_pos rfl]
   exact q n (Nu _) (by omega) dn
theorem Df {p:Array Nat} {n:Nat} (hp:POk key N p):POk key N (kas_rev p 0 n):=⟨(Tv.mp (mirror_perm p 0 n _)).trans hp.pm,hp.un⟩
theorem DX {p:Array Nat} {n i:Nat} (hn:n<=p.size) (hi:i<n):KP key (kas_rev p 0 n) i=KP key p (n-1-i):=by
 unfold KP kas_rev
 rw [getElem?_mirror_all hn,if_pos ⟨OD _,hi⟩,Nat.zero_add]
theorem JV {p:Array Nat} {n:Nat} {Q:Nat×Array Nat->Shared->Prop} (ha:Asks cmp key N s) (hp:POk key N p) (h1:1<=n) (hn:n<=N) (dn:Dn key p n) (q:∀ m p',1<=m->m<=N->POk key N p'->Up key p' m->Q (m,p') s):(kas_tail3 n N p).kasWp cmp Q s:=by
 have hs:=hp.sz
 unfold kas_tail3
 rw [R8]
 refine Fj ha (Df hp) (N-n) n h1 (by omega) (fun i j hij hj=>?_) fun m a b c _=>q m _ (by omega) (by omega) (Df hp) c
 rw [DX (by omega) (by omega),DX (by omega) hj]
 by_cases e:i=j
 ·subst e; exact Sx _
 ·exact Ww (dn _ _ (by omega) (by omega))
theorem G5 {p:Array Nat} {Q:Nat×Array Nat->Shared->Prop} (ha:Asks cmp key N s) (hp:POk key N p) (h2:2<=N) (q:∀ m p',1<=m->m<=N->POk key N p'->Up key p' m->Q (m,p') s):(kas_count N p).kasWp cmp Q s:=by
 unfold kas_count
 rw [R8]
 refine Fj ha hp (N-1) 1 (Nu _) (by omega) (fun i j hij hj=>by rw [show i=j by omega]; exact Sx _) fun m a b c d=>?_
 by_cases e:(m==N)=true
 ·rw [if_pos e]
  exact q m p a (by omega) hp c
 ·have e':m≠N:=fun z=>e (by rw [z]; exact beq_self_eq_true _)
  rw [if_neg e]
  have dd:=d (by omega)
  by_cases z:m>1
  ·rw [if_pos z]
   refine wk (i:=0) (j:=m-1) ha hp (by omega) (by omega) (by omega) (fun _=>?_) (fun y=>?_)
   ·rw [if_pos rfl]
    exact q m p a (by omega) hp c
   ·have:=c 0 (m-1) (by omega) (by omega)
    omega
  ·rw [if_neg z]
   have m1:m=1:=by omega
   subst m1
   unfold kas_descPart
   rw [R8]
   refine Gz ha hp (N-2) 2 (by decide) (by omega) (fun i j hij hj=>?_) fun m a b c=>?_
   ·have:j=1/\i=0:=by omega
    rw [this.1,this.2]
    exact dd
   ·rw [if_neg (show ¬ (0:Nat)>0 by decide)]
    show (kas_tail3 m N p).kasWp cmp Q s
    exact JV ha hp (by omega) (by omega) c q
theorem vC {p:Array Nat} {k:Nat} (ha:Asks cmp key N s) (hp:POk key N p) (hk:k<N) (up:Up key p k):∀ (f l r:Nat) {Q:Nat->Shared->Prop},r-l<=f->l<=r->r<=k->(∀ i,i<l->KP key p i<=KP key p k)->(∀ i,r<=i->i<k->KP key p k<KP key p i) ->
  (∀ m,m<=k->(∀ i,i<m->KP key p i<=KP key p k)->(∀ i,m<=i->i<k->KP key p k<KP key p i)->Q m s)->(W4 p k f l r).kasWp cmp Q s
 | 0,l,r,Q,h1,h2,h3,lo,hi,q=>q l (by omega) lo (fun i a b=>hi i (by omega) b)
 | f+1,l,r,Q,h1,h2,h3,lo,hi,q=>by
  show KasT.kasWp cmp (if l ≥ r then KasT.ret l else KasT.ask (p.getD k 0) (p.getD ((l+r) / 2) 0) fun c=>if c=true then W4 p k f l ((l+r) / 2) else W4 p k f ((l+r) / 2+1) r) Q s
  by_cases z:l ≥ r
  ·rw [if_pos z]
   exact q l (by omega) lo (fun i a b=>hi i (by omega) b)
  ·rw [if_neg z]
   refine wk (i:=k) (j:=(l+r) / 2) ha hp hk (by omega) (by omega) (fun y=>?_) (fun y=>?_)
   ·rw [if_pos rfl]
    refine vC ha hp hk up f l ((l+r) / 2) (by omega) (by omega) (by omega) lo (fun i a b=>?_) q
    have:=up ((l+r) / 2) i a b
    omega
   ·rw [if_neg (by decide)]
    refine vC ha hp hk up f ((l+r) / 2+1) r (by omega) (by omega) h3 (fun i a=>?_) hi q
    have:=up i ((l+r) / 2) (by omega) (by omega)
    omega
theorem Es {p:Array Nat} {k l i:Nat} (hk:k<p.size) (hl:l<=k):KP key (bubble p k (k-l)) i=if i=l then KP key p k else if l<i/\i<=k then KP key p (i-1) else KP key p i:=by
 unfold KP
 rw [getElem?_bubble hk (k-l) (by omega) i,show k-(k-l)=l by omega]
 split
 ·rfl
 ·split <;> rfl
theorem Jp {Q:Array Nat->Shared->Prop} (ha:Asks cmp key N s) (q:∀ p',POk key N p'->Up key p' N->Q p' s):∀ (f k:Nat) (p:Array Nat),POk key N p->k+f=N->Up key p k->(kas_bin f p k).kasWp cmp Q s
 | 0,k,p,hp,e,up=>q p hp (by rw [show N=k by omega]; exact up)
 | f+1,k,p,hp,e,up=>by
  have hs:=hp.sz
  show KasT.kasWp cmp ((W4 p k k 0 k).bind fun l=>kas_bin f (bubble p k (k-l)) (k+1)) Q s
  rw [R8]
  refine vC ha hp (by omega) up k 0 k (by omega) (by omega) (by omega) (fun i a=>absurd a (by omega)) (fun i a b=>absurd b (by omega)) fun l hl lo hi=>?_
  refine Jp ha q f (k+1) _ ⟨(Tv.mp (bubble_perm p k _)).trans hp.pm,hp.un⟩ (by omega) (fun i j hij hj=>?_)
  rw [Es (by omega) hl,Es (by omega) hl]
  by_cases i1:i=l
  ·rw [if_pos i1]
   by_cases j1:j=l
   ·rw [if_pos j1]; exact Sx _
   ·rw [if_neg j1,if_pos (by omega)]
    exact Ww (hi (j-1) (by omega) (by omega))
  ·rw [if_neg i1]
   by_cases i2:l<i/\i<=k
   ·rw [if_pos i2,if_neg (by omega),if_pos (by omega)]
    exact up (i-1) (j-1) (by omega) (by omega)
   ·rw [if_neg i2]
    by_cases j1:j=l
    ·rw [if_pos j1]
     exact lo i (by omega)
    ·rw [if_neg j1]
     by_cases j2:l<j/\j<=k
     ·rw [if_pos j2]
      exact up i (j-1) (by omega) (by omega)
     ·rw [if_neg j2]
      exact up i j hij (by omega)
theorem Kw {Q:Array Nat->Shared->Prop} (ha:Asks cmp key N s) (un:∀ i j,i<N->j<N->key i=key j->i=j) (h2:2<=N) (q:∀ p',POk key N p'->Up key p' N->Q p' s):(kas_sort N).kasWp cmp Q s:=by
 unfold kas_sort
 rw [R8]
 refine G5 ha ⟨by simp,un⟩ h2 fun m p' h1 hm hp up=>?_
 by_cases z:m<N
 ·rw [if_pos z]
  rw [show max m 1=m by omega]
  exact Jp ha q (N-m) m p' hp (by omega) up
 ·rw [if_neg z]
  have:m=N:=by omega
  subst this
  exact q p' hp up
end
def HTup (h:Heap) (v:Value) (n:Int):Prop:=∃ a o xs e t,v=.ref a/\h.get? a=some o/\o.cls=.type "tuple"/\o.data=.seq xs e/\xs[0]?=some (.int n t)
theorem HTup.keep {h h':Heap} {v:Value} {n:Int} (k:∀ b o,o.cls=.type "tuple"->h.get? b=some o->h'.get? b=some o):HTup h v n->HTup h' v n
 | ⟨a,o,xs,e,t,h1,h2,h3,h4,h5⟩=>⟨a,o,xs,e,t,h1,k _ _ h3 h2,h3,h4,h5⟩
theorem gD {α β:Type} {F:α->β->Prop} (x:α) (y:β):∀ {l:List α} {m:List β} {i:Nat},Paired F l m->i<l.length->F (l.getD i x) (m.getD i y)
 | _,_,_,.nil,h=>absurd h (by simp)
 | _,_,0,.cons h _,_=>h
 | _,_,i+1,.cons _ t,h=>by
  have:=gD x y (i:=i) t (by simpa using h)
  simpa using this
theorem BP {h:Heap} {vs:List Value} {ns:List Int} (r:Paired (HTup h) vs ns):∃ fs,KatTups h vs fs/\fs.length=vs.length/\∀ f∈fs,∃ n t,f=Value.int n t:=by
 induction r with
 | nil=>exact ⟨[],KatTups.nil,rfl,fun _ h=>nomatch h⟩
 | @cons v n vs ns hv t ih =>
  obtain ⟨fs,k,l,c⟩:=ih
  obtain ⟨a,o,xs,e,tk,rfl,h2,h3,h4,h5⟩:=hv
  refine ⟨_,KatTups.cons h2 h3 h4 h5 k,by rw [Oj,Oj,l],fun f hf=>?_⟩
  rcases NT.mp hf with e | m
  ·exact ⟨_,_,e⟩
  ·exact c f m
theorem zx {xs:Array Value} {v:Value} (h:xs[0]?=some v):∃ r,xs.toList=v::r:=by
 obtain ⟨l⟩:=xs
 cases l with
 | nil=>simp at h
 | cons x r =>
  have e:x=v:=by simpa using h
  exact ⟨r,by rw [e]⟩
section
variable {prog:Program} {w:World} {A:Around} {E:Value->Shared->Prop} {s:Shared}
theorem I8 {vs:List Value} {ns:List Int} (r:Paired (HTup s.heap) vs ns):Asks (kas_ask prog w A (tuples' true) vs) (fun i=>ns.getD i 0) vs.length s:=by
 intro i j C hi hj ne hc
 obtain ⟨a,o,xs,e,t,e1,h2,h3,h4,h5⟩:=gD Value.none 0 r hi
 obtain ⟨a',o',xs',e',t',e1',h2',h3',h4',h5'⟩:=gD Value.none 0 r hj
 unfold kas_ask
 rw [e1,e1']
 obtain ⟨xr,ex⟩:=zx h5
 obtain ⟨yr,ey⟩:=zx h5'
 refine kat_lt h2 h4 h2' h4' ?_
 rw [ex,ey,List.zip_cons_cons]
 refine kat_cons (wpAny_eqBool_int ?_)
 rw [show (ns.getD i 0==ns.getD j 0)=false from beq_eq_false_iff_ne.mpr ne]
 exact kat_no (oneLt_int hc)
theorem range_getD {α:Type} (d:α) (l:List α):((List.range l.length).map fun i=>l.getD i d)=l:=by
 apply List.ext_getElem
 ·simp
 ·intro i h1 h2
  simp [h2]
theorem KQ {a:Addr} {vs:List Value} {ns:List Int} {n:Nat} {P:PySem.Fin->Shared->Prop} (gq:s.heap.get? a=some (seqObj "list" vs.toArray n)) (r:Paired (HTup s.heap) vs ns) (un:ns.Nodup) (h64:vs.length<64)
  (q:∀ js:List Nat,js.Perm (List.range vs.length)->(js.map fun i=>ns.getD i 0).Pairwise (·<=·)->P (.done (.ret .none)) { s with heap:=sortedHeap s.heap a vs (js.map fun i=>vs.getD i Value.none).toArray }):wpAny (model prog w) A (Builtin.«list.sort» ⟨[.ref a],[]⟩) P E s:=by
 rw [list_sort_plain]
 have la:a<s.heap.objs.size:=N7 gq
 have lns:vs.length=ns.length:=Paired.length r
 refine Nf (listItems_at gq rfl (Nf (R9 gq rfl ?_)))
 obtain ⟨ep,g1⟩:∃ ep,(s.heap.update a (Obj.mapSeq fun _=>(#[]:Array Value))).get? a=some (seqObj "list" #[] ep):=⟨_,Ru gq fun _=>#[]⟩
 refine Nf (W5 g1 rfl (Nf (wpAny_newTuple (Nf (Uu (Pa ?_))))))
 have keep:∀ b o,b≠a->s.heap.get? b=some o->(((s.heap.update a (Obj.mapSeq fun _=>(#[]:Array Value))).push (seqObj "tuple" vs.toArray 0)).push (seqObj "list" #[] 0)).get? b=some o:=fun b o nb e =>
  Nk _ (Nk _ (by rw [Qc _ _ _ _ nb]; exact e))
 have g6:(((s.heap.update a (Obj.mapSeq fun _=>(#[]:Array Value))).push (seqObj "tuple" vs.toArray 0)).push (seqObj "list" #[] 0)).get? a=some (seqObj "list" #[] ep):=Nk _ (Nk _ g1)
 have r6:Paired (HTup (((s.heap.update a (Obj.mapSeq fun _=>(#[]:Array Value))).push (seqObj "tuple" vs.toArray 0)).push (seqObj "list" #[] 0))) vs ns:=Paired.mapP r fun _ _=>HTup.keep fun b o c e=>keep b o (fun z=>by
  rw [z,gq] at e
  cases e
  exact absurd (show Value.type "list"=Value.type "tuple" from c) (by decide)) e
 show wpAny (model prog w) A _ P E (({ s with heap:=(((s.heap.update a (Obj.mapSeq fun _=>(#[]:Array Value))).push (seqObj "tuple" vs.toArray 0)).push (seqObj "list" #[] 0)) }:Shared))
 dsimp only
 have hb:vs.length<=sizeLine:=by rw [Te]; omega
 by_cases z:vs.toArray.size<2
 ·rw [if_pos z,if_pos z]
  refine Nf (Ni ?_)
  rw [StateT.run_pure]
  refine Nf (Ni ?_)
  dsimp only
  have eo:(arrOf (SortSt.mk' general' (vs.toArray.zip vs.toArray) #[] 7 none)).map (·.2)=((List.range vs.length).map fun i=>vs.getD i Value.none).toArray:=by
   rw [range_getD]
   show (vs.toArray.zip vs.toArray).map (·.2)=vs.toArray
   apply Array.ext
   ·simp
   ·intro i h1 h2; simp
  rw [eo]
  refine Nf (W5 g6 rfl (Nf (R9 g6 rfl ?_ (hsz2:=by simp only [N5,Ng,List.length_range]; omega))))
  simp only [bne_self_eq_false,Ro,if_false]
  refine Ni (q (List.range vs.length) (List.Perm.refl _) ?_)
  have z2:vs.length<2:=by simpa using z
  match hv:vs.length,z2 with
  | 0,_=>exact .nil
  | 1,_=>exact .cons (fun _ h=>nomatch h) .nil
 ·rw [if_neg z,if_neg z]
  have z2:2<=vs.length:=by
   have:¬ vs.length<2:=by simpa using z
   omega
  obtain ⟨fs,kt,fl,fi⟩:=BP r6
  refine Nf (kat_kind (T:=.type "int") kt (by omega) (fun v hv=>?_) rfl ?_)
  ·obtain ⟨k,t,rfl⟩:=fi v hv
   exact Looks.of_pure rfl
  have unk:∀ i j,i<vs.length->j<vs.length->ns.getD i 0=ns.getD j 0->i=j:=fun i j hi hj e=>by
   have e1:ns[i]?=some (ns.getD i 0):=by simp [lns▸hi]
   have e2:ns[j]?=some (ns.getD i 0):=by rw [e]; simp [lns▸hj]
   exact nO un e1 e2
  have run:=Kw (Q:=fun p s'=>s'=({ s with heap:=(((s.heap.update a (Obj.mapSeq fun _=>(#[]:Array Value))).push (seqObj "tuple" vs.toArray 0)).push (seqObj "list" #[] 0)) }:Shared)/\POk (fun i=>ns.getD i 0) vs.length p/\Up (fun i=>ns.getD i 0) p vs.length) (I8 (prog:=prog) (w:=w) (A:=A) (s:=({ s with heap:=(((s.heap.update a (Obj.mapSeq fun _=>(#[]:Array Value))).push (seqObj "tuple" vs.toArray 0)).push (seqObj "list" #[] 0)) }:Shared)) r6) unk z2 (fun p hp up=>⟨rfl,hp,up⟩)
  refine Nf (PK (kat_run (ks:=vs) (vs:=vs) (Q:=fun st' s'=>∃ p:Array Nat,p.size=vs.length/\arrOf st'=p.map (kas_item (vs.toArray.zip vs.toArray))/\failedOf st'=none/\s'=({ s with heap:=(((s.heap.update a (Obj.mapSeq fun _=>(#[]:Array Value))).push (seqObj "tuple" vs.toArray 0)).push (seqObj "list" #[] 0)) }:Shared)/\POk (fun i=>ns.getD i 0) vs.length p/\Up (fun i=>ns.getD i 0) p vs.length) rfl z2 h64 (fun p st' s' b1 b2 b3 b4=>⟨p,b1,b2,b3,b4⟩) run) ?_ fun _ _ e=>e)
  rintro ⟨⟨⟩,st'⟩ s' ⟨p,hsz,har,hf,rfl,hp,up⟩
  dsimp only
  have eo:=kat_snds (ks:=vs) (vs:=vs) rfl har
  rw [eo]
  have pl:p.toList.length=vs.length:=by simpa using hsz
  refine Nf (W5 g6 rfl (Nf (R9 g6 rfl ?_ (hsz2:=by simp only [N5,Ng,pl]; omega))))
  rw [hf]
  simp only [bne_self_eq_false,Ro,if_false]
  refine Ni (q p.toList hp.pm ?_)
  rw [RM]
  intro i j hi hj hij
  have hi':i<p.size:=by simpa using hi
  have hj':j<p.size:=by simpa using hj
  have:=up i j (RP hij) (by omega)
  unfold KP at this
  rw [O1 hi',O1 hj'] at this
  simpa using this
theorem Iv {l:Addr} {vs:List Value} {ns:List Int} {Q:Value->Shared->Prop} (gl:s.heap.IsList l vs.toArray) (r:Paired (HTup s.heap) vs ns) (un:ns.Nodup) (h64:vs.length<64)
  (q:∀ js:List Nat,js.Perm (List.range vs.length)->(js.map fun i=>ns.getD i 0).Pairwise (·<=·)->Q (.ref (s.heap.objs.size+1)) { s with heap:=sortedAll s.heap vs (js.map fun i=>vs.getD i Value.none).toArray }):wpAny (model prog w) A (call (.builtin "sorted") [.ref l]) Q E s:=by
 refine T5 kind_sorted plain_sorted entry_sorted (args_sorted1 _) (show wpAny _ _ (Builtin.«sorted» _) _ _ s from ?_)
 unfold Builtin.«sorted»
 refine Nf (m:=checkCount "sorted" 1 1 _) (Ni (Nf (collect_list gl (Nf (Uu ?_)))))
 have sz:((s.heap.push (seqObj "list" #[] 0)).update s.heap.objs.size (Obj.mapSeq (·++vs.toArray))).objs.size=s.heap.objs.size+1:=by rw [Heap.size_update,size_push'] <;> rfl
 have gL:(((s.heap.push (seqObj "list" #[] 0)).update s.heap.objs.size (Obj.mapSeq (·++vs.toArray))).push (seqObj "list" vs.toArray 0)).get? (s.heap.objs.size+1)=some (seqObj "list" vs.toArray 0):=by rw [<- sz]; exact NQ _ rfl
 have old:∀ b o,s.heap.get? b=some o->(((s.heap.push (seqObj "list" #[] 0)).update s.heap.objs.size (Obj.mapSeq (·++vs.toArray))).push (seqObj "list" vs.toArray 0)).get? b=some o:=fun b o e =>
  Nk _ (by rw [Qc _ _ _ _ (Ot (N7 e))]; exact Nk _ e)
 show wpAny _ _ _ _ _ ({ s with heap:=((s.heap.push (seqObj "list" #[] 0)).update s.heap.objs.size (Obj.mapSeq (·++vs.toArray))).push (seqObj "list" vs.toArray 0) }:Shared)
 rw [sz]
 refine Nf (Pa (P0 slot_list_sort ⟨_,gL,rfl⟩ entry_list_sort (KQ (ns:=ns) gL (Paired.mapP r fun _ _=>HTup.keep fun b o _ e=>old b o e) un h64 fun js b1 b2=>⟨_,rfl,Ni ⟨_,rfl,q js b1 b2⟩⟩) (args_list_sort _)))
end
section
variable {X:Cx}
def NTup (H:Hp) (y:V) (n:Int):Prop:=∃ b zs,y=.ref b/\H b=some (.tup (.int n::zs))
theorem tW {xs:List V} {us:List Value} (r:Vals xs us):∀ {js:List Nat},(∀ j∈js,j<xs.length)->Vals (js.map fun i=>xs.getD i .non) (js.map fun i=>us.getD i Value.none)
 | [],_=>.nil
 | j::js,h=>.cons (gD V.non Value.none r (h j Ny)) (tW r fun i hi=>h i (Nt _ hi))
theorem uz:CallR X (.builtin "sorted") (fun xs H Q=>∃ (p:Addr) (ys:List V) (ns:List Int),xs=[.ref p]/\SqL X.K H p ys/\Paired (NTup H) ys ns/\ns.Nodup/\ns.length<64/\∀ (l:Addr) (js:List Nat),H l=none->js.Perm (List.range ns.length)->(js.map fun i=>ns.getD i 0).Pairwise (·<=·)->Q (.ref l) (upd H l (.lst (js.map fun i=>ys.getD i .non)))):=by
 intro pins s σ H xs us Q I r h
 obtain ⟨p,ys,ns,rfl,hq,hn,un,h64,q⟩:=h
 obtain ⟨u,rfl,rx⟩:=vals1 r
 cases rx
 obtain ⟨its,r',pl,hz⟩:=I.list hq
 have l1:=r'.length
 have l2:ys.length=ns.length:=Paired.length hn
 have ht:Paired (HTup s.heap) its ns:=by
  have all:∀ {ys:List V} {its:List Value} {ns:List Int},Vals ys its->Paired (NTup H) ys ns->Paired (HTup s.heap) its ns:=by
   intro ys its ns a
   induction a generalizing ns with
   | nil=>intro b; cases b; exact .nil
   | cons ha _ ih =>
    intro b
    cases b with
    | cons hb tb =>
     refine .cons ?_ (ih tb)
     obtain ⟨c,zs,rfl,hc⟩:=hb
     cases ha
     obtain ⟨its,r2,ht,_⟩:=I.tuple (SqT.of (K:=X.K) hc)
     obtain ⟨o,e2,hc2,n2,hd⟩:=ht
     cases r2 with
     | cons h0 _ =>
      obtain ⟨t,rfl⟩:=h0
      exact ⟨_,o,_,n2,t,rfl,e2,hc2,hd,by simp⟩
  exact all r' hn
 refine Iv pl.isList ht un (by omega) fun js b1 b2=>?_
 obtain ⟨c,he⟩:=sortedAll_at s.heap its (js.map fun i=>its.getD i Value.none).toArray
 have jl:js.length=its.length:=by simpa using b1.length_eq
 refine ⟨.ref (s.heap.objs.size+1),_,I.laid (t':=s.toks) (fun _ _ e=>sortedAll_old e) (Q5 _) (show ObjOk X.prog X.w _ _ _ (.lst (js.map fun i=>ys.getD i .non)) from ⟨by rw [Ng]; omega,_,c,tW r' fun j hj=>?_,he⟩),rfl,q _ js (I.hok.fresh (Q5 _)) (by rw [<- l2,l1]; exact b1) b2⟩
 have:=Qt.mp (b1.mem_iff.mp hj)
 omega
end
end L2
namespace D
open PySem L2
def tlO (x:PTh):List Tl:=match x.2 with
 | .tell n sc ph bs _=>[(n,sc,x.1,shT ph bs)]
 | _=>[]
theorem fH:∀ (f:F) (p:List Int),tlsF f p=(ordP p f).flatMap tlO
 | .nil,_=>rfl
 | .say n ws r,p=>by
  show tlsF r p=_
  rw [fH r p] <;> rfl
 | .tell n sc ph bs ms r,p=>by
  show (n,sc,p,shT ph bs)::tlsF r p=_
  rw [fH r p] <;> rfl
 | .part n i r,p=>by
  show tlsF i (p++[n])++tlsF r p=((p,Th.part n i)::(ordP (p++[n]) i++ordP p r)).flatMap tlO
  rw [fH i,fH r p,Ov,O7] <;> rfl
theorem kE:∀ l:List PTh,((l.flatMap tlO).map (·.1)).Sublist (l.map fun x=>x.2.num)
 | []=>.slnil
 | x::r=>by
  rw [Ov,NK,Ow]
  obtain ⟨p,t⟩:=x
  cases t with
  | say n ws=>exact .cons _ (kE r)
  | tell n sc ph bs ms=>exact .cons₂ _ (kE r)
  | part n i=>exact .cons _ (kE r)
theorem Kv {f:F} (h:(f.ord.map Th.num).Nodup):((tlsF f [0]).map (·.1)).Nodup:=by
 rw [fH]
 refine (kE _).nodup ?_
 have e:(ordP [0] f).map (fun x:PTh=>x.2.num)=f.ord.map Th.num:=by rw [<- fM [0] f,Pq] <;> rfl
 rw [e]
 exact h
theorem lB (l:Str) (b:Str×Str):dB l b=sJ l b:=by
 refine oX ?_
 unfold dB sJ
 rw [jY,iJ,jY]
theorem Ks {ws:List Str} {last:Str} {bs:List (Str×Str)} (hm:MnOk ws) (hl:last∈ws) (h5:bs.length<=5) (h:JH ws last bs):FOk last bs:=by
 obtain ⟨os,hp,nd,ho⟩:=h
 have eos:bs.map (dB last)=os:=by
  have all:∀ {bs:List (Str×Str)} {os:List Str},Paired (qQ last) bs os->bs.map (dB last)=os:=by
   intro bs os r
   induction r with
   | nil=>rfl
   | cons h t ih=>rw [Ow,ih,lB,m8 h]
  exact all hp
 refine ⟨h5,fun b hb=>?_,by rw [eos]; exact nd⟩
 obtain ⟨i,hi⟩:=Og hb
 obtain ⟨o,eo,pre,e1,e2⟩:=bQ hp hi
 have wl:=hm.wd last hl
 have wo:=hm.wd o (ho o (Nv eo))
 have ef:dB last b=o:=by rw [lB]; exact m8 ⟨pre,e1,e2⟩
 have l1:=congrArg Str.length e1
 have l2:=congrArg Str.length e2
 rw [len_app] at l1 l2
 have c1:cs last=cs pre++cs b.1:=by rw [e1,iJ]
 have c2:cs o=cs pre++cs b.2:=by rw [e2,iJ]
 have g1:(cs pre++cs b.1).all good=true:=by rw [<- c1]; exact wl.2.2
 have g2:(cs pre++cs b.2).all good=true:=by rw [<- c2]; exact wo.2.2
 rw [Vg,Ph] at g1 g2
 have hl2:=wo.2.1
 have hl1:=wo.1
 refine ⟨by omega,?_,by omega,g1.2,g2.2,by rw [ef]; exact hl1,by rw [ef]; exact hl2⟩
 rw [c1,show last.length-b.1.length=(cs pre).length by rw [fV]; omega,List.drop_left]
abbrev tl0:Tl:=(0,("":Str),[],[])
def spTO:Sp:=fun vs H Q _=>∃ (v:V) (f:F) (ns:List Int) (ws:List Str),vs=[v]/\fP H 0 f v/\DocQ ns ws f 12/\MnOk ws /\
 ∀ r ts xs H',Same H H'->H r=none->H' r=some (.lst xs)->Paired (tpR H') ts xs->ts.Perm (tlsF f [0])->(ts.map (·.1)).Pairwise (·<=·)->Q (.ref r) H'
theorem getD_map {α β:Type} (f:α->β) (d:α) (l:List α) (i:Nat):(l.map f).getD i (f d)=f (l.getD i d):=by
 rw [PX,PX,NP]
 cases l[i]? <;> rfl
theorem oA {α β:Type} {F:α->β->Prop} (x:α) (y:β) {l:List α} {m:List β} (h:Paired F l m):∀ {js:List Nat},(∀ j∈js,j<l.length)->Paired F (js.map fun i=>l.getD i x) (js.map fun i=>m.getD i y)
 | [],_=>.nil
 | j::js,hj=>.cons (gD x y h (hj j Ny)) (oA x y h fun i hi=>hj i (Nt _ hi))
section
variable {P:Program} {w:World} {K:Nh} {mg:Str->Option Value} {base:Heap} {f:Addr} {fd:FuncData}
theorem scTO:FnScope ["doc","found","thing","path"] ["doc"] (aA dR):=⟨rfl,rfl,rfl,by decide +kernel,rfl,by decide +kernel,by decide +kernel⟩
set_option maxHeartbeats 8000000 in
theorem MN (F:Fun K "tellings_of" "tellings_of" dR f fd) (ms:mg "sorted"=none) (GW:Def P w K mg base CX0 21 "things_with_homes" ["part","path"] (sG 21)) (GO:Def P w K mg base CX0 3 "forms" ["phrase","bends"] zF):FnOk P w K mg base CX0 22 f fd ["doc"] spTO:=by
 refine F.ok scTO (fun vs H Q E h=>?_) (fun cdv A outer s H vs Q E hr h=>?_)
 ·obtain ⟨v,fo,ns,ws,rfl,_⟩:=h
  rfl
 obtain ⟨v,fo,ns,ws,rfl,hv,hD,hmn,q⟩:=h
 refine ⟨_,ao (aF (i:=1) scTO.nd rfl (Or.inl rfl) (cD aq))
  (ao (cj PassesOwn.never rfl (cu (aX GW hr (aj (pv 0) (aj (bh (aj au aq)) aq)))) (jW rfl (bM (aK (i:=2) scTO.nd rfl (Or.inl rfl)) (bM (aK (i:=3) scTO.nd rfl (Or.inl rfl)) iC)))
   (aD (bJ (aN eG (aJ bA (pv 2) au (fun _ _=>rfl)) cJ (bD _))
    (aD (cC (dZ Ob Oh Oi bO (pv 1) (aj (bh (aj (aJ bA (pv 2) au (fun _ _=>rfl)) (aj (aJ bA (pv 2) au (fun _ _=>rfl)) (aj (pv 3) (aj (aX GO (hr.mono (by decide)) (aj (aJ bA (pv 2) au (fun _ _=>rfl)) (aj (aJ bA (pv 2) au (fun _ _=>rfl)) aq))) aq))))) aq)))) aR)))
  (aD (aU (aH uz rfl ms Uk (aj (pv 1) aq))))),?_⟩
 have hb:=big
 refine ⟨(by show 0<=sizeLine; decide),fun l hl=>?_⟩
 have g1:=aB hl (.lst [])
 have e1:upd H l (.lst []) l=some (.lst []):=ak
 generalize upd H l (.lst [])=H1 at g1 e1 ⊢
 refine ⟨_,rfl,(by show 1<=sizeLine; decide),fun t0 ht0=>?_⟩
 have g2:=aB ht0 (.tup [.int 0])
 have e2:iT (upd H1 t0 (.tup [.int 0])) t0 [0]:=ak
 have l2:=g2 _ _ e1
 generalize upd H1 t0 (.tup [.int 0])=H2 at g2 e2 l2 ⊢
 have hdp:=hD.dep
 have hfw:=hD.few
 refine ⟨v,0,fo,t0,[0],rfl,thR.mono (t:=.part 0 fo) hv (g1.trans g2).t,e2,by omega,by omega,by show 1+_<=1000; omega,fun r xs H3 g3 hr3 er hxs=>?_⟩
 have nlr:l≠r:=fun e=>by rw [<- e,l2] at hr3; cases hr3
 have l3:=g3 _ _ l2
 have g13:=(g1.trans g2).trans g3
 refine ⟨r,rfl,⟨_,SqL.of er⟩,?_⟩
 refine cN (K:=K) (a:=r) (xs:=xs) (fun i σ' H'=>Same H H'/\TSame H3 H'/\H' r=some (.lst xs)/\∃ (zs:List V) (u2 u3:Option V),σ'=[some v,some (.ref l),u2,u3]/\H' l=some (.lst zs)/\Paired (tpR H') (((ordP [0] fo).take i).flatMap tlO) zs) ?_ (fun i σ' H' _ h=>SqL.of h.2.2.1) ?_ ?_
 ·exact ⟨g13,TSame.refl _,er,[],_,_,rfl,l3,.nil⟩
 ·rintro i y σ' H4 hi ⟨g4,t4,hr4,zs,u2,u3,rfl,hl4,hzs⟩
  obtain ⟨x,ex,hx⟩:=aY hxs hi
  obtain ⟨z,a,tu,rfl,k1,k2,k3⟩:=hx.mono t4
  have hth:ThOk ws x.2:=hD.ok _ (lY (Nv ex))
  have etk:((ordP [0] fo).take (i+1)).flatMap tlO=((ordP [0] fo).take i).flatMap tlO++tlO x:=by
   rw [Oe,ex,O7]
   show _++(tlO x++[])=_
   rw [N6]
  obtain ⟨ta,tx,et,hta,hk0,_⟩:=gU k3
  have zl:zs.length<=45:=by
   have h1:=Paired.length hzs
   have h2:=(kE ((ordP [0] fo).take i)).length_le
   rw [Ng,Ng,Oc,gC] at h2
   omega
  refine ⟨z,_,rfl,SqT.of k1,rfl,_,_,rfl,_,_,rfl,rfl,?_⟩
  obtain ⟨xp,xt⟩:=x
  cases xt with
  | say n zw =>
   subst et
   refine ⟨_,rfl,ta,_,_,_,rfl,rfl,SqT.of hta,hk0,rfl,_,rfl,?_⟩
   rw [show decide (V.str (knd (.say n zw))=V.str "tell")=false from (by decide:decide (V.str "say"=V.str "tell")=false)]
   refine iteF ⟨g4,t4,hr4,zs,_,_,rfl,hl4,?_⟩
   rw [etk]
   show Paired _ (_++[]) zs
   rw [N6]
   exact hzs
  | part n fi =>
   subst et
   refine ⟨_,rfl,ta,_,_,_,rfl,rfl,SqT.of hta,hk0,rfl,_,rfl,?_⟩
   rw [show decide (V.str (knd (.part n fi))=V.str "tell")=false from (by decide:decide (V.str "part"=V.str "tell")=false)]
   refine iteF ⟨g4,t4,hr4,zs,_,_,rfl,hl4,?_⟩
   rw [etk]
   show Paired _ (_++[]) zs
   rw [N6]
   exact hzs
  | tell n sc ph bs mm =>
   obtain ⟨_,hph4,hphw,hbs5,⟨p0,last,rfl,hbd⟩,_⟩:=(show TlOk ws sc ph bs mm from hth)
   obtain ⟨tb,x1,y1,z1,rfl,w1,⟨pa,rfl,w2⟩,w3,w4⟩:=(show tellR H4 n sc (p0++[last]) bs mm tu from k3)
   have hlast:last∈ws:=hphw last (by simp)
   have p04:p0.length<=4:=by
    rw [Np] at hph4
    omega
   refine ⟨_,rfl,tb,_,_,_,rfl,rfl,SqT.of w1,rfl,rfl,_,rfl,?_⟩
   refine iteT ?_
   refine ⟨_,rfl,.inl ⟨rfl,_,SqL.of hl4⟩,_,rfl,tb,_,_,_,rfl,rfl,SqT.of w1,rfl,_,rfl,tb,_,_,_,rfl,rfl,SqT.of w1,rfl,_,rfl,_,rfl,tb,_,_,_,rfl,rfl,SqT.of w1,rfl,_,rfl,tb,_,_,_,rfl,rfl,SqT.of w1,rfl,pa,y1,p0,last,bs,rfl,w2,w3,p04,hmn.wd last hlast,Ks hmn hlast hbs5 hbd,fun ft fx H5 g5 hft hfx=>?_⟩
   refine ⟨(by show 4<=sizeLine; decide),fun t6 ht6=>?_⟩
   have g6:=aB ht6 (.tup [.int n,.str sc,.ref a,.ref ft])
   have e6:upd H5 t6 (.tup [.int n,.str sc,.ref a,.ref ft]) t6=some (.tup [.int n,.str sc,.ref a,.ref ft]):=ak
   generalize upd H5 t6 (.tup [.int n,.str sc,.ref a,.ref ft])=H6 at g6 e6
   have g46:=g5.trans g6
   have hl6:=g46 _ _ hl4
   refine ⟨l,_,_,rfl,rfl,hl6,by omega,?_⟩
   have t7:TSame H6 (upd H6 l (.lst (zs++[.ref t6]))):=TSame.lst hl6
   refine ⟨aL hl (g4.trans g46) _,(t4.trans g46.t).trans t7,by rw [aC nlr.symm]; exact g46 _ _ hr4,_,_,_,rfl,ak,?_⟩
   rw [etk]
   refine dO (Paired.mapP hzs fun _ _ z=>z.mono (g46.t.trans t7)) (.cons ?_ .nil)
   refine ⟨t6,a,ft,fx,rfl,t7 _ _ e6,t7 _ _ (g46 _ _ k2),t7 _ _ (g6 _ _ hft),?_⟩
   have efs:shT (p0++[last]) bs=(p0++[last])::bs.map fun c=>p0++[dB last c]:=by
    rw [qC]
    congr 1
    exact Qq fun b _=>by rw [lB]
   show phsR _ (shT (p0++[last]) bs) fx
   rw [efs]
   exact Paired.mapP hfx fun _ _ z=>let ⟨c,e,h⟩:=z; ⟨c,e,t7 _ _ (g6 _ _ h)⟩
 ·rintro σ' H4 ⟨g4,t4,hr4,zs,u2,u3,rfl,hl4,hzs⟩
  have xl:xs.length=(ordP [0] fo).length:=(Paired.length hxs).symm
  rw [xl,Oa,<- fH] at hzs
  have zl:zs.length<=45:=by
   have h1:=Paired.length hzs
   have h2:=(kE (ordP [0] fo)).length_le
   rw [Ng,Ng,gC,<- fH] at h2
   omega
  have tl:=Paired.length hzs
  have hN:Paired (NTup H4) zs ((tlsF fo [0]).map (·.1)):=by
   have all:∀ {ts:List Tl} {zs:List V},Paired (tpR H4) ts zs->Paired (NTup H4) zs (ts.map (·.1)):=by
    intro ts zs r
    induction r with
    | nil=>exact .nil
    | cons h t ih =>
     obtain ⟨a,pp,ft,xs,e,h1,_⟩:=h
     exact .cons ⟨a,_,e,h1⟩ ih
   exact all hzs
  refine ⟨_,rfl,l,zs,_,rfl,SqL.of hl4,hN,Kv hD.nd,by rw [Ng]; omega,fun r2 js hr2 hp hs=>?_⟩
  have g5:=aB hr2 (.lst (js.map fun i=>zs.getD i .non))
  have jl:∀ j∈js,j<(tlsF fo [0]).length:=fun j hj=>by
   have:=Qt.mp (hp.mem_iff.mp hj)
   rwa [Ng] at this
  refine q r2 (js.map fun i=>(tlsF fo [0]).getD i tl0) _ _ (g4.trans g5) (g4.free hr2) ak (Paired.mapP (oA tl0 V.non hzs jl) fun _ _ z=>z.mono g5.t) ?_ ?_
  ·have p2:=hp.map fun i=>(tlsF fo [0]).getD i tl0
   rw [Ng,range_getD] at p2
   exact p2
  ·rw [Pq]
   have e:(js.map fun i=>((tlsF fo [0]).map (·.1)).getD i 0)=js.map ((fun t:Tl=>t.1)∘fun i=>(tlsF fo [0]).getD i tl0):=Qq fun i _=>getD_map (fun t:Tl=>t.1) tl0 (tlsF fo [0]) i
   rw [<- e]
   exact hs
end
theorem vd (pl:List Int):∀ (ts:List Tl) (B:Best),(aW B).Nodup->(aW (ts.foldl (jG pl) B)).Nodup
 | [],_,h=>h
 | t::ts,B,h=>by
  rw [QJ]
  refine vd pl ts _ ?_
  show (aW (t.2.2.2.foldl (cV (bF t.2.1 t.2.2.1 pl) t.1) B)).Nodup
  generalize t.2.2.2=fs
  induction fs generalizing B with
  | nil=>exact h
  | cons k r ih =>
   rw [QJ]
   refine ih _ ?_
   unfold cV
   split
   ·exact wu _ _ _ h
   ·exact h
theorem Aw {ns:List Int} {ws:List Str} {f:F} (h:DocQ ns ws f 12):∀ t∈tlsF f [0],t.2.1∈jo:=fun t ht=>by
 rw [fH] at ht
 obtain ⟨⟨xp,xt⟩,hx,hq⟩:=Qn.mp ht
 have hok:=h.ok _ (lY hx)
 cases xt with
 | say m zs=>cases hq
 | part m i=>cases hq
 | tell m sc ph bs ms =>
  have e:=Nq.mp (show t∈[(m,sc,xp,shT ph bs)] from hq)
  rw [e]
  exact (show TlOk ws sc ph bs ms from hok).1
theorem yq {ns:List Int} {ws:List Str} {f:F} {pl:List Int} {ts:List Tl} (h:DocQ ns ws f 12) (p:ts.Perm (tlsF f [0])) (srt:(ts.map (·.1)).Pairwise (·<=·)):Alike (mapT (·.2) (fu pl ts)) (winD pl (tlsF f [0])) where
 nt:=by rw [kj]; exact vd pl ts [] Qu
 nu:=by unfold winD; rw [FZ]; exact vd pl _ [] Qu
 same:=fun k=>by
  unfold winD
  rw [gJ,lZ]
  exact Ci (fun t ht=>(h.tls.ok t ht).1) p srt k
theorem TlsOk.perm {ts us:List Tl} (h:TlsOk us) (p:ts.Perm us):TlsOk ts:=⟨by rw [p.length_eq]; exact h.few,fun t ht=>h.ok t (p.mem_iff.mp ht)⟩
section
variable {P:Program} {w:World} {K:Nh} {mg:Str->Option Value} {base:Heap} {f:Addr} {fd:FuncData} {CT:Addr}
end
theorem Ai {H:Hp}:∀ {L:List (List Str)} {xs:List V},phsR H L xs->L.length=xs.length
 | _,_,.nil=>rfl
 | _,_,.cons _ r=>by rw [Oj,Oj,Ai r]
theorem zQ {H:Hp}:∀ {L:List (List Str)} {xs:List V},phsR H L xs->∀ {i:Nat} {v:V},xs[i]?=some v->∃ l,L[i]?=some l/\phR H l v
 | _,_,.nil,i,v,h=>by rw [Q0] at h; cases h
 | _,_,.cons a r,0,v,h=>⟨_,rfl,by cases h; exact a⟩
 | _,_,.cons a r,i+1,v,h=>zQ r h
def stands (W:List Str) (at':Nat) (l:List Str):Bool:=decide ((W.drop at').take l.length=l)
def dueN (W:List Str) (at':Nat) (L:List (List Str)):Nat:=L.foldl (fun m l=>if stands W at' l=true then (if l.length>m then l.length else m) else m) 0
section
variable {P:Program} {w:World} {K:Nh} {mg:Str->Option Value} {base:Heap} {f:Addr} {fd:FuncData}
end
structure MachOk (CM:Addr) (MR:Hp->List (List Str)->Addr->Prop):Prop where
 mono:∀ {H H' L m},MR H L m->Same H H'->MR H' L m
 ins:∀ {H L m},MR H L m->∃ dx fs,H m=some (.ins CM dx fs)/\fs.lookup ("longest":Str)=none
def Eo (CM:Addr) (MR:Hp->List (List Str)->Addr->Prop):Sp:=fun vs H Q _=>∃ (x l dx:Addr) (H0:Hp) (xs:List V) (L:List (List Str)),vs=[.ref x,.ref l]/\H=upd (upd H0 dx (.own x)) x (.ins CM dx [])/\H0 x=none/\H0 dx=none/\dx≠x/\H0 l=some (.lst xs)/\phsR H0 L xs/\L.length<=300/\(∀ l∈L,1<=l.length/\l.length<=12/\∀ z∈l,Wd z) /\
 ∀ H' B,Same H0 H'->Same B H'->(∀ b o,B b=some o->H0 b=none∨∃ ys,o=.tup ys)->MR B L x->Q .non H'
def Fy (MR:Hp->List (List Str)->Addr->Prop):Sp:=fun vs H Q _=>∃ (m wd:Addr) (W:List Str) (L:List (List Str)) (k:Nat),vs=[.ref m,.ref wd,.int k]/\MR H L m/\H wd=some (.tup (W.map V.str))/\W.length<=200/\k<=W.length/\(∀ z∈W,Wd z) /\
 ∀ H',Same H H'->Q (.int (dueN W k L:Nat)) H'
abbrev jt:Stmt:=inClass (top 15) 0
abbrev jA:Stmt:=inClass (top 15) 1
def newP (H0 H:Hp):Hp:=fun b=>match H0 b with
 | none=>H b
 | some (.tup ys)=>some (.tup ys)
 | some _=>none
theorem m9 {H0 H:Hp} {b:Addr} (h:H0 b=none):newP H0 H b=H b:=by unfold newP; rw [h]
theorem BJ {H0 H:Hp} (g:Same H0 H):Same (newP H0 H) H:=fun b o q=>by
 unfold newP at q
 split at q
 ·exact q
 ·rename_i ys e
  cases q
  exact g _ _ e
 ·cases q
theorem Hh {H0 H:Hp}:∀ b o,newP H0 H b=some o->H0 b=none∨∃ ys,o=.tup ys:=fun b o q=>by
 unfold newP at q
 split at q
 ·rename_i e
  exact .inl e
 ·cases q
  exact .inr ⟨_,rfl⟩
 ·cases q
structure TrAt (H:Hp) (st:Addr) (as:List Addr) (T:Trie):Prop where
 lst:H st=some (.lst (as.map V.ref))
 dks:Paired (fun a kvs=>H a=some (.dK kvs)) as T
 nd:as.Nodup
theorem uH {F:Addr->List (Key×V)->Prop}:∀ {as:List Addr} {T:Trie} {i:Nat} {k:List (Key×V)},Paired F as T->T[i]?=some k->∃ a,as[i]?=some a/\F a k
 | _,_,_,_,.nil,e=>by simp at e
 | _,_,0,_,.cons h _,e=>by simp at e; subst e; exact ⟨_,rfl,h⟩
 | _,_,i+1,k,.cons _ t,e=>by
  simp only [Ql] at e
  obtain ⟨b,e',q⟩:=uH t e
  exact ⟨b,by simpa using e',q⟩
theorem oV {F:Addr->List (Key×V)->Prop}:∀ {as:List Addr} {T:Trie} {a:Addr},Paired F as T->a∈as->∃ k,F a k
 | _,_,_,.nil,e=>nomatch e
 | _,_,a,.cons h t,e=>by
  rcases NT.mp e with e | e
  ·subst e; exact ⟨_,h⟩
  ·exact oV t e
theorem mq {H:Hp} {a:Addr} {o:HO}:∀ {as:List Addr} {T:Trie},Paired (fun a kvs=>H a=some (.dK kvs)) as T->a∉as->Paired (fun b kvs=>upd H a o b=some (.dK kvs)) as T
 | _,_,.nil,_=>.nil
 | _,_,.cons h t,n=>.cons (by rw [aC (fun e=>n (by rw [e]; exact Ny))]; exact h) (mq t fun m=>n (Nt _ m))
theorem zA {H:Hp} {a:Addr} {k':List (Key×V)}:∀ {as:List Addr} {T:Trie} {i:Nat},Paired (fun a kvs=>H a=some (.dK kvs)) as T->as.Nodup->as[i]?=some a->Paired (fun b kvs=>upd H a (.dK k') b=some (.dK kvs)) as (T.set i k')
 | _,_,_,.nil,_,e=>by simp at e
 | b::r,_,0,.cons h t,nd,e=>by
  have e:b=a:=by simpa using e
  subst e
  exact .cons ak (mq t (Od.mp nd).1)
 | b::r,_,i+1,.cons h t,nd,e=>by
  have e:r[i]?=some a:=by simpa using e
  have m:=Nv e
  have n:=(Od.mp nd).1
  exact .cons (by rw [aC (fun z=>n (by rw [z]; exact m))]; exact h) (zA t (Od.mp nd).2 e)
theorem TrAt.mono {H H':Hp} {st:Addr} {as:List Addr} {T:Trie} (h:TrAt H st as T) (g:Same H H'):TrAt H' st as T:=⟨g _ _ h.lst,Paired.mapP h.dks fun _ _ z=>g _ _ z,h.nd⟩
theorem TrAt.ne {H:Hp} {st:Addr} {as:List Addr} {T:Trie} (h:TrAt H st as T):st∉as:=fun m=>by
 obtain ⟨k,e⟩:=oV h.dks m
 rw [h.lst] at e
 cases e
theorem TrAt.len {H:Hp} {st:Addr} {as:List Addr} {T:Trie} (h:TrAt H st as T):as.length=T.length:=Paired.length h.dks
theorem TrAt.out {H:Hp} {st a:Addr} {as:List Addr} {T:Trie} {o:HO} (h:TrAt H st as T) (n1:a≠st) (n2:a∉as):TrAt (upd H a o) st as T:=⟨by rw [aC n1.symm]; exact h.lst,mq h.dks n2,h.nd⟩
theorem TrAt.add {H:Hp} {st a d:Addr} {as:List Addr} {T:Trie} {s:Nat} {k':List (Key×V)} (h:TrAt H st as T) (ha:as[s]?=some a) (hd:upd H a (.dK k') d=none) :
  TrAt (upd (upd (upd H a (.dK k')) d (.dK [])) st (.lst (as.map V.ref++[.ref d]))) st (as++[d]) (T.set s k'++[[]]):=by
 have p1:=zA (k':=k') h.dks h.nd ha
 have nd:d∉as:=fun m=>by
  obtain ⟨k,e⟩:=oV p1 m
  rw [hd] at e
  cases e
 have nst:st≠a:=fun e=>h.ne (by rw [e]; exact Nv ha)
 have nds:d≠st:=fun e=>by
  rw [e,aC nst,h.lst] at hd
  cases hd
 refine ⟨by rw [ak,NK] <;> rfl,?_,?_⟩
 ·exact Paired.snoc (mq (mq p1 nd) h.ne) (by rw [aC nds,ak])
 ·rw [O4]
  exact ⟨h.nd,by simp,fun x hx y hy e=>nd (by rw [<- Nq.mp hy,<- e]; exact hx)⟩
theorem vK {B H:Hp} {a:Addr} {o:HO} (g:Same B H) (h:H a=some o):Same (upd B a o) H:=fun b u q=>by
 by_cases e:b=a
 ·subst e
  rw [ak] at q
  cases q
  exact h
 ·rw [aC e] at q
  exact g _ _ q
theorem none_of {B H:Hp} {a:Addr} (g:Same B H) (h:H a=none):B a=none:=by
 cases e:B a with
 | none=>rfl
 | some o=>rw [g _ _ e] at h; cases h
def spSB:Sp:=fun vs H Q _=>∃ (st p:Addr) (B:Hp) (as:List Addr) (T:Trie) (ps:List (List Str)) (l:List Str),vs=[.ref st,.ref p]/\Same B H/\B st=none/\(∀ a∈as,B a=none)/\TrAt H st as T/\TrI T ps/\B p=some (.tup (l.map V.str))/\l.length<=12/\ps.length<=4000 /\
 ∀ H' as' T' e s,Same B H'->(∀ a∈as',B a=none)->TrAt H' st as' T'->TrI T' (ps++e)->(ps++e)[s]?=some l->e.length<=l.length->Q (.int (s:Nat)) H'
section
variable {P:Program} {w:World} {K:Nh} {mg:Str->Option Value} {base:Heap} {f:Addr} {fd:FuncData} {CM:Addr}
theorem scSB:FnScope ["steps","phrase","state","word"] ["steps","phrase"] (aA cW):=⟨rfl,rfl,rfl,by decide +kernel,rfl,by decide +kernel,by decide +kernel⟩
set_option maxHeartbeats 4000000 in
theorem Lp (F:Fun K "state_behind" "state_behind" cW f fd) (T:Nm mg):FnOk P w K mg base CX0 1 f fd ["steps","phrase"] spSB:=by
 refine F.ok scSB (fun vs H Q E h=>?_) (fun cdv A outer s H vs Q E hr h=>?_)
 ·obtain ⟨st,p,B,as,T0,ps,l,rfl,_⟩:=h
  rfl
 obtain ⟨st,p,B,as,T0,ps,l,rfl,gB,nst,nas,ht,hti,hp,hl,hT,q⟩:=h
 have hu1:(A.deeper (PyProof.Rows.envOfC "state_behind" (aA cW) s.heap.objs.size f cdv)).units+1<cLine:=by have:=hr.un; omega
 refine ⟨_,ao (aF (i:=2) scSB.nd rfl (Or.inl rfl) au)
  (ao (cj PassesOwn.never rfl (uT (pv 1)) (aK (i:=3) scSB.nd rfl (Or.inl rfl))
   (ao (bJ (gG (d8 hu1 (pv 3) (aJ aZ (pv 0) (pv 2) (fun _ _=>rfl))))
    (ao (fJ hu1 (aJ aZ (pv 0) (pv 2) (fun _ _=>rfl)) (pv 3) (aH bB rfl T.len Ou (aj (pv 0) aq)) rfl)
    (aD (cC (dZ Ob Oh Oi bO (pv 0) (aj iz aq))))) aR)
   (aD (aF (i:=2) scSB.nd rfl (Or.inl rfl) (cH hu1 (aJ aZ (pv 0) (pv 2) (fun _ _=>rfl)) (pv 3) (fun _ _=>rfl))))))
  (aD (aU (pv 2)))),?_⟩
 have hb:=big
 refine ⟨_,rfl,p,rfl,⟨_,SqT.of (gB _ _ hp)⟩,?_⟩
 refine pB (K:=K) (a:=p) (xs:=l.map V.str) (fun i σ' H'=>∃ (as:List Addr) (T:Trie) (e:List (List Str)) (s:Nat) (u:Option V),Same B H'/\(∀ a∈as,B a=none)/\TrAt H' st as T/\TrI T (ps++e)/\(ps++e)[s]?=some (l.take i)/\e.length<=i/\σ'=[some (.ref st),some (.ref p),some (.int (s:Nat)),u]) ?_ (fun i σ' H' _ h=>by obtain ⟨_,_,_,_,_,g,_⟩:=h; exact SqT.of (g _ _ hp)) ?_ ?_
 ·exact ⟨as,T0,[],0,none,gB,nas,ht,by rw [N6]; exact hti,by rw [N6]; exact hti.zero,Nu _,rfl⟩
 ·rintro i y σ' H1 hi ⟨as,T1,e,s,u,g,na,ht,ti,hs,el,rfl⟩
  obtain ⟨w,ew,rfl⟩:∃ w,l[i]?=some w/\y=.str w:=by
   rw [NP] at hi
   obtain ⟨w,a,b⟩:=UW.mp hi
   exact ⟨w,a,b.symm⟩
  have il:=(Nj.mp ew).1
  have etk:l.take (i+1)=l.take i++[w]:=by rw [Oe,ew]; rfl
  have sl:=(Nj.mp hs).1
  have lenT:T1.length=ps.length+e.length:=by rw [ti.len,Np]
  have aslen:=ht.len
  obtain ⟨kvs,hk⟩:∃ kvs,T1[s]?=some kvs:=⟨T1[s]'(by rw [ti.len]; exact sl),Nr _⟩
  obtain ⟨a,ea,ha⟩:=uH ht.dks hk
  have eat:atI (as.map V.ref) ((s:Nat):Int)=some (.ref a):=dh (by rw [NP,ea]; rfl)
  refine ⟨_,rfl,_,rfl,_,rfl,st,_,_,_,rfl,rfl,SqL.of ht.lst,eat,a,_,rfl,DGet.k (k:=.inr w) ha,_,rfl,?_⟩
  refine ite2 (fun z=>?_) (fun z=>?_)
  ·have hn:valV kvs (.inr w)=none:=by
    cases e:valV kvs (.inr w) with
    | none=>rfl
    | some v=>rw [e] at z; cases z
   have ksz:=ti.sz kvs (Nv hk)
   refine ⟨_,rfl,st,_,rfl,.inl (SqL.of ht.lst),_,rfl,_,rfl,st,_,_,_,rfl,rfl,SqL.of ht.lst,eat,_,rfl,a,_,rfl,DPut.k (k:=.inr w) ha (by omega),?_⟩
   have em:((as.map V.ref).length:Nat)=T1.length:=by rw [Ng,aslen]
   rw [em]
   have naa:B a=none:=na a (Nv ea)
   have g2:Same B (upd H1 a (.dK (putK kvs (.inr w) (.int T1.length)))):=aL naa g _
   have nsa:st≠a:=fun e=>ht.ne (by rw [e]; exact Nv ea)
   have ty2:upd H1 a (.dK (putK kvs (.inr w) (.int T1.length))) st=some (.lst (as.map V.ref)):=by rw [aC nsa]; exact ht.lst
   refine ⟨_,rfl,.inl ⟨rfl,_,SqL.of ty2⟩,fun d hd=>?_⟩
   have nda:d≠st:=fun e=>by
    rw [e,aC nsa,ht.lst] at hd
    cases hd
   refine ⟨st,_,_,rfl,rfl,by rw [aC nda.symm,aC nsa]; exact ht.lst,by rw [Ng]; omega,?_⟩
   have h3:=ht.add ea hd
   have g3:Same B (upd (upd (upd H1 a (.dK (putK kvs (.inr w) (.int T1.length)))) d (.dK [])) st (.lst (as.map V.ref++[.ref d]))):=aL nst (aL (none_of g2 hd) g2 _) _
   generalize upd (upd (upd H1 a (.dK (putK kvs (.inr w) (.int T1.length)))) d (.dK [])) st (.lst (as.map V.ref++[.ref d]))=H3 at h3 g3
   have ti3:=ti.add hk hs hn
   have sT:s<T1.length:=(Nj.mp hk).1
   have hk3:(T1.set s (putK kvs (.inr w) (.int T1.length))++[[]])[s]?=some (putK kvs (.inr w) (.int T1.length)):=by
    rw [Ox (by rw [R7]; exact sT),Wj,if_pos rfl,if_pos sT]
   obtain ⟨a3,ea3,ha3⟩:=uH h3.dks hk3
   have hv:valV (putK kvs (.inr w) (.int T1.length)) (.inr w)=some (.int T1.length):=by rw [dG,if_pos rfl]
   have dg:=DGet.k (k:=.inr w) ha3
   rw [hv] at dg
   refine ⟨_,rfl,_,rfl,st,_,_,_,rfl,rfl,SqL.of h3.lst,dh (by rw [NP,ea3]; rfl),_,rfl,a3,_,rfl,dg,?_⟩
   refine ⟨as++[d],_,e++[l.take i++[w]],T1.length,_,g3,fun b hb=>?_,h3,by rw [<- PN]; exact ti3,?_,by rw [Np]; exact Ux el,rfl⟩
   ·rcases Nz.mp hb with m | m
    ·exact na b m
    ·rw [Nq.mp m]; exact none_of g2 hd
   ·rw [<- PN,etk,ti.len]
    simp
  ·obtain ⟨v,hv⟩:∃ v,valV kvs (.inr w)=some v:=by
    cases e:valV kvs (.inr w) with
    | none=>rw [e] at z; exact absurd rfl z
    | some v=>exact ⟨v,rfl⟩
   obtain ⟨n,rfl,hn⟩:=ti.yes hk hs hv
   have dg:=DGet.k (k:=.inr w) ha
   rw [hv] at dg
   refine ⟨_,rfl,_,rfl,st,_,_,_,rfl,rfl,SqL.of ht.lst,eat,_,rfl,a,_,rfl,dg,?_⟩
   exact ⟨as,T1,e,n,_,g,na,ht,ti,by rw [etk]; exact hn,Rz el,rfl⟩
 ·rintro σ' H1 ⟨as,T1,e,s,u,g,na,ht,ti,hs,el,rfl⟩
  rw [Ng] at hs el
  rw [Oa] at hs
  exact ⟨_,rfl,q H1 as T1 e s g na ht ti hs el⟩
end
def MR (CM:Addr) (H:Hp) (L:List (List Str)) (m:Addr):Prop:=∃ (dx st en:Addr) (as:List Addr) (T:Trie) (ps:List (List Str)) (E:List (Key×V)),H m=some (.ins CM dx [("steps",.ref st),("ends",.ref en)])/\TrAt H st as T/\TrI T ps/\H en=some (.dK E)/\EndsOk E ps L
theorem Ec (CM:Addr):MachOk CM (MR CM) where
 mono:=fun ⟨dx,st,en,as,T,ps,E,h1,h2,h3,h4,h5⟩ g=>⟨dx,st,en,as,T,ps,E,g _ _ h1,h2.mono g,h3,g _ _ h4,h5⟩
 ins:=fun ⟨dx,st,en,as,T,ps,E,h1,_⟩=>⟨dx,_,h1,by rfl⟩
section
variable {P:Program} {w:World} {K:Nh} {mg:Str->Option Value} {base:Heap} {f:Addr} {fd:FuncData} {CM:Addr}
theorem scMI:FnScope ["self","phrases","phrase"] ["self","phrases"] (aA jt):=⟨rfl,rfl,rfl,by decide +kernel,rfl,by decide +kernel,by decide +kernel⟩
set_option maxHeartbeats 4000000 in
theorem Dg (F:Fun K "__init__" "Machine.__init__" jt f fd) (GS:Def P w K mg base CX0 1 "state_behind" ["steps","phrase"] spSB) (c:Cls K CM) (n1:NoAttr K CM "steps") (n2:NoAttr K CM "ends"):FnOk P w K mg base CX0 20 f fd ["self","phrases"] (Eo CM (MR CM)):=by
 refine F.ok scMI (fun vs H Q E h=>?_) (fun cdv A outer s H vs Q E hr h=>?_)
 ·obtain ⟨x,l,dx,H0,xs,L,rfl,_⟩:=h
  rfl
 obtain ⟨x,l,dx,H0,xs,L,rfl,rfl,hx,hdx,ne,hl,hL,hLl,hok,q⟩:=h
 have hu1:(A.deeper (PyProof.Rows.envOfC "Machine.__init__" (aA jt) s.heap.objs.size f cdv)).units+1<cLine:=by have:=hr.un; omega
 refine ⟨_,ao (Ds (pv 0) (cD (aj iz aq)) (by with_unfolding_all rfl))
  (ao (Ds (pv 0) iz (by with_unfolding_all rfl))
  (aD (cj PassesOwn.never rfl (cu (pv 1)) (aK (i:=2) scMI.nd rfl (Or.inl rfl))
   (aD (fJ hu1 (qY (pv 0) rfl) (aX GS (hr.mono (by decide)) (aj (qY (pv 0) rfl) (aj (pv 2) aq))) jf rfl))))),?_⟩
 have hb:=big
 have gd:Same H0 (upd H0 dx (.own x)):=aB hdx _
 have xd:upd H0 dx (.own x) x=none:=by rw [aC (Ne.symm ne)]; exact hx
 generalize upd H0 dx (.own x)=Bd at gd xd
 have gx:Same Bd (upd Bd x (.ins CM dx [])):=aB xd _
 refine fun d hd=>⟨(by show 1<=sizeLine; decide),fun st hst=>?_⟩
 have bd:=none_of gx hd
 have nxd:x≠d:=fun e=>by rw [<- e,ak] at hd; cases hd
 have g2:Same Bd (upd (upd Bd x (.ins CM dx [])) d (.dK [])):=aL bd gx _
 have bst:=none_of g2 hst
 have nxs:x≠st:=fun e=>by rw [<- e,aC nxd,ak] at hst; cases hst
 have nds:d≠st:=fun e=>by rw [<- e,ak] at hst; cases hst
 have g3:Same Bd (upd (upd (upd Bd x (.ins CM dx [])) d (.dK [])) st (.lst [.ref d])):=aL bst g2 _
 have h3x:upd (upd (upd Bd x (.ins CM dx [])) d (.dK [])) st (.lst [.ref d]) x=some (.ins CM dx []):=by rw [aC nxs,aC nxd,ak]
 have h3d:upd (upd (upd Bd x (.ins CM dx [])) d (.dK [])) st (.lst [.ref d]) d=some (.dK []):=by rw [aC nds,ak]
 have h3s:upd (upd (upd Bd x (.ins CM dx [])) d (.dK [])) st (.lst [.ref d]) st=some (.lst [.ref d]):=ak
 generalize upd (upd (upd Bd x (.ins CM dx [])) d (.dK [])) st (.lst [.ref d])=H3 at g3 h3x h3d h3s
 refine ⟨_,rfl,x,CM,dx,[],rfl,h3x,c,n1,by decide,?_⟩
 refine fun en hen=>?_
 have g4:Same Bd (upd H3 x (.ins CM dx (putF "steps" (.ref st) []))):=aL xd g3 _
 have ben:=none_of g4 hen
 have nxe:x≠en:=fun e=>by rw [<- e,ak] at hen; cases hen
 have nde:d≠en:=fun e=>by rw [<- e,aC nxd.symm,h3d] at hen; cases hen
 have nse:st≠en:=fun e=>by rw [<- e,aC nxs.symm,h3s] at hen; cases hen
 refine ⟨_,rfl,x,CM,dx,[("steps",.ref st)],rfl,by rw [aC nxe,ak] <;> rfl,c,n2,(by show 1<1000; decide),?_⟩
 have g5:Same Bd (upd (upd (upd H3 x (.ins CM dx (putF "steps" (.ref st) []))) en (.dK [])) x (.ins CM dx (putF "ends" (.ref en) [("steps",.ref st)]))):=aL xd (aL ben g4 _) _
 have h5x:upd (upd (upd H3 x (.ins CM dx (putF "steps" (.ref st) []))) en (.dK [])) x (.ins CM dx (putF "ends" (.ref en) [("steps",.ref st)])) x=some (.ins CM dx [("steps",.ref st),("ends",.ref en)]):=ak
 have h5e:upd (upd (upd H3 x (.ins CM dx (putF "steps" (.ref st) []))) en (.dK [])) x (.ins CM dx (putF "ends" (.ref en) [("steps",.ref st)])) en=some (.dK []):=by rw [aC nxe.symm,ak]
 have h5d:upd (upd (upd H3 x (.ins CM dx (putF "steps" (.ref st) []))) en (.dK [])) x (.ins CM dx (putF "ends" (.ref en) [("steps",.ref st)])) d=some (.dK []):=by rw [aC nxd.symm,aC nde,aC nxd.symm]; exact h3d
 have h5s:upd (upd (upd H3 x (.ins CM dx (putF "steps" (.ref st) []))) en (.dK [])) x (.ins CM dx (putF "ends" (.ref en) [("steps",.ref st)])) st=some (.lst [.ref d]):=by rw [aC nxs.symm,aC nse,aC nxs.symm]; exact h3s
 generalize upd (upd (upd H3 x (.ins CM dx (putF "steps" (.ref st) []))) en (.dK [])) x (.ins CM dx (putF "ends" (.ref en) [("steps",.ref st)]))=H5 at g5 h5x h5e h5d h5s
 have glst:∀ H',Same Bd H'->SqL K H' l xs:=fun H' g=>SqL.of (g _ _ (gd _ _ hl))
 refine ⟨_,rfl,l,rfl,⟨_,glst _ g5⟩,?_⟩
 refine cN (K:=K) (a:=l) (xs:=xs) (fun i σ' H'=>∃ (as:List Addr) (T:Trie) (ps:List (List Str)) (E:List (Key×V)) (u:Option V),Same Bd H'/\H' x=some (.ins CM dx [("steps",.ref st),("ends",.ref en)])/\H' en=some (.dK E)/\(∀ a∈as,Bd a=none)/\en∉as/\TrAt H' st as T/\TrI T ps/\EndsOk E ps (L.take i)/\ps.length<=1+12*i/\E.length<=i/\σ'=[some (.ref x),some (.ref l),u]) ?_ (fun i σ' H' _ h=>by obtain ⟨_,_,_,_,_,g,_⟩:=h; exact glst _ g) ?_ ?_
 ·refine ⟨[d],[[]],[[]],[],none,g5,h5x,h5e,fun a ha=>by rw [Nq.mp ha]; exact bd,fun m=>nde (Nq.mp m).symm,⟨h5s,.cons h5d .nil,by simp⟩,TrI.new,EndsOk.new,by decide,Nu _,rfl⟩
 ·rintro i y σ' H6 hi ⟨as,T,ps,E,u,g,hx6,he6,na,nea,ht,ti,eo,pl,El,rfl⟩
  obtain ⟨l1,el,p,ep,hp⟩:=zQ hL hi
  subst ep
  have il:i<L.length:=(Nj.mp el).1
  have bp:Bd p=some (.tup (l1.map V.str)):=gd _ _ hp
  have nxp:p≠x:=fun e=>by rw [e,xd] at bp; cases bp
  have nep:p≠en:=fun e=>by rw [e,ben] at bp; cases bp
  have nax:∀ a∈as,a≠x:=fun a ha e=>by
   obtain ⟨k,z⟩:=oV ht.dks ha
   rw [e,hx6] at z
   cases z
  have gB:Same (upd (upd Bd x (.ins CM dx [("steps",.ref st),("ends",.ref en)])) en (.dK E)) H6:=vK (vK g hx6) he6
  refine ⟨_,rfl,x,CM,dx,_,_,rfl,hx6,c,n2,rfl,_,rfl,x,CM,dx,_,_,rfl,hx6,c,n1,rfl,_,rfl,st,p,_,as,T,ps,l1,rfl,gB,by rw [aC nse,aC nxs.symm]; exact bst,fun a ha=>by rw [aC (fun e=>nea (by rw [<- e]; exact ha)),aC (nax a ha)]; exact na a ha,ht,ti,by rw [aC nep,aC nxp]; exact bp,(hok l1 (Nv el)).2.1,by omega,fun H7 as7 T7 e7 s7 g7 na7 ht7 ti7 hs7 el7=>?_⟩
  have he7:H7 en=some (.dK E):=g7 _ _ ak
  have hx7:H7 x=some (.ins CM dx [("steps",.ref st),("ends",.ref en)]):=g7 _ _ (by rw [aC nxe,ak])
  have gb7:Same Bd H7:=(aL ben (aB xd _) _).trans g7
  have ne7:en∉as7:=fun m=>by
   have:=na7 en m
   rw [ak] at this
   cases this
  refine ⟨en,_,rfl,DPut.k (k:=.inl (s7:Int)) he7 (by omega),?_⟩
  have l12:=(hok l1 (Nv el)).2.1
  refine ⟨as7,T7,ps++e7,_,_,aL ben gb7 _,by rw [aC nxe]; exact hx7,ak,fun a ha=>?_,ne7,ht7.out nse.symm ne7,ti7,?_,by rw [Np]; omega,?_,rfl⟩
  ·exact none_of (aL ben (aB xd _) _) (na7 a ha)
  ·rw [Oe,el]
   exact eo.add ti7 hs7
  ·have:=dw E (.inl (s7:Int)) (.bl true)
   omega
 ·rintro σ' H6 ⟨as,T,ps,E,u,g,hx6,he6,na,nea,ht,ti,eo,pl,El,rfl⟩
  rw [<- Ai hL,Oa] at eo
  have g06:=gd.trans g
  have n0:∀ {a},Bd a=none->H0 a=none:=fun h=>none_of gd h
  refine q H6 _ g06 (BJ g06) Hh ⟨dx,st,en,as,T,ps,E,by rw [m9 hx]; exact hx6,⟨by rw [m9 (n0 bst)]; exact ht.lst,?_,ht.nd⟩,ti,by rw [m9 (n0 ben)]; exact he6,eo⟩
  have all:∀ {as:List Addr} {T:Trie},Paired (fun a kvs=>H6 a=some (.dK kvs)) as T->(∀ a∈as,Bd a=none)->Paired (fun a kvs=>newP H0 H6 a=some (.dK kvs)) as T:=by
   intro as T r
   induction r with
   | nil=>intro _; exact .nil
   | cons h t ih=>intro hn; exact .cons (by rw [m9 (n0 (hn _ Ny))]; exact h) (ih fun a ha=>hn a (Nt _ ha))
  exact all ht.dks na
def Jz (W:List Str) (k:Nat) (L:List (List Str)) (i m:Nat):Prop:=(m=0∨∃ l∈L,stands W k l=true/\l.length=m)/\∀ l∈L,stands W k l=true->l.length<=i->l.length<=m
theorem jQ (W:List Str) (k:Nat):∀ (L:List (List Str)) (m0:Nat),(L.foldl (fun m l=>if stands W k l=true then (if l.length>m then l.length else m) else m) m0=m0∨∃ l∈L,stands W k l=true/\l.length=L.foldl (fun m l=>if stands W k l=true then (if l.length>m then l.length else m) else m) m0)/\m0<=L.foldl (fun m l=>if stands W k l=true then (if l.length>m then l.length else m) else m) m0/\∀ l∈L,stands W k l=true->l.length<=L.foldl (fun m l=>if stands W k l=true then (if l.length>m then l.length else m) else m) m0
 | [],m0=>⟨.inl rfl,Nu _,fun _ h=>nomatch h⟩
 | x::r,m0=>by
  obtain ⟨h1,h2,h3⟩:=jQ W k r (if stands W k x=true then (if x.length>m0 then x.length else m0) else m0)
  rw [QJ]
  generalize r.foldl (fun m l=>if stands W k l=true then (if l.length>m then l.length else m) else m) (if stands W k x=true then (if x.length>m0 then x.length else m0) else m0)=R at h1 h2 h3
  refine ⟨?_,?_,fun l hl hs=>?_⟩
  ·rcases h1 with e | ⟨l,hl,a,b⟩
   ·by_cases z:stands W k x=true
    ·rw [if_pos z] at e
     by_cases y:x.length>m0
     ·rw [if_pos y] at e
      exact .inr ⟨x,Ny,z,e.symm⟩
     ·rw [if_neg y] at e
      exact .inl e
    ·rw [if_neg z] at e
     exact .inl e
   ·exact .inr ⟨l,Nt _ hl,a,b⟩
  ·split at h2
   ·split at h2 <;> omega
   ·exact h2
  ·rcases NT.mp hl with e | m
   ·subst e
    rw [if_pos hs] at h2
    split at h2 <;> omega
   ·exact h3 l m hs
theorem wC {W:List Str} {k m:Nat} {L:List (List Str)} (h:Jz W k L (W.length-k) m):dueN W k L=m:=by
 obtain ⟨h1,_,h3⟩:=jQ W k L 0
 have e:dueN W k L=L.foldl (fun m l=>if stands W k l=true then (if l.length>m then l.length else m) else m) 0:=rfl
 rw [<- e] at h1 h3
 have len:∀ l,stands W k l=true->l.length<=W.length-k:=fun l hs=>by
  have:=congrArg List.length (of_decide_eq_true hs)
  rw [Oc,O9] at this
  omega
 have le1:dueN W k L<=m:=by
  rcases h1 with z | ⟨l,hl,a,b⟩
  ·omega
  ·rw [<- b]; exact h.2 l hl a (len l a)
 have le2:m<=dueN W k L:=by
  rcases h.1 with z | ⟨l,hl,a,b⟩
  ·omega
  ·rw [<- b]; exact h3 l hl a
 omega
theorem scML:FnScope ["self","words","at","state","length","place"] ["self","words","at"] (aA jA):=⟨rfl,rfl,rfl,by decide +kernel,rfl,by decide +kernel,by decide +kernel⟩
set_option maxHeartbeats 4000000 in
theorem Gq (F:Fun K "longest" "Machine.longest" jA f fd) (T:Nm mg) (c:Cls K CM) (n1:NoAttr K CM "steps") (n2:NoAttr K CM "ends"):FnOk P w K mg base CX0 20 f fd ["self","words","at"] (Fy (MR CM)):=by
 refine F.ok scML (fun vs H Q E h=>?_) (fun cdv A outer s H vs Q E hr h=>?_)
 ·obtain ⟨m,wd,W,L,k,rfl,_⟩:=h
  rfl
 obtain ⟨m,wd,W,L,k,rfl,⟨dx,st,en,as,T0,ps,E0,hm,ht,ti,he,eo⟩,hW,hWl,hk,hWd,q⟩:=h
 have hu1:(A.deeper (PyProof.Rows.envOfC "Machine.longest" (aA jA) s.heap.objs.size f cdv)).units+1<cLine:=by have:=hr.un; omega
 refine ⟨_,ao (bJ (aN qe (pv 2) au (bD _)) (aD (aU au)) aR)
  (ao (aF (i:=3) scML.nd rfl (Or.inl rfl) au)
  (ao (aF (i:=4) scML.nd rfl (Or.inl rfl) au)
  (ao (cj PassesOwn.never rfl (sS rfl T.range (aj (pv 2) (aj (aH bB rfl T.len Ou (aj (pv 1) aq)) aq))) (aK (i:=5) scML.nd rfl (Or.inl rfl))
   (ao (bJ (gG (d8 hu1 (aJ bA (pv 1) (pv 5) (fun _ _=>rfl)) (aJ aZ (qY (pv 0) rfl) (pv 3) (fun _ _=>rfl)))) (aD (aU (pv 4))) aR)
   (ao (aF (i:=3) scML.nd rfl (Or.inl rfl) (cH hu1 (aJ aZ (qY (pv 0) rfl) (pv 3) (fun _ _=>rfl)) (aJ bA (pv 1) (pv 5) (fun _ _=>rfl)) (fun _ _=>rfl)))
   (aD (bJ (gG (uY hu1 (pv 3) (qY (pv 0) rfl))) (aD (aF (i:=4) scML.nd rfl (Or.inl rfl) (aG bW (aG yL (pv 5) (pv 2)) au))) aR)))))
  (aD (aU (pv 4)))))),?_⟩
 have hb:=big
 refine ⟨_,rfl,_,_,rfl,rfl,_,rfl,?_⟩
 refine ite2 (fun z=>absurd (of_decide_eq_true z) (by omega)) (fun _=>?_)
 refine ⟨_,rfl,_,rfl,wd,_,rfl,.inr (SqT.of hW),?_⟩
 have hlW:(W.map V.str).length=W.length:=Ng _
 refine ⟨(k:Int),(((W.map V.str).length:Nat):Int),rfl,⟨by omega,by omega,by omega,by omega⟩,?_⟩
 refine gb (lo:=(k:Int)) (n:=((((W.map V.str).length:Nat):Int)-(k:Int)).toNat) (fun i σ' H'=>Same H H'/\∃ (s b:Nat) (u5:Option V),ps[s]?=some ((W.drop k).take i)/\Jz W k L i b/\σ'=[some (.ref m),some (.ref wd),some (.int (k:Nat)),some (.int (s:Nat)),some (.int (b:Nat)),u5]) ?_ ?_ ?_
 ·exact ⟨Same.refl _,0,0,none,ti.zero,⟨.inl rfl,fun l hl hs h0=>h0⟩,rfl⟩
 ·rintro i σ' H1 hi ⟨g,s,b,u5,hs,hbest,rfl⟩
  have ik:k+i<W.length:=by omega
  have ew:W[k+i]?=some W[k+i]:=Nr ik
  generalize W[k+i]=w at ew
  have etk:(W.drop k).take (i+1)=(W.drop k).take i++[w]:=by rw [Oe,Sd,ew]; rfl
  have ltk:((W.drop k).take (i+1)).length=i+1:=by rw [Oc,O9]; omega
  have ewat:atI (W.map V.str) ((k:Int)+(i:Int))=some (.str w):=by
   rw [show (k:Int)+(i:Int)=((k+i:Nat):Int) by omega]
   exact dh (by rw [NP,ew]; rfl)
  have hm1:=g _ _ hm
  have ht1:=ht.mono g
  have hW1:=SqT.of (K:=K) (g _ _ hW)
  have sl:=(Nj.mp hs).1
  obtain ⟨kvs,hkv⟩:∃ kvs,T0[s]?=some kvs:=⟨T0[s]'(by rw [ti.len]; exact sl),Nr _⟩
  obtain ⟨a,ea,ha⟩:=uH ht1.dks hkv
  have eat:atI (as.map V.ref) ((s:Nat):Int)=some (.ref a):=dh (by rw [NP,ea]; rfl)
  refine ⟨_,rfl,_,rfl,wd,_,_,_,rfl,rfl,hW1,ewat,_,rfl,m,CM,dx,_,_,rfl,hm1,c,n1,rfl,_,rfl,st,_,_,_,rfl,rfl,SqL.of ht1.lst,eat,a,_,rfl,DGet.k (k:=.inr w) ha,_,rfl,?_⟩
  refine ite2 (fun z=>?_) (fun z=>?_)
  ·have hn:valV kvs (.inr w)=none:=by
    cases e:valV kvs (.inr w) with
    | none=>rfl
    | some v=>rw [e] at z; cases z
   have nin:=ti.no hkv hs hn
   rw [<- etk] at nin
   have e:dueN W k L=b:=wC ⟨hbest.1,fun l hl hst _=>by
    by_cases li:l.length<=i
    ·exact hbest.2 l hl hst li
    ·refine absurd ?_ nin
     have el:(W.drop k).take l.length=l:=of_decide_eq_true hst
     have:(W.drop k).take (i+1)=l.take (i+1):=by
      conv=>rhs; rw [<- el,List.take_take,Qw (by omega)]
     rw [this]
     exact ti.take (eo.all l hl) (by omega)⟩
   rw [<- e]
   exact ⟨_,rfl,q H1 g⟩
  ·obtain ⟨v,hv⟩:∃ v,valV kvs (.inr w)=some v:=by
    cases e:valV kvs (.inr w) with
    | none=>rw [e] at z; exact absurd rfl z
    | some v=>exact ⟨v,rfl⟩
   obtain ⟨n,rfl,hn⟩:=ti.yes hkv hs hv
   rw [<- etk] at hn
   have dg:=DGet.k (k:=.inr w) ha
   rw [hv] at dg
   refine ⟨_,rfl,m,CM,dx,_,_,rfl,hm1,c,n1,rfl,_,rfl,st,_,_,_,rfl,rfl,SqL.of ht1.lst,eat,_,rfl,_,rfl,wd,_,_,_,rfl,rfl,hW1,ewat,a,_,rfl,dg,?_⟩
   refine ⟨_,rfl,_,rfl,m,CM,dx,_,_,rfl,hm1,c,n2,rfl,en,_,rfl,DGet.k (k:=.inl (n:Int)) (g _ _ he),_,rfl,?_⟩
   refine ite2 (fun z=>?_) (fun z=>?_)
   ·have inL:=(eo.iff hn).mp z
    refine ⟨_,rfl,_,rfl,_,_,rfl,rfl,_,_,rfl,rfl,g,n,i+1,some (.int ((k:Int)+(i:Int))),hn,⟨.inr ⟨_,inL,decide_eq_true (by rw [ltk]),ltk⟩,fun l hl hst hle=>hle⟩,?_⟩
    have ez:(k:Int)+(i:Int)-(k:Int)+1=((i+1:Nat):Int):=by omega
    show [some (V.ref m),some (V.ref wd),some (V.int (k:Nat)),some (V.int (n:Nat)),some (V.int ((k:Int)+(i:Int)-(k:Int)+1)),some (V.int ((k:Int)+(i:Int)))]=_
    rw [ez]
   ·refine ⟨g,n,b,_,hn,⟨hbest.1,fun l hl hst hle=>?_⟩,rfl⟩
    by_cases li:l.length<=i
    ·exact hbest.2 l hl hst li
    ·refine absurd ((eo.iff hn).mpr ?_) z
     have el:(W.drop k).take l.length=l:=of_decide_eq_true hst
     rw [show i+1=l.length by omega,el]
     exact hl
 ·rintro σ' H1 ⟨g,s,b,u5,hs,hbest,rfl⟩
  have e:((((W.map V.str).length:Nat):Int)-(k:Int)).toNat=W.length-k:=by omega
  rw [e] at hbest
  rw [<- wC hbest]
  exact ⟨_,rfl,q H1 g⟩
end
abbrev M3:=Int×Int×List Int
def m3R (H:Hp) (m:M3) (v:V):Prop:=∃ a p,v=.ref a/\H a=some (.tup [.int m.1,.int m.2.1,.ref p])/\H p=some (.tup (m.2.2.map V.int))
theorem m3R.mono {H H':Hp} {m:M3} {v:V} (h:m3R H m v) (g:TSame H H'):m3R H' m v:=let ⟨a,p,e,h1,h2⟩:=h; ⟨a,p,e,g _ _ h1,g _ _ h2⟩
def mb1 (T:Tab (List Int)) (W:List Str) (k:Nat):List M3:=if 0<dueN W k (aW T) then [((k:Int),((dueN W k (aW T):Nat):Int),(aQ T ((W.drop k).take (dueN W k (aW T)))).getD [])] else []
def mbD (T:Tab (List Int)) (W:List Str):Nat->Nat->List M3
 | 0,_=>[]
 | f+1,k=>if k<W.length then mb1 T W k++mbD T W f (k+max (dueN W k (aW T)) 1) else []
def mbA (T:Tab (List Int)) (W:List Str):List M3:=mbD T W W.length 0
theorem IK {T:Tab (List Int)} {W:List Str} {k:Nat} (h:W.length<=k):∀ f,mbD T W f k=[]
 | 0=>rfl
 | f+1=>if_neg (by omega)
theorem KH {T:Tab (List Int)} {W:List Str} {k:Nat} (h:0<dueN W k (aW T)):(W.drop k).take (dueN W k (aW T))∈aW T/\k+dueN W k (aW T)<=W.length:=by
 obtain ⟨h1,_⟩:=jQ W k (aW T) 0
 have e:dueN W k (aW T)=(aW T).foldl (fun m l=>if stands W k l=true then (if l.length>m then l.length else m) else m) 0:=rfl
 rw [<- e] at h1
 rcases h1 with z | ⟨l,hl,a,b⟩
 ·omega
 ·have el:(W.drop k).take l.length=l:=of_decide_eq_true a
  rw [<- b,el]
  refine ⟨hl,?_⟩
  have:=congrArg List.length el
  rw [Oc,O9] at this
  omega
def spMB (CM:Addr):Sp:=fun vs H Q _=>∃ (m d wd:Addr) (T:Tab (List Int)) (kvs:List (List Key×V)) (W:List Str),vs=[.ref m,.ref d,.ref wd]/\MR CM H (aW T) m/\H d=some (.dT kvs)/\tabR wnR H T kvs/\H wd=some (.tup (W.map V.str))/\W.length<=200/\(∀ z∈W,Wd z) /\
 ∀ r xs H',Same H H'->H r=none->H' r=some (.lst xs)->Paired (m3R H') (mbA T W) xs->Q (.ref r) H'
section
variable {P:Program} {w:World} {K:Nh} {mg:Str->Option Value} {base:Heap} {f:Addr} {fd:FuncData} {CM:Addr}
theorem scMB:FnScope ["machine","told","words","found","at","length"] ["machine","told","words"] (aA eY):=⟨rfl,rfl,rfl,by decide +kernel,rfl,by decide +kernel,by decide +kernel⟩
set_option maxHeartbeats 8000000 in
theorem Lq {fL:Addr} {fdL:FuncData} (F:Fun K "marks_by" "marks_by" eY f fd) (T:Nm mg) (c:Cls K CM) (hm:Meth K CM "longest" fL) (FL:FnOk P w K mg base CX0 20 fL fdL ["self","words","at"] (Fy (MR CM))) (bL:Binds K fdL ["self","words","at"] []):FnOk P w K mg base CX0 21 f fd ["machine","told","words"] (spMB CM):=by
 refine F.ok scMB (fun vs H Q E h=>?_) (fun cdv A outer s H vs Q E hr h=>?_)
 ·obtain ⟨m,d,wd,T,kvs,W,rfl,_⟩:=h
  rfl
 obtain ⟨m,d,wd,TT,kvs,W,rfl,hM,hd,hT,hW,hWl,hWd,q⟩:=h
 have hu1:(A.deeper (PyProof.Rows.envOfC "marks_by" (aA eY) s.heap.objs.size f cdv)).units+1<cLine:=by have:=hr.un; omega
 refine ⟨_,ao (aF (i:=3) scMB.nd rfl (Or.inl rfl) (cD aq))
  (ao (aF (i:=4) scMB.nd rfl (Or.inl rfl) au)
  (ao (qG PassesOwn.never (aN qe (pv 4) (aH bB rfl T.len Ou (aj (pv 2) aq)) (bD _))
   (ao (aF (i:=5) scMB.nd rfl (Or.inl rfl) (IV (pv 0) c hm FL hr bL .nil zp (aj (pv 2) (aj (pv 4) aq))))
   (ao (bJ (aN uh (pv 5) au (bD _)) (aD (cC (dZ Ob Oh Oi bO (pv 3) (aj (bh (aj (pv 4) (aj (pv 5) (aj (cH hu1 (pv 1) (cM o7 (pv 2) (bY (pv 4)) (bY (aG bW (pv 4) (pv 5)))) (fun _ _=>rfl)) aq)))) aq)))) aR)
   (aD (aF (i:=4) scMB.nd rfl (Or.inl rfl) (aG bW (pv 4) (aH (sU rfl) rfl T.mx S7 (aj (pv 5) (aj au aq)))))))))
  (aD (aU (pv 3))))),?_⟩
 have hb:=big
 have MO:=Ec CM
 have hlW:(W.map V.str).length=W.length:=Ng _
 refine ⟨(by show 0<=sizeLine; decide),fun fl hfl=>?_⟩
 have g0:=aB hfl (.lst [])
 refine jJ (fun n σ2 H2=>∃ (k:Nat) (acc:List M3) (zs:List V) (u5:Option V),Same H H2/\H2 fl=some (.lst zs)/\Paired (m3R H2) acc zs/\acc++mbD TT W n k=mbA TT W/\W.length<=n+k/\acc.length<=k/\σ2=[some (.ref m),some (.ref d),some (.ref wd),some (.ref fl),some (.int (k:Nat)),u5]) (fun σ2 H2=>∃ (zs:List V) (u4 u5:Option V),Same H H2/\H2 fl=some (.lst zs)/\Paired (m3R H2) (mbA TT W) zs/\σ2=[some (.ref m),some (.ref d),some (.ref wd),some (.ref fl),u4,u5]) ⟨W.length,0,[],[],none,g0,ak,.nil,rfl,Nu _,Nu _,rfl⟩ ?_ ?_
 ·rintro R hR n σ2 H2 ⟨k,acc,zs,u5,g,hl2,hzs,hacc,hn,hak,rfl⟩
  refine ⟨_,rfl,_,rfl,wd,_,rfl,.inr (SqT.of (g _ _ hW)),_,_,rfl,rfl,_,rfl,?_⟩
  refine ite2 (fun z=>?_) (fun z=>?_)
  ·have kl:k<W.length:=by
    have:=of_decide_eq_true z
    rw [hlW] at this
    omega
   obtain ⟨n',rfl⟩:∃ n',n=n'+1:=⟨n-1,by omega⟩
   have eD:mbD TT W (n'+1) k=mb1 TT W k++mbD TT W n' (k+max (dueN W k (aW TT)) 1):=if_pos kl
   rw [eD] at hacc
   refine ⟨fun σ' H'=>∃ (k:Nat) (acc:List M3) (zs:List V) (u5:Option V),Same H H'/\H' fl=some (.lst zs)/\Paired (m3R H') acc zs/\acc++mbD TT W n' k=mbA TT W/\W.length<=n'+k/\acc.length<=k/\σ'=[some (.ref m),some (.ref d),some (.ref wd),some (.ref fl),some (.int (k:Nat)),u5],fun σ' H' h=>⟨n',Q8 _,h⟩,?_⟩
   have hM2:=MO.mono hM g
   obtain ⟨dx,fs,hi,hlk⟩:=MO.ins hM2
   refine ⟨_,rfl,m,dx,fs,rfl,hi,hlk,_,rfl,_,rfl,m,wd,W,aW TT,k,rfl,hM2,g _ _ hW,hWl,RP kl,hWd,fun H3 g3=>?_⟩
   have gA:=g.trans g3
   have din:=@KH TT W k
   generalize hdu:dueN W k (aW TT)=du at din hacc
   have emb:mb1 TT W k=if 0<du then [((k:Int),((du:Nat):Int),(aQ TT ((W.drop k).take du)).getD [])] else []:=by unfold mb1; rw [hdu]
   have ez:(if (1:Int)>((du:Nat):Int) then (1:Int) else ((du:Nat):Int))=((max du 1:Nat):Int):=by
    split <;> omega
   have ek:((k:Nat):Int)+(if (1:Int)>((du:Nat):Int) then (1:Int) else ((du:Nat):Int))=((k+max du 1:Nat):Int):=by rw [ez]; omega
   refine ⟨_,rfl,_,_,rfl,rfl,_,rfl,?_⟩
   refine ite2 (fun z=>?_) (fun z=>?_)
   ·have d0:0<du:=by have:=of_decide_eq_true z; omega
    obtain ⟨din1,din2⟩:=din d0
    rw [if_pos d0] at emb
    obtain ⟨wl,wv,e1,e2,hwv⟩:∃ wl wv,aQ TT ((W.drop k).take du)=some wl/\valV kvs (inr ((W.drop k).take du))=some wv/\wnR H wl wv:=by
     rcases m5 (k:=(W.drop k).take du) hT with ⟨a1,a2⟩ | ⟨a1,a2,a3,a4,a5⟩
     ·rw [fY,a1] at din1; cases din1
     ·exact ⟨a1,a2,a3,a4,a5⟩
    rw [e1] at emb
    have hl3:=g3 _ _ hl2
    refine ⟨_,rfl,.inl ⟨rfl,_,SqL.of hl3⟩,_,rfl,_,rfl,_,rfl,_,rfl,_,rfl,_,rfl,_,rfl,_,rfl,_,_,rfl,rfl,_,rfl,wd,_,rfl,gA _ _ hW,fun p8 H8 g8 h8=>?_⟩
    have e8:cutV (W.map V.str) (some ((k:Nat):Int)) (some (((k:Nat):Int)+((du:Nat):Int)))=((W.drop k).take du).map V.str:=by
     rw [show ((k:Nat):Int)+((du:Nat):Int)=((k+du:Nat):Int) by omega,wL,Us,V5]
     congr 1
     omega
    have h8':H8 p8=some (.tup ((inr ((W.drop k).take du)).map kV)):=by rw [yj,<- e8]; exact h8
    have gB:=gA.trans g8
    have dg:=DGet.t (k:=inr ((W.drop k).take du)) (gB _ _ hd) h8'
    rw [e2] at dg
    obtain ⟨wp,rfl,hwp⟩:=hwv
    refine ⟨d,_,rfl,dg,(by show 3<=sizeLine; decide),fun t9 ht9=>?_⟩
    have g9:=aB ht9 (.tup [.int (k:Nat),.int (du:Nat),.ref wp])
    have e9:upd H8 t9 (.tup [.int (k:Nat),.int (du:Nat),.ref wp]) t9=some (.tup [.int (k:Nat),.int (du:Nat),.ref wp]):=ak
    generalize upd H8 t9 (.tup [.int (k:Nat),.int (du:Nat),.ref wp])=H9 at g9 e9
    have g39:=g8.trans g9
    have hl9:=g39 _ _ hl3
    have zl:=Paired.length hzs
    refine ⟨fl,_,_,rfl,rfl,hl9,by omega,?_⟩
    have tA:TSame H9 (upd H9 fl (.lst (zs++[.ref t9]))):=TSame.lst hl9
    refine ⟨_,rfl,_,rfl,_,_,rfl,_,_,rfl,rfl,?_⟩
    refine ⟨k+max du 1,acc++[((k:Int),((du:Nat):Int),wl)],zs++[.ref t9],some (.int (du:Nat)),aL hfl (gA.trans g39) _,ak,?_,?_,by omega,by rw [Np]; show acc.length+1<=_; omega,?_⟩
    ·exact dO (Paired.mapP hzs fun _ _ z=>z.mono ((g3.t.trans g39.t).trans tA)) (.cons ⟨t9,wp,rfl,tA _ _ e9,tA _ _ ((gB.trans g9) _ _ hwp)⟩ .nil)
    ·rw [<- hacc,emb]
     simp
    ·rw [<- ek]
     rfl
   ·have d0:¬ 0<du:=fun y=>z (decide_eq_true (by omega))
    rw [if_neg d0] at emb
    refine ⟨_,rfl,_,rfl,_,_,rfl,_,_,rfl,rfl,?_⟩
    refine ⟨k+max du 1,acc,zs,some (.int (du:Nat)),gA,g3 _ _ hl2,Paired.mapP hzs fun _ _ z=>z.mono g3.t,?_,by omega,by omega,?_⟩
    ·rw [<- hacc,emb,Tj]
    ·rw [<- ek]
     rfl
  ·have kl:W.length<=k:=by
    have:¬ ((k:Nat):Int)<(((W.map V.str).length:Nat):Int):=fun y=>z (decide_eq_true y)
    rw [hlW] at this
    omega
   rw [IK kl,N6] at hacc
   exact hR _ _ ⟨zs,_,_,g,hl2,by rw [<- hacc]; exact hzs,rfl⟩
 ·rintro σ2 H2 ⟨zs,u4,u5,g,hl2,hzs,rfl⟩
  exact ⟨_,rfl,q fl zs H2 g hfl hl2 hzs⟩
end
abbrev Rw3:=Int×List Str×List Int
def rw3R (H:Hp) (r:Rw3) (v:V):Prop:=∃ a wa pa,v=.ref a/\H a=some (.tup [.int r.1,.ref wa,.ref pa])/\H wa=some (.tup (r.2.1.map V.str))/\iT H pa r.2.2
theorem rw3R.mono {H H':Hp} {r:Rw3} {v:V} (h:rw3R H r v) (g:TSame H H'):rw3R H' r v:=let ⟨a,wa,pa,e,h1,h2,h3⟩:=h; ⟨a,wa,pa,e,g _ _ h1,g _ _ h2,g _ _ h3⟩
def rowO (x:PTh):List Rw3:=match x.2 with
 | .say n ws=>[(n,ws,x.1)]
 | .tell n _ _ _ ms=>[(n,ms,x.1)]
 | .part _ _=>[]
def jg (f:L2.F):List Rw3:=(ordP [0] f).flatMap rowO
theorem wY (l:List PTh):(l.flatMap rowO).length<=l.length:=by
 induction l with
 | nil=>exact Nu _
 | cons x r ih =>
  rw [Ov,Np,Oj]
  have:(rowO x).length<=1:=by
   obtain ⟨p,t⟩:=x
   cases t with
   | say n ws=>exact Nu _
   | tell n sc ph bs ms=>exact Nu _
   | part n i=>exact OD _
  omega
def FN:Sp:=fun vs H Q _=>∃ (v:V) (f:L2.F),vs=[v]/\fP H 0 f v/\f.dep<=10/\f.ord.length<=200/\∀ r xs H',Same H H'->H r=none->H' r=some (.lst xs)->Paired (rw3R H') (jg f) xs->Q (.ref r) H'
section
variable {P:Program} {w:World} {K:Nh} {mg:Str->Option Value} {base:Heap} {f:Addr} {fd:FuncData}
theorem zW:FnScope ["doc","found","thing","path"] ["doc"] (aA cG):=⟨rfl,rfl,rfl,by decide +kernel,rfl,by decide +kernel,by decide +kernel⟩
set_option maxHeartbeats 8000000 in
theorem Kh (F:Fun K "rows_with_homes" "rows_with_homes" cG f fd) (GW:Def P w K mg base CX0 21 "things_with_homes" ["part","path"] (sG 21)):FnOk P w K mg base CX0 22 f fd ["doc"] FN:=by
 refine F.ok zW (fun vs H Q E h=>?_) (fun cdv A outer s H vs Q E hr h=>?_)
 ·obtain ⟨v,fo,rfl,_⟩:=h
  rfl
 obtain ⟨v,fo,rfl,hv,hdp,hfw,q⟩:=h
 refine ⟨_,ao (aF (i:=1) zW.nd rfl (Or.inl rfl) (cD aq))
  (ao (cj PassesOwn.never rfl (cu (aX GW hr (aj (pv 0) (aj (bh (aj au aq)) aq)))) (jW rfl (bM (aK (i:=2) zW.nd rfl (Or.inl rfl)) (bM (aK (i:=3) zW.nd rfl (Or.inl rfl)) iC)))
   (aD (bJ (aN eG (aJ bA (pv 2) au (fun _ _=>rfl)) cJ (bD _))
    (aD (cC (dZ Ob Oh Oi bO (pv 1) (aj (bh (aj (aJ bA (pv 2) au (fun _ _=>rfl)) (aj (aJ bA (pv 2) au (fun _ _=>rfl)) (aj (pv 3) aq)))) aq))))
    (aD (bJ (aN eG (aJ bA (pv 2) au (fun _ _=>rfl)) cJ (bD _))
     (aD (cC (dZ Ob Oh Oi bO (pv 1) (aj (bh (aj (aJ bA (pv 2) au (fun _ _=>rfl)) (aj (aJ bA (pv 2) au (fun _ _=>rfl)) (aj (pv 3) aq)))) aq)))) aR)))))
  (aD (aU (pv 1)))),?_⟩
 have hb:=big
 refine ⟨(by show 0<=sizeLine; decide),fun l hl=>?_⟩
 have g1:=aB hl (.lst [])
 have e1:upd H l (.lst []) l=some (.lst []):=ak
 generalize upd H l (.lst [])=H1 at g1 e1 ⊢
 refine ⟨_,rfl,(by show 1<=sizeLine; decide),fun t0 ht0=>?_⟩
 have g2:=aB ht0 (.tup [.int 0])
 have e2:iT (upd H1 t0 (.tup [.int 0])) t0 [0]:=ak
 have l2:=g2 _ _ e1
 generalize upd H1 t0 (.tup [.int 0])=H2 at g2 e2 l2 ⊢
 refine ⟨v,0,fo,t0,[0],rfl,thR.mono (t:=.part 0 fo) hv (g1.trans g2).t,e2,by omega,by omega,by show 1+_<=1000; omega,fun r xs H3 g3 hr3 er hxs=>?_⟩
 have nlr:l≠r:=fun e=>by rw [<- e,l2] at hr3; cases hr3
 have l3:=g3 _ _ l2
 have g13:=(g1.trans g2).trans g3
 refine ⟨r,rfl,⟨_,SqL.of er⟩,?_⟩
 refine cN (K:=K) (a:=r) (xs:=xs) (fun i σ' H'=>Same H H'/\TSame H3 H'/\H' r=some (.lst xs)/\∃ (zs:List V) (u2 u3:Option V),σ'=[some v,some (.ref l),u2,u3]/\H' l=some (.lst zs)/\Paired (rw3R H') (((ordP [0] fo).take i).flatMap rowO) zs) ?_ (fun i σ' H' _ h=>SqL.of h.2.2.1) ?_ ?_
 ·exact ⟨g13,TSame.refl _,er,[],_,_,rfl,l3,.nil⟩
 ·rintro i y σ' H4 hi ⟨g4,t4,hr4,zs,u2,u3,rfl,hl4,hzs⟩
  obtain ⟨x,ex,hx⟩:=aY hxs hi
  obtain ⟨z,a,tu,rfl,k1,k2,k3⟩:=hx.mono t4
  have etk:((ordP [0] fo).take (i+1)).flatMap rowO=((ordP [0] fo).take i).flatMap rowO++rowO x:=by
   rw [Oe,ex,O7]
   show _++(rowO x++[])=_
   rw [N6]
  have zl:zs.length<=200:=by
   have h1:=Paired.length hzs
   have h2:=wY ((ordP [0] fo).take i)
   rw [Oc,gC] at h2
   omega
  have put:∀ (n:Int) (W:List Str) (wa t6:Addr) (H5:Hp),Same H4 H5->H5 wa=some (.tup (W.map V.str))->H5 t6=some (.tup [.int n,.ref wa,.ref a])->rowO x=[(n,W,x.1)] ->
    Same H (upd H5 l (.lst (zs++[.ref t6])))/\TSame H3 (upd H5 l (.lst (zs++[.ref t6])))/\upd H5 l (.lst (zs++[.ref t6])) r=some (.lst xs)/\upd H5 l (.lst (zs++[.ref t6])) l=some (.lst (zs++[.ref t6]))/\Paired (rw3R (upd H5 l (.lst (zs++[.ref t6])))) (((ordP [0] fo).take (i+1)).flatMap rowO) (zs++[.ref t6]):=by
   intro n W wa t6 H5 g5 hwa h6 eO
   have hl5:=g5 _ _ hl4
   have t7:TSame H5 (upd H5 l (.lst (zs++[.ref t6]))):=TSame.lst hl5
   refine ⟨aL hl (g4.trans g5) _,(t4.trans g5.t).trans t7,by rw [aC nlr.symm]; exact g5 _ _ hr4,ak,?_⟩
   rw [etk,eO]
   exact dO (Paired.mapP hzs fun _ _ z=>z.mono (g5.t.trans t7)) (.cons ⟨t6,wa,a,rfl,t7 _ _ h6,t7 _ _ hwa,t7 _ _ (g5 _ _ k2)⟩ .nil)
  refine ⟨z,_,rfl,SqT.of k1,rfl,_,_,rfl,_,_,rfl,rfl,?_⟩
  obtain ⟨xp,xt⟩:=x
  cases xt with
  | say n W =>
   obtain ⟨tb,x1,rfl,w1,⟨wa,rfl,w2⟩⟩:=(show sayR H4 n W tu from k3)
   refine ⟨_,rfl,tb,_,_,_,rfl,rfl,SqT.of w1,rfl,rfl,_,rfl,?_⟩
   refine iteT ?_
   refine ⟨_,rfl,.inl ⟨rfl,_,SqL.of hl4⟩,_,rfl,tb,_,_,_,rfl,rfl,SqT.of w1,rfl,_,rfl,tb,_,_,_,rfl,rfl,SqT.of w1,rfl,_,rfl,(by show 3<=sizeLine; decide),fun t6 ht6=>?_⟩
   have g6:=aB ht6 (.tup [.int n,.ref wa,.ref a])
   refine ⟨l,_,_,rfl,rfl,g6 _ _ hl4,by omega,?_⟩
   obtain ⟨q1,q2,q3,q4,q5⟩:=put n W wa t6 _ g6 (g6 _ _ w2) ak rfl
   exact ⟨q1,q2,q3,_,_,_,rfl,q4,q5⟩
  | part n fi =>
   obtain ⟨ta,tx,rfl,hta,hk0,_⟩:=gU k3
   refine ⟨_,rfl,ta,_,_,_,rfl,rfl,SqT.of hta,hk0,rfl,_,rfl,?_⟩
   rw [show decide (V.str (knd (.part n fi))=V.str "say")=false from (by decide:decide (V.str "part"=V.str "say")=false)]
   refine iteF ⟨_,rfl,ta,_,_,_,rfl,rfl,SqT.of hta,hk0,rfl,_,rfl,?_⟩
   rw [show decide (V.str (knd (.part n fi))=V.str "tell")=false from (by decide:decide (V.str "part"=V.str "tell")=false)]
   refine iteF ⟨g4,t4,hr4,zs,_,_,rfl,hl4,?_⟩
   rw [etk]
   show Paired _ (_++[]) zs
   rw [N6]
   exact hzs
  | tell n sc ph bs W =>
   obtain ⟨tb,x1,y1,z1,rfl,w1,w2,w3,⟨wa,rfl,w4⟩⟩:=(show tellR H4 n sc ph bs W tu from k3)
   refine ⟨_,rfl,tb,_,_,_,rfl,rfl,SqT.of w1,rfl,rfl,_,rfl,?_⟩
   refine iteF ⟨_,rfl,tb,_,_,_,rfl,rfl,SqT.of w1,rfl,rfl,_,rfl,?_⟩
   refine iteT ?_
   refine ⟨_,rfl,.inl ⟨rfl,_,SqL.of hl4⟩,_,rfl,tb,_,_,_,rfl,rfl,SqT.of w1,rfl,_,rfl,tb,_,_,_,rfl,rfl,SqT.of w1,rfl,_,rfl,(by show 3<=sizeLine; decide),fun t6 ht6=>?_⟩
   have g6:=aB ht6 (.tup [.int n,.ref wa,.ref a])
   refine ⟨l,_,_,rfl,rfl,g6 _ _ hl4,by omega,?_⟩
   obtain ⟨q1,q2,q3,q4,q5⟩:=put n W wa t6 _ g6 (g6 _ _ w4) ak rfl
   exact ⟨q1,q2,q3,_,_,_,rfl,q4,q5⟩
 ·rintro σ' H4 ⟨g4,t4,hr4,zs,u2,u3,rfl,hl4,hzs⟩
  have xl:xs.length=(ordP [0] fo).length:=(Paired.length hxs).symm
  rw [xl,Oa] at hzs
  exact ⟨_,rfl,q l zs H4 g4 hl hl4 hzs⟩
end
theorem Fz {W:List Str} {k:Nat} {L L':List (List Str)} (h:∀ l∈L,l∈L'):dueN W k L<=dueN W k L':=by
 obtain ⟨h1,_⟩:=jQ W k L 0
 obtain ⟨_,_,h3⟩:=jQ W k L' 0
 have e:dueN W k L=L.foldl (fun m l=>if stands W k l=true then (if l.length>m then l.length else m) else m) 0:=rfl
 have e':dueN W k L'=L'.foldl (fun m l=>if stands W k l=true then (if l.length>m then l.length else m) else m) 0:=rfl
 rw [<- e] at h1
 rw [<- e'] at h3
 rcases h1 with z | ⟨l,hl,a,b⟩
 ·omega
 ·rw [<- b]; exact h3 l (h l hl) a
theorem BR {T U:Tab (List Int)} (h:Alike T U) (W:List Str):mbA T W=mbA U W:=by
 have hk:∀ l,l∈aW T↔l∈aW U:=fun l=>by rw [fY,fY,h.same]
 have hd:∀ k,dueN W k (aW T)=dueN W k (aW U):=fun k=>WW (Fz fun l hl=>(hk l).mp hl) (Fz fun l hl=>(hk l).mpr hl)
 have h1:∀ k,mb1 T W k=mb1 U W k:=fun k=>by unfold mb1; rw [hd,h.same]
 have all:∀ f k,mbD T W f k=mbD U W f k:=fun f=>by
  induction f with
  | zero=>intro k; rfl
  | succ f ih =>
   intro k
   show (if k<W.length then mb1 T W k++mbD T W f (k+max (dueN W k (aW T)) 1) else [])=if k<W.length then mb1 U W k++mbD U W f (k+max (dueN W k (aW U)) 1) else []
   rw [h1,ih,hd]
 exact all _ _
theorem oO (T:Tab (List Int)) (W:List Str):∀ f k,(mbD T W f k).length<=f
 | 0,_=>Nu _
 | f+1,k=>by
  show (if k<W.length then mb1 T W k++mbD T W f (k+max (dueN W k (aW T)) 1) else []).length<=f+1
  have:=oO T W f (k+max (dueN W k (aW T)) 1)
  split
  ·rw [Np]
   have:(mb1 T W k).length<=1:=by
    unfold mb1
    split
    ·exact Nu _
    ·exact OD _
   omega
  ·exact OD _
theorem Af {T:Tab (List Int)} {W:List Str} {c:Nat} (h:∀ k w,aQ T k=some w->w.length<=c):∀ f k,∀ m∈mbD T W f k,m.2.2.length<=c
 | 0,_,_,hm=>nomatch hm
 | f+1,k,m,hm=>by
  have e:mbD T W (f+1) k=if k<W.length then mb1 T W k++mbD T W f (k+max (dueN W k (aW T)) 1) else []:=rfl
  rw [e] at hm
  split at hm
  ·rcases Nz.mp hm with z | z
   ·unfold mb1 at z
    split at z
    ·rw [Nq.mp z]
     show ((aQ T _).getD []).length<=c
     cases q:aQ T ((W.drop k).take (dueN W k (aW T))) with
     | none=>exact OD _
     | some w=>exact h _ w q
    ·cases z
   ·exact Af h f _ m z
  ·cases hm
theorem vJ (pl:List Int):∀ (ts:List Tl) (B:Best),(∀ t∈ts,t.2.2.2.length<=6)->(ts.foldl (jG pl) B).length<=B.length+6*ts.length
 | [],B,_=>Nu _
 | t::ts,B,h=>by
  rw [QJ,Oj]
  have h1:=vJ pl ts (jG pl B t) fun u hu=>h u (Nt _ hu)
  have h2:∀ (fs:List (List Str)) (B:Best),(fs.foldl (cV (bF t.2.1 t.2.2.1 pl) t.1) B).length<=B.length+fs.length:=fun fs=>by
   induction fs with
   | nil=>intro B; exact Nu _
   | cons k r ih =>
    intro B
    rw [QJ,Oj]
    have:=ih (cV (bF t.2.1 t.2.2.1 pl) t.1 B k)
    have:(cV (bF t.2.1 t.2.2.1 pl) t.1 B k).length<=B.length+1:=by
     unfold cV
     split
     ·exact zf _ _ _
     ·exact Q5 _
    omega
  have h3:=h2 t.2.2.2 B
  have h4:=h t Ny
  have h5:(jG pl B t).length<=B.length+t.2.2.2.length:=h3
  omega
theorem Hi {ns:List Int} {ws:List Str} {f:L2.F} {pl:List Int} (h:DocQ ns ws f 12):∀ k w,aQ (winD pl (tlsF f [0])) k=some w->w.length<=45:=fun k w hw=>by
 unfold winD at hw
 rw [lZ] at hw
 have c:Ch pl k (tlsF f [0]) (aQ (fu pl (tlsF f [0])) k):=rJ fun t ht=>(h.tls.ok t ht).1
 cases e:aQ (fu pl (tlsF f [0])) k with
 | none=>rw [e] at hw; cases hw
 | some b =>
  rw [e] at hw c
  cases hw
  obtain ⟨M,l⟩:=b
  obtain ⟨_,_,_,el⟩:=c
  rw [show (sortI l).length=l.length from (Ti l _).length_eq,el,Ng]
  have:=Qx (fun t:Tl=>decide (k∈t.2.2.2) && decide (bF t.2.1 t.2.2.1 pl=M)) (tlsF f [0])
  have:=h.tls.few
  omega
theorem K8 {ns:List Int} {ws:List Str} {f:L2.F} {pl:List Int} {ts:List Tl} (h:DocQ ns ws f 12) (hm:MnOk ws) (p:ts.Perm (tlsF f [0])):∀ l∈aW (fu pl ts),1<=l.length/\l.length<=12/\∀ z∈l,Wd z:=fun l hl=>by
 rw [fY] at hl
 have c:Ch pl l ts (aQ (fu pl ts) l):=rJ fun t ht=>(h.tls.ok t (p.mem_iff.mp ht)).1
 cases e:aQ (fu pl ts) l with
 | none=>rw [e] at hl; cases hl
 | some b =>
  rw [e] at c
  obtain ⟨M,w⟩:=b
  obtain ⟨_,_,⟨t,ht,hj,_⟩,_⟩:=c
  have ht:=p.mem_iff.mp ht
  rw [fH] at ht
  obtain ⟨⟨xp,xt⟩,hx,hq⟩:=Qn.mp ht
  have hok:=h.ok _ (lY hx)
  cases xt with
  | say m zs=>cases hq
  | part m i=>cases hq
  | tell m sc ph bs ms =>
   have e:=Nq.mp (show t∈[(m,sc,xp,shT ph bs)] from hq)
   rw [e] at hj
   have hj:l∈shT ph bs:=hj
   obtain ⟨_,h4,hw,_,⟨p0,last,rfl,os,hp,_,ho⟩,_⟩:=(show TlOk ws sc ph bs ms from hok)
   rw [Np,O5] at h4
   rw [qC] at hj
   rcases NT.mp hj with e | m2
   ·rw [e,Np,O5]
    exact ⟨by omega,by omega,fun z hz=>hm.wd z (hw z hz)⟩
   ·obtain ⟨b,hb,rfl⟩:=Oq.mp m2
    obtain ⟨i,hi⟩:=Og hb
    obtain ⟨o,eo,hbo⟩:=bQ hp hi
    rw [m8 hbo,Np,O5]
    refine ⟨by omega,by omega,fun z hz=>?_⟩
    rcases Nz.mp hz with z1 | z1
    ·exact hm.wd z (hw z (Nz.mpr (.inl z1)))
    ·rw [Nq.mp z1]; exact hm.wd o (ho o (Nv eo))
theorem Fo {ns:List Int} {ws:List Str} {f:L2.F} (h:DocQ ns ws f 12) (hm:MnOk ws):∀ r∈jg f,r.2.1.length<=200/\(∀ z∈r.2.1,Wd z)/\r.2.2.length<=9:=fun r hr=>by
 obtain ⟨⟨xp,xt⟩,hx,hq⟩:=Qn.mp hr
 have hok:=h.ok _ (lY hx)
 have hl:xp.length<=9:=by
  have h1:xp.length<=[0].length+f.dep:=jc [0] f _ hx
  have h2:=h.dep
  have:([0]:List Int).length=1:=rfl
  omega
 cases xt with
 | part m i=>cases hq
 | say m zs =>
  rw [Nq.mp (show r∈[(m,zs,xp)] from hq)]
  obtain ⟨_,h6,hw⟩:=(show 1<=zs.length/\zs.length<=200/\∀ z∈zs,z∈ws from hok)
  exact ⟨h6,fun z hz=>hm.wd z (hw z hz),hl⟩
 | tell m sc ph bs ms =>
  rw [Nq.mp (show r∈[(m,ms,xp)] from hq)]
  obtain ⟨_,_,_,_,_,_,h4,hw⟩:=(show TlOk ws sc ph bs ms from hok)
  exact ⟨by show ms.length<=200; omega,fun z hz=>hm.wd z (hw z hz),hl⟩
def ik (p:List Int):List Key:=p.map Sum.inl
theorem Mr (p:List Int):(ik p).map kV=p.map V.int:=by unfold ik; rw [Pq]; rfl
theorem CJ:∀ {p q:List Int},ik p=ik q->p=q
 | [],[],_=>rfl
 | [],_::_,h=>by cases h
 | _::_,[],h=>by cases h
 | a::p,b::q,h=>by
  have h:(Sum.inl a:Key)::ik p=Sum.inl b::ik q:=h
  injection h with h1 h2
  injection h1 with h1
  rw [h1,CJ h2]
def ig (f:L2.F) (r:Rw3):List Mk:=(mbA (winD r.2.2 (tlsF f [0])) r.2.1).map fun m=>(r.1,m.1,m.2.1,m.2.2)
def mkD (f:L2.F):List Mk:=(jg f).flatMap (ig f)
theorem oR {α β:Type} {g:α->List β} {c:Nat}:∀ {l:List α},(∀ x∈l,(g x).length<=c)->(l.flatMap g).length<=c*l.length
 | [],_=>OD _
 | x::r,h=>by
  rw [Ov,Np,Oj,Nat.mul_add]
  have:=oR (l:=r) fun y hy=>h y (Nt _ hy)
  have:=h x Ny
  omega
theorem tH {ns:List Int} {ws:List Str} {f:L2.F} (h:DocQ ns ws f 12) (hm:MnOk ws) {r:Rw3} (hr:r∈jg f):(ig f r).length<=200:=by
 unfold ig
 rw [Ng]
 have:=oO (winD r.2.2 (tlsF f [0])) r.2.1 r.2.1.length 0
 have:=(Fo h hm r hr).1
 show (mbD (winD r.2.2 (tlsF f [0])) r.2.1 r.2.1.length 0).length<=200
 omega
theorem wD {ns:List Int} {ws:List Str} {f:L2.F} (h:DocQ ns ws f 12):(jg f).length<=45:=by
 have:=wY (ordP [0] f)
 rw [gC] at this
 have:=h.few
 show ((ordP [0] f).flatMap rowO).length<=45
 omega
theorem Ih {ns:List Int} {ws:List Str} {f:L2.F} (h:DocQ ns ws f 12) (hm:MnOk ws):(mkD f).length<=9000:=by
 have h1:=oR (c:=200) (g:=ig f) (l:=jg f) fun r hr=>tH h hm hr
 have h2:=wD h
 show ((jg f).flatMap (ig f)).length<=9000
 omega
theorem ur {ns:List Int} {ws:List Str} {f:L2.F} (h:DocQ ns ws f 12):∀ m∈mkD f,m.2.2.2.length<=45:=fun m hm=>by
 obtain ⟨r,_,hr⟩:=Qn.mp hm
 obtain ⟨m',hm',rfl⟩:=Oq.mp hr
 exact Af (Hi h) _ _ m' hm'
abbrev TP (ts:List Tl) (p:List Int):Tab (List Int):=mapT (·.2) (fu p ts)
structure Ent (CM dt dm fl:Addr) (ts:List Tl) (H:Hp) (p:List Int) (d m:Addr):Prop where
 nt:d≠dt
 nm:d≠dm
 nf:d≠fl
 tab:∃ kvs,H d=some (.dT kvs)/\tabR wnR H (TP ts p) kvs
 mach:∃ B,Same B H/\B dt=none/\B dm=none/\B fl=none/\MR CM B (aW (TP ts p)) m
theorem Ent.mono {CM dt dm fl:Addr} {ts:List Tl} {H H':Hp} {p:List Int} {d m:Addr} (h:Ent CM dt dm fl ts H p d m) (g:Same H H'):Ent CM dt dm fl ts H' p d m:=by
 obtain ⟨kvs,h1,h2⟩:=h.tab
 obtain ⟨B,b1,b2,b3,b4,b5⟩:=h.mach
 exact ⟨h.nt,h.nm,h.nf,⟨kvs,g _ _ h1,eV h2 fun _ _ z=>z.mono g.t⟩,⟨B,b1.trans g,b2,b3,b4,b5⟩⟩
theorem Ent.upd {CM dt dm fl x:Addr} {ts:List Tl} {H:Hp} {p:List Int} {d m:Addr} {o:HO} (h:Ent CM dt dm fl ts H p d m) (hx:x=dt∨x=dm∨x=fl) (ht:∀ xs,H x≠some (.tup xs)):Ent CM dt dm fl ts (L2.upd H x o) p d m:=by
 obtain ⟨kvs,h1,h2⟩:=h.tab
 obtain ⟨B,b1,b2,b3,b4,b5⟩:=h.mach
 have n1:d≠x:=by
  rcases hx with e | e | e
  ·rw [e]; exact h.nt
  ·rw [e]; exact h.nm
  ·rw [e]; exact h.nf
 have n2:B x=none:=by
  rcases hx with e | e | e
  ·rw [e]; exact b2
  ·rw [e]; exact b3
  ·rw [e]; exact b4
 have t:TSame H (L2.upd H x o):=TSame.upd fun xs z=>ht xs z
 exact ⟨h.nt,h.nm,h.nf,⟨kvs,by rw [aC n1]; exact h1,eV h2 fun _ _ z=>z.mono t⟩,⟨B,aL n2 b1 _,b2,b3,b4,b5⟩⟩
def EntAll (CM dt dm fl:Addr) (ts:List Tl) (H:Hp) (kt km:List (List Key×V)):Prop:=∀ p,valV kt (ik p)=none∨∃ d m,valV kt (ik p)=some (.ref d)/\valV km (ik p)=some (.ref m)/\Ent CM dt dm fl ts H p d m
theorem EntAll.map {CM dt dm fl:Addr} {ts:List Tl} {H H':Hp} {kt km:List (List Key×V)} (h:EntAll CM dt dm fl ts H kt km) (g:∀ p d m,Ent CM dt dm fl ts H p d m->Ent CM dt dm fl ts H' p d m):EntAll CM dt dm fl ts H' kt km:=fun p=>by
 rcases h p with e | ⟨d,m,e1,e2,e3⟩
 ·exact .inl e
 ·exact .inr ⟨d,m,e1,e2,g p d m e3⟩
theorem EntAll.put {CM dt dm fl:Addr} {ts:List Tl} {H:Hp} {kt km:List (List Key×V)} {p:List Int} {d m:Addr} (h:EntAll CM dt dm fl ts H kt km) (he:Ent CM dt dm fl ts H p d m):EntAll CM dt dm fl ts H (putK kt (ik p) (.ref d)) (putK km (ik p) (.ref m)):=fun p'=>by
 rw [dG,dG]
 by_cases e:ik p'=ik p
 ·rw [if_pos e,if_pos e]
  have:=CJ e
  subst this
  exact .inr ⟨d,m,rfl,rfl,he⟩
 ·rw [if_neg e,if_neg e]
  exact h p'
theorem wB {H:Hp}:∀ {T:Tab (List Int)} {kvs:List (List Key×V)} {ys:List V},tabR wnR H T kvs->Paired (fun kv y=>∃ b,y=V.ref b/\H b=some (.tup (kv.1.map kV))) kvs ys->phsR H (aW T) ys
 | _,_,_,.nil,.nil=>.nil
 | _,_,_,.cons h t,.cons ⟨b,e,hb⟩ r=>.cons ⟨b,e,by rw [h.1,yj] at hb; exact hb⟩ (wB t r)
theorem seq_post {t u:TS} {D:Ends} {σ:St} {H:Hp} (Mid:St->Hp->Prop) (h1:∀ R:St->Hp->Prop,(∀ σ H,Mid σ H->R σ H)->t { D with nx:=R } σ H) (h2:∀ σ H,Mid σ H->u D σ H):tSeq t u D σ H:=h1 (u D) h2
def zy:Sp:=fun vs H Q _=>∃ (v:V) (f:L2.F) (ns:List Int) (ws:List Str),vs=[v]/\fP H 0 f v/\DocQ ns ws f 12/\MnOk ws/\∀ r xs H',Same H H'->H r=none->H' r=some (.lst xs)->mksR H' (mkD f) xs->Q (.ref r) H'
section
variable {P:Program} {w:World} {K:Nh} {mg:Str->Option Value} {base:Heap} {f:Addr} {fd:FuncData} {CM:Addr}
theorem jV:FnScope ["doc","tellings","told","machines","found","number","words","path","start","length","winners"] ["doc"] (aA jw):=⟨rfl,rfl,rfl,by decide +kernel,rfl,by decide +kernel,by decide +kernel⟩
set_option maxHeartbeats 16000000 in
theorem Li {fI:Addr} {fdI:FuncData} (F:Fun K "marks" "marks" jw f fd) (T:Nm mg) (GTO:Def P w K mg base CX0 22 "tellings_of" ["doc"] spTO) (GRW:Def P w K mg base CX0 22 "rows_with_homes" ["doc"] FN) (GTA:Def P w K mg base CX0 2 "told_at" ["tellings","place"] Jw) (GMB:Def P w K mg base CX0 21 "marks_by" ["machine","told","words"] (spMB CM))
  (mM:mg "Machine"=some (.ref CM)) (M:L2.Mk K CM fI) (FI:FnOk P w K mg base CX0 20 fI fdI ["self","phrases"] (Eo CM (MR CM))) (bI:Binds K fdI ["self","phrases"] []):FnOk P w K mg base CX0 23 f fd ["doc"] zy:=by
 refine F.ok jV (fun vs H Q E h=>?_) (fun cdv A outer s H vs Q E hr h=>?_)
 ·obtain ⟨v,fo,ns,ws,rfl,_⟩:=h
  rfl
 obtain ⟨v,fo,ns,ws,rfl,hv,hD,hmn,q⟩:=h
 have hu1:(A.deeper (PyProof.Rows.envOfC "marks" (aA jw) s.heap.objs.size f cdv)).units+1<cLine:=by have:=hr.un; omega
 refine ⟨_,ao (aF (i:=1) jV.nd rfl (Or.inl rfl) (aX GTO hr (aj (pv 0) aq)))
  (ao (aF (i:=2) jV.nd rfl (Or.inl rfl) lV)
  (ao (aF (i:=3) jV.nd rfl (Or.inl rfl) lV)
  (ao (aF (i:=4) jV.nd rfl (Or.inl rfl) (cD aq))
  (ao (cj PassesOwn.never rfl (cu (aX GRW hr (aj (pv 0) aq))) (jW rfl (bM (aK (i:=5) jV.nd rfl (Or.inl rfl)) (bM (aK (i:=6) jV.nd rfl (Or.inl rfl)) (bM (aK (i:=7) jV.nd rfl (Or.inl rfl)) iC))))
   (ao (bJ (gG (d8 hu1 (pv 7) (pv 2)))
    (ao (fJ hu1 (pv 2) (pv 7) (aX GTA (hr.mono (by decide)) (aj (pv 1) (aj (pv 7) aq))) rfl)
    (aD (fJ hu1 (pv 3) (pv 7) (Ik M FI (hr.mono (by decide)) rfl mM bI .nil zp (aj (eF (xO rfl) rfl T.list U9 (aj (cH hu1 (pv 2) (pv 7) (fun _ _=>rfl)) aq)) aq)) rfl))) aR)
   (aD (cj PassesOwn.never rfl (cu (aX GMB (hr.mono (by decide)) (aj (cH hu1 (pv 3) (pv 7) (fun _ _=>rfl)) (aj (cH hu1 (pv 2) (pv 7) (fun _ _=>rfl)) (aj (pv 6) aq))))) (jW rfl (bM (aK (i:=8) jV.nd rfl (Or.inl rfl)) (bM (aK (i:=9) jV.nd rfl (Or.inl rfl)) (bM (aK (i:=10) jV.nd rfl (Or.inl rfl)) iC))))
    (aD (cC (dZ Ob Oh Oi bO (pv 4) (aj (bh (aj (pv 5) (aj (pv 8) (aj (pv 9) (aj (pv 10) aq))))) aq))))))))
  (aD (aU (pv 4))))))),?_⟩
 have hb:=big
 refine ⟨_,rfl,v,fo,ns,ws,rfl,hv,hD,hmn,fun tl ts txs H1 g1 htl0 htl hts hpm hst=>?_⟩
 have hal:∀ p,Alike (TP ts p) (winD p (tlsF fo [0])):=fun p=>yq hD hpm hst
 refine fun dt hdt=>fun dm hdm=>⟨(by show 0<=sizeLine; decide),fun fl hfl=>?_⟩
 have ntm:dt≠dm:=fun e=>by rw [<- e,ak] at hdm; cases hdm
 have h2m:H1 dm=none:=(aB hdt (.dT [])).free hdm
 have g2:=(aB hdt (.dT [])).trans (aB hdm (.dT []))
 have h2f:H1 fl=none:=g2.free hfl
 have e2t:upd (upd H1 dt (.dT [])) dm (.dT []) dt=some (.dT []):=by rw [aC ntm,ak]
 have e2m:upd (upd H1 dt (.dT [])) dm (.dT []) dm=some (.dT []):=ak
 generalize upd (upd H1 dt (.dT [])) dm (.dT [])=H2 at hfl g2 e2t e2m ⊢
 have ntf:dt≠fl:=fun e=>by rw [<- e,e2t] at hfl; cases hfl
 have nmf:dm≠fl:=fun e=>by rw [<- e,e2m] at hfl; cases hfl
 have g3:=aB hfl (.lst [])
 have e3t:=g3 _ _ e2t
 have e3m:=g3 _ _ e2m
 have e3f:upd H2 fl (.lst []) fl=some (.lst []):=ak
 have g13:=g2.trans g3
 generalize upd H2 fl (.lst [])=H3 at g3 e3t e3m e3f g13 ⊢
 have hdp:=hD.dep
 have hfw:=hD.few
 refine ⟨_,rfl,v,fo,rfl,thR.mono (t:=.part 0 fo) hv (g1.trans g13).t,by omega,by omega,fun rw rxs H4 g4 hrw erw hrs=>?_⟩
 have e4t:=g4 _ _ e3t
 have e4m:=g4 _ _ e3m
 have e4f:=g4 _ _ e3f
 have nrt:rw≠dt:=fun e=>by rw [e,e3t] at hrw; cases hrw
 have nrm:rw≠dm:=fun e=>by rw [e,e3m] at hrw; cases hrw
 have nrf:rw≠fl:=fun e=>by rw [e,e3f] at hrw; cases hrw
 have g14:=g13.trans g4
 refine ⟨rw,rfl,⟨_,SqL.of erw⟩,?_⟩
 have rl:=Paired.length hrs
 have r12:=wD hD
 refine cN (K:=K) (a:=rw) (xs:=rxs) (fun i σ' H'=>Same H1 H'/\TSame H4 H'/\H' rw=some (.lst rxs)/\∃ (kt km:List (List Key×V)) (zs:List V) (u5 u6 u7 u8 u9 u10:Option V),H' dt=some (.dT kt)/\H' dm=some (.dT km)/\H' fl=some (.lst zs)/\kt.length<=i/\km.length<=i/\EntAll CM dt dm fl ts H' kt km/\mksR H' (((jg fo).take i).flatMap (ig fo)) zs/\σ'=[some v,some (.ref tl),some (.ref dt),some (.ref dm),some (.ref fl),u5,u6,u7,u8,u9,u10]) ?_ (fun i σ' H' _ h=>SqL.of h.2.2.1) ?_ ?_
 ·exact ⟨g14,TSame.refl _,erw,[],[],[],_,_,_,_,_,_,e4t,e4m,e4f,Nu _,Nu _,fun p=>.inl rfl,.nil,rfl⟩
 ·rintro i y σ' H5 hi ⟨g5,t5,hr5,kt,km,zs,u5,u6,u7,u8,u9,u10,h5t,h5m,h5f,ltk,lmk,hE,hzs,rfl⟩
  obtain ⟨r,er,hr'⟩:=aY hrs hi
  have hmem:=Nv er
  obtain ⟨ok1,ok2,ok3⟩:=Fo hD hmn r hmem
  have i12:i<45:=by
   have:=(Nj.mp er).1
   omega
  have etk:((jg fo).take (i+1)).flatMap (ig fo)=((jg fo).take i).flatMap (ig fo)++ig fo r:=by
   rw [Oe,er,O7]
   show _++(ig fo r++[])=_
   rw [N6]
  have zl:zs.length<=9000:=by
   have h1:=Paired.length hzs
   have h2:=oR (c:=200) (g:=ig fo) (l:=(jg fo).take i) fun x hx=>tH hD hmn (Pg hx)
   rw [Oc] at h2
   omega
  obtain ⟨n,W,p⟩:=r
  obtain ⟨ra,wa,pa,rfl,k1,k2,k3⟩:=hr'.mono t5
  have k2:H5 wa=some (.tup (W.map V.str)):=k2
  have k3:iT H5 pa p:=k3
  have ok1:W.length<=200:=ok1
  have ok2:∀ z∈W,Wd z:=ok2
  have ok3:p.length<=9:=ok3
  have hkey:∀ {H':Hp},iT H' pa p->H' pa=some (.tup ((ik p).map kV)):=fun h=>by rw [Mr]; exact h
  refine ⟨ra,_,rfl,SqT.of k1,rfl,_,_,rfl,_,_,rfl,_,_,rfl,rfl,?_⟩
  rw [etk]
  refine seq_post (fun σ' H6=>σ'=[some v,some (.ref tl),some (.ref dt),some (.ref dm),some (.ref fl),some (.int n),some (.ref wa),some (.ref pa),u8,u9,u10]/\∃ (kt km:List (List Key×V)) (d m:Addr),Same H1 H6/\TSame H5 H6/\H6 rw=some (.lst rxs)/\H6 dt=some (.dT kt)/\H6 dm=some (.dT km)/\H6 fl=some (.lst zs)/\kt.length<=i+1/\km.length<=i+1/\EntAll CM dt dm fl ts H6 kt km/\valV kt (ik p)=some (.ref d)/\valV km (ik p)=some (.ref m)/\Ent CM dt dm fl ts H6 p d m) ?_ ?_
  ·intro R hR
   refine ⟨_,rfl,_,rfl,dt,_,rfl,DGet.t (k:=ik p) h5t (hkey k3),_,rfl,?_⟩
   rcases hE p with e | ⟨d,m,e1,e2,hen⟩
   ·rw [e]
    refine iteT ?_
    refine ⟨_,rfl,_,rfl,tl,pa,ts,txs,p,rfl,g5 _ _ htl,Paired.mapP hts fun _ _ z=>z.mono g5.t,k3,by omega,hD.tls.perm hpm,fun t ht=>Aw hD t (hpm.mem_iff.mp ht),fun d kvs H6 g6 hd6 ed htab hnd=>?_⟩
    have h6t:=g6 _ _ h5t
    have nt:d≠dt:=fun z=>by rw [z,h5t] at hd6; cases hd6
    have nm:d≠dm:=fun z=>by rw [z,h5m] at hd6; cases hd6
    have nf:d≠fl:=fun z=>by rw [z,h5f] at hd6; cases hd6
    refine ⟨_,rfl,_,rfl,dt,_,rfl,DPut.t (k:=ik p) h6t (hkey (g6 _ _ k3)) (by omega),?_⟩
    have t7:TSame H6 (upd H6 dt (.dT (putK kt (ik p) (.ref d)))):=TSame.upd fun xs z=>by rw [h6t] at z; cases z
    have h7t:upd H6 dt (.dT (putK kt (ik p) (.ref d))) dt=some (.dT (putK kt (ik p) (.ref d))):=ak
    have h7d:upd H6 dt (.dT (putK kt (ik p) (.ref d))) d=some (.dT kvs):=by rw [aC nt]; exact ed
    have h7m:upd H6 dt (.dT (putK kt (ik p) (.ref d))) dm=some (.dT km):=by rw [aC ntm.symm]; exact g6 _ _ h5m
    have h7f:upd H6 dt (.dT (putK kt (ik p) (.ref d))) fl=some (.lst zs):=by rw [aC ntf.symm]; exact g6 _ _ h5f
    have h7r:upd H6 dt (.dT (putK kt (ik p) (.ref d))) rw=some (.lst rxs):=by rw [aC nrt]; exact g6 _ _ hr5
    have g7:Same H1 (upd H6 dt (.dT (putK kt (ik p) (.ref d)))):=aL hdt (g5.trans g6) _
    have tb7:=eV htab (R:=wnR) (H':=upd H6 dt (.dT (putK kt (ik p) (.ref d)))) fun _ _ z=>z.mono t7
    have k37:iT (upd H6 dt (.dT (putK kt (ik p) (.ref d)))) pa p:=t7 _ _ (g6 _ _ k3)
    have E7:EntAll CM dt dm fl ts (upd H6 dt (.dT (putK kt (ik p) (.ref d)))) kt km:=hE.map fun p d m z=>(z.mono g6).upd (.inl rfl) fun xs y=>by rw [h6t] at y; cases y
    have t57:=g6.t.trans t7
    generalize upd H6 dt (.dT (putK kt (ik p) (.ref d)))=H7 at t7 h7t h7d h7m h7f h7r g7 tb7 k37 E7 t57 ⊢
    have dg:=DGet.t (k:=ik p) h7t (hkey k37)
    rw [dG,if_pos rfl] at dg
    refine ⟨_,rfl,_,rfl,dt,_,rfl,dg,d,kvs,rfl,.inl h7d,fun l ys hl hys=>?_⟩
    intro x dx hx hdx hne
    have g8:=aB hl (.lst ys)
    have hph:=wB tb7 hys
    have kok:∀ l∈aW (TP ts p),1<=l.length/\l.length<=12/\∀ z∈l,Wd z:=fun l hl=>K8 hD hmn hpm l (by rw [kj] at hl; exact hl)
    have klen:(aW (TP ts p)).length<=300:=by
     have h1:=vJ p ts [] fun t ht=>(hD.tls.ok t (hpm.mem_iff.mp ht)).2.1
     have h2:=hpm.length_eq
     have h3:=hD.tls.few
     rw [kj]
     unfold aW
     rw [Ng]
     have h1:(fu p ts).length<=0+6*ts.length:=h1
     omega
    refine ⟨x,l,dx,_,ys,aW (TP ts p),rfl,rfl,hx,hdx,hne,ak,hph.mono g8.t,klen,kok,fun H9 B9 g9 gB9 hB9 hM9=>⟨rfl,?_⟩⟩
    have g79:=g8.trans g9
    have h9m:=g79 _ _ h7m
    have bno:∀ a o,upd H7 l (.lst ys) a=some o->(∀ xs,o≠.tup xs)->B9 a=none:=fun a o ha ho=>by
     cases e:B9 a with
     | none=>rfl
     | some o' =>
      rcases hB9 a o' e with z | ⟨xs,z⟩
      ·rw [ha] at z; cases z
      ·have h1:=gB9 _ _ e
       rw [g9 _ _ ha] at h1
       cases h1
       exact absurd z (ho xs)
    refine ⟨_,rfl,_,rfl,dm,_,rfl,DPut.t (k:=ik p) h9m (hkey (g79 _ _ k37)) (by omega),?_⟩
    have tA:TSame H9 (upd H9 dm (.dT (putK km (ik p) (.ref x)))):=TSame.upd fun xs z=>by rw [h9m] at z; cases z
    have hen:Ent CM dt dm fl ts H9 p d x:=⟨nt,nm,nf,⟨kvs,g79 _ _ h7d,eV tb7 fun _ _ z=>z.mono g79.t⟩,⟨B9,gB9,bno dt _ (g8 _ _ h7t) (fun _ z=>nomatch z),bno dm _ (g8 _ _ h7m) (fun _ z=>nomatch z),bno fl _ (g8 _ _ h7f) (fun _ z=>nomatch z),hM9⟩⟩
    have um:∀ p d m,Ent CM dt dm fl ts H9 p d m->Ent CM dt dm fl ts (upd H9 dm (.dT (putK km (ik p) (.ref x)))) p d m:=fun p d m z=>z.upd (.inr (.inl rfl)) fun xs y=>by rw [h9m] at y; cases y
    have um2:∀ p' d m,Ent CM dt dm fl ts H9 p' d m->Ent CM dt dm fl ts (upd H9 dm (.dT (putK km (ik p) (.ref x)))) p' d m:=fun p' d m z=>z.upd (.inr (.inl rfl)) fun xs y=>by rw [h9m] at y; cases y
    have lp1:=dw kt (ik p) (.ref d)
    have lp2:=dw km (ik p) (.ref x)
    refine hR _ _ ⟨rfl,putK kt (ik p) (.ref d),putK km (ik p) (.ref x),d,x,aL h2m (g7.trans g79) _,(t57.trans g79.t).trans tA,by rw [aC nrm]; exact g79 _ _ h7r,by rw [aC ntm]; exact g79 _ _ h7t,ak,by rw [aC nmf.symm]; exact g79 _ _ h7f,by omega,by omega,?_,by rw [dG,if_pos rfl],by rw [dG,if_pos rfl],um2 _ _ _ hen⟩
    exact (EntAll.put (E7.map fun p d m z=>z.mono g79) hen).map um2
   ·rw [e1]
    refine iteF (hR _ _ ⟨rfl,kt,km,d,m,g5,TSame.refl _,hr5,h5t,h5m,h5f,by omega,by omega,hE,e1,e2,hen⟩)
  ·rintro σ' H6 ⟨rfl,kt,km,d,m,g6,t6,h6r,h6t,h6m,h6f,ltk,lmk,hE6,vt,vm,hen⟩
   have k36:iT H6 pa p:=t6 _ _ k3
   have dgm:=DGet.t (k:=ik p) h6m (hkey k36)
   have dgt:=DGet.t (k:=ik p) h6t (hkey k36)
   rw [vm] at dgm
   rw [vt] at dgt
   obtain ⟨kvs,hd6,htab⟩:=hen.tab
   obtain ⟨B,b1,_,_,_,b5⟩:=hen.mach
   refine ⟨_,rfl,_,rfl,dm,_,rfl,dgm,_,rfl,_,rfl,dt,_,rfl,dgt,_,rfl,m,d,wa,TP ts p,kvs,W,rfl,(Ec CM).mono b5 b1,hd6,htab,t6 _ _ k2,by omega,ok2,fun r7 x7 H7 g7 hr7 er7 hx7=>?_⟩
   rw [BR (hal p)] at hx7
   have eRow:ig fo (n,W,p)=(mbA (winD p (tlsF fo [0])) W).map fun m=>(n,m.1,m.2.1,m.2.2):=rfl
   rw [eRow]
   have mlen:(mbA (winD p (tlsF fo [0])) W).length<=200:=by
    have:=oO (winD p (tlsF fo [0])) W W.length 0
    show (mbD (winD p (tlsF fo [0])) W W.length 0).length<=200
    omega
   generalize mbA (winD p (tlsF fo [0])) W=ms at hx7 mlen
   have n7t:r7≠dt:=fun z=>by rw [z,h6t] at hr7; cases hr7
   have n7m:r7≠dm:=fun z=>by rw [z,h6m] at hr7; cases hr7
   have n7f:r7≠fl:=fun z=>by rw [z,h6f] at hr7; cases hr7
   have xl:=Paired.length hx7
   refine ⟨r7,rfl,⟨_,SqL.of er7⟩,?_⟩
   refine cN (K:=K) (a:=r7) (xs:=x7) (fun j σ' H'=>Same H1 H'/\TSame H7 H'/\H' rw=some (.lst rxs)/\H' r7=some (.lst x7)/\∃ (zs':List V) (u8 u9 u10:Option V),H' dt=some (.dT kt)/\H' dm=some (.dT km)/\H' fl=some (.lst zs')/\EntAll CM dt dm fl ts H' kt km/\mksR H' (((jg fo).take i).flatMap (ig fo)++(ms.take j).map fun m=>(n,m.1,m.2.1,m.2.2)) zs'/\σ'=[some v,some (.ref tl),some (.ref dt),some (.ref dm),some (.ref fl),some (.int n),some (.ref wa),some (.ref pa),u8,u9,u10]) ?_ (fun j σ' H' _ h=>SqL.of h.2.2.2.1) ?_ ?_
   ·refine ⟨g6.trans g7,TSame.refl _,g7 _ _ h6r,er7,zs,_,_,_,g7 _ _ h6t,g7 _ _ h6m,g7 _ _ h6f,hE6.map fun p d m z=>z.mono g7,?_,rfl⟩
    show mksR H7 (_++[]) zs
    rw [N6]
    exact hzs.mono (t6.trans g7.t)
   ·rintro j y σ' H8 hj ⟨g8,t8,h8r,h87,zs',v8,v9,v10,h8t,h8m,h8f,hE8,hz8,rfl⟩
    obtain ⟨m3,em,hm3⟩:=aY hx7 hj
    obtain ⟨ma,mp,rfl,m1,m2⟩:=hm3.mono t8
    have jl:=(Nj.mp em).1
    have zl8:zs'.length<=10000:=by
     have h1:=Paired.length hz8
     rw [Np,Ng,Oc] at h1
     have h2:=Paired.length hzs
     omega
    refine ⟨ma,_,rfl,SqT.of m1,rfl,_,_,rfl,_,_,rfl,_,_,rfl,rfl,?_⟩
    refine ⟨_,rfl,.inl ⟨rfl,_,SqL.of h8f⟩,_,rfl,_,rfl,_,rfl,_,rfl,(by show 4<=sizeLine; decide),fun t9 ht9=>?_⟩
    have g9:=aB ht9 (.tup [.int n,.int m3.1,.int m3.2.1,.ref mp])
    have e9:upd H8 t9 (.tup [.int n,.int m3.1,.int m3.2.1,.ref mp]) t9=some (.tup [.int n,.int m3.1,.int m3.2.1,.ref mp]):=ak
    generalize upd H8 t9 (.tup [.int n,.int m3.1,.int m3.2.1,.ref mp])=H9 at g9 e9
    have h9f:=g9 _ _ h8f
    refine ⟨fl,_,_,rfl,rfl,h9f,by omega,?_⟩
    have tA:TSame H9 (upd H9 fl (.lst (zs'++[.ref t9]))):=TSame.lst h9f
    refine ⟨aL h2f (g8.trans g9) _,(t8.trans g9.t).trans tA,by rw [aC nrf]; exact g9 _ _ h8r,by rw [aC n7f]; exact g9 _ _ h87,zs'++[.ref t9],_,_,_,by rw [aC ntf]; exact g9 _ _ h8t,by rw [aC nmf]; exact g9 _ _ h8m,ak,(hE8.map fun p d m z=>(z.mono g9).upd (.inr (.inr rfl)) fun xs y=>(by rw [h9f] at y; cases y)),?_,rfl⟩
    rw [Oe,em,NK,<- PN]
    exact dO (hz8.mono (g9.t.trans tA)) (.cons ⟨t9,mp,rfl,tA _ _ e9,tA _ _ (g9 _ _ m2)⟩ .nil)
   ·rintro σ' H8 ⟨g8,t8,h8r,h87,zs',v8,v9,v10,h8t,h8m,h8f,hE8,hz8,rfl⟩
    rw [<- xl,Oa] at hz8
    exact ⟨g8,((t5.trans t6).trans g7.t).trans t8,h8r,kt,km,zs',_,_,_,_,_,_,h8t,h8m,h8f,by omega,by omega,hE8,hz8,rfl⟩
 ·rintro σ' H5 ⟨g5,t5,hr5,kt,km,zs,u5,u6,u7,u8,u9,u10,h5t,h5m,h5f,ltk,lmk,hE,hzs,rfl⟩
  rw [<- rl,Oa] at hzs
  exact ⟨_,rfl,q fl zs H5 (g1.trans g5) (g1.free h2f) h5f hzs⟩
end
theorem lA {K:Nh} {a:Addr} {xs:List V} {tt:TT} {te:TE} {fin:List V->Hp->Prop} {σ:St} {H:Hp} (Pv:Nat->List V->Hp->Prop) (hz:xs.length<=sizeLine) (h0:Pv 0 [] H) (hl:∀ i ys H,i<=xs.length->Pv i ys H->SqL K H a xs/\ys.length<=i)
  (hs:∀ i x ys H,xs[i]?=some x->Pv i ys H->∀ (KY:V->Hp->Prop) (KN:Hp->Prop),(∀ y H3,Pv (i+1) (ys++[y]) H3->KY y H3)->(∀ H3,Pv (i+1) ys H3->KN H3)->tt (σ++[some x]) H fun b H2=>if b=true then te (σ++[some x]) H2 KY else KN H2)
  (hd:∀ ys H,Pv xs.length ys H->fin ys H):j4 (Itl K a) tt te fin σ H:=by
 refine ⟨fun i m ys H=>m=xs.length-i/\i<=xs.length/\Pv i ys H,⟨xs.length,by simp,OD _,h0⟩,?_⟩
 rintro i m ys H ⟨rfl,hi,p⟩
 obtain ⟨q,hy⟩:=hl i ys H hi p
 by_cases hlt:i<xs.length
 ·refine .inr ⟨⟨xs,xs[i],q,by simp [hlt]⟩,fun x H' y=>?_⟩
  obtain ⟨e,y⟩:=y
  subst e
  exact hs i x ys _ (y xs q) p _ _ (fun z H3 p3=>⟨by omega,xs.length-(i+1),by omega,rfl,hlt,p3⟩) fun H3 p3=>⟨xs.length-(i+1),by omega,rfl,hlt,p3⟩
 ·have e:i=xs.length:=by omega
  subst e
  exact .inl ⟨⟨xs,q,Nu _⟩,hd ys H p⟩
theorem lJ {K:Nh} {a:Addr} {xs:List V} {te:TE} {fin:List V->Hp->Prop} {σ:St} {H:Hp} (Pv:Nat->List V->Hp->Prop) (hz:xs.length<=sizeLine) (h0:Pv 0 [] H) (hl:∀ i ys H,i<=xs.length->Pv i ys H->SqL K H a xs/\ys.length<=i)
  (hs:∀ i x ys H,xs[i]?=some x->Pv i ys H->∀ (KY:V->Hp->Prop),(∀ y H3,Pv (i+1) (ys++[y]) H3->KY y H3)->te (σ++[some x]) H KY)
  (hd:∀ ys H,Pv xs.length ys H->fin ys H):j4 (Itl K a) tYes te fin σ H :=
 lA Pv hz h0 hl (fun i x ys H hx p KY KN k1 _=>by
  unfold tYes
  dsimp only
  rw [if_pos rfl]
  exact hs i x ys H hx p KY k1) hd
def tnO:Th->List Int
 | .tell n _ _ _ _=>[n]
 | _=>[]
theorem d9:∀ f:L2.F,aV f=f.ord.flatMap tnO
 | .nil=>rfl
 | .say n ws r=>by
  show aV r=_
  rw [d9 r] <;> rfl
 | .tell n sc ph bs ms r=>by
  show n::aV r=_
  rw [d9 r] <;> rfl
 | .part n i r=>by
  show aV i++aV r=(Th.part n i::(i.ord++r.ord)).flatMap tnO
  rw [d9 i,d9 r,Ov,O7] <;> rfl
theorem zJ (l:List Th):(l.flatMap tnO).length<=l.length:=by
 induction l with
 | nil=>exact Nu _
 | cons x r ih =>
  rw [Ov,Np,Oj]
  have:(tnO x).length<=1:=by
   cases x with
   | say n ws=>exact OD _
   | tell n sc ph bs ms=>exact Nu _
   | part n i=>exact OD _
  omega
def Jo:Sp:=fun vs H Q _=>∃ (v:V) (f:L2.F),vs=[v]/\fP H 0 f v/\f.dep<=10/\f.ord.length<=200/\∀ r ys H',Same H H'->H r=none->H' r=some (.lst ys)->thsR H' f.ord ys->Q (.ref r) H'
def JG:Sp:=fun vs H Q _=>∃ (v:V) (f:L2.F),vs=[v]/\fP H 0 f v/\f.dep<=10/\f.ord.length<=200/\∀ r H',Same H H'->H r=none->H' r=some (.lst ((aV f).map V.int))->Q (.ref r) H'
section
variable {P:Program} {w:World} {K:Nh} {mg:Str->Option Value} {base:Heap} {f:Addr} {fd:FuncData}
theorem M6:FnScope ["doc"] ["doc"] (aA d7):=⟨rfl,rfl,rfl,by decide +kernel,rfl,by decide +kernel,by decide +kernel⟩
set_option maxHeartbeats 4000000 in
theorem Ky (F:Fun K "things_of" "things_of" d7 f fd) (GW:Def P w K mg base CX0 21 "things_with_homes" ["part","path"] (sG 21)):FnOk P w K mg base CX0 22 f fd ["doc"] Jo:=by
 refine F.ok M6 (fun vs H Q E h=>?_) (fun cdv A outer s H vs Q E hr h=>?_)
 ·obtain ⟨v,fo,rfl,_⟩:=h
  rfl
 obtain ⟨v,fo,rfl,hv,hdep,hlen,q⟩:=h
 refine ⟨_,aD (aU (ju ["doc"] (aA d7) rfl (by decide +kernel) (by decide +kernel) (cu (aX GW hr (aj (pv 0) (aj (bh (aj au aq)) aq)))) (fun _ _ _ _ _=>mD) (fun _ _ _ _ _=>aJ (r:=rIxT K) bA (pv 1) au (fun _ _=>rfl)))),?_⟩
 have hb:=big
 refine ⟨_,rfl,(by show 1<=sizeLine; decide),fun t0 ht0=>?_⟩
 have g0:=aB ht0 (.tup [.int 0])
 have e0:iT (upd H t0 (.tup [.int 0])) t0 [0]:=ak
 generalize upd H t0 (.tup [.int 0])=H0 at g0 e0 ⊢
 refine ⟨v,0,fo,t0,[0],rfl,thR.mono (t:=.part 0 fo) hv g0.t,e0,by omega,by omega,by show 1+_<=1000; omega,fun r xs H1 g1 fr er hxs=>?_⟩
 have hxl:xs.length=fo.ord.length:=by rw [<- dz hxs,gC]
 refine ⟨r,rfl,⟨_,SqL.of er⟩,?_⟩
 refine lJ (K:=K) (a:=r) (xs:=xs) (fun i ys H'=>H'=H1/\ys.length=i/\thsR H1 (fo.ord.take i) ys) (by omega) ⟨rfl,rfl,.nil⟩ (fun i ys H' hi h=>⟨by rw [h.1]; exact SqL.of er,TF h.2.1⟩) ?_ ?_
 ·rintro i x ys H' hi ⟨rfl,hy,hys⟩ KY hK
  obtain ⟨y,hy2,z,a,u,rfl,k1,k2,k3⟩:=aY hxs hi
  refine ⟨_,rfl,z,_,_,_,rfl,rfl,SqT.of k1,rfl,hK _ _ ⟨rfl,by rw [Np,hy] <;> rfl,?_⟩⟩
  have e:fo.ord[i]?=some y.2:=by
   rw [<- fM [0] fo,NP,hy2] <;> rfl
  rw [Oe,e]
  exact dO hys (.cons k3 .nil)
 ·rintro ys H' ⟨rfl,hy,hys⟩ p hp
  rw [hxl,Oa] at hys
  have g2:=aB hp (.lst ys)
  exact q p ys _ ((g0.trans g1).trans g2) ((g0.trans g1).free hp) ak (hys.mono g2.t)
theorem Ln:FnScope ["doc"] ["doc"] (aA bV):=⟨rfl,rfl,rfl,by decide +kernel,rfl,by decide +kernel,by decide +kernel⟩
set_option maxHeartbeats 4000000 in
theorem Kg (F:Fun K "tellings_numbers" "tellings_numbers" bV f fd) (GT:Def P w K mg base CX0 22 "things_of" ["doc"] Jo):FnOk P w K mg base CX0 23 f fd ["doc"] JG:=by
 refine F.ok Ln (fun vs H Q E h=>?_) (fun cdv A outer s H vs Q E hr h=>?_)
 ·obtain ⟨v,fo,rfl,_⟩:=h
  rfl
 obtain ⟨v,fo,rfl,hv,hdep,hlen,q⟩:=h
 refine ⟨_,aD (aU (ju ["doc"] (aA bV) rfl (by decide +kernel) (by decide +kernel) (cu (aX GT hr (aj (pv 0) aq))) (fun _ _ _ _ _=>oU (aN eG (aJ (r:=rIxT K) bA (pv 1) au (fun _ _=>rfl)) cJ (bD _))) (fun _ _ _ _ _=>aJ (r:=rIxT K) bA (pv 1) au (fun _ _=>rfl)))),?_⟩
 have hb:=big
 refine ⟨_,rfl,v,fo,rfl,hv,hdep,hlen,fun r xs H1 g1 fr er hxs=>?_⟩
 have hxl:xs.length=fo.ord.length:=(Paired.length hxs).symm
 refine ⟨r,rfl,⟨_,SqL.of er⟩,?_⟩
 refine lA (K:=K) (a:=r) (xs:=xs) (fun i ys H'=>H'=H1/\ys=((fo.ord.take i).flatMap tnO).map V.int) (by omega) ⟨rfl,rfl⟩ (fun i ys H' hi h=>⟨by rw [h.1]; exact SqL.of er,by
  rw [h.2,Ng]
  have:=zJ (fo.ord.take i)
  rw [Oc] at this
  omega⟩) ?_ ?_
 ·rintro i x ys H' hi ⟨rfl,rfl⟩ KY KN hK hN
  obtain ⟨t,et,ht⟩:=aY hxs hi
  obtain ⟨ta,tx,rfl,hta,hk0,hk1⟩:=gU ht
  have etk:(fo.ord.take (i+1)).flatMap tnO=(fo.ord.take i).flatMap tnO++tnO t:=by
   rw [Oe,et,O7]
   show _++(tnO t++[])=_
   rw [N6]
  refine ⟨_,rfl,ta,_,_,_,rfl,rfl,SqT.of hta,hk0,rfl,_,rfl,?_⟩
  cases t with
  | say n ws =>
   rw [show decide (V.str (knd (.say n ws))=V.str "tell")=false from (by decide:decide (V.str "say"=V.str "tell")=false)]
   refine iteF (hN _ ⟨rfl,?_⟩)
   rw [etk]
   show _=List.map V.int (_++[])
   rw [N6]
  | part n fi =>
   rw [show decide (V.str (knd (.part n fi))=V.str "tell")=false from (by decide:decide (V.str "part"=V.str "tell")=false)]
   refine iteF (hN _ ⟨rfl,?_⟩)
   rw [etk]
   show _=List.map V.int (_++[])
   rw [N6]
  | tell n sc ph bs ms =>
   rw [show decide (V.str (knd (.tell n sc ph bs ms))=V.str "tell")=true from (by decide:decide (V.str "tell"=V.str "tell")=true)]
   refine iteT ⟨_,rfl,ta,_,_,_,rfl,rfl,SqT.of hta,hk1,hK _ _ ⟨rfl,?_⟩⟩
   rw [etk,NK] <;> rfl
 ·rintro ys H' ⟨rfl,rfl⟩ p hp
  rw [hxl,Oa,<- d9]
  exact q p _ (g1.trans (aB hp _)) (g1.free hp) ak
end
def bG (n:Int) (ms:List Mk):List Int:=(ms.filter fun m=>decide (m.1=n)).flatMap fun m=>m.2.2.2
theorem jH:∀ (f:L2.F) (p:List Int),(tlsF f p).map (·.1)=aV f
 | .nil,_=>rfl
 | .say n ws r,p=>jH r p
 | .tell n sc ph bs ms r,p=>by
  show n::(tlsF r p).map (·.1)=n::aV r
  rw [jH r p]
 | .part n i r,p=>by
  show (tlsF i (p++[n])++tlsF r p).map (·.1)=aV i++aV r
  rw [NK,jH i,jH r]
theorem Ia {ns:List Int} {ws:List Str} {f:L2.F} {pl:List Int} (h:DocQ ns ws f 12):∀ k w,aQ (winD pl (tlsF f [0])) k=some w->∀ x∈w,x∈aV f:=fun k w hw x hx=>by
 unfold winD at hw
 rw [lZ] at hw
 have c:Ch pl k (tlsF f [0]) (aQ (fu pl (tlsF f [0])) k):=rJ fun t ht=>(h.tls.ok t ht).1
 cases e:aQ (fu pl (tlsF f [0])) k with
 | none=>rw [e] at hw; cases hw
 | some b =>
  rw [e] at hw c
  cases hw
  obtain ⟨M,l⟩:=b
  obtain ⟨_,_,_,el⟩:=c
  have hx:x∈l:=(Ti l _).mem_iff.mp hx
  rw [el] at hx
  obtain ⟨t,ht,rfl⟩:=Oq.mp hx
  rw [<- jH f [0]]
  exact Oq.mpr ⟨t,(Qv.mp ht).1,rfl⟩
theorem zu {T:Tab (List Int)} {W:List Str} {c:Int->Prop} (h:∀ k w,aQ T k=some w->∀ x∈w,c x):∀ f k,∀ m∈mbD T W f k,∀ x∈m.2.2,c x
 | 0,_,_,hm=>nomatch hm
 | f+1,k,m,hm=>by
  have e:mbD T W (f+1) k=if k<W.length then mb1 T W k++mbD T W f (k+max (dueN W k (aW T)) 1) else []:=rfl
  rw [e] at hm
  split at hm
  ·rcases Nz.mp hm with z | z
   ·unfold mb1 at z
    split at z
    ·rw [Nq.mp z]
     intro x hx
     have hx:x∈(aQ T ((W.drop k).take (dueN W k (aW T)))).getD []:=hx
     cases q:aQ T ((W.drop k).take (dueN W k (aW T))) with
     | none=>rw [q] at hx; cases hx
     | some w=>rw [q] at hx; exact h _ w q x hx
    ·cases z
   ·exact zu h f _ m z
  ·cases hm
theorem HJ {ns:List Int} {ws:List Str} {f:L2.F} (h:DocQ ns ws f 12):∀ m∈mkD f,∀ x∈m.2.2.2,x∈aV f:=fun m hm=>by
 obtain ⟨r,_,hr⟩:=Qn.mp hm
 obtain ⟨m',hm',rfl⟩:=Oq.mp hr
 exact zu (Ia h) _ _ m' hm'
theorem qO {ns:List Int} {ws:List Str} {f:L2.F} (h:DocQ ns ws f 12) {n:Int} {k:Nat}:∀ x∈bG n ((mkD f).take k),x∈aV f:=fun x hx=>by
 obtain ⟨m,hm,hx⟩:=Qn.mp hx
 exact HJ h m (Pg (Qv.mp hm).1) x hx
theorem zq {β:Type} {g:Rw3->List (Int×β)} {n:Int} {c:Nat}:∀ {R:List Rw3},(R.map (·.1)).Nodup->(∀ r∈R,∀ m∈g r,m.1=r.1)->(∀ r∈R,r.1=n->(g r).length<=c)->((R.flatMap g).filter fun m=>decide (m.1=n)).length<=c
 | [],_,_,_=>OD _
 | r::R,nd,h1,h2=>by
  obtain ⟨a,b⟩:=Od.mp (show (r.1::R.map (·.1)).Nodup from nd)
  rw [Ov,Qy,Np]
  by_cases e:r.1=n
  ·have e0:(R.flatMap g).filter (fun m=>decide (m.1=n))=[]:=by
    rw [Rk]
    intro m hm z
    obtain ⟨q,hq,hm⟩:=Qn.mp hm
    have z:m.1=n:=of_decide_eq_true z
    have:=h1 q (Nt _ hq) m hm
    exact a (Oq.mpr ⟨q,hq,by rw [e,<- z,this]⟩)
   rw [e0]
   have h3:=Qx (fun m:Int×β=>decide (m.1=n)) (g r)
   have h4:=h2 r Ny e
   show _+0<=c
   omega
  ·have e0:(g r).filter (fun m=>decide (m.1=n))=[]:=by
    rw [Rk]
    intro m hm z
    have z:m.1=n:=of_decide_eq_true z
    exact e (by rw [<- z,h1 r Ny m hm])
   rw [e0]
   show 0+_<=c
   rw [Nat.zero_add]
   exact zq b (fun q hq=>h1 q (Nt _ hq)) fun q hq=>h2 q (Nt _ hq)
theorem j9:∀ l:List PTh,((l.flatMap rowO).map (·.1)).Sublist (l.map fun x=>x.2.num)
 | []=>List.Sublist.slnil
 | x::l=>by
  obtain ⟨p,t⟩:=x
  rw [Ov,NK,Ow]
  cases t with
  | say n ws=>exact (j9 l).cons₂ n
  | tell n sc ph bs ms=>exact (j9 l).cons₂ n
  | part n i=>exact (j9 l).cons n
theorem Il {ns:List Int} {ws:List Str} {f:L2.F} (h:DocQ ns ws f 12):((jg f).map (·.1)).Nodup:=by
 refine List.Nodup.sublist (j9 _) ?_
 have e:(ordP [0] f).map (fun x:PTh=>x.2.num)=f.ord.map Th.num:=by rw [<- fM [0] f,Pq] <;> rfl
 rw [e]
 exact h.nd
theorem zO {f:L2.F} (nd:(f.ord.map Th.num).Nodup) {a b:Th} (ha:a∈f.ord) (hb:b∈f.ord) (e:a.num=b.num):a=b:=kZ nd ha hb e
theorem HF {f:L2.F} {n:Int} (h:n∈aV f):∃ sc ph bs ms,Th.tell n sc ph bs ms∈f.ord:=by
 rw [d9] at h
 obtain ⟨t,ht,hn⟩:=Qn.mp h
 cases t with
 | say m zs=>cases hn
 | part m i=>cases hn
 | tell m sc ph bs ms =>
  have:n=m:=Nq.mp hn
  subst this
  exact ⟨sc,ph,bs,ms,ht⟩
theorem mz {ns:List Int} {ws:List Str} {f:L2.F} (h:DocQ ns ws f 12) {n:Int} (hn:n∈aV f) (k:Nat):(bG n ((mkD f).take k)).length<=2700:=by
 obtain ⟨sc,ph,bs,ms,ht⟩:=HF hn
 have h60:ms.length<=60:=(show TlOk ws sc ph bs ms from h.ok _ ht).2.2.2.2.2.2.1
 have h1:((mkD f).filter fun m=>decide (m.1=n)).length<=60:=by
  refine zq (g:=ig f) (Il h) (fun r _ m hm=>?_) fun r hr e=>?_
  ·obtain ⟨m',_,rfl⟩:=Oq.mp hm
   rfl
  ·unfold ig
   rw [Ng]
   have h2:=oO (winD r.2.2 (tlsF f [0])) r.2.1 r.2.1.length 0
   refine OJ h2 ?_
   obtain ⟨⟨xp,xt⟩,hx,hq⟩:=Qn.mp hr
   have hxo:=lY hx
   cases xt with
   | part m i=>cases hq
   | say m zs =>
    rw [Nq.mp (show r∈[(m,zs,xp)] from hq)] at e
    have:Th.say m zs=Th.tell n sc ph bs ms:=zO h.nd hxo ht e
    cases this
   | tell m sc' ph' bs' ms' =>
    have er:=Nq.mp (show r∈[(m,ms',xp)] from hq)
    rw [er] at e
    have:Th.tell m sc' ph' bs' ms'=Th.tell n sc ph bs ms:=zO h.nd hxo ht e
    cases this
    rw [er]
    exact h60
 have h3:(((mkD f).take k).filter fun m=>decide (m.1=n)).length<=60:=OJ (((Ss k (mkD f)).filter _).length_le) h1
 have h4:=oR (c:=45) (g:=fun m:Mk=>m.2.2.2) (l:=((mkD f).take k).filter fun m=>decide (m.1=n)) fun m hm=>ur h m (Pg (Qv.mp hm).1)
 show (List.flatMap _ _).length<=2700
 omega
theorem uR {ns:List Int} {ws:List Str} {f:L2.F} (h:DocQ ns ws f 12):(aV f).Nodup:=by
 have:(aV f).Sublist (f.ord.map Th.num):=by
  rw [d9]
  induction f.ord with
  | nil=>exact List.Sublist.slnil
  | cons t r ih =>
   rw [Ov,Ow]
   cases t with
   | say n ws=>exact ih.cons n
   | tell n sc ph bs ms=>exact ih.cons₂ n
   | part n i=>exact ih.cons n
 exact h.nd.sublist this
theorem rK {ns:List Int} {ws:List Str} {f:L2.F} (h:DocQ ns ws f 12):(aV f).length<=45:=by
 rw [d9]
 exact OJ (zJ _) h.few
theorem rZ (n:Int) (ms:List Mk) (m:Mk):bG n (ms++[m])=if m.1=n then bG n ms++m.2.2.2 else bG n ms:=by
 unfold bG
 rw [Qy,O7]
 by_cases e:m.1=n
 ·rw [if_pos e,R6 (by simpa using e)]
  show _++(m.2.2.2++[])=_
  rw [N6]
 ·rw [if_neg e,Ut (by simpa using e)]
  show _++[]=_
  rw [N6]
end D
namespace L2
open PySem PySem.Spec PySem.W PySem.Calls PyProof.Rows
structure Tb (led:Bool) (t:SetTable):Prop where
 rise:t.place.toList.Pairwise (· < ·)
 dum:t.dummies=#[]
 led:t.led=led
theorem pA {xs:Array Nat} (h:xs.toList.Pairwise (· < ·)) {i k:Nat} (hik:i<k) (hk:k<xs.size):xs[i]'(TV hik hk)<xs[k]:=by
 have:=RM.mp h i k (by simpa using TV hik hk) (by simpa using hk) hik
 simpa using this
theorem rN {xs:Array Nat} {j:Nat} (hr:xs.toList.Pairwise (· < ·)):∀ (fuel lo hi:Nat),hi<=xs.size->hi-lo<=fuel->lo<=hi->(∀ i (h:i<xs.size),i<lo->xs[i]<j)->(∀ i (h:i<xs.size),hi<=i->j<=xs[i]) ->
  SetTable.below.go xs j fuel lo hi<=xs.size/\(∀ i (h:i<xs.size),i<SetTable.below.go xs j fuel lo hi->xs[i]<j)/\∀ i (h:i<xs.size),SetTable.below.go xs j fuel lo hi<=i->j<=xs[i]
 | 0,lo,hi,h1,h2,h3,h4,h5=>by
  have:lo=hi:=by omega
  subst this
  rw [SetTable.below.go.eq_def]
  exact ⟨h1,h4,h5⟩
 | fuel+1,lo,hi,h1,h2,h3,h4,h5=>by
  rw [SetTable.below.go.eq_def]
  dsimp only
  by_cases c:lo<hi
  ·rw [if_pos c]
   have hm:(lo+hi) / 2<xs.size:=by omega
   have eg:xs.getD ((lo+hi) / 2) j=xs[(lo+hi) / 2]:=by simp [Array.getD,hm]
   rw [eg]
   by_cases d:xs[(lo+hi) / 2]<j
   ·rw [if_pos d]
    refine rN hr fuel _ hi h1 (by omega) (by omega) (fun i h hi'=>?_) h5
    rcases Wv i ((lo+hi) / 2) with z | z
    ·exact TV (pA hr z hm) d
    ·have:i=(lo+hi) / 2:=by omega
     subst this
     exact d
   ·rw [if_neg d]
    refine rN hr fuel lo _ (by omega) (by omega) (by omega) h4 (fun i h hi'=>?_)
    rcases Wv ((lo+hi) / 2) i with z | z
    ·have:=pA hr z h
     omega
    ·have:i=(lo+hi) / 2:=by omega
     subst this
     omega
  ·rw [if_neg c]
   have:lo=hi:=by omega
   subst this
   exact ⟨h1,h4,h5⟩
theorem lu {xs:Array Nat} (hr:xs.toList.Pairwise (· < ·)) (j:Nat):SetTable.below xs j<=xs.size/\(∀ i (h:i<xs.size),i<SetTable.below xs j->xs[i]<j)/\∀ i (h:i<xs.size),SetTable.below xs j<=i->j<=xs[i] :=
 rN hr _ 0 _ (Nu _) (by omega) (OD _) (fun i _ h=>absurd h (Vl _)) (fun i h h'=>absurd h (by omega))
def slotAt (xs:Array Nat):Nat->Nat
 | 0=>0
 | i+1=>xs.getD i 0+1
theorem yd {xs:Array Nat} (hr:xs.toList.Pairwise (· < ·)):∀ i,i<=xs.size->SetTable.below xs (slotAt xs i)=i
 | 0,_=>by
  obtain ⟨a,b,c⟩:=lu hr 0
  cases e:SetTable.below xs 0 with
  | zero=>exact e
  | succ k =>
   have:=b 0 (by omega) (by omega)
   omega
 | i+1,hi=>by
  have hi':i<xs.size:=by omega
  have es:slotAt xs (i+1)=xs[i]+1:=by
   show xs.getD i 0+1=_
   simp [Array.getD,hi']
  rw [es]
  obtain ⟨a,b,c⟩:=lu hr (xs[i]+1)
  rcases Nat.lt_trichotomy (SetTable.below xs (xs[i]+1)) (i+1) with z | z | z
  ·have:=c i hi' (by omega)
   omega
  ·exact z
  ·have h1:i+1<xs.size:=by omega
   have h2:=b (i+1) h1 z
   have h3:xs[i]<xs[i+1]:=pA hr (Q8 i) h1
   omega
theorem Ke {led:Bool} {t:SetTable} {j:Nat} (h:Tb led t) (hj:t.slot j=.empty):Tb led (t.put j).1:=by
 obtain ⟨a,b,c⟩:=lu h.rise j
 have ne:¬ (t.place[SetTable.below t.place j]?==some j)=true:=fun z=>by
  unfold SetTable.slot at hj
  rw [if_pos z] at hj
  cases hj
 refine ⟨?_,?_,h.led⟩
 ·show (SetTable.insertAt t.place (SetTable.below t.place j) j).toList.Pairwise (· < ·)
  generalize hp:SetTable.below t.place j=p at a b c ne
  have e:(SetTable.insertAt t.place p j).toList=t.place.toList.take p++j::t.place.toList.drop p:=by
   unfold SetTable.insertAt
   simp only [Array.toList_append,Sy,Array.toList_extract,List.extract_eq_take_drop,PN,Rb,Tj,SN,TX]
   congr 2
   exact Pb (by simp)
  rw [e]
  refine List.pairwise_append.mpr ⟨h.rise.sublist (Ss _ _),T3.mpr ⟨fun x hx=>?_,h.rise.sublist (Wk _ _)⟩,fun x hx y hy=>?_⟩
  ·obtain ⟨k,hk,rfl⟩:=RG.mp hx
   rw [O9] at hk
   have hk':p+k<t.place.size:=by simpa using (by omega:p+k<t.place.toList.length)
   rw [Wm,Tc]
   cases k with
   | zero =>
    have h1:=c p hk' (Nu _)
    have h2:t.place[p]≠j:=fun z=>ne (by rw [show t.place[p]?=some t.place[p] from O1 hk',z]; exact beq_self_eq_true _)
    show j<t.place[p]
    omega
   | succ k =>
    have hp':p<t.place.size:=by omega
    have h1:=c p hp' (Nu _)
    have h3:=pA h.rise (show p<p+(k+1) by omega) hk'
    omega
  ·have hx':x<j:=by
    obtain ⟨k,hk,rfl⟩:=RG.mp hx
    rw [Oc] at hk
    have hk':k<t.place.size:=by simpa using (by omega:k<t.place.toList.length)
    rw [List.getElem_take,Tc]
    exact b k hk' (by omega)
   rcases NT.mp hy with rfl | hy
   ·exact hx'
   ·obtain ⟨k,hk,rfl⟩:=RG.mp hy
    rw [O9] at hk
    have hk':p+k<t.place.size:=by simpa using (by omega:p+k<t.place.toList.length)
    rw [Wm,Tc]
    have:=c (p+k) hk' (by omega)
    omega
 ·show (if SetTable.has t.dummies j=true then _ else t.dummies)=#[]
  rw [h.dum]
  rfl
theorem oJ {led:Bool} {t:SetTable} (hh:Tb led t) {h:Int}:∀ (fuel:Nat) (p:SetTable.Probe) {j:Nat} {d:Option Nat},p.dummy=none->SetTable.probe.go t (fun _=>h+1) h fuel p=some (.empty j d)->d=none/\t.slot j=.empty
 | 0,p,j,d,hp,e=>by rw [SetTable.probe.go.eq_def] at e; cases e
 | fuel+1,p,j,d,hp,e=>by
  rw [SetTable.probe.go.eq_def] at e
  dsimp only at e
  cases es:t.slot p.j with
  | empty =>
   rw [es] at e
   cases e
   exact ⟨hp,es⟩
  | dummy =>
   exfalso
   unfold SetTable.slot at es
   rw [hh.dum] at es
   have hf:SetTable.has #[] p.j=false:=rfl
   rw [hf] at es
   dsimp only at es
   split at es
   ·cases es
   ·cases es
  | live i =>
   rw [es] at e
   have hne:¬ ((h+1==h)=true):=fun z=>by
    have:=LawfulBEq.eq_of_beq z
    omega
   dsimp only at e
   rw [if_neg hne] at e
   refine oJ hh fuel (t.advance p) ?_ e
   unfold SetTable.advance
   split
   ·exact hp
   ·exact hp
theorem xu {led:Bool} {t:SetTable} (hh:Tb led t) {h:Int} {j:Nat} {b:Bool} (e:t.freeSlot h=some (j,b)):t.slot j=.empty:=by
 unfold SetTable.freeSlot SetTable.probe at e
 split at e
 ·rename_i j' d hm
  obtain ⟨rfl,hs⟩:=oJ hh _ _ rfl hm
  cases e
  exact hs
 ·cases e
theorem mU {led:Bool} {t:SetTable} (h:t.led=led) (n:Nat):Tb led (t.standIn n):=by
 refine ⟨?_,rfl,h⟩
 show (Array.range n).toList.Pairwise (· < ·)
 rw [Array.toList_range]
 exact Va
theorem Mh {led:Bool} {t:SetTable} (h:Tb led t) (n:Nat):Tb led (t.orStandIn n):=by
 unfold SetTable.orStandIn
 split
 ·exact h
 ·exact mU h.led n
theorem Ar {led:Bool} {t:SetTable} {es:Array (Int×Value)} {h:Int} {x:Value} (hh:Tb led t):Tb led (layNew t es h x).2.1:=by
 unfold layNew
 split
 ·rename_i slot was e
  exact Mh (Ke hh (xu hh e)) _
 ·exact mU hh.led _
theorem tK (f:Nat->Option Nat):∀ l:List Nat,l.Pairwise (· < ·)->((l.filterMap fun j=>(f j).map fun x=>(j,x)).map (·.1)).Pairwise (· < ·)
 | [],_=>.nil
 | j::l,h=>by
  obtain ⟨h1,h2⟩:=T3.mp h
  have ih:=tK f l h2
  rw [Qp]
  cases e:f j with
  | none=>exact ih
  | some x =>
   refine T3.mpr ⟨fun y hy=>?_,ih⟩
   obtain ⟨z,hz,rfl⟩:=Oq.mp hy
   obtain ⟨k,hk,ek⟩:=Pu.mp hz
   cases e2:f k with
   | none=>rw [e2] at ek; cases ek
   | some u =>
    rw [e2] at ek
    cases ek
    exact h1 k hk
theorem Dk {led:Bool} {t:SetTable} {es:Array (Int×Value)} {n:Nat} (hh:t.led=led):Tb led (relayAll t es n).2.1:=by
 unfold relayAll
 split
 ·rename_i t' order e
  dsimp only
  split
  ·unfold SetTable.relaid SetTable.laid at e
   cases e2:SetTable.layClean (SetTable.sizeAbove n-1) (es.map (·.1)) with
   | none=>rw [e2] at e; cases e
   | some owner =>
    rw [e2] at e
    cases e
    exact ⟨tK (fun j=>owner.getD j none) _ Va,rfl,hh⟩
  ·exact mU hh _
 ·exact mU hh _
theorem get_erase {α:Type}:∀ (l:List α) (i:Nat) (h:i<l.length),(l[i]::l.eraseIdx i).Perm l
 | a::l,0,_=>by simp
 | a::l,i+1,h=>by
  have ih:=get_erase l i (by simpa using h)
  simp only [List.getElem_cons_succ,List.eraseIdx_cons_succ]
  exact (List.Perm.swap a _ _).trans (ih.cons a)
theorem zK {α:Type} (next:Nat->Nat):∀ (fuel k:Nat) (left:List α) (out:Array α),left.length=fuel->(pickOrder.go next fuel k left out).toList.Perm (out.toList++left)
 | 0,k,left,out,h=>by
  rw [pickOrder.go.eq_def]
  rw [List.eq_nil_of_length_eq_zero h,N6]
 | fuel+1,k,left,out,h=>by
  rw [pickOrder.go.eq_def]
  dsimp only
  have hl:next k % left.length<left.length:=Nat.mod_lt _ (by omega)
  rw [Nr hl]
  dsimp only
  refine (zK next fuel (k+1) _ _ (by rw [Tz hl]; omega)).trans ?_
  rw [Sy,PN]
  refine List.Perm.append_left _ ?_
  exact get_erase left _ hl
theorem rT {α:Type} (next:Nat->Nat) (xs:Array α):(pickOrder next xs).toList.Perm xs.toList:=by
 have:=zK next xs.size 0 xs.toList #[] (by simp)
 simpa [pickOrder] using this
namespace SF2
theorem slot_next:Slot "set_iterator" (Str.ofString "__next__") "set_iterator.__next__" :=
 Slot.of (by rw [typeLookup_type,builtinLookup_eq_fast]; rfl) (by rfl) (by rfl) (by rfl) (Or.inl (by rfl)) (by rw [isSubtype_type]; rfl) (by decide +kernel)
theorem entry_next:entryFor table "set_iterator.__next__"=some Builtin.«set_iterator.__next__»:=Uz (by kernel_rfl)
theorem entry_iter:entryFor table "set.__iter__"=some Builtin.«frozenset.__iter__»:=entryFor_alias (id':="frozenset.__iter__") (by kernel_rfl) rfl (by decide +kernel) (by kernel_rfl)
theorem args_next (a:Value):argsOk "set_iterator.__next__" { pos:=[a] }:=by
 unfold argsOk
 rw [signature?_of (id:="set_iterator.__next__") (o:="set_iterator".toList.reverse) (n:="__next__".toList.reverse) (rows:=Manifest.sig_set_iterator) (by rfl) (by kernel_rfl)]
 rfl
end SF2
def dW (w:World):Bool:=w.params.followText "set-order"
structure SetE (prog:Program) (w:World) (ns:List Int) (es:Array (Int×Value)):Prop where
 els:Paired (fun (e:Int×Value) (n:Int)=>e.1=hashInt n/\∃ t,e.2=.int n t) es.toList ns
 nd:ns.Nodup
structure SetI (prog:Program) (w:World) (h:Heap) (a:Addr) (ns:List Int) (o:Obj) (es:Array (Int×Value)) (ep:Nat) (t:SetTable):Prop where
 get:h.get? a=some o
 ex:o.ExactSet
 data:o.data=.set es ep t
 el:SetE prog w ns es
 few:es.size<scanBound
 fit:t.fits es.size=true
 tb:Tb (!dW w) t
section
variable {prog:Program} {w:World} {A:Around} {E:Value->Shared->Prop} {s:Shared} {a:Addr} {ns:List Int} {o:Obj} {es:Array (Int×Value)} {ep:Nat} {t:SetTable}
theorem yG {α β:Type} {R:α->β->Prop}:∀ {l:List α} {m:List β},Paired R l m->∀ x∈l,∃ y∈m,R x y
 | _,_,.nil,x,h=>nomatch h
 | _,_,.cons r t,x,h=>by
  rcases NT.mp h with rfl | h
  ·exact ⟨_,Ny,r⟩
  ·obtain ⟨y,hy,hr⟩:=yG t x h
   exact ⟨y,Nt _ hy,hr⟩
theorem zj {α β:Type} {R:α->β->Prop}:∀ {l:List α} {m:List β},Paired R l m->∀ y∈m,∃ x∈l,R x y
 | _,_,.nil,x,h=>nomatch h
 | _,_,.cons r t,x,h=>by
  rcases NT.mp h with rfl | h
  ·exact ⟨_,Ny,r⟩
  ·obtain ⟨y,hy,hr⟩:=zj t x h
   exact ⟨y,Nt _ hy,hr⟩
theorem Aa {α β:Type} {R:α->β->Prop} {l l':List α} (p:l'.Perm l):∀ {m:List β},Paired R l m->∃ m',m'.Perm m/\Paired R l' m':=by
 induction p with
 | nil=>intro m h; cases h; exact ⟨[],.nil,.nil⟩
 | cons x p ih =>
  intro m h
  cases h with
  | cons r t =>
   obtain ⟨m',h1,h2⟩:=ih t
   exact ⟨_,h1.cons _,.cons r h2⟩
 | swap x y l =>
  intro m h
  cases h with
  | cons r t =>
   cases t with
   | cons r' t=>exact ⟨_,.swap _ _ _,.cons r' (.cons r t)⟩
 | trans p1 p2 ih1 ih2 =>
  intro m h
  obtain ⟨m1,a1,a2⟩:=ih2 h
  obtain ⟨m2,b1,b2⟩:=ih1 a2
  exact ⟨m2,b1.trans a1,b2⟩
theorem SetE.elems (h:SetE prog w ns es):ElemsOf (intKind prog w) es.toList:=fun e he=>by
 obtain ⟨n,_,h1,u,h2⟩:=yG h.els e he
 refine ⟨⟨n,?_,h1⟩,?_⟩
 ·rw [h2]; exact decide_eq_true rfl
 ·rw [h2]; rfl
theorem SetE.perm {es':Array (Int×Value)} (h:SetE prog w ns es) (p:es'.toList.Perm es.toList):∃ ns',ns'.Perm ns/\SetE prog w ns' es':=by
 obtain ⟨ns',h1,h2⟩:=Aa p h.els
 exact ⟨ns',h1,h2,h1.nodup_iff.mpr h.nd⟩
theorem SetE.find {n:Int} (h:SetE prog w ns es):(∃ j,es.toList.findIdx? (fun e=>(intKind prog w).is n e.2)=some j/\n∈ns)∨(es.toList.findIdx? (fun e=>(intKind prog w).is n e.2)=none/\n∉ns):=by
 cases e:es.toList.findIdx? (fun e=>(intKind prog w).is n e.2) with
 | none =>
  refine .inr ⟨rfl,fun hn=>?_⟩
  obtain ⟨x,hx,h1,u,h2⟩:=zj h.els n hn
  have:=List.findIdx?_eq_none_iff.mp e x hx
  rw [h2] at this
  have h3:(intKind prog w).is n (.int n u)=true:=decide_eq_true rfl
  rw [h3] at this
  cases this
 | some j =>
  refine .inl ⟨j,rfl,?_⟩
  obtain ⟨hj,hp,_⟩:=List.findIdx?_eq_some_iff_getElem.mp e
  obtain ⟨m,hm,h1,u,h2⟩:=yG h.els _ (Qm hj)
  rw [h2] at hp
  have:n=m:=(intKind prog w).inj _ _ _ hp (decide_eq_true rfl)
  rw [this]; exact hm
end
end L2
namespace L2
open PySem PySem.Spec PySem.W PySem.Calls PyProof.Rows
section
variable {prog:Program} {w:World} {A:Around} {E:Value->Shared->Prop} {s:Shared} {a:Addr} {ns:List Int} {o:Obj} {es:Array (Int×Value)} {ep:Nat} {t:SetTable}
theorem Dw {α β:Type} {R:α->β->Prop}:∀ {l:List α} {m:List β} {l':List α} {m':List β},Paired R l m->Paired R l' m'->Paired R (l++l') (m++m')
 | _,_,_,_,.nil,h=>h
 | _,_,_,_,.cons r t,h=>.cons r (Dw t h)
theorem lN {n:Nat} (h:n<scanBound):n<=sizeLine:=by
 have h1:scanBound=4096:=rfl
 have h2:4096<=sizeLine:=by decide
 omega
theorem eU {h h1 h2:Heap} (x:Heap.SameBut a h h1) (y:Heap.SameBut a h1 h2):Heap.SameBut a h h2:=⟨y.1.trans x.1,fun b hb=>(y.2 b hb).trans (x.2 b hb)⟩
theorem stored {h:Heap} {es1:Array (Int×Value)} {t1:SetTable} (e1:h.get? a=some o) (ex:o.ExactSet) (e3:o.data=.set es ep t):∃ o',(h.update a (Obj.putSet es1 t1)).get? a=some o'/\o'.ExactSet/\o'.data=.set es1 (ep+1) t1:=by
 have e:Obj.putSet es1 t1 o={ cls:=o.cls,dict:=o.dict,data:=.set es1 (ep+1) t1,slots:=o.slots }:=putSet_of es1 t1 e3
 refine ⟨Obj.putSet es1 t1 o,Pk _ e1 (by rw [e]; rfl),?_,?_⟩
 ·rw [e]; exact ex
 ·rw [e]
theorem mX {g:Bool->Sem Unit} (hg:∀ (b:Bool) (s1:Shared) (Q':Unit->Shared->Prop),Q' () s1->wpAny (model prog w) A (g b) Q' E s1) (e1:s.heap.get? a=some o) (ex:o.ExactSet) (e3:o.data=.set es ep t)
  {es1:Array (Int×Value)} {t1:SetTable} (few:es1.size<scanBound) (fit:t1.fits es1.size=true) (tb:Tb (!dW w) t1) (el:SetE prog w ns es1) {was:Bool} {R:Option Bool->Shared->Prop}
  (q:∀ h' ns' o' es' ep' t',Heap.SameBut a s.heap h'->SetI prog w h' a ns' o' es' ep' t'->ns'.Perm ns->es'.size=es1.size->R (some true) { s with heap:=h' }) :
  wpAny (model prog w) A (do
   storeSet a es1 t1
   if (!was && t1.tooFull)=true then do
    g (relayAll t1 es1 (SetTable.grown es1.size)).snd.snd
    storeSet a (relayAll t1 es1 (SetTable.grown es1.size)).fst (relayAll t1 es1 (SetTable.grown es1.size)).snd.fst
    pure (some true)
   else pure (some true)) R E s:=by
 refine Nf (Wn e1 e3 ?_ (lN few))
 obtain ⟨o1,a1,a2,a3⟩:=stored (es1:=es1) (t1:=t1) e1 ex e3
 have sb:=Heap.SameBut.update s.heap a (Obj.putSet es1 t1)
 generalize s.heap.update a (Obj.putSet es1 t1)=h1 at a1 sb ⊢
 split
 ·refine Nf (hg _ _ _ ?_)
  have pm:=relayAll_perm t1 es1 (SetTable.grown es1.size)
  have hf:=relayAll_fits t1 es1 (SetTable.grown es1.size)
  have htb:=Dk (es:=es1) (n:=SetTable.grown es1.size) tb.led
  generalize relayAll t1 es1 (SetTable.grown es1.size)=r at pm hf htb ⊢
  have sz:r.1.size=es1.size:=by simpa using pm.length_eq
  refine Nf (Wn (s:={ s with heap:=h1 }) a1 a3 (Ni ?_) (lN (by omega)))
  obtain ⟨o2,b1,b2,b3⟩:=stored (es1:=r.1) (t1:=r.2.1) a1 a2 a3
  obtain ⟨ns',p1,p2⟩:=el.perm pm
  exact q _ ns' o2 r.1 _ _ (eU sb (Heap.SameBut.update ..)) ⟨b1,b2,b3,p2,by omega,hf,htb⟩ p1 sz
 ·exact Ni (q _ ns o1 es1 _ _ sb ⟨a1,a2,a3,el,few,fit,tb⟩ (.refl _) rfl)
theorem DY {n:Int} {tk:Tok} {Q:Bool->Shared->Prop} (I:SetI prog w s.heap a ns o es ep t) (few:es.size+1<scanBound)
  (q:∀ b h' ns' o' es' ep' t',Heap.SameBut a s.heap h'->SetI prog w h' a ns' o' es' ep' t'->(∀ m,m∈ns'↔m∈ns∨m=n)->es'.size<=es.size+1->Q b { s with heap:=h' }):wpAny (model prog w) A (setAddHashed a (.int n tk) (hashInt n)) Q E s:=by
 unfold setAddHashed
 refine Pa ?_
 rw [show (100000:Nat)=99999+1 from rfl,setAddHashedIn.eq_def]
 dsimp only
 refine Nf (QG I.get I.data I.fit ?_)
 dsimp only
 rw [if_pos (byScan_of (knd:=intKind prog w) rfl I.few I.el.elems)]
 unfold setAddByScan
 refine Nf (Nf (Rj (Nf (wpAny_setScan_of (knd:=intKind prog w) (k:=n) (decide_eq_true rfl) I.get I.data I.fit I.el.elems ?_))))
 rcases I.el.find (n:=n) with ⟨j,e,hm⟩ | ⟨e,hm⟩
 ·rw [e]
  refine Ni (Ni ?_)
  exact q _ s.heap ns o es ep t ⟨rfl,fun _ _=>rfl⟩ I (fun m=>⟨.inl,fun z=>z.elim id fun z=>by rw [z]; exact hm⟩) (Q5 _)
 ·rw [e]
  dsimp only
  have pm:=layNew_perm t es (hashInt n) (.int n tk)
  have hf:=layNew_fits t es (hashInt n) (.int n tk)
  have htb:=Ar (es:=es) (h:=hashInt n) (x:=.int n tk) I.tb
  generalize layNew t es (hashInt n) (.int n tk)=r at pm hf htb ⊢
  obtain ⟨es1,t1,was,gave⟩:=r
  dsimp only at pm hf htb ⊢
  have el:SetE prog w (ns++[n]) (es.push (hashInt n,.int n tk)):=by
   refine ⟨?_,?_⟩
   ·rw [Sy]
    exact Dw I.el.els (.cons ⟨rfl,tk,rfl⟩ .nil)
   ·refine O4.mpr ⟨I.el.nd,by simp,fun x hx y hy z=>?_⟩
    rw [Nq.mp hy] at z
    exact hm (by rw [<- z]; exact hx)
  obtain ⟨ns',p1,p2⟩:=el.perm pm
  have sz:es1.size=es.size+1:=by simpa using pm.length_eq
  have fin:∀ h' ns2 o' es' ep' t',Heap.SameBut a s.heap h'->SetI prog w h' a ns2 o' es' ep' t'->ns2.Perm ns'->es'.size=es1.size->Q true { s with heap:=h' }:=fun h' ns2 o' es' ep' t' sb I' pm2 sz2=>q true h' ns2 o' es' ep' t' sb I' (fun m=>by rw [(pm2.trans p1).mem_iff,Nz,Nq]) (by omega)
  have hb:hashByValue 8 (.int n tk)=pure true:=hashByValue_scannable 8 (x:=.int n tk) rfl
  simp only [hb]
  cases gave
  ·refine Nf (Ni ?_)
   split
   ·refine Nf (Ni ?_)
    simp only [if_true]
    exact mX (fun b s1 Q' h=>by cases b; exact Ni h; exact Rj h) I.get I.ex I.data (by omega) hf htb p2 (fun h' ns2 o' es' ep' t' sb I' pm2 sz2=>Ni (fin h' ns2 o' es' ep' t' sb I' pm2 sz2))
   ·refine Nf (Ni ?_)
    simp only [if_true]
    exact mX (fun b s1 Q' h=>by cases b; exact Ni h; exact Rj h) I.get I.ex I.data (by omega) hf htb p2 (fun h' ns2 o' es' ep' t' sb I' pm2 sz2=>Ni (fin h' ns2 o' es' ep' t' sb I' pm2 sz2))
  ·refine Nf (Rj ?_)
   split
   ·refine Nf (Ni ?_)
    simp only [if_true]
    exact mX (fun b s1 Q' h=>by cases b; exact Ni h; exact Rj h) I.get I.ex I.data (by omega) hf htb p2 (fun h' ns2 o' es' ep' t' sb I' pm2 sz2=>Ni (fin h' ns2 o' es' ep' t' sb I' pm2 sz2))
   ·refine Nf (Ni ?_)
    simp only [if_true]
    exact mX (fun b s1 Q' h=>by cases b; exact Ni h; exact Rj h) I.get I.ex I.data (by omega) hf htb p2 (fun h' ns2 o' es' ep' t' sb I' pm2 sz2=>Ni (fin h' ns2 o' es' ep' t' sb I' pm2 sz2))
theorem Di {n:Int} {tk:Tok} {Q:Bool->Shared->Prop} (I:SetI prog w s.heap a ns o es ep t) (few:es.size+1<scanBound)
  (q:∀ b h' ns' o' es' ep' t',Heap.SameBut a s.heap h'->SetI prog w h' a ns' o' es' ep' t'->(∀ m,m∈ns'↔m∈ns∨m=n)->es'.size<=es.size+1->Q b { s with heap:=h',toks:=s.toks+1 }):wpAny (model prog w) A (setAdd a (.int n tk)) Q E s:=by
 unfold setAdd
 exact Pa (Nf ((intKind prog w).pyHash (k:=n) (decide_eq_true rfl) (DY (s:={ s with toks:=s.toks+1 }) I few q)))
end
section
variable {prog:Program} {w:World} {A:Around} {E:Value->Shared->Prop} {s:Shared} {a:Addr} {ns:List Int} {o:Obj} {es:Array (Int×Value)} {ep:Nat} {t:SetTable}
theorem Ey {x:Value} {Q₁:Value->Shared->Prop} (q:Q₁ (.ref s.heap.objs.size) { s with heap:=s.heap.push { cls:=.type "set",data:=.set #[] 0 (SetTable.fresh 0 0 (!dW w)) } }) :
  codeAny (model prog w) A (.call (.builtin "set.__new__") { pos:=[.type "set",x] }) (wants Q₁ E) s:=by
 refine QD F.plain_set_new F.entry_set_new (Rr (F.newCall_set_1 x) ?_)
 unfold Builtin.«set.__new__» Builtin.Frozenset.newClass
 refine Nf (Nf (Rr (a:=true) (by rfl) ?_))
 refine Nf (Rr (a:=true) Wx ?_)
 refine Ni ?_
 unfold newSet
 refine Nf (Nf ?_)
 unfold setsByText
 refine Nf (Rg (Ni ?_))
 refine Pj (Ni ?_) (by size_fits)
 exact q
theorem ints_get:∀ {vs:List Value} {ns:List Int},IntsAre vs ns->∀ {i:Nat} {v:Value},vs[i]?=some v->∃ n u,v=.int n u/\ns[i]?=some n
 | _,_,.nil,i,v,h=>by rw [Q0] at h; cases h
 | _,_,.cons n u r,0,v,h=>by cases h; exact ⟨n,u,rfl,rfl⟩
 | _,_,.cons n u r,i+1,v,h=>ints_get r h
theorem pL:∀ {vs:List Value} {ns:List Int},IntsAre vs ns->vs.length=ns.length
 | _,_,.nil=>rfl
 | _,_,.cons n u r=>congrArg (· + 1) (pL r)
theorem SetI.move {h h':Heap} (J:SetI prog w h a ns o es ep t) (k:∀ ob,h.get? a=some ob->h'.get? a=some ob):SetI prog w h' a ns o es ep t:=⟨k _ J.get,J.ex,J.data,J.el,J.few,J.fit,J.tb⟩
theorem vN {I l:Addr} {items:Array Value} {vals:List Int} (hh:A.handled=none) (W:Walks prog w A.in1 I [I,l] [I] items.size (fun i v=>items[i]?=some v) fun i h=>h.IsListIter I l i/\h.IsList l items) (hiv:IntsAre items.toList vals) (hfew:items.size+1<scanBound) (hIa:a≠I) (hla:a≠l) {R:Result->Shared->Prop} :
  ∀ (k i:Nat) (s:Shared) (ns:List Int) (o:Obj) (es:Array (Int×Value)) (ep:Nat) (t:SetTable),items.size-i=k->i<=items.size->(s.heap.IsListIter I l i/\s.heap.IsList l items)->SetI prog w s.heap a ns o es ep t->es.size<=i->(∀ m,m∈ns↔m∈vals.take i) ->
   (∀ s' ns' o' es' ep' t',(∀ b ob,b≠a->b≠I->s.heap.get? b=some ob->s'.heap.get? b=some ob)->s'.gens=s.gens->s'.os=s.os->s'.drawn=s.drawn->SetI prog w s'.heap a ns' o' es' ep' t'->(∀ m,m∈ns'↔m∈vals)->R (.ok (.ret .none)) s') ->
   codeAny (model prog w) A (.builtin "set.update.loop" { pos:=[.ref a,.ref I] }) R s
 | 0,i,s,ns,o,es,ep,t,hk,hi,st,J,hsz,hns,q=>by
  have ei:i=items.size:=by omega
  subst ei
  refine QH Uv ?_
  unfold Builtin.«set.update.loop»
  refine Nf (W.done s _ _ st fun h' tk kp=>?_)
  refine Ni ?_
  have hl:=pL hiv
  rw [Py] at hl
  refine q _ ns o es ep t (fun b ob n1 n2 e=>kp b ob (by simpa using n2) e) rfl rfl rfl (J.move fun ob e=>kp a ob (by simpa using hIa) e) fun m=>?_
  rw [hns m,hl,Oa]
 | k+1,i,s,ns,o,es,ep,t,hk,hi,st,J,hsz,hns,q=>by
  refine QH Uv ?_
  unfold Builtin.«set.update.loop»
  refine Nf (W.item i s _ _ (by omega) st fun v h' tk hv st' kp=>?_)
  dsimp only
  obtain ⟨n,u,rfl,en⟩:=ints_get hiv (by rw [Qf]; exact hv)
  have J':=J.move (h':=h') fun ob e=>kp a ob (by simpa using hIa) e
  refine Nf (Pa (Di (s:={ s with heap:=h',toks:=tk }) J' (by omega) fun b h2 ns2 o2 es2 ep2 t2 sb J2 hm hs=>?_))
  refine Ni ⟨Qk _ (by decide +kernel),?_⟩
  have st2:h2.IsListIter I l (i+1)/\h2.IsList l items:=W.frame (i+1) h' h2 st' fun b hb ob e=>by
   have hb:b=I∨b=l:=by simpa using hb
   have:b≠a:=by rcases hb with rfl | rfl; exact hIa.symm; exact hla.symm
   rw [sb.2 b this]; exact e
  refine vN hh W hiv hfew hIa hla k (i+1) { s with heap:=h2,toks:=tk+1 } ns2 o2 es2 ep2 t2 (by omega) (by omega) st2 J2 (by omega) (fun m=>?_) fun s' ns' o' es' ep' t' k1 k2 k3 k4 k5 k6=>q s' ns' o' es' ep' t' (fun b ob n1 n2 e=>k1 b ob n1 n2 (by show h2.get? b=some ob; rw [sb.2 b n1]; exact kp b ob (by simpa using n2) e)) k2 k3 k4 k5 k6
  rw [hm m,hns m,Oe,en,Nz]
  constructor
  ·rintro (z | z)
   ·exact .inl z
   ·exact .inr (by rw [z]; exact Ny)
  ·rintro (z | z)
   ·exact .inl z
   ·exact .inr (Nq.mp z)
theorem Az {l:Addr} {items:Array Value} {vals:List Int} {Q:Value->Shared->Prop} (hh:A.handled=none) (hl:s.heap.IsList l items) (hiv:IntsAre items.toList vals) (hfew:items.size+1<scanBound)
  (q:∀ s' ns' o' es' ep' t',(∀ b ob,s.heap.get? b=some ob->s'.heap.get? b=some ob)->s'.gens=s.gens->s'.os=s.os->s'.drawn=s.drawn->SetI prog w s'.heap s.heap.objs.size ns' o' es' ep' t'->(∀ m,m∈ns'↔m∈vals)->Q (.ref s.heap.objs.size) s'):wpAny (model prog w) A (call (.type "set") [.ref l]) Q E s:=by
 obtain ⟨c0,tl,hmro⟩:=Vm.mro
 refine Ri (codeAny_of_tree ?_)
 refine (show wpAny _ _ (pure (Fin.again (.builtin "type.__call__" ⟨[.type "set",.ref l],[]⟩))) _ _ _ from Ni ⟨Qk _ (by decide +kernel),QH F.entry_type_call ?_⟩)
 rw [Around.under_plain (weight_type_call_type _ _ _) rfl]
 unfold Builtin.«type.__call__»
 dsimp only
 rw [if_neg (by rw [Vm.notType]; decide)]
 refine Tp (by rw [Vm.canCreate]; rfl) ?_
 refine Nf (Rr (F.typeCall_set_1 _) (Nf (Rr hmro ?_)))
 rw [if_neg (by simp)]
 refine Nf (Rr Vm.made (Nf (Ni ?_)))
 refine Nf (Pa (Ri ?_))
 refine RQ (Ey (Q₁:=fun v s1=>v=.ref s.heap.objs.size/\s1={ s with heap:=s.heap.push { cls:=.type "set",data:=.set #[] 0 (SetTable.fresh 0 0 (!dW w)) } }) (E:=fun _ _=>False) ⟨rfl,rfl⟩) ?_
 intro r s1 hr
 cases r with
 | error e=>exact hr.elim
 | ok fl =>
  cases fl with
  | ret v =>
   obtain ⟨rfl,rfl⟩:=hr
   have g0:(s.heap.push { cls:=.type "set",data:=.set #[] 0 (SetTable.fresh 0 0 (!dW w)) }).get? s.heap.objs.size=some { cls:=.type "set",data:=.set #[] 0 (SetTable.fresh 0 0 (!dW w)) }:=NQ _ rfl
   have kp0:∀ b ob,s.heap.get? b=some ob->(s.heap.push { cls:=.type "set",data:=.set #[] 0 (SetTable.fresh 0 0 (!dW w)) }).get? b=some ob:=fun b ob e=>Nk _ e
   have hl1:(s.heap.push { cls:=.type "set",data:=.set #[] 0 (SetTable.fresh 0 0 (!dW w)) }).IsList l items:=hl.push _
   have nel:s.heap.objs.size≠l:=by
    obtain ⟨ol,hl2,_⟩:=id hl
    exact Wq (N7 hl2)
   have J0:SetI prog w (s.heap.push { cls:=.type "set",data:=.set #[] 0 (SetTable.fresh 0 0 (!dW w)) }) s.heap.objs.size [] _ #[] 0 (SetTable.fresh 0 0 (!dW w)):=⟨g0,⟨rfl,rfl,rfl⟩,rfl,⟨.nil,Qu⟩,by decide,by rfl,⟨.nil,rfl,rfl⟩⟩
   have sz0:(s.heap.push { cls:=.type "set",data:=.set #[] 0 (SetTable.fresh 0 0 (!dW w)) }).objs.size=s.heap.objs.size+1:=Rh ..
   generalize s.heap.push { cls:=.type "set",data:=.set #[] 0 (SetTable.fresh 0 0 (!dW w)) }=h1 at g0 kp0 hl1 J0 sz0 ⊢
   have T0:Shared.TypeIs { s with heap:=h1 } (.ref s.heap.objs.size) "set":=⟨_,g0,rfl⟩
   refine Nf (Rf (T:="set") T0 Wx ?_)
   rw [if_neg (by decide)]
   refine Nf (Pa (PL (name:=Str.ofString "__init__") T0 W6 (Ri (QD W6.plain F.entry_set_init (check_set_init_1 T0 ?_)))))
   unfold Builtin.«set.__init__»
   refine Nf (Ni ?_)
   dsimp only
   unfold typeNameOfCut shownTypeOf
   refine Nf (Nf (Nf (RV T0 ?_)))
   rw [if_neg (by decide)]
   refine Ni (Ni ?_)
   refine Nf (Ni ?_)
   refine Nf (Ni ?_)
   unfold setUsed
   refine Nf (Nf (QG g0 rfl (by rfl) (Ni ?_)))
   rw [if_neg (show ¬ (((SetTable.fresh 0 0 (!dW w)).fill != 0)=true) from fun z=>nomatch z)]
   have Tl:Shared.TypeIs { s with heap:=h1 } (.ref l) "list":=hl1.typeIs
   refine Nf ?_
   unfold Builtin.Frozenset.updateFrom Builtin.Frozenset.isAnySet
   refine Nf (Nf (Rf (T:="list") Tl F.sub_list_set (Rf (T:="list") Tl F.sub_list_frozenset ?_)))
   rw [if_neg (by decide)]
   refine Nf (RV Tl ?_)
   rw [if_neg (by decide)]
   refine Nf (T9 hl1 ?_)
   have hI:(h1.push { cls:=.type "list_iterator",data:=.fields #[.ref l,.int 0 0] }).get? h1.objs.size=some { cls:=.type "list_iterator",data:=.fields #[.ref l,.int 0 0] }:=NQ _ rfl
   have kp1:∀ b ob,h1.get? b=some ob->(h1.push { cls:=.type "list_iterator",data:=.fields #[.ref l,.int 0 0] }).get? b=some ob:=fun b ob e=>Nk _ e
   have neI:s.heap.objs.size≠h1.objs.size:=by omega
   have nlI:l≠h1.objs.size:=by
    obtain ⟨ol,hl2,_⟩:=id hl1
    exact Ot (N7 hl2)
   have st0:(h1.push { cls:=.type "list_iterator",data:=.fields #[.ref l,.int 0 0] }).IsListIter h1.objs.size l 0/\(h1.push { cls:=.type "list_iterator",data:=.fields #[.ref l,.int 0 0] }).IsList l items:=⟨⟨_,hI,rfl,rfl⟩,hl1.push _⟩
   refine Nf (wpAny_runValue ?_)
   have W:=Walks.list (prog:=prog) (w:=w) (A:=A.in1.in1.in1) hh h1.objs.size l nlI items
   refine vN (A:=A.in1.in1) hh W hiv hfew neI nel items.size 0 { s with heap:=h1.push { cls:=.type "list_iterator",data:=.fields #[.ref l,.int 0 0] } } [] _ #[] 0 _ (by omega) (by omega) st0 (J0.move fun ob e=>kp1 _ ob e) (Nu _) (fun m=>by simp) fun s' ns' o' es' ep' t' k1 k2 k3 k4 k5 k6=>?_
   refine Ni (Ni (Ni ?_))
   exact q s' ns' o' es' ep' t' (fun b ob e=>k1 b ob (Ot (N7 e)) (Ot (by rw [sz0]; exact Wg (N7 e))) (kp1 b ob (kp0 b ob e))) k2 k3 k4 k5 k6
  | _=>exact hr.elim
end
section
variable {prog:Program} {w:World} {A:Around} {E:Value->Shared->Prop} {s:Shared} {a:Addr} {ns:List Int} {o:Obj} {es:Array (Int×Value)} {ep:Nat} {t:SetTable}
theorem xX {M:Model} {n:Nat} {Q:Nat->Shared->Prop} (hn:n≠0) (q:∀ i d,i<n->Q i { s with drawn:=d }):wpAny M A (choose .order n) Q E s:=by
 intro Γ p hΓ
 unfold choose
 rw [Sem.wp_choose]
 exact ⟨hn,q _ _ (Nat.mod_lt _ (Nat.pos_of_ne_zero hn))⟩
theorem G6 {α:Type} (n:Nat) (l:List α) (s:Shared) {Q:List α->Shared->Prop} (h:l.length=n) (q:∀ l' d,l'.Perm l->Q l' { s with drawn:=d }):wpAny (model prog w) A (drawOrder n l) Q E s:=by
 induction n generalizing l s Q with
 | zero =>
  have:l=[]:=List.eq_nil_of_length_eq_zero h
  subst this
  rw [drawOrder.eq_def]
  exact Ni (q [] s.drawn .nil)
 | succ n ih =>
  cases l with
  | nil=>cases h
  | cons x l =>
   rw [drawOrder.eq_def]
   refine Nf (xX (by simp) fun i d hi=>?_)
   rw [Nr hi]
   refine Nf (ih _ { s with drawn:=d } (by rw [Tz hi]; simp only [Oj] at h ⊢; omega) fun l' d' pm=>Ni ?_)
   exact q _ d' ((pm.cons _).trans (get_erase _ _ hi))
def nA (h:Heap) (it a:Addr) (first:Value) (i n ep:Nat):Prop:=∃ o,h.get? it=some o/\o.cls=.type "set_iterator"/\o.data=.fields #[first,.int i 0,.ref a,.int n 0,.int ep 0]
def SWalk (w:World) (h:Heap) (it a:Addr) (es:Array (Int×Value)) (ep:Nat) (t:SetTable) (L:List (Int×Value)) (i:Nat):Prop :=
 ∃ first,nA h it a first i es.size ep /\
  ((dW w=true/\first=.int 0 0/\L=(pickOrder (w.params.setOrder a ep) es).toList) ∨
   (dW w=false/\(!t.plain && decide (es.size>1))=false/\first=.int (slotAt t.place i:Nat) 0/\L=es.toList) ∨
   (dW w=false/\∃ (tp:Addr) (js:List Nat),first=.ref tp/\(∃ n,h.get? tp=some { cls:=.type "tuple",data:=.seq (js.map fun (j:Nat)=>Value.int j 0).toArray n })/\tp≠it/\js.Perm (List.range es.size)/\L=js.filterMap fun j=>es[j]?))
theorem SetI.iter {Q:Value->Shared->Prop} (J:SetI prog w s.heap a ns o es ep t)
  (q:∀ h' it d L,(∀ b ob,s.heap.get? b=some ob->h'.get? b=some ob)->s.heap.objs.size<=it->L.Perm es.toList->SWalk w h' it a es ep t L 0->Q (.ref it) { s with heap:=h',drawn:=d }):wpAny (model prog w) A (pyIter (.ref a)) Q E s:=by
 have tD:s.TypeIs (.ref a) "set":=⟨o,J.get,J.ex.1⟩
 refine Wi tD W7 (P0 W7 tD SF2.entry_iter ?_ (F.args_set_iter_1 _))
 unfold Builtin.«frozenset.__iter__» Builtin.Frozenset.slot0
 refine Nf (Nf (Ni (Ni ?_)))
 unfold Builtin.Frozenset.sizeOf
 refine Nf (Nf (Tq J.get J.data J.fit (Ni ?_)))
 unfold setDrawn setsByText
 refine Nf (Nf (QG J.get J.data J.fit ?_))
 dsimp only
 refine Nf (Nf (Rg (Ni (Ni ?_))))
 refine (show wpAny _ _ (if (!dW w && (!t.plain && decide (es.size>1)))=true then _ else _) _ _ s from ?_)
 have nod:¬ (!dW w && (!t.plain && decide (es.size>1)))=true->wpAny (model prog w) A.in1 (do
   let first<-pure (rawInt 0)
   let e<-setEpoch a
   let v<-newFields "set_iterator" [first,rawInt 0,Value.ref a,rawInt ↑es.size,rawInt ↑e]
   ret v) (fun fin s'=>∃ v,fin=Fin.done (Flow.ret v)/\∃ T' r,s'.TypeIs v T'/\typeLookup (Value.type T') (Str.ofString "__next__")=pure (some r)/\Q v s') E s:=fun hn=>by
  refine Nf (Ni (Nf (Wo J.get J.data J.fit ?_)))
  unfold newFields
  refine Nf (Pj (Ni ⟨_,rfl,"set_iterator",_,⟨_,NQ _ rfl,rfl⟩,SF2.slot_next.lookup,?_⟩) (by size_fits))
  cases hb:dW w with
  | true=>exact q _ _ s.drawn _ (fun b ob e=>Nk _ e) (Nu _) (rT _ _) ⟨_,⟨_,NQ _ rfl,rfl,rfl⟩,.inl ⟨hb,rfl,rfl⟩⟩
  | false =>
   rw [hb] at hn
   exact q _ _ s.drawn _ (fun b ob e=>Nk _ e) (Nu _) (.refl _) ⟨_,⟨_,NQ _ rfl,rfl,rfl⟩,.inr (.inl ⟨hb,by simpa using hn,rfl,rfl⟩)⟩
 by_cases hd:(!dW w && (!t.plain && decide (es.size>1)))=true
 ·rw [if_pos hd]
  obtain ⟨hb,_⟩:=Ph.mp hd
  have hb:dW w=false:=by simpa using hb
  refine Nf (G6 _ _ _ (by simp) fun js d pm=>?_)
  have jl:js.length=es.size:=by simpa using pm.length_eq
  refine Nf (wpAny_newTuple ?_ (by rw [Ng,jl]; exact lN J.few))
  have J1:=J.move (h':=s.heap.push { cls:=.type "tuple",data:=.seq (js.map fun (j:Nat)=>rawInt (j:Int)).toArray }) fun ob e=>Nk _ e
  refine Nf (Wo J1.get J1.data J1.fit ?_)
  unfold newFields
  have g0:(s.heap.push { cls:=.type "tuple",data:=.seq (js.map fun (j:Nat)=>rawInt (j:Int)).toArray }).get? s.heap.objs.size=some { cls:=.type "tuple",data:=.seq (js.map fun (j:Nat)=>rawInt (j:Int)).toArray }:=NQ _ rfl
  have kp:∀ b ob,s.heap.get? b=some ob->(s.heap.push { cls:=.type "tuple",data:=.seq (js.map fun (j:Nat)=>rawInt (j:Int)).toArray }).get? b=some ob:=fun b ob e=>Nk _ e
  have sz:(s.heap.push { cls:=.type "tuple",data:=.seq (js.map fun (j:Nat)=>rawInt (j:Int)).toArray }).objs.size=s.heap.objs.size+1:=Rh ..
  refine Nf (Pj (Ni ⟨_,rfl,"set_iterator",_,⟨_,NQ _ rfl,rfl⟩,SF2.slot_next.lookup,?_⟩) (by size_fits))
  have e0:((List.range es.size).filterMap fun j=>es[j]?)=es.toList:=by
   exact filterMap_getElem?_range es
  refine q _ _ d (js.filterMap fun j=>es[j]?) (fun b ob e=>Nk _ (kp b ob e)) (by show s.heap.objs.size<=(s.heap.push _).objs.size; rw [sz]; exact Q5 _) ?_ ⟨_,⟨_,NQ _ rfl,rfl,rfl⟩,.inr (.inr ⟨hb,_,js,rfl,⟨_,Nk _ g0⟩,?_,pm,rfl⟩)⟩
  ·have:=pm.filterMap fun j=>es[j]?
   rw [e0] at this
   exact this
  ·show s.heap.objs.size≠(s.heap.push _).objs.size
   rw [sz]
   exact Ot (Q8 _)
 ·rw [if_neg hd]
  exact nod hd
end
section
variable {prog:Program} {w:World} {A:Around} {E:Value->Shared->Prop} {s:Shared} {a it:Addr} {ns:List Int} {o:Obj} {es:Array (Int×Value)} {ep:Nat} {t:SetTable} {L:List (Int×Value)} {i:Nat}
theorem lg {h:Heap} {first x:Value} {n k:Nat} (H:nA h it a first i n ep):nA ((h.update it (Obj.mapFields (·.setIfInBounds 0 x))).update it (Obj.mapFields (·.setIfInBounds 1 (.int k 0)))) it a x k n ep:=by
 obtain ⟨oi,i1,i2,i3⟩:=H
 have d1:=Pn i3 (·.setIfInBounds 0 x)
 have g1:=Pk (f:=Obj.mapFields (·.setIfInBounds 0 x)) i1 (Qe d1)
 have d2:=Pn d1 (·.setIfInBounds 1 (.int k 0))
 refine ⟨_,Pk _ g1 (Qe d2),?_,by rw [d2]; simp⟩
 rw [Sw,Sw]
 exact i2
theorem oG {slot:Nat} {Q:Option (Value×Nat)->Shared->Prop} (J:SetI prog w s.heap a ns o es ep t) (hb:dW w=true) (q:Q ((pickOrder (w.params.setOrder a ep) es)[i]?.map fun e=>(e.2,slot)) s):wpAny (model prog w) A (setNext a slot ((i:Nat):Int).toNat ((ep:Nat):Int).toNat) Q E s:=by
 rw [Pz,Pz]
 unfold setNext setsByText
 refine Nf (QG J.get J.data J.fit ?_)
 dsimp only
 refine Nf (Nf (Rg (Ni (T6 (decide_eq_true (show _ from hb)) ?_))))
 rw [if_neg (by simp)]
 unfold setWalk setsByText
 refine Nf (Nf (QG J.get J.data J.fit ?_))
 dsimp only
 refine Nf (Nf (Rg (Ni (T6 (decide_eq_true (show _ from hb)) ?_))))
 exact Nf (Rg (Ni (Ni q)))
theorem qt {Q:Option (Value×Nat)->Shared->Prop} (J:SetI prog w s.heap a ns o es ep t) (hb:dW w=false) (hd:(!t.plain && decide (es.size>1))=false) (hi:i<=t.place.size)
  (q:Q (match es[i]?,t.place[i]? with
   | some (_,x),some j=>some (x,j+1)
   | _,_=>none) s):wpAny (model prog w) A (setNext a ((slotAt t.place i:Nat):Int).toNat ((i:Nat):Int).toNat ((ep:Nat):Int).toNat) Q E s:=by
 rw [Pz,Pz,Pz]
 unfold setNext setsByText
 refine Nf (QG J.get J.data J.fit ?_)
 dsimp only
 refine Nf (Nf (Rg (Ni (Tp (decide_eq_false (show ¬ dW w=true by rw [hb]; decide)) ?_))))
 refine Tp (decide_eq_false (show ¬ (!t.plain && decide (es.size>1))=true by rw [hd]; decide)) ?_
 have hl:t.led=true:=by rw [J.tb.led,hb]; rfl
 refine Nf (Rr (a:=()) (show (if (!t.led && !es.isEmpty)=true then unsupported "set:maker-not-led" else pure ())=pure () by rw [hl]; rfl) ?_)
 rw [yd J.tb.rise i hi]
 exact Ni q
theorem SWalk.next {x:Int×Value} {Q:Option Value->Shared->Prop} (J:SetI prog w s.heap a ns o es ep t) (W:SWalk w s.heap it a es ep t L i) (hx:L[i]?=some x)
  (q:∀ h',Heap.SameBut it s.heap h'->SWalk w h' it a es ep t L (i+1)->Q (some x.2) { s with heap:=h' }):wpAny (model prog w) A (pyNext (.ref it)) Q E s:=by
 obtain ⟨first,HI,md⟩:=W
 obtain ⟨oi,i1,i2,i3⟩:=id HI
 have tI:s.TypeIs (.ref it) "set_iterator":=⟨oi,i1,i2⟩
 unfold pyNext
 refine Nf (Rx (PL (name:=Str.ofString "__next__") tI SF2.slot_next (P0 SF2.slot_next tI SF2.entry_next ?_ (SF2.args_next _))))
 unfold Builtin.«set_iterator.__next__»
 refine Nf (Ni (Nf (T4 i1 i3 ?_)))
 refine (show wpAny _ _ (setEntries a >>= _) _ _ s from Nf (Tq J.get J.data J.fit ?_))
 rw [if_neg (by simp)]
 rcases md with ⟨hb,rfl,eL⟩ | ⟨hb,hd,rfl,eL⟩ | ⟨hb,tp,js,rfl,⟨nt,ht⟩,ne,pm,eL⟩
 ·refine Nf (oG J hb ?_)
  have ex:(pickOrder (w.params.setOrder a ep) es)[i]?=some x:=by rw [<- Qf,<- eL]; exact hx
  rw [ex]
  refine (show wpAny _ _ (setField (.ref it) 0 (rawInt ((0:Nat):Int)) >>= _) _ _ s from Nf (Qi i1 i3 (by simp) ?_))
  refine Nf (Qi (Pk _ i1 (Qe (Pn i3 _))) (Pn i3 _) (by simp) (Ni ⟨_,rfl,Ni ?_⟩))
  exact q _ (eU (Heap.SameBut.update ..) (Heap.SameBut.update ..)) ⟨_,lg (x:=.int (0:Nat) 0) (k:=i+1) HI,.inl ⟨hb,rfl,eL⟩⟩
 ·have hi:i<es.size:=by
   have:=(Nj.mp hx).1
   rw [eL] at this
   simpa using this
  have hp:i<t.place.size:=by
   have:=J.fit
   unfold SetTable.fits at this
   have:=(Ph.mp this).1
   have:=LawfulBEq.eq_of_beq this
   omega
  refine Nf (qt J hb hd (RP hp) ?_)
  have ex:es[i]?=some x:=by rw [<- Qf,<- eL]; exact hx
  rw [ex,O1 hp]
  refine (show wpAny _ _ (setField (.ref it) 0 (rawInt ((t.place[i]+1:Nat):Int)) >>= _) _ _ s from Nf (Qi i1 i3 (by simp) ?_))
  refine Nf (Qi (Pk _ i1 (Qe (Pn i3 _))) (Pn i3 _) (by simp) (Ni ⟨_,rfl,Ni ?_⟩))
  refine q _ (eU (Heap.SameBut.update ..) (Heap.SameBut.update ..)) ⟨_,lg (x:=.int ((t.place[i]+1:Nat):Int) 0) (k:=i+1) HI,.inr (.inl ⟨hb,hd,?_,eL⟩)⟩
  show Value.int _ 0=Value.int ((t.place.getD i 0+1:Nat):Int) 0
  rw [show t.place.getD i 0=t.place[i] by simp [Array.getD,hp]]
 ·have ejs:∃ j,js[i]?=some j/\es[j]?=some x:=by
   have h0:∀ j∈js,j<es.size:=fun j hj=>Qt.mp (pm.mem_iff.mp hj)
   have h1:L=js.map fun j=>es.getD j x:=by
    rw [eL]
    clear eL pm ht
    induction js with
    | nil=>rfl
    | cons j js ih =>
     have hj:=h0 j Ny
     rw [Qp,O1 hj,Ow,ih fun k hk=>h0 k (Nt _ hk)]
     simp [Array.getD,hj]
   rw [h1,NP] at hx
   cases e:js[i]? with
   | none=>rw [e] at hx; cases hx
   | some j =>
    rw [e] at hx
    have hx:some (es.getD j x)=some x:=hx
    have hj:=h0 j (Nv e)
    refine ⟨j,rfl,?_⟩
    rw [O1 hj]
    rw [<- Option.some.inj hx]
    simp [Array.getD,hj]
  obtain ⟨j,e1,e2⟩:=ejs
  unfold seqItems?
  refine Nf (Nf (V8 ht (Ni ?_)))
  dsimp only
  have ej:(js.map fun (j:Nat)=>Value.int (j:Int) 0).toArray[((i:Nat):Int).toNat]?=some (.int (j:Int) 0):=by
   rw [Pz,Vn,NP,e1]
   rfl
  rw [ej]
  unfold setNextDrawn
  refine (show wpAny _ _ ((setState a >>= _) >>= _) _ _ s from Nf (Nf (QG J.get J.data J.fit ?_)))
  dsimp only
  rw [if_neg (by simp),Pz,e2]
  refine Ni ?_
  refine Nf (Qi i1 i3 (by simp) (Ni ⟨_,rfl,Ni ?_⟩))
  refine q _ (Heap.SameBut.update ..) ⟨.ref tp,⟨_,Pk _ i1 (Qe (Pn i3 _)),(Sw ..).trans i2,by rw [Pn i3]; simp [rawInt]⟩,.inr (.inr ⟨hb,tp,js,rfl,⟨nt,?_⟩,ne,pm,eL⟩)⟩
  rw [Qc _ _ _ _ ne]
  exact ht
end
section
variable {prog:Program} {w:World} {A:Around} {E:Value->Shared->Prop} {s:Shared} {a it:Addr} {ns:List Int} {o:Obj} {es:Array (Int×Value)} {ep:Nat} {t:SetTable} {L:List (Int×Value)} {i:Nat}
theorem qD {Q:Option Value->Shared->Prop} {R:Fin->Shared->Prop} {h0:Heap} (hh:A.handled=none) (xb:Heap.ExtBut it h0 s.heap) (q:∀ h',Heap.ExtBut it h0 h'->Q none { s with heap:=h' }) :
  wpAny (model prog w) A.in1 (newExc (.type "StopIteration") [] >>= fun v=>raiseNew v) R (fun e s'=>wpAny (model prog w) A (do
   let b<-isInstance e (Value.type "StopIteration")
   if b=true then pure none else throw e) Q E s') s:=by
 refine Nf ?_
 simp only [newExc,newTuple]
 refine Nf (Pj ?_ (by size_fits))
 refine Nf (m:=firstArgMember _ _) (Rr (a:=Value.none) (by first | rfl | (simp only [firstArgMember]; rfl)) (Pj ?_ (by size_fits)))
 simp only [raiseNew]
 refine Nf (wpAny_handled ?_)
 rw [show A.in1.handled=none from hh]
 refine (show wpAny _ _ (throw _) _ _ _ from wpAny_throw ?_)
 refine Nf (Rf (T:="StopIteration") (b:=true) ⟨_,NQ _ rfl,by rfl⟩ isSubtype_stop ?_)
 exact Ni (q _ ((xb.push _).push _))
theorem SWalk.done {Q:Option Value->Shared->Prop} (hh:A.handled=none) (J:SetI prog w s.heap a ns o es ep t) (W:SWalk w s.heap it a es ep t L es.size)
  (q:∀ h',Heap.ExtBut it s.heap h'->Q none { s with heap:=h' }):wpAny (model prog w) A (pyNext (.ref it)) Q E s:=by
 obtain ⟨first,HI,md⟩:=W
 obtain ⟨oi,i1,i2,i3⟩:=id HI
 have tI:s.TypeIs (.ref it) "set_iterator":=⟨oi,i1,i2⟩
 unfold pyNext
 refine Nf (Rx (PL (name:=Str.ofString "__next__") tI SF2.slot_next (P0 SF2.slot_next tI SF2.entry_next ?_ (SF2.args_next _))))
 unfold Builtin.«set_iterator.__next__»
 refine Nf (Ni (Nf (T4 i1 i3 ?_)))
 refine (show wpAny _ _ (setEntries a >>= _) _ _ s from Nf (Tq J.get J.data J.fit ?_))
 rw [if_neg (by simp)]
 rcases md with ⟨hb,rfl,eL⟩ | ⟨hb,hd,rfl,eL⟩ | ⟨hb,tp,js,rfl,⟨nt,ht⟩,ne,pm,eL⟩
 ·refine Nf (oG J hb ?_)
  have sz:(pickOrder (w.params.setOrder a ep) es).size=es.size:=by simpa using (rT (w.params.setOrder a ep) es).length_eq
  rw [QL (by omega)]
  refine (show wpAny _ _ (setField (.ref it) 2 .none >>= _) _ _ s from Nf (Qi i1 i3 (by simp) ?_))
  exact qD hh (Heap.SameBut.update ..).extBut q
 ·have hp:es.size=t.place.size:=by
   have:=J.fit
   unfold SetTable.fits at this
   have:=(Ph.mp this).1
   exact (LawfulBEq.eq_of_beq this).symm
  refine Nf (qt J hb hd (TF hp) ?_)
  rw [QL (Nu _)]
  refine (show wpAny _ _ (setField (.ref it) 2 .none >>= _) _ _ s from Nf (Qi i1 i3 (by simp) ?_))
  exact qD hh (Heap.SameBut.update ..).extBut q
 ·unfold seqItems?
  refine Nf (Nf (V8 ht (Ni ?_)))
  dsimp only
  have jl:js.length=es.size:=by simpa using pm.length_eq
  have ej:(js.map fun (j:Nat)=>Value.int (j:Int) 0).toArray[((es.size:Nat):Int).toNat]?=none:=by
   rw [Pz,Vn,NP,QM (by omega)]
   rfl
  rw [ej]
  refine (show wpAny _ _ (setField (.ref it) 0 (rawInt 0) >>= _) _ _ s from Nf (Qi i1 i3 (by simp) ?_))
  refine Nf (Qi (Pk _ i1 (Qe (Pn i3 _))) (Pn i3 _) (by simp) ?_)
  exact qD hh (eU (Heap.SameBut.update ..) (Heap.SameBut.update ..)).extBut q
theorem SWalk.keep {h h':Heap} (W:SWalk w h it a es ep t L i) (k:∀ b ob,h.get? b=some ob->(b=it∨∃ xs n,ob={ cls:=.type "tuple",data:=.seq xs n })->h'.get? b=some ob):SWalk w h' it a es ep t L i:=by
 obtain ⟨first,⟨oi,i1,i2,i3⟩,md⟩:=W
 refine ⟨first,⟨oi,k _ _ i1 (.inl rfl),i2,i3⟩,?_⟩
 rcases md with m | m | ⟨hb,tp,js,rfl,⟨nt,ht⟩,ne,pm,eL⟩
 ·exact .inl m
 ·exact .inr (.inl m)
 ·exact .inr (.inr ⟨hb,tp,js,rfl,⟨nt,k _ _ ht (.inr ⟨_,_,rfl⟩)⟩,ne,pm,eL⟩)
theorem vQ {S:Addr} (hh:A.handled=none) (J0:es.size<=sizeLine) (nS:S≠it) (nSa:S≠a) {R:Result->Shared->Prop} {res:Value}:∀ (k i:Nat) (s:Shared) (acc:Array Value) (c:Nat),es.size-i=k->i<=es.size->L.length=es.size->SetI prog w s.heap a ns o es ep t->it≠a->SWalk w s.heap it a es ep t L i->s.heap.get? S=some { cls:=.type "list",data:=.seq acc c }->acc.toList=(L.take i).map (·.2) ->
  (∀ h' acc' c',(∀ b ob,b≠S->b≠it->s.heap.get? b=some ob->h'.get? b=some ob)->h'.get? S=some { cls:=.type "list",data:=.seq acc' c' }->acc'.toList=L.map (·.2)->R (.ok (.ret res)) { s with heap:=h' }) ->
  codeAny (model prog w) A (.builtin "list.extend.loop" { pos:=[.ref S,.ref it,res] }) R s
 | 0,i,s,acc,c,hk,hi,hl,J,ne,W,hS,hacc,q=>by
  have ei:i=es.size:=by omega
  subst ei
  refine QH (b:=Builtin.«list.extend.loop») (Uz (by kernel_rfl)) ?_
  unfold Builtin.«list.extend.loop»
  refine Nf (W.done (A:=A.in1) hh J fun h' xb=>?_)
  refine Ni (q h' acc c (fun b ob n1 n2 e=>xb b ob n2 e) (xb S _ nS hS) ?_)
  rw [hacc,<- hl,Oa]
 | k+1,i,s,acc,c,hk,hi,hl,J,ne,W,hS,hacc,q=>by
  refine QH (b:=Builtin.«list.extend.loop») (Uz (by kernel_rfl)) ?_
  unfold Builtin.«list.extend.loop»
  have hx:L[i]?=some (L[i]'(by omega)):=Nr (by omega)
  refine Nf (W.next (A:=A.in1) J hx fun h' sb W'=>?_)
  dsimp only
  have hS':h'.get? S=some { cls:=.type "list",data:=.seq acc c }:=by rw [sb.2 S nS]; exact hS
  have al:acc.size=i:=by
   rw [<- Py,hacc,Ng,Oc]
   omega
  refine Nf (R9 (s:={ s with heap:=h' }) hS' rfl ?_ (by omega) (by rw [Array.size_push]; omega))
  refine Ni ⟨Qk _ (by decide +kernel),?_⟩
  have g2:=Ru (h:=h') (a:=S) (c:="list") (xs:=acc) (n:=c) hS' fun x_1=>x_1.push (L[i]'(by omega)).2
  have sb2:=Heap.SameBut.update h' S (Obj.mapSeq fun x_1=>x_1.push (L[i]'(by omega)).2)
  have ha:(h'.update S (Obj.mapSeq fun x_1=>x_1.push (L[i]'(by omega)).2)).get? a=some o:=by rw [sb2.2 a nSa.symm,sb.2 a ne.symm]; exact J.get
  have kt:∀ b ob,h'.get? b=some ob->(b=it∨∃ xs n,ob={ cls:=.type "tuple",data:=.seq xs n })->(h'.update S (Obj.mapSeq fun x_1=>x_1.push (L[i]'(by omega)).2)).get? b=some ob:=fun b ob e hk=>by
   have:b≠S:=fun z=>by
    rcases hk with z2 | ⟨xs,n,z2⟩
    ·exact nS (z.symm.trans z2)
    ·rw [z,hS'] at e
     rw [z2] at e
     have:=congrArg Obj.cls (Option.some.inj e)
     exact absurd (show Value.type "list"=Value.type "tuple" from this) (by decide)
   rw [sb2.2 b this]; exact e
  refine vQ hh J0 nS nSa k (i+1) { s with heap:=h'.update S (Obj.mapSeq fun x_1=>x_1.push (L[i]'(by omega)).2) } _ _ (by omega) (by omega) hl (J.move fun ob e=>by rw [J.get] at e; cases e; exact ha) ne (W'.keep kt) g2 ?_ fun h2 acc' c' k1 k2 k3=>q h2 acc' c' (fun b ob n1 n2 e=>k1 b ob n1 n2 (by show (h'.update S _).get? b=some ob; rw [sb2.2 b n1,sb.2 b n2]; exact e)) k2 k3
  rw [Sy,hacc,Oe,hx,NK]
  rfl
theorem En {Q:Bool->Shared->Prop} (tD:s.TypeIs (.ref a) "set") (q:Q false s):wpAny (model prog w) A (Builtin.List.listLengthHint (.ref a)) Q E s:=by
 unfold Builtin.List.listLengthHint
 refine Nf (wpAny_specialOf tD F.slot_set_len.lookup ?_)
 dsimp only
 rw [show splitId "set.__len__"=some ("set","__len__") by rfl]
 dsimp only
 refine Nf (Rf tD Wx ?_)
 rw [if_neg (by decide)]
 refine T6 (by rfl) ?_
 exact Nf (RV tD (Ni q))
end
section
variable {prog:Program} {w:World} {A:Around} {E:Value->Shared->Prop} {s:Shared} {a:Addr} {ns:List Int} {o:Obj} {es:Array (Int×Value)} {ep:Nat} {t:SetTable}
theorem ints_of:∀ {l:List (Int×Value)} {ns:List Int},Paired (fun (e:Int×Value) (n:Int)=>e.1=hashInt n/\∃ t,e.2=.int n t) l ns->IntsAre (l.map (·.2)) ns
 | _,_,.nil=>.nil
 | _,_,.cons ⟨_,t,e⟩ r=>by
  rw [Ow,e]
  exact .cons _ _ (ints_of r)
theorem wQ {Q:List Value->Shared->Prop} (hh:A.handled=none) (J:SetI prog w s.heap a ns o es ep t)
  (q:∀ h' d ns' vs,(∀ b ob,s.heap.get? b=some ob->h'.get? b=some ob)->s.heap.objs.size<=h'.objs.size->ns'.Perm ns->IntsAre vs ns'->Q vs { s with heap:=h',drawn:=d }):wpAny (model prog w) A (collect (.ref a)) Q E s:=by
 unfold collect
 refine Nf (wpAny_runValue (QH entry_proto_collect' ?_))
 unfold Builtin.«proto.collect»
 refine (show wpAny _ _ (newList [] >>= _) _ _ s from Nf (Uu ?_))
 refine Ni ⟨Qk _ (by decide +kernel),QH entry_list_iadd' ?_⟩
 unfold Builtin.«list.__iadd__»
 refine Nf (Ni ?_)
 have neS:s.heap.objs.size≠a:=Wq (N7 J.get)
 have kp0:∀ b ob,s.heap.get? b=some ob->(s.heap.push { cls:=.type "list",data:=.seq #[] }).get? b=some ob:=fun b ob e=>Nk _ e
 have gS:(s.heap.push { cls:=.type "list",data:=.seq #[] }).get? s.heap.objs.size=some { cls:=.type "list",data:=.seq #[] }:=NQ _ rfl
 have sz0:(s.heap.push { cls:=.type "list",data:=.seq #[] }).objs.size=s.heap.objs.size+1:=Rh ..
 have J1:=J.move (h':=s.heap.push { cls:=.type "list",data:=.seq #[] }) fun ob e=>kp0 _ ob e
 refine (show wpAny _ _ (Builtin.List.listExtendWith (.ref s.heap.objs.size) (.ref a) (.ref s.heap.objs.size)) _ _ { s with heap:=s.heap.push { cls:=.type "list",data:=.seq #[] } } from ?_)
 generalize s.heap.push { cls:=.type "list",data:=.seq #[] }=h1 at kp0 gS J1 sz0 ⊢
 have tD:Shared.TypeIs { s with heap:=h1 } (.ref a) "set":=⟨o,J1.get,J1.ex.1⟩
 unfold Builtin.List.listExtendWith
 refine Nf (RV tD ?_)
 refine Tp (decide_eq_false ?_) ?_
 ·intro z
  have e:(Value.ref s.heap.objs.size==Value.ref a)=false:=by
   rw [beq_eq_false_iff_ne]
   intro y
   cases y
   exact neS rfl
  have z:(Builtin.List.listSameRef (.ref s.heap.objs.size) (.ref a) || Value.type "set"==Value.type "list" || Value.type "set"==Value.type "tuple")=true:=z
  have e2:Builtin.List.listSameRef (.ref s.heap.objs.size) (.ref a)=false:=by
   first
   | exact e
   | exact beq_eq_false_iff_ne.mpr neS
  rw [e2] at z
  exact absurd z (by decide)
 refine Nf (J1.iter fun h2 it d L kp1 hit pm W=>?_)
 refine Nf (Pa (En (s:={ s with heap:=h2,drawn:=d }) ⟨o,kp1 _ _ J1.get,J1.ex.1⟩ ?_))
 dsimp only
 refine T6 (by rfl) ?_
 have hita:it≠a:=fun z=>by
  have:=N7 J1.get
  have h3:h1.objs.size<=it:=hit
  rw [z] at h3
  exact absurd (Om (N7 J1.get) h3) (Qj _)
 have hitS:s.heap.objs.size≠it:=fun z=>by
  have h3:h1.objs.size<=it:=hit
  rw [<- z,sz0] at h3
  omega
 have Ll:L.length=es.size:=by simpa using pm.length_eq
 have gS2:=kp1 _ _ gS
 refine Nf (Rj ?_)
 unfold Builtin.List.listTouch
 have g3:=Ru (c:="list") (xs:=#[]) gS2 fun x=>x.push Value.none
 refine Nf (Nf (R9 (s:={ s with heap:=h2,drawn:=d }) gS2 rfl ?_ (by decide) (by decide)))
 refine R9 (s:={ s with heap:=h2.update s.heap.objs.size (Obj.mapSeq fun x=>x.push Value.none),drawn:=d }) g3 rfl ?_ (by decide) (by decide)
 have g4:=Ru (c:="list") g3 fun x=>x.pop
 have sb2:=eU (Heap.SameBut.update h2 s.heap.objs.size (Obj.mapSeq fun x=>x.push Value.none)) (Heap.SameBut.update _ s.heap.objs.size (Obj.mapSeq fun x=>x.pop))
 show wpAny _ _ _ _ _ ({ s with heap:=(h2.update s.heap.objs.size (Obj.mapSeq fun x=>x.push Value.none)).update s.heap.objs.size (Obj.mapSeq fun x=>x.pop),drawn:=d }:Shared)
 generalize (h2.update s.heap.objs.size (Obj.mapSeq fun x=>x.push Value.none)).update s.heap.objs.size (Obj.mapSeq fun x=>x.pop)=h3 at g4 sb2 ⊢
 have W3:SWalk w h3 it a es ep t L 0:=W.keep fun b ob e hk=>by
  have:b≠s.heap.objs.size:=fun z=>by
   rcases hk with z2 | ⟨xs,n,z2⟩
   ·exact hitS (z.symm.trans z2)
   ·rw [z,gS2] at e
    rw [z2] at e
    have:=congrArg Obj.cls (Option.some.inj e)
    exact absurd (show Value.type "list"=Value.type "tuple" from this) (by decide)
  rw [sb2.2 b this]; exact e
 have J3:SetI prog w h3 a ns o es ep t:=J1.move fun ob e=>by rw [sb2.2 a neS.symm]; exact kp1 _ ob e
 refine Ni ⟨Qk _ (by decide +kernel),?_⟩
 refine vQ hh (lN J.few) hitS neS es.size 0 { s with heap:=h3,drawn:=d } #[] _ (by omega) (by omega) Ll J3 hita W3 g4 (by simp) fun h4 acc' c' k1 k2 k3=>?_
 refine Nf (V8 k2 (Ni ?_))
 obtain ⟨ns',p1,p2⟩:=Aa pm J.el.els
 refine q h4 d ns' acc'.toList (fun b ob e=>k1 b ob (Ot (N7 e)) ?_ (by show h3.get? b=some ob; rw [sb2.2 b (Ot (N7 e))]; exact kp1 b ob (kp0 b ob e))) ?_ p1 ?_
 ·have h6:h1.objs.size<=it:=hit
  have h5:=N7 e
  exact Ot (Om h5 (OJ (by rw [sz0]; exact Q5 _) h6))
 ·exact RP (N7 k2)
 ·rw [k3]
  clear k3 q k1 k2 W3 W pm
  exact ints_of p2
theorem yH {Q:Value->Shared->Prop} (hh:A.handled=none) (J:SetI prog w s.heap a ns o es ep t) (h64:ns.length<64)
  (q:∀ h' d l out ns' c,(∀ b ob,s.heap.get? b=some ob->h'.get? b=some ob)->s.heap.objs.size<=l->ns'.Perm ns->ns'.Pairwise (·<=·)->IntsAre out.toList ns'->h'.get? l=some { cls:=.type "list",data:=.seq out c }->Q (.ref l) { s with heap:=h',drawn:=d }):wpAny (model prog w) A (call (.builtin "sorted") [.ref a]) Q E s:=by
 refine T5 kind_sorted plain_sorted entry_sorted (args_sorted1 _) (show wpAny _ _ (Builtin.«sorted» _) _ _ s from ?_)
 unfold Builtin.«sorted»
 refine Nf (m:=checkCount "sorted" 1 1 _) (Ni (Nf (wQ (A:=A.in1) hh J fun h1 d ns1 vs kp0 sz0 pm iv=>?_)))
 have vl:vs.length=ns.length:=by rw [pL iv,pm.length_eq]
 refine Nf (Uu ?_ (by have:64<=sizeLine:=(by decide); omega))
 have g0:(h1.push { cls:=.type "list",data:=.seq vs.toArray }).get? h1.objs.size=some { cls:=.type "list",data:=.seq vs.toArray }:=NQ _ rfl
 have kp1:∀ b ob,h1.get? b=some ob->(h1.push { cls:=.type "list",data:=.seq vs.toArray }).get? b=some ob:=fun b ob e=>Nk _ e
 show wpAny _ _ _ _ _ ({ s with heap:=h1.push { cls:=.type "list",data:=.seq vs.toArray },drawn:=d }:Shared)
 generalize h1.push { cls:=.type "list",data:=.seq vs.toArray }=h2 at g0 kp1 ⊢
 refine Nf (Pa (P0 slot_list_sort ⟨_,g0,rfl⟩ entry_list_sort (list_sort_tree (ns:=ns1) g0 iv (by omega) fun out ns' a1 a2 a3=>⟨_,rfl,Ni ⟨_,rfl,?_⟩⟩) (args_list_sort _)))
 have e1:=Ru (c:="list") g0 fun _=>(#[]:Array Value)
 have e2:=Nk (seqObj "list" #[] 0) (Nk (seqObj "tuple" vs.toArray 0) e1)
 have e3:=Ru (c:="list") e2 fun _=>out
 refine q (sortedHeap h2 h1.objs.size vs out) d h1.objs.size out ns' _ (fun b ob e=>?_) sz0 (a2.trans pm) a3 a1 e3
 have nb:b≠h1.objs.size:=Ot (Om (N7 e) sz0)
 unfold sortedHeap
 rw [Qc _ _ _ _ nb]
 refine Nk _ (Nk _ ?_)
 rw [Qc _ _ _ _ nb]
 exact kp1 _ _ (kp0 _ _ e)
end
section
variable {X:Cx}
def SetO (P:Program) (w:World) (a:Addr) (ns:List Int):HO:=.ext fun h=>∃ o es ep t,SetI P w h a ns o es ep t
theorem Inv.drew {pins:List (Addr×Obj)} {σ:St} {H:Hp} {s:Shared} {d:Drawn} (I:Inv X pins σ H s):Inv X pins σ H { s with drawn:=d }:=⟨I.ok,I.os,I.bare,I.base,I.loc,I.cell,I.free,I.freeC,I.pin,I.hok,I.len⟩
theorem Am (hc:X.calm=true):CallR X (.type "set") (fun xs H Q=>∃ (p:Addr) (ns:List Int),xs=[.ref p]/\SqL X.K H p (ns.map V.int)/\ns.length+1<4096/\∀ (l:Addr) (ns':List Int),H l=none->ns'.Nodup->(∀ m,m∈ns'↔m∈ns)->Q (.ref l) (upd H l (SetO X.prog X.w l ns'))):=by
 intro pins s σ H xs us Q I r h
 obtain ⟨p,ns,rfl,hq,hfew,q⟩:=h
 obtain ⟨u,rfl,rx⟩:=vals1 r
 cases rx
 obtain ⟨its,r',pl,hz⟩:=I.list hq
 have hlen:=r'.length
 rw [Ng] at hlen
 refine Az (I.ok.hd hc) pl.isList (by simpa using intsAre_of r') (by simp only [N5]; show its.length+1<4096; omega) fun s' ns' o' es' ep' t' k1 k2 k3 k4 J hm=>?_
 have e:s'={ s with heap:=s'.heap,toks:=s'.toks }:=by
  cases s'
  simp only at k2 k3 k4
  rw [k2,k3,k4]
 rw [e]
 refine ⟨.ref s.heap.objs.size,_,I.laid (t':=s'.toks) k1 (Nu _) (show ObjOk X.prog X.w _ _ _ (SetO X.prog X.w s.heap.objs.size ns') from ⟨⟨_,_,_,_,J⟩,⟨_,J.get⟩,fun h1 h2 ⟨o,es,ep,t,z⟩ kk=>⟨o,es,ep,t,z.move kk⟩⟩),rfl,q _ ns' (I.hok.fresh (Nu _)) J.el.nd hm⟩
theorem uP (hc:X.calm=true):CallR X (.builtin "sorted") (fun xs H Q=>∃ (p:Addr) (ns:List Int),xs=[.ref p]/\H p=some (SetO X.prog X.w p ns)/\ns.length<64/\∀ (l:Addr) (ns':List Int),H l=none->ns'.Perm ns->ns'.Pairwise (·<=·)->Q (.ref l) (upd H l (.lst (ns'.map V.int)))):=by
 intro pins s σ H xs us Q I r h
 obtain ⟨p,ns,rfl,hq,h64,q⟩:=h
 obtain ⟨u,rfl,rx⟩:=vals1 r
 cases rx
 obtain ⟨⟨o,es,ep,t,J⟩,_,_⟩:=(show ObjOk X.prog X.w H s.heap p (SetO X.prog X.w p ns) from I.hok p _ hq)
 refine yH (I.ok.hd hc) J h64 fun h' d l out ns' c k1 hl pm up iv e=>?_
 have hl':=pm.length_eq
 exact ⟨.ref l,_,(I.drew (d:=d)).laid (t':=s.toks) k1 hl (show ObjOk X.prog X.w _ _ _ (.lst (ns'.map V.int)) from ⟨by rw [Ng]; have:64<=sizeLine:=(by decide); omega,out.toList,c,nY iv,by simpa using e⟩),rfl,q _ ns' (I.hok.fresh hl) pm up⟩
end
end L2
namespace D
open PySem L2
def UsC (f:L2.F):List (Int×Addr)->List (List Int)->Prop:=Paired fun u c=>c.Pairwise (· < ·)/\∀ m,m∈c↔m∈bG u.1 (mkD f)
def Dv:Sp:=fun vs H Q _=>∃ (v:V) (f:L2.F),vs=[v]/\fP H 0 f v/\DocW f/\∀ r L C H',Ul H H' r L C->L.map (·.1)=aV f->UsC f L C->Q (.ref r) H'
theorem nF {L:List (Int×Addr)} {ks:List Int} {i:Nat} {n:Int} (h:L.map (·.1)=ks) (e:ks[i]?=some n):∃ a,L[i]?=some (n,a):=by
 rw [<- h,NP] at e
 cases q:L[i]? with
 | none=>rw [q] at e; cases e
 | some u =>
  rw [q] at e
  obtain ⟨m,a⟩:=u
  cases e
  exact ⟨a,rfl⟩
theorem nW {R1 R2:Int->List Int->Prop} {n:Int} {a:Addr} {o:List Int} (h2:R2 n o) (h3:∀ k c,k≠n->R1 k c->R2 k c):∀ {L:List (Int×Addr)} {C:List (List Int)} {i:Nat},Paired (fun (u:Int×Addr) (c:List Int)=>R1 u.1 c) L C->(L.map (·.1)).Nodup->L[i]?=some (n,a)->Paired (fun (u:Int×Addr) (c:List Int)=>R2 u.1 c) L (C.set i o)
 | _,_,0,.cons (l₁:=L) h t,nd,e=>by
  cases e
  obtain ⟨h1,_⟩:=Od.mp (show (n::L.map (·.1)).Nodup from nd)
  refine .cons h2 ?_
  have all:∀ {L:List (Int×Addr)} {C:List (List Int)},n∉L.map (·.1)->Paired (fun (u:Int×Addr) (c:List Int)=>R1 u.1 c) L C->Paired (fun (u:Int×Addr) (c:List Int)=>R2 u.1 c) L C:=by
   intro L C hn r
   induction r with
   | nil=>exact .nil
   | cons h t ih=>exact .cons (h3 _ _ (fun z=>hn (by rw [<- z]; exact Ny)) h) (ih fun z=>hn (Nt _ z))
  exact all h1 t
 | _,_,i+1,.cons (a:=u) (l₁:=L) h t,nd,e=>by
  obtain ⟨h1,hnd⟩:=Od.mp (show (u.1::L.map (·.1)).Nodup from nd)
  rw [Ql] at e
  refine .cons (h3 _ _ (fun z=>h1 (Oq.mpr ⟨(n,a),Nv e,z.symm⟩)) h) (nW h2 h3 t hnd e)
theorem qx {R1 R2:Int->List Int->Prop}:∀ {L:List (Int×Addr)} {C:List (List Int)},Paired (fun (u:Int×Addr) (c:List Int)=>R1 u.1 c) L C->(∀ k c,k∈L.map (·.1)->R1 k c->R2 k c)->Paired (fun (u:Int×Addr) (c:List Int)=>R2 u.1 c) L C
 | _,_,.nil,_=>.nil
 | _,_,.cons h t,g=>.cons (g _ _ Ny h) (qx t fun k c hk=>g k c (Nt _ hk))
theorem sW {α β:Type} {R:α->β->Prop}:∀ {l:List α} {m:List β},l.length=m.length->(∀ (i:Nat) (a:α) (b:β),l[i]?=some a->m[i]?=some b->R a b)->Paired R l m
 | [],[],_,_=>.nil
 | [],_::_,h,_=>by cases h
 | _::_,[],h,_=>by cases h
 | a::l,b::m,h,g=>.cons (g 0 a b rfl rfl) (sW (Nat.succ.inj h) fun i x y e1 e2=>g (i+1) x y (by simpa using e1) (by simpa using e2))
theorem Lj {l:List Int} (h:l.Pairwise (·<=·)) (nd:l.Nodup):l.Pairwise (· < ·):=by
 have:=h.and nd
 exact this.imp fun {a b} z=>by
  obtain ⟨z1,z2⟩:=z
  omega
section
variable {P:Program} {w:World} {K:Nh} {mg:Str->Option Value} {base:Heap} {f:Addr} {fd:FuncData} {CM:Addr}
theorem scUs:FnScope ["doc","found","n","mark"] ["doc"] (aA lD):=⟨rfl,rfl,rfl,by decide +kernel,rfl,by decide +kernel,by decide +kernel⟩
set_option maxHeartbeats 8000000 in
theorem Mt (F:Fun K "uses" "uses" lD f fd) (T:Nm mg) (ms:mg "sorted"=none) (mset:mg "set"=none) (GT:Def P w K mg base CX0 23 "tellings_numbers" ["doc"] JG) (GM:Def P w K mg base CX0 23 "marks" ["doc"] zy):FnOk P w K mg base CX0 24 f fd ["doc"] Dv:=by
 refine F.ok scUs (fun vs H Q E h=>?_) (fun cdv A outer s H vs Q E hr h=>?_)
 ·obtain ⟨v,fo,rfl,_⟩:=h
  rfl
 obtain ⟨v,fo,rfl,hv,⟨ws,hmn,hD⟩,q⟩:=h
 have hu1:(A.deeper (PyProof.Rows.envOfC "uses" (aA lD) s.heap.objs.size f cdv)).units+1<cLine:=by have:=hr.un; omega
 refine ⟨_,ao (aF (i:=1) scUs.nd rfl (Or.inl rfl) iz)
  (ao (cj PassesOwn.never rfl (cu (aX GT hr (aj (pv 0) aq))) (aK (i:=2) scUs.nd rfl (Or.inl rfl)) (aD (fJ hu1 (pv 1) (pv 2) (cD aq) rfl)))
  (ao (cj PassesOwn.never rfl (cu (aX GM hr (aj (pv 0) aq))) (aK (i:=3) scUs.nd rfl (Or.inl rfl))
   (aD (bJ (gG (uY hu1 (aJ bA (pv 3) au (fun _ _=>rfl)) (pv 1))) (aD (cC (dZ Ob RW RX qW (cH hu1 (pv 1) (aJ bA (pv 3) au (fun _ _=>rfl)) (fun _ _=>rfl)) (aj (aJ bA (pv 3) au (fun _ _=>rfl)) aq)))) aR)))
  (ao (cj PassesOwn.never rfl (cu (eF (yI rfl) rfl T.list U9 (aj (pv 1) aq))) (aK (i:=2) scUs.nd rfl (Or.inl rfl))
   (aD (fJ hu1 (pv 1) (pv 2) (aH (uP rfl) rfl ms Uk (aj (eF (Am rfl) rfl mset PyProof.Rows.boot_set (aj (cH hu1 (pv 1) (pv 2) (fun _ _=>rfl)) aq)) aq)) rfl)))
  (aD (aU (pv 1)))))),?_⟩
 have hb:=big
 have tl45:=rK hD
 have tnd:=uR hD
 have hdep:=hD.dep
 have hfew:=hD.few
 refine fun d hd0=>?_
 have U0:=Ul.start (Same.refl H) hd0
 have g0:=aB hd0 (.dK [])
 generalize upd H d (.dK [])=H0 at U0 g0
 refine ⟨_,rfl,v,fo,rfl,thR.mono (t:=.part 0 fo) hv g0.t,by omega,by omega,fun tr H1 g1 htr etr=>?_⟩
 have U1:=U0.keep g1
 have ntd:tr≠d:=fun e=>by rw [e,U0.hr] at htr; cases htr
 have hv1:fP H1 0 fo v:=thR.mono (t:=.part 0 fo) hv (g0.trans g1).t
 refine ⟨tr,rfl,⟨_,SqL.of etr⟩,?_⟩
 refine cN (K:=K) (a:=tr) (xs:=(aV fo).map V.int) (fun i σ' H'=>H' tr=some (.lst ((aV fo).map V.int))/\TSame H1 H'/\∃ L C u2 u3,Ul H H' d L C/\L.map (·.1)=(aV fo).take i/\Paired (fun (_:Int×Addr) (c:List Int)=>c=[]) L C/\σ'=[some v,some (.ref d),u2,u3]) ?_ (fun i σ' H' _ h=>SqL.of h.1) ?_ ?_
 ·exact ⟨etr,TSame.refl _,[],[],_,_,U1,rfl,.nil,rfl⟩
 ·rintro i y σ' H2 hi ⟨htr2,t2,L,C,u2,u3,U,hL,hC,rfl⟩
  rw [NP] at hi
  cases en:(aV fo)[i]? with
  | none=>rw [en] at hi; cases hi
  | some n =>
   rw [en] at hi
   cases hi
   refine ⟨(by show 0<=sizeLine; decide),fun l hl=>?_⟩
   have nn:n∉L.map (·.1):=by rw [hL]; exact qI tnd en
   have ll:L.length<=45:=by
    have:=congrArg List.length hL
    rw [Ng,Oc] at this
    omega
   have ndl:d≠l:=fun e=>by rw [<- e,U.hr] at hl; cases hl
   have ntl:tr≠l:=fun e=>by rw [<- e,htr2] at hl; cases hl
   refine ⟨_,rfl,_,rfl,d,_,rfl,DPut.k (k:=Sum.inl n) (show upd H2 l (.lst []) d=some (.dK (uK L)) by rw [aC ndl]; exact U.hr) (by unfold uK; rw [Ng]; omega),?_⟩
   have U':=U.put hl nn
   refine ⟨by rw [aC ntd,aC ntl]; exact htr2,t2.trans ((aB hl _).t.trans (TSame.upd fun xs z=>by rw [aC ndl,U.hr] at z; cases z)),_,_,_,_,U',?_,m6 hC (.cons rfl .nil),rfl⟩
   rw [NK,hL,Oe,en]
   rfl
 ·rintro σ' H2 ⟨htr2,t2,L,C,u2,u3,U,hL,hC,rfl⟩
  rw [Ng,Oa] at hL
  have hv2:fP H2 0 fo v:=thR.mono (t:=.part 0 fo) hv1 t2
  refine ⟨_,rfl,v,fo,[],ws,rfl,hv2,hD,hmn,fun mr xs H3 g3 hmr emr hms=>?_⟩
  have U3:=U.keep g3
  have nmd:mr≠d:=fun e=>by rw [e,U.hr] at hmr; cases hmr
  have nml:∀ u∈L,u.2≠mr:=fun u hu e=>by
   obtain ⟨j,hj⟩:=Og hu
   obtain ⟨c,_,hc⟩:=bQ U.lv hj
   rw [e,hmr] at hc
   cases hc
  have ml:=Ih hD hmn
  have xl:=Paired.length hms
  have Ll:L.length<=45:=by
   have:=congrArg List.length hL
   rw [Ng] at this
   omega
  refine ⟨mr,rfl,⟨_,SqL.of emr⟩,?_⟩
  refine cN (K:=K) (a:=mr) (xs:=xs) (fun i σ' H'=>H' mr=some (.lst xs)/\TSame H3 H'/\∃ C u2 u3,Ul H H' d L C/\Paired (fun (u:Int×Addr) (c:List Int)=>c=bG u.1 ((mkD fo).take i)) L C/\σ'=[some v,some (.ref d),u2,u3]) ?_ (fun i σ' H' _ h=>SqL.of h.1) ?_ ?_
  ·exact ⟨emr,TSame.refl _,C,_,_,U3,Paired.mapP hC fun _ _ z=>z,rfl⟩
  ·rintro i y σ' H4 hi ⟨hmr4,t4,C4,w2,w3,U4,hC4,rfl⟩
   obtain ⟨m,em,hm⟩:=aY hms hi
   obtain ⟨ma,mp,rfl,m1,m2⟩:=hm.mono t4
   have etk:∀ n,bG n ((mkD fo).take (i+1))=if m.1=n then bG n ((mkD fo).take i)++m.2.2.2 else bG n ((mkD fo).take i):=fun n=>by
    rw [Oe,em]
    exact rZ n _ m
   have m1':SqT K H4 ma [.int m.1,.int m.2.1,.int m.2.2.1,.ref mp]:=SqT.of m1
   by_cases hk:m.1∈L.map (·.1)
   ·obtain ⟨j,hj⟩:=Og hk
    obtain ⟨a,ea⟩:=nF rfl hj
    obtain ⟨c,ec,hc⟩:=bQ U4.lv ea
    obtain ⟨c',ec',hc'⟩:=bQ hC4 ea
    rw [ec] at ec'
    cases ec'
    have hc':c=bG m.1 ((mkD fo).take i):=hc'
    have hg:DGet H4 d (.int m.1) (some (.ref a)):=by
     have:=DGet.k (k:=(Sum.inl m.1:Key)) U4.hr
     rw [jZ U4.nk ea] at this
     exact this
    have cl:c.length<=2700:=by rw [hc']; exact mz hD (by rw [<- hL]; exact hk) i
    have zl:m.2.2.2.length<=45:=ur hD m (Nv em)
    refine ⟨_,rfl,ma,_,_,_,rfl,rfl,m1',rfl,_,rfl,d,_,rfl,hg,_,rfl,iteT ?_⟩
    refine ⟨_,rfl,_,rfl,ma,_,_,_,rfl,rfl,m1',rfl,d,_,rfl,hg,.inl ⟨rfl,_,SqL.of hc⟩,_,rfl,ma,_,_,_,rfl,rfl,m1',rfl,a,mp,_,_,rfl,rfl,hc,m2,by rw [Ng,Ng]; omega,?_⟩
    rw [<- NK]
    have U5:=U4.ext (o:=c++m.2.2.2) ea
    have nam:=nml _ (Nv ea)
    refine ⟨by rw [aC nam.symm]; exact hmr4,t4.trans (TSame.lst hc),_,_,_,U5,?_,rfl⟩
    refine nW (R1:=fun k c=>c=bG k ((mkD fo).take i)) (R2:=fun k c=>c=bG k ((mkD fo).take (i+1))) ?_ (fun k c' hk' hc''=>?_) hC4 U4.nk ea
    ·show c++m.2.2.2=bG m.1 ((mkD fo).take (i+1))
     rw [etk,if_pos rfl,hc']
    ·show c'=bG k ((mkD fo).take (i+1))
     rw [etk,if_neg fun z=>hk' z.symm]
     exact hc''
   ·have hg:DGet H4 d (.int m.1) none:=by
     have:=DGet.k (k:=(Sum.inl m.1:Key)) U4.hr
     rw [mH hk] at this
     exact this
    refine ⟨_,rfl,ma,_,_,_,rfl,rfl,m1',rfl,_,rfl,d,_,rfl,hg,_,rfl,iteF ?_⟩
    refine ⟨hmr4,t4,C4,_,_,U4,?_,rfl⟩
    refine qx (R1:=fun k c=>c=bG k ((mkD fo).take i)) (R2:=fun k c=>c=bG k ((mkD fo).take (i+1))) hC4 fun k c' hk' hc''=>?_
    show c'=bG k ((mkD fo).take (i+1))
    rw [etk,if_neg fun z=>hk (by rw [z]; exact hk')]
    exact hc''
  ·rintro σ' H4 ⟨hmr4,t4,C4,w2,w3,U4,hC4,rfl⟩
   rw [<- xl,Oa] at hC4
   have ekl:(uK L).map (fun kv=>kV kv.1)=(aV fo).map V.int:=by
    rw [<- hL]
    unfold uK
    rw [Pq,Pq]
    rfl
   refine ⟨_,rfl,d,uK L,rfl,.inl U4.hr,fun kl hkl=>?_⟩
   rw [ekl]
   have nkd:kl≠d:=fun e=>by rw [e,U4.hr] at hkl; cases hkl
   have U5:=U4.keep (aB hkl (.lst ((aV fo).map V.int)))
   have e5:upd H4 kl (.lst ((aV fo).map V.int)) kl=some (.lst ((aV fo).map V.int)):=ak
   generalize upd H4 kl (.lst ((aV fo).map V.int))=H5 at U5 e5
   refine ⟨kl,rfl,⟨_,SqL.of e5⟩,?_⟩
   refine cN (K:=K) (a:=kl) (xs:=(aV fo).map V.int) (fun i σ' H'=>H' kl=some (.lst ((aV fo).map V.int))/\∃ L C u2 u3,Ul H H' d L C/\L.map (·.1)=aV fo/\(∀ j u c,L[j]?=some u->C[j]?=some c->(j<i->c.Pairwise (· < ·)/\∀ m,m∈c↔m∈bG u.1 (mkD fo))/\(i<=j->c=bG u.1 (mkD fo)))/\σ'=[some v,some (.ref d),u2,u3]) ?_ (fun i σ' H' _ h=>SqL.of h.1) ?_ ?_
   ·refine ⟨e5,L,C4,_,_,U5,hL,fun j u c e1 e2=>⟨fun z=>absurd z (Vl _),fun _=>?_⟩,rfl⟩
    obtain ⟨c',e3,h3⟩:=bQ hC4 e1
    rw [e2] at e3
    cases e3
    exact h3
   ·rintro i y σ' H6 hi ⟨hk6,L6,C6,y2,y3,U6,hL6,hC6,rfl⟩
    rw [NP] at hi
    cases en:(aV fo)[i]? with
    | none=>rw [en] at hi; cases hi
    | some n =>
     rw [en] at hi
     cases hi
     obtain ⟨a,ea⟩:=nF hL6 en
     obtain ⟨c,ec,hc⟩:=bQ U6.lv ea
     have ew:c=bG n (mkD fo):=(hC6 i (n,a) c ea ec).2 (Nu _)
     have etk:(mkD fo).take (mkD fo).length=mkD fo:=Oa
     have cl:c.length<=2700:=by
      rw [ew,<- etk]
      exact mz hD (Nv en) _
     have cm:∀ x∈c,x∈aV fo:=fun x hx=>by
      rw [ew,<- etk] at hx
      exact qO hD x hx
     have hg:DGet H6 d (.int n) (some (.ref a)):=by
      have:=DGet.k (k:=(Sum.inl n:Key)) U6.hr
      rw [jZ U6.nk ea] at this
      exact this
     refine ⟨_,rfl,_,rfl,d,_,rfl,hg,a,c,rfl,SqL.of hc,by omega,fun l1 ns1 hl1 nd1 mem1=>?_⟩
     have l45:ns1.length<=45:=OJ (nd1.length_le_of_subset fun x hx=>cm x ((mem1 x).mp hx)) tl45
     refine ⟨l1,ns1,rfl,ak,by omega,fun l2 ns2 hl2 pm up=>?_⟩
     have g7:=(aB hl1 (SetO P w l1 ns1)).trans (aB hl2 (.lst (ns2.map V.int)))
     have hl26:H6 l2=none:=(aB hl1 (SetO P w l1 ns1)).free hl2
     have e7:upd (upd H6 l1 (SetO P w l1 ns1)) l2 (.lst (ns2.map V.int)) l2=some (.lst (ns2.map V.int)):=ak
     have Ll6:L6.length<=45:=by
      have:=congrArg List.length hL6
      rw [Ng] at this
      omega
     have U7:=U6.repl g7 ea hl26 e7
     refine ⟨_,rfl,_,rfl,d,_,rfl,DPut.k (k:=Sum.inl n) (g7 _ _ U6.hr) (by unfold uK; rw [Ng]; omega),?_⟩
     refine ⟨by rw [aC nkd]; exact g7 _ _ hk6,_,_,_,_,U7,by rw [rm ea]; exact hL6,fun j u c' e1 e2=>?_,rfl⟩
     by_cases hj:j=i
     ·subst hj
      have hiL:=(Nj.mp ea).1
      have hiC:=(Nj.mp ec).1
      rw [Qo hiL] at e1
      rw [Qo hiC] at e2
      cases e1
      cases e2
      refine ⟨fun _=>⟨Lj up (pm.nodup_iff.mpr nd1),fun m=>?_⟩,fun z=>absurd z (Nat.not_succ_le_self _)⟩
      rw [pm.mem_iff,mem1 m,ew]
     ·rw [QT (fun z=>hj z.symm)] at e1 e2
      obtain ⟨z1,z2⟩:=hC6 j u c' e1 e2
      exact ⟨fun z=>z1 (by omega),fun z=>z2 (by omega)⟩
   ·rintro σ' H6 ⟨hk6,L6,C6,y2,y3,U6,hL6,hC6,rfl⟩
    rw [Ng] at hC6
    refine ⟨_,rfl,q d L6 C6 H6 U6 hL6 ?_⟩
    have ll:L6.length=(aV fo).length:=by
     have:=congrArg List.length hL6
     rw [Ng] at this
     exact this
    refine sW (Paired.length U6.lv) fun j u c e1 e2=>(hC6 j u c e1 e2).1 ?_
    rw [<- ll]
    exact (Nj.mp e1).1
end
def tlU (r:Rw):List Int:=match r.2 with
 | .inl _=>[]
 | .inr t=>tnO t
def dF (R:List Rw):List Int:=R.flatMap tlU
def tnL (ts:List Th):List Int:=aV (L2.F.of ts)
theorem vW (t:Th) (ts:List Th):tnL (t::ts)=tnL [t]++tnL ts:=by
 unfold tnL
 cases t with
 | say n ws=>rfl
 | tell n sc ph bs ms=>rfl
 | part n i =>
  show aV i++aV (L2.F.of ts)=(aV i++[])++aV (L2.F.of ts)
  rw [N6]
theorem Cu {t:Th} (h:t.ord=[t]):tnL [t]=tnO t:=by
 unfold tnL
 rw [d9,gF,jO,Ov,RN,N6,h,Ov,RN,N6]
theorem nH:∀ {R:List Rw} {K:List Int},K.Nodup->WfU K R->(K.flatMap fun k=>tnL (bld R k)).Perm (dF R)
 | [],K,nd,_=>by
  have:(K.flatMap fun k=>tnL (bld [] k))=[]:=by
   induction K with
   | nil=>rfl
   | cons x r ih=>rw [Ov]; exact ih (Od.mp nd).2 trivial
  rw [this]
  exact .nil
 | r::R,K,nd,h=>by
  obtain ⟨h1,h2⟩:=h
  obtain ⟨p,x⟩:=r
  have ene:∀ k,k≠parU (p,x)->bld ((p,x)::R) k=bld R k:=fun k hk=>if_neg fun z=>hk z.symm
  cases x with
  | inl n =>
   obtain ⟨hn,h2⟩:=h2
   have nd':(K++[n]).Nodup:=O4.mpr ⟨nd,by simp,fun a ha b hb e=>hn (by rw [<- Nq.mp hb,<- e]; exact ha)⟩
   have ih:=nH nd' h2
   have e0:tnL (bld ((p,.inl n)::R) (parU (p,.inl n)))=tnL (bld R n)++tnL (bld R (parU (p,.inl n))):=by
    have e:bld ((p,.inl n)::R) (parU (p,.inl n))=Th.part n (L2.F.of (bld R n))::bld R (parU (p,.inl n)):=if_pos rfl
    rw [e,vW]
    show (tnL (bld R n)++[])++_=_
    rw [N6]
   refine (iV (g:=fun k=>tnL (bld ((p,.inl n)::R) k)) (f:=fun k=>tnL (bld R k)) e0 (fun k hk=>by show tnL (bld _ k)=_; rw [ene k hk]) nd h1).trans ?_
   rw [O7] at ih
   have ih:((K.flatMap fun k=>tnL (bld R k))++(tnL (bld R n)++[])).Perm (dF R):=ih
   rw [N6] at ih
   exact S8.trans ih
  | inr t =>
   obtain ⟨ho,h2⟩:=h2
   have ih:=nH nd h2
   have e0:tnL (bld ((p,.inr t)::R) (parU (p,.inr t)))=tnO t++tnL (bld R (parU (p,.inr t))):=by
    have e:bld ((p,.inr t)::R) (parU (p,.inr t))=t::bld R (parU (p,.inr t)):=if_pos rfl
    rw [e,vW,Cu ho]
   refine (iV (g:=fun k=>tnL (bld ((p,.inr t)::R) k)) (f:=fun k=>tnL (bld R k)) e0 (fun k hk=>by show tnL (bld _ k)=_; rw [ene k hk]) nd h1).trans ?_
   exact ih.append_left (tnO t)
theorem xM {ns:List Int} {R:List Rw} {path:List Int} (h:RwsOk ns R path) (h20:R.length<=20) (zs:List Str):(aV (L2.F.of (bld (dI ns R zs) 0))).Perm (dF (dI ns R zs)):=by
 have pm:=nH (R:=dI ns R zs) (K:=[0]) (by simp) (yZ h h20 zs)
 rw [Ov,RN,N6] at pm
 exact pm
theorem uf (R:List Rw):(dF R).length<=R.length:=by
 induction R with
 | nil=>exact Nu _
 | cons r R ih =>
  have e:dF (r::R)=tlU r++dF R:=rfl
  rw [e,Np,Oj]
  have:(tlU r).length<=1:=by
   obtain ⟨p,x⟩:=r
   cases x with
   | inl n=>exact OD _
   | inr t=>cases t <;> simp [tlU,tnO]
  omega
theorem lM {R:List Rw} {i:Nat} {r:Rw} (e:R[i]?=some r):dF (R.take (i+1))=dF (R.take i)++tlU r:=by
 unfold dF
 rw [Oe,e,O7]
 show _++(tlU r++[])=_
 rw [N6]
theorem Bj {R:List Rw} {i:Nat} {r:Rw} {n:Int} (nd:(dF R).Nodup) (e:R[i]?=some r) (hn:n∈tlU r):n∉dF (R.take i):=fun z=>by
 have hi:=(Nj.mp e).1
 have e2:dF R=dF (R.take (i+1))++dF (R.drop (i+1)):=by
  unfold dF
  rw [<- O7,QS]
 rw [e2,lM e] at nd
 exact (O4.mp (O4.mp nd).1).2.2 n z n hn rfl
def kdU (r:Rw):Str:=match r.2 with
 | .inl _=>"part"
 | .inr t=>knd t
theorem Dq {H:Hp} {r:Rw} {v:V} (h:rwU H r v):∃ a pa ta xs,v=.ref a/\H a=some (.tup [.ref pa,.ref ta])/\H ta=some (.tup xs)/\atI xs 0=some (.str (kdU r))/\atI xs 1=some (.int (Rw.num r)):=by
 obtain ⟨a,pa,x,e,h1,h2,h3⟩:=h
 obtain ⟨p,y⟩:=r
 cases y with
 | inl n =>
  obtain ⟨q,rfl,h⟩:=h3
  exact ⟨a,pa,q,_,e,h1,h,rfl,rfl⟩
 | inr t =>
  obtain ⟨ta,xs,rfl,k1,k2,k3⟩:=gU (show thR H t x from h3)
  exact ⟨a,pa,ta,xs,e,h1,k1,k2,k3⟩
theorem J5 {r:Rw} (h:decide (V.str (kdU r)=V.str "tell")=true):tlU r=[Rw.num r]:=by
 obtain ⟨p,y⟩:=r
 cases y with
 | inl n=>exact absurd h (by show ¬ decide (V.str "part"=V.str "tell")=true; decide)
 | inr t =>
  cases t with
  | say n ws=>exact absurd h (by show ¬ decide (V.str "say"=V.str "tell")=true; decide)
  | tell n sc ph bs ms=>rfl
  | part n i=>exact absurd h (by show ¬ decide (V.str "part"=V.str "tell")=true; decide)
theorem Ma {r:Rw} (h:¬ decide (V.str (kdU r)=V.str "tell")=true):tlU r=[]:=by
 obtain ⟨p,y⟩:=r
 cases y with
 | inl n=>rfl
 | inr t =>
  cases t with
  | say n ws=>rfl
  | tell n sc ph bs ms=>exact absurd (decide_eq_true rfl) h
  | part n i=>rfl
def UsW (ms:List Mk):List (Int×Addr)->List (List Int)->Prop:=Paired fun u c=>c=bG u.1 ms
def vA:Sp:=fun vs H Q _=>∃ (ra ma:Addr) (xs ys:List V) (R:List Rw) (ms:List Mk),vs=[.ref ra,.ref ma]/\H ra=some (.lst xs)/\Paired (rwU H) R xs/\R.length<=1000/\(dF R).Nodup/\H ma=some (.lst ys)/\mksR H ms ys/\(∀ m∈ms,m.2.2.2.length<=45)/\(∀ n∈dF R,∀ k,(bG n (ms.take k)).length<=2700) /\
 ∀ r L C H',Ul H H' r L C->L.map (·.1)=dF R->UsW ms L C->Q (.ref r) H'
section
variable {P:Program} {w:World} {K:Nh} {mg:Str->Option Value} {base:Heap} {f:Addr} {fd:FuncData}
abbrev NUL:List Str:=["_law_rows_here","_law_found","_law_used_here","_law_path","_law_thing","_law_number_here","_law_start","_law_length","_law_winners"]
theorem scUL:FnScope NUL ["_law_rows_here","_law_found"] (aA gR):=⟨rfl,rfl,rfl,by decide +kernel,rfl,by decide +kernel,by decide +kernel⟩
set_option maxHeartbeats 8000000 in
theorem Fx (F:Fun K "_law_used" "_law_used" gR f fd):FnOk P w K mg base CX0 1 f fd ["_law_rows_here","_law_found"] vA:=by
 refine F.ok scUL (fun vs H Q E h=>?_) (fun cdv A outer s H vs Q E hr h=>?_)
 ·obtain ⟨ra,ma,xs,ys,R,ms,rfl,_⟩:=h
  rfl
 obtain ⟨ra,ma,xs,ys,R,ms,rfl,hra,hR,hRl,hnd,hma,hms,hmw,hwl,q⟩:=h
 have hu1:(A.deeper (PyProof.Rows.envOfC "_law_used" (aA gR) s.heap.objs.size f cdv)).units+1<cLine:=by have:=hr.un; omega
 refine ⟨_,ao (aF (i:=2) scUL.nd rfl (Or.inl rfl) iz)
  (ao (cj PassesOwn.never rfl (cu (pv 0)) (jW rfl (bM (aK (i:=3) scUL.nd rfl (Or.inl rfl)) (bM (aK (i:=4) scUL.nd rfl (Or.inl rfl)) iC)))
   (aD (bJ (aN eG (aJ bA (pv 4) au (fun _ _=>rfl)) cJ (bD _))
    (aD (fJ hu1 (pv 2) (aJ bA (pv 4) au (fun _ _=>rfl)) (cD aq) rfl)) aR)))
  (ao (cj PassesOwn.never rfl (cu (pv 1)) (jW rfl (bM (aK (i:=5) scUL.nd rfl (Or.inl rfl)) (bM (aK (i:=6) scUL.nd rfl (Or.inl rfl)) (bM (aK (i:=7) scUL.nd rfl (Or.inl rfl)) (bM (aK (i:=8) scUL.nd rfl (Or.inl rfl)) iC)))))
   (aD (bJ (gG (uY hu1 (pv 5) (pv 2)))
    (aD (cC (dZ Ob RW RX qW (cH hu1 (pv 2) (pv 5) (fun _ _=>rfl)) (aj (pv 8) aq)))) aR)))
  (aD (aU (pv 2))))),?_⟩
 have hb:=big
 refine fun d hd0=>?_
 have U0:=Ul.start (Same.refl H) hd0
 show (tSeq _ _:TS) _ _ (upd H d (.dK []))
 generalize upd H d (.dK [])=H0 at U0
 refine ⟨_,rfl,ra,rfl,⟨_,SqL.of (U0.same _ _ hra)⟩,?_⟩
 refine cN (K:=K) (a:=ra) (xs:=xs) (fun i σ' H'=>∃ L C u3 u4 u5 u6 u7 u8,Ul H H' d L C/\L.map (·.1)=dF (R.take i)/\Paired (fun (_:Int×Addr) (c:List Int)=>c=[]) L C/\σ'=[some (.ref ra),some (.ref ma),some (.ref d),u3,u4,u5,u6,u7,u8]) ?_ (fun i σ' H' _ h=>by obtain ⟨_,_,_,_,_,_,_,_,U,_⟩:=h; exact SqL.of (U.same _ _ hra)) ?_ ?_
 ·exact ⟨[],[],_,_,_,_,_,_,U0,rfl,.nil,rfl⟩
 ·rintro i v σ' H1 hi ⟨L,C,u3,u4,u5,u6,u7,u8,U,hL,hC,rfl⟩
  obtain ⟨r,er,hr1⟩:=aY hR hi
  obtain ⟨va,pa,ta,tx,rfl,k1,k2,k3,k4⟩:=Dq (hr1.mono U.same.t)
  refine ⟨va,_,rfl,SqT.of k1,rfl,_,_,rfl,_,_,rfl,rfl,?_⟩
  refine ⟨_,rfl,ta,_,_,_,rfl,rfl,SqT.of k2,k3,rfl,_,rfl,?_⟩
  refine ite2 (fun dd=>?_) (fun dd=>?_)
  ·have etl:=J5 dd
   refine ⟨(by show 0<=sizeLine; decide),fun l hl=>?_⟩
   have g4:=aB hl (.lst [])
   have e4:upd H1 l (.lst []) l=some (.lst (([]:List Int).map V.int)):=ak
   generalize upd H1 l (.lst [])=H4 at g4 e4
   have nn:Rw.num r∉L.map (·.1):=by
    rw [hL]
    exact Bj hnd er (by rw [etl]; exact Ny)
   have Ll:L.length<=1000:=by
    have h1:=congrArg List.length hL
    have h2:=uf (R.take i)
    rw [Ng] at h1
    rw [Oc] at h2
    omega
   refine ⟨_,rfl,_,rfl,ta,_,_,_,rfl,rfl,SqT.of (g4 _ _ k2),k4,d,_,rfl,DPut.k (k:=Sum.inl (Rw.num r)) (g4 _ _ U.hr) (by unfold uK; rw [Ng]; omega),?_⟩
   have U5:=U.putC g4 hl e4 nn
   refine ⟨_,_,_,_,_,_,_,_,U5,?_,m6 hC (.cons rfl .nil),rfl⟩
   rw [NK,hL,lM er,etl]
   rfl
  ·refine ⟨L,C,_,_,_,_,_,_,U,?_,hC,rfl⟩
   rw [hL,lM er,Ma dd,N6]
 ·rintro σ' H1 ⟨L,C,u3,u4,u5,u6,u7,u8,U,hL,hC,rfl⟩
  have xl:xs.length=R.length:=(Paired.length hR).symm
  rw [xl,Oa] at hL
  have hma1:=U.same _ _ hma
  have hms1:=hms.mono U.same.t
  refine ⟨_,rfl,ma,rfl,⟨_,SqL.of hma1⟩,?_⟩
  refine cN (K:=K) (a:=ma) (xs:=ys) (fun i σ' H'=>∃ C u3 u4 u5 u6 u7 u8,Ul H H' d L C/\Paired (fun (u:Int×Addr) (c:List Int)=>c=bG u.1 (ms.take i)) L C/\σ'=[some (.ref ra),some (.ref ma),some (.ref d),u3,u4,u5,u6,u7,u8]) ?_ (fun i σ' H' _ h=>by obtain ⟨_,_,_,_,_,_,_,U,_⟩:=h; exact SqL.of (U.same _ _ hma)) ?_ ?_
  ·exact ⟨C,_,_,_,_,_,_,U,Paired.mapP hC fun _ _ z=>z,rfl⟩
  ·rintro i y σ' H4 hi ⟨C4,w3,w4,w5,w6,w7,w8,U4,hC4,rfl⟩
   obtain ⟨m,em,hm⟩:=aY hms hi
   obtain ⟨mx,mp,rfl,m1,m2⟩:=hm.mono U4.same.t
   have etk:∀ n,bG n (ms.take (i+1))=if m.1=n then bG n (ms.take i)++m.2.2.2 else bG n (ms.take i):=fun n=>by
    rw [Oe,em]
    exact rZ n _ m
   refine ⟨mx,_,rfl,SqT.of m1,rfl,_,_,rfl,_,_,rfl,_,_,rfl,_,_,rfl,rfl,?_⟩
   by_cases hk:m.1∈L.map (·.1)
   ·obtain ⟨j,hj⟩:=Og hk
    obtain ⟨a,ea⟩:=nF rfl hj
    obtain ⟨c,ec,hc⟩:=bQ U4.lv ea
    obtain ⟨c',ec',hc'⟩:=bQ hC4 ea
    rw [ec] at ec'
    cases ec'
    have hc':c=bG m.1 (ms.take i):=hc'
    have hg:DGet H4 d (.int m.1) (some (.ref a)):=by
     have:=DGet.k (k:=(Sum.inl m.1:Key)) U4.hr
     rw [jZ U4.nk ea] at this
     exact this
    have cl:c.length<=2700:=by rw [hc']; exact hwl _ (by rw [<- hL]; exact hk) i
    have zl:m.2.2.2.length<=45:=hmw m (Nv em)
    refine ⟨_,rfl,_,rfl,d,_,rfl,hg,_,rfl,iteT ?_⟩
    refine ⟨_,rfl,_,rfl,d,_,rfl,hg,.inl ⟨rfl,_,SqL.of hc⟩,_,rfl,a,mp,_,_,rfl,rfl,hc,m2,by rw [Ng,Ng]; omega,?_⟩
    rw [<- NK]
    have U5:=U4.ext (o:=c++m.2.2.2) ea
    refine ⟨_,_,_,_,_,_,_,U5,?_,rfl⟩
    refine nW (R1:=fun k c=>c=bG k (ms.take i)) (R2:=fun k c=>c=bG k (ms.take (i+1))) ?_ (fun k c' hk' hc''=>?_) hC4 U4.nk ea
    ·show c++m.2.2.2=bG m.1 (ms.take (i+1))
     rw [etk,if_pos rfl,hc']
    ·show c'=bG k (ms.take (i+1))
     rw [etk,if_neg fun z=>hk' z.symm]
     exact hc''
   ·have hg:DGet H4 d (.int m.1) none:=by
     have:=DGet.k (k:=(Sum.inl m.1:Key)) U4.hr
     rw [mH hk] at this
     exact this
    refine ⟨_,rfl,_,rfl,d,_,rfl,hg,_,rfl,iteF ?_⟩
    refine ⟨C4,_,_,_,_,_,_,U4,?_,rfl⟩
    refine qx (R1:=fun k c=>c=bG k (ms.take i)) (R2:=fun k c=>c=bG k (ms.take (i+1))) hC4 fun k c' hk' hc''=>?_
    show c'=bG k (ms.take (i+1))
    rw [etk,if_neg fun z=>hk (by rw [z]; exact hk')]
    exact hc''
  ·rintro σ' H4 ⟨C4,w3,w4,w5,w6,w7,w8,U4,hC4,rfl⟩
   have yl:ys.length=ms.length:=(Paired.length hms).symm
   rw [yl,Oa] at hC4
   exact ⟨_,rfl,q d L C4 H4 U4 hL hC4⟩
end
abbrev Rks:=List (Int×Int)
def aO (M:Rks):List Int:=M.map (·.1)
def rdy (ks:List Int) (c:Int->List Int) (M:Rks):List Int:=ks.filter fun n=>!decide (n∈aO M) && (c n).all fun x=>decide (x∈aO M)
def nextR (ks:List Int) (c:Int->List Int) (M:Rks) (r:Int):Rks:=M++(rdy ks c M).map fun n=>(n,r)
theorem kO {ks:List Int} {c:Int->List Int} {M:Rks} {n:Int}:n∈rdy ks c M↔n∈ks/\n∉aO M/\∀ x∈c n,x∈aO M:=by
 unfold rdy
 rw [Qv,Qa,PJ]
 constructor
 ·rintro ⟨h1,h2,h3⟩
  exact ⟨h1,by simpa using h2,fun x hx=>by simpa using h3 x hx⟩
 ·rintro ⟨h1,h2,h3⟩
  exact ⟨h1,by simpa using h2,fun x hx=>by simpa using h3 x hx⟩
structure RkI (ks:List Int) (c:Int->List Int) (M:Rks) (r:Int):Prop where
 nd:(aO M).Nodup
 sub:∀ n∈aO M,n∈ks
 r0:0<=r
 up:∀ n q,(n,q)∈M->0<=q/\q<r/\(∀ x∈c n,∃ p,(x,p)∈M/\p<q)/\(q=0∨∃ x∈c n,(x,q-1)∈M)
 no:∀ n∈ks,n∉aO M->r=0∨∃ x∈c n,∀ q,(x,q)∈M->q=r-1
 em:r=0->M=[]
theorem RkI.start (ks:List Int) (c:Int->List Int):RkI ks c [] 0:=⟨Qu,(fun _ h=>by cases h),Sx _,(fun _ _ h=>by cases h),(fun _ _ _=>.inl rfl),fun _=>rfl⟩
theorem dU {M:Rks} {n:Int}:n∈aO M↔∃ q,(n,q)∈M:=by
 unfold aO
 rw [Oq]
 constructor
 ·rintro ⟨⟨m,q⟩,h,rfl⟩
  exact ⟨q,h⟩
 ·rintro ⟨q,h⟩
  exact ⟨_,h,rfl⟩
theorem nR (ks:List Int) (c:Int->List Int) (M:Rks) (r:Int):aO (nextR ks c M r)=aO M++rdy ks c M:=by
 unfold nextR aO
 rw [NK,Pq]
 congr 1
 exact List.map_id _
theorem RkI.next {ks:List Int} {c:Int->List Int} {M:Rks} {r:Int} (h:RkI ks c M r) (hk:ks.Nodup):RkI ks c (nextR ks c M r) (r+1):=by
 have old:∀ {n q},(n,q)∈M->(n,q)∈nextR ks c M r:=fun h=>O8 _ h
 refine ⟨?_,?_,by have:=h.r0; omega,?_,?_,fun e=>by have:=h.r0; omega⟩
 ·rw [nR]
  refine O4.mpr ⟨h.nd,hk.sublist Tn,fun a ha b hb e=>?_⟩
  exact (kO.mp hb).2.1 (by rw [<- e]; exact ha)
 ·rw [nR]
  intro n hn
  rcases Nz.mp hn with z | z
  ·exact h.sub n z
  ·exact (kO.mp z).1
 ·intro n q hq
  rcases Nz.mp hq with z | z
  ·obtain ⟨h1,h2,h3,h4⟩:=h.up n q z
   refine ⟨h1,by omega,fun x hx=>?_,?_⟩
   ·obtain ⟨p,hp,hl⟩:=h3 x hx
    exact ⟨p,old hp,hl⟩
   ·rcases h4 with e | ⟨x,hx,hm⟩
    ·exact .inl e
    ·exact .inr ⟨x,hx,old hm⟩
  ·obtain ⟨m,hm,e⟩:=Oq.mp z
   cases e
   obtain ⟨k1,k2,k3⟩:=kO.mp hm
   refine ⟨h.r0,by omega,fun x hx=>?_,?_⟩
   ·obtain ⟨p,hp⟩:=dU.mp (k3 x hx)
    exact ⟨p,old hp,(h.up x p hp).2.1⟩
   ·rcases h.no _ k1 k2 with e | ⟨x,hx,hq⟩
    ·exact .inl e
    ·obtain ⟨p,hp⟩:=dU.mp (k3 x hx)
     have:=hq p hp
     subst this
     exact .inr ⟨x,hx,old hp⟩
 ·intro n hn hnot
  right
  rw [nR] at hnot
  have n1:n∉aO M:=fun z=>hnot (O8 _ z)
  have n2:n∉rdy ks c M:=fun z=>hnot (NZ _ z)
  have:∃ x∈c n,x∉aO M:=by
   refine Classical.byContradiction fun z=>n2 (kO.mpr ⟨hn,n1,fun x hx=>?_⟩)
   exact Classical.byContradiction fun y=>z ⟨x,hx,y⟩
  obtain ⟨x,hx,hxn⟩:=this
  refine ⟨x,hx,fun q hq=>?_⟩
  rcases Nz.mp hq with z | z
  ·exact absurd (dU.mpr ⟨q,z⟩) hxn
  ·obtain ⟨m,_,e⟩:=Oq.mp z
   cases e
   omega
structure RkOk (ks:List Int) (c:Int->List Int) (M:Rks):Prop where
 nd:(aO M).Nodup
 ks:(aO M).Perm ks
 up:∀ n q,(n,q)∈M->0<=q/\(∀ x∈c n,∃ p,(x,p)∈M/\p<q)/\(q=0∨∃ x∈c n,(x,q-1)∈M)
theorem RkI.done {ks:List Int} {c:Int->List Int} {M:Rks} {r:Int} (h:RkI ks c M r) (hk:ks.Nodup) (hl:ks.length<=M.length):RkOk ks c M:=by
 refine ⟨h.nd,?_,fun n q hq=>?_⟩
 ·have hl':ks.length<=(aO M).length:=by unfold aO; rw [Ng]; exact hl
  refine (Tt h.nd hk).mpr fun x=>⟨h.sub x,fun hx=>Classical.byContradiction fun hn=>?_⟩
  have nd:(x::aO M).Nodup:=Od.mpr ⟨hn,h.nd⟩
  have:=nd.length_le_of_subset (l₂:=ks) fun y hy=>by
   rcases NT.mp hy with e | e
   ·rw [e]; exact hx
   ·exact h.sub y e
  rw [Oj] at this
  omega
 ·obtain ⟨h1,_,h3,h4⟩:=h.up n q hq
  exact ⟨h1,h3,h4⟩
def nxt (c:Int->List Int) (M:Rks) (n:Int):List Int:=(c n).filter fun x=>!decide (x∈aO M)
structure WayI (ks:List Int) (c:Int->List Int) (M:Rks) (way:List Int) (n:Int):Prop where
 nd:way.Nodup
 mem:∀ x∈way,x∈ks/\x∉aO M
 cur:n∈ks/\n∉aO M
 st:∀ (i:Nat) (x y:Int),way[i]?=some x->way[i+1]?=some y->y∈c x
 la:∀ x,way.getLast?=some x->n∈c x
structure RingOk (ks:List Int) (c:Int->List Int) (way:List Int):Prop where
 ne:way≠[]
 nd:way.Nodup
 mem:∀ x∈way,x∈ks
 st:∀ (i:Nat) (x:Int),way[i]?=some x->∃ y,way[(i+1) % way.length]?=some y/\y∈c x
theorem WayI.start {ks:List Int} {c:Int->List Int} {M:Rks} {n:Int} (h:n∈ks/\n∉aO M):WayI ks c M [] n:=⟨Qu,(fun _ h=>by cases h),h,(fun i x y h=>by simp at h),(fun x h=>by simp at h)⟩
theorem WayI.go {ks:List Int} {c:Int->List Int} {M:Rks} {way:List Int} {n m:Int} (h:WayI ks c M way n) (hn:n∉way) (hm:m∈c n) (hk:m∈ks/\m∉aO M):WayI ks c M (way++[n]) m:=by
 refine ⟨?_,?_,hk,?_,?_⟩
 ·exact O4.mpr ⟨h.nd,by simp,fun a ha b hb e=>hn (by rw [<- Nq.mp hb,<- e]; exact ha)⟩
 ·intro x hx
  rcases Nz.mp hx with z | z
  ·exact h.mem x z
  ·rw [Nq.mp z]; exact h.cur
 ·intro i x y hx hy
  by_cases hi:i+1<way.length
  ·rw [Ox hi] at hy
   rw [Ox (by omega)] at hx
   exact h.st i x y hx hy
  ·have hl:=(Nj.mp hy).1
   rw [Np] at hl
   have hl:i+1<way.length+1:=hl
   have ei:i+1=way.length:=by omega
   rw [ei,Px (Nu _),TQ] at hy
   cases hy
   rw [Ox (by omega)] at hx
   refine h.la x ?_
   rw [T8]
   have:way.length-1=i:=by omega
   rw [this]
   exact hx
 ·intro x hx
  rw [List.getLast?_append] at hx
  cases hx
  exact hm
theorem WayI.ring {ks:List Int} {c:Int->List Int} {M:Rks} {way:List Int} {n:Int} {j:Nat} (h:WayI ks c M way n) (hj:way[j]?=some n):RingOk ks c (way.drop j):=by
 have jl:=(Nj.mp hj).1
 have dl:(way.drop j).length=way.length-j:=O9
 refine ⟨fun z=>?_,h.nd.sublist (Wk _ _),fun x hx=>(h.mem x (QV hx)).1,fun i x hx=>?_⟩
 ·rw [z] at dl
  have:0=way.length-j:=dl
  omega
 ·have il:=(Nj.mp hx).1
  rw [Sd] at hx
  by_cases hi:i+1<way.length-j
  ·have e:(i+1) % (way.drop j).length=i+1:=by rw [dl]; exact Nat.mod_eq_of_lt hi
   rw [e,Sd]
   have hy:j+(i+1)<way.length:=by omega
   exact ⟨way[j+(i+1)],Nr hy,h.st (j+i) x _ hx (by rw [show j+i+1=j+(i+1) by omega]; exact Nr hy)⟩
  ·have e:(i+1) % (way.drop j).length=0:=by
    rw [dl] at il ⊢
    have:i+1=way.length-j:=by omega
    rw [this]
    exact Nat.mod_self _
   rw [e,Sd,Nat.add_zero,hj]
   refine ⟨n,rfl,h.la x ?_⟩
   rw [T8]
   have:way.length-1=j+i:=by omega
   rw [this]
   exact hx
theorem xW {ks:List Int} {c:Int->List Int} {M:Rks} (hc:∀ n∈ks,∀ x∈c n,x∈ks) (he:rdy ks c M=[]) {n:Int} (hn:n∈ks/\n∉aO M):∃ m r,nxt c M n=m::r/\m∈c n/\m∈ks/\m∉aO M:=by
 have:∃ x∈c n,x∉aO M:=by
  refine Classical.byContradiction fun z=>?_
  have:n∈rdy ks c M:=kO.mpr ⟨hn.1,hn.2,fun x hx=>Classical.byContradiction fun y=>z ⟨x,hx,y⟩⟩
  rw [he] at this
  cases this
 obtain ⟨x,hx,hxn⟩:=this
 cases e:nxt c M n with
 | nil =>
  have:x∈nxt c M n:=Qv.mpr ⟨hx,by simp [hxn]⟩
  rw [e] at this
  cases this
 | cons m r =>
  have hm:m∈nxt c M n:=by rw [e]; exact Ny
  obtain ⟨h1,h2⟩:=Qv.mp hm
  exact ⟨m,r,rfl,h1,hc n hn.1 m h1,by simpa using h2⟩
theorem wX {ks:List Int} {M:Rks} (hk:ks.Nodup) (hl:M.length<ks.length):∃ m r,ks.filter (fun x=>!decide (x∈aO M))=m::r/\m∈ks/\m∉aO M:=by
 cases e:ks.filter (fun x=>!decide (x∈aO M)) with
 | nil =>
  have:∀ x∈ks,x∈aO M:=fun x hx=>by
   have:=Rk.mp e x hx
   simpa using this
  have:=hk.length_le_of_subset this
  unfold aO at this
  rw [Ng] at this
  omega
 | cons m r =>
  have hm:m∈ks.filter (fun x=>!decide (x∈aO M)):=by rw [e]; exact Ny
  obtain ⟨h1,h2⟩:=Qv.mp hm
  exact ⟨m,r,rfl,h1,by simpa using h2⟩
end D
namespace L2
open PySem PySem.Spec PyProof.Rows
def isZ (z:Int):Value->Bool
 | .int y _=>y==z
 | _=>false
section
variable {X:Cx}
theorem yN:MtR X "list.index" (fun x vs H Q=>∃ (a:Addr) (zs:List Int) (z:Int) (j:Nat),x=.ref a/\vs=[.int z]/\H a=some (.lst (zs.map V.int))/\zs[j]?=some z/\(∀ m,m<j->zs[m]?≠some z)/\Q (.int j) H):=by
 intro pins s σ H x vs v us Q I rx rv h
 obtain ⟨a,zs,z,j,rfl,rfl,hH,hj,hno,q⟩:=h
 cases rx
 obtain ⟨u,rfl,ru⟩:=vals1 rv
 obtain ⟨t',rfl⟩:=ru
 obtain ⟨hz,its,n,r,hl,e⟩:=I.lstM hH
 have hb:sizeLine<2 ^ 63-1:=by decide
 rw [Ng] at hz hl
 have sz:its.toArray.size=zs.length:=by rw [N5]; exact hl.symm
 have key:∀ m (hm:m<its.toArray.size),∃ y t,its.toArray[m]=.int y t/\zs[m]?=some y:=fun m hm=>by
  have hm2:m<zs.length:=by omega
  obtain ⟨u,hu,ru⟩:=r.get (i:=m) (x:=.int zs[m]) (by rw [NP,Nr hm2] <;> rfl)
  obtain ⟨t,rfl⟩:=ru
  refine ⟨zs[m],t,?_,Nr hm2⟩
  rw [Nr (by rw [<- hl]; exact hm2)] at hu
  simpa using Option.some.inj hu
 have hj1:j<zs.length:=(Nj.mp hj).1
 have hit:isZ z its.toArray[j]=true:=by
  obtain ⟨y,t,e1,e2⟩:=key j (by omega)
  rw [e1]
  rw [hj] at e2
  cases e2
  exact beq_self_eq_true _
 have hnot:∀ m (hm:m<its.toArray.size),m<j->isZ z its.toArray[m]=false:=fun m hm lt=>by
  obtain ⟨y,t,e1,e2⟩:=key m hm
  rw [e1]
  refine beq_eq_false_iff_ne.mpr fun e3=>hno m lt ?_
  rw [e2,e3]
 refine Vq F.slot_list_index ⟨_,e,rfl⟩ F.entry_list_index (F.args_list_index_2 _ _) (SeqAt.list_indexAt a its.toArray n none #[] (.int z t') (isZ z) j (by omega) (by omega) hit hnot) ⟨e,fun y hy=>?_,⟨.int j,H,I.tok _,⟨_,rfl⟩,q⟩⟩
 obtain ⟨m,hm,rfl⟩:=Array.mem_iff_getElem.mp hy
 obtain ⟨y,t,e1,e2⟩:=key m hm
 rw [e1]
 exact V6 y t z t'
theorem Ao (hc:X.calm=true):CallR X (.builtin "max") (fun xs H Q=>∃ (p:Addr) (ns:List Int),xs=[.ref p]/\SqL X.K H p (ns.map V.int)/\0<ns.length/\∀ M,M∈ns->(∀ a∈ns,a<=M)->Q (.int M) H):=by
 intro pins s σ H xs us Q I r h
 obtain ⟨p,ns,rfl,hq,hne,q⟩:=h
 obtain ⟨u,rfl,rx⟩:=vals1 r
 cases rx
 obtain ⟨its,r',pl,hz⟩:=I.list hq
 have hi:IntsAre its ns:=intsAre_of r'
 obtain ⟨ys,e⟩:=hi.allInts.items
 have hns:ns=ys.toList.map (·.1):=by
  rw [<- hi.numsOf,<- nums_intItems,<- e]
 have hsz:0<ys.size:=by
  have h3:=hne
  rw [hns,Ng,Py] at h3
  exact h3
 have hl:s.heap.IsList p (intItems ys):=by rw [<- e]; exact pl.isList
 refine max_intList (I.ok.hd hc) hl hsz fun v h' tk hv hk=>?_
 obtain ⟨t,rfl⟩:=intItems_at hv
 obtain ⟨h1,h2⟩:=argBest_gt (numAt ys) (ys.size-1)
 refine ⟨.int _,H,I.kept (t':=tk) hk,⟨t,rfl⟩,q _ ?_ fun a ha=>?_⟩
 ·rw [hns,numAt_eq]
  exact getD_mem (by rw [Ng,Py]; omega)
 ·rw [hns] at ha
  obtain ⟨j,hj,rfl⟩:=mem_getD ha
  rw [Ng,Py] at hj
  rw [<- numAt_eq]
  exact h2 j (by omega)
end
section
variable {X:Cx} {α:Type} [DecidableEq α] {R:Hp->α->V->Prop}
theorem Ed (h:EqOk X X.A.in1 R):OpR X (compareOp .In) (fun x y H Q=>∃ z zs,R H z x/\tupR X.K R H zs y/\Q (.bl (decide (z∈zs))) H):=by
 intro pins s σ H x y v u Q I rx ry hh
 obtain ⟨z,zs,pz,⟨a,xs,rfl,hq,ps⟩,q⟩:=hh
 cases ry
 obtain ⟨its,r,pl,hz⟩:=I.tuple hq
 refine SeqAt.in_tupleAt (standsFor R H z) pl (fun w hw=>jy h I rx pz r ps w (by simpa using hw)) ⟨.bl _,H,I,rfl,?_⟩
 rw [show its.toArray.any (standsFor R H z)=its.any (standsFor R H z) by simp,jq h I r ps]
 exact q
end
end L2
namespace D
open PySem L2
def nK (M:Rks):List (Key×V):=M.map fun u=>(Sum.inl u.1,V.int u.2)
theorem uE {n:Int}:∀ {M:Rks},n∉aO M->valV (nK M) (Sum.inl n:Key)=none
 | [],_=>rfl
 | u::M,h=>by
  have h1:¬ (Sum.inl u.1:Key)=Sum.inl n:=fun e=>h (by cases e; exact Ny)
  exact (cA (p:=((Sum.inl u.1:Key),V.int u.2)) h1).trans (uE fun z=>h (Nt _ z))
theorem yh {n q:Int}:∀ {M:Rks},(aO M).Nodup->(n,q)∈M->valV (nK M) (Sum.inl n:Key)=some (.int q)
 | u::M,nd,h=>by
  have nd:(u.1::aO M).Nodup:=nd
  obtain ⟨h1,h2⟩:=Od.mp nd
  rcases NT.mp h with e | e
  ·rw [<- e]
   exact cT (p:=((Sum.inl n:Key),V.int q)) rfl
  ·have h3:¬ (Sum.inl u.1:Key)=Sum.inl n:=fun z=>by
    have:u.1=n:=Sum.inl.inj z
    exact h1 (by rw [this]; exact dU.mpr ⟨q,e⟩)
   exact (cA (p:=((Sum.inl u.1:Key),V.int u.2)) h3).trans (yh h2 e)
theorem Ag {n:Int}:∀ {M:Rks},n∈aO M->∃ q,valV (nK M) (Sum.inl n:Key)=some (.int q)
 | u::M,h=>by
  by_cases e:u.1=n
  ·exact ⟨u.2,cT (p:=((Sum.inl u.1:Key),V.int u.2)) (by rw [e])⟩
  ·have h3:¬ (Sum.inl u.1:Key)=Sum.inl n:=fun z=>e (Sum.inl.inj z)
   have hm:n∈aO M:=by
    rcases NT.mp (show n∈u.1::aO M from h) with z | z
    ·exact absurd z.symm e
    ·exact z
   obtain ⟨q,hq⟩:=Ag hm
   exact ⟨q,(cA (p:=((Sum.inl u.1:Key),V.int u.2)) h3).trans hq⟩
theorem Ab {n:Int} {M:Rks}:(valV (nK M) (Sum.inl n:Key)).isSome=decide (n∈aO M):=by
 by_cases h:n∈aO M
 ·obtain ⟨q,hq⟩:=Ag h
  rw [hq,decide_eq_true h]
  rfl
 ·rw [uE h,decide_eq_false h]
  rfl
theorem KR {n q:Int} {M:Rks} (h:n∉aO M):putK (nK M) (Sum.inl n:Key) (.int q)=nK (M++[(n,q)]):=by
 rw [jE _ (uE h)]
 unfold nK
 rw [NK]
 rfl
theorem Gb (M:Rks):(nK M).length=M.length:=Ng _
def spAR (K:Nh):Sp:=fun vs H Q _=>∃ (la ra:Addr) (c:List Int) (M:Rks),vs=[.ref la,.ref ra]/\SqL K H la (c.map V.int)/\c.length<=10000/\Rd H ra (.dK (nK M))/\∀ H',Same H H'->Q (.bl (c.all fun x=>decide (x∈aO M))) H'
section
variable {P:Program} {w:World} {K:Nh} {mg:Str->Option Value} {base:Heap} {f:Addr} {fd:FuncData}
theorem scAR:FnScope ["numbers","ranked"] ["numbers","ranked"] (aA cY):=⟨rfl,rfl,rfl,by decide +kernel,rfl,by decide +kernel,by decide +kernel⟩
set_option maxHeartbeats 4000000 in
theorem M7 (F:Fun K "all_ranked" "all_ranked" cY f fd) (ma:mg "all"=none):FnOk P w K mg base CX0 1 f fd ["numbers","ranked"] (spAR K):=by
 refine F.ok scAR (fun vs H Q E h=>?_) (fun cdv A outer s H vs Q E hr h=>?_)
 ·obtain ⟨la,ra,c,M,rfl,_⟩:=h
  rfl
 obtain ⟨la,ra,c,M,rfl,hla,hc,hra,q⟩:=h
 have hu1:(A.deeper (PyProof.Rows.envOfC "all_ranked" (aA cY) s.heap.objs.size f cdv)).units+1<cLine:=by have:=hr.un; omega
 refine ⟨_,aD (aU (aH (jK rfl) rfl ma Vk (aj (ju ["numbers","ranked"] (aA cY) rfl (by decide +kernel) (by decide +kernel) (cu (pv 0)) (fun _ _ _ _ _=>mD) (fun _ _ _ _ _=>Ka (uY hu1 (pv 2) (pv 1)))) aq))),?_⟩
 have hb:=big
 refine ⟨_,rfl,la,rfl,⟨_,hla⟩,?_⟩
 refine lJ (K:=K) (a:=la) (xs:=c.map V.int) (fun i ys H'=>H'=H/\ys=((c.take i).map fun x=>decide (x∈aO M)).map V.bl) (by rw [Ng]; omega) ⟨rfl,rfl⟩ (fun i ys H' hi h=>⟨by rw [h.1]; exact hla,by rw [h.2,Ng,Ng,Oc]; omega⟩) ?_ ?_
 ·rintro i x ys H' hi ⟨rfl,rfl⟩ KY k1
  rw [NP] at hi
  cases ex:c[i]? with
  | none=>rw [ex] at hi; cases hi
  | some n =>
   rw [ex] at hi
   cases hi
   refine ⟨_,rfl,_,rfl,ra,_,rfl,.inl ⟨nK M,Sum.inl n,hra,rfl,rfl⟩,k1 _ _ ⟨rfl,?_⟩⟩
   rw [Ab,Oe,ex,NK,NK]
   rfl
 ·rintro ys H' ⟨rfl,rfl⟩ p hp
  rw [Ng,Oa]
  refine ⟨p,_,rfl,ak,?_⟩
  have e:(c.map fun x=>decide (x∈aO M)).all id=c.all fun x=>decide (x∈aO M):=by
   rw [Xj]
   rfl
  rw [e]
  exact q _ (aB hp _)
structure UsD (H:Hp) (ua:Addr) (L:List (Int×Addr)) (C:List (List Int)) (ks:List Int) (c:Int->List Int):Prop where
 dl:Dl H ua L C
 hk:L.map (·.1)=ks
 at':∀ (i:Nat) (n:Int) (a:Addr) (e:List Int),L[i]?=some (n,a)->C[i]?=some e->c n=e
 cl:∀ n∈ks,∀ x∈c n,x∈ks
 few:ks.length<=1000
 small:∀ e∈C,e.length<=1000
theorem UsD.keep {H H':Hp} {ua:Addr} {L:List (Int×Addr)} {C:List (List Int)} {ks:List Int} {c:Int->List Int} (h:UsD H ua L C ks c) (g:Same H H'):UsD H' ua L C ks c:=⟨h.dl.keep g,h.hk,h.at',h.cl,h.few,h.small⟩
theorem UsD.get {H:Hp} {ua:Addr} {L:List (Int×Addr)} {C:List (List Int)} {ks:List Int} {c:Int->List Int} (h:UsD H ua L C ks c) {n:Int} (hn:n∈ks):∃ a,valV (uK L) (Sum.inl n:Key)=some (.ref a)/\H a=some (.lst ((c n).map V.int))/\(c n).length<=1000:=by
 rw [<- h.hk] at hn
 obtain ⟨i,hi⟩:=Og hn
 obtain ⟨a,ea⟩:=nF rfl hi
 obtain ⟨e,ee,he⟩:=bQ h.dl.lv ea
 rw [h.at' i n a e ea ee]
 exact ⟨a,jZ h.dl.nk ea,he,h.small e (Nv ee)⟩
theorem gM {α:Type} {p:α->Bool} {l:List α} {i:Nat} {x:α} (e:l[i]?=some x):(l.take (i+1)).filter p=(l.take i).filter p++(if p x=true then [x] else []):=by
 rw [Oe,e,Qy]
 congr 1
 by_cases h:p x=true
 ·rw [if_pos h]; simp [h]
 ·rw [if_neg h]; simp [h]
theorem yR (xs:List V) (k:Nat):cutV xs (some (k:Int)) none=xs.drop k:=by
 unfold cutV
 have e2:HT.sIx xs.length xs.length none=xs.length:=rfl
 rw [HT.sIx_nat,e2]
 by_cases hk:k<=xs.length
 ·rw [Qw hk,Pb (by rw [O9]; omega)]
 ·rw [Ra (by omega),List.drop_length,V4,QK (by omega)]
def Ge (K:Nh):Sp:=fun vs H Q _=>∃ (ua ra:Addr) (L:List (Int×Addr)) (C:List (List Int)) (ks:List Int) (c:Int->List Int) (M:Rks),vs=[.ref ua,.ref ra]/\ua≠ra/\UsD H ua L C ks c/\H ra=some (.dK (nK M))/\rdy ks c M=[]/\M.length<ks.length /\
 ∀ way p H',Same H H'->H' p=some (.tup (way.map V.int))->RingOk ks c way->Q (.ref p) H'
abbrev NRG:List Str:=["used","ranked","way","n"]
theorem uW:FnScope NRG ["used","ranked"] (aA cP):=⟨rfl,rfl,rfl,by decide +kernel,rfl,by decide +kernel,by decide +kernel⟩
set_option maxHeartbeats 8000000 in
theorem Ig (F:Fun K "ring_among" "ring_among" cP f fd) (mt:mg "tuple"=none):FnOk P w K mg base CX0 1 f fd ["used","ranked"] (Ge K):=by
 refine F.ok uW (fun vs H Q E h=>?_) (fun cdv A outer s H vs Q E hr h=>?_)
 ·obtain ⟨ua,ra,L,C,ks,c,M,rfl,_⟩:=h
  rfl
 obtain ⟨ua,ra,L,C,ks,c,M,rfl,hne,U,hra,he,hl,q⟩:=h
 have hu1:(A.deeper (PyProof.Rows.envOfC "ring_among" (aA cP) s.heap.objs.size f cdv)).units+1<cLine:=by have:=hr.un; omega
 refine ⟨_,ao (aF (i:=2) uW.nd rfl (Or.inl rfl) (cD aq))
  (ao (aF (i:=3) uW.nd rfl (Or.inl rfl) (aJ aZ (Cy NRG (aA cP) rfl (by decide +kernel) (by decide +kernel) (pv 0) (fun _ _ _ _ _=>oU (gG (d8 hu1 (pv 4) (pv 1)))) (fun _ _ _ _ _=>pv 4)) au (fun _ _=>rfl)))
  (ao (qG PassesOwn.never (aN (jD jN) (pv 3) (pv 2) (by with_unfolding_all rfl))
   (ao (cC (dZ Ob Oh Oi bO (pv 2) (aj (pv 3) aq)))
   (aD (aF (i:=3) uW.nd rfl (Or.inl rfl) (aJ aZ (ju NRG (aA cP) rfl (by decide +kernel) (by decide +kernel) (cu (cH hu1 (pv 0) (pv 3) (fun _ _=>rfl))) (fun _ _ _ _ _=>oU (gG (d8 hu1 (pv 4) (pv 1)))) (fun _ _ _ _ _=>pv 4)) au (fun _ _=>rfl))))))
  (aD (aU (eF gn rfl mt QF (aj (cM lU (pv 2) (bY (dZ Ob PySem.F.slot_list_index PySem.F.type_list_index yN (pv 2) (aj (pv 3) aq))) fO) aq)))))),?_⟩
 have hb:=big
 have hnd:ks.Nodup:=by rw [<- U.hk]; exact U.dl.nk
 have hfew:=U.few
 refine ⟨(by show 0<=sizeLine; decide),fun wl hwl=>?_⟩
 have g1:=aB hwl (.lst [])
 have e1:upd H wl (.lst []) wl=some (.lst (([]:List Int).map V.int)):=ak
 show (tSeq _ _:TS) _ _ (upd H wl (.lst []))
 generalize upd H wl (.lst [])=H1 at g1 e1
 have U1:=U.keep g1
 have hra1:=g1 _ _ hra
 have ukl:(uK L).length<=1000:=by
  unfold uK
  rw [Ng]
  have:=congrArg List.length U.hk
  rw [Ng] at this
  omega
 refine fun Ok=>⟨_,rfl,ua,uK L,rfl,U1.dl.hr,fun ob hOk=>?_⟩
 have raf:upd H1 ua (.frz ob (.dK (uK L))) ra=some (.dK (nK M)):=by rw [aC hne.symm]; exact hra1
 have gth:∀ {H2:Hp},Same (upd H1 ua (.frz ob (.dK (uK L)))) H2->Same H1 (upd H2 ua (.dK (uK L))):=fun g=>kJ U1.dl.hr g
 refine rA (d:=ua) (ob:=ob) (kvs:=uK L) (fun i ys H'=>H'=upd H1 ua (.frz ob (.dK (uK L)))/\ys=((ks.take i).filter fun x=>!decide (x∈aO M)).map V.int) (by omega) ⟨rfl,rfl⟩ (fun i ys H' hi h=>⟨by rw [h.1]; exact ak,by rw [h.2,Ng]; exact OJ (Qx _ _) (by rw [Oc]; omega)⟩) ?_ ?_
 ·rintro i k x ys H' hi ⟨rfl,rfl⟩ KY KN k1 k2
  obtain ⟨n,a,ea,rfl,rfl⟩:=zm hi
  have en:ks[i]?=some n:=by rw [<- U.hk,NP,ea]; rfl
  refine ⟨_,rfl,_,rfl,ra,_,rfl,.inl ⟨nK M,Sum.inl n,.inl raf,rfl,rfl⟩,_,rfl,?_⟩
  rw [Ab]
  show (if (_:Bool)=true then _ else _)
  by_cases hx:n∈aO M
  ·rw [if_neg (by simp [hx])]
   refine k2 _ ⟨rfl,?_⟩
   rw [gM en,if_neg (by simp [hx]),N6]
  ·rw [if_pos (by simp [hx])]
   refine ⟨_,rfl,k1 _ _ ⟨rfl,?_⟩⟩
   rw [gM en,if_pos (by simp [hx]),NK]
   rfl
 ·rintro ys H' ⟨rfl,rfl⟩ p hp
  have ekl:(uK L).length=ks.length:=by unfold uK; rw [Ng,<- U.hk,Ng]
  rw [ekl,Oa]
  obtain ⟨m,r,ef,hm⟩:=wX hnd hl
  rw [ef]
  refine ⟨ua,ob,uK L,hOk,(by rw [aC (fun z=>by rw [<- z,ak] at hp; cases hp),ak]),?_⟩
  have g2:=gth (aB hp (.lst ((m::r).map V.int)))
  have npu:p≠ua:=fun z=>by rw [z,ak] at hp; cases hp
  have e2:upd (upd (upd H1 ua (.frz ob (.dK (uK L)))) p (.lst ((m::r).map V.int))) ua (.dK (uK L)) p=some (.lst ((m::r).map V.int)):=by rw [aC npu,ak]
  generalize upd (upd (upd H1 ua (.frz ob (.dK (uK L)))) p (.lst ((m::r).map V.int))) ua (.dK (uK L))=H2 at g2 e2
  refine ⟨p,_,_,_,rfl,rfl,SqL.of e2,(show atI ((m::r).map V.int) 0=some (.int m) from dh (j:=0) rfl),?_⟩
  refine jJ (fun mm σ' H'=>Same H H'/\∃ (way:List Int) (n:Int),σ'=[some (.ref ua),some (.ref ra),some (.ref wl),some (.int n)]/\H' wl=some (.lst (way.map V.int))/\WayI ks c M way n/\mm=ks.length-way.length) (fun σ' H'=>Same H H'/\∃ (way:List Int) (n:Int),σ'=[some (.ref ua),some (.ref ra),some (.ref wl),some (.int n)]/\H' wl=some (.lst (way.map V.int))/\WayI ks c M way n/\n∈way) ?_ ?_ ?_
  ·exact ⟨_,g1.trans g2,[],m,rfl,g2 _ _ e1,WayI.start hm,rfl⟩
  ·rintro R hR mm σ' H' ⟨g,way,n,rfl,hw,W,rfl⟩
   have wl1:way.length<=ks.length:=W.nd.length_le_of_subset fun x hx=>(W.mem x hx).1
   refine ⟨_,rfl,_,rfl,n,way,rfl,⟨wl,_,rfl,SqL.of hw,iw (F:=intR _) (f:=V.int) (fun _=>rfl) way⟩,_,rfl,?_⟩
   show (if (_:Bool)=true then _ else _)
   by_cases hn:n∈way
   ·rw [if_neg (by simp [hn])]
    exact hR _ _ ⟨g,way,n,rfl,hw,W,hn⟩
   ·rw [if_pos (by simp [hn])]
    refine ⟨fun σ2 H2=>Same H H2/\∃ (way2:List Int) (n2:Int),σ2=[some (.ref ua),some (.ref ra),some (.ref wl),some (.int n2)]/\H2 wl=some (.lst (way2.map V.int))/\WayI ks c M way2 n2/\way2.length=way.length+1,fun σ2 H2 ⟨g2,w2,n2,e,h2,W2,hl2⟩=>?_,?_⟩
    ·have hl3:w2.length<=ks.length:=W2.nd.length_le_of_subset fun x hx=>(W2.mem x hx).1
     exact ⟨_,by omega,g2,w2,n2,e,h2,W2,rfl⟩
    refine ⟨_,rfl,.inl ⟨rfl,_,SqL.of hw⟩,_,rfl,wl,_,_,rfl,rfl,hw,by rw [Ng]; omega,?_⟩
    have t4:Same H (upd H' wl (.lst (way.map V.int++[V.int n]))):=aL hwl g _
    have e4:upd H' wl (.lst (way.map V.int++[V.int n])) wl=some (.lst ((way++[n]).map V.int)):=by rw [ak,NK]; rfl
    generalize upd H' wl (.lst (way.map V.int++[V.int n]))=H4 at t4 e4
    obtain ⟨ca,hca,hcl,hcs⟩:=(U.keep t4).get W.cur.1
    obtain ⟨m2,r2,en2,hm2,hk2⟩:=xW U.cl he W.cur
    refine ⟨_,rfl,_,rfl,ua,_,rfl,.inl ⟨uK L,Sum.inl n,.inl (t4 _ _ U.dl.hr),rfl,hca.symm⟩,ca,rfl,⟨_,SqL.of hcl⟩,?_⟩
    refine lA (K:=K) (a:=ca) (xs:=(c n).map V.int) (fun i ys H'=>H'=H4/\ys=(((c n).take i).filter fun x=>!decide (x∈aO M)).map V.int) (by rw [Ng]; omega) ⟨rfl,rfl⟩ (fun i ys H' hi h=>⟨by rw [h.1]; exact SqL.of hcl,by rw [h.2,Ng]; exact OJ (Qx _ _) (by rw [Oc]; omega)⟩) ?_ ?_
    ·rintro i x ys H' hi ⟨rfl,rfl⟩ KY KN k1 k2
     rw [NP] at hi
     cases ex:(c n)[i]? with
     | none=>rw [ex] at hi; cases hi
     | some y =>
      rw [ex] at hi
      cases hi
      refine ⟨_,rfl,_,rfl,ra,_,rfl,.inl ⟨nK M,Sum.inl y,.inl (t4 _ _ hra),rfl,rfl⟩,_,rfl,?_⟩
      rw [Ab]
      show (if (_:Bool)=true then _ else _)
      by_cases hx:y∈aO M
      ·rw [if_neg (by simp [hx])]
       refine k2 _ ⟨rfl,?_⟩
       rw [gM ex,if_neg (by simp [hx]),N6]
      ·rw [if_pos (by simp [hx])]
       refine ⟨_,rfl,k1 _ _ ⟨rfl,?_⟩⟩
       rw [gM ex,if_pos (by simp [hx]),NK]
       rfl
    ·rintro ys H' ⟨rfl,rfl⟩ p5 hp5
     rw [Ng,Oa]
     have en3:(c n).filter (fun x=>!decide (x∈aO M))=m2::r2:=en2
     rw [en3]
     have g5:=aB hp5 (.lst ((m2::r2).map V.int))
     refine ⟨p5,_,_,_,rfl,rfl,SqL.of ak,(show atI ((m2::r2).map V.int) 0=some (.int m2) from dh (j:=0) rfl),?_⟩
     refine ⟨t4.trans g5,way++[n],m2,rfl,g5 _ _ e4,W.go hn hm2 hk2,?_⟩
     rw [Np]
     rfl
  ·rintro σ' H' ⟨g,way,n,rfl,hw,W,hn⟩
   obtain ⟨j,hj,hjn⟩:∃ j:Nat,way[j]?=some n/\∀ k:Nat,k<j->way[k]?≠some n:=by
    obtain ⟨j,hj⟩:=Og hn
    refine ⟨j,hj,fun k hk z=>?_⟩
    have h1:=(Nj.mp hj)
    have h2:=(Nj.mp z)
    obtain ⟨l1,e1⟩:=h1
    obtain ⟨l2,e2⟩:=h2
    have ejk:j=k:=(Wy W.nd (h₀:=l1) (h₁:=l2)).mp (e1.trans e2.symm)
    exact absurd hk (by rw [ejk]; exact Qj _)
   refine ⟨_,rfl,_,rfl,.inl ⟨rfl,_,SqL.of hw⟩,_,rfl,wl,way,n,j,rfl,rfl,hw,hj,hjn,?_⟩
   refine ⟨_,rfl,wl,_,rfl,SqL.of hw,fun p6 hp6=>?_⟩
   have ec:cutV (way.map V.int) (some ((j:Nat):Int)) none=(way.drop j).map V.int:=by
    rw [yR,V5]
   rw [ec]
   have g6:=aB hp6 (.lst ((way.drop j).map V.int))
   refine ⟨p6,_,rfl,.inl ⟨SqL.of ak,fun p7 hp7=>?_⟩⟩
   exact q (way.drop j) p7 _ ((g.trans g6).trans (aB hp7 _)) ak (W.ring hj)
end
structure UsR (H:Hp) (d:Addr) (L:List (Int×Addr)) (C:List (List Int)) (ks:List Int) (c:Int->List Int):Prop where
 dl:Dl H d L C
 ks:(L.map (·.1)).Perm ks
 at':∀ (i:Nat) (n:Int) (a:Addr) (e:List Int),L[i]?=some (n,a)->C[i]?=some e->∀ x,x∈e↔x∈c n
 few:L.length<=1000
 small:∀ e∈C,e.length<=10000
theorem UsR.keep {H H':Hp} {d:Addr} {L:List (Int×Addr)} {C:List (List Int)} {ks:List Int} {c:Int->List Int} (h:UsR H d L C ks c) (g:Same H H'):UsR H' d L C ks c:=⟨h.dl.keep g,h.ks,h.at',h.few,h.small⟩
theorem UsR.get {H:Hp} {d:Addr} {L:List (Int×Addr)} {C:List (List Int)} {ks:List Int} {c:Int->List Int} (h:UsR H d L C ks c) {n:Int} (hn:n∈ks):∃ (a:Addr) (e:List Int),valV (uK L) (Sum.inl n:Key)=some (.ref a)/\H a=some (.lst (e.map V.int))/\(∀ x,x∈e↔x∈c n)/\e.length<=10000:=by
 have hn:=h.ks.mem_iff.mpr hn
 obtain ⟨i,hi⟩:=Og hn
 obtain ⟨a,ea⟩:=nF rfl hi
 obtain ⟨e,ee,he⟩:=bQ h.dl.lv ea
 exact ⟨a,e,jZ h.dl.nk ea,he,h.at' i n a e ea ee,h.small e (Nv ee)⟩
structure TyR (K:Nh) (mg:Str->Option Value):Prop where
 isi:mg "isinstance"=none
 mb:mg "bool"=none
 mi:mg "int"=none
 md:mg "dict"=none
 mt:mg "tuple"=none
 kb:PySem.W.kitOne K (.type "int") (.type "bool")=some false
 ki:PySem.W.kitOne K (.type "int") (.type "int")=some true
 kd:PySem.W.kitOne K (.type "dict") (.type "dict")=some true
 kt:PySem.W.kitOne K (.type "tuple") (.type "tuple")=some true
theorem atW {way:List Int} {i:Nat} {x:Int} (h:way[i]?=some x):atI (way.map V.int) ((i:Nat):Int)=some (.int x):=dh (by rw [NP,h] <;> rfl)
def wF:Sp:=fun vs H Q _=>∃ (wa d:Addr) (way:List Int) (L:List (Int×Addr)) (C:List (List Int)) (ks:List Int) (c:Int->List Int),vs=[.ref wa,.ref d]/\H wa=some (.tup (way.map V.int))/\UsR H d L C ks c/\RingOk ks c way/\way.length<=1000/\∀ H',Same H H'->Q (.bl true) H'
section
variable {P:Program} {w:World} {K:Nh} {mg:Str->Option Value} {base:Heap} {f:Addr} {fd:FuncData}
theorem Jj:FnScope ["_law_found","_law_used_here","_law_at"] ["_law_found","_law_used_here"] (aA dX):=⟨rfl,rfl,rfl,by decide +kernel,rfl,by decide +kernel,by decide +kernel⟩
set_option maxHeartbeats 8000000 in
theorem Aq (F:Fun K "_law_is_ring" "_law_is_ring" dX f fd) (T:Nm mg) (Y:TyR K mg):FnOk P w K mg base CX0 1 f fd ["_law_found","_law_used_here"] wF:=by
 refine F.ok Jj (fun vs H Q E h=>?_) (fun cdv A outer s H vs Q E hr h=>?_)
 ·obtain ⟨wa,d,way,L,C,ks,c,rfl,_⟩:=h
  rfl
 obtain ⟨wa,d,way,L,C,ks,c,rfl,hwa,U,hR,hwl,q⟩:=h
 have hu1:(A.deeper (PyProof.Rows.envOfC "_law_is_ring" (aA dX) s.heap.objs.size f cdv)).units+1<cLine:=by have:=hr.un; omega
 refine ⟨_,ao (bJ (PW.pt (lO (iK (fB (aH gY rfl Y.isi O2 (aj (pv 0) (aj (iG (v:=.ty "tuple") rfl Y.mt QF rfl) aq))))) (lC (aN eG (aH bB rfl T.len Ou (aj (pv 0) aq)) au (bD _))))) (aD (aU jf)) aR)
  (ao (cj PassesOwn.never rfl (iU rfl T.range (aj (aH bB rfl T.len Ou (aj (pv 0) aq)) aq)) (aK (i:=2) Jj.nd rfl (Or.inl rfl))
   (ao (bJ (PW.pt (lO (fB (aH gY rfl Y.isi O2 (aj (aJ bA (pv 0) (pv 2) (fun _ _=>rfl)) (aj (iG (v:=.ty "bool") rfl Y.mb Vb rfl) aq)))) (lO (iK (fB (aH gY rfl Y.isi O2 (aj (aJ bA (pv 0) (pv 2) (fun _ _=>rfl)) (aj (iG (v:=.ty "int") rfl Y.mi Rt rfl) aq))))) (lC (aN (Ed jN) (aJ bA (pv 0) (pv 2) (fun _ _=>rfl)) (cM o7 (pv 0) fO (bY (pv 2))) (by with_unfolding_all rfl)))))) (aD (aU jf)) aR)
   (aD (bJ (PW.pt (lO (gG (d8 hu1 (aJ bA (pv 0) (pv 2) (fun _ _=>rfl)) (pv 1))) (lC (aN (jD jN) (aJ bA (pv 0) (aG bw (aG bW (pv 2) au) (aH bB rfl T.len Ou (aj (pv 0) aq))) (fun _ _=>rfl)) (cH hu1 (pv 1) (aJ bA (pv 0) (pv 2) (fun _ _=>rfl)) (fun _ _=>rfl)) (by with_unfolding_all rfl))))) (aD (aU jf)) aR))))
  (aD (aU jf))),?_⟩
 have hb:=big
 have hne:0<way.length:=VJ.mpr hR.ne
 have wl:(way.map V.int).length=way.length:=Ng _
 refine mY false (pX false false (qd true (fun Q q=>⟨_,rfl,_,_,_,_,true,rfl,rfl,.tup hwa,Y.kt,_,rfl,q _ (Same.refl _)⟩)) (fun _ H1 g1 Q q=>⟨_,rfl,wa,_,rfl,.inr (SqT.of (g1 _ _ hwa)),rfl,_,rfl,?_⟩)) (fun z=>by cases z) (fun _ H1 g1=>?_)
 ·rw [wl,show decide (V.int ((way.length:Nat):Int)=V.int 0)=false from decide_eq_false fun z=>by have:=V.int.inj z; omega]
  exact q _ (Same.refl _)
 have hwa1:=g1 _ _ hwa
 have U1:=U.keep g1
 refine ⟨_,rfl,wa,_,rfl,.inr (SqT.of hwa1),((way.map V.int).length:Int),rfl,by omega,by rw [wl]; omega,?_⟩
 refine gb (lo:=0) (n:=(((way.map V.int).length:Nat):Int).toNat) (fun i σ' H'=>Same H1 H'/\∃ u2,σ'=[some (.ref wa),some (.ref d),u2]) ⟨Same.refl _,_,rfl⟩ ?_ ?_
 ·rintro i σ' H2 hi ⟨g2,u2,rfl⟩
  have hi:i<way.length:=by rw [wl] at hi; omega
  have ei:(0:Int)+(i:Int)=((i:Nat):Int):=by omega
  rw [ei]
  have ex:=Nr hi
  have ax:=atW ex
  have hxm:=hR.mem _ (Qm hi)
  obtain ⟨y,ey,hy⟩:=hR.st i _ ex
  have hxi:way[i]∉way.take i:=qI hR.nd ex
  generalize way[i]=x at ex ax hxm hy hxi
  have hwa2:=g2 _ _ hwa1
  refine mY false (pX false false (fun Q q=>⟨_,rfl,_,rfl,wa,_,_,_,rfl,rfl,SqT.of hwa2,ax,_,_,_,_,false,rfl,rfl,.int _,Y.kb,_,rfl,q _ (Same.refl _)⟩) (fun _ H3 g3=>pX false false (qd true (fun Q q=>⟨_,rfl,_,rfl,wa,_,_,_,rfl,rfl,SqT.of (g3 _ _ hwa2),ax,_,_,_,_,true,rfl,rfl,.int _,Y.ki,_,rfl,q _ (Same.refl _)⟩)) (fun _ H4 g4 Q q=>⟨_,rfl,_,rfl,wa,_,_,_,rfl,rfl,SqT.of ((g3.trans g4) _ _ hwa2),ax,_,rfl,uX ⟨_,rfl,_,rfl,wa,_,rfl,(g3.trans g4) _ _ hwa2,fun p5 H5 g5 h5=>?_⟩⟩))) (fun z=>by cases z) (fun _ H3 g3=>?_)
  ·have h5:H5 p5=some (.tup ((way.take i).map V.int)):=by
    have h5:H5 p5=some (.tup (cutV (way.map V.int) none (some ((i:Nat):Int)))):=h5
    rw [h5,Ad,Us]
   refine ⟨x,way.take i,rfl,⟨p5,_,rfl,SqT.of h5,iw (F:=intR _) (f:=V.int) (fun _=>rfl) _⟩,_,rfl,?_⟩
   rw [decide_eq_false hxi]
   exact q _ g5
  ·have hwa3:=g3 _ _ hwa2
   have U3:=(U1.keep g2).keep g3
   obtain ⟨ca,e,hca,hce,hcm,hcl⟩:=U3.get hxm
   have emod:(((i:Nat):Int)+1) % (((way.map V.int).length:Nat):Int)=((((i+1) % way.length:Nat)):Int):=by
    rw [wl,WL]
    rfl
   refine wU false (pX false false (fun Q q=>⟨_,rfl,_,rfl,wa,_,_,_,rfl,rfl,SqT.of hwa3,ax,_,rfl,d,_,rfl,.inl ⟨uK L,Sum.inl x,.inl U3.dl.hr,rfl,hca.symm⟩,_,rfl,q _ (Same.refl _)⟩) (fun _ H4 g4 Q q=>⟨_,rfl,_,rfl,_,_,rfl,rfl,_,rfl,wa,_,rfl,.inr (SqT.of (g4 _ _ hwa3)),_,_,rfl,rfl,(by show (0:Int)<(((way.map V.int).length:Nat):Int); rw [wl]; omega),wa,_,_,_,rfl,rfl,SqT.of (g4 _ _ hwa3),(by rw [emod]; exact atW ey),_,rfl,_,rfl,_,rfl,wa,_,_,_,rfl,rfl,SqT.of (g4 _ _ hwa3),ax,d,_,rfl,.inl ⟨uK L,Sum.inl x,.inl (g4 _ _ U3.dl.hr),rfl,hca.symm⟩,y,e,rfl,⟨ca,_,rfl,SqL.of (g4 _ _ hce),iw (F:=intR _) (f:=V.int) (fun _=>rfl) e⟩,_,rfl,?_⟩)) (fun z=>by cases z) (fun _ H4 g4=>?_)
   ·rw [show (!decide (y∈e))=false by rw [decide_eq_true ((hcm y).mpr hy)]; rfl]
    exact q _ (Same.refl _)
   ·exact ⟨(g2.trans g3).trans g4,_,rfl⟩
 ·rintro σ' H2 ⟨g2,u2,rfl⟩
  exact q _ (g1.trans g2)
end
def EY:Sp:=fun vs H Q _=>∃ (fa d:Addr) (M:Rks) (L:List (Int×Addr)) (C:List (List Int)) (ks:List Int) (c:Int->List Int),vs=[.ref fa,.ref d]/\fa≠d/\H fa=some (.dK (nK M))/\UsR H d L C ks c/\RkOk ks c M/\∀ H',Same H H'->Q (.bl true) H'
theorem Cz {ks:List Int} {c:Int->List Int} {M:Rks} {n q m:Int} {e zs:List Int} (h:RkOk ks c M) (hq:(n,q)∈M) (he:∀ x,x∈e↔x∈c n) (hz:zs=0::e.map (fun x=>((M.lookup x).getD 0)+1)) (h1:m∈zs) (h2:∀ a∈zs,a<=m):q=m:=by
 obtain ⟨q0,u1,u2⟩:=h.up n q hq
 have lk:∀ {x p},(x,p)∈M->(M.lookup x).getD 0=p:=fun {x p} hm=>by
  have:M.lookup x=some p:=by
   have nd:=h.nd
   clear h hq h1 h2 u1 u2 hz
   induction M with
   | nil=>cases hm
   | cons u M ih =>
    obtain ⟨k,v⟩:=u
    have nd:(k::aO M).Nodup:=nd
    obtain ⟨a1,a2⟩:=Od.mp nd
    rcases NT.mp hm with z | z
    ·cases z
     exact Vo
    ·have ne:(x==k)=false:=by
      refine beq_eq_false_iff_ne.mpr fun y=>a1 ?_
      rw [<- y]
      exact dU.mpr ⟨p,z⟩
     rw [Qz,ne]
     exact ih z a2
  rw [this]
  rfl
 have le:m<=q:=by
  rw [hz] at h1
  rcases NT.mp h1 with z | z
  ·omega
  ·obtain ⟨x,hx,rfl⟩:=Oq.mp z
   obtain ⟨p,hp,hl⟩:=u1 x ((he x).mp hx)
   rw [lk hp]
   omega
 have ge:q<=m:=by
  rcases u2 with z | ⟨x,hx,hm⟩
  ·rw [z]
   exact h2 0 (by rw [hz]; exact Ny)
  ·have:=h2 ((M.lookup x).getD 0+1) (by rw [hz]; exact Nt _ (Oq.mpr ⟨x,(he x).mpr hx,rfl⟩))
   rw [lk hm] at this
   omega
 omega
theorem uI {M:Rks} {n:Int} (hn:n∈aO M) (nd:(aO M).Nodup):valV (nK M) (Sum.inl n:Key)=some (.int ((M.lookup n).getD 0)):=by
 obtain ⟨q,hq⟩:=dU.mp hn
 rw [yh nd hq]
 have:M.lookup n=some q:=by
  clear hn
  induction M with
  | nil=>cases hq
  | cons u M ih =>
   obtain ⟨k,v⟩:=u
   have nd:(k::aO M).Nodup:=nd
   obtain ⟨a1,a2⟩:=Od.mp nd
   rcases NT.mp hq with z | z
   ·cases z
    exact Vo
   ·have ne:(n==k)=false:=by
     refine beq_eq_false_iff_ne.mpr fun y=>a1 ?_
     rw [<- y]
     exact dU.mpr ⟨q,z⟩
    rw [Qz,ne]
    exact ih a2 z
 rw [this]
 rfl
section
variable {P:Program} {w:World} {K:Nh} {mg:Str->Option Value} {base:Heap} {f:Addr} {fd:FuncData}
abbrev NAR:List Str:=["_law_found","_law_used_here","_law_number_here"]
theorem xT:FnScope NAR ["_law_found","_law_used_here"] (aA cQ):=⟨rfl,rfl,rfl,by decide +kernel,rfl,by decide +kernel,by decide +kernel⟩
set_option maxHeartbeats 8000000 in
theorem Ho (F:Fun K "_law_are_ranks" "_law_are_ranks" cQ f fd) (T:Nm mg) (Y:TyR K mg):FnOk P w K mg base CX0 1 f fd ["_law_found","_law_used_here"] EY:=by
 refine F.ok xT (fun vs H Q E h=>?_) (fun cdv A outer s H vs Q E hr h=>?_)
 ·obtain ⟨fa,d,M,L,C,ks,c,rfl,_⟩:=h
  rfl
 obtain ⟨fa,d,M,L,C,ks,c,rfl,hne,hfa,U,hR,q⟩:=h
 have hu1:(A.deeper (PyProof.Rows.envOfC "_law_are_ranks" (aA cQ) s.heap.objs.size f cdv)).units+1<cLine:=by have:=hr.un; omega
 refine ⟨_,ao (bJ (PW.pt (lO (iK (fB (aH gY rfl Y.isi O2 (aj (pv 0) (aj (iG (v:=.ty "dict") rfl Y.md PyProof.Rows.boot_dict rfl) aq))))) (lC (aN Jv (aH j7 rfl T.len Ou (aj (pv 0) aq)) (aH j7 rfl T.len Ou (aj (pv 1) aq)) (bD _))))) (aD (aU jf)) aR)
  (ao (Ae PassesOwn.never rfl (pv 1) (aK (i:=2) xT.nd rfl (Or.inl rfl))
   (aD (bJ (PW.pt (lO (gG (d8 hu1 (pv 2) (pv 0))) (lO (fB (aH gY rfl Y.isi O2 (aj (cH hu1 (pv 0) (pv 2) (fun _ _=>rfl)) (aj (iG (v:=.ty "bool") rfl Y.mb Vb rfl) aq)))) (lC (iK (fB (aH gY rfl Y.isi O2 (aj (cH hu1 (pv 0) (pv 2) (fun _ _=>rfl)) (aj (iG (v:=.ty "int") rfl Y.mi Rt rfl) aq))))))))) (aD (aU jf)) aR)))
  (ao (Ae PassesOwn.never rfl (pv 1) (aK (i:=2) xT.nd rfl (Or.inl rfl))
   (aD (bJ (aN Jv (cH hu1 (pv 0) (pv 2) (fun _ _=>rfl)) (aH (Ao rfl) rfl T.mx S7 (aj (aG xQ (cD (aj au aq)) (ju NAR (aA cQ) rfl (by decide +kernel) (by decide +kernel) (cu (cH hu1 (pv 1) (pv 2) (fun _ _=>rfl))) (fun _ _ _ _ _=>mD) (fun _ _ _ _ _=>aG bW (cH hu1 (pv 0) (pv 3) (fun _ _=>rfl)) au))) aq)) (bD _)) (aD (aU jf)) aR)))
  (aD (aU jf)))),?_⟩
 have hb:=big
 have el:(nK M).length=(uK L).length:=by
  unfold uK nK
  rw [Ng,Ng]
  have h1:=U.ks.length_eq
  have h2:=hR.ks.length_eq
  unfold aO at h2
  rw [Ng] at h1 h2
  omega
 have kin:∀ {n a} {i:Nat},L[i]?=some (n,a)->n∈aO M:=fun {n a i} e=>hR.ks.mem_iff.mpr (U.ks.mem_iff.mp (Oq.mpr ⟨_,Nv e,rfl⟩))
 refine mY false (pX false false (qd true (fun Q q=>⟨_,rfl,_,_,_,_,true,rfl,rfl,.dK hfa,Y.kd,_,rfl,q _ (Same.refl _)⟩)) (fun _ H1 g1 Q q=>⟨_,rfl,fa,nK M,rfl,.inl (g1 _ _ hfa),_,rfl,d,uK L,rfl,.inl (g1 _ _ U.dl.hr),rfl,_,rfl,?_⟩)) (fun z=>by cases z) (fun _ H1 g1=>?_)
 ·rw [el,show (!decide (V.int (((uK L).length:Nat):Int)=V.int (((uK L).length:Nat):Int)))=false by simp]
  exact q _ (Same.refl _)
 have hfa1:=g1 _ _ hfa
 have U1:=U.keep g1
 refine fun Ok=>⟨_,rfl,d,uK L,rfl,U1.dl.hr,fun ob hOk=>?_⟩
 have af:(upd H1 d (.frz ob (.dK (uK L)))) fa=some (.dK (nK M)):=by rw [aC hne]; exact hfa1
 refine uo (d:=d) (ob:=ob) (kvs:=uK L) (fun i σ' H'=>Same (upd H1 d (.frz ob (.dK (uK L)))) H'/\∃ u2,σ'=[some (.ref fa),some (.ref d),u2]) ⟨Same.refl _,_,rfl⟩ (fun i σ' H' _ h=>h.1 _ _ ak) ?_ ?_
 ·rintro i kk x σ' H2 hi ⟨g2,u2,rfl⟩
  obtain ⟨n,pd,ed,rfl,rfl⟩:=zm hi
  have vf:=uI (kin ed) hR.nd
  have dgf:∀ {H3:Hp},Same H2 H3->DGet H3 fa (.int n) (some (.int ((M.lookup n).getD 0))):=fun {H3} g3=>.inl ⟨nK M,Sum.inl n,.inl (g3 _ _ (g2 _ _ af)),rfl,vf.symm⟩
  refine wU false (pX false false (fun Q q=>⟨_,rfl,_,rfl,fa,_,rfl,dgf (Same.refl _),_,rfl,q _ (Same.refl _)⟩) (fun _ H3 g3=>pX false false (fun Q q=>⟨_,rfl,_,rfl,fa,_,rfl,dgf g3,_,_,_,_,false,rfl,rfl,.int _,Y.kb,_,rfl,q _ (Same.refl _)⟩) (fun _ H4 g4=>qd true (fun Q q=>⟨_,rfl,_,rfl,fa,_,rfl,dgf (g3.trans g4),_,_,_,_,true,rfl,rfl,.int _,Y.ki,_,rfl,q _ (Same.refl _)⟩)))) (fun z=>by cases z) (fun _ H3 g3=>?_)
  exact ⟨g2.trans g3,_,rfl⟩
 ·rintro σ' H2 ⟨g2,u2,rfl⟩
  refine ⟨d,ob,uK L,hOk,g2 _ _ ak,?_⟩
  have g3:Same H1 (upd H2 d (.dK (uK L))):=kJ U1.dl.hr g2
  show (tSeq _ _:TS) _ _ (upd H2 d (.dK (uK L)))
  generalize upd H2 d (.dK (uK L))=H3 at g3
  have hfa3:=g3 _ _ hfa1
  have U3:=U1.keep g3
  clear af g2 hOk ob Ok
  refine fun Ok=>⟨_,rfl,d,uK L,rfl,U3.dl.hr,fun ob hOk=>?_⟩
  have af:(upd H3 d (.frz ob (.dK (uK L)))) fa=some (.dK (nK M)):=by rw [aC hne]; exact hfa3
  have lf:∀ {x:Addr} {zs:List V},H3 x=some (.lst zs)->upd H3 d (.frz ob (.dK (uK L))) x=some (.lst zs):=fun {x zs} h=>by
   rw [aC (iu h U3.dl.hr (fun z=>nomatch z))]
   exact h
  refine uo (d:=d) (ob:=ob) (kvs:=uK L) (fun i σ' H'=>Same (upd H3 d (.frz ob (.dK (uK L)))) H'/\∃ u2,σ'=[some (.ref fa),some (.ref d),u2]) ⟨Same.refl _,_,rfl⟩ (fun i σ' H' _ h=>h.1 _ _ ak) ?_ ?_
  ·rintro i kk x σ' H4 hi ⟨g4,u2,rfl⟩
   obtain ⟨n,pd,ed,rfl,rfl⟩:=zm hi
   have hnk:n∈ks:=U.ks.mem_iff.mp (Oq.mpr ⟨_,Nv ed,rfl⟩)
   have vf:=uI (kin ed) hR.nd
   have dgf:∀ {H5:Hp},Same H4 H5->DGet H5 fa (.int n) (some (.int ((M.lookup n).getD 0))):=fun {H5} g5=>.inl ⟨nK M,Sum.inl n,.inl (g5 _ _ (g4 _ _ af)),rfl,vf.symm⟩
   obtain ⟨e,ee,he⟩:=bQ U3.dl.lv ed
   have hem:=U.at' i n pd e ed ee
   have hel:=U.small e (Nv ee)
   have he4:H4 pd=some (.lst (e.map V.int)):=g4 _ _ (lf he)
   have hlk:(n,(M.lookup n).getD 0)∈M:=by
    obtain ⟨q0,hq0⟩:=dU.mp (kin ed)
    have h1:=yh hR.nd hq0
    rw [vf] at h1
    have:(M.lookup n).getD 0=q0:=V.int.inj (Option.some.inj h1)
    rw [this]
    exact hq0
   refine wU false (fun Q q=>?_) (fun z=>by cases z) (fun _ H5 g5=>⟨g4.trans g5,_,rfl⟩)
   refine ⟨_,rfl,_,rfl,fa,_,rfl,dgf (Same.refl _),(by show 1<=sizeLine; decide),fun p5 hp5=>?_⟩
   have g5:=aB hp5 (.lst [.int 0])
   have e5:upd H4 p5 (.lst [.int 0]) p5=some (.lst [.int 0]):=ak
   generalize upd H4 p5 (.lst [.int 0])=H5 at g5 e5
   refine ⟨_,rfl,_,rfl,d,_,rfl,.inl ⟨uK L,Sum.inl n,.inr ⟨ob,g5 _ _ (g4 _ _ ak)⟩,rfl,(jZ U3.dl.nk ed).symm⟩,pd,rfl,⟨_,SqL.of (g5 _ _ he4)⟩,?_⟩
   refine lJ (K:=K) (a:=pd) (xs:=e.map V.int) (fun j ys H'=>H'=H5/\ys=((e.take j).map fun x=>(M.lookup x).getD 0+1).map V.int) (by rw [Ng]; omega) ⟨rfl,rfl⟩ (fun j ys H' hj h=>⟨by rw [h.1]; exact SqL.of (g5 _ _ he4),by rw [h.2,Ng,Ng,Oc]; omega⟩) ?_ ?_
   ·rintro j x ys H' hj ⟨rfl,rfl⟩ KY k1
    rw [NP] at hj
    cases ex:e[j]? with
    | none=>rw [ex] at hj; cases hj
    | some y =>
     rw [ex] at hj
     cases hj
     have hyk:y∈aO M:=by
      obtain ⟨p,hp,_⟩:=(hR.up n _ hlk).2.1 y ((hem y).mp (Nv ex))
      exact dU.mpr ⟨p,hp⟩
     refine ⟨_,rfl,_,rfl,fa,_,rfl,.inl ⟨nK M,Sum.inl y,.inl (g5 _ _ (g4 _ _ af)),rfl,(uI hyk hR.nd).symm⟩,_,_,rfl,rfl,k1 _ _ ⟨rfl,?_⟩⟩
     rw [Oe,ex,NK,NK]
     rfl
   ·rintro ys H' ⟨rfl,rfl⟩ p6 hp6
    rw [Ng,Oa]
    have g6:=aB hp6 (.lst ((e.map fun x=>(M.lookup x).getD 0+1).map V.int))
    refine ⟨p5,p6,_,_,rfl,rfl,g6 _ _ e5,ak,by rw [Ng,Ng]; show 1+_<=_; omega,fun p7 hp7=>?_⟩
    have g7:=aB hp7 (.lst ([V.int 0]++(e.map fun x=>(M.lookup x).getD 0+1).map V.int))
    refine ⟨p7,0::e.map (fun x=>(M.lookup x).getD 0+1),rfl,SqL.of ak,by rw [Oj]; omega,fun m h1 h2=>?_⟩
    have em:=Cz hR hlk hem rfl h1 h2
    refine ⟨rfl,_,rfl,?_⟩
    rw [em,show (!decide (V.int m=V.int m))=false by simp]
    exact q _ ((g5.trans g6).trans g7)
  ·rintro σ' H4 ⟨g4,u2,rfl⟩
   exact ⟨d,ob,uK L,hOk,g4 _ _ ak,q _ ((g1.trans g3).trans (kJ U3.dl.hr g4))⟩
end
end D
namespace L2
open PySem PySem.Spec PyProof.Rows
abbrev bmVE:List Value:=[.type "ValueError",.type "Exception",.type "BaseException",.type "object"]
def uy:List Value->Bool
 | .ref _::r=>uy r
 | l=>l==bmVE
theorem kW (self:Value):∀ {l:List Value},uy l=true->refuseLoop self "__setattr__" l=pure ()
 | [],e=>absurd e (by decide)
 | v::r,e=>by
  cases v with
  | ref c=>rw [refuseLoop_ref]; exact kW self (l:=r) e
  | _ =>
   have e:=beq_iff_eq.mp e
   rw [e]
   exact Um.passes self
structure XSet (K:Nh) (C:Addr) (name:Str):Prop where
 st:PySem.W.findIn K (.ref C) "__setattr__"=some (some (.builtin "object.__setattr__"))
 nm:PySem.W.findIn K (.ref C) name=some none
 ob:PySem.W.mroIn K C (.type "object")=some true
 cl:(PySem.W.clsIn K C).any (fun cd=>cd.hasDict && uy cd.mro)=true
def dN (C:Addr) (t:Addr) (d:Option Addr):Obj:={ cls:=.ref C,dict:=d,data:=.fields #[.ref t,.none,.none,.none,.bool false,.none] }
section
variable {prog:Program} {w:World} {A:Around} {E:Value->Shared->Prop} {s:Shared} {K:Nh} {x C t:Addr} {name:Str} {v:Value}
open PySem.W PySem.Builtin PySem.Builtin.ObjectAttr in
set_option maxHeartbeats 400000 in
theorem Ij {Q:Unit->Shared->Prop} (X:K.In s.heap) (T:XSet K C name) (hx:s.heap.get? x=some (dN C t none))
  (h:∀ h' tk d,s.heap.objs.size<=d->d≠x->h'.get? x=some (dN C t (some d))->h'.Ns1 d (fun y=>if y=name then some v else none)->(∀ b o,b≠x->s.heap.get? b=some o->h'.get? b=some o)->Q () { s with heap:=h',toks:=tk }) :
  wpAny (model prog w) A (setAttr (.ref x) name v) Q E s:=by
 obtain ⟨hh,gg,dr,tk,os⟩:=s
 obtain ⟨cd,hc,hcd⟩:=any_some T.cl
 obtain ⟨hhd,hov⟩:=Ph.mp hcd
 have SF:=Um
 have L0:Looks (model prog w) hh (typeOf (.ref x)) (.ref C):=gP hx rfl
 have L1:=Vp (M:=model prog w) X T.st
 have L2:=Vp (M:=model prog w) X T.nm
 have L3:Looks (model prog w) hh (isInstance (.ref x) (.type "object")) true:=L0.andThen (looks_mroIn X T.ob)
 have L4:Looks (model prog w) hh (mroOf (.ref C)) cd.mro:=(W8 X hc).andThen .now
 unfold setAttr callSpecial? specialOf
 refine Nf (Ws (Nf (Nf (Nf (L0.at (L1.at ?_))))))
 refine Pa (Nf ?_)
 rw [SF.slot.bind]
 refine Ni (Nf (Ri ?_))
 have ha:=SF.args (.ref x) (.str name tk) v
 show codeAny _ _ (.call (.builtin "object.__setattr__") ⟨[.ref x,.str name tk,v],[]⟩) _ _
 refine QD SF.slot.plain SF.entry ?_
 refine @check_slot _ _ _ _ _ "object" "__setattr__" (.ref x) [.str name tk,v] [] _ SF.kind SF.split L3 ha ?_
 rw [osa_eq,refuse_eq]
 refine Nf (Nf (L0.at (Nf (L4.at ?_))))
 rw [kW _ hov]
 refine Ni (Nf (L0.at (Nf (L2.at (Nf (Ni ?_))))))
 show wpAny _ _ (storeInOwnDict _ _ _ _ _ _) _ _ _
 unfold storeInOwnDict ownStreamTells ownDictForStores
 refine Nf (Ni ?_)
 refine Nf ?_
 unfold instanceDict
 refine Nf (SJ hx ?_)
 refine Nf ((W8 X hc).at ?_)
 rw [hhd]
 show wpAny _ _ (alloc { cls:=.type "dict",data:=.dict #[] } >>= fun d=>update x (fun o=>{ cls:=o.cls,dict:=some d,data:=o.data,slots:=o.slots }) >>= fun _=>pure (some d)) _ _ _
 dsimp only at hx h X
 have hxs:x≠hh.objs.size:=Ot (N7 hx)
 have hx1:(hh.push { cls:=.type "dict",data:=.dict #[] }).get? x=some (dN C t none):=Nk _ hx
 refine Nf (wpAny_alloc' (Nf (wpAny_update' hx1 (Ni ?_))))
 have hx2:((hh.push { cls:=.type "dict",data:=.dict #[] }).update x fun o=>{ cls:=o.cls,dict:=some hh.objs.size,data:=o.data,slots:=o.slots }).get? x=some (dN C t (some hh.objs.size)):=Pk _ hx1 rfl
 have kp:∀ b o,b≠x->hh.get? b=some o->((hh.push { cls:=.type "dict",data:=.dict #[] }).update x fun o=>{ cls:=o.cls,dict:=some hh.objs.size,data:=o.data,slots:=o.slots }).get? b=some o:=fun b o hb e=>(Qc _ _ _ _ hb).trans (Nk _ e)
 have hgd:((hh.push { cls:=.type "dict",data:=.dict #[] }).update x fun o=>{ cls:=o.cls,dict:=some hh.objs.size,data:=o.data,slots:=o.slots }).get? hh.objs.size=some { cls:=.type "dict",data:=.dict #[] } :=
  (Qc _ _ _ _ hxs.symm).trans (Heap.get?_push_at rfl rfl)
 generalize ((hh.push { cls:=.type "dict",data:=.dict #[] }).update x fun o=>{ cls:=o.cls,dict:=some hh.objs.size,data:=o.data,slots:=o.slots })=h2 at hx2 kp hgd ⊢
 have hnd:h2.Ns hh.objs.size (fun _=>none):=⟨_,#[],_,hgd,rfl,fun e he=>absurd he (by simp),fun _=>rfl⟩
 show wpAny _ _ (storeInDict hh.objs.size (.str name tk) name v) _ _ _
 unfold storeInDict newKeyGuard
 refine Nf (Ni (Nf (wpAny_nsSet1 (V9 hnd) fun h3 hn3 hs3=>?_)))
 obtain ⟨oD,esD,epD,hoD,hdD,hcD⟩:=hn3.count (Within.cons name v Within.nil)
 refine Nf (wpAny_lookBehind hoD ?_ ?_)
 ·rw [hdD]
  exact pastItsLine_dict (OJ hcD (by show 1<=sizeLine+1; decide))
 ·refine Ni ?_
  show wpAny _ _ (pure (some _)) _ _ _
  refine Ni (Ni (h h3 _ hh.objs.size (Nu _) hxs.symm ((hs3.2 x hxs).trans hx2) hn3 fun b o hb e=>?_))
  exact (hs3.2 b (Ot (N7 e))).trans (kp b o hb e)
end
def ExcAt (x C:Addr) (d:Option Addr) (h:Heap):Prop:=∃ t,h.get? x=some (dN C t d)
theorem ExcAt.stays {x C:Addr} {d:Option Addr}:∀ h1 h2:Heap,ExcAt x C d h1->(∀ o,h1.get? x=some o->h2.get? x=some o)->ExcAt x C d h2:=fun _ _ ⟨t,e⟩ k=>⟨t,k _ e⟩
section
variable {X:Cx} {pins:List (Addr×Obj)} {σ:St} {H:Hp} {s:Shared}
theorem Inv.excd {x C d:Addr} {φ:Heap->Prop} {fs:List (Str×V)} {h':Heap} {tk:Nat} (I:Inv X pins σ H s) (hx:H x=some (.ext φ)) (nd:s.heap.objs.size<=d) (ne:d≠x) (h1:ExcAt x C (some d) h') (h2:∃ mA,h'.Ns1 d mA/\∀ f,RelO (fs.lookup f) (mA f)) (k:∀ b o,b≠x->s.heap.get? b=some o->h'.get? b=some o) :
  Inv X pins σ (upd (upd H x (.ext (ExcAt x C (some d)))) d (.xd fs)) { s with heap:=h',toks:=tk }:=by
 have hd:H d=none:=I.hok.fresh nd
 have dx:∀ b o,H b=some o->b≠d:=fun b o e z=>by rw [z,hd] at e; cases e
 have old:∀ b o,s.heap.get? b=some o->b≠d:=fun b o e=>Ot (Om (N7 e) nd)
 have same:∀ b o,H b=some o->b≠x->upd (upd H x (.ext (ExcAt x C (some d)))) d (.xd fs) b=some o:=fun b o e z=>by
  rw [aC (dx b o e),aC z]; exact e
 refine I.un ⟨fun b o e n _ _=>k b o (fun z=>by rw [z,hx] at n; cases n) e,fun b o e n _ _=>⟨o.slots,k b o (fun z=>by rw [z,hx] at n; cases n) e⟩,fun b o e n _=>?_,fun b o e _=>?_,fun b xs e=>same b _ e fun z=>?_,fun b o u e=>same b _ e fun z=>?_,fun b ps e=>⟨#[],?_⟩⟩ fun b o e=>?_
 ·rw [aC (old b o e),aC (fun z=>by rw [z,hx] at n; cases n)]
  exact n
 ·by_cases z:b=x
  ·rw [z]; obtain ⟨t,q⟩:=h1; exact ⟨_,q⟩
  ·exact ⟨o,k b o z e⟩
 ·rw [z,hx] at e; cases e
 ·rw [z,hx] at e; cases e
 ·rw [Array.append_empty]
  exact same b _ e fun z=>by rw [z,hx] at e; cases e
 ·by_cases z:b=d
  ·subst z
   rw [ak] at e
   cases e
   exact h2
  ·rw [aC z] at e
   by_cases y:b=x
   ·subst y
    rw [ak] at e
    cases e
    obtain ⟨t,q⟩:=id h1
    exact ⟨h1,⟨_,q⟩,ExcAt.stays⟩
   ·rw [aC y] at e
    refine (I.hok b o e).stay (fun c u hc r=>k c u (fun v=>?_) r) (fun c r=>same c _ r fun v=>?_) fun c xs r=>same c _ r fun v=>?_
    ·rcases hc with v' | v'
     ·exact y (v'.symm.trans v)
     ·rw [v,hx] at v'; cases v'
    ·rw [v,hx] at r; cases r
    ·rw [v,hx] at r; cases r
end
def sExc (K:Nh) (ta tv:TE) (f:Str):TS:=fun D σ H=>tv σ H fun y H1=>ta σ H1 fun x H2=>∃ a C,x=.ref a/\H2 a=some (.ext (ExcAt a C none))/\XSet K C f/\∀ d,H2 d=none->d≠a->D.nx σ (upd (upd H2 a (.ext (ExcAt a C (some d)))) d (.xd [(f,y)]))
theorem KD {X:Cx} {o value:Expr} {f:Str} {pos pos':Pos} {ta tv:TE} (ha:PE X o ta) (hv:PE X value tv) (hs:swapsWith value (some (.Attribute o f pos')) pos.line X.env=pure false):PS X (.Assign [.Attribute o f pos'] value pos) (sExc X.K ta tv f):=by
 intro pins s σ H D I h
 refine Sq (thn (hv pins s σ H _ I h) fun u s1 ⟨y,H1,I1,ry,q⟩=>thn (ha pins s1 σ H1 _ I1 q) fun ov s2 ⟨x,H2,I2,rx,a,C,ex,ea,c,q2⟩=>?_) hs
 subst ex
 obtain rfl:ov=Value.ref a:=rx
 obtain ⟨⟨t,et⟩,_⟩:=(show ObjOk X.prog X.w H2 s2.heap a (.ext (ExcAt a C none)) from I2.hok a _ ea)
 refine Ij I2.kIn c et fun h' tk d nd ne h1 h2 kp=>?_
 refine ⟨σ,_,I2.excd (fs:=[(f,y)]) ea nd ne ⟨t,h1⟩ ⟨_,h2,fun g=>?_⟩ kp,q2 d (I2.hok.fresh nd) ne⟩
 show RelO (List.lookup g [(f,y)]) (if g=f then some u else none)
 by_cases z:g=f
 ·have hb:(g==f)=true:=beq_iff_eq.mpr z
  simp only [List.lookup,hb,if_pos z]
  exact ry
 ·have hb:(g==f)=false:=beq_eq_false_iff_ne.mpr z
  simp only [List.lookup,hb,if_neg z]
  exact True.intro
def DK (h h':Heap):Prop:=∀ b o,h.get? b=some o->∃ o',h'.get? b=some o'/\o'.dict=o.dict
theorem DK.refl (h:Heap):DK h h:=fun _ o e=>⟨o,e,rfl⟩
theorem DK.trans {h h1 h2:Heap} (a:DK h h1) (b:DK h1 h2):DK h h2:=fun c o e=>by
 obtain ⟨o1,e1,d1⟩:=a c o e
 obtain ⟨o2,e2,d2⟩:=b c o1 e1
 exact ⟨o2,e2,d2.trans d1⟩
theorem DK.push (h:Heap) (o:Obj):DK h (h.push o):=fun _ u e=>⟨u,Nk _ e,rfl⟩
def Gn (f:Obj->Obj):Prop:=∀ o:Obj,o.isFreed=false->(f o).isFreed=false/\(f o).dict=o.dict
theorem DK.update {h:Heap} {a:Addr} {f:Obj->Obj} (m:Gn f):DK h (h.update a f):=fun b o e=>by
 by_cases z:b=a
 ·subst z
  obtain ⟨m1,m2⟩:=m o (Heap.get?_some_iff.mp e).2
  exact ⟨_,Pk _ e m1,m2⟩
 ·exact ⟨o,(Qc _ _ _ _ z).trans e,rfl⟩
def Mild {α:Type}:Sem α->Prop
 | .pure _=>True
 | .raise _=>True
 | .unsupported _=>True
 | .rule _ k=>Mild (k ())
 | .at _ k=>Mild (k ())
 | .load _ _ k=>∀ o,Mild (k o)
 | .update _ _ f k=>Gn f/\Mild (k ())
 | .alloc _ k=>∀ a,Mild (k a)
 | .stack k=>∀ l,Mild (k l)
 | .ask k=>∀ l,Mild (k l)
 | _=>False
theorem Mild.bind {α β:Type} {m:Sem α} {f:α->Sem β} (h:Mild m) (hf:∀ a,Mild (f a)):Mild (m >>= f):=by
 show Mild (m.bind f)
 induction m with
 | pure a=>exact hf a
 | raise e=>exact h
 | unsupported w=>exact h
 | rule t k ih=>exact ih () h
 | «at» p k ih=>exact ih () h
 | load a p k ih=>exact fun o=>ih o (h o)
 | update a p g k ih=>exact ⟨h.1,ih () h.2⟩
 | alloc o k ih=>exact fun a=>ih a (h a)
 | stack k ih=>exact fun a=>ih a (h a)
 | ask k ih=>exact fun a=>ih a (h a)
 | _=>exact h.elim
theorem G9 {α:Type} {M:Model} {Γ:PySem.Ctx} {t:Sem α}:∀ {Q:α->Pos->Shared->Prop} {E:Value->Pos->Shared->Prop} {p:Pos} {s:Shared} {h0:Heap},Mild t->DK h0 s.heap->Sem.wp M Γ t Q E p s->Sem.wp M Γ t (fun a p' s'=>Q a p' s'/\DK h0 s'.heap) (fun e p' s'=>E e p' s'/\DK h0 s'.heap) p s:=by
 induction t with
 | pure a=>exact fun _ d h=>⟨h,d⟩
 | raise e=>exact fun _ d h=>⟨h,d⟩
 | unsupported w=>exact fun _ _ h=>h
 | rule t k ih=>exact fun m d h=>ih () m d h
 | «at» p k ih=>exact fun m d h=>ih () m d h
 | load a p k ih=>exact fun m d ⟨o,e,h⟩=>⟨o,e,ih o (m o) d h⟩
 | update a p g k ih=>exact fun m d ⟨e,h⟩=>⟨e,ih () m.2 (d.trans (DK.update m.1)) h⟩
 | alloc o k ih=>exact fun m d h=>ih _ (m _) (d.trans (DK.push _ _)) h
 | stack k ih=>exact fun m d h=>ih _ (m _) d h
 | ask k ih=>exact fun m d h=>ih _ (m _) d h
 | _=>exact fun m=>m.elim
theorem mild {α:Type} {M:Model} {A:Around} {t:Sem α} {Q:α->Shared->Prop} {E:Value->Shared->Prop} {s:Shared} (m:Mild t) (h:wpAny M A t Q E s):wpAny M A t (fun a s'=>Q a s'/\DK s.heap s'.heap) (fun e s'=>E e s'/\DK s.heap s'.heap) s :=
 fun Γ p hΓ=>G9 m (DK.refl _) (h Γ p hΓ)
theorem bK {α:Type} {a:α}:Mild (Pure.pure a:Sem α):=True.intro
theorem gw {α:Type} {w:String}:Mild (unsupported w:Sem α):=True.intro
theorem nJ {a:Addr}:Mild (load a):=fun _=>True.intro
theorem jh (v:Value) (i:Nat):Mild (field v i):=by
 unfold field
 refine Mild.bind ?_ fun vs=>?_
 ·unfold fieldsOf
  cases v <;> first | exact gw | (refine Mild.bind nJ fun o=>?_; split <;> first | exact bK | exact gw)
 ·split <;> first | exact bK | exact gw
theorem Br (f:Array Value->Array Value):Gn (Obj.mapFields f):=fun o ho=>by
 obtain ⟨c,d,dt,sl⟩:=o
 cases dt <;> first | exact ⟨rfl,rfl⟩ | exact ⟨ho,rfl⟩
theorem iH (v:Value) (i:Nat) (x:Value):Mild (setField v i x):=by
 unfold setField
 cases v <;> first | exact gw | skip
 unfold updateField
 refine Mild.bind nJ fun o=>?_
 split
 ·split
  ·exact ⟨Br _,True.intro⟩
  ·exact gw
 ·exact gw
theorem wW (env:Env) (l:List Env):Mild (behindIsImport env l):=by
 unfold behindIsImport
 split
 ·exact bK
 ·split
  ·exact bK
  ·exact Mild.bind (jh _ _) fun _=>bK
theorem Cr (env:Env) (b:Bool) (l:List Env):Mild (keptBack env b l):=by
 cases l with
 | nil =>
  have hu:Mild underTheClaimsCaller:=Mild.bind (m:=stack) (fun _=>True.intro) fun _=>bK
  show Mild (if (env.scope.isGenerator || env.scope.isCoroutine)=true then pure Value.none else _)
  by_cases z:(env.scope.isGenerator || env.scope.isCoroutine)=true
  ·rw [if_pos z]; exact bK
  ·rw [if_neg z]; exact Mild.bind hu fun _=>bK
 | cons c r=>exact bK
theorem qU:∀ l:List Env,Mild (readyFrames l)
 | []=>bK
 | env::outer=>by
  unfold readyFrames
  split
  ·refine Mild.bind nJ fun o=>?_
   split
   ·exact bK
   ·refine Mild.bind (wW _ _) fun b=>Mild.bind (Cr _ _ _) fun k=>Mild.bind ?_ fun _=>qU outer
    exact ⟨fun o ho=>⟨by obtain ⟨c,d,dt,sl⟩:=o; cases dt <;> first | rfl | exact ho,rfl⟩,True.intro⟩
  ·exact gw
theorem vo (env:Env):Mild (PySem.frameOf env):=by
 unfold PySem.frameOf frameEnvs
 refine Mild.bind (Mild.bind (fun _=>True.intro) fun _=>bK) fun l=>Mild.bind ?_ fun o=>?_
 ·generalize l.dropWhile _=k
  cases k with
  | nil=>exact bK
  | cons e r=>exact Mild.bind (qU _) fun _=>bK
 ·cases o <;> first | exact bK | exact gw
theorem yw (f:Addr) (b:Bool):Mild (entryPlaceOf f b):=by
 unfold entryPlaceOf
 refine Mild.bind (fun _=>True.intro) fun l=>?_
 split <;> exact bK
theorem rR (a b c d e:Value) (l:List Value):Mild (EntryCells.newEntry a b c d e l):=by
 unfold EntryCells.newEntry newFields newObj
 generalize ([a,b,c,d,e]++if l.isEmpty=true then List.replicate 6 Value.none else l).toArray=vs
 have hn:Mild (newObjAsIs (.type "traceback") (.fields vs)):=Mild.bind (fun _=>True.intro) fun _=>bK
 dsimp only
 split
 ·exact Mild.bind gw fun _=>hn
 ·exact hn
theorem ug (e:Value) (env:Env):Mild (noteFrame e env):=by
 unfold noteFrame
 split
 ·refine Mild.bind (jh _ _) fun hd=>?_
  have hz:Mild (do let a<-PySem.frameOf env; let pl<-entryPlaceOf ‹Addr› (hd != .none); let b<-EntryCells.newEntry hd a .none (rawInt ‹Addr›) .none pl; setField e 1 b) :=
   Mild.bind (vo env) fun a=>Mild.bind (yw _ _) fun pl=>Mild.bind (rR _ _ _ _ _ _) fun b=>iH _ _ _
  dsimp only
  split
  ·refine Mild.bind (jh _ _) fun x=>?_
   split
   ·exact bK
   ·exact Mild.bind (iH _ _ _) fun _=>hz
  ·exact hz
 ·exact gw
theorem j5 (e:Value) (f:Option Addr):Mild (setFlight e f):=by
 unfold setFlight
 refine Mild.bind (jh _ _) fun tb=>?_
 split
 ·exact iH _ _ _
 ·exact bK
theorem ux (env:Env) (e:Value):Mild (leaving env e):=Mild.bind (ug e env) fun _=>j5 e none
def DictIs (h:Heap) (e:Addr) (d:Option Addr):Prop:=∀ x,d=some x->∃ oe,h.get? e=some oe/\oe.dict=some x
theorem DictIs.none {h:Heap} {e:Addr}:DictIs h e none:=fun _ z=>by cases z
theorem DictIs.keep {h h':Heap} {e:Addr} {d:Option Addr} (a:DictIs h e d) (k:DK h h'):DictIs h' e d:=fun x z=>by
 obtain ⟨oe,e1,e2⟩:=a x z
 obtain ⟨o',e3,e4⟩:=k e oe e1
 exact ⟨o',e3,e4.trans e2⟩
def CXY (P:Program) (w:World):CXT:=fun outer H s E ev s'=>∃ e C d H',ev=.ref e/\Fly P w outer H H' s s' e C/\DictIs s'.heap e d/\E C d H'
def forget (e:Addr) (H:Hp):Hp:=fun b=>if b=e then none else H b
theorem eE {e b:Addr} {H:Hp} (h:b≠e):forget e H b=H b:=by unfold forget; rw [if_neg h]
theorem oK {e:Addr} {H:Hp}:forget e H e=none:=by unfold forget; rw [if_pos rfl]
section
variable {P:Program} {w:World} {K:Nh} {mg:Str->Option Value} {base:Heap} {N:List Str} {qual:Str} {scope:Scope} {f:Addr} {cd:Value} {A:Around} {outer:List Env} {s₀:Shared} {H₀:Hp} {E:XK}
theorem BK {pins:List (Addr×Obj)} {σ:St} {H:Hp} {s:Shared} {e C d:Addr} (I:Inv (cxOf (CXY P w) P w K mg base N qual scope f cd A outer s₀ H₀ E) pins σ H s) (he:H e=some (.ext (ExcAt e C (some d)))) (n0:s₀.heap.get? e=none) (hE:E (.ref C) (some d) (forget e H)) :
  (cxOf (CXY P w) P w K mg base N qual scope f cd A outer s₀ H₀ E).xe (.ref e) s:=by
 show wpAny (model P w) (A.deeper (envOfC qual scope s₀.heap.objs.size f cd)) (leaving (envOfC qual scope s₀.heap.objs.size f cd) (.ref e)) _ _ s
 have stk:=I.stack
 obtain ⟨⟨t,et⟩,_⟩:=(show ObjOk P w H s.heap e (.ext (ExcAt e C (some d))) from I.hok e _ he)
 have hL:∀ b o,s₀.heap.get? b=some o->b≠s₀.heap.objs.size:=fun b o q=>Ot (N7 q)
 have ne:e∉frs (envOfC qual scope s₀.heap.objs.size f cd::outer):=fun z=>by
  have q:H e=none:=I.stkFree e z
  rw [he] at q
  cases q
 have out:∀ b,b∈frs (envOfC qual scope s₀.heap.objs.size f cd::outer)->b=s₀.heap.objs.size∨b∈frs outer:=fun b hb=>by
  obtain ⟨ev,hv,hf⟩:=Pu.mp hb
  rcases NT.mp hv with z | z
  ·subst z
   exact .inl (Option.some.inj hf).symm
  ·exact .inr (Pu.mpr ⟨ev,z,hf⟩)
 have old:∀ b o,s₀.heap.get? b=some o->b≠e:=fun b o q z=>by rw [z,n0] at q; cases q
 have notIn:∀ b o,s₀.heap.get? b=some o->b∉frs outer->b∉e::frs (envOfC qual scope s₀.heap.objs.size f cd::outer):=fun b o q n z=>by
  rcases NT.mp z with y | y
  ·exact old b o q y
  ·rcases out b y with y | y
   ·exact hL b o q y
   ·exact n y
 have stay:∀ b o,s.heap.get? b=some o->b∉e::frs (envOfC qual scope s₀.heap.objs.size f cd::outer)->(PySem.W.hideAll s.heap (e::frs (envOfC qual scope s₀.heap.objs.size f cd::outer))).get? b=some o:=fun b o q n=>Vz _ q n
 have hid:(PySem.W.hideAll s.heap (e::frs (envOfC qual scope s₀.heap.objs.size f cd::outer))).get? e=none:=Vr _ Ny
 have S0:wpAny (model P w) (A.deeper (envOfC qual scope s₀.heap.objs.size f cd)) (leaving (envOfC qual scope s₀.heap.objs.size f cd) (.ref e)) (fun _ s'=>∃ h',s'={ s with heap:=h' }/\Heap.LeftW (PySem.W.hideAll s.heap (e::frs (envOfC qual scope s₀.heap.objs.size f cd::outer))) (envOfC qual scope s₀.heap.objs.size f cd::outer) e (.ref C) (.ref t) s.heap h') (fun _ _=>False) s :=
  wpAny_leaving_firstW (a0:=.ref t) I.ok.frames (PySem.W.funFrames_hide stk fun ev hv b hb=>Nt _ (Pu.mpr ⟨ev,hv,hb⟩)) rfl et (fun b o q=>VN _ q) hid rfl rfl rfl fun h' hl=>⟨h',rfl,hl⟩
 refine PK (mild (ux _ _) S0) (fun _ s' ⟨⟨h2,es,hl⟩,dk⟩=>?_) fun _ _ z=>z.1.elim
 subst es
 obtain ⟨k1,⟨_,_,k2⟩,k3,k4⟩:=hl
 refine ⟨e,.ref C,some d,forget e H,rfl,⟨⟨_,_,⟨k1,hid,k2,k3⟩,fun b o q=>?_,fun b o q n nf=>?_,fun b o q nf=>?_⟩,I.os,I.bare,fun b o q n hf=>?_,fun b o q n=>?_,fun b xs q=>?_,fun b o u q=>?_,fun b ps q=>?_,oK,n0⟩,?_,hE⟩
 ·have nb:b≠e:=fun z=>by rw [z,oK] at q; cases q
  rw [eE nb] at q
  refine (I.hok b o q).stay (fun c u hc r=>stay c u r fun z=>?_) (fun c r=>?_) fun c xs r=>?_
  ·rcases NT.mp z with y | y
   ·rcases hc with x | x
    ·exact nb (x.symm.trans y)
    ·rw [y,he] at x; cases x
   ·have n:H c=none:=I.stkFree c y
    rcases hc with x | x
    ·rw [x,q] at n; cases n
    ·rw [n] at x; cases x
  ·rw [eE (fun y=>by rw [y,he] at r; cases r)]; exact r
  ·rw [eE (fun y=>by rw [y,he] at r; cases r)]; exact r
 ·exact stay b o (I.base.keep b o q n nf (by simp [cxOf])) (notIn b o q nf)
 ·obtain ⟨o',r⟩:=I.base.there b o q (by simp [cxOf])
  exact ⟨o',stay b o' r (notIn b o q nf)⟩
 ·obtain ⟨sl,r⟩:=I.base.slot b o q n hf (by simp [cxOf])
  have hb:b∈frs (envOfC qual scope s₀.heap.objs.size f cd::outer):=by
   obtain ⟨ev,hv,hb⟩:=Pu.mp hf
   exact Pu.mpr ⟨ev,Nt _ hv,hb⟩
  obtain ⟨o',ho',hd⟩:=vh stk hb
  rw [r] at ho'
  cases ho'
  obtain ⟨sl',r'⟩:=k4 b _ r hd
  exact ⟨sl',r'⟩
 ·rw [eE (old b o q)]
  exact I.base.free b o q n (by simp [cxOf])
 ·have z:=I.base.tups b xs q
  rw [eE (fun y=>by rw [y,he] at z; cases z)]
  exact z
 ·have z:=I.base.frzs b o u q
  rw [eE (fun y=>by rw [y,he] at z; cases z)]
  exact z
 ·obtain ⟨m,z⟩:=I.base.tbls b ps q
  exact ⟨m,by rw [eE (fun y=>by rw [y,he] at z; cases z)]; exact z⟩
 ·intro x z
  cases z
  obtain ⟨o',e1,e2⟩:=dk e _ et
  exact ⟨o',e1,e2⟩
end
def excJ (K:Nh) (C:Addr) (bmB:List Value) (newId:String):Bool:=match K.lookup C with
 | some ⟨.type "type",_,.cls k,z⟩=>(match k.mro,z.toList with
  | .ref D::r,[_,_,_,_,some (.builtin n),_]=>D==C && n==newId && !k.hasDel && PySem.W.tailIn K bmB r
  | _,_=>false)
 | _=>false
theorem Gv {K:Nh} {h:Heap} {C:Addr} {bmB:List Value} {newId:String} (X:K.In h) (q:excJ K C bmB newId=true) :
  ∃ bm N nm qn bs hd sn sub ab col dd k0 k1 k2 k3 k5,h.get? C=some (excClassObj nm qn C N bs bm hd sn sub ab col dd k0 k1 k2 k3 k5 newId)/\OwnTail h bmB bm:=by
 unfold excJ at q
 split at q
 case h_2=>cases q
 case h_1 dd cd sl ho =>
  split at q
  case h_2=>cases q
  case h_1 C' bm k0 k1 k2 k3 n k5 hm hs =>
   simp only [Qa,beq_iff_eq,Bool.not_eq_true'] at q
   obtain ⟨⟨⟨e1,e2⟩,e3⟩,e4⟩:=q
   subst e1 e2
   have es:sl=#[k0,k1,k2,k3,some (.builtin n),k5]:=by
    cases sl with
    | mk l=>exact congrArg Array.mk hs
   subst es
   cases cd with
   | mk nm bs mro ns qn hd sn sub ab col del =>
    simp only at hm e3
    subst hm e3
    exact ⟨bm,ns,nm,qn,bs,hd,sn,sub,ab,col,dd,k0,k1,k2,k3,k5,X _ _ ho,PySem.W.tail_of_in X e4⟩
section
variable {prog:Program} {w:World} {A:Around} {E:Value->Shared->Prop} {h:Heap} {g:Array GenState} {d:Drawn} {t:Nat} {os:OsState}
variable {nm q:Str} {C N:Addr} {bs bm bmB:List Value} {hdct:Bool} {sn:List Str} {sub:List Value} {ab:Bool} {col:Option Bool} {dd:Option Addr} {k0 k1 k2 k3 k5:Option Value} {B newId initId:String} {K:Nh} {f:Addr}
theorem JK (F:ExcBaseFacts B newId initId bmB) (T:OwnTail h bmB bm) (X:K.In h) (hi:PySem.W.findIn K (.ref C) "__init__"=some (some (.ref f))) (hf:PySem.W.typeIn K (.ref f)=some (.type "function")) {rest:List Value} {Q:Fin->Shared->Prop}
  (hC:h.get? C=some (excClassObj nm q C N bs bm hdct sn sub ab col dd k0 k1 k2 k3 k5 newId)) (hz:rest.length<=sizeLine)
  (hq:∀ t' h' e,h.objs.size<=e->(∀ b o,h.get? b=some o->h'.get? b=some o)->h'.get? e=some (dN C t' none) ->
   wpAny (model prog w) A (call (.ref f) (.ref e::rest)) (fun r s'=>r=.none/\Q (.done (.ret (.ref e))) s') E ⟨h',g,d,t,os⟩) :
  wpAny (model prog w) A (Builtin.«type.__call__» ⟨.ref C::rest,[]⟩) Q E ⟨h,g,d,t,os⟩:=by
 repeat (first | with_reducible refine wpAny_madeBy_exc hC ?_ | with_reducible refine RB hC ?_ | wp_step)
 refine codeAny_call_builtin_code (Qk _ F.quiet) (wpAny_check_new_subT F T hC (codeAny_exc_new_subT F T hC ?_ hz))
 show wpAny _ _ _ _ _ _
 have kp:∀ b o,h.get? b=some o->((h.push { cls:=.type "tuple",data:=.seq rest.toArray }).push (dN C h.objs.size none)).get? b=some o:=fun b o e=>Nk _ (Nk _ e)
 have he:((h.push { cls:=.type "tuple",data:=.seq rest.toArray }).push (dN C h.objs.size none)).get? (h.objs.size+1)=some (dN C h.objs.size none):=by
  have:=NQ (h.push { cls:=.type "tuple",data:=.seq rest.toArray }) (o:=dN C h.objs.size none) rfl
  rwa [Rh] at this
 show wpAny _ _ _ _ _ ⟨(h.push { cls:=.type "tuple",data:=.seq rest.toArray }).push (dN C h.objs.size none),g,d,t,os⟩
 have hq':=hq h.objs.size _ (h.objs.size+1) (Q5 _) kp he
 have hC1:=kp _ _ hC
 have X1:K.In ((h.push { cls:=.type "tuple",data:=.seq rest.toArray }).push (dN C h.objs.size none)):=X.keeps kp
 generalize (h.push { cls:=.type "tuple",data:=.seq rest.toArray }).push (dN C h.objs.size none)=h1 at he hC1 X1 hq' ⊢
 have hcC:(Value.ref C::bm).contains (.ref C)=true:=by simp
 unfold isInstance
 repeat (first | with_reducible refine RB he ?_ | (with_reducible refine Tr hC1 ?_; rw [hcC]) | wp_step)
 show wpAny _ _ (isSubtype (.ref C) (.ref C)) _ _ _
 refine Tr hC1 ?_
 rw [hcC]
 show wpAny _ _ (_ >>= _) _ _ _
 refine Nf (Pa ?_)
 unfold callSpecial? specialOf
 have L0:PySem.W.Looks (model prog w) h1 (typeOf (.ref (h.objs.size+1))) (.ref C):=gP he rfl
 refine Nf (Nf (L0.at ((QC X1 hi).at ?_)))
 refine Pa (Nf ((WQ X1 _ hf).at (Nf (PK hq' (fun r s' hr=>?_) fun _ _ x=>x))))
 obtain ⟨rfl,hQ⟩:=hr
 exact Ni (Ni hQ)
theorem Mg (F:ExcBaseFacts B newId initId bmB) (T:OwnTail h bmB bm) (X:K.In h) (hi:PySem.W.findIn K (.ref C) "__init__"=some (some (.ref f))) (hf:PySem.W.typeIn K (.ref f)=some (.type "function")) {rest:List Value} {Q:Value->Shared->Prop}
  (hC:h.get? C=some (excClassObj nm q C N bs bm hdct sn sub ab col dd k0 k1 k2 k3 k5 newId)) (hz:rest.length<=sizeLine)
  (hq:∀ t' h' e,h.objs.size<=e->(∀ b o,h.get? b=some o->h'.get? b=some o)->h'.get? e=some (dN C t' none) ->
   wpAny (model prog w) (A.under (.builtin "type.__call__" ⟨.ref C::rest,[]⟩)) (call (.ref f) (.ref e::rest)) (fun r s'=>r=.none/\Q (.ref e) s') E ⟨h',g,d,t,os⟩) :
  wpAny (model prog w) A (call (.ref C) rest) Q E ⟨h,g,d,t,os⟩:=by
 have f1:=tc_lookup
 have f2:=tc_bind (.ref C)
 have hT:(⟨h,g,d,t,os⟩:Shared).TypeIs (.ref C) "type":=⟨_,hC,rfl⟩
 refine Ri (codeAny_of_tree ?_)
 show wpAny _ _ (callAny (.ref C) _) _ _ _
 repeat (any_goals (first | with_reducible refine RB hC ?_ | assumption | wp_step))
 exact ⟨rfl,codeAny_call_builtin_at (Qk _ (by decide +kernel)) entry_typeCall (wpAny_check_type_call_sub hC (JK F T X hi hf hC hz hq))⟩
end
section
variable {M:Model} {A:Around} {E:Value->Shared->Prop} {env:Env} {s:Shared}
variable {nm q:Str} {C N:Addr} {bs bm:List Value} {hdct:Bool} {sn:List Str} {sub:List Value} {ab:Bool} {col:Option Bool} {dd:Option Addr} {k0 k1 k2 k3 k5:Option Value} {newId:String}
theorem JN {x:Sem Value} {Q:Flow->Shared->Prop} (hB:bm.contains (.type "BaseException")=true) (hh:A.handled=none)
  (h:wpAny M A x (fun v s₁=>∃ e t d,v=.ref e/\s₁.heap.get? C=some (excClassObj nm q C N bs bm hdct sn sub ab col dd k0 k1 k2 k3 k5 newId)/\s₁.heap.get? e=some (dN C t d)/\E (.ref e) s₁) E s) :
  wpAny M A (raiseStmt env (some x) none) Q E s:=by
 have hcB:(Value.ref C::bm).contains (.type "BaseException")=true:=by rw [List.contains_cons,hB]; exact Xi _
 unfold raiseStmt
 refine Nf (PK h (fun v s₁ h₁=>?_) fun _ _ x=>x)
 obtain ⟨e,t,d,rfl,hC,he,hE⟩:=h₁
 obtain ⟨hp,gg,dr,tk,os⟩:=s₁
 unfold dN at he
 repeat (first | with_reducible refine RB hC ?_ | with_reducible refine RB he ?_ | (with_reducible refine Tr hC ?_; rw [hcB]) | wp_step)
 exact wpAny_raiseNew_none hh hE
end
section
variable {prog:Program} {w:World} {A:Around} {E:Value->Shared->Prop} {s:Shared} {env:Env}
variable {nm q:Str} {C N:Addr} {bs bm bmB:List Value} {hdct:Bool} {sn:List Str} {sub:List Value} {ab:Bool} {col:Option Bool} {dd:Option Addr} {k0 k1 k2 k3 k5:Option Value} {B newId initId:String} {K:Nh} {f:Addr}
theorem Mx (F:ExcBaseFacts B newId initId bmB) {x:Str} {np cpos pos:Pos} {args:List Expr} {Q:Flow->Shared->Prop}
  (hB:bm.contains (.type "BaseException")=true) (hh:A.handled=none) (hp:(backTo cpos (starEach args env)).any (·.1)=false) (hi:PySem.W.findIn K (.ref C) "__init__"=some (some (.ref f))) (hf:PySem.W.typeIn K (.ref f)=some (.type "function"))
  (h:wpAny (model prog w) A (eval (.Name x np) env) (fun v s₁=>v=.ref C/\wpAny (model prog w) A (evalArgs (.ref C) true (backTo cpos (starEach args env)) [])
   (fun a s₂=>a.kw=[]/\a.pos.length<=sizeLine/\s₂.heap.get? C=some (excClassObj nm q C N bs bm hdct sn sub ab col dd k0 k1 k2 k3 k5 newId)/\K.In s₂.heap/\OwnTail s₂.heap bmB bm /\
    ∀ t' h' e,s₂.heap.objs.size<=e->(∀ b o,s₂.heap.get? b=some o->h'.get? b=some o)->h'.get? e=some (dN C t' none) ->
     wpAny (model prog w) (A.under (.builtin "type.__call__" ⟨.ref C::a.pos,[]⟩)) (call (.ref f) (.ref e::a.pos)) (fun r s'=>r=.none/\s'.heap.get? C=some (excClassObj nm q C N bs bm hdct sn sub ab col dd k0 k1 k2 k3 k5 newId)/\(∃ t d,s'.heap.get? e=some (dN C t d))/\E (.ref e) s') E { s₂ with heap:=h' }) E s₁) E s) :
  wpAny (model prog w) A (exec (.Raise (some (.Call (.Name x np) args [] cpos)) none pos) env) Q E s:=by
 rw [arm_exec_Raise]
 have hx:wpAny (model prog w) A (eval (.Call (.Name x np) args [] cpos) env) (fun v s₁=>∃ e t d,v=.ref e/\s₁.heap.get? C=some (excClassObj nm q C N bs bm hdct sn sub ab col dd k0 k1 k2 k3 k5 newId)/\s₁.heap.get? e=some (dN C t d)/\E (.ref e) s₁) E s:=by
  refine wpAny_Call_ofName (PK h (fun v s₁ h₁=>?_) fun _ _ x=>x)
  obtain ⟨rfl,h₁⟩:=h₁
  unfold callWith
  refine Nf (Pa (PK h₁ (fun a s₂ h₂=>Nf (Uo ?_)) fun _ _ x=>x))
  obtain ⟨apos,akw⟩:=a
  obtain ⟨hkw,hlen,hC,hK,T,h₂⟩:=h₂
  obtain rfl:akw=[]:=hkw
  obtain ⟨hh2,g,d,tk,os⟩:=s₂
  simp only [hp]
  refine Nf (wpAny_keeperOf_exc hC ?_)
  refine Nf (Mg F T hK hi hf hC hlen fun t' h' e a1 a2 a3=>PK (h₂ t' h' e a1 a2 a3) (fun r s' hr=>⟨hr.1,Nf (Pa (wpAny_point (Ni ?_)))⟩) fun _ _ x=>x)
  obtain ⟨_,b1,⟨t,d,b2⟩,b3⟩:=hr
  exact ⟨e,t,d,rfl,b1,b2,b3⟩
 refine Nf (Uo (JN (C:=C) (nm:=nm) (q:=q) (N:=N) (bs:=bs) (bm:=bm) (hdct:=hdct) (sn:=sn) (sub:=sub) (ab:=ab) (col:=col) (dd:=dd) (k0:=k0) (k1:=k1) (k2:=k2) (k3:=k3) (k5:=k5) (newId:=newId) hB hh ?_))
 exact Nf (PK hx (fun v s₃ h₃=>Nf (Uo (Ni h₃))) fun _ _ x=>x)
end
def Ji (X:Cx) (E:XK):Prop:=∀ (pins:List (Addr×Obj)) (σ:St) (H:Hp) (s:Shared) (e C d:Addr),Inv X pins σ H s->H e=some (.ext (ExcAt e C (some d)))->X.s₀.heap.get? e=none->E (.ref C) (some d) (forget e H)->X.xe (.ref e) s
structure MkX (K:Nh) (C f:Addr) (bmB:List Value) (newId:String):Prop where
 ex:excJ K C bmB newId=true
 init:PySem.W.findIn K (.ref C) "__init__"=some (some (.ref f))
 fn:PySem.W.typeIn K (.ref f)=some (.type "function")
def Hl (C:Addr) (E:XK) (sp:Sp) (t:TA):TS:=fun _ σ H=>t σ H fun vs H1=>vs.length<=sizeLine/\∀ e,H1 e=none ->
 sp (.ref e::vs) (upd H1 e (.ext (ExcAt e C none))) (fun v H2=>v=.non/\∃ d,H2 e=some (.ext (ExcAt e C (some d)))/\E (.ref C) (some d) (forget e H2)) E0
theorem Cg {X:Cx} {E:XK} {x:Str} {C f:Addr} {bmB:List Value} {B newId initId:String} {e₀:Expr} {rest:List Expr} {np cpos pos:Pos} {t:TA} {CX:CXT} {k:Nat} {fd:FuncData} {ps:List Str} {sp:Sp} (hL:Ji X E) (hc:X.calm=true) (hg:Gl X x) (hm:X.mg x=some (.ref C)) (M:MkX X.K C f bmB newId)
  (FB:ExcBaseFacts B newId initId bmB) (F:FnOk X.prog X.w X.K X.mg X.base CX k f fd ps sp) (hr:Room (k+1) X.A) (hb:Binds X.K fd ps []) (hx:Passes CX X E0) (ha:PA X (e₀::rest) t) (hd:(x==("__debug__":Str))=false:=by decide) (he:starEach (e₀::rest) X.env=(false,eval e₀ X.env)::starEach rest X.env:=by rfl)
  (hpl:(backTo cpos (starEach rest X.env)).any (·.1)=false:=by rfl):PS X (.Raise (some (.Call (.Name x np) (e₀::rest) [] cpos)) none pos) (Hl C E sp t):=by
 intro pins s σ H D I h
 obtain ⟨bm,N,nm,qn,bs,hdc,sn,sub,ab,col,dd,k0,k1,k2,k3,k5,hC,T⟩:=Gv I.mod.kin M.ex
 refine Mx (C:=C) (nm:=nm) (q:=qn) (N:=N) (bs:=bs) (bm:=bm) (hdct:=hdc) (sn:=sn) (sub:=sub) (ab:=ab) (col:=col) (dd:=dd) (k0:=k0) (k1:=k1) (k2:=k2) (k3:=k3) (k5:=k5) (K:=X.K) (f:=f) FB (T.hasType FB.hasBase) (I.ok.hd hc)
  (by rw [he]; show (false || (backTo cpos (starEach rest X.env)).any (·.1))=false; rw [hpl]; rfl) M.init M.fn (j6 I hg hm ⟨rfl,?_⟩ hd)
 have hA:=ha cpos pins s σ H _ I h
 rw [he] at hA ⊢
 refine RD (thn hA fun us s1 ⟨vs,H1,I1,r,hz,hE⟩=>?_)
 refine ⟨rfl,by rw [<- r.length]; exact hz,I1.bk _ _ hC,I1.kIn,T.keeps I1.bk,fun t' h' e a1 a2 a3=>?_⟩
 have I2:=I1.laid (a:=e) (o:=.ext (ExcAt e C none)) (h':=h') (t':=s1.toks) a2 a1 ⟨⟨t',a3⟩,⟨_,a3⟩,ExcAt.stays⟩
 have hq:=hE e (I1.hok.fresh a1)
 have r2:Vals (V.ref e::vs) (Value.ref e::us):=.cons rfl r
 have hl:(Value.ref e::us).length=ps.length:=by rw [<- r2.length]; exact F.len _ _ _ _ hq
 have hbb:=hb { s1 with heap:=h' } (Value.ref e::us) I2.kIn (by rw [N6]; exact hl)
 rw [N6] at hbb
 refine Ri (RQ (F.run _ X.stack _ _ ⟨Value.ref e::us,[]⟩ (Value.ref e::us) _ _ E0 (hr.make C us []) (I2.env0.make C us []) hbb r2 hq) fun r s' hq'=>?_)
 cases r with
 | error e'=>exact hx pins σ _ _ e' s' I2 hq'
 | ok fl =>
  cases fl with
  | ret u =>
   obtain ⟨v,H',I3,rv,ev,d,hd1,hE2⟩:=I2.after hq'
   subst ev
   obtain ⟨⟨t3,e3⟩,_⟩:=(show ObjOk X.prog X.w H' s'.heap e (.ext (ExcAt e C (some d))) from I3.hok e _ hd1)
   exact ⟨rv,I3.bk _ _ hC,⟨t3,_,e3⟩,hL pins σ H' s' e C d I3 hd1 (Vs (OJ I1.sz a1)) hE2⟩
  | next=>exact False.elim hq'
  | brk=>exact False.elim hq'
  | cont=>exact False.elim hq'
section
variable {P:Program} {w:World} {K:Nh} {mg:Str->Option Value} {base:Heap} {N:List Str} {qual:Str} {scope:Scope} {f:Addr} {cd:Value} {A:Around} {outer:List Env} {s₀:Shared} {H₀:Hp} {E:XK}
theorem yE:Ji (cxOf (CXY P w) P w K mg base N qual scope f cd A outer s₀ H₀ E) E:=fun _ _ _ _ _ _ _ I he n hE=>BK I he n hE
theorem JF {CX:CXT} (h:∀ l H s ev s',¬ CX l H s E0 ev s') {X:Cx}:Passes CX X E0:=fun _ _ H s e s' _ z=>absurd z (h _ H s e s')
end
def IsExcD (e C:Addr) (d:Option Addr) (h:Heap):Prop:=∃ o vs,h.get? e=some o/\o.cls=.ref C/\o.data=.fields vs/\∀ x,d=some x->o.dict=some x
theorem IsExcD.stays {e C:Addr} {d:Option Addr}:∀ h1 h2:Heap,IsExcD e C d h1->(∀ o,h1.get? e=some o->h2.get? e=some o)->IsExcD e C d h2:=fun _ _ ⟨o,vs,a,b⟩ k=>⟨o,vs,k o a,b⟩
section
variable {X:Cx}
end
section
variable {X:Cx}
def Jy (K:Nh):List V->Hp->VK->Prop:=fun xs H Q=>∃ e C d c cv b,xs=[.ref e,c]/\H e=some (.ext (IsExcD e C d))/\clsV c=some cv/\XCls K C/\PySem.W.kitOne K (.ref C) cv=some b/\Q (.bl b) H
theorem Bc:CallR X (.builtin "isinstance") (Jy X.K):=by
 intro pins s σ H xs us Q I r h
 obtain ⟨e,C,d,c,cv,b,rfl,he,hc,T,k,q⟩:=h
 obtain ⟨u,w',rfl,rx,rc⟩:=vals2 r
 cases rx
 have ec:w'=cv:=by
  cases c with
  | ty n=>cases hc; exact rc
  | ref a=>cases hc; exact rc
  | _=>cases hc
 subst ec
 obtain ⟨⟨o,_,h1,h2,_⟩,_⟩:=(show ObjOk X.prog X.w H s.heap e (.ext (IsExcD e C d)) from I.hok e _ he)
 exact PB (vY T) I.kIn ⟨o,h1,h2⟩ k (fun z=>nomatch z) fun tk=>⟨.bl b,H,I.tok _,rfl,q⟩
end
section
variable {prog:Program} {w:World} {A:Around} {E:Value->Shared->Prop} {s:Shared} {K:Nh} {x C d:Addr} {ox:Obj} {vs:Array Value} {f:Str} {v:Value} {mA:Str->Option Value}
open PySem.W PySem.Builtin PySem.Builtin.ObjectAttr in
theorem Gu {M:Model} {h:Heap} (X:K.In h) (nm:PySem.W.findIn K (.ref C) f=some none) (hd:PySem.W.hasDictIn K C=true) (ho:h.get? x=some ox) (hc:ox.cls=.ref C) (hdt:ox.data=.fields vs) (hdi:ox.dict=some d) (hn:h.Ns d mA) (hv:mA f=some v) :
  PySem.W.Looks M h (find (.ref x) (.ref C) f) (.value v):=by
 refine (QC X nm).andThen (Looks.now.andThen (Looks.now.andThen ?_))
 obtain ⟨cd,hcd,hhd⟩:=any_some hd
 intro A' Q' E' s' k q
 have ho':=k _ _ ho
 obtain ⟨oc,od,odt,osl⟩:=ox
 dsimp only at hc hdt hdi
 subst hc hdt hdi
 have hn':s'.heap.Ns d mA:=hn.keeps k
 show wpAny _ _ (ownThenClass (.ref x) f none none) _ _ _
 unfold ownThenClass inOwnDict PySem.Builtin.ObjectAttr.ownDict loadHead
 refine Nf (Nf (Nf (SJ ho' ?_)))
 show wpAny _ _ (instanceDict x false) _ _ _
 unfold instanceDict
 refine Nf (SJ ho' (Nf (((W8 X hcd).keeps k).here ?_)))
 rw [hhd]
 refine Ni ?_
 show wpAny _ _ (nsGet d f) _ _ _
 refine wpAny_nsGet hn' ?_
 rw [hv]
 exact Nf (Rj (Ni q))
open PySem.W PySem.Builtin PySem.Builtin.ObjectAttr in
theorem GZ {Q:Value->Shared->Prop} (X:K.In s.heap) (T:XCls K C) (nm:PySem.W.findIn K (.ref C) f=some none) (hd:PySem.W.hasDictIn K C=true) (ho:s.heap.get? x=some ox) (hc:ox.cls=.ref C) (hdt:ox.data=.fields vs) (hdi:ox.dict=some d) (hn:s.heap.Ns d mA) (hv:mA f=some v) (hh:handedOut v=pure v)
  (h:Q v { s with toks:=s.toks+1 }):wpAny (model prog w) A (getAttr (.ref x) f true) Q E s:=by
 obtain ⟨hp,g,dr,t,os⟩:=s
 have L0:Looks (model prog w) hp (typeOf (.ref x)) (.ref C):=gP ho hc
 have L1:=Vp (M:=model prog w) X T.ga
 have L2:=Vp (M:=model prog w) X T.gt
 have L3:=Gu (M:=model prog w) X nm hd ho hc hdt hdi hn hv
 have L4:Looks (model prog w) hp (isInstance (.ref x) (.type "BaseException")) true:=L0.andThen (looks_mroIn X T.be)
 have bnd:=Q7.ga.bind (.ref x)
 unfold getAttr getAttrBy
 refine Nf (Ws (Pa (Nf (L0.at (Nf (L1.at ?_))))))
 have hx2:(Value.builtin "BaseException.__getattribute__"==Value.builtin "object.__getattribute__")=false:=by decide +kernel
 show wpAny _ _ (if (onTheHeap (Value.ref C) && (Value.builtin "BaseException.__getattribute__"==Value.builtin "object.__getattribute__"))=true then _ else _) _ _ _
 rw [hx2,SM,if_neg Oz]
 unfold getAttrByItsOwn hookBefore
 refine Nf ?_
 show wpAny _ _ (typeLookup (Value.ref C) "__getattr__") _ _ _
 refine L2.at (Nf (Rx (Pa ?_)))
 show wpAny _ _ (boundAndCalled (Value.builtin "BaseException.__getattribute__") (Value.ref x) _) _ _ _
 unfold boundAndCalled
 rw [bnd]
 refine Nf (Ni (Ri ?_))
 show codeAny _ _ (.call (.builtin "BaseException.__getattribute__") ⟨[.ref x,.str f t],[]⟩) _ _
 have hargs:=F.args_bexc_ga (.ref x) (.str f t)
 refine QD Q7.ga.plain WX ?_
 refine @check_slot _ _ _ _ _ "BaseException" "__getattribute__" (.ref x) [.str f t] [] _ (by decide +kernel) (by decide +kernel) L4 hargs ?_
 show wpAny _ _ (Builtin.«object.__getattribute__» _) _ _ _
 unfold Builtin.«object.__getattribute__»
 repeat (first | with_reducible refine L0.at ?_ | with_reducible refine L3.at ?_ | wp_step)
 exact h
end
def JC (K:Nh) (ta:TE) (f:Str):TE:=fun σ H Q=>ta σ H fun x H1=>∃ a C d fs v,x=.ref a/\H1 a=some (.ext (IsExcD a C (some d)))/\XCls K C/\NoAttr K C f/\PySem.W.hasDictIn K C=true/\H1 d=some (.xd fs)/\fs.lookup f=some v/\Q v H1
theorem HS {X:Cx} {e:Expr} {f:Str} {pos:Pos} {ta:TE} (he:PE X e ta) (hb:attributeBase e f X.env (eval e X.env)=eval e X.env):PE X (.Attribute e f pos) (JC X.K ta f):=by
 intro pins s σ H Q I h
 refine zT hb (thn (he pins s σ H _ I h) fun u s1 ⟨x,H1,I1,rx,a,C,d,fs,v,ex,ea,c,n,hd,exd,l,q⟩=>?_)
 subst ex
 obtain rfl:u=Value.ref a:=rx
 obtain ⟨⟨o,vs,h1,h2,h3,h4⟩,_⟩:=(show ObjOk X.prog X.w H1 s1.heap a (.ext (IsExcD a C (some d))) from I1.hok a _ ea)
 obtain ⟨mA,hn,hr⟩:=(show ObjOk X.prog X.w H1 s1.heap d (.xd fs) from I1.hok d _ exd)
 have r:=hr f
 rw [l] at r
 obtain ⟨u',eu,ru⟩:=RelO.some_of r
 exact GZ I1.kIn c n hd h1 h2 h3 (h4 d rfl) hn.ns eu (PySem.W.handedOut_of (sE ru)) ⟨v,H1,I1.tok _,ru,q⟩
section
variable {P:Program} {w:World} {K:Nh} {mg:Str->Option Value} {base:Heap} {f:Addr}
theorem Jl {CX:CXT} {N:List Str} {qual:Str} {scope:Scope} {cd:Value} {A:Around} {outer:List Env} {s₀:Shared} {H₀:Hp} {E:XK} {k k':Nat} {x:Str} {ps:List Str} {sp:Sp} {p pos:Pos} {e:Expr} {es:List Expr} {t:TA}
  (G:Def P w K mg base CX k x ps sp) (hn:∀ l H s ev s',¬ CX l H s E0 ev s') (hr:Room k' (A.deeper (PyProof.Rows.envOfC qual scope s₀.heap.objs.size f cd))) (hk:k<=k') (ha:PA (cxOf (CXY P w) P w K mg base N qual scope f cd A outer s₀ H₀ E) (e::es) t) (hg:Gl (cxOf (CXY P w) P w K mg base N qual scope f cd A outer s₀ H₀ E) x:=by rfl) (hdb:(x==("__debug__":Str))=false:=by decide)
  (he:starEach (e::es) (cxOf (CXY P w) P w K mg base N qual scope f cd A outer s₀ H₀ E).env=(false,eval e (cxOf (CXY P w) P w K mg base N qual scope f cd A outer s₀ H₀ E).env)::starEach es (cxOf (CXY P w) P w K mg base N qual scope f cd A outer s₀ H₀ E).env:=by rfl) (hpl:(backTo pos (starEach es (cxOf (CXY P w) P w K mg base N qual scope f cd A outer s₀ H₀ E).env)).any (·.1)=false:=by rfl) :
  PE (cxOf (CXY P w) P w K mg base N qual scope f cd A outer s₀ H₀ E) (.Call (.Name x p) (e::es) [] pos) (wN sp [] E0 t):=uL (E:=E0) G (hr.mono hk) (JF hn) ha hg hdb he hpl
theorem no0 (l:List Env) (H:Hp) (s:Shared) (ev:Value) (s':Shared):¬ CX0 l H s E0 ev s':=fun z=>z
end
theorem Ea {X:Cx} {x:Str} {p pos:Pos} {e:Expr} {es:List Expr} {t:TA} {K:Nh} (hK:X.K=K) (hg:Gl X x) (hm:X.mg x=none) (hv:bootBuiltins x=some (.builtin "isinstance")) (ha:PA X (e::es) t) (hn:x≠"__name__":=by decide) (hdb:(x==("__debug__":Str))=false:=by decide)
  (he:starEach (e::es) X.env=(false,eval e X.env)::starEach es X.env:=by rfl) (hpl:(backTo pos (starEach es X.env)).any (·.1)=false:=by rfl):PE X (.Call (.Name x p) (e::es) [] pos) (tCB (Jy K) t) :=
 hK▸aH Bc hg hm hv ha hn hdb he hpl
theorem CK {X:Cx} {e:Expr} {f:Str} {pos:Pos} {ta:TE} {K:Nh} (hK:X.K=K) (he:PE X e ta) (hb:attributeBase e f X.env (eval e X.env)=eval e X.env):PE X (.Attribute e f pos) (JC K ta f):=hK▸HS he hb
def uU (CX:CXT) (X:Cx) (E:XK) (Φ:St->Prop):Prop:=∀ (pins:List (Addr×Obj)) (σ:St) (H:Hp) (s:Shared) (e:Value) (s':Shared),Φ σ->Inv X pins σ H s->CX X.stack H s E e s'->X.xe e s'
section
variable {X:Cx} {CX:CXT} {k:Nat} {f:Addr} {fd:FuncData} {ps:List Str} {sp:Sp} {E:XK} {x:Str} {p pos:Pos} {e:Expr} {es:List Expr} {t:TA} {Φ:St->Prop}
theorem Jd {pins:List (Addr×Obj)} {σ:St} {H:Hp} {s:Shared} {Q:VK} {us:List Value} {vs:List V} (F:FnOk X.prog X.w X.K X.mg X.base CX k f fd ps sp) (hr:Room k X.A) (hb:Binds X.K fd ps []) (hx:uU CX X E Φ) (hΦ:Φ σ)
  (I:Inv X pins σ H s) (r:Vals vs us) (h:sp (vs++[]) H Q E):wpAny (model X.prog X.w) X.A (call (.ref f) us) (EP X pins σ Q) X.xe s:=by
 have r2:Vals (vs++[]) (us++[]):=r.append .nil
 have hl:(us++[]).length=ps.length:=by rw [<- r2.length]; exact F.len _ _ _ _ h
 refine Ri (RQ (F.run X.A X.stack s H ⟨us,[]⟩ (us++[]) (vs++[]) Q E hr I.env0 (hb s us I.kIn hl) r2 h) fun r s' hq=>?_)
 cases r with
 | error e=>exact hx pins σ H s e s' hΦ I hq
 | ok fl =>
  cases fl with
  | ret u=>exact I.after hq
  | next=>exact False.elim hq
  | brk=>exact False.elim hq
  | cont=>exact False.elim hq
theorem G7 (D:Def X.prog X.w X.K X.mg X.base CX k x ps sp) (hr:Room k X.A) (hx:uU CX X E Φ) (ha:PA X (e::es) t) (hg:Gl X x:=by rfl) (hdb:(x==("__debug__":Str))=false:=by decide)
  (he:starEach (e::es) X.env=(false,eval e X.env)::starEach es X.env:=by rfl) (hpl:(backTo pos (starEach es X.env)).any (·.1)=false:=by rfl):PE X (.Call (.Name x p) (e::es) [] pos) (fun σ H Q=>Φ σ/\wN sp [] E t σ H Q):=by
 obtain ⟨f,fd,F,b,kp,m⟩:=D.ex
 intro pins s σ H Q I h
 refine Rn (j6 I hg m ?_ hdb)
 refine R3 (h₀:=X.base) I.ok.mod.kin kp (thn (ha pos pins s σ H _ I h.2) fun us s1 ⟨vs,H1,I1,r,q⟩=>⟨I1.kIn,?_⟩) he hpl
 exact Jd F hr b hx h.1 I1 r q
end
def M8 (K:Nh) (n i:Nat) (Ex:XK) (Φ:St->Prop) (cv:Value) (tb ts:TS):TS:=fun D σ H =>
 (∀ (C:Value) (d:Option Addr) (H':Hp) (σ':St) (e:Addr),Ex C d H'->Φ σ'->σ'.length=n->H' e=none->∃ Ca,C=.ref Ca/\PySem.W.exmOne K C cv=some true /\
  ts { nx:=fun σ2 H2=>D.nx (σ2.set i none) H2,rt:=D.rt,bk:=fun σ2 H2=>D.bk (σ2.set i none) H2,ct:=fun σ2 H2=>D.ct (σ2.set i none) H2 } (σ'.set i (some (.ref e))) (upd H' e (.ext (IsExcD e Ca d))))/\tb D σ H
section
variable {X:Cx}
theorem Im {Ex:XK} {Φ:St->Prop} {body suite:List Stmt} {b₀:Stmt} {x n:Str} {i:Nat} {np hpos pos:Pos} {cv:Value} {tb ts:TS} (hstk:X.stack=X.env::X.outer) (hfr:X.env.frame=some X.env.locals) (hg:Gl X x) (hm:X.mg x=some cv)
  (hN:X.N.Nodup) (hi:X.N[i]?=some n) (hk:X.env.scope.names.lookup n=some .local) (hex:X.ex=[])
  (hb:∀ pn E',uU (CXY X.prog X.w) (X.inTry pn E') Ex Φ->PSs (X.inTry pn E') body tb) (hs:∀ e,PSs (X.inSuite e) (b₀::suite) ts) (hd:(x==("__debug__":Str))=false:=by decide) :
  PS X (.Try body [.ExceptHandler (some (.Name x np)) (some n) (b₀::suite) hpos] [] [] pos) (M8 X.K X.N.length i Ex Φ cv tb ts):=by
 intro pins s σ H D I h
 obtain ⟨hh,ht⟩:=h
 refine wpAny_Try_except ?_
 have I1:=I.inTry (fun e s₁=>wpAny (model X.prog X.w) X.A (noteFrame e X.env) (fun _ s₂=>wpAny (model X.prog X.w) X.A (setFlight e none) (fun _ s₃=>wpAny (model X.prog X.w) X.A (handleBy e X.env [.ExceptHandler (some (.Name x np)) (some n) (b₀::suite) hpos]) (SP X pins D) X.xe s₃) X.xe s₂) X.xe s₁)
 refine thn (hb _ _ ?_ [] s σ H D I1 ht) fun f s1 q=>?_
 ·intro pins' σ' H1 s1 ev s2 hΦ J hx
  obtain ⟨e,C,d,H2,rfl,F,hdi,q⟩:=hx
  have J':Inv X pins σ' H1 s1:=Inv.ofTry I.ok J
  have F:Fly X.prog X.w X.stack H1 H2 s1 s2 e C:=F
  obtain ⟨B,a0,fl,okB,c1,c2⟩:=F.fl
  have fl':=fl
  rw [hstk] at fl'
  show wpAny (model X.prog X.w) X.A (noteFrame (.ref e) X.env) _ X.xe s2
  refine PK (mild (ug _ _) (wpAny_looks_onW (E:=X.xe) (Q:=fun _ s'=>∃ h3,s'={ s2 with heap:=h3 }/\Heap.HeldW B (X.env::X.outer) e C a0 X.env.locals h3/\s2.heap.UpToSlots h3) (by rw [I.ok.frames,hstk]) hfr fl' fun h3 held up3=>⟨h3,rfl,held,up3⟩)) (fun _ s3 ⟨⟨h3,es3,held,up3⟩,dk3⟩=>?_) fun _ _ z=>z.1
  subst es3
  refine PK (mild (j5 _ _) (wpAny_landsW (E:=X.xe) (Q:=fun _ s'=>∃ h4,s'={ s2 with heap:=h4 }/\Heap.FlyingW B (X.env::X.outer) e C a0 h4/\h3.UpToSlots h4) held fun h4 fl4 up4=>⟨h4,rfl,fl4,up4⟩)) (fun _ s4 ⟨⟨h4,es4,fl4,up4⟩,dk4⟩=>?_) fun _ _ z=>z.1
  subst es4
  obtain ⟨Ca,rfl,hmt,hts⟩:=hh C d H2 σ' e q hΦ J.len F.new.1
  have I4:Inv X pins σ' H2 { s2 with heap:=h4 }:=J'.land (t':=s2.toks) F fl okB c1 c2 fl4.1 (up3.trans up4)
  obtain ⟨ob,hob,hoc⟩:=fl4.there
  refine wpAny_handleBy_cons (codeAny_handlers_test (j6 (I4.inSuite e) hg hm ?_ hd)) (by intro z; cases z)
  refine (PySem.W.exm_one I4.kIn (cls:=.ref Ca) (hoc▸rO hob) hmt).here ?_
  refine codeAny_handlers_suite_as ?_
  refine PK (mild (j5 _ _) (lands_againW (Q:=fun _ s'=>∃ h5,s'={ s2 with heap:=h5 }/\Heap.FlyingW B (X.env::X.outer) e (.ref Ca) a0 h5/\h4.UpToSlots h5) fl4 fun h5 fl5 up5=>⟨h5,rfl,fl5,up5⟩)) (fun _ s5 ⟨⟨h5,es5,fl5,up5⟩,dk5⟩=>?_) fun _ _ z=>z.1
  subst es5
  have I5:Inv X pins σ' H2 { s2 with heap:=h5 }:=J'.land (t':=s2.toks) F fl okB c1 c2 fl5.1 ((up3.trans up4).trans up5)
  have hdi5:DictIs h5 e d:=((hdi.keep dk3).keep dk4).keep dk5
  obtain ⟨ob5,vs5,hob5,hoc5,hdt5,_⟩:=fl5.first
  have old:∀ b o,s1.heap.get? b=some o->b≠e:=fun b o r z=>by rw [z,F.new.2] at r; cases r
  have n0:X.s₀.heap.get? e=none:=by
   cases r:X.s₀.heap.get? e with
   | none=>rfl
   | some o =>
    obtain ⟨o',r'⟩:=J'.base.there e o r (by rw [hex]; simp)
    exact absurd rfl (old e o' r')
  have isx:IsExcD e Ca d h5:=⟨ob5,vs5,hob5,hoc5,hdt5,fun y z=>by
   obtain ⟨o',r1,r2⟩:=hdi5 y z
   rw [hob5] at r1
   cases r1
   exact r2⟩
  have I6:Inv X pins σ' (upd H2 e (.ext (IsExcD e Ca d))) { s2 with heap:=h5 }:=by
   refine I5.seen (o:=ob5) F.new.1 hob5 isx IsExcD.stays n0 ?_ ?_ ?_ ?_
   ·obtain ⟨m,⟨o',_,_,ho',_⟩,_⟩:=J'.loc
    exact Ne.symm (old _ _ ho')
   ·intro y c r
    obtain ⟨v,o',ho',_⟩:=J'.cell y c r
    exact old _ _ ho'
   ·intro p hp
    exact old _ _ (J'.pin p hp).1
   ·cases r:X.base.get? e with
    | none=>rfl
    | some o=>exact absurd rfl (old e o (J'.bk e o r))
  refine qP I6 hN hi (.inl hk) (v:=.ref e) rfl (fun s7 I7=>?_) (.inr hk)
  refine thnF (hs e pins s7 _ _ _ (I7.inSuite e) hts) fun f s8 q8=>?_
  have q9:=SP.ofSuite I.ok q8
  cases f with
  | next=>obtain ⟨σ9,H9,I9,q9⟩:=q9; exact name_goes I9 hN hi hk fun s' I'=>⟨_,H9,I',q9⟩
  | brk=>obtain ⟨σ9,H9,I9,q9⟩:=q9; exact name_goes I9 hN hi hk fun s' I'=>⟨_,H9,I',q9⟩
  | cont=>obtain ⟨σ9,H9,I9,q9⟩:=q9; exact name_goes I9 hN hi hk fun s' I'=>⟨_,H9,I',q9⟩
  | ret u=>obtain ⟨v,σ9,H9,I9,r9,q9⟩:=q9; exact name_goes I9 hN hi hk fun s' I'=>⟨v,_,H9,I',r9,q9⟩
 ·have q':SP X pins D f s1:=SP.ofTry I.ok q
  cases f with
  | next=>exact RZ q'
  | brk=>exact q'
  | cont=>exact q'
  | ret u=>exact q'
end
section
variable {X:Cx}
def JB (K:Nh):List V->Hp->VK->Prop:=fun xs H Q=>∃ (e C:Addr) (d:Option Addr) (tp:Addr) (cs:List Addr) (b:Bool),xs=[.ref e,.ref tp]/\H e=some (.ext (IsExcD e C d))/\H tp=some (.tup (cs.map V.ref))/\XCls K C/\PySem.W.kitAny K (.ref C) (cs.map Value.ref)=some b/\Q (.bl b) H
theorem qp:∀ {cs:List Addr} {its:List Value},Vals (cs.map V.ref) its->its=cs.map Value.ref
 | [],_,h=>by cases h; rfl
 | c::cs,_,h=>by
  cases h with
  | cons a t =>
   cases a
   rw [qp t]
   rfl
theorem Bp:CallR X (.builtin "isinstance") (JB X.K):=by
 intro pins s σ H xs us Q I r h
 obtain ⟨e,C,d,tp,cs,b,rfl,he,ht,T,k,q⟩:=h
 obtain ⟨u,w',rfl,rx,rc⟩:=vals2 r
 cases rx
 cases rc
 obtain ⟨⟨o,_,h1,h2,_⟩,_⟩:=(show ObjOk X.prog X.w H s.heap e (.ext (IsExcD e C d)) from I.hok e _ he)
 obtain ⟨its,ri,pt,hz⟩:=I.tuple (SqT.of (K:=X.K) ht)
 obtain ⟨⟨oc,od,dt,sl⟩,e2,hc,n2,hd⟩:=pt
 dsimp only at hc hd
 subst hc hd
 have ei:=qp ri
 rw [<- ei] at k
 exact PySem.W.kia_tup (vY T) I.kIn ⟨o,h1,h2⟩ e2 k (fun z=>nomatch z) fun tk=>⟨.bl b,H,I.tok _,rfl,q⟩
end
theorem J6 {X:Cx} {x:Str} {p pos:Pos} {e:Expr} {es:List Expr} {t:TA} {K:Nh} (hK:X.K=K) (hg:Gl X x) (hm:X.mg x=none) (hv:bootBuiltins x=some (.builtin "isinstance")) (ha:PA X (e::es) t) (hn:x≠"__name__":=by decide) (hdb:(x==("__debug__":Str))=false:=by decide)
  (he:starEach (e::es) X.env=(false,eval e X.env)::starEach es X.env:=by rfl) (hpl:(backTo pos (starEach es X.env)).any (·.1)=false:=by rfl):PE X (.Call (.Name x p) (e::es) [] pos) (tCB (JB K) t) :=
 hK▸aH Bp hg hm hv ha hn hdb he hpl
section
variable {X:Cx} {pins:List (Addr×Obj)} {σ:St} {H:Hp} {s:Shared}
theorem Inv.forget (I:Inv X pins σ H s) (i:Nat):Inv X pins (σ.set i none) H s:=by
 refine ⟨I.ok,I.os,I.bare,I.base,?_,I.cell,I.free,I.freeC,I.pin,I.hok,by rw [R7]; exact I.len⟩
 obtain ⟨m,hm,hv⟩:=I.loc
 refine ⟨m,hm,fun j x v h1 h2 h3=>hv j x v h1 ?_ h3⟩
 by_cases e:i=j
 ·subst e
  by_cases hl:i<σ.length
  ·rw [Qo hl] at h2
   cases h2
  ·rw [QM (by rw [R7]; omega)] at h2
   cases h2
 ·rw [QT e] at h2
  exact h2
theorem Bh {st:Stmt} {t:TS} (i:Nat) (h:PS X st t):PS X st (fun D σ H=>t D (σ.set i none) H):=fun pins s σ H D I hw=>h pins s _ H D (I.forget i) hw
end
end L2
namespace D
open PySem L2
abbrev nQ:Stmt:=inClass (top 3) 0
def Gs (K:Nh):Sp:=fun vs H Q _=>∃ (e C:Addr) (v:V),vs=[.ref e,v]/\H e=some (.ext (ExcAt e C none))/\XSet K C "ring"/\∀ d,H d=none->d≠e->Q .non (upd (upd H e (.ext (ExcAt e C (some d)))) d (.xd [("ring",v)]))
abbrev bmN:List Value:=[.type "ValueError",.type "Exception",.type "BaseException",.type "object"]
structure TR (K:Nh) (mg:Str->Option Value) (CI fI:Addr):Prop where
 mR:mg "InRing"=some (.ref CI)
 kR:MkX K CI fI bmN "ValueError.__new__"
 xR:XSet K CI "ring"
def cF:List (Int×Addr)->List (List Int)->Int->List Int
 | u::L,e::C,n=>if u.1=n then e else cF L C n
 | [],_,_=>[]
 | _::_,[],_=>[]
theorem Cw {n:Int} {a:Addr} {e:List Int}:∀ {L:List (Int×Addr)} {C:List (List Int)} {i:Nat},(L.map (·.1)).Nodup->L[i]?=some (n,a)->C[i]?=some e->cF L C n=e
 | u::L,c::C,0,_,e1,e2=>by
  cases e1
  cases e2
  exact if_pos rfl
 | u::L,c::C,i+1,nd,e1,e2=>by
  have nd:(u.1::L.map (·.1)).Nodup:=nd
  obtain ⟨h1,h2⟩:=Od.mp nd
  rw [Ql] at e1 e2
  have hm:n∈L.map (·.1):=Oq.mpr ⟨(n,a),Nv e1,rfl⟩
  show (if u.1=n then c else cF L C n)=e
  rw [if_neg fun z=>h1 (by rw [z]; exact hm)]
  exact Cw h2 e1 e2
 | [],_,i,_,e1,_=>by rw [Q0] at e1; cases e1
 | _::_,[],i,_,_,e2=>by rw [Q0] at e2; cases e2
theorem RkOk.congr {ks:List Int} {c c':Int->List Int} {M:Rks} (h:RkOk ks c M) (g:∀ n∈ks,∀ x,x∈c n↔x∈c' n):RkOk ks c' M:=by
 refine ⟨h.nd,h.ks,fun n q hq=>?_⟩
 have hn:n∈ks:=h.ks.mem_iff.mp (dU.mpr ⟨q,hq⟩)
 obtain ⟨h1,h2,h3⟩:=h.up n q hq
 refine ⟨h1,fun x hx=>h2 x ((g n hn x).mpr hx),?_⟩
 rcases h3 with e | ⟨x,hx,hm⟩
 ·exact .inl e
 ·exact .inr ⟨x,(g n hn x).mp hx,hm⟩
theorem RingOk.congr {ks:List Int} {c c':Int->List Int} {way:List Int} (h:RingOk ks c way) (g:∀ n∈ks,∀ x,x∈c n↔x∈c' n):RingOk ks c' way:=by
 refine ⟨h.ne,h.nd,h.mem,fun i x hx=>?_⟩
 obtain ⟨y,e,hy⟩:=h.st i x hx
 exact ⟨y,e,(g x (h.mem x (Nv hx)) y).mp hy⟩
def usN (f:L2.F) (n:Int):List Int:=bG n (mkD f)
def Ac (CI:Addr):Sp:=fun vs H Q E=>∃ (v:V) (f:L2.F),vs=[v]/\fP H 0 f v/\DocW f /\
 (∀ r M H',Same H H'->H r=none->H' r=some (.dK (nK M))->RkOk (aV f) (usN f) M->Q (.ref r) H') /\
 (∀ d p way H',Same H H'->H' d=some (.xd [("ring",.ref p)])->H' p=some (.tup (way.map V.int))->RingOk (aV f) (usN f) way->E (.ref CI) (some d) H')
theorem vH {H H2:Hp} {e d:Addr} {o1 o2 o3:HO} (g:Same H H2) (he:H2 e=none) (hd:upd H2 e o1 d=none) (ne:d≠e):Same H (forget e (upd (upd (upd H2 e o1) e o2) d o3)):=fun b o z=>by
 have z2:=g b o z
 have b1:b≠e:=fun y=>by rw [y,he] at z2; cases z2
 have b2:b≠d:=fun y=>by rw [aC ne,<- y,z2] at hd; cases hd
 rw [eE b1,aC b2,aC b1,aC b1]
 exact z2
theorem rY {H2:Hp} {e d:Addr} {o1 o2 o3:HO} (ne:d≠e):forget e (upd (upd (upd H2 e o1) e o2) d o3) d=some o3/\upd (upd (upd H2 e o1) e o2) d o3 e=some o2:=⟨by rw [eE ne,ak],by rw [aC ne.symm,ak]⟩
theorem JW {X bk ct:St->Hp->Prop} {rt:VK} {σ:St} {H:Hp} (h:X σ H):Ends.nx { nx:=X,rt:=rt,bk:=bk,ct:=ct } σ H:=h
theorem Em {ks:List Int} {c:Int->List Int} {M:Rks}:ks.filter (fun n=>!decide (n∈aO M) && (c n).all fun x=>decide (x∈aO M))=rdy ks c M:=rfl
abbrev NRK:List Str:=["doc","used","ranked","rank","ready","n"]
abbrev NRK':List Str:=["doc","used","ranked","rank","ready",""]
theorem KC {u0 u1 u2 u3 u4:Option V}:Hid NRK NRK' [u0,u1,u2,u3,u4,none]:=fun i y h1 h2=>by
 match i,h1,h2 with
 | 0,h1,h2=>exact absurd h1 h2
 | 1,h1,h2=>exact absurd h1 h2
 | 2,h1,h2=>exact absurd h1 h2
 | 3,h1,h2=>exact absurd h1 h2
 | 4,h1,h2=>exact absurd h1 h2
 | 5,_,_=>rfl
 | i+6,h1,_=>cases h1
section
variable {P:Program} {w:World} {K:Nh} {mg:Str->Option Value} {base:Heap} {f:Addr} {fd:FuncData} {CI fI:Addr} {fdI:FuncData}
theorem JX:FnScope ["self","ring"] ["self","ring"] (aA nQ):=⟨rfl,rfl,rfl,by decide +kernel,rfl,by decide +kernel,by decide +kernel⟩
theorem Iz (F:Fun K "__init__" "InRing.__init__" nQ f fd):FnOk P w K mg base CX0 1 f fd ["self","ring"] (Gs K):=by
 refine F.ok JX (fun vs H Q E h=>?_) (fun cdv A outer s H vs Q E hr h=>?_)
 ·obtain ⟨e,C,v,rfl,_⟩:=h
  rfl
 obtain ⟨e,C,v,rfl,he,hx,q⟩:=h
 refine ⟨_,aD (KD (pv 0) (pv 1) (by with_unfolding_all rfl)),?_⟩
 exact ⟨_,rfl,_,rfl,e,C,rfl,he,hx,fun d hd ne=>q d hd ne⟩
theorem scRk:FnScope NRK ["doc"] (aA gH):=⟨rfl,rfl,rfl,by decide +kernel,rfl,by decide +kernel,by decide +kernel⟩
set_option maxHeartbeats 16000000 in
theorem Mw (F:Fun K "ranks" "ranks" gH f fd) (T:Nm mg) (TT:TR K mg CI fI) (FI:FnOk P w K mg base CX0 1 fI fdI ["self","ring"] (Gs K)) (bI:Binds K fdI ["self","ring"] []) (GU:Def P w K mg base CX0 24 "uses" ["doc"] Dv) (GA:Def P w K mg base CX0 1 "all_ranked" ["numbers","ranked"] (spAR K)) (GR:Def P w K mg base CX0 1 "ring_among" ["used","ranked"] (Ge K)):FnOk P w K mg base (CXY P w) 25 f fd ["doc"] (Ac CI):=by
 refine F.okX scRk (fun vs H Q E h=>?_) (fun cdv A outer s H vs Q E hr h=>?_)
 ·obtain ⟨v,fo,rfl,_⟩:=h
  rfl
 obtain ⟨v,fo,rfl,hv,hW,q1,q2⟩:=h
 have hu1:(A.deeper (PyProof.Rows.envOfC "ranks" (aA gH) s.heap.objs.size f cdv)).units+1<cLine:=by have:=hr.un; omega
 refine ⟨_,ao (aF (i:=1) scRk.nd rfl (Or.inr rfl) (Jl GU no0 hr (by decide) (aj (pv 0) aq)))
  (ao (aF (i:=2) scRk.nd rfl (Or.inr rfl) iz)
  (ao (aF (i:=3) scRk.nd rfl (Or.inl rfl) au)
  (ao (qG PassesOwn.leaving (aN qe (aH j7 rfl T.len Ou (aj (pv 2) aq)) (aH j7 rfl T.len Ou (aj (pv 1) aq)) (bD _))
   (ao (Bh 5 (Jf NRK NRK' (aA gH) (by decide +kernel) (wV (i:=4) NRK' (aA gH) rfl (by decide +kernel) (by decide +kernel) (pv 1) (fun _ _ _ _ _=>oU (PW.pt (jT (gG (d8 hu1 (pv 6) (pv 2))) (jx (fB (uL (E:=E0) GA (hr.mono (by decide)) (JF no0) (aj (cH hu1 (pv 1) (pv 6) (fun _ _=>rfl)) (aj (pv 2) aq)))))))) (fun _ _ _ _ _=>pv 6) rfl (Or.inl rfl))))
   (ao (bJ (iK (Gr (pv 4) (fun _=>rfl))) (aD (Cg (E:=E) yE rfl rfl TT.mR TT.kR PySem.F.excBase_ValueError FI (hr.mono (by decide)) bI zp (aj (Jl GR no0 hr (by decide) (aj (pv 1) (aj (pv 2) aq))) aq))) aR)
   (ao (cj PassesOwn.leaving rfl (cu (pv 4)) (aK (i:=5) scRk.nd rfl (Or.inl rfl)) (aD (fJ hu1 (pv 2) (pv 5) (pv 3) rfl)))
   (aD (aF (i:=3) scRk.nd rfl (Or.inl rfl) (aG bW (pv 3) au)))))))
  (aD (aU (pv 2)))))),?_⟩
 have hb:=big
 refine ⟨_,rfl,v,fo,rfl,hv,hW,fun ua L C H1 U hL hC=>?_⟩
 obtain ⟨ws,hmn,hD⟩:=hW
 have hks:=rK hD
 have hnd:=uR hD
 have hcm:∀ n∈aV fo,∀ x,x∈cF L C n↔x∈usN fo n:=fun n hn x=>by
  rw [<- hL] at hn
  obtain ⟨i,hi⟩:=Og hn
  obtain ⟨a,ea⟩:=nF rfl hi
  obtain ⟨e,ee,_,he⟩:=bQ hC ea
  rw [Cw U.nk ea ee]
  exact he x
 have hcu:∀ n∈aV fo,∀ x∈cF L C n,x∈aV fo:=fun n hn x hx=>by
  have:=(hcm n hn x).mp hx
  have e:(mkD fo).take (mkD fo).length=mkD fo:=Oa
  unfold usN at this
  rw [<- e] at this
  exact qO hD x this
 have hsm:∀ e∈C,e.length<=1000:=fun e he=>by
  obtain ⟨j,hj⟩:=Og he
  obtain ⟨u,eu,p1,p2⟩:=aY hC hj
  have nd:e.Nodup:=p1.imp fun {x y} z=>by omega
  refine OJ (nd.length_le_of_subset (l₂:=aV fo) fun x hx=>?_) (by omega)
  have:=(p2 x).mp hx
  have e:(mkD fo).take (mkD fo).length=mkD fo:=Oa
  rw [<- e] at this
  exact qO hD x this
 have UD:UsD H1 ua L C (aV fo) (cF L C):=⟨U.dl,hL,fun i n a e e1 e2=>Cw U.nk e1 e2,hcu,by omega,hsm⟩
 have ekl:(uK L).length=(aV fo).length:=by unfold uK; rw [Ng,<- hL,Ng]
 generalize hksd:aV fo=ks at hks hnd hcm hcu UD ekl hL
 generalize hcd:cF L C=c at hcm hcu UD
 refine fun ra hra0=>?_
 have g2:=aB hra0 (.dK [])
 have e2:upd H1 ra (.dK []) ra=some (.dK (nK [])):=ak
 show (tSeq _ _:TS) _ _ (upd H1 ra (.dK []))
 generalize upd H1 ra (.dK [])=H2 at g2 e2
 have hne:ua≠ra:=fun e=>by rw [<- e,UD.dl.hr] at hra0; cases hra0
 have hraH:H ra=none:=U.same.free hra0
 refine jJ (fun mm σ' H'=>Same H1 H'/\∃ (M:Rks) (r:Int) (u4 u5:Option V),σ'=[some v,some (.ref ua),some (.ref ra),some (.int r),u4,u5]/\H' ra=some (.dK (nK M))/\RkI ks c M r/\mm=ks.length-M.length) (fun σ' H'=>Same H1 H'/\∃ (M:Rks) (r:Int) (u4 u5:Option V),σ'=[some v,some (.ref ua),some (.ref ra),some (.int r),u4,u5]/\H' ra=some (.dK (nK M))/\RkI ks c M r/\ks.length<=M.length) ?_ ?_ ?_
 ·exact ⟨_,g2,[],0,_,_,rfl,e2,RkI.start ks c,rfl⟩
 ·rintro R hR mm σ' H3 ⟨g3,M,r,u4,u5,rfl,hM,hI,rfl⟩
  have U3:=UD.keep g3
  have mk:M.length<=ks.length:=by
   have:=hI.nd.length_le_of_subset hI.sub
   unfold aO at this
   rw [Ng] at this
   exact this
  refine ⟨_,rfl,ra,_,rfl,.inl hM,_,rfl,ua,_,rfl,.inl U3.dl.hr,_,_,rfl,rfl,_,rfl,?_⟩
  rw [Gb,ekl]
  show (if (_:Bool)=true then _ else _)
  by_cases hlt:M.length<ks.length
  ·rw [if_pos (decide_eq_true (by omega))]
   refine ⟨fun σ2 H2=>Same H1 H2/\∃ (M2:Rks) (r:Int) (u4 u5:Option V),σ2=[some v,some (.ref ua),some (.ref ra),some (.int r),u4,u5]/\H2 ra=some (.dK (nK M2))/\RkI ks c M2 r/\M.length<M2.length,fun σ2 H2 ⟨g,M2,r2,w4,w5,e,h2,I2,l2⟩=>?_,?_⟩
   ·have mk2:M2.length<=ks.length:=by
     have:=I2.nd.length_le_of_subset I2.sub
     unfold aO at this
     rw [Ng] at this
     exact this
    exact ⟨_,by omega,g,M2,r2,w4,w5,e,h2,I2,rfl⟩
   refine fun Ok=>⟨_,rfl,ua,uK L,rfl,U3.dl.hr,fun ob hOk=>?_⟩
   have raf:upd H3 ua (.frz ob (.dK (uK L))) ra=some (.dK (nK M)):=by rw [aC hne.symm]; exact hM
   have lf:∀ {x:Addr} {zs:List V},H3 x=some (.lst zs)->upd H3 ua (.frz ob (.dK (uK L))) x=some (.lst zs):=fun {x zs} h=>by
    rw [aC (iu h U3.dl.hr (fun z=>nomatch z))]
    exact h
   refine rA (d:=ua) (ob:=ob) (kvs:=uK L) (fun i ys H'=>Same (upd H3 ua (.frz ob (.dK (uK L)))) H'/\ys=((ks.take i).filter fun n=>!decide (n∈aO M) && (c n).all fun x=>decide (x∈aO M)).map V.int) (by omega) ⟨Same.refl _,rfl⟩ (fun i ys H' hi h=>⟨h.1 _ _ ak,by rw [h.2,Ng]; exact OJ (Qx _ _) (by rw [Oc]; omega)⟩) ?_ ?_
   ·rintro i k x ys H4 hi ⟨g4,rfl⟩ KY KN k1 k2
    obtain ⟨n,a,ea,rfl,rfl⟩:=zm hi
    have en:ks[i]?=some n:=by rw [<- hL,NP,ea]; rfl
    obtain ⟨ca,hca,hcl,hcs⟩:=U3.get (Nv en)
    refine JT (!decide (n∈aO M)) ((c n).all fun x=>decide (x∈aO M)) (fun Q q=>⟨_,rfl,_,rfl,ra,_,rfl,.inl ⟨nK M,Sum.inl n,.inl (g4 _ _ raf),rfl,rfl⟩,_,rfl,?_⟩) (fun _ H5 g5 Q q=>⟨_,rfl,_,rfl,ua,_,rfl,.inl ⟨uK L,Sum.inl n,.inr ⟨ob,g5 _ _ (g4 _ _ ak)⟩,rfl,hca.symm⟩,_,rfl,ca,ra,c n,M,rfl,SqL.of (g5 _ _ (g4 _ _ (lf hcl))),by omega,.inl (g5 _ _ (g4 _ _ raf)),fun H6 g6=>⟨_,rfl,q H6 g6⟩⟩) _ (fun H5 g5=>?_)
    ·show (if (_:Bool)=true then _ else _)
     by_cases hp:(!decide (n∈aO M) && (c n).all fun x=>decide (x∈aO M))=true
     ·rw [if_pos hp]
      refine ⟨_,rfl,k1 _ _ ⟨g4.trans g5,?_⟩⟩
      rw [gM en,if_pos hp,NK]
      rfl
     ·rw [if_neg hp]
      refine k2 _ ⟨g4.trans g5,?_⟩
      rw [gM en,if_neg hp,N6]
    ·rw [Ab]
     exact q _ (Same.refl _)
   ·rintro ys H4 ⟨g4,rfl⟩ p hp
    rw [ekl,Oa,Em]
    have hf4:=g4 _ _ (show upd H3 ua (.frz ob (.dK (uK L))) ua=some (.frz ob (.dK (uK L))) from ak)
    have npu:p≠ua:=fun z=>by rw [z,hf4] at hp; cases hp
    refine ⟨ua,ob,uK L,hOk,by rw [aC npu.symm]; exact hf4,KC,?_⟩
    have g5:Same H3 (upd (upd H4 p (.lst ((rdy ks c M).map V.int))) ua (.dK (uK L))):=kJ U3.dl.hr (g4.trans (aB hp _))
    have e5:upd (upd H4 p (.lst ((rdy ks c M).map V.int))) ua (.dK (uK L)) p=some (.lst ((rdy ks c M).map V.int)):=by rw [aC npu,ak]
    have hp3:H3 p=none:=by
     cases z:H3 p with
     | none=>rfl
     | some o =>
      have:=g4 p o (by rw [aC npu]; exact z)
      rw [hp] at this
      cases this
    generalize upd (upd H4 p (.lst ((rdy ks c M).map V.int))) ua (.dK (uK L))=H5 at g5 e5
    have hM5:=g5 _ _ hM
    have U5:=U3.keep g5
    have npr:p≠ra:=fun z=>by rw [z,hM] at hp3; cases hp3
    refine JW ?_
    refine mY (rdy ks c M).isEmpty (fun Q q=>⟨_,rfl,_,.inl ⟨_,SqL.of e5,rfl⟩,?_⟩) (fun z H6 g6=>?_) (fun z H6 g6=>?_)
    ·have ee:(!(!((rdy ks c M).map V.int).isEmpty))=(rdy ks c M).isEmpty:=by cases rdy ks c M <;> rfl
     show Q (!(!((rdy ks c M).map V.int).isEmpty)) H5
     rw [ee]
     exact q _ (Same.refl _)
    ·have ez:rdy ks c M=[]:=List.isEmpty_iff.mp z
     refine ⟨_,rfl,_,rfl,ua,ra,L,C,ks,c,M,rfl,hne,U5.keep g6,g6 _ _ hM5,ez,hlt,fun way p7 H7 g7 hp7 hring=>⟨(by show 1<=sizeLine; decide),fun e he=>⟨e,CI,_,rfl,ak,TT.xR,fun d hd ne=>⟨rfl,d,(rY ne).2,q2 d p7 way _ (vH (((U.same.trans g3).trans (g5.trans g6)).trans g7) he hd ne) (rY ne).1 (vH (Same.refl _) he hd ne _ _ hp7) ?_⟩⟩⟩⟩
     have:=hring.congr hcm
     rw [hksd]
     exact this
    ·have nz:rdy ks c M≠[]:=fun e=>by rw [e] at z; cases z
     have e6:=g6 _ _ e5
     have hM6:=g6 _ _ hM5
     refine ⟨_,rfl,p,rfl,⟨_,SqL.of e6⟩,?_⟩
     have rnd:(rdy ks c M).Nodup:=hnd.sublist Tn
     have rl:(rdy ks c M).length<=ks.length:=Qx _ _
     refine cN (K:=K) (a:=p) (xs:=(rdy ks c M).map V.int) (fun i σ' H'=>Same H1 H'/\H' p=some (.lst ((rdy ks c M).map V.int))/\∃ y5,σ'=[some v,some (.ref ua),some (.ref ra),some (.int r),some (.ref p),y5]/\H' ra=some (.dK (nK (M++((rdy ks c M).take i).map fun n=>(n,r))))) ?_ (fun i σ' H' _ h=>SqL.of h.2.1) ?_ ?_
     ·refine ⟨g3.trans (g5.trans g6),e6,_,rfl,?_⟩
      rw [Xc,TJ,N6]
      exact hM6
     ·rintro i y σ' H7 hi ⟨g7,e7,y5,rfl,hM7⟩
      rw [NP] at hi
      cases en:(rdy ks c M)[i]? with
      | none=>rw [en] at hi; cases hi
      | some n =>
       rw [en] at hi
       cases hi
       have hn1:=(kO.mp (Nv en)).2.1
       have hn2:n∉aO (M++((rdy ks c M).take i).map fun n=>(n,r)):=fun z=>by
        unfold aO at z
        rw [NK,Pq] at z
        rcases Nz.mp z with z | z
        ·exact hn1 z
        ·have z:n∈((rdy ks c M).take i).map id:=z
         rw [List.map_id] at z
         exact qI rnd en z
       refine ⟨_,rfl,_,rfl,_,rfl,ra,_,rfl,DPut.k (k:=Sum.inl n) hM7 (by rw [Gb,Np,Ng,Oc]; omega),?_⟩
       rw [KR hn2]
       refine ⟨aL hra0 g7 _,by rw [aC npr]; exact e7,_,rfl,?_⟩
       rw [ak,Oe,en,NK,PN]
       rfl
     ·rintro σ' H7 ⟨g7,e7,y5,rfl,hM7⟩
      rw [Ng,Oa] at hM7
      refine ⟨_,rfl,_,_,rfl,rfl,?_⟩
      refine ⟨g7,_,r+1,_,_,rfl,hM7,hI.next hnd,?_⟩
      rw [Np,Ng]
      have:0<(rdy ks c M).length:=VJ.mpr nz
      omega
  ·rw [if_neg (by intro z; have:=of_decide_eq_true z; omega)]
   exact hR _ _ ⟨g3,M,r,u4,u5,rfl,hM,hI,by omega⟩
 ·rintro σ' H3 ⟨g3,M,r,u4,u5,rfl,hM,hI,hl⟩
  refine ⟨_,rfl,q1 ra M H3 (U.same.trans g3) hraH hM ?_⟩
  have:=(hI.done hnd hl).congr hcm
  rw [hksd]
  exact this
end
structure TG (K:Nh) (mg:Str->Option Value) (CI CB CC CG:Addr):Prop where
 mI:mg "InRing"=some (.ref CI)
 mB:mg "Both"=some (.ref CB)
 mC:mg "Caught"=some (.ref CC)
 mG:mg "GlossError"=some (.ref CG)
 mV:mg "ValueError"=none
 isi:mg "isinstance"=none
 x:XCls K CI
 e:PySem.W.exmOne K (.ref CI) (.ref CG)=some true
 i:PySem.W.kitOne K (.ref CI) (.ref CI)=some true
 v:PySem.W.kitOne K (.ref CI) (.type "ValueError")=some true
 n:PySem.W.kitAny K (.ref CI) [.ref CB,.ref CC]=some false
 na:NoAttr K CI "ring"
 hd:PySem.W.hasDictIn K CI=true
def m7:Sp:=fun vs H Q _=>∃ (v:V) (d:Addr) (fo:L2.F) (L:List (Int×Addr)) (C:List (List Int)),vs=[v,.ref d]/\fP H 0 fo v/\DocW fo/\UsR H d L C (aV fo) (usN fo)/\∀ H',Same H H'->Q (.bl true) H'
section
variable {P:Program} {w:World} {K:Nh} {mg:Str->Option Value} {base:Heap} {f:Addr} {fd:FuncData} {CI CB CC CG:Addr}
theorem scRR:FnScope ["_law_doc","_law_used_here","_law_good","_law_ring","e"] ["_law_doc","_law_used_here"] (aA gK):=⟨rfl,rfl,rfl,by decide +kernel,rfl,by decide +kernel,by decide +kernel⟩
set_option maxHeartbeats 8000000 in
theorem Bq (F:Fun K "_law_right" "_law_right" gK f fd) (T:TG K mg CI CB CC CG) (GR:Def P w K mg base (CXY P w) 25 "ranks" ["doc"] (Ac CI)) (GA:Def P w K mg base CX0 1 "_law_are_ranks" ["_law_found","_law_used_here"] EY) (GI:Def P w K mg base CX0 1 "_law_is_ring" ["_law_found","_law_used_here"] wF):FnOk P w K mg base CX0 26 f fd ["_law_doc","_law_used_here"] m7:=by
 refine F.ok scRR (fun vs H Q E h=>?_) (fun cdv A outer s H vs Q E hr h=>?_)
 ·obtain ⟨v,d,fo,L,C,rfl,_⟩:=h
  rfl
 obtain ⟨v,ud,fo,L,C,rfl,hv,hW,U,q⟩:=h
 refine ⟨_,ao (aF (i:=2) scRR.nd rfl (Or.inl rfl) jf)
  (ao (aF (i:=3) scRR.nd rfl (Or.inl rfl) Eh)
  (ao (Im (i:=4) (Ex:=fun Cv d H'=>Same H H'/\Cv=.ref CI/\∃ (d0 p:Addr) (way:List Int),d=some d0/\H' d0=some (.xd [("ring",.ref p)])/\H' p=some (.tup (way.map V.int))/\RingOk (aV fo) (usN fo) way) (Φ:=fun σ=>σ=[some v,some (.ref ud),some (.bl false),some .non,none]) rfl rfl rfl T.mG scRR.nd rfl rfl rfl
   (fun pn E' hp=>aD (aF (i:=2) scRR.nd rfl (Or.inl rfl) (aX GA (hr.mono (by decide)) (aj (G7 GR hr hp (aj (pv 0) aq)) (aj (pv 1) aq)))))
   (fun e=>ao (aF (i:=3) scRR.nd rfl (Or.inl rfl) (bh aq))
    (aD (bJ (PW.pt (jT (fB (Ea (K:=K) rfl rfl T.isi O2 (aj (pv 4) (aj (fG (v:=.ref CI) rfl T.mI rfl) aq)))) (jT (fB (Ea (K:=K) rfl rfl T.isi O2 (aj (pv 4) (aj (iG (v:=.ty "ValueError") rfl T.mV PyProof.Rows.Boot.«ValueError» rfl) aq)))) (jx (iK (fB (J6 (K:=K) rfl rfl T.isi O2 (aj (pv 4) (aj (bh (aj (fG (v:=.ref CB) rfl T.mB rfl) (aj (fG (v:=.ref CC) rfl T.mC rfl) aq))) aq))))))))) (aD (aF (i:=3) scRR.nd rfl (Or.inl rfl) (CK (K:=K) rfl (pv 4) rfl))) aR))))
  (aD (aU (Lx (pv 2) (yU (Gf (o8 Jb (pv 3) Eh (bD _)) (yU (aX GI (hr.mono (by decide)) (aj (pv 3) (aj (pv 1) aq))))))))))),?_⟩
 obtain ⟨ws,hmn,hD⟩:=id hW
 have hks:=rK hD
 refine ⟨fun Cv d H' σ' e hE hΦ hl he=>?_,?_⟩
 ·obtain ⟨g,rfl,d0,p,way,rfl,hd0,hp,hring⟩:=hE
  subst hΦ
  refine ⟨CI,rfl,T.e,?_⟩
  have gx:=aB he (.ext (IsExcD e CI (some d0)))
  have ex:upd H' e (.ext (IsExcD e CI (some d0))) e=some (.ext (IsExcD e CI (some d0))):=ak
  generalize upd H' e (.ext (IsExcD e CI (some d0)))=H2 at gx ex ⊢
  refine ⟨(by show 0<=sizeLine; decide),fun p1 hp1=>?_⟩
  have g1:=aB hp1 (.tup [])
  have x1:=g1 _ _ ex
  generalize upd H2 p1 (.tup [])=H3 at g1 x1 ⊢
  refine ⟨_,rfl,e,CI,some d0,_,_,true,rfl,x1,rfl,T.x,T.i,_,rfl,iteT ?_⟩
  refine ⟨_,rfl,e,CI,some d0,_,_,true,rfl,x1,rfl,T.x,T.v,_,rfl,iteT ?_⟩
  refine ⟨_,rfl,(by show 2<=sizeLine; decide),fun p2 hp2=>?_⟩
  have g2:=aB hp2 (.tup [.ref CB,.ref CC])
  have x2:=g2 _ _ x1
  have e2:upd H3 p2 (.tup [.ref CB,.ref CC]) p2=some (.tup ([CB,CC].map V.ref)):=ak
  generalize upd H3 p2 (.tup [.ref CB,.ref CC])=H4 at g2 x2 e2 ⊢
  have gA:=(gx.trans g1).trans g2
  refine ⟨e,CI,some d0,p2,[CB,CC],false,rfl,x2,e2,T.x,T.n,_,rfl,iteT ?_⟩
  refine ⟨_,rfl,e,CI,d0,_,.ref p,rfl,x2,T.x,T.na,T.hd,gA _ _ hd0,rfl,?_⟩
  have wl:way.length<=1000:=by
   have:=hring.nd.length_le_of_subset hring.mem
   omega
  refine ⟨_,rfl,_,rfl,iteF ?_⟩
  refine ⟨_,rfl,rfl,_,rfl,iteT ?_⟩
  exact ⟨_,rfl,_,rfl,p,ud,way,L,C,aV fo,usN fo,rfl,gA _ _ hp,U.keep (g.trans gA),hring,wl,fun H5 g5=>q H5 ((g.trans gA).trans g5)⟩
 ·refine ⟨rfl,_,rfl,v,fo,rfl,hv,hW,fun r M H1 g1 hr0 er hM=>?_,fun d0 p way H1 g1 hd0 hp hring=>⟨g1,rfl,d0,p,way,rfl,hd0,hp,hring⟩⟩
  have nrd:r≠ud:=fun e=>by rw [e,U.dl.hr] at hr0; cases hr0
  refine ⟨_,rfl,r,ud,M,L,C,aV fo,usN fo,rfl,nrd,er,U.keep g1,hM,fun H2 g2=>?_⟩
  exact ⟨_,rfl,_,rfl,iteT (q H2 (g1.trans g2))⟩
end
abbrev NL43:List Str:=["_law_script","_law_rows_here","_law_doc","_law_used_here","_law_one","_law_other"]
theorem tL:FnScope NL43 ["_law_script"] (aA cO):=⟨rfl,rfl,rfl,by decide +kernel,rfl,by decide +kernel,by decide +kernel⟩
def stL (i:Nat):Stmt:=(aM cO).getD i (.Pass ⟨0,0,0,0⟩)
def zH (K:Nh):Sp:=fun vs H Q _=>∃ (a:Addr) (ns:List Int),vs=[.ref a]/\SqL K H a (ns.map V.int)/\ns.length<=63/\∀ H',Q (.bl true) H'
theorem G8 {R:List Rw} {p:List Int} (h:PathOk R p):p≠[]:=fun e=>by
 obtain ⟨_,z | ⟨q,n,_,z⟩⟩:=h
 ·rw [e] at z; cases z
 ·rw [e] at z
  have:=congrArg List.length z
  simp at this
theorem Ef {z:Const} {k:Nat} {p:Pos} {es:List Expr} {env:Env}:starEach (.Constant z k p::es) env=(false,eval (.Constant z k p) env)::starEach es env:=rfl
theorem Kc {l:List Expr} {k:Nat} {p:Pos} {es:List Expr} {env:Env}:starEach (.Tuple l k p::es) env=(false,eval (.Tuple l k p) env)::starEach es env:=rfl
section
variable {X:Cx}
theorem fK {x:Str} {j:Nat} {p:Pos} {es:List Expr} {t:TA} (h:PA X es t):PA X (.Constant (.str x) j p::es) (cX (tC (.str x)) t):=aj cJ h Ef
theorem Ez {x:Int} {j:Nat} {p:Pos} {es:List Expr} {t:TA} (h:PA X es t):PA X (.Constant (.int x) j p::es) (cX (tC (.int x)) t):=aj au h Ef
theorem lF {l:List Expr} {k:Nat} {p:Pos} {es:List Expr} {t u:TA} (g:PA X l u) (h:PA X es t):PA X (.Tuple l k p::es) (cX (tTup u) t):=aj (bh g) h Kc
end
section
variable {P:Program} {w:World} {K:Nh} {mg:Str->Option Value} {base:Heap} {f:Addr} {fd:FuncData}
variable {cdv:Value} {A:Around} {outer:List Env} {s:Shared} {H:Hp} {E:XK}
set_option maxHeartbeats 2000000 in
theorem law0 {k0:Nat} (hr:Room k0 (A.deeper (PyProof.Rows.envOfC "law" (aA cO) s.heap.objs.size f cdv))) (h0:5<=k0) (GR:Def P w K mg base CX0 5 "_law_rows" ["_law_script","_law_most"] (uF K)):∃ t,PS (cxOf CX0 P w K mg base NL43 "law" (aA cO) f cdv A outer s H E).nox (stL 0) t /\
  ∀ (a:Addr) (ns:List Int) (H1:Hp) (D:Ends) (z1 z2 z3 z4 z5:Option V),SqL K H1 a (ns.map V.int)->ns.length<=63->(∀ (R:List Rw) (path:List Int) (zs:List Str) r xs H2,Same H1 H2->H2 r=some (.lst xs)->Paired (rwU H2) (dI ns R zs) xs->RwsOk ns R path->R.length<=20->1<=zs.length->zs.length<=32->(∀ z∈zs,Wd z)->D.nx [some (.ref a),some (.ref r),z2,z3,z4,z5] H2)->t D [some (.ref a),z1,z2,z3,z4,z5] H1:=by
 refine ⟨_,aF (i:=1) tL.nd rfl (Or.inl rfl) (aX GR (hr.mono (by omega)) (aj (pv 0) (aj au aq))),fun a ns H1 D z1 z2 z3 z4 z5 hS h63 q=>?_⟩
 exact ⟨_,rfl,a,ns,rfl,hS,h63,fun R path zs r xs H2 g2 _ er hR hO h20 q1 q2 q3=>q R path zs r xs H2 g2 er hR hO h20 q1 q2 q3⟩
set_option maxHeartbeats 2000000 in
theorem law1 {k0:Nat} (hr:Room k0 (A.deeper (PyProof.Rows.envOfC "law" (aA cO) s.heap.objs.size f cdv))) (h0:5<=k0) (GD:Def P w K mg base CX0 1 "_law_made" ["_law_rows_here"] yt):∃ t,PS (cxOf CX0 P w K mg base NL43 "law" (aA cO) f cdv A outer s H E).nox (stL 1) t /\
  ∀ (ra:Addr) (R:List Rw) (xs:List V) (H1:Hp) (D:Ends) (z0 z2 z3 z4 z5:Option V),H1 ra=some (.lst xs)->Paired (rwU H1) R xs->(∀ r∈R,r.1≠[])->(∀ p t,((p,Sum.inr t):Rw)∈R->lW t)->R.length<=1000->(∀ u H2,Same H1 H2->fP H2 0 (L2.F.of (bld R 0)) u->D.nx [z0,some (.ref ra),some u,z3,z4,z5] H2)->t D [z0,some (.ref ra),z2,z3,z4,z5] H1:=by
 refine ⟨_,aF (i:=2) tL.nd rfl (Or.inl rfl) (aX GD (hr.mono (by omega)) (aj (pv 1) aq)),fun ra R xs H1 D z0 z2 z3 z4 z5 h1 h2 h3 h4 h5 q=>?_⟩
 exact ⟨_,rfl,ra,xs,R,rfl,h1,h2,h3,h4,h5,fun u H2 g2 hv=>q u H2 g2 hv⟩
set_option maxHeartbeats 2000000 in
theorem law2 {k0:Nat} (hr:Room k0 (A.deeper (PyProof.Rows.envOfC "law" (aA cO) s.heap.objs.size f cdv))) (h0:23<=k0) (GU:Def P w K mg base CX0 1 "_law_used" ["_law_rows_here","_law_found"] vA) (GM:Def P w K mg base CX0 23 "marks" ["doc"] zy):∃ t,PS (cxOf CX0 P w K mg base NL43 "law" (aA cO) f cdv A outer s H E).nox (stL 2) t /\
  ∀ (ra:Addr) (R:List Rw) (xs:List V) (v:V) (fo:L2.F) (H1:Hp) (D:Ends) (z0 z3 z4 z5:Option V),H1 ra=some (.lst xs)->Paired (rwU H1) R xs->R.length<=1000->(aV fo).Perm (dF R)->fP H1 0 fo v->DocW fo->(∀ du L C H2,Same H1 H2->UsR H2 du L C (aV fo) (usN fo)->D.nx [z0,some (.ref ra),some v,some (.ref du),z4,z5] H2)->t D [z0,some (.ref ra),some v,z3,z4,z5] H1:=by
 refine ⟨_,aF (i:=3) tL.nd rfl (Or.inl rfl) (aX GU (hr.mono (by omega)) (aj (pv 1) (aj (aX GM (hr.mono (by omega)) (aj (pv 2) aq)) aq))),fun ra R xs v fo H1 D z0 z3 z4 z5 h1 h2 h5 hpm hv hW q=>?_⟩
 obtain ⟨ws,hmn,hD⟩:=hW
 have hnd:=hpm.nodup_iff.mp (uR hD)
 refine ⟨_,rfl,_,rfl,v,fo,[],ws,rfl,hv,hD,hmn,fun mr ys H2 g2 hmr emr hms=>?_⟩
 refine ⟨ra,mr,xs,ys,R,mkD fo,rfl,g2 _ _ h1,Paired.mapP h2 fun _ _ z=>z.mono g2.t,h5,hnd,emr,hms,ur hD,fun n hn k=>mz hD (hpm.mem_iff.mpr hn) k,fun du L C H3 U hL hC=>?_⟩
 refine q du L C H3 (g2.trans U.same) ⟨U.dl,by rw [hL]; exact hpm.symm,fun i n a e e1 e2 x=>?_,?_,fun e he=>?_⟩
 ·obtain ⟨e',ee,hee⟩:=bQ hC e1
  rw [e2] at ee
  cases ee
  have hee:e=bG n (mkD fo):=hee
  rw [hee]
  exact Iff.rfl
 ·have h1:=congrArg List.length hL
  have h2:=uf R
  rw [Ng] at h1
  omega
 ·obtain ⟨j,hj⟩:=Og he
  obtain ⟨u,eu,hu⟩:=aY hC hj
  have hu:e=bG u.1 (mkD fo):=hu
  have hm:u.1∈aV fo:=hpm.mem_iff.mpr (by rw [<- hL]; exact Oq.mpr ⟨u,Nv eu,rfl⟩)
  have e0:(mkD fo).take (mkD fo).length=mkD fo:=Oa
  rw [hu,<- e0]
  exact OJ (mz hD hm _) (by decide)
set_option maxHeartbeats 2000000 in
theorem law3 {k0:Nat} (hr:Room k0 (A.deeper (PyProof.Rows.envOfC "law" (aA cO) s.heap.objs.size f cdv))) (h0:26<=k0) (GR:Def P w K mg base CX0 26 "_law_right" ["_law_doc","_law_used_here"] m7):∃ t,PS (cxOf CX0 P w K mg base NL43 "law" (aA cO) f cdv A outer s H E).nox (stL 3) t /\
  ∀ (v:V) (du:Addr) (fo:L2.F) (L:List (Int×Addr)) (C:List (List Int)) (H1:Hp) (D:Ends) (z0 z1 z4 z5:Option V),fP H1 0 fo v->DocW fo->UsR H1 du L C (aV fo) (usN fo)->(∀ H2,Same H1 H2->D.nx [z0,z1,some v,some (.ref du),z4,z5] H2)->t D [z0,z1,some v,some (.ref du),z4,z5] H1:=by
 refine ⟨_,bJ (iK (fB (aX GR (hr.mono (by omega)) (aj (pv 2) (aj (pv 3) aq))))) (aD (aU jf)) aR,fun v du fo L C H1 D z0 z1 z4 z5 hv hW U q=>?_⟩
 refine wU false (qd true fun Q qq=>⟨_,rfl,_,rfl,v,du,fo,L,C,rfl,hv,hW,U,fun H2 g2=>⟨_,rfl,qq H2 g2⟩⟩) (fun z=>by cases z) (fun _ H2 g2=>q H2 g2)
end
def rgA:L2.F:=.tell 4 "all" ["a","b"] [("","s")] ["c"] (.tell 9 "all" ["c"] [] ["x","a","bs","x"] .nil)
theorem Jh:DocW rgA:=by
 have tw:∀ t∈rgA.ord,t=Th.tell 4 "all" ["a","b"] [("","s")] ["c"]∨t=Th.tell 9 "all" ["c"] [] ["x","a","bs","x"]:=fun t ht=>by
  have ht:t∈[Th.tell 4 "all" ["a","b"] [("","s")] ["c"],Th.tell 9 "all" ["c"] [] ["x","a","bs","x"]]:=ht
  simpa using ht
 refine ⟨["a","b","c","x","bs"],⟨fun x hx=>?_⟩,⟨by decide,by decide +kernel,by decide,?_,?_⟩⟩
 ·have:x="a"∨x="b"∨x="c"∨x="x"∨x="bs":=by simpa using hx
  rcases this with rfl | rfl | rfl | rfl | rfl <;> exact ⟨by decide +kernel,by decide +kernel,by unfold allGood; decide +kernel⟩
 ·intro t ht
  rcases tw t ht with rfl | rfl
  ·refine ⟨by decide +kernel,by decide,fun z hz=>?_,by decide,⟨["a"],"b",rfl,["bs"],.cons ⟨"b",by decide +kernel,by decide +kernel⟩ .nil,by decide +kernel,fun o ho=>?_⟩,by decide,by decide,fun z hz=>?_⟩
   ·have:z="a"∨z="b":=by simpa using hz
    rcases this with rfl | rfl <;> simp
   ·rw [Nq.mp ho]; simp
   ·rw [Nq.mp hz]; simp
  ·refine ⟨by decide +kernel,by decide,fun z hz=>?_,by decide,⟨[],"c",rfl,[],.nil,by simp,fun _ z=>by cases z⟩,by decide,by decide,fun z hz=>?_⟩
   ·rw [Nq.mp hz]; simp
   ·have:z="x"∨z="a"∨z="bs"∨z="x":=by simpa using hz
    rcases this with rfl | rfl | rfl | rfl <;> simp
 ·intro t ht
  rcases tw t ht with rfl | rfl <;> decide
theorem Mp:usN rgA 4=[9]:=by decide +kernel
theorem Ls:usN rgA 9=[4]:=by decide +kernel
theorem M5 {H:Hp} {d x y:Addr} (hd:Dl H d [(4,x),(9,y)] [[9],[4]]):UsR H d [(4,x),(9,y)] [[9],[4]] (aV rgA) (usN rgA):=by
 refine ⟨hd,List.Perm.refl _,fun i n a e e1 e2 z=>?_,(by show 2<=1000; decide),fun e he=>?_⟩
 ·match i,e1,e2 with
  | 0,e1,e2 =>
   cases e1
   cases e2
   rw [Mp]
  | 1,e1,e2 =>
   cases e1
   cases e2
   rw [Ls]
  | i+2,e1,_=>cases e1
 ·have:e=[9]∨e=[4]:=by simpa using he
  rcases this with rfl | rfl <;> decide
def uT4:TA:=cX (tC (.str "tell")) (cX (tC (.int 4)) (cX (tC (.str "all")) (cX (tTup (cX (tC (.str "a")) (cX (tC (.str "b")) tNil))) (cX (tTup (cX (tTup (cX (tC (.str "")) (cX (tC (.str "s")) tNil))) tNil)) (cX (tTup (cX (tC (.str "c")) tNil)) tNil)))))
def uT9:TA:=cX (tC (.str "tell")) (cX (tC (.int 9)) (cX (tC (.str "all")) (cX (tTup (cX (tC (.str "c")) tNil)) (cX (tTup tNil) (cX (tTup (cX (tC (.str "x")) (cX (tC (.str "a")) (cX (tC (.str "bs")) (cX (tC (.str "x")) tNil))))) tNil)))))
def eT4 (a1 a2 a3 a4 a5 a6 a7 a8 a9 a10 a11 a12:Pos):List Expr:=[.Constant (.str "tell") 0 a1,.Constant (.int 4) 0 a2,.Constant (.str "all") 0 a3,.Tuple [.Constant (.str "a") 0 a4,.Constant (.str "b") 0 a5] 0 a6,.Tuple [.Tuple [.Constant (.str "") 0 a7,.Constant (.str "s") 0 a8] 0 a9] 0 a10,.Tuple [.Constant (.str "c") 0 a11] 0 a12]
def eT9 (a1 a2 a3 a4 a5 a6 a7 a8 a9 a10 a11:Pos):List Expr:=[.Constant (.str "tell") 0 a1,.Constant (.int 9) 0 a2,.Constant (.str "all") 0 a3,.Tuple [.Constant (.str "c") 0 a4] 0 a5,.Tuple [] 0 a6,.Tuple [.Constant (.str "x") 0 a7,.Constant (.str "a") 0 a8,.Constant (.str "bs") 0 a9,.Constant (.str "x") 0 a10] 0 a11]
section
variable {X:Cx}
theorem K3 {a1 a2 a3 a4 a5 a6 a7 a8 a9 a10 a11 a12:Pos}:PA X (eT4 a1 a2 a3 a4 a5 a6 a7 a8 a9 a10 a11 a12) uT4:=by
 unfold eT4 uT4
 refine fK ?_
 refine Ez ?_
 refine fK ?_
 refine lF (fK (fK aq)) ?_
 refine lF (lF (fK (fK aq)) aq) ?_
 exact lF (fK aq) aq
theorem K4 {a1 a2 a3 a4 a5 a6 a7 a8 a9 a10 a11:Pos}:PA X (eT9 a1 a2 a3 a4 a5 a6 a7 a8 a9 a10 a11) uT9:=by
 unfold eT9 uT9
 refine fK ?_
 refine Ez ?_
 refine fK ?_
 refine lF (fK aq) ?_
 refine lF aq ?_
 refine lF ?_ aq
 refine fK ?_
 refine fK ?_
 refine fK ?_
 exact fK aq
end
theorem LK {σ:St} {H:Hp} {Q:VK} (q:∀ v H',Same H H'->tellR H' 4 "all" ["a","b"] [("","s")] ["c"] v->Q v H'):tTup uT4 σ H Q:=by
 refine ⟨(by show 2<=sizeLine; decide),fun a1 k1=>⟨(by show 2<=sizeLine; decide),fun a2 k2=>⟨(by show 1<=sizeLine; decide),fun a3 k3=>⟨(by show 1<=sizeLine; decide),fun a4 k4=>⟨(by show 6<=sizeLine; decide),fun a5 k5=>?_⟩⟩⟩⟩⟩
 have f1:=aB k1 (.tup [.str "a",.str "b"])
 have f2:=aB k2 (.tup [.str "",.str "s"])
 have f3:=aB k3 (.tup [.ref a2])
 have f4:=aB k4 (.tup [.str "c"])
 have f5:=aB k5 (.tup [.str "tell",.int 4,.str "all",.ref a1,.ref a3,.ref a4])
 have q4:=f5 _ _ (show _=some (.tup [.str "c"]) from ak)
 have g4:=f4.trans f5
 have q3:=g4 _ _ (show _=some (.tup [.ref a2]) from ak)
 have g3:=f3.trans g4
 have q2:=g3 _ _ (show _=some (.tup [.str "",.str "s"]) from ak)
 have g2:=f2.trans g3
 have q1:=g2 _ _ (show _=some (.tup [.str "a",.str "b"]) from ak)
 exact q _ _ (f1.trans g2) ⟨a5,.ref a1,.ref a3,.ref a4,rfl,ak,⟨a1,rfl,q1⟩,⟨a3,[.ref a2],rfl,q3,.cons ⟨a2,rfl,q2⟩ .nil⟩,⟨a4,rfl,q4⟩⟩
theorem Mv {σ:St} {H:Hp} {Q:VK} (q:∀ v H',Same H H'->tellR H' 9 "all" ["c"] [] ["x","a","bs","x"] v->Q v H'):tTup uT9 σ H Q:=by
 refine ⟨(by show 1<=sizeLine; decide),fun a1 k1=>⟨(by show 0<=sizeLine; decide),fun a2 k2=>⟨(by show 4<=sizeLine; decide),fun a3 k3=>⟨(by show 6<=sizeLine; decide),fun a4 k4=>?_⟩⟩⟩⟩
 have f1:=aB k1 (.tup [.str "c"])
 have f2:=aB k2 (.tup [])
 have f3:=aB k3 (.tup [.str "x",.str "a",.str "bs",.str "x"])
 have f4:=aB k4 (.tup [.str "tell",.int 9,.str "all",.ref a1,.ref a2,.ref a3])
 have q3:=f4 _ _ (show _=some (.tup [.str "x",.str "a",.str "bs",.str "x"]) from ak)
 have g3:=f3.trans f4
 have q2:=g3 _ _ (show _=some (.tup []) from ak)
 have g2:=f2.trans g3
 have q1:=g2 _ _ (show _=some (.tup [.str "c"]) from ak)
 exact q _ _ (f1.trans g2) ⟨a4,.ref a1,.ref a2,.ref a3,rfl,ak,⟨a1,rfl,q1⟩,⟨a2,[],rfl,q2,.nil⟩,⟨a3,rfl,q3⟩⟩
theorem Kl:∃ (p c a0 a1 a2 a3 a4 a5 a6 a7 a8 a9 a10 a11 a12:Pos),stL 4=.Assign [.Name "_law_one" p] (.Tuple (eT4 a1 a2 a3 a4 a5 a6 a7 a8 a9 a10 a11 a12) 0 a0) c :=
 ⟨_,_,_,_,_,_,_,_,_,_,_,_,_,_,_,rfl⟩
theorem JM:∃ (p c a0 a1 a2 a3 a4 a5 a6 a7 a8 a9 a10 a11:Pos),stL 5=.Assign [.Name "_law_other" p] (.Tuple (eT9 a1 a2 a3 a4 a5 a6 a7 a8 a9 a10 a11) 0 a0) c :=
 ⟨_,_,_,_,_,_,_,_,_,_,_,_,_,_,rfl⟩
theorem sw_t {l:List Expr} {k:Nat} {p:Pos} {t:Option Expr} {n:Nat} {env:Env}:swapsWith (.Tuple l k p) t n env=pure false:=rfl
section
variable {P:Program} {w:World} {K:Nh} {mg:Str->Option Value} {base:Heap} {f:Addr} {fd:FuncData}
variable {cdv:Value} {A:Around} {outer:List Env} {s:Shared} {H:Hp} {E:XK}
set_option maxHeartbeats 400000 in
theorem Ii {ex:Expr} {te:TE} {p c:Pos} (h:PE (cxOf CX0 P w K mg base NL43 "law" (aA cO) f cdv A outer s H E).nox ex te) (hs:swapsWith ex (some (.Name "_law_one" p)) c.line (cxOf CX0 P w K mg base NL43 "law" (aA cO) f cdv A outer s H E).nox.env=pure false):PS (cxOf CX0 P w K mg base NL43 "law" (aA cO) f cdv A outer s H E).nox (.Assign [.Name "_law_one" p] ex c) (tAsg te (kY 4)) :=
 aF (i:=4) tL.nd rfl (Or.inl rfl) h hs
set_option maxHeartbeats 400000 in
theorem IW {ex:Expr} {te:TE} {p c:Pos} (h:PE (cxOf CX0 P w K mg base NL43 "law" (aA cO) f cdv A outer s H E).nox ex te) (hs:swapsWith ex (some (.Name "_law_other" p)) c.line (cxOf CX0 P w K mg base NL43 "law" (aA cO) f cdv A outer s H E).nox.env=pure false):PS (cxOf CX0 P w K mg base NL43 "law" (aA cO) f cdv A outer s H E).nox (.Assign [.Name "_law_other" p] ex c) (tAsg te (kY 5)) :=
 aF (i:=5) tL.nd rfl (Or.inl rfl) h hs
set_option maxHeartbeats 400000 in
theorem LR:PS (cxOf CX0 P w K mg base NL43 "law" (aA cO) f cdv A outer s H E).nox (stL 4) (tAsg (tTup uT4) (kY 4)):=by
 obtain ⟨p,c,a0,a1,a2,a3,a4,a5,a6,a7,a8,a9,a10,a11,a12,e⟩:=Kl
 rw [e]
 have h:=@K3 (cxOf CX0 P w K mg base NL43 "law" (aA cO) f cdv A outer s H E).nox a1 a2 a3 a4 a5 a6 a7 a8 a9 a10 a11 a12
 generalize eT4 a1 a2 a3 a4 a5 a6 a7 a8 a9 a10 a11 a12=l4 at h ⊢
 exact Ii (bh h) sw_t
set_option maxHeartbeats 400000 in
theorem Ml:PS (cxOf CX0 P w K mg base NL43 "law" (aA cO) f cdv A outer s H E).nox (stL 5) (tAsg (tTup uT9) (kY 5)):=by
 obtain ⟨p,c,a0,a1,a2,a3,a4,a5,a6,a7,a8,a9,a10,a11,e⟩:=JM
 rw [e]
 have h:=@K4 (cxOf CX0 P w K mg base NL43 "law" (aA cO) f cdv A outer s H E).nox a1 a2 a3 a4 a5 a6 a7 a8 a9 a10 a11
 generalize eT9 a1 a2 a3 a4 a5 a6 a7 a8 a9 a10 a11=l4 at h ⊢
 exact IW (bh h) sw_t
theorem law4:∃ t,PS (cxOf CX0 P w K mg base NL43 "law" (aA cO) f cdv A outer s H E).nox (stL 4) t /\
  ∀ (H1:Hp) (D:Ends) (σ:St),(∀ v H2,Same H1 H2->tellR H2 4 "all" ["a","b"] [("","s")] ["c"] v->D.nx (σ.set 4 (some v)) H2)->t D σ H1 :=
 ⟨_,@LR P w K mg base f cdv A outer s H E,fun H1 D σ q=>LK fun v H2 g2 hv=>q v H2 g2 hv⟩
theorem law5:∃ t,PS (cxOf CX0 P w K mg base NL43 "law" (aA cO) f cdv A outer s H E).nox (stL 5) t /\
  ∀ (H1:Hp) (D:Ends) (σ:St),(∀ v H2,Same H1 H2->tellR H2 9 "all" ["c"] [] ["x","a","bs","x"] v->D.nx (σ.set 5 (some v)) H2)->t D σ H1 :=
 ⟨_,@Ml P w K mg base f cdv A outer s H E,fun H1 D σ q=>Mv fun v H2 g2 hv=>q v H2 g2 hv⟩
theorem Iu {x y:V}:nM [] [((Sum.inl 4:Key),x),(Sum.inl 9,y)]=[((Sum.inl 4:Key),x),(Sum.inl 9,y)]:=by
 show putK (putK [] (Sum.inl 4:Key) x) (Sum.inl 9) y=_
 rw [jE (kvs:=[]) x Et]
 rw [jE y (by rw [Tj,cA (by show ¬ (Sum.inl 4:Key)=Sum.inl 9; decide)]; rfl)]
 rfl
set_option maxHeartbeats 4000000 in
theorem law6 {k0:Nat} (hr:Room k0 (A.deeper (PyProof.Rows.envOfC "law" (aA cO) s.heap.objs.size f cdv))) (h0:26<=k0) (GR:Def P w K mg base CX0 26 "_law_right" ["_law_doc","_law_used_here"] m7):∃ t,PS (cxOf CX0 P w K mg base NL43 "law" (aA cO) f cdv A outer s H E).nox (stL 6) t /\
  ∀ (v x y:V) (du:Addr) (fo:L2.F) (L:List (Int×Addr)) (C:List (List Int)) (H1:Hp) (D:Ends) (z0 z1:Option V),fP H1 0 fo v->DocW fo->UsR H1 du L C (aV fo) (usN fo)->tellR H1 4 "all" ["a","b"] [("","s")] ["c"] x->tellR H1 9 "all" ["c"] [] ["x","a","bs","x"] y->(∀ H2,D.rt (.bl true) H2)->t D [z0,z1,some v,some (.ref du),some x,some y] H1:=by
 refine ⟨_,aU (Gf (aX GR (hr.mono (by omega)) (aj (bh (aj cJ (aj au (aj (bh (aj (pv 4) (aj (pv 5) aq))) aq)))) (aj (G4 (wO au (cD (aj au aq)) (wO au (cD (aj au aq)) G3)) rfl rfl (fun z=>by cases z) (by decide)) aq))) (yU (aX GR (hr.mono (by omega)) (aj (pv 2) (aj (pv 3) aq))))),fun v x y du fo L C H1 D z0 z1 hv hW U hx hy q=>?_⟩
 refine ⟨_,rfl,_,rfl,(by show 2<=sizeLine; decide),fun a1 k1=>⟨(by show 3<=sizeLine; decide),fun a2 k2=>?_⟩⟩
 have f1:=aB k1 (.tup [x,y])
 have f2:=aB k2 (.tup [.str "part",.int 0,.ref a1])
 have e1:=f2 _ _ (show upd H1 a1 (.tup [x,y]) a1=some (.tup [x,y]) from ak)
 have e2:upd (upd H1 a1 (.tup [x,y])) a2 (.tup [.str "part",.int 0,.ref a1]) a2=some (.tup [.str "part",.int 0,.ref a1]):=ak
 have g2:=f1.trans f2
 generalize upd (upd H1 a1 (.tup [x,y])) a2 (.tup [.str "part",.int 0,.ref a1])=H2 at e1 e2 g2
 have hp2:fP H2 0 rgA (.ref a2):=⟨a2,a1,[x,y],rfl,e2,e1,x,[y],rfl,hx.mono g2.t,y,[],rfl,hy.mono g2.t,rfl⟩
 intro d hd
 have g4:=aB hd (.dK [])
 have e4:upd H2 d (.dK []) d=some (.dK []):=ak
 generalize upd H2 d (.dK [])=H4 at g4 e4
 refine ⟨(by show 1<=sizeLine; decide),fun l1 hl1=>?_⟩
 have g5:=aB hl1 (.lst [.int 9])
 have e5:upd H4 l1 (.lst [.int 9]) l1=some (.lst [.int 9]):=ak
 generalize upd H4 l1 (.lst [.int 9])=H5 at g5 e5
 refine ⟨(by show 1<=sizeLine; decide),fun l2 hl2=>?_⟩
 have g6:=aB hl2 (.lst [.int 4])
 have e6:upd H5 l2 (.lst [.int 4]) l2=some (.lst [.int 4]):=ak
 generalize upd H5 l2 (.lst [.int 4])=H6 at g6 e6
 have d6:=(g5.trans g6) _ _ e4
 refine ⟨d6,[(Sum.inl 4,.ref l1),(Sum.inl 9,.ref l2)],rfl,(by show 2<=15; decide),?_⟩
 rw [Iu]
 have g7:Same H2 (upd H6 d (.dK [((Sum.inl 4:Key),.ref l1),(Sum.inl 9,.ref l2)])):=aL hd ((g4.trans g5).trans g6) _
 have n1:l1≠d:=iu (g6 _ _ e5) d6 (fun z=>nomatch z)
 have n2:l2≠d:=iu e6 d6 (fun z=>nomatch z)
 have hD:Dl (upd H6 d (.dK [((Sum.inl 4:Key),.ref l1),(Sum.inl 9,.ref l2)])) d [(4,l1),(9,l2)] [[9],[4]] :=
  ⟨ak,.cons (by rw [aC n1]; exact g6 _ _ e5) (.cons (by rw [aC n2]; exact e6) .nil),by simp⟩
 refine ⟨.ref a2,d,rgA,_,_,rfl,thR.mono (t:=.part 0 rgA) hp2 g7.t,Jh,M5 hD,fun H8 g8=>⟨_,rfl,iteT ?_⟩⟩
 have gA:=(g2.trans g7).trans g8
 exact ⟨_,rfl,_,rfl,v,du,fo,L,C,rfl,thR.mono (t:=.part 0 fo) hv gA.t,hW,U.keep gA,fun H9 g9=>q H9⟩
end
theorem Hf:aM cO=[stL 0,stL 1,stL 2,stL 3,stL 4,stL 5,stL 6]:=by rfl
theorem Ba {X:Cx} {l:List Stmt} {s0 s1 s2 s3 s4 s5 s6:Stmt} {t0 t1 t2 t3 t4 t5 t6:TS} (e:l=[s0,s1,s2,s3,s4,s5,s6]) (h0:PS X s0 t0) (h1:PS X s1 t1) (h2:PS X s2 t2) (h3:PS X s3 t3) (h4:PS X s4 t4) (h5:PS X s5 t5) (h6:PS X s6 t6):PSs X l (tSeq t0 (tSeq t1 (tSeq t2 (tSeq t3 (tSeq t4 (tSeq t5 t6)))))):=by
 subst e
 exact ao h0 (ao h1 (ao h2 (ao h3 (ao h4 (ao h5 (aD h6))))))
section
variable {P:Program} {w:World} {K:Nh} {mg:Str->Option Value} {base:Heap} {f:Addr} {fd:FuncData}
set_option maxHeartbeats 4000000 in
theorem J7 (F:Fun K "law" "law" cO f fd) (GRo:Def P w K mg base CX0 5 "_law_rows" ["_law_script","_law_most"] (uF K)) (GMa:Def P w K mg base CX0 1 "_law_made" ["_law_rows_here"] yt) (GUl:Def P w K mg base CX0 1 "_law_used" ["_law_rows_here","_law_found"] vA) (GM:Def P w K mg base CX0 23 "marks" ["doc"] zy) (GRi:Def P w K mg base CX0 26 "_law_right" ["_law_doc","_law_used_here"] m7):FnOk P w K mg base CX0 27 f fd ["_law_script"] (zH K):=by
 refine F.ok tL (fun vs H Q E h=>?_) (fun cdv A outer s H vs Q E hr h=>?_)
 ·obtain ⟨a,ns,rfl,_⟩:=h
  rfl
 obtain ⟨a,ns,rfl,hS,h63,q⟩:=h
 obtain ⟨t0,p0,r0⟩:=law0 (outer:=outer) (H:=H) (E:=E) hr (by omega) GRo
 obtain ⟨t1,p1,r1⟩:=law1 (outer:=outer) (H:=H) (E:=E) hr (by omega) GMa
 obtain ⟨t2,p2,r2⟩:=law2 (outer:=outer) (H:=H) (E:=E) hr (by omega) GUl GM
 obtain ⟨t3,p3,r3⟩:=law3 (outer:=outer) (H:=H) (E:=E) hr (by omega) GRi
 obtain ⟨t4,p4,r4⟩:=@law4 P w K mg base f cdv A outer s H E
 obtain ⟨t5,p5,r5⟩:=@law5 P w K mg base f cdv A outer s H E
 obtain ⟨t6,p6,r6⟩:=law6 (outer:=outer) (H:=H) (E:=E) hr (by omega) GRi
 have ES:=Hf
 generalize stL 0=S0 at p0 ES
 generalize stL 1=S1 at p1 ES
 generalize stL 2=S2 at p2 ES
 generalize stL 3=S3 at p3 ES
 generalize stL 4=S4 at p4 ES
 generalize stL 5=S5 at p5 ES
 generalize stL 6=S6 at p6 ES
 refine ⟨_,Ba ES p0 p1 p2 p3 p4 p5 p6,?_⟩
 refine r0 a ns _ _ _ _ _ _ _ hS h63 fun R path zs ra xs H1 g1 hra hR hO h20 z1 z2 zw=>?_
 have hlf:=Jk hO z1 z2 zw
 have Rl:(dI ns R zs).length<=1000:=by
  unfold dI
  rw [Np]
  show R.length+1<=1000
  omega
 have hpn:∀ r∈dI ns R zs,r.1≠[]:=fun r hr=>by
  rcases Nz.mp hr with z | z
  ·obtain ⟨j,hj⟩:=Og z
   exact G8 (hO.pth j r hj)
  ·rw [Nq.mp z]
   exact fun e=>by cases e
 refine r1 ra (dI ns R zs) xs _ _ _ _ _ _ _ hra hR hpn (fun p t hm=>(hlf p t hm).leaf) Rl fun v H2 g2 hv=>?_
 have hW:=Dm hO h20 z1 z2 zw
 have hpm:=xM hO h20 zs
 generalize L2.F.of (bld (dI ns R zs) 0)=fo at hv hW hpm
 refine r2 ra (dI ns R zs) xs v fo _ _ _ _ _ _ (g2 _ _ hra) (Paired.mapP hR fun _ _ z=>z.mono g2.t) Rl hpm hv hW fun du L C H3 g3 U=>?_
 have hv3:=thR.mono (t:=.part 0 fo) hv g3.t
 refine r3 v du fo L C _ _ _ _ _ _ hv3 hW U fun H4 g4=>?_
 refine r4 _ _ _ fun x H5 g5 hx=>?_
 refine r5 _ _ _ fun y H6 g6 hy=>?_
 have g46:=(g4.trans g5).trans g6
 exact r6 v x y du fo L C H6 _ _ _ (thR.mono (t:=.part 0 fo) hv3 g46.t) hW (U.keep g46) (hx.mono g6.t) hy q
end
set_option maxHeartbeats 4000000 in
theorem all_mk {l:PySem.W.OpenLaw} {w:World} {K:Nh} {h:Heap} {mg:Str->Option Value} {fa CM CI CB CC CG f1 f2 f3 f4 f5 f6 f7 f8 f9 f10 f11 f12 f13 f14 f15 f16 f17 f18 f19 f20 f21 f22 f23 f24 f25 f26 f27 f28 f29 f30 f31 f32:Addr} (X:K.In h) (G:h.Ns mainGlobals mg) (hfa:mg "law"=some (.ref fa))
  {od1 an1 od2 an2 od3 an3 od4 an4 od5 an5 od6 an6 od7 an7 od8 an8 od9 an9 od10 an10 od11 an11 od12 an12 od13 an13 od14 an14 od15 an15 od16 an16 od17 an17 od18 an18 od19 an19 od20 an20 od21 an21 od22 an22 od23 an23 od24 an24 od25 an25 od26 an26 od27 an27 od28 an28 od29 an29 od30 an30 od31 an31 od32 an32:Option Addr} {sl1 sl2 sl3 sl4 sl5 sl6 sl7 sl8 sl9 sl10 sl11 sl12 sl13 sl14 sl15 sl16 sl17 sl18 sl19 sl20 sl21 sl22 sl23 sl24 sl25 sl26 sl27 sl28 sl29 sl30 sl31 sl32:Array (Option Value)} {oc1 kV1 dc1 pm1 cd1 ct1 oc2 kV2 dc2 pm2 cd2 ct2 oc3 kV3 dc3 pm3 cd3 ct3 oc4 kV4 dc4 pm4 cd4 ct4 oc5 kV5 dc5 pm5 cd5 ct5 oc6 kV6 dc6 pm6 cd6 ct6 oc7 kV7 dc7 pm7 cd7 ct7 oc8 kV8 dc8 pm8 cd8 ct8 oc9 kV9 dc9 pm9 cd9 ct9 oc10 kV10 dc10 pm10 cd10 ct10 oc11 kV11 dc11 pm11 cd11 ct11 oc12 kV12 dc12 pm12 cd12 ct12 oc13 kV13 dc13 pm13 cd13 ct13 oc14 kV14 dc14 pm14 cd14 ct14 oc15 kV15 dc15 pm15 cd15 ct15 oc16 kV16 dc16 pm16 cd16 ct16 oc17 kV17 dc17 pm17 cd17 ct17 oc18 kV18 dc18 pm18 cd18 ct18 oc19 kV19 dc19 pm19 cd19 ct19 oc20 kV20 dc20 pm20 cd20 ct20 oc21 kV21 dc21 pm21 cd21 ct21 oc22 kV22 dc22 pm22 cd22 ct22 oc23 kV23 dc23 pm23 cd23 ct23 oc24 kV24 dc24 pm24 cd24 ct24 oc25 kV25 dc25 pm25 cd25 ct25 oc26 kV26 dc26 pm26 cd26 ct26 oc27 kV27 dc27 pm27 cd27 ct27 oc28 kV28 dc28 pm28 cd28 ct28 oc29 kV29 dc29 pm29 cd29 ct29 oc30 kV30 dc30 pm30 cd30 ct30 oc31 kV31 dc31 pm31 cd31 ct31 oc32 kV32 dc32 pm32 cd32 ct32:Value} {tk0 tk1 tk2 tk3 tk4 tk5:Tok}
  (a1:PySem.W.nsIn K mainGlobals "is_word"=some (some (.ref f1))) (l1:K.lookup f1=some ⟨oc1,od1,.func (PySem.W.fnOf "is_word" "is_word" (aP fW) (aM fW) (aA fW) .none kV1 dc1 pm1 an1 cd1 ct1),sl1⟩) (c1:PySem.W.codeIn K cd1 "is_word"=true) (k1:PySem.W.keepIn K (.ref f1)=true)
  (a2:PySem.W.nsIn K mainGlobals "bent"=some (some (.ref f2))) (l2:K.lookup f2=some ⟨oc2,od2,.func (PySem.W.fnOf "bent" "bent" (aP ni) (aM ni) (aA ni) .none kV2 dc2 pm2 an2 cd2 ct2),sl2⟩) (c2:PySem.W.codeIn K cd2 "bent"=true) (k2:PySem.W.keepIn K (.ref f2)=true)
  (a3:PySem.W.nsIn K mainGlobals "forms"=some (some (.ref f3))) (l3:K.lookup f3=some ⟨oc3,od3,.func (PySem.W.fnOf "forms" "forms" (aP iD) (aM iD) (aA iD) .none kV3 dc3 pm3 an3 cd3 ct3),sl3⟩) (c3:PySem.W.codeIn K cd3 "forms"=true) (k3:PySem.W.keepIn K (.ref f3)=true)
  (a4:PySem.W.nsIn K mainGlobals "state_behind"=some (some (.ref f4))) (l4:K.lookup f4=some ⟨oc4,od4,.func (PySem.W.fnOf "state_behind" "state_behind" (aP cW) (aM cW) (aA cW) .none kV4 dc4 pm4 an4 cd4 ct4),sl4⟩) (c4:PySem.W.codeIn K cd4 "state_behind"=true) (k4:PySem.W.keepIn K (.ref f4)=true)
  (a5:PySem.W.nsIn K mainGlobals "strength"=some (some (.ref f5))) (l5:K.lookup f5=some ⟨oc5,od5,.func (PySem.W.fnOf "strength" "strength" (aP gk) (aM gk) (aA gk) .none kV5 dc5 pm5 an5 cd5 ct5),sl5⟩) (c5:PySem.W.codeIn K cd5 "strength"=true) (k5:PySem.W.keepIn K (.ref f5)=true)
  (a6:PySem.W.nsIn K mainGlobals "things_with_homes"=some (some (.ref f6))) (l6:K.lookup f6=some ⟨oc6,od6,.func (PySem.W.fnOf "things_with_homes" "things_with_homes" (aP bN) (aM bN) (aA bN) .none kV6 dc6 pm6 an6 cd6 ct6),sl6⟩) (c6:PySem.W.codeIn K cd6 "things_with_homes"=true) (k6:PySem.W.keepIn K (.ref f6)=true)
  (a7:PySem.W.nsIn K mainGlobals "things_of"=some (some (.ref f7))) (l7:K.lookup f7=some ⟨oc7,od7,.func (PySem.W.fnOf "things_of" "things_of" (aP d7) (aM d7) (aA d7) .none kV7 dc7 pm7 an7 cd7 ct7),sl7⟩) (c7:PySem.W.codeIn K cd7 "things_of"=true) (k7:PySem.W.keepIn K (.ref f7)=true)
  (a8:PySem.W.nsIn K mainGlobals "rows_with_homes"=some (some (.ref f8))) (l8:K.lookup f8=some ⟨oc8,od8,.func (PySem.W.fnOf "rows_with_homes" "rows_with_homes" (aP cG) (aM cG) (aA cG) .none kV8 dc8 pm8 an8 cd8 ct8),sl8⟩) (c8:PySem.W.codeIn K cd8 "rows_with_homes"=true) (k8:PySem.W.keepIn K (.ref f8)=true)
  (a9:PySem.W.nsIn K mainGlobals "tellings_numbers"=some (some (.ref f9))) (l9:K.lookup f9=some ⟨oc9,od9,.func (PySem.W.fnOf "tellings_numbers" "tellings_numbers" (aP bV) (aM bV) (aA bV) .none kV9 dc9 pm9 an9 cd9 ct9),sl9⟩) (c9:PySem.W.codeIn K cd9 "tellings_numbers"=true) (k9:PySem.W.keepIn K (.ref f9)=true)
  (a10:PySem.W.nsIn K mainGlobals "tellings_of"=some (some (.ref f10))) (l10:K.lookup f10=some ⟨oc10,od10,.func (PySem.W.fnOf "tellings_of" "tellings_of" (aP dR) (aM dR) (aA dR) .none kV10 dc10 pm10 an10 cd10 ct10),sl10⟩) (c10:PySem.W.codeIn K cd10 "tellings_of"=true) (k10:PySem.W.keepIn K (.ref f10)=true)
  (a11:PySem.W.nsIn K mainGlobals "told_at"=some (some (.ref f11))) (l11:K.lookup f11=some ⟨oc11,od11,.func (PySem.W.fnOf "told_at" "told_at" (aP gj) (aM gj) (aA gj) .none kV11 dc11 pm11 an11 cd11 ct11),sl11⟩) (c11:PySem.W.codeIn K cd11 "told_at"=true) (k11:PySem.W.keepIn K (.ref f11)=true)
  (a12:PySem.W.nsIn K mainGlobals "marks_by"=some (some (.ref f12))) (l12:K.lookup f12=some ⟨oc12,od12,.func (PySem.W.fnOf "marks_by" "marks_by" (aP eY) (aM eY) (aA eY) .none kV12 dc12 pm12 an12 cd12 ct12),sl12⟩) (c12:PySem.W.codeIn K cd12 "marks_by"=true) (k12:PySem.W.keepIn K (.ref f12)=true)
  (a13:PySem.W.nsIn K mainGlobals "marks"=some (some (.ref f13))) (l13:K.lookup f13=some ⟨oc13,od13,.func (PySem.W.fnOf "marks" "marks" (aP jw) (aM jw) (aA jw) .none kV13 dc13 pm13 an13 cd13 ct13),sl13⟩) (c13:PySem.W.codeIn K cd13 "marks"=true) (k13:PySem.W.keepIn K (.ref f13)=true)
  (a14:PySem.W.nsIn K mainGlobals "uses"=some (some (.ref f14))) (l14:K.lookup f14=some ⟨oc14,od14,.func (PySem.W.fnOf "uses" "uses" (aP lD) (aM lD) (aA lD) .none kV14 dc14 pm14 an14 cd14 ct14),sl14⟩) (c14:PySem.W.codeIn K cd14 "uses"=true) (k14:PySem.W.keepIn K (.ref f14)=true)
  (a15:PySem.W.nsIn K mainGlobals "all_ranked"=some (some (.ref f15))) (l15:K.lookup f15=some ⟨oc15,od15,.func (PySem.W.fnOf "all_ranked" "all_ranked" (aP cY) (aM cY) (aA cY) .none kV15 dc15 pm15 an15 cd15 ct15),sl15⟩) (c15:PySem.W.codeIn K cd15 "all_ranked"=true) (k15:PySem.W.keepIn K (.ref f15)=true)
  (a16:PySem.W.nsIn K mainGlobals "ring_among"=some (some (.ref f16))) (l16:K.lookup f16=some ⟨oc16,od16,.func (PySem.W.fnOf "ring_among" "ring_among" (aP cP) (aM cP) (aA cP) .none kV16 dc16 pm16 an16 cd16 ct16),sl16⟩) (c16:PySem.W.codeIn K cd16 "ring_among"=true) (k16:PySem.W.keepIn K (.ref f16)=true)
  (a17:PySem.W.nsIn K mainGlobals "ranks"=some (some (.ref f17))) (l17:K.lookup f17=some ⟨oc17,od17,.func (PySem.W.fnOf "ranks" "ranks" (aP gH) (aM gH) (aA gH) .none kV17 dc17 pm17 an17 cd17 ct17),sl17⟩) (c17:PySem.W.codeIn K cd17 "ranks"=true) (k17:PySem.W.keepIn K (.ref f17)=true)
  (a18:PySem.W.nsIn K mainGlobals "_law_cell"=some (some (.ref f18))) (l18:K.lookup f18=some ⟨oc18,od18,.func (PySem.W.fnOf "_law_cell" "_law_cell" (aP iQ) (aM iQ) (aA iQ) .none kV18 dc18 pm18 an18 cd18 ct18),sl18⟩) (c18:PySem.W.codeIn K cd18 "_law_cell"=true) (k18:PySem.W.keepIn K (.ref f18)=true)
  (a19:PySem.W.nsIn K mainGlobals "_law_menu"=some (some (.ref f19))) (l19:K.lookup f19=some ⟨oc19,od19,.func (PySem.W.fnOf "_law_menu" "_law_menu" (aP iB) (aM iB) (aA iB) .none kV19 dc19 pm19 an19 cd19 ct19),sl19⟩) (c19:PySem.W.codeIn K cd19 "_law_menu"=true) (k19:PySem.W.keepIn K (.ref f19)=true)
  (a20:PySem.W.nsIn K mainGlobals "_law_stream"=some (some (.ref f20))) (l20:K.lookup f20=some ⟨oc20,od20,.func (PySem.W.fnOf "_law_stream" "_law_stream" (aP fU) (aM fU) (aA fU) .none kV20 dc20 pm20 an20 cd20 ct20),sl20⟩) (c20:PySem.W.codeIn K cd20 "_law_stream"=true) (k20:PySem.W.keepIn K (.ref f20)=true)
  (a21:PySem.W.nsIn K mainGlobals "_law_shapes"=some (some (.ref f21))) (l21:K.lookup f21=some ⟨oc21,od21,.func (PySem.W.fnOf "_law_shapes" "_law_shapes" (aP dY) (aM dY) (aA dY) .none kV21 dc21 pm21 an21 cd21 ct21),sl21⟩) (c21:PySem.W.codeIn K cd21 "_law_shapes"=true) (k21:PySem.W.keepIn K (.ref f21)=true)
  (a22:PySem.W.nsIn K mainGlobals "_law_book"=some (some (.ref f22))) (l22:K.lookup f22=some ⟨oc22,od22,.func (PySem.W.fnOf "_law_book" "_law_book" (aP iW) (aM iW) (aA iW) .none kV22 dc22 pm22 an22 cd22 ct22),sl22⟩) (c22:PySem.W.codeIn K cd22 "_law_book"=true) (k22:PySem.W.keepIn K (.ref f22)=true)
  (a23:PySem.W.nsIn K mainGlobals "_law_words"=some (some (.ref f23))) (l23:K.lookup f23=some ⟨oc23,od23,.func (PySem.W.fnOf "_law_words" "_law_words" (aP gO) (aM gO) (aA gO) .none kV23 dc23 pm23 an23 cd23 ct23),sl23⟩) (c23:PySem.W.codeIn K cd23 "_law_words"=true) (k23:PySem.W.keepIn K (.ref f23)=true)
  (a24:PySem.W.nsIn K mainGlobals "_law_telling"=some (some (.ref f24))) (l24:K.lookup f24=some ⟨oc24,od24,.func (PySem.W.fnOf "_law_telling" "_law_telling" (aP fj) (aM fj) (aA fj) .none kV24 dc24 pm24 an24 cd24 ct24),sl24⟩) (c24:PySem.W.codeIn K cd24 "_law_telling"=true) (k24:PySem.W.keepIn K (.ref f24)=true)
  (a25:PySem.W.nsIn K mainGlobals "_law_number"=some (some (.ref f25))) (l25:K.lookup f25=some ⟨oc25,od25,.func (PySem.W.fnOf "_law_number" "_law_number" (aP fX) (aM fX) (aA fX) .none kV25 dc25 pm25 an25 cd25 ct25),sl25⟩) (c25:PySem.W.codeIn K cd25 "_law_number"=true) (k25:PySem.W.keepIn K (.ref f25)=true)
  (a26:PySem.W.nsIn K mainGlobals "_law_rows"=some (some (.ref f26))) (l26:K.lookup f26=some ⟨oc26,od26,.func (PySem.W.fnOf "_law_rows" "_law_rows" (aP iZ) (aM iZ) (aA iZ) .none kV26 dc26 pm26 an26 cd26 ct26),sl26⟩) (c26:PySem.W.codeIn K cd26 "_law_rows"=true) (k26:PySem.W.keepIn K (.ref f26)=true)
  (a27:PySem.W.nsIn K mainGlobals "_law_made"=some (some (.ref f27))) (l27:K.lookup f27=some ⟨oc27,od27,.func (PySem.W.fnOf "_law_made" "_law_made" (aP iy) (aM iy) (aA iy) .none kV27 dc27 pm27 an27 cd27 ct27),sl27⟩) (c27:PySem.W.codeIn K cd27 "_law_made"=true) (k27:PySem.W.keepIn K (.ref f27)=true)
  (a28:PySem.W.nsIn K mainGlobals "_law_used"=some (some (.ref f28))) (l28:K.lookup f28=some ⟨oc28,od28,.func (PySem.W.fnOf "_law_used" "_law_used" (aP gR) (aM gR) (aA gR) .none kV28 dc28 pm28 an28 cd28 ct28),sl28⟩) (c28:PySem.W.codeIn K cd28 "_law_used"=true) (k28:PySem.W.keepIn K (.ref f28)=true)
  (a29:PySem.W.nsIn K mainGlobals "_law_is_ring"=some (some (.ref f29))) (l29:K.lookup f29=some ⟨oc29,od29,.func (PySem.W.fnOf "_law_is_ring" "_law_is_ring" (aP dX) (aM dX) (aA dX) .none kV29 dc29 pm29 an29 cd29 ct29),sl29⟩) (c29:PySem.W.codeIn K cd29 "_law_is_ring"=true) (k29:PySem.W.keepIn K (.ref f29)=true)
  (a30:PySem.W.nsIn K mainGlobals "_law_are_ranks"=some (some (.ref f30))) (l30:K.lookup f30=some ⟨oc30,od30,.func (PySem.W.fnOf "_law_are_ranks" "_law_are_ranks" (aP cQ) (aM cQ) (aA cQ) .none kV30 dc30 pm30 an30 cd30 ct30),sl30⟩) (c30:PySem.W.codeIn K cd30 "_law_are_ranks"=true) (k30:PySem.W.keepIn K (.ref f30)=true)
  (a31:PySem.W.nsIn K mainGlobals "_law_right"=some (some (.ref f31))) (l31:K.lookup f31=some ⟨oc31,od31,.func (PySem.W.fnOf "_law_right" "_law_right" (aP gK) (aM gK) (aA gK) .none kV31 dc31 pm31 an31 cd31 ct31),sl31⟩) (c31:PySem.W.codeIn K cd31 "_law_right"=true) (k31:PySem.W.keepIn K (.ref f31)=true)
  (a32:PySem.W.nsIn K mainGlobals "law"=some (some (.ref f32))) (l32:K.lookup f32=some ⟨oc32,od32,.func (PySem.W.fnOf "law" "law" (aP cO) (aM cO) (aA cO) .none kV32 dc32 pm32 an32 cd32 ct32),sl32⟩) (c32:PySem.W.codeIn K cd32 "law"=true) (k32:PySem.W.keepIn K (.ref f32)=true)
  (g1:PySem.W.nsIn K mainGlobals "MOST_SIGNS"=some (some (.int 20 tk0))) (g2:PySem.W.nsIn K mainGlobals "STRENGTH_ELSE"=some (some (.int 0 tk1))) (g3:PySem.W.nsIn K mainGlobals "STRENGTH_ALL"=some (some (.int 1 tk2))) (g4:PySem.W.nsIn K mainGlobals "STRENGTH_HERE"=some (some (.int 100 tk3))) (g5:PySem.W.nsIn K mainGlobals "GOVERNS_NOT"=some (some (.int (-1) tk4))) (g6:PySem.W.nsIn K mainGlobals "WORD_SIGNS"=some (some (.str W62 tk5)))
  (z1:PySem.W.nsIn K mainGlobals "len"=some none) (z2:PySem.W.nsIn K mainGlobals "range"=some none) (z3:PySem.W.nsIn K mainGlobals "int"=some none) (z4:PySem.W.nsIn K mainGlobals "tuple"=some none) (z5:PySem.W.nsIn K mainGlobals "list"=some none) (z6:PySem.W.nsIn K mainGlobals "max"=some none) (z7:PySem.W.nsIn K mainGlobals "min"=some none) (z8:PySem.W.nsIn K mainGlobals "isinstance"=some none) (z9:PySem.W.nsIn K mainGlobals "str"=some none) (z10:PySem.W.nsIn K mainGlobals "all"=some none) (z11:PySem.W.nsIn K mainGlobals "sorted"=some none) (z12:PySem.W.nsIn K mainGlobals "bool"=some none) (z13:PySem.W.nsIn K mainGlobals "set"=some none) (z14:PySem.W.nsIn K mainGlobals "dict"=some none) (z15:PySem.W.nsIn K mainGlobals "ValueError"=some none)
  (y1:PySem.W.nsIn K mainGlobals "Machine"=some (some (.ref CM))) (y2:PySem.W.nsIn K mainGlobals "InRing"=some (some (.ref CI))) (y3:PySem.W.nsIn K mainGlobals "Both"=some (some (.ref CB))) (y4:PySem.W.nsIn K mainGlobals "Caught"=some (some (.ref CC))) (y5:PySem.W.nsIn K mainGlobals "GlossError"=some (some (.ref CG)))
  (kb:PySem.W.kitOne K (.type "int") (.type "bool")=some false) (ki:PySem.W.kitOne K (.type "int") (.type "int")=some true) (kS:PySem.W.kitOne K (.type "str") (.type "str")=some true) {fI fL fR:Addr} {odI anI:Option Addr} {slI:Array (Option Value)} {ocI kVI dcI pmI cdI ctI:Value} {odL anL:Option Addr} {slL:Array (Option Value)} {ocL kVL dcL pmL cdL ctL:Value} {odR anR:Option Addr} {slR:Array (Option Value)} {ocR kVR dcR pmR cdR ctR:Value} (jI:PySem.W.findIn K (.ref CM) "__init__"=some (some (.ref fI))) (lI:K.lookup fI=some ⟨ocI,odI,.func (PySem.W.fnOf "__init__" "Machine.__init__" (aP jt) (aM jt) (aA jt) .none kVI dcI pmI anI cdI ctI),slI⟩) (cI:PySem.W.codeIn K cdI "Machine.__init__"=true) (kI:PySem.W.keepIn K (.ref fI)=true) (iI:PySem.W.isFn K (.ref fI)=true) (jL:PySem.W.findIn K (.ref CM) "longest"=some (some (.ref fL))) (lL:K.lookup fL=some ⟨ocL,odL,.func (PySem.W.fnOf "longest" "Machine.longest" (aP jA) (aM jA) (aA jA) .none kVL dcL pmL anL cdL ctL),slL⟩) (cL:PySem.W.codeIn K cdL "Machine.longest"=true) (kL:PySem.W.keepIn K (.ref fL)=true) (iL:PySem.W.isFn K (.ref fL)=true) (mk:PySem.W.makesIn K CM=true) (kC:PySem.W.keepIn K (.ref CM)=true) (pg:PySem.W.plainGet K CM Str.empty=true) (hd:PySem.W.hasDictIn K CM=true) (po:PySem.W.plainOver K CM=true) (sa:PySem.W.findIn K (.ref CM) "__setattr__"=some (some (.builtin "object.__setattr__"))) (nS:PySem.W.findIn K (.ref CM) "steps"=some none) (nE:PySem.W.findIn K (.ref CM) "ends"=some none) (kd:PySem.W.kitOne K (.type "dict") (.type "dict")=some true) (kt:PySem.W.kitOne K (.type "tuple") (.type "tuple")=some true) (jR:PySem.W.findIn K (.ref CI) "__init__"=some (some (.ref fR))) (lR:K.lookup fR=some ⟨ocR,odR,.func (PySem.W.fnOf "__init__" "InRing.__init__" (aP nQ) (aM nQ) (aA nQ) .none kVR dcR pmR anR cdR ctR),slR⟩) (cR:PySem.W.codeIn K cdR "InRing.__init__"=true) (kR:PySem.W.keepIn K (.ref fR)=true) (tR:PySem.W.typeIn K (.ref fR)=some (.type "function")) (jX:excJ K CI bmN "ValueError.__new__"=true) (s1:PySem.W.findIn K (.ref CI) "__setattr__"=some (some (.builtin "object.__setattr__"))) (s2:PySem.W.findIn K (.ref CI) "ring"=some none) (s3:PySem.W.mroIn K CI (.type "object")=some true) (s4:(PySem.W.clsIn K CI).any (fun cd=>cd.hasDict && uy cd.mro)=true) (s5:PySem.W.hasDictIn K CI=true) (px:XCls K CI) (pe:PySem.W.exmOne K (.ref CI) (.ref CG)=some true) (pi:PySem.W.kitOne K (.ref CI) (.ref CI)=some true) (pv:PySem.W.kitOne K (.ref CI) (.type "ValueError")=some true) (pn:PySem.W.kitAny K (.ref CI) [.ref CB,.ref CC]=some false)
  : ∃ fd:FuncData,(∀ (s:Shared) (v:Value),BindsTo s fd ⟨[v],[]⟩ [("_law_script",v)])/\∀ base:Heap,K.In base->base.Ns mainGlobals mg->FnOk l.prog w K mg base CX0 27 fa fd ["_law_script"] (zH K):=by
 have e:=hfa.symm.trans (N8 X G a32)
 cases e
 have nz_len:=O6 X G z1
 have nz_range:=O6 X G z2
 have nz_int:=O6 X G z3
 have nz_tuple:=O6 X G z4
 have nz_list:=O6 X G z5
 have nz_max:=O6 X G z6
 have nz_min:=O6 X G z7
 have nz_isinstance:=O6 X G z8
 have nz_str:=O6 X G z9
 have nz_all:=O6 X G z10
 have nz_sorted:=O6 X G z11
 have nz_bool:=O6 X G z12
 have nz_set:=O6 X G z13
 have nz_dict:=O6 X G z14
 have nz_ValueError:=O6 X G z15
 have ng_MOST_SIGNS:=N8 X G g1
 have ng_STRENGTH_ELSE:=N8 X G g2
 have ng_STRENGTH_ALL:=N8 X G g3
 have ng_STRENGTH_HERE:=N8 X G g4
 have ng_GOVERNS_NOT:=N8 X G g5
 have ng_WORD_SIGNS:=N8 X G g6
 have ny_Machine:=N8 X G y1
 have ny_InRing:=N8 X G y2
 have ny_Both:=N8 X G y3
 have ny_Caught:=N8 X G y4
 have ny_GlossError:=N8 X G y5
 have F_is_word:=bH (st:=fW) l1 c1 k1
 have F_bent:=bH (st:=ni) l2 c2 k2
 have F_forms:=bH (st:=iD) l3 c3 k3
 have F_state_behind:=bH (st:=cW) l4 c4 k4
 have F_strength:=bH (st:=gk) l5 c5 k5
 have F_things_with_homes:=bH (st:=bN) l6 c6 k6
 have F_things_of:=bH (st:=d7) l7 c7 k7
 have F_rows_with_homes:=bH (st:=cG) l8 c8 k8
 have F_tellings_numbers:=bH (st:=bV) l9 c9 k9
 have F_tellings_of:=bH (st:=dR) l10 c10 k10
 have F_told_at:=bH (st:=gj) l11 c11 k11
 have F_marks_by:=bH (st:=eY) l12 c12 k12
 have F_marks:=bH (st:=jw) l13 c13 k13
 have F_uses:=bH (st:=lD) l14 c14 k14
 have F_all_ranked:=bH (st:=cY) l15 c15 k15
 have F_ring_among:=bH (st:=cP) l16 c16 k16
 have F_ranks:=bH (st:=gH) l17 c17 k17
 have F__law_cell:=bH (st:=iQ) l18 c18 k18
 have F__law_menu:=bH (st:=iB) l19 c19 k19
 have F__law_stream:=bH (st:=fU) l20 c20 k20
 have F__law_shapes:=bH (st:=dY) l21 c21 k21
 have F__law_book:=bH (st:=iW) l22 c22 k22
 have F__law_words:=bH (st:=gO) l23 c23 k23
 have F__law_telling:=bH (st:=fj) l24 c24 k24
 have F__law_number:=bH (st:=fX) l25 c25 k25
 have F__law_rows:=bH (st:=iZ) l26 c26 k26
 have F__law_made:=bH (st:=iy) l27 c27 k27
 have F__law_used:=bH (st:=gR) l28 c28 k28
 have F__law_is_ring:=bH (st:=dX) l29 c29 k29
 have F__law_are_ranks:=bH (st:=cQ) l30 c30 k30
 have F__law_right:=bH (st:=gK) l31 c31 k31
 have F_law:=bH (st:=cO) l32 c32 k32
 have b_is_word:=F_is_word.binds (ps:=["thing"]) fun _ _ _ _ _ _ us hl=>match us,hl with | [_],_=>rfl
 have b_bent:=F_bent.binds (ps:=["phrase","bend"]) fun _ _ _ _ _ _ us hl=>match us,hl with | [_,_],_=>rfl
 have b_forms:=F_forms.binds (ps:=["phrase","bends"]) fun _ _ _ _ _ _ us hl=>match us,hl with | [_,_],_=>rfl
 have b_state_behind:=F_state_behind.binds (ps:=["steps","phrase"]) fun _ _ _ _ _ _ us hl=>match us,hl with | [_,_],_=>rfl
 have b_strength:=F_strength.binds (ps:=["scope","told","place"]) fun _ _ _ _ _ _ us hl=>match us,hl with | [_,_,_],_=>rfl
 have b_things_with_homes:=F_things_with_homes.binds (ps:=["part","path"]) fun _ _ _ _ _ _ us hl=>match us,hl with | [_,_],_=>rfl
 have b_things_of:=F_things_of.binds (ps:=["doc"]) fun _ _ _ _ _ _ us hl=>match us,hl with | [_],_=>rfl
 have b_rows_with_homes:=F_rows_with_homes.binds (ps:=["doc"]) fun _ _ _ _ _ _ us hl=>match us,hl with | [_],_=>rfl
 have b_tellings_numbers:=F_tellings_numbers.binds (ps:=["doc"]) fun _ _ _ _ _ _ us hl=>match us,hl with | [_],_=>rfl
 have b_tellings_of:=F_tellings_of.binds (ps:=["doc"]) fun _ _ _ _ _ _ us hl=>match us,hl with | [_],_=>rfl
 have b_told_at:=F_told_at.binds (ps:=["tellings","place"]) fun _ _ _ _ _ _ us hl=>match us,hl with | [_,_],_=>rfl
 have b_marks_by:=F_marks_by.binds (ps:=["machine","told","words"]) fun _ _ _ _ _ _ us hl=>match us,hl with | [_,_,_],_=>rfl
 have b_marks:=F_marks.binds (ps:=["doc"]) fun _ _ _ _ _ _ us hl=>match us,hl with | [_],_=>rfl
 have b_uses:=F_uses.binds (ps:=["doc"]) fun _ _ _ _ _ _ us hl=>match us,hl with | [_],_=>rfl
 have b_all_ranked:=F_all_ranked.binds (ps:=["numbers","ranked"]) fun _ _ _ _ _ _ us hl=>match us,hl with | [_,_],_=>rfl
 have b_ring_among:=F_ring_among.binds (ps:=["used","ranked"]) fun _ _ _ _ _ _ us hl=>match us,hl with | [_,_],_=>rfl
 have b_ranks:=F_ranks.binds (ps:=["doc"]) fun _ _ _ _ _ _ us hl=>match us,hl with | [_],_=>rfl
 have b__law_cell:=F__law_cell.binds (ps:=["_law_script","_law_k"]) fun _ _ _ _ _ _ us hl=>match us,hl with | [_,_],_=>rfl
 have b__law_menu:=F__law_menu.binds (ps:=["_law_script"]) fun _ _ _ _ _ _ us hl=>match us,hl with | [_],_=>rfl
 have b__law_stream:=F__law_stream.binds (ps:=["_law_cell_here","_law_many"]) fun _ _ _ _ _ _ us hl=>match us,hl with | [_,_],_=>rfl
 have b__law_shapes:=F__law_shapes.binds (ps:=["_law_phrase","_law_xs"]) fun _ _ _ _ _ _ us hl=>match us,hl with | [_,_],_=>rfl
 have b__law_book:=F__law_book.binds (ps:=["_law_script","_law_menu_here"]) fun _ _ _ _ _ _ us hl=>match us,hl with | [_,_],_=>rfl
 have b__law_words:=F__law_words.binds (ps:=["_law_xs","_law_book_here","_law_menu_here","_law_below"]) fun _ _ _ _ _ _ us hl=>match us,hl with | [_,_,_,_],_=>rfl
 have b__law_telling:=F__law_telling.binds (ps:=["_law_xs","_law_number_here","_law_head","_law_book_here","_law_menu_here","_law_below"]) fun _ _ _ _ _ _ us hl=>match us,hl with | [_,_,_,_,_,_],_=>rfl
 have b__law_number:=F__law_number.binds (ps:=["_law_script","_law_k"]) fun _ _ _ _ _ _ us hl=>match us,hl with | [_,_],_=>rfl
 have b__law_rows:=F__law_rows.binds (ps:=["_law_script","_law_most"]) fun _ _ _ _ _ _ us hl=>match us,hl with | [_,_],_=>rfl
 have b__law_made:=F__law_made.binds (ps:=["_law_rows_here"]) fun _ _ _ _ _ _ us hl=>match us,hl with | [_],_=>rfl
 have b__law_used:=F__law_used.binds (ps:=["_law_rows_here","_law_found"]) fun _ _ _ _ _ _ us hl=>match us,hl with | [_,_],_=>rfl
 have b__law_is_ring:=F__law_is_ring.binds (ps:=["_law_found","_law_used_here"]) fun _ _ _ _ _ _ us hl=>match us,hl with | [_,_],_=>rfl
 have b__law_are_ranks:=F__law_are_ranks.binds (ps:=["_law_found","_law_used_here"]) fun _ _ _ _ _ _ us hl=>match us,hl with | [_,_],_=>rfl
 have b__law_right:=F__law_right.binds (ps:=["_law_doc","_law_used_here"]) fun _ _ _ _ _ _ us hl=>match us,hl with | [_,_],_=>rfl
 refine ⟨PySem.W.fnOf "law" "law" (aP cO) (aM cO) (aA cO) .none kV32 dc32 pm32 an32 cd32 ct32,fun s v=>.of_eq rfl,fun base _ _=>?_⟩
 have T:Nm mg:=⟨nz_len,nz_range,nz_int,nz_tuple,nz_list,nz_max,nz_min,nz_isinstance⟩
 have TW:Tw K mg:=⟨nz_len,nz_isinstance,nz_str,nz_all,nz_tuple,⟨_,ng_MOST_SIGNS⟩,⟨_,ng_WORD_SIGNS⟩,kS⟩
 have TS:NmS mg:=⟨⟨_,ng_STRENGTH_ELSE⟩,⟨_,ng_STRENGTH_ALL⟩,⟨_,ng_STRENGTH_HERE⟩,⟨_,ng_GOVERNS_NOT⟩⟩
 have c:Cls K CM:=⟨pg,hd,po,sa⟩
 have n1:NoAttr K CM "steps":=nS
 have n2:NoAttr K CM "ends":=nE
 have M:L2.Mk K CM fI:=⟨mk,jI,iI,kC⟩
 have hm:Meth K CM "longest" fL:=⟨jL,iL,kL⟩
 have F_minit:=bH (st:=jt) lI cI kI
 have b_minit:=F_minit.binds (ps:=["self","phrases"]) fun _ _ _ _ _ _ us hl=>match us,hl with | [_,_],_=>rfl
 have F_long:=bH (st:=jA) lL cL kL
 have b_long:=F_long.binds (ps:=["self","words","at"]) fun _ _ _ _ _ _ us hl=>match us,hl with | [_,_,_],_=>rfl
 have F_init:=bH (st:=nQ) lR cR kR
 have b_init:=F_init.binds (ps:=["self","ring"]) fun _ _ _ _ _ _ us hl=>match us,hl with | [_,_],_=>rfl
 have GSB:=Def.mk' (Lp (P:=l.prog) (w:=w) (base:=base) F_state_behind T) b_state_behind k4 (N8 X G a4)
 have FI:=Dg (P:=l.prog) (w:=w) (mg:=mg) (base:=base) (CM:=CM) F_minit GSB c n1 n2
 have FL:=Gq (P:=l.prog) (w:=w) (mg:=mg) (base:=base) (CM:=CM) F_long T c n1 n2
 have GIW:=Def.mk' (Hv (P:=l.prog) (w:=w) (base:=base) F_is_word TW) b_is_word k1 (N8 X G a1)
 have GBT:=Def.mk' (Hu F_bent TW GIW) b_bent k2 (N8 X G a2)
 have GFO:=Def.mk' (Gi F_forms TW GBT) b_forms k3 (N8 X G a3)
 have GST:=Def.mk' (Ku (P:=l.prog) (w:=w) (base:=base) F_strength T.len TS) b_strength k5 (N8 X G a5)
 have GTW:=Def.mk' (Gx (P:=l.prog) (w:=w) (base:=base) F_things_with_homes b_things_with_homes k6 (N8 X G a6) 21) b_things_with_homes k6 (N8 X G a6)
 have GTH:=Def.mk' (Ky F_things_of GTW) b_things_of k7 (N8 X G a7)
 have GRW:=Def.mk' (Kh F_rows_with_homes GTW) b_rows_with_homes k8 (N8 X G a8)
 have GTN:=Def.mk' (Kg F_tellings_numbers GTH) b_tellings_numbers k9 (N8 X G a9)
 have GTO:=Def.mk' (MN F_tellings_of nz_sorted GTW GFO) b_tellings_of k10 (N8 X G a10)
 have GTA:=Def.mk' (K5 F_told_at TS GST) b_told_at k11 (N8 X G a11)
 have GMB:=Def.mk' (Lq F_marks_by T c hm FL b_long) b_marks_by k12 (N8 X G a12)
 have GMK:=Def.mk' (Li F_marks T GTO GRW GTA GMB ny_Machine M FI b_minit) b_marks k13 (N8 X G a13)
 have GUS:=Def.mk' (Mt F_uses T nz_sorted nz_set GTN GMK) b_uses k14 (N8 X G a14)
 have GAR:=Def.mk' (M7 (P:=l.prog) (w:=w) (base:=base) F_all_ranked nz_all) b_all_ranked k15 (N8 X G a15)
 have GRG:=Def.mk' (Ig (P:=l.prog) (w:=w) (base:=base) F_ring_among nz_tuple) b_ring_among k16 (N8 X G a16)
 have TRr:TR K mg CI fR:=⟨ny_InRing,⟨jX,jR,tR⟩,⟨s1,s2,s3,s4⟩⟩
 have FR:=Iz (P:=l.prog) (w:=w) (mg:=mg) (base:=base) F_init
 have GRK:=Def.mk' (Mw F_ranks T TRr FR b_init GUS GAR GRG) b_ranks k17 (N8 X G a17)
 have Y:TyR K mg:=⟨nz_isinstance,nz_bool,nz_int,nz_dict,nz_tuple,kb,ki,kd,kt⟩
 have TGg:TG K mg CI CB CC CG:=⟨ny_InRing,ny_Both,ny_Caught,ny_GlossError,nz_ValueError,nz_isinstance,px,pe,pi,pv,pn,s2,s5⟩
 have GC:=Def.mk' (Hq (P:=l.prog) (w:=w) (base:=base) F__law_cell T.len) b__law_cell k18 (N8 X G a18)
 have GS:=Def.mk' (Bv (P:=l.prog) (w:=w) (base:=base) F__law_stream T) b__law_stream k20 (N8 X G a20)
 have GME:=Def.mk' (Fd F__law_menu T GC GS) b__law_menu k19 (N8 X G a19)
 have GH:=Def.mk' (Lb (P:=l.prog) (w:=w) (base:=base) F__law_shapes T) b__law_shapes k21 (N8 X G a21)
 have GB:=Def.mk' (HD F__law_book T GC GS GH) b__law_book k22 (N8 X G a22)
 have GW:=Def.mk' (BL (P:=l.prog) (w:=w) (base:=base) F__law_words T) b__law_words k23 (N8 X G a23)
 have GT:=Def.mk' (CV F__law_telling GW) b__law_telling k24 (N8 X G a24)
 have GN:=Def.mk' (Ir F__law_number GC) b__law_number k25 (N8 X G a25)
 have GRO:=Def.mk' (Fi F__law_rows T GC GME GS GB GW GT GN) b__law_rows k26 (N8 X G a26)
 have GMA:=Def.mk' (Hr (P:=l.prog) (w:=w) (base:=base) F__law_made nz_tuple) b__law_made k27 (N8 X G a27)
 have GUL:=Def.mk' (Fx (P:=l.prog) (w:=w) (base:=base) F__law_used) b__law_used k28 (N8 X G a28)
 have GIR:=Def.mk' (Aq (P:=l.prog) (w:=w) (base:=base) F__law_is_ring T Y) b__law_is_ring k29 (N8 X G a29)
 have GAE:=Def.mk' (Ho (P:=l.prog) (w:=w) (base:=base) F__law_are_ranks T Y) b__law_are_ranks k30 (N8 X G a30)
 have GRI:=Def.mk' (Bq F__law_right TGg GRK GAE GIR) b__law_right k31 (N8 X G a31)
 exact J7 F_law GRO GMA GUL GMK GRI
theorem walk {l:PySem.W.OpenLaw} {q:Program} {loose:List Str} {XP:(Str->Option Value)->Heap->Prop} {YP:World->Heap->Prop} {d:DefRec} {K:Params->Nh} (hn:l.most=some 63) (hdf:d.params.defaults=[])
  (hY:∀ (w:World) (h:Heap),YP w h->(K w.params).In h)
  (F:∀ (w:World) (mg:Str->Option Value) (fa:Addr) (h:Heap),(K w.params).In h->h.Ns mainGlobals mg->mg d.name=some (.ref fa) ->
   ∃ fd:FuncData,(∀ (s:Shared) (u:Value),BindsTo s fd ⟨[u],[]⟩ [("_law_script",u)])/\∀ base:Heap,(K w.params).In base->base.Ns mainGlobals mg->FnOk l.prog w (K w.params) mg base CX0 27 fa fd ["_law_script"] (zH (K w.params))) :
  PySem.W.WalkO q loose XP YP l.row.toRowW d [] (fun f vs=>PySem.call f vs) :=
 L2.walk_of (n:=63) (k:=27) (x:="_law_script") (CX:=fun _=>CX0) (sp:=fun w=>(zH (K w.params))) hn (by decide) hdf ⟨rfl,by decide,by decide,rfl⟩ hY F (fun _ _ a ns hl _ hS=>⟨a,ns,rfl,hS,hl,fun _=>rfl⟩) fun _ _ _ _ _ z=>z
end D
namespace PySem.W.Fast
def tw11508637405189311186:=0
def tw9656409075606715066:=0
def tw12657975747151384513:=0
def tw17431574216579178143:=0
def tw16663645568571528328:=0
def tw7737468914656717802:=0
def tw5977792304223019371:=0
def tw10983998376140448623:=0
def tw17240642939206711868:=0
def tw18247721479429476636:=0
def tw14827591410364263309:=0
def tw8577297695186959528:=0
def tw12778061096280539091:=0
def tw3817580733203673470:=0
def tw12090552501716702846:=0
def tw909822892160053545:=0
def tw16625318800337683927:=0
def tw11922111097018405013:=0
def tw15077977307283856344:=0
def tw4660593200780833025:=0
def tw12012962987536358009:=0
def tw428743737241576648:=0
def tw10442540194992397989:=0
def tw1741280749513618662:=0
def tw6555900865998380800:=0
def tw17200227233815583371:=0
def tw17563327184017593112:=0
def tw1746852101434173807:=0
def tw15525791205362844979:=0
def tw12433212421497044965:=0
def tw13977545724256242581:=0
def tw13559556866122657997:=0
def tw4789666543737562447:=0
def tw9388468779517003562:=0
def tw2567603985219216169:=0
def tw9411659610229852046:=0
def tw13408020366387768008:=0
def tw11018919110315505642:=0
def tw12328990956525180628:=0
def tw5679508518974605958:=0
def tw5210977950084152358:=0
def tw15895681316282165383:=0
def tw5251903536803513732:=0
def tw4781365127356798884:=0
def tw6851556189036166617:=0
def tw6167528176107761793:=0
def tw10198740123758367969:=0
def tw4394689914811339335:=0
def tw11411183785748073:=0
def tw12890196224282842114:=0
def tw12856182001717361036:=0
def tw7106491286102125119:=0
def tw14741828175643882339:=0
def tw13195518567479892158:=0
def tw9895627799337238520:=0
def tw11686850958390028677:=0
def tw3288929576081496380:=0
def tw4910841633228882477:=0
def tw7101808175429483765:=0
def tw15934931889719542464:=0
def tw12120995077465765380:=0
def tw1053957429008871279:=0
def tw16765712447548930409:=0
def tw15735971374323189836:=0
def tw924411915413867588:=0
def tw926832717593024325:=0
def tw85984958920953426:=0
def tw12245442820667306486:=0
def tw16572020744349937800:=0
def tw10266522453355803870:=0
def tw6791498680570366672:=0
def tw5910659431628727869:=0
def tw15626187700426179890:=0
def tw10784673861723124431:=0
def tw7344194542625107555:=0
def tw13928976531996036012:=0
def tw13993603291507650380:=0
def tw7368134321958723658:=0
def tw8596057334145460953:=0
def tw2964253555269244880:=0
def tw10707888889387633385:=0
def tw15100679167194674789:=0
def tw956604497282280328:=0
def tw10113193448371074851:=0
def tw10330462824459219258:=0
def tw3705114982155068753:=0
def tw5426405025132167576:=0
def tw6714377138072333211:=0
def tw17593040447961379677:=0
def tw4726437717579331902:=0
def tw4085968714639238550:=0
def tw17642530027471567540:=0
def tw16828851870030474261:=0
def tw8847891586064105434:=0
def tw15260923661245461325:=0
def tw6126228185527110752:=0
def tw1070860969798084164:=0
def tw15405494725289853507:=0
def tw6381309251093201839:=0
def tw6558600388435143844:=0
def tw5493343618845756575:=0
def tw15981177263022074183:=0
def tw11709497108010934009:=0
def tw6343515992000562540:=0
def tw16700372980089897623:=0
def tw1134643063873835910:=0
def tw3820788427850514421:=0
def tw7123948118754570311:=0
def tw14778355398056110730:=0
def tw17758874316995597113:=0
def tw11183360489117328270:=0
def tw16214018728947995401:=0
def tw5723898348949646889:=0
def tw7734161902342388065:=0
def tw8995321870046520042:=0
def tw8263707976918087832:=0
def tw6418472032554786722:=0
def tw6895855763729876110:=0
def tw563695233718525686:=0
def tw7125636712784470611:=0
def tw18251767977964584814:=0
def tw12203226306595150946:=0
def tw4577502666595303534:=0
def tw8793124427003641693:=0
def tw9138241607724615893:=0
def tw15161623946231319655:=0
def tw10744377376083373834:=0
def tw7435064073064134809:=0
def tw18297815836905563868:=0
def tw13266459301451579250:=0
def tw10211346926714594044:=0
def tw4371255667854057271:=0
def tw9592179716568096745:=0
def tw8845433231087934207:=0
def tw17523847361924771259:=0
def tw12126105786820994257:=0
def tw7666023830917944882:=0
def tw383441597083004293:=0
def tw15115632506658397831:=0
def tw12637870432153801810:=0
def tw10290746422752296224:=0
def tw14007711203223503524:=0
def tw12787476137147126767:=0
def tw5134107684354689443:=0
def tw6270049918248934670:=0
def tw14578887017577645778:=0
def tw9563104900301799931:=0
def tw6860454801903820544:=0
def tw3975266582444458083:=0
def tw2760012265694725374:=0
def tw16509328731568799716:=0
def tw16328117571824491246:=0
def tw11653190606488558715:=0
def tw15278005543323615259:=0
def tw2908829842343507555:=0
def tw14941608039236231862:=0
def tw16789406384597646679:=0
def tw14300975902725064177:=0
def tw4589188764119309168:=0
def tw17357736741315909657:=0
def tw10798009033005061533:=0
def tw10011161666987802916:=0
def tw7742101313044342109:=0
def tw5515609114954152198:=0
def tw5124018096156981879:=0
def tw3018951399179552008:=0
def tw13585608804378483556:=0
def tw10392939281992097550:=0
def tw16685660491046632365:=0
def tw14407486320891670983:=0
def tw6765587197664914010:=0
def tw1242152452893804282:=0
def tw3860111536380147261:=0
def tw9673170614768982556:=0
def tw16634071729177565911:=0
def tw1215893777245801384:=0
def tw16240026784283972498:=0
def tw8973575773940668461:=0
def tw2521380496098878845:=0
def tw2193744963302802787:=0
def tw9986637054418804326:=0
def tw9764251607660093644:=0
def tw9117611447271876123:=0
def tw9057759507322276271:=0
def tw8639734852524077533:=0
def tw7572422126872794262:=0
def tw5126114350347994448:=0
def tw497361493033031161:=0
def tw4395876097566561049:=0
def tw3402156272007602170:=0
def tw2710827034779841193:=0
def tw2141404863361643249:=0
def tw18421714473967923006:=0
def tw18368675925198291196:=0
def tw18247709330489647720:=0
def tw17705571110730072477:=0
def tw17604067662799576891:=0
def tw17496350853232629956:=0
def tw15342227960967758415:=0
def tw15237468936393341220:=0
def tw14147186788295874787:=0
def tw11836543940654928506:=0
def tw11723460161907648428:=0
def tw10885991107044035093:=0
def tw3505395517336371756:=0
def tw5313378333097390938:=0
def tw17357539071600862223:=0
def tw6001055167163393826:=0
def tw13014843030744540406:=0
def tw12520728661204064330:=0
def tw17367430172159015607:=0
def tw17086413127634890449:=0
def tw5923247648004109187:=0
def tw7236543076320549050:=0
def tw4018980149134546379:=0
def tw349015395323900930:=0
def tw14620881898719884253:=0
def tw3901968549324958787:=0
def tw9484591304428404538:=0
def tw8074631687786649984:=0
def tw6045713412538213763:=0
def tw14543203032812084871:=0
def tw95978817840963622:=0
def tw8532157392573591146:=0
def tw3656573330819167463:=0
def tw18431526578081759736:=0
def tw13508575046769967343:=0
def tw5984641125232736750:=0
def tw12916868542667577269:=0
def tw3084334724275658178:=0
def tw17184479160677811828:=0
def tw1581826126802620040:=0
def tw11653111672031388106:=0
def tw10864337021908812184:=0
def tw8584920830035441526:=0
def tw5237553240983145398:=0
def tw4385017390143585191:=0
def tw3834728829075796544:=0
def tw3787589107594052285:=0
def tw2688236718742995443:=0
def tw16931446856218982042:=0
def tw16403115702755352815:=0
def tw15074649825674676589:=0
def tw1430345995503546967:=0
def tw13007169480295239198:=0
def tw12796964740200478903:=0
def tw12313204085275210979:=0
def tw17451167544365066533:=0
def tw948955065852329056:=0
def tw9448844844970834665:=0
def tw9422231005565244934:=0
def tw9381652822799861281:=0
def tw9327896787277868244:=0
def tw932713199855082729:=0
def tw8902670841953208556:=0
def tw885233902256240557:=0
def tw8767468605704226716:=0
def tw8328881189035606216:=0
def tw8317355980919133166:=0
def tw825564443243037949:=0
def tw822322850545896326:=0
def tw7691236182570443363:=0
def tw743017196368194340:=0
def tw7409341609113481296:=0
def tw6824985180366485331:=0
def tw6793941385848252902:=0
def tw6762078607521347760:=0
def tw6739207790534783483:=0
def tw6654684841761645550:=0
def tw6441297047428534071:=0
def tw6286551778144911249:=0
def tw5643663039101242426:=0
def tw4757495115968673151:=0
def tw4708277409353115923:=0
def tw4036983278252361423:=0
def tw3800556317493083823:=0
def tw3743201277926983774:=0
def tw3221072988825204173:=0
def tw3149617735265637513:=0
def tw2599750059119839345:=0
def tw2492695759665852788:=0
def tw18213465694008644593:=0
def tw1775370965472409909:=0
def tw17701605503828728198:=0
def tw17312721999710656574:=0
def tw15990158748791153830:=0
def tw15861732797743566084:=0
def tw15812178353925117721:=0
def tw15767851497786481685:=0
def tw15704480127714595663:=0
def tw15503879100260823441:=0
def tw14962700740995376297:=0
def tw14955360117606669783:=0
def tw14917716930792720652:=0
def tw14868762494538738591:=0
def tw14804808932757928671:=0
def tw1443114585756276743:=0
def tw143966215361999737:=0
def tw14191158662198093358:=0
def tw13980538839795955631:=0
def tw13829412019771280468:=0
def tw13442764664364768255:=0
def tw13387951010274244175:=0
def tw13189268898111061197:=0
def tw12963849708582853316:=0
def tw12818197261589340585:=0
def tw12404140333938962259:=0
def tw11998026791220816514:=0
def tw11612099956559809741:=0
def tw11520356190309964330:=0
def tw11273812433067283340:=0
def tw11102615320870778246:=0
def tw10736573345174829706:=0
def tw10733336591029683305:=0
def tw1052734222158002763:=0
def tw10480019012354801340:=0
def tw10104941220177723089:=0
end PySem.W.Fast
open PySem PySem.W PyProof.Rows
set_option maxRecDepth 100000 in
set_option maxHeartbeats 0 in
theorem PySem.Challenge.cw_gloss_k43_whole_ranks_or_ring_holds : PySem.Challenge.rw_gloss_k43_whole_ranks_or_ring.Holds := by
  w_on; o_law; k_head; (case hw => w_witness2)
  k_fill
  refine D.walk (l := PySem.Challenge.rw_gloss_k43_whole_ranks_or_ring) rfl rfl (fun w h Y => PySem.W.kIn_of Y) ?F
  case F =>
    intro w mg fa h KX G hmg
    refine' D.all_mk KX G hmg ?a1 ?l1 ?c1 ?k1 ?a2 ?l2 ?c2 ?k2 ?a3 ?l3 ?c3 ?k3 ?a4 ?l4 ?c4 ?k4 ?a5 ?l5 ?c5 ?k5 ?a6 ?l6 ?c6 ?k6 ?a7 ?l7 ?c7 ?k7 ?a8 ?l8 ?c8 ?k8 ?a9 ?l9 ?c9 ?k9 ?a10 ?l10 ?c10 ?k10 ?a11 ?l11 ?c11 ?k11 ?a12 ?l12 ?c12 ?k12 ?a13 ?l13 ?c13 ?k13 ?a14 ?l14 ?c14 ?k14 ?a15 ?l15 ?c15 ?k15 ?a16 ?l16 ?c16 ?k16 ?a17 ?l17 ?c17 ?k17 ?a18 ?l18 ?c18 ?k18 ?a19 ?l19 ?c19 ?k19 ?a20 ?l20 ?c20 ?k20 ?a21 ?l21 ?c21 ?k21 ?a22 ?l22 ?c22 ?k22 ?a23 ?l23 ?c23 ?k23 ?a24 ?l24 ?c24 ?k24 ?a25 ?l25 ?c25 ?k25 ?a26 ?l26 ?c26 ?k26 ?a27 ?l27 ?c27 ?k27 ?a28 ?l28 ?c28 ?k28 ?a29 ?l29 ?c29 ?k29 ?a30 ?l30 ?c30 ?k30 ?a31 ?l31 ?c31 ?k31 ?a32 ?l32 ?c32 ?k32 ?g1 ?g2 ?g3 ?g4 ?g5 ?g6 ?z1 ?z2 ?z3 ?z4 ?z5 ?z6 ?z7 ?z8 ?z9 ?z10 ?z11 ?z12 ?z13 ?z14 ?z15 ?y1 ?y2 ?y3 ?y4 ?y5 ?kb ?ki ?kS ?jI ?lI ?cI ?kI ?iI ?jL ?lL ?cL ?kL ?iL ?mk ?kC ?pg ?hd ?po ?sa ?nS ?nE ?kd ?kt ?jR ?lR ?cR ?kR ?tR ?jX ?s1 ?s2 ?s3 ?s4 ?s5 ?px ?pe ?pi ?pv ?pn
    (case a1 => k_is); (case l1 => k_is); (case c1 => k_is); (case k1 => k_is)
    (case a2 => k_is); (case l2 => k_is); (case c2 => k_is); (case k2 => k_is)
    (case a3 => k_is); (case l3 => k_is); (case c3 => k_is); (case k3 => k_is)
    (case a4 => k_is); (case l4 => k_is); (case c4 => k_is); (case k4 => k_is)
    (case a5 => k_is); (case l5 => k_is); (case c5 => k_is); (case k5 => k_is)
    (case a6 => k_is); (case l6 => k_is); (case c6 => k_is); (case k6 => k_is)
    (case a7 => k_is); (case l7 => k_is); (case c7 => k_is); (case k7 => k_is)
    (case a8 => k_is); (case l8 => k_is); (case c8 => k_is); (case k8 => k_is)
    (case a9 => k_is); (case l9 => k_is); (case c9 => k_is); (case k9 => k_is)
    (case a10 => k_is); (case l10 => k_is); (case c10 => k_is); (case k10 => k_is)
    (case a11 => k_is); (case l11 => k_is); (case c11 => k_is); (case k11 => k_is)
    (case a12 => k_is); (case l12 => k_is); (case c12 => k_is); (case k12 => k_is)
    (case a13 => k_is); (case l13 => k_is); (case c13 => k_is); (case k13 => k_is)
    (case a14 => k_is); (case l14 => k_is); (case c14 => k_is); (case k14 => k_is)
    (case a15 => k_is); (case l15 => k_is); (case c15 => k_is); (case k15 => k_is)
    (case a16 => k_is); (case l16 => k_is); (case c16 => k_is); (case k16 => k_is)
    (case a17 => k_is); (case l17 => k_is); (case c17 => k_is); (case k17 => k_is)
    (case a18 => k_is); (case l18 => k_is); (case c18 => k_is); (case k18 => k_is)
    (case a19 => k_is); (case l19 => k_is); (case c19 => k_is); (case k19 => k_is)
    (case a20 => k_is); (case l20 => k_is); (case c20 => k_is); (case k20 => k_is)
    (case a21 => k_is); (case l21 => k_is); (case c21 => k_is); (case k21 => k_is)
    (case a22 => k_is); (case l22 => k_is); (case c22 => k_is); (case k22 => k_is)
    (case a23 => k_is); (case l23 => k_is); (case c23 => k_is); (case k23 => k_is)
    (case a24 => k_is); (case l24 => k_is); (case c24 => k_is); (case k24 => k_is)
    (case a25 => k_is); (case l25 => k_is); (case c25 => k_is); (case k25 => k_is)
    (case a26 => k_is); (case l26 => k_is); (case c26 => k_is); (case k26 => k_is)
    (case a27 => k_is); (case l27 => k_is); (case c27 => k_is); (case k27 => k_is)
    (case a28 => k_is); (case l28 => k_is); (case c28 => k_is); (case k28 => k_is)
    (case a29 => k_is); (case l29 => k_is); (case c29 => k_is); (case k29 => k_is)
    (case a30 => k_is); (case l30 => k_is); (case c30 => k_is); (case k30 => k_is)
    (case a31 => k_is); (case l31 => k_is); (case c31 => k_is); (case k31 => k_is)
    (case a32 => k_is); (case l32 => k_is); (case c32 => k_is); (case k32 => k_is)
    (case g1 => k_is); (case g2 => k_is); (case g3 => k_is); (case g4 => k_is); (case g5 => k_is); (case g6 => k_is)
    (case z1 => k_is); (case z2 => k_is); (case z3 => k_is); (case z4 => k_is); (case z5 => k_is); (case z6 => k_is); (case z7 => k_is); (case z8 => k_is); (case z9 => k_is); (case z10 => k_is); (case z11 => k_is); (case z12 => k_is); (case z13 => k_is); (case z14 => k_is); (case z15 => k_is)
    (case y1 => k_is); (case y2 => k_is); (case y3 => k_is); (case y4 => k_is); (case y5 => k_is)
    (case kb => kernel_rfl)
    (case ki => kernel_rfl)
    (case kS => kernel_rfl)
    (case jI => k_is)
    (case lI => k_is)
    (case cI => k_is)
    (case kI => k_is)
    (case iI => kernel_rfl)
    (case jL => k_is)
    (case lL => k_is)
    (case cL => k_is)
    (case kL => k_is)
    (case iL => kernel_rfl)
    (case mk => kernel_rfl)
    (case kC => k_is)
    (case pg => kernel_rfl)
    (case hd => kernel_rfl)
    (case po => kernel_rfl)
    (case sa => k_is)
    (case nS => k_is)
    (case nE => k_is)
    (case kd => kernel_rfl)
    (case kt => kernel_rfl)
    (case jR => k_is)
    (case lR => k_is)
    (case cR => k_is)
    (case kR => k_is)
    (case tR => k_is)
    (case jX => kernel_rfl)
    (case s1 => k_is)
    (case s2 => k_is)
    (case s3 => k_is)
    (case s4 => kernel_rfl)
    (case s5 => kernel_rfl)
    (case px => exact ⟨by kernel_rfl, by k_is, by k_is, by k_is, by k_is, by k_is, by k_is, by k_is⟩)
    (case pe => kernel_rfl)
    (case pi => kernel_rfl)
    (case pv => kernel_rfl)
    (case pn => kernel_rfl)

