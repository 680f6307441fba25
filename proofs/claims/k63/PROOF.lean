import PyProof.Rows.All
import Wide.All
import OpenK.AllK
import Wide.FinOn
import Lean
import PyProof.EqAt
import PyProof.EqKinds
import PyProof.TupleCall
import PyProof.Draws
import PyProof.EnumMake
import PyProof.WalksEnum
import PyProof.TupleIter
import PyProof.NeData
import PyProof.WalksMore
import PyProof.Rows.StrJoin2
import PyProof.StrWalks
import PyProof.StrBlockH
import PyProof.StrLawsTight
import PyProof.Rows.StrItems
import OpenK.KOwn
import PyProof.NsDelKeeps
import PyProof.RulesAs
import PyProof.ExcAttrAll.ValueError
import PyProof.FitsBits
import PyProof.ZipIter
import PyProof.SumWalkG
import PyProof.CompUse
import PyProof.StrLawsChain
import PyProof.MinMaxWalk
import PyProof.WalkInts
import KE.KSortAsk
import KE.KSortTup
import PyProof.MaxThree
import PyProof.StrOps
import PyProof.Rows.Range3
import KE.KRevIter
import PyProof.SliceStr2
import PyProof.StrLawsIdx
import PyProof.StrOps2
import PyProof.EnumStmt
import PySem.Challenge.RW_squaresheet_k63_whole_bands_by_walking
open PySem.W renaming Frag->Y00,nsIn->Y0u,mg_none_of->Y0x,findIn->Y15,fnOf->Y1m,keepIn->Y1p,kia_one->Y1w,mg_of->Y27,emptyDict->Y2e,kitOne->Y2i,codeIn->Y30,instObj->Y31,plainGet->Y3t,hideAll_get->Y3w,hasDictIn->Y4c,specialIn->Y4d,hideAll->Y4s,plainGet_of->Y4t,takesIn->Y4u,binds_K->Y4z,of_hideAll->Y53,isFn->Y57,callWith_K->Y58,lookIn->Y5g,methodObj->Y5l,plainOver->Y5m,mroIn->Y5q
open List renaming getElem?_eq_getElem->Y01,range->Y02,getD_eq_getElem?_getD->Y04,mem_range->Y06,length_map->Y07,getElem?_eq_some_iff->Y08,mem_append_right->Y0a,replicate->Y0c,size_toArray->Y0e,mem_map->Y0g,length_append->Y0h,mem_singleton->Y0k,getElem?_map->Y0l,mem_append->Y0n,mem_filter->Y0p,mem_of_getElem?->Y0r,length_range->Y0v,length_cons->Y0w,mem_cons_of_mem->Y0y,map_cons->Y11,mem_cons->Y14,getElem?_eq_none->Y18,any_eq_true->Y1e,mem_iff_getElem->Y1i,take_add_one->Y1j,idxOf_lt_length_of_mem->Y1k,map_map->Y1n,append_nil->Y1o,pairwise_map->Y1q,filter_append->Y1t,map_congr_left->Y1x,map_append->Y1z,length_filter_le->Y20,lookup_cons->Y23,nodup_range->Y24,length_eq_zero_iff->Y25,filter_cons_of_pos->Y26,perm_ext_iff_of_nodup->Y28,mem_cons_self->Y29,flatten_cons->Y2f,pairwise_append->Y2k,getElem_mem->Y2m,take_length->Y2n,sum_replicate_nat->Y2p,length->Y2q,replicate_succ->Y2r,append_assoc->Y2s,ext_getElem?->Y2u,getElem?_range->Y2v,range_succ->Y2w,filter_cons_of_neg->Y2z,length_flatten->Y34,length_replicate->Y36,map_replicate->Y37,getElem?_append_left->Y38,pairwise_iff_getElem->Y39,drop_eq_getElem_cons->Y3a,foldl_append->Y3c,all_eq_true->Y3f,getD->Y3g,not_mem_nil->Y3h,getElem?_set_self->Y3i,nodup_cons->Y3j,length_singleton->Y3l,find?_cons->Y3m,getElem?_set_ne->Y3r,length_take->Y3u,mem_flatten->Y3v,filterMap_cons->Y3x,lookup->Y3y,filter_sublist->Y40,flatten_append->Y41,getElem?_replicate->Y46,nil_append->Y47,take_of_length_le->Y4a,pairwise_lt_range->Y4b,map_nil->Y4i,take_append_drop->Y4k,mem_append_left->Y4p,any_cons->Y4q,dropLast_concat_getLast->Y4r,length_nil->Y4v,getElem?_append_right->Y50,mem_filterMap->Y56,getElem_idxOf->Y59,pairwise_cons->Y5a,mem_of_find?_eq_some->Y5j,nodup_append->Y5n,flatMap_cons->Y5o
open PySem.Heap renaming get?_push_of_some->Y03,lt_size->Y09,get?_push_size->Y0b,get?_update_other->Y1h,size_push->Y21,get?_update_self->Y3k,SameBut->Y54
open Nat renaming le_refl->Y05,ne_of_lt->Y0j,lt_of_lt_of_le->Y0o,lt_or_ge->Y0q,le_trans->Y0z,zero_le->Y12,le_of_lt->Y16,lt_succ_of_lt->Y1f,lt_of_le_of_lt->Y1s,not_lt_zero->Y1y,lt_irrefl->Y2d,lt_succ_self->Y2l,add_le_add_left->Y3d,lt_trichotomy->Y3p,le_succ->Y3z,ne_of_gt->Y55,sub_self->Y5e
open Int renaming mul_comm->Y0d,mul_assoc->Y0f,mul_ediv_cancel_left->Y0m,mul_sub->Y0s,mul_le_mul_of_nonneg_right->Y0t,mul_le_mul_of_nonneg_left->Y10,mul_pos->Y13,mul_add->Y17,mul_left_comm->Y19,mul_lt_mul_of_pos_right->Y1b,lt_or_le->Y1c,mul_lt_mul_of_pos_left->Y1d,toNat_natCast->Y1g,mul_nonneg->Y1l,dvd_mul_right->Y1r,dvd_trans->Y1u,gcd->Y1v,emod_lt_of_pos->Y2a,eq_of_mul_eq_mul_left->Y2c,mul_zero->Y2g,dvd_mul_of_dvd_right->Y2h,add_mul->Y2j,fdiv_eq_ediv_of_nonneg->Y2o,toNat_of_nonneg->Y2t,emod_nonneg->Y2x,mul_neg->Y2y,mul_one->Y33,ediv_eq_zero_of_lt->Y35,neg_mul->Y3b,eq_ofNat_of_zero_le->Y3e,mul_eq_zero->Y3n,sub_zero->Y3o,eq_of_mul_eq_mul_right->Y3q,sub_mul->Y42,zero_mul->Y43,zero_add->Y44,mul_nonpos_of_nonpos_of_nonneg->Y45,natAbs_natCast->Y48,lt_or_gt_of_ne->Y49,le_refl->Y4e,dvd_add->Y4f,lt_trichotomy->Y4g,natAbs_mul->Y4h,mul_ediv_add_emod->Y4l,le_ediv_of_mul_le->Y4m,natCast_emod->Y4n,dvd_mul_left->Y4o,neg_mul_neg->Y4w,dvd_sub->Y4x,one_mul->Y4y,add_mul_emod_self_left->Y52,le_of_lt->Y5b,dvd_zero->Y5c,dvd_refl->Y5d,add_zero->Y5f,mul_neg_of_neg_of_pos->Y5h,natAbs_fdiv_le_natAbs->Y5i,lt_of_mul_lt_mul_left->Y5k,pos_of_mul_pos_right->Y5p,dvd_mul_of_dvd_left->Y5r,emod_eq_zero_of_dvd->Y5s
open Bool renaming false_ne_true->Y0i,and_eq_true->Y22,eq_iff_iff->Y2b
open Array renaming getD_eq_getD_getElem?->Y1a,length_toList->Y32,getElem?_eq_getElem->Y3s,getElem?_toList->Y4j,getElem?_eq_some_iff->Y51
set_option Elab.async false
set_option linter.all false
set_option maxRecDepth 100000
namespace L2
open PySem PySem.Spec PyProof.Rows
noncomputable abbrev Key:=Sum Int Str
noncomputable def V2:Key->Value->Bool
 | .inl k,v=>Value.isInt k v
 | .inr x,v=>Value.isStrOf x v
noncomputable def keyH (w:World):Key->Int
 | .inl k=>hashInt k
 | .inr x=>hashStr w x
theorem XD:∀ {k:Key} {v:Value},V2 k v=true->(∃ i t,k=Sum.inl i/\v=Value.int i t)\/(∃ x t,k=Sum.inr x/\v=Value.str x t)
 | .inl i,v,h=>by
  obtain⟨t,e⟩:=Value.isInt_shape (k:=i) (v:=v) h;exact .inl ⟨i,t,rfl,e⟩
 | .inr x,v,h=>by
  obtain⟨t,e⟩:=Value.isStrOf_shape (x:=x) (v:=v) h;exact .inr ⟨x,t,rfl,e⟩
theorem ZbT (i:Int)(t:Tok):V2 (.inl i) (.int i t)=true:=by simp[V2,Value.isInt]
theorem UF (x:Str)(t:Tok):V2 (.inr x) (.str x t)=true:=by simp[V2,Value.isStrOf]
theorem ZiF (a b:Int):decide ((Sum.inl a:Key)=Sum.inl b)=(a==b):=by
 by_cases e:a=b
 ·subst e;simp
 ·have h:¬ (Sum.inl a:Key)=Sum.inl b:=fun q=>e (Sum.inl.inj q);rw[decide_eq_false h];exact (beq_eq_false_iff_ne.mpr e).symm
theorem Ziq (a b:Str):decide ((Sum.inr a:Key)=Sum.inr b)=decide (a=b):=by
 by_cases e:a=b
 ·subst e;simp
 ·have h:¬ (Sum.inr a:Key)=Sum.inr b:=fun q=>e (Sum.inr.inj q);rw[decide_eq_false h,decide_eq_false e]
theorem Zht (a:Int)(b:Str):decide ((Sum.inl a:Key)=Sum.inr b)=false:=decide_eq_false (fun q=>nomatch q)
theorem ZhA (a:Str)(b:Int):decide ((Sum.inr a:Key)=Sum.inl b)=false:=decide_eq_false (fun q=>nomatch q)
noncomputable def YZ (prog:Program)(w:World):PySem.KeyKind prog w Key where
 is:=V2
 hash:=keyH w
 inj:=fun v a b ha hb=>by
  rcases XD ha with ⟨i,t,rfl,rfl⟩|⟨x,t,rfl,rfl⟩
  ·rcases XD hb with ⟨j,u,rfl,e⟩|⟨y,u,rfl,e⟩
   ·injection e with e1 _;rw[e1]
   ·exact nomatch e
  ·rcases XD hb with ⟨j,u,rfl,e⟩|⟨y,u,rfl,e⟩
   ·exact nomatch e
   ·injection e with e1 _;rw[e1]
 byValue:=fun k v h=>by
  rcases XD h with ⟨i,t,rfl,rfl⟩|⟨x,t,rfl,rfl⟩<;>rfl
 pyHash:=fun hv h=>by
  rcases XD hv with ⟨i,t,rfl,rfl⟩|⟨x,t,rfl,rfl⟩
  ·exact wpAny_pyHash_int h
  ·exact wpAny_pyHash_str h
 eqBool:=fun hu hv h=>by
  rcases XD hu with ⟨i,t,rfl,rfl⟩|⟨x,t,rfl,rfl⟩
  ·rcases XD hv with ⟨j,u,rfl,rfl⟩|⟨y,u,rfl,rfl⟩
   ·rw[ZiF]at h;exact wpAny_eqBool_int h
   ·rw[Zht]at h;exact SeqAt.EqAt.int_str i t y u _ _ _ _ h
  ·rcases XD hv with ⟨j,u,rfl,rfl⟩|⟨y,u,rfl,rfl⟩
   ·rw[ZhA]at h;exact SeqAt.EqAt.str_int x t j u _ _ _ _ h
   ·rw[Ziq]at h;exact wpAny_eqBool_str h
 «strs»:=fun k x t v h=>by
  rcases XD h with ⟨i,u,rfl,e⟩|⟨y,u,rfl,e⟩
  ·exact nomatch e
  ·injection e with e1 _
   subst e1;cases v<;>rfl
theorem Z5f (prog:Program)(w:World)(i:Int)(t:Tok):(YZ prog w).is (.inl i) (.int i t)=true:=ZbT i t
theorem Z5i (prog:Program)(w:World)(x:Str)(t:Tok):(YZ prog w).is (.inr x) (.str x t)=true:=UF x t
inductive V where
 | non|bl (b:Bool)|int (i:Int)|str (x:Str)|byt (b:Array UInt8)|flt (b:UInt64)|ref (a:Addr)|ty (n:String)
 deriving DecidableEq
def ZM:V->Value->Prop
 | .non,u=>u=Value.none
 | .bl b,u=>u=Value.bool b
 | .int i,u=>∃ t,u=Value.int i t
 | .str x,u=>∃ t,u=Value.str x t
 | .byt b,u=>∃ t,u=Value.bytes b t
 | .flt b,u=>∃ t,u=Value.float b t
 | .ref a,u=>u=Value.ref a
 | .ty n,u=>u=Value.type n
abbrev ZN:List V->List Value->Prop:=Paired ZM
theorem ZN.length {xs:List V}{us:List Value}(r:ZN xs us):xs.length=us.length:=Paired.length r
theorem ZN.get:∀ {xs:List V} {us:List Value} {i:Nat} {x:V},ZN xs us->xs[i]?=some x->∃ u,us[i]?=some u/\ZM x u
 | _,_,_,_,.nil,e=>by simp at e
 | _,_,0,_,.cons r _,e=>by simp at e;subst e;exact⟨_,rfl,r⟩
 | _,_,i+1,x,.cons _ t,e=>by
  obtain⟨u,h1,h2⟩:=ZN.get (i:=i) (x:=x) t (by simpa using e);exact⟨u,by simpa using h1,h2⟩
theorem ZN.set {x:V}{u:Value}(r:ZM x u):∀ {xs:List V} {us:List Value} (i:Nat),ZN xs us->ZN (xs.set i x) (us.set i u)
 | _,_,_,.nil=>.nil
 | _,_,0,.cons _ t=>.cons r t
 | _,_,i+1,.cons q t=>.cons q (ZN.set r i t)
theorem ZN.append:∀ {xs ys:List V} {us ws:List Value},ZN xs us->ZN ys ws->ZN (xs++ys) (us++ws)
 | _,_,_,_,.nil,s=>s
 | _,_,_,_,.cons r t,s=>.cons r (ZN.append t s)
def Yw:Option V->Option Value->Prop
 | some v,some u=>ZM v u
 | none,none=>True
 | _,_=>False
def KV {κ:Type}:List (κ×V)->List (κ×Value)->Prop:=Paired fun (p:κ×V) (q:κ×Value)=>p.1=q.1/\ZM p.2 q.2
noncomputable def kV:Key->V
 | .inl i=>.int i
 | .inr x=>.str x
inductive HO where
 | lst (xs:List V)
 | tup (xs:List V)
 | dK (kvs:List (Key×V))|dT (kvs:List (List Key×V))
 | set (S:Int->Bool) (n:Nat)
 | ins (C dx:Addr) (fs:List (Str×V))
 | own (x:Addr)
 | xd (fs:List (Str×V))
 | met (f x:Addr)
 | rng (lo hi:Int)
 | frz (o:Obj) (u:HO)
 | tbl (ps:Array Value)
 | ext (φ:Heap->Prop)
noncomputable abbrev Hp:=Addr->Option HO
noncomputable def upd (H:Hp)(a:Addr)(o:HO):Hp:=fun b=>if b=a then some o else H b
theorem ZR {H:Hp}{a:Addr}{o:HO}:upd H a o a=some o:=by unfold upd;rw[if_pos rfl]
theorem ZK {H:Hp}{a b:Addr}{o:HO}(h:b≠a):upd H a o b=H b:=by unfold upd;rw[if_neg h]
theorem ZjR {H:Hp}{a b:Addr}{o u:HO}(h:H a=some o)(h':H b=some u)(d:o≠u):a≠b:=by
 intro e;subst e;rw[h]at h';exact d (Option.some.inj h')
theorem Zc {H:Hp}{a b:Addr}{o:HO}(h:H a=some o)(h':H b=none):a≠b:=by
 intro e;subst e;rw[h]at h';cases h'
section
variable (P:Program)(w:World)
def NoD (h:Heap)(a:Addr):Prop:=∃ o,h.get? a=some o/\o.dict=none
def Zf (H:Hp)(h:Heap)(a:Addr):HO->Prop
 | .lst xs=>xs.length<=sizeLine/\∃ (its:List Value) (n:Nat),ZN xs its/\h.get? a=some { cls:=.type "list",data:=.seq its.toArray n }
 | .tup xs=>(xs.length<=sizeLine/\NoD h a)/\∃ its:List Value,ZN xs its/\IsTup h a its.toArray
 | .dK kvs=>kvs.length<=sizeLine/\(a==sysModules)=false/\∃ vs,KV kvs vs/\h.DictOf (YZ P w) a vs
 | .dT kvs=>kvs.length<=sizeLine/\(a==sysModules)=false/\∃ xs:List (List Key×Addr×Value),
   Paired (fun (p:List Key×V) (q:List Key×Addr×Value)=>p.1=q.1/\H q.2.1=some (.tup (p.1.map kV))/\ZM p.2 q.2.2) kvs xs/\
   ∃ o es ep,h.get? a=some o/\o.ExactDict/\o.data=.dict es ep/\es.toList=xs.map (entryOfKey (tupleKind (YZ P w)))/\(xs.map (·.1)).Nodup
 | .set S n=>h.SetOf (intKind P w) a S n
 | .ins C dx fs=>H dx=some (.own a)/\fs.length<=1000/\dx≠a/\h.get? a=some (Y31 C dx)/\
   ∃ mA,h.Ns1 dx mA/\(∀ f,Yw (fs.lookup f) (mA f))/\PySem.Within mA (fs.map (·.1))
 | .own _=>∃ o,h.get? a=some o
 | .xd fs=>∃ mA,h.Ns1 a mA/\∀ f,Yw (fs.lookup f) (mA f)
 | .rng lo hi=>∃ t u v,h.get? a=some { cls:=.type "range",data:=.fields #[.int lo t,.int hi u,.int 1 v] }
 | .frz o u=>h.get? a=some o/\Zf H h a u
 | .tbl ps=>h.get? a=some { cls:=.none,data:=.fields ps }
 | .met f x=>h.get? a=some (Y5l (.ref f) (.ref x))
 | .ext φ=>φ h/\(∃ o,h.get? a=some o)/\∀ h1 h2:Heap,φ h1->(∀ o,h1.get? a=some o->h2.get? a=some o)->φ h2
def HOk (H:Hp)(h:Heap):Prop:=∀ a o,H a=some o->Zf P w H h a o
end
section
variable {P:Program}{w:World}{H H':Hp}{h h':Heap}{a:Addr}{o:HO}
theorem Zf.lt (x:Zf P w H h a o):a<h.objs.size:=by
 cases o with
 | lst xs=>obtain⟨_,_,_,_,e⟩:=x;exact Y09 e
 | tup xs=>obtain⟨_,_,_,p⟩:=x;exact p.lt
 | dK kvs=>obtain⟨_,_,_,_,o,_,_,e,_⟩:=x;exact Y09 e
 | dT kvs=>obtain⟨_,_,_,_,o,_,_,e,_⟩:=x;exact Y09 e
 | set S n=>obtain⟨o,_,_,_,e,_⟩:=x;exact Y09 e
 | ins C dx fs=>obtain⟨_,_,_,e,_⟩:=x;exact Y09 e
 | own y=>obtain⟨_,e⟩:=x;exact Y09 e
 | xd fs=>obtain⟨_,⟨_,_,_,e,_⟩,_⟩:=x;exact Y09 e
 | rng lo hi=>obtain⟨_,_,_,e⟩:=x;exact Y09 e
 | frz ob u=>obtain⟨e,_⟩:=x;exact Y09 e
 | tbl ps=>exact Y09 (show h.get? a=some _ from x)
 | met f y=>exact Y09 (show h.get? a=some _ from x)
 | ext φ=>obtain⟨_,⟨_,e⟩,_⟩:=x;exact Y09 e
theorem Paired.mapP {α β:Type}{F G:α->β->Prop}:∀ {l₁:List α} {l₂:List β},Paired F l₁ l₂->(∀ a b,F a b->G a b)->Paired G l₁ l₂
 | _,_,.nil,_=>.nil
 | _,_,.cons r t,f=>.cons (f _ _ r) (Paired.mapP t f)
theorem Zf.stay (x:Zf P w H h a o)(k:∀ b u,(b=a\/H b=some (.own a))->h.get? b=some u->h'.get? b=some u)
  (ho:∀ b,H b=some (.own a)->H' b=some (.own a)) (ht:∀ b xs,H b=some (.tup xs)->H' b=some (.tup xs)):Zf P w H' h' a o:=by
 induction o with
 | lst xs=>obtain⟨z,its,n,r,e⟩:=x;exact⟨z,its,n,r,k _ _ (.inl rfl) e⟩
 | tup xs=>obtain⟨z,its,r,ob,e,c⟩:=x;exact⟨⟨z.1,z.2.imp fun _ q=>⟨k _ _ (.inl rfl) q.1,q.2⟩⟩,its,r,ob,k _ _ (.inl rfl) e,c⟩
 | dK kvs=>obtain⟨z,y,vs,r,ob,es,ep,e,c⟩:=x;exact⟨z,y,vs,r,ob,es,ep,k _ _ (.inl rfl) e,c⟩
 | dT kvs=>
  obtain⟨z,y,xs,r,ob,es,ep,e,c⟩:=x;exact⟨z,y,xs,Paired.mapP r fun p q z=>⟨z.1,ht _ _ z.2.1,z.2.2⟩,ob,es,ep,k _ _ (.inl rfl) e,c⟩
 | set S n=>obtain⟨ob,es,ep,t,e,c⟩:=x;exact⟨ob,es,ep,t,k _ _ (.inl rfl) e,c⟩
 | ins C dx fs=>
  obtain⟨d,z,ne,e,mA,⟨od,es,ep,e2,c⟩,r⟩:=x;exact⟨ho _ d,z,ne,k _ _ (.inl rfl) e,mA,⟨od,es,ep,k _ _ (.inr d) e2,c⟩,r⟩
 | own y=>obtain⟨ob,e⟩:=x;exact⟨ob,k _ _ (.inl rfl) e⟩
 | xd fs=>obtain⟨mA,⟨od,es,ep,e,c⟩,r⟩:=x;exact⟨mA,⟨od,es,ep,k _ _ (.inl rfl) e,c⟩,r⟩
 | rng lo hi=>obtain⟨t,u,v,e⟩:=x;exact⟨t,u,v,k _ _ (.inl rfl) e⟩
 | frz ob u ih=>obtain⟨e,q⟩:=x;exact⟨k _ _ (.inl rfl) e,ih q⟩
 | tbl ps=>
  have e:h.get? a=some { cls:=.none,data:=.fields ps }:=x;show h'.get? a=some { cls:=.none,data:=.fields ps };exact k a _ (.inl rfl) e
 | met f y=>
  have e:h.get? a=some (Y5l (.ref f) (.ref y)):=x;show h'.get? a=some (Y5l (.ref f) (.ref y));exact k a _ (.inl rfl) e
 | ext φ=>obtain⟨p,⟨o,e⟩,st⟩:=x;exact⟨st _ _ p fun o q=>k _ _ (.inl rfl) q,⟨o,k _ _ (.inl rfl) e⟩,st⟩
theorem HOk.lt (x:HOk P w H h)(e:H a=some o):a<h.objs.size:=(x a o e).lt
theorem HOk.fresh (x:HOk P w H h)(e:h.objs.size<=a):H a=none:=by
 cases q:H a with
 | none=>rfl
 | some u=>exact absurd (Y0o (x.lt q) e) (Y2d _)
theorem HOk.kept (x:HOk P w H h)(k:∀ b u,h.get? b=some u->h'.get? b=some u):HOk P w H h':=fun a o e=>
 (x a o e).stay (fun b u _ q=>k b u q) (fun _ q=>q) fun _ _ q=>q
theorem HOk.laid (x:HOk P w H h)(k:∀ b u,h.get? b=some u->h'.get? b=some u)(hp:h.objs.size<=a)(new:Zf P w (upd H a o) h' a o):HOk P w (upd H a o) h':=fun b u e=>by
 have hn:=x.fresh hp
 by_cases hb:b=a
 ·subst hb;rw[ZR]at e;cases e;exact new
 ·rw[ZK hb]at e;exact (x b u e).stay (fun c v _ q=>k c v q) (fun c q=>by rw[ZK (Zc q hn)];exact q) fun c xs q=>by rw[ZK (Zc q hn)];exact q
end
def Rd (H:Hp)(a:Addr)(u:HO):Prop:=H a=some u\/∃ o,H a=some (.frz o u)
theorem Rd.ok {P:Program}{w:World}{H:Hp}{h:Heap}{a:Addr}{u:HO}(r:Rd H a u)(x:HOk P w H h):Zf P w H h a u:=by
 rcases r with r|⟨o,r⟩
 ·exact x a u r
 ·obtain⟨_,q⟩:=x a _ r;exact q
def Mut:Option HO->Prop
 | some (.lst _)=>True
 | some (.dK _)=>True
 | some (.dT _)=>True
 | some (.set _ _)=>True
 | some (.ins _ _ _)=>True
 | some (.ext _)=>True
 | _=>False
section
variable {P:Program}{w:World}{H:Hp}{h h':Heap}{x e:Addr}{o':HO}
theorem HOk.write (ok:HOk P w H h)(mu:Mut (H x))(he:e=x\/H e=some (.own x))(k:∀ b u,b≠e->h.get? b=some u->h'.get? b=some u)(heo:∃ u,h'.get? e=some u)
  (new:Zf P w (upd H x o') h' x o'):HOk P w (upd H x o') h':=fun b u q=>by
 have nown:∀ c y,H c=some (.own y)->c≠x:=fun c y r z=>by subst z;rw[r]at mu;exact mu
 have ntup:∀ c xs,H c=some (.tup xs)->c≠x:=fun c xs r z=>by subst z;rw[r]at mu;exact mu
 by_cases hb:b=x
 ·subst hb;rw[ZR]at q;cases q;exact new
 ·rw[ZK hb]at q
  by_cases hbe:b=e
  ·have q':H b=some (.own x):=by
    rcases he with z|z
    ·exact absurd (hbe.trans z) hb
    ·rw[hbe];exact z
   rw[q]at q';cases q';obtain⟨v,hv⟩:=heo;exact⟨v,by rw[hbe];exact hv⟩
  ·refine (ok b u q).stay (fun c v hc r=>k c v ?_ r) (fun c r=>by rw[ZK (nown c b r)];exact r) fun c xs r=>by rw[ZK (ntup c xs r)];exact r
   rcases hc with rfl|hc
   ·exact hbe
   ·rintro rfl;rcases he with z|z
    ·exact nown c b hc z
    ·rw[hc]at z;cases z;exact hb rfl
end
structure Un (fs ex:List Addr)(H H':Hp)(h h':Heap):Prop where
 keep:∀ b o,h.get? b=some o->H b=none->b∉fs->b∉ex->h'.get? b=some o
 slot:∀ b o,h.get? b=some o->H b=none->b∈fs->b∉ex->∃ sl,h'.get? b=some { o with slots:=sl }
 free:∀ b o,h.get? b=some o->H b=none->b∉ex->H' b=none
 there:∀ b o,h.get? b=some o->b∉ex->∃ o',h'.get? b=some o'
 tups:∀ b xs,H b=some (.tup xs)->H' b=some (.tup xs)
 frzs:∀ b o u,H b=some (.frz o u)->H' b=some (.frz o u)
 tbls:∀ b ps,H b=some (.tbl ps)->∃ more,H' b=some (.tbl (ps++more))
section
variable {fs fs' ex ex':List Addr}{H H1 H2:Hp}{h h1 h2 h':Heap}{a x e:Addr}{o:HO}
theorem Un.any (u:Un fs ex H H1 h h1){b:Addr}{ob:Obj}(q:h.get? b=some ob)(n:H b=none)(hx:b∉ex):∃ sl,h1.get? b=some { ob with slots:=sl }:=by
 by_cases hb:b∈fs
 ·exact u.slot b ob q n hb hx
 ·exact⟨ob.slots,u.keep b ob q n hb hx⟩
theorem Un.kept (k:∀ b u,h.get? b=some u->h'.get? b=some u):Un fs ex H H h h':=
 ⟨fun b ob q _ _ _=>k b ob q,fun b ob q _ _ _=>⟨ob.slots,k b ob q⟩,fun _ _ _ n _=>n,fun b ob q _=>⟨ob,k b ob q⟩,fun _ _ q=>q,fun _ _ _ q=>q,fun _ ps q=>⟨#[],by rw[q];simp⟩⟩
theorem Un.refl:Un fs ex H H h h:=Un.kept fun _ _ q=>q
theorem Un.laid (k:∀ b u,h.get? b=some u->h'.get? b=some u)(hp:h.objs.size<=a)(hn:H a=none):Un fs ex H (upd H a o) h h' where
 keep:=fun b u q _ _ _=>k b u q
 slot:=fun b u q _ _ _=>⟨u.slots,k b u q⟩
 free:=fun b u q n _=>by rw[ZK (Y0j (Y0o (Y09 q) hp))];exact n
 there:=fun b u q _=>⟨u,k b u q⟩
 tups:=fun b xs q=>by rw[ZK (Zc q hn)];exact q
 frzs:=fun b u xs q=>by rw[ZK (Zc q hn)];exact q
 tbls:=fun b ps q=>⟨#[],by rw[ZK (Zc q hn),q];simp⟩
theorem Un.write (mu:Mut (H x))(he:e=x\/H e=some (.own x))(k:∀ b u,b≠e->h.get? b=some u->h'.get? b=some u)(heo:∃ u,h'.get? e=some u):Un fs ex H (upd H x o) h h':=by
 have hx:∀ b,H b=none->b≠x:=fun b n z=>by subst z;rw[n]at mu;exact mu
 have hb:∀ b,H b=none->b≠e:=fun b n z=>by
  subst z;rcases he with r|r
  ·exact hx b n r
  ·rw[n]at r;cases r
 have hm:∀ b u,H b=some u->¬ Mut (some u)->b≠x:=fun b u q nm z=>by subst z;rw[q]at mu;exact nm mu
 refine⟨fun b u q n _ _=>k b u (hb b n) q,fun b u q n _ _=>⟨u.slots,k b u (hb b n) q⟩,fun b u q n _=>by rw[ZK (hx b n)];exact n,fun b u q _=>?_,
  fun b xs q=>by rw[ZK (hm b _ q fun z=>z)];exact q,fun b u xs q=>by rw[ZK (hm b _ q fun z=>z)];exact q,fun b ps q=>⟨#[],by rw[ZK (hm b _ q fun z=>z),q];simp⟩⟩
 by_cases hbe:b=e
 ·subst hbe;exact heo
 ·exact⟨u,k b u hbe q⟩
end
noncomputable def trk (h:Heap)(H:Hp):List Addr:=(Y02 h.objs.size).filter fun a=>(H a).isSome
noncomputable def W6 (h:Heap)(H:Hp):Heap:=Y4s h (trk h H)
theorem Zb4 (h:Heap)(H:Hp):(W6 h H).objs.size=h.objs.size:=PySem.W.hideAll_size _ _
theorem Zcn {h:Heap}{H:Hp}{b:Addr}{o:Obj}(e:h.get? b=some o)(n:H b=none):(W6 h H).get? b=some o:=
 Y3w _ e fun hm=>by
  have q:(H b).isSome=true:=(Y0p.mp hm).2;rw[n]at q;simp at q
theorem Zfi {h:Heap}{H:Hp}{b:Addr}{o:Obj}(e:(W6 h H).get? b=some o):h.get? b=some o/\H b=none:=by
 have e':h.get? b=some o:=Y53 (trk h H) e;refine⟨e',?_⟩;cases q:H b with
 | none=>rfl
 | some x=>
  have hm:b∈trk h H:=Y0p.mpr ⟨Y06.mpr (Y09 e'),by simp[q]⟩;have z:(W6 h H).get? b=none:=PySem.W.hideAll_none (trk h H) hm;rw[z]at e;cases e
structure Mod (K:Y00)(mg:Str->Option Value)(base:Heap):Prop where
 kin:K.In base
 glob:base.Ns mainGlobals mg
 blt:∃ mb,base.Ns builtinsNs mb/\∀ x:Str,x≠"__name__"->mb x=bootBuiltins x
 nolimit:base.NoLimit
structure Cx where
 prog:Program
 w:World
 K:Y00
 mg:Str->Option Value
 base:Heap
 A:Around
 N:List Str
 s₀:Shared
 H₀:Hp
 env:Env
 outer:List Env
 stack:List Env
 ex:List Addr
 fn:Str->Bool
 calm:Bool
 pn:List (Addr×Obj)
 xe:Value->Shared->Prop
noncomputable def frs (l:List Env):List Addr:=l.filterMap (·.frame)
noncomputable abbrev Cx.fs (X:Cx):List Addr:=frs X.outer
def Vis (sc:Scope)(x:Str):Prop:=sc.names.lookup x=some .local\/sc.names.lookup x=some .cell\/sc.names.lookup x=some .free
def Loc (sc:Scope)(x:Str):Prop:=sc.names.lookup x=some .local\/sc.names.lookup x=some .cell
def Look (env:Env)(h:Heap)(m:Str->Option Value)(x:Str)(u:Value):Prop:=
 (env.kindOf x=some .local/\m x=some u)\/((env.kindOf x=some .cell\/env.kindOf x=some .free)/\∃ c,env.cells.lookup x=some c/\h.IsCell c (some u))
structure Cx.Ok (X:Cx):Prop where
 mod:Mod X.K X.mg X.base
 kind:X.env.scope.kind=.function
 glob:X.env.globals=mainGlobals
 blt:X.env.builtins=builtinsNs
 above:X.s₀.heap.objs.size<=X.env.locals
 inj:∀ x y c,X.env.cells.lookup x=some c->X.env.cells.lookup y=some c->x=y
 has:∀ x,(X.env.kindOf x=some .cell\/X.env.kindOf x=some .free)->∃ c,X.env.cells.lookup x=some c
 cab:∀ x c,X.fn x=true->X.env.cells.lookup x=some c->X.s₀.heap.objs.size<=c
 hd:X.calm=true->X.A.handled=none
 frames:X.A.frames=some X.stack
 stk:X.stack=X.outer\/(X.stack=X.env::X.outer/\X.env.frame=some X.env.locals)
 exf:∀ b∈X.ex,b≠X.env.locals/\∀ x c,X.env.cells.lookup x=some c->c≠b
 bs:∀ b o,X.base.get? b=some o->X.s₀.heap.get? b=some o/\X.H₀ b=none
 bsz:X.base.objs.size<=X.s₀.heap.objs.size
 noex:∀ b o,X.base.get? b=some o->b∉X.ex
 exfs:∀ b∈X.ex,b∉X.fs
 funs:X.s₀.heap.FunFrames X.base X.outer
 frf:∀ b∈X.fs,X.H₀ b=none
structure Inv (X:Cx)(pins:List (Addr×Obj))(σ:List (Option V))(H:Hp)(s:Shared):Prop where
 ok:X.Ok
 os:s.os=X.s₀.os
 bare:AllBare s.gens
 base:Un X.fs X.ex X.H₀ H X.s₀.heap s.heap
 loc:∃ m,s.heap.Ns X.env.locals m/\∀ (i:Nat) (x:Str) (v:V),X.N[i]?=some x->σ[i]?=some (some v)->Vis X.env.scope x->∃ u,ZM v u/\Look X.env s.heap m x u
 cell:∀ x c,X.env.cells.lookup x=some c->∃ v,s.heap.IsCell c v
 free:H X.env.locals=none
 freeC:∀ x c,X.env.cells.lookup x=some c->H c=none
 pin:∀ p∈X.pn++pins,s.heap.get? p.1=some p.2/\H p.1=none/\p.1≠X.env.locals/\p.1∉X.fs/\∀ v,p.2.data≠.cell v
 hok:HOk X.prog X.w H s.heap
 len:σ.length=X.N.length
section
variable {X:Cx}{pins:List (Addr×Obj)}{σ:List (Option V)}{H H':Hp}{s:Shared}{h':Heap}
theorem Cx.Ok.nofr (ok:X.Ok){b:Addr}{o:Obj}(e:X.base.get? b=some o):b∉X.fs:=fun hb=>by
 have:=(ok.funs.mem hb).1;rw[e]at this;cases this
theorem Inv.bs (I:Inv X pins σ H s):∀ b o,X.base.get? b=some o->s.heap.get? b=some o/\H b=none:=fun b o e=>
 ⟨I.base.keep b o (I.ok.bs b o e).1 (I.ok.bs b o e).2 (I.ok.nofr e) (I.ok.noex b o e),I.base.free b o (I.ok.bs b o e).1 (I.ok.bs b o e).2 (I.ok.noex b o e)⟩
theorem Inv.bk (I:Inv X pins σ H s):∀ b o,X.base.get? b=some o->s.heap.get? b=some o:=fun b o e=>(I.bs b o e).1
theorem Inv.mod (I:Inv X pins σ H s):Mod X.K X.mg X.base:=I.ok.mod
theorem Inv.kIn (I:Inv X pins σ H s):X.K.In s.heap:=I.ok.mod.kin.keeps I.bk
theorem Inv.lt (I:Inv X pins σ H s):X.env.locals<s.heap.objs.size:=let ⟨_,hn,_⟩:=I.loc;hn.lt
theorem Inv.sz (I:Inv X pins σ H s):X.s₀.heap.objs.size<=s.heap.objs.size:=Y0z I.ok.above (Y16 I.lt)
theorem Inv.nofs (I:Inv X pins σ H s){a:Addr}(h:s.heap.objs.size<=a):a∉X.fs:=fun hb=>by
 obtain⟨_,o,ho,_⟩:=I.ok.funs.mem hb;exact absurd (Y0o (Y09 ho) (Y0z I.sz h)) (Y2d _)
theorem Inv.cne (I:Inv X pins σ H s):∀ x c,X.env.cells.lookup x=some c->c≠X.env.locals:=fun x c e z=>by
 obtain⟨v,o,ho,hd⟩:=I.cell x c e;obtain⟨m,⟨o',es,ep,ho',hd',_⟩,_⟩:=I.loc;rw[z,ho']at ho;cases ho;rw[hd']at hd;cases hd
theorem Inv.funs (I:Inv X pins σ H s):s.heap.FunFrames X.base X.outer:=by
 have all:∀ (l:List Env),(∀ b∈frs l,b∈X.fs)->X.s₀.heap.FunFrames X.base l->s.heap.FunFrames X.base l:=by
  intro l
  induction l with
  | nil=>intro _ _;trivial
  | cons env r ih=>
   intro hs hl;obtain⟨hk,⟨L,o,hf,hn,ho,hd⟩,hr⟩:=hl;have hL:L∈X.fs:=hs L (by unfold frs;rw[Y3x,hf];exact Y29);obtain⟨sl,e⟩:=I.base.slot L o ho (I.ok.frf L hL) hL fun z=>I.ok.exfs L z hL;exact⟨hk,⟨L,_,hf,hn,e,hd⟩,ih (fun b hb=>hs b (by unfold frs;rw[Y3x,hf];exact Y0y _ hb)) hr⟩
 exact all X.outer (fun _ hb=>hb) I.ok.funs
theorem Inv.stack (I:Inv X pins σ H s):s.heap.FunFrames X.base X.stack:=by
 rcases I.ok.stk with e|⟨e,hf⟩
 ·rw[e];exact I.funs
 ·rw[e];obtain⟨m,hn,_⟩:=I.loc;refine .cons (by rw[I.ok.kind];decide) hf hn ?_ I.funs;exact Heap.get?_none_of_le (Y0z I.ok.bsz I.ok.above)
theorem Inv.stkSub (I:Inv X pins σ H s):∀ b∈frs X.stack,b∈X.env.locals::X.fs:=fun b hb=>by
 rcases I.ok.stk with e|⟨e,hf⟩
 ·rw[e]at hb;exact Y0y _ hb
 ·rw[e]at hb;unfold frs at hb;rw[Y3x,hf]at hb;exact hb
theorem Inv.stkFree (I:Inv X pins σ H s):∀ b∈frs X.stack,H b=none:=fun b hb=>by
 rcases Y14.mp (I.stkSub b hb) with e|hb
 ·rw[e];exact I.free
 ·obtain⟨_,o,ho,_⟩:=I.ok.funs.mem hb;exact I.base.free b o ho (I.ok.frf b hb) fun z=>I.ok.exfs b z hb
theorem Inv.step {g':Array GenState}{t':Nat}{d':Drawn}{ch:List Addr}(I:Inv X pins σ H s)
  (hch:∀ b∈ch,(b∈X.ex\/X.s₀.heap.objs.size<=b)/\b≠X.env.locals/\(∀ x c,X.env.cells.lookup x=some c->c≠b)/\∀ p∈X.pn++pins,p.1≠b)
  (keep:∀ b o,b≠X.env.locals->b∉X.fs->b∉ch->s.heap.get? b=some o->H b=none->h'.get? b=some o)
  (slot:∀ b o,b≠X.env.locals->b∈X.fs->b∉ch->s.heap.get? b=some o->H b=none->∃ sl,h'.get? b=some { o with slots:=sl }) (free:∀ b o,b∉ch->s.heap.get? b=some o->H b=none->H' b=none)
  (there:∀ b o,b∉ch->s.heap.get? b=some o->∃ o',h'.get? b=some o')
  (tups:∀ b xs,H b=some (.tup xs)->H' b=some (.tup xs)) (frzs:∀ b o u,H b=some (.frz o u)->H' b=some (.frz o u)) (tbls:∀ b ps,H b=some (.tbl ps)->∃ more,H' b=some (.tbl (ps++more)))
  (ns:∀ m,s.heap.Ns X.env.locals m->h'.Ns X.env.locals m) (hok:HOk X.prog X.w H' h') (hg:AllBare g') :
  Inv X pins σ H' { s with heap:=h',gens:=g',drawn:=d',toks:=t' }:=by
 have neL:∀ b o,X.s₀.heap.get? b=some o->b≠X.env.locals:=fun b o e=>Y0j (Y0o (Y09 e) I.ok.above);have neC:∀ b o,X.s₀.heap.get? b=some o->b∉X.ex->b∉ch:=fun b o e hx hb=>by
  rcases (hch b hb).1 with z|z
  ·exact hx z
  ·exact absurd (Y0o (Y09 e) z) (Y2d _)
 have cellK:∀ x c,X.env.cells.lookup x=some c->∀ v,s.heap.IsCell c v->h'.IsCell c v:=fun x c e v ⟨o,ho,hd⟩=>by
  have nch:c∉ch:=fun z=>(hch c z).2.2.1 x c e rfl
  by_cases hc:c∈X.fs
  ·obtain⟨sl,q⟩:=slot c o (I.cne x c e) hc nch ho (I.freeC x c e);exact⟨_,q,hd⟩
  ·exact⟨o,keep c o (I.cne x c e) hc nch ho (I.freeC x c e),hd⟩
 refine⟨I.ok,I.os,hg,⟨fun b o e n hb hx=>?_,fun b o e n hb hx=>?_,fun b o e n hx=>?_,fun b o e hx=>?_,fun b xs e=>tups b xs (I.base.tups b xs e),fun b o xs e=>frzs b o xs (I.base.frzs b o xs e),fun b ps e=>?_⟩,?_,fun x c e=>?_,?_,fun x c e=>?_,fun p hp=>?_,hok,I.len⟩
 ·exact keep b o (neL b o e) hb (neC b o e hx) (I.base.keep b o e n hb hx) (I.base.free b o e n hx)
 ·obtain⟨sl,e1⟩:=I.base.slot b o e n hb hx;obtain⟨sl',e2⟩:=slot b _ (neL b o e) hb (neC b o e hx) e1 (I.base.free b o e n hx);exact⟨sl',e2⟩
 ·obtain⟨o',e1⟩:=I.base.there b o e hx;exact free b o' (neC b o e hx) e1 (I.base.free b o e n hx)
 ·obtain⟨o',e1⟩:=I.base.there b o e hx;exact there b o' (neC b o e hx) e1
 ·obtain⟨m1,e1⟩:=I.base.tbls b ps e;obtain⟨m2,e2⟩:=tbls b _ e1;exact⟨m1++m2,by rw[e2,Array.append_assoc]⟩
 ·obtain⟨m,hn,hl⟩:=I.loc;refine⟨m,ns m hn,fun i x v e1 e2 e3=>?_⟩;obtain⟨u,r,l⟩:=hl i x v e1 e2 e3;refine⟨u,r,?_⟩;rcases l with l|⟨k,c,e,z⟩
  ·exact .inl l
  ·exact .inr ⟨k,c,e,cellK x c e _ z⟩
 ·obtain⟨v,z⟩:=I.cell x c e;exact⟨v,cellK x c e v z⟩
 ·obtain⟨m,⟨o,_,_,ho,_⟩,_⟩:=I.loc;exact free _ o (fun z=>(hch _ z).2.1 rfl) ho I.free
 ·obtain⟨v,o,ho,hd⟩:=I.cell x c e;exact free c o (fun z=>(hch c z).2.2.1 x c e rfl) ho (I.freeC x c e)
 ·obtain⟨e,n,ne,nf,d⟩:=I.pin p hp;have nch:p.1∉ch:=fun z=>(hch p.1 z).2.2.2 p hp rfl;exact⟨keep p.1 p.2 ne nf nch e n,free p.1 p.2 nch e n,ne,nf,d⟩
theorem Inv.un {t':Nat}(I:Inv X pins σ H s)(u:Un X.fs [] H H' s.heap h')(hok:HOk X.prog X.w H' h'):Inv X pins σ H' { s with heap:=h',toks:=t' }:=by
 obtain⟨m,⟨o,es,ep,ho,r⟩,_⟩:=id I.loc;obtain⟨sl,hL⟩:=u.any ho I.free (by simp);exact I.step (g':=s.gens) (d':=s.drawn) (ch:=[]) (fun _ z=>nomatch z) (fun b o _ hb _ e n=>u.keep b o e n hb (by simp)) (fun b o _ hb _ e n=>u.slot b o e n hb (by simp)) (fun b o _ e n=>u.free b o e n (by simp)) (fun b o _ e=>u.there b o e (by simp)) u.tups u.frzs u.tbls (fun m' hm=>by
  obtain⟨o',es',ep',ho',r'⟩:=hm
  rw[ho]at ho';cases ho'
  exact⟨_,es',ep',hL,r'⟩) hok I.bare
theorem Inv.call {g':Array GenState}{t':Nat}{d':Drawn}{ch:List Addr}(I:Inv X pins σ H s)(u:Un (frs X.stack) ch H H' s.heap h')(hok:HOk X.prog X.w H' h')(hg:AllBare g')
  (hch:∀ b∈ch,(b∈X.ex\/X.s₀.heap.objs.size<=b)/\b≠X.env.locals/\(∀ x c,X.env.cells.lookup x=some c->c≠b)/\∀ p∈X.pn++pins,p.1≠b) :
  Inv X pins σ H' { s with heap:=h',gens:=g',drawn:=d',toks:=t' }:=by
 obtain⟨m,⟨o,es,ep,ho,r⟩,_⟩:=id I.loc;obtain⟨sl,hL⟩:=u.any ho I.free fun z=>(hch _ z).2.1 rfl;exact I.step (ch:=ch) hch (fun b o hL hb hc e n=>u.keep b o e n (fun z=>(Y14.mp (I.stkSub b z)).elim hL hb) hc) (fun b o _ _ hc e n=>u.any e n hc) (fun b o hc e n=>u.free b o e n hc) (fun b o hc e=>u.there b o e hc) u.tups u.frzs u.tbls (fun m' hm=>by
  obtain⟨o',es',ep',ho',r'⟩:=hm
  rw[ho]at ho';cases ho'
  exact⟨_,es',ep',hL,r'⟩) hok hg
theorem Inv.turned {t':Nat}{it:Addr}(I:Inv X pins σ H s)(k:∀ b o,b≠it->s.heap.get? b=some o->h'.get? b=some o)(hn:H it=none)(hL:it≠X.env.locals)
  (h1:it∈X.ex\/X.s₀.heap.objs.size<=it) (h2:∀ x c,X.env.cells.lookup x=some c->c≠it) (h3:∀ p∈X.pn++pins,p.1≠it):Inv X pins σ H { s with heap:=h',toks:=t' }:=by
 have nit:∀ b u,H b=some u->b≠it:=fun b u e z=>by rw[z,hn]at e;cases e
 refine I.step (g':=s.gens) (d':=s.drawn) (ch:=[it]) (fun b hb=>?_) (fun b o _ _ hc e _=>k b o (fun z=>hc (by simp[z])) e) (fun b o _ _ hc e _=>⟨o.slots,k b o (fun z=>hc (by simp[z])) e⟩) (fun _ _ _ _ n=>n)
  (fun b o hc e=>⟨o,k b o (fun z=>hc (by simp[z])) e⟩) (fun _ _ e=>e) (fun _ _ _ e=>e) (fun b ps e=>⟨#[],by rw[e];simp⟩) (fun m hm=>?_) (fun b u e=>?_) I.bare
 ·have e:b=it:=by simpa using hb
  subst e;exact⟨h1,hL,h2,h3⟩
 ·obtain⟨o,es,ep,ho,r⟩:=hm;exact⟨o,es,ep,k _ o (Ne.symm hL) ho,r⟩
 ·refine (I.hok b u e).stay (fun c v hc q=>k c v ?_ q) (fun _ q=>q) fun _ _ q=>q;rcases hc with z|z
  ·rw[z];exact nit b u e
  ·exact nit c _ z
theorem Inv.tok (I:Inv X pins σ H s)(t:Nat):Inv X pins σ H { s with toks:=t }:=I.un (h':=s.heap) (t':=t) Un.refl I.hok
theorem Inv.kept {t':Nat}(I:Inv X pins σ H s)(k:∀ b u,s.heap.get? b=some u->h'.get? b=some u):Inv X pins σ H { s with heap:=h',toks:=t' }:=I.un (Un.kept k) (I.hok.kept k)
theorem Inv.laid {a:Addr}{o:HO}{t':Nat}(I:Inv X pins σ H s)(k:∀ b u,s.heap.get? b=some u->h'.get? b=some u)(hp:s.heap.objs.size<=a)(new:Zf X.prog X.w (upd H a o) h' a o) :
  Inv X pins σ (upd H a o) { s with heap:=h',toks:=t' }:=I.un (Un.laid k hp (I.hok.fresh hp)) (I.hok.laid k hp new)
theorem Inv.write {x e:Addr}{o:HO}{t':Nat}(I:Inv X pins σ H s)(mu:Mut (H x))(he:e=x\/H e=some (.own x))(k:∀ b u,b≠e->s.heap.get? b=some u->h'.get? b=some u)(heo:∃ u,h'.get? e=some u)
  (new:Zf X.prog X.w (upd H x o) h' x o):Inv X pins σ (upd H x o) { s with heap:=h',toks:=t' }:=I.un (Un.write mu he k heo) (I.hok.write mu he k heo new)
theorem Inv.pins_of {pins':List (Addr×Obj)}(I:Inv X pins σ H s)(h:∀ p∈pins',s.heap.get? p.1=some p.2/\H p.1=none/\p.1≠X.env.locals/\p.1∉X.fs/\∀ v,p.2.data≠.cell v):Inv X pins' σ H s:=
 ⟨I.ok,I.os,I.bare,I.base,I.loc,I.cell,I.free,I.freeC,fun p hp=>(Y0n.mp hp).elim (fun z=>I.pin p (Y4p _ z)) (h p),I.hok,I.len⟩
theorem Z8H {N:List Str}(hN:N.Nodup){i j:Nat}{x:Str}(a:N[i]?=some x)(b:N[j]?=some x):i=j:=by
 obtain⟨h1,e1⟩:=Y08.mp a;obtain⟨h2,e2⟩:=Y08.mp b;exact (List.getElem_inj hN).mp (e1.trans e2.symm)
theorem Z5k {M:Model}{A:Around}{E:Value->Shared->Prop}{i:Nat}{x:Str}{v:V}{u:Value}{Q:Unit->Shared->Prop}(I:Inv X pins σ H s)(hN:X.N.Nodup)(hi:X.N[i]?=some x)(hx:Loc X.env.scope x)(r:ZM v u)
  (h:∀ s',Inv X pins (σ.set i (some v)) H s'->(∃ a,Y54 a s.heap s'.heap/\(a=X.env.locals\/X.env.cells.lookup x=some a))->Q () s') (hf:X.fn x=true\/X.env.scope.names.lookup x=some .local:=by first|exact .inl rfl|exact .inr rfl|assumption):wpAny M A (storeName X.env x u) Q E s:=by
 obtain⟨m,hn,hl⟩:=id I.loc;have hcls:(X.env.scope.kind == .class||(X.env.scope.kind == .module&&X.env.locals != X.env.globals))=false:=by rw[I.ok.kind];rfl
 have hiσ:i<σ.length:=by rw[I.len];exact (Y08.mp hi).1
 have cne:=I.cne;have tracked:∀ {a:Addr} {h':Heap},(∃ o,s.heap.get? a=some o/\H a=none)->Y54 a s.heap h'->HOk X.prog X.w H h':=fun {a h'} ha hs b ob e=>by
  obtain⟨_,_,hfree⟩:=ha;refine (I.hok b ob e).stay (fun c w' hc q=>(hs.2 c ?_).trans q) (fun _ q=>q) fun _ _ q=>q;rintro rfl;rcases hc with rfl|hc
  ·rw[hfree]at e;cases e
  ·rw[hfree]at hc;cases hc
 rcases hx with hk|hk
 ·refine wpAny_storeName_local hk hn (fun h' hn' hs=>?_) hcls;obtain⟨oL,_,_,hoL,_⟩:=id hn;refine h _ ⟨I.ok,I.os,I.bare,⟨fun b o e n hb hx=>?_,fun b o e n hb hx=>?_,I.base.free,fun b o e hx=>?_,I.base.tups,I.base.frzs,I.base.tbls⟩,⟨_,hn',fun j y v' e1 e2 e3=>?_⟩,fun y c e=>?_,I.free,I.freeC,fun p hp=>?_,tracked ⟨oL,hoL,I.free⟩ hs,by simpa using I.len⟩ ⟨_,hs,.inl rfl⟩
  ·exact (hs.2 b (Y0j (Y0o (Y09 e) I.ok.above))).trans (I.base.keep b o e n hb hx)
  ·obtain⟨sl,e1⟩:=I.base.slot b o e n hb hx;exact⟨sl,(hs.2 b (Y0j (Y0o (Y09 e) I.ok.above))).trans e1⟩
  ·obtain⟨o',e1⟩:=I.base.there b o e hx;exact⟨o',(hs.2 b (Y0j (Y0o (Y09 e) I.ok.above))).trans e1⟩
  ·by_cases hj:j=i
   ·subst hj;rw[hi]at e1;cases e1;rw[Y3i hiσ]at e2;cases e2;exact⟨u,r,.inl ⟨hk,by simp⟩⟩
   ·rw[Y3r (Ne.symm hj)]at e2;obtain⟨u',r',q⟩:=hl j y v' e1 e2 e3;refine⟨u',r',?_⟩;rcases q with ⟨k,e⟩|⟨k,c,e,z⟩
    ·refine .inl ⟨k,?_⟩;have:y≠x:=fun e=>hj (Z8H hN e1 (e ▸ hi));simp[this,e]
    ·exact .inr ⟨k,c,e,z.sameBut hs (cne y c e)⟩
  ·obtain⟨w',z⟩:=I.cell y c e;exact⟨w',z.sameBut hs (cne y c e)⟩
  ·obtain⟨e,n,ne,nf,d⟩:=I.pin p hp;exact⟨(hs.2 p.1 ne).trans e,n,ne,nf,d⟩
 ·have hfn:X.fn x=true:=by
   rcases hf with z|z
   ·exact z
   ·rw[z]at hk;cases hk
  obtain⟨c,hc⟩:=I.ok.has x (.inl hk);obtain⟨w',z⟩:=I.cell x c hc;refine wpAny_storeName_cell I.ok.kind hk hc z (fun h' hc' hs=>?_);obtain⟨oc,hoc,hocd⟩:=id z;refine h { s with heap:=h' } ⟨I.ok,I.os,I.bare,⟨fun b o e n hb hx=>?_,fun b o e n hb hx=>?_,I.base.free,fun b o e hx=>?_,I.base.tups,I.base.frzs,I.base.tbls⟩,⟨m,hn.sameBut hs (Ne.symm (cne x c hc)),fun j y v' e1 e2 e3=>?_⟩,fun y c' e=>?_,I.free,I.freeC,fun p hp=>?_,tracked ⟨oc,hoc,I.freeC x c hc⟩ hs,by simpa using I.len⟩ ⟨c,hs,.inr hc⟩
  ·exact (hs.2 b (Y0j (Y0o (Y09 e) (I.ok.cab x c hfn hc)))).trans (I.base.keep b o e n hb hx)
  ·obtain⟨sl,e1⟩:=I.base.slot b o e n hb hx;exact⟨sl,(hs.2 b (Y0j (Y0o (Y09 e) (I.ok.cab x c hfn hc)))).trans e1⟩
  ·obtain⟨o',e1⟩:=I.base.there b o e hx;exact⟨o',(hs.2 b (Y0j (Y0o (Y09 e) (I.ok.cab x c hfn hc)))).trans e1⟩
  ·by_cases hj:j=i
   ·subst hj;rw[hi]at e1;cases e1;rw[Y3i hiσ]at e2;cases e2;exact⟨u,r,.inr ⟨.inl hk,c,hc,hc'⟩⟩
   ·rw[Y3r (Ne.symm hj)]at e2;obtain⟨u',r',q⟩:=hl j y v' e1 e2 e3;refine⟨u',r',?_⟩;rcases q with q|⟨k,c',e,z'⟩
    ·exact .inl q
    ·refine .inr ⟨k,c',e,z'.sameBut hs ?_⟩;rintro rfl;exact hj (Z8H hN e1 (I.ok.inj _ _ _ e hc ▸ hi))
  ·by_cases hcc:c'=c
   ·subst hcc;exact⟨_,hc'⟩
   ·obtain⟨w2,z2⟩:=I.cell y c' e;exact⟨w2,z2.sameBut hs hcc⟩
  ·obtain⟨e,n,ne,nf,d⟩:=I.pin p hp;refine⟨(hs.2 p.1 ?_).trans e,n,ne,nf,d⟩;intro q;rw[q,hoc]at e;have q':oc=p.2:=Option.some.inj e;exact d w' (by rw[<-q'];exact hocd)
theorem UC {M:Model}{A:Around}{E:Value->Shared->Prop}{i:Nat}{x:Str}{v:V}{u:Value}{Q:Unit->Shared->Prop}(I:Inv X pins σ H s)(hN:X.N.Nodup)(hi:X.N[i]?=some x)(hx:Loc X.env.scope x)(r:ZM v u)
  (h:∀ s',Inv X pins (σ.set i (some v)) H s'->Q () s') (hf:X.fn x=true\/X.env.scope.names.lookup x=some .local:=by first|exact .inl rfl|exact .inr rfl|assumption):wpAny M A (storeName X.env x u) Q E s:=
 Z5k I hN hi hx r (fun s' I' _=>h s' I') hf
theorem Inv.call' {s':Shared}{ch:List Addr}(I:Inv X pins σ H s)(ho:s'.os=s.os)(u:Un (frs X.stack) ch H H' s.heap s'.heap)(hok:HOk X.prog X.w H' s'.heap)(hg:AllBare s'.gens)
  (hch:∀ b∈ch,(b∈X.ex\/X.s₀.heap.objs.size<=b)/\b≠X.env.locals/\(∀ x c,X.env.cells.lookup x=some c->c≠b)/\∀ p∈X.pn++pins,p.1≠b):Inv X pins σ H' s':=by
 obtain⟨h',g',d',t',o'⟩:=s';have e:o'=s.os:=ho;subst e;exact I.call (g':=g') (t':=t') (d':=d') u hok hg hch
end
noncomputable abbrev XK:=Value->Option Addr->Hp->Prop
noncomputable abbrev St:=List (Option V)
noncomputable abbrev VK:=V->Hp->Prop
noncomputable abbrev TE:=St->Hp->VK->Prop
noncomputable abbrev TT:=St->Hp->(Bool->Hp->Prop)->Prop
noncomputable abbrev TA:=St->Hp->(List V->Hp->Prop)->Prop
structure Yx where
 nx:St->Hp->Prop
 rt:VK
 bk:St->Hp->Prop:=fun _ _=>False
 ct:St->Hp->Prop:=fun _ _=>False
noncomputable abbrev TS:=Yx->St->Hp->Prop
def EP (X:Cx)(pins:List (Addr×Obj))(σ:St)(Q:VK)(u:Value)(s':Shared):Prop:=∃ v H',Inv X pins σ H' s'/\ZM v u/\Q v H'
def TP (X:Cx)(pins:List (Addr×Obj))(σ:St)(Q:Bool->Hp->Prop)(b:Bool)(s':Shared):Prop:=∃ H',Inv X pins σ H' s'/\Q b H'
def AP (X:Cx)(pins:List (Addr×Obj))(σ:St)(Q:List V->Hp->Prop)(us:List Value)(s':Shared):Prop:=∃ vs H',Inv X pins σ H' s'/\ZN vs us/\Q vs H'
def SP (X:Cx)(pins:List (Addr×Obj))(D:Yx)(f:Flow)(s':Shared):Prop:=
 match f with
 | .next=>∃ σ' H',Inv X pins σ' H' s'/\D.nx σ' H'
 | .brk=>∃ σ' H',Inv X pins σ' H' s'/\D.bk σ' H'
 | .cont=>∃ σ' H',Inv X pins σ' H' s'/\D.ct σ' H'
 | .ret u=>∃ v σ' H',Inv X pins σ' H' s'/\ZM v u/\D.rt v H'
def PE (X:Cx)(e:Expr)(t:TE):Prop:=
 ∀ (pins:List (Addr×Obj)) (s:Shared) (σ:St) (H:Hp) (Q:VK),Inv X pins σ H s->t σ H Q->wpAny (model X.prog X.w) X.A (eval e X.env) (EP X pins σ Q) X.xe s
def PT (X:Cx)(e:Expr)(t:TT):Prop:=
 ∀ (pins:List (Addr×Obj)) (s:Shared) (σ:St) (H:Hp) (Q:Bool->Hp->Prop),Inv X pins σ H s->t σ H Q->wpAny (model X.prog X.w) X.A (isTrue e X.env (eval e X.env)) (TP X pins σ Q) X.xe s
def PW (X:Cx)(e:Expr)(t:TT):Prop:=
 ∀ (whole:Sem Value) (pins:List (Addr×Obj)) (s:Shared) (σ:St) (H:Hp) (Q:Bool->Hp->Prop),Inv X pins σ H s->t σ H Q->wpAny (model X.prog X.w) X.A (isTrue e X.env whole) (TP X pins σ Q) X.xe s
theorem PW.pt {X:Cx}{e:Expr}{t:TT}(h:PW X e t):PT X e t:=h _
def PA (X:Cx)(es:List Expr)(t:TA):Prop:=
 ∀ (pos:Pos) (pins:List (Addr×Obj)) (s:Shared) (σ:St) (H:Hp) (Q:List V->Hp->Prop),Inv X pins σ H s->t σ H Q->wpAny (model X.prog X.w) X.A (spliced (backTo pos (starEach es X.env))) (AP X pins σ Q) X.xe s
def PS (X:Cx)(st:Stmt)(t:TS):Prop:=
 ∀ (pins:List (Addr×Obj)) (s:Shared) (σ:St) (H:Hp) (D:Yx),Inv X pins σ H s->t D σ H->wpAny (model X.prog X.w) X.A (exec st X.env) (SP X pins D) X.xe s
def PSs (X:Cx)(st:List Stmt)(t:TS):Prop:=
 ∀ (pins:List (Addr×Obj)) (s:Shared) (σ:St) (H:Hp) (D:Yx),Inv X pins σ H s->t D σ H->wpAny (model X.prog X.w) X.A (execs st X.env) (SP X pins D) X.xe s
theorem thn {α:Type}{t:Sem α}{Q Q':α->Shared->Prop}{M:Model}{A:Around}{E:Value->Shared->Prop}{s:Shared}(h:wpAny M A t Q E s)(hQ:∀ a s,Q a s->Q' a s):wpAny M A t Q' E s:=wpAny_mono h hQ fun _ _ x=>x
section
variable {X:Cx}
noncomputable def ZU (i:Nat):TE:=fun σ H Q=>∃ v,σ[i]?=some (some v)/\Q v H
noncomputable def tC (v:V):TE:=fun _ H Q=>Q v H
theorem ZgO {i:Nat}{x:Str}{pos:Pos}(hN:X.N[i]?=some x)(hv:Vis X.env.scope x)(hd:(x==("__debug__":Str))=false:=by decide)(hcd:(x==("__classdict__":Str))=false:=by decide):PE X (.Name x pos) (ZU i):=by
 intro pins s σ H Q I h;obtain⟨v,e,h⟩:=h;obtain⟨m,hn,hl⟩:=I.loc;obtain⟨u,r,l⟩:=hl i x v hN e hv;have fin:EP X pins σ Q u s:=⟨v,H,I,r,h⟩;rcases l with ⟨hk,hm⟩|⟨hk,c,hc,hcell⟩
 ·exact wpAny_Name (wpAny_loadName_local I.ok.kind hk hn hm fin) hd
 ·rcases hk with hk|hk
  ·exact wpAny_Name (wpAny_loadName_cell I.ok.kind hk hc hcell fin) hd
  ·exact wpAny_Name (wpAny_loadName_free I.ok.kind hk hc hcell fin hcd) hd
theorem Z6 {i j pos}:PE X (.Constant (.int i) j pos) (tC (.int i)):=fun _ _ _ H _ I h=>wpAny_Constant_int ⟨.int i,H,I.tok _,⟨_,rfl⟩,h⟩
theorem Xq {b j pos}:PE X (.Constant (.bool b) j pos) (tC (.bl b)):=fun _ _ _ H _ I h=>Constant_bool ⟨.bl b,H,I,rfl,h⟩
theorem Zt {x j pos}:PE X (.Constant (.str x) j pos) (tC (.str x)):=fun _ _ _ H _ I h=>Calls.Constant_str ⟨.str x,H,I.tok _,⟨_,rfl⟩,h⟩
def Gl (X:Cx)(x:Str):Prop:=X.env.kindOf x=some .globalImplicit
theorem Ss {E:Value->Shared->Prop}{pins:List (Addr×Obj)}{s:Shared}{σ:St}{H:Hp}{x:Str}{u:Value}{pos:Pos}{Q:Value->Shared->Prop}(I:Inv X pins σ H s)(hg:Gl X x)(hm:X.mg x=some u)(h:Q u s)
  (hd:(x==("__debug__":Str))=false:=by decide):wpAny (model X.prog X.w) X.A (eval (.Name x pos) X.env) Q E s:=
 Calls.Name_function_global I.ok.kind hg (Calls.loadGlobal_global (by rw[I.ok.glob];exact I.mod.glob.keeps I.bk) hm h) hd
theorem Vi {E:Value->Shared->Prop}{pins:List (Addr×Obj)}{s:Shared}{σ:St}{H:Hp}{x:Str}{u:Value}{pos:Pos}{Q:Value->Shared->Prop}(I:Inv X pins σ H s)(hg:Gl X x)(hm:X.mg x=none)(hv:bootBuiltins x=some u)(h:Q u s)
  (hn:x≠"__name__":=by decide) (hd:(x==("__debug__":Str))=false:=by decide):wpAny (model X.prog X.w) X.A (eval (.Name x pos) X.env) Q E s:=by
 obtain⟨mb,h1,h2⟩:=I.mod.blt;exact Calls.Name_function_global I.ok.kind hg (Calls.loadGlobal_builtin (by rw[I.ok.glob];exact I.mod.glob.keeps I.bk) hm (by rw[I.ok.blt];exact h1.keeps I.bk) ((h2 x hn).trans hv) h) hd
theorem XR {x:Str}{v:V}{u:Value}{pos:Pos}(hg:Gl X x)(hm:X.mg x=some u)(r:ZM v u)(hd:(x==("__debug__":Str))=false:=by decide):PE X (.Name x pos) (tC v):=
 fun _ _ _ H _ I h=>Ss I hg hm ⟨v,H,I,r,h⟩ hd
theorem Xx {x:Str}{v:V}{u:Value}{pos:Pos}(hg:Gl X x)(hm:X.mg x=none)(hv:bootBuiltins x=some u)(r:ZM v u)(hn:x≠"__name__":=by decide)(hd:(x==("__debug__":Str))=false:=by decide):PE X (.Name x pos) (tC v):=
 fun _ _ _ H _ I h=>Vi I hg hm hv ⟨v,H,I,r,h⟩ hn hd
variable {a b:Expr}{ta tb:TE}{pos:Pos}
def PC (X:Cx)(op:CmpOp)(a b:Expr)(t:TE):Prop:=
 ∀ (pins:List (Addr×Obj)) (s:Shared) (σ:St) (H:Hp) (Q:VK),Inv X pins σ H s->t σ H Q->
  wpAny (model X.prog X.w) X.A (eval a X.env) (fun v s₁=>wpAny (model X.prog X.w) X.A (eval b X.env) (fun u s₂=>wpAny (model X.prog X.w) X.A (compareOp op v u) (EP X pins σ Q) X.xe s₂) X.xe s₁) X.xe s
noncomputable def tB (t:TE):TT:=fun σ H Q=>t σ H fun x H1=>∃ c,x=.bl c/\Q c H1
theorem Zha {op:CmpOp}{t:TE}(h:PC X op a b t)(h1:behindInMarks op b=false:=by first|exact nobehind _ (by decide) (by decide)|rfl):PE X (.Compare a [op] [b] pos) t:=fun pins s σ H Q I hw=>wpAny_Compare1 (h pins s σ H Q I hw) h1
theorem Y4 {e:Expr}{t:TE}(h:PE X e t)(he:∀ whole,isTrue e X.env whole=(do let v <-whole;standAt e.pos;holding [v] (truthy v)):=by intro _;rfl):PT X e (tB t):=by
 intro pins s σ H Q I hw;refine isTrue_plain (thn (h pins s σ H _ I hw) fun v s1 ⟨x,H1,I1,r1,q1⟩=>?_) (he _);obtain⟨d,rfl,q⟩:=q1;cases r1;exact wpAny_truthy_bool ⟨H1,I1,q⟩
variable {tA tB':TT}{rest:List Expr}
noncomputable def Zja (t u:TT):TT:=fun σ H Q=>t σ H fun c H1=>if c=true then u σ H1 Q else Q false H1
noncomputable def tOr (t u:TT):TT:=fun σ H Q=>t σ H fun c H1=>if c=true then Q true H1 else u σ H1 Q
noncomputable def Tb (t:TT):TT:=fun σ H Q=>t σ H fun c H1=>Q (!c) H1
theorem Wk (ha:PT X a tA):PW X (.BoolOp .And [a] pos) tA:=by
 intro wh pins s σ H Q I h;refine isTrue_and (thn (ha pins s σ H Q I h) fun c s1 e=>?_);cases c with
 | true=>exact isTrue_and_nil e
 | false=>exact e
theorem XH (ha:PT X a tA):PW X (.BoolOp .Or [a] pos) tA:=by
 intro wh pins s σ H Q I h;refine isTrue_or (thn (ha pins s σ H Q I h) fun c s1 e=>?_);cases c with
 | false=>exact isTrue_or_nil e
 | true=>exact e
theorem WG (ha:PT X a tA)(hb:PW X (.BoolOp .And (b::rest) pos) tB'):PW X (.BoolOp .And (a::b::rest) pos) (Zja tA tB'):=by
 intro wh pins s σ H Q I h;refine isTrue_and (thn (ha pins s σ H _ I h) fun c s1 ⟨H1,I1,q1⟩=>?_);cases c with
 | true=>exact hb wh pins s1 σ H1 Q I1 q1
 | false=>exact⟨H1,I1,q1⟩
theorem YK (ha:PT X a tA)(hb:PW X (.BoolOp .Or (b::rest) pos) tB'):PW X (.BoolOp .Or (a::b::rest) pos) (tOr tA tB'):=by
 intro wh pins s σ H Q I h;refine isTrue_or (thn (ha pins s σ H _ I h) fun c s1 ⟨H1,I1,q1⟩=>?_);cases c with
 | true=>exact⟨H1,I1,q1⟩
 | false=>exact hb wh pins s1 σ H1 Q I1 q1
theorem YN (ha:PT X a tA):PT X (.UnaryOp .Not a pos) (Tb tA):=by
 intro pins s σ H Q I h;exact isTrue_not (ha pins s σ H (fun c H1=>Q (!c) H1) I h)
noncomputable def ZiA (ta tb:TE):TE:=fun σ H Q=>ta σ H fun x H1=>∃ c,x=.bl c/\if c=true then tb σ H1 Q else Q (.bl false) H1
noncomputable def ZjK (ta:TE):TE:=fun σ H Q=>ta σ H fun x H1=>∃ c,x=.bl c/\Q (.bl (!c)) H1
theorem TX {op}{t:TE}(h:PE X a t):PE X (.BoolOp op [a] pos) t:=fun pins s σ H Q I hw=>BoolOp_one (h pins s σ H Q I hw)
theorem Vc (ha:PE X a ta)(hb:PE X (.BoolOp .And (b::rest) pos) tb):PE X (.BoolOp .And (a::b::rest) pos) (ZiA ta tb):=by
 intro pins s σ H Q I h;refine BoolOp_and (thn (ha pins s σ H _ I h) fun v s1 ⟨x,H1,I1,r1,q1⟩=>?_);obtain⟨c,rfl,q1⟩:=q1;cases r1;refine wpAny_truthy_bool ?_;cases c with
 | true=>exact hb pins s1 σ H1 Q I1 q1
 | false=>exact⟨.bl false,H1,I1,rfl,q1⟩
theorem Zdz (ha:PE X a ta):PE X (.UnaryOp .Not a pos) (ZjK ta):=by
 intro pins s σ H Q I h;refine UnaryOp_ (thn (ha pins s σ H _ I h) fun v s1 ⟨x,H1,I1,r1,q1⟩=>?_);obtain⟨c,rfl,q1⟩:=q1;cases r1;exact not_of (wpAny_truthy_bool ⟨.bl (!c),H1,I1,rfl,q1⟩)
noncomputable def tIf (t:TT)(ta tb:TE):TE:=fun σ H Q=>t σ H fun c H1=>if c=true then ta σ H1 Q else tb σ H1 Q
theorem Z91 {c:Expr}(hc:PT X c tA)(ha:PE X a ta)(hb:PE X b tb):PE X (.IfExp c a b pos) (tIf tA ta tb):=by
 intro pins s σ H Q I h;refine wpAny_IfExp (thn (hc pins s σ H _ I h) fun d s1 ⟨H1,I1,q1⟩=>?_);cases d with
 | true=>exact ha pins s1 σ H1 Q I1 q1
 | false=>exact hb pins s1 σ H1 Q I1 q1
end
def SqL (K:Y00)(H:Hp)(a:Addr)(xs:List V):Prop:=
 Rd H a (.lst xs)\/
  ∃ (o:Obj) (its:Array Value) (n:Nat),K.lookup a=some o/\o.cls=.type "list"/\o.dict=none/\o.data=.seq its n/\its.size<=sizeLine/\ZN xs its.toList
def SqT (K:Y00)(H:Hp)(a:Addr)(xs:List V):Prop:=
 Rd H a (.tup xs)\/
  ∃ (o:Obj) (its:Array Value) (n:Nat),K.lookup a=some o/\o.cls=.type "tuple"/\o.data=.seq its n/\its.size<=sizeLine/\ZN xs its.toList
noncomputable def absV:Value->Option V
 | .none=>some .non
 | .bool b=>some (.bl b)
 | .int i _=>some (.int i)
 | .str x _=>some (.str x)
 | .bytes b _=>some (.byt b)
 | .float b _=>some (.flt b)
 | .ref a=>some (.ref a)
 | .type n=>some (.ty n)
 | _=>none
theorem ZM.abs {x:V}{u:Value}(r:ZM x u):absV u=some x:=by
 cases x with
 | non=>cases r;rfl
 | bl _=>cases r;rfl
 | int _=>obtain⟨t,rfl⟩:=r;rfl
 | str _=>obtain⟨t,rfl⟩:=r;rfl
 | byt _=>obtain⟨t,rfl⟩:=r;rfl
 | flt _=>obtain⟨t,rfl⟩:=r;rfl
 | ref _=>cases r;rfl
 | ty _=>cases r;rfl
theorem ZM.inj {x y:V}{u:Value}(r:ZM x u)(q:ZM y u):x=y:=Option.some.inj (r.abs.symm.trans q.abs)
theorem ZN.inj:∀ {xs ys:List V} {us:List Value},ZN xs us->ZN ys us->xs=ys
 | _,_,_,.nil,.nil=>rfl
 | _,_,_,.cons r t,.cons r' t'=>by rw[r.inj r',ZN.inj t t']
section
variable {X:Cx}{pins:List (Addr×Obj)}{σ:St}{H:Hp}{s:Shared}{a:Addr}{xs ys:List V}
theorem SqL.of {K:Y00}(h:H a=some (.lst xs)):SqL K H a xs:=.inl (.inl h)
theorem SqT.of {K:Y00}(h:H a=some (.tup xs)):SqT K H a xs:=.inl (.inl h)
theorem Inv.list (I:Inv X pins σ H s)(h:SqL X.K H a xs):∃ its:List Value,ZN xs its/\PlainL s.heap a its.toArray/\xs.length<=sizeLine:=by
 rcases h with h|⟨o,its,n,hk,hc,hd,hs,hz,r⟩
 ·obtain⟨z,its,n,r,e⟩:=h.ok I.hok;exact⟨its,r,⟨_,n,e,rfl,rfl,rfl⟩,z⟩
 ·refine⟨its.toList,r,⟨o,n,I.kIn a o hk,hc,hd,by simpa using hs⟩,?_⟩;have e:=r.length;simp only[Y32]at e;lia
theorem Inv.tuple (I:Inv X pins σ H s)(h:SqT X.K H a xs):∃ its:List Value,ZN xs its/\IsTup s.heap a its.toArray/\xs.length<=sizeLine:=by
 rcases h with h|⟨o,its,n,hk,hc,hs,hz,r⟩
 ·obtain⟨z,its,r,p⟩:=h.ok I.hok;exact⟨its,r,p,z.1⟩
 ·refine⟨its.toList,r,⟨o,I.kIn a o hk,hc,n,by simpa using hs⟩,?_⟩;have e:=r.length;simp only[Y32]at e;lia
theorem Inv.list_inj (I:Inv X pins σ H s)(h:SqL X.K H a xs)(h':SqL X.K H a ys):xs=ys:=by
 obtain⟨its,r,⟨o,n,e,_,_,d⟩,_⟩:=I.list h;obtain⟨its',r',⟨o',n',e',_,_,d'⟩,_⟩:=I.list h';rw[e]at e';cases e';rw[d]at d';injection d' with d1 _
 have:its=its':=by simpa using congrArg Array.toList d1
 subst this;exact r.inj r'
theorem Inv.tuple_inj (I:Inv X pins σ H s)(h:SqT X.K H a xs)(h':SqT X.K H a ys):xs=ys:=by
 obtain⟨its,r,⟨o,e,_,n,d⟩,_⟩:=I.tuple h;obtain⟨its',r',⟨o',e',_,n',d'⟩,_⟩:=I.tuple h';rw[e]at e';cases e';rw[d]at d';injection d' with d1 _
 have:its=its':=by simpa using congrArg Array.toList d1
 subst this;exact r.inj r'
end
abbrev Cx.wish (X:Cx)(E:Value->Shared->Prop):Cx:={ X with xe:=E }
noncomputable abbrev Cx.nox (X:Cx):Cx:=X.wish fun _ _=>False
theorem Cx.Ok.wish {X:Cx}(ok:X.Ok)(E:Value->Shared->Prop):(X.wish E).Ok:=
 ⟨ok.mod,ok.kind,ok.glob,ok.blt,ok.above,ok.inj,ok.has,ok.cab,ok.hd,ok.frames,ok.stk,ok.exf,ok.bs,ok.bsz,ok.noex,ok.exfs,ok.funs,ok.frf⟩
theorem Cx.Ok.unwish {X:Cx}{E:Value->Shared->Prop}(ok:(X.wish E).Ok):X.Ok:=
 ⟨ok.mod,ok.kind,ok.glob,ok.blt,ok.above,ok.inj,ok.has,ok.cab,ok.hd,ok.frames,ok.stk,ok.exf,ok.bs,ok.bsz,ok.noex,ok.exfs,ok.funs,ok.frf⟩
section
variable {X:Cx}{pins:List (Addr×Obj)}{σ:St}{H:Hp}{s:Shared}{E:Value->Shared->Prop}
theorem Inv.wish (I:Inv X pins σ H s)(E:Value->Shared->Prop):Inv (X.wish E) pins σ H s:=⟨I.ok.wish E,I.os,I.bare,I.base,I.loc,I.cell,I.free,I.freeC,I.pin,I.hok,I.len⟩
theorem Inv.unwish (I:Inv (X.wish E) pins σ H s):Inv X pins σ H s:=⟨I.ok.unwish,I.os,I.bare,I.base,I.loc,I.cell,I.free,I.freeC,I.pin,I.hok,I.len⟩
theorem SP.unwish {D:Yx}{f:Flow}{s':Shared}(h:SP (X.wish E) pins D f s'):SP X pins D f s':=by
 cases f with
 | next=>obtain⟨σ',H',I,q⟩:=h;exact⟨σ',H',I.unwish,q⟩
 | brk=>obtain⟨σ',H',I,q⟩:=h;exact⟨σ',H',I.unwish,q⟩
 | cont=>obtain⟨σ',H',I,q⟩:=h;exact⟨σ',H',I.unwish,q⟩
 | ret u=>obtain⟨v,σ',H',I,r,q⟩:=h;exact⟨v,σ',H',I.unwish,r,q⟩
theorem PSs.nox {st:List Stmt}{t:TS}(h:PSs X.nox st t):PSs X st t:=fun pins s σ H D I hw=>
 wpAny_mono (h pins s σ H D (I.wish _) hw) (fun _ _ q=>q.unwish) fun _ _ z=>False.elim z
end
section
variable {X:Cx}{st:Stmt}{rest:List Stmt}{t u:TS}{e:Expr}{te:TE}{pos:Pos}
noncomputable def Xr:TS:=fun D σ H=>D.nx σ H
noncomputable def Yy (t u:TS):TS:=fun D σ H=>t { D with nx:=u D } σ H
theorem Zw:PSs X [] Xr:=fun _ _ σ H _ I h=>wpAny_execs_nil ⟨σ,H,I,h⟩
theorem Z3 (h1:PS X st t)(h2:PSs X rest u):PSs X (st::rest) (Yy t u):=by
 intro pins s σ H D I h;refine wpAny_execs_cons (thn (h1 pins s σ H { D with nx:=u D } I h) fun f s1 q=>?_);cases f with
 | next=>
  obtain⟨σ',H',I',q⟩:=q;exact h2 pins s1 σ' H' D I' q
 | ret v=>exact q
 | brk=>exact q
 | cont=>exact q
theorem ZY (h1:PS X st t):PSs X [st] t:=by
 intro pins s σ H D I h;refine wpAny_execs_cons (thn (h1 pins s σ H D I h) fun f s1 q=>?_);cases f with
 | next=>exact wpAny_execs_nil q
 | ret v=>exact q
 | brk=>exact q
 | cont=>exact q
theorem Inv.quiet {pins:List (Addr×Obj)}{σ:St}{H:Hp}{s:Shared}(I:Inv X pins σ H s):interactive X.env=false:=by simp[interactive,I.ok.kind]
noncomputable def Zkt (te:TE):TS:=fun D σ H=>te σ H fun _ H1=>D.nx σ H1
theorem YB (he:PE X e te)(hs:swapsWith e none pos.line X.env=pure false:=by rfl):PS X (.Expr e pos) (Zkt te):=by
 intro pins s σ H D I h;exact wpAny_Expr_any (thn (he pins s σ H _ I h) fun v s1 ⟨x,H1,I1,r1,q1⟩=>⟨σ,H1,I1,q1⟩) I.quiet hs
noncomputable def Ya (te:TE):TS:=fun D σ H=>te σ H D.rt
theorem ZO (he:PE X e te):PS X (.Return (some e) pos) (Ya te):=by
 intro pins s σ H D I h;exact wpAny_Return_some (thn (he pins s σ H _ I h) fun v s1 ⟨x,H1,I1,r1,q1⟩=>⟨x,σ,H1,I1,r1,q1⟩)
noncomputable def Ww (c:TT)(t u:TS):TS:=fun D σ H=>c σ H fun b H1=>if b=true then t D σ H1 else u D σ H1
theorem Zy {c:Expr}{a b:List Stmt}{tc:TT}(hc:PT X c tc)(ha:PSs X a t)(hb:PSs X b u):PS X (.If c a b pos) (Ww tc t u):=by
 intro pins s σ H D I h;refine wpAny_If (thn (hc pins s σ H _ I h) fun d s1 ⟨H1,I1,q1⟩=>?_);cases d with
 | true=>exact ha pins s1 σ H1 D I1 q1
 | false=>exact hb pins s1 σ H1 D I1 q1
noncomputable def Zgg:TS:=fun _ _ _=>False
theorem ZaS {sts:List Stmt}:PSs X sts Zgg:=fun _ _ _ _ _ _ h=>h.elim
end
noncomputable abbrev TG:=V->St->Hp->(St->Hp->Prop)->Prop
noncomputable abbrev TGs:=List V->St->Hp->(St->Hp->Prop)->Prop
def PG (X:Cx)(target:Expr)(t:TG):Prop:=
 ∀ (pins:List (Addr×Obj)) (s:Shared) (σ:St) (H:Hp) (v:V) (u:Value) (Q:St->Hp->Prop),Inv X pins σ H s->ZM v u->t v σ H Q->
  wpAny (model X.prog X.w) X.A (assign target X.env u) (fun _ s'=>∃ σ' H',Inv X pins σ' H' s'/\Q σ' H') X.xe s
def PGs (X:Cx)(ts:List Expr)(t:TGs):Prop:=
 ∀ (pins:List (Addr×Obj)) (s:Shared) (σ:St) (H:Hp) (vs:List V) (us:List Value) (Q:St->Hp->Prop),Inv X pins σ H s->ZN vs us->t vs σ H Q->
  wpAny (model X.prog X.w) X.A (assignInOrder ((assignEach ts X.env).map (·.2)) us) (fun _ s'=>∃ σ' H',Inv X pins σ' H' s'/\Q σ' H') X.xe s
noncomputable abbrev TSet:=V->V->V->Hp->(Hp->Prop)->Prop
def PSet (X:Cx)(t:TSet):Prop:=
 ∀ (pins:List (Addr×Obj)) (s:Shared) (σ:St) (H:Hp) (o i v:V) (ov iv u:Value) (Q:Hp->Prop),Inv X pins σ H s->ZM o ov->ZM i iv->ZM v u->t o i v H Q->
  wpAny (model X.prog X.w) X.A (setItem ov iv u) (fun _ s'=>∃ H',Inv X pins σ H' s'/\Q H') X.xe s
noncomputable abbrev TIp:=V->V->Hp->VK->Prop
def PIp (X:Cx)(op:Operator)(t:TIp):Prop:=
 ∀ (pins:List (Addr×Obj)) (s:Shared) (σ:St) (H:Hp) (x y:V) (v u:Value) (Q:VK),Inv X pins σ H s->ZM x v->ZM y u->t x y H Q->
  wpAny (model X.prog X.w) X.A (inplaceOp op v u) (EP X pins σ Q) X.xe s
section
variable {X:Cx}{pos:Pos}
noncomputable def Zs (i:Nat):TG:=fun v σ H Q=>Q (σ.set i (some v)) H
theorem Zu {i:Nat}{x:Str}(hN:X.N.Nodup)(hi:X.N[i]?=some x)(hx:Loc X.env.scope x)(hf:X.fn x=true\/X.env.scope.names.lookup x=some .local:=by first|exact .inl rfl|exact .inr rfl|assumption):PG X (.Name x pos) (Zs i):=by
 intro pins s σ H v u Q I r h;exact wpAny_assign_Name (UC I hN hi hx r (fun s' I'=>⟨_,H,I',h⟩) hf)
noncomputable def gNil:TGs:=fun vs σ H Q=>vs=[]/\Q σ H
noncomputable def ZjF (t:TG)(u:TGs):TGs:=fun vs σ H Q=>∃ v r,vs=v::r/\t v σ H fun σ' H'=>u r σ' H' Q
theorem Z7I:PGs X [] gNil:=by
 intro pins s σ H vs us Q I r h;obtain⟨e,h⟩:=h;subst e;cases r;exact assignInOrder_nil ⟨σ,H,I,h⟩
theorem Vw {e:Expr}{es:List Expr}{t:TG}{u:TGs}(h1:PG X e t)(h2:PGs X es u)
  (hs:(assignEach (e::es) X.env).map (·.2)=assign e X.env::(assignEach es X.env).map (·.2):=by rfl):PGs X (e::es) (ZjF t u):=by
 intro pins s σ H vs us Q I r h;obtain⟨v,vr,e1,h⟩:=h;subst e1;cases r with
 | cons r rr=>
  rw[hs];refine assignInOrder_cons (thn (h1 pins s σ H _ _ _ I r h) fun _ s1 ⟨σ1,H1,I1,q1⟩=>?_);exact h2 pins s1 σ1 H1 _ _ Q I1 rr q1
noncomputable def gTup (K:Y00)(n:Nat)(t:TGs):TG:=fun v σ H Q=>∃ a xs,v=.ref a/\SqT K H a xs/\xs.length=n/\t xs σ H Q
theorem Zg8 {es:List Expr}{k:Nat}{t:TGs}{n:Nat}(hc:X.calm=true)(h:PGs X es t)
  (hn:(assignEach es X.env).length=n:=by rfl) (hst:(assignEach es X.env).findIdx? (·.1)=none:=by rfl):PG X (.Tuple es k pos) (gTup X.K n t):=by
 intro pins s σ H v u Q I r hw;obtain⟨a,xs,e1,hq,hl,hw⟩:=hw;subst e1;cases r;obtain⟨its,rv,ht,hz⟩:=I.tuple hq;refine assign_Tuple_tuple (I.ok.hd hc) ht (by simp[hn,<-hl,rv.length]) hst fun h' hx=>?_;have I1:Inv X pins σ H { s with heap:=h' }:=I.kept (t':=s.toks) fun b o e=>hx b o (Y0j (Y09 e)) e;exact h pins _ σ H xs _ Q I1 (by simpa using rv) hw
noncomputable def X8 (te:TE)(g:TG):TS:=fun D σ H=>te σ H fun x H1=>g x σ H1 D.nx
theorem ZgE {tg e:Expr}{te:TE}{g:TG}(he:PE X e te)(hg:PG X tg g)(hs:swapsWithSole [tg] e pos.line X.env=pure false:=by rfl)(hw:swappedStores [tg] e X.env=pure none:=by rfl)
  (h1:(assignEach [tg] X.env).map (·.2)=[assign tg X.env]:=by rfl):PS X (.Assign [tg] e pos) (X8 te g):=by
 intro pins s σ H D I h;refine wpAny_Assign_stores (thn (he pins s σ H _ I h) fun v s1 ⟨x,H1,I1,r1,q1⟩=>?_) hs hw;rw[h1];exact thn (hg pins s1 σ H1 x v _ I1 r1 q1) fun _ s2 q=>q
theorem ZW {i:Nat}{x:Str}{e:Expr}{te:TE}{pos':Pos}(hN:X.N.Nodup)(hi:X.N[i]?=some x)(hx:Loc X.env.scope x)(he:PE X e te)(hs:swapsWith e (some (.Name x pos')) pos.line X.env=pure false:=by rfl)(hf:X.fn x=true\/X.env.scope.names.lookup x=some .local:=by first|exact .inl rfl|exact .inr rfl|assumption) :
  PS X (.Assign [.Name x pos'] e pos) (X8 te (Zs i)):=by
 intro pins s σ H D I h;refine wpAny_Assign_Name (thn (he pins s σ H _ I h) fun v s1 ⟨y,H1,I1,r1,q1⟩=>?_) hs;exact UC I1 hN hi hx r1 (fun s2 I2=>⟨_,H1,I2,q1⟩) hf
noncomputable def tPar (i j:Nat)(ta:TA):TS:=fun D σ H=>ta σ H fun vs H1=>∃ v w,vs=[v,w]/\D.nx ((σ.set i (some v)).set j (some w)) H1
theorem Zem {i j:Nat}{x y:Str}{a b:Expr}{ta:TA}{px py pt:Pos}{kt k2 pt2}(hc:X.calm=true)(hN:X.N.Nodup)(hi:X.N[i]?=some x)(hj:X.N[j]?=some y)(hij:i≠j)
  (hx:X.env.scope.names.lookup x=some .local) (hy:X.env.scope.names.lookup y=some .local) (ha:PA X [a,b] ta)
  (hw:swappedStores [.Tuple [.Name x px,.Name y py] kt pt] (.Tuple [a,b] k2 pt2) X.env=pure (some [x,y]))
  (hs:swapsWithSole [.Tuple [.Name x px,.Name y py] kt pt] (.Tuple [a,b] k2 pt2) pos.line X.env=pure false:=by rfl) :
  PS X (.Assign [.Tuple [.Name x px,.Name y py] kt pt] (.Tuple [a,b] k2 pt2) pos) (tPar i j ta):=by
 intro pins s σ H D I h;rw[exec_Assign_arm];refine wpAny_bind (wpAny_standAt ?_);rw[hs];refine wpAny_bind (wpAny_pure ?_);rw[if_neg (by decide)];refine wpAny_bind (Tuple_ (thn (ha _ pins s σ H _ I h) fun us s1 ⟨vs,H1,I1,r1,q1⟩=>?_));obtain⟨v,w,e1,q1⟩:=q1;subst e1;obtain⟨u1,u2,rfl,rv,rw'⟩:∃ u1 u2,us=[u1,u2]/\ZM v u1/\ZM w u2:=by
  cases r1 with
  | cons p q=>
   cases q with
   | cons p' q'=>
    cases q';exact⟨_,_,rfl,p,p'⟩
 refine wpAny_newObj_type ?_ (by show 2<=sizeLine;decide);have I2:Inv X pins σ H1 { s1 with heap:=s1.heap.push { cls:=.type "tuple",data:=.seq [u1,u2].toArray } }:=I1.kept (t':=s1.toks) fun b o e=>Y03 _ e;rw[hw];refine wpAny_bind (wpAny_pure ?_);show wpAny (model X.prog X.w) X.A (do rule "assign.swapped-stores";let items <-unpackItems (.ref s1.heap.objs.size) 2 none;assignInOrder [fun v=>bindName X.env y v,fun v=>bindName X.env x v] items.reverse;pure Flow.next) _ _ _;refine wpAny_bind (wpAny_rule (wpAny_bind (unpackItems_tuple (items:=#[u1,u2]) (I.ok.hd hc) (IsTup.new s1.heap _) fun h' hx'=>?_)));have I3:=I2.kept (h':=h') (t':=s1.toks) fun b o e=>hx' b o (Y0j (Y09 e)) e;show wpAny _ _ (assignInOrder [fun v=>bindName X.env y v,fun v=>bindName X.env x v] [u2,u1] >>= fun _=>pure Flow.next) _ _ _;refine wpAny_bind (assignInOrder_cons (wpAny_bindName (UC I3 hN hj (.inl hy) rw' (fun s2 I4=>?_) (.inr hy))));refine assignInOrder_cons (wpAny_bindName (UC I4 hN hi (.inl hx) rv (fun s3 I5=>assignInOrder_nil (wpAny_pure ?_)) (.inr hx)));rw[List.set_comm _ _ (Ne.symm hij)]at I5;exact⟨_,H1,I5,q1⟩
noncomputable def tAug (i:Nat)(te:TE)(ti:TIp):TS:=fun D σ H=>∃ x,σ[i]?=some (some x)/\te σ H fun y H1=>ti x y H1 fun z H2=>D.nx (σ.set i (some z)) H2
theorem Zbj {i:Nat}{x:Str}{e:Expr}{te:TE}{op:Operator}{ti:TIp}{pos':Pos}(hN:X.N.Nodup)(hi:X.N[i]?=some x)(hx:Loc X.env.scope x)(he:PE X e te)(ho:PIp X op ti)(hf:X.fn x=true\/X.env.scope.names.lookup x=some .local:=by first|exact .inl rfl|exact .inr rfl|assumption) :
  PS X (.AugAssign (.Name x pos') op e pos) (tAug i te ti):=by
 intro pins s σ H D I h;obtain⟨v,e1,h⟩:=h;obtain⟨m,hn,hl⟩:=I.loc;have vis:Vis X.env.scope x:=by rcases hx with k|k;exact .inl k;exact .inr (.inl k)
 obtain⟨u,r,l⟩:=hl i x v hi e1 vis;refine wpAny_AugAssign_Name ?_;have go:wpAny (model X.prog X.w) X.A (eval e X.env) (fun w s₂=>wpAny (model X.prog X.w) X.A (inplaceOp op u w) (fun r s₃=>wpAny (model X.prog X.w) X.A (storeName X.env x r) (fun _=>SP X pins D .next) X.xe s₃) X.xe s₂) X.xe s:=by
  refine thn (he pins s σ H _ I h) fun w s1 ⟨y,H1,I1,r1,q1⟩=>?_;refine thn (ho pins s1 σ H1 v y u w _ I1 r r1 q1) fun z s2 ⟨zv,H2,I2,r2,q2⟩=>?_;exact UC I2 hN hi hx r2 (fun s3 I3=>⟨_,H2,I3,q2⟩) hf
 rcases l with ⟨hk,hm⟩|⟨hk,c,hc,hcell⟩
 ·exact wpAny_loadName_local I.ok.kind hk hn hm go
 ·rcases hk with hk|hk
  ·exact wpAny_loadName_cell I.ok.kind hk hc hcell go
  ·rcases hx with k|k
   ·have:X.env.scope.names.lookup x=some .free:=hk;rw[k]at this;cases this
   ·have:X.env.scope.names.lookup x=some .free:=hk;rw[k]at this;cases this
noncomputable def ipI (f:Int->Int->Int):TIp:=fun x y H Q=>∃ i j,x=.int i/\y=.int j/\Q (.int (f i j)) H
theorem ZaL:PIp X .Add (ipI fun i j=>i+j):=by
 intro pins s σ H x y v u Q I r1 r2 h;obtain⟨i,j,e1,e2,q⟩:=h;subst e1;subst e2;obtain⟨t,rfl⟩:=r1;obtain⟨t',rfl⟩:=r2;exact iadd_int ⟨.int _,H,I.tok _,⟨_,rfl⟩,q⟩
noncomputable def Zam (c:TT)(tb:TS):TS:=fun D σ H=>∃ W:Nat->St->Hp->Prop,(∃ m,W m σ H)/\∀ m σ H,W m σ H->
 c σ H fun b H1=>if b=true then ∃ N:St->Hp->Prop,(∀ σ' H',N σ' H'->∃ m',m'<m/\W m' σ' H')/\tb { D with nx:=N,ct:=N,bk:=D.nx } σ H1 else D.nx σ H1
theorem XU {c:Expr}{body:List Stmt}{tc:TT}{tb:TS}(hp:PassesOwn (model X.prog X.w) X.A X.env X.xe)(hc:PT X c tc)(hb:PSs X body tb):PS X (.While c body [] pos) (Zam tc tb):=by
 intro pins s σ H D I h;obtain⟨W,⟨m0,w0⟩,turn⟩:=h;refine wpAny_While (codeAny_whileLoop (fun n s'=>∃ σ' H',Inv X pins σ' H' s'/\W n σ' H') ?_ m0 ⟨σ,H,I,w0⟩);rintro n s1 ⟨σ1,H1,I1,w1⟩;refine wpAny_passesOwn hp (thn (hc pins s1 σ1 H1 _ I1 (turn n σ1 H1 w1)) fun b s2 ⟨H2,I2,q2⟩=>?_);cases b with
 | true=>
  obtain⟨N,hN,q2⟩:=q2;rw[if_pos rfl];refine wpAny_passesOwn hp (thn (hb pins s2 σ1 H2 _ I2 q2) fun f s3 q3=>?_);cases f with
  | next=>
   obtain⟨σ3,H3,I3,n3⟩:=q3;obtain⟨m',hm,w3⟩:=hN σ3 H3 n3;exact⟨m',hm,σ3,H3,I3,w3⟩
  | cont=>
   obtain⟨σ3,H3,I3,n3⟩:=q3;obtain⟨m',hm,w3⟩:=hN σ3 H3 n3;exact⟨m',hm,σ3,H3,I3,w3⟩
  | brk=>exact q3
  | ret v=>exact q3
 | false=>
  rw[if_neg Y0i];exact wpAny_execs_nil ⟨σ1,H2,I2,q2⟩
end
structure It where
 go:Nat->Hp->Prop
 yld:Nat->Hp->V->Hp->Prop
 stop:Nat->Hp->Prop
def Yp (X:Cx)(pins:List (Addr×Obj))(H:Hp)(b:Addr):Prop:=
 H b=none/\b≠X.env.locals/\b∉X.fs/\(b∈X.ex\/X.s₀.heap.objs.size<=b)/\(∀ x c,X.env.cells.lookup x=some c->c≠b)/\∀ p∈X.pn++pins,p.1≠b
theorem Inv.fpOk {X:Cx}{pins:List (Addr×Obj)}{σ:St}{H H':Hp}{s:Shared}{b:Addr}(I:Inv X pins σ H s)(hb:s.heap.objs.size<=b)(hn:H' b=none):Yp X pins H' b:=by
 refine⟨hn,Y55 (Y0o I.lt hb),I.nofs hb,.inr (Y0z I.sz hb),fun x c e z=>?_,fun p hp z=>?_⟩
 ·obtain⟨v,q⟩:=I.cell x c e;exact absurd (Y0o q.lt (by rw[z];exact hb)) (Y2d _)
 ·exact absurd (Y0o (Y09 (I.pin p hp).1) (by rw[z];exact hb)) (Y2d _)
structure UY (P:Program)(w:World)(K:Y00)(tg:Expr)(J:It)(fp:List Addr)(it:Addr)(tn:Nat->Heap->Prop):Prop where
 mem:it∈fp
 obj:∀ i h,tn i h->∀ b∈fp,∃ o,h.get? b=some o/\∀ v,o.data≠.cell v
 keep:∀ i h h',tn i h->(∀ b∈fp,∀ o,h.get? b=some o->h'.get? b=some o)->tn i h'
 item:∀ (X:Cx),X.prog=P->X.w=w->X.K=K->X.calm=true->∀ (i:Nat) (pins:List (Addr×Obj)) (s:Shared) (σ:St) (H:Hp) (E:Value->Shared->Prop),Inv X pins σ H s->(∀ b∈fp,Yp X pins H b)->tn i s.heap->J.go i H->
  wpAny (model P w) X.A (pyNext (.ref it)) (fun r s1=>∃ u,r=some u/\
   wpAny (model P w) X.A (letOwnedTupleGo tg (.ref it) u) (fun _ s2=>∃ x H',Inv X pins σ H' s2/\ZM x u/\J.yld i H x H'/\tn (i+1) s2.heap/\∀ b∈fp,H' b=none) E s1) E s
 done:∀ (X:Cx),X.prog=P->X.w=w->X.K=K->X.calm=true->∀ (i:Nat) (pins:List (Addr×Obj)) (s:Shared) (σ:St) (H:Hp) (E:Value->Shared->Prop),Inv X pins σ H s->(∀ b∈fp,Yp X pins H b)->tn i s.heap->J.stop i H->
  wpAny (model P w) X.A (pyNext (.ref it)) (fun r s1=>r=none/\Inv X pins σ H s1) E s
 self:∀ (A:Around) (i:Nat) (s:Shared) (Q:Value->Shared->Prop) (E:Value->Shared->Prop),tn i s.heap->Q (.ref it) s->wpAny (model P w) A (pyIter (.ref it)) Q E s
noncomputable abbrev TI:=St->Hp->(It->Hp->Prop)->Prop
def PIE (X:Cx)(pins:List (Addr×Obj))(σ:St)(tg:Expr)(R:It->Hp->Prop)(itv:Value)(s2:Shared):Prop:=
 ∃ (it:Addr) (fp:List Addr) (tn:Nat->Heap->Prop) (J:It) (H':Hp),itv=.ref it/\Inv X pins σ H' s2/\UY X.prog X.w X.K tg J fp it tn/\tn 0 s2.heap/\(∀ b∈fp,Yp X pins H' b)/\R J H'
def PI (X:Cx)(tg iter:Expr)(wi:TI):Prop:=
 ∀ (pins:List (Addr×Obj)) (s:Shared) (σ:St) (H:Hp) (R:It->Hp->Prop),Inv X pins σ H s->wi σ H R->
  wpAny (model X.prog X.w) X.A (eval iter X.env) (fun v s1=>wpAny (model X.prog X.w) X.A (pyIter v) (PIE X pins σ tg R) X.xe s1) X.xe s
theorem RO {M:Model}{A:Around}{E:Value->Shared->Prop}{s:Shared}{tg:Expr}{it:Addr}{u:Value}{o:Obj}{n:String}{vs:Array Value}{Q:Unit->Shared->Prop}(ho:s.heap.get? it=some o)(hc:o.cls=.type n)(hd:o.data=.fields vs)
  (hn:["enumerate","zip","dict_itemiterator","dict_reverseitemiterator","odict_iterator","itertools.zip_longest","itertools.pairwise"].contains n=false) (hQ:Q () s):wpAny M A (letOwnedTupleGo tg (.ref it) u) Q E s:=by
 unfold letOwnedTupleGo;cases tg<;>first
  | exact wpAny_pure hQ
  | (cases u<;>first
      | exact wpAny_pure hQ
      | (refine wpAny_bind (wpAny_load ho ?_);rw[hc,hd];show wpAny M A (if (["enumerate","zip","dict_itemiterator","dict_reverseitemiterator","odict_iterator","itertools.zip_longest","itertools.pairwise"].contains n&&vs[0]?==some (rawInt _))=true then _ else _) Q E s;rw[if_neg (by intro h;rw[hn,Bool.false_and]at h;cases h)];exact wpAny_pure hQ))
noncomputable def Itl (K:Y00)(a:Addr):It:=
 ⟨fun i H=>∃ xs x,SqL K H a xs/\xs[i]?=some x,fun i H x H'=>H'=H/\∀ xs,SqL K H a xs->xs[i]?=some x,fun i H=>∃ xs,SqL K H a xs/\xs.length<=i⟩
noncomputable def Itt (K:Y00)(a:Addr):It:=
 ⟨fun i H=>∃ xs x,SqT K H a xs/\xs[i]?=some x,fun i H x H'=>H'=H/\∀ xs,SqT K H a xs->xs[i]?=some x,fun i H=>∃ xs,SqT K H a xs/\xs.length<=i⟩
noncomputable def Itr (lo:Int)(n:Nat):It:=⟨fun i _=>i<n,fun i H x H'=>H'=H/\x=.int (lo+i),fun i _=>n<=i⟩
theorem Zbp {P:Program}{w:World}{K:Y00}{tg:Expr}(a it:Addr):UY P w K tg (Itl K a) [it] it (fun i h=>h.IsListIter it a i) where
 mem:=by simp
 obj:=fun i h st b hb=>by
  have e:b=it:=by simpa using hb
  subst e;obtain⟨o,e,c,d⟩:=st;exact⟨o,e,fun v z=>by rw[d]at z;cases z⟩
 keep:=fun i h h' st k=>st.at fun o e=>k it (by simp) o e
 item:=by
  intro X hP hw hK hc i pins s σ H E I hf st hg;subst hP hw hK;obtain⟨xs,x,hq,hx⟩:=hg;obtain⟨its,rv,p,hz⟩:=I.list hq;obtain⟨u,hu,ru⟩:=rv.get hx;obtain⟨f0,f1,f2,f3,f4,f5⟩:=hf it (by simp);refine wpAny_pyNext_list_item st p.isList (x:=u) (by simpa using hu) fun h' st' sb=>?_;have I1:Inv X pins σ H { s with heap:=h' }:=I.turned (t':=s.toks) (fun b o hb e=>(sb.2 b hb).trans e) f0 f1 f3 f4 f5;obtain⟨o,e,c,d⟩:=id st';exact⟨u,rfl,RO (s:={ s with heap:=h' }) e c d (by decide) ⟨x,H,I1,ru,⟨rfl,fun ys hy=>by rw[I.list_inj hy hq];exact hx⟩,st',fun b hb=>(hf b hb).1⟩⟩
 done:=by
  intro X hP hw hK hc i pins s σ H E I hf st hg;subst hP hw hK;obtain⟨xs,hq,hx⟩:=hg;obtain⟨its,rv,p,hz⟩:=I.list hq;obtain⟨f0,f1,f2,f3,f4,f5⟩:=hf it (by simp);have hl:=rv.length;exact wpAny_pyNext_list_end (I.ok.hd hc) st p.isList (by simp;lia) fun h' eb=>⟨rfl,I.turned (t':=s.toks) (fun b o hb e=>eb b o hb e) f0 f1 f3 f4 f5⟩
 self:=fun _ _ _ _ _ st h=>wpAny_pyIter_listiter st h
theorem Z9z {P:Program}{w:World}{K:Y00}{tg:Expr}(a it:Addr):UY P w K tg (Itt K a) [it] it (fun i h=>h.IsTupleIter it a i) where
 mem:=by simp
 obj:=fun i h st b hb=>by
  have e:b=it:=by simpa using hb
  subst e;obtain⟨o,e,c,d⟩:=st;exact⟨o,e,fun v z=>by rw[d]at z;cases z⟩
 keep:=fun i h h' st k=>st.at fun o e=>k it (by simp) o e
 item:=by
  intro X hP hw hK hc i pins s σ H E I hf st hg;subst hP hw hK;obtain⟨xs,x,hq,hx⟩:=hg;obtain⟨its,rv,p,hz⟩:=I.tuple hq;obtain⟨u,hu,ru⟩:=rv.get hx;obtain⟨f0,f1,f2,f3,f4,f5⟩:=hf it (by simp);refine wpAny_pyNext_tuple_item st (show s.heap.IsTuple a its.toArray from p) (x:=u) (by simpa using hu) fun h' st' sb=>?_;have I1:Inv X pins σ H { s with heap:=h' }:=I.turned (t':=s.toks) (fun b o hb e=>(sb.2 b hb).trans e) f0 f1 f3 f4 f5;obtain⟨o,e,c,d⟩:=id st';exact⟨u,rfl,RO (s:={ s with heap:=h' }) e c d (by decide) ⟨x,H,I1,ru,⟨rfl,fun ys hy=>by rw[I.tuple_inj hy hq];exact hx⟩,st',fun b hb=>(hf b hb).1⟩⟩
 done:=by
  intro X hP hw hK hc i pins s σ H E I hf st hg;subst hP hw hK;obtain⟨xs,hq,hx⟩:=hg;obtain⟨its,rv,p,hz⟩:=I.tuple hq;obtain⟨f0,f1,f2,f3,f4,f5⟩:=hf it (by simp);have hl:=rv.length;exact wpAny_pyNext_tuple_end (I.ok.hd hc) st (show s.heap.IsTuple a its.toArray from p) (by simp;lia) fun h' eb=>⟨rfl,I.turned (t':=s.toks) (fun b o hb e=>eb b o hb e) f0 f1 f3 f4 f5⟩
 self:=fun _ _ _ _ _ st h=>wpAny_pyIter_tupleiter st h
theorem Z9q {P:Program}{w:World}{K:Y00}{tg:Expr}(it:Addr)(lo:Int)(n:Nat):UY P w K tg (Itr lo n) [it] it (fun i h=>IsRangeIter h it (lo+(i:Nat)*1) ((n:Int)-(i:Nat)) 1) where
 mem:=by simp
 obj:=fun i h st b hb=>by
  have e:b=it:=by simpa using hb
  subst e;exact⟨_,st,fun v z=>by
   have z':Data.fields _=Data.cell v:=z
   cases z'⟩
 keep:=fun i h h' st k=>k it (by simp) _ st
 item:=by
  intro X hP hw hK hc i pins s σ H E I hf st hg;subst hP hw hK;obtain⟨f0,f1,f2,f3,f4,f5⟩:=hf it (by simp);have W:=Walks.range (prog:=X.prog) (w:=X.w) (I.ok.hd hc) it lo 1 n;refine W.item i s _ _ hg st fun v h' tk hv st' kk=>?_;obtain⟨t,rfl⟩:=hv;have I1:Inv X pins σ H { s with heap:=h',toks:=tk }:=I.turned (fun b o hb e=>kk b o (by simpa using hb) e) f0 f1 f3 f4 f5;refine⟨_,rfl,RO (s:={ s with heap:=h',toks:=tk }) (n:="range_iterator") st' rfl rfl (by decide) ⟨.int (lo+i),H,I1,⟨t,?_⟩,⟨rfl,rfl⟩,st',fun b hb=>(hf b hb).1⟩⟩;rw[Y33]
 done:=by
  intro X hP hw hK hc i pins s σ H E I hf st hg;subst hP hw hK;obtain⟨f0,f1,f2,f3,f4,f5⟩:=hf it (by simp);exact wpAny_pyNext_range_end (I.ok.hd hc) st (by have:n<=i:=hg;lia) fun h' eb=>⟨rfl,I.turned (t':=s.toks) (fun b o hb e=>eb b o hb e) f0 f1 f3 f4 f5⟩
 self:=fun _ _ _ _ _ st h=>wpAny_pyIter_rangeiter st h
section
variable {X:Cx}{tg:Expr}
noncomputable def XZ (K:Y00)(tl:TE):TI:=fun σ H R=>tl σ H fun x H1=>∃ a,x=.ref a/\(∃ xs,SqL K H1 a xs)/\R (Itl K a) H1
noncomputable def RA (K:Y00)(tl:TE):TI:=fun σ H R=>tl σ H fun x H1=>∃ a,x=.ref a/\(∃ xs,SqT K H1 a xs)/\R (Itt K a) H1
theorem Yl {l:Expr}{tl:TE}(hl:PE X l tl):PI X tg l (XZ X.K tl):=by
 intro pins s σ H R I h;refine thn (hl pins s σ H _ I h) fun v s1 ⟨x,H1,I1,r1,q1⟩=>?_;obtain⟨a,e,⟨xs,hq⟩,q⟩:=q1;subst e;cases r1;obtain⟨its,rv,p,hz⟩:=I1.list hq;refine wpAny_pyIter_list p.isList ?_;refine⟨s1.heap.objs.size,[s1.heap.objs.size],_,_,H1,rfl,I1.kept (t':=s1.toks) fun b o e=>Y03 _ e,Zbp a _,⟨_,Y0b _ rfl,rfl,rfl⟩,fun b hb=>?_,q⟩;have e:b=s1.heap.objs.size:=by simpa using hb
 subst e;exact I1.fpOk (Y05 _) (I1.hok.fresh (Y05 _))
theorem Vd {l:Expr}{tl:TE}(hl:PE X l tl):PI X tg l (RA X.K tl):=by
 intro pins s σ H R I h;refine thn (hl pins s σ H _ I h) fun v s1 ⟨x,H1,I1,r1,q1⟩=>?_;obtain⟨a,e,⟨xs,hq⟩,q⟩:=q1;subst e;cases r1;obtain⟨its,rv,p,hz⟩:=I1.tuple hq;refine wpAny_pyIter_tuple (show s1.heap.IsTuple a its.toArray from p) ?_;refine⟨s1.heap.objs.size,[s1.heap.objs.size],_,_,H1,rfl,I1.kept (t':=s1.toks) fun b o e=>Y03 _ e,Z9z a _,⟨_,Y0b _ rfl,rfl,rfl⟩,fun b hb=>?_,q⟩;have e:b=s1.heap.objs.size:=by simpa using hb
 subst e;exact I1.fpOk (Y05 _) (I1.hok.fresh (Y05 _))
theorem Z99 {pins:List (Addr×Obj)}{σ:St}{H:Hp}{s:Shared}{R:It->Hp->Prop}{E:Value->Shared->Prop}{lo hi:Int}{t u v:Tok}{tk:Nat}(I:Inv X pins σ H s)(h1:-(2^62)<=lo)(h2:lo<2^62)(h3:-(2^62)<=hi)(h4:hi<2^62)
  (q:R (Itr lo (hi-lo).toNat) H):wpAny (model X.prog X.w) X.A (pyIter (.ref s.heap.objs.size)) (PIE X pins σ tg R) E { s with heap:=s.heap.push { cls:=.type "range",data:=.fields #[.int lo t,.int hi u,.int 1 v] },toks:=tk }:=by
 refine wpAny_pyIter_range (IsRange.new ..) (small_one h1 h2 h3 h4) ?_;have I1:Inv X pins σ H { s with heap:=s.heap.push { cls:=.type "range",data:=.fields #[.int lo t,.int hi u,.int 1 v] },toks:=tk }:=I.kept fun b o e=>Y03 _ e;refine⟨(s.heap.push { cls:=.type "range",data:=.fields #[.int lo t,.int hi u,.int 1 v] }).objs.size,[(s.heap.push { cls:=.type "range",data:=.fields #[.int lo t,.int hi u,.int 1 v] }).objs.size],_,_,H,rfl,
  I1.kept (t':=tk) fun b o e=>Y03 _ e,Z9q _ lo (hi-lo).toNat,?_,fun b hb=>?_,q⟩
 ·have e1:lo+((0:Nat):Int)*1=lo:=by simp
  have e2:(((hi-lo).toNat:Nat):Int)-((0:Nat):Int)=Builtin.Range.rangeSize lo hi 1:=by rw[rangeSize_one];split<;>lia
  show IsRangeIter _ _ (lo+((0:Nat):Int)*1) ((((hi-lo).toNat:Nat):Int)-((0:Nat):Int)) 1;rw[e1,e2];exact Y0b _ rfl
 ·have e:b=(s.heap.push { cls:=.type "range",data:=.fields #[.int lo t,.int hi u,.int 1 v] }).objs.size:=by simpa using hb
  subst e;exact I1.fpOk (Y05 _) (I1.hok.fresh (Y05 _))
noncomputable def RW (ta:TA):TI:=fun σ H R=>ta σ H fun vs H1=>∃ j:Int,vs=[.int j]/\-(2^62)<=j/\j<2^62/\R (Itr 0 j.toNat) H1
noncomputable def Zj6 (ta:TA):TI:=fun σ H R=>ta σ H fun vs H1=>∃ i j:Int,vs=[.int i,.int j]/\(-(2^62)<=i/\i<2^62/\-(2^62)<=j/\j<2^62)/\R (Itr i (j-i).toNat) H1
theorem WZ {a:Expr}{ta:TA}{p pos:Pos}(hg:Gl X "range")(hm:X.mg "range"=none)(ha:PA X [a] ta)(hs:starEach [a] X.env=[(false,eval a X.env)]:=by rfl):PI X tg (.Call (.Name "range" p) [a] [] pos) (RW ta):=by
 intro pins s σ H R I h;refine Call_ (Vi I hg hm boot_range (PyProof.Rows.callWith_type1 (thn (ha pos pins s σ H _ I h) fun us s1 ⟨vs,H1,I1,r1,q1⟩=>?_) hs rfl));obtain⟨j,e,q1,q2,q⟩:=q1;subst e;cases r1 with
 | cons r rr=>
  cases rr;obtain⟨t,rfl⟩:=r;exact call_range_1 (Z99 I1 (by lia) (by lia) q1 q2 (by simpa using q))
theorem Zbt {a b:Expr}{ta:TA}{p pos:Pos}(hg:Gl X "range")(hm:X.mg "range"=none)(ha:PA X [a,b] ta)(hs:starEach [a,b] X.env=[(false,eval a X.env),(false,eval b X.env)]:=by rfl)(hs2:starEach [b] X.env=[(false,eval b X.env)]:=by rfl) :
  PI X tg (.Call (.Name "range" p) [a,b] [] pos) (Zj6 ta):=by
 intro pins s σ H R I h;refine Call_ (Vi I hg hm boot_range (PyProof.Rows.callWith_type1 (thn (ha pos pins s σ H _ I h) fun us s1 ⟨vs,H1,I1,r1,q1⟩=>?_) (by rw[hs,hs2]) (by rw[hs2];rfl)));obtain⟨i,j,e,⟨q1,q2,q3,q4⟩,q⟩:=q1;subst e;cases r1 with
 | cons r rr=>
  cases rr with
  | cons r' rr=>
   cases rr;obtain⟨t,rfl⟩:=r;obtain⟨t',rfl⟩:=r';exact call_range_2 (Z99 I1 q1 q2 q3 q4 q)
noncomputable def tFor (wi:TI)(g:TG)(tb:TS):TS:=fun D σ H=>wi σ H fun J H1=>∃ W:Nat->Nat->St->Hp->Prop,(∃ m,W 0 m σ H1)/\∀ i m σ H,W i m σ H->
 (J.stop i H/\D.nx σ H)\/(J.go i H/\∃ N:St->Hp->Prop,(∀ σ' H',N σ' H'->∃ m',m'<m/\W (i+1) m' σ' H')/\∀ x H',J.yld i H x H'->g x σ H' fun σ2 H2=>tb { D with nx:=N,ct:=N,bk:=D.nx } σ2 H2)
noncomputable def R3 (fp:List Addr)(h:Heap):List (Addr×Obj):=fp.filterMap fun b=>(h.get? b).map fun o=>(b,o)
theorem Yo {fp:List Addr}{h:Heap}{b:Addr}{o:Obj}(hb:b∈fp)(e:h.get? b=some o):(b,o)∈R3 fp h:=Y56.mpr ⟨b,hb,by rw[e];rfl⟩
theorem Za3 {fp:List Addr}{h:Heap}{p:Addr×Obj}(hp:p∈R3 fp h):p.1∈fp/\h.get? p.1=some p.2:=by
 obtain⟨b,hb,e⟩:=Y56.mp hp;cases q:h.get? b with
 | none=>rw[q]at e;cases e
 | some o=>
  rw[q]at e;have e':(b,o)=p:=Option.some.inj e;subst e';exact⟨hb,q⟩
theorem Inv.pinned {pins:List (Addr×Obj)}{σ:St}{H:Hp}{s:Shared}{fp:List Addr}(I:Inv X pins σ H s)(hf:∀ b∈fp,Yp X pins H b)(ho:∀ b∈fp,∃ o,s.heap.get? b=some o/\∀ v,o.data≠.cell v):Inv X (pins++R3 fp s.heap) σ H s:=
 I.pins_of fun p hp=>(Y0n.mp hp).elim (fun z=>I.pin p (Y0a _ z)) fun z=>by
  obtain⟨hb,e⟩:=Za3 z;obtain⟨f0,f1,f2,_⟩:=hf p.1 hb;obtain⟨o,e',d⟩:=ho p.1 hb;rw[e]at e';cases e';exact⟨e,f0,f1,f2,d⟩
theorem Inv.unpinned {pins pl:List (Addr×Obj)}{σ:St}{H:Hp}{s:Shared}(I:Inv X (pins++pl) σ H s):Inv X pins σ H s:=I.pins_of fun p hp=>I.pin p (Y0a _ (Y4p _ hp))
theorem Yg {iter:Expr}{body:List Stmt}{wi:TI}{g:TG}{tb:TS}{pos:Pos}(hp:PassesOwn (model X.prog X.w) X.A X.env X.xe)(hc:X.calm=true)(hi:PI X tg iter wi)(hg:PG X tg g)(hb:PSs X body tb)
  (hs:∀ x,foldedSetIterable iter X.env x=pure x:=by intro _;rfl):PS X (.For tg iter body [] pos) (tFor wi g tb):=by
 intro pins s σ H D I h;refine wpAny_For (thn (hi pins s σ H _ I h) fun v s1 h1=>thn h1 fun itv s2 h2=>?_) hs;obtain⟨it,fp,tn,J,H2,e,I2,T,st2,f2,W,⟨m0,w0⟩,turn⟩:=h2;subst e;have stat:∀ {H':Hp},(∀ b∈fp,H' b=none)->∀ b∈fp,Yp X pins H' b:=fun hn b hb=>⟨hn b hb,(f2 b hb).2⟩;refine codeAny_forLoop_any (fun n s'=>∃ i σ' H',Inv X pins σ' H' s'/\tn i s'.heap/\(∀ b∈fp,H' b=none)/\W i n σ' H') ?_ m0 ⟨0,σ,H2,I2,st2,fun b hb=>(f2 b hb).1,w0⟩;rintro n s3 ⟨i,σ3,H3,I3,st3,fr3,w3⟩;rcases turn i n σ3 H3 w3 with ⟨stop,qn⟩|⟨go,N,hN,step⟩
 ·refine wpAny_passesOwn hp (thn (T.done X rfl rfl rfl hc i pins s3 σ3 H3 X.xe I3 (stat fr3) st3 stop) fun r s4 ⟨hr,I4⟩=>?_);subst hr;exact wpAny_execs_nil ⟨σ3,H3,I4,qn⟩
 ·refine wpAny_passesOwn hp (thn (T.item X rfl rfl rfl hc i pins s3 σ3 H3 X.xe I3 (stat fr3) st3 go) fun r s4 ⟨u,hr,h4⟩=>?_);subst hr;refine wpAny_passesOwn hp (thn h4 fun _ s5 ⟨x,H5,I5,r5,y5,st5,fr5⟩=>?_);have I5':=I5.pinned (stat fr5) (T.obj _ _ st5);refine wpAny_passesOwn hp (thn (hg _ s5 σ3 H5 x u _ I5' r5 (step x H5 y5)) fun _ s6 ⟨σ6,H6,I6,q6⟩=>?_);refine wpAny_passesOwn hp (thn (hb _ s6 σ6 H6 _ I6 q6) fun f s7 q7=>?_);have again:∀ {σ7:St} {H7:Hp},Inv X (pins++R3 fp s5.heap) σ7 H7 s7->N σ7 H7->∃ m,m<n/\∃ i σ' H',Inv X pins σ' H' s7/\tn i s7.heap/\(∀ b∈fp,H' b=none)/\W i m σ' H':=fun {σ7 H7} I7 n7=>by
   obtain⟨m',hm,w7⟩:=hN σ7 H7 n7;refine⟨m',hm,i+1,σ7,H7,I7.unpinned,T.keep _ _ _ st5 fun b hb o e=>(I7.pin (b,o) (Y0a _ (Y0a _ (Yo hb e)))).1,fun b hb=>?_,w7⟩;obtain⟨o,e,d⟩:=T.obj _ _ st5 b hb;exact (I7.pin (b,o) (Y0a _ (Y0a _ (Yo hb e)))).2.1
  cases f with
  | next=>obtain⟨σ7,H7,I7,n7⟩:=q7;exact again I7 n7
  | cont=>obtain⟨σ7,H7,I7,n7⟩:=q7;exact again I7 n7
  | brk=>obtain⟨σ7,H7,I7,q7⟩:=q7;exact⟨σ7,H7,I7.unpinned,q7⟩
  | ret v=>obtain⟨x7,σ7,H7,I7,r7,q7⟩:=q7;exact⟨x7,σ7,H7,I7.unpinned,r7,q7⟩
end
theorem SL {K:Y00}{a:Addr}{xs:List V}{g:TG}{tb:TS}{D:Yx}{σ:St}{H:Hp}(Pv:Nat->St->Hp->Prop)(h0:Pv 0 σ H)(hl:∀ i σ H,i<=xs.length->Pv i σ H->SqL K H a xs)
  (hs:∀ i x σ H,xs[i]?=some x->Pv i σ H->g x σ H fun σ2 H2=>tb { D with nx:=Pv (i+1),ct:=Pv (i+1),bk:=D.nx } σ2 H2) (hd:∀ σ H,Pv xs.length σ H->D.nx σ H) :
  ∃ W:Nat->Nat->St->Hp->Prop,(∃ m,W 0 m σ H)/\∀ i m σ H,W i m σ H->
   ((Itl K a).stop i H/\D.nx σ H)\/((Itl K a).go i H/\∃ N:St->Hp->Prop,(∀ σ' H',N σ' H'->∃ m',m'<m/\W (i+1) m' σ' H')/\∀ x H',(Itl K a).yld i H x H'->g x σ H' fun σ2 H2=>tb { D with nx:=N,ct:=N,bk:=D.nx } σ2 H2):=by
 refine⟨fun i m σ H=>m=xs.length-i/\i<=xs.length/\Pv i σ H,⟨xs.length,by simp,Y12 _,h0⟩,?_⟩;rintro i m σ H ⟨rfl,hi,p⟩;have q:=hl i σ H hi p
 by_cases hlt:i<xs.length
 ·refine .inr ⟨⟨xs,xs[i],q,by simp[hlt]⟩,Pv (i+1),fun σ' H' p'=>⟨xs.length-(i+1),by lia,rfl,hlt,p'⟩,fun x H' y=>?_⟩;obtain⟨e,y⟩:=y;subst e;exact hs i x σ _ (y xs q) p
 ·have e:i=xs.length:=by lia
  subst e;exact .inl ⟨⟨xs,q,Y05 _⟩,hd σ H p⟩
theorem Zfx {K:Y00}{a:Addr}{xs:List V}{g:TG}{tb:TS}{D:Yx}{σ:St}{H:Hp}(Pv:Nat->St->Hp->Prop)(h0:Pv 0 σ H)(hl:∀ i σ H,i<=xs.length->Pv i σ H->SqT K H a xs)
  (hs:∀ i x σ H,xs[i]?=some x->Pv i σ H->g x σ H fun σ2 H2=>tb { D with nx:=Pv (i+1),ct:=Pv (i+1),bk:=D.nx } σ2 H2) (hd:∀ σ H,Pv xs.length σ H->D.nx σ H) :
  ∃ W:Nat->Nat->St->Hp->Prop,(∃ m,W 0 m σ H)/\∀ i m σ H,W i m σ H->
   ((Itt K a).stop i H/\D.nx σ H)\/((Itt K a).go i H/\∃ N:St->Hp->Prop,(∀ σ' H',N σ' H'->∃ m',m'<m/\W (i+1) m' σ' H')/\∀ x H',(Itt K a).yld i H x H'->g x σ H' fun σ2 H2=>tb { D with nx:=N,ct:=N,bk:=D.nx } σ2 H2):=by
 refine⟨fun i m σ H=>m=xs.length-i/\i<=xs.length/\Pv i σ H,⟨xs.length,by simp,Y12 _,h0⟩,?_⟩;rintro i m σ H ⟨rfl,hi,p⟩;have q:=hl i σ H hi p
 by_cases hlt:i<xs.length
 ·refine .inr ⟨⟨xs,xs[i],q,by simp[hlt]⟩,Pv (i+1),fun σ' H' p'=>⟨xs.length-(i+1),by lia,rfl,hlt,p'⟩,fun x H' y=>?_⟩;obtain⟨e,y⟩:=y;subst e;exact hs i x σ _ (y xs q) p
 ·have e:i=xs.length:=by lia
  subst e;exact .inl ⟨⟨xs,q,Y05 _⟩,hd σ H p⟩
theorem SR {lo:Int}{n:Nat}{g:TG}{tb:TS}{D:Yx}{σ:St}{H:Hp}(Pv:Nat->St->Hp->Prop)(h0:Pv 0 σ H)
  (hs:∀ i σ H,i<n->Pv i σ H->g (.int (lo+i)) σ H fun σ2 H2=>tb { D with nx:=Pv (i+1),ct:=Pv (i+1),bk:=D.nx } σ2 H2) (hd:∀ σ H,Pv n σ H->D.nx σ H) :
  ∃ W:Nat->Nat->St->Hp->Prop,(∃ m,W 0 m σ H)/\∀ i m σ H,W i m σ H->
   ((Itr lo n).stop i H/\D.nx σ H)\/((Itr lo n).go i H/\∃ N:St->Hp->Prop,(∀ σ' H',N σ' H'->∃ m',m'<m/\W (i+1) m' σ' H')/\∀ x H',(Itr lo n).yld i H x H'->g x σ H' fun σ2 H2=>tb { D with nx:=N,ct:=N,bk:=D.nx } σ2 H2):=by
 refine⟨fun i m σ H=>m=n-i/\i<=n/\Pv i σ H,⟨n,by simp,Y12 _,h0⟩,?_⟩;rintro i m σ H ⟨rfl,hi,p⟩
 by_cases hlt:i<n
 ·refine .inr ⟨hlt,Pv (i+1),fun σ' H' p'=>⟨n-(i+1),by lia,rfl,hlt,p'⟩,fun x H' y=>?_⟩;obtain⟨e,y⟩:=y;subst e y;exact hs i σ _ hlt p
 ·have e:i=n:=by lia
  subst e;exact .inl ⟨Y05 _,hd σ H p⟩
theorem WT {c:TT}{tb:TS}{D:Yx}{σ:St}{H:Hp}(Pv:St->Hp->Prop)(μ:St->Hp->Nat)(h0:Pv σ H)
  (hs:∀ σ H,Pv σ H->c σ H fun b H1=>if b=true then tb { D with nx:=fun σ' H'=>Pv σ' H'/\μ σ' H'<μ σ H,ct:=fun σ' H'=>Pv σ' H'/\μ σ' H'<μ σ H,bk:=D.nx } σ H1 else D.nx σ H1)
  (mono:∀ σ H Q Q',(∀ b H1,Q b H1->Q' b H1)->c σ H Q->c σ H Q'):Zam c tb D σ H:=by
 refine⟨fun m σ H=>m=μ σ H/\Pv σ H,⟨_,rfl,h0⟩,?_⟩;rintro m σ H ⟨rfl,p⟩;refine mono σ H _ _ (fun b H1 q=>?_) (hs σ H p);cases b with
 | true=>exact⟨_,fun σ' H' ⟨p',l⟩=>⟨_,l,rfl,p'⟩,q⟩
 | false=>exact q
noncomputable abbrev R2:=V->V->Hp->VK->Prop
def OpR (X:Cx)(f:Value->Value->Sem Value)(r:R2):Prop:=
 ∀ (pins:List (Addr×Obj)) (s:Shared) (σ:St) (H:Hp) (x y:V) (v u:Value) (Q:VK),Inv X pins σ H s->ZM x v->ZM y u->r x y H Q->
  wpAny (model X.prog X.w) X.A (f v u) (EP X pins σ Q) X.xe s
def UnR (X:Cx)(f:Value->Sem Value)(r:V->Hp->VK->Prop):Prop:=
 ∀ (pins:List (Addr×Obj)) (s:Shared) (σ:St) (H:Hp) (x:V) (v:Value) (Q:VK),Inv X pins σ H s->ZM x v->r x H Q->
  wpAny (model X.prog X.w) X.A (f v) (EP X pins σ Q) X.xe s
def YW (X:Cx)(f:Value)(r:List V->Hp->VK->Prop):Prop:=
 ∀ (pins:List (Addr×Obj)) (s:Shared) (σ:St) (H:Hp) (xs:List V) (us:List Value) (Q:VK),Inv X pins σ H s->ZN xs us->r xs H Q->
  wpAny (model X.prog X.w) X.A (call f us) (EP X pins σ Q) X.xe s
noncomputable def tOp (r:R2)(ta tb:TE):TE:=fun σ H Q=>ta σ H fun x H1=>tb σ H1 fun y H2=>r x y H2 Q
def tUn (r:V->Hp->VK->Prop)(ta:TE):TE:=fun σ H Q=>ta σ H fun x H1=>r x H1 Q
def rI (C:Int->Int->Prop)(g:Int->Int->V):R2:=fun x y H Q=>∃ i j,x=.int i/\y=.int j/\C i j/\Q (g i j) H
noncomputable def rI0 (g:Int->Int->V):R2:=fun x y H Q=>∃ i j,x=.int i/\y=.int j/\Q (g i j) H
def rU (g:Int->V):V->Hp->VK->Prop:=fun x H Q=>∃ i,x=.int i/\Q (g i) H
section
variable {X:Cx}{a b c:Expr}{ta tb tc:TE}{pos:Pos}
theorem ZjB (ha:PE X a ta)(hb:PE X b tb){pins:List (Addr×Obj)}{s:Shared}{σ:St}{H:Hp}{R:V->V->Hp->Prop}(I:Inv X pins σ H s)
  (h:ta σ H fun x H1=>tb σ H1 fun y H2=>R x y H2) {Q:Value->Shared->Prop} {f:Value->Value->Sem Value}
  (hf:∀ v u s2 x y H2,Inv X pins σ H2 s2->ZM x v->ZM y u->R x y H2->wpAny (model X.prog X.w) X.A (f v u) Q X.xe s2) :
  wpAny (model X.prog X.w) X.A (eval a X.env) (fun v s₁=>wpAny (model X.prog X.w) X.A (eval b X.env) (fun u s₂=>wpAny (model X.prog X.w) X.A (f v u) Q X.xe s₂) X.xe s₁) X.xe s:=by
 refine thn (ha pins s σ H _ I h) fun v s1 ⟨x,H1,I1,r1,q1⟩=>?_;refine thn (hb pins s1 σ H1 _ I1 q1) fun u s2 ⟨y,H2,I2,r2,q2⟩=>?_;exact hf v u s2 x y H2 I2 r1 r2 q2
theorem ZX {op:Operator}{r:R2}(ho:OpR X (binaryOp op) r)(ha:PE X a ta)(hb:PE X b tb):PE X (.BinOp a op b pos) (tOp r ta tb):=by
 intro pins s σ H Q I h;exact wpAny_BinOp (ZjB ha hb I h fun v u s2 x y H2 I2 rx ry q=>ho pins s2 σ H2 x y v u Q I2 rx ry q)
theorem XY {op:UnaryOp}{r:V->Hp->VK->Prop}(ho:UnR X (unaryOp op) r)(ha:PE X a ta):PE X (.UnaryOp op a pos) (tUn r ta):=by
 intro pins s σ H Q I h;exact UnaryOp_ (thn (ha pins s σ H _ I h) fun v s1 ⟨x,H1,I1,r1,q1⟩=>ho pins s1 σ H1 x v Q I1 r1 q1)
theorem opI {f:Value->Value->Sem Value}{C:Int->Int->Prop}{g:Int->Int->Int}
  (rule:∀ (i j:Int) (t u:Tok) (s:Shared) (Q:Value->Shared->Prop) (E:Value->Shared->Prop),C i j->Q (.int (g i j) s.toks) { s with toks:=s.toks+1 }->wpAny (model X.prog X.w) X.A (f (.int i t) (.int j u)) Q E s) :
  OpR X f (rI C fun i j=>.int (g i j)):=by
 intro pins s σ H x y v u Q I rx ry h;obtain⟨i,j,rfl,rfl,hc,q⟩:=h;obtain⟨t,rfl⟩:=rx;obtain⟨t',rfl⟩:=ry;exact rule i j t t' s _ _ hc ⟨.int (g i j),H,I.tok _,⟨_,rfl⟩,q⟩
theorem opI0 {f:Value->Value->Sem Value}{g:Int->Int->Int}
  (rule:∀ (i j:Int) (t u:Tok) (s:Shared) (Q:Value->Shared->Prop) (E:Value->Shared->Prop),Q (.int (g i j) s.toks) { s with toks:=s.toks+1 }->wpAny (model X.prog X.w) X.A (f (.int i t) (.int j u)) Q E s) :
  OpR X f (rI0 fun i j=>.int (g i j)):=by
 intro pins s σ H x y v u Q I rx ry h;obtain⟨i,j,rfl,rfl,q⟩:=h;obtain⟨t,rfl⟩:=rx;obtain⟨t',rfl⟩:=ry;exact rule i j t t' s _ _ ⟨.int (g i j),H,I.tok _,⟨_,rfl⟩,q⟩
theorem Rx {f:Value->Value->Sem Value}{g:Int->Int->Bool}
  (rule:∀ (i j:Int) (t u:Tok) (s:Shared) (Q:Value->Shared->Prop) (E:Value->Shared->Prop),Q (.bool (g i j)) s->wpAny (model X.prog X.w) X.A (f (.int i t) (.int j u)) Q E s) :
  OpR X f (rI0 fun i j=>.bl (g i j)):=by
 intro pins s σ H x y v u Q I rx ry h;obtain⟨i,j,rfl,rfl,q⟩:=h;obtain⟨t,rfl⟩:=rx;obtain⟨t',rfl⟩:=ry;exact rule i j t t' s _ _ ⟨.bl (g i j),H,I,rfl,q⟩
def CDiv (i j:Int):Prop:=0<j/\j<1073741824
def Zk7 (i j:Int):Prop:=j≠0/\j.natAbs<1073741824
def CPow (i j:Int):Prop:=0<=j/\j<=1000000/\i.natAbs<2^64
def Xn (i j:Int):Prop:=(-(2^64)<i/\i<2^64)\/(-(2^64)<j/\j<2^64)
theorem Xn.ok {i j:Int}(h:Xn i j):IntMulOk i j:=by
 rcases h with ⟨h1,h2⟩|⟨h1,h2⟩
 ·exact .of_left (intBits_le_64 h1 h2)
 ·exact .of_right (intBits_le_64 h1 h2)
theorem Zd:OpR X (binaryOp .Add) (rI0 fun i j=>.int (i+j)):=opI0 fun _ _ _ _ _ _ _ q=>add_int q
theorem X3:OpR X (binaryOp .Sub) (rI0 fun i j=>.int (i-j)):=opI0 fun _ _ _ _ _ _ _ q=>sub_int q
theorem YY:OpR X (binaryOp .Mult) (rI Xn fun i j=>.int (i*j)):=opI fun _ _ _ _ _ _ _ hc q=>mul_int q hc.ok
theorem XT:OpR X (binaryOp .FloorDiv) (rI CDiv fun i j=>.int (i/j)):=opI fun i j _ _ _ _ _ hc q=>by
 have h1:(0:Int)<j:=hc.1;have h2:j<1073741824:=hc.2;exact floordiv_int (by lia) (by rw[Y2o i (by lia)];exact q) (.inl (PyProof.noPylong_small (by lia)))
theorem Z8W:OpR X (binaryOp .FloorDiv) (rI Zk7 fun i j=>.int (i.fdiv j)):=opI fun _ _ _ _ _ _ _ hc q=>floordiv_int hc.1 q (.inl (PyProof.noPylong_small hc.2))
theorem YL:OpR X (binaryOp .Mod) (rI (fun _ j=>0<j) fun i j=>.int (i%j)):=opI fun i j _ _ _ _ _ hc q=>by
 have h1:(0:Int)<j:=hc;exact mod_int' (by lia) (by rw[Int.fmod_eq_emod_of_nonneg i (by lia)];exact q)
theorem ZhY:OpR X (binaryOp .Pow) (rI CPow fun i j=>.int (i^j.toNat)):=opI fun _ _ _ _ _ _ _ hc q=>pow_int_small hc.1 hc.2.1 hc.2.2 q
theorem unI {f:Value->Sem Value}{g:Int->Int}
  (rule:∀ (i:Int) (t:Tok) (s:Shared) (Q:Value->Shared->Prop) (E:Value->Shared->Prop),Q (.int (g i) s.toks) { s with toks:=s.toks+1 }->wpAny (model X.prog X.w) X.A (f (.int i t)) Q E s) :
  UnR X f (rU fun i=>.int (g i)):=by
 intro pins s σ H x v Q I rx h;obtain⟨i,rfl,q⟩:=h;obtain⟨t,rfl⟩:=rx;exact rule i t s _ _ ⟨.int (g i),H,I.tok _,⟨_,rfl⟩,q⟩
theorem X4:UnR X (unaryOp .USub) (rU fun i=>.int (-i)):=unI fun _ _ _ _ _ q=>neg_int q
end
noncomputable def Ry:V->V->Bool
 | .non,.non=>true | .non,.int _=>true | .int _,.non=>true | .non,.bl _=>true | .bl _,.non=>true | .non,.str _=>true | .str _,.non=>true
 | .int _,.int _=>true | .bl _,.bl _=>true | .str _,.str _=>true | .byt _,.byt _=>true
 | .int _,.str _=>true | .str _,.int _=>true | .bl _,.str _=>true | .str _,.bl _=>true
 | _,_=>false
noncomputable def rEq:R2:=fun x y H Q=>Ry x y=true/\Q (.bl (decide (x=y))) H
noncomputable def rNe:R2:=fun x y H Q=>Ry x y=true/\Q (.bl (!decide (x=y))) H
theorem Z9O {i j:Int}:decide (V.int i=V.int j)=(i==j):=by
 rw[Y2b];simp
theorem Zef {i j:Bool}:decide (V.bl i=V.bl j)=(i==j):=by
 rw[Y2b];simp
theorem Zc1 {i j:Str}:decide (V.str i=V.str j)=(i==j):=by
 rw[Y2b];simp
theorem ZaN {i j:Array UInt8}:decide (V.byt i=V.byt j)=(i.toList==j.toList):=by
 rw[Y2b];cases i;cases j;simp
section
variable {X:Cx}{a b c:Expr}{ta tb tc:TE}{pos:Pos}
theorem Zh {pins:List (Addr×Obj)}{σ:St}{H:Hp}{s:Shared}{Q:VK}{k k':Bool}(I:Inv X pins σ H s)(q:Q (.bl k) H)(e:k=k'):EP X pins σ Q (.bool k') s:=by
 subst e;exact⟨.bl k,H,I,rfl,q⟩
theorem Y7:OpR X (compareOp .Eq) rEq:=by
 intro pins s σ H x y v u Q I rx ry h;obtain⟨hs,q⟩:=h;cases x with
 | non=>
  cases rx;cases y with
  | non=>cases ry;exact PySem.EqNone.eq_none_none (Zh I q (by simp))
  | bl j=>cases ry;exact PySem.EqNone.eq_none_bool (Zh I q (by simp))
  | int j=>obtain⟨t',rfl⟩:=ry;exact PySem.EqNone.eq_none_int (Zh I q (by simp))
  | str j=>obtain⟨t',rfl⟩:=ry;exact PySem.EqNone.eq_none_str (Zh I q (by simp))
  | _=>exact absurd (show false=true from hs) Y0i
 | bl i=>
  cases rx;cases y with
  | non=>cases ry;exact PySem.EqNone.eq_bool_none (Zh I q (by simp))
  | bl j=>cases ry;exact eq_bool (Zh I q Zef)
  | str j=>obtain⟨t',rfl⟩:=ry;exact PySem.EqMixed.eq_bool_str (Zh I q (by simp))
  | _=>exact absurd (show false=true from hs) Y0i
 | int i=>
  obtain⟨t,rfl⟩:=rx;cases y with
  | non=>cases ry;exact PySem.EqNone.eq_int_none (Zh I q (by simp))
  | int j=>obtain⟨t',rfl⟩:=ry;exact eq_int (Zh I q Z9O)
  | str j=>obtain⟨t',rfl⟩:=ry;exact PySem.EqMixed.eq_int_str (Zh I q (by simp))
  | _=>exact absurd (show false=true from hs) Y0i
 | str i=>
  obtain⟨t,rfl⟩:=rx;cases y with
  | non=>cases ry;exact PySem.EqNone.eq_str_none (Zh I q (by simp))
  | bl j=>cases ry;exact PySem.EqMixed.eq_str_bool (Zh I q (by simp))
  | int j=>obtain⟨t',rfl⟩:=ry;exact PySem.EqMixed.eq_str_int (Zh I q (by simp))
  | str j=>obtain⟨t',rfl⟩:=ry;exact eq_str (Zh I q Zc1)
  | _=>exact absurd (show false=true from hs) Y0i
 | byt i=>
  obtain⟨t,rfl⟩:=rx;cases y with
  | byt j=>obtain⟨t',rfl⟩:=ry;exact PySem.W.eq_bytes (Zh I q ZaN)
  | _=>exact absurd (show false=true from hs) Y0i
 | _=>cases y<;>exact absurd (show false=true from hs) Y0i
theorem Yr:OpR X (compareOp .NotEq) rNe:=by
 intro pins s σ H x y v u Q I rx ry h;obtain⟨hs,q⟩:=h;cases x with
 | non=>
  cases rx;cases y with
  | non=>cases ry;exact PySem.EqNone.ne_none_none (Zh I q (by simp))
  | bl j=>cases ry;exact PySem.EqNone.ne_none_bool (Zh I q (by simp))
  | int j=>obtain⟨t',rfl⟩:=ry;exact PySem.EqNone.ne_none_int (Zh I q (by simp))
  | str j=>obtain⟨t',rfl⟩:=ry;exact PySem.EqNone.ne_none_str (Zh I q (by simp))
  | _=>exact absurd (show false=true from hs) Y0i
 | bl i=>
  cases rx;cases y with
  | non=>cases ry;exact PySem.EqNone.ne_bool_none (Zh I q (by simp))
  | bl j=>cases ry;exact ne_bool (Zh I q (congrArg not Zef))
  | str j=>obtain⟨t',rfl⟩:=ry;exact PySem.EqMixed.ne_bool_str (Zh I q (by simp))
  | _=>exact absurd (show false=true from hs) Y0i
 | int i=>
  obtain⟨t,rfl⟩:=rx;cases y with
  | non=>cases ry;exact PySem.EqNone.ne_int_none (Zh I q (by simp))
  | int j=>obtain⟨t',rfl⟩:=ry;exact ne_int (Zh I q (congrArg not Z9O))
  | str j=>obtain⟨t',rfl⟩:=ry;exact PySem.EqMixed.ne_int_str (Zh I q (by simp))
  | _=>exact absurd (show false=true from hs) Y0i
 | str i=>
  obtain⟨t,rfl⟩:=rx;cases y with
  | non=>cases ry;exact PySem.EqNone.ne_str_none (Zh I q (by simp))
  | bl j=>cases ry;exact PySem.EqMixed.ne_str_bool (Zh I q (by simp))
  | int j=>obtain⟨t',rfl⟩:=ry;exact PySem.EqMixed.ne_str_int (Zh I q (by simp))
  | str j=>obtain⟨t',rfl⟩:=ry;exact ne_str (Zh I q (congrArg not Zc1))
  | _=>exact absurd (show false=true from hs) Y0i
 | byt i=>
  obtain⟨t,rfl⟩:=rx;cases y with
  | byt j=>obtain⟨t',rfl⟩:=ry;exact PySem.W.ne_bytes (Zh I q (congrArg not ZaN))
  | _=>exact absurd (show false=true from hs) Y0i
 | _=>cases y<;>exact absurd (show false=true from hs) Y0i
theorem X2:OpR X (compareOp .Lt) (rI0 fun i j=>.bl (decide (i<j))):=Rx fun _ _ _ _ _ _ _ q=>lt_int q
theorem ZjD:OpR X (compareOp .LtE) (rI0 fun i j=>.bl (decide (i<=j))):=Rx fun _ _ _ _ _ _ _ q=>le_int q
theorem Ye:OpR X (compareOp .Gt) (rI0 fun i j=>.bl (decide (j<i))):=Rx fun _ _ _ _ _ _ _ q=>gt_int q
theorem ZkD:OpR X (compareOp .GtE) (rI0 fun i j=>.bl (decide (j<=i))):=Rx fun _ _ _ _ _ _ _ q=>ge_int q
theorem ZH (b:Expr){op:CmpOp}(h:op≠.In:=by decide)(h2:op≠.NotIn:=by decide):behindInMarks op b=false:=by
 have e1:(op==CmpOp.In)=false:=by cases op<;>first|rfl|exact absurd rfl h
 have e2:(op==CmpOp.NotIn)=false:=by cases op<;>first|rfl|exact absurd rfl h2
 cases b<;>simp[behindInMarks,e1,e2]
theorem XO {op:CmpOp}{r:R2}(ho:OpR X (compareOp op) r)(ha:PE X a ta)(hb:PE X b tb)(hm:behindInMarks op b=false):PE X (.Compare a [op] [b] pos) (tOp r ta tb):=by
 intro pins s σ H Q I h;exact wpAny_Compare1 (ZjB ha hb I h fun v u s2 x y H2 I2 rx ry q=>ho pins s2 σ H2 x y v u Q I2 rx ry q) hm
noncomputable def WD (t:TE):TT:=fun σ H Q=>t σ H fun x H'=>∃ k,x=.bl k/\Q k H'
theorem ZE {op:CmpOp}{r:R2}(ho:OpR X (compareOp op) r)(ha:PE X a ta)(hb:PE X b tb)(hm:behindInMarks op b=false):PT X (.Compare a [op] [b] pos) (WD (tOp r ta tb)):=by
 intro pins s σ H Q I h;refine wpAny_isTrue_Compare1 (thn (ha pins s σ H _ I h) fun v s1 ⟨x,H1,I1,r1,q1⟩=>thn (hb pins s1 σ H1 _ I1 q1) fun u s2 ⟨y,H2,I2,r2,q2⟩=>
  thn (ho pins s2 σ H2 x y v u _ I2 r1 r2 q2) fun c s3 ⟨z,H3,I3,r3,k,e,q3⟩=>?_) hm
 subst e;cases r3;exact wpAny_truthy_bool ⟨H3,I3,q3⟩
noncomputable def Zh3 (r r':R2)(ta tb tc:TE):TE:=fun σ H Q=>ta σ H fun x H1=>tb σ H1 fun y H2=>r x y H2 fun z H3=>∃ k,z=.bl k/\
 (if k=true then tc σ H3 fun w' H4=>r' y w' H4 Q else Q (.bl false) H3)
theorem Zde {op op':CmpOp}{r r':R2}(ho:OpR X (compareOp op) r)(ho':OpR X (compareOp op') r')(ha:PE X a ta)(hb:PE X b tb)(hc:PE X c tc)
  (hm:lastMarks [op,op'] [b,c]=false:=by with_unfolding_all rfl):PE X (.Compare a [op,op'] [b,c] pos) (Zh3 r r' ta tb tc):=by
 intro pins s σ H Q I h;refine Compare_chain (thn (ha pins s σ H _ I h) fun v s1 ⟨x,H1,I1,r1,q1⟩=>chain_link (thn (hb pins s1 σ H1 _ I1 q1) fun u s2 ⟨y,H2,I2,r2,q2⟩=>
  thn (ho pins s2 σ H2 x y v u _ I2 r1 r2 q2) fun d s3 ⟨z,H3,I3,r3,k,e,q3⟩=>?_)) hm
 subst e;cases r3;refine wpAny_truthy_bool ?_;cases k with
 | false=>exact ite_ff ⟨.bl false,H3,I3,rfl,q3⟩
 | true=>exact ite_tt (chain_last (thn (hc pins s3 σ H3 _ I3 q3) fun w' s4 ⟨z',H4,I4,r4,q4⟩=>ho' pins s4 σ H4 y z' u w' Q I4 r2 r4 q4))
theorem Vj:(sizeLine:Nat)<2^63:=by rw[sizeLine_eq];decide
theorem Xl:OpR X (binaryOp .Add) (fun x y H Q=>∃ i j,x=.str i/\y=.str j/\i.length+j.length<=sizeLine/\Q (.str (i++j)) H):=by
 intro pins s σ H x y v u Q I rx ry h;obtain⟨i,j,rfl,rfl,hz,q⟩:=h;obtain⟨t,rfl⟩:=rx;obtain⟨t',rfl⟩:=ry;exact add_str (fun t' tk=>⟨.str (i++j),H,I.tok _,⟨_,rfl⟩,q⟩) hz
theorem YE {x:V}{us:List Value}(r:ZN [x] us):∃ u,us=[u]/\ZM x u:=by
 cases r with
 | cons r1 r2=>cases r2;exact⟨_,rfl,r1⟩
theorem Zfc {x y:V}{us:List Value}(r:ZN [x,y] us):∃ u w',us=[u,w']/\ZM x u/\ZM y w':=by
 cases r with
 | cons r1 r2=>
  cases r2 with
  | cons r3 r4=>cases r4;exact⟨_,_,rfl,r1,r3⟩
theorem Yk:YW X (.builtin "abs") (fun xs H Q=>∃ i,xs=[.int i]/\Q (.int (if i<0 then -i else i)) H):=by
 intro pins s σ H xs us Q I r h;obtain⟨i,rfl,q⟩:=h;obtain⟨u,rfl,t,rfl⟩:=YE r;exact call_abs_int fun u tk=>⟨.int (if i<0 then -i else i),H,I.tok _,⟨_,rfl⟩,q⟩
theorem Z7e (hc:X.calm=true):YW X (.builtin "max") (fun xs H Q=>∃ i j,xs=[.int i,.int j]/\Q (.int (if j>i then j else i)) H):=by
 intro pins s σ H xs us Q I r h;obtain⟨i,j,rfl,q⟩:=h;obtain⟨u,w',rfl,⟨t,rfl⟩,⟨t',rfl⟩⟩:=Zfc r;refine max_two_ints (I.ok.hd hc) fun h' tk k=>⟨_,H,I.kept k,?_,q⟩
 by_cases hj:j>i
 ·rw[if_pos hj,if_pos hj];exact⟨_,rfl⟩
 ·rw[if_neg hj,if_neg hj];exact⟨_,rfl⟩
end
structure VR (h:Heap)(x dx C:Addr)(mA:Str->Option Value):Prop where
 obj:h.get? x=some (Y31 C dx)
 ns:h.Ns1 dx mA
 ne:dx≠x
theorem ZaO {h:Heap}{dx:Addr}{mA:Str->Option Value}(n:h.Ns1 dx mA):∃ od,h.get? dx=some od/\∀ name,Y5g name od=some (mA name):=by
 obtain⟨o,es,ep,ho,hd,hk,_,hm⟩:=n;refine⟨o,ho,fun name=>?_⟩;have e:=hm name;unfold nsFind findBy at e;rw[<-Array.find?_toList]at e;unfold Y5g;rw[hd];dsimp only
 split
 ·rename_i y q;rw[q]at e;exact congrArg some e
 ·rename_i q;rw[q]at e;have a:es.toList.any (·.refKey)=false:=by
   rw[List.any_eq_false];intro y hy;obtain⟨z,t,hkey⟩:=hk y (Array.mem_toList_iff.mp hy);simp[DictEntry.refKey,hkey]
  have a':¬ es.toList.any (·.refKey)=true:=by rw[a];exact Y0i
  rw[if_neg a'];exact congrArg some e
theorem VR.look {h:Heap}{x dx C:Addr}{mA:Str->Option Value}(I:VR h x dx C mA):∃ od,PySem.W.InstAt h x (Y31 C dx) C (some od)/\∀ name,Y5g name od=some (mA name):=
 let ⟨od,ho,hl⟩:=ZaO I.ns
 ⟨od,⟨I.obj,rfl,rfl,ho⟩,hl⟩
section
variable {prog:Program}{w:World}{A:Around}{E:Value->Shared->Prop}{s:Shared}{K:Y00}{x dx C f:Addr}{mA:Str->Option Value}{name:Str}{v:Value}
theorem Zf2 {expr:Bool}{Q:Value->Shared->Prop}(X:K.In s.heap)(I:VR s.heap x dx C mA)(hg:Y3t K C name=true)(hh:Y4c K C=true)
  (ha:Y15 K (.ref C) name=some none) (hv:mA name=some v) (hv':PySem.W.handedIn v=true) (h:Q v { s with toks:=s.toks+1 }) :
  wpAny (model prog w) A (getAttr (.ref x) name expr) Q E s:=by
 obtain⟨od,J,hl⟩:=I.look;exact PySem.W.get_value X J (Y4t hg).1 (PySem.W.findObj_own hh ha rfl (by rw[hl,hv])) hv' h
theorem Zda {pl:Sem Bool}{Q:Value×List Value->Shared->Prop}(X:K.In s.heap)(I:VR s.heap x dx C mA)(hg:Y3t K C name=true)
  (hf:Y15 K (.ref C) name=some (some (.ref f))) (ht:Y57 K (.ref f)=true) (hv:mA name=none) (h:Q (.ref f,[.ref x]) s) :
  wpAny (model prog w) A (getMethod (.ref x) name pl) Q E s:=by
 obtain⟨od,J,hl⟩:=I.look;exact PySem.W.method_fn X J (Y4t hg).1 (Y4t hg).2 hf (beq_iff_eq.mp ht) (by show (Y5g name od).map (·.isSome)=some false;rw[hl,hv];rfl) h
theorem ZeU {ns:List Str}{Q:Unit->Shared->Prop}(X:K.In s.heap)(I:VR s.heap x dx C mA)
  (hs:Y15 K (.ref C) "__setattr__"=some (some (.builtin "object.__setattr__"))) (hp:Y5m K C=true) (ht:PySem.W.takerIn K C name=some none) (hh:Y4c K C=true)
  (hw:PySem.Within mA ns) (hsz:ns.length<=sizeLine)
  (h:∀ h',VR h' x dx C (fun y=>if y=name then some v else mA y)->Y54 dx s.heap h'->Q () { s with heap:=h',toks:=s.toks+2 }) :
  wpAny (model prog w) A (setAttr (.ref x) name v) Q E s:=by
 obtain⟨od,J,hl⟩:=I.look;refine PySem.W.set_plain X J hs (PySem.W.osa_open (s:={ s with toks:=s.toks+1 }) (r:=none) X J hp ht fun b=>?_);obtain⟨cd,hc,hd'⟩:=PySem.W.any_some hh;have hx:s.heap.get? x=some ⟨.ref C,some dx,.plain,#[]⟩:=I.obj;refine wpAny_bind (wpAny_pure (wpAny_bind (wpAny_bind (wpAny_loadPart hx (wpAny_bind (PySem.W.Looks.here (s:={ s with toks:=s.toks+1 }) (PySem.W.looks_clsIn X hc) ?_))))));rw[hd'];refine wpAny_pure (a:=some dx) (wpAny_bind (wpAny_pure (wpAny_bind ?_)));refine wpAny_nsSet1 (s:={ s with toks:=s.toks+1 }) I.ns fun h' hn2 hs2=>?_;obtain⟨oD,esD,epD,hoD,hdD,hcD⟩:=hn2.count (PySem.Within.cons name v hw);refine wpAny_bind (wpAny_lookBehind hoD (by rw[hdD];exact pastItsLine_dict (Y0z hcD (by rw[Y0w];lia))) ?_);exact wpAny_pure (h _ ⟨(hs2.2 _ (Ne.symm I.ne)).trans I.obj,hn2,I.ne⟩ hs2)
theorem Zdk {R:Result->Shared->Prop}{vs:List Value}{kw:List (Str×Value)}(X:K.In s.heap)(hm:PySem.W.makesIn K C=true)
  (hi:Y15 K (.ref C) "__init__"=some (some (.ref f))) (hf:PySem.W.typeIn K (.ref f)=some (.type "function"))
  (h:codeAny (model prog w) (A.under (.builtin "type.__call__" ⟨.ref C::vs,kw⟩)) (.call (.ref f) ⟨.ref (s.heap.objs.size+1)::vs,kw⟩) (PySem.W.InitBack (s.heap.objs.size+1) R)
   { s with heap:=(s.heap.push Y2e).push (Y31 C s.heap.objs.size) }) :
  codeAny (model prog w) A (.call (.ref C) ⟨vs,kw⟩) R s:=by
 obtain⟨hh,g,d,t,os⟩:=s;exact PySem.W.make_core (PySem.W.makes_of X hm) (PySem.W.looks_findIn X hi) (fun self=>PySem.W.bind_fn X self hf) (.inl rfl) h
end
noncomputable def YF (f:Str)(v:V):List (Str×V)->List (Str×V)
 | []=>[(f,v)]
 | (g,x)::r=>if g=f then (g,v)::r else (g,x)::YF f v r
theorem Wt (f g:Str)(v:V):∀ fs:List (Str×V),(YF f v fs).lookup g=if g=f then some v else fs.lookup g
 | []=>by
  show Y3y g [(f,v)]=_
  by_cases h:g=f
  ·have hb:(g==f)=true:=beq_iff_eq.mpr h;simp only[Y3y,hb,if_pos h]
  ·have hb:(g==f)=false:=beq_eq_false_iff_ne.mpr h;simp only[Y3y,hb,if_neg h]
 | (k,x)::r=>by
  have ih:=Wt f g v r;rw[show YF f v ((k,x)::r)=(if k=f then (k,v)::r else (k,x)::YF f v r) from rfl]
  by_cases hk:k=f
  ·rw[if_pos hk]
   by_cases h:g=k
   ·have hb:(g==k)=true:=beq_iff_eq.mpr h;simp only[Y3y,hb,if_pos (h.trans hk)]
   ·have hb:(g==k)=false:=beq_eq_false_iff_ne.mpr h;simp only[Y3y,hb,if_neg (fun e:g=f=>h (e.trans hk.symm))]
  ·rw[if_neg hk]
   by_cases h:g=k
   ·have hb:(g==k)=true:=beq_iff_eq.mpr h;simp only[Y3y,hb,if_neg (fun e:g=f=>hk (h.symm.trans e))]
   ·have hb:(g==k)=false:=beq_eq_false_iff_ne.mpr h;simp only[Y3y,hb];exact ih
theorem Z4W (f:Str)(v:V):∀ fs:List (Str×V),f∈(YF f v fs).map (·.1)/\∀ g,g∈fs.map (·.1)->g∈(YF f v fs).map (·.1)
 | []=>⟨by simp[YF],fun g h=>by simp at h⟩
 | (k,x)::r=>by
  obtain⟨i1,i2⟩:=Z4W f v r;rw[show YF f v ((k,x)::r)=(if k=f then (k,v)::r else (k,x)::YF f v r) from rfl]
  by_cases hk:k=f
  ·rw[if_pos hk];subst hk;exact⟨by simp,fun g h=>by simpa using h⟩
  ·rw[if_neg hk];refine⟨?_,fun g h=>?_⟩
   ·rw[Y11];exact Y0y _ i1
   ·rw[Y11]at h ⊢;rcases Y14.mp h with e|e
    ·exact Y14.mpr (.inl e)
    ·exact Y0y _ (i2 g e)
theorem Z5t (f:Str)(v:V):∀ fs:List (Str×V),(YF f v fs).length<=fs.length+1
 | []=>by simp[YF]
 | (k,x)::r=>by
  have ih:=Z5t f v r;rw[show YF f v ((k,x)::r)=(if k=f then (k,v)::r else (k,x)::YF f v r) from rfl]
  by_cases hk:k=f
  ·rw[if_pos hk,Y0w,Y0w];lia
  ·rw[if_neg hk,Y0w,Y0w];lia
theorem Yw.some_of {v:V}{o:Option Value}(r:Yw (some v) o):∃ u,o=some u/\ZM v u:=by
 cases o with
 | none=>exact (show False from r).elim
 | some u=>exact⟨u,rfl,r⟩
theorem Yw.none_of {o:Option Value}(r:Yw none o):o=none:=by
 cases o with
 | none=>rfl
 | some u=>exact (show False from r).elim
theorem Zaa {v:V}{u:Value}(r:ZM v u):PySem.W.handedIn u=true:=by
 cases v with
 | non=>cases (show u=Value.none from r);rfl
 | bl b=>cases (show u=Value.bool b from r);rfl
 | int i=>obtain⟨t,e⟩:=(show ∃ t,u=Value.int i t from r);cases e;rfl
 | str x=>obtain⟨t,e⟩:=(show ∃ t,u=Value.str x t from r);cases e;rfl
 | byt b=>obtain⟨t,e⟩:=(show ∃ t,u=Value.bytes b t from r);cases e;rfl
 | flt b=>obtain⟨t,e⟩:=(show ∃ t,u=Value.float b t from r);cases e;rfl
 | ref a=>cases (show u=Value.ref a from r);rfl
 | ty n=>cases (show u=Value.type n from r);rfl
section
variable {P:Program}{w:World}{H H':Hp}{h h':Heap}{a C dx:Addr}{fs fs':List (Str×V)}
theorem SA (hok:HOk P w H h)(e:H a=some (.ins C dx fs)):∃ mA,VR h a dx C mA/\(∀ f,Yw (fs.lookup f) (mA f))/\PySem.Within mA (fs.map (·.1))/\fs.length<=1000/\H dx=some (.own a):=by
 obtain⟨d,z,ne,ob,mA,n,r,q⟩:=(show Zf P w H h a (.ins C dx fs) from hok a _ e);exact⟨mA,⟨ob,n,ne⟩,r,q,z,d⟩
end
structure Cls (K:Y00)(C:Addr):Prop where
 pg:Y3t K C Str.empty=true
 hd:Y4c K C=true
 po:Y5m K C=true
 sa:Y15 K (.ref C) "__setattr__"=some (some (.builtin "object.__setattr__"))
theorem Cls.get {K:Y00}{C:Addr}(c:Cls K C)(f:Str):Y3t K C f=true:=c.pg
def WH (K:Y00)(C:Addr)(f:Str):Prop:=Y15 K (.ref C) f=some none
theorem WH.taker {K:Y00}{C:Addr}{f:Str}(n:WH K C f):PySem.W.takerIn K C f=some none:=by
 unfold PySem.W.takerIn;rw[show Y15 K (.ref C) f=some none from n]
 rfl
structure Ti (K:Y00)(C:Addr)(m:Str)(f:Addr):Prop where
 at_:Y15 K (.ref C) m=some (some (.ref f))
 fn:Y57 K (.ref f)=true
 kp:Y1p K (.ref f)=true
section
variable {X:Cx}{pins:List (Addr×Obj)}{σ:St}{H:Hp}{s:Shared}{a C dx:Addr}{fs:List (Str×V)}{f:Str}{v:V}{A:Around}{E:Value->Shared->Prop}
theorem Z9w {b:Bool}{Q:Value->Shared->Prop}(I:Inv X pins σ H s)(e:H a=some (.ins C dx fs))(c:Cls X.K C)(n:WH X.K C f)(l:fs.lookup f=some v)
  (h:∀ u s',Inv X pins σ H s'->ZM v u->Q u s'):wpAny (model X.prog X.w) A (getAttr (.ref a) f b) Q E s:=by
 obtain⟨mA,O,r,_,_,_⟩:=SA I.hok e;obtain⟨u,hu,ru⟩:=Yw.some_of (v:=v) (o:=mA f) (by rw[<-l];exact r f);exact Zf2 I.kIn O (c.get f) c.hd n hu (Zaa ru) (h u _ (I.tok _) ru)
theorem Z5C {m:Str}{g:Addr}{pl:Sem Bool}{Q:Value×List Value->Shared->Prop}(I:Inv X pins σ H s)(e:H a=some (.ins C dx fs))(c:Cls X.K C)(k:Ti X.K C m g)(l:fs.lookup m=none)
  (h:Q (.ref g,[.ref a]) s):wpAny (model X.prog X.w) A (getMethod (.ref a) m pl) Q E s:=by
 obtain⟨mA,O,r,_,_,_⟩:=SA I.hok e;have hn:mA m=none:=Yw.none_of (by rw[<-l];exact r m);exact Zda I.kIn O (c.get m) k.at_ k.fn hn h
theorem Z9G {y:V}{u:Value}{Q:Unit->Shared->Prop}(I:Inv X pins σ H s)(e:H a=some (.ins C dx fs))(c:Cls X.K C)(n:WH X.K C f)(hl:fs.length<1000)(ry:ZM y u)
  (h:∀ s',Inv X pins σ (upd H a (.ins C dx (YF f y fs))) s'->Q () s'):wpAny (model X.prog X.w) A (setAttr (.ref a) f u) Q E s:=by
 obtain⟨mA,O,r,wi,_,ho⟩:=SA I.hok e;have hz:(fs.map (·.1)).length<=sizeLine:=by rw[Y07,sizeLine_eq];lia
 refine ZeU I.kIn O c.sa c.po n.taker c.hd wi hz fun h' O' sb=>h _ ?_;have hd:∃ o,h'.get? dx=some o:=let ⟨o,_,_,e',_⟩:=O'.ns;⟨o,e'⟩
 refine I.write (x:=a) (e:=dx) (by rw[e];exact True.intro) (.inr ho) (fun b q hb z=>(sb.2 b hb).trans z) hd ?_;refine⟨by rw[ZK O.ne];exact ho,?_,O.ne,O'.obj,_,O'.ns,fun g=>?_,fun g hg=>?_⟩
 ·have:=Z5t f y fs;lia
 ·show Yw ((YF f y fs).lookup g) (if g=f then some u else mA g);rw[Wt]
  by_cases q:g=f
  ·rw[if_pos q,if_pos q];exact ry
  ·rw[if_neg q,if_neg q];exact r g
 ·by_cases q:g=f
  ·rw[q];exact (Z4W f y fs).1
  ·refine (Z4W f y fs).2 g (wi g fun z=>hg ?_);show (if g=f then some u else mA g)=none;rw[if_neg q];exact z
theorem Inv.made (I:Inv X pins σ H s):Inv X pins σ (upd (upd H s.heap.objs.size (.own (s.heap.objs.size+1))) (s.heap.objs.size+1) (.ins C s.heap.objs.size []))
  { s with heap:=(s.heap.push Y2e).push (Y31 C s.heap.objs.size) }:=by
 have e1:(s.heap.push Y2e).get? s.heap.objs.size=some Y2e:=Y0b s.heap rfl;have e2:((s.heap.push Y2e).push (Y31 C s.heap.objs.size)).get? (s.heap.objs.size+1)=some (Y31 C s.heap.objs.size):=by
  have:=Y0b (s.heap.push Y2e) (o:=Y31 C s.heap.objs.size) rfl
  rwa [Y21]at this
 have e3:(s.heap.push Y2e).Ns s.heap.objs.size (fun _=>none):=⟨Y2e,#[],_,e1,rfl,(fun e he=>absurd he (by simp)),fun _=>rfl⟩;have I1:=I.laid (a:=s.heap.objs.size) (o:=.own (s.heap.objs.size+1)) (h':=s.heap.push Y2e) (t':=s.toks) (fun b u q=>Y03 _ q) (Y05 _) ⟨_,e1⟩;refine I1.laid (a:=s.heap.objs.size+1) (o:=.ins C s.heap.objs.size []) (t':=s.toks) (fun b u q=>Y03 _ q) (Nat.le_of_eq (Y21 _ _)) ?_;have ne:s.heap.objs.size≠s.heap.objs.size+1:=Y0j (Y2l _);refine⟨by rw[ZK ne,ZR],Y12 _,ne,e2,fun _=>none,(Heap.Ns1.of_empty e3).at fun o q=>Y03 _ q,fun _=>True.intro,fun y hy=>absurd rfl hy⟩
theorem ZeZ {prog:Program}{w:World}{env:Env}{e:Expr}{f:Str}{pos:Pos}{s:Shared}{Q:Value->Shared->Prop}(hb:attributeBase e f env (eval e env)=eval e env)
  (h:wpAny (model prog w) A (eval e env) (fun o s₁=>wpAny (model prog w) A (getAttr o f true) Q E s₁) E s):wpAny (model prog w) A (eval (.Attribute e f pos) env) Q E s:=
 Attribute_any_ h (by rw[arm_eval_Attribute,hb])
end
noncomputable def tFld (K:Y00)(ta:TE)(f:Str):TE:=fun σ H Q=>ta σ H fun x H1=>∃ a C dx fs v,x=.ref a/\H1 a=some (.ins C dx fs)/\Cls K C/\WH K C f/\fs.lookup f=some v/\Q v H1
noncomputable def Zki (K:Y00)(ta tv:TE)(f:Str):TS:=fun D σ H=>tv σ H fun y H1=>ta σ H1 fun x H2=>∃ a C dx fs,x=.ref a/\H2 a=some (.ins C dx fs)/\Cls K C/\WH K C f/\fs.length<1000/\
 D.nx σ (upd H2 a (.ins C dx (YF f y fs)))
section
variable {X:Cx}{o e value:Expr}{f:Str}{pos pos' tpos:Pos}{ta tv:TE}
theorem YA (he:PE X e ta)(hb:attributeBase e f X.env (eval e X.env)=eval e X.env):PE X (.Attribute e f pos) (tFld X.K ta f):=by
 intro pins s σ H Q I h;refine ZeZ hb (thn (he pins s σ H _ I h) fun u s1 ⟨x,H1,I1,rx,a,C,dx,fs,v,ex,ea,c,n,l,q⟩=>?_);subst ex;obtain rfl:u=Value.ref a:=rx;exact Z9w I1 ea c n l fun u' s2 I2 ru=>⟨v,H1,I2,ru,q⟩
theorem Zeq (ha:PE X o ta)(hv:PE X value tv)(hs:swapsWith value (some (.Attribute o f pos')) pos.line X.env=pure false):PS X (.Assign [.Attribute o f pos'] value pos) (Zki X.K ta tv f):=by
 intro pins s σ H D I h;refine plainObj_wpAny_Assign_Attribute (thn (hv pins s σ H _ I h) fun u s1 ⟨y,H1,I1,ry,q⟩=>thn (ha pins s1 σ H1 _ I1 q) fun ov s2 ⟨x,H2,I2,rx,a,C,dx,fs,ex,ea,c,n,l,q2⟩=>?_) hs;subst ex;obtain rfl:ov=Value.ref a:=rx;exact Z9G I2 ea c n l ry fun s3 I3=>⟨σ,_,I3,q2⟩
end
section
variable {X:Cx}{pins:List (Addr×Obj)}{σ:St}{H:Hp}{s:Shared}{A:Around}{E:Value->Shared->Prop}{Q:Value->Shared->Prop}{c:Value}{b:Bool}
inductive Yc (K:Y00) (H:Hp):V->Value->Prop where
 | non:Yc K H .non (.type "NoneType")
 | bl (x:Bool):Yc K H (.bl x) (.type "bool")
 | int (i:Int):Yc K H (.int i) (.type "int")
 | str (x:Str):Yc K H (.str x) (.type "str")
 | flt (x:UInt64):Yc K H (.flt x) (.type "float")
 | lst {a:Addr} {xs:List V} (e:H a=some (.lst xs)):Yc K H (.ref a) (.type "list")
 | frz {a:Addr} {o:Obj} {xs:List V} (e:H a=some (.frz o (.lst xs))):Yc K H (.ref a) (.type "list")
 | tup {a:Addr} {xs:List V} (e:H a=some (.tup xs)):Yc K H (.ref a) (.type "tuple")
 | dK {a:Addr} {kvs:List (Key×V)} (e:H a=some (.dK kvs)):Yc K H (.ref a) (.type "dict")
 | dT {a:Addr} {kvs:List (List Key×V)} (e:H a=some (.dT kvs)):Yc K H (.ref a) (.type "dict")
 | ins {a C dx:Addr} {fs:List (Str×V)} (e:H a=some (.ins C dx fs)) (cl:Cls K C) (ha:Y15 K (.ref C) "__class__"=some (some (.builtin "object.__class__")))
   (hn:Y4d K (.builtin "object.__class__") "__get__"=some (some (.builtin "getset_descriptor.__get__"))) (htk:Y4u K (.builtin "object.__class__")=some true)
   (hm:Y5q K C (.type "object")=some true):Yc K H (.ref a) (.ref C)
theorem ZbF {x:V}{u t:Value}(I:Inv X pins σ H s)(rx:ZM x u)(ty:Yc X.K H x t)(e:Y2i X.K t c=some b)(h:∀ tk,Q (.bool b) { s with toks:=tk }) :
  wpAny (model X.prog X.w) A (call (.builtin "isinstance") [u,c]) Q E s:=by
 cases ty with
 | non=>cases (show u=Value.none from rx);exact Y1w PySem.W.kitx_none I.kIn True.intro e (fun z=>nomatch z) h
 | bl y=>cases (show u=Value.bool y from rx);exact Y1w PySem.W.kitx_bool I.kIn True.intro e (fun z=>nomatch z) h
 | int i=>obtain⟨t,q⟩:=(show ∃ t,u=Value.int i t from rx);cases q;exact Y1w PySem.W.kitx_int I.kIn True.intro e (fun z=>nomatch z) h
 | str y=>obtain⟨t,q⟩:=(show ∃ t,u=Value.str y t from rx);cases q;exact Y1w PySem.W.kitx_str I.kIn True.intro e (fun z=>nomatch z) h
 | flt y=>obtain⟨t,q⟩:=(show ∃ t,u=Value.float y t from rx);cases q;exact Y1w PySem.W.kitx_float I.kIn True.intro e (fun z=>nomatch z) h
 | @lst a xs ea=>
  cases (show u=Value.ref a from rx);obtain⟨_,_,n,_,h1⟩:=(show Zf X.prog X.w H s.heap a (.lst xs) from I.hok a _ ea);exact Y1w PySem.W.kitx_list I.kIn ⟨_,h1,rfl⟩ e (fun z=>nomatch z) h
 | @frz a ob xs ea=>
  cases (show u=Value.ref a from rx);obtain⟨_,_,_,n,_,h1⟩:=(show Zf X.prog X.w H s.heap a (.frz ob (.lst xs)) from I.hok a _ ea);exact Y1w PySem.W.kitx_list I.kIn ⟨_,h1,rfl⟩ e (fun z=>nomatch z) h
 | @tup a xs ea=>
  cases (show u=Value.ref a from rx);obtain⟨_,_,_,p⟩:=(show Zf X.prog X.w H s.heap a (.tup xs) from I.hok a _ ea);obtain⟨o,h1,h2,_⟩:=p;exact Y1w PySem.W.kitx_tuple I.kIn ⟨o,h1,h2⟩ e (fun z=>nomatch z) h
 | @dK a kvs ea=>
  cases (show u=Value.ref a from rx);obtain⟨_,_,vs,_,p⟩:=(show Zf X.prog X.w H s.heap a (.dK kvs) from I.hok a _ ea);obtain⟨o,es,ep,h1,h2,_⟩:=p;exact Y1w PySem.W.kitx_dict I.kIn ⟨o,h1,h2.1⟩ e (fun z=>nomatch z) h
 | @dT a kvs ea=>
  cases (show u=Value.ref a from rx);obtain⟨_,_,xs,_,o,es,ep,h1,h2,_⟩:=(show Zf X.prog X.w H s.heap a (.dT kvs) from I.hok a _ ea);exact Y1w PySem.W.kitx_dict I.kIn ⟨o,h1,h2.1⟩ e (fun z=>nomatch z) h
 | @ins a C dx fs ea cl ha hn htk hm=>
  cases (show u=Value.ref a from rx);obtain⟨mA,O,_⟩:=SA I.hok ea;obtain⟨od,J,_⟩:=O.look;exact Y1w (PySem.W.kitx_own (cl.get _) cl.hd ha hn htk hm) I.kIn J e (fun z=>nomatch z) h
end
structure ZP (k:Nat)(A:Around):Prop where
 hd:A.handled=none
 dp:A.depth+3*k+5<recursionLimit
 un:A.units+16*k+200<cLine
theorem ZP.mono {j k:Nat}{A:Around}(r:ZP k A)(h:j<=k):ZP j A:=⟨r.hd,by have:=r.dp;lia,by have:=r.un;lia⟩
theorem ZP.deeper {k:Nat}{A:Around}(r:ZP (k+1) A)(env:Env):ZP k (A.deeper env):=
 ⟨r.hd,by have:=r.dp;show A.depth+1+3*k+5<_;lia,by have:=r.un;show A.units+3+16*k+200<_;lia⟩
theorem Z9r {A:Around}{C:Addr}{us:List Value}{kw:List (Str×Value)}:(A.under (.builtin "type.__call__" ⟨.ref C::us,kw⟩)).depth=A.depth+1:=by
 first|rfl|simp[Around.under,Code.weight,Code.isCreation,Code.isGuard,Code.isCaller,Code.frames,Code.isFrame,guardIds]
theorem Z9g {A:Around}{C:Addr}{us:List Value}{kw:List (Str×Value)}:(A.under (.builtin "type.__call__" ⟨.ref C::us,kw⟩)).units=A.units+1:=by
 first|rfl|simp[Around.under,Code.cUnits,Code.frames,Code.isFrame]
theorem ZP.make {k:Nat}{A:Around}(r:ZP (k+1) A)(C:Addr)(us:List Value)(kw:List (Str×Value)):ZP k (A.under (.builtin "type.__call__" ⟨.ref C::us,kw⟩)):=
 ⟨r.hd,by have:=r.dp;rw[Z9r];lia,by have:=r.un;rw[Z9g];lia⟩
theorem ZP.depth {k:Nat}{A:Around}(r:ZP k A):A.depth<recursionLimit:=by have:=r.dp;lia
theorem ZP.units {k:Nat}{A:Around}(r:ZP k A):A.units+64<cLine:=by have:=r.un;lia
noncomputable def Zr:TA:=fun _ H Q=>Q [] H
noncomputable def ZI (ta:TE)(tr:TA):TA:=fun σ H Q=>ta σ H fun x H1=>tr σ H1 fun xs H2=>Q (x::xs) H2
section
variable {X:Cx}{e:Expr}{es:List Expr}{te:TE}{t:TA}{pos:Pos}
theorem Z7:PA X [] Zr:=fun _ _ _ _ H Q I h=>Calls.spliced_nil ⟨[],H,I,.nil,h⟩
theorem Z9 (ha:PE X e te)(hr:PA X es t)(hs:starEach (e::es) X.env=(false,eval e X.env)::starEach es X.env:=by rfl):PA X (e::es) (ZI te t):=by
 intro pos pins s σ H Q I h;rw[hs];show wpAny _ _ (spliced ((false,eval e X.env)::backTo pos (starEach es X.env))) _ _ s;refine Calls.spliced_cons (thn (ha pins s σ H _ I h) fun u s1 ⟨x,H1,I1,r1,q1⟩=>?_);exact thn (hr pos pins s1 σ H1 _ I1 q1) fun us s2 ⟨xs,H2,I2,r2,q2⟩=>⟨x::xs,H2,I2,.cons r1 r2,q2⟩
noncomputable def Xm (t:TA):TE:=fun σ H Q=>t σ H fun xs H1=>xs.length<=sizeLine/\∀ p,H1 p=none->Q (.ref p) (upd H1 p (.tup xs))
noncomputable def tLst (t:TA):TE:=fun σ H Q=>t σ H fun xs H1=>xs.length<=sizeLine/\∀ p,H1 p=none->Q (.ref p) (upd H1 p (.lst xs))
theorem Zq {x1}(h:PA X es t):PE X (.Tuple es x1 pos) (Xm t):=by
 intro pins s σ H Q I hq;refine wpAny_Tuple_spliced (thn (h pos pins s σ H _ I hq) fun us s1 ⟨xs,H1,I1,r,z,q⟩=>⟨by rw[<-r.length];exact z,?_⟩);have hf:H1 s1.heap.objs.size=none:=I1.hok.fresh (Y05 _);refine⟨.ref s1.heap.objs.size,upd H1 s1.heap.objs.size (.tup xs),I1.laid (t':=s1.toks) (fun b u e=>Y03 _ e) (Y05 _) ?_,rfl,q _ hf⟩;exact⟨⟨z,_,Y0b _ rfl,rfl⟩,us,r,⟨_,Y0b _ rfl,rfl,_,rfl⟩⟩
theorem Wb (h:PA X es t):PE X (.List es pos) (tLst t):=by
 intro pins s σ H Q I hq;refine wpAny_List_spliced (thn (h pos pins s σ H _ I hq) fun us s1 ⟨xs,H1,I1,r,z,q⟩=>⟨by rw[<-r.length];exact z,?_⟩);have hf:H1 s1.heap.objs.size=none:=I1.hok.fresh (Y05 _);refine⟨.ref s1.heap.objs.size,upd H1 s1.heap.objs.size (.lst xs),I1.laid (t':=s1.toks) (fun b u e=>Y03 _ e) (Y05 _) ?_,rfl,q _ hf⟩;exact⟨z,us,0,r,Y0b _ rfl⟩
end
noncomputable abbrev Sp:=List V->Hp->VK->XK->Prop
noncomputable abbrev CXT:=List Env->Hp->Shared->XK->Value->Shared->Prop
structure VP (P:Program)(w:World)(K:Y00)(mg:Str->Option Value)(base:Heap)(A:Around)(outer:List Env)(s:Shared)(H:Hp):Prop where
 frames:A.frames=some outer
 mod:Mod K mg base
 bs:∀ b o,base.get? b=some o->s.heap.get? b=some o/\H b=none
 bsz:base.objs.size<=s.heap.objs.size
 funs:s.heap.FunFrames base outer
 frf:∀ b∈frs outer,H b=none
 hok:HOk P w H s.heap
 bare:AllBare s.gens
def CE (outer:List Env)(P:Program)(w:World)(H:Hp)(s:Shared)(Q:VK)(u:Value)(s':Shared):Prop:=
 ∃ v H',s'.os=s.os/\AllBare s'.gens/\Un (frs outer) [] H H' s.heap s'.heap/\HOk P w H' s'.heap/\ZM v u/\Q v H'
def CR (CX:CXT)(outer:List Env)(P:Program)(w:World)(H:Hp)(s:Shared)(Q:VK)(E:XK)(r:Result)(s':Shared):Prop:=
 match r with
 | .ok (.ret u)=>CE outer P w H s Q u s'
 | .ok _=>False
 | .error e=>CX outer H s E e s'
structure Z4 (P:Program)(w:World)(K:Y00)(mg:Str->Option Value)(base:Heap)(CX:CXT)(k:Nat)(f:Addr)(fd:FuncData)(ps:List Str)(sp:Sp):Prop where
 len:∀ vs H Q E,sp vs H Q E->vs.length=ps.length
 run:∀ (A:Around) (outer:List Env) (s:Shared) (H:Hp) (args:Args) (us:List Value) (vs:List V) (Q:VK) (E:XK),ZP k A->VP P w K mg base A outer s H->BindsTo s fd args (ps.zip us)->ZN vs us->sp vs H Q E->
  codeAny (model P w) A (.call (.ref f) args) (CR CX outer P w H s Q E) s
theorem Z4.imp {P:Program}{w:World}{K:Y00}{mg:Str->Option Value}{base:Heap}{CX:CXT}{k:Nat}{f:Addr}{fd:FuncData}{ps:List Str}{sp sp':Sp}(F:Z4 P w K mg base CX k f fd ps sp)
  (h:∀ vs H Q E,sp' vs H Q E->sp vs H Q E):Z4 P w K mg base CX k f fd ps sp':=
 ⟨fun vs H Q E q=>F.len vs H Q E (h _ _ _ _ q),fun A outer s H args us vs Q E hr he hb hv hs=>F.run A outer s H args us vs Q E hr he hb hv (h _ _ _ _ hs)⟩
theorem VP.make {P:Program}{w:World}{K:Y00}{mg:Str->Option Value}{base:Heap}{A:Around}{outer:List Env}{s:Shared}{H:Hp}(e:VP P w K mg base A outer s H)(C:Addr)(us:List Value)(kw:List (Str×Value)) :
  VP P w K mg base (A.under (.builtin "type.__call__" ⟨.ref C::us,kw⟩)) outer s H:=⟨by first|exact e.frames|(simpa [Around.under,Code.envs,Code.isFrame,pushEnvs] using e.frames),e.mod,e.bs,e.bsz,e.funs,e.frf,e.hok,e.bare⟩
section
variable {X:Cx}{pins:List (Addr×Obj)}{σ:St}{H:Hp}{s s':Shared}
theorem Inv.env0 (I:Inv X pins σ H s):VP X.prog X.w X.K X.mg X.base X.A X.stack s H:=
 ⟨I.ok.frames,I.ok.mod,I.bs,Y0z I.ok.bsz I.sz,I.stack,I.stkFree,I.hok,I.bare⟩
theorem Inv.after {Q:VK}{u:Value}(I:Inv X pins σ H s)(h:CE X.stack X.prog X.w H s Q u s'):EP X pins σ Q u s':=by
 obtain⟨v,H',os,bare,un,hok,r,q⟩:=h;obtain⟨hh,g,d,t,os'⟩:=s';obtain rfl:os'=s.os:=os;exact⟨v,H',I.call (h':=hh) (g':=g) (d':=d) (t':=t) (ch:=[]) un hok bare (fun b z=>absurd z (by simp)),r,q⟩
end
noncomputable def Yf (sp:Sp)(dvs:List V)(E:XK)(t:TA):TE:=fun σ H Q=>t σ H fun vs H1=>sp (vs++dvs) H1 Q E
noncomputable def ZgA (C:Addr)(m:Str)(sp:Sp)(dvs:List V)(E:XK)(ta:TE)(t:TA):TE:=fun σ H Q=>ta σ H fun x H1=>∃ a dx fs,x=.ref a/\H1 a=some (.ins C dx fs)/\fs.lookup m=none/\
 t σ H1 fun vs H2=>sp (x::(vs++dvs)) H2 Q E
noncomputable def RL (C:Addr)(sp:Sp)(dvs:List V)(E:XK)(t:TA):TE:=fun σ H Q=>t σ H fun vs H1=>∀ x dx,H1 x=none->H1 dx=none->dx≠x->
 sp (.ref x::(vs++dvs)) (upd (upd H1 dx (.own x)) x (.ins C dx [])) (fun v H2=>v=.non/\Q (.ref x) H2) E
def YU (K:Y00)(fd:FuncData)(ps:List Str)(ds:List Value):Prop:=
 ∀ (s:Shared) (us:List Value),K.In s.heap->(us++ds).length=ps.length->BindsTo s fd ⟨us,[]⟩ (ps.zip (us++ds))
theorem YU.all {K:Y00}{fd:FuncData}{ps:List Str}(h:∀ us:List Value,us.length=ps.length->bindArgs fd ⟨us,[]⟩=pure (ps.zip us)):YU K fd ps []:=fun s us _ hl=>by
 rw[Y1o]at hl ⊢;exact .of_eq (h us hl)
def Xb (CX:CXT)(X:Cx)(E:XK):Prop:=∀ (pins:List (Addr×Obj)) (σ:St) (H:Hp) (s:Shared) (e:Value) (s':Shared),Inv X pins σ H s->CX X.stack H s E e s'->X.xe e s'
section
variable {X:Cx}{CX:CXT}{k:Nat}{f C:Addr}{fd:FuncData}{ps:List Str}{sp:Sp}{dvs:List V}{ds:List Value}{E:XK}{x m:Str}{p pos apos:Pos}{e o:Expr}{es:List Expr}{ta:TE}{t:TA}
theorem Z9U {pins:List (Addr×Obj)}{σ:St}{H:Hp}{s:Shared}{Q:VK}{us:List Value}{vs:List V}(F:Z4 X.prog X.w X.K X.mg X.base CX k f fd ps sp)(hr:ZP k X.A)(hb:YU X.K fd ps ds)(hd:ZN dvs ds)(hx:Xb CX X E)
  (I:Inv X pins σ H s) (r:ZN vs us) (h:sp (vs++dvs) H Q E):wpAny (model X.prog X.w) X.A (call (.ref f) us) (EP X pins σ Q) X.xe s:=by
 have r2:ZN (vs++dvs) (us++ds):=r.append hd;have hl:(us++ds).length=ps.length:=by rw[<-r2.length];exact F.len _ _ _ _ h
 refine wpAny_call (codeAny_mono (F.run X.A X.stack s H ⟨us,[]⟩ (us++ds) (vs++dvs) Q E hr I.env0 (hb s us I.kIn hl) r2 h) fun r s' hq=>?_);cases r with
 | error e=>exact hx pins σ H s e s' I hq
 | ok fl=>
  cases fl with
  | ret u=>exact I.after hq
  | next=>exact False.elim hq
  | brk=>exact False.elim hq
  | cont=>exact False.elim hq
theorem ZT (F:Z4 X.prog X.w X.K X.mg X.base CX k f fd ps sp)(hr:ZP k X.A)(hg:Gl X x)(hm:X.mg x=some (.ref f))(hk:Y1p X.K (.ref f)=true)(hb:YU X.K fd ps ds)(hd:ZN dvs ds)(hx:Xb CX X E)
  (ha:PA X (e::es) t) (hdb:(x==("__debug__":Str))=false:=by decide) (he:starEach (e::es) X.env=(false,eval e X.env)::starEach es X.env:=by rfl) (hpl:(backTo pos (starEach es X.env)).any (·.1)=false:=by rfl) :
  PE X (.Call (.Name x p) (e::es) [] pos) (Yf sp dvs E t):=by
 intro pins s σ H Q I h;refine wpAny_Call_Name_kw (Ss I hg hm ?_ hdb);refine Y58 (h₀:=X.base) I.ok.mod.kin hk (thn (ha pos pins s σ H _ I h) fun us s1 ⟨vs,H1,I1,r,q⟩=>⟨I1.kIn,?_⟩) he hpl;exact Z9U F hr hb hd hx I1 r q
theorem ZeA {pl:Sem Bool}(he:PE X o ta)(c:Cls X.K C)(hm:Ti X.K C m f)(F:Z4 X.prog X.w X.K X.mg X.base CX k f fd ps sp)(hr:ZP k X.A)(hb:YU X.K fd ps ds)(hd:ZN dvs ds)(hx:Xb CX X E)(ha:PA X (e::es) t)
  (hst:starEach (e::es) X.env=(false,eval e X.env)::starEach es X.env:=by rfl) (hpl:(backTo pos (starEach es X.env)).any (·.1)=false:=by rfl)
  (ht:eval (.Call (.Attribute o m apos) (e::es) [] pos) X.env=(do
   let ov <-eval o X.env
   standAt apos.atName
   let (f,first) <-holding [ov] (getMethod ov m pl)
   callWith pos f first (backTo pos (starEach (e::es) X.env)) (backToKw pos (keywordEach [] X.env))):=by rfl) :
  PE X (.Call (.Attribute o m apos) (e::es) [] pos) (ZgA C m sp dvs E ta t):=by
 intro pins s σ H Q I h;refine PySem.W.methodCall_KW (pl:=pl) (thn (he pins s σ H _ I h) fun u s1 ⟨x,H1,I1,rx,a,dx,fs,ex,ea,l,q⟩=>?_) ht;subst ex;obtain rfl:u=Value.ref a:=rx;refine Z5C I1 ea c hm l ?_;refine Y58 (first:=[.ref a]) (h₀:=X.base) I.ok.mod.kin hm.kp (thn (ha pos pins s1 σ H1 _ I1 q) fun us s2 ⟨vs,H2,I2,r,q2⟩=>⟨I2.kIn,?_⟩) hst hpl;exact Z9U (us:=.ref a::us) (vs:=.ref a::vs) F hr hb hd hx I2 (.cons rfl r) q2
theorem Zcq {pl:Sem Bool}(he:PE X o ta)(c:Cls X.K C)(hm:Ti X.K C m f)(F:Z4 X.prog X.w X.K X.mg X.base CX k f fd ps sp)(hr:ZP k X.A)(hb:YU X.K fd ps ds)(hd:ZN dvs ds)(hx:Xb CX X E)
  (ht:eval (.Call (.Attribute o m apos) [] [] pos) X.env=(do
   let ov <-eval o X.env
   standAt apos.atName
   let (f,first) <-holding [ov] (getMethod ov m pl)
   callWith pos f first (backTo pos (starEach [] X.env)) (backToKw pos (keywordEach [] X.env))):=by rfl) :
  PE X (.Call (.Attribute o m apos) [] [] pos) (ZgA C m sp dvs E ta Zr):=by
 intro pins s σ H Q I h;refine PySem.W.methodCall_KW (pl:=pl) (thn (he pins s σ H _ I h) fun u s1 ⟨x,H1,I1,rx,a,dx,fs,ex,ea,l,q⟩=>?_) ht;subst ex;obtain rfl:u=Value.ref a:=rx;refine Z5C I1 ea c hm l ?_;exact PySem.W.callWith_K0 (first:=[.ref a]) I1.kIn hm.kp (Z9U (us:=[.ref a]) (vs:=[.ref a]) F hr hb hd hx I1 (.cons rfl .nil) q)
structure Mk (K:Y00)(C f:Addr):Prop where
 makes:PySem.W.makesIn K C=true
 init:Y15 K (.ref C) "__init__"=some (some (.ref f))
 fn:Y57 K (.ref f)=true
 kp:Y1p K (.ref C)=true
theorem ZcS {pins:List (Addr×Obj)}{σ:St}{H:Hp}{s:Shared}{Q:VK}{us:List Value}{vs:List V}(M:Mk X.K C f)(F:Z4 X.prog X.w X.K X.mg X.base CX k f fd ps sp)(hr:ZP (k+1) X.A)(hb:YU X.K fd ps ds)(hd:ZN dvs ds)
  (hx:Xb CX X E) (I:Inv X pins σ H s) (r:ZN vs us)
  (h:∀ x dx,H x=none->H dx=none->dx≠x->sp (.ref x::(vs++dvs)) (upd (upd H dx (.own x)) x (.ins C dx [])) (fun v H2=>v=.non/\Q (.ref x) H2) E) :
  wpAny (model X.prog X.w) X.A (call (.ref C) us) (EP X pins σ Q) X.xe s:=by
 have hq:=h (s.heap.objs.size+1) s.heap.objs.size (I.hok.fresh (Y3z _)) (I.hok.fresh (Y05 _)) (Y0j (Y2l _));have I2:=Inv.made (C:=C) I;have r2:ZN (V.ref (s.heap.objs.size+1)::(vs++dvs)) (Value.ref (s.heap.objs.size+1)::(us++ds)):=.cons rfl (r.append hd);have hl:(Value.ref (s.heap.objs.size+1)::us++ds).length=ps.length:=by
  have e:=r2.length;rw[F.len _ _ _ _ hq]at e;exact e.symm
 refine wpAny_call (Zdk (f:=f) I.kIn M.makes M.init (beq_iff_eq.mp M.fn) (codeAny_mono (F.run _ X.stack _ _ ⟨Value.ref (s.heap.objs.size+1)::us,[]⟩ (Value.ref (s.heap.objs.size+1)::(us++ds)) _ _ E (hr.make C us [])
  (I2.env0.make C us []) (hb _ (Value.ref (s.heap.objs.size+1)::us) I2.kIn hl) r2 hq) fun r s' hq'=>?_))
 cases r with
 | error e=>exact hx pins σ _ _ e s' I2 hq'
 | ok fl=>
  cases fl with
  | ret u=>
   obtain⟨v,H',I3,rv,ev,q3⟩:=I2.after hq';subst ev;exact⟨rv,⟨V.ref (s.heap.objs.size+1),H',I3,rfl,q3⟩⟩
  | next=>exact False.elim hq'
  | brk=>exact False.elim hq'
  | cont=>exact False.elim hq'
theorem Wg (M:Mk X.K C f)(F:Z4 X.prog X.w X.K X.mg X.base CX k f fd ps sp)(hr:ZP (k+1) X.A)(hg:Gl X x)(hm:X.mg x=some (.ref C))(hb:YU X.K fd ps ds)(hd:ZN dvs ds)(hx:Xb CX X E)
  (ha:PA X (e::es) t) (hdb:(x==("__debug__":Str))=false:=by decide) (he:starEach (e::es) X.env=(false,eval e X.env)::starEach es X.env:=by rfl) (hpl:(backTo pos (starEach es X.env)).any (·.1)=false:=by rfl) :
  PE X (.Call (.Name x p) (e::es) [] pos) (RL C sp dvs E t):=by
 intro pins s σ H Q I h;refine wpAny_Call_Name_kw (Ss I hg hm ?_ hdb);refine Y58 (h₀:=X.base) I.ok.mod.kin M.kp (thn (ha pos pins s σ H _ I h) fun us s1 ⟨vs,H1,I1,r,q⟩=>⟨I1.kIn,?_⟩) he hpl;exact ZcS M F hr hb hd hx I1 r q
end
section
variable {X:Cx}{CX:CXT}{k:Nat}{f C:Addr}{fd:FuncData}{ps ks:List Str}{sp:Sp}{E:XK}{x m:Str}{p pos apos kpos:Pos}{e o:Expr}{es:List Expr}{kws:List Keyword}{te ta:TE}{t tk:TA}{nm:Option Str}
variable {g:List Value->List Value->List Value}{gV:List V->List V->List V}
end
structure ZL (N P:List Str)(sc:Scope):Prop where
 kind:sc.kind=.function
 co:sc.isCoroutine=false
 gen:sc.isGenerator=false
 nd:N.Nodup
 pre:N.take P.length=P
 par:∀ x∈P,sc.names.lookup x=some .local\/sc.names.lookup x=some .cell
 nofree:∀ y∈sc.names,y.2≠.free
theorem Z6W {kindOf:Str->Option NameKind}{x:Str}:∀ {binds:List (Str×Value)} {m:Str->Option Value},(∀ v,(x,v)∉binds)->bindL kindOf binds m x=m x
 | [],_,_=>rfl
 | (n,v)::r,m,h=>by
  unfold bindL;rw[Z6W fun w hw=>h w (Y0y _ hw)]
  split
  ·have:x≠n:=(by rintro rfl;exact h v Y29);simp[this]
  ·rfl
theorem Z7l {kindOf:Str->Option NameKind}{x:Str}:∀ {binds:List (Str×Value)} {m:Str->Option Value},(∀ v,(x,v)∉binds)->bindC kindOf binds m x=m x
 | [],_,_=>rfl
 | (n,v)::r,m,h=>by
  unfold bindC;rw[Z7l fun w hw=>h w (Y0y _ hw)]
  split
  ·rfl
  ·have:x≠n:=(by rintro rfl;exact h v Y29);simp[this]
theorem Z6A {kindOf:Str->Option NameKind}{x:Str}{v:Value}:∀ {P:List Str} {vs:List Value} {i:Nat} {m:Str->Option Value},P.Nodup->P[i]?=some x->vs[i]?=some v->kindOf x=some .local->
  bindL kindOf (P.zip vs) m x=some v
 | [],_,_,_,_,h,_,_=>by simp at h
 | _::_,[],_,_,_,_,h,_=>by simp at h
 | p::P,w::vs,0,m,nd,h1,h2,hk=>by
  simp at h1 h2;subst h1;subst h2;show bindL kindOf ((p,w)::P.zip vs) m p=_;unfold bindL;rw[Z6W fun v hv=>(Y3j.mp nd).1 (List.of_mem_zip hv).1,if_pos hk];simp
 | p::P,w::vs,i+1,m,nd,h1,h2,hk=>by
  show bindL kindOf ((p,w)::P.zip vs) m x=_;unfold bindL;exact Z6A (i:=i) (Y3j.mp nd).2 (by simpa using h1) (by simpa using h2) hk
theorem Z72 {kindOf:Str->Option NameKind}{x:Str}{v:Value}:∀ {P:List Str} {vs:List Value} {i:Nat} {m:Str->Option Value},P.Nodup->P[i]?=some x->vs[i]?=some v->kindOf x≠some .local->
  bindC kindOf (P.zip vs) m x=some v
 | [],_,_,_,_,h,_,_=>by simp at h
 | _::_,[],_,_,_,_,h,_=>by simp at h
 | p::P,w::vs,0,m,nd,h1,h2,hk=>by
  simp at h1 h2;subst h1;subst h2;show bindC kindOf ((p,w)::P.zip vs) m p=_;unfold bindC;rw[Z7l fun v hv=>(Y3j.mp nd).1 (List.of_mem_zip hv).1,if_neg hk];simp
 | p::P,w::vs,i+1,m,nd,h1,h2,hk=>by
  show bindC kindOf ((p,w)::P.zip vs) m x=_;unfold bindC;exact Z72 (i:=i) (Y3j.mp nd).2 (by simpa using h1) (by simpa using h2) hk
noncomputable def start (N:List Str)(vs:List V):St:=vs.map some++Y0c (N.length-vs.length) none
noncomputable def Xo (CX:CXT)(P:Program)(w:World)(K:Y00)(mg:Str->Option Value)(base:Heap)(N:List Str)(qual:Str)(scope:Scope)(f:Addr)(cd:Value)(A:Around)(outer:List Env)(s:Shared)(H:Hp)(E:XK):Cx where
 prog:=P
 w:=w
 K:=K
 mg:=mg
 base:=base
 A:=A.deeper (envOfC qual scope s.heap.objs.size f cd)
 N:=N
 s₀:=s
 H₀:=H
 env:=envOfC qual scope s.heap.objs.size f cd
 outer:=outer
 stack:=envOfC qual scope s.heap.objs.size f cd::outer
 ex:=[]
 calm:=true
 fn:=fun _=>true
 pn:=[]
 xe:=fun e s'=>wpAny (model P w) (A.deeper (envOfC qual scope s.heap.objs.size f cd)) (leaving (envOfC qual scope s.heap.objs.size f cd) e) (fun _ s''=>CX outer H s E e s'') (fun e' s''=>CX outer H s E e' s'') s'
theorem Z8X {sc:Scope}{n:Nat}{x:Str}(h:sc.names.lookup x=some .cell):∃ c,(cellsFrom n sc.names []).lookup x=some c:=by
 have q:=PySem.W.cellsFrom_some sc.names n [] (.inl h);exact Option.isSome_iff_exists.mp q
theorem ZaF {CX:CXT}{P:Program}{w:World}{K:Y00}{mg:Str->Option Value}{base:Heap}{N ps:List Str}{qual:Str}{scope:Scope}{f:Addr}{cd:Value}{A:Around}{outer:List Env}{s s1:Shared}{H:Hp}{E:XK}{us:List Value}{vs:List V}
  (S:ZL N ps scope) (hd:A.handled=none) (e0:VP P w K mg base A outer s H) (hl:vs.length=ps.length) (r:ZN vs us)
  (x:InCallC s s.heap.objs.size (bindL (envOfC qual scope s.heap.objs.size f cd).kindOf (ps.zip us) fun _=>none) (cellsFrom (s.heap.objs.size+1) scope.names []) (bindC (envOfC qual scope s.heap.objs.size f cd).kindOf (ps.zip us) fun _=>none) s1) :
  Inv (Xo CX P w K mg base N qual scope f cd A outer s H E) [] (start N vs) H s1:=by
 have hpl:ps.length<=N.length:=by have:=congrArg Y2q S.pre;rw[Y3u]at this;lia
 obtain⟨h1,tk,rfl,hk⟩:=x.done;have noA:∀ b:Addr,b∉(Xo CX P w K mg base N qual scope f cd A outer s H E).ex:=fun b z=>absurd (show b∈([]:List Addr) from z) (by simp);refine⟨⟨e0.mod,S.kind,rfl,rfl,Y05 _,fun y z c h1 h2=>?_,fun y hy=>?_,fun y c _ h=>?_,fun _=>hd,Around.frames_deeper e0.frames,.inr ⟨rfl,rfl⟩,fun b z=>absurd z (noA b),e0.bs,e0.bsz,fun b _ _=>noA b,fun b z=>absurd z (noA b),e0.funs,e0.frf⟩,
  rfl,e0.bare,Un.kept hk,⟨_,x.toInCall.ns,fun i y v h1 h2 h3=>?_⟩,fun y c h=>⟨_,x.cell y c h⟩,e0.hok.fresh (Y05 _),fun y c h=>?_,fun p hp=>absurd (show p∈([]:List (Addr×Obj)) from hp) (by simp),e0.hok.kept hk,?_⟩
 ·exact name_of_addr x.apart (PySem.mem_of_lookup h1) (PySem.mem_of_lookup h2)
 ·have hy:scope.names.lookup y=some .cell\/scope.names.lookup y=some .free:=hy;rcases hy with hy|hy
  ·exact Z8X hy
  ·exact absurd rfl (S.nofree _ (PySem.mem_of_lookup hy))
 ·exact Y16 (x.above y c (PySem.mem_of_lookup h))
 ·have hi:i<vs.length:=by
   unfold start at h2
   by_cases hi:i<vs.length
   ·exact hi
   ·rw[Y50 (by simpa using hi)]at h2;rw[Y46]at h2
    split at h2<;>cases h2
  have ha:vs[i]?=some v:=by
   unfold start at h2;rw[Y38 (by simpa using hi),Y0l]at h2;cases e:vs[i]? with
   | none=>rw[e]at h2;cases h2
   | some a=>rw[e]at h2;cases h2;rfl
  obtain⟨u,hu,rv⟩:=r.get ha;have hp:ps[i]?=some y:=by
   rw[<-S.pre,List.getElem?_take_of_lt (by lia)];exact h1
  have ndP:ps.Nodup:=by rw[<-S.pre];exact S.nd.sublist (List.take_sublist _ _)
  refine⟨u,rv,?_⟩;rcases S.par y (Y0r hp) with k|k
  ·exact .inl ⟨k,Z6A ndP hp hu k⟩
  ·obtain⟨c,e⟩:=Z8X (n:=s.heap.objs.size+1) k;refine .inr ⟨.inl k,c,e,?_⟩;have q:=x.cell y c e;rw[Z72 ndP hp hu (by show scope.names.lookup y≠_;rw[k];decide)]at q;exact q
 ·exact e0.hok.fresh (Y16 (x.above y c (PySem.mem_of_lookup h)))
 ·unfold start;show _=N.length;rw[Y0h,Y07,Y36];lia
theorem ZfY {CX:CXT}{P:Program}{w:World}{K:Y00}{mg:Str->Option Value}{base:Heap}{k:Nat}{f:Addr}{name qual:Str}{params:Arguments}{body:List Stmt}{scope:Scope}{dV kV doc pm cdv ct oc:Value}{an od:Option Addr}
  {osl:Array (Option Value)} {N ps:List Str} {sp:Sp} (lk:K.lookup f=some ⟨oc,od,.func (Y1m name qual params body scope dV kV doc pm an cdv ct),osl⟩) (hcd:Y30 K cdv qual=true) (S:ZL N ps scope)
  (len:∀ vs H Q E,sp vs H Q E->vs.length=ps.length)
  (hbody:∀ (A:Around) (outer:List Env) (s:Shared) (H:Hp) (vs:List V) (Q:VK) (E:XK),ZP k (A.deeper (envOfC qual scope s.heap.objs.size f cdv))->sp vs H Q E->
   ∃ t,PSs (Xo CX P w K mg base N qual scope f cdv A outer s H E) body t/\t { nx:=fun _ H'=>Q .non H',rt:=Q } (start N vs) H) :
  Z4 P w K mg base CX (k+1) f (Y1m name qual params body scope dV kV doc pm an cdv ct) ps sp:=by
 refine⟨len,fun A outer s H args us vs Q E hr e0 hb r hsp=>?_⟩;have hl:=len _ _ _ _ hsp;have KX:K.In s.heap:=e0.mod.kin.keeps fun b o e=>(e0.bs b o e).1;have lim:s.heap.NoLimit:=e0.mod.nolimit.keeps fun b o e=>(e0.bs b o e).1;have hkind:∀ y∈ps.zip us,scope.names.lookup y.1=some .local\/(scope.names.lookup y.1=some .cell/\((cellsFrom (s.heap.objs.size+1) scope.names []).lookup y.1).isSome=true):=fun ⟨n,v⟩ hy=>by
  rcases S.par n (List.of_mem_zip hy).1 with q|q
  ·exact .inl q
  ·exact .inr ⟨q,PySem.W.cellsFrom_some _ _ _ (.inl q)⟩
 refine codeAny_call_function hr.depth (KX _ _ lk) rfl S.co S.gen rfl (PySem.W.codeRec_of KX hcd) (hb _ _ _ _ ?_);refine wpAny_newFunctionEnv_cells S.kind hkind fun env he s1 x=>?_;subst he;refine⟨lim.keeps x.toInCall.keep,codeAny_func ?_⟩;obtain⟨t,ht,hq⟩:=hbody A outer s H vs Q E (hr.deeper _) hsp;have I:Inv (Xo CX P w K mg base N qual scope f cdv A outer s H E) [] (start N vs) H s1:=ZaF S hr.hd e0 hl r x;refine wpAny_mono (ht [] s1 (start N vs) H _ I hq) (fun fl s' hs=>?_) fun e s' hs=>hs;have fin:∀ {σ':St} {H':Hp} {v:V} {u:Value},Inv (Xo CX P w K mg base N qual scope f cdv A outer s H E) [] σ' H' s'->ZM v u->Q v H'->CE outer P w H s Q u s':=
  fun {σ' H' v u} J rv q=>⟨v,H',J.os,J.bare,J.base,J.hok,rv,q⟩
 cases fl with
 | ret u=>
  obtain⟨v,σ',H',J,rv,q⟩:=hs;exact fin J rv q
 | next=>
  obtain⟨σ',H',J,q⟩:=hs;exact fin (v:=V.non) (u:=Value.none) J rfl q
 | brk=>
  obtain⟨_,_,_,q⟩:=hs;exact False.elim q
 | cont=>
  obtain⟨_,_,_,q⟩:=hs;exact False.elim q
section
variable {X:Cx}{x:Str}{p pos:Pos}{e:Expr}{es:List Expr}{t:TA}{id T:String}{r:List V->Hp->VK->Prop}
def tCB (r:List V->Hp->VK->Prop)(t:TA):TE:=fun σ H Q=>t σ H fun vs H1=>r vs H1 Q
theorem ZG (hc:YW X (.builtin id) r)(hg:Gl X x)(hm:X.mg x=none)(hv:bootBuiltins x=some (.builtin id))(ha:PA X (e::es) t)(hn:x≠"__name__":=by decide)(hdb:(x==("__debug__":Str))=false:=by decide)
  (he:starEach (e::es) X.env=(false,eval e X.env)::starEach es X.env:=by rfl) (hpl:(backTo pos (starEach es X.env)).any (·.1)=false:=by rfl):PE X (.Call (.Name x p) (e::es) [] pos) (tCB r t):=by
 intro pins s σ H Q I h;refine wpAny_Call_Name_kw (Vi I hg hm hv ?_ hn hdb);exact PyProof.Rows.callWith_builtin1 (thn (ha pos pins s σ H _ I h) fun us s1 ⟨vs,H1,I1,r1,q1⟩=>hc pins s1 σ H1 vs us Q I1 r1 q1) he hpl
theorem X7 (hc:YW X (.type T) r)(hg:Gl X x)(hm:X.mg x=none)(hv:bootBuiltins x=some (.type T))(ha:PA X (e::es) t)(hn:x≠"__name__":=by decide)(hdb:(x==("__debug__":Str))=false:=by decide)
  (he:starEach (e::es) X.env=(false,eval e X.env)::starEach es X.env:=by rfl) (hpl:(backTo pos (starEach es X.env)).any (·.1)=false:=by rfl):PE X (.Call (.Name x p) (e::es) [] pos) (tCB r t):=by
 intro pins s σ H Q I h;refine wpAny_Call_Name_kw (Vi I hg hm hv ?_ hn hdb);exact PyProof.Rows.callWith_type1 (thn (ha pos pins s σ H _ I h) fun us s1 ⟨vs,H1,I1,r1,q1⟩=>hc pins s1 σ H1 vs us Q I1 r1 q1) he hpl
end
end L2
namespace HT
open PySem PyProof.Rows
noncomputable def lexLt:List Int->List Int->Bool
 | [],[]=>false
 | [],_::_=>true
 | _::_,[]=>false
 | x::xs,y::ys=>if x=y then lexLt xs ys else decide (x<y)
theorem lexLt_cons (x y:Int)(xs ys:List Int):lexLt (x::xs) (y::ys)=if x=y then lexLt xs ys else decide (x<y):=rfl
section
open PySem.SeqAt
open PySem.AutoSeq1 (wpAny_loadPart')
open PySem.MeetsSeq PySem.MeetsSeq2 PySem.MeetsSeq3
end
section
variable {prog:Program}{w:World}{A:Around}{E:Value->Shared->Prop}{s:Shared}
end
end HT
namespace L2
open PySem PySem.Spec PyProof.Rows
theorem Z9d {ns:List Int}:∀ {us:List Value},ZN (ns.map V.int) us->IntsAre us ns:=by
 induction ns with
 | nil=>intro us r;rw[Y4i]at r;cases r;exact .nil
 | cons n ns ih=>
  intro us r;rw[Y11]at r;cases r with
  | cons r1 r2=>
   obtain⟨t,e⟩:=r1;subst e;exact .cons n t (ih r2)
section
variable {X:Cx}{e:Expr}{te:TE}{lo hi:Option Expr}{tl th:TO}{pos p2:Pos}
end
noncomputable def ixN (n:Nat)(i:Int):Option Nat:=if 0<=i then (if i<n then some i.toNat else none) else if -(n:Int)<=i then some (i+n).toNat else none
noncomputable def atI {α:Type}(xs:List α)(i:Int):Option α:=(ixN xs.length i).bind fun j=>xs[j]?
theorem Zbg {n:Nat}{i:Int}{j:Nat}(h:ixN n i=some j):seqIndex? i n=some j/\j<n/\-(n:Int)<=i/\i<n:=by
 unfold ixN at h
 by_cases h0:0<=i
 ·rw[if_pos h0]at h
  by_cases h1:i<n
  ·rw[if_pos h1]at h;have e:i.toNat=j:=Option.some.inj h;exact⟨by rw[seqIndex_of h0 h1,e],by lia,by lia,h1⟩
  ·rw[if_neg h1]at h;cases h
 ·rw[if_neg h0]at h
  by_cases h1:-(n:Int)<=i
  ·rw[if_pos h1]at h;have e:(i+n).toNat=j:=Option.some.inj h;exact⟨by rw[seqIndex_neg (by lia) h1,e],by lia,h1,by lia⟩
  ·rw[if_neg h1]at h;cases h
theorem Z83 {α:Type}{xs:List α}{i:Int}{v:α}(h:atI xs i=some v):∃ j,seqIndex? i xs.length=some j/\xs[j]?=some v/\j<xs.length/\-(xs.length:Int)<=i/\i<xs.length:=by
 unfold atI at h;cases e:ixN xs.length i with
 | none=>rw[e]at h;cases h
 | some j=>
  rw[e]at h;obtain⟨h1,h2,h3,h4⟩:=Zbg e;exact⟨j,h1,h,h2,h3,h4⟩
theorem Z0 {α:Type}{xs:List α}{j:Nat}{v:α}(h:xs[j]?=some v):atI xs (j:Int)=some v:=by
 have hj:j<xs.length:=(Y08.mp h).1;have e:ixN xs.length (j:Int)=some j:=by
  unfold ixN;rw[if_pos (by lia),if_pos (by lia)];simp
 unfold atI;rw[e];exact h
def ZfN (b:Expr):Prop:=∀ o i,subscripted b false o i=operate [o,i] (getItem o i)
def IxR (X:Cx)(r:R2):Prop:=
 ∀ (value slice:Expr) (pins:List (Addr×Obj)) (s:Shared) (σ:St) (H:Hp) (x y:V) (v u:Value) (Q:VK),Inv X pins σ H s->ZM x v->ZM y u->r x y H Q->
  subscripted slice false v u=operate [v,u] (getItem v u)->wpAny (model X.prog X.w) X.A (subscriptTail value slice v u) (EP X pins σ Q) X.xe s
def MtR (X:Cx)(id:String)(r:V->List V->Hp->VK->Prop):Prop:=
 ∀ (pins:List (Addr×Obj)) (s:Shared) (σ:St) (H:Hp) (x:V) (xs:List V) (v:Value) (us:List Value) (Q:VK),Inv X pins σ H s->ZM x v->ZN xs us->r x xs H Q->
  wpAny (model X.prog X.w) X.A (call (.builtin id) (v::us)) (EP X pins σ Q) X.xe s
section
variable {X:Cx}{a b:Expr}{ta tb:TE}{pos:Pos}
theorem IxR.or {r r':R2}(h:IxR X r)(h':IxR X r'):IxR X (fun x y H Q=>r x y H Q\/r' x y H Q):=by
 intro value slice pins s σ H x y v u Q I rx ry q hs;rcases q with q|q
 ·exact h value slice pins s σ H x y v u Q I rx ry q hs
 ·exact h' value slice pins s σ H x y v u Q I rx ry q hs
theorem Z2 {r:R2}(hr:IxR X r)(ha:PE X a ta)(hb:PE X b tb)(hs:ZfN b):PE X (.Subscript a b pos) (tOp r ta tb):=by
 intro pins s σ H Q I h;exact Subscript_ (ZjB ha hb I h fun v u s2 x y H2 I2 rx ry q=>hr a b pins s2 σ H2 x y v u Q I2 rx ry q (hs _ _))
noncomputable def Ta (K:Y00):R2:=fun x y H Q=>∃ p xs i v,x=.ref p/\y=.int i/\SqL K H p xs/\atI xs i=some v/\Q v H
noncomputable def Y0 (K:Y00):R2:=fun x y H Q=>∃ p xs i v,x=.ref p/\y=.int i/\SqT K H p xs/\atI xs i=some v/\Q v H
noncomputable def rIxS:R2:=fun x y H Q=>∃ z i c,x=.str z/\y=.int i/\z.length<=sizeLine/\atI z.cps.toList i=some c/\Q (.str ⟨#[c]⟩) H
theorem YG:IxR X (Ta X.K):=by
 intro value slice pins s σ H x y v u Q I rx ry h hs;obtain⟨p,xs,i,z,rfl,rfl,hq,he,q⟩:=h;cases rx;obtain⟨t,rfl⟩:=ry;obtain⟨its,r,pl,hz⟩:=I.list hq;obtain⟨j,h1,h2,h3,h4,h5⟩:=Z83 he;obtain⟨w,ew,rw'⟩:=r.get h2;have hl:=r.length;have hn:=Vj;have fin:EP X pins σ Q w s:=⟨z,H,I,rw',q⟩
 by_cases h0:0<=i
 ·have hj:i.toNat=j:=by
   rw[seqIndex_of h0 h5]at h1;exact Option.some.inj h1
  exact item_listR pl.isList h0 (by lia) (by rw[hj];simpa using ew) fin hs
 ·have hj:(i+(its.toArray.size:Int)).toNat=j:=by
   rw[seqIndex_neg (by lia) h4]at h1;rw[Y0e,<-hl];exact Option.some.inj h1
  exact subscriptTail_builtinR (x:=w) pl.isList.typeIs slot_list_getitem.lookup
   (wpAny_getItem_list_neg (Q:=fun r s'=>r=w/\EP X pins σ Q r s') pl.isList (by lia) (by rw[Y0e]<;>lia) (by lia) (by rw[hj];simpa using ew) ⟨rfl,fin⟩) hs
theorem ZZ:IxR X (Y0 X.K):=by
 intro value slice pins s σ H x y v u Q I rx ry h hs;obtain⟨p,xs,i,z,rfl,rfl,hq,he,q⟩:=h;cases rx;obtain⟨t,rfl⟩:=ry;obtain⟨its,r,pl,hz⟩:=I.tuple hq;obtain⟨j,h1,h2,h3,h4,h5⟩:=Z83 he;obtain⟨w,ew,rw'⟩:=r.get h2;have hl:=r.length;have hn:=Vj;have fin:EP X pins σ Q w s:=⟨z,H,I,rw',q⟩;exact subscriptTail_builtinR (x:=w) pl.typeIs slot_tuple_getitem.lookup
  (getItem_tuple (j:=j) (Q:=fun r s'=>r=w/\EP X pins σ Q r s') pl (by lia) (by lia) (by rw[Y0e,<-hl];exact h1) (by simpa using ew) ⟨rfl,fin⟩) hs
theorem ZgZ:IxR X rIxS:=by
 intro value slice pins s σ H x y v u Q I rx ry h hs;obtain⟨z,i,c,rfl,rfl,hz,he,q⟩:=h;obtain⟨t,rfl⟩:=rx;obtain⟨t',rfl⟩:=ry;obtain⟨j,h1,h2,h3,h4,h5⟩:=Z83 he;have hl:z.cps.toList.length=z.length:=by simp[Str.length]
 rw[hl]at h1 h4 h5;have hn:=Vj;exact tail_any (typeIs_str s z t) slot_str_getitem.lookup (getItem_str (c:=c) (by
  have e1:decide (i < -(2^63:Int))=false:=decide_eq_false (by lia)
  have e2:decide (i≥2^63)=false:=decide_eq_false (by lia)
  rw[e1,e2,Bool.or_false]) (by rw[h1];simpa using h2) ⟨.str ⟨#[c]⟩,H,I.tok _,⟨_,rfl⟩,q⟩) hs
noncomputable def rIx (K:Y00):R2:=fun x y H Q=>Ta K x y H Q\/Y0 K x y H Q\/rIxS x y H Q
theorem V9:IxR X (rIx X.K):=YG.or (ZZ.or ZgZ)
theorem Z9o (its:List Value)(n j:Nat)(u:Value):Obj.mapSeq (·.setIfInBounds j u) { cls:=.type "list",data:=.seq its.toArray n }={ cls:=.type "list",data:=.seq (its.set j u).toArray n }:=by
 simp[Obj.mapSeq]
theorem Inv.lst {pins:List (Addr×Obj)}{σ:St}{H:Hp}{s:Shared}{p:Addr}{xs:List V}(I:Inv X pins σ H s)(h:H p=some (.lst xs)) :
  ∃ (its:List Value) (n:Nat),ZN xs its/\s.heap.get? p=some { cls:=.type "list",data:=.seq its.toArray n }/\xs.length<=sizeLine:=by
 obtain⟨z,its,n,r,e⟩:=I.hok p _ h;exact⟨its,n,r,e,z⟩
theorem Inv.lstUpd {pins:List (Addr×Obj)}{σ:St}{H:Hp}{s:Shared}{p:Addr}{xs ys:List V}{its its':List Value}{n n':Nat}{f:Obj->Obj}(I:Inv X pins σ H s)(h:H p=some (.lst xs))
  (ho:s.heap.get? p=some { cls:=.type "list",data:=.seq its.toArray n }) (hf:f { cls:=.type "list",data:=.seq its.toArray n }={ cls:=.type "list",data:=.seq its'.toArray n' }) (r:ZN ys its') (hz:ys.length<=sizeLine) (t:Nat) :
  Inv X pins σ (upd H p (.lst ys)) { s with heap:=s.heap.update p f,toks:=t }:=by
 have e:(s.heap.update p f).get? p=some { cls:=.type "list",data:=.seq its'.toArray n' }:=by
  rw[Y3k f ho (by rw[hf]<;>rfl),hf]
 refine I.write (x:=p) (e:=p) (by rw[h];trivial) (.inl rfl) (fun b u hb q=>(Y1h _ _ (Ne.symm hb)).trans q) ⟨_,e⟩ ?_;exact⟨hz,its',n',r,e⟩
def Zis:V->V->V->Hp->(Hp->Prop)->Prop:=fun o i v H Q=>∃ p xs k j,o=.ref p/\i=.int k/\H p=some (.lst xs)/\ixN xs.length k=some j/\Q (upd H p (.lst (xs.set j v)))
theorem Zcj:PSet X Zis:=by
 intro pins s σ H o i v ov iv u Q I ro ri rv h;obtain⟨p,xs,k,j,rfl,rfl,hp,hj,q⟩:=h;cases ro;obtain⟨t,rfl⟩:=ri;obtain⟨its,n,r,ho,hz⟩:=I.lst hp;obtain⟨h1,h2,h3,h4⟩:=Zbg hj;have hl:=r.length;have hn:=Vj;have I':Inv X pins σ (upd H p (.lst (xs.set j v))) { s with heap:=s.heap.update p (Obj.mapSeq (·.setIfInBounds j u)) }:=
  I.lstUpd hp ho (Z9o its n j u) (r.set rv j) (by rw[List.length_set];exact hz) s.toks
 by_cases h0:0<=k
 ·have hk:k.toNat=j:=by
   rw[seqIndex_of h0 h4]at h1;exact Option.some.inj h1
  exact PySem.W.ki_setAt ho h0 (by lia) (by rw[Y0e,<-hl];exact h4) (by rw[hk];exact⟨_,I',q⟩)
 ·have hk:(k+(its.toArray.size:Int)).toNat=j:=by
   rw[seqIndex_neg (by lia) h3]at h1;rw[Y0e,<-hl];exact Option.some.inj h1
  exact PySem.W.ki_setBack ho (by lia) (by rw[Y0e,<-hl];exact h3) (by lia) (by rw[hk];exact⟨_,I',q⟩)
noncomputable def W8:V->Bool
 | .non=>true
 | .bl _=>true
 | .int _=>true
 | .str _=>true
 | _=>false
noncomputable def eqV:V->V->Bool
 | .non,.non=>true
 | .bl a,.bl b=>a==b
 | .bl a,.int b=>(if a then 1 else 0)==b
 | .int a,.bl b=>a==(if b then 1 else 0)
 | .int a,.int b=>a==b
 | .str a,.str b=>a==b
 | _,_=>false
theorem ZiJ {A:Around}{s:Shared}{y x:V}{u v:Value}(ry:ZM y u)(rx:ZM x v)(fy:W8 y=true)(fx:W8 x=true):SeqAt.EqAt A s u v (eqV y x):=by
 cases y with
 | non=>
  cases ry;cases x with
  | non=>cases rx;exact SeqAt.EqAt.same _
  | bl b=>cases rx;exact SeqAt.EqAt.none_bool b
  | int b=>obtain⟨t,rfl⟩:=rx;exact SeqAt.EqAt.none_int b t
  | str b=>obtain⟨t,rfl⟩:=rx;exact SeqAt.EqAt.none_str b t
  | _=>exact absurd (show false=true from fx) Y0i
 | bl a=>
  cases ry;cases x with
  | non=>cases rx;exact SeqAt.EqAt.bool_none a
  | bl b=>cases rx;exact SeqAt.EqAt.bool_bool a b
  | int b=>obtain⟨t,rfl⟩:=rx;exact SeqAt.EqAt.bool_int a b t
  | str b=>obtain⟨t,rfl⟩:=rx;exact SeqAt.EqAt.bool_str a b t
  | _=>exact absurd (show false=true from fx) Y0i
 | int a=>
  obtain⟨t',rfl⟩:=ry;cases x with
  | non=>cases rx;exact SeqAt.EqAt.int_none a t'
  | bl b=>cases rx;exact SeqAt.EqAt.int_bool a t' b
  | int b=>obtain⟨t,rfl⟩:=rx;exact SeqAt.EqAt.int_int a t' b t
  | str b=>obtain⟨t,rfl⟩:=rx;exact SeqAt.EqAt.int_str a t' b t
  | _=>exact absurd (show false=true from fx) Y0i
 | str a=>
  obtain⟨t',rfl⟩:=ry;cases x with
  | non=>cases rx;exact SeqAt.EqAt.str_none a t'
  | bl b=>cases rx;exact SeqAt.EqAt.str_bool a t' b
  | int b=>obtain⟨t,rfl⟩:=rx;exact SeqAt.EqAt.str_int a t' b t
  | str b=>obtain⟨t,rfl⟩:=rx;exact SeqAt.EqAt.str_str a t' b t
  | _=>exact absurd (show false=true from fx) Y0i
 | _=>exact absurd (show false=true from fy) Y0i
noncomputable def eqU (x:V)(u:Value):Bool:=match u with
 | .none=>eqV .non x
 | .bool b=>eqV (.bl b) x
 | .int i _=>eqV (.int i) x
 | .str z _=>eqV (.str z) x
 | _=>false
theorem Ze3 {x y:V}{u:Value}(r:ZM y u)(f:W8 y=true):eqU x u=eqV y x:=by
 cases y with
 | non=>cases r;rfl
 | bl b=>cases r;rfl
 | int i=>obtain⟨t,rfl⟩:=r;rfl
 | str z=>obtain⟨t,rfl⟩:=r;rfl
 | _=>exact absurd (show false=true from f) Y0i
theorem Ua {x:V}:∀ {xs:List V} {us:List Value},ZN xs us->xs.all W8=true->us.any (eqU x)=xs.any fun y=>eqV y x
 | _,_,.nil,_=>rfl
 | y::xs,u::us,.cons r t,f=>by
  rw[List.all_cons,Y22]at f;rw[Y4q,Y4q,Ze3 r f.1,Ua t f.2]
theorem Uw {A:Around}{s:Shared}{x:V}{v:Value}(rx:ZM x v)(fx:W8 x=true):∀ {xs:List V} {us:List Value},ZN xs us->xs.all W8=true->∀ u∈us,SeqAt.EqAt A s u v (eqU x u)
 | _,_,.nil,_=>fun u hu=>by cases hu
 | y::xs,u::us,.cons r t,f=>fun u' hu=>by
  rw[List.all_cons,Y22]at f;rcases Y14.mp hu with rfl|hu
  ·rw[Ze3 r f.1];exact ZiJ r rx f.1 fx
  ·exact Uw rx fx t f.2 u' hu
noncomputable def inV (x:V)(xs:List V):Bool:=xs.any fun y=>eqV y x
noncomputable def rIn (K:Y00)(neg:Bool):R2:=fun x y H Q=>∃ p xs,y=.ref p/\(SqL K H p xs\/SqT K H p xs)/\W8 x=true/\xs.all W8=true/\Q (.bl (if neg then !inV x xs else inV x xs)) H
theorem Z5m:OpR X (compareOp .In) (rIn X.K false):=by
 intro pins s σ H x y v u Q I rx ry h;obtain⟨p,xs,rfl,hq,fx,fs,q⟩:=h;cases ry;rcases hq with hq|hq
 ·obtain⟨its,r,pl,hz⟩:=I.list hq;refine SeqAt.in_listAt (eqU x) pl.isList (fun w hw=>Uw rx fx r fs w (by simpa using hw)) ⟨.bl _,H,I,rfl,?_⟩;rw[show its.toArray.any (eqU x)=its.any (eqU x) by simp,Ua r fs];exact q
 ·obtain⟨its,r,pl,hz⟩:=I.tuple hq;refine SeqAt.in_tupleAt (eqU x) pl (fun w hw=>Uw rx fx r fs w (by simpa using hw)) ⟨.bl _,H,I,rfl,?_⟩;rw[show its.toArray.any (eqU x)=its.any (eqU x) by simp,Ua r fs];exact q
theorem Z6C:OpR X (compareOp .NotIn) (rIn X.K true):=by
 intro pins s σ H x y v u Q I rx ry h;obtain⟨p,xs,rfl,hq,fx,fs,q⟩:=h;cases ry;rcases hq with hq|hq
 ·obtain⟨its,r,pl,hz⟩:=I.list hq;refine SeqAt.notIn_listAt (eqU x) pl.isList (fun w hw=>Uw rx fx r fs w (by simpa using hw)) ⟨.bl _,H,I,rfl,?_⟩;rw[show its.toArray.any (eqU x)=its.any (eqU x) by simp,Ua r fs];exact q
 ·obtain⟨its,r,pl,hz⟩:=I.tuple hq;refine SeqAt.notIn_tupleAt (eqU x) pl (fun w hw=>Uw rx fx r fs w (by simpa using hw)) ⟨.bl _,H,I,rfl,?_⟩;rw[show its.toArray.any (eqU x)=its.any (eqU x) by simp,Ua r fs];exact q
theorem Y5:YW X (.builtin "len") (fun xs H Q=>∃ p ys,xs=[.ref p]/\(SqL X.K H p ys\/SqT X.K H p ys)/\Q (.int ys.length) H):=by
 intro pins s σ H xs us Q I r h;obtain⟨p,ys,rfl,hq,q⟩:=h;obtain⟨u,rfl,rx⟩:=YE r;cases rx;have hn:=Vj;rcases hq with hq|hq
 ·obtain⟨its,r',pl,hz⟩:=I.list hq;have hlen:=r'.length;exact Calls.call_len_list pl.isList (by simp only[Y0e]<;>lia) ⟨.int ys.length,H,I.tok _,⟨s.toks+1,by rw[Y0e,hlen]⟩,q⟩
 ·obtain⟨its,r',pl,hz⟩:=I.tuple hq;have hlen:=r'.length;exact len_tuple pl (by simp only[Y0e]<;>lia) ⟨.int ys.length,H,I.tok _,⟨s.toks+1,by rw[Y0e,hlen]⟩,q⟩
theorem Z6y:YW X (.builtin "len") (fun xs H Q=>∃ z,xs=[.str z]/\z.length<=sizeLine/\Q (.int z.length) H):=by
 intro pins s σ H xs us Q I r h;obtain⟨z,rfl,hz,q⟩:=h;obtain⟨u,rfl,t,rfl⟩:=YE r;have hn:=Vj;exact len_str (by lia) ⟨.int z.length,H,I.tok _,⟨_,rfl⟩,q⟩
theorem Z7k:YW X (.type "list") (fun xs H Q=>∃ p ys,xs=[.ref p]/\(SqL X.K H p ys\/SqT X.K H p ys)/\∀ l,H l=none->Q (.ref l) (upd H l (.lst ys))):=by
 intro pins s σ H xs us Q I r h;obtain⟨p,ys,rfl,hq,q⟩:=h;obtain⟨u,rfl,rx⟩:=YE r;cases rx;have fin:∀ (its:List Value),ZN ys its->ys.length<=sizeLine->∀ (h':Heap) (c':Nat),(∀ b o',s.heap.get? b=some o'->h'.get? b=some o')->
   h'.get? s.heap.objs.size=some { cls:=.type "list",dict:=none,data:=.seq its.toArray c',slots:=#[] }->EP X pins σ Q (.ref s.heap.objs.size) { s with heap:=h' }:=fun its r' hz h' c' kp e=>
  ⟨.ref s.heap.objs.size,_,I.laid (t':=s.toks) kp (Y05 _) (show Zf X.prog X.w _ h' _ (.lst ys) from ⟨hz,its,c',r',e⟩),rfl,q _ (I.hok.fresh (Y05 _))⟩
 rcases hq with hq|hq
 ·obtain⟨its,r',pl,hz⟩:=I.list hq;have hlen:=r'.length;obtain⟨o,ho,hc,n,hd⟩:=pl.isList;exact call_list_seq p (.inl rfl) ho hc hd (fun h' c' kp e=>fin its r' hz h' c' kp e) (by simp only[Y0e]<;>lia)
 ·obtain⟨its,r',pl,hz⟩:=I.tuple hq;have hlen:=r'.length;obtain⟨o,ho,hc,n,hd⟩:=pl;exact call_list_seq p (.inr rfl) ho hc hd (fun h' c' kp e=>fin its r' hz h' c' kp e) (by simp only[Y0e]<;>lia)
theorem UV:YW X (.type "tuple") (fun xs H Q=>∃ p ys,xs=[.ref p]/\((SqL X.K H p ys/\∀ l,H l=none->Q (.ref l) (upd H l (.tup ys)))\/(SqT X.K H p ys/\Q (.ref p) H))):=by
 intro pins s σ H xs us Q I r h;obtain⟨p,ys,rfl,h⟩:=h;obtain⟨u,rfl,rx⟩:=YE r;cases rx;rcases h with ⟨hq,q⟩|⟨hq,q⟩
 ·obtain⟨its,r',pl,hz⟩:=I.list hq;have hlen:=r'.length;refine call_tuple_list pl.isList (fun h' kp=>?_) (by simp only[Y0e]<;>lia);have I1:Inv X pins σ H { s with heap:=h' }:=I.kept (t':=s.toks) kp;have I2:Inv X pins σ (upd H h'.objs.size (.tup ys)) { s with heap:=h'.push { cls:=.type "tuple",data:=.seq its.toArray } }:=
   I1.laid (t':=s.toks) (fun b o e=>Y03 _ e) (Y05 _) (show Zf X.prog X.w _ _ _ (.tup ys) from ⟨⟨hz,_,Y0b _ rfl,rfl⟩,its,r',IsTup.new _ _⟩)
  exact⟨.ref h'.objs.size,_,I2,rfl,q _ (I1.hok.fresh (Y05 _))⟩
 ·obtain⟨its,r',pl,hz⟩:=I.tuple hq;exact call_tuple_same pl ⟨.ref p,H,I,rfl,q⟩
def tyV (K:Y00)(T:String)(x:V)(H:Hp):Prop:=match x with
 | .str _=>T="str"
 | .int _=>T="int"
 | .ref p=>(T="list"/\∃ xs,SqL K H p xs)\/(T="tuple"/\∃ o,K.lookup p=some o/\o.cls=.type "tuple"/\o.dict=none)\/
   (T="dict"/\((∃ kvs,H p=some (.dK kvs))\/∃ kvs,H p=some (.dT kvs)))\/(T="set"/\∃ S n,H p=some (.set S n))
 | _=>False
theorem ZgR {pins:List (Addr×Obj)}{σ:St}{H:Hp}{s:Shared}{T:String}{x:V}{v:Value}(I:Inv X pins σ H s)(r:ZM x v)(ty:tyV X.K T x H) :
  s.TypeIs v T/\∀ a,v=.ref a->∃ ob,s.heap.get? a=some ob/\ob.dict=none:=by
 cases x with
 | str z=>
  obtain⟨t,rfl⟩:=r;cases (show T="str" from ty);exact⟨typeIs_str s z t,fun _ e=>nomatch e⟩
 | int i=>
  obtain⟨t,rfl⟩:=r;cases (show T="int" from ty);exact⟨typeIs_int s i t,fun _ e=>nomatch e⟩
 | ref p=>
  cases r;rcases ty with ⟨rfl,xs,hq⟩|⟨rfl,o,hk,hc,hd⟩|⟨rfl,hk⟩|⟨rfl,S,n,hk⟩
  ·obtain⟨its,_,pl,_⟩:=I.list hq;refine⟨pl.isList.typeIs,fun a e=>?_⟩;cases e;obtain⟨o,n,e,c,hd,_⟩:=pl;exact⟨o,e,hd⟩
  ·refine⟨⟨o,I.kIn p o hk,hc⟩,fun a e=>?_⟩;cases e;exact⟨o,I.kIn _ o hk,hd⟩
  ·have z:∃ o,s.heap.get? p=some o/\o.ExactDict:=by
    rcases hk with ⟨kvs,hk⟩|⟨kvs,hk⟩
    ·obtain⟨_,_,_,_,o,_,_,e,ex,_⟩:=I.hok p _ hk;exact⟨o,e,ex⟩
    ·obtain⟨_,_,_,_,o,_,_,e,ex,_⟩:=I.hok p _ hk;exact⟨o,e,ex⟩
   obtain⟨o,e,ex⟩:=z;refine⟨⟨o,e,ex.1⟩,fun a e2=>?_⟩;cases e2;exact⟨o,e,ex.2.1⟩
  ·obtain⟨o,_,_,_,e,ex,_⟩:=I.hok p _ hk;refine⟨⟨o,e,ex.1⟩,fun a e2=>?_⟩;cases e2;exact⟨o,e,ex.2.1⟩
 | _=>exact False.elim ty
def tBM (K:Y00)(T:String)(r:V->List V->Hp->VK->Prop)(to:TE)(t:TA):TE:=fun σ H Q=>to σ H fun x H1=>tyV K T x H1/\t σ H1 fun xs H2=>r x xs H2 Q
variable {o e:Expr}{es:List Expr}{to:TE}{t:TA}{name:Str}{apos cpos:Pos}{T id:String}{r:V->List V->Hp->VK->Prop}
theorem W7 (pa:PlainAttrs T)(slot:Slot T name id)(hty:typeOf (.builtin id)=pure (.type "method_descriptor"))(hm:MtR X id r)(ho:PE X o to)(ha:PA X (e::es) t)
  (hbase:attributeBase o name X.env (eval o X.env)=eval o X.env:=by rfl)
  (hfew:((backTo cpos (starEach (e::es) X.env)).all (fun x=>!x.1)&&(backToKw cpos (keywordEach [] X.env)).all (fun x=>x.1.isSome)
   && decide ((e::es).length+([]:List Keyword).length+(if ([]:List Keyword).isEmpty then 0 else 1)<30))=true:=by rfl)
  (hline:(apos.endLine==cpos.line)=true:=by rfl) (hs:starEach (e::es) X.env=(false,eval e X.env)::starEach es X.env:=by rfl) (hplain:(backTo cpos (starEach es X.env)).any (·.1)=false:=by rfl) :
  PE X (.Call (.Attribute o name apos) (e::es) [] cpos) (tBM X.K T r to t):=by
 intro pins s σ H Q I h;refine wpAny_Call_method_late hbase hfew hline rfl (thn (ho pins s σ H _ I h) fun v s1 ⟨x,H1,I1,r1,ty,q1⟩=>?_);obtain⟨h1,h2⟩:=ZgR I1 r1 ty;refine⟨T,id,pa,slot,hty,h1,h2,?_⟩;have hA:=ha cpos pins s1 σ H1 _ I1 q1;rw[hs]at hA ⊢;refine Calls.callWith_builtin (by show (false||(backTo cpos (starEach es X.env)).any (·.1))=false;rw[hplain]<;>rfl) (Calls.evalArgs_plain ?_);exact thn hA fun us s2 ⟨vs,H2,I2,r2,q2⟩=>hm pins s2 σ H2 x vs v us Q I2 r1 r2 q2
end
def MtM (X:Cx)(id:String)(r:V->List V->Hp->VK->Prop):Prop:=
 ∀ (pins:List (Addr×Obj)) (s:Shared) (σ:St) (H:Hp) (x:V) (xs:List V) (v:Value) (us:List Value) (Q:VK),Inv X pins σ H s->ZM x v->ZN xs us->r x xs H Q->
  wpAny (model X.prog X.w) X.A (call (.builtin id) (v::us)) (EP X pins σ Q) X.xe s
theorem ZN.one:∀ {x:V} {us:List Value},ZN [x] us->∃ u,us=[u]/\ZM x u
 | _,_,.cons r .nil=>⟨_,rfl,r⟩
theorem ZN.eraseIdx:∀ {xs:List V} {us:List Value} (i:Nat),ZN xs us->ZN (xs.eraseIdx i) (us.eraseIdx i)
 | _,_,_,.nil=>.nil
 | _,_,0,.cons _ t=>t
 | _,_,i+1,.cons r t=>.cons r (ZN.eraseIdx i t)
theorem ZN.rep {xs:List V}{us:List Value}(h:ZN xs us):∀ k:Nat,ZN (Y0c k xs).flatten (Y0c k us).flatten
 | 0=>.nil
 | k+1=>by
  rw[Y2r,Y2r,Y2f,Y2f];exact ZN.append h (ZN.rep h k)
theorem Z6R {α:Type}:∀ (l:List α) (i:Nat),(l.eraseIdx i).length<=l.length
 | [],_=>Y05 _
 | _::_,0=>Y3z _
 | _::r,i+1=>Nat.succ_le_succ (Z6R r i)
theorem Z6J (its:List Value):∀ (k:Nat) (acc:List Value),
  List.foldl (fun x1 x2=>x1++x2) acc.toArray (Y0c k its.toArray)=(acc++(Y0c k its).flatten).toArray
 | 0,acc=>by simp
 | k+1,acc=>by
  have e:acc.toArray++its.toArray=(acc++its).toArray:=by simp
  have e2:(acc++its)++(Y0c k its).flatten=acc++(Y0c (k+1) its).flatten:=by
   rw[Y2r,Y2f,Y2s]
  rw[<-e2,<-Z6J its k (acc++its),<-e,Y2r,List.foldl_cons]
section
variable {X:Cx}{pins:List (Addr×Obj)}{σ:St}{H:Hp}{s:Shared}{l b:Addr}{xs ys zs:List V}
theorem Inv.lset {its its':List Value}{n:Nat}{f:Array Value->Array Value}{t':Nat}(I:Inv X pins σ H s)(hH:H l=some (.lst xs))
  (e:s.heap.get? l=some { cls:=.type "list",data:=.seq its.toArray n }) (hf:f its.toArray=its'.toArray) (hv:ZN ys its') (hz:ys.length<=sizeLine) :
  Inv X pins σ (upd H l (.lst ys)) { s with heap:=s.heap.update l (Obj.mapSeq f),toks:=t' }:=by
 have q:=PySem.IsL.update e f;rw[hf]at q;refine I.write (x:=l) (e:=l) (by rw[hH];exact trivial) (.inl rfl) (fun b' u hb hu=>(Y1h s.heap (Obj.mapSeq f) (Ne.symm hb)).trans hu) ⟨_,q⟩ ?_;exact⟨hz,its',_,hv,q⟩
theorem Inv.lnew {its:List Value}{t':Nat}(I:Inv X pins σ H s)(hv:ZN ys its)(hz:ys.length<=sizeLine) :
  Inv X pins σ (upd H s.heap.objs.size (.lst ys)) { s with heap:=s.heap.push { cls:=.type "list",data:=.seq its.toArray },toks:=t' }:=
 I.laid (fun _ _ q=>Y03 _ q) (Y05 _) ⟨hz,its,0,hv,Y0b _ rfl⟩
theorem Inv.fresh (I:Inv X pins σ H s):H s.heap.objs.size=none:=I.hok.fresh (Y05 _)
theorem Inv.lstM (I:Inv X pins σ H s)(hH:H l=some (.lst xs)):xs.length<=sizeLine/\∃ (its:List Value) (n:Nat),ZN xs its/\xs.length=its.length/\s.heap.get? l=some { cls:=.type "list",data:=.seq its.toArray n }:=by
 obtain⟨z,its,n,r,e⟩:=I.hok l _ hH;exact⟨z,its,n,r,r.length,e⟩
theorem Zck {n:Nat}(h:n<=sizeLine):Builtin.List.listTooLong n=false:=by
 unfold Builtin.List.listTooLong;exact decide_eq_false (by lia)
end
section
variable {X:Cx}
def ZeP:V->List V->Hp->VK->Prop:=fun x vs H Q=>∃ l xs y,x=.ref l/\vs=[y]/\H l=some (.lst xs)/\xs.length<sizeLine/\Q .non (upd H l (.lst (xs++[y])))
theorem Xj:MtM X "list.append" ZeP:=by
 intro pins s σ H x vs v us Q I rx rv h;obtain⟨l,xs,y,rfl,rfl,hH,hz,q⟩:=h;cases rx;obtain⟨u,rfl,ru⟩:=rv.one;obtain⟨z,its,n,r,hl,e⟩:=I.lstM hH;refine call_meets F.slot_list_append ⟨_,e,rfl⟩ F.entry_list_append (F.args_list_append_2 _ _) (PySem.list_append l its.toArray n u (by rw[Y0e];lia)) ⟨e,?_⟩;refine⟨.non,_,I.lset (its':=its++[u]) hH e (by simp) (r.append (.cons ru .nil)) ?_,rfl,q⟩;rw[Y0h,Y3l];lia
def Zeb:V->List V->Hp->VK->Prop:=fun x vs H Q=>∃ l xs i k y,x=.ref l/\vs=[.int i]/\H l=some (.lst xs)/\-(2^63)<=i/\i<2^63/\seqIndex? i xs.length=some k/\xs[k]?=some y/\Q y (upd H l (.lst (xs.eraseIdx k)))
theorem Z8M:MtM X "list.pop" Zeb:=by
 intro pins s σ H x vs v us Q I rx rv h;obtain⟨l,xs,i,k,y,rfl,rfl,hH,h1,h2,hk,hy,q⟩:=h;cases rx;obtain⟨u,rfl,ru⟩:=rv.one;obtain⟨t,rfl⟩:=ru;obtain⟨z,its,n,r,hl,e⟩:=I.lstM hH;obtain⟨w,hw,rw'⟩:=r.get hy;refine call_meets F.slot_list_pop ⟨_,e,rfl⟩ F.entry_list_pop (F.args_list_pop_2 _ _)
  (MeetsSeq.list_pop_at l its.toArray n i t k w (fitsIndex_both h1 h2) (by rw[Y0e,<-hl];exact hk) (by rw[<-Y4j];exact hw) (by rw[Y0e];lia)) ⟨e,?_⟩
 refine⟨y,_,I.lset (its':=its.eraseIdx k) hH e ?_ (r.eraseIdx k) ?_,rw',q⟩
 ·show its.toArray.eraseIdxIfInBounds k=(its.eraseIdx k).toArray;rw[List.eraseIdxIfInBounds_toArray]
 ·have:=Z6R xs k;lia
noncomputable def rRep:R2:=fun x y H Q=>∃ l k xs,x=.ref l/\y=.int k/\H l=some (.lst xs)/\-(2^63)<=k/\k<2^63/\xs.length*k.toNat<=sizeLine/\
 ∀ p,H p=none->Q (.ref p) (upd H p (.lst (Y0c k.toNat xs).flatten))
theorem Zf6 {α:Type}(xs:List α)(k:Nat):(Y0c k xs).flatten.length=k*xs.length:=by
 induction k with
 | zero=>simp
 | succ k ih=>rw[Y2r,Y2f,Y0h,ih,Nat.succ_mul,Nat.add_comm]
theorem ZiK:OpR X (binaryOp .Mult) rRep:=by
 intro pins s σ H x y v u Q I rx ry h;obtain⟨l,k,xs,rfl,rfl,hH,h1,h2,hz,q⟩:=h;cases rx;obtain⟨t,rfl⟩:=ry;obtain⟨z,its,n,r,hl,e⟩:=I.lstM hH;have hlen:its.toArray.size*k.toNat<=sizeLine:=by rw[Y0e,<-hl];exact hz
 have hcap:¬ its.toArray.size*k.toNat>(2^63-1)/8:=by
  have:(sizeLine:Nat)<=(2^63-1)/8:=by decide
  lia
 have hfit:¬ (!Builtin.List.listFitsIndex k)=true:=by
  rw[fitsIndex_both h1 h2];exact Y0i
 have hlong:¬ Builtin.List.listTooLong (its.toArray.size*k.toNat)=true:=by
  rw[Zck hlen];exact Y0i
 have hnew:List.foldl (fun x1 x2=>x1++x2) #[] (Y0c (if its.toArray.isEmpty=true then 0 else k.toNat) its.toArray)=(Y0c k.toNat its).flatten.toArray:=by
  have f0:∀ m:Nat,List.foldl (fun x1 x2=>x1++x2) #[] (Y0c m its.toArray)=(Y0c m its).flatten.toArray:=fun m=>by
   have:=Z6J its m [];rw[Y47]at this;exact this
  rw[f0];cases its with
  | nil=>simp
  | cons a r'=>rw[if_neg (by simp)]
 refine wpAny_binaryOp_repeat_ref (T:="list") (U:="int") (by decide) ⟨_,e,rfl⟩ (fun s'=>typeIs_int s' k t) noFill_list_mul F.fills_int_mul F.slot_int_rmul repeat_list F.slot_int_index.lookup
  (call_meets F.slot_int_rmul (typeIs_int s k t) F.entry_int_rmul (F.args_int_rmul_2 _ _) (int___rmul___int_list k t l its.toArray n)
   ⟨e,rfl,⟨_,e,rfl⟩,call_meets F.slot_list_mul ⟨_,e,rfl⟩ F.entry_list_mul (F.args_list_mul_2 _ _) (AutoListH.list___mul___list_int_3 l its.toArray n k t hfit hcap hlong) ⟨e,?_⟩⟩)
 rw[hnew];exact⟨.ref _,_,I.lnew (t':=s.toks) (r.rep k.toNat) (by rw[Zf6,Nat.mul_comm];exact hz),rfl,q _ I.fresh⟩
end
section
variable {prog:Program}{w:World}{A:Around}{E:Value->Shared->Prop}{s:Shared}
end
section
variable {X:Cx}
end
section
variable {κ:Type}[DecidableEq κ]
noncomputable def Y2 (kvs:List (κ×V))(k:κ):Option V:=(kvs.find? fun kv=>decide (kv.1=k)).map (·.2)
noncomputable def YS (kvs:List (κ×V))(k:κ)(v:V):List (κ×V):=
 if (kvs.any fun kv=>decide (kv.1=k))=true then kvs.map (fun kv=>if kv.1=k then (kv.1,v) else kv) else kvs++[(k,v)]
theorem Z67 {p:κ×V}{r:List (κ×V)}{k:κ}(e:p.1=k):Y2 (p::r) k=some p.2:=by simp[Y2,Y3m,e]
theorem Xh {p:κ×V}{r:List (κ×V)}{k:κ}(e:¬ p.1=k):Y2 (p::r) k=Y2 r k:=by simp[Y2,Y3m,e]
theorem Us (k:κ):∀ kvs:List (κ×V),(kvs.any fun kv=>decide (kv.1=k))=(Y2 kvs k).isSome
 | []=>rfl
 | p::r=>by
  rw[Y4q]
  by_cases e:p.1=k
  ·simp only[Z67 e,decide_eq_true e,Bool.true_or,Option.isSome_some]
  ·rw[Xh e,decide_eq_false e,Bool.false_or];exact Us k r
theorem Z3r (kvs:List (κ×V))(k:κ)(v:V):(YS kvs k v).length<=kvs.length+1:=by
 unfold YS
 split
 ·rw[Y07];lia
 ·rw[Y0h,Y0w,Y4v];lia
theorem Ul {kvs:List (κ×V)}{k:κ}(v:V)(h:Y2 kvs k=none):YS kvs k v=kvs++[(k,v)]:=by
 unfold YS;rw[Us,h];exact if_neg (by decide)
theorem Yw.isSome_eq {o:Option V}{u:Option Value}(r:Yw o u):o.isSome=u.isSome:=by
 cases o with
 | none=>cases u with
  | none=>rfl
  | some _=>exact (show False from r).elim
 | some _=>cases u with
  | none=>exact (show False from r).elim
  | some _=>rfl
theorem KV.val {kvs:List (κ×V)}{vs:List (κ×Value)}(r:KV kvs vs)(k:κ):Yw (Y2 kvs k) (valueAt vs k):=by
 unfold KV at r
 induction r with
 | nil=>exact True.intro
 | @cons p q ps qs h t ih=>
  obtain⟨h1,h2⟩:=h
  by_cases e:p.1=k
  ·have e':q.1=k:=h1.symm.trans e;have b:valueAt (q::qs) k=some q.2:=(by simp[valueAt,Y3m,e']);rw[Z67 e,b];exact h2
  ·have e':¬ q.1=k:=fun z=>e (h1.trans z);have b:valueAt (q::qs) k=valueAt qs k:=(by simp[valueAt,Y3m,e']);rw[Xh e,b];exact ih
theorem KV.any {kvs:List (κ×V)}{vs:List (κ×Value)}(r:KV kvs vs)(k:κ):(kvs.any fun kv=>decide (kv.1=k))=vs.any fun kv=>decide (kv.1=k):=by
 unfold KV at r
 induction r with
 | nil=>rfl
 | cons h t ih=>rw[Y4q,Y4q,ih,h.1]
theorem KV.repl {kvs:List (κ×V)}{vs:List (κ×Value)}(r:KV kvs vs)(k:κ){y:V}{u:Value}(ry:ZM y u) :
  KV (kvs.map fun kv=>if kv.1=k then (kv.1,y) else kv) (vs.map fun kv=>if kv.1=k then (kv.1,u) else kv):=by
 unfold KV at r ⊢
 induction r with
 | nil=>exact .nil
 | @cons p q ps qs h t ih=>
  rw[Y11,Y11];refine .cons ?_ ih;obtain⟨h1,h2⟩:=h
  by_cases e:p.1=k
  ·rw[if_pos e,if_pos (h1.symm.trans e)];exact⟨h1,ry⟩
  ·rw[if_neg e,if_neg (fun z=>e (h1.trans z))];exact⟨h1,h2⟩
theorem KV.put {kvs:List (κ×V)}{vs:List (κ×Value)}(r:KV kvs vs)(k:κ){y:V}{u:Value}(ry:ZM y u):KV (YS kvs k y) (stored vs k u):=by
 unfold YS stored;rw[r.any k]
 by_cases e:(vs.any fun kv=>decide (kv.1=k))=true
 ·rw[if_pos e,if_pos e];exact r.repl k ry
 ·rw[if_neg e,if_neg e];exact Paired.snoc r ⟨rfl,ry⟩
theorem KV.keys {kvs:List (κ×V)}{vs:List (κ×Value)}(r:KV kvs vs):kvs.map (·.1)=vs.map (·.1):=by
 unfold KV at r
 induction r with
 | nil=>rfl
 | cons h t ih=>rw[Y11,Y11,ih,h.1]
theorem KV.length {kvs:List (κ×V)}{vs:List (κ×Value)}(r:KV kvs vs):kvs.length=vs.length:=Paired.length r
end
theorem VX {P:Program}{w:World}{k:Key}{u:Value}(r:ZM (kV k) u):(YZ P w).is k u=true:=by
 cases k with
 | inl i=>obtain⟨t,e⟩:=(show ∃ t,u=Value.int i t from r);subst e;exact Z5f P w i t
 | inr x=>obtain⟨t,e⟩:=(show ∃ t,u=Value.str x t from r);subst e;exact Z5i P w x t
theorem Z7b {P:Program}{w:World}:∀ {ks:List Key} {us:List Value},ZN (ks.map kV) us->ItemsAre (YZ P w) ks us
 | [],_,r=>by rw[Y4i]at r;cases r;exact .nil
 | k::ks,_,r=>by
  rw[Y11]at r;cases r with
  | cons h t=>exact .cons (VX h) (Z7b t)
abbrev KT (H:Hp):List (List Key×V)->List (List Key×Addr×Value)->Prop:=Paired fun p q=>p.1=q.1/\H q.2.1=some (.tup (p.1.map kV))/\ZM p.2 q.2.2
theorem KT.val {H:Hp}{kvs:List (List Key×V)}{xs:List (List Key×Addr×Value)}(r:KT H kvs xs)(k:List Key):Yw (Y2 kvs k) ((atKey xs k).map (·.2)):=by
 induction r with
 | nil=>exact True.intro
 | @cons p q ps qs h t ih=>
  obtain⟨h1,_,h2⟩:=h
  by_cases e:p.1=k
  ·have e':q.1=k:=h1.symm.trans e;have b:atKey (q::qs) k=some q.2:=(by simp[atKey,Y3m,e']);rw[Z67 e,b];exact h2
  ·have e':¬ q.1=k:=fun z=>e (h1.trans z);have b:atKey (q::qs) k=atKey qs k:=(by simp[atKey,Y3m,e']);rw[Xh e,b];exact ih
theorem KT.repl {H:Hp}{kvs:List (List Key×V)}{xs:List (List Key×Addr×Value)}(r:KT H kvs xs)(k:List Key){y:V}{u:Value}(ry:ZM y u) :
  KT H (kvs.map fun kv=>if kv.1=k then (kv.1,y) else kv) (xs.map (putAt k u)):=by
 induction r with
 | nil=>exact .nil
 | @cons p q ps qs h t ih=>
  rw[Y11,Y11];refine .cons ?_ ih;obtain⟨h1,h2,h3⟩:=h;unfold putAt
  by_cases e:p.1=k
  ·rw[if_pos e,if_pos (h1.symm.trans e)];exact⟨h1,h2,ry⟩
  ·rw[if_neg e,if_neg (fun z=>e (h1.trans z))];exact⟨h1,h2,h3⟩
theorem KT.put {H:Hp}{kvs:List (List Key×V)}{xs:List (List Key×Addr×Value)}(r:KT H kvs xs)(k:List Key){b:Addr}{y:V}{u:Value}(hb:H b=some (.tup (k.map kV)))(ry:ZM y u) :
  KT H (YS kvs k y) (storedH xs k b u):=by
 have e:(kvs.any fun kv=>decide (kv.1=k))=(atKey xs k).isSome:=by
  rw[Us,(r.val k).isSome_eq,Option.isSome_map]
 unfold YS storedH;rw[e]
 by_cases q:(atKey xs k).isSome=true
 ·rw[if_pos q,if_pos q];exact r.repl k ry
 ·rw[if_neg q,if_neg q];exact Paired.snoc r ⟨rfl,hb,ry⟩
theorem KT.keeps {H H':Hp}{kvs:List (List Key×V)}{xs:List (List Key×Addr×Value)}(r:KT H kvs xs)(ht:∀ b ys,H b=some (.tup ys)->H' b=some (.tup ys)):KT H' kvs xs:=
 Paired.mapP r fun _ _ z=>⟨z.1,ht _ _ z.2.1,z.2.2⟩
section
variable {P:Program}{w:World}{H:Hp}{h:Heap}{a:Addr}
theorem ZgK {u:HO}(ok:HOk P w H h)(e:Rd H a u):Zf P w H h a u:=e.ok ok
theorem Tp {kvs:List (Key×V)}(ok:HOk P w H h)(e:Rd H a (.dK kvs)):kvs.length<=sizeLine/\(a==sysModules)=false/\∃ vs,KV kvs vs/\h.DictOf (YZ P w) a vs:=
 show Zf P w H h a (.dK kvs) from ZgK ok e
theorem ZfX {kvs:List (Key×V)}(ok:HOk P w H h)(e:H a=some (.dK kvs)):kvs.length<=sizeLine/\(a==sysModules)=false/\∃ vs,KV kvs vs/\h.DictOf (YZ P w) a vs:=Tp ok (.inl e)
theorem Sl {ks:List Key}(ok:HOk P w H h)(e:H a=some (.tup (ks.map kV))):(tupleKind (YZ P w)).is h ks a:=by
 obtain⟨_,its,r,o,h1,h2,n,h3⟩:=(show Zf P w H h a (.tup (ks.map kV)) from ok a _ e);exact⟨o,its.toArray,n,h1,h2,h3,by simpa using Z7b r⟩
theorem RE {kvs:List (List Key×V)}(ok:HOk P w H h)(e:Rd H a (.dT kvs)):kvs.length<=sizeLine/\(a==sysModules)=false/\
  ∃ xs,KT H kvs xs/\h.DictOfH (tupleKind (YZ P w)) a xs:=by
 obtain⟨z,y,xs,r,o,es,ep,h1,h2,h3,h4,h5⟩:=(show Zf P w H h a (.dT kvs) from ZgK ok e);refine⟨z,y,xs,r,o,es,ep,h1,h2,h3,h4,fun x hx=>?_,h5⟩;have all:∀ {l:List (List Key×V)} {m:List (List Key×Addr×Value)},KT H l m->∀ x∈m,(tupleKind (YZ P w)).is h x.1 x.2.1:=by
  intro l m q
  induction q with
  | nil=>intro x hx;exact nomatch hx
  | @cons p q ps qs hq t ih=>
   intro x hx;rcases Y14.mp hx with e|hx
   ·subst e;exact Sl ok (by rw[<-hq.1];exact hq.2.1)
   ·exact ih x hx
 exact all r x hx
theorem Zj5 {kvs:List (List Key×V)}(ok:HOk P w H h)(e:H a=some (.dT kvs)):kvs.length<=sizeLine/\(a==sysModules)=false/\
  ∃ xs,KT H kvs xs/\h.DictOfH (tupleKind (YZ P w)) a xs:=RE ok (.inl e)
end
def X9 (H:Hp)(a:Addr)(y:V)(r:Option V):Prop:=
 (∃ kvs k,Rd H a (.dK kvs)/\y=kV k/\r=Y2 kvs k)\/∃ kvs k b,Rd H a (.dT kvs)/\y=.ref b/\H b=some (.tup (k.map kV))/\r=Y2 kvs k
def S4 (H:Hp)(a:Addr)(y v:V)(H':Hp):Prop:=
 (∃ kvs k,H a=some (.dK kvs)/\y=kV k/\kvs.length<sizeLine/\H'=upd H a (.dK (YS kvs k v)))\/
 ∃ kvs k b,H a=some (.dT kvs)/\y=.ref b/\H b=some (.tup (k.map kV))/\kvs.length<sizeLine/\H'=upd H a (.dT (YS kvs k v))
theorem X9.k {H:Hp}{a:Addr}{kvs:List (Key×V)}{k:Key}(e:H a=some (.dK kvs)):X9 H a (kV k) (Y2 kvs k):=.inl ⟨kvs,k,.inl e,rfl,rfl⟩
theorem S4.k {H:Hp}{a:Addr}{kvs:List (Key×V)}{k:Key}{v:V}(e:H a=some (.dK kvs))(hl:kvs.length<sizeLine):S4 H a (kV k) v (upd H a (.dK (YS kvs k v))):=.inl ⟨kvs,k,e,rfl,hl,rfl⟩
section
variable {X:Cx}{pins:List (Addr×Obj)}{σ:St}{H:Hp}{s:Shared}{a:Addr}{y v:V}{u r:Value}{o:Option V}{A:Around}{E:Value->Shared->Prop}
theorem Inv.big (I:Inv X pins σ H s):sysModules<s.heap.objs.size:=by
 have h:mainGlobals<s.heap.objs.size:=(I.mod.glob.keeps I.bk).lt;exact Nat.lt_trans (by decide) h
theorem Zap {Q:Value->Shared->Prop}(hu:A.units+1<cLine)(I:Inv X pins σ H s)(g:X9 H a y (some v))(ry:ZM y u)(h:∀ w' s',Inv X pins σ H s'->ZM v w'->Q w' s') :
  wpAny (model X.prog X.w) A (getItem (.ref a) u) Q E s:=by
 rcases g with ⟨kvs,k,e,ey,l⟩|⟨kvs,k,b,e,ey,eb,l⟩
 ·subst ey;obtain⟨z,hd,vs,rel,dd⟩:=Tp I.hok e;obtain⟨w',hw,rw'⟩:=Yw.some_of (v:=v) (o:=valueAt vs k) (by rw[l];exact rel.val k);exact wpAny_getItem_of (VX ry) dd.mapOf hw (h w' _ (I.tok _) rw')
 ·subst ey;cases (show u=Value.ref b from ry);obtain⟨z,hd,xs,rel,dd⟩:=RE I.hok e;obtain⟨w',hw,rw'⟩:=Yw.some_of (v:=v) (o:=(atKey xs k).map (·.2)) (by rw[l];exact rel.val k);obtain⟨p,hp,hp2⟩:=Option.map_eq_some_iff.mp hw;refine wpAny_getItem_heap (tupleKind_room_in1 hu) (Sl I.hok eb) dd hp ?_;rw[hp2];exact h w' _ (I.tok _) rw'
theorem d_in {Q:Value->Shared->Prop}(hu:A.units+1<cLine)(I:Inv X pins σ H s)(g:X9 H a y o)(ry:ZM y u)(h:∀ s',Inv X pins σ H s'->Q (.bool o.isSome) s') :
  wpAny (model X.prog X.w) A (compareOp .In u (.ref a)) Q E s:=by
 rcases g with ⟨kvs,k,e,ey,l⟩|⟨kvs,k,b,e,ey,eb,l⟩
 ·subst ey;obtain⟨z,hd,vs,rel,dd⟩:=Tp I.hok e;refine wpAny_in_of (VX ry) hd dd.mapOf ?_;rw[<-(rel.val k).isSome_eq,<-l];exact h _ (I.tok _)
 ·subst ey;cases (show u=Value.ref b from ry);obtain⟨z,hd,xs,rel,dd⟩:=RE I.hok e;refine wpAny_in_heap (tupleKind_room_in1 hu) (Sl I.hok eb) hd dd ?_;have q:=(rel.val k).isSome_eq;rw[Option.isSome_map]at q;rw[<-q,<-l];exact h _ (I.tok _)
theorem Z7M {h':Heap}{t':Nat}{ob:HO}(I:Inv X pins σ H s)(mu:Mut (H a))(hs:Y54 a s.heap h')(he:∃ q,h'.get? a=some q)(new:Zf X.prog X.w (upd H a ob) h' a ob) :
  Inv X pins σ (upd H a ob) { s with heap:=h',toks:=t' }:=
 I.write (x:=a) (e:=a) mu (.inl rfl) (fun b q hb z=>(hs.2 b hb).trans z) he new
theorem Zew {P:Program}{w:World}{H':Hp}{h':Heap}{kvs:List (Key×V)}{vs:List (Key×Value)}(z:kvs.length<=sizeLine)(hd:(a==sysModules)=false)(rel:KV kvs vs)(dd:h'.DictOf (YZ P w) a vs) :
  Zf P w H' h' a (.dK kvs):=⟨z,hd,vs,rel,dd⟩
theorem ZaC {H':Hp}{Q:Unit->Shared->Prop}(hu:A.units+1<cLine)(I:Inv X pins σ H s)(g:S4 H a y v H')(ry:ZM y u)(rv:ZM v r)(h:∀ s',Inv X pins σ H' s'->Q () s') :
  wpAny (model X.prog X.w) A (setItem (.ref a) u r) Q E s:=by
 rcases g with ⟨kvs,k,e,ey,l,eH⟩|⟨kvs,k,b,e,ey,eb,l,eH⟩
 ·subst ey eH;obtain⟨z,hd,vs,rel,dd⟩:=ZfX I.hok e;have hz:vs.length<=sizeLine:=by rw[<-rel.length];exact z
  have hl:(YS kvs k v).length<=sizeLine:=by have:=Z3r kvs k v;lia
  refine wpAny_setItem_pairs (hsz:=hz) (VX ry) dd fun h' dd' hs=>h _ ?_;have he:∃ q,h'.get? a=some q:=let ⟨q,_,_,hq,_⟩:=dd';⟨q,hq⟩
  exact Z7M I (by rw[e];exact True.intro) hs he (Zew hl hd (rel.put k rv) dd')
 ·subst ey eH;cases (show u=Value.ref b from ry);obtain⟨z,hd,xs,rel,dd⟩:=Zj5 I.hok e;have hz:xs.length<=sizeLine:=by rw[<-Paired.length rel];exact z
  have hl:(YS kvs k v).length<=sizeLine:=by have:=Z3r kvs k v;lia
  refine wpAny_setItem_heap (hsz:=hz) (tupleKind_room_in1 hu) (Sl I.hok eb) dd fun h' dd' hs=>h _ ?_;obtain⟨q,es,ep,hq,h2,h3,h4,_,h5⟩:=dd';refine Z7M I (by rw[e];exact True.intro) hs ⟨q,hq⟩ ⟨hl,hd,_,(rel.put k eb rv).keeps fun c ys ec=>?_,q,es,ep,hq,h2,h3,h4,h5⟩;rw[ZK (ZjR ec e (fun z=>nomatch z))];exact ec
end
section
variable {X:Cx}{pins:List (Addr×Obj)}{σ:St}{H:Hp}{s:Shared}{a:Addr}{kvs:List (Key×V)}{k:Key}{u:Value}{A:Around}{E:Value->Shared->Prop}
theorem ZjE {Q:Value->Shared->Prop}(I:Inv X pins σ H s)(e:Rd H a (.dK kvs))(h:∀ t s',Inv X pins σ H s'->Q (.int kvs.length t) s'):wpAny (model X.prog X.w) A (call (.builtin "len") [.ref a]) Q E s:=by
 obtain⟨z,hd,vs,rel,dd⟩:=Tp I.hok e;refine call_len_dict hd dd (by rw[<-rel.length];rw[sizeLine_eq]at z;lia) ?_;rw[<-rel.length];exact h _ _ (I.tok _)
end
def Zkg (i:Expr):Prop:=∀ ov iv,subscripted i false ov iv=operate [ov,iv] (getItem ov iv)
theorem Z9Y {prog:Program}{w:World}{A:Around}{E:Value->Shared->Prop}{s:Shared}{env:Env}{value slice:Expr}{pos:Pos}{T id:String}{Q:Value->Shared->Prop}
  (hl:typeLookup (.type T) "__getitem__"=pure (some (.builtin id))) (hs:Zkg slice)
  (h:wpAny (model prog w) A (eval value env) (fun o s₁=>wpAny (model prog w) A (eval slice env) (fun i s₂=>s₂.TypeIs o T/\wpAny (model prog w) A (getItem o i) Q E s₂) E s₁) E s) :
  wpAny (model prog w) A (eval (.Subscript value slice pos) env) Q E s:=by
 refine Subscript_ (wpAny_mono h (fun o s₁ h₁=>wpAny_mono h₁ (fun i s₂ h₂=>?_) fun _ _ x=>x) fun _ _ x=>x);obtain⟨hT,h₂⟩:=h₂;unfold subscriptTail;refine wpAny_bind ?_;rw[getitemInPython_of_ne hT.not_modules];refine wpAny_bind (wpAny_specialOf hT hl ?_);have fin:wpAny (model prog w) A (subscripted slice false o i) (fun r s₃=>wpAny (model prog w) A (letTemporaryGo value o r >>= fun _=>pure r) Q E s₃) E s₂:=by
  rw[hs o i];exact wpAny_operating (wpAny_mono h₂ (fun r s₃ h₃=>wpAny_bind (wpAny_letTemporaryGo (wpAny_pure h₃))) fun _ _ x=>x)
 first
  | exact wpAny_pure (wpAny_bind fin)
  | exact wpAny_bind (wpAny_pure (wpAny_bind fin))
  | exact wpAny_bind fin
theorem Z7W {X:Cx}{pins:List (Addr×Obj)}{σ:St}{H:Hp}{s:Shared}{a:Addr}{y:V}{o:Option V}(I:Inv X pins σ H s)(g:X9 H a y o):s.TypeIs (.ref a) "dict":=by
 rcases g with ⟨kvs,k,e,_,_⟩|⟨kvs,k,b,e,_,_,_⟩
 ·obtain⟨_,_,vs,_,dd⟩:=Tp I.hok e;exact dd.typeIs
 ·obtain⟨_,_,xs,_,dd⟩:=RE I.hok e;exact dd.typeIs
noncomputable def Zff (td ty:TE):TE:=fun σ H Q=>td σ H fun x H1=>ty σ H1 fun y H2=>∃ a v,x=.ref a/\X9 H2 a y (some v)/\Q v H2
noncomputable def tDIn (ty td:TE):TE:=fun σ H Q=>ty σ H fun y H1=>td σ H1 fun x H2=>∃ a o,x=.ref a/\X9 H2 a y o/\Q (.bl o.isSome) H2
noncomputable def ZjL (td ty tv:TE):TS:=fun D σ H=>tv σ H fun v H1=>td σ H1 fun x H2=>ty σ H2 fun y H3=>∃ a H4,x=.ref a/\S4 H3 a y v H4/\D.nx σ H4
section
variable {X:Cx}{o i e value:Expr}{pos pos' tpos:Pos}{td ty tv:TE}
theorem Zb9 (hu:X.A.units+1<cLine)(ho:PE X o td)(hi:PE X i ty)(hs:Zkg i):PE X (.Subscript o i pos) (Zff td ty):=by
 intro pins s σ H Q I h;refine Z9Y PySem.F.slot_dict_getitem.lookup hs (thn (ho pins s σ H _ I h) fun u s1 ⟨x,H1,I1,rx,q1⟩=>thn (hi pins s1 σ H1 _ I1 q1) fun iv s2 ⟨y,H2,I2,ry,a,v,ex,g,q2⟩=>?_);subst ex;obtain rfl:u=Value.ref a:=rx;exact⟨Z7W I2 g,Zap hu I2 g ry fun w' s3 I3 rw'=>⟨v,H2,I3,rw',q2⟩⟩
theorem Zh1 (hu:X.A.units+1<cLine)(hi:PE X i ty)(ho:PE X o td):PC X .In i o (tDIn ty td):=by
 intro pins s σ H Q I h;refine thn (hi pins s σ H _ I h) fun iv s1 ⟨y,H1,I1,ry,q1⟩=>thn (ho pins s1 σ H1 _ I1 q1) fun u s2 ⟨x,H2,I2,rx,a,ov,ex,g,q2⟩=>?_;subst ex;obtain rfl:u=Value.ref a:=rx;exact d_in hu I2 g ry fun s3 I3=>⟨.bl ov.isSome,H2,I3,rfl,q2⟩
theorem ZeV (hu:X.A.units+1<cLine)(ho:PE X o td)(hi:PE X i ty)(hv:PE X value tv)(hs:swapsWith value (some (.Subscript o i pos')) pos.line X.env=pure false) :
  PS X (.Assign [.Subscript o i pos'] value pos) (ZjL td ty tv):=by
 intro pins s σ H D I h;refine wpAny_Assign_Subscript (thn (hv pins s σ H _ I h) fun r s1 ⟨v,H1,I1,rv,q1⟩=>thn (ho pins s1 σ H1 _ I1 q1) fun u s2 ⟨x,H2,I2,rx,q2⟩=>thn (hi pins s2 σ H2 _ I2 q2) fun iv s3 ⟨y,H3,I3,ry,a,H4,ex,g,q3⟩=>?_) hs;subst ex;obtain rfl:u=Value.ref a:=rx;exact ZaC hu I3 g ry rv fun s4 I4=>⟨σ,H4,I4,q3⟩
end
theorem Z8c {P:Program}{w:World}{H:Hp}(h:Heap)(hb:sysModules<h.objs.size):Zf P w H (h.push { cls:=.type "dict",data:=.dict #[] }) h.objs.size (.dK []):=
 ⟨Y12 _,beq_eq_false_iff_ne.mpr (Ne.symm (Y0j hb)),[],.nil,Heap.DictOf.new h⟩
noncomputable def ZhO:TE:=fun _ H Q=>∀ p,H p=none->Q (.ref p) (upd H p (.dK []))
section
variable {X:Cx}{pos:Pos}
theorem ZcR:PE X (.Dict [] [] pos) ZhO:=fun pins s σ H Q I h=>
 wpAny_Dict_empty ⟨.ref s.heap.objs.size,_,I.laid (a:=s.heap.objs.size) (o:=.dK []) (t':=s.toks) (fun _ _ q=>Y03 _ q) (Y05 _) (Z8c s.heap I.big),rfl,h _ (I.hok.fresh (Y05 _))⟩
end
def Z9Z:List (TE×TE)->St->Hp->(List (V×V)->Hp->Prop)->Prop
 | [],_,H,Q=>Q [] H
 | (tk,tv)::r,σ,H,Q=>tk σ H fun x H1=>tv σ H1 fun y H2=>Z9Z r σ H2 fun ps H3=>Q ((x,y)::ps) H3
abbrev VV:List (V×V)->List (Value×Value)->Prop:=Paired fun p q=>ZM p.1 q.1/\ZM p.2 q.2
def PPs (X:Cx)(pos:Pos)(keys:List (Option Expr))(values:List Expr)(trs:List (TE×TE)):Prop:=
 ∀ (pins:List (Addr×Obj)) (s:Shared) (σ:St) (H:Hp) (Q:List (V×V)->Hp->Prop),Inv X pins σ H s->Z9Z trs σ H Q->
  wpAny (model X.prog X.w) X.A (evalPairs (pairTrees keys values X.env pos)) (fun vs s'=>∃ ps H',Inv X pins σ H' s'/\VV ps vs/\Q ps H') X.xe s
theorem Zfq {X:Cx}{pos:Pos}:PPs X pos [] [] []:=fun pins s σ H Q I h=>pairTrees_nil_walk ⟨[],H,I,.nil,h⟩
theorem SF {X:Cx}{pos:Pos}{k v:Expr}{ks:List (Option Expr)}{vs:List Expr}{tk tv:TE}{trs:List (TE×TE)}(hk:PE X k tk)(hv:PE X v tv)(hr:PPs X pos ks vs trs) :
  PPs X pos (some k::ks) (v::vs) ((tk,tv)::trs):=fun pins s σ H Q I h=>
 pairTrees_cons_walk (thn (hk pins s σ H _ I h) fun u s1 ⟨x,H1,I1,rx,q1⟩=>thn (hv pins s1 σ H1 _ I1 q1) fun w2 s2 ⟨y,H2,I2,ry,q2⟩=>
  thn (hr pins s2 σ H2 _ I2 q2) fun ws s3 ⟨ps,H3,I3,rel,q3⟩=>⟨(x,y)::ps,H3,I3,.cons ⟨rx,ry⟩ rel,q3⟩)
noncomputable def U9 (kvs more:List (Key×V)):List (Key×V):=more.foldl (fun acc kv=>YS acc kv.1 kv.2) kvs
theorem KV.merge:∀ {more:List (Key×V)} {rs:List (Key×Value)} {kvs:List (Key×V)} {vs:List (Key×Value)},KV more rs->KV kvs vs->KV (U9 kvs more) (merged vs rs):=by
 intro more rs kvs vs r;unfold KV at r
 induction r generalizing kvs vs with
 | nil=>intro q;exact q
 | @cons p q ps qs h t ih=>
  intro r0;have e:KV (YS kvs p.1 p.2) (stored vs q.1 q.2):=by
   have:=r0.put p.1 h.2;rw[<-h.1];exact this
  exact ih e
theorem Z3A:∀ (more kvs:List (Key×V)),(U9 kvs more).length<=kvs.length+more.length
 | [],kvs=>by show kvs.length<=kvs.length+0;lia
 | p::r,kvs=>by
  have h1:=Z3A r (YS kvs p.1 p.2);have h2:=Z3r kvs p.1 p.2;show (U9 (YS kvs p.1 p.2) r).length<=_;rw[Y0w];lia
theorem Z5J {P:Program}{w:World}:∀ {kvs:List (Key×V)} {ws:List (Value×Value)},VV (kvs.map fun kv=>(kV kv.1,kv.2)) ws->∃ rs,Carries (YZ P w) ws rs/\KV kvs rs
 | [],_,r=>by rw[Y4i]at r;cases r;exact⟨[],True.intro,.nil⟩
 | p::kvs,_,r=>by
  rw[Y11]at r;cases r with
  | @cons a b as bs h t=>
   obtain⟨rs,c,q⟩:=Z5J (P:=P) (w:=w) t;obtain⟨b1,b2⟩:=b;exact⟨(p.1,b2)::rs,⟨VX h.1,rfl,c⟩,.cons ⟨rfl,h.2⟩ q⟩
noncomputable def Zka (trs:List (TE×TE)):TE:=fun σ H Q=>∀ p,H p=none->Z9Z trs σ (upd H p (.dK [])) fun ps H2=>H2 p=some (.dK [])/\∃ kvs:List (Key×V),ps=kvs.map (fun kv=>(kV kv.1,kv.2))/\kvs.length<=15/\Q (.ref p) (upd H2 p (.dK (U9 [] kvs)))
theorem ZeW {X:Cx}{pos:Pos}{keys:List (Option Expr)}{values:List Expr}{trs:List (TE×TE)}(h:PPs X pos keys values trs)(hall:keys.all (·.isSome)=true)(hl:keys.length=values.length)(h0:keys≠[])
  (h15:keys.length<=15):PE X (.Dict keys values pos) (Zka trs):=by
 intro pins s σ H Q I q;have hn:=I.hok.fresh (Y05 s.heap.objs.size);have I1:=I.laid (a:=s.heap.objs.size) (o:=.dK []) (h':=s.heap.push { cls:=.type "dict",data:=.dict #[] }) (t':=s.toks) (fun _ _ q=>Y03 _ q) (Y05 _) (Z8c s.heap I.big);refine wpAny_Dict_walk (knd:=YZ X.prog X.w) hall hl h0 h15 (thn (h pins _ σ _ _ I1 (q _ hn)) fun ws s2 ⟨ps,H2,I2,rel,e,kvs,ep,lk,q2⟩=>?_);subst ep;obtain⟨rs,c,rk⟩:=Z5J (P:=X.prog) (w:=X.w) rel;obtain⟨z,hd,vs0,r0,dd⟩:=ZfX I2.hok e;cases r0;refine⟨rs,c,dd,fun h' dd' hs=>⟨.ref s.heap.objs.size,_,?_,rfl,q2⟩⟩;have hz:(U9 [] kvs).length<=sizeLine:=by
  have h1:=Z3A kvs [];rw[Y4v]at h1;rw[sizeLine_eq];lia
 have he:∃ q,h'.get? s.heap.objs.size=some q:=let ⟨q,_,_,hq,_⟩:=dd';⟨q,hq⟩
 exact Z7M I2 (by rw[e];exact True.intro) hs he (Zew hz hd (rk.merge .nil) dd')
section
variable {X:Cx}{pins:List (Addr×Obj)}{σ:St}{H:Hp}{s:Shared}{a:Addr}{y d:V}{u r:Value}{o:Option V}{A:Around}{E:Value->Shared->Prop}
end
section
variable {X:Cx}{o e f:Expr}{apos cpos:Pos}{td ty tx:TE}
end
section
variable {X:Cx}{pins:List (Addr×Obj)}{σ:St}{H:Hp}{s:Shared}{a:Addr}{kvs:List (Key×V)}{A:Around}{E:Value->Shared->Prop}
end
section
variable {X:Cx}{pins:List (Addr×Obj)}{σ:St}{H:Hp}{s:Shared}{a:Addr}{y:V}{u:Value}{A:Around}{E:Value->Shared->Prop}
end
end L2
namespace Att
open PySem PySem.W PySem.Calls PyProof.Rows
theorem Z4Z {P:Params}{h:Heap}:∀ (ns:List Int) (vs:List Value),WellAll P h vs (ns.map WData.int)->IntsAre vs ns:=by
 intro ns
 induction ns with
 | nil=>
  intro vs w;rw[Y4i]at w;cases w;exact .nil
 | cons n ns ih=>
  intro vs w;rw[Y11]at w;cases w with
  | cons a b=>
   cases a;exact .cons _ _ (ih _ b)
theorem ZaK {l:OpenLaw}{n:Nat}(hn:l.most=some n){P:Params}{h:Heap}{args:List WData}{vals:List Value}
  (hpre:l.row.toRowW.claim.pre args=true) (hwl:WellAll P h vals args) :
  ∃ a vs ns,vals=[Value.ref a]/\args=[WData.list (ns.map WData.int)]/\h.get? a=some { cls:=.type "list",data:=.seq vs.toArray }/\IntsAre vs ns/\ns.length<=n:=by
 have hsh:WShape.hasAll [] args [.list .int]=true:=(pre_splitW hpre).1;have hc:l.pre.holds [] { args:=args }=true:=(pre_splitW hpre).2;obtain⟨d,r,rfl,h1,h2⟩:=hasAllW_cons hsh;obtain rfl:=hasAllW_nil h2;obtain⟨xs,rfl,h3⟩:=hasW_list h1;obtain⟨ns,rfl⟩:=items_int h3;have hlen:ns.length<=n:=by
  unfold OpenLaw.pre at hc;have h4:(WTm.not (.lt (.lit (.int (n:Int))) (.len (.arg 0)))).holds [] { args:=[.list (ns.map .int)] }=true:=by
   have h4:=(holds_andW hc).1;rw[hn]at h4;exact h4
  have h5:=condW_of h4 (w_not (w_lt w_lit (w_len_list (w_arg rfl))));rw[Y07]at h5;refine Nat.le_of_not_lt fun q=>?_;have q':(n:Int)<((ns.length:Nat):Int):=by lia
  first
   | (rw[decide_eq_true q']at h5;exact absurd h5 (by decide))
   | (simp at h5;lia)
 cases hwl with
 | cons w1 w2=>
  cases w2;cases w1 with
  | list ho hall=>exact⟨_,_,ns,rfl,rfl,ho,Z4Z ns _ hall,hlen⟩
theorem Zau (l:OpenLaw)(args:List WData):l.row.toRowW.claim.post args (.bool true) args=true:=
 postW_of (r:=l.row.toRowW) (X:=(true==true))
  (show WShape.has [] (.bool true) .bool=true by first|rfl|decide|simp[WShape.has,WShape.arms,WShape.armsAll])
  (show (WTm.eq .res (.lit (.bool true))).value [] { args:=args,res:=some (.bool true),after:=args }=some (.bool (true==true)) from w_eq_bool (w_res rfl) w_lit) rfl
theorem attach_call {l:OpenLaw}{n:Nat}{q:Program}{loose:List Str}{XP:(Str->Option Value)->Heap->Prop}{YP:World->Heap->Prop}{d:DefRec}
  (hn:l.most=some n) (hdf:d.params.defaults=[])
  (call:∀ (w:World) (s₀ s₁:Shared) (mg mb:Str->Option Value) (fa:Addr) (o:Obj) (pm cd doc:Value) (a:Addr) (vs:List Value) (ns:List Int),
   Ground q loose [] XP w s₀ mg mb s₁.heap->YP w s₁.heap->
   s₁.heap.get? fa=some o->o.data=.func (docDef d.name d.params d.body d.scope pm cd doc)->s₁.heap.CodeRec cd d.name->mg d.name=some (.ref fa)->
   s₁.heap.get? a=some { cls:=.type "list",data:=.seq vs.toArray }->IntsAre vs ns->ns.length<=n->s₁.gens=#[]->
   codeAny (model l.prog w) callerA (.call (.ref fa) ⟨[.ref a],[]⟩) (fun r s'=>r=.ok (.ret (.bool true))/\OldK s₁.heap s'.heap/\s'.os=s₁.os/\AllBare s'.gens) s₁) :
  WalkO q loose XP YP l.row.toRowW d [] (fun f vs=>PySem.call f vs):=by
 intro w s₀ s₁ mg mb G Y fa o pm cd doc dV kV ho hd hcd hD hmg hg args vals as hpre hlay hrd hwl hlo;obtain rfl:dV=.none:=Dflts.none hD hdf;obtain rfl:kV=.none:=Dflts.noKw hD;obtain⟨a,vs,ns,rfl,rfl,hobj,hints,hlen⟩:=ZaK hn hpre hwl;refine enter_call (codeAny_mono (call w s₀ s₁ mg mb fa o pm cd doc a vs ns G Y ho (fd_plain hd) hcd hmg hobj hints hlen hg) fun r s' hq=>?_);obtain⟨rfl,h2,h3,h4⟩:=hq;exact⟨.inl ⟨.bool true,.bool true,[],rfl,fun _=>rfl,.bool true,Zau l _,fun _=>⟨List.Pairwise.nil,fun _ hm=>(nomatch hm)⟩⟩,h2,h3,h4⟩
section
variable {prog:Program}{w:World}{A:Around}{E:Value->Shared->Prop}{s:Shared}{K:Frag}
end
end Att
namespace L2
open PySem PySem.Spec PyProof.Rows
theorem Z4V:∀ {vs:List Value} {ns:List Int},IntsAre vs ns->ZN (ns.map V.int) vs
 | _,_,.nil=>.nil
 | _,_,.cons n t h=>.cons ⟨t,rfl⟩ (Z4V h)
def ZjG (H:Hp):Prop:=∀ b,H b=none\/∃ o xs,H b=some (.frz o (.lst xs))
theorem ZcM {P:Program}{w:World}{K:Y00}{mg mb:Str->Option Value}{CX:CXT}{k:Nat}{fa a:Addr}{fd:FuncData}{x:Str}{sp:Sp}{s₁:Shared}{vs:List Value}{ns:List Int}
  (KX:K.In s₁.heap) (hns:s₁.heap.Ns mainGlobals mg) (hb:s₁.heap.Ns builtinsNs mb) (hbb:∀ x:Str,x≠"__name__"->mb x=bootBuiltins x) (hlim:s₁.heap.NoLimit) (hg:s₁.gens=#[])
  (ha:s₁.heap.get? a=some { cls:=.type "list",data:=.seq vs.toArray }) (hi:IntsAre vs ns) (hl:ns.length<=sizeLine) (hr:ZP k callerA)
  (F:∀ base:Heap,K.In base->base.Ns mainGlobals mg->Z4 P w K mg base CX k fa fd [x] sp) (hbind:∀ (s:Shared) (u:Value),BindsTo s fd ⟨[u],[]⟩ [(x,u)])
  (hsp:∀ H:Hp,ZjG H->SqL K H a (ns.map V.int)->sp [.ref a] H (fun v _=>v=.bl true) fun _ _ _=>False)
  (hCX:∀ H e s',CX [] H s₁ (fun _ _ _=>False) e s'->False) :
  codeAny (model P w) callerA (.call (.ref fa) ⟨[.ref a],[]⟩) (fun r s'=>r=.ok (.ret (.bool true))/\OldK s₁.heap s'.heap/\s'.os=s₁.os/\AllBare s'.gens) s₁:=by
 have rv:=Z4V hi;have lenV:=hi.length;have Th:∀ H:Hp,ZjG H->SqL K H a (ns.map V.int)->HOk P w H s₁.heap->(∀ b,H b≠none->b=a)->(H a≠none->K.lookup a=none)->
   codeAny (model P w) callerA (.call (.ref fa) ⟨[.ref a],[]⟩) (fun r s'=>r=.ok (.ret (.bool true))/\OldK s₁.heap s'.heap/\s'.os=s₁.os/\AllBare s'.gens) s₁:=by
  intro H hO hS hok hA hK;have base_of:∀ {b:Addr} {o:Obj},s₁.heap.get? b=some o->H b=none->(W6 s₁.heap H).get? b=some o:=fun e n=>Zcn e n;have noA:∀ {b:Addr} {o:Obj} {es:Array DictEntry} {ep:Nat},s₁.heap.get? b=some o->o.data=.dict es ep->H b=none:=fun {b o es ep} e d=>by
   cases q:H b with
   | none=>rfl
   | some u=>
    have e':b=a:=hA b (by rw[q];simp);subst e';rw[ha]at e;cases e;have d':Data.seq vs.toArray _=Data.dict es ep:=d;cases d'
  have nsK:∀ {b:Addr} {m:Str->Option Value},s₁.heap.Ns b m->(W6 s₁.heap H).Ns b m:=fun {b m} ⟨o,es,ep,e,d,r⟩=>⟨o,es,ep,base_of e (noA e d),d,r⟩;have hKb:K.In (W6 s₁.heap H):=fun b o e=>base_of (KX b o e) (by
   cases q:H b with
   | none=>rfl
   | some u=>
    have e':b=a:=hA b (by rw[q];simp)
    subst e'
    rw[hK (by rw[q];simp)]at e;cases e)
  have hM:Mod K mg (W6 s₁.heap H):=⟨hKb,nsK hns,⟨mb,nsK hb,hbb⟩,let ⟨mc,h1,h2⟩:=hlim;⟨mc,nsK h1,h2⟩⟩;have e0:VP P w K mg (W6 s₁.heap H) callerA [] s₁ H:=⟨rfl,hM,fun b o e=>Zfi e,Nat.le_of_eq (Zb4 _ _),trivial,fun b hb=>absurd (show b∈([]:List Addr) from hb) (by simp),hok,.of_eq hg⟩;refine codeAny_mono ((F _ hKb (nsK hns)).run callerA [] s₁ H ⟨[.ref a],[]⟩ [.ref a] [.ref a] _ _ hr e0 (hbind s₁ (.ref a)) (.cons rfl .nil) (hsp H hO hS)) fun r s' h=>?_;cases r with
  | error e=>exact (hCX H e s' h).elim
  | ok fl=>
   cases fl with
   | next=>exact False.elim h
   | brk=>exact False.elim h
   | cont=>exact False.elim h
   | ret u=>
    obtain⟨v,H',os,bare,un,hok',r',q⟩:=h;have q':v=.bl true:=q;subst q';obtain rfl:u=Value.bool true:=r';refine⟨rfl,OldK.of_keep fun b o e=>?_,os,bare⟩;cases q:H b with
    | none=>exact un.keep b o e q (by intro z;exact absurd (show b∈([]:List Addr) from z) (by simp)) (by simp)
    | some u=>
     rcases hO b with z|⟨ob,xs,z⟩
     ·rw[q]at z;cases z
     ·have z2:=un.frzs b ob _ z;obtain⟨e1,_⟩:=hok b _ z;obtain⟨e2,_⟩:=hok' b _ z2;rw[e]at e1;cases e1;exact e2
 cases hk:K.lookup a with
 | some o=>
  have e:=KX a o hk;rw[ha]at e;cases e;refine Th (fun _=>none) (fun _=>.inl rfl) (.inr ⟨_,vs.toArray,_,hk,rfl,rfl,rfl,by rw[Y0e,lenV];exact hl,by simpa using rv⟩) (fun b u z=>by have z':(none:Option HO)=some u:=z;cases z') (fun b z=>absurd rfl z) fun z=>absurd rfl z
 | none=>
  refine Th (fun b=>if b=a then some (.frz { cls:=.type "list",data:=.seq vs.toArray } (.lst (ns.map V.int))) else none) (fun b=>?_) (.inl (.inr ⟨{ cls:=.type "list",data:=.seq vs.toArray },if_pos rfl⟩)) (fun b u z=>?_) (fun b z=>?_) fun _=>hk
  ·by_cases hb:b=a
   ·exact .inr ⟨_,_,if_pos hb⟩
   ·exact .inl (if_neg hb)
  ·by_cases hb:b=a
   ·have z':=(if_pos hb).symm.trans z;cases z';subst hb;exact⟨ha,by rw[Y07];exact hl,vs,_,rv,ha⟩
   ·have z':=(if_neg hb).symm.trans z;cases z'
  ·by_cases hb:b=a
   ·exact hb
   ·exact absurd (if_neg hb) z
noncomputable abbrev KOf {K:Y00}{h:Heap}(_:K.In h):Y00:=K
theorem ZeM {l:PySem.W.OpenLaw}{n k:Nat}{q:Program}{loose:List Str}{XP:(Str->Option Value)->Heap->Prop}{YP:World->Heap->Prop}{d:DefRec}{K:Params->Y00}{CX:World->CXT}{sp:World->Sp}{x:Str}
  (hn:l.most=some n) (hn2:n<=sizeLine) (hdf:d.params.defaults=[]) (hr:ZP k callerA)
  (hY:∀ (w:World) (h:Heap),YP w h->(K w.params).In h)
  (F:∀ (w:World) (mg:Str->Option Value) (fa:Addr) (h:Heap),(K w.params).In h->h.Ns mainGlobals mg->mg d.name=some (.ref fa)->
   ∃ fd:FuncData,(∀ (s:Shared) (u:Value),BindsTo s fd ⟨[u],[]⟩ [(x,u)])/\
    ∀ base:Heap,(K w.params).In base->base.Ns mainGlobals mg->Z4 l.prog w (K w.params) mg base (CX w) k fa fd [x] (sp w))
  (hsp:∀ (w:World) (H:Hp) (a:Addr) (ns:List Int),ns.length<=n->ZjG H->SqL (K w.params) H a (ns.map V.int)->sp w [.ref a] H (fun v _=>v=.bl true) fun _ _ _=>False)
  (hCX:∀ (w:World) (H:Hp) (s:Shared) (e:Value) (s':Shared),CX w [] H s (fun _ _ _=>False) e s'->False) :
  PySem.W.WalkO q loose XP YP l.row.toRowW d [] (fun f vs=>PySem.call f vs):=by
 refine Att.attach_call hn hdf fun w s₀ s₁ mg mb fa o pm cd doc a vs ns G Y ho hd hcd hmg hobj hints hlen hg=>?_;have KX:=hY w _ Y;obtain⟨fd,hb,hF⟩:=F w mg fa _ KX G.T.g hmg;exact ZcM KX G.T.g G.T.b G.T.builtins G.T.nolimit hg hobj hints (Y0z hlen hn2) hr hF hb (fun H hO hS=>hsp w H a ns hlen hO hS) fun H e s'=>hCX w H s₁ e s'
noncomputable def Z7O (s:Stmt)(j:Nat):Stmt:=match s with
 | .ClassDef _ _ _ body _ _ _ _ _ _ _=>body.getD j (.Pass ⟨0,0,0,0⟩)
 | _=>.Pass ⟨0,0,0,0⟩
noncomputable def YC (s:Stmt):Arguments:=match s with
 | .FunctionDef _ a _ _ _ _ _ _ _ _=>a
 | _=>{ posonlyargs:=[],args:=[],vararg:=none,kwonlyargs:=[],kw_defaults:=[],kwarg:=none,defaults:=[] }
noncomputable def YO (s:Stmt):List Stmt:=match s with
 | .FunctionDef _ _ b _ _ _ _ _ _ _=>b
 | _=>[]
noncomputable def ZV (s:Stmt):Scope:=match s with
 | .FunctionDef _ _ _ _ _ _ sc _ _ _=>sc
 | _=>{ kind:=.function,names:=[],isGenerator:=false,isCoroutine:=false }
noncomputable abbrev CX0:CXT:=fun _ _ _ _ _ _=>False
noncomputable abbrev E0:XK:=fun _ _ _=>False
theorem ZQ {X:Cx}:Xb CX0 X E0:=fun _ _ _ _ _ _ _ h=>h.elim
structure Fun (K:Y00)(x qual:Str)(st:Stmt)(f:Addr)(fd:FuncData):Prop where
 ex:∃ (oc:Value) (od:Option Addr) (kV doc pm:Value) (an:Option Addr) (cdv ct:Value) (osl:Array (Option Value)),
  fd=Y1m x qual (YC st) (YO st) (ZV st) .none kV doc pm an cdv ct/\K.lookup f=some ⟨oc,od,.func fd,osl⟩/\Y30 K cdv qual=true
 kp:Y1p K (.ref f)=true
section
variable {P:Program}{w:World}{K:Y00}{mg:Str->Option Value}{base:Heap}
theorem Fun.ok {x qual:Str}{st:Stmt}{f:Addr}{fd:FuncData}{N ps:List Str}{k:Nat}{sp:Sp}(F:Fun K x qual st f fd)(S:ZL N ps (ZV st))(len:∀ vs H Q E,sp vs H Q E->vs.length=ps.length)
  (hbody:∀ (cdv:Value) (A:Around) (outer:List Env) (s:Shared) (H:Hp) (vs:List V) (Q:VK) (E:XK),ZP k (A.deeper (envOfC qual (ZV st) s.heap.objs.size f cdv))->sp vs H Q E->
   ∃ t,PSs (Xo CX0 P w K mg base N qual (ZV st) f cdv A outer s H E).nox (YO st) t/\t { nx:=fun _ H'=>Q .non H',rt:=Q } (start N vs) H):Z4 P w K mg base CX0 (k+1) f fd ps sp:=by
 obtain⟨oc,od,kV,doc,pm,an,cdv,ct,osl,rfl,lk,hcd⟩:=F.ex;refine ZfY lk hcd S len fun A outer s H vs Q E hr hsp=>?_;obtain⟨t,h,q⟩:=hbody cdv A outer s H vs Q E hr hsp;exact⟨t,h.nox,q⟩
theorem Fun.binds {x qual:Str}{st:Stmt}{f:Addr}{fd:FuncData}{ps:List Str}(F:Fun K x qual st f fd)
  (h:∀ (kV doc pm:Value) (an:Option Addr) (cdv ct:Value) (us:List Value),us.length=ps.length->bindArgs (Y1m x qual (YC st) (YO st) (ZV st) .none kV doc pm an cdv ct) ⟨us,[]⟩=pure (ps.zip us)):YU K fd ps []:=by
 obtain⟨oc,od,kV,doc,pm,an,cdv,ct,osl,rfl,lk,hcd⟩:=F.ex;exact .all (h kV doc pm an cdv ct)
theorem ZdZ {x qual:Str}{st:Stmt}{f:Addr}{oc:Value}{od an:Option Addr}{osl:Array (Option Value)}{kV doc pm cdv ct:Value}(l:K.lookup f=some ⟨oc,od,.func (Y1m x qual (YC st) (YO st) (ZV st) .none kV doc pm an cdv ct),osl⟩)
  (c:Y30 K cdv qual=true) (k:Y1p K (.ref f)=true):Fun K x qual st f (Y1m x qual (YC st) (YO st) (ZV st) .none kV doc pm an cdv ct):=⟨⟨oc,od,kV,doc,pm,an,cdv,ct,osl,rfl,l,c⟩,k⟩
end
theorem RR {A:Around}{k:Nat}(hr:ZP k A):A.units+1<cLine:=Y1s (Y3d (by decide:1<=64) _) hr.units
theorem YR {n:Nat}(h:n<=1000):n<sizeLine:=Y1s h (by decide)
section
variable {X:Cx}
theorem pv (i:Nat){x:Str}{pos:Pos}(hN:X.N[i]?=some x:=by rfl)(hv:Vis X.env.scope x:=by first|exact Or.inl rfl|exact Or.inr (Or.inl rfl)|exact Or.inr (Or.inr rfl))(hd:(x==("__debug__":Str))=false:=by decide)
  (hcd:(x==("__classdict__":Str))=false:=by decide):PE X (.Name x pos) (ZU i):=ZgO hN hv hd hcd
end
theorem ZJ {A B:Prop}(h:B):if false=true then A else B:=by
 rw[if_neg Y0i];exact h
theorem Zz {A B:Prop}(h:A):if true=true then A else B:=by
 rw[if_pos rfl];exact h
theorem Yv {c A B:Prop}[Decidable c](h1:c->A)(h2:¬ c->B):if c then A else B:=by
 by_cases h:c
 ·rw[if_pos h];exact h1 h
 ·rw[if_neg h];exact h2 h
theorem Ziv {c A B:Prop}[Decidable c](hc:c)(h:B):if (!decide c)=true then A else B:=by
 rw[decide_eq_true hc];exact ZJ h
def Z5 (H H':Hp):Prop:=∀ b o,H b=some o->H' b=some o
theorem Z5.refl (H:Hp):Z5 H H:=fun _ _ h=>h
theorem Z5.trans {H H1 H2:Hp}(a:Z5 H H1)(b:Z5 H1 H2):Z5 H H2:=fun c o h=>b c o (a c o h)
theorem Z5.free {H H':Hp}(e:Z5 H H'){l:Addr}(h:H' l=Option.none):H l=Option.none:=by
 cases q:H l with
 | none=>rfl
 | some o=>
  rw[e l o q]at h;cases h
theorem Z5.seq {K:Y00}{H H':Hp}{a:Addr}{xs:List V}(e:Z5 H H')(h:SqL K H a xs):SqL K H' a xs:=by
 rcases h with (h|⟨o,h⟩)|h
 ·exact .inl (.inl (e _ _ h))
 ·exact .inl (.inr ⟨o,e _ _ h⟩)
 ·exact .inr h
section
variable {X:Cx}
theorem ZbV:YW X (.builtin "len") (fun xs H Q=>∃ a kvs,xs=[V.ref a]/\H a=some (.dK kvs)/\Q (.int kvs.length) H):=by
 intro pins s σ H xs us Q I r h;obtain⟨a,kvs,rfl,ha,q⟩:=h;obtain⟨u,rfl,ru⟩:=YE r;cases ru;exact ZjE I (.inl ha) fun t s' I'=>⟨.int kvs.length,H,I',⟨t,rfl⟩,q⟩
end
section
variable {κ:Type}[DecidableEq κ]
theorem ZfR {kvs:List (κ×V)}{k:κ}{v:V}(h:Y2 kvs k=some v):k∈kvs.map (·.1):=by
 have q:(kvs.any fun kv=>decide (kv.1=k))=true:=by
  rw[Us,h]
  all_goals rfl
 obtain⟨p,hp,e⟩:=Y1e.mp q;exact Y0g.mpr ⟨p,hp,of_decide_eq_true e⟩
end
theorem Z6M {prog:Program}{w:World}{A:Around}{R:Result->Shared->Prop}{s:Shared}{elt target iter:Expr}{scope:Scope}{pos:Pos}{it acc:Value}{env:Env}(I:Nat->Shared->Prop)
  (turn:∀ n s,I n s->wpAny (model prog w) A (pyNext it) (fun r s₁=>match r with
   | none=>R (.ok .next) s₁
   | some v=>wpAny (model prog w) A (letOwnedTupleGo target it v) (fun _ s₀=>wpAny (model prog w) A (assign target env v) (fun _ s₂=>
     wpAny (model prog w) A (eval elt env) (fun x s₄=>
       wpAny (model prog w) A (call (.builtin "list.append") [acc,x]) (fun _ s₅=>∃ m,m<n/\I m s₅) (notedBy (model prog w) A env fun e s'=>R (.error e) s') s₄) (notedBy (model prog w) A env fun e s'=>R (.error e) s') s₂)
     (notedBy (model prog w) A env fun e s'=>R (.error e) s') s₀) (notedBy (model prog w) A env fun e s'=>R (.error e) s') s₁) (notedBy (model prog w) A env fun e s'=>R (.error e) s') s)
  (n:Nat) (h:I n s) :
  codeAny (model prog w) A (.compLoop (.ListComp elt [⟨target,iter,[],0⟩] scope pos) 0 it acc env) R s:=by
 refine codeAny_loop rfl I (fun n s hI=>?_) n h;show wpAny _ A ((compTurn (.ListComp elt [⟨target,iter,[],0⟩] scope pos) 0 it acc env).onRaise (fun x=>do noteFrame x env;theTreesLotGoes x)) _ _ s;refine wpAny_noted ?_;rw[compTurn_list];refine wpAny_bind (wpAny_standAt (wpAny_bind (wpAny_mono (turn n s hI) (fun r s₁ h₁=>?_) fun _ _ h'=>h')));cases r with
 | none=>exact wpAny_pure h₁
 | some v=>
  refine wpAny_bind (wpAny_mono h₁ (fun _ s₀ h₀=>?_) fun _ _ h'=>h');refine wpAny_bind (wpAny_mono h₀ (fun _ s₂ h₂=>wpAny_bind (wpAny_tests_nil ?_)) fun _ _ h'=>h');exact wpAny_bind (wpAny_bind (wpAny_mono h₂ (fun x s₄ h₄=>wpAny_bind (wpAny_mono h₄ (fun _ s₅ h₅=>wpAny_pure (wpAny_pure ⟨rfl,h₅⟩)) fun _ _ h'=>h')) fun _ _ h'=>h'))
theorem VJ {env:Env}:∀ (names:List (Str×NameKind)) (cs:List (Str×Addr)),(∀ y∈names,y.2=.free->∃ c,env.cells.lookup y.1=some c)->(∀ x c,cs.lookup x=some c->env.cells.lookup x=some c)->
  ∃ cl,(forIn names cs (fun (x:Str×NameKind) (r:List (Str×Addr))=>if (x.2==NameKind.free)=true then do let c <-cellOf env x.1;pure (ForInStep.yield ((x.1,c)::r)) else pure (ForInStep.yield r)):Sem (List (Str×Addr)))=pure cl/\
   (∀ x c,cl.lookup x=some c->env.cells.lookup x=some c)/\(∀ x c,cs.lookup x=some c->cl.lookup x=some c)/\∀ y∈names,y.2=.free->∃ c,cl.lookup y.1=some c
 | [],cs,_,hcs=>⟨cs,by simp,hcs,fun _ _ h=>h,fun y hy=>nomatch hy⟩
 | (n,k)::r,cs,h,hcs=>by
  by_cases hk:k=.free
  ·subst hk;obtain⟨c,hc⟩:=h (n,.free) Y29 rfl;have hcs':∀ x d,((n,c)::cs).lookup x=some d->env.cells.lookup x=some d:=fun x d e=>by
    rw[Y23]at e
    split at e
    ·rename_i q;have q':x=n:=by simpa using q
     cases e;rw[q'];exact hc
    ·exact hcs x d e
   obtain⟨cl,e,h1,h2,h3⟩:=VJ r ((n,c)::cs) (fun y hy=>h y (Y0y _ hy)) hcs';refine⟨cl,?_,h1,fun x d hd=>?_,fun y hy hy2=>?_⟩
   ·rw[List.forIn_cons];simp only[cellOf,hc,beq_self_eq_true,if_true,pure_bind];exact e
   ·refine h2 x d ?_;rw[Y23]
    split
    ·rename_i q;have q':x=n:=by simpa using q
     have:=hcs x d hd;rw[q',hc]at this;exact this
    ·exact hd
   ·rcases Y14.mp hy with rfl|hy
    ·exact⟨c,h2 n c (by simp[Y23])⟩
    ·exact h3 y hy hy2
  ·obtain⟨cl,e,h1,h2,h3⟩:=VJ r cs (fun y hy=>h y (Y0y _ hy)) hcs;refine⟨cl,?_,h1,h2,fun y hy hy2=>?_⟩
   ·have hk':(k==NameKind.free)=false:=by simpa using hk
    rw[List.forIn_cons];simp only[hk',Bool.false_eq_true,if_false,pure_bind];exact e
   ·rcases Y14.mp hy with rfl|hy
    ·exact absurd hy2 hk
    ·exact h3 y hy hy2
theorem SY (scope:Scope)(env:Env):closureFor scope env=(forIn scope.names [] (fun (x:Str×NameKind) (r:List (Str×Addr))=>if (x.2==NameKind.free)=true then do let c <-cellOf env x.1;pure (ForInStep.yield ((x.1,c)::r)) else pure (ForInStep.yield r)):Sem (List (Str×Addr))):=by
 unfold closureFor;simp
theorem Z1P {env:Env}(hk:env.scope.kind=.function):∀ {names:List (Str×NameKind)} {x:Str},names.lookup x=some .free->env.kindOf x=some .cell->
  (names.map fun (n,k)=>if (k==NameKind.free&&env.scope.kind == .function&&env.kindOf n==some .cell) then (n,NameKind.cell) else (n,k)).lookup x=some .cell
 | [],_,h,_=>by simp at h
 | (n,k)::r,x,h,hc=>by
  have ih:=@Z1P env hk r x;show Y3y x ((if (k==NameKind.free&&env.scope.kind == .function&&env.kindOf n==some .cell)=true then (n,NameKind.cell) else (n,k))::_)=_;cases hx:x==n with
  | true=>
   simp only[Y23,hx]at h;cases h;have e:x=n:=by simpa using hx
   subst e;simp[Y23,hk,hc]
  | false=>
   simp only[Y23,hx]at h
   by_cases hc':(k==NameKind.free&&env.scope.kind == .function&&env.kindOf n==some .cell)=true
   ·rw[if_pos hc'];simp only[Y23,hx];exact ih h hc
   ·rw[if_neg hc'];simp only[Y23,hx];exact ih h hc
theorem Z5c {env:Env}:∀ {names:List (Str×NameKind)} {x:Str},(∀ y∈names,y.2≠.cell)->
  ((names.map fun (n,k)=>if (k==NameKind.free&&env.scope.kind == .function&&env.kindOf n==some .cell) then (n,NameKind.cell) else (n,k)).lookup x=some .cell\/
  (names.map fun (n,k)=>if (k==NameKind.free&&env.scope.kind == .function&&env.kindOf n==some .cell) then (n,NameKind.cell) else (n,k)).lookup x=some .free)->(x,NameKind.free)∈names
 | [],_,_,h=>by simp at h
 | (n,k)::r,x,hn,h=>by
  have ih:=@Z5c env r x fun y hy=>hn y (Y0y _ hy);have hk:k≠.cell:=hn (n,k) Y29;cases hx:x==n with
  | true=>
   have e:x=n:=by simpa using hx
   subst e
   by_cases hf:k=.free
   ·subst hf;exact Y29
   ·have hf':¬ (k==NameKind.free&&env.scope.kind == .function&&env.kindOf x==some .cell)=true:=(by simp[hf]);simp only[Y11,if_neg hf',Y23,beq_self_eq_true]at h;rcases h with h|h
    ·exact absurd (Option.some.inj h) hk
    ·exact absurd (Option.some.inj h) hf
  | false=>
   refine Y0y _ (ih ?_)
   by_cases hc':(k==NameKind.free&&env.scope.kind == .function&&env.kindOf n==some .cell)=true
   ·simpa only [Y11,if_pos hc',Y23,hx] using h
   ·simpa only [Y11,if_neg hc',Y23,hx] using h
noncomputable def blk (X:Cx)(sc:Scope)(cl:List (Str×Addr))(C:Addr)(N':List Str)(s₂:Shared)(H₁:Hp)(fp:List Addr)(pins:List (Addr×Obj)):Cx where
 prog:=X.prog
 w:=X.w
 K:=X.K
 mg:=X.mg
 base:=X.base
 A:=X.A
 N:=N'
 s₀:=s₂
 H₀:=H₁
 env:=compEnvC sc cl C X.env
 outer:=X.stack
 stack:=X.stack
 ex:=fp
 fn:=fun _=>false
 calm:=X.calm
 pn:=X.pn++pins
 xe:=fun _ _=>False
structure T4 (N:List Str)(names:List (Str×NameKind))(N':List Str)(k:Nat)(pull:List Nat)(sc:Scope):Prop where
 kind:sc.kind=.function
 nocell:∀ y∈sc.names,y.2≠.cell
 loc:∀ y∈sc.names,y.2=.local->sc.names.lookup y.1=some .local
 len:N'.length=k+pull.length
 cap:∀ i∈Y02 pull.length,N'[k+i]?=N[pull.getD i 0]?/\∀ x∈(N'[k+i]?).toList,sc.names.lookup x=some .free
 fre:∀ y∈sc.names,y.2=.free->names.lookup y.1=some .cell
noncomputable def bst (k:Nat)(pull:List Nat)(σ:St):St:=Y0c k none++pull.map fun j=>σ.getD j none
theorem HOk.but {P:Program}{w:World}{H:Hp}{h h':Heap}{C:Addr}(x:HOk P w H h)(hn:H C=none)(k:∀ b o,b≠C->h.get? b=some o->h'.get? b=some o):HOk P w H h':=fun b u e=>by
 have nit:∀ b u,H b=some u->b≠C:=fun b u e z=>by rw[z,hn]at e;cases e
 refine (x b u e).stay (fun c v hc q=>k c v ?_ q) (fun _ q=>q) fun _ _ q=>q;rcases hc with z|z
 ·rw[z];exact nit b u e
 ·exact nit c _ z
noncomputable def Yq (wi:TI)(k:Nat)(pull:List Nat)(g:TG)(te:TE):TE:=fun σ H Q=>wi σ H fun J H1=>∀ d,H1 d=none->
 ∃ W:Nat->Nat->St->Hp->Prop,(∃ m,W 0 m (bst k pull σ) (upd H1 d (.lst [])))/\∀ i m σ' H',W i m σ' H'->
  (J.stop i H'/\Q (.ref d) H')\/
  (J.go i H'/\∀ x H2,J.yld i H' x H2->g x σ' H2 fun σ3 H3=>te σ3 H3 fun y H4=>∃ xs,H4 d=some (.lst xs)/\xs.length<sizeLine/\∃ m',m'<m/\W (i+1) m' σ3 (upd H4 d (.lst (xs++[y]))))
section
variable {X:Cx}{elt tg iter:Expr}{sc:Scope}{pos:Pos}{wi:TI}{g:TG}{te:TE}{N:List Str}{names:List (Str×NameKind)}{N':List Str}{k:Nat}{pull:List Nat}
theorem SW {pins:List (Addr×Obj)}{σ:St}{H1:Hp}{s2:Shared}{fp:List Addr}{cl:List (Str×Addr)}{h₁:Heap}{tk:Nat}(B:T4 N names N' k pull sc)(hN:X.N=N)(hnm:X.env.scope.names=names)
  (I2:Inv X pins σ H1 s2) (f2:∀ b∈fp,Yp X pins H1 b) (ho:∀ b∈fp,∃ o,s2.heap.get? b=some o)
  (c1:∀ x c,cl.lookup x=some c->X.env.cells.lookup x=some c) (c3:∀ y∈sc.names,y.2=.free->∃ c,cl.lookup y.1=some c)
  (hns:h₁.Ns (s2.heap.objs.size+1) (fun x=>([]:List (Str×Value)).reverse.lookup x))
  (hk:∀ b o,s2.heap.get? b=some o->h₁.get? b=some o) (hd:h₁.get? s2.heap.objs.size=some { cls:=.type "list",data:=.seq ([]:List Value).toArray }) :
  Inv (blk X sc cl (s2.heap.objs.size+1) N' s2 H1 fp pins) [] (bst k pull σ) (upd H1 s2.heap.objs.size (.lst [])) { s2 with heap:=h₁,toks:=tk }:=by
 have hfd:H1 s2.heap.objs.size=none:=I2.hok.fresh (Y05 _);have hfC:(upd H1 s2.heap.objs.size (.lst [])) (s2.heap.objs.size+1)=none:=by
  rw[ZK (Nat.succ_ne_self _)];exact I2.hok.fresh (Y3z _)
 have hlook:∀ x,(compEnvC sc cl (s2.heap.objs.size+1) X.env).kindOf x=some .cell\/(compEnvC sc cl (s2.heap.objs.size+1) X.env).kindOf x=some .free->(x,NameKind.free)∈sc.names:=fun x hx=>
  Z5c (env:=X.env) B.nocell hx
 have cellKind:∀ y∈sc.names,y.2=.free->X.env.kindOf y.1=some .cell:=fun y hy hf=>by
  show X.env.scope.names.lookup y.1=_;rw[hnm];exact B.fre y hy hf
 refine⟨⟨I2.ok.mod,B.kind,I2.ok.glob,I2.ok.blt,Y3z _,fun x y c e1 e2=>I2.ok.inj x y c (c1 x c e1) (c1 y c e2),fun x hx=>c3 _ (hlook x hx) rfl,(fun x c h _=>nomatch h),I2.ok.hd,I2.ok.frames,.inl rfl,fun b hb=>⟨?_,fun x c e=>?_⟩,I2.bs,Y0z I2.ok.bsz I2.sz,fun b o e hb=>?_,fun b hb hs=>?_,I2.stack,I2.stkFree⟩,
  rfl,I2.bare,Un.laid hk (Y05 _) hfd,⟨_,hns,fun i x v e1 e2 e3=>?_⟩,fun x c e=>?_,hfC,fun x c e=>?_,fun p hp=>?_,I2.hok.laid hk (Y05 _) ⟨Y12 _,[],0,.nil,hd⟩,?_⟩
 ·obtain⟨o,e⟩:=ho b hb;exact Y0j (Y1f (Y09 e))
 ·exact (f2 b hb).2.2.2.2.1 x c (c1 x c e)
 ·rcases (f2 b hb).2.2.2.1 with z|z
  ·exact I2.ok.noex b o e z
  ·exact absurd (Y0o (Y09 e) (Y0z I2.ok.bsz z)) (Y2d _)
 ·rcases Y14.mp (I2.stkSub b hs) with z|z
  ·exact (f2 b hb).2.1 z
  ·exact (f2 b hb).2.2.1 z
 ·
  have e2:(bst k pull σ)[i]?=some (some v):=e2;unfold bst at e2
  by_cases hi:i<k
  ·rw[Y38 (by simpa using hi),Y46,if_pos hi]at e2;cases e2
  ·rw[Y50 (by simpa using hi),Y36,Y0l]at e2;cases ej:pull[i-k]? with
   | none=>rw[ej]at e2;cases e2
   | some j=>
    rw[ej]at e2;have e2:σ.getD j none=some v:=Option.some.inj e2;have hj:σ[j]?=some (some v):=by
     rw[Y04]at e2;cases q:σ[j]? with
     | none=>rw[q]at e2;cases e2
     | some z=>rw[q]at e2;simpa using e2
    have hil:i-k<pull.length:=(Y08.mp ej).1;obtain⟨q1,q2⟩:=B.cap (i-k) (Y06.mpr hil);have ei:k+(i-k)=i:=(by omega);have ep:pull.getD (i-k) 0=j:=(by rw[Y04,ej];rfl);have e1:N'[i]?=some x:=e1;rw[ei,ep,e1]at q1;rw[ei,e1]at q2;have hf:=q2 x (by simp);have hmem:=PySem.mem_of_lookup hf;have hc:=cellKind (x,.free) hmem rfl;obtain⟨m,hn,hl⟩:=I2.loc;obtain⟨u,r,l⟩:=hl j x v (by rw[hN];exact q1.symm) hj (.inr (.inl hc));refine⟨u,r,.inr ⟨.inl (Z1P I2.ok.kind hf hc),?_⟩⟩;rcases l with ⟨hloc,_⟩|⟨_,c,ec,hcell⟩
    ·rw[hc]at hloc;cases hloc
    ·obtain⟨c',ec'⟩:=c3 (x,.free) hmem rfl;have:=c1 x c' ec';rw[ec]at this;cases this;obtain⟨o,h1,h2⟩:=hcell;exact⟨c,ec',o,hk c o h1,h2⟩
 ·obtain⟨v,o,h1,h2⟩:=I2.cell x c (c1 x c e);exact⟨v,o,hk c o h1,h2⟩
 ·obtain⟨v,o,h1,h2⟩:=I2.cell x c (c1 x c e);rw[ZK (Y0j (Y09 h1))];exact I2.freeC x c (c1 x c e)
 ·have hp:p∈X.pn++pins:=by simpa [blk] using hp
  obtain⟨a1,a2,a3,a4,a5⟩:=I2.pin p hp;have hlt:=Y09 a1;refine⟨hk _ _ a1,by rw[ZK (Y0j hlt)];exact a2,?_,fun hs=>?_,a5⟩
  ·exact Y0j (Y1f hlt)
  ·rcases Y14.mp (I2.stkSub p.1 hs) with z|z
   ·exact a3 z
   ·exact a4 z
 ·show (bst k pull σ).length=N'.length;unfold bst;rw[Y0h,Y36,Y07,B.len]
theorem Ym (hc:X.calm=true)(B:T4 N names N' k pull sc)(hN:X.N=N)(hnm:X.env.scope.names=names)(hi:PI X tg iter wi)
  (hg:∀ cl C s₂ H₁ fp pins,PG (blk X sc cl C N' s₂ H₁ fp pins) tg g) (he:∀ cl C s₂ H₁ fp pins,PE (blk X sc cl C N' s₂ H₁ fp pins) elt te)
  (hs:∀ x,foldedSetIterable iter X.env x=pure x:=by intro _;rfl):PE X (.ListComp elt [⟨tg,iter,[],0⟩] sc pos) (Yq wi k pull g te):=by
 intro pins s σ H Q I h;rw[eval_ListComp];have hcells:∀ y∈sc.names,y.2=.free->∃ c,X.env.cells.lookup y.1=some c:=fun y hy hf=>I.ok.has y.1 (.inl (by
  show X.env.scope.names.lookup y.1=_
  rw[hnm];exact B.fre y hy hf))
 obtain⟨cl,ecl,c1,_,c3⟩:=VJ (env:=X.env) sc.names [] hcells (fun x c e=>nomatch e);rw[<-SY]at ecl;refine wpAny_comprehension_free (use:=none) rfl hs ecl B.kind B.loc (thn (hi pins s σ H _ I h) fun xv s1 h1=>thn h1 fun itv s2 h2=>?_);obtain⟨it,fp,tn,J,H1,e,I2,T,st2,f2,hW⟩:=h2;subst e;have ho:∀ b∈fp,∃ o,s2.heap.get? b=some o:=fun b hb=>let ⟨o,e,_⟩:=T.obj _ _ st2 b hb;⟨o,e⟩
 refine wpAny_newObj_type (wpAny_newFunctionEnv B.nocell (by intro y hy;simp at hy) (fun h₁ hns₁ hsb₁=>?_) B.kind);dsimp only at hns₁ hsb₁ ⊢;rw[Y21]at hns₁ hsb₁ ⊢;have old:∀ b o,s2.heap.get? b=some o->h₁.get? b=some o:=fun b o e=>by
  have hlt:=Y09 e;exact (hsb₁.2 b (Y0j (Y1f hlt))).trans (Y03 _ (Y03 _ e))
 have hd:h₁.get? s2.heap.objs.size=some { cls:=.type "list",data:=.seq ([]:List Value).toArray }:=
  (hsb₁.2 _ (Y0j (Y2l _))).trans (Y03 _ (Y0b _ rfl))
 have I4:=SW (tk:=s2.toks+([]:List (Str×Value)).length) B hN hnm I2 f2 ho c1 c3 hns₁ old hd;have st4:tn 0 h₁:=T.keep _ _ _ st2 fun b _ o e=>old b o e;obtain⟨W,⟨m0,w0⟩,turn⟩:=hW s2.heap.objs.size (I2.hok.fresh (Y05 _));have fr4:∀ b∈fp,(upd H1 s2.heap.objs.size (.lst [])) b=none:=fun b hb=>by
  obtain⟨o,e⟩:=ho b hb;rw[ZK (Y0j (Y09 e))];exact (f2 b hb).1
 have stat:∀ {H':Hp},(∀ b∈fp,H' b=none)->∀ b∈fp,Yp (blk X sc cl (s2.heap.objs.size+1) N' s2 H1 fp pins) [] H' b:=fun hn b hb=>by
  refine⟨hn b hb,(I4.ok.exf b hb).1,I4.ok.exfs b hb,.inl hb,(I4.ok.exf b hb).2,fun p hp=>?_⟩;have hp:p∈X.pn++pins:=by simpa [blk] using hp
  exact (f2 b hb).2.2.2.2.2 p hp
 have loop:∀ s₃:Shared,s₃={ s2 with heap:=h₁,toks:=s2.toks+([]:List (Str×Value)).length }->
   codeAny (model X.prog X.w) X.A (.compLoop (.ListComp elt [⟨tg,iter,[],0⟩] sc pos) 0 (.ref it) (.ref s2.heap.objs.size) (compEnvC sc cl (s2.heap.objs.size+1) X.env))
    (compPost (model X.prog X.w) X.A X.xe none (EP X pins σ Q) (.ref s2.heap.objs.size) (s2.heap.objs.size+1)) s₃:=by
  rintro s₃ rfl;refine Z6M (fun n s'=>∃ i σ' H',Inv (blk X sc cl (s2.heap.objs.size+1) N' s2 H1 fp pins) [] σ' H' s'/\tn i s'.heap/\(∀ b∈fp,H' b=none)/\W i n σ' H') ?_ m0 ⟨0,_,_,I4,st4,fr4,w0⟩;rintro n s3 ⟨i,σ3,H3,I3,st3,fr3,w3⟩;rcases turn i n σ3 H3 w3 with ⟨stop,q⟩|⟨go,step⟩
  ·refine thn (T.done (blk X sc cl (s2.heap.objs.size+1) N' s2 H1 fp pins) rfl rfl rfl hc i [] s3 σ3 H3 _ I3 (stat fr3) st3 stop) fun r s4 ⟨hr,I5⟩=>?_;subst hr;obtain⟨m,hn,_⟩:=id I5.loc;refine⟨m,hn,fun h' hs'=>?_⟩;have ne:∀ b o,s2.heap.get? b=some o->b≠s2.heap.objs.size+1:=fun b o e=>Y0j (Y1f (Y09 e));have U:Un (frs X.stack) fp H1 H3 s2.heap s4.heap:=I5.base;have U':Un (frs X.stack) fp H1 H3 s2.heap h':=⟨fun b o e n hb hx=>(hs'.2 b (ne b o e)).trans (U.keep b o e n hb hx),fun b o e n hb hx=>by
     obtain⟨sl,z⟩:=U.slot b o e n hb hx
     exact⟨sl,(hs'.2 b (ne b o e)).trans z⟩,U.free,fun b o e hx=>by
     obtain⟨o',z⟩:=U.there b o e hx
     exact⟨o',(hs'.2 b (ne b o e)).trans z⟩,U.tups,U.frzs,U.tbls⟩
   have hok:HOk X.prog X.w H3 h':=HOk.but (C:=s2.heap.objs.size+1) I5.hok I5.free fun b o hb e=>(hs'.2 b hb).trans e;refine⟨.ref s2.heap.objs.size,H3,I2.call' (s':={ s4 with heap:=h' }) I5.os U' hok I5.bare fun b hb=>?_,rfl,q⟩;exact⟨(f2 b hb).2.2.2.1,(f2 b hb).2.1,(f2 b hb).2.2.2.2.1,(f2 b hb).2.2.2.2.2⟩
  ·refine thn (T.item (blk X sc cl (s2.heap.objs.size+1) N' s2 H1 fp pins) rfl rfl rfl hc i [] s3 σ3 H3 _ I3 (stat fr3) st3 go) fun r s4 ⟨u,hr,h4⟩=>?_;subst hr;refine thn h4 fun _ s5 ⟨x,H5,I5,r5,y5,st5,fr5⟩=>?_;have I5':=I5.pinned (stat fr5) (T.obj _ _ st5);refine wpAny_mono (hg _ _ _ _ _ _ _ s5 σ3 H5 x u _ I5' r5 (step x H5 y5)) (fun _ s6 ⟨σ6,H6,I6,q6⟩=>?_) fun _ _ z=>z.elim;refine wpAny_mono (he _ _ _ _ _ _ _ s6 σ6 H6 _ I6 q6) (fun y s7 ⟨z,H7,I7,r7,xs,hx7,hz7,m',hm,w7⟩=>?_) fun _ _ z=>z.elim;refine wpAny_mono (Xj (X:=blk X sc cl (s2.heap.objs.size+1) N' s2 H1 fp pins) _ s7 σ6 H7 (.ref s2.heap.objs.size) [z] (.ref s2.heap.objs.size) [y] (fun _ H8=>H8=upd H7 s2.heap.objs.size (.lst (xs++[z]))) I7 rfl (.cons r7 .nil) ⟨_,xs,z,rfl,rfl,hx7,hz7,rfl⟩) (fun _ s8 ⟨_,H8,I8,_,e8⟩=>?_) fun _ _ z=>z.elim;subst e8;refine⟨m',hm,i+1,σ6,_,I8.unpinned,T.keep _ _ _ st5 fun b hb o e=>(I8.pin (b,o) (Y0a _ (Y0a _ (Yo hb e)))).1,fun b hb=>?_,w7⟩;obtain⟨o,e,_⟩:=T.obj _ _ st5 b hb;exact (I8.pin (b,o) (Y0a _ (Y0a _ (Yo hb e)))).2.1
 exact codeAny_compStart_list (loop _ rfl) (T.self _ 0 _ _ _ st4 (loop _ rfl))
end
end L2
namespace L2
open PySem
open AutoSeq1 (wpAny_loadPart')
section
variable {prog:Program}{w:World}{A:Around}{E:Value->Shared->Prop}{s:Shared}
theorem Z47 {it l:Addr}{i:Nat}{items}{x:Value}{Q:Value->Shared->Prop}(hit:s.heap.IsTupleIter it l i)
  (hl:s.heap.IsTuple l items) (hx:items[i]?=some x)
  (hQ:∀ h',h'.IsTupleIter it l (i+1)->Y54 it s.heap h'->Q x { s with heap:=h' }) :
  wpAny (model prog w) A (Builtin.SmallTypes.nextOf (.ref it)) Q E s:=by
 obtain⟨o,ho,hc,hd⟩:=id hit;obtain⟨ol,hol,_,nl,hdl⟩:=hl;unfold Builtin.SmallTypes.nextOf;refine wpAny_bind (wpAny_callSpecial?_slot (name:=Str.ofString "__next__") hit.typeIs F.slot_tuple_iterator_next
  (wpAny_call_entry F.slot_tuple_iterator_next hit.typeIs F.entry_tuple_iterator_next ?_ (F.args_tuple_iterator_next_1 _)))
 show wpAny _ _ (field (.ref it) 0 >>= _) _ _ s;refine wpAny_bind (wpAny_field ho hd (x:=.ref l) rfl ?_);show wpAny _ _ (if (Value.ref l==Value.none)=true then _ else _) _ _ s;rw[if_neg (show ¬ ((Value.ref l==Value.none)=true) from Y0i)];show wpAny _ _ (field (.ref it) 1 >>= _) _ _ s;refine wpAny_bind (wpAny_field ho hd (x:=.int i 0) rfl ?_);show wpAny _ _ (seqItems? (.ref l) >>= _) _ _ s;refine wpAny_bind (wpAny_seqItems hol hdl ?_);simp only[Y1g,hx];refine wpAny_bind (wpAny_setField ho hd (by simp) (wpAny_pure ⟨x,rfl,wpAny_pure (hQ _ ?_ (Heap.SameBut.update ..))⟩));exact⟨_,Y3k _ ho (Obj.isFreed_of_fields (Obj.data_mapFields hd _)),(Obj.cls_mapFields ..).trans hc,by
  rw[Obj.data_mapFields hd];simp[rawInt]⟩
theorem Z4y {it l:Addr}{i:Nat}{items}{Q:Value->Shared->Prop}(hh:A.handled=none)
  (hit:s.heap.IsTupleIter it l i) (hl:s.heap.IsTuple l items) (hx:items[i]?=none)
  (hE:∀ h' e,Heap.ExtBut it s.heap h'->(∃ o,h'.get? e=some o/\o.cls=.type "StopIteration")->E (.ref e) { s with heap:=h' }) :
  wpAny (model prog w) A (Builtin.SmallTypes.nextOf (.ref it)) Q E s:=by
 obtain⟨o,ho,hc,hd⟩:=id hit;obtain⟨ol,hol,_,nl,hdl⟩:=hl;unfold Builtin.SmallTypes.nextOf;refine wpAny_bind (wpAny_callSpecial?_slot (name:=Str.ofString "__next__") hit.typeIs F.slot_tuple_iterator_next
  (wpAny_call_entry F.slot_tuple_iterator_next hit.typeIs F.entry_tuple_iterator_next ?_ (F.args_tuple_iterator_next_1 _)))
 show wpAny _ _ (field (.ref it) 0 >>= _) _ _ s;refine wpAny_bind (wpAny_field ho hd (x:=.ref l) rfl ?_);show wpAny _ _ (if (Value.ref l==Value.none)=true then _ else _) _ _ s;rw[if_neg (show ¬ ((Value.ref l==Value.none)=true) from Y0i)];show wpAny _ _ (field (.ref it) 1 >>= _) _ _ s;refine wpAny_bind (wpAny_field ho hd (x:=.int i 0) rfl ?_);show wpAny _ _ (seqItems? (.ref l) >>= _) _ _ s;refine wpAny_bind (wpAny_seqItems hol hdl ?_);simp only[Y1g,hx];refine wpAny_bind (wpAny_rule (wpAny_bind (wpAny_setField ho hd (by simp) ?_)));show wpAny _ _ (newExc (.type "StopIteration") [] >>= _) _ _ _;refine wpAny_bind ?_;simp only[newExc,newTuple];refine wpAny_bind (wpAny_newObj_type ?_ (by size_fits));refine wpAny_bind (m:=firstArgMember _ _) (wpAny_of_eq (a:=Value.none) (by first|rfl|(simp only[firstArgMember];rfl)) ?_);refine wpAny_newObj_type ?_ (by size_fits);simp only[raiseNew];refine wpAny_bind (wpAny_handled ?_)
 first|rw[show A.in1.handled=none from hh]|rw[hh]
 refine wpAny_bind (wpAny_pure (wpAny_throw ?_));exact hE _ _ (((Heap.SameBut.update ..).extBut.push _).push _) ⟨_,Y0b _ rfl,rfl⟩
end
theorem Z7C {prog:Program}{w:World}{A:Around}(hh:A.handled=none)(it l:Addr)(hne:l≠it)(items:Array Value) :
  Draws prog w A it [it,l] items.size (fun i v=>items[i]?=some v) (fun i h=>h.IsTupleIter it l i/\h.IsTuple l items) where
 live:=fun _ _ st=>let ⟨⟨o,ho,_⟩,_⟩:=st;⟨o,ho⟩
 frame:=fun _ _ _ st hk=>⟨let ⟨o,ho,r⟩:=st.1;⟨o,hk it (by simp) o ho,r⟩,let ⟨o,ho,r⟩:=st.2;⟨o,hk l (by simp) o ho,r⟩⟩
 item:=fun i s Q E hi st hQ=>by
  refine Z47 st.1 st.2 (x:=items[i]) (by simp[hi]) fun h' hit' hs'=>?_;exact hQ _ h' s.toks (by simp[hi]) ⟨hit',let ⟨o,ho,r⟩:=st.2;⟨o,(hs'.2 l hne).trans ho,r⟩⟩ hs'
 done:=fun s Q E st hE=>Z4y hh st.1 st.2 (by simp) hE
theorem Z34 (l:Addr)(items:Array Value)(o:Obj)(hc:o.cls=.type "tuple")(n:Nat)(hd:o.data=.seq items n) :
  Meets (Builtin.«enumerate.__new__» ⟨[.type "enumerate",.ref l],[]⟩) (fun _ R s=>s.heap.get? l=some o/\
   R (.ok (.ret (.ref (s.heap.push { cls:=.type "tuple_iterator",data:=.fields #[.ref l,.int 0 0] }).objs.size)))
    { s with heap:=(s.heap.push { cls:=.type "tuple_iterator",data:=.fields #[.ref l,.int 0 0] }).push { cls:=.type "enumerate",data:=.fields #[.none,.bool false,.ref s.heap.objs.size,rawInt 0,.none,.none] } }):=
 .of_wp fun prog w A R s h=>by
  obtain⟨hp,g,d,tk,os⟩:=s;obtain⟨hl,h⟩:=h;have hsub:=sub_enumerate;have hL:Heap.IsTuple (Shared.heap ⟨hp,g,d,tk,os⟩) l items:=⟨_,hl,hc,n,hd⟩
  wp_walk using wpAny_loadPart' hl
  refine wpAny_stack_any fun st=>wpAny_pure ?_
  split
  ·rename_i c _ _ _ _ _;cases (c==Value.type "enumerate")
   ·wp_walk using wpAny_loadPart' hl,wpAny_pyIter_tuple hL
    exact⟨_,rfl,h⟩
   ·wp_walk using wpAny_loadPart' hl,wpAny_pyIter_tuple hL
    exact⟨_,rfl,h⟩
  ·wp_walk using wpAny_loadPart' hl,wpAny_pyIter_tuple hL
   exact⟨_,rfl,h⟩
theorem Z35 {prog:Program}{w:World}{A:Around}{E:Value->Shared->Prop}{s:Shared}{l:Addr}{items:Array Value}{Q:Value->Shared->Prop}(hL:s.heap.IsTuple l items)
  (h:∀ h',IsEnum h' (s.heap.objs.size+1) s.heap.objs.size 0 .none->h'.IsTupleIter s.heap.objs.size l 0->h'.objs.size=s.heap.objs.size+2->
   (∀ b o,s.heap.get? b=some o->h'.get? b=some o)->Q (.ref (s.heap.objs.size+1)) { s with heap:=h' }) :
  wpAny (model prog w) A (call (.type "enumerate") [.ref l]) Q E s:=by
 obtain⟨o,hl,hc,n,hd⟩:=hL;refine callType_new F.called_enumerate (by decide) (F.typeCall_enumerate_1 _) (F.newCall_enumerate_1 _) (fun obj=>F.args_object_init_2 obj _) F.entry_enumerate_new
  (Z34 l items o hc n hd) ⟨hl,?_⟩
 have hz:(s.heap.push { cls:=.type "tuple_iterator",data:=.fields #[.ref l,.int 0 0] }).objs.size=s.heap.objs.size+1:=Y21 ..;show _/\_;rw[hz];have he:IsEnum ((s.heap.push { cls:=.type "tuple_iterator",data:=.fields #[.ref l,.int 0 0] }).push
   { cls:=.type "enumerate",data:=.fields #[.none,.bool false,.ref s.heap.objs.size,rawInt 0,.none,.none] }) (s.heap.objs.size+1) s.heap.objs.size 0 .none:=by
  have:=Y0b (s.heap.push { cls:=.type "tuple_iterator",data:=.fields #[.ref l,.int 0 0] })
   (o:={ cls:=.type "enumerate",data:=.fields #[.none,.bool false,.ref s.heap.objs.size,rawInt 0,.none,.none] }) rfl
  rw[hz]at this;exact this
 refine⟨⟨_,he,rfl⟩,h _ he ⟨_,Y03 _ (Y0b _ rfl),rfl,rfl⟩ (by rw[Y21,hz]) fun b o x=>Y03 _ (Y03 _ x)⟩
end L2
namespace L2
open PySem PySem.Spec PyProof.Rows
section
variable {X:Cx}
theorem W3:YW X (.builtin "isinstance") (fun xs H Q=>∃ x c t b,xs=[x,.ty c]/\Yc X.K H x t/\Y2i X.K t (.type c)=some b/\Q (.bl b) H):=by
 intro pins s σ H xs us Q I r h;obtain⟨x,c,t,b,rfl,ty,e,q⟩:=h;obtain⟨u,w',rfl,ru,rc⟩:=Zfc r;obtain rfl:w'=Value.type c:=rc;exact ZbF I ru ty e fun tk=>⟨.bl b,H,I.tok _,rfl,q⟩
end
theorem Z5b (K:Y00):Y2i K (.type "int") (.type "int")=some true:=by kernel_rfl
theorem Z4m (K:Y00):Y2i K (.type "int") (.type "bool")=some false:=by kernel_rfl
theorem Z3m (K:Y00):Y2i K (.type "tuple") (.type "tuple")=some true:=by kernel_rfl
theorem Z6t (K:Y00):Y2i K (.type "list") (.type "list")=some true:=by kernel_rfl
mutual
inductive Dt (K:Y00) (H:Hp):V->PyData->Prop
 | non:Dt K H .non .none
 | bl (b:Bool):Dt K H (.bl b) (.bool b)
 | int (i:Int):Dt K H (.int i) (.int i)
 | str (x:Str):Dt K H (.str x) (.str x)
 | lst {a:Addr} {xs:List V} {ds:List PyData}:SqL K H a xs->Yd K H xs ds->Dt K H (.ref a) (.list ds)
 | tup {a:Addr} {xs:List V} {ds:List PyData}:SqT K H a xs->Yd K H xs ds->Dt K H (.ref a) (.tuple ds)
inductive Yd (K:Y00) (H:Hp):List V->List PyData->Prop
 | nil:Yd K H [] []
 | cons {x:V} {d:PyData} {xs:List V} {ds:List PyData}:Dt K H x d->Yd K H xs ds->Yd K H (x::xs) (d::ds)
end
section
variable {X:Cx}{pins:List (Addr×Obj)}{σ:St}{H:Hp}{s:Shared}
mutual
theorem Dt.reads (I:Inv X pins σ H s):∀ {x:V} {d:PyData} {u:Value},Dt X.K H x d->ZM x u->∃ as,Reads s.heap u d as
 | _,_,_,.non,r=>by obtain rfl:=(show _=Value.none from r);exact⟨_,.none⟩
 | _,_,_,.bl b,r=>by obtain rfl:=(show _=Value.bool b from r);exact⟨_,.bool b⟩
 | _,_,_,.int i,r=>by obtain⟨t,rfl⟩:=r;exact⟨_,.int i t⟩
 | _,_,_,.str x,r=>by obtain⟨t,rfl⟩:=r;exact⟨_,.str x t⟩
 | _,_,_,@Dt.lst _ _ a xs ds hq ha,r=>by
  obtain rfl:=(show _=Value.ref a from r);obtain⟨its,rv,⟨o,n,h1,h2,h3,h4⟩,hz⟩:=I.list hq;obtain⟨as,ra⟩:=Yd.reads I ha rv;exact⟨_,.list h1 h2 h4 (by simpa using ra)⟩
 | _,_,_,@Dt.tup _ _ a xs ds hq ha,r=>by
  obtain rfl:=(show _=Value.ref a from r);obtain⟨its,rv,⟨o,h1,h2,n,h3⟩,hz⟩:=I.tuple hq;obtain⟨as,ra⟩:=Yd.reads I ha rv;exact⟨_,.tuple h1 h2 h3 (by simpa using ra)⟩
theorem Yd.reads (I:Inv X pins σ H s):∀ {xs:List V} {ds:List PyData} {us:List Value},Yd X.K H xs ds->ZN xs us->∃ as,ReadsAll s.heap us ds as
 | _,_,_,.nil,r=>by cases r;exact⟨_,.nil⟩
 | _,_,_,.cons h t,r=>by
  cases r with
  | cons r rr=>
   obtain⟨a1,h1⟩:=Dt.reads I h r;obtain⟨a2,h2⟩:=Yd.reads I t rr;exact⟨_,.cons h1 h2⟩
end
noncomputable def rEqD (K:Y00)(A:Around)(neg:Bool):R2:=fun x y H Q=>∃ d e,Dt K H x d/\Dt K H y e/\d.canLay0=true/\e.canLay0=true/\A.units+min d.depth e.depth<cLine/\Q (.bl (if neg then !PyData.eqv d e else PyData.eqv d e)) H
theorem ZiB:OpR X (compareOp .Eq) (rEqD X.K X.A false):=by
 intro pins s σ H x y v u Q I rx ry h;obtain⟨d,e,hd,he,c1,c2,hu,q⟩:=h;obtain⟨as,ra⟩:=Dt.reads I hd rx;obtain⟨bs,rb⟩:=Dt.reads I he ry;exact SeqAt.compareEq_reads ra rb c1 c2 hu ⟨.bl _,H,I,rfl,q⟩
theorem Zet:OpR X (compareOp .NotEq) (rEqD X.K X.A true):=by
 intro pins s σ H x y v u Q I rx ry h;obtain⟨d,e,hd,he,c1,c2,hu,q⟩:=h;obtain⟨as,ra⟩:=Dt.reads I hd rx;obtain⟨bs,rb⟩:=Dt.reads I he ry;exact SeqAt.compareNe_reads ra rb c1 c2 hu ⟨.bl _,H,I,rfl,q⟩
end
noncomputable def nv (xs:List Nat):List V:=xs.map fun (n:Nat)=>V.int (n:Int)
noncomputable def nd (xs:List Nat):List PyData:=xs.map fun (n:Nat)=>PyData.int (n:Int)
theorem ZA (xs:List Nat):(nv xs).length=xs.length:=by simp[nv]
theorem Zp {xs:List Nat}{i:Nat}{x:Nat}(h:xs[i]?=some x):(nv xs)[i]?=some (.int (x:Int)):=by simp[nv,h]
theorem Sz {xs:List Nat}{i:Nat}{v:V}(h:(nv xs)[i]?=some v):∃ x,xs[i]?=some x/\v=.int (x:Int):=by
 rw[nv,Y0l]at h;cases e:xs[i]? with
 | none=>rw[e]at h;cases h
 | some x=>rw[e]at h;exact⟨x,rfl,(Option.some.inj h).symm⟩
theorem Vm (xs:List Nat)(x:Nat):nv xs++[.int (x:Int)]=nv (xs++[x]):=by simp[nv]
theorem Zeo {K:Y00}{H:Hp}:∀ xs:List Nat,Yd K H (nv xs) (nd xs)
 | []=>.nil
 | x::xs=>.cons (.int _) (Zeo xs)
theorem Zah:∀ xs:List Nat,PyData.canLayAll0 (nd xs)=true
 | []=>rfl
 | x::xs=>by show (PyData.canLay0 (PyData.int _)&&PyData.canLayAll0 (nd xs))=true;rw[Zah xs];rfl
theorem Ze9:∀ xs ys:List Nat,PyData.eqvAll (nd xs) (nd ys)=decide (xs=ys)
 | [],[]=>rfl
 | [],y::ys=>rfl
 | x::xs,[]=>rfl
 | x::xs,y::ys=>by
  show (((x:Int)==(y:Int))&&PyData.eqvAll (nd xs) (nd ys))=_;rw[Ze9 xs ys]
  by_cases e:x=y
  ·subst e
   by_cases e':xs=ys<;>simp[e']
  ·have:((x:Int)==(y:Int))=false:=by simpa using fun h:(x:Int)=y=>e (by omega)
   simp[this,e]
def Zn (H:Hp)(a:Addr)(r u:List Nat):Prop:=∃ p q,H a=some (.tup [.ref p,.ref q])/\H p=some (.tup (nv r))/\H q=some (.tup (nv u))
theorem Zn.same {H H':Hp}{a:Addr}{r u:List Nat}(e:Z5 H H')(h:Zn H a r u):Zn H' a r u:=by
 obtain⟨p,q,h1,h2,h3⟩:=h;exact⟨p,q,e _ _ h1,e _ _ h2,e _ _ h3⟩
section
variable {prog:Program}{w:World}{A:Around}{E:Value->Shared->Prop}{s:Shared}
theorem Z80 {l:Addr}{vs:List Value}{Q:List Value->Shared->Prop}(hl:s.heap.IsTuple l vs.toArray)(hz:vs.length<=sizeLine)
  (h:∀ h',(∀ b o,s.heap.get? b=some o->h'.get? b=some o)->Q vs { s with heap:=h' }):wpAny (model prog w) A (collect (.ref l)) Q E s:=by
 obtain⟨o,ho,hc,n,hd⟩:=hl;unfold collect;refine wpAny_bind (wpAny_runValue (codeAny_builtin entry_proto_collect' ?_));show wpAny _ _ (do again (.builtin "list.__iadd__" ⟨[<-newList [],.ref l],[]⟩)) _ _ s;refine wpAny_bind (wpAny_newList (wpAny_pure ⟨Code.quiet_builtin _ (by decide +kernel),codeAny_builtin entry_list_iadd' ?_⟩));have ho':(s.heap.push (seqObj "list" #[] 0)).get? l=some o:=Y03 _ ho;show wpAny _ _ (Builtin.List.listExtendWith (.ref s.heap.objs.size) (.ref l) (.ref s.heap.objs.size)) _ _ { s with heap:=s.heap.push (seqObj "list" #[] 0) };unfold Builtin.List.listExtendWith;refine wpAny_bind (wpAny_typeOf (T:="tuple") ⟨o,ho',hc⟩ ?_);rw[if_pos (show (Builtin.List.listSameRef (.ref s.heap.objs.size) (.ref l)||Value.type "tuple" == Value.type "list" || Value.type "tuple" == Value.type "tuple")=true by
  rw[show (Value.type "tuple" == Value.type "tuple")=true from rfl,Bool.or_true])]
 refine wpAny_bind (listItems_at ho' hd (wpAny_bind (listItems_at (xs:=#[]) (n:=0) (Y0b _ rfl) rfl ?_)));rw[if_neg (by simp)];refine wpAny_bind (listUpdate_at (xs:=#[]) (n:=0) (Y0b _ rfl) rfl ?_ (Y12 _) (by show (#[]++vs.toArray).size<=sizeLine+1;simp;omega));refine wpAny_pure ?_;refine wpAny_bind (wpAny_load (get?_update_seq (Y0b _ rfl) _) ?_);show wpAny _ _ (pure ((#[]:Array Value)++vs.toArray).toList) Q E _;rw[show ((#[]:Array Value)++vs.toArray).toList=vs by simp];exact wpAny_pure (h _ fun b o e=>(Y1h _ _ (Y55 (Y09 e))).trans (Y03 _ e))
theorem Zaf {x:Value}{vs:List Value}{ns:List Int}{Q:Value->Shared->Prop}(hI:IntsAre vs ns)(h64:vs.length<64)
  (hcol:∀ (A:Around) (R:List Value->Shared->Prop),A.handled=none->(∀ vs ns' h' tk,IntsAre vs ns'->ns'=ns->(∀ b o,s.heap.get? b=some o->h'.get? b=some o)->R vs { s with heap:=h',toks:=tk })->wpAny (model prog w) A (collect x) R E s)
  (hh:A.handled=none)
  (h:∀ (h1 h2:Heap) (tk e:Nat) (out:Array Value) (ns':List Int),IntsAre out.toList ns'->ns'.Perm ns->ns'.Pairwise (·<=·)->(∀ b o,s.heap.get? b=some o->h1.get? b=some o)->h2.get? h1.objs.size=some (seqObj "list" out e)->
   (∀ b o,h1.get? b=some o->h2.get? b=some o)->Q (.ref h1.objs.size) { s with heap:=h2,toks:=tk }) :
  wpAny (model prog w) A (call (.builtin "sorted") [x]) Q E s:=by
 refine Calls.call_function_entry kind_sorted plain_sorted entry_sorted (args_sorted1 _) ?_;unfold Builtin.«sorted»;refine wpAny_bind (m:=checkCount "sorted" 1 1 _) (wpAny_pure ?_);refine wpAny_bind (hcol _ _ (by simp[hh]) fun vs ms h' tk hI' e hk=>?_);subst e;have hl:vs.length<64:=by rw[hI'.length,<-hI.length];exact h64
 refine wpAny_bind (wpAny_newList ?_);refine wpAny_bind (wpAny_holding (wpAny_call_entry slot_list_sort ⟨_,Y0b _ rfl,rfl⟩ entry_list_sort (list_sort_tree (Y0b _ rfl) hI' hl fun out ns' a1 a2 a3=>⟨_,rfl,?_⟩) (args_list_sort _)));obtain⟨e,he⟩:=sortedHeap_at (out:=out) (n:=0) (show (h'.push (seqObj "list" vs.toArray 0)).get? h'.objs.size=some (seqObj "list" vs.toArray 0) from Y0b _ rfl);have old:∀ b o,h'.get? b=some o->(sortedHeap (h'.push (seqObj "list" vs.toArray 0)) h'.objs.size vs out).get? b=some o:=fun b o q1=>by
  have q2:=Y09 q1;rw[sortedHeap_old (Y0j q2) (by rw[Y21];exact Y1f q2)];exact Y03 _ q1
 exact wpAny_pure ⟨_,rfl,h _ _ _ _ out ns' a1 a2 a3 hk he old⟩
end
section
variable {X:Cx}{pins:List (Addr×Obj)}{σ:St}{H:Hp}{s:Shared}
theorem Inv.turnLaid {fp:List Addr}{T:Addr}{o:HO}{h':Heap}{t':Nat}(I:Inv X pins σ H s)(hf:∀ b∈fp,Yp X pins H b)(hT:s.heap.objs.size<=T)
  (k:∀ b ob,b∉fp->s.heap.get? b=some ob->h'.get? b=some ob) (new:Zf X.prog X.w (upd H T o) h' T o):Inv X pins σ (upd H T o) { s with heap:=h',toks:=t' }:=by
 have hn:H T=none:=I.hok.fresh hT;have neT:∀ b ob,s.heap.get? b=some ob->b≠T:=fun b ob e=>Y0j (Y0o (Y09 e) hT);have nfp:∀ b u,H b=some u->b∉fp:=fun b u e hb=>by rw[(hf b hb).1]at e;cases e
 refine I.step (g':=s.gens) (d':=s.drawn) (ch:=fp) (fun b hb=>⟨(hf b hb).2.2.2.1,(hf b hb).2.1,(hf b hb).2.2.2.2.1,(hf b hb).2.2.2.2.2⟩) (fun b ob _ _ hc e _=>k b ob hc e) (fun b ob _ _ hc e _=>⟨ob.slots,k b ob hc e⟩)
  (fun b ob _ e n=>by rw[ZK (neT b ob e)];exact n) (fun b ob hc e=>⟨ob,k b ob hc e⟩) (fun b xs e=>by rw[ZK (Zc e hn)];exact e) (fun b ob u e=>by rw[ZK (Zc e hn)];exact e)
  (fun b ps e=>⟨#[],by rw[ZK (Zc e hn),e];simp⟩) (fun m hm=>?_) (fun b u e=>?_) I.bare
 ·obtain⟨ob,es,ep,ho,r⟩:=hm;exact⟨ob,es,ep,k _ ob (fun hb=>(hf _ hb).2.1 rfl) ho,r⟩
 ·by_cases hb:b=T
  ·subst hb;rw[ZR]at e;cases e;exact new
  ·rw[ZK hb]at e;refine (I.hok b u e).stay (fun c v hc q=>k c v ?_ q) (fun c q=>by rw[ZK (Zc q hn)];exact q) fun c xs q=>by rw[ZK (Zc q hn)];exact q
   rcases hc with z|z
   ·rw[z];exact nfp b u e
   ·exact nfp c _ z
theorem Inv.turnedL {fp:List Addr}{h':Heap}{t':Nat}(I:Inv X pins σ H s)(hf:∀ b∈fp,Yp X pins H b)(k:∀ b ob,b∉fp->s.heap.get? b=some ob->h'.get? b=some ob):Inv X pins σ H { s with heap:=h',toks:=t' }:=by
 have nfp:∀ b u,H b=some u->b∉fp:=fun b u e hb=>by rw[(hf b hb).1]at e;cases e
 refine I.step (g':=s.gens) (d':=s.drawn) (ch:=fp) (fun b hb=>⟨(hf b hb).2.2.2.1,(hf b hb).2.1,(hf b hb).2.2.2.2.1,(hf b hb).2.2.2.2.2⟩) (fun b ob _ _ hc e _=>k b ob hc e) (fun b ob _ _ hc e _=>⟨ob.slots,k b ob hc e⟩)
  (fun _ _ _ _ n=>n) (fun b ob hc e=>⟨ob,k b ob hc e⟩) (fun _ _ e=>e) (fun _ _ _ e=>e) (fun b ps e=>⟨#[],by rw[e];simp⟩) (fun m hm=>?_) (fun b u e=>?_) I.bare
 ·obtain⟨ob,es,ep,ho,r⟩:=hm;exact⟨ob,es,ep,k _ ob (fun hb=>(hf _ hb).2.1 rfl) ho,r⟩
 ·refine (I.hok b u e).stay (fun c v hc q=>k c v ?_ q) (fun _ q=>q) fun _ _ q=>q;rcases hc with z|z
  ·rw[z];exact nfp b u e
  ·exact nfp c _ z
end
noncomputable def VO (T:Addr)(xs:List V):HO:=.ext fun h=>xs.length<=sizeLine/\∃ its:List Value,ZN xs its/\IsTup h T its.toArray
theorem ZfT {P:Program}{w:World}{H:Hp}{h:Heap}{T:Addr}{xs:List V}(q:xs.length<=sizeLine/\∃ its:List Value,ZN xs its/\IsTup h T its.toArray):Zf P w H h T (VO T xs):=by
 obtain⟨z,its,r,o,e,c⟩:=id q;exact⟨q,⟨o,e⟩,fun h1 h2 ⟨z',its',r',o',e',c'⟩ k=>⟨z',its',r',o',k _ e',c'⟩⟩
noncomputable def Zjd (n:Nat)(t:TGs):TG:=fun v σ H Q=>∃ a xs,v=.ref a/\H a=some (VO a xs)/\xs.length=n/\t xs σ H Q
theorem ZbM {es:List Expr}{k:Nat}{t:TGs}{n:Nat}{pos:Pos}(hc:X.calm=true)(h:PGs X es t)
  (hn:(assignEach es X.env).length=n:=by rfl) (hst:(assignEach es X.env).findIdx? (·.1)=none:=by rfl):PG X (.Tuple es k pos) (Zjd n t):=by
 intro pins s σ H v u Q I r hw;obtain⟨a,xs,e1,hq,hl,hw⟩:=hw;subst e1;cases r;obtain⟨⟨hz,its,rv,ht⟩,_⟩:=I.hok a _ hq;refine assign_Tuple_tuple (I.ok.hd hc) ht (by simp[hn,<-hl,rv.length]) hst fun h' hx=>?_;have I1:Inv X pins σ H { s with heap:=h' }:=I.kept (t':=s.toks) fun b o e=>hx b o (Y0j (Y09 e)) e;exact h pins _ σ H xs _ Q I1 (by simpa using rv) hw
def S9 (sq:Hp->List V->Prop):It:=
 ⟨fun i H=>∃ xs x,sq H xs/\xs[i]?=some x,fun i H x H'=>∃ T y,H T=none/\x=.ref T/\(∀ xs,sq H xs->xs[i]?=some y)/\H'=upd H T (VO T [.int (i:Int),y]),fun i H=>∃ xs,sq H xs/\xs.length=i⟩
theorem ZdP {h:Heap}{a b:Addr}{o u:Obj}(h1:h.get? a=some o)(h2:h.get? b=some u)(d:o.cls≠u.cls):a≠b:=by
 intro e;subst e;rw[h1]at h2;cases h2;exact d rfl
theorem Zak {P:Program}{w:World}{K:Y00}{elts:List Expr}{k:Nat}{pos:Pos}(sq:Hp->List V->Prop)(isq:Heap->Array Value->Prop)(isit:Nat->Heap->Prop)(e it:Addr)
  (obj:∀ i h,isit i h->∃ o,h.get? it=some o/\∀ v,o.data≠.cell v) (keep:∀ i h h',isit i h->(∀ o,h.get? it=some o->h'.get? it=some o)->isit i h')
  (rd:∀ (X:Cx) (pins:List (Addr×Obj)) (σ:St) (H:Hp) (s:Shared) (xs:List V),X.K=K->Inv X pins σ H s->sq H xs->(∃ its:List Value,ZN xs its/\isq s.heap its.toArray)/\∀ ys,sq H ys->ys=xs)
  (W:∀ (A:Around) (items:Array Value) (h:Heap) (i:Nat),A.handled=none->isq h items->isit i h->(∃ old,IsEnum h e it i old)->∃ fp Mid,WalksT P w A e fp [e,it] items.size (fun i vals=>∃ t x,items[i]?=some x/\vals=#[.int (i:Int) t,x])
   (fun i h=>(∃ old,IsEnum h e it i old)/\isit i h/\isq h items) Mid) :
  UY P w K (.Tuple elts k pos) (S9 sq) [e,it] e (fun i h=>(∃ old,IsEnum h e it i old)/\isit i h) where
 mem:=by simp
 obj:=fun i h st b hb=>by
  obtain⟨⟨old,he⟩,q⟩:=st;rcases Y14.mp hb with rfl|hb
  ·exact⟨_,he,fun v z=>nomatch z⟩
  ·rw[Y0k.mp hb];exact obj i h q
 keep:=fun i h h' st kp=>⟨let ⟨old,he⟩:=st.1;⟨old,kp e (by simp) _ he⟩,keep i h h' st.2 fun o q=>kp it (by simp) o q⟩
 item:=by
  intro X hP hw hK hc i pins s σ H E I hf st hg;subst hP hw;obtain⟨xs,x,hq,hx⟩:=hg;obtain⟨⟨its,rv,hL⟩,inj⟩:=rd X pins σ H s xs hK I hq;obtain⟨old,he⟩:=id st.1;obtain⟨oi,hoi,_⟩:=obj _ _ st.2;have hlt:i<its.toArray.size:=by
   have:=(Y08.mp hx).1;rw[rv.length]at this;simpa using this
  obtain⟨fp,Mid,W⟩:=W X.A its.toArray s.heap i (I.ok.hd hc) hL st.2 st.1;refine W.item i s _ E hlt ⟨st.1,st.2,hL⟩ fun T vals h' tk hPt hT htup hMid hk=>⟨.ref T,rfl,?_⟩;refine W.go elts k pos i T _ _ E hMid fun h'' hSt hk2=>?_;obtain⟨t,y',hy',rfl⟩:=hPt;obtain⟨u,hu,ry⟩:=rv.get hx;have e1:y'=u:=by
   have:its[i]?=some y':=by simpa using hy'
   rw[hu]at this;exact (Option.some.inj this).symm
  subst e1;have htup2:IsTup h'' T #[.int (i:Int) t,y']:=by
   obtain⟨o,q1,q2⟩:=htup;exact⟨o,hk2 T o (W.apart _ _ _ hMid) q1,q2⟩
  refine⟨.ref T,upd H T (VO T [.int (i:Int),x]),?_,rfl,⟨T,x,I.hok.fresh hT,rfl,fun zs hzs=>by rw[inj zs hzs];exact hx,rfl⟩,⟨hSt.1,hSt.2.1⟩,fun b hb=>?_⟩
  ·exact I.turnLaid (s:=s) (h':=h'') (t':=tk) hf hT (fun b ob hb q=>hk2 b ob hb (hk b ob hb q)) (ZfT ⟨by show 2<=sizeLine;decide,[.int (i:Int) t,y'],.cons ⟨t,rfl⟩ (.cons ry .nil),htup2⟩)
  ·have hbT:b≠T:=fun z=>by
    have:b<s.heap.objs.size:=by
     rcases Y14.mp hb with rfl|hb
     ·exact Y09 he
     ·rw[Y0k.mp hb];exact Y09 hoi
    exact absurd (Y0o this hT) (by rw[z];exact Y2d _)
   rw[ZK hbT];exact (hf b hb).1
 done:=by
  intro X hP hw hK hc i pins s σ H E I hf st hs;subst hP hw;obtain⟨xs,hq,hle⟩:=hs;obtain⟨⟨its,rv,hL⟩,inj⟩:=rd X pins σ H s xs hK I hq;obtain⟨fp,Mid,W⟩:=W X.A its.toArray s.heap i (I.ok.hd hc) hL st.2 st.1;have hi:i=its.toArray.size:=by rw[<-hle,rv.length];simp
  refine W.done s _ E (by rw[<-hi];exact⟨st.1,st.2,hL⟩) fun h' tk hk=>⟨rfl,?_⟩;exact I.turnedL hf hk
 self:=fun A i s Q E st h=>by obtain⟨⟨old,he⟩,_⟩:=st;exact wpAny_pyIter_enum he h
section
variable {X:Cx}{elts:List Expr}{k:Nat}{tpos:Pos}
noncomputable def Zhs (K:Y00)(ta:TA):TI:=fun σ H R=>ta σ H fun vs H1=>∃ a,vs=[.ref a]/\(∃ xs,SqT K H1 a xs)/\R (S9 fun H xs=>SqT K H a xs) H1
theorem ZbX:bootBuiltins "enumerate"=some (.type "enumerate"):=by decide +kernel
theorem Z8u {l:Expr}{ta:TA}{p pos:Pos}(hg:Gl X "enumerate")(hm:X.mg "enumerate"=none)(ha:PA X [l] ta)(hs:starEach [l] X.env=[(false,eval l X.env)]:=by rfl) :
  PI X (.Tuple elts k tpos) (.Call (.Name "enumerate" p) [l] [] pos) (Zhs X.K ta):=by
 intro pins s σ H R I h;refine Call_ (Vi I hg hm ZbX (PyProof.Rows.callWith_type1 (thn (ha pos pins s σ H _ I h) fun us s1 ⟨vs,H1,I1,r1,q1⟩=>?_) hs rfl));obtain⟨a,rfl,⟨xs,hq⟩,q⟩:=q1;obtain⟨u,rfl,ru⟩:=YE r1;obtain rfl:u=Value.ref a:=ru;obtain⟨its,rv,p,hz⟩:=I1.tuple hq;refine Z35 (show s1.heap.IsTuple a its.toArray from p) fun h' he hit hsz hk=>?_;refine wpAny_pyIter_enum he ?_;have I2:Inv X pins σ H1 { s1 with heap:=h' }:=I1.kept (t':=s1.toks) hk;refine⟨s1.heap.objs.size+1,[s1.heap.objs.size+1,s1.heap.objs.size],_,_,H1,rfl,I2,Zak (fun H xs=>SqT X.K H a xs) (fun h its=>h.IsTuple a its) (fun i h=>h.IsTupleIter s1.heap.objs.size a i) (s1.heap.objs.size+1) s1.heap.objs.size ?_ ?_ ?_ ?_,⟨⟨_,he⟩,hit⟩,fun b hb=>?_,q⟩
 ·rintro i h ⟨o,q1,q2,q3⟩;exact⟨o,q1,fun v z=>by rw[q3]at z;cases z⟩
 ·rintro i h h' ⟨o,q1,q2⟩ kp;exact⟨o,kp o q1,q2⟩
 ·intro X' pins' σ' H' s' ys hK I' hq';rw[<-hK]at hq';obtain⟨its',rv',p',_⟩:=I'.tuple hq';exact⟨⟨its',rv',p'⟩,fun zs hz=>I'.tuple_inj (by rw[hK];exact hz) hq'⟩
 ·intro A items h i hh hL hI hE;obtain⟨old,hE⟩:=hE;obtain⟨ol,hol,hcl,_⟩:=id hL;obtain⟨oi,hoi,hci,_⟩:=id hI;have hne:a≠s1.heap.objs.size:=ZdP hol hoi (by rw[hcl,hci];decide);have hne2:a≠s1.heap.objs.size+1:=ZdP hol hE (by rw[hcl];show Value.type "tuple"≠Value.type "enumerate";decide);exact⟨_,_,WalksT.enumerateD (Z7C (A:=A.in1) hh s1.heap.objs.size a hne items) (s1.heap.objs.size+1) (Nat.succ_ne_self _) (fun hm=>(Y14.mp hm).elim (Nat.succ_ne_self _) fun hm=>hne2 (Y0k.mp hm).symm) (by simp)⟩
 ·rcases Y14.mp hb with rfl|hb
  ·exact I1.fpOk (Y3z _) (I1.hok.fresh (Y3z _))
  ·rw[Y0k.mp hb];exact I1.fpOk (Y05 _) (I1.hok.fresh (Y05 _))
end
theorem Z7x {P:Program}{w:World}{k:Key}{u:Value}(h:(YZ P w).is k u=true):ZM (kV k) u:=by
 rcases XD (show V2 k u=true from h) with ⟨i,t,rfl,rfl⟩|⟨x,t,rfl,rfl⟩
 ·exact⟨t,rfl⟩
 ·exact⟨t,rfl⟩
section
variable {X:Cx}{elts:List Expr}{k:Nat}{tpos:Pos}
end
section
variable {X:Cx}
theorem Z29 (hc:X.calm=true):YW X (.builtin "all") (fun xs H Q=>∃ (p:Addr) (bs:List Bool),xs=[.ref p]/\SqL X.K H p (bs.map V.bl)/\Q (.bl (bs.all id)) H):=by
 intro pins s σ H xs us Q I r h;obtain⟨p,bs,rfl,hq,q⟩:=h;obtain⟨u,rfl,ru⟩:=YE r;obtain rfl:u=Value.ref p:=ru;obtain⟨its,rv,pl,hz⟩:=I.list hq;have hL:=pl.isList;have hlt:p<s.heap.objs.size:=by obtain⟨o,ho,_⟩:=id hL;exact Y09 ho
 have hlen:its.length=bs.length:=by rw[<-rv.length];simp
 refine call_all_walkS (wpAny_pyIter_list hL ⟨s.heap.objs.size,_,_,_,its.toArray.size,_,_,fun i=>bs.getD i true,rfl,(Walks.list (A:=X.A.in1) (I.ok.hd hc) s.heap.objs.size p (Y0j hlt) its.toArray).toS,⟨⟨_,Y0b _ rfl,rfl,rfl⟩,hL.push _⟩,?_,fun s' hm=>?_⟩)
 ·intro i v s2 Q2 E2 hP hQ;have hv:its[i]?=some v:=by simpa using hP
  have hi:i<bs.length:=by rw[<-hlen];exact (Y08.mp hv).1
  have hb:(bs.map V.bl)[i]?=some (.bl bs[i]):=by simp[hi]
  obtain⟨u,hu,ru⟩:=rv.get hb;rw[hv]at hu;cases hu;obtain rfl:v=Value.bool bs[i]:=ru;have e:bs.getD i true=bs[i]:=by simp[Y04,hi]
  simp only[e]at hQ;exact wpAny_truthy_bool hQ
 ·rw[Moved.eq_with hm];refine⟨.bl _,H,I.kept (h':=s'.heap) (t':=s'.toks) fun b o e=>hm.heap b o (fun z=>?_) (Y03 _ e),rfl,?_⟩
  ·exact absurd (Y09 e) (by rw[Y0k.mp z];exact Y2d _)
  ·have e:(Y02 its.toArray.size).all (fun i=>bs.getD i true)=bs.all id:=by
    have:its.toArray.size=bs.length:=by simpa using hlen
    rw[this];apply Y2b.mpr;simp only[Y3f,Y06,id];constructor
    ·intro h b hb;obtain⟨i,hi,rfl⟩:=Y1i.mp hb;have:=h i hi
     simpa [Y04,hi] using this
    ·intro h i hi;have:=h bs[i] (Y2m hi)
     simpa [Y04,hi] using this
   rw[e];exact q
theorem Z3p:YW X (.type "range") (fun xs H Q=>∃ j:Int,xs=[.int j]/\∀ r,H r=none->Q (.ref r) (upd H r (.rng 0 j))):=by
 intro pins s σ H xs us Q I r h;obtain⟨j,rfl,q⟩:=h;obtain⟨u,rfl,t,rfl⟩:=YE r;refine call_range_1 ⟨.ref s.heap.objs.size,_,I.laid (a:=s.heap.objs.size) (o:=.rng 0 j) (fun _ _ e=>Y03 _ e) (Y05 _) ⟨_,_,_,Y0b _ rfl⟩,rfl,q _ (I.hok.fresh (Y05 _))⟩
theorem Z2w (hc:X.calm=true):YW X (.type "list") (fun xs H Q=>∃ (r:Addr) (n:Nat),xs=[.ref r]/\H r=some (.rng 0 (n:Int))/\n<=1000/\∀ l,H l=none->Q (.ref l) (upd H l (.lst (nv (Y02 n))))):=by
 intro pins s σ H xs us Q I r h;obtain⟨a,n,rfl,ha,hn,q⟩:=h;obtain⟨u,rfl,ru⟩:=YE r;obtain rfl:u=Value.ref a:=ru;obtain⟨t,u',v',e⟩:=(show Zf X.prog X.w H s.heap a (.rng 0 (n:Int)) from I.hok a _ ha);refine call_list_range (n:=n) (I.ok.hd hc) (show IsRange s.heap a 0 (n:Int) 1 t u' v' from e) (small_one (by decide) (by decide) (by lia) (by lia)) (by rw[rangeSize_one];split<;>lia) (by lia) fun h' tk acc c hk hacc hI=>?_;refine⟨.ref s.heap.objs.size,_,I.laid (a:=s.heap.objs.size) (o:=.lst (nv (Y02 n))) (h':=h') (t':=tk) hk (Y05 _) ⟨?_,acc.toList,c,?_,by simpa using hacc⟩,rfl,q _ (I.hok.fresh (Y05 _))⟩
 ·rw[ZA,Y0v];exact Y16 (YR hn)
 ·obtain⟨hsz,hi⟩:=hI;have key:∀ (m:Nat) (l:List Value),l.length=m->(∀ (j:Nat) (v:Value),l[j]?=some v->∃ t,v=Value.int ((0:Int)+(j:Nat)*1) t)->ZN (nv (Y02 m)) l:=by
   intro m
   induction m with
   | zero=>intro l hl _;rw[Y25.mp hl];exact .nil
   | succ m ih=>
    intro l hl hv;have hne:l≠[]:=(by intro e;rw[e]at hl;simp at hl);rw[<-Y4r hne,Y2w];have e1:nv (Y02 m++[m])=nv (Y02 m)++nv [m]:=(by simp[nv]);rw[e1];refine ZN.append (ih l.dropLast (by simp[hl]) fun j v hj=>?_) (.cons ?_ .nil)
    ·have hjl:j<l.dropLast.length:=(Y08.mp hj).1;refine hv j v ?_;rw[List.getElem?_dropLast]at hj
     split at hj
     ·exact hj
     ·cases hj
    ·obtain⟨t,e⟩:=hv m (l.getLast hne) (by rw[List.getLast_eq_getElem,<-Y01];congr 1;lia);exact⟨t,by rw[e];congr 1;lia⟩
  exact key n acc.toList (by simpa using hsz) fun j v hj=>hi j v (by simpa using hj)
def ZfS (K:Y00)(H:Hp)(p:Addr)(r:List Nat):Prop:=SqL K H p (nv r)\/SqT K H p (nv r)\/∃ kvs,H p=some (.dK kvs)/\kvs.map (·.1)=r.map fun (n:Nat)=>Sum.inl (n:Int)
theorem Ug:∀ {r:List Nat} {us:List Value},ZN (nv r) us->IntsAre us (r.map fun (n:Nat)=>(n:Int)):=fun {r us} h=>Z9d (by rw[Y1n];exact h)
theorem Zf7 {ms:List Int}{r:List Nat}(p:ms.Perm (r.map fun (n:Nat)=>(n:Int)))(so:ms.Pairwise (·<=·)):∃ S:List Nat,ms=S.map (fun (n:Nat)=>(n:Int))/\S.Perm r/\S.Pairwise (·<=·):=by
 have hn:∀ m∈ms,0<=m:=fun m hm=>by
  obtain⟨n,_,rfl⟩:=Y0g.mp (p.mem_iff.mp hm);exact Int.natCast_nonneg n
 have e:ms=(ms.map Int.toNat).map fun (n:Nat)=>(n:Int):=by
  rw[Y1n]
  conv=>lhs;rw[<-List.map_id ms]
  exact Y1x fun m hm=>by simp[Y2t (hn m hm)]
 refine⟨ms.map Int.toNat,e,?_,?_⟩
 ·have:=p.map Int.toNat;rw[Y1n]at this;have e2:r.map (Int.toNat ∘ fun (n:Nat)=>(n:Int))=r:=by
   conv=>rhs;rw[<-List.map_id r]
   exact Y1x fun m _=>by simp
  rw[e2]at this;exact this
 ·exact Y1q.mpr (so.imp_of_mem fun ha hb h=>by have:=hn _ ha;have:=hn _ hb;lia)
theorem Z6Z {us:List Value}{S:List Nat}(h:IntsAre us (S.map fun (n:Nat)=>(n:Int))):ZN (nv S) us:=by
 have:=Z4V h;rw[Y1n]at this;exact this
def ZeS (K:Y00):List V->Hp->VK->Prop:=fun xs H Q=>∃ (p:Addr) (r:List Nat),xs=[.ref p]/\ZfS K H p r/\r.length<64/\∀ l S,H l=none->S.Perm r->S.Pairwise (·<=·)->Q (.ref l) (upd H l (.lst (nv S)))
theorem Z50 (hc:X.calm=true):YW X (.builtin "sorted") (ZeS X.K):=by
 intro pins s σ H xs us Q I rr h;obtain⟨p,r,rfl,src,h64,q⟩:=h;obtain⟨u,rfl,ru⟩:=YE rr;obtain rfl:u=Value.ref p:=ru;have hh:=I.ok.hd hc;have fin:∀ (vs:List Value),IntsAre vs (r.map fun (n:Nat)=>(n:Int))->
   (∀ (A:Around) (R:List Value->Shared->Prop),A.handled=none->(∀ vs ns' h' tk,IntsAre vs ns'->ns'=(r.map fun (n:Nat)=>(n:Int))->(∀ b o,s.heap.get? b=some o->h'.get? b=some o)->R vs { s with heap:=h',toks:=tk })->wpAny (model X.prog X.w) A (collect (.ref p)) R X.xe s)->
   wpAny (model X.prog X.w) X.A (call (.builtin "sorted") [.ref p]) (EP X pins σ Q) X.xe s:=by
  intro vs hI hcol;refine Zaf hI (by rw[hI.length,Y07];exact h64) hcol hh fun h1 h2 tk e out ns' a1 a2 a3 hk ho hk2=>?_;obtain⟨S,rfl,pS,sS⟩:=Zf7 a2 a3;have I1:Inv X pins σ H { s with heap:=h1,toks:=tk }:=I.kept hk;have hlen:S.length<64:=by rw[pS.length_eq];exact h64
  refine⟨.ref h1.objs.size,_,I1.laid (a:=h1.objs.size) (o:=.lst (nv S)) (h':=h2) (t':=tk) hk2 (Y05 _) ⟨?_,out.toList,e,Z6Z a1,by simpa using ho⟩,rfl,q _ S (I1.hok.fresh (Y05 _)) pS sS⟩;rw[ZA];exact Y16 (YR (by lia))
 rcases src with hq|hq|⟨kvs,hd,hkeys⟩
 ·obtain⟨its,rv,pl,hz⟩:=I.list hq;refine fin its (Ug rv) fun A R hA hR=>?_;refine collect_list pl.isList (hR its _ _ s.toks (Ug rv) rfl fun b o e=>?_) (by rw[<-rv.length];exact hz);exact (Y1h _ _ (Y55 (Y09 e))).trans (Y03 _ e)
 ·obtain⟨its,rv,pl,hz⟩:=I.tuple hq;refine fin its (Ug rv) fun A R hA hR=>?_;exact Z80 (show s.heap.IsTuple p its.toArray from pl) (by rw[<-rv.length];exact hz) fun h' hk=>hR its _ _ s.toks (Ug rv) rfl hk
 ·obtain⟨z,hs,vs,rv,dd⟩:=ZfX I.hok hd;obtain⟨ep,da⟩:=dd.dictAt;have hks:vs.map (·.1)=r.map fun (n:Nat)=>Sum.inl (n:Int):=by rw[<-rv.keys];exact hkeys
  have key:∀ (l:List Value),l.length=vs.length->(∀ (j:Nat) (v:Value),l[j]?=some v->∃ k x,vs[j]?=some (k,x)/\(YZ X.prog X.w).is k v=true)->IntsAre l (r.map fun (n:Nat)=>(n:Int)):=by
   intro l hl hj;refine Ug ?_;have hlr:l.length=r.length:=by rw[hl];simpa using congrArg Y2q hks
   have:∀ (r':List Nat) (l':List Value),l'.length=r'.length->(∀ (j:Nat) (v:Value),l'[j]?=some v->∃ n,r'[j]?=some n/\∃ t,v=Value.int (n:Int) t)->ZN (nv r') l':=by
    intro r'
    induction r' with
    | nil=>intro l' hl _;rw[Y25.mp hl];exact .nil
    | cons n r' ih=>
     intro l' hl hj;cases l' with
     | nil=>simp at hl
     | cons v l'=>
      obtain⟨m,em,t,ev⟩:=hj 0 v rfl;simp at em;subst em;exact .cons ⟨t,ev⟩ (ih l' (by simpa using hl) fun j v hv=>by simpa using hj (j+1) v (by simpa using hv))
   refine this r l hlr fun j v hv=>?_;obtain⟨k,x,e1,e2⟩:=hj j v hv;have e3:(r.map fun (n:Nat)=>(Sum.inl (n:Int):Key))[j]?=some k:=(by rw[<-hks,Y0l,e1];rfl);rw[Y0l]at e3;cases en:r[j]? with
   | none=>rw[en]at e3;cases e3
   | some n=>
    rw[en]at e3;have e4:(Sum.inl (n:Int):Key)=k:=Option.some.inj e3;subst e4;obtain⟨t,et⟩:=(show ∃ t,v=Value.int (n:Int) t from Z7x e2);exact⟨n,rfl,t,et⟩
  obtain⟨l0,hl0,hj0⟩:∃ l:List Value,l.length=vs.length/\∀ (j:Nat) (v:Value),l[j]?=some v->∃ k x,vs[j]?=some (k,x)/\(YZ X.prog X.w).is k v=true:=by
   refine⟨vs.map fun kv=>match kv.1 with|Sum.inl i=>Value.int i 0|Sum.inr x=>Value.str x 0,by simp,fun j v hv=>?_⟩;rw[Y0l]at hv;cases e:vs[j]? with
   | none=>rw[e]at hv;cases hv
   | some kv=>
    rw[e]at hv;obtain⟨k,x⟩:=kv;refine⟨k,x,rfl,?_⟩;cases k with
    | inl i=>cases hv;exact Z5f _ _ i 0
    | inr x=>cases hv;exact Z5i _ _ x 0
  refine fin l0 (key l0 hl0 hj0) fun A R hA hR=>?_;refine PySem.W.kdu_collect (PySem.W.kdl_dict (knd:=YZ X.prog X.w) (kvs:=vs) (ep:=ep) hs) hA da (by rw[<-rv.length];exact z) fun h' tk acc hk hacc=>?_;exact hR acc.toList _ h' tk (key acc.toList (by simpa using hacc.1) fun j v hv=>hacc.2 j v (by simpa using hv)) rfl hk
end
theorem Ze5 {sq:Hp->List V->Prop}{xs:List V}{g:TG}{tb:TS}{D:Yx}{σ:St}{H:Hp}(Pv:Nat->St->Hp->Prop)(h0:Pv 0 σ H)(hl:∀ i σ H,i<=xs.length->Pv i σ H->sq H xs)
  (hs:∀ i x σ H T,xs[i]?=some x->H T=none->Pv i σ H->g (.ref T) σ (upd H T (VO T [.int (i:Int),x])) fun σ2 H2=>tb { D with nx:=Pv (i+1),ct:=Pv (i+1),bk:=D.nx } σ2 H2) (hd:∀ σ H,Pv xs.length σ H->D.nx σ H) :
  ∃ W:Nat->Nat->St->Hp->Prop,(∃ m,W 0 m σ H)/\∀ i m σ H,W i m σ H->
   ((S9 sq).stop i H/\D.nx σ H)\/((S9 sq).go i H/\∃ N:St->Hp->Prop,(∀ σ' H',N σ' H'->∃ m',m'<m/\W (i+1) m' σ' H')/\∀ x H',(S9 sq).yld i H x H'->g x σ H' fun σ2 H2=>tb { D with nx:=N,ct:=N,bk:=D.nx } σ2 H2):=by
 refine⟨fun i m σ H=>m=xs.length-i/\i<=xs.length/\Pv i σ H,⟨xs.length,by simp,Y12 _,h0⟩,?_⟩;rintro i m σ H ⟨rfl,hi,p⟩;have q:=hl i σ H hi p
 by_cases hlt:i<xs.length
 ·refine .inr ⟨⟨xs,xs[i],q,by simp[hlt]⟩,Pv (i+1),fun σ' H' p'=>⟨xs.length-(i+1),by omega,rfl,hlt,p'⟩,fun x H' y=>?_⟩;obtain⟨T,z,hT,rfl,hz,rfl⟩:=y;exact hs i z σ H T (hz xs q) hT p
 ·have e:i=xs.length:=by omega
  subst e;exact .inl ⟨⟨xs,q,rfl⟩,hd σ H p⟩
def ZeX (n:Nat)(ys:List V)(Pv:Nat->St->Hp->Prop)(d:Addr)(i:Nat)(σ3:St)(y:V)(H4:Hp):Prop:=
 ∃ xs,H4 d=some (.lst xs)/\xs.length<sizeLine/\∃ m',m'<n-i/\m'=n-(i+1)/\i+1<=n/\Pv (i+1) σ3 (upd H4 d (.lst (xs++[y])))/\(upd H4 d (.lst (xs++[y]))) d=some (.lst (ys.take (i+1)))
theorem WA {n:Nat}{ys:List V}{Pv:Nat->St->Hp->Prop}{d:Addr}{i:Nat}{σ3:St}{y:V}{H4:Hp}(hi:i<n)(hn:n<=1000)(hd:H4 d=some (.lst (ys.take i)))(hy:ys[i]?=some y)(hp:Pv (i+1) σ3 (upd H4 d (.lst (ys.take (i+1))))) :
  ZeX n ys Pv d i σ3 y H4:=by
 have e:ys.take (i+1)=ys.take i++[y]:=by rw[Y1j,hy];rfl
 refine⟨_,hd,?_,n-(i+1),by omega,rfl,hi,by rw[<-e];exact hp,by rw[ZR,e]⟩;have:(ys.take i).length<=i:=by rw[Y3u];exact Nat.min_le_left _ _
 exact YR (by omega)
theorem Xg {J:It}{g:TG}{te:TE}{d:Addr}{σ0:St}{H1:Hp}{Q:Addr->Hp->Prop}(n:Nat)(ys:List V)(hy:ys.length=n)(Pv:Nat->St->Hp->Prop)(h0:Pv 0 σ0 (upd H1 d (.lst [])))
  (go:∀ i σ H,i<n->Pv i σ H->H d=some (.lst (ys.take i))->J.go i H/\∀ x H2,J.yld i H x H2->g x σ H2 fun σ3 H3=>te σ3 H3 fun y H4=>ZeX n ys Pv d i σ3 y H4)
  (stop:∀ σ H,Pv n σ H->H d=some (.lst ys)->J.stop n H/\Q d H) :
  ∃ W:Nat->Nat->St->Hp->Prop,(∃ m,W 0 m σ0 (upd H1 d (.lst [])))/\∀ i m σ' H',W i m σ' H'->
   (J.stop i H'/\Q d H')\/(J.go i H'/\∀ x H2,J.yld i H' x H2->g x σ' H2 fun σ3 H3=>te σ3 H3 fun y H4=>∃ xs,H4 d=some (.lst xs)/\xs.length<sizeLine/\∃ m',m'<m/\W (i+1) m' σ3 (upd H4 d (.lst (xs++[y])))):=by
 refine⟨fun i m σ H=>m=n-i/\i<=n/\Pv i σ H/\H d=some (.lst (ys.take i)),⟨n,by simp,Y12 _,h0,ZR⟩,?_⟩;rintro i m σ H ⟨rfl,hi,p,hd⟩
 by_cases hlt:i<n
 ·exact .inr (go i σ H hlt p hd)
 ·have e:i=n:=by omega
  subst e;rw[Y4a (by omega)]at hd;exact .inl (stop σ H p hd)
end L2
namespace Sq
theorem Wi {α:Type}[DecidableEq α]:∀ (l l':List α),l.Nodup->(∀ x∈l,x∈l')->l.length<=l'.length
 | [],_,_,_=>Y12 _
 | a::l,l',nd,h=>by
  have nd':=Y3j.mp nd;have ha:a∈l':=h a Y29;have:=Wi l (l'.erase a) nd'.2 fun x hx=>by
   have hne:x≠a:=fun e=>nd'.1 (e ▸ hx);exact (List.mem_erase_of_ne hne).mpr (h x (Y0y _ hx))
  rw[List.length_erase_of_mem ha]at this;have:=List.length_pos_of_mem ha;simp only[Y0w];lia
theorem full {α:Type}[DecidableEq α]{l l':List α}(nd:l.Nodup)(h:∀ x∈l,x∈l')(hl:l'.length<=l.length):∀ x∈l',x∈l:=fun x hx=>by
 refine Classical.byContradiction fun hn=>?_;have h1:(x::l).Nodup:=Y3j.mpr ⟨hn,nd⟩;have h2:=Wi (x::l) l' h1 fun y hy=>by
  rcases Y14.mp hy with rfl|hy
  ·exact hx
  ·exact h y hy
 simp only[Y0w]at h2;lia
theorem ZdV {α:Type}{l:List α}(nd:l.Nodup){i j:Nat}(hi:i<l.length)(hj:j<l.length)(e:l[i]=l[j]):i=j:=by
 have h:=Y39.mp nd;rcases Y3p i j with c|c|c
 ·exact absurd e (h i j hi hj c)
 ·exact c
 ·exact absurd e.symm (h j i hj hi c)
structure Row (n:Nat)(r:List Nat):Prop where
 len:r.length=n
 nd:r.Nodup
 lt:∀ x∈r,x<n
noncomputable abbrev nx (r:List Nat)(x:Nat):Nat:=r.getD x 0
section
variable {n:Nat}{r:List Nat}
theorem Row.get (h:Row n r){i:Nat}(hi:i<n):r[i]?=some (nx r i):=by
 have:i<r.length:=by rw[h.len];exact hi
 simp[nx,Y3g,Y01 this]
theorem Row.mem (h:Row n r){i:Nat}(hi:i<n):nx r i∈r:=Y0r (h.get hi)
theorem Row.nlt (h:Row n r){i:Nat}(hi:i<n):nx r i<n:=h.lt _ (h.mem hi)
theorem Row.has (h:Row n r){x:Nat}(hx:x<n):x∈r:=by
 refine full h.nd (l':=Y02 n) (fun y hy=>Y06.mpr (h.lt y hy)) (by simp[h.len]) x (Y06.mpr hx)
theorem Row.inj (h:Row n r){i j:Nat}(hi:i<n)(hj:j<n)(e:nx r i=nx r j):i=j:=by
 have h1:i<r.length:=by rw[h.len];exact hi
 have h2:j<r.length:=by rw[h.len];exact hj
 have e':r[i]=r[j]:=by simpa [nx,Y3g,Y01 h1,Y01 h2] using e
 exact ZdV h.nd h1 h2 e'
theorem Row.idx_lt (h:Row n r){x:Nat}(hx:x<n):r.idxOf x<n:=by
 have:=Y1k (h.has hx)
 rwa [h.len]at this
theorem Row.nx_idx (h:Row n r){x:Nat}(hx:x<n):nx r (r.idxOf x)=x:=by
 have h1:=Y1k (h.has hx);simp[nx,Y3g,Y01 h1]
theorem Row.idx_nx (h:Row n r){i:Nat}(hi:i<n):r.idxOf (nx r i)=i:=
 h.inj (h.idx_lt (h.nlt hi)) hi (h.nx_idx (h.nlt hi))
theorem Row.of_perm {l:List Nat}(p:l.Perm (Y02 n)):Row n l where
 len:=by simpa using p.length_eq
 nd:=p.nodup_iff.mpr Y24
 lt:=fun x hx=>Y06.mp (p.mem_iff.mp hx)
theorem Row.perm (h:Row n r):r.Perm (Y02 n):=by
 refine (Y28 h.nd Y24).mpr fun x=>⟨fun hx=>Y06.mpr (h.lt x hx),fun hx=>h.has (Y06.mp hx)⟩
end
noncomputable def back (r:List Nat):List Nat:=(Y02 r.length).map fun x=>r.idxOf x
theorem SE (r:List Nat):(back r).length=r.length:=by simp[back]
theorem Vo {n:Nat}{r:List Nat}(h:Row n r){x:Nat}(hx:x<n):nx (back r) x=r.idxOf x:=by
 have:x<r.length:=by rw[h.len];exact hx
 simp[nx,back,Y3g,this]
theorem Row.back {n:Nat}{r:List Nat}(h:Row n r):Row n (back r) where
 len:=by rw[SE,h.len]
 nd:=by
  refine Y1q.mpr (List.Pairwise.imp_of_mem (fun {a b} ha hb hne e=>hne ?_) (Y24 (n:=r.length)));rw[h.len]at ha hb;have ha:=Y06.mp ha;have hb:=Y06.mp hb;rw[<-h.nx_idx ha,e,h.nx_idx hb]
 lt:=fun x hx=>by
  obtain⟨y,hy,rfl⟩:=Y0g.mp hx;rw[h.len]at hy;exact h.idx_lt (Y06.mp hy)
def Zkq (n:Nat)(r u:List Nat)(T:Nat->Prop):Prop:=∀ x,x<n->T x->T (nx r x)/\T (nx u x)
structure Zg (n:Nat)(r u:List Nat):Prop where
 pos:1<=n
 most:n<=36
 row:Row n r
 col:Row n u
 conn:∀ T:Nat->Prop,T 0->Zkq n r u T->∀ x,x<n->T x
theorem Z8N {n:Nat}{line left:List Nat}{k:Nat}{y:Nat}(p:(line++left).Perm (Y02 n))(e:left[k]?=some y) :
  ((line++[y])++left.eraseIdx k).Perm (Y02 n):=by
 refine List.Perm.trans ?_ p;rw[Y2s];refine List.Perm.append_left _ ?_;have hk:k<left.length:=(Y08.mp e).1;have hy:left[k]=y:=(Y08.mp e).2;have h1:left=left.take k++left[k]::left.drop (k+1):=by
  rw[<-Y3a hk,Y4k]
 rw[List.eraseIdx_eq_take_drop_succ]
 conv=>rhs;rw[h1,hy]
 exact (List.perm_middle (a:=y) (l₁:=left.take k) (l₂:=left.drop (k+1))).symm
structure Met (n:Nat)(r u:List Nat)(first:Nat)(M:List Nat)(k:Nat):Prop where
 nd:M.Nodup
 hd:first∈M
 lt:∀ x∈M,x<n
 kle:k<=M.length
 shut:∀ i x,i<k->M[i]?=some x->nx r x∈M/\nx u x∈M
 least:∀ T:Nat->Prop,T first->Zkq n r u T->∀ x∈M,T x
theorem Met.len {n:Nat}{r u:List Nat}{first:Nat}{M:List Nat}{k:Nat}(h:Met n r u first M k):M.length<=n:=by
 have:=Wi M (Y02 n) h.nd fun x hx=>Y06.mpr (h.lt x hx)
 simpa using this
theorem Met.start {n:Nat}{r u:List Nat}{first:Nat}(h:first<n):Met n r u first [first] 0 where
 nd:=by simp
 hd:=by simp
 lt:=fun x hx=>by rw[Y0k.mp hx];exact h
 kle:=Y12 _
 shut:=fun i x hi=>absurd hi (Y1y _)
 least:=fun T h0 _ x hx=>by rw[Y0k.mp hx];exact h0
noncomputable def put (M:List Nat)(y:Nat):List Nat:=if y∈M then M else M++[y]
theorem Yi {M:List Nat}{y x:Nat}:x∈put M y↔x∈M\/x=y:=by
 unfold put;split
 ·rename_i h;exact⟨.inl,fun q=>q.elim id fun e=>e ▸ h⟩
 ·simp
theorem Za5 {M:List Nat}{y x:Nat}{i:Nat}(h:M[i]?=some x):(put M y)[i]?=some x:=by
 unfold put;split
 ·exact h
 ·rw[Y38 (Y08.mp h).1];exact h
theorem Z9T {M:List Nat}{y:Nat}:M.length<=(put M y).length:=by
 unfold put;split<;>simp
theorem ZdE {M:List Nat}{y:Nat}(h:M.Nodup):(put M y).Nodup:=by
 unfold put;split
 ·exact h
 ·rename_i hy;exact Y5n.mpr ⟨h,by simp,fun a ha b hb e=>hy (by rw[Y0k.mp hb]at e;exact e ▸ ha)⟩
theorem Met.step {n:Nat}{r u:List Nat}{first:Nat}{M:List Nat}{k x:Nat}(h:Met n r u first M k)(hr:Row n r)(hu:Row n u)(hx:M[k]?=some x) :
  Met n r u first (put (put M (nx r x)) (nx u x)) (k+1) where
 nd:=ZdE (ZdE h.nd)
 hd:=Yi.mpr (.inl (Yi.mpr (.inl h.hd)))
 lt:=fun y hy=>by
  have hxn:=h.lt x (Y0r hx);rcases Yi.mp hy with hy|rfl
  ·rcases Yi.mp hy with hy|rfl
   ·exact h.lt y hy
   ·exact hr.nlt hxn
  ·exact hu.nlt hxn
 kle:=by
  have:=(Y08.mp hx).1;have h1:=Z9T (M:=M) (y:=nx r x);have h2:=Z9T (M:=put M (nx r x)) (y:=nx u x);lia
 shut:=fun i y hi hy=>by
  have hk:=(Y08.mp hx).1;have hi':i<M.length:=by lia
  have e:M[i]?=some M[i]:=Y01 hi';have e2:=Za5 (y:=nx u x) (Za5 (y:=nx r x) e);rw[hy]at e2;have e3:y=M[i]:=Option.some.inj e2;rw[<-e3]at e;rcases Y0q i k with hlt|hge
  ·obtain⟨a,b⟩:=h.shut i y hlt e;exact⟨Yi.mpr (.inl (Yi.mpr (.inl a))),Yi.mpr (.inl (Yi.mpr (.inl b)))⟩
  ·have:i=k:=(by lia);subst this;rw[hx]at e;cases e;exact⟨Yi.mpr (.inl (Yi.mpr (.inr rfl))),Yi.mpr (.inr rfl)⟩
 least:=fun T h0 hs y hy=>by
  have hxM:=Y0r hx;have hxn:=h.lt x hxM;have hT:=h.least T h0 hs x hxM;rcases Yi.mp hy with hy|rfl
  ·rcases Yi.mp hy with hy|rfl
   ·exact h.least T h0 hs y hy
   ·exact (hs x hxn hT).1
  ·exact (hs x hxn hT).2
structure TK (n:Nat)(r u:List Nat)(first:Nat)(M:List Nat):Prop where
 nd:M.Nodup
 hd:first∈M
 lt:∀ x∈M,x<n
 shut:∀ x∈M,nx r x∈M/\nx u x∈M
 least:∀ T:Nat->Prop,T first->Zkq n r u T->∀ x∈M,T x
theorem Met.all {n:Nat}{r u:List Nat}{first:Nat}{M:List Nat}{k:Nat}(h:Met n r u first M k)(hk:M.length<=k):TK n r u first M where
 nd:=h.nd
 hd:=h.hd
 lt:=h.lt
 shut:=fun x hx=>by
  obtain⟨i,hi,e⟩:=Y1i.mp hx;exact h.shut i x (by lia) (by rw[Y01 hi,e])
 least:=h.least
theorem TK.perm {n:Nat}{r u:List Nat}{first:Nat}{M S:List Nat}(h:TK n r u first M)(p:S.Perm M):TK n r u first S where
 nd:=p.nodup_iff.mpr h.nd
 hd:=p.mem_iff.mpr h.hd
 lt:=fun x hx=>h.lt x (p.mem_iff.mp hx)
 shut:=fun x hx=>⟨p.mem_iff.mpr (h.shut x (p.mem_iff.mp hx)).1,p.mem_iff.mpr (h.shut x (p.mem_iff.mp hx)).2⟩
 least:=fun T h0 hs x hx=>h.least T h0 hs x (p.mem_iff.mp hx)
noncomputable def Yz (r S:List Nat):List Nat:=S.map fun x=>S.idxOf (nx r x)
theorem Z7d (r S:List Nat):(Yz r S).length=S.length:=by simp[Yz]
theorem Z8s {r S:List Nat}{i:Nat}{x:Nat}(h:S[i]?=some x):nx (Yz r S) i=S.idxOf (nx r x):=by
 simp[nx,Yz,Y3g,h]
theorem ZaY {S:List Nat}(nd:S.Nodup){i x:Nat}(h:S[i]?=some x):S.idxOf x=i:=by
 obtain⟨hi,e⟩:=Y08.mp h;have hm:x∈S:=Y0r h;have h1:=Y1k hm;have e1:S[S.idxOf x]=x:=Y59 h1;exact ZdV nd h1 hi (e1.trans e.symm)
theorem Su {S:List Nat}{x:Nat}(h:x∈S):S[S.idxOf x]?=some x:=by
 have h1:=Y1k h;rw[Y01 h1,Y59 h1]
theorem Z6P {n:Nat}{r S:List Nat}(hr:Row n r)(nd:S.Nodup)(lt:∀ x∈S,x<n)(cl:∀ x∈S,nx r x∈S):Row S.length (Yz r S) where
 len:=Z7d r S
 nd:=by
  refine Y1q.mpr (List.Pairwise.imp_of_mem (fun {a b} ha hb hne e=>hne ?_) nd);have h1:=Su (cl a ha);rw[e,Su (cl b hb)]at h1;exact hr.inj (lt a ha) (lt b hb) (Option.some.inj h1).symm
 lt:=fun x hx=>by
  obtain⟨y,hy,rfl⟩:=Y0g.mp hx;exact Y1k (cl y hy)
theorem Z7z {n:Nat}{r u S:List Nat}(hn:n<=36)(hr:Row n r)(hu:Row n u)(h:TK n r u 0 S)(so:S.Pairwise (·<=·)):Zg S.length (Yz r S) (Yz u S) where
 pos:=List.length_pos_of_mem h.hd
 most:=by
  have:=Wi S (Y02 n) h.nd fun x hx=>Y06.mpr (h.lt x hx);simp only[Y0v]at this;lia
 row:=Z6P hr h.nd h.lt fun x hx=>(h.shut x hx).1
 col:=Z6P hu h.nd h.lt fun x hx=>(h.shut x hx).2
 conn:=fun T h0 hs i hi=>by
  have z:S[0]?=some 0:=by
   cases S with
   | nil=>exact absurd h.hd (by simp)
   | cons a S=>
    rcases Y14.mp h.hd with e|hm
    ·simp[<-e]
    ·have:=(Y5a.mp so).1 0 hm;have:a=0:=(by lia);simp[this]
  have key:=h.least (fun x=>x∈S/\T (S.idxOf x)) ⟨h.hd,by rw[ZaY h.nd z];exact h0⟩ fun x _ ⟨hx,t⟩=>by
   have hlt:=Y1k hx;have:=hs (S.idxOf x) hlt t;rw[Z8s (Su hx),Z8s (Su hx)]at this;exact⟨⟨(h.shut x hx).1,this.1⟩,(h.shut x hx).2,this.2⟩
  have e:S[i]?=some S[i]:=Y01 hi;have:=(key S[i] (Y2m hi)).2
  rwa [ZaY h.nd e]at this
theorem Z3K:∀ {l l':List Nat},l.Perm l'->l.Pairwise (·<=·)->l'.Pairwise (·<=·)->l=l'
 | [],l',p,_,_=>(List.nil_perm.mp p).symm
 | a::l,[],p,_,_=>absurd p.length_eq (by simp)
 | a::l,b::l',p,h,h'=>by
  have ha:=Y5a.mp h;have hb:=Y5a.mp h';have e:a=b:=by
   have h1:a∈b::l':=p.mem_iff.mp Y29;have h2:b∈a::l:=p.mem_iff.mpr Y29;rcases Y14.mp h1 with e|h1
   ·exact e
   ·rcases Y14.mp h2 with e|h2
    ·exact e.symm
    ·have:=hb.1 a h1;have:=ha.1 b h2;lia
  subst e;rw[Z3K (List.Perm.cons_inv p) ha.2 hb.2]
theorem Z6L (n:Nat):(Y02 n).Pairwise (·<=·):=List.Pairwise.imp (fun h=>Y16 h) Y4b
end Sq
namespace Sq
variable {n:Nat}{r u:List Nat}{first:Nat}{F:List Nat}{P:List (List Nat)}{k j:Nat}
end Sq
namespace K1
open PySem L2
noncomputable def top (i:Nat):Stmt:=PySem.Challenge.pw_squaresheet_k63_whole_bands_by_walking.main.body.getD i (.Pass ⟨0,0,0,0⟩)
noncomputable abbrev TF:Stmt:=top 9
noncomputable abbrev WW:Stmt:=top 10
noncomputable abbrev Wm:Stmt:=top 11
noncomputable abbrev Tx:Stmt:=top 12
noncomputable abbrev UK:Stmt:=top 13
noncomputable abbrev WQ:Stmt:=top 14
noncomputable abbrev UA:Stmt:=top 16
noncomputable abbrev Vy:Stmt:=top 17
noncomputable abbrev VI:Stmt:=top 18
noncomputable abbrev Tt:Stmt:=top 20
noncomputable abbrev Uo:Stmt:=top 21
noncomputable abbrev V8:Stmt:=top 22
noncomputable abbrev Wo:Stmt:=top 23
noncomputable abbrev VC:Stmt:=top 24
noncomputable abbrev VE:Stmt:=top 25
noncomputable abbrev VD:Stmt:=top 26
noncomputable abbrev ZfW:Stmt:=top 28
noncomputable abbrev VL:Stmt:=top 29
noncomputable abbrev Ur:Stmt:=top 34
noncomputable abbrev UO:Stmt:=top 35
noncomputable abbrev Vs:Stmt:=top 36
noncomputable abbrev VF:Stmt:=top 37
noncomputable abbrev Xk:Stmt:=top 38
noncomputable abbrev Xz:Stmt:=top 39
noncomputable abbrev Ud:Stmt:=top 40
noncomputable abbrev Tw:Stmt:=top 43
noncomputable abbrev UM:Stmt:=top 44
noncomputable abbrev VG:Stmt:=top 45
noncomputable abbrev UE:Stmt:=top 46
noncomputable abbrev Vv:Stmt:=top 47
noncomputable abbrev VM:Stmt:=top 48
noncomputable abbrev Vq:Stmt:=top 49
noncomputable abbrev Ue:Stmt:=top 50
noncomputable abbrev UD:Stmt:=top 51
noncomputable abbrev UP:Stmt:=top 52
noncomputable abbrev Uh:Stmt:=top 53
noncomputable abbrev US:Stmt:=top 54
noncomputable abbrev Up:Stmt:=top 55
noncomputable abbrev VA:Stmt:=top 57
noncomputable abbrev Ui:Stmt:=top 58
noncomputable abbrev T5:Stmt:=top 59
noncomputable abbrev UL:Stmt:=top 60
noncomputable abbrev Uz:Stmt:=top 62
noncomputable abbrev Wu:Stmt:=top 63
noncomputable abbrev UU:Stmt:=top 64
noncomputable abbrev Vt:Stmt:=top 66
noncomputable abbrev Vf:Stmt:=top 67
noncomputable abbrev Uv:Stmt:=top 68
noncomputable abbrev Tz:Stmt:=top 69
noncomputable abbrev W2:Stmt:=top 70
noncomputable abbrev V7:Stmt:=top 71
noncomputable abbrev T8:Stmt:=top 72
noncomputable abbrev UG:Stmt:=top 73
noncomputable abbrev TQ:Stmt:=top 74
noncomputable abbrev Tv:Stmt:=top 75
noncomputable abbrev Tq:Stmt:=top 76
noncomputable abbrev VH:Stmt:=top 77
noncomputable abbrev T6:Stmt:=top 78
noncomputable abbrev VB:Stmt:=top 79
noncomputable abbrev Uu:Stmt:=top 80
noncomputable abbrev Te:Stmt:=top 81
noncomputable abbrev VT:Stmt:=top 82
end K1
namespace K1
open PySem L2 Sq
structure Bi (mg:Str->Option Value):Prop where
 len:mg "len"=none
 range:mg "range"=none
 list:mg "list"=none
 tuple:mg "tuple"=none
 isin:mg "isinstance"=none
 int:mg "int"=none
 bool:mg "bool"=none
 all:mg "all"=none
 set:mg "set"=none
 sorted:mg "sorted"=none
 enum:mg "enumerate"=none
structure Fn (K:Y00)(mg:Str->Option Value)(x:Str)(st:Stmt)(ps:List Str)(f:Addr)(fd:FuncData):Prop where
 F:Fun K x x st f fd
 b:YU K fd ps []
 m:mg x=some (.ref f)
def Xp (K:Y00)(H:Hp)(p:Addr)(r:List Nat):Prop:=SqL K H p (nv r)\/SqT K H p (nv r)
def Xv:Sp:=fun vs H Q _=>∃ i:Int,vs=[.int i]/\Q (.bl true) H
def Zes:Sp:=fun vs H Q _=>∃ (a:Addr) (r u:List Nat),vs=[.ref a]/\Zn H a r u/\Q (.int (r.length:Int)) H
def ZdI:Sp:=fun vs H Q _=>∃ i n:Int,vs=[.int i,.int n]/\Q (.bl (decide (0<=i/\i<n))) H
theorem XB:bootBuiltins "isinstance"=some (.builtin "isinstance"):=by decide +kernel
theorem Z8l:bootBuiltins "int"=some (.type "int"):=by decide +kernel
theorem Z7s:bootBuiltins "bool"=some (.type "bool"):=by decide +kernel
theorem XC:bootBuiltins "tuple"=some (.type "tuple"):=by decide +kernel
theorem UJ:bootBuiltins "list"=some (.type "list"):=by decide +kernel
theorem Z5Z:bootBuiltins "all"=some (.builtin "all"):=by decide +kernel
theorem UR:bootBuiltins "sorted"=some (.builtin "sorted"):=by decide +kernel
theorem Zd3 (xs:List Nat)(k:Nat):(nv xs).eraseIdx k=nv (xs.eraseIdx k):=by
 unfold nv
 induction xs generalizing k with
 | nil=>rfl
 | cons x xs ih=>cases k with
  | zero=>rfl
  | succ k=>simp only[Y11,List.eraseIdx_cons_succ,ih]
theorem ZS {H H':Hp}{l:Addr}{o:HO}(e:Z5 H H')(h:H l=none):Z5 H (upd H' l o):=fun b u q=>by
 rw[ZK (Zc q h)];exact e b u q
theorem Z9P {H:Hp}{lf:Addr}{left:List Nat}{x:Int}{Q:VK}(h:H lf=some (.lst (nv left)))(h0:0<left.length)(h1:left.length<=36)
  (q:∀ (k y:Nat),left[k]?=some y->Q (.int (y:Int)) (upd H lf (.lst (nv (left.eraseIdx k))))):Zeb (.ref lf) [.int (x%((nv left).length:Int))] H Q:=by
 have hl:=ZA left;have a0:0<=x%((nv left).length:Int):=Y2x _ (by lia);have a1:x%((nv left).length:Int)<((nv left).length:Int):=Y2a _ (by lia);have a2:(x%((nv left).length:Int)).toNat<left.length:=by lia
 have a3:left[(x%((nv left).length:Int)).toNat]?=some left[(x%((nv left).length:Int)).toNat]:=Y01 a2;refine⟨lf,_,_,(x%((nv left).length:Int)).toNat,_,rfl,rfl,h,by lia,by lia,seqIndex_of a0 a1,Zp a3,?_⟩;rw[Zd3];exact q _ _ a3
theorem Z5.tseq {K:Y00}{H H':Hp}{a:Addr}{xs:List V}(e:Z5 H H')(h:SqT K H a xs):SqT K H' a xs:=by
 rcases h with (h|⟨o,h⟩)|h
 ·exact .inl (.inl (e _ _ h))
 ·exact .inl (.inr ⟨o,e _ _ h⟩)
 ·exact .inr h
theorem Xp.same {K:Y00}{H H':Hp}{p:Addr}{r:List Nat}(e:Z5 H H')(h:Xp K H p r):Xp K H' p r:=h.imp e.seq (Z5.tseq e)
theorem U4 {K:Y00}{H:Hp}{p:Addr}{r:List Nat}{n i:Nat}{Q:VK}(h:Xp K H p r)(hr:Row n r)(hi:i<n)(q:Q (.int (nx r i:Int)) H):rIx K (.ref p) (.int (i:Int)) H Q:=by
 rcases h with h|h
 ·exact .inl ⟨p,_,_,_,rfl,rfl,h,Z0 (Zp (hr.get hi)),q⟩
 ·exact .inr (.inl ⟨p,_,_,_,rfl,rfl,h,Z0 (Zp (hr.get hi)),q⟩)
theorem Sv (xs:List Nat):(nv xs).all W8=true:=by
 rw[Y3f];intro x hx;obtain⟨n,_,rfl⟩:=Y0g.mp hx
 rfl
theorem Sb (x:Nat)(xs:List Nat):inV (.int (x:Int)) (nv xs)=decide (x∈xs):=by
 unfold inV nv;rw[List.any_map];apply Y2b.mpr;rw[Y1e,decide_eq_true_iff];constructor
 ·rintro ⟨y,hy,e⟩;have:(y:Int)=(x:Int):=by simpa [eqV,Ry] using e
  have:y=x:=by lia
  rw[<-this];exact hy
 ·intro h;exact⟨x,h,by simp[eqV,Ry]⟩
noncomputable def mu (j:Nat)(σ:St):Nat:=match σ[j]? with
 | some (some (.int k))=>(100-k).toNat
 | _=>0
theorem Z3B:∀ (l M:List Nat),(l.foldl put M).length<=M.length+l.length
 | [],M=>Y05 _
 | x::l,M=>by
  have h1:=Z3B l (put M x);have h2:(put M x).length<=M.length+1:=by unfold put;split<;>simp
  simp only[List.foldl_cons,Y0w];lia
end K1
namespace L2
open PySem PySem.Spec PyProof.Rows
noncomputable def Its (z:Str):It:=⟨fun i _=>i<z.length,fun i H x H'=>H'=H/\∃ c,z.cps[i]?=some c/\x=.str ⟨#[c]⟩,fun i _=>z.length=i⟩
theorem Zdo {P:Program}{w:World}{K:Y00}{tg:Expr}(it:Addr)(z:Str)(t:Tok):UY P w K tg (Its z) [it] it (fun i h=>h.IsStrIter it (strIterType z) z t i):=by
 have W:∀ {A:Around},A.handled=none->Walks P w A it [it] [it] z.cps.size (SignAt z) (fun i h=>h.IsStrIter it (strIterType z) z t i):=by
  intro A hh;unfold strIterType
  split
  ·exact Walks.strAscii hh it z t
  ·exact Walks.strWide hh it z t
 have hty:["enumerate","zip","dict_itemiterator","dict_reverseitemiterator","odict_iterator","itertools.zip_longest","itertools.pairwise"].contains (strIterType z)=false:=by
  unfold strIterType;split<;>decide
 exact {
  mem:=by simp
  obj:=fun i h st b hb=>by
   have e:b=it:=by simpa using hb
   subst e
   obtain⟨o,e,c,d⟩:=st
   exact⟨o,e,fun v z=>by rw[d]at z;cases z⟩
  keep:=fun i h h' st k=>let ⟨o,ho,r⟩:=st;⟨o,k it (by simp) o ho,r⟩
  item:=by
   intro X hP hw hK hc i pins s σ H E I hf st hg
   subst hP hw hK
   obtain⟨f0,f1,f2,f3,f4,f5⟩:=hf it (by simp)
   refine (W (I.ok.hd hc)).item i s _ _ hg st fun v h' tk hv st' kk=>?_
   obtain⟨c,u,hc',rfl⟩:=hv
   have I1:Inv X pins σ H { s with heap:=h',toks:=tk }:=I.turned (fun b o hb e=>kk b o (by simpa using hb) e) f0 f1 f3 f4 f5
   obtain⟨o,e,c1,d⟩:=id st'
   exact⟨_,rfl,RO (s:={ s with heap:=h',toks:=tk }) e c1 d hty ⟨.str ⟨#[c]⟩,H,I1,⟨_,rfl⟩,⟨rfl,c,hc',rfl⟩,st',fun b hb=>(hf b hb).1⟩⟩
  done:=by
   intro X hP hw hK hc i pins s σ H E I hf st hg
   subst hP hw hK
   obtain⟨f0,f1,f2,f3,f4,f5⟩:=hf it (by simp)
   have hg:z.cps.size=i:=hg
   subst hg
   exact (W (I.ok.hd hc)).done s _ _ st fun h' tk kk=>⟨rfl,I.turned (fun b o hb e=>kk b o (by simpa using hb) e) f0 f1 f3 f4 f5⟩
  self:=fun A i s Q E st h=>by
   obtain⟨o,e,c,d⟩:=id st
   unfold strIterType at st
   split at st
   ·exact wpAny_pyIter_striter_ascii st h
   ·exact wpAny_pyIter_striter_wide st h }
section
variable {X:Cx}{tg:Expr}
noncomputable def iStr (tl:TE):TI:=fun σ H R=>tl σ H fun x H1=>∃ z,x=.str z/\R (Its z) H1
theorem Zag {l:Expr}{tl:TE}(hl:PE X l tl):PI X tg l (iStr tl):=by
 intro pins s σ H R I h;refine thn (hl pins s σ H _ I h) fun v s1 ⟨x,H1,I1,r1,q1⟩=>?_;obtain⟨z,e,q⟩:=q1;subst e;obtain⟨t,rfl⟩:=r1;refine wpAny_pyIter_strU ?_;refine⟨s1.heap.objs.size,[s1.heap.objs.size],_,_,H1,rfl,I1.kept (t':=s1.toks) fun b o e=>Y03 _ e,Zdo _ z t,⟨_,Y0b _ rfl,rfl,rfl⟩,fun b hb=>?_,q⟩;have e:b=s1.heap.objs.size:=by simpa using hb
 subst e;exact I1.fpOk (Y05 _) (I1.hok.fresh (Y05 _))
theorem Zbb {z:Str}{g:TG}{tb:TS}{D:Yx}{σ:St}{H:Hp}(Pv:Nat->St->Hp->Prop)(h0:Pv 0 σ H)
  (hs:∀ i c σ H,z.cps[i]?=some c->Pv i σ H->g (.str ⟨#[c]⟩) σ H fun σ2 H2=>tb { D with nx:=Pv (i+1),ct:=Pv (i+1),bk:=D.nx } σ2 H2) (hd:∀ σ H,Pv z.length σ H->D.nx σ H) :
  ∃ W:Nat->Nat->St->Hp->Prop,(∃ m,W 0 m σ H)/\∀ i m σ H,W i m σ H->
   ((Its z).stop i H/\D.nx σ H)\/((Its z).go i H/\∃ N:St->Hp->Prop,(∀ σ' H',N σ' H'->∃ m',m'<m/\W (i+1) m' σ' H')/\∀ x H',(Its z).yld i H x H'->g x σ H' fun σ2 H2=>tb { D with nx:=N,ct:=N,bk:=D.nx } σ2 H2):=by
 refine⟨fun i m σ H=>m=z.length-i/\i<=z.length/\Pv i σ H,⟨z.length,by simp,Y12 _,h0⟩,?_⟩;rintro i m σ H ⟨rfl,hi,hp⟩;rcases Y0q i z.length with c|c
 ·refine .inr ⟨c,Pv (i+1),fun σ' H' q=>⟨z.length-(i+1),by lia,rfl,c,q⟩,?_⟩;rintro x H' ⟨rfl,ch,hc,rfl⟩;exact hs i ch σ _ hc hp
 ·have e:i=z.length:=Nat.le_antisymm hi c;subst e;exact .inl ⟨rfl,hd σ H hp⟩
noncomputable def Zie (te:TE):TE:=fun σ H Q=>te σ H fun x H1=>∃ i:Int,x=.int i/\i.natAbs.log2<1920/\Q (.str (toString i)) H1
theorem T9 {e:Expr}{te:TE}{pos:Pos}(he:PE X e te):PE X (.FormattedValue e (-1) none pos) (Zie te):=by
 intro pins s σ H Q I h;refine wpAny_FormattedValue_plain (thn (he pins s σ H _ I h) fun v s1 ⟨x,H1,I1,r1,i,e,hz,q⟩=>?_);subst e;obtain⟨t,rfl⟩:=r1;exact wpAny_formatField_int hz ⟨.str (toString i),H1,I1.tok _,⟨_,rfl⟩,q⟩
noncomputable def Sm:List TE->Str->TE
 | [],acc=>fun _ H Q=>Q (.str acc) H
 | t::ts,acc=>fun σ H Q=>t σ H fun x H1=>∃ y,x=.str y/\(acc++y).length<=sizeLine/\Sm ts (acc++y) σ H1 Q
inductive TY (X:Cx):List Expr->List TE->Prop
 | nil:TY X [] []
 | cons {e:Expr} {t:TE} {es:List Expr} {ts:List TE}:PE X e t->TY X es ts->TY X (e::es) (t::ts)
theorem Z4l (env:Env):∀ es:List Expr,evalEach es env=es.map fun e=>eval e env
 | []=>rfl
 | e::es=>by
  show eval e env::evalEach es env=_;rw[Z4l env es];rfl
theorem Z85 {pins:List (Addr×Obj)}:∀ {es:List Expr} {ts:List TE} {acc:Str} {s:Shared} {σ:St} {H:Hp} {Q:VK},TY X es ts->Inv X pins σ H s->acc.length<=sizeLine->Sm ts acc σ H Q->
  Joins (model X.prog X.w) X.A X.xe (es.map fun e=>eval e X.env) acc (fun out s₁=>out.length<=sizeLine/\EP X pins σ Q (.str out s₁.toks) { s₁ with toks:=s₁.toks+1 }) s
 | [],_,acc,s,σ,H,Q,.nil,I,hz,h=>⟨hz,.str acc,H,I.tok _,⟨_,rfl⟩,h⟩
 | e::es,_,acc,s,σ,H,Q,.cons h1 hr,I,hz,h=>by
  refine thn (h1 pins s σ H _ I h) fun v s1 ⟨x,H1,I1,r1,y,ex,hy,q⟩=>?_;subst ex;obtain⟨t,rfl⟩:=r1;exact⟨y,t,rfl,hy,Z85 hr I1 hy q⟩
theorem Z7Q {e1 e2:Expr}{es:List Expr}{ts:List TE}{pos:Pos}(h:TY X (e1::e2::es) ts):PE X (.JoinedStr (e1::e2::es) pos) (Sm ts Str.empty):=by
 intro pins s σ H Q I hw;refine wpAny_JoinedStr ?_;rw[Z4l];exact Z85 h I (by decide) hw
end
def UX (B:Heap)(e:Addr)(C:Value)(d:Option Addr)(h:Heap):Prop:=
 ∃ oe vs,h.get? e=some oe/\oe.cls=C/\oe.dict=d/\oe.data=.fields vs/\vs[2]?=some .none/\(vs[1]?=some .none\/∃ T oT ts fl,vs[1]?=some (.ref T)/\B.get? T=none/\T≠e/\h.get? T=some oT/\oT.data=.fields ts/\ts[3]?=some fl)
def VQ (B:Heap)(e:Addr)(C:Value)(d:Option Addr)(fl:Value)(h:Heap):Prop:=
 ∃ oe vs T oT ts,h.get? e=some oe/\oe.cls=C/\oe.dict=d/\(oe.data=.fields vs/\vs[2]?=some .none)/\vs[1]?=some (.ref T)/\B.get? T=none/\T≠e/\h.get? T=some oT/\oT.data=.fields ts/\ts[3]?=some fl
theorem VQ.at {B h:Heap}{e:Addr}{C fl:Value}{d:Option Addr}(x:VQ B e C d fl h):UX B e C d h:=by
 obtain⟨oe,vs,T,oT,ts,h1,h2,h3,h4,h5,h6,h7,h8,h9,h10⟩:=x;exact⟨oe,vs,h1,h2,h3,h4.1,h4.2,.inr ⟨T,oT,ts,fl,h5,h6,h7,h8,h9,h10⟩⟩
structure Air (B:Heap)(l:List Env)(e:Addr)(h:Heap):Prop where
 stays:B.StaysIn h
 new:B.get? e=none
 frames:h.FunFrames B l
section
variable {M:Model}{A:Around}{E:Value->Shared->Prop}{s:Shared}
theorem Z5A (o:Obj)(f:Array Value->Array Value):(o.mapFields f).dict=o.dict:=by
 obtain⟨c,d,dt,sl⟩:=o;cases dt<;>rfl
theorem Z7q {B:Heap}{env:Env}{outer:List Env}{L e:Addr}{oe:Obj}{vs:Array Value}{head:Value}{had:Bool}{Q:Unit->Shared->Prop}
  (fr:A.frames=some (env::outer)) (fl:env.frame=some L) (a:Air B (env::outer) e s.heap) (he:s.heap.get? e=some oe) (hd:oe.data=.fields vs) (hcx:vs[2]?=some .none)
  (q:∀ h',Air B (env::outer) e h'->VQ B e oe.cls oe.dict (rawInt L) h'->s.heap.UpToSlots h'->Q () { s with heap:=h' }) :
  wpAny M A (do let f <-frameOf env;let pl <-entryPlaceOf L had;let b <-EntryCells.newEntry head f .none (rawInt L) .none pl;setField (.ref e) 1 b) Q E s:=by
 have hz2:2<vs.size:=(Y51.mp hcx).1;have hz:1<vs.size:=by omega
 have nfr:e∉(env::outer).filterMap (·.frame):=fun z=>by
  obtain⟨_,o,ho,hn⟩:=a.frames.mem z;rw[he]at ho;cases ho;exact hn vs hd
 refine wpAny_bind (wpAny_frameOf_fun fr a.frames fl fun h1 so=>?_);refine wpAny_bind (wpAny_entryPlaceOf fun pl hpl=>?_);unfold EntryCells.newEntry newFields;refine wpAny_bind (wpAny_newObj_type ?_ (hpl.sizeOk5 _ _ _ _ _));have he1:h1.get? e=some oe:=by rw[so.2.1 e nfr];exact he
 have st1:B.StaysIn h1:=fun b o hb=>by
  rw[so.2.1 b fun z=>by rw[(a.frames.mem z).1]at hb;cases hb];exact a.stays b o hb
 generalize hrec:({ cls:=.type "traceback",dict:=none,data:=.fields ([head,.ref L,.none,rawInt L,.none]++(if pl.isEmpty then Y0c 6 Value.none else pl)).toArray }:Obj)=rec;have rdat:∃ ts:Array Value,rec.data=.fields ts/\ts[3]?=some (rawInt L):=by
  refine⟨([head,.ref L,.none,rawInt L,.none]++(if pl.isEmpty then Y0c 6 Value.none else pl)).toArray,by rw[<-hrec],?_⟩;simp
 obtain⟨ts,rd,r3⟩:=rdat;have he2:=Y03 (h:=h1) rec he1;refine wpAny_setField he2 hd hz ?_;have nT:h1.objs.size≠e:=Y55 (Y09 he1);have dat3:=Obj.data_mapFields hd (·.setIfInBounds 1 (Value.ref h1.objs.size));have he3:=Y3k (Obj.mapFields (·.setIfInBounds 1 (Value.ref h1.objs.size))) he2 (Obj.isFreed_of_fields dat3);have rnf:rec.isFreed=false:=Obj.isFreed_of_fields rd;have hT3:((h1.push rec).update e (Obj.mapFields (·.setIfInBounds 1 (Value.ref h1.objs.size)))).get? h1.objs.size=some rec:=by
  rw[Y1h _ _ (Ne.symm nT)];exact Y0b h1 rnf
 have keep:∀ b o,b≠e->h1.get? b=some o->((h1.push rec).update e (Obj.mapFields (·.setIfInBounds 1 (Value.ref h1.objs.size)))).get? b=some o:=fun b o nb hb=>by
  rw[Y1h _ _ (Ne.symm nb)];exact Y03 _ hb
 have nrec:∀ b o,s.heap.get? b=some o->(∀ ws,o.data≠.fields ws)->b≠e:=fun b o hb hn z=>by
  rw[z,he]at hb;cases hb;exact hn vs hd
 refine q _ ⟨fun b o hb=>keep b o (fun z=>by rw[z,a.new]at hb;cases hb) (st1 b o hb),a.new,a.frames.of_keeps fun b o hb hn=>?_⟩ ?_ fun b o hb hn=>?_
 ·obtain⟨sl,e1⟩:=so.2.2 b o hb;exact⟨_,keep b _ (nrec b o hb hn) e1,rfl⟩
 ·refine⟨_,_,h1.objs.size,rec,ts,he3,Obj.cls_mapFields _ _,Z5A _ _,⟨dat3,by rw[Array.getElem?_setIfInBounds_ne (by decide)];exact hcx⟩,by simp[hz],st1.fresh,nT,hT3,rd,r3⟩
 ·obtain⟨sl,e1⟩:=so.2.2 b o hb;exact⟨sl,keep b _ (nrec b o hb hn) e1⟩
theorem Z8b {B:Heap}{l:List Env}{e T:Addr}{oe oT:Obj}{vs ts:Array Value}{fl v:Value}(a:Air B l e s.heap)(he:s.heap.get? e=some oe)(hd:oe.data=.fields vs)(hcx:vs[2]?=some .none)(h1:vs[1]?=some (.ref T))(nT:B.get? T=none)(nTe:T≠e)
  (hT:s.heap.get? T=some oT) (hdT:oT.data=.fields ts) (h3:ts[3]?=some fl) {Q:Unit->Shared->Prop}
  (q:∀ h',Air B l e h'->h'.get? e=some oe->VQ B e oe.cls oe.dict v h'->s.heap.UpToSlots h'->Q () { s with heap:=h' }):wpAny M A (setField (.ref T) 3 v) Q E s:=by
 have z3:3<ts.size:=(Y51.mp h3).1;have other:∀ b,b≠T->(s.heap.update T (Obj.mapFields (·.setIfInBounds 3 v))).get? b=s.heap.get? b:=fun b nb=>Y1h _ _ (Ne.symm nb);have nrec:∀ b o,s.heap.get? b=some o->(∀ ws,o.data≠.fields ws)->b≠T:=fun b o hb hn z=>by
  rw[z,hT]at hb;cases hb;exact hn ts hdT
 have he':=(other e (Ne.symm nTe)).trans he;refine wpAny_setField hT hdT z3 (q _ ⟨fun b o hb=>?_,a.new,a.frames.of_keeps fun b o hb hn=>⟨o,(other b (nrec b o hb hn)).trans hb,rfl⟩⟩ he' ?_ fun b o hb hn=>⟨o.slots,(other b (nrec b o hb hn)).trans hb⟩)
 ·exact (other b fun z=>by rw[z,nT]at hb;cases hb).trans (a.stays b o hb)
 ·exact⟨oe,vs,T,_,_,he',rfl,rfl,⟨hd,hcx⟩,h1,nT,nTe,Y3k _ hT (Obj.isFreed_of_fields (Obj.data_mapFields hdT _)),Obj.data_mapFields hdT _,by simp[z3]⟩
theorem Zcc {B:Heap}{env:Env}{outer:List Env}{L e:Addr}{C:Value}{d:Option Addr}{Q:Unit->Shared->Prop}(fr:A.frames=some (env::outer))(fl:env.frame=some L)(a:Air B (env::outer) e s.heap)(x:UX B e C d s.heap)
  (q:∀ h',Air B (env::outer) e h'->VQ B e C d (rawInt L) h'->s.heap.UpToSlots h'->Q () { s with heap:=h' }):wpAny M A (noteFrame (.ref e) env) Q E s:=by
 obtain⟨oe,vs,he,rfl,rfl,hd,hz,hv⟩:=x;unfold noteFrame;simp only[fl];rcases hv with hv|⟨T,oT,ts,f0,hv,nT,nTe,hT,hdT,h3⟩
 ·refine wpAny_bind (wpAny_field he hd hv ?_);rw[if_neg (by decide)];exact Z7q fr fl a he hd hz q
 ·refine wpAny_bind (wpAny_field he hd hv ?_);rw[if_pos (show (Value.ref T != Value.none)=true from by simp)];refine wpAny_bind (wpAny_field hT hdT h3 ?_)
  by_cases e0:(f0==rawInt L)=true
  ·rw[if_pos e0];have e1:f0=rawInt L:=by simpa using e0
   subst e1;exact wpAny_pure (q s.heap a ⟨oe,vs,T,oT,ts,he,rfl,rfl,⟨hd,hz⟩,hv,nT,nTe,hT,hdT,h3⟩ (Heap.UpToSlots.refl _))
  ·rw[if_neg e0];refine wpAny_bind (Z8b a he hd hz hv nT nTe hT hdT h3 fun h1 a1 he1 _ u1=>?_);exact Z7q (s:={ s with heap:=h1 }) fr fl a1 he1 hd hz fun h2 a2 x2 u2=>q h2 a2 x2 (u1.trans u2)
theorem Z9C {B:Heap}{l:List Env}{e:Addr}{C f0:Value}{d:Option Addr}{o:Option Addr}{Q:Unit->Shared->Prop}(a:Air B l e s.heap)(x:VQ B e C d f0 s.heap)
  (q:∀ h',Air B l e h'->VQ B e C d (o.elim .none fun f=>rawInt f) h'->s.heap.UpToSlots h'->Q () { s with heap:=h' }):wpAny M A (setFlight (.ref e) o) Q E s:=by
 obtain⟨oe,vs,T,oT,ts,he,rfl,rfl,⟨hd,hcx⟩,hv,nT,nTe,hT,hdT,h3⟩:=x;unfold setFlight;refine wpAny_bind (wpAny_field he hd hv ?_);rw[if_pos (show (Value.ref T != Value.none)=true from by simp)];exact Z8b a he hd hcx hv nT nTe hT hdT h3 fun h' a' _ x' u'=>q h' a' x' u'
theorem Air.tail {B:Heap}{env:Env}{outer:List Env}{e:Addr}{h:Heap}(a:Air B (env::outer) e h):Air B outer e h:=⟨a.stays,a.new,a.frames.2.2⟩
theorem Z7p {B:Heap}{env:Env}{outer:List Env}{L e:Addr}{C:Value}{d:Option Addr}{Q:Unit->Shared->Prop}(fr:A.frames=some (env::outer))(fl:env.frame=some L)(a:Air B (env::outer) e s.heap)(x:UX B e C d s.heap)
  (q:∀ h',Air B outer e h'->UX B e C d h'->s.heap.UpToSlots h'->Q () { s with heap:=h' }):wpAny M A (leaving env (.ref e)) Q E s:=by
 unfold leaving;refine wpAny_bind (Zcc fr fl a x fun h1 a1 x1 u1=>?_);exact Z9C (s:={ s with heap:=h1 }) a1 x1 fun h2 a2 x2 u2=>q h2 a2.tail x2.at (u1.trans u2)
end
structure UnB (fs:List Addr)(H H':Hp)(h B h':Heap):Prop where
 keep:∀ b o,h.get? b=some o->H b=none->b∉fs->B.get? b=some o
 slot:∀ b o,h.get? b=some o->H b=none->b∈fs->∃ sl,h'.get? b=some { o with slots:=sl }
 free:∀ b o,h.get? b=some o->H b=none->H' b=none
 there:∀ b o,h.get? b=some o->b∉fs->∃ o',B.get? b=some o'
 tups:∀ b xs,H b=some (.tup xs)->H' b=some (.tup xs)
 frzs:∀ b o u,H b=some (.frz o u)->H' b=some (.frz o u)
 tbls:∀ b ps,H b=some (.tbl ps)->∃ more,H' b=some (.tbl (ps++more))
structure Fly (P:Program)(w:World)(outer:List Env)(H:Hp)(s:Shared)(C:Value)(d:Option Addr)(H':Hp)(e:Addr)(s':Shared):Prop where
 os:s'.os=s.os
 bare:AllBare s'.gens
 ex:∃ B,Air B outer e s'.heap/\UX B e C d s'.heap/\HOk P w H' B/\UnB (frs outer) H H' s.heap B s'.heap
noncomputable def CX1 (P:Program)(w:World):CXT:=fun outer H s E ev s'=>∃ e C d H',ev=.ref e/\Fly P w outer H s C d H' e s'/\E C d H'
abbrev vE:List Value:=[.type "ValueError",.type "Exception",.type "BaseException",.type "object"]
def YT (K:Y00)(C:Addr):Prop:=PySem.W.excIn K C vE "ValueError.__new__"=true
theorem YT.obj {K:Y00}{C:Addr}{h:Heap}(q:YT K C)(k:K.In h) :
  ∃ bm N nm qn bs hd sn sub ab col dd k0 k1 k2 k3 k5 mN,h.get? C=some (excClassObj nm qn C N bs bm hd sn sub ab col dd k0 k1 k2 k3 k5 "ValueError.__new__")/\h.Ns N mN/\mN "__init__"=none/\OwnTail h vE bm:=by
 unfold YT PySem.W.excIn at q
 split at q
 ·rename_i dd cd sl ho
  split at q
  ·rename_i C1 bm k0 k1 k2 k3 n k5 hm hs;simp only[Y22,beq_iff_eq,Bool.not_eq_true']at q;obtain⟨⟨⟨⟨⟨e1,e2⟩,hdel⟩,ht⟩,hok⟩,hni⟩:=q;subst e1 e2;cases cd;dsimp only at hm hdel hok hni;subst hm hdel;have esl:sl=#[k0,k1,k2,k3,some (.builtin "ValueError.__new__"),k5]:=by
    cases sl;simp only at hs;rw[hs]
   subst esl;exact⟨bm,_,_,_,_,_,_,_,_,_,dd,k0,k1,k2,k3,k5,_,k _ _ ho,.of_isNs (PySem.W.isNs_of_in k hok),PySem.W.nsMap_none_of_in k hok hni,PySem.W.tail_of_in k ht⟩
  ·cases q
 ·cases q
def Zdx (X:Cx)(E:XK):Prop:=∀ (pins:List (Addr×Obj)) (σ:St) (H:Hp) (s:Shared) (h':Heap) (e:Addr) (C:Value) (args:List Value),Inv X pins σ H s->Heap.MadeExcOf s.heap h' e C args->E C none H->X.xe (.ref e) { s with heap:=h' }
noncomputable def ZdN (ta:TA)(C:Addr)(E:XK):TS:=fun _ σ H=>ta σ H fun vs H1=>vs.length<=sizeLine/\E (.ref C) none H1
section
variable {X:Cx}{x:Str}{C:Addr}{e₀:Expr}{rest:List Expr}{ta:TA}{E:XK}{np cpos pos:Pos}
theorem Wp (hc:X.calm=true)(hC:YT X.K C)(hg:Gl X x)(hm:X.mg x=some (.ref C))(ht:Zdx X E)(ha:PA X (e₀::rest) ta)(hdb:(x==("__debug__":Str))=false:=by decide)
  (he:starEach (e₀::rest) X.env=(false,eval e₀ X.env)::starEach rest X.env:=by rfl) (hpl:(backTo cpos (starEach rest X.env)).any (·.1)=false:=by rfl) :
  PS X (.Raise (some (.Call (.Name x np) (e₀::rest) [] cpos)) none pos) (ZdN ta C E):=by
 intro pins s σ H D I h;obtain⟨bm,N,nm,qn,bs,hd,sn,sub,ab,col,dd,k0,k1,k2,k3,k5,mN,oC,nN,ni,TL⟩:=hC.obj I.mod.kin;have FB:=PySem.F.excBase_ValueError;refine wpAny_Raise_call_subT (C:=C) (nm:=nm) (q:=qn) (N:=N) (bs:=bs) (bm:=bm) (hdct:=hd) (sn:=sn) (sub:=sub) (ab:=ab) (col:=col) (dd:=dd) (k0:=k0) (k1:=k1) (k2:=k2) (k3:=k3) (k5:=k5)
  FB (mN:=mN) (TL.hasType FB.hasBase) (I.ok.hd hc) (by rw[he];show (false||(backTo cpos (starEach rest X.env)).any (·.1))=false;rw[hpl];rfl) ni (Ss I hg hm ⟨rfl,?_⟩ hdb)
 have hA:=ha cpos pins s σ H _ I h;rw[he]at hA ⊢;refine Calls.evalArgs_plain (thn hA fun us s2 ⟨vs,H2,I2,r2,hz,q2⟩=>⟨rfl,by rw[<-r2.length];exact hz,I2.bk _ _ oC,nN.keeps I2.bk,TL.keeps I2.bk,fun h' e hm=>ht pins σ H2 s2 h' e _ _ I2 hm q2⟩)
end
theorem ZcJ {P:Program}{w:World}{H:Hp}{h:Heap}{l:List Addr}(x:HOk P w H h)(fr:∀ b∈l,H b=none):HOk P w H (Y4s h l):=fun b u e=>by
 refine (x b u e).stay (fun c v hc q=>Y3w _ q fun z=>?_) (fun _ q=>q) fun _ _ q=>q;rcases hc with hc|hc
 ·rw[hc]at z;rw[fr b z]at e;cases e
 ·rw[fr c z]at hc;cases hc
section
variable {P:Program}{w:World}{K:Y00}{mg:Str->Option Value}{base:Heap}{N:List Str}{qual:Str}{scope:Scope}{f:Addr}{cd:Value}{A:Around}{outer:List Env}{s:Shared}{H:Hp}{E E':XK}
theorem ZcG {env:Env}{l:List Env}{L:Addr}(h:env.frame=some L):frs (env::l)=L::frs l:=by unfold frs;rw[Y3x,h]
theorem UnB.after {X:Cx}{pins:List (Addr×Obj)}{σ:St}{Hc H':Hp}{sc:Shared}{B h' h2:Heap}{e:Addr}(I:Inv X pins σ Hc sc)(hex:X.ex=[])(hst:X.stack=X.env::X.outer)(hfr:X.env.frame=some X.env.locals)
  (a:Air B X.stack e h') (u:UnB (frs X.stack) Hc H' sc.heap B h') (up:h'.UpToSlots h2):UnB (frs X.outer) X.H₀ H' X.s₀.heap B h2:=by
 have nex:∀ b:Addr,b∉X.ex:=fun b z=>by rw[hex]at z;cases z
 have efr:frs X.stack=X.env.locals::frs X.outer:=by rw[hst,ZcG hfr]
 have old:∀ b o,X.s₀.heap.get? b=some o->b∉frs X.outer->b∉frs X.stack:=fun b o q hb z=>by
  rw[efr]at z;rcases Y14.mp z with z|z
  ·have l1:=Y09 q;rw[z]at l1;exact absurd (Y0o l1 I.ok.above) (Y2d _)
  ·exact hb z
 have inn:∀ b,b∈frs X.outer->b∈frs X.stack:=fun b hb=>by rw[efr];exact Y0y _ hb
 exact {
  keep:=fun b o q n hb=>u.keep b o (I.base.keep b o q n hb (nex b)) (I.base.free b o q n (nex b)) (old b o q hb)
  slot:=fun b o q n hb=>by
   obtain⟨sl,e1⟩:=I.base.slot b o q n hb (nex b)
   obtain⟨sl2,e2⟩:=u.slot b _ e1 (I.base.free b o q n (nex b)) (inn b hb)
   obtain⟨_,o3,e3,nf⟩:=a.frames.mem (inn b hb)
   have:o3={ ({ o with slots:=sl }:Obj) with slots:=sl2 }:=by rw[e2]at e3;exact (Option.some.inj e3).symm
   subst this
   obtain⟨sl3,e4⟩:=up b _ e2 nf
   exact⟨sl3,e4⟩
  free:=fun b o q n=>by
   obtain⟨o1,e1⟩:=I.base.there b o q (nex b)
   exact u.free b o1 e1 (I.base.free b o q n (nex b))
  there:=fun b o q hb=>by
   obtain⟨o1,e1⟩:=I.base.there b o q (nex b)
   exact u.there b o1 e1 (old b o q hb)
  tups:=fun b xs q=>u.tups b xs (I.base.tups b xs q)
  frzs:=fun b o v q=>u.frzs b o v (I.base.frzs b o v q)
  tbls:=fun b ps q=>by
   obtain⟨m1,e1⟩:=I.base.tbls b ps q
   obtain⟨m2,e2⟩:=u.tbls b _ e1
   exact⟨m1++m2,by rw[e2,Array.append_assoc]⟩ }
theorem VY (hE:∀ C d H',E' C d H'->E C d H'):Xb (CX1 P w) (Xo (CX1 P w) P w K mg base N qual scope f cd A outer s H E) E':=by
 rintro pins σ Hc sc ev s' I ⟨e,C,d,H',rfl,fly,hq⟩;obtain⟨B,a,x,hok,u⟩:=fly.ex;refine Z7p (B:=B) (L:=s.heap.objs.size) I.ok.frames rfl a x fun h2 a2 x2 up=>?_;exact⟨e,C,d,H',rfl,⟨fly.os.trans I.os,fly.bare,B,a2,x2,hok,UnB.after I rfl rfl rfl a u up⟩,hE _ _ _ hq⟩
theorem ZcP {X:Cx}{pins:List (Addr×Obj)}{σ:St}{Hc:Hp}{sc:Shared}{h':Heap}{e:Addr}{C:Value}{args:List Value}(I:Inv X pins σ Hc sc)(m:Heap.MadeExcOf sc.heap h' e C args) :
  ∃ B,Air B X.stack e h'/\UX B e C none h'/\HOk X.prog X.w Hc B/\UnB (frs X.stack) Hc Hc sc.heap B h':=by
 have fr:=I.stkFree;refine⟨Y4s sc.heap (frs X.stack),⟨fun b o q=>m.keeps _ _ (Y53 _ q),?_,?_⟩,?_,ZcJ I.hok fr,?_⟩
 ·cases q:(Y4s sc.heap (frs X.stack)).get? e with
  | none=>rfl
  | some o=>
   have:=Y53 _ q;rw[m.new]at this;cases this
 ·refine (PySem.W.funFrames_hide I.stack fun env he a ha=>Y56.mpr ⟨env,he,ha⟩).of_keeps fun b o q _=>⟨o,m.keeps _ _ q,rfl⟩
 ·obtain⟨t,he,_,_⟩:=m.there;exact⟨_,_,he,rfl,rfl,rfl,by simp,.inl rfl⟩
 ·exact⟨fun b o q _ hb=>Y3w _ q hb,fun b o q _ _=>⟨o.slots,m.keeps _ _ q⟩,fun _ _ _ n=>n,fun b o q hb=>⟨o,Y3w _ q hb⟩,fun _ _ q=>q,fun _ _ _ q=>q,fun _ ps q=>⟨#[],by simpa using q⟩⟩
theorem Wd:Zdx (Xo (CX1 P w) P w K mg base N qual scope f cd A outer s H E) E:=by
 intro pins σ Hc sc h' e C args I m hq;obtain⟨B,a,x,hok,u⟩:=ZcP I m;refine Z7p (s:={ sc with heap:=h' }) (B:=B) (L:=s.heap.objs.size) I.ok.frames rfl a x fun h2 a2 x2 up=>?_;exact⟨e,C,none,Hc,rfl,⟨I.os,I.bare,B,a2,x2,hok,UnB.after I rfl rfl rfl a u up⟩,hq⟩
end
theorem Fun.ok1 {P:Program}{w:World}{K:Y00}{mg:Str->Option Value}{base:Heap}{x qual:Str}{st:Stmt}{f:Addr}{fd:FuncData}{N ps:List Str}{k:Nat}{sp:Sp}(F:Fun K x qual st f fd)(S:ZL N ps (ZV st))(len:∀ vs H Q E,sp vs H Q E->vs.length=ps.length)
  (hbody:∀ (cdv:Value) (A:Around) (outer:List Env) (s:Shared) (H:Hp) (vs:List V) (Q:VK) (E:XK),ZP k (A.deeper (envOfC qual (ZV st) s.heap.objs.size f cdv))->sp vs H Q E->
   ∃ t,PSs (Xo (CX1 P w) P w K mg base N qual (ZV st) f cdv A outer s H E) (YO st) t/\t { nx:=fun _ H'=>Q .non H',rt:=Q } (start N vs) H):Z4 P w K mg base (CX1 P w) (k+1) f fd ps sp:=by
 obtain⟨oc,od,kV,doc,pm,an,cdv,ct,osl,rfl,lk,hcd⟩:=F.ex;exact ZfY lk hcd S len fun A outer s H vs Q E hr hsp=>hbody cdv A outer s H vs Q E hr hsp
section
variable {X:Cx}{pins:List (Addr×Obj)}{σ:St}{H:Hp}{s:Shared}{W:Value->Shared->Prop}{e:Addr}
end
section
variable {X:Cx}{pins:List (Addr×Obj)}{σ:St}{H:Hp}{C:Value}{d:Option Addr}{e:Addr}{s:Shared}
end
section
variable {X:Cx}{x n:Str}{DA:Addr}{j:Nat}{b₀:Stmt}{suite:List Stmt}{ts:Addr->TS}{tr:TH}{np hpos pos:Pos}{rest:List ExceptHandler}
end
section
variable {X:Cx}{CX:CXT}{k:Nat}{f:Addr}{fd:FuncData}{ps:List Str}{sp:Sp}{dvs:List V}{ds:List Value}{E:XK}{x:Str}{p pos:Pos}{e:Expr}{es:List Expr}{t:TA}{te:TE}{σ:St}
end
section
variable {prog:Program}{w:World}{A:Around}{E:Value->Shared->Prop}{s:Shared}{K:Y00}{x D:Addr}{ox:Obj}{od:Option Obj}{name:Str}
end
section
variable {X:Cx}
end
section
variable {X:Cx}{o e:Expr}{es:List Expr}{to:TE}{t:TA}{name:Str}{id:String}{r:V->List V->Hp->VK->Prop}{apos cpos:Pos}
theorem Z6H:∀ (r:List Nat) (j i:Nat),j<r.idxOf i->r[j]?≠some i
 | [],j,i,h=>by simp at h
 | a::r,j,i,h=>by
  by_cases e:a=i
  ·subst e;simp at h
  ·cases j with
   | zero=>simp;exact e
   | succ j=>
    have h':j<r.idxOf i:=by
     rw[List.idxOf_cons]at h;have:(a==i)=false:=by simpa using e
     rw[this]at h;simp at h;exact h
    simpa using Z6H r j i h'
end
structure SZ (K:Y00)(D:Addr):Prop where
 ty:PySem.W.typeIn K (.ref D)=some (.type "type")
 cl:PySem.W.isClsIn K D=true
 be:PySem.W.subIn K (.ref D) (.type "BaseException")=some true
 ga:Y15 K (.ref D) "__getattribute__"=some (some (.builtin "BaseException.__getattribute__"))
 gt:Y15 K (.ref D) "__getattr__"=some none
 ac:Y15 K (.ref D) "__class__"=some (some (.builtin "object.__class__"))
 sp:Y4d K (.builtin "object.__class__") "__get__"=some (some (.builtin "getset_descriptor.__get__"))
 tk:Y4u K (.builtin "object.__class__")=some true
 mo:Y5q K D (.type "object")=some true
def Bt (n:Nat)(i:Int):Prop:=i.natAbs<2^n
theorem Bt.mono {n m:Nat}{i:Int}(h:Bt n i)(l:n<=m):Bt m i:=Y0o h (Nat.pow_le_pow_right (by decide) l)
theorem Bt.mul {n m:Nat}{i j:Int}(h:Bt n i)(g:Bt m j):Bt (n+m) (i*j):=by
 unfold Bt at *;rw[Y4h,Nat.pow_add];exact Nat.mul_lt_mul'' h g
theorem Bt.add {n:Nat}{i j:Int}(h:Bt n i)(g:Bt n j):Bt (n+1) (i+j):=by
 unfold Bt at *;rw[Nat.pow_succ];generalize (2:Nat)^n=k at h g ⊢;omega
theorem Bt.neg {n:Nat}{i:Int}(h:Bt n i):Bt n (-i):=by unfold Bt at *;rwa [Int.natAbs_neg]
theorem Bt.sub {n:Nat}{i j:Int}(h:Bt n i)(g:Bt n j):Bt (n+1) (i-j):=by rw[Int.sub_eq_add_neg];exact h.add g.neg
theorem Bt.le {n:Nat}{i j:Int}(h:Bt n j)(l:i.natAbs<=j.natAbs):Bt n i:=Y1s l h
theorem Bt.log {n:Nat}{i:Int}(h:Bt n i)(h0:i≠0):i.natAbs.log2<n:=(Nat.log2_lt (by omega)).mpr h
theorem Bt.bits {n:Nat}{i:Int}(h:Bt n i):Builtin.Int.intBits i<=n:=by
 unfold Builtin.Int.intBits
 by_cases e:(i==0)=true
 ·rw[if_pos e];exact Y12 _
 ·rw[if_neg e];exact h.log (by simpa using e)
section
variable {X:Cx}
theorem YH:OpR X (binaryOp .Mult) (rI (fun i j=>Bt 4000 i/\Bt 4000 j) fun i j=>.int (i*j)):=opI fun _ _ _ _ _ _ _ hc q=>
 mul_int q (IntMulOk.of_bits (Y0z hc.1.bits (by decide)) (Y0z hc.2.bits (by decide)))
theorem SI:OpR X (binaryOp .FloorDiv) (rI (fun _ j=>j≠0/\Bt 4000 j) fun i j=>.int (i.fdiv j)):=opI fun i j _ _ _ _ _ hc q=>
 floordiv_int hc.1 q (.inl (PyProof.noPylong_of_log2 (Y0o (hc.2.log hc.1) (by decide))))
end
structure VS (K:Y00)(x qual:Str)(st:Stmt)(dV:Value)(f:Addr)(fd:FuncData):Prop where
 ex:∃ (oc:Value) (od:Option Addr) (kV doc pm:Value) (an:Option Addr) (cdv ct:Value) (osl:Array (Option Value)),
  fd=Y1m x qual (YC st) (YO st) (ZV st) dV kV doc pm an cdv ct/\K.lookup f=some ⟨oc,od,.func fd,osl⟩/\Y30 K cdv qual=true
 kp:Y1p K (.ref f)=true
section
variable {P:Program}{w:World}{K:Y00}{mg:Str->Option Value}{base:Heap}
theorem VS.ok1 {x qual:Str}{st:Stmt}{dV:Value}{f:Addr}{fd:FuncData}{N ps:List Str}{k:Nat}{sp:Sp}(F:VS K x qual st dV f fd)(S:ZL N ps (ZV st))(len:∀ vs H Q E,sp vs H Q E->vs.length=ps.length)
  (hbody:∀ (cdv:Value) (A:Around) (outer:List Env) (s:Shared) (H:Hp) (vs:List V) (Q:VK) (E:XK),ZP k (A.deeper (envOfC qual (ZV st) s.heap.objs.size f cdv))->sp vs H Q E->
   ∃ t,PSs (Xo (CX1 P w) P w K mg base N qual (ZV st) f cdv A outer s H E) (YO st) t/\t { nx:=fun _ H'=>Q .non H',rt:=Q } (start N vs) H):Z4 P w K mg base (CX1 P w) (k+1) f fd ps sp:=by
 obtain⟨oc,od,kV,doc,pm,an,cdv,ct,osl,rfl,lk,hcd⟩:=F.ex;exact ZfY lk hcd S len fun A outer s H vs Q E hr hsp=>hbody cdv A outer s H vs Q E hr hsp
theorem ZaU {x qual:Str}{st:Stmt}{dV:Value}{f:Addr}{oc:Value}{od an:Option Addr}{osl:Array (Option Value)}{kV doc pm cdv ct:Value}(l:K.lookup f=some ⟨oc,od,.func (Y1m x qual (YC st) (YO st) (ZV st) dV kV doc pm an cdv ct),osl⟩)
  (c:Y30 K cdv qual=true) (k:Y1p K (.ref f)=true):VS K x qual st dV f (Y1m x qual (YC st) (YO st) (ZV st) dV kV doc pm an cdv ct):=⟨⟨oc,od,kV,doc,pm,an,cdv,ct,osl,rfl,l,c⟩,k⟩
end
theorem Yh {P:Program}{w:World}{X:Cx}:Xb (CX1 P w) X E0:=by rintro _ _ _ _ _ _ _ ⟨_,_,_,_,_,_,z⟩;exact z.elim
theorem Zb6 {c:Prop}[Decidable c]{A:Prop}{N:St->Hp->Prop}{σ:St}{H:Hp}(Pv:St->Hp->Prop)(h0:¬ c->Pv σ H)(hr:∀ σ H,Pv σ H->N σ H)(hA:(∀ σ H,Pv σ H->N σ H)->c->A):if c then A else N σ H:=by
 by_cases h:c
 ·rw[if_pos h];exact hA hr h
 ·rw[if_neg h];exact hr _ _ (h0 h)
structure MFn (K:Y00)(C:Addr)(m qual:Str)(st:Stmt)(ps:List Str)(f:Addr)(fd:FuncData):Prop where
 F:Fun K m qual st f fd
 b:YU K fd ps []
 m:Ti K C m f
end L2
namespace Sq
noncomputable def dv (t b:Int):Int:=if b<0 then -((Y1v t b:Nat):Int) else ((Y1v t b:Nat):Int)
noncomputable def Z1 (t b:Int):Int:=t.fdiv (dv t b)
noncomputable def Z8 (t b:Int):Int:=b.fdiv (dv t b)
theorem Z7F {t b:Int}(h:b≠0):0<Y1v t b:=Int.gcd_pos_of_ne_zero_right t h
theorem Zgn (t b:Int):(dv t b).natAbs=Y1v t b:=by unfold dv;split<;>omega
theorem Tr {t b:Int}(h:b≠0):dv t b≠0:=by
 have:=Z7F (t:=t) h;have:=Zgn t b;omega
theorem ZcT (t b:Int):dv t b∣t:=by
 have:((Y1v t b:Nat):Int)∣t:=Int.gcd_dvd_left t b;unfold dv
 split
 ·exact Int.neg_dvd.mpr this
 ·exact this
theorem Zd9 (t b:Int):dv t b∣b:=by
 have:((Y1v t b:Nat):Int)∣b:=Int.gcd_dvd_right t b;unfold dv
 split
 ·exact Int.neg_dvd.mpr this
 ·exact this
theorem WV (t b:Int):Z1 t b*dv t b=t:=Int.fdiv_mul_cancel (ZcT t b)
theorem XA (t b:Int):Z8 t b*dv t b=b:=Int.fdiv_mul_cancel (Zd9 t b)
theorem Zi9 {x k:Int}(h:0<k)(h2:0<x*k):0<x:=by
 rcases (show 0<x\/x<=0 by omega) with l|l
 ·exact l
 ·have:=Y0t l (Y5b h);rw[Y43]at this;omega
theorem YD {t b:Int}(h:b≠0):0<Z8 t b:=by
 have e:=XA t b;have g:=Z7F (t:=t) h;unfold dv at e
 by_cases hb:b<0
 ·rw[if_pos hb]at e;have:Z8 t b*((Y1v t b:Nat):Int)=-b:=by rw[Y2y]at e;omega
  exact Zi9 (k:=((Y1v t b:Nat):Int)) (by omega) (by omega)
 ·rw[if_neg hb]at e;exact Zi9 (k:=((Y1v t b:Nat):Int)) (by omega) (by omega)
theorem Z43 {x d:Int}(h:d≠0):x.natAbs<=(x*d).natAbs:=by
 rw[Y4h];exact Nat.le_mul_of_pos_right _ (by omega)
theorem Za9 {t b:Int}(h:b≠0):(Z1 t b).natAbs<=t.natAbs:=by
 have:=Z43 (x:=Z1 t b) (Tr (t:=t) h)
 rwa [WV]at this
theorem Zb1 {t b:Int}(h:b≠0):(Z8 t b).natAbs<=b.natAbs:=by
 have:=Z43 (x:=Z8 t b) (Tr (t:=t) h)
 rwa [XA]at this
theorem Zbs {t b:Int}(h:0<b):0<dv t b:=by
 have:=Z7F (t:=t) (b:=b) (by omega);unfold dv;rw[if_neg (by omega)];omega
theorem Z8Z {t b k:Int}(h:0<k):dv (t*k) (b*k)=dv t b*k:=by
 unfold dv;rw[Int.gcd_mul_right];have e:((Y1v t b*k.natAbs:Nat):Int)=((Y1v t b:Nat):Int)*k:=by rw[Int.natCast_mul,Int.natAbs_of_nonneg (by omega)]
 rw[e]
 by_cases hb:b<0
 ·have:b*k<0:=Y5h hb h;rw[if_pos this,if_pos hb,Y3b]
 ·have:¬ b*k<0:=Int.not_lt.mpr (Y1l (by omega) (by omega));rw[if_neg this,if_neg hb]
theorem Z51 {t b k:Int}(hb:b≠0)(h:0<k):Z1 (t*k) (b*k)=Z1 t b/\Z8 (t*k) (b*k)=Z8 t b:=by
 have hd:dv t b*k≠0:=Int.mul_ne_zero (Tr hb) (by omega);constructor
 ·have e:=WV (t*k) (b*k);rw[Z8Z h]at e;have e2:Z1 t b*(dv t b*k)=t*k:=by rw[<-Y0f,WV]
  exact Y3q hd (e.trans e2.symm)
 ·have e:=XA (t*k) (b*k);rw[Z8Z h]at e;have e2:Z8 t b*(dv t b*k)=b*k:=by rw[<-Y0f,XA]
  exact Y3q hd (e.trans e2.symm)
theorem Zdr {a b c d:Int}(hb:0<b)(hd:0<d)(h:a*d=c*b):Z1 a b=Z1 c d/\Z8 a b=Z8 c d:=by
 have h1:=Z51 (t:=a) (b:=b) (k:=d) (by omega) hd;have h2:=Z51 (t:=c) (b:=d) (k:=b) (by omega) hb;rw[h,Y0d b d]at h1;exact⟨h1.1.symm.trans h2.1,h1.2.symm.trans h2.2⟩
theorem Zfu {a b:Int}(hb:0<b):Z1 (Z1 a b) (Z8 a b)=Z1 a b/\Z8 (Z1 a b) (Z8 a b)=Z8 a b:=
 Zdr (YD (by omega)) hb (by
  have e1:=WV a b
  have e2:=XA a b
  generalize Z1 a b=x at *;generalize Z8 a b=y at *;generalize dv a b=p at *
  subst e1 e2
  grind)
end Sq
namespace Sq
end Sq
namespace K1
open PySem L2 Sq
def ZjN:Sp:=fun vs H Q _=>∃ a b:Int,vs=[.int a,.int b]/\Q (.int ((Y1v a b:Nat):Int)) H
section
variable {P:Program}{w:World}{K:Y00}{mg:Str->Option Value}{base:Heap}
noncomputable abbrev nCd:List Str:=["one","other","greater","lesser","left_over"]
theorem UW:ZL nCd ["one","other"] (ZV VL):=⟨rfl,rfl,rfl,by decide +kernel,rfl,by decide +kernel,by decide +kernel⟩
theorem X6:bootBuiltins "abs"=some (.builtin "abs"):=by decide +kernel
theorem Zk8 {f:Addr}{fd:FuncData}(hA:mg "abs"=none)(F:Fn K mg "common_divisor" VL ["one","other"] f fd):Z4 P w K mg base CX0 1 f fd ["one","other"] ZjN:=by
 refine F.F.ok UW (fun vs H Q E h=>?_) (fun cdv A outer s H vs Q E hr h=>?_)
 ·obtain⟨a,b,rfl,_⟩:=h;rfl
 ·obtain⟨a,b,rfl,k⟩:=h;refine⟨_,Z3 (ZW (i:=2) UW.nd rfl (Or.inl rfl) (ZG Yk rfl hA X6 (Z9 (pv 0) Z7)))
   (Z3 (ZW (i:=3) UW.nd rfl (Or.inl rfl) (ZG Yk rfl hA X6 (Z9 (pv 1) Z7)))
   (Z3 (XU PassesOwn.never (ZE Yr (pv 3) Z6 (ZH _))
    (Z3 (ZW (i:=4) UW.nd rfl (Or.inl rfl) (ZX YL (pv 2) (pv 3)))
    (Z3 (ZW (i:=2) UW.nd rfl (Or.inl rfl) (pv 3))
    (ZY (ZW (i:=3) UW.nd rfl (Or.inl rfl) (pv 4))))))
   (ZY (ZO (pv 2))))),?_⟩
  refine⟨_,rfl,_,rfl,_,rfl,_,rfl,?_⟩;have abs:∀ i:Int,(if i<0 then -i else i)=((i.natAbs:Nat):Int):=fun i=>by split<;>omega
  rw[abs a,abs b];refine WT (fun σ H'=>H'=H/\∃ (x y:Nat) (o:Option V),σ=[some (.int a),some (.int b),some (.int (x:Int)),some (.int (y:Int)),o]/\Nat.gcd x y=Y1v a b)
   (fun σ _=>match σ with|[_,_,_,some (.int y),_]=>y.natAbs|_=>0) ⟨rfl,_,_,none,rfl,rfl⟩ ?_ ?_
  ·rintro σ H' ⟨rfl,x,y,o,rfl,hg⟩;refine⟨_,rfl,rfl,_,rfl,?_⟩;refine Yv (fun h=>?_) (fun h=>?_)
   ·have hy:(y:Int)≠0:=by simpa using h
    refine⟨_,rfl,_,rfl,_,_,rfl,rfl,(by show (0:Int)<(y:Int);omega),?_⟩;refine⟨_,rfl,_,rfl,?_⟩;refine⟨⟨rfl,y,x%y,some (.int ((x%y:Nat):Int)),by simp[Y4n],?_⟩,?_⟩
    ·rw[<-hg,Nat.gcd_comm x y,Nat.gcd_rec y x,Nat.gcd_comm]
    ·show ((x:Int)%(y:Int)).natAbs<((y:Int)).natAbs;have:=Nat.mod_lt x (show 0<y by omega);rw[<-Y4n,Y48,Y48];exact this
   ·have hy:(y:Int)=0:=by simpa using h
    have:y=0:=(by omega);subst this;rw[Nat.gcd_zero_right]at hg;refine⟨_,rfl,?_⟩;rw[hg];exact k
  ·rintro σ H' Q1 Q2 hq ⟨x,e1,e2,y,e3,e4⟩;exact⟨x,e1,e2,y,e3,hq _ _ e4⟩
end
def Way (p q:Int):Prop:=p.natAbs<=60/\q.natAbs<=60/\¬ (p=0/\q=0)
section
variable {P:Program}{w:World}{K:Y00}{mg:Str->Option Value}{base:Heap}
end
noncomputable abbrev T3:Type:=Int×Int×Int
noncomputable def euS (o t:T3):T3:=(o.1-o.1.fdiv t.1*t.1,o.2.1-o.1.fdiv t.1*t.2.1,o.2.2-o.1.fdiv t.1*t.2.2)
noncomputable def eu:Nat->T3->T3->T3
 | 0,o,_=>o
 | n+1,o,t=>if t.1=0 then o else eu n t (euS o t)
theorem ZfF (n:Nat)(o t:T3)(h:t.1=0):eu n o t=o:=by
 cases n with
 | zero=>rfl
 | succ n=>simp[eu,h]
theorem Zhl (a b:Int)(h:b≠0):(a-a.fdiv b*b).natAbs<b.natAbs:=by
 have e:a-a.fdiv b*b=a.fmod b:=by rw[Int.fmod_def,Y0d]
 rw[e];rcases Int.lt_or_lt_of_ne h with hn|hn
 ·have e2:=Int.neg_fmod_neg a b;have h1:=Int.fmod_nonneg_of_pos (-a) (b:=-b) (by omega);have h2:=Int.fmod_lt_of_pos (-a) (b:=-b) (by omega);rw[e2]at h1 h2;omega
 ·have h1:=Int.fmod_nonneg_of_pos a hn;have h2:=Int.fmod_lt_of_pos a hn;omega
noncomputable def eu0 (p q:Int):T3:=eu 60 (p,1,0) (q,0,1)
noncomputable def wt0 (p q:Int):Int:=(eu0 p q).1*(eu0 p q).2.1
noncomputable def wt1 (p q:Int):Int:=(eu0 p q).1*(eu0 p q).2.2
structure EuI (p q:Int)(o t:T3):Prop where
 o1:o.1=o.2.1*p+o.2.2*q
 t1:t.1=t.2.1*p+t.2.2*q
 ol:o.1.natAbs<=60
 gc:Y1v o.1 t.1=Y1v p q
 bd:∃ k,t.1.natAbs+k<=60/\Bt (8*k+1) o.2.1/\Bt (8*k+1) o.2.2/\Bt (8*k+1) t.2.1/\Bt (8*k+1) t.2.2
 at':∃ n,t.1.natAbs<=n/\eu n o t=eu0 p q
theorem bt1:Bt (8*0+1) 1:=by show (1:Int).natAbs<2^1;decide
theorem bt0:Bt (8*0+1) 0:=by show (0:Int).natAbs<2^1;decide
theorem EuI.start {p q:Int}(hp:p.natAbs<=60)(hq:q.natAbs<=60):EuI p q (p,1,0) (q,0,1):=
 ⟨by show p=1*p+0*q;grind,by show q=0*p+1*q;grind,hp,rfl,⟨0,by simpa using hq,bt1,bt0,bt0,bt1⟩,60,by simpa using hq,rfl⟩
theorem EuI.step {p q:Int}{o t:T3}(h:EuI p q o t)(h0:t.1≠0):EuI p q t (euS o t):=by
 have hl:=Zhl o.1 t.1 h0;have hm:(o.1.fdiv t.1).natAbs<=o.1.natAbs:=Y5i o.1 t.1;have hol:=h.ol;obtain⟨k,hk,b1,b2,b3,b4⟩:=h.bd;obtain⟨n,hn,en⟩:=h.at';have bm:Bt 6 (o.1.fdiv t.1):=by unfold Bt;omega
 refine⟨h.t1,?_,by omega,?_,⟨k+1,?_,b3.mono (by omega),b4.mono (by omega),?_,?_⟩,n-1,?_,?_⟩
 ·show o.1-o.1.fdiv t.1*t.1=(o.2.1-o.1.fdiv t.1*t.2.1)*p+(o.2.2-o.1.fdiv t.1*t.2.2)*q;have e1:=h.o1;have e2:=h.t1;generalize o.1.fdiv t.1=m
  grind
 ·show Y1v t.1 (o.1-o.1.fdiv t.1*t.1)=_;rw[Int.gcd_sub_mul_right_right,Int.gcd_comm];exact h.gc
 ·show (o.1-o.1.fdiv t.1*t.1).natAbs+(k+1)<=60;omega
 ·exact ((b1.mono (m:=6+(8*k+1)) (by omega)).sub (bm.mul b3)).mono (by omega)
 ·exact ((b2.mono (m:=6+(8*k+1)) (by omega)).sub (bm.mul b4)).mono (by omega)
 ·show (o.1-o.1.fdiv t.1*t.1).natAbs<=n-1;omega
 ·obtain⟨n',rfl⟩:∃ n',n=n' + 1:=⟨n-1,by omega⟩;rw[<-en];simp[eu,h0]
theorem EuI.last {p q:Int}{o t:T3}(h:EuI p q o t)(h0:t.1=0):o=eu0 p q:=by
 obtain⟨n,_,en⟩:=h.at';rw[<-en,ZfF _ _ _ h0]
theorem EuI.one {p q:Int}{o t:T3}(h:EuI p q o t)(h0:t.1=0)(hg:Y1v p q=1):wt0 p q*p+wt1 p q*q=1/\Bt 600 (wt0 p q)/\Bt 600 (wt1 p q):=by
 have e:=h.last h0;have g:=h.gc;rw[h0,hg,Int.gcd_zero_right]at g;obtain⟨k,hk,b1,b2,b3,b4⟩:=h.bd;have b0:Bt 6 o.1:=by unfold Bt;omega
 have eo:=h.o1;unfold wt0 wt1;rw[<-e];refine⟨?_,(b0.mul b1).mono (by omega),(b0.mul b2).mono (by omega)⟩;have:o.1*o.1=1:=by
  have:o.1=1\/o.1=-1:=by omega
  rcases this with z|z<;>rw[z]<;>rfl
 grind
noncomputable def tr3 (o:T3):HO:=.tup [.int o.1,.int o.2.1,.int o.2.2]
noncomputable def muT (σ:St)(H:Hp):Nat:=
 match σ with
 | [_,_,_,some (.ref a),_,_]=>match H a with
  | some (.tup (.int s::_))=>s.natAbs
  | _=>0
 | _=>0
def spWo:Sp:=fun vs H Q _=>∃ p q:Int,vs=[.int p,.int q]/\Way p q/\Y1v p q=1/\∀ (H':Hp) (l:Addr),Z5 H H'->H' l=some (.tup [.int (wt0 p q),.int (wt1 p q)])->wt0 p q*p+wt1 p q*q=1->Bt 600 (wt0 p q)->Bt 600 (wt1 p q)->Q (.ref l) H'
section
variable {P:Program}{w:World}{K:Y00}{mg:Str->Option Value}{base:Heap}
noncomputable abbrev nWo:List Str:=["p","q","one","other","many","less"]
theorem VW:ZL nWo ["p","q"] (ZV UU):=⟨rfl,rfl,rfl,by decide +kernel,rfl,by decide +kernel,by decide +kernel⟩
set_option maxHeartbeats 1000000 in
theorem ZiY {f:Addr}{fd:FuncData}(F:Fn K mg "weights_to_one" UU ["p","q"] f fd):Z4 P w K mg base CX0 1 f fd ["p","q"] spWo:=by
 refine F.F.ok VW (fun vs H Q E h=>?_) (fun cdv A outer s H vs Q E hr h=>?_)
 ·obtain⟨p,q,rfl,_⟩:=h;rfl
 ·obtain⟨p,q,rfl,⟨hp,hq,_⟩,hg,k⟩:=h;refine⟨_,Z3 (ZW (i:=2) VW.nd rfl (Or.inl rfl) (Zq (Z9 (pv 0) (Z9 Z6 (Z9 Z6 Z7)))))
   (Z3 (ZW (i:=3) VW.nd rfl (Or.inl rfl) (Zq (Z9 (pv 1) (Z9 Z6 (Z9 Z6 Z7)))))
   (Z3 (XU PassesOwn.never (ZE Yr (Z2 ZZ (pv 3) Z6 (fun _ _=>rfl)) Z6 (ZH _))
    (Z3 (ZW (i:=4) VW.nd rfl (Or.inl rfl) (ZX Z8W (Z2 ZZ (pv 2) Z6 (fun _ _=>rfl)) (Z2 ZZ (pv 3) Z6 (fun _ _=>rfl))))
    (Z3 (ZW (i:=5) VW.nd rfl (Or.inl rfl) (Zq (Z9 (ZX X3 (Z2 ZZ (pv 2) Z6 (fun _ _=>rfl)) (ZX YY (pv 4) (Z2 ZZ (pv 3) Z6 (fun _ _=>rfl))))
      (Z9 (ZX X3 (Z2 ZZ (pv 2) Z6 (fun _ _=>rfl)) (ZX YY (pv 4) (Z2 ZZ (pv 3) Z6 (fun _ _=>rfl))))
      (Z9 (ZX X3 (Z2 ZZ (pv 2) Z6 (fun _ _=>rfl)) (ZX YY (pv 4) (Z2 ZZ (pv 3) Z6 (fun _ _=>rfl)))) Z7)))))
    (Z3 (ZW (i:=2) VW.nd rfl (Or.inl rfl) (pv 3))
    (ZY (ZW (i:=3) VW.nd rfl (Or.inl rfl) (pv 5)))))))
   (ZY (ZO (Zq (Z9 (ZX YY (Z2 ZZ (pv 2) Z6 (fun _ _=>rfl)) (Z2 ZZ (pv 2) Z6 (fun _ _=>rfl))) (Z9 (ZX YY (Z2 ZZ (pv 2) Z6 (fun _ _=>rfl)) (Z2 ZZ (pv 2) Z6 (fun _ _=>rfl))) Z7))))))),?_⟩
  have z3:3<=sizeLine:=by decide
  refine⟨_,rfl,z3,fun a ha=>?_⟩;refine⟨_,rfl,z3,fun b hb=>?_⟩;have s1:=ZS (o:=tr3 (p,1,0)) (Z5.refl H) ha;refine WT (fun σ H2=>∃ (x y:Addr) (o t:T3) (m l:Option V),σ=[some (.int p),some (.int q),some (.ref x),some (.ref y),m,l]/\Z5 H H2/\H2 x=some (tr3 o)/\H2 y=some (tr3 t)/\EuI p q o t) muT ?_ ?_ ?_
  ·refine⟨a,b,(p,1,0),(q,0,1),none,none,rfl,ZS s1 (s1.free hb),?_,ZR,EuI.start hp hq⟩;have:(upd H a (tr3 (p,1,0))) a=some (tr3 (p,1,0)):=ZR;show (upd (upd H a (tr3 (p,1,0))) b _) a=_;rw[ZK (Zc this hb)];exact this
  ·rintro σ H2 ⟨x,y,o,t,m,l,rfl,s2,hx,hy,I⟩;have hx:=SqT.of (K:=K) hx;have hy':=SqT.of (K:=K) hy;refine⟨_,rfl,y,_,0,_,rfl,rfl,hy',Z0 (j:=0) rfl,rfl,_,rfl,?_⟩
   by_cases e:t.1=0
   ·refine Ziv (by rw[e]) ?_;obtain⟨e1,e2,e3⟩:=I.one e hg;have el:=I.last e;have c1:Xn o.1 o.2.1:=.inl (by have:=I.ol;constructor<;>omega);have c2:Xn o.1 o.2.2:=.inl (by have:=I.ol;constructor<;>omega);refine⟨_,rfl,x,_,0,_,rfl,rfl,hx,Z0 (j:=0) rfl,_,rfl,x,_,1,_,rfl,rfl,hx,Z0 (j:=1) rfl,_,_,rfl,rfl,c1,?_⟩;refine⟨_,rfl,x,_,0,_,rfl,rfl,hx,Z0 (j:=0) rfl,_,rfl,x,_,2,_,rfl,rfl,hx,Z0 (j:=2) rfl,_,_,rfl,rfl,c2,?_⟩;refine⟨by show 2<=sizeLine;decide,fun d hd=>?_⟩;refine k _ d (ZS s2 (s2.free hd)) ?_ e1 e2 e3;rw[ZR];unfold wt0 wt1;rw[<-el]
   ·rw[decide_eq_false (by intro z;exact e (V.int.inj z))];refine Zz ?_;have hm:(o.1.fdiv t.1).natAbs<=60:=Y0z (Y5i o.1 t.1) I.ol;have cm:∀ j,Xn (o.1.fdiv t.1) j:=fun j=>.inl (by constructor<;>omega);obtain⟨kk,hkk,_⟩:=I.bd;refine⟨_,rfl,x,_,0,_,rfl,rfl,hx,Z0 (j:=0) rfl,_,rfl,y,_,0,_,rfl,rfl,hy',Z0 (j:=0) rfl,_,_,rfl,rfl,⟨e,by omega⟩,?_⟩;refine⟨_,rfl,x,_,0,_,rfl,rfl,hx,Z0 (j:=0) rfl,_,rfl,_,rfl,y,_,0,_,rfl,rfl,hy',Z0 (j:=0) rfl,_,_,rfl,rfl,cm _,_,_,rfl,rfl,?_⟩;refine⟨_,rfl,x,_,1,_,rfl,rfl,hx,Z0 (j:=1) rfl,_,rfl,_,rfl,y,_,1,_,rfl,rfl,hy',Z0 (j:=1) rfl,_,_,rfl,rfl,cm _,_,_,rfl,rfl,?_⟩;refine⟨_,rfl,x,_,2,_,rfl,rfl,hx,Z0 (j:=2) rfl,_,rfl,_,rfl,y,_,2,_,rfl,rfl,hy',Z0 (j:=2) rfl,_,_,rfl,rfl,cm _,_,_,rfl,rfl,?_⟩;refine⟨z3,fun d hd=>?_⟩;refine⟨_,rfl,_,rfl,⟨y,d,t,euS o t,_,_,rfl,ZS s2 (s2.free hd),?_,ZR,I.step e⟩,?_⟩
    ·rw[ZK (Zc hy hd)];exact hy
    ·have m1:∀ (a1 a2 a3 a5 a6:Option V) (z:Addr) (H9:Hp) (o9:T3),H9 z=some (tr3 o9)->muT [a1,a2,a3,some (.ref z),a5,a6] H9=o9.1.natAbs:=fun a1 a2 a3 a5 a6 z H9 o9 h9=>by
      simp only[muT,h9,tr3]
     have e1:=m1 (some (.int p)) (some (.int q)) (some (.ref y)) (some (.int (o.1.fdiv t.1))) (some (.ref d)) d (upd H2 d (tr3 (euS o t))) (euS o t) ZR;have e2:=m1 (some (.int p)) (some (.int q)) (some (.ref x)) m l y H2 t hy;exact e2 ▸ (Y1s (Nat.le_of_eq e1) (Zhl o.1 t.1 e))
  ·rintro σ H Q Q' h ⟨v,e1,a,xs,i,v2,q1,q2,q3,q4,q5,w',e',q6⟩;exact⟨v,e1,a,xs,i,v2,q1,q2,q3,q4,q5,w',e',h _ _ q6⟩
end
noncomputable def wts (p q:Int):Bool:=decide ((wt0 p q).natAbs<=60)&&(decide ((wt1 p q).natAbs<=60)&&decide (wt0 p q*p+wt1 p q*q=1))
theorem ZkN:((Y02 121).all fun i=>(Y02 121).all fun j=>(Y1v ((i:Int)-60) ((j:Int)-60) != 1)||wts ((i:Int)-60) ((j:Int)-60))=true:=by decide +kernel
theorem ZdU {p q:Int}(h1:p.natAbs<=60)(h2:q.natAbs<=60)(h3:Y1v p q=1):(wt0 p q).natAbs<=60/\(wt1 p q).natAbs<=60/\wt0 p q*p+wt1 p q*q=1:=by
 have h:=ZkN;rw[Y3f]at h;have h:=h (p+60).toNat (Y06.mpr (by omega));rw[Y3f]at h;have h:=h (q+60).toNat (Y06.mpr (by omega));rw[show (((p+60).toNat:Nat):Int)-60=p from by omega,show (((q+60).toNat:Nat):Int)-60=q from by omega,h3]at h;have h:wts p q=true:=by simpa using h
 unfold wts at h;rw[Y22,Y22,decide_eq_true_iff,decide_eq_true_iff,decide_eq_true_iff]at h;exact h
end K1
namespace L2
open PySem PySem.Spec PyProof.Rows
section
variable {X:Cx}{o i value:Expr}{pos pos':Pos}{to ti tv:TE}
noncomputable def Zjn (to ti tv:TE):TS:=fun D σ H=>tv σ H fun v H1=>to σ H1 fun x H2=>ti σ H2 fun y H3=>Zis x y v H3 fun H4=>D.nx σ H4
theorem Zc3 (ho:PE X o to)(hi:PE X i ti)(hv:PE X value tv)(hs:swapsWith value (some (.Subscript o i pos')) pos.line X.env=pure false):PS X (.Assign [.Subscript o i pos'] value pos) (Zjn to ti tv):=by
 intro pins s σ H D I h;refine wpAny_Assign_Subscript (thn (hv pins s σ H _ I h) fun r s1 ⟨v,H1,I1,rv,q1⟩=>thn (ho pins s1 σ H1 _ I1 q1) fun u s2 ⟨x,H2,I2,rx,q2⟩=>thn (hi pins s2 σ H2 _ I2 q2) fun iv s3 ⟨y,H3,I3,ry,q3⟩=>?_) hs;exact thn (Zcj pins s3 σ H3 x y v u iv r _ I3 rx ry rv q3) fun _ s4 ⟨H4,I4,q4⟩=>⟨σ,H4,I4,q4⟩
end
end L2
namespace K1
open PySem L2 Sq
theorem ZdH (xs:List Nat)(j x:Nat):(nv xs).set j (.int (x:Int))=nv (xs.set j x):=by
 unfold nv;rw[List.map_set]
theorem Z78 {n:Nat}{r bl:List Nat}(rr:Row n r)(hl:bl.length=n)(h:∀ k,k<n->bl[nx r k]?=some k):bl=back r:=by
 refine Y2u fun x=>?_
 by_cases hx:x<n
 ·have e:=h (r.idxOf x) (rr.idx_lt hx);rw[rr.nx_idx hx]at e;rw[e,rr.back.get hx,Vo rr hx]
 ·rw[Y18 (by omega),Y18 (by rw[SE,rr.len];omega)]
theorem Zbf (n:Nat):(Y0c n true).all id=true:=by
 rw[Y3f];intro x hx;rw[(List.mem_replicate.mp hx).2];rfl
def UI:Sp:=fun vs H Q _=>∃ (p:Addr) (n:Nat) (r:List Nat),vs=[.ref p]/\H p=some (.tup (nv r))/\Row n r/\n<=36/\∀ (H':Hp) (l:Addr),Z5 H H'->H' l=some (.tup (nv (back r)))->Q (.ref l) H'
section
variable {P:Program}{w:World}{K:Y00}{mg:Str->Option Value}{base:Heap}
theorem SQ:ZL ["row","back","square","target"] ["row"] (ZV WW):=⟨rfl,rfl,rfl,by decide +kernel,rfl,by decide +kernel,by decide +kernel⟩
theorem Z9A {f:Addr}{fd:FuncData}(T:Bi mg)(F:Fn K mg "back_row" WW ["row"] f fd):Z4 P w K mg base CX0 1 f fd ["row"] UI:=by
 refine F.F.ok SQ (fun vs H Q E h=>?_) (fun cdv A outer s H vs Q E hr h=>?_)
 ·obtain⟨p,n,r,rfl,_⟩:=h;rfl
 ·obtain⟨p,n,r,rfl,hp,rr,hn,k⟩:=h;refine⟨_,Z3 (ZW (i:=1) SQ.nd rfl (Or.inl rfl) (X7 Z7k rfl T.list UJ (Z9 (pv 0) Z7)))
   (Z3 (Yg PassesOwn.never rfl (Z8u rfl T.enum (Z9 (pv 0) Z7)) (ZbM rfl (Vw (Zu (i:=2) SQ.nd rfl (Or.inl rfl)) (Vw (Zu (i:=3) SQ.nd rfl (Or.inl rfl)) Z7I)))
    (ZY (Zc3 (pv 1) (pv 3) (pv 2) rfl)))
   (ZY (ZO (X7 UV rfl T.tuple XC (Z9 (pv 1) Z7))))),?_⟩
  refine⟨_,rfl,p,_,rfl,.inr (SqT.of hp),fun lb hlb=>?_⟩;have s1:Z5 H (upd H lb (.lst (nv r))):=ZS (Z5.refl H) hlb;refine⟨_,rfl,p,rfl,⟨_,SqT.of (s1 _ _ hp)⟩,Ze5 (xs:=nv r) (fun i σ H2=>∃ o2 o3 bl,σ=[some (.ref p),some (.ref lb),o2,o3]/\Z5 H H2/\H2 lb=some (.lst (nv bl))/\bl.length=n/\∀ k,k<i->bl[nx r k]?=some k)
   ⟨_,_,r,rfl,s1,ZR,rr.len,fun k hk=>absurd hk (Y1y _)⟩ (fun i σ H2 _ ⟨_,_,_,_,s2,_⟩=>SqT.of (s2 _ _ hp)) ?_ ?_⟩
  ·rintro i x σ H2 T' hx hT ⟨o2,o3,bl,rfl,s2,h2,hbl,hall⟩;obtain⟨y,hy,rfl⟩:=Sz hx;have hi:i<n:=(by rw[<-rr.len];exact (Y08.mp hy).1);have ey:y=nx r i:=(by have:=rr.get hi;rw[hy]at this;exact Option.some.inj this);have hyn:y<n:=(by rw[ey];exact rr.nlt hi);have h2':(upd H2 T' (VO T' [.int (i:Int),.int (y:Int)])) lb=some (.lst (nv bl)):=(by rw[ZK (Zc h2 hT)];exact h2);refine⟨T',_,rfl,ZR,rfl,_,_,rfl,_,_,rfl,rfl,?_⟩;refine⟨_,rfl,_,rfl,_,rfl,lb,_,_,y,rfl,rfl,h2',?_,?_⟩
   ·unfold ixN;rw[if_pos (by lia),if_pos (by rw[ZA,hbl];lia)];simp
   refine⟨_,_,bl.set y i,rfl,ZS (ZS s2 (s2.free hT)) hlb,by rw[ZR,ZdH],by rw[List.length_set];exact hbl,fun k hk=>?_⟩;rcases Y0q k i with c|c
   ·have hne:y≠nx r k:=fun z=>by
     rw[ey]at z;have:=rr.inj hi (by lia) z;lia
    rw[Y3r hne];exact hall k c
   ·have:k=i:=(by lia);subst this;rw[<-ey,Y3i (by rw[hbl];exact hyn)]
  ·rintro σ H2 ⟨o2,o3,bl,rfl,s2,h2,hbl,hall⟩;rw[ZA,rr.len]at hall;have e:=Z78 rr hbl hall;subst e;refine⟨_,rfl,lb,_,rfl,.inl ⟨SqL.of h2,fun l hl=>k _ l (ZS s2 (s2.free hl)) ZR⟩⟩
end
end K1
namespace L2
open PySem PySem.Spec PyProof.Rows
section
variable {X:Cx}
def Za6:V->List V->Hp->VK->Prop:=fun x vs H Q=>∃ (p:Addr) (r:List Nat) (i:Nat),x=.ref p/\vs=[.int (i:Int)]/\H p=some (.lst (nv r))/\i∈r/\Q (.int (r.idxOf i:Nat)) H
noncomputable def eInt (i:Int):Value->Bool
 | .int m _=>m==i
 | _=>false
theorem Z6Q:MtR X "list.index" Za6:=by
 intro pins s σ H x vs v us Q I rx rv h;obtain⟨p,r,i,rfl,rfl,hp,hi,q⟩:=h;cases rx;obtain⟨u,rfl,t,rfl⟩:=rv.one;obtain⟨z,its,n,r',hl,e⟩:=I.lstM hp;have hlen:its.length=r.length:=by rw[<-r'.length,ZA]
 have item:∀ (j:Nat) (hj:j<its.length),∃ (m:Nat) (t:Tok),r[j]?=some m/\its[j]=.int (m:Int) t:=fun j hj=>by
  have hj':j<r.length:=by rw[<-hlen];exact hj
  obtain⟨u,hu,ru⟩:=r'.get (Zp (Y01 hj'));rw[Y01 hj]at hu;obtain⟨t,ht⟩:=ru;exact⟨_,t,Y01 hj',(Option.some.inj hu).trans ht⟩
 have hil:=Y1k hi;have hlt:r.idxOf i<its.length:=by rw[hlen];exact hil
 have hz63:(sizeLine:Nat)<=2^62:=by decide
 refine call_meets PySem.F.slot_list_index ⟨_,e,rfl⟩ PySem.F.entry_list_index (PySem.F.args_list_index_2 _ _) (SeqAt.list_indexAt p its.toArray n none #[] (.int (i:Int) t) (eInt (i:Int)) (r.idxOf i) (by rw[Y0e];exact hlt) (by
   have:nv r=nv r:=rfl
   have hl2:(nv r).length<=sizeLine:=z
   rw[ZA]at hl2
   omega) ?_ (fun m hm hlt'=>?_)) ⟨e,fun y hy=>?_,?_⟩
 ·obtain⟨m,t',hm,ey⟩:=item _ hlt;rw[List.getElem_toArray,ey];rw[Y01 hil,Y59 hil]at hm;show ((m:Int)==(i:Int))=true;rw[<-Option.some.inj hm];simp
 ·have hm':m<its.length:=by simpa using hm
  obtain⟨k,t',hk,ey⟩:=item m hm';rw[List.getElem_toArray,ey];show ((k:Int)==(i:Int))=false;have hne:k≠i:=fun z=>Z6H r m i hlt' (by rw[<-z];exact hk);simp;omega
 ·have hy:y∈its:=by simpa using hy
  obtain⟨j,hj,ey⟩:=Y1i.mp hy;obtain⟨m,t',_,e2⟩:=item j hj;rw[<-ey,e2];exact SeqAt.EqAt.int_int (m:Int) t' (i:Int) t
 ·exact⟨.int (r.idxOf i:Nat),H,I.tok _,⟨_,rfl⟩,q⟩
end
section
variable {X:Cx}{elts:List Expr}{k:Nat}{tpos:Pos}
end
theorem Z7y (ns:List Int):∀ n,n<=ns.length->preSum (fun i=>ns.getD i 0) n=(ns.take n).sum:=by
 intro n
 induction n with
 | zero=>intro _;simp[preSum]
 | succ n ih=>
  intro h;have hn:n<ns.length:=by omega
  rw[Y1j,Y01 hn,List.sum_append];show preSum (fun i=>ns.getD i 0) n+ns.getD n 0=_;rw[ih (by omega)];simp[Y04,hn]
section
variable {X:Cx}
theorem Zcv:bootBuiltins "sum"=some (.builtin "sum"):=by decide +kernel
theorem ZaP (hc:X.calm=true):YW X (.builtin "sum") (fun xs H Q=>∃ (p:Addr) (ns:List Int),xs=[.ref p]/\SqL X.K H p (ns.map V.int)/\Q (.int ns.sum) H):=by
 intro pins s σ H xs us Q I r h;obtain⟨p,ns,rfl,hq,q⟩:=h;obtain⟨u,rfl,ru⟩:=YE r;obtain rfl:u=Value.ref p:=ru;obtain⟨its,rv,pl,hz⟩:=I.list hq;have hL:=pl.isList;have hlt:p<s.heap.objs.size:=by obtain⟨o,ho,_⟩:=id hL;exact Y09 ho
 have hlen:its.length=ns.length:=by rw[<-rv.length];simp
 refine call_sum_walkG (wpAny_pyIter_list hL ⟨s.heap.objs.size,_,_,its.toArray.size,_,_,fun i=>ns.getD i 0,rfl,Walks.list (A:=X.A.in1) (I.ok.hd hc) s.heap.objs.size p (Y0j hlt) its.toArray,⟨⟨_,Y0b _ rfl,rfl,rfl⟩,hL.push _⟩,fun b hb=>?_,fun i v hP=>?_,fun h' tk t' hk=>?_⟩)
 ·rw[Y21];simp at hb;rcases hb with rfl|rfl
  ·exact Y2l _
  ·exact Y1f hlt
 ·have hv:its[i]?=some v:=by simpa using hP
  have hi:i<ns.length:=by rw[<-hlen];exact (Y08.mp hv).1
  have hb:(ns.map V.int)[i]?=some (.int ns[i]):=by simp[hi]
  obtain⟨u,hu,t,rfl⟩:=rv.get hb;rw[hv]at hu;cases hu;exact⟨t,by simp[Y04,hi]⟩
 ·refine⟨.int ns.sum,H,?_,⟨t',?_⟩,q⟩
  ·refine I.kept fun b o e=>hk b o (fun hb=>?_) (Y03 _ e);have:=Y09 e;simp at hb;rw[hb]at this;exact Y2d _ this
  ·rw[Z7y _ _ (by rw[Y0e,hlen];exact Y05 _),Y0e,hlen,Y2n]
end
theorem Z5q {prog:Program}{w:World}{A:Around}{R:Result->Shared->Prop}{s:Shared}{elt target iter cnd:Expr}{scope:Scope}{pos:Pos}{it acc:Value}{env:Env}(I:Nat->Shared->Prop)
  (turn:∀ n s,I n s->wpAny (model prog w) A (pyNext it) (fun r s₁=>match r with
   | none=>R (.ok .next) s₁
   | some v=>wpAny (model prog w) A (letOwnedTupleGo target it v) (fun _ s₀=>wpAny (model prog w) A (assign target env v) (fun _ s₂=>
     wpAny (model prog w) A (isTrue cnd env (eval cnd env)) (fun ok s₃=>if ok=true then
     wpAny (model prog w) A (eval elt env) (fun x s₄=>
       wpAny (model prog w) A (call (.builtin "list.append") [acc,x]) (fun _ s₅=>∃ m,m<n/\I m s₅) (notedBy (model prog w) A env fun e s'=>R (.error e) s') s₄) (notedBy (model prog w) A env fun e s'=>R (.error e) s') s₃
      else ∃ m,m<n/\I m s₃) (notedBy (model prog w) A env fun e s'=>R (.error e) s') s₂)
     (notedBy (model prog w) A env fun e s'=>R (.error e) s') s₀) (notedBy (model prog w) A env fun e s'=>R (.error e) s') s₁) (notedBy (model prog w) A env fun e s'=>R (.error e) s') s)
  (n:Nat) (h:I n s) :
  codeAny (model prog w) A (.compLoop (.ListComp elt [⟨target,iter,[cnd],0⟩] scope pos) 0 it acc env) R s:=by
 refine codeAny_loop rfl I (fun n s hI=>?_) n h;show wpAny _ A ((compTurn (.ListComp elt [⟨target,iter,[cnd],0⟩] scope pos) 0 it acc env).onRaise (fun x=>do noteFrame x env;theTreesLotGoes x)) _ _ s;refine wpAny_noted ?_;rw[compTurn_list];refine wpAny_bind (wpAny_standAt (wpAny_bind (wpAny_mono (turn n s hI) (fun r s₁ h₁=>?_) fun _ _ h'=>h')));cases r with
 | none=>exact wpAny_pure h₁
 | some v=>
  refine wpAny_bind (wpAny_mono h₁ (fun _ s₀ h₀=>?_) fun _ _ h'=>h');refine wpAny_bind (wpAny_mono h₀ (fun _ s₂ h₂=>wpAny_bind (wpAny_tests_one (wpAny_mono h₂ (fun ok s₃ h₃=>?_) fun _ _ h'=>h'))) fun _ _ h'=>h');cases ok with
  | false=>exact wpAny_pure ⟨rfl,by simpa using h₃⟩
  | true=>
   have h₃:=(show wpAny _ _ _ _ _ _ from by simpa using h₃);exact wpAny_bind (wpAny_bind (wpAny_mono h₃ (fun x s₄ h₄=>wpAny_bind (wpAny_mono h₄ (fun _ s₅ h₅=>wpAny_pure (wpAny_pure ⟨rfl,h₅⟩)) fun _ _ h'=>h')) fun _ _ h'=>h'))
noncomputable def We (wi:TI)(k:Nat)(pull:List Nat)(g:TG)(tt:TT)(te:TE):TE:=fun σ H Q=>wi σ H fun J H1=>∀ d,H1 d=none->
 ∃ W:Nat->Nat->St->Hp->Prop,(∃ m,W 0 m (bst k pull σ) (upd H1 d (.lst [])))/\∀ i m σ' H',W i m σ' H'->
  (J.stop i H'/\Q (.ref d) H')\/
  (J.go i H'/\∀ x H2,J.yld i H' x H2->g x σ' H2 fun σ3 H3=>tt σ3 H3 fun b H4=>if b=true then te σ3 H4 fun y H5=>∃ xs,H5 d=some (.lst xs)/\xs.length<sizeLine/\∃ m',m'<m/\W (i+1) m' σ3 (upd H5 d (.lst (xs++[y])))
   else ∃ m',m'<m/\W (i+1) m' σ3 H4)
section
variable {X:Cx}{elt tg iter cnd:Expr}{sc:Scope}{pos:Pos}{wi:TI}{g:TG}{tt:TT}{te:TE}{N:List Str}{names:List (Str×NameKind)}{N':List Str}{k:Nat}{pull:List Nat}
theorem SO (hc:X.calm=true)(B:T4 N names N' k pull sc)(hN:X.N=N)(hnm:X.env.scope.names=names)(hi:PI X tg iter wi)
  (hg:∀ cl C s₂ H₁ fp pins,PG (blk X sc cl C N' s₂ H₁ fp pins) tg g) (hcn:∀ cl C s₂ H₁ fp pins,PT (blk X sc cl C N' s₂ H₁ fp pins) cnd tt) (he:∀ cl C s₂ H₁ fp pins,PE (blk X sc cl C N' s₂ H₁ fp pins) elt te)
  (hs:∀ x,foldedSetIterable iter X.env x=pure x:=by intro _;rfl):PE X (.ListComp elt [⟨tg,iter,[cnd],0⟩] sc pos) (We wi k pull g tt te):=by
 intro pins s σ H Q I h;rw[eval_ListComp];have hcells:∀ y∈sc.names,y.2=.free->∃ c,X.env.cells.lookup y.1=some c:=fun y hy hf=>I.ok.has y.1 (.inl (by
  show X.env.scope.names.lookup y.1=_
  rw[hnm];exact B.fre y hy hf))
 obtain⟨cl,ecl,c1,_,c3⟩:=VJ (env:=X.env) sc.names [] hcells (fun x c e=>nomatch e);rw[<-SY]at ecl;refine wpAny_comprehension_free (use:=none) rfl hs ecl B.kind B.loc (thn (hi pins s σ H _ I h) fun xv s1 h1=>thn h1 fun itv s2 h2=>?_);obtain⟨it,fp,tn,J,H1,e,I2,T,st2,f2,hW⟩:=h2;subst e;have ho:∀ b∈fp,∃ o,s2.heap.get? b=some o:=fun b hb=>let ⟨o,e,_⟩:=T.obj _ _ st2 b hb;⟨o,e⟩
 refine wpAny_newObj_type (wpAny_newFunctionEnv B.nocell (by intro y hy;simp at hy) (fun h₁ hns₁ hsb₁=>?_) B.kind);dsimp only at hns₁ hsb₁ ⊢;rw[Y21]at hns₁ hsb₁ ⊢;have old:∀ b o,s2.heap.get? b=some o->h₁.get? b=some o:=fun b o e=>by
  have hlt:=Y09 e;exact (hsb₁.2 b (Y0j (Y1f hlt))).trans (Y03 _ (Y03 _ e))
 have hd:h₁.get? s2.heap.objs.size=some { cls:=.type "list",data:=.seq ([]:List Value).toArray }:=
  (hsb₁.2 _ (Y0j (Y2l _))).trans (Y03 _ (Y0b _ rfl))
 have I4:=SW (tk:=s2.toks+([]:List (Str×Value)).length) B hN hnm I2 f2 ho c1 c3 hns₁ old hd;have st4:tn 0 h₁:=T.keep _ _ _ st2 fun b _ o e=>old b o e;obtain⟨W,⟨m0,w0⟩,turn⟩:=hW s2.heap.objs.size (I2.hok.fresh (Y05 _));have fr4:∀ b∈fp,(upd H1 s2.heap.objs.size (.lst [])) b=none:=fun b hb=>by
  obtain⟨o,e⟩:=ho b hb;rw[ZK (Y0j (Y09 e))];exact (f2 b hb).1
 have stat:∀ {H':Hp},(∀ b∈fp,H' b=none)->∀ b∈fp,Yp (blk X sc cl (s2.heap.objs.size+1) N' s2 H1 fp pins) [] H' b:=fun hn b hb=>by
  refine⟨hn b hb,(I4.ok.exf b hb).1,I4.ok.exfs b hb,.inl hb,(I4.ok.exf b hb).2,fun p hp=>?_⟩;have hp:p∈X.pn++pins:=by simpa [blk] using hp
  exact (f2 b hb).2.2.2.2.2 p hp
 have loop:∀ s₃:Shared,s₃={ s2 with heap:=h₁,toks:=s2.toks+([]:List (Str×Value)).length }->
   codeAny (model X.prog X.w) X.A (.compLoop (.ListComp elt [⟨tg,iter,[cnd],0⟩] sc pos) 0 (.ref it) (.ref s2.heap.objs.size) (compEnvC sc cl (s2.heap.objs.size+1) X.env))
    (compPost (model X.prog X.w) X.A X.xe none (EP X pins σ Q) (.ref s2.heap.objs.size) (s2.heap.objs.size+1)) s₃:=by
  rintro s₃ rfl;refine Z5q (fun n s'=>∃ i σ' H',Inv (blk X sc cl (s2.heap.objs.size+1) N' s2 H1 fp pins) [] σ' H' s'/\tn i s'.heap/\(∀ b∈fp,H' b=none)/\W i n σ' H') ?_ m0 ⟨0,_,_,I4,st4,fr4,w0⟩;rintro n s3 ⟨i,σ3,H3,I3,st3,fr3,w3⟩;rcases turn i n σ3 H3 w3 with ⟨stop,q⟩|⟨go,step⟩
  ·refine thn (T.done (blk X sc cl (s2.heap.objs.size+1) N' s2 H1 fp pins) rfl rfl rfl hc i [] s3 σ3 H3 _ I3 (stat fr3) st3 stop) fun r s4 ⟨hr,I5⟩=>?_;subst hr;obtain⟨m,hn,_⟩:=id I5.loc;refine⟨m,hn,fun h' hs'=>?_⟩;have ne:∀ b o,s2.heap.get? b=some o->b≠s2.heap.objs.size+1:=fun b o e=>Y0j (Y1f (Y09 e));have U:Un (frs X.stack) fp H1 H3 s2.heap s4.heap:=I5.base;have U':Un (frs X.stack) fp H1 H3 s2.heap h':=⟨fun b o e n hb hx=>(hs'.2 b (ne b o e)).trans (U.keep b o e n hb hx),fun b o e n hb hx=>by
     obtain⟨sl,z⟩:=U.slot b o e n hb hx
     exact⟨sl,(hs'.2 b (ne b o e)).trans z⟩,U.free,fun b o e hx=>by
     obtain⟨o',z⟩:=U.there b o e hx
     exact⟨o',(hs'.2 b (ne b o e)).trans z⟩,U.tups,U.frzs,U.tbls⟩
   have hok:HOk X.prog X.w H3 h':=HOk.but (C:=s2.heap.objs.size+1) I5.hok I5.free fun b o hb e=>(hs'.2 b hb).trans e;refine⟨.ref s2.heap.objs.size,H3,I2.call' (s':={ s4 with heap:=h' }) I5.os U' hok I5.bare fun b hb=>?_,rfl,q⟩;exact⟨(f2 b hb).2.2.2.1,(f2 b hb).2.1,(f2 b hb).2.2.2.2.1,(f2 b hb).2.2.2.2.2⟩
  ·refine thn (T.item (blk X sc cl (s2.heap.objs.size+1) N' s2 H1 fp pins) rfl rfl rfl hc i [] s3 σ3 H3 _ I3 (stat fr3) st3 go) fun r s4 ⟨u,hr,h4⟩=>?_;subst hr;refine thn h4 fun _ s5 ⟨x,H5,I5,r5,y5,st5,fr5⟩=>?_;have I5':=I5.pinned (stat fr5) (T.obj _ _ st5);refine wpAny_mono (hg _ _ _ _ _ _ _ s5 σ3 H5 x u _ I5' r5 (step x H5 y5)) (fun _ s6 ⟨σ6,H6,I6,q6⟩=>?_) fun _ _ z=>z.elim;refine wpAny_mono (hcn _ _ _ _ _ _ _ s6 σ6 H6 _ I6 q6) (fun ok s7 ⟨H7,I7,q7⟩=>?_) fun _ _ z=>z.elim;cases ok with
   | false=>
    have q7:∃ m',m'<n/\W (i+1) m' σ6 H7:=by simpa using q7
    obtain⟨m',hm,w7⟩:=q7;refine⟨m',hm,i+1,σ6,_,I7.unpinned,T.keep _ _ _ st5 fun b hb o e=>(I7.pin (b,o) (Y0a _ (Y0a _ (Yo hb e)))).1,fun b hb=>?_,w7⟩;obtain⟨o,e,_⟩:=T.obj _ _ st5 b hb;exact (I7.pin (b,o) (Y0a _ (Y0a _ (Yo hb e)))).2.1
   | true=>
    rw[if_pos rfl]at q7;refine wpAny_mono (he _ _ _ _ _ _ _ s7 σ6 H7 _ I7 q7) (fun y s8 ⟨z,H8,I8,r8,xs,hx8,hz8,m',hm,w8⟩=>?_) fun _ _ z=>z.elim;refine wpAny_mono (Xj (X:=blk X sc cl (s2.heap.objs.size+1) N' s2 H1 fp pins) _ s8 σ6 H8 (.ref s2.heap.objs.size) [z] (.ref s2.heap.objs.size) [y] (fun _ H9=>H9=upd H8 s2.heap.objs.size (.lst (xs++[z]))) I8 rfl (.cons r8 .nil) ⟨_,xs,z,rfl,rfl,hx8,hz8,rfl⟩) (fun _ s9 ⟨_,H9,I9,_,e9⟩=>?_) fun _ _ z=>z.elim;subst e9;refine⟨m',hm,i+1,σ6,_,I9.unpinned,T.keep _ _ _ st5 fun b hb o e=>(I9.pin (b,o) (Y0a _ (Y0a _ (Yo hb e)))).1,fun b hb=>?_,w8⟩;obtain⟨o,e,_⟩:=T.obj _ _ st5 b hb;exact (I9.pin (b,o) (Y0a _ (Y0a _ (Yo hb e)))).2.1
 exact codeAny_compStart_list (loop _ rfl) (T.self _ 0 _ _ _ st4 (loop _ rfl))
end
section
variable {X:Cx}{elt tg iter:Expr}{sc:Scope}{pos py spos:Pos}{wi:TI}{g:TG}{te:TE}{N:List Str}{names:List (Str×NameKind)}{N':List Str}{k j:Nat}{pull:List Nat}{y:Str}
theorem Zaw (hc:X.calm=true)(hNd:X.N.Nodup)(hj:X.N[j]?=some y)(hy:X.env.scope.names.lookup y=some .local)(B:T4 N names N' k pull sc)(hN:X.N=N)(hnm:X.env.scope.names=names)(hi:PI X tg iter wi)
  (hg:∀ cl C s₂ H₁ fp pins,PG (blk X sc cl C N' s₂ H₁ fp pins) tg g) (he:∀ cl C s₂ H₁ fp pins,PE (blk X sc cl C N' s₂ H₁ fp pins) elt te)
  (hs:∀ x,foldedSetIterable iter X.env x=pure x:=by intro _;rfl) (hsw:swapsWith (.ListComp elt [⟨tg,iter,[],0⟩] sc pos) (some (.Name y py)) spos.line X.env=pure true:=by rfl):PS X (.Assign [.Name y py] (.ListComp elt [⟨tg,iter,[],0⟩] sc pos) spos) (X8 (Yq wi k pull g te) (Zs j)):=by
 intro pins s σ H D I h;rw[exec_Assign_Name_used _ _ _ _ hsw];refine wpAny_bind (wpAny_standAt (wpAny_bind ?_));show wpAny _ X.A (do let _ <-comprehension (.ListComp elt [⟨tg,iter,[],0⟩] sc pos) sc X.env _ (newList []) false (eval iter X.env) (some (assign (.Name y py) X.env))) _ _ s;have hcells:∀ y∈sc.names,y.2=.free->∃ c,X.env.cells.lookup y.1=some c:=fun y hy hf=>I.ok.has y.1 (.inl (by
  show X.env.scope.names.lookup y.1=_
  rw[hnm];exact B.fre y hy hf))
 obtain⟨cl,ecl,c1,_,c3⟩:=VJ (env:=X.env) sc.names [] hcells (fun x c e=>nomatch e);rw[<-SY]at ecl;refine wpAny_bind (wpAny_mono (wpAny_comprehension_free (Q:=fun _ s'=>SP X pins D .next s') (use:=some (assign (.Name y py) X.env)) rfl hs ecl B.kind B.loc (thn (hi pins s σ H _ I h) fun xv s1 h1=>thn h1 fun itv s2 h2=>?_)) (fun _ s' hq=>wpAny_pure (wpAny_pure hq)) fun _ _ e=>e);obtain⟨it,fp,tn,J,H1,e,I2,T,st2,f2,hW⟩:=h2;subst e;have ho:∀ b∈fp,∃ o,s2.heap.get? b=some o:=fun b hb=>let ⟨o,e,_⟩:=T.obj _ _ st2 b hb;⟨o,e⟩
 refine wpAny_newObj_type (wpAny_newFunctionEnv B.nocell (by intro y hy;simp at hy) (fun h₁ hns₁ hsb₁=>?_) B.kind);dsimp only at hns₁ hsb₁ ⊢;rw[Y21]at hns₁ hsb₁ ⊢;have old:∀ b o,s2.heap.get? b=some o->h₁.get? b=some o:=fun b o e=>by
  have hlt:=Y09 e;exact (hsb₁.2 b (Y0j (Y1f hlt))).trans (Y03 _ (Y03 _ e))
 have hd:h₁.get? s2.heap.objs.size=some { cls:=.type "list",data:=.seq ([]:List Value).toArray }:=
  (hsb₁.2 _ (Y0j (Y2l _))).trans (Y03 _ (Y0b _ rfl))
 have I4:=SW (tk:=s2.toks+([]:List (Str×Value)).length) B hN hnm I2 f2 ho c1 c3 hns₁ old hd;have st4:tn 0 h₁:=T.keep _ _ _ st2 fun b _ o e=>old b o e;obtain⟨W,⟨m0,w0⟩,turn⟩:=hW s2.heap.objs.size (I2.hok.fresh (Y05 _));have fr4:∀ b∈fp,(upd H1 s2.heap.objs.size (.lst [])) b=none:=fun b hb=>by
  obtain⟨o,e⟩:=ho b hb;rw[ZK (Y0j (Y09 e))];exact (f2 b hb).1
 have stat:∀ {H':Hp},(∀ b∈fp,H' b=none)->∀ b∈fp,Yp (blk X sc cl (s2.heap.objs.size+1) N' s2 H1 fp pins) [] H' b:=fun hn b hb=>by
  refine⟨hn b hb,(I4.ok.exf b hb).1,I4.ok.exfs b hb,.inl hb,(I4.ok.exf b hb).2,fun p hp=>?_⟩;have hp:p∈X.pn++pins:=by simpa [blk] using hp
  exact (f2 b hb).2.2.2.2.2 p hp
 have loop:∀ s₃:Shared,s₃={ s2 with heap:=h₁,toks:=s2.toks+([]:List (Str×Value)).length }->
   codeAny (model X.prog X.w) X.A (.compLoop (.ListComp elt [⟨tg,iter,[],0⟩] sc pos) 0 (.ref it) (.ref s2.heap.objs.size) (compEnvC sc cl (s2.heap.objs.size+1) X.env))
    (compPost (model X.prog X.w) X.A X.xe (some (assign (.Name y py) X.env)) (fun _ s'=>SP X pins D .next s') (.ref s2.heap.objs.size) (s2.heap.objs.size+1)) s₃:=by
  rintro s₃ rfl;refine Z6M (fun n s'=>∃ i σ' H',Inv (blk X sc cl (s2.heap.objs.size+1) N' s2 H1 fp pins) [] σ' H' s'/\tn i s'.heap/\(∀ b∈fp,H' b=none)/\W i n σ' H') ?_ m0 ⟨0,_,_,I4,st4,fr4,w0⟩;rintro n s3 ⟨i,σ3,H3,I3,st3,fr3,w3⟩;rcases turn i n σ3 H3 w3 with ⟨stop,q⟩|⟨go,step⟩
  ·refine thn (T.done (blk X sc cl (s2.heap.objs.size+1) N' s2 H1 fp pins) rfl rfl rfl hc i [] s3 σ3 H3 _ I3 (stat fr3) st3 stop) fun r s4 ⟨hr,I5⟩=>?_;subst hr;obtain⟨m,hn,_⟩:=id I5.loc;have U:Un (frs X.stack) fp H1 H3 s2.heap s4.heap:=I5.base;have J5:Inv X pins σ H3 s4:=I2.call' (s':=s4) I5.os U I5.hok I5.bare fun b hb=>⟨(f2 b hb).2.2.2.1,(f2 b hb).2.1,(f2 b hb).2.2.2.2.1,(f2 b hb).2.2.2.2.2⟩;obtain⟨g0,g1,_,g3,g4,g5⟩:Yp X pins H3 (s2.heap.objs.size+1):=I2.fpOk (Y3z _) I5.free;refine wpAny_assign_Name (Z5k J5 hNd hj (.inl hy) (v:=.ref s2.heap.objs.size) rfl (fun s5 K5 ⟨a,sb,ha⟩=>?_) (.inr hy));have hne:s2.heap.objs.size+1≠a:=fun z=>by
    rcases ha with ha|ha
    ·exact g1 (z.trans ha)
    ·exact g4 _ _ ha z.symm
   refine⟨m,hn.sameBut sb hne,fun h' hs'=>⟨_,H3,?_,q⟩⟩;exact K5.turned (t':=s5.toks) (fun b o hb e=>(hs'.2 b hb).trans e) g0 g1 g3 g4 g5
  ·refine thn (T.item (blk X sc cl (s2.heap.objs.size+1) N' s2 H1 fp pins) rfl rfl rfl hc i [] s3 σ3 H3 _ I3 (stat fr3) st3 go) fun r s4 ⟨u,hr,h4⟩=>?_;subst hr;refine thn h4 fun _ s5 ⟨x,H5,I5,r5,y5,st5,fr5⟩=>?_;have I5':=I5.pinned (stat fr5) (T.obj _ _ st5);refine wpAny_mono (hg _ _ _ _ _ _ _ s5 σ3 H5 x u _ I5' r5 (step x H5 y5)) (fun _ s6 ⟨σ6,H6,I6,q6⟩=>?_) fun _ _ z=>z.elim;refine wpAny_mono (he _ _ _ _ _ _ _ s6 σ6 H6 _ I6 q6) (fun y s7 ⟨z,H7,I7,r7,xs,hx7,hz7,m',hm,w7⟩=>?_) fun _ _ z=>z.elim;refine wpAny_mono (Xj (X:=blk X sc cl (s2.heap.objs.size+1) N' s2 H1 fp pins) _ s7 σ6 H7 (.ref s2.heap.objs.size) [z] (.ref s2.heap.objs.size) [y] (fun _ H8=>H8=upd H7 s2.heap.objs.size (.lst (xs++[z]))) I7 rfl (.cons r7 .nil) ⟨_,xs,z,rfl,rfl,hx7,hz7,rfl⟩) (fun _ s8 ⟨_,H8,I8,_,e8⟩=>?_) fun _ _ z=>z.elim;subst e8;refine⟨m',hm,i+1,σ6,_,I8.unpinned,T.keep _ _ _ st5 fun b hb o e=>(I8.pin (b,o) (Y0a _ (Y0a _ (Yo hb e)))).1,fun b hb=>?_,w7⟩;obtain⟨o,e,_⟩:=T.obj _ _ st5 b hb;exact (I8.pin (b,o) (Y0a _ (Y0a _ (Yo hb e)))).2.1
 exact codeAny_compStart_list (loop _ rfl) (T.self _ 0 _ _ _ st4 (loop _ rfl))
end
end L2
namespace K1
open PySem L2 Sq
theorem Z8T {K:Y00}{Hc:Hp}{p:Addr}{r:List Nat}{j:Nat}{te:TE}{pull:List Nat}{Q:VK}{σ:St}{rest:St}(g:Nat->Nat)(hj:σ[j]?=some (some (.ref p)))(hp:SqT K Hc p (nv r))(hb:bst 1 pull σ=none::rest)
  (hte:∀ (x:Nat) (H:Hp) (R:VK),x∈r->Z5 Hc H->R (.int (g x:Int)) H->te (some (.int (x:Int))::rest) H R) (hn:r.length<=1000)
  (k:∀ (H':Hp) (d:Addr),Z5 Hc H'->Hc d=none->H' d=some (.lst (nv (r.map g)))->Q (.ref d) H') :
  Yq (RA K (ZU j)) 1 pull (Zs 0) te σ Hc Q:=by
 refine⟨_,hj,p,rfl,⟨_,hp⟩,fun d hd=>?_⟩;rw[hb];refine Xg (Q:=fun d H'=>Q (.ref d) H') r.length (nv (r.map g)) (by rw[ZA];simp) (fun i σ H3=>(∃ o,σ=o::rest)/\Z5 Hc H3) ⟨⟨_,rfl⟩,ZS (Z5.refl _) hd⟩ ?_ ?_
 ·rintro i σ H3 hi ⟨⟨o,rfl⟩,s3⟩ hd3;have hp3:=Z5.tseq s3 hp;have hg:=Zp (Y01 hi);refine⟨⟨_,_,hp3,hg⟩,fun y H4 ⟨e,hy⟩=>?_⟩;subst e;have hy:=hy _ hp3;rw[hg]at hy;cases hy;refine hte _ _ _ (Y2m hi) s3 ?_;exact WA hi hn hd3 (Zp (by simp[hi])) ⟨⟨_,rfl⟩,ZS s3 hd⟩
 ·rintro σ H3 ⟨⟨o,rfl⟩,s3⟩ hd3;exact⟨⟨_,Z5.tseq s3 hp,by rw[ZA];exact Y05 _⟩,k H3 d s3 hd hd3⟩
end K1
namespace Sq
theorem Zg2 {n:Nat}{l l':List Nat}(hl:l.length=n)(hl':l'.length=n)(h:∀ i,i<n->nx l i=nx l' i):l=l':=by
 refine List.ext_getElem (by lia) fun i h1 h2=>?_;have:=h i (by lia)
 simpa [nx,Y3g,Y01 h1,Y01 h2] using this
section
variable {n:Nat}{r f:List Nat}
theorem Z5j (hf:Row n f):back (back f)=f:=by
 refine Zg2 (n:=n) (by rw[SE,SE,hf.len]) hf.len fun i hi=>?_;rw[Vo hf.back hi];have e:nx (back f) (nx f i)=i:=by rw[Vo hf (hf.nlt hi)];exact hf.idx_nx hi
 exact hf.back.inj (hf.back.idx_lt hi) (hf.nlt hi) (by rw[hf.back.nx_idx hi,e])
theorem Yj (hf:Row n f){i:Nat}(hi:i<n):nx (back f) (nx f i)=i:=by rw[Vo hf (hf.nlt hi)];exact hf.idx_nx hi
theorem WU (hf:Row n f){i:Nat}(hi:i<n):nx f (nx (back f) i)=i:=by rw[Vo hf hi];exact hf.nx_idx hi
theorem ZdG {l:List Nat}(hl:l.length=n)(lt:∀ i,i<n->nx l i<n)(inj:∀ i j,i<n->j<n->nx l i=nx l j->i=j):Row n l where
 len:=hl
 nd:=by
  refine Y39.mpr fun i j hi hj hij e=>?_;have:=inj i j (by lia) (by lia) (by simp[nx,Y3g,Y01 hi,Y01 hj,e]);lia
 lt:=fun x hx=>by
  obtain⟨i,hi,e⟩:=Y1i.mp hx;have:=lt i (by lia)
  rwa [show nx l i=x from by simp[nx,Y3g,Y01 hi,e]]at this
end
end Sq
namespace Sq
noncomputable def it (w:List Nat)(x:Nat):Nat->Nat
 | 0=>x
 | i+1=>nx w (it w x i)
structure Cyc (w:List Nat)(x:Nat)(M:List Nat):Prop where
 pos:1<=M.length
 is:M=(Y02 M.length).map (it w x)
 back:it w x M.length=x
 new:∀ i,1<=i->i<M.length->it w x i≠x
theorem Cyc.unique {w:List Nat}{x:Nat}{M M':List Nat}(h:Cyc w x M)(h':Cyc w x M'):M=M':=by
 have e:M.length=M'.length:=by
  rcases Y3p M.length M'.length with c|c|c
  ·exact absurd h.back (h'.new _ h.pos c)
  ·exact c
  ·exact absurd h'.back (h.new _ h'.pos c)
 rw[h.is,h'.is,e]
section
variable {n:Nat}{w:List Nat}
theorem Zk (rw':Row n w){x:Nat}(hx:x<n):∀ i,it w x i<n
 | 0=>hx
 | i+1=>rw'.nlt (Zk rw' hx i)
theorem Z7c (rw':Row n w){x:Nat}(hx:x<n):∀ i j,it w x (i+j)=it w x i->it w x j=x
 | 0,j,h=>by simpa [it] using h
 | i+1,j,h=>by
  have e:it w x (i+1+j)=nx w (it w x (i+j)):=by rw[show i+1+j=(i+j)+1 from by lia];rfl
  rw[e]at h;exact Z7c rw' hx i j (rw'.inj (Zk rw' hx _) (Zk rw' hx _) h)
theorem Z8G (rw':Row n w){x k:Nat}(hx:x<n)(h:∀ i,1<=i->i<k->it w x i≠x):((Y02 k).map (it w x)).Nodup:=by
 refine Y1q.mpr (List.Pairwise.imp_of_mem (R:=fun a b=>a<b) (fun {a b} ha hb hab e=>?_) Y4b);have hb:=Y06.mp hb;have:=Z7c rw' hx a (b-a) (by rw[show a+(b-a)=b from by lia];exact e.symm);exact h (b-a) (by lia) (by lia) this
theorem R6 (rw':Row n w){x k:Nat}(hx:x<n)(h:∀ i,1<=i->i<k->it w x i≠x):k<=n:=by
 have:=Wi _ (Y02 n) (Z8G rw' hx h) fun y hy=>by
  obtain⟨i,_,rfl⟩:=Y0g.mp hy;exact Y06.mpr (Zk rw' hx i)
 simpa using this
theorem Cyc.nd (rw':Row n w){x:Nat}(hx:x<n){M:List Nat}(h:Cyc w x M):M.Nodup:=by
 rw[h.is];exact Z8G rw' hx h.new
theorem Cyc.len (rw':Row n w){x:Nat}(hx:x<n){M:List Nat}(h:Cyc w x M):M.length<=n:=R6 rw' hx h.new
theorem Cyc.get {x:Nat}{M:List Nat}(h:Cyc w x M){i:Nat}(hi:i<M.length):M[i]?=some (it w x i):=by
 rw[h.is];simp[hi]
theorem Cyc.lt (rw':Row n w){x:Nat}(hx:x<n){M:List Nat}(h:Cyc w x M):∀ y∈M,y<n:=fun y hy=>by
 rw[h.is]at hy;obtain⟨i,_,rfl⟩:=Y0g.mp hy;exact Zk rw' hx i
theorem Cyc.next {x:Nat}{M:List Nat}(h:Cyc w x M){i y:Nat}(hi:M[i]?=some y):M[(i+1)%M.length]?=some (nx w y):=by
 have hl:=(Y08.mp hi).1;have e:y=it w x i:=by have:=h.get hl;rw[hi]at this;exact Option.some.inj this
 subst e;rcases Y0q (i+1) M.length with c|c
 ·rw[Nat.mod_eq_of_lt c,h.get c];rfl
 ·have:i+1=M.length:=by lia
  rw[this,Nat.mod_self,h.get h.pos];have hb:=h.back;rw[<-this]at hb;show some x=some (nx w (it w x i));rw[show nx w (it w x i)=it w x (i+1) from rfl,hb]
theorem TR (x:Nat)(i:Nat):∀ j,it w x (i+j)=it w (it w x i) j
 | 0=>rfl
 | j+1=>by show nx w (it w x (i+j))=nx w (it w (it w x i) j);rw[TR x i j]
end
end Sq
namespace Sq
noncomputable def per (n:Nat)(w:List Nat)(x:Nat):Nat:=((Y02 n).find? fun k=>decide (it w x (k+1)=x)).getD 0+1
noncomputable def cyc (n:Nat)(w:List Nat)(x:Nat):List Nat:=(Y02 (per n w x)).map (it w x)
noncomputable def Zl (n:Nat)(w:List Nat)(x:Nat):Bool:=decide (∀ y∈cyc n w x,x<=y)
noncomputable def Za (n:Nat)(w:List Nat):List (List Nat):=((Y02 n).filter (Zl n w)).map (cyc n w)
section
variable {n:Nat}{w:List Nat}
theorem XJ (rw':Row n w){x:Nat}(hx:x<n):it w x (per n w x)=x/\∀ i,1<=i->i<per n w x->it w x i≠x:=by
 unfold per;cases h:(Y02 n).find? fun k=>decide (it w x (k+1)=x) with
 | none=>
  have:=List.find?_eq_none.mp h;have:=R6 (k:=n+1) rw' hx fun i h1 h2 e=>by
   refine this (i-1) (Y06.mpr (by lia)) ?_;rw[show i-1+1=i from by lia];exact decide_eq_true e
  lia
 | some k=>
  obtain⟨h1,as,bs,h2,h3⟩:=List.find?_eq_some_iff_append.mp h;refine⟨of_decide_eq_true h1,fun i hi hlt e=>?_⟩;have hlt:i<k+1:=hlt;have hk:as.length=k:=by
   have hl:as.length<n:=by
    have:=congrArg Y2q h2;simp at this;lia
   have e1:(Y02 n)[as.length]?=some k:=(by rw[h2];simp);rw[Y2v hl]at e1;exact Option.some.inj e1
  have hi':i-1<as.length:=by lia
  have hl:as.length<=n:=by
   have:=congrArg Y2q h2;simp at this;lia
  have e2:as[i-1]?=some (i-1):=by
   have:(Y02 n)[i-1]?=as[i-1]?:=(by rw[h2,Y38 hi']);rw[<-this,Y2v (by lia)]
  have:=h3 (i-1) (Y0r e2);rw[show i-1+1=i from by lia,e]at this;simp at this
theorem X5 (n:Nat)(w:List Nat)(x:Nat):(cyc n w x).length=per n w x:=by simp[cyc]
theorem YM (rw':Row n w){x:Nat}(hx:x<n):Cyc w x (cyc n w x):=by
 obtain⟨h1,h2⟩:=XJ rw' hx;refine⟨by rw[X5];unfold per;lia,by rw[X5];rfl,by rw[X5];exact h1,by rw[X5];exact h2⟩
theorem Cyc.eq (rw':Row n w){x:Nat}(hx:x<n){M:List Nat}(h:Cyc w x M):M=cyc n w x:=h.unique (YM rw' hx)
theorem Um (rw':Row n w){x:Nat}(hx:x<n):(cyc n w x)[0]?=some x:=(YM rw' hx).get (YM rw' hx).pos
theorem Xa (rw':Row n w){x:Nat}(hx:x<n):∀ i,it w x i∈cyc n w x
 | 0=>Y0r (Um rw' hx)
 | i+1=>by
  obtain⟨j,hj,e⟩:=Y1i.mp (Xa rw' hx i);have:=(YM rw' hx).next (i:=j) (y:=it w x i) (by rw[Y01 hj,e]);exact Y0r this
theorem Wc (rw':Row n w){x y:Nat}(h:y∈cyc n w x):∃ i,i<per n w x/\y=it w x i:=by
 obtain⟨i,hi,rfl⟩:=Y0g.mp h;exact⟨i,Y06.mp hi,rfl⟩
theorem Ys (rw':Row n w){x y:Nat}(hx:x<n)(h:y∈cyc n w x):y<n:=(YM rw' hx).lt rw' hx y h
theorem ZfU (rw':Row n w){x:Nat}(hx:x<n){i:Nat}(hi:i<=per n w x):it w (it w x i) (per n w x-i)=x:=by
 rw[<-TR,show i+(per n w x-i)=per n w x from by lia];exact (XJ rw' hx).1
theorem Vz (rw':Row n w){x y:Nat}(hx:x<n)(h:y∈cyc n w x):x∈cyc n w y:=by
 obtain⟨i,hi,rfl⟩:=Wc rw' h;have:=Xa rw' (Zk rw' hx i) (per n w x-i)
 rwa [ZfU rw' hx (Y16 hi)]at this
theorem Ws (rw':Row n w){x y z:Nat}(hx:x<n)(h:y∈cyc n w x)(h':z∈cyc n w y):z∈cyc n w x:=by
 obtain⟨i,_,rfl⟩:=Wc rw' h;obtain⟨j,_,rfl⟩:=Wc rw' h';rw[<-TR];exact Xa rw' hx _
theorem Z90:∀ (l:List Nat),l≠[]->∃ m∈l,∀ y∈l,m<=y
 | [],h=>absurd rfl h
 | [a],_=>⟨a,by simp,by simp⟩
 | a::b::l,_=>by
  obtain⟨m,hm,h⟩:=Z90 (b::l) (by simp);rcases Y0q m a with c|c
  ·refine⟨m,Y0y _ hm,fun y hy=>?_⟩;rcases Y14.mp hy with e|hy
   ·rw[e];lia
   ·exact h y hy
  ·refine⟨a,by simp,fun y hy=>?_⟩;rcases Y14.mp hy with e|hy
   ·rw[e];lia
   ·have:=h y hy;lia
theorem Uq {x:Nat}:Zl n w x=true↔∀ y∈cyc n w x,x<=y:=decide_eq_true_iff
theorem Z65 (rw':Row n w){x:Nat}(hx:x<n):∃ l,l<n/\Zl n w l=true/\x∈cyc n w l:=by
 obtain⟨m,hm,h⟩:=Z90 (cyc n w x) (fun e=>by have:=Um rw' hx;rw[e]at this;simp at this);have hmn:=Ys rw' hx hm;exact⟨m,hmn,Uq.mpr fun y hy=>h y (Ws rw' hx hm hy),Vz rw' hx hm⟩
theorem Z3l (rw':Row n w){x l l':Nat}(hl:l<n)(hl':l'<n)(h1:Zl n w l=true)(h2:Zl n w l'=true)(h:x∈cyc n w l)(h':x∈cyc n w l'):l=l':=by
 have a:=Uq.mp h1 l' (Ws rw' hl h (Vz rw' hl' h'));have b:=Uq.mp h2 l (Ws rw' hl' h' (Vz rw' hl h));lia
theorem Z3t (rw':Row n w):(Za n w).flatten.Perm (Y02 n):=by
 refine (Y28 ?_ Y24).mpr fun x=>?_
 ·refine List.pairwise_flatten.mpr ⟨fun l hl=>?_,?_⟩
  ·obtain⟨x,hx,rfl⟩:=Y0g.mp hl;have hx:=Y06.mp (Y0p.mp hx).1;exact (YM rw' hx).nd rw' hx
  ·refine Y1q.mpr ?_;have:((Y02 n).filter (Zl n w)).Pairwise (· < ·):=List.Pairwise.filter _ Y4b;refine this.imp_of_mem fun {a b} ha hb hab x hx y hy e=>?_;obtain⟨a1,a2⟩:=Y0p.mp ha;obtain⟨b1,b2⟩:=Y0p.mp hb;subst e;have:=Z3l rw' (Y06.mp a1) (Y06.mp b1) a2 b2 hx hy;lia
 ·constructor
  ·intro h;obtain⟨l,hl,hx⟩:=Y3v.mp h;obtain⟨a,ha,rfl⟩:=Y0g.mp hl;exact Y06.mpr (Ys rw' (Y06.mp (Y0p.mp ha).1) hx)
  ·intro h;obtain⟨l,h1,h2,h3⟩:=Z65 rw' (Y06.mp h);exact Y3v.mpr ⟨_,Y0g.mpr ⟨l,Y0p.mpr ⟨Y06.mpr h1,h2⟩,rfl⟩,h3⟩
end
end Sq
namespace Sq
theorem Zfp {n i:Nat}{g:Nat->Nat}(hi:i<n):nx ((Y02 n).map g) i=g i:=by simp[nx,Y3g,hi]
end Sq
namespace Sq
section
variable {n:Nat}{w:List Nat}
noncomputable def cmp (n:Nat)(w v:List Nat):List Nat:=(Y02 n).map fun x=>nx w (nx v x)
theorem WM {v:List Nat}{k:Nat}(hk:k<n):nx (cmp n w v) k=nx w (nx v k):=Zfp hk
theorem Vl {v:List Nat}(h:Row n w)(hv:Row n v):Row n (cmp n w v):=by
 refine ZdG (by simp[cmp]) (fun i hi=>?_) (fun i j hi hj e=>?_)
 ·rw[WM hi];exact h.nlt (hv.nlt hi)
 ·rw[WM hi,WM hj]at e;exact hv.inj hi hj (h.inj (hv.nlt hi) (hv.nlt hj) e)
end
end Sq
namespace Sq
section
variable {n:Nat}{w:List Nat}
end
section
variable {n:Nat}{r u:List Nat}
end
end Sq
namespace K1
open PySem L2 Sq
def Zi5:Sp:=fun vs H Q _=>∃ (a:Addr) (n:Nat) (r u:List Nat),vs=[.ref a]/\Zn H a r u/\Row n r/\Row n u/\n<=36/\∀ (H':Hp) (b:Addr),Z5 H H'->Zn H' b r (cmp n u (back r))->Q (.ref b) H'
def Zh8:Sp:=fun vs H Q _=>∃ (a:Addr) (n:Nat) (r u:List Nat),vs=[.ref a]/\Zn H a r u/\Row n r/\Row n u/\n<=36/\∀ (H':Hp) (b:Addr),Z5 H H'->Zn H' b (back u) r->Q (.ref b) H'
theorem Zfj {n:Nat}{u v:List Nat}(hv:Row n v):v.map (fun x=>nx u x)=cmp n u v:=by
 refine Y2u fun i=>?_
 by_cases hi:i<n
 ·have h1:=hv.get hi;rw[Y0l,h1];show some (nx u (nx v i))=((Y02 n).map fun i=>nx u (nx v i))[i]?;rw[Y0l,Y2v hi];rfl
 ·have:¬ i<(cmp n u v).length:=by show ¬ i<((Y02 n).map _).length;rw[Y07,Y0v];exact hi
  rw[Y18 (by rw[Y07,hv.len];omega),Y18 (by omega)]
section
variable {P:Program}{w:World}{K:Y00}{mg:Str->Option Value}{base:Heap}
noncomputable abbrev ZgD:List Str:=["sheet","left"]
theorem ZdJ:ZL ZgD ["sheet"] (ZV VA):=⟨rfl,rfl,rfl,by decide +kernel,rfl,by decide +kernel,by decide +kernel⟩
theorem Zgs:(["square","sheet"]:List Str).Nodup:=by decide +kernel
theorem Zg9 {f fb:Addr}{fd db:FuncData}(T:Bi mg)(F:Fn K mg "sheared" VA ["sheet"] f fd)(FB:Fn K mg "back_row" WW ["row"] fb db)(GB:Z4 P w K mg base CX0 1 fb db ["row"] UI):Z4 P w K mg base CX0 2 f fd ["sheet"] Zi5:=by
 refine F.F.ok ZdJ (fun vs H Q E h=>?_) (fun cdv A outer s H vs Q E hr h=>?_)
 ·obtain⟨a,n,r,u,rfl,_⟩:=h;rfl
 ·obtain⟨a,n,r,u,rfl,⟨p,q,h1,h2,h3⟩,rr,ru,hn,k⟩:=h;have hr1:ZP 1 _:=hr.mono (by decide);refine⟨_,(Z3 (ZW (i:=1) ZdJ.nd rfl (Or.inl rfl) (ZT GB hr rfl FB.m FB.F.kp FB.b .nil ZQ (Z9 (Z2 ZZ (pv 0) Z6 (fun _ _=>rfl)) Z7)))
   (ZY (ZO (Zq (Z9 (Z2 ZZ (pv 0) Z6 (fun _ _=>rfl)) (Z9 (X7 UV rfl T.tuple XC (Z9 (Ym (N:=ZgD) (names:=(ZV VA).names) (N':=["square","sheet"]) (k:=1) (pull:=[0]) (te:=(tOp (Y0 K) (tOp (Y0 K) (ZU 1) (tC (.int 1))) (ZU 0))) rfl ⟨by rfl,by decide +kernel,by decide +kernel,by rfl,by decide +kernel,by decide +kernel⟩ rfl rfl (Vd (pv 1)) (fun _ _ _ _ _ _=>Zu (i:=0) Zgs rfl (Or.inl rfl)) (fun _ _ _ _ _ _=>(Z2 ZZ (Z2 ZZ (pv 1) Z6 (fun _ _=>rfl)) (pv 0) (fun _ _=>rfl)))) Z7)) Z7)))))),?_⟩
  refine⟨_,rfl,a,_,0,_,rfl,rfl,SqT.of h1,Z0 (j:=0) rfl,p,n,r,rfl,h2,rr,hn,fun H1 l s1 hl=>?_⟩;refine⟨_,rfl,a,_,0,_,rfl,rfl,SqT.of (s1 _ _ h1),Z0 (j:=0) rfl,?_⟩;dsimp only [ZI,tCB];refine Z8T (r:=back r) (rest:=[some (.ref a)]) (fun x=>nx u x) rfl (SqT.of hl) rfl (fun x H3 R hx s3 hR=>?_) (by rw[rr.back.len];omega) fun H3 d s3 _ hd3=>?_
  ·have s13:=s1.trans s3;exact⟨_,rfl,a,_,1,_,rfl,rfl,SqT.of (s13 _ _ h1),Z0 (j:=1) rfl,_,rfl,q,_,_,_,rfl,rfl,SqT.of (s13 _ _ h3),Z0 (Zp (ru.get (rr.back.lt x hx))),hR⟩
  rw[Zfj rr.back]at hd3;refine⟨d,_,rfl,.inl ⟨SqL.of hd3,fun t ht=>?_⟩⟩;have s4:=ZS (o:=.tup (nv (cmp n u (back r)))) (s1.trans s3) ((s1.trans s3).free ht);refine⟨by show 2<=sizeLine;decide,fun b hb=>k _ b (ZS s4 (s4.free hb)) ⟨p,t,ZR,?_,?_⟩⟩
  ·have:=s4 _ _ h2;rw[ZK (Zc this hb)];exact this
  ·have:(upd H3 t (.tup (nv (cmp n u (back r))))) t=some (.tup (nv (cmp n u (back r)))):=ZR;rw[ZK (Zc this hb)];exact this
noncomputable abbrev Zjm:List Str:=["sheet"]
theorem ZiO:ZL Zjm ["sheet"] (ZV Ui):=⟨rfl,rfl,rfl,by decide +kernel,rfl,by decide +kernel,by decide +kernel⟩
theorem Zgb {f fb:Addr}{fd db:FuncData}(F:Fn K mg "turned" Ui ["sheet"] f fd)(FB:Fn K mg "back_row" WW ["row"] fb db)(GB:Z4 P w K mg base CX0 1 fb db ["row"] UI):Z4 P w K mg base CX0 2 f fd ["sheet"] Zh8:=by
 refine F.F.ok ZiO (fun vs H Q E h=>?_) (fun cdv A outer s H vs Q E hr h=>?_)
 ·obtain⟨a,n,r,u,rfl,_⟩:=h;rfl
 ·obtain⟨a,n,r,u,rfl,⟨p,q,h1,h2,h3⟩,rr,ru,hn,k⟩:=h;have hr1:ZP 1 _:=hr.mono (by decide);refine⟨_,(ZY (ZO (Zq (Z9 (ZT GB hr rfl FB.m FB.F.kp FB.b .nil ZQ (Z9 (Z2 ZZ (pv 0) Z6 (fun _ _=>rfl)) Z7)) (Z9 (Z2 ZZ (pv 0) Z6 (fun _ _=>rfl)) Z7))))),?_⟩;refine⟨_,rfl,a,_,1,_,rfl,rfl,SqT.of h1,Z0 (j:=1) rfl,q,n,u,rfl,h3,ru,hn,fun H1 l s1 hl=>?_⟩;refine⟨_,rfl,a,_,0,_,rfl,rfl,SqT.of (s1 _ _ h1),Z0 (j:=0) rfl,by show 2<=sizeLine;decide,fun b hb=>?_⟩;refine k _ b (ZS s1 (s1.free hb)) ⟨l,p,ZR,?_,?_⟩
  ·rw[ZK (Zc hl hb)];exact hl
  ·have:=s1 _ _ h2;rw[ZK (Zc this hb)];exact this
end
end K1
namespace L2
open PySem PySem.Spec PyProof.Rows
section
variable {X:Cx}
end
section
variable {prog:Program}{w:World}{A:Around}{E:Value->Shared->Prop}
end
section
variable {X:Cx}
end
theorem Z5.sqt {K:Y00}{H H':Hp}{a:Addr}{xs:List V}(e:Z5 H H')(h:SqT K H a xs):SqT K H' a xs:=by
 rcases h with (h|⟨o,h⟩)|h
 ·exact .inl (.inl (e _ _ h))
 ·exact .inl (.inr ⟨o,e _ _ h⟩)
 ·exact .inr h
section
variable {X:Cx}
theorem Z4u:YW X (.builtin "isinstance") (fun xs H Q=>∃ (a:Addr) (ys:List V) (c:String) (b:Bool),xs=[.ref a,.ty c]/\SqT X.K H a ys/\Y2i X.K (.type "tuple") (.type c)=some b/\Q (.bl b) H):=by
 intro pins s σ H xs us Q I r h;obtain⟨a,ys,c,b,rfl,ht,e,q⟩:=h;obtain⟨u,w',rfl,ru,rc⟩:=Zfc r;cases ru;obtain rfl:w'=Value.type c:=rc;obtain⟨its,rv,⟨o,h1,h2,_⟩,hz⟩:=I.tuple ht;exact Y1w PySem.W.kitx_tuple I.kIn ⟨o,h1,h2⟩ e (fun z=>nomatch z) fun tk=>⟨.bl b,H,I.tok _,rfl,q⟩
end
def TDi (P:Program)(w:World)(K:Y00)(a:Addr)(vs:List (Key×Value)):Prop:=
 (a==sysModules)=false/\∃ o es ep,K.lookup a=some o/\o.ExactDict/\o.data=Data.dict es ep/\PySem.KeysOf (YZ P w) es/\Pairs (YZ P w) es.toList vs/\(vs.map (·.1)).Nodup
theorem TDi.dict {P:Program}{w:World}{K:Y00}{a:Addr}{vs:List (Key×Value)}{h:Heap}(t:TDi P w K a vs)(k:K.In h):Heap.DictOf (YZ P w) h a vs:=by
 obtain⟨_,o,es,ep,l,r⟩:=t;exact⟨o,es,ep,k a o l,r⟩
theorem tdi2 {P:Program}{w:World}{K:Y00}{a:Addr}{x1 x2:Str}{t1 t2:Tok}{v1 v2:Value}{ep:Nat}{h1 h2:Int}(hs:(a==sysModules)=false)
  (l:K.lookup a=some ⟨.type "dict",none,.dict #[⟨h1,.str x1 t1,v1⟩,⟨h2,.str x2 t2,v2⟩] ep,#[]⟩) (e1:h1=hashStr w x1) (e2:h2=hashStr w x2) (ne:¬ x1=x2):TDi P w K a [(Sum.inr x1,v1),(Sum.inr x2,v2)]:=by
 refine⟨hs,_,_,_,l,⟨rfl,rfl,rfl⟩,rfl,?_,.cons (UF x1 t1) rfl (.cons (UF x2 t2) rfl .nil),?_⟩
 ·intro e he;have he:e=⟨h1,.str x1 t1,v1⟩\/e=⟨h2,.str x2 t2,v2⟩:=by simpa using he
  rcases he with rfl|rfl
  ·exact⟨Sum.inr x1,UF x1 t1,e1⟩
  ·exact⟨Sum.inr x2,UF x2 t2,e2⟩
 ·simp[ne]
section
variable {X:Cx}
noncomputable def ZjQ (P:Program)(w:World)(K:Y00):R2:=fun x y H Q=>∃ (a:Addr) (vs:List (Key×Value)) (k:Key),x=kV k/\y=.ref a/\TDi P w K a vs/\Q (.bl (valueAt vs k).isSome) H
theorem ZhS:OpR X (compareOp .In) (ZjQ X.prog X.w X.K):=by
 intro pins s σ H x y v u Q I rx ry h;obtain⟨a,vs,k,rfl,rfl,t,q⟩:=h;cases (show u=Value.ref a from ry);exact wpAny_in_of (VX rx) t.1 (t.dict I.kIn).mapOf ⟨.bl _,H,I.tok _,rfl,q⟩
noncomputable def ZjM (P:Program)(w:World)(K:Y00):R2:=fun x y H Q=>∃ (a:Addr) (vs:List (Key×Value)) (k:Key) (v:V) (u:Value),x=.ref a/\y=kV k/\TDi P w K a vs/\valueAt vs k=some u/\ZM v u/\Q v H
theorem Zd4 {o i:Expr}{pos:Pos}{td ty:TE}(ho:PE X o td)(hi:PE X i ty)(hs:Zkg i):PE X (.Subscript o i pos) (tOp (ZjM X.prog X.w X.K) td ty):=by
 intro pins s σ H Q I h;refine Z9Y PySem.F.slot_dict_getitem.lookup hs (thn (ho pins s σ H _ I h) fun u s1 ⟨x,H1,I1,rx,q1⟩=>thn (hi pins s1 σ H1 _ I1 q1) fun iv s2 ⟨y,H2,I2,ry,a,vs,k,v',u',ex,ey,t,e,ru,q2⟩=>?_);subst ex ey;obtain rfl:u=Value.ref a:=rx;have dd:=t.dict I2.kIn;exact⟨dd.typeIs,wpAny_getItem_of (VX ry) dd.mapOf e ⟨v',H2,I2.tok _,ru,q2⟩⟩
end
end L2
namespace Sq
open PySem
noncomputable def txt (l:List Nat):Str:=⟨l.toArray⟩
theorem Ze (l:List Nat):(txt l).length=l.length:=by simp[txt,Str.length]
theorem XS (a b:List Nat):txt a++txt b=txt (a++b):=Str.ext' (by rw[Str.cps_append];simp[txt])
theorem Sy (l:List Nat):(txt l).cps.toList=l:=by simp[txt]
theorem Vp {a b:List Nat}(h:txt a=txt b):a=b:=by rw[<-Sy a,h,Sy]
theorem Z7P (l:List Nat)(i:Nat):(txt l).cps[i]?=l[i]?:=by simp[txt]
end Sq
namespace K1
open PySem L2 Sq
noncomputable abbrev lts (v1 v2:Value):List (Key×Value):=[(Sum.inr (Str.ofString "s"),v1),(Sum.inr (Str.ofString "t"),v2)]
theorem Tn:(Str.ofString "s")=txt [115]:=by decide +kernel
theorem WB:(Str.ofString "t")=txt [116]:=by decide +kernel
noncomputable def Wx (c:Nat):Bool:=c==115||c==116
noncomputable def okW (z:List Nat):Bool:=decide (z.length<=1000)&&z.all Wx
theorem Zgx (v1 v2:Value)(c:Nat):(valueAt (lts v1 v2) (Sum.inr (txt [c]):Key)).isSome=Wx c:=by
 have e:∀ d:Nat,((Sum.inr (txt [d]):Key)=Sum.inr (txt [c]))↔d=c:=fun d=>⟨fun z=>by have:=Vp (Sum.inr.inj z);simpa using this,fun z=>by rw[z]⟩;unfold lts Wx;rw[Tn,WB]
 by_cases h1:c=115
 ·subst h1;simp[valueAt]
 ·by_cases h2:c=116
  ·subst h2;have:¬ ((Sum.inr (txt [115]):Key)=Sum.inr (txt [116])):=fun z=>absurd ((e 115).mp z) (by decide);have e3:txt [115]≠txt [116]:=fun z=>absurd (Vp z) (by decide);simp[valueAt,e3]
  ·have e3:txt [115]≠txt [c]:=fun z=>h1 (by have:=Vp z;simpa using this.symm);have e4:txt [116]≠txt [c]:=fun z=>h2 (by have:=Vp z;simpa using this.symm);simp[valueAt,e3,e4,h1,h2]
theorem UN {n:Nat}(h:n<=100000):n<sizeLine:=by
 have:100000<sizeLine:=by decide
 omega
theorem Zft {n:Nat}{ys:List V}{Pv:Nat->St->Hp->Prop}{d:Addr}{i:Nat}{σ3:St}{y:V}{H4:Hp}(hi:i<n)(hn:n<=100000)(hd:H4 d=some (.lst (ys.take i)))(hy:ys[i]?=some y)(hp:Pv (i+1) σ3 (upd H4 d (.lst (ys.take (i+1))))) :
  ZeX n ys Pv d i σ3 y H4:=by
 have e:ys.take (i+1)=ys.take i++[y]:=by rw[Y1j,hy];rfl
 refine⟨_,hd,?_,n-(i+1),by omega,rfl,hi,by rw[<-e];exact hp,by rw[ZR,e]⟩;have:(ys.take i).length<=i:=by rw[Y3u];exact Nat.min_le_left _ _
 exact UN (by omega)
theorem ZiE {P:Program}{w:World}{K:Y00}{Hc:Hp}{dL:Addr}{v1 v2:Value}{z:List Nat}{j:Nat}{Q:VK}{σ:St}(h2:σ[j]?=some (some (.str (txt z))))(hb:bst 1 [] σ=[none])(hL:TDi P w K dL (lts v1 v2))(hz:z.length<=100000)
  (k:∀ (H':Hp) (d:Addr),Z5 Hc H'->H' d=some (.lst ((z.map Wx).map V.bl))->Q (.ref d) H') :
  Yq (iStr (ZU j)) 1 [] (Zs 0) (tOp (ZjQ P w K) (ZU 0) (tC (.ref dL))) σ Hc Q:=by
 refine⟨_,h2,txt z,rfl,fun d hd=>?_⟩;rw[hb];refine Xg (Q:=fun d H'=>Q (.ref d) H') z.length ((z.map Wx).map V.bl) (by simp) (fun i σ H3=>∃ o,σ=[o]/\Z5 Hc H3) ⟨_,rfl,ZS (Z5.refl _) hd⟩ ?_ ?_
 ·rintro i σ H3 hi ⟨o,rfl,s3⟩ hd3;refine⟨by show i<(txt z).length;rw[Ze];exact hi,fun x H4 ⟨e1,c,hc,e2⟩=>?_⟩;subst e1 e2;rw[Z7P]at hc;refine⟨_,rfl,dL,_,(Sum.inr (txt [c]):Key),rfl,rfl,hL,?_⟩;rw[Zgx];exact Zft hi hz hd3 (by simp[hc]) ⟨_,rfl,ZS s3 hd⟩
 ·rintro σ H3 ⟨o,rfl,s3⟩ hd3;exact⟨by show (txt z).length=z.length;rw[Ze],k H3 d s3 hd3⟩
def spNd (CW:Addr):Sp:=fun vs H Q E=>∃ z:List Nat,vs=[.str (txt z)]/\z.length<=100000/\(okW z=true->∀ H':Hp,Z5 H H'->Q .non H')/\(okW z=false->∀ H':Hp,Z5 H H'->E (.ref CW) none H')
theorem Zjh (v1 v2:Value):valueAt (lts v1 v2) (Sum.inr (txt [116]):Key)=some v2:=by
 unfold lts;rw[Tn,WB];have e3:txt [115]≠txt [116]:=fun z=>absurd (Vp z) (by decide);simp[valueAt,e3]
section
variable {P:Program}{w:World}{K:Y00}{mg:Str->Option Value}{base:Heap}
noncomputable abbrev n_nd:List Str:=["word"]
theorem ZkP:ZL n_nd ["word"] (ZV VF):=⟨rfl,rfl,rfl,by decide +kernel,rfl,by decide +kernel,by decide +kernel⟩
theorem ZjS:(["letter"]:List Str).Nodup:=by decide +kernel
theorem ZkK {f:Addr}{fd:FuncData}{CW dL:Addr}{tk:Tok}{v1 v2:Value}(T:Bi mg)(hC:YT K CW)(hCm:mg "NoWord"=some (.ref CW))(C_LETTERS:mg "LETTERS"=some (.ref dL))(hL:TDi P w K dL (lts v1 v2))(C_MOST_LETTERS:mg "MOST_LETTERS"=some (.int 1000 tk))(F:Fn K mg "need_word" VF ["word"] f fd):Z4 P w K mg base (CX1 P w) 1 f fd ["word"] (spNd CW):=by
 refine F.F.ok1 ZkP (fun vs H Q E h=>?_) (fun cdv A outer s H vs Q E hr h=>?_)
 ·obtain⟨z,rfl,_⟩:=h;rfl
 ·obtain⟨z,rfl,hz,k1,k2⟩:=h;refine⟨_,(ZY (Zy (PW.pt (YK (ZE Ye (ZG Z6y rfl T.len PySem.boot_len (Z9 (pv 0) Z7)) (XR (v:=.int 1000) (by rfl) C_MOST_LETTERS ⟨_,rfl⟩) (ZH _)) (XH (YN (Y4 (ZG (Z29 rfl) rfl T.all Z5Z (Z9 (Ym (N:=n_nd) (names:=(ZV VF).names) (N':=["letter"]) (k:=1) (pull:=[]) (te:=tOp (ZjQ P w K) (ZU 0) (tC (.ref dL))) rfl ⟨by rfl,by decide +kernel,by decide +kernel,by rfl,by decide +kernel,by decide +kernel⟩ rfl rfl (Zag (pv 0)) (fun _ _ _ _ _ _=>Zu (i:=0) ZjS rfl (Or.inl rfl)) (fun _ _ _ _ _ _=>XO ZhS (pv 0) (XR (v:=.ref dL) (by rfl) C_LETTERS rfl) (by with_unfolding_all rfl))) Z7))))))) (ZY (Wp rfl hC rfl hCm Wd (Z9 (Z7Q (.cons Zt (.cons (T9 (XR (v:=.int 1000) (by rfl) C_MOST_LETTERS ⟨_,rfl⟩)) (.cons Zt .nil)))) Z7))) Zw)),?_⟩;have rs:okW z=false->∀ H':Hp,Z5 H H'->ZdN (ZI (Sm [tC (.str (Str.ofString "a word has at most ")),Zie (tC (.int 1000)),tC (.str (Str.ofString " letters, s and t alone"))] Str.empty) Zr) CW E { nx:=fun _ H'=>Q .non H',rt:=Q } [some (.str (txt z))] H':=fun ho H' s'=>by
   refine⟨_,rfl,by decide,?_⟩;refine⟨1000,rfl,by decide,_,rfl,by decide,?_⟩;refine⟨_,rfl,by decide,?_⟩;exact⟨by show 1<=sizeLine;decide,k2 ho H' s'⟩
  refine⟨_,rfl,txt z,rfl,by rw[Ze];exact Y16 (UN hz),_,_,rfl,rfl,_,rfl,?_⟩;rw[Ze]
  by_cases hl:z.length<=1000
  ·rw[decide_eq_false (by omega)];refine ZJ ?_;dsimp only [Xr,Yy,Ww,Tb,tB,tCB,ZI];refine ZiE rfl rfl hL hz fun H1 d s1 hd=>?_;refine⟨d,_,rfl,SqL.of hd,_,rfl,?_⟩;have eall:((z.map Wx).all id)=z.all Wx:=(by rw[List.all_map];rfl);rw[eall];cases ha:z.all Wx with
   | false=>
    refine Zz ?_;exact rs (by unfold okW;rw[ha,Bool.and_false]) H1 s1
   | true=>
    refine ZJ ?_;exact k1 (by unfold okW;rw[ha,decide_eq_true hl];rfl) H1 s1
  ·rw[decide_eq_true (by omega)];refine Zz ?_;exact rs (by unfold okW;rw[decide_eq_false hl];rfl) H (Z5.refl _)
end
noncomputable def mv1 (n c:Nat)(x:List Nat×List Nat):List Nat×List Nat:=if c=115 then (x.1,cmp n x.2 (back x.1)) else (back x.2,x.1)
noncomputable def mvs (n:Nat)(z:List Nat)(x:List Nat×List Nat):List Nat×List Nat:=z.foldl (fun x c=>mv1 n c x) x
theorem Uc {n c:Nat}{x:List Nat×List Nat}(h:Row n x.1/\Row n x.2):Row n (mv1 n c x).1/\Row n (mv1 n c x).2:=by
 unfold mv1
 split
 ·exact⟨h.1,Vl h.2 h.1.back⟩
 ·exact⟨h.2.back,h.1⟩
theorem Zbr {n:Nat}:∀ (z:List Nat) {x:List Nat×List Nat},Row n x.1/\Row n x.2->Row n (mvs n z x).1/\Row n (mvs n z x).2
 | [],_,h=>h
 | c::z,x,h=>Zbr z (x:=mv1 n c x) (Uc h)
theorem ZcA (n:Nat)(z:List Nat)(c:Nat)(x:List Nat×List Nat):mvs n (z++[c]) x=mv1 n c (mvs n z x):=by unfold mvs;rw[Y3c];rfl
def spM1:Sp:=fun vs H Q _=>∃ (a:Addr) (c n:Nat) (r u:List Nat),vs=[.ref a,.str (txt [c])]/\Zn H a r u/\Row n r/\Row n u/\n<=36/\∀ (H':Hp) (b:Addr),Z5 H H'->Zn H' b (mv1 n c (r,u)).1 (mv1 n c (r,u)).2->Q (.ref b) H'
def spMd (CW:Addr):Sp:=fun vs H Q E=>∃ (a:Addr) (z:List Nat) (n:Nat) (r u:List Nat),vs=[.ref a,.str (txt z)]/\z.length<=100000/\Zn H a r u/\Row n r/\Row n u/\n<=36/\(okW z=true->∀ (H':Hp) (b:Addr),Z5 H H'->Zn H' b (mvs n z (r,u)).1 (mvs n z (r,u)).2->Q (.ref b) H')/\(okW z=false->∀ H':Hp,Z5 H H'->E (.ref CW) none H')
section
variable {P:Program}{w:World}{K:Y00}{mg:Str->Option Value}{base:Heap}
noncomputable abbrev n_m1:List Str:=["sheet","letter"]
theorem Zk1:ZL n_m1 ["sheet","letter"] (ZV UL):=⟨rfl,rfl,rfl,by decide +kernel,rfl,by decide +kernel,by decide +kernel⟩
theorem Zkv {f fs ft:Addr}{fd ds dt:FuncData}(F:Fn K mg "moved_once" UL ["sheet","letter"] f fd)(FS:Fn K mg "sheared" VA ["sheet"] fs ds)(GS:Z4 P w K mg base CX0 2 fs ds ["sheet"] Zi5)
  (FT:Fn K mg "turned" Ui ["sheet"] ft dt) (GT:Z4 P w K mg base CX0 2 ft dt ["sheet"] Zh8):Z4 P w K mg base CX0 3 f fd ["sheet","letter"] spM1:=by
 refine F.F.ok Zk1 (fun vs H Q E h=>?_) (fun cdv A outer s H vs Q E hr h=>?_)
 ·obtain⟨a,c,n,r,u,rfl,_⟩:=h;rfl
 ·obtain⟨a,c,n,r,u,rfl,hsh,rr,ru,hn,k⟩:=h;have hr1:ZP 1 _:=hr.mono (by decide);refine⟨_,(Z3 (Zy (ZE Y7 (pv 1) Zt (ZH _)) (ZY (ZO (ZT GS hr rfl FS.m FS.F.kp FS.b .nil ZQ (Z9 (pv 0) Z7)))) Zw)
   (ZY (ZO (ZT GT hr rfl FT.m FT.F.kp FT.b .nil ZQ (Z9 (pv 0) Z7))))),?_⟩
  refine⟨_,rfl,rfl,_,rfl,?_⟩
  by_cases e:c=115
  ·subst e;rw[decide_eq_true (congrArg V.str Tn.symm)];refine Zz ?_;exact⟨_,rfl,a,n,r,u,rfl,hsh,rr,ru,hn,fun H1 b s1 hb=>k H1 b s1 hb⟩
  ·rw[decide_eq_false (fun z=>e (by have:=Vp ((V.str.inj z).trans Tn);simpa using this))];refine ZJ ?_;refine⟨_,rfl,a,n,r,u,rfl,hsh,rr,ru,hn,fun H1 b s1 hb=>k H1 b s1 ?_⟩;unfold mv1;rw[if_neg e];exact hb
noncomputable abbrev n_md:List Str:=["sheet","word","told","letter"]
theorem RX:ZL n_md ["sheet","word"] (ZV T5):=⟨rfl,rfl,rfl,by decide +kernel,rfl,by decide +kernel,by decide +kernel⟩
theorem Zjw {f fn fm:Addr}{fd dn dm:FuncData}{CW:Addr}(F:Fn K mg "moved" T5 ["sheet","word"] f fd)(FN:Fn K mg "need_word" VF ["word"] fn dn)(GN:Z4 P w K mg base (CX1 P w) 1 fn dn ["word"] (spNd CW))
  (FM:Fn K mg "moved_once" UL ["sheet","letter"] fm dm) (GM:Z4 P w K mg base CX0 3 fm dm ["sheet","letter"] spM1):Z4 P w K mg base (CX1 P w) 4 f fd ["sheet","word"] (spMd CW):=by
 refine F.F.ok1 RX (fun vs H Q E h=>?_) (fun cdv A outer s H vs Q E hr h=>?_)
 ·obtain⟨a,z,n,r,u,rfl,_⟩:=h;rfl
 ·obtain⟨a,z,n,r,u,rfl,hz,hsh,rr,ru,hn,k1,k2⟩:=h;have hr1:ZP 1 _:=hr.mono (by decide);refine⟨_,(Z3 (YB (ZT GN hr1 rfl FN.m FN.F.kp FN.b .nil (VY fun _ _ _ z=>z) (Z9 (pv 1) Z7)))
   (PSs.nox (Z3 (ZW (i:=2) RX.nd rfl (Or.inl rfl) (pv 0))
   (Z3 (Yg PassesOwn.never rfl (Zag (pv 1)) (Zu (i:=3) RX.nd rfl (Or.inl rfl)) (ZY (ZW (i:=2) RX.nd rfl (Or.inl rfl) (ZT GM hr rfl FM.m FM.F.kp FM.b .nil ZQ (Z9 (pv 2) (Z9 (pv 3) Z7))))))
   (ZY (ZO (pv 2))))))),?_⟩
  refine⟨_,rfl,z,rfl,hz,fun ho H1 s1=>?_,k2⟩;refine⟨_,rfl,?_⟩;refine⟨_,rfl,_,rfl,Zbb (fun i σ H3=>Z5 H H3/\∃ b o3,σ=[some (.ref a),some (.str (txt z)),some (.ref b),o3]/\Zn H3 b (mvs n (z.take i) (r,u)).1 (mvs n (z.take i) (r,u)).2) ⟨s1,a,_,rfl,hsh.same s1⟩ ?_ ?_⟩
  ·rintro i c σ H3 hc ⟨s3,b,o3,rfl,hb⟩;rw[Z7P]at hc;obtain⟨q1,q2⟩:=Zbr (z.take i) (x:=(r,u)) ⟨rr,ru⟩;refine⟨_,rfl,_,rfl,b,c,n,_,_,rfl,hb,q1,q2,hn,fun H4 b2 s4 hb2=>⟨s3.trans s4,b2,_,rfl,?_⟩⟩;have:z.take (i+1)=z.take i++[c]:=(by rw[Y1j,hc];rfl);rw[this,ZcA];exact hb2
  ·rintro σ H3 ⟨s3,b,o3,rfl,hb⟩;rw[Ze,Y2n]at hb;exact⟨_,rfl,k1 ho H3 b s3 hb⟩
end
def Zat (K:Y00):Sp:=fun vs H Q _=>∃ (p:Addr) (n:Nat) (r:List Nat) (x:Nat),vs=[.ref p,.int (x:Int)]/\Xp K H p r/\Row n r/\x<n/\n<=36/\
 ∀ (H':Hp) (l:Addr) (M:List Nat),Z5 H H'->H l=none->H' l=some (.lst (nv M))->Cyc r x M->Q (.ref l) H'
noncomputable def muL (l:Addr)(H:Hp):Nat:=match H l with
 | some (.lst xs)=>100-xs.length
 | _=>0
theorem ZdB {l:Addr}{H:Hp}{xs:List V}(h:H l=some (.lst xs)):muL l H=100-xs.length:=by unfold muL;rw[h]
theorem ZeG {M:List Nat}{k y:Nat}(hk:M.length=k+1)(h:M[k]?=some y):atI (nv M) (-1)=some (.int (y:Int)):=by
 unfold atI ixN;rw[if_neg (by decide),if_pos (by rw[ZA];lia)];show (nv M)[((-1:Int)+((nv M).length:Int)).toNat]?=_;rw[ZA,hk,show ((-1:Int)+((k+1:Nat):Int)).toNat=k from by lia];exact Zp h
theorem Zcw {K:Y00}{x y:V}{H:Hp}{Q Q':VK}(h:∀ v H1,Q v H1->Q' v H1)(q:rIx K x y H Q):rIx K x y H Q':=by
 rcases q with ⟨a,xs,i,v,q1,q2,q3,q4,q⟩|⟨a,xs,i,v,q1,q2,q3,q4,q⟩|⟨z,i,v,q1,q2,q3,q4,q⟩
 ·exact .inl ⟨a,xs,i,v,q1,q2,q3,q4,h _ _ q⟩
 ·exact .inr (.inl ⟨a,xs,i,v,q1,q2,q3,q4,h _ _ q⟩)
 ·exact .inr (.inr ⟨z,i,v,q1,q2,q3,q4,h _ _ q⟩)
section
variable {P:Program}{w:World}{K:Y00}{mg:Str->Option Value}{base:Heap}
noncomputable abbrev nCy:List Str:=["row","first","met"]
theorem scCy:ZL nCy ["row","first"] (ZV UK):=⟨rfl,rfl,rfl,by decide +kernel,rfl,by decide +kernel,by decide +kernel⟩
theorem ZeO {f:Addr}{fd:FuncData}(F:Fn K mg "cycle_from" UK ["row","first"] f fd):Z4 P w K mg base CX0 1 f fd ["row","first"] (Zat K):=by
 refine F.F.ok scCy (fun vs H Q E h=>?_) (fun cdv A outer s H vs Q E hr h=>?_)
 ·obtain⟨p,n,r,x,rfl,_⟩:=h;rfl
 ·obtain⟨p,n,r,x,rfl,hp,rr,hx,hn,k⟩:=h;refine⟨_,Z3 (ZW (i:=2) scCy.nd rfl (Or.inl rfl) (Wb (Z9 (pv 1) Z7)))
   (Z3 (XU PassesOwn.never (ZE Yr (Z2 V9 (pv 0) (Z2 YG (pv 2) (XY X4 Z6) (fun _ _=>rfl)) (fun _ _=>rfl)) (pv 1) (ZH _))
    (ZY (YB (W7 PySem.F.plainAttrs_list PySem.F.slot_list_append PySem.F.type_list_append Xj (pv 2) (Z9 (Z2 V9 (pv 0) (Z2 YG (pv 2) (XY X4 Z6) (fun _ _=>rfl)) (fun _ _=>rfl)) Z7)))))
   (ZY (ZO (pv 2)))),?_⟩
  refine⟨_,rfl,(by show 1<=sizeLine;decide),fun l hl=>?_⟩;refine WT (fun σ H2=>∃ k,σ=[some (.ref p),some (.int (x:Int)),some (.ref l)]/\Z5 H H2/\H2 l=some (.lst (nv ((Y02 (k+1)).map (it r x))))/\∀ i,1<=i->i<k+1->it r x i≠x) (fun _ H=>muL l H) ?_ ?_ ?_
  ·exact⟨0,rfl,ZS (Z5.refl H) hl,ZR,fun i h1 h2=>absurd h2 (by lia)⟩
  ·rintro σ H2 ⟨kk,rfl,s2,h2,new⟩;have hlen:=R6 rr hx new;have hM:((Y02 (kk+1)).map (it r x)).length=kk+1:=(by simp);have hlast:=ZeG hM (show ((Y02 (kk+1)).map (it r x))[kk]?=some (it r x kk) by simp);have hlt:=Zk rr hx kk;refine⟨_,rfl,_,rfl,_,rfl,l,_,_,_,rfl,rfl,SqL.of h2,hlast,?_⟩;refine U4 (hp.same s2) rr hlt ?_;refine⟨_,rfl,rfl,_,rfl,?_⟩
   by_cases e:nx r (it r x kk)=x
   ·refine Ziv (by rw[e]) ?_;refine⟨_,rfl,k H2 l _ s2 hl h2 ⟨by rw[hM];lia,by rw[hM],by rw[hM];exact e,by rw[hM];exact new⟩⟩
   ·rw[decide_eq_false (by intro z;have:=V.int.inj z;exact e (by lia))];refine Zz ?_;refine⟨_,rfl,.inl ⟨rfl,_,SqL.of h2⟩,_,rfl,_,rfl,_,rfl,l,_,_,_,rfl,rfl,SqL.of h2,hlast,?_⟩;refine U4 (hp.same s2) rr hlt ?_;refine⟨l,_,_,rfl,rfl,h2,by rw[ZA,hM];exact YR (by lia),?_⟩;have e2:nv ((Y02 (kk+1)).map (it r x))++[.int ((nx r (it r x kk):Nat):Int)]=nv ((Y02 (kk+1+1)).map (it r x)):=by
     rw[Vm,Y2w (n:=kk+1),Y1z];rfl
    rw[e2];refine⟨⟨kk+1,rfl,ZS s2 hl,ZR,fun i h1 h2'=>?_⟩,?_⟩
    ·rcases Y0q i (kk+1) with c|c
     ·exact new i h1 c
     ·have:i=kk+1:=(by lia);subst this;exact e
    ·rw[ZdB ZR,ZdB h2,ZA,ZA,hM];simp;lia
  ·rintro σ H Q Q' h h2;obtain⟨v,e1,v1,e2,v2,e3,q⟩:=h2;refine⟨v,e1,v1,e2,v2,e3,?_⟩;obtain⟨a,xs,i,v,q1,q2,q3,q4,q⟩:=q;refine⟨a,xs,i,v,q1,q2,q3,q4,?_⟩;exact Zcw (fun x H1 ⟨v',e,q5,w',e',q6⟩=>⟨v',e,q5,w',e',h _ _ q6⟩) q
end
end K1
namespace L2
open PySem PySem.Spec PyProof.Rows
theorem Zal (val:Nat->Int):∀ n:Nat,argBest (fun i j=>decide (val i<val j)) n<=n/\∀ j,j<=n->val (argBest (fun i j=>decide (val i<val j)) n)<=val j
 | 0=>⟨Y05 _,fun j hj=>by (have:j=0:=(by lia);subst this;exact Y4e _)⟩
 | n+1=>by
  obtain⟨h1,h2⟩:=Zal val n;show (if decide (val (n+1)<val (argBest (fun i j=>decide (val i<val j)) n))=true then n+1 else argBest (fun i j=>decide (val i<val j)) n)<=n+1/\_;show _/\∀ j,j<=n+1->val (if decide (val (n+1)<val (argBest (fun i j=>decide (val i<val j)) n))=true then n+1 else argBest (fun i j=>decide (val i<val j)) n)<=val j
  by_cases c:val (n+1)<val (argBest (fun i j=>decide (val i<val j)) n)
  ·rw[if_pos (decide_eq_true c)];refine⟨Y05 _,fun j hj=>?_⟩;rcases Y0q j (n+1) with d|d
   ·have:=h2 j (by lia);lia
   ·have:j=n+1:=(by lia);subst this;exact Y4e _
  ·rw[if_neg (by rw[decide_eq_true_iff];exact c)];refine⟨by lia,fun j hj=>?_⟩;rcases Y0q j (n+1) with d|d
   ·exact h2 j (by lia)
   ·have:j=n+1:=(by lia);subst this;lia
section
variable {X:Cx}
theorem Z98:bootBuiltins "min"=some (.builtin "min"):=by decide +kernel
theorem Zc0 (hc:X.calm=true):YW X (.builtin "min") (fun xs H Q=>∃ (p:Addr) (ns:List Int),xs=[.ref p]/\SqL X.K H p (ns.map V.int)/\ns≠[]/\∀ m,m∈ns->(∀ y∈ns,m<=y)->Q (.int m) H):=by
 intro pins s σ H xs us Q I r h;obtain⟨p,ns,rfl,hq,hne,q⟩:=h;obtain⟨u,rfl,ru⟩:=YE r;obtain rfl:u=Value.ref p:=ru;obtain⟨its,rv,pl,hz⟩:=I.list hq;have hL:=pl.isList;have hlt:p<s.heap.objs.size:=by obtain⟨o,ho,_⟩:=id hL;exact Y09 ho
 have hlen:its.length=ns.length:=by rw[<-rv.length];simp
 have hpos:0<ns.length:=List.length_pos_iff.mpr hne;have hval:∀ i v,its.toArray[i]?=some v->∃ t,v=Value.int (ns.getD i 0) t:=fun i v hP=>by
  have hv:its[i]?=some v:=by simpa using hP
  have hi:i<ns.length:=by rw[<-hlen];exact (Y08.mp hv).1
  have hb:(ns.map V.int)[i]?=some (.int ns[i]):=by simp[hi]
  obtain⟨u,hu,t,rfl⟩:=rv.get hb;rw[hv]at hu;cases hu;exact⟨t,by simp[Y04,hi]⟩
 refine call_min_walk (wpAny_pyIter_list hL ⟨s.heap.objs.size,_,_,its.toArray.size,_,_,_,rfl,Walks.list (A:=X.A.in1) (I.ok.hd hc) s.heap.objs.size p (Y0j hlt) its.toArray,⟨⟨_,Y0b _ rfl,rfl,rfl⟩,hL.push _⟩,fun b hb=>?_,by rw[Y0e];lia,CmpOf.ints_lt (fun i=>ns.getD i 0) hval,fun v h' tk hP hk=>?_⟩)
 ·rw[Y21];simp at hb;rcases hb with rfl|rfl
  ·exact Y2l _
  ·exact Y1f hlt
 ·obtain⟨t,rfl⟩:=hval _ v hP;obtain⟨b1,b2⟩:=Zal (fun i=>ns.getD i 0) (its.toArray.size-1);rw[Y0e,hlen]at b1 b2 hP ⊢;generalize argBest (fun i j=>decide (ns.getD i 0<ns.getD j 0)) (ns.length-1)=k at b1 b2 hP ⊢;have hk':k<ns.length:=by lia
  refine⟨.int (ns.getD k 0),H,?_,⟨t,rfl⟩,q _ ?_ fun y hy=>?_⟩
  ·refine I.kept fun b o e=>hk b o (fun hb=>?_) (Y03 _ e);have:=Y09 e;simp at hb;rw[hb]at this;exact Y2d _ this
  ·simp[Y04,hk']
  ·obtain⟨j,hj,rfl⟩:=Y1i.mp hy;have:=b2 j (by lia)
   simpa [Y04,hj] using this
end
def XW (n:Nat)(Pv:Nat->List V->St->Hp->Prop)(d:Addr)(i m:Nat)(σ:St)(H:Hp):Prop:=m=n-i/\i<=n/\∃ xs,Pv i xs σ H/\H d=some (.lst xs)
def Zfn (n:Nat)(Pv:Nat->List V->St->Hp->Prop)(d:Addr)(i:Nat)(σ3:St)(y:V)(H4:Hp):Prop:=∃ xs,H4 d=some (.lst xs)/\xs.length<sizeLine/\∃ m',m'<n-i/\XW n Pv d (i+1) m' σ3 (upd H4 d (.lst (xs++[y])))
def Zhr (n:Nat)(Pv:Nat->List V->St->Hp->Prop)(d:Addr)(i:Nat)(σ3:St)(H4:Hp):Prop:=∃ m',m'<n-i/\XW n Pv d (i+1) m' σ3 H4
theorem VZ {n:Nat}{Pv:Nat->List V->St->Hp->Prop}{d:Addr}{i:Nat}{σ3:St}{y:V}{H4:Hp}{xs:List V}(hi:i<n)(hd:H4 d=some (.lst xs))(hl:xs.length<=1000)(hp:Pv (i+1) (xs++[y]) σ3 (upd H4 d (.lst (xs++[y])))):Zfn n Pv d i σ3 y H4:=
 ⟨xs,hd,YR hl,n-(i+1),by omega,rfl,hi,_,hp,ZR⟩
theorem RY {n:Nat}{Pv:Nat->List V->St->Hp->Prop}{d:Addr}{i:Nat}{σ3:St}{H4:Hp}{xs:List V}(hi:i<n)(hd:H4 d=some (.lst xs))(hp:Pv (i+1) xs σ3 H4):Zhr n Pv d i σ3 H4:=
 ⟨n-(i+1),by omega,rfl,hi,_,hp,hd⟩
theorem Z7D {J:It}{g:TG}{te:TE}{d:Addr}{σ0:St}{H1:Hp}{Q:Addr->Hp->Prop}(n:Nat)(Pv:Nat->List V->St->Hp->Prop)(h0:Pv 0 [] σ0 (upd H1 d (.lst [])))
  (go:∀ i xs σ H,i<n->Pv i xs σ H->H d=some (.lst xs)->J.go i H/\∀ x H2,J.yld i H x H2->g x σ H2 fun σ3 H3=>te σ3 H3 fun y H4=>Zfn n Pv d i σ3 y H4)
  (stop:∀ xs σ H,Pv n xs σ H->H d=some (.lst xs)->J.stop n H/\Q d H) :
  ∃ W:Nat->Nat->St->Hp->Prop,(∃ m,W 0 m σ0 (upd H1 d (.lst [])))/\∀ i m σ' H',W i m σ' H'->
   (J.stop i H'/\Q d H')\/(J.go i H'/\∀ x H2,J.yld i H' x H2->g x σ' H2 fun σ3 H3=>te σ3 H3 fun y H4=>∃ xs,H4 d=some (.lst xs)/\xs.length<sizeLine/\∃ m',m'<m/\W (i+1) m' σ3 (upd H4 d (.lst (xs++[y])))):=by
 refine⟨XW n Pv d,⟨n,by simp,Y12 _,[],h0,ZR⟩,?_⟩;rintro i m σ H ⟨rfl,hi,xs,p,hd⟩
 by_cases hlt:i<n
 ·exact .inr (go i xs σ H hlt p hd)
 ·have:i=n:=by omega
  subst this;exact .inl (stop xs σ H p hd)
theorem SV {J:It}{g:TG}{tt:TT}{te:TE}{d:Addr}{σ0:St}{H1:Hp}{Q:Addr->Hp->Prop}(n:Nat)(Pv:Nat->List V->St->Hp->Prop)(h0:Pv 0 [] σ0 (upd H1 d (.lst [])))
  (go:∀ i xs σ H,i<n->Pv i xs σ H->H d=some (.lst xs)->J.go i H/\∀ x H2,J.yld i H x H2->g x σ H2 fun σ3 H3=>tt σ3 H3 fun b H4=>if b=true then te σ3 H4 fun y H5=>Zfn n Pv d i σ3 y H5 else Zhr n Pv d i σ3 H4)
  (stop:∀ xs σ H,Pv n xs σ H->H d=some (.lst xs)->J.stop n H/\Q d H) :
  ∃ W:Nat->Nat->St->Hp->Prop,(∃ m,W 0 m σ0 (upd H1 d (.lst [])))/\∀ i m σ' H',W i m σ' H'->
   (J.stop i H'/\Q d H')\/(J.go i H'/\∀ x H2,J.yld i H' x H2->g x σ' H2 fun σ3 H3=>tt σ3 H3 fun b H4=>if b=true then te σ3 H4 fun y H5=>∃ xs,H5 d=some (.lst xs)/\xs.length<sizeLine/\∃ m',m'<m/\W (i+1) m' σ3 (upd H5 d (.lst (xs++[y])))
    else ∃ m',m'<m/\W (i+1) m' σ3 H4):=by
 refine⟨XW n Pv d,⟨n,by simp,Y12 _,[],h0,ZR⟩,?_⟩;rintro i m σ H ⟨rfl,hi,xs,p,hd⟩
 by_cases hlt:i<n
 ·exact .inr (go i xs σ H hlt p hd)
 ·have:i=n:=by omega
  subst this;exact .inl (stop xs σ H p hd)
end L2
namespace K1
open PySem L2 Sq
def Zb (H:Hp):List Addr->List (List Nat)->Prop
 | [],[]=>True
 | a::as,M::Ms=>H a=some (.lst (nv M))/\Zb H as Ms
 | _,_=>False
theorem Zb.same {H H':Hp}(e:Z5 H H'):∀ {as:List Addr} {Ms:List (List Nat)},Zb H as Ms->Zb H' as Ms
 | [],[],_=>trivial
 | _::_,_::_,⟨h1,h2⟩=>⟨e _ _ h1,Zb.same e h2⟩
 | [],_::_,h=>h.elim
 | _::_,[],h=>h.elim
theorem Zb.len {H:Hp}:∀ {as:List Addr} {Ms:List (List Nat)},Zb H as Ms->as.length=Ms.length
 | [],[],_=>rfl
 | _::as,_::Ms,⟨_,h2⟩=>by simp[Zb.len h2]
 | [],_::_,h=>h.elim
 | _::_,[],h=>h.elim
theorem Zb.get {H:Hp}:∀ {as:List Addr} {Ms:List (List Nat)},Zb H as Ms->∀ {i:Nat} {a:Addr},as[i]?=some a->∃ M,Ms[i]?=some M/\H a=some (.lst (nv M))
 | [],[],_,i,a,h=>by simp at h
 | b::as,M::Ms,⟨h1,h2⟩,0,a,h=>by simp at h;subst h;exact⟨M,rfl,h1⟩
 | b::as,M::Ms,⟨h1,h2⟩,i+1,a,h=>by
  obtain⟨M',e1,e2⟩:=Zb.get h2 (i:=i) (a:=a) (by simpa using h);exact⟨M',by simpa using e1,e2⟩
 | [],_::_,h,_,_,_=>h.elim
 | _::_,[],h,_,_,_=>h.elim
theorem Zb.snoc {H:Hp}:∀ {as:List Addr} {Ms:List (List Nat)} {a:Addr} {M:List Nat},Zb H as Ms->H a=some (.lst (nv M))->Zb H (as++[a]) (Ms++[M])
 | [],[],_,_,_,h=>⟨h,trivial⟩
 | _::_,_::_,_,_,⟨h1,h2⟩,h=>⟨h1,Zb.snoc h2 h⟩
 | [],_::_,_,_,h,_=>h.elim
 | _::_,[],_,_,h,_=>h.elim
theorem Zb.updN {H:Hp}{d:Addr}{o o':HO}(hd:H d=some o'):∀ {as:List Addr} {Ms:List (List Nat)},Zb H as Ms->(∀ a∈as,a≠d)->Zb (upd H d o) as Ms
 | [],[],_,_=>trivial
 | a::_,_::_,⟨h1,h2⟩,hn=>⟨by rw[ZK (hn a (by simp))];exact h1,Zb.updN hd h2 fun b hb=>hn b (by simp[hb])⟩
 | [],_::_,h,_=>h.elim
 | _::_,[],h,_=>h.elim
noncomputable def rv (as:List Addr):List V:=as.map V.ref
theorem ZaD (as:List Addr)(a:Addr):rv as++[.ref a]=rv (as++[a]):=by simp[rv]
theorem Vh (as:List Addr):(rv as).length=as.length:=by simp[rv]
theorem Sf {as:List Addr}{i:Nat}{a:Addr}(h:as[i]?=some a):(rv as)[i]?=some (.ref a):=by simp[rv,h]
theorem Zhy (M:List Nat):nv M=(M.map fun (x:Nat)=>(x:Int)).map V.int:=by simp[nv]
def Z6s (K:Y00):Sp:=fun vs H Q _=>∃ (p:Addr) (n:Nat) (r:List Nat),vs=[.ref p]/\Xp K H p r/\Row n r/\n<=36/\
 ∀ (H':Hp) (l:Addr) (as:List Addr),Z5 H H'->H l=none->H' l=some (.lst (rv as))->(∀ a∈as,H a=none)->Zb H' as (Za n r)->Q (.ref l) H'
theorem ZaA {n i:Nat}(hi:i<n):(Y02 n)[i]?=some i:=Y2v hi
section
variable {P:Program}{w:World}{K:Y00}{mg:Str->Option Value}{base:Heap}
noncomputable abbrev nCs:List Str:=["row","found"]
theorem scCs:ZL nCs ["row"] (ZV WQ):=⟨rfl,rfl,rfl,by decide +kernel,rfl,by decide +kernel,by decide +kernel⟩
theorem Zk0:(["first","row"]:List Str).Nodup:=by decide +kernel
theorem ZkM:(["cycle"]:List Str).Nodup:=by decide +kernel
theorem Z9K {f fc:Addr}{fd fdc:FuncData}(T:Bi mg)(Tm:mg "min"=none)(F:Fn K mg "cycles" WQ ["row"] f fd)(FC:Fn K mg "cycle_from" UK ["row","first"] fc fdc)(GC:Z4 P w K mg base CX0 1 fc fdc ["row","first"] (Zat K)) :
  Z4 P w K mg base CX0 2 f fd ["row"] (Z6s K):=by
 refine F.F.ok scCs (fun vs H Q E h=>?_) (fun cdv A outer s H vs Q E hr h=>?_)
 ·obtain⟨p,n,r,rfl,_⟩:=h;rfl
 ·obtain⟨p,n,r,rfl,hp,rr,hn,k⟩:=h;refine⟨_,Z3 (Zaw (j:=1) (N:=nCs) (names:=(ZV WQ).names) (N':=["first","row"]) (k:=1) (pull:=[0]) (te:=Yf (Zat K) [] E0 (ZI (ZU 1) (ZI (ZU 0) Zr))) rfl scCs.nd rfl rfl
     ⟨by rfl,by decide +kernel,by decide +kernel,by rfl,by decide +kernel,by decide +kernel⟩ rfl rfl (WZ rfl T.range (Z9 (ZG Y5 rfl T.len PySem.boot_len (Z9 (pv 0) Z7)) Z7)) (fun _ _ _ _ _ _=>Zu (i:=0) Zk0 rfl (Or.inl rfl))
     (fun _ _ _ _ _ _=>ZT GC hr rfl FC.m FC.F.kp FC.b .nil ZQ (Z9 (pv 1) (Z9 (pv 0) Z7))))
   (ZY (ZO (SO (N:=nCs) (names:=(ZV WQ).names) (N':=["cycle"]) (k:=1) (pull:=[]) (tt:=WD (tOp rEq (tOp (Ta K) (ZU 0) (tC (.int 0))) (tCB (fun xs H Q=>∃ (p:Addr) (ns:List Int),xs=[.ref p]/\SqL K H p (ns.map V.int)/\ns≠[]/\∀ m,m∈ns->(∀ y∈ns,m<=y)->Q (.int m) H) (ZI (ZU 0) Zr)))) (te:=ZU 0) rfl
     ⟨by rfl,by decide +kernel,by decide +kernel,by rfl,by decide +kernel,by decide +kernel⟩ rfl rfl (Yl (pv 1)) (fun _ _ _ _ _ _=>Zu (i:=0) ZkM rfl (Or.inl rfl))
     (fun _ _ _ _ _ _=>ZE Y7 (Z2 YG (pv 0) Z6 (fun _ _=>rfl)) (ZG (Zc0 rfl) rfl Tm Z98 (Z9 (pv 0) Z7)) (ZH _))
     (fun _ _ _ _ _ _=>pv 0)))),?_⟩
  refine⟨_,rfl,p,_,rfl,hp,(n:Int),by rw[ZA,rr.len],by lia,by lia,fun d hd=>?_⟩;rw[Y1g];show ∃ W:Nat->Nat->St->Hp->Prop,(∃ m,W 0 m [none,some (.ref p)] (upd H d (.lst [])))/\_;refine Z7D (J:=Itr 0 n) (Q:=fun d H'=>Zs 1 (.ref d) [some (.ref p),none] H' _) n (fun i xs σ H3=>∃ o as,σ=[o,some (.ref p)]/\Z5 H H3/\xs=rv as/\(∀ a∈as,H a=none/\a≠d)/\Zb H3 as ((Y02 i).map (cyc n r))) ⟨_,[],rfl,ZS (Z5.refl _) hd,rfl,by simp,trivial⟩ ?_ ?_
  ·rintro i xs σ H3 hi ⟨o,as,rfl,s3,rfl,fr,hL⟩ hd3;refine⟨hi,fun x H4 ⟨e1,e2⟩=>?_⟩;subst e1 e2;rw[show (0:Int)+(i:Int)=(i:Int) from by lia];refine⟨_,rfl,_,rfl,p,n,r,i,rfl,hp.same s3,rr,hi,hn,fun H5 l M s5 f5 hl hM=>?_⟩;have eM:=hM.eq rr hi;subst eM;have hlen:=hL.len;rw[Y07,Y0v]at hlen;refine VZ hi (s5 _ _ hd3) (by rw[Vh];lia) ⟨_,as++[l],rfl,ZS (s3.trans s5) hd,ZaD _ _,fun a ha=>?_,?_⟩
   ·rcases Y0n.mp ha with ha|ha
    ·exact fr a ha
    ·rw[Y0k.mp ha];exact⟨s3.free f5,fun e=>by rw[e,hd3]at f5;cases f5⟩
   ·have nd:∀ {a:Addr} {o:HO},H5 a=some o->a≠d->(upd H5 d (.lst (rv as++[.ref l]))) a=some o:=fun h hne=>by rw[ZK hne];exact h
    rw[Y2w,Y1z];have hld:l≠d:=fun e=>by rw[e,hd3]at f5;cases f5
    refine Zb.snoc ?_ (nd hl hld);have h5:=hL.same s5;exact h5.updN (s5 _ _ hd3) fun a ha=>(fr a ha).2
  ·rintro xs σ H3 ⟨o,as,rfl,s3,rfl,fr,hL⟩ hd3;refine⟨Y05 _,?_⟩;have hlen:=hL.len;rw[Y07,Y0v]at hlen;refine⟨_,rfl,d,rfl,⟨_,SqL.of hd3⟩,fun e he=>?_⟩;refine SV (σ0:=[none]) (Q:=fun d H'=>Q (.ref d) H') n (fun i xs σ H4=>∃ o bs,σ=[o]/\Z5 H3 H4/\xs=rv bs/\(∀ a∈bs,a∈as)/\Zb H4 bs (((Y02 i).filter (Zl n r)).map (cyc n r))) ⟨_,[],rfl,ZS (Z5.refl _) he,rfl,by simp,trivial⟩ ?_ ?_
   ·rintro i xs σ H4 hi ⟨o,bs,rfl,s4,rfl,sub,hB⟩ he4;have ha:as[i]?=some (as[i]'(by lia)):=Y01 _;generalize as[i]'(by lia)=a at ha;obtain⟨M,hM,hA⟩:=hL.get ha;rw[Y0l,ZaA hi]at hM;have eM:cyc n r i=M:=Option.some.inj hM;subst eM;have hd4:=SqL.of (K:=K) (s4 _ _ hd3);refine⟨⟨_,_,hd4,Sf ha⟩,fun y H5 ⟨e1,hy⟩=>?_⟩;subst e1;have hy:=hy _ hd4;rw[Sf ha]at hy;cases hy;have hA4:=s4 _ _ hA;refine⟨_,rfl,a,_,0,_,rfl,rfl,SqL.of hA4,Z0 (j:=0) (Zp (Um rr hi)),_,rfl,a,(cyc n r i).map fun (x:Nat)=>(x:Int),rfl,by rw[<-Zhy];exact SqL.of hA4,?_,fun m hm hle=>?_⟩
    ·intro z;have:=Um rr hi;rw[List.map_eq_nil_iff.mp z]at this;simp at this
    obtain⟨x,hx,rfl⟩:=Y0g.mp hm;refine⟨rfl,_,rfl,?_⟩;have hblen:=hB.len;have hbl:bs.length<=36:=by
     rw[hblen,Y07];have:=Y20 (Zl n r) (Y02 i);rw[Y0v]at this;lia
    have hfs:(Y02 (i+1)).filter (Zl n r)=(Y02 i).filter (Zl n r)++[i].filter (Zl n r):=by rw[Y2w,Y1t]
    by_cases e:i=x
    ·subst e;rw[decide_eq_true rfl];refine Zz ?_;have hld:Zl n r i=true:=Uq.mpr fun y hy=>by
      have:=hle _ (Y0g.mpr ⟨y,hy,rfl⟩);lia
     refine⟨_,rfl,VZ hi he4 (by rw[Vh];lia) ⟨_,bs++[a],rfl,ZS s4 he,ZaD _ _,fun b hb=>?_,?_⟩⟩
     ·rcases Y0n.mp hb with hb|hb
      ·exact sub b hb
      ·rw[Y0k.mp hb];exact Y0r ha
     ·rw[hfs,Y26 hld,List.filter_nil,Y1z];refine Zb.snoc (hB.updN he4 ?_) ?_
      ·intro b hb z;obtain⟨j,hj⟩:=List.getElem?_of_mem (sub b hb);obtain⟨M,_,hM⟩:=hL.get hj;rw[z,he]at hM;cases hM
      ·rw[ZK (fun z=>by rw[z,he]at hA;cases hA)];exact hA4
    ·rw[decide_eq_false (by intro z;have:=V.int.inj z;lia)];refine ZJ ?_;have hnl:¬ Zl n r i=true:=fun z=>by
      have h1:=Uq.mp z x hx;have h2:=hle _ (Y0g.mpr ⟨i,Y0r (Um rr hi),rfl⟩);lia
     refine RY hi he4 ⟨_,bs,rfl,s4,rfl,sub,?_⟩;rw[hfs,Y2z hnl,List.filter_nil,Y1o];exact hB
   ·rintro xs σ H4 ⟨o,bs,rfl,s4,rfl,sub,hB⟩ he4;refine⟨⟨_,SqL.of (s4 _ _ hd3),by rw[Vh,hlen];exact Y05 _⟩,?_⟩;exact k H4 e bs (s3.trans s4) (s3.free he) he4 (fun a ha=>(fr a (sub a ha)).1) hB
end
end K1
namespace L2
open PySem PySem.Spec PyProof.Rows PySem.W
noncomputable def kev {α:Type}(lt:Nat->Nat->Bool):KasT α->α
 | .ret a=>a
 | .ask i j k=>kev lt (k (lt i j))
theorem Vn {α:Type}(lt:Nat->Nat->Bool)(a:α):kev lt (.ret a)=a:=rfl
theorem Xf {α:Type}(lt:Nat->Nat->Bool)(i j:Nat)(k:Bool->KasT α):kev lt (.ask i j k)=kev lt (k (lt i j)):=rfl
theorem Xi {α β:Type}(lt:Nat->Nat->Bool):∀ (t:KasT α) (f:α->KasT β),kev lt (t.bind f)=kev lt (f (kev lt t))
 | .ret a,f=>by rw[KasT.bind];rfl
 | .ask i j k,f=>by
  rw[KasT.bind,Xf,Xf];exact Xi lt (k (lt i j)) f
variable (key:Nat->Nat)
noncomputable abbrev kl:Nat->Nat->Bool:=fun i j=>decide (key i<key j)
theorem S6 {i j:Nat}(h:key i<key j):kl key i j=true:=decide_eq_true h
theorem S8 {i j:Nat}(h:¬ key i<key j):kl key i j=false:=decide_eq_false h
noncomputable def ka (p:Array Nat)(t:Nat):Nat:=key (p.getD t 0)
theorem TJ {p q:Array Nat}{t s:Nat}(h:p[t]?=q[s]?):ka key p t=ka key q s:=by
 unfold ka;rw[Y1a,Y1a,h]
def Srt (p:Array Nat)(m:Nat):Prop:=∀ t,t+1<m->ka key p t<=ka key p (t+1)
def Dsc (p:Array Nat)(m:Nat):Prop:=∀ t,t+1<m->ka key p (t+1)<=ka key p t
theorem Srt.le {p:Array Nat}{m:Nat}(h:Srt key p m){s:Nat}:∀ {t:Nat},s<=t->t<m->ka key p s<=ka key p t
 | 0,h1,_=>by (have:s=0:=(by lia);subst this;exact Y05 _)
 | t+1,h1,h2=>by
  rcases Y0q s (t+1) with c|c
  ·exact Y0z (Srt.le h (by lia) (by lia)) (h t h2)
  ·have:s=t+1:=(by lia);subst this;exact Y05 _
theorem Dsc.le {p:Array Nat}{m:Nat}(h:Dsc key p m){s:Nat}:∀ {t:Nat},s<=t->t<m->ka key p t<=ka key p s
 | 0,h1,_=>by (have:s=0:=(by lia);subst this;exact Y05 _)
 | t+1,h1,h2=>by
  rcases Y0q s (t+1) with c|c
  ·exact Y0z (h t h2) (Dsc.le h (by lia) (by lia))
  ·have:s=t+1:=(by lia);subst this;exact Y05 _
theorem Z62 (p:Array Nat):∀ (f i:Nat),1<=i->Srt key p i->i<=kev (kl key) (kas_asc p f i)/\kev (kl key) (kas_asc p f i)<=i+f/\Srt key p (kev (kl key) (kas_asc p f i))/\(kev (kl key) (kas_asc p f i)<i+f->ka key p (kev (kl key) (kas_asc p f i))<ka key p (kev (kl key) (kas_asc p f i)-1))
 | 0,i,h1,hs=>by
  rw[kas_asc];exact⟨Y05 _,Y05 _,hs,fun z=>absurd z (by rw[Vn];lia)⟩
 | f+1,i,h1,hs=>by
  rw[kas_asc,Xf]
  by_cases c:key (p.getD i 0)<key (p.getD (i-1) 0)
  ·rw[S6 key c,if_pos rfl,Vn];exact⟨Y05 _,by lia,hs,fun _=>c⟩
  ·rw[S8 key c,if_neg (by decide)];have hs':Srt key p (i+1):=fun t ht=>by
    rcases Y0q (t+1) i with d|d
    ·exact hs t d
    ·have:t+1=i:=(by lia);have e:t=i-1:=(by lia);subst e;show key (p.getD (i-1) 0)<=key (p.getD (i-1+1) 0);rw[show i-1+1=i from by lia];lia
   obtain⟨a,b,c',d⟩:=Z62 p f (i+1) (by lia) hs';exact⟨by lia,by lia,c',fun z=>d (by lia)⟩
theorem Z7J {p:Array Nat}{i j:Nat}(hj:j<=p.size)(t:Nat):ka key (kas_rev p i j) t=if i<=t/\t<j then ka key p (i+j-1-t) else ka key p t:=by
 have:=getElem?_mirror_all (xs:=p) (i:=i) hj t
 by_cases c:i<=t/\t<j
 ·rw[if_pos c];rw[if_pos c]at this;exact TJ key this
 ·rw[if_neg c];rw[if_neg c]at this;exact TJ key this
theorem WY (p:Array Nat)(i j:Nat):(kas_rev p i j).size=p.size:=mirror_size p i j _
theorem WX (p:Array Nat)(i j:Nat):(kas_rev p i j).Perm p:=mirror_perm p i j _
theorem Z6b {p:Array Nat}{i j:Nat}(hj:j<=p.size)(h:∀ t,i<=t->t<j->ka key p t=ka key p i)(t:Nat):ka key (kas_rev p i j) t=ka key p t:=by
 rw[Z7J key hj]
 split
 ·next c=>rw[h t c.1 c.2,h (i+j-1-t) (by lia) (by lia)]
 ·rfl
theorem SU:∀ (f:Nat) (p:Array Nat) (i k:Nat),1<=i->i+f<=p.size->k+1<=i->Dsc key p i->(∀ t,i-(k+1)<=t->t<i->ka key p t=ka key p (i-1))->
  ∃ q m k',kev (kl key) (kas_desc f p i k)=(q,m,k')/\q.Perm p/\q.size=p.size/\i<=m/\m<=i+f/\Dsc key q m/\k' + 1<=m/\(∀ t,m-(k' + 1)<=t->t<m->ka key q t=ka key q (m-1))
 | 0,p,i,k,h1,hsz,hk,hd,he=>by
  rw[kas_desc];exact⟨p,i,k,rfl,Array.Perm.refl _,rfl,Y05 _,by lia,hd,hk,he⟩
 | f+1,p,i,k,h1,hsz,hk,hd,he=>by
  rw[kas_desc,Xf]
  by_cases c:key (p.getD i 0)<key (p.getD (i-1) 0)
  ·rw[S6 key c,if_pos rfl];have step:∀ p':Array Nat,p'.size=p.size->(∀ t,ka key p' t=ka key p t)->Dsc key p' (i+1):=fun p' _ hp' t ht=>by
    rw[hp',hp'];rcases Y0q (t+1) i with d|d
    ·exact hd t d
    ·have e:t=i-1:=(by lia);subst e;rw[show i-1+1=i from by lia];exact Y16 c
   by_cases k0:k>0
   ·rw[if_pos k0];have hl:∀ t,ka key (kas_rev p (i-(k+1)) i) t=ka key p t:=Z6b key (by lia) fun t t1 t2=>by rw[he t t1 t2,he (i-(k+1)) (Y05 _) (by lia)]
    obtain⟨q,m,k',e,pq,sq,a,b,d,g,h⟩:=SU f (kas_rev p (i-(k+1)) i) (i+1) 0 (by lia) (by rw[WY];lia) (by lia) (step _ (WY _ _ _) hl) (fun t t1 t2=>by
     have:t=i:=by lia
     subst this;rfl)
    exact⟨q,m,k',e,pq.trans (WX _ _ _),by rw[sq,WY],by lia,by lia,d,g,h⟩
   ·rw[if_neg k0];obtain⟨q,m,k',e,pq,sq,a,b,d,g,h⟩:=SU f p (i+1) 0 (by lia) (by lia) (by lia) (step p rfl fun _=>rfl) (fun t t1 t2=>by
     have:t=i:=by lia
     subst this;rfl)
    exact⟨q,m,k',e,pq,sq,by lia,by lia,d,g,h⟩
  ·rw[S8 key c,if_neg (by decide),Xf]
   by_cases c2:key (p.getD (i-1) 0)<key (p.getD i 0)
   ·rw[S6 key c2,if_pos rfl,Vn];exact⟨p,i,k,rfl,Array.Perm.refl _,rfl,Y05 _,by lia,hd,hk,he⟩
   ·rw[S8 key c2,if_neg (by decide)];have eq:ka key p i=ka key p (i-1):=(by show key (p.getD i 0)=key (p.getD (i-1) 0);lia);obtain⟨q,m,k',e,pq,sq,a,b,d,g,h⟩:=SU f p (i+1) (k+1) (by lia) (by lia) (by lia) (fun t ht=>by
     rcases Y0q (t+1) i with d|d
     ·exact hd t d
     ·have e:t=i-1:=by lia
      subst e
      rw[show i-1+1=i from by lia]
      exact Nat.le_of_eq eq) (fun t t1 t2=>by
     show ka key p t=ka key p i
     rcases Y0q t i with d|d
     ·rw[eq];exact he t (by lia) d
     ·have:t=i:=by lia
      subst this;rfl)
    exact⟨q,m,k',e,pq,sq,by lia,by lia,d,g,h⟩
theorem Z77 {m nrem:Nat}{p:Array Nat}(h1:1<=m)(hm:m<=nrem)(hn:nrem=p.size)(hd:Dsc key p m) :
  ∃ m' q,kev (kl key) (kas_tail3 m nrem p)=(m',q)/\q.Perm p/\q.size=p.size/\1<=m'/\m'<=nrem/\Srt key q m':=by
 unfold kas_tail3;rw[Xi,Vn];have hs:Srt key (kas_rev p 0 m) m:=fun t ht=>by
  rw[Z7J key (by lia),Z7J key (by lia),if_pos (by lia),if_pos (by lia)];exact Dsc.le key hd (by lia) (by lia)
 obtain⟨a,b,c,_⟩:=Z62 key (kas_rev p 0 m) (nrem-m) m h1 hs;exact⟨_,_,rfl,WX _ _ _,WY _ _ _,by lia,by lia,c⟩
theorem Z3V {n nrem:Nat}{p:Array Nat}(h1:1<=n)(hn:n<nrem)(hz:nrem=p.size)(hd:Dsc key p (n+1)) :
  ∃ m' q,kev (kl key) (kas_descPart n nrem p)=(m',q)/\q.Perm p/\q.size=p.size/\1<=m'/\m'<=nrem/\Srt key q m':=by
 unfold kas_descPart;rw[Xi];obtain⟨q,m,k',e,pq,sq,a,b,d,g,h⟩:=SU key (nrem-(n+1)) p (n+1) 0 (by lia) (by lia) (by lia) hd (fun t t1 t2=>by
  have:t=n:=by lia
  subst this;rfl)
 rw[e];show ∃ m' q',kev (kl key) (if k'>0 then kas_tail3 m nrem (kas_rev q (m-(k' + 1)) m) else kas_tail3 m nrem q)=(m',q')/\_
 by_cases k0:k'>0
 ·rw[if_pos k0];have hl:∀ t,ka key (kas_rev q (m-(k' + 1)) m) t=ka key q t:=Z6b key (by lia) fun t t1 t2=>by rw[h t t1 t2,h (m-(k' + 1)) (Y05 _) (by lia)]
  obtain⟨m',q',e',p',s',a',b',c'⟩:=Z77 key (m:=m) (nrem:=nrem) (p:=kas_rev q (m-(k' + 1)) m) (by lia) (by lia) (by rw[WY];lia) (fun t ht=>by rw[hl,hl];exact d t ht);exact⟨m',q',e',p'.trans ((WX _ _ _).trans pq),by rw[s',WY,sq],a',b',c'⟩
 ·rw[if_neg k0];obtain⟨m',q',e',p',s',a',b',c'⟩:=Z77 key (m:=m) (nrem:=nrem) (p:=q) (by lia) (by lia) (by lia) d;exact⟨m',q',e',p'.trans pq,by rw[s',sq],a',b',c'⟩
theorem Z9t {n:Nat}{p:Array Nat}(h1:1<=n)(hz:n=p.size) :
  ∃ m q,kev (kl key) (kas_count n p)=(m,q)/\q.Perm p/\q.size=p.size/\1<=m/\m<=n/\Srt key q m:=by
 unfold kas_count;rw[Xi];obtain⟨a,b,c,d⟩:=Z62 key p (n-1) 1 (Y05 _) (fun t ht=>absurd ht (by lia));generalize kev (kl key) (kas_asc p (n-1) 1)=m at a b c d;show ∃ m' q,kev (kl key) (if (m==n)=true then KasT.ret (m,p) else if m>1 then KasT.ask (p.getD 0 0) (p.getD (m-1) 0) fun c=>if c=true then KasT.ret (m,p) else kas_descPart m n (kas_rev p 0 m) else kas_descPart m n p)=(m',q)/\_
 by_cases e:m=n
 ·rw[if_pos (by simpa using e),Vn];exact⟨m,p,rfl,Array.Perm.refl _,rfl,by lia,by lia,c⟩
 ·rw[if_neg (by simpa using e)];have dd:=d (by lia)
  by_cases m1:m>1
  ·rw[if_pos m1,Xf]
   by_cases q:key (p.getD 0 0)<key (p.getD (m-1) 0)
   ·rw[S6 key q,if_pos rfl,Vn];exact⟨m,p,rfl,Array.Perm.refl _,rfl,by lia,by lia,c⟩
   ·rw[S8 key q,if_neg (by decide)];have eq:∀ t,t<m->ka key p t=ka key p 0:=fun t ht=>by
     have h2:=Srt.le key c (Y12 t) ht;have h3:=Srt.le key c (show t<=m-1 by lia) (by lia);have h4:¬ ka key p 0<ka key p (m-1):=q;lia
    have hl:∀ t,ka key (kas_rev p 0 m) t=ka key p t:=Z6b key (by lia) fun t _ t2=>eq t t2;obtain⟨m',q',e',p',s',a',b',c'⟩:=Z3V key (n:=m) (nrem:=n) (p:=kas_rev p 0 m) (by lia) (by lia) (by rw[WY];lia) (fun t ht=>by
     rw[hl,hl]
     rcases Y0q (t+1) m with z|z
     ·rw[eq t (by lia),eq (t+1) z];exact Y05 _
     ·have e5:t=m-1:=by lia
      subst e5
      rw[show m-1+1=m from by lia];exact Y16 dd)
    exact⟨m',q',e',p'.trans (WX _ _ _),by rw[s',WY],a',b',c'⟩
  ·rw[if_neg m1];have em:m=1:=(by lia);subst em;exact Z3V key (n:=1) (nrem:=n) (p:=p) (by lia) (by lia) hz (fun t ht=>by
    have:t=0:=by lia
    subst this
    exact Y16 dd)
theorem Z45 (p:Array Nat)(k:Nat)(hs:Srt key p k):∀ (f l r:Nat),r-l<=f->l<=r->r<=k->(∀ t,t<l->ka key p t<=ka key p k)->(∀ t,r<=t->t<k->ka key p k<=ka key p t)->
  kev (kl key) (kas_place p k f l r)<=k/\(∀ t,t<kev (kl key) (kas_place p k f l r)->ka key p t<=ka key p k)/\∀ t,kev (kl key) (kas_place p k f l r)<=t->t<k->ka key p k<=ka key p t
 | 0,l,r,hf,hlr,hr,h1,h2=>by
  have:l=r:=by lia
  subst this;rw[kas_place];exact⟨hr,h1,h2⟩
 | f+1,l,r,hf,hlr,hr,h1,h2=>by
  rw[kas_place]
  by_cases c:l≥r
  ·have:l=r:=(by lia);subst this;rw[if_pos c];exact⟨hr,h1,h2⟩
  ·rw[if_neg c,Xf]
   by_cases q:key (p.getD k 0)<key (p.getD ((l+r)/2) 0)
   ·rw[S6 key q,if_pos rfl];exact Z45 p k hs f l ((l+r)/2) (by lia) (by lia) (by lia) h1 fun t t1 t2=>Y0z (Y16 q) (Srt.le key hs t1 t2)
   ·rw[S8 key q,if_neg (by decide)];exact Z45 p k hs f ((l+r)/2+1) r (by lia) (by lia) hr (fun t ht=>Y0z (Srt.le key hs (show t<=(l+r)/2 by lia) (by lia)) (Nat.le_of_not_lt q)) h2
theorem Z5I {p:Array Nat}{k l:Nat}(hk:k<p.size)(hl:l<=k)(t:Nat):ka key (bubble p k (k-l)) t=if t=l then ka key p k else if l<t/\t<=k then ka key p (t-1) else ka key p t:=by
 have:=getElem?_bubble (xs:=p) hk (k-l) (by lia) t;rw[show k-(k-l)=l from by lia]at this
 by_cases c:t=l
 ·rw[if_pos c]at this ⊢;exact TJ key this
 ·rw[if_neg c]at this ⊢
  by_cases d:l<t/\t<=k
  ·rw[if_pos d]at this ⊢;exact TJ key this
  ·rw[if_neg d]at this ⊢;exact TJ key this
theorem Z8m:∀ (f:Nat) (p:Array Nat) (i:Nat),i+f=p.size->Srt key p i->
  (kev (kl key) (kas_bin f p i)).Perm p/\Srt key (kev (kl key) (kas_bin f p i)) p.size
 | 0,p,i,hz,hs=>by
  rw[kas_bin];have:i=p.size:=by lia
  subst this;exact⟨Array.Perm.refl _,hs⟩
 | f+1,p,i,hz,hs=>by
  rw[kas_bin,Xi];obtain⟨a,b,c⟩:=Z45 key p i hs i 0 i (by lia) (by lia) (Y05 _) (fun t ht=>absurd ht (by lia)) (fun t t1 t2=>absurd t2 (by lia));generalize kev (kl key) (kas_place p i i 0 i)=l at a b c;have hs':Srt key (bubble p i (i-l)) (i+1):=fun t ht=>by
   rw[Z5I key (by lia) a,Z5I key (by lia) a]
   by_cases e1:t=l
   ·rw[if_pos e1,if_neg (by lia),if_pos (by lia)];have:=c t (by lia) (by lia)
    simpa using this
   ·rw[if_neg e1]
    by_cases e2:l<t/\t<=i
    ·rw[if_pos e2,if_neg (by lia),if_pos (by lia)];have:=hs (t-1) (by lia);rw[show t-1+1=t from by lia]at this
     simpa using this
    ·rw[if_neg e2]
     by_cases e3:t+1=l
     ·rw[if_pos e3];exact b t (by lia)
     ·rw[if_neg e3,if_neg (by lia)];exact hs t (by lia)
  obtain⟨x,y⟩:=Z8m f (bubble p i (i-l)) (i+1) (by rw[bubble_size];lia) hs';rw[bubble_size]at y;exact⟨x.trans (bubble_perm _ _ _),y⟩
theorem Za7 {n:Nat}(h1:1<=n):(kev (kl key) (kas_sort n)).toList.Perm (Y02 n)/\(kev (kl key) (kas_sort n)).toList.Pairwise (fun i j=>key i<=key j):=by
 have hz:n=(Y02 n).toArray.size:=by simp
 obtain⟨m,q,e,pq,sq,a,b,c⟩:=Z9t key h1 hz;have key':∀ q':Array Nat,q'.Perm (Y02 n).toArray->Srt key q' n->q'.toList.Perm (Y02 n)/\q'.toList.Pairwise (fun i j=>key i<=key j):=fun q' pq' sq'=>by
  have pl:q'.toList.Perm (Y02 n):=by simpa using pq'.toList
  refine⟨pl,Y39.mpr fun i j hi hj hij=>?_⟩;have hl:q'.toList.length=n:=by rw[pl.length_eq,Y0v]
  have:=Srt.le key sq' (Y16 hij) (by lia);unfold ka at this;rw[Y1a,Y1a]at this;have g:∀ t (ht:t<q'.toList.length),q'[t]?.getD 0=q'.toList[t]:=fun t ht=>by
   have ht':t<q'.size:=by simpa using ht
   rw[Y3s ht'];simp
  rw[g i hi,g j hj]at this;exact this
 unfold kas_sort;rw[Xi,e];show (kev (kl key) (if m<n then kas_bin (n-max m 1) q (max m 1) else KasT.ret q)).toList.Perm _/\_
 by_cases hm:m<n
 ·rw[if_pos hm];have em:max m 1=m:=by lia
  rw[em];obtain⟨x,y⟩:=Z8m key (n-m) q m (by lia) c;rw[show q.size=n from by lia]at y;exact key' _ (x.trans pq) y
 ·rw[if_neg hm];have em:m=n:=by lia
  subst em;exact key' _ pq c
def Pth {α:Type}(lt:Nat->Nat->Bool)(n:Nat):KasT α->Prop
 | .ret _=>True
 | .ask i j k=>i<n/\j<n/\Pth lt n (k (lt i j))
theorem Vx {α β:Type}{lt:Nat->Nat->Bool}{n:Nat}:∀ (t:KasT α) (f:α->KasT β),Pth lt n t->Pth lt n (f (kev lt t))->Pth lt n (t.bind f)
 | .ret a,f,_,h=>by rw[KasT.bind];exact h
 | .ask i j k,f,h1,h=>by
  rw[KasT.bind];exact⟨h1.1,h1.2.1,Vx (k (lt i j)) f h1.2.2 h⟩
def YJ (n:Nat)(p:Array Nat):Prop:=∀ i,p.getD i 0<n
theorem YJ.perm {n:Nat}{p q:Array Nat}(h:YJ n p)(pq:q.Perm p):YJ n q:=fun i=>by
 have h0:0<n:=Y1s (Y12 _) (h 0)
 by_cases hi:i<q.size
 ·have hm:q[i]∈p:=pq.mem_iff.mp (Array.getElem_mem hi);obtain⟨j,hj,e⟩:=Array.mem_iff_getElem.mp hm;have:=h j;rw[Y1a,Y3s hj]at this;rw[Y1a,Y3s hi,<-e];exact this
 ·rw[Y1a,Array.getElem?_eq_none (by lia)];exact h0
variable {lt:Nat->Nat->Bool}{n:Nat}
theorem Z7H {p:Array Nat}(h:YJ n p):∀ (f i:Nat),Pth lt n (kas_asc p f i)
 | 0,i=>by rw[kas_asc];trivial
 | f+1,i=>by
  rw[kas_asc];refine⟨h _,h _,?_⟩;dsimp only
  split
  ·trivial
  ·exact Z7H h f (i+1)
theorem Z4U {p:Array Nat}(h:YJ n p):∀ (f k l r:Nat),Pth lt n (kas_place p k f l r)
 | 0,k,l,r=>by rw[kas_place];trivial
 | f+1,k,l,r=>by
  rw[kas_place]
  split
  ·trivial
  ·refine⟨h _,h _,?_⟩;dsimp only
   split
   ·exact Z4U h f k l _
   ·exact Z4U h f k _ r
theorem Zbq:∀ (f:Nat) (p:Array Nat) (i:Nat),YJ n p->Pth lt n (kas_bin f p i)
 | 0,p,i,_=>by rw[kas_bin];trivial
 | f+1,p,i,h=>by
  rw[kas_bin];exact Vx _ _ (Z4U h _ _ _ _) (Zbq f _ _ (h.perm (bubble_perm _ _ _)))
theorem SG:∀ (f:Nat) (p:Array Nat) (i k:Nat),YJ n p->Pth lt n (kas_desc f p i k)/\YJ n (kev lt (kas_desc f p i k)).1
 | 0,p,i,k,h=>by rw[kas_desc];exact⟨trivial,h⟩
 | f+1,p,i,k,h=>by
  have key:Pth lt n (if lt (p.getD i 0) (p.getD (i-1) 0)=true then if k>0 then kas_desc f (kas_rev p (i-(k+1)) i) (i+1) 0 else kas_desc f p (i+1) 0 else KasT.ask (p.getD (i-1) 0) (p.getD i 0) fun d=>if d=true then KasT.ret (p,i,k) else kas_desc f p (i+1) (k+1))/\
    YJ n (kev lt (if lt (p.getD i 0) (p.getD (i-1) 0)=true then if k>0 then kas_desc f (kas_rev p (i-(k+1)) i) (i+1) 0 else kas_desc f p (i+1) 0 else KasT.ask (p.getD (i-1) 0) (p.getD i 0) fun d=>if d=true then KasT.ret (p,i,k) else kas_desc f p (i+1) (k+1))).1:=by
   by_cases c:lt (p.getD i 0) (p.getD (i-1) 0)=true
   ·rw[if_pos c]
    by_cases d:k>0
    ·rw[if_pos d];exact SG f (kas_rev p (i-(k+1)) i) (i+1) 0 (h.perm (WX _ _ _))
    ·rw[if_neg d];exact SG f p (i+1) 0 h
   ·rw[if_neg c,Xf];have key2:Pth lt n (if lt (p.getD (i-1) 0) (p.getD i 0)=true then KasT.ret (p,i,k) else kas_desc f p (i+1) (k+1))/\YJ n (kev lt (if lt (p.getD (i-1) 0) (p.getD i 0)=true then KasT.ret (p,i,k) else kas_desc f p (i+1) (k+1))).1:=by
     by_cases d:lt (p.getD (i-1) 0) (p.getD i 0)=true
     ·rw[if_pos d];exact⟨trivial,h⟩
     ·rw[if_neg d];exact SG f p (i+1) (k+1) h
    exact⟨⟨h _,h _,key2.1⟩,key2.2⟩
  rw[kas_desc];exact⟨⟨h _,h _,key.1⟩,key.2⟩
theorem Z8q {p:Array Nat}(h:YJ n p)(m k:Nat):Pth lt n (kas_tail3 m k p)/\YJ n (kev lt (kas_tail3 m k p)).2:=by
 unfold kas_tail3;rw[Xi];have h':=h.perm (WX p 0 m);exact⟨Vx _ _ (Z7H h' _ _) trivial,h'⟩
theorem Z4t {p:Array Nat}(h:YJ n p)(m k:Nat):Pth lt n (kas_descPart m k p)/\YJ n (kev lt (kas_descPart m k p)).2:=by
 unfold kas_descPart;rw[Xi];obtain⟨a,b⟩:=SG (lt:=lt) (k-(m+1)) p (m+1) 0 h;generalize he:kev lt (kas_desc (k-(m+1)) p (m+1) 0)=r at b;have key:Pth lt n (if r.2.2>0 then kas_tail3 r.2.1 k (kas_rev r.1 (r.2.1-(r.2.2+1)) r.2.1) else kas_tail3 r.2.1 k r.1)/\YJ n (kev lt (if r.2.2>0 then kas_tail3 r.2.1 k (kas_rev r.1 (r.2.1-(r.2.2+1)) r.2.1) else kas_tail3 r.2.1 k r.1)).2:=by
  by_cases c:r.2.2>0
  ·rw[if_pos c];exact Z8q (b.perm (WX _ _ _)) _ _
  ·rw[if_neg c];exact Z8q b _ _
 exact⟨Vx _ _ a (by rw[he];exact key.1),key.2⟩
theorem Zb2 {p:Array Nat}(h:YJ n p)(m:Nat):Pth lt n (kas_count m p)/\YJ n (kev lt (kas_count m p)).2:=by
 unfold kas_count;rw[Xi];have key:∀ q:Nat,Pth lt n (if (q==m)=true then KasT.ret (q,p) else if q>1 then KasT.ask (p.getD 0 0) (p.getD (q-1) 0) fun c=>if c=true then KasT.ret (q,p) else kas_descPart q m (kas_rev p 0 q) else kas_descPart q m p)/\
   YJ n (kev lt (if (q==m)=true then KasT.ret (q,p) else if q>1 then KasT.ask (p.getD 0 0) (p.getD (q-1) 0) fun c=>if c=true then KasT.ret (q,p) else kas_descPart q m (kas_rev p 0 q) else kas_descPart q m p)).2:=by
  intro q
  by_cases c1:(q==m)=true
  ·rw[if_pos c1];exact⟨trivial,h⟩
  ·rw[if_neg c1]
   by_cases c2:q>1
   ·rw[if_pos c2,Xf];show (_/\_/\Pth lt n (if lt (p.getD 0 0) (p.getD (q-1) 0)=true then _ else _))/\_
    by_cases c3:lt (p.getD 0 0) (p.getD (q-1) 0)=true
    ·rw[if_pos c3];exact⟨⟨h _,h _,trivial⟩,h⟩
    ·rw[if_neg c3];obtain⟨a,b⟩:=Z4t (lt:=lt) (h.perm (WX p 0 q)) q m;exact⟨⟨h _,h _,a⟩,b⟩
   ·rw[if_neg c2];exact Z4t h q m
 exact⟨Vx _ _ (Z7H h _ _) (key _).1,(key _).2⟩
theorem Zce {n:Nat}(h0:0<n):Pth lt n (kas_sort n):=by
 have h:YJ n (Y02 n).toArray:=fun i=>by
  rw[Y1a]
  by_cases hi:i<n
  ·simp[hi]
  ·simp[hi];lia
 obtain⟨a,b⟩:=Zb2 (lt:=lt) h n;unfold kas_sort;refine Vx _ _ a ?_
 split
 ·exact Zbq _ _ _ b
 ·trivial
theorem Z8t {α:Type}{cmp:Nat->Nat->(Bool->Shared->Prop)->Shared->Prop}{I:Shared->Prop}(hc:∀ i j (C:Bool->Shared->Prop) s,i<n->j<n->I s->(∀ s',I s'->C (lt i j) s')->cmp i j C s) :
  ∀ (t:KasT α) (G:α->Shared->Prop) (s:Shared),Pth lt n t->I s->(∀ s',I s'->G (kev lt t) s')->KasT.kasWp cmp t G s
 | .ret a,G,s,_,hi,hG=>by rw[KasT.kasWp];exact hG s hi
 | .ask i j k,G,s,hp,hi,hG=>by
  rw[KasT.kasWp];exact hc i j _ s hp.1 hp.2.1 hi fun s' hi'=>Z8t hc (k (lt i j)) G s' hp.2.2 hi' hG
noncomputable def Yu (h:Heap)(a:Addr)(vs:List Value):Heap:=((h.update a (Obj.mapSeq fun x=>#[])).push (seqObj "tuple" vs.toArray 0)).push (seqObj "list" #[] 0)
theorem Z7n {prog:Program}{w:World}{A:Around}{E:Value->Shared->Prop}{s:Shared}{a:Addr}{vs:List Value}{n:Nat}{P:PySem.Fin->Shared->Prop}(key:Nat->Nat)(κ:SortKind)
  (hs:s.heap.get? a=some (seqObj "list" vs.toArray n)) (h2:2<=vs.length) (h64:vs.length<64)
  (hk:∀ (E':Value->Shared->Prop) (Q:SortKind->Shared->Prop) (tk:Nat),(∀ tk',Q κ { s with heap:=Yu s.heap a vs,toks:=tk' })->wpAny (model prog w) A (keyKind' vs.toArray) Q E' { s with heap:=Yu s.heap a vs,toks:=tk })
  (hc:∀ i j (C:Bool->Shared->Prop) (tk:Nat),i<vs.length->j<vs.length->(∀ tk',C (kl key i j) { s with heap:=Yu s.heap a vs,toks:=tk' })->kas_ask prog w A κ vs i j C { s with heap:=Yu s.heap a vs,toks:=tk })
  (h:∀ (p:List Nat) (tk:Nat),p.Perm (Y02 vs.length)->p.Pairwise (fun i j=>key i<=key j)->P (Fin.done (Flow.ret Value.none)) { s with heap:=sortedHeap s.heap a vs (p.map fun i=>vs.getD i Value.none).toArray,toks:=tk }) :
  wpAny (model prog w) A (Builtin.«list.sort» { pos:=[Value.ref a] }) P E s:=by
 rw[list_sort_plain];refine wpAny_bind (listItems_at hs rfl ?_);refine wpAny_bind (listUpdate_at hs rfl ?_ (by rw[Y0e];exact Y16 (YR (by lia))) (by simp));have e1:∃ e,(s.heap.update a (Obj.mapSeq fun x=>#[])).get? a=some (seqObj "list" #[] e):=by
  have:=get?_update_seq hs (fun _=>#[]);exact⟨_,this⟩
 obtain⟨e1,he1⟩:=e1;refine wpAny_bind (seqEpoch_at he1 rfl ?_);refine wpAny_bind (wpAny_newTuple ?_ (by show vs.toArray.toList.length<=sizeLine;rw[List.toList_toArray];exact Y16 (YR (by lia))));refine wpAny_bind (wpAny_newList ?_ (by simp));refine wpAny_holding ?_;have hsz:¬ vs.toArray.size<2:=by rw[Y0e];lia
 dsimp only;rw[if_neg hsz];refine wpAny_bind (hk E _ s.toks fun tk0=>?_);rw[if_neg hsz];have h0:0<vs.length:=by lia
 have hw:=Z8t (lt:=kl key) (n:=vs.length) (cmp:=kas_ask prog w A κ vs) (I:=fun s'=>∃ tk,s'={ s with heap:=Yu s.heap a vs,toks:=tk }) (fun i j C s' hi hj ⟨tk,e⟩ hC=>by
  subst e
  exact hc i j C tk hi hj fun tk'=>hC _ ⟨tk',rfl⟩) (kas_sort vs.length) (fun p s'=>p=kev (kl key) (kas_sort vs.length)/\∃ tk,s'={ s with heap:=Yu s.heap a vs,toks:=tk }) { s with heap:=Yu s.heap a vs,toks:=tk0 } (Zce h0) ⟨tk0,rfl⟩ (fun s' h'=>⟨rfl,h'⟩)
 obtain⟨sp1,sp2⟩:=Za7 key (n:=vs.length) (by lia);refine wpAny_bind (thn (kat_run (ks:=vs) (vs:=vs) rfl h2 h64 (Q:=fun st s'=>Array.map (fun x=>x.snd) (arrOf st)=((kev (kl key) (kas_sort vs.length)).toList.map fun i=>vs.getD i Value.none).toArray/\failedOf st=none/\∃ tk,s'={ s with heap:=Yu s.heap a vs,toks:=tk })
  (fun p st' s' hp harr hf ⟨ep,ht⟩=>⟨by rw[kat_snds rfl harr,ep],hf,ht⟩) hw) fun r s' ⟨ha,hf,tk,es⟩=>?_)
 subst es;have hae:(Yu s.heap a vs).get? a=some (seqObj "list" #[] e1):=by
  unfold Yu;exact Y03 _ (Y03 _ he1)
 refine wpAny_bind (seqEpoch_at hae rfl ?_);refine wpAny_bind (listUpdate_at hae rfl ?_ (by simp) (by
  rw[ha]
  simp only[Y0e,Y07]
  rw[show (kev (kl key) (kas_sort vs.length)).toList.length=vs.length from by rw[sp1.length_eq,Y0v]]
  have:=YR (n:=vs.length) (by lia)
  lia))
 rw[hf];dsimp only;rw[if_neg (by simp)];rw[ha];exact wpAny_pure (h _ tk sp1 sp2)
theorem Z6g {prog:Program}{w:World}{A:Around}{E:Value->Shared->Prop}{s:Shared}{a:Addr}{vs:List Value}{n:Nat}{P:PySem.Fin->Shared->Prop}
  (hs:s.heap.get? a=some (seqObj "list" vs.toArray n)) (h2:vs.length<2)
  (h:P (Fin.done (Flow.ret Value.none)) { s with heap:=sortedHeap s.heap a vs vs.toArray }) :
  wpAny (model prog w) A (Builtin.«list.sort» { pos:=[Value.ref a] }) P E s:=by
 rw[list_sort_plain];refine wpAny_bind (listItems_at hs rfl ?_);refine wpAny_bind (listUpdate_at hs rfl ?_ (by rw[Y0e];exact Y16 (YR (by omega))) (by simp));have e1:∃ e,(s.heap.update a (Obj.mapSeq fun x=>#[])).get? a=some (seqObj "list" #[] e):=⟨_,get?_update_seq hs (fun _=>#[])⟩;obtain⟨e1,he1⟩:=e1;refine wpAny_bind (seqEpoch_at he1 rfl ?_);refine wpAny_bind (wpAny_newTuple ?_ (by show vs.toArray.toList.length<=sizeLine;rw[List.toList_toArray];exact Y16 (YR (by omega))));refine wpAny_bind (wpAny_newList ?_ (by simp));refine wpAny_holding ?_;have hsz:vs.toArray.size<2:=by rw[Y0e];omega
 dsimp only;rw[if_pos hsz];refine wpAny_bind (wpAny_pure ?_);rw[if_pos hsz];refine wpAny_bind (wpAny_pure ?_);have hae:(Yu s.heap a vs).get? a=some (seqObj "list" #[] e1):=by
  unfold Yu;exact Y03 _ (Y03 _ he1)
 refine wpAny_bind (seqEpoch_at hae rfl ?_);have ha:Array.map (fun x:Keyed=>x.snd) (arrOf (SortSt.mk' general' (vs.toArray.zip vs.toArray) #[] 7 none))=vs.toArray:=by
  show Array.map (fun x:Keyed=>x.snd) (vs.toArray.zip vs.toArray)=vs.toArray;rw[List.zip_toArray,List.map_toArray];congr 1;exact List.map_snd_zip (Y05 _)
 refine wpAny_bind (listUpdate_at hae rfl ?_ (by simp) (by
  show (Array.map (fun x:Keyed=>x.snd) (arrOf (SortSt.mk' general' (vs.toArray.zip vs.toArray) #[] 7 none))).size<=sizeLine+1
  rw[ha,Y0e]
  have:=YR (n:=vs.length) (by omega)
  omega))
 have hf:failedOf (((),SortSt.mk' general' (vs.toArray.zip vs.toArray) #[] 7 none):Unit×SortSt).snd=none:=rfl;rw[hf];dsimp only;rw[if_neg (by simp)];refine wpAny_pure ?_;rw[ha];exact h
noncomputable def S2 (lt:Nat->Nat->Bool)(n i:Nat):Nat:=((Y02 n).filter fun j=>lt j i).length
theorem Z5N {n:Nat}{p q:Nat->Bool}(h:∀ j,j<n->p j=true->q j=true):((Y02 n).filter p).length<=((Y02 n).filter q).length:=by
 induction n with
 | zero=>simp
 | succ n ih=>
  have h1:=ih fun j hj=>h j (by omega);have h2:=h n (by omega);rw[Y2w,Y1t,Y1t,Y0h,Y0h]
  by_cases c:p n=true
  ·rw[Y26 c,Y26 (h2 c)];simp;exact h1
  ·rw[Y2z c];simp;omega
theorem Z7L {n i:Nat}{p q:Nat->Bool}(hi:i<n)(h:∀ j,j<n->p j=true->q j=true)(hp:p i=false)(hq:q i=true):((Y02 n).filter p).length<((Y02 n).filter q).length:=by
 induction n with
 | zero=>omega
 | succ n ih=>
  have h2:=h n (by omega);rw[Y2w,Y1t,Y1t,Y0h,Y0h];rcases Y0q i n with c|c
  ·have h1:=ih c fun j hj=>h j (by omega)
   by_cases c:p n=true
   ·rw[Y26 c,Y26 (h2 c)];simp;exact h1
   ·rw[Y2z c];simp;omega
  ·have:i=n:=(by omega);subst this;have h1:=Z5N (n:=i) (p:=p) (q:=q) fun j hj=>h j (by omega);rw[Y2z (by rw[hp];decide),Y26 hq];simp;omega
theorem Zc7 {lt:Nat->Nat->Bool}{n:Nat}(ir:∀ i,lt i i=false)(tr:∀ i j k,lt i j=true->lt j k=true->lt i k=true)(nt:∀ i j k,lt i k=true->lt i j=true\/lt j k=true){i j:Nat}(hi:i<n)(hj:j<n) :
  kl (S2 lt n) i j=lt i j:=by
 cases h:lt i j with
 | true=>
  exact decide_eq_true (Z7L hi (fun k _ hk=>tr k i j hk h) (ir i) h)
 | false=>
  refine decide_eq_false (Nat.not_lt.mpr (Z5N fun k _ hk=>?_));rcases nt k i j hk with z|z
  ·exact z
  ·rw[h]at z;cases z
theorem Uj:∀ a:List Int,HT.lexLt a a=false
 | []=>rfl
 | x::a=>by rw[HT.lexLt_cons,if_pos rfl];exact Uj a
theorem Se:∀ {a b c:List Int},HT.lexLt a b=true->HT.lexLt b c=true->HT.lexLt a c=true
 | [],_,[],_,h=>by cases ‹List Int› <;> simp[HT.lexLt]at h
 | [],_,_::_,_,_=>rfl
 | _::_,[],_,h,_=>by simp[HT.lexLt]at h
 | x::a,y::b,[],_,h=>by simp[HT.lexLt]at h
 | x::a,y::b,z::c,h1,h2=>by
  rw[HT.lexLt_cons]at h1 h2 ⊢
  by_cases e1:x=y
  ·subst e1;rw[if_pos rfl]at h1
   by_cases e2:x=z
   ·subst e2;rw[if_pos rfl]at h2 ⊢;exact Se h1 h2
   ·rw[if_neg e2]at h2 ⊢;exact h2
  ·rw[if_neg e1]at h1;have h1:=of_decide_eq_true h1
   by_cases e2:y=z
   ·subst e2;rw[if_neg e1];exact decide_eq_true h1
   ·rw[if_neg e2]at h2;have h2:=of_decide_eq_true h2;rw[if_neg (by omega)];exact decide_eq_true (by omega)
theorem Z7N:∀ {a b:List Int},HT.lexLt a b=false->HT.lexLt b a=false->a=b
 | [],[],_,_=>rfl
 | [],_::_,h,_=>by simp[HT.lexLt]at h
 | _::_,[],_,h=>by simp[HT.lexLt]at h
 | x::a,y::b,h1,h2=>by
  rw[HT.lexLt_cons]at h1 h2
  by_cases e:x=y
  ·subst e;rw[if_pos rfl]at h1 h2;rw[Z7N h1 h2]
  ·rw[if_neg e]at h1;rw[if_neg (fun z=>e z.symm)]at h2;have h1:=of_decide_eq_false h1;have h2:=of_decide_eq_false h2;omega
theorem ZdT {a b c:List Int}(h:HT.lexLt a c=true):HT.lexLt a b=true\/HT.lexLt b c=true:=by
 cases h1:HT.lexLt a b with
 | true=>exact .inl rfl
 | false=>
  right;cases h2:HT.lexLt b a with
  | true=>exact Se h2 h
  | false=>rw[<-Z7N h1 h2];exact h
theorem Z6z {h:Heap}{a b:Addr}{vs:List Value}{o:Obj}(hb:b≠a)(e:h.get? b=some o):(Yu h a vs).get? b=some o:=by
 unfold Yu;exact Y03 _ (Y03 _ ((Y1h _ _ hb.symm).trans e))
theorem Z3d {prog:Program}{w:World}{A:Around}{E:Value->Shared->Prop}{s:Shared}{p:Addr}{vs:List Value}{Q:Value->Shared->Prop}(key:Nat->Nat)(κ:SortKind)(hL:s.heap.IsList p vs.toArray)(h64:vs.length<64)(hh:A.handled=none)(hu:A.units+10<cLine)
  (hk:2<=vs.length->∀ (A':Around) (E':Value->Shared->Prop) (R:SortKind->Shared->Prop) (s':Shared),A'.units+5<cLine->(∀ b o,s.heap.get? b=some o->s'.heap.get? b=some o)->(∀ tk,R κ { s' with toks:=tk })->wpAny (model prog w) A' (keyKind' vs.toArray) R E' s')
  (hc:2<=vs.length->∀ (A':Around) i j (C:Bool->Shared->Prop) (s':Shared),A'.units+5<cLine->(∀ b o,s.heap.get? b=some o->s'.heap.get? b=some o)->i<vs.length->j<vs.length->(∀ tk,C (kl key i j) { s' with toks:=tk })->kas_ask prog w A' κ vs i j C s')
  (h:∀ (h1 h2:Heap) (tk e:Nat) (π:List Nat),π.Perm (Y02 vs.length)->π.Pairwise (fun i j=>key i<=key j)->(∀ b o,s.heap.get? b=some o->h1.get? b=some o)->h2.get? h1.objs.size=some (seqObj "list" (π.map fun i=>vs.getD i Value.none).toArray e)->
   (∀ b o,h1.get? b=some o->h2.get? b=some o)->Q (.ref h1.objs.size) { s with heap:=h2,toks:=tk }) :
  wpAny (model prog w) A (call (.builtin "sorted") [.ref p]) Q E s:=by
 refine Calls.call_function_entry kind_sorted plain_sorted entry_sorted (args_sorted1 _) ?_;unfold Builtin.«sorted»;refine wpAny_bind (m:=checkCount "sorted" 1 1 _) (wpAny_pure ?_);have hz:vs.length<=sizeLine:=Y16 (YR (by lia));refine wpAny_bind (collect_list hL ?_ hz);generalize hh':(Heap.update _ _ _)=h';have hk':∀ b o,s.heap.get? b=some o->h'.get? b=some o:=fun b o e=>by
  rw[<-hh'];exact (Y1h _ _ (Y55 (Y09 e))).trans (Y03 _ e)
 refine wpAny_bind (wpAny_newList ?_ hz);have hD:(h'.push (seqObj "list" vs.toArray 0)).get? h'.objs.size=some (seqObj "list" vs.toArray 0):=Y0b _ rfl;have old:∀ out b o,h'.get? b=some o->(sortedHeap (h'.push (seqObj "list" vs.toArray 0)) h'.objs.size vs out).get? b=some o:=fun out b o q1=>by
  have q2:=Y09 q1;rw[sortedHeap_old (Y0j q2) (by rw[Y21];exact Y1f q2)];exact Y03 _ q1
 have mid:∀ b o,s.heap.get? b=some o->(Yu (h'.push (seqObj "list" vs.toArray 0)) h'.objs.size vs).get? b=some o:=fun b o q1=>by
  have q2:=hk' b o q1;exact Z6z (Y0j (Y09 q2)) (Y03 _ q2)
 rcases Y0q vs.length 2 with c|c
 ·refine wpAny_bind (wpAny_holding (wpAny_call_entry slot_list_sort ⟨_,Y0b _ rfl,rfl⟩ entry_list_sort (Z6g hD c ⟨_,rfl,?_⟩) (args_list_sort _)));obtain⟨e,he⟩:=sortedHeap_at (out:=vs.toArray) (n:=0) hD;have eπ:((Y02 vs.length).map fun i=>vs.getD i Value.none)=vs:=by
   refine Y2u fun i=>?_
   by_cases hi:i<vs.length
   ·simp[hi,Y04]
   ·simp[hi]
  refine wpAny_pure ⟨_,rfl,h h' _ s.toks e (Y02 vs.length) (List.Perm.refl _) ?_ hk' (by rw[eπ];exact he) (old _)⟩;refine Y39.mpr fun i j hi hj hij=>?_;rw[Y0v]at hi hj;lia
 ·refine wpAny_bind (wpAny_holding (wpAny_call_entry slot_list_sort ⟨_,Y0b _ rfl,rfl⟩ entry_list_sort (Z7n key κ hD c h64 (fun E' R tk hR=>hk c _ E' R _ ?_ mid hR) (fun i j C tk hi hj hC=>hc c _ i j C _ ?_ mid hi hj hC) (fun π tk p1 p2=>⟨_,rfl,?_⟩)) (args_list_sort _)))
  ·simp;lia
  ·simp;lia
  ·obtain⟨e,he⟩:=sortedHeap_at (out:=(π.map fun i=>vs.getD i Value.none).toArray) (n:=0) hD;exact wpAny_pure ⟨_,rfl,h h' _ tk e π p1 p2 hk' he (old _)⟩
section
variable {X:Cx}
theorem Z55:∀ {as:List Addr} {us:List Value},ZN (as.map V.ref) us->us=as.map Value.ref
 | [],_,h=>by cases h;rfl
 | a::as,_,h=>by
  cases h with
  | cons r t=>
   cases (show _=Value.ref a from r);rw[Z55 t];rfl
theorem Z7i (as:List Addr):ZN (as.map V.ref) (as.map Value.ref):=by
 induction as with
 | nil=>exact .nil
 | cons a as ih=>exact .cons rfl ih
end
def Tj (op:CmpOp)(A:Around)(s:Shared)(y x:Value)(b:Bool):Prop:=
 ∀ (prog:Program) (w:World) (E:Value->Shared->Prop) (Q:Value->Shared->Prop),Q (.bool b) s->wpAny (model prog w) A (richCompare op y x) Q E s
theorem Z4c (A:Around)(s:Shared)(a b:Int)(t u:Tok):Tj .Lt A s (.int a t) (.int b u) (decide (a<b)):=fun prog w E Q h=>
 richCompare_gives (op:=.Lt) (typeIs_int s _ t) (typeIs_int s _ u) PySem.F.slot_int_lt PySem.F.entry_int_lt (PySem.F.args_int_lt_2 _ _) (gives_int_lt _ _ t u) (fun x=>nomatch x) h
theorem Z2R {h:Heap}:∀ {vs:List Value} {xs:List PyData} {as:List Addr},ReadsAll h vs xs as->vs.length=xs.length
 | _,_,_,.nil=>rfl
 | _,_,_,.cons _ t=>by rw[Y0w,Y0w,Z2R t]
theorem UT {h:Heap}:∀ {vs:List Value} {xs:List PyData} {as:List Addr},ReadsAll h vs xs as->∀ (j:Nat) (h1:j<vs.length),∃ x bs,xs[j]?=some x/\Reads h vs[j] x bs
 | _,_,_,.nil,j,h1=>absurd h1 (Y1y _)
 | _,_,_,.cons r t,0,h1=>⟨_,_,rfl,r⟩
 | _,_,_,.cons r t,j+1,h1=>by
  obtain⟨x,bs,e,q⟩:=UT t j (Nat.lt_of_succ_lt_succ h1);exact⟨x,bs,by simpa using e,by simpa using q⟩
theorem Z4O:∀ r:List Nat,PyData.depthAll (nd r)<=1
 | []=>Y12 _
 | a::r=>by
  show max (PyData.depth (.int _)) (PyData.depthAll (nd r))<=1;exact Nat.max_le.mpr ⟨by simp[PyData.depth],Z4O r⟩
theorem Zfs (r:List Nat):(PyData.tuple (nd r)).depth<=10:=by
 show PyData.depthAll (nd r)+1<=10;have:=Z4O r;lia
section
variable {prog:Program}{w:World}{A:Around}{R:Result->Shared->Prop}{I:Addr}{fp wr:List Addr}{n:Nat}{P:Nat->Value->Prop}{St:Nat->Heap->Prop}{h0:Heap}
end
section
variable {prog:Program}{w:World}{A:Around}{E:Value->Shared->Prop}{s:Shared}
end
section
variable {X:Cx}
end
theorem Z82 (l b:Addr)(xs ys:Array Value)(n n2:Nat)(dd dd2:Option Addr)(sl sl2:Array (Option Value))(k:Nat)(c:Bool) :
  Meets (Builtin.«tuple.__lt__» ⟨[.ref l,.ref b],[]⟩)
   (fun A R s=>s.heap.get? l=some { cls:=.type "tuple",dict:=dd,data:=.seq xs n,slots:=sl }/\s.heap.get? b=some { cls:=.type "tuple",dict:=dd2,data:=.seq ys n2,slots:=sl2 }/\
    k<=min xs.size ys.size/\(∀ j (h1:j<xs.size) (h2:j<ys.size),j<k->SeqAt.EqAt A.in1 s xs[j] ys[j] true)/\
    (∀ (h1:k<xs.size) (h2:k<ys.size),SeqAt.EqAt A.in1 s xs[k] ys[k] false/\Tj .Lt A.in1 s xs[k] ys[k] c)/\(k=min xs.size ys.size->c=decide (xs.size<ys.size))/\
    R (.ok (.ret (.bool c))) s):=
 .of_wp fun prog w A R s h=>by
  obtain⟨hp,g,d,tk,os⟩:=s;obtain⟨hl,hb,hle,he,hk,hc,hR⟩:=h;have f2:=AutoSeq1.sub_tuple_tuple;have hZ:(xs.toList.zip ys.toList).length=min xs.size ys.size:=by simp
  wp_walk using wpAny_loadPart' hl,wpAny_loadPart' hb,wpAny_forIn_list _ (fun rest b s'=>b.1=none/\s'=⟨hp,g,d,tk,os⟩/\∃ i,i<=k/\rest=(xs.toList.zip ys.toList).drop i) _
  case turn=>
   rintro ⟨y,x⟩ rest b s' ⟨hb',rfl,i,hik,hz⟩;have hlt:i<(xs.toList.zip ys.toList).length:=by
    rcases Y0q i (xs.toList.zip ys.toList).length with h'|h'
    ·exact h'
    ·rw[List.drop_of_length_le h']at hz;cases hz
   have h1:i<xs.size:=(by lia);have h2:i<ys.size:=(by lia);rw[Y3a hlt]at hz;injection hz with hyx hrest
   have hy:y=xs[i]:=by have:=congrArg Prod.fst hyx;simpa using this
   have hx:x=ys[i]:=by have:=congrArg Prod.snd hyx;simpa using this
   subst hy hx;rcases Y0q i k with hlk|hge
   ·refine wpAny_bind (he i h1 h2 hlk prog w _ _ ?_)
    wp_walk
    exact⟨rfl,rfl,i+1,hlk,hrest⟩
   ·have e:i=k:=(by lia);subst e;obtain⟨q1,q2⟩:=hk h1 h2;refine wpAny_bind (q1 prog w _ _ ?_);rw[if_pos (show (!false)=true from rfl)];dsimp only;refine wpAny_bind (wpAny_rule ?_);refine wpAny_bind (q2 prog w _ _ ?_);refine wpAny_bind (wpAny_pure ?_);refine wpAny_pure ?_;exact wpAny_pure ⟨_,rfl,hR⟩
  case fin=>
   rintro ⟨b1,b2⟩ s' ⟨hb',rfl,i,hik,hz⟩;simp only at hb';subst hb';have hge:min xs.size ys.size<=i:=by
    rcases Y0q i (xs.toList.zip ys.toList).length with h'|h'
    ·rw[Y3a h']at hz;cases hz
    ·exact hZ ▸ h'
   have ec:=hc (by lia);subst ec
   wp_walk
   exact⟨_,rfl,by simpa [Builtin.Tuple.tupleCompareSizes] using hR⟩
  case h=>
   exact⟨rfl,rfl,0,Y12 _,rfl⟩
theorem Z7S {A:Around}{s:Shared}{a b:Value}{xs ys:List PyData}{as bs:List Addr}(k:Nat)(c:Bool)(ra:Reads s.heap a (.tuple xs) as)(rb:Reads s.heap b (.tuple ys) bs)(hk:k<=min xs.length ys.length)(hu:A.units<cLine)
  (he:∀ j x y v w as bs,j<k->xs[j]?=some x->ys[j]?=some y->Reads s.heap v x as->Reads s.heap w y bs->SeqAt.EqAt A.in1 s v w true)
  (hd:∀ x y v w as bs,xs[k]?=some x->ys[k]?=some y->Reads s.heap v x as->Reads s.heap w y bs->SeqAt.EqAt A.in1 s v w false/\Tj .Lt A.in1 s v w c)
  (hc:k=min xs.length ys.length->c=decide (xs.length<ys.length)):Tj .Lt A s a b c:=by
 intro prog w E Q h;cases ra with
 | tuple h1 h2 h3 h4=>
  cases rb with
  | tuple k1 k2 k3 k4=>
   rename_i l o vs n l' o' ws n';obtain⟨cls,dd,data,sl⟩:=o;obtain⟨cls',dd',data',sl'⟩:=o';simp only at h2 h3 k2 k3;subst h2 h3 k2 k3;have e1:=Z2R h4;have e2:=Z2R k4;have e1':vs.size=xs.length:=(by rw[<-e1];simp);have e2':ws.size=ys.length:=(by rw[<-e2];simp);refine richCompare_meets_room (op:=.Lt) ⟨_,h1,rfl⟩ ⟨_,k1,rfl⟩ PySem.F.slot_tuple_lt PySem.F.entry_tuple_lt (PySem.F.args_tuple_lt_2 _ _) (Z82 l l' vs ws n n' dd dd' sl sl' k c) ⟨h1,k1,by lia,fun j j1 j2 hj=>?_,fun j1 j2=>?_,fun e=>by rw[hc (by lia),e1',e2'],show Value.bool c≠Value.notImplemented/\Q (.bool c) s from ⟨(fun x=>nomatch x),h⟩⟩ hu
   ·obtain⟨x,xa,ex,rx⟩:=UT h4 j (by simpa using j1);obtain⟨y,ya,ey,ry⟩:=UT k4 j (by simpa using j2);exact he j x y _ _ _ _ hj ex ey (by simpa using rx) (by simpa using ry)
   ·obtain⟨x,xa,ex,rx⟩:=UT h4 k (by simpa using j1);obtain⟨y,ya,ey,ry⟩:=UT k4 k (by simpa using j2);exact hd x y _ _ _ _ ex ey (by simpa using rx) (by simpa using ry)
noncomputable def YX (r:List Nat):List Int:=r.map fun (x:Nat)=>(x:Int)
theorem Z5T:∀ r q:List Nat,∃ k,k<=min r.length q.length/\(∀ j,j<k->r[j]?=q[j]?)/\(∀ a b,r[k]?=some a->q[k]?=some b->a≠b/\HT.lexLt (YX r) (YX q)=decide (a<b))/\(k=min r.length q.length->HT.lexLt (YX r) (YX q)=decide (r.length<q.length))
 | [],q=>⟨0,Y12 _,fun j h=>absurd h (Y1y _),fun a b h=>by simp at h,fun _=>by
   cases q with
   | nil=>rfl
   | cons b q=>show true=_;simp⟩
 | a::r,[]=>⟨0,Y12 _,fun j h=>absurd h (Y1y _),fun a b _ h=>by simp at h,fun _=>by show false=_;simp⟩
 | a::r,b::q=>by
  have el:HT.lexLt (YX (a::r)) (YX (b::q))=if (a:Int)=(b:Int) then HT.lexLt (YX r) (YX q) else decide ((a:Int)<(b:Int)):=HT.lexLt_cons ..
  by_cases c:a=b
  ·obtain⟨k,h1,h2,h3,h4⟩:=Z5T r q;rw[if_pos (by lia)]at el;refine⟨k+1,by simp only[Y0w];lia,fun j hj=>?_,fun x y hx hy=>?_,fun hk=>?_⟩
   ·cases j with
    | zero=>simp[c]
    | succ j=>simpa using h2 j (by lia)
   ·rw[el];exact h3 x y (by simpa using hx) (by simpa using hy)
   ·rw[el,h4 (by simp only[Y0w]at hk;lia)];exact decide_eq_decide.mpr ⟨fun h=>by simp only[Y0w];lia,fun h=>by simp only[Y0w]at h;lia⟩
  ·rw[if_neg (by lia)]at el;refine⟨0,Y12 _,fun j hj=>absurd hj (Y1y _),fun x y hx hy=>?_,fun hk=>by simp only[Y0w]at hk;lia⟩;cases hx;cases hy;exact⟨c,by rw[el];exact decide_eq_decide.mpr ⟨fun h=>by lia,fun h=>by lia⟩⟩
theorem Z9s {A:Around}{s:Shared}{a b:Value}{r q:List Nat}{as bs:List Addr}(ra:Reads s.heap a (.tuple (nd r)) as)(rb:Reads s.heap b (.tuple (nd q)) bs)(hu:A.units<cLine):Tj .Lt A s a b (HT.lexLt (YX r) (YX q)):=by
 obtain⟨k,hk,heq,hne,hall⟩:=Z5T r q;refine Z7S k _ ra rb (by simpa [nd] using hk) hu (fun j x y v w as bs hj hx hy rx ry=>?_) (fun x y v w as bs hx hy rx ry=>?_) (fun e=>by rw[hall (by simpa [nd] using e)];simp[nd])
 ·have:=heq j hj;simp only[nd,Y0l]at hx hy;rw[this]at hx;rw[hx]at hy;cases hy;obtain⟨m,_,rfl⟩:=Option.map_eq_some_iff.mp hx;cases rx with
  | int _ t=>
   cases ry with
   | int _ t'=>
    have:=SeqAt.EqAt.int_int (A:=A.in1) (s:=s) (m:Int) t (m:Int) t'
    simpa using this
 ·simp only[nd,Y0l]at hx hy;obtain⟨m,hm,rfl⟩:=Option.map_eq_some_iff.mp hx;obtain⟨m',hm',rfl⟩:=Option.map_eq_some_iff.mp hy;obtain⟨q1,q2⟩:=hne m m' hm hm';cases rx with
  | int _ t=>
   cases ry with
   | int _ t'=>
    refine⟨?_,?_⟩
    ·have:=SeqAt.EqAt.int_int (A:=A.in1) (s:=s) (m:Int) t (m':Int) t';have e:((m:Int)==(m':Int))=false:=by simpa using fun h:(m:Int)=m'=>q1 (by lia)
     rwa [e]at this
    ·have:=Z4c A.in1 s m m' t t';have e:decide ((m:Int)<(m':Int))=HT.lexLt (YX r) (YX q):=by rw[q2];exact decide_eq_decide.mpr ⟨fun h=>by lia,fun h=>by lia⟩
     rwa [e]at this
noncomputable def bd (a b:Nat)(c:List Nat):PyData:=.tuple [.int a,.int b,.tuple (nd c)]
noncomputable def XG (a b:Nat)(c:List Nat):List Int:=YX (a::b::c)
theorem ZeY (a b a' b':Nat)(c c':List Nat):HT.lexLt (XG a b c) (XG a' b' c')=if a=a' then (if b=b' then HT.lexLt (YX c) (YX c') else decide (b<b')) else decide (a<a'):=by
 show HT.lexLt ((a:Int)::(b:Int)::YX c) ((a':Int)::(b':Int)::YX c')=_;rw[HT.lexLt_cons,HT.lexLt_cons]
 by_cases e:a=a'
 ·rw[if_pos e,if_pos (by lia)]
  by_cases f:b=b'
  ·rw[if_pos f,if_pos (by lia)]
  ·rw[if_neg f,if_neg (by lia)];exact decide_eq_decide.mpr ⟨fun h=>by lia,fun h=>by lia⟩
 ·rw[if_neg e,if_neg (by lia)];exact decide_eq_decide.mpr ⟨fun h=>by lia,fun h=>by lia⟩
theorem Z6n {h:Heap}{x:Value}{a b:Nat}{c:List Nat}{as:List Addr}(r:Reads h x (bd a b c) as):∃ (p:Addr) (o:Obj) (vs:Array Value) (n:Nat) (t t':Tok) (v:Value) (bs:List Addr),x=.ref p/\h.get? p=some o/\o.cls=.type "tuple"/\o.data=.seq vs n/\vs.toList=[.int a t,.int b t',v]/\Reads h v (.tuple (nd c)) bs:=by
 cases r with
 | tuple h1 h2 h3 h4=>
  rename_i p o vs n;generalize hv:vs.toList=L at h4;cases h4 with
  | cons r1 t1=>
   cases t1 with
   | cons r2 t2=>
    cases t2 with
    | cons r3 t3=>
     cases t3;cases r1 with
     | int _ t=>
      cases r2 with
      | int _ t'=>exact⟨p,o,vs,n,t,t',_,_,rfl,h1,h2,h3,hv,r3⟩
theorem Zcp {prog:Program}{w:World}{A:Around}{E:Value->Shared->Prop}{s:Shared}{x y:Value}{a b a' b':Nat}{c c':List Nat}{as bs:List Addr}{Q:Bool->Shared->Prop}(rx:Reads s.heap x (bd a b c) as)(ry:Reads s.heap y (bd a' b' c') bs)(hu:A.units+4<cLine)
  (h:Q (HT.lexLt (XG a b c) (XG a' b' c')) s):wpAny (model prog w) A (keyLt' (tuples' true) x y) Q E s:=by
 obtain⟨p,o,vs,n,t1,t2,v,_,rfl,g1,_,g3,gv,r3⟩:=Z6n rx;obtain⟨p',o',ws,n',t1',t2',v',_,rfl,k1,_,k3,kv,q3⟩:=Z6n ry;refine kat_lt g1 g3 k1 k3 ?_;have e1:vs.size=3:=by rw[<-Y32,gv];rfl
 have e2:ws.size=3:=by rw[<-Y32,kv];rfl
 rw[gv,kv,e1,e2];rw[ZeY]at h;refine kat_cons (SeqAt.EqAt.int_int (A:=A) (s:=s) (a:Int) t1 (a':Int) t1' prog w _ _ (kat_go (fun e=>kat_yes ?_) (fun e=>kat_no ?_)))
 ·have ea:a=a':=by have:=eq_of_beq e;lia
  rw[if_pos ea]at h;refine kat_cons (SeqAt.EqAt.int_int (A:=A) (s:=s) (b:Int) t2 (b':Int) t2' prog w _ _ (kat_go (fun e=>kat_yes ?_) (fun e=>kat_no ?_)))
  ·have eb:b=b':=(by have:=eq_of_beq e;lia);rw[if_pos eb]at h;have eq2:PyData.eqv (.tuple (nd c)) (.tuple (nd c'))=decide (c=c'):=Ze9 c c';have deep:=Zfs c;have d1:(PyData.tuple (nd c)).depth<=3:=by
    show PyData.depthAll (nd c)+1<=3;have:=Z4O c;lia
   have:=SeqAt.eqAt_reads (.tuple (nd c)) (.tuple (nd c')) A s v v' _ _ r3 q3 (Zah c) (Zah c') (by lia);rw[eq2]at this;refine kat_cons (this prog w _ _ (kat_go (fun e=>kat_yes (kat_nil ?_)) (fun e=>kat_no ?_)))
   ·have ec:c=c':=of_decide_eq_true e;rw[ec,Uj]at h;exact h
   ·show wpAny (model prog w) A (oneLt' false v v') Q _ s;exact kat_one v v' (Z9s r3 q3 (by lia) prog w _ _ h)
  ·have eb:¬ b=b':=fun z=>by rw[z]at e;simp at e
   rw[if_neg eb]at h;show wpAny (model prog w) A (oneLt' false _ _) Q _ s;refine kat_one _ _ (Z4c A s b b' t2 t2' prog w _ _ ?_);have ed:decide ((b:Int)<(b':Int))=decide (b<b'):=decide_eq_decide.mpr ⟨fun h=>by lia,fun h=>by lia⟩;rw[ed];exact h
 ·have ea:¬ a=a':=fun z=>by rw[z]at e;simp at e
  rw[if_neg ea]at h;show wpAny (model prog w) A (oneLt' true _ _) Q _ s;refine oneLt_int ?_;have ed:decide ((a:Int)<(a':Int))=decide (a<a'):=decide_eq_decide.mpr ⟨fun h=>by lia,fun h=>by lia⟩;rw[ed];exact h
def Xc (H:Hp)(x:Addr)(a b:Nat)(c:List Nat):Prop:=∃ t,H x=some (.tup [.int (a:Int),.int (b:Int),.ref t])/\H t=some (.tup (nv c))
theorem Xc.dt {K:Y00}{H:Hp}{x:Addr}{a b:Nat}{c:List Nat}(h:Xc H x a b c):Dt K H (.ref x) (bd a b c):=by
 obtain⟨t,h1,h2⟩:=h;exact .tup (SqT.of h1) (.cons (.int _) (.cons (.int _) (.cons (.tup (SqT.of h2) (Zeo c)) .nil)))
section
variable {X:Cx}
def Z96 (K:Y00):List V->Hp->VK->Prop:=fun xs H Q=>∃ (p:Addr) (as:List Addr) (A B:Nat->Nat) (C:Nat->List Nat),xs=[.ref p]/\SqL K H p (as.map V.ref)/\as.length<64/\
 (∀ i,i<as.length->Xc H (as.getD i 0) (A i) (B i) (C i))/\
 ∀ (l:Addr) (π:List Nat),H l=none->π.Perm (Y02 as.length)->π.Pairwise (fun i j=>HT.lexLt (XG (A j) (B j) (C j)) (XG (A i) (B i) (C i))=false)->Q (.ref l) (upd H l (.lst ((π.map fun i=>as.getD i 0).map V.ref)))
theorem Z60 {h:Heap}:∀ {as:List Addr} (F:Nat->Value),(∀ i,i<as.length->∃ (o:Obj) (xs:Array Value) (n:Nat),h.get? (as.getD i 0)=some o/\o.cls=.type "tuple"/\o.data=.seq xs n/\xs[0]?=some (F i))->KatTups h (as.map Value.ref) ((Y02 as.length).map F)
 | [],_,_=>KatTups.nil
 | a::as,F,g=>by
  obtain⟨o,xs,n,h1,h2,h3,h4⟩:=g 0 (by simp);have ih:=Z60 (as:=as) (fun i=>F (i+1)) fun i hi=>by simpa using g (i+1) (by simpa using hi)
  rw[Y0w,List.range_succ_eq_map,Y11,Y11,Y1n];exact KatTups.cons (by simpa using h1) h2 h3 h4 ih
theorem Z6V (hc:X.calm=true)(hu:X.A.units+10<cLine):YW X (.builtin "sorted") (Z96 X.K):=by
 intro pins s σ H xs us Q I rr h;obtain⟨p,as,A,B,C,rfl,hq,h64,hB,q⟩:=h;obtain⟨u,rfl,ru⟩:=YE rr;obtain rfl:u=Value.ref p:=ru;obtain⟨its,rv,pl,hz⟩:=I.list hq;have ei:=Z55 rv;subst ei;have hlen:(as.map Value.ref).length=as.length:=Y07 ..;have hget:∀ i,i<as.length->(as.map Value.ref).getD i Value.none=.ref (as.getD i 0):=fun i hi=>by
  simp[Y04,hi]
 let lt:Nat->Nat->Bool:=fun i j=>HT.lexLt (XG (A i) (B i) (C i)) (XG (A j) (B j) (C j))
 have hkl:∀ i j,i<as.length->j<as.length->kl (S2 lt as.length) i j=lt i j:=fun i j hi hj=>Zc7 (lt:=lt) (fun i=>Uj _) (fun i j k h1 h2=>Se (b:=XG (A j) (B j) (C j)) h1 h2) (fun i j k h=>ZdT (b:=XG (A j) (B j) (C j)) h) hi hj;have hrd:∀ i,i<as.length->∃ ps,Reads s.heap (.ref (as.getD i 0)) (bd (A i) (B i) (C i)) ps:=fun i hi=>Dt.reads I (hB i hi).dt rfl;have hfst:∀ i,∃ v:Value,i<as.length->∃ (t:Tok) (o:Obj) (xs:Array Value) (n:Nat),v=.int (A i) t/\s.heap.get? (as.getD i 0)=some o/\o.cls=.type "tuple"/\o.data=.seq xs n/\xs[0]?=some v:=fun i=>by
  by_cases hi:i<as.length
  ·obtain⟨ps,r⟩:=hrd i hi;obtain⟨p',o,vs,n,t,t',v,_,e,g1,g2,g3,gv,_⟩:=Z6n r;injection e with e
   subst e;exact⟨.int (A i) t,fun _=>⟨t,o,vs,n,rfl,g1,g2,g3,by rw[<-Y4j,gv];rfl⟩⟩
  ·exact⟨.none,fun z=>absurd z hi⟩
 refine Z3d (S2 lt as.length) (tuples' true) pl.isList (by rw[hlen];exact h64) (I.ok.hd hc) hu (fun c A' E' R s' _ hs hR=>?_) (fun c A' i j C' s' hu' hs hi hj hC=>?_) (fun h1 h2 tk e π p1 p2 hk he hk2=>?_)
 ·let F:Nat->Value:=fun i=>Classical.choose (hfst i)
  have hF:∀ i,i<as.length->∃ (t:Tok) (o:Obj) (xs:Array Value) (n:Nat),F i=.int (A i) t/\s.heap.get? (as.getD i 0)=some o/\o.cls=.type "tuple"/\o.data=.seq xs n/\xs[0]?=some (F i):=fun i hi=>Classical.choose_spec (hfst i) hi;refine kat_kind (T:=.type "int") (Z60 F fun i hi=>?_) (by simp;rw[hlen]at c;lia) (fun v hv=>?_) rfl (hR s'.toks)
  ·obtain⟨t,o,xs,n,_,g1,g2,g3,g4⟩:=hF i hi;exact⟨o,xs,n,hs _ _ g1,g2,g3,g4⟩
  ·obtain⟨i,hi,rfl⟩:=Y0g.mp hv;obtain⟨t,_,_,_,e,_⟩:=hF i (Y06.mp hi);rw[e];exact fun A'' Q'' E'' s'' hs'' q''=>wpAny_pure q''
 ·rw[hlen]at hi hj;unfold kas_ask;rw[hget i hi,hget j hj];obtain⟨pa,ra⟩:=hrd i hi;obtain⟨pb,rb⟩:=hrd j hj;have hC:=hC s'.toks;rw[hkl i j hi hj]at hC;exact Zcp (Reads.keeps hs ra) (Reads.keeps hs rb) (by lia) hC
 ·rw[hlen]at p1;have I1:Inv X pins σ H { s with heap:=h1,toks:=tk }:=I.kept hk;have hl:(π.map fun i=>as.getD i 0).length<64:=by rw[Y07,p1.length_eq,Y0v];exact h64
  have hv:(π.map fun i=>(as.map Value.ref).getD i Value.none)=(π.map fun i=>as.getD i 0).map Value.ref:=by
   rw[Y1n];refine Y1x fun i hi=>?_;exact hget i (Y06.mp (p1.mem_iff.mp hi))
  rw[hv]at he;refine⟨.ref h1.objs.size,_,I1.laid (a:=h1.objs.size) (o:=.lst ((π.map fun i=>as.getD i 0).map V.ref)) (h':=h2) (t':=tk) hk2 (Y05 _) ⟨?_,_,e,Z7i _,he⟩,rfl,q _ π (I1.hok.fresh (Y05 _)) p1 ?_⟩
  ·rw[Y07];exact Y16 (YR (by lia))
  ·refine p2.imp_of_mem fun {i j} hi hj hij=>?_;have hi:=Y06.mp (p1.mem_iff.mp hi);have hj:=Y06.mp (p1.mem_iff.mp hj);have:=hkl j i hj hi;show lt j i=false;rw[<-this];exact decide_eq_false (by lia)
end
end L2
namespace Sq
theorem Zkx {n:Nat}{u S:List Nat}(ru:Row n u)(lt:∀ x∈S,x<n)(e:Nat->Bool)(h:S.any e=true):∃ w,1<=w/\w<=n/\(S.map fun x=>it u x w).any e=true:=by
 obtain⟨x,hx,ex⟩:=Y1e.mp h;have hxn:=lt x hx;have hp:=XJ ru hxn;refine⟨per n u x,?_,?_,?_⟩
 ·unfold per;omega
 ·have:=(YM ru hxn).len ru hxn
  rwa [X5]at this
 ·rw[Y1e];exact⟨_,Y0g.mpr ⟨x,hx,rfl⟩,by rw[hp.1];exact ex⟩
end Sq
namespace Sq
noncomputable def Zx (E S:List Nat):Bool:=S.any fun x=>decide (x∈E)
noncomputable def ups (u S:List Nat)(w:Nat):List Nat:=S.map fun x=>it u x w
noncomputable def Wj (E S W:List Nat)(t:Nat):Bool:=(Y02 S.length).any fun k=>decide (nx S k∈E)&&decide (nx W ((k+t)%S.length)∈E)
noncomputable def wid (n:Nat)(u E S:List Nat):Nat:=((Y02 n).find? fun k=>Zx E (ups u S (k+1))).getD 0+1
noncomputable def WE (E S W:List Nat):List Nat:=(Y02 S.length).filter (Wj E S W)
noncomputable def ZbJ (n:Nat)(u E S:List Nat):Nat×Nat×List Nat:=(S.length,wid n u E S,WE E S (ups u S (wid n u E S)))
noncomputable def XN (n:Nat)(r u E:List Nat):List (Nat×Nat×List Nat):=((Za n r).filter (Zx E)).map (ZbJ n u E)
theorem Zcb (u S:List Nat):ups u S 0=S:=by
 show S.map (fun x=>x)=S;simp
theorem Z94 (u S:List Nat)(w:Nat):ups u S (w+1)=(ups u S w).map (nx u):=by
 show S.map (fun x=>nx u (it u x w))=(S.map fun x=>it u x w).map (nx u);rw[Y1n];rfl
theorem Zfv (u S:List Nat):ups u S 1=S.map (nx u):=by rw[Z94,Zcb]
theorem Wh (u S:List Nat)(w:Nat):(ups u S w).length=S.length:=by simp[ups]
theorem Zhm {n:Nat}{u S:List Nat}(ru:Row n u)(lt:∀ x∈S,x<n)(w:Nat):∀ y∈ups u S w,y<n:=fun y hy=>by
 obtain⟨x,hx,rfl⟩:=Y0g.mp hy;exact Zk ru (lt x hx) w
theorem V6 {n:Nat}{u S E:List Nat}(ru:Row n u)(lt:∀ x∈S,x<n)(h:Zx E S=true) :
  Zx E (ups u S (wid n u E S))=true/\(∀ i,1<=i->i<wid n u E S->Zx E (ups u S i)=false)/\1<=wid n u E S/\wid n u E S<=n:=by
 obtain⟨w,h1,h2,h3⟩:=Zkx ru lt (fun x=>decide (x∈E)) h;have hs:((Y02 n).find? fun k=>Zx E (ups u S (k+1))).isSome=true:=by
  rw[List.find?_isSome];exact⟨w-1,Y06.mpr (by lia),by rw[show w-1+1=w from by lia];exact h3⟩
 obtain⟨k,hk⟩:=Option.isSome_iff_exists.mp hs;have e:wid n u E S=k+1:=by unfold wid;rw[hk];rfl
 have hp:=List.find?_some hk;have hm:=Y06.mp (Y5j hk);refine⟨by rw[e];exact hp,fun i hi hlt=>?_,by lia,by lia⟩;rw[e]at hlt;rw[List.find?_range_eq_some]at hk;have:=hk.2.2 (i-1) (by lia);rw[show i-1+1=i from by lia]at this;cases c:Zx E (ups u S i) with
 | false=>rfl
 | true=>rw[c]at this;simp at this
theorem Rv {n:Nat}{r u S E:List Nat}(rr:Row n r)(ru:Row n u)(lt:∀ x∈S,x<n)(cl:∀ x∈S,nx r x∈S)
  (un:∀ k,k<n->k∉E->nx u (nx r (nx (back u) (nx (back r) k)))=k) {w:Nat} (hw:∀ i,1<=i->i<w->Zx E (ups u S i)=false) :
  ∀ j,j<w->∀ t x,x∈S->it u (it r x t) j=it r (it u x j) t
 | 0,_,_,_,_=>rfl
 | j+1,hj,0,x,hx=>rfl
 | j+1,hj,t+1,x,hx=>by
  have cls:∀ t,it r x t∈S:=fun t=>by
   induction t with
   | zero=>exact hx
   | succ t ih=>exact cl _ ih
  have ih:=Rv rr ru lt cl un hw (j+1) hj t x hx;have ihj:=Rv rr ru lt cl un hw j (by lia) 1 (it r x t) (cls t);have hx':=cls t;have hy:it u (it r x t) j<n:=Zk ru (lt _ hx') j;have e1:it u (it r x (t+1)) (j+1)=nx u (nx r (it u (it r x t) j)):=by
   show nx u (it u (nx r (it r x t)) j)=_;exact congrArg (nx u) ihj
  have hk:nx u (nx r (it u (it r x t) j))<n:=ru.nlt (rr.nlt hy);have hnE:nx u (nx r (it u (it r x t) j))∉E:=fun hE=>by
   have:=hw (j+1) (by lia) hj;have:Zx E (ups u S (j+1))=true:=by
    unfold Zx;rw[Y1e];exact⟨_,Y0g.mpr ⟨_,cls (t+1),e1⟩,decide_eq_true hE⟩
   simp_all
  have hu:=un _ hk hnE;have b1:=rr.back.nlt hk;have b2:=ru.back.nlt b1;have e2:=rr.inj b2 hy (ru.inj (rr.nlt b2) (rr.nlt hy) hu);have e3:nx (back r) (nx u (nx r (it u (it r x t) j)))=nx u (it u (it r x t) j):=by
   have:=congrArg (nx u) e2
   rwa [WU ru b1]at this
  have e4:nx u (nx r (it u (it r x t) j))=nx r (nx u (it u (it r x t) j)):=by
   have:=congrArg (nx r) e3
   rwa [WU rr hk]at this
  rw[e1,e4];exact congrArg (nx r) ih
end Sq
namespace Sq
noncomputable def rds (n:Nat)(w:List Nat)(i:Nat):List (List Nat):=((Y02 i).filter (Zl n w)).map (cyc n w)
theorem Z7a {n:Nat}{w:List Nat}(i:Nat):(rds n w i).length<=i:=by
 unfold rds;rw[Y07];have:=Y20 (Zl n w) (Y02 i)
 rwa [Y0v]at this
theorem SX {n:Nat}{w M:List Nat}(h:M∈Za n w):∃ x,x<n/\Zl n w x=true/\M=cyc n w x:=by
 obtain⟨l,hl,rfl⟩:=Y0g.mp h;obtain⟨h1,h2⟩:=Y0p.mp hl;exact⟨l,Y06.mp h1,h2,rfl⟩
end Sq
namespace K1
open PySem L2 Sq
noncomputable abbrev Bd:Type:=Nat×Nat×List Nat
noncomputable def bk (b:Bd):List Int:=XG b.1 b.2.1 b.2.2
theorem Z6w:∀ {a b:List Nat},YX a=YX b->a=b
 | [],[],_=>rfl
 | [],_::_,h=>by cases h
 | _::_,[],h=>by cases h
 | x::a,y::b,h=>by
  have h':(x:Int)::YX a=(y:Int)::YX b:=h;have h1:=(List.cons.inj h').1;have h2:=Z6w (List.cons.inj h').2;rw[h2,show x=y from by lia]
def Zae (bs:List Bd):Prop:=bs.Pairwise fun x y=>HT.lexLt (bk y) (bk x)=false
def Zm (H:Hp):List Addr->List Bd->Prop
 | [],[]=>True
 | a::as,b::bs=>Xc H a b.1 b.2.1 b.2.2/\Zm H as bs
 | _,_=>False
theorem Zm.len {H:Hp}:∀ {as:List Addr} {bs:List Bd},Zm H as bs->as.length=bs.length
 | [],[],_=>rfl
 | _::as,_::Ms,⟨_,h2⟩=>by simp[Zm.len h2]
 | [],_::_,h=>h.elim
 | _::_,[],h=>h.elim
theorem Zm.get {H:Hp}:∀ {as:List Addr} {bs:List Bd},Zm H as bs->∀ {i:Nat} {a:Addr},as[i]?=some a->∃ b,bs[i]?=some b/\Xc H a b.1 b.2.1 b.2.2
 | [],[],_,i,a,h=>by simp at h
 | b::as,M::Ms,⟨h1,h2⟩,0,a,h=>by simp at h;subst h;exact⟨M,rfl,h1⟩
 | b::as,M::Ms,⟨h1,h2⟩,i+1,a,h=>by
  obtain⟨M',e1,e2⟩:=Zm.get h2 (i:=i) (a:=a) (by simpa using h);exact⟨M',by simpa using e1,e2⟩
 | [],_::_,h,_,_,_=>h.elim
 | _::_,[],h,_,_,_=>h.elim
theorem Zm.snoc {H:Hp}:∀ {as:List Addr} {Ms:List Bd} {a:Addr} {M:Bd},Zm H as Ms->Xc H a M.1 M.2.1 M.2.2->Zm H (as++[a]) (Ms++[M])
 | [],[],_,_,_,h=>⟨h,trivial⟩
 | _::_,_::_,_,_,⟨h1,h2⟩,h=>⟨h1,Zm.snoc h2 h⟩
 | [],_::_,_,_,h,_=>h.elim
 | _::_,[],_,_,h,_=>h.elim
theorem Zm.mono {H H':Hp}(e:∀ b xs,H b=some (.tup xs)->H' b=some (.tup xs)):∀ {as:List Addr} {bs:List Bd},Zm H as bs->Zm H' as bs
 | [],[],_=>trivial
 | _::_,_::_,⟨⟨t,h1,h3⟩,h2⟩=>⟨⟨t,e _ _ h1,e _ _ h3⟩,Zm.mono e h2⟩
 | [],_::_,h=>h.elim
 | _::_,[],h=>h.elim
theorem ZbL {H:Hp}{d:Addr}{o:HO}{ys:List V}(hd:H d=some (.lst ys)):∀ b xs,H b=some (.tup xs)->upd H d o b=some (.tup xs):=fun b xs h=>by
 rw[ZK (fun e=>by rw[e,hd]at h;cases h)];exact h
theorem ZbI {H:Hp}{d:Addr}{o:HO}(hd:H d=none):∀ b xs,H b=some (.tup xs)->upd H d o b=some (.tup xs):=fun b xs h=>by
 rw[ZK (fun e=>by rw[e,hd]at h;cases h)];exact h
theorem Zm.same {H H':Hp}{as:List Addr}{bs:List Bd}(s:Z5 H H')(h:Zm H as bs):Zm H' as bs:=Zm.mono (fun b xs h=>s _ _ h) h
theorem Zm.pick {H:Hp}{as:List Addr}{bs:List Bd}(h:Zm H as bs):∀ π:List Nat,(∀ i∈π,i<as.length)->Zm H (π.map fun i=>as.getD i 0) (π.map fun i=>bs.getD i (0,0,[]))
 | [],_=>trivial
 | i::π,hi=>by
  refine⟨?_,Zm.pick h π fun j hj=>hi j (by simp[hj])⟩;have hlt:=hi i (by simp);have ha:as[i]?=some as[i]:=Y01 hlt;obtain⟨b,hb,hB⟩:=h.get ha;show Xc H (as.getD i 0) (bs.getD i (0,0,[])).1 (bs.getD i (0,0,[])).2.1 (bs.getD i (0,0,[])).2.2;have e1:as.getD i 0=as[i]:=by rw[Y04,ha];rfl
  have e2:bs.getD i (0,0,[])=b:=by rw[Y04,hb];rfl
  rw[e1,e2];exact hB
theorem Z5R {α:Type}(d:α)(l:List α):(Y02 l.length).map (fun i=>l.getD i d)=l:=by
 apply Y2u;intro i
 by_cases h:i<l.length
 ·simp[h]
 ·simp[h,Nat.le_of_not_lt h]
theorem Zcf {K:Y00}{H:Hp}{p:Addr}{as:List Addr}{bs:List Bd}{Q:VK}(hp:H p=some (.lst (as.map V.ref)))(h:Zm H as bs)(hl:as.length<64)
  (k:∀ (l:Addr) (as':List Addr) (bs':List Bd),H l=none->Zm (upd H l (.lst (as'.map V.ref))) as' bs'->bs'.Perm bs->Zae bs'->Q (.ref l) (upd H l (.lst (as'.map V.ref)))):Z96 K [.ref p] H Q:=by
 have hlen:=h.len;refine⟨p,as,fun i=>(bs.getD i (0,0,[])).1,fun i=>(bs.getD i (0,0,[])).2.1,fun i=>(bs.getD i (0,0,[])).2.2,rfl,SqL.of hp,hl,fun i hi=>?_,fun l π hl0 hπ hs=>?_⟩
 ·have:=(h.pick [i] (by simpa using hi)).1;exact this
 ·refine k l _ (π.map fun i=>bs.getD i (0,0,[])) hl0 (Zm.mono (ZbI hl0) (h.pick π fun i hi=>Y06.mp (hπ.mem_iff.mp hi))) ?_ ?_
  ·have:=hπ.map (fun i=>bs.getD i ((0,0,[]):Bd));rw[hlen,Z5R]at this;exact this
  ·exact Y1q.mpr hs
theorem ZeL {K:Y00}{Hc:Hp}{tl te:TE}{tt:TT}{g:TG}{m:Nat}{pull:List Nat}{Q:VK}{σ:St}(Pr:Hp->Addr->Prop)(hj:∀ R:VK,(∀ H1 a,Pr H1 a->R (.ref a) H1)->tl σ Hc R)
  (k:∀ H1 a,Pr H1 a->We (XZ K (fun _ H R=>R (.ref a) H)) m pull g tt te σ H1 Q):We (XZ K tl) m pull g tt te σ Hc Q:=hj _ fun H1 a h=>k H1 a h
theorem Zbv {K:Y00}{Hc:Hp}{a:Addr}{rs:List Addr}{Ms:List (List Nat)}{te:TE}{tt:TT}{pull:List Nat}{Q:VK}{σ:St}{rest:St}(p:List Nat->Bool)(g:List Nat->Bd)
  (hp:Hc a=some (.lst (rv rs))) (hL:Zb Hc rs Ms) (hb:bst 1 pull σ=none::rest)
  (htt:∀ (b:Addr) (M:List Nat) (H:Hp) (R:Bool->Hp->Prop),M∈Ms->Z5 Hc H->H b=some (.lst (nv M))->(∀ H',Z5 H H'->R (p M) H')->tt (some (.ref b)::rest) H R)
  (hte:∀ (b:Addr) (M:List Nat) (H:Hp) (R:VK),M∈Ms->p M=true->Z5 Hc H->H b=some (.lst (nv M))->(∀ (H':Hp) (x:Addr),Z5 H H'->Xc H' x (g M).1 (g M).2.1 (g M).2.2->R (.ref x) H')->te (some (.ref b)::rest) H R)
  (hm:Ms.length<=1000)
  (k:∀ (H':Hp) (d:Addr) (as:List Addr),Z5 Hc H'->Hc d=none->Zm H' as ((Ms.filter p).map g)->H' d=some (.lst (as.map V.ref))->Q (.ref d) H') :
  We (XZ K (fun _ H R=>R (.ref a) H)) 1 pull (Zs 0) tt te σ Hc Q:=by
 have hlen:=hL.len;refine⟨a,rfl,⟨_,SqL.of hp⟩,fun d hd=>?_⟩;rw[hb];refine SV (J:=Itl K a) (Q:=fun d H'=>Q (.ref d) H') rs.length (fun i xs σ H9=>(∃ o,σ=o::rest)/\Z5 Hc H9/\∃ as:List Addr,xs=as.map V.ref/\as.length<=i/\Zm H9 as (((Ms.take i).filter p).map g)) ⟨⟨_,rfl⟩,ZS (Z5.refl _) hd,[],rfl,Y05 _,trivial⟩ ?_ ?_
 ·rintro i xs σ H9 hi ⟨⟨o,rfl⟩,s9,as,rfl,la,hB⟩ hd9;have hq:=SqL.of (K:=K) (s9 _ _ hp);have ha:rs[i]?=some rs[i]:=Y01 hi;generalize rs[i]=b at ha;obtain⟨M,hM,hb9⟩:=hL.get ha;have hmM:=Y0r hM;have hmi:(rv rs)[i]?=some (.ref b):=Sf ha;refine⟨⟨_,_,hq,hmi⟩,fun y H4 ⟨e1,hy⟩=>?_⟩;subst e1;have hy:=hy _ hq;rw[hmi]at hy;cases hy;refine htt b M _ _ hmM s9 (s9 _ _ hb9) fun H5 s5=>?_;have ef:((Ms.take (i+1)).filter p).map g=((Ms.take i).filter p).map g++([M].filter p).map g:=by
   rw[Y1j,hM,Y1t,Y1z];rfl
  cases e:p M with
  | true=>
   have e3:[M].filter p=[M]:=(by simp[e]);rw[if_pos rfl];refine hte b M _ _ hmM e (s9.trans s5) (s5 _ _ (s9 _ _ hb9)) fun H6 x s6 hx=>?_;have hd6:=s6 _ _ (s5 _ _ hd9);refine VZ hi hd6 (by rw[Y07];lia) ⟨⟨_,rfl⟩,ZS ((s9.trans s5).trans s6) hd,as++[x],by simp,by simp;lia,?_⟩;rw[ef,e3];refine Zm.mono (ZbL hd6) (Zm.snoc (hB.same (s5.trans s6)) hx)
  | false=>
   have e3:[M].filter p=[]:=(by simp[e]);rw[if_neg (by decide)];refine RY hi (s5 _ _ hd9) ⟨⟨_,rfl⟩,s9.trans s5,as,rfl,by lia,?_⟩;rw[ef,e3,Y4i,Y1o];exact hB.same s5
 ·rintro xs σ H9 ⟨⟨o,rfl⟩,s9,as,rfl,la,hB⟩ hd9;rw[hlen,Y2n]at hB;exact⟨⟨_,SqL.of (s9 _ _ hp),by rw[Vh];exact Y05 _⟩,k H9 d as s9 hd hB hd9⟩
end K1
namespace K1
open Sq
end K1
namespace K1
open PySem L2 Sq
noncomputable def ZF (r u:List Nat):List Nat:=(Y02 r.length).map fun k=>nx u (nx r (nx (back u) (nx (back r) k)))
theorem Z58 (r u:List Nat):(ZF r u).length=r.length:=by simp[ZF]
theorem Wl {n:Nat}{r u:List Nat}(rr:Row n r){k:Nat}(hk:k<n):nx (ZF r u) k=nx u (nx r (nx (back u) (nx (back r) k))):=by
 have:k<r.length:=by rw[rr.len];exact hk
 simp[nx,ZF,Y3g,this]
theorem UH {n:Nat}{r u:List Nat}(rr:Row n r)(ru:Row n u):Row n (ZF r u):=by
 refine ZdG (by rw[Z58,rr.len]) (fun i hi=>?_) (fun i j hi hj e=>?_)
 ·rw[Wl rr hi];exact ru.nlt (rr.nlt (ru.back.nlt (rr.back.nlt hi)))
 ·rw[Wl rr hi,Wl rr hj]at e;have a:=rr.back.nlt hi;have b:=rr.back.nlt hj;exact rr.back.inj hi hj (ru.back.inj a b (rr.inj (ru.back.nlt a) (ru.back.nlt b) (ru.inj (rr.nlt (ru.back.nlt a)) (rr.nlt (ru.back.nlt b)) e)))
theorem ZbK {n:Nat}{r u:List Nat}(rr:Row n r):(back r).map (fun x=>nx u (nx r (nx (back u) x)))=ZF r u:=by
 refine Y2u fun i=>?_
 by_cases hi:i<n
 ·have h1:=rr.back.get hi;have h2:(ZF r u)[i]?=some (nx (ZF r u) i):=by
   have:i<(ZF r u).length:=(by rw[Z58,rr.len];exact hi);rw[Y01 this];unfold nx;rw[Y04,Y01 this];rfl
  rw[h2,Y0l,h1,Wl rr hi];rfl
 ·have e1:=rr.len;have e2:=rr.back.len;rw[Y18 (by rw[Y07];omega),Y18 (by rw[Z58];omega)]
def Zex:Sp:=fun vs H Q _=>∃ (a:Addr) (n:Nat) (r u:List Nat),vs=[.ref a]/\Zn H a r u/\Row n r/\Row n u/\n<=36/\∀ (H':Hp) (l:Addr),Z5 H H'->H l=none->H' l=some (.lst (nv (ZF r u)))->Q (.ref l) H'
section
variable {P:Program}{w:World}{K:Y00}{mg:Str->Option Value}{base:Heap}
noncomputable abbrev nTr:List Str:=["sheet","left","down"]
theorem Zkr:ZL nTr ["sheet"] (ZV Vy):=⟨rfl,rfl,rfl,by decide +kernel,rfl,by decide +kernel,by decide +kernel⟩
theorem ndTr:(["square","sheet","down"]:List Str).Nodup:=by decide +kernel
theorem ZfO {f fb:Addr}{fd fdb:FuncData}(F:Fn K mg "turn_row" Vy ["sheet"] f fd)(FB:Fn K mg "back_row" WW ["row"] fb fdb)(GB:Z4 P w K mg base CX0 1 fb fdb ["row"] UI) :
  Z4 P w K mg base CX0 5 f fd ["sheet"] Zex:=by
 refine F.F.ok Zkr (fun vs H Q E h=>?_) (fun cdv A outer s H vs Q E hr h=>?_)
 ·obtain⟨a,n,r,u,rfl,_⟩:=h;rfl
 ·obtain⟨a,n,r,u,rfl,⟨p,q,h1,h2,h3⟩,rr,ru,hn,k⟩:=h;have hr1:ZP 1 _:=hr.mono (by decide);refine⟨_,Z3 (ZW (i:=1) Zkr.nd rfl (Or.inl rfl) (ZT GB hr1 rfl FB.m FB.F.kp FB.b .nil ZQ (Z9 (Z2 ZZ (pv 0) Z6 (fun _ _=>rfl)) Z7)))
   (Z3 (ZW (i:=2) Zkr.nd rfl (Or.inr rfl) (ZT GB hr1 rfl FB.m FB.F.kp FB.b .nil ZQ (Z9 (Z2 ZZ (pv 0) Z6 (fun _ _=>rfl)) Z7)))
   (ZY (ZO (Ym (N:=nTr) (names:=(ZV Vy).names) (N':=["square","sheet","down"]) (k:=1) (pull:=[0,2]) (te:=tOp (Y0 K) (tOp (Y0 K) (ZU 1) (tC (.int 1))) (tOp (Y0 K) (tOp (Y0 K) (ZU 1) (tC (.int 0))) (tOp (Y0 K) (ZU 2) (ZU 0)))) rfl
    ⟨by rfl,by decide +kernel,by decide +kernel,by rfl,by decide +kernel,by decide +kernel⟩ rfl rfl (Vd (pv 1)) (fun _ _ _ _ _ _=>Zu (i:=0) ndTr rfl (Or.inl rfl))
    (fun _ _ _ _ _ _=>Z2 ZZ (Z2 ZZ (pv 1) Z6 (fun _ _=>rfl)) (Z2 ZZ (Z2 ZZ (pv 1) Z6 (fun _ _=>rfl)) (Z2 ZZ (pv 2) (pv 0) (fun _ _=>rfl)) (fun _ _=>rfl)) (fun _ _=>rfl)))))),?_⟩
  refine⟨_,rfl,a,_,0,_,rfl,rfl,SqT.of h1,Z0 (j:=0) rfl,p,n,r,rfl,h2,rr,hn,fun H1 l1 s1 hl1=>?_⟩;refine⟨_,rfl,a,_,1,_,rfl,rfl,SqT.of (s1 _ _ h1),Z0 (j:=1) rfl,q,n,u,rfl,s1 _ _ h3,ru,hn,fun H2 l2 s2 hl2=>?_⟩;have s12:=s1.trans s2;refine Z8T (r:=back r) (rest:=[some (.ref a),some (.ref l2)]) (fun x=>nx u (nx r (nx (back u) x))) rfl (SqT.of (s2 _ _ hl1)) rfl (fun x H3 R hx s3 hR=>?_) (by rw[rr.back.len];omega) fun H3 d s3 hd hd3=>?_
  ·have hx:=rr.back.lt x hx;have s13:=s12.trans s3;refine⟨_,rfl,a,_,1,_,rfl,rfl,SqT.of (s13 _ _ h1),Z0 (j:=1) rfl,?_⟩;refine⟨_,rfl,a,_,0,_,rfl,rfl,SqT.of (s13 _ _ h1),Z0 (j:=0) rfl,?_⟩;refine⟨_,rfl,_,rfl,l2,_,_,_,rfl,rfl,SqT.of (s3 _ _ hl2),Z0 (Zp (ru.back.get hx)),?_⟩;refine⟨p,_,_,_,rfl,rfl,SqT.of (s13 _ _ h2),Z0 (Zp (rr.get (ru.back.nlt hx))),?_⟩;exact⟨q,_,_,_,rfl,rfl,SqT.of (s13 _ _ h3),Z0 (Zp (ru.get (rr.nlt (ru.back.nlt hx)))),hR⟩
  ·rw[ZbK rr]at hd3;exact k H3 d (s12.trans s3) (by
    cases e:H d with
    | none=>rfl
    | some o=>have:=s12 _ _ e;rw[this]at hd;cases hd) hd3
end
def Z7r:Sp:=fun vs H Q _=>∃ (a:Addr) (n:Nat) (r u:List Nat),vs=[.ref a]/\Zn H a r u/\Row n r/\Row n u/\n<=36/\
 ∀ (H':Hp) (l:Addr) (as:List Addr),Z5 H H'->H l=none->H' l=some (.lst (rv as))->(∀ a∈as,H a=none)->Zb H' as (Za n (ZF r u))->Q (.ref l) H'
section
variable {P:Program}{w:World}{K:Y00}{mg:Str->Option Value}{base:Heap}
theorem scCo:ZL ["sheet"] ["sheet"] (ZV UA):=⟨rfl,rfl,rfl,by decide +kernel,rfl,by decide +kernel,by decide +kernel⟩
theorem Z9x {f fc ft:Addr}{fd fdc fdt:FuncData}(F:Fn K mg "corners" UA ["sheet"] f fd)(FT:Fn K mg "turn_row" Vy ["sheet"] ft fdt)(GT:Z4 P w K mg base CX0 5 ft fdt ["sheet"] Zex)
  (FC:Fn K mg "cycles" WQ ["row"] fc fdc) (GC:Z4 P w K mg base CX0 2 fc fdc ["row"] (Z6s K)):Z4 P w K mg base CX0 6 f fd ["sheet"] Z7r:=by
 refine F.F.ok scCo (fun vs H Q E h=>?_) (fun cdv A outer s H vs Q E hr h=>?_)
 ·obtain⟨a,n,r,u,rfl,_⟩:=h;rfl
 ·obtain⟨a,n,r,u,rfl,hsh,rr,ru,hn,k⟩:=h;have hr2:ZP 2 _:=hr.mono (by decide);refine⟨_,ZY (ZO (ZT GC hr2 rfl FC.m FC.F.kp FC.b .nil ZQ (Z9 (ZT GT hr rfl FT.m FT.F.kp FT.b .nil ZQ (Z9 (pv 0) Z7)) Z7))),?_⟩;refine⟨_,rfl,a,n,r,u,rfl,hsh,rr,ru,hn,fun H1 l1 s1 _ hl1=>?_⟩;exact⟨l1,n,_,rfl,.inl (SqL.of hl1),UH rr ru,hn,fun H2 l as s2 f2 hl fr hL=>k H2 l as (s1.trans s2) (s1.free f2) hl (fun a ha=>s1.free (fr a ha)) hL⟩
end
end K1
namespace Sq
noncomputable def Zj (n:Nat)(w:List Nat):List Nat:=((Za n w).filter fun M=>decide (1<M.length)).flatten
noncomputable def Yn (n:Nat)(w:List Nat):List Nat:=(Y02 n).filter fun x=>!decide (nx w x=x)
theorem Z6i {α:Type}(p:List α->Bool):∀ l:List (List α),((l.filter p).flatten).Sublist l.flatten
 | []=>List.Sublist.refl _
 | a::l=>by
  by_cases h:p a=true
  ·rw[Y26 h,Y2f,Y2f];exact List.Sublist.append_left (Z6i p l) a
  ·rw[Y2z h,Y2f];exact (Z6i p l).trans (List.sublist_append_right _ _)
section
variable {n:Nat}{w:List Nat}
theorem ZdK {x:Nat}(h:nx w x=x):∀ i,it w x i=x
 | 0=>rfl
 | i+1=>by show nx w (it w x i)=x;rw[ZdK h i,h]
theorem Z71 (rw':Row n w){l x:Nat}(hl:l<n)(hx:x∈cyc n w l):1<(cyc n w l).length↔nx w x≠x:=by
 have hxn:=Ys rw' hl hx;constructor
 ·intro h e;have hlx:l=x:=by
   obtain⟨i,_,rfl⟩:=Wc rw' (Vz rw' hl hx);exact ZdK e i
  subst hlx;exact (YM rw' hl).new 1 (Y05 _) h e
 ·intro h;have hp:=(YM rw' hl).pos;rcases Y0q 1 (cyc n w l).length with c|c
  ·exact c
  ·have h1:(cyc n w l).length=1:=(by lia);have hb:=(YM rw' hl).back;rw[h1]at hb;obtain⟨i,hi,rfl⟩:=Wc rw' hx;rw[X5]at h1;have:i=0:=(by lia);subst this;exact absurd hb h
theorem UQ (rw':Row n w):(Zj n w).Perm (Yn n w):=by
 have hp:=Z3t rw';have nd:(Za n w).flatten.Nodup:=hp.nodup_iff.mpr Y24;refine (Y28 (List.Nodup.sublist (Z6i _ _) nd) (List.Nodup.sublist Y40 Y24)).mpr fun x=>?_;constructor
 ·intro h;obtain⟨M,hM,hx⟩:=Y3v.mp h;obtain⟨h1,h2⟩:=Y0p.mp hM;obtain⟨l,hl,rfl⟩:=Y0g.mp h1;have hl:=Y06.mp (Y0p.mp hl).1;have:=(Z71 rw' hl hx).mp (of_decide_eq_true h2);exact Y0p.mpr ⟨Y06.mpr (Ys rw' hl hx),by show (!decide (nx w x=x))=true;rw[decide_eq_false this];rfl⟩
 ·intro h;obtain⟨h1,h2⟩:=Y0p.mp h;have h2:nx w x≠x:=fun e=>by
   have h2:(!decide (nx w x=x))=true:=h2;rw[decide_eq_true e]at h2;cases h2
  obtain⟨l,hl,hld,hx⟩:=Z65 rw' (Y06.mp h1);exact Y3v.mpr ⟨_,Y0p.mpr ⟨Y0g.mpr ⟨l,Y0p.mpr ⟨Y06.mpr hl,hld⟩,rfl⟩,decide_eq_true ((Z71 rw' hl hx).mpr h2)⟩,hx⟩
theorem Z5g:(Yn n w).Pairwise (·<=·):=List.Pairwise.filter _ (Z6L n)
theorem ZaM (rw':Row n w):(Zj n w).Nodup:=(UQ rw').nodup_iff.mpr (List.Nodup.sublist Y40 Y24)
theorem Z5E (rw':Row n w):(Zj n w).length<=n:=by
 rw[(UQ rw').length_eq];have:=Y20 (fun x=>!decide (nx w x=x)) (Y02 n)
 rwa [Y0v]at this
end
end Sq
namespace K1
open PySem L2 Sq
noncomputable def ik (x:Nat):Key:=Sum.inl (x:Int)
noncomputable def XX (n:Nat)(w:List Nat):List Nat:=if Yn n w=[] then [0] else Yn n w
def ZbW:Sp:=fun vs H Q _=>∃ (a:Addr) (n:Nat) (r u:List Nat),vs=[.ref a]/\Zn H a r u/\Row n r/\Row n u/\n<=36/\
 ∀ (H':Hp) (d:Addr) (kvs:List (Key×V)),Z5 H H'->H d=none->H' d=some (.dK kvs)->kvs.map (·.1)=(Zj n (ZF r u)).map ik->Q (.ref d) H'
def Z6F:Sp:=fun vs H Q _=>∃ (a:Addr) (n:Nat) (r u:List Nat),vs=[.ref a]/\Zn H a r u/\Row n r/\Row n u/\n<=36/\
 ∀ (H':Hp) (l:Addr),Z5 H H'->H l=none->H' l=some (.lst (nv (XX n (ZF r u))))->Q (.ref l) H'
section
variable {P:Program}{w:World}{K:Y00}{mg:Str->Option Value}{base:Heap}
theorem scBo:ZL ["sheet","rough"] ["sheet"] (ZV Uo):=⟨rfl,rfl,rfl,by decide +kernel,rfl,by decide +kernel,by decide +kernel⟩
theorem Z9F {f fc:Addr}{fd fdc:FuncData}(T:Bi mg)(F:Fn K mg "borders" Uo ["sheet"] f fd)(FC:Fn K mg "rough_squares" VI ["sheet"] fc fdc)(GC:Z4 P w K mg base CX0 7 fc fdc ["sheet"] ZbW) :
  Z4 P w K mg base CX0 8 f fd ["sheet"] Z6F:=by
 refine F.F.ok scBo (fun vs H Q E h=>?_) (fun cdv A outer s H vs Q E hr h=>?_)
 ·obtain⟨a,n,r,u,rfl,_⟩:=h;rfl
 ·obtain⟨a,n,r,u,rfl,hsh,rr,ru,hn,k⟩:=h;refine⟨_,Z3 (ZW (i:=1) scBo.nd rfl (Or.inl rfl) (ZT GC hr rfl FC.m FC.F.kp FC.b .nil ZQ (Z9 (pv 0) Z7)))
   (Z3 (Zy (ZE Y7 (ZG ZbV rfl T.len PySem.boot_len (Z9 (pv 1) Z7)) Z6 (ZH _)) (ZY (ZO (Wb (Z9 Z6 Z7)))) Zw)
   (ZY (ZO (ZG (Z50 rfl) rfl T.sorted UR (Z9 (pv 1) Z7))))),?_⟩
  have rl:=UH rr ru;have hp:=UQ rl;have hrl:=Z5E rl;refine⟨_,rfl,a,n,r,u,rfl,hsh,rr,ru,hn,fun H1 d kvs s1 fd' hd hk=>?_⟩;have hkl:kvs.length=(Zj n (ZF r u)).length:=by simpa using congrArg Y2q hk
  refine⟨_,rfl,d,_,rfl,hd,rfl,_,rfl,?_⟩;refine Yv (fun h0=>?_) (fun h0=>?_)
  ·have h0:=V.int.inj (of_decide_eq_true h0);have e:Yn n (ZF r u)=[]:=Y25.mp (by rw[<-hp.length_eq];lia);refine⟨by show 1<=sizeLine;decide,fun l hl=>k _ l (ZS s1 (s1.free hl)) (s1.free hl) ?_⟩;unfold XX;rw[if_pos e,ZR];rfl
  ·have h0:¬ (V.int (kvs.length:Int)=V.int 0):=fun z=>h0 (decide_eq_true z);have e:¬ Yn n (ZF r u)=[]:=fun z=>h0 (by
    have:=hp.length_eq
    rw[z,Y4v]at this
    congr 1;lia)
   refine⟨_,rfl,d,_,rfl,.inr (.inr ⟨kvs,hd,hk⟩),by lia,fun l S hl pS sS=>?_⟩;have eS:S=Yn n (ZF r u):=Z3K (pS.trans hp) sS Z5g;subst eS;refine k _ l (ZS s1 (s1.free hl)) (s1.free hl) ?_;unfold XX;rw[if_neg e,ZR]
end
theorem Zbd {A:Around}{k:Nat}(hr:ZP k A){d e:PyData}(h:d.depth<=64):A.units+min d.depth e.depth<cLine:=
 Y1s (Y3d (Y0z (Nat.min_le_left _ _) h) _) hr.units
end K1
namespace Sq
theorem Zad {n:Nat}{v:List Nat}(rv:Row n v):∀ c {i j:Nat},i<n->j<n->it v i c=it v j c->i=j
 | 0,_,_,_,_,h=>h
 | c+1,_,_,hi,hj,h=>Zad rv c hi hj (rv.inj (Zk rv hi c) (Zk rv hj c) h)
section
variable {n:Nat}{r u v E:List Nat}{x0:Nat}
theorem Z8i (w:List Nat)(x:Nat):∀ j,it w x (j+1)=it w (nx w x) j
 | 0=>rfl
 | j+1=>congrArg (nx w) (Z8i w x j)
theorem SH (rr:Row n r)(hx0:x0<n){x:Nat}(hx:x∈cyc n r x0):∀ j,it r x j∈cyc n r x0:=fun j=>by
 obtain⟨i,hi,rfl⟩:=Wc rr hx;rw[<-TR];exact Xa rr hx0 _
end
end Sq
namespace Sq
section
variable {n:Nat}{r u r' u' f E E':List Nat}
def Lds (n:Nat)(w w' f:List Nat):Prop:=∀ x,x<n->nx w' (nx f x)=nx f (nx w x)
theorem Lds.it (rw':Row n r)(h:Lds n r r' f){x:Nat}(hx:x<n):∀ j,it r' (nx f x) j=nx f (it r x j)
 | 0=>rfl
 | j+1=>by
  show nx r' (Sq.it r' (nx f x) j)=nx f (nx r (Sq.it r x j));rw[Lds.it rw' h hx j,h _ (Zk rw' hx j)]
theorem ZfG (rr:Row n r)(rr':Row n r')(rf:Row n f)(h:Lds n r r' f){x:Nat}(hx:x<n):cyc n r' (nx f x)=(cyc n r x).map (nx f):=by
 refine (Cyc.eq rr' (rf.nlt hx) ?_).symm;have c:=YM rr hx;have hl:((cyc n r x).map (nx f)).length=per n r x:=by rw[Y07,X5]
 have hp:=XJ rr hx;constructor
 ·rw[Y07];exact c.pos
 ·rw[hl];unfold cyc;rw[Y1n];exact Y1x fun j _=>(h.it rr hx j).symm
 ·rw[hl,h.it rr hx,hp.1]
 ·intro i h1 h2;rw[hl]at h2;rw[h.it rr hx];exact fun e=>hp.2 i h1 h2 (rf.inj (Zk rr hx i) hx e)
theorem SD (rr:Row n r){x y:Nat}(hx:x<n)(h:y∈cyc n r x):∀ z,z∈cyc n r y↔z∈cyc n r x:=fun z=>
 ⟨fun hz=>Ws rr hx h hz,fun hz=>Ws rr (Ys rr hx h) (Vz rr hx h) hz⟩
theorem Z8U (rr:Row n r){x y:Nat}(hx:x<n)(h:y∈cyc n r x):(cyc n r y).length=(cyc n r x).length:=by
 have hy:=Ys rr hx h;have n1:=(YM rr hx).nd rr hx;have n2:=(YM rr hy).nd rr hy;exact ((Y28 n2 n1).mpr (SD rr hx h)).length_eq
theorem Z8p {S T:List Nat}(h:∀ z,z∈S↔z∈T):Zx E S=Zx E T:=by
 unfold Zx;apply Y2b.mpr;rw[Y1e,Y1e];exact⟨fun ⟨x,hx,e⟩=>⟨x,(h x).mp hx,e⟩,fun ⟨x,hx,e⟩=>⟨x,(h x).mpr hx,e⟩⟩
theorem Z6c:XN n r u E=((Y02 n).filter fun x=>Zl n r x&&Zx E (cyc n r x)).map fun x=>ZbJ n u E (cyc n r x):=by
 unfold XN Za;rw[List.filter_map,Y1n,List.filter_filter];congr 1;congr 1;funext x;exact Bool.and_comm _ _
open Classical in
noncomputable def ldo (n:Nat) (w:List Nat) (x:Nat):Nat:=if h:∃ l,l<n/\Zl n w l=true/\x∈cyc n w l then choose h else 0
theorem Vg (rr:Row n r){x:Nat}(hx:x<n):ldo n r x<n/\Zl n r (ldo n r x)=true/\x∈cyc n r (ldo n r x):=by
 have h:=Z65 rr hx;unfold ldo;rw[dif_pos h];exact Classical.choose_spec h
end
end Sq
namespace Sq
noncomputable def brd (n:Nat)(w:List Nat):List Nat:=if Yn n w=[] then [0] else Yn n w
section
variable {n:Nat}{r u a b a' b' f lt lt':List Nat}
theorem ZdW {w:List Nat}{k:Nat}:k∈Yn n w↔k<n/\nx w k≠k:=by
 unfold Yn;rw[Y0p,Y06];simp
theorem Zgv {w:List Nat}{k:Nat}(hk:k<n)(h:k∉brd n w):nx w k=k:=by
 refine Decidable.byContradiction fun c=>h ?_;have m:k∈Yn n w:=ZdW.mpr ⟨hk,c⟩;unfold brd;rw[if_neg (List.ne_nil_of_mem m)];exact m
end
end Sq
namespace K1
open PySem L2 Sq
theorem Zfr {n:Nat}{r u:List Nat}(rr:Row n r){k:Nat}(hk:k<n)(h:k∉XX n (ZF r u)):nx u (nx r (nx (back u) (nx (back r) k)))=k:=by
 rw[<-Wl rr hk];exact Zgv hk h
theorem Z5n {n:Nat}{r u M:List Nat}:(XN n r u M).length<=n:=by
 unfold XN;rw[Y07];exact Y0z (Y20 _ _) (Z7a (n:=n) (w:=r) n)
theorem Z9i {n:Nat}{r u M:List Nat}(rr:Row n r){b:Bd}(h:b∈XN n r u M):b.2.2.length<=n:=by
 obtain⟨S,hS,rfl⟩:=Y0g.mp h;obtain⟨x,hx,_,rfl⟩:=SX (Y0p.mp hS).1;have h1:=(YM rr hx).len rr hx;show ((Y02 _).filter _).length<=n;have:=Y20 (Wj M (cyc n r x) (ups u (cyc n r x) (wid n u M (cyc n r x)))) (Y02 (cyc n r x).length);rw[Y0v]at this;omega
end K1
namespace Sq
section
variable {n:Nat}{r u E:List Nat}
theorem TN (rr:Row n r)(ru:Row n u)(un:∀ k,k<n->k∉E->nx u (nx r (nx (back u) (nx (back r) k)))=k){x:Nat}(hx:x<n)
  {w:Nat} (hw:∀ i,1<=i->i<w->Zx E (ups u (cyc n r x) i)=false) {j:Nat} (hj:j<w):cyc n r (it u x j)=ups u (cyc n r x) j:=by
 have hlt:∀ y∈cyc n r x,y<n:=fun y hy=>Ys rr hx hy;have hc:∀ t,it u (it r x t) j=it r (it u x j) t:=fun t=>Rv rr ru hlt (fun y hy=>SH rr hx hy 1) un hw j hj t x (Xa rr hx 0);refine (Cyc.eq rr (Zk ru hx j) ?_).symm;have hl:(ups u (cyc n r x) j).length=per n r x:=by rw[Wh,X5]
 have hp:=XJ rr hx;constructor
 ·rw[Wh];exact (YM rr hx).pos
 ·rw[hl];unfold ups cyc;rw[Y1n];exact Y1x fun t _=>hc t
 ·rw[hl,<-hc,hp.1]
 ·intro i h1 h2;rw[hl]at h2;rw[<-hc];exact fun e=>hp.2 i h1 h2 (Zad ru j (Zk rr hx i) hx e)
theorem Z7o {w:List Nat}(rw':Row n w){T:Nat->Prop}(hT:∀ x,x<n->T x->T (nx w x)){y:Nat}(hy:y<n)(h:T (nx w y)):T y:=by
 have hp:=XJ rw' hy;have h1:1<=per n w y:=by unfold per;lia
 have key:∀ j,T (it w (nx w y) j):=fun j=>by
  induction j with
  | zero=>exact h
  | succ j ih=>exact hT _ (Zk rw' (rw'.nlt hy) j) ih
 have:=key (per n w y-1)
 rwa [<-Z8i,show per n w y-1+1=per n w y from by lia,hp.1]at this
def Gd (n:Nat)(r u E:List Nat)(y:Nat):Prop:=∃ x,x<n/\Zl n r x=true/\Zx E (cyc n r x)=true/\∃ j,j<wid n u E (cyc n r x)/\y∈cyc n r (it u x j)
theorem ZbE {S:List Nat}{y:Nat}(h1:y∈S)(h2:y∈E):Zx E S=true:=by
 unfold Zx;exact Y1e.mpr ⟨y,h1,decide_eq_true h2⟩
theorem Gd.row (rr:Row n r)(ru:Row n u){y:Nat}(hy:y<n)(h:Zx E (cyc n r y)=true):Gd n r u E y:=by
 obtain⟨l1,l2,l3⟩:=Vg rr hy;have hh:Zx E (cyc n r (ldo n r y))=true:=by rw[<-Z8p (SD rr l1 l3)];exact h
 obtain⟨_,_,w3,_⟩:=V6 ru (fun z hz=>Ys rr l1 hz) hh;exact⟨_,l1,l2,hh,0,by lia,l3⟩
theorem Gd.right (rr:Row n r)(ru:Row n u){y:Nat}(h:Gd n r u E y):Gd n r u E (nx r y):=by
 obtain⟨x,hx,hl,hh,j,hj,hy⟩:=h;exact⟨x,hx,hl,hh,j,hj,SH rr (Zk ru hx j) hy 1⟩
theorem Gd.up (rr:Row n r)(ru:Row n u)(un:∀ k,k<n->k∉E->nx u (nx r (nx (back u) (nx (back r) k)))=k){y:Nat}(h:Gd n r u E y):Gd n r u E (nx u y):=by
 obtain⟨x,hx,hl,hh,j,hj,hy⟩:=h;have hlt:∀ y∈cyc n r x,y<n:=fun y hy=>Ys rr hx hy;obtain⟨w1,w2,w3,w4⟩:=V6 ru hlt hh;rw[TN rr ru un hx w2 hj]at hy;obtain⟨z,hz,rfl⟩:=Y0g.mp hy;have hzn:=hlt z hz
 by_cases c:j+1<wid n u E (cyc n r x)
 ·refine⟨x,hx,hl,hh,j+1,c,?_⟩;rw[TN rr ru un hx w2 c];exact Y0g.mpr ⟨z,hz,rfl⟩
 ·have ej:j+1=wid n u E (cyc n r x):=by lia
  have hyn:nx u (it u z j)<n:=Zk ru hzn (j+1);refine Gd.row rr ru hyn ?_;refine Decidable.byContradiction fun hn=>?_;have hno:∀ i,it r (it u z (j+1)) i∉E:=fun i hi=>hn (ZbE (Xa rr hyn i) hi);have key:∀ i,it r (it u z (j+1)) i=it u (it r z i) (j+1):=fun i=>by
   induction i with
   | zero=>rfl
   | succ i ih=>
    have hzi:=SH rr hx hz i;have hzin:=hlt _ hzi;have hun:=hno (i+1);have e0:it r (it u z (j+1)) (i+1)=nx r (nx u (it u (it r z i) j)):=by
     show nx r (it r (it u z (j+1)) i)=_;rw[ih];rfl
    have hy1:it u (it r z i) j<n:=Zk ru hzin j;have hk:nx r (nx u (it u (it r z i) j))<n:=rr.nlt (ru.nlt hy1);rw[e0]at hun ⊢;have:=un _ hk hun;rw[Yj rr (ru.nlt hy1),Yj ru hy1]at this;rw[<-this];show nx u (nx r (it u (it r z i) j))=nx u (it u (nx r (it r z i)) j);have cm:=Rv rr ru hlt (fun y hy=>SH rr hx hy 1) un w2 j hj 1 (it r z i) hzi;exact congrArg (nx u) cm.symm
  unfold Zx at w1;obtain⟨v,hv,e⟩:=Y1e.mp w1;obtain⟨z2,hz2,rfl⟩:=Y0g.mp hv;have hz2':=(SD rr hx hz z2).mpr hz2;obtain⟨i,_,rfl⟩:=Wc rr hz2';have e:=of_decide_eq_true e;rw[<-ej,<-key i]at e;exact hno i e
theorem Gd.all (s:Zg n r u)(un:∀ k,k<n->k∉E->nx u (nx r (nx (back u) (nx (back r) k)))=k){e:Nat}(he:e∈E)(hen:e<n):∀ y,y<n->Gd n r u E y:=by
 have rr:=s.row;have ru:=s.col;have h0:Gd n r u E 0:=by
  refine Classical.byContradiction fun hn=>?_;have:=s.conn (fun y=>¬ Gd n r u E y) hn (fun x hx h=>⟨fun g=>h (Z7o (T:=Gd n r u E) rr (fun y _=>Gd.right rr ru) hx g),fun g=>h (Z7o (T:=Gd n r u E) ru (fun y _=>Gd.up rr ru un) hx g)⟩) e hen;exact this (Gd.row rr ru hen (ZbE (Xa rr hen 0) he))
 exact s.conn (Gd n r u E) h0 fun x hx h=>⟨Gd.right rr ru h,Gd.up rr ru un h⟩
theorem Zdt (rr:Row n r)(ru:Row n u)(un:∀ k,k<n->k∉E->nx u (nx r (nx (back u) (nx (back r) k)))=k){x x' j j':Nat}(hx:x<n)(hx':x'<n)
  (hl:Zl n r x=true) (hl':Zl n r x'=true) (hh:Zx E (cyc n r x)=true) (hh':Zx E (cyc n r x')=true) (hj:j<wid n u E (cyc n r x)) (hj':j'<wid n u E (cyc n r x')) (hle:j<=j')
  (h:it u x' j'∈cyc n r (it u x j)):x=x'/\j=j':=by
 obtain⟨w1,w2,w3,w4⟩:=V6 ru (fun y hy=>Ys rr hx hy) hh;obtain⟨v1,v2,v3,v4⟩:=V6 ru (fun y hy=>Ys rr hx' hy) hh';rw[TN rr ru un hx w2 hj]at h;obtain⟨y,hy,ey⟩:=Y0g.mp h;obtain⟨d,rfl⟩:∃ d,j'=d+j:=⟨j'-j,by lia⟩;rw[TR]at ey;have hy':y=it u x' d:=Zad ru j (Ys rr hx hy) (Zk ru hx' d) ey;subst hy';have hhd:Zx E (cyc n r (it u x' d))=true:=by rw[Z8p (SD rr hx hy)];exact hh
 have hd:d=0:=by
  rcases Nat.eq_zero_or_pos d with c|c
  ·exact c
  ·rw[TN rr ru un hx' v2 (by lia),v2 d c (by lia)]at hhd;cases hhd
 subst hd;exact⟨Z3l rr hx hx' hl hl' hy (Xa rr hx' 0),by lia⟩
theorem Z8j (rr:Row n r){y z:Nat}(hy:y<n)(hz:z<n)(h:ldo n r y=ldo n r z):z∈cyc n r y:=by
 obtain⟨l1,l2,l3⟩:=Vg rr hy;obtain⟨m1,m2,m3⟩:=Vg rr hz;rw[<-h]at m3;exact Ws rr hy (Vz rr l1 l3) m3
theorem Z9h (s:Zg n r u)(un:∀ k,k<n->k∉E->nx u (nx r (nx (back u) (nx (back r) k)))=k){e:Nat}(he:e∈E)(hen:e<n) :
  ((Y02 n).filter (Zl n r)).Perm (((Y02 n).filter fun x=>Zl n r x&&Zx E (cyc n r x)).flatMap fun x=>(Y02 (wid n u E (cyc n r x))).map fun j=>ldo n r (it u x j)):=by
 have rr:=s.row;have ru:=s.col;have hA:∀ x,x∈(Y02 n).filter (fun x=>Zl n r x&&Zx E (cyc n r x))↔x<n/\Zl n r x=true/\Zx E (cyc n r x)=true:=fun x=>by
  rw[Y0p,Y06,Y22]
 have nd0:((Y02 n).filter (Zl n r)).Nodup:=List.Nodup.sublist Y40 Y24;have nd1:((Y02 n).filter fun x=>Zl n r x&&Zx E (cyc n r x)).Nodup:=List.Nodup.sublist Y40 Y24;have inj:∀ {x x' j j'},x<n->x'<n->Zl n r x=true->Zl n r x'=true->Zx E (cyc n r x)=true->Zx E (cyc n r x')=true->j<wid n u E (cyc n r x)->j'<wid n u E (cyc n r x')->ldo n r (it u x j)=ldo n r (it u x' j')->x=x'/\j=j':=fun {x x' j j'} hx hx' hl hl' hh hh' hj hj' e=>by
  rcases Nat.le_total j j' with c|c
  ·exact Zdt rr ru un hx hx' hl hl' hh hh' hj hj' c (Z8j rr (Zk ru hx j) (Zk ru hx' j') e)
  ·obtain⟨a,b⟩:=Zdt rr ru un hx' hx hl' hl hh' hh hj' hj c (Z8j rr (Zk ru hx' j') (Zk ru hx j) e.symm);exact⟨a.symm,b.symm⟩
 refine (Y28 nd0 ?_).mpr fun z=>?_
 ·refine List.pairwise_flatMap.mpr ⟨fun x hx=>?_,?_⟩
  ·obtain⟨a1,a2,a3⟩:=(hA x).mp hx;refine Y1q.mpr (List.Pairwise.imp_of_mem (fun {i j} hi hj hne e=>hne ?_) Y24);exact (inj a1 a1 a2 a2 a3 a3 (Y06.mp hi) (Y06.mp hj) e).2
  ·refine List.Pairwise.imp_of_mem (fun {x x'} hx hx' hne y hy y' hy' e=>hne ?_) nd1;obtain⟨a1,a2,a3⟩:=(hA x).mp hx;obtain⟨b1,b2,b3⟩:=(hA x').mp hx';obtain⟨j,hj,rfl⟩:=Y0g.mp hy;obtain⟨j',hj',rfl⟩:=Y0g.mp hy';exact (inj a1 b1 a2 b2 a3 b3 (Y06.mp hj) (Y06.mp hj') e).1
 ·rw[Y0p,Y06,List.mem_flatMap];constructor
  ·rintro ⟨hz,hl⟩;obtain⟨x,hx,hxl,hh,j,hj,hy⟩:=Gd.all s un he hen z hz;refine⟨x,(hA x).mpr ⟨hx,hxl,hh⟩,Y0g.mpr ⟨j,Y06.mpr hj,?_⟩⟩;obtain⟨l1,l2,l3⟩:=Vg rr (Zk ru hx j);exact Z3l rr l1 hz l2 hl (Ws rr l1 l3 hy) (Xa rr hz 0)
  ·rintro ⟨x,hx,hz⟩;obtain⟨a1,a2,a3⟩:=(hA x).mp hx;obtain⟨j,hj,rfl⟩:=Y0g.mp hz;obtain⟨l1,l2,l3⟩:=Vg rr (Zk ru a1 j);exact⟨l1,l2⟩
theorem Zio (s:Zg n r u)(un:∀ k,k<n->k∉E->nx u (nx r (nx (back u) (nx (back r) k)))=k){e:Nat}(he:e∈E)(hen:e<n) :
  ((Za n r).map Y2q).Perm ((XN n r u E).flatMap fun b=>Y0c b.2.1 b.1):=by
 have rr:=s.row;have ru:=s.col;have hA:∀ x,x∈(Y02 n).filter (fun x=>Zl n r x&&Zx E (cyc n r x))↔x<n/\Zl n r x=true/\Zx E (cyc n r x)=true:=fun x=>by
  rw[Y0p,Y06,Y22]
 have hp:=(Z9h s un he hen).map fun l=>(cyc n r l).length;have e1:(Za n r).map Y2q=((Y02 n).filter (Zl n r)).map fun l=>(cyc n r l).length:=by
  unfold Za;rw[Y1n];rfl
 rw[e1];refine hp.trans ?_;rw[List.map_flatMap,Z6c,List.flatMap_map];refine List.Perm.of_eq ?_;have cg:∀ (l:List Nat) (f g:Nat->List Nat),(∀ x∈l,f x=g x)->l.flatMap f=l.flatMap g:=fun l f g h=>by
  induction l with
  | nil=>rfl
  | cons a l ih=>rw[Y5o,Y5o,h a (by simp),ih fun x hx=>h x (by simp[hx])]
 refine cg _ _ _ fun x hx=>?_;obtain⟨a1,a2,a3⟩:=(hA x).mp hx;obtain⟨w1,w2,w3,w4⟩:=V6 ru (fun y hy=>Ys rr a1 hy) a3;rw[Y1n];show (Y02 (wid n u E (cyc n r x))).map _=Y0c (wid n u E (cyc n r x)) (cyc n r x).length;apply Y2u;intro i;rw[Y0l,Y46]
 by_cases c:i<wid n u E (cyc n r x)
 ·rw[if_pos c];have:(Y02 (wid n u E (cyc n r x)))[i]?=some i:=by simp[c]
  rw[this];show some (cyc n r (ldo n r (it u x i))).length=_;obtain⟨l1,l2,l3⟩:=Vg rr (Zk ru a1 i);rw[<-Z8U rr l1 l3,TN rr ru un a1 w2 c,Wh]
 ·rw[if_neg c,Y18 (by simp;lia)];rfl
theorem Zan (s:Zg n r u)(un:∀ k,k<n->k∉E->nx u (nx r (nx (back u) (nx (back r) k)))=k){e:Nat}(he:e∈E)(hen:e<n) :
  ((XN n r u E).map fun b=>b.1*b.2.1).sum=n:=by
 have h1:=(Zio s un he hen).sum_nat;rw[<-Y34,(Z3t s.row).length_eq,Y0v]at h1;have key:∀ bs:List (Nat×Nat×List Nat),(bs.map fun b=>b.1*b.2.1).sum=(bs.flatMap fun b=>Y0c b.2.1 b.1).sum:=fun bs=>by
  induction bs with
  | nil=>rfl
  | cons b bs ih=>rw[Y11,List.sum_cons,Y5o,List.sum_append,ih,Y2p,Nat.mul_comm]
 rw[key];exact h1.symm
theorem Z7G (s:Zg n r u)(un:∀ k,k<n->k∉E->nx u (nx r (nx (back u) (nx (back r) k)))=k){e:Nat}(he:e∈E)(hen:e<n)(l:Nat) :
  ((Za n r).map Y2q).count l=((XN n r u E).map fun b=>if b.1=l then b.2.1 else 0).sum:=by
 rw[(Zio s un he hen).count_eq,List.count_flatMap];congr 1;refine Y1x fun b _=>?_;show List.count l (Y0c b.2.1 b.1)=_;rw[List.count_replicate]
 by_cases c:b.1=l<;>simp[c]
theorem Zay {S W:List Nat}(h1:Zx E S=true)(h2:Zx E W=true)(hl:W.length=S.length):WE E S W≠[]:=by
 unfold Zx at h1 h2;obtain⟨x,hx,ex⟩:=Y1e.mp h1;obtain⟨y,hy,ey⟩:=Y1e.mp h2;obtain⟨i,hi,rfl⟩:=Y1i.mp hx;obtain⟨j,hj,rfl⟩:=Y1i.mp hy;have nxg:∀ {X:List Nat} {i:Nat} (h:i<X.length),nx X i=X[i]:=fun {X i} h=>by
  show X.getD i 0=_;rw[Y04,Y01 h];rfl
 have hL:0<S.length:=by lia
 refine List.ne_nil_of_mem (a:=(j+(S.length-i))%S.length) (Y0p.mpr ⟨Y06.mpr (Nat.mod_lt _ hL),?_⟩);unfold Wj;refine Y1e.mpr ⟨i,Y06.mpr hi,?_⟩;have e:(i+(j+(S.length-i))%S.length)%S.length=j:=by
  rw[Nat.add_mod_mod,show i+(j+(S.length-i))=j+S.length from by lia,Nat.add_mod_right,Nat.mod_eq_of_lt (by lia)]
 rw[e,nxg hi,nxg hj,ex,ey];rfl
end
end Sq
namespace K1
open PySem L2 Sq
theorem Ze6 {n:Nat}{r u:List Nat}(s:Zg n r u){as:List Addr}{bs:List Bd}(hl:as.length=bs.length)(hp:bs.Perm (XN n r u (XX n (ZF r u)))) :
  (∀ b∈bs,1<=b.1/\b.1<=36/\1<=b.2.1/\b.2.1<=36/\b.2.2.length<=36/\b.2.2≠[]/\b.2.2=(Y02 b.1).filter fun t=>decide (t∈b.2.2))/\as.length<=36/\(bs.map fun b=>b.1*b.2.1).sum=n/\(∀ x,((Za n r).map Y2q).count x=(bs.map fun b=>if b.1=x then b.2.1 else 0).sum):=by
 have rr:=s.row;have ru:=s.col;have hn:=s.most;have hpos:=s.pos;have un:∀ k,k<n->k∉XX n (ZF r u)->nx u (nx r (nx (back u) (nx (back r) k)))=k:=fun k hk h=>Zfr rr hk h;obtain⟨e,he,hen⟩:∃ e,e∈XX n (ZF r u)/\e<n:=by
  unfold XX
  split
  ·exact⟨0,by simp,by omega⟩
  ·rename_i c;obtain⟨e,he⟩:=List.exists_mem_of_ne_nil _ c;exact⟨e,he,(ZdW.mp he).1⟩
 generalize XX n (ZF r u)=M at *;refine⟨fun b hb=>?_,?_,?_,fun x=>?_⟩
 ·have hm:=hp.mem_iff.mp hb;have hsl:=Z9i rr hm;obtain⟨S,hS,rfl⟩:=Y0g.mp hm;obtain⟨hS1,hh⟩:=Y0p.mp hS;obtain⟨x,hx,_,rfl⟩:=SX hS1;have hC:=YM rr hx;have h1:=hC.len rr hx;have h2:=hC.pos;obtain⟨w1,w2,w3,w4⟩:=V6 ru (fun y hy=>Ys rr hx hy) hh;refine⟨h2,by show (cyc n r x).length<=36;omega,w3,by show wid n u M (cyc n r x)<=36;omega,by omega,Zay hh w1 (Wh _ _ _),?_⟩;show WE M (cyc n r x) (ups u (cyc n r x) (wid n u M (cyc n r x)))=(Y02 (cyc n r x).length).filter fun t=>decide (t∈WE M (cyc n r x) (ups u (cyc n r x) (wid n u M (cyc n r x))));unfold WE;refine List.filter_congr fun t ht=>?_;apply Y2b.mpr;rw[decide_eq_true_iff,Y0p];exact⟨fun h=>⟨ht,h⟩,fun h=>h.2⟩
 ·have:=hp.length_eq;have h2:=Z5n (n:=n) (r:=r) (u:=u) (M:=M);omega
 ·rw[(hp.map fun b=>b.1*b.2.1).sum_nat];exact Zan s un he hen
 ·rw[(hp.map fun b=>if b.1=x then b.2.1 else 0).sum_nat];exact Z7G s un he hen x
end K1
namespace Sq
section
variable {n:Nat}{r u E E':List Nat}
end
end Sq
namespace Sq
section
variable {n:Nat}{r u d E E':List Nat}
end
section
variable {n:Nat}{r u a b lt lt':List Nat}
end
end Sq
namespace Sq
variable {n:Nat}{r u:List Nat}
theorem Zac (h:Row n r){T:Nat->Prop}(hT:∀ x,x<n->T x->T (nx (back r) x)){x:Nat}(hx:x<n)(tx:T x):T (nx r x):=by
 have hb:=h.back;have all:∀ k,T (it (back r) x k):=by
  intro k
  induction k with
  | zero=>exact tx
  | succ k ih=>exact hT _ (Zk hb hx k) ih
 have hp:=(XJ hb hx).1;have pos:0<per n (back r) x:=Nat.succ_pos _;obtain⟨k,hk⟩:∃ k,per n (back r) x=k+1:=⟨per n (back r) x-1,by omega⟩;rw[hk]at hp;have hz:=Zk hb hx k;have e:nx (back r) (it (back r) x k)=x:=hp;rw[Vo h hz]at e;have h2:=h.nx_idx hz;rw[e]at h2;rw[h2];exact all k
theorem Zg.up (h:Zg n r u):Zg n r (back u) where
 pos:=h.pos
 most:=h.most
 row:=h.row
 col:=h.col.back
 conn:=fun T t0 hT x hx=>h.conn T t0 (fun y hy ty=>⟨(hT y hy ty).1,Zac h.col (fun z hz tz=>(hT z hz tz).2) hy ty⟩) x hx
end Sq
namespace Sq
section
variable {n nb:Nat}{r u rb ub m m':List Nat}
end
end Sq
namespace Sq
end Sq
namespace Sq
end Sq
namespace Sq
end Sq
namespace Sq
section
variable {n nb:Nat}{r u rb ub m:List Nat}
theorem Zg.swap (h:Zg n r u):Zg n u r:=⟨h.pos,h.most,h.col,h.row,fun T h0 hT=>h.conn T h0 fun x hx hx'=>⟨(hT x hx hx').2,(hT x hx hx').1⟩⟩
theorem Zg.turn (h:Zg n r u):Zg n (back u) r:=h.up.swap
theorem Zg.shear (h:Zg n r u):Zg n r (cmp n u (back r)) where
 pos:=h.pos
 most:=h.most
 row:=h.row
 col:=Vl h.col h.row.back
 conn:=fun T h0 hT=>h.conn T h0 fun x hx hx'=>by
  refine⟨(hT x hx hx').1,?_⟩;have h1:=h.row.nlt hx;have:=(hT _ h1 (hT x hx hx').1).2;rw[WM h1,Yj h.row hx]at this;exact this
end
end Sq
namespace K1
open PySem L2 Sq
noncomputable abbrev lvl (p q:Int):List Int:=[wt0 p q,wt1 p q,-q,p]
def spTl:Sp:=fun vs H Q _=>∃ p q:Int,vs=[.int p,.int q]/\Way p q/\Y1v p q=1/\∀ (H':Hp) (l:Addr),Z5 H H'->H' l=some (.tup ((lvl p q).map V.int))->wt0 p q*p+wt1 p q*q=1->Bt 600 (wt0 p q)->Bt 600 (wt1 p q)->Q (.ref l) H'
section
variable {P:Program}{w:World}{K:Y00}{mg:Str->Option Value}{base:Heap}
noncomputable abbrev n_tl:List Str:=["p","q","weights"]
theorem ZgW:ZL n_tl ["p","q"] (ZV Uz):=⟨rfl,rfl,rfl,by decide +kernel,rfl,by decide +kernel,by decide +kernel⟩
end
end K1
namespace Sq
open L2
structure Q4 where
 a:Int
 b:Int
 c:Int
 d:Int
noncomputable def Q4.l (x:Q4):List Int:=[x.a,x.b,x.c,x.d]
noncomputable def Q4.mul (x y:Q4):Q4:=⟨x.a*y.a+x.b*y.c,x.a*y.b+x.b*y.d,x.c*y.a+x.d*y.c,x.c*y.b+x.d*y.d⟩
noncomputable def Q4.det (x:Q4):Int:=x.a*x.d-x.b*x.c
def Q4.bt (n:Nat)(x:Q4):Prop:=Bt n x.a/\Bt n x.b/\Bt n x.c/\Bt n x.d
noncomputable def q1:Q4:=⟨1,0,0,1⟩
noncomputable def qS:Q4:=⟨1,1,0,1⟩
noncomputable def qT:Q4:=⟨0,-1,1,0⟩
noncomputable def l4 (c:Nat):Q4:=if c=115 then qS else qT
noncomputable def tb4 (z:List Nat):Q4:=z.foldl (fun t c=>(l4 c).mul t) q1
theorem Q4.ext' {x y:Q4}(h1:x.a=y.a)(h2:x.b=y.b)(h3:x.c=y.c)(h4:x.d=y.d):x=y:=by
 cases x;cases y;simp only at h1 h2 h3 h4;subst h1 h2 h3 h4;rfl
theorem Z4e (x y z:Q4):(x.mul y).mul z=x.mul (y.mul z):=by
 refine Q4.ext' ?_ ?_ ?_ ?_<;>simp only[Q4.mul]<;>grind
theorem Zdh (x:Q4):x.mul q1=x:=by
 refine Q4.ext' ?_ ?_ ?_ ?_<;>simp only[Q4.mul,q1]<;>grind
theorem Z88 (x:Q4):q1.mul x=x:=by
 refine Q4.ext' ?_ ?_ ?_ ?_<;>simp only[Q4.mul,q1]<;>grind
theorem Z5X (x y:Q4):(x.mul y).det=x.det*y.det:=by simp only[Q4.mul,Q4.det];grind
theorem Zf3:∀ (z:List Nat) (t:Q4),z.foldl (fun t c=>(l4 c).mul t) t=(tb4 z).mul t
 | [],t=>by show t=q1.mul t;rw[Z88]
 | c::z,t=>by
  show z.foldl _ ((l4 c).mul t)=(z.foldl (fun t c=>(l4 c).mul t) ((l4 c).mul q1)).mul t;rw[Zf3 z,Zf3 z,Zdh,Z4e]
theorem Xe (x y:List Nat):tb4 (x++y)=(tb4 y).mul (tb4 x):=by
 show (x++y).foldl _ q1=_;rw[Y3c,Zf3];rfl
theorem Z8n (z:List Nat)(c:Nat):tb4 (z++[c])=(l4 c).mul (tb4 z):=by
 show (z++[c]).foldl _ q1=_;rw[Y3c];rfl
theorem Q4.bt.mono {n m:Nat}{x:Q4}(h:x.bt n)(l:n<=m):x.bt m:=⟨h.1.mono l,h.2.1.mono l,h.2.2.1.mono l,h.2.2.2.mono l⟩
theorem ilg (a b:Int):a<b\/b<=a:=by lia
theorem Zib {a d:Int}(h:a*d=1):a=1\/a=-1:=by
 have e:a.natAbs*d.natAbs=1:=by rw[<-Y4h,h];rfl
 have h1:d.natAbs≠0:=fun z=>by rw[z]at e;simp at e
 have h2:a.natAbs≠0:=fun z=>by rw[z]at e;simp at e
 rcases Y0q 1 a.natAbs with g|g
 ·have:=Nat.mul_le_mul (show 2<=a.natAbs from g) (show 1<=d.natAbs by lia);lia
 ·lia
noncomputable def qs (m:Int):Q4:=⟨1,m,0,1⟩
noncomputable def shW (m:Int):List Nat:=if 0<=m then (Y0c m.toNat [115]).flatten else [116,116,116]++(Y0c (-m).toNat [115,116,115]).flatten++[116]
theorem tb_s (n:Nat):tb4 (Y0c n [115]).flatten=qs n:=by
 induction n with
 | zero=>rfl
 | succ n ih=>
  rw[List.replicate_succ',Y41,Xe,ih];show (tb4 [115]).mul (qs n)=_;refine Q4.ext' ?_ ?_ ?_ ?_<;>simp[tb4,l4,qS,q1,qs,Q4.mul]<;>lia
theorem Zik (n:Nat):tb4 (Y0c n [115,116,115]).flatten=⟨1,0,n,1⟩:=by
 induction n with
 | zero=>rfl
 | succ n ih=>
  rw[List.replicate_succ',Y41,Xe,ih];show (tb4 [115,116,115]).mul ⟨1,0,n,1⟩=_;refine Q4.ext' ?_ ?_ ?_ ?_<;>simp[tb4,l4,qS,qT,q1,Q4.mul]<;>lia
theorem ZeB (m:Int):tb4 (shW m)=qs m:=by
 unfold shW
 split
 ·rename_i h;rw[tb_s];unfold qs;rw[Y2t h]
 ·rename_i h;rw[Xe,Xe,Zik];have e:((-m).toNat:Int)=-m:=Y2t (by lia);rw[e];refine Q4.ext' ?_ ?_ ?_ ?_<;>simp[tb4,l4,qS,qT,q1,qs,Q4.mul]
theorem Va (m:Int):(shW m).length<=4+3*m.natAbs:=by
 unfold shW
 split
 ·rw[Y34,Y37,Y2p,Y3l];lia
 ·rw[Y0h,Y0h,Y34,Y37,Y2p];have e:[115,116,115].length=3:=rfl;have e1:[116,116,116].length=3:=rfl;have e2:[116].length=1:=rfl;rw[e,e1,e2];lia
theorem Zfl {m:Int}(h:0<=m):(shW m).length=m.toNat:=by
 unfold shW;rw[if_pos h,Y34,Y37,Y2p,Y3l,Nat.mul_one]
theorem ZfK (m:Int):∀ c∈shW m,(c==115||c==116)=true:=by
 have rep:∀ (n:Nat) (y:List Nat),(∀ c∈y,(c==115||c==116)=true)->∀ c∈(Y0c n y).flatten,(c==115||c==116)=true:=fun n y h c hc=>by
  obtain⟨l,hl,hcl⟩:=Y3v.mp hc;rw[(List.mem_replicate.mp hl).2]at hcl;exact h c hcl
 unfold shW
 split
 ·exact rep _ _ (by decide)
 ·intro c hc;rcases Y0n.mp hc with h|h
  ·rcases Y0n.mp h with h|h
   ·have:c=116:=by simpa using h
    subst this;decide
   ·exact rep _ _ (by decide) c h
  ·rw[Y0k]at h;subst h;decide
noncomputable def mny (L:Q4):Int:=-((-L.a).fdiv L.c)
noncomputable def Y3 (L:Q4):Q4:=(⟨0,1,-1,0⟩:Q4).mul ((qs (-(mny L))).mul L)
theorem Z8L (L:Q4)(h:L.c≠0):∃ r,L.a=mny L*L.c-r/\((0<L.c/\0<=r/\r<L.c)\/(L.c<0/\L.c<r/\r<=0)):=by
 rcases Y49 h with hc|hc
 ·have e1:(-L.a).fdiv L.c=L.a/(-L.c):=by
   have:(-L.a).fdiv L.c=(-(-L.a)).fdiv (-L.c):=(by rw[Int.neg_fdiv_neg]);rw[this,Int.neg_neg,Y2o _ (by lia)]
  have h1:=Y4l L.a (-L.c);have h2:=Y2x L.a (b:=-L.c) (by lia);have h3:=Y2a L.a (b:=-L.c) (by lia);refine⟨-(L.a%(-L.c)),?_,.inr ⟨hc,by lia,by lia⟩⟩;unfold mny;rw[e1]
  grind
 ·have e1:(-L.a).fdiv L.c=(-L.a)/L.c:=Y2o _ (by lia);have h1:=Y4l (-L.a) L.c;have h2:=Y2x (-L.a) (b:=L.c) (by lia);have h3:=Y2a (-L.a) (b:=L.c) (by lia);refine⟨(-L.a)%L.c,?_,.inl ⟨hc,h2,h3⟩⟩;unfold mny;rw[e1]
  grind
def Yb (L:Q4):Prop:=L.a.natAbs<=60/\L.b.natAbs<=60/\L.c.natAbs<=60/\L.d.natAbs<=60
theorem Z8f (L:Q4):Y3 L=⟨L.c,L.d,mny L*L.c-L.a,mny L*L.d-L.b⟩:=by
 refine Q4.ext' ?_ ?_ ?_ ?_<;>simp only[Y3,Q4.mul,qs]<;>grind
theorem Zbx {L:Q4}(h:L.det=1):(Y3 L).det=1:=by
 unfold Y3;rw[Z5X,Z5X,h];simp[Q4.det,qs]
theorem Z9l (z:List Nat)(L:Q4):(tb4 ([116]++shW (mny L)++z)).mul (Y3 L)=(tb4 z).mul L:=by
 rw[Xe,Xe,ZeB,Z4e,Z4e];congr 1;refine Q4.ext' ?_ ?_ ?_ ?_<;>simp[Y3,Q4.mul,qs,tb4,l4,qT,q1]<;>grind
theorem d_le {L:Q4}(h:L.det=1)(hc:L.c.natAbs<L.a.natAbs)(hb:L.b.natAbs<=60):L.d.natAbs<=60:=by
 have e:L.a*L.d=1+L.b*L.c:=by unfold Q4.det at h;lia
 have e1:L.a.natAbs*L.d.natAbs<=1+60*L.c.natAbs:=by
  rw[<-Y4h,e];have:=Int.natAbs_add_le 1 (L.b*L.c);rw[Y4h]at this;have:=Nat.mul_le_mul_right L.c.natAbs hb;lia
 rcases Y0q 60 L.d.natAbs with h'|h'
 ·have:=Nat.mul_le_mul_left L.a.natAbs (show 61<=L.d.natAbs from h');lia
 ·exact h'
theorem Th {a c m r:Int}(hc:0<c)(ha:c<a)(e:a=m*c-r)(h0:0<=r)(h1:r<c):2<=m/\m-1<=a-c:=by
 have hm:2<=m:=by
  rcases ilg m 2 with h|h
  ·have:=Y0t (show m<=1 by lia) (Y5b hc);lia
  ·exact h
 refine⟨hm,?_⟩;have:=Y10 (show 1<=c by lia) (show 0<=m-2 by lia);have e2:(m-2)*c=m*c-2*c:=by rw[Y42]
 lia
theorem Ze0 {L:Q4}(h:L.c≠0):(mny L).natAbs<=L.a.natAbs:=by
 obtain⟨r,e,hr⟩:=Z8L L h;generalize mny L=m at e;generalize L.a=a at e ⊢;generalize L.c=c at e h hr;have key:∀ a c r:Int,a=m*c-r->0<c->0<=r->r<c->m.natAbs<=a.natAbs:=fun a c r e hc h0 h1=>by
  rcases ilg 0 m with hm|hm
  ·have:=Y10 (show 1<=c by lia) (show 0<=m-1 by lia);have e2:(m-1)*c=m*c-c:=(by rw[Y42];lia);lia
  ·have:=Y10 (show 1<=c by lia) (show 0<=-m by lia);have e2:(-m)*c=-(m*c):=(by rw[Y3b]);lia
 rcases hr with ⟨hc,h0,h1⟩|⟨hc,h0,h1⟩
 ·exact key a c r e hc h0 h1
 ·have:=key (-a) (-c) (-r) (by rw[e];grind) (by lia) (by lia) (by lia);lia
structure WI (x L:Q4)(z:List Nat):Prop where
 det:L.det=1
 is:(tb4 z).mul L=x
 le:Yb L
 st:∀ c∈z,(c==115||c==116)=true
 ln:z=[]\/(L.c.natAbs<L.a.natAbs/\0<=L.a*L.c/\z.length<=185+3*(60-L.a.natAbs))
theorem WI.step {x L:Q4}{z:List Nat}(h:WI x L z)(hc:L.c≠0):WI x (Y3 L) ([116]++shW (mny L)++z)/\(Y3 L).c.natAbs<L.c.natAbs:=by
 obtain⟨r,e,hr⟩:=Z8L L hc;have hm:=Ze0 hc;have ew:=Z8f L;have ec:(Y3 L).c=r:=by rw[ew];show mny L*L.c-L.a=r;lia
 have ea:(Y3 L).a=L.c:=by rw[ew]
 have eb:(Y3 L).b=L.d:=by rw[ew]
 have lt:(Y3 L).c.natAbs<(Y3 L).a.natAbs:=by rw[ec,ea];lia
 have dt:=Zbx h.det;obtain⟨l1,l2,l3,g4⟩:=h.le;have ld:=d_le dt lt (by rw[eb];exact g4);refine⟨⟨dt,by rw[Z9l];exact h.is,⟨by rw[ea];exact l3,by rw[eb];exact g4,by rw[ec];lia,ld⟩,?_,.inr ⟨lt,?_,?_⟩⟩,by rw[ec];lia⟩
 ·intro c hc;rcases Y0n.mp hc with h1|h1
  ·rcases Y0n.mp h1 with h2|h2
   ·rw[Y0k]at h2;subst h2;decide
   ·exact ZfK _ c h2
  ·exact h.st c h1
 ·rw[ea,ec];rcases hr with ⟨q,h0,h1⟩|⟨q,h0,h1⟩
  ·exact Y1l (by lia) h0
  ·have:=Y1l (show 0<=-L.c by lia) (show 0<=-r by lia);rw[Y4w]at this;exact this
 ·rw[ea,Y0h,Y0h,Y3l];rcases h.ln with hz|⟨g1,g2,g3⟩
  ·subst hz;have:=Va (mny L);rw[Y4v];lia
  ·have hm2:2<=mny L/\mny L-1<=L.a.natAbs-L.c.natAbs:=by
    generalize mny L=m at e ⊢;generalize L.a=a at e g1 g2 ⊢;generalize L.c=c at e hr hc g1 g2 ⊢;rcases hr with ⟨q,h0,h1⟩|⟨q,h0,h1⟩
    ·have ha:0<a:=by
      rcases ilg 0 a with h|h
      ·exact h
      ·have:=Y1b (show a<0 by lia) q;lia
     have:=Th q (by lia) e h0 h1;lia
    ·have ha:a<0:=by
      rcases ilg a 0 with h|h
      ·exact h
      ·have:=Y1b (show 0<a by lia) (show 0 < -c by lia);have e9:a * -c=-(a*c):=Y2y _ _;lia
     have:=Th (a:=-a) (c:=-c) (m:=m) (r:=-r) (by lia) (by lia) (by rw[e];grind) (by lia) (by lia);lia
   have:=Zfl (show 0<=mny L by lia);lia
noncomputable def Wy (L:Q4)(z:List Nat):List Nat:=if L.a=1 then shW L.b++z else [116,116]++shW (-L.b)++z
theorem WI.fin {x L:Q4}{z:List Nat}(h:WI x L z)(hc:L.c=0):tb4 (Wy L z)=x/\(Wy L z).length<=1000/\∀ c∈Wy L z,(c==115||c==116)=true:=by
 obtain⟨l1,l2,l3,g4⟩:=h.le;have zl:z.length<=365:=by
  rcases h.ln with hz|⟨g1,g2,g3⟩
  ·subst hz;simp
  ·lia
 have ad:L.a*L.d=1:=by have:=h.det;unfold Q4.det at this;rw[hc]at this;lia
 have ha:(L.a=1/\L.d=1)\/(L.a=-1/\L.d=-1):=by
  have:=Zib ad;rcases this with e|e
  ·rw[e]at ad;left;lia
  ·rw[e]at ad;right;lia
 unfold Wy;rcases ha with ⟨e1,e2⟩|⟨e1,e2⟩
 ·rw[if_pos e1];refine⟨?_,?_,?_⟩
  ·rw[Xe,ZeB,<-h.is];congr 1;exact Q4.ext' e1.symm rfl hc.symm e2.symm
  ·have:=Va L.b;rw[Y0h];lia
  ·intro c hc;rcases Y0n.mp hc with h1|h1
   ·exact ZfK _ c h1
   ·exact h.st c h1
 ·rw[if_neg (by lia)];refine⟨?_,?_,?_⟩
  ·rw[Xe,Xe,ZeB,<-h.is];congr 1;refine Q4.ext' ?_ ?_ ?_ ?_<;>simp[Q4.mul,qs,tb4,l4,qT,q1,e1,e2,hc]
  ·have:=Va (-L.b);have e3:[116,116].length=2:=rfl;rw[Y0h,Y0h,e3];lia
  ·intro c hc;rcases Y0n.mp hc with h1|h1
   ·rcases Y0n.mp h1 with h2|h2
    ·have:c=116:=by simpa using h2
     subst this;decide
    ·exact ZfK _ c h2
   ·exact h.st c h1
theorem WI.start {x:Q4}(hd:x.det=1)(hl:Yb x):WI x x []:=⟨hd,Z88 x,hl,fun _ h=>(Y3h h).elim,.inl rfl⟩
noncomputable def wlp:Nat->Q4->List Nat->List Nat
 | 0,L,z=>Wy L z
 | n+1,L,z=>if L.c=0 then Wy L z else wlp n (Y3 L) ([116]++shW (mny L)++z)
noncomputable def YI (x:Q4):List Nat:=wlp x.c.natAbs x []
theorem ZbD {n:Nat}{L:Q4}{z:List Nat}(h:L.c=0):wlp n L z=Wy L z:=by
 cases n with
 | zero=>rfl
 | succ n=>exact if_pos h
theorem Zej {n:Nat}{L:Q4}{z:List Nat}(h:L.c≠0):wlp (n+1) L z=wlp n (Y3 L) ([116]++shW (mny L)++z):=if_neg h
theorem Ze8 {x:Q4}:∀ (n:Nat) (L:Q4) (z:List Nat),WI x L z->L.c.natAbs<=n->tb4 (wlp n L z)=x/\(wlp n L z).length<=1000/\∀ c∈wlp n L z,(c==115||c==116)=true
 | 0,L,z,h,hc=>h.fin (by lia)
 | n+1,L,z,h,hc=>by
  by_cases e:L.c=0
  ·rw[ZbD e];exact h.fin e
  ·rw[Zej e];obtain⟨h1,h2⟩:=h.step e;exact Ze8 n _ _ h1 (by lia)
theorem Z8z {x:Q4}(hd:x.det=1)(hl:Yb x):tb4 (YI x)=x/\(YI x).length<=1000/\∀ c∈YI x,(c==115||c==116)=true:=Ze8 _ x [] (WI.start hd hl) (Y05 _)
theorem ZbA {x:Q4}(h:Yb x):x.bt 6:=by
 obtain⟨h1,h2,h3,h4⟩:=h;exact⟨by show x.a.natAbs<2^6;lia,by show x.b.natAbs<2^6;lia,by show x.c.natAbs<2^6;lia,by show x.d.natAbs<2^6;lia⟩
theorem ZbG {L:Q4}:(qs (-(mny L))).mul L=⟨-(Y3 L).c,-(Y3 L).d,(Y3 L).a,(Y3 L).b⟩:=by
 rw[Z8f];refine Q4.ext' ?_ ?_ ?_ ?_<;>simp only[Q4.mul,qs]<;>grind
theorem Zcs {L:Q4}(h:Yb (Y3 L)):Yb ((qs (-(mny L))).mul L):=by
 rw[ZbG];obtain⟨h1,h2,h3,h4⟩:=h;exact⟨by show (-(Y3 L).c).natAbs<=60;lia,by show (-(Y3 L).d).natAbs<=60;lia,h1,h2⟩
theorem WI.len {x L:Q4}{z:List Nat}(h:WI x L z):z.length<=365:=by
 rcases h.ln with hz|⟨g1,g2,g3⟩
 ·subst hz;simp
 ·lia
end Sq
namespace K1
open PySem L2 Sq
theorem ZbC {n c:Nat}{x:List Nat×List Nat}(h:Zg n x.1 x.2):Zg n (mv1 n c x).1 (mv1 n c x).2:=by
 unfold mv1
 split
 ·exact h.shear
 ·exact h.turn
theorem SS {n:Nat}:∀ (z:List Nat) {x:List Nat×List Nat},Zg n x.1 x.2->Zg n (mvs n z x).1 (mvs n z x).2
 | [],_,h=>h
 | c::z,x,h=>SS z (x:=mv1 n c x) (ZbC h)
noncomputable abbrev NB (n:Nat)(x:List Nat×List Nat):List Bd:=XN n x.1 x.2 (XX n (ZF x.1 x.2))
noncomputable def lq (p q:Int):Q4:=⟨wt0 p q,wt1 p q,-q,p⟩
end K1
namespace Sq
open L2
variable {R:List Nat->List Nat->Prop}
def St (w:List Nat):Prop:=∀ c∈w,c=115\/c=116
end Sq
namespace K1
open PySem L2 Sq
end K1
namespace L2
open PySem PySem.Spec PyProof.Rows PySem.W
noncomputable def pd (a b:Nat):PyData:=.tuple [.int a,.int b]
noncomputable def XF (a b:Nat):List Int:=YX [a,b]
theorem Zey (a b a' b':Nat):HT.lexLt (XF a b) (XF a' b')=if a=a' then (if b=b' then false else decide (b<b')) else decide (a<a'):=by
 show HT.lexLt ((a:Int)::(b:Int)::[]) ((a':Int)::(b':Int)::[])=_;rw[HT.lexLt_cons,HT.lexLt_cons]
 by_cases e:a=a'
 ·rw[if_pos e,if_pos (by lia)]
  by_cases f:b=b'
  ·rw[if_pos f,if_pos (by lia)];exact Uj []
  ·rw[if_neg f,if_neg (by lia)];exact decide_eq_decide.mpr ⟨fun h=>by lia,fun h=>by lia⟩
 ·rw[if_neg e,if_neg (by lia)];exact decide_eq_decide.mpr ⟨fun h=>by lia,fun h=>by lia⟩
theorem Z6k {h:Heap}{x:Value}{a b:Nat}{as:List Addr}(r:Reads h x (pd a b) as):∃ (p:Addr) (o:Obj) (vs:Array Value) (n:Nat) (t t':Tok),x=.ref p/\h.get? p=some o/\o.cls=.type "tuple"/\o.data=.seq vs n/\vs.toList=[.int a t,.int b t']:=by
 cases r with
 | tuple h1 h2 h3 h4=>
  rename_i p o vs n;generalize hv:vs.toList=L at h4;cases h4 with
  | cons r1 t1=>
   cases t1 with
   | cons r2 t2=>
    cases t2;cases r1 with
    | int _ t=>
     cases r2 with
     | int _ t'=>exact⟨p,o,vs,n,t,t',rfl,h1,h2,h3,hv⟩
theorem Zdg {prog:Program}{w:World}{A:Around}{E:Value->Shared->Prop}{s:Shared}{x y:Value}{a b a' b':Nat}{as bs:List Addr}{Q:Bool->Shared->Prop}(rx:Reads s.heap x (pd a b) as)(ry:Reads s.heap y (pd a' b') bs)(hu:A.units+4<cLine)
  (h:Q (HT.lexLt (XF a b) (XF a' b')) s):wpAny (model prog w) A (keyLt' (tuples' true) x y) Q E s:=by
 obtain⟨p,o,vs,n,t1,t2,rfl,g1,_,g3,gv⟩:=Z6k rx;obtain⟨p',o',ws,n',t1',t2',rfl,k1,_,k3,kv⟩:=Z6k ry;refine kat_lt g1 g3 k1 k3 ?_;have e1:vs.size=2:=by rw[<-Y32,gv];rfl
 have e2:ws.size=2:=by rw[<-Y32,kv];rfl
 rw[gv,kv,e1,e2];rw[Zey]at h;refine kat_cons (SeqAt.EqAt.int_int (A:=A) (s:=s) (a:Int) t1 (a':Int) t1' prog w _ _ (kat_go (fun e=>kat_yes ?_) (fun e=>kat_no ?_)))
 ·have ea:a=a':=by have:=eq_of_beq e;lia
  rw[if_pos ea]at h;refine kat_cons (SeqAt.EqAt.int_int (A:=A) (s:=s) (b:Int) t2 (b':Int) t2' prog w _ _ (kat_go (fun e=>kat_yes (kat_nil ?_)) (fun e=>kat_no ?_)))
  ·have eb:b=b':=(by have:=eq_of_beq e;lia);rw[if_pos eb]at h;exact h
  ·have eb:¬ b=b':=fun z=>by rw[z]at e;simp at e
   rw[if_neg eb]at h;show wpAny (model prog w) A (oneLt' false _ _) Q _ s;refine kat_one _ _ (Z4c A s b b' t2 t2' prog w _ _ ?_);have ed:decide ((b:Int)<(b':Int))=decide (b<b'):=decide_eq_decide.mpr ⟨fun h=>by lia,fun h=>by lia⟩;rw[ed];exact h
 ·have ea:¬ a=a':=fun z=>by rw[z]at e;simp at e
  rw[if_neg ea]at h;show wpAny (model prog w) A (oneLt' true _ _) Q _ s;refine oneLt_int ?_;have ed:decide ((a:Int)<(a':Int))=decide (a<a'):=decide_eq_decide.mpr ⟨fun h=>by lia,fun h=>by lia⟩;rw[ed];exact h
theorem ZhW {K:Y00}{H:Hp}{x:Addr}{a b:Nat}(h:H x=some (.tup [.int (a:Int),.int (b:Int)])):Dt K H (.ref x) (pd a b):=.tup (SqT.of h) (.cons (.int _) (.cons (.int _) .nil))
section
variable {X:Cx}
def Z8B (K:Y00):List V->Hp->VK->Prop:=fun xs H Q=>∃ (p:Addr) (as:List Addr) (A B:Nat->Nat),xs=[.ref p]/\SqL K H p (as.map V.ref)/\as.length<64/\
 (∀ i,i<as.length->H (as.getD i 0)=some (.tup [.int (A i:Int),.int (B i:Int)]))/\
 ∀ (l:Addr) (π:List Nat),H l=none->π.Perm (Y02 as.length)->π.Pairwise (fun i j=>HT.lexLt (XF (A j) (B j)) (XF (A i) (B i))=false)->Q (.ref l) (upd H l (.lst ((π.map fun i=>as.getD i 0).map V.ref)))
theorem Z4s (hc:X.calm=true)(hu:X.A.units+10<cLine):YW X (.builtin "sorted") (Z8B X.K):=by
 intro pins s σ H xs us Q I rr h;obtain⟨p,as,A,B,rfl,hq,h64,hB,q⟩:=h;obtain⟨u,rfl,ru⟩:=YE rr;obtain rfl:u=Value.ref p:=ru;obtain⟨its,rv,pl,hz⟩:=I.list hq;have ei:=Z55 rv;subst ei;have hlen:(as.map Value.ref).length=as.length:=Y07 ..;have hget:∀ i,i<as.length->(as.map Value.ref).getD i Value.none=.ref (as.getD i 0):=fun i hi=>by
  simp[Y04,hi]
 let lt:Nat->Nat->Bool:=fun i j=>HT.lexLt (XF (A i) (B i)) (XF (A j) (B j))
 have hkl:∀ i j,i<as.length->j<as.length->kl (S2 lt as.length) i j=lt i j:=fun i j hi hj=>Zc7 (lt:=lt) (fun i=>Uj _) (fun i j k h1 h2=>Se (b:=XF (A j) (B j)) h1 h2) (fun i j k h=>ZdT (b:=XF (A j) (B j)) h) hi hj;have hrd:∀ i,i<as.length->∃ ps,Reads s.heap (.ref (as.getD i 0)) (pd (A i) (B i)) ps:=fun i hi=>Dt.reads I (ZhW (hB i hi)) rfl;have hfst:∀ i,∃ v:Value,i<as.length->∃ (t:Tok) (o:Obj) (xs:Array Value) (n:Nat),v=.int (A i) t/\s.heap.get? (as.getD i 0)=some o/\o.cls=.type "tuple"/\o.data=.seq xs n/\xs[0]?=some v:=fun i=>by
  by_cases hi:i<as.length
  ·obtain⟨ps,r⟩:=hrd i hi;obtain⟨p',o,vs,n,t,t',e,g1,g2,g3,gv⟩:=Z6k r;injection e with e
   subst e;exact⟨.int (A i) t,fun _=>⟨t,o,vs,n,rfl,g1,g2,g3,by rw[<-Y4j,gv];rfl⟩⟩
  ·exact⟨.none,fun z=>absurd z hi⟩
 refine Z3d (S2 lt as.length) (tuples' true) pl.isList (by rw[hlen];exact h64) (I.ok.hd hc) hu (fun c A' E' R s' _ hs hR=>?_) (fun c A' i j C' s' hu' hs hi hj hC=>?_) (fun h1 h2 tk e π p1 p2 hk he hk2=>?_)
 ·let F:Nat->Value:=fun i=>Classical.choose (hfst i)
  have hF:∀ i,i<as.length->∃ (t:Tok) (o:Obj) (xs:Array Value) (n:Nat),F i=.int (A i) t/\s.heap.get? (as.getD i 0)=some o/\o.cls=.type "tuple"/\o.data=.seq xs n/\xs[0]?=some (F i):=fun i hi=>Classical.choose_spec (hfst i) hi;refine kat_kind (T:=.type "int") (Z60 F fun i hi=>?_) (by simp;rw[hlen]at c;lia) (fun v hv=>?_) rfl (hR s'.toks)
  ·obtain⟨t,o,xs,n,_,g1,g2,g3,g4⟩:=hF i hi;exact⟨o,xs,n,hs _ _ g1,g2,g3,g4⟩
  ·obtain⟨i,hi,rfl⟩:=Y0g.mp hv;obtain⟨t,_,_,_,e,_⟩:=hF i (Y06.mp hi);rw[e];exact fun A'' Q'' E'' s'' hs'' q''=>wpAny_pure q''
 ·rw[hlen]at hi hj;unfold kas_ask;rw[hget i hi,hget j hj];obtain⟨pa,ra⟩:=hrd i hi;obtain⟨pb,rb⟩:=hrd j hj;have hC:=hC s'.toks;rw[hkl i j hi hj]at hC;exact Zdg (Reads.keeps hs ra) (Reads.keeps hs rb) (by lia) hC
 ·rw[hlen]at p1;have I1:Inv X pins σ H { s with heap:=h1,toks:=tk }:=I.kept hk;have hl:(π.map fun i=>as.getD i 0).length<64:=by rw[Y07,p1.length_eq,Y0v];exact h64
  have hv:(π.map fun i=>(as.map Value.ref).getD i Value.none)=(π.map fun i=>as.getD i 0).map Value.ref:=by
   rw[Y1n];refine Y1x fun i hi=>?_;exact hget i (Y06.mp (p1.mem_iff.mp hi))
  rw[hv]at he;refine⟨.ref h1.objs.size,_,I1.laid (a:=h1.objs.size) (o:=.lst ((π.map fun i=>as.getD i 0).map V.ref)) (h':=h2) (t':=tk) hk2 (Y05 _) ⟨?_,_,e,Z7i _,he⟩,rfl,q _ π (I1.hok.fresh (Y05 _)) p1 ?_⟩
  ·rw[Y07];exact Y16 (YR (by lia))
  ·refine p2.imp_of_mem fun {i j} hi hj hij=>?_;have hi:=Y06.mp (p1.mem_iff.mp hi);have hj:=Y06.mp (p1.mem_iff.mp hj);have:=hkl j i hj hi;show lt j i=false;rw[<-this];exact decide_eq_false (by lia)
end
end L2
namespace K1
open PySem L2 Sq
noncomputable abbrev Pr:Type:=Nat×Nat
noncomputable def pk (b:Pr):List Int:=XF b.1 b.2
theorem ZhD {b c:Pr}(h:pk b=pk c):b=c:=by
 have:=Z6w h;obtain⟨b1,b2⟩:=b;obtain⟨c1,c2⟩:=c;simp only[List.cons.injEq]at this;obtain⟨rfl,rfl,_⟩:=this
 rfl
def Uk (bs:List Pr):Prop:=bs.Pairwise fun x y=>HT.lexLt (pk y) (pk x)=false
theorem Z5y {bs cs:List Pr}(p:bs.Perm cs)(h1:Uk bs)(h2:Uk cs):bs=cs:=
 List.Perm.eq_of_pairwise (fun a b _ _ x y=>ZhD (Z7N y x)) h1 h2 p
def S5 (H:Hp)(a:Addr)(b:Pr):Prop:=H a=some (.tup [.int (b.1:Int),.int (b.2:Int)])
def Zo (H:Hp):List Addr->List Pr->Prop
 | [],[]=>True
 | a::as,b::bs=>S5 H a b/\Zo H as bs
 | _,_=>False
theorem Zo.len {H:Hp}:∀ {as:List Addr} {bs:List Pr},Zo H as bs->as.length=bs.length
 | [],[],_=>rfl
 | _::as,_::Ms,⟨_,h2⟩=>by simp[Zo.len h2]
 | [],_::_,h=>h.elim
 | _::_,[],h=>h.elim
theorem Zo.get {H:Hp}:∀ {as:List Addr} {bs:List Pr},Zo H as bs->∀ {i:Nat} {a:Addr},as[i]?=some a->∃ b,bs[i]?=some b/\S5 H a b
 | [],[],_,i,a,h=>by simp at h
 | b::as,M::Ms,⟨h1,h2⟩,0,a,h=>by simp at h;subst h;exact⟨M,rfl,h1⟩
 | b::as,M::Ms,⟨h1,h2⟩,i+1,a,h=>by
  obtain⟨M',e1,e2⟩:=Zo.get h2 (i:=i) (a:=a) (by simpa using h);exact⟨M',by simpa using e1,e2⟩
 | [],_::_,h,_,_,_=>h.elim
 | _::_,[],h,_,_,_=>h.elim
theorem Zo.snoc {H:Hp}:∀ {as:List Addr} {Ms:List Pr} {a:Addr} {M:Pr},Zo H as Ms->S5 H a M->Zo H (as++[a]) (Ms++[M])
 | [],[],_,_,_,h=>⟨h,trivial⟩
 | _::_,_::_,_,_,⟨h1,h2⟩,h=>⟨h1,Zo.snoc h2 h⟩
 | [],_::_,_,_,h,_=>h.elim
 | _::_,[],_,_,h,_=>h.elim
theorem Zo.mono {H H':Hp}(e:∀ b xs,H b=some (.tup xs)->H' b=some (.tup xs)):∀ {as:List Addr} {bs:List Pr},Zo H as bs->Zo H' as bs
 | [],[],_=>trivial
 | _::_,_::_,⟨h1,h2⟩=>⟨e _ _ h1,Zo.mono e h2⟩
 | [],_::_,h=>h.elim
 | _::_,[],h=>h.elim
theorem Zo.same {H H':Hp}{as:List Addr}{bs:List Pr}(s:Z5 H H')(h:Zo H as bs):Zo H' as bs:=Zo.mono (fun b xs h=>s _ _ h) h
theorem Zo.pick {H:Hp}{as:List Addr}{bs:List Pr}(h:Zo H as bs):∀ π:List Nat,(∀ i∈π,i<as.length)->Zo H (π.map fun i=>as.getD i 0) (π.map fun i=>bs.getD i (0,0))
 | [],_=>trivial
 | i::π,hi=>by
  refine⟨?_,Zo.pick h π fun j hj=>hi j (by simp[hj])⟩;have hlt:=hi i (by simp);have ha:as[i]?=some as[i]:=Y01 hlt;obtain⟨b,hb,hB⟩:=h.get ha;show S5 H (as.getD i 0) (bs.getD i (0,0));have e1:as.getD i 0=as[i]:=by rw[Y04,ha];rfl
  have e2:bs.getD i (0,0)=b:=by rw[Y04,hb];rfl
  rw[e1,e2];exact hB
theorem Z93 {K:Y00}{H:Hp}{p:Addr}{as:List Addr}{bs:List Pr}{Q:VK}(hp:H p=some (.lst (as.map V.ref)))(h:Zo H as bs)(hl:as.length<64)
  (k:∀ (l:Addr) (as':List Addr) (bs':List Pr),H l=none->Zo (upd H l (.lst (as'.map V.ref))) as' bs'->bs'.Perm bs->Uk bs'->Q (.ref l) (upd H l (.lst (as'.map V.ref)))):Z8B K [.ref p] H Q:=by
 have hlen:=h.len;refine⟨p,as,fun i=>(bs.getD i (0,0)).1,fun i=>(bs.getD i (0,0)).2,rfl,SqL.of hp,hl,fun i hi=>?_,fun l π hl0 hπ hs=>?_⟩
 ·have:=(h.pick [i] (by simpa using hi)).1;exact this
 ·refine k l _ (π.map fun i=>bs.getD i (0,0)) hl0 (Zo.mono (ZbI hl0) (h.pick π fun i hi=>Y06.mp (hπ.mem_iff.mp hi))) ?_ ?_
  ·have:=hπ.map (fun i=>bs.getD i ((0,0):Pr));rw[hlen,Z5R]at this;exact this
  ·exact Y1q.mpr hs
noncomputable def W9 (b:Bd):Pr:=(b.1,b.2.1)
noncomputable abbrev Za8 (K:Y00):TE:=Xm (ZI (tOp (Y0 K) (ZU 0) (tC (.int 0))) (ZI (tOp (Y0 K) (ZU 0) (tC (.int 1))) Zr))
theorem Zgu {K:Y00}{Hc:Hp}{tl te:TE}{g:TG}{m:Nat}{pull:List Nat}{Q:VK}{σ:St}(Pr:Hp->Addr->Prop)(hj:∀ R:VK,(∀ H1 a,Pr H1 a->R (.ref a) H1)->tl σ Hc R)
  (k:∀ H1 a,Pr H1 a->Yq (XZ K (fun _ H R=>R (.ref a) H)) m pull g te σ H1 Q):Yq (XZ K tl) m pull g te σ Hc Q:=hj _ fun H1 a h=>k H1 a h
theorem Zbn {K:Y00}{Hc:Hp}{a:Addr}{as:List Addr}{bs:List Bd}{pull:List Nat}{Q:VK}{σ:St}{rest:St}(hp:Hc a=some (.lst (as.map V.ref)))(hB:Zm Hc as bs)(hb:bst 1 pull σ=none::rest)(hm:as.length<=1000)
  (k:∀ (H':Hp) (d:Addr) (ps:List Addr),Z5 Hc H'->Hc d=none->H' d=some (.lst (ps.map V.ref))->Zo H' ps (bs.map W9)->Q (.ref d) H') :
  Yq (XZ K (fun _ H R=>R (.ref a) H)) 1 pull (Zs 0) (Za8 K) σ Hc Q:=by
 have hlen:=hB.len;have sl2:2<=sizeLine:=by decide
 refine⟨a,rfl,⟨_,SqL.of hp⟩,fun d hd=>?_⟩;rw[hb];refine Z7D (J:=Itl K a) (Q:=fun d H'=>Q (.ref d) H') as.length (fun i xs σ H9=>(∃ o,σ=o::rest)/\Z5 Hc H9/\∃ ps:List Addr,xs=ps.map V.ref/\ps.length=i/\Zo H9 ps ((bs.take i).map W9)) ⟨⟨_,rfl⟩,ZS (Z5.refl _) hd,[],rfl,rfl,trivial⟩ ?_ ?_
 ·rintro i xs σ H9 hi ⟨⟨o,rfl⟩,s9,ps,rfl,la,hP⟩ hd9;have hq:=SqL.of (K:=K) (s9 _ _ hp);have ha:as[i]?=some as[i]:=Y01 hi;generalize as[i]=b at ha;obtain⟨B,hBi,t,h1,h2⟩:=hB.get ha;have hmi:(as.map V.ref)[i]?=some (.ref b):=by rw[Y0l,ha];rfl
  refine⟨⟨_,_,hq,hmi⟩,fun y H4 ⟨e1,hy⟩=>?_⟩;subst e1;have hy:=hy _ hq;rw[hmi]at hy;cases hy;have h1':=SqT.of (K:=K) (s9 _ _ h1);refine⟨_,rfl,b,_,0,_,rfl,rfl,h1',Z0 (j:=0) rfl,_,rfl,b,_,1,_,rfl,rfl,h1',Z0 (j:=1) rfl,sl2,fun x hx=>?_⟩;have ux:=ZS (o:=.tup [.int (B.1:Int),.int (B.2.1:Int)]) (Z5.refl H4) hx;have hd6:=ux _ _ hd9;refine VZ hi hd6 (by rw[Y07];omega) ⟨⟨_,rfl⟩,ZS (s9.trans ux) hd,ps++[x],by simp,by simp[la],?_⟩;have ef:(bs.take (i+1)).map W9=(bs.take i).map W9++[W9 B]:=by rw[Y1j,hBi,Y1z];rfl
  rw[ef];exact Zo.mono (ZbL hd6) (Zo.snoc (hP.same ux) (by show _=_;rw[ZR];rfl))
 ·rintro xs σ H9 ⟨⟨o,rfl⟩,s9,ps,rfl,la,hP⟩ hd9;rw[hlen,Y2n]at hP;exact⟨⟨_,SqL.of (s9 _ _ hp),by rw[Y07];exact Y05 _⟩,k H9 d ps s9 hd hd9 hP⟩
noncomputable def pD (b:Pr):PyData:=pd b.1 b.2
noncomputable def psD (bs:List Pr):PyData:=.list (bs.map pD)
theorem ZdD {K:Y00}{H:Hp}:∀ {as:List Addr} {bs:List Pr},Zo H as bs->Yd K H (as.map V.ref) (bs.map pD)
 | [],[],_=>.nil
 | _::_,_::_,⟨h1,h2⟩=>.cons (ZhW h1) (ZdD h2)
 | [],_::_,h=>h.elim
 | _::_,[],h=>h.elim
theorem Zdp {K:Y00}{H:Hp}{p:Addr}{as:List Addr}{bs:List Pr}(h:H p=some (.lst (as.map V.ref)))(hB:Zo H as bs):Dt K H (.ref p) (psD bs):=.lst (SqL.of h) (ZdD hB)
theorem ZgU (b:Pr):PyData.eqv (pD b) (pD b)=true:=by
 show (((b.1:Int)==(b.1:Int))&&(((b.2:Int)==(b.2:Int))&&true))=true;simp
theorem ZeN (bs:List Pr):PyData.eqv (psD bs) (psD bs)=true:=by
 show PyData.eqvAll (bs.map pD) (bs.map pD)=true
 induction bs with
 | nil=>rfl
 | cons M Ms ih=>
  show (PyData.eqv (pD M) (pD M)&&PyData.eqvAll (Ms.map pD) (Ms.map pD))=true;rw[ih,ZgU];rfl
theorem ZaQ (bs:List Pr):(psD bs).canLay0=true:=by
 show PyData.canLayAll0 (bs.map pD)=true
 induction bs with
 | nil=>rfl
 | cons M Ms ih=>
  show (PyData.canLay0 (pD M)&&PyData.canLayAll0 (Ms.map pD))=true;rw[ih];rfl
theorem Zc4 (bs:List Pr):(psD bs).depth<=64:=by
 show PyData.depthAll (bs.map pD)+1<=64;have:PyData.depthAll (bs.map pD)<=1:=by
  induction bs with
  | nil=>exact Y12 _
  | cons M Ms ih=>
   show max (PyData.depth (pD M)) (PyData.depthAll (Ms.map pD))<=1;have:PyData.depth (pD M)=1:=rfl;omega
 omega
end K1
namespace Sq
end Sq
namespace K1
open PySem L2 Sq
noncomputable def act (x:Q4)(p q:Int):Int×Int:=(x.a*p+x.b*q,x.c*p+x.d*q)
theorem Zbk (x y:Q4)(p q:Int):act (x.mul y) p q=act x (act y p q).1 (act y p q).2:=by
 unfold act;refine Prod.ext ?_ ?_<;>simp only[Q4.mul]<;>grind
theorem Zfm {p q:Int}(h1:p.natAbs<=60)(h2:q.natAbs<=60)(h3:Y1v p q=1):tb4 (YI (lq p q))=lq p q/\St (YI (lq p q))/\act (lq p q) p q=(1,0):=by
 obtain⟨w1,w2,w3⟩:=ZdU h1 h2 h3;have hdet:(lq p q).det=1:=by
  show wt0 p q*p-wt1 p q*(-q)=1;rw[Y2y];lia
 have hl60:Yb (lq p q):=⟨w1,w2,by show (-q).natAbs<=60;lia,by show p.natAbs<=60;lia⟩;obtain⟨e1,_,e3⟩:=Z8z hdet hl60;refine⟨e1,fun c hc=>by simpa using e3 c hc,?_⟩;show (wt0 p q*p+wt1 p q*q,-q*p+p*q)=_;rw[w3,Y3b,Y0d q p];simp;lia
noncomputable abbrev Ve:Stmt:=Z7O ZfW 0
theorem ZjU:¬ (("top":Str)="bottom"):=by decide +kernel
noncomputable def VU (t b:Int):List (Str×V):=YF "bottom" (.int b) (YF "top" (.int t) [])
theorem Vu (t b:Int):(VU t b).lookup ("top":Str)=some (.int t):=by
 unfold VU;rw[Wt,if_neg ZjU,Wt,if_pos rfl]
theorem Xy (t b:Int):(VU t b).lookup ("bottom":Str)=some (.int b):=by
 unfold VU;rw[Wt,if_pos rfl]
theorem Zbh (t b:Int){m:Str}(h1:¬ m="bottom")(h2:¬ m="top"):(VU t b).lookup m=none:=by
 unfold VU;rw[Wt,if_neg h1,Wt,if_neg h2]
 all_goals rfl
def YV (C:Addr)(H:Hp)(p:Addr)(t b:Int):Prop:=∃ dx,H p=some (.ins C dx (VU t b))
theorem YV.same {C p:Addr}{H H':Hp}{t b:Int}(h:YV C H p t b)(s:Z5 H H'):YV C H' p t b:=let ⟨dx,e⟩:=h;⟨dx,s _ _ e⟩
structure PTx (K:Y00)(mg:Str->Option Value)(C:Addr):Prop where
 cl:Cls K C
 nT:WH K C "top"
 nB:WH K C "bottom"
 mgC:mg "Part"=some (.ref C)
 kt:Y2i K (.ref C) (.ref C)=some true
 ha:Y15 K (.ref C) "__class__"=some (some (.builtin "object.__class__"))
 hn:Y4d K (.builtin "object.__class__") "__get__"=some (some (.builtin "getset_descriptor.__get__"))
 htk:Y4u K (.builtin "object.__class__")=some true
 hm:Y5q K C (.type "object")=some true
theorem ZcF {i B:Int}(hB:0<B):Z1 i B/Z8 i B=i/B:=by
 have e1:=WV i B;have e2:=XA i B;have hd:=Zbs (t:=i) hB;generalize Z1 i B=z at *;generalize Z8 i B=u at *;generalize dv i B=p at *;have e3:i/B=z/u:=by rw[<-e1,<-e2,Y0d z p,Y0d u p,Int.mul_ediv_mul_of_pos _ _ hd]
 rw[e3]
noncomputable def pm1 (B:Int)(c:Nat)(x:List Nat×List Nat)(p:Nat×Int×Int):Nat×Int×Int:=
 if c=115 then (if p.2.1+p.2.2<B then (p.1,p.2.1+p.2.2,p.2.2) else (nx x.1 p.1,p.2.1+p.2.2-B,p.2.2)) else (if p.2.2=0 then (nx (back x.2) p.1,0,p.2.1) else (p.1,B-p.2.2,p.2.1))
noncomputable def pms (n:Nat)(B:Int):List Nat->List Nat×List Nat->Nat×Int×Int->Nat×Int×Int
 | [],_,p=>p
 | c::z,x,p=>pms n B z (mv1 n c x) (pm1 B c x p)
noncomputable def ik5 (x:Nat):Key:=Sum.inl (x:Int)
def WN (n:Nat)(w:List Nat)(s:Nat)(v:V):Prop:=∃ M∈Za n w,s∈M/\v=.int ((M.getD 0 0:Nat):Int)
theorem Zch {kvs:List (Key×V)}{k:Key}{v:V}(h:Y2 kvs k=some v):∃ kv∈kvs,kv.1=k/\kv.2=v:=by
 unfold Y2 at h;cases e:kvs.find? (fun kv=>decide (kv.1=k)) with
 | none=>rw[e]at h;cases h
 | some kv=>
  rw[e]at h;exact⟨kv,Y5j e,(by have:=List.find?_some e;simpa using this),Option.some.inj h⟩
def Z6h:Sp:=fun vs H Q _=>∃ (a:Addr) (n:Nat) (r u:List Nat),vs=[.ref a]/\Zn H a r u/\Row n r/\Row n u/\n<=36/\
 ∀ (H':Hp) (d:Addr) (kvs:List (Key×V)),Z5 H H'->H d=none->H' d=some (.dK kvs)->kvs.map (·.1)=(Zj n (ZF r u)).map ik5->(∀ kv∈kvs,∀ s:Nat,kv.1=ik5 s->WN n (ZF r u) s kv.2)->Q (.ref d) H'
theorem Z76 {kvs:List (Key×V)}{F:List Nat}(h:kvs.map (·.1)=F.map ik5){y:Nat}(hy:y∉F):Y2 kvs (ik5 y)=none:=by
 cases e:Y2 kvs (ik5 y) with
 | none=>rfl
 | some v=>
  have:=ZfR e;rw[h]at this;obtain⟨x,hx,ex⟩:=Y0g.mp this;have:x=y:=by have:=Sum.inl.inj ex;lia
  exact absurd (this ▸ hx) hy
section
variable {P:Program}{w:World}{K:Y00}{mg:Str->Option Value}{base:Heap}
noncomputable abbrev nRs5:List Str:=["sheet","least","corner","square"]
theorem RK:ZL nRs5 ["sheet"] (ZV VI):=⟨rfl,rfl,rfl,by decide +kernel,rfl,by decide +kernel,by decide +kernel⟩
set_option maxHeartbeats 2000000 in
theorem Zar {f fc:Addr}{fd fdc:FuncData}(T:Bi mg)(F:Fn K mg "rough_squares" VI ["sheet"] f fd)(FC:Fn K mg "corners" UA ["sheet"] fc fdc)(GC:Z4 P w K mg base CX0 6 fc fdc ["sheet"] Z7r) :
  Z4 P w K mg base CX0 7 f fd ["sheet"] Z6h:=by
 refine F.F.ok RK (fun vs H Q E h=>?_) (fun cdv A outer s H vs Q E hr h=>?_)
 ·obtain⟨a,n,r,u,rfl,_⟩:=h;rfl
 ·obtain⟨a,n,r,u,rfl,hsh,rr,ru,hn,k⟩:=h;have hu:=RR hr;refine⟨_,Z3 (ZW (i:=1) RK.nd rfl (Or.inl rfl) ZcR)
   (Z3 (Yg PassesOwn.never rfl (Yl (ZT GC hr rfl FC.m FC.F.kp FC.b .nil ZQ (Z9 (pv 0) Z7))) (Zu (i:=2) RK.nd rfl (Or.inl rfl))
    (ZY (Zy (ZE Ye (ZG Y5 rfl T.len PySem.boot_len (Z9 (pv 2) Z7)) Z6 (ZH _))
     (ZY (Yg PassesOwn.never rfl (Yl (pv 2)) (Zu (i:=3) RK.nd rfl (Or.inl rfl))
      (ZY (ZeV hu (pv 1) (pv 3) (Z2 YG (pv 2) Z6 (fun _ _=>rfl)) rfl)))) Zw)))
   (ZY (ZO (pv 1)))),?_⟩
  intro d hd;have s0:Z5 H (upd H d (.dK [])):=ZS (Z5.refl H) hd;have rl:=UH rr ru;refine⟨_,rfl,a,n,r,u,rfl,hsh.same s0,rr,ru,hn,fun H1 l as s1 fl hl fr hL=>?_⟩;have e1:H1 d=some (.dK []):=s1 _ _ ZR;have hlen:=hL.len;have hnd:=ZaM rl;have hrl:=Z5E rl;have ndl:l≠d:=fun e=>by rw[e,ZR]at fl;cases fl
  refine⟨l,rfl,⟨_,SqL.of hl⟩,SL (K:=K) (a:=l) (xs:=rv as) (fun i σ H2=>∃ o2 o3 kvs,σ=[some (.ref a),some (.ref d),o2,o3]/\(∀ b o,b≠d->H1 b=some o->H2 b=some o)/\H2 d=some (.dK kvs)/\kvs.map (·.1)=((((Za n (ZF r u)).take i).filter fun M=>decide (1<M.length)).flatten).map ik5/\(∀ kv∈kvs,∀ s:Nat,kv.1=ik5 s->WN n (ZF r u) s kv.2)) ⟨_,_,[],rfl,fun _ _ _ h=>h,e1,rfl,fun kv h=>nomatch h⟩ (fun i σ H2 _ ⟨_,_,_,_,s2,_⟩=>SqL.of (s2 _ _ ndl hl)) ?_ ?_⟩
  ·rintro i x σ H2 hx ⟨o2,o3,kvs,rfl,s2,h2d,hk,hlv⟩;have hi:i<as.length:=by
    have:=(Y08.mp hx).1
    rwa [Vh]at this
   have ha:as[i]?=some as[i]:=Y01 hi;generalize as[i]=b at ha;rw[Sf ha]at hx;cases hx;obtain⟨M,hM,hB⟩:=hL.get ha;have nbd:b≠d:=fun e=>by
    have:=fr b (Y0r ha);rw[e,ZR]at this;cases this
   have hB2:=s2 _ _ nbd hB;have hfl:(((Za n (ZF r u)).take (i+1)).filter fun M=>decide (1<M.length)).flatten=((((Za n (ZF r u)).take i).filter fun M=>decide (1<M.length)).flatten)++(if 1<M.length then M else []):=by
    rw[Y1j,hM,Y1t,Y41];congr 1
    by_cases c:1<M.length
    ·simp[c]
    ·simp[c]
   have hsplit:Zj n (ZF r u)=((((Za n (ZF r u)).take (i+1)).filter fun M=>decide (1<M.length)).flatten)++((((Za n (ZF r u)).drop (i+1)).filter fun M=>decide (1<M.length)).flatten):=by
    unfold Zj;rw[<-Y41,<-Y1t,Y4k]
   refine⟨_,rfl,b,_,rfl,.inl (SqL.of hB2),_,_,rfl,rfl,_,rfl,?_⟩;rw[ZA];refine Yv (fun hgt=>?_) (fun hle=>?_)
   ·have hgt:(1:Int)<(M.length:Int):=of_decide_eq_true hgt;have hgt':1<M.length:=(by lia);rw[if_pos hgt']at hfl;generalize hFe:(((Za n (ZF r u)).take i).filter fun M=>decide (1<M.length)).flatten=Fl at hk hfl;rw[hfl]at hsplit;have hnd2:(Fl++M).Nodup:=(by rw[hsplit]at hnd;exact (Y5n.mp hnd).1);have hlen2:Fl.length+M.length<=36:=by
     have:=congrArg Y2q hsplit;rw[Y0h,Y0h]at this;lia
    have h0:M[0]?=some (M[0]'(by lia)):=Y01 (by lia);refine⟨_,rfl,b,rfl,⟨_,SqL.of hB2⟩,SL (K:=K) (a:=b) (xs:=nv M) (fun j σ H3=>∃ o3 kvs,σ=[some (.ref a),some (.ref d),some (.ref b),o3]/\(∀ b o,b≠d->H1 b=some o->H3 b=some o)/\H3 d=some (.dK kvs)/\kvs.map (·.1)=(Fl++M.take j).map ik5/\(∀ kv∈kvs,∀ s:Nat,kv.1=ik5 s->WN n (ZF r u) s kv.2)) ⟨_,kvs,rfl,s2,h2d,by rw[List.take_zero,Y1o];exact hk,hlv⟩ (fun j σ H3 _ ⟨_,_,_,s3,_⟩=>SqL.of (s3 _ _ nbd hB)) ?_ ?_⟩
    ·rintro j v σ H3 hv ⟨o3,kvs3,rfl,s3,h3d,hk3,hlv3⟩;obtain⟨y,hy,rfl⟩:=Sz hv;have hj:j<M.length:=(Y08.mp hy).1;have hB3:=s3 _ _ nbd hB;have hmt:M.take (j+1)=M.take j++[y]:=(by rw[Y1j,hy];rfl);have hny:y∉Fl++M.take j:=by
      have e:Fl++M=(Fl++M.take j)++(y::M.drop (j+1)):=by
       rw[Y2s];congr 1;have e1:y=M[j]:=(by rw[Y01 hj]at hy;exact (Option.some.inj hy).symm);rw[e1,<-Y3a hj,Y4k]
      rw[e]at hnd2;exact fun z=>(Y5n.mp hnd2).2.2 y z y (by simp) rfl
     have hvn:=Z76 hk3 hny;have hkl:kvs3.length=(Fl++M.take j).length:=by simpa using congrArg Y2q hk3
     have hkl2:(Fl++M.take j).length<=36:=(by rw[Y0h,Y3u];lia);refine⟨_,rfl,b,_,0,_,rfl,rfl,SqL.of hB3,Z0 (j:=0) (Zp h0),_,rfl,_,rfl,d,_,rfl,S4.k (k:=ik5 y) h3d (by rw[hkl];exact YR (by lia)),?_⟩;rw[Ul _ hvn];refine⟨_,_,rfl,fun c o hc ho=>by rw[ZK hc];exact s3 c o hc ho,ZR,?_,fun kv hkv s' es=>?_⟩
     ·rw[Y1z,hk3,hmt];simp
     ·have hkv:kv∈kvs3\/kv=(ik5 y,.int ((M[0]'(by lia):Nat):Int)):=by simpa using hkv
      rcases hkv with hkv|rfl
      ·exact hlv3 kv hkv s' es
      ·have es:y=s':=(by have:=Sum.inl.inj es;lia);subst es;refine⟨M,Y0r hM,Y0r hy,?_⟩;rw[Y04,h0];rfl
    ·rintro σ H3 ⟨o3,kvs3,rfl,s3,h3d,hk3,hlv3⟩;rw[ZA,Y2n]at hk3;exact⟨_,_,_,rfl,s3,h3d,by rw[hfl];exact hk3,hlv3⟩
   ·have hle:¬ (1:Int)<(M.length:Int):=fun z=>hle (decide_eq_true z);rw[if_neg (by lia),Y1o]at hfl;exact⟨_,_,kvs,rfl,s2,h2d,by rw[hfl];exact hk,hlv⟩
  ·rintro σ H2 ⟨o2,o3,kvs,rfl,s2,h2d,hk,hlv⟩;rw[Vh,hlen,Y2n]at hk;exact⟨_,rfl,k H2 d kvs (fun b o ho=>s2 _ _ (fun e=>by rw[e,hd]at ho;cases ho) (s1 _ _ (s0 _ _ ho))) hd h2d hk hlv⟩
end
end K1
namespace Sq
noncomputable def sid (U a s:Int):Int:=if 0<s then (U-a)/s else if s<0 then a / -s else U
noncomputable def ou (p U x:Int):Int:=if p<0/\x=0 then U else x
noncomputable def z0 (U x:Int):Int:=if x=U then 0 else x
noncomputable def lo (p x:Int)(c:Nat):List Nat:=if p<0/\x=0 then [c] else []
noncomputable def li (U x:Int)(c:Nat):List Nat:=if x=U then [c] else []
structure WS where
 x:Int
 y:Int
 t:Int
 w:List Nat
noncomputable def Y6 (p q U M:Int)(s:WS):Int:=min (min (sid U (ou p U s.x) p) (sid U (ou q U s.y) q)) (M-s.t)
noncomputable def stp (p q U M:Int)(s:WS):WS:=⟨z0 U (ou p U s.x+p*Y6 p q U M s),z0 U (ou q U s.y+q*Y6 p q U M s),s.t+Y6 p q U M s,
 s.w++(lo p s.x 0++(lo q s.y 1++(li U (ou p U s.x+p*Y6 p q U M s) 2++li U (ou q U s.y+q*Y6 p q U M s) 3)))⟩
noncomputable def ws (p q U M X Y:Int):Nat->WS
 | 0=>⟨X,Y,0,[]⟩
 | i+1=>stp p q U M (ws p q U M X Y i)
structure WIn (p q U M:Int)(s:WS):Prop where
 x0:0<=s.x
 x1:s.x<U
 y0:0<=s.y
 y1:s.y<U
 t0:0<=s.t
 t1:s.t<=M
 px:p≠0->p∣s.x
 qy:q≠0->q∣s.y
structure WOk (p q U:Int):Prop where
 u:0<U
 n:¬ (p=0/\q=0)
 p:p≠0->p∣U
 q:q≠0->q∣U
theorem Tu {p U x:Int}(hU:0<U)(h0:0<=x)(h1:x<U):0<=ou p U x/\ou p U x<=U:=by
 unfold ou;split<;>lia
theorem V5 {p U x:Int}(hU:p∣U)(hx:p∣x):p∣ou p U x:=by
 unfold ou;split
 ·exact hU
 ·exact hx
theorem Ub {p U x:Int}(hU:0<U)(h0:0<=x)(h1:x<U)(dU:p≠0->p∣U)(dx:p≠0->p∣x):1<=sid U (ou p U x) p:=by
 unfold sid
 by_cases hp:0<p
 ·rw[if_pos hp];have e:ou p U x=x:=by unfold ou;rw[if_neg (by lia)]
  rw[e];obtain⟨k,hk⟩:=Y4x (dU (by lia)) (dx (by lia));rw[hk,Y0m _ (by lia)];have:0<p*k:=by lia
  exact Y5p this (by lia)
 ·rw[if_neg hp]
  by_cases hn:p<0
  ·rw[if_pos hn];have hpos:0<ou p U x:=(by unfold ou;split<;>lia);obtain⟨k,hk⟩:=V5 (dU (by lia)) (dx (by lia));have e:ou p U x=(-p)*(-k):=(by rw[hk];rw[Y4w]);rw[e,Y0m _ (by lia)];rw[e]at hpos;exact Y5p hpos (by lia)
  ·rw[if_neg hn];lia
theorem XM {p U x m:Int}(hU:0<U)(h0:0<=x)(h1:x<U)(hm:1<=m)(hs:m<=sid U (ou p U x) p):0<=ou p U x+p*m/\ou p U x+p*m<=U/\(p<=0->ou p U x+p*m<U):=by
 unfold sid at hs;have ho:=Tu (p:=p) hU h0 h1
 by_cases hp:0<p
 ·rw[if_pos hp]at hs;have:=Int.mul_le_of_le_ediv hp hs;have e:m*p=p*m:=Y0d _ _;have:0<=p*m:=Y1l (by lia) (by lia);refine⟨by lia,by lia,fun z=>by lia⟩
 ·rw[if_neg hp]at hs
  by_cases hn:p<0
  ·rw[if_pos hn]at hs;have h2:=Int.mul_le_of_le_ediv (show 0 < -p by lia) hs;have e:m * -p=-(p*m):=(by rw[Y2y,Y0d]);have h3:1*1<=m * -p:=Int.mul_le_mul hm (by lia) (by lia) (by lia);refine⟨by lia,by lia,fun _=>by lia⟩
  ·have e:p=0:=(by lia);subst e;have e2:ou 0 U x=x:=(by unfold ou;rw[if_neg (by lia)]);rw[e2,Y43];exact⟨by lia,by lia,fun _=>by lia⟩
theorem RG {U x:Int}(hU:0<U)(h0:0<=x)(h1:x<=U):0<=z0 U x/\z0 U x<U:=by
 unfold z0;split<;>lia
theorem Sn {p U x:Int}(h:p∣x):p∣z0 U x:=by
 unfold z0;split
 ·exact Y5c p
 ·exact h
theorem Z8v {p q U M:Int}{s:WS}(o:WOk p q U)(h:WIn p q U M s)(ht:s.t<M):1<=Y6 p q U M s:=by
 have a:=Ub o.u h.x0 h.x1 o.p h.px;have b:=Ub o.u h.y0 h.y1 o.q h.qy;unfold Y6;lia
theorem Zeh {p q U M:Int}{s:WS}(o:WOk p q U)(h:WIn p q U M s)(ht:s.t<M):WIn p q U M (stp p q U M s)/\s.t<(stp p q U M s).t:=by
 have m1:=Z8v o h ht;have ha:Y6 p q U M s<=sid U (ou p U s.x) p:=by unfold Y6;lia
 have hb:Y6 p q U M s<=sid U (ou q U s.y) q:=by unfold Y6;lia
 have hc:Y6 p q U M s<=M-s.t:=by unfold Y6;lia
 obtain⟨a1,a2,_⟩:=XM o.u h.x0 h.x1 m1 ha;obtain⟨b1,b2,_⟩:=XM o.u h.y0 h.y1 m1 hb;have za:=RG o.u a1 a2;have zb:=RG o.u b1 b2;have:=h.t0;refine⟨⟨za.1,za.2,zb.1,zb.2,?_,?_,fun hp=>?_,fun hq=>?_⟩,?_⟩
 ·show 0<=s.t+Y6 p q U M s;lia
 ·show s.t+Y6 p q U M s<=M;lia
 ·exact Sn (Y4f (V5 (o.p hp) (h.px hp)) (Y1r p _))
 ·exact Sn (Y4f (V5 (o.q hq) (h.qy hq)) (Y1r q _))
 ·show s.t<s.t+Y6 p q U M s;lia
noncomputable def lt4 (r u:List Nat)(s c:Nat):Nat:=if c=0 then nx (back r) s else if c=1 then nx (back u) s else if c=2 then nx r s else nx u s
noncomputable def ZC (r u:List Nat)(w:List Nat)(s:Nat):Nat:=w.foldl (lt4 r u) s
theorem Yt (r u w w':List Nat)(s:Nat):ZC r u (w++w') s=ZC r u w' (ZC r u w s):=by unfold ZC;rw[Y3c]
theorem Zc6 {n:Nat}{r u:List Nat}(hr:Row n r)(hu:Row n u){s:Nat}(hs:s<n)(c:Nat):lt4 r u s c<n:=by
 unfold lt4
 split
 ·exact hr.back.nlt hs
 split
 ·exact hu.back.nlt hs
 split
 ·exact hr.nlt hs
 ·exact hu.nlt hs
theorem WR {n:Nat}{r u:List Nat}(hr:Row n r)(hu:Row n u):∀ (w:List Nat) {s:Nat},s<n->ZC r u w s<n
 | [],_,h=>h
 | c::w,s,h=>WR hr hu w (Zc6 hr hu h c)
theorem Sx (r u:List Nat)(p x:Int)(s:Nat):ZC r u (lo p x 0) s=if p<0/\x=0 then nx (back r) s else s:=by
 unfold lo;split<;>rfl
theorem SK (r u:List Nat)(p x:Int)(s:Nat):ZC r u (lo p x 1) s=if p<0/\x=0 then nx (back u) s else s:=by
 unfold lo;split<;>rfl
theorem SB (r u:List Nat)(U x:Int)(s:Nat):ZC r u (li U x 2) s=if x=U then nx r s else s:=by
 unfold li;split<;>rfl
theorem SJ (r u:List Nat)(U x:Int)(s:Nat):ZC r u (li U x 3) s=if x=U then nx u s else s:=by
 unfold li;split<;>rfl
noncomputable def c4 (c:Nat)(w:List Nat):Int:=(w.count c:Int)
theorem Zee (c:Nat)(w w':List Nat):c4 c (w++w')=c4 c w+c4 c w':=by unfold c4;rw[List.count_append];lia
theorem ZhC (c d:Nat)(p x:Int):c4 c (lo p x d)=if (p<0/\x=0)/\d=c then 1 else 0:=by
 unfold lo c4
 by_cases h:p<0/\x=0
 ·rw[if_pos h]
  by_cases e:d=c
  ·subst e;rw[if_pos ⟨h,rfl⟩];simp
  ·rw[if_neg fun z=>e z.2];simp[e]
 ·rw[if_neg h,if_neg fun z=>h z.1];rfl
theorem ZiI (c d:Nat)(U x:Int):c4 c (li U x d)=if x=U/\d=c then 1 else 0:=by
 unfold li c4
 by_cases h:x=U
 ·rw[if_pos h]
  by_cases e:d=c
  ·subst e;rw[if_pos ⟨h,rfl⟩];simp
  ·rw[if_neg fun z=>e z.2];simp[e]
 ·rw[if_neg h,if_neg fun z=>h z.1];rfl
theorem ZjV {p q U M:Int}{s:WS}:(stp p q U M s).x+U*(c4 2 (stp p q U M s).w-c4 0 (stp p q U M s).w)=s.x+U*(c4 2 s.w-c4 0 s.w)+p*Y6 p q U M s:=by
 show z0 U (ou p U s.x+p*Y6 p q U M s)+U*(c4 2 (s.w++_)-c4 0 (s.w++_))=_;simp only[Zee,ZhC,ZiI];generalize Y6 p q U M s=m;unfold z0 ou;generalize c4 2 s.w=a;generalize c4 0 s.w=b;have e1:U*(a-b)=U*a-U*b:=Y0s _ _ _
 by_cases h:p<0/\s.x=0
 ·by_cases k:U+p*m=U
  ·simp[h,k,Y0s,Y17];lia
  ·simp[h,k,Y0s,Y17];lia
 ·by_cases k:s.x+p*m=U
  ·simp[h,k,Y0s,Y17];lia
  ·simp[h,k,Y0s,Y17];lia
theorem ZkQ {p q U M:Int}{s:WS}:(stp p q U M s).y+U*(c4 3 (stp p q U M s).w-c4 1 (stp p q U M s).w)=s.y+U*(c4 3 s.w-c4 1 s.w)+q*Y6 p q U M s:=by
 show z0 U (ou q U s.y+q*Y6 p q U M s)+U*(c4 3 (s.w++_)-c4 1 (s.w++_))=_;simp only[Zee,ZhC,ZiI];generalize Y6 p q U M s=m;unfold z0 ou;generalize c4 3 s.w=a;generalize c4 1 s.w=b
 by_cases h:q<0/\s.y=0
 ·by_cases k:U+q*m=U
  ·simp[h,k,Y0s,Y17];lia
  ·simp[h,k,Y0s,Y17];lia
 ·by_cases k:s.y+q*m=U
  ·simp[h,k,Y0s,Y17];lia
  ·simp[h,k,Y0s,Y17];lia
theorem Tf (p q U M X Y:Int):∀ i,(ws p q U M X Y i).x+U*(c4 2 (ws p q U M X Y i).w-c4 0 (ws p q U M X Y i).w)=X+p*(ws p q U M X Y i).t
 | 0=>by show X+U*(0-0)=X+p*0;simp
 | i+1=>by
  have ih:=Tf p q U M X Y i;have h:=ZjV (p:=p) (q:=q) (U:=U) (M:=M) (s:=ws p q U M X Y i);show (stp p q U M (ws p q U M X Y i)).x+U*(c4 2 (stp p q U M (ws p q U M X Y i)).w-c4 0 (stp p q U M (ws p q U M X Y i)).w)=X+p*((ws p q U M X Y i).t+Y6 p q U M (ws p q U M X Y i));rw[h,ih,Y17];lia
theorem S7 (p q U M X Y:Int):∀ i,(ws p q U M X Y i).y+U*(c4 3 (ws p q U M X Y i).w-c4 1 (ws p q U M X Y i).w)=Y+q*(ws p q U M X Y i).t
 | 0=>by show Y+U*(0-0)=Y+q*0;simp
 | i+1=>by
  have ih:=S7 p q U M X Y i;have h:=ZkQ (p:=p) (q:=q) (U:=U) (M:=M) (s:=ws p q U M X Y i);show (stp p q U M (ws p q U M X Y i)).y+U*(c4 3 (stp p q U M (ws p q U M X Y i)).w-c4 1 (stp p q U M (ws p q U M X Y i)).w)=Y+q*((ws p q U M X Y i).t+Y6 p q U M (ws p q U M X Y i));rw[h,ih,Y17];lia
end Sq
namespace Sq
theorem WC {p q U M X Y:Int}(o:WOk p q U)(h0:WIn p q U M ⟨X,Y,0,[]⟩):∀ i,(∀ j,j<i->(ws p q U M X Y j).t<M)->WIn p q U M (ws p q U M X Y i)
 | 0,_=>h0
 | i+1,h=>(Zeh o (WC o h0 i fun j hj=>h j (by lia)) (h i (by lia))).1
end Sq
namespace Sq
noncomputable def RH (r u:List Nat)(c:Nat):List Nat:=if c=0 then back r else if c=1 then back u else if c=2 then r else u
theorem Z84 (r u:List Nat)(s c:Nat):lt4 r u s c=nx (RH r u c) s:=by
 unfold lt4 RH
 split
 ·rfl
 split
 ·rfl
 split<;>rfl
theorem Za0 {n:Nat}{r u:List Nat}(hr:Row n r)(hu:Row n u)(c:Nat):Row n (RH r u c):=by
 unfold RH
 split
 ·exact hr.back
 split
 ·exact hu.back
 split
 ·exact hr
 ·exact hu
theorem Z6X {U x X k:Int}(h0:0<=x)(h1:x<U)(g0:0<=X)(g1:X<U)(e:x+U*k=X):x=X/\k=0:=by
 have hk:k=0:=by
  rcases Y4g k 0 with c|c|c
  ·have:U*k<=U*(-1):=Y10 (by lia) (by lia);lia
  ·exact c
  ·have:U*1<=U*k:=Y10 (by lia) (by lia);lia
 subst hk;rw[Y2g]at e;exact⟨by lia,rfl⟩
theorem Zi4 {p q U S X Y:Int}(o:WOk p q U)(h0:WIn p q U (S*U) ⟨X,Y,0,[]⟩){i:Nat}(hi:∀ j,j<i->(ws p q U (S*U) X Y j).t<S*U)(ht:(ws p q U (S*U) X Y i).t=S*U) :
  (ws p q U (S*U) X Y i).x=X/\(ws p q U (S*U) X Y i).y=Y/\c4 2 (ws p q U (S*U) X Y i).w-c4 0 (ws p q U (S*U) X Y i).w=p*S/\c4 3 (ws p q U (S*U) X Y i).w-c4 1 (ws p q U (S*U) X Y i).w=q*S:=by
 have wi:=WC o h0 i hi;have ex:=Tf p q U (S*U) X Y i;have ey:=S7 p q U (S*U) X Y i;rw[ht]at ex ey;have e1:p*(S*U)=U*(p*S):=by rw[<-Y0f,Y0d]
 have e2:q*(S*U)=U*(q*S):=by rw[<-Y0f,Y0d]
 rw[e1]at ex;rw[e2]at ey;obtain⟨a1,a2⟩:=Z6X (k:=(c4 2 (ws p q U (S*U) X Y i).w-c4 0 (ws p q U (S*U) X Y i).w)-p*S) wi.x0 wi.x1 h0.x0 h0.x1 (by rw[Y0s];show _=X;lia);obtain⟨b1,b2⟩:=Z6X (k:=(c4 3 (ws p q U (S*U) X Y i).w-c4 1 (ws p q U (S*U) X Y i).w)-q*S) wi.y0 wi.y1 h0.y0 h0.y1 (by rw[Y0s];show _=Y;lia);exact⟨a1,b1,by lia,by lia⟩
end Sq
namespace Sq
def To (p q U M X Y:Int)(i:Nat):Prop:=(∀ j,j<i->(ws p q U M X Y j).t<M)/\(ws p q U M X Y i).t=M
theorem ZbU {p q U M X Y:Int}{i j:Nat}(h:To p q U M X Y i)(g:To p q U M X Y j):i=j:=by
 rcases Y3p i j with c|c|c
 ·have:=g.1 i c;rw[h.2]at this;omega
 ·exact c
 ·have:=h.1 j c;rw[g.2]at this;omega
theorem Zby {p q U M X Y:Int}(o:WOk p q U)(h0:WIn p q U M ⟨X,Y,0,[]⟩):∃ i,To p q U M X Y i:=by
 have:∀ (m i:Nat),(∀ j,j<i->(ws p q U M X Y j).t<M)->(M-(ws p q U M X Y i).t).toNat=m->∃ i,To p q U M X Y i:=by
  intro m
  induction m using Nat.strongRecOn with
  | ind m ih=>
   intro i hi hm;have wi:=WC o h0 i hi;have t1:=wi.t1
   by_cases c:(ws p q U M X Y i).t<M
   ·have st:=(Zeh o wi c).2;have e:ws p q U M X Y (i+1)=stp p q U M (ws p q U M X Y i):=rfl;refine ih (M-(ws p q U M X Y (i+1)).t).toNat (by rw[e];omega) (i+1) (fun j hj=>?_) rfl
    by_cases ej:j=i
    ·subst ej;exact c
    ·exact hi j (by omega)
   ·exact⟨i,hi,by omega⟩
 exact this _ 0 (fun j hj=>absurd hj (Y1y _)) rfl
theorem Zfo {n:Nat}{r u:List Nat}(hr:Row n r)(hu:Row n u){s s':Nat}(h:s<n)(h':s'<n)(c:Nat)(e:lt4 r u s c=lt4 r u s' c):s=s':=by
 rw[Z84,Z84]at e;exact (Za0 hr hu c).inj h h' e
theorem Z8h {n:Nat}{r u:List Nat}(hr:Row n r)(hu:Row n u):∀ (w:List Nat) {s s':Nat},s<n->s'<n->ZC r u w s=ZC r u w s'->s=s'
 | [],_,_,_,_,e=>e
 | c::w,s,s',h,h',e=>Zfo hr hu h h' c (Z8h hr hu w (Zc6 hr hu h c) (Zc6 hr hu h' c) e)
noncomputable def orb (f:Nat->Nat)(s:Nat):Nat->Nat
 | 0=>s
 | k+1=>f (orb f s k)
theorem Xd {n:Nat}{f:Nat->Nat}(hf:∀ s,s<n->f s<n){s:Nat}(h:s<n):∀ k,orb f s k<n
 | 0=>h
 | k+1=>hf _ (Xd hf h k)
theorem ZfE {n:Nat}{f:Nat->Nat}(hf:∀ s,s<n->f s<n)(inj:∀ s s',s<n->s'<n->f s=f s'->s=s'){s k:Nat}(h:s<n)(hk:∀ j,1<=j->j<=k->orb f s j≠s):k<n:=by
 have back:∀ i j,i<j->j<=k->orb f s i=orb f s j->False:=by
  intro i
  induction i with
  | zero=>intro j hij hj e;exact hk j (by omega) hj e.symm
  | succ i ih=>
   intro j hij hj e;obtain⟨j',rfl⟩:∃ j',j=j' + 1:=⟨j-1,by omega⟩;exact ih j' (by omega) (by omega) (inj _ _ (Xd hf h i) (Xd hf h j') e)
 have nd:((Y02 (k+1)).map (orb f s)).Nodup:=by
  refine Y1q.mpr (List.Pairwise.imp_of_mem (fun {a b} ha hb hne e=>?_) (Y24 (n:=k+1)));have ha:=Y06.mp ha;have hb:=Y06.mp hb;rcases Y3p a b with c|c|c
  ·exact back a b c (by omega) e
  ·exact hne c
  ·exact back b a c (by omega) e.symm
 have:=Wi _ (Y02 n) nd fun x hx=>by
  obtain⟨j,_,rfl⟩:=Y0g.mp hx;exact Y06.mpr (Xd hf h j)
 simp at this;omega
end Sq
namespace Sq
structure Spt where
 s:Nat
 x:Int
 y:Int
noncomputable def rm (p q U m:Int)(a:Spt):Int:=min (min (sid U (ou p U a.x) p) (sid U (ou q U a.y) q)) m
noncomputable def wd (p q U m:Int)(a:Spt):List Nat:=lo p a.x 0++(lo q a.y 1++(li U (ou p U a.x+p*rm p q U m a) 2++li U (ou q U a.y+q*rm p q U m a) 3))
noncomputable def one (r u:List Nat)(p q U m:Int)(a:Spt):Spt:=⟨ZC r u (wd p q U m a) a.s,z0 U (ou p U a.x+p*rm p q U m a),z0 U (ou q U a.y+q*rm p q U m a)⟩
noncomputable def cr (F:List Nat)(a:Spt):Bool:=decide (a.x=0)&&(decide (a.y=0)&&decide (a.s∈F))
inductive Run (r u F:List Nat) (p q U:Int):Spt->Int->Spt->Prop
 | nil (a:Spt):cr F a=false->Run r u F p q U a 0 a
 | cons (a:Spt) (T:Int) (b:Spt):0<T->cr F a=false->Run r u F p q U (one r u p q U T a) (T-rm p q U T a) b->Run r u F p q U a T b
inductive Hit (r u F:List Nat) (p q U:Int):Spt->Int->Int->Spt->Prop
 | here (a:Spt) (M:Int):0<=M->cr F a=true->Hit r u F p q U a M 0 a
 | cons (a:Spt) (M T:Int) (b:Spt):0<M->cr F a=false->Hit r u F p q U (one r u p q U M a) (M-rm p q U M a) T b->Hit r u F p q U a M (T+rm p q U M a) b
structure SIn (n:Nat)(p q U:Int)(a:Spt):Prop where
 s:a.s<n
 x0:0<=a.x
 x1:a.x<U
 y0:0<=a.y
 y1:a.y<U
 px:p≠0->p∣a.x
 qy:q≠0->q∣a.y
section
variable {n:Nat}{r u F:List Nat}{p q U:Int}
theorem T7 {m:Int}{a:Spt}(o:WOk p q U)(h:SIn n p q U a)(hm:0<m):1<=rm p q U m a:=by
 have a1:=Ub o.u h.x0 h.x1 o.p h.px;have b1:=Ub o.u h.y0 h.y1 o.q h.qy;unfold rm;lia
theorem RJ {m:Int}{a:Spt}:rm p q U m a<=m:=by unfold rm;lia
theorem WL {m:Int}{a:Spt}(hr:Row n r)(hu:Row n u)(o:WOk p q U)(h:SIn n p q U a)(hm:0<m):SIn n p q U (one r u p q U m a):=by
 have m1:=T7 o h hm;have ha:rm p q U m a<=sid U (ou p U a.x) p:=by unfold rm;lia
 have hb:rm p q U m a<=sid U (ou q U a.y) q:=by unfold rm;lia
 obtain⟨a1,a2,_⟩:=XM o.u h.x0 h.x1 m1 ha;obtain⟨b1,b2,_⟩:=XM o.u h.y0 h.y1 m1 hb;have za:=RG o.u a1 a2;have zb:=RG o.u b1 b2;refine⟨WR hr hu _ h.s,za.1,za.2,zb.1,zb.2,fun hp=>?_,fun hq=>?_⟩
 ·exact Sn (Y4f (V5 (o.p hp) (h.px hp)) (Y1r p _))
 ·exact Sn (Y4f (V5 (o.q hq) (h.qy hq)) (Y1r q _))
theorem Ze4 {m R:Int}{a:Spt}(h:rm p q U m a=R):one r u p q U m a=⟨ZC r u (lo p a.x 0++(lo q a.y 1++(li U (ou p U a.x+p*R) 2++li U (ou q U a.y+q*R) 3))) a.s,z0 U (ou p U a.x+p*R),z0 U (ou q U a.y+q*R)⟩:=by subst h;rfl
theorem UB {a b:Spt}{T:Int}(h:Run r u F p q U a T b):cr F a=false:=by cases h<;>assumption
theorem Ut {a b:Spt}{T:Int}(hT:T=0)(h:Run r u F p q U a T b):b=a:=by
 cases h with
 | nil=>rfl
 | cons _ _ _ h0=>lia
theorem Z8w {a b c:Spt}{T:Int}(h:Run r u F p q U a T b):Run r u F p q U a T c->b=c:=by
 induction h with
 | nil a h=>intro g;exact (Ut rfl g).symm
 | cons a T b h0 _ _ ih=>
  intro g;cases g with
  | nil=>lia
  | cons _ _ _ _ _ g=>exact ih g
theorem Z9J {a b c:Spt}{M T:Int}(h:Hit r u F p q U a M T b):Run r u F p q U a M c->False:=by
 induction h with
 | here a M _ h=>intro g;rw[UB g]at h;cases h
 | cons a M T b h0 _ _ ih=>
  intro g;cases g with
  | nil=>lia
  | cons _ _ _ _ _ g=>exact ih g
theorem Z6q {x m:Int}{p:Int}(hU:0<U)(h0:0<=x)(h1:x<U)(dU:p≠0->p∣U)(dx:p≠0->p∣x)(hm:1<=m)(hs:m<sid U (ou p U x) p) :
  (p≠0->ou p U x+p*m≠0/\ou p U x+p*m≠U)/\z0 U (ou p U x+p*m)=ou p U x+p*m/\(ou p U (ou p U x+p*m)=ou p U x+p*m)/\(p≠0->sid U (ou p U x+p*m) p=sid U (ou p U x) p-m)/\(∀ c,lo p (ou p U x+p*m) c=[])/\(∀ c,li U (ou p U x+p*m) c=[]):=by
 have ho:=Tu (p:=p) hU h0 h1;have hin:=XM hU h0 h1 hm (Y5b hs);have main:(p≠0->ou p U x+p*m≠0/\ou p U x+p*m≠U/\sid U (ou p U x+p*m) p=sid U (ou p U x) p-m):=fun hp=>by
  rcases Y49 hp with hn|hpos
  ·obtain⟨k,hk⟩:=V5 (U:=U) (dU hp) (dx hp);have e:ou p U x=(-p)*(-k):=(by rw[hk,Y4w]);have e2:ou p U x+p*m=(-p)*(-k-m):=(by rw[e,Y0s,Y3b p m];lia);unfold sid at hs ⊢;rw[if_neg (by lia),if_pos hn]at hs;rw[if_neg (by lia),if_pos hn,if_neg (by lia),if_pos hn];rw[e,Y0m _ (by lia)]at hs;have h3:=hin.2.2 (by lia);refine⟨fun z=>?_,by lia,?_⟩
   ·rw[e2]at z;rcases Y3n.mp z with g|g<;>lia
   ·rw[e2,Y0m _ (by lia),e,Y0m _ (by lia)]
  ·have e0:ou p U x=x:=(by unfold ou;rw[if_neg (by lia)]);obtain⟨k,hk⟩:=Y4x (dU hp) (dx hp);unfold sid at hs ⊢;rw[if_pos hpos]at hs;rw[if_pos hpos,if_pos hpos];rw[e0]at hs hin ⊢;rw[hk,Y0m _ hp]at hs;have e2:U-(x+p*m)=p*(k-m):=(by rw[Y0s,<-hk];lia);have pm:0<p*m:=Y13 hpos (by lia);refine⟨by lia,fun z=>?_,?_⟩
   ·have:p*(k-m)=0:=(by omega);rcases Y3n.mp this with g|g<;>lia
   ·rw[e2,Y0m _ hp,hk,Y0m _ hp]
 have nU:ou p U x+p*m≠U:=by
  by_cases hp:p=0
  ·subst hp;have:=hin.2.2 (by lia);lia
  ·exact (main hp).2.1
 have n0:¬ (p<0/\ou p U x+p*m=0):=fun z=>(main (by lia)).1 z.2;refine⟨fun hp=>⟨(main hp).1,(main hp).2.1⟩,by unfold z0;rw[if_neg nU],by show (if p<0/\ou p U x+p*m=0 then U else ou p U x+p*m)=_;rw[if_neg n0],fun hp=>(main hp).2.2,fun c=>by unfold lo;rw[if_neg n0],fun c=>by unfold li;rw[if_neg nU]⟩
theorem split {m m':Int}{a:Spt}(o:WOk p q U)(h:SIn n p q U a)(hm:0<m)(hle:m<=m'):(rm p q U m a=rm p q U m' a/\one r u p q U m a=one r u p q U m' a)\/
  (rm p q U m a=m/\m<m'/\cr F (one r u p q U m a)=false/\one r u p q U (m'-m) (one r u p q U m a)=one r u p q U m' a/\rm p q U (m'-m) (one r u p q U m a)=rm p q U m' a-m):=by
 by_cases e:rm p q U m a=rm p q U m' a
 ·refine .inl ⟨e,?_⟩;unfold one wd;rw[e]
 ·have e1:rm p q U m a=m:=by unfold rm at *;lia
  have lx:m<sid U (ou p U a.x) p:=by unfold rm at *;lia
  have ly:m<sid U (ou q U a.y) q:=by unfold rm at *;lia
  obtain⟨x1,x2,x3,x4,x5,x6⟩:=Z6q o.u h.x0 h.x1 o.p h.px (by lia) lx;obtain⟨y1,y2,y3,y4,y5,y6⟩:=Z6q o.u h.y0 h.y1 o.q h.qy (by lia) ly;have hm':m<m':=by unfold rm at *;lia
  have eo:one r u p q U m a=⟨ZC r u (lo p a.x 0++lo q a.y 1) a.s,ou p U a.x+p*m,ou q U a.y+q*m⟩:=by
   unfold one wd;rw[e1,x2,y2,x6,y6,Y1o,Y1o]
  have er:rm p q U (m'-m) (one r u p q U m a)=rm p q U m' a-m:=by
   rw[eo];show min (min (sid U (ou p U (ou p U a.x+p*m)) p) (sid U (ou q U (ou q U a.y+q*m)) q)) (m'-m)=_;rw[x3,y3];have sp0:p=0->sid U (ou p U a.x+p*m) p=U/\sid U (ou p U a.x) p=U:=fun z=>by subst z;unfold sid;simp
   have sq0:q=0->sid U (ou q U a.y+q*m) q=U/\sid U (ou q U a.y) q=U:=fun z=>by subst z;unfold sid;simp
   have le:∀ {p x:Int},0<=x->x<U->p≠0->sid U (ou p U x) p<=U:=fun {p x} g0 g1 hp=>by
    have:=Tu (p:=p) o.u g0 g1;unfold sid
    split
    ·exact Int.le_trans (Int.ediv_le_self _ (by lia)) (by lia)
    ·rw[if_pos (by lia)];exact Int.le_trans (Int.ediv_le_self _ (by lia)) (by lia)
   unfold rm
   by_cases hp:p=0
   ·by_cases hq:q=0
    ·exact absurd ⟨hp,hq⟩ o.n
    ·have:=le h.y0 h.y1 hq;rw[(sp0 hp).1,(sp0 hp).2,y4 hq];lia
   ·by_cases hq:q=0
    ·have:=le h.x0 h.x1 hp;rw[(sq0 hq).1,(sq0 hq).2,x4 hp];lia
    ·rw[x4 hp,y4 hq];lia
  refine .inr ⟨e1,hm',?_,?_,er⟩
  ·rw[eo];unfold cr
   by_cases hp:p=0
   ·have hq:q≠0:=fun z=>o.n ⟨hp,z⟩;have:=(y1 hq).1;simp[this]
   ·have:=(x1 hp).1;simp[this]
  ·have ex:∀ {v s R:Int},v+s*m+s*(R-m)=v+s*R:=fun {v s R}=>by rw[Y0s];lia
   have key:one r u p q U (m'-m) (one r u p q U m a)=⟨ZC r u (lo p (one r u p q U m a).x 0++(lo q (one r u p q U m a).y 1++(li U (ou p U (one r u p q U m a).x+p*(rm p q U m' a-m)) 2++li U (ou q U (one r u p q U m a).y+q*(rm p q U m' a-m)) 3))) (one r u p q U m a).s,z0 U (ou p U (one r u p q U m a).x+p*(rm p q U m' a-m)),z0 U (ou q U (one r u p q U m a).y+q*(rm p q U m' a-m))⟩:=by
    rw[<-er];rfl
   rw[key,eo];dsimp only;rw[x3,y3,x5,y5,ex,ex,Y47,Y47,<-Yt];unfold one wd;simp only[Y2s]
theorem Z8k {a b c:Spt}{T T2:Int}(hr:Row n r)(hu:Row n u)(o:WOk p q U)(h:Run r u F p q U a T b):SIn n p q U a->0<=T2->Run r u F p q U b T2 c->Run r u F p q U a (T+T2) c:=by
 induction h with
 | nil a hf=>intro _ _ g;rw[Y44];exact g
 | cons a T b h0 hf h' ih=>
  intro hi h2 g;have hi1:=WL hr hu o hi h0;rcases split (r:=r) (u:=u) (F:=F) o hi h0 (show T<=T+T2 by lia) with ⟨e1,e2⟩|⟨e1,e2,e3,e4,e5⟩
  ·refine .cons _ _ _ (by lia) hf ?_;have:=ih hi1 h2 g;rw[e2,e1]at this
   rwa [show T+T2-rm p q U (T+T2) a=T-rm p q U (T+T2) a+T2 by lia]
  ·have eb:=Ut (by lia) h';rw[eb]at g;cases g with
   | nil=>lia
   | cons _ _ _ g0 g1 g2=>
    rw[show T+T2-T=T2 by lia]at e4 e5;rw[e4,e5]at g2;refine .cons _ _ _ (by lia) hf ?_
    rwa [show T+T2-rm p q U (T+T2) a=T2-(rm p q U (T+T2) a-T) by lia]
theorem Z74 {x m p:Int}(hU:0<U)(h0:0<=x)(h1:x<U)(hm:1<=m)(hs:m<=sid U (ou p U x) p) :
  ou (-p) U (z0 U (ou p U x+p*m))=ou p U x+p*m/\m<=sid U (ou p U x+p*m) (-p)/\z0 U (ou p U x)=x/\((-p<0/\z0 U (ou p U x+p*m)=0)↔ou p U x+p*m=U)/\(ou p U x=U↔(p<0/\x=0)):=by
 have ho:=Tu (p:=p) hU h0 h1;obtain⟨i1,i2,i3⟩:=XM hU h0 h1 hm hs;have zx:z0 U (ou p U x)=x:=by unfold z0 ou;split<;>split<;>lia
 have oU:ou p U x=U↔(p<0/\x=0):=by unfold ou;split<;>lia
 unfold sid at hs
 by_cases hp:0<p
 ·rw[if_pos hp]at hs;have e0:ou p U x=x:=by unfold ou;rw[if_neg (by lia)]
  have pm:0<p*m:=Y13 hp (by lia);have ez:z0 U (ou p U x+p*m)=if ou p U x+p*m=U then 0 else ou p U x+p*m:=rfl
  refine⟨?_,?_,zx,?_,oU⟩
  ·unfold ou;unfold ou at *;rw[ez];split<;>split<;>lia
  ·unfold sid;rw[if_neg (by lia),if_pos (by lia),Int.neg_neg];refine Y4m hp ?_;rw[Y0d];lia
  ·rw[ez];split<;>lia
 ·rw[if_neg hp]at hs;have h3:=i3 (by lia);have ez:z0 U (ou p U x+p*m)=ou p U x+p*m:=by unfold z0;rw[if_neg (by lia)]
  refine⟨?_,?_,zx,?_,oU⟩
  ·rw[ez];show (if -p<0/\ou p U x+p*m=0 then U else ou p U x+p*m)=_;rw[if_neg (by lia)]
  ·by_cases hn:p<0
   ·unfold sid;rw[if_pos (by lia)];refine Y4m (by lia) ?_;have:m * -p=-(p*m):=(by rw[Y2y,Y0d]);lia
   ·have:p=0:=(by lia);subst this;rw[if_neg (by lia)]at hs;unfold sid;rw[if_neg (by lia),if_neg (by lia)];exact hs
  ·rw[ez];lia
def Zfd (n:Nat)(r u F:List Nat):Prop:=∀ s,s<n->s∉F->nx u (nx r (nx (back u) (nx (back r) s)))=s
noncomputable def Zi (r u:List Nat)(s:Nat)(w:WS):Spt:=⟨ZC r u w.w s,w.x,w.y⟩
theorem Z92 {M:Int}{s:Nat}{w:WS}:Zi r u s (stp p q U M w)=one r u p q U (M-w.t) (Zi r u s w)/\(stp p q U M w).t=w.t+rm p q U (M-w.t) (Zi r u s w):=by
 refine⟨?_,rfl⟩;unfold Zi stp one wd;dsimp only;rw[Yt]
 rfl
theorem R7 {M X Y:Int}{s i:Nat}(hf:∀ j,j<i->cr F (Zi r u s (ws p q U M X Y j))=false/\(ws p q U M X Y j).t<M)(ht:(ws p q U M X Y i).t=M)(hc:cr F (Zi r u s (ws p q U M X Y i))=false) :
  ∀ k,k<=i->Run r u F p q U (Zi r u s (ws p q U M X Y (i-k))) (M-(ws p q U M X Y (i-k)).t) (Zi r u s (ws p q U M X Y i))
 | 0,_=>by
  rw[Nat.sub_zero,ht,Int.sub_self];exact .nil _ hc
 | k+1,hk=>by
  have ih:=R7 hf ht hc k (by lia);obtain⟨f1,f2⟩:=hf (i-(k+1)) (by lia);have e:ws p q U M X Y (i-k)=stp p q U M (ws p q U M X Y (i-(k+1))):=by
   rw[show i-k=(i-(k+1))+1 by lia];rfl
  obtain⟨s1,s2⟩:=Z92 (r:=r) (u:=u) (p:=p) (q:=q) (U:=U) (M:=M) (s:=s) (w:=ws p q U M X Y (i-(k+1)));rw[e,s1,s2]at ih;refine .cons _ _ _ (by lia) f1 ?_
  rwa [show M-((ws p q U M X Y (i-(k+1))).t+rm p q U (M-(ws p q U M X Y (i-(k+1))).t) (Zi r u s (ws p q U M X Y (i-(k+1)))))=M-(ws p q U M X Y (i-(k+1))).t-rm p q U (M-(ws p q U M X Y (i-(k+1))).t) (Zi r u s (ws p q U M X Y (i-(k+1)))) by lia]at ih
theorem ZaV {M X Y:Int}{s i:Nat}(hf:∀ j,j<i->cr F (Zi r u s (ws p q U M X Y j))=false/\(ws p q U M X Y j).t<M)(ht:(ws p q U M X Y i).t<=M)(hc:cr F (Zi r u s (ws p q U M X Y i))=true) :
  ∀ k,k<=i->Hit r u F p q U (Zi r u s (ws p q U M X Y (i-k))) (M-(ws p q U M X Y (i-k)).t) ((ws p q U M X Y i).t-(ws p q U M X Y (i-k)).t) (Zi r u s (ws p q U M X Y i))
 | 0,_=>by
  rw[Nat.sub_zero,Int.sub_self];exact .here _ _ (by lia) hc
 | k+1,hk=>by
  have ih:=ZaV hf ht hc k (by lia);obtain⟨f1,f2⟩:=hf (i-(k+1)) (by lia);have e:ws p q U M X Y (i-k)=stp p q U M (ws p q U M X Y (i-(k+1))):=by
   rw[show i-k=(i-(k+1))+1 by lia];rfl
  obtain⟨s1,s2⟩:=Z92 (r:=r) (u:=u) (p:=p) (q:=q) (U:=U) (M:=M) (s:=s) (w:=ws p q U M X Y (i-(k+1)));rw[e,s1,s2]at ih;rw[show M-((ws p q U M X Y (i-(k+1))).t+rm p q U (M-(ws p q U M X Y (i-(k+1))).t) (Zi r u s (ws p q U M X Y (i-(k+1)))))=M-(ws p q U M X Y (i-(k+1))).t-rm p q U (M-(ws p q U M X Y (i-(k+1))).t) (Zi r u s (ws p q U M X Y (i-(k+1)))) by lia]at ih;have:=Hit.cons _ _ _ _ (by lia) f1 ih
  rwa [show (ws p q U M X Y i).t-((ws p q U M X Y (i-(k+1))).t+rm p q U (M-(ws p q U M X Y (i-(k+1))).t) (Zi r u s (ws p q U M X Y (i-(k+1)))))+rm p q U (M-(ws p q U M X Y (i-(k+1))).t) (Zi r u s (ws p q U M X Y (i-(k+1))))=(ws p q U M X Y i).t-(ws p q U M X Y (i-(k+1))).t by lia]at this
end
end Sq
namespace Sq
section
variable {n:Nat}{r u F:List Nat}{p q U:Int}
theorem rm1 {a:Spt}(o:WOk p q U)(h:SIn n p q U a):rm p q U 1 a=1:=by
 have:=T7 (m:=1) o h (by decide);have:=RJ (p:=p) (q:=q) (U:=U) (m:=1) (a:=a);lia
noncomputable abbrev tk (r u:List Nat)(p q U:Int)(a:Spt):Spt:=one r u p q U 1 a
theorem Zci {a b:Spt}{T:Int}(o:WOk p q U)(h:SIn n p q U a)(hT:0<T)(g:Run r u F p q U a T b):cr F a=false/\Run r u F p q U (tk r u p q U a) (T-1) b:=by
 cases g with
 | nil=>lia
 | cons _ _ _ _ hf g=>
  refine⟨hf,?_⟩;have e1:=rm1 o h;rcases split (r:=r) (u:=u) (F:=F) o h (m:=1) (m':=T) (by decide) (by lia) with ⟨h1,h2⟩|⟨h1,h2,h3,h4,h5⟩
  ·rw[e1]at h1;rw[<-h2,<-h1]at g;exact g
  ·refine .cons _ _ _ (by lia) h3 ?_;rw[h4,h5]
   rwa [show T-1-(rm p q U T a-1)=T-rm p q U T a by lia]
theorem Zd5 {a b:Spt}{T:Int}(hr:Row n r)(hu:Row n u)(o:WOk p q U)(h:SIn n p q U a)(hT:0<=T)(hf:cr F a=false)(g:Run r u F p q U (tk r u p q U a) T b):Run r u F p q U a (T+1) b:=by
 have h1:Run r u F p q U a 1 (tk r u p q U a):=by
  refine .cons _ _ _ (by decide) hf ?_;rw[rm1 o h];exact .nil _ (UB g)
 have:=Z8k hr hu o h1 h hT g
 rwa [Int.add_comm]at this
end
section
variable {n:Nat}{r u F r' u' F':List Nat}{p q p' q' U:Int}{f:Spt->Spt}
end
noncomputable def scS (c:Int)(a:Spt):Spt:=⟨a.s,c*a.x,c*a.y⟩
section
variable {n:Nat}{r u F:List Nat}{p q U c:Int}
theorem R5 {x:Int}(hc:0<c)(dU:p≠0->p∣U)(dx:p≠0->p∣x):sid (c*U) (ou p (c*U) (c*x)) p=c*sid U (ou p U x) p/\ou p (c*U) (c*x)=c*ou p U x:=by
 have z:c*x=0↔x=0:=⟨fun h=>by rcases Y3n.mp h with g|g<;>lia,fun h=>by rw[h,Y2g]⟩;have eo:ou p (c*U) (c*x)=c*ou p U x:=by
  unfold ou
  by_cases h:p<0/\x=0
  ·rw[if_pos h,if_pos ⟨h.1,z.mpr h.2⟩]
  ·rw[if_neg h,if_neg fun g=>h ⟨g.1,z.mp g.2⟩]
 refine⟨?_,eo⟩;rw[eo];have d:=fun hp=>V5 (U:=U) (dU hp) (dx hp);generalize ou p U x=X at *;unfold sid
 by_cases h1:0<p
 ·rw[if_pos h1,if_pos h1];obtain⟨k,hk⟩:=Y4x (dU (by lia)) (d (by lia));rw[<-Y0s,hk,Y0m _ (by lia),Y19,Y0m _ (by lia)]
 ·rw[if_neg h1,if_neg h1]
  by_cases h2:p<0
  ·rw[if_pos h2,if_pos h2];obtain⟨k,hk⟩:=d (by lia);have e:X=(-p)*(-k):=(by rw[hk,Y4w]);rw[e,Y0m _ (by lia),Y19,Y0m _ (by lia)]
  ·rw[if_neg h2,if_neg h2]
theorem ZdS {a b:Int}(hc:0<c):min (c*a) (c*b)=c*min a b:=by
 rcases Int.le_total a b with h|h
 ·rw[Int.min_eq_left h,Int.min_eq_left (Y10 h (by lia))]
 ·rw[Int.min_eq_right h,Int.min_eq_right (Y10 h (by lia))]
theorem Zh9 {m:Int}{a:Spt}(hc:0<c)(o:WOk p q U)(h:SIn n p q U a):rm p q (c*U) (c*m) (scS c a)=c*rm p q U m a:=by
 unfold rm scS;dsimp only;rw[(R5 hc o.p h.px).1,(R5 hc o.q h.qy).1,ZdS hc,ZdS hc]
theorem Ziw {a b:Int}(hc:0<c):c*a=c*b↔a=b:=⟨fun h=>Y2c (by lia) h,fun h=>by rw[h]⟩
theorem Zij {m:Int}{a:Spt}(hc:0<c)(o:WOk p q U)(h:SIn n p q U a):one r u p q (c*U) (c*m) (scS c a)=scS c (one r u p q U m a):=by
 have e:=Zh9 (m:=m) hc o h;have ex:=(R5 hc o.p h.px).2;have ey:=(R5 hc o.q h.qy).2;have z0e:∀ x:Int,z0 (c*U) (c*x)=c*z0 U x:=fun x=>by
  unfold z0
  by_cases h:x=U
  ·rw[if_pos h,if_pos (by rw[h]),Y2g]
  ·rw[if_neg h,if_neg fun g=>h ((Ziw hc).mp g)]
 have lie:∀ (x:Int) (d:Nat),li (c*U) (c*x) d=li U x d:=fun x d=>by
  unfold li
  by_cases h:x=U
  ·rw[if_pos h,if_pos (by rw[h])]
  ·rw[if_neg h,if_neg fun g=>h ((Ziw hc).mp g)]
 have loe:∀ (v x:Int) (d:Nat),lo v (c*x) d=lo v x d:=fun v x d=>by
  unfold lo
  by_cases h:v<0/\x=0
  ·rw[if_pos h,if_pos ⟨h.1,by rw[h.2,Y2g]⟩]
  ·rw[if_neg h,if_neg fun g=>h ⟨g.1,by rcases Y3n.mp g.2 with k|k<;>lia⟩]
 have mx:∀ X v R:Int,c*X+v*(c*R)=c*(X+v*R):=fun X v R=>by rw[Y17,Y19]
 unfold one wd;rw[e];show Spt.mk (ZC r u (lo p (c*a.x) 0++(lo q (c*a.y) 1++(li (c*U) (ou p (c*U) (c*a.x)+p*(c*rm p q U m a)) 2++li (c*U) (ou q (c*U) (c*a.y)+q*(c*rm p q U m a)) 3))) a.s) (z0 (c*U) (ou p (c*U) (c*a.x)+p*(c*rm p q U m a))) (z0 (c*U) (ou q (c*U) (c*a.y)+q*(c*rm p q U m a)))=_;rw[ex,ey,mx,mx,z0e,z0e,lie,lie,loe,loe]
 rfl
theorem Zhd {a:Spt}(hc:0<c):cr F (scS c a)=cr F a:=by
 have z:∀ x:Int,c*x=0↔x=0:=fun x=>⟨fun h=>by rcases Y3n.mp h with g|g<;>lia,fun h=>by rw[h,Y2g]⟩;unfold cr scS;dsimp only;rw[decide_eq_decide.mpr (z a.x),decide_eq_decide.mpr (z a.y)]
theorem Zhg {a b:Spt}{T:Int}(hr:Row n r)(hu:Row n u)(hc:0<c)(o:WOk p q U)(g:Run r u F p q U a T b):SIn n p q U a->Run r u F p q (c*U) (scS c a) (c*T) (scS c b):=by
 induction g with
 | nil a hf=>intro _;rw[Y2g];exact .nil _ (by rw[Zhd hc];exact hf)
 | cons a T b h0 hf g ih=>
  intro h;refine .cons _ _ _ (Y13 hc h0) (by rw[Zhd hc];exact hf) ?_;rw[Zij hc o h,Zh9 hc o h,<-Y0s];exact ih (WL hr hu o h h0)
end
end Sq
namespace Sq
structure ZkO (n:Nat)(L R D V:Nat->Nat):Prop where
 l:∀ s,s<n->L s<n
 r:∀ s,s<n->R s<n
 d:∀ s,s<n->D s<n
 v:∀ s,s<n->V s<n
 rl:∀ s,s<n->R (L s)=s
 lr:∀ s,s<n->L (R s)=s
 vd:∀ s,s<n->V (D s)=s
 dv:∀ s,s<n->D (V s)=s
noncomputable def tsq (L R D V:Nat->Nat)(p q U x y:Int)(s:Nat):Nat:=
 let s1:=if p<0/\x=0 then L s else s
 let s2:=if q<0/\y=0 then D s1 else s1
 let s3:=if ou p U x+p=U then R s2 else s2
 if ou q U y+q=U then V s3 else s3
theorem U5 {n:Nat}{r u:List Nat}{p q U:Int}{a:Spt}(o:WOk p q U)(h:SIn n p q U a):tk r u p q U a=⟨tsq (nx (back r)) (nx r) (nx (back u)) (nx u) p q U a.x a.y a.s,z0 U (ou p U a.x+p),z0 U (ou q U a.y+q)⟩:=by
 rw[show tk r u p q U a=_ from Ze4 (rm1 o h),Y33,Y33,Yt,Yt,Yt,Sx,SK,SB,SJ]
 rfl
theorem ZbR {n:Nat}{r u:List Nat}(hr:Row n r)(hu:Row n u):ZkO n (nx (back r)) (nx r) (nx (back u)) (nx u):=
 ⟨fun s h=>hr.back.nlt h,fun s h=>hr.nlt h,fun s h=>hu.back.nlt h,fun s h=>hu.nlt h,fun s h=>WU hr h,fun s h=>Yj hr h,fun s h=>WU hu h,fun s h=>Yj hu h⟩
structure XE (p U x:Int):Prop where
 x0:0<=x
 x1:x<U
 a:0<=ou p U x+p
 b:ou p U x+p<=U
 c:p<=0->ou p U x+p<U
theorem Zbe {p U x:Int}(hU:0<U)(h0:0<=x)(h1:x<U)(dU:p≠0->p∣U)(dx:p≠0->p∣x):XE p U x:=by
 have h:=XM (m:=1) hU h0 h1 (by decide) (Ub hU h0 h1 dU dx);rw[Y33]at h;exact⟨h0,h1,h.1,h.2.1,h.2.2⟩
noncomputable def shS (R:Nat->Nat)(U:Int)(a:Spt):Spt:=if a.x+a.y<U then ⟨a.s,a.x+a.y,a.y⟩ else ⟨R a.s,a.x+a.y-U,a.y⟩
noncomputable def tnS (D:Nat->Nat)(U:Int)(a:Spt):Spt:=if a.y=0 then ⟨D a.s,0,a.x⟩ else ⟨a.s,U-a.y,a.x⟩
theorem Wq (p U x:Int):(p<0/\x=0/\ou p U x=U)\/(¬ (p<0/\x=0)/\ou p U x=x):=by
 unfold ou
 by_cases h:p<0/\x=0
 ·rw[if_pos h];exact .inl ⟨h.1,h.2,rfl⟩
 ·rw[if_neg h];exact .inr ⟨h,rfl⟩
theorem Z9E {n:Nat}{L R D V L' R' D' V':Nat->Nat}{U p q x y:Int}{s:Nat}(F:ZkO n L R D V)(hs:s<n)(eL:L'=L)(eR:R'=R)(eD:∀ s,s<n->D' s=R (D s))(eV:∀ s,s<n->V' s=V (L s))(fx:XE p U x)(fy:XE q U y)
  (fw:XE (p+q) U (if x+y<U then x+y else x+y-U)) (pl:x=0->y=0->V (R (D (L s)))=s) :
  (⟨tsq L' R' D' V' (p+q) q U (shS R U ⟨s,x,y⟩).x (shS R U ⟨s,x,y⟩).y (shS R U ⟨s,x,y⟩).s,z0 U (ou (p+q) U (shS R U ⟨s,x,y⟩).x+(p+q)),z0 U (ou q U (shS R U ⟨s,x,y⟩).y+q)⟩:Spt)=shS R U ⟨tsq L R D V p q U x y s,z0 U (ou p U x+p),z0 U (ou q U y+q)⟩:=by
 subst eL;subst eR;obtain⟨x0,x1,xa,xb,xc⟩:=fx;obtain⟨y0,y1,ya,yb,yc⟩:=fy;have hl:=F.l _ hs;have hrs:=F.r _ hs;have hd:=F.d _ hs;have hv:=F.v _ hs;have hld:=F.d _ hl;have hdl:=F.l _ hd;have hrr:=F.r _ hrs;have hrd:=F.r _ hd;have pl2:x=0->y=0->R' (D (L' s))=D s:=fun h1 h2=>by
  have:=congrArg D (pl h1 h2)
  rwa [F.dv _ (F.r _ hld)]at this
 obtain⟨w,t,hw⟩:∃ w t,shS R' U ⟨s,x,y⟩=⟨t,w,y⟩/\((x+y<U/\w=x+y/\t=s)\/(¬ x+y<U/\w=x+y-U/\t=R' s)):=by
  unfold shS;dsimp only
  by_cases c:x+y<U
  ·rw[if_pos c];exact⟨_,_,rfl,.inl ⟨c,rfl,rfl⟩⟩
  ·rw[if_neg c];exact⟨_,_,rfl,.inr ⟨c,rfl,rfl⟩⟩
 rw[hw.1];have fw':XE (p+q) U w:=by
  rcases hw.2 with ⟨c,e,_⟩|⟨c,e,_⟩
  ·rw[if_pos c,<-e]at fw;exact fw
  ·rw[if_neg c,<-e]at fw;exact fw
 obtain⟨w0,w1,wa,wb,wc⟩:=fw';have ht:t<n:=by rcases hw.2 with ⟨_,_,e⟩|⟨_,_,e⟩<;>rw[e]<;>assumption
 have hlt:=F.l _ ht;have hw:=hw.2;clear fw;have oX:=Wq p U x;have oY:=Wq q U y;have oW:=Wq (p+q) U w;unfold tsq;dsimp only;generalize eX:ou p U x+p=X1 at *;generalize eY:ou q U y+q=Y1 at *;generalize eW:ou (p+q) U w+(p+q)=W1 at *;generalize ou p U x=oxx at *;generalize ou q U y=oyy at *;generalize ou (p+q) U w=oww at *;unfold shS z0;dsimp only;have fin:∀ (S' S:Nat) (A B:Int),(A=(if X1=U then 0 else X1))->(B=if Y1=U then 0 else Y1)->((A+B<U->S'=S/\(if W1=U then 0 else W1)=A+B)/\(¬ A+B<U->S'=R' S/\(if W1=U then 0 else W1)=A+B-U))->(⟨S',if W1=U then 0 else W1,if Y1=U then 0 else Y1⟩:Spt)=if (if X1=U then 0 else X1)+(if Y1=U then 0 else Y1)<U then ⟨S,(if X1=U then 0 else X1)+(if Y1=U then 0 else Y1),if Y1=U then 0 else Y1⟩ else ⟨R' S,(if X1=U then 0 else X1)+(if Y1=U then 0 else Y1)-U,if Y1=U then 0 else Y1⟩:=by
  intro S' S A B hA hB h;rw[<-hA,<-hB]
  by_cases c:A+B<U
  ·rw[if_pos c,(h.1 c).1,(h.1 c).2]
  ·rw[if_neg c,(h.2 c).1,(h.2 c).2]
 refine fin _ _ _ _ rfl rfl ?_;clear fin
 by_cases gX:X1=U<;>by_cases gY:Y1=U<;>by_cases gW:W1=U<;>simp only[gX,gY,gW,if_true,if_false,if_pos,if_neg,not_false_eq_true]<;>rcases oX with ⟨a1,a2,a3⟩|⟨a1,a3⟩<;>rcases oY with ⟨b1,b2,b3⟩|⟨b1,b3⟩<;>rcases oW with ⟨d1,d2,d3⟩|⟨d1,d3⟩<;>rcases hw with ⟨c,ew,et⟩|⟨c,ew,et⟩<;>try (exfalso;lia)
 all_goals
  subst et
  first|simp only[if_pos (And.intro a1 a2)]|simp only[if_neg a1]
  first|simp only[if_pos (And.intro b1 b2)]|simp only[if_neg b1]|skip
  first|simp only[if_pos (And.intro d1 d2)]|simp only[if_neg d1]|skip
  constructor<;>intro hc
 all_goals first
  | (exfalso;lia)
  | (refine⟨?_,by lia⟩
     first
      | rfl
      | (simp only[eD,eV,F.rl,F.lr,F.vd,F.dv,F.l,F.r,F.d,F.v,hs,hrs,hrr,hl,hd,hld,hrd];done)
      | (have pp:=pl2 (by lia) (by lia)
         simp only[eD,eV,F.rl,F.lr,F.vd,F.dv,F.l,F.r,F.d,F.v,hs,hrs,hrr,hl,hd,hld,hrd,pp];done))
theorem Zb3 {n:Nat}{L R D V L' R' D' V':Nat->Nat}{U p q x y:Int}{s:Nat}(F:ZkO n L R D V)(hs:s<n)(eL:∀ s,s<n->L' s=V s)(eR:∀ s,s<n->R' s=D s)(eD:∀ s,s<n->D' s=L s)(eV:∀ s,s<n->V' s=R s)(fx:XE p U x)(fy:XE q U y)
  (fw:XE (-q) U (if y=0 then 0 else U-y)) (pl:x=0->y=0->V (R (D (L s)))=s) (pla:0<p->q<=0->ou p U x+p=U->ou q U y+q=0->R (D (if q<0/\y=0 then D s else s))=D (R (if q<0/\y=0 then D s else s))) :
  (⟨tsq L' R' D' V' (-q) p U (tnS D U ⟨s,x,y⟩).x (tnS D U ⟨s,x,y⟩).y (tnS D U ⟨s,x,y⟩).s,z0 U (ou (-q) U (tnS D U ⟨s,x,y⟩).x+(-q)),z0 U (ou p U (tnS D U ⟨s,x,y⟩).y+p)⟩:Spt)=tnS D U ⟨tsq L R D V p q U x y s,z0 U (ou p U x+p),z0 U (ou q U y+q)⟩:=by
 obtain⟨x0,x1,xa,xb,xc⟩:=fx;obtain⟨y0,y1,ya,yb,yc⟩:=fy;have hl:=F.l _ hs;have hrs:=F.r _ hs;have hd:=F.d _ hs;have hv:=F.v _ hs;have hld:=F.d _ hl;have hdl:=F.l _ hd;have hlv:=F.v _ hl;have hrv:=F.v _ hrs;have hrd:=F.d _ hrs;have hdr:=F.r _ hd;have pl2:x=0->y=0->D (L s)=L (D s):=fun h1 h2=>by
  have:=congrArg D (pl h1 h2);rw[F.dv _ (F.r _ hld)]at this;have:=congrArg L this
  rwa [F.lr _ hld]at this
 obtain⟨w,t,hw⟩:∃ w t,tnS D U ⟨s,x,y⟩=⟨t,w,x⟩/\((y=0/\w=0/\t=D s)\/(¬ y=0/\w=U-y/\t=s)):=by
  unfold tnS;dsimp only
  by_cases c:y=0
  ·rw[if_pos c];exact⟨_,_,rfl,.inl ⟨c,rfl,rfl⟩⟩
  ·rw[if_neg c];exact⟨_,_,rfl,.inr ⟨c,rfl,rfl⟩⟩
 rw[hw.1];have fw':XE (-q) U w:=by
  rcases hw.2 with ⟨c,e,_⟩|⟨c,e,_⟩
  ·rw[if_pos c,<-e]at fw;exact fw
  ·rw[if_neg c,<-e]at fw;exact fw
 obtain⟨w0,w1,wa,wb,wc⟩:=fw';have ht:t<n:=by rcases hw.2 with ⟨_,_,e⟩|⟨_,_,e⟩<;>rw[e]<;>assumption
 have hw:=hw.2;clear fw;have oX:=Wq p U x;have oY:=Wq q U y;have oW:=Wq (-q) U w;unfold tsq;dsimp only;generalize eX:ou p U x+p=X1 at *;generalize eY:ou q U y+q=Y1 at *;generalize eW:ou (-q) U w + -q=W1 at *;generalize ou p U x=oxx at *;generalize ou q U y=oyy at *;generalize ou (-q) U w=oww at *;unfold tnS z0;dsimp only;have fin:∀ (S' S:Nat) (A B:Int),(A=(if X1=U then 0 else X1))->(B=if Y1=U then 0 else Y1)->((B=0->S'=D S/\(if W1=U then 0 else W1)=0)/\(¬ B=0->S'=S/\(if W1=U then 0 else W1)=U-B))->(⟨S',if W1=U then 0 else W1,if X1=U then 0 else X1⟩:Spt)=if (if Y1=U then 0 else Y1)=0 then ⟨D S,0,if X1=U then 0 else X1⟩ else ⟨S,U-(if Y1=U then 0 else Y1),if X1=U then 0 else X1⟩:=by
  intro S' S A B hA hB h;rw[<-hA,<-hB]
  by_cases c:B=0
  ·rw[if_pos c,(h.1 c).1,(h.1 c).2]
  ·rw[if_neg c,(h.2 c).1,(h.2 c).2]
 refine fin _ _ _ _ rfl rfl ?_;clear fin
 by_cases gX:X1=U<;>by_cases gY:Y1=U<;>by_cases gW:W1=U<;>simp only[gX,gY,gW,if_true,if_false,if_pos,if_neg,not_false_eq_true]<;>rcases oX with ⟨a1,a2,a3⟩|⟨a1,a3⟩<;>rcases oY with ⟨b1,b2,b3⟩|⟨b1,b3⟩<;>rcases oW with ⟨d1,d2,d3⟩|⟨d1,d3⟩<;>rcases hw with ⟨c,ew,et⟩|⟨c,ew,et⟩<;>try (exfalso;lia)
 all_goals
  subst et
  first|simp only[if_pos (And.intro a1 a2)]|simp only[if_neg a1]
  first|simp only[if_pos (And.intro b1 b2)]|simp only[if_neg b1]|skip
  first|simp only[if_pos (And.intro d1 d2)]|simp only[if_neg d1]|skip
  constructor<;>intro hc
 all_goals first
  | (exact absurd trivial hc)
  | (exfalso;lia)
  | (refine⟨?_,by first|exact trivial|lia⟩
     first
      | rfl
      | (simp only[eD,eV,eL,eR,F.rl,F.lr,F.vd,F.dv,F.l,F.r,F.d,F.v,hs,hrs,hl,hd,hv,hld,hdl,hlv,hrv,hrd,hdr];done)
      | (have pp:=pl2 (by lia) (by lia)
         simp only[eD,eV,eL,eR,F.rl,F.lr,F.vd,F.dv,F.l,F.r,F.d,F.v,hs,hrs,hl,hd,hv,hld,hdl,hlv,hrv,hrd,hdr,pp];done)
      | (have p3:=pla (by lia) (by lia) (by lia) (by lia)
         first|rw[if_pos (And.intro b1 b2)]at p3|rw[if_neg b1]at p3
         simp only[eD,eV,eL,eR,F.rl,F.lr,F.vd,F.dv,F.l,F.r,F.d,F.v,hs,hrs,hl,hd,hv,hld,hdl,hlv,hrv,hrd,hdr,F.d _ hd,p3];done)
      | skip)
end Sq
namespace Sq
noncomputable def ltr (r u:List Nat)(s:Nat):Nat:=nx u (nx r (nx (back u) (nx (back r) s)))
def Rgh (n:Nat)(r u F:List Nat):Prop:=∀ s,s<n->(s∈F↔ltr r u s≠s)
structure RU (n:Nat)(r u F:List Nat)(p q:Int)(r' u' F':List Nat)(p' q' U:Int)(f:Spt->Spt):Prop where
 c:∀ a,SIn n p q U a->cr F' (f a)=cr F a
 t:∀ a,SIn n p q U a->SIn n p' q' U (f a)->cr F a=false->cr F (tk r u p q U a)=false->tk r' u' p' q' U (f a)=f (tk r u p q U a)
 h:∀ a,SIn n p q U a->SIn n p' q' U (f a)->cr F a=false->cr F (tk r u p q U a)=true->cr F' (tk r' u' p' q' U (f a))=true/\((tk r' u' p' q' U (f a)).s=(f (tk r u p q U a)).s\/(tk r' u' p' q' U (f a)).s=ltr r' u' (f (tk r u p q U a)).s)
section
variable {n:Nat}{r u F r' u' F':List Nat}{p q p' q' U:Int}{f:Spt->Spt}
theorem Z7g (hr:Row n r)(hu:Row n u)(hr':Row n r')(hu':Row n u')(o:WOk p q U)(o':WOk p' q' U)(G:RU n r u F p q r' u' F' p' q' U f):∀ (k:Nat) (a b:Spt) (T:Int),T.toNat=k->0<=T->SIn n p q U a->SIn n p' q' U (f a)->Run r u F p q U a T b->Run r' u' F' p' q' U (f a) T (f b)
 | 0,a,b,T,hk,hT,h,h',g=>by
  have e:T=0:=by lia
  subst e;rw[Ut rfl g];exact .nil _ (by rw[G.c a h];exact UB g)
 | k+1,a,b,T,hk,hT,h,h',g=>by
  obtain⟨hf,g1⟩:=Zci o h (by lia) g;have e:=G.t a h h' hf (UB g1);have i1:=WL (m:=1) hr hu o h (by decide);have i2:=WL (m:=1) hr' hu' o' h' (by decide);have i2':SIn n p' q' U (f (tk r u p q U a)):=by rw[<-e];exact i2
  have:=Z7g hr hu hr' hu' o o' G k _ b (T-1) (by lia) (by lia) i1 i2' g1;rw[<-e]at this;have:=Zd5 hr' hu' o' h' (by lia) (by rw[G.c a h];exact hf) this
  rwa [show T-1+1=T by lia]at this
end
theorem Xw {F:List Nat}{a:Spt}:cr F a=true↔a.x=0/\a.y=0/\a.s∈F:=by
 unfold cr;rw[Y22,Y22,decide_eq_true_iff,decide_eq_true_iff,decide_eq_true_iff]
section
variable {n:Nat}{r u F F':List Nat}{p q U:Int}
theorem Zdu (hr:Row n r)(hu:Row n u){s:Nat}(hs:s<n):nx (back (cmp n u (back r))) s=nx r (nx (back u) s):=by
 have hc:=Vl hu hr.back;have h1:=hu.back.nlt hs;have h2:=hr.nlt h1;refine hc.inj (hc.back.nlt hs) h2 ?_;rw[WU hc hs,WM h2,Yj hr h1,WU hu hs]
theorem Sg {a:Spt}(o:WOk p q U)(h:SIn n p q U a):XE p U a.x:=Zbe o.u h.x0 h.x1 o.p h.px
theorem Zen {a:Spt}(o:WOk p q U)(h:SIn n p q U a):XE q U a.y:=Zbe o.u h.y0 h.y1 o.q h.qy
theorem Zas (hr:Row n r)(hu:Row n u){s:Nat}(hs:s<n):ltr r (cmp n u (back r)) s=ltr r u s:=by
 unfold ltr;have h1:=hr.back.nlt hs;have h2:=hu.back.nlt h1;have h3:=hr.nlt h2;rw[Zdu hr hu h1,WM (hr.nlt h3),Yj hr h3]
theorem Z9p (hr:Row n r)(hu:Row n u)(o:WOk p q U)(o':WOk (p+q) q U)(hF:Rgh n r u F)(hF':Rgh n r (cmp n u (back r)) F'):RU n r u F p q r (cmp n u (back r)) F' (p+q) q U (shS (nx r) U):=by
 have hc:=Vl hu hr.back;have FF:∀ s,s<n->(s∈F'↔s∈F):=fun s hs=>by rw[hF s hs,hF' s hs,Zas hr hu hs]
 have ccr:∀ a,SIn n p q U a->cr F' (shS (nx r) U a)=cr F a:=fun a h=>by
  rw[Y2b,Xw,Xw];obtain⟨s,x,y⟩:=a;obtain⟨h1,h2,h3,h4,h5,_,_⟩:=h;dsimp only at *;unfold shS;dsimp only
  by_cases c:x+y<U
  ·rw[if_pos c];dsimp only;rw[FF s h1];exact⟨fun ⟨a,b,c⟩=>⟨by lia,b,c⟩,fun ⟨a,b,c⟩=>⟨by lia,b,c⟩⟩
  ·rw[if_neg c];dsimp only;exact⟨fun ⟨a,b,c⟩=>by lia,fun ⟨a,b,c⟩=>by lia⟩
 have key:∀ a,SIn n p q U a->SIn n (p+q) q U (shS (nx r) U a)->cr F a=false->tk r (cmp n u (back r)) (p+q) q U (shS (nx r) U a)=shS (nx r) U (tk r u p q U a):=fun a h h' hf=>by
  rw[U5 o h,U5 o' h'];obtain⟨s,x,y⟩:=a;refine Z9E (ZbR hr hu) h.s rfl rfl (fun s hs=>Zdu hr hu hs) (fun s hs=>WM hs) (Sg o h) (Zen o h) ?_ ?_
  ·have:=Sg o' h';unfold shS at this;dsimp only at this ⊢
   split at this
   ·rename_i c;rw[if_pos c];exact this
   ·rename_i c;rw[if_neg c];exact this
  ·intro e1 e2;refine Decidable.byContradiction fun hn=>?_;have:cr F ⟨s,x,y⟩=true:=Xw.mpr ⟨e1,e2,(hF s h.s).mpr hn⟩;rw[this]at hf;cases hf
 refine⟨ccr,fun a h h' hf _=>key a h h' hf,fun a h h' hf hg=>?_⟩;have e:=key a h h' hf;rw[e];exact⟨by rw[ccr _ (WL (m:=1) hr hu o h (by decide))];exact hg,.inl rfl⟩
theorem Zco (hr:Row n r)(hu:Row n u){s:Nat}(hs:s<n):ltr (back u) r (nx (back u) s)=nx (back u) (ltr r u s):=by
 unfold ltr;have h1:=hr.back.nlt hs;have h2:=hu.back.nlt h1;have h3:=hr.nlt h2;rw[Z5j hu,WU hu hs,Yj hu h3]
theorem ZaT (hr:Row n r)(hu:Row n u)(o:WOk p q U)(o':WOk (-q) p U)(hF:Rgh n r u F)(hF':Rgh n (back u) r F'):RU n r u F p q (back u) r F' (-q) p U (tnS (nx (back u)) U):=by
 have FF:∀ s,s<n->(nx (back u) s∈F'↔s∈F):=fun s hs=>by
  rw[hF s hs,hF' _ (hu.back.nlt hs),Zco hr hu hs];have hl:ltr r u s<n:=hu.nlt (hr.nlt (hu.back.nlt (hr.back.nlt hs)));exact⟨fun h e=>h (by rw[e]),fun h e=>h (hu.back.inj hl hs e)⟩
 have ccr:∀ a,SIn n p q U a->cr F' (tnS (nx (back u)) U a)=cr F a:=fun a h=>by
  rw[Y2b,Xw,Xw];obtain⟨s,x,y⟩:=a;obtain⟨h1,h2,h3,h4,h5,_,_⟩:=h;dsimp only at *;unfold tnS;dsimp only
  by_cases c:y=0
  ·rw[if_pos c];dsimp only;rw[FF s h1];exact⟨fun ⟨_,b,d⟩=>⟨b,c,d⟩,fun ⟨a,b,d⟩=>⟨rfl,a,d⟩⟩
  ·rw[if_neg c];dsimp only;exact⟨fun ⟨a,b,d⟩=>by lia,fun ⟨a,b,d⟩=>by lia⟩
 have F4:=ZbR hr hu;have key:∀ a,SIn n p q U a->SIn n (-q) p U (tnS (nx (back u)) U a)->cr F a=false->(0<p->q<=0->ou p U a.x+p=U->ou q U a.y+q=0->nx r (nx (back u) (if q<0/\a.y=0 then nx (back u) a.s else a.s))=nx (back u) (nx r (if q<0/\a.y=0 then nx (back u) a.s else a.s)))->tk (back u) r (-q) p U (tnS (nx (back u)) U a)=tnS (nx (back u)) U (tk r u p q U a):=fun a h h' hf hp=>by
  rw[U5 o h,U5 o' h'];obtain⟨s,x,y⟩:=a;refine Zb3 F4 h.s (fun s hs=>by rw[Z5j hu]) (fun s hs=>rfl) (fun s hs=>rfl) (fun s hs=>rfl) (Sg o h) (Zen o h) ?_ ?_ hp
  ·have:=Sg o' h';unfold tnS at this;dsimp only at this ⊢
   split at this
   ·rename_i c;rw[if_pos c];exact this
   ·rename_i c;rw[if_neg c];exact this
  ·intro e1 e2;refine Decidable.byContradiction fun hn=>?_;have:cr F ⟨s,x,y⟩=true:=Xw.mpr ⟨e1,e2,(hF s h.s).mpr hn⟩;rw[this]at hf;cases hf
 have arr:∀ a,SIn n p q U a->0<p->q<=0->ou p U a.x+p=U->ou q U a.y+q=0->tk r u p q U a=⟨nx r (if q<0/\a.y=0 then nx (back u) a.s else a.s),0,0⟩/\(if q<0/\a.y=0 then nx (back u) a.s else a.s)<n:=fun a h p0 q0 e1 e2=>by
  have hU:=o.u;refine⟨?_,by split;exact hu.back.nlt h.s;exact h.s⟩;rw[U5 o h];unfold tsq z0;dsimp only;have ne:¬ (0:Int)=U:=by lia
  rw[if_neg (show ¬ (p<0/\a.x=0) by lia),e1,e2,if_pos rfl,if_neg ne,if_pos rfl,if_neg ne]
 refine⟨ccr,fun a h h' hf hg=>key a h h' hf fun p0 q0 e1 e2=>?_,fun a h h' hf hg=>?_⟩
 ·obtain⟨ea,lt⟩:=arr a h p0 q0 e1 e2;rw[ea]at hg;generalize (if q<0/\a.y=0 then nx (back u) a.s else a.s)=t at *;have lr:=hr.nlt lt;have:ltr r u (nx r t)=nx r t:=by
   refine Decidable.byContradiction fun hn=>?_;have:cr F ⟨nx r t,0,0⟩=true:=Xw.mpr ⟨rfl,rfl,(hF _ lr).mpr hn⟩;rw[this]at hg;cases hg
  unfold ltr at this;rw[Yj hr lt]at this;have z:=congrArg (nx (back u)) this
  rwa [Yj hu (hr.nlt (hu.back.nlt lt))]at z
 ·by_cases c:0<p/\q<=0/\ou p U a.x+p=U/\ou q U a.y+q=0
  ·obtain⟨p0,q0,e1,e2⟩:=c;obtain⟨ea,lt⟩:=arr a h p0 q0 e1 e2;have hU:=o.u;have eb:tk (back u) r (-q) p U (tnS (nx (back u)) U a)=⟨nx r (nx (back u) (if q<0/\a.y=0 then nx (back u) a.s else a.s)),0,0⟩:=by
    rw[U5 o' h'];have y0:=h.y0;have y1:=h.y1;have x0:=h.x0;have x1:=h.x1;rcases Wq q U a.y with ⟨b1,b2,b3⟩|⟨b1,b3⟩
    ·rw[b3]at e2;rw[if_pos ⟨b1,b2⟩];have et:tnS (nx (back u)) U a=⟨nx (back u) a.s,0,a.x⟩:=(by unfold tnS;rw[if_pos b2]);rw[et];dsimp only;have ow:ou (-q) U 0=0:=(by unfold ou;rw[if_neg (by lia)]);unfold tsq z0;dsimp only;rw[ow,e1,if_neg (show ¬ (-q<0/\(0:Int)=0) by lia),if_neg (show ¬ (p<0/\a.x=0) by lia),if_pos (show (0:Int) + -q=U by lia),if_pos rfl,if_pos (show (0:Int) + -q=U by lia),if_pos rfl]
    ·rw[b3]at e2;rw[if_neg b1]
     by_cases cy:a.y=0
     ·have et:tnS (nx (back u)) U a=⟨nx (back u) a.s,0,a.x⟩:=(by unfold tnS;rw[if_pos cy]);rw[et];dsimp only;have ow:ou (-q) U 0=0:=(by unfold ou;rw[if_neg (by lia)]);unfold tsq z0;dsimp only;rw[ow,e1,if_neg (show ¬ (-q<0/\(0:Int)=0) by lia),if_neg (show ¬ (p<0/\a.x=0) by lia),if_neg (show ¬ (0:Int) + -q=U by lia),if_pos rfl,if_neg (show ¬ (0:Int) + -q=U by lia),if_pos rfl];congr 1;lia
     ·have et:tnS (nx (back u)) U a=⟨a.s,U-a.y,a.x⟩:=(by unfold tnS;rw[if_neg cy]);rw[et];dsimp only;have ow:ou (-q) U (U-a.y)=U-a.y:=(by unfold ou;rw[if_neg (by lia)]);unfold tsq z0;dsimp only;rw[ow,e1,if_neg (show ¬ (-q<0/\U-a.y=0) by lia),if_neg (show ¬ (p<0/\a.x=0) by lia),if_pos (show U-a.y + -q=U by lia),if_pos rfl,if_pos (show U-a.y + -q=U by lia),if_pos rfl]
   rw[ea]at hg ⊢;rw[eb];generalize (if q<0/\a.y=0 then nx (back u) a.s else a.s)=t at *;have lr:=hr.nlt lt;have et:tnS (nx (back u)) U ⟨nx r t,0,0⟩=⟨nx (back u) (nx r t),0,0⟩:=(by unfold tnS;rw[if_pos rfl]);rw[et];have el:ltr (back u) r (nx (back u) (nx r t))=nx r (nx (back u) t):=by
    unfold ltr;rw[Z5j hu,WU hu lr,Yj hr lt]
   have inF:=(Xw.mp hg).2.2;refine⟨Xw.mpr ⟨rfl,rfl,?_⟩,.inr el.symm⟩;have hD:=hu.back.nlt lr;have inF':nx (back u) (nx r t)∈F':=(FF _ lr).mpr inF;have n1:=(hF' _ hD).mp inF';show nx r (nx (back u) t)∈F';refine (hF' _ (hr.nlt (hu.back.nlt lt))).mpr fun e=>n1 ?_;have hlr:Row n r:=hr;have:ltr (back u) r (ltr (back u) r (nx (back u) (nx r t)))=ltr (back u) r (nx (back u) (nx r t)):=(by rw[el,e]);have inj:∀ i j,i<n->j<n->ltr (back u) r i=ltr (back u) r j->i=j:=fun i j hi hj e=>by
    unfold ltr at e;have bu:=hu.back;have a1:=hr.inj (bu.nlt (hr.back.nlt (bu.back.nlt hi))) (bu.nlt (hr.back.nlt (bu.back.nlt hj))) e;have a2:=bu.inj (hr.back.nlt (bu.back.nlt hi)) (hr.back.nlt (bu.back.nlt hj)) a1;have a3:=hr.back.inj (bu.back.nlt hi) (bu.back.nlt hj) a2;exact bu.back.inj hi hj a3
   exact inj _ _ (by rw[el];exact hr.nlt (hu.back.nlt lt)) hD this
  ·have e:=key a h h' hf fun p0 q0 e1 e2=>absurd ⟨p0,q0,e1,e2⟩ c;rw[e];exact⟨by rw[ccr _ (WL (m:=1) hr hu o h (by decide))];exact hg,.inl rfl⟩
end
end Sq
namespace K1
open PySem L2 Sq
noncomputable abbrev FF (n:Nat)(x:List Nat×List Nat):List Nat:=Zj n (ZF x.1 x.2)
abbrev Wv (n:Nat)(x:List Nat×List Nat)(d:Int×Int)(U:Int):Spt->Int->Spt->Prop:=Run x.1 x.2 (FF n x) d.1 d.2 U
abbrev W4 (n:Nat)(x:List Nat×List Nat):Prop:=Row n x.1/\Row n x.2
noncomputable def dm1 (c:Nat)(d:Int×Int):Int×Int:=if c=115 then (d.1+d.2,d.2) else (-d.2,d.1)
noncomputable def dms:List Nat->Int×Int->Int×Int
 | [],d=>d
 | c::z,d=>dms z (dm1 c d)
noncomputable def sm1 (U:Int)(c:Nat)(x:List Nat×List Nat)(a:Spt):Spt:=if c=115 then shS (nx x.1) U a else tnS (nx (back x.2)) U a
noncomputable def sms (n:Nat)(U:Int):List Nat->List Nat×List Nat->Spt->Spt
 | [],_,a=>a
 | c::z,x,a=>sms n U z (mv1 n c x) (sm1 U c x a)
theorem Zdy {n:Nat}{x:List Nat×List Nat}(hx:W4 n x):Rgh n x.1 x.2 (FF n x):=fun s hs=>by
 rw[(UQ (UH hx.1 hx.2)).mem_iff];unfold Yn ltr;rw[Y0p,Y06,Wl hx.1 hs];simp[hs]
structure On (n:Nat)(U D:Int)(a:Spt):Prop where
 s:a.s<n
 x0:0<=a.x
 x1:a.x<U
 y0:0<=a.y
 y1:a.y<U
 dx:D∣a.x
 dy:D∣a.y
theorem ZdF {n c:Nat}{U D:Int}{x:List Nat×List Nat}{a:Spt}(hx:W4 n x)(hD:D∣U)(h:On n U D a):On n U D (sm1 U c x a):=by
 obtain⟨s,i,j⟩:=a;obtain⟨h1,h2,h3,h4,h5,h6,h7⟩:=h;dsimp only at *;unfold sm1 shS tnS;dsimp only
 split
 ·split
  ·exact⟨h1,by show 0<=i+j;lia,by assumption,h4,h5,Y4f h6 h7,h7⟩
  ·exact⟨hx.1.nlt h1,by show 0<=i+j-U;lia,by show i+j-U<U;lia,h4,h5,Y4x (Y4f h6 h7) hD,h7⟩
 ·split
  ·exact⟨hx.2.back.nlt h1,Y4e _,by show (0:Int)<U;lia,h2,h3,Y5c _,h6⟩
  ·exact⟨h1,by show 0<=U-j;lia,by show U-j<U;lia,h2,h3,Y4x hD h7,h6⟩
structure Gd (D:Int)(d:Int×Int):Prop where
 n:¬ (d.1=0/\d.2=0)
 p:d.1≠0->d.1∣D
 q:d.2≠0->d.2∣D
def Gds (D:Int):List Nat->Int×Int->Prop
 | [],d=>Gd D d
 | c::z,d=>Gd D d/\Gds D z (dm1 c d)
theorem Zhn {D:Int}{z:List Nat}{d:Int×Int}(h:Gds D z d):Gd D d:=by
 cases z with
 | nil=>exact h
 | cons c z=>exact h.1
theorem Zhw {c:Nat}{d:Int×Int}(h:¬ (d.1=0/\d.2=0)):¬ ((dm1 c d).1=0/\(dm1 c d).2=0):=by
 unfold dm1;split
 ·dsimp only;lia
 ·dsimp only;lia
theorem Zep {D E:Int}{d:Int×Int}(h:Gd D d)(e:D∣E):Gd E d:=⟨h.n,fun z=>Y1u (h.p z) e,fun z=>Y1u (h.q z) e⟩
theorem Zbc {D E:Int}(e:D∣E):∀ {z:List Nat} {d:Int×Int},Gds D z d->Gds E z d
 | [],_,h=>Zep h e
 | c::z,_,h=>⟨Zep h.1 e,Zbc e h.2⟩
noncomputable def nz (i:Int):Int:=if i=0 then 1 else (i.natAbs:Int)
theorem Sh (i:Int):0<nz i:=by unfold nz;split<;>lia
theorem Sk {i:Int}(h:i≠0):i∣nz i:=by unfold nz;rw[if_neg h];exact Int.dvd_natAbs.mpr (Y5d _)
theorem Zek:∀ (z:List Nat) (d:Int×Int),¬ (d.1=0/\d.2=0)->∃ D:Int,0<D/\Gds D z d
 | [],d,h=>⟨nz d.1*nz d.2,Y13 (Sh _) (Sh _),h,fun e=>Y1u (Sk e) (Y1r _ _),fun e=>Y1u (Sk e) (Y4o _ _)⟩
 | c::z,d,h=>by
  obtain⟨D,D0,hD⟩:=Zek z (dm1 c d) (Zhw h);refine⟨nz d.1*nz d.2*D,Y13 (Y13 (Sh _) (Sh _)) D0,⟨h,fun e=>?_,fun e=>?_⟩,Zbc (Y4o _ _) hD⟩
  ·exact Y1u (Sk e) (Y1u (Y1r _ _) (Y1r _ _))
  ·exact Y1u (Sk e) (Y1u (Y4o _ _) (Y1r _ _))
theorem RN {D U:Int}{d:Int×Int}(h:Gd D d)(hU:0<U)(hD:D∣U):WOk d.1 d.2 U:=⟨hU,h.n,fun z=>Y1u (h.p z) hD,fun z=>Y1u (h.q z) hD⟩
theorem ZhK {n:Nat}{U D:Int}{d:Int×Int}{a:Spt}(h:Gd D d)(o:On n U D a):SIn n d.1 d.2 U a:=⟨o.s,o.x0,o.x1,o.y0,o.y1,fun z=>Y1u (h.p z) o.dx,fun z=>Y1u (h.q z) o.dy⟩
theorem Zcl {n c:Nat}{x:List Nat×List Nat}{d:Int×Int}{U D:Int}(hx:W4 n x)(hU:0<U)(hD:D∣U)(g:Gd D d)(g':Gd D (dm1 c d)):RU n x.1 x.2 (FF n x) d.1 d.2 (mv1 n c x).1 (mv1 n c x).2 (FF n (mv1 n c x)) (dm1 c d).1 (dm1 c d).2 U (sm1 U c x):=by
 have hx':=Uc (c:=c) hx;have r1:=Zdy hx;have r2:=Zdy hx';have o:=RN g hU hD;have o':=RN g' hU hD
 by_cases e:c=115
 ·subst e;have e1:sm1 U 115 x=shS (nx x.1) U:=by funext a;unfold sm1;rw[if_pos rfl]
  rw[e1];unfold mv1 dm1 at *;rw[if_pos rfl]at *;exact Z9p hx.1 hx.2 o o' r1 r2
 ·have e1:sm1 U c x=tnS (nx (back x.2)) U:=by funext a;unfold sm1;rw[if_neg e]
  rw[e1];unfold mv1 dm1 at *;simp only[if_neg e]at *;exact ZaT hx.1 hx.2 o o' r1 r2
theorem Z8S {n:Nat}{U D:Int}(hU:0<U)(hD:D∣U):∀ (z:List Nat) (x:List Nat×List Nat) (d:Int×Int) (a b:Spt) (T:Int),W4 n x->Gds D z d->On n U D a->0<=T->Wv n x d U a T b->Wv n (mvs n z x) (dms z d) U (sms n U z x a) T (sms n U z x b)
 | [],x,d,a,b,T,_,_,_,_,h=>h
 | c::z,x,d,a,b,T,hx,g,o,hT,h=>by
  have hx':=Uc (c:=c) hx;have g':=Zhn g.2;have o1:=ZdF (c:=c) hx hD o;have:=Z7g hx.1 hx.2 hx'.1 hx'.2 (RN g.1 hU hD) (RN g' hU hD) (Zcl hx hU hD g.1 g') _ a b T rfl hT (ZhK g.1 o) (ZhK g' o1) h;exact Z8S hU hD z (mv1 n c x) (dm1 c d) _ _ T hx' g.2 o1 hT this
noncomputable def spt (p:Nat×Int×Int):Spt:=⟨p.1,p.2.1,p.2.2⟩
theorem ZeH (B:Int)(c:Nat)(x:List Nat×List Nat)(p:Nat×Int×Int):spt (pm1 B c x p)=sm1 B c x (spt p):=by
 unfold pm1 sm1 shS tnS spt;dsimp only
 split<;>split<;>rfl
theorem So (n:Nat)(B:Int):∀ (z:List Nat) (x:List Nat×List Nat) (p:Nat×Int×Int),spt (pms n B z x p)=sms n B z x (spt p)
 | [],_,_=>rfl
 | c::z,x,p=>by
  show spt (pms n B z (mv1 n c x) (pm1 B c x p))=sms n B z (mv1 n c x) (sm1 B c x (spt p));rw[So n B z,ZeH]
theorem Zgh {e B:Int}(he:0<e)(c:Nat)(x:List Nat×List Nat)(a:Spt):sm1 (e*B) c x (scS e a)=scS e (sm1 B c x a):=by
 obtain⟨s,i,j⟩:=a;unfold sm1 shS tnS scS;dsimp only;have z:e*j=0↔j=0:=⟨fun h=>by rcases Y3n.mp h with g|g<;>lia,fun h=>by rw[h,Y2g]⟩;have y:e*i+e*j<e*B↔i+j<B:=by
  rw[<-Y17];exact⟨fun h=>Y5k h (by lia),fun h=>Y1d h he⟩
 split
 ·by_cases h:i+j<B
  ·rw[if_pos h,if_pos (y.mpr h)];dsimp only;rw[Y17]
  ·rw[if_neg h,if_neg fun g=>h (y.mp g)];dsimp only;rw[Y0s,Y17]
 ·by_cases h:j=0
  ·rw[if_pos h,if_pos (z.mpr h)];dsimp only;rw[Y2g]
  ·rw[if_neg h,if_neg fun g=>h (z.mp g)];dsimp only;rw[Y0s]
theorem R9 {n:Nat}{e B:Int}(he:0<e):∀ (z:List Nat) (x:List Nat×List Nat) (a:Spt),sms n (e*B) z x (scS e a)=scS e (sms n B z x a)
 | [],_,_=>rfl
 | c::z,x,a=>by
  show sms n (e*B) z (mv1 n c x) (sm1 (e*B) c x (scS e a))=scS e (sms n B z (mv1 n c x) (sm1 B c x a));rw[Zgh he,R9 he z]
end K1
namespace L2
open PySem PySem.Spec PyProof.Rows
theorem Zbi (val:Nat->Int):∀ n:Nat,argBest (fun i j=>decide (val i>val j)) n<=n/\∀ j,j<=n->val (argBest (fun i j=>decide (val i>val j)) n)≥val j
 | 0=>⟨Y05 _,fun j hj=>by (have:j=0:=(by lia);subst this;exact Y4e _)⟩
 | n+1=>by
  obtain⟨h1,h2⟩:=Zbi val n;show (if decide (val (n+1)>val (argBest (fun i j=>decide (val i>val j)) n))=true then n+1 else argBest (fun i j=>decide (val i>val j)) n)<=n+1/\_;show _/\∀ j,j<=n+1->val (if decide (val (n+1)>val (argBest (fun i j=>decide (val i>val j)) n))=true then n+1 else argBest (fun i j=>decide (val i>val j)) n)≥val j
  by_cases c:val (n+1)>val (argBest (fun i j=>decide (val i>val j)) n)
  ·rw[if_pos (decide_eq_true c)];refine⟨Y05 _,fun j hj=>?_⟩;rcases Y0q j (n+1) with d|d
   ·have:=h2 j (by lia);lia
   ·have:j=n+1:=(by lia);subst this;exact Y4e _
  ·rw[if_neg (by rw[decide_eq_true_iff];exact c)];refine⟨by lia,fun j hj=>?_⟩;rcases Y0q j (n+1) with d|d
   ·exact h2 j (by lia)
   ·have:j=n+1:=(by lia);subst this;lia
section
variable {X:Cx}
theorem Z6u:bootBuiltins "max"=some (.builtin "max"):=by decide +kernel
theorem ZbP (hc:X.calm=true):YW X (.builtin "max") (fun xs H Q=>∃ (p:Addr) (ns:List Int),xs=[.ref p]/\SqL X.K H p (ns.map V.int)/\ns≠[]/\∀ m,m∈ns->(∀ y∈ns,y<=m)->Q (.int m) H):=by
 intro pins s σ H xs us Q I r h;obtain⟨p,ns,rfl,hq,hne,q⟩:=h;obtain⟨u,rfl,ru⟩:=YE r;obtain rfl:u=Value.ref p:=ru;obtain⟨its,rv,pl,hz⟩:=I.list hq;have hL:=pl.isList;have hlt:p<s.heap.objs.size:=by obtain⟨o,ho,_⟩:=id hL;exact Y09 ho
 have hlen:its.length=ns.length:=by rw[<-rv.length];simp
 have hpos:0<ns.length:=List.length_pos_iff.mpr hne;have hval:∀ i v,its.toArray[i]?=some v->∃ t,v=Value.int (ns.getD i 0) t:=fun i v hP=>by
  have hv:its[i]?=some v:=by simpa using hP
  have hi:i<ns.length:=by rw[<-hlen];exact (Y08.mp hv).1
  have hb:(ns.map V.int)[i]?=some (.int ns[i]):=by simp[hi]
  obtain⟨u,hu,t,rfl⟩:=rv.get hb;rw[hv]at hu;cases hu;exact⟨t,by simp[Y04,hi]⟩
 refine call_max_walk (wpAny_pyIter_list hL ⟨s.heap.objs.size,_,_,its.toArray.size,_,_,_,rfl,Walks.list (A:=X.A.in1) (I.ok.hd hc) s.heap.objs.size p (Y0j hlt) its.toArray,⟨⟨_,Y0b _ rfl,rfl,rfl⟩,hL.push _⟩,fun b hb=>?_,by rw[Y0e];lia,CmpOf.ints_gt (fun i=>ns.getD i 0) hval,fun v h' tk hP hk=>?_⟩)
 ·rw[Y21];simp at hb;rcases hb with rfl|rfl
  ·exact Y2l _
  ·exact Y1f hlt
 ·obtain⟨t,rfl⟩:=hval _ v hP;obtain⟨b1,b2⟩:=Zbi (fun i=>ns.getD i 0) (its.toArray.size-1);rw[Y0e,hlen]at b1 b2 hP ⊢;generalize argBest (fun i j=>decide (ns.getD i 0>ns.getD j 0)) (ns.length-1)=k at b1 b2 hP ⊢;have hk':k<ns.length:=by lia
  refine⟨.int (ns.getD k 0),H,?_,⟨t,rfl⟩,q _ ?_ fun y hy=>?_⟩
  ·refine I.kept fun b o e=>hk b o (fun hb=>?_) (Y03 _ e);have:=Y09 e;simp at hb;rw[hb]at this;exact Y2d _ this
  ·simp[Y04,hk']
  ·obtain⟨j,hj,rfl⟩:=Y1i.mp hy;have:=b2 j (by lia)
   simpa [Y04,hj] using this
end
theorem Z56 {c:TT}{tb:TS}{D:Yx}{σ:St}{H:Hp}(Pv:Nat->St->Hp->Prop)(h0:∃ m,Pv m σ H)
  (hs:∀ m σ H,Pv m σ H->c σ H fun b H1=>if b=true then tb { D with nx:=fun σ' H'=>∃ m',m'<m/\Pv m' σ' H',ct:=fun σ' H'=>∃ m',m'<m/\Pv m' σ' H',bk:=D.nx } σ H1 else D.nx σ H1)
  (mono:∀ σ H Q Q',(∀ b H1,Q b H1->Q' b H1)->c σ H Q->c σ H Q'):Zam c tb D σ H:=by
 refine⟨Pv,h0,?_⟩;rintro m σ H p;refine mono σ H _ _ (fun b H1 q=>?_) (hs m σ H p);cases b with
 | true=>exact⟨_,fun σ' H' z=>z,q⟩
 | false=>exact q
variable {X:Cx}
theorem ZjX {x y z:V}{us:List Value}(r:ZN [x,y,z] us):∃ u v w,us=[u,v,w]/\ZM x u/\ZM y v/\ZM z w:=by
 cases r with
 | cons a r=>cases r with
  | cons b r=>cases r with
   | cons c r=>cases r;exact⟨_,_,_,rfl,a,b,c⟩
theorem ZaG (hc:X.calm=true):YW X (.builtin "min") (fun xs H Q=>∃ i j k:Int,xs=[.int i,.int j,.int k]/\Q (.int (min (min i j) k)) H):=by
 intro pins s σ H xs us Q I r h;obtain⟨i,j,k,rfl,q⟩:=h;obtain⟨u,v,w',rfl,⟨t,rfl⟩,⟨t',rfl⟩,⟨t'',rfl⟩⟩:=ZjX r;refine min_three_ints (I.ok.hd hc) fun h' tk kk=>⟨.int (min (min i j) k),H,I.kept kk,?_,q⟩
 by_cases h1:j<i
 ·by_cases h2:k<j
  ·rw[if_pos h1,if_pos h2];exact⟨_,by rw[show min (min i j) k=k by omega]⟩
  ·rw[if_pos h1,if_neg h2];exact⟨_,by rw[show min (min i j) k=j by omega]⟩
 ·by_cases h2:k<i
  ·rw[if_neg h1,if_pos h2];exact⟨_,by rw[show min (min i j) k=k by omega]⟩
  ·rw[if_neg h1,if_neg h2];exact⟨_,by rw[show min (min i j) k=i by omega]⟩
end L2
namespace K1
open PySem L2 Sq
noncomputable def mx1 (p:Int):Int:=((max p.natAbs 1:Nat):Int)
theorem ZdL (p:Int):(if (1:Int)>(if p<0 then -p else p) then 1 else (if p<0 then -p else p))=mx1 p:=by
 unfold mx1
 by_cases h:p<0
 ·rw[if_pos h];split<;>lia
 ·rw[if_neg h];split<;>lia
theorem Wf (p:Int):1<=mx1 p:=by unfold mx1;lia
theorem Za1 {p:Int}(h:p.natAbs<=60):mx1 p<=60:=by unfold mx1;lia
theorem Sr {p:Int}(h:p≠0):p∣mx1 p:=by
 have e:mx1 p=(p.natAbs:Int):=by unfold mx1;lia
 rw[e];exact Int.dvd_natAbs.mpr (Y5d p)
noncomputable def unU (bx by_ p q:Int):Int:=bx*by_*mx1 p*mx1 q
theorem TV {bx by_ p q:Int}(x0:0<bx)(y0:0<by_)(n:¬ (p=0/\q=0)):WOk p q (unU bx by_ p q) where
 u:=Y13 (Y13 (Y13 x0 y0) (by have:=Wf p;lia)) (by have:=Wf q;lia)
 n:=n
 p:=fun h=>Y5r (Y2h (Sr h))
 q:=fun h=>Y2h (Sr h)
def P3 (C:Addr)(H:Hp)(l:Addr)(sq:Nat)(tx bx ty by_:Int):Prop:=∃ px py,H l=some (.tup [.int (sq:Int),.ref px,.ref py])/\YV C H px tx bx/\YV C H py ty by_
def Zia (C:Addr):Sp:=fun vs H Q _=>∃ (l:Addr) (sq:Nat) (tx bx ty by_ p q:Int),vs=[.ref l,.int p,.int q]/\P3 C H l sq tx bx ty by_/\Bt 60 bx/\Bt 60 by_/\p.natAbs<=60/\q.natAbs<=60/\Q (.int (unU bx by_ p q)) H
section
variable {P:Program}{w:World}{K:Y00}{mg:Str->Option Value}{base:Heap}
noncomputable abbrev ZkA:List Str:=["place","p","q"]
theorem Zh4:ZL ZkA ["place","p","q"] (ZV Ue):=⟨rfl,rfl,rfl,by decide +kernel,rfl,by decide +kernel,by decide +kernel⟩
theorem Zii {f:Addr}{fd:FuncData}{C:Addr}(T:PTx K mg C)(T_abs:mg "abs"=none)(T_max:mg "max"=none)(F:Fn K mg "unit_of" Ue ["place","p","q"] f fd):Z4 P w K mg base CX0 1 f fd ["place","p","q"] (Zia C):=by
 refine F.F.ok Zh4 (fun vs H Q E h=>?_) (fun cdv A outer s H vs Q E hr h=>?_)
 ·obtain⟨l,sq,tx,bx,ty,by_,p,q,rfl,_⟩:=h;rfl
 ·obtain⟨l,sq,tx,bx,ty,by_,p,q,rfl,⟨px,py,h1,⟨dx,h2⟩,⟨dy,h3⟩⟩,hx,hy,hp,hq,k⟩:=h;refine⟨_,(ZY (ZO (ZX YY (ZX YY (ZX YY (YA (Z2 ZZ (pv 0) Z6 (fun _ _=>rfl)) rfl) (YA (Z2 ZZ (pv 0) Z6 (fun _ _=>rfl)) rfl)) (ZG (Z7e rfl) rfl T_max Z6u (Z9 (ZG Yk rfl T_abs X6 (Z9 (pv 1) Z7)) (Z9 Z6 Z7)))) (ZG (Z7e rfl) rfl T_max Z6u (Z9 (ZG Yk rfl T_abs X6 (Z9 (pv 2) Z7)) (Z9 Z6 Z7)))))),?_⟩;have e60:(2:Nat)^60=1152921504606846976:=by decide
  have hx':bx.natAbs<1152921504606846976:=hx;have hmp:=Wf p;have hmq:=Wf q;have lp:=Za1 hp;have lq:=Za1 hq;refine⟨_,rfl,l,_,1,_,rfl,rfl,SqT.of h1,Z0 (j:=1) rfl,px,C,dx,_,_,rfl,h2,T.cl,T.nB,Xy _ _,_,rfl,l,_,2,_,rfl,rfl,SqT.of h1,Z0 (j:=2) rfl,py,C,dy,_,_,rfl,h3,T.cl,T.nB,Xy _ _,?_⟩;refine⟨_,_,rfl,rfl,.inl ⟨by lia,by lia⟩,_,rfl,_,rfl,_,_,rfl,?_⟩;rw[ZdL];refine⟨_,_,rfl,rfl,.inr ⟨by lia,by lia⟩,_,rfl,_,rfl,_,_,rfl,?_⟩;rw[ZdL];exact⟨_,_,rfl,rfl,.inr ⟨by lia,by lia⟩,k⟩
end
theorem Wr {i B:Int}:Z1 i B*B=i*Z8 i B:=by
 have a:=WV i B;have b:=XA i B;generalize Z1 i B=z at *;generalize Z8 i B=u at *;generalize dv i B=d at *;rw[<-a,<-b];rw[Y0f z d u,Y0d u d]
def S3 (H:Hp)(l:Addr)(sq:Nat)(x y:Int):Prop:=H l=some (.tup [.int (sq:Int),.int x,.int y])
noncomputable def atC (kvs:List (Key×V))(sq:Nat)(x y:Int):Bool:=decide (x=0)&&(decide (y=0)&&(Y2 kvs (ik5 sq)).isSome)
def RI:Sp:=fun vs H Q _=>∃ (l d:Addr) (kvs:List (Key×V)) (sq:Nat) (x y:Int),vs=[.ref l,.ref d]/\S3 H l sq x y/\H d=some (.dK kvs)/\Q (.bl (atC kvs sq x y)) H
theorem TC (x:Int):decide (V.int x=V.int 0)=decide (x=0):=by
 rw[decide_eq_decide];exact⟨fun z=>V.int.inj z,fun z=>by rw[z]⟩
section
variable {P:Program}{w:World}{K:Y00}{mg:Str->Option Value}{base:Heap}
noncomputable abbrev Zj4:List Str:=["spot","rough"]
theorem Ziu:ZL Zj4 ["spot","rough"] (ZV UP):=⟨rfl,rfl,rfl,by decide +kernel,rfl,by decide +kernel,by decide +kernel⟩
theorem ZhU {f:Addr}{fd:FuncData}(F:Fn K mg "is_at_corner" UP ["spot","rough"] f fd):Z4 P w K mg base CX0 1 f fd ["spot","rough"] RI:=by
 refine F.F.ok Ziu (fun vs H Q E h=>?_) (fun cdv A outer s H vs Q E hr h=>?_)
 ·obtain⟨l,d,kvs,sq,x,y,rfl,_⟩:=h;rfl
 ·obtain⟨l,d,kvs,sq,x,y,rfl,h1,h2,k⟩:=h;have hu:=RR hr;refine⟨_,(ZY (ZO (Vc (XO Y7 (Z2 ZZ (pv 0) Z6 (fun _ _=>rfl)) Z6 (ZH _)) (Vc (XO Y7 (Z2 ZZ (pv 0) Z6 (fun _ _=>rfl)) Z6 (ZH _)) (TX (Zha (Zh1 hu (Z2 ZZ (pv 0) Z6 (fun _ _=>rfl)) (pv 1)))))))),?_⟩;refine⟨_,rfl,l,_,1,_,rfl,rfl,SqT.of h1,Z0 (j:=1) rfl,rfl,_,rfl,?_⟩;unfold atC at k;rw[TC];cases hx:decide (x=0) with
  | false=>rw[hx]at k;exact ZJ k
  | true=>
   rw[hx,Bool.true_and]at k;refine Zz ?_;refine⟨_,rfl,l,_,2,_,rfl,rfl,SqT.of h1,Z0 (j:=2) rfl,rfl,_,rfl,?_⟩;rw[TC];cases hy:decide (y=0) with
   | false=>rw[hy]at k;exact ZJ k
   | true=>
    rw[hy,Bool.true_and]at k;refine Zz ?_;exact⟨_,rfl,l,_,0,_,rfl,rfl,SqT.of h1,Z0 (j:=0) rfl,_,rfl,d,_,rfl,X9.k (k:=ik5 sq) h2,k⟩
end
def ZgG:Sp:=fun vs H Q _=>∃ (l bk b0 b1:Addr) (n sq:Nat) (x y p q U:Int) (r u:List Nat),vs=[.ref l,.int p,.int q,.ref bk,.int U]/\S3 H l sq x y/\H bk=some (.tup [.ref b0,.ref b1])/\H b0=some (.tup (nv (back r)))/\H b1=some (.tup (nv (back u)))/\Row n r/\Row n u/\sq<n/\
 ∀ (H':Hp) (t:Addr),Z5 H H'->S3 H' t (ZC r u (lo p x 0++lo q y 1) sq) (ou p U x) (ou q U y)->Q (.ref t) H'
section
variable {P:Program}{w:World}{K:Y00}{mg:Str->Option Value}{base:Heap}
noncomputable abbrev ZjZ:List Str:=["spot","p","q","back","unit","square","x","y"]
theorem WO:ZL ZjZ ["spot","p","q","back","unit"] (ZV Uh):=⟨rfl,rfl,rfl,by decide +kernel,rfl,by decide +kernel,by decide +kernel⟩
theorem ZgS {f:Addr}{fd:FuncData}(F:Fn K mg "set_out" Uh ["spot","p","q","back","unit"] f fd):Z4 P w K mg base CX0 1 f fd ["spot","p","q","back","unit"] ZgG:=by
 refine F.F.ok WO (fun vs H Q E h=>?_) (fun cdv A outer s H vs Q E hr h=>?_)
 ·obtain⟨l,bk,b0,b1,n,sq,x,y,p,q,U,r,u,rfl,_⟩:=h;rfl
 ·obtain⟨l,bk,b0,b1,n,sq,x,y,p,q,U,r,u,rfl,h1,hb,h2,h3,rr,ru,hs,k⟩:=h;refine⟨_,(Z3 (ZW (i:=5) WO.nd rfl (Or.inl rfl) (Z2 ZZ (pv 0) Z6 (fun _ _=>rfl)))
   (Z3 (ZW (i:=6) WO.nd rfl (Or.inl rfl) (Z2 ZZ (pv 0) Z6 (fun _ _=>rfl)))
   (Z3 (ZW (i:=7) WO.nd rfl (Or.inl rfl) (Z2 ZZ (pv 0) Z6 (fun _ _=>rfl)))
   (Z3 (Zy (PW.pt (WG (ZE X2 (pv 1) Z6 (ZH _)) (Wk (ZE Y7 (pv 6) Z6 (ZH _))))) (Z3 (ZW (i:=5) WO.nd rfl (Or.inl rfl) (Z2 ZZ (Z2 ZZ (pv 3) Z6 (fun _ _=>rfl)) (pv 5) (fun _ _=>rfl)))
   (ZY (ZW (i:=6) WO.nd rfl (Or.inl rfl) (pv 4)))) Zw)
   (Z3 (Zy (PW.pt (WG (ZE X2 (pv 2) Z6 (ZH _)) (Wk (ZE Y7 (pv 7) Z6 (ZH _))))) (Z3 (ZW (i:=5) WO.nd rfl (Or.inl rfl) (Z2 ZZ (Z2 ZZ (pv 3) Z6 (fun _ _=>rfl)) (pv 5) (fun _ _=>rfl)))
   (ZY (ZW (i:=7) WO.nd rfl (Or.inl rfl) (pv 4)))) Zw)
   (ZY (ZO (Zq (Z9 (pv 5) (Z9 (pv 6) (Z9 (pv 7) Z7))))))))))),?_⟩
  refine⟨_,rfl,l,_,0,_,rfl,rfl,SqT.of h1,Z0 (j:=0) rfl,_,rfl,l,_,1,_,rfl,rfl,SqT.of h1,Z0 (j:=1) rfl,_,rfl,l,_,2,_,rfl,rfl,SqT.of h1,Z0 (j:=2) rfl,?_⟩;rw[Yt,Sx,SK]at k;have hs':(if p<0/\x=0 then nx (back r) sq else sq)<n:=by
   split
   ·exact rr.back.nlt hs
   ·exact hs
  unfold ou at k;have fin:∀ (sq':Nat) (x':Int),sq'<n->(∀ (H':Hp) (t:Addr),Z5 H H'->S3 H' t (if q<0/\y=0 then nx (back u) sq' else sq') x' (if q<0/\y=0 then U else y)->Q (.ref t) H')->
    Yy (Ww (Zja (WD (tOp (rI0 fun i j=>V.bl (decide (i<j))) (ZU 2) (tC (.int 0)))) (WD (tOp rEq (ZU 7) (tC (.int 0))))) (Yy (X8 (tOp (Y0 K) (tOp (Y0 K) (ZU 3) (tC (.int 1))) (ZU 5)) (Zs 5)) (X8 (ZU 4) (Zs 7))) Xr) (Ya (Xm (ZI (ZU 5) (ZI (ZU 6) (ZI (ZU 7) Zr))))) { nx:=fun _ H'=>Q .non H',rt:=Q } [some (.ref l),some (.int p),some (.int q),some (.ref bk),some (.int U),some (.int (sq':Int)),some (.int x'),some (.int y)] H:=fun sq' x' hs2 k2=>by
   refine⟨_,rfl,_,_,rfl,rfl,_,rfl,?_⟩;have done:∀ (s3:Nat) (y':Int),(∀ (H':Hp) (t:Addr),Z5 H H'->S3 H' t s3 x' y'->Q (.ref t) H')->Ya (Xm (ZI (ZU 5) (ZI (ZU 6) (ZI (ZU 7) Zr)))) { nx:=fun _ H'=>Q .non H',rt:=Q } [some (.ref l),some (.int p),some (.int q),some (.ref bk),some (.int U),some (.int (s3:Int)),some (.int x'),some (.int y')] H:=fun s3 y' k3=>⟨_,rfl,_,rfl,_,rfl,by show 3<=sizeLine;decide,fun t ht=>k3 _ t (ZS (Z5.refl H) ht) ZR⟩
   by_cases hq:q<0
   ·rw[decide_eq_true hq];refine Zz ?_;refine⟨_,rfl,rfl,_,rfl,?_⟩;rw[TC]
    by_cases hy:y=0
    ·rw[decide_eq_true hy];refine Zz ?_;rw[if_pos ⟨hq,hy⟩,if_pos ⟨hq,hy⟩]at k2;refine⟨_,rfl,bk,_,1,_,rfl,rfl,SqT.of hb,Z0 (j:=1) rfl,_,rfl,b1,_,_,_,rfl,rfl,SqT.of h3,Z0 (Zp (ru.back.get hs2)),_,rfl,?_⟩;exact done _ _ k2
    ·rw[decide_eq_false hy];refine ZJ ?_;rw[if_neg (fun z=>hy z.2),if_neg (fun z=>hy z.2)]at k2;exact done _ _ k2
   ·rw[decide_eq_false hq];refine ZJ ?_;refine ZJ ?_;rw[if_neg (fun z=>hq z.1),if_neg (fun z=>hq z.1)]at k2;exact done _ _ k2
  refine⟨_,rfl,_,_,rfl,rfl,_,rfl,?_⟩
  by_cases hp:p<0
  ·rw[decide_eq_true hp];refine Zz ?_;refine⟨_,rfl,rfl,_,rfl,?_⟩;rw[TC]
   by_cases hx:x=0
   ·rw[decide_eq_true hx];refine Zz ?_;have hpx:p<0/\x=0:=⟨hp,hx⟩;rw[if_pos hpx]at hs';rw[if_pos hpx,if_pos hpx]at k;refine⟨_,rfl,bk,_,0,_,rfl,rfl,SqT.of hb,Z0 (j:=0) rfl,_,rfl,b0,_,_,_,rfl,rfl,SqT.of h2,Z0 (Zp (rr.back.get hs)),_,rfl,?_⟩;exact fin _ _ hs' k
   ·rw[decide_eq_false hx];refine ZJ ?_;have hpx:¬ (p<0/\x=0):=fun z=>hx z.2;rw[if_neg hpx,if_neg hpx]at k;exact fin _ _ hs k
  ·rw[decide_eq_false hp];refine ZJ ?_;refine ZJ ?_;have hpx:¬ (p<0/\x=0):=fun z=>hp z.1;rw[if_neg hpx,if_neg hpx]at k;exact fin _ _ hs k
end
def Zig:Sp:=fun vs H Q _=>∃ (l a:Addr) (n sq:Nat) (x y U:Int) (r u:List Nat),vs=[.ref l,.ref a,.int U]/\S3 H l sq x y/\Zn H a r u/\Row n r/\Row n u/\sq<n/\
 ∀ (H':Hp) (t:Addr),Z5 H H'->S3 H' t (ZC r u (li U x 2++li U y 3) sq) (z0 U x) (z0 U y)->Q (.ref t) H'
theorem ZaZ (x y:Int):decide (V.int x=V.int y)=decide (x=y):=by
 rw[decide_eq_decide];exact⟨fun z=>V.int.inj z,fun z=>by rw[z]⟩
section
variable {P:Program}{w:World}{K:Y00}{mg:Str->Option Value}{base:Heap}
noncomputable abbrev ZiZ:List Str:=["spot","sheet","unit","square","x","y"]
theorem WK:ZL ZiZ ["spot","sheet","unit"] (ZV Up):=⟨rfl,rfl,rfl,by decide +kernel,rfl,by decide +kernel,by decide +kernel⟩
theorem Zi8 {f:Addr}{fd:FuncData}(F:Fn K mg "arrived" Up ["spot","sheet","unit"] f fd):Z4 P w K mg base CX0 1 f fd ["spot","sheet","unit"] Zig:=by
 refine F.F.ok WK (fun vs H Q E h=>?_) (fun cdv A outer s H vs Q E hr h=>?_)
 ·obtain⟨l,a,n,sq,x,y,U,r,u,rfl,_⟩:=h;rfl
 ·obtain⟨l,a,n,sq,x,y,U,r,u,rfl,h1,⟨a0,a1,hb,h2,h3⟩,rr,ru,hs,k⟩:=h;refine⟨_,(Z3 (ZW (i:=3) WK.nd rfl (Or.inl rfl) (Z2 ZZ (pv 0) Z6 (fun _ _=>rfl)))
   (Z3 (ZW (i:=4) WK.nd rfl (Or.inl rfl) (Z2 ZZ (pv 0) Z6 (fun _ _=>rfl)))
   (Z3 (ZW (i:=5) WK.nd rfl (Or.inl rfl) (Z2 ZZ (pv 0) Z6 (fun _ _=>rfl)))
   (Z3 (Zy (ZE Y7 (pv 4) (pv 2) (ZH _)) (Z3 (ZW (i:=3) WK.nd rfl (Or.inl rfl) (Z2 ZZ (Z2 ZZ (pv 1) Z6 (fun _ _=>rfl)) (pv 3) (fun _ _=>rfl)))
   (ZY (ZW (i:=4) WK.nd rfl (Or.inl rfl) Z6))) Zw)
   (Z3 (Zy (ZE Y7 (pv 5) (pv 2) (ZH _)) (Z3 (ZW (i:=3) WK.nd rfl (Or.inl rfl) (Z2 ZZ (Z2 ZZ (pv 1) Z6 (fun _ _=>rfl)) (pv 3) (fun _ _=>rfl)))
   (ZY (ZW (i:=5) WK.nd rfl (Or.inl rfl) Z6))) Zw)
   (ZY (ZO (Zq (Z9 (pv 3) (Z9 (pv 4) (Z9 (pv 5) Z7))))))))))),?_⟩
  refine⟨_,rfl,l,_,0,_,rfl,rfl,SqT.of h1,Z0 (j:=0) rfl,_,rfl,l,_,1,_,rfl,rfl,SqT.of h1,Z0 (j:=1) rfl,_,rfl,l,_,2,_,rfl,rfl,SqT.of h1,Z0 (j:=2) rfl,?_⟩;rw[Yt,SB,SJ]at k;unfold z0 at k;have fin:∀ (sq':Nat) (x':Int),sq'<n->(∀ (H':Hp) (t:Addr),Z5 H H'->S3 H' t (if y=U then nx u sq' else sq') x' (if y=U then 0 else y)->Q (.ref t) H')->
    Yy (Ww (WD (tOp rEq (ZU 5) (ZU 2))) (Yy (X8 (tOp (Y0 K) (tOp (Y0 K) (ZU 1) (tC (.int 1))) (ZU 3)) (Zs 3)) (X8 (tC (.int 0)) (Zs 5))) Xr) (Ya (Xm (ZI (ZU 3) (ZI (ZU 4) (ZI (ZU 5) Zr))))) { nx:=fun _ H'=>Q .non H',rt:=Q } [some (.ref l),some (.ref a),some (.int U),some (.int (sq':Int)),some (.int x'),some (.int y)] H:=fun sq' x' hs2 k2=>by
   have done:∀ (s3:Nat) (y':Int),(∀ (H':Hp) (t:Addr),Z5 H H'->S3 H' t s3 x' y'->Q (.ref t) H')->Ya (Xm (ZI (ZU 3) (ZI (ZU 4) (ZI (ZU 5) Zr)))) { nx:=fun _ H'=>Q .non H',rt:=Q } [some (.ref l),some (.ref a),some (.int U),some (.int (s3:Int)),some (.int x'),some (.int y')] H:=fun s3 y' k3=>⟨_,rfl,_,rfl,_,rfl,by show 3<=sizeLine;decide,fun t ht=>k3 _ t (ZS (Z5.refl H) ht) ZR⟩;refine⟨_,rfl,_,rfl,rfl,_,rfl,?_⟩;rw[ZaZ]
   by_cases hy:y=U
   ·rw[decide_eq_true hy];refine Zz ?_;rw[if_pos hy,if_pos hy]at k2;refine⟨_,rfl,a,_,1,_,rfl,rfl,SqT.of hb,Z0 (j:=1) rfl,_,rfl,a1,_,_,_,rfl,rfl,SqT.of h3,Z0 (Zp (ru.get hs2)),?_⟩;exact done _ _ k2
   ·rw[decide_eq_false hy];refine ZJ ?_;rw[if_neg hy,if_neg hy]at k2;exact done _ _ k2
  refine⟨_,rfl,_,rfl,rfl,_,rfl,?_⟩;rw[ZaZ]
  by_cases hx:x=U
  ·rw[decide_eq_true hx];refine Zz ?_;rw[if_pos hx,if_pos hx]at k;refine⟨_,rfl,a,_,0,_,rfl,rfl,SqT.of hb,Z0 (j:=0) rfl,_,rfl,a0,_,_,_,rfl,rfl,SqT.of h2,Z0 (Zp (rr.get hs)),?_⟩;exact fin _ _ (rr.nlt hs) k
  ·rw[decide_eq_false hx];refine ZJ ?_;rw[if_neg hx,if_neg hx]at k;exact fin _ _ hs k
end
def Ziy (C:Addr):Sp:=fun vs H Q _=>∃ (p:Addr) (t b U:Int),vs=[.ref p,.int U]/\YV C H p t b/\0<b/\Bt 60 b/\Bt 60 t/\Bt 1000 (U/b)/\Q (.int (t*(U/b))) H
section
variable {P:Program}{w:World}{K:Y00}{mg:Str->Option Value}{base:Heap}
noncomputable abbrev Zjr:List Str:=["part","unit"]
theorem Zgl:ZL Zjr ["part","unit"] (ZV UD):=⟨rfl,rfl,rfl,by decide +kernel,rfl,by decide +kernel,by decide +kernel⟩
theorem ZiC {f:Addr}{fd:FuncData}{C:Addr}(T:PTx K mg C)(F:Fn K mg "in_units" UD ["part","unit"] f fd):Z4 P w K mg base CX0 1 f fd ["part","unit"] (Ziy C):=by
 refine F.F.ok Zgl (fun vs H Q E h=>?_) (fun cdv A outer s H vs Q E hr h=>?_)
 ·obtain⟨p,t,b,U,rfl,_⟩:=h;rfl
 ·obtain⟨p,t,b,U,rfl,⟨dx,h1⟩,b0,hb,ht,hU,k⟩:=h;refine⟨_,(ZY (ZO (ZX YH (YA (pv 0) rfl) (ZX SI (pv 1) (YA (pv 0) rfl))))),?_⟩;refine⟨_,rfl,p,C,dx,_,_,rfl,h1,T.cl,T.nT,Vu _ _,_,rfl,_,rfl,p,C,dx,_,_,rfl,h1,T.cl,T.nB,Xy _ _,_,_,rfl,rfl,⟨by omega,hb.mono (by decide)⟩,?_⟩;dsimp only;rw[Y2o _ (by omega)];exact⟨_,_,rfl,rfl,⟨ht.mono (by decide),hU.mono (by decide)⟩,k⟩
end
def Zgy:Sp:=fun vs H Q _=>∃ (a s U:Int),vs=[.int a,.int s,.int U]/\s.natAbs<=60/\Q (.int (sid U a s)) H
section
variable {P:Program}{w:World}{K:Y00}{mg:Str->Option Value}{base:Heap}
noncomputable abbrev Zkd:List Str:=["at","speed","unit"]
theorem Zgz:ZL Zkd ["at","speed","unit"] (ZV US):=⟨rfl,rfl,rfl,by decide +kernel,rfl,by decide +kernel,by decide +kernel⟩
theorem Zi7 {f:Addr}{fd:FuncData}(F:Fn K mg "ticks_to_side" US ["at","speed","unit"] f fd):Z4 P w K mg base CX0 1 f fd ["at","speed","unit"] Zgy:=by
 refine F.F.ok Zgz (fun vs H Q E h=>?_) (fun cdv A outer s H vs Q E hr h=>?_)
 ·obtain⟨a,s',U,rfl,_⟩:=h;rfl
 ·obtain⟨a,s',U,rfl,hs,k⟩:=h;refine⟨_,(Z3 (Zy (ZE Ye (pv 1) Z6 (ZH _)) (ZY (ZO (ZX XT (ZX X3 (pv 2) (pv 0)) (pv 1)))) Zw)
   (Z3 (Zy (ZE X2 (pv 1) Z6 (ZH _)) (ZY (ZO (ZX XT (pv 0) (XY X4 (pv 1))))) Zw)
   (ZY (ZO (pv 2))))),?_⟩
  unfold sid at k;refine⟨_,rfl,_,_,rfl,rfl,_,rfl,?_⟩
  by_cases h1:0<s'
  ·rw[if_pos h1]at k;rw[decide_eq_true h1];refine Zz ?_;exact⟨_,rfl,_,rfl,_,_,rfl,rfl,_,rfl,_,_,rfl,rfl,⟨h1,by omega⟩,k⟩
  ·rw[if_neg h1]at k;rw[decide_eq_false h1];refine ZJ ?_;refine⟨_,rfl,_,_,rfl,rfl,_,rfl,?_⟩
   by_cases h2:s'<0
   ·rw[if_pos h2]at k;rw[decide_eq_true h2];refine Zz ?_;exact⟨_,rfl,_,rfl,_,rfl,_,_,rfl,rfl,⟨by omega,by omega⟩,k⟩
   ·rw[if_neg h2]at k;rw[decide_eq_false h2];refine ZJ ?_;exact⟨_,rfl,k⟩
end
def Xu (C CN:Addr):Sp:=fun vs H Q E=>∃ (p dx:Addr) (t b:Int),vs=[.ref p,.int t,.int b]/\H p=some (.ins C dx [])/\Bt 4000 b/\(b=0->E (.ref CN) none H)/\
 (b≠0->∀ H':Hp,(∀ x,x≠p->H' x=H x)->YV C H' p (Z1 t b) (Z8 t b)->Q .non H')
theorem Zhc {C CN:Addr}{H:Hp}{t b:Int}{Q:VK}{E:XK}(hb:b≠0)(hB:Bt 4000 b)(k:∀ (H':Hp) (x:Addr),Z5 H H'->H x=none->YV C H' x (Z1 t b) (Z8 t b)->Q (.ref x) H')(x dx:Addr)(nx:H x=none)(ndx:H dx=none)(ne:dx≠x) :
  Xu C CN [.ref x,.int t,.int b] (upd (upd H dx (.own x)) x (.ins C dx [])) (fun v H2=>v=.non/\Q (.ref x) H2) E:=by
 refine⟨x,dx,t,b,rfl,ZR,hB,fun e=>absurd e hb,fun _ H' s P=>⟨rfl,k H' x (fun c o e=>?_) nx P⟩⟩;rw[s c (Zc e nx),ZK (Zc e nx),ZK (Zc e ndx)];exact e
theorem Vr {C CN x dx:Addr}{H:Hp}{t b:Int}{R:VK}{E:XK}(hb:b≠0)(hB:Bt 4000 b)(nx:H x=none)(ndx:H dx=none)(k:∀ H':Hp,Z5 H H'->YV C H' x (Z1 t b) (Z8 t b)->R .non H') :
  Xu C CN [.ref x,.int t,.int b] (upd (upd H dx (.own x)) x (.ins C dx [])) R E:=by
 refine⟨x,dx,t,b,rfl,ZR,hB,fun e=>absurd e hb,fun _ H' s P=>k H' (fun c o e=>?_) P⟩;rw[s c (Zc e nx),ZK (Zc e nx),ZK (Zc e ndx)];exact e
section
variable {P:Program}{w:World}{K:Y00}{mg:Str->Option Value}{base:Heap}
noncomputable abbrev nPi:List Str:=["self","top","bottom","divisor"]
theorem Zke:ZL nPi ["self","top","bottom"] (ZV Ve):=⟨rfl,rfl,rfl,by decide +kernel,rfl,by decide +kernel,by decide +kernel⟩
theorem Zfb {f fg C CN:Addr}{fd fdg:FuncData}{dV:Value}(T:PTx K mg C)(hC:YT K CN)(hN:mg "NoNumber"=some (.ref CN))(F:VS K "__init__" "Part.__init__" Ve dV f fd)
  (FG:Fn K mg "common_divisor" VL ["one","other"] fg fdg) (GG:Z4 P w K mg base CX0 1 fg fdg ["one","other"] ZjN):Z4 P w K mg base (CX1 P w) 2 f fd ["self","top","bottom"] (Xu C CN):=by
 refine F.ok1 Zke (fun vs H Q E h=>?_) (fun cdv A outer s H vs Q E hr h=>?_)
 ·obtain⟨p,dx,t,b,rfl,_⟩:=h;rfl
 ·obtain⟨p,dx,t,b,rfl,hp,hB,k1,k2⟩:=h;refine⟨_,Z3 (Zy (ZE Y7 (pv 2) Z6 (ZH _)) (ZY (Wp rfl hC rfl hN Wd (Z9 Zt Z7))) Zw)
   (Z3 (ZW (i:=3) Zke.nd rfl (Or.inl rfl) (ZT GG hr rfl FG.m FG.F.kp FG.b .nil ZQ (Z9 (pv 1) (Z9 (pv 2) Z7))))
   (Z3 (Zy (ZE X2 (pv 2) Z6 (ZH _)) (ZY (ZW (i:=3) Zke.nd rfl (Or.inl rfl) (XY X4 (pv 3)))) Zw)
   (Z3 (Zeq (pv 0) (ZX SI (pv 1) (pv 3)) rfl)
   (ZY (Zeq (pv 0) (ZX SI (pv 2) (pv 3)) rfl))))),?_⟩
  refine⟨_,rfl,rfl,_,rfl,?_⟩;refine Yv (fun h=>?_) (fun h=>?_)
  ·have:b=0:=by simpa using h
   exact⟨by show 1<=sizeLine;decide,k1 this⟩
  ·have hb:b≠0:=by simpa using h
   refine⟨_,rfl,_,rfl,t,b,rfl,?_⟩;have hd:Bt 4000 (dv t b):=hB.le (by
    have e:=XA t b
    have:=YD (t:=t) hb
    have:(dv t b).natAbs<=(Z8 t b*dv t b).natAbs:=by rw[Y0d];exact Z43 (by omega)
    rwa [e]at this)
   have rest:∀ d:Int,d=dv t b->Zki K (ZU 0) (tOp (rI (fun _ j=>j≠0/\Bt 4000 j) fun i j=>.int (i.fdiv j)) (ZU 1) (ZU 3)) "top"
     { nx:=fun σ H'=>Zki K (ZU 0) (tOp (rI (fun _ j=>j≠0/\Bt 4000 j) fun i j=>.int (i.fdiv j)) (ZU 2) (ZU 3)) "bottom" { nx:=fun _ H'=>Q .non H',rt:=Q } σ H',rt:=Q } [some (.ref p),some (.int t),some (.int b),some (.int d)] H:=by
    rintro d rfl;refine⟨_,rfl,_,rfl,_,_,rfl,rfl,⟨Tr hb,hd⟩,_,rfl,p,C,dx,[],rfl,hp,T.cl,T.nT,(by show 0<1000;decide),?_⟩;refine⟨_,rfl,_,rfl,_,_,rfl,rfl,⟨Tr hb,hd⟩,_,rfl,p,C,dx,_,rfl,ZR,T.cl,T.nB,(by show 1<1000;decide),?_⟩;exact k2 hb _ (fun x hx=>by rw[ZK hx,ZK hx]) ⟨dx,ZR⟩
   refine⟨_,rfl,_,_,rfl,rfl,_,rfl,?_⟩;refine Yv (fun h2=>?_) (fun h2=>?_)
   ·have h2:b<0:=by simpa using h2
    refine⟨_,rfl,_,rfl,?_⟩;exact rest _ (by unfold dv;rw[if_pos h2])
   ·have h2:¬ b<0:=by simpa using h2
    exact rest _ (by unfold dv;rw[if_neg h2])
end
theorem V4 {bx by_ p q:Int}(x0:0<bx):unU bx by_ p q/bx=by_*mx1 p*mx1 q:=by
 have e:unU bx by_ p q=bx*(by_*mx1 p*mx1 q):=by unfold unU;simp only[Y0f]
 rw[e,Y0m _ (by lia)]
theorem V3 {bx by_ p q:Int}(y0:0<by_):unU bx by_ p q/by_=bx*mx1 p*mx1 q:=by
 have e:unU bx by_ p q=by_*(bx*mx1 p*mx1 q):=by unfold unU;simp only[<-Y0f];rw[Y0d by_ bx]
 rw[e,Y0m _ (by lia)]
theorem ZdO {p:Int}(h:p.natAbs<=60):Bt 6 (mx1 p):=by
 have:=Za1 h;have:=Wf p;show (mx1 p).natAbs<2^6;have:(2:Nat)^6=64:=by decide
 lia
theorem Zev {bx by_ p q:Int}(hx:Bt 60 bx)(hy:Bt 60 by_)(hp:p.natAbs<=60)(hq:q.natAbs<=60):Bt 200 (unU bx by_ p q):=Bt.mono (((hx.mul hy).mul (ZdO hp)).mul (ZdO hq)) (by decide)
noncomputable def uX (tx bx by_ p q:Int):Int:=tx*(unU bx by_ p q/bx)
noncomputable def uY (ty bx by_ p q:Int):Int:=ty*(unU bx by_ p q/by_)
theorem U1 {tx bx ty by_ p q M:Int}(x0:0<=tx)(x1:tx<bx)(y0:0<=ty)(y1:ty<by_)(hM:0<=M):WIn p q (unU bx by_ p q) M ⟨uX tx bx by_ p q,uY ty bx by_ p q,0,[]⟩:=by
 have hp:=Wf p;have hq:=Wf q;have pb:0<bx:=by lia
 have py:0<by_:=by lia
 have gx:0<by_*mx1 p*mx1 q:=Y13 (Y13 py (by lia)) (by lia);have gy:0<bx*mx1 p*mx1 q:=Y13 (Y13 pb (by lia)) (by lia);have ex:unU bx by_ p q=bx*(by_*mx1 p*mx1 q):=by unfold unU;simp only[Y0f]
 have ey:unU bx by_ p q=by_*(bx*mx1 p*mx1 q):=by unfold unU;simp only[<-Y0f];rw[Y0d by_ bx]
 refine⟨?_,?_,?_,?_,Y4e _,hM,fun h=>?_,fun h=>?_⟩
 ·show 0<=uX tx bx by_ p q;unfold uX;rw[V4 pb];exact Y1l x0 (by lia)
 ·show uX tx bx by_ p q<_;unfold uX;rw[V4 pb,ex];exact Y1b x1 gx
 ·show 0<=uY ty bx by_ p q;unfold uY;rw[V3 py];exact Y1l y0 (by lia)
 ·show uY ty bx by_ p q<_;unfold uY;rw[V3 py,ey];exact Y1b y1 gy
 ·show p∣uX tx bx by_ p q;unfold uX;rw[V4 pb];exact Y2h (Y5r (Y2h (Sr h)))
 ·show q∣uY ty bx by_ p q;unfold uY;rw[V3 py];exact Y2h (Y2h (Sr h))
noncomputable def crn (F:List Nat)(s:Nat)(x y:Int):Bool:=decide (x=0)&&(decide (y=0)&&decide (s∈F))
theorem Zao {kvs:List (Key×V)}{F:List Nat}(h:kvs.map (·.1)=F.map ik5)(s:Nat)(x y:Int):atC kvs s x y=crn F s x y:=by
 unfold atC crn;have e:(Y2 kvs (ik5 s)).isSome=decide (s∈F):=by
  by_cases hs:s∈F
  ·rw[decide_eq_true hs,<-Us,Y1e];have:ik5 s∈kvs.map (·.1):=(by rw[h];exact Y0g.mpr ⟨s,hs,rfl⟩);obtain⟨kv,hkv,e⟩:=Y0g.mp this;exact⟨kv,hkv,decide_eq_true e⟩
  ·rw[decide_eq_false hs,Z76 h hs];rfl
 rw[e]
noncomputable abbrev W5 (tx bx ty by_ p q S:Int):Nat->WS:=ws p q (unU bx by_ p q) (S*unU bx by_ p q) (uX tx bx by_ p q) (uY ty bx by_ p q)
def Zf1 (r u F:List Nat)(sq:Nat)(M:Int)(W:Nat->WS)(i:Nat):Prop:=∀ j,j<i->crn F (ZC r u (W j).w sq) (W j).x (W j).y=false/\(W j).t<M
def RC (C:Addr)(n sq:Nat)(r u:List Nat)(tx bx ty by_ p q S:Int)(H:Hp)(Q:VK):Prop:=
 (∀ (H':Hp) (t l':Addr) (i:Nat),Z5 H H'->Zf1 r u (Zj n (ZF r u)) sq (S*unU bx by_ p q) (W5 tx bx ty by_ p q S) i->(W5 tx bx ty by_ p q S i).t=S*unU bx by_ p q->crn (Zj n (ZF r u)) (ZC r u (W5 tx bx ty by_ p q S i).w sq) (W5 tx bx ty by_ p q S i).x (W5 tx bx ty by_ p q S i).y=false->
  H' t=some (.tup [.str (Str.ofString "there"),.ref l'])->P3 C H' l' (ZC r u (W5 tx bx ty by_ p q S i).w sq) (Z1 (W5 tx bx ty by_ p q S i).x (unU bx by_ p q)) (Z8 (W5 tx bx ty by_ p q S i).x (unU bx by_ p q)) (Z1 (W5 tx bx ty by_ p q S i).y (unU bx by_ p q)) (Z8 (W5 tx bx ty by_ p q S i).y (unU bx by_ p q))->Q (.ref t) H')/\
 (∀ (H':Hp) (t pt:Addr) (i:Nat) (v:V),Z5 H H'->Zf1 r u (Zj n (ZF r u)) sq (S*unU bx by_ p q) (W5 tx bx ty by_ p q S) i->crn (Zj n (ZF r u)) (ZC r u (W5 tx bx ty by_ p q S i).w sq) (W5 tx bx ty by_ p q S i).x (W5 tx bx ty by_ p q S i).y=true->
  H' t=some (.tup [.str (Str.ofString "corner"),v,.ref pt])->WN n (ZF r u) (ZC r u (W5 tx bx ty by_ p q S i).w sq) v->YV C H' pt (Z1 (W5 tx bx ty by_ p q S i).t (unU bx by_ p q)) (Z8 (W5 tx bx ty by_ p q S i).t (unU bx by_ p q))->Q (.ref t) H')
def ZfV (C:Addr):Sp:=fun vs H Q _=>∃ (a l:Addr) (n sq:Nat) (r u:List Nat) (tx bx ty by_ p q S:Int),vs=[.ref a,.ref l,.int p,.int q,.int S]/\Zn H a r u/\Row n r/\Row n u/\n<=36/\P3 C H l sq tx bx ty by_/\sq<n/\0<=tx/\tx<bx/\0<=ty/\ty<by_/\Bt 60 bx/\Bt 60 by_/\p.natAbs<=60/\q.natAbs<=60/\¬ (p=0/\q=0)/\0<=S/\S<=1000000/\RC C n sq r u tx bx ty by_ p q S H Q
noncomputable def muM (M:Int)(j:Nat)(σ:St):Nat:=match σ[j]? with
 | some (some (.int k))=>(M-k).toNat
 | _=>0
section
variable {P:Program}{w:World}{K:Y00}{mg:Str->Option Value}{base:Heap}
noncomputable abbrev Zkf:List Str:=["sheet","place","p","q","steps","unit","rough","back","spot","ticks","room"]
theorem Xs:ZL Zkf ["sheet","place","p","q","steps"] (ZV Vq):=⟨rfl,rfl,rfl,by decide +kernel,rfl,by decide +kernel,by decide +kernel⟩
set_option maxHeartbeats 1000000 in
theorem ZgP {f fu fr fb fn fc fs ft fa:Addr}{fd du dr db dn dc ds dt da:FuncData}{C CN fi:Addr}{di:FuncData}(TB:Bi mg)(T:PTx K mg C)(T_min:mg "min"=none)(M:Mk K C fi)(bI:YU K di ["self","top","bottom"] [])(GI:Z4 P w K mg base (CX1 P w) 2 fi di ["self","top","bottom"] (Xu C CN))(F:Fn K mg "walked" Vq ["sheet","place","p","q","steps"] f fd)(FU:Fn K mg "unit_of" Ue ["place","p","q"] fu du)(GU:Z4 P w K mg base CX0 1 fu du ["place","p","q"] (Zia C))
  (FR:Fn K mg "rough_squares" VI ["sheet"] fr dr) (GR:Z4 P w K mg base CX0 7 fr dr ["sheet"] Z6h)
  (FB:Fn K mg "back_row" WW ["row"] fb db) (GB:Z4 P w K mg base CX0 1 fb db ["row"] UI)
  (FN:Fn K mg "in_units" UD ["part","unit"] fn dn) (GN:Z4 P w K mg base CX0 1 fn dn ["part","unit"] (Ziy C))
  (FC:Fn K mg "is_at_corner" UP ["spot","rough"] fc dc) (GC:Z4 P w K mg base CX0 1 fc dc ["spot","rough"] RI)
  (FS:Fn K mg "set_out" Uh ["spot","p","q","back","unit"] fs ds) (GS:Z4 P w K mg base CX0 1 fs ds ["spot","p","q","back","unit"] ZgG)
  (FT:Fn K mg "ticks_to_side" US ["at","speed","unit"] ft dt) (GT:Z4 P w K mg base CX0 1 ft dt ["at","speed","unit"] Zgy)
  (FA:Fn K mg "arrived" Up ["spot","sheet","unit"] fa da) (GA:Z4 P w K mg base CX0 1 fa da ["spot","sheet","unit"] Zig):Z4 P w K mg base CX0 8 f fd ["sheet","place","p","q","steps"] (ZfV C):=by
 refine F.F.ok Xs (fun vs H Q E h=>?_) (fun cdv A outer s H vs Q E hr h=>?_)
 ·obtain⟨a,l,n,sq,r,u,tx,bx,ty,by_,p,q,S,rfl,_⟩:=h;rfl
 ·obtain⟨a,l,n,sq,r,u,tx,bx,ty,by_,p,q,S,rfl,hsh,rr,ru,hn,hl,hs,x0,x1,y0,y1,hbx,hby,hp,hq,hne,S0,S1,k1,k2⟩:=h;have hr3:ZP 3 _:=hr.mono (by decide);have hu:=RR hr;have hr1:ZP 1 _:=hr.mono (by decide);have hr7:ZP 7 _:=hr.mono (by decide);refine⟨_,(Z3 (ZW (i:=5) Xs.nd rfl (Or.inl rfl) (ZT GU hr1 rfl FU.m FU.F.kp FU.b .nil ZQ (Z9 (pv 1) (Z9 (pv 2) (Z9 (pv 3) Z7)))))
   (Z3 (ZW (i:=6) Xs.nd rfl (Or.inl rfl) (ZT GR hr7 rfl FR.m FR.F.kp FR.b .nil ZQ (Z9 (pv 0) Z7)))
   (Z3 (ZW (i:=7) Xs.nd rfl (Or.inl rfl) (Zq (Z9 (ZT GB hr1 rfl FB.m FB.F.kp FB.b .nil ZQ (Z9 (Z2 ZZ (pv 0) Z6 (fun _ _=>rfl)) Z7)) (Z9 (ZT GB hr1 rfl FB.m FB.F.kp FB.b .nil ZQ (Z9 (Z2 ZZ (pv 0) Z6 (fun _ _=>rfl)) Z7)) Z7))))
   (Z3 (ZW (i:=8) Xs.nd rfl (Or.inl rfl) (Zq (Z9 (Z2 ZZ (pv 1) Z6 (fun _ _=>rfl)) (Z9 (ZT GN hr1 rfl FN.m FN.F.kp FN.b .nil ZQ (Z9 (Z2 ZZ (pv 1) Z6 (fun _ _=>rfl)) (Z9 (pv 5) Z7))) (Z9 (ZT GN hr1 rfl FN.m FN.F.kp FN.b .nil ZQ (Z9 (Z2 ZZ (pv 1) Z6 (fun _ _=>rfl)) (Z9 (pv 5) Z7))) Z7)))))
   (Z3 (ZW (i:=9) Xs.nd rfl (Or.inl rfl) Z6)
   (Z3 (XU PassesOwn.never (PW.pt (WG (ZE X2 (pv 9) (ZX YY (pv 4) (pv 5)) (ZH _)) (Wk (YN (Y4 (ZT GC hr1 rfl FC.m FC.F.kp FC.b .nil ZQ (Z9 (pv 8) (Z9 (pv 6) Z7)))))))) (Z3 (ZW (i:=8) Xs.nd rfl (Or.inl rfl) (ZT GS hr1 rfl FS.m FS.F.kp FS.b .nil ZQ (Z9 (pv 8) (Z9 (pv 2) (Z9 (pv 3) (Z9 (pv 7) (Z9 (pv 5) Z7)))))))
   (Z3 (ZW (i:=10) Xs.nd rfl (Or.inl rfl) (ZG (ZaG rfl) rfl T_min Z98 (Z9 (ZT GT hr1 rfl FT.m FT.F.kp FT.b .nil ZQ (Z9 (Z2 ZZ (pv 8) Z6 (fun _ _=>rfl)) (Z9 (pv 2) (Z9 (pv 5) Z7)))) (Z9 (ZT GT hr1 rfl FT.m FT.F.kp FT.b .nil ZQ (Z9 (Z2 ZZ (pv 8) Z6 (fun _ _=>rfl)) (Z9 (pv 3) (Z9 (pv 5) Z7)))) (Z9 (ZX X3 (ZX YY (pv 4) (pv 5)) (pv 9)) Z7)))))
   (Z3 (ZW (i:=8) Xs.nd rfl (Or.inl rfl) (ZT GA hr1 rfl FA.m FA.F.kp FA.b .nil ZQ (Z9 (Zq (Z9 (Z2 ZZ (pv 8) Z6 (fun _ _=>rfl)) (Z9 (ZX Zd (Z2 ZZ (pv 8) Z6 (fun _ _=>rfl)) (ZX YY (pv 2) (pv 10))) (Z9 (ZX Zd (Z2 ZZ (pv 8) Z6 (fun _ _=>rfl)) (ZX YY (pv 3) (pv 10))) Z7)))) (Z9 (pv 0) (Z9 (pv 5) Z7)))))
   (ZY (Zbj (i:=9) Xs.nd rfl (Or.inl rfl) (pv 10) ZaL))))))
   (Z3 (Zy (Y4 (ZT GC hr1 rfl FC.m FC.F.kp FC.b .nil ZQ (Z9 (pv 8) (Z9 (pv 6) Z7)))) (ZY (ZO (Zq (Z9 Zt (Z9 (Zb9 hu (pv 6) (Z2 ZZ (pv 8) Z6 (fun _ _=>rfl)) (fun _ _=>rfl)) (Z9 (Wg M GI hr3 rfl T.mgC bI .nil Yh (Z9 (pv 9) (Z9 (pv 5) Z7))) Z7)))))) Zw)
   (ZY (ZO (Zq (Z9 Zt (Z9 (Zq (Z9 (Z2 ZZ (pv 8) Z6 (fun _ _=>rfl)) (Z9 (Wg M GI hr3 rfl T.mgC bI .nil Yh (Z9 (Z2 ZZ (pv 8) Z6 (fun _ _=>rfl)) (Z9 (pv 5) Z7))) (Z9 (Wg M GI hr3 rfl T.mgC bI .nil Yh (Z9 (Z2 ZZ (pv 8) Z6 (fun _ _=>rfl)) (Z9 (pv 5) Z7))) Z7)))) Z7)))))))))))),?_⟩
  have three:3<=sizeLine:=by decide
  have pbx:0<bx:=by lia
  have pby:0<by_:=by lia
  have o:=TV (p:=p) (q:=q) pbx pby hne;have hUb:=Zev hbx hby hp hq;have btx:Bt 60 tx:=by have:bx.natAbs<2^60:=hbx;show tx.natAbs<2^60;lia
  have bty:Bt 60 ty:=by have:by_.natAbs<2^60:=hby;show ty.natAbs<2^60;lia
  have hM:0<=S*unU bx by_ p q:=Y1l S0 (by have:=o.u;lia);have in0:=U1 (p:=p) (q:=q) x0 x1 y0 y1 hM;have wsin:=WC o in0;have dv:∀ b:Int,0<b->Bt 1000 (unU bx by_ p q/b):=fun b hb=>by
   have e1:=Int.ediv_nonneg (show 0<=unU bx by_ p q by have:=o.u;lia) (show 0<=b by lia);have e2:=Int.ediv_le_self b (show 0<=unU bx by_ p q by have:=o.u;lia);have:(unU bx by_ p q).natAbs<2^200:=hUb;exact Bt.mono (n:=200) (by show (unU bx by_ p q/b).natAbs<2^200;lia) (by decide)
  refine⟨_,rfl,_,rfl,_,rfl,l,sq,tx,bx,ty,by_,p,q,rfl,hl,hbx,hby,hp,hq,?_⟩;obtain⟨px,py,hl1,hl2,hl3⟩:=id hl;generalize hUe:unU bx by_ p q=U at *;refine⟨_,rfl,a,n,r,u,rfl,hsh,rr,ru,hn,fun H1 d kvs s1 hd0 hd hk hlv=>?_⟩;obtain⟨a0,a1,ha,ha0,ha1⟩:=id (hsh.same s1);refine⟨_,rfl,a,_,0,_,rfl,rfl,SqT.of ha,Z0 (j:=0) rfl,a0,n,r,rfl,ha0,rr,hn,fun H2 b0 s2 hb0=>?_⟩;refine⟨_,rfl,a,_,1,_,rfl,rfl,SqT.of (s2 _ _ ha),Z0 (j:=1) rfl,a1,n,u,rfl,s2 _ _ ha1,ru,hn,fun H3 b1 s3 hb1=>?_⟩;refine⟨by show 2<=sizeLine;lia,fun bk hbk=>?_⟩;have s4:=ZS (o:=.tup [.ref b0,.ref b1]) (Z5.refl H3) hbk;have g4:(upd H3 bk (.tup [.ref b0,.ref b1])) bk=some (.tup [.ref b0,.ref b1]):=ZR;generalize upd H3 bk (.tup [.ref b0,.ref b1])=H4 at s4 g4;have sA:Z5 H H4:=s1.trans (s2.trans (s3.trans s4));have hd4:=s4 _ _ (s3 _ _ (s2 _ _ hd));refine⟨_,rfl,l,_,0,_,rfl,rfl,SqT.of (sA _ _ hl1),Z0 (j:=0) rfl,?_⟩;refine⟨_,rfl,l,_,1,_,rfl,rfl,SqT.of (sA _ _ hl1),Z0 (j:=1) rfl,_,rfl,px,tx,bx,U,rfl,hl2.same sA,pbx,hbx,btx,dv bx pbx,?_⟩;refine⟨_,rfl,l,_,2,_,rfl,rfl,SqT.of (sA _ _ hl1),Z0 (j:=2) rfl,_,rfl,py,ty,by_,U,rfl,hl3.same sA,pby,hby,bty,dv by_ pby,?_⟩;refine⟨three,fun sp hsp=>?_⟩;have s5:=ZS (o:=.tup [.int (sq:Int),.int (tx*(U/bx)),.int (ty*(U/by_))]) (Z5.refl H4) hsp;have g5:S3 (upd H4 sp (.tup [.int (sq:Int),.int (tx*(U/bx)),.int (ty*(U/by_))])) sp sq (tx*(U/bx)) (ty*(U/by_)):=ZR;generalize upd H4 sp (.tup [.int (sq:Int),.int (tx*(U/bx)),.int (ty*(U/by_))])=H5 at s5 g5;have W0:W5 tx bx ty by_ p q S=ws p q U (S*U) (tx*(U/bx)) (ty*(U/by_)):=by
   subst hUe;rfl
  have wsin:∀ i,(∀ j,j<i->(W5 tx bx ty by_ p q S j).t<S*U)->WIn p q U (S*U) (W5 tx bx ty by_ p q S i):=by
   subst hUe;exact wsin
  have Wn:∀ i,W5 tx bx ty by_ p q S (i+1)=stp p q U (S*U) (W5 tx bx ty by_ p q S i):=fun i=>by subst hUe;rfl
  have g5:S3 H5 sp (ZC r u (W5 tx bx ty by_ p q S 0).w sq) (W5 tx bx ty by_ p q S 0).x (W5 tx bx ty by_ p q S 0).y:=by rw[W0];exact g5
  have t0:(W5 tx bx ty by_ p q S 0).t=0:=by rw[W0];rfl
  clear W0 in0;generalize W5 tx bx ty by_ p q S=W at *;generalize hFe:Zj n (ZF r u)=F at *;generalize hMe:S*U=MM at *;refine WT (fun σ H6=>∃ (i:Nat) (sp:Addr) (o10:Option V),σ=[some (.ref a),some (.ref l),some (.int p),some (.int q),some (.int S),some (.int U),some (.ref d),some (.ref bk),some (.ref sp),some (.int (W i).t),o10]/\Z5 H4 H6/\S3 H6 sp (ZC r u (W i).w sq) (W i).x (W i).y/\Zf1 r u F sq MM W i) (fun σ _=>muM MM 9 σ) ?_ ?_ ?_
  ·exact⟨0,sp,_,by rw[t0];rfl,s5,g5,fun j hj=>absurd hj (Y1y _)⟩
  ·rintro σ H6 ⟨i,sp,o10,rfl,s6,g6,fr⟩;have wi:=wsin i fun j hj=>(fr j hj).2;have hsq:=WR rr ru (W i).w hs;have fin:∀ H7,Z5 H6 H7->(MM<=(W i).t\/crn F (ZC r u (W i).w sq) (W i).x (W i).y=true)->Yy (Ww (tB (Yf RI [] E0 (ZI (ZU 8) (ZI (ZU 6) Zr)))) (Ya (Xm (ZI (tC (.str (Str.ofString "corner"))) (ZI (Zff (ZU 6) (tOp (Y0 K) (ZU 8) (tC (.int 0)))) (ZI (RL C (Xu C CN) [] E0 (ZI (ZU 9) (ZI (ZU 5) Zr))) Zr))))) Xr)
     (Ya (Xm (ZI (tC (.str (Str.ofString "there"))) (ZI (Xm (ZI (tOp (Y0 K) (ZU 8) (tC (.int 0))) (ZI (RL C (Xu C CN) [] E0 (ZI (tOp (Y0 K) (ZU 8) (tC (.int 1))) (ZI (ZU 5) Zr))) (ZI (RL C (Xu C CN) [] E0 (ZI (tOp (Y0 K) (ZU 8) (tC (.int 2))) (ZI (ZU 5) Zr))) Zr)))) Zr)))) { nx:=fun _ H'=>Q .non H',rt:=Q } [some (.ref a),some (.ref l),some (.int p),some (.int q),some (.int S),some (.int U),some (.ref d),some (.ref bk),some (.ref sp),some (.int (W i).t),o10] H7:=by
    intro H7 s7 hend;have g7:=s7 _ _ g6;have hd7:=s7 _ _ (s6 _ _ hd4);have sH:=sA.trans (s6.trans s7);refine⟨_,rfl,_,rfl,sp,d,kvs,_,_,_,rfl,g7,hd7,_,rfl,?_⟩;rw[Zao hk];cases hc:crn F (ZC r u (W i).w sq) (W i).x (W i).y with
    | true=>
     refine Zz ?_;obtain⟨v,hv⟩:∃ v,Y2 kvs (ik5 (ZC r u (W i).w sq))=some v:=by
      have:=(Zao hk (ZC r u (W i).w sq) (W i).x (W i).y).trans hc;unfold atC at this;rw[Y22,Y22]at this;exact Option.isSome_iff_exists.mp this.2.2
     have lv:WN n (ZF r u) (ZC r u (W i).w sq) v:=by
      obtain⟨kv,h1,h2,h3⟩:=Zch hv;rw[<-h3];exact hlv kv h1 _ h2
     have dg:X9 H7 d (.int ((ZC r u (W i).w sq:Nat):Int)) (some v):=(by rw[<-hv];exact X9.k (k:=ik5 (ZC r u (W i).w sq)) hd7);refine⟨_,rfl,_,rfl,sp,_,0,_,rfl,rfl,SqT.of g7,Z0 (j:=0) rfl,d,v,rfl,dg,_,rfl,_,rfl,?_⟩;intro x dx nx ndx ne;refine Vr (by have:=o.u;lia) (hUb.mono (by decide)) nx ndx fun H8 s8 p8=>⟨rfl,?_⟩;refine⟨three,fun t ht=>?_⟩;have s9:=ZS (o:=.tup [.str (Str.ofString "corner"),v,.ref x]) (Z5.refl H8) ht;exact k2 _ t x i v (sH.trans (s8.trans s9)) fr hc ZR lv (p8.same s9)
    | false=>
     refine ZJ ?_;have ht:(W i).t=MM:=by
      rcases hend with h|h
      ·have:=wi.t1;lia
      ·rw[hc]at h;cases h
     refine⟨_,rfl,sp,_,0,_,rfl,rfl,SqT.of g7,Z0 (j:=0) rfl,?_⟩;refine⟨_,rfl,sp,_,1,_,rfl,rfl,SqT.of g7,Z0 (j:=1) rfl,_,rfl,?_⟩;intro x dx nx ndx ne;refine Vr (by have:=o.u;lia) (hUb.mono (by decide)) nx ndx fun H8 s8 p8=>⟨rfl,?_⟩;refine⟨_,rfl,sp,_,2,_,rfl,rfl,SqT.of (s8 _ _ g7),Z0 (j:=2) rfl,_,rfl,?_⟩;intro x' dx' nx' ndx' ne';refine Vr (by have:=o.u;lia) (hUb.mono (by decide)) nx' ndx' fun H9 s9 p9=>⟨rfl,?_⟩;refine⟨three,fun l' hl'=>?_⟩;have s10:=ZS (o:=.tup [.int ((ZC r u (W i).w sq:Nat):Int),.ref x,.ref x']) (Z5.refl H9) hl';have g10:(upd H9 l' (.tup [.int ((ZC r u (W i).w sq:Nat):Int),.ref x,.ref x'])) l'=some (.tup [.int ((ZC r u (W i).w sq:Nat):Int),.ref x,.ref x']):=ZR;have q1:=p8.same (s9.trans s10);have q2:=p9.same s10;generalize upd H9 l' (.tup [.int ((ZC r u (W i).w sq:Nat):Int),.ref x,.ref x'])=H10 at s10 g10 q1 q2;refine⟨by show 2<=sizeLine;lia,fun t ht'=>?_⟩;have s11:=ZS (o:=.tup [.str (Str.ofString "there"),.ref l']) (Z5.refl H10) ht';exact k1 _ t l' i (sH.trans (s8.trans (s9.trans (s10.trans s11)))) fr ht hc ZR ⟨x,x',s11 _ _ g10,q1.same s11,q2.same s11⟩
   refine⟨_,rfl,_,rfl,_,rfl,_,_,rfl,rfl,.inl ⟨by lia,by lia⟩,_,_,rfl,rfl,_,rfl,?_⟩;rw[hMe]
   by_cases ht:(W i).t<MM
   ·rw[decide_eq_true ht];refine Zz ?_;refine⟨_,rfl,_,rfl,sp,d,kvs,_,_,_,rfl,g6,s6 _ _ hd4,_,rfl,?_⟩;rw[Zao hk];cases hc:crn F (ZC r u (W i).w sq) (W i).x (W i).y with
    | true=>
     refine ZJ ?_;exact fin H6 (Z5.refl _) (.inr hc)
    | false=>
     refine Zz ?_;refine⟨_,rfl,_,rfl,_,rfl,_,rfl,_,rfl,sp,bk,b0,b1,n,_,_,_,p,q,U,r,u,rfl,g6,s6 _ _ g4,s6 _ _ (s4 _ _ (s3 _ _ hb0)),s6 _ _ (s4 _ _ hb1),rr,ru,hsq,fun H7 sp7 s7 g7=>?_⟩;have hsq7:=WR rr ru (lo p (W i).x 0++lo q (W i).y 1) hsq;refine⟨_,rfl,sp7,_,1,_,rfl,rfl,SqT.of g7,Z0 (j:=1) rfl,_,rfl,_,rfl,_,p,U,rfl,hp,?_⟩;refine⟨_,rfl,sp7,_,2,_,rfl,rfl,SqT.of g7,Z0 (j:=2) rfl,_,rfl,_,rfl,_,q,U,rfl,hq,?_⟩;refine⟨_,rfl,_,rfl,_,_,rfl,rfl,.inl ⟨by lia,by lia⟩,_,rfl,_,_,rfl,rfl,_,_,_,rfl,?_⟩;rw[hMe];have er:min (min (sid U (ou p U (W i).x) p) (sid U (ou q U (W i).y) q)) (MM-(W i).t)=Y6 p q U MM (W i):=rfl;rw[er];have rp:=Z8v o wi ht;have wn:=Wn i;unfold stp at wn;generalize Y6 p q U MM (W i)=rm at *;refine⟨_,rfl,sp7,_,0,_,rfl,rfl,SqT.of g7,Z0 (j:=0) rfl,?_⟩;refine⟨_,rfl,sp7,_,1,_,rfl,rfl,SqT.of g7,Z0 (j:=1) rfl,_,rfl,_,rfl,_,_,rfl,rfl,.inl ⟨by lia,by lia⟩,_,_,rfl,rfl,?_⟩;refine⟨_,rfl,sp7,_,2,_,rfl,rfl,SqT.of g7,Z0 (j:=2) rfl,_,rfl,_,rfl,_,_,rfl,rfl,.inl ⟨by lia,by lia⟩,_,_,rfl,rfl,?_⟩;refine⟨three,fun l9 hl9=>?_⟩;have s9:=ZS (o:=.tup [.int ((ZC r u (lo p (W i).x 0++lo q (W i).y 1) (ZC r u (W i).w sq):Nat):Int),.int (ou p U (W i).x+p*rm),.int (ou q U (W i).y+q*rm)]) (Z5.refl H7) hl9;have g9:S3 (upd H7 l9 (.tup [.int ((ZC r u (lo p (W i).x 0++lo q (W i).y 1) (ZC r u (W i).w sq):Nat):Int),.int (ou p U (W i).x+p*rm),.int (ou q U (W i).y+q*rm)])) l9 (ZC r u (lo p (W i).x 0++lo q (W i).y 1) (ZC r u (W i).w sq)) (ou p U (W i).x+p*rm) (ou q U (W i).y+q*rm):=ZR;have hsh9:=hsh.same (sA.trans (s6.trans (s7.trans s9)));refine⟨_,rfl,_,rfl,l9,a,n,_,_,_,U,r,u,rfl,g9,hsh9,rr,ru,hsq7,fun H10 sp10 s10 g10=>?_⟩;refine⟨_,rfl,_,rfl,_,_,rfl,rfl,⟨i+1,sp10,_,by rw[wn];rfl,s6.trans (s7.trans (s9.trans s10)),?_,fun j hj=>?_⟩,?_⟩
     ·rw[wn];show S3 _ _ (ZC r u ((W i).w++(lo p (W i).x 0++(lo q (W i).y 1++(li U (ou p U (W i).x+p*rm) 2++li U (ou q U (W i).y+q*rm) 3)))) sq) _ _;rw[Yt,<-Y2s,Yt];exact g10
     ·by_cases e:j=i
      ·subst e;exact⟨hc,ht⟩
      ·exact fr j (by lia)
     ·show (MM-((W i).t+rm)).toNat<(MM-(W i).t).toNat;lia
   ·rw[decide_eq_false ht];refine ZJ ?_;refine ZJ ?_;exact fin H6 (Z5.refl _) (.inl (by lia))
  ·rintro σ H Q Q' h ⟨v,e1,v2,e2,v3,e3,i,j,e4,e5,c,i',j',e6,e7,b,e8,q⟩;refine⟨v,e1,v2,e2,v3,e3,i,j,e4,e5,c,i',j',e6,e7,b,e8,?_⟩;cases b with
   | true=>
    obtain⟨w1,f1,w2,f2,l',d',kvs',sq',x',y',f3,f4,f5,b',f6,q'⟩:=(q:Tb (tB (Yf RI [] E0 (ZI (ZU 8) (ZI (ZU 6) Zr)))) _ _ _);exact⟨w1,f1,w2,f2,l',d',kvs',sq',x',y',f3,f4,f5,b',f6,h _ _ q'⟩
   | false=>exact h _ _ q
end
noncomputable abbrev RB:Stmt:=Z7O ZfW 6
def Ziz (C:Addr):Sp:=fun vs H Q _=>∃ (p:Addr) (t b:Int),vs=[.ref p]/\YV C H p t b/\0<b/\Bt 1000 b/\Q (.int (t/b)) H
section
variable {P:Program}{w:World}{K:Y00}{mg:Str->Option Value}{base:Heap}
theorem scPo:ZL ["self"] ["self"] (ZV RB):=⟨rfl,rfl,rfl,by decide +kernel,rfl,by decide +kernel,by decide +kernel⟩
theorem Zhi {f C:Addr}{fd:FuncData}(T:PTx K mg C)(F:MFn K C "whole" "Part.whole" RB ["self"] f fd):Z4 P w K mg base CX0 1 f fd ["self"] (Ziz C):=by
 refine F.F.ok scPo (fun vs H Q E h=>?_) (fun cdv A outer s H vs Q E hr h=>?_)
 ·obtain⟨p,t,b,rfl,_⟩:=h;rfl
 ·obtain⟨p,t,b,rfl,⟨dp,hp⟩,h1,h2,k⟩:=h;refine⟨_,ZY (ZO (ZX SI (YA (pv 0) rfl) (YA (pv 0) rfl))),?_⟩;refine⟨_,rfl,p,C,dp,_,_,rfl,hp,T.cl,T.nT,Vu _ _,_,rfl,p,C,dp,_,_,rfl,hp,T.cl,T.nB,Xy _ _,_,_,rfl,rfl,⟨by omega,h2.mono (by decide)⟩,?_⟩;rw[<-Y2o t (by omega)]at k;exact k
end
def Zhh (C:Addr):Sp:=fun vs H Q _=>∃ (p:Addr) (t b:Int),vs=[.ref p]/\YV C H p t b/\0<b/\Bt 1000 b/\Q (.bl (decide (t/b=0))) H
section
variable {P:Program}{w:World}{K:Y00}{mg:Str->Option Value}{base:Heap}
noncomputable abbrev Zkk:List Str:=["part"]
theorem ZhR:ZL Zkk ["part"] (ZV UE):=⟨rfl,rfl,rfl,by decide +kernel,rfl,by decide +kernel,by decide +kernel⟩
theorem ZhX {f:Addr}{fd:FuncData}{C fo:Addr}{do_:FuncData}(T:PTx K mg C)(FO:MFn K C "whole" "Part.whole" RB ["self"] fo do_)(GO:Z4 P w K mg base CX0 1 fo do_ ["self"] (Ziz C))(F:Fn K mg "is_inside" UE ["part"] f fd):Z4 P w K mg base CX0 2 f fd ["part"] (Zhh C):=by
 refine F.F.ok ZhR (fun vs H Q E h=>?_) (fun cdv A outer s H vs Q E hr h=>?_)
 ·obtain⟨p,t,b,rfl,_⟩:=h;rfl
 ·obtain⟨p,t,b,rfl,⟨dx,hp⟩,hb,hB,k⟩:=h;have hr1:ZP 1 _:=hr.mono (by decide);refine⟨_,(ZY (ZO (XO Y7 (Zcq (pv 0) T.cl FO.m GO hr1 FO.b .nil ZQ) Z6 (ZH _)))),?_⟩;refine⟨_,rfl,p,dx,_,rfl,hp,Zbh _ _ (by decide +kernel) (by decide +kernel),p,t,b,rfl,⟨dx,hp⟩,hb,hB,rfl,?_⟩;have e:decide (V.int (t/b)=V.int 0)=decide (t/b=0):=by
   rw[decide_eq_decide];exact⟨fun z=>V.int.inj z,fun z=>by rw[z]⟩
  show Q (.bl (decide (V.int (t/b)=V.int 0))) H;rw[e];exact k
theorem Zh2:ZL ["thing","squares"] ["thing","squares"] (ZV Tx):=⟨rfl,rfl,rfl,by decide +kernel,rfl,by decide +kernel,by decide +kernel⟩
theorem ZhV:ZL ["thing"] ["thing"] (ZV Wm):=⟨rfl,rfl,rfl,by decide +kernel,rfl,by decide +kernel,by decide +kernel⟩
theorem ZaJ {f:Addr}{fd:FuncData}(T:Bi mg)(F:Fn K mg "is_whole" Wm ["thing"] f fd):Z4 P w K mg base CX0 1 f fd ["thing"] Xv:=by
 refine F.F.ok ZhV (fun vs H Q E h=>?_) (fun cdv A outer s H vs Q E hr h=>?_)
 ·obtain⟨i,rfl,_⟩:=h;rfl
 ·obtain⟨i,rfl,k⟩:=h;refine⟨_,ZY (ZO (Vc (ZG W3 (by rfl) T.isin XB (Z9 (pv 0) (Z9 (Xx (v:=.ty "int") (by rfl) T.int Z8l rfl) Z7)))
   (TX (Zdz (ZG W3 (by rfl) T.isin XB (Z9 (pv 0) (Z9 (Xx (v:=.ty "bool") (by rfl) T.bool Z7s rfl) Z7))))))),?_⟩
  refine⟨_,rfl,_,_,_,_,rfl,.int i,Z5b K,_,rfl,?_⟩;refine Zz ?_;exact⟨_,rfl,_,_,_,_,rfl,.int i,Z4m K,_,rfl,k⟩
theorem Zfe {f fw:Addr}{fd fdw:FuncData}(T:Bi mg)(F:Fn K mg "is_square" Tx ["thing","squares"] f fd)(FW:Fn K mg "is_whole" Wm ["thing"] fw fdw):Z4 P w K mg base CX0 2 f fd ["thing","squares"] ZdI:=by
 have GW:Z4 P w K mg base CX0 1 fw fdw ["thing"] Xv:=ZaJ T FW;refine F.F.ok Zh2 (fun vs H Q E h=>?_) (fun cdv A outer s H vs Q E hr h=>?_)
 ·obtain⟨i,n,rfl,_⟩:=h;rfl
 ·obtain⟨i,n,rfl,k⟩:=h;refine⟨_,ZY (ZO (Vc (ZT GW hr rfl FW.m FW.F.kp FW.b .nil ZQ (Z9 (pv 0) Z7)) (TX (Zde ZjD X2 Z6 (pv 0) (pv 1))))),?_⟩;refine⟨_,rfl,i,rfl,_,rfl,?_⟩;refine Zz ?_;refine⟨_,rfl,_,_,rfl,rfl,_,rfl,?_⟩;refine Yv (fun h=>?_) (fun h=>?_)
  ·have h:0<=i:=of_decide_eq_true h;refine⟨_,rfl,_,_,rfl,rfl,?_⟩;have e:decide (0<=i/\i<n)=decide (i<n):=(by simp[h]);rw[e]at k;exact k
  ·have h:¬ 0<=i:=fun z=>h (decide_eq_true z);have e:decide (0<=i/\i<n)=false:=(by simp[h]);rw[e]at k;exact k
theorem Zhe:ZL ["sheet"] ["sheet"] (ZV TF):=⟨rfl,rfl,rfl,by decide +kernel,rfl,by decide +kernel,by decide +kernel⟩
theorem ZfB {f:Addr}{fd:FuncData}(T:Bi mg)(F:Fn K mg "size" TF ["sheet"] f fd):Z4 P w K mg base CX0 1 f fd ["sheet"] Zes:=by
 refine F.F.ok Zhe (fun vs H Q E h=>?_) (fun cdv A outer s H vs Q E hr h=>?_)
 ·obtain⟨a,r,u,rfl,_⟩:=h;rfl
 ·obtain⟨a,r,u,rfl,⟨p,q,h1,h2,h3⟩,k⟩:=h;refine⟨_,ZY (ZO (ZG Y5 (by rfl) T.len PySem.boot_len (Z9 (Z2 ZZ (pv 0) Z6 (fun _ _=>rfl)) Z7))),?_⟩;refine⟨_,rfl,a,_,0,_,rfl,rfl,SqT.of h1,Z0 (j:=0) rfl,p,_,rfl,.inr (SqT.of h2),?_⟩;rw[ZA];exact k
end
def Zfh (C CP:Addr):Sp:=fun vs H Q E=>∃ (a l:Addr) (sq:Int) (px py:Addr) (tx bx ty by_:Int) (r u:List Nat),vs=[.ref a,.ref l]/\Zn H a r u/\H l=some (.tup [.int sq,.ref px,.ref py])/\YV C H px tx bx/\YV C H py ty by_/\0<bx/\0<by_/\Bt 1000 bx/\Bt 1000 by_/\
 ((0<=sq/\sq<(r.length:Int)/\tx/bx=0/\ty/by_=0)->Q .non H)/\(¬ (0<=sq/\sq<(r.length:Int)/\tx/bx=0/\ty/by_=0)->E (.ref CP) none H)
section
variable {P:Program}{w:World}{K:Y00}{mg:Str->Option Value}{base:Heap}
noncomputable abbrev Zjl:List Str:=["sheet","place"]
theorem Zh6:ZL Zjl ["sheet","place"] (ZV VG):=⟨rfl,rfl,rfl,by decide +kernel,rfl,by decide +kernel,by decide +kernel⟩
theorem ZgB {f fq fz fi:Addr}{fd dq dz di:FuncData}{C CP:Addr}(hC:YT K CP)(hCm:mg "NoPlace"=some (.ref CP))(F:Fn K mg "need_place" VG ["sheet","place"] f fd)(FQ:Fn K mg "is_square" Tx ["thing","squares"] fq dq)(GQ:Z4 P w K mg base CX0 2 fq dq ["thing","squares"] ZdI)
  (FZ:Fn K mg "size" TF ["sheet"] fz dz) (GZ:Z4 P w K mg base CX0 1 fz dz ["sheet"] Zes)
  (FI:Fn K mg "is_inside" UE ["part"] fi di) (GI:Z4 P w K mg base CX0 2 fi di ["part"] (Zhh C)):Z4 P w K mg base (CX1 P w) 3 f fd ["sheet","place"] (Zfh C CP):=by
 refine F.F.ok1 Zh6 (fun vs H Q E h=>?_) (fun cdv A outer s H vs Q E hr h=>?_)
 ·obtain⟨a,l,sq,px,py,tx,bx,ty,by_,r,u,rfl,_⟩:=h;rfl
 ·obtain⟨a,l,sq,px,py,tx,bx,ty,by_,r,u,rfl,ha,hl,hx,hy,x0,y0,xB,yB,k1,k2⟩:=h;have hr1:ZP 1 _:=hr.mono (by decide);have hr2:ZP 2 _:=hr.mono (by decide);refine⟨_,(ZY (Zy (YN (PW.pt (WG (Y4 (ZT GQ hr2 rfl FQ.m FQ.F.kp FQ.b .nil ZQ (Z9 (Z2 ZZ (pv 1) Z6 (fun _ _=>rfl)) (Z9 (ZT GZ hr1 rfl FZ.m FZ.F.kp FZ.b .nil ZQ (Z9 (pv 0) Z7)) Z7)))) (WG (Y4 (ZT GI hr2 rfl FI.m FI.F.kp FI.b .nil ZQ (Z9 (Z2 ZZ (pv 1) Z6 (fun _ _=>rfl)) Z7))) (Wk (Y4 (ZT GI hr2 rfl FI.m FI.F.kp FI.b .nil ZQ (Z9 (Z2 ZZ (pv 1) Z6 (fun _ _=>rfl)) Z7)))))))) (ZY (Wp rfl hC rfl hCm Wd (Z9 Zt Z7))) Zw)),?_⟩;refine⟨_,rfl,l,_,0,_,rfl,rfl,SqT.of hl,Z0 (j:=0) rfl,_,rfl,a,r,u,rfl,ha,sq,(r.length:Int),rfl,_,rfl,?_⟩;refine Yv (fun g=>?_) (fun g=>?_)
  ·have g:0<=sq/\sq<(r.length:Int):=of_decide_eq_true g;refine⟨_,rfl,l,_,1,_,rfl,rfl,SqT.of hl,Z0 (j:=1) rfl,px,tx,bx,rfl,hx,x0,xB,_,rfl,?_⟩;refine Yv (fun g2=>?_) (fun g2=>?_)
   ·have g2:tx/bx=0:=of_decide_eq_true g2;refine⟨_,rfl,l,_,2,_,rfl,rfl,SqT.of hl,Z0 (j:=2) rfl,py,ty,by_,rfl,hy,y0,yB,_,rfl,?_⟩
    by_cases g3:ty/by_=0
    ·rw[decide_eq_true g3];exact ZJ (k1 ⟨g.1,g.2,g2,g3⟩)
    ·rw[decide_eq_false g3];refine Zz ?_;exact⟨by show 1<=sizeLine;decide,k2 fun z=>g3 z.2.2.2⟩
   ·refine Zz ?_;exact⟨by show 1<=sizeLine;decide,k2 fun z=>g2 (decide_eq_true z.2.2.1)⟩
  ·refine Zz ?_;exact⟨by show 1<=sizeLine;decide,k2 fun z=>g (decide_eq_true ⟨z.1,z.2.1⟩)⟩
end
def ZfQ (CN:Addr):Sp:=fun vs H Q E=>∃ p q:Int,vs=[.int p,.int q]/\(Way p q->Q .non H)/\(¬ Way p q->∀ H':Hp,Z5 H H'->E (.ref CN) none H')
section
variable {P:Program}{w:World}{K:Y00}{mg:Str->Option Value}{base:Heap}
noncomputable abbrev Zkm:List Str:=["p","q"]
theorem ZiH:ZL Zkm ["p","q"] (ZV Vv):=⟨rfl,rfl,rfl,by decide +kernel,rfl,by decide +kernel,by decide +kernel⟩
theorem Zge {f:Addr}{fd:FuncData}{CN:Addr}{tk:Tok}(T_abs:mg "abs"=none)(hC:YT K CN)(hCm:mg "NoWay"=some (.ref CN))(C_FARTHEST:mg "FARTHEST"=some (.int 60 tk))(F:Fn K mg "need_way" Vv ["p","q"] f fd):Z4 P w K mg base (CX1 P w) 1 f fd ["p","q"] (ZfQ CN):=by
 refine F.F.ok1 ZiH (fun vs H Q E h=>?_) (fun cdv A outer s H vs Q E hr h=>?_)
 ·obtain⟨p,q,rfl,_⟩:=h;rfl
 ·obtain⟨p,q,rfl,k1,k2⟩:=h;refine⟨_,(ZY (Zy (PW.pt (YK (ZE Ye (ZG Yk rfl T_abs X6 (Z9 (pv 0) Z7)) (XR (v:=.int 60) (by rfl) C_FARTHEST ⟨_,rfl⟩) (ZH _)) (YK (ZE Ye (ZG Yk rfl T_abs X6 (Z9 (pv 1) Z7)) (XR (v:=.int 60) (by rfl) C_FARTHEST ⟨_,rfl⟩) (ZH _)) (XH (PW.pt (WG (ZE Y7 (pv 0) Z6 (ZH _)) (Wk (ZE Y7 (pv 1) Z6 (ZH _))))))))) (ZY (Wp rfl hC rfl hCm Wd (Z9 (Z7Q (.cons Zt (.cons (T9 (XR (v:=.int 60) (by rfl) C_FARTHEST ⟨_,rfl⟩)) (.cons Zt (.cons (T9 (XR (v:=.int 60) (by rfl) C_FARTHEST ⟨_,rfl⟩)) (.cons Zt .nil)))))) Z7))) Zw)),?_⟩;have ab:∀ i:Int,(if i<0 then -i else i)=(i.natAbs:Int):=fun i=>by split<;>omega
  refine⟨_,rfl,_,rfl,_,_,rfl,rfl,_,rfl,?_⟩;rw[ab]
  by_cases hp:p.natAbs<=60
  ·rw[decide_eq_false (by omega)];refine ZJ ?_;refine⟨_,rfl,_,rfl,_,_,rfl,rfl,_,rfl,?_⟩;rw[ab]
   by_cases hq:q.natAbs<=60
   ·rw[decide_eq_false (by omega)];refine ZJ ?_;refine⟨_,rfl,rfl,_,rfl,?_⟩
    by_cases e:p=0
    ·subst e;refine Zz ?_;refine⟨_,rfl,rfl,_,rfl,?_⟩
     by_cases e2:q=0
     ·subst e2;refine Zz ?_;refine⟨_,rfl,by decide,?_⟩;refine⟨60,rfl,by decide,_,rfl,by decide,?_⟩;refine⟨_,rfl,by decide,?_⟩;refine⟨60,rfl,by decide,_,rfl,by decide,?_⟩;refine⟨_,rfl,by decide,?_⟩;exact⟨by show 1<=sizeLine;decide,k2 (fun ⟨_,_,z⟩=>z ⟨rfl,rfl⟩) _ (Z5.refl _)⟩
     ·rw[decide_eq_false (fun z=>e2 (V.int.inj z))];refine ZJ ?_;exact k1 ⟨hp,hq,fun z=>e2 z.2⟩
    ·rw[decide_eq_false (fun z=>e (V.int.inj z))];refine ZJ ?_;refine ZJ ?_;exact k1 ⟨hp,hq,fun z=>e z.1⟩
   ·rw[decide_eq_true (by omega)];refine Zz ?_;refine⟨_,rfl,by decide,?_⟩;refine⟨60,rfl,by decide,_,rfl,by decide,?_⟩;refine⟨_,rfl,by decide,?_⟩;refine⟨60,rfl,by decide,_,rfl,by decide,?_⟩;refine⟨_,rfl,by decide,?_⟩;exact⟨by show 1<=sizeLine;decide,k2 (fun ⟨_,z,_⟩=>hq z) _ (Z5.refl _)⟩
  ·rw[decide_eq_true (by omega)];refine Zz ?_;refine⟨_,rfl,by decide,?_⟩;refine⟨60,rfl,by decide,_,rfl,by decide,?_⟩;refine⟨_,rfl,by decide,?_⟩;refine⟨60,rfl,by decide,_,rfl,by decide,?_⟩;refine⟨_,rfl,by decide,?_⟩;exact⟨by show 1<=sizeLine;decide,k2 (fun ⟨z,_,_⟩=>hp z) _ (Z5.refl _)⟩
end
end K1
namespace L2
open PySem PySem.Spec PyProof.Rows
section
variable {P:Program}{w:World}{K:Y00}{mg:Str->Option Value}{base:Heap}
end
structure FnD (K:Y00)(mg:Str->Option Value)(x:Str)(st:Stmt)(ps:List Str)(v:V)(f:Addr)(fd:FuncData)(u:Value):Prop where
 F:∃ dV,VS K x x st dV f fd
 kp:Y1p K (.ref f)=true
 b:YU K fd ps []
 d:YU K fd ps [u]
 r:ZN [v] [u]
 m:mg x=some (.ref f)
def Tc (K:Y00)(x:Str)(st:Stmt)(ps:List Str)(v:V):Prop:=∃ f fd u,(∃ dV,VS K x x st dV f fd)/\Y1p K (.ref f)=true/\YU K fd ps []/\YU K fd ps [u]/\ZM v u/\Y0u K mainGlobals x=some (some (.ref f))
theorem Tc.fn {K:Y00}{h:Heap}{mg:Str->Option Value}{x:Str}{st:Stmt}{ps:List Str}{v:V}(X:K.In h)(G:h.Ns mainGlobals mg)(R:Tc K x st ps v):∃ f fd u,FnD K mg x st ps v f fd u:=by
 obtain⟨f,fd,u,F,kp,b,d,r,m⟩:=R;exact⟨f,fd,u,F,kp,b,d,.cons r .nil,Y27 X G m⟩
theorem Zd7 {K:Y00}{x p1 p2 p3 p4 p5:Str}{st:Stmt}{v:V}{f Td:Addr}{oc tc u:Value}{od an td:Option Addr}{osl tsl:Array (Option Value)}{kV doc pm cdv ct:Value}{tn:Nat}(a:Y0u K mainGlobals x=some (some (.ref f)))
  (l:K.lookup f=some ⟨oc,od,.func (Y1m x x (YC st) (YO st) (ZV st) (.ref Td) kV doc pm an cdv ct),osl⟩) (c:Y30 K cdv x=true) (k:Y1p K (.ref f)=true)
  (t:K.lookup Td=some ⟨tc,td,.seq #[u] tn,tsl⟩) (r:ZM v u)
  (b2:∀ (s:Shared),K.In s.heap->∀ y1 y2 y3 y4 y5:Value,BindsTo s (Y1m x x (YC st) (YO st) (ZV st) (.ref Td) kV doc pm an cdv ct) ⟨[y1,y2,y3,y4,y5],[]⟩ [(p1,y1),(p2,y2),(p3,y3),(p4,y4),(p5,y5)])
  (b1:∀ (s:Shared),K.In s.heap->∀ y1 y2 y3 y4:Value,BindsTo s (Y1m x x (YC st) (YO st) (ZV st) (.ref Td) kV doc pm an cdv ct) ⟨[y1,y2,y3,y4],[]⟩ [(p1,y1),(p2,y2),(p3,y3),(p4,y4),(p5,u)]):Tc K x st [p1,p2,p3,p4,p5] v:=by
 refine⟨f,_,u,⟨_,ZaU l c k⟩,k,fun s us hK hl=>?_,fun s us hK hl=>?_,r,a⟩
 ·have hl':us.length=5:=by simpa using hl
  match us,hl' with
  | [y1,y2,y3,y4,y5],_=>exact b2 s hK y1 y2 y3 y4 y5
 ·have hl':us.length=4:=by simpa using hl
  match us,hl' with
  | [y1,y2,y3,y4],_=>exact b1 s hK y1 y2 y3 y4
end L2
namespace K1
open PySem L2 Sq
def Ts (n:Nat)(sqi tx bx ty by_:Int):Prop:=0<=sqi/\sqi<(n:Int)/\tx/bx=0/\ty/by_=0
theorem Zjx {t b:Int}(hb:0<b)(h:t/b=0):0<=t/\t<b:=by
 have e:=Y4l t b;rw[h,Y2g,Y44]at e;have h1:=Y2x t (show b≠0 by omega);have h2:=Y2a t hb;omega
def Zg0 (C CP CY:Addr):Sp:=fun vs H Q E=>∃ (a l px py:Addr) (n:Nat) (sqi:Int) (r u:List Nat) (tx bx ty by_ p q S:Int),vs=[.ref a,.ref l,.int p,.int q,.int S]/\Zn H a r u/\Row n r/\Row n u/\n<=36/\H l=some (.tup [.int sqi,.ref px,.ref py])/\YV C H px tx bx/\YV C H py ty by_/\0<bx/\0<by_/\Bt 60 bx/\Bt 60 by_/\0<=S/\S<=1000000/\
 (¬ Ts n sqi tx bx ty by_->E (.ref CP) none H)/\(Ts n sqi tx bx ty by_->¬ Way p q->∀ H':Hp,Z5 H H'->E (.ref CY) none H')/\
 (Ts n sqi tx bx ty by_->Way p q->∀ sq:Nat,sqi=(sq:Int)->RC C n sq r u tx bx ty by_ p q S H Q)
section
variable {P:Program}{w:World}{K:Y00}{mg:Str->Option Value}{base:Heap}
noncomputable abbrev Zjz:List Str:=["sheet","place","p","q","steps"]
theorem Zhk:ZL Zjz ["sheet","place","p","q","steps"] (ZV Tw):=⟨rfl,rfl,rfl,by decide +kernel,rfl,by decide +kernel,by decide +kernel⟩
theorem Zgw {f fn fw fv:Addr}{fd dn dw dv:FuncData}{C CP CY:Addr}{uv:Value}(F:FnD K mg "walk" Tw ["sheet","place","p","q","steps"] (.int 1) f fd uv)(FN:Fn K mg "need_place" VG ["sheet","place"] fn dn)(GN:Z4 P w K mg base (CX1 P w) 3 fn dn ["sheet","place"] (Zfh C CP))
  (FW:Fn K mg "need_way" Vv ["p","q"] fw dw) (GW:Z4 P w K mg base (CX1 P w) 1 fw dw ["p","q"] (ZfQ CY))
  (FV:Fn K mg "walked" Vq ["sheet","place","p","q","steps"] fv dv) (GV:Z4 P w K mg base CX0 8 fv dv ["sheet","place","p","q","steps"] (ZfV C)):Z4 P w K mg base (CX1 P w) 9 f fd ["sheet","place","p","q","steps"] (Zg0 C CP CY):=by
 obtain⟨dV,FD0⟩:=F.F;refine FD0.ok1 Zhk (fun vs H Q E h=>?_) (fun cdv A outer s H vs Q E hr h=>?_)
 ·obtain⟨a,l,px,py,n,sqi,r,u,tx,bx,ty,by_,p,q,S,rfl,_⟩:=h;rfl
 ·obtain⟨a,l,px,py,n,sqi,r,u,tx,bx,ty,by_,p,q,S,rfl,ha,rr,ru,hn,hl,hx,hy,x0,y0,bX,bY,S0,S1,k1,k2,k3⟩:=h;have hr1:ZP 1 _:=hr.mono (by decide);have hr3:ZP 3 _:=hr.mono (by decide);have hr8:ZP 8 _:=hr.mono (by decide);refine⟨_,(Z3 (YB (ZT GN hr3 rfl FN.m FN.F.kp FN.b .nil (VY fun _ _ _ z=>z) (Z9 (pv 0) (Z9 (pv 1) Z7))))
   (Z3 (YB (ZT GW hr1 rfl FW.m FW.F.kp FW.b .nil (VY fun _ _ _ z=>z) (Z9 (pv 2) (Z9 (pv 3) Z7))))
   (ZY (ZO (ZT GV hr8 rfl FV.m FV.F.kp FV.b .nil ZQ (Z9 (pv 0) (Z9 (pv 1) (Z9 (pv 2) (Z9 (pv 3) (Z9 (pv 4) Z7)))))))))),?_⟩
  refine⟨_,rfl,_,rfl,a,l,sqi,px,py,tx,bx,ty,by_,r,u,rfl,ha,hl,hx,hy,x0,y0,bX.mono (by decide),bY.mono (by decide),fun g=>?_,fun g=>?_⟩
  ·rw[rr.len]at g;refine⟨_,rfl,_,rfl,p,q,rfl,fun hw=>?_,fun hw=>k2 g hw⟩;obtain⟨sq,hsq⟩:=Y3e g.1;have e:=k3 g hw sq hsq;obtain⟨gx0,gx1⟩:=Zjx x0 g.2.2.1;obtain⟨gy0,gy1⟩:=Zjx y0 g.2.2.2;have hsn:=g.2.1;subst hsq;exact⟨_,rfl,_,rfl,_,rfl,_,rfl,_,rfl,a,l,n,sq,r,u,tx,bx,ty,by_,p,q,S,rfl,ha,rr,ru,hn,⟨px,py,hl,hx,hy⟩,by omega,gx0,gx1,gy0,gy1,bX,bY,hw.1,hw.2.1,hw.2.2,S0,S1,e⟩
  ·rw[rr.len]at g;exact k1 g
end
theorem Xt {t b:Int}(hb:0<b)(h0:0<=t)(h1:t<b):0<=Z1 t b/\Z1 t b<Z8 t b/\0<Z8 t b/\(0<t->0<Z1 t b):=by
 have pb:=YD (t:=t) (b:=b) (by lia);have e:Z1 t b/Z8 t b=0:=by rw[ZcF hb];exact Y35 h0 h1
 obtain⟨a1,a2⟩:=Zjx pb e;refine⟨a1,a2,pb,fun ht=>?_⟩;have c:=Wr (i:=t) (B:=b);rcases Y1c 0 (Z1 t b) with g|g
 ·exact g
 ·have z:Z1 t b=0:=by lia
  rw[z,Y43]at c;have:=Y13 ht pb;lia
theorem Si {bx by_ p q:Int}:unU bx by_ p q=bx*(by_*mx1 p*mx1 q):=by unfold unU;simp only[Y0f]
theorem Sa {bx by_ p q:Int}:unU bx by_ p q=by_*(bx*mx1 p*mx1 q):=by unfold unU;simp only[<-Y0f];rw[Y0d by_ bx]
theorem SM {a b U k m:Int}(a0:0<=a)(a1:a<U)(b0:0<=b)(b1:b<U)(e:a+U*k=b+U*m):a=b:=by
 have h1:(a+U*k)%U=a:=by rw[Y52];exact Int.emod_eq_of_lt a0 a1
 have h2:(b+U*m)%U=b:=by rw[Y52];exact Int.emod_eq_of_lt b0 b1
 rw[<-h1,e,h2]
theorem ZgM {n:Nat}{r u:List Nat}(rr:Row n r)(ru:Row n u):Zfd n r u (Zj n (ZF r u)):=fun s hs hF=>by
 rw[<-Wl rr hs];refine Decidable.byContradiction fun c=>hF ?_;rw[(UQ (UH rr ru)).mem_iff];unfold Yn;rw[Y0p,Y06];exact⟨hs,by simpa using c⟩
noncomputable abbrev U6 (tx bx ty by_ p q:Int):Int:=unU (Z8 tx bx) (Z8 ty by_) p q
noncomputable abbrev A6 (tx bx ty by_ p q:Int)(sq:Nat):Spt:=⟨sq,uX (Z1 tx bx) (Z8 tx bx) (Z8 ty by_) p q,uY (Z1 ty by_) (Z8 tx bx) (Z8 ty by_) p q⟩
theorem ZfI {n sq:Nat}{tx bx ty by_ p q:Int}(hsq:sq<n)(x0:0<=tx)(x1:tx<bx)(y0:0<=ty)(y1:ty<by_):SIn n p q (U6 tx bx ty by_ p q) (A6 tx bx ty by_ p q sq):=by
 obtain⟨ax0,ax1,ax2,_⟩:=Xt (show 0<bx by omega) x0 x1;obtain⟨ay0,ay1,ay2,_⟩:=Xt (show 0<by_ by omega) y0 y1;have i:=U1 (p:=p) (q:=q) (M:=0) ax0 ax1 ay0 ay1 (by decide);exact⟨hsq,i.x0,i.x1,i.y0,i.y1,i.px,i.qy⟩
theorem SC {t b k U:Int}(hb:0<b)(hU:0<U)(hk:U=Z8 t b*k):Z1 (Z1 t b*k) U=Z1 t b/\Z8 (Z1 t b*k) U=Z8 t b:=by
 have pb:=YD (t:=t) (b:=b) (by omega);have k0:0<k:=by
  rcases Y1c 0 k with g|g
  ·exact g
  ·have:=Int.mul_nonneg_of_nonpos_of_nonpos (show -Z8 t b<=0 by omega) g;rw[Y3b]at this;omega
 rw[hk];obtain⟨e1,e2⟩:=Z51 (t:=Z1 t b) (b:=Z8 t b) (by omega) k0;obtain⟨f1,f2⟩:=Zfu (a:=t) hb;exact⟨by rw[e1,f1],by rw[e2,f2]⟩
theorem ZfP {C:Addr}{n sq:Nat}{r u:List Nat}{tx bx ty by_ p q S:Int}{H:Hp}{Q:VK}(rr:Row n r)(ru:Row n u)(hsq:sq<n)(S0:0<=S)(hw:Way p q)(x0:0<=tx)(x1:tx<bx)(y0:0<=ty)(y1:ty<by_)
  (k1:∀ (H':Hp) (t l':Addr) (s':Nat),Z5 H H'->H' t=some (.tup [.str (Str.ofString "there"),.ref l'])->P3 C H' l' s' (Z1 tx bx) (Z8 tx bx) (Z1 ty by_) (Z8 ty by_)->s'<n->
   Run r u (Zj n (ZF r u)) p q (U6 tx bx ty by_ p q) (A6 tx bx ty by_ p q sq) (S*U6 tx bx ty by_ p q) (A6 tx bx ty by_ p q s')->Q (.ref t) H')
  (k2:∀ (H':Hp) (t pt:Addr) (v:V) (T:Int) (b:Spt),Z5 H H'->H' t=some (.tup [.str (Str.ofString "corner"),v,.ref pt])->WN n (ZF r u) b.s v->YV C H' pt (Z1 T (U6 tx bx ty by_ p q)) (Z8 T (U6 tx bx ty by_ p q))->0<=T->T<=S*U6 tx bx ty by_ p q->
   Hit r u (Zj n (ZF r u)) p q (U6 tx bx ty by_ p q) (A6 tx bx ty by_ p q sq) (S*U6 tx bx ty by_ p q) T b->Q (.ref t) H') :
  RC C n sq r u (Z1 tx bx) (Z8 tx bx) (Z1 ty by_) (Z8 ty by_) p q S H Q:=by
 have pbx:0<bx:=by omega
 have pby:0<by_:=by omega
 obtain⟨ax0,ax1,ax2,_⟩:=Xt pbx x0 x1;obtain⟨ay0,ay1,ay2,_⟩:=Xt pby y0 y1;have o:=TV (p:=p) (q:=q) ax2 ay2 hw.2.2;have hU:=o.u;have hM:0<=S*unU (Z8 tx bx) (Z8 ty by_) p q:=Y1l S0 (by omega);have in0:=U1 (p:=p) (q:=q) (M:=S*unU (Z8 tx bx) (Z8 ty by_) p q) ax0 ax1 ay0 ay1 hM;constructor
 ·intro H' t l' i s fr ht hcr h1 h2;have wi:=WC o in0 i fun j hj=>(fr j hj).2;have run:=R7 (r:=r) (u:=u) (F:=Zj n (ZF r u)) (s:=sq) (fun j hj=>⟨(fr j hj).1,(fr j hj).2⟩) ht hcr i (Y05 i);rw[Y5e]at run;have ex:=Tf p q (unU (Z8 tx bx) (Z8 ty by_) p q) (S*unU (Z8 tx bx) (Z8 ty by_) p q) (uX (Z1 tx bx) (Z8 tx bx) (Z8 ty by_) p q) (uY (Z1 ty by_) (Z8 tx bx) (Z8 ty by_) p q) i;have ey:=S7 p q (unU (Z8 tx bx) (Z8 ty by_) p q) (S*unU (Z8 tx bx) (Z8 ty by_) p q) (uX (Z1 tx bx) (Z8 tx bx) (Z8 ty by_) p q) (uY (Z1 ty by_) (Z8 tx bx) (Z8 ty by_) p q) i;have gx:(W5 (Z1 tx bx) (Z8 tx bx) (Z1 ty by_) (Z8 ty by_) p q S i).x=uX (Z1 tx bx) (Z8 tx bx) (Z8 ty by_) p q:=by
   refine SM wi.x0 wi.x1 in0.x0 in0.x1 (m:=p*S) (ex.trans ?_);rw[show (ws p q (unU (Z8 tx bx) (Z8 ty by_) p q) (S*unU (Z8 tx bx) (Z8 ty by_) p q) (uX (Z1 tx bx) (Z8 tx bx) (Z8 ty by_) p q) (uY (Z1 ty by_) (Z8 tx bx) (Z8 ty by_) p q) i).t=_ from ht,<-Y0f,Y0d (p*S)]
  have gy:(W5 (Z1 tx bx) (Z8 tx bx) (Z1 ty by_) (Z8 ty by_) p q S i).y=uY (Z1 ty by_) (Z8 tx bx) (Z8 ty by_) p q:=by
   refine SM wi.y0 wi.y1 in0.y0 in0.y1 (m:=q*S) (ey.trans ?_);rw[show (ws p q (unU (Z8 tx bx) (Z8 ty by_) p q) (S*unU (Z8 tx bx) (Z8 ty by_) p q) (uX (Z1 tx bx) (Z8 tx bx) (Z8 ty by_) p q) (uY (Z1 ty by_) (Z8 tx bx) (Z8 ty by_) p q) i).t=_ from ht,<-Y0f,Y0d (q*S)]
  have e2:Zi r u sq (W5 (Z1 tx bx) (Z8 tx bx) (Z1 ty by_) (Z8 ty by_) p q S i)=A6 tx bx ty by_ p q (ZC r u (W5 (Z1 tx bx) (Z8 tx bx) (Z1 ty by_) (Z8 ty by_) p q S i).w sq):=by
   unfold Zi A6;rw[gx,gy]
  rw[show Zi r u sq (ws p q (unU (Z8 tx bx) (Z8 ty by_) p q) (S*unU (Z8 tx bx) (Z8 ty by_) p q) (uX (Z1 tx bx) (Z8 tx bx) (Z8 ty by_) p q) (uY (Z1 ty by_) (Z8 tx bx) (Z8 ty by_) p q) i)=_ from e2]at run;have run:Run r u (Zj n (ZF r u)) p q (U6 tx bx ty by_ p q) (A6 tx bx ty by_ p q sq) (S*U6 tx bx ty by_ p q-0) (A6 tx bx ty by_ p q (ZC r u (W5 (Z1 tx bx) (Z8 tx bx) (Z1 ty by_) (Z8 ty by_) p q S i).w sq)):=run;rw[Y3o]at run;rw[gx,gy]at h2;have lx:Z1 (uX (Z1 tx bx) (Z8 tx bx) (Z8 ty by_) p q) (unU (Z8 tx bx) (Z8 ty by_) p q)=Z1 tx bx/\Z8 (uX (Z1 tx bx) (Z8 tx bx) (Z8 ty by_) p q) (unU (Z8 tx bx) (Z8 ty by_) p q)=Z8 tx bx:=by
   unfold uX;rw[V4 ax2];exact SC pbx hU Si
  have ly:Z1 (uY (Z1 ty by_) (Z8 tx bx) (Z8 ty by_) p q) (unU (Z8 tx bx) (Z8 ty by_) p q)=Z1 ty by_/\Z8 (uY (Z1 ty by_) (Z8 tx bx) (Z8 ty by_) p q) (unU (Z8 tx bx) (Z8 ty by_) p q)=Z8 ty by_:=by
   unfold uY;rw[V3 ay2];exact SC pby hU Sa
  rw[lx.1,lx.2,ly.1,ly.2]at h2;exact k1 H' t l' _ s h1 h2 (WR rr ru _ hsq) run
 ·intro H' t pt i v s fr hcr h1 lv hpt;have wi:=WC o in0 i fun j hj=>(fr j hj).2;have hit:=ZaV (r:=r) (u:=u) (F:=Zj n (ZF r u)) (s:=sq) (fun j hj=>⟨(fr j hj).1,(fr j hj).2⟩) wi.t1 hcr i (Y05 i);rw[Y5e]at hit;have hit:Hit r u (Zj n (ZF r u)) p q (U6 tx bx ty by_ p q) (A6 tx bx ty by_ p q sq) (S*U6 tx bx ty by_ p q-0) ((W5 (Z1 tx bx) (Z8 tx bx) (Z1 ty by_) (Z8 ty by_) p q S i).t-0) (Zi r u sq (W5 (Z1 tx bx) (Z8 tx bx) (Z1 ty by_) (Z8 ty by_) p q S i)):=hit;rw[Y3o,Y3o]at hit;exact k2 H' t pt v _ _ s h1 lv hpt wi.t0 wi.t1 hit
theorem Zj8 {i j B p q c e:Int}{s:Nat}(hB:0<B)(hne:¬ (p=0/\q=0))(h:c*U6 i B j B p q=e*B):scS c (A6 i B j B p q s)=scS e (spt (s,i,j)):=by
 have px:=YD (t:=i) (b:=B) (by omega);have py:=YD (t:=j) (b:=B) (by omega);have eX:(A6 i B j B p q s).x*B=i*U6 i B j B p q:=by
  show uX (Z1 i B) (Z8 i B) (Z8 j B) p q*B=_;unfold uX;rw[V4 px];have c':=Wr (i:=i) (B:=B);have z:U6 i B j B p q=Z8 i B*(Z8 j B*mx1 p*mx1 q):=Si;rw[z,Y0f,Y0d _ B,<-Y0f,c',Y0f]
 have eY:(A6 i B j B p q s).y*B=j*U6 i B j B p q:=by
  show uY (Z1 j B) (Z8 i B) (Z8 j B) p q*B=_;unfold uY;rw[V3 py];have c':=Wr (i:=j) (B:=B);have z:U6 i B j B p q=Z8 j B*(Z8 i B*mx1 p*mx1 q):=Sa;rw[z,Y0f,Y0d _ B,<-Y0f,c',Y0f]
 have key:∀ X i:Int,X*B=i*U6 i B j B p q->True:=fun _ _ _=>trivial;have one:∀ X k:Int,X*B=k*U6 i B j B p q->c*X=e*k:=fun X k h1=>by
  have:(c*X)*B=(e*k)*B:=by
   rw[Y0f,h1,Y19,h];ac_rfl
  exact Y3q (by omega) this
 show Spt.mk s (c*(A6 i B j B p q s).x) (c*(A6 i B j B p q s).y)=Spt.mk s (e*i) (e*j);rw[one _ _ eX,one _ _ eY]
theorem RZ {i j B p q:Int}(hB:0<B)(hne:¬ (p=0/\q=0)):WOk p q (U6 i B j B p q):=TV (YD (by omega)) (YD (by omega)) hne
section
variable {n:Nat}{x:List Nat×List Nat}{d:Int×Int}{i j B S:Int}{s:Nat}{z:List Nat}
end
end K1
namespace Sq
noncomputable abbrev Ev:=Int×Nat×Nat
def ltE (e f:Ev):Prop:=e.1<f.1\/(e.1=f.1/\(e.2.1<f.2.1\/(e.2.1=f.2.1/\e.2.2<f.2.2)))
noncomputable def mvE (r u:List Nat)(s c:Nat):Nat:=if c=114 then nx r s else if c=108 then nx (back r) s else if c=117 then nx u s else nx (back u) s
inductive Res where
 | there (s:Nat)
 | corner (s:Nat) (t:Int)
noncomputable def Res.sh (d:Int):Res->Res
 | .there s=>.there s
 | .corner s t=>.corner s (t+d)
noncomputable def Y9 (r u F:List Nat):List Ev->Nat->Res
 | [],s=>.there s
 | e::es,s=>if e.2.1=1 then (if s∈F then .corner s e.1 else Y9 r u F es s) else Y9 r u F es (mvE r u s e.2.2)
noncomputable def shE (d:Int)(e:Ev):Ev:=(e.1+d,e.2)
section
variable {n:Nat}{r u F:List Nat}{p q U:Int}
theorem Z7X (d:Int):∀ (L:List Ev) (s:Nat),Y9 r u F (L.map (shE d)) s=(Y9 r u F L s).sh d
 | [],s=>rfl
 | e::L,s=>by
  show (if e.2.1=1 then (if s∈F then Res.corner s (e.1+d) else Y9 r u F (L.map (shE d)) s) else Y9 r u F (L.map (shE d)) (mvE r u s e.2.2))=(if e.2.1=1 then (if s∈F then Res.corner s e.1 else Y9 r u F L s) else Y9 r u F L (mvE r u s e.2.2)).sh d;rw[Z7X d L,Z7X d L]
  split
  ·split<;>rfl
  ·rfl
def PE (p q U:Int)(a:Spt)(T:Int)(e:Ev):Prop:=
 (e.2=(0,114)/\0<p/\0<e.1/\e.1<=T/\U∣a.x+p*e.1)\/(e.2=(0,117)/\0<q/\0<e.1/\e.1<=T/\U∣a.y+q*e.1)\/
 (e.2=(2,108)/\p<0/\0<=e.1/\e.1<T/\U∣a.x+p*e.1)\/(e.2=(2,100)/\q<0/\0<=e.1/\e.1<T/\U∣a.y+q*e.1)\/
 (e.2=(1,99)/\0<=e.1/\e.1<=T/\U∣a.x+p*e.1/\U∣a.y+q*e.1)
def Lst (p q U:Int)(a:Spt)(T:Int)(L:List Ev):Prop:=L.Pairwise ltE/\∀ e,e∈L↔PE p q U a T e
theorem Zez (e:Ev):¬ ltE e e:=fun h=>by unfold ltE at h;lia
theorem Zdd {e f:Ev}(h:ltE e f):¬ ltE f e:=fun g=>by unfold ltE at *;lia
theorem SN {a:Spt}{T:Int}{L L':List Ev}(h:Lst p q U a T L)(h':Lst p q U a T L'):L=L':=by
 have nd:∀ {L:List Ev},L.Pairwise ltE->L.Nodup:=fun h=>h.imp fun {a b} hab e=>by subst e;exact Zez _ hab
 have pm:L.Perm L':=(Y28 (nd h.1) (nd h'.1)).mpr fun e=>by rw[h.2,h'.2]
 exact pm.eq_of_pairwise (fun a b _ _ x y=>absurd y (Zdd x)) h.1 h'.1
structure Sd (p U x x1 m:Int):Prop where
 s1:∀ t,U∣x1+p*(t-m)↔U∣x+p*t
 s2:p≠0->∀ t,0<t->t<m->¬ U∣x+p*t
 s3:0<p->(U∣x+p*m↔ou p U x+p*m=U)
 s4:U∣x↔x=0
theorem ZaI {U v:Int}(h0:0<v)(h1:v<U):¬ U∣v:=fun h=>by have:=Int.le_of_dvd h0 h;lia
theorem Z4w {U v:Int}:U∣U+v↔U∣v:=⟨fun h=>by have:=Y4x h (Y5d U);rwa [show U+v-U=v by lia]at this,fun h=>Y4f (Y5d U) h⟩
theorem side {x m:Int}{p:Int}(hU:0<U)(h0:0<=x)(h1:x<U)(dU:p≠0->p∣U)(dx:p≠0->p∣x)(hm:1<=m)(hs:m<=sid U (ou p U x) p):Sd p U x (z0 U (ou p U x+p*m)) m:=by
 have ho:ou p U x=x\/ou p U x=U+x:=by unfold ou;split<;>lia
 obtain⟨i1,i2,i3⟩:=XM hU h0 h1 hm hs;have od:∀ v:Int,U∣ou p U x+v↔U∣x+v:=fun v=>by
  rcases ho with e|e
  ·rw[e]
  ·rw[e,Int.add_assoc];exact Z4w
 refine⟨fun t=>?_,fun hp t t0 t1 hd=>?_,fun hp=>?_,?_⟩
 ·have e1:U∣z0 U (ou p U x+p*m)+p*(t-m)↔U∣ou p U x+p*m+p*(t-m):=by
   unfold z0
   split
   ·rename_i e;rw[e,Y44];exact Z4w.symm
   ·exact Iff.rfl
  rw[e1,show ou p U x+p*m+p*(t-m)=ou p U x+p*t by rw[Y0s];lia];exact od _
 ·obtain⟨y1,_⟩:=Z6q hU h0 h1 dU dx (show 1<=t by lia) (by lia);obtain⟨j1,j2,_⟩:=XM hU h0 h1 (show 1<=t by lia) (show t<=sid U (ou p U x) p by lia);obtain⟨y1,y2⟩:=y1 hp;exact ZaI (by lia) (by lia) ((od _).mpr hd)
 ·rw[<-od];have pm:0<p*m:=Y13 hp (by lia);have o0:=(Tu (p:=p) hU h0 h1).1;exact⟨fun h=>by have:=Int.le_of_dvd (by lia) h;lia,fun h=>by rw[h];exact Y5d U⟩
 ·refine⟨fun h=>?_,fun h=>by rw[h];exact Y5c U⟩;rcases Y1c 0 x with g|g
  ·exact absurd h (ZaI g h1)
  ·lia
noncomputable def pre (p q:Int)(a:Spt):List Ev:=(if a.x=0/\a.y=0 then [(0,1,99)] else [])++((if q<0/\a.y=0 then [(0,2,100)] else [])++(if p<0/\a.x=0 then [(0,2,108)] else []))
noncomputable def post (p q U m:Int)(a:Spt):List Ev:=(if ou p U a.x+p*m=U then [(m,0,114)] else [])++(if ou q U a.y+q*m=U then [(m,0,117)] else [])
theorem XQ {A:Prop}[Decidable A]{e f:Ev}:e∈(if A then [f] else [])↔A/\e=f:=by
 split<;>simp[*]
theorem ZbS {a:Spt}{e:Ev}:e∈pre p q a↔((a.x=0/\a.y=0)/\e=(0,1,99))\/((q<0/\a.y=0)/\e=(0,2,100))\/((p<0/\a.x=0)/\e=(0,2,108)):=by
 unfold pre;rw[Y0n,Y0n,XQ,XQ,XQ]
theorem Z6l {a:Spt}{m:Int}{e:Ev}:e∈post p q U m a↔(ou p U a.x+p*m=U/\e=(m,0,114))\/(ou q U a.y+q*m=U/\e=(m,0,117)):=by
 unfold post;rw[Y0n,XQ,XQ]
theorem Vk {A:Prop}[Decidable A]{f:Ev}:(if A then [f] else []).Pairwise ltE:=by
 split
 ·exact List.pairwise_singleton _ _
 ·exact .nil
theorem Z95 {a:Spt}{T:Int}{L1:List Ev}(hr:Row n r)(hu:Row n u)(o:WOk p q U)(h:SIn n p q U a)(hT:0<T)(h1:Lst p q U (one r u p q U T a) (T-rm p q U T a) L1) :
  Lst p q U a T (pre p q a++(post p q U (rm p q U T a) a++L1.map (shE (rm p q U T a)))):=by
 have m1:=T7 o h hT;have m2:rm p q U T a<=T:=RJ;have lx:rm p q U T a<=sid U (ou p U a.x) p:=by unfold rm;lia
 have ly:rm p q U T a<=sid U (ou q U a.y) q:=by unfold rm;lia
 have sx:=side o.u h.x0 h.x1 o.p h.px m1 lx;have sy:=side o.u h.y0 h.y1 o.q h.qy m1 ly;have x3:=(XM o.u h.x0 h.x1 m1 lx).2.2;have y3:=(XM o.u h.y0 h.y1 m1 ly).2.2;obtain⟨pw,me⟩:=h1;have ex:(one r u p q U T a).x=z0 U (ou p U a.x+p*rm p q U T a):=rfl;have ey:(one r u p q U T a).y=z0 U (ou q U a.y+q*rm p q U T a):=rfl;generalize rm p q U T a=m at *;have mS:∀ e:Ev,e∈L1.map (shE m)↔PE p q U (one r u p q U T a) (T-m) (e.1-m,e.2):=fun e=>by
  rw[Y0g,<-me];exact⟨fun ⟨f,hf,he⟩=>by subst he;unfold shE;rw[show f.1+m-m=f.1 by lia];exact hf,fun hf=>⟨_,hf,by unfold shE;rw[show e.1-m+m=e.1 by lia]⟩⟩
 constructor
 ·rw[Y2k,Y2k];refine⟨?_,⟨?_,?_,?_⟩,?_⟩
  ·unfold pre;rw[Y2k,Y2k];refine⟨Vk,⟨Vk,Vk,fun e he f hf=>?_⟩,fun e he f hf=>?_⟩
   ·rw[XQ]at he hf;rw[he.2,hf.2];unfold ltE;simp
   ·rw[Y0n,XQ,XQ]at hf;rw[XQ]at he;rw[he.2];rcases hf with hf|hf<;>rw[hf.2]<;>unfold ltE<;>simp
  ·unfold post;rw[Y2k];refine⟨Vk,Vk,fun e he f hf=>?_⟩;rw[XQ]at he hf;rw[he.2,hf.2];unfold ltE;simp
  ·refine Y1q.mpr (pw.imp fun {e f} hef=>?_);unfold ltE shE at *;dsimp only;lia
  ·intro e he f hf;rw[mS]at hf;have e1:e.1=m/\e.2.1=0/\e.2.2<=117:=by
    rcases Z6l.mp he with ⟨_,rfl⟩|⟨_,rfl⟩<;>exact⟨rfl,rfl,by simp⟩
   have f1:m<f.1\/(m<=f.1/\1<=f.2.1):=by
    unfold PE at hf;dsimp only at hf;rcases hf with ⟨g,_,g1,_⟩|⟨g,_,g1,_⟩|⟨g,_,g1,_⟩|⟨g,_,g1,_⟩|⟨g,g1,_⟩<;>rw[g]<;>lia
   unfold ltE;lia
  ·intro e he f hf;have e1:e.1=0:=by
    rcases ZbS.mp he with ⟨_,rfl⟩|⟨_,rfl⟩|⟨_,rfl⟩<;>rfl
   have f1:m<=f.1:=by
    rcases Y0n.mp hf with hf|hf
    ·rcases Z6l.mp hf with ⟨_,rfl⟩|⟨_,rfl⟩<;>exact Y4e m
    ·rw[mS]at hf;unfold PE at hf;dsimp only at hf;rcases hf with ⟨g,_,g1,_⟩|⟨g,_,g1,_⟩|⟨g,_,g1,_⟩|⟨g,_,g1,_⟩|⟨g,g1,_⟩<;>lia
   unfold ltE;lia
 ·rintro ⟨t,kc⟩;rw[Y0n,Y0n,mS,ZbS,Z6l];have ax:=sx.s1 t;have ay:=sy.s1 t;have zx:U∣a.x+p*0↔a.x=0:=by rw[Y2g,Y5f];exact sx.s4
  have zy:U∣a.y+q*0↔a.y=0:=by rw[Y2g,Y5f];exact sy.s4
  rw[<-ex]at ax;rw[<-ey]at ay;unfold PE;dsimp only;rw[ax,ay];constructor
  ·rintro ((⟨g,e⟩|⟨g,e⟩|⟨g,e⟩)|(⟨g,e⟩|⟨g,e⟩)|hh)
   ·injection e with e1 e2;subst e1 e2
    exact .inr (.inr (.inr (.inr ⟨rfl,by lia,by lia,zx.mpr g.1,zy.mpr g.2⟩)))
   ·injection e with e1 e2;subst e1 e2
    exact .inr (.inr (.inr (.inl ⟨rfl,g.1,by lia,by lia,zy.mpr g.2⟩)))
   ·injection e with e1 e2;subst e1 e2
    exact .inr (.inr (.inl ⟨rfl,g.1,by lia,by lia,zx.mpr g.2⟩))
   ·injection e with e1 e2;subst e1 e2
    have hp:0<p:=by
     rcases Y1c 0 p with z|z
     ·exact z
     ·have:=x3 z;lia
    exact .inl ⟨rfl,hp,by lia,m2,(sx.s3 hp).mpr g⟩
   ·injection e with e1 e2;subst e1 e2
    have hq:0<q:=by
     rcases Y1c 0 q with z|z
     ·exact z
     ·have:=y3 z;lia
    exact .inr (.inl ⟨rfl,hq,by lia,m2,(sy.s3 hq).mpr g⟩)
   ·rcases hh with ⟨g,g0,g1,g2,g3⟩|⟨g,g0,g1,g2,g3⟩|⟨g,g0,g1,g2,g3⟩|⟨g,g0,g1,g2,g3⟩|⟨g,g1,g2,g3⟩
    ·exact .inl ⟨g,g0,by lia,by lia,g3⟩
    ·exact .inr (.inl ⟨g,g0,by lia,by lia,g3⟩)
    ·exact .inr (.inr (.inl ⟨g,g0,by lia,by lia,g3⟩))
    ·exact .inr (.inr (.inr (.inl ⟨g,g0,by lia,by lia,g3⟩)))
    ·exact .inr (.inr (.inr (.inr ⟨g,by lia,by lia,g3⟩)))
  ·rintro (⟨g,g0,g1,g2,g3⟩|⟨g,g0,g1,g2,g3⟩|⟨g,g0,g1,g2,g3⟩|⟨g,g0,g1,g2,g3⟩|⟨g,g1,g2,g3,g4⟩)
   ·rcases Y4g t m with c|c|c
    ·exact absurd g3 (sx.s2 (by lia) t g1 c)
    ·subst c;exact .inr (.inl (.inl ⟨(sx.s3 g0).mp g3,by rw[g]⟩))
    ·exact .inr (.inr (.inl ⟨g,g0,by lia,by lia,g3⟩))
   ·rcases Y4g t m with c|c|c
    ·exact absurd g3 (sy.s2 (by lia) t g1 c)
    ·subst c;exact .inr (.inl (.inr ⟨(sy.s3 g0).mp g3,by rw[g]⟩))
    ·exact .inr (.inr (.inr (.inl ⟨g,g0,by lia,by lia,g3⟩)))
   ·rcases Y1c t m with c|c
    ·rcases Y1c 0 t with z|z
     ·exact absurd g3 (sx.s2 (by lia) t z c)
     ·have:t=0:=(by lia);subst this;exact .inl (.inr (.inr ⟨⟨g0,zx.mp g3⟩,by rw[g]⟩))
    ·exact .inr (.inr (.inr (.inr (.inl ⟨g,g0,by lia,by lia,g3⟩))))
   ·rcases Y1c t m with c|c
    ·rcases Y1c 0 t with z|z
     ·exact absurd g3 (sy.s2 (by lia) t z c)
     ·have:t=0:=(by lia);subst this;exact .inl (.inr (.inl ⟨⟨g0,zy.mp g3⟩,by rw[g]⟩))
    ·exact .inr (.inr (.inr (.inr (.inr (.inl ⟨g,g0,by lia,by lia,g3⟩)))))
   ·rcases Y1c t m with c|c
    ·rcases Y1c 0 t with z|z
     ·by_cases hp:p=0
      ·exact absurd g4 (sy.s2 (fun hq=>o.n ⟨hp,hq⟩) t z c)
      ·exact absurd g3 (sx.s2 hp t z c)
     ·have:t=0:=(by lia);subst this;exact .inl (.inl ⟨⟨zx.mp g3,zy.mp g4⟩,by rw[g]⟩)
    ·exact .inr (.inr (.inr (.inr (.inr (.inr ⟨g,by lia,by lia,g3,g4⟩)))))
theorem Z8y {a:Spt}(h:SIn n p q U a)(hU:0<U):Lst p q U a 0 (if a.x=0/\a.y=0 then [(0,1,99)] else []):=by
 have z:∀ {x v:Int},0<=x->x<U->(U∣x+v*0↔x=0):=fun {x v} h0 h1=>by
  rw[Y2g,Y5f];refine⟨fun h=>?_,fun h=>by rw[h];exact Y5c U⟩;rcases Y1c 0 x with g|g
  ·exact absurd h (ZaI g h1)
  ·lia
 refine⟨Vk,?_⟩;rintro ⟨t,kc⟩;rw[XQ];unfold PE;dsimp only;constructor
 ·rintro ⟨g,e⟩;injection e with e1 e2;subst e1 e2
  exact .inr (.inr (.inr (.inr ⟨rfl,by lia,by lia,(z h.x0 h.x1).mpr g.1,(z h.y0 h.y1).mpr g.2⟩)))
 ·rintro (⟨g,g0,g1,g2,g3⟩|⟨g,g0,g1,g2,g3⟩|⟨g,g0,g1,g2,g3⟩|⟨g,g0,g1,g2,g3⟩|⟨g,g1,g2,g3,g4⟩)
  ·lia
  ·lia
  ·lia
  ·lia
  ·have:t=0:=(by lia);subst this;exact⟨⟨(z h.x0 h.x1).mp g3,(z h.y0 h.y1).mp g4⟩,by rw[g]⟩
theorem Zel (hr:Row n r)(hu:Row n u)(o:WOk p q U):∀ (k:Nat) {a:Spt} {T:Int},SIn n p q U a->0<=T->T.toNat=k->∃ L,Lst p q U a T L:=by
 intro k
 induction k using Nat.strongRecOn with
 | ind k ih=>
  intro a T h h0 hk
  by_cases c:0<T
  ·have m1:=T7 o h c;have m2:rm p q U T a<=T:=RJ;obtain⟨L1,h1⟩:=ih (T-rm p q U T a).toNat (by lia) (WL hr hu o h c) (by lia) rfl;exact⟨_,Z95 hr hu o h c h1⟩
  ·have:T=0:=(by lia);subst this;exact⟨_,Z8y h o.u⟩
theorem Zb5 {a:Spt}{T:Int}{L:List Ev}(hr:Row n r)(hu:Row n u)(o:WOk p q U)(pl:Zfd n r u F)(h:SIn n p q U a)(hT:0<T)(ha:cr F a=false) :
  Y9 r u F (pre p q a++(post p q U (rm p q U T a) a++L)) a.s=Y9 r u F L (one r u p q U T a).s:=by
 have m1:=T7 o h hT;have lx:rm p q U T a<=sid U (ou p U a.x) p:=by unfold rm;lia
 have ly:rm p q U T a<=sid U (ou q U a.y) q:=by unfold rm;lia
 obtain⟨_,_,_,x4,_⟩:=Z74 o.u h.x0 h.x1 m1 lx;obtain⟨_,_,_,y4,_⟩:=Z74 o.u h.y0 h.y1 m1 ly;have hs:=h.s;have skip:∀ B:List Ev,Y9 r u F ((if a.x=0/\a.y=0 then [(0,1,99)] else [])++B) a.s=Y9 r u F B a.s:=fun B=>by
  by_cases c:a.x=0/\a.y=0
  ·rw[if_pos c];have nF:a.s∉F:=fun z=>by
    unfold cr at ha;rw[decide_eq_true c.1,decide_eq_true c.2,decide_eq_true z]at ha;cases ha
   show (if (1:Nat)=1 then (if a.s∈F then _ else Y9 r u F B a.s) else _)=_;rw[if_pos rfl,if_neg nF]
  ·rw[if_neg c];rfl
 have one':∀ {A:Prop} [Decidable A] {t:Int} {k c:Nat} {B:List Ev} {s:Nat},k≠1->Y9 r u F ((if A then [(t,k,c)] else [])++B) s=Y9 r u F B (if A then mvE r u s c else s):=fun {A _ t k c B s} hk=>by
  by_cases g:A
  ·rw[if_pos g,if_pos g];show (if k=1 then _ else Y9 r u F B (mvE r u s c))=_;rw[if_neg hk]
  ·rw[if_neg g,if_neg g];rfl
 unfold pre post;rw[Y2s,skip,Y2s,one' (by decide),one' (by decide),Y2s,one' (by decide),one' (by decide)];congr 1;show _=ZC r u (wd p q U T a) a.s;unfold wd;rw[Yt,Yt,Yt,Sx,SK,SB,SJ];have e1:∀ s,mvE r u s 100=nx (back u) s:=fun s=>rfl;have e2:∀ s,mvE r u s 108=nx (back r) s:=fun s=>rfl;have e3:∀ s,mvE r u s 114=nx r s:=fun s=>rfl;have e4:∀ s,mvE r u s 117=nx u s:=fun s=>rfl;rw[e1,e2,e3,e4];have mid:(if p<0/\a.x=0 then nx (back r) (if q<0/\a.y=0 then nx (back u) a.s else a.s) else (if q<0/\a.y=0 then nx (back u) a.s else a.s))=(if q<0/\a.y=0 then nx (back u) (if p<0/\a.x=0 then nx (back r) a.s else a.s) else (if p<0/\a.x=0 then nx (back r) a.s else a.s)):=by
  by_cases A:p<0/\a.x=0
  ·by_cases B:q<0/\a.y=0
   ·rw[if_pos A,if_pos B,if_pos B,if_pos A];have nF:a.s∉F:=fun z=>by
     unfold cr at ha;rw[decide_eq_true A.2,decide_eq_true B.2,decide_eq_true z]at ha;cases ha
    have e:=pl _ hs nF;have l1:=hu.back.nlt (hr.back.nlt hs);have e1:nx r (nx (back u) (nx (back r) a.s))=nx (back u) a.s:=by
     have:=congrArg (nx (back u)) e
     rwa [Yj hu (hr.nlt l1)]at this
    have:=congrArg (nx (back r)) e1;rw[Yj hr l1]at this;exact this.symm
   ·rw[if_pos A,if_neg B,if_neg B,if_pos A]
  ·rw[if_neg A,if_neg A]
 rw[mid]
theorem ZcI {a b:Spt}{T:Int}(hr:Row n r)(hu:Row n u)(o:WOk p q U)(pl:Zfd n r u F)(h:Run r u F p q U a T b):∀ {L:List Ev},SIn n p q U a->0<=T->Lst p q U a T L->Y9 r u F L a.s=.there b.s:=by
 induction h with
 | nil a hf=>
  intro L hi _ hL;rw[SN hL (Z8y hi o.u)]
  split
  ·rename_i c;have nF:a.s∉F:=fun z=>by
    unfold cr at hf;rw[decide_eq_true c.1,decide_eq_true c.2,decide_eq_true z]at hf;cases hf
   show (if (1:Nat)=1 then (if a.s∈F then _ else Y9 r u F [] a.s) else _)=_;rw[if_pos rfl,if_neg nF];rfl
  ·rfl
 | cons a T b h0 hf h' ih=>
  intro L hi _ hL;have hi1:=WL hr hu o hi h0;have m2:rm p q U T a<=T:=RJ;obtain⟨L1,h1⟩:=Zel hr hu o _ hi1 (show 0<=T-rm p q U T a by lia) rfl;rw[SN hL (Z95 hr hu o hi h0 h1),Zb5 hr hu o pl hi h0 hf,Z7X,ih hi1 (by lia) h1]
  rfl
end
end Sq
namespace L2
open PySem PySem.Spec PyProof.Rows PySem.W
section
variable {prog:Program}{w:World}{A:Around}{E:Value->Shared->Prop}{s:Shared}{α β:Type}
variable {κ:SortKind}{it:List Keyed}{kv:Keyed->Nat}
end
section
variable {kv:Keyed->Nat}{a b out:List Keyed}{ia ib:Nat}{x:Keyed}
end
section
variable {prog:Program}{w:World}{A:Around}{E:Value->Shared->Prop}{s:Shared}{κ:SortKind}{it:List Keyed}{kv:Keyed->Nat}
end
section
variable {kv:Keyed->Nat}{a b out:List Keyed}{na nb:Nat}{x:Keyed}
end
section
variable {prog:Program}{w:World}{A:Around}{E:Value->Shared->Prop}{s:Shared}{κ:SortKind}{it:List Keyed}{kv:Keyed->Nat}
end
section
variable {kv:Keyed->Nat}{xs ys:Array Keyed}
end
section
variable {prog:Program}{w:World}{A:Around}{E:Value->Shared->Prop}{s:Shared}{κ:SortKind}{it:List Keyed}{kv:Keyed->Nat}
end
section
variable {kv:Keyed->Nat}{L L':List Keyed}
end
section
variable {prog:Program}{w:World}{A:Around}{E:Value->Shared->Prop}{s:Shared}{κ:SortKind}{it:List Keyed}{kv:Keyed->Nat}
end
section
variable {X:Cx}
end
end L2
namespace Sq
open PySem L2
noncomputable def scE (c:Int)(e:Sq.Ev):Sq.Ev:=(c*e.1,e.2)
noncomputable def Res.sc (c:Int):Res->Res
 | .there s=>.there s
 | .corner s t=>.corner s (c*t)
section
variable {n:Nat}{r u F:List Nat}{p q U:Int}
theorem Z7V (c:Int):∀ (L:List Sq.Ev) (s:Nat),Y9 r u F (L.map (scE c)) s=(Y9 r u F L s).sc c
 | [],s=>rfl
 | e::L,s=>by
  show (if e.2.1=1 then (if s∈F then Res.corner s (c*e.1) else Y9 r u F (L.map (scE c)) s) else Y9 r u F (L.map (scE c)) (mvE r u s e.2.2))=(if e.2.1=1 then (if s∈F then Res.corner s e.1 else Y9 r u F L s) else Y9 r u F L (mvE r u s e.2.2)).sc c;rw[Z7V c L,Z7V c L]
  split
  ·split<;>rfl
  ·rfl
theorem Zed {c x t':Int}(hc:0<c)(hp:p≠0)(hU:p∣U)(hx:p∣x):c*U∣c*x+p*t'↔∃ t,t'=c*t/\U∣x+p*t:=by
 obtain⟨U',rfl⟩:=hU;obtain⟨x',rfl⟩:=hx;constructor
 ·rintro ⟨k,hk⟩;have e:p*t'=p*(c*(U'*k-x')):=by
   have:p*t'=c*(p*U')*k-c*(p*x'):=(by lia);rw[this,Y0s,Y0s];congr 1
   ·ac_rfl
   ·ac_rfl
  refine⟨U'*k-x',Y2c hp e,k,?_⟩;rw[Y0s,<-Y0f];lia
 ·rintro ⟨t,rfl,k,hk⟩;refine⟨k,?_⟩;have:c*(p*x')+p*(c*t)=c*(p*x' + p*t):=by rw[Y17];congr 1;ac_rfl
  rw[this,hk];ac_rfl
theorem Wz {c t T:Int}(hc:0<c):c*t<=c*T↔t<=T:=⟨fun h=>Int.le_of_mul_le_mul_left h hc,fun h=>Y10 h (by lia)⟩
theorem U3 {c t T:Int}(hc:0<c):c*t<c*T↔t<T:=⟨fun h=>Y5k h (by lia),fun h=>Y1d h hc⟩
theorem Rz {c t:Int}(hc:0<c):0<c*t↔0<t:=by have:=U3 (t:=0) (T:=t) hc;rwa [Y2g]at this
theorem VN {c t:Int}(hc:0<c):0<=c*t↔0<=t:=by have:=Wz (t:=0) (T:=t) hc;rwa [Y2g]at this
theorem ZhN {a:Spt}{T c:Int}{L:List Sq.Ev}(hc:0<c)(o:WOk p q U)(h:SIn n p q U a)(hL:Lst p q U a T L):Lst p q (c*U) ⟨a.s,c*a.x,c*a.y⟩ (c*T) (L.map (scE c)):=by
 refine⟨?_,fun e'=>?_⟩
 ·refine Y1q.mpr (hL.1.imp fun {e f} hef=>?_);unfold ltE scE at *;rcases hef with h1|⟨h1,h2⟩
  ·exact .inl ((U3 hc).mpr h1)
  ·exact .inr ⟨by show c*e.1=c*f.1;rw[h1],h2⟩
 ·obtain⟨t',k⟩:=e';have ex:∀ (P:Prop),(∃ e,e∈L/\scE c e=(t',k))↔∃ t,t'=c*t/\PE p q U a T (t,k):=fun _=>by
   constructor
   ·rintro ⟨⟨t,k'⟩,m,e⟩;have e:(c*t,k')=(t',k):=e;injection e with e1 e2
    subst e1;subst e2;exact⟨t,rfl,(hL.2 _).mp m⟩
   ·rintro ⟨t,rfl,m⟩;exact⟨(t,k),(hL.2 _).mpr m,rfl⟩
  rw[Y0g,ex True];have dx:=fun (hp:p≠0) (t':Int)=>Zed (t':=t') (x:=a.x) hc hp (o.p hp) (h.px hp);have dy:=fun (hq:q≠0) (t':Int)=>Zed (p:=q) (t':=t') (x:=a.y) hc hq (o.q hq) (h.qy hq);have one:∀ {x v t:Int},U∣x+v*t->c*U∣c*x+v*(c*t):=fun {x v t} ⟨k,hk⟩=>⟨k,by
   have:c*x+v*(c*t)=c*(x+v*t):=by rw[Y17];congr 1;ac_rfl
   rw[this,hk,Y0f]⟩
  have two:∀ {x v t:Int},c*U∣c*x+v*(c*t)->U∣x+v*t:=fun {x v t} h=>by
   have:c*x+v*(c*t)=c*(x+v*t):=(by rw[Y17];congr 1;ac_rfl);rw[this]at h;exact Int.dvd_of_mul_dvd_mul_left (by lia) h
  unfold PE;constructor
  ·rintro ⟨t,rfl,(⟨e,h1,h2,h3,h4⟩|⟨e,h1,h2,h3,h4⟩|⟨e,h1,h2,h3,h4⟩|⟨e,h1,h2,h3,h4⟩|⟨e,h2,h3,h4,h5⟩)⟩
   ·exact .inl ⟨e,h1,(Rz hc).mpr h2,(Wz hc).mpr h3,one h4⟩
   ·exact .inr (.inl ⟨e,h1,(Rz hc).mpr h2,(Wz hc).mpr h3,one h4⟩)
   ·exact .inr (.inr (.inl ⟨e,h1,(VN hc).mpr h2,(U3 hc).mpr h3,one h4⟩))
   ·exact .inr (.inr (.inr (.inl ⟨e,h1,(VN hc).mpr h2,(U3 hc).mpr h3,one h4⟩)))
   ·exact .inr (.inr (.inr (.inr ⟨e,(VN hc).mpr h2,(Wz hc).mpr h3,one h4,one h5⟩)))
  ·rintro (⟨e,h1,h2,h3,h4⟩|⟨e,h1,h2,h3,h4⟩|⟨e,h1,h2,h3,h4⟩|⟨e,h1,h2,h3,h4⟩|⟨e,h2,h3,h4,h5⟩)
   ·obtain⟨t,rfl,g⟩:=(dx (by lia) _).mp h4;exact⟨t,rfl,.inl ⟨e,h1,(Rz hc).mp h2,(Wz hc).mp h3,g⟩⟩
   ·obtain⟨t,rfl,g⟩:=(dy (by lia) _).mp h4;exact⟨t,rfl,.inr (.inl ⟨e,h1,(Rz hc).mp h2,(Wz hc).mp h3,g⟩)⟩
   ·obtain⟨t,rfl,g⟩:=(dx (by lia) _).mp h4;exact⟨t,rfl,.inr (.inr (.inl ⟨e,h1,(VN hc).mp h2,(U3 hc).mp h3,g⟩))⟩
   ·obtain⟨t,rfl,g⟩:=(dy (by lia) _).mp h4;exact⟨t,rfl,.inr (.inr (.inr (.inl ⟨e,h1,(VN hc).mp h2,(U3 hc).mp h3,g⟩)))⟩
   ·by_cases hp:p=0
    ·have hq:q≠0:=fun z=>o.n ⟨hp,z⟩;obtain⟨t,rfl,g⟩:=(dy hq _).mp h5;exact⟨t,rfl,.inr (.inr (.inr (.inr ⟨e,(VN hc).mp h2,(Wz hc).mp h3,two h4,g⟩)))⟩
    ·obtain⟨t,rfl,g⟩:=(dx hp _).mp h4;exact⟨t,rfl,.inr (.inr (.inr (.inr ⟨e,(VN hc).mp h2,(Wz hc).mp h3,g,two h5⟩)))⟩
end
def LnE (top bot by_ sc T:Int)(c0 c1:Nat)(e:Sq.Ev):Prop:=
 (0<by_/\∃ m:Int,1<=m/\e=((m*bot-top)*sc,0,c0)/\e.1<=T)\/(by_<0/\∃ m:Int,0<=m/\e=((top+m*bot)*sc,2,c1)/\e.1<T)
theorem Zhx {top bot p sc t:Int}(hb:0<bot)(hs:0<sc)(hp:0<p):bot*sc*p∣top*sc*p+p*t↔∃ m:Int,t=(m*bot-top)*sc:=by
 constructor
 ·rintro ⟨m,hm⟩;refine⟨m,?_⟩;have e:p*t=p*((m*bot-top)*sc):=by
   have:p*t=bot*sc*p*m-top*sc*p:=(by lia);rw[this,Y42,Y0s];congr 1<;>ac_rfl
  exact Y2c (by lia) e
 ·rintro ⟨m,rfl⟩;refine⟨m,?_⟩;rw[Y42,Y0s];have e1:p*(m*bot*sc)=bot*sc*p*m:=by ac_rfl
  have e2:p*(top*sc)=top*sc*p:=by ac_rfl
  lia
theorem ZgC {top bot p sc t:Int}(hb:0<bot)(hs:0<sc)(hp:p<0):bot*sc * -p∣top*sc * -p+p*t↔∃ m:Int,t=(top+m*bot)*sc:=by
 obtain⟨k,rfl⟩:∃ k,p=-k:=⟨-p,by lia⟩;rw[Int.neg_neg];constructor
 ·rintro ⟨m,hm⟩;refine⟨-m,?_⟩;have e:k*t=k*((top + -m*bot)*sc):=by
   have h1:-k*t=-(k*t):=(by rw[Y3b]);have:k*t=top*sc*k-bot*sc*k*m:=(by lia);rw[this,Y2j,Y17,Y3b,Y3b,Y2y,<-Int.sub_eq_add_neg];congr 1<;>ac_rfl
  exact Y2c (by lia) e
 ·rintro ⟨m,rfl⟩;refine⟨-m,?_⟩;rw[Y2j,Y17,Y3b,Y3b,Y2y];have e1:k*(m*bot*sc)=bot*sc*k*m:=by ac_rfl
  have e2:k*(top*sc)=top*sc*k:=by ac_rfl
  lia
theorem Z8C {top bot p sc mp t:Int}(hb:0<bot)(hs:0<sc)(h0:0<=top)(h1:top<bot)(hm:mp=if p=0 then 1 else (p.natAbs:Int)):bot*sc*mp∣top*sc*mp+p*t↔(0<p/\∃ m:Int,t=(m*bot-top)*sc)\/(p<0/\∃ m:Int,t=(top+m*bot)*sc)\/(p=0/\top=0):=by
 rcases Y4g p 0 with g|g|g
 ·rw[if_neg (by lia),show ((p.natAbs:Nat):Int)=-p by lia]at hm;rw[hm,ZgC hb hs g];exact⟨fun h=>.inr (.inl ⟨g,h⟩),fun h=>by rcases h with ⟨q,_⟩|⟨_,h⟩|⟨q,_⟩<;>first|exact h|lia⟩
 ·rw[if_pos g]at hm;subst g;rw[hm,Y33,Y33,Y43,Y5f];constructor
  ·intro h;refine .inr (.inr ⟨rfl,?_⟩);have:=Int.dvd_of_mul_dvd_mul_right (show sc≠0 by lia) h;rcases Y1c 0 top with q|q
   ·have:=Int.le_of_dvd q this;lia
   ·lia
  ·rintro (⟨q,_⟩|⟨q,_⟩|⟨_,q⟩)
   ·lia
   ·lia
   ·rw[q,Y43];exact Y5c _
 ·rw[if_neg (by lia),show ((p.natAbs:Nat):Int)=p by lia]at hm;rw[hm,Zhx hb hs g];exact⟨fun h=>.inl ⟨g,h⟩,fun h=>by rcases h with ⟨_,h⟩|⟨q,_⟩|⟨q,_⟩<;>first|exact h|lia⟩
theorem ZgF {top bot sc m:Int}(hb:0<bot)(hs:0<sc)(h0:0<=top)(h1:top<bot):0<(m*bot-top)*sc↔1<=m:=by
 have e:0<(m*bot-top)*sc↔0<m*bot-top:=by
  constructor
  ·intro h;rcases Y1c 0 (m*bot-top) with q|q
   ·exact q
   ·have:=Y45 q (show 0<=sc by lia);lia
  ·intro h;exact Y13 h hs
 rw[e];constructor
 ·intro h;rcases Y1c 0 m with q|q
  ·exact q
  ·have:=Y45 q (show 0<=bot by lia);lia
 ·intro h;have:=Y0t h (show 0<=bot by lia);rw[Y4y]at this;lia
theorem Zgc {top bot sc m:Int}(hb:0<bot)(hs:0<sc)(h0:0<=top)(h1:top<bot):0<=(top+m*bot)*sc↔0<=m:=by
 have e:0<=(top+m*bot)*sc↔0<=top+m*bot:=by
  constructor
  ·intro h;rcases Y1c (top+m*bot) 0 with q|q
   ·have:=Y5h q hs;lia
   ·exact q
  ·intro h;exact Y1l h (by lia)
 rw[e];constructor
 ·intro h;rcases Y1c m 0 with q|q
  ·have:=Y0t (show m<=-1 by lia) (show 0<=bot by lia);rw[Y3b,Y4y]at this;lia
  ·exact q
 ·intro h;have:=Y1l h (show 0<=bot by lia);lia
def WsE (top bot p sc:Int)(t:Int):Prop:=(0<p/\∃ m:Int,t=(m*bot-top)*sc)\/(p<0/\∃ m:Int,t=(top+m*bot)*sc)\/(p=0/\top=0)
noncomputable abbrev m1 (p:Int):Int:=if p=0 then 1 else (p.natAbs:Int)
theorem Zif {xt xb yt yb p q T:Int}{s:Nat}{E:List Sq.Ev}(hxb:0<xb)(hyb:0<yb)(x0:0<=xt)(x1:xt<xb)(y0:0<=yt)(y1:yt<yb)(pw:E.Pairwise ltE)
  (hE:∀ e,e∈E↔LnE xt xb p (yb*m1 q) T 114 108 e\/LnE yt yb q (xb*m1 p) T 117 100 e\/(e.2=(1,99)/\0<=e.1/\e.1<=T/\WsE xt xb p (yb*m1 q) e.1/\WsE yt yb q (xb*m1 p) e.1)) :
  Lst p q (xb*(yb*m1 q)*m1 p) ⟨s,xt*(yb*m1 q)*m1 p,yt*(xb*m1 p)*m1 q⟩ T E:=by
 refine⟨pw,fun e=>?_⟩;have mp0:∀ p:Int,0<m1 p:=fun p=>by unfold m1;split<;>lia
 have sx:0<yb*m1 q:=Y13 hyb (mp0 q);have sy:0<xb*m1 p:=Y13 hxb (mp0 p);have eU:xb*(yb*m1 q)*m1 p=yb*(xb*m1 p)*m1 q:=by ac_rfl
 have dx:=fun t=>Z8C (t:=t) (p:=p) hxb sx x0 x1 rfl;have dy:=fun t=>Z8C (t:=t) (p:=q) hyb sy y0 y1 rfl;rw[hE];unfold PE;dsimp only;obtain⟨t,k⟩:=e;have Dx:=dx t;have Dy:=dy t;rw[<-eU]at Dy;have Ux:(xb*(yb*m1 q)*m1 p∣xt*(yb*m1 q)*m1 p+p*t)↔WsE xt xb p (yb*m1 q) t:=Dx;have Uy:(xb*(yb*m1 q)*m1 p∣yt*(xb*m1 p)*m1 q+q*t)↔WsE yt yb q (xb*m1 p) t:=Dy;dsimp only;rw[Ux,Uy];have L1:∀ {top bot v sc:Int} {c0 c1:Nat},0<bot->0<sc->0<=top->top<bot->(LnE top bot v sc T c0 c1 (t,k)↔(k=(0,c0)/\0<v/\0<t/\t<=T/\WsE top bot v sc t)\/(k=(2,c1)/\v<0/\0<=t/\t<T/\WsE top bot v sc t)):=fun {top bot v sc c0 c1} hb hs h0 h1=>by
  unfold LnE WsE;constructor
  ·rintro (⟨g,m,hm,e,hT⟩|⟨g,m,hm,e,hT⟩)
   ·injection e with e1 e2
    exact .inl ⟨e2,g,by rw[e1];exact (ZgF hb hs h0 h1).mpr hm,hT,.inl ⟨g,m,e1⟩⟩
   ·injection e with e1 e2
    exact .inr ⟨e2,g,by rw[e1];exact (Zgc hb hs h0 h1).mpr hm,hT,.inr (.inl ⟨g,m,e1⟩)⟩
  ·rintro (⟨e2,g,ht,hT,(⟨_,m,e⟩|⟨z,_⟩|⟨z,_⟩)⟩|⟨e2,g,ht,hT,(⟨z,_⟩|⟨_,m,e⟩|⟨z,_⟩)⟩)
   ·exact .inl ⟨g,m,by rw[e]at ht;exact (ZgF hb hs h0 h1).mp ht,by rw[e2,e],hT⟩
   ·lia
   ·lia
   ·lia
   ·exact .inr ⟨g,m,by rw[e]at ht;exact (Zgc hb hs h0 h1).mp ht,by rw[e2,e],hT⟩
   ·lia
 rw[L1 hxb sx x0 x1,L1 hyb sy y0 y1];constructor
 ·rintro ((h|h)|(h|h)|h)
  ·exact .inl h
  ·exact .inr (.inr (.inl h))
  ·exact .inr (.inl h)
  ·exact .inr (.inr (.inr (.inl h)))
  ·exact .inr (.inr (.inr (.inr h)))
 ·rintro (h|h|h|h|h)
  ·exact .inl (.inl h)
  ·exact .inr (.inl (.inl h))
  ·exact .inl (.inr h)
  ·exact .inr (.inl (.inr h))
  ·exact .inr (.inr h)
end Sq
namespace K1
open PySem L2 Sq
theorem U7 (p:Int):mx1 p=m1 p:=by
 unfold mx1 m1;split<;>omega
theorem ZfM {tx bx ty by_ p q T:Int}{n sq:Nat}{L:List Sq.Ev}(pbx:0<bx)(pby:0<by_)(hc:0<dv tx bx*dv ty by_)(o:WOk p q (U6 tx bx ty by_ p q))(h:SIn n p q (U6 tx bx ty by_ p q) (A6 tx bx ty by_ p q sq))(hL:Lst p q (U6 tx bx ty by_ p q) (A6 tx bx ty by_ p q sq) (T*U6 tx bx ty by_ p q) L) :
  Lst p q (bx*(by_*m1 q)*m1 p) ⟨sq,tx*(by_*m1 q)*m1 p,ty*(bx*m1 p)*m1 q⟩ (T*(bx*(by_*m1 q)*m1 p)) (L.map (scE (dv tx bx*dv ty by_))):=by
 have z:=ZhN hc o h hL;have px:=YD (t:=tx) (show bx≠0 by omega);have py:=YD (t:=ty) (show by_≠0 by omega);have e1:=XA tx bx;have e2:=XA ty by_;have e3:=WV tx bx;have e4:=WV ty by_;have eX:uX (Z1 tx bx) (Z8 tx bx) (Z8 ty by_) p q=Z1 tx bx*(Z8 ty by_*m1 p*m1 q):=by
  unfold uX unU;rw[U7,U7,show Z8 tx bx*Z8 ty by_*m1 p*m1 q=Z8 tx bx*(Z8 ty by_*m1 p*m1 q) by ac_rfl,Y0m _ (by omega)]
 have eY:uY (Z1 ty by_) (Z8 tx bx) (Z8 ty by_) p q=Z1 ty by_*(Z8 tx bx*m1 p*m1 q):=by
  unfold uY unU;rw[U7,U7,show Z8 tx bx*Z8 ty by_*m1 p*m1 q=Z8 ty by_*(Z8 tx bx*m1 p*m1 q) by ac_rfl,Y0m _ (by omega)]
 have eU:U6 tx bx ty by_ p q=Z8 tx bx*Z8 ty by_*m1 p*m1 q:=by unfold U6 unU;rw[U7,U7]
 have z2:Lst p q (dv tx bx*dv ty by_*(Z8 tx bx*Z8 ty by_*m1 p*m1 q)) ⟨sq,dv tx bx*dv ty by_*(Z1 tx bx*(Z8 ty by_*m1 p*m1 q)),dv tx bx*dv ty by_*(Z1 ty by_*(Z8 tx bx*m1 p*m1 q))⟩ (dv tx bx*dv ty by_*(T*(Z8 tx bx*Z8 ty by_*m1 p*m1 q))) (L.map (scE (dv tx bx*dv ty by_))):=by
  have z1:=z;unfold A6 at z1;rw[eX,eY,eU]at z1;exact z1
 clear z eX eY eU hL h o;revert z2;generalize dv tx bx=d1 at *;generalize dv ty by_=d2 at *;generalize Z8 tx bx=b1 at *;generalize Z8 ty by_=b2 at *;generalize Z1 tx bx=t1 at *;generalize Z1 ty by_=t2 at *;intro z2;rw[<-e1,<-e2,<-e3,<-e4];rw[show b1*d1*(b2*d2*m1 q)*m1 p=d1*d2*(b1*b2*m1 p*m1 q) by ac_rfl,show t1*d1*(b2*d2*m1 q)*m1 p=d1*d2*(t1*(b2*m1 p*m1 q)) by ac_rfl,show t2*d2*(b1*d1*m1 p)*m1 q=d1*d2*(t2*(b1*m1 p*m1 q)) by ac_rfl,show T*(d1*d2*(b1*b2*m1 p*m1 q))=d1*d2*(T*(b1*b2*m1 p*m1 q)) by ac_rfl];exact z2
end K1
namespace Sq
noncomputable def exv (p q fr F:Int)(i:Nat):Ev:=((fr+F*(i:Int))*(F*m1 q),if 0<p then 0 else 2,if 0<p then 114 else 108)
noncomputable def eyv (p q hi F:Int)(j:Nat):Ev:=((hi+F*(j:Int))*(F*m1 p),if 0<q then 0 else 2,if 0<q then 117 else 100)
def goX (p q fr hi F:Int)(i j:Nat):Prop:=q=0\/(p≠0/\(fr+F*(i:Int))*(q.natAbs:Int)<(hi+F*(j:Int))*(p.natAbs:Int))
instance (p q fr hi F:Int) (i j:Nat):Decidable (goX p q fr hi F i j):=by unfold goX;exact inferInstance
noncomputable def pev (p q fr hi F:Int):Nat->Nat×Nat×List Ev
 | 0=>(0,0,[])
 | k+1=>if goX p q fr hi F (pev p q fr hi F k).1 (pev p q fr hi F k).2.1 then ((pev p q fr hi F k).1+1,(pev p q fr hi F k).2.1,(pev p q fr hi F k).2.2++[exv p q fr F (pev p q fr hi F k).1]) else ((pev p q fr hi F k).1,(pev p q fr hi F k).2.1+1,(pev p q fr hi F k).2.2++[eyv p q hi F (pev p q fr hi F k).2.1])
structure PI (p q fr hi F:Int)(k i j:Nat)(E:List Ev):Prop where
 s:i+j=k
 li:i<=p.natAbs
 lj:j<=q.natAbs
 w:E.Pairwise fun a b=>a.1<b.1
 l:∀ e∈E,(i<p.natAbs->e.1<(exv p q fr F i).1)/\(j<q.natAbs->e.1<(eyv p q hi F j).1)
 m:∀ e,e∈E↔(∃ i',i'<i/\e=exv p q fr F i')\/(∃ j',j'<j/\e=eyv p q hi F j')
theorem Sw (p:Int):0<m1 p:=by unfold m1;split<;>lia
theorem WJ {p:Int}(h:p≠0):m1 p=(p.natAbs:Int):=by unfold m1;rw[if_neg h]
theorem ZdR {p q fr F:Int}(hF:0<F){i i':Nat}(h:i<i'):(exv p q fr F i).1<(exv p q fr F i').1:=by
 show (fr+F*(i:Int))*(F*m1 q)<(fr+F*(i':Int))*(F*m1 q);refine Y1b ?_ (Y13 hF (Sw q));have:=Y1d (show (i:Int)<(i':Int) by lia) hF;lia
theorem Zei {p q hi F:Int}(hF:0<F){j j':Nat}(h:j<j'):(eyv p q hi F j).1<(eyv p q hi F j').1:=by
 show (hi+F*(j:Int))*(F*m1 p)<(hi+F*(j':Int))*(F*m1 p);refine Y1b ?_ (Y13 hF (Sw p));have:=Y1d (show (j:Int)<(j':Int) by lia) hF;lia
theorem RM {F a:Int}{i N:Nat}(hF:0<F)(a1:a<F)(h:i<N):a+F*(i:Int)<F*(N:Int):=by
 have:F*((i:Int)+1)<=F*(N:Int):=Y10 (by lia) (by lia);rw[Y17,Y33]at this;lia
section
variable {p q fr hi F:Int}
theorem ZcZ (hF:0<F)(f0:0<fr)(f1:fr<F)(h0:0<hi)(h1:hi<F)(hne:¬ (p=0/\q=0))(nt:p≠0->q≠0->∀ i j:Nat,(fr+F*(i:Int))*(q.natAbs:Int)≠(hi+F*(j:Int))*(p.natAbs:Int)){k i j:Nat}{E:List Ev}(hk:k<p.natAbs+q.natAbs)(h:PI p q fr hi F k i j E) :
  (goX p q fr hi F i j->PI p q fr hi F (k+1) (i+1) j (E++[exv p q fr F i]))/\(¬ goX p q fr hi F i j->PI p q fr hi F (k+1) i (j+1) (E++[eyv p q hi F j])):=by
 obtain⟨hs,hi',hj',hw,hl,hm⟩:=h;constructor
 ·intro g;have lt:i<p.natAbs:=by
   rcases g with g|⟨g1,g2⟩
   ·subst g;simp at hj' hk ⊢;lia
   ·rcases Y0q i p.natAbs with c|c
    ·exact c
    ·exfalso
     have ei:i=p.natAbs:=(by lia);have jq:j<q.natAbs:=(by lia);have b1:=RM (a:=hi) (i:=j) (N:=q.natAbs) hF h1 jq;have b2:=Y0t (Y5b b1) (show 0<=(p.natAbs:Int) by lia);have b3:F*(p.natAbs:Int)*(q.natAbs:Int)<=(fr+F*(i:Int))*(q.natAbs:Int):=Y0t (by rw[ei];lia) (by lia);have b4:F*(q.natAbs:Int)*(p.natAbs:Int)=F*(p.natAbs:Int)*(q.natAbs:Int):=(by ac_rfl);lia
  have cross:j<q.natAbs->(exv p q fr F i).1<(eyv p q hi F j).1:=fun hj=>by
   rcases g with g|⟨g1,g2⟩
   ·subst g;simp at hj
   ·show (fr+F*(i:Int))*(F*m1 q)<(hi+F*(j:Int))*(F*m1 p);rw[WJ (show q≠0 by lia),WJ g1,Y19,Y19 (hi+F*(j:Int))];exact Y1d g2 hF
  refine⟨by lia,by lia,hj',?_,fun e he=>?_,fun e=>?_⟩
  ·refine Y2k.mpr ⟨hw,by simp,fun a ha b hb=>?_⟩;rw[Y0k.mp hb];exact (hl a ha).1 lt
  ·rcases Y0n.mp he with h|h
   ·exact⟨fun _=>Int.lt_trans ((hl e h).1 lt) (ZdR hF (by lia)),(hl e h).2⟩
   ·rw[Y0k.mp h];exact⟨fun _=>ZdR hF (by lia),cross⟩
  ·rw[Y0n,hm,Y0k];constructor
   ·rintro ((⟨i',a,b⟩|⟨j',a,b⟩)|rfl)
    ·exact .inl ⟨i',by lia,b⟩
    ·exact .inr ⟨j',a,b⟩
    ·exact .inl ⟨i,by lia,rfl⟩
   ·rintro (⟨i',a,b⟩|⟨j',a,b⟩)
    ·by_cases c:i'=i
     ·subst c;exact .inr b
     ·exact .inl (.inl ⟨i',by lia,b⟩)
    ·exact .inl (.inr ⟨j',a,b⟩)
 ·intro g;have qn:q≠0:=fun e=>g (.inl e);have gn:p≠0->(hi+F*(j:Int))*(p.natAbs:Int)<=(fr+F*(i:Int))*(q.natAbs:Int):=fun e=>by
   rcases Y1c ((fr+F*(i:Int))*(q.natAbs:Int)) ((hi+F*(j:Int))*(p.natAbs:Int)) with c|c
   ·exact absurd (.inr ⟨e,c⟩) g
   ·exact c
  have lt:j<q.natAbs:=by
   rcases Y0q j q.natAbs with c|c
   ·exact c
   ·exfalso
    have ej:j=q.natAbs:=(by lia);have ip:i<p.natAbs:=(by lia);have g2:=gn (by lia);have b1:=RM (a:=fr) (i:=i) (N:=p.natAbs) hF f1 ip;have b2:=Y1b b1 (show 0<(q.natAbs:Int) by lia);have b3:F*(q.natAbs:Int)*(p.natAbs:Int)<=(hi+F*(j:Int))*(p.natAbs:Int):=Y0t (by rw[ej];lia) (by lia);have b4:F*(q.natAbs:Int)*(p.natAbs:Int)=F*(p.natAbs:Int)*(q.natAbs:Int):=(by ac_rfl);lia
  have cross:i<p.natAbs->(eyv p q hi F j).1<(exv p q fr F i).1:=fun hi2=>by
   have pn:p≠0:=(by lia);have g2:=gn pn;have g3:=nt pn qn i j;show (hi+F*(j:Int))*(F*m1 p)<(fr+F*(i:Int))*(F*m1 q);rw[WJ qn,WJ pn,Y19,Y19 (fr+F*(i:Int))];exact Y1d (by omega) hF
  refine⟨by lia,hi',by lia,?_,fun e he=>?_,fun e=>?_⟩
  ·refine Y2k.mpr ⟨hw,by simp,fun a ha b hb=>?_⟩;rw[Y0k.mp hb];exact (hl a ha).2 lt
  ·rcases Y0n.mp he with h|h
   ·exact⟨(hl e h).1,fun _=>Int.lt_trans ((hl e h).2 lt) (Zei hF (by lia))⟩
   ·rw[Y0k.mp h];exact⟨cross,fun _=>Zei hF (by lia)⟩
  ·rw[Y0n,hm,Y0k];constructor
   ·rintro ((⟨i',a,b⟩|⟨j',a,b⟩)|rfl)
    ·exact .inl ⟨i',a,b⟩
    ·exact .inr ⟨j',by lia,b⟩
    ·exact .inr ⟨j,by lia,rfl⟩
   ·rintro (⟨i',a,b⟩|⟨j',a,b⟩)
    ·exact .inl (.inl ⟨i',a,b⟩)
    ·by_cases c:j'=j
     ·subst c;exact .inr b
     ·exact .inl (.inr ⟨j',by lia,b⟩)
theorem ZbQ (hF:0<F)(f0:0<fr)(f1:fr<F)(h0:0<hi)(h1:hi<F)(hne:¬ (p=0/\q=0))(nt:p≠0->q≠0->∀ i j:Nat,(fr+F*(i:Int))*(q.natAbs:Int)≠(hi+F*(j:Int))*(p.natAbs:Int)):∀ k,k<=p.natAbs+q.natAbs->PI p q fr hi F k (pev p q fr hi F k).1 (pev p q fr hi F k).2.1 (pev p q fr hi F k).2.2
 | 0,_=>⟨rfl,Y12 _,Y12 _,List.Pairwise.nil,fun e he=>(Y3h he).elim,fun e=>⟨fun h=>(Y3h h).elim,fun h=>by rcases h with ⟨i,a,_⟩|⟨i,a,_⟩<;>exact absurd a (Y1y _)⟩⟩
 | k+1,hk=>by
  have ih:=ZbQ hF f0 f1 h0 h1 hne nt k (by lia);have st:=ZcZ hF f0 f1 h0 h1 hne nt (show k<p.natAbs+q.natAbs by lia) ih;unfold pev
  by_cases g:goX p q fr hi F (pev p q fr hi F k).1 (pev p q fr hi F k).2.1
  ·rw[if_pos g];exact st.1 g
  ·rw[if_neg g];exact st.2 g
end
noncomputable def Zv (p F x:Int):Int:=if 0<p then F-x else x
theorem Zeg {p x F sc:Int}{c0 c1:Nat}(hF:0<F)(x0:0<x)(x1:x<F)(hs:0<sc)(e:Ev):LnE x F p sc (F*(p.natAbs:Int)*sc) c0 c1 e↔∃ i:Nat,i<p.natAbs/\e=((Zv p F x+F*(i:Int))*sc,if 0<p then 0 else 2,if 0<p then c0 else c1):=by
 have cmp:∀ a b:Int,a*sc<=b*sc↔a<=b:=fun a b=>⟨fun h=>Int.le_of_mul_le_mul_right h hs,fun h=>Y0t h (by lia)⟩;have cmp2:∀ a b:Int,a*sc<b*sc↔a<b:=fun a b=>⟨fun h=>Int.lt_of_mul_lt_mul_right h (by lia),fun h=>Y1b h hs⟩;unfold LnE Zv;constructor
 ·rintro (⟨hp,m,hm,rfl,hT⟩|⟨hp,m,hm,rfl,hT⟩)
  ·have hT:(m*F-x)*sc<=F*(p.natAbs:Int)*sc:=hT;rw[cmp]at hT;have hmp:m<=(p.natAbs:Int):=by
    rcases Y1c (p.natAbs:Int) m with c|c
    ·have:=Y0t (show (p.natAbs:Int)+1<=m by lia) (show 0<=F by lia);rw[Y2j,Y4y,Y0d]at this;lia
    ·exact c
   refine⟨(m-1).toNat,by lia,?_⟩;rw[if_pos hp,if_pos hp,if_pos hp];have e1:((m-1).toNat:Int)=m-1:=(by lia);rw[e1,Y0s,Y33,Y0d F m];congr 2;lia
  ·have hT:(x+m*F)*sc<F*(p.natAbs:Int)*sc:=hT;rw[cmp2]at hT;have hmp:m<(p.natAbs:Int):=by
    rcases Y1c m (p.natAbs:Int) with c|c
    ·exact c
    ·have:=Y0t c (show 0<=F by lia);rw[Y0d]at this;lia
   refine⟨m.toNat,by lia,?_⟩;rw[if_neg (by lia),if_neg (by lia),if_neg (by lia)];have e1:(m.toNat:Int)=m:=(by lia);rw[e1,Y0d F m]
 ·rintro ⟨i,hi,rfl⟩
  by_cases hp:0<p
  ·refine .inl ⟨hp,(i:Int)+1,by lia,?_,?_⟩
   ·rw[if_pos hp,if_pos hp,if_pos hp];congr 2;rw[Y2j,Y4y,Y0d];lia
   ·rw[if_pos hp,cmp];have:=RM (a:=F-x) (i:=i) (N:=p.natAbs) hF (by lia) hi;lia
  ·refine .inr ⟨by lia,(i:Int),by lia,?_,?_⟩
   ·rw[if_neg hp,if_neg hp,if_neg hp,Y0d F]
   ·rw[if_neg hp,cmp2];exact RM (a:=x) (i:=i) (N:=p.natAbs) hF x1 hi
end Sq
namespace Sq
def NoC (p q x y F:Int):Prop:=¬ F∣q*x-p*y
theorem ZbO {p q x y F:Int}{i j:Int}(hp:p≠0)(hq:q≠0)(h:(Zv p F x+F*i)*(q.natAbs:Int)=(Zv q F y+F*j)*(p.natAbs:Int)):F∣q*x-p*y:=by
 unfold Zv at h;rcases Y49 hp with a|a<;>rcases Y49 hq with b|b
 ·rw[if_neg (by lia),if_neg (by lia),show ((q.natAbs:Nat):Int)=-q by lia,show ((p.natAbs:Nat):Int)=-p by lia]at h;refine⟨p*j-q*i,?_⟩;have e1:(x+F*i) * -q=-(q*x)-F*(q*i):=by rw[Y2y,Y2j,Y0d x q,Y0f,Y0d i q];lia
  have e2:(y+F*j) * -p=-(p*y)-F*(p*j):=by rw[Y2y,Y2j,Y0d y p,Y0f,Y0d j p];lia
  rw[Y0s];lia
 ·rw[if_neg (by lia),if_pos b,show ((q.natAbs:Nat):Int)=q by lia,show ((p.natAbs:Nat):Int)=-p by lia]at h;refine⟨-p-p*j-q*i,?_⟩;have e1:(x+F*i)*q=q*x+F*(q*i):=by rw[Y2j,Y0d x q,Y0f,Y0d i q]
  have e2:(F-y+F*j) * -p=F*(-p)+p*y-F*(p*j):=by rw[Y2y,Y2j,Y42,Y0d y p,Y0f,Y0d j p,Y2y];lia
  rw[Y0s,Y0s];lia
 ·rw[if_pos a,if_neg (by lia),show ((q.natAbs:Nat):Int)=-q by lia,show ((p.natAbs:Nat):Int)=p by lia]at h;refine⟨q+p*j+q*i,?_⟩;have e1:(F-x+F*i) * -q=-(F*q)+q*x-F*(q*i):=by rw[Y2y,Y2j,Y42,Y0d x q,Y0f,Y0d i q];lia
  have e2:(y+F*j)*p=p*y+F*(p*j):=by rw[Y2j,Y0d y p,Y0f,Y0d j p]
  rw[Y17,Y17];lia
 ·rw[if_pos a,if_pos b,show ((q.natAbs:Nat):Int)=q by lia,show ((p.natAbs:Nat):Int)=p by lia]at h;refine⟨q+q*i-p-p*j,?_⟩;have e1:(F-x+F*i)*q=F*q-q*x+F*(q*i):=by rw[Y2j,Y42,Y0d x q,Y0f,Y0d i q]
  have e2:(F-y+F*j)*p=F*p-p*y+F*(p*j):=by rw[Y2j,Y42,Y0d y p,Y0f,Y0d j p]
  rw[Y0s,Y0s,Y17];lia
section
variable {p q x y F:Int}
theorem ZdX {sc t:Int}(hp:p≠0)(h:WsE x F p sc t):∃ m:Int,t=(Zv p F x+F*m)*sc:=by
 unfold Zv;rcases h with ⟨a,m,rfl⟩|⟨a,m,rfl⟩|⟨a,_⟩
 ·refine⟨m-1,?_⟩;rw[if_pos a,Y0s,Y33,Y0d F m];congr 1;lia
 ·refine⟨m,?_⟩;rw[if_neg (by lia),Y0d F m]
 ·exact absurd a hp
theorem Zd0 (hF:0<F)(x0:0<x)(y0:0<y)(nc:NoC p q x y F)(t:Int):¬ (WsE x F p (F*m1 q) t/\WsE y F q (F*m1 p) t):=by
 rintro ⟨h1,h2⟩;have hp:p≠0:=fun e=>by
  rcases h1 with ⟨a,_⟩|⟨a,_⟩|⟨_,a⟩<;>lia
 have hq:q≠0:=fun e=>by
  rcases h2 with ⟨a,_⟩|⟨a,_⟩|⟨_,a⟩<;>lia
 obtain⟨m,e1⟩:=ZdX hp h1;obtain⟨m',e2⟩:=ZdX hq h2;rw[WJ hq]at e1;rw[WJ hp]at e2;refine nc (ZbO (i:=m) (j:=m') hp hq ?_);have:F*((Zv p F x+F*m)*(q.natAbs:Int))=F*((Zv q F y+F*m')*(p.natAbs:Int)):=by
  rw[Y19,Y19 F,<-e1,<-e2]
 exact Y2c (by lia) this
theorem ZcV (hF:0<F)(x0:0<x)(x1:x<F)(y0:0<y)(y1:y<F)(hne:¬ (p=0/\q=0))(nc:NoC p q x y F)(s:Nat) :
  Lst p q (F*(F*m1 q)*m1 p) ⟨s,x*(F*m1 q)*m1 p,y*(F*m1 p)*m1 q⟩ (1*(F*(F*m1 q)*m1 p)) (pev p q (Zv p F x) (Zv q F y) F (p.natAbs+q.natAbs)).2.2:=by
 have fb:∀ {p x:Int},0<x->x<F->0<Zv p F x/\Zv p F x<F:=fun {p x} h0 h1=>by unfold Zv;split<;>lia
 have nt:p≠0->q≠0->∀ i j:Nat,(Zv p F x+F*(i:Int))*(q.natAbs:Int)≠(Zv q F y+F*(j:Int))*(p.natAbs:Int):=fun hp hq i j e=>nc (ZbO hp hq e);have I:=ZbQ hF (fb (p:=p) x0 x1).1 (fb (p:=p) x0 x1).2 (fb (p:=q) y0 y1).1 (fb (p:=q) y0 y1).2 hne nt (p.natAbs+q.natAbs) (Y05 _);have ei:(pev p q (Zv p F x) (Zv q F y) F (p.natAbs+q.natAbs)).1=p.natAbs:=by have:=I.s;have:=I.li;have:=I.lj;lia
 have ej:(pev p q (Zv p F x) (Zv q F y) F (p.natAbs+q.natAbs)).2.1=q.natAbs:=by have:=I.s;have:=I.li;have:=I.lj;lia
 have Im:=I.m;rw[ei,ej]at Im;refine Zif hF hF (by lia) x1 (by lia) y1 (I.w.imp fun {a b} h=>.inl h) fun e=>?_;rw[Im];have mq:=Sw q;have mp:=Sw p;have lx:LnE x F p (F*m1 q) (1*(F*(F*m1 q)*m1 p)) 114 108 e↔∃ i,i<p.natAbs/\e=exv p q (Zv p F x) F i:=by
  by_cases hp:p=0
  ·subst hp;constructor
   ·rintro (⟨a,_⟩|⟨a,_⟩)<;>lia
   ·rintro ⟨i,a,_⟩;simp at a
  ·rw[show 1*(F*(F*m1 q)*m1 p)=F*(p.natAbs:Int)*(F*m1 q) by rw[WJ hp];ac_rfl];exact Zeg hF x0 x1 (Y13 hF mq) e
 have ly:LnE y F q (F*m1 p) (1*(F*(F*m1 q)*m1 p)) 117 100 e↔∃ j,j<q.natAbs/\e=eyv p q (Zv q F y) F j:=by
  by_cases hq:q=0
  ·subst hq;constructor
   ·rintro (⟨a,_⟩|⟨a,_⟩)<;>lia
   ·rintro ⟨i,a,_⟩;simp at a
  ·rw[show 1*(F*(F*m1 q)*m1 p)=F*(q.natAbs:Int)*(F*m1 p) by rw[WJ hq];ac_rfl];exact Zeg hF y0 y1 (Y13 hF mp) e
 rw[lx,ly];constructor
 ·rintro (h|h)
  ·exact .inl h
  ·exact .inr (.inl h)
 ·rintro (h|h|⟨_,_,_,h1,h2⟩)
  ·exact .inl h
  ·exact .inr h
  ·exact absurd ⟨h1,h2⟩ (Zd0 hF x0 y0 nc _)
noncomputable def goL (r u:List Nat)(w:List Nat)(s:Nat):Nat:=w.foldl (mvE r u) s
theorem Z89 {r u G:List Nat}:∀ (L:List Ev) (s:Nat),(∀ e∈L,e.2.1≠1)->Y9 r u G L s=.there (goL r u (L.map fun e=>e.2.2) s)
 | [],s,_=>rfl
 | e::L,s,h=>by
  show (if e.2.1=1 then _ else Y9 r u G L (mvE r u s e.2.2))=_;rw[if_neg (h e (by simp)),Z89 L _ fun f hf=>h f (by simp[hf])]
  rfl
theorem Z6f {fr hi:Int}:∀ k,∀ e∈(pev p q fr hi F k).2.2,e.2.1≠1
 | 0,e,h=>(Y3h h).elim
 | k+1,e,h=>by
  unfold pev at h
  split at h
  ·rcases Y0n.mp h with h|h
   ·exact Z6f k e h
   ·rw[Y0k.mp h];unfold exv;dsimp only;split<;>decide
  ·rcases Y0n.mp h with h|h
   ·exact Z6f k e h
   ·rw[Y0k.mp h];unfold eyv;dsimp only;split<;>decide
end
theorem Z9M {r u G:List Nat}{U:Int}{a b:Spt}(hU:0<U)(x0:0<=a.x)(x1:a.x<U)(y0:0<=a.y)(y1:a.y<U)(h:Run r u G 1 0 U a U b):b=⟨nx r a.s,a.x,a.y⟩:=by
 obtain⟨s,x,y⟩:=a;dsimp only at *;have o1:∀ z:Int,ou 1 U z=z:=fun z=>by unfold ou;rw[if_neg (by lia)]
 have o0:∀ z:Int,ou 0 U z=z:=fun z=>by unfold ou;rw[if_neg (by lia)]
 have s1:∀ z:Int,sid U z 1=U-z:=fun z=>by unfold sid;rw[if_pos (by decide),Int.ediv_one]
 have s0:∀ z:Int,sid U z 0=U:=fun z=>by unfold sid;rw[if_neg (by decide),if_neg (by decide)]
 have rmv:∀ (s:Nat) (x y m:Int),0<=x->rm 1 0 U m ⟨s,x,y⟩=min (U-x) m:=fun s x y m h=>by
  unfold rm;dsimp only;rw[o1,o0,s1,s0];lia
 have onev:∀ (s:Nat) (x y m:Int),0<=x->0<=y->y<U->one r u 1 0 U m ⟨s,x,y⟩=⟨if x+min (U-x) m=U then nx r s else s,z0 U (x+min (U-x) m),y⟩:=fun s x y m h hy hy1=>by
  rw[Ze4 (rmv s x y m h)];dsimp only;rw[o1,o0,Y4y,Y43,Y5f,Yt,Yt,Yt,Sx,SK,SB,SJ,if_neg (show ¬ ((1:Int)<0/\x=0) by lia),if_neg (show ¬ ((0:Int)<0/\y=0) by lia),if_neg (show ¬ y=U by lia)];have:z0 U y=y:=by unfold z0;rw[if_neg (by lia)]
  rw[this]
 cases h with
 | nil=>lia
 | cons _ _ _ _ _ h=>
  rw[onev s x y U x0 y0 y1,rmv s x y U x0]at h;have e1:min (U-x) U=U-x:=by lia
  rw[e1,show x+(U-x)=U by lia,if_pos rfl,show U-(U-x)=x by lia]at h;have e2:z0 U U=0:=by unfold z0;rw[if_pos rfl]
  rw[e2]at h
  by_cases c:x=0
  ·rw[Ut c h,c]
  ·cases h with
   | nil=>exact absurd rfl c
   | cons _ _ _ _ _ h=>
    rw[onev _ 0 y x (by lia) y0 y1,rmv _ 0 y x (by lia)]at h;have e3:min (U-0) x=x:=(by lia);rw[e3,Y44,if_neg (by lia)]at h;have e4:z0 U x=x:=(by unfold z0;rw[if_neg (by lia)]);rw[e4]at h;exact Ut (by lia) h
theorem ZaH {n:Nat}{w:List Nat}(hw:Row n w)(l:Nat):((Y02 n).map fun s=>(cyc n w s).length).count l=l*((Za n w).map Y2q).count l:=by
 have h1:((Y02 n).map fun s=>(cyc n w s).length).Perm ((Za n w).flatten.map fun s=>(cyc n w s).length):=(Z3t hw).symm.map _;rw[h1.count_eq];have key:∀ Ms:List (List Nat),(∀ M∈Ms,∀ s∈M,(cyc n w s).length=M.length)->(Ms.flatten.map fun s=>(cyc n w s).length).count l=l*(Ms.map Y2q).count l:=by
  intro Ms
  induction Ms with
  | nil=>intro _;rfl
  | cons M Ms ih=>
   intro h;rw[Y2f,Y1z,List.count_append,ih fun M' hM'=>h M' (Y0y _ hM'),Y11,List.count_cons];have e:M.map (fun s=>(cyc n w s).length)=Y0c M.length M.length:=by
    refine List.eq_replicate_iff.mpr ⟨by simp,fun b hb=>?_⟩;obtain⟨s,hs,rfl⟩:=Y0g.mp hb;exact h M (by simp) s hs
   rw[e,List.count_replicate]
   by_cases c:M.length=l
   ·rw[c];simp[Nat.mul_add];lia
   ·have:(M.length==l)=false:=by simpa using c
    rw[this];simp
 refine key _ fun M hM s hs=>?_;unfold Za at hM;obtain⟨x,hx,rfl⟩:=Y0g.mp hM;exact Z8U hw (Y06.mp (Y0p.mp hx).1) hs
theorem ZcE {n:Nat}{w w' f:List Nat}(hw:Row n w)(hw':Row n w')(hf:Row n f)(h:Lds n w w' f)(l:Nat):((Y02 n).map fun s=>(cyc n w s).length).count l=((Y02 n).map fun s=>(cyc n w' s).length).count l:=by
 have e:(Y02 n).map (fun s=>(cyc n w s).length)=f.map fun s=>(cyc n w' s).length:=by
  refine Y2u fun i=>?_;rw[Y0l,Y0l]
  by_cases c:i<n
  ·rw[Y2v c,hf.get c];show some (cyc n w i).length=some (cyc n w' (nx f i)).length;rw[ZfG hw hw' hf h c,Y07]
  ·rw[Y18 (by simp;lia),Y18 (by rw[hf.len];lia)];rfl
 rw[e];exact (hf.perm.map _).count_eq _
end Sq
namespace K1
open PySem L2 Sq
theorem Zec {n:Nat}{B:Int}:∀ (z:List Nat) (x:List Nat×List Nat) (i j:Int),W4 n x->∃ (f:List Nat) (i' j':Int),Row n f/\∀ s,s<n->pms n B z x (s,i,j)=(nx f s,i',j')
 | [],x,i,j,_=>⟨Y02 n,i,j,Row.of_perm (List.Perm.refl _),fun s hs=>by show (s,i,j)=_;rw[show nx (Y02 n) s=s by simp[nx,Y3g,hs]]⟩
 | c::z,x,i,j,hx=>by
  have one:∃ (f:List Nat) (i' j':Int),Row n f/\∀ s,s<n->pm1 B c x (s,i,j)=(nx f s,i',j'):=by
   unfold pm1;dsimp only
   by_cases e:c=115
   ·simp only[if_pos e]
    by_cases g:i+j<B
    ·simp only[if_pos g];exact⟨Y02 n,_,_,Row.of_perm (List.Perm.refl _),fun s hs=>by rw[show nx (Y02 n) s=s by simp[nx,Y3g,hs]]⟩
    ·simp only[if_neg g];exact⟨x.1,_,_,hx.1,fun s hs=>rfl⟩
   ·simp only[if_neg e]
    by_cases g:j=0
    ·simp only[if_pos g];exact⟨back x.2,_,_,hx.2.back,fun s hs=>rfl⟩
    ·simp only[if_neg g];exact⟨Y02 n,_,_,Row.of_perm (List.Perm.refl _),fun s hs=>by rw[show nx (Y02 n) s=s by simp[nx,Y3g,hs]]⟩
  obtain⟨f,i1,j1,hf,h1⟩:=one;obtain⟨g,i2,j2,hg,h2⟩:=Zec z (mv1 n c x) i1 j1 (Uc hx);refine⟨cmp n g f,i2,j2,Vl hg hf,fun s hs=>?_⟩;show pms n B z (mv1 n c x) (pm1 B c x (s,i,j))=_;rw[h1 s hs,h2 _ (hf.nlt hs),WM hs]
theorem Zdw {n:Nat}{U D:Int}:∀ (z:List Nat) (x:List Nat×List Nat) (a:Spt),W4 n x->D∣U->On n U D a->On n U D (sms n U z x a)
 | [],_,_,_,_,h=>h
 | c::z,x,a,hx,hD,h=>Zdw z (mv1 n c x) (sm1 U c x a) (Uc hx) hD (ZdF hx hD h)
theorem Z9f {n:Nat}{x:List Nat×List Nat}{z:List Nat}{p q i j B:Int}(hx:W4 n x)(hne:¬ (p=0/\q=0))(hz:dms z (p,q)=(1,0))(i0:0<=i)(i1:i<B)(j0:0<=j)(j1:j<B){π:Nat->Nat}(hπ:∀ s,s<n->π s<n)(hR:∀ s,s<n->Wv n x (p,q) (U6 i B j B p q) (A6 i B j B p q s) (1*U6 i B j B p q) (A6 i B j B p q (π s))) :
  ∃ f,Row n f/\∀ s,s<n->nx (mvs n z x).1 (nx f s)=nx f (π s):=by
 have B0:0<B:=by lia
 obtain⟨f,i',j',hf,hp⟩:=Zec (B:=B) z x i j hx;refine⟨f,hf,fun s hs=>?_⟩;obtain⟨D,D0,hD⟩:=Zek z (p,q) hne;have o:=RZ (i:=i) (j:=j) B0 hne;have a6:=ZfI (p:=p) (q:=q) hs i0 i1 j0 j1;have U0:=o.u;have sc1:∀ {c e:Int} {s:Nat},c*U6 i B j B p q=e*B->scS c (A6 i B j B p q s)=scS e (spt (s,i,j)):=fun {c e s} h=>Zj8 B0 hne h;have hRs:=hR s hs;generalize U6 i B j B p q=U at *;generalize A6 i B j B p q=A at *;have c0:0<B*D:=Y13 B0 D0;have e0:0<U*D:=Y13 U0 D0;have q1:B*D*U=U*D*B:=by ac_rfl
 have hDe:D∣U*D:=Y4o _ _;have hDU:D∣U*D*B:=Y1u hDe (Y1r _ _);have V0:0<U*D*B:=Y13 e0 B0;have onA:On n (U*D*B) D (scS (U*D) (spt (s,i,j))):=⟨hs,Y1l (by lia) i0,Y1d i1 e0,Y1l (by lia) j0,Y1d j1 e0,Y1u hDe (Y1r _ _),Y1u hDe (Y1r _ _)⟩;have R1:=Zhg hx.1 hx.2 c0 o hRs a6;rw[q1,show B*D*(1*U)=U*D*B by rw[Y4y];ac_rfl,sc1 q1,sc1 q1]at R1;have R2:=Z8S V0 hDU z x (p,q) _ _ _ hx hD onA (by lia) R1;rw[R9 e0,R9 e0,<-So,<-So,hp s hs,hp _ (hπ s hs),hz]at R2;have onZ:=Zdw z x _ hx hDU onA;rw[R9 e0,<-So,hp s hs]at onZ;have e:=Z9M V0 onZ.x0 onZ.x1 onZ.y0 onZ.y1 R2;exact (congrArg Spt.s e).symm
theorem Zcz {n s:Nat}{x:List Nat×List Nat}{p q i j B S:Int}(hx:W4 n x)(hne:¬ (p=0/\q=0))(i0:0<=i)(i1:i<B)(j0:0<=j)(j1:j<B)(nc:NoC p q i j B)(S0:0<=S)(hs:s<n):∃ s',s'<n/\Wv n x (p,q) (U6 i B j B p q) (A6 i B j B p q s) (S*U6 i B j B p q) (A6 i B j B p q s'):=by
 have B0:0<B:=by lia
 have o:=RZ (i:=i) (j:=j) B0 hne;obtain⟨ax0,ax1,ax2,_⟩:=Xt B0 i0 i1;obtain⟨ay0,ay1,ay2,_⟩:=Xt B0 j0 j1;have hU:=o.u;have hM:0<=S*U6 i B j B p q:=Y1l S0 (by lia);have in0:=U1 (p:=p) (q:=q) (M:=S*U6 i B j B p q) ax0 ax1 ay0 ay1 hM;have px:=YD (t:=i) (b:=B) (by lia);have py:=YD (t:=j) (b:=B) (by lia);have eX:uX (Z1 i B) (Z8 i B) (Z8 j B) p q*B=i*U6 i B j B p q:=by
  unfold uX;rw[V4 px];have c':=Wr (i:=i) (B:=B);have z:U6 i B j B p q=Z8 i B*(Z8 j B*mx1 p*mx1 q):=Si;rw[z,Y0f,Y0d _ B,<-Y0f,c',Y0f]
 have eY:uY (Z1 j B) (Z8 i B) (Z8 j B) p q*B=j*U6 i B j B p q:=by
  unfold uY;rw[V3 py];have c':=Wr (i:=j) (B:=B);have z:U6 i B j B p q=Z8 j B*(Z8 i B*mx1 p*mx1 q):=Sa;rw[z,Y0f,Y0d _ B,<-Y0f,c',Y0f]
 obtain⟨e,he⟩:=Zby o in0;obtain⟨g1,g2,_⟩:=Zi4 o in0 he.1 he.2;have o':WOk p q (U6 i B j B p q):=o;show ∃ s',s'<n/\Run x.1 x.2 (FF n x) p q (U6 i B j B p q) ⟨s,uX (Z1 i B) (Z8 i B) (Z8 j B) p q,uY (Z1 j B) (Z8 i B) (Z8 j B) p q⟩ (S*U6 i B j B p q) ⟨s',uX (Z1 i B) (Z8 i B) (Z8 j B) p q,uY (Z1 j B) (Z8 i B) (Z8 j B) p q⟩;generalize U6 i B j B p q=U at *;generalize uX (Z1 i B) (Z8 i B) (Z8 j B) p q=X at *;generalize uY (Z1 j B) (Z8 i B) (Z8 j B) p q=Y at *;have fr:∀ k,cr (FF n x) (Zi x.1 x.2 s (ws p q U (S*U) X Y k))=false:=fun k=>by
  cases h:cr (FF n x) (Zi x.1 x.2 s (ws p q U (S*U) X Y k)) with
  | false=>rfl
  | true=>
   exfalso
   obtain⟨h1,h2,_⟩:=Xw.mp h;have h1:(ws p q U (S*U) X Y k).x=0:=h1;have h2:(ws p q U (S*U) X Y k).y=0:=h2;have ex:=Tf p q U (S*U) X Y k;have ey:=S7 p q U (S*U) X Y k;rw[h1,Y44]at ex;rw[h2,Y44]at ey;generalize (ws p q U (S*U) X Y k).t=t at *;generalize c4 2 (ws p q U (S*U) X Y k).w-c4 0 (ws p q U (S*U) X Y k).w=k1 at *;generalize c4 3 (ws p q U (S*U) X Y k).w-c4 1 (ws p q U (S*U) X Y k).w=k2 at *;refine nc ⟨q*k1-p*k2,?_⟩;have z:U*(q*i-p*j)=U*(B*(q*k1-p*k2)):=by
    have e3:q*(X+p*t)-p*(Y+q*t)=q*X-p*Y:=by
     rw[Y17,Y17,Y19 p q t];lia
    have e4:q*X-p*Y=U*(q*k1-p*k2):=by
     rw[<-e3,<-ex,<-ey,Y0s,Y19 q U,Y19 p U]
    have e5:U*(q*i)=B*(q*X):=by
     have:U*(q*i)=q*(i*U):=(by ac_rfl);rw[this,<-eX];ac_rfl
    have e6:U*(p*j)=B*(p*Y):=by
     have:U*(p*j)=p*(j*U):=(by ac_rfl);rw[this,<-eY];ac_rfl
    rw[Y0s,e5,e6,<-Y0s,e4];ac_rfl
   exact Y2c (by lia) z
 have run:=R7 (r:=x.1) (u:=x.2) (F:=FF n x) (s:=s) (fun k hk=>⟨fr k,he.1 k hk⟩) he.2 (fr e) e (Y05 e);rw[Y5e]at run;have run:Run x.1 x.2 (FF n x) p q U ⟨s,X,Y⟩ (S*U-0) (Zi x.1 x.2 s (ws p q U (S*U) X Y e)):=run;rw[Y3o]at run;have e2:Zi x.1 x.2 s (ws p q U (S*U) X Y e)=⟨ZC x.1 x.2 (ws p q U (S*U) X Y e).w s,X,Y⟩:=by unfold Zi;rw[g1,g2]
 rw[e2]at run;exact⟨_,WR hx.1 hx.2 _ hs,run⟩
theorem ZeJ {n s s':Nat}{x:List Nat×List Nat}{p q i j F:Int}(hx:W4 n x)(hne:¬ (p=0/\q=0))(i0:0<i)(i1:i<F)(j0:0<j)(j1:j<F)(nc:NoC p q i j F)(hs:s<n)(hR:Wv n x (p,q) (U6 i F j F p q) (A6 i F j F p q s) (1*U6 i F j F p q) (A6 i F j F p q s')) :
  goL x.1 x.2 ((pev p q (Zv p F i) (Zv q F j) F (p.natAbs+q.natAbs)).2.2.map fun e=>e.2.2) s=s':=by
 have F0:0<F:=by lia
 have hc:0<dv i F*dv j F:=Y13 (Zbs F0) (Zbs F0);have a6:=ZfI (p:=p) (q:=q) hs (show 0<=i by lia) i1 (show 0<=j by lia) j1;have o6:WOk p q (U6 i F j F p q):=RZ F0 hne;have T0:0<=1*U6 i F j F p q:=Y1l (by decide) (Y5b o6.u);obtain⟨L0,hL0⟩:=Zel hx.1 hx.2 o6 _ a6 T0 rfl;have hsc:=ZfM F0 F0 hc o6 a6 hL0;have hp:=ZcV (p:=p) (q:=q) F0 i0 i1 j0 j1 hne nc s;have pl:=ZgM hx.1 hx.2;have e1:=ZcI hx.1 hx.2 o6 pl hR a6 T0 hL0;have e2:=Z89 (r:=x.1) (u:=x.2) (G:=FF n x) (pev p q (Zv p F i) (Zv q F j) F (p.natAbs+q.natAbs)).2.2 s (Z6f _);rw[SN hp hsc,Z7V]at e2;have e1:Y9 x.1 x.2 (FF n x) L0 s=.there s':=e1;rw[e1]at e2;rw[SN hp hsc];have e3:Res.there s'=Res.there (goL x.1 x.2 ((L0.map (scE (dv i F*dv j F))).map fun e=>e.2.2) s):=e2;injection e3 with e3
 exact e3.symm
theorem Zcg {C:Addr}{n sq:Nat}{r u:List Nat}{tx bx ty by_ p q S:Int}{H:Hp}{Q:VK}(rr:Row n r)(ru:Row n u)(hsq:sq<n)(S0:0<=S)(hw:Way p q)(x0:0<=tx)(x1:tx<bx)(y0:0<=ty)(y1:ty<by_)
  (k1:∀ (H':Hp) (t l':Addr) (s':Nat),Z5 H H'->H' t=some (.tup [.str (Str.ofString "there"),.ref l'])->P3 C H' l' s' (Z1 tx bx) (Z8 tx bx) (Z1 ty by_) (Z8 ty by_)->s'<n->
   Run r u (Zj n (ZF r u)) p q (U6 tx bx ty by_ p q) (A6 tx bx ty by_ p q sq) (S*U6 tx bx ty by_ p q) (A6 tx bx ty by_ p q s')->(∀ e,To p q (U6 tx bx ty by_ p q) (S*U6 tx bx ty by_ p q) (uX (Z1 tx bx) (Z8 tx bx) (Z8 ty by_) p q) (uY (Z1 ty by_) (Z8 tx bx) (Z8 ty by_) p q) e->s'=ZC r u (W5 (Z1 tx bx) (Z8 tx bx) (Z1 ty by_) (Z8 ty by_) p q S e).w sq)->Q (.ref t) H')
  (k2:∀ (H':Hp) (t pt:Addr) (v:V) (T:Int) (b:Spt),Z5 H H'->H' t=some (.tup [.str (Str.ofString "corner"),v,.ref pt])->WN n (ZF r u) b.s v->YV C H' pt (Z1 T (U6 tx bx ty by_ p q)) (Z8 T (U6 tx bx ty by_ p q))->0<=T->T<=S*U6 tx bx ty by_ p q->
   Hit r u (Zj n (ZF r u)) p q (U6 tx bx ty by_ p q) (A6 tx bx ty by_ p q sq) (S*U6 tx bx ty by_ p q) T b->Q (.ref t) H') :
  RC C n sq r u (Z1 tx bx) (Z8 tx bx) (Z1 ty by_) (Z8 ty by_) p q S H Q:=by
 have pbx:0<bx:=by omega
 have pby:0<by_:=by omega
 obtain⟨ax0,ax1,ax2,_⟩:=Xt pbx x0 x1;obtain⟨ay0,ay1,ay2,_⟩:=Xt pby y0 y1;have o:=TV (p:=p) (q:=q) ax2 ay2 hw.2.2;have hU:=o.u;have hM:0<=S*unU (Z8 tx bx) (Z8 ty by_) p q:=Y1l S0 (by omega);have in0:=U1 (p:=p) (q:=q) (M:=S*unU (Z8 tx bx) (Z8 ty by_) p q) ax0 ax1 ay0 ay1 hM;constructor
 ·intro H' t l' i s fr ht hcr h1 h2;have wi:=WC o in0 i fun j hj=>(fr j hj).2;have run:=R7 (r:=r) (u:=u) (F:=Zj n (ZF r u)) (s:=sq) (fun j hj=>⟨(fr j hj).1,(fr j hj).2⟩) ht hcr i (Y05 i);rw[Y5e]at run;have ex:=Tf p q (unU (Z8 tx bx) (Z8 ty by_) p q) (S*unU (Z8 tx bx) (Z8 ty by_) p q) (uX (Z1 tx bx) (Z8 tx bx) (Z8 ty by_) p q) (uY (Z1 ty by_) (Z8 tx bx) (Z8 ty by_) p q) i;have ey:=S7 p q (unU (Z8 tx bx) (Z8 ty by_) p q) (S*unU (Z8 tx bx) (Z8 ty by_) p q) (uX (Z1 tx bx) (Z8 tx bx) (Z8 ty by_) p q) (uY (Z1 ty by_) (Z8 tx bx) (Z8 ty by_) p q) i;have gx:(W5 (Z1 tx bx) (Z8 tx bx) (Z1 ty by_) (Z8 ty by_) p q S i).x=uX (Z1 tx bx) (Z8 tx bx) (Z8 ty by_) p q:=by
   refine SM wi.x0 wi.x1 in0.x0 in0.x1 (m:=p*S) (ex.trans ?_);rw[show (ws p q (unU (Z8 tx bx) (Z8 ty by_) p q) (S*unU (Z8 tx bx) (Z8 ty by_) p q) (uX (Z1 tx bx) (Z8 tx bx) (Z8 ty by_) p q) (uY (Z1 ty by_) (Z8 tx bx) (Z8 ty by_) p q) i).t=_ from ht,<-Y0f,Y0d (p*S)]
  have gy:(W5 (Z1 tx bx) (Z8 tx bx) (Z1 ty by_) (Z8 ty by_) p q S i).y=uY (Z1 ty by_) (Z8 tx bx) (Z8 ty by_) p q:=by
   refine SM wi.y0 wi.y1 in0.y0 in0.y1 (m:=q*S) (ey.trans ?_);rw[show (ws p q (unU (Z8 tx bx) (Z8 ty by_) p q) (S*unU (Z8 tx bx) (Z8 ty by_) p q) (uX (Z1 tx bx) (Z8 tx bx) (Z8 ty by_) p q) (uY (Z1 ty by_) (Z8 tx bx) (Z8 ty by_) p q) i).t=_ from ht,<-Y0f,Y0d (q*S)]
  have e2:Zi r u sq (W5 (Z1 tx bx) (Z8 tx bx) (Z1 ty by_) (Z8 ty by_) p q S i)=A6 tx bx ty by_ p q (ZC r u (W5 (Z1 tx bx) (Z8 tx bx) (Z1 ty by_) (Z8 ty by_) p q S i).w sq):=by
   unfold Zi A6;rw[gx,gy]
  rw[show Zi r u sq (ws p q (unU (Z8 tx bx) (Z8 ty by_) p q) (S*unU (Z8 tx bx) (Z8 ty by_) p q) (uX (Z1 tx bx) (Z8 tx bx) (Z8 ty by_) p q) (uY (Z1 ty by_) (Z8 tx bx) (Z8 ty by_) p q) i)=_ from e2]at run;have run:Run r u (Zj n (ZF r u)) p q (U6 tx bx ty by_ p q) (A6 tx bx ty by_ p q sq) (S*U6 tx bx ty by_ p q-0) (A6 tx bx ty by_ p q (ZC r u (W5 (Z1 tx bx) (Z8 tx bx) (Z1 ty by_) (Z8 ty by_) p q S i).w sq)):=run;rw[Y3o]at run;rw[gx,gy]at h2;have lx:Z1 (uX (Z1 tx bx) (Z8 tx bx) (Z8 ty by_) p q) (unU (Z8 tx bx) (Z8 ty by_) p q)=Z1 tx bx/\Z8 (uX (Z1 tx bx) (Z8 tx bx) (Z8 ty by_) p q) (unU (Z8 tx bx) (Z8 ty by_) p q)=Z8 tx bx:=by
   unfold uX;rw[V4 ax2];exact SC pbx hU Si
  have ly:Z1 (uY (Z1 ty by_) (Z8 tx bx) (Z8 ty by_) p q) (unU (Z8 tx bx) (Z8 ty by_) p q)=Z1 ty by_/\Z8 (uY (Z1 ty by_) (Z8 tx bx) (Z8 ty by_) p q) (unU (Z8 tx bx) (Z8 ty by_) p q)=Z8 ty by_:=by
   unfold uY;rw[V3 ay2];exact SC pby hU Sa
  rw[lx.1,lx.2,ly.1,ly.2]at h2;exact k1 H' t l' _ s h1 h2 (WR rr ru _ hsq) run fun e he=>by rw[ZbU he ⟨fun j hj=>(fr j hj).2,ht⟩]
 ·intro H' t pt i v s fr hcr h1 lv hpt;have wi:=WC o in0 i fun j hj=>(fr j hj).2;have hit:=ZaV (r:=r) (u:=u) (F:=Zj n (ZF r u)) (s:=sq) (fun j hj=>⟨(fr j hj).1,(fr j hj).2⟩) wi.t1 hcr i (Y05 i);rw[Y5e]at hit;have hit:Hit r u (Zj n (ZF r u)) p q (U6 tx bx ty by_ p q) (A6 tx bx ty by_ p q sq) (S*U6 tx bx ty by_ p q-0) ((W5 (Z1 tx bx) (Z8 tx bx) (Z1 ty by_) (Z8 ty by_) p q S i).t-0) (Zi r u sq (W5 (Z1 tx bx) (Z8 tx bx) (Z1 ty by_) (Z8 ty by_) p q S i)):=hit;rw[Y3o,Y3o]at hit;exact k2 H' t pt v _ _ s h1 lv hpt wi.t0 wi.t1 hit
def Zeu (C:Addr)(H:Hp)(t:Addr)(n sq:Nat)(r u:List Nat)(tx bx ty by_ p q:Int):Prop:=
 ∃ f:Nat->Nat,f 0=sq/\(∀ j,f j<n)/\(∀ i j,f (i+1)=f (j+1)->f i=f j)/\
 ((∃ k:Nat,H t=some (.tup [.str (Str.ofString "back"),.int (k:Int)])/\1<=k/\f k=sq/\(∀ j,1<=j->j<k->f j≠sq)/\(∀ j,j<k->Run r u (Zj n (ZF r u)) p q (U6 tx bx ty by_ p q) (A6 tx bx ty by_ p q (f j)) (1*U6 tx bx ty by_ p q) (A6 tx bx ty by_ p q (f (j+1)))))\/
 (∃ (k:Nat) (pt:Addr) (v:V) (T:Int) (b:Spt),H t=some (.tup [.str (Str.ofString "corner"),v,.ref pt])/\k<n/\WN n (ZF r u) b.s v/\YV C H pt (Z1 (T+(k:Int)*U6 tx bx ty by_ p q) (U6 tx bx ty by_ p q)) (Z8 (T+(k:Int)*U6 tx bx ty by_ p q) (U6 tx bx ty by_ p q))/\0<=T/\T<=1*U6 tx bx ty by_ p q/\(∀ j,1<=j->j<=k->f j≠sq)/\(∀ j,j<k->Run r u (Zj n (ZF r u)) p q (U6 tx bx ty by_ p q) (A6 tx bx ty by_ p q (f j)) (1*U6 tx bx ty by_ p q) (A6 tx bx ty by_ p q (f (j+1))))/\
  Hit r u (Zj n (ZF r u)) p q (U6 tx bx ty by_ p q) (A6 tx bx ty by_ p q (f k)) (1*U6 tx bx ty by_ p q) T b))
theorem Zaz {n:Nat}{g:Nat->Nat}(hg:∀ s,s<n->g s<n)(inj:∀ s s',s<n->s'<n->g s=g s'->s=s'){s:Nat}(h:s<n)(i j:Nat)(e:orb g s (i+1)=orb g s (j+1)):orb g s i=orb g s j:=inj _ _ (Xd hg h i) (Xd hg h j) e
theorem dec3 {i j:Int}:decide (V.int i=V.int j)=decide (i=j):=decide_eq_decide.mpr ⟨fun h=>by injection h,fun h=>by rw[h]⟩
theorem Zdf {t u:TT}{σ:St}{H:Hp}{R:Bool->Hp->Prop}(a b:Bool)(ht:∀ R:Bool->Hp->Prop,R a H->t σ H R)(hu:∀ R:Bool->Hp->Prop,R b H->u σ H R)(k:R (a||b) H):tOr t u σ H R:=by
 refine ht _ ?_;cases a with
 | true=>exact k
 | false=>exact hu R k
theorem Zbu {t u:TT}{σ:St}{H:Hp}{R:Bool->Hp->Prop}(a b:Bool)(ht:∀ R:Bool->Hp->Prop,R a H->t σ H R)(hu:∀ R:Bool->Hp->Prop,R b H->u σ H R)(k:R (a&&b) H):Zja t u σ H R:=by
 refine ht _ ?_;cases a with
 | true=>exact hu R k
 | false=>exact k
theorem ZaX {t rest:L2.TS}{D:Yx}{σ:St}{H:Hp}(Pv:St->Hp->Prop)(h:∀ N:St->Hp->Prop,(∀ σ' H',Pv σ' H'->N σ' H')->t { D with nx:=N } σ H)(k:∀ σ' H',Pv σ' H'->rest D σ' H'):Yy t rest D σ H:=h _ k
noncomputable def YQ (p q x y:Int)(k:Nat):List Nat:=(pev p q (Zv p 61 x) (Zv q 61 y) 61 k).2.2.map fun e=>e.2.2
theorem Z8O (p q x y:Int):∀ k,(YQ p q x y k).length=k
 | 0=>rfl
 | k+1=>by
  have:=Z8O p q x y k;unfold YQ at *;unfold pev
  split<;>simp<;>simpa using this
theorem UZ (i:Int):(if i<0 then -i else i)=((i.natAbs:Nat):Int):=by split<;>lia
def ZiD:Sp:=fun vs H Q _=>∃ (p q x y:Int),vs=[.int p,.int q,.int x,.int y,.int 61]/\p.natAbs<=60/\q.natAbs<=60/\0<x/\x<61/\0<y/\y<61/\∀ H':Hp,Z5 H H'->Q (.str (txt (YQ p q x y (p.natAbs+q.natAbs)))) H'
section
variable {P:Program}{w:World}{K:Y00}{mg:Str->Option Value}{base:Heap}
noncomputable abbrev Zjf:List Str:=["_law_p","_law_q","_law_x","_law_y","_law_full","_law_far","_law_high","_law_path_here","_law_turn"]
theorem XI:ZL Zjf ["_law_p","_law_q","_law_x","_law_y","_law_full"] (ZV T6):=⟨rfl,rfl,rfl,by decide +kernel,rfl,by decide +kernel,by decide +kernel⟩
set_option maxHeartbeats 1000000 in
theorem Zgj {f:Addr}{fd:FuncData}(T:Bi mg)(T_abs:mg "abs"=none)(F:Fn K mg "_law_path" T6 ["_law_p","_law_q","_law_x","_law_y","_law_full"] f fd):Z4 P w K mg base CX0 1 f fd ["_law_p","_law_q","_law_x","_law_y","_law_full"] ZiD:=by
 refine F.F.ok XI (fun vs H Q E h=>?_) (fun cdv A outer s H vs Q E hr h=>?_)
 ·obtain⟨p,q,x,y,rfl,_⟩:=h;rfl
 ·obtain⟨p,q,x,y,rfl,hp,hq,x0,x1,y0,y1,k⟩:=h;refine⟨_,(Z3 (ZW (i:=5) XI.nd rfl (Or.inl rfl) (pv 2))
   (Z3 (Zy (ZE Ye (pv 0) Z6 (ZH _)) (ZY (ZW (i:=5) XI.nd rfl (Or.inl rfl) (ZX X3 (pv 4) (pv 2)))) Zw)
   (Z3 (ZW (i:=6) XI.nd rfl (Or.inl rfl) (pv 3))
   (Z3 (Zy (ZE Ye (pv 1) Z6 (ZH _)) (ZY (ZW (i:=6) XI.nd rfl (Or.inl rfl) (ZX X3 (pv 4) (pv 3)))) Zw)
   (Z3 (ZW (i:=7) XI.nd rfl (Or.inl rfl) Zt)
   (Z3 (Yg PassesOwn.never rfl (WZ rfl T.range (Z9 (ZX Zd (ZG Yk rfl T_abs X6 (Z9 (pv 0) Z7)) (ZG Yk rfl T_abs X6 (Z9 (pv 1) Z7))) Z7)) (Zu (i:=8) XI.nd rfl (Or.inl rfl)) (ZY (Zy (PW.pt (YK (ZE Y7 (pv 1) Z6 (ZH _)) (XH (PW.pt (WG (ZE Yr (pv 0) Z6 (ZH _)) (Wk (ZE X2 (ZX YH (pv 5) (ZG Yk rfl T_abs X6 (Z9 (pv 1) Z7))) (ZX YH (pv 6) (ZG Yk rfl T_abs X6 (Z9 (pv 0) Z7))) (ZH _)))))))) (Z3 (ZW (i:=7) XI.nd rfl (Or.inl rfl) (ZX Xl (pv 7) (Z91 (ZE Ye (pv 0) Z6 (ZH _)) Zt Zt)))
   (ZY (ZW (i:=5) XI.nd rfl (Or.inl rfl) (ZX Zd (pv 5) (pv 4))))) (Z3 (ZW (i:=7) XI.nd rfl (Or.inl rfl) (ZX Xl (pv 7) (Z91 (ZE Ye (pv 1) Z6 (ZH _)) Zt Zt)))
   (ZY (ZW (i:=6) XI.nd rfl (Or.inl rfl) (ZX Zd (pv 6) (pv 4))))))))
   (ZY (ZO (pv 7))))))))),?_⟩
  have e0:Str.ofString ""=txt []:=by decide +kernel
  have er:Str.ofString "r"=txt [114]:=by decide +kernel
  have el:Str.ofString "l"=txt [108]:=by decide +kernel
  have eu:Str.ofString "u"=txt [117]:=by decide +kernel
  have ed:Str.ofString "d"=txt [100]:=by decide +kernel
  refine⟨_,rfl,?_⟩;dsimp only [Zs];refine ZaX (fun σ H1=>σ=[some (.int p),some (.int q),some (.int x),some (.int y),some (.int 61),some (.int (Zv p 61 x)),none,none,none]/\H=H1) (fun N hN=>?_) ?_
  ·refine⟨_,rfl,_,_,rfl,rfl,_,rfl,?_⟩
   by_cases c:p>0
   ·rw[decide_eq_true c];refine Zz ?_;refine⟨_,rfl,_,rfl,_,_,rfl,rfl,?_⟩;exact hN _ _ ⟨by unfold Zv;rw[if_pos c];rfl,rfl⟩
   ·rw[decide_eq_false c];refine ZJ ?_;exact hN _ _ ⟨by unfold Zv;rw[if_neg c];rfl,rfl⟩
  rintro σ H1 ⟨rfl,rfl⟩;refine⟨_,rfl,?_⟩;dsimp only [Zs];refine ZaX (fun σ H1=>σ=[some (.int p),some (.int q),some (.int x),some (.int y),some (.int 61),some (.int (Zv p 61 x)),some (.int (Zv q 61 y)),none,none]/\H=H1) (fun N hN=>?_) ?_
  ·refine⟨_,rfl,_,_,rfl,rfl,_,rfl,?_⟩
   by_cases c:q>0
   ·rw[decide_eq_true c];refine Zz ?_;refine⟨_,rfl,_,rfl,_,_,rfl,rfl,?_⟩;exact hN _ _ ⟨by unfold Zv;rw[if_pos c];rfl,rfl⟩
   ·rw[decide_eq_false c];refine ZJ ?_;exact hN _ _ ⟨by unfold Zv;rw[if_neg c];rfl,rfl⟩
  rintro σ H1 ⟨rfl,rfl⟩;refine⟨_,rfl,_,rfl,_,rfl,_,rfl,_,_,rfl,rfl,((p.natAbs+q.natAbs:Nat):Int),congrArg (fun z=>[V.int z]) (by rw[UZ,UZ];lia),by lia,by lia,?_⟩;rw[Y1g];have fb:∀ {p x:Int},0<x->x<61->0<Zv p 61 x/\Zv p 61 x<61:=fun {p x} h0 h1=>by unfold Zv;split<;>lia
  obtain⟨fa,hfa⟩:∃ z,Zv p 61 x=z:=⟨_,rfl⟩;obtain⟨fh,hfh⟩:∃ z,Zv q 61 y=z:=⟨_,rfl⟩;have hL:∀ k,YQ p q x y k=(pev p q fa fh 61 k).2.2.map fun e=>e.2.2:=fun k=>by unfold YQ;rw[hfa,hfh]
  have fx:0<fa/\fa<61:=by rw[<-hfa];exact fb x0 x1
  have fy:0<fh/\fh<61:=by rw[<-hfh];exact fb y0 y1
  rw[hfa,hfh];clear hfa hfh;have lij:∀ k,(pev p q fa fh 61 k).1<=k/\(pev p q fa fh 61 k).2.1<=k:=fun k=>by
   induction k with
   | zero=>exact⟨Y05 _,Y05 _⟩
   | succ k ih=>unfold pev;split<;>dsimp only<;>lia
  have zz:∀ a:Int,a+61*((0:Nat):Int)=a:=fun a=>by lia
  refine SR (n:=p.natAbs+q.natAbs) (fun k σ H2=>∃ o8,σ=[some (.int p),some (.int q),some (.int x),some (.int y),some (.int 61),some (.int (fa+61*((pev p q fa fh 61 k).1:Int))),some (.int (fh+61*((pev p q fa fh 61 k).2.1:Int))),some (.str (txt (YQ p q x y k))),o8]/\H=H2) ⟨none,?_,rfl⟩ ?_ ?_
  ·show [some (V.int p),some (V.int q),some (V.int x),some (V.int y),some (V.int 61),some (V.int fa),some (V.int fh),some (V.str (Str.ofString "")),none]=[some (V.int p),some (V.int q),some (V.int x),some (V.int y),some (V.int 61),some (V.int (fa+61*((0:Nat):Int))),some (V.int (fh+61*((0:Nat):Int))),some (V.str (txt [])),none];rw[zz,zz,e0]
  ·rintro i σ H2 hi ⟨o8,rfl,rfl⟩;have lk:=lij i;have hlen:=Z8O p q x y i;obtain⟨I,hI⟩:∃ z,(pev p q fa fh 61 i).1=z:=⟨_,rfl⟩;obtain⟨J,hJ⟩:∃ z,(pev p q fa fh 61 i).2.1=z:=⟨_,rfl⟩;rw[hI,hJ]at lk;have b1:Bt 60 (fa+61*(I:Int)):=(by show (fa+61*(I:Int)).natAbs<2^60;lia);have b2:Bt 60 (fh+61*(J:Int)):=(by show (fh+61*(J:Int)).natAbs<2^60;lia);have b3:Bt 60 ((q.natAbs:Nat):Int):=(by show ((q.natAbs:Nat):Int).natAbs<2^60;lia);have b4:Bt 60 ((p.natAbs:Nat):Int):=(by show ((p.natAbs:Nat):Int).natAbs<2^60;lia);dsimp only [Zs];rw[hI,hJ];refine Zdf (decide (q=0)) (!decide (p=0)&&decide ((fa+61*(I:Int))*(q.natAbs:Int)<(fh+61*(J:Int))*(p.natAbs:Int))) (fun R hR=>⟨_,rfl,rfl,_,rfl,by rw[dec3];exact hR⟩) (fun R hR=>Zbu (!decide (p=0)) _ (fun R hR=>⟨_,rfl,rfl,_,rfl,by rw[dec3];exact hR⟩) (fun R hR=>⟨_,rfl,_,rfl,_,rfl,_,_,rfl,rfl,⟨b1.mono (by decide),by rw[UZ];exact b3.mono (by decide)⟩,_,rfl,_,rfl,_,rfl,_,_,rfl,rfl,⟨b2.mono (by decide),by rw[UZ];exact b4.mono (by decide)⟩,_,_,rfl,rfl,_,rfl,by rw[UZ,UZ];exact hR⟩) hR) ?_;have eg:(decide (q=0)||(!decide (p=0)&&decide ((fa+61*(I:Int))*(q.natAbs:Int)<(fh+61*(J:Int))*(p.natAbs:Int))))=decide (goX p q fa fh 61 I J):=by
    unfold goX
    by_cases c1:q=0
    ·simp[c1]
    ·by_cases c2:p=0
     ·simp[c1,c2]
     ·simp[c1,c2]
   rw[eg];have snoc:∀ c,YQ p q x y i++[c]=YQ p q x y (i+1)->txt (YQ p q x y i)++txt [c]=txt (YQ p q x y (i+1)):=fun c e=>by rw[<-e];exact XS _ _
   by_cases g:goX p q fa fh 61 I J
   ·rw[decide_eq_true g];refine Zz ?_;have ep:pev p q fa fh 61 (i+1)=(I+1,J,(pev p q fa fh 61 i).2.2++[exv p q fa 61 I]):=by
     show (if goX p q fa fh 61 (pev p q fa fh 61 i).1 (pev p q fa fh 61 i).2.1 then _ else _)=_;rw[hI,hJ,if_pos g]
    have elt:∀ c,(if 0<p then 114 else 108)=c->YQ p q x y i++[c]=YQ p q x y (i+1):=fun c hc=>by
     rw[hL,hL,ep,Y1z,<-hc];rfl
    refine⟨_,rfl,?_⟩;refine⟨_,rfl,_,_,rfl,rfl,_,rfl,?_⟩
    by_cases c:p>0
    ·rw[decide_eq_true c];refine Zz ?_;rw[er];refine⟨_,_,rfl,rfl,by rw[Ze,Ze];show _+1<=sizeLine;rw[hlen];exact Y0z (show i+1<=1000 by lia) (by decide),?_⟩;rw[snoc 114 (elt 114 (by rw[if_pos c]))];refine⟨_,rfl,_,rfl,_,_,rfl,rfl,?_⟩;exact⟨_,by rw[ep];dsimp only;rw[show fa+61*((I+1:Nat):Int)=fa+61*(I:Int)+61 by lia];rfl,rfl⟩
    ·rw[decide_eq_false c];refine ZJ ?_;rw[el];refine⟨_,_,rfl,rfl,by rw[Ze,Ze];show _+1<=sizeLine;rw[hlen];exact Y0z (show i+1<=1000 by lia) (by decide),?_⟩;rw[snoc 108 (elt 108 (by rw[if_neg c]))];refine⟨_,rfl,_,rfl,_,_,rfl,rfl,?_⟩;exact⟨_,by rw[ep];dsimp only;rw[show fa+61*((I+1:Nat):Int)=fa+61*(I:Int)+61 by lia];rfl,rfl⟩
   ·rw[decide_eq_false g];refine ZJ ?_;have ep:pev p q fa fh 61 (i+1)=(I,J+1,(pev p q fa fh 61 i).2.2++[eyv p q fh 61 J]):=by
     show (if goX p q fa fh 61 (pev p q fa fh 61 i).1 (pev p q fa fh 61 i).2.1 then _ else _)=_;rw[hI,hJ,if_neg g]
    have elt:∀ c,(if 0<q then 117 else 100)=c->YQ p q x y i++[c]=YQ p q x y (i+1):=fun c hc=>by
     rw[hL,hL,ep,Y1z,<-hc];rfl
    refine⟨_,rfl,?_⟩;refine⟨_,rfl,_,_,rfl,rfl,_,rfl,?_⟩
    by_cases c:q>0
    ·rw[decide_eq_true c];refine Zz ?_;rw[eu];refine⟨_,_,rfl,rfl,by rw[Ze,Ze];show _+1<=sizeLine;rw[hlen];exact Y0z (show i+1<=1000 by lia) (by decide),?_⟩;rw[snoc 117 (elt 117 (by rw[if_pos c]))];refine⟨_,rfl,_,rfl,_,_,rfl,rfl,?_⟩;exact⟨_,by rw[ep];dsimp only;rw[show fh+61*((J+1:Nat):Int)=fh+61*(J:Int)+61 by lia];rfl,rfl⟩
    ·rw[decide_eq_false c];refine ZJ ?_;rw[ed];refine⟨_,_,rfl,rfl,by rw[Ze,Ze];show _+1<=sizeLine;rw[hlen];exact Y0z (show i+1<=1000 by lia) (by decide),?_⟩;rw[snoc 100 (elt 100 (by rw[if_neg c]))];refine⟨_,rfl,_,rfl,_,_,rfl,rfl,?_⟩;exact⟨_,by rw[ep];dsimp only;rw[show fh+61*((J+1:Nat):Int)=fh+61*(J:Int)+61 by lia];rfl,rfl⟩
  ·rintro σ H2 ⟨o8,rfl,rfl⟩;exact⟨_,rfl,k _ (Z5.refl _)⟩
end
def spBa:Sp:=fun vs H Q _=>∃ (p:Addr) (n:Nat) (r:List Nat),vs=[.ref p]/\H p=some (.tup (nv r))/\Row n r/\n<=36/\∀ (H':Hp) (l:Addr),Z5 H H'->H l=none->H' l=some (.lst (nv (back r)))->Q (.ref l) H'
theorem rep0 (n:Nat):(Y0c n [V.int 0]).flatten=nv (Y0c n 0):=by
 induction n with
 | zero=>rfl
 | succ n ih=>rw[Y2r,Y2f,ih,Y2r];rfl
section
variable {P:Program}{w:World}{K:Y00}{mg:Str->Option Value}{base:Heap}
noncomputable abbrev n_ba:List Str:=["_law_row_here","_law_back_here","_law_at_here","_law_square"]
theorem RS:ZL n_ba ["_law_row_here"] (ZV TQ):=⟨rfl,rfl,rfl,by decide +kernel,rfl,by decide +kernel,by decide +kernel⟩
theorem ZkC {f:Addr}{fd:FuncData}(T:Bi mg)(F:Fn K mg "_law_back" TQ ["_law_row_here"] f fd):Z4 P w K mg base CX0 1 f fd ["_law_row_here"] spBa:=by
 refine F.F.ok RS (fun vs H Q E h=>?_) (fun cdv A outer s H vs Q E hr h=>?_)
 ·obtain⟨p,n,r,rfl,_⟩:=h;rfl
 ·obtain⟨p,n,r,rfl,hp,rr,hn,k⟩:=h;refine⟨_,(Z3 (ZW (i:=1) RS.nd rfl (Or.inl rfl) (ZX ZiK (Wb (Z9 Z6 Z7)) (ZG Y5 rfl T.len PySem.boot_len (Z9 (pv 0) Z7))))
   (Z3 (Yg PassesOwn.never rfl (Z8u rfl T.enum (Z9 (pv 0) Z7)) (ZbM rfl (Vw (Zu (i:=2) RS.nd rfl (Or.inl rfl)) (Vw (Zu (i:=3) RS.nd rfl (Or.inl rfl)) Z7I))) (ZY (Zc3 (pv 1) (pv 3) (pv 2) rfl)))
   (ZY (ZO (pv 1))))),?_⟩
  refine⟨(by show 1<=sizeLine;decide),fun l0 hl0=>?_⟩;have s0:=ZS (o:=.lst [V.int 0]) (Z5.refl H) hl0;refine⟨_,rfl,p,_,rfl,.inr (SqT.of (s0 _ _ hp)),l0,((nv r).length:Int),_,rfl,rfl,ZR,by lia,by rw[ZA,rr.len];lia,by rw[ZA,rr.len];exact Y16 (YR (by show 1*_<=1000;rw[Y1g];lia)),fun lb hlb=>?_⟩;rw[Y1g,ZA,rr.len,rep0];have Hlb:H lb=none:=s0.free hlb;have s1:=ZS (o:=.lst (nv (Y0c n 0))) s0 Hlb;refine⟨_,rfl,p,rfl,⟨_,SqT.of (s1 _ _ hp)⟩,Ze5 (xs:=nv r) (fun i σ H2=>∃ o2 o3 bl,σ=[some (.ref p),some (.ref lb),o2,o3]/\Z5 H H2/\H2 lb=some (.lst (nv bl))/\bl.length=n/\∀ k,k<i->bl[nx r k]?=some k)
   ⟨_,_,_,rfl,s1,ZR,Y36,fun k hk=>absurd hk (Y1y _)⟩ (fun i σ H2 _ ⟨_,_,_,_,s2,_⟩=>SqT.of (s2 _ _ hp)) ?_ ?_⟩
  ·rintro i x σ H2 T' hx hT ⟨o2,o3,bl,rfl,s2,h2,hbl,hall⟩;obtain⟨y,hy,rfl⟩:=Sz hx;have hi:i<n:=(by rw[<-rr.len];exact (Y08.mp hy).1);have ey:y=nx r i:=(by have:=rr.get hi;rw[hy]at this;exact Option.some.inj this);have hyn:y<n:=(by rw[ey];exact rr.nlt hi);have h2':(upd H2 T' (VO T' [.int (i:Int),.int (y:Int)])) lb=some (.lst (nv bl)):=(by rw[ZK (Zc h2 hT)];exact h2);refine⟨T',_,rfl,ZR,rfl,_,_,rfl,_,_,rfl,rfl,?_⟩;refine⟨_,rfl,_,rfl,_,rfl,lb,_,_,y,rfl,rfl,h2',?_,?_⟩
   ·unfold ixN;rw[if_pos (by lia),if_pos (by rw[ZA,hbl];lia)];simp
   refine⟨_,_,bl.set y i,rfl,ZS (ZS s2 (s2.free hT)) Hlb,by rw[ZR,ZdH],by rw[List.length_set];exact hbl,fun k hk=>?_⟩;rcases Y0q k i with c|c
   ·have hne:y≠nx r k:=fun z=>by
     rw[ey]at z;have:=rr.inj hi (by lia) z;lia
    rw[Y3r hne];exact hall k c
   ·have:k=i:=(by lia);subst this;rw[<-ey,Y3i (by rw[hbl];exact hyn)]
  ·rintro σ H2 ⟨o2,o3,bl,rfl,s2,h2,hbl,hall⟩;rw[ZA,rr.len]at hall;have e:=Z78 rr hbl hall;subst e;exact⟨_,rfl,k _ lb s2 Hlb h2⟩
end
noncomputable def sts (p0 p1 p2 p3:Addr):List (Key×V):=[(Sum.inr "r",.ref p0),(Sum.inr "l",.ref p1),(Sum.inr "u",.ref p2),(Sum.inr "d",.ref p3)]
theorem ZhL (p0 p1 p2 p3:Addr):U9 [] (sts p0 p1 p2 p3)=sts p0 p1 p2 p3:=by
 have n1:¬ ((Sum.inr ("r":Str):Key)=Sum.inr ("l":Str)):=by decide +kernel
 have n2:¬ ((Sum.inr ("r":Str):Key)=Sum.inr ("u":Str)):=by decide +kernel
 have n3:¬ ((Sum.inr ("r":Str):Key)=Sum.inr ("d":Str)):=by decide +kernel
 have n4:¬ ((Sum.inr ("l":Str):Key)=Sum.inr ("u":Str)):=by decide +kernel
 have n5:¬ ((Sum.inr ("l":Str):Key)=Sum.inr ("d":Str)):=by decide +kernel
 have n6:¬ ((Sum.inr ("u":Str):Key)=Sum.inr ("d":Str)):=by decide +kernel
 show YS (YS (YS (YS [] (Sum.inr ("r":Str):Key) (V.ref p0)) (Sum.inr ("l":Str):Key) (V.ref p1)) (Sum.inr ("u":Str):Key) (V.ref p2)) (Sum.inr ("d":Str):Key) (V.ref p3)=_;rw[Ul (kvs:=[]) _ rfl];rw[Ul (k:=(Sum.inr ("l":Str):Key)) _ (by show Y2 [((Sum.inr ("r":Str):Key),V.ref p0)] _=none;rw[Xh n1];rfl)];rw[Ul (k:=(Sum.inr ("u":Str):Key)) _ (by show Y2 [((Sum.inr ("r":Str):Key),V.ref p0),(Sum.inr ("l":Str),V.ref p1)] _=none;rw[Xh n2,Xh n4];rfl)];rw[Ul (k:=(Sum.inr ("d":Str):Key)) _ (by show Y2 [((Sum.inr ("r":Str):Key),V.ref p0),(Sum.inr ("l":Str),V.ref p1),(Sum.inr ("u":Str),V.ref p2)] _=none;rw[Xh n3,Xh n5,Xh n6];rfl)]
 rfl
theorem Z8Q (r u w:List Nat)(c s:Nat):goL r u (w++[c]) s=mvE r u (goL r u w s) c:=by unfold goL;rw[Y3c];rfl
def R4 (c:Nat):Prop:=c=114\/c=108\/c=117\/c=100
theorem Zh0 {n:Nat}{r u:List Nat}(rr:Row n r)(ru:Row n u){s:Nat}(hs:s<n)(c:Nat):mvE r u s c<n:=by
 unfold mvE
 split
 ·exact rr.nlt hs
 split
 ·exact rr.back.nlt hs
 split
 ·exact ru.nlt hs
 ·exact ru.back.nlt hs
theorem Ze2 {n:Nat}{r u:List Nat}(rr:Row n r)(ru:Row n u):∀ (w:List Nat) {s:Nat},s<n->goL r u w s<n
 | [],_,h=>h
 | c::w,s,h=>Ze2 rr ru w (Zh0 rr ru h c)
theorem ZgV {K:Y00}{Hc:Hp}{p:Addr}{M:List Nat}{g:Nat->Nat}{tl te:TE}{pull:List Nat}{Q:VK}{σ rest:St}(hj:∀ R:VK,R (.ref p) Hc->tl σ Hc R)(hp:Hc p=some (.lst (nv M)))(hb:bst 1 pull σ=none::rest)(hm:M.length<=1000)
  (hte:∀ (s:Nat) (H3:Hp) (R:VK),s∈M->Z5 Hc H3->R (.int (g s:Int)) H3->te (some (.int (s:Int))::rest) H3 R)
  (k:∀ (H':Hp) (d:Addr),Z5 Hc H'->H' d=some (.lst (nv (M.map g)))->Q (.ref d) H'):Yq (XZ K tl) 1 pull (Zs 0) te σ Hc Q:=by
 refine hj _ ⟨p,rfl,⟨_,SqL.of hp⟩,fun d hd=>?_⟩;rw[hb];refine Xg (J:=Itl K p) (Q:=fun d H'=>Q (.ref d) H') M.length (nv (M.map g)) (by rw[ZA,Y07]) (fun i σ H9=>(∃ o,σ=o::rest)/\Z5 Hc H9) ⟨⟨_,rfl⟩,ZS (Z5.refl _) hd⟩ ?_ ?_
 ·rintro i σ H9 hi ⟨⟨o,rfl⟩,s9⟩ hd9;have hq:=SqL.of (K:=K) (s9 _ _ hp);have hmi:(nv M)[i]?=some (.int (M[i]:Int)):=Zp (Y01 hi);refine⟨⟨_,_,hq,hmi⟩,fun y H4 ⟨e1,hy⟩=>?_⟩;subst e1;have hy:=hy _ hq;rw[hmi]at hy;cases hy;refine hte _ _ _ (Y2m hi) s9 ?_;exact WA hi hm hd9 (by rw[Zp (x:=g M[i]) (by rw[Y0l,Y01 hi];rfl)]) ⟨⟨_,rfl⟩,ZS s9 hd⟩
 ·rintro σ H9 ⟨⟨o,rfl⟩,s9⟩ hd9;exact⟨⟨_,SqL.of (s9 _ _ hp),by rw[ZA];exact Y05 _⟩,k H9 d s9 hd9⟩
def ZhG:Sp:=fun vs H Q _=>∃ (a:Addr) (w:List Nat) (n:Nat) (r u:List Nat),vs=[.ref a,.str (txt w)]/\Zn H a r u/\Row n r/\Row n u/\n<=36/\(∀ c∈w,R4 c)/\∀ (H':Hp) (l:Addr),Z5 H H'->H' l=some (.lst (nv ((Y02 n).map (goL r u w))))->Q (.ref l) H'
theorem Zf8 {te:TE}{g:TG}{D:Yx}{σ:St}{H:Hp}(h:te σ H fun v H'=>g v σ H' D.nx):X8 te g D σ H:=h
section
variable {P:Program}{w:World}{K:Y00}{mg:Str->Option Value}{base:Heap}
noncomputable abbrev Zgd:List Str:=["_law_sheet_here","_law_path_here","_law_going","_law_there","_law_letter"]
theorem TU:ZL Zgd ["_law_sheet_here","_law_path_here"] (ZV VB):=⟨rfl,rfl,rfl,by decide +kernel,rfl,by decide +kernel,by decide +kernel⟩
theorem Zgk:(["_law_square","_law_going","_law_letter"]:List Str).Nodup:=by decide +kernel
set_option maxHeartbeats 1000000 in
theorem Zgi {f fb:Addr}{fd db:FuncData}(T:Bi mg)(F:Fn K mg "_law_step_row" VB ["_law_sheet_here","_law_path_here"] f fd)(FB:Fn K mg "_law_back" TQ ["_law_row_here"] fb db)(GB:Z4 P w K mg base CX0 1 fb db ["_law_row_here"] spBa):Z4 P w K mg base CX0 2 f fd ["_law_sheet_here","_law_path_here"] ZhG:=by
 refine F.F.ok TU (fun vs H Q E h=>?_) (fun cdv A outer s H vs Q E hr h=>?_)
 ·obtain⟨a,w,n,r,u,rfl,_⟩:=h;rfl
 ·obtain⟨a,w,n,r,u,rfl,hsh,rr,ru,hn,hw,k⟩:=h;have hu:=RR hr;have hr1:ZP 1 _:=hr.mono (by decide);refine⟨_,(Z3 (ZW (i:=2) TU.nd rfl (Or.inr rfl) (ZeW (SF Zt (Z2 ZZ (pv 0) Z6 (fun _ _=>rfl)) (SF Zt (ZT GB hr1 rfl FB.m FB.F.kp FB.b .nil ZQ (Z9 (Z2 ZZ (pv 0) Z6 (fun _ _=>rfl)) Z7)) (SF Zt (Z2 ZZ (pv 0) Z6 (fun _ _=>rfl)) (SF Zt (ZT GB hr1 rfl FB.m FB.F.kp FB.b .nil ZQ (Z9 (Z2 ZZ (pv 0) Z6 (fun _ _=>rfl)) Z7)) Zfq)))) rfl rfl (by simp) (by decide)))
   (Z3 (ZW (i:=3) TU.nd rfl (Or.inl rfl) (X7 (Z2w rfl) rfl T.list UJ (Z9 (X7 Z3p rfl T.range PyProof.Rows.boot_range (Z9 (ZG Y5 rfl T.len PySem.boot_len (Z9 (Z2 ZZ (pv 0) Z6 (fun _ _=>rfl)) Z7)) Z7)) Z7)))
   (Z3 (Yg PassesOwn.never rfl (Zag (pv 1)) (Zu (i:=4) TU.nd rfl (Or.inr rfl)) (ZY (Zaw (j:=3) (N:=Zgd) (names:=(ZV VB).names) (N':=["_law_square","_law_going","_law_letter"]) (k:=1) (pull:=[2,4]) (te:=(tOp (rIx K) (Zff (ZU 1) (ZU 2)) (ZU 0))) rfl TU.nd rfl rfl ⟨by rfl,by decide +kernel,by decide +kernel,by rfl,by decide +kernel,by decide +kernel⟩ rfl rfl (Yl (pv 3)) (fun _ _ _ _ _ _=>Zu (i:=0) Zgk rfl (Or.inl rfl)) (fun _ _ _ _ _ _=>(Z2 V9 (Zb9 hu (pv 1) (pv 2) (fun _ _=>rfl)) (pv 0) (fun _ _=>rfl))))))
   (ZY (ZO (pv 3)))))),?_⟩
  obtain⟨rp,up,g1,g2,g3⟩:=id hsh;refine fun d hd=>?_;have s0d:Z5 H (upd H d (.dK [])):=ZS (Z5.refl H) hd;refine⟨_,rfl,a,_,0,_,rfl,rfl,SqT.of (s0d _ _ g1),Z0 (j:=0) rfl,?_⟩;refine⟨_,rfl,a,_,0,_,rfl,rfl,SqT.of (s0d _ _ g1),Z0 (j:=0) rfl,rp,n,r,rfl,s0d _ _ g2,rr,hn,fun H9 lb1 s9 hlb10 hlb1=>?_⟩;refine⟨_,rfl,a,_,1,_,rfl,rfl,SqT.of (s9 _ _ (s0d _ _ g1)),Z0 (j:=1) rfl,?_⟩;refine⟨_,rfl,a,_,1,_,rfl,rfl,SqT.of (s9 _ _ (s0d _ _ g1)),Z0 (j:=1) rfl,up,n,u,rfl,s9 _ _ (s0d _ _ g3),ru,hn,fun H10 lb2 s10 hlb20 hlb2=>?_⟩;have hd2:H10 d=some (.dK []):=s10 _ _ (s9 _ _ ZR);refine⟨hd2,sts rp lb1 up lb2,rfl,by show 4<=15;decide,?_⟩;rw[ZhL];have ndd:∀ b ob,H10 b=some ob->b≠d->(upd H10 d (.dK (sts rp lb1 up lb2))) b=some ob:=fun b ob e nb=>by rw[ZK nb];exact e
  have k8:Z5 H (upd H10 d (.dK (sts rp lb1 up lb2))):=fun b ob e=>ndd b ob (s10 _ _ (s9 _ _ (s0d _ _ e))) (fun z=>by rw[z,hd]at e;cases e);have kd:(upd H10 d (.dK (sts rp lb1 up lb2))) d=some (.dK (sts rp lb1 up lb2)):=ZR;have kb1:(upd H10 d (.dK (sts rp lb1 up lb2))) lb1=some (.lst (nv (back r))):=ndd _ _ (s10 _ _ hlb1) (fun z=>by rw[z]at hlb1;rw[s9 _ _ ZR]at hlb1;cases hlb1);have kb2:(upd H10 d (.dK (sts rp lb1 up lb2))) lb2=some (.lst (nv (back u))):=ndd _ _ hlb2 (fun z=>by rw[z,hd2]at hlb2;cases hlb2);revert k8 kd kb1 kb2;generalize (upd H10 d (.dK (sts rp lb1 up lb2)))=H11;intro s11 kd kb1 kb2;refine⟨_,rfl,a,_,0,_,rfl,rfl,SqT.of (s11 _ _ g1),Z0 (j:=0) rfl,rp,_,rfl,.inr (SqT.of (s11 _ _ g2)),?_⟩;rw[ZA,rr.len];refine⟨(n:Int),rfl,fun r0 hr0=>⟨r0,n,rfl,ZR,by omega,fun lf hlf=>?_⟩⟩;have nlfr:lf≠r0:=fun e=>by rw[e,ZR]at hlf;cases hlf
  have s12:Z5 H11 (upd (upd H11 r0 (.rng 0 (n:Int))) lf (.lst (nv (Y02 n)))):=ZS (ZS (Z5.refl _) hr0) (by rwa [ZK nlfr]at hlf);have hlf1:(upd (upd H11 r0 (.rng 0 (n:Int))) lf (.lst (nv (Y02 n)))) lf=some (.lst (nv (Y02 n))):=ZR;revert s12 hlf1;generalize (upd (upd H11 r0 (.rng 0 (n:Int))) lf (.lst (nv (Y02 n))))=H12;intro s12 hlf1;have e00:(Y02 n).map (goL r u ([]:List Nat))=Y02 n:=by rw[show goL r u ([]:List Nat)=id from rfl,List.map_id]
  refine⟨_,rfl,_,rfl,Zbb (fun i σ H3=>∃ (p:Addr) (o4:Option V),σ=[some (.ref a),some (.str (txt w)),some (.ref d),some (.ref p),o4]/\Z5 H11 H3/\H3 p=some (.lst (nv ((Y02 n).map (goL r u (w.take i)))))) ⟨lf,_,rfl,s12,by rw[List.take_zero,e00];exact hlf1⟩ ?_ ?_⟩
  ·rintro i c σ H3 hc ⟨p,o4,rfl,s3,hp⟩;rw[Z7P]at hc;have hcw:R4 c:=hw c (Y0r hc);have kd3:=s3 _ _ kd;have dg:∀ (k:Str) (v:V),Y2 (sts rp lb1 up lb2) (Sum.inr k:Key)=some v->∀ H4,Z5 H3 H4->X9 H4 d (.str k) (some v):=fun k v e H4 s4=>by
    have q:=X9.k (k:=(Sum.inr k:Key)) (s4 _ _ kd3);rw[e]at q;exact q
   have fin:∃ (row:List Nat) (pr:Addr),(∀ H4,Z5 H3 H4->X9 H4 d (.str ⟨#[c]⟩) (some (.ref pr))/\Xp K H4 pr row)/\Row n row/\∀ s,nx row s=mvE r u s c:=by
    rcases hcw with e|e|e|e
    ·subst e;exact⟨r,rp,fun H4 s4=>⟨dg _ _ (by with_unfolding_all rfl) H4 s4,.inr (SqT.of ((s3.trans s4) _ _ (s11 _ _ g2)))⟩,rr,fun s=>rfl⟩
    ·subst e;exact⟨back r,lb1,fun H4 s4=>⟨dg _ _ (by with_unfolding_all rfl) H4 s4,.inl (SqL.of ((s3.trans s4) _ _ kb1))⟩,rr.back,fun s=>rfl⟩
    ·subst e;exact⟨u,up,fun H4 s4=>⟨dg _ _ (by with_unfolding_all rfl) H4 s4,.inr (SqT.of ((s3.trans s4) _ _ (s11 _ _ g3)))⟩,ru,fun s=>rfl⟩
    ·subst e;exact⟨back u,lb2,fun H4 s4=>⟨dg _ _ (by with_unfolding_all rfl) H4 s4,.inl (SqL.of ((s3.trans s4) _ _ kb2))⟩,ru.back,fun s=>rfl⟩
   obtain⟨row,pr,hdg,hrw,hnx⟩:=fin;refine Zf8 (ZgV (g:=fun s=>mvE r u s c) (p:=p) (M:=(Y02 n).map (goL r u (w.take i))) (fun R hR=>⟨_,rfl,hR⟩) hp rfl (by simp;omega) (fun s H4 R hs s4 hR=>?_) (fun H4 d4 s4 hd4=>?_))
   ·obtain⟨s0,hs0,rfl⟩:=Y0g.mp hs;obtain⟨q1,q2⟩:=hdg H4 s4;refine⟨_,rfl,_,rfl,d,_,rfl,q1,_,rfl,U4 q2 hrw (Ze2 rr ru _ (Y06.mp hs0)) ?_⟩;rw[hnx];exact hR
   ·refine⟨d4,_,rfl,s3.trans s4,?_⟩;rw[hd4,Y1n];have ew:w.take (i+1)=w.take i++[c]:=(by rw[Y1j,hc];rfl);rw[ew];congr 3;exact Y1x fun s _=>(Z8Q r u _ c s).symm
  ·rintro σ H3 ⟨p,o4,rfl,s3,hp⟩;rw[Ze,Y2n]at hp;exact⟨_,rfl,k H3 p (s11.trans s3) hp⟩
end
theorem ZjA {z:List Nat}{p q p' q':Int}(h:act (tb4 z) p q=(p',q')):act (tb4 (z++[115])) p q=(p' + q',q'):=by
 rw[Z8n,Zbk,h];show (1*p' + 1*q',0*p' + 1*q')=_;simp
theorem Zk4 {z:List Nat}{p q p' q':Int}(h:act (tb4 z) p q=(p',q')):act (tb4 (z++[116])) p q=(-q',p'):=by
 rw[Z8n,Zbk,h];show (0*p' + -1*q',1*p' + 0*q')=_;simp
theorem Z8o (c:Nat):∀ (z:List Nat) (d:Int×Int),dms (z++[c]) d=dm1 c (dms z d)
 | [],_=>rfl
 | a::z,d=>Z8o c z (dm1 a d)
theorem ZaR (p q:Int):∀ (m:Nat) (z:List Nat),z.length=m->Sq.St z->act (tb4 z) p q=dms z (p,q)
 | 0,z,hm,_=>by
  obtain rfl:z=[]:=Y25.mp hm;show (1*p+0*q,0*p+1*q)=(p,q);simp
 | m+1,z,hm,hz=>by
  have hne:z≠[]:=fun e=>by rw[e]at hm;simp at hm
  have ez:=Y4r hne;generalize z.getLast hne=c at ez;generalize z.dropLast=y at ez;subst ez;have hl:y.length=m:=by simpa using hm
  have ih:=ZaR p q m y hl fun b hb=>hz b (Y4p _ hb);obtain⟨p',q',e⟩:∃ p' q',dms y (p,q)=(p',q'):=⟨_,_,rfl⟩;rw[e]at ih;rw[Z8o,e];rcases hz c (Y0a _ (Y0k.mpr rfl)) with h|h
  ·subst h;rw[ZjA ih];rfl
  ·subst h;rw[Zk4 ih];rfl
theorem ZfZ {n:Nat}{r u:List Nat}(rr:Row n r)(ru:Row n u)(c:Nat):∃ w,Row n w/\∀ s,nx w s=mvE r u s c:=by
 unfold mvE
 by_cases h1:c=114
 ·exact⟨r,rr,fun s=>by rw[if_pos h1]⟩
 by_cases h2:c=108
 ·exact⟨back r,rr.back,fun s=>by rw[if_neg h1,if_pos h2]⟩
 by_cases h3:c=117
 ·exact⟨u,ru,fun s=>by rw[if_neg h1,if_neg h2,if_pos h3]⟩
 ·exact⟨back u,ru.back,fun s=>by rw[if_neg h1,if_neg h2,if_neg h3]⟩
theorem ZbH {n:Nat}{r u:List Nat}(rr:Row n r)(ru:Row n u)(w:List Nat):∀ k,Row n ((Y02 n).map (goL r u (w.take k)))
 | 0=>by
  rw[List.take_zero,show goL r u ([]:List Nat)=id from rfl,List.map_id];exact Row.of_perm (List.Perm.refl _)
 | k+1=>by
  have ih:=ZbH rr ru w k;rcases Y0q k w.length with c|c
  ·obtain⟨w',hw',e⟩:=ZfZ rr ru w[k];have:(Y02 n).map (goL r u (w.take (k+1)))=cmp n w' ((Y02 n).map (goL r u (w.take k))):=by
    unfold cmp;refine Y1x fun s hs=>?_;rw[Y1j,Y01 c];show goL r u (w.take k++[w[k]]) s=_;rw[Z8Q,<-e,Zfp (Y06.mp hs)]
   rw[this];exact Vl hw' ih
  ·rw[Y4a (by lia)];rw[Y4a c]at ih;exact ih
noncomputable abbrev Pw (n:Nat)(r u:List Nat)(p q x y:Int):List Nat:=(Y02 n).map (goL r u (YQ p q x y (p.natAbs+q.natAbs)))
section
variable {n:Nat}{r u:List Nat}{p q x y:Int}
theorem R8 (rr:Row n r)(ru:Row n u):Row n (Pw n r u p q x y):=by
 have:=ZbH rr ru (YQ p q x y (p.natAbs+q.natAbs)) (YQ p q x y (p.natAbs+q.natAbs)).length
 rwa [Y2n]at this
theorem TZ (rr:Row n r)(ru:Row n u)(hne:¬ (p=0/\q=0))(x0:0<x)(x1:x<61)(y0:0<y)(y1:y<61)(nc:NoC p q x y 61){s:Nat}(hs:s<n):Wv n (r,u) (p,q) (U6 x 61 y 61 p q) (A6 x 61 y 61 p q s) (1*U6 x 61 y 61 p q) (A6 x 61 y 61 p q (nx (Pw n r u p q x y) s)):=by
 obtain⟨s',hs',hR⟩:=Zcz (n:=n) (x:=(r,u)) (S:=1) ⟨rr,ru⟩ hne (show 0<=x by lia) x1 (show 0<=y by lia) y1 nc (by decide) hs;have e:=ZeJ (x:=(r,u)) ⟨rr,ru⟩ hne x0 x1 y0 y1 nc hs hR;have:nx (Pw n r u p q x y) s=s':=by rw[Zfp hs];exact e
 rw[this];exact hR
theorem Zaj (rr:Row n r)(ru:Row n u)(hne:¬ (p=0/\q=0))(x0:0<x)(x1:x<61)(y0:0<y)(y1:y<61)(nc:NoC p q x y 61){s:Nat}(hs:s<n):∀ k:Nat,Wv n (r,u) (p,q) (U6 x 61 y 61 p q) (A6 x 61 y 61 p q s) ((k:Int)*U6 x 61 y 61 p q) (A6 x 61 y 61 p q (it (Pw n r u p q x y) s k))
 | 0=>by
  have h:=TZ rr ru hne x0 x1 y0 y1 nc hs;rw[show ((0:Nat):Int)*U6 x 61 y 61 p q=0 by simp];exact .nil _ (UB h)
 | k+1=>by
  have ih:=Zaj rr ru hne x0 x1 y0 y1 nc hs k;have hk:=Zk (R8 (p:=p) (q:=q) (x:=x) (y:=y) rr ru) hs k;have h:=TZ rr ru hne x0 x1 y0 y1 nc hk;have o:=RZ (i:=x) (j:=y) (p:=p) (q:=q) (show (0:Int)<61 by decide) hne;have a6:=ZfI (p:=p) (q:=q) hs (show 0<=x by lia) x1 (show 0<=y by lia) y1;have:=Z8k rr ru o ih a6 (by have:=o.u;lia) h;rw[show ((k+1:Nat):Int)*U6 x 61 y 61 p q=(k:Int)*U6 x 61 y 61 p q+1*U6 x 61 y 61 p q by rw[<-Y2j];congr 1];exact this
theorem Zg1 {C:Addr}{H:Hp}{t:Addr}{s:Nat}(rr:Row n r)(ru:Row n u)(hne:¬ (p=0/\q=0))(x0:0<x)(x1:x<61)(y0:0<y)(y1:y<61)(nc:NoC p q x y 61)(hs:s<n)(h:Zeu C H t n s r u x 61 y 61 p q):H t=some (.tup [.str (Str.ofString "back"),.int ((cyc n (Pw n r u p q x y) s).length:Int)]):=by
 obtain⟨f,f0,f1,_,h⟩:=h;have step:∀ k:Nat,(∀ j,j<k->Wv n (r,u) (p,q) (U6 x 61 y 61 p q) (A6 x 61 y 61 p q (f j)) (1*U6 x 61 y 61 p q) (A6 x 61 y 61 p q (f (j+1))))->∀ j,j<=k->f j=it (Pw n r u p q x y) s j:=fun k hk j=>by
  induction j with
  | zero=>intro _;exact f0
  | succ j ih=>
   intro hj;have e:=ih (by lia);have h1:=hk j (by lia);have h2:=TZ rr ru hne x0 x1 y0 y1 nc (f1 j);have h3:=congrArg Spt.s (Z8w h1 h2);show f (j+1)=nx (Pw n r u p q x y) (it (Pw n r u p q x y) s j);rw[<-e];exact h3
 rcases h with ⟨k,h1,k1,fk,fm,fr⟩|⟨k,pt,v,T,b,h1,kn,h2,h3,h4,h5,h6,fr,hH⟩
 ·have st:=step k fr;have pr:=R8 (p:=p) (q:=q) (x:=x) (y:=y) rr ru;obtain⟨p1,p2⟩:=XJ pr hs;have hper:1<=per n (Pw n r u p q x y) s:=by unfold per;lia
  have ek:k=per n (Pw n r u p q x y) s:=by
   rcases Y3p k (per n (Pw n r u p q x y) s) with c|c|c
   ·exact absurd (by rw[<-st k (Y05 _),fk]) (p2 k k1 c)
   ·exact c
   ·exact absurd (by rw[st _ (by lia),p1]) (fm _ hper c)
  rw[X5,<-ek];exact h1
 ·exact absurd (TZ rr ru hne x0 x1 y0 y1 nc (f1 k)) (fun h=>Z9J hH h)
theorem Zdl (sh:Zg n r u)(hg:Y1v p q=1)(hp:p.natAbs<=60)(hq:q.natAbs<=60)(x0:0<x)(x1:x<61)(y0:0<y)(y1:y<61)(nc:NoC p q x y 61){ps:List Pr}(hps:ps.Perm ((NB n (mvs n (YI (lq p q)) (r,u))).map W9))(L:Nat) :
  ((Y02 n).map fun s=>(cyc n (Pw n r u p q x y) s).length).count L=L*(ps.map fun b=>if b.1=L then b.2 else 0).sum:=by
 have rr:=sh.row;have ru:=sh.col;have hne:¬ (p=0/\q=0):=by rintro ⟨rfl,rfl⟩;simp at hg
 obtain⟨e1,hst,e3⟩:=Zfm hp hq hg;have hd:dms (YI (lq p q)) (p,q)=(1,0):=by
  rw[<-ZaR p q _ _ rfl hst,e1];exact e3
 have pr:=R8 (p:=p) (q:=q) (x:=x) (y:=y) rr ru;obtain⟨f,hf,hc⟩:=Z9f (x:=(r,u)) (i:=x) (j:=y) (B:=61) ⟨rr,ru⟩ hne hd (by lia) x1 (by lia) y1 (π:=nx (Pw n r u p q x y)) (fun s hs=>pr.nlt hs) (fun s hs=>TZ rr ru hne x0 x1 y0 y1 nc hs);have sh':=SS (YI (lq p q)) (x:=(r,u)) sh;rw[ZcE pr sh'.row hf hc,ZaH sh'.row];obtain⟨_,_,_,k4⟩:=Ze6 sh' (as:=Y0c (NB n (mvs n (YI (lq p q)) (r,u))).length 0) (bs:=NB n (mvs n (YI (lq p q)) (r,u))) (by simp) (List.Perm.refl _);rw[k4 L];have e:=(hps.map fun b:Pr=>if b.1=L then b.2 else 0).sum_nat;rw[e,Y1n]
 rfl
end
theorem Zh5 {x:Int}(h0:0<x)(h1:x<61):Z1 x 61=x/\Z8 x 61=61:=by
 have:∀ k:Fin 61,0<k.val->Z1 (k.val:Int) 61=(k.val:Int)/\Z8 (k.val:Int) 61=61:=by decide +kernel
 have:=this ⟨x.toNat,by lia⟩ (by show 0<x.toNat;lia);have e:((⟨x.toNat,by lia⟩:Fin 61).val:Int)=x:=by show ((x.toNat:Nat):Int)=x;lia
 rwa [e]at this
abbrev Zku (p q:Int):Prop:=Way p q/\Y1v p q=1
def ZfJ (CN:Addr):Sp:=fun vs H Q E=>∃ p q:Int,vs=[.int p,.int q]/\(Zku p q->Q .non H)/\(¬ Zku p q->∀ H':Hp,Z5 H H'->E (.ref CN) none H')
section
variable {P:Program}{w:World}{K:Y00}{mg:Str->Option Value}{base:Heap}
noncomputable abbrev Zju:List Str:=["p","q"]
theorem Zhz:ZL Zju ["p","q"] (ZV VM):=⟨rfl,rfl,rfl,by decide +kernel,rfl,by decide +kernel,by decide +kernel⟩
theorem Zgf {f fn fc:Addr}{fd dn dc:FuncData}{CN:Addr}(hC:YT K CN)(hCm:mg "NoWay"=some (.ref CN))(F:Fn K mg "need_straight_way" VM ["p","q"] f fd)(FN:Fn K mg "need_way" Vv ["p","q"] fn dn)(GN:Z4 P w K mg base (CX1 P w) 1 fn dn ["p","q"] (ZfQ CN))
  (FC:Fn K mg "common_divisor" VL ["one","other"] fc dc) (GC:Z4 P w K mg base CX0 1 fc dc ["one","other"] ZjN):Z4 P w K mg base (CX1 P w) 2 f fd ["p","q"] (ZfJ CN):=by
 refine F.F.ok1 Zhz (fun vs H Q E h=>?_) (fun cdv A outer s H vs Q E hr h=>?_)
 ·obtain⟨p,q,rfl,_⟩:=h;rfl
 ·obtain⟨p,q,rfl,k1,k2⟩:=h;have hr1:ZP 1 _:=hr.mono (by decide);refine⟨_,(Z3 (YB (ZT GN hr1 rfl FN.m FN.F.kp FN.b .nil (VY fun _ _ _ z=>z) (Z9 (pv 0) (Z9 (pv 1) Z7))))
   (ZY (Zy (ZE Ye (ZT GC hr1 rfl FC.m FC.F.kp FC.b .nil ZQ (Z9 (pv 0) (Z9 (pv 1) Z7))) Z6 (ZH _)) (ZY (Wp rfl hC rfl hCm Wd (Z9 Zt Z7))) Zw))),?_⟩
  refine⟨_,rfl,_,rfl,p,q,rfl,fun hw=>?_,fun hw H' s'=>k2 (fun z=>hw z.1) H' s'⟩;refine⟨_,rfl,_,rfl,p,q,rfl,_,_,rfl,rfl,_,rfl,?_⟩
  by_cases hg:Y1v p q=1
  ·rw[hg];refine ZJ ?_;exact k1 ⟨hw,hg⟩
  ·have h0:Y1v p q≠0:=fun z=>hw.2.2 (Int.gcd_eq_zero_iff.mp z);rw[decide_eq_true (by omega)];refine Zz ?_;exact⟨by show 1<=sizeLine;decide,k2 (fun z=>hg z.2) _ (Z5.refl _)⟩
end
noncomputable abbrev Ru:Stmt:=Z7O ZfW 1
def Zgp (C:Addr):Sp:=fun vs H Q _=>∃ (p q:Addr) (t b t2 b2:Int),vs=[.ref p,.ref q]/\YV C H p t b/\YV C H q t2 b2/\0<b/\0<b2/\Bt 1000 t/\Bt 1000 b/\Bt 1000 t2/\Bt 1000 b2/\
 ∀ (H':Hp) (x:Addr),Z5 H H'->H x=none->YV C H' x (Z1 (t*b2+t2*b) (b*b2)) (Z8 (t*b2+t2*b) (b*b2))->Q (.ref x) H'
section
variable {P:Program}{w:World}{K:Y00}{mg:Str->Option Value}{base:Heap}
theorem Zj0:ZL ["self","other"] ["self","other"] (ZV Ru):=⟨rfl,rfl,rfl,by decide +kernel,rfl,by decide +kernel,by decide +kernel⟩
theorem Zfa {f fi C CN:Addr}{fd fdi:FuncData}(T:PTx K mg C)(M:Mk K C fi)(bI:YU K fdi ["self","top","bottom"] [])(GI:Z4 P w K mg base (CX1 P w) 2 fi fdi ["self","top","bottom"] (Xu C CN))
  (F:MFn K C "plus" "Part.plus" Ru ["self","other"] f fd):Z4 P w K mg base CX0 4 f fd ["self","other"] (Zgp C):=by
 refine F.F.ok Zj0 (fun vs H Q E h=>?_) (fun cdv A outer s H vs Q E hr h=>?_)
 ·obtain⟨p,q,t,b,t2,b2,rfl,_⟩:=h;rfl
 ·obtain⟨p,q,t,b,t2,b2,rfl,⟨dp,hp⟩,⟨dq,hq⟩,p1,p2,h1,h2,h3,h4,k⟩:=h;refine⟨_,ZY (ZO (Wg M GI hr rfl T.mgC bI .nil Yh (Z9 (ZX Zd (ZX YH (YA (pv 0) rfl) (YA (pv 1) rfl)) (ZX YH (YA (pv 1) rfl) (YA (pv 0) rfl))) (Z9 (ZX YH (YA (pv 0) rfl) (YA (pv 1) rfl)) Z7)))),?_⟩;refine⟨_,rfl,p,C,dp,_,_,rfl,hp,T.cl,T.nT,Vu _ _,_,rfl,q,C,dq,_,_,rfl,hq,T.cl,T.nB,Xy _ _,_,_,rfl,rfl,⟨h1.mono (by decide),h4.mono (by decide)⟩,_,rfl,q,C,dq,_,_,rfl,hq,T.cl,T.nT,Vu _ _,_,rfl,p,C,dp,_,_,rfl,hp,T.cl,T.nB,Xy _ _,_,_,rfl,rfl,⟨h3.mono (by decide),h2.mono (by decide)⟩,_,_,rfl,rfl,?_⟩;refine⟨_,rfl,p,C,dp,_,_,rfl,hp,T.cl,T.nB,Xy _ _,_,rfl,q,C,dq,_,_,rfl,hq,T.cl,T.nB,Xy _ _,_,_,rfl,rfl,⟨h2.mono (by decide),h4.mono (by decide)⟩,?_⟩;have hb:0<b*b2:=Y13 p1 p2;exact Zhc (by omega) ((h2.mul h4).mono (by decide)) k
end
def ZhM (C:Addr):Sp:=fun vs H Q _=>∃ (a l:Addr) (n sq:Nat) (r u:List Nat) (tx bx ty by_ p q:Int),vs=[.ref a,.ref l,.int p,.int q]/\Zn H a r u/\Row n r/\Row n u/\n<=36/\P3 C H l sq (Z1 tx bx) (Z8 tx bx) (Z1 ty by_) (Z8 ty by_)/\sq<n/\0<=tx/\tx<bx/\0<=ty/\ty<by_/\Bt 60 (Z8 tx bx)/\Bt 60 (Z8 ty by_)/\Zku p q/\
 ∀ (H':Hp) (t:Addr),Z5 H H'->Zeu C H' t n sq r u tx bx ty by_ p q->Q (.ref t) H'
theorem ZfL {t u:TT}{σ:St}{H:Hp}{R:Bool->Hp->Prop}(a b:Bool)(ht:∀ R:Bool->Hp->Prop,R a H->t σ H R)(hu:∀ R:Bool->Hp->Prop,R b H->u σ H R)(k:R (a||b) H):tOr t u σ H R:=by
 refine ht _ ?_;cases a with
 | true=>exact k
 | false=>exact hu R k
theorem Zi6 {t U:Int}{k:Nat}(hU:0<U):Z1 (Z1 t U*Z8 (k:Int) 1+Z1 (k:Int) 1*Z8 t U) (Z8 t U*Z8 (k:Int) 1)=Z1 (t+(k:Int)*U) U/\Z8 (Z1 t U*Z8 (k:Int) 1+Z1 (k:Int) 1*Z8 t U) (Z8 t U*Z8 (k:Int) 1)=Z8 (t+(k:Int)*U) U:=by
 have p1:=YD (t:=t) (b:=U) (by lia);have p2:=YD (t:=(k:Int)) (b:=1) (by decide);have c1:=Wr (i:=t) (B:=U);have c2:=Wr (i:=(k:Int)) (B:=1);refine Zdr (Y13 p1 p2) hU ?_;generalize Z1 t U=z at *;generalize Z8 t U=v at *;generalize Z1 (k:Int) 1=z2 at *;generalize Z8 (k:Int) 1=v2 at *;rw[Y33]at c2;subst c2;have a1:(z*v2+(k:Int)*v2*v)*U=(z*U)*v2+(k:Int)*v2*v*U:=by rw[Y2j,Y0f z,Y0d v2 U,<-Y0f]
 rw[a1,c1,Y2j];congr 1
 ·rw[Y0f]
 ·simp only[Y0f,Y0d,Y19]
section
variable {P:Program}{w:World}{K:Y00}{mg:Str->Option Value}{base:Heap}
noncomputable abbrev Zkn:List Str:=["sheet","place","p","q","here","steps","told"]
theorem Vb:ZL Zkn ["sheet","place","p","q"] (ZV UM):=⟨rfl,rfl,rfl,by decide +kernel,rfl,by decide +kernel,by decide +kernel⟩
set_option maxHeartbeats 1000000 in
theorem ZgY {f fn fs fv:Addr}{fd dn ds dv:FuncData}{C CP CY CN fi f1:Addr}{di d1:FuncData}{tk:Tok}(T:PTx K mg C)(M:Mk K C fi)(bJ:YU K di ["self","top","bottom"] [.int 1 tk])(GI:Z4 P w K mg base (CX1 P w) 2 fi di ["self","top","bottom"] (Xu C CN))(F1:MFn K C "plus" "Part.plus" Ru ["self","other"] f1 d1)(G1:Z4 P w K mg base CX0 4 f1 d1 ["self","other"] (Zgp C))(F:Fn K mg "back_after" UM ["sheet","place","p","q"] f fd)(FN:Fn K mg "need_place" VG ["sheet","place"] fn dn)(GN:Z4 P w K mg base (CX1 P w) 3 fn dn ["sheet","place"] (Zfh C CP))
  (FS:Fn K mg "need_straight_way" VM ["p","q"] fs ds) (GS:Z4 P w K mg base (CX1 P w) 2 fs ds ["p","q"] (ZfJ CY))
  (FV:Fn K mg "walked" Vq ["sheet","place","p","q","steps"] fv dv) (GV:Z4 P w K mg base CX0 8 fv dv ["sheet","place","p","q","steps"] (ZfV C)):Z4 P w K mg base (CX1 P w) 9 f fd ["sheet","place","p","q"] (ZhM C):=by
 refine F.F.ok1 Vb (fun vs H Q E h=>?_) (fun cdv A outer s H vs Q E hr h=>?_)
 ·obtain⟨a,l,n,sq,r,u,tx,bx,ty,by_,p,q,rfl,_⟩:=h;rfl
 ·obtain⟨a,l,n,sq,r,u,tx,bx,ty,by_,p,q,rfl,ha,rr,ru,hn,hP,hsn,x0,x1,y0,y1,bX,bY,hw,kk⟩:=h;have hr4:ZP 4 _:=hr.mono (by decide);have hv1:ZN [.int 1] [.int 1 tk]:=.cons ⟨_,rfl⟩ .nil;have hr1:ZP 1 _:=hr.mono (by decide);have hr2:ZP 2 _:=hr.mono (by decide);have hr3:ZP 3 _:=hr.mono (by decide);have hr8:ZP 8 _:=hr.mono (by decide);refine⟨_,(Z3 (YB (ZT GN hr3 rfl FN.m FN.F.kp FN.b .nil (VY fun _ _ _ z=>z) (Z9 (pv 0) (Z9 (pv 1) Z7))))
   (Z3 (YB (ZT GS hr2 rfl FS.m FS.F.kp FS.b .nil (VY fun _ _ _ z=>z) (Z9 (pv 2) (Z9 (pv 3) Z7))))
   (PSs.nox (Z3 (ZW (i:=4) Vb.nd rfl (Or.inl rfl) (pv 1))
   (Z3 (ZW (i:=5) Vb.nd rfl (Or.inl rfl) Z6)
   (Z3 (XU PassesOwn.never (PW.pt (YK (ZE Y7 (pv 5) Z6 (ZH _)) (XH (ZE Yr (Z2 ZZ (pv 4) Z6 (fun _ _=>rfl)) (Z2 ZZ (pv 1) Z6 (fun _ _=>rfl)) (ZH _))))) (Z3 (ZW (i:=6) Vb.nd rfl (Or.inl rfl) (ZT GV hr8 rfl FV.m FV.F.kp FV.b .nil ZQ (Z9 (pv 0) (Z9 (pv 4) (Z9 (pv 2) (Z9 (pv 3) (Z9 Z6 Z7)))))))
   (Z3 (Zy (ZE Y7 (Z2 ZZ (pv 6) Z6 (fun _ _=>rfl)) Zt (ZH _)) (ZY (ZO (Zq (Z9 Zt (Z9 (Z2 ZZ (pv 6) Z6 (fun _ _=>rfl)) (Z9 (ZeA (Z2 ZZ (pv 6) Z6 (fun _ _=>rfl)) T.cl F1.m G1 hr4 F1.b .nil ZQ (Z9 (Wg M GI hr3 rfl T.mgC bJ hv1 Yh (Z9 (pv 5) Z7)) Z7)) Z7)))))) Zw)
   (Z3 (ZW (i:=4) Vb.nd rfl (Or.inl rfl) (Z2 ZZ (pv 6) Z6 (fun _ _=>rfl)))
   (ZY (Zbj (i:=5) Vb.nd rfl (Or.inl rfl) Z6 ZaL))))))
   (ZY (ZO (Zq (Z9 Zt (Z9 (pv 5) Z7))))))))))),?_⟩
  have three:3<=sizeLine:=by decide
  obtain⟨px,py,hl,hx,hy⟩:=id hP;obtain⟨gx0,gx1,p0,_⟩:=Xt (show 0<bx by lia) x0 x1;obtain⟨gy0,gy1,p1,_⟩:=Xt (show 0<by_ by lia) y0 y1;have good:Ts n (sq:Int) (Z1 tx bx) (Z8 tx bx) (Z1 ty by_) (Z8 ty by_):=⟨by lia,by lia,Y35 gx0 gx1,Y35 gy0 gy1⟩;refine⟨_,rfl,_,rfl,a,l,(sq:Int),px,py,_,_,_,_,r,u,rfl,ha,hl,hx,hy,p0,p1,bX.mono (by decide),bY.mono (by decide),fun _=>?_,fun g=>by rw[rr.len]at g;exact absurd good g⟩;refine⟨_,rfl,_,rfl,p,q,rfl,fun _=>?_,fun z=>absurd hw z⟩;have o:=TV (p:=p) (q:=q) p0 p1 hw.1.2.2;have hM:0<=1*unU (Z8 tx bx) (Z8 ty by_) p q:=by have:=o.u;lia
  have in0:=U1 (p:=p) (q:=q) gx0 gx1 gy0 gy1 hM;obtain⟨e,he⟩:=Zby o in0;have hUb:=Zev bX bY hw.1.1 hw.1.2.1;obtain⟨g,hg⟩:∃ g:Nat->Nat,g=ZC r u (W5 (Z1 tx bx) (Z8 tx bx) (Z1 ty by_) (Z8 ty by_) p q 1 e).w:=⟨_,rfl⟩;have hlt:∀ s,s<n->g s<n:=fun s hs=>by rw[hg];exact WR rr ru _ hs
  have inj:∀ s s',s<n->s'<n->g s=g s'->s=s':=fun s s' h h'=>by rw[hg];exact Z8h rr ru _ h h'
  refine⟨_,rfl,?_⟩;refine WT (fun σ H2=>∃ (k:Nat) (h:Addr) (o6:Option V),σ=[some (.ref a),some (.ref l),some (.int p),some (.int q),some (.ref h),some (.int (k:Int)),o6]/\Z5 H H2/\P3 C H2 h (orb g sq k) (Z1 tx bx) (Z8 tx bx) (Z1 ty by_) (Z8 ty by_)/\(∀ j,1<=j->j<k->orb g sq j≠sq)/\(∀ j,j<k->Run r u (Zj n (ZF r u)) p q (U6 tx bx ty by_ p q) (A6 tx bx ty by_ p q (orb g sq j)) (1*U6 tx bx ty by_ p q) (A6 tx bx ty by_ p q (orb g sq (j+1))))) (fun σ _=>muM (n:Int) 5 σ) ?_ ?_ ?_
  ·exact⟨0,l,_,rfl,Z5.refl H,hP,fun j h1 h2=>absurd h2 (Y1y _),fun j h2=>absurd h2 (Y1y _)⟩
  ·rintro σ H2 ⟨k,h,o6,rfl,s2,⟨qx,qy,g1,g2,g3⟩,hne,hfr⟩;have hl2:=s2 _ _ hl;have hok:=Xd hlt hsn k;refine ZfL (decide ((k:Int)=0)) (!decide ((orb g sq k:Int)=(sq:Int))) (fun R hR=>⟨_,rfl,rfl,_,rfl,by rw[TC];exact hR⟩) (fun R hR=>⟨_,rfl,h,_,0,_,rfl,rfl,SqT.of g1,Z0 (j:=0) rfl,_,rfl,l,_,0,_,rfl,rfl,SqT.of hl2,Z0 (j:=0) rfl,rfl,_,rfl,by rw[ZaZ];exact hR⟩) ?_
   by_cases hgo:k=0\/orb g sq k≠sq
   ·have e1:(decide ((k:Int)=0) || !decide ((orb g sq k:Int)=(sq:Int)))=true:=by
     rcases hgo with z|z
     ·rw[decide_eq_true (by lia)];rfl
     ·rw[decide_eq_false (p:=((orb _ sq k:Nat):Int)=(sq:Int)) (by lia)];simp
    rw[e1];refine Zz ?_;have hnk:∀ j,1<=j->j<=k->orb g sq j≠sq:=fun j j1 j2=>by
     by_cases ej:j=k
     ·subst ej;rcases hgo with z|z
      ·lia
      ·exact z
     ·exact hne j j1 (by lia)
    have kn:k<n:=ZfE hlt inj hsn hnk;refine⟨_,rfl,_,rfl,_,rfl,_,rfl,a,h,n,_,r,u,_,_,_,_,p,q,1,rfl,ha.same s2,rr,ru,hn,⟨qx,qy,g1,g2,g3⟩,hok,gx0,gx1,gy0,gy1,bX,bY,hw.1.1,hw.1.2.1,hw.1.2.2,by decide,by decide,?_⟩;refine Zcg rr ru hok (by decide) hw.1 x0 x1 y0 y1 (fun H3 t3 l3 s' s3 h3 p3 hs' hR hE=>?_) (fun H3 t3 pt v T bb s3 h3 lv p3 T0 T1 hH=>?_)
    ·have es:s'=orb g sq (k+1):=(by rw[hE e he];show _=g (orb g sq k);rw[hg]);rw[es]at p3 hR;refine⟨_,rfl,t3,_,0,_,rfl,rfl,SqT.of h3,Z0 (j:=0) rfl,rfl,_,rfl,?_⟩;rw[decide_eq_false (show ¬ V.str (Str.ofString "there")=V.str (Str.ofString "corner") by decide +kernel)];refine ZJ ?_;refine⟨_,rfl,t3,_,1,_,rfl,rfl,SqT.of h3,Z0 (j:=1) rfl,?_⟩;refine⟨_,rfl,_,_,rfl,rfl,⟨k+1,l3,_,rfl,s2.trans s3,p3,fun j j1 j2=>hnk j j1 (by lia),fun j j2=>?_⟩,?_⟩
     ·by_cases ej:j=k
      ·subst ej;exact hR
      ·exact hfr j (by lia)
     ·show ((n:Int)-((k:Int)+1)).toNat<((n:Int)-(k:Int)).toNat;lia
    ·refine⟨_,rfl,t3,_,0,_,rfl,rfl,SqT.of h3,Z0 (j:=0) rfl,rfl,_,rfl,?_⟩;rw[decide_eq_true rfl];refine Zz ?_;refine⟨_,rfl,t3,_,1,_,rfl,rfl,SqT.of h3,Z0 (j:=1) rfl,?_⟩;obtain⟨dpt,hdp⟩:=id p3;have o1:0<U6 tx bx ty by_ p q:=o.u;have lT:=Za9 (t:=T) (b:=U6 tx bx ty by_ p q) (by lia);have lB:=Zb1 (t:=T) (b:=U6 tx bx ty by_ p q) (by lia);have hb200:(U6 tx bx ty by_ p q).natAbs<2^200:=hUb;have bT:Bt 1000 (Z1 T (U6 tx bx ty by_ p q)):=Bt.mono (n:=200) (by show (Z1 T _).natAbs<2^200;lia) (by decide);have bB:Bt 1000 (Z8 T (U6 tx bx ty by_ p q)):=Bt.mono (n:=200) (by show (Z8 T _).natAbs<2^200;lia) (by decide);have kT:=Za9 (t:=(k:Int)) (b:=1) (by decide);have kB:=Zb1 (t:=(k:Int)) (b:=1) (by decide);have e60:(2:Nat)^60=1152921504606846976:=(by decide);have bkT:Bt 1000 (Z1 (k:Int) 1):=Bt.mono (n:=60) (by show (Z1 (k:Int) 1).natAbs<2^60;lia) (by decide);have bkB:Bt 1000 (Z8 (k:Int) 1):=Bt.mono (n:=60) (by show (Z8 (k:Int) 1).natAbs<2^60;lia) (by decide);refine⟨_,rfl,t3,_,2,_,rfl,rfl,SqT.of h3,Z0 (j:=2) rfl,pt,dpt,_,rfl,hdp,Zbh _ _ (by decide +kernel) (by decide +kernel),_,rfl,?_⟩;intro x dx nx ndx ne;refine Vr (t:=(k:Int)) (b:=1) (by decide) (Bt.mono (n:=60) (by show (1:Int).natAbs<2^60;decide) (by decide)) nx ndx fun H4 s4 p4=>⟨rfl,?_⟩;refine⟨pt,x,_,_,_,_,rfl,p3.same s4,p4,YD (by lia),YD (by decide),bT,bB,bkT,bkB,fun H5 y s5 _ p5=>?_⟩;rw[(Zi6 o1).1,(Zi6 o1).2]at p5;refine⟨three,fun t6 ht6=>?_⟩;have s6:=ZS (o:=.tup [.str (Str.ofString "corner"),v,.ref y]) (Z5.refl H5) ht6;exact kk _ t6 (s2.trans (s3.trans (s4.trans (s5.trans s6)))) ⟨orb g sq,rfl,fun j=>Xd hlt hsn j,Zaz hlt inj hsn,.inr ⟨k,y,v,T,bb,ZR,kn,lv,p5.same s6,T0,T1,hnk,hfr,hH⟩⟩
   ·have e1:(decide ((k:Int)=0) || !decide ((orb g sq k:Int)=(sq:Int)))=false:=by
     rw[decide_eq_false (p:=(k:Int)=0) (by lia),decide_eq_true (p:=((orb _ sq k:Nat):Int)=(sq:Int)) (by lia)];rfl
    rw[e1];refine ZJ ?_;refine⟨_,rfl,by show 2<=sizeLine;decide,fun t ht=>?_⟩;exact kk _ t (ZS s2 (s2.free ht)) ⟨orb g sq,rfl,fun j=>Xd hlt hsn j,Zaz hlt inj hsn,.inl ⟨k,ZR,by lia,by lia,hne,hfr⟩⟩
  ·rintro σ H Q Q' h' ⟨v,e1,e2,b,e3,q⟩;refine⟨v,e1,e2,b,e3,?_⟩;cases b with
   | true=>exact h' _ _ q
   | false=>
    rw[if_neg (by decide)]at q ⊢;obtain⟨v1,f1,f2,f3,f4,f5,f6,f7,f8,f9,v2,c1,c2,c3,c4,c5,c6,c7,c8,c9,d1,b',d2,q'⟩:=q;exact⟨v1,f1,f2,f3,f4,f5,f6,f7,f8,f9,v2,c1,c2,c3,c4,c5,c6,c7,c8,c9,d1,b',d2,h' _ _ q'⟩
end
end K1
namespace L2
open PySem PySem.Spec PyProof.Rows
section
variable {X:Cx}{tg:Expr}
end
section
variable {X:Cx}
theorem Z8D:bootBuiltins "any"=some (.builtin "any"):=by decide +kernel
theorem Z3a (hc:X.calm=true):YW X (.builtin "any") (fun xs H Q=>∃ (p:Addr) (bs:List Bool),xs=[.ref p]/\SqL X.K H p (bs.map V.bl)/\Q (.bl (bs.any id)) H):=by
 intro pins s σ H xs us Q I r h;obtain⟨p,bs,rfl,hq,q⟩:=h;obtain⟨u,rfl,ru⟩:=YE r;obtain rfl:u=Value.ref p:=ru;obtain⟨its,rv,pl,hz⟩:=I.list hq;have hL:=pl.isList;have hlt:p<s.heap.objs.size:=by obtain⟨o,ho,_⟩:=id hL;exact Y09 ho
 have hlen:its.length=bs.length:=by rw[<-rv.length];simp
 refine call_any_walkS (wpAny_pyIter_list hL ⟨s.heap.objs.size,_,_,_,its.toArray.size,_,_,fun i=>bs.getD i false,rfl,(Walks.list (A:=X.A.in1) (I.ok.hd hc) s.heap.objs.size p (Y0j hlt) its.toArray).toS,⟨⟨_,Y0b _ rfl,rfl,rfl⟩,hL.push _⟩,?_,fun s' hm=>?_⟩)
 ·intro i v s2 Q2 E2 hP hQ;have hv:its[i]?=some v:=by simpa using hP
  have hi:i<bs.length:=by rw[<-hlen];exact (Y08.mp hv).1
  have hb:(bs.map V.bl)[i]?=some (.bl bs[i]):=by simp[hi]
  obtain⟨u,hu,ru⟩:=rv.get hb;rw[hv]at hu;cases hu;obtain rfl:v=Value.bool bs[i]:=ru;have e:bs.getD i false=bs[i]:=by simp[Y04,hi]
  simp only[e]at hQ;exact wpAny_truthy_bool hQ
 ·rw[Moved.eq_with hm];refine⟨.bl _,H,I.kept (h':=s'.heap) (t':=s'.toks) fun b o e=>hm.heap b o (fun z=>?_) (Y03 _ e),rfl,?_⟩
  ·exact absurd (Y09 e) (by rw[Y0k.mp z];exact Y2d _)
  ·have e:(Y02 its.toArray.size).any (fun i=>bs.getD i false)=bs.any id:=by
    have:its.toArray.size=bs.length:=by simpa using hlen
    rw[this];apply Y2b.mpr;simp only[Y1e,Y06,id];constructor
    ·rintro ⟨i,hi,h⟩;refine⟨bs[i],Y2m hi,?_⟩
     simpa [Y04,hi] using h
    ·rintro ⟨b,hb,h⟩;obtain⟨i,hi,rfl⟩:=Y1i.mp hb;exact⟨i,hi,by simpa [Y04,hi] using h⟩
   rw[e];exact q
end
end L2
namespace K1
open PySem L2 Sq
theorem Zct {K:Y00}{Hc:Hp}{p:Addr}{r:List Nat}{tl te:TE}{pull:List Nat}{Q:VK}{σ:St}{rest:St}(g:Nat->Bool)(hj:∀ R:VK,R (.ref p) Hc->tl σ Hc R)(hp:Hc p=some (.lst (nv r)))(hb:bst 1 pull σ=none::rest)
  (hte:∀ (x:Nat) (H:Hp) (R:VK),x∈r->Z5 Hc H->R (.bl (g x)) H->te (some (.int (x:Int))::rest) H R) (hm:r.length<=1000)
  (k:∀ (H':Hp) (d:Addr),Z5 Hc H'->Hc d=none->H' d=some (.lst ((r.map g).map V.bl))->Q (.ref d) H') :
  Yq (XZ K tl) 1 pull (Zs 0) te σ Hc Q:=by
 refine hj _ ⟨p,rfl,⟨_,SqL.of hp⟩,fun d hd=>?_⟩;rw[hb];refine Xg (J:=Itl K p) (Q:=fun d H'=>Q (.ref d) H') r.length ((r.map g).map V.bl) (by simp) (fun i σ H9=>(∃ o,σ=o::rest)/\Z5 Hc H9) ⟨⟨_,rfl⟩,ZS (Z5.refl _) hd⟩ ?_ ?_
 ·rintro i σ H9 hi ⟨⟨o,rfl⟩,s9⟩ hd9;have hq:=SqL.of (K:=K) (s9 _ _ hp);have hmi:=Zp (Y01 hi);refine⟨⟨_,_,hq,hmi⟩,fun y H4 ⟨e1,hy⟩=>?_⟩;subst e1;have hy:=hy _ hq;rw[hmi]at hy;cases hy;refine hte _ _ _ (Y2m hi) s9 ?_;exact WA hi hm hd9 (by simp[hi]) ⟨⟨_,rfl⟩,ZS s9 hd⟩
 ·rintro σ H9 ⟨⟨o,rfl⟩,s9⟩ hd9;exact⟨⟨_,SqL.of (s9 _ _ hp),by rw[ZA];exact Y05 _⟩,k H9 d s9 hd hd9⟩
def Rw:Sp:=fun vs H Q _=>∃ (p q:Addr) (E S:List Nat),vs=[.ref p,.ref q]/\H p=some (.lst (nv E))/\H q=some (.lst (nv S))/\S.length<=1000/\∀ H':Hp,Z5 H H'->Q (.bl (Zx E S)) H'
section
variable {P:Program}{w:World}{K:Y00}{mg:Str->Option Value}{base:Heap}
noncomputable abbrev n_ha:List Str:=["edge","squares"]
theorem ZkI:ZL n_ha ["edge","squares"] (ZV Wo):=⟨rfl,rfl,rfl,by decide +kernel,rfl,by decide +kernel,by decide +kernel⟩
theorem Zj7:(["square","edge"]:List Str).Nodup:=by decide +kernel
theorem Zjv {f:Addr}{fd:FuncData}(T:Bi mg)(T_any:mg "any"=none)(F:Fn K mg "has_some" Wo ["edge","squares"] f fd):Z4 P w K mg base CX0 1 f fd ["edge","squares"] Rw:=by
 refine F.F.ok ZkI (fun vs H Q E h=>?_) (fun cdv A outer s H vs Q E hr h=>?_)
 ·obtain⟨p,q,E0,S,rfl,_⟩:=h;rfl
 ·obtain⟨p,q,E0,S,rfl,hp,hq,l1,k⟩:=h;refine⟨_,(ZY (ZO (ZG (Z3a rfl) rfl T_any Z8D (Z9 (Ym (N:=n_ha) (names:=(ZV Wo).names) (N':=["square","edge"]) (k:=1) (pull:=[0]) (te:=(tOp (rIn K false) (ZU 0) (ZU 1))) rfl ⟨by rfl,by decide +kernel,by decide +kernel,by rfl,by decide +kernel,by decide +kernel⟩ rfl rfl (Yl (pv 1)) (fun _ _ _ _ _ _=>Zu (i:=0) Zj7 rfl (Or.inl rfl)) (fun _ _ _ _ _ _=>(XO Z5m (pv 0) (pv 1) (by with_unfolding_all rfl)))) Z7)))),?_⟩;dsimp only [Ya,tCB,ZI];refine Zct (p:=q) (r:=S) (rest:=[some (.ref p)]) (fun x=>decide (x∈E0)) (fun R hR=>⟨_,rfl,hR⟩) hq rfl (fun x H2 R hx s2 hR=>?_) l1 fun H1 e s1 he0 he=>?_
  ·refine⟨_,rfl,_,rfl,p,_,rfl,.inl (SqL.of (s2 _ _ hp)),rfl,Sv _,?_⟩;rw[if_neg (by decide),Sb];exact hR
  ·refine⟨e,_,rfl,SqL.of he,?_⟩;have e2:(S.map fun x=>decide (x∈E0)).any id=Zx E0 S:=(by unfold Zx;rw[List.any_map];rfl);rw[e2];exact k _ s1
end
theorem Zbl {X:List Nat}{i:Nat}(h:i<X.length):X[i]?=some (nx X i):=by
 show X[i]?=some (X.getD i 0);rw[Y04,Y01 h];rfl
theorem Z9c {Hc:Hp}{m:Nat}{ta:TA}{te:TE}{pull:List Nat}{Q:VK}{σ:St}{rest:St}(g:Nat->Bool)(hj:∀ R:List V->Hp->Prop,R [.int (m:Int)] Hc->ta σ Hc R)(hb:bst 1 pull σ=none::rest)
  (hte:∀ (i:Nat) (H:Hp) (R:VK),i<m->Z5 Hc H->R (.bl (g i)) H->te (some (.int (i:Int))::rest) H R) (hm:m<=1000)
  (k:∀ (H':Hp) (d:Addr),Z5 Hc H'->Hc d=none->H' d=some (.lst (((Y02 m).map g).map V.bl))->Q (.ref d) H') :
  Yq (RW ta) 1 pull (Zs 0) te σ Hc Q:=by
 refine hj _ ⟨(m:Int),rfl,by lia,by lia,fun d hd=>?_⟩;rw[Y1g,hb];refine Xg (J:=Itr 0 m) (Q:=fun d H'=>Q (.ref d) H') m (((Y02 m).map g).map V.bl) (by simp) (fun i σ H9=>(∃ o,σ=o::rest)/\Z5 Hc H9) ⟨⟨_,rfl⟩,ZS (Z5.refl _) hd⟩ ?_ ?_
 ·rintro i σ H9 hi ⟨⟨o,rfl⟩,s9⟩ hd9;refine⟨hi,fun x H4 ⟨e1,e2⟩=>?_⟩;subst e1 e2;rw[show (0:Int)+(i:Int)=(i:Int) from by lia];refine hte i _ _ hi s9 ?_;exact WA hi (by lia) hd9 (by simp[hi]) ⟨⟨_,rfl⟩,ZS s9 hd⟩
 ·rintro σ H9 ⟨⟨o,rfl⟩,s9⟩ hd9;exact⟨Y05 _,k H9 d s9 hd hd9⟩
def Zj3:Sp:=fun vs H Q _=>∃ (p q q':Addr) (E S W:List Nat) (t:Nat),vs=[.ref p,.ref q,.ref q',.int (t:Int)]/\H p=some (.lst (nv E))/\H q=some (.lst (nv S))/\H q'=some (.lst (nv W))/\W.length=S.length/\S.length<=36/\1<=S.length/\∀ H':Hp,Z5 H H'->Q (.bl (Wj E S W t)) H'
section
variable {P:Program}{w:World}{K:Y00}{mg:Str->Option Value}{base:Heap}
noncomputable abbrev n_hs:List Str:=["edge","lowest","above","t","length"]
theorem Zhq:ZL n_hs ["edge","lowest","above","t"] (ZV VD):=⟨rfl,rfl,rfl,by decide +kernel,rfl,by decide +kernel,by decide +kernel⟩
theorem Zk6:(["k","edge","lowest","above","t","length"]:List Str).Nodup:=by decide +kernel
theorem ZjC {f:Addr}{fd:FuncData}(T:Bi mg)(T_any:mg "any"=none)(F:Fn K mg "has_shift" VD ["edge","lowest","above","t"] f fd):Z4 P w K mg base CX0 1 f fd ["edge","lowest","above","t"] Zj3:=by
 refine F.F.ok Zhq (fun vs H Q E h=>?_) (fun cdv A outer s H vs Q E hr h=>?_)
 ·obtain⟨p,q,q',E0,S,W,t,rfl,_⟩:=h;rfl
 ·obtain⟨p,q,q',E0,S,W,t,rfl,hp,hq,hq',l2',l36,l0,k⟩:=h;refine⟨_,(Z3 (ZW (i:=4) Zhq.nd rfl (Or.inr rfl) (ZG Y5 rfl T.len PySem.boot_len (Z9 (pv 1) Z7)))
   (ZY (ZO (ZG (Z3a rfl) rfl T_any Z8D (Z9 (Ym (N:=n_hs) (names:=(ZV VD).names) (N':=["k","edge","lowest","above","t","length"]) (k:=1) (pull:=[0,1,2,3,4]) (te:=(ZiA (tOp (rIn K false) (tOp (Ta K) (ZU 2) (ZU 0)) (ZU 1)) (tOp (rIn K false) (tOp (Ta K) (ZU 3) (tOp (rI (fun _ j=>0<j) fun i j=>.int (i%j)) (tOp (rI0 fun i j=>.int (i+j)) (ZU 0) (ZU 4)) (ZU 5))) (ZU 1)))) rfl ⟨by rfl,by decide +kernel,by decide +kernel,by rfl,by decide +kernel,by decide +kernel⟩ rfl rfl (WZ rfl T.range (Z9 (pv 4) Z7)) (fun _ _ _ _ _ _=>Zu (i:=0) Zk6 rfl (Or.inl rfl)) (fun _ _ _ _ _ _=>(Vc (XO Z5m (Z2 YG (pv 2) (pv 0) (fun _ _=>rfl)) (pv 1) (by with_unfolding_all rfl)) (TX (XO Z5m (Z2 YG (pv 3) (ZX YL (ZX Zd (pv 0) (pv 4)) (pv 5)) (fun _ _=>rfl)) (pv 1) (by with_unfolding_all rfl)))))) Z7))))),?_⟩
  refine⟨_,rfl,q,_,rfl,.inl (SqL.of hq),?_⟩;rw[ZA];dsimp only [Zs,Ya,tCB,ZI];refine Z9c (m:=S.length) (rest:=[some (.ref p),some (.ref q),some (.ref q'),some (.int (t:Int)),some (.int (S.length:Int))]) (fun k=>decide (nx S k∈E0)&&decide (nx W ((k+t)%S.length)∈E0)) (fun R hR=>⟨_,rfl,hR⟩) rfl (fun i H2 R hi s2 hR=>?_) (by lia) fun H1 e s1 he0 he=>?_
  ·refine⟨_,rfl,_,rfl,q,_,_,_,rfl,rfl,SqL.of (s2 _ _ hq),Z0 (Zp (Zbl hi)),_,rfl,p,_,rfl,.inl (SqL.of (s2 _ _ hp)),rfl,Sv _,decide (nx S i∈E0),?_,?_⟩
   ·rw[if_neg (by decide),Sb]
   ·by_cases c:nx S i∈E0
    ·rw[decide_eq_true c]at hR ⊢;rw[if_pos rfl];have hj:(i+t)%S.length<W.length:=(by rw[l2'];exact Nat.mod_lt _ (by lia));have em:((i:Int)+(t:Int))%(S.length:Int)=(((i+t)%S.length:Nat):Int):=(by simp);refine⟨_,rfl,_,rfl,_,rfl,_,_,rfl,rfl,_,rfl,_,_,rfl,rfl,by lia,q',_,_,.int ((nx W ((i+t)%S.length):Nat):Int),rfl,rfl,SqL.of (s2 _ _ hq'),?_,_,rfl,p,_,rfl,.inl (SqL.of (s2 _ _ hp)),rfl,Sv _,?_⟩
     ·rw[em];exact Z0 (Zp (Zbl hj))
     ·rw[if_neg (by decide),Sb];simpa using hR
    ·rw[decide_eq_false c]at hR ⊢;rw[if_neg (by decide)]
     simpa using hR
  ·refine⟨e,_,rfl,SqL.of he,?_⟩;have e2:((Y02 S.length).map fun k=>decide (nx S k∈E0)&&decide (nx W ((k+t)%S.length)∈E0)).any id=Wj E0 S W t:=(by unfold Wj;rw[List.any_map];rfl);rw[e2];exact k _ s1
end
theorem Zdc {K:Y00}{Hc:Hp}{p:Addr}{r:List Nat}{j:Nat}{te:TE}{pull:List Nat}{Q:VK}{σ:St}{rest:St}(g:Nat->Nat)(hj:σ[j]?=some (some (.ref p)))(hp:Hc p=some (.lst (nv r)))(hb:bst 1 pull σ=none::rest)
  (hte:∀ (x:Nat) (H:Hp) (R:VK),x∈r->Z5 Hc H->R (.int (g x:Int)) H->te (some (.int (x:Int))::rest) H R) (hn:r.length<=1000)
  (k:∀ (H':Hp) (d:Addr),Z5 Hc H'->Hc d=none->H' d=some (.lst (nv (r.map g)))->Q (.ref d) H') :
  Yq (XZ K (ZU j)) 1 pull (Zs 0) te σ Hc Q:=by
 refine⟨_,hj,p,rfl,⟨_,SqL.of hp⟩,fun d hd=>?_⟩;rw[hb];refine Xg (Q:=fun d H'=>Q (.ref d) H') r.length (nv (r.map g)) (by rw[ZA];simp) (fun i σ H3=>(∃ o,σ=o::rest)/\Z5 Hc H3) ⟨⟨_,rfl⟩,ZS (Z5.refl _) hd⟩ ?_ ?_
 ·rintro i σ H3 hi ⟨⟨o,rfl⟩,s3⟩ hd3;have hp3:=SqL.of (K:=K) (s3 _ _ hp);have hg:=Zp (Y01 hi);refine⟨⟨_,_,hp3,hg⟩,fun y H4 ⟨e,hy⟩=>?_⟩;subst e;have hy:=hy _ hp3;rw[hg]at hy;cases hy;refine hte _ _ _ (Y2m hi) s3 ?_;exact WA hi hn hd3 (Zp (by simp[hi])) ⟨⟨_,rfl⟩,ZS s3 hd⟩
 ·rintro σ H3 ⟨⟨o,rfl⟩,s3⟩ hd3;exact⟨⟨_,SqL.of (s3 _ _ hp),by rw[ZA];exact Y05 _⟩,k H3 d s3 hd hd3⟩
section
end
def spAb:Sp:=fun vs H Q _=>∃ (a q:Addr) (n:Nat) (r u S:List Nat),vs=[.ref a,.ref q]/\Zn H a r u/\H q=some (.lst (nv S))/\Row n u/\(∀ x∈S,x<n)/\S.length<=1000/\∀ (H':Hp) (l:Addr),Z5 H H'->H l=none->H' l=some (.lst (nv (S.map (nx u))))->Q (.ref l) H'
section
variable {P:Program}{w:World}{K:Y00}{mg:Str->Option Value}{base:Heap}
noncomputable abbrev n_ab:List Str:=["sheet","squares"]
theorem Zjg:ZL n_ab ["sheet","squares"] (ZV VE):=⟨rfl,rfl,rfl,by decide +kernel,rfl,by decide +kernel,by decide +kernel⟩
theorem Zih:(["square","sheet"]:List Str).Nodup:=by decide +kernel
theorem Zjk {f:Addr}{fd:FuncData}(T:Bi mg)(F:Fn K mg "above_all" VE ["sheet","squares"] f fd):Z4 P w K mg base CX0 1 f fd ["sheet","squares"] spAb:=by
 refine F.F.ok Zjg (fun vs H Q E h=>?_) (fun cdv A outer s H vs Q E hr h=>?_)
 ·obtain⟨a,q,n,r,u,S,rfl,_⟩:=h;rfl
 ·obtain⟨a,q,n,r,u,S,rfl,ha,hq,ru,hS,l1,k⟩:=h;refine⟨_,(ZY (ZO (Ym (N:=n_ab) (names:=(ZV VE).names) (N':=["square","sheet"]) (k:=1) (pull:=[0]) (te:=(tOp (Y0 K) (tOp (Y0 K) (ZU 1) (tC (.int 1))) (ZU 0))) rfl ⟨by rfl,by decide +kernel,by decide +kernel,by rfl,by decide +kernel,by decide +kernel⟩ rfl rfl (Yl (pv 1)) (fun _ _ _ _ _ _=>Zu (i:=0) Zih rfl (Or.inl rfl)) (fun _ _ _ _ _ _=>(Z2 ZZ (Z2 ZZ (pv 1) Z6 (fun _ _=>rfl)) (pv 0) (fun _ _=>rfl)))))),?_⟩;obtain⟨p1,q1,h1,h2,h3⟩:=id ha;dsimp only [Ya];refine Zdc (j:=1) (p:=q) (r:=S) (rest:=[some (.ref a)]) (fun x=>nx u x) rfl hq rfl (fun x H2 R hx s2 hR=>?_) l1 fun H1 e s1 he0 he=>?_
  ·exact⟨_,rfl,a,_,1,_,rfl,rfl,SqT.of (s2 _ _ h1),Z0 (j:=1) rfl,_,rfl,q1,_,_,_,rfl,rfl,SqT.of (s2 _ _ h3),Z0 (Zp (ru.get (hS x hx))),hR⟩
  ·exact k _ e s1 he0 he
end
end K1
namespace L2
open PySem PySem.Spec PyProof.Rows
section
variable {X:Cx}{elt tg iter:Expr}{sc:Scope}{pos py spos:Pos}{cnd:Expr}{tt:TT}{wi:TI}{g:TG}{te:TE}{N:List Str}{names:List (Str×NameKind)}{N':List Str}{k j:Nat}{pull:List Nat}{y:Str}
theorem Z9Q (hc:X.calm=true)(hNd:X.N.Nodup)(hj:X.N[j]?=some y)(hy:X.env.scope.names.lookup y=some .local)(B:T4 N names N' k pull sc)(hN:X.N=N)(hnm:X.env.scope.names=names)(hi:PI X tg iter wi)
  (hg:∀ cl C s₂ H₁ fp pins,PG (blk X sc cl C N' s₂ H₁ fp pins) tg g) (hcn:∀ cl C s₂ H₁ fp pins,PT (blk X sc cl C N' s₂ H₁ fp pins) cnd tt) (he:∀ cl C s₂ H₁ fp pins,PE (blk X sc cl C N' s₂ H₁ fp pins) elt te)
  (hs:∀ x,foldedSetIterable iter X.env x=pure x:=by intro _;rfl) (hsw:swapsWith (.ListComp elt [⟨tg,iter,[cnd],0⟩] sc pos) (some (.Name y py)) spos.line X.env=pure true:=by rfl):PS X (.Assign [.Name y py] (.ListComp elt [⟨tg,iter,[cnd],0⟩] sc pos) spos) (X8 (We wi k pull g tt te) (Zs j)):=by
 intro pins s σ H D I h;rw[exec_Assign_Name_used _ _ _ _ hsw];refine wpAny_bind (wpAny_standAt (wpAny_bind ?_));show wpAny _ X.A (do let _ <-comprehension (.ListComp elt [⟨tg,iter,[cnd],0⟩] sc pos) sc X.env _ (newList []) false (eval iter X.env) (some (assign (.Name y py) X.env))) _ _ s;have hcells:∀ y∈sc.names,y.2=.free->∃ c,X.env.cells.lookup y.1=some c:=fun y hy hf=>I.ok.has y.1 (.inl (by
  show X.env.scope.names.lookup y.1=_
  rw[hnm];exact B.fre y hy hf))
 obtain⟨cl,ecl,c1,_,c3⟩:=VJ (env:=X.env) sc.names [] hcells (fun x c e=>nomatch e);rw[<-SY]at ecl;refine wpAny_bind (wpAny_mono (wpAny_comprehension_free (Q:=fun _ s'=>SP X pins D .next s') (use:=some (assign (.Name y py) X.env)) rfl hs ecl B.kind B.loc (thn (hi pins s σ H _ I h) fun xv s1 h1=>thn h1 fun itv s2 h2=>?_)) (fun _ s' hq=>wpAny_pure (wpAny_pure hq)) fun _ _ e=>e);obtain⟨it,fp,tn,J,H1,e,I2,T,st2,f2,hW⟩:=h2;subst e;have ho:∀ b∈fp,∃ o,s2.heap.get? b=some o:=fun b hb=>let ⟨o,e,_⟩:=T.obj _ _ st2 b hb;⟨o,e⟩
 refine wpAny_newObj_type (wpAny_newFunctionEnv B.nocell (by intro y hy;simp at hy) (fun h₁ hns₁ hsb₁=>?_) B.kind);dsimp only at hns₁ hsb₁ ⊢;rw[Y21]at hns₁ hsb₁ ⊢;have old:∀ b o,s2.heap.get? b=some o->h₁.get? b=some o:=fun b o e=>by
  have hlt:=Y09 e;exact (hsb₁.2 b (Y0j (Y1f hlt))).trans (Y03 _ (Y03 _ e))
 have hd:h₁.get? s2.heap.objs.size=some { cls:=.type "list",data:=.seq ([]:List Value).toArray }:=
  (hsb₁.2 _ (Y0j (Y2l _))).trans (Y03 _ (Y0b _ rfl))
 have I4:=SW (tk:=s2.toks+([]:List (Str×Value)).length) B hN hnm I2 f2 ho c1 c3 hns₁ old hd;have st4:tn 0 h₁:=T.keep _ _ _ st2 fun b _ o e=>old b o e;obtain⟨W,⟨m0,w0⟩,turn⟩:=hW s2.heap.objs.size (I2.hok.fresh (Y05 _));have fr4:∀ b∈fp,(upd H1 s2.heap.objs.size (.lst [])) b=none:=fun b hb=>by
  obtain⟨o,e⟩:=ho b hb;rw[ZK (Y0j (Y09 e))];exact (f2 b hb).1
 have stat:∀ {H':Hp},(∀ b∈fp,H' b=none)->∀ b∈fp,Yp (blk X sc cl (s2.heap.objs.size+1) N' s2 H1 fp pins) [] H' b:=fun hn b hb=>by
  refine⟨hn b hb,(I4.ok.exf b hb).1,I4.ok.exfs b hb,.inl hb,(I4.ok.exf b hb).2,fun p hp=>?_⟩;have hp:p∈X.pn++pins:=by simpa [blk] using hp
  exact (f2 b hb).2.2.2.2.2 p hp
 have loop:∀ s₃:Shared,s₃={ s2 with heap:=h₁,toks:=s2.toks+([]:List (Str×Value)).length }->
   codeAny (model X.prog X.w) X.A (.compLoop (.ListComp elt [⟨tg,iter,[cnd],0⟩] sc pos) 0 (.ref it) (.ref s2.heap.objs.size) (compEnvC sc cl (s2.heap.objs.size+1) X.env))
    (compPost (model X.prog X.w) X.A X.xe (some (assign (.Name y py) X.env)) (fun _ s'=>SP X pins D .next s') (.ref s2.heap.objs.size) (s2.heap.objs.size+1)) s₃:=by
  rintro s₃ rfl;refine Z5q (fun n s'=>∃ i σ' H',Inv (blk X sc cl (s2.heap.objs.size+1) N' s2 H1 fp pins) [] σ' H' s'/\tn i s'.heap/\(∀ b∈fp,H' b=none)/\W i n σ' H') ?_ m0 ⟨0,_,_,I4,st4,fr4,w0⟩;rintro n s3 ⟨i,σ3,H3,I3,st3,fr3,w3⟩;rcases turn i n σ3 H3 w3 with ⟨stop,q⟩|⟨go,step⟩
  ·refine thn (T.done (blk X sc cl (s2.heap.objs.size+1) N' s2 H1 fp pins) rfl rfl rfl hc i [] s3 σ3 H3 _ I3 (stat fr3) st3 stop) fun r s4 ⟨hr,I5⟩=>?_;subst hr;obtain⟨m,hn,_⟩:=id I5.loc;have U:Un (frs X.stack) fp H1 H3 s2.heap s4.heap:=I5.base;have J5:Inv X pins σ H3 s4:=I2.call' (s':=s4) I5.os U I5.hok I5.bare fun b hb=>⟨(f2 b hb).2.2.2.1,(f2 b hb).2.1,(f2 b hb).2.2.2.2.1,(f2 b hb).2.2.2.2.2⟩;obtain⟨g0,g1,_,g3,g4,g5⟩:Yp X pins H3 (s2.heap.objs.size+1):=I2.fpOk (Y3z _) I5.free;refine wpAny_assign_Name (Z5k J5 hNd hj (.inl hy) (v:=.ref s2.heap.objs.size) rfl (fun s5 K5 ⟨a,sb,ha⟩=>?_) (.inr hy));have hne:s2.heap.objs.size+1≠a:=fun z=>by
    rcases ha with ha|ha
    ·exact g1 (z.trans ha)
    ·exact g4 _ _ ha z.symm
   refine⟨m,hn.sameBut sb hne,fun h' hs'=>⟨_,H3,?_,q⟩⟩;exact K5.turned (t':=s5.toks) (fun b o hb e=>(hs'.2 b hb).trans e) g0 g1 g3 g4 g5
  ·refine thn (T.item (blk X sc cl (s2.heap.objs.size+1) N' s2 H1 fp pins) rfl rfl rfl hc i [] s3 σ3 H3 _ I3 (stat fr3) st3 go) fun r s4 ⟨u,hr,h4⟩=>?_;subst hr;refine thn h4 fun _ s5 ⟨x,H5,I5,r5,y5,st5,fr5⟩=>?_;have I5':=I5.pinned (stat fr5) (T.obj _ _ st5);refine wpAny_mono (hg _ _ _ _ _ _ _ s5 σ3 H5 x u _ I5' r5 (step x H5 y5)) (fun _ s6 ⟨σ6,H6,I6,q6⟩=>?_) fun _ _ z=>z.elim;refine wpAny_mono (hcn _ _ _ _ _ _ _ s6 σ6 H6 _ I6 q6) (fun ok s7 ⟨H7,I7,q7⟩=>?_) fun _ _ z=>z.elim;cases ok with
   | false=>
    have q7:∃ m',m'<n/\W (i+1) m' σ6 H7:=by simpa using q7
    obtain⟨m',hm,w7⟩:=q7;refine⟨m',hm,i+1,σ6,_,I7.unpinned,T.keep _ _ _ st5 fun b hb o e=>(I7.pin (b,o) (Y0a _ (Y0a _ (Yo hb e)))).1,fun b hb=>?_,w7⟩;obtain⟨o,e,_⟩:=T.obj _ _ st5 b hb;exact (I7.pin (b,o) (Y0a _ (Y0a _ (Yo hb e)))).2.1
   | true=>
    rw[if_pos rfl]at q7;refine wpAny_mono (he _ _ _ _ _ _ _ s7 σ6 H7 _ I7 q7) (fun y s8 ⟨z,H8,I8,r8,xs,hx8,hz8,m',hm,w8⟩=>?_) fun _ _ z=>z.elim;refine wpAny_mono (Xj (X:=blk X sc cl (s2.heap.objs.size+1) N' s2 H1 fp pins) _ s8 σ6 H8 (.ref s2.heap.objs.size) [z] (.ref s2.heap.objs.size) [y] (fun _ H9=>H9=upd H8 s2.heap.objs.size (.lst (xs++[z]))) I8 rfl (.cons r8 .nil) ⟨_,xs,z,rfl,rfl,hx8,hz8,rfl⟩) (fun _ s9 ⟨_,H9,I9,_,e9⟩=>?_) fun _ _ z=>z.elim;subst e9;refine⟨m',hm,i+1,σ6,_,I9.unpinned,T.keep _ _ _ st5 fun b hb o e=>(I9.pin (b,o) (Y0a _ (Y0a _ (Yo hb e)))).1,fun b hb=>?_,w8⟩;obtain⟨o,e,_⟩:=T.obj _ _ st5 b hb;exact (I9.pin (b,o) (Y0a _ (Y0a _ (Yo hb e)))).2.1
 exact codeAny_compStart_list (loop _ rfl) (T.self _ 0 _ _ _ st4 (loop _ rfl))
end
end L2
namespace K1
open PySem L2 Sq
theorem Zcr {Hc:Hp}{m:Nat}{ta:TA}{tt:TT}{pull:List Nat}{Q:VK}{σ:St}{rest:St}(p:Nat->Bool)(hj:∀ R:List V->Hp->Prop,R [.int (m:Int)] Hc->ta σ Hc R)(hb:bst 1 pull σ=none::rest)
  (htt:∀ (i:Nat) (H:Hp) (R:Bool->Hp->Prop),i<m->Z5 Hc H->(∀ H',Z5 H H'->R (p i) H')->tt (some (.int (i:Int))::rest) H R) (hm:m<=1000)
  (k:∀ (H':Hp) (d:Addr),Z5 Hc H'->Hc d=none->H' d=some (.lst (nv ((Y02 m).filter p)))->Q (.ref d) H') :
  We (RW ta) 1 pull (Zs 0) tt (ZU 0) σ Hc Q:=by
 refine hj _ ⟨(m:Int),rfl,by lia,by lia,fun d hd=>?_⟩;rw[Y1g,hb];refine SV (J:=Itr 0 m) (Q:=fun d H'=>Q (.ref d) H') m (fun i xs σ H9=>(∃ o,σ=o::rest)/\Z5 Hc H9/\xs=nv ((Y02 i).filter p)) ⟨⟨_,rfl⟩,ZS (Z5.refl _) hd,rfl⟩ ?_ ?_
 ·rintro i xs σ H9 hi ⟨⟨o,rfl⟩,s9,rfl⟩ hd9;refine⟨hi,fun x H4 ⟨e1,e2⟩=>?_⟩;subst e1 e2;rw[show (0:Int)+(i:Int)=(i:Int) from by lia];refine htt i _ _ hi s9 fun H5 s5=>?_;have el:((Y02 i).filter p).length<=i:=by have:=Y20 p (Y02 i);simpa using this
  have ef:(Y02 (i+1)).filter p=(Y02 i).filter p++[i].filter p:=by rw[Y2w,Y1t]
  cases e:p i with
  | true=>
   have e3:[i].filter p=[i]:=(by simp[e]);rw[if_pos rfl];refine⟨_,rfl,VZ hi (s5 _ _ hd9) (by rw[ZA];lia) ⟨⟨_,rfl⟩,ZS (s9.trans s5) hd,?_⟩⟩;rw[ef,e3,Vm]
  | false=>
   have e3:[i].filter p=[]:=(by simp[e]);rw[if_neg (by decide)];refine RY hi (s5 _ _ hd9) ⟨⟨_,rfl⟩,s9.trans s5,?_⟩;rw[ef,e3,Y1o]
 ·rintro xs σ H9 ⟨⟨o,rfl⟩,s9,rfl⟩ hd9;exact⟨Y05 _,k H9 d s9 hd hd9⟩
theorem ZfC {H H':Hp}(s:Z5 H H'){x:Addr}(h:H' x=none):H x=none:=by
 cases e:H x with
 | none=>rfl
 | some o=>rw[s _ _ e]at h;cases h
def ZkR:Sp:=fun vs H Q _=>∃ (a p q:Addr) (n:Nat) (r u M S:List Nat),vs=[.ref a,.ref p,.ref q]/\Zn H a r u/\H p=some (.lst (nv M))/\H q=some (.lst (nv S))/\Row n u/\(∀ x∈S,x<n)/\n<=36/\1<=S.length/\S.length<=36/\Zx M S=true/\
 ∀ (H':Hp) (x:Addr),Z5 H H'->H x=none->Xc H' x S.length (wid n u M S) (WE M S (ups u S (wid n u M S)))->Q (.ref x) H'
section
variable {P:Program}{w:World}{K:Y00}{mg:Str->Option Value}{base:Heap}
noncomputable abbrev n_bf:List Str:=["sheet","edge","lowest","above","width","length","shifts"]
theorem V1:ZL n_bf ["sheet","edge","lowest"] (ZV VC):=⟨rfl,rfl,rfl,by decide +kernel,rfl,by decide +kernel,by decide +kernel⟩
theorem Zjs:(["t","edge","lowest","above"]:List Str).Nodup:=by decide +kernel
theorem Zkw {f fa fh fs:Addr}{fd da dh ds:FuncData}(T:Bi mg)(F:Fn K mg "band_from" VC ["sheet","edge","lowest"] f fd)(FA:Fn K mg "above_all" VE ["sheet","squares"] fa da)(GA:Z4 P w K mg base CX0 1 fa da ["sheet","squares"] spAb)
  (FH:Fn K mg "has_some" Wo ["edge","squares"] fh dh) (GH:Z4 P w K mg base CX0 1 fh dh ["edge","squares"] Rw)
  (FS:Fn K mg "has_shift" VD ["edge","lowest","above","t"] fs ds) (GS:Z4 P w K mg base CX0 1 fs ds ["edge","lowest","above","t"] Zj3):Z4 P w K mg base CX0 2 f fd ["sheet","edge","lowest"] ZkR:=by
 refine F.F.ok V1 (fun vs H Q E h=>?_) (fun cdv A outer s H vs Q E hr h=>?_)
 ·obtain⟨a,p,q,n,r,u,M,S,rfl,_⟩:=h;rfl
 ·obtain⟨a,p,q,n,r,u,M,S,rfl,hsh,hp,hq,ru,lt,n36,l1,l36,hh,k⟩:=h;have hr1:ZP 1 _:=hr.mono (by decide);refine⟨_,(Z3 (ZW (i:=3) V1.nd rfl (Or.inr rfl) (ZT GA hr1 rfl FA.m FA.F.kp FA.b .nil ZQ (Z9 (pv 0) (Z9 (pv 2) Z7))))
   (Z3 (ZW (i:=4) V1.nd rfl (Or.inl rfl) Z6)
   (Z3 (XU PassesOwn.never (YN (Y4 (ZT GH hr1 rfl FH.m FH.F.kp FH.b .nil ZQ (Z9 (pv 1) (Z9 (pv 3) Z7))))) (Z3 (ZW (i:=3) V1.nd rfl (Or.inr rfl) (ZT GA hr1 rfl FA.m FA.F.kp FA.b .nil ZQ (Z9 (pv 0) (Z9 (pv 3) Z7))))
   (ZY (Zbj (i:=4) V1.nd rfl (Or.inl rfl) Z6 ZaL))))
   (Z3 (ZW (i:=5) V1.nd rfl (Or.inl rfl) (ZG Y5 rfl T.len PySem.boot_len (Z9 (pv 2) Z7)))
   (Z3 (Z9Q (j:=6) (N:=n_bf) (names:=(ZV VC).names) (N':=["t","edge","lowest","above"]) (k:=1) (pull:=[1,2,3]) (tt:=tB (Yf Zj3 [] E0 (ZI (ZU 1) (ZI (ZU 2) (ZI (ZU 3) (ZI (ZU 0) Zr)))))) (te:=(ZU 0)) rfl V1.nd rfl rfl ⟨by rfl,by decide +kernel,by decide +kernel,by rfl,by decide +kernel,by decide +kernel⟩ rfl rfl (WZ rfl T.range (Z9 (pv 5) Z7)) (fun _ _ _ _ _ _=>Zu (i:=0) Zjs rfl (Or.inl rfl)) (fun _ _ _ _ _ _=>Y4 (ZT GS hr1 rfl FS.m FS.F.kp FS.b .nil ZQ (Z9 (pv 1) (Z9 (pv 2) (Z9 (pv 3) (Z9 (pv 0) Z7)))))) (fun _ _ _ _ _ _=>(pv 0)))
   (ZY (ZO (Zq (Z9 (pv 5) (Z9 (pv 4) (Z9 (X7 UV rfl T.tuple XC (Z9 (pv 6) Z7)) Z7))))))))))),?_⟩
  obtain⟨w1,w2,w3,w4⟩:=V6 ru lt hh;have sl3:3<=sizeLine:=by decide
  refine⟨_,rfl,_,rfl,a,q,n,r,u,S,rfl,hsh,hq,ru,lt,by lia,fun H1 l s1 hl0 hl=>?_⟩;show Yy _ _ _ _ _;refine Z56 (fun m σ H3=>Z5 H H3/\∃ (l:Addr) (j:Nat),m=wid n u M S-j/\1<=j/\j<=wid n u M S/\σ=[some (.ref a),some (.ref p),some (.ref q),some (.ref l),some (.int (j:Int)),none,none]/\H3 l=some (.lst (nv (ups u S j)))) ⟨_,s1,l,1,rfl,Y05 _,w3,rfl,by rw[Zfv];exact hl⟩ ?_ ?_
  ·rintro m σ H3 ⟨s3,l,j,rfl,j1,j2,rfl,hl⟩;refine⟨_,rfl,_,rfl,p,l,M,ups u S j,rfl,s3 _ _ hp,hl,by rw[Wh];lia,fun H4 s4=>⟨_,rfl,?_⟩⟩
   by_cases ej:j=wid n u M S
   ·subst ej;rw[w1];refine ZJ ?_;refine⟨_,rfl,q,_,rfl,.inl (SqL.of ((s3.trans s4) _ _ hq)),?_⟩;rw[ZA];dsimp only [Xr,Yy,X8,Zs];refine Zcr (m:=S.length) (rest:=[some (.ref p),some (.ref q),some (.ref l)]) (Wj M S (ups u S (wid n u M S))) (fun R hR=>⟨_,rfl,hR⟩) rfl (fun i H5 R hi s5 hR=>?_) (by lia) fun H6 e s6 he0 he=>?_
    ·exact⟨_,rfl,_,rfl,_,rfl,_,rfl,p,q,l,M,S,ups u S (wid n u M S),i,rfl,(s3.trans (s4.trans s5)) _ _ hp,(s3.trans (s4.trans s5)) _ _ hq,(s4.trans s5) _ _ hl,Wh _ _ _,l36,l1,fun H7 s7=>⟨_,rfl,hR H7 s7⟩⟩
    ·refine⟨_,rfl,_,rfl,_,rfl,e,_,rfl,.inl ⟨SqL.of he,fun t ht=>?_⟩⟩;refine⟨sl3,fun x hx=>?_⟩;have u1:=ZS (o:=.tup (nv (WE M S (ups u S (wid n u M S))))) (Z5.refl H6) ht;have u2:=ZS (o:=.tup [.int (S.length:Int),.int (wid n u M S:Int),.ref t]) (Z5.refl (upd H6 t (.tup (nv (WE M S (ups u S (wid n u M S))))))) hx;have sa:=s3.trans (s4.trans (s6.trans (u1.trans u2)));exact k _ x sa (ZfC (s3.trans (s4.trans (s6.trans u1))) hx) ⟨t,ZR,u2 _ _ ZR⟩
   ·rw[w2 j j1 (by lia)];refine Zz ?_;refine⟨_,rfl,_,rfl,a,l,n,r,u,ups u S j,rfl,hsh.same (s3.trans s4),s4 _ _ hl,ru,Zhm ru lt j,by rw[Wh];lia,fun H5 l' s5 hl0 hl'=>?_⟩;refine⟨_,rfl,_,_,rfl,rfl,wid n u M S-(j+1),by lia,s3.trans (s4.trans s5),l',j+1,rfl,by lia,by lia,rfl,by rw[Z94];exact hl'⟩
  ·rintro σ H' Q1 Q2 hq ⟨y,e1,y2,e2,a1,a2,a3,a4,a5,a6,a7,a8,a9⟩;exact⟨y,e1,y2,e2,a1,a2,a3,a4,a5,a6,a7,a8,fun H1 s1=>let ⟨c,ec,hc⟩:=a9 H1 s1;⟨c,ec,hq _ _ hc⟩⟩
end
def spRs:Sp:=fun vs H Q _=>∃ (a:Addr) (n:Nat) (r u:List Nat),vs=[.ref a]/\Zn H a r u/\Row n r/\n<=36/\
 ∀ (H':Hp) (l:Addr) (as:List Addr),Z5 H H'->H l=none->H' l=some (.lst (rv as))->(∀ a∈as,H a=none)->Zb H' as (Za n r)->Q (.ref l) H'
section
variable {P:Program}{w:World}{K:Y00}{mg:Str->Option Value}{base:Heap}
noncomputable abbrev n_rs:List Str:=["sheet"]
theorem Zjb:ZL n_rs ["sheet"] (ZV Tt):=⟨rfl,rfl,rfl,by decide +kernel,rfl,by decide +kernel,by decide +kernel⟩
theorem ZjI {f fc:Addr}{fd dc:FuncData}(F:Fn K mg "rows" Tt ["sheet"] f fd)(FC:Fn K mg "cycles" WQ ["row"] fc dc)(GC:Z4 P w K mg base CX0 2 fc dc ["row"] (Z6s K)):Z4 P w K mg base CX0 3 f fd ["sheet"] spRs:=by
 refine F.F.ok Zjb (fun vs H Q E h=>?_) (fun cdv A outer s H vs Q E hr h=>?_)
 ·obtain⟨a,n,r,u,rfl,_⟩:=h;rfl
 ·obtain⟨a,n,r,u,rfl,⟨p,q,h1,h2,h3⟩,rr,hn,k⟩:=h;have hr1:ZP 1 _:=hr.mono (by decide);refine⟨_,(ZY (ZO (ZT GC hr rfl FC.m FC.F.kp FC.b .nil ZQ (Z9 (Z2 ZZ (pv 0) Z6 (fun _ _=>rfl)) Z7)))),?_⟩;exact⟨_,rfl,a,_,0,_,rfl,rfl,SqT.of h1,Z0 (j:=0) rfl,p,n,r,rfl,.inr (SqT.of h2),rr,hn,fun H' l as s' f1 hl f2 hL=>k H' l as s' f1 hl f2 hL⟩
end
def Zbo:Sp:=fun vs H Q _=>∃ (a:Addr) (n:Nat) (r u:List Nat),vs=[.ref a]/\Zn H a r u/\Row n r/\Row n u/\n<=36/\
 ∀ (H':Hp) (l:Addr) (as:List Addr) (bs:List Bd),Z5 H H'->H l=none->H' l=some (.lst (as.map V.ref))->Zm H' as bs->bs.Perm (XN n r u (XX n (ZF r u)))->Zae bs->Q (.ref l) H'
section
variable {P:Program}{w:World}{K:Y00}{mg:Str->Option Value}{base:Heap}
noncomputable abbrev n_bs:List Str:=["sheet","edge"]
theorem ZhQ:ZL n_bs ["sheet"] (ZV V8):=⟨rfl,rfl,rfl,by decide +kernel,rfl,by decide +kernel,by decide +kernel⟩
theorem Zkh:(["row","sheet","edge"]:List Str).Nodup:=by decide +kernel
theorem Zjp {f fe fr fh ff:Addr}{fd de dr dh df:FuncData}(T:Bi mg)(F:Fn K mg "bands" V8 ["sheet"] f fd)(FE:Fn K mg "borders" Uo ["sheet"] fe de)(GE:Z4 P w K mg base CX0 8 fe de ["sheet"] Z6F)
  (FR:Fn K mg "rows" Tt ["sheet"] fr dr) (GR:Z4 P w K mg base CX0 3 fr dr ["sheet"] spRs)
  (FH:Fn K mg "has_some" Wo ["edge","squares"] fh dh) (GH:Z4 P w K mg base CX0 1 fh dh ["edge","squares"] Rw)
  (FF:Fn K mg "band_from" VC ["sheet","edge","lowest"] ff df) (GF:Z4 P w K mg base CX0 2 ff df ["sheet","edge","lowest"] ZkR):Z4 P w K mg base CX0 9 f fd ["sheet"] Zbo:=by
 refine F.F.ok ZhQ (fun vs H Q E h=>?_) (fun cdv A outer s H vs Q E hr h=>?_)
 ·obtain⟨a,n,r,u,rfl,_⟩:=h;rfl
 ·obtain⟨a,n,r,u,rfl,hsh,rr,ru,hn,k⟩:=h;have hu10:(A.deeper (PyProof.Rows.envOfC "bands" (ZV V8) s.heap.objs.size f cdv)).units+10<cLine:=Y1s (Y3d (by decide) _) hr.units;have hr1:ZP 1 _:=hr.mono (by decide);have hr2:ZP 2 _:=hr.mono (by decide);have hr3:ZP 3 _:=hr.mono (by decide);have hr8:ZP 8 _:=hr.mono (by decide);refine⟨_,(Z3 (ZW (i:=1) ZhQ.nd rfl (Or.inr rfl) (ZT GE hr8 rfl FE.m FE.F.kp FE.b .nil ZQ (Z9 (pv 0) Z7)))
   (ZY (ZO (ZG (Z6V rfl hu10) rfl T.sorted UR (Z9 (SO (N:=n_bs) (names:=(ZV V8).names) (N':=["row","sheet","edge"]) (k:=1) (pull:=[0,1]) (tt:=tB (Yf Rw [] E0 (ZI (ZU 2) (ZI (ZU 0) Zr)))) (te:=Yf ZkR [] E0 (ZI (ZU 1) (ZI (ZU 2) (ZI (ZU 0) Zr)))) rfl ⟨by rfl,by decide +kernel,by decide +kernel,by rfl,by decide +kernel,by decide +kernel⟩ rfl rfl (Yl (ZT GR hr3 rfl FR.m FR.F.kp FR.b .nil ZQ (Z9 (pv 0) Z7))) (fun _ _ _ _ _ _=>Zu (i:=0) Zkh rfl (Or.inl rfl)) (fun _ _ _ _ _ _=>Y4 (ZT GH hr1 rfl FH.m FH.F.kp FH.b .nil ZQ (Z9 (pv 2) (Z9 (pv 0) Z7)))) (fun _ _ _ _ _ _=>ZT GF hr2 rfl FF.m FF.F.kp FF.b .nil ZQ (Z9 (pv 1) (Z9 (pv 2) (Z9 (pv 0) Z7))))) Z7))))),?_⟩
  refine⟨_,rfl,a,n,r,u,rfl,hsh,rr,ru,hn,fun H1 le s1 hle0 hle=>?_⟩;generalize hMe:XX n (ZF r u)=M at *;dsimp only [Zs,Ya,tCB,ZI,Zr];refine ZeL (fun H2 b=>Z5 H1 H2/\∃ rs,H2 b=some (.lst (rv rs))/\Zb H2 rs (Za n r)) (fun R hR=>⟨_,rfl,a,n,r,u,rfl,hsh.same s1,rr,hn,fun H2 l as s2 f2 hl fr hL=>hR H2 l ⟨s2,as,hl,hL⟩⟩) ?_;rintro H2 b ⟨s2,rs,hrs,hL⟩;have hrc:(Za n r).length<=n:=Z7a (n:=n) (w:=r) n;have hcl:∀ x,x<n->(cyc n r x).length<=n:=fun x hx=>(YM rr hx).len rr hx;refine Zbv (rest:=[some (.ref a),some (.ref le)]) (Zx M) (ZbJ n u M) hrs hL rfl (fun b M' H3 R hM s3 hb hR=>?_) (fun b M' H3 R hM hp s3 hb hR=>?_) (by lia) fun H4 d as s4 hd0 hB hd=>?_
  ·obtain⟨x,hx,hlx,rfl⟩:=SX hM;have:=hcl x hx;exact⟨_,rfl,_,rfl,le,b,M,cyc n r x,rfl,(s2.trans s3) _ _ hle,hb,by lia,fun H' s'=>⟨_,rfl,hR H' s'⟩⟩
  ·obtain⟨x,hx,hlx,rfl⟩:=SX hM;have h1:=hcl x hx;have h2:=(YM rr hx).pos;exact⟨_,rfl,_,rfl,_,rfl,a,le,b,n,r,u,M,cyc n r x,rfl,hsh.same (s1.trans (s2.trans s3)),(s2.trans s3) _ _ hle,hb,ru,fun y hy=>Ys rr hx hy,hn,h2,by lia,hp,fun H' y s' hy0 hy=>hR H' y s' hy⟩
  ·have hal:=hB.len;rw[Y07]at hal;have hfl:=Y20 (Zx M) (Za n r);refine Zcf hd hB (by lia) fun l as' bs' hl0 hB' hp hs=>?_;have sa:=s1.trans (s2.trans s4);exact k _ l as' bs' (ZS sa (sa.free hl0)) (sa.free hl0) ZR hB' hp hs
end
end K1
namespace L2
open PySem PySem.Spec PyProof.Rows
section
variable {X:Cx}{k:Nat}{f C:Addr}{fd:FuncData}{ps:List Str}{sp:Sp}{dvs:List V}{ds:List Value}{E:XK}{x:Str}{p pos:Pos}{e:Expr}{es:List Expr}{t:TA}
end
section
variable {prog:Program}{w:World}{A:Around}{E:Value->Shared->Prop}{s:Shared}
end
section
variable {X:Cx}{elt tg a0:Expr}{sc:Scope}{pos p0 pos0:Pos}{ta:TA}{g:TG}{te:TE}{N:List Str}{names:List (Str×NameKind)}{N':List Str}{k:Nat}{pull:List Nat}
end
section
variable {X:Cx}
noncomputable def Zko (x:Str)(n:Nat):Str:=⟨(Y0c n x.cps).foldl (·++·) #[]⟩
theorem ZcK (l:List (Array Nat)):∀ acc:Array Nat,(l.foldl (·++·) acc).toList=acc.toList++(l.map Array.toList).flatten:=by
 induction l with
 | nil=>intro acc;simp
 | cons a l ih=>intro acc;rw[List.foldl_cons,ih];simp
theorem Zba (x:Str)(n:Nat):(Zko x n).cps.toList=(Y0c n x.cps.toList).flatten:=by
 show ((Y0c n x.cps).foldl (·++·) #[]).toList=_;rw[ZcK,Y37];simp
end
namespace RF
end RF
end L2
namespace L2
open PySem PySem.Spec PyProof.Rows Sq
theorem ZcU (z:List Nat)(n:Nat):Zko (txt z) n=txt (Y0c n z).flatten:=Str.ext' (by
 have:(Zko (txt z) n).cps.toList=(txt (Y0c n z).flatten).cps.toList:=by rw[Zba,Sy,Sy]
 exact Array.toList_inj.mp this)
section
variable {X:Cx}
theorem Z9L:OpR X (binaryOp .Mult) (fun x y H Q=>∃ (z:List Nat) (n:Nat),x=.str (txt z)/\y=.int (n:Int)/\n<=1100/\z.length<=900/\Q (.str (txt (Y0c n z).flatten)) H):=by
 intro pins s σ H x y v u Q I rx ry h;obtain⟨z,n,rfl,rfl,h2,h4,q⟩:=h;obtain⟨t,rfl⟩:=rx;obtain⟨t',rfl⟩:=ry;have hzl:(txt z).length=z.length:=Ze z;have hzn:z.length*n<=1000000:=Y0z (Nat.mul_le_mul h4 h2) (by decide);have e6:(1000000:Nat)<=sizeLine:=by decide
 have hlong:Builtin.Str.tooLong ((txt z).length*(n:Int).toNat)=false:=by
  rw[Y1g,hzl];unfold Builtin.Str.tooLong;exact decide_eq_false (by omega)
 refine P.mul_str (by rw[decide_eq_false (by omega),decide_eq_false (by omega)];rfl) (fun h1 _=>?_) (fun _ _=>hlong) ?_
 ·have:(1000000:Int)<=(2^63-1)/(n:Int):=by
   apply Y4m (by omega);omega
  rw[hzl];omega
 ·by_cases h1:(n:Int)<1
  ·have:n=0:=(by omega);subst this;rw[if_pos h1];exact⟨by decide,⟨.str _,H,I.tok _,⟨_,rfl⟩,q⟩⟩
  rw[if_neg h1]
  by_cases h3:((n:Int)==1||(txt z).length==0)=true
  ·rw[if_pos h3];have e:(Y0c n z).flatten=z:=by
    rw[Bool.or_eq_true]at h3;rcases h3 with h3|h3
    ·have:n=1:=(by have:=beq_iff_eq.mp h3;omega);subst this;simp
    ·have:z.length=0:=(by have:=beq_iff_eq.mp h3;omega);have:z=[]:=Y25.mp this;subst this;simp
   rw[e]at q;exact⟨.str _,H,I,⟨_,rfl⟩,q⟩
  ·rw[if_neg h3];have er:(⟨(Y0c (n:Int).toNat (txt z).cps).foldl (·++·) #[]⟩:Str)=txt (Y0c n z).flatten:=by
    rw[Y1g];exact ZcU z n
   show (Made.str (⟨(Y0c (n:Int).toNat (txt z).cps).foldl (·++·) #[]⟩:Str)).post _ _;rw[er];refine⟨?_,⟨.str _,H,I.tok _,⟨_,rfl⟩,q⟩⟩;rw[Ze,Y34,Y37,Y2p,Nat.mul_comm];omega
end
def TTu (K:Y00)(a:Addr)(ns:List Int):Prop:=∃ (o:Obj) (its:Array Value) (n:Nat),K.lookup a=some o/\o.cls=.type "tuple"/\o.data=.seq its n/\its.size<=sizeLine/\ZN (ns.map V.int) its.toList
theorem TTu.sq {K:Y00}{a:Addr}{ns:List Int}(h:TTu K a ns)(H:Hp):SqT K H a (ns.map V.int):=.inr h
theorem ttu4 {K:Y00}{a:Addr}{i1 i2 i3 i4:Int}{t1 t2 t3 t4:Tok}{od:Option Addr}{n:Nat}{sl:Array (Option Value)}(l:K.lookup a=some ⟨.type "tuple",od,.seq #[.int i1 t1,.int i2 t2,.int i3 t3,.int i4 t4] n,sl⟩):TTu K a [i1,i2,i3,i4]:=
 ⟨_,_,_,l,rfl,rfl,(by show 4<=sizeLine;decide),.cons ⟨_,rfl⟩ (.cons ⟨_,rfl⟩ (.cons ⟨_,rfl⟩ (.cons ⟨_,rfl⟩ .nil)))⟩
end L2
namespace K1
open PySem L2 Sq
theorem Z5V {K:Y00}{Hc:Hp}{p:Addr}{r:List Int}{j:Nat}{Q:VK}{σ:St}(hj:σ[j]?=some (some (.ref p)))(hp:SqT K Hc p (r.map V.int))(hn:r.length<=1000)
  (k:∀ (H':Hp) (d:Addr),Z5 Hc H'->H' d=some (.lst ((Y0c r.length true).map V.bl))->Q (.ref d) H') :
  Yq (RA K (ZU j)) 1 [] (Zs 0) (Yf Xv [] E0 (ZI (ZU 0) Zr)) σ Hc Q:=by
 refine⟨_,hj,p,rfl,⟨_,hp⟩,fun d hd=>?_⟩;refine Xg (Q:=fun d H'=>Q (.ref d) H') r.length ((Y0c r.length true).map V.bl) (by simp) (fun i σ H3=>∃ o,σ=[o]/\Z5 Hc H3) ⟨none,rfl,ZS (Z5.refl _) hd⟩ ?_ ?_
 ·rintro i σ H3 hi ⟨o,rfl,s3⟩ hd3;have hp3:=s3.sqt hp;have hg:(r.map V.int)[i]?=some (.int r[i]):=by rw[Y0l,Y01 hi];rfl
  refine⟨⟨_,_,hp3,hg⟩,fun y H4 ⟨e,hy⟩=>?_⟩;subst e;have hy:=hy _ hp3;rw[hg]at hy;cases hy;refine⟨_,rfl,_,rfl,WA hi hn hd3 (by simp[hi]) ⟨_,rfl,ZS s3 hd⟩⟩
 ·rintro σ H3 ⟨o,rfl,s3⟩ hd3;exact⟨⟨_,s3.sqt hp,by rw[Y07];exact Y05 _⟩,k H3 d s3 hd3⟩
abbrev TbK (K:Y00)(H:Hp)(p:Addr)(x:Q4):Prop:=SqT K H p (x.l.map V.int)
def spIt (K:Y00):Sp:=fun vs H Q _=>∃ (p:Addr) (x:Q4),vs=[.ref p]/\TbK K H p x/\x.bt 1100/\x.det=1/\∀ H':Hp,Z5 H H'->Q (.bl true) H'
def Zf0 (K:Y00):Sp:=fun vs H Q _=>∃ (p:Addr) (x:Q4),vs=[.ref p]/\TbK K H p x/\x.bt 1100/\x.det=1/\∀ H':Hp,Z5 H H'->Q .non H'
def spPr (K:Y00):Sp:=fun vs H Q _=>∃ (p q:Addr) (x y:Q4),vs=[.ref p,.ref q]/\TbK K H p x/\TbK K H q y/\x.bt 1100/\y.bt 1100/\x.det=1/\y.det=1/\∀ (H':Hp) (z:Addr),Z5 H H'->H' z=some (.tup ((x.mul y).l.map V.int))->Q (.ref z) H'
section
variable {P:Program}{w:World}{K:Y00}{mg:Str->Option Value}{base:Heap}
noncomputable abbrev n_it:List Str:=["thing"]
theorem Zkp:ZL n_it ["thing"] (ZV Xz):=⟨rfl,rfl,rfl,by decide +kernel,rfl,by decide +kernel,by decide +kernel⟩
theorem Zkz:(["number"]:List Str).Nodup:=by decide +kernel
theorem Zje {f fw:Addr}{fd dw:FuncData}(T:Bi mg)(F:Fn K mg "is_table" Xz ["thing"] f fd)(FW:Fn K mg "is_whole" Wm ["thing"] fw dw)(GW:Z4 P w K mg base CX0 1 fw dw ["thing"] Xv):Z4 P w K mg base CX0 2 f fd ["thing"] (spIt K):=by
 refine F.F.ok Zkp (fun vs H Q E h=>?_) (fun cdv A outer s H vs Q E hr h=>?_)
 ·obtain⟨p,x,rfl,_⟩:=h;rfl
 ·obtain⟨p,x,rfl,hp,⟨ba,bb,bc,bd⟩,hdet,k⟩:=h;have hr1:ZP 1 _:=hr.mono (by decide);refine⟨_,(Z3 (Zy (PW.pt (YK (YN (Y4 (ZG Z4u rfl T.isin XB (Z9 (pv 0) (Z9 (Xx (v:=.ty "tuple") rfl T.tuple XC rfl) Z7))))) (YK (ZE Yr (ZG Y5 rfl T.len PySem.boot_len (Z9 (pv 0) Z7)) Z6 (ZH _)) (XH (YN (Y4 (ZG (Z29 rfl) rfl T.all Z5Z (Z9 (Ym (N:=n_it) (names:=(ZV Xz).names) (N':=["number"]) (k:=1) (pull:=[]) (te:=(Yf Xv [] E0 (ZI (ZU 0) Zr))) rfl ⟨by rfl,by decide +kernel,by decide +kernel,by rfl,by decide +kernel,by decide +kernel⟩ rfl rfl (Vd (pv 0)) (fun _ _ _ _ _ _=>Zu (i:=0) Zkz rfl (Or.inl rfl)) (fun _ _ _ _ _ _=>(ZT GW hr rfl FW.m FW.F.kp FW.b .nil ZQ (Z9 (pv 0) Z7)))) Z7)))))))) (ZY (ZO Xq)) Zw)
   (ZY (ZO (XO Y7 (ZX X3 (ZX YH (Z2 ZZ (pv 0) Z6 (fun _ _=>rfl)) (Z2 ZZ (pv 0) Z6 (fun _ _=>rfl))) (ZX YH (Z2 ZZ (pv 0) Z6 (fun _ _=>rfl)) (Z2 ZZ (pv 0) Z6 (fun _ _=>rfl)))) Z6 (ZH _))))),?_⟩
  refine⟨_,rfl,p,_,_,_,rfl,hp,Z3m K,_,rfl,?_⟩;refine ZJ ?_;refine⟨_,rfl,p,_,rfl,.inr hp,rfl,_,rfl,?_⟩;refine ZJ ?_;dsimp only [Xr,Yy,Ww,Tb,tB,tCB,ZI];refine Z5V rfl hp (by simp[Q4.l]) fun H3 e s3 he=>?_;refine⟨e,_,rfl,SqL.of he,_,rfl,?_⟩;rw[Zbf];refine ZJ ?_;have hp:=s3.sqt hp;refine⟨_,rfl,p,_,0,_,rfl,rfl,hp,Z0 (j:=0) rfl,_,rfl,p,_,3,_,rfl,rfl,hp,Z0 (j:=3) rfl,_,_,rfl,rfl,⟨ba.mono (by decide),bd.mono (by decide)⟩,_,rfl,p,_,1,_,rfl,rfl,hp,Z0 (j:=1) rfl,_,rfl,p,_,2,_,rfl,rfl,hp,Z0 (j:=2) rfl,_,_,rfl,rfl,⟨bb.mono (by decide),bc.mono (by decide)⟩,_,_,rfl,rfl,rfl,?_⟩;have e1:decide (V.int (x.a*x.d-x.b*x.c)=V.int 1)=true:=decide_eq_true (congrArg V.int hdet);show Q (.bl (decide (V.int (x.a*x.d-x.b*x.c)=V.int 1))) H3;rw[e1];exact k H3 s3
noncomputable abbrev n_nt:List Str:=["thing"]
theorem ZkE:ZL n_nt ["thing"] (ZV Xk):=⟨rfl,rfl,rfl,by decide +kernel,rfl,by decide +kernel,by decide +kernel⟩
theorem ZjY {f fi:Addr}{fd di:FuncData}(F:Fn K mg "need_table" Xk ["thing"] f fd)(FI:Fn K mg "is_table" Xz ["thing"] fi di)(GI:Z4 P w K mg base CX0 2 fi di ["thing"] (spIt K)):Z4 P w K mg base CX0 3 f fd ["thing"] (Zf0 K):=by
 refine F.F.ok ZkE (fun vs H Q E h=>?_) (fun cdv A outer s H vs Q E hr h=>?_)
 ·obtain⟨p,x,rfl,_⟩:=h;rfl
 ·obtain⟨p,x,rfl,hp,hb,hdet,k⟩:=h;have hr1:ZP 1 _:=hr.mono (by decide);refine⟨_,(ZY (Zy (YN (Y4 (ZT GI hr rfl FI.m FI.F.kp FI.b .nil ZQ (Z9 (pv 0) Z7)))) ZaS Zw)),?_⟩;refine⟨_,rfl,p,x,rfl,hp,hb,hdet,fun H1 s1=>⟨_,rfl,?_⟩⟩;refine ZJ ?_;exact k H1 s1
noncomputable abbrev n_pr:List Str:=["one","other"]
theorem Zkb:ZL n_pr ["one","other"] (ZV Ur):=⟨rfl,rfl,rfl,by decide +kernel,rfl,by decide +kernel,by decide +kernel⟩
theorem Zk2 {f fn:Addr}{fd dn:FuncData}(F:Fn K mg "product" Ur ["one","other"] f fd)(FN:Fn K mg "need_table" Xk ["thing"] fn dn)(GN:Z4 P w K mg base CX0 3 fn dn ["thing"] (Zf0 K)):Z4 P w K mg base CX0 4 f fd ["one","other"] (spPr K):=by
 refine F.F.ok Zkb (fun vs H Q E h=>?_) (fun cdv A outer s H vs Q E hr h=>?_)
 ·obtain⟨p,q,x,y,rfl,_⟩:=h;rfl
 ·obtain⟨p,q,x,y,rfl,hp,hq,hbx,hby,hdx,hdy,k⟩:=h;have hr1:ZP 1 _:=hr.mono (by decide);refine⟨_,(Z3 (YB (ZT GN hr rfl FN.m FN.F.kp FN.b .nil ZQ (Z9 (pv 0) Z7)))
   (Z3 (YB (ZT GN hr rfl FN.m FN.F.kp FN.b .nil ZQ (Z9 (pv 1) Z7)))
   (ZY (ZO (Zq (Z9 (ZX Zd (ZX YH (Z2 ZZ (pv 0) Z6 (fun _ _=>rfl)) (Z2 ZZ (pv 1) Z6 (fun _ _=>rfl))) (ZX YH (Z2 ZZ (pv 0) Z6 (fun _ _=>rfl)) (Z2 ZZ (pv 1) Z6 (fun _ _=>rfl)))) (Z9 (ZX Zd (ZX YH (Z2 ZZ (pv 0) Z6 (fun _ _=>rfl)) (Z2 ZZ (pv 1) Z6 (fun _ _=>rfl))) (ZX YH (Z2 ZZ (pv 0) Z6 (fun _ _=>rfl)) (Z2 ZZ (pv 1) Z6 (fun _ _=>rfl)))) (Z9 (ZX Zd (ZX YH (Z2 ZZ (pv 0) Z6 (fun _ _=>rfl)) (Z2 ZZ (pv 1) Z6 (fun _ _=>rfl))) (ZX YH (Z2 ZZ (pv 0) Z6 (fun _ _=>rfl)) (Z2 ZZ (pv 1) Z6 (fun _ _=>rfl)))) (Z9 (ZX Zd (ZX YH (Z2 ZZ (pv 0) Z6 (fun _ _=>rfl)) (Z2 ZZ (pv 1) Z6 (fun _ _=>rfl))) (ZX YH (Z2 ZZ (pv 0) Z6 (fun _ _=>rfl)) (Z2 ZZ (pv 1) Z6 (fun _ _=>rfl)))) Z7))))))))),?_⟩
  refine⟨_,rfl,p,x,rfl,hp,hbx,hdx,fun H1 s1=>?_⟩;refine⟨_,rfl,q,y,rfl,s1.sqt hq,hby,hdy,fun H2 s2=>?_⟩;have s12:=s1.trans s2;replace hp:=s12.sqt hp;replace hq:=s12.sqt hq;obtain⟨a1,a2,a3,a4⟩:=hbx.mono (m:=4000) (by decide);obtain⟨b1,b2,b3,b4⟩:=hby.mono (m:=4000) (by decide);refine⟨_,rfl,p,_,0,_,rfl,rfl,hp,Z0 (j:=0) rfl,_,rfl,q,_,0,_,rfl,rfl,hq,Z0 (j:=0) rfl,_,_,rfl,rfl,⟨a1,b1⟩,_,rfl,p,_,1,_,rfl,rfl,hp,Z0 (j:=1) rfl,_,rfl,q,_,2,_,rfl,rfl,hq,Z0 (j:=2) rfl,_,_,rfl,rfl,⟨a2,b3⟩,_,_,rfl,rfl,?_⟩;refine⟨_,rfl,p,_,0,_,rfl,rfl,hp,Z0 (j:=0) rfl,_,rfl,q,_,1,_,rfl,rfl,hq,Z0 (j:=1) rfl,_,_,rfl,rfl,⟨a1,b2⟩,_,rfl,p,_,1,_,rfl,rfl,hp,Z0 (j:=1) rfl,_,rfl,q,_,3,_,rfl,rfl,hq,Z0 (j:=3) rfl,_,_,rfl,rfl,⟨a2,b4⟩,_,_,rfl,rfl,?_⟩;refine⟨_,rfl,p,_,2,_,rfl,rfl,hp,Z0 (j:=2) rfl,_,rfl,q,_,0,_,rfl,rfl,hq,Z0 (j:=0) rfl,_,_,rfl,rfl,⟨a3,b1⟩,_,rfl,p,_,3,_,rfl,rfl,hp,Z0 (j:=3) rfl,_,rfl,q,_,2,_,rfl,rfl,hq,Z0 (j:=2) rfl,_,_,rfl,rfl,⟨a4,b3⟩,_,_,rfl,rfl,?_⟩;refine⟨_,rfl,p,_,2,_,rfl,rfl,hp,Z0 (j:=2) rfl,_,rfl,q,_,1,_,rfl,rfl,hq,Z0 (j:=1) rfl,_,_,rfl,rfl,⟨a3,b2⟩,_,rfl,p,_,3,_,rfl,rfl,hp,Z0 (j:=3) rfl,_,rfl,q,_,3,_,rfl,rfl,hq,Z0 (j:=3) rfl,_,_,rfl,rfl,⟨a4,b4⟩,_,_,rfl,rfl,?_⟩;refine⟨by show 4<=sizeLine;decide,fun z hz=>k _ z (ZS s12 (s12.free hz)) ZR⟩
end
theorem ZeD:(Str.ofString "sts")=txt [115,116,115]:=by decide +kernel
theorem Z9N:(Str.ofString "ttt")=txt [116,116,116]:=by decide +kernel
def Zi3 (K:Y00):Sp:=fun vs H Q _=>∃ (p:Addr) (x:Q4),vs=[.ref p]/\TbK K H p x/\x.bt 1100/\∀ H':Hp,Z5 H H'->Q (.bl (decide (x.det=1))) H'
def Zim (K:Y00)(CT:Addr):Sp:=fun vs H Q E=>∃ (p:Addr) (x:Q4),vs=[.ref p]/\TbK K H p x/\x.bt 1100/\(x.det=1->∀ H':Hp,Z5 H H'->Q .non H')/\(x.det≠1->∀ H':Hp,Z5 H H'->E (.ref CT) none H')
def spBk (K:Y00):Sp:=fun vs H Q _=>∃ (p:Addr) (x:Q4),vs=[.ref p]/\TbK K H p x/\x.bt 1100/\x.det=1/\∀ (H':Hp) (z:Addr),Z5 H H'->H' z=some (.tup ((⟨x.d,-x.b,-x.c,x.a⟩:Q4).l.map V.int))->Q (.ref z) H'
def spSh:Sp:=fun vs H Q _=>∃ m:Int,vs=[.int m]/\m.natAbs<=130/\Q (.str (txt (shW m))) H
section
variable {P:Program}{w:World}{K:Y00}{mg:Str->Option Value}{base:Heap}
noncomputable abbrev ZgJ:List Str:=["thing"]
theorem Zh7:ZL ZgJ ["thing"] (ZV Xz):=⟨rfl,rfl,rfl,by decide +kernel,rfl,by decide +kernel,by decide +kernel⟩
theorem ZhB:(["number"]:List Str).Nodup:=by decide +kernel
theorem Zic {f fw:Addr}{fd dw:FuncData}(T:Bi mg)(F:Fn K mg "is_table" Xz ["thing"] f fd)(FW:Fn K mg "is_whole" Wm ["thing"] fw dw)(GW:Z4 P w K mg base CX0 1 fw dw ["thing"] Xv):Z4 P w K mg base CX0 2 f fd ["thing"] (Zi3 K):=by
 refine F.F.ok Zh7 (fun vs H Q E h=>?_) (fun cdv A outer s H vs Q E hr h=>?_)
 ·obtain⟨p,x,rfl,_⟩:=h;rfl
 ·obtain⟨p,x,rfl,hp,⟨ba,bb,bc,bd⟩,k⟩:=h;have hr1:ZP 1 _:=hr.mono (by decide);refine⟨_,(Z3 (Zy (PW.pt (YK (YN (Y4 (ZG Z4u rfl T.isin XB (Z9 (pv 0) (Z9 (Xx (v:=.ty "tuple") rfl T.tuple XC rfl) Z7))))) (YK (ZE Yr (ZG Y5 rfl T.len PySem.boot_len (Z9 (pv 0) Z7)) Z6 (ZH _)) (XH (YN (Y4 (ZG (Z29 rfl) rfl T.all Z5Z (Z9 (Ym (N:=ZgJ) (names:=(ZV Xz).names) (N':=["number"]) (k:=1) (pull:=[]) (te:=(Yf Xv [] E0 (ZI (ZU 0) Zr))) rfl ⟨by rfl,by decide +kernel,by decide +kernel,by rfl,by decide +kernel,by decide +kernel⟩ rfl rfl (Vd (pv 0)) (fun _ _ _ _ _ _=>Zu (i:=0) ZhB rfl (Or.inl rfl)) (fun _ _ _ _ _ _=>(ZT GW hr rfl FW.m FW.F.kp FW.b .nil ZQ (Z9 (pv 0) Z7)))) Z7)))))))) (ZY (ZO Xq)) Zw)
   (ZY (ZO (XO Y7 (ZX X3 (ZX YH (Z2 ZZ (pv 0) Z6 (fun _ _=>rfl)) (Z2 ZZ (pv 0) Z6 (fun _ _=>rfl))) (ZX YH (Z2 ZZ (pv 0) Z6 (fun _ _=>rfl)) (Z2 ZZ (pv 0) Z6 (fun _ _=>rfl)))) Z6 (ZH _))))),?_⟩
  refine⟨_,rfl,p,_,_,_,rfl,hp,Z3m K,_,rfl,?_⟩;refine ZJ ?_;refine⟨_,rfl,p,_,rfl,.inr hp,rfl,_,rfl,?_⟩;refine ZJ ?_;dsimp only [Xr,Yy,Ww,Tb,tB,tCB,ZI];refine Z5V rfl hp (by simp[Q4.l]) fun H3 e s3 he=>?_;refine⟨e,_,rfl,SqL.of he,_,rfl,?_⟩;rw[Zbf];refine ZJ ?_;have hp:=s3.sqt hp;refine⟨_,rfl,p,_,0,_,rfl,rfl,hp,Z0 (j:=0) rfl,_,rfl,p,_,3,_,rfl,rfl,hp,Z0 (j:=3) rfl,_,_,rfl,rfl,⟨ba.mono (by decide),bd.mono (by decide)⟩,_,rfl,p,_,1,_,rfl,rfl,hp,Z0 (j:=1) rfl,_,rfl,p,_,2,_,rfl,rfl,hp,Z0 (j:=2) rfl,_,_,rfl,rfl,⟨bb.mono (by decide),bc.mono (by decide)⟩,_,_,rfl,rfl,rfl,?_⟩;have e1:decide (V.int (x.a*x.d-x.b*x.c)=V.int 1)=decide (x.det=1):=by
   show decide (V.int x.det=V.int 1)=decide (x.det=1)
   by_cases h:x.det=1
   ·rw[decide_eq_true h,decide_eq_true (congrArg V.int h)]
   ·rw[decide_eq_false h,decide_eq_false (fun z=>h (V.int.inj z))]
  show Q (.bl (decide (V.int (x.a*x.d-x.b*x.c)=V.int 1))) H3;rw[e1];exact k H3 s3
noncomputable abbrev ZjO:List Str:=["thing"]
theorem Zgo:ZL ZjO ["thing"] (ZV Xk):=⟨rfl,rfl,rfl,by decide +kernel,rfl,by decide +kernel,by decide +kernel⟩
theorem ZiL {f fi:Addr}{fd di:FuncData}{CT:Addr}(hC:YT K CT)(hCm:mg "NoTable"=some (.ref CT))(F:Fn K mg "need_table" Xk ["thing"] f fd)(FI:Fn K mg "is_table" Xz ["thing"] fi di)(GI:Z4 P w K mg base CX0 2 fi di ["thing"] (Zi3 K)):Z4 P w K mg base (CX1 P w) 3 f fd ["thing"] (Zim K CT):=by
 refine F.F.ok1 Zgo (fun vs H Q E h=>?_) (fun cdv A outer s H vs Q E hr h=>?_)
 ·obtain⟨p,x,rfl,_⟩:=h;rfl
 ·obtain⟨p,x,rfl,hp,hb,k1,k2⟩:=h;have hr1:ZP 1 _:=hr.mono (by decide);refine⟨_,(ZY (Zy (YN (Y4 (ZT GI hr rfl FI.m FI.F.kp FI.b .nil ZQ (Z9 (pv 0) Z7)))) (ZY (Wp rfl hC rfl hCm Wd (Z9 Zt Z7))) Zw)),?_⟩;refine⟨_,rfl,p,x,rfl,hp,hb,fun H1 s1=>⟨_,rfl,?_⟩⟩
  by_cases h:x.det=1
  ·rw[decide_eq_true h];refine ZJ ?_;exact k1 h H1 s1
  ·rw[decide_eq_false h];refine Zz ?_;exact⟨by show 1<=sizeLine;decide,k2 h H1 s1⟩
noncomputable abbrev n_bk:List Str:=["table"]
theorem Zkl:ZL n_bk ["table"] (ZV UO):=⟨rfl,rfl,rfl,by decide +kernel,rfl,by decide +kernel,by decide +kernel⟩
theorem Zjc {f fn:Addr}{fd dn:FuncData}(F:Fn K mg "back_table" UO ["table"] f fd)(FN:Fn K mg "need_table" Xk ["thing"] fn dn)(GN:Z4 P w K mg base CX0 3 fn dn ["thing"] (Zf0 K)):Z4 P w K mg base CX0 4 f fd ["table"] (spBk K):=by
 refine F.F.ok Zkl (fun vs H Q E h=>?_) (fun cdv A outer s H vs Q E hr h=>?_)
 ·obtain⟨p,x,rfl,_⟩:=h;rfl
 ·obtain⟨p,x,rfl,hp,hbx,hdx,k⟩:=h;have hr1:ZP 1 _:=hr.mono (by decide);refine⟨_,(Z3 (YB (ZT GN hr rfl FN.m FN.F.kp FN.b .nil ZQ (Z9 (pv 0) Z7)))
   (ZY (ZO (Zq (Z9 (Z2 ZZ (pv 0) Z6 (fun _ _=>rfl)) (Z9 (XY X4 (Z2 ZZ (pv 0) Z6 (fun _ _=>rfl))) (Z9 (XY X4 (Z2 ZZ (pv 0) Z6 (fun _ _=>rfl))) (Z9 (Z2 ZZ (pv 0) Z6 (fun _ _=>rfl)) Z7)))))))),?_⟩
  refine⟨_,rfl,p,x,rfl,hp,hbx,hdx,fun H1 s1=>?_⟩;replace hp:=s1.sqt hp;refine⟨_,rfl,p,_,3,_,rfl,rfl,hp,Z0 (j:=3) rfl,_,rfl,p,_,1,_,rfl,rfl,hp,Z0 (j:=1) rfl,_,rfl,_,rfl,p,_,2,_,rfl,rfl,hp,Z0 (j:=2) rfl,_,rfl,_,rfl,p,_,0,_,rfl,rfl,hp,Z0 (j:=0) rfl,?_⟩;refine⟨by show 4<=sizeLine;decide,fun z hz=>k _ z (ZS s1 (s1.free hz)) ZR⟩
noncomputable abbrev n_sh:List Str:=["many"]
theorem Zj2:ZL n_sh ["many"] (ZV Ud):=⟨rfl,rfl,rfl,by decide +kernel,rfl,by decide +kernel,by decide +kernel⟩
theorem ZjT {f:Addr}{fd:FuncData}(F:Fn K mg "shears" Ud ["many"] f fd):Z4 P w K mg base CX0 1 f fd ["many"] spSh:=by
 refine F.F.ok Zj2 (fun vs H Q E h=>?_) (fun cdv A outer s H vs Q E hr h=>?_)
 ·obtain⟨m,rfl,_⟩:=h;rfl
 ·obtain⟨m,rfl,hm,k⟩:=h;refine⟨_,(Z3 (Zy (ZE ZkD (pv 0) Z6 (ZH _)) (ZY (ZO (ZX Z9L Zt (pv 0)))) Zw)
   (ZY (ZO (ZX Xl (ZX Xl Zt (ZX Z9L Zt (XY X4 (pv 0)))) Zt)))),?_⟩
  refine⟨_,rfl,_,_,rfl,rfl,_,rfl,?_⟩;refine Yv (fun hc=>?_) (fun hc=>?_)
  ·have h0:0<=m:=of_decide_eq_true hc;refine⟨_,rfl,[115],m.toNat,congrArg V.str Tn,by rw[Y2t h0],by lia,by decide,?_⟩;have:shW m=(Y0c m.toNat [115]).flatten:=if_pos h0;rw[<-this];exact k
  ·have h0:¬ 0<=m:=fun z=>hc (decide_eq_true z);have hl:(Y0c (-m).toNat [115,116,115]).flatten.length<=390:=by
    rw[Y34,Y37,Y2p];show (-m).toNat*3<=390;lia
   refine⟨_,rfl,_,rfl,[115,116,115],(-m).toNat,congrArg V.str ZeD,by rw[Y2t (by lia)],by lia,by decide,?_⟩;refine⟨_,_,rfl,rfl,?_,_,_,rfl,rfl,?_,?_⟩
   ·rw[Ze];exact Y16 (UN (by show 3+_<=_;lia))
   ·rw[Z9N,WB,XS,Ze,Ze,Y0h];exact Y16 (UN (by show 3+_+1<=_;lia))
   ·rw[Z9N,WB,XS,XS];have:shW m=[116,116,116]++(Y0c (-m).toNat [115,116,115]).flatten++[116]:=if_neg h0;rw[<-this];exact k
end
theorem Z9X:bootBuiltins "abs"=some (.builtin "abs"):=by decide +kernel
noncomputable abbrev ZhF:TE:=tCB (fun xs H Q=>∃ i,xs=[.int i]/\Q (.int (if i<0 then -i else i)) H) (ZI (ZU 0) Zr)
theorem Zfk {K:Y00}{Hc:Hp}{p:Addr}{r:List Int}{j:Nat}{Q:VK}{σ:St}(hj:σ[j]?=some (some (.ref p)))(hp:SqT K Hc p (r.map V.int))(hn:r.length<=1000)
  (k:∀ (H':Hp) (d:Addr),Z5 Hc H'->H' d=some (.lst ((r.map fun i=>(i.natAbs:Int)).map V.int))->Q (.ref d) H') :
  Yq (RA K (ZU j)) 1 [] (Zs 0) ZhF σ Hc Q:=by
 refine⟨_,hj,p,rfl,⟨_,hp⟩,fun d hd=>?_⟩;refine Xg (Q:=fun d H'=>Q (.ref d) H') r.length ((r.map fun i=>(i.natAbs:Int)).map V.int) (by simp) (fun i σ H3=>∃ o,σ=[o]/\Z5 Hc H3) ⟨none,rfl,ZS (Z5.refl _) hd⟩ ?_ ?_
 ·rintro i σ H3 hi ⟨o,rfl,s3⟩ hd3;have hp3:=s3.sqt hp;have hg:(r.map V.int)[i]?=some (.int r[i]):=by rw[Y0l,Y01 hi];rfl
  refine⟨⟨_,_,hp3,hg⟩,fun y H4 ⟨e,hy⟩=>?_⟩;subst e;have hy:=hy _ hp3;rw[hg]at hy;cases hy;have e9:(if r[i]<0 then -r[i] else r[i])=((r[i].natAbs:Nat):Int):=by split<;>lia
  refine⟨_,rfl,_,rfl,?_⟩;rw[e9];exact WA hi hn hd3 (by simp[hi]) ⟨_,rfl,ZS s3 hd⟩
 ·rintro σ H3 ⟨o,rfl,s3⟩ hd3;exact⟨⟨_,s3.sqt hp,by rw[Y07];exact Y05 _⟩,k H3 d s3 hd3⟩
theorem ZjH {x:Q4}{m:Int}(h1:m∈x.l.map fun i=>(i.natAbs:Int))(h2:∀ y∈x.l.map (fun i=>(i.natAbs:Int)),y<=m):m<=60↔Yb x:=by
 unfold Yb;simp only[Q4.l,Y11,Y4i,Y14,Y3h,or_false]at h1 h2;have g1:=h2 _ (.inl rfl);have g2:=h2 _ (.inr (.inl rfl));have g3:=h2 _ (.inr (.inr (.inl rfl)));have g4:=h2 _ (.inr (.inr (.inr rfl)));lia
theorem Z9R:(Str.ofString "tt")=txt [116,116]:=by decide +kernel
theorem Zk3:qT.bt 1100:=Q4.bt.mono (n:=2) (⟨by show (0:Int).natAbs<2^2;decide,by show (-1:Int).natAbs<2^2;decide,by show (1:Int).natAbs<2^2;decide,by show (0:Int).natAbs<2^2;decide⟩:qT.bt 2) (by decide)
theorem ZkG:(⟨0,1,-1,0⟩:Q4).bt 1100:=Q4.bt.mono (n:=2) (⟨by show (0:Int).natAbs<2^2;decide,by show (1:Int).natAbs<2^2;decide,by show (-1:Int).natAbs<2^2;decide,by show (0:Int).natAbs<2^2;decide⟩:(⟨0,1,-1,0⟩:Q4).bt 2) (by decide)
theorem ZkJ {m:Int}(h:m.natAbs<=2000000):(qs m).bt 1100:=Q4.bt.mono (n:=21) (⟨by show (1:Int).natAbs<2^21;decide,by show m.natAbs<2^21;lia,by show (0:Int).natAbs<2^21;decide,by show (1:Int).natAbs<2^21;decide⟩:(qs m).bt 21) (by decide)
def spWd (K:Y00)(CT:Addr):Sp:=fun vs H Q E=>∃ (p:Addr) (x:Q4),vs=[.ref p]/\TbK K H p x/\x.bt 1100/\(x.det=1->Yb x->∀ H':Hp,Z5 H H'->Q (.str (txt (YI x))) H')/\(x.det=1->¬ Yb x->∀ H':Hp,Z5 H H'->E (.ref CT) none H')/\(x.det≠1->∀ H':Hp,Z5 H H'->E (.ref CT) none H')
section
variable {P:Program}{w:World}{K:Y00}{mg:Str->Option Value}{base:Heap}
noncomputable abbrev n_wd:List Str:=["table","left","word","many"]
theorem U8:ZL n_wd ["table"] (ZV Vs):=⟨rfl,rfl,rfl,by decide +kernel,rfl,by decide +kernel,by decide +kernel⟩
theorem Zjo:(["number"]:List Str).Nodup:=by decide +kernel
theorem Zkj {f fn fs fp fb:Addr}{fd dn ds dp db:FuncData}{CT dL b0 b1:Addr}{tk:Tok}(T_abs:mg "abs"=none)(T_max:mg "max"=none)(hC:YT K CT)(hCm:mg "NoTable"=some (.ref CT))(C_LETTERS:mg "LETTERS"=some (.ref dL))(hL:TDi P w K dL (lts (.ref b0) (.ref b1)))(h1:TTu K b1 [0,-1,1,0])(C_GREATEST:mg "GREATEST"=some (.int 60 tk))(F:Fn K mg "word_of" Vs ["table"] f fd)(FN:Fn K mg "need_table" Xk ["thing"] fn dn)(GN:Z4 P w K mg base (CX1 P w) 3 fn dn ["thing"] (Zim K CT))
  (FS:Fn K mg "shears" Ud ["many"] fs ds) (GS:Z4 P w K mg base CX0 1 fs ds ["many"] spSh)
  (FP:Fn K mg "product" Ur ["one","other"] fp dp) (GP:Z4 P w K mg base CX0 4 fp dp ["one","other"] (spPr K))
  (FB:Fn K mg "back_table" UO ["table"] fb db) (GB:Z4 P w K mg base CX0 4 fb db ["table"] (spBk K)):Z4 P w K mg base (CX1 P w) 5 f fd ["table"] (spWd K CT):=by
 refine F.F.ok1 U8 (fun vs H Q E h=>?_) (fun cdv A outer s H vs Q E hr h=>?_)
 ·obtain⟨p,x,rfl,_⟩:=h;rfl
 ·obtain⟨p,x,rfl,hp,hbx,k1,k2,k3⟩:=h;have hr1:ZP 1 _:=hr.mono (by decide);have hr3:ZP 3 _:=hr.mono (by decide);refine⟨_,(Z3 (YB (ZT GN hr3 rfl FN.m FN.F.kp FN.b .nil (VY fun _ _ _ z=>z) (Z9 (pv 0) Z7)))
   (Z3 (Zy (ZE Ye (ZG (ZbP rfl) rfl T_max Z6u (Z9 (Ym (N:=n_wd) (names:=(ZV Vs).names) (N':=["number"]) (k:=1) (pull:=[]) (te:=ZhF) rfl ⟨by rfl,by decide +kernel,by decide +kernel,by rfl,by decide +kernel,by decide +kernel⟩ rfl rfl (Vd (pv 0)) (fun _ _ _ _ _ _=>Zu (i:=0) Zjo rfl (Or.inl rfl)) (fun _ _ _ _ _ _=>(ZG Yk rfl T_abs Z9X (Z9 (pv 0) Z7)))) Z7)) (XR (v:=.int 60) (by rfl) C_GREATEST ⟨_,rfl⟩) (ZH _)) (ZY (Wp rfl hC rfl hCm Wd (Z9 (Z7Q (.cons Zt (.cons (T9 (XR (v:=.int 60) (by rfl) C_GREATEST ⟨_,rfl⟩)) (.cons Zt (.cons (T9 (XR (v:=.int 60) (by rfl) C_GREATEST ⟨_,rfl⟩)) .nil))))) Z7))) Zw)
   (PSs.nox (Z3 (ZW (i:=1) U8.nd rfl (Or.inl rfl) (pv 0))
   (Z3 (ZW (i:=2) U8.nd rfl (Or.inl rfl) Zt)
   (Z3 (XU PassesOwn.never (ZE Yr (Z2 ZZ (pv 1) Z6 (fun _ _=>rfl)) Z6 (ZH _)) (Z3 (ZW (i:=3) U8.nd rfl (Or.inl rfl) (XY X4 (ZX Z8W (XY X4 (Z2 ZZ (pv 1) Z6 (fun _ _=>rfl))) (Z2 ZZ (pv 1) Z6 (fun _ _=>rfl)))))
   (Z3 (ZW (i:=2) U8.nd rfl (Or.inl rfl) (ZX Xl (ZX Xl Zt (ZT GS hr1 rfl FS.m FS.F.kp FS.b .nil ZQ (Z9 (pv 3) Z7))) (pv 2)))
   (ZY (ZW (i:=1) U8.nd rfl (Or.inl rfl) (ZT GP hr rfl FP.m FP.F.kp FP.b .nil ZQ (Z9 (ZT GB hr rfl FB.m FB.F.kp FB.b .nil ZQ (Z9 (Zd4 (XR (v:=.ref dL) (by rfl) C_LETTERS rfl) Zt (fun _ _=>rfl)) Z7)) (Z9 (ZT GP hr rfl FP.m FP.F.kp FP.b .nil ZQ (Z9 (Zq (Z9 Z6 (Z9 (XY X4 (pv 3)) (Z9 Z6 (Z9 Z6 Z7))))) (Z9 (pv 1) Z7))) Z7))))))))
   (Z3 (Zy (ZE Y7 (Z2 ZZ (pv 1) Z6 (fun _ _=>rfl)) Z6 (ZH _)) (ZY (ZO (ZX Xl (ZT GS hr1 rfl FS.m FS.F.kp FS.b .nil ZQ (Z9 (Z2 ZZ (pv 1) Z6 (fun _ _=>rfl)) Z7)) (pv 2)))) Zw)
   (ZY (ZO (ZX Xl (ZX Xl Zt (ZT GS hr1 rfl FS.m FS.F.kp FS.b .nil ZQ (Z9 (XY X4 (Z2 ZZ (pv 1) Z6 (fun _ _=>rfl))) Z7))) (pv 2))))))))))),?_⟩
  refine⟨_,rfl,p,x,rfl,hp,hbx,fun hd H1 s1=>?_,k3⟩;have hp1:=s1.sqt hp;dsimp only [Xr,Yy,Ww,WD,tOp,tCB,ZI,Zr];refine Zfk rfl hp1 (by simp[Q4.l]) fun H2 e s2 he=>?_;refine⟨e,_,rfl,SqL.of he,by simp[Q4.l],fun m hm1 hm2=>⟨_,_,rfl,rfl,_,rfl,?_⟩⟩;have hm:=ZjH hm1 hm2;have s12:=s1.trans s2;have sl:∀ n:Nat,n<=100000->n<=sizeLine:=fun n h=>Y16 (UN h);have four:4<=sizeLine:=by decide
  by_cases hl:Yb x
  ·rw[decide_eq_false (by have:=hm.mpr hl;lia)];refine ZJ ?_;refine⟨_,rfl,?_⟩;refine Z56 (fun m σ H3=>Z5 H H3/\∃ (q:Addr) (L:Q4) (z:List Nat) (o:Option V) (n:Nat),m=L.c.natAbs/\σ=[some (.ref p),some (.ref q),some (.str (txt z)),o]/\TbK K H3 q L/\WI x L z/\L.c.natAbs<=n/\wlp n L z=YI x) ⟨_,s12,p,x,[],_,_,rfl,rfl,s2.sqt hp1,WI.start hd hl,Y05 _,rfl⟩ ?_ ?_
   ·rintro m σ H3 ⟨s3,q,L,z,o,n,rfl,rfl,hq,hw,hn,hz⟩;refine⟨_,rfl,q,_,2,_,rfl,rfl,hq,Z0 (j:=2) rfl,rfl,_,rfl,?_⟩;have zl:=hw.len;refine Yv (fun h=>?_) (fun h=>?_)
    ·have hc:L.c≠0:=by
      intro e;rw[e]at h;exact absurd h (by decide)
     obtain⟨hw2,hlt⟩:=hw.step hc;obtain⟨l1,l2,l3,g4⟩:=hw.le;have hm130:(mny L).natAbs<=130:=Y0z (Ze0 hc) (by lia);have hmid:=Zcs hw2.le;refine⟨_,rfl,q,_,0,_,rfl,rfl,hq,Z0 (j:=0) rfl,_,rfl,_,rfl,q,_,2,_,rfl,rfl,hq,Z0 (j:=2) rfl,_,_,rfl,rfl,⟨hc,by lia⟩,_,rfl,?_⟩;have hsl:=Va (mny L);refine⟨_,rfl,mny L,rfl,hm130,_,_,rfl,rfl,?_,_,rfl,_,_,rfl,rfl,?_,?_⟩
     ·rw[WB,Ze,Ze];exact sl _ (by show 1+_<=_;lia)
     ·rw[WB,XS,Ze,Ze,Y0h];exact sl _ (by show 1+_+_<=_;lia)
     rw[WB,XS,XS];refine⟨dL,_,(Sum.inr (Str.ofString "t"):Key),.ref b1,_,by rfl,by rfl,hL,by rw[WB];exact Zjh _ _,rfl,?_⟩;refine⟨b1,qT,rfl,h1.sq _,Zk3,rfl,fun H4 y s4 hy=>?_⟩;refine⟨_,rfl,_,rfl,four,fun t ht=>?_⟩;have ut:=ZS (o:=.tup [.int 1,.int (-(mny L)),.int 0,.int 1]) (Z5.refl H4) ht;have tt:(upd H4 t (.tup [.int 1,.int (-(mny L)),.int 0,.int 1])) t=some (.tup ((qs (-(mny L))).l.map V.int)):=ZR;refine⟨_,rfl,t,q,qs (-(mny L)),L,rfl,SqT.of tt,ut.sqt (s4.sqt hq),ZkJ (by lia),(ZbA hw.le).mono (by decide),by simp[Q4.det,qs],hw.det,fun H6 y2 s6 hy2=>?_⟩;refine⟨y,y2,⟨0,1,-1,0⟩,(qs (-(mny L))).mul L,rfl,SqT.of (s6 _ _ (ut _ _ hy)),SqT.of hy2,ZkG,(ZbA hmid).mono (by decide),rfl,by rw[Z5X,hw.det];simp[Q4.det,qs],fun H7 y3 s7 hy3=>?_⟩;refine⟨(Y3 L).c.natAbs,hlt,s3.trans (s4.trans (ut.trans (s6.trans s7))),y3,Y3 L,_,_,n-1,rfl,rfl,SqT.of hy3,hw2,by lia,?_⟩;obtain⟨n',rfl⟩:∃ n',n=n' + 1:=⟨n-1,by lia⟩;rw[Zej hc]at hz;exact hz
    ·have hc:L.c=0:=by
      rcases Decidable.em (L.c=0) with e|e
      ·exact e
      ·exact absurd (by rw[decide_eq_false (fun z=>e (V.int.inj z))];rfl) h
     rw[ZbD hc]at hz;obtain⟨l1,l2,l3,g4⟩:=hw.le;refine⟨_,rfl,q,_,0,_,rfl,rfl,hq,Z0 (j:=0) rfl,rfl,_,rfl,?_⟩;unfold Wy at hz;refine Yv (fun g=>?_) (fun g=>?_)
     ·have ha:L.a=1:=V.int.inj (of_decide_eq_true g);rw[if_pos ha]at hz;have hsl:=Va L.b;refine⟨_,rfl,q,_,1,_,rfl,rfl,hq,Z0 (j:=1) rfl,L.b,rfl,by lia,_,rfl,_,_,rfl,rfl,?_,?_⟩
      ·rw[Ze,Ze];exact sl _ (by lia)
      ·rw[XS,hz];exact k1 hd hl H3 s3
     ·have ha:¬ L.a=1:=fun z=>g (decide_eq_true (congrArg V.int z));rw[if_neg ha]at hz;have hsl:=Va (-L.b);refine⟨_,rfl,q,_,1,_,rfl,rfl,hq,Z0 (j:=1) rfl,_,rfl,-L.b,rfl,by lia,_,_,rfl,rfl,?_,_,rfl,_,_,rfl,rfl,?_,?_⟩
      ·rw[Z9R,Ze,Ze];exact sl _ (by show 2+_<=_;lia)
      ·rw[Z9R,XS,Ze,Ze,Y0h];exact sl _ (by show 2+_+_<=_;lia)
      ·rw[Z9R,XS,XS,hz];exact k1 hd hl H3 s3
   ·rintro σ H' Q1 Q2 hq ⟨y,e1,a1,a2,a3,a4,a5,a6,a7,a8,a9,b2,b3,b4⟩;exact⟨y,e1,a1,a2,a3,a4,a5,a6,a7,a8,a9,b2,b3,hq _ _ b4⟩
  ·rw[decide_eq_true (by rcases Y1c 60 m with h|h;exact h;exact absurd (hm.mp h) hl)];refine Zz ?_;refine⟨_,rfl,by decide,?_⟩;refine⟨60,rfl,by decide,_,rfl,by decide,?_⟩;refine⟨_,rfl,by decide,?_⟩;refine⟨60,rfl,by decide,_,rfl,by decide,?_⟩;exact⟨by show 1<=sizeLine;decide,k2 hd hl H2 s12⟩
end
def Zer:Sp:=fun vs H Q _=>∃ (a:Addr) (p q:Int) (n:Nat) (r u:List Nat),vs=[.ref a,.int p,.int q]/\Zn H a r u/\Zg n r u/\p.natAbs<=60/\q.natAbs<=60/\Y1v p q=1/\
 ∀ (H':Hp) (l:Addr) (as:List Addr) (ps:List Pr),Z5 H H'->H l=none->H' l=some (.lst (as.map V.ref))->Zo H' as ps->ps.Perm ((NB n (mvs n (YI (lq p q)) (r,u))).map W9)->Uk ps->Q (.ref l) H'
section
variable {P:Program}{w:World}{K:Y00}{mg:Str->Option Value}{base:Heap}
noncomputable abbrev Zix:List Str:=["sheet","p","q","level"]
theorem Ze1:ZL Zix ["sheet","p","q"] (ZV Wu):=⟨rfl,rfl,rfl,by decide +kernel,rfl,by decide +kernel,by decide +kernel⟩
theorem Zfy:(["band"]:List Str).Nodup:=by decide +kernel
theorem ZgH {f fm fw ft fq:Addr}{fd dm dw dt dq:FuncData}{CT CW:Addr}(T:Bi mg)(F:Fn K mg "bands_along" Wu ["sheet","p","q"] f fd)(FM:Fn K mg "moved" T5 ["sheet","word"] fm dm)(GM:Z4 P w K mg base (CX1 P w) 4 fm dm ["sheet","word"] (spMd CW))
  (FW:Fn K mg "word_of" Vs ["table"] fw dw) (GW:Z4 P w K mg base (CX1 P w) 5 fw dw ["table"] (spWd K CT))
  (FT:Fn K mg "to_level" Uz ["p","q"] ft dt) (GT:Z4 P w K mg base CX0 3 ft dt ["p","q"] spTl)
  (FQ:Fn K mg "bands" V8 ["sheet"] fq dq) (GQ:Z4 P w K mg base CX0 9 fq dq ["sheet"] Zbo):Z4 P w K mg base CX0 10 f fd ["sheet","p","q"] Zer:=by
 refine F.F.ok Ze1 (fun vs H Q E h=>?_) (fun cdv A outer s H vs Q E hr h=>?_)
 ·obtain⟨a,p,q,n,r,u,rfl,_⟩:=h;rfl
 ·obtain⟨a,p,q,n,r,u,rfl,hsh,hS,p12,q12,hg,k⟩:=h;have hu10:(A.deeper (PyProof.Rows.envOfC "bands_along" (ZV Wu) s.heap.objs.size f cdv)).units+10<cLine:=Y1s (Y3d (by decide) _) hr.units;have hr1:ZP 1 _:=hr.mono (by decide);have hr3:ZP 3 _:=hr.mono (by decide);have hr4:ZP 4 _:=hr.mono (by decide);have hr5:ZP 5 _:=hr.mono (by decide);have hr9:ZP 9 _:=hr.mono (by decide);refine⟨_,(Z3 (ZW (i:=3) Ze1.nd rfl (Or.inl rfl) (ZT GM hr4 rfl FM.m FM.F.kp FM.b .nil Yh (Z9 (pv 0) (Z9 (ZT GW hr5 rfl FW.m FW.F.kp FW.b .nil Yh (Z9 (ZT GT hr3 rfl FT.m FT.F.kp FT.b .nil ZQ (Z9 (pv 1) (Z9 (pv 2) Z7))) Z7)) Z7))))
   (ZY (ZO (ZG (Z4s rfl hu10) rfl T.sorted UR (Z9 (Ym (N:=Zix) (names:=(ZV Wu).names) (N':=["band"]) (k:=1) (pull:=[]) (te:=(Za8 K)) rfl ⟨by rfl,by decide +kernel,by decide +kernel,by rfl,by decide +kernel,by decide +kernel⟩ rfl rfl (Yl (ZT GQ hr9 rfl FQ.m FQ.F.kp FQ.b .nil ZQ (Z9 (pv 3) Z7))) (fun _ _ _ _ _ _=>Zu (i:=0) Zfy rfl (Or.inl rfl)) (fun _ _ _ _ _ _=>(Zq (Z9 (Z2 ZZ (pv 0) Z6 (fun _ _=>rfl)) (Z9 (Z2 ZZ (pv 0) Z6 (fun _ _=>rfl)) Z7))))) Z7))))),?_⟩
  have rr:=hS.row;have ru:=hS.col;have hn:=hS.most;have hway:Way p q:=⟨by lia,by lia,fun ⟨z1,z2⟩=>by rw[z1,z2]at hg;exact absurd hg (by decide)⟩;have hck:=ZdU p12 q12 hg;refine⟨_,rfl,_,rfl,_,rfl,p,q,rfl,hway,hg,fun H1 l1 s1 hl1 e1 b1 b2=>?_⟩;have hdet:(lq p q).det=1:=by
   show wt0 p q*p-wt1 p q*(-q)=1;rw[Y2y];lia
  have hl60:Yb (lq p q):=⟨hck.1,hck.2.1,by show (-q).natAbs<=60;lia,by show p.natAbs<=60;lia⟩;have big:∀ {i:Int},i.natAbs<=60->Bt 1100 i:=fun {i} h=>Y1s h (by decide +kernel);obtain⟨_,wl,wc⟩:=Z8z hdet hl60;have hok:okW (YI (lq p q))=true:=by
   unfold okW;rw[decide_eq_true wl,Bool.true_and,Y3f];exact wc
  refine⟨l1,lq p q,rfl,SqT.of hl1,⟨big hl60.1,big hl60.2.1,big hl60.2.2.1,big hl60.2.2.2⟩,fun _ _ H2 s2=>?_,fun _ z=>absurd hl60 z,fun z=>absurd hdet z⟩;have s12:=s1.trans s2;refine⟨a,YI (lq p q),n,r,u,rfl,by lia,hsh.same s12,rr,ru,hn,fun _ H3 b s3 hb=>?_,fun z=>by rw[hok]at z;cases z⟩;have hSm:=SS (YI (lq p q)) (x:=(r,u)) hS;have s13:=s12.trans s3;dsimp only [Zs,Ya,tCB,ZI,Zr];refine Zgu (fun H4 lb=>Z5 H3 H4/\∃ as bs,H4 lb=some (.lst (as.map V.ref))/\Zm H4 as bs/\bs.Perm (NB n (mvs n (YI (lq p q)) (r,u)))) (fun R hR=>⟨_,rfl,b,n,_,_,rfl,hb,hSm.row,hSm.col,hn,fun H4 lb as bs s4 _ hlb hB hp _=>hR H4 lb ⟨s4,as,bs,hlb,hB,hp⟩⟩) ?_;rintro H4 lb ⟨s4,as,bs,hlb,hB,hp⟩;have hal:=hB.len;have hbl:=hp.length_eq;have hbn:(NB n (mvs n (YI (lq p q)) (r,u))).length<=n:=Z5n;refine Zbn (rest:=[]) hlb hB rfl (by lia) fun H5 d ps s5 hd0 hd hP=>?_;have hpl:=hP.len;rw[Y07]at hpl;refine Z93 hd hP (by lia) fun l ps' bs' hl0 hP' hpp hso=>?_;have sa:=s13.trans (s4.trans s5);exact k _ l ps' bs' (ZS sa (sa.free hl0)) (sa.free hl0) ZR hP' (hpp.trans (hp.map W9)) hso
theorem ZeC:ZL ["_law_found"] ["_law_found"] (ZV Vf):=⟨rfl,rfl,rfl,by decide +kernel,rfl,by decide +kernel,by decide +kernel⟩
theorem ZcD {f:Addr}{fd:FuncData}(T:Bi mg)(F:Fn K mg "_law_whole" Vf ["_law_found"] f fd):Z4 P w K mg base CX0 1 f fd ["_law_found"] Xv:=by
 refine F.F.ok ZeC (fun vs H Q E h=>?_) (fun cdv A outer s H vs Q E hr h=>?_)
 ·obtain⟨i,rfl,_⟩:=h;rfl
 ·obtain⟨i,rfl,k⟩:=h;refine⟨_,ZY (ZO (Vc (ZG W3 (by rfl) T.isin XB (Z9 (pv 0) (Z9 (Xx (v:=.ty "int") (by rfl) T.int Z8l rfl) Z7)))
   (TX (Zdz (ZG W3 (by rfl) T.isin XB (Z9 (pv 0) (Z9 (Xx (v:=.ty "bool") (by rfl) T.bool Z7s rfl) Z7))))))),?_⟩
  refine⟨_,rfl,_,_,_,_,rfl,.int i,Z5b K,_,rfl,?_⟩;refine Zz ?_;exact⟨_,rfl,_,_,_,_,rfl,.int i,Z4m K,_,rfl,k⟩
end
def Zgq:Sp:=fun vs H Q _=>∃ (l:Addr) (n:Nat) (as:List Addr) (ps:List Pr),vs=[.ref l,.int (n:Int)]/\H l=some (.lst (as.map V.ref))/\Zo H as ps/\Uk ps/\(∀ b∈ps,1<=b.1/\1<=b.2/\b.1<=36)/\ps.length<=36/\(ps.map fun b=>b.1*b.2).sum=n/\n<=36/\∀ H':Hp,Z5 H H'->Q (.bl true) H'
section
variable {P:Program}{w:World}{K:Y00}{mg:Str->Option Value}{base:Heap}
noncomputable abbrev ZkL:List Str:=["_law_found","_law_many","_law_total","_law_band"]
theorem Sj:ZL ZkL ["_law_found","_law_many"] (ZV VH):=⟨rfl,rfl,rfl,by decide +kernel,rfl,by decide +kernel,by decide +kernel⟩
set_option maxHeartbeats 1000000 in
theorem Zir {f fw:Addr}{fd dw:FuncData}(T:Bi mg)(F:Fn K mg "_law_bands_are" VH ["_law_found","_law_many"] f fd)(FW:Fn K mg "_law_whole" Vf ["_law_found"] fw dw)(GW:Z4 P w K mg base CX0 1 fw dw ["_law_found"] Xv):Z4 P w K mg base CX0 2 f fd ["_law_found","_law_many"] Zgq:=by
 refine F.F.ok Sj (fun vs H Q E h=>?_) (fun cdv A outer s H vs Q E hr h=>?_)
 ·obtain⟨l,n,as,ps,rfl,_⟩:=h;rfl
 ·obtain⟨l,n,as,ps,rfl,hl,hP,hso,hb,hpl,hsum,hn,k⟩:=h;have hu10:(A.deeper (PyProof.Rows.envOfC "_law_bands_are" (ZV VH) s.heap.objs.size f cdv)).units+10<cLine:=Y1s (Y3d (by decide) _) hr.units;have hr1:ZP 1 _:=hr.mono (by decide);refine⟨_,(Z3 (Zy (PW.pt (YK (YN (Y4 (ZG W3 rfl T.isin XB (Z9 (pv 0) (Z9 (Xx (v:=.ty "list") rfl T.list UJ rfl) Z7))))) (XH (ZE Zet (ZG (Z4s rfl hu10) rfl T.sorted UR (Z9 (pv 0) Z7)) (pv 0) (ZH _))))) (ZY (ZO Xq)) Zw)
   (Z3 (ZW (i:=2) Sj.nd rfl (Or.inl rfl) Z6)
   (Z3 (Yg PassesOwn.never rfl (Yl (pv 0)) (Zu (i:=3) Sj.nd rfl (Or.inl rfl)) (Z3 (Zy (PW.pt (YK (YN (Y4 (ZG W3 rfl T.isin XB (Z9 (pv 3) (Z9 (Xx (v:=.ty "tuple") rfl T.tuple XC rfl) Z7))))) (YK (ZE Yr (ZG Y5 rfl T.len PySem.boot_len (Z9 (pv 3) Z7)) Z6 (ZH _)) (YK (YN (Y4 (ZT GW hr1 rfl FW.m FW.F.kp FW.b .nil ZQ (Z9 (Z2 ZZ (pv 3) Z6 (fun _ _=>rfl)) Z7)))) (XH (YN (Y4 (ZT GW hr1 rfl FW.m FW.F.kp FW.b .nil ZQ (Z9 (Z2 ZZ (pv 3) Z6 (fun _ _=>rfl)) Z7))))))))) (ZY (ZO Xq)) Zw)
   (Z3 (Zy (PW.pt (YK (ZE X2 (Z2 ZZ (pv 3) Z6 (fun _ _=>rfl)) Z6 (ZH _)) (XH (ZE X2 (Z2 ZZ (pv 3) Z6 (fun _ _=>rfl)) Z6 (ZH _))))) (ZY (ZO Xq)) Zw)
   (ZY (ZW (i:=2) Sj.nd rfl (Or.inl rfl) (ZX Zd (pv 2) (ZX YY (Z2 ZZ (pv 3) Z6 (fun _ _=>rfl)) (Z2 ZZ (pv 3) Z6 (fun _ _=>rfl)))))))))
   (ZY (ZO (XO Y7 (pv 2) (pv 1) (ZH _))))))),?_⟩
  have hlen:=hP.len;refine⟨_,rfl,_,_,_,_,rfl,.lst hl,Z6t K,_,rfl,?_⟩;refine ZJ ?_;refine⟨_,rfl,?_⟩;dsimp only [Zr];refine Z93 hl hP (by lia) fun lz zs cs hlz hBz hpz hsz=>?_;have uz:=ZS (o:=.lst (zs.map V.ref)) (Z5.refl H) hlz;refine⟨_,rfl,_,_,Zdp ZR hBz,Zdp (uz _ _ hl) (hP.same uz),ZaQ _,ZaQ _,Zbd hr (Zc4 _),_,rfl,?_⟩;rw[if_pos rfl,Z5y hpz hsz hso,ZeN];refine ZJ ?_;generalize upd H lz (.lst (zs.map V.ref))=H1 at uz;refine⟨_,rfl,l,rfl,⟨_,SqL.of (uz _ _ hl)⟩,SL (K:=K) (a:=l) (xs:=as.map V.ref) (fun i σ H2=>H2=H1/\∃ o3,σ=[some (.ref l),some (.int (n:Int)),some (.int ((((ps.take i).map fun b=>b.1*b.2).sum:Nat):Int)),o3]) ⟨rfl,_,rfl⟩ (fun i σ H2 _ ⟨e,_⟩=>by rw[e];exact SqL.of (uz _ _ hl)) ?_ ?_⟩
  ·rintro i x σ H2 hx ⟨rfl,o3,rfl⟩;rw[Y0l]at hx;obtain⟨y,hy,rfl⟩:=Option.map_eq_some_iff.mp hx;obtain⟨b,hbi,h1⟩:=hP.get hy;have hbb:=hb b (Y0r hbi);have h1:=uz _ _ h1;have h1':=SqT.of (K:=K) h1;have htk:((ps.take (i+1)).map fun b=>b.1*b.2).sum=((ps.take i).map fun b=>b.1*b.2).sum+b.1*b.2:=by
    rw[Y1j,hbi,Y1z,List.sum_append];simp
   refine⟨_,rfl,_,_,_,_,rfl,.tup h1,Z3m K,_,rfl,?_⟩;refine ZJ ?_;refine⟨_,rfl,y,_,rfl,.inr h1',rfl,_,rfl,?_⟩;refine ZJ ?_;refine⟨_,rfl,y,_,0,_,rfl,rfl,h1',Z0 (j:=0) rfl,_,rfl,_,rfl,?_⟩;refine ZJ ?_;refine⟨_,rfl,y,_,1,_,rfl,rfl,h1',Z0 (j:=1) rfl,_,rfl,_,rfl,?_⟩;refine ZJ ?_;refine⟨_,rfl,y,_,0,_,rfl,rfl,h1',Z0 (j:=0) rfl,_,_,rfl,rfl,_,rfl,?_⟩;rw[decide_eq_false (show ¬ (b.1:Int)<1 by lia)];refine ZJ ?_;refine⟨_,rfl,y,_,1,_,rfl,rfl,h1',Z0 (j:=1) rfl,_,_,rfl,rfl,_,rfl,?_⟩;rw[decide_eq_false (show ¬ (b.2:Int)<1 by lia)];refine ZJ ?_;refine⟨_,rfl,_,rfl,y,_,0,_,rfl,rfl,h1',Z0 (j:=0) rfl,_,rfl,y,_,1,_,rfl,rfl,h1',Z0 (j:=1) rfl,_,_,rfl,rfl,.inl ⟨by lia,by lia⟩,_,_,rfl,rfl,?_⟩;refine⟨rfl,some (.ref y),?_⟩;rw[htk];simp
  ·rintro σ H2 ⟨rfl,o3,rfl⟩;rw[Y07,hlen,Y2n,hsum];refine⟨_,rfl,_,rfl,rfl,?_⟩;rw[decide_eq_true rfl];exact k _ uz
end
noncomputable def tdI (r:List Int):PyData:=.tuple (r.map PyData.int)
theorem dtI {K:Y00}{H:Hp}:∀ xs:List Int,Yd K H (xs.map V.int) (xs.map PyData.int)
 | []=>.nil
 | x::xs=>.cons (.int _) (dtI xs)
theorem Zds {K:Y00}{H:Hp}{p:Addr}{r:List Int}(h:SqT K H p (r.map V.int)):Dt K H (.ref p) (tdI r):=.tup h (dtI r)
theorem eqvI:∀ xs ys:List Int,PyData.eqvAll (xs.map PyData.int) (ys.map PyData.int)=decide (xs=ys)
 | [],[]=>rfl
 | [],y::ys=>rfl
 | x::xs,[]=>rfl
 | x::xs,y::ys=>by
  show ((x==y)&&PyData.eqvAll (xs.map PyData.int) (ys.map PyData.int))=_;rw[eqvI xs ys]
  by_cases e:x=y
  ·subst e
   by_cases e':xs=ys<;>simp[e']
  ·simp[e]
theorem ZeR (r r':List Int):PyData.eqv (tdI r) (tdI r')=decide (r=r'):=eqvI r r'
theorem layI:∀ xs:List Int,PyData.canLayAll0 (xs.map PyData.int)=true
 | []=>rfl
 | x::xs=>by show (PyData.canLay0 (PyData.int _)&&PyData.canLayAll0 (xs.map PyData.int))=true;rw[layI xs];rfl
theorem Zbz (r:List Int):(tdI r).canLay0=true:=layI r
theorem depI:∀ xs:List Int,PyData.depthAll (xs.map PyData.int)=0
 | []=>rfl
 | x::xs=>by show max 0 (PyData.depthAll (xs.map PyData.int))=0;rw[depI xs];rfl
theorem ZbY (r:List Int):(tdI r).depth<=64:=by
 show PyData.depthAll (r.map PyData.int)+1<=64;rw[depI];decide
theorem Z9a (K:Y00):Y2i K (.type "tuple") (.type "tuple")=some true:=by kernel_rfl
def ZgT (C:Addr):Sp:=fun vs H Q _=>∃ (t l:Addr) (s:Nat) (x y:Int),vs=[.ref t,.int (s:Int),.int x,.int y]/\H t=some (.tup [.str (Str.ofString "there"),.ref l])/\P3 C H l s x 61 y 61/\∀ H':Hp,Z5 H H'->Q (.bl true) H'
section
variable {P:Program}{w:World}{K:Y00}{mg:Str->Option Value}{base:Heap}
noncomputable abbrev Zj9:List Str:=["_law_end","_law_square","_law_x","_law_y","_law_parts"]
theorem Zea:ZL Zj9 ["_law_end","_law_square","_law_x","_law_y"] (ZV Te):=⟨rfl,rfl,rfl,by decide +kernel,rfl,by decide +kernel,by decide +kernel⟩
theorem ZhT {f:Addr}{fd:FuncData}{C:Addr}(T:Bi mg)(TP:PTx K mg C)(F:Fn K mg "_law_at" Te ["_law_end","_law_square","_law_x","_law_y"] f fd):Z4 P w K mg base CX0 1 f fd ["_law_end","_law_square","_law_x","_law_y"] (ZgT C):=by
 refine F.F.ok Zea (fun vs H Q E h=>?_) (fun cdv A outer s H vs Q E hr h=>?_)
 ·obtain⟨t,l,s,x,y,rfl,_⟩:=h;rfl
 ·obtain⟨t,l,s,x,y,rfl,ht,⟨px,py,h1,⟨dx,h2⟩,⟨dy,h3⟩⟩,k⟩:=h;refine⟨_,(Z3 (Zy (PW.pt (YK (YN (Y4 (ZG W3 rfl T.isin XB (Z9 (pv 0) (Z9 (Xx (v:=.ty "tuple") rfl T.tuple XC rfl) Z7))))) (YK (ZE Yr (Z2 ZZ (pv 0) Z6 (fun _ _=>rfl)) Zt (ZH _)) (YK (ZE Yr (ZG Y5 rfl T.len PySem.boot_len (Z9 (pv 0) Z7)) Z6 (ZH _)) (XH (ZE Yr (Z2 ZZ (Z2 ZZ (pv 0) Z6 (fun _ _=>rfl)) Z6 (fun _ _=>rfl)) (pv 1) (ZH _))))))) (ZY (ZO Xq)) Zw)
   (Z3 (ZW (i:=4) Zea.nd rfl (Or.inl rfl) (Zq (Z9 (Z2 ZZ (Z2 ZZ (pv 0) Z6 (fun _ _=>rfl)) Z6 (fun _ _=>rfl)) (Z9 (Z2 ZZ (Z2 ZZ (pv 0) Z6 (fun _ _=>rfl)) Z6 (fun _ _=>rfl)) Z7))))
   (ZY (ZO (XO ZiB (Zq (Z9 (YA (Z2 ZZ (pv 4) Z6 (fun _ _=>rfl)) rfl) (Z9 (YA (Z2 ZZ (pv 4) Z6 (fun _ _=>rfl)) rfl) (Z9 (YA (Z2 ZZ (pv 4) Z6 (fun _ _=>rfl)) rfl) (Z9 (YA (Z2 ZZ (pv 4) Z6 (fun _ _=>rfl)) rfl) Z7))))) (Zq (Z9 (pv 2) (Z9 Z6 (Z9 (pv 3) (Z9 Z6 Z7))))) (ZH _)))))),?_⟩
  refine⟨_,rfl,_,_,_,_,rfl,.tup ht,Z9a K,_,rfl,ZJ ?_⟩;refine⟨_,rfl,t,_,0,_,rfl,rfl,SqT.of ht,Z0 (j:=0) rfl,rfl,_,rfl,?_⟩;rw[decide_eq_true rfl];refine ZJ ?_;refine⟨_,rfl,t,_,rfl,.inr (SqT.of ht),rfl,_,rfl,ZJ ?_⟩;refine⟨_,rfl,t,_,1,_,rfl,rfl,SqT.of ht,Z0 (j:=1) rfl,l,_,0,_,rfl,rfl,SqT.of h1,Z0 (j:=0) rfl,_,rfl,rfl,_,rfl,?_⟩;rw[decide_eq_true rfl];refine ZJ ?_;refine⟨_,rfl,t,_,1,_,rfl,rfl,SqT.of ht,Z0 (j:=1) rfl,l,_,1,_,rfl,rfl,SqT.of h1,Z0 (j:=1) rfl,_,rfl,t,_,1,_,rfl,rfl,SqT.of ht,Z0 (j:=1) rfl,l,_,2,_,rfl,rfl,SqT.of h1,Z0 (j:=2) rfl,by show 2<=sizeLine;decide,fun q hq=>?_⟩;have s1:=ZS (o:=.tup [.ref px,.ref py]) (Z5.refl H) hq;have hq1:(upd H q (.tup [.ref px,.ref py])) q=some (.tup [.ref px,.ref py]):=ZR;generalize (upd H q (.tup [.ref px,.ref py]))=H1 at *;refine⟨_,rfl,q,_,0,_,rfl,rfl,SqT.of hq1,Z0 (j:=0) rfl,px,C,dx,_,_,rfl,s1 _ _ h2,TP.cl,TP.nT,Vu _ _,?_⟩;refine⟨_,rfl,q,_,0,_,rfl,rfl,SqT.of hq1,Z0 (j:=0) rfl,px,C,dx,_,_,rfl,s1 _ _ h2,TP.cl,TP.nB,Xy _ _,?_⟩;refine⟨_,rfl,q,_,1,_,rfl,rfl,SqT.of hq1,Z0 (j:=1) rfl,py,C,dy,_,_,rfl,s1 _ _ h3,TP.cl,TP.nT,Vu _ _,?_⟩;refine⟨_,rfl,q,_,1,_,rfl,rfl,SqT.of hq1,Z0 (j:=1) rfl,py,C,dy,_,_,rfl,s1 _ _ h3,TP.cl,TP.nB,Xy _ _,?_⟩;refine⟨by show 4<=sizeLine;decide,fun m hm=>?_⟩;have s2:=ZS (o:=.tup [.int x,.int 61,.int y,.int 61]) (Z5.refl H1) hm;have hm2:(upd H1 m (.tup [.int x,.int 61,.int y,.int 61])) m=some (.tup [.int x,.int 61,.int y,.int 61]):=ZR;generalize (upd H1 m (.tup [.int x,.int 61,.int y,.int 61]))=H2 at *;refine⟨_,rfl,_,rfl,by show 4<=sizeLine;decide,fun m' hm'=>?_⟩;have s3:=ZS (o:=.tup [.int x,.int 61,.int y,.int 61]) (Z5.refl H2) hm';refine⟨_,_,Zds (r:=[x,61,y,61]) (SqT.of (s3 _ _ hm2)),Zds (r:=[x,61,y,61]) (SqT.of ZR),Zbz _,Zbz _,Zbd hr (ZbY _),?_⟩;rw[if_neg (by decide),ZeR,decide_eq_true rfl];exact k _ (s1.trans (s2.trans s3))
end
def Zhu:Sp:=fun vs H Q _=>∃ (a:Addr) (n:Nat) (w:List Nat),vs=[.ref a]/\H a=some (.lst (nv w))/\Row n w/\n<=36/\∀ (H':Hp) (l:Addr),Z5 H H'->H' l=some (.lst (nv ((Y02 n).map fun s=>(cyc n w s).length)))->Q (.ref l) H'
noncomputable def muK (n j:Nat)(σ:St):Nat:=match σ[j]? with
 | some (some (.int k))=>(n-k.toNat)
 | _=>0
section
variable {P:Program}{w:World}{K:Y00}{mg:Str->Option Value}{base:Heap}
noncomputable abbrev ZkH:List Str:=["_law_row_here","_law_found","_law_square","_law_many","_law_now"]
theorem Wa:ZL ZkH ["_law_row_here"] (ZV Uu):=⟨rfl,rfl,rfl,by decide +kernel,rfl,by decide +kernel,by decide +kernel⟩
set_option maxHeartbeats 600000 in
theorem Zho {f:Addr}{fd:FuncData}(T:Bi mg)(F:Fn K mg "_law_rounds" Uu ["_law_row_here"] f fd):Z4 P w K mg base CX0 1 f fd ["_law_row_here"] Zhu:=by
 refine F.F.ok Wa (fun vs H Q E h=>?_) (fun cdv A outer s H vs Q E hr h=>?_)
 ·obtain⟨a,n,w,rfl,_⟩:=h;rfl
 ·obtain⟨a,n,w,rfl,ha,rw',hn,k⟩:=h;refine⟨_,(Z3 (ZW (i:=1) Wa.nd rfl (Or.inl rfl) (Wb Z7))
   (Z3 (Yg PassesOwn.never rfl (WZ rfl T.range (Z9 (ZG Y5 rfl T.len PySem.boot_len (Z9 (pv 0) Z7)) Z7)) (Zu (i:=2) Wa.nd rfl (Or.inl rfl)) (Z3 (ZW (i:=3) Wa.nd rfl (Or.inl rfl) Z6)
   (Z3 (ZW (i:=4) Wa.nd rfl (Or.inl rfl) (Z2 YG (pv 0) (pv 2) (fun _ _=>rfl)))
   (Z3 (XU PassesOwn.never (ZE Yr (pv 4) (pv 2) (ZH _)) (Z3 (ZW (i:=3) Wa.nd rfl (Or.inl rfl) (ZX Zd (pv 3) Z6))
   (ZY (ZW (i:=4) Wa.nd rfl (Or.inl rfl) (Z2 YG (pv 0) (pv 4) (fun _ _=>rfl))))))
   (ZY (YB (W7 PySem.F.plainAttrs_list PySem.F.slot_list_append PySem.F.type_list_append Xj (pv 1) (Z9 (pv 3) Z7))))))))
   (ZY (ZO (pv 1))))),?_⟩
  refine⟨Y12 _,fun l hl=>?_⟩;have s1:=ZS (o:=.lst []) (Z5.refl H) hl;have hl1:(upd H l (.lst [])) l=some (.lst []):=ZR;generalize (upd H l (.lst []))=H1 at *;refine⟨_,rfl,a,_,rfl,.inl (SqL.of (s1 _ _ ha)),?_⟩;rw[ZA,rw'.len];refine⟨_,rfl,by lia,by lia,?_⟩;rw[Y1g];refine SR (n:=n) (fun i σ H2=>∃ o2 o3 o4,σ=[some (.ref a),some (.ref l),o2,o3,o4]/\Z5 H H2/\H2 l=some (.lst (nv ((Y02 i).map fun s=>(cyc n w s).length)))) ⟨_,_,_,rfl,s1,hl1⟩ ?_ ?_
  ·rintro i σ H2 hi ⟨o2,o3,o4,rfl,s2,h2⟩;have ha2:=s2 _ _ ha;rw[Y44];dsimp only [Zs];refine⟨_,rfl,_,rfl,a,_,_,_,rfl,rfl,SqL.of ha2,Z0 (Zp (rw'.get hi)),?_⟩;obtain⟨p1,p2⟩:=XJ rw' hi;have hper:1<=per n w i:=(by unfold per;lia);refine WT (fun σ H3=>∃ kk:Nat,σ=[some (.ref a),some (.ref l),some (.int (i:Int)),some (.int ((kk+1:Nat):Int)),some (.int ((it w i (kk+1):Nat):Int))]/\H3=H2/\kk+1<=per n w i) (fun σ _=>muK (per n w i) 3 σ) ⟨0,rfl,rfl,hper⟩ ?_ ?_
   ·rintro σ H3 ⟨kk,rfl,rfl,hle⟩;refine⟨_,rfl,_,rfl,rfl,_,rfl,?_⟩
    by_cases e:it w i (kk+1)=i
    ·have ek:kk+1=per n w i:=by
      rcases Y0q (kk+1) (per n w i) with c|c
      ·exact absurd e (p2 _ (by lia) c)
      ·lia
     rw[e,decide_eq_true rfl];refine ZJ ?_;refine⟨_,rfl,.inl ⟨rfl,_,SqL.of h2⟩,_,rfl,l,_,_,rfl,rfl,h2,by rw[ZA];simp;exact YR (by lia),?_⟩;have e2:nv ((Y02 i).map fun s=>(cyc n w s).length)++[.int ((kk+1:Nat):Int)]=nv ((Y02 (i+1)).map fun s=>(cyc n w s).length):=by
      rw[ek,<-X5,Vm,Y2w,Y1z];rfl
     rw[e2];exact⟨_,_,_,rfl,ZS s2 hl,ZR⟩
    ·rw[decide_eq_false (by intro z;have:=V.int.inj z;exact e (by lia))];refine Zz ?_;have hlt:=Zk rw' hi (kk+1);have hle2:kk+1+1<=per n w i:=by
      rcases Y0q (kk+1) (per n w i) with c|c
      ·lia
      ·exact absurd (by rw[show kk+1=per n w i by lia];exact p1) e
     refine⟨_,rfl,_,_,rfl,rfl,?_⟩;refine⟨_,rfl,_,rfl,a,_,_,_,rfl,rfl,SqL.of ha2,Z0 (Zp (rw'.get hlt)),?_⟩;refine⟨⟨kk+1,by dsimp only;rw[show ((kk+1:Nat):Int)+1=((kk+1+1:Nat):Int) by lia];rfl,rfl,hle2⟩,?_⟩;show per n w i-(((kk+1:Nat):Int)+1).toNat<per n w i-(((kk+1:Nat):Int)).toNat;lia
   ·rintro σ H Q Q' h ⟨v,e1,v1,e2,w1,f1,f2,f3⟩;exact⟨v,e1,v1,e2,w1,f1,f2,h _ _ f3⟩
  ·rintro σ H2 ⟨o2,o3,o4,rfl,s2,h2⟩;exact⟨_,rfl,k H2 l s2 h2⟩
end
def RP (K:Y00):Sp:=fun vs H Q _=>∃ (a:Addr) (ns:List Int) (j:Int),vs=[.ref a,.int j]/\SqL K H a (ns.map V.int)/\0<=j/\j<1000000/\∀ v:Int,Q (.int v) H
section
variable {P:Program}{w:World}{K:Y00}{mg:Str->Option Value}{base:Heap}
noncomputable abbrev n_ds:List Str:=["_law_script","_law_k","_law_cell"]
theorem ZfD:ZL n_ds ["_law_script","_law_k"] (ZV Uv):=⟨rfl,rfl,rfl,by decide +kernel,rfl,by decide +kernel,by decide +kernel⟩
theorem Zjy {f:Addr}{fd:FuncData}(T:Bi mg)(F:Fn K mg "_law_spread" Uv ["_law_script","_law_k"] f fd):Z4 P w K mg base CX0 1 f fd ["_law_script","_law_k"] (RP K):=by
 refine F.F.ok ZfD (fun vs H Q E h=>?_) (fun cdv A outer s H vs Q E hr h=>?_)
 ·obtain⟨a,ns,j,rfl,_⟩:=h;rfl
 ·obtain⟨a,ns,j,rfl,hS,h0,h1,k⟩:=h;refine⟨_,(Z3 (Zy (ZE X2 (pv 1) (ZG Y5 rfl T.len PySem.boot_len (Z9 (pv 0) Z7)) (ZH _)) (ZY (ZO (Z2 YG (pv 0) (pv 1) (fun _ _=>rfl)))) Zw)
   (Z3 (ZW (i:=2) ZfD.nd rfl (Or.inl rfl) (ZX Zd (ZX YY (pv 1) (pv 1)) Z6))
   (Z3 (Zy (ZE Ye (ZG Y5 rfl T.len PySem.boot_len (Z9 (pv 0) Z7)) Z6 (ZH _)) (ZY (ZW (i:=2) ZfD.nd rfl (Or.inl rfl) (ZX Zd (ZX Zd (ZX YY (Z2 YG (pv 0) (ZX YL (pv 1) (ZG Y5 rfl T.len PySem.boot_len (Z9 (pv 0) Z7))) (fun _ _=>rfl)) Z6) (ZX YY (ZX YY (pv 1) (pv 1)) Z6)) Z6))) Zw)
   (ZY (ZO (ZX XT (ZX YL (pv 2) Z6) Z6)))))),?_⟩
  refine⟨_,rfl,_,rfl,a,_,rfl,.inl hS,_,_,rfl,rfl,_,rfl,?_⟩;have ix:∀ m:Nat,m<ns.length->atI (ns.map V.int) (m:Int)=some (.int (ns.getD m 0)):=fun m hm=>Z0 (by simp[Y04,hm]);have c1:Xn j j:=.inl ⟨by omega,by omega⟩;have c2:∀ i,Xn i 40503:=fun i=>.inr ⟨by decide,by decide⟩;have c3:∀ i,Xn i 48271:=fun i=>.inr ⟨by decide,by decide⟩;refine Yv (fun hlt=>?_) (fun hge=>?_)
  ·have hlt:j<((ns.map V.int).length:Int):=of_decide_eq_true hlt;rw[Y07]at hlt;have e:=ix j.toNat (by omega);rw[Y2t h0]at e;exact⟨_,rfl,_,rfl,a,_,j,_,rfl,rfl,hS,e,k _⟩
  ·refine⟨_,rfl,_,rfl,_,_,rfl,rfl,c1,_,_,rfl,rfl,?_⟩;refine⟨_,rfl,a,_,rfl,.inl hS,_,_,rfl,rfl,_,rfl,?_⟩;rw[Y07];refine Zb6 (fun σ H5=>∃ c:Int,σ=[some (.ref a),some (.int j),some (.int c)]/\H5=H) (fun _=>⟨_,rfl,rfl⟩) ?_ ?_
   ·rintro σ H5 ⟨c,rfl,rfl⟩;exact⟨_,rfl,_,_,rfl,rfl,(by show (0:Int)<2147483647;decide),_,_,rfl,rfl,⟨by decide,by decide⟩,k _⟩
   ·intro rest hc;have hpos:0<ns.length:=by
     have:=of_decide_eq_true hc;omega
    have hp:(0:Int)<((ns.map V.int).length:Int):=(by rw[Y07];omega);obtain⟨m,hm⟩:=Y3e (Y2x j (show ((ns.map V.int).length:Int)≠0 by omega));have hml:m<ns.length:=by
     have:=Y2a j hp;rw[hm,Y07]at this;omega
    have e:=ix m hml;rw[<-hm]at e;exact⟨_,rfl,_,rfl,_,rfl,a,_,rfl,.inl hS,_,_,rfl,rfl,hp,a,_,_,_,rfl,rfl,hS,e,_,_,rfl,rfl,c3 _,_,rfl,_,rfl,_,_,rfl,rfl,c1,_,_,rfl,rfl,c2 _,_,_,rfl,rfl,_,_,rfl,rfl,rest _ _ ⟨_,rfl,rfl⟩⟩
end
def spRw:Sp:=fun vs H Q _=>∃ (a:Addr) (ns:List Int),vs=[.ref a]/\H a=some (.lst (ns.map V.int))/\ns.length<=36/\
 ∀ (H':Hp) (p:Addr) (r:List Nat),Z5 H H'->H p=none->H' p=some (.lst (nv r))->Row ns.length r->Q (.ref p) H'
section
variable {P:Program}{w:World}{K:Y00}{mg:Str->Option Value}{base:Heap}
noncomputable abbrev n_rw:List Str:=["_law_cells","_law_left","_law_row_here","_law_cell"]
theorem RT:ZL n_rw ["_law_cells"] (ZV Tz):=⟨rfl,rfl,rfl,by decide +kernel,rfl,by decide +kernel,by decide +kernel⟩
theorem Zjt {f:Addr}{fd:FuncData}(T:Bi mg)(F:Fn K mg "_law_row" Tz ["_law_cells"] f fd):Z4 P w K mg base CX0 1 f fd ["_law_cells"] spRw:=by
 refine F.F.ok RT (fun vs H Q E h=>?_) (fun cdv A outer s H vs Q E hr h=>?_)
 ·obtain⟨a,ns,rfl,_⟩:=h;rfl
 ·obtain⟨a,ns,rfl,hA,hn,k⟩:=h;obtain⟨n,en⟩:∃ n,n=ns.length:=⟨_,rfl⟩;refine⟨_,(Z3 (ZW (i:=1) RT.nd rfl (Or.inl rfl) (X7 (Z2w rfl) rfl T.list UJ (Z9 (X7 Z3p rfl T.range PyProof.Rows.boot_range (Z9 (ZG Y5 rfl T.len PySem.boot_len (Z9 (pv 0) Z7)) Z7)) Z7)))
   (Z3 (ZW (i:=2) RT.nd rfl (Or.inl rfl) (Wb Z7))
   (Z3 (Yg PassesOwn.never rfl (Yl (pv 0)) (Zu (i:=3) RT.nd rfl (Or.inl rfl)) (ZY (YB (W7 PySem.F.plainAttrs_list PySem.F.slot_list_append PySem.F.type_list_append Xj (pv 2) (Z9 (W7 PySem.F.plainAttrs_list PySem.F.slot_list_pop PySem.F.type_list_pop Z8M (pv 1) (Z9 (ZX YL (pv 3) (ZG Y5 (by rfl) T.len PySem.boot_len (Z9 (pv 1) Z7))) Z7)) Z7)))))
   (ZY (ZO (pv 2)))))),?_⟩
  refine⟨_,rfl,a,_,rfl,.inl (SqL.of hA),((ns.map V.int).length:Int),rfl,fun r0 hr0=>⟨r0,(ns.map V.int).length,rfl,ZR,by rw[Y07];lia,fun lf hlf=>?_⟩⟩;rw[Y07,<-en];rw[Y07,<-en]at hlf;refine⟨Y12 _,fun ln hln=>?_⟩;have nlfr:lf≠r0:=fun e=>by rw[e,ZR]at hlf;cases hlf
  have f0:H lf=none:=by rwa [ZK nlfr]at hlf
  have nlnl:ln≠lf:=fun e=>by rw[e,ZR]at hln;cases hln
  have g0:(upd H r0 (.rng 0 (n:Int))) ln=none:=by rwa [ZK nlnl]at hln
  have nlnr:ln≠r0:=fun e=>by rw[e,ZR]at g0;cases g0
  have g1:H ln=none:=by rwa [ZK nlnr]at g0
  have sb:=ZS (o:=.lst []) (ZS (o:=.lst (nv (Y02 n))) (ZS (o:=.rng 0 (n:Int)) (Z5.refl H) hr0) f0) g1;refine⟨_,rfl,a,rfl,⟨_,SqL.of (sb _ _ hA)⟩,?_⟩;refine SL (K:=K) (a:=a) (xs:=ns.map V.int) (fun i σ H3=>∃ (o3:Option V) (line left:List Nat),σ=[some (.ref a),some (.ref lf),some (.ref ln),o3]/\
   Z5 H H3/\H3 lf=some (.lst (nv left))/\H3 ln=some (.lst (nv line))/\line.length=i/\(line++left).Perm (Y02 n)) ?_ (fun i σ H3 _ ⟨_,_,_,_,s3,_⟩=>SqL.of (s3 _ _ hA)) ?_ ?_
  ·refine⟨_,[],Y02 n,rfl,sb,by rw[ZK nlnl.symm,ZR],ZR,rfl,List.Perm.refl _⟩
  ·rintro i x σ H3 hi ⟨o3,line,left,rfl,s3,hlf3,hln3,hlen,hp⟩;have hin:i<n:=by
    have:=(Y08.mp hi).1;rw[Y07]at this;lia
   obtain⟨v,rfl⟩:∃ v,x=V.int v:=by
    rw[Y0l]at hi;cases e:ns[i]? with
    | none=>rw[e]at hi;cases hi
    | some v=>rw[e]at hi;exact⟨v,(Option.some.inj hi).symm⟩
   have hleft:left.length=n-i:=by
    have:=hp.length_eq;simp only[Y0h,Y0v]at this;lia
   have hpos:0<left.length:=(by lia);refine⟨_,rfl,.inl ⟨rfl,_,SqL.of hln3⟩,_,rfl,.inl ⟨rfl,_,SqL.of hlf3⟩,_,rfl,_,rfl,lf,_,rfl,.inl (SqL.of hlf3),_,_,rfl,rfl,?_,?_⟩
   ·rw[ZA];lia
   refine Z9P hlf3 hpos (by lia) fun kx y hy=>?_;have e3:(upd H3 lf (.lst (nv (left.eraseIdx kx)))) ln=some (.lst (nv line)):=(by rw[ZK nlnl];exact hln3);refine⟨ln,_,_,rfl,rfl,e3,?_,?_⟩
   ·rw[ZA];exact YR (by lia)
   refine⟨_,line++[y],left.eraseIdx kx,rfl,ZS (ZS s3 f0) g1,?_,?_,?_,Z8N hp hy⟩
   ·rw[ZK nlnl.symm,ZR]
   ·rw[ZR,Vm]
   ·rw[Y0h,hlen];rfl
  ·rintro σ H3 ⟨o3,line,left,rfl,s3,hlf3,hln3,hlen,hp⟩;rw[Y07,<-en]at hlen;have hl0:left=[]:=by
    have:=hp.length_eq;simp only[Y0h,Y0v]at this;exact Y25.mp (by lia)
   have hrow:Row n line:=Row.of_perm (by rw[hl0,Y1o]at hp;exact hp);rw[en]at hrow;exact⟨_,rfl,k H3 ln line s3 g1 hln3 hrow⟩
end
def Zj1 (K:Y00):Sp:=fun vs H Q _=>∃ (pr pu:Addr) (n:Nat) (r u:List Nat),vs=[.ref pr,.ref pu]/\Xp K H pr r/\Xp K H pu u/\Row n r/\Row n u/\1<=n/\n<=36/\
 ∀ (H':Hp) (a:Addr) (m:Nat) (r' u':List Nat),Z5 H H'->Zn H' a r' u'->Zg m r' u'->m<=n->Q (.ref a) H'
noncomputable abbrev ZeI (K:Y00):TE:=tBM K "list" Za6 (ZU 2) (ZI (tOp (rIx K) (ZU 1) (ZU 0)) Zr)
theorem Zav {K:Y00}{Hc:Hp}{pm px:Addr}{x S:List Nat}{n:Nat}{Q:VK}{σ:St}{pull:List Nat}(h2:σ[5]?=some (some (.ref pm)))(hb:bst 1 pull σ=[none,some (.ref px),some (.ref pm)])
  (hx:Xp K Hc px x) (hS:Hc pm=some (.lst (nv S))) (rx:Row n x) (hn:S.length<=36) (hc:∀ y∈S,y<n/\nx x y∈S)
  (k:∀ (H':Hp) (d:Addr),Z5 Hc H'->H' d=some (.lst (nv (Yz x S)))->Q (.ref d) H') :
  Yq (XZ K (ZU 5)) 1 pull (Zs 0) (ZeI K) σ Hc Q:=by
 refine⟨_,h2,pm,rfl,⟨_,SqL.of hS⟩,fun d hd=>?_⟩;rw[hb];refine Xg (Q:=fun d H'=>Q (.ref d) H') S.length (nv (Yz x S)) (by rw[ZA,Z7d]) (fun i σ H3=>∃ o,σ=[o,some (.ref px),some (.ref pm)]/\Z5 Hc H3) ⟨_,rfl,ZS (Z5.refl _) hd⟩ ?_ ?_
 ·rintro i σ H3 hi ⟨o,rfl,s3⟩ hd3;have hS3:=SqL.of (K:=K) (s3 _ _ hS);refine⟨⟨_,_,hS3,Zp (Y01 hi)⟩,fun y H4 ⟨e,hy⟩=>?_⟩;subst e;have hy:=hy _ hS3;rw[Zp (Y01 hi)]at hy;cases hy;have hm:S[i]∈S:=Y2m hi;refine⟨_,rfl,.inl ⟨rfl,_,hS3⟩,_,rfl,_,rfl,U4 (hx.same s3) rx (hc _ hm).1 ?_⟩;refine⟨pm,S,_,rfl,rfl,s3 _ _ hS,(hc _ hm).2,?_⟩;refine WA hi (by lia) hd3 (Zp ?_) ⟨_,rfl,ZS s3 hd⟩;unfold Yz;rw[Y0l,Y01 hi]
  rfl
 ·rintro σ H3 ⟨o,rfl,s3⟩ hd3;exact⟨⟨_,SqL.of (s3 _ _ hS),by rw[ZA];exact Y05 _⟩,k H3 d s3 hd3⟩
section
variable {P:Program}{w:World}{K:Y00}{mg:Str->Option Value}{base:Heap}
noncomputable abbrev Zjq:List Str:=["_law_right","_law_up","_law_met","_law_at_here","_law_square","_law_kept"]
theorem U2:ZL Zjq ["_law_right","_law_up"] (ZV W2):=⟨rfl,rfl,rfl,by decide +kernel,rfl,by decide +kernel,by decide +kernel⟩
theorem ZkF:(["_law_k","_law_up","_law_kept"]:List Str).Nodup:=by decide +kernel
theorem ZhZ:(["_law_k","_law_right","_law_kept"]:List Str).Nodup:=by decide +kernel
theorem Zk5 {f:Addr}{fd:FuncData}(T:Bi mg)(F:Fn K mg "_law_together" W2 ["_law_right","_law_up"] f fd):Z4 P w K mg base CX0 1 f fd ["_law_right","_law_up"] (Zj1 K):=by
 refine F.F.ok U2 (fun vs H Q E h=>?_) (fun cdv A outer s H vs Q E hr h=>?_)
 ·obtain⟨pr,pu,n,r,u,rfl,_⟩:=h;rfl
 ·obtain⟨pr,pu,n,r,u,rfl,hR,hU,rr,ru,h1,hn,k⟩:=h;refine⟨_,(Z3 (ZW (i:=2) U2.nd rfl (Or.inl rfl) (Wb (Z9 Z6 Z7)))
   (Z3 (ZW (i:=3) U2.nd rfl (Or.inl rfl) Z6)
   (Z3 (XU PassesOwn.never (ZE X2 (pv 3) (ZG Y5 rfl T.len PySem.boot_len (Z9 (pv 2) Z7)) (ZH _)) (Z3 (Yg PassesOwn.never rfl (Vd (Zq (Z9 (Z2 V9 (pv 0) (Z2 YG (pv 2) (pv 3) (fun _ _=>rfl)) (fun _ _=>rfl)) (Z9 (Z2 V9 (pv 1) (Z2 YG (pv 2) (pv 3) (fun _ _=>rfl)) (fun _ _=>rfl)) Z7)))) (Zu (i:=4) U2.nd rfl (Or.inl rfl)) (ZY (Zy (ZE Z6C (pv 4) (pv 2) rfl) (ZY (YB (W7 PySem.F.plainAttrs_list PySem.F.slot_list_append PySem.F.type_list_append Xj (pv 2) (Z9 (pv 4) Z7)))) Zw)))
   (ZY (ZW (i:=3) U2.nd rfl (Or.inl rfl) (ZX Zd (pv 3) Z6)))))
   (Z3 (ZW (i:=5) U2.nd rfl (Or.inr rfl) (ZG (Z50 rfl) rfl T.sorted UR (Z9 (pv 2) Z7)))
   (ZY (ZO (Zq (Z9 (X7 UV rfl T.tuple XC (Z9 (Ym (N:=Zjq) (names:=(ZV W2).names) (N':=["_law_k","_law_right","_law_kept"]) (k:=1) (pull:=[0,5]) (te:=(ZeI K)) rfl ⟨by rfl,by decide +kernel,by decide +kernel,by rfl,by decide +kernel,by decide +kernel⟩ rfl rfl (Yl (pv 5)) (fun _ _ _ _ _ _=>Zu (i:=0) ZhZ rfl (Or.inl rfl)) (fun _ _ _ _ _ _=>(W7 PySem.F.plainAttrs_list PySem.F.slot_list_index PySem.F.type_list_index Z6Q (pv 2) (Z9 (Z2 V9 (pv 1) (pv 0) (fun _ _=>rfl)) Z7)))) Z7)) (Z9 (X7 UV rfl T.tuple XC (Z9 (Ym (N:=Zjq) (names:=(ZV W2).names) (N':=["_law_k","_law_up","_law_kept"]) (k:=1) (pull:=[1,5]) (te:=(ZeI K)) rfl ⟨by rfl,by decide +kernel,by decide +kernel,by rfl,by decide +kernel,by decide +kernel⟩ rfl rfl (Yl (pv 5)) (fun _ _ _ _ _ _=>Zu (i:=0) ZkF rfl (Or.inl rfl)) (fun _ _ _ _ _ _=>(W7 PySem.F.plainAttrs_list PySem.F.slot_list_index PySem.F.type_list_index Z6Q (pv 2) (Z9 (Z2 V9 (pv 1) (pv 0) (fun _ _=>rfl)) Z7)))) Z7)) Z7))))))))),?_⟩
  refine⟨(by show 1<=sizeLine;decide),fun l hl=>?_⟩;refine WT (fun σ H2=>∃ (M:List Nat) (k:Nat) (o4:Option V),σ=[some (.ref pr),some (.ref pu),some (.ref l),some (.int (k:Int)),o4,none]/\Z5 H H2/\H2 l=some (.lst (nv M))/\Met n r u 0 M k) (fun σ _=>mu 3 σ) ?_ ?_ ?_
  ·exact⟨[0],0,_,rfl,ZS (Z5.refl H) hl,ZR,Met.start h1⟩
  ·rintro σ H2 ⟨M,kk,o4,rfl,s2,h2l,hM⟩;refine⟨_,rfl,_,rfl,l,_,rfl,.inl (SqL.of h2l),_,_,rfl,rfl,_,rfl,?_⟩;rw[ZA];refine Yv (fun hlt=>?_) (fun hge=>?_)
   ·have hlt:(kk:Int)<(M.length:Int):=of_decide_eq_true hlt;have hk:kk<M.length:=(by lia);have hx:M[kk]?=some M[kk]:=Y01 hk;have hxn:M[kk]<n:=hM.lt _ (Y2m hk);have hMl:=hM.len;refine⟨_,rfl,_,rfl,_,rfl,l,_,_,_,rfl,rfl,SqL.of h2l,Z0 (Zp hx),U4 (hR.same s2) rr hxn ?_⟩;refine⟨_,rfl,_,rfl,_,rfl,l,_,_,_,rfl,rfl,SqL.of h2l,Z0 (Zp hx),U4 (hU.same s2) ru hxn ?_⟩;refine⟨(by show 2<=sizeLine;decide),fun tp htp=>⟨tp,rfl,⟨_,SqT.of ZR⟩,?_⟩⟩;have nlt:l≠tp:=Zc h2l htp;refine Zfx (K:=K) (a:=tp) (xs:=[.int (nx r M[kk]:Int),.int (nx u M[kk]:Int)]) (fun i σ H3=>∃ (o4:Option V),σ=[some (.ref pr),some (.ref pu),some (.ref l),some (.int (kk:Int)),o4,none]/\Z5 H H3/\H3 tp=some (.tup [.int (nx r M[kk]:Int),.int (nx u M[kk]:Int)])/\
     H3 l=some (.lst (nv (([nx r M[kk],nx u M[kk]].take i).foldl put M)))) ?_ ?_ ?_ ?_
    ·refine⟨_,rfl,ZS s2 (s2.free htp),ZR,by rw[ZK nlt];exact h2l⟩
    ·rintro i σ H3 hi ⟨_,_,_,h3,_⟩;exact SqT.of h3
    ·rintro i x σ H3 hi ⟨o4,rfl,s3,h3,h3l⟩;obtain⟨y,ey,rfl⟩:=Sz (xs:=[nx r M[kk],nx u M[kk]]) hi;have hi2:i<2:=(Y08.mp ey).1;have hlen:=Z3B ([nx r M[kk],nx u M[kk]].take i) M;have htk:([nx r M[kk],nx u M[kk]].take i).length<=2:=(by rw[Y3u];exact Nat.min_le_right _ _);have hfold:([nx r M[kk],nx u M[kk]].take (i+1)).foldl put M=put (([nx r M[kk],nx u M[kk]].take i).foldl put M) y:=by
      rw[Y1j,ey,Y3c];rfl
     rw[hfold];generalize hM':([nx r M[kk],nx u M[kk]].take i).foldl put M=M' at h3l hlen;refine⟨_,rfl,_,rfl,l,_,rfl,.inl (SqL.of h3l),rfl,Sv _,_,rfl,?_⟩;show (if (!inV (.int (y:Int)) (nv M'))=true then _ else _);rw[Sb]
     by_cases hy:y∈M'
     ·rw[decide_eq_true hy];refine ZJ ?_;refine⟨_,rfl,s3,h3,?_⟩;unfold put;rw[if_pos hy];exact h3l
     ·rw[decide_eq_false hy];refine Zz ?_;refine⟨_,rfl,.inl ⟨rfl,_,SqL.of h3l⟩,_,rfl,l,_,_,rfl,rfl,h3l,?_,?_⟩
      ·rw[ZA];exact YR (by lia)
      refine⟨_,rfl,ZS s3 hl,by rw[ZK nlt.symm];exact h3,?_⟩;unfold put;rw[if_neg hy,ZR,Vm]
    ·rintro σ H3 ⟨o4,rfl,s3,h3,h3l⟩;refine⟨_,rfl,_,_,rfl,rfl,⟨_,kk+1,_,rfl,s3,h3l,hM.step rr ru hx⟩,?_⟩;show (100-((kk:Int)+1)).toNat<(100-(kk:Int)).toNat;lia
   ·have hge:¬ (kk:Int)<(M.length:Int):=fun z=>hge (decide_eq_true z);have hA:=hM.all (by lia);have hMl:M.length<=n:=by
     have:=Wi M (Y02 n) hA.nd fun x hx=>Y06.mpr (hA.lt x hx)
     simpa using this
    refine⟨_,rfl,l,M,rfl,.inl (SqL.of h2l),by lia,fun l2 S hl2 pS sS=>?_⟩;have hS':=hA.perm pS;have hSl:S.length<=n:=(by rw[pS.length_eq];exact hMl);have s3:Z5 H (upd H2 l2 (.lst (nv S))):=ZS s2 (s2.free hl2);have h3S:(upd H2 l2 (.lst (nv S))) l2=some (.lst (nv S)):=ZR;revert s3 h3S;generalize (upd H2 l2 (.lst (nv S)))=H3;intro s3 h3S;dsimp only [Yy,X8,tCB,ZI,Zs,Ya,Xm];refine Zav rfl rfl (hR.same s3) h3S rr (by lia) (fun y hy=>⟨hS'.lt y hy,(hS'.shut y hy).1⟩) ?_;intro H4 d4 s4 h4;refine⟨d4,_,rfl,.inl ⟨SqL.of h4,fun t1 ht1=>?_⟩⟩;have s4':Z5 H3 (upd H4 t1 (.tup (nv (Yz r S)))):=ZS s4 (s4.free ht1);have s5:Z5 H (upd H4 t1 (.tup (nv (Yz r S)))):=s3.trans s4';refine Zav rfl rfl (hU.same s5) (s4' _ _ h3S) ru (by lia) (fun y hy=>⟨hS'.lt y hy,(hS'.shut y hy).2⟩) ?_;intro H5 d5 s6 h5;refine⟨d5,_,rfl,.inl ⟨SqL.of h5,fun t2 ht2=>?_⟩⟩;have s7:Z5 (upd H4 t1 (.tup (nv (Yz r S)))) (upd H5 t2 (.tup (nv (Yz u S)))):=ZS s6 (s6.free ht2);refine⟨by show 2<=sizeLine;decide,fun a ha=>k _ a S.length _ _ ?_ ⟨t1,t2,ZR,?_,?_⟩ (Z7z hn rr ru hS' sS) hSl⟩
    ·exact ZS (s5.trans s7) ((s5.trans s7).free ha)
    ·have e1:=s7 t1 _ ZR;rw[ZK (Zc e1 ha)];exact e1
    ·have e2:(upd H5 t2 (.tup (nv (Yz u S)))) t2=some (.tup (nv (Yz u S))):=ZR;rw[ZK (Zc e2 ha)];exact e2
  ·rintro σ H Q Q' h ⟨v,e1,v',e2,p,ys,e3,sq,i,j,e4,e5,k,e6,q⟩;exact⟨v,e1,v',e2,p,ys,e3,sq,i,j,e4,e5,k,e6,h _ _ q⟩
end
def spSe (K:Y00):Sp:=fun vs H Q _=>∃ (a:Addr) (ns:List Int) (j:Int) (n:Nat),vs=[.ref a,.int j,.int (n:Int)]/\SqL K H a (ns.map V.int)/\0<=j/\j<900000/\1<=n/\n<=36/\
 ∀ (H':Hp) (b:Addr) (m:Nat) (r u:List Nat),Z5 H H'->Zn H' b r u->Zg m r u->m<=n->Q (.ref b) H'
theorem Zax {Hc:Hp}{m:Nat}{ta:TA}{te:TE}{pull:List Nat}{Q:VK}{σ:St}{rest:St}(hj:∀ R:List V->Hp->Prop,R [.int (m:Int)] Hc->ta σ Hc R)(hb:bst 1 pull σ=none::rest)
  (hte:∀ (i:Nat) (H:Hp) (R:VK),i<m->Z5 Hc H->(∀ v:Int,R (.int v) H)->te (some (.int (i:Int))::rest) H R) (hm:m<=1000)
  (k:∀ (H':Hp) (d:Addr) (ns:List Int),ns.length=m->Z5 Hc H'->Hc d=none->H' d=some (.lst (ns.map V.int))->Q (.ref d) H') :
  Yq (RW ta) 1 pull (Zs 0) te σ Hc Q:=by
 refine hj _ ⟨(m:Int),rfl,by lia,by lia,fun d hd=>?_⟩;rw[Y1g,hb];refine Z7D (J:=Itr 0 m) (Q:=fun d H'=>Q (.ref d) H') m (fun i xs σ H9=>(∃ o,σ=o::rest)/\Z5 Hc H9/\∃ ns:List Int,xs=ns.map V.int/\ns.length=i) ⟨⟨_,rfl⟩,ZS (Z5.refl _) hd,[],rfl,rfl⟩ ?_ ?_
 ·rintro i xs σ H9 hi ⟨⟨o,rfl⟩,s9,ns,rfl,hl⟩ hd9;refine⟨hi,fun x H4 ⟨e1,e2⟩=>?_⟩;subst e1 e2;rw[show (0:Int)+(i:Int)=(i:Int) from by lia];refine hte i _ _ hi s9 fun v=>?_;refine VZ hi hd9 (by rw[Y07];lia) ⟨⟨_,rfl⟩,ZS s9 hd,ns++[v],by simp,by simp[hl]⟩
 ·rintro xs σ H9 ⟨⟨o,rfl⟩,s9,ns,rfl,hl⟩ hd9;exact⟨Y05 _,k H9 d ns hl s9 hd hd9⟩
section
variable {P:Program}{w:World}{K:Y00}{mg:Str->Option Value}{base:Heap}
noncomputable abbrev Zky:List Str:=["_law_script","_law_at_here","_law_many","_law_right","_law_up"]
theorem ZeQ:ZL Zky ["_law_script","_law_at_here","_law_many"] (ZV V7):=⟨rfl,rfl,rfl,by decide +kernel,rfl,by decide +kernel,by decide +kernel⟩
theorem Zk9:(["_law_k","_law_script","_law_at_here","_law_many"]:List Str).Nodup:=by decide +kernel
theorem Zil:(["_law_k","_law_script","_law_at_here"]:List Str).Nodup:=by decide +kernel
theorem Zji {f fp fr ft:Addr}{fd dp dr dt:FuncData}(T:Bi mg)(F:Fn K mg "_law_sheet" V7 ["_law_script","_law_at_here","_law_many"] f fd)(FP:Fn K mg "_law_spread" Uv ["_law_script","_law_k"] fp dp)(GP:Z4 P w K mg base CX0 1 fp dp ["_law_script","_law_k"] (RP K))
  (FR:Fn K mg "_law_row" Tz ["_law_cells"] fr dr) (GR:Z4 P w K mg base CX0 1 fr dr ["_law_cells"] spRw)
  (FT:Fn K mg "_law_together" W2 ["_law_right","_law_up"] ft dt) (GT:Z4 P w K mg base CX0 1 ft dt ["_law_right","_law_up"] (Zj1 K)):Z4 P w K mg base CX0 3 f fd ["_law_script","_law_at_here","_law_many"] (spSe K):=by
 refine F.F.ok ZeQ (fun vs H Q E h=>?_) (fun cdv A outer s H vs Q E hr h=>?_)
 ·obtain⟨a,ns,j,n,rfl,_⟩:=h;rfl
 ·obtain⟨a,ns,j,n,rfl,hS,h0,hj,h1,hn,k⟩:=h;have hr1:ZP 1 _:=hr.mono (by decide);refine⟨_,(Z3 (ZW (i:=3) ZeQ.nd rfl (Or.inl rfl) (ZT GR hr1 rfl FR.m FR.F.kp FR.b .nil ZQ (Z9 (Ym (N:=Zky) (names:=(ZV V7).names) (N':=["_law_k","_law_script","_law_at_here"]) (k:=1) (pull:=[0,1]) (te:=(Yf (RP K) [] E0 (ZI (ZU 1) (ZI (tOp (rI0 fun i j=>.int (i+j)) (ZU 2) (ZU 0)) Zr)))) rfl ⟨by rfl,by decide +kernel,by decide +kernel,by rfl,by decide +kernel,by decide +kernel⟩ rfl rfl (WZ rfl T.range (Z9 (pv 2) Z7)) (fun _ _ _ _ _ _=>Zu (i:=0) Zil rfl (Or.inl rfl)) (fun _ _ _ _ _ _=>(ZT GP hr1 rfl FP.m FP.F.kp FP.b .nil ZQ (Z9 (pv 1) (Z9 (ZX Zd (pv 2) (pv 0)) Z7))))) Z7)))
   (Z3 (ZW (i:=4) ZeQ.nd rfl (Or.inl rfl) (ZT GR hr1 rfl FR.m FR.F.kp FR.b .nil ZQ (Z9 (Ym (N:=Zky) (names:=(ZV V7).names) (N':=["_law_k","_law_script","_law_at_here","_law_many"]) (k:=1) (pull:=[0,1,2]) (te:=(Yf (RP K) [] E0 (ZI (ZU 1) (ZI (tOp (rI0 fun i j=>.int (i+j)) (tOp (rI0 fun i j=>.int (i+j)) (ZU 2) (ZU 3)) (ZU 0)) Zr)))) rfl ⟨by rfl,by decide +kernel,by decide +kernel,by rfl,by decide +kernel,by decide +kernel⟩ rfl rfl (WZ rfl T.range (Z9 (pv 2) Z7)) (fun _ _ _ _ _ _=>Zu (i:=0) Zk9 rfl (Or.inl rfl)) (fun _ _ _ _ _ _=>(ZT GP hr1 rfl FP.m FP.F.kp FP.b .nil ZQ (Z9 (pv 1) (Z9 (ZX Zd (ZX Zd (pv 2) (pv 3)) (pv 0)) Z7))))) Z7)))
   (ZY (ZO (ZT GT hr1 rfl FT.m FT.F.kp FT.b .nil ZQ (Z9 (pv 3) (Z9 (pv 4) Z7))))))),?_⟩
  dsimp only [Xr,Yy,X8,ZI,tCB,Yf,Zs];refine Zax (m:=n) (rest:=[some (.ref a),some (.int j)]) (fun R hR=>⟨_,rfl,hR⟩) rfl (fun i H' R hi s' hR=>?_) (by lia) fun H1 d1 ms1 e1 s1 _ hd1=>?_
  ·exact⟨_,rfl,_,rfl,_,rfl,_,_,rfl,rfl,a,ns,_,rfl,s'.seq hS,by lia,by lia,fun v=>hR v⟩
  refine⟨d1,ms1,rfl,hd1,by lia,fun H2 p r s2 _ hp rr=>?_⟩;rw[e1]at rr;have s12:=s1.trans s2;refine Zax (m:=n) (rest:=[some (.ref a),some (.int j),some (.int (n:Int))]) (fun R hR=>⟨_,rfl,hR⟩) rfl (fun i H' R hi s' hR=>?_) (by lia) fun H3 d3 ms3 e3 s3 _ hd3=>?_
  ·exact⟨_,rfl,_,rfl,_,rfl,_,_,rfl,rfl,_,rfl,_,_,rfl,rfl,a,ns,_,rfl,(s12.trans s').seq hS,by lia,by lia,fun v=>hR v⟩
  refine⟨d3,ms3,rfl,hd3,by lia,fun H4 q u s4 _ hq ru=>?_⟩;rw[e3]at ru;have s34:=s3.trans s4;refine⟨_,rfl,_,rfl,p,q,n,r,u,rfl,.inl (SqL.of (s34 _ _ hp)),.inl (SqL.of hq),rr,ru,h1,hn,fun H5 b m r' u' s5 hb hSh hm=>?_⟩;exact k H5 b m r' u' (s12.trans (s34.trans s5)) hb hSh hm
end
def Zhp:Sp:=fun vs H Q _=>∃ (z:Int) (n:Nat),vs=[.int z,.int (n:Int)]/\n<=36/\
 ∀ (H':Hp) (p:Addr) (r:List Nat),Z5 H H'->H p=none->H' p=some (.lst (nv r))->Row n r->Q (.ref p) H'
section
variable {P:Program}{w:World}{K:Y00}{mg:Str->Option Value}{base:Heap}
noncomputable abbrev Zks:List Str:=["_law_cell","_law_many","_law_left","_law_row_here"]
theorem TM:ZL Zks ["_law_cell","_law_many"] (ZV T8):=⟨rfl,rfl,rfl,by decide +kernel,rfl,by decide +kernel,by decide +kernel⟩
theorem Zit {f:Addr}{fd:FuncData}(T:Bi mg)(F:Fn K mg "_law_row_by" T8 ["_law_cell","_law_many"] f fd):Z4 P w K mg base CX0 1 f fd ["_law_cell","_law_many"] Zhp:=by
 refine F.F.ok TM (fun vs H Q E h=>?_) (fun cdv A outer s H vs Q E hr h=>?_)
 ·obtain⟨z,n,rfl,_⟩:=h;rfl
 ·obtain⟨z,n,rfl,hn,k⟩:=h;refine⟨_,(Z3 (ZW (i:=2) TM.nd rfl (Or.inl rfl) (X7 (Z2w rfl) rfl T.list UJ (Z9 (X7 Z3p rfl T.range PyProof.Rows.boot_range (Z9 (pv 1) Z7)) Z7)))
   (Z3 (ZW (i:=0) TM.nd rfl (Or.inl rfl) (ZX YL (pv 0) (ZX ZhY Z6 Z6)))
   (Z3 (ZW (i:=3) TM.nd rfl (Or.inl rfl) (Wb Z7))
   (Z3 (XU PassesOwn.never (ZE Ye (ZG Y5 rfl T.len PySem.boot_len (Z9 (pv 2) Z7)) Z6 (ZH _)) (Z3 (YB (W7 PySem.F.plainAttrs_list PySem.F.slot_list_append PySem.F.type_list_append Xj (pv 3) (Z9 (W7 PySem.F.plainAttrs_list PySem.F.slot_list_pop PySem.F.type_list_pop Z8M (pv 2) (Z9 (ZX YL (pv 0) (ZG Y5 rfl T.len PySem.boot_len (Z9 (pv 2) Z7))) Z7)) Z7)))
   (ZY (ZW (i:=0) TM.nd rfl (Or.inl rfl) (ZX XT (pv 0) (ZX Zd (ZG Y5 rfl T.len PySem.boot_len (Z9 (pv 2) Z7)) Z6))))))
   (ZY (ZO (pv 3))))))),?_⟩
  refine⟨_,rfl,(n:Int),rfl,fun r0 hr0=>⟨r0,n,rfl,ZR,by lia,fun lf hlf=>?_⟩⟩;refine⟨_,rfl,10,60,rfl,rfl,⟨by decide,by decide,by decide⟩,_,_,rfl,rfl,(by show (0:Int)<10^Int.toNat 60;decide),?_⟩;refine⟨Y12 _,fun ln hln=>?_⟩;have nlfr:lf≠r0:=fun e=>by rw[e,ZR]at hlf;cases hlf
  have f0:H lf=none:=by rwa [ZK nlfr]at hlf
  have nlnl:ln≠lf:=fun e=>by rw[e,ZR]at hln;cases hln
  have g0:(upd H r0 (.rng 0 (n:Int))) ln=none:=by rwa [ZK nlnl]at hln
  have nlnr:ln≠r0:=fun e=>by rw[e,ZR]at g0;cases g0
  have g1:H ln=none:=by rwa [ZK nlnr]at g0
  refine Z56 (fun m σ H3=>∃ (z:Int) (line left:List Nat),m=left.length/\σ=[some (.int z),some (.int (n:Int)),some (.ref lf),some (.ref ln)]/\
   Z5 H H3/\H3 lf=some (.lst (nv left))/\H3 ln=some (.lst (nv line))/\(line++left).Perm (Y02 n)) ⟨_,_,[],Y02 n,rfl,rfl,ZS (ZS (ZS (Z5.refl H) hr0) f0) g1,by rw[ZK nlnl.symm,ZR],ZR,List.Perm.refl _⟩ ?_ ?_
  ·rintro m σ H3 ⟨z,line,left,rfl,rfl,s3,hlf3,hln3,hp⟩;have hll:line.length+left.length=n:=by
    have:=hp.length_eq;simp only[Y0h,Y0v]at this;lia
   refine⟨_,rfl,lf,_,rfl,.inl (SqL.of hlf3),_,_,rfl,rfl,_,rfl,?_⟩;rw[ZA]
   by_cases hpos:0<left.length
   ·rw[decide_eq_true (show (0:Int)<(left.length:Int) by lia)];refine Zz ?_;refine⟨_,rfl,.inl ⟨rfl,_,SqL.of hln3⟩,_,rfl,.inl ⟨rfl,_,SqL.of hlf3⟩,_,rfl,_,rfl,lf,_,rfl,.inl (SqL.of hlf3),_,_,rfl,rfl,?_,?_⟩
    ·rw[ZA];lia
    refine Z9P hlf3 hpos (by lia) fun kx y hy=>?_;have hkx:kx<left.length:=(Y08.mp hy).1;have e3:(upd H3 lf (.lst (nv (left.eraseIdx kx)))) ln=some (.lst (nv line)):=(by rw[ZK nlnl];exact hln3);refine⟨ln,_,_,rfl,rfl,e3,?_,?_⟩
    ·rw[ZA];exact YR (by lia)
    have hel:(left.eraseIdx kx).length=left.length-1:=(by rw[List.length_eraseIdx,if_pos hkx]);have e4:(upd (upd H3 lf (.lst (nv (left.eraseIdx kx)))) ln (.lst (nv line++[.int (y:Int)]))) lf=some (.lst (nv (left.eraseIdx kx))):=(by rw[ZK nlnl.symm,ZR]);refine⟨_,rfl,_,rfl,lf,_,rfl,.inl (SqL.of e4),_,_,rfl,rfl,_,_,rfl,rfl,⟨?_,?_⟩,?_⟩
    ·rw[ZA];lia
    ·rw[ZA];lia
    exact⟨(left.eraseIdx kx).length,by lia,_,line++[y],left.eraseIdx kx,rfl,rfl,ZS (ZS s3 f0) g1,e4,by rw[ZR,Vm],Z8N hp hy⟩
   ·rw[decide_eq_false (show ¬ (0:Int)<(left.length:Int) by lia)];refine ZJ ?_;have hl0:left=[]:=Y25.mp (by lia);have hrow:Row n line:=Row.of_perm (by rw[hl0,Y1o]at hp;exact hp);exact⟨_,rfl,k H3 ln line s3 g1 hln3 hrow⟩
  ·rintro σ H' Q1 Q2 hq ⟨y,e1,a1,a2,a3,a4,a5,a6,a7,a8,a9,b1,b2⟩;exact⟨y,e1,a1,a2,a3,a4,a5,a6,a7,a8,a9,b1,hq _ _ b2⟩
end
def Z7Z (K:Y00):Sp:=fun vs H Q _=>∃ (a:Addr) (ns:List Int) (j:Int),vs=[.ref a,.int j]/\SqL K H a (ns.map V.int)/\0<=j/\∀ v:Int,Q (.int v) H
section
variable {P:Program}{w:World}{K:Y00}{mg:Str->Option Value}{base:Heap}
theorem scVc:ZL ["_law_script","_law_k"] ["_law_script","_law_k"] (ZV Vt):=⟨rfl,rfl,rfl,by decide +kernel,rfl,by decide +kernel,by decide +kernel⟩
theorem Zdi {f:Addr}{fd:FuncData}(T:Bi mg)(F:Fn K mg "_law_cell_at" Vt ["_law_script","_law_k"] f fd):Z4 P w K mg base CX0 1 f fd ["_law_script","_law_k"] (Z7Z K):=by
 refine F.F.ok scVc (fun vs H Q E h=>?_) (fun cdv A outer s H vs Q E hr h=>?_)
 ·obtain⟨a,ns,j,rfl,_⟩:=h;rfl
 ·obtain⟨a,ns,j,rfl,hS,h0,k⟩:=h;refine⟨_,Z3 (Zy (ZE X2 (pv 1) (ZG Y5 (by rfl) T.len PySem.boot_len (Z9 (pv 0) Z7)) (ZH _)) (ZY (ZO (Z2 YG (pv 0) (pv 1) (fun _ _=>rfl)))) Zw)
   (ZY (ZO Z6)),?_⟩
  refine⟨_,rfl,_,rfl,a,_,rfl,.inl hS,_,_,rfl,rfl,_,rfl,?_⟩;refine Yv (fun hlt=>?_) (fun _=>k 0);have hlt:j<((ns.map V.int).length:Int):=of_decide_eq_true hlt;rw[Y07]at hlt;have e:atI (ns.map V.int) ((j.toNat:Nat):Int)=some (.int (ns.getD j.toNat 0)):=Z0 (by
   have:j.toNat<ns.length:=by omega
   simp[Y04,this])
  rw[Y2t h0]at e;exact⟨_,rfl,_,rfl,a,_,j,_,rfl,rfl,hS,e,k _⟩
end
def Zhb (K:Y00):Sp:=fun vs H Q _=>∃ (a:Addr) (ns:List Int) (n:Nat),vs=[.ref a,.int (n:Int)]/\SqL K H a (ns.map V.int)/\1<=n/\n<=36/\
 ∀ (H':Hp) (b:Addr) (m:Nat) (r u:List Nat),Z5 H H'->Zn H' b r u->Zg m r u->m<=n->Q (.ref b) H'
section
variable {P:Program}{w:World}{K:Y00}{mg:Str->Option Value}{base:Heap}
noncomputable abbrev ZkB:List Str:=["_law_script","_law_many"]
theorem ZgL:ZL ZkB ["_law_script","_law_many"] (ZV UG):=⟨rfl,rfl,rfl,by decide +kernel,rfl,by decide +kernel,by decide +kernel⟩
theorem ZgX {f ft fr fc:Addr}{fd dt dr dc:FuncData}(F:Fn K mg "_law_sheet_by" UG ["_law_script","_law_many"] f fd)(FT:Fn K mg "_law_together" W2 ["_law_right","_law_up"] ft dt)(GT:Z4 P w K mg base CX0 1 ft dt ["_law_right","_law_up"] (Zj1 K))
  (FR:Fn K mg "_law_row_by" T8 ["_law_cell","_law_many"] fr dr) (GR:Z4 P w K mg base CX0 1 fr dr ["_law_cell","_law_many"] Zhp)
  (FC:Fn K mg "_law_cell_at" Vt ["_law_script","_law_k"] fc dc) (GC:Z4 P w K mg base CX0 1 fc dc ["_law_script","_law_k"] (Z7Z K)):Z4 P w K mg base CX0 2 f fd ["_law_script","_law_many"] (Zhb K):=by
 refine F.F.ok ZgL (fun vs H Q E h=>?_) (fun cdv A outer s H vs Q E hr h=>?_)
 ·obtain⟨a,ns,n,rfl,_⟩:=h;rfl
 ·obtain⟨a,ns,n,rfl,hS,h1,h36,k⟩:=h;have hr1:ZP 1 _:=hr.mono (by decide);refine⟨_,(ZY (ZO (ZT GT hr1 rfl FT.m FT.F.kp FT.b .nil ZQ (Z9 (ZT GR hr1 rfl FR.m FR.F.kp FR.b .nil ZQ (Z9 (ZT GC hr1 rfl FC.m FC.F.kp FC.b .nil ZQ (Z9 (pv 0) (Z9 Z6 Z7))) (Z9 (pv 1) Z7))) (Z9 (ZT GR hr1 rfl FR.m FR.F.kp FR.b .nil ZQ (Z9 (ZT GC hr1 rfl FC.m FC.F.kp FC.b .nil ZQ (Z9 (pv 0) (Z9 Z6 Z7))) (Z9 (pv 1) Z7))) Z7))))),?_⟩;refine⟨_,rfl,a,ns,1,rfl,hS,by decide,fun z1=>⟨_,rfl,z1,n,rfl,h36,fun H1 p r s1 _ hp rr=>?_⟩⟩;refine⟨_,rfl,a,ns,2,rfl,s1.seq hS,by decide,fun z2=>⟨_,rfl,z2,n,rfl,h36,fun H2 q u s2 _ hq ru=>?_⟩⟩;exact⟨p,q,n,r,u,rfl,.inl (SqL.of (s2 _ _ hp)),.inl (SqL.of hq),rr,ru,h1,h36,fun H3 b m r' u' s3 hb hSh hm=>k H3 b m r' u' (s1.trans (s2.trans s3)) hb hSh hm⟩
end
def spGc:Sp:=fun vs H Q _=>∃ a b:Int,vs=[.int a,.int b]/\∀ H':Hp,Z5 H H'->Q (.int ((Y1v a b:Nat):Int)) H'
section
variable {P:Program}{w:World}{K:Y00}{mg:Str->Option Value}{base:Heap}
noncomputable abbrev n_gc:List Str:=["_law_one","_law_other"]
theorem ZfA:ZL n_gc ["_law_one","_law_other"] (ZV Tv):=⟨rfl,rfl,rfl,by decide +kernel,rfl,by decide +kernel,by decide +kernel⟩
theorem ZjP {f:Addr}{fd:FuncData}(T_abs:mg "abs"=none)(F:Fn K mg "_law_gcd" Tv ["_law_one","_law_other"] f fd):Z4 P w K mg base CX0 1 f fd ["_law_one","_law_other"] spGc:=by
 refine F.F.ok ZfA (fun vs H Q E h=>?_) (fun cdv A outer s H vs Q E hr h=>?_)
 ·obtain⟨a,b,rfl,_⟩:=h;rfl
 ·obtain⟨a,b,rfl,k⟩:=h;refine⟨_,(Z3 (Zem (i:=0) (j:=1) rfl ZfA.nd rfl rfl (by decide) rfl rfl (Z9 (ZG Yk rfl T_abs X6 (Z9 (pv 0) Z7)) (Z9 (ZG Yk rfl T_abs X6 (Z9 (pv 1) Z7)) Z7)) rfl)
   (Z3 (XU PassesOwn.never (ZE Yr (pv 1) Z6 (ZH _)) (ZY (Zem (i:=0) (j:=1) rfl ZfA.nd rfl rfl (by decide) rfl rfl (Z9 (pv 1) (Z9 (ZX YL (pv 0) (pv 1)) Z7)) rfl)))
   (ZY (ZO (pv 0))))),?_⟩
  refine⟨_,rfl,_,rfl,_,rfl,_,rfl,_,_,rfl,?_⟩;have abs:∀ i:Int,(if i<0 then -i else i)=((i.natAbs:Nat):Int):=fun i=>by split<;>omega
  rw[abs a,abs b];refine WT (fun σ H'=>Z5 H H'/\∃ (x y:Nat),σ=[some (.int (x:Int)),some (.int (y:Int))]/\Nat.gcd x y=Y1v a b)
   (fun σ _=>match σ with|[_,some (.int y)]=>y.natAbs|_=>0) ⟨Z5.refl H,_,_,rfl,rfl⟩ ?_ ?_
  ·rintro σ H' ⟨s',x,y,rfl,hg⟩;refine⟨_,rfl,rfl,_,rfl,?_⟩;refine Yv (fun h=>?_) (fun h=>?_)
   ·have hy:(y:Int)≠0:=by simpa using h
    refine⟨_,rfl,_,rfl,_,rfl,_,_,rfl,rfl,(by show (0:Int)<(y:Int);omega),_,_,rfl,?_⟩;refine⟨⟨s',y,x%y,by simp[Y4n],?_⟩,?_⟩
    ·rw[<-hg,Nat.gcd_comm x y,Nat.gcd_rec y x,Nat.gcd_comm]
    ·show ((x:Int)%(y:Int)).natAbs<((y:Int)).natAbs;have:=Nat.mod_lt x (show 0<y by omega);rw[<-Y4n,Y48,Y48];exact this
   ·have hy:(y:Int)=0:=by simpa using h
    have:y=0:=(by omega);subst this;rw[Nat.gcd_zero_right]at hg;refine⟨_,rfl,?_⟩;rw[hg];exact k _ s'
  ·rintro σ H' Q1 Q2 hq ⟨x,e1,e2,y,e3,e4⟩;exact⟨x,e1,e2,y,e3,hq _ _ e4⟩
end
def spWy:Sp:=fun vs H Q _=>∃ a b m:Int,vs=[.int a,.int b,.int m]/\0<m/\m<=60/\∀ (H':Hp) (l:Addr) (p q:Int),Z5 H H'->H' l=some (.tup [.int p,.int q])->p.natAbs<=m.toNat->q.natAbs<=m.toNat->Y1v p q=1->Q (.ref l) H'
theorem Zdq (p:Int)(g:Nat):(p/(g:Int)).natAbs<=p.natAbs:=Int.natAbs_ediv_le_natAbs p g
section
variable {P:Program}{w:World}{K:Y00}{mg:Str->Option Value}{base:Heap}
noncomputable abbrev n_wy:List Str:=["_law_one","_law_other","_law_most","_law_p","_law_q","_law_common"]
theorem RV:ZL n_wy ["_law_one","_law_other","_law_most"] (ZV Tq):=⟨rfl,rfl,rfl,by decide +kernel,rfl,by decide +kernel,by decide +kernel⟩
theorem ZjW {f fg:Addr}{fd dg:FuncData}(F:Fn K mg "_law_way" Tq ["_law_one","_law_other","_law_most"] f fd)(FG:Fn K mg "_law_gcd" Tv ["_law_one","_law_other"] fg dg)(GG:Z4 P w K mg base CX0 1 fg dg ["_law_one","_law_other"] spGc):Z4 P w K mg base CX0 2 f fd ["_law_one","_law_other","_law_most"] spWy:=by
 refine F.F.ok RV (fun vs H Q E h=>?_) (fun cdv A outer s H vs Q E hr h=>?_)
 ·obtain⟨a,b,m,rfl,_⟩:=h;rfl
 ·obtain⟨a,b,m,rfl,hm0,hm,k⟩:=h;have hr1:ZP 1 _:=hr.mono (by decide);refine⟨_,(Z3 (ZW (i:=3) RV.nd rfl (Or.inl rfl) (ZX X3 (ZX YL (pv 0) (ZX Zd (ZX YY Z6 (pv 2)) Z6)) (pv 2)))
   (Z3 (ZW (i:=4) RV.nd rfl (Or.inl rfl) (ZX X3 (ZX YL (pv 1) (ZX Zd (ZX YY Z6 (pv 2)) Z6)) (pv 2)))
   (Z3 (Zy (PW.pt (WG (ZE Y7 (pv 3) Z6 (ZH _)) (Wk (ZE Y7 (pv 4) Z6 (ZH _))))) (ZY (ZO (Zq (Z9 Z6 (Z9 Z6 Z7))))) Zw)
   (Z3 (ZW (i:=5) RV.nd rfl (Or.inl rfl) (ZT GG hr1 rfl FG.m FG.F.kp FG.b .nil ZQ (Z9 (pv 3) (Z9 (pv 4) Z7))))
   (ZY (ZO (Zq (Z9 (ZX XT (pv 3) (pv 5)) (Z9 (ZX XT (pv 4) (pv 5)) Z7))))))))),?_⟩
  have cm:Xn 2 m:=.inl ⟨by decide,by decide⟩;have hpos:(0:Int)<2*m+1:=by lia
  refine⟨_,rfl,_,rfl,_,_,rfl,rfl,cm,_,_,rfl,rfl,_,_,rfl,rfl,hpos,_,rfl,_,_,rfl,rfl,?_⟩;refine⟨_,rfl,_,rfl,_,_,rfl,rfl,cm,_,_,rfl,rfl,_,_,rfl,rfl,hpos,_,rfl,_,_,rfl,rfl,?_⟩;have bp:(a%(2*m+1)-m).natAbs<=m.toNat:=by
   have h1:=Y2x a (Int.ne_of_gt hpos);have h2:=Y2a a hpos;lia
  have bq:(b%(2*m+1)-m).natAbs<=m.toNat:=by
   have h1:=Y2x b (Int.ne_of_gt hpos);have h2:=Y2a b hpos;lia
  dsimp only;generalize a%(2*m+1)-m=p at bp ⊢;generalize b%(2*m+1)-m=q at bq ⊢;have two:2<=sizeLine:=by decide
  have fin:¬ (p=0/\q=0)->∀ (H':Hp),Z5 H H'->∀ l,H' l=none->Q (.ref l) (upd H' l (.tup [.int (p/((Y1v p q:Nat):Int)),.int (q/((Y1v p q:Nat):Int))])):=fun h0 H' s' l hl=>by
   refine k _ l _ _ (ZS s' (s'.free hl)) ZR (Y0z (Zdq p _) bp) (Y0z (Zdq q _) bq) ?_;have hg:0<Y1v p q:=Int.gcd_pos_iff.mpr (by lia);exact Int.gcd_ediv_gcd_ediv_gcd hg
  have gl:¬ (p=0/\q=0)->0<Y1v p q/\((Y1v p q:Nat):Int)<1073741824:=fun h0=>by
   have hg:0<Y1v p q:=Int.gcd_pos_iff.mpr (by lia);refine⟨hg,?_⟩
   by_cases e:p=0
   ·have:q≠0:=fun z=>h0 ⟨e,z⟩;have:=Int.gcd_le_natAbs_right p this;lia
   ·have:=Int.gcd_le_natAbs_left q e;lia
  refine⟨_,rfl,rfl,_,rfl,?_⟩
  by_cases e1:p=0
  ·subst e1;refine Zz ?_;refine⟨_,rfl,rfl,_,rfl,?_⟩
   by_cases e2:q=0
   ·subst e2;refine Zz ?_;exact⟨two,fun l hl=>k _ l 1 0 (ZS (Z5.refl H) hl) ZR (by lia) (by lia) (by decide)⟩
   ·rw[decide_eq_false (by intro z;exact e2 (V.int.inj z))];refine ZJ ?_;have h0:¬ ((0:Int)=0/\q=0):=fun z=>e2 z.2;obtain⟨g0,g1⟩:=gl h0;refine⟨_,rfl,_,rfl,0,q,rfl,fun H1 s1=>?_⟩;refine⟨_,rfl,_,rfl,_,_,rfl,rfl,⟨by lia,g1⟩,_,rfl,_,rfl,_,_,rfl,rfl,⟨by lia,g1⟩,two,fun l hl=>fin h0 H1 s1 l hl⟩
  ·rw[decide_eq_false (by intro z;exact e1 (V.int.inj z))];refine ZJ ?_;refine ZJ ?_;have h0:¬ (p=0/\q=0):=fun z=>e1 z.1;obtain⟨g0,g1⟩:=gl h0;refine⟨_,rfl,_,rfl,p,q,rfl,fun H1 s1=>?_⟩;refine⟨_,rfl,_,rfl,_,_,rfl,rfl,⟨by lia,g1⟩,_,rfl,_,rfl,_,_,rfl,rfl,⟨by lia,g1⟩,two,fun l hl=>fin h0 H1 s1 l hl⟩
end
def Tg (K:Y00)(C:Addr)(m qual:Str)(st:Stmt):Prop:=∃ f fd,Fun K m qual st f fd/\Ti K C m f
theorem Zbm {K:Y00}{C:Addr}{m qual:Str}{st:Stmt}{f:Addr}{oc:Value}{od an:Option Addr}{osl:Array (Option Value)}{kV doc pm cdv ct:Value}(a:Y15 K (.ref C) m=some (some (.ref f)))(i:Y57 K (.ref f)=true)
  (l:K.lookup f=some ⟨oc,od,.func (Y1m m qual (YC st) (YO st) (ZV st) .none kV doc pm an cdv ct),osl⟩) (c:Y30 K cdv qual=true) (k:Y1p K (.ref f)=true):Tg K C m qual st:=
 ⟨f,_,ZdZ l c k,a,i,k⟩
theorem Tg.fn {K:Y00}{C:Addr}{m qual:Str}{st:Stmt}{ps:List Str}(R:Tg K C m qual st)
  (b:∀ (kV doc pm:Value) (an:Option Addr) (cdv ct:Value) (us:List Value),us.length=ps.length->bindArgs (Y1m m qual (YC st) (YO st) (ZV st) .none kV doc pm an cdv ct) ⟨us,[]⟩=pure (ps.zip us)):∃ f fd,MFn K C m qual st ps f fd:=by
 obtain⟨f,fd,F,M⟩:=R;exact⟨f,fd,F,F.binds b,M⟩
structure PIn (K:Y00)(C:Addr)(f:Addr)(fd:FuncData):Prop where
 M:Mk K C f
 F:∃ dV,VS K "__init__" "Part.__init__" Ve dV f fd
 b:YU K fd ["self","top","bottom"] []
 b1:∃ tk,YU K fd ["self","top","bottom"] [.int 1 tk]
theorem Zga {K:Y00}{C f Td:Addr}{oc tc:Value}{od an td:Option Addr}{osl tsl:Array (Option Value)}{kV doc pm cdv ct:Value}{tk:Tok}{tn:Nat}(mk:PySem.W.makesIn K C=true)(kc:Y1p K (.ref C)=true)
  (a:Y15 K (.ref C) "__init__"=some (some (.ref f))) (i:Y57 K (.ref f)=true)
  (l:K.lookup f=some ⟨oc,od,.func (Y1m "__init__" "Part.__init__" (YC Ve) (YO Ve) (ZV Ve) (.ref Td) kV doc pm an cdv ct),osl⟩) (c:Y30 K cdv "Part.__init__"=true) (k:Y1p K (.ref f)=true)
  (t:K.lookup Td=some ⟨tc,td,.seq #[.int 1 tk] tn,tsl⟩):∃ fd,PIn K C f fd:=by
 refine⟨_,⟨mk,a,i,kc⟩,⟨_,ZaU l c k⟩,fun s us hK hl=>?_,tk,fun s us hK hl=>?_⟩
 ·have hl':us.length=3:=by simpa using hl
  match us,hl' with
  | [x,y,z],_=>exact Y4z hK rfl t rfl rfl rfl
 ·have hl':us.length=2:=by simpa using hl
  match us,hl' with
  | [x,y],_=>exact Y4z hK rfl t rfl rfl rfl
structure Zkc (K:Y00)(C:Addr):Prop where
 pg:Y3t K C Str.empty=true
 hd:Y4c K C=true
 po:Y5m K C=true
 sa:Y15 K (.ref C) "__setattr__"=some (some (.builtin "object.__setattr__"))
 nT:Y15 K (.ref C) "top"=some none
 nB:Y15 K (.ref C) "bottom"=some none
 ha:Y15 K (.ref C) "__class__"=some (some (.builtin "object.__class__"))
 hn:Y4d K (.builtin "object.__class__") "__get__"=some (some (.builtin "getset_descriptor.__get__"))
 htk:Y4u K (.builtin "object.__class__")=some true
 hm:Y5q K C (.type "object")=some true
theorem Zfz (K:Y00)(C:Addr):Y2i K (.ref C) (.ref C)=some true:=by
 unfold Y2i;rw[if_pos (beq_self_eq_true _)]
theorem Zkc.tx {K:Y00}{mg:Str->Option Value}{C:Addr}(h:Zkc K C)(m:mg "Part"=some (.ref C)):PTx K mg C:=
 ⟨⟨h.pg,h.hd,h.po,h.sa⟩,h.nT,h.nB,m,Zfz K C,h.ha,h.hn,h.htk,h.hm⟩
theorem Z7A {t rest:L2.TS}{D:Yx}{σ:St}{H:Hp}(Pv:St->Hp->Prop)(h:∀ N:St->Hp->Prop,(∀ σ' H',Pv σ' H'->N σ' H')->t { D with nx:=N } σ H)(k:∀ σ' H',Pv σ' H'->rest D σ' H'):Yy t rest D σ H:=h _ k
theorem Zhf {n:Nat}{x:List Nat×List Nat}(s:Zg n x.1 x.2){ps:List Pr}(hp:ps.Perm ((NB n x).map W9)):(∀ b∈ps,1<=b.1/\1<=b.2/\b.1<=36)/\ps.length<=36/\(ps.map fun b=>b.1*b.2).sum=n:=by
 obtain⟨k1,k2,k3,_⟩:=Ze6 s (as:=Y0c (NB n x).length 0) (bs:=NB n x) (by simp) (List.Perm.refl _);rw[Y36]at k2;refine⟨fun b hb=>?_,?_,?_⟩
 ·obtain⟨B,hB,rfl⟩:=Y0g.mp (hp.mem_iff.mp hb);have:=k1 B hB;exact⟨this.1,this.2.2.1,this.2.1⟩
 ·rw[hp.length_eq,Y07];exact k2
 ·rw[(hp.map fun b=>b.1*b.2).sum_nat,Y1n];exact k3
theorem ZdM (k:Nat):(PyData.tuple [.str (Str.ofString "back"),.int (k:Int)]).canLay0=true:=by
 show (PyData.canLay0 (.str (Str.ofString "back"))&&(PyData.canLay0 (.int (k:Int))&&true))=true;rw[show PyData.canLay0 (.str (Str.ofString "back"))=true by decide +kernel]
 rfl
theorem ZgN (k:Nat):(PyData.tuple [.str (Str.ofString "back"),.int (k:Int)]).depth<=64:=by
 show max 0 (max 0 0)+1<=64
 decide
theorem ZdA {K:Y00}{Hc:Hp}{a:Addr}{xs:List V}{tl te:TE}{tt:TT}{pull:List Nat}{Q:VK}{σ rest:St}(c:Nat->Bool)(v:Nat->V)(hj:∀ R:VK,R (.ref a) Hc->tl σ Hc R)(hp:Hc a=some (.lst xs))(hb:bst 1 pull σ=none::rest)(hm:xs.length<=1000)
  (htt:∀ (i:Nat) (H:Hp) (R:Bool->Hp->Prop),i<xs.length->Z5 Hc H->R (c i) H->tt (some (xs.getD i .non)::rest) H R)
  (hte:∀ (i:Nat) (H:Hp) (R:VK),i<xs.length->Z5 Hc H->R (v i) H->te (some (xs.getD i .non)::rest) H R)
  (k:∀ (H':Hp) (d:Addr),Z5 Hc H'->H' d=some (.lst (((Y02 xs.length).filter c).map v))->Q (.ref d) H') :
  We (XZ K tl) 1 pull (Zs 0) tt te σ Hc Q:=by
 refine hj _ ⟨a,rfl,⟨_,SqL.of hp⟩,fun d hd=>?_⟩;rw[hb];refine SV (J:=Itl K a) (Q:=fun d H'=>Q (.ref d) H') xs.length (fun i ys σ H9=>(∃ o,σ=o::rest)/\Z5 Hc H9/\ys=((Y02 i).filter c).map v) ⟨⟨_,rfl⟩,ZS (Z5.refl _) hd,rfl⟩ ?_ ?_
 ·rintro i ys σ H9 hi ⟨⟨o,rfl⟩,s9,rfl⟩ hd9;have hq:=SqL.of (K:=K) (s9 _ _ hp);have hmi:xs[i]?=some (xs.getD i .non):=by rw[Y04,Y01 hi];rfl
  refine⟨⟨_,_,hq,hmi⟩,fun y H4 ⟨e1,hy⟩=>?_⟩;subst e1;have hy:=hy _ hq;rw[hmi]at hy;cases hy;refine htt i _ _ hi s9 ?_;have el:((Y02 i).filter c).length<=i:=by have:=Y20 c (Y02 i);simpa using this
  have ef:(Y02 (i+1)).filter c=(Y02 i).filter c++[i].filter c:=by rw[Y2w,Y1t]
  cases e:c i with
  | true=>
   have e3:[i].filter c=[i]:=(by simp[e]);rw[if_pos rfl];refine hte i _ _ hi s9 (VZ hi hd9 (by rw[Y07];lia) ⟨⟨_,rfl⟩,ZS s9 hd,?_⟩);rw[ef,e3,Y1z];rfl
  | false=>
   have e3:[i].filter c=[]:=(by simp[e]);rw[if_neg (by decide)];refine RY hi hd9 ⟨⟨_,rfl⟩,s9,?_⟩;rw[ef,e3,Y1o]
 ·rintro ys σ H9 ⟨⟨o,rfl⟩,s9,rfl⟩ hd9;exact⟨⟨_,SqL.of (s9 _ _ hp),by simp⟩,k H9 d s9 hd9⟩
theorem ZaE {α β:Type}(l:List α)(d:α)(P:α->Bool)(g:α->β):((Y02 l.length).filter fun i=>P (l.getD i d)).map (fun i=>g (l.getD i d))=(l.filter P).map g:=by
 have e:(Y02 l.length).map (fun i=>l.getD i d)=l:=by
  refine Y2u fun i=>?_;rw[Y0l]
  by_cases c:i<l.length
  ·rw[Y2v c,Y01 c];show some (l.getD i d)=_;rw[Y04,Y01 c];rfl
  ·rw[Y18 (by simp;lia),Y18 (by lia)];rfl
 conv=>rhs;rw[<-e]
 rw[List.filter_map,Y1n];rfl
theorem Zd1 (ps:List Pr)(L:Nat):((ps.filter fun b=>decide ((b.1:Int)=(L:Int))).map fun b=>(b.2:Int)).sum=(((ps.map fun b=>if b.1=L then b.2 else 0).sum:Nat):Int):=by
 induction ps with
 | nil=>rfl
 | cons b ps ih=>
  rw[Y11,List.sum_cons,List.filter_cons]
  by_cases c:b.1=L
  ·rw[decide_eq_true (show (b.1:Int)=(L:Int) by lia),if_pos rfl,Y11,List.sum_cons,ih,if_pos c];lia
  ·rw[decide_eq_false (show ¬ (b.1:Int)=(L:Int) by lia),if_neg (by decide),ih,if_neg c];lia
theorem Z9k (l:List Nat)(L:Nat):(l.filter fun (b:Nat)=>decide ((b:Int)=(L:Int))).length=l.count L:=by
 induction l with
 | nil=>rfl
 | cons b l ih=>
  rw[List.filter_cons,List.count_cons]
  by_cases c:b=L
  ·rw[decide_eq_true (show (b:Int)=(L:Int) by lia),if_pos rfl,Y0w,ih];simp[c]
  ·rw[decide_eq_false (show ¬ (b:Int)=(L:Int) by lia),if_neg (by decide),ih];simp[c]
theorem Zgt {r:List V->Hp->VK->Prop}{ta:TE}{g:TG}{D:Yx}{σ:St}{H:Hp}(h:ta σ H (fun v H1=>r [v] H1 fun w H2=>g w σ H2 D.nx)):X8 (tCB r (ZI ta Zr)) g D σ H:=h
theorem Zjj {r:List V->Hp->VK->Prop}{ta:TE}{Q:VK}{σ:St}{H:Hp}(h:ta σ H (fun v H1=>r [v] H1 Q)):tCB r (ZI ta Zr) σ H Q:=h
theorem nvD (l:List Nat)(j:Nat)(h:j<l.length):(nv l).getD j .non=.int ((l.getD j 0:Nat):Int):=by
 rw[Y04,Zp (Y01 h),Y04,Y01 h];rfl
theorem ZjJ {i j:Int}:decide (V.int i=V.int j)=decide (i=j):=decide_eq_decide.mpr ⟨fun h=>by injection h,fun h=>by rw[h]⟩
theorem Ze7 (p q x y:Int):∀ k,∀ c∈YQ p q x y k,R4 c
 | 0,c,h=>(Y3h h).elim
 | k+1,c,h=>by
  unfold YQ at h;obtain⟨e,he,rfl⟩:=Y0g.mp h;unfold pev at he;have ih:=fun (e:Sq.Ev) he=>Ze7 p q x y k e.2.2 (by unfold YQ;exact Y0g.mpr ⟨e,he,rfl⟩);unfold R4
  split at he
  ·rcases Y0n.mp he with h|h
   ·exact ih e h
   ·rw[Y0k.mp h];unfold exv;dsimp only;split<;>simp
  ·rcases Y0n.mp he with h|h
   ·exact ih e h
   ·rw[Y0k.mp h];unfold eyv;dsimp only;split<;>simp
theorem Zin {p q x y:Int}(hp:p.natAbs<=12)(hq:q.natAbs<=12)(hg:Y1v p q=1)(x0:0<x)(x1:x<61)(y0:0<y)(y1:y<61)(h:(q*x-p*y)%61=0):(q*x-p*(1+y%60))%61≠0:=by
 have hp0:p≠0:=fun e=>by
  subst e;rw[Y43,Y3o]at h;have hq1:q=1\/q=-1:=by
   have:q.natAbs=1:=by simpa using hg
   lia
  rcases hq1 with e|e<;>subst e<;>lia
 intro g
 by_cases c:y=60
 ·subst c;rw[show (1+(60:Int)%60)=1 by decide]at g;rw[Y33]at g;have:p*60=60*p:=Y0d _ _;lia
 ·rw[show y%60=y by lia,Y17,Y33]at g;lia
def RQ (K:Y00):Sp:=fun vs H Q _=>∃ (a:Addr) (ns:List Int),vs=[.ref a]/\SqL K H a (ns.map V.int)/\∀ H':Hp,Q (.bl true) H'
section
variable {P:Program}{w:World}{K:Y00}{mg:Str->Option Value}{base:Heap}
noncomputable abbrev ZeE:List Str:=["_law_script","_law_first","_law_sheet_here","_law_ways","_law_spots","_law_many","_law_p","_law_q","_law_x","_law_y","_law_found","_law_row_here","_law_rounds_here","_law_length","_law_wide","_law_square","_law_place","_law_told","_law_ahead","_law_now","_law_turn"]
theorem Y8:ZL ZeE ["_law_script"] (ZV VT):=⟨rfl,rfl,rfl,by decide +kernel,rfl,by decide +kernel,by decide +kernel⟩
theorem Z6T:(["_law_band","_law_length"]:List Str).Nodup:=by decide +kernel
theorem Z64:(["_law_steps","_law_length"]:List Str).Nodup:=by decide +kernel
set_option maxHeartbeats 4000000 in
theorem Zgr {f fc fs fy fz fb fr ft fp fq fk fx fa:Addr}{fd dc ds dy dz db dr dt dp dq dk dx da:FuncData}{C CP CY CN fi fw:Addr}{di dw:FuncData}{uw:Value}(T:Bi mg)(T_sum:mg "sum"=none)(TP:PTx K mg C)(M:Mk K C fi)(bI:YU K di ["self","top","bottom"] [])(GI:Z4 P w K mg base (CX1 P w) 2 fi di ["self","top","bottom"] (Xu C CN))(FW:FnD K mg "walk" Tw ["sheet","place","p","q","steps"] (.int 1) fw dw uw)(GW:Z4 P w K mg base (CX1 P w) 9 fw dw ["sheet","place","p","q","steps"] (Zg0 C CP CY))(F:Fn K mg "law" VT ["_law_script"] f fd)(FC:Fn K mg "_law_cell_at" Vt ["_law_script","_law_k"] fc dc)(GC:Z4 P w K mg base CX0 1 fc dc ["_law_script","_law_k"] (Z7Z K))
  (FS:Fn K mg "_law_sheet" V7 ["_law_script","_law_at_here","_law_many"] fs ds) (GS:Z4 P w K mg base CX0 3 fs ds ["_law_script","_law_at_here","_law_many"] (spSe K))
  (FY:Fn K mg "_law_sheet_by" UG ["_law_script","_law_many"] fy dy) (GY:Z4 P w K mg base CX0 2 fy dy ["_law_script","_law_many"] (Zhb K))
  (FZ:Fn K mg "_law_way" Tq ["_law_one","_law_other","_law_most"] fz dz) (GZ:Z4 P w K mg base CX0 2 fz dz ["_law_one","_law_other","_law_most"] spWy)
  (FB:Fn K mg "bands_along" Wu ["sheet","p","q"] fb db) (GB:Z4 P w K mg base CX0 10 fb db ["sheet","p","q"] Zer)
  (FR:Fn K mg "_law_bands_are" VH ["_law_found","_law_many"] fr dr) (GR:Z4 P w K mg base CX0 2 fr dr ["_law_found","_law_many"] Zgq)
  (FT:Fn K mg "_law_step_row" VB ["_law_sheet_here","_law_path_here"] ft dt) (GT:Z4 P w K mg base CX0 2 ft dt ["_law_sheet_here","_law_path_here"] ZhG)
  (FP:Fn K mg "_law_path" T6 ["_law_p","_law_q","_law_x","_law_y","_law_full"] fp dp) (GP:Z4 P w K mg base CX0 1 fp dp ["_law_p","_law_q","_law_x","_law_y","_law_full"] ZiD)
  (FQ:Fn K mg "_law_rounds" Uu ["_law_row_here"] fq dq) (GQ:Z4 P w K mg base CX0 1 fq dq ["_law_row_here"] Zhu)
  (FK:Fn K mg "back_after" UM ["sheet","place","p","q"] fk dk) (GK:Z4 P w K mg base (CX1 P w) 9 fk dk ["sheet","place","p","q"] (ZhM C))
  (FX:Fn K mg "_law_whole" Vf ["_law_found"] fx dx) (GX:Z4 P w K mg base CX0 1 fx dx ["_law_found"] Xv)
  (FA:Fn K mg "_law_at" Te ["_law_end","_law_square","_law_x","_law_y"] fa da) (GA:Z4 P w K mg base CX0 1 fa da ["_law_end","_law_square","_law_x","_law_y"] (ZgT C)):Z4 P w K mg base CX0 12 f fd ["_law_script"] (RQ K):=by
 refine F.F.ok Y8 (fun vs H Q E h=>?_) (fun cdv A outer s H vs Q E hr h=>?_)
 ·obtain⟨a,ns,rfl,_⟩:=h;rfl
 ·obtain⟨sc,ns,rfl,hS,k⟩:=h;have hr3:ZP 3 _:=hr.mono (by decide);have hr1:ZP 1 _:=hr.mono (by decide);have hr10:ZP 10 _:=hr.mono (by decide);have hr2:ZP 2 _:=hr.mono (by decide);have hr3:ZP 3 _:=hr.mono (by decide);have hr9:ZP 9 _:=hr.mono (by decide);refine⟨_,(Z3 (ZW (i:=1) Y8.nd rfl (Or.inl rfl) (ZT GC hr1 rfl FC.m FC.F.kp FC.b .nil ZQ (Z9 (pv 0) (Z9 Z6 Z7))))
   (Z3 (Zy (ZE Y7 (ZX YL (pv 1) Z6) Z6 (ZH _)) (Z3 (ZW (i:=2) Y8.nd rfl (Or.inl rfl) (ZT GY hr2 rfl FY.m FY.F.kp FY.b .nil ZQ (Z9 (pv 0) (Z9 (ZX Zd Z6 (ZX YL (ZX XT (pv 1) Z6) Z6)) Z7))))
   (Z3 (ZW (i:=3) Y8.nd rfl (Or.inl rfl) (Zq (Z9 (ZT GC hr1 rfl FC.m FC.F.kp FC.b .nil ZQ (Z9 (pv 0) (Z9 Z6 Z7))) (Z9 (ZX XT (ZT GC hr1 rfl FC.m FC.F.kp FC.b .nil ZQ (Z9 (pv 0) (Z9 Z6 Z7))) Z6) Z7))))
   (ZY (ZW (i:=4) Y8.nd rfl (Or.inl rfl) (Zq (Z9 (ZT GC hr1 rfl FC.m FC.F.kp FC.b .nil ZQ (Z9 (pv 0) (Z9 Z6 Z7))) (Z9 (ZT GC hr1 rfl FC.m FC.F.kp FC.b .nil ZQ (Z9 (pv 0) (Z9 Z6 Z7))) Z7))))))) (Z3 (ZW (i:=2) Y8.nd rfl (Or.inl rfl) (ZT GS hr3 rfl FS.m FS.F.kp FS.b .nil ZQ (Z9 (pv 0) (Z9 Z6 (Z9 (ZX Zd Z6 (ZX YL (ZX XT (pv 1) Z6) Z6)) Z7)))))
   (Z3 (ZW (i:=3) Y8.nd rfl (Or.inl rfl) (Zq (Z9 (ZT GC hr1 rfl FC.m FC.F.kp FC.b .nil ZQ (Z9 (pv 0) (Z9 Z6 Z7))) (Z9 (ZT GC hr1 rfl FC.m FC.F.kp FC.b .nil ZQ (Z9 (pv 0) (Z9 Z6 Z7))) Z7))))
   (ZY (ZW (i:=4) Y8.nd rfl (Or.inl rfl) (Zq (Z9 (ZT GC hr1 rfl FC.m FC.F.kp FC.b .nil ZQ (Z9 (pv 0) (Z9 Z6 Z7))) (Z9 (ZT GC hr1 rfl FC.m FC.F.kp FC.b .nil ZQ (Z9 (pv 0) (Z9 Z6 Z7))) Z7))))))))
   (Z3 (ZW (i:=5) Y8.nd rfl (Or.inl rfl) (ZG Y5 rfl T.len PySem.boot_len (Z9 (Z2 ZZ (pv 2) Z6 (fun _ _=>rfl)) Z7)))
   (Z3 (ZgE (ZT GZ hr2 rfl FZ.m FZ.F.kp FZ.b .nil ZQ (Z9 (Z2 ZZ (pv 3) Z6 (fun _ _=>rfl)) (Z9 (Z2 ZZ (pv 3) Z6 (fun _ _=>rfl)) (Z9 Z6 Z7)))) (Zg8 rfl (Vw (Zu (i:=6) Y8.nd rfl (Or.inl rfl)) (Vw (Zu (i:=7) Y8.nd rfl (Or.inl rfl)) Z7I))))
   (Z3 (ZW (i:=8) Y8.nd rfl (Or.inl rfl) (ZX Zd Z6 (ZX YL (Z2 ZZ (pv 4) Z6 (fun _ _=>rfl)) Z6)))
   (Z3 (ZW (i:=9) Y8.nd rfl (Or.inl rfl) (ZX Zd Z6 (ZX YL (Z2 ZZ (pv 4) Z6 (fun _ _=>rfl)) Z6)))
   (Z3 (Zy (ZE Y7 (ZX YL (ZX X3 (ZX YY (pv 7) (pv 8)) (ZX YY (pv 6) (pv 9))) Z6) Z6 (ZH _)) (ZY (ZW (i:=9) Y8.nd rfl (Or.inl rfl) (ZX Zd Z6 (ZX YL (pv 9) Z6)))) Zw)
   (Z3 (ZW (i:=10) Y8.nd rfl (Or.inl rfl) (ZT GB hr10 rfl FB.m FB.F.kp FB.b .nil ZQ (Z9 (pv 2) (Z9 (pv 6) (Z9 (pv 7) Z7)))))
   (Z3 (Zy (YN (Y4 (ZT GR hr2 rfl FR.m FR.F.kp FR.b .nil ZQ (Z9 (pv 10) (Z9 (pv 5) Z7))))) (ZY (ZO Xq)) Zw)
   (Z3 (ZW (i:=11) Y8.nd rfl (Or.inl rfl) (ZT GT hr2 rfl FT.m FT.F.kp FT.b .nil ZQ (Z9 (pv 2) (Z9 (ZT GP hr1 rfl FP.m FP.F.kp FP.b .nil ZQ (Z9 (pv 6) (Z9 (pv 7) (Z9 (pv 8) (Z9 (pv 9) (Z9 Z6 Z7)))))) Z7))))
   (Z3 (ZW (i:=12) Y8.nd rfl (Or.inl rfl) (ZT GQ hr1 rfl FQ.m FQ.F.kp FQ.b .nil ZQ (Z9 (pv 11) Z7)))
   (Z3 (Yg PassesOwn.never rfl (Zbt rfl T.range (Z9 Z6 (Z9 (ZX Zd (pv 5) Z6) Z7))) (Zu (i:=13) Y8.nd rfl (Or.inr rfl)) (Z3 (ZW (i:=14) Y8.nd rfl (Or.inl rfl) (ZG (ZaP rfl) rfl T_sum Zcv (Z9 (SO (N:=ZeE) (names:=(ZV VT).names) (N':=["_law_band","_law_length"]) (k:=1) (pull:=[13]) (tt:=WD (tOp rEq (tOp (Y0 K) (ZU 0) (tC (.int 0))) (ZU 1))) (te:=tOp (Y0 K) (ZU 0) (tC (.int 1))) rfl ⟨by rfl,by decide +kernel,by decide +kernel,by rfl,by decide +kernel,by decide +kernel⟩ rfl rfl (Yl (pv 10)) (fun _ _ _ _ _ _=>Zu (i:=0) Z6T rfl (Or.inl rfl)) (fun _ _ _ _ _ _=>ZE Y7 (Z2 ZZ (pv 0) Z6 (fun _ _=>rfl)) (pv 1) (by with_unfolding_all rfl)) (fun _ _ _ _ _ _=>(Z2 ZZ (pv 0) Z6 (fun _ _=>rfl)))) Z7)))
   (ZY (Zy (ZE Yr (ZX YY (pv 14) (pv 13)) (ZG Y5 rfl T.len PySem.boot_len (Z9 (SO (N:=ZeE) (names:=(ZV VT).names) (N':=["_law_steps","_law_length"]) (k:=1) (pull:=[13]) (tt:=WD (tOp rEq (ZU 0) (ZU 1))) (te:=ZU 0) rfl ⟨by rfl,by decide +kernel,by decide +kernel,by rfl,by decide +kernel,by decide +kernel⟩ rfl rfl (Yl (pv 12)) (fun _ _ _ _ _ _=>Zu (i:=0) Z64 rfl (Or.inl rfl)) (fun _ _ _ _ _ _=>ZE Y7 (pv 0) (pv 1) (by with_unfolding_all rfl)) (fun _ _ _ _ _ _=>pv 0)) Z7)) (ZH _)) (ZY (ZO Xq)) Zw))))
   (Z3 (ZW (i:=15) Y8.nd rfl (Or.inl rfl) (ZX YL (ZX XT (Z2 ZZ (pv 4) Z6 (fun _ _=>rfl)) Z6) (pv 5)))
   (Z3 (ZW (i:=16) Y8.nd rfl (Or.inl rfl) (Zq (Z9 (pv 15) (Z9 (Wg M GI hr3 rfl TP.mgC bI .nil Yh (Z9 (pv 8) (Z9 Z6 Z7))) (Z9 (Wg M GI hr3 rfl TP.mgC bI .nil Yh (Z9 (pv 9) (Z9 Z6 Z7))) Z7)))))
   (Z3 (ZW (i:=17) Y8.nd rfl (Or.inl rfl) (ZT GK hr9 rfl FK.m FK.F.kp FK.b .nil Yh (Z9 (pv 2) (Z9 (pv 16) (Z9 (pv 6) (Z9 (pv 7) Z7))))))
   (Z3 (Zy (PW.pt (YK (YN (Y4 (ZG W3 rfl T.isin XB (Z9 (pv 17) (Z9 (Xx (v:=.ty "tuple") rfl T.tuple XC rfl) Z7))))) (YK (ZE Zet (pv 17) (Zq (Z9 Zt (Z9 (Z2 YG (pv 12) (pv 15) (fun _ _=>rfl)) Z7))) (ZH _)) (XH (YN (Y4 (ZT GX hr1 rfl FX.m FX.F.kp FX.b .nil ZQ (Z9 (Z2 ZZ (pv 17) Z6 (fun _ _=>rfl)) Z7)))))))) (ZY (ZO Xq)) Zw)
   (Z3 (Zy (YN (Y4 (ZT GA hr1 rfl FA.m FA.F.kp FA.b .nil ZQ (Z9 (ZT GW hr9 rfl FW.m FW.kp FW.b .nil Yh (Z9 (pv 2) (Z9 (pv 16) (Z9 (pv 6) (Z9 (pv 7) (Z9 (Z2 YG (pv 12) (pv 15) (fun _ _=>rfl)) Z7)))))) (Z9 (pv 15) (Z9 (pv 8) (Z9 (pv 9) Z7))))))) (ZY (ZO Xq)) Zw)
   (Z3 (ZW (i:=18) Y8.nd rfl (Or.inl rfl) (ZX YL (ZX XT (Z2 ZZ (pv 4) Z6 (fun _ _=>rfl)) Z6) (Z2 YG (pv 12) (pv 15) (fun _ _=>rfl))))
   (Z3 (ZW (i:=19) Y8.nd rfl (Or.inl rfl) (pv 15))
   (Z3 (Yg PassesOwn.never rfl (WZ rfl T.range (Z9 (pv 18) Z7)) (Zu (i:=20) Y8.nd rfl (Or.inl rfl)) (ZY (ZW (i:=19) Y8.nd rfl (Or.inl rfl) (Z2 YG (pv 11) (pv 19) (fun _ _=>rfl)))))
   (ZY (ZO (ZT GA hr1 rfl FA.m FA.F.kp FA.b .nil ZQ (Z9 (ZT GW hr9 rfl FW.m FW.kp FW.b .nil Yh (Z9 (pv 2) (Z9 (pv 16) (Z9 (pv 6) (Z9 (pv 7) (Z9 (pv 18) Z7)))))) (Z9 (pv 19) (Z9 (pv 8) (Z9 (pv 9) Z7))))))))))))))))))))))))))),?_⟩
  have two:2<=sizeLine:=by decide
  have three:3<=sizeLine:=by decide
  refine⟨_,rfl,sc,ns,0,rfl,hS,by decide,fun z0=>?_⟩;dsimp only [Zs];refine Z7A (fun σ H2=>∃ (b tw ts:Addr) (n:Nat) (r u:List Nat) (w0 w1 o0 o1:Int),σ=[some (.ref sc),some (.int z0),some (.ref b),some (.ref tw),some (.ref ts),none,none,none,none,none,none,none,none,none,none,none,none,none,none,none,none]/\Z5 H H2/\Zn H2 b r u/\Zg n r u/\H2 tw=some (.tup [.int w0,.int w1])/\H2 ts=some (.tup [.int o0,.int o1])) (fun N hN=>?_) ?_
  ·obtain⟨n0,hn0⟩:∃ n0:Nat,1+z0/2%12=(n0:Int):=⟨(1+z0/2%12).toNat,by lia⟩;refine⟨_,rfl,_,_,rfl,rfl,(by show (0:Int)<2;decide),rfl,_,rfl,?_⟩;refine Yv (fun _=>?_) (fun _=>?_)
   ·refine⟨_,rfl,_,rfl,_,_,rfl,rfl,⟨by decide,by decide⟩,_,_,rfl,rfl,(by show (0:Int)<12;decide),_,_,rfl,rfl,?_⟩;refine⟨sc,ns,n0,by show [V.ref sc,V.int (1+z0/2%12)]=_;rw[hn0],hS,by lia,by lia,fun H1 b n r u s1 hb hSh _=>?_⟩;have hS1:=s1.seq hS;refine⟨_,rfl,sc,ns,3,rfl,hS1,by decide,fun z1=>⟨_,rfl,sc,ns,3,rfl,hS1,by decide,fun z2=>⟨_,_,rfl,rfl,⟨by decide,by decide⟩,two,fun tw htw=>?_⟩⟩⟩;have s2:=ZS (o:=.tup [.int z1,.int (z2/25)]) (Z5.refl H1) htw;have htw2:(upd H1 tw (.tup [.int z1,.int (z2/25)])) tw=some (.tup [.int z1,.int (z2/25)]):=ZR;generalize (upd H1 tw (.tup [.int z1,.int (z2/25)]))=H2 at *;have hS2:=s2.seq hS1;refine⟨_,rfl,sc,ns,4,rfl,hS2,by decide,fun z3=>⟨_,rfl,sc,ns,5,rfl,hS2,by decide,fun z4=>⟨two,fun ts hts=>?_⟩⟩⟩;have s3:=ZS (o:=.tup [.int z3,.int z4]) (Z5.refl H2) hts;exact hN _ _ ⟨b,tw,ts,n,r,u,z1,z2/25,z3,z4,rfl,s1.trans (s2.trans s3),hb.same (s2.trans s3),hSh,s3 _ _ htw2,ZR⟩
   ·refine⟨_,rfl,_,rfl,_,_,rfl,rfl,⟨by decide,by decide⟩,_,_,rfl,rfl,(by show (0:Int)<12;decide),_,_,rfl,rfl,?_⟩;refine⟨sc,ns,5,n0,by show [V.ref sc,V.int 5,V.int (1+z0/2%12)]=_;rw[hn0],hS,by decide,by decide,by lia,by lia,fun H1 b n r u s1 hb hSh _=>?_⟩;have hS1:=s1.seq hS;refine⟨_,rfl,sc,ns,1,rfl,hS1,by decide,fun z1=>⟨_,rfl,sc,ns,2,rfl,hS1,by decide,fun z2=>⟨two,fun tw htw=>?_⟩⟩⟩;have s2:=ZS (o:=.tup [.int z1,.int z2]) (Z5.refl H1) htw;have htw2:(upd H1 tw (.tup [.int z1,.int z2])) tw=some (.tup [.int z1,.int z2]):=ZR;generalize (upd H1 tw (.tup [.int z1,.int z2]))=H2 at *;have hS2:=s2.seq hS1;refine⟨_,rfl,sc,ns,3,rfl,hS2,by decide,fun z3=>⟨_,rfl,sc,ns,4,rfl,hS2,by decide,fun z4=>⟨two,fun ts hts=>?_⟩⟩⟩;have s3:=ZS (o:=.tup [.int z3,.int z4]) (Z5.refl H2) hts;exact hN _ _ ⟨b,tw,ts,n,r,u,z1,z2,z3,z4,rfl,s1.trans (s2.trans s3),hb.same (s2.trans s3),hSh,s3 _ _ htw2,ZR⟩
  rintro σ H2 ⟨b,tw,ts,n,r,u,w0,w1,o0,o1,rfl,s2,hb,hSh,htw,hts⟩;have rr:=hSh.row;have ru:=hSh.col;have hn:=hSh.most;have hpos:=hSh.pos;obtain⟨rp,up,hb1,hb2,hb3⟩:=id hb;refine⟨_,rfl,b,_,0,_,rfl,rfl,SqT.of hb1,Z0 (j:=0) rfl,rp,_,rfl,.inr (SqT.of hb2),?_⟩;rw[ZA,rr.len];refine⟨_,rfl,tw,_,0,_,rfl,rfl,SqT.of htw,Z0 (j:=0) rfl,_,rfl,tw,_,1,_,rfl,rfl,SqT.of htw,Z0 (j:=1) rfl,_,_,12,rfl,by decide,by decide,fun H3 tp p q s3 htp hp hq hg=>?_⟩;refine⟨tp,_,rfl,SqT.of htp,rfl,_,_,rfl,_,_,rfl,rfl,?_⟩;have hp12:p.natAbs<=12:=hp;have hq12:q.natAbs<=12:=hq;have hne:¬ (p=0/\q=0):=by rintro ⟨e1,e2⟩;rw[e1,e2]at hg;exact absurd hg (by decide)
  have hts3:=s3 _ _ hts;refine⟨_,rfl,ts,_,0,_,rfl,rfl,SqT.of hts3,Z0 (j:=0) rfl,_,_,rfl,rfl,(by show (0:Int)<60;decide),_,_,rfl,rfl,?_⟩;refine⟨_,rfl,ts,_,1,_,rfl,rfl,SqT.of hts3,Z0 (j:=1) rfl,_,_,rfl,rfl,(by show (0:Int)<60;decide),_,_,rfl,rfl,?_⟩;dsimp only [Zs];obtain⟨x,hx⟩:∃ x:Int,1+o0%60=x:=⟨_,rfl⟩;obtain⟨y0,hy0⟩:∃ x:Int,1+o1%60=x:=⟨_,rfl⟩;rw[hx,hy0];have x0:0<x:=by lia
  have x1:x<61:=by lia
  have yy0:0<y0:=by lia
  have yy1:y0<61:=by lia
  refine Z7A (fun σ H4=>∃ y:Int,σ=[some (.ref sc),some (.int z0),some (.ref b),some (.ref tw),some (.ref ts),some (.int (n:Int)),some (.int p),some (.int q),some (.int x),some (.int y),none,none,none,none,none,none,none,none,none,none,none]/\H4=H3/\0<y/\y<61/\NoC p q x y 61) (fun N hN=>?_) ?_
  ·refine⟨_,rfl,_,rfl,_,_,rfl,rfl,.inl ⟨by lia,by lia⟩,_,rfl,_,rfl,_,_,rfl,rfl,.inl ⟨by lia,by lia⟩,_,_,rfl,rfl,_,_,rfl,rfl,(by show (0:Int)<61;decide),rfl,_,rfl,?_⟩;rw[ZjJ]
   by_cases c:(q*x-p*y0)%61=0
   ·rw[decide_eq_true c];refine Zz ?_;refine⟨_,rfl,_,_,rfl,rfl,(by show (0:Int)<60;decide),_,_,rfl,rfl,?_⟩;have:=Zin hp12 hq12 hg x0 x1 yy0 yy1 c;exact hN _ _ ⟨1+y0%60,rfl,rfl,by lia,by lia,fun hd=>this (Y5s hd)⟩
   ·rw[decide_eq_false c];refine ZJ ?_;exact hN _ _ ⟨y0,rfl,rfl,yy0,yy1,fun hd=>c (Y5s hd)⟩
  rintro σ H4 ⟨y,rfl,rfl,y0',y1',nc⟩;have hb3':=hb.same s3;refine⟨_,rfl,_,rfl,_,rfl,b,p,q,n,r,u,rfl,hb3',hSh,by lia,by lia,hg,fun H5 lf as ps s5 _ hlf hP hps hso=>?_⟩;obtain⟨k1,k2,k3⟩:=Zhf (SS (YI (lq p q)) (x:=(r,u)) hSh) hps;refine⟨_,rfl,_,rfl,lf,n,as,ps,rfl,hlf,hP,hso,k1,k2,k3,hn,fun H6 s6=>⟨_,rfl,ZJ ?_⟩⟩;have s56:=s5.trans s6;have hb6:=hb3'.same s56;refine⟨_,rfl,_,rfl,_,rfl,_,rfl,_,rfl,p,q,x,y,rfl,by lia,by lia,x0,x1,y0',y1',fun H7 s7=>?_⟩;refine⟨b,_,n,r,u,rfl,hb6.same s7,rr,ru,hn,Ze7 p q x y _,fun H8 lr s8 hlr=>?_⟩;have prow:Row n (Pw n r u p q x y):=R8 rr ru;refine⟨_,rfl,lr,n,_,rfl,hlr,prow,hn,fun H9 lo s9 hlo=>?_⟩;have s39:=s56.trans (s7.trans (s8.trans s9));have hb9:=hb3'.same s39;have hlf9:=(s6.trans (s7.trans (s8.trans s9))) _ _ hlf;have hP9:Zo H9 as ps:=hP.same (s6.trans (s7.trans (s8.trans s9)));have hlr9:=s9 _ _ hlr;have lenr:(nv ((Y02 n).map fun s=>(cyc n (Pw n r u p q x y) s).length)).length=n:=by rw[ZA];simp
  have asl:=hP.len;have cnt:=fun L=>Zdl hSh hg (show p.natAbs<=60 by lia) (show q.natAbs<=60 by lia) x0 x1 y0' y1' nc hps L;generalize hRD:((Y02 n).map fun s=>(cyc n (Pw n r u p q x y) s).length)=RD at *;have cle:∀ s,s<n->(cyc n (Pw n r u p q x y) s).length<=n/\1<=(cyc n (Pw n r u p q x y) s).length:=fun s hs=>by
   have c:=YM prow hs;rw[X5];obtain⟨p1,p2⟩:=XJ prow hs;exact⟨R6 prow hs p2,by unfold per;lia⟩
  have rget:∀ s,s<n->(nv RD)[s]?=some (.int ((cyc n (Pw n r u p q x y) s).length:Int)):=fun s hs=>Zp (by rw[<-hRD,Y0l,Y2v hs];rfl);refine⟨_,rfl,_,_,rfl,rfl,1,(n:Int)+1,rfl,⟨by decide,by decide,by lia,by lia⟩,?_⟩;rw[show ((n:Int)+1-1).toNat=n by lia];refine SR (n:=n) (fun i σ H'=>∃ o13 o14,σ=[some (.ref sc),some (.int z0),some (.ref b),some (.ref tw),some (.ref ts),some (.int (n:Int)),some (.int p),some (.int q),some (.int x),some (.int y),some (.ref lf),some (.ref lr),some (.ref lo),o13,o14,none,none,none,none,none,none]/\Z5 H9 H') ⟨_,_,rfl,Z5.refl _⟩ ?_ ?_
  ·rintro i σ H' hi ⟨o13,o14,rfl,s'⟩;have hlf':=s' _ _ hlf9;have hP':=hP9.same s';have hlo':=s' _ _ hlo;have eL:(1+(i:Int))=((1+i:Nat):Int):=(by lia);have sum1:(((Y02 ps.length).filter fun j=>decide (((ps.getD j (0,0)).1:Int)=((1+i:Nat):Int))).map fun j=>((ps.getD j (0,0)).2:Int)).sum=(((ps.map fun b=>if b.1=1+i then b.2 else 0).sum:Nat):Int):=by
    rw[ZaE ps (0,0) (fun b=>decide ((b.1:Int)=((1+i:Nat):Int))) (fun b=>(b.2:Int)),Zd1]
   have cnt1:((Y02 RD.length).filter fun j=>decide (((RD.getD j 0:Nat):Int)=((1+i:Nat):Int))).length=RD.count (1+i):=by
    have:=congrArg Y2q (ZaE RD 0 (fun (b:Nat)=>decide ((b:Int)=((1+i:Nat):Int))) id);rw[Y07,Y07,Z9k]at this;exact this
   have gA:∀ j,j<(as.map V.ref).length->∃ aa,(as.map V.ref).getD j .non=.ref aa/\S5 H' aa (ps.getD j (0,0)):=fun j hj=>by
    rw[Y07]at hj;obtain⟨bb,e1,e2⟩:=hP'.get (i:=j) (a:=as[j]) (Y01 hj);refine⟨as[j],by rw[Y04,Y0l,Y01 hj];rfl,?_⟩;rw[Y04,e1];exact e2
   have hW:(1+i)*(ps.map fun b=>if b.1=1+i then b.2 else 0).sum<=36:=by
    rw[<-cnt (1+i)];have:=List.count_le_length (l:=RD) (a:=1+i);have e:RD.length=n:=(by rw[<-hRD];simp);lia
   obtain⟨W,hWe⟩:∃ W,(ps.map fun b=>if b.1=1+i then b.2 else 0).sum=W:=⟨_,rfl⟩;have cW:=cnt (1+i);rw[hWe]at sum1 hW cW;have W36:W<=36:=by
    have:=Nat.mul_le_mul_right W (show 1<=1+i by lia);lia
   dsimp only [Zs];rw[eL];refine Z7A (fun σ H8=>σ=[some (.ref sc),some (.int z0),some (.ref b),some (.ref tw),some (.ref ts),some (.int (n:Int)),some (.int p),some (.int q),some (.int x),some (.int y),some (.ref lf),some (.ref lr),some (.ref lo),some (.int ((1+i:Nat):Int)),some (.int (W:Int)),none,none,none,none,none,none]/\Z5 H' H8) (fun N hN=>?_) ?_
   ·refine Zgt (ZdA (a:=lf) (xs:=as.map V.ref) (fun j=>decide (((ps.getD j (0,0)).1:Int)=((1+i:Nat):Int))) (fun j=>.int ((ps.getD j (0,0)).2:Int)) (fun R hR=>⟨_,rfl,hR⟩) hlf' rfl (by rw[Y07];lia) (fun j Hj R hj sj hR=>?_) (fun j Hj R hj sj hR=>?_) (fun Hd d sd hd=>?_))
    ·obtain⟨aa,e1,e2⟩:=gA j hj;rw[e1];refine⟨_,rfl,aa,_,0,_,rfl,rfl,SqT.of (sj _ _ e2),Z0 (j:=0) rfl,_,rfl,rfl,_,rfl,?_⟩;rw[ZjJ];exact hR
    ·obtain⟨aa,e1,e2⟩:=gA j hj;rw[e1];exact⟨_,rfl,aa,_,1,_,rfl,rfl,SqT.of (sj _ _ e2),Z0 (j:=1) rfl,hR⟩
    ·rw[Y07,asl]at hd;refine⟨d,((Y02 ps.length).filter fun j=>decide (((ps.getD j (0,0)).1:Int)=((1+i:Nat):Int))).map fun j=>((ps.getD j (0,0)).2:Int),rfl,SqL.of (by rw[hd,Y1n];rfl),?_⟩;rw[sum1];exact hN _ _ ⟨rfl,sd⟩
   rintro σ H8 ⟨rfl,s8'⟩;have hlo8:=s8' _ _ hlo';refine⟨_,rfl,_,rfl,_,_,rfl,rfl,.inl ⟨by lia,by lia⟩,?_⟩;refine Zjj (ZdA (a:=lo) (xs:=nv RD) (fun j=>decide (((RD.getD j 0:Nat):Int)=((1+i:Nat):Int))) (fun j=>.int ((RD.getD j 0:Nat):Int)) (fun R hR=>⟨_,rfl,hR⟩) hlo8 rfl (by lia) (fun j Hj R hj sj hR=>?_) (fun j Hj R hj sj hR=>?_) (fun Hd d sd hd=>?_))
   ·have e1:(nv RD).getD j .non=.int ((RD.getD j 0:Nat):Int):=nvD RD j (by rwa [ZA]at hj);rw[e1];refine⟨_,rfl,_,rfl,rfl,_,rfl,?_⟩;rw[ZjJ];exact hR
   ·have e1:(nv RD).getD j .non=.int ((RD.getD j 0:Nat):Int):=nvD RD j (by rwa [ZA]at hj);rw[e1];exact⟨_,rfl,hR⟩
   ·rw[ZA]at hd;refine⟨d,_,rfl,.inl (SqL.of hd),rfl,_,rfl,?_⟩;rw[Y07,cnt1,cW];rw[decide_eq_true (show V.int ((W:Int)*((1+i:Nat):Int))=V.int (((1+i)*W:Nat):Int) by rw[Int.natCast_mul,Y0d])];refine ZJ ?_;exact⟨_,_,rfl,s'.trans (s8'.trans sd)⟩
  ·rintro σ H' ⟨o13,o14,rfl,s'⟩;have hts':=s' _ _ (s39 _ _ hts3);have hlo':=s' _ _ hlo;have hlr':=s' _ _ hlr9;refine⟨_,rfl,ts,_,0,_,rfl,rfl,SqT.of hts',Z0 (j:=0) rfl,_,_,rfl,rfl,⟨by decide,by decide⟩,_,rfl,_,_,rfl,rfl,(by show (0:Int)<(n:Int);lia),?_⟩;obtain⟨sq,hsq⟩:=Y3e (Y2x (o0/60) (show (n:Int)≠0 by lia));have hlt:=Y2a (o0/60) (show (0:Int)<(n:Int) by lia);dsimp only;rw[hsq];rw[hsq]at hlt;have hsn:sq<n:=(by lia);obtain⟨lx1,lx2⟩:=Zh5 x0 x1;obtain⟨ly1,ly2⟩:=Zh5 y0' y1';have b61:Bt 4000 61:=Bt.mono (n:=60) (by show (61:Int).natAbs<2^60;decide) (by decide);refine⟨_,rfl,_,rfl,?_⟩;intro xa dxa nxa ndxa nea;refine Vr (t:=x) (b:=61) (by decide) b61 nxa ndxa fun Ha sa pa=>⟨rfl,?_⟩;refine⟨_,rfl,?_⟩;intro ya dya nya ndya neya;refine Vr (t:=y) (b:=61) (by decide) b61 nya ndya fun Hb sb pb=>⟨rfl,?_⟩;refine⟨three,fun lp hlp=>?_⟩;have sc':=ZS (o:=.tup [.int (sq:Int),.ref xa,.ref ya]) (Z5.refl Hb) hlp;have hpl:P3 C (upd Hb lp (.tup [.int (sq:Int),.ref xa,.ref ya])) lp sq (Z1 x 61) (Z8 x 61) (Z1 y 61) (Z8 y 61):=⟨xa,ya,ZR,pa.same (sb.trans sc'),pb.same sc'⟩;generalize (upd Hb lp (.tup [.int (sq:Int),.ref xa,.ref ya]))=Hc at *;have s9c:=s'.trans (sa.trans (sb.trans sc'));have bb61:Bt 60 (Z8 x 61):=(by rw[lx2];show (61:Int).natAbs<2^60;decide);have cc61:Bt 60 (Z8 y 61):=(by rw[ly2];show (61:Int).natAbs<2^60;decide);have hw:Way p q:=⟨by lia,by lia,hne⟩;refine⟨_,rfl,_,rfl,_,rfl,_,rfl,b,lp,n,sq,r,u,x,61,y,61,p,q,rfl,hb9.same s9c,rr,ru,hn,hpl,hsn,by lia,x1,by lia,y1',bb61,cc61,⟨hw,hg⟩,fun Hd t sd fnd=>?_⟩;have ht:=Zg1 rr ru hne x0 x1 y0' y1' nc hsn fnd;have s9d:=s9c.trans sd;have hlod:=s9d _ _ hlo;obtain⟨K1,hK1⟩:∃ k:Nat,(cyc n (Pw n r u p q x y) sq).length=k:=⟨_,rfl⟩;have hKb:=cle sq hsn;rw[hK1]at ht hKb;have rsq:=rget sq hsn;rw[hK1]at rsq;refine⟨_,rfl,_,_,_,_,rfl,.tup ht,Z9a K,_,rfl,ZJ ?_⟩;refine⟨_,rfl,_,rfl,_,rfl,lo,_,_,_,rfl,rfl,SqL.of hlod,Z0 rsq,two,fun tb htb=>?_⟩;have se:=ZS (o:=.tup [.str (Str.ofString "back"),.int (K1:Int)]) (Z5.refl Hd) htb;have htb1:(upd Hd tb (.tup [.str (Str.ofString "back"),.int (K1:Int)])) tb=some (.tup [.str (Str.ofString "back"),.int (K1:Int)]):=ZR;generalize (upd Hd tb (.tup [.str (Str.ofString "back"),.int (K1:Int)]))=He at *;refine⟨.tuple [.str (Str.ofString "back"),.int (K1:Int)],.tuple [.str (Str.ofString "back"),.int (K1:Int)],.tup (SqT.of (se _ _ ht)) (.cons (.str _) (.cons (.int _) .nil)),.tup (SqT.of htb1) (.cons (.str _) (.cons (.int _) .nil)),ZdM K1,ZdM K1,Zbd hr (ZgN K1),_,rfl,?_⟩;have ee:PyData.eqv (.tuple [.str (Str.ofString "back"),.int (K1:Int)]) (.tuple [.str (Str.ofString "back"),.int (K1:Int)])=true:=by
    show ((Str.ofString "back" == Str.ofString "back")&&(((K1:Int)==(K1:Int))&&true))=true;simp
   rw[if_pos rfl,ee];refine ZJ ?_;refine⟨_,rfl,t,_,1,_,rfl,rfl,SqT.of (se _ _ ht),Z0 (j:=1) rfl,_,rfl,_,rfl,ZJ ?_⟩;have s9e:=s9d.trans se;have wk:∀ (S':Nat) (H8:Hp) (QQ:VK) (EE:XK),Z5 He H8->S'<=1000000->(∀ (H10:Hp) (t l:Addr),Z5 H8 H10->H10 t=some (.tup [.str (Str.ofString "there"),.ref l])->P3 C H10 l (it (Pw n r u p q x y) sq S') x 61 y 61->QQ (.ref t) H10)->Zg0 C CP CY [.ref b,.ref lp,.int p,.int q,.int (S':Int)] H8 QQ EE:=fun S' H8 QQ EE s8 a1 kk=>by
    obtain⟨px,py,q1,q2,q3⟩:=hpl;have sx:=sd.trans (se.trans s8);have good:Ts n (sq:Int) (Z1 x 61) (Z8 x 61) (Z1 y 61) (Z8 y 61):=(by rw[lx1,lx2,ly1,ly2];exact⟨by lia,by lia,Y35 (by lia) x1,Y35 (by lia) y1'⟩);refine⟨b,lp,px,py,n,(sq:Int),r,u,_,_,_,_,p,q,(S':Int),rfl,hb9.same (s9e.trans s8),rr,ru,hn,sx _ _ q1,q2.same sx,q3.same sx,by rw[lx2];decide,by rw[ly2];decide,bb61,cc61,by lia,by lia,fun z=>absurd good z,fun _ z=>absurd hw z,fun _ _ sq' e=>?_⟩;obtain rfl:sq'=sq:=(by lia);have R0:=Zaj rr ru hne x0 x1 y0' y1' nc hsn S';exact ZfP rr ru hsn (by lia) hw (by lia) x1 (by lia) y1' (fun H10 t l' s' s10 h10 hP10 hs10 hR=>kk H10 t l' s10 h10 (by
     have e:=congrArg Spt.s (Z8w R0 hR)
     have e:it (Pw n r u p q x y) sq' S'=s':=e
     rw[e,<-lx1,<-ly1]
     rw[lx1,lx2,ly1,ly2]at hP10
     rw[lx1,ly1];exact hP10)) (fun H10 t pt v T bb s10 h10 hv hp hT0 hT hH=>absurd R0 (fun h=>Z9J hH h))
   refine⟨_,rfl,_,rfl,_,rfl,_,rfl,_,rfl,_,rfl,lo,_,_,_,rfl,rfl,SqL.of (se _ _ hlod),Z0 rsq,?_⟩;dsimp only [Zr,Y1o,Y47,List.cons_append];refine wk K1 He _ _ (Z5.refl _) (by lia) fun Hf tf lf' sf htf hPf=>?_;have eper:it (Pw n r u p q x y) sq K1=sq:=by
    rw[<-hK1,X5];exact (XJ prow hsn).1
   rw[eper]at hPf;refine⟨_,rfl,_,rfl,_,rfl,tf,lf',sq,x,y,rfl,htf,hPf,fun Hg sg=>⟨_,rfl,ZJ ?_⟩⟩;have s9g:=s9e.trans (sf.trans sg);have htsg:=s9g _ _ (s39 _ _ hts3);have hlog:=s9g _ _ hlo;refine⟨_,rfl,ts,_,1,_,rfl,rfl,SqT.of htsg,Z0 (j:=1) rfl,_,_,rfl,rfl,⟨by decide,by decide⟩,_,rfl,_,rfl,lo,_,_,_,rfl,rfl,SqL.of hlog,Z0 rsq,_,_,rfl,rfl,(by show (0:Int)<(K1:Int);lia),?_⟩;obtain⟨ah,hah⟩:=Y3e (Y2x (o1/60) (show (K1:Int)≠0 by lia));have hahl:=Y2a (o1/60) (show (0:Int)<(K1:Int) by lia);dsimp only;rw[hah];rw[hah]at hahl;refine⟨_,rfl,?_⟩;refine⟨_,rfl,_,rfl,by lia,by lia,?_⟩;rw[Y1g];refine SR (n:=ah) (fun i σ H'=>∃ o20,σ=[some (.ref sc),some (.int z0),some (.ref b),some (.ref tw),some (.ref ts),some (.int (n:Int)),some (.int p),some (.int q),some (.int x),some (.int y),some (.ref lf),some (.ref lr),some (.ref lo),o13,o14,some (.int (sq:Int)),some (.ref lp),some (.ref t),some (.int (ah:Int)),some (.int ((it (Pw n r u p q x y) sq i:Nat):Int)),o20]/\H'=Hg) ⟨_,rfl,rfl⟩ ?_ ?_
   ·rintro i σ H' hi ⟨o20,rfl,rfl⟩;have hit:=Zk prow hsn i;refine⟨_,rfl,_,rfl,lr,_,_,_,rfl,rfl,SqL.of (s9g _ _ hlr9),Z0 (Zp (prow.get hit)),?_⟩;exact⟨_,rfl,rfl⟩
   ·rintro σ H' ⟨o20,rfl,rfl⟩;refine⟨_,rfl,_,rfl,_,rfl,_,rfl,_,rfl,?_⟩;dsimp only [Zr,Y1o,Y47,List.cons_append];refine wk ah _ _ _ (sf.trans sg) (by lia) fun Hh th lh sh' hth hPh=>?_;refine⟨_,rfl,_,rfl,_,rfl,th,lh,_,x,y,rfl,hth,hPh,fun Hi si=>k _⟩
theorem ZaB {f:Addr}{fd:FuncData}{ps:List Str}{k:Nat}(G:Z4 P w K mg base CX0 k f fd ps Z6h):Z4 P w K mg base CX0 k f fd ps ZbW:=by
 refine G.imp fun vs H Q E h=>?_;obtain⟨a,n,r,u,rfl,h1,h2,h3,h4,kk⟩:=h;exact⟨a,n,r,u,rfl,h1,h2,h3,h4,fun H' d kvs s hn hd hk _=>kk H' d kvs s hn hd hk⟩
theorem ZgQ {f fn fw CN:Addr}{fd dn dw:FuncData}(F:Fn K mg "to_level" Uz ["p","q"] f fd)(FN:Fn K mg "need_straight_way" VM ["p","q"] fn dn)(GN:Z4 P w K mg base (CX1 P w) 2 fn dn ["p","q"] (ZfJ CN))
  (FW:Fn K mg "weights_to_one" UU ["p","q"] fw dw) (GW:Z4 P w K mg base CX0 1 fw dw ["p","q"] spWo):Z4 P w K mg base CX0 3 f fd ["p","q"] spTl:=by
 refine F.F.ok ZgW (fun vs H Q E h=>?_) (fun cdv A outer s H vs Q E hr h=>?_)
 ·obtain⟨p,q,rfl,_⟩:=h;rfl
 ·obtain⟨p,q,rfl,hw,hg,k⟩:=h;have hr1:ZP 1 _:=hr.mono (by decide);have hr2:ZP 2 _:=hr.mono (by decide);refine⟨_,(Z3 (YB (ZT GN hr2 rfl FN.m FN.F.kp FN.b .nil Yh (Z9 (pv 0) (Z9 (pv 1) Z7))))
   (Z3 (ZW (i:=2) ZgW.nd rfl (Or.inl rfl) (ZT GW hr1 rfl FW.m FW.F.kp FW.b .nil ZQ (Z9 (pv 0) (Z9 (pv 1) Z7))))
   (ZY (ZO (Zq (Z9 (Z2 ZZ (pv 2) Z6 (fun _ _=>rfl)) (Z9 (Z2 ZZ (pv 2) Z6 (fun _ _=>rfl)) (Z9 (XY X4 (pv 1)) (Z9 (pv 0) Z7))))))))),?_⟩
  refine⟨_,rfl,_,rfl,p,q,rfl,fun _=>?_,fun z=>absurd ⟨hw,hg⟩ z⟩;refine⟨_,rfl,_,rfl,p,q,rfl,hw,hg,fun H1 l s1 hl e b0 b1=>?_⟩;have hl:=SqT.of (K:=K) hl;refine⟨_,rfl,l,_,0,_,rfl,rfl,hl,Z0 (j:=0) rfl,?_⟩;refine⟨_,rfl,l,_,1,_,rfl,rfl,hl,Z0 (j:=1) rfl,?_⟩;refine⟨_,rfl,_,rfl,_,rfl,?_⟩;refine⟨by show 4<=sizeLine;decide,fun d hd=>?_⟩;exact k _ d (ZS s1 (s1.free hd)) ZR e b0 b1
end
end K1
namespace PySem.W.Fast
def tw11383907070106409624:=0
def tw15192555060502111324:=0
def tw18334243203769565757:=0
def tw6331956897800888272:=0
def tw10439107377801374113:=0
def tw9734086799025290299:=0
def tw13729169728681471938:=0
def tw6804708498160898624:=0
def tw2460078478386239819:=0
def tw17500274807901996308:=0
def tw7594395319353533312:=0
def tw6801971750857931619:=0
def tw2600748179381871660:=0
def tw6118356612077412628:=0
def tw13924943063442935903:=0
def tw3556114104996704304:=0
def tw1926879723562092796:=0
def tw4109295399935612630:=0
def tw17821704230627776894:=0
def tw12884183901562332466:=0
def tw5945870379945460267:=0
def tw18276890313100396665:=0
def tw485880490634703109:=0
def tw6421222322453688583:=0
def tw9260856587825558931:=0
def tw8742775273108761223:=0
def tw9103831377532900255:=0
def tw7343745599311430152:=0
def tw1706683453189708747:=0
def tw917527989501669875:=0
def tw5893647475111502700:=0
def tw10344402024308032752:=0
def tw11107344789286092605:=0
def tw4749277448356066576:=0
def tw8186797504983023451:=0
def tw18264345968855984418:=0
def tw7762977524846808384:=0
def tw17825364386945467280:=0
def tw16740168471511485142:=0
def tw12628700889673155519:=0
def tw3495150330389878659:=0
def tw3816898548549034038:=0
def tw5236948073225486413:=0
def tw12936142430614367447:=0
def tw12685678007733424230:=0
def tw9411823396943176370:=0
def tw14659145101019197834:=0
def tw4868005621217375676:=0
def tw16112243287676935026:=0
def tw15616008737595189338:=0
def tw15501936281723072014:=0
def tw7981277093077310921:=0
def tw499507207118272694:=0
def tw568375089390183630:=0
def tw11864690346937004160:=0
def tw6418302341258271956:=0
def tw10168896706473696342:=0
def tw6501521651619270761:=0
def tw9812616993191858942:=0
def tw5712376660883679992:=0
def tw17022328394112521205:=0
def tw10274044129116793927:=0
def tw12612432135951573541:=0
def tw13603703776103775856:=0
def tw3582232593452424770:=0
def tw18053257154966785693:=0
def tw7212759650207206641:=0
def tw4867934540070370402:=0
def tw16874868949287471528:=0
def tw8978535784955378454:=0
def tw8032510915446651147:=0
def tw1297837423673868114:=0
def tw16278111628609077198:=0
def tw101280702214959279:=0
def tw14118845573809757768:=0
def tw4386763372624724589:=0
def tw16415803985648513041:=0
def tw17649758444921021770:=0
def tw8082484886131755912:=0
def tw7680009238365316046:=0
def tw2055728208067673823:=0
def tw11154747319721585050:=0
def tw4273328728216375794:=0
def tw17750033749050773512:=0
def tw8779503580001423916:=0
def tw4165245132897895151:=0
def tw5737255883056046091:=0
def tw17407630576310584605:=0
def tw1874055298889653818:=0
def tw10148768497816895783:=0
def tw16294860685948473043:=0
def tw14587606687514630210:=0
def tw6176050912321862441:=0
def tw8044140536593369859:=0
def tw11362545113990583539:=0
def tw5557402528890008454:=0
def tw4612708954802654993:=0
def tw1227645382748778386:=0
def tw1471747084299759651:=0
def tw10274703558871869301:=0
def tw8946423160462922463:=0
def tw12739865390398472506:=0
def tw3445574798107100841:=0
def tw2441484129245733330:=0
def tw6189155020906285985:=0
def tw12340001084899605736:=0
def tw9123579117813393267:=0
def tw16297073102211635814:=0
def tw5823891559293168300:=0
def tw16643770792794562818:=0
def tw18445747636296965032:=0
def tw4912803167323940293:=0
def tw6844081830754464506:=0
def tw227252832501253983:=0
def tw5608508184150594415:=0
def tw16363312950080278014:=0
def tw9342670903244297796:=0
def tw439417005376620581:=0
def tw14256537970466380659:=0
def tw10193942773612652322:=0
def tw4025220092728243358:=0
def tw8191513089242788177:=0
def tw17616599237502833417:=0
def tw767474740158013866:=0
def tw16625497200075825048:=0
def tw3579699342459505437:=0
def tw11482351047577160958:=0
def tw16678714358807112212:=0
def tw11527082435761866145:=0
def tw14265972827355946086:=0
def tw12012971092292129749:=0
def tw8226013494533483683:=0
def tw4561238007206473891:=0
def tw6732047826529568417:=0
def tw104727470524529521:=0
def tw17528706305486244072:=0
def tw3108915828425426139:=0
def tw10861055129810306544:=0
def tw5557388602986096782:=0
def tw4179615195200951976:=0
def tw1485790908595844732:=0
def tw5577438206427789470:=0
def tw742315221953108825:=0
def tw15974087906429868445:=0
def tw12784188558462543893:=0
def tw9488454577052575213:=0
def tw12157087488003879401:=0
def tw2908167469214599778:=0
def tw6151997806714844688:=0
def tw2933625941768744649:=0
def tw7048823764451411995:=0
def tw8428099555770753898:=0
def tw11245213040757582845:=0
def tw6578519537759472261:=0
def tw15630846678146840166:=0
def tw14678460280277097791:=0
def tw10277225136444035782:=0
def tw5772372166180899426:=0
def tw8956842986696252760:=0
def tw6229475551282925773:=0
def tw4980618998123472612:=0
def tw14759064098607329887:=0
def tw14649196487150425230:=0
def tw12461728135605729581:=0
def tw2903664632038042744:=0
def tw17021347238945167569:=0
def tw1704393900722085173:=0
def tw8080390711380130013:=0
def tw14246642803658095853:=0
def tw7182638835233961448:=0
def tw9906132487651112596:=0
def tw17469300590939680605:=0
def tw15989303438784346439:=0
def tw13520001447771808086:=0
def tw10104434787766258673:=0
def tw12228038974371653908:=0
def tw2844825391770029191:=0
def tw18258229329208547532:=0
def tw17897391639502883436:=0
def tw16340344671523924402:=0
def tw10571291608802893301:=0
def tw17969510712727488409:=0
def tw11860205216269687720:=0
def tw13597065116973891488:=0
def tw13498750954112555313:=0
def tw6223475361864566488:=0
def tw16694764376245272561:=0
def tw17674346348879652644:=0
def tw5730998379337198591:=0
def tw29836593006085152:=0
def tw16495930851146064208:=0
def tw11839416551091410255:=0
def tw17627607751733378017:=0
def tw9750264803263321432:=0
def tw15590688627529194678:=0
def tw5271030263906258690:=0
def tw8467775508283886026:=0
def tw6281584096942334846:=0
def tw964547489105221067:=0
def tw9373476693641165456:=0
def tw8372825015062276195:=0
def tw10681227954560905726:=0
def tw11059445301187000684:=0
def tw10471427424707262631:=0
def tw156449714018190034:=0
def tw13528466734132049117:=0
def tw8815055292418939195:=0
def tw3899272077085339202:=0
def tw12651938458810937145:=0
def tw15317127925139167932:=0
def tw5193786561517209415:=0
def tw13320121778857855587:=0
def tw9969709801181077576:=0
def tw14193178768640508342:=0
def tw2623182127926132423:=0
def tw2220515894356806220:=0
def tw573080457512315440:=0
def tw843309560700651278:=0
def tw9767597540703413540:=0
def tw7592827049983924122:=0
def tw6829254810601808488:=0
def tw12869979749814598616:=0
def tw15867195909286486898:=0
def tw14269179035011064515:=0
def tw2862880195341475738:=0
def tw13624428999688268094:=0
def tw7102350259094288524:=0
def tw16476062111999795627:=0
def tw16338254507747326242:=0
def tw6805629598782792983:=0
def tw12332256471877666348:=0
def tw13172468611720994141:=0
def tw3446343267931545076:=0
def tw15467849551585601024:=0
def tw7052298593705101819:=0
def tw6501333411278565544:=0
def tw15828764399614304388:=0
def tw7676049272888917377:=0
def tw12303614668168454797:=0
def tw6273048799877844796:=0
def tw218272554927782266:=0
def tw10143264574872258435:=0
def tw10842263043608348473:=0
def tw8429044811306712391:=0
def tw17934117980097037017:=0
def tw10341480983338979804:=0
def tw15456807929543570505:=0
def tw2388685517611793299:=0
def tw16042401766555763804:=0
def tw9155201814021800815:=0
def tw7781749471763801460:=0
def tw3577122575482581115:=0
def tw6325140060655204763:=0
def tw18424717766554521132:=0
def tw7625073924895880316:=0
def tw11392908072824530732:=0
def tw3681803584252189784:=0
def tw1526117772302274005:=0
def tw454130293737834102:=0
def tw14894876789898314612:=0
def tw5486314072787565480:=0
def tw9662841174011719118:=0
def tw16361633949113954307:=0
def tw10676109349581180271:=0
def tw14858596456777242650:=0
def tw404367345745014359:=0
def tw2596475793972901270:=0
def tw12292937038959304729:=0
def tw6270473773923147346:=0
def tw6687432781803818865:=0
def tw7147332311113334215:=0
def tw14299058862066232104:=0
def tw3327644371771636815:=0
def tw6370209926382676700:=0
def tw5680693663903085501:=0
def tw3516534048493325194:=0
def tw6290823646954578308:=0
def tw12260164109372718908:=0
def tw7151642526897305723:=0
def tw4825091501491221017:=0
def tw16605554933555339869:=0
def tw14651972130636021572:=0
def tw263525254767141617:=0
def tw9226004385609406897:=0
def tw5566087182974962803:=0
def tw8893175271058455454:=0
def tw8620151781828447999:=0
def tw18316168330764105886:=0
def tw7767375896865190312:=0
def tw3376311967906879297:=0
def tw2103578067192298721:=0
def tw12900080439216174236:=0
def tw7797952217244145844:=0
def tw3631279566818354967:=0
def tw12790535903248995136:=0
def tw8343253333949609141:=0
def tw2217696292359810577:=0
def tw14335409283842247297:=0
def tw12440737688687157653:=0
def tw7213792101024558588:=0
def tw5404289447050853086:=0
def tw10712997235635417544:=0
def tw14854283154182862307:=0
end PySem.W.Fast
namespace K1
open PySem L2 Sq
def Raw (K:Y00)(x:Str)(st:Stmt):Prop:=∃ f fd,Fun K x x st f fd/\Y0u K mainGlobals x=some (some (.ref f))/\∃ kV doc pm an cdv ct,fd=Y1m x x (YC st) (YO st) (ZV st) .none kV doc pm an cdv ct
theorem ZD {K:Y00}{x:Str}{st:Stmt}{f:Addr}{oc:Value}{od an:Option Addr}{osl:Array (Option Value)}{kV doc pm cdv ct:Value}(a:Y0u K mainGlobals x=some (some (.ref f)))
  (l:K.lookup f=some ⟨oc,od,.func (Y1m x x (YC st) (YO st) (ZV st) .none kV doc pm an cdv ct),osl⟩) (c:Y30 K cdv x=true) (k:Y1p K (.ref f)=true):Raw K x st:=
 ⟨f,_,ZdZ l c k,a,kV,doc,pm,an,cdv,ct,rfl⟩
theorem Raw.fn {K:Y00}{h:Heap}{mg:Str->Option Value}{x:Str}{st:Stmt}{ps:List Str}(X:K.In h)(G:h.Ns mainGlobals mg)(R:Raw K x st)
  (b:∀ (kV doc pm:Value) (an:Option Addr) (cdv ct:Value) (us:List Value),us.length=ps.length->bindArgs (Y1m x x (YC st) (YO st) (ZV st) .none kV doc pm an cdv ct) ⟨us,[]⟩=pure (ps.zip us)):∃ f fd,Fn K mg x st ps f fd:=by
 obtain⟨f,fd,F,a,_⟩:=R;exact⟨f,fd,F,F.binds b,Y27 X G a⟩
theorem lk1 {p:Value->Value->Value->Option Addr->Value->Value->List Value->Prop}(h:∀ k l m n x y a,p k l m n x y [a]):∀ k l m n x y (us:List Value),us.length=1->p k l m n x y us:=fun k l m n x y us hl=>match us,hl with|[_],_=>h _ _ _ _ _ _ _
theorem lk2 {p:Value->Value->Value->Option Addr->Value->Value->List Value->Prop}(h:∀ k l m n x y a b,p k l m n x y [a,b]):∀ k l m n x y (us:List Value),us.length=2->p k l m n x y us:=fun k l m n x y us hl=>match us,hl with|[_,_],_=>h _ _ _ _ _ _ _ _
theorem lk3 {p:Value->Value->Value->Option Addr->Value->Value->List Value->Prop}(h:∀ k l m n x y a b c,p k l m n x y [a,b,c]):∀ k l m n x y (us:List Value),us.length=3->p k l m n x y us:=fun k l m n x y us hl=>match us,hl with|[_,_,_],_=>h _ _ _ _ _ _ _ _ _
theorem lk4 {p:Value->Value->Value->Option Addr->Value->Value->List Value->Prop}(h:∀ k l m n x y a b c d,p k l m n x y [a,b,c,d]):∀ k l m n x y (us:List Value),us.length=4->p k l m n x y us:=fun k l m n x y us hl=>match us,hl with|[_,_,_,_],_=>h _ _ _ _ _ _ _ _ _ _
theorem lk5 {p:Value->Value->Value->Option Addr->Value->Value->List Value->Prop}(h:∀ k l m n x y a b c d e,p k l m n x y [a,b,c,d,e]):∀ k l m n x y (us:List Value),us.length=5->p k l m n x y us:=fun k l m n x y us hl=>match us,hl with|[_,_,_,_,_],_=>h _ _ _ _ _ _ _ _ _ _ _
set_option maxHeartbeats 0 in
theorem Zhv {l:PySem.W.OpenLaw}{w:World}{K:Y00}{h:Heap}{mg:Str->Option Value}{fa:Addr}{w0d:Tok}{w0V:Tok}{w0D:Tok}{w1c:Addr}{w0K:Addr}{w0Q:Addr}{CT:Addr}{CW:Addr}{CL:Addr}{CY:Addr}{CN:Addr}{CP f_CP:Addr}(X:K.In h)(G:h.Ns mainGlobals mg)(hfa:mg "law"=some (.ref fa))
  (w1u:Raw K "size" TF)
  (w0W:Raw K "back_row" WW)
  (w0S:Raw K "is_whole" Wm)
  (w0r:Raw K "is_square" Tx)
  (w0o:Raw K "cycle_from" UK)
  (w1j:Raw K "cycles" WQ)
  (w19:Raw K "corners" UA)
  (w0R:Raw K "turn_row" Vy)
  (w08:Raw K "rough_squares" VI)
  (w1z:Raw K "rows" Tt)
  (w13:Raw K "borders" Uo)
  (w1k:Raw K "bands" V8)
  (w0E:Raw K "has_some" Wo)
  (w0v:Raw K "band_from" VC)
  (w0x:Raw K "above_all" VE)
  (w0s:Raw K "has_shift" VD)
  (w03:Raw K "common_divisor" VL)
  (w1b:Raw K "product" Ur)
  (w0j:Raw K "back_table" UO)
  (w18:Raw K "word_of" Vs)
  (w0y:Raw K "need_word" VF)
  (w0k:Raw K "need_table" Xk)
  (w0O:Raw K "is_table" Xz)
  (w1i:Raw K "shears" Ud)
  (w1s:Tc K "walk" Tw ["sheet","place","p","q","steps"] (.int 1))
  (w0q:Raw K "back_after" UM)
  (w0p:Raw K "need_place" VG)
  (w0z:Raw K "is_inside" UE)
  (w0P:Raw K "need_way" Vv)
  (w00:Raw K "need_straight_way" VM)
  (w1d:Raw K "walked" Vq)
  (w11:Raw K "unit_of" Ue)
  (w0J:Raw K "in_units" UD)
  (w0c:Raw K "is_at_corner" UP)
  (w17:Raw K "set_out" Uh)
  (w04:Raw K "ticks_to_side" US)
  (w15:Raw K "arrived" Up)
  (w10:Raw K "sheared" VA)
  (w1f:Raw K "turned" Ui)
  (w1q:Raw K "moved" T5)
  (w0l:Raw K "moved_once" UL)
  (w0B:Raw K "to_level" Uz)
  (w0e:Raw K "bands_along" Wu)
  (w02:Raw K "weights_to_one" UU)
  (w0b:Raw K "_law_cell_at" Vt)
  (w0n:Raw K "_law_whole" Vf)
  (w0h:Raw K "_law_spread" Uv)
  (w0H:Raw K "_law_row" Tz)
  (w06:Raw K "_law_together" W2)
  (w0i:Raw K "_law_sheet" V7)
  (w0g:Raw K "_law_row_by" T8)
  (w07:Raw K "_law_sheet_by" UG)
  (w0t:Raw K "_law_back" TQ)
  (w0I:Raw K "_law_gcd" Tv)
  (w0U:Raw K "_law_way" Tq)
  (w01:Raw K "_law_bands_are" VH)
  (w0u:Raw K "_law_path" T6)
  (w05:Raw K "_law_step_row" VB)
  (w0f:Raw K "_law_rounds" Uu)
  (w1a:Raw K "_law_at" Te)
  (w1V:Raw K "law" VT)
  (w0a:Y0u K mainGlobals "MOST_LETTERS"=some (some (.int 1000 w0d)))
  (w0F:Y0u K mainGlobals "GREATEST"=some (some (.int 60 w0V)))
  (w0M:Y0u K mainGlobals "FARTHEST"=some (some (.int 60 w0D)))
  (w2B:Y0u K mainGlobals "NoTable"=some (some (.ref CT))) (w2X:SZ K CT)
  (w2s:Y0u K mainGlobals "NoWord"=some (some (.ref CW))) (w2Q:SZ K CW)
  (w2t:Y0u K mainGlobals "NoPlace"=some (some (.ref CL))) (w25:SZ K CL)
  (w2E:Y0u K mainGlobals "NoWay"=some (some (.ref CY))) (w2p:SZ K CY)
  (w2w:Y0u K mainGlobals "NoNumber"=some (some (.ref CN))) (w2L:SZ K CN)
  (w2T:YT K CT)
  (w2M:YT K CW)
  (w28:YT K CN)
  (w2x:YT K CL)
  (w2i:YT K CY)
  (w2g:Y0u K mainGlobals "Part"=some (some (.ref CP))) (w2l:Zkc K CP) (w2e:∃ fd,PIn K CP f_CP fd)
  (w1p:Tg K CP "whole" "Part.whole" RB)
  (w1C:Tg K CP "plus" "Part.plus" Ru)
  (w0Z:Y0u K mainGlobals "LETTERS"=some (some (.ref w1c))) (w16:TDi l.prog w K w1c [(Sum.inr (Str.ofString "s"),(.ref w0K)),(Sum.inr (Str.ofString "t"),(.ref w0Q))])
  (w0L:TTu K w0K [1,1,0,1])
  (w0T:TTu K w0Q [0,-1,1,0])
  (w1M:Y0u K mainGlobals "len"=some none)
  (w1r:Y0u K mainGlobals "range"=some none)
  (w1F:Y0u K mainGlobals "list"=some none)
  (w1m:Y0u K mainGlobals "tuple"=some none)
  (w0m:Y0u K mainGlobals "isinstance"=some none)
  (w1O:Y0u K mainGlobals "int"=some none)
  (w1w:Y0u K mainGlobals "bool"=some none)
  (w1Z:Y0u K mainGlobals "all"=some none)
  (w20:Y0u K mainGlobals "set"=some none)
  (w1h:Y0u K mainGlobals "sorted"=some none)
  (w0w:Y0u K mainGlobals "enumerate"=some none)
  (w1I:Y0u K mainGlobals "min"=some none)
  (w22:Y0u K mainGlobals "any"=some none)
  (w1U:Y0u K mainGlobals "abs"=some none)
  (w1L:Y0u K mainGlobals "max"=some none)
  (w21:Y0u K mainGlobals "sum"=some none)
  : ∃ fd:FuncData,(∀ (s:Shared) (v:Value),BindsTo s fd ⟨[v],[]⟩ [("_law_script",v)])/\∀ base:Heap,K.In base->base.Ns mainGlobals mg->Z4 l.prog w K mg base CX0 12 fa fd ["_law_script"] (RQ K):=by
 have T:Bi mg:=⟨Y0x X G w1M,Y0x X G w1r,Y0x X G w1F,Y0x X G w1m,Y0x X G w0m,Y0x X G w1O,Y0x X G w1w,Y0x X G w1Z,Y0x X G w20,Y0x X G w1h,Y0x X G w0w⟩;have T_min:mg "min"=none:=Y0x X G w1I;have T_any:mg "any"=none:=Y0x X G w22;have T_abs:mg "abs"=none:=Y0x X G w1U;have T_max:mg "max"=none:=Y0x X G w1L;have T_sum:mg "sum"=none:=Y0x X G w21;have w09:=Y27 X G w0a;have w0C:=Y27 X G w0F;have w0N:=Y27 X G w0M;have w12:=Y27 X G w0Z;have w0Y:=w16;have w0G:=w0L;have w0A:=w0T;have w2z:=Y27 X G w2B;have w2q:=Y27 X G w2s;have w2a:=Y27 X G w2t;have w30:=Y27 X G w2E;have w2V:=Y27 X G w2w;have w2H:=w2l.tx (Y27 X G w2g);obtain⟨d_CP,I_CP⟩:=w2e;obtain⟨dV_CP,D_CP⟩:=I_CP.F;obtain⟨f_whole,d_whole,F_whole⟩:=w1p.fn (ps:=["self"]) (lk1 fun _ _ _ _ _ _ _=>rfl);obtain⟨f_plus,d_plus,F_plus⟩:=w1C.fn (ps:=["self","other"]) (lk2 fun _ _ _ _ _ _ _ _=>rfl);obtain⟨f_size,d_size,F_size⟩:=w1u.fn (ps:=["sheet"]) X G (lk1 fun _ _ _ _ _ _ _=>rfl);obtain⟨f_back_row,d_back_row,F_back_row⟩:=w0W.fn (ps:=["row"]) X G (lk1 fun _ _ _ _ _ _ _=>rfl);obtain⟨f_is_whole,d_is_whole,F_is_whole⟩:=w0S.fn (ps:=["thing"]) X G (lk1 fun _ _ _ _ _ _ _=>rfl);obtain⟨f_is_square,d_is_square,F_is_square⟩:=w0r.fn (ps:=["thing","squares"]) X G (lk2 fun _ _ _ _ _ _ _ _=>rfl);obtain⟨f_cycle_from,d_cycle_from,F_cycle_from⟩:=w0o.fn (ps:=["row","first"]) X G (lk2 fun _ _ _ _ _ _ _ _=>rfl);obtain⟨f_cycles,d_cycles,F_cycles⟩:=w1j.fn (ps:=["row"]) X G (lk1 fun _ _ _ _ _ _ _=>rfl);obtain⟨f_corners,d_corners,F_corners⟩:=w19.fn (ps:=["sheet"]) X G (lk1 fun _ _ _ _ _ _ _=>rfl);obtain⟨f_turn_row,d_turn_row,F_turn_row⟩:=w0R.fn (ps:=["sheet"]) X G (lk1 fun _ _ _ _ _ _ _=>rfl);obtain⟨f_rough_squares,d_rough_squares,F_rough_squares⟩:=w08.fn (ps:=["sheet"]) X G (lk1 fun _ _ _ _ _ _ _=>rfl);obtain⟨f_rows,d_rows,F_rows⟩:=w1z.fn (ps:=["sheet"]) X G (lk1 fun _ _ _ _ _ _ _=>rfl);obtain⟨f_borders,d_borders,F_borders⟩:=w13.fn (ps:=["sheet"]) X G (lk1 fun _ _ _ _ _ _ _=>rfl);obtain⟨f_bands,d_bands,F_bands⟩:=w1k.fn (ps:=["sheet"]) X G (lk1 fun _ _ _ _ _ _ _=>rfl);obtain⟨f_has_some,d_has_some,F_has_some⟩:=w0E.fn (ps:=["edge","squares"]) X G (lk2 fun _ _ _ _ _ _ _ _=>rfl);obtain⟨f_band_from,d_band_from,F_band_from⟩:=w0v.fn (ps:=["sheet","edge","lowest"]) X G (lk3 fun _ _ _ _ _ _ _ _ _=>rfl);obtain⟨f_above_all,d_above_all,F_above_all⟩:=w0x.fn (ps:=["sheet","squares"]) X G (lk2 fun _ _ _ _ _ _ _ _=>rfl);obtain⟨f_has_shift,d_has_shift,F_has_shift⟩:=w0s.fn (ps:=["edge","lowest","above","t"]) X G (lk4 fun _ _ _ _ _ _ _ _ _ _=>rfl);obtain⟨f_common_divisor,d_common_divisor,F_common_divisor⟩:=w03.fn (ps:=["one","other"]) X G (lk2 fun _ _ _ _ _ _ _ _=>rfl);obtain⟨f_product,d_product,F_product⟩:=w1b.fn (ps:=["one","other"]) X G (lk2 fun _ _ _ _ _ _ _ _=>rfl);obtain⟨f_back_table,d_back_table,F_back_table⟩:=w0j.fn (ps:=["table"]) X G (lk1 fun _ _ _ _ _ _ _=>rfl);obtain⟨f_word_of,d_word_of,F_word_of⟩:=w18.fn (ps:=["table"]) X G (lk1 fun _ _ _ _ _ _ _=>rfl);obtain⟨f_need_word,d_need_word,F_need_word⟩:=w0y.fn (ps:=["word"]) X G (lk1 fun _ _ _ _ _ _ _=>rfl);obtain⟨f_need_table,d_need_table,F_need_table⟩:=w0k.fn (ps:=["thing"]) X G (lk1 fun _ _ _ _ _ _ _=>rfl);obtain⟨f_is_table,d_is_table,F_is_table⟩:=w0O.fn (ps:=["thing"]) X G (lk1 fun _ _ _ _ _ _ _=>rfl);obtain⟨f_shears,d_shears,F_shears⟩:=w1i.fn (ps:=["many"]) X G (lk1 fun _ _ _ _ _ _ _=>rfl);obtain⟨f_walk,d_walk,v_walk,F_walk⟩:=w1s.fn X G;obtain⟨f_back_after,d_back_after,F_back_after⟩:=w0q.fn (ps:=["sheet","place","p","q"]) X G (lk4 fun _ _ _ _ _ _ _ _ _ _=>rfl);obtain⟨f_need_place,d_need_place,F_need_place⟩:=w0p.fn (ps:=["sheet","place"]) X G (lk2 fun _ _ _ _ _ _ _ _=>rfl);obtain⟨f_is_inside,d_is_inside,F_is_inside⟩:=w0z.fn (ps:=["part"]) X G (lk1 fun _ _ _ _ _ _ _=>rfl);obtain⟨f_need_way,d_need_way,F_need_way⟩:=w0P.fn (ps:=["p","q"]) X G (lk2 fun _ _ _ _ _ _ _ _=>rfl);obtain⟨f_need_straight_way,d_need_straight_way,F_need_straight_way⟩:=w00.fn (ps:=["p","q"]) X G (lk2 fun _ _ _ _ _ _ _ _=>rfl);obtain⟨f_walked,d_walked,F_walked⟩:=w1d.fn (ps:=["sheet","place","p","q","steps"]) X G (lk5 fun _ _ _ _ _ _ _ _ _ _ _=>rfl);obtain⟨f_unit_of,d_unit_of,F_unit_of⟩:=w11.fn (ps:=["place","p","q"]) X G (lk3 fun _ _ _ _ _ _ _ _ _=>rfl);obtain⟨f_in_units,d_in_units,F_in_units⟩:=w0J.fn (ps:=["part","unit"]) X G (lk2 fun _ _ _ _ _ _ _ _=>rfl);obtain⟨f_is_at_corner,d_is_at_corner,F_is_at_corner⟩:=w0c.fn (ps:=["spot","rough"]) X G (lk2 fun _ _ _ _ _ _ _ _=>rfl);obtain⟨f_set_out,d_set_out,F_set_out⟩:=w17.fn (ps:=["spot","p","q","back","unit"]) X G (lk5 fun _ _ _ _ _ _ _ _ _ _ _=>rfl);obtain⟨f_ticks_to_side,d_ticks_to_side,F_ticks_to_side⟩:=w04.fn (ps:=["at","speed","unit"]) X G (lk3 fun _ _ _ _ _ _ _ _ _=>rfl);obtain⟨f_arrived,d_arrived,F_arrived⟩:=w15.fn (ps:=["spot","sheet","unit"]) X G (lk3 fun _ _ _ _ _ _ _ _ _=>rfl);obtain⟨f_sheared,d_sheared,F_sheared⟩:=w10.fn (ps:=["sheet"]) X G (lk1 fun _ _ _ _ _ _ _=>rfl);obtain⟨f_turned,d_turned,F_turned⟩:=w1f.fn (ps:=["sheet"]) X G (lk1 fun _ _ _ _ _ _ _=>rfl);obtain⟨f_moved,d_moved,F_moved⟩:=w1q.fn (ps:=["sheet","word"]) X G (lk2 fun _ _ _ _ _ _ _ _=>rfl);obtain⟨f_moved_once,d_moved_once,F_moved_once⟩:=w0l.fn (ps:=["sheet","letter"]) X G (lk2 fun _ _ _ _ _ _ _ _=>rfl);obtain⟨f_to_level,d_to_level,F_to_level⟩:=w0B.fn (ps:=["p","q"]) X G (lk2 fun _ _ _ _ _ _ _ _=>rfl);obtain⟨f_bands_along,d_bands_along,F_bands_along⟩:=w0e.fn (ps:=["sheet","p","q"]) X G (lk3 fun _ _ _ _ _ _ _ _ _=>rfl);obtain⟨f_weights_to_one,d_weights_to_one,F_weights_to_one⟩:=w02.fn (ps:=["p","q"]) X G (lk2 fun _ _ _ _ _ _ _ _=>rfl);obtain⟨f__law_cell_at,d__law_cell_at,F__law_cell_at⟩:=w0b.fn (ps:=["_law_script","_law_k"]) X G (lk2 fun _ _ _ _ _ _ _ _=>rfl);obtain⟨f__law_whole,d__law_whole,F__law_whole⟩:=w0n.fn (ps:=["_law_found"]) X G (lk1 fun _ _ _ _ _ _ _=>rfl);obtain⟨f__law_spread,d__law_spread,F__law_spread⟩:=w0h.fn (ps:=["_law_script","_law_k"]) X G (lk2 fun _ _ _ _ _ _ _ _=>rfl);obtain⟨f__law_row,d__law_row,F__law_row⟩:=w0H.fn (ps:=["_law_cells"]) X G (lk1 fun _ _ _ _ _ _ _=>rfl);obtain⟨f__law_together,d__law_together,F__law_together⟩:=w06.fn (ps:=["_law_right","_law_up"]) X G (lk2 fun _ _ _ _ _ _ _ _=>rfl);obtain⟨f__law_sheet,d__law_sheet,F__law_sheet⟩:=w0i.fn (ps:=["_law_script","_law_at_here","_law_many"]) X G (lk3 fun _ _ _ _ _ _ _ _ _=>rfl);obtain⟨f__law_row_by,d__law_row_by,F__law_row_by⟩:=w0g.fn (ps:=["_law_cell","_law_many"]) X G (lk2 fun _ _ _ _ _ _ _ _=>rfl);obtain⟨f__law_sheet_by,d__law_sheet_by,F__law_sheet_by⟩:=w07.fn (ps:=["_law_script","_law_many"]) X G (lk2 fun _ _ _ _ _ _ _ _=>rfl);obtain⟨f__law_back,d__law_back,F__law_back⟩:=w0t.fn (ps:=["_law_row_here"]) X G (lk1 fun _ _ _ _ _ _ _=>rfl);obtain⟨f__law_gcd,d__law_gcd,F__law_gcd⟩:=w0I.fn (ps:=["_law_one","_law_other"]) X G (lk2 fun _ _ _ _ _ _ _ _=>rfl);obtain⟨f__law_way,d__law_way,F__law_way⟩:=w0U.fn (ps:=["_law_one","_law_other","_law_most"]) X G (lk3 fun _ _ _ _ _ _ _ _ _=>rfl);obtain⟨f__law_bands_are,d__law_bands_are,F__law_bands_are⟩:=w01.fn (ps:=["_law_found","_law_many"]) X G (lk2 fun _ _ _ _ _ _ _ _=>rfl);obtain⟨f__law_path,d__law_path,F__law_path⟩:=w0u.fn (ps:=["_law_p","_law_q","_law_x","_law_y","_law_full"]) X G (lk5 fun _ _ _ _ _ _ _ _ _ _ _=>rfl);obtain⟨f__law_step_row,d__law_step_row,F__law_step_row⟩:=w05.fn (ps:=["_law_sheet_here","_law_path_here"]) X G (lk2 fun _ _ _ _ _ _ _ _=>rfl);obtain⟨f__law_rounds,d__law_rounds,F__law_rounds⟩:=w0f.fn (ps:=["_law_row_here"]) X G (lk1 fun _ _ _ _ _ _ _=>rfl);obtain⟨f__law_at,d__law_at,F__law_at⟩:=w1a.fn (ps:=["_law_end","_law_square","_law_x","_law_y"]) X G (lk4 fun _ _ _ _ _ _ _ _ _ _=>rfl);obtain⟨fL,dL,FL,aL,kV,doc,pm,an,cdv,ct,eL⟩:=w1V;have bL:=FL.binds (ps:=["_law_script"]) (lk1 fun _ _ _ _ _ _ _=>rfl);have e:=hfa.symm.trans (Y27 X G aL);cases e;refine⟨dL,fun s v=>?_,fun base _ _=>?_⟩
 ·subst eL;exact .of_eq rfl
 ·have F_law:Fn K mg "law" VT ["_law_script"] fa dL:=⟨FL,bL,Y27 X G aL⟩;have X0:=w0G;have w1B:=Zdi (P:=l.prog) (w:=w) (base:=base) T F__law_cell_at;have w1l:=ZcD (P:=l.prog) (w:=w) (base:=base) T F__law_whole;have w1G:=Zjy (P:=l.prog) (w:=w) (base:=base) T F__law_spread;have w1N:=Zjt (P:=l.prog) (w:=w) (base:=base) T F__law_row;have w29:=Zk5 (P:=l.prog) (w:=w) (base:=base) T F__law_together;have w1o:=Zji T F__law_sheet F__law_spread w1G F__law_row w1N F__law_together w29;have w1t:=Z9A (P:=l.prog) (w:=w) (base:=base) T F_back_row;have w1T:=Zg9 T F_sheared F_back_row w1t;have w1X:=Zgb F_turned F_back_row w1t;have w2A:=Zkv F_moved_once F_sheared w1T F_turned w1X;have w2G:=ZkK (P:=l.prog) (w:=w) (base:=base) T w2M w2q w12 w0Y w09 F_need_word;have w2Z:=Zjw F_moved F_need_word w2G F_moved_once w2A;have w2d:=ZaJ (P:=l.prog) (w:=w) (base:=base) T F_is_whole;have w2C:=Zje T F_is_table F_is_whole w2d;have w2D:=ZjY F_need_table F_is_table w2C;have w2S:=Zk2 F_product F_need_table w2D;have w1P:=Zic T F_is_table F_is_whole w2d;have w1S:=ZiL w2T w2z F_need_table F_is_table w1P;have w2I:=Zjc F_back_table F_need_table w2D;have w2r:=ZjT (P:=l.prog) (w:=w) (base:=base) F_shears;have w2J:=Zkj T_abs T_max w2T w2z w12 w0Y w0A w0C F_word_of F_need_table w1S F_shears w2r F_product w2S F_back_table w2I;have w2k:=Zk8 (P:=l.prog) (w:=w) (base:=base) T_abs F_common_divisor;have w2b:=ZiY (P:=l.prog) (w:=w) (base:=base) F_weights_to_one;have w23:=Zge (P:=l.prog) (w:=w) (base:=base) T_abs w2i w30 w0N F_need_way;have w1Q:=Zgf w2i w30 F_need_straight_way F_need_way w23 F_common_divisor w2k;have w26:=ZgQ F_to_level F_need_straight_way w1Q F_weights_to_one w2b;have w2R:=ZjP (P:=l.prog) (w:=w) (base:=base) T_abs F__law_gcd;have w2u:=ZjW F__law_way F__law_gcd w2R;have w1D:=ZfO F_turn_row F_back_row w1t;have w1W:=ZeO (P:=l.prog) (w:=w) (base:=base) F_cycle_from;have w1e:=Z9K T T_min F_cycles F_cycle_from w1W;have w0X:=Z9x F_corners F_turn_row w1D F_cycles w1e;have w1g:=Zar T F_rough_squares F_corners w0X;have w1n:=ZaB w1g;have w14:=Z9F T F_borders F_rough_squares w1n;have w1x:=ZjI F_rows F_cycles w1e;have w2O:=Zjv (P:=l.prog) (w:=w) (base:=base) T T_any F_has_some;have w2P:=Zjk (P:=l.prog) (w:=w) (base:=base) T F_above_all;have w2W:=ZjC (P:=l.prog) (w:=w) (base:=base) T T_any F_has_shift;have w2v:=Zkw T F_band_from F_above_all w2P F_has_some w2O F_has_shift w2W;have w24:=Zjp T F_bands F_borders w14 F_rows w1x F_has_some w2O F_band_from w2v;have w1J:=ZgH T F_bands_along F_moved w2Z F_word_of w2J F_to_level w26 F_bands w24;have w1H:=Zir T F__law_bands_are F__law_whole w1l;have w2c:=Zit (P:=l.prog) (w:=w) (base:=base) T F__law_row_by;have w2h:=ZgX F__law_sheet_by F__law_together w29 F__law_row_by w2c F__law_cell_at w1B;have w1E:=Zfb w2H w28 w2V D_CP F_common_divisor w2k;have w1R:=Zhi (P:=l.prog) (w:=w) (base:=base) w2H F_whole;have w1A:=ZfB (P:=l.prog) (w:=w) (base:=base) T F_size;have w1y:=Zfe (P:=l.prog) (w:=w) (base:=base) T F_is_square F_is_whole;have w2o:=ZhX w2H F_whole w1R F_is_inside;have w2y:=ZgB w2x w2a F_need_place F_is_square w1y F_size w1A F_is_inside w2o;have w2K:=Zii (P:=l.prog) (w:=w) (base:=base) w2H T_abs T_max F_unit_of;have w2j:=ZiC (P:=l.prog) (w:=w) (base:=base) w2H F_in_units;have w2f:=ZhU (P:=l.prog) (w:=w) (base:=base) F_is_at_corner;have w32:=ZgS (P:=l.prog) (w:=w) (base:=base) F_set_out;have w2n:=Zi7 (P:=l.prog) (w:=w) (base:=base) F_ticks_to_side;have w2N:=Zi8 (P:=l.prog) (w:=w) (base:=base) F_arrived;have w1Y:=ZgP T w2H T_min I_CP.M I_CP.b w1E F_walked F_unit_of w2K F_rough_squares w1g F_back_row w1t F_in_units w2j F_is_at_corner w2f F_set_out w32 F_ticks_to_side w2n F_arrived w2N;have w2m:=Zgw F_walk F_need_place w2y F_need_way w23 F_walked w1Y;have J:=I_CP.b1.choose_spec;have w1v:=Zfa w2H I_CP.M I_CP.b w1E F_plus;have w1K:=ZgY w2H I_CP.M J w1E F_plus w1v F_back_after F_need_place w2y F_need_straight_way w1Q F_walked w1Y;have w2U:=ZkC (P:=l.prog) (w:=w) (base:=base) T F__law_back;have w2F:=Zgj (P:=l.prog) (w:=w) (base:=base) T T_abs F__law_path;have w2Y:=Zgi T F__law_step_row F__law_back w2U;have w31:=Zho (P:=l.prog) (w:=w) (base:=base) T F__law_rounds;have w27:=ZhT (P:=l.prog) (w:=w) (base:=base) T w2H F__law_at;exact Zgr T T_sum w2H I_CP.M I_CP.b w1E F_walk w2m F_law F__law_cell_at w1B F__law_sheet w1o F__law_sheet_by w2h F__law_way w2u F_bands_along w1J F__law_bands_are w1H F__law_step_row w2Y F__law_path w2F F__law_rounds w31 F_back_after w1K F__law_whole w1l F__law_at w27
theorem walk {l:PySem.W.OpenLaw}{q:Program}{loose:List Str}{XP:(Str->Option Value)->Heap->Prop}{YP:World->Heap->Prop}{d:DefRec}{K:Params->Y00}(hn:l.most=some 63)(hdf:d.params.defaults=[])
  (hY:∀ (w:World) (h:Heap),YP w h->(K w.params).In h)
  (F:∀ (w:World) (mg:Str->Option Value) (fa:Addr) (h:Heap),(K w.params).In h->h.Ns mainGlobals mg->mg d.name=some (.ref fa)->
   ∃ fd:FuncData,(∀ (s:Shared) (u:Value),BindsTo s fd ⟨[u],[]⟩ [("_law_script",u)])/\∀ base:Heap,(K w.params).In base->base.Ns mainGlobals mg->Z4 l.prog w (K w.params) mg base CX0 12 fa fd ["_law_script"] (RQ (K w.params))) :
  PySem.W.WalkO q loose XP YP l.row.toRowW d [] (fun f vs=>PySem.call f vs):=
 L2.ZeM (n:=63) (k:=12) (x:="_law_script") (CX:=fun _=>CX0) (sp:=fun w=>RQ (K w.params)) hn (by decide) hdf ⟨rfl,by decide,by decide⟩ hY F (fun _ _ a ns hl _ hS=>⟨a,ns,rfl,hS,fun _=>rfl⟩) fun _ _ _ _ _ z=>z
end K1
open PySem PySem.W PyProof.Rows
set_option maxRecDepth 100000 in
set_option maxHeartbeats 0 in
theorem PySem.Challenge.cw_squaresheet_k63_whole_bands_by_walking_holds : PySem.Challenge.rw_squaresheet_k63_whole_bands_by_walking.Holds := by
 w_on;o_law;k_head;(case hw=>w_witness2)
 k_fill
 refine K1.walk (l:=PySem.Challenge.rw_squaresheet_k63_whole_bands_by_walking) rfl rfl (fun w h Y=>PySem.W.kIn_of Y) ?F
 case F=>
  intro w mg fa h KX G hmg;have w1u:K1.Raw (L2.KOf KX) "size" K1.TF:=by
   dsimp only [L2.KOf];refine' K1.ZD ?a ?l ?c ?k
   (case a=>k_is);(case l=>k_is);(case c=>k_is);(case k=>k_is)
  have w0W:K1.Raw (L2.KOf KX) "back_row" K1.WW:=by
   dsimp only [L2.KOf];refine' K1.ZD ?a ?l ?c ?k
   (case a=>k_is);(case l=>k_is);(case c=>k_is);(case k=>k_is)
  have w0S:K1.Raw (L2.KOf KX) "is_whole" K1.Wm:=by
   dsimp only [L2.KOf];refine' K1.ZD ?a ?l ?c ?k
   (case a=>k_is);(case l=>k_is);(case c=>k_is);(case k=>k_is)
  have w0r:K1.Raw (L2.KOf KX) "is_square" K1.Tx:=by
   dsimp only [L2.KOf];refine' K1.ZD ?a ?l ?c ?k
   (case a=>k_is);(case l=>k_is);(case c=>k_is);(case k=>k_is)
  have w0o:K1.Raw (L2.KOf KX) "cycle_from" K1.UK:=by
   dsimp only [L2.KOf];refine' K1.ZD ?a ?l ?c ?k
   (case a=>k_is);(case l=>k_is);(case c=>k_is);(case k=>k_is)
  have w1j:K1.Raw (L2.KOf KX) "cycles" K1.WQ:=by
   dsimp only [L2.KOf];refine' K1.ZD ?a ?l ?c ?k
   (case a=>k_is);(case l=>k_is);(case c=>k_is);(case k=>k_is)
  have w19:K1.Raw (L2.KOf KX) "corners" K1.UA:=by
   dsimp only [L2.KOf];refine' K1.ZD ?a ?l ?c ?k
   (case a=>k_is);(case l=>k_is);(case c=>k_is);(case k=>k_is)
  have w0R:K1.Raw (L2.KOf KX) "turn_row" K1.Vy:=by
   dsimp only [L2.KOf];refine' K1.ZD ?a ?l ?c ?k
   (case a=>k_is);(case l=>k_is);(case c=>k_is);(case k=>k_is)
  have w08:K1.Raw (L2.KOf KX) "rough_squares" K1.VI:=by
   dsimp only [L2.KOf];refine' K1.ZD ?a ?l ?c ?k
   (case a=>k_is);(case l=>k_is);(case c=>k_is);(case k=>k_is)
  have w1z:K1.Raw (L2.KOf KX) "rows" K1.Tt:=by
   dsimp only [L2.KOf];refine' K1.ZD ?a ?l ?c ?k
   (case a=>k_is);(case l=>k_is);(case c=>k_is);(case k=>k_is)
  have w13:K1.Raw (L2.KOf KX) "borders" K1.Uo:=by
   dsimp only [L2.KOf];refine' K1.ZD ?a ?l ?c ?k
   (case a=>k_is);(case l=>k_is);(case c=>k_is);(case k=>k_is)
  have w1k:K1.Raw (L2.KOf KX) "bands" K1.V8:=by
   dsimp only [L2.KOf];refine' K1.ZD ?a ?l ?c ?k
   (case a=>k_is);(case l=>k_is);(case c=>k_is);(case k=>k_is)
  have w0E:K1.Raw (L2.KOf KX) "has_some" K1.Wo:=by
   dsimp only [L2.KOf];refine' K1.ZD ?a ?l ?c ?k
   (case a=>k_is);(case l=>k_is);(case c=>k_is);(case k=>k_is)
  have w0v:K1.Raw (L2.KOf KX) "band_from" K1.VC:=by
   dsimp only [L2.KOf];refine' K1.ZD ?a ?l ?c ?k
   (case a=>k_is);(case l=>k_is);(case c=>k_is);(case k=>k_is)
  have w0x:K1.Raw (L2.KOf KX) "above_all" K1.VE:=by
   dsimp only [L2.KOf];refine' K1.ZD ?a ?l ?c ?k
   (case a=>k_is);(case l=>k_is);(case c=>k_is);(case k=>k_is)
  have w0s:K1.Raw (L2.KOf KX) "has_shift" K1.VD:=by
   dsimp only [L2.KOf];refine' K1.ZD ?a ?l ?c ?k
   (case a=>k_is);(case l=>k_is);(case c=>k_is);(case k=>k_is)
  have w03:K1.Raw (L2.KOf KX) "common_divisor" K1.VL:=by
   dsimp only [L2.KOf];refine' K1.ZD ?a ?l ?c ?k
   (case a=>k_is);(case l=>k_is);(case c=>k_is);(case k=>k_is)
  have w1b:K1.Raw (L2.KOf KX) "product" K1.Ur:=by
   dsimp only [L2.KOf];refine' K1.ZD ?a ?l ?c ?k
   (case a=>k_is);(case l=>k_is);(case c=>k_is);(case k=>k_is)
  have w0j:K1.Raw (L2.KOf KX) "back_table" K1.UO:=by
   dsimp only [L2.KOf];refine' K1.ZD ?a ?l ?c ?k
   (case a=>k_is);(case l=>k_is);(case c=>k_is);(case k=>k_is)
  have w18:K1.Raw (L2.KOf KX) "word_of" K1.Vs:=by
   dsimp only [L2.KOf];refine' K1.ZD ?a ?l ?c ?k
   (case a=>k_is);(case l=>k_is);(case c=>k_is);(case k=>k_is)
  have w0y:K1.Raw (L2.KOf KX) "need_word" K1.VF:=by
   dsimp only [L2.KOf];refine' K1.ZD ?a ?l ?c ?k
   (case a=>k_is);(case l=>k_is);(case c=>k_is);(case k=>k_is)
  have w0k:K1.Raw (L2.KOf KX) "need_table" K1.Xk:=by
   dsimp only [L2.KOf];refine' K1.ZD ?a ?l ?c ?k
   (case a=>k_is);(case l=>k_is);(case c=>k_is);(case k=>k_is)
  have w0O:K1.Raw (L2.KOf KX) "is_table" K1.Xz:=by
   dsimp only [L2.KOf];refine' K1.ZD ?a ?l ?c ?k
   (case a=>k_is);(case l=>k_is);(case c=>k_is);(case k=>k_is)
  have w1i:K1.Raw (L2.KOf KX) "shears" K1.Ud:=by
   dsimp only [L2.KOf];refine' K1.ZD ?a ?l ?c ?k
   (case a=>k_is);(case l=>k_is);(case c=>k_is);(case k=>k_is)
  have w1s:L2.Tc (L2.KOf KX) "walk" K1.Tw ["sheet","place","p","q","steps"] (.int 1):=by
   dsimp only [L2.KOf];refine' L2.Zd7 ?a ?l ?c ?k ?t ?r ?b2 ?b1
   (case a=>k_is);(case l=>k_is);(case c=>k_is);(case k=>k_is);(case t=>k_is);(case r=>exact⟨_,rfl⟩)
   (case b2=>intro s hK y0 y1 y2 y3 y4;exact Y4z hK rfl (by k_is) rfl rfl rfl);(case b1=>intro s hK y0 y1 y2 y3;exact Y4z hK rfl (by k_is) rfl rfl rfl)
  have w0q:K1.Raw (L2.KOf KX) "back_after" K1.UM:=by
   dsimp only [L2.KOf];refine' K1.ZD ?a ?l ?c ?k
   (case a=>k_is);(case l=>k_is);(case c=>k_is);(case k=>k_is)
  have w0p:K1.Raw (L2.KOf KX) "need_place" K1.VG:=by
   dsimp only [L2.KOf];refine' K1.ZD ?a ?l ?c ?k
   (case a=>k_is);(case l=>k_is);(case c=>k_is);(case k=>k_is)
  have w0z:K1.Raw (L2.KOf KX) "is_inside" K1.UE:=by
   dsimp only [L2.KOf];refine' K1.ZD ?a ?l ?c ?k
   (case a=>k_is);(case l=>k_is);(case c=>k_is);(case k=>k_is)
  have w0P:K1.Raw (L2.KOf KX) "need_way" K1.Vv:=by
   dsimp only [L2.KOf];refine' K1.ZD ?a ?l ?c ?k
   (case a=>k_is);(case l=>k_is);(case c=>k_is);(case k=>k_is)
  have w00:K1.Raw (L2.KOf KX) "need_straight_way" K1.VM:=by
   dsimp only [L2.KOf];refine' K1.ZD ?a ?l ?c ?k
   (case a=>k_is);(case l=>k_is);(case c=>k_is);(case k=>k_is)
  have w1d:K1.Raw (L2.KOf KX) "walked" K1.Vq:=by
   dsimp only [L2.KOf];refine' K1.ZD ?a ?l ?c ?k
   (case a=>k_is);(case l=>k_is);(case c=>k_is);(case k=>k_is)
  have w11:K1.Raw (L2.KOf KX) "unit_of" K1.Ue:=by
   dsimp only [L2.KOf];refine' K1.ZD ?a ?l ?c ?k
   (case a=>k_is);(case l=>k_is);(case c=>k_is);(case k=>k_is)
  have w0J:K1.Raw (L2.KOf KX) "in_units" K1.UD:=by
   dsimp only [L2.KOf];refine' K1.ZD ?a ?l ?c ?k
   (case a=>k_is);(case l=>k_is);(case c=>k_is);(case k=>k_is)
  have w0c:K1.Raw (L2.KOf KX) "is_at_corner" K1.UP:=by
   dsimp only [L2.KOf];refine' K1.ZD ?a ?l ?c ?k
   (case a=>k_is);(case l=>k_is);(case c=>k_is);(case k=>k_is)
  have w17:K1.Raw (L2.KOf KX) "set_out" K1.Uh:=by
   dsimp only [L2.KOf];refine' K1.ZD ?a ?l ?c ?k
   (case a=>k_is);(case l=>k_is);(case c=>k_is);(case k=>k_is)
  have w04:K1.Raw (L2.KOf KX) "ticks_to_side" K1.US:=by
   dsimp only [L2.KOf];refine' K1.ZD ?a ?l ?c ?k
   (case a=>k_is);(case l=>k_is);(case c=>k_is);(case k=>k_is)
  have w15:K1.Raw (L2.KOf KX) "arrived" K1.Up:=by
   dsimp only [L2.KOf];refine' K1.ZD ?a ?l ?c ?k
   (case a=>k_is);(case l=>k_is);(case c=>k_is);(case k=>k_is)
  have w10:K1.Raw (L2.KOf KX) "sheared" K1.VA:=by
   dsimp only [L2.KOf];refine' K1.ZD ?a ?l ?c ?k
   (case a=>k_is);(case l=>k_is);(case c=>k_is);(case k=>k_is)
  have w1f:K1.Raw (L2.KOf KX) "turned" K1.Ui:=by
   dsimp only [L2.KOf];refine' K1.ZD ?a ?l ?c ?k
   (case a=>k_is);(case l=>k_is);(case c=>k_is);(case k=>k_is)
  have w1q:K1.Raw (L2.KOf KX) "moved" K1.T5:=by
   dsimp only [L2.KOf];refine' K1.ZD ?a ?l ?c ?k
   (case a=>k_is);(case l=>k_is);(case c=>k_is);(case k=>k_is)
  have w0l:K1.Raw (L2.KOf KX) "moved_once" K1.UL:=by
   dsimp only [L2.KOf];refine' K1.ZD ?a ?l ?c ?k
   (case a=>k_is);(case l=>k_is);(case c=>k_is);(case k=>k_is)
  have w0B:K1.Raw (L2.KOf KX) "to_level" K1.Uz:=by
   dsimp only [L2.KOf];refine' K1.ZD ?a ?l ?c ?k
   (case a=>k_is);(case l=>k_is);(case c=>k_is);(case k=>k_is)
  have w0e:K1.Raw (L2.KOf KX) "bands_along" K1.Wu:=by
   dsimp only [L2.KOf];refine' K1.ZD ?a ?l ?c ?k
   (case a=>k_is);(case l=>k_is);(case c=>k_is);(case k=>k_is)
  have w02:K1.Raw (L2.KOf KX) "weights_to_one" K1.UU:=by
   dsimp only [L2.KOf];refine' K1.ZD ?a ?l ?c ?k
   (case a=>k_is);(case l=>k_is);(case c=>k_is);(case k=>k_is)
  have w0b:K1.Raw (L2.KOf KX) "_law_cell_at" K1.Vt:=by
   dsimp only [L2.KOf];refine' K1.ZD ?a ?l ?c ?k
   (case a=>k_is);(case l=>k_is);(case c=>k_is);(case k=>k_is)
  have w0n:K1.Raw (L2.KOf KX) "_law_whole" K1.Vf:=by
   dsimp only [L2.KOf];refine' K1.ZD ?a ?l ?c ?k
   (case a=>k_is);(case l=>k_is);(case c=>k_is);(case k=>k_is)
  have w0h:K1.Raw (L2.KOf KX) "_law_spread" K1.Uv:=by
   dsimp only [L2.KOf];refine' K1.ZD ?a ?l ?c ?k
   (case a=>k_is);(case l=>k_is);(case c=>k_is);(case k=>k_is)
  have w0H:K1.Raw (L2.KOf KX) "_law_row" K1.Tz:=by
   dsimp only [L2.KOf];refine' K1.ZD ?a ?l ?c ?k
   (case a=>k_is);(case l=>k_is);(case c=>k_is);(case k=>k_is)
  have w06:K1.Raw (L2.KOf KX) "_law_together" K1.W2:=by
   dsimp only [L2.KOf];refine' K1.ZD ?a ?l ?c ?k
   (case a=>k_is);(case l=>k_is);(case c=>k_is);(case k=>k_is)
  have w0i:K1.Raw (L2.KOf KX) "_law_sheet" K1.V7:=by
   dsimp only [L2.KOf];refine' K1.ZD ?a ?l ?c ?k
   (case a=>k_is);(case l=>k_is);(case c=>k_is);(case k=>k_is)
  have w0g:K1.Raw (L2.KOf KX) "_law_row_by" K1.T8:=by
   dsimp only [L2.KOf];refine' K1.ZD ?a ?l ?c ?k
   (case a=>k_is);(case l=>k_is);(case c=>k_is);(case k=>k_is)
  have w07:K1.Raw (L2.KOf KX) "_law_sheet_by" K1.UG:=by
   dsimp only [L2.KOf];refine' K1.ZD ?a ?l ?c ?k
   (case a=>k_is);(case l=>k_is);(case c=>k_is);(case k=>k_is)
  have w0t:K1.Raw (L2.KOf KX) "_law_back" K1.TQ:=by
   dsimp only [L2.KOf];refine' K1.ZD ?a ?l ?c ?k
   (case a=>k_is);(case l=>k_is);(case c=>k_is);(case k=>k_is)
  have w0I:K1.Raw (L2.KOf KX) "_law_gcd" K1.Tv:=by
   dsimp only [L2.KOf];refine' K1.ZD ?a ?l ?c ?k
   (case a=>k_is);(case l=>k_is);(case c=>k_is);(case k=>k_is)
  have w0U:K1.Raw (L2.KOf KX) "_law_way" K1.Tq:=by
   dsimp only [L2.KOf];refine' K1.ZD ?a ?l ?c ?k
   (case a=>k_is);(case l=>k_is);(case c=>k_is);(case k=>k_is)
  have w01:K1.Raw (L2.KOf KX) "_law_bands_are" K1.VH:=by
   dsimp only [L2.KOf];refine' K1.ZD ?a ?l ?c ?k
   (case a=>k_is);(case l=>k_is);(case c=>k_is);(case k=>k_is)
  have w0u:K1.Raw (L2.KOf KX) "_law_path" K1.T6:=by
   dsimp only [L2.KOf];refine' K1.ZD ?a ?l ?c ?k
   (case a=>k_is);(case l=>k_is);(case c=>k_is);(case k=>k_is)
  have w05:K1.Raw (L2.KOf KX) "_law_step_row" K1.VB:=by
   dsimp only [L2.KOf];refine' K1.ZD ?a ?l ?c ?k
   (case a=>k_is);(case l=>k_is);(case c=>k_is);(case k=>k_is)
  have w0f:K1.Raw (L2.KOf KX) "_law_rounds" K1.Uu:=by
   dsimp only [L2.KOf];refine' K1.ZD ?a ?l ?c ?k
   (case a=>k_is);(case l=>k_is);(case c=>k_is);(case k=>k_is)
  have w1a:K1.Raw (L2.KOf KX) "_law_at" K1.Te:=by
   dsimp only [L2.KOf];refine' K1.ZD ?a ?l ?c ?k
   (case a=>k_is);(case l=>k_is);(case c=>k_is);(case k=>k_is)
  have w1V:K1.Raw (L2.KOf KX) "law" K1.VT:=by
   dsimp only [L2.KOf];refine' K1.ZD ?a ?l ?c ?k
   (case a=>k_is);(case l=>k_is);(case c=>k_is);(case k=>k_is)
  refine' K1.Zhv KX G hmg w1u w0W w0S w0r w0o w1j w19 w0R w08 w1z w13 w1k w0E w0v w0x w0s w03 w1b w0j w18 w0y w0k w0O w1i w1s w0q w0p w0z w0P w00 w1d w11 w0J w0c w17 w04 w15 w10 w1f w1q w0l w0B w0e w02 w0b w0n w0h w0H w06 w0i w0g w07 w0t w0I w0U w01 w0u w05 w0f w1a w1V ?w0a ?w0F ?w0M ?w2B ?w2X ?w2s ?w2Q ?w2t ?w25 ?w2E ?w2p ?w2w ?w2L ?w2T ?w2M ?w28 ?w2x ?w2i ?w2g ?w2l ?w2e ?w1p ?w1C ?w0Z ?w16 ?w0L ?w0T ?w1M ?w1r ?w1F ?w1m ?w0m ?w1O ?w1w ?w1Z ?w20 ?w1h ?w0w ?w1I ?w22 ?w1U ?w1L ?w21
  (case w0a=>k_is);(case w0F=>k_is);(case w0M=>k_is);(case w2B=>k_is);(case w2X=>(refine' ⟨?_,?_,?_,?_,?_,?_,?_,?_,?_⟩<;>k_is));(case w2s=>k_is);(case w2Q=>(refine' ⟨?_,?_,?_,?_,?_,?_,?_,?_,?_⟩<;>k_is));(case w2t=>k_is);(case w25=>(refine' ⟨?_,?_,?_,?_,?_,?_,?_,?_,?_⟩<;>k_is));(case w2E=>k_is);(case w2p=>(refine' ⟨?_,?_,?_,?_,?_,?_,?_,?_,?_⟩<;>k_is));(case w2w=>k_is);(case w2L=>(refine' ⟨?_,?_,?_,?_,?_,?_,?_,?_,?_⟩<;>k_is));(case w2T=>(unfold L2.YT;k_exc));(case w2M=>(unfold L2.YT;k_exc));(case w28=>(unfold L2.YT;k_exc));(case w2x=>(unfold L2.YT;k_exc));(case w2i=>(unfold L2.YT;k_exc));(case w2g=>k_is);(case w2l=>(refine' ⟨?_,?_,?_,?_,?_,?_,?_,?_,?_,?_⟩<;>k_is));(case w2e=>(refine' K1.Zga ?mk ?kc ?a ?i ?l ?c ?k ?t;(case mk=>k_is);(case kc=>k_is);(case a=>k_is);(case i=>k_is);(case l=>k_is);(case c=>k_is);(case k=>k_is);(case t=>k_is)));(case w1p=>(refine' K1.Zbm ?a ?i ?l ?c ?k;(case a=>k_is);(case i=>k_is);(case l=>k_is);(case c=>k_is);(case k=>k_is)));(case w1C=>(refine' K1.Zbm ?a ?i ?l ?c ?k;(case a=>k_is);(case i=>k_is);(case l=>k_is);(case c=>k_is);(case k=>k_is)));(case w0Z=>k_is);(case w16=>(refine' L2.tdi2 ?hs ?l ?e1 ?e2 ?ne;(case hs=>decide);(case l=>k_is);(case e1=>rfl);(case e2=>rfl);(case ne=>decide)));(case w0L=>(refine' L2.ttu4 ?l;(case l=>k_is)));(case w0T=>(refine' L2.ttu4 ?l;(case l=>k_is)));(case w1M=>k_is);(case w1r=>k_is);(case w1F=>k_is);(case w1m=>k_is);(case w0m=>k_is);(case w1O=>k_is);(case w1w=>k_is);(case w1Z=>k_is);(case w20=>k_is);(case w1h=>k_is);(case w0w=>k_is);(case w1I=>k_is);(case w22=>k_is);(case w1U=>k_is);(case w1L=>k_is);(case w21=>k_is)
#print axioms PySem.Challenge.cw_squaresheet_k63_whole_bands_by_walking_holds
