import PyProof.Rows.All
import Wide.All
import OpenK.AllK
import Wide.FinOn
import Lean
import PyProof.EqAt
import PyProof.EqKinds
import PyProof.TupleCall
import PyProof.Draws
import PyProof.EnumMake
import PyProof.WalksEnum
import PyProof.TupleIter
import PyProof.NeData
import PyProof.WalksMore
import PyProof.Rows.StrJoin2
import PyProof.StrWalks
import PyProof.StrBlockH
import PyProof.StrLawsTight
import PyProof.Rows.StrItems
import OpenK.KOwn
import PyProof.NsDelKeeps
import PyProof.RulesAs
import PyProof.ExcAttrAll.ValueError
import PyProof.ExcInit
import PyProof.InstStoreFacts
import PyProof.FitsInt
import PyProof.ZipIter
import PyProof.SumWalkG
import PyProof.CompUse
import KE.KSortAsk
import KE.KSortTup
import PyProof.MinMaxWalk
import PyProof.WalkInts
import PyProof.StrLawsChain
import KE.KRevIter
import PyProof.SliceStr2
import PyProof.StrLawsIdx
import PyProof.StrOps2
import PyProof.EnumStmt
import PyProof.Rows.Range3
import KE.KDictList
import PyProof.DictValues
import PyProof.FitsBits
import PySem.Challenge.RW_squaresheet_k92_nothing_seen
open List renaming getElem?_eq_getElem->Y00,getElem?_eq_some_iff->Y03,range->Y04,getD_eq_getElem?_getD->Y05,length_append->Y07,mem_range->Y08,length_map->Y09,mem_of_getElem?->Y0a,length_range->Y0d,getElem?_map->Y0e,mem_map->Y0f,mem_singleton->Y0g,size_toArray->Y0i,mem_cons->Y0j,mem_append_right->Y0k,mem_append->Y0n,map_append->Y0p,getElem?_append_right->Y0q,mem_cons_of_mem->Y0r,getElem?_append_left->Y0t,map_cons->Y0u,nodup_range->Y0v,mem_iff_getElem->Y0x,map_map->Y0y,getElem_mem->Y10,take_add_one->Y11,mem_filter->Y14,length_take->Y18,length_set->Y19,idxOf_lt_length_of_mem->Y1a,getElem?_range->Y1b,perm_ext_iff_of_nodup->Y1c,length_cons->Y1d,append_nil->Y1f,pairwise_cons->Y1g,range_succ->Y1j,mem_cons_self->Y1k,append_assoc->Y1l,take_of_length_le->Y1m,filter_append->Y1n,map_congr_left->Y1p,lookup_cons->Y1q,nodup_cons->Y1r,pairwise_iff_getElem->Y1t,take_length->Y1u,pairwise_map->Y1w,take_append_drop->Y1x,nodup_append->Y1y,length_filter_le->Y1z,filter_cons_of_pos->Y20,ext_getElem->Y22,eraseIdx_eq_take_drop_succ->Y23,flatMap_append->Y24,drop_eq_getElem_cons->Y26,find?_cons->Y28,getElem?_eq_none->Y29,mem_flatten->Y2b,mem_append_left->Y2c,getElem?_set_ne->Y2d,getElem?_cons_succ->Y2e,forIn_cons->Y2h,flatten_append->Y2k,getElem?_set_self->Y2l,length_pos_of_mem->Y2m
open PySem.W renaming Frag->Y01,subIn->Y0m,kitOne->Y0o,nsIn->Y0s,mg_none_of->Y12,mg_of->Y16,findIn->Y1h,kia_one->Y1o,keepIn->Y25,Looks->Y27,fnOf->Y2f,hideAll_get->Y2g,looks_subIn->Y2j,clsIn->Y2n
open PySem.Heap renaming get?_push_of_some->Y02,get?_push_size->Y0b,lt_size->Y0c,get?_update_other->Y15,size_push->Y1s,get?_update_self->Y1v
open Nat renaming le_refl->Y06,lt_of_lt_of_le->Y0h,ne_of_lt->Y0l,zero_le->Y0w,lt_or_ge->Y0z,lt_succ_of_lt->Y13,le_trans->Y17,le_of_lt->Y1e,lt_irrefl->Y1i,lt_succ_self->Y21,lt_of_le_of_lt->Y2a,not_lt_zero->Y2i
set_option Elab.async false
set_option linter.all false
set_option maxRecDepth 100000
namespace L2
open PySem PySem.Spec PyProof.Rows
abbrev Key:=Sum Int Str
def Zc1:Key->Value->Bool
 | .inl k,v=>Value.isInt k v
 | .inr x,v=>Value.isStrOf x v
def keyH (w:World):Key->Int
 | .inl k=>hashInt k
 | .inr x=>hashStr w x
theorem Z19:∀ {k:Key} {v:Value},Zc1 k v=true->(∃ i t,k=Sum.inl i/\v=Value.int i t)\/(∃ x t,k=Sum.inr x/\v=Value.str x t)
 | .inl i,v,h=>by
  obtain⟨t,e⟩:=Value.isInt_shape (k:=i) (v:=v) h
  exact .inl ⟨i,t,rfl,e⟩
 | .inr x,v,h=>by
  obtain⟨t,e⟩:=Value.isStrOf_shape (x:=x) (v:=v) h
  exact .inr ⟨x,t,rfl,e⟩
theorem Zge (i:Int)(t:Tok):Zc1 (.inl i) (.int i t)=true:=by simp[Zc1,Value.isInt]
theorem Zgx (x:Str)(t:Tok):Zc1 (.inr x) (.str x t)=true:=by simp[Zc1,Value.isStrOf]
theorem Zrj (a b:Int):decide ((Sum.inl a:Key)=Sum.inl b)=(a == b):=by
 by_cases e:a=b
 ·subst e; simp
 ·have h:¬ (Sum.inl a:Key)=Sum.inl b:=fun q=>e (Sum.inl.inj q)
  rw[decide_eq_false h]
  exact (beq_eq_false_iff_ne.mpr e).symm
theorem Zrk (a b:Str):decide ((Sum.inr a:Key)=Sum.inr b)=decide (a=b):=by
 by_cases e:a=b
 ·subst e; simp
 ·have h:¬ (Sum.inr a:Key)=Sum.inr b:=fun q=>e (Sum.inr.inj q)
  rw[decide_eq_false h,decide_eq_false e]
theorem Zs0 (a:Int)(b:Str):decide ((Sum.inl a:Key)=Sum.inr b)=false:=decide_eq_false (fun q=>nomatch q)
theorem Zro (a:Str)(b:Int):decide ((Sum.inr a:Key)=Sum.inl b)=false:=decide_eq_false (fun q=>nomatch q)
def Z0y (prog:Program)(w:World):PySem.KeyKind prog w Key where
 is:=Zc1
 hash:=keyH w
 inj:=fun v a b ha hb=>by
  rcases Z19 ha with ⟨i,t,rfl,rfl⟩ | ⟨x,t,rfl,rfl⟩
  ·rcases Z19 hb with ⟨j,u,rfl,e⟩ | ⟨y,u,rfl,e⟩
   ·injection e with e1 _; rw[e1]
   ·exact nomatch e
  ·rcases Z19 hb with ⟨j,u,rfl,e⟩ | ⟨y,u,rfl,e⟩
   ·exact nomatch e
   ·injection e with e1 _; rw[e1]
 byValue:=fun k v h=>by
  rcases Z19 h with ⟨i,t,rfl,rfl⟩ | ⟨x,t,rfl,rfl⟩ <;> rfl
 pyHash:=fun hv h=>by
  rcases Z19 hv with ⟨i,t,rfl,rfl⟩ | ⟨x,t,rfl,rfl⟩
  ·exact wpAny_pyHash_int h
  ·exact wpAny_pyHash_str h
 eqBool:=fun hu hv h=>by
  rcases Z19 hu with ⟨i,t,rfl,rfl⟩ | ⟨x,t,rfl,rfl⟩
  ·rcases Z19 hv with ⟨j,u,rfl,rfl⟩ | ⟨y,u,rfl,rfl⟩
   ·rw[Zrj]at h; exact wpAny_eqBool_int h
   ·rw[Zs0]at h; exact SeqAt.EqAt.int_str i t y u _ _ _ _ h
  ·rcases Z19 hv with ⟨j,u,rfl,rfl⟩ | ⟨y,u,rfl,rfl⟩
   ·rw[Zro]at h; exact SeqAt.EqAt.str_int x t j u _ _ _ _ h
   ·rw[Zrk]at h; exact wpAny_eqBool_str h
 «strs»:=fun k x t v h=>by
  rcases Z19 h with ⟨i,u,rfl,e⟩ | ⟨y,u,rfl,e⟩
  ·exact nomatch e
  ·injection e with e1 _
   subst e1
   cases v <;> rfl
theorem Z7h (prog:Program)(w:World)(i:Int)(t:Tok):(Z0y prog w).is (.inl i) (.int i t)=true:=Zge i t
theorem Z86 (prog:Program)(w:World)(x:Str)(t:Tok):(Z0y prog w).is (.inr x) (.str x t)=true:=Zgx x t
inductive V where
 | non | bl (b:Bool) | int (i:Int) | str (x:Str) | byt (b:Array UInt8) | flt (b:UInt64) | ref (a:Addr) | ty (n:String)
 deriving DecidableEq
def Z1p:V->Value->Prop
 | .non,u=>u=Value.none
 | .bl b,u=>u=Value.bool b
 | .int i,u=>∃ t,u=Value.int i t
 | .str x,u=>∃ t,u=Value.str x t
 | .byt b,u=>∃ t,u=Value.bytes b t
 | .flt b,u=>∃ t,u=Value.float b t
 | .ref a,u=>u=Value.ref a
 | .ty n,u=>u=Value.type n
abbrev Z1c:List V->List Value->Prop:=Paired Z1p
theorem Z1c.length {xs:List V}{us:List Value}(r:Z1c xs us):xs.length=us.length:=Paired.length r
theorem Z1c.get:∀ {xs:List V} {us:List Value} {i:Nat} {x:V},Z1c xs us->xs[i]?=some x->∃ u,us[i]?=some u/\Z1p x u
 | _,_,_,_,.nil,e=>by simp at e
 | _,_,0,_,.cons r _,e=>by simp at e; subst e; exact⟨_,rfl,r⟩
 | _,_,i+1,x,.cons _ t,e=>by
  obtain⟨u,h1,h2⟩:=Z1c.get (i:=i) (x:=x) t (by simpa using e)
  exact⟨u,by simpa using h1,h2⟩
theorem Z1c.set {x:V}{u:Value}(r:Z1p x u):∀ {xs:List V} {us:List Value} (i:Nat),Z1c xs us->Z1c (xs.set i x) (us.set i u)
 | _,_,_,.nil=>.nil
 | _,_,0,.cons _ t=>.cons r t
 | _,_,i+1,.cons q t=>.cons q (Z1c.set r i t)
theorem Z1c.append:∀ {xs ys:List V} {us ws:List Value},Z1c xs us->Z1c ys ws->Z1c (xs++ys) (us++ws)
 | _,_,_,_,.nil,s=>s
 | _,_,_,_,.cons r t,s=>.cons r (Z1c.append t s)
theorem Z1c.take:∀ {xs:List V} {us:List Value} (n:Nat),Z1c xs us->Z1c (xs.take n) (us.take n)
 | _,_,0,_=>.nil
 | _,_,_+1,.nil=>.nil
 | _,_,n+1,.cons r t=>.cons r (Z1c.take n t)
theorem Z1c.drop:∀ {xs:List V} {us:List Value} (n:Nat),Z1c xs us->Z1c (xs.drop n) (us.drop n)
 | _,_,0,r=>r
 | _,_,_+1,.nil=>.nil
 | _,_,n+1,.cons _ t=>Z1c.drop n t
def Zdf:Option V->Option Value->Prop
 | some v,some u=>Z1p v u
 | none,none=>True
 | _,_=>False
def KV {κ:Type}:List (κ×V)->List (κ×Value)->Prop:=Paired fun (p:κ×V) (q:κ×Value)=>p.1=q.1/\Z1p p.2 q.2
def kV:Key->V
 | .inl i=>.int i
 | .inr x=>.str x
inductive HO where
 | lst (xs:List V)
 | tup (xs:List V)
 | dK (kvs:List (Key×V)) | dT (kvs:List (List Key×V))
 | set (S:Int->Bool) (n:Nat)
 | ins (C dx:Addr) (fs:List (Str×V))
 | own (x:Addr)
 | xd (fs:List (Str×V))
 | met (f x:Addr)
 | rng (lo hi:Int)
 | frz (o:Obj) (u:HO)
 | tbl (ps:Array Value)
 | ext (φ:Heap->Prop)
abbrev Hp:=Addr->Option HO
def upd (H:Hp)(a:Addr)(o:HO):Hp:=fun b=>if b=a then some o else H b
theorem Z01 {H:Hp}{a:Addr}{o:HO}:upd H a o a=some o:=by unfold upd; rw[if_pos rfl]
theorem Z05 {H:Hp}{a b:Addr}{o:HO}(h:b≠a):upd H a o b=H b:=by unfold upd; rw[if_neg h]
theorem Zh6 {H:Hp}{a b:Addr}{o u:HO}(h:H a=some o)(h':H b=some u)(d:o≠u):a≠b:=by
 intro e; subst e; rw[h]at h'; exact d (Option.some.inj h')
theorem Z06 {H:Hp}{a b:Addr}{o:HO}(h:H a=some o)(h':H b=none):a≠b:=by
 intro e; subst e; rw[h]at h'; cases h'
section
variable (P:Program)(w:World)
def NoD (h:Heap)(a:Addr):Prop:=∃ o,h.get? a=some o/\o.dict=none
def Z1g (H:Hp)(h:Heap)(a:Addr):HO->Prop
 | .lst xs=>xs.length<=sizeLine/\∃ (its:List Value) (n:Nat),Z1c xs its/\h.get? a=some { cls:=.type "list",data:=.seq its.toArray n }
 | .tup xs=>(xs.length<=sizeLine/\NoD h a)/\∃ its:List Value,Z1c xs its/\IsTup h a its.toArray
 | .dK kvs=>kvs.length<=sizeLine/\(a == sysModules)=false/\∃ vs,KV kvs vs/\h.DictOf (Z0y P w) a vs
 | .dT kvs=>kvs.length<=sizeLine/\(a == sysModules)=false/\∃ xs:List (List Key×Addr×Value),
   Paired (fun (p:List Key×V) (q:List Key×Addr×Value)=>p.1=q.1/\H q.2.1=some (.tup (p.1.map kV))/\Z1p p.2 q.2.2) kvs xs/\
   ∃ o es ep,h.get? a=some o/\o.ExactDict/\o.data=.dict es ep/\es.toList=xs.map (entryOfKey (tupleKind (Z0y P w)))/\(xs.map (·.1)).Nodup
 | .set S n=>h.SetOf (intKind P w) a S n
 | .ins C dx fs=>H dx=some (.own a)/\fs.length<=1000/\dx≠a/\h.get? a=some (PySem.W.instObj C dx)/\
   ∃ mA,h.Ns1 dx mA/\(∀ f,Zdf (fs.lookup f) (mA f))/\PySem.Within mA (fs.map (·.1))
 | .own _=>∃ o,h.get? a=some o
 | .xd fs=>∃ mA,h.Ns1 a mA/\∀ f,Zdf (fs.lookup f) (mA f)
 | .rng lo hi=>∃ t u v,h.get? a=some { cls:=.type "range",data:=.fields #[.int lo t,.int hi u,.int 1 v] }
 | .frz o u=>h.get? a=some o/\Z1g H h a u
 | .tbl ps=>h.get? a=some { cls:=.none,data:=.fields ps }
 | .met f x=>h.get? a=some (PySem.W.methodObj (.ref f) (.ref x))
 | .ext φ=>φ h/\(∃ o,h.get? a=some o)/\∀ h1 h2:Heap,φ h1->(∀ o,h1.get? a=some o->h2.get? a=some o)->φ h2
def HOk (H:Hp)(h:Heap):Prop:=∀ a o,H a=some o->Z1g P w H h a o
end
section
variable {P:Program}{w:World}{H H':Hp}{h h':Heap}{a:Addr}{o:HO}
theorem Z1g.lt (x:Z1g P w H h a o):a < h.objs.size:=by
 cases o with
 | lst xs=>obtain⟨_,_,_,_,e⟩:=x; exact Y0c e
 | tup xs=>obtain⟨_,_,_,p⟩:=x; exact p.lt
 | dK kvs=>obtain⟨_,_,_,_,o,_,_,e,_⟩:=x; exact Y0c e
 | dT kvs=>obtain⟨_,_,_,_,o,_,_,e,_⟩:=x; exact Y0c e
 | set S n=>obtain⟨o,_,_,_,e,_⟩:=x; exact Y0c e
 | ins C dx fs=>obtain⟨_,_,_,e,_⟩:=x; exact Y0c e
 | own y=>obtain⟨_,e⟩:=x; exact Y0c e
 | xd fs=>obtain⟨_,⟨_,_,_,e,_⟩,_⟩:=x; exact Y0c e
 | rng lo hi=>obtain⟨_,_,_,e⟩:=x; exact Y0c e
 | frz ob u=>obtain⟨e,_⟩:=x; exact Y0c e
 | tbl ps=>exact Y0c (show h.get? a=some _ from x)
 | met f y=>exact Y0c (show h.get? a=some _ from x)
 | ext φ=>obtain⟨_,⟨_,e⟩,_⟩:=x; exact Y0c e
theorem Paired.mapP {α β:Type}{F G:α->β->Prop}:∀ {l₁:List α} {l₂:List β},Paired F l₁ l₂->(∀ a b,F a b->G a b)->Paired G l₁ l₂
 | _,_,.nil,_=>.nil
 | _,_,.cons r t,f=>.cons (f _ _ r) (Paired.mapP t f)
theorem Z1g.stay (x:Z1g P w H h a o)(k:∀ b u,(b=a\/H b=some (.own a))->h.get? b=some u->h'.get? b=some u)
  (ho:∀ b,H b=some (.own a)->H' b=some (.own a)) (ht:∀ b xs,H b=some (.tup xs)->H' b=some (.tup xs)):Z1g P w H' h' a o:=by
 induction o with
 | lst xs=>obtain⟨z,its,n,r,e⟩:=x; exact⟨z,its,n,r,k _ _ (.inl rfl) e⟩
 | tup xs=>obtain⟨z,its,r,ob,e,c⟩:=x; exact⟨⟨z.1,z.2.imp fun _ q=>⟨k _ _ (.inl rfl) q.1,q.2⟩⟩,its,r,ob,k _ _ (.inl rfl) e,c⟩
 | dK kvs=>obtain⟨z,y,vs,r,ob,es,ep,e,c⟩:=x; exact⟨z,y,vs,r,ob,es,ep,k _ _ (.inl rfl) e,c⟩
 | dT kvs=>
  obtain⟨z,y,xs,r,ob,es,ep,e,c⟩:=x
  exact⟨z,y,xs,Paired.mapP r fun p q z=>⟨z.1,ht _ _ z.2.1,z.2.2⟩,ob,es,ep,k _ _ (.inl rfl) e,c⟩
 | set S n=>obtain⟨ob,es,ep,t,e,c⟩:=x; exact⟨ob,es,ep,t,k _ _ (.inl rfl) e,c⟩
 | ins C dx fs=>
  obtain⟨d,z,ne,e,mA,⟨od,es,ep,e2,c⟩,r⟩:=x
  exact⟨ho _ d,z,ne,k _ _ (.inl rfl) e,mA,⟨od,es,ep,k _ _ (.inr d) e2,c⟩,r⟩
 | own y=>obtain⟨ob,e⟩:=x; exact⟨ob,k _ _ (.inl rfl) e⟩
 | xd fs=>obtain⟨mA,⟨od,es,ep,e,c⟩,r⟩:=x; exact⟨mA,⟨od,es,ep,k _ _ (.inl rfl) e,c⟩,r⟩
 | rng lo hi=>obtain⟨t,u,v,e⟩:=x; exact⟨t,u,v,k _ _ (.inl rfl) e⟩
 | frz ob u ih=>obtain⟨e,q⟩:=x; exact⟨k _ _ (.inl rfl) e,ih q⟩
 | tbl ps=>
  have e:h.get? a=some { cls:=.none,data:=.fields ps }:=x
  show h'.get? a=some { cls:=.none,data:=.fields ps }
  exact k a _ (.inl rfl) e
 | met f y=>
  have e:h.get? a=some (PySem.W.methodObj (.ref f) (.ref y)):=x
  show h'.get? a=some (PySem.W.methodObj (.ref f) (.ref y))
  exact k a _ (.inl rfl) e
 | ext φ=>obtain⟨p,⟨o,e⟩,st⟩:=x; exact⟨st _ _ p fun o q=>k _ _ (.inl rfl) q,⟨o,k _ _ (.inl rfl) e⟩,st⟩
theorem HOk.lt (x:HOk P w H h)(e:H a=some o):a < h.objs.size:=(x a o e).lt
theorem HOk.fresh (x:HOk P w H h)(e:h.objs.size<=a):H a=none:=by
 cases q:H a with
 | none=>rfl
 | some u=>exact absurd (Y0h (x.lt q) e) (Y1i _)
theorem HOk.kept (x:HOk P w H h)(k:∀ b u,h.get? b=some u->h'.get? b=some u):HOk P w H h':=fun a o e=>
 (x a o e).stay (fun b u _ q=>k b u q) (fun _ q=>q) fun _ _ q=>q
theorem HOk.laid (x:HOk P w H h)(k:∀ b u,h.get? b=some u->h'.get? b=some u)(hp:h.objs.size<=a)(new:Z1g P w (upd H a o) h' a o):HOk P w (upd H a o) h':=fun b u e=>by
 have hn:=x.fresh hp
 by_cases hb:b=a
 ·subst hb; rw[Z01]at e; cases e; exact new
 ·rw[Z05 hb]at e
  exact (x b u e).stay (fun c v _ q=>k c v q) (fun c q=>by rw[Z05 (Z06 q hn)]; exact q) fun c xs q=>by rw[Z05 (Z06 q hn)]; exact q
end
def Rd (H:Hp)(a:Addr)(u:HO):Prop:=H a=some u\/∃ o,H a=some (.frz o u)
theorem Rd.ok {P:Program}{w:World}{H:Hp}{h:Heap}{a:Addr}{u:HO}(r:Rd H a u)(x:HOk P w H h):Z1g P w H h a u:=by
 rcases r with r | ⟨o,r⟩
 ·exact x a u r
 ·obtain⟨_,q⟩:=x a _ r
  exact q
def Mut:Option HO->Prop
 | some (.lst _)=>True
 | some (.dK _)=>True
 | some (.dT _)=>True
 | some (.set _ _)=>True
 | some (.ins _ _ _)=>True
 | some (.ext _)=>True
 | _=>False
section
variable {P:Program}{w:World}{H:Hp}{h h':Heap}{x e:Addr}{o':HO}
theorem HOk.write (ok:HOk P w H h)(mu:Mut (H x))(he:e=x\/H e=some (.own x))(k:∀ b u,b≠e->h.get? b=some u->h'.get? b=some u)(heo:∃ u,h'.get? e=some u)
  (new:Z1g P w (upd H x o') h' x o'):HOk P w (upd H x o') h':=fun b u q=>by
 have nown:∀ c y,H c=some (.own y)->c≠x:=fun c y r z=>by subst z; rw[r]at mu; exact mu
 have ntup:∀ c xs,H c=some (.tup xs)->c≠x:=fun c xs r z=>by subst z; rw[r]at mu; exact mu
 by_cases hb:b=x
 ·subst hb; rw[Z01]at q; cases q; exact new
 ·rw[Z05 hb]at q
  by_cases hbe:b=e
  ·have q':H b=some (.own x):=by
    rcases he with z | z
    ·exact absurd (hbe.trans z) hb
    ·rw[hbe]; exact z
   rw[q]at q'; cases q'
   obtain⟨v,hv⟩:=heo
   exact⟨v,by rw[hbe]; exact hv⟩
  ·refine (ok b u q).stay (fun c v hc r=>k c v ?_ r) (fun c r=>by rw[Z05 (nown c b r)]; exact r) fun c xs r=>by rw[Z05 (ntup c xs r)]; exact r
   rcases hc with rfl | hc
   ·exact hbe
   ·rintro rfl
    rcases he with z | z
    ·exact nown c b hc z
    ·rw[hc]at z; cases z; exact hb rfl
end
structure Un (fs ex:List Addr)(H H':Hp)(h h':Heap):Prop where
 keep:∀ b o,h.get? b=some o->H b=none->b∉fs->b∉ex->h'.get? b=some o
 slot:∀ b o,h.get? b=some o->H b=none->b∈fs->b∉ex->∃ sl,h'.get? b=some { o with slots:=sl }
 free:∀ b o,h.get? b=some o->H b=none->b∉ex->H' b=none
 there:∀ b o,h.get? b=some o->b∉ex->∃ o',h'.get? b=some o'
 tups:∀ b xs,H b=some (.tup xs)->H' b=some (.tup xs)
 frzs:∀ b o u,H b=some (.frz o u)->H' b=some (.frz o u)
 tbls:∀ b ps,H b=some (.tbl ps)->∃ more,H' b=some (.tbl (ps++more))
section
variable {fs fs' ex ex':List Addr}{H H1 H2:Hp}{h h1 h2 h':Heap}{a x e:Addr}{o:HO}
theorem Un.any (u:Un fs ex H H1 h h1){b:Addr}{ob:Obj}(q:h.get? b=some ob)(n:H b=none)(hx:b∉ex):∃ sl,h1.get? b=some { ob with slots:=sl }:=by
 by_cases hb:b∈fs
 ·exact u.slot b ob q n hb hx
 ·exact⟨ob.slots,u.keep b ob q n hb hx⟩
theorem Un.kept (k:∀ b u,h.get? b=some u->h'.get? b=some u):Un fs ex H H h h':=
 ⟨fun b ob q _ _ _=>k b ob q,fun b ob q _ _ _=>⟨ob.slots,k b ob q⟩,fun _ _ _ n _=>n,fun b ob q _=>⟨ob,k b ob q⟩,fun _ _ q=>q,fun _ _ _ q=>q,fun _ ps q=>⟨#[],by rw[q]; simp⟩⟩
theorem Un.refl:Un fs ex H H h h:=Un.kept fun _ _ q=>q
theorem Un.laid (k:∀ b u,h.get? b=some u->h'.get? b=some u)(hp:h.objs.size<=a)(hn:H a=none):Un fs ex H (upd H a o) h h' where
 keep:=fun b u q _ _ _=>k b u q
 slot:=fun b u q _ _ _=>⟨u.slots,k b u q⟩
 free:=fun b u q n _=>by rw[Z05 (Y0l (Y0h (Y0c q) hp))]; exact n
 there:=fun b u q _=>⟨u,k b u q⟩
 tups:=fun b xs q=>by rw[Z05 (Z06 q hn)]; exact q
 frzs:=fun b u xs q=>by rw[Z05 (Z06 q hn)]; exact q
 tbls:=fun b ps q=>⟨#[],by rw[Z05 (Z06 q hn),q]; simp⟩
theorem Un.write (mu:Mut (H x))(he:e=x\/H e=some (.own x))(k:∀ b u,b≠e->h.get? b=some u->h'.get? b=some u)(heo:∃ u,h'.get? e=some u):Un fs ex H (upd H x o) h h':=by
 have hx:∀ b,H b=none->b≠x:=fun b n z=>by subst z; rw[n]at mu; exact mu
 have hb:∀ b,H b=none->b≠e:=fun b n z=>by
  subst z
  rcases he with r | r
  ·exact hx b n r
  ·rw[n]at r; cases r
 have hm:∀ b u,H b=some u->¬ Mut (some u)->b≠x:=fun b u q nm z=>by subst z; rw[q]at mu; exact nm mu
 refine⟨fun b u q n _ _=>k b u (hb b n) q,fun b u q n _ _=>⟨u.slots,k b u (hb b n) q⟩,fun b u q n _=>by rw[Z05 (hx b n)]; exact n,fun b u q _=>?_,
  fun b xs q=>by rw[Z05 (hm b _ q fun z=>z)]; exact q,fun b u xs q=>by rw[Z05 (hm b _ q fun z=>z)]; exact q,fun b ps q=>⟨#[],by rw[Z05 (hm b _ q fun z=>z),q]; simp⟩⟩
 by_cases hbe:b=e
 ·subst hbe; exact heo
 ·exact⟨u,k b u hbe q⟩
end
def trk (h:Heap)(H:Hp):List Addr:=(Y04 h.objs.size).filter fun a=>(H a).isSome
def Zkd (h:Heap)(H:Hp):Heap:=PySem.W.hideAll h (trk h H)
theorem Zhb (h:Heap)(H:Hp):(Zkd h H).objs.size=h.objs.size:=PySem.W.hideAll_size _ _
theorem Zlf {h:Heap}{H:Hp}{b:Addr}{o:Obj}(e:h.get? b=some o)(n:H b=none):(Zkd h H).get? b=some o:=
 Y2g _ e fun hm=>by
  have q:(H b).isSome=true:=(Y14.mp hm).2
  rw[n]at q; simp at q
theorem Zoc {h:Heap}{H:Hp}{b:Addr}{o:Obj}(e:(Zkd h H).get? b=some o):h.get? b=some o/\H b=none:=by
 have e':h.get? b=some o:=PySem.W.of_hideAll (trk h H) e
 refine⟨e',?_⟩
 cases q:H b with
 | none=>rfl
 | some x=>
  have hm:b∈trk h H:=Y14.mpr ⟨Y08.mpr (Y0c e'),by simp[q]⟩
  have z:(Zkd h H).get? b=none:=PySem.W.hideAll_none (trk h H) hm
  rw[z]at e; cases e
structure Mod (K:Y01)(mg:Str->Option Value)(base:Heap):Prop where
 kin:K.In base
 glob:base.Ns mainGlobals mg
 blt:∃ mb,base.Ns builtinsNs mb/\∀ x:Str,x≠"__name__"->mb x=bootBuiltins x
 nolimit:base.NoLimit
structure Cx where
 prog:Program
 w:World
 K:Y01
 mg:Str->Option Value
 base:Heap
 A:Around
 N:List Str
 s₀:Shared
 H₀:Hp
 env:Env
 outer:List Env
 stack:List Env
 ex:List Addr
 fn:Str->Bool
 calm:Bool
 pn:List (Addr×Obj)
 xe:Value->Shared->Prop
def frs (l:List Env):List Addr:=l.filterMap (·.frame)
abbrev Cx.fs (X:Cx):List Addr:=frs X.outer
def Vis (sc:Scope)(x:Str):Prop:=sc.names.lookup x=some .local\/sc.names.lookup x=some .cell\/sc.names.lookup x=some .free
def Loc (sc:Scope)(x:Str):Prop:=sc.names.lookup x=some .local\/sc.names.lookup x=some .cell
def Look (env:Env)(h:Heap)(m:Str->Option Value)(x:Str)(u:Value):Prop:=
 (env.kindOf x=some .local/\m x=some u)\/((env.kindOf x=some .cell\/env.kindOf x=some .free)/\∃ c,env.cells.lookup x=some c/\h.IsCell c (some u))
structure Cx.Ok (X:Cx):Prop where
 mod:Mod X.K X.mg X.base
 kind:X.env.scope.kind=.function
 glob:X.env.globals=mainGlobals
 blt:X.env.builtins=builtinsNs
 above:X.s₀.heap.objs.size<=X.env.locals
 inj:∀ x y c,X.env.cells.lookup x=some c->X.env.cells.lookup y=some c->x=y
 has:∀ x,(X.env.kindOf x=some .cell\/X.env.kindOf x=some .free)->∃ c,X.env.cells.lookup x=some c
 cab:∀ x c,X.fn x=true->X.env.cells.lookup x=some c->X.s₀.heap.objs.size<=c
 hd:X.calm=true->X.A.handled=none
 frames:X.A.frames=some X.stack
 stk:X.stack=X.outer\/(X.stack=X.env :: X.outer/\X.env.frame=some X.env.locals)
 exf:∀ b∈X.ex,b≠X.env.locals/\∀ x c,X.env.cells.lookup x=some c->c≠b
 bs:∀ b o,X.base.get? b=some o->X.s₀.heap.get? b=some o/\X.H₀ b=none
 bsz:X.base.objs.size<=X.s₀.heap.objs.size
 noex:∀ b o,X.base.get? b=some o->b∉X.ex
 exfs:∀ b∈X.ex,b∉X.fs
 funs:X.s₀.heap.FunFrames X.base X.outer
 frf:∀ b∈X.fs,X.H₀ b=none
structure Inv (X:Cx)(pins:List (Addr×Obj))(σ:List (Option V))(H:Hp)(s:Shared):Prop where
 ok:X.Ok
 os:s.os=X.s₀.os
 bare:AllBare s.gens
 base:Un X.fs X.ex X.H₀ H X.s₀.heap s.heap
 loc:∃ m,s.heap.Ns X.env.locals m/\∀ (i:Nat) (x:Str) (v:V),X.N[i]?=some x->σ[i]?=some (some v)->Vis X.env.scope x->∃ u,Z1p v u/\Look X.env s.heap m x u
 cell:∀ x c,X.env.cells.lookup x=some c->∃ v,s.heap.IsCell c v
 free:H X.env.locals=none
 freeC:∀ x c,X.env.cells.lookup x=some c->H c=none
 pin:∀ p∈X.pn++pins,s.heap.get? p.1=some p.2/\H p.1=none/\p.1≠X.env.locals/\p.1∉X.fs/\∀ v,p.2.data≠.cell v
 hok:HOk X.prog X.w H s.heap
 len:σ.length=X.N.length
section
variable {X:Cx}{pins:List (Addr×Obj)}{σ:List (Option V)}{H H':Hp}{s:Shared}{h':Heap}
theorem Cx.Ok.nofr (ok:X.Ok){b:Addr}{o:Obj}(e:X.base.get? b=some o):b∉X.fs:=fun hb=>by
 have:=(ok.funs.mem hb).1
 rw[e]at this; cases this
theorem Inv.bs (I:Inv X pins σ H s):∀ b o,X.base.get? b=some o->s.heap.get? b=some o/\H b=none:=fun b o e=>
 ⟨I.base.keep b o (I.ok.bs b o e).1 (I.ok.bs b o e).2 (I.ok.nofr e) (I.ok.noex b o e),I.base.free b o (I.ok.bs b o e).1 (I.ok.bs b o e).2 (I.ok.noex b o e)⟩
theorem Inv.bk (I:Inv X pins σ H s):∀ b o,X.base.get? b=some o->s.heap.get? b=some o:=fun b o e=>(I.bs b o e).1
theorem Inv.mod (I:Inv X pins σ H s):Mod X.K X.mg X.base:=I.ok.mod
theorem Inv.kIn (I:Inv X pins σ H s):X.K.In s.heap:=I.ok.mod.kin.keeps I.bk
theorem Inv.lt (I:Inv X pins σ H s):X.env.locals < s.heap.objs.size:=let ⟨_,hn,_⟩:=I.loc; hn.lt
theorem Inv.sz (I:Inv X pins σ H s):X.s₀.heap.objs.size<=s.heap.objs.size:=Y17 I.ok.above (Y1e I.lt)
theorem Inv.nofs (I:Inv X pins σ H s){a:Addr}(h:s.heap.objs.size<=a):a∉X.fs:=fun hb=>by
 obtain⟨_,o,ho,_⟩:=I.ok.funs.mem hb
 exact absurd (Y0h (Y0c ho) (Y17 I.sz h)) (Y1i _)
theorem Inv.cne (I:Inv X pins σ H s):∀ x c,X.env.cells.lookup x=some c->c≠X.env.locals:=fun x c e z=>by
 obtain⟨v,o,ho,hd⟩:=I.cell x c e
 obtain⟨m,⟨o',es,ep,ho',hd',_⟩,_⟩:=I.loc
 rw[z,ho']at ho; cases ho; rw[hd']at hd; cases hd
theorem Inv.funs (I:Inv X pins σ H s):s.heap.FunFrames X.base X.outer:=by
 have all:∀ (l:List Env),(∀ b∈frs l,b∈X.fs)->X.s₀.heap.FunFrames X.base l->s.heap.FunFrames X.base l:=by
  intro l
  induction l with
  | nil=>intro _ _; trivial
  | cons env r ih=>
   intro hs hl
   obtain⟨hk,⟨L,o,hf,hn,ho,hd⟩,hr⟩:=hl
   have hL:L∈X.fs:=hs L (by unfold frs; rw[List.filterMap_cons,hf]; exact Y1k)
   obtain⟨sl,e⟩:=I.base.slot L o ho (I.ok.frf L hL) hL fun z=>I.ok.exfs L z hL
   exact⟨hk,⟨L,_,hf,hn,e,hd⟩,ih (fun b hb=>hs b (by unfold frs; rw[List.filterMap_cons,hf]; exact Y0r _ hb)) hr⟩
 exact all X.outer (fun _ hb=>hb) I.ok.funs
theorem Inv.stack (I:Inv X pins σ H s):s.heap.FunFrames X.base X.stack:=by
 rcases I.ok.stk with e | ⟨e,hf⟩
 ·rw[e]; exact I.funs
 ·rw[e]
  obtain⟨m,hn,_⟩:=I.loc
  refine .cons (by rw[I.ok.kind]; decide) hf hn ?_ I.funs
  exact Heap.get?_none_of_le (Y17 I.ok.bsz I.ok.above)
theorem Inv.stkSub (I:Inv X pins σ H s):∀ b∈frs X.stack,b∈X.env.locals :: X.fs:=fun b hb=>by
 rcases I.ok.stk with e | ⟨e,hf⟩
 ·rw[e]at hb; exact Y0r _ hb
 ·rw[e]at hb
  unfold frs at hb
  rw[List.filterMap_cons,hf]at hb
  exact hb
theorem Inv.stkFree (I:Inv X pins σ H s):∀ b∈frs X.stack,H b=none:=fun b hb=>by
 rcases Y0j.mp (I.stkSub b hb) with e | hb
 ·rw[e]; exact I.free
 ·obtain⟨_,o,ho,_⟩:=I.ok.funs.mem hb
  exact I.base.free b o ho (I.ok.frf b hb) fun z=>I.ok.exfs b z hb
theorem Inv.step {g':Array GenState}{t':Nat}{d':Drawn}{ch:List Addr}(I:Inv X pins σ H s)
  (hch:∀ b∈ch,(b∈X.ex\/X.s₀.heap.objs.size<=b)/\b≠X.env.locals/\(∀ x c,X.env.cells.lookup x=some c->c≠b)/\∀ p∈X.pn++pins,p.1≠b)
  (keep:∀ b o,b≠X.env.locals->b∉X.fs->b∉ch->s.heap.get? b=some o->H b=none->h'.get? b=some o)
  (slot:∀ b o,b≠X.env.locals->b∈X.fs->b∉ch->s.heap.get? b=some o->H b=none->∃ sl,h'.get? b=some { o with slots:=sl }) (free:∀ b o,b∉ch->s.heap.get? b=some o->H b=none->H' b=none)
  (there:∀ b o,b∉ch->s.heap.get? b=some o->∃ o',h'.get? b=some o')
  (tups:∀ b xs,H b=some (.tup xs)->H' b=some (.tup xs)) (frzs:∀ b o u,H b=some (.frz o u)->H' b=some (.frz o u)) (tbls:∀ b ps,H b=some (.tbl ps)->∃ more,H' b=some (.tbl (ps++more)))
  (ns:∀ m,s.heap.Ns X.env.locals m->h'.Ns X.env.locals m) (hok:HOk X.prog X.w H' h') (hg:AllBare g') :
  Inv X pins σ H' { s with heap:=h',gens:=g',drawn:=d',toks:=t' }:=by
 have neL:∀ b o,X.s₀.heap.get? b=some o->b≠X.env.locals:=fun b o e=>Y0l (Y0h (Y0c e) I.ok.above)
 have neC:∀ b o,X.s₀.heap.get? b=some o->b∉X.ex->b∉ch:=fun b o e hx hb=>by
  rcases (hch b hb).1 with z | z
  ·exact hx z
  ·exact absurd (Y0h (Y0c e) z) (Y1i _)
 have cellK:∀ x c,X.env.cells.lookup x=some c->∀ v,s.heap.IsCell c v->h'.IsCell c v:=fun x c e v ⟨o,ho,hd⟩=>by
  have nch:c∉ch:=fun z=>(hch c z).2.2.1 x c e rfl
  by_cases hc:c∈X.fs
  ·obtain⟨sl,q⟩:=slot c o (I.cne x c e) hc nch ho (I.freeC x c e)
   exact⟨_,q,hd⟩
  ·exact⟨o,keep c o (I.cne x c e) hc nch ho (I.freeC x c e),hd⟩
 refine⟨I.ok,I.os,hg,⟨fun b o e n hb hx=>?_,fun b o e n hb hx=>?_,fun b o e n hx=>?_,fun b o e hx=>?_,fun b xs e=>tups b xs (I.base.tups b xs e),fun b o xs e=>frzs b o xs (I.base.frzs b o xs e),fun b ps e=>?_⟩,?_,fun x c e=>?_,?_,fun x c e=>?_,fun p hp=>?_,hok,I.len⟩
 ·exact keep b o (neL b o e) hb (neC b o e hx) (I.base.keep b o e n hb hx) (I.base.free b o e n hx)
 ·obtain⟨sl,e1⟩:=I.base.slot b o e n hb hx
  obtain⟨sl',e2⟩:=slot b _ (neL b o e) hb (neC b o e hx) e1 (I.base.free b o e n hx)
  exact⟨sl',e2⟩
 ·obtain⟨o',e1⟩:=I.base.there b o e hx
  exact free b o' (neC b o e hx) e1 (I.base.free b o e n hx)
 ·obtain⟨o',e1⟩:=I.base.there b o e hx
  exact there b o' (neC b o e hx) e1
 ·obtain⟨m1,e1⟩:=I.base.tbls b ps e
  obtain⟨m2,e2⟩:=tbls b _ e1
  exact⟨m1++m2,by rw[e2,Array.append_assoc]⟩
 ·obtain⟨m,hn,hl⟩:=I.loc
  refine⟨m,ns m hn,fun i x v e1 e2 e3=>?_⟩
  obtain⟨u,r,l⟩:=hl i x v e1 e2 e3
  refine⟨u,r,?_⟩
  rcases l with l | ⟨k,c,e,z⟩
  ·exact .inl l
  ·exact .inr ⟨k,c,e,cellK x c e _ z⟩
 ·obtain⟨v,z⟩:=I.cell x c e
  exact⟨v,cellK x c e v z⟩
 ·obtain⟨m,⟨o,_,_,ho,_⟩,_⟩:=I.loc
  exact free _ o (fun z=>(hch _ z).2.1 rfl) ho I.free
 ·obtain⟨v,o,ho,hd⟩:=I.cell x c e
  exact free c o (fun z=>(hch c z).2.2.1 x c e rfl) ho (I.freeC x c e)
 ·obtain⟨e,n,ne,nf,d⟩:=I.pin p hp
  have nch:p.1∉ch:=fun z=>(hch p.1 z).2.2.2 p hp rfl
  exact⟨keep p.1 p.2 ne nf nch e n,free p.1 p.2 nch e n,ne,nf,d⟩
theorem Inv.un {t':Nat}(I:Inv X pins σ H s)(u:Un X.fs [] H H' s.heap h')(hok:HOk X.prog X.w H' h'):Inv X pins σ H' { s with heap:=h',toks:=t' }:=by
 obtain⟨m,⟨o,es,ep,ho,r⟩,_⟩:=id I.loc
 obtain⟨sl,hL⟩:=u.any ho I.free (by simp)
 exact I.step (g':=s.gens) (d':=s.drawn) (ch:=[]) (fun _ z=>nomatch z) (fun b o _ hb _ e n=>u.keep b o e n hb (by simp)) (fun b o _ hb _ e n=>u.slot b o e n hb (by simp)) (fun b o _ e n=>u.free b o e n (by simp)) (fun b o _ e=>u.there b o e (by simp)) u.tups u.frzs u.tbls (fun m' hm=>by
  obtain⟨o',es',ep',ho',r'⟩:=hm
  rw[ho]at ho'; cases ho'
  exact⟨_,es',ep',hL,r'⟩) hok I.bare
theorem Inv.call {g':Array GenState}{t':Nat}{d':Drawn}{ch:List Addr}(I:Inv X pins σ H s)(u:Un (frs X.stack) ch H H' s.heap h')(hok:HOk X.prog X.w H' h')(hg:AllBare g')
  (hch:∀ b∈ch,(b∈X.ex\/X.s₀.heap.objs.size<=b)/\b≠X.env.locals/\(∀ x c,X.env.cells.lookup x=some c->c≠b)/\∀ p∈X.pn++pins,p.1≠b) :
  Inv X pins σ H' { s with heap:=h',gens:=g',drawn:=d',toks:=t' }:=by
 obtain⟨m,⟨o,es,ep,ho,r⟩,_⟩:=id I.loc
 obtain⟨sl,hL⟩:=u.any ho I.free fun z=>(hch _ z).2.1 rfl
 exact I.step (ch:=ch) hch (fun b o hL hb hc e n=>u.keep b o e n (fun z=>(Y0j.mp (I.stkSub b z)).elim hL hb) hc) (fun b o _ _ hc e n=>u.any e n hc) (fun b o hc e n=>u.free b o e n hc) (fun b o hc e=>u.there b o e hc) u.tups u.frzs u.tbls (fun m' hm=>by
  obtain⟨o',es',ep',ho',r'⟩:=hm
  rw[ho]at ho'; cases ho'
  exact⟨_,es',ep',hL,r'⟩) hok hg
theorem Inv.turned {t':Nat}{it:Addr}(I:Inv X pins σ H s)(k:∀ b o,b≠it->s.heap.get? b=some o->h'.get? b=some o)(hn:H it=none)(hL:it≠X.env.locals)
  (h1:it∈X.ex\/X.s₀.heap.objs.size<=it) (h2:∀ x c,X.env.cells.lookup x=some c->c≠it) (h3:∀ p∈X.pn++pins,p.1≠it):Inv X pins σ H { s with heap:=h',toks:=t' }:=by
 have nit:∀ b u,H b=some u->b≠it:=fun b u e z=>by rw[z,hn]at e; cases e
 refine I.step (g':=s.gens) (d':=s.drawn) (ch:=[it]) (fun b hb=>?_) (fun b o _ _ hc e _=>k b o (fun z=>hc (by simp[z])) e) (fun b o _ _ hc e _=>⟨o.slots,k b o (fun z=>hc (by simp[z])) e⟩) (fun _ _ _ _ n=>n)
  (fun b o hc e=>⟨o,k b o (fun z=>hc (by simp[z])) e⟩) (fun _ _ e=>e) (fun _ _ _ e=>e) (fun b ps e=>⟨#[],by rw[e]; simp⟩) (fun m hm=>?_) (fun b u e=>?_) I.bare
 ·have e:b=it:=by simpa using hb
  subst e
  exact⟨h1,hL,h2,h3⟩
 ·obtain⟨o,es,ep,ho,r⟩:=hm
  exact⟨o,es,ep,k _ o (Ne.symm hL) ho,r⟩
 ·refine (I.hok b u e).stay (fun c v hc q=>k c v ?_ q) (fun _ q=>q) fun _ _ q=>q
  rcases hc with z | z
  ·rw[z]; exact nit b u e
  ·exact nit c _ z
theorem Inv.tok (I:Inv X pins σ H s)(t:Nat):Inv X pins σ H { s with toks:=t }:=I.un (h':=s.heap) (t':=t) Un.refl I.hok
theorem Inv.kept {t':Nat}(I:Inv X pins σ H s)(k:∀ b u,s.heap.get? b=some u->h'.get? b=some u):Inv X pins σ H { s with heap:=h',toks:=t' }:=I.un (Un.kept k) (I.hok.kept k)
theorem Inv.laid {a:Addr}{o:HO}{t':Nat}(I:Inv X pins σ H s)(k:∀ b u,s.heap.get? b=some u->h'.get? b=some u)(hp:s.heap.objs.size<=a)(new:Z1g X.prog X.w (upd H a o) h' a o) :
  Inv X pins σ (upd H a o) { s with heap:=h',toks:=t' }:=I.un (Un.laid k hp (I.hok.fresh hp)) (I.hok.laid k hp new)
theorem Inv.write {x e:Addr}{o:HO}{t':Nat}(I:Inv X pins σ H s)(mu:Mut (H x))(he:e=x\/H e=some (.own x))(k:∀ b u,b≠e->s.heap.get? b=some u->h'.get? b=some u)(heo:∃ u,h'.get? e=some u)
  (new:Z1g X.prog X.w (upd H x o) h' x o):Inv X pins σ (upd H x o) { s with heap:=h',toks:=t' }:=I.un (Un.write mu he k heo) (I.hok.write mu he k heo new)
theorem Inv.pins_of {pins':List (Addr×Obj)}(I:Inv X pins σ H s)(h:∀ p∈pins',s.heap.get? p.1=some p.2/\H p.1=none/\p.1≠X.env.locals/\p.1∉X.fs/\∀ v,p.2.data≠.cell v):Inv X pins' σ H s:=
 ⟨I.ok,I.os,I.bare,I.base,I.loc,I.cell,I.free,I.freeC,fun p hp=>(Y0n.mp hp).elim (fun z=>I.pin p (Y2c _ z)) (h p),I.hok,I.len⟩
theorem Za1 {N:List Str}(hN:N.Nodup){i j:Nat}{x:Str}(a:N[i]?=some x)(b:N[j]?=some x):i=j:=by
 obtain⟨h1,e1⟩:=Y03.mp a
 obtain⟨h2,e2⟩:=Y03.mp b
 exact (List.getElem_inj hN).mp (e1.trans e2.symm)
theorem Zbz {M:Model}{A:Around}{E:Value->Shared->Prop}{i:Nat}{x:Str}{v:V}{u:Value}{Q:Unit->Shared->Prop}(I:Inv X pins σ H s)(hN:X.N.Nodup)(hi:X.N[i]?=some x)(hx:Loc X.env.scope x)(r:Z1p v u)
  (h:∀ s',Inv X pins (σ.set i (some v)) H s'->(∃ a,Heap.SameBut a s.heap s'.heap/\(a=X.env.locals\/X.env.cells.lookup x=some a))->Q () s') (hf:X.fn x=true\/X.env.scope.names.lookup x=some .local:=by first | exact .inl rfl | exact .inr rfl | assumption):wpAny M A (storeName X.env x u) Q E s:=by
 obtain⟨m,hn,hl⟩:=id I.loc
 have hcls:(X.env.scope.kind == .class || (X.env.scope.kind == .module && X.env.locals != X.env.globals))=false:=by rw[I.ok.kind]; rfl
 have hiσ:i < σ.length:=by rw[I.len]; exact (Y03.mp hi).1
 have cne:=I.cne
 have tracked:∀ {a:Addr} {h':Heap},(∃ o,s.heap.get? a=some o/\H a=none)->Heap.SameBut a s.heap h'->HOk X.prog X.w H h':=fun {a h'} ha hs b ob e=>by
  obtain⟨_,_,hfree⟩:=ha
  refine (I.hok b ob e).stay (fun c w' hc q=>(hs.2 c ?_).trans q) (fun _ q=>q) fun _ _ q=>q
  rintro rfl
  rcases hc with rfl | hc
  ·rw[hfree]at e; cases e
  ·rw[hfree]at hc; cases hc
 rcases hx with hk | hk
 ·refine wpAny_storeName_local hk hn (fun h' hn' hs=>?_) hcls
  obtain⟨oL,_,_,hoL,_⟩:=id hn
  refine h _ ⟨I.ok,I.os,I.bare,⟨fun b o e n hb hx=>?_,fun b o e n hb hx=>?_,I.base.free,fun b o e hx=>?_,I.base.tups,I.base.frzs,I.base.tbls⟩,⟨_,hn',fun j y v' e1 e2 e3=>?_⟩,fun y c e=>?_,I.free,I.freeC,fun p hp=>?_,tracked ⟨oL,hoL,I.free⟩ hs,by simpa using I.len⟩ ⟨_,hs,.inl rfl⟩
  ·exact (hs.2 b (Y0l (Y0h (Y0c e) I.ok.above))).trans (I.base.keep b o e n hb hx)
  ·obtain⟨sl,e1⟩:=I.base.slot b o e n hb hx
   exact⟨sl,(hs.2 b (Y0l (Y0h (Y0c e) I.ok.above))).trans e1⟩
  ·obtain⟨o',e1⟩:=I.base.there b o e hx
   exact⟨o',(hs.2 b (Y0l (Y0h (Y0c e) I.ok.above))).trans e1⟩
  ·by_cases hj:j=i
   ·subst hj
    rw[hi]at e1; cases e1
    rw[Y2l hiσ]at e2
    cases e2
    exact⟨u,r,.inl ⟨hk,by simp⟩⟩
   ·rw[Y2d (Ne.symm hj)]at e2
    obtain⟨u',r',q⟩:=hl j y v' e1 e2 e3
    refine⟨u',r',?_⟩
    rcases q with ⟨k,e⟩ | ⟨k,c,e,z⟩
    ·refine .inl ⟨k,?_⟩
     have:y≠x:=fun e=>hj (Za1 hN e1 (e ▸ hi))
     simp[this,e]
    ·exact .inr ⟨k,c,e,z.sameBut hs (cne y c e)⟩
  ·obtain⟨w',z⟩:=I.cell y c e
   exact⟨w',z.sameBut hs (cne y c e)⟩
  ·obtain⟨e,n,ne,nf,d⟩:=I.pin p hp
   exact⟨(hs.2 p.1 ne).trans e,n,ne,nf,d⟩
 ·have hfn:X.fn x=true:=by
   rcases hf with z | z
   ·exact z
   ·rw[z]at hk; cases hk
  obtain⟨c,hc⟩:=I.ok.has x (.inl hk)
  obtain⟨w',z⟩:=I.cell x c hc
  refine wpAny_storeName_cell I.ok.kind hk hc z (fun h' hc' hs=>?_)
  obtain⟨oc,hoc,hocd⟩:=id z
  refine h { s with heap:=h' } ⟨I.ok,I.os,I.bare,⟨fun b o e n hb hx=>?_,fun b o e n hb hx=>?_,I.base.free,fun b o e hx=>?_,I.base.tups,I.base.frzs,I.base.tbls⟩,⟨m,hn.sameBut hs (Ne.symm (cne x c hc)),fun j y v' e1 e2 e3=>?_⟩,fun y c' e=>?_,I.free,I.freeC,fun p hp=>?_,tracked ⟨oc,hoc,I.freeC x c hc⟩ hs,by simpa using I.len⟩ ⟨c,hs,.inr hc⟩
  ·exact (hs.2 b (Y0l (Y0h (Y0c e) (I.ok.cab x c hfn hc)))).trans (I.base.keep b o e n hb hx)
  ·obtain⟨sl,e1⟩:=I.base.slot b o e n hb hx
   exact⟨sl,(hs.2 b (Y0l (Y0h (Y0c e) (I.ok.cab x c hfn hc)))).trans e1⟩
  ·obtain⟨o',e1⟩:=I.base.there b o e hx
   exact⟨o',(hs.2 b (Y0l (Y0h (Y0c e) (I.ok.cab x c hfn hc)))).trans e1⟩
  ·by_cases hj:j=i
   ·subst hj
    rw[hi]at e1; cases e1
    rw[Y2l hiσ]at e2
    cases e2
    exact⟨u,r,.inr ⟨.inl hk,c,hc,hc'⟩⟩
   ·rw[Y2d (Ne.symm hj)]at e2
    obtain⟨u',r',q⟩:=hl j y v' e1 e2 e3
    refine⟨u',r',?_⟩
    rcases q with q | ⟨k,c',e,z'⟩
    ·exact .inl q
    ·refine .inr ⟨k,c',e,z'.sameBut hs ?_⟩
     rintro rfl
     exact hj (Za1 hN e1 (I.ok.inj _ _ _ e hc ▸ hi))
  ·by_cases hcc:c'=c
   ·subst hcc; exact⟨_,hc'⟩
   ·obtain⟨w2,z2⟩:=I.cell y c' e
    exact⟨w2,z2.sameBut hs hcc⟩
  ·obtain⟨e,n,ne,nf,d⟩:=I.pin p hp
   refine⟨(hs.2 p.1 ?_).trans e,n,ne,nf,d⟩
   intro q
   rw[q,hoc]at e
   have q':oc=p.2:=Option.some.inj e
   exact d w' (by rw[<-q']; exact hocd)
theorem Z5j {M:Model}{A:Around}{E:Value->Shared->Prop}{i:Nat}{x:Str}{v:V}{u:Value}{Q:Unit->Shared->Prop}(I:Inv X pins σ H s)(hN:X.N.Nodup)(hi:X.N[i]?=some x)(hx:Loc X.env.scope x)(r:Z1p v u)
  (h:∀ s',Inv X pins (σ.set i (some v)) H s'->Q () s') (hf:X.fn x=true\/X.env.scope.names.lookup x=some .local:=by first | exact .inl rfl | exact .inr rfl | assumption):wpAny M A (storeName X.env x u) Q E s:=
 Zbz I hN hi hx r (fun s' I' _=>h s' I') hf
theorem Inv.call' {s':Shared}{ch:List Addr}(I:Inv X pins σ H s)(ho:s'.os=s.os)(u:Un (frs X.stack) ch H H' s.heap s'.heap)(hok:HOk X.prog X.w H' s'.heap)(hg:AllBare s'.gens)
  (hch:∀ b∈ch,(b∈X.ex\/X.s₀.heap.objs.size<=b)/\b≠X.env.locals/\(∀ x c,X.env.cells.lookup x=some c->c≠b)/\∀ p∈X.pn++pins,p.1≠b):Inv X pins σ H' s':=by
 obtain⟨h',g',d',t',o'⟩:=s'
 have e:o'=s.os:=ho
 subst e
 exact I.call (g':=g') (t':=t') (d':=d') u hok hg hch
end
abbrev XK:=Value->Option Addr->Hp->Prop
abbrev St:=List (Option V)
abbrev VK:=V->Hp->Prop
abbrev TE:=St->Hp->VK->Prop
abbrev TT:=St->Hp->(Bool->Hp->Prop)->Prop
abbrev TA:=St->Hp->(List V->Hp->Prop)->Prop
structure Z85 where
 nx:St->Hp->Prop
 rt:VK
 bk:St->Hp->Prop:=fun _ _=>False
 ct:St->Hp->Prop:=fun _ _=>False
abbrev TS:=Z85->St->Hp->Prop
def EP (X:Cx)(pins:List (Addr×Obj))(σ:St)(Q:VK)(u:Value)(s':Shared):Prop:=∃ v H',Inv X pins σ H' s'/\Z1p v u/\Q v H'
def TP (X:Cx)(pins:List (Addr×Obj))(σ:St)(Q:Bool->Hp->Prop)(b:Bool)(s':Shared):Prop:=∃ H',Inv X pins σ H' s'/\Q b H'
def AP (X:Cx)(pins:List (Addr×Obj))(σ:St)(Q:List V->Hp->Prop)(us:List Value)(s':Shared):Prop:=∃ vs H',Inv X pins σ H' s'/\Z1c vs us/\Q vs H'
def SP (X:Cx)(pins:List (Addr×Obj))(D:Z85)(f:Flow)(s':Shared):Prop:=
 match f with
 | .next=>∃ σ' H',Inv X pins σ' H' s'/\D.nx σ' H'
 | .brk=>∃ σ' H',Inv X pins σ' H' s'/\D.bk σ' H'
 | .cont=>∃ σ' H',Inv X pins σ' H' s'/\D.ct σ' H'
 | .ret u=>∃ v σ' H',Inv X pins σ' H' s'/\Z1p v u/\D.rt v H'
def PE (X:Cx)(e:Expr)(t:TE):Prop:=
 ∀ (pins:List (Addr×Obj)) (s:Shared) (σ:St) (H:Hp) (Q:VK),Inv X pins σ H s->t σ H Q->wpAny (model X.prog X.w) X.A (eval e X.env) (EP X pins σ Q) X.xe s
def PT (X:Cx)(e:Expr)(t:TT):Prop:=
 ∀ (pins:List (Addr×Obj)) (s:Shared) (σ:St) (H:Hp) (Q:Bool->Hp->Prop),Inv X pins σ H s->t σ H Q->wpAny (model X.prog X.w) X.A (isTrue e X.env (eval e X.env)) (TP X pins σ Q) X.xe s
def PW (X:Cx)(e:Expr)(t:TT):Prop:=
 ∀ (whole:Sem Value) (pins:List (Addr×Obj)) (s:Shared) (σ:St) (H:Hp) (Q:Bool->Hp->Prop),Inv X pins σ H s->t σ H Q->wpAny (model X.prog X.w) X.A (isTrue e X.env whole) (TP X pins σ Q) X.xe s
theorem PW.pt {X:Cx}{e:Expr}{t:TT}(h:PW X e t):PT X e t:=h _
def PA (X:Cx)(es:List Expr)(t:TA):Prop:=
 ∀ (pos:Pos) (pins:List (Addr×Obj)) (s:Shared) (σ:St) (H:Hp) (Q:List V->Hp->Prop),Inv X pins σ H s->t σ H Q->wpAny (model X.prog X.w) X.A (spliced (backTo pos (starEach es X.env))) (AP X pins σ Q) X.xe s
def PS (X:Cx)(st:Stmt)(t:TS):Prop:=
 ∀ (pins:List (Addr×Obj)) (s:Shared) (σ:St) (H:Hp) (D:Z85),Inv X pins σ H s->t D σ H->wpAny (model X.prog X.w) X.A (exec st X.env) (SP X pins D) X.xe s
def PSs (X:Cx)(st:List Stmt)(t:TS):Prop:=
 ∀ (pins:List (Addr×Obj)) (s:Shared) (σ:St) (H:Hp) (D:Z85),Inv X pins σ H s->t D σ H->wpAny (model X.prog X.w) X.A (execs st X.env) (SP X pins D) X.xe s
theorem thn {α:Type}{t:Sem α}{Q Q':α->Shared->Prop}{M:Model}{A:Around}{E:Value->Shared->Prop}{s:Shared}(h:wpAny M A t Q E s)(hQ:∀ a s,Q a s->Q' a s):wpAny M A t Q' E s:=wpAny_mono h hQ fun _ _ x=>x
section
variable {X:Cx}
def Z1w (i:Nat):TE:=fun σ H Q=>∃ v,σ[i]?=some (some v)/\Q v H
def tC (v:V):TE:=fun _ H Q=>Q v H
theorem Zqf {i:Nat}{x:Str}{pos:Pos}(hN:X.N[i]?=some x)(hv:Vis X.env.scope x)(hd:(x == ("__debug__":Str))=false:=by decide)(hcd:(x == ("__classdict__":Str))=false:=by decide):PE X (.Name x pos) (Z1w i):=by
 intro pins s σ H Q I h
 obtain⟨v,e,h⟩:=h
 obtain⟨m,hn,hl⟩:=I.loc
 obtain⟨u,r,l⟩:=hl i x v hN e hv
 have fin:EP X pins σ Q u s:=⟨v,H,I,r,h⟩
 rcases l with ⟨hk,hm⟩ | ⟨hk,c,hc,hcell⟩
 ·exact wpAny_Name (wpAny_loadName_local I.ok.kind hk hn hm fin) hd
 ·rcases hk with hk | hk
  ·exact wpAny_Name (wpAny_loadName_cell I.ok.kind hk hc hcell fin) hd
  ·exact wpAny_Name (wpAny_loadName_free I.ok.kind hk hc hcell fin hcd) hd
theorem Z09 {i j pos}:PE X (.Constant (.int i) j pos) (tC (.int i)):=fun _ _ _ H _ I h=>wpAny_Constant_int ⟨.int i,H,I.tok _,⟨_,rfl⟩,h⟩
theorem Zaf {b j pos}:PE X (.Constant (.bool b) j pos) (tC (.bl b)):=fun _ _ _ H _ I h=>Constant_bool ⟨.bl b,H,I,rfl,h⟩
theorem Z2u {j pos}:PE X (.Constant .none j pos) (tC .non):=fun _ _ _ H _ I h=>Constant_none ⟨.non,H,I,rfl,h⟩
theorem Z1b {x j pos}:PE X (.Constant (.str x) j pos) (tC (.str x)):=fun _ _ _ H _ I h=>Calls.Constant_str ⟨.str x,H,I.tok _,⟨_,rfl⟩,h⟩
def Gl (X:Cx)(x:Str):Prop:=X.env.kindOf x=some .globalImplicit
theorem Z2y {E:Value->Shared->Prop}{pins:List (Addr×Obj)}{s:Shared}{σ:St}{H:Hp}{x:Str}{u:Value}{pos:Pos}{Q:Value->Shared->Prop}(I:Inv X pins σ H s)(hg:Gl X x)(hm:X.mg x=some u)(h:Q u s)
  (hd:(x == ("__debug__":Str))=false:=by decide):wpAny (model X.prog X.w) X.A (eval (.Name x pos) X.env) Q E s:=
 Calls.Name_function_global I.ok.kind hg (Calls.loadGlobal_global (by rw[I.ok.glob]; exact I.mod.glob.keeps I.bk) hm h) hd
theorem Z4x {E:Value->Shared->Prop}{pins:List (Addr×Obj)}{s:Shared}{σ:St}{H:Hp}{x:Str}{u:Value}{pos:Pos}{Q:Value->Shared->Prop}(I:Inv X pins σ H s)(hg:Gl X x)(hm:X.mg x=none)(hv:bootBuiltins x=some u)(h:Q u s)
  (hn:x≠"__name__":=by decide) (hd:(x == ("__debug__":Str))=false:=by decide):wpAny (model X.prog X.w) X.A (eval (.Name x pos) X.env) Q E s:=by
 obtain⟨mb,h1,h2⟩:=I.mod.blt
 exact Calls.Name_function_global I.ok.kind hg (Calls.loadGlobal_builtin (by rw[I.ok.glob]; exact I.mod.glob.keeps I.bk) hm (by rw[I.ok.blt]; exact h1.keeps I.bk) ((h2 x hn).trans hv) h) hd
theorem Z1a {x:Str}{v:V}{u:Value}{pos:Pos}(hg:Gl X x)(hm:X.mg x=some u)(r:Z1p v u)(hd:(x == ("__debug__":Str))=false:=by decide):PE X (.Name x pos) (tC v):=
 fun _ _ _ H _ I h=>Z2y I hg hm ⟨v,H,I,r,h⟩ hd
theorem Z7x {x:Str}{v:V}{u:Value}{pos:Pos}(hg:Gl X x)(hm:X.mg x=none)(hv:bootBuiltins x=some u)(r:Z1p v u)(hn:x≠"__name__":=by decide)(hd:(x == ("__debug__":Str))=false:=by decide):PE X (.Name x pos) (tC v):=
 fun _ _ _ H _ I h=>Z4x I hg hm hv ⟨v,H,I,r,h⟩ hn hd
variable {a b:Expr}{ta tb:TE}{pos:Pos}
def PC (X:Cx)(op:CmpOp)(a b:Expr)(t:TE):Prop:=
 ∀ (pins:List (Addr×Obj)) (s:Shared) (σ:St) (H:Hp) (Q:VK),Inv X pins σ H s->t σ H Q->
  wpAny (model X.prog X.w) X.A (eval a X.env) (fun v s₁=>wpAny (model X.prog X.w) X.A (eval b X.env) (fun u s₂=>wpAny (model X.prog X.w) X.A (compareOp op v u) (EP X pins σ Q) X.xe s₂) X.xe s₁) X.xe s
def tB (t:TE):TT:=fun σ H Q=>t σ H fun x H1=>∃ c,x=.bl c/\Q c H1
theorem Zeu {op:CmpOp}{t:TE}(h:PC X op a b t)(h1:behindInMarks op b=false:=by first | exact nobehind _ (by decide) (by decide) | rfl):PT X (.Compare a [op] [b] pos) (tB t):=by
 intro pins s σ H Q I hw
 refine wpAny_isTrue_Compare1 (thn (h pins s σ H _ I hw) fun v s1 h1=>thn h1 fun u s2 h2=>thn h2 fun c s3 ⟨x,H1,I1,r1,q1⟩=>?_) h1
 obtain⟨d,rfl,q⟩:=q1
 cases r1
 exact wpAny_truthy_bool ⟨H1,I1,q⟩
theorem Z8u {e:Expr}{t:TE}(h:PE X e t)(he:∀ whole,isTrue e X.env whole=(do let v <-whole; standAt e.pos; holding [v] (truthy v)):=by intro _; rfl):PT X e (tB t):=by
 intro pins s σ H Q I hw
 refine isTrue_plain (thn (h pins s σ H _ I hw) fun v s1 ⟨x,H1,I1,r1,q1⟩=>?_) (he _)
 obtain⟨d,rfl,q⟩:=q1
 cases r1
 exact wpAny_truthy_bool ⟨H1,I1,q⟩
variable {tA tB':TT}{rest:List Expr}
def tAnd (t u:TT):TT:=fun σ H Q=>t σ H fun c H1=>if c=true then u σ H1 Q else Q false H1
def tOr (t u:TT):TT:=fun σ H Q=>t σ H fun c H1=>if c=true then Q true H1 else u σ H1 Q
def Zsr (t:TT):TT:=fun σ H Q=>t σ H fun c H1=>Q (!c) H1
theorem Z9i (ha:PT X a tA):PW X (.BoolOp .And [a] pos) tA:=by
 intro wh pins s σ H Q I h
 refine isTrue_and (thn (ha pins s σ H Q I h) fun c s1 e=>?_)
 cases c with
 | true=>exact isTrue_and_nil e
 | false=>exact e
theorem Z66 (ha:PT X a tA):PW X (.BoolOp .Or [a] pos) tA:=by
 intro wh pins s σ H Q I h
 refine isTrue_or (thn (ha pins s σ H Q I h) fun c s1 e=>?_)
 cases c with
 | false=>exact isTrue_or_nil e
 | true=>exact e
theorem Zdg (ha:PT X a tA)(hb:PW X (.BoolOp .And (b :: rest) pos) tB'):PW X (.BoolOp .And (a :: b :: rest) pos) (tAnd tA tB'):=by
 intro wh pins s σ H Q I h
 refine isTrue_and (thn (ha pins s σ H _ I h) fun c s1 ⟨H1,I1,q1⟩=>?_)
 cases c with
 | true=>exact hb wh pins s1 σ H1 Q I1 q1
 | false=>exact⟨H1,I1,q1⟩
theorem Z8i (ha:PT X a tA)(hb:PW X (.BoolOp .Or (b :: rest) pos) tB'):PW X (.BoolOp .Or (a :: b :: rest) pos) (tOr tA tB'):=by
 intro wh pins s σ H Q I h
 refine isTrue_or (thn (ha pins s σ H _ I h) fun c s1 ⟨H1,I1,q1⟩=>?_)
 cases c with
 | true=>exact⟨H1,I1,q1⟩
 | false=>exact hb wh pins s1 σ H1 Q I1 q1
theorem Z8y (ha:PT X a tA):PT X (.UnaryOp .Not a pos) (Zsr tA):=by
 intro pins s σ H Q I h
 exact isTrue_not (ha pins s σ H (fun c H1=>Q (!c) H1) I h)
def Zsq (ta tb:TE):TE:=fun σ H Q=>ta σ H fun x H1=>∃ c,x=.bl c/\if c=true then tb σ H1 Q else Q (.bl false) H1
def Zts (ta:TE):TE:=fun σ H Q=>ta σ H fun x H1=>∃ c,x=.bl c/\Q (.bl (!c)) H1
theorem Zeb {op}{t:TE}(h:PE X a t):PE X (.BoolOp op [a] pos) t:=fun pins s σ H Q I hw=>BoolOp_one (h pins s σ H Q I hw)
theorem Ze7 (ha:PE X a ta)(hb:PE X (.BoolOp .And (b :: rest) pos) tb):PE X (.BoolOp .And (a :: b :: rest) pos) (Zsq ta tb):=by
 intro pins s σ H Q I h
 refine BoolOp_and (thn (ha pins s σ H _ I h) fun v s1 ⟨x,H1,I1,r1,q1⟩=>?_)
 obtain⟨c,rfl,q1⟩:=q1
 cases r1
 refine wpAny_truthy_bool ?_
 cases c with
 | true=>exact hb pins s1 σ H1 Q I1 q1
 | false=>exact⟨.bl false,H1,I1,rfl,q1⟩
theorem Zlx (ha:PE X a ta):PE X (.UnaryOp .Not a pos) (Zts ta):=by
 intro pins s σ H Q I h
 refine UnaryOp_ (thn (ha pins s σ H _ I h) fun v s1 ⟨x,H1,I1,r1,q1⟩=>?_)
 obtain⟨c,rfl,q1⟩:=q1
 cases r1
 exact not_of (wpAny_truthy_bool ⟨.bl (!c),H1,I1,rfl,q1⟩)
end
def SqL (K:Y01)(H:Hp)(a:Addr)(xs:List V):Prop:=
 Rd H a (.lst xs)\/
  ∃ (o:Obj) (its:Array Value) (n:Nat),K.lookup a=some o/\o.cls=.type "list"/\o.dict=none/\o.data=.seq its n/\its.size<=sizeLine/\Z1c xs its.toList
def SqT (K:Y01)(H:Hp)(a:Addr)(xs:List V):Prop:=
 Rd H a (.tup xs)\/
  ∃ (o:Obj) (its:Array Value) (n:Nat),K.lookup a=some o/\o.cls=.type "tuple"/\o.data=.seq its n/\its.size<=sizeLine/\Z1c xs its.toList
def absV:Value->Option V
 | .none=>some .non
 | .bool b=>some (.bl b)
 | .int i _=>some (.int i)
 | .str x _=>some (.str x)
 | .bytes b _=>some (.byt b)
 | .float b _=>some (.flt b)
 | .ref a=>some (.ref a)
 | .type n=>some (.ty n)
 | _=>none
theorem Z1p.abs {x:V}{u:Value}(r:Z1p x u):absV u=some x:=by
 cases x with
 | non=>cases r; rfl
 | bl _=>cases r; rfl
 | int _=>obtain⟨t,rfl⟩:=r; rfl
 | str _=>obtain⟨t,rfl⟩:=r; rfl
 | byt _=>obtain⟨t,rfl⟩:=r; rfl
 | flt _=>obtain⟨t,rfl⟩:=r; rfl
 | ref _=>cases r; rfl
 | ty _=>cases r; rfl
theorem Z1p.inj {x y:V}{u:Value}(r:Z1p x u)(q:Z1p y u):x=y:=Option.some.inj (r.abs.symm.trans q.abs)
theorem Z1c.inj:∀ {xs ys:List V} {us:List Value},Z1c xs us->Z1c ys us->xs=ys
 | _,_,_,.nil,.nil=>rfl
 | _,_,_,.cons r t,.cons r' t'=>by rw[r.inj r',Z1c.inj t t']
section
variable {X:Cx}{pins:List (Addr×Obj)}{σ:St}{H:Hp}{s:Shared}{a:Addr}{xs ys:List V}
theorem SqL.of {K:Y01}(h:H a=some (.lst xs)):SqL K H a xs:=.inl (.inl h)
theorem SqT.of {K:Y01}(h:H a=some (.tup xs)):SqT K H a xs:=.inl (.inl h)
theorem Inv.list (I:Inv X pins σ H s)(h:SqL X.K H a xs):∃ its:List Value,Z1c xs its/\PlainL s.heap a its.toArray/\xs.length<=sizeLine:=by
 rcases h with h | ⟨o,its,n,hk,hc,hd,hs,hz,r⟩
 ·obtain⟨z,its,n,r,e⟩:=h.ok I.hok
  exact⟨its,r,⟨_,n,e,rfl,rfl,rfl⟩,z⟩
 ·refine⟨its.toList,r,⟨o,n,I.kIn a o hk,hc,hd,by simpa using hs⟩,?_⟩
  have e:=r.length
  simp only[Array.length_toList]at e
  omega
theorem Inv.tuple (I:Inv X pins σ H s)(h:SqT X.K H a xs):∃ its:List Value,Z1c xs its/\IsTup s.heap a its.toArray/\xs.length<=sizeLine:=by
 rcases h with h | ⟨o,its,n,hk,hc,hs,hz,r⟩
 ·obtain⟨z,its,r,p⟩:=h.ok I.hok
  exact⟨its,r,p,z.1⟩
 ·refine⟨its.toList,r,⟨o,I.kIn a o hk,hc,n,by simpa using hs⟩,?_⟩
  have e:=r.length
  simp only[Array.length_toList]at e
  omega
theorem Inv.list_inj (I:Inv X pins σ H s)(h:SqL X.K H a xs)(h':SqL X.K H a ys):xs=ys:=by
 obtain⟨its,r,⟨o,n,e,_,_,d⟩,_⟩:=I.list h
 obtain⟨its',r',⟨o',n',e',_,_,d'⟩,_⟩:=I.list h'
 rw[e]at e'; cases e'
 rw[d]at d'
 injection d' with d1 _
 have:its=its':=by simpa using congrArg Array.toList d1
 subst this
 exact r.inj r'
theorem Inv.tuple_inj (I:Inv X pins σ H s)(h:SqT X.K H a xs)(h':SqT X.K H a ys):xs=ys:=by
 obtain⟨its,r,⟨o,e,_,n,d⟩,_⟩:=I.tuple h
 obtain⟨its',r',⟨o',e',_,n',d'⟩,_⟩:=I.tuple h'
 rw[e]at e'; cases e'
 rw[d]at d'
 injection d' with d1 _
 have:its=its':=by simpa using congrArg Array.toList d1
 subst this
 exact r.inj r'
end
abbrev Cx.wish (X:Cx)(E:Value->Shared->Prop):Cx:={ X with xe:=E }
abbrev Cx.nox (X:Cx):Cx:=X.wish fun _ _=>False
theorem Cx.Ok.wish {X:Cx}(ok:X.Ok)(E:Value->Shared->Prop):(X.wish E).Ok:=
 ⟨ok.mod,ok.kind,ok.glob,ok.blt,ok.above,ok.inj,ok.has,ok.cab,ok.hd,ok.frames,ok.stk,ok.exf,ok.bs,ok.bsz,ok.noex,ok.exfs,ok.funs,ok.frf⟩
theorem Cx.Ok.unwish {X:Cx}{E:Value->Shared->Prop}(ok:(X.wish E).Ok):X.Ok:=
 ⟨ok.mod,ok.kind,ok.glob,ok.blt,ok.above,ok.inj,ok.has,ok.cab,ok.hd,ok.frames,ok.stk,ok.exf,ok.bs,ok.bsz,ok.noex,ok.exfs,ok.funs,ok.frf⟩
section
variable {X:Cx}{pins:List (Addr×Obj)}{σ:St}{H:Hp}{s:Shared}{E:Value->Shared->Prop}
theorem Inv.wish (I:Inv X pins σ H s)(E:Value->Shared->Prop):Inv (X.wish E) pins σ H s:=⟨I.ok.wish E,I.os,I.bare,I.base,I.loc,I.cell,I.free,I.freeC,I.pin,I.hok,I.len⟩
theorem Inv.unwish (I:Inv (X.wish E) pins σ H s):Inv X pins σ H s:=⟨I.ok.unwish,I.os,I.bare,I.base,I.loc,I.cell,I.free,I.freeC,I.pin,I.hok,I.len⟩
theorem SP.unwish {D:Z85}{f:Flow}{s':Shared}(h:SP (X.wish E) pins D f s'):SP X pins D f s':=by
 cases f with
 | next=>obtain⟨σ',H',I,q⟩:=h; exact⟨σ',H',I.unwish,q⟩
 | brk=>obtain⟨σ',H',I,q⟩:=h; exact⟨σ',H',I.unwish,q⟩
 | cont=>obtain⟨σ',H',I,q⟩:=h; exact⟨σ',H',I.unwish,q⟩
 | ret u=>obtain⟨v,σ',H',I,r,q⟩:=h; exact⟨v,σ',H',I.unwish,r,q⟩
theorem PSs.nox {st:List Stmt}{t:TS}(h:PSs X.nox st t):PSs X st t:=fun pins s σ H D I hw=>
 wpAny_mono (h pins s σ H D (I.wish _) hw) (fun _ _ q=>q.unwish) fun _ _ z=>False.elim z
end
section
variable {X:Cx}{st:Stmt}{rest:List Stmt}{t u:TS}{e:Expr}{te:TE}{pos:Pos}
def Zg5:TS:=fun D σ H=>D.nx σ H
def Zdh (t u:TS):TS:=fun D σ H=>t { D with nx:=u D } σ H
theorem Z0p:PSs X [] Zg5:=fun _ _ σ H _ I h=>wpAny_execs_nil ⟨σ,H,I,h⟩
theorem Z03 (h1:PS X st t)(h2:PSs X rest u):PSs X (st :: rest) (Zdh t u):=by
 intro pins s σ H D I h
 refine wpAny_execs_cons (thn (h1 pins s σ H { D with nx:=u D } I h) fun f s1 q=>?_)
 cases f with
 | next=>
  obtain⟨σ',H',I',q⟩:=q
  exact h2 pins s1 σ' H' D I' q
 | ret v=>exact q
 | brk=>exact q
 | cont=>exact q
theorem Z07 (h1:PS X st t):PSs X [st] t:=by
 intro pins s σ H D I h
 refine wpAny_execs_cons (thn (h1 pins s σ H D I h) fun f s1 q=>?_)
 cases f with
 | next=>exact wpAny_execs_nil q
 | ret v=>exact q
 | brk=>exact q
 | cont=>exact q
theorem Inv.quiet {pins:List (Addr×Obj)}{σ:St}{H:Hp}{s:Shared}(I:Inv X pins σ H s):interactive X.env=false:=by simp[interactive,I.ok.kind]
def Zt9 (te:TE):TS:=fun D σ H=>te σ H fun _ H1=>D.nx σ H1
theorem Z1s (he:PE X e te)(hs:swapsWith e none pos.line X.env=pure false:=by rfl):PS X (.Expr e pos) (Zt9 te):=by
 intro pins s σ H D I h
 exact wpAny_Expr_any (thn (he pins s σ H _ I h) fun v s1 ⟨x,H1,I1,r1,q1⟩=>⟨σ,H1,I1,q1⟩) I.quiet hs
def Znt (te:TE):TS:=fun D σ H=>te σ H D.rt
theorem Z0o (he:PE X e te):PS X (.Return (some e) pos) (Znt te):=by
 intro pins s σ H D I h
 exact wpAny_Return_some (thn (he pins s σ H _ I h) fun v s1 ⟨x,H1,I1,r1,q1⟩=>⟨x,σ,H1,I1,r1,q1⟩)
def Ztt (c:TT)(t u:TS):TS:=fun D σ H=>c σ H fun b H1=>if b=true then t D σ H1 else u D σ H1
theorem Z1f {c:Expr}{a b:List Stmt}{tc:TT}(hc:PT X c tc)(ha:PSs X a t)(hb:PSs X b u):PS X (.If c a b pos) (Ztt tc t u):=by
 intro pins s σ H D I h
 refine wpAny_If (thn (hc pins s σ H _ I h) fun d s1 ⟨H1,I1,q1⟩=>?_)
 cases d with
 | true=>exact ha pins s1 σ H1 D I1 q1
 | false=>exact hb pins s1 σ H1 D I1 q1
def Zqs:TS:=fun _ _ _=>False
theorem Z4d {sts:List Stmt}:PSs X sts Zqs:=fun _ _ _ _ _ _ h=>h.elim
end
abbrev TG:=V->St->Hp->(St->Hp->Prop)->Prop
abbrev TGs:=List V->St->Hp->(St->Hp->Prop)->Prop
def PG (X:Cx)(target:Expr)(t:TG):Prop:=
 ∀ (pins:List (Addr×Obj)) (s:Shared) (σ:St) (H:Hp) (v:V) (u:Value) (Q:St->Hp->Prop),Inv X pins σ H s->Z1p v u->t v σ H Q->
  wpAny (model X.prog X.w) X.A (assign target X.env u) (fun _ s'=>∃ σ' H',Inv X pins σ' H' s'/\Q σ' H') X.xe s
def PGs (X:Cx)(ts:List Expr)(t:TGs):Prop:=
 ∀ (pins:List (Addr×Obj)) (s:Shared) (σ:St) (H:Hp) (vs:List V) (us:List Value) (Q:St->Hp->Prop),Inv X pins σ H s->Z1c vs us->t vs σ H Q->
  wpAny (model X.prog X.w) X.A (assignInOrder ((assignEach ts X.env).map (·.2)) us) (fun _ s'=>∃ σ' H',Inv X pins σ' H' s'/\Q σ' H') X.xe s
abbrev TSet:=V->V->V->Hp->(Hp->Prop)->Prop
def PSet (X:Cx)(t:TSet):Prop:=
 ∀ (pins:List (Addr×Obj)) (s:Shared) (σ:St) (H:Hp) (o i v:V) (ov iv u:Value) (Q:Hp->Prop),Inv X pins σ H s->Z1p o ov->Z1p i iv->Z1p v u->t o i v H Q->
  wpAny (model X.prog X.w) X.A (setItem ov iv u) (fun _ s'=>∃ H',Inv X pins σ H' s'/\Q H') X.xe s
abbrev TIp:=V->V->Hp->VK->Prop
def PIp (X:Cx)(op:Operator)(t:TIp):Prop:=
 ∀ (pins:List (Addr×Obj)) (s:Shared) (σ:St) (H:Hp) (x y:V) (v u:Value) (Q:VK),Inv X pins σ H s->Z1p x v->Z1p y u->t x y H Q->
  wpAny (model X.prog X.w) X.A (inplaceOp op v u) (EP X pins σ Q) X.xe s
section
variable {X:Cx}{pos:Pos}
def Z25 (i:Nat):TG:=fun v σ H Q=>Q (σ.set i (some v)) H
theorem Z0i {i:Nat}{x:Str}(hN:X.N.Nodup)(hi:X.N[i]?=some x)(hx:Loc X.env.scope x)(hf:X.fn x=true\/X.env.scope.names.lookup x=some .local:=by first | exact .inl rfl | exact .inr rfl | assumption):PG X (.Name x pos) (Z25 i):=by
 intro pins s σ H v u Q I r h
 exact wpAny_assign_Name (Z5j I hN hi hx r (fun s' I'=>⟨_,H,I',h⟩) hf)
def gNil:TGs:=fun vs σ H Q=>vs=[]/\Q σ H
def Zu0 (t:TG)(u:TGs):TGs:=fun vs σ H Q=>∃ v r,vs=v :: r/\t v σ H fun σ' H'=>u r σ' H' Q
theorem Z26:PGs X [] gNil:=by
 intro pins s σ H vs us Q I r h
 obtain⟨e,h⟩:=h
 subst e
 cases r
 exact assignInOrder_nil ⟨σ,H,I,h⟩
theorem Z0s {e:Expr}{es:List Expr}{t:TG}{u:TGs}(h1:PG X e t)(h2:PGs X es u)
  (hs:(assignEach (e :: es) X.env).map (·.2)=assign e X.env :: (assignEach es X.env).map (·.2):=by rfl):PGs X (e :: es) (Zu0 t u):=by
 intro pins s σ H vs us Q I r h
 obtain⟨v,vr,e1,h⟩:=h
 subst e1
 cases r with
 | cons r rr=>
  rw[hs]
  refine assignInOrder_cons (thn (h1 pins s σ H _ _ _ I r h) fun _ s1 ⟨σ1,H1,I1,q1⟩=>?_)
  exact h2 pins s1 σ1 H1 _ _ Q I1 rr q1
def gTup (K:Y01)(n:Nat)(t:TGs):TG:=fun v σ H Q=>∃ a xs,v=.ref a/\SqT K H a xs/\xs.length=n/\t xs σ H Q
theorem Zej {es:List Expr}{k:Nat}{t:TGs}{n:Nat}(hc:X.calm=true)(h:PGs X es t)
  (hn:(assignEach es X.env).length=n:=by rfl) (hst:(assignEach es X.env).findIdx? (·.1)=none:=by rfl):PG X (.Tuple es k pos) (gTup X.K n t):=by
 intro pins s σ H v u Q I r hw
 obtain⟨a,xs,e1,hq,hl,hw⟩:=hw
 subst e1
 cases r
 obtain⟨its,rv,ht,hz⟩:=I.tuple hq
 refine assign_Tuple_tuple (I.ok.hd hc) ht (by simp[hn,<-hl,rv.length]) hst fun h' hx=>?_
 have I1:Inv X pins σ H { s with heap:=h' }:=I.kept (t':=s.toks) fun b o e=>hx b o (Y0l (Y0c e)) e
 exact h pins _ σ H xs _ Q I1 (by simpa using rv) hw
def Zbn (te:TE)(g:TG):TS:=fun D σ H=>te σ H fun x H1=>g x σ H1 D.nx
theorem Zew {tg e:Expr}{te:TE}{g:TG}(he:PE X e te)(hg:PG X tg g)(hs:swapsWithSole [tg] e pos.line X.env=pure false:=by rfl)(hw:swappedStores [tg] e X.env=pure none:=by rfl)
  (h1:(assignEach [tg] X.env).map (·.2)=[assign tg X.env]:=by rfl):PS X (.Assign [tg] e pos) (Zbn te g):=by
 intro pins s σ H D I h
 refine wpAny_Assign_stores (thn (he pins s σ H _ I h) fun v s1 ⟨x,H1,I1,r1,q1⟩=>?_) hs hw
 rw[h1]
 exact thn (hg pins s1 σ H1 x v _ I1 r1 q1) fun _ s2 q=>q
theorem Z0c {i:Nat}{x:Str}{e:Expr}{te:TE}{pos':Pos}(hN:X.N.Nodup)(hi:X.N[i]?=some x)(hx:Loc X.env.scope x)(he:PE X e te)(hs:swapsWith e (some (.Name x pos')) pos.line X.env=pure false:=by rfl)(hf:X.fn x=true\/X.env.scope.names.lookup x=some .local:=by first | exact .inl rfl | exact .inr rfl | assumption) :
  PS X (.Assign [.Name x pos'] e pos) (Zbn te (Z25 i)):=by
 intro pins s σ H D I h
 refine wpAny_Assign_Name (thn (he pins s σ H _ I h) fun v s1 ⟨y,H1,I1,r1,q1⟩=>?_) hs
 exact Z5j I1 hN hi hx r1 (fun s2 I2=>⟨_,H1,I2,q1⟩) hf
def tAug (i:Nat)(te:TE)(ti:TIp):TS:=fun D σ H=>∃ x,σ[i]?=some (some x)/\te σ H fun y H1=>ti x y H1 fun z H2=>D.nx (σ.set i (some z)) H2
theorem Zqa {i:Nat}{x:Str}{e:Expr}{te:TE}{op:Operator}{ti:TIp}{pos':Pos}(hN:X.N.Nodup)(hi:X.N[i]?=some x)(hx:Loc X.env.scope x)(he:PE X e te)(ho:PIp X op ti)(hf:X.fn x=true\/X.env.scope.names.lookup x=some .local:=by first | exact .inl rfl | exact .inr rfl | assumption) :
  PS X (.AugAssign (.Name x pos') op e pos) (tAug i te ti):=by
 intro pins s σ H D I h
 obtain⟨v,e1,h⟩:=h
 obtain⟨m,hn,hl⟩:=I.loc
 have vis:Vis X.env.scope x:=by rcases hx with k | k; exact .inl k; exact .inr (.inl k)
 obtain⟨u,r,l⟩:=hl i x v hi e1 vis
 refine wpAny_AugAssign_Name ?_
 have go:wpAny (model X.prog X.w) X.A (eval e X.env) (fun w s₂=>wpAny (model X.prog X.w) X.A (inplaceOp op u w) (fun r s₃=>wpAny (model X.prog X.w) X.A (storeName X.env x r) (fun _=>SP X pins D .next) X.xe s₃) X.xe s₂) X.xe s:=by
  refine thn (he pins s σ H _ I h) fun w s1 ⟨y,H1,I1,r1,q1⟩=>?_
  refine thn (ho pins s1 σ H1 v y u w _ I1 r r1 q1) fun z s2 ⟨zv,H2,I2,r2,q2⟩=>?_
  exact Z5j I2 hN hi hx r2 (fun s3 I3=>⟨_,H2,I3,q2⟩) hf
 rcases l with ⟨hk,hm⟩ | ⟨hk,c,hc,hcell⟩
 ·exact wpAny_loadName_local I.ok.kind hk hn hm go
 ·rcases hk with hk | hk
  ·exact wpAny_loadName_cell I.ok.kind hk hc hcell go
  ·rcases hx with k | k
   ·have:X.env.scope.names.lookup x=some .free:=hk
    rw[k]at this; cases this
   ·have:X.env.scope.names.lookup x=some .free:=hk
    rw[k]at this; cases this
def ipI (f:Int->Int->Int):TIp:=fun x y H Q=>∃ i j,x=.int i/\y=.int j/\Q (.int (f i j)) H
theorem Zr0:PIp X .Add (ipI fun i j=>i+j):=by
 intro pins s σ H x y v u Q I r1 r2 h
 obtain⟨i,j,e1,e2,q⟩:=h
 subst e1; subst e2
 obtain⟨t,rfl⟩:=r1
 obtain⟨t',rfl⟩:=r2
 exact iadd_int ⟨.int _,H,I.tok _,⟨_,rfl⟩,q⟩
def Zh4 (c:TT)(tb:TS):TS:=fun D σ H=>∃ W:Nat->St->Hp->Prop,(∃ m,W m σ H)/\∀ m σ H,W m σ H->
 c σ H fun b H1=>if b=true then ∃ N:St->Hp->Prop,(∀ σ' H',N σ' H'->∃ m',m' < m/\W m' σ' H')/\tb { D with nx:=N,ct:=N,bk:=D.nx } σ H1 else D.nx σ H1
theorem Z4h {c:Expr}{body:List Stmt}{tc:TT}{tb:TS}(hp:PassesOwn (model X.prog X.w) X.A X.env X.xe)(hc:PT X c tc)(hb:PSs X body tb):PS X (.While c body [] pos) (Zh4 tc tb):=by
 intro pins s σ H D I h
 obtain⟨W,⟨m0,w0⟩,turn⟩:=h
 refine wpAny_While (codeAny_whileLoop (fun n s'=>∃ σ' H',Inv X pins σ' H' s'/\W n σ' H') ?_ m0 ⟨σ,H,I,w0⟩)
 rintro n s1 ⟨σ1,H1,I1,w1⟩
 refine wpAny_passesOwn hp (thn (hc pins s1 σ1 H1 _ I1 (turn n σ1 H1 w1)) fun b s2 ⟨H2,I2,q2⟩=>?_)
 cases b with
 | true=>
  obtain⟨N,hN,q2⟩:=q2
  rw[if_pos rfl]
  refine wpAny_passesOwn hp (thn (hb pins s2 σ1 H2 _ I2 q2) fun f s3 q3=>?_)
  cases f with
  | next=>
   obtain⟨σ3,H3,I3,n3⟩:=q3
   obtain⟨m',hm,w3⟩:=hN σ3 H3 n3
   exact⟨m',hm,σ3,H3,I3,w3⟩
  | cont=>
   obtain⟨σ3,H3,I3,n3⟩:=q3
   obtain⟨m',hm,w3⟩:=hN σ3 H3 n3
   exact⟨m',hm,σ3,H3,I3,w3⟩
  | brk=>exact q3
  | ret v=>exact q3
 | false=>
  rw[if_neg Bool.false_ne_true]
  exact wpAny_execs_nil ⟨σ1,H2,I2,q2⟩
end
structure It where
 go:Nat->Hp->Prop
 yld:Nat->Hp->V->Hp->Prop
 stop:Nat->Hp->Prop
def Zaj (X:Cx)(pins:List (Addr×Obj))(H:Hp)(b:Addr):Prop:=
 H b=none/\b≠X.env.locals/\b∉X.fs/\(b∈X.ex\/X.s₀.heap.objs.size<=b)/\(∀ x c,X.env.cells.lookup x=some c->c≠b)/\∀ p∈X.pn++pins,p.1≠b
theorem Inv.fpOk {X:Cx}{pins:List (Addr×Obj)}{σ:St}{H H':Hp}{s:Shared}{b:Addr}(I:Inv X pins σ H s)(hb:s.heap.objs.size<=b)(hn:H' b=none):Zaj X pins H' b:=by
 refine⟨hn,Nat.ne_of_gt (Y0h I.lt hb),I.nofs hb,.inr (Y17 I.sz hb),fun x c e z=>?_,fun p hp z=>?_⟩
 ·obtain⟨v,q⟩:=I.cell x c e
  exact absurd (Y0h q.lt (by rw[z]; exact hb)) (Y1i _)
 ·exact absurd (Y0h (Y0c (I.pin p hp).1) (by rw[z]; exact hb)) (Y1i _)
structure Zjs (P:Program)(w:World)(K:Y01)(tg:Expr)(J:It)(fp:List Addr)(it:Addr)(tn:Nat->Heap->Prop):Prop where
 mem:it∈fp
 obj:∀ i h,tn i h->∀ b∈fp,∃ o,h.get? b=some o/\∀ v,o.data≠.cell v
 keep:∀ i h h',tn i h->(∀ b∈fp,∀ o,h.get? b=some o->h'.get? b=some o)->tn i h'
 item:∀ (X:Cx),X.prog=P->X.w=w->X.K=K->X.calm=true->∀ (i:Nat) (pins:List (Addr×Obj)) (s:Shared) (σ:St) (H:Hp) (E:Value->Shared->Prop),Inv X pins σ H s->(∀ b∈fp,Zaj X pins H b)->tn i s.heap->J.go i H->
  wpAny (model P w) X.A (pyNext (.ref it)) (fun r s1=>∃ u,r=some u/\
   wpAny (model P w) X.A (letOwnedTupleGo tg (.ref it) u) (fun _ s2=>∃ x H',Inv X pins σ H' s2/\Z1p x u/\J.yld i H x H'/\tn (i+1) s2.heap/\∀ b∈fp,H' b=none) E s1) E s
 done:∀ (X:Cx),X.prog=P->X.w=w->X.K=K->X.calm=true->∀ (i:Nat) (pins:List (Addr×Obj)) (s:Shared) (σ:St) (H:Hp) (E:Value->Shared->Prop),Inv X pins σ H s->(∀ b∈fp,Zaj X pins H b)->tn i s.heap->J.stop i H->
  wpAny (model P w) X.A (pyNext (.ref it)) (fun r s1=>r=none/\Inv X pins σ H s1) E s
 self:∀ (A:Around) (i:Nat) (s:Shared) (Q:Value->Shared->Prop) (E:Value->Shared->Prop),tn i s.heap->Q (.ref it) s->wpAny (model P w) A (pyIter (.ref it)) Q E s
abbrev TI:=St->Hp->(It->Hp->Prop)->Prop
def PIE (X:Cx)(pins:List (Addr×Obj))(σ:St)(tg:Expr)(R:It->Hp->Prop)(itv:Value)(s2:Shared):Prop:=
 ∃ (it:Addr) (fp:List Addr) (tn:Nat->Heap->Prop) (J:It) (H':Hp),itv=.ref it/\Inv X pins σ H' s2/\Zjs X.prog X.w X.K tg J fp it tn/\tn 0 s2.heap/\(∀ b∈fp,Zaj X pins H' b)/\R J H'
def PI (X:Cx)(tg iter:Expr)(wi:TI):Prop:=
 ∀ (pins:List (Addr×Obj)) (s:Shared) (σ:St) (H:Hp) (R:It->Hp->Prop),Inv X pins σ H s->wi σ H R->
  wpAny (model X.prog X.w) X.A (eval iter X.env) (fun v s1=>wpAny (model X.prog X.w) X.A (pyIter v) (PIE X pins σ tg R) X.xe s1) X.xe s
theorem Zfx {M:Model}{A:Around}{E:Value->Shared->Prop}{s:Shared}{tg:Expr}{it:Addr}{u:Value}{o:Obj}{n:String}{vs:Array Value}{Q:Unit->Shared->Prop}(ho:s.heap.get? it=some o)(hc:o.cls=.type n)(hd:o.data=.fields vs)
  (hn:["enumerate","zip","dict_itemiterator","dict_reverseitemiterator","odict_iterator","itertools.zip_longest","itertools.pairwise"].contains n=false) (hQ:Q () s):wpAny M A (letOwnedTupleGo tg (.ref it) u) Q E s:=by
 unfold letOwnedTupleGo
 cases tg <;> first
  | exact wpAny_pure hQ
  | (cases u <;> first
    | exact wpAny_pure hQ
    | (refine wpAny_bind (wpAny_load ho ?_); rw[hc,hd]; show wpAny M A (if (["enumerate","zip","dict_itemiterator","dict_reverseitemiterator","odict_iterator","itertools.zip_longest","itertools.pairwise"].contains n && vs[0]? == some (rawInt _))=true then _ else _) Q E s; rw[if_neg (by intro h; rw[hn,Bool.false_and]at h; cases h)]; exact wpAny_pure hQ))
def Itl (K:Y01)(a:Addr):It:=
 ⟨fun i H=>∃ xs x,SqL K H a xs/\xs[i]?=some x,fun i H x H'=>H'=H/\∀ xs,SqL K H a xs->xs[i]?=some x,fun i H=>∃ xs,SqL K H a xs/\xs.length<=i⟩
def Itt (K:Y01)(a:Addr):It:=
 ⟨fun i H=>∃ xs x,SqT K H a xs/\xs[i]?=some x,fun i H x H'=>H'=H/\∀ xs,SqT K H a xs->xs[i]?=some x,fun i H=>∃ xs,SqT K H a xs/\xs.length<=i⟩
def Itr (lo:Int)(n:Nat):It:=⟨fun i _=>i < n,fun i H x H'=>H'=H/\x=.int (lo+i),fun i _=>n<=i⟩
theorem Zik {P:Program}{w:World}{K:Y01}{tg:Expr}(a it:Addr):Zjs P w K tg (Itl K a) [it] it (fun i h=>h.IsListIter it a i) where
 mem:=by simp
 obj:=fun i h st b hb=>by
  have e:b=it:=by simpa using hb
  subst e
  obtain⟨o,e,c,d⟩:=st
  exact⟨o,e,fun v z=>by rw[d]at z; cases z⟩
 keep:=fun i h h' st k=>st.at fun o e=>k it (by simp) o e
 item:=by
  intro X hP hw hK hc i pins s σ H E I hf st hg
  subst hP hw hK
  obtain⟨xs,x,hq,hx⟩:=hg
  obtain⟨its,rv,p,hz⟩:=I.list hq
  obtain⟨u,hu,ru⟩:=rv.get hx
  obtain⟨f0,f1,f2,f3,f4,f5⟩:=hf it (by simp)
  refine wpAny_pyNext_list_item st p.isList (x:=u) (by simpa using hu) fun h' st' sb=>?_
  have I1:Inv X pins σ H { s with heap:=h' }:=I.turned (t':=s.toks) (fun b o hb e=>(sb.2 b hb).trans e) f0 f1 f3 f4 f5
  obtain⟨o,e,c,d⟩:=id st'
  exact⟨u,rfl,Zfx (s:={ s with heap:=h' }) e c d (by decide) ⟨x,H,I1,ru,⟨rfl,fun ys hy=>by rw[I.list_inj hy hq]; exact hx⟩,st',fun b hb=>(hf b hb).1⟩⟩
 done:=by
  intro X hP hw hK hc i pins s σ H E I hf st hg
  subst hP hw hK
  obtain⟨xs,hq,hx⟩:=hg
  obtain⟨its,rv,p,hz⟩:=I.list hq
  obtain⟨f0,f1,f2,f3,f4,f5⟩:=hf it (by simp)
  have hl:=rv.length
  exact wpAny_pyNext_list_end (I.ok.hd hc) st p.isList (by simp; omega) fun h' eb=>⟨rfl,I.turned (t':=s.toks) (fun b o hb e=>eb b o hb e) f0 f1 f3 f4 f5⟩
 self:=fun _ _ _ _ _ st h=>wpAny_pyIter_listiter st h
theorem Zfm {P:Program}{w:World}{K:Y01}{tg:Expr}(a it:Addr):Zjs P w K tg (Itt K a) [it] it (fun i h=>h.IsTupleIter it a i) where
 mem:=by simp
 obj:=fun i h st b hb=>by
  have e:b=it:=by simpa using hb
  subst e
  obtain⟨o,e,c,d⟩:=st
  exact⟨o,e,fun v z=>by rw[d]at z; cases z⟩
 keep:=fun i h h' st k=>st.at fun o e=>k it (by simp) o e
 item:=by
  intro X hP hw hK hc i pins s σ H E I hf st hg
  subst hP hw hK
  obtain⟨xs,x,hq,hx⟩:=hg
  obtain⟨its,rv,p,hz⟩:=I.tuple hq
  obtain⟨u,hu,ru⟩:=rv.get hx
  obtain⟨f0,f1,f2,f3,f4,f5⟩:=hf it (by simp)
  refine wpAny_pyNext_tuple_item st (show s.heap.IsTuple a its.toArray from p) (x:=u) (by simpa using hu) fun h' st' sb=>?_
  have I1:Inv X pins σ H { s with heap:=h' }:=I.turned (t':=s.toks) (fun b o hb e=>(sb.2 b hb).trans e) f0 f1 f3 f4 f5
  obtain⟨o,e,c,d⟩:=id st'
  exact⟨u,rfl,Zfx (s:={ s with heap:=h' }) e c d (by decide) ⟨x,H,I1,ru,⟨rfl,fun ys hy=>by rw[I.tuple_inj hy hq]; exact hx⟩,st',fun b hb=>(hf b hb).1⟩⟩
 done:=by
  intro X hP hw hK hc i pins s σ H E I hf st hg
  subst hP hw hK
  obtain⟨xs,hq,hx⟩:=hg
  obtain⟨its,rv,p,hz⟩:=I.tuple hq
  obtain⟨f0,f1,f2,f3,f4,f5⟩:=hf it (by simp)
  have hl:=rv.length
  exact wpAny_pyNext_tuple_end (I.ok.hd hc) st (show s.heap.IsTuple a its.toArray from p) (by simp; omega) fun h' eb=>⟨rfl,I.turned (t':=s.toks) (fun b o hb e=>eb b o hb e) f0 f1 f3 f4 f5⟩
 self:=fun _ _ _ _ _ st h=>wpAny_pyIter_tupleiter st h
theorem Z61 {P:Program}{w:World}{K:Y01}{tg:Expr}(it:Addr)(lo:Int)(n:Nat):Zjs P w K tg (Itr lo n) [it] it (fun i h=>IsRangeIter h it (lo+(i:Nat) * 1) ((n:Int) - (i:Nat)) 1) where
 mem:=by simp
 obj:=fun i h st b hb=>by
  have e:b=it:=by simpa using hb
  subst e
  exact⟨_,st,fun v z=>by
   have z':Data.fields _=Data.cell v:=z
   cases z'⟩
 keep:=fun i h h' st k=>k it (by simp) _ st
 item:=by
  intro X hP hw hK hc i pins s σ H E I hf st hg
  subst hP hw hK
  obtain⟨f0,f1,f2,f3,f4,f5⟩:=hf it (by simp)
  have W:=Walks.range (prog:=X.prog) (w:=X.w) (I.ok.hd hc) it lo 1 n
  refine W.item i s _ _ hg st fun v h' tk hv st' kk=>?_
  obtain⟨t,rfl⟩:=hv
  have I1:Inv X pins σ H { s with heap:=h',toks:=tk }:=I.turned (fun b o hb e=>kk b o (by simpa using hb) e) f0 f1 f3 f4 f5
  refine⟨_,rfl,Zfx (s:={ s with heap:=h',toks:=tk }) (n:="range_iterator") st' rfl rfl (by decide) ⟨.int (lo+i),H,I1,⟨t,?_⟩,⟨rfl,rfl⟩,st',fun b hb=>(hf b hb).1⟩⟩
  rw[Int.mul_one]
 done:=by
  intro X hP hw hK hc i pins s σ H E I hf st hg
  subst hP hw hK
  obtain⟨f0,f1,f2,f3,f4,f5⟩:=hf it (by simp)
  exact wpAny_pyNext_range_end (I.ok.hd hc) st (by have:n<=i:=hg; omega) fun h' eb=>⟨rfl,I.turned (t':=s.toks) (fun b o hb e=>eb b o hb e) f0 f1 f3 f4 f5⟩
 self:=fun _ _ _ _ _ st h=>wpAny_pyIter_rangeiter st h
section
variable {X:Cx}{tg:Expr}
def Zfi (K:Y01)(tl:TE):TI:=fun σ H R=>tl σ H fun x H1=>∃ a,x=.ref a/\(∃ xs,SqL K H1 a xs)/\R (Itl K a) H1
def Zt6 (K:Y01)(tl:TE):TI:=fun σ H R=>tl σ H fun x H1=>∃ a,x=.ref a/\(∃ xs,SqT K H1 a xs)/\R (Itt K a) H1
theorem Z1x {l:Expr}{tl:TE}(hl:PE X l tl):PI X tg l (Zfi X.K tl):=by
 intro pins s σ H R I h
 refine thn (hl pins s σ H _ I h) fun v s1 ⟨x,H1,I1,r1,q1⟩=>?_
 obtain⟨a,e,⟨xs,hq⟩,q⟩:=q1
 subst e
 cases r1
 obtain⟨its,rv,p,hz⟩:=I1.list hq
 refine wpAny_pyIter_list p.isList ?_
 refine⟨s1.heap.objs.size,[s1.heap.objs.size],_,_,H1,rfl,I1.kept (t':=s1.toks) fun b o e=>Y02 _ e,Zik a _,⟨_,Y0b _ rfl,rfl,rfl⟩,fun b hb=>?_,q⟩
 have e:b=s1.heap.objs.size:=by simpa using hb
 subst e
 exact I1.fpOk (Y06 _) (I1.hok.fresh (Y06 _))
theorem Zez {l:Expr}{tl:TE}(hl:PE X l tl):PI X tg l (Zt6 X.K tl):=by
 intro pins s σ H R I h
 refine thn (hl pins s σ H _ I h) fun v s1 ⟨x,H1,I1,r1,q1⟩=>?_
 obtain⟨a,e,⟨xs,hq⟩,q⟩:=q1
 subst e
 cases r1
 obtain⟨its,rv,p,hz⟩:=I1.tuple hq
 refine wpAny_pyIter_tuple (show s1.heap.IsTuple a its.toArray from p) ?_
 refine⟨s1.heap.objs.size,[s1.heap.objs.size],_,_,H1,rfl,I1.kept (t':=s1.toks) fun b o e=>Y02 _ e,Zfm a _,⟨_,Y0b _ rfl,rfl,rfl⟩,fun b hb=>?_,q⟩
 have e:b=s1.heap.objs.size:=by simpa using hb
 subst e
 exact I1.fpOk (Y06 _) (I1.hok.fresh (Y06 _))
theorem Zk3 {pins:List (Addr×Obj)}{σ:St}{H:Hp}{s:Shared}{R:It->Hp->Prop}{E:Value->Shared->Prop}{lo hi:Int}{t u v:Tok}{tk:Nat}(I:Inv X pins σ H s)(h1:-(2 ^ 62)<=lo)(h2:lo < 2 ^ 62)(h3:-(2 ^ 62)<=hi)(h4:hi < 2 ^ 62)
  (q:R (Itr lo (hi - lo).toNat) H):wpAny (model X.prog X.w) X.A (pyIter (.ref s.heap.objs.size)) (PIE X pins σ tg R) E { s with heap:=s.heap.push { cls:=.type "range",data:=.fields #[.int lo t,.int hi u,.int 1 v] },toks:=tk }:=by
 refine wpAny_pyIter_range (IsRange.new ..) (small_one h1 h2 h3 h4) ?_
 have I1:Inv X pins σ H { s with heap:=s.heap.push { cls:=.type "range",data:=.fields #[.int lo t,.int hi u,.int 1 v] },toks:=tk }:=I.kept fun b o e=>Y02 _ e
 refine⟨(s.heap.push { cls:=.type "range",data:=.fields #[.int lo t,.int hi u,.int 1 v] }).objs.size,[(s.heap.push { cls:=.type "range",data:=.fields #[.int lo t,.int hi u,.int 1 v] }).objs.size],_,_,H,rfl,
  I1.kept (t':=tk) fun b o e=>Y02 _ e,Z61 _ lo (hi - lo).toNat,?_,fun b hb=>?_,q⟩
 ·have e1:lo+((0:Nat):Int) * 1=lo:=by simp
  have e2:(((hi - lo).toNat:Nat):Int) - ((0:Nat):Int)=Builtin.Range.rangeSize lo hi 1:=by rw[rangeSize_one]; split <;> omega
  show IsRangeIter _ _ (lo+((0:Nat):Int) * 1) ((((hi - lo).toNat:Nat):Int) - ((0:Nat):Int)) 1
  rw[e1,e2]
  exact Y0b _ rfl
 ·have e:b=(s.heap.push { cls:=.type "range",data:=.fields #[.int lo t,.int hi u,.int 1 v] }).objs.size:=by simpa using hb
  subst e
  exact I1.fpOk (Y06 _) (I1.hok.fresh (Y06 _))
def Zg0 (ta:TA):TI:=fun σ H R=>ta σ H fun vs H1=>∃ j:Int,vs=[.int j]/\-(2 ^ 62)<=j/\j < 2 ^ 62/\R (Itr 0 j.toNat) H1
theorem Z1n {a:Expr}{ta:TA}{p pos:Pos}(hg:Gl X "range")(hm:X.mg "range"=none)(ha:PA X [a] ta)(hs:starEach [a] X.env=[(false,eval a X.env)]:=by rfl):PI X tg (.Call (.Name "range" p) [a] [] pos) (Zg0 ta):=by
 intro pins s σ H R I h
 refine Call_ (Z4x I hg hm boot_range (PyProof.Rows.callWith_type1 (thn (ha pos pins s σ H _ I h) fun us s1 ⟨vs,H1,I1,r1,q1⟩=>?_) hs rfl))
 obtain⟨j,e,q1,q2,q⟩:=q1
 subst e
 cases r1 with
 | cons r rr=>
  cases rr
  obtain⟨t,rfl⟩:=r
  exact call_range_1 (Zk3 I1 (by omega) (by omega) q1 q2 (by simpa using q))
def tFor (wi:TI)(g:TG)(tb:TS):TS:=fun D σ H=>wi σ H fun J H1=>∃ W:Nat->Nat->St->Hp->Prop,(∃ m,W 0 m σ H1)/\∀ i m σ H,W i m σ H->
 (J.stop i H/\D.nx σ H)\/(J.go i H/\∃ N:St->Hp->Prop,(∀ σ' H',N σ' H'->∃ m',m' < m/\W (i+1) m' σ' H')/\∀ x H',J.yld i H x H'->g x σ H' fun σ2 H2=>tb { D with nx:=N,ct:=N,bk:=D.nx } σ2 H2)
def Zdw (fp:List Addr)(h:Heap):List (Addr×Obj):=fp.filterMap fun b=>(h.get? b).map fun o=>(b,o)
theorem Z18 {fp:List Addr}{h:Heap}{b:Addr}{o:Obj}(hb:b∈fp)(e:h.get? b=some o):(b,o)∈Zdw fp h:=List.mem_filterMap.mpr ⟨b,hb,by rw[e]; rfl⟩
theorem Zhv {fp:List Addr}{h:Heap}{p:Addr×Obj}(hp:p∈Zdw fp h):p.1∈fp/\h.get? p.1=some p.2:=by
 obtain⟨b,hb,e⟩:=List.mem_filterMap.mp hp
 cases q:h.get? b with
 | none=>rw[q]at e; cases e
 | some o=>
  rw[q]at e
  have e':(b,o)=p:=Option.some.inj e
  subst e'
  exact⟨hb,q⟩
theorem Inv.pinned {pins:List (Addr×Obj)}{σ:St}{H:Hp}{s:Shared}{fp:List Addr}(I:Inv X pins σ H s)(hf:∀ b∈fp,Zaj X pins H b)(ho:∀ b∈fp,∃ o,s.heap.get? b=some o/\∀ v,o.data≠.cell v):Inv X (pins++Zdw fp s.heap) σ H s:=
 I.pins_of fun p hp=>(Y0n.mp hp).elim (fun z=>I.pin p (Y0k _ z)) fun z=>by
  obtain⟨hb,e⟩:=Zhv z
  obtain⟨f0,f1,f2,_⟩:=hf p.1 hb
  obtain⟨o,e',d⟩:=ho p.1 hb
  rw[e]at e'; cases e'
  exact⟨e,f0,f1,f2,d⟩
theorem Inv.unpinned {pins pl:List (Addr×Obj)}{σ:St}{H:Hp}{s:Shared}(I:Inv X (pins++pl) σ H s):Inv X pins σ H s:=I.pins_of fun p hp=>I.pin p (Y0k _ (Y2c _ hp))
theorem Z1o {iter:Expr}{body:List Stmt}{wi:TI}{g:TG}{tb:TS}{pos:Pos}(hp:PassesOwn (model X.prog X.w) X.A X.env X.xe)(hc:X.calm=true)(hi:PI X tg iter wi)(hg:PG X tg g)(hb:PSs X body tb)
  (hs:∀ x,foldedSetIterable iter X.env x=pure x:=by intro _; rfl):PS X (.For tg iter body [] pos) (tFor wi g tb):=by
 intro pins s σ H D I h
 refine wpAny_For (thn (hi pins s σ H _ I h) fun v s1 h1=>thn h1 fun itv s2 h2=>?_) hs
 obtain⟨it,fp,tn,J,H2,e,I2,T,st2,f2,W,⟨m0,w0⟩,turn⟩:=h2
 subst e
 have stat:∀ {H':Hp},(∀ b∈fp,H' b=none)->∀ b∈fp,Zaj X pins H' b:=fun hn b hb=>⟨hn b hb,(f2 b hb).2⟩
 refine codeAny_forLoop_any (fun n s'=>∃ i σ' H',Inv X pins σ' H' s'/\tn i s'.heap/\(∀ b∈fp,H' b=none)/\W i n σ' H') ?_ m0 ⟨0,σ,H2,I2,st2,fun b hb=>(f2 b hb).1,w0⟩
 rintro n s3 ⟨i,σ3,H3,I3,st3,fr3,w3⟩
 rcases turn i n σ3 H3 w3 with ⟨stop,qn⟩ | ⟨go,N,hN,step⟩
 ·refine wpAny_passesOwn hp (thn (T.done X rfl rfl rfl hc i pins s3 σ3 H3 X.xe I3 (stat fr3) st3 stop) fun r s4 ⟨hr,I4⟩=>?_)
  subst hr
  exact wpAny_execs_nil ⟨σ3,H3,I4,qn⟩
 ·refine wpAny_passesOwn hp (thn (T.item X rfl rfl rfl hc i pins s3 σ3 H3 X.xe I3 (stat fr3) st3 go) fun r s4 ⟨u,hr,h4⟩=>?_)
  subst hr
  refine wpAny_passesOwn hp (thn h4 fun _ s5 ⟨x,H5,I5,r5,y5,st5,fr5⟩=>?_)
  have I5':=I5.pinned (stat fr5) (T.obj _ _ st5)
  refine wpAny_passesOwn hp (thn (hg _ s5 σ3 H5 x u _ I5' r5 (step x H5 y5)) fun _ s6 ⟨σ6,H6,I6,q6⟩=>?_)
  refine wpAny_passesOwn hp (thn (hb _ s6 σ6 H6 _ I6 q6) fun f s7 q7=>?_)
  have again:∀ {σ7:St} {H7:Hp},Inv X (pins++Zdw fp s5.heap) σ7 H7 s7->N σ7 H7->∃ m,m < n/\∃ i σ' H',Inv X pins σ' H' s7/\tn i s7.heap/\(∀ b∈fp,H' b=none)/\W i m σ' H':=fun {σ7 H7} I7 n7=>by
   obtain⟨m',hm,w7⟩:=hN σ7 H7 n7
   refine⟨m',hm,i+1,σ7,H7,I7.unpinned,T.keep _ _ _ st5 fun b hb o e=>(I7.pin (b,o) (Y0k _ (Y0k _ (Z18 hb e)))).1,fun b hb=>?_,w7⟩
   obtain⟨o,e,d⟩:=T.obj _ _ st5 b hb
   exact (I7.pin (b,o) (Y0k _ (Y0k _ (Z18 hb e)))).2.1
  cases f with
  | next=>obtain⟨σ7,H7,I7,n7⟩:=q7; exact again I7 n7
  | cont=>obtain⟨σ7,H7,I7,n7⟩:=q7; exact again I7 n7
  | brk=>obtain⟨σ7,H7,I7,q7⟩:=q7; exact⟨σ7,H7,I7.unpinned,q7⟩
  | ret v=>obtain⟨x7,σ7,H7,I7,r7,q7⟩:=q7; exact⟨x7,σ7,H7,I7.unpinned,r7,q7⟩
end
theorem Z4m {K:Y01}{a:Addr}{xs:List V}{g:TG}{tb:TS}{D:Z85}{σ:St}{H:Hp}(Pv:Nat->St->Hp->Prop)(h0:Pv 0 σ H)(hl:∀ i σ H,i<=xs.length->Pv i σ H->SqL K H a xs)
  (hs:∀ i x σ H,xs[i]?=some x->Pv i σ H->g x σ H fun σ2 H2=>tb { D with nx:=Pv (i+1),ct:=Pv (i+1),bk:=D.nx } σ2 H2) (hd:∀ σ H,Pv xs.length σ H->D.nx σ H) :
  ∃ W:Nat->Nat->St->Hp->Prop,(∃ m,W 0 m σ H)/\∀ i m σ H,W i m σ H->
   ((Itl K a).stop i H/\D.nx σ H)\/((Itl K a).go i H/\∃ N:St->Hp->Prop,(∀ σ' H',N σ' H'->∃ m',m' < m/\W (i+1) m' σ' H')/\∀ x H',(Itl K a).yld i H x H'->g x σ H' fun σ2 H2=>tb { D with nx:=N,ct:=N,bk:=D.nx } σ2 H2):=by
 refine⟨fun i m σ H=>m=xs.length - i/\i<=xs.length/\Pv i σ H,⟨xs.length,by simp,Y0w _,h0⟩,?_⟩
 rintro i m σ H ⟨rfl,hi,p⟩
 have q:=hl i σ H hi p
 by_cases hlt:i < xs.length
 ·refine .inr ⟨⟨xs,xs[i],q,by simp[hlt]⟩,Pv (i+1),fun σ' H' p'=>⟨xs.length - (i+1),by omega,rfl,hlt,p'⟩,fun x H' y=>?_⟩
  obtain⟨e,y⟩:=y
  subst e
  exact hs i x σ _ (y xs q) p
 ·have e:i=xs.length:=by omega
  subst e
  exact .inl ⟨⟨xs,q,Y06 _⟩,hd σ H p⟩
theorem Zi7 {K:Y01}{a:Addr}{xs:List V}{g:TG}{tb:TS}{D:Z85}{σ:St}{H:Hp}(Pv:Nat->St->Hp->Prop)(h0:Pv 0 σ H)(hl:∀ i σ H,i<=xs.length->Pv i σ H->SqT K H a xs)
  (hs:∀ i x σ H,xs[i]?=some x->Pv i σ H->g x σ H fun σ2 H2=>tb { D with nx:=Pv (i+1),ct:=Pv (i+1),bk:=D.nx } σ2 H2) (hd:∀ σ H,Pv xs.length σ H->D.nx σ H) :
  ∃ W:Nat->Nat->St->Hp->Prop,(∃ m,W 0 m σ H)/\∀ i m σ H,W i m σ H->
   ((Itt K a).stop i H/\D.nx σ H)\/((Itt K a).go i H/\∃ N:St->Hp->Prop,(∀ σ' H',N σ' H'->∃ m',m' < m/\W (i+1) m' σ' H')/\∀ x H',(Itt K a).yld i H x H'->g x σ H' fun σ2 H2=>tb { D with nx:=N,ct:=N,bk:=D.nx } σ2 H2):=by
 refine⟨fun i m σ H=>m=xs.length - i/\i<=xs.length/\Pv i σ H,⟨xs.length,by simp,Y0w _,h0⟩,?_⟩
 rintro i m σ H ⟨rfl,hi,p⟩
 have q:=hl i σ H hi p
 by_cases hlt:i < xs.length
 ·refine .inr ⟨⟨xs,xs[i],q,by simp[hlt]⟩,Pv (i+1),fun σ' H' p'=>⟨xs.length - (i+1),by omega,rfl,hlt,p'⟩,fun x H' y=>?_⟩
  obtain⟨e,y⟩:=y
  subst e
  exact hs i x σ _ (y xs q) p
 ·have e:i=xs.length:=by omega
  subst e
  exact .inl ⟨⟨xs,q,Y06 _⟩,hd σ H p⟩
theorem Z2g {lo:Int}{n:Nat}{g:TG}{tb:TS}{D:Z85}{σ:St}{H:Hp}(Pv:Nat->St->Hp->Prop)(h0:Pv 0 σ H)
  (hs:∀ i σ H,i < n->Pv i σ H->g (.int (lo+i)) σ H fun σ2 H2=>tb { D with nx:=Pv (i+1),ct:=Pv (i+1),bk:=D.nx } σ2 H2) (hd:∀ σ H,Pv n σ H->D.nx σ H) :
  ∃ W:Nat->Nat->St->Hp->Prop,(∃ m,W 0 m σ H)/\∀ i m σ H,W i m σ H->
   ((Itr lo n).stop i H/\D.nx σ H)\/((Itr lo n).go i H/\∃ N:St->Hp->Prop,(∀ σ' H',N σ' H'->∃ m',m' < m/\W (i+1) m' σ' H')/\∀ x H',(Itr lo n).yld i H x H'->g x σ H' fun σ2 H2=>tb { D with nx:=N,ct:=N,bk:=D.nx } σ2 H2):=by
 refine⟨fun i m σ H=>m=n - i/\i<=n/\Pv i σ H,⟨n,by simp,Y0w _,h0⟩,?_⟩
 rintro i m σ H ⟨rfl,hi,p⟩
 by_cases hlt:i < n
 ·refine .inr ⟨hlt,Pv (i+1),fun σ' H' p'=>⟨n - (i+1),by omega,rfl,hlt,p'⟩,fun x H' y=>?_⟩
  obtain⟨e,y⟩:=y
  subst e y
  exact hs i σ _ hlt p
 ·have e:i=n:=by omega
  subst e
  exact .inl ⟨Y06 _,hd σ H p⟩
theorem Z5m {c:TT}{tb:TS}{D:Z85}{σ:St}{H:Hp}(Pv:St->Hp->Prop)(μ:St->Hp->Nat)(h0:Pv σ H)
  (hs:∀ σ H,Pv σ H->c σ H fun b H1=>if b=true then tb { D with nx:=fun σ' H'=>Pv σ' H'/\μ σ' H' < μ σ H,ct:=fun σ' H'=>Pv σ' H'/\μ σ' H' < μ σ H,bk:=D.nx } σ H1 else D.nx σ H1)
  (mono:∀ σ H Q Q',(∀ b H1,Q b H1->Q' b H1)->c σ H Q->c σ H Q'):Zh4 c tb D σ H:=by
 refine⟨fun m σ H=>m=μ σ H/\Pv σ H,⟨_,rfl,h0⟩,?_⟩
 rintro m σ H ⟨rfl,p⟩
 refine mono σ H _ _ (fun b H1 q=>?_) (hs σ H p)
 cases b with
 | true=>exact⟨_,fun σ' H' ⟨p',l⟩=>⟨_,l,rfl,p'⟩,q⟩
 | false=>exact q
abbrev R2:=V->V->Hp->VK->Prop
def OpR (X:Cx)(f:Value->Value->Sem Value)(r:R2):Prop:=
 ∀ (pins:List (Addr×Obj)) (s:Shared) (σ:St) (H:Hp) (x y:V) (v u:Value) (Q:VK),Inv X pins σ H s->Z1p x v->Z1p y u->r x y H Q->
  wpAny (model X.prog X.w) X.A (f v u) (EP X pins σ Q) X.xe s
def UnR (X:Cx)(f:Value->Sem Value)(r:V->Hp->VK->Prop):Prop:=
 ∀ (pins:List (Addr×Obj)) (s:Shared) (σ:St) (H:Hp) (x:V) (v:Value) (Q:VK),Inv X pins σ H s->Z1p x v->r x H Q->
  wpAny (model X.prog X.w) X.A (f v) (EP X pins σ Q) X.xe s
def Z33 (X:Cx)(f:Value)(r:List V->Hp->VK->Prop):Prop:=
 ∀ (pins:List (Addr×Obj)) (s:Shared) (σ:St) (H:Hp) (xs:List V) (us:List Value) (Q:VK),Inv X pins σ H s->Z1c xs us->r xs H Q->
  wpAny (model X.prog X.w) X.A (call f us) (EP X pins σ Q) X.xe s
def tOp (r:R2)(ta tb:TE):TE:=fun σ H Q=>ta σ H fun x H1=>tb σ H1 fun y H2=>r x y H2 Q
def tUn (r:V->Hp->VK->Prop)(ta:TE):TE:=fun σ H Q=>ta σ H fun x H1=>r x H1 Q
def rI (C:Int->Int->Prop)(g:Int->Int->V):R2:=fun x y H Q=>∃ i j,x=.int i/\y=.int j/\C i j/\Q (g i j) H
def rI0 (g:Int->Int->V):R2:=fun x y H Q=>∃ i j,x=.int i/\y=.int j/\Q (g i j) H
def rU (g:Int->V):V->Hp->VK->Prop:=fun x H Q=>∃ i,x=.int i/\Q (g i) H
section
variable {X:Cx}{a b c:Expr}{ta tb tc:TE}{pos:Pos}
theorem Ztr (ha:PE X a ta)(hb:PE X b tb){pins:List (Addr×Obj)}{s:Shared}{σ:St}{H:Hp}{R:V->V->Hp->Prop}(I:Inv X pins σ H s)
  (h:ta σ H fun x H1=>tb σ H1 fun y H2=>R x y H2) {Q:Value->Shared->Prop} {f:Value->Value->Sem Value}
  (hf:∀ v u s2 x y H2,Inv X pins σ H2 s2->Z1p x v->Z1p y u->R x y H2->wpAny (model X.prog X.w) X.A (f v u) Q X.xe s2) :
  wpAny (model X.prog X.w) X.A (eval a X.env) (fun v s₁=>wpAny (model X.prog X.w) X.A (eval b X.env) (fun u s₂=>wpAny (model X.prog X.w) X.A (f v u) Q X.xe s₂) X.xe s₁) X.xe s:=by
 refine thn (ha pins s σ H _ I h) fun v s1 ⟨x,H1,I1,r1,q1⟩=>?_
 refine thn (hb pins s1 σ H1 _ I1 q1) fun u s2 ⟨y,H2,I2,r2,q2⟩=>?_
 exact hf v u s2 x y H2 I2 r1 r2 q2
theorem Z0l {op:Operator}{r:R2}(ho:OpR X (binaryOp op) r)(ha:PE X a ta)(hb:PE X b tb):PE X (.BinOp a op b pos) (tOp r ta tb):=by
 intro pins s σ H Q I h
 exact wpAny_BinOp (Ztr ha hb I h fun v u s2 x y H2 I2 rx ry q=>ho pins s2 σ H2 x y v u Q I2 rx ry q)
theorem Zqk {op:UnaryOp}{r:V->Hp->VK->Prop}(ho:UnR X (unaryOp op) r)(ha:PE X a ta):PE X (.UnaryOp op a pos) (tUn r ta):=by
 intro pins s σ H Q I h
 exact UnaryOp_ (thn (ha pins s σ H _ I h) fun v s1 ⟨x,H1,I1,r1,q1⟩=>ho pins s1 σ H1 x v Q I1 r1 q1)
theorem opI {f:Value->Value->Sem Value}{C:Int->Int->Prop}{g:Int->Int->Int}
  (rule:∀ (i j:Int) (t u:Tok) (s:Shared) (Q:Value->Shared->Prop) (E:Value->Shared->Prop),C i j->Q (.int (g i j) s.toks) { s with toks:=s.toks+1 }->wpAny (model X.prog X.w) X.A (f (.int i t) (.int j u)) Q E s) :
  OpR X f (rI C fun i j=>.int (g i j)):=by
 intro pins s σ H x y v u Q I rx ry h
 obtain⟨i,j,rfl,rfl,hc,q⟩:=h
 obtain⟨t,rfl⟩:=rx
 obtain⟨t',rfl⟩:=ry
 exact rule i j t t' s _ _ hc ⟨.int (g i j),H,I.tok _,⟨_,rfl⟩,q⟩
theorem opI0 {f:Value->Value->Sem Value}{g:Int->Int->Int}
  (rule:∀ (i j:Int) (t u:Tok) (s:Shared) (Q:Value->Shared->Prop) (E:Value->Shared->Prop),Q (.int (g i j) s.toks) { s with toks:=s.toks+1 }->wpAny (model X.prog X.w) X.A (f (.int i t) (.int j u)) Q E s) :
  OpR X f (rI0 fun i j=>.int (g i j)):=by
 intro pins s σ H x y v u Q I rx ry h
 obtain⟨i,j,rfl,rfl,q⟩:=h
 obtain⟨t,rfl⟩:=rx
 obtain⟨t',rfl⟩:=ry
 exact rule i j t t' s _ _ ⟨.int (g i j),H,I.tok _,⟨_,rfl⟩,q⟩
theorem Ztj {f:Value->Value->Sem Value}{g:Int->Int->Bool}
  (rule:∀ (i j:Int) (t u:Tok) (s:Shared) (Q:Value->Shared->Prop) (E:Value->Shared->Prop),Q (.bool (g i j)) s->wpAny (model X.prog X.w) X.A (f (.int i t) (.int j u)) Q E s) :
  OpR X f (rI0 fun i j=>.bl (g i j)):=by
 intro pins s σ H x y v u Q I rx ry h
 obtain⟨i,j,rfl,rfl,q⟩:=h
 obtain⟨t,rfl⟩:=rx
 obtain⟨t',rfl⟩:=ry
 exact rule i j t t' s _ _ ⟨.bl (g i j),H,I,rfl,q⟩
def CDiv (i j:Int):Prop:=0 < j/\j < 1073741824
def Zq6 (i j:Int):Prop:=(-(2 ^ 64) < i/\i < 2 ^ 64)\/(-(2 ^ 64) < j/\j < 2 ^ 64)
theorem Zq6.ok {i j:Int}(h:Zq6 i j):IntMulOk i j:=by
 rcases h with ⟨h1,h2⟩ | ⟨h1,h2⟩
 ·exact .of_left (intBits_le_64 h1 h2)
 ·exact .of_right (intBits_le_64 h1 h2)
theorem Z1d:OpR X (binaryOp .Add) (rI0 fun i j=>.int (i+j)):=opI0 fun _ _ _ _ _ _ _ q=>add_int q
theorem Zmt:OpR X (binaryOp .Sub) (rI0 fun i j=>.int (i - j)):=opI0 fun _ _ _ _ _ _ _ q=>sub_int q
theorem Z7m:OpR X (binaryOp .Mult) (rI Zq6 fun i j=>.int (i * j)):=opI fun _ _ _ _ _ _ _ hc q=>mul_int q hc.ok
theorem Z2a:OpR X (binaryOp .FloorDiv) (rI CDiv fun i j=>.int (i / j)):=opI fun i j _ _ _ _ _ hc q=>by
 have h1:(0:Int) < j:=hc.1
 have h2:j < 1073741824:=hc.2
 exact floordiv_int (by omega) (by rw[Int.fdiv_eq_ediv_of_nonneg i (by omega)]; exact q) (.inl (PyProof.noPylong_small (by omega)))
theorem Z1e:OpR X (binaryOp .Mod) (rI (fun _ j=>0 < j) fun i j=>.int (i % j)):=opI fun i j _ _ _ _ _ hc q=>by
 have h1:(0:Int) < j:=hc
 exact mod_int' (by omega) (by rw[Int.fmod_eq_emod_of_nonneg i (by omega)]; exact q)
theorem unI {f:Value->Sem Value}{g:Int->Int}
  (rule:∀ (i:Int) (t:Tok) (s:Shared) (Q:Value->Shared->Prop) (E:Value->Shared->Prop),Q (.int (g i) s.toks) { s with toks:=s.toks+1 }->wpAny (model X.prog X.w) X.A (f (.int i t)) Q E s) :
  UnR X f (rU fun i=>.int (g i)):=by
 intro pins s σ H x v Q I rx h
 obtain⟨i,rfl,q⟩:=h
 obtain⟨t,rfl⟩:=rx
 exact rule i t s _ _ ⟨.int (g i),H,I.tok _,⟨_,rfl⟩,q⟩
theorem Zlv:UnR X (unaryOp .USub) (rU fun i=>.int (-i)):=unI fun _ _ _ _ _ q=>neg_int q
end
def Zsi:V->V->Bool
 | .non,.non=>true | .non,.int _=>true | .int _,.non=>true | .non,.bl _=>true | .bl _,.non=>true | .non,.str _=>true | .str _,.non=>true
 | .int _,.int _=>true | .bl _,.bl _=>true | .str _,.str _=>true | .byt _,.byt _=>true
 | .int _,.str _=>true | .str _,.int _=>true | .bl _,.str _=>true | .str _,.bl _=>true
 | _,_=>false
def rEq:R2:=fun x y H Q=>Zsi x y=true/\Q (.bl (decide (x=y))) H
def rNe:R2:=fun x y H Q=>Zsi x y=true/\Q (.bl (!decide (x=y))) H
theorem Zgh {i j:Int}:decide (V.int i=V.int j)=(i == j):=by
 rw[Bool.eq_iff_iff]
 simp
theorem Zls {i j:Bool}:decide (V.bl i=V.bl j)=(i == j):=by
 rw[Bool.eq_iff_iff]
 simp
theorem Zi6 {i j:Str}:decide (V.str i=V.str j)=(i == j):=by
 rw[Bool.eq_iff_iff]
 simp
theorem Zhz {i j:Array UInt8}:decide (V.byt i=V.byt j)=(i.toList == j.toList):=by
 rw[Bool.eq_iff_iff]
 cases i
 cases j
 simp
section
variable {X:Cx}{a b c:Expr}{ta tb tc:TE}{pos:Pos}
theorem Z15 {pins:List (Addr×Obj)}{σ:St}{H:Hp}{s:Shared}{Q:VK}{k k':Bool}(I:Inv X pins σ H s)(q:Q (.bl k) H)(e:k=k'):EP X pins σ Q (.bool k') s:=by
 subst e
 exact⟨.bl k,H,I,rfl,q⟩
theorem Z3j:OpR X (compareOp .Eq) rEq:=by
 intro pins s σ H x y v u Q I rx ry h
 obtain⟨hs,q⟩:=h
 cases x with
 | non=>
  cases rx
  cases y with
  | non=>cases ry; exact PySem.EqNone.eq_none_none (Z15 I q (by simp))
  | bl j=>cases ry; exact PySem.EqNone.eq_none_bool (Z15 I q (by simp))
  | int j=>obtain⟨t',rfl⟩:=ry; exact PySem.EqNone.eq_none_int (Z15 I q (by simp))
  | str j=>obtain⟨t',rfl⟩:=ry; exact PySem.EqNone.eq_none_str (Z15 I q (by simp))
  | _=>exact absurd (show false=true from hs) Bool.false_ne_true
 | bl i=>
  cases rx
  cases y with
  | non=>cases ry; exact PySem.EqNone.eq_bool_none (Z15 I q (by simp))
  | bl j=>cases ry; exact eq_bool (Z15 I q Zls)
  | str j=>obtain⟨t',rfl⟩:=ry; exact PySem.EqMixed.eq_bool_str (Z15 I q (by simp))
  | _=>exact absurd (show false=true from hs) Bool.false_ne_true
 | int i=>
  obtain⟨t,rfl⟩:=rx
  cases y with
  | non=>cases ry; exact PySem.EqNone.eq_int_none (Z15 I q (by simp))
  | int j=>obtain⟨t',rfl⟩:=ry; exact eq_int (Z15 I q Zgh)
  | str j=>obtain⟨t',rfl⟩:=ry; exact PySem.EqMixed.eq_int_str (Z15 I q (by simp))
  | _=>exact absurd (show false=true from hs) Bool.false_ne_true
 | str i=>
  obtain⟨t,rfl⟩:=rx
  cases y with
  | non=>cases ry; exact PySem.EqNone.eq_str_none (Z15 I q (by simp))
  | bl j=>cases ry; exact PySem.EqMixed.eq_str_bool (Z15 I q (by simp))
  | int j=>obtain⟨t',rfl⟩:=ry; exact PySem.EqMixed.eq_str_int (Z15 I q (by simp))
  | str j=>obtain⟨t',rfl⟩:=ry; exact eq_str (Z15 I q Zi6)
  | _=>exact absurd (show false=true from hs) Bool.false_ne_true
 | byt i=>
  obtain⟨t,rfl⟩:=rx
  cases y with
  | byt j=>obtain⟨t',rfl⟩:=ry; exact PySem.W.eq_bytes (Z15 I q Zhz)
  | _=>exact absurd (show false=true from hs) Bool.false_ne_true
 | _=>cases y <;> exact absurd (show false=true from hs) Bool.false_ne_true
theorem Z9v:OpR X (compareOp .NotEq) rNe:=by
 intro pins s σ H x y v u Q I rx ry h
 obtain⟨hs,q⟩:=h
 cases x with
 | non=>
  cases rx
  cases y with
  | non=>cases ry; exact PySem.EqNone.ne_none_none (Z15 I q (by simp))
  | bl j=>cases ry; exact PySem.EqNone.ne_none_bool (Z15 I q (by simp))
  | int j=>obtain⟨t',rfl⟩:=ry; exact PySem.EqNone.ne_none_int (Z15 I q (by simp))
  | str j=>obtain⟨t',rfl⟩:=ry; exact PySem.EqNone.ne_none_str (Z15 I q (by simp))
  | _=>exact absurd (show false=true from hs) Bool.false_ne_true
 | bl i=>
  cases rx
  cases y with
  | non=>cases ry; exact PySem.EqNone.ne_bool_none (Z15 I q (by simp))
  | bl j=>cases ry; exact ne_bool (Z15 I q (congrArg not Zls))
  | str j=>obtain⟨t',rfl⟩:=ry; exact PySem.EqMixed.ne_bool_str (Z15 I q (by simp))
  | _=>exact absurd (show false=true from hs) Bool.false_ne_true
 | int i=>
  obtain⟨t,rfl⟩:=rx
  cases y with
  | non=>cases ry; exact PySem.EqNone.ne_int_none (Z15 I q (by simp))
  | int j=>obtain⟨t',rfl⟩:=ry; exact ne_int (Z15 I q (congrArg not Zgh))
  | str j=>obtain⟨t',rfl⟩:=ry; exact PySem.EqMixed.ne_int_str (Z15 I q (by simp))
  | _=>exact absurd (show false=true from hs) Bool.false_ne_true
 | str i=>
  obtain⟨t,rfl⟩:=rx
  cases y with
  | non=>cases ry; exact PySem.EqNone.ne_str_none (Z15 I q (by simp))
  | bl j=>cases ry; exact PySem.EqMixed.ne_str_bool (Z15 I q (by simp))
  | int j=>obtain⟨t',rfl⟩:=ry; exact PySem.EqMixed.ne_str_int (Z15 I q (by simp))
  | str j=>obtain⟨t',rfl⟩:=ry; exact ne_str (Z15 I q (congrArg not Zi6))
  | _=>exact absurd (show false=true from hs) Bool.false_ne_true
 | byt i=>
  obtain⟨t,rfl⟩:=rx
  cases y with
  | byt j=>obtain⟨t',rfl⟩:=ry; exact PySem.W.ne_bytes (Z15 I q (congrArg not Zhz))
  | _=>exact absurd (show false=true from hs) Bool.false_ne_true
 | _=>cases y <;> exact absurd (show false=true from hs) Bool.false_ne_true
theorem Zcq:OpR X (compareOp .Lt) (rI0 fun i j=>.bl (decide (i < j))):=Ztj fun _ _ _ _ _ _ _ q=>lt_int q
theorem Zfs:OpR X (compareOp .LtE) (rI0 fun i j=>.bl (decide (i<=j))):=Ztj fun _ _ _ _ _ _ _ q=>le_int q
theorem Zn7:OpR X (compareOp .Gt) (rI0 fun i j=>.bl (decide (j < i))):=Ztj fun _ _ _ _ _ _ _ q=>gt_int q
theorem Zaa:OpR X (compareOp .Is) (fun x y H Q=>y=.non/\Q (.bl (decide (x=.non))) H):=by
 intro pins s σ H x y v u Q I rx ry h
 obtain⟨rfl,q⟩:=h
 cases ry
 refine is_none_gen (Z15 I q ?_)
 cases x <;> first
  | (cases rx; rfl)
  | (obtain⟨t,rfl⟩:=rx; rfl)
theorem Zad:OpR X (compareOp .NotIn) (fun x y H Q=>∃ i j,x=.str i/\y=.str j/\Q (.bl (!(!(Builtin.Str.occurrences j i 0 j.length 1).isEmpty))) H):=by
 intro pins s σ H x y v u Q I rx ry h
 obtain⟨i,j,rfl,rfl,q⟩:=h
 obtain⟨t,rfl⟩:=rx
 obtain⟨t',rfl⟩:=ry
 exact notIn_str (Z15 I q rfl)
theorem Z0r (b:Expr){op:CmpOp}(h:op≠.In:=by decide)(h2:op≠.NotIn:=by decide):behindInMarks op b=false:=by
 have e1:(op == CmpOp.In)=false:=by cases op <;> first | rfl | exact absurd rfl h
 have e2:(op == CmpOp.NotIn)=false:=by cases op <;> first | rfl | exact absurd rfl h2
 cases b <;> simp[behindInMarks,e1,e2]
theorem Z6t {op:CmpOp}{r:R2}(ho:OpR X (compareOp op) r)(ha:PE X a ta)(hb:PE X b tb)(hm:behindInMarks op b=false):PE X (.Compare a [op] [b] pos) (tOp r ta tb):=by
 intro pins s σ H Q I h
 exact wpAny_Compare1 (Ztr ha hb I h fun v u s2 x y H2 I2 rx ry q=>ho pins s2 σ H2 x y v u Q I2 rx ry q) hm
def Znd (t:TE):TT:=fun σ H Q=>t σ H fun x H'=>∃ k,x=.bl k/\Q k H'
theorem Z0m {op:CmpOp}{r:R2}(ho:OpR X (compareOp op) r)(ha:PE X a ta)(hb:PE X b tb)(hm:behindInMarks op b=false):PT X (.Compare a [op] [b] pos) (Znd (tOp r ta tb)):=by
 intro pins s σ H Q I h
 refine wpAny_isTrue_Compare1 (thn (ha pins s σ H _ I h) fun v s1 ⟨x,H1,I1,r1,q1⟩=>thn (hb pins s1 σ H1 _ I1 q1) fun u s2 ⟨y,H2,I2,r2,q2⟩=>
  thn (ho pins s2 σ H2 x y v u _ I2 r1 r2 q2) fun c s3 ⟨z,H3,I3,r3,k,e,q3⟩=>?_) hm
 subst e
 cases r3
 exact wpAny_truthy_bool ⟨H3,I3,q3⟩
def Zmh (r r':R2)(ta tb tc:TE):TE:=fun σ H Q=>ta σ H fun x H1=>tb σ H1 fun y H2=>r x y H2 fun z H3=>∃ k,z=.bl k/\
 (if k=true then tc σ H3 fun w' H4=>r' y w' H4 Q else Q (.bl false) H3)
theorem Ze3 {op op':CmpOp}{r r':R2}(ho:OpR X (compareOp op) r)(ho':OpR X (compareOp op') r')(ha:PE X a ta)(hb:PE X b tb)(hc:PE X c tc)
  (hm:lastMarks [op,op'] [b,c]=false:=by with_unfolding_all rfl):PE X (.Compare a [op,op'] [b,c] pos) (Zmh r r' ta tb tc):=by
 intro pins s σ H Q I h
 refine Compare_chain (thn (ha pins s σ H _ I h) fun v s1 ⟨x,H1,I1,r1,q1⟩=>chain_link (thn (hb pins s1 σ H1 _ I1 q1) fun u s2 ⟨y,H2,I2,r2,q2⟩=>
  thn (ho pins s2 σ H2 x y v u _ I2 r1 r2 q2) fun d s3 ⟨z,H3,I3,r3,k,e,q3⟩=>?_)) hm
 subst e
 cases r3
 refine wpAny_truthy_bool ?_
 cases k with
 | false=>exact ite_ff ⟨.bl false,H3,I3,rfl,q3⟩
 | true=>exact ite_tt (chain_last (thn (hc pins s3 σ H3 _ I3 q3) fun w' s4 ⟨z',H4,I4,r4,q4⟩=>ho' pins s4 σ H4 y z' u w' Q I4 r2 r4 q4))
theorem Zdo {op op':CmpOp}{r r':R2}(ho:OpR X (compareOp op) r)(ho':OpR X (compareOp op') r')(ha:PE X a ta)(hb:PE X b tb)(hc:PE X c tc)
  (hm:lastMarks [op,op'] [b,c]=false:=by with_unfolding_all rfl):PT X (.Compare a [op,op'] [b,c] pos) (Znd (Zmh r r' ta tb tc)):=by
 intro pins s σ H Q I h
 refine isTrue_chain (thn (ha pins s σ H _ I h) fun v s1 ⟨x,H1,I1,r1,q1⟩=>test_link (thn (hb pins s1 σ H1 _ I1 q1) fun u s2 ⟨y,H2,I2,r2,q2⟩=>
  thn (ho pins s2 σ H2 x y v u _ I2 r1 r2 q2) fun d s3 ⟨z,H3,I3,r3,k,e,q3⟩=>?_)) hm
 subst e
 cases r3
 refine wpAny_truthy_bool ?_
 cases k with
 | false=>
  obtain⟨k',e',q'⟩:=q3
  cases e'
  exact ite_ff ⟨H3,I3,q'⟩
 | true=>
  refine ite_tt (test_last (thn (hc pins s3 σ H3 _ I3 q3) fun w' s4 ⟨z',H4,I4,r4,q4⟩=>thn (ho' pins s4 σ H4 y z' u w' _ I4 r2 r4 q4) fun d' s5 ⟨z2,H5,I5,r5,k2,e2,q5⟩=>?_))
  subst e2
  cases r5
  exact wpAny_truthy_bool ⟨H5,I5,q5⟩
theorem Z8w:(sizeLine:Nat) < 2 ^ 63:=by rw[sizeLine_eq]; decide
theorem Z0u:OpR X (binaryOp .Add) (fun x y H Q=>∃ i j,x=.str i/\y=.str j/\i.length+j.length<=sizeLine/\Q (.str (i++j)) H):=by
 intro pins s σ H x y v u Q I rx ry h
 obtain⟨i,j,rfl,rfl,hz,q⟩:=h
 obtain⟨t,rfl⟩:=rx
 obtain⟨t',rfl⟩:=ry
 exact add_str (fun t' tk=>⟨.str (i++j),H,I.tok _,⟨_,rfl⟩,q⟩) hz
theorem Z3l {x:V}{us:List Value}(r:Z1c [x] us):∃ u,us=[u]/\Z1p x u:=by
 cases r with
 | cons r1 r2=>cases r2; exact⟨_,rfl,r1⟩
theorem Zh1 {x y:V}{us:List Value}(r:Z1c [x,y] us):∃ u w',us=[u,w']/\Z1p x u/\Z1p y w':=by
 cases r with
 | cons r1 r2=>
  cases r2 with
  | cons r3 r4=>cases r4; exact⟨_,_,rfl,r1,r3⟩
end
structure Zst (h:Heap)(x dx C:Addr)(mA:Str->Option Value):Prop where
 obj:h.get? x=some (PySem.W.instObj C dx)
 ns:h.Ns1 dx mA
 ne:dx≠x
theorem Zh3 {h:Heap}{dx:Addr}{mA:Str->Option Value}(n:h.Ns1 dx mA):∃ od,h.get? dx=some od/\∀ name,PySem.W.lookIn name od=some (mA name):=by
 obtain⟨o,es,ep,ho,hd,hk,_,hm⟩:=n
 refine⟨o,ho,fun name=>?_⟩
 have e:=hm name
 unfold nsFind findBy at e
 rw[<-Array.find?_toList]at e
 unfold PySem.W.lookIn
 rw[hd]
 dsimp only
 split
 ·rename_i y q
  rw[q]at e
  exact congrArg some e
 ·rename_i q
  rw[q]at e
  have a:es.toList.any (·.refKey)=false:=by
   rw[List.any_eq_false]
   intro y hy
   obtain⟨z,t,hkey⟩:=hk y (Array.mem_toList_iff.mp hy)
   simp[DictEntry.refKey,hkey]
  have a':¬ es.toList.any (·.refKey)=true:=by rw[a]; exact Bool.false_ne_true
  rw[if_neg a']
  exact congrArg some e
theorem Zst.look {h:Heap}{x dx C:Addr}{mA:Str->Option Value}(I:Zst h x dx C mA):∃ od,PySem.W.InstAt h x (PySem.W.instObj C dx) C (some od)/\∀ name,PySem.W.lookIn name od=some (mA name):=
 let ⟨od,ho,hl⟩:=Zh3 I.ns
 ⟨od,⟨I.obj,rfl,rfl,ho⟩,hl⟩
section
variable {prog:Program}{w:World}{A:Around}{E:Value->Shared->Prop}{s:Shared}{K:Y01}{x dx C f:Addr}{mA:Str->Option Value}{name:Str}{v:Value}
end
theorem Zdf.some_of {v:V}{o:Option Value}(r:Zdf (some v) o):∃ u,o=some u/\Z1p v u:=by
 cases o with
 | none=>exact (show False from r).elim
 | some u=>exact⟨u,rfl,r⟩
section
variable {P:Program}{w:World}{H H':Hp}{h h':Heap}{a C dx:Addr}{fs fs':List (Str×V)}
theorem Zne (hok:HOk P w H h)(e:H a=some (.ins C dx fs)):∃ mA,Zst h a dx C mA/\(∀ f,Zdf (fs.lookup f) (mA f))/\PySem.Within mA (fs.map (·.1))/\fs.length<=1000/\H dx=some (.own a):=by
 obtain⟨d,z,ne,ob,mA,n,r,q⟩:=(show Z1g P w H h a (.ins C dx fs) from hok a _ e)
 exact⟨mA,⟨ob,n,ne⟩,r,q,z,d⟩
end
structure Cls (K:Y01)(C:Addr):Prop where
 pg:PySem.W.plainGet K C Str.empty=true
 hd:PySem.W.hasDictIn K C=true
 po:PySem.W.plainOver K C=true
 sa:Y1h K (.ref C) "__setattr__"=some (some (.builtin "object.__setattr__"))
theorem Cls.get {K:Y01}{C:Addr}(c:Cls K C)(f:Str):PySem.W.plainGet K C f=true:=c.pg
section
variable {X:Cx}{pins:List (Addr×Obj)}{σ:St}{H:Hp}{s:Shared}{a C dx:Addr}{fs:List (Str×V)}{f:Str}{v:V}{A:Around}{E:Value->Shared->Prop}
end
section
variable {X:Cx}{o e value:Expr}{f:Str}{pos pos' tpos:Pos}{ta tv:TE}
end
section
variable {X:Cx}{pins:List (Addr×Obj)}{σ:St}{H:Hp}{s:Shared}{A:Around}{E:Value->Shared->Prop}{Q:Value->Shared->Prop}{c:Value}{b:Bool}
inductive Zg2 (K:Y01) (H:Hp):V->Value->Prop where
 | non:Zg2 K H .non (.type "NoneType")
 | bl (x:Bool):Zg2 K H (.bl x) (.type "bool")
 | int (i:Int):Zg2 K H (.int i) (.type "int")
 | str (x:Str):Zg2 K H (.str x) (.type "str")
 | flt (x:UInt64):Zg2 K H (.flt x) (.type "float")
 | lst {a:Addr} {xs:List V} (e:H a=some (.lst xs)):Zg2 K H (.ref a) (.type "list")
 | frz {a:Addr} {o:Obj} {xs:List V} (e:H a=some (.frz o (.lst xs))):Zg2 K H (.ref a) (.type "list")
 | tup {a:Addr} {xs:List V} (e:H a=some (.tup xs)):Zg2 K H (.ref a) (.type "tuple")
 | dK {a:Addr} {kvs:List (Key×V)} (e:H a=some (.dK kvs)):Zg2 K H (.ref a) (.type "dict")
 | dT {a:Addr} {kvs:List (List Key×V)} (e:H a=some (.dT kvs)):Zg2 K H (.ref a) (.type "dict")
 | ins {a C dx:Addr} {fs:List (Str×V)} (e:H a=some (.ins C dx fs)) (cl:Cls K C) (ha:Y1h K (.ref C) "__class__"=some (some (.builtin "object.__class__")))
   (hn:PySem.W.specialIn K (.builtin "object.__class__") "__get__"=some (some (.builtin "getset_descriptor.__get__"))) (htk:PySem.W.takesIn K (.builtin "object.__class__")=some true)
   (hm:PySem.W.mroIn K C (.type "object")=some true):Zg2 K H (.ref a) (.ref C)
theorem Zi8 {x:V}{u t:Value}(I:Inv X pins σ H s)(rx:Z1p x u)(ty:Zg2 X.K H x t)(e:Y0o X.K t c=some b)(h:∀ tk,Q (.bool b) { s with toks:=tk }) :
  wpAny (model X.prog X.w) A (call (.builtin "isinstance") [u,c]) Q E s:=by
 cases ty with
 | non=>cases (show u=Value.none from rx); exact Y1o PySem.W.kitx_none I.kIn True.intro e (fun z=>nomatch z) h
 | bl y=>cases (show u=Value.bool y from rx); exact Y1o PySem.W.kitx_bool I.kIn True.intro e (fun z=>nomatch z) h
 | int i=>obtain⟨t,q⟩:=(show ∃ t,u=Value.int i t from rx); cases q; exact Y1o PySem.W.kitx_int I.kIn True.intro e (fun z=>nomatch z) h
 | str y=>obtain⟨t,q⟩:=(show ∃ t,u=Value.str y t from rx); cases q; exact Y1o PySem.W.kitx_str I.kIn True.intro e (fun z=>nomatch z) h
 | flt y=>obtain⟨t,q⟩:=(show ∃ t,u=Value.float y t from rx); cases q; exact Y1o PySem.W.kitx_float I.kIn True.intro e (fun z=>nomatch z) h
 | @lst a xs ea=>
  cases (show u=Value.ref a from rx)
  obtain⟨_,_,n,_,h1⟩:=(show Z1g X.prog X.w H s.heap a (.lst xs) from I.hok a _ ea)
  exact Y1o PySem.W.kitx_list I.kIn ⟨_,h1,rfl⟩ e (fun z=>nomatch z) h
 | @frz a ob xs ea=>
  cases (show u=Value.ref a from rx)
  obtain⟨_,_,_,n,_,h1⟩:=(show Z1g X.prog X.w H s.heap a (.frz ob (.lst xs)) from I.hok a _ ea)
  exact Y1o PySem.W.kitx_list I.kIn ⟨_,h1,rfl⟩ e (fun z=>nomatch z) h
 | @tup a xs ea=>
  cases (show u=Value.ref a from rx)
  obtain⟨_,_,_,p⟩:=(show Z1g X.prog X.w H s.heap a (.tup xs) from I.hok a _ ea)
  obtain⟨o,h1,h2,_⟩:=p
  exact Y1o PySem.W.kitx_tuple I.kIn ⟨o,h1,h2⟩ e (fun z=>nomatch z) h
 | @dK a kvs ea=>
  cases (show u=Value.ref a from rx)
  obtain⟨_,_,vs,_,p⟩:=(show Z1g X.prog X.w H s.heap a (.dK kvs) from I.hok a _ ea)
  obtain⟨o,es,ep,h1,h2,_⟩:=p
  exact Y1o PySem.W.kitx_dict I.kIn ⟨o,h1,h2.1⟩ e (fun z=>nomatch z) h
 | @dT a kvs ea=>
  cases (show u=Value.ref a from rx)
  obtain⟨_,_,xs,_,o,es,ep,h1,h2,_⟩:=(show Z1g X.prog X.w H s.heap a (.dT kvs) from I.hok a _ ea)
  exact Y1o PySem.W.kitx_dict I.kIn ⟨o,h1,h2.1⟩ e (fun z=>nomatch z) h
 | @ins a C dx fs ea cl ha hn htk hm=>
  cases (show u=Value.ref a from rx)
  obtain⟨mA,O,_⟩:=Zne I.hok ea
  obtain⟨od,J,_⟩:=O.look
  exact Y1o (PySem.W.kitx_own (cl.get _) cl.hd ha hn htk hm) I.kIn J e (fun z=>nomatch z) h
end
structure Z2d (k:Nat)(A:Around):Prop where
 hd:A.handled=none
 dp:A.depth+3 * k+5 < recursionLimit
 un:A.units+16 * k+200 < cLine
theorem Z2d.mono {j k:Nat}{A:Around}(r:Z2d k A)(h:j<=k):Z2d j A:=⟨r.hd,by have:=r.dp; omega,by have:=r.un; omega⟩
theorem Z2d.deeper {k:Nat}{A:Around}(r:Z2d (k+1) A)(env:Env):Z2d k (A.deeper env):=
 ⟨r.hd,by have:=r.dp; show A.depth+1+3 * k+5 < _; omega,by have:=r.un; show A.units+3+16 * k+200 < _; omega⟩
theorem Zfv {A:Around}{C:Addr}{us:List Value}{kw:List (Str×Value)}:(A.under (.builtin "type.__call__" ⟨.ref C :: us,kw⟩)).depth=A.depth+1:=by
 first | rfl | simp[Around.under,Code.weight,Code.isCreation,Code.isGuard,Code.isCaller,Code.frames,Code.isFrame,guardIds]
theorem Zfp {A:Around}{C:Addr}{us:List Value}{kw:List (Str×Value)}:(A.under (.builtin "type.__call__" ⟨.ref C :: us,kw⟩)).units=A.units+1:=by
 first | rfl | simp[Around.under,Code.cUnits,Code.frames,Code.isFrame]
theorem Z2d.make {k:Nat}{A:Around}(r:Z2d (k+1) A)(C:Addr)(us:List Value)(kw:List (Str×Value)):Z2d k (A.under (.builtin "type.__call__" ⟨.ref C :: us,kw⟩)):=
 ⟨r.hd,by have:=r.dp; rw[Zfv]; omega,by have:=r.un; rw[Zfp]; omega⟩
theorem Z2d.depth {k:Nat}{A:Around}(r:Z2d k A):A.depth < recursionLimit:=by have:=r.dp; omega
theorem Z2d.units {k:Nat}{A:Around}(r:Z2d k A):A.units+64 < cLine:=by have:=r.un; omega
def Z2t:TA:=fun _ H Q=>Q [] H
def Z0w (ta:TE)(tr:TA):TA:=fun σ H Q=>ta σ H fun x H1=>tr σ H1 fun xs H2=>Q (x :: xs) H2
section
variable {X:Cx}{e:Expr}{es:List Expr}{te:TE}{t:TA}{pos:Pos}
theorem Z04:PA X [] Z2t:=fun _ _ _ _ H Q I h=>Calls.spliced_nil ⟨[],H,I,.nil,h⟩
theorem Z00 (ha:PE X e te)(hr:PA X es t)(hs:starEach (e :: es) X.env=(false,eval e X.env) :: starEach es X.env:=by rfl):PA X (e :: es) (Z0w te t):=by
 intro pos pins s σ H Q I h
 rw[hs]
 show wpAny _ _ (spliced ((false,eval e X.env) :: backTo pos (starEach es X.env))) _ _ s
 refine Calls.spliced_cons (thn (ha pins s σ H _ I h) fun u s1 ⟨x,H1,I1,r1,q1⟩=>?_)
 exact thn (hr pos pins s1 σ H1 _ I1 q1) fun us s2 ⟨xs,H2,I2,r2,q2⟩=>⟨x :: xs,H2,I2,.cons r1 r2,q2⟩
def Zpc (t:TA):TE:=fun σ H Q=>t σ H fun xs H1=>xs.length<=sizeLine/\∀ p,H1 p=none->Q (.ref p) (upd H1 p (.tup xs))
def tLst (t:TA):TE:=fun σ H Q=>t σ H fun xs H1=>xs.length<=sizeLine/\∀ p,H1 p=none->Q (.ref p) (upd H1 p (.lst xs))
theorem Z3h {x1}(h:PA X es t):PE X (.Tuple es x1 pos) (Zpc t):=by
 intro pins s σ H Q I hq
 refine wpAny_Tuple_spliced (thn (h pos pins s σ H _ I hq) fun us s1 ⟨xs,H1,I1,r,z,q⟩=>⟨by rw[<-r.length]; exact z,?_⟩)
 have hf:H1 s1.heap.objs.size=none:=I1.hok.fresh (Y06 _)
 refine⟨.ref s1.heap.objs.size,upd H1 s1.heap.objs.size (.tup xs),I1.laid (t':=s1.toks) (fun b u e=>Y02 _ e) (Y06 _) ?_,rfl,q _ hf⟩
 exact⟨⟨z,_,Y0b _ rfl,rfl⟩,us,r,⟨_,Y0b _ rfl,rfl,_,rfl⟩⟩
theorem Z1y (h:PA X es t):PE X (.List es pos) (tLst t):=by
 intro pins s σ H Q I hq
 refine wpAny_List_spliced (thn (h pos pins s σ H _ I hq) fun us s1 ⟨xs,H1,I1,r,z,q⟩=>⟨by rw[<-r.length]; exact z,?_⟩)
 have hf:H1 s1.heap.objs.size=none:=I1.hok.fresh (Y06 _)
 refine⟨.ref s1.heap.objs.size,upd H1 s1.heap.objs.size (.lst xs),I1.laid (t':=s1.toks) (fun b u e=>Y02 _ e) (Y06 _) ?_,rfl,q _ hf⟩
 exact⟨z,us,0,r,Y0b _ rfl⟩
end
abbrev Sp:=List V->Hp->VK->XK->Prop
abbrev CXT:=List Env->Hp->Shared->XK->Value->Shared->Prop
structure Zml (P:Program)(w:World)(K:Y01)(mg:Str->Option Value)(base:Heap)(A:Around)(outer:List Env)(s:Shared)(H:Hp):Prop where
 frames:A.frames=some outer
 mod:Mod K mg base
 bs:∀ b o,base.get? b=some o->s.heap.get? b=some o/\H b=none
 bsz:base.objs.size<=s.heap.objs.size
 funs:s.heap.FunFrames base outer
 frf:∀ b∈frs outer,H b=none
 hok:HOk P w H s.heap
 bare:AllBare s.gens
def CE (outer:List Env)(P:Program)(w:World)(H:Hp)(s:Shared)(Q:VK)(u:Value)(s':Shared):Prop:=
 ∃ v H',s'.os=s.os/\AllBare s'.gens/\Un (frs outer) [] H H' s.heap s'.heap/\HOk P w H' s'.heap/\Z1p v u/\Q v H'
def CR (CX:CXT)(outer:List Env)(P:Program)(w:World)(H:Hp)(s:Shared)(Q:VK)(E:XK)(r:Result)(s':Shared):Prop:=
 match r with
 | .ok (.ret u)=>CE outer P w H s Q u s'
 | .ok _=>False
 | .error e=>CX outer H s E e s'
structure Z13 (P:Program)(w:World)(K:Y01)(mg:Str->Option Value)(base:Heap)(CX:CXT)(k:Nat)(f:Addr)(fd:FuncData)(ps:List Str)(sp:Sp):Prop where
 len:∀ vs H Q E,sp vs H Q E->vs.length=ps.length
 run:∀ (A:Around) (outer:List Env) (s:Shared) (H:Hp) (args:Args) (us:List Value) (vs:List V) (Q:VK) (E:XK),Z2d k A->Zml P w K mg base A outer s H->BindsTo s fd args (ps.zip us)->Z1c vs us->sp vs H Q E->
  codeAny (model P w) A (.call (.ref f) args) (CR CX outer P w H s Q E) s
theorem Zml.make {P:Program}{w:World}{K:Y01}{mg:Str->Option Value}{base:Heap}{A:Around}{outer:List Env}{s:Shared}{H:Hp}(e:Zml P w K mg base A outer s H)(C:Addr)(us:List Value)(kw:List (Str×Value)) :
  Zml P w K mg base (A.under (.builtin "type.__call__" ⟨.ref C :: us,kw⟩)) outer s H:=⟨by first | exact e.frames | (simpa [Around.under,Code.envs,Code.isFrame,pushEnvs] using e.frames),e.mod,e.bs,e.bsz,e.funs,e.frf,e.hok,e.bare⟩
section
variable {X:Cx}{pins:List (Addr×Obj)}{σ:St}{H:Hp}{s s':Shared}
theorem Inv.env0 (I:Inv X pins σ H s):Zml X.prog X.w X.K X.mg X.base X.A X.stack s H:=
 ⟨I.ok.frames,I.ok.mod,I.bs,Y17 I.ok.bsz I.sz,I.stack,I.stkFree,I.hok,I.bare⟩
theorem Inv.after {Q:VK}{u:Value}(I:Inv X pins σ H s)(h:CE X.stack X.prog X.w H s Q u s'):EP X pins σ Q u s':=by
 obtain⟨v,H',os,bare,un,hok,r,q⟩:=h
 obtain⟨hh,g,d,t,os'⟩:=s'
 obtain rfl:os'=s.os:=os
 exact⟨v,H',I.call (h':=hh) (g':=g) (d':=d) (t':=t) (ch:=[]) un hok bare (fun b z=>absurd z (by simp)),r,q⟩
end
def Z2p (sp:Sp)(dvs:List V)(E:XK)(t:TA):TE:=fun σ H Q=>t σ H fun vs H1=>sp (vs++dvs) H1 Q E
def Z6g (K:Y01)(fd:FuncData)(ps:List Str)(ds:List Value):Prop:=
 ∀ (s:Shared) (us:List Value),K.In s.heap->(us++ds).length=ps.length->BindsTo s fd ⟨us,[]⟩ (ps.zip (us++ds))
theorem Z6g.all {K:Y01}{fd:FuncData}{ps:List Str}(h:∀ us:List Value,us.length=ps.length->bindArgs fd ⟨us,[]⟩=pure (ps.zip us)):Z6g K fd ps []:=fun s us _ hl=>by
 rw[Y1f]at hl ⊢
 exact .of_eq (h us hl)
def Zal (CX:CXT)(X:Cx)(E:XK):Prop:=∀ (pins:List (Addr×Obj)) (σ:St) (H:Hp) (s:Shared) (e:Value) (s':Shared),Inv X pins σ H s->CX X.stack H s E e s'->X.xe e s'
section
variable {X:Cx}{CX:CXT}{k:Nat}{f C:Addr}{fd:FuncData}{ps:List Str}{sp:Sp}{dvs:List V}{ds:List Value}{E:XK}{x m:Str}{p pos apos:Pos}{e o:Expr}{es:List Expr}{ta:TE}{t:TA}
theorem Zmi {pins:List (Addr×Obj)}{σ:St}{H:Hp}{s:Shared}{Q:VK}{us:List Value}{vs:List V}(F:Z13 X.prog X.w X.K X.mg X.base CX k f fd ps sp)(hr:Z2d k X.A)(hb:Z6g X.K fd ps ds)(hd:Z1c dvs ds)(hx:Zal CX X E)
  (I:Inv X pins σ H s) (r:Z1c vs us) (h:sp (vs++dvs) H Q E):wpAny (model X.prog X.w) X.A (call (.ref f) us) (EP X pins σ Q) X.xe s:=by
 have r2:Z1c (vs++dvs) (us++ds):=r.append hd
 have hl:(us++ds).length=ps.length:=by rw[<-r2.length]; exact F.len _ _ _ _ h
 refine wpAny_call (codeAny_mono (F.run X.A X.stack s H ⟨us,[]⟩ (us++ds) (vs++dvs) Q E hr I.env0 (hb s us I.kIn hl) r2 h) fun r s' hq=>?_)
 cases r with
 | error e=>exact hx pins σ H s e s' I hq
 | ok fl=>
  cases fl with
  | ret u=>exact I.after hq
  | next=>exact False.elim hq
  | brk=>exact False.elim hq
  | cont=>exact False.elim hq
theorem Z0h (F:Z13 X.prog X.w X.K X.mg X.base CX k f fd ps sp)(hr:Z2d k X.A)(hg:Gl X x)(hm:X.mg x=some (.ref f))(hk:Y25 X.K (.ref f)=true)(hb:Z6g X.K fd ps ds)(hd:Z1c dvs ds)(hx:Zal CX X E)
  (ha:PA X (e :: es) t) (hdb:(x == ("__debug__":Str))=false:=by decide) (he:starEach (e :: es) X.env=(false,eval e X.env) :: starEach es X.env:=by rfl) (hpl:(backTo pos (starEach es X.env)).any (·.1)=false:=by rfl) :
  PE X (.Call (.Name x p) (e :: es) [] pos) (Z2p sp dvs E t):=by
 intro pins s σ H Q I h
 refine wpAny_Call_Name_kw (Z2y I hg hm ?_ hdb)
 refine PySem.W.callWith_K (h₀:=X.base) I.ok.mod.kin hk (thn (ha pos pins s σ H _ I h) fun us s1 ⟨vs,H1,I1,r,q⟩=>⟨I1.kIn,?_⟩) he hpl
 exact Zmi F hr hb hd hx I1 r q
theorem Z9u (F:Z13 X.prog X.w X.K X.mg X.base CX k f fd ps sp)(hr:Z2d k X.A)(hg:Gl X x)(hm:X.mg x=some (.ref f))(hk:Y25 X.K (.ref f)=true)(hb:Z6g X.K fd ps ds)(hd:Z1c dvs ds)(hx:Zal CX X E)
  (hdb:(x == ("__debug__":Str))=false:=by decide):PE X (.Call (.Name x p) [] [] pos) (Z2p sp dvs E Z2t):=by
 intro pins s σ H Q I h
 refine wpAny_Call_Name_kw (Z2y I hg hm ?_ hdb)
 exact PySem.W.callWith_K0 I.kIn hk (Zmi (us:=[]) F hr hb hd hx I .nil h)
end
section
variable {X:Cx}{CX:CXT}{k:Nat}{f C:Addr}{fd:FuncData}{ps ks:List Str}{sp:Sp}{E:XK}{x m:Str}{p pos apos kpos:Pos}{e o:Expr}{es:List Expr}{kws:List Keyword}{te ta:TE}{t tk:TA}{nm:Option Str}
variable {g:List Value->List Value->List Value}{gV:List V->List V->List V}
end
structure Z0n (N P:List Str)(sc:Scope):Prop where
 kind:sc.kind=.function
 co:sc.isCoroutine=false
 gen:sc.isGenerator=false
 nd:N.Nodup
 pre:N.take P.length=P
 par:∀ x∈P,sc.names.lookup x=some .local\/sc.names.lookup x=some .cell
 nofree:∀ y∈sc.names,y.2≠.free
theorem Zar {kindOf:Str->Option NameKind}{x:Str}:∀ {binds:List (Str×Value)} {m:Str->Option Value},(∀ v,(x,v)∉binds)->bindL kindOf binds m x=m x
 | [],_,_=>rfl
 | (n,v) :: r,m,h=>by
  unfold bindL
  rw[Zar fun w hw=>h w (Y0r _ hw)]
  split
  ·have:x≠n:=by rintro rfl; exact h v Y1k
   simp[this]
  ·rfl
theorem Zbk {kindOf:Str->Option NameKind}{x:Str}:∀ {binds:List (Str×Value)} {m:Str->Option Value},(∀ v,(x,v)∉binds)->bindC kindOf binds m x=m x
 | [],_,_=>rfl
 | (n,v) :: r,m,h=>by
  unfold bindC
  rw[Zbk fun w hw=>h w (Y0r _ hw)]
  split
  ·rfl
  ·have:x≠n:=by rintro rfl; exact h v Y1k
   simp[this]
theorem Zbh {kindOf:Str->Option NameKind}{x:Str}{v:Value}:∀ {P:List Str} {vs:List Value} {i:Nat} {m:Str->Option Value},P.Nodup->P[i]?=some x->vs[i]?=some v->kindOf x=some .local->
  bindL kindOf (P.zip vs) m x=some v
 | [],_,_,_,_,h,_,_=>by simp at h
 | _ :: _,[],_,_,_,_,h,_=>by simp at h
 | p :: P,w :: vs,0,m,nd,h1,h2,hk=>by
  simp at h1 h2; subst h1; subst h2
  show bindL kindOf ((p,w) :: P.zip vs) m p=_
  unfold bindL
  rw[Zar fun v hv=>(Y1r.mp nd).1 (List.of_mem_zip hv).1,if_pos hk]
  simp
 | p :: P,w :: vs,i+1,m,nd,h1,h2,hk=>by
  show bindL kindOf ((p,w) :: P.zip vs) m x=_
  unfold bindL
  exact Zbh (i:=i) (Y1r.mp nd).2 (by simpa using h1) (by simpa using h2) hk
theorem Zb2 {kindOf:Str->Option NameKind}{x:Str}{v:Value}:∀ {P:List Str} {vs:List Value} {i:Nat} {m:Str->Option Value},P.Nodup->P[i]?=some x->vs[i]?=some v->kindOf x≠some .local->
  bindC kindOf (P.zip vs) m x=some v
 | [],_,_,_,_,h,_,_=>by simp at h
 | _ :: _,[],_,_,_,_,h,_=>by simp at h
 | p :: P,w :: vs,0,m,nd,h1,h2,hk=>by
  simp at h1 h2; subst h1; subst h2
  show bindC kindOf ((p,w) :: P.zip vs) m p=_
  unfold bindC
  rw[Zbk fun v hv=>(Y1r.mp nd).1 (List.of_mem_zip hv).1,if_neg hk]
  simp
 | p :: P,w :: vs,i+1,m,nd,h1,h2,hk=>by
  show bindC kindOf ((p,w) :: P.zip vs) m x=_
  unfold bindC
  exact Zb2 (i:=i) (Y1r.mp nd).2 (by simpa using h1) (by simpa using h2) hk
def start (N:List Str)(vs:List V):St:=vs.map some++List.replicate (N.length - vs.length) none
def Zg4 (CX:CXT)(P:Program)(w:World)(K:Y01)(mg:Str->Option Value)(base:Heap)(N:List Str)(qual:Str)(scope:Scope)(f:Addr)(cd:Value)(A:Around)(outer:List Env)(s:Shared)(H:Hp)(E:XK):Cx where
 prog:=P
 w:=w
 K:=K
 mg:=mg
 base:=base
 A:=A.deeper (envOfC qual scope s.heap.objs.size f cd)
 N:=N
 s₀:=s
 H₀:=H
 env:=envOfC qual scope s.heap.objs.size f cd
 outer:=outer
 stack:=envOfC qual scope s.heap.objs.size f cd :: outer
 ex:=[]
 calm:=true
 fn:=fun _=>true
 pn:=[]
 xe:=fun e s'=>wpAny (model P w) (A.deeper (envOfC qual scope s.heap.objs.size f cd)) (leaving (envOfC qual scope s.heap.objs.size f cd) e) (fun _ s''=>CX outer H s E e s'') (fun e' s''=>CX outer H s E e' s'') s'
theorem Ze9 {sc:Scope}{n:Nat}{x:Str}(h:sc.names.lookup x=some .cell):∃ c,(cellsFrom n sc.names []).lookup x=some c:=by
 have q:=PySem.W.cellsFrom_some sc.names n [] (.inl h)
 exact Option.isSome_iff_exists.mp q
theorem Zbc {CX:CXT}{P:Program}{w:World}{K:Y01}{mg:Str->Option Value}{base:Heap}{N ps:List Str}{qual:Str}{scope:Scope}{f:Addr}{cd:Value}{A:Around}{outer:List Env}{s s1:Shared}{H:Hp}{E:XK}{us:List Value}{vs:List V}
  (S:Z0n N ps scope) (hd:A.handled=none) (e0:Zml P w K mg base A outer s H) (hl:vs.length=ps.length) (r:Z1c vs us)
  (x:InCallC s s.heap.objs.size (bindL (envOfC qual scope s.heap.objs.size f cd).kindOf (ps.zip us) fun _=>none) (cellsFrom (s.heap.objs.size+1) scope.names []) (bindC (envOfC qual scope s.heap.objs.size f cd).kindOf (ps.zip us) fun _=>none) s1) :
  Inv (Zg4 CX P w K mg base N qual scope f cd A outer s H E) [] (start N vs) H s1:=by
 have hpl:ps.length<=N.length:=by have:=congrArg List.length S.pre; rw[Y18]at this; omega
 obtain⟨h1,tk,rfl,hk⟩:=x.done
 have noA:∀ b:Addr,b∉(Zg4 CX P w K mg base N qual scope f cd A outer s H E).ex:=fun b z=>absurd (show b∈([]:List Addr) from z) (by simp)
 refine⟨⟨e0.mod,S.kind,rfl,rfl,Y06 _,fun y z c h1 h2=>?_,fun y hy=>?_,fun y c _ h=>?_,fun _=>hd,Around.frames_deeper e0.frames,.inr ⟨rfl,rfl⟩,fun b z=>absurd z (noA b),e0.bs,e0.bsz,fun b _ _=>noA b,fun b z=>absurd z (noA b),e0.funs,e0.frf⟩,
  rfl,e0.bare,Un.kept hk,⟨_,x.toInCall.ns,fun i y v h1 h2 h3=>?_⟩,fun y c h=>⟨_,x.cell y c h⟩,e0.hok.fresh (Y06 _),fun y c h=>?_,fun p hp=>absurd (show p∈([]:List (Addr×Obj)) from hp) (by simp),e0.hok.kept hk,?_⟩
 ·exact name_of_addr x.apart (PySem.mem_of_lookup h1) (PySem.mem_of_lookup h2)
 ·have hy:scope.names.lookup y=some .cell\/scope.names.lookup y=some .free:=hy
  rcases hy with hy | hy
  ·exact Ze9 hy
  ·exact absurd rfl (S.nofree _ (PySem.mem_of_lookup hy))
 ·exact Y1e (x.above y c (PySem.mem_of_lookup h))
 ·have hi:i < vs.length:=by
   unfold start at h2
   by_cases hi:i < vs.length
   ·exact hi
   ·rw[Y0q (by simpa using hi)]at h2
    rw[List.getElem?_replicate]at h2
    split at h2 <;> cases h2
  have ha:vs[i]?=some v:=by
   unfold start at h2
   rw[Y0t (by simpa using hi),Y0e]at h2
   cases e:vs[i]? with
   | none=>rw[e]at h2; cases h2
   | some a=>rw[e]at h2; cases h2; rfl
  obtain⟨u,hu,rv⟩:=r.get ha
  have hp:ps[i]?=some y:=by
   rw[<-S.pre,List.getElem?_take_of_lt (by omega)]; exact h1
  have ndP:ps.Nodup:=by rw[<-S.pre]; exact S.nd.sublist (List.take_sublist _ _)
  refine⟨u,rv,?_⟩
  rcases S.par y (Y0a hp) with k | k
  ·exact .inl ⟨k,Zbh ndP hp hu k⟩
  ·obtain⟨c,e⟩:=Ze9 (n:=s.heap.objs.size+1) k
   refine .inr ⟨.inl k,c,e,?_⟩
   have q:=x.cell y c e
   rw[Zb2 ndP hp hu (by show scope.names.lookup y≠_; rw[k]; decide)]at q
   exact q
 ·exact e0.hok.fresh (Y1e (x.above y c (PySem.mem_of_lookup h)))
 ·unfold start
  show _=N.length
  rw[Y07,Y09,List.length_replicate]
  omega
theorem Zre {CX:CXT}{P:Program}{w:World}{K:Y01}{mg:Str->Option Value}{base:Heap}{k:Nat}{f:Addr}{name qual:Str}{params:Arguments}{body:List Stmt}{scope:Scope}{dV kV doc pm cdv ct oc:Value}{an od:Option Addr}
  {osl:Array (Option Value)} {N ps:List Str} {sp:Sp} (lk:K.lookup f=some ⟨oc,od,.func (Y2f name qual params body scope dV kV doc pm an cdv ct),osl⟩) (hcd:PySem.W.codeIn K cdv qual=true) (S:Z0n N ps scope)
  (len:∀ vs H Q E,sp vs H Q E->vs.length=ps.length)
  (hbody:∀ (A:Around) (outer:List Env) (s:Shared) (H:Hp) (vs:List V) (Q:VK) (E:XK),Z2d k (A.deeper (envOfC qual scope s.heap.objs.size f cdv))->sp vs H Q E->
   ∃ t,PSs (Zg4 CX P w K mg base N qual scope f cdv A outer s H E) body t/\t { nx:=fun _ H'=>Q .non H',rt:=Q } (start N vs) H) :
  Z13 P w K mg base CX (k+1) f (Y2f name qual params body scope dV kV doc pm an cdv ct) ps sp:=by
 refine⟨len,fun A outer s H args us vs Q E hr e0 hb r hsp=>?_⟩
 have hl:=len _ _ _ _ hsp
 have KX:K.In s.heap:=e0.mod.kin.keeps fun b o e=>(e0.bs b o e).1
 have lim:s.heap.NoLimit:=e0.mod.nolimit.keeps fun b o e=>(e0.bs b o e).1
 have hkind:∀ y∈ps.zip us,scope.names.lookup y.1=some .local\/(scope.names.lookup y.1=some .cell/\((cellsFrom (s.heap.objs.size+1) scope.names []).lookup y.1).isSome=true):=fun ⟨n,v⟩ hy=>by
  rcases S.par n (List.of_mem_zip hy).1 with q | q
  ·exact .inl q
  ·exact .inr ⟨q,PySem.W.cellsFrom_some _ _ _ (.inl q)⟩
 refine codeAny_call_function hr.depth (KX _ _ lk) rfl S.co S.gen rfl (PySem.W.codeRec_of KX hcd) (hb _ _ _ _ ?_)
 refine wpAny_newFunctionEnv_cells S.kind hkind fun env he s1 x=>?_
 subst he
 refine⟨lim.keeps x.toInCall.keep,codeAny_func ?_⟩
 obtain⟨t,ht,hq⟩:=hbody A outer s H vs Q E (hr.deeper _) hsp
 have I:Inv (Zg4 CX P w K mg base N qual scope f cdv A outer s H E) [] (start N vs) H s1:=Zbc S hr.hd e0 hl r x
 refine wpAny_mono (ht [] s1 (start N vs) H _ I hq) (fun fl s' hs=>?_) fun e s' hs=>hs
 have fin:∀ {σ':St} {H':Hp} {v:V} {u:Value},Inv (Zg4 CX P w K mg base N qual scope f cdv A outer s H E) [] σ' H' s'->Z1p v u->Q v H'->CE outer P w H s Q u s':=
  fun {σ' H' v u} J rv q=>⟨v,H',J.os,J.bare,J.base,J.hok,rv,q⟩
 cases fl with
 | ret u=>
  obtain⟨v,σ',H',J,rv,q⟩:=hs
  exact fin J rv q
 | next=>
  obtain⟨σ',H',J,q⟩:=hs
  exact fin (v:=V.non) (u:=Value.none) J rfl q
 | brk=>
  obtain⟨_,_,_,q⟩:=hs
  exact False.elim q
 | cont=>
  obtain⟨_,_,_,q⟩:=hs
  exact False.elim q
section
variable {X:Cx}{x:Str}{p pos:Pos}{e:Expr}{es:List Expr}{t:TA}{id T:String}{r:List V->Hp->VK->Prop}
def tCB (r:List V->Hp->VK->Prop)(t:TA):TE:=fun σ H Q=>t σ H fun vs H1=>r vs H1 Q
theorem Z0a (hc:Z33 X (.builtin id) r)(hg:Gl X x)(hm:X.mg x=none)(hv:bootBuiltins x=some (.builtin id))(ha:PA X (e :: es) t)(hn:x≠"__name__":=by decide)(hdb:(x == ("__debug__":Str))=false:=by decide)
  (he:starEach (e :: es) X.env=(false,eval e X.env) :: starEach es X.env:=by rfl) (hpl:(backTo pos (starEach es X.env)).any (·.1)=false:=by rfl):PE X (.Call (.Name x p) (e :: es) [] pos) (tCB r t):=by
 intro pins s σ H Q I h
 refine wpAny_Call_Name_kw (Z4x I hg hm hv ?_ hn hdb)
 exact PyProof.Rows.callWith_builtin1 (thn (ha pos pins s σ H _ I h) fun us s1 ⟨vs,H1,I1,r1,q1⟩=>hc pins s1 σ H1 vs us Q I1 r1 q1) he hpl
theorem Z0q (hc:Z33 X (.type T) r)(hg:Gl X x)(hm:X.mg x=none)(hv:bootBuiltins x=some (.type T))(ha:PA X (e :: es) t)(hn:x≠"__name__":=by decide)(hdb:(x == ("__debug__":Str))=false:=by decide)
  (he:starEach (e :: es) X.env=(false,eval e X.env) :: starEach es X.env:=by rfl) (hpl:(backTo pos (starEach es X.env)).any (·.1)=false:=by rfl):PE X (.Call (.Name x p) (e :: es) [] pos) (tCB r t):=by
 intro pins s σ H Q I h
 refine wpAny_Call_Name_kw (Z4x I hg hm hv ?_ hn hdb)
 exact PyProof.Rows.callWith_type1 (thn (ha pos pins s σ H _ I h) fun us s1 ⟨vs,H1,I1,r1,q1⟩=>hc pins s1 σ H1 vs us Q I1 r1 q1) he hpl
end
end L2
namespace HT
open PySem PyProof.Rows
def lexLt:List Int->List Int->Bool
 | [],[]=>false
 | [],_ :: _=>true
 | _ :: _,[]=>false
 | x :: xs,y :: ys=>if x=y then lexLt xs ys else decide (x < y)
theorem lexLt_cons (x y:Int)(xs ys:List Int):lexLt (x :: xs) (y :: ys)=if x=y then lexLt xs ys else decide (x < y):=rfl
theorem lexLt_nil_nil:lexLt [] []=false:=rfl
theorem lexLt_nil_cons (y:Int)(ys:List Int):lexLt [] (y :: ys)=true:=rfl
theorem lexLt_cons_nil (x:Int)(xs:List Int):lexLt (x :: xs) []=false:=rfl
theorem eqAt_int (A:Around)(s:Shared)(a:Int)(t:Tok)(c:Int)(u:Tok):∃ e,SeqAt.EqAt A s (.int a t) (.int c u) e/\(e=true↔a=c):=
 ⟨(a == c),SeqAt.EqAt.int_int a t c u,by simp⟩
theorem rcLt_int (A:Around)(s:Shared)(a:Int)(t:Tok)(c:Int)(u:Tok)(prog:Program)(w:World)(E:Value->Shared->Prop)(Q:Value->Shared->Prop)(h:Q (.bool (decide (a < c))) s) :
  wpAny (model prog w) A (richCompare .Lt (.int a t) (.int c u)) Q E s:=
 (PyProof.Rows.lt_int h:wpAny (model prog w) A (compareOp .Lt (.int a t) (.int c u)) Q E s)
section
open PySem.SeqAt
open PySem.AutoSeq1 (wpAny_loadPart')
open PySem.MeetsSeq PySem.MeetsSeq2 PySem.MeetsSeq3
end
section
variable {prog:Program}{w:World}{A:Around}{E:Value->Shared->Prop}{s:Shared}
def sIx (n d:Nat):Option Int->Nat
 | none=>d
 | some v=>if v < 0 then (v+(n:Int)).toNat else min v.toNat n
theorem sIx_nat (n d k:Nat):sIx n d (some (k:Int))=min k n:=by
 show (if (k:Int) < 0 then ((k:Int)+(n:Int)).toNat else min (k:Int).toNat n)=min k n
 rw[if_neg (by omega),Int.toNat_natCast]
end
end HT
namespace L2
open PySem PySem.Spec PyProof.Rows
abbrev TO:=St->Hp->(Option Int->Hp->Prop)->Prop
def PO (X:Cx)(e:Option Expr)(t:TO):Prop:=
 ∀ (pins:List (Addr×Obj)) (s:Shared) (σ:St) (H:Hp) (Q:Option Int->Hp->Prop),Inv X pins σ H s->t σ H Q->
  wpAny (model X.prog X.w) X.A (evalPart e X.env) (fun u s'=>∃ o H',Inv X pins σ H' s'/\IsPart u o/\Q o H') X.xe s
def Zp0:TO:=fun _ H Q=>Q none H
def Ztw (t:TE):TO:=fun σ H Q=>t σ H fun x H1=>∃ i,x=.int i/\Q (some i) H1
theorem Z8k {ns:List Int}:∀ {us:List Value},Z1c (ns.map V.int) us->IntsAre us ns:=by
 induction ns with
 | nil=>intro us r; rw[List.map_nil]at r; cases r; exact .nil
 | cons n ns ih=>
  intro us r
  rw[Y0u]at r
  cases r with
  | cons r1 r2=>
   obtain⟨t,e⟩:=r1
   subst e
   exact .cons n t (ih r2)
section
variable {X:Cx}{e:Expr}{te:TE}{lo hi:Option Expr}{tl th:TO}{pos p2:Pos}
theorem Z32:PO X none Zp0:=by
 intro pins s σ H Q I h
 rw[evalPart_none]
 exact wpAny_pure ⟨none,H,I,.none,h⟩
theorem Z1i (h:PE X e te):PO X (some e) (Ztw te):=by
 intro pins s σ H Q I hw
 rw[evalPart_some]
 refine thn (h pins s σ H _ I hw) fun u s1 ⟨x,H1,I1,r1,q1⟩=>?_
 obtain⟨i,rfl,q⟩:=q1
 obtain⟨t,rfl⟩:=r1
 exact⟨some i,H1,I1,.int i t,q⟩
def SlR (X:Cx)(r:V->Option Int->Option Int->Hp->VK->Prop):Prop:=
 ∀ (pins:List (Addr×Obj)) (s:Shared) (σ:St) (H:Hp) (x:V) (v vl vu:Value) (lo hi:Option Int) (sl:Addr) (Q:VK),Inv X pins σ H s->Z1p x v->s.heap.IsSliceOf sl vl vu .none->IsPart vl lo->IsPart vu hi->r x lo hi H Q->
  ∃ T id,typeLookup (.type T) "__getitem__"=pure (some (.builtin id))/\s.TypeIs v T/\wpAny (model X.prog X.w) X.A (getItem v (.ref sl)) (EP X pins σ Q) X.xe s
def tSl (r:V->Option Int->Option Int->Hp->VK->Prop)(te:TE)(tl th:TO):TE:=fun σ H Q=>te σ H fun x H1=>tl σ H1 fun l H2=>th σ H2 fun u H3=>r x l u H3 Q
theorem Z20 {r:V->Option Int->Option Int->Hp->VK->Prop}(hr:SlR X r)(he:PE X e te)(hl:PO X lo tl)(hu:PO X hi th):PE X (.Subscript e (.Slice lo hi none p2) pos) (tSl r te tl th):=by
 intro pins s σ H Q I h
 refine Subscript_ (thn (he pins s σ H _ I h) fun v s1 ⟨x,H1,I1,r1,q1⟩=>?_)
 refine wpAny_Slice (thn (hl pins s1 σ H1 _ I1 q1) fun vl s2 ⟨l,H2,I2,pl,q2⟩=>thn (hu pins s2 σ H2 _ I2 q2) fun vu s3 ⟨u,H3,I3,pu,q3⟩=>?_)
 rw[evalPart_none]
 refine wpAny_pure ?_
 have I4:Inv X pins σ H3 { s3 with heap:=s3.heap.push { cls:=.type "slice",data:=.fields #[vl,vu,.none] } }:=I3.kept (t':=s3.toks) fun b ob q=>Y02 _ q
 obtain⟨T,id,hT,ht,hg⟩:=hr pins { s3 with heap:=s3.heap.push { cls:=.type "slice",data:=.fields #[vl,vu,.none] } } σ H3 x v vl vu l u s3.heap.objs.size Q I4 r1 (Heap.IsSliceOf.new ..) pl pu q3
 show wpAny (model X.prog X.w) X.A (subscriptTail e (.Slice lo hi none p2) v (.ref s3.heap.objs.size)) (EP X pins σ Q) X.xe { s3 with heap:=s3.heap.push { cls:=.type "slice",data:=.fields #[vl,vu,.none] } }
 exact tail_any (ops:=[.ref s3.heap.objs.size,v]) ht hT hg (by with_unfolding_all rfl)
def Znc (xs:List V)(lo hi:Option Int):List V:=(xs.drop (HT.sIx xs.length 0 lo)).take (HT.sIx xs.length xs.length hi - HT.sIx xs.length 0 lo)
theorem Zch (xs:List V)(lo hi:Option Int):(Znc xs lo hi).length<=xs.length:=by
 unfold Znc
 rw[Y18,List.length_drop]
 omega
end
def ixN (n:Nat)(i:Int):Option Nat:=if 0<=i then (if i < n then some i.toNat else none) else if -(n:Int)<=i then some (i+n).toNat else none
def atI {α:Type}(xs:List α)(i:Int):Option α:=(ixN xs.length i).bind fun j=>xs[j]?
theorem Zd5 {n:Nat}{i:Int}{j:Nat}(h:ixN n i=some j):seqIndex? i n=some j/\j < n/\-(n:Int)<=i/\i < n:=by
 unfold ixN at h
 by_cases h0:0<=i
 ·rw[if_pos h0]at h
  by_cases h1:i < n
  ·rw[if_pos h1]at h
   have e:i.toNat=j:=Option.some.inj h
   exact⟨by rw[seqIndex_of h0 h1,e],by omega,by omega,h1⟩
  ·rw[if_neg h1]at h; cases h
 ·rw[if_neg h0]at h
  by_cases h1:-(n:Int)<=i
  ·rw[if_pos h1]at h
   have e:(i+n).toNat=j:=Option.some.inj h
   exact⟨by rw[seqIndex_neg (by omega) h1,e],by omega,h1,by omega⟩
  ·rw[if_neg h1]at h; cases h
theorem Zdb {α:Type}{xs:List α}{i:Int}{v:α}(h:atI xs i=some v):∃ j,seqIndex? i xs.length=some j/\xs[j]?=some v/\j < xs.length/\-(xs.length:Int)<=i/\i < xs.length:=by
 unfold atI at h
 cases e:ixN xs.length i with
 | none=>rw[e]at h; cases h
 | some j=>
  rw[e]at h
  obtain⟨h1,h2,h3,h4⟩:=Zd5 e
  exact⟨j,h1,h,h2,h3,h4⟩
theorem Z0f {α:Type}{xs:List α}{j:Nat}{v:α}(h:xs[j]?=some v):atI xs (j:Int)=some v:=by
 have hj:j < xs.length:=(Y03.mp h).1
 have e:ixN xs.length (j:Int)=some j:=by
  unfold ixN
  rw[if_pos (by omega),if_pos (by omega)]; simp
 unfold atI; rw[e]; exact h
def Zom (b:Expr):Prop:=∀ o i,subscripted b false o i=operate [o,i] (getItem o i)
def IxR (X:Cx)(r:R2):Prop:=
 ∀ (value slice:Expr) (pins:List (Addr×Obj)) (s:Shared) (σ:St) (H:Hp) (x y:V) (v u:Value) (Q:VK),Inv X pins σ H s->Z1p x v->Z1p y u->r x y H Q->
  subscripted slice false v u=operate [v,u] (getItem v u)->wpAny (model X.prog X.w) X.A (subscriptTail value slice v u) (EP X pins σ Q) X.xe s
def MtR (X:Cx)(id:String)(r:V->List V->Hp->VK->Prop):Prop:=
 ∀ (pins:List (Addr×Obj)) (s:Shared) (σ:St) (H:Hp) (x:V) (xs:List V) (v:Value) (us:List Value) (Q:VK),Inv X pins σ H s->Z1p x v->Z1c xs us->r x xs H Q->
  wpAny (model X.prog X.w) X.A (call (.builtin id) (v :: us)) (EP X pins σ Q) X.xe s
section
variable {X:Cx}{a b:Expr}{ta tb:TE}{pos:Pos}
theorem IxR.or {r r':R2}(h:IxR X r)(h':IxR X r'):IxR X (fun x y H Q=>r x y H Q\/r' x y H Q):=by
 intro value slice pins s σ H x y v u Q I rx ry q hs
 rcases q with q | q
 ·exact h value slice pins s σ H x y v u Q I rx ry q hs
 ·exact h' value slice pins s σ H x y v u Q I rx ry q hs
theorem Z0t {r:R2}(hr:IxR X r)(ha:PE X a ta)(hb:PE X b tb)(hs:Zom b):PE X (.Subscript a b pos) (tOp r ta tb):=by
 intro pins s σ H Q I h
 exact Subscript_ (Ztr ha hb I h fun v u s2 x y H2 I2 rx ry q=>hr a b pins s2 σ H2 x y v u Q I2 rx ry q (hs _ _))
def Zop (K:Y01):R2:=fun x y H Q=>∃ p xs i v,x=.ref p/\y=.int i/\SqL K H p xs/\atI xs i=some v/\Q v H
def Zpx (K:Y01):R2:=fun x y H Q=>∃ p xs i v,x=.ref p/\y=.int i/\SqT K H p xs/\atI xs i=some v/\Q v H
def Zt2:R2:=fun x y H Q=>∃ z i c,x=.str z/\y=.int i/\z.length<=sizeLine/\atI z.cps.toList i=some c/\Q (.str ⟨#[c]⟩) H
theorem Z0v:IxR X (Zop X.K):=by
 intro value slice pins s σ H x y v u Q I rx ry h hs
 obtain⟨p,xs,i,z,rfl,rfl,hq,he,q⟩:=h
 cases rx
 obtain⟨t,rfl⟩:=ry
 obtain⟨its,r,pl,hz⟩:=I.list hq
 obtain⟨j,h1,h2,h3,h4,h5⟩:=Zdb he
 obtain⟨w,ew,rw'⟩:=r.get h2
 have hl:=r.length
 have hn:=Z8w
 have fin:EP X pins σ Q w s:=⟨z,H,I,rw',q⟩
 by_cases h0:0<=i
 ·have hj:i.toNat=j:=by
   rw[seqIndex_of h0 h5]at h1
   exact Option.some.inj h1
  exact item_listR pl.isList h0 (by omega) (by rw[hj]; simpa using ew) fin hs
 ·have hj:(i+(its.toArray.size:Int)).toNat=j:=by
   rw[seqIndex_neg (by omega) h4]at h1
   rw[Y0i,<-hl]
   exact Option.some.inj h1
  exact subscriptTail_builtinR (x:=w) pl.isList.typeIs slot_list_getitem.lookup
   (wpAny_getItem_list_neg (Q:=fun r s'=>r=w/\EP X pins σ Q r s') pl.isList (by omega) (by rw[Y0i] <;> omega) (by omega) (by rw[hj]; simpa using ew) ⟨rfl,fin⟩) hs
theorem Z1h:IxR X (Zpx X.K):=by
 intro value slice pins s σ H x y v u Q I rx ry h hs
 obtain⟨p,xs,i,z,rfl,rfl,hq,he,q⟩:=h
 cases rx
 obtain⟨t,rfl⟩:=ry
 obtain⟨its,r,pl,hz⟩:=I.tuple hq
 obtain⟨j,h1,h2,h3,h4,h5⟩:=Zdb he
 obtain⟨w,ew,rw'⟩:=r.get h2
 have hl:=r.length
 have hn:=Z8w
 have fin:EP X pins σ Q w s:=⟨z,H,I,rw',q⟩
 exact subscriptTail_builtinR (x:=w) pl.typeIs slot_tuple_getitem.lookup
  (getItem_tuple (j:=j) (Q:=fun r s'=>r=w/\EP X pins σ Q r s') pl (by omega) (by omega) (by rw[Y0i,<-hl]; exact h1) (by simpa using ew) ⟨rfl,fin⟩) hs
theorem Z8v:IxR X Zt2:=by
 intro value slice pins s σ H x y v u Q I rx ry h hs
 obtain⟨z,i,c,rfl,rfl,hz,he,q⟩:=h
 obtain⟨t,rfl⟩:=rx
 obtain⟨t',rfl⟩:=ry
 obtain⟨j,h1,h2,h3,h4,h5⟩:=Zdb he
 have hl:z.cps.toList.length=z.length:=by simp[Str.length]
 rw[hl]at h1 h4 h5
 have hn:=Z8w
 exact tail_any (typeIs_str s z t) slot_str_getitem.lookup (getItem_str (c:=c) (by
  have e1:decide (i < -(2 ^ 63:Int))=false:=decide_eq_false (by omega)
  have e2:decide (i≥2 ^ 63)=false:=decide_eq_false (by omega)
  rw[e1,e2,Bool.or_false]) (by rw[h1]; simpa using h2) ⟨.str ⟨#[c]⟩,H,I.tok _,⟨_,rfl⟩,q⟩) hs
def rIx (K:Y01):R2:=fun x y H Q=>Zop K x y H Q\/Zpx K x y H Q\/Zt2 x y H Q
theorem Z6c:IxR X (rIx X.K):=Z0v.or (Z1h.or Z8v)
theorem Zfw (its:List Value)(n j:Nat)(u:Value):Obj.mapSeq (·.setIfInBounds j u) { cls:=.type "list",data:=.seq its.toArray n }={ cls:=.type "list",data:=.seq (its.set j u).toArray n }:=by
 simp[Obj.mapSeq]
theorem Inv.lst {pins:List (Addr×Obj)}{σ:St}{H:Hp}{s:Shared}{p:Addr}{xs:List V}(I:Inv X pins σ H s)(h:H p=some (.lst xs)) :
  ∃ (its:List Value) (n:Nat),Z1c xs its/\s.heap.get? p=some { cls:=.type "list",data:=.seq its.toArray n }/\xs.length<=sizeLine:=by
 obtain⟨z,its,n,r,e⟩:=I.hok p _ h
 exact⟨its,n,r,e,z⟩
theorem Inv.lstUpd {pins:List (Addr×Obj)}{σ:St}{H:Hp}{s:Shared}{p:Addr}{xs ys:List V}{its its':List Value}{n n':Nat}{f:Obj->Obj}(I:Inv X pins σ H s)(h:H p=some (.lst xs))
  (ho:s.heap.get? p=some { cls:=.type "list",data:=.seq its.toArray n }) (hf:f { cls:=.type "list",data:=.seq its.toArray n }={ cls:=.type "list",data:=.seq its'.toArray n' }) (r:Z1c ys its') (hz:ys.length<=sizeLine) (t:Nat) :
  Inv X pins σ (upd H p (.lst ys)) { s with heap:=s.heap.update p f,toks:=t }:=by
 have e:(s.heap.update p f).get? p=some { cls:=.type "list",data:=.seq its'.toArray n' }:=by
  rw[Y1v f ho (by rw[hf] <;> rfl),hf]
 refine I.write (x:=p) (e:=p) (by rw[h]; trivial) (.inl rfl) (fun b u hb q=>(Y15 _ _ (Ne.symm hb)).trans q) ⟨_,e⟩ ?_
 exact⟨hz,its',n',r,e⟩
def Zog:V->V->V->Hp->(Hp->Prop)->Prop:=fun o i v H Q=>∃ p xs k j,o=.ref p/\i=.int k/\H p=some (.lst xs)/\ixN xs.length k=some j/\Q (upd H p (.lst (xs.set j v)))
theorem Ze1:PSet X Zog:=by
 intro pins s σ H o i v ov iv u Q I ro ri rv h
 obtain⟨p,xs,k,j,rfl,rfl,hp,hj,q⟩:=h
 cases ro
 obtain⟨t,rfl⟩:=ri
 obtain⟨its,n,r,ho,hz⟩:=I.lst hp
 obtain⟨h1,h2,h3,h4⟩:=Zd5 hj
 have hl:=r.length
 have hn:=Z8w
 have I':Inv X pins σ (upd H p (.lst (xs.set j v))) { s with heap:=s.heap.update p (Obj.mapSeq (·.setIfInBounds j u)) }:=
  I.lstUpd hp ho (Zfw its n j u) (r.set rv j) (by rw[Y19]; exact hz) s.toks
 by_cases h0:0<=k
 ·have hk:k.toNat=j:=by
   rw[seqIndex_of h0 h4]at h1
   exact Option.some.inj h1
  exact PySem.W.ki_setAt ho h0 (by omega) (by rw[Y0i,<-hl]; exact h4) (by rw[hk]; exact⟨_,I',q⟩)
 ·have hk:(k+(its.toArray.size:Int)).toNat=j:=by
   rw[seqIndex_neg (by omega) h3]at h1
   rw[Y0i,<-hl]
   exact Option.some.inj h1
  exact PySem.W.ki_setBack ho (by omega) (by rw[Y0i,<-hl]; exact h3) (by omega) (by rw[hk]; exact⟨_,I',q⟩)
theorem Zak (lo hi:Option Int)(n:Nat):(sliceBounds lo hi none n).1=((HT.sIx n 0 lo:Nat):Int)/\(sliceBounds lo hi none n).2.1=((HT.sIx n n hi:Nat):Int)/\(sliceBounds lo hi none n).2.2=1:=by
 refine⟨?_,?_,rfl⟩
 ·cases lo with
  | none=>simp[sliceBounds,HT.sIx]
  | some i=>
   simp only[sliceBounds,HT.sIx,Option.getD_none,show (1:Int) > 0 by decide,if_true]
   by_cases h:i < 0
   ·simp only[h,if_true] <;> omega
   ·simp only[h,if_false] <;> omega
 ·cases hi with
  | none=>simp[sliceBounds,HT.sIx]
  | some i=>
   simp only[sliceBounds,HT.sIx,Option.getD_none,show (1:Int) > 0 by decide,if_true]
   by_cases h:i < 0
   ·simp only[h,if_true] <;> omega
   ·simp only[h,if_false] <;> omega
theorem Z9m (its:List Value)(lo hi:Option Int):slicePick its.toArray lo hi none=((its.drop (HT.sIx its.length 0 lo)).take (HT.sIx its.length its.length hi - HT.sIx its.length 0 lo)).toArray:=by
 obtain⟨h1,h2,h3⟩:=Zak lo hi its.toArray.size
 unfold slicePick
 rw[h1,h2,h3]
 simp only[sliceRange_one,pick_run,Y0i] <;> rfl
def rSlL (K:Y01):V->Option Int->Option Int->Hp->VK->Prop:=fun x lo hi H Q=>∃ a xs,x=.ref a/\SqL K H a xs/\∀ p,H p=none->Q (.ref p) (upd H p (.lst (Znc xs lo hi)))
theorem Zn4:SlR X (rSlL X.K):=by
 intro pins s σ H x v vl vu lo hi sl Q I rx hs pl pu h
 obtain⟨a,xs,rfl,hx,q⟩:=h
 cases rx
 obtain⟨its,r,ht,hz⟩:=I.list hx
 have hlen:=r.length
 refine⟨"list",_,slot_list_getitem.lookup,ht.isList.typeIs,?_⟩
 refine wpAny_getItem_list_slice ht.isList hs pl pu .none (by simp) ?_ (by rw[Y0i] <;> omega)
 rw[Z9m,<-hlen]
 refine⟨.ref s.heap.objs.size,_,I.laid (t':=s.toks) (o:=.lst (Znc xs lo hi)) (fun b ob q=>Y02 _ q) (Y06 _) ?_,rfl,q _ (I.hok.fresh (Y06 _))⟩
 exact⟨Y17 (Zch xs lo hi) hz,_,0,(r.drop (HT.sIx xs.length 0 lo)).take (HT.sIx xs.length xs.length hi - HT.sIx xs.length 0 lo),Y0b _ rfl⟩
def Z92:V->Bool
 | .non=>true
 | .bl _=>true
 | .int _=>true
 | .str _=>true
 | _=>false
def eqV:V->V->Bool
 | .non,.non=>true
 | .bl a,.bl b=>a == b
 | .bl a,.int b=>(if a then 1 else 0) == b
 | .int a,.bl b=>a == (if b then 1 else 0)
 | .int a,.int b=>a == b
 | .str a,.str b=>a == b
 | _,_=>false
theorem Zqn {A:Around}{s:Shared}{y x:V}{u v:Value}(ry:Z1p y u)(rx:Z1p x v)(fy:Z92 y=true)(fx:Z92 x=true):SeqAt.EqAt A s u v (eqV y x):=by
 cases y with
 | non=>
  cases ry
  cases x with
  | non=>cases rx; exact SeqAt.EqAt.same _
  | bl b=>cases rx; exact SeqAt.EqAt.none_bool b
  | int b=>obtain⟨t,rfl⟩:=rx; exact SeqAt.EqAt.none_int b t
  | str b=>obtain⟨t,rfl⟩:=rx; exact SeqAt.EqAt.none_str b t
  | _=>exact absurd (show false=true from fx) Bool.false_ne_true
 | bl a=>
  cases ry
  cases x with
  | non=>cases rx; exact SeqAt.EqAt.bool_none a
  | bl b=>cases rx; exact SeqAt.EqAt.bool_bool a b
  | int b=>obtain⟨t,rfl⟩:=rx; exact SeqAt.EqAt.bool_int a b t
  | str b=>obtain⟨t,rfl⟩:=rx; exact SeqAt.EqAt.bool_str a b t
  | _=>exact absurd (show false=true from fx) Bool.false_ne_true
 | int a=>
  obtain⟨t',rfl⟩:=ry
  cases x with
  | non=>cases rx; exact SeqAt.EqAt.int_none a t'
  | bl b=>cases rx; exact SeqAt.EqAt.int_bool a t' b
  | int b=>obtain⟨t,rfl⟩:=rx; exact SeqAt.EqAt.int_int a t' b t
  | str b=>obtain⟨t,rfl⟩:=rx; exact SeqAt.EqAt.int_str a t' b t
  | _=>exact absurd (show false=true from fx) Bool.false_ne_true
 | str a=>
  obtain⟨t',rfl⟩:=ry
  cases x with
  | non=>cases rx; exact SeqAt.EqAt.str_none a t'
  | bl b=>cases rx; exact SeqAt.EqAt.str_bool a t' b
  | int b=>obtain⟨t,rfl⟩:=rx; exact SeqAt.EqAt.str_int a t' b t
  | str b=>obtain⟨t,rfl⟩:=rx; exact SeqAt.EqAt.str_str a t' b t
  | _=>exact absurd (show false=true from fx) Bool.false_ne_true
 | _=>exact absurd (show false=true from fy) Bool.false_ne_true
def eqU (x:V)(u:Value):Bool:=match u with
 | .none=>eqV .non x
 | .bool b=>eqV (.bl b) x
 | .int i _=>eqV (.int i) x
 | .str z _=>eqV (.str z) x
 | _=>false
theorem Zms {x y:V}{u:Value}(r:Z1p y u)(f:Z92 y=true):eqU x u=eqV y x:=by
 cases y with
 | non=>cases r; rfl
 | bl b=>cases r; rfl
 | int i=>obtain⟨t,rfl⟩:=r; rfl
 | str z=>obtain⟨t,rfl⟩:=r; rfl
 | _=>exact absurd (show false=true from f) Bool.false_ne_true
theorem Z88 {x:V}:∀ {xs:List V} {us:List Value},Z1c xs us->xs.all Z92=true->us.any (eqU x)=xs.any fun y=>eqV y x
 | _,_,.nil,_=>rfl
 | y :: xs,u :: us,.cons r t,f=>by
  rw[List.all_cons,Bool.and_eq_true]at f
  rw[List.any_cons,List.any_cons,Zms r f.1,Z88 t f.2]
theorem Z5l {A:Around}{s:Shared}{x:V}{v:Value}(rx:Z1p x v)(fx:Z92 x=true):∀ {xs:List V} {us:List Value},Z1c xs us->xs.all Z92=true->∀ u∈us,SeqAt.EqAt A s u v (eqU x u)
 | _,_,.nil,_=>fun u hu=>by cases hu
 | y :: xs,u :: us,.cons r t,f=>fun u' hu=>by
  rw[List.all_cons,Bool.and_eq_true]at f
  rcases Y0j.mp hu with rfl | hu
  ·rw[Zms r f.1]; exact Zqn r rx f.1 fx
  ·exact Z5l rx fx t f.2 u' hu
def inV (x:V)(xs:List V):Bool:=xs.any fun y=>eqV y x
def rIn (K:Y01)(neg:Bool):R2:=fun x y H Q=>∃ p xs,y=.ref p/\(SqL K H p xs\/SqT K H p xs)/\Z92 x=true/\xs.all Z92=true/\Q (.bl (if neg then !inV x xs else inV x xs)) H
theorem Zgz:OpR X (compareOp .In) (rIn X.K false):=by
 intro pins s σ H x y v u Q I rx ry h
 obtain⟨p,xs,rfl,hq,fx,fs,q⟩:=h
 cases ry
 rcases hq with hq | hq
 ·obtain⟨its,r,pl,hz⟩:=I.list hq
  refine SeqAt.in_listAt (eqU x) pl.isList (fun w hw=>Z5l rx fx r fs w (by simpa using hw)) ⟨.bl _,H,I,rfl,?_⟩
  rw[show its.toArray.any (eqU x)=its.any (eqU x) by simp,Z88 r fs]
  exact q
 ·obtain⟨its,r,pl,hz⟩:=I.tuple hq
  refine SeqAt.in_tupleAt (eqU x) pl (fun w hw=>Z5l rx fx r fs w (by simpa using hw)) ⟨.bl _,H,I,rfl,?_⟩
  rw[show its.toArray.any (eqU x)=its.any (eqU x) by simp,Z88 r fs]
  exact q
theorem Z69:OpR X (compareOp .NotIn) (rIn X.K true):=by
 intro pins s σ H x y v u Q I rx ry h
 obtain⟨p,xs,rfl,hq,fx,fs,q⟩:=h
 cases ry
 rcases hq with hq | hq
 ·obtain⟨its,r,pl,hz⟩:=I.list hq
  refine SeqAt.notIn_listAt (eqU x) pl.isList (fun w hw=>Z5l rx fx r fs w (by simpa using hw)) ⟨.bl _,H,I,rfl,?_⟩
  rw[show its.toArray.any (eqU x)=its.any (eqU x) by simp,Z88 r fs]
  exact q
 ·obtain⟨its,r,pl,hz⟩:=I.tuple hq
  refine SeqAt.notIn_tupleAt (eqU x) pl (fun w hw=>Z5l rx fx r fs w (by simpa using hw)) ⟨.bl _,H,I,rfl,?_⟩
  rw[show its.toArray.any (eqU x)=its.any (eqU x) by simp,Z88 r fs]
  exact q
theorem Z0b:Z33 X (.builtin "len") (fun xs H Q=>∃ p ys,xs=[.ref p]/\(SqL X.K H p ys\/SqT X.K H p ys)/\Q (.int ys.length) H):=by
 intro pins s σ H xs us Q I r h
 obtain⟨p,ys,rfl,hq,q⟩:=h
 obtain⟨u,rfl,rx⟩:=Z3l r
 cases rx
 have hn:=Z8w
 rcases hq with hq | hq
 ·obtain⟨its,r',pl,hz⟩:=I.list hq
  have hlen:=r'.length
  exact Calls.call_len_list pl.isList (by simp only[Y0i] <;> omega) ⟨.int ys.length,H,I.tok _,⟨s.toks+1,by rw[Y0i,hlen]⟩,q⟩
 ·obtain⟨its,r',pl,hz⟩:=I.tuple hq
  have hlen:=r'.length
  exact len_tuple pl (by simp only[Y0i] <;> omega) ⟨.int ys.length,H,I.tok _,⟨s.toks+1,by rw[Y0i,hlen]⟩,q⟩
theorem Z2k:Z33 X (.builtin "len") (fun xs H Q=>∃ z,xs=[.str z]/\z.length<=sizeLine/\Q (.int z.length) H):=by
 intro pins s σ H xs us Q I r h
 obtain⟨z,rfl,hz,q⟩:=h
 obtain⟨u,rfl,t,rfl⟩:=Z3l r
 have hn:=Z8w
 exact len_str (by omega) ⟨.int z.length,H,I.tok _,⟨_,rfl⟩,q⟩
theorem Z2l:Z33 X (.type "list") (fun xs H Q=>∃ p ys,xs=[.ref p]/\(SqL X.K H p ys\/SqT X.K H p ys)/\∀ l,H l=none->Q (.ref l) (upd H l (.lst ys))):=by
 intro pins s σ H xs us Q I r h
 obtain⟨p,ys,rfl,hq,q⟩:=h
 obtain⟨u,rfl,rx⟩:=Z3l r
 cases rx
 have fin:∀ (its:List Value),Z1c ys its->ys.length<=sizeLine->∀ (h':Heap) (c':Nat),(∀ b o',s.heap.get? b=some o'->h'.get? b=some o')->
   h'.get? s.heap.objs.size=some { cls:=.type "list",dict:=none,data:=.seq its.toArray c',slots:=#[] }->EP X pins σ Q (.ref s.heap.objs.size) { s with heap:=h' }:=fun its r' hz h' c' kp e=>
  ⟨.ref s.heap.objs.size,_,I.laid (t':=s.toks) kp (Y06 _) (show Z1g X.prog X.w _ h' _ (.lst ys) from ⟨hz,its,c',r',e⟩),rfl,q _ (I.hok.fresh (Y06 _))⟩
 rcases hq with hq | hq
 ·obtain⟨its,r',pl,hz⟩:=I.list hq
  have hlen:=r'.length
  obtain⟨o,ho,hc,n,hd⟩:=pl.isList
  exact call_list_seq p (.inl rfl) ho hc hd (fun h' c' kp e=>fin its r' hz h' c' kp e) (by simp only[Y0i] <;> omega)
 ·obtain⟨its,r',pl,hz⟩:=I.tuple hq
  have hlen:=r'.length
  obtain⟨o,ho,hc,n,hd⟩:=pl
  exact call_list_seq p (.inr rfl) ho hc hd (fun h' c' kp e=>fin its r' hz h' c' kp e) (by simp only[Y0i] <;> omega)
theorem Z1l:Z33 X (.type "tuple") (fun xs H Q=>∃ p ys,xs=[.ref p]/\((SqL X.K H p ys/\∀ l,H l=none->Q (.ref l) (upd H l (.tup ys)))\/(SqT X.K H p ys/\Q (.ref p) H))):=by
 intro pins s σ H xs us Q I r h
 obtain⟨p,ys,rfl,h⟩:=h
 obtain⟨u,rfl,rx⟩:=Z3l r
 cases rx
 rcases h with ⟨hq,q⟩ | ⟨hq,q⟩
 ·obtain⟨its,r',pl,hz⟩:=I.list hq
  have hlen:=r'.length
  refine call_tuple_list pl.isList (fun h' kp=>?_) (by simp only[Y0i] <;> omega)
  have I1:Inv X pins σ H { s with heap:=h' }:=I.kept (t':=s.toks) kp
  have I2:Inv X pins σ (upd H h'.objs.size (.tup ys)) { s with heap:=h'.push { cls:=.type "tuple",data:=.seq its.toArray } }:=
   I1.laid (t':=s.toks) (fun b o e=>Y02 _ e) (Y06 _) (show Z1g X.prog X.w _ _ _ (.tup ys) from ⟨⟨hz,_,Y0b _ rfl,rfl⟩,its,r',IsTup.new _ _⟩)
  exact⟨.ref h'.objs.size,_,I2,rfl,q _ (I1.hok.fresh (Y06 _))⟩
 ·obtain⟨its,r',pl,hz⟩:=I.tuple hq
  exact call_tuple_same pl ⟨.ref p,H,I,rfl,q⟩
def tyV (K:Y01)(T:String)(x:V)(H:Hp):Prop:=match x with
 | .str _=>T="str"
 | .int _=>T="int"
 | .ref p=>(T="list"/\∃ xs,SqL K H p xs)\/(T="tuple"/\∃ o,K.lookup p=some o/\o.cls=.type "tuple"/\o.dict=none)\/
   (T="dict"/\((∃ kvs,H p=some (.dK kvs))\/∃ kvs,H p=some (.dT kvs)))\/(T="set"/\∃ S n,H p=some (.set S n))
 | _=>False
theorem Zmd {pins:List (Addr×Obj)}{σ:St}{H:Hp}{s:Shared}{T:String}{x:V}{v:Value}(I:Inv X pins σ H s)(r:Z1p x v)(ty:tyV X.K T x H) :
  s.TypeIs v T/\∀ a,v=.ref a->∃ ob,s.heap.get? a=some ob/\ob.dict=none:=by
 cases x with
 | str z=>
  obtain⟨t,rfl⟩:=r
  cases (show T="str" from ty)
  exact⟨typeIs_str s z t,fun _ e=>nomatch e⟩
 | int i=>
  obtain⟨t,rfl⟩:=r
  cases (show T="int" from ty)
  exact⟨typeIs_int s i t,fun _ e=>nomatch e⟩
 | ref p=>
  cases r
  rcases ty with ⟨rfl,xs,hq⟩ | ⟨rfl,o,hk,hc,hd⟩ | ⟨rfl,hk⟩ | ⟨rfl,S,n,hk⟩
  ·obtain⟨its,_,pl,_⟩:=I.list hq
   refine⟨pl.isList.typeIs,fun a e=>?_⟩
   cases e
   obtain⟨o,n,e,c,hd,_⟩:=pl
   exact⟨o,e,hd⟩
  ·refine⟨⟨o,I.kIn p o hk,hc⟩,fun a e=>?_⟩
   cases e
   exact⟨o,I.kIn _ o hk,hd⟩
  ·have z:∃ o,s.heap.get? p=some o/\o.ExactDict:=by
    rcases hk with ⟨kvs,hk⟩ | ⟨kvs,hk⟩
    ·obtain⟨_,_,_,_,o,_,_,e,ex,_⟩:=I.hok p _ hk
     exact⟨o,e,ex⟩
    ·obtain⟨_,_,_,_,o,_,_,e,ex,_⟩:=I.hok p _ hk
     exact⟨o,e,ex⟩
   obtain⟨o,e,ex⟩:=z
   refine⟨⟨o,e,ex.1⟩,fun a e2=>?_⟩
   cases e2
   exact⟨o,e,ex.2.1⟩
  ·obtain⟨o,_,_,_,e,ex,_⟩:=I.hok p _ hk
   refine⟨⟨o,e,ex.1⟩,fun a e2=>?_⟩
   cases e2
   exact⟨o,e,ex.2.1⟩
 | _=>exact False.elim ty
def tBM0 (K:Y01)(T:String)(r:V->List V->Hp->VK->Prop)(to:TE):TE:=fun σ H Q=>to σ H fun x H1=>tyV K T x H1/\r x [] H1 Q
def tBM (K:Y01)(T:String)(r:V->List V->Hp->VK->Prop)(to:TE)(t:TA):TE:=fun σ H Q=>to σ H fun x H1=>tyV K T x H1/\t σ H1 fun xs H2=>r x xs H2 Q
variable {o e:Expr}{es:List Expr}{to:TE}{t:TA}{name:Str}{apos cpos:Pos}{T id:String}{r:V->List V->Hp->VK->Prop}
theorem Zm8 (pa:PlainAttrs T)(slot:Slot T name id)(hty:typeOf (.builtin id)=pure (.type "method_descriptor"))(hm:MtR X id r)(ho:PE X o to)
  (hbase:attributeBase o name X.env (eval o X.env)=eval o X.env:=by rfl) (hline:(apos.endLine == cpos.line)=true:=by rfl):PE X (.Call (.Attribute o name apos) [] [] cpos) (tBM0 X.K T r to):=by
 intro pins s σ H Q I h
 refine wpAny_Call_method0_late hbase hline (thn (ho pins s σ H _ I h) fun v s1 ⟨x,H1,I1,r1,ty,q1⟩=>?_)
 obtain⟨h1,h2⟩:=Zmd I1 r1 ty
 exact⟨T,id,pa,slot,hty,h1,h2,Calls.callWith_builtin rfl (PySem.evalArgs_none (hm pins s1 σ H1 x [] v [] Q I1 r1 .nil q1))⟩
theorem Z34 (pa:PlainAttrs T)(slot:Slot T name id)(hty:typeOf (.builtin id)=pure (.type "method_descriptor"))(hm:MtR X id r)(ho:PE X o to)(ha:PA X (e :: es) t)
  (hbase:attributeBase o name X.env (eval o X.env)=eval o X.env:=by rfl)
  (hfew:((backTo cpos (starEach (e :: es) X.env)).all (fun x=>!x.1) && (backToKw cpos (keywordEach [] X.env)).all (fun x=>x.1.isSome)
   && decide ((e :: es).length+([]:List Keyword).length+(if ([]:List Keyword).isEmpty then 0 else 1) < 30))=true:=by rfl)
  (hline:(apos.endLine == cpos.line)=true:=by rfl) (hs:starEach (e :: es) X.env=(false,eval e X.env) :: starEach es X.env:=by rfl) (hplain:(backTo cpos (starEach es X.env)).any (·.1)=false:=by rfl) :
  PE X (.Call (.Attribute o name apos) (e :: es) [] cpos) (tBM X.K T r to t):=by
 intro pins s σ H Q I h
 refine wpAny_Call_method_late hbase hfew hline rfl (thn (ho pins s σ H _ I h) fun v s1 ⟨x,H1,I1,r1,ty,q1⟩=>?_)
 obtain⟨h1,h2⟩:=Zmd I1 r1 ty
 refine⟨T,id,pa,slot,hty,h1,h2,?_⟩
 have hA:=ha cpos pins s1 σ H1 _ I1 q1
 rw[hs]at hA ⊢
 refine Calls.callWith_builtin (by show (false || (backTo cpos (starEach es X.env)).any (·.1))=false; rw[hplain] <;> rfl) (Calls.evalArgs_plain ?_)
 exact thn hA fun us s2 ⟨vs,H2,I2,r2,q2⟩=>hm pins s2 σ H2 x vs v us Q I2 r1 r2 q2
end
def MtM (X:Cx)(id:String)(r:V->List V->Hp->VK->Prop):Prop:=
 ∀ (pins:List (Addr×Obj)) (s:Shared) (σ:St) (H:Hp) (x:V) (xs:List V) (v:Value) (us:List Value) (Q:VK),Inv X pins σ H s->Z1p x v->Z1c xs us->r x xs H Q->
  wpAny (model X.prog X.w) X.A (call (.builtin id) (v :: us)) (EP X pins σ Q) X.xe s
theorem Z1c.one:∀ {x:V} {us:List Value},Z1c [x] us->∃ u,us=[u]/\Z1p x u
 | _,_,.cons r .nil=>⟨_,rfl,r⟩
theorem Z1c.zero:∀ {us:List Value},Z1c [] us->us=[]
 | _,.nil=>rfl
theorem Z1c.eraseIdx:∀ {xs:List V} {us:List Value} (i:Nat),Z1c xs us->Z1c (xs.eraseIdx i) (us.eraseIdx i)
 | _,_,_,.nil=>.nil
 | _,_,0,.cons _ t=>t
 | _,_,i+1,.cons r t=>.cons r (Z1c.eraseIdx i t)
theorem Za7 {α:Type}:∀ (l:List α) (i:Nat),(l.eraseIdx i).length<=l.length
 | [],_=>Y06 _
 | _ :: _,0=>Nat.le_succ _
 | _ :: r,i+1=>Nat.succ_le_succ (Za7 r i)
section
variable {X:Cx}{pins:List (Addr×Obj)}{σ:St}{H:Hp}{s:Shared}{l b:Addr}{xs ys zs:List V}
theorem Inv.lset {its its':List Value}{n:Nat}{f:Array Value->Array Value}{t':Nat}(I:Inv X pins σ H s)(hH:H l=some (.lst xs))
  (e:s.heap.get? l=some { cls:=.type "list",data:=.seq its.toArray n }) (hf:f its.toArray=its'.toArray) (hv:Z1c ys its') (hz:ys.length<=sizeLine) :
  Inv X pins σ (upd H l (.lst ys)) { s with heap:=s.heap.update l (Obj.mapSeq f),toks:=t' }:=by
 have q:=PySem.IsL.update e f
 rw[hf]at q
 refine I.write (x:=l) (e:=l) (by rw[hH]; exact trivial) (.inl rfl) (fun b' u hb hu=>(Y15 s.heap (Obj.mapSeq f) (Ne.symm hb)).trans hu) ⟨_,q⟩ ?_
 exact⟨hz,its',_,hv,q⟩
theorem Inv.lnew {its:List Value}{t':Nat}(I:Inv X pins σ H s)(hv:Z1c ys its)(hz:ys.length<=sizeLine) :
  Inv X pins σ (upd H s.heap.objs.size (.lst ys)) { s with heap:=s.heap.push { cls:=.type "list",data:=.seq its.toArray },toks:=t' }:=
 I.laid (fun _ _ q=>Y02 _ q) (Y06 _) ⟨hz,its,0,hv,Y0b _ rfl⟩
theorem Inv.fresh (I:Inv X pins σ H s):H s.heap.objs.size=none:=I.hok.fresh (Y06 _)
theorem Inv.lstM (I:Inv X pins σ H s)(hH:H l=some (.lst xs)):xs.length<=sizeLine/\∃ (its:List Value) (n:Nat),Z1c xs its/\xs.length=its.length/\s.heap.get? l=some { cls:=.type "list",data:=.seq its.toArray n }:=by
 obtain⟨z,its,n,r,e⟩:=I.hok l _ hH
 exact⟨z,its,n,r,r.length,e⟩
theorem Zki {n:Nat}(h:n<=sizeLine):Builtin.List.listTooLong n=false:=by
 unfold Builtin.List.listTooLong
 exact decide_eq_false (by omega)
end
section
variable {X:Cx}
def Zp2:V->List V->Hp->VK->Prop:=fun x vs H Q=>∃ l xs y,x=.ref l/\vs=[y]/\H l=some (.lst xs)/\xs.length < sizeLine/\Q .non (upd H l (.lst (xs++[y])))
theorem Z11:MtM X "list.append" Zp2:=by
 intro pins s σ H x vs v us Q I rx rv h
 obtain⟨l,xs,y,rfl,rfl,hH,hz,q⟩:=h
 cases rx
 obtain⟨u,rfl,ru⟩:=rv.one
 obtain⟨z,its,n,r,hl,e⟩:=I.lstM hH
 refine call_meets F.slot_list_append ⟨_,e,rfl⟩ F.entry_list_append (F.args_list_append_2 _ _) (PySem.list_append l its.toArray n u (by rw[Y0i]; omega)) ⟨e,?_⟩
 refine⟨.non,_,I.lset (its':=its++[u]) hH e (by simp) (r.append (.cons ru .nil)) ?_,rfl,q⟩
 rw[Y07,List.length_singleton]
 omega
def Zo0:V->List V->Hp->VK->Prop:=fun x vs H Q=>∃ l b xs zs,x=.ref l/\vs=[.ref b]/\H l=some (.lst xs)/\H b=some (.lst zs)/\xs.length+zs.length<=sizeLine/\Q .non (upd H l (.lst (xs++zs)))
theorem Zg7:MtM X "list.extend" Zo0:=by
 intro pins s σ H x vs v us Q I rx rv h
 obtain⟨l,b,xs,zs,rfl,rfl,hH,hB,hz,q⟩:=h
 cases rx
 obtain⟨u,rfl,ru⟩:=rv.one
 cases ru
 obtain⟨z,its,n,r,hl,e⟩:=I.lstM hH
 obtain⟨z2,its2,n2,r2,hl2,e2⟩:=I.lstM hB
 have hsz:its.toArray.size+its2.toArray.size<=sizeLine:=by rw[Y0i,Y0i]; omega
 have hlong:¬ (!its.toArray.isEmpty && Builtin.List.listTooLong (its.toArray.size+its2.toArray.size))=true:=by
  rw[Zki hsz,Bool.and_false]
  exact Bool.false_ne_true
 refine call_meets F.slot_list_extend ⟨_,e,rfl⟩ F.entry_list_extend (F.args_list_extend_2 _ _)
  (AutoSeq1.list_extend_list_list_0 l its.toArray n b its2.toArray n2 hlong (by rw[Y0i]; omega) (by omega)) ⟨e,e2,?_⟩
 refine⟨.non,_,I.lset (its':=its++its2) hH e (by simp) (r.append r2) ?_,rfl,q⟩
 rw[Y07]
 omega
def Zlu:V->List V->Hp->VK->Prop:=fun x vs H Q=>∃ l xs i k y,x=.ref l/\vs=[.int i]/\H l=some (.lst xs)/\-(2 ^ 63)<=i/\i < 2 ^ 63/\seqIndex? i xs.length=some k/\xs[k]?=some y/\Q y (upd H l (.lst (xs.eraseIdx k)))
theorem Z9x:MtM X "list.pop" Zlu:=by
 intro pins s σ H x vs v us Q I rx rv h
 obtain⟨l,xs,i,k,y,rfl,rfl,hH,h1,h2,hk,hy,q⟩:=h
 cases rx
 obtain⟨u,rfl,ru⟩:=rv.one
 obtain⟨t,rfl⟩:=ru
 obtain⟨z,its,n,r,hl,e⟩:=I.lstM hH
 obtain⟨w,hw,rw'⟩:=r.get hy
 refine call_meets F.slot_list_pop ⟨_,e,rfl⟩ F.entry_list_pop (F.args_list_pop_2 _ _)
  (MeetsSeq.list_pop_at l its.toArray n i t k w (fitsIndex_both h1 h2) (by rw[Y0i,<-hl]; exact hk) (by rw[<-Array.getElem?_toList]; exact hw) (by rw[Y0i]; omega)) ⟨e,?_⟩
 refine⟨y,_,I.lset (its':=its.eraseIdx k) hH e ?_ (r.eraseIdx k) ?_,rw',q⟩
 ·show its.toArray.eraseIdxIfInBounds k=(its.eraseIdx k).toArray
  rw[List.eraseIdxIfInBounds_toArray]
 ·have:=Za7 xs k
  omega
def rCat:R2:=fun x y H Q=>∃ l b xs zs,x=.ref l/\y=.ref b/\H l=some (.lst xs)/\H b=some (.lst zs)/\xs.length+zs.length<=sizeLine/\∀ p,H p=none->Q (.ref p) (upd H p (.lst (xs++zs)))
theorem Zdn:OpR X (binaryOp .Add) rCat:=by
 intro pins s σ H x y v u Q I rx ry h
 obtain⟨l,b,xs,zs,rfl,rfl,hH,hB,hz,q⟩:=h
 cases rx
 cases ry
 obtain⟨z,its,n,r,hl,e⟩:=I.lstM hH
 obtain⟨z2,its2,n2,r2,hl2,e2⟩:=I.lstM hB
 refine PySem.P.add_list e e2 ?_ (by rw[Y0i,Y0i]; omega)
 have ea:its.toArray++its2.toArray=(its++its2).toArray:=by simp
 rw[ea]
 exact⟨.ref _,_,I.lnew (t':=s.toks) (r.append r2) (by rw[Y07]; omega),rfl,q _ I.fresh⟩
end
section
variable {prog:Program}{w:World}{A:Around}{E:Value->Shared->Prop}{s:Shared}
end
section
variable {X:Cx}
end
section
variable {κ:Type}[DecidableEq κ]
def Z2s (kvs:List (κ×V))(k:κ):Option V:=(kvs.find? fun kv=>decide (kv.1=k)).map (·.2)
def Z58 (kvs:List (κ×V))(k:κ)(v:V):List (κ×V):=
 if (kvs.any fun kv=>decide (kv.1=k))=true then kvs.map (fun kv=>if kv.1=k then (kv.1,v) else kv) else kvs++[(k,v)]
theorem Z21 {p:κ×V}{r:List (κ×V)}{k:κ}(e:p.1=k):Z2s (p :: r) k=some p.2:=by simp[Z2s,Y28,e]
theorem Z17 {p:κ×V}{r:List (κ×V)}{k:κ}(e:¬ p.1=k):Z2s (p :: r) k=Z2s r k:=by simp[Z2s,Y28,e]
theorem Z6l (k:κ):∀ kvs:List (κ×V),(kvs.any fun kv=>decide (kv.1=k))=(Z2s kvs k).isSome
 | []=>rfl
 | p :: r=>by
  rw[List.any_cons]
  by_cases e:p.1=k
  ·simp only[Z21 e,decide_eq_true e,Bool.true_or,Option.isSome_some]
  ·rw[Z17 e,decide_eq_false e,Bool.false_or]; exact Z6l k r
theorem Z7v (k j:κ)(y:V):∀ kvs:List (κ×V),Z2s kvs k=none->Z2s (kvs++[(k,y)]) j=if j=k then some y else Z2s kvs j
 | [],_=>by
  by_cases e:k=j
  ·rw[if_pos e.symm]; exact Z21 (p:=(k,y)) e
  ·rw[if_neg (fun z=>e z.symm)]; exact Z17 (p:=(k,y)) e
 | p :: r,hn=>by
  rw[List.cons_append]
  have hk:¬ p.1=k:=fun z=>by rw[Z21 z]at hn; cases hn
  rw[Z17 hk]at hn
  have ih:=Z7v k j y r hn
  by_cases e:p.1=j
  ·rw[Z21 e,Z21 e,if_neg (fun z=>hk (e.trans z))]
  ·rw[Z17 e,Z17 e,ih]
theorem Z52 (kvs:List (κ×V))(k:κ)(v:V):(Z58 kvs k v).length<=kvs.length+1:=by
 unfold Z58
 split
 ·rw[Y09]; omega
 ·rw[Y07,Y1d,List.length_nil]; omega
theorem Z28 {kvs:List (κ×V)}{k:κ}(v:V)(h:Z2s kvs k=none):Z58 kvs k v=kvs++[(k,v)]:=by
 unfold Z58
 rw[Z6l,h]
 exact if_neg (by decide)
theorem Zdf.isSome_eq {o:Option V}{u:Option Value}(r:Zdf o u):o.isSome=u.isSome:=by
 cases o with
 | none=>cases u with
  | none=>rfl
  | some _=>exact (show False from r).elim
 | some _=>cases u with
  | none=>exact (show False from r).elim
  | some _=>rfl
theorem Zdf.getD {o:Option V}{u:Option Value}{d:V}{d':Value}(r:Zdf o u)(rd:Z1p d d'):Z1p (o.getD d) (u.getD d'):=by
 cases o with
 | none=>cases u with
  | none=>exact rd
  | some _=>exact (show False from r).elim
 | some _=>cases u with
  | none=>exact (show False from r).elim
  | some _=>exact r
theorem KV.val {kvs:List (κ×V)}{vs:List (κ×Value)}(r:KV kvs vs)(k:κ):Zdf (Z2s kvs k) (valueAt vs k):=by
 unfold KV at r
 induction r with
 | nil=>exact True.intro
 | @cons p q ps qs h t ih=>
  obtain⟨h1,h2⟩:=h
  by_cases e:p.1=k
  ·have e':q.1=k:=h1.symm.trans e
   have b:valueAt (q :: qs) k=some q.2:=by simp[valueAt,Y28,e']
   rw[Z21 e,b]; exact h2
  ·have e':¬ q.1=k:=fun z=>e (h1.trans z)
   have b:valueAt (q :: qs) k=valueAt qs k:=by simp[valueAt,Y28,e']
   rw[Z17 e,b]; exact ih
theorem KV.any {kvs:List (κ×V)}{vs:List (κ×Value)}(r:KV kvs vs)(k:κ):(kvs.any fun kv=>decide (kv.1=k))=vs.any fun kv=>decide (kv.1=k):=by
 unfold KV at r
 induction r with
 | nil=>rfl
 | cons h t ih=>rw[List.any_cons,List.any_cons,ih,h.1]
theorem KV.repl {kvs:List (κ×V)}{vs:List (κ×Value)}(r:KV kvs vs)(k:κ){y:V}{u:Value}(ry:Z1p y u) :
  KV (kvs.map fun kv=>if kv.1=k then (kv.1,y) else kv) (vs.map fun kv=>if kv.1=k then (kv.1,u) else kv):=by
 unfold KV at r ⊢
 induction r with
 | nil=>exact .nil
 | @cons p q ps qs h t ih=>
  rw[Y0u,Y0u]
  refine .cons ?_ ih
  obtain⟨h1,h2⟩:=h
  by_cases e:p.1=k
  ·rw[if_pos e,if_pos (h1.symm.trans e)]; exact⟨h1,ry⟩
  ·rw[if_neg e,if_neg (fun z=>e (h1.trans z))]; exact⟨h1,h2⟩
theorem KV.put {kvs:List (κ×V)}{vs:List (κ×Value)}(r:KV kvs vs)(k:κ){y:V}{u:Value}(ry:Z1p y u):KV (Z58 kvs k y) (stored vs k u):=by
 unfold Z58 stored
 rw[r.any k]
 by_cases e:(vs.any fun kv=>decide (kv.1=k))=true
 ·rw[if_pos e,if_pos e]; exact r.repl k ry
 ·rw[if_neg e,if_neg e]; exact Paired.snoc r ⟨rfl,ry⟩
theorem KV.keys {kvs:List (κ×V)}{vs:List (κ×Value)}(r:KV kvs vs):kvs.map (·.1)=vs.map (·.1):=by
 unfold KV at r
 induction r with
 | nil=>rfl
 | cons h t ih=>rw[Y0u,Y0u,ih,h.1]
theorem KV.length {kvs:List (κ×V)}{vs:List (κ×Value)}(r:KV kvs vs):kvs.length=vs.length:=Paired.length r
end
theorem Zfl {P:Program}{w:World}{k:Key}{u:Value}(r:Z1p (kV k) u):(Z0y P w).is k u=true:=by
 cases k with
 | inl i=>obtain⟨t,e⟩:=(show ∃ t,u=Value.int i t from r); subst e; exact Z7h P w i t
 | inr x=>obtain⟨t,e⟩:=(show ∃ t,u=Value.str x t from r); subst e; exact Z86 P w x t
theorem Zbw {P:Program}{w:World}:∀ {ks:List Key} {us:List Value},Z1c (ks.map kV) us->ItemsAre (Z0y P w) ks us
 | [],_,r=>by rw[List.map_nil]at r; cases r; exact .nil
 | k :: ks,_,r=>by
  rw[Y0u]at r
  cases r with
  | cons h t=>exact .cons (Zfl h) (Zbw t)
abbrev KT (H:Hp):List (List Key×V)->List (List Key×Addr×Value)->Prop:=Paired fun p q=>p.1=q.1/\H q.2.1=some (.tup (p.1.map kV))/\Z1p p.2 q.2.2
theorem KT.val {H:Hp}{kvs:List (List Key×V)}{xs:List (List Key×Addr×Value)}(r:KT H kvs xs)(k:List Key):Zdf (Z2s kvs k) ((atKey xs k).map (·.2)):=by
 induction r with
 | nil=>exact True.intro
 | @cons p q ps qs h t ih=>
  obtain⟨h1,_,h2⟩:=h
  by_cases e:p.1=k
  ·have e':q.1=k:=h1.symm.trans e
   have b:atKey (q :: qs) k=some q.2:=by simp[atKey,Y28,e']
   rw[Z21 e,b]; exact h2
  ·have e':¬ q.1=k:=fun z=>e (h1.trans z)
   have b:atKey (q :: qs) k=atKey qs k:=by simp[atKey,Y28,e']
   rw[Z17 e,b]; exact ih
theorem KT.repl {H:Hp}{kvs:List (List Key×V)}{xs:List (List Key×Addr×Value)}(r:KT H kvs xs)(k:List Key){y:V}{u:Value}(ry:Z1p y u) :
  KT H (kvs.map fun kv=>if kv.1=k then (kv.1,y) else kv) (xs.map (putAt k u)):=by
 induction r with
 | nil=>exact .nil
 | @cons p q ps qs h t ih=>
  rw[Y0u,Y0u]
  refine .cons ?_ ih
  obtain⟨h1,h2,h3⟩:=h
  unfold putAt
  by_cases e:p.1=k
  ·rw[if_pos e,if_pos (h1.symm.trans e)]; exact⟨h1,h2,ry⟩
  ·rw[if_neg e,if_neg (fun z=>e (h1.trans z))]; exact⟨h1,h2,h3⟩
theorem KT.put {H:Hp}{kvs:List (List Key×V)}{xs:List (List Key×Addr×Value)}(r:KT H kvs xs)(k:List Key){b:Addr}{y:V}{u:Value}(hb:H b=some (.tup (k.map kV)))(ry:Z1p y u) :
  KT H (Z58 kvs k y) (storedH xs k b u):=by
 have e:(kvs.any fun kv=>decide (kv.1=k))=(atKey xs k).isSome:=by
  rw[Z6l,(r.val k).isSome_eq,Option.isSome_map]
 unfold Z58 storedH
 rw[e]
 by_cases q:(atKey xs k).isSome=true
 ·rw[if_pos q,if_pos q]; exact r.repl k ry
 ·rw[if_neg q,if_neg q]; exact Paired.snoc r ⟨rfl,hb,ry⟩
theorem KT.keeps {H H':Hp}{kvs:List (List Key×V)}{xs:List (List Key×Addr×Value)}(r:KT H kvs xs)(ht:∀ b ys,H b=some (.tup ys)->H' b=some (.tup ys)):KT H' kvs xs:=
 Paired.mapP r fun _ _ z=>⟨z.1,ht _ _ z.2.1,z.2.2⟩
section
variable {P:Program}{w:World}{H:Hp}{h:Heap}{a:Addr}
theorem Zqv {u:HO}(ok:HOk P w H h)(e:Rd H a u):Z1g P w H h a u:=e.ok ok
theorem Zco {kvs:List (Key×V)}(ok:HOk P w H h)(e:Rd H a (.dK kvs)):kvs.length<=sizeLine/\(a == sysModules)=false/\∃ vs,KV kvs vs/\h.DictOf (Z0y P w) a vs:=
 show Z1g P w H h a (.dK kvs) from Zqv ok e
theorem Zfo {kvs:List (Key×V)}(ok:HOk P w H h)(e:H a=some (.dK kvs)):kvs.length<=sizeLine/\(a == sysModules)=false/\∃ vs,KV kvs vs/\h.DictOf (Z0y P w) a vs:=Zco ok (.inl e)
theorem Zb1 {ks:List Key}(ok:HOk P w H h)(e:H a=some (.tup (ks.map kV))):(tupleKind (Z0y P w)).is h ks a:=by
 obtain⟨_,its,r,o,h1,h2,n,h3⟩:=(show Z1g P w H h a (.tup (ks.map kV)) from ok a _ e)
 exact⟨o,its.toArray,n,h1,h2,h3,by simpa using Zbw r⟩
theorem Zfh {kvs:List (List Key×V)}(ok:HOk P w H h)(e:Rd H a (.dT kvs)):kvs.length<=sizeLine/\(a == sysModules)=false/\
  ∃ xs,KT H kvs xs/\h.DictOfH (tupleKind (Z0y P w)) a xs:=by
 obtain⟨z,y,xs,r,o,es,ep,h1,h2,h3,h4,h5⟩:=(show Z1g P w H h a (.dT kvs) from Zqv ok e)
 refine⟨z,y,xs,r,o,es,ep,h1,h2,h3,h4,fun x hx=>?_,h5⟩
 have all:∀ {l:List (List Key×V)} {m:List (List Key×Addr×Value)},KT H l m->∀ x∈m,(tupleKind (Z0y P w)).is h x.1 x.2.1:=by
  intro l m q
  induction q with
  | nil=>intro x hx; exact nomatch hx
  | @cons p q ps qs hq t ih=>
   intro x hx
   rcases Y0j.mp hx with e | hx
   ·subst e
    exact Zb1 ok (by rw[<-hq.1]; exact hq.2.1)
   ·exact ih x hx
 exact all r x hx
theorem Zsl {kvs:List (List Key×V)}(ok:HOk P w H h)(e:H a=some (.dT kvs)):kvs.length<=sizeLine/\(a == sysModules)=false/\
  ∃ xs,KT H kvs xs/\h.DictOfH (tupleKind (Z0y P w)) a xs:=Zfh ok (.inl e)
end
def Z6k (H:Hp)(a:Addr)(y:V)(r:Option V):Prop:=
 (∃ kvs k,Rd H a (.dK kvs)/\y=kV k/\r=Z2s kvs k)\/∃ kvs k b,Rd H a (.dT kvs)/\y=.ref b/\H b=some (.tup (k.map kV))/\r=Z2s kvs k
def Zc3 (H:Hp)(a:Addr)(y v:V)(H':Hp):Prop:=
 (∃ kvs k,H a=some (.dK kvs)/\y=kV k/\kvs.length < sizeLine/\H'=upd H a (.dK (Z58 kvs k v)))\/
 ∃ kvs k b,H a=some (.dT kvs)/\y=.ref b/\H b=some (.tup (k.map kV))/\kvs.length < sizeLine/\H'=upd H a (.dT (Z58 kvs k v))
theorem Z6k.k {H:Hp}{a:Addr}{kvs:List (Key×V)}{k:Key}(e:H a=some (.dK kvs)):Z6k H a (kV k) (Z2s kvs k):=.inl ⟨kvs,k,.inl e,rfl,rfl⟩
theorem Zc3.k {H:Hp}{a:Addr}{kvs:List (Key×V)}{k:Key}{v:V}(e:H a=some (.dK kvs))(hl:kvs.length < sizeLine):Zc3 H a (kV k) v (upd H a (.dK (Z58 kvs k v))):=.inl ⟨kvs,k,e,rfl,hl,rfl⟩
section
variable {X:Cx}{pins:List (Addr×Obj)}{σ:St}{H:Hp}{s:Shared}{a:Addr}{y v:V}{u r:Value}{o:Option V}{A:Around}{E:Value->Shared->Prop}
theorem Inv.big (I:Inv X pins σ H s):sysModules < s.heap.objs.size:=by
 have h:mainGlobals < s.heap.objs.size:=(I.mod.glob.keeps I.bk).lt
 exact Nat.lt_trans (by decide) h
theorem Zh0 {Q:Value->Shared->Prop}(hu:A.units+1 < cLine)(I:Inv X pins σ H s)(g:Z6k H a y (some v))(ry:Z1p y u)(h:∀ w' s',Inv X pins σ H s'->Z1p v w'->Q w' s') :
  wpAny (model X.prog X.w) A (getItem (.ref a) u) Q E s:=by
 rcases g with ⟨kvs,k,e,ey,l⟩ | ⟨kvs,k,b,e,ey,eb,l⟩
 ·subst ey
  obtain⟨z,hd,vs,rel,dd⟩:=Zco I.hok e
  obtain⟨w',hw,rw'⟩:=Zdf.some_of (v:=v) (o:=valueAt vs k) (by rw[l]; exact rel.val k)
  exact wpAny_getItem_of (Zfl ry) dd.mapOf hw (h w' _ (I.tok _) rw')
 ·subst ey
  cases (show u=Value.ref b from ry)
  obtain⟨z,hd,xs,rel,dd⟩:=Zfh I.hok e
  obtain⟨w',hw,rw'⟩:=Zdf.some_of (v:=v) (o:=(atKey xs k).map (·.2)) (by rw[l]; exact rel.val k)
  obtain⟨p,hp,hp2⟩:=Option.map_eq_some_iff.mp hw
  refine wpAny_getItem_heap (tupleKind_room_in1 hu) (Zb1 I.hok eb) dd hp ?_
  rw[hp2]
  exact h w' _ (I.tok _) rw'
theorem Zp9 {Q:Value->Shared->Prop}(hu:A.units+1 < cLine)(I:Inv X pins σ H s)(g:Z6k H a y o)(ry:Z1p y u)(h:∀ s',Inv X pins σ H s'->Q (.bool (!o.isSome)) s') :
  wpAny (model X.prog X.w) A (compareOp .NotIn u (.ref a)) Q E s:=by
 rcases g with ⟨kvs,k,e,ey,l⟩ | ⟨kvs,k,b,e,ey,eb,l⟩
 ·subst ey
  obtain⟨z,hd,vs,rel,dd⟩:=Zco I.hok e
  refine wpAny_notIn_of (Zfl ry) hd dd.mapOf ?_
  rw[<-(rel.val k).isSome_eq,<-l]
  exact h _ (I.tok _)
 ·subst ey
  cases (show u=Value.ref b from ry)
  obtain⟨z,hd,xs,rel,dd⟩:=Zfh I.hok e
  refine wpAny_notIn_heap (tupleKind_room_in1 hu) (Zb1 I.hok eb) hd dd ?_
  have q:=(rel.val k).isSome_eq
  rw[Option.isSome_map]at q
  rw[<-q,<-l]
  exact h _ (I.tok _)
theorem Zcg {h':Heap}{t':Nat}{ob:HO}(I:Inv X pins σ H s)(mu:Mut (H a))(hs:Heap.SameBut a s.heap h')(he:∃ q,h'.get? a=some q)(new:Z1g X.prog X.w (upd H a ob) h' a ob) :
  Inv X pins σ (upd H a ob) { s with heap:=h',toks:=t' }:=
 I.write (x:=a) (e:=a) mu (.inl rfl) (fun b q hb z=>(hs.2 b hb).trans z) he new
theorem Zlq {P:Program}{w:World}{H':Hp}{h':Heap}{kvs:List (Key×V)}{vs:List (Key×Value)}(z:kvs.length<=sizeLine)(hd:(a == sysModules)=false)(rel:KV kvs vs)(dd:h'.DictOf (Z0y P w) a vs) :
  Z1g P w H' h' a (.dK kvs):=⟨z,hd,vs,rel,dd⟩
theorem Zix {H':Hp}{Q:Unit->Shared->Prop}(hu:A.units+1 < cLine)(I:Inv X pins σ H s)(g:Zc3 H a y v H')(ry:Z1p y u)(rv:Z1p v r)(h:∀ s',Inv X pins σ H' s'->Q () s') :
  wpAny (model X.prog X.w) A (setItem (.ref a) u r) Q E s:=by
 rcases g with ⟨kvs,k,e,ey,l,eH⟩ | ⟨kvs,k,b,e,ey,eb,l,eH⟩
 ·subst ey eH
  obtain⟨z,hd,vs,rel,dd⟩:=Zfo I.hok e
  have hz:vs.length<=sizeLine:=by rw[<-rel.length]; exact z
  have hl:(Z58 kvs k v).length<=sizeLine:=by have:=Z52 kvs k v; omega
  refine wpAny_setItem_pairs (hsz:=hz) (Zfl ry) dd fun h' dd' hs=>h _ ?_
  have he:∃ q,h'.get? a=some q:=let ⟨q,_,_,hq,_⟩:=dd'; ⟨q,hq⟩
  exact Zcg I (by rw[e]; exact True.intro) hs he (Zlq hl hd (rel.put k rv) dd')
 ·subst ey eH
  cases (show u=Value.ref b from ry)
  obtain⟨z,hd,xs,rel,dd⟩:=Zsl I.hok e
  have hz:xs.length<=sizeLine:=by rw[<-Paired.length rel]; exact z
  have hl:(Z58 kvs k v).length<=sizeLine:=by have:=Z52 kvs k v; omega
  refine wpAny_setItem_heap (hsz:=hz) (tupleKind_room_in1 hu) (Zb1 I.hok eb) dd fun h' dd' hs=>h _ ?_
  obtain⟨q,es,ep,hq,h2,h3,h4,_,h5⟩:=dd'
  refine Zcg I (by rw[e]; exact True.intro) hs ⟨q,hq⟩ ⟨hl,hd,_,(rel.put k eb rv).keeps fun c ys ec=>?_,q,es,ep,hq,h2,h3,h4,h5⟩
  rw[Z05 (Zh6 ec e (fun z=>nomatch z))]
  exact ec
end
section
variable {X:Cx}{pins:List (Addr×Obj)}{σ:St}{H:Hp}{s:Shared}{a:Addr}{kvs:List (Key×V)}{k:Key}{u:Value}{A:Around}{E:Value->Shared->Prop}
theorem Zt5 {Q:Value->Shared->Prop}(I:Inv X pins σ H s)(e:Rd H a (.dK kvs))(h:∀ t s',Inv X pins σ H s'->Q (.int kvs.length t) s'):wpAny (model X.prog X.w) A (call (.builtin "len") [.ref a]) Q E s:=by
 obtain⟨z,hd,vs,rel,dd⟩:=Zco I.hok e
 refine call_len_dict hd dd (by rw[<-rel.length]; rw[sizeLine_eq]at z; omega) ?_
 rw[<-rel.length]
 exact h _ _ (I.tok _)
end
def NoSl (i:Expr):Prop:=∀ ov iv,subscripted i false ov iv=operate [ov,iv] (getItem ov iv)
theorem Zod {prog:Program}{w:World}{A:Around}{E:Value->Shared->Prop}{s:Shared}{env:Env}{value slice:Expr}{pos:Pos}{T id:String}{Q:Value->Shared->Prop}
  (hl:typeLookup (.type T) "__getitem__"=pure (some (.builtin id))) (hs:NoSl slice)
  (h:wpAny (model prog w) A (eval value env) (fun o s₁=>wpAny (model prog w) A (eval slice env) (fun i s₂=>s₂.TypeIs o T/\wpAny (model prog w) A (getItem o i) Q E s₂) E s₁) E s) :
  wpAny (model prog w) A (eval (.Subscript value slice pos) env) Q E s:=by
 refine Subscript_ (wpAny_mono h (fun o s₁ h₁=>wpAny_mono h₁ (fun i s₂ h₂=>?_) fun _ _ x=>x) fun _ _ x=>x)
 obtain⟨hT,h₂⟩:=h₂
 unfold subscriptTail
 refine wpAny_bind ?_
 rw[getitemInPython_of_ne hT.not_modules]
 refine wpAny_bind (wpAny_specialOf hT hl ?_)
 have fin:wpAny (model prog w) A (subscripted slice false o i) (fun r s₃=>wpAny (model prog w) A (letTemporaryGo value o r >>= fun _=>pure r) Q E s₃) E s₂:=by
  rw[hs o i]
  exact wpAny_operating (wpAny_mono h₂ (fun r s₃ h₃=>wpAny_bind (wpAny_letTemporaryGo (wpAny_pure h₃))) fun _ _ x=>x)
 first
  | exact wpAny_pure (wpAny_bind fin)
  | exact wpAny_bind (wpAny_pure (wpAny_bind fin))
  | exact wpAny_bind fin
theorem Zc5 {X:Cx}{pins:List (Addr×Obj)}{σ:St}{H:Hp}{s:Shared}{a:Addr}{y:V}{o:Option V}(I:Inv X pins σ H s)(g:Z6k H a y o):s.TypeIs (.ref a) "dict":=by
 rcases g with ⟨kvs,k,e,_,_⟩ | ⟨kvs,k,b,e,_,_,_⟩
 ·obtain⟨_,_,vs,_,dd⟩:=Zco I.hok e
  exact dd.typeIs
 ·obtain⟨_,_,xs,_,dd⟩:=Zfh I.hok e
  exact dd.typeIs
def Zf6 (td ty:TE):TE:=fun σ H Q=>td σ H fun x H1=>ty σ H1 fun y H2=>∃ a v,x=.ref a/\Z6k H2 a y (some v)/\Q v H2
def Zou (ty td:TE):TE:=fun σ H Q=>ty σ H fun y H1=>td σ H1 fun x H2=>∃ a o,x=.ref a/\Z6k H2 a y o/\Q (.bl (!o.isSome)) H2
def Ztx (td ty tv:TE):TS:=fun D σ H=>tv σ H fun v H1=>td σ H1 fun x H2=>ty σ H2 fun y H3=>∃ a H4,x=.ref a/\Zc3 H3 a y v H4/\D.nx σ H4
section
variable {X:Cx}{o i e value:Expr}{pos pos' tpos:Pos}{td ty tv:TE}
theorem Z51 (hu:X.A.units+1 < cLine)(ho:PE X o td)(hi:PE X i ty)(hs:NoSl i):PE X (.Subscript o i pos) (Zf6 td ty):=by
 intro pins s σ H Q I h
 refine Zod PySem.F.slot_dict_getitem.lookup hs (thn (ho pins s σ H _ I h) fun u s1 ⟨x,H1,I1,rx,q1⟩=>thn (hi pins s1 σ H1 _ I1 q1) fun iv s2 ⟨y,H2,I2,ry,a,v,ex,g,q2⟩=>?_)
 subst ex
 obtain rfl:u=Value.ref a:=rx
 exact⟨Zc5 I2 g,Zh0 hu I2 g ry fun w' s3 I3 rw'=>⟨v,H2,I3,rw',q2⟩⟩
theorem Z5c (hu:X.A.units+1 < cLine)(hi:PE X i ty)(ho:PE X o td):PC X .NotIn i o (Zou ty td):=by
 intro pins s σ H Q I h
 refine thn (hi pins s σ H _ I h) fun iv s1 ⟨y,H1,I1,ry,q1⟩=>thn (ho pins s1 σ H1 _ I1 q1) fun u s2 ⟨x,H2,I2,rx,a,ov,ex,g,q2⟩=>?_
 subst ex
 obtain rfl:u=Value.ref a:=rx
 exact Zp9 hu I2 g ry fun s3 I3=>⟨.bl (!ov.isSome),H2,I3,rfl,q2⟩
theorem Z2x (hu:X.A.units+1 < cLine)(ho:PE X o td)(hi:PE X i ty)(hv:PE X value tv)(hs:swapsWith value (some (.Subscript o i pos')) pos.line X.env=pure false) :
  PS X (.Assign [.Subscript o i pos'] value pos) (Ztx td ty tv):=by
 intro pins s σ H D I h
 refine wpAny_Assign_Subscript (thn (hv pins s σ H _ I h) fun r s1 ⟨v,H1,I1,rv,q1⟩=>thn (ho pins s1 σ H1 _ I1 q1) fun u s2 ⟨x,H2,I2,rx,q2⟩=>thn (hi pins s2 σ H2 _ I2 q2) fun iv s3 ⟨y,H3,I3,ry,a,H4,ex,g,q3⟩=>?_) hs
 subst ex
 obtain rfl:u=Value.ref a:=rx
 exact Zix hu I3 g ry rv fun s4 I4=>⟨σ,H4,I4,q3⟩
end
theorem Zee {P:Program}{w:World}{H:Hp}(h:Heap)(hb:sysModules < h.objs.size):Z1g P w H (h.push { cls:=.type "dict",data:=.dict #[] }) h.objs.size (.dK []):=
 ⟨Y0w _,beq_eq_false_iff_ne.mpr (Ne.symm (Y0l hb)),[],.nil,Heap.DictOf.new h⟩
def Zpw:TE:=fun _ H Q=>∀ p,H p=none->Q (.ref p) (upd H p (.dK []))
section
variable {X:Cx}{pos:Pos}
theorem Z2e:PE X (.Dict [] [] pos) Zpw:=fun pins s σ H Q I h=>
 wpAny_Dict_empty ⟨.ref s.heap.objs.size,_,I.laid (a:=s.heap.objs.size) (o:=.dK []) (t':=s.toks) (fun _ _ q=>Y02 _ q) (Y06 _) (Zee s.heap I.big),rfl,h _ (I.hok.fresh (Y06 _))⟩
end
def Zj8:List (TE×TE)->St->Hp->(List (V×V)->Hp->Prop)->Prop
 | [],_,H,Q=>Q [] H
 | (tk,tv) :: r,σ,H,Q=>tk σ H fun x H1=>tv σ H1 fun y H2=>Zj8 r σ H2 fun ps H3=>Q ((x,y) :: ps) H3
abbrev VV:List (V×V)->List (Value×Value)->Prop:=Paired fun p q=>Z1p p.1 q.1/\Z1p p.2 q.2
def PPs (X:Cx)(pos:Pos)(keys:List (Option Expr))(values:List Expr)(trs:List (TE×TE)):Prop:=
 ∀ (pins:List (Addr×Obj)) (s:Shared) (σ:St) (H:Hp) (Q:List (V×V)->Hp->Prop),Inv X pins σ H s->Zj8 trs σ H Q->
  wpAny (model X.prog X.w) X.A (evalPairs (pairTrees keys values X.env pos)) (fun vs s'=>∃ ps H',Inv X pins σ H' s'/\VV ps vs/\Q ps H') X.xe s
theorem Zjk {X:Cx}{pos:Pos}:PPs X pos [] [] []:=fun pins s σ H Q I h=>pairTrees_nil_walk ⟨[],H,I,.nil,h⟩
theorem Z5i {X:Cx}{pos:Pos}{k v:Expr}{ks:List (Option Expr)}{vs:List Expr}{tk tv:TE}{trs:List (TE×TE)}(hk:PE X k tk)(hv:PE X v tv)(hr:PPs X pos ks vs trs) :
  PPs X pos (some k :: ks) (v :: vs) ((tk,tv) :: trs):=fun pins s σ H Q I h=>
 pairTrees_cons_walk (thn (hk pins s σ H _ I h) fun u s1 ⟨x,H1,I1,rx,q1⟩=>thn (hv pins s1 σ H1 _ I1 q1) fun w2 s2 ⟨y,H2,I2,ry,q2⟩=>
  thn (hr pins s2 σ H2 _ I2 q2) fun ws s3 ⟨ps,H3,I3,rel,q3⟩=>⟨(x,y) :: ps,H3,I3,.cons ⟨rx,ry⟩ rel,q3⟩)
def Z7c (kvs more:List (Key×V)):List (Key×V):=more.foldl (fun acc kv=>Z58 acc kv.1 kv.2) kvs
theorem KV.merge:∀ {more:List (Key×V)} {rs:List (Key×Value)} {kvs:List (Key×V)} {vs:List (Key×Value)},KV more rs->KV kvs vs->KV (Z7c kvs more) (merged vs rs):=by
 intro more rs kvs vs r
 unfold KV at r
 induction r generalizing kvs vs with
 | nil=>intro q; exact q
 | @cons p q ps qs h t ih=>
  intro r0
  have e:KV (Z58 kvs p.1 p.2) (stored vs q.1 q.2):=by
   have:=r0.put p.1 h.2
   rw[<-h.1]; exact this
  exact ih e
theorem Z5r:∀ (more kvs:List (Key×V)),(Z7c kvs more).length<=kvs.length+more.length
 | [],kvs=>by show kvs.length<=kvs.length+0; omega
 | p :: r,kvs=>by
  have h1:=Z5r r (Z58 kvs p.1 p.2)
  have h2:=Z52 kvs p.1 p.2
  show (Z7c (Z58 kvs p.1 p.2) r).length<=_
  rw[Y1d]; omega
theorem Z8n {P:Program}{w:World}:∀ {kvs:List (Key×V)} {ws:List (Value×Value)},VV (kvs.map fun kv=>(kV kv.1,kv.2)) ws->∃ rs,Carries (Z0y P w) ws rs/\KV kvs rs
 | [],_,r=>by rw[List.map_nil]at r; cases r; exact⟨[],True.intro,.nil⟩
 | p :: kvs,_,r=>by
  rw[Y0u]at r
  cases r with
  | @cons a b as bs h t=>
   obtain⟨rs,c,q⟩:=Z8n (P:=P) (w:=w) t
   obtain⟨b1,b2⟩:=b
   exact⟨(p.1,b2) :: rs,⟨Zfl h.1,rfl,c⟩,.cons ⟨rfl,h.2⟩ q⟩
def Zt3 (trs:List (TE×TE)):TE:=fun σ H Q=>∀ p,H p=none->Zj8 trs σ (upd H p (.dK [])) fun ps H2=>H2 p=some (.dK [])/\∃ kvs:List (Key×V),ps=kvs.map (fun kv=>(kV kv.1,kv.2))/\kvs.length<=15/\Q (.ref p) (upd H2 p (.dK (Z7c [] kvs)))
theorem Zin {X:Cx}{pos:Pos}{keys:List (Option Expr)}{values:List Expr}{trs:List (TE×TE)}(h:PPs X pos keys values trs)(hall:keys.all (·.isSome)=true)(hl:keys.length=values.length)(h0:keys≠[])
  (h15:keys.length<=15):PE X (.Dict keys values pos) (Zt3 trs):=by
 intro pins s σ H Q I q
 have hn:=I.hok.fresh (Y06 s.heap.objs.size)
 have I1:=I.laid (a:=s.heap.objs.size) (o:=.dK []) (h':=s.heap.push { cls:=.type "dict",data:=.dict #[] }) (t':=s.toks) (fun _ _ q=>Y02 _ q) (Y06 _) (Zee s.heap I.big)
 refine wpAny_Dict_walk (knd:=Z0y X.prog X.w) hall hl h0 h15 (thn (h pins _ σ _ _ I1 (q _ hn)) fun ws s2 ⟨ps,H2,I2,rel,e,kvs,ep,lk,q2⟩=>?_)
 subst ep
 obtain⟨rs,c,rk⟩:=Z8n (P:=X.prog) (w:=X.w) rel
 obtain⟨z,hd,vs0,r0,dd⟩:=Zfo I2.hok e
 cases r0
 refine⟨rs,c,dd,fun h' dd' hs=>⟨.ref s.heap.objs.size,_,?_,rfl,q2⟩⟩
 have hz:(Z7c [] kvs).length<=sizeLine:=by
  have h1:=Z5r kvs []
  rw[List.length_nil]at h1
  rw[sizeLine_eq]; omega
 have he:∃ q,h'.get? s.heap.objs.size=some q:=let ⟨q,_,_,hq,_⟩:=dd'; ⟨q,hq⟩
 exact Zcg I2 (by rw[e]; exact True.intro) hs he (Zlq hz hd (rk.merge .nil) dd')
structure M1 (X:Cx)(o:Expr)(m:Str)(apos:Pos)(e:Expr)(cpos:Pos):Prop where
 base:attributeBase o m X.env (eval o X.env)=eval o X.env
 few:((backTo cpos (starEach [e] X.env)).all (fun x=>!x.1) && (backToKw cpos (keywordEach [] X.env)).all (fun x=>x.1.isSome)
  && decide (([e]:List Expr).length+([]:List Keyword).length+(if ([]:List Keyword).isEmpty then 0 else 1) < 30))=true
 line:(apos.endLine == cpos.line)=true
 trees:backTo cpos (starEach [e] X.env)=[(false,eval e X.env)]
def IsD (H:Hp)(a:Addr):Prop:=(∃ kvs,Rd H a (.dK kvs))\/∃ kvs,Rd H a (.dT kvs)
theorem Zr2 {X:Cx}{pins:List (Addr×Obj)}{σ:St}{H:Hp}{s:Shared}{a:Addr}(I:Inv X pins σ H s)(d:IsD H a) :
  s.TypeIs (.ref a) "dict"/\(∀ b,Value.ref a=.ref b->∃ ob,s.heap.get? b=some ob/\ob.dict=none)/\(a == sysModules)=false:=by
 rcases d with ⟨kvs,e⟩ | ⟨kvs,e⟩
 ·obtain⟨_,hd,vs,_,dd⟩:=Zco I.hok e
  refine⟨dd.typeIs,fun b q=>?_,hd⟩
  cases q
  obtain⟨ob,_,_,h1,h2,_⟩:=dd
  exact⟨ob,h1,h2.2.1⟩
 ·obtain⟨_,hd,xs,_,dd⟩:=Zfh I.hok e
  refine⟨dd.typeIs,fun b q=>?_,hd⟩
  cases q
  obtain⟨ob,_,_,h1,h2,_⟩:=dd
  exact⟨ob,h1,h2.2.1⟩
section
variable {X:Cx}{pins:List (Addr×Obj)}{σ:St}{H:Hp}{s:Shared}{a:Addr}{y d:V}{u r:Value}{o:Option V}{A:Around}{E:Value->Shared->Prop}
theorem Zpt {Q:Value->Shared->Prop}(hu:A.units+1 < cLine)(I:Inv X pins σ H s)(g:Z6k H a y o)(ry:Z1p y u)(h:∀ w' s',Inv X pins σ H s'->Z1p (o.getD .non) w'->Q w' s') :
  wpAny (model X.prog X.w) A (call (.builtin "dict.get") [.ref a,u]) Q E s:=by
 rcases g with ⟨kvs,k,e,ey,l⟩ | ⟨kvs,k,b,e,ey,eb,l⟩
 ·subst ey
  obtain⟨z,hd,vs,rel,dd⟩:=Zco I.hok e
  refine call_meetsIn PySem.F.slot_dict_get dd.typeIs PySem.F.entry_dict_get (PySem.F.args_dict_get_2 _ _) (meets_dict_get (Z0y X.prog X.w) a (Zfl ry) hd) ⟨_,dd.mapOf,h _ _ (I.tok _) ?_⟩
  rw[l]
  exact (rel.val k).getD rfl
 ·subst ey
  cases (show u=Value.ref b from ry)
  obtain⟨z,hd,xs,rel,dd⟩:=Zfh I.hok e
  refine call_meetsIn PySem.F.slot_dict_get dd.typeIs PySem.F.entry_dict_get (PySem.F.args_dict_get_2 _ _) (meetsH_dict_get (tupleKind (Z0y X.prog X.w)) a b hd) ⟨tupleKind_room_in1 hu,k,xs,Zb1 I.hok eb,dd,h _ _ (I.tok _) ?_⟩
  rw[l]
  exact (rel.val k).getD rfl
end
def Zid (td ty:TE):TE:=fun σ H Q=>td σ H fun x H1=>∃ a,x=.ref a/\IsD H1 a/\ty σ H1 fun y H2=>∃ o,Z6k H2 a y o/\Q (o.getD .non) H2
section
variable {X:Cx}{o e f:Expr}{apos cpos:Pos}{td ty tx:TE}
theorem Zet (hu:X.A.units+1 < cLine)(ho:PE X o td)(he:PE X e ty)(m:M1 X o "get" apos e cpos):PE X (.Call (.Attribute o "get" apos) [e] [] cpos) (Zid td ty):=by
 intro pins s σ H Q I h
 refine wpAny_Call_method m.base m.few m.line PySem.F.plainAttrs_dict PySem.F.slot_dict_get PySem.F.type_dict_get (thn (ho pins s σ H _ I h) fun u s1 ⟨x,H1,I1,rx,a,ex,d,q1⟩=>?_)
 subst ex
 obtain rfl:u=Value.ref a:=rx
 obtain⟨t1,t2,_⟩:=Zr2 I1 d
 refine⟨t1,t2,?_⟩
 rw[m.trees]
 refine Calls.callWith_builtin rfl (Calls.evalArgs_plain (Calls.spliced_cons (thn (he pins s1 σ H1 _ I1 q1) fun iv s2 ⟨y,H2,I2,ry,ov,g,q2⟩=>Calls.spliced_nil ?_)))
 exact Zpt hu I2 g ry fun w' s3 I3 rw'=>⟨_,H2,I3,rw',q2⟩
end
section
variable {X:Cx}{pins:List (Addr×Obj)}{σ:St}{H:Hp}{s:Shared}{a:Addr}{kvs:List (Key×V)}{A:Around}{E:Value->Shared->Prop}
end
section
variable {X:Cx}{pins:List (Addr×Obj)}{σ:St}{H:Hp}{s:Shared}{a:Addr}{y:V}{u:Value}{A:Around}{E:Value->Shared->Prop}
end
end L2
namespace Att
open PySem PySem.W PySem.Calls PyProof.Rows
theorem Z84 {P:Params}{h:Heap}:∀ (ns:List Int) (vs:List Value),WellAll P h vs (ns.map WData.int)->IntsAre vs ns:=by
 intro ns
 induction ns with
 | nil=>
  intro vs w
  rw[List.map_nil]at w
  cases w
  exact .nil
 | cons n ns ih=>
  intro vs w
  rw[Y0u]at w
  cases w with
  | cons a b=>
   cases a
   exact .cons _ _ (ih _ b)
theorem Zjm {l:OpenLaw}{n:Nat}(hn:l.most=some n){P:Params}{h:Heap}{args:List WData}{vals:List Value}
  (hpre:l.row.toRowW.claim.pre args=true) (hwl:WellAll P h vals args) :
  ∃ a vs ns,vals=[Value.ref a]/\args=[WData.list (ns.map WData.int)]/\h.get? a=some { cls:=.type "list",data:=.seq vs.toArray }/\IntsAre vs ns/\ns.length<=n:=by
 have hsh:WShape.hasAll [] args [.list .int]=true:=(pre_splitW hpre).1
 have hc:l.pre.holds [] { args:=args }=true:=(pre_splitW hpre).2
 obtain⟨d,r,rfl,h1,h2⟩:=hasAllW_cons hsh
 obtain rfl:=hasAllW_nil h2
 obtain⟨xs,rfl,h3⟩:=hasW_list h1
 obtain⟨ns,rfl⟩:=items_int h3
 have hlen:ns.length<=n:=by
  unfold OpenLaw.pre at hc
  have h4:(WTm.not (.lt (.lit (.int (n:Int))) (.len (.arg 0)))).holds [] { args:=[.list (ns.map .int)] }=true:=by
   have h4:=(holds_andW hc).1
   rw[hn]at h4
   exact h4
  have h5:=condW_of h4 (w_not (w_lt w_lit (w_len_list (w_arg rfl))))
  rw[Y09]at h5
  refine Nat.le_of_not_lt fun q=>?_
  have q':(n:Int) < ((ns.length:Nat):Int):=by omega
  first
   | (rw[decide_eq_true q']at h5; exact absurd h5 (by decide))
   | (simp at h5; omega)
 cases hwl with
 | cons w1 w2=>
  cases w2
  cases w1 with
  | list ho hall=>exact⟨_,_,ns,rfl,rfl,ho,Z84 ns _ hall,hlen⟩
theorem Zgk (l:OpenLaw)(args:List WData):l.row.toRowW.claim.post args (.bool true) args=true:=
 postW_of (r:=l.row.toRowW) (X:=(true == true))
  (show WShape.has [] (.bool true) .bool=true by first | rfl | decide | simp[WShape.has,WShape.arms,WShape.armsAll])
  (show (WTm.eq .res (.lit (.bool true))).value [] { args:=args,res:=some (.bool true),after:=args }=some (.bool (true == true)) from w_eq_bool (w_res rfl) w_lit) rfl
theorem attach_call {l:OpenLaw}{n:Nat}{q:Program}{loose:List Str}{XP:(Str->Option Value)->Heap->Prop}{YP:World->Heap->Prop}{d:DefRec}
  (hn:l.most=some n) (hdf:d.params.defaults=[])
  (call:∀ (w:World) (s₀ s₁:Shared) (mg mb:Str->Option Value) (fa:Addr) (o:Obj) (pm cd doc:Value) (a:Addr) (vs:List Value) (ns:List Int),
   Ground q loose [] XP w s₀ mg mb s₁.heap->YP w s₁.heap->
   s₁.heap.get? fa=some o->o.data=.func (docDef d.name d.params d.body d.scope pm cd doc)->s₁.heap.CodeRec cd d.name->mg d.name=some (.ref fa)->
   s₁.heap.get? a=some { cls:=.type "list",data:=.seq vs.toArray }->IntsAre vs ns->ns.length<=n->s₁.gens=#[]->
   codeAny (model l.prog w) callerA (.call (.ref fa) ⟨[.ref a],[]⟩) (fun r s'=>r=.ok (.ret (.bool true))/\OldK s₁.heap s'.heap/\s'.os=s₁.os/\AllBare s'.gens) s₁) :
  WalkO q loose XP YP l.row.toRowW d [] (fun f vs=>PySem.call f vs):=by
 intro w s₀ s₁ mg mb G Y fa o pm cd doc dV kV ho hd hcd hD hmg hg args vals as hpre hlay hrd hwl hlo
 obtain rfl:dV=.none:=Dflts.none hD hdf
 obtain rfl:kV=.none:=Dflts.noKw hD
 obtain⟨a,vs,ns,rfl,rfl,hobj,hints,hlen⟩:=Zjm hn hpre hwl
 refine enter_call (codeAny_mono (call w s₀ s₁ mg mb fa o pm cd doc a vs ns G Y ho (fd_plain hd) hcd hmg hobj hints hlen hg) fun r s' hq=>?_)
 obtain⟨rfl,h2,h3,h4⟩:=hq
 exact⟨.inl ⟨.bool true,.bool true,[],rfl,fun _=>rfl,.bool true,Zgk l _,fun _=>⟨List.Pairwise.nil,fun _ hm=>(nomatch hm)⟩⟩,h2,h3,h4⟩
section
variable {prog:Program}{w:World}{A:Around}{E:Value->Shared->Prop}{s:Shared}{K:Frag}
end
end Att
namespace L2
open PySem PySem.Spec PyProof.Rows
theorem Z7b:∀ {vs:List Value} {ns:List Int},IntsAre vs ns->Z1c (ns.map V.int) vs
 | _,_,.nil=>.nil
 | _,_,.cons n t h=>.cons ⟨t,rfl⟩ (Z7b h)
def Zsy (H:Hp):Prop:=∀ b,H b=none\/∃ o xs,H b=some (.frz o (.lst xs))
theorem Zk9 {P:Program}{w:World}{K:Y01}{mg mb:Str->Option Value}{CX:CXT}{k:Nat}{fa a:Addr}{fd:FuncData}{x:Str}{sp:Sp}{s₁:Shared}{vs:List Value}{ns:List Int}
  (KX:K.In s₁.heap) (hns:s₁.heap.Ns mainGlobals mg) (hb:s₁.heap.Ns builtinsNs mb) (hbb:∀ x:Str,x≠"__name__"->mb x=bootBuiltins x) (hlim:s₁.heap.NoLimit) (hg:s₁.gens=#[])
  (ha:s₁.heap.get? a=some { cls:=.type "list",data:=.seq vs.toArray }) (hi:IntsAre vs ns) (hl:ns.length<=sizeLine) (hr:Z2d k callerA)
  (F:∀ base:Heap,K.In base->base.Ns mainGlobals mg->Z13 P w K mg base CX k fa fd [x] sp) (hbind:∀ (s:Shared) (u:Value),BindsTo s fd ⟨[u],[]⟩ [(x,u)])
  (hsp:∀ H:Hp,Zsy H->SqL K H a (ns.map V.int)->sp [.ref a] H (fun v _=>v=.bl true) fun _ _ _=>False)
  (hCX:∀ H e s',CX [] H s₁ (fun _ _ _=>False) e s'->False) :
  codeAny (model P w) callerA (.call (.ref fa) ⟨[.ref a],[]⟩) (fun r s'=>r=.ok (.ret (.bool true))/\OldK s₁.heap s'.heap/\s'.os=s₁.os/\AllBare s'.gens) s₁:=by
 have rv:=Z7b hi
 have lenV:=hi.length
 have core:∀ H:Hp,Zsy H->SqL K H a (ns.map V.int)->HOk P w H s₁.heap->(∀ b,H b≠none->b=a)->(H a≠none->K.lookup a=none)->
   codeAny (model P w) callerA (.call (.ref fa) ⟨[.ref a],[]⟩) (fun r s'=>r=.ok (.ret (.bool true))/\OldK s₁.heap s'.heap/\s'.os=s₁.os/\AllBare s'.gens) s₁:=by
  intro H hO hS hok hA hK
  have base_of:∀ {b:Addr} {o:Obj},s₁.heap.get? b=some o->H b=none->(Zkd s₁.heap H).get? b=some o:=fun e n=>Zlf e n
  have noA:∀ {b:Addr} {o:Obj} {es:Array DictEntry} {ep:Nat},s₁.heap.get? b=some o->o.data=.dict es ep->H b=none:=fun {b o es ep} e d=>by
   cases q:H b with
   | none=>rfl
   | some u=>
    have e':b=a:=hA b (by rw[q]; simp)
    subst e'
    rw[ha]at e; cases e
    have d':Data.seq vs.toArray _=Data.dict es ep:=d
    cases d'
  have nsK:∀ {b:Addr} {m:Str->Option Value},s₁.heap.Ns b m->(Zkd s₁.heap H).Ns b m:=fun {b m} ⟨o,es,ep,e,d,r⟩=>⟨o,es,ep,base_of e (noA e d),d,r⟩
  have hKb:K.In (Zkd s₁.heap H):=fun b o e=>base_of (KX b o e) (by
   cases q:H b with
   | none=>rfl
   | some u=>
    have e':b=a:=hA b (by rw[q]; simp)
    subst e'
    rw[hK (by rw[q]; simp)]at e; cases e)
  have hM:Mod K mg (Zkd s₁.heap H):=⟨hKb,nsK hns,⟨mb,nsK hb,hbb⟩,let ⟨mc,h1,h2⟩:=hlim; ⟨mc,nsK h1,h2⟩⟩
  have e0:Zml P w K mg (Zkd s₁.heap H) callerA [] s₁ H:=⟨rfl,hM,fun b o e=>Zoc e,Nat.le_of_eq (Zhb _ _),trivial,fun b hb=>absurd (show b∈([]:List Addr) from hb) (by simp),hok,.of_eq hg⟩
  refine codeAny_mono ((F _ hKb (nsK hns)).run callerA [] s₁ H ⟨[.ref a],[]⟩ [.ref a] [.ref a] _ _ hr e0 (hbind s₁ (.ref a)) (.cons rfl .nil) (hsp H hO hS)) fun r s' h=>?_
  cases r with
  | error e=>exact (hCX H e s' h).elim
  | ok fl=>
   cases fl with
   | next=>exact False.elim h
   | brk=>exact False.elim h
   | cont=>exact False.elim h
   | ret u=>
    obtain⟨v,H',os,bare,un,hok',r',q⟩:=h
    have q':v=.bl true:=q
    subst q'
    obtain rfl:u=Value.bool true:=r'
    refine⟨rfl,OldK.of_keep fun b o e=>?_,os,bare⟩
    cases q:H b with
    | none=>exact un.keep b o e q (by intro z; exact absurd (show b∈([]:List Addr) from z) (by simp)) (by simp)
    | some u=>
     rcases hO b with z | ⟨ob,xs,z⟩
     ·rw[q]at z; cases z
     ·have z2:=un.frzs b ob _ z
      obtain⟨e1,_⟩:=hok b _ z
      obtain⟨e2,_⟩:=hok' b _ z2
      rw[e]at e1; cases e1
      exact e2
 cases hk:K.lookup a with
 | some o=>
  have e:=KX a o hk
  rw[ha]at e
  cases e
  refine core (fun _=>none) (fun _=>.inl rfl) (.inr ⟨_,vs.toArray,_,hk,rfl,rfl,rfl,by rw[Y0i,lenV]; exact hl,by simpa using rv⟩) (fun b u z=>by have z':(none:Option HO)=some u:=z; cases z') (fun b z=>absurd rfl z) fun z=>absurd rfl z
 | none=>
  refine core (fun b=>if b=a then some (.frz { cls:=.type "list",data:=.seq vs.toArray } (.lst (ns.map V.int))) else none) (fun b=>?_) (.inl (.inr ⟨{ cls:=.type "list",data:=.seq vs.toArray },if_pos rfl⟩)) (fun b u z=>?_) (fun b z=>?_) fun _=>hk
  ·by_cases hb:b=a
   ·exact .inr ⟨_,_,if_pos hb⟩
   ·exact .inl (if_neg hb)
  ·by_cases hb:b=a
   ·have z':=(if_pos hb).symm.trans z
    cases z'
    subst hb
    exact⟨ha,by rw[Y09]; exact hl,vs,_,rv,ha⟩
   ·have z':=(if_neg hb).symm.trans z
    cases z'
  ·by_cases hb:b=a
   ·exact hb
   ·exact absurd (if_neg hb) z
abbrev KOf {K:Y01}{h:Heap}(_:K.In h):Y01:=K
theorem Zn9 {l:PySem.W.OpenLaw}{n k:Nat}{q:Program}{loose:List Str}{XP:(Str->Option Value)->Heap->Prop}{YP:World->Heap->Prop}{d:DefRec}{K:Params->Y01}{CX:World->CXT}{sp:World->Sp}{x:Str}
  (hn:l.most=some n) (hn2:n<=sizeLine) (hdf:d.params.defaults=[]) (hr:Z2d k callerA)
  (hY:∀ (w:World) (h:Heap),YP w h->(K w.params).In h)
  (F:∀ (w:World) (mg:Str->Option Value) (fa:Addr) (h:Heap),(K w.params).In h->h.Ns mainGlobals mg->mg d.name=some (.ref fa)->
   ∃ fd:FuncData,(∀ (s:Shared) (u:Value),BindsTo s fd ⟨[u],[]⟩ [(x,u)])/\
    ∀ base:Heap,(K w.params).In base->base.Ns mainGlobals mg->Z13 l.prog w (K w.params) mg base (CX w) k fa fd [x] (sp w))
  (hsp:∀ (w:World) (H:Hp) (a:Addr) (ns:List Int),ns.length<=n->Zsy H->SqL (K w.params) H a (ns.map V.int)->sp w [.ref a] H (fun v _=>v=.bl true) fun _ _ _=>False)
  (hCX:∀ (w:World) (H:Hp) (s:Shared) (e:Value) (s':Shared),CX w [] H s (fun _ _ _=>False) e s'->False) :
  PySem.W.WalkO q loose XP YP l.row.toRowW d [] (fun f vs=>PySem.call f vs):=by
 refine Att.attach_call hn hdf fun w s₀ s₁ mg mb fa o pm cd doc a vs ns G Y ho hd hcd hmg hobj hints hlen hg=>?_
 have KX:=hY w _ Y
 obtain⟨fd,hb,hF⟩:=F w mg fa _ KX G.T.g hmg
 exact Zk9 KX G.T.g G.T.b G.T.builtins G.T.nolimit hg hobj hints (Y17 hlen hn2) hr hF hb (fun H hO hS=>hsp w H a ns hlen hO hS) fun H e s'=>hCX w H s₁ e s'
def Zp6 (s:Stmt)(j:Nat):Stmt:=match s with
 | .ClassDef _ _ _ body _ _ _ _ _ _ _=>body.getD j (.Pass ⟨0,0,0,0⟩)
 | _=>.Pass ⟨0,0,0,0⟩
def Z3y (s:Stmt):Arguments:=match s with
 | .FunctionDef _ a _ _ _ _ _ _ _ _=>a
 | _=>{ posonlyargs:=[],args:=[],vararg:=none,kwonlyargs:=[],kw_defaults:=[],kwarg:=none,defaults:=[] }
def Z2n (s:Stmt):List Stmt:=match s with
 | .FunctionDef _ _ b _ _ _ _ _ _ _=>b
 | _=>[]
def Z08 (s:Stmt):Scope:=match s with
 | .FunctionDef _ _ _ _ _ _ sc _ _ _=>sc
 | _=>{ kind:=.function,names:=[],isGenerator:=false,isCoroutine:=false }
abbrev CX0:CXT:=fun _ _ _ _ _ _=>False
abbrev E0:XK:=fun _ _ _=>False
theorem Z0z {X:Cx}:Zal CX0 X E0:=fun _ _ _ _ _ _ _ h=>h.elim
structure Fun (K:Y01)(x qual:Str)(st:Stmt)(f:Addr)(fd:FuncData):Prop where
 ex:∃ (oc:Value) (od:Option Addr) (kV doc pm:Value) (an:Option Addr) (cdv ct:Value) (osl:Array (Option Value)),
  fd=Y2f x qual (Z3y st) (Z2n st) (Z08 st) .none kV doc pm an cdv ct/\K.lookup f=some ⟨oc,od,.func fd,osl⟩/\PySem.W.codeIn K cdv qual=true
 kp:Y25 K (.ref f)=true
section
variable {P:Program}{w:World}{K:Y01}{mg:Str->Option Value}{base:Heap}
theorem Fun.ok {x qual:Str}{st:Stmt}{f:Addr}{fd:FuncData}{N ps:List Str}{k:Nat}{sp:Sp}(F:Fun K x qual st f fd)(S:Z0n N ps (Z08 st))(len:∀ vs H Q E,sp vs H Q E->vs.length=ps.length)
  (hbody:∀ (cdv:Value) (A:Around) (outer:List Env) (s:Shared) (H:Hp) (vs:List V) (Q:VK) (E:XK),Z2d k (A.deeper (envOfC qual (Z08 st) s.heap.objs.size f cdv))->sp vs H Q E->
   ∃ t,PSs (Zg4 CX0 P w K mg base N qual (Z08 st) f cdv A outer s H E).nox (Z2n st) t/\t { nx:=fun _ H'=>Q .non H',rt:=Q } (start N vs) H):Z13 P w K mg base CX0 (k+1) f fd ps sp:=by
 obtain⟨oc,od,kV,doc,pm,an,cdv,ct,osl,rfl,lk,hcd⟩:=F.ex
 refine Zre lk hcd S len fun A outer s H vs Q E hr hsp=>?_
 obtain⟨t,h,q⟩:=hbody cdv A outer s H vs Q E hr hsp
 exact⟨t,h.nox,q⟩
theorem Fun.binds {x qual:Str}{st:Stmt}{f:Addr}{fd:FuncData}{ps:List Str}(F:Fun K x qual st f fd)
  (h:∀ (kV doc pm:Value) (an:Option Addr) (cdv ct:Value) (us:List Value),us.length=ps.length->bindArgs (Y2f x qual (Z3y st) (Z2n st) (Z08 st) .none kV doc pm an cdv ct) ⟨us,[]⟩=pure (ps.zip us)):Z6g K fd ps []:=by
 obtain⟨oc,od,kV,doc,pm,an,cdv,ct,osl,rfl,lk,hcd⟩:=F.ex
 exact .all (h kV doc pm an cdv ct)
theorem Zmp {x qual:Str}{st:Stmt}{f:Addr}{oc:Value}{od an:Option Addr}{osl:Array (Option Value)}{kV doc pm cdv ct:Value}(l:K.lookup f=some ⟨oc,od,.func (Y2f x qual (Z3y st) (Z2n st) (Z08 st) .none kV doc pm an cdv ct),osl⟩)
  (c:PySem.W.codeIn K cdv qual=true) (k:Y25 K (.ref f)=true):Fun K x qual st f (Y2f x qual (Z3y st) (Z2n st) (Z08 st) .none kV doc pm an cdv ct):=⟨⟨oc,od,kV,doc,pm,an,cdv,ct,osl,rfl,l,c⟩,k⟩
end
theorem Z83 {A:Around}{k:Nat}(hr:Z2d k A):A.units+1 < cLine:=Y2a (Nat.add_le_add_left (by decide:1<=64) _) hr.units
theorem Z0j {n:Nat}(h:n<=1000):n < sizeLine:=Y2a h (by decide)
section
variable {X:Cx}
theorem pv (i:Nat){x:Str}{pos:Pos}(hN:X.N[i]?=some x:=by rfl)(hv:Vis X.env.scope x:=by first | exact Or.inl rfl | exact Or.inr (Or.inl rfl) | exact Or.inr (Or.inr rfl))(hd:(x == ("__debug__":Str))=false:=by decide)
  (hcd:(x == ("__classdict__":Str))=false:=by decide):PE X (.Name x pos) (Z1w i):=Zqf hN hv hd hcd
end
theorem Z2j {A B:Prop}(h:B):if false=true then A else B:=by
 rw[if_neg Bool.false_ne_true]
 exact h
theorem Z2m {A B:Prop}(h:A):if true=true then A else B:=by
 rw[if_pos rfl]
 exact h
theorem Zgo {c A B:Prop}[Decidable c](h1:c->A)(h2:¬ c->B):if c then A else B:=by
 by_cases h:c
 ·rw[if_pos h]
  exact h1 h
 ·rw[if_neg h]
  exact h2 h
theorem Zn5 {c A B:Prop}[Decidable c](hc:c)(h:B):if (!decide c)=true then A else B:=by
 rw[decide_eq_true hc]
 exact Z2j h
def Z0d (H H':Hp):Prop:=∀ b o,H b=some o->H' b=some o
theorem Z0d.refl (H:Hp):Z0d H H:=fun _ _ h=>h
theorem Z0d.trans {H H1 H2:Hp}(a:Z0d H H1)(b:Z0d H1 H2):Z0d H H2:=fun c o h=>b c o (a c o h)
theorem Z0d.free {H H':Hp}(e:Z0d H H'){l:Addr}(h:H' l=Option.none):H l=Option.none:=by
 cases q:H l with
 | none=>rfl
 | some o=>
  rw[e l o q]at h
  cases h
theorem Z0d.seq {K:Y01}{H H':Hp}{a:Addr}{xs:List V}(e:Z0d H H')(h:SqL K H a xs):SqL K H' a xs:=by
 rcases h with (h | ⟨o,h⟩) | h
 ·exact .inl (.inl (e _ _ h))
 ·exact .inl (.inr ⟨o,e _ _ h⟩)
 ·exact .inr h
section
variable {X:Cx}
theorem Z80:Z33 X (.builtin "len") (fun xs H Q=>∃ a kvs,xs=[V.ref a]/\H a=some (.dK kvs)/\Q (.int kvs.length) H):=by
 intro pins s σ H xs us Q I r h
 obtain⟨a,kvs,rfl,ha,q⟩:=h
 obtain⟨u,rfl,ru⟩:=Z3l r
 cases ru
 exact Zt5 I (.inl ha) fun t s' I'=>⟨.int kvs.length,H,I',⟨t,rfl⟩,q⟩
end
section
variable {κ:Type}[DecidableEq κ]
theorem Zp3 {kvs:List (κ×V)}{k:κ}{v:V}(h:Z2s kvs k=some v):k∈kvs.map (·.1):=by
 have q:(kvs.any fun kv=>decide (kv.1=k))=true:=by
  rw[Z6l,h]
  all_goals rfl
 obtain⟨p,hp,e⟩:=List.any_eq_true.mp q
 exact Y0f.mpr ⟨p,hp,of_decide_eq_true e⟩
end
theorem Z7u {prog:Program}{w:World}{A:Around}{R:Result->Shared->Prop}{s:Shared}{elt target iter:Expr}{scope:Scope}{pos:Pos}{it acc:Value}{env:Env}(I:Nat->Shared->Prop)
  (turn:∀ n s,I n s->wpAny (model prog w) A (pyNext it) (fun r s₁=>match r with
   | none=>R (.ok .next) s₁
   | some v=>wpAny (model prog w) A (letOwnedTupleGo target it v) (fun _ s₀=>wpAny (model prog w) A (assign target env v) (fun _ s₂=>
     wpAny (model prog w) A (eval elt env) (fun x s₄=>
       wpAny (model prog w) A (call (.builtin "list.append") [acc,x]) (fun _ s₅=>∃ m,m < n/\I m s₅) (notedBy (model prog w) A env fun e s'=>R (.error e) s') s₄) (notedBy (model prog w) A env fun e s'=>R (.error e) s') s₂)
     (notedBy (model prog w) A env fun e s'=>R (.error e) s') s₀) (notedBy (model prog w) A env fun e s'=>R (.error e) s') s₁) (notedBy (model prog w) A env fun e s'=>R (.error e) s') s)
  (n:Nat) (h:I n s) :
  codeAny (model prog w) A (.compLoop (.ListComp elt [⟨target,iter,[],0⟩] scope pos) 0 it acc env) R s:=by
 refine codeAny_loop rfl I (fun n s hI=>?_) n h
 show wpAny _ A ((compTurn (.ListComp elt [⟨target,iter,[],0⟩] scope pos) 0 it acc env).onRaise (fun x=>do noteFrame x env; theTreesLotGoes x)) _ _ s
 refine wpAny_noted ?_
 rw[compTurn_list]
 refine wpAny_bind (wpAny_standAt (wpAny_bind (wpAny_mono (turn n s hI) (fun r s₁ h₁=>?_) fun _ _ h'=>h')))
 cases r with
 | none=>exact wpAny_pure h₁
 | some v=>
  refine wpAny_bind (wpAny_mono h₁ (fun _ s₀ h₀=>?_) fun _ _ h'=>h')
  refine wpAny_bind (wpAny_mono h₀ (fun _ s₂ h₂=>wpAny_bind (wpAny_tests_nil ?_)) fun _ _ h'=>h')
  exact wpAny_bind (wpAny_bind (wpAny_mono h₂ (fun x s₄ h₄=>wpAny_bind (wpAny_mono h₄ (fun _ s₅ h₅=>wpAny_pure (wpAny_pure ⟨rfl,h₅⟩)) fun _ _ h'=>h')) fun _ _ h'=>h'))
theorem Z1u {env:Env}:∀ (names:List (Str×NameKind)) (cs:List (Str×Addr)),(∀ y∈names,y.2=.free->∃ c,env.cells.lookup y.1=some c)->(∀ x c,cs.lookup x=some c->env.cells.lookup x=some c)->
  ∃ cl,(forIn names cs (fun (x:Str×NameKind) (r:List (Str×Addr))=>if (x.2 == NameKind.free)=true then do let c <-cellOf env x.1; pure (ForInStep.yield ((x.1,c) :: r)) else pure (ForInStep.yield r)):Sem (List (Str×Addr)))=pure cl/\
   (∀ x c,cl.lookup x=some c->env.cells.lookup x=some c)/\(∀ x c,cs.lookup x=some c->cl.lookup x=some c)/\∀ y∈names,y.2=.free->∃ c,cl.lookup y.1=some c
 | [],cs,_,hcs=>⟨cs,by simp,hcs,fun _ _ h=>h,fun y hy=>nomatch hy⟩
 | (n,k) :: r,cs,h,hcs=>by
  by_cases hk:k=.free
  ·subst hk
   obtain⟨c,hc⟩:=h (n,.free) Y1k rfl
   have hcs':∀ x d,((n,c) :: cs).lookup x=some d->env.cells.lookup x=some d:=fun x d e=>by
    rw[Y1q]at e
    split at e
    ·rename_i q
     have q':x=n:=by simpa using q
     cases e; rw[q']; exact hc
    ·exact hcs x d e
   obtain⟨cl,e,h1,h2,h3⟩:=Z1u r ((n,c) :: cs) (fun y hy=>h y (Y0r _ hy)) hcs'
   refine⟨cl,?_,h1,fun x d hd=>?_,fun y hy hy2=>?_⟩
   ·rw[Y2h]
    simp only[cellOf,hc,beq_self_eq_true,if_true,pure_bind]
    exact e
   ·refine h2 x d ?_
    rw[Y1q]
    split
    ·rename_i q
     have q':x=n:=by simpa using q
     have:=hcs x d hd
     rw[q',hc]at this
     exact this
    ·exact hd
   ·rcases Y0j.mp hy with rfl | hy
    ·exact⟨c,h2 n c (by simp[Y1q])⟩
    ·exact h3 y hy hy2
  ·obtain⟨cl,e,h1,h2,h3⟩:=Z1u r cs (fun y hy=>h y (Y0r _ hy)) hcs
   refine⟨cl,?_,h1,h2,fun y hy hy2=>?_⟩
   ·have hk':(k == NameKind.free)=false:=by simpa using hk
    rw[Y2h]
    simp only[hk',Bool.false_eq_true,if_false,pure_bind]
    exact e
   ·rcases Y0j.mp hy with rfl | hy
    ·exact absurd hy2 hk
    ·exact h3 y hy hy2
theorem Z2o (scope:Scope)(env:Env):closureFor scope env=(forIn scope.names [] (fun (x:Str×NameKind) (r:List (Str×Addr))=>if (x.2 == NameKind.free)=true then do let c <-cellOf env x.1; pure (ForInStep.yield ((x.1,c) :: r)) else pure (ForInStep.yield r)):Sem (List (Str×Addr))):=by
 unfold closureFor
 simp
theorem Z30 {env:Env}(hk:env.scope.kind=.function):∀ {names:List (Str×NameKind)} {x:Str},names.lookup x=some .free->env.kindOf x=some .cell->
  (names.map fun (n,k)=>if (k == NameKind.free && env.scope.kind == .function && env.kindOf n == some .cell) then (n,NameKind.cell) else (n,k)).lookup x=some .cell
 | [],_,h,_=>by simp at h
 | (n,k) :: r,x,h,hc=>by
  have ih:=@Z30 env hk r x
  show List.lookup x ((if (k == NameKind.free && env.scope.kind == .function && env.kindOf n == some .cell)=true then (n,NameKind.cell) else (n,k)) :: _)=_
  cases hx:x == n with
  | true=>
   simp only[Y1q,hx]at h
   cases h
   have e:x=n:=by simpa using hx
   subst e
   simp[Y1q,hk,hc]
  | false=>
   simp only[Y1q,hx]at h
   by_cases hc':(k == NameKind.free && env.scope.kind == .function && env.kindOf n == some .cell)=true
   ·rw[if_pos hc']; simp only[Y1q,hx]; exact ih h hc
   ·rw[if_neg hc']; simp only[Y1q,hx]; exact ih h hc
theorem Z72 {env:Env}:∀ {names:List (Str×NameKind)} {x:Str},(∀ y∈names,y.2≠.cell)->
  ((names.map fun (n,k)=>if (k == NameKind.free && env.scope.kind == .function && env.kindOf n == some .cell) then (n,NameKind.cell) else (n,k)).lookup x=some .cell\/
  (names.map fun (n,k)=>if (k == NameKind.free && env.scope.kind == .function && env.kindOf n == some .cell) then (n,NameKind.cell) else (n,k)).lookup x=some .free)->(x,NameKind.free)∈names
 | [],_,_,h=>by simp at h
 | (n,k) :: r,x,hn,h=>by
  have ih:=@Z72 env r x fun y hy=>hn y (Y0r _ hy)
  have hk:k≠.cell:=hn (n,k) Y1k
  cases hx:x == n with
  | true=>
   have e:x=n:=by simpa using hx
   subst e
   by_cases hf:k=.free
   ·subst hf; exact Y1k
   ·have hf':¬ (k == NameKind.free && env.scope.kind == .function && env.kindOf x == some .cell)=true:=by simp[hf]
    simp only[Y0u,if_neg hf',Y1q,beq_self_eq_true]at h
    rcases h with h | h
    ·exact absurd (Option.some.inj h) hk
    ·exact absurd (Option.some.inj h) hf
  | false=>
   refine Y0r _ (ih ?_)
   by_cases hc':(k == NameKind.free && env.scope.kind == .function && env.kindOf n == some .cell)=true
   ·simpa only [Y0u,if_pos hc',Y1q,hx] using h
   ·simpa only [Y0u,if_neg hc',Y1q,hx] using h
def blk (X:Cx)(sc:Scope)(cl:List (Str×Addr))(C:Addr)(N':List Str)(s₂:Shared)(H₁:Hp)(fp:List Addr)(pins:List (Addr×Obj)):Cx where
 prog:=X.prog
 w:=X.w
 K:=X.K
 mg:=X.mg
 base:=X.base
 A:=X.A
 N:=N'
 s₀:=s₂
 H₀:=H₁
 env:=compEnvC sc cl C X.env
 outer:=X.stack
 stack:=X.stack
 ex:=fp
 fn:=fun _=>false
 calm:=X.calm
 pn:=X.pn++pins
 xe:=fun _ _=>False
structure Zaz (N:List Str)(names:List (Str×NameKind))(N':List Str)(k:Nat)(pull:List Nat)(sc:Scope):Prop where
 kind:sc.kind=.function
 nocell:∀ y∈sc.names,y.2≠.cell
 loc:∀ y∈sc.names,y.2=.local->sc.names.lookup y.1=some .local
 len:N'.length=k+pull.length
 cap:∀ i∈Y04 pull.length,N'[k+i]?=N[pull.getD i 0]?/\∀ x∈(N'[k+i]?).toList,sc.names.lookup x=some .free
 fre:∀ y∈sc.names,y.2=.free->names.lookup y.1=some .cell
def bst (k:Nat)(pull:List Nat)(σ:St):St:=List.replicate k none++pull.map fun j=>σ.getD j none
theorem HOk.but {P:Program}{w:World}{H:Hp}{h h':Heap}{C:Addr}(x:HOk P w H h)(hn:H C=none)(k:∀ b o,b≠C->h.get? b=some o->h'.get? b=some o):HOk P w H h':=fun b u e=>by
 have nit:∀ b u,H b=some u->b≠C:=fun b u e z=>by rw[z,hn]at e; cases e
 refine (x b u e).stay (fun c v hc q=>k c v ?_ q) (fun _ q=>q) fun _ _ q=>q
 rcases hc with z | z
 ·rw[z]; exact nit b u e
 ·exact nit c _ z
def Z82 (wi:TI)(k:Nat)(pull:List Nat)(g:TG)(te:TE):TE:=fun σ H Q=>wi σ H fun J H1=>∀ d,H1 d=none->
 ∃ W:Nat->Nat->St->Hp->Prop,(∃ m,W 0 m (bst k pull σ) (upd H1 d (.lst [])))/\∀ i m σ' H',W i m σ' H'->
  (J.stop i H'/\Q (.ref d) H')\/
  (J.go i H'/\∀ x H2,J.yld i H' x H2->g x σ' H2 fun σ3 H3=>te σ3 H3 fun y H4=>∃ xs,H4 d=some (.lst xs)/\xs.length < sizeLine/\∃ m',m' < m/\W (i+1) m' σ3 (upd H4 d (.lst (xs++[y]))))
section
variable {X:Cx}{elt tg iter:Expr}{sc:Scope}{pos:Pos}{wi:TI}{g:TG}{te:TE}{N:List Str}{names:List (Str×NameKind)}{N':List Str}{k:Nat}{pull:List Nat}
theorem Z5g {pins:List (Addr×Obj)}{σ:St}{H1:Hp}{s2:Shared}{fp:List Addr}{cl:List (Str×Addr)}{h₁:Heap}{tk:Nat}(B:Zaz N names N' k pull sc)(hN:X.N=N)(hnm:X.env.scope.names=names)
  (I2:Inv X pins σ H1 s2) (f2:∀ b∈fp,Zaj X pins H1 b) (ho:∀ b∈fp,∃ o,s2.heap.get? b=some o)
  (c1:∀ x c,cl.lookup x=some c->X.env.cells.lookup x=some c) (c3:∀ y∈sc.names,y.2=.free->∃ c,cl.lookup y.1=some c)
  (hns:h₁.Ns (s2.heap.objs.size+1) (fun x=>([]:List (Str×Value)).reverse.lookup x))
  (hk:∀ b o,s2.heap.get? b=some o->h₁.get? b=some o) (hd:h₁.get? s2.heap.objs.size=some { cls:=.type "list",data:=.seq ([]:List Value).toArray }) :
  Inv (blk X sc cl (s2.heap.objs.size+1) N' s2 H1 fp pins) [] (bst k pull σ) (upd H1 s2.heap.objs.size (.lst [])) { s2 with heap:=h₁,toks:=tk }:=by
 have hfd:H1 s2.heap.objs.size=none:=I2.hok.fresh (Y06 _)
 have hfC:(upd H1 s2.heap.objs.size (.lst [])) (s2.heap.objs.size+1)=none:=by
  rw[Z05 (Nat.succ_ne_self _)]; exact I2.hok.fresh (Nat.le_succ _)
 have hlook:∀ x,(compEnvC sc cl (s2.heap.objs.size+1) X.env).kindOf x=some .cell\/(compEnvC sc cl (s2.heap.objs.size+1) X.env).kindOf x=some .free->(x,NameKind.free)∈sc.names:=fun x hx=>
  Z72 (env:=X.env) B.nocell hx
 have cellKind:∀ y∈sc.names,y.2=.free->X.env.kindOf y.1=some .cell:=fun y hy hf=>by
  show X.env.scope.names.lookup y.1=_
  rw[hnm]; exact B.fre y hy hf
 refine⟨⟨I2.ok.mod,B.kind,I2.ok.glob,I2.ok.blt,Nat.le_succ _,fun x y c e1 e2=>I2.ok.inj x y c (c1 x c e1) (c1 y c e2),fun x hx=>c3 _ (hlook x hx) rfl,(fun x c h _=>nomatch h),I2.ok.hd,I2.ok.frames,.inl rfl,fun b hb=>⟨?_,fun x c e=>?_⟩,I2.bs,Y17 I2.ok.bsz I2.sz,fun b o e hb=>?_,fun b hb hs=>?_,I2.stack,I2.stkFree⟩,
  rfl,I2.bare,Un.laid hk (Y06 _) hfd,⟨_,hns,fun i x v e1 e2 e3=>?_⟩,fun x c e=>?_,hfC,fun x c e=>?_,fun p hp=>?_,I2.hok.laid hk (Y06 _) ⟨Y0w _,[],0,.nil,hd⟩,?_⟩
 ·obtain⟨o,e⟩:=ho b hb
  exact Y0l (Y13 (Y0c e))
 ·exact (f2 b hb).2.2.2.2.1 x c (c1 x c e)
 ·rcases (f2 b hb).2.2.2.1 with z | z
  ·exact I2.ok.noex b o e z
  ·exact absurd (Y0h (Y0c e) (Y17 I2.ok.bsz z)) (Y1i _)
 ·rcases Y0j.mp (I2.stkSub b hs) with z | z
  ·exact (f2 b hb).2.1 z
  ·exact (f2 b hb).2.2.1 z
 ·
  have e2:(bst k pull σ)[i]?=some (some v):=e2
  unfold bst at e2
  by_cases hi:i < k
  ·rw[Y0t (by simpa using hi),List.getElem?_replicate,if_pos hi]at e2
   cases e2
  ·rw[Y0q (by simpa using hi),List.length_replicate,Y0e]at e2
   cases ej:pull[i - k]? with
   | none=>rw[ej]at e2; cases e2
   | some j=>
    rw[ej]at e2
    have e2:σ.getD j none=some v:=Option.some.inj e2
    have hj:σ[j]?=some (some v):=by
     rw[Y05]at e2
     cases q:σ[j]? with
     | none=>rw[q]at e2; cases e2
     | some z=>rw[q]at e2; simpa using e2
    have hil:i - k < pull.length:=(Y03.mp ej).1
    obtain⟨q1,q2⟩:=B.cap (i - k) (Y08.mpr hil)
    have ei:k+(i - k)=i:=by omega
    have ep:pull.getD (i - k) 0=j:=by rw[Y05,ej]; rfl
    have e1:N'[i]?=some x:=e1
    rw[ei,ep,e1]at q1
    rw[ei,e1]at q2
    have hf:=q2 x (by simp)
    have hmem:=PySem.mem_of_lookup hf
    have hc:=cellKind (x,.free) hmem rfl
    obtain⟨m,hn,hl⟩:=I2.loc
    obtain⟨u,r,l⟩:=hl j x v (by rw[hN]; exact q1.symm) hj (.inr (.inl hc))
    refine⟨u,r,.inr ⟨.inl (Z30 I2.ok.kind hf hc),?_⟩⟩
    rcases l with ⟨hloc,_⟩ | ⟨_,c,ec,hcell⟩
    ·rw[hc]at hloc; cases hloc
    ·obtain⟨c',ec'⟩:=c3 (x,.free) hmem rfl
     have:=c1 x c' ec'
     rw[ec]at this
     cases this
     obtain⟨o,h1,h2⟩:=hcell
     exact⟨c,ec',o,hk c o h1,h2⟩
 ·obtain⟨v,o,h1,h2⟩:=I2.cell x c (c1 x c e)
  exact⟨v,o,hk c o h1,h2⟩
 ·obtain⟨v,o,h1,h2⟩:=I2.cell x c (c1 x c e)
  rw[Z05 (Y0l (Y0c h1))]
  exact I2.freeC x c (c1 x c e)
 ·have hp:p∈X.pn++pins:=by simpa [blk] using hp
  obtain⟨a1,a2,a3,a4,a5⟩:=I2.pin p hp
  have hlt:=Y0c a1
  refine⟨hk _ _ a1,by rw[Z05 (Y0l hlt)]; exact a2,?_,fun hs=>?_,a5⟩
  ·exact Y0l (Y13 hlt)
  ·rcases Y0j.mp (I2.stkSub p.1 hs) with z | z
   ·exact a3 z
   ·exact a4 z
 ·show (bst k pull σ).length=N'.length
  unfold bst
  rw[Y07,List.length_replicate,Y09,B.len]
theorem Z2c (hc:X.calm=true)(B:Zaz N names N' k pull sc)(hN:X.N=N)(hnm:X.env.scope.names=names)(hi:PI X tg iter wi)
  (hg:∀ cl C s₂ H₁ fp pins,PG (blk X sc cl C N' s₂ H₁ fp pins) tg g) (he:∀ cl C s₂ H₁ fp pins,PE (blk X sc cl C N' s₂ H₁ fp pins) elt te)
  (hs:∀ x,foldedSetIterable iter X.env x=pure x:=by intro _; rfl):PE X (.ListComp elt [⟨tg,iter,[],0⟩] sc pos) (Z82 wi k pull g te):=by
 intro pins s σ H Q I h
 rw[eval_ListComp]
 have hcells:∀ y∈sc.names,y.2=.free->∃ c,X.env.cells.lookup y.1=some c:=fun y hy hf=>I.ok.has y.1 (.inl (by
  show X.env.scope.names.lookup y.1=_
  rw[hnm]; exact B.fre y hy hf))
 obtain⟨cl,ecl,c1,_,c3⟩:=Z1u (env:=X.env) sc.names [] hcells (fun x c e=>nomatch e)
 rw[<-Z2o]at ecl
 refine wpAny_comprehension_free (use:=none) rfl hs ecl B.kind B.loc (thn (hi pins s σ H _ I h) fun xv s1 h1=>thn h1 fun itv s2 h2=>?_)
 obtain⟨it,fp,tn,J,H1,e,I2,T,st2,f2,hW⟩:=h2
 subst e
 have ho:∀ b∈fp,∃ o,s2.heap.get? b=some o:=fun b hb=>let ⟨o,e,_⟩:=T.obj _ _ st2 b hb; ⟨o,e⟩
 refine wpAny_newObj_type (wpAny_newFunctionEnv B.nocell (by intro y hy; simp at hy) (fun h₁ hns₁ hsb₁=>?_) B.kind)
 dsimp only at hns₁ hsb₁ ⊢
 rw[Y1s]at hns₁ hsb₁ ⊢
 have old:∀ b o,s2.heap.get? b=some o->h₁.get? b=some o:=fun b o e=>by
  have hlt:=Y0c e
  exact (hsb₁.2 b (Y0l (Y13 hlt))).trans (Y02 _ (Y02 _ e))
 have hd:h₁.get? s2.heap.objs.size=some { cls:=.type "list",data:=.seq ([]:List Value).toArray }:=
  (hsb₁.2 _ (Y0l (Y21 _))).trans (Y02 _ (Y0b _ rfl))
 have I4:=Z5g (tk:=s2.toks+([]:List (Str×Value)).length) B hN hnm I2 f2 ho c1 c3 hns₁ old hd
 have st4:tn 0 h₁:=T.keep _ _ _ st2 fun b _ o e=>old b o e
 obtain⟨W,⟨m0,w0⟩,turn⟩:=hW s2.heap.objs.size (I2.hok.fresh (Y06 _))
 have fr4:∀ b∈fp,(upd H1 s2.heap.objs.size (.lst [])) b=none:=fun b hb=>by
  obtain⟨o,e⟩:=ho b hb
  rw[Z05 (Y0l (Y0c e))]
  exact (f2 b hb).1
 have stat:∀ {H':Hp},(∀ b∈fp,H' b=none)->∀ b∈fp,Zaj (blk X sc cl (s2.heap.objs.size+1) N' s2 H1 fp pins) [] H' b:=fun hn b hb=>by
  refine⟨hn b hb,(I4.ok.exf b hb).1,I4.ok.exfs b hb,.inl hb,(I4.ok.exf b hb).2,fun p hp=>?_⟩
  have hp:p∈X.pn++pins:=by simpa [blk] using hp
  exact (f2 b hb).2.2.2.2.2 p hp
 have loop:∀ s₃:Shared,s₃={ s2 with heap:=h₁,toks:=s2.toks+([]:List (Str×Value)).length }->
   codeAny (model X.prog X.w) X.A (.compLoop (.ListComp elt [⟨tg,iter,[],0⟩] sc pos) 0 (.ref it) (.ref s2.heap.objs.size) (compEnvC sc cl (s2.heap.objs.size+1) X.env))
    (compPost (model X.prog X.w) X.A X.xe none (EP X pins σ Q) (.ref s2.heap.objs.size) (s2.heap.objs.size+1)) s₃:=by
  rintro s₃ rfl
  refine Z7u (fun n s'=>∃ i σ' H',Inv (blk X sc cl (s2.heap.objs.size+1) N' s2 H1 fp pins) [] σ' H' s'/\tn i s'.heap/\(∀ b∈fp,H' b=none)/\W i n σ' H') ?_ m0 ⟨0,_,_,I4,st4,fr4,w0⟩
  rintro n s3 ⟨i,σ3,H3,I3,st3,fr3,w3⟩
  rcases turn i n σ3 H3 w3 with ⟨stop,q⟩ | ⟨go,step⟩
  ·refine thn (T.done (blk X sc cl (s2.heap.objs.size+1) N' s2 H1 fp pins) rfl rfl rfl hc i [] s3 σ3 H3 _ I3 (stat fr3) st3 stop) fun r s4 ⟨hr,I5⟩=>?_
   subst hr
   obtain⟨m,hn,_⟩:=id I5.loc
   refine⟨m,hn,fun h' hs'=>?_⟩
   have ne:∀ b o,s2.heap.get? b=some o->b≠s2.heap.objs.size+1:=fun b o e=>Y0l (Y13 (Y0c e))
   have U:Un (frs X.stack) fp H1 H3 s2.heap s4.heap:=I5.base
   have U':Un (frs X.stack) fp H1 H3 s2.heap h':=⟨fun b o e n hb hx=>(hs'.2 b (ne b o e)).trans (U.keep b o e n hb hx),fun b o e n hb hx=>by
     obtain⟨sl,z⟩:=U.slot b o e n hb hx
     exact⟨sl,(hs'.2 b (ne b o e)).trans z⟩,U.free,fun b o e hx=>by
     obtain⟨o',z⟩:=U.there b o e hx
     exact⟨o',(hs'.2 b (ne b o e)).trans z⟩,U.tups,U.frzs,U.tbls⟩
   have hok:HOk X.prog X.w H3 h':=HOk.but (C:=s2.heap.objs.size+1) I5.hok I5.free fun b o hb e=>(hs'.2 b hb).trans e
   refine⟨.ref s2.heap.objs.size,H3,I2.call' (s':={ s4 with heap:=h' }) I5.os U' hok I5.bare fun b hb=>?_,rfl,q⟩
   exact⟨(f2 b hb).2.2.2.1,(f2 b hb).2.1,(f2 b hb).2.2.2.2.1,(f2 b hb).2.2.2.2.2⟩
  ·refine thn (T.item (blk X sc cl (s2.heap.objs.size+1) N' s2 H1 fp pins) rfl rfl rfl hc i [] s3 σ3 H3 _ I3 (stat fr3) st3 go) fun r s4 ⟨u,hr,h4⟩=>?_
   subst hr
   refine thn h4 fun _ s5 ⟨x,H5,I5,r5,y5,st5,fr5⟩=>?_
   have I5':=I5.pinned (stat fr5) (T.obj _ _ st5)
   refine wpAny_mono (hg _ _ _ _ _ _ _ s5 σ3 H5 x u _ I5' r5 (step x H5 y5)) (fun _ s6 ⟨σ6,H6,I6,q6⟩=>?_) fun _ _ z=>z.elim
   refine wpAny_mono (he _ _ _ _ _ _ _ s6 σ6 H6 _ I6 q6) (fun y s7 ⟨z,H7,I7,r7,xs,hx7,hz7,m',hm,w7⟩=>?_) fun _ _ z=>z.elim
   refine wpAny_mono (Z11 (X:=blk X sc cl (s2.heap.objs.size+1) N' s2 H1 fp pins) _ s7 σ6 H7 (.ref s2.heap.objs.size) [z] (.ref s2.heap.objs.size) [y] (fun _ H8=>H8=upd H7 s2.heap.objs.size (.lst (xs++[z]))) I7 rfl (.cons r7 .nil) ⟨_,xs,z,rfl,rfl,hx7,hz7,rfl⟩) (fun _ s8 ⟨_,H8,I8,_,e8⟩=>?_) fun _ _ z=>z.elim
   subst e8
   refine⟨m',hm,i+1,σ6,_,I8.unpinned,T.keep _ _ _ st5 fun b hb o e=>(I8.pin (b,o) (Y0k _ (Y0k _ (Z18 hb e)))).1,fun b hb=>?_,w7⟩
   obtain⟨o,e,_⟩:=T.obj _ _ st5 b hb
   exact (I8.pin (b,o) (Y0k _ (Y0k _ (Z18 hb e)))).2.1
 exact codeAny_compStart_list (loop _ rfl) (T.self _ 0 _ _ _ st4 (loop _ rfl))
end
end L2
namespace L2
open PySem
open AutoSeq1 (wpAny_loadPart')
section
variable {prog:Program}{w:World}{A:Around}{E:Value->Shared->Prop}{s:Shared}
theorem Z65 {it l:Addr}{i:Nat}{items}{x:Value}{Q:Value->Shared->Prop}(hit:s.heap.IsTupleIter it l i)
  (hl:s.heap.IsTuple l items) (hx:items[i]?=some x)
  (hQ:∀ h',h'.IsTupleIter it l (i+1)->Heap.SameBut it s.heap h'->Q x { s with heap:=h' }) :
  wpAny (model prog w) A (Builtin.SmallTypes.nextOf (.ref it)) Q E s:=by
 obtain⟨o,ho,hc,hd⟩:=id hit
 obtain⟨ol,hol,_,nl,hdl⟩:=hl
 unfold Builtin.SmallTypes.nextOf
 refine wpAny_bind (wpAny_callSpecial?_slot (name:=Str.ofString "__next__") hit.typeIs F.slot_tuple_iterator_next
  (wpAny_call_entry F.slot_tuple_iterator_next hit.typeIs F.entry_tuple_iterator_next ?_ (F.args_tuple_iterator_next_1 _)))
 show wpAny _ _ (field (.ref it) 0 >>= _) _ _ s
 refine wpAny_bind (wpAny_field ho hd (x:=.ref l) rfl ?_)
 show wpAny _ _ (if (Value.ref l == Value.none)=true then _ else _) _ _ s
 rw[if_neg (show ¬ ((Value.ref l == Value.none)=true) from Bool.false_ne_true)]
 show wpAny _ _ (field (.ref it) 1 >>= _) _ _ s
 refine wpAny_bind (wpAny_field ho hd (x:=.int i 0) rfl ?_)
 show wpAny _ _ (seqItems? (.ref l) >>= _) _ _ s
 refine wpAny_bind (wpAny_seqItems hol hdl ?_)
 simp only[Int.toNat_natCast,hx]
 refine wpAny_bind (wpAny_setField ho hd (by simp) (wpAny_pure ⟨x,rfl,wpAny_pure (hQ _ ?_ (Heap.SameBut.update ..))⟩))
 exact⟨_,Y1v _ ho (Obj.isFreed_of_fields (Obj.data_mapFields hd _)),(Obj.cls_mapFields ..).trans hc,by
  rw[Obj.data_mapFields hd]; simp[rawInt]⟩
theorem Z6i {it l:Addr}{i:Nat}{items}{Q:Value->Shared->Prop}(hh:A.handled=none)
  (hit:s.heap.IsTupleIter it l i) (hl:s.heap.IsTuple l items) (hx:items[i]?=none)
  (hE:∀ h' e,Heap.ExtBut it s.heap h'->(∃ o,h'.get? e=some o/\o.cls=.type "StopIteration")->E (.ref e) { s with heap:=h' }) :
  wpAny (model prog w) A (Builtin.SmallTypes.nextOf (.ref it)) Q E s:=by
 obtain⟨o,ho,hc,hd⟩:=id hit
 obtain⟨ol,hol,_,nl,hdl⟩:=hl
 unfold Builtin.SmallTypes.nextOf
 refine wpAny_bind (wpAny_callSpecial?_slot (name:=Str.ofString "__next__") hit.typeIs F.slot_tuple_iterator_next
  (wpAny_call_entry F.slot_tuple_iterator_next hit.typeIs F.entry_tuple_iterator_next ?_ (F.args_tuple_iterator_next_1 _)))
 show wpAny _ _ (field (.ref it) 0 >>= _) _ _ s
 refine wpAny_bind (wpAny_field ho hd (x:=.ref l) rfl ?_)
 show wpAny _ _ (if (Value.ref l == Value.none)=true then _ else _) _ _ s
 rw[if_neg (show ¬ ((Value.ref l == Value.none)=true) from Bool.false_ne_true)]
 show wpAny _ _ (field (.ref it) 1 >>= _) _ _ s
 refine wpAny_bind (wpAny_field ho hd (x:=.int i 0) rfl ?_)
 show wpAny _ _ (seqItems? (.ref l) >>= _) _ _ s
 refine wpAny_bind (wpAny_seqItems hol hdl ?_)
 simp only[Int.toNat_natCast,hx]
 refine wpAny_bind (wpAny_rule (wpAny_bind (wpAny_setField ho hd (by simp) ?_)))
 show wpAny _ _ (newExc (.type "StopIteration") [] >>= _) _ _ _
 refine wpAny_bind ?_
 simp only[newExc,newTuple]
 refine wpAny_bind (wpAny_newObj_type ?_ (by size_fits))
 refine wpAny_bind (m:=firstArgMember _ _) (wpAny_of_eq (a:=Value.none) (by first | rfl | (simp only[firstArgMember]; rfl)) ?_)
 refine wpAny_newObj_type ?_ (by size_fits)
 simp only[raiseNew]
 refine wpAny_bind (wpAny_handled ?_)
 first | rw[show A.in1.handled=none from hh] | rw[hh]
 refine wpAny_bind (wpAny_pure (wpAny_throw ?_))
 exact hE _ _ (((Heap.SameBut.update ..).extBut.push _).push _) ⟨_,Y0b _ rfl,rfl⟩
end
theorem Zcj {prog:Program}{w:World}{A:Around}(hh:A.handled=none)(it l:Addr)(hne:l≠it)(items:Array Value) :
  Draws prog w A it [it,l] items.size (fun i v=>items[i]?=some v) (fun i h=>h.IsTupleIter it l i/\h.IsTuple l items) where
 live:=fun _ _ st=>let ⟨⟨o,ho,_⟩,_⟩:=st; ⟨o,ho⟩
 frame:=fun _ _ _ st hk=>⟨let ⟨o,ho,r⟩:=st.1; ⟨o,hk it (by simp) o ho,r⟩,let ⟨o,ho,r⟩:=st.2; ⟨o,hk l (by simp) o ho,r⟩⟩
 item:=fun i s Q E hi st hQ=>by
  refine Z65 st.1 st.2 (x:=items[i]) (by simp[hi]) fun h' hit' hs'=>?_
  exact hQ _ h' s.toks (by simp[hi]) ⟨hit',let ⟨o,ho,r⟩:=st.2; ⟨o,(hs'.2 l hne).trans ho,r⟩⟩ hs'
 done:=fun s Q E st hE=>Z6i hh st.1 st.2 (by simp) hE
theorem Z4s (l:Addr)(items:Array Value)(o:Obj)(hc:o.cls=.type "tuple")(n:Nat)(hd:o.data=.seq items n) :
  Meets (Builtin.«enumerate.__new__» ⟨[.type "enumerate",.ref l],[]⟩) (fun _ R s=>s.heap.get? l=some o/\
   R (.ok (.ret (.ref (s.heap.push { cls:=.type "tuple_iterator",data:=.fields #[.ref l,.int 0 0] }).objs.size)))
    { s with heap:=(s.heap.push { cls:=.type "tuple_iterator",data:=.fields #[.ref l,.int 0 0] }).push { cls:=.type "enumerate",data:=.fields #[.none,.bool false,.ref s.heap.objs.size,rawInt 0,.none,.none] } }):=
 .of_wp fun prog w A R s h=>by
  obtain⟨hp,g,d,tk,os⟩:=s; obtain⟨hl,h⟩:=h
  have hsub:=sub_enumerate
  have hL:Heap.IsTuple (Shared.heap ⟨hp,g,d,tk,os⟩) l items:=⟨_,hl,hc,n,hd⟩
  wp_walk using wpAny_loadPart' hl
  refine wpAny_stack_any fun st=>wpAny_pure ?_
  split
  ·rename_i c _ _ _ _ _
   cases (c == Value.type "enumerate")
   ·wp_walk using wpAny_loadPart' hl,wpAny_pyIter_tuple hL
    exact⟨_,rfl,h⟩
   ·wp_walk using wpAny_loadPart' hl,wpAny_pyIter_tuple hL
    exact⟨_,rfl,h⟩
  ·wp_walk using wpAny_loadPart' hl,wpAny_pyIter_tuple hL
   exact⟨_,rfl,h⟩
theorem Z4u {prog:Program}{w:World}{A:Around}{E:Value->Shared->Prop}{s:Shared}{l:Addr}{items:Array Value}{Q:Value->Shared->Prop}(hL:s.heap.IsTuple l items)
  (h:∀ h',IsEnum h' (s.heap.objs.size+1) s.heap.objs.size 0 .none->h'.IsTupleIter s.heap.objs.size l 0->h'.objs.size=s.heap.objs.size+2->
   (∀ b o,s.heap.get? b=some o->h'.get? b=some o)->Q (.ref (s.heap.objs.size+1)) { s with heap:=h' }) :
  wpAny (model prog w) A (call (.type "enumerate") [.ref l]) Q E s:=by
 obtain⟨o,hl,hc,n,hd⟩:=hL
 refine callType_new F.called_enumerate (by decide) (F.typeCall_enumerate_1 _) (F.newCall_enumerate_1 _) (fun obj=>F.args_object_init_2 obj _) F.entry_enumerate_new
  (Z4s l items o hc n hd) ⟨hl,?_⟩
 have hz:(s.heap.push { cls:=.type "tuple_iterator",data:=.fields #[.ref l,.int 0 0] }).objs.size=s.heap.objs.size+1:=Y1s ..
 show _/\_
 rw[hz]
 have he:IsEnum ((s.heap.push { cls:=.type "tuple_iterator",data:=.fields #[.ref l,.int 0 0] }).push
   { cls:=.type "enumerate",data:=.fields #[.none,.bool false,.ref s.heap.objs.size,rawInt 0,.none,.none] }) (s.heap.objs.size+1) s.heap.objs.size 0 .none:=by
  have:=Y0b (s.heap.push { cls:=.type "tuple_iterator",data:=.fields #[.ref l,.int 0 0] })
   (o:={ cls:=.type "enumerate",data:=.fields #[.none,.bool false,.ref s.heap.objs.size,rawInt 0,.none,.none] }) rfl
  rw[hz]at this; exact this
 refine⟨⟨_,he,rfl⟩,h _ he ⟨_,Y02 _ (Y0b _ rfl),rfl,rfl⟩ (by rw[Y1s,hz]) fun b o x=>Y02 _ (Y02 _ x)⟩
end L2
namespace L2
open PySem PySem.Spec PyProof.Rows
section
variable {X:Cx}
theorem Z3x:Z33 X (.builtin "isinstance") (fun xs H Q=>∃ x c t b,xs=[x,.ty c]/\Zg2 X.K H x t/\Y0o X.K t (.type c)=some b/\Q (.bl b) H):=by
 intro pins s σ H xs us Q I r h
 obtain⟨x,c,t,b,rfl,ty,e,q⟩:=h
 obtain⟨u,w',rfl,ru,rc⟩:=Zh1 r
 obtain rfl:w'=Value.type c:=rc
 exact Zi8 I ru ty e fun tk=>⟨.bl b,H,I.tok _,rfl,q⟩
end
theorem Z75 (K:Y01):Y0o K (.type "int") (.type "int")=some true:=by kernel_rfl
theorem Z6a (K:Y01):Y0o K (.type "int") (.type "bool")=some false:=by kernel_rfl
mutual
inductive Dt (K:Y01) (H:Hp):V->PyData->Prop
 | non:Dt K H .non .none
 | bl (b:Bool):Dt K H (.bl b) (.bool b)
 | int (i:Int):Dt K H (.int i) (.int i)
 | str (x:Str):Dt K H (.str x) (.str x)
 | lst {a:Addr} {xs:List V} {ds:List PyData}:SqL K H a xs->Z5s K H xs ds->Dt K H (.ref a) (.list ds)
 | tup {a:Addr} {xs:List V} {ds:List PyData}:SqT K H a xs->Z5s K H xs ds->Dt K H (.ref a) (.tuple ds)
inductive Z5s (K:Y01) (H:Hp):List V->List PyData->Prop
 | nil:Z5s K H [] []
 | cons {x:V} {d:PyData} {xs:List V} {ds:List PyData}:Dt K H x d->Z5s K H xs ds->Z5s K H (x :: xs) (d :: ds)
end
section
variable {X:Cx}{pins:List (Addr×Obj)}{σ:St}{H:Hp}{s:Shared}
mutual
theorem Dt.reads (I:Inv X pins σ H s):∀ {x:V} {d:PyData} {u:Value},Dt X.K H x d->Z1p x u->∃ as,Reads s.heap u d as
 | _,_,_,.non,r=>by obtain rfl:=(show _=Value.none from r); exact⟨_,.none⟩
 | _,_,_,.bl b,r=>by obtain rfl:=(show _=Value.bool b from r); exact⟨_,.bool b⟩
 | _,_,_,.int i,r=>by obtain⟨t,rfl⟩:=r; exact⟨_,.int i t⟩
 | _,_,_,.str x,r=>by obtain⟨t,rfl⟩:=r; exact⟨_,.str x t⟩
 | _,_,_,@Dt.lst _ _ a xs ds hq ha,r=>by
  obtain rfl:=(show _=Value.ref a from r)
  obtain⟨its,rv,⟨o,n,h1,h2,h3,h4⟩,hz⟩:=I.list hq
  obtain⟨as,ra⟩:=Z5s.reads I ha rv
  exact⟨_,.list h1 h2 h4 (by simpa using ra)⟩
 | _,_,_,@Dt.tup _ _ a xs ds hq ha,r=>by
  obtain rfl:=(show _=Value.ref a from r)
  obtain⟨its,rv,⟨o,h1,h2,n,h3⟩,hz⟩:=I.tuple hq
  obtain⟨as,ra⟩:=Z5s.reads I ha rv
  exact⟨_,.tuple h1 h2 h3 (by simpa using ra)⟩
theorem Z5s.reads (I:Inv X pins σ H s):∀ {xs:List V} {ds:List PyData} {us:List Value},Z5s X.K H xs ds->Z1c xs us->∃ as,ReadsAll s.heap us ds as
 | _,_,_,.nil,r=>by cases r; exact⟨_,.nil⟩
 | _,_,_,.cons h t,r=>by
  cases r with
  | cons r rr=>
   obtain⟨a1,h1⟩:=Dt.reads I h r
   obtain⟨a2,h2⟩:=Z5s.reads I t rr
   exact⟨_,.cons h1 h2⟩
end
def Zsj (K:Y01)(A:Around)(neg:Bool):R2:=fun x y H Q=>∃ d e,Dt K H x d/\Dt K H y e/\d.canLay0=true/\e.canLay0=true/\A.units+min d.depth e.depth < cLine/\Q (.bl (if neg then !PyData.eqv d e else PyData.eqv d e)) H
theorem Zsa:OpR X (compareOp .Eq) (Zsj X.K X.A false):=by
 intro pins s σ H x y v u Q I rx ry h
 obtain⟨d,e,hd,he,c1,c2,hu,q⟩:=h
 obtain⟨as,ra⟩:=Dt.reads I hd rx
 obtain⟨bs,rb⟩:=Dt.reads I he ry
 exact SeqAt.compareEq_reads ra rb c1 c2 hu ⟨.bl _,H,I,rfl,q⟩
theorem Z6z:OpR X (compareOp .NotEq) (Zsj X.K X.A true):=by
 intro pins s σ H x y v u Q I rx ry h
 obtain⟨d,e,hd,he,c1,c2,hu,q⟩:=h
 obtain⟨as,ra⟩:=Dt.reads I hd rx
 obtain⟨bs,rb⟩:=Dt.reads I he ry
 exact SeqAt.compareNe_reads ra rb c1 c2 hu ⟨.bl _,H,I,rfl,q⟩
end
def nv (xs:List Nat):List V:=xs.map fun (n:Nat)=>V.int (n:Int)
def nd (xs:List Nat):List PyData:=xs.map fun (n:Nat)=>PyData.int (n:Int)
theorem Z0k (xs:List Nat):(nv xs).length=xs.length:=by simp[nv]
theorem Z14 {xs:List Nat}{i:Nat}{x:Nat}(h:xs[i]?=some x):(nv xs)[i]?=some (.int (x:Int)):=by simp[nv,h]
theorem Z3e {xs:List Nat}{i:Nat}{v:V}(h:(nv xs)[i]?=some v):∃ x,xs[i]?=some x/\v=.int (x:Int):=by
 rw[nv,Y0e]at h
 cases e:xs[i]? with
 | none=>rw[e]at h; cases h
 | some x=>rw[e]at h; exact⟨x,rfl,(Option.some.inj h).symm⟩
theorem Z50 (xs:List Nat)(x:Nat):nv xs++[.int (x:Int)]=nv (xs++[x]):=by simp[nv]
theorem Zrc {xs ys:List Nat}(h:nv xs=nv ys):xs=ys:=by
 unfold nv at h
 induction xs generalizing ys with
 | nil=>cases ys with
  | nil=>rfl
  | cons y ys=>simp at h
 | cons x xs ih=>cases ys with
  | nil=>simp at h
  | cons y ys=>
   simp only[Y0u,List.cons.injEq,V.int.injEq]at h
   rw[ih h.2,Int.ofNat.inj (show Int.ofNat x=Int.ofNat y from h.1)]
theorem Ze2 {K:Y01}{H:Hp}:∀ xs:List Nat,Z5s K H (nv xs) (nd xs)
 | []=>.nil
 | x :: xs=>.cons (.int _) (Ze2 xs)
theorem Ze6:∀ xs:List Nat,PyData.canLayAll0 (nd xs)=true
 | []=>rfl
 | x :: xs=>by show (PyData.canLay0 (PyData.int _) && PyData.canLayAll0 (nd xs))=true; rw[Ze6 xs]; rfl
theorem Zes:∀ xs ys:List Nat,PyData.eqvAll (nd xs) (nd ys)=decide (xs=ys)
 | [],[]=>rfl
 | [],y :: ys=>rfl
 | x :: xs,[]=>rfl
 | x :: xs,y :: ys=>by
  show (((x:Int) == (y:Int)) && PyData.eqvAll (nd xs) (nd ys))=_
  rw[Zes xs ys]
  by_cases e:x=y
  ·subst e
   by_cases e':xs=ys <;> simp[e']
  ·have:((x:Int) == (y:Int))=false:=by simpa using fun h:(x:Int)=y=>e (by omega)
   simp[this,e]
def sd (r u:List Nat):PyData:=.tuple [.tuple (nd r),.tuple (nd u)]
theorem Zpz (r u r' u':List Nat):PyData.eqv (sd r u) (sd r' u')=(decide (r=r') && decide (u=u')):=by
 show (PyData.eqvAll (nd r) (nd r') && (PyData.eqvAll (nd u) (nd u') && true))=_
 rw[Zes,Zes,Bool.and_true]
theorem Zmw (r u:List Nat):(sd r u).canLay0=true:=by
 show (PyData.canLayAll0 (nd r) && (PyData.canLayAll0 (nd u) && true))=true
 rw[Ze6,Ze6]; rfl
def Z7e (H:Hp)(a:Addr)(r u:List Nat):Prop:=∃ p q,H a=some (.tup [.ref p,.ref q])/\H p=some (.tup (nv r))/\H q=some (.tup (nv u))
theorem Z7e.dt {K:Y01}{H:Hp}{a:Addr}{r u:List Nat}(h:Z7e H a r u):Dt K H (.ref a) (sd r u):=by
 obtain⟨p,q,h1,h2,h3⟩:=h
 exact .tup (SqT.of h1) (.cons (.tup (SqT.of h2) (Ze2 r)) (.cons (.tup (SqT.of h3) (Ze2 u)) .nil))
theorem Z7e.same {H H':Hp}{a:Addr}{r u:List Nat}(e:Z0d H H')(h:Z7e H a r u):Z7e H' a r u:=by
 obtain⟨p,q,h1,h2,h3⟩:=h
 exact⟨p,q,e _ _ h1,e _ _ h2,e _ _ h3⟩
theorem Zqz:isSubtype (.type "tuple") (.type "set")=pure false:=by rw[isSubtype_type]; kernel_rfl
theorem Zqu:isSubtype (.type "tuple") (.type "frozenset")=pure false:=by rw[isSubtype_type]; kernel_rfl
section
variable {prog:Program}{w:World}{A:Around}{E:Value->Shared->Prop}{s:Shared}
abbrev Z39 (led:Bool):Obj:={ cls:=.type "set",dict:=none,data:=.set #[] 0 (.fresh 0 0 led) }
def Zcn (prog:Program)(w:World)(s:Shared)(ns:List Int)(n:Nat)(s':Shared):Prop:=∃ h' tk,s'={ s with heap:=h',toks:=tk }/\
 h'.SetOf (intKind prog w) s.heap.objs.size (fun k'=>(firstMet (fun i=>ns.getD i 0) n).any (· == k')) (firstMet (fun i=>ns.getD i 0) n).length/\
 ∀ b o,b < s.heap.objs.size->s.heap.get? b=some o->h'.get? b=some o
set_option maxHeartbeats 3200000 in
theorem Zas {l:Addr}{items:Array Value}{ns:List Int}{led:Bool}(hh:A.handled=none)(hl:s.heap.IsTuple l items)(hi:IntsAre items.toList ns)(hb:items.size+1 < scanBound) :
  wpAny (model prog w) A (Builtin.«set.__init__» ⟨[.ref s.heap.objs.size,.ref l],[]⟩) (fun fin s₂=>fin=.done (.ret .none)/\Zcn prog w s ns items.size s₂) E { s with heap:=s.heap.push (Z39 led) }:=by
 have hS:(s.heap.push (Z39 led)).get? s.heap.objs.size=some (Z39 led):=Y0b _ rfl
 obtain⟨ol,hol,hcl,nl,hdl⟩:=hl
 obtain⟨oc,od,oda,osl⟩:=ol
 simp only at hcl hdl
 subst hcl; subst hdl
 have hol':=Y02 (Z39 led) hol
 have q1:=Zqz
 have q2:=Zqu
 have q3:(Value.type "tuple" == Value.type "dict")=false:=by decide
 have hl1:(s.heap.push (Z39 led)).IsTuple l items:=⟨_,hol',rfl,nl,rfl⟩
 have hlS:l < s.heap.objs.size:=Y0c hol
 unfold Builtin.«set.__init__» noKeywords Builtin.Frozenset.updateFrom
 generalize hPI:pyIter=PI
 wp_walk
 subst hPI
 refine wpAny_pyIter_tuple hl1 (wpAny_bind (wpAny_runValue ?_))
 have hz:(s.heap.push (Z39 led)).objs.size=s.heap.objs.size+1:=Y1s ..
 rw[hz]
 refine codeAny_set_update_loopS ((Walks.tuple (by simp[hh]) (s.heap.objs.size+1) l (Y0l (Y13 hlS)) items).toS) s.heap.objs.size (fun hm=>(Y0j.mp hm).elim (Y0l (Y21 _)) fun hm=>Nat.ne_of_gt hlS (Y0g.mp hm)) (fun i=>ns.getD i 0) (fun i v hv=>IntsAre.int_at hi i v (by rw[Array.getElem?_toList]; exact hv)) hb (items.size - 0) 0 _ (by omega) (Y0w _)
  ⟨⟨_,hz ▸ Y0b _ rfl,rfl,rfl⟩,⟨_,Y02 _ hol',rfl,nl,rfl⟩⟩ ?_ ?_
 ·exact SetOf_congr ((setObjOf_fresh (knd:=intKind prog w) led).setOf (Y02 _ hS) (by unfold scanBound; omega)) (fun _=>rfl) rfl
 ·intro s' hm hS'
  obtain⟨h',g',d',tk',os'⟩:=s'
  have eg:g'=s.gens:=hm.gens
  have ed:d'=s.drawn:=hm.drawn
  have eo:os'=s.os:=hm.os
  subst eg; subst ed; subst eo
  show wpAny _ _ _ _ _ _
  refine wpAny_pure ?_
  show wpAny _ _ (ret Value.none) _ _ _
  refine wpAny_pure ⟨rfl,h',tk',rfl,hS',fun b o hlt e=>?_⟩
  exact hm.heap b o (fun q=>(Y0j.mp q).elim (Y0l hlt) fun q=>Y0l (Y13 hlt) (Y0g.mp q)) (Y02 _ (Y02 _ e))
theorem Zbp {l:Addr}{items:Array Value}{ns:List Int}{Q:Value->Shared->Prop}(hh:A.handled=none)(hl:s.heap.IsTuple l items)(hi:IntsAre items.toList ns)(hb:items.size+1 < scanBound)
  (h:∀ s',Zcn prog w s ns items.size s'->Q (.ref s.heap.objs.size) s'):wpAny (model prog w) A (call (.type "set") [.ref l]) Q E s:=by
 have m0:=F.called_set.mro
 obtain⟨c,tl,m1⟩:=m0
 have m2:=F.called_set.made
 have m3:=F.called_set.sub
 have m4:=F.called_set.notType
 have m5:=F.called_set.canCreate
 have m6:=F.typeCall_set_1 (.ref l)
 refine wpAny_call (codeAny_of_tree (show wpAny _ _ (callAny (.type "set") _) _ _ _ from ?_))
 refine wpAny_pure ⟨Code.quiet_builtin _ (by decide +kernel),codeAny_builtin F.entry_type_call ?_⟩
 rw[Around.under_plain (weight_type_call_type "set" [.ref l] []) rfl]
 repeat (any_goals (first | assumption | wp_step))
 refine codeAny_mono (code_set_new_1 (.ref l) (E:=E) (Q₁:=fun obj s₁=>∃ led:Bool,obj=.ref s.heap.objs.size/\s₁={ s with heap:=s.heap.push (Z39 led) }) fun led=>⟨led,rfl,rfl⟩) fun r s₁ hr=>?_
 match r,hr with
 | .error e,hr=>exact hr
 | .ok .next,hr=>exact hr.elim
 | .ok .brk,hr=>exact hr.elim
 | .ok .cont,hr=>exact hr.elim
 | .ok (.ret obj),hr=>
  obtain⟨led,rfl,rfl⟩:=hr
  have hT:Shared.TypeIs { s with heap:=s.heap.push (Z39 led) } (.ref s.heap.objs.size) "set":=⟨_,Y0b _ rfl,rfl⟩
  have m7:=F.called_set.init.lookup
  have m8:=F.called_set.init.bind (.ref s.heap.objs.size)
  repeat (any_goals (first | assumption | wp_step))
  refine codeAny_mono (codeAny_call_builtin (R:=wants (fun r s₂=>r=.none/\Zcn prog w s ns items.size s₂) E) F.called_set.init.plain F.entry_set_init (check_set_init_1 hT ?_)) fun r₂ s₂ hr₂=>?_
  ·refine wpAny_mono (Zas (by simp[hh]) hl hi hb) (fun fin s₂ ⟨e,q⟩=>?_) fun e s₂ q=>q
   subst e
   exact⟨rfl,q⟩
  ·match r₂,hr₂ with
   | .error e,hr₂=>exact hr₂
   | .ok .next,hr₂=>exact hr₂.elim
   | .ok .brk,hr₂=>exact hr₂.elim
   | .ok .cont,hr₂=>exact hr₂.elim
   | .ok (.ret r),hr₂=>
    obtain⟨rfl,q⟩:=hr₂
    repeat (any_goals (first | assumption | wp_step))
    exact h _ q
theorem Zcz {l:Addr}{vs:List Value}{Q:List Value->Shared->Prop}(hl:s.heap.IsTuple l vs.toArray)(hz:vs.length<=sizeLine)
  (h:∀ h',(∀ b o,s.heap.get? b=some o->h'.get? b=some o)->Q vs { s with heap:=h' }):wpAny (model prog w) A (collect (.ref l)) Q E s:=by
 obtain⟨o,ho,hc,n,hd⟩:=hl
 unfold collect
 refine wpAny_bind (wpAny_runValue (codeAny_builtin entry_proto_collect' ?_))
 show wpAny _ _ (do again (.builtin "list.__iadd__" ⟨[<-newList [],.ref l],[]⟩)) _ _ s
 refine wpAny_bind (wpAny_newList (wpAny_pure ⟨Code.quiet_builtin _ (by decide +kernel),codeAny_builtin entry_list_iadd' ?_⟩))
 have ho':(s.heap.push (seqObj "list" #[] 0)).get? l=some o:=Y02 _ ho
 show wpAny _ _ (Builtin.List.listExtendWith (.ref s.heap.objs.size) (.ref l) (.ref s.heap.objs.size)) _ _ { s with heap:=s.heap.push (seqObj "list" #[] 0) }
 unfold Builtin.List.listExtendWith
 refine wpAny_bind (wpAny_typeOf (T:="tuple") ⟨o,ho',hc⟩ ?_)
 rw[if_pos (show (Builtin.List.listSameRef (.ref s.heap.objs.size) (.ref l) || Value.type "tuple" == Value.type "list" || Value.type "tuple" == Value.type "tuple")=true by
  rw[show (Value.type "tuple" == Value.type "tuple")=true from rfl,Bool.or_true])]
 refine wpAny_bind (listItems_at ho' hd (wpAny_bind (listItems_at (xs:=#[]) (n:=0) (Y0b _ rfl) rfl ?_)))
 rw[if_neg (by simp)]
 refine wpAny_bind (listUpdate_at (xs:=#[]) (n:=0) (Y0b _ rfl) rfl ?_ (Y0w _) (by show (#[]++vs.toArray).size<=sizeLine+1; simp; omega))
 refine wpAny_pure ?_
 refine wpAny_bind (wpAny_load (get?_update_seq (Y0b _ rfl) _) ?_)
 show wpAny _ _ (pure ((#[]:Array Value)++vs.toArray).toList) Q E _
 rw[show ((#[]:Array Value)++vs.toArray).toList=vs by simp]
 exact wpAny_pure (h _ fun b o e=>(Y15 _ _ (Nat.ne_of_gt (Y0c e))).trans (Y02 _ e))
theorem Zib {x:Value}{vs:List Value}{ns:List Int}{Q:Value->Shared->Prop}(hI:IntsAre vs ns)(h64:vs.length < 64)
  (hcol:∀ (A:Around) (R:List Value->Shared->Prop),A.handled=none->(∀ vs ns' h' tk,IntsAre vs ns'->ns'=ns->(∀ b o,s.heap.get? b=some o->h'.get? b=some o)->R vs { s with heap:=h',toks:=tk })->wpAny (model prog w) A (collect x) R E s)
  (hh:A.handled=none)
  (h:∀ (h1 h2:Heap) (tk e:Nat) (out:Array Value) (ns':List Int),IntsAre out.toList ns'->ns'.Perm ns->ns'.Pairwise (·<=·)->(∀ b o,s.heap.get? b=some o->h1.get? b=some o)->h2.get? h1.objs.size=some (seqObj "list" out e)->
   (∀ b o,h1.get? b=some o->h2.get? b=some o)->Q (.ref h1.objs.size) { s with heap:=h2,toks:=tk }) :
  wpAny (model prog w) A (call (.builtin "sorted") [x]) Q E s:=by
 refine Calls.call_function_entry kind_sorted plain_sorted entry_sorted (args_sorted1 _) ?_
 unfold Builtin.«sorted»
 refine wpAny_bind (m:=checkCount "sorted" 1 1 _) (wpAny_pure ?_)
 refine wpAny_bind (hcol _ _ (by simp[hh]) fun vs ms h' tk hI' e hk=>?_)
 subst e
 have hl:vs.length < 64:=by rw[hI'.length,<-hI.length]; exact h64
 refine wpAny_bind (wpAny_newList ?_)
 refine wpAny_bind (wpAny_holding (wpAny_call_entry slot_list_sort ⟨_,Y0b _ rfl,rfl⟩ entry_list_sort (list_sort_tree (Y0b _ rfl) hI' hl fun out ns' a1 a2 a3=>⟨_,rfl,?_⟩) (args_list_sort _)))
 obtain⟨e,he⟩:=sortedHeap_at (out:=out) (n:=0) (show (h'.push (seqObj "list" vs.toArray 0)).get? h'.objs.size=some (seqObj "list" vs.toArray 0) from Y0b _ rfl)
 have old:∀ b o,h'.get? b=some o->(sortedHeap (h'.push (seqObj "list" vs.toArray 0)) h'.objs.size vs out).get? b=some o:=fun b o q1=>by
  have q2:=Y0c q1
  rw[sortedHeap_old (Y0l q2) (by rw[Y1s]; exact Y13 q2)]
  exact Y02 _ q1
 exact wpAny_pure ⟨_,rfl,h _ _ _ _ out ns' a1 a2 a3 hk he old⟩
theorem Zfa {t:Addr}{v u:Value}{targets:List (Bool×(Value->Sem Unit))}{Q:Unit->Shared->Prop}(hh:A.handled=none)(ht:s.heap.IsList t #[v,u])
  (hn:targets.length=2) (hstar:targets.findIdx? (·.1)=none)
  (h:∀ h',(∀ b o,s.heap.get? b=some o->h'.get? b=some o)->wpAny (model prog w) A (assignInOrder (targets.map (·.2)) [v,u]) Q E { s with heap:=h' }) :
  wpAny (model prog w) A (unpack (.ref t) targets) Q E s:=by
 unfold unpack
 rw[hn,hstar]
 refine wpAny_bind (wpAny_holding ?_)
 unfold unpackItems notIterableAtAll
 have hlt:t≠s.heap.objs.size:=by obtain⟨o,ho,_⟩:=ht; exact Y0l (Y0c ho)
 refine wpAny_bind (wpAny_bind (wpAny_specialOf ht.typeIs F.slot_list_iter.lookup (wpAny_pure ?_)))
 simp only[Bool.false_eq_true,if_false]
 refine wpAny_bind (wpAny_holding (wpAny_pyIter_list ht ?_))
 refine wpAny_bind (wpAny_holding ?_)
 have l0:=ht.push { cls:=.type "list_iterator",data:=.fields #[.ref t,.int 0 0] }
 show wpAny _ _ (pyNext (.ref s.heap.objs.size) >>= _) _ _ _
 refine wpAny_bind (wpAny_pyNext_list_item (i:=0) (x:=v) ⟨_,Y0b _ rfl,rfl,rfl⟩ l0 rfl fun h1 i1 s1=>?_)
 have l1:=l0.extBut s1.extBut hlt
 refine wpAny_bind (wpAny_holding ?_)
 show wpAny _ _ (pyNext (.ref s.heap.objs.size) >>= _) _ _ _
 refine wpAny_bind (wpAny_pyNext_list_item (i:=1) (x:=u) i1 l1 rfl fun h2 i2 s2=>?_)
 have l2:=l1.extBut s2.extBut hlt
 refine wpAny_bind (wpAny_holding (wpAny_pure (wpAny_pure (wpAny_pure ?_))))
 rw[if_neg (by simp)]
 refine wpAny_bind (wpAny_holding (wpAny_pyNext_list_end hh i2 l2 rfl fun h3 e3=>?_))
 simp only[Option.isSome_none,Bool.false_eq_true,if_false]
 refine wpAny_pure (h h3 fun b o e=>?_)
 have hb:=Y0l (Y0c e)
 exact e3 b o hb (s2.extBut b o hb (s1.extBut b o hb (Y02 _ e)))
end
section
variable {X:Cx}{pins:List (Addr×Obj)}{σ:St}{H:Hp}{s:Shared}
theorem Inv.turnLaid {fp:List Addr}{T:Addr}{o:HO}{h':Heap}{t':Nat}(I:Inv X pins σ H s)(hf:∀ b∈fp,Zaj X pins H b)(hT:s.heap.objs.size<=T)
  (k:∀ b ob,b∉fp->s.heap.get? b=some ob->h'.get? b=some ob) (new:Z1g X.prog X.w (upd H T o) h' T o):Inv X pins σ (upd H T o) { s with heap:=h',toks:=t' }:=by
 have hn:H T=none:=I.hok.fresh hT
 have neT:∀ b ob,s.heap.get? b=some ob->b≠T:=fun b ob e=>Y0l (Y0h (Y0c e) hT)
 have nfp:∀ b u,H b=some u->b∉fp:=fun b u e hb=>by rw[(hf b hb).1]at e; cases e
 refine I.step (g':=s.gens) (d':=s.drawn) (ch:=fp) (fun b hb=>⟨(hf b hb).2.2.2.1,(hf b hb).2.1,(hf b hb).2.2.2.2.1,(hf b hb).2.2.2.2.2⟩) (fun b ob _ _ hc e _=>k b ob hc e) (fun b ob _ _ hc e _=>⟨ob.slots,k b ob hc e⟩)
  (fun b ob _ e n=>by rw[Z05 (neT b ob e)]; exact n) (fun b ob hc e=>⟨ob,k b ob hc e⟩) (fun b xs e=>by rw[Z05 (Z06 e hn)]; exact e) (fun b ob u e=>by rw[Z05 (Z06 e hn)]; exact e)
  (fun b ps e=>⟨#[],by rw[Z05 (Z06 e hn),e]; simp⟩) (fun m hm=>?_) (fun b u e=>?_) I.bare
 ·obtain⟨ob,es,ep,ho,r⟩:=hm
  exact⟨ob,es,ep,k _ ob (fun hb=>(hf _ hb).2.1 rfl) ho,r⟩
 ·by_cases hb:b=T
  ·subst hb; rw[Z01]at e; cases e; exact new
  ·rw[Z05 hb]at e
   refine (I.hok b u e).stay (fun c v hc q=>k c v ?_ q) (fun c q=>by rw[Z05 (Z06 q hn)]; exact q) fun c xs q=>by rw[Z05 (Z06 q hn)]; exact q
   rcases hc with z | z
   ·rw[z]; exact nfp b u e
   ·exact nfp c _ z
theorem Inv.turnedL {fp:List Addr}{h':Heap}{t':Nat}(I:Inv X pins σ H s)(hf:∀ b∈fp,Zaj X pins H b)(k:∀ b ob,b∉fp->s.heap.get? b=some ob->h'.get? b=some ob):Inv X pins σ H { s with heap:=h',toks:=t' }:=by
 have nfp:∀ b u,H b=some u->b∉fp:=fun b u e hb=>by rw[(hf b hb).1]at e; cases e
 refine I.step (g':=s.gens) (d':=s.drawn) (ch:=fp) (fun b hb=>⟨(hf b hb).2.2.2.1,(hf b hb).2.1,(hf b hb).2.2.2.2.1,(hf b hb).2.2.2.2.2⟩) (fun b ob _ _ hc e _=>k b ob hc e) (fun b ob _ _ hc e _=>⟨ob.slots,k b ob hc e⟩)
  (fun _ _ _ _ n=>n) (fun b ob hc e=>⟨ob,k b ob hc e⟩) (fun _ _ e=>e) (fun _ _ _ e=>e) (fun b ps e=>⟨#[],by rw[e]; simp⟩) (fun m hm=>?_) (fun b u e=>?_) I.bare
 ·obtain⟨ob,es,ep,ho,r⟩:=hm
  exact⟨ob,es,ep,k _ ob (fun hb=>(hf _ hb).2.1 rfl) ho,r⟩
 ·refine (I.hok b u e).stay (fun c v hc q=>k c v ?_ q) (fun _ q=>q) fun _ _ q=>q
  rcases hc with z | z
  ·rw[z]; exact nfp b u e
  ·exact nfp c _ z
end
def Z42 (T:Addr)(xs:List V):HO:=.ext fun h=>xs.length<=sizeLine/\∃ its:List Value,Z1c xs its/\IsTup h T its.toArray
theorem Zd8 {P:Program}{w:World}{H:Hp}{h:Heap}{T:Addr}{xs:List V}(q:xs.length<=sizeLine/\∃ its:List Value,Z1c xs its/\IsTup h T its.toArray):Z1g P w H h T (Z42 T xs):=by
 obtain⟨z,its,r,o,e,c⟩:=id q
 exact⟨q,⟨o,e⟩,fun h1 h2 ⟨z',its',r',o',e',c'⟩ k=>⟨z',its',r',o',k _ e',c'⟩⟩
def Zte (n:Nat)(t:TGs):TG:=fun v σ H Q=>∃ a xs,v=.ref a/\H a=some (Z42 a xs)/\xs.length=n/\t xs σ H Q
theorem Z3t {es:List Expr}{k:Nat}{t:TGs}{n:Nat}{pos:Pos}(hc:X.calm=true)(h:PGs X es t)
  (hn:(assignEach es X.env).length=n:=by rfl) (hst:(assignEach es X.env).findIdx? (·.1)=none:=by rfl):PG X (.Tuple es k pos) (Zte n t):=by
 intro pins s σ H v u Q I r hw
 obtain⟨a,xs,e1,hq,hl,hw⟩:=hw
 subst e1
 cases r
 obtain⟨⟨hz,its,rv,ht⟩,_⟩:=I.hok a _ hq
 refine assign_Tuple_tuple (I.ok.hd hc) ht (by simp[hn,<-hl,rv.length]) hst fun h' hx=>?_
 have I1:Inv X pins σ H { s with heap:=h' }:=I.kept (t':=s.toks) fun b o e=>hx b o (Y0l (Y0c e)) e
 exact h pins _ σ H xs _ Q I1 (by simpa using rv) hw
def Zpm (sq:Hp->List V->Prop):It:=
 ⟨fun i H=>∃ xs x,sq H xs/\xs[i]?=some x,fun i H x H'=>∃ T y,H T=none/\x=.ref T/\(∀ xs,sq H xs->xs[i]?=some y)/\H'=upd H T (Z42 T [.int (i:Int),y]),fun i H=>∃ xs,sq H xs/\xs.length=i⟩
theorem Zf3 {h:Heap}{a b:Addr}{o u:Obj}(h1:h.get? a=some o)(h2:h.get? b=some u)(d:o.cls≠u.cls):a≠b:=by
 intro e; subst e; rw[h1]at h2; cases h2; exact d rfl
theorem Zbm {P:Program}{w:World}{K:Y01}{elts:List Expr}{k:Nat}{pos:Pos}(sq:Hp->List V->Prop)(isq:Heap->Array Value->Prop)(isit:Nat->Heap->Prop)(e it:Addr)
  (obj:∀ i h,isit i h->∃ o,h.get? it=some o/\∀ v,o.data≠.cell v) (keep:∀ i h h',isit i h->(∀ o,h.get? it=some o->h'.get? it=some o)->isit i h')
  (rd:∀ (X:Cx) (pins:List (Addr×Obj)) (σ:St) (H:Hp) (s:Shared) (xs:List V),X.K=K->Inv X pins σ H s->sq H xs->(∃ its:List Value,Z1c xs its/\isq s.heap its.toArray)/\∀ ys,sq H ys->ys=xs)
  (W:∀ (A:Around) (items:Array Value) (h:Heap) (i:Nat),A.handled=none->isq h items->isit i h->(∃ old,IsEnum h e it i old)->∃ fp Mid,WalksT P w A e fp [e,it] items.size (fun i vals=>∃ t x,items[i]?=some x/\vals=#[.int (i:Int) t,x])
   (fun i h=>(∃ old,IsEnum h e it i old)/\isit i h/\isq h items) Mid) :
  Zjs P w K (.Tuple elts k pos) (Zpm sq) [e,it] e (fun i h=>(∃ old,IsEnum h e it i old)/\isit i h) where
 mem:=by simp
 obj:=fun i h st b hb=>by
  obtain⟨⟨old,he⟩,q⟩:=st
  rcases Y0j.mp hb with rfl | hb
  ·exact⟨_,he,fun v z=>nomatch z⟩
  ·rw[Y0g.mp hb]; exact obj i h q
 keep:=fun i h h' st kp=>⟨let ⟨old,he⟩:=st.1; ⟨old,kp e (by simp) _ he⟩,keep i h h' st.2 fun o q=>kp it (by simp) o q⟩
 item:=by
  intro X hP hw hK hc i pins s σ H E I hf st hg
  subst hP hw
  obtain⟨xs,x,hq,hx⟩:=hg
  obtain⟨⟨its,rv,hL⟩,inj⟩:=rd X pins σ H s xs hK I hq
  obtain⟨old,he⟩:=id st.1
  obtain⟨oi,hoi,_⟩:=obj _ _ st.2
  have hlt:i < its.toArray.size:=by
   have:=(Y03.mp hx).1
   rw[rv.length]at this; simpa using this
  obtain⟨fp,Mid,W⟩:=W X.A its.toArray s.heap i (I.ok.hd hc) hL st.2 st.1
  refine W.item i s _ E hlt ⟨st.1,st.2,hL⟩ fun T vals h' tk hPt hT htup hMid hk=>⟨.ref T,rfl,?_⟩
  refine W.go elts k pos i T _ _ E hMid fun h'' hSt hk2=>?_
  obtain⟨t,y',hy',rfl⟩:=hPt
  obtain⟨u,hu,ry⟩:=rv.get hx
  have e1:y'=u:=by
   have:its[i]?=some y':=by simpa using hy'
   rw[hu]at this; exact (Option.some.inj this).symm
  subst e1
  have htup2:IsTup h'' T #[.int (i:Int) t,y']:=by
   obtain⟨o,q1,q2⟩:=htup
   exact⟨o,hk2 T o (W.apart _ _ _ hMid) q1,q2⟩
  refine⟨.ref T,upd H T (Z42 T [.int (i:Int),x]),?_,rfl,⟨T,x,I.hok.fresh hT,rfl,fun zs hzs=>by rw[inj zs hzs]; exact hx,rfl⟩,⟨hSt.1,hSt.2.1⟩,fun b hb=>?_⟩
  ·exact I.turnLaid (s:=s) (h':=h'') (t':=tk) hf hT (fun b ob hb q=>hk2 b ob hb (hk b ob hb q)) (Zd8 ⟨by show 2<=sizeLine; decide,[.int (i:Int) t,y'],.cons ⟨t,rfl⟩ (.cons ry .nil),htup2⟩)
  ·have hbT:b≠T:=fun z=>by
    have:b < s.heap.objs.size:=by
     rcases Y0j.mp hb with rfl | hb
     ·exact Y0c he
     ·rw[Y0g.mp hb]; exact Y0c hoi
    exact absurd (Y0h this hT) (by rw[z]; exact Y1i _)
   rw[Z05 hbT]; exact (hf b hb).1
 done:=by
  intro X hP hw hK hc i pins s σ H E I hf st hs
  subst hP hw
  obtain⟨xs,hq,hle⟩:=hs
  obtain⟨⟨its,rv,hL⟩,inj⟩:=rd X pins σ H s xs hK I hq
  obtain⟨fp,Mid,W⟩:=W X.A its.toArray s.heap i (I.ok.hd hc) hL st.2 st.1
  have hi:i=its.toArray.size:=by rw[<-hle,rv.length]; simp
  refine W.done s _ E (by rw[<-hi]; exact⟨st.1,st.2,hL⟩) fun h' tk hk=>⟨rfl,?_⟩
  exact I.turnedL hf hk
 self:=fun A i s Q E st h=>by obtain⟨⟨old,he⟩,_⟩:=st; exact wpAny_pyIter_enum he h
section
variable {X:Cx}{elts:List Expr}{k:Nat}{tpos:Pos}
def Zru (K:Y01)(ta:TA):TI:=fun σ H R=>ta σ H fun vs H1=>∃ a,vs=[.ref a]/\(∃ xs,SqL K H1 a xs)/\R (Zpm fun H xs=>SqL K H a xs) H1
def Zrr (K:Y01)(ta:TA):TI:=fun σ H R=>ta σ H fun vs H1=>∃ a,vs=[.ref a]/\(∃ xs,SqT K H1 a xs)/\R (Zpm fun H xs=>SqT K H a xs) H1
theorem Z77:bootBuiltins "enumerate"=some (.type "enumerate"):=by decide +kernel
theorem Z5d {l:Expr}{ta:TA}{p pos:Pos}(hg:Gl X "enumerate")(hm:X.mg "enumerate"=none)(ha:PA X [l] ta)(hs:starEach [l] X.env=[(false,eval l X.env)]:=by rfl) :
  PI X (.Tuple elts k tpos) (.Call (.Name "enumerate" p) [l] [] pos) (Zru X.K ta):=by
 intro pins s σ H R I h
 refine Call_ (Z4x I hg hm Z77 (PyProof.Rows.callWith_type1 (thn (ha pos pins s σ H _ I h) fun us s1 ⟨vs,H1,I1,r1,q1⟩=>?_) hs rfl))
 obtain⟨a,rfl,⟨xs,hq⟩,q⟩:=q1
 obtain⟨u,rfl,ru⟩:=Z3l r1
 obtain rfl:u=Value.ref a:=ru
 obtain⟨its,rv,p,hz⟩:=I1.list hq
 have ha:a < s1.heap.objs.size:=by obtain⟨o,ho,_⟩:=p.isList; exact Y0c ho
 refine call_enumerate_list p.isList fun h' he hit hsz hk=>?_
 refine wpAny_pyIter_enum he ?_
 have I2:Inv X pins σ H1 { s1 with heap:=h' }:=I1.kept (t':=s1.toks) hk
 refine⟨s1.heap.objs.size+1,[s1.heap.objs.size+1,s1.heap.objs.size],_,_,H1,rfl,I2,Zbm (fun H xs=>SqL X.K H a xs) (fun h its=>h.IsList a its) (fun i h=>h.IsListIter s1.heap.objs.size a i) (s1.heap.objs.size+1) s1.heap.objs.size ?_ ?_ ?_ ?_,⟨⟨_,he⟩,hit⟩,fun b hb=>?_,q⟩
 ·rintro i h ⟨o,q1,q2,q3⟩
  exact⟨o,q1,fun v z=>by rw[q3]at z; cases z⟩
 ·intro i h h' st kp
  exact st.at kp
 ·intro X' pins' σ' H' s' ys hK I' hq'
  rw[<-hK]at hq'
  obtain⟨its',rv',p',_⟩:=I'.list hq'
  exact⟨⟨its',rv',p'.isList⟩,fun zs hz=>I'.list_inj (by rw[hK]; exact hz) hq'⟩
 ·intro A items h i hh hL hI hE
  obtain⟨old,hE⟩:=hE
  obtain⟨ol,hol,hcl,_⟩:=id hL
  obtain⟨oi,hoi,hci,_⟩:=id hI
  exact⟨_,_,WalksT.enumerate hh _ _ a (Nat.succ_ne_self _) (Zf3 hol hE (by rw[hcl]; show Value.type "list"≠Value.type "enumerate"; decide)) (Zf3 hol hoi (by rw[hcl,hci]; decide)) items⟩
 ·rcases Y0j.mp hb with rfl | hb
  ·exact I1.fpOk (Nat.le_succ _) (I1.hok.fresh (Nat.le_succ _))
  ·rw[Y0g.mp hb]; exact I1.fpOk (Y06 _) (I1.hok.fresh (Y06 _))
theorem Zkh {l:Expr}{ta:TA}{p pos:Pos}(hg:Gl X "enumerate")(hm:X.mg "enumerate"=none)(ha:PA X [l] ta)(hs:starEach [l] X.env=[(false,eval l X.env)]:=by rfl) :
  PI X (.Tuple elts k tpos) (.Call (.Name "enumerate" p) [l] [] pos) (Zrr X.K ta):=by
 intro pins s σ H R I h
 refine Call_ (Z4x I hg hm Z77 (PyProof.Rows.callWith_type1 (thn (ha pos pins s σ H _ I h) fun us s1 ⟨vs,H1,I1,r1,q1⟩=>?_) hs rfl))
 obtain⟨a,rfl,⟨xs,hq⟩,q⟩:=q1
 obtain⟨u,rfl,ru⟩:=Z3l r1
 obtain rfl:u=Value.ref a:=ru
 obtain⟨its,rv,p,hz⟩:=I1.tuple hq
 refine Z4u (show s1.heap.IsTuple a its.toArray from p) fun h' he hit hsz hk=>?_
 refine wpAny_pyIter_enum he ?_
 have I2:Inv X pins σ H1 { s1 with heap:=h' }:=I1.kept (t':=s1.toks) hk
 refine⟨s1.heap.objs.size+1,[s1.heap.objs.size+1,s1.heap.objs.size],_,_,H1,rfl,I2,Zbm (fun H xs=>SqT X.K H a xs) (fun h its=>h.IsTuple a its) (fun i h=>h.IsTupleIter s1.heap.objs.size a i) (s1.heap.objs.size+1) s1.heap.objs.size ?_ ?_ ?_ ?_,⟨⟨_,he⟩,hit⟩,fun b hb=>?_,q⟩
 ·rintro i h ⟨o,q1,q2,q3⟩
  exact⟨o,q1,fun v z=>by rw[q3]at z; cases z⟩
 ·rintro i h h' ⟨o,q1,q2⟩ kp
  exact⟨o,kp o q1,q2⟩
 ·intro X' pins' σ' H' s' ys hK I' hq'
  rw[<-hK]at hq'
  obtain⟨its',rv',p',_⟩:=I'.tuple hq'
  exact⟨⟨its',rv',p'⟩,fun zs hz=>I'.tuple_inj (by rw[hK]; exact hz) hq'⟩
 ·intro A items h i hh hL hI hE
  obtain⟨old,hE⟩:=hE
  obtain⟨ol,hol,hcl,_⟩:=id hL
  obtain⟨oi,hoi,hci,_⟩:=id hI
  have hne:a≠s1.heap.objs.size:=Zf3 hol hoi (by rw[hcl,hci]; decide)
  have hne2:a≠s1.heap.objs.size+1:=Zf3 hol hE (by rw[hcl]; show Value.type "tuple"≠Value.type "enumerate"; decide)
  exact⟨_,_,WalksT.enumerateD (Zcj (A:=A.in1) hh s1.heap.objs.size a hne items) (s1.heap.objs.size+1) (Nat.succ_ne_self _) (fun hm=>(Y0j.mp hm).elim (Nat.succ_ne_self _) fun hm=>hne2 (Y0g.mp hm).symm) (by simp)⟩
 ·rcases Y0j.mp hb with rfl | hb
  ·exact I1.fpOk (Nat.le_succ _) (I1.hok.fresh (Nat.le_succ _))
  ·rw[Y0g.mp hb]; exact I1.fpOk (Y06 _) (I1.hok.fresh (Y06 _))
end
def Itd (a:Addr)(kvs:List (Key×V))(o:Obj):It:=
 ⟨fun i H=>H a=some (.frz o (.dK kvs))/\∃ kv,kvs[i]?=some kv,fun i H x H'=>∃ T k v,H T=none/\x=.ref T/\kvs[i]?=some (k,v)/\H'=upd H T (.tup [kV k,v]),fun i H=>H a=some (.frz o (.dK kvs))/\kvs.length<=i⟩
theorem KV.get {kvs:List (Key×V)}{vs:List (Key×Value)}(r:KV kvs vs):∀ {i:Nat} {k:Key} {v:V},kvs[i]?=some (k,v)->∃ u,vs[i]?=some (k,u)/\Z1p v u:=by
 unfold KV at r
 induction r with
 | nil=>intro i k v e; simp at e
 | @cons p q ps qs h t ih=>
  intro i k v e
  cases i with
  | zero=>
   simp at e
   subst e
   obtain⟨q1,q2⟩:=q
   obtain⟨h1,h2⟩:=h
   have h1:k=q1:=h1
   subst h1
   exact⟨q2,rfl,h2⟩
  | succ i=>simpa using ih (by simpa using e)
theorem Z53 {P:Program}{w:World}{k:Key}{u:Value}(h:(Z0y P w).is k u=true):Z1p (kV k) u:=by
 rcases Z19 (show Zc1 k u=true from h) with ⟨i,t,rfl,rfl⟩ | ⟨x,t,rfl,rfl⟩
 ·exact⟨t,rfl⟩
 ·exact⟨t,rfl⟩
theorem Zh8 {X:Cx}{pins:List (Addr×Obj)}{σ:St}{H:Hp}{s:Shared}{a:Addr}{o:Obj}{es:Array DictEntry}{ep:Nat}{kvs:List (Key×V)}(I:Inv X pins σ H s)(h:H a=some (.frz o (.dK kvs)))(hd:o.data=.dict es ep) :
  ∃ vs,KV kvs vs/\s.heap.DictAt (Z0y X.prog X.w) a vs ep/\s.heap.get? a=some o:=by
 obtain⟨h1,z,hs,vs,rv,o',es',ep',e,r⟩:=(show Z1g X.prog X.w H s.heap a (.frz o (.dK kvs)) from I.hok a _ h)
 rw[h1]at e; cases e
 obtain⟨r1,r2,r3⟩:=r
 rw[hd]at r2; cases r2
 exact⟨vs,rv,⟨o,es,h1,r1,hd,r3⟩,h1⟩
theorem Zg3 {P:Program}{w:World}{K:Y01}{elts:List Expr}{k:Nat}{pos:Pos}(a it:Addr)(o:Obj)(es:Array DictEntry)(ep:Nat)(kvs:List (Key×V))(hd:o.data=.dict es ep) :
  Zjs P w K (.Tuple elts k pos) (Itd a kvs o) [it] it (fun i h=>∃ ok ov,IsItemIter h it a i kvs.length ep ok ov) where
 mem:=by simp
 obj:=fun i h st b hb=>by
  obtain⟨ok,ov,he⟩:=st
  rw[Y0g.mp hb]
  exact⟨_,he,fun v z=>nomatch z⟩
 keep:=fun i h h' ⟨ok,ov,he⟩ kp=>⟨ok,ov,kp it (by simp) _ he⟩
 item:=by
  intro X hP hw hK hc i pins s σ H E I hf st hg
  subst hP hw
  obtain⟨hz,⟨kk,v⟩,hx⟩:=hg
  obtain⟨vs,rv,dd,ha⟩:=Zh8 I hz hd
  obtain⟨ok,ov,hit⟩:=st
  obtain⟨u,hu,ru⟩:=rv.get hx
  have hl:kvs.length=vs.length:=rv.length
  rw[hl]at hit
  refine wpAny_pyNext_items_item hit dd hu fun key h' hkey hout htup hsz hk=>⟨.ref s.heap.objs.size,rfl,?_⟩
  refine wpAny_letOwnedTupleGo_items hout fun h'' hit'' hs''=>?_
  have hitlt:it < s.heap.objs.size:=Y0c hit
  have hne:s.heap.objs.size≠it:=Nat.ne_of_gt hitlt
  refine⟨.ref s.heap.objs.size,upd H s.heap.objs.size (.tup [kV kk,v]),?_,rfl,⟨_,kk,v,I.hok.fresh (Y06 _),rfl,hx,rfl⟩,⟨key,u,by rw[hl]; exact hit''⟩,fun b hb=>?_⟩
  ·refine I.turnLaid (s:=s) (h':=h'') (t':=s.toks) hf (Y06 _) (fun b ob hb q=>?_) ⟨⟨by show 2<=sizeLine; decide,_,(hs''.2 _ hne).trans htup,rfl⟩,[key,u],.cons (Z53 hkey) (.cons ru .nil),⟨_,(hs''.2 _ hne).trans htup,rfl,_,rfl⟩⟩
   have hbi:b≠it:=fun z=>hb (by simp[z])
   exact (hs''.2 b hbi).trans (hk b ob hbi q)
  ·rw[Y0g.mp hb,Z05 (Ne.symm hne)]
   exact (hf it (by simp)).1
 done:=by
  intro X hP hw hK hc i pins s σ H E I hf st hs
  subst hP hw
  obtain⟨hz,hle⟩:=hs
  obtain⟨vs,rv,dd,ha⟩:=Zh8 I hz hd
  obtain⟨ok,ov,hit⟩:=st
  have hl:kvs.length=vs.length:=rv.length
  rw[hl]at hit
  refine wpAny_pyNext_items_end (I.ok.hd hc) hit dd (Y29 (by omega)) fun h' hk=>⟨rfl,?_⟩
  exact I.turnedL (t':=s.toks) hf fun b ob hb q=>hk b ob (fun z=>hb (by simp[z])) q
 self:=fun A i s Q E ⟨ok,ov,he⟩ h=>PySem.W.kcp_self he h
section
variable {X:Cx}{elts:List Expr}{k:Nat}{tpos:Pos}
theorem Inv.freeze {pins:List (Addr×Obj)}{σ:St}{H:Hp}{s:Shared}{a:Addr}{kvs:List (Key×V)}(I:Inv X pins σ H s)(h:H a=some (.dK kvs)) :
  ∃ o es ep,o.data=.dict es ep/\Inv X pins σ (upd H a (.frz o (.dK kvs))) s:=by
 obtain⟨z,hs,vs,rv,o,es,ep,e,r1,r2,r3⟩:=(show Z1g X.prog X.w H s.heap a (.dK kvs) from I.hok a _ h)
 refine⟨o,es,ep,r2,?_⟩
 have:=I.write (x:=a) (e:=a) (o:=.frz o (.dK kvs)) (h':=s.heap) (t':=s.toks) (by rw[h]; exact True.intro) (.inl rfl) (fun _ _ _ q=>q) ⟨o,e⟩ ⟨e,z,hs,vs,rv,o,es,ep,e,r1,r2,r3⟩
 exact this
def Zrs (tl:TE):TI:=fun σ H R=>tl σ H fun x H1=>∃ a kvs,x=.ref a/\Rd H1 a (.dK kvs)/\∀ o H2,H2 a=some (.frz o (.dK kvs))->(∀ b,b≠a->H2 b=H1 b)->R (Itd a kvs o) H2
theorem Zke {d:Expr}{tl:TE}{apos cpos:Pos}(hl:PE X d tl)(hb:attributeBase d "items" X.env (eval d X.env)=eval d X.env:=by rfl)(hline:(apos.endLine == cpos.line)=true:=by rfl) :
  PI X (.Tuple elts k tpos) (.Call (.Attribute d "items" apos) [] [] cpos) (Zrs tl):=by
 intro pins s σ H R I h
 have fin:∀ {s1:Shared} {H1:Hp} {a:Addr} {kvs:List (Key×V)} {o:Obj} {es:Array DictEntry} {ep:Nat},Inv X pins σ H1 s1->H1 a=some (.frz o (.dK kvs))->o.data=.dict es ep->R (Itd a kvs o) H1->
   s1.TypeIs (.ref a) "dict"/\(∀ b,Value.ref a=.ref b->∃ ob,s1.heap.get? b=some ob/\ob.dict=none)/\
   wpAny (model X.prog X.w) X.A (callWith cpos (.builtin "dict.items") [.ref a] [] []) (fun v s1=>wpAny (model X.prog X.w) X.A (pyIter v) (PIE X pins σ (.Tuple elts k tpos) R) X.xe s1) X.xe s1:=by
  intro s1 H1 a kvs o es ep I1 hz hd q
  obtain⟨vs,rv,dd,ha⟩:=Zh8 I1 hz hd
  have hS:(a == sysModules)=false:=by
   obtain⟨_,_,hs,_⟩:=(show Z1g X.prog X.w H1 s1.heap a (.frz o (.dK kvs)) from I1.hok a _ hz)
   exact hs
  have dd':=dd.dictOf
  refine⟨dd'.typeIs,dd'.mapOf.noDict,?_⟩
  refine method_meetsIn F.slot_dict_items F.entry_dict_items rfl (PySem.evalArgs_none ⟨rfl,dd'.typeIs,F.args_dict_items_1 _,_,meets_dict_items (Z0y X.prog X.w) a hS,⟨vs,dd'⟩,?_⟩)
  refine wpAny_pyIter_items (knd:=Z0y X.prog X.w) (kvs:=vs) (ep:=ep) ⟨_,Y0b _ rfl,rfl,rfl⟩ (dd.push _) ?_
  have I2:=(I1.kept (h':=s1.heap.push { cls:=.type "dict_items",data:=.fields #[.ref a] }) (t':=s1.toks) fun b o e=>Y02 _ e)
  have I3:=(I2.kept (h':=(s1.heap.push { cls:=.type "dict_items",data:=.fields #[.ref a] }).push { cls:=.type "dict_itemiterator",data:=.fields #[.none,.bool false,.ref a,.int 0 0,.int vs.length 0,.int ep 0,.none,.none] }) (t':=s1.toks) fun b o e=>Y02 _ e)
  refine⟨_,[_],_,_,H1,rfl,I3,Zg3 a _ o es ep kvs hd,⟨.none,.none,?_⟩,fun b hb=>?_,q⟩
  ·have hlen:kvs.length=vs.length:=rv.length
   rw[hlen]
   exact Y0b _ rfl
  ·rw[Y0g.mp hb]
   exact I2.fpOk (Y06 _) (I2.hok.fresh (Y06 _))
 refine wpAny_Call_method (T:="dict") (id:="dict.items") hb rfl hline F.plainAttrs_dict F.slot_dict_items F.type_dict_items (thn (hl pins s σ H _ I h) fun v s1 ⟨x,H1,I1,r1,a,kvs,e,rd,q⟩=>?_)
 subst e
 obtain rfl:v=Value.ref a:=r1
 rcases rd with hz | ⟨o,hz⟩
 ·obtain⟨o,es,ep,hd,I2⟩:=I1.freeze hz
  exact fin I2 Z01 hd (q o _ Z01 fun b hb=>Z05 hb)
 ·obtain⟨h1,z,hs,vs,rv,o',es,ep,e,r1,r2,r3⟩:=(show Z1g X.prog X.w H1 s1.heap a (.frz o (.dK kvs)) from I1.hok a _ hz)
  rw[h1]at e; cases e
  exact fin I1 hz r2 (q o _ hz fun _ _=>rfl)
end
section
variable {X:Cx}
theorem Z4w (hc:X.calm=true):Z33 X (.builtin "all") (fun xs H Q=>∃ (p:Addr) (bs:List Bool),xs=[.ref p]/\SqL X.K H p (bs.map V.bl)/\Q (.bl (bs.all id)) H):=by
 intro pins s σ H xs us Q I r h
 obtain⟨p,bs,rfl,hq,q⟩:=h
 obtain⟨u,rfl,ru⟩:=Z3l r
 obtain rfl:u=Value.ref p:=ru
 obtain⟨its,rv,pl,hz⟩:=I.list hq
 have hL:=pl.isList
 have hlt:p < s.heap.objs.size:=by obtain⟨o,ho,_⟩:=id hL; exact Y0c ho
 have hlen:its.length=bs.length:=by rw[<-rv.length]; simp
 refine call_all_walkS (wpAny_pyIter_list hL ⟨s.heap.objs.size,_,_,_,its.toArray.size,_,_,fun i=>bs.getD i true,rfl,(Walks.list (A:=X.A.in1) (I.ok.hd hc) s.heap.objs.size p (Y0l hlt) its.toArray).toS,⟨⟨_,Y0b _ rfl,rfl,rfl⟩,hL.push _⟩,?_,fun s' hm=>?_⟩)
 ·intro i v s2 Q2 E2 hP hQ
  have hv:its[i]?=some v:=by simpa using hP
  have hi:i < bs.length:=by rw[<-hlen]; exact (Y03.mp hv).1
  have hb:(bs.map V.bl)[i]?=some (.bl bs[i]):=by simp[hi]
  obtain⟨u,hu,ru⟩:=rv.get hb
  rw[hv]at hu; cases hu
  obtain rfl:v=Value.bool bs[i]:=ru
  have e:bs.getD i true=bs[i]:=by simp[Y05,hi]
  simp only[e]at hQ
  exact wpAny_truthy_bool hQ
 ·rw[Moved.eq_with hm]
  refine⟨.bl _,H,I.kept (h':=s'.heap) (t':=s'.toks) fun b o e=>hm.heap b o (fun z=>?_) (Y02 _ e),rfl,?_⟩
  ·exact absurd (Y0c e) (by rw[Y0g.mp z]; exact Y1i _)
  ·have e:(Y04 its.toArray.size).all (fun i=>bs.getD i true)=bs.all id:=by
    have:its.toArray.size=bs.length:=by simpa using hlen
    rw[this]
    apply Bool.eq_iff_iff.mpr
    simp only[List.all_eq_true,Y08,id]
    constructor
    ·intro h b hb
     obtain⟨i,hi,rfl⟩:=Y0x.mp hb
     have:=h i hi
     simpa [Y05,hi] using this
    ·intro h i hi
     have:=h bs[i] (Y10 hi)
     simpa [Y05,hi] using this
   rw[e]; exact q
theorem Z55:Z33 X (.type "range") (fun xs H Q=>∃ j:Int,xs=[.int j]/\∀ r,H r=none->Q (.ref r) (upd H r (.rng 0 j))):=by
 intro pins s σ H xs us Q I r h
 obtain⟨j,rfl,q⟩:=h
 obtain⟨u,rfl,t,rfl⟩:=Z3l r
 refine call_range_1 ⟨.ref s.heap.objs.size,_,I.laid (a:=s.heap.objs.size) (o:=.rng 0 j) (fun _ _ e=>Y02 _ e) (Y06 _) ⟨_,_,_,Y0b _ rfl⟩,rfl,q _ (I.hok.fresh (Y06 _))⟩
theorem Z40 (hc:X.calm=true):Z33 X (.type "list") (fun xs H Q=>∃ (r:Addr) (n:Nat),xs=[.ref r]/\H r=some (.rng 0 (n:Int))/\n<=1000/\∀ l,H l=none->Q (.ref l) (upd H l (.lst (nv (Y04 n))))):=by
 intro pins s σ H xs us Q I r h
 obtain⟨a,n,rfl,ha,hn,q⟩:=h
 obtain⟨u,rfl,ru⟩:=Z3l r
 obtain rfl:u=Value.ref a:=ru
 obtain⟨t,u',v',e⟩:=(show Z1g X.prog X.w H s.heap a (.rng 0 (n:Int)) from I.hok a _ ha)
 refine call_list_range (n:=n) (I.ok.hd hc) (show IsRange s.heap a 0 (n:Int) 1 t u' v' from e) (small_one (by decide) (by decide) (by omega) (by omega)) (by rw[rangeSize_one]; split <;> omega) (by omega) fun h' tk acc c hk hacc hI=>?_
 refine⟨.ref s.heap.objs.size,_,I.laid (a:=s.heap.objs.size) (o:=.lst (nv (Y04 n))) (h':=h') (t':=tk) hk (Y06 _) ⟨?_,acc.toList,c,?_,by simpa using hacc⟩,rfl,q _ (I.hok.fresh (Y06 _))⟩
 ·rw[Z0k,Y0d]; exact Y1e (Z0j hn)
 ·obtain⟨hsz,hi⟩:=hI
  have key:∀ (m:Nat) (l:List Value),l.length=m->(∀ (j:Nat) (v:Value),l[j]?=some v->∃ t,v=Value.int ((0:Int)+(j:Nat) * 1) t)->Z1c (nv (Y04 m)) l:=by
   intro m
   induction m with
   | zero=>intro l hl _; rw[List.length_eq_zero_iff.mp hl]; exact .nil
   | succ m ih=>
    intro l hl hv
    have hne:l≠[]:=by intro e; rw[e]at hl; simp at hl
    rw[<-List.dropLast_concat_getLast hne,Y1j]
    have e1:nv (Y04 m++[m])=nv (Y04 m)++nv [m]:=by simp[nv]
    rw[e1]
    refine Z1c.append (ih l.dropLast (by simp[hl]) fun j v hj=>?_) (.cons ?_ .nil)
    ·have hjl:j < l.dropLast.length:=(Y03.mp hj).1
     refine hv j v ?_
     rw[List.getElem?_dropLast]at hj
     split at hj
     ·exact hj
     ·cases hj
    ·obtain⟨t,e⟩:=hv m (l.getLast hne) (by rw[List.getLast_eq_getElem,<-Y00]; congr 1; omega)
     exact⟨t,by rw[e]; congr 1; omega⟩
  exact key n acc.toList (by simpa using hsz) fun j v hj=>hi j v (by simpa using hj)
def Znn (K:Y01)(H:Hp)(p:Addr)(r:List Nat):Prop:=SqL K H p (nv r)\/SqT K H p (nv r)\/∃ kvs,H p=some (.dK kvs)/\kvs.map (·.1)=r.map fun (n:Nat)=>Sum.inl (n:Int)
theorem Z54:∀ {r:List Nat} {us:List Value},Z1c (nv r) us->IntsAre us (r.map fun (n:Nat)=>(n:Int)):=fun {r us} h=>Z8k (by rw[Y0y]; exact h)
theorem Zp5 {ms:List Int}{r:List Nat}(p:ms.Perm (r.map fun (n:Nat)=>(n:Int)))(so:ms.Pairwise (·<=·)):∃ S:List Nat,ms=S.map (fun (n:Nat)=>(n:Int))/\S.Perm r/\S.Pairwise (·<=·):=by
 have hn:∀ m∈ms,0<=m:=fun m hm=>by
  obtain⟨n,_,rfl⟩:=Y0f.mp (p.mem_iff.mp hm)
  exact Int.natCast_nonneg n
 have e:ms=(ms.map Int.toNat).map fun (n:Nat)=>(n:Int):=by
  rw[Y0y]
  conv=>lhs; rw[<-List.map_id ms]
  exact Y1p fun m hm=>by simp[Int.toNat_of_nonneg (hn m hm)]
 refine⟨ms.map Int.toNat,e,?_,?_⟩
 ·have:=p.map Int.toNat
  rw[Y0y]at this
  have e2:r.map (Int.toNat ∘ fun (n:Nat)=>(n:Int))=r:=by
   conv=>rhs; rw[<-List.map_id r]
   exact Y1p fun m _=>by simp
  rw[e2]at this; exact this
 ·exact Y1w.mpr (so.imp_of_mem fun ha hb h=>by have:=hn _ ha; have:=hn _ hb; omega)
theorem Zac {us:List Value}{S:List Nat}(h:IntsAre us (S.map fun (n:Nat)=>(n:Int))):Z1c (nv S) us:=by
 have:=Z7b h
 rw[Y0y]at this
 exact this
def Znp (K:Y01):List V->Hp->VK->Prop:=fun xs H Q=>∃ (p:Addr) (r:List Nat),xs=[.ref p]/\Znn K H p r/\r.length < 64/\∀ l S,H l=none->S.Perm r->S.Pairwise (·<=·)->Q (.ref l) (upd H l (.lst (nv S)))
theorem Z2b (hc:X.calm=true):Z33 X (.builtin "sorted") (Znp X.K):=by
 intro pins s σ H xs us Q I rr h
 obtain⟨p,r,rfl,src,h64,q⟩:=h
 obtain⟨u,rfl,ru⟩:=Z3l rr
 obtain rfl:u=Value.ref p:=ru
 have hh:=I.ok.hd hc
 have fin:∀ (vs:List Value),IntsAre vs (r.map fun (n:Nat)=>(n:Int))->
   (∀ (A:Around) (R:List Value->Shared->Prop),A.handled=none->(∀ vs ns' h' tk,IntsAre vs ns'->ns'=(r.map fun (n:Nat)=>(n:Int))->(∀ b o,s.heap.get? b=some o->h'.get? b=some o)->R vs { s with heap:=h',toks:=tk })->wpAny (model X.prog X.w) A (collect (.ref p)) R X.xe s)->
   wpAny (model X.prog X.w) X.A (call (.builtin "sorted") [.ref p]) (EP X pins σ Q) X.xe s:=by
  intro vs hI hcol
  refine Zib hI (by rw[hI.length,Y09]; exact h64) hcol hh fun h1 h2 tk e out ns' a1 a2 a3 hk ho hk2=>?_
  obtain⟨S,rfl,pS,sS⟩:=Zp5 a2 a3
  have I1:Inv X pins σ H { s with heap:=h1,toks:=tk }:=I.kept hk
  have hlen:S.length < 64:=by rw[pS.length_eq]; exact h64
  refine⟨.ref h1.objs.size,_,I1.laid (a:=h1.objs.size) (o:=.lst (nv S)) (h':=h2) (t':=tk) hk2 (Y06 _) ⟨?_,out.toList,e,Zac a1,by simpa using ho⟩,rfl,q _ S (I1.hok.fresh (Y06 _)) pS sS⟩
  rw[Z0k]; exact Y1e (Z0j (by omega))
 rcases src with hq | hq | ⟨kvs,hd,hkeys⟩
 ·obtain⟨its,rv,pl,hz⟩:=I.list hq
  refine fin its (Z54 rv) fun A R hA hR=>?_
  refine collect_list pl.isList (hR its _ _ s.toks (Z54 rv) rfl fun b o e=>?_) (by rw[<-rv.length]; exact hz)
  exact (Y15 _ _ (Nat.ne_of_gt (Y0c e))).trans (Y02 _ e)
 ·obtain⟨its,rv,pl,hz⟩:=I.tuple hq
  refine fin its (Z54 rv) fun A R hA hR=>?_
  exact Zcz (show s.heap.IsTuple p its.toArray from pl) (by rw[<-rv.length]; exact hz) fun h' hk=>hR its _ _ s.toks (Z54 rv) rfl hk
 ·obtain⟨z,hs,vs,rv,dd⟩:=Zfo I.hok hd
  obtain⟨ep,da⟩:=dd.dictAt
  have hks:vs.map (·.1)=r.map fun (n:Nat)=>Sum.inl (n:Int):=by rw[<-rv.keys]; exact hkeys
  have key:∀ (l:List Value),l.length=vs.length->(∀ (j:Nat) (v:Value),l[j]?=some v->∃ k x,vs[j]?=some (k,x)/\(Z0y X.prog X.w).is k v=true)->IntsAre l (r.map fun (n:Nat)=>(n:Int)):=by
   intro l hl hj
   refine Z54 ?_
   have hlr:l.length=r.length:=by rw[hl]; simpa using congrArg List.length hks
   have:∀ (r':List Nat) (l':List Value),l'.length=r'.length->(∀ (j:Nat) (v:Value),l'[j]?=some v->∃ n,r'[j]?=some n/\∃ t,v=Value.int (n:Int) t)->Z1c (nv r') l':=by
    intro r'
    induction r' with
    | nil=>intro l' hl _; rw[List.length_eq_zero_iff.mp hl]; exact .nil
    | cons n r' ih=>
     intro l' hl hj
     cases l' with
     | nil=>simp at hl
     | cons v l'=>
      obtain⟨m,em,t,ev⟩:=hj 0 v rfl
      simp at em
      subst em
      exact .cons ⟨t,ev⟩ (ih l' (by simpa using hl) fun j v hv=>by simpa using hj (j+1) v (by simpa using hv))
   refine this r l hlr fun j v hv=>?_
   obtain⟨k,x,e1,e2⟩:=hj j v hv
   have e3:(r.map fun (n:Nat)=>(Sum.inl (n:Int):Key))[j]?=some k:=by rw[<-hks,Y0e,e1]; rfl
   rw[Y0e]at e3
   cases en:r[j]? with
   | none=>rw[en]at e3; cases e3
   | some n=>
    rw[en]at e3
    have e4:(Sum.inl (n:Int):Key)=k:=Option.some.inj e3
    subst e4
    obtain⟨t,et⟩:=(show ∃ t,v=Value.int (n:Int) t from Z53 e2)
    exact⟨n,rfl,t,et⟩
  obtain⟨l0,hl0,hj0⟩:∃ l:List Value,l.length=vs.length/\∀ (j:Nat) (v:Value),l[j]?=some v->∃ k x,vs[j]?=some (k,x)/\(Z0y X.prog X.w).is k v=true:=by
   refine⟨vs.map fun kv=>match kv.1 with | Sum.inl i=>Value.int i 0 | Sum.inr x=>Value.str x 0,by simp,fun j v hv=>?_⟩
   rw[Y0e]at hv
   cases e:vs[j]? with
   | none=>rw[e]at hv; cases hv
   | some kv=>
    rw[e]at hv
    obtain⟨k,x⟩:=kv
    refine⟨k,x,rfl,?_⟩
    cases k with
    | inl i=>cases hv; exact Z7h _ _ i 0
    | inr x=>cases hv; exact Z86 _ _ x 0
  refine fin l0 (key l0 hl0 hj0) fun A R hA hR=>?_
  refine PySem.W.kdu_collect (PySem.W.kdl_dict (knd:=Z0y X.prog X.w) (kvs:=vs) (ep:=ep) hs) hA da (by rw[<-rv.length]; exact z) fun h' tk acc hk hacc=>?_
  exact hR acc.toList _ h' tk (key acc.toList (by simpa using hacc.1) fun j v hv=>hacc.2 j v (by simpa using hv)) rfl hk
def Z3m (r:List Nat):Nat:=(firstMet (fun i=>(r.map fun (n:Nat)=>(n:Int)).getD i 0) r.length).length
def rSet (K:Y01):List V->Hp->VK->Prop:=fun xs H Q=>∃ (p:Addr) (r:List Nat),xs=[.ref p]/\(SqL K H p (nv r)\/SqT K H p (nv r))/\r.length<=1000/\∀ d S,H d=none->Q (.ref d) (upd H d (.set S (Z3m r)))
theorem Z9w (hc:X.calm=true):Z33 X (.type "set") (rSet X.K):=by
 intro pins s σ H xs us Q I rr h
 obtain⟨p,r,rfl,src,hl,q⟩:=h
 obtain⟨u,rfl,ru⟩:=Z3l rr
 obtain rfl:u=Value.ref p:=ru
 have hh:=I.ok.hd hc
 have fin:∀ {its:List Value} {h':Heap} {tk:Nat},its.length=r.length->h'.SetOf (intKind X.prog X.w) s.heap.objs.size (fun k'=>(firstMet (fun i=>(r.map fun (n:Nat)=>(n:Int)).getD i 0) its.toArray.size).any (· == k')) (firstMet (fun i=>(r.map fun (n:Nat)=>(n:Int)).getD i 0) its.toArray.size).length->
   (∀ b o,b < s.heap.objs.size->s.heap.get? b=some o->h'.get? b=some o)->EP X pins σ Q (.ref s.heap.objs.size) { s with heap:=h',toks:=tk }:=by
  intro its h' tk hlen hS hk
  have e:its.toArray.size=r.length:=by simpa using hlen
  rw[e]at hS
  exact⟨.ref s.heap.objs.size,_,I.laid (a:=s.heap.objs.size) (o:=.set _ (Z3m r)) (fun b o z=>hk b o (Y0c z) z) (Y06 _) hS,rfl,q _ _ (I.hok.fresh (Y06 _))⟩
 rcases src with hq | hq
 ·obtain⟨its,rv,pl,hz⟩:=I.list hq
  have hlen:its.length=r.length:=by rw[<-rv.length,Z0k]
  exact call_set_list hh pl.isList (by simpa using Z54 rv) (by unfold scanBound; simp; omega) fun h' tk hS hk=>fin hlen hS hk
 ·obtain⟨its,rv,pl,hz⟩:=I.tuple hq
  have hlen:its.length=r.length:=by rw[<-rv.length,Z0k]
  refine Zbp hh (show s.heap.IsTuple p its.toArray from pl) (by simpa using Z54 rv) (by unfold scanBound; simp; omega) fun s' hs'=>?_
  obtain⟨h',tk,rfl,hS,hk⟩:=hs'
  exact fin hlen hS hk
theorem Z7z {r:List Nat}(h:r.Nodup):Z3m r=r.length:=by
 unfold Z3m
 have key:∀ n,n<=r.length->firstMet (fun i=>(r.map fun (n:Nat)=>(n:Int)).getD i 0) n=(r.take n).map fun (n:Nat)=>(n:Int):=by
  intro n
  induction n with
  | zero=>intro _; rfl
  | succ n ih=>
   intro hn
   have hlt:n < r.length:=hn
   rw[firstMet_succ,ih (by omega),Y11,Y00 hlt]
   have e:(r.map fun (n:Nat)=>(n:Int)).getD n 0=(r[n]:Int):=by simp[Y05,hlt]
   rw[e]
   unfold step_dedup
   rw[if_neg]
   ·rw[Y0p]; rfl
   ·intro hc
    have hmem:r[n]∈r.take n:=by
     rw[List.any_eq_true]at hc
     obtain⟨z,hz,ez⟩:=hc
     obtain⟨m,hm,rfl⟩:=Y0f.mp hz
     have:m=r[n]:=by have:=beq_iff_eq.mp ez; omega
     rw[<-this]; exact hm
    obtain⟨i,hi,ei⟩:=Y0x.mp hmem
    have hi':i < n:=by simp at hi; omega
    have:r[i]=r[n]:=by rw[<-ei]; simp
    have hp:=Y1t.mp h i n (by omega) hlt hi'
    exact hp this
 rw[key r.length (Y06 _)]
 simp
theorem Z3q:Z33 X (.builtin "len") (fun xs H Q=>∃ (p:Addr) (S:Int->Bool) (n:Nat),xs=[.ref p]/\H p=some (.set S n)/\Q (.int (n:Int)) H):=by
 intro pins s σ H xs us Q I r h
 obtain⟨p,S,n,rfl,hp,q⟩:=h
 obtain⟨u,rfl,ru⟩:=Z3l r
 obtain rfl:u=Value.ref p:=ru
 obtain⟨o,es,ep,t,h1,h2,h3,h4,h5,h6,h7,h8⟩:=(show Z1g X.prog X.w H s.heap p (.set S n) from I.hok p _ hp)
 refine call_len_set h1 h2 h3 h7 (by unfold scanBound at h6; omega) ⟨.int (n:Int),H,I.tok _,⟨_,by rw[h8]⟩,q⟩
def Zsn (K:Y01)(t:TGs):TG:=fun v σ H Q=>∃ a x y,v=.ref a/\SqL K H a [x,y]/\t [x,y] σ H Q
theorem Znh {es:List Expr}{k:Nat}{pos:Pos}{t:TGs}(hc:X.calm=true)(h:PGs X es t)
  (hn:(assignEach es X.env).length=2:=by rfl) (hst:(assignEach es X.env).findIdx? (·.1)=none:=by rfl):PG X (.Tuple es k pos) (Zsn X.K t):=by
 intro pins s σ H v u Q I r hw
 obtain⟨a,x,y,rfl,hq,hw⟩:=hw
 obtain rfl:u=Value.ref a:=r
 obtain⟨its,rv,pl,hz⟩:=I.list hq
 obtain⟨v1,v2,rfl,r1,r2⟩:=Zh1 rv
 rw[assign_Tuple]
 refine wpAny_bind (wpAny_standAt (Zfa (I.ok.hd hc) pl.isList hn hst fun h' hk=>?_))
 exact h pins _ σ H [x,y] _ Q (I.kept (t':=s.toks) hk) (.cons r1 (.cons r2 .nil)) hw
end
theorem Z8p {sq:Hp->List V->Prop}{xs:List V}{g:TG}{tb:TS}{D:Z85}{σ:St}{H:Hp}(Pv:Nat->St->Hp->Prop)(h0:Pv 0 σ H)(hl:∀ i σ H,i<=xs.length->Pv i σ H->sq H xs)
  (hs:∀ i x σ H T,xs[i]?=some x->H T=none->Pv i σ H->g (.ref T) σ (upd H T (Z42 T [.int (i:Int),x])) fun σ2 H2=>tb { D with nx:=Pv (i+1),ct:=Pv (i+1),bk:=D.nx } σ2 H2) (hd:∀ σ H,Pv xs.length σ H->D.nx σ H) :
  ∃ W:Nat->Nat->St->Hp->Prop,(∃ m,W 0 m σ H)/\∀ i m σ H,W i m σ H->
   ((Zpm sq).stop i H/\D.nx σ H)\/((Zpm sq).go i H/\∃ N:St->Hp->Prop,(∀ σ' H',N σ' H'->∃ m',m' < m/\W (i+1) m' σ' H')/\∀ x H',(Zpm sq).yld i H x H'->g x σ H' fun σ2 H2=>tb { D with nx:=N,ct:=N,bk:=D.nx } σ2 H2):=by
 refine⟨fun i m σ H=>m=xs.length - i/\i<=xs.length/\Pv i σ H,⟨xs.length,by simp,Y0w _,h0⟩,?_⟩
 rintro i m σ H ⟨rfl,hi,p⟩
 have q:=hl i σ H hi p
 by_cases hlt:i < xs.length
 ·refine .inr ⟨⟨xs,xs[i],q,by simp[hlt]⟩,Pv (i+1),fun σ' H' p'=>⟨xs.length - (i+1),by omega,rfl,hlt,p'⟩,fun x H' y=>?_⟩
  obtain⟨T,z,hT,rfl,hz,rfl⟩:=y
  exact hs i z σ H T (hz xs q) hT p
 ·have e:i=xs.length:=by omega
  subst e
  exact .inl ⟨⟨xs,q,rfl⟩,hd σ H p⟩
theorem Zgb {a:Addr}{kvs:List (Key×V)}{o:Obj}{g:TG}{tb:TS}{D:Z85}{σ:St}{H:Hp}(Pv:Nat->St->Hp->Prop)(h0:Pv 0 σ H)(hl:∀ i σ H,i<=kvs.length->Pv i σ H->H a=some (.frz o (.dK kvs)))
  (hs:∀ i k v σ H T,kvs[i]?=some (k,v)->H T=none->Pv i σ H->g (.ref T) σ (upd H T (.tup [kV k,v])) fun σ2 H2=>tb { D with nx:=Pv (i+1),ct:=Pv (i+1),bk:=D.nx } σ2 H2) (hd:∀ σ H,Pv kvs.length σ H->D.nx σ H) :
  ∃ W:Nat->Nat->St->Hp->Prop,(∃ m,W 0 m σ H)/\∀ i m σ H,W i m σ H->
   ((Itd a kvs o).stop i H/\D.nx σ H)\/((Itd a kvs o).go i H/\∃ N:St->Hp->Prop,(∀ σ' H',N σ' H'->∃ m',m' < m/\W (i+1) m' σ' H')/\∀ x H',(Itd a kvs o).yld i H x H'->g x σ H' fun σ2 H2=>tb { D with nx:=N,ct:=N,bk:=D.nx } σ2 H2):=by
 refine⟨fun i m σ H=>m=kvs.length - i/\i<=kvs.length/\Pv i σ H,⟨kvs.length,by simp,Y0w _,h0⟩,?_⟩
 rintro i m σ H ⟨rfl,hi,p⟩
 have q:=hl i σ H hi p
 by_cases hlt:i < kvs.length
 ·refine .inr ⟨⟨q,kvs[i],by simp[hlt]⟩,Pv (i+1),fun σ' H' p'=>⟨kvs.length - (i+1),by omega,rfl,hlt,p'⟩,fun x H' y=>?_⟩
  obtain⟨T,k,v,hT,rfl,hz,rfl⟩:=y
  exact hs i k v σ H T hz hT p
 ·have e:i=kvs.length:=by omega
  subst e
  exact .inl ⟨⟨q,Y06 _⟩,hd σ H p⟩
def Zkg (n:Nat)(ys:List V)(Pv:Nat->St->Hp->Prop)(d:Addr)(i:Nat)(σ3:St)(y:V)(H4:Hp):Prop:=
 ∃ xs,H4 d=some (.lst xs)/\xs.length < sizeLine/\∃ m',m' < n - i/\m'=n - (i+1)/\i+1<=n/\Pv (i+1) σ3 (upd H4 d (.lst (xs++[y])))/\(upd H4 d (.lst (xs++[y]))) d=some (.lst (ys.take (i+1)))
theorem Z70 {n:Nat}{ys:List V}{Pv:Nat->St->Hp->Prop}{d:Addr}{i:Nat}{σ3:St}{y:V}{H4:Hp}(hi:i < n)(hn:n<=1000)(hd:H4 d=some (.lst (ys.take i)))(hy:ys[i]?=some y)(hp:Pv (i+1) σ3 (upd H4 d (.lst (ys.take (i+1))))) :
  Zkg n ys Pv d i σ3 y H4:=by
 have e:ys.take (i+1)=ys.take i++[y]:=by rw[Y11,hy]; rfl
 refine⟨_,hd,?_,n - (i+1),by omega,rfl,hi,by rw[<-e]; exact hp,by rw[Z01,e]⟩
 have:(ys.take i).length<=i:=by rw[Y18]; exact Nat.min_le_left _ _
 exact Z0j (by omega)
theorem Z2z {J:It}{g:TG}{te:TE}{d:Addr}{σ0:St}{H1:Hp}{Q:Addr->Hp->Prop}(n:Nat)(ys:List V)(hy:ys.length=n)(Pv:Nat->St->Hp->Prop)(h0:Pv 0 σ0 (upd H1 d (.lst [])))
  (go:∀ i σ H,i < n->Pv i σ H->H d=some (.lst (ys.take i))->J.go i H/\∀ x H2,J.yld i H x H2->g x σ H2 fun σ3 H3=>te σ3 H3 fun y H4=>Zkg n ys Pv d i σ3 y H4)
  (stop:∀ σ H,Pv n σ H->H d=some (.lst ys)->J.stop n H/\Q d H) :
  ∃ W:Nat->Nat->St->Hp->Prop,(∃ m,W 0 m σ0 (upd H1 d (.lst [])))/\∀ i m σ' H',W i m σ' H'->
   (J.stop i H'/\Q d H')\/(J.go i H'/\∀ x H2,J.yld i H' x H2->g x σ' H2 fun σ3 H3=>te σ3 H3 fun y H4=>∃ xs,H4 d=some (.lst xs)/\xs.length < sizeLine/\∃ m',m' < m/\W (i+1) m' σ3 (upd H4 d (.lst (xs++[y])))):=by
 refine⟨fun i m σ H=>m=n - i/\i<=n/\Pv i σ H/\H d=some (.lst (ys.take i)),⟨n,by simp,Y0w _,h0,Z01⟩,?_⟩
 rintro i m σ H ⟨rfl,hi,p,hd⟩
 by_cases hlt:i < n
 ·exact .inr (go i σ H hlt p hd)
 ·have e:i=n:=by omega
  subst e
  rw[Y1m (by omega)]at hd
  exact .inl (stop σ H p hd)
end L2
namespace Sq
theorem Z16 {α:Type}[DecidableEq α]:∀ (l l':List α),l.Nodup->(∀ x∈l,x∈l')->l.length<=l'.length
 | [],_,_,_=>Y0w _
 | a :: l,l',nd,h=>by
  have nd':=Y1r.mp nd
  have ha:a∈l':=h a Y1k
  have:=Z16 l (l'.erase a) nd'.2 fun x hx=>by
   have hne:x≠a:=fun e=>nd'.1 (e ▸ hx)
   exact (List.mem_erase_of_ne hne).mpr (h x (Y0r _ hx))
  rw[List.length_erase_of_mem ha]at this
  have:=Y2m ha
  simp only[Y1d]; lia
theorem full {α:Type}[DecidableEq α]{l l':List α}(nd:l.Nodup)(h:∀ x∈l,x∈l')(hl:l'.length<=l.length):∀ x∈l',x∈l:=fun x hx=>by
 refine Classical.byContradiction fun hn=>?_
 have h1:(x :: l).Nodup:=Y1r.mpr ⟨hn,nd⟩
 have h2:=Z16 (x :: l) l' h1 fun y hy=>by
  rcases Y0j.mp hy with rfl | hy
  ·exact hx
  ·exact h y hy
 simp only[Y1d]at h2; lia
theorem Zha {α:Type}{l:List α}(nd:l.Nodup){i j:Nat}(hi:i < l.length)(hj:j < l.length)(e:l[i]=l[j]):i=j:=by
 have h:=Y1t.mp nd
 rcases Nat.lt_trichotomy i j with c | c | c
 ·exact absurd e (h i j hi hj c)
 ·exact c
 ·exact absurd e.symm (h j i hj hi c)
structure Row (n:Nat)(r:List Nat):Prop where
 len:r.length=n
 nd:r.Nodup
 lt:∀ x∈r,x < n
abbrev nx (r:List Nat)(x:Nat):Nat:=r.getD x 0
section
variable {n:Nat}{r:List Nat}
theorem Row.get (h:Row n r){i:Nat}(hi:i < n):r[i]?=some (nx r i):=by
 have:i < r.length:=by rw[h.len]; exact hi
 simp[nx,List.getD,Y00 this]
theorem Row.mem (h:Row n r){i:Nat}(hi:i < n):nx r i∈r:=Y0a (h.get hi)
theorem Row.nlt (h:Row n r){i:Nat}(hi:i < n):nx r i < n:=h.lt _ (h.mem hi)
theorem Row.has (h:Row n r){x:Nat}(hx:x < n):x∈r:=by
 refine full h.nd (l':=Y04 n) (fun y hy=>Y08.mpr (h.lt y hy)) (by simp[h.len]) x (Y08.mpr hx)
theorem Row.inj (h:Row n r){i j:Nat}(hi:i < n)(hj:j < n)(e:nx r i=nx r j):i=j:=by
 have h1:i < r.length:=by rw[h.len]; exact hi
 have h2:j < r.length:=by rw[h.len]; exact hj
 have e':r[i]=r[j]:=by simpa [nx,List.getD,Y00 h1,Y00 h2] using e
 exact Zha h.nd h1 h2 e'
theorem Row.onto (h:Row n r){x:Nat}(hx:x < n):∃ i,i < n/\nx r i=x:=by
 obtain⟨i,hi,e⟩:=Y0x.mp (h.has hx)
 exact⟨i,by rw[<-h.len]; exact hi,by simp[nx,List.getD,Y00 hi,e]⟩
theorem Row.idx_lt (h:Row n r){x:Nat}(hx:x < n):r.idxOf x < n:=by
 have:=Y1a (h.has hx)
 rwa [h.len]at this
theorem Row.nx_idx (h:Row n r){x:Nat}(hx:x < n):nx r (r.idxOf x)=x:=by
 have h1:=Y1a (h.has hx)
 simp[nx,List.getD,Y00 h1]
theorem Row.idx_nx (h:Row n r){i:Nat}(hi:i < n):r.idxOf (nx r i)=i:=
 h.inj (h.idx_lt (h.nlt hi)) hi (h.nx_idx (h.nlt hi))
theorem Row.of_perm {l:List Nat}(p:l.Perm (Y04 n)):Row n l where
 len:=by simpa using p.length_eq
 nd:=p.nodup_iff.mpr Y0v
 lt:=fun x hx=>Y08.mp (p.mem_iff.mp hx)
theorem Row.perm (h:Row n r):r.Perm (Y04 n):=by
 refine (Y1c h.nd Y0v).mpr fun x=>⟨fun hx=>Y08.mpr (h.lt x hx),fun hx=>h.has (Y08.mp hx)⟩
end
def back (r:List Nat):List Nat:=(Y04 r.length).map fun x=>r.idxOf x
theorem Ze4 (r:List Nat):(back r).length=r.length:=by simp[back]
theorem Z46 {n:Nat}{r:List Nat}(h:Row n r){x:Nat}(hx:x < n):nx (back r) x=r.idxOf x:=by
 have:x < r.length:=by rw[h.len]; exact hx
 simp[nx,back,List.getD,this]
theorem Row.back {n:Nat}{r:List Nat}(h:Row n r):Row n (back r) where
 len:=by rw[Ze4,h.len]
 nd:=by
  refine Y1w.mpr (List.Pairwise.imp_of_mem (fun {a b} ha hb hne e=>hne ?_) (Y0v (n:=r.length)))
  rw[h.len]at ha hb
  have ha:=Y08.mp ha
  have hb:=Y08.mp hb
  rw[<-h.nx_idx ha,e,h.nx_idx hb]
 lt:=fun x hx=>by
  obtain⟨y,hy,rfl⟩:=Y0f.mp hx
  rw[h.len]at hy
  exact h.idx_lt (Y08.mp hy)
def Zsp (n:Nat)(r u:List Nat)(T:Nat->Prop):Prop:=∀ x,x < n->T x->T (nx r x)/\T (nx u x)
structure Z4r (n:Nat)(r u:List Nat):Prop where
 pos:1<=n
 most:n<=36
 row:Row n r
 col:Row n u
 conn:∀ T:Nat->Prop,T 0->Zsp n r u T->∀ x,x < n->T x
theorem Zlj {n:Nat}{line left:List Nat}{k:Nat}{y:Nat}(p:(line++left).Perm (Y04 n))(e:left[k]?=some y) :
  ((line++[y])++left.eraseIdx k).Perm (Y04 n):=by
 refine List.Perm.trans ?_ p
 rw[Y1l]
 refine List.Perm.append_left _ ?_
 have hk:k < left.length:=(Y03.mp e).1
 have hy:left[k]=y:=(Y03.mp e).2
 have h1:left=left.take k++left[k] :: left.drop (k+1):=by
  rw[<-Y26 hk,Y1x]
 rw[Y23]
 conv=>rhs; rw[h1,hy]
 exact (List.perm_middle (a:=y) (l₁:=left.take k) (l₂:=left.drop (k+1))).symm
structure Met (n:Nat)(r u:List Nat)(first:Nat)(M:List Nat)(k:Nat):Prop where
 nd:M.Nodup
 hd:first∈M
 lt:∀ x∈M,x < n
 kle:k<=M.length
 shut:∀ i x,i < k->M[i]?=some x->nx r x∈M/\nx u x∈M
 least:∀ T:Nat->Prop,T first->Zsp n r u T->∀ x∈M,T x
theorem Met.len {n:Nat}{r u:List Nat}{first:Nat}{M:List Nat}{k:Nat}(h:Met n r u first M k):M.length<=n:=by
 have:=Z16 M (Y04 n) h.nd fun x hx=>Y08.mpr (h.lt x hx)
 simpa using this
theorem Met.start {n:Nat}{r u:List Nat}{first:Nat}(h:first < n):Met n r u first [first] 0 where
 nd:=by simp
 hd:=by simp
 lt:=fun x hx=>by rw[Y0g.mp hx]; exact h
 kle:=Y0w _
 shut:=fun i x hi=>absurd hi (Y2i _)
 least:=fun T h0 _ x hx=>by rw[Y0g.mp hx]; exact h0
def put (M:List Nat)(y:Nat):List Nat:=if y∈M then M else M++[y]
theorem Z27 {M:List Nat}{y x:Nat}:x∈put M y↔x∈M\/x=y:=by
 unfold put; split
 ·rename_i h; exact⟨.inl,fun q=>q.elim id fun e=>e ▸ h⟩
 ·simp
theorem Ziu {M:List Nat}{y x:Nat}{i:Nat}(h:M[i]?=some x):(put M y)[i]?=some x:=by
 unfold put; split
 ·exact h
 ·rw[Y0t (Y03.mp h).1]; exact h
theorem Zj0 {M:List Nat}{y:Nat}:M.length<=(put M y).length:=by
 unfold put; split <;> simp
theorem Zir {M:List Nat}{y:Nat}(h:M.Nodup):(put M y).Nodup:=by
 unfold put; split
 ·exact h
 ·rename_i hy; exact Y1y.mpr ⟨h,by simp,fun a ha b hb e=>hy (by rw[Y0g.mp hb]at e; exact e ▸ ha)⟩
theorem Met.step {n:Nat}{r u:List Nat}{first:Nat}{M:List Nat}{k x:Nat}(h:Met n r u first M k)(hr:Row n r)(hu:Row n u)(hx:M[k]?=some x) :
  Met n r u first (put (put M (nx r x)) (nx u x)) (k+1) where
 nd:=Zir (Zir h.nd)
 hd:=Z27.mpr (.inl (Z27.mpr (.inl h.hd)))
 lt:=fun y hy=>by
  have hxn:=h.lt x (Y0a hx)
  rcases Z27.mp hy with hy | rfl
  ·rcases Z27.mp hy with hy | rfl
   ·exact h.lt y hy
   ·exact hr.nlt hxn
  ·exact hu.nlt hxn
 kle:=by
  have:=(Y03.mp hx).1
  have h1:=Zj0 (M:=M) (y:=nx r x)
  have h2:=Zj0 (M:=put M (nx r x)) (y:=nx u x)
  lia
 shut:=fun i y hi hy=>by
  have hk:=(Y03.mp hx).1
  have hi':i < M.length:=by lia
  have e:M[i]?=some M[i]:=Y00 hi'
  have e2:=Ziu (y:=nx u x) (Ziu (y:=nx r x) e)
  rw[hy]at e2
  have e3:y=M[i]:=Option.some.inj e2
  rw[<-e3]at e
  rcases Y0z i k with hlt | hge
  ·obtain⟨a,b⟩:=h.shut i y hlt e
   exact⟨Z27.mpr (.inl (Z27.mpr (.inl a))),Z27.mpr (.inl (Z27.mpr (.inl b)))⟩
  ·have:i=k:=by lia
   subst this
   rw[hx]at e
   cases e
   exact⟨Z27.mpr (.inl (Z27.mpr (.inr rfl))),Z27.mpr (.inr rfl)⟩
 least:=fun T h0 hs y hy=>by
  have hxM:=Y0a hx
  have hxn:=h.lt x hxM
  have hT:=h.least T h0 hs x hxM
  rcases Z27.mp hy with hy | rfl
  ·rcases Z27.mp hy with hy | rfl
   ·exact h.least T h0 hs y hy
   ·exact (hs x hxn hT).1
  ·exact (hs x hxn hT).2
structure Z2w (n:Nat)(r u:List Nat)(first:Nat)(M:List Nat):Prop where
 nd:M.Nodup
 hd:first∈M
 lt:∀ x∈M,x < n
 shut:∀ x∈M,nx r x∈M/\nx u x∈M
 least:∀ T:Nat->Prop,T first->Zsp n r u T->∀ x∈M,T x
theorem Met.all {n:Nat}{r u:List Nat}{first:Nat}{M:List Nat}{k:Nat}(h:Met n r u first M k)(hk:M.length<=k):Z2w n r u first M where
 nd:=h.nd
 hd:=h.hd
 lt:=h.lt
 shut:=fun x hx=>by
  obtain⟨i,hi,e⟩:=Y0x.mp hx
  exact h.shut i x (by lia) (by rw[Y00 hi,e])
 least:=h.least
theorem Z2w.perm {n:Nat}{r u:List Nat}{first:Nat}{M S:List Nat}(h:Z2w n r u first M)(p:S.Perm M):Z2w n r u first S where
 nd:=p.nodup_iff.mpr h.nd
 hd:=p.mem_iff.mpr h.hd
 lt:=fun x hx=>h.lt x (p.mem_iff.mp hx)
 shut:=fun x hx=>⟨p.mem_iff.mpr (h.shut x (p.mem_iff.mp hx)).1,p.mem_iff.mpr (h.shut x (p.mem_iff.mp hx)).2⟩
 least:=fun T h0 hs x hx=>h.least T h0 hs x (p.mem_iff.mp hx)
theorem Z2w.full {n:Nat}{r u:List Nat}{M:List Nat}(s:Z4r n r u)(h:Z2w n r u 0 M):Row n M:=by
 have all:∀ x,x < n->x∈M:=s.conn (fun x=>x∈M) h.hd fun x _ hx=>h.shut x hx
 have l1:=Z16 M (Y04 n) h.nd fun x hx=>Y08.mpr (h.lt x hx)
 have l2:=Z16 (Y04 n) M Y0v fun x hx=>all x (Y08.mp hx)
 simp only[Y0d]at l1 l2
 exact⟨by lia,h.nd,h.lt⟩
def Z45 (r S:List Nat):List Nat:=S.map fun x=>S.idxOf (nx r x)
theorem Zap (r S:List Nat):(Z45 r S).length=S.length:=by simp[Z45]
theorem Zf0 {r S:List Nat}{i:Nat}{x:Nat}(h:S[i]?=some x):nx (Z45 r S) i=S.idxOf (nx r x):=by
 simp[nx,Z45,List.getD,h]
theorem Z9c {S:List Nat}(nd:S.Nodup){i x:Nat}(h:S[i]?=some x):S.idxOf x=i:=by
 obtain⟨hi,e⟩:=Y03.mp h
 have hm:x∈S:=Y0a h
 have h1:=Y1a hm
 have e1:S[S.idxOf x]=x:=List.getElem_idxOf h1
 exact Zha nd h1 hi (e1.trans e.symm)
theorem Z73 {S:List Nat}{x:Nat}(h:x∈S):S[S.idxOf x]?=some x:=by
 have h1:=Y1a h
 rw[Y00 h1,List.getElem_idxOf h1]
theorem Zbv {n:Nat}{r S:List Nat}(hr:Row n r)(nd:S.Nodup)(lt:∀ x∈S,x < n)(cl:∀ x∈S,nx r x∈S):Row S.length (Z45 r S) where
 len:=Zap r S
 nd:=by
  refine Y1w.mpr (List.Pairwise.imp_of_mem (fun {a b} ha hb hne e=>hne ?_) nd)
  have h1:=Z73 (cl a ha)
  rw[e,Z73 (cl b hb)]at h1
  exact hr.inj (lt a ha) (lt b hb) (Option.some.inj h1).symm
 lt:=fun x hx=>by
  obtain⟨y,hy,rfl⟩:=Y0f.mp hx
  exact Y1a (cl y hy)
theorem Zcx {n:Nat}{r u S:List Nat}(hn:n<=36)(hr:Row n r)(hu:Row n u)(h:Z2w n r u 0 S)(so:S.Pairwise (·<=·)):Z4r S.length (Z45 r S) (Z45 u S) where
 pos:=Y2m h.hd
 most:=by
  have:=Z16 S (Y04 n) h.nd fun x hx=>Y08.mpr (h.lt x hx)
  simp only[Y0d]at this; lia
 row:=Zbv hr h.nd h.lt fun x hx=>(h.shut x hx).1
 col:=Zbv hu h.nd h.lt fun x hx=>(h.shut x hx).2
 conn:=fun T h0 hs i hi=>by
  have z:S[0]?=some 0:=by
   cases S with
   | nil=>exact absurd h.hd (by simp)
   | cons a S=>
    rcases Y0j.mp h.hd with e | hm
    ·simp[<-e]
    ·have:=(Y1g.mp so).1 0 hm
     have:a=0:=by lia
     simp[this]
  have key:=h.least (fun x=>x∈S/\T (S.idxOf x)) ⟨h.hd,by rw[Z9c h.nd z]; exact h0⟩ fun x _ ⟨hx,t⟩=>by
   have hlt:=Y1a hx
   have:=hs (S.idxOf x) hlt t
   rw[Zf0 (Z73 hx),Zf0 (Z73 hx)]at this
   exact⟨⟨(h.shut x hx).1,this.1⟩,(h.shut x hx).2,this.2⟩
  have e:S[i]?=some S[i]:=Y00 hi
  have:=(key S[i] (Y10 hi)).2
  rwa [Z9c h.nd e]at this
theorem Z1v:∀ {l l':List Nat},l.Perm l'->l.Pairwise (·<=·)->l'.Pairwise (·<=·)->l=l'
 | [],l',p,_,_=>(List.nil_perm.mp p).symm
 | a :: l,[],p,_,_=>absurd p.length_eq (by simp)
 | a :: l,b :: l',p,h,h'=>by
  have ha:=Y1g.mp h
  have hb:=Y1g.mp h'
  have e:a=b:=by
   have h1:a∈b :: l':=p.mem_iff.mp Y1k
   have h2:b∈a :: l:=p.mem_iff.mpr Y1k
   rcases Y0j.mp h1 with e | h1
   ·exact e
   ·rcases Y0j.mp h2 with e | h2
    ·exact e.symm
    ·have:=hb.1 a h1
     have:=ha.1 b h2
     lia
  subst e
  rw[Z1v (List.Perm.cons_inv p) ha.2 hb.2]
theorem Z3a (n:Nat):(Y04 n).Pairwise (·<=·):=List.Pairwise.imp (fun h=>Y1e h) List.pairwise_lt_range
theorem Row.sorted {n:Nat}{r S:List Nat}(h:Row n r)(p:S.Perm r)(so:S.Pairwise (·<=·)):S=Y04 n:=
 Z1v (p.trans h.perm) so (Z3a n)
end Sq
namespace Sq
def rw4 (r u:List Nat)(c:Nat):List Nat:=match c with
 | 0=>r
 | 1=>back r
 | 2=>u
 | _=>back u
theorem Zd2 {n:Nat}{r u:List Nat}(hr:Row n r)(hu:Row n u)(c:Nat):Row n (rw4 r u c):=by
 unfold rw4; split
 ·exact hr
 ·exact hr.back
 ·exact hu
 ·exact hu.back
def go (r u:List Nat)(x:Nat)(p:List Nat):Nat:=p.foldl (fun x c=>nx (rw4 r u c) x) x
theorem Zow (r u:List Nat)(x:Nat)(p:List Nat)(c:Nat):go r u x (p++[c])=nx (rw4 r u c) (go r u x p):=by simp[go]
structure Pth (n:Nat)(r u:List Nat)(first:Nat)(F:List Nat)(P:List (List Nat))(k j:Nat):Prop where
 nd:F.Nodup
 hd:first∈F
 lt:∀ x∈F,x < n
 len:P.length=F.length
 kle:k<=F.length
 shut:∀ i x,i < k->F[i]?=some x->∀ c,c < 4->nx (rw4 r u c) x∈F
 part:∀ x,F[k]?=some x->∀ c,c < j->nx (rw4 r u c) x∈F
 jz:j=0\/k < F.length
 ok:∀ i x p,F[i]?=some x->P[i]?=some p->go r u first p=x/\p.length<=i/\∀ c∈p,c < 4
variable {n:Nat}{r u:List Nat}{first:Nat}{F:List Nat}{P:List (List Nat)}{k j:Nat}
theorem Pth.start (h:first < n):Pth n r u first [first] [[]] 0 0 where
 nd:=by simp
 hd:=by simp
 lt:=fun x hx=>by rw[Y0g.mp hx]; exact h
 len:=rfl
 kle:=Y0w _
 shut:=fun i x hi=>absurd hi (Y2i _)
 part:=fun x _ c hc=>absurd hc (Y2i _)
 jz:=.inl rfl
 ok:=fun i x p hx hp=>by
  cases i with
  | zero=>simp at hx hp; subst hx hp; simp[go]
  | succ i=>simp at hx
theorem Pth.flen (h:Pth n r u first F P k j):F.length<=n:=by
 have:=Z16 F (Y04 n) h.nd fun x hx=>Y08.mpr (h.lt x hx)
 simpa using this
theorem Pth.old {x:Nat}(h:Pth n r u first F P k j)(hx:F[k]?=some x)(hm:nx (rw4 r u j) x∈F):Pth n r u first F P k (j+1):=
 { h with
  part:=fun y hy c hc=>by
   rw[hx]at hy; cases hy
   rcases Y0z c j with q | q
   ·exact h.part x hx c q
   ·have:c=j:=by omega
    subst this; exact hm
  jz:=.inr (Y03.mp hx).1 }
theorem Pth.new {x:Nat}{p:List Nat}(h:Pth n r u first F P k j)(hr:Row n r)(hu:Row n u)(hj:j < 4)(hx:F[k]?=some x)(hp:P[k]?=some p)(hm:nx (rw4 r u j) x∉F) :
  Pth n r u first (F++[nx (rw4 r u j) x]) (P++[p++[j]]) k (j+1):=by
 have hk:=(Y03.mp hx).1
 have old:∀ i y,i<=k->(F++[nx (rw4 r u j) x])[i]?=some y->F[i]?=some y:=fun i y hi hy=>by
  rwa [Y0t (by omega)]at hy
 refine⟨?_,by simp[h.hd],?_,by simp[h.len],by simp; omega,?_,?_,.inr (by simp; omega),?_⟩
 ·exact Y1y.mpr ⟨h.nd,by simp,fun a ha b hb e=>hm (by rw[Y0g.mp hb]at e; exact e ▸ ha)⟩
 ·intro y hy
  rcases Y0n.mp hy with hy | hy
  ·exact h.lt y hy
  ·rw[Y0g.mp hy]
   exact (Zd2 hr hu j).nlt (h.lt x (Y0a hx))
 ·intro i y hi hy c hc
  exact Y2c _ (h.shut i y hi (old i y (by omega) hy) c hc)
 ·intro y hy c hc
  have hy':=old k y (Y06 _) hy
  rw[hx]at hy'; cases hy'
  rcases Y0z c j with q | q
  ·exact Y2c _ (h.part x hx c q)
  ·have:c=j:=by omega
   subst this; simp
 ·intro i y q hy hq
  rcases Nat.lt_trichotomy i F.length with c | c | c
  ·rw[Y0t c]at hy
   rw[Y0t (by rw[h.len]; exact c)]at hq
   exact h.ok i y q hy hq
  ·subst c
   rw[Y0q (Y06 _)]at hy
   rw[Y0q (by rw[h.len]; exact Y06 _)]at hq
   simp[h.len]at hy hq
   subst hy hq
   obtain⟨a,b,d⟩:=h.ok k x p hx hp
   refine⟨by rw[Zow,a]; simp[nx],by simp; omega,fun c hc=>?_⟩
   rcases Y0n.mp hc with hc | hc
   ·exact d c hc
   ·rw[Y0g.mp hc]; exact hj
  ·rw[Y29 (by simp; omega)]at hy; cases hy
theorem Pth.next {x:Nat}(h:Pth n r u first F P k 4)(hx:F[k]?=some x):Pth n r u first F P (k+1) 0:=
 { h with
  kle:=(Y03.mp hx).1
  shut:=fun i y hi hy c hc=>by
   rcases Y0z i k with q | q
   ·exact h.shut i y q hy c hc
   ·have:i=k:=by omega
    subst this; exact h.part y hy c hc
  part:=fun y _ c hc=>absurd hc (Y2i _)
  jz:=.inl rfl }
structure Z6e (n:Nat)(r u:List Nat)(first:Nat)(F:List Nat)(P:List (List Nat)):Prop where
 nd:F.Nodup
 hd:first∈F
 lt:∀ x∈F,x < n
 len:P.length=F.length
 shut:∀ x∈F,∀ c,c < 4->nx (rw4 r u c) x∈F
 ok:∀ i x p,F[i]?=some x->P[i]?=some p->go r u first p=x/\p.length<=i/\∀ c∈p,c < 4
theorem Pth.all (h:Pth n r u first F P k j)(hk:F.length<=k):Z6e n r u first F P:=
 { h with
  shut:=fun x hx c hc=>by
   obtain⟨i,hi,e⟩:=Y0x.mp hx
   exact h.shut i x (by omega) (by rw[Y00 hi,e]) c hc }
theorem Z6e.full (s:Z4r n r u)(h:Z6e n r u 0 F P):Row n F:=by
 have all:∀ x,x < n->x∈F:=s.conn (fun x=>x∈F) h.hd fun x _ hx=>⟨h.shut x hx 0 (by decide),h.shut x hx 2 (by decide)⟩
 have l1:=Z16 F (Y04 n) h.nd fun x hx=>Y08.mpr (h.lt x hx)
 have l2:=Z16 (Y04 n) F Y0v fun x hx=>all x (Y08.mp hx)
 simp only[Y0d]at l1 l2
 exact⟨by omega,h.nd,h.lt⟩
end Sq
namespace K1
open PySem L2
def top (i:Nat):Stmt:=PySem.Challenge.pw_squaresheet_k92_nothing_seen.main.body.getD i (.Pass ⟨0,0,0,0⟩)
abbrev Zai:Stmt:=top 3
abbrev Z3c:Stmt:=top 18
abbrev Zfb:Stmt:=top 19
abbrev Z5e:Stmt:=top 20
abbrev Z37:Stmt:=top 21
abbrev Z8e:Stmt:=top 22
abbrev Z36:Stmt:=top 23
abbrev Zbs:Stmt:=top 24
abbrev Z48:Stmt:=top 25
abbrev Zay:Stmt:=top 26
abbrev Z8t:Stmt:=top 27
abbrev Z3k:Stmt:=top 28
abbrev Z4z:Stmt:=top 29
abbrev Z8o:Stmt:=top 32
abbrev Zda:Stmt:=top 33
abbrev Z4l:Stmt:=top 34
abbrev Z24:Stmt:=top 35
abbrev Z29:Stmt:=top 36
abbrev Z2r:Stmt:=top 37
abbrev Zf5:Stmt:=top 39
abbrev Zba:Stmt:=top 41
abbrev Znm:Stmt:=top 42
abbrev Z78:Stmt:=top 43
abbrev Zbe:Stmt:=top 44
abbrev Z8a:Stmt:=top 45
abbrev Z4c:Stmt:=top 46
abbrev Z62:Stmt:=top 47
abbrev Z63:Stmt:=top 48
abbrev Zjj:Stmt:=top 49
abbrev Z2h:Stmt:=top 50
abbrev Z49:Stmt:=top 51
abbrev Z4e:Stmt:=top 52
abbrev Z6u:Stmt:=top 53
abbrev Zbj:Stmt:=top 54
abbrev Z5f:Stmt:=top 55
abbrev Zrg:Stmt:=top 56
end K1
namespace K1
open PySem L2 Sq
structure Bi (mg:Str->Option Value):Prop where
 len:mg "len"=none
 range:mg "range"=none
 list:mg "list"=none
 tuple:mg "tuple"=none
 isin:mg "isinstance"=none
 int:mg "int"=none
 bool:mg "bool"=none
 all:mg "all"=none
 set:mg "set"=none
 sorted:mg "sorted"=none
 enum:mg "enumerate"=none
structure Fn (K:Y01)(mg:Str->Option Value)(x:Str)(st:Stmt)(ps:List Str)(f:Addr)(fd:FuncData):Prop where
 F:Fun K x x st f fd
 b:Z6g K fd ps []
 m:mg x=some (.ref f)
def Z44 (K:Y01)(H:Hp)(p:Addr)(r:List Nat):Prop:=SqL K H p (nv r)\/SqT K H p (nv r)
def Zjg (K:Y01):Sp:=fun vs H Q _=>∃ (a:Addr) (ns:List Int) (j:Int),vs=[.ref a,.int j]/\SqL K H a (ns.map V.int)/\0<=j/\Q (.int (ns.getD j.toNat 0)) H
def Zji:Sp:=fun vs H Q _=>∃ i:Int,vs=[.int i]/\Q (.bl true) H
def Zjf:Sp:=fun vs H Q _=>∃ (a:Addr) (r u:List Nat),vs=[.ref a]/\Z7e H a r u/\Q (.int (r.length:Int)) H
def Zbr:Sp:=fun vs H Q _=>∃ i n:Int,vs=[.int i,.int n]/\Q (.bl (decide (0<=i/\i < n))) H
theorem Z0x:bootBuiltins "isinstance"=some (.builtin "isinstance"):=by decide +kernel
theorem Zek:bootBuiltins "int"=some (.type "int"):=by decide +kernel
theorem Zb8:bootBuiltins "bool"=some (.type "bool"):=by decide +kernel
theorem Z1t:bootBuiltins "tuple"=some (.type "tuple"):=by decide +kernel
theorem Z1r:bootBuiltins "list"=some (.type "list"):=by decide +kernel
theorem Za0:bootBuiltins "set"=some (.type "set"):=by decide +kernel
theorem Zen:bootBuiltins "all"=some (.builtin "all"):=by decide +kernel
theorem Z22:bootBuiltins "sorted"=some (.builtin "sorted"):=by decide +kernel
theorem Zkn (xs:List Nat)(k:Nat):(nv xs).eraseIdx k=nv (xs.eraseIdx k):=by
 unfold nv
 induction xs generalizing k with
 | nil=>rfl
 | cons x xs ih=>cases k with
  | zero=>rfl
  | succ k=>simp only[Y0u,List.eraseIdx_cons_succ,ih]
theorem Z02 {H H':Hp}{l:Addr}{o:HO}(e:Z0d H H')(h:H l=none):Z0d H (upd H' l o):=fun b u q=>by
 rw[Z05 (Z06 q h)]; exact e b u q
theorem len2 {α:Type}{l:List α}(h:l.length=2):∃ x y,l=[x,y]:=by
 match l,h with
 | [x,y],_=>exact⟨x,y,rfl⟩
theorem Zj7 {H:Hp}{lf:Addr}{left:List Nat}{x:Int}{Q:VK}(h:H lf=some (.lst (nv left)))(h0:0 < left.length)(h1:left.length<=36)
  (q:∀ (k y:Nat),left[k]?=some y->Q (.int (y:Int)) (upd H lf (.lst (nv (left.eraseIdx k))))):Zlu (.ref lf) [.int (x % ((nv left).length:Int))] H Q:=by
 have hl:=Z0k left
 have a0:0<=x % ((nv left).length:Int):=Int.emod_nonneg _ (by omega)
 have a1:x % ((nv left).length:Int) < ((nv left).length:Int):=Int.emod_lt_of_pos _ (by omega)
 have a2:(x % ((nv left).length:Int)).toNat < left.length:=by omega
 have a3:left[(x % ((nv left).length:Int)).toNat]?=some left[(x % ((nv left).length:Int)).toNat]:=Y00 a2
 refine⟨lf,_,_,(x % ((nv left).length:Int)).toNat,_,rfl,rfl,h,by omega,by omega,seqIndex_of a0 a1,Z14 a3,?_⟩
 rw[Zkn]
 exact q _ _ a3
theorem Z0d.tseq {K:Y01}{H H':Hp}{a:Addr}{xs:List V}(e:Z0d H H')(h:SqT K H a xs):SqT K H' a xs:=by
 rcases h with (h | ⟨o,h⟩) | h
 ·exact .inl (.inl (e _ _ h))
 ·exact .inl (.inr ⟨o,e _ _ h⟩)
 ·exact .inr h
theorem Z44.same {K:Y01}{H H':Hp}{p:Addr}{r:List Nat}(e:Z0d H H')(h:Z44 K H p r):Z44 K H' p r:=h.imp e.seq (Z0d.tseq e)
theorem Zd1 {K:Y01}{H:Hp}{p:Addr}{r:List Nat}{n i:Nat}{Q:VK}(h:Z44 K H p r)(hr:Row n r)(hi:i < n)(q:Q (.int (nx r i:Int)) H):rIx K (.ref p) (.int (i:Int)) H Q:=by
 rcases h with h | h
 ·exact .inl ⟨p,_,_,_,rfl,rfl,h,Z0f (Z14 (hr.get hi)),q⟩
 ·exact .inr (.inl ⟨p,_,_,_,rfl,rfl,h,Z0f (Z14 (hr.get hi)),q⟩)
theorem Zil (xs:List Nat):(nv xs).all Z92=true:=by
 rw[List.all_eq_true]
 intro x hx
 obtain⟨n,_,rfl⟩:=Y0f.mp hx
 rfl
theorem Zmf (x:Nat)(xs:List Nat):inV (.int (x:Int)) (nv xs)=decide (x∈xs):=by
 unfold inV nv
 rw[List.any_map]
 apply Bool.eq_iff_iff.mpr
 rw[List.any_eq_true,decide_eq_true_iff]
 constructor
 ·rintro ⟨y,hy,e⟩
  have:(y:Int)=(x:Int):=by simpa [eqV,Zsi] using e
  have:y=x:=by omega
  rw[<-this]; exact hy
 ·intro h
  exact⟨x,h,by simp[eqV,Zsi]⟩
def mu (j:Nat)(σ:St):Nat:=match σ[j]? with
 | some (some (.int k))=>(100 - k).toNat
 | _=>0
theorem Z3w:∀ (l M:List Nat),(l.foldl put M).length<=M.length+l.length
 | [],M=>Y06 _
 | x :: l,M=>by
  have h1:=Z3w l (put M x)
  have h2:(put M x).length<=M.length+1:=by unfold put; split <;> simp
  simp only[List.foldl_cons,Y1d]; omega
end K1
namespace L2
open PySem PySem.Spec PyProof.Rows
def Its (z:Str):It:=⟨fun i _=>i < z.length,fun i H x H'=>H'=H/\∃ c,z.cps[i]?=some c/\x=.str ⟨#[c]⟩,fun i _=>z.length=i⟩
theorem Zkf {P:Program}{w:World}{K:Y01}{tg:Expr}(it:Addr)(z:Str)(t:Tok):Zjs P w K tg (Its z) [it] it (fun i h=>h.IsStrIter it (strIterType z) z t i):=by
 have W:∀ {A:Around},A.handled=none->Walks P w A it [it] [it] z.cps.size (SignAt z) (fun i h=>h.IsStrIter it (strIterType z) z t i):=by
  intro A hh
  unfold strIterType
  split
  ·exact Walks.strAscii hh it z t
  ·exact Walks.strWide hh it z t
 have hty:["enumerate","zip","dict_itemiterator","dict_reverseitemiterator","odict_iterator","itertools.zip_longest","itertools.pairwise"].contains (strIterType z)=false:=by
  unfold strIterType; split <;> decide
 exact {
  mem:=by simp
  obj:=fun i h st b hb=>by
   have e:b=it:=by simpa using hb
   subst e
   obtain⟨o,e,c,d⟩:=st
   exact⟨o,e,fun v z=>by rw[d]at z; cases z⟩
  keep:=fun i h h' st k=>let ⟨o,ho,r⟩:=st; ⟨o,k it (by simp) o ho,r⟩
  item:=by
   intro X hP hw hK hc i pins s σ H E I hf st hg
   subst hP hw hK
   obtain⟨f0,f1,f2,f3,f4,f5⟩:=hf it (by simp)
   refine (W (I.ok.hd hc)).item i s _ _ hg st fun v h' tk hv st' kk=>?_
   obtain⟨c,u,hc',rfl⟩:=hv
   have I1:Inv X pins σ H { s with heap:=h',toks:=tk }:=I.turned (fun b o hb e=>kk b o (by simpa using hb) e) f0 f1 f3 f4 f5
   obtain⟨o,e,c1,d⟩:=id st'
   exact⟨_,rfl,Zfx (s:={ s with heap:=h',toks:=tk }) e c1 d hty ⟨.str ⟨#[c]⟩,H,I1,⟨_,rfl⟩,⟨rfl,c,hc',rfl⟩,st',fun b hb=>(hf b hb).1⟩⟩
  done:=by
   intro X hP hw hK hc i pins s σ H E I hf st hg
   subst hP hw hK
   obtain⟨f0,f1,f2,f3,f4,f5⟩:=hf it (by simp)
   have hg:z.cps.size=i:=hg
   subst hg
   exact (W (I.ok.hd hc)).done s _ _ st fun h' tk kk=>⟨rfl,I.turned (fun b o hb e=>kk b o (by simpa using hb) e) f0 f1 f3 f4 f5⟩
  self:=fun A i s Q E st h=>by
   obtain⟨o,e,c,d⟩:=id st
   unfold strIterType at st
   split at st
   ·exact wpAny_pyIter_striter_ascii st h
   ·exact wpAny_pyIter_striter_wide st h }
section
variable {X:Cx}{tg:Expr}
def iStr (tl:TE):TI:=fun σ H R=>tl σ H fun x H1=>∃ z,x=.str z/\R (Its z) H1
theorem Zmv {l:Expr}{tl:TE}(hl:PE X l tl):PI X tg l (iStr tl):=by
 intro pins s σ H R I h
 refine thn (hl pins s σ H _ I h) fun v s1 ⟨x,H1,I1,r1,q1⟩=>?_
 obtain⟨z,e,q⟩:=q1
 subst e
 obtain⟨t,rfl⟩:=r1
 refine wpAny_pyIter_strU ?_
 refine⟨s1.heap.objs.size,[s1.heap.objs.size],_,_,H1,rfl,I1.kept (t':=s1.toks) fun b o e=>Y02 _ e,Zkf _ z t,⟨_,Y0b _ rfl,rfl,rfl⟩,fun b hb=>?_,q⟩
 have e:b=s1.heap.objs.size:=by simpa using hb
 subst e
 exact I1.fpOk (Y06 _) (I1.hok.fresh (Y06 _))
theorem Zc2:∀ {zs:List Str} {us:List Value},Z1c (zs.map V.str) us->StrsAre us zs
 | [],_,.nil=>.nil
 | z :: zs,_,.cons ⟨t,e⟩ r=>by subst e; exact .cons z t (Zc2 r)
def Zrd (K:Y01):V->List V->Hp->VK->Prop:=fun x vs H Q=>∃ z p zs,x=.str z/\vs=[.ref p]/\(SqL K H p (zs.map V.str)\/SqT K H p (zs.map V.str))/\(zs.map (·.length)).sum+zs.length * z.length<=16777216/\Q (.str (Txt.join z zs)) H
theorem Zo1:MtM X "str.join" (Zrd X.K):=by
 intro pins s σ H x vs v us Q I rx rv h
 obtain⟨z,p,zs,rfl,rfl,hS,hz,q⟩:=h
 obtain⟨t,rfl⟩:=rx
 obtain⟨u,rfl,ru⟩:=rv.one
 cases ru
 rcases hS with hS | hS
 ·obtain⟨its,rv,pl,_⟩:=I.list hS
  exact join_list pl.isList (by simpa using Zc2 rv) hz fun t' k=>⟨.str (Txt.join z zs),H,I.tok k,⟨_,rfl⟩,q⟩
 ·obtain⟨its,rv,pl,_⟩:=I.tuple hS
  exact join_tuple pl (by simpa using Zc2 rv) hz fun t' k=>⟨.str (Txt.join z zs),H,I.tok k,⟨_,rfl⟩,q⟩
def Ziv:V->List V->Hp->VK->Prop:=fun x vs H Q=>∃ z y,x=.str z/\vs=[.str y]/\Q (.int (match Builtin.Str.occurrences z y 0 z.length 1 with | i :: _=>(i:Int) | []=>-1)) H
def Zr3 (te:TE):TE:=fun σ H Q=>te σ H fun x H1=>∃ i:Int,x=.int i/\i.natAbs.log2 < 1920/\Q (.str (toString i)) H1
theorem Zg9 {e:Expr}{te:TE}{pos:Pos}(he:PE X e te):PE X (.FormattedValue e (-1) none pos) (Zr3 te):=by
 intro pins s σ H Q I h
 refine wpAny_FormattedValue_plain (thn (he pins s σ H _ I h) fun v s1 ⟨x,H1,I1,r1,i,e,hz,q⟩=>?_)
 subst e
 obtain⟨t,rfl⟩:=r1
 exact wpAny_formatField_int hz ⟨.str (toString i),H1,I1.tok _,⟨_,rfl⟩,q⟩
def Zeq:List TE->Str->TE
 | [],acc=>fun _ H Q=>Q (.str acc) H
 | t :: ts,acc=>fun σ H Q=>t σ H fun x H1=>∃ y,x=.str y/\(acc++y).length<=sizeLine/\Zeq ts (acc++y) σ H1 Q
inductive Zbl (X:Cx):List Expr->List TE->Prop
 | nil:Zbl X [] []
 | cons {e:Expr} {t:TE} {es:List Expr} {ts:List TE}:PE X e t->Zbl X es ts->Zbl X (e :: es) (t :: ts)
theorem Z6d (env:Env):∀ es:List Expr,evalEach es env=es.map fun e=>eval e env
 | []=>rfl
 | e :: es=>by
  show eval e env :: evalEach es env=_
  rw[Z6d env es]; rfl
theorem Zdj {pins:List (Addr×Obj)}:∀ {es:List Expr} {ts:List TE} {acc:Str} {s:Shared} {σ:St} {H:Hp} {Q:VK},Zbl X es ts->Inv X pins σ H s->acc.length<=sizeLine->Zeq ts acc σ H Q->
  Joins (model X.prog X.w) X.A X.xe (es.map fun e=>eval e X.env) acc (fun out s₁=>out.length<=sizeLine/\EP X pins σ Q (.str out s₁.toks) { s₁ with toks:=s₁.toks+1 }) s
 | [],_,acc,s,σ,H,Q,.nil,I,hz,h=>⟨hz,.str acc,H,I.tok _,⟨_,rfl⟩,h⟩
 | e :: es,_,acc,s,σ,H,Q,.cons h1 hr,I,hz,h=>by
  refine thn (h1 pins s σ H _ I h) fun v s1 ⟨x,H1,I1,r1,y,ex,hy,q⟩=>?_
  subst ex
  obtain⟨t,rfl⟩:=r1
  exact⟨y,t,rfl,hy,Zdj hr I1 hy q⟩
theorem Zhe {e1 e2:Expr}{es:List Expr}{ts:List TE}{pos:Pos}(h:Zbl X (e1 :: e2 :: es) ts):PE X (.JoinedStr (e1 :: e2 :: es) pos) (Zeq ts Str.empty):=by
 intro pins s σ H Q I hw
 refine wpAny_JoinedStr ?_
 rw[Z6d]
 exact Zdj h I (by decide) hw
end
def Zpa (B:Heap)(e:Addr)(C:Value)(d:Option Addr)(h:Heap):Prop:=
 ∃ oe vs,h.get? e=some oe/\oe.cls=C/\oe.dict=d/\oe.data=.fields vs/\vs[2]?=some .none/\(vs[1]?=some .none\/∃ T oT ts fl,vs[1]?=some (.ref T)/\B.get? T=none/\T≠e/\h.get? T=some oT/\oT.data=.fields ts/\ts[3]?=some fl)
def Zm4 (B:Heap)(e:Addr)(C:Value)(d:Option Addr)(fl:Value)(h:Heap):Prop:=
 ∃ oe vs T oT ts,h.get? e=some oe/\oe.cls=C/\oe.dict=d/\(oe.data=.fields vs/\vs[2]?=some .none)/\vs[1]?=some (.ref T)/\B.get? T=none/\T≠e/\h.get? T=some oT/\oT.data=.fields ts/\ts[3]?=some fl
theorem Zm4.at {B h:Heap}{e:Addr}{C fl:Value}{d:Option Addr}(x:Zm4 B e C d fl h):Zpa B e C d h:=by
 obtain⟨oe,vs,T,oT,ts,h1,h2,h3,h4,h5,h6,h7,h8,h9,h10⟩:=x
 exact⟨oe,vs,h1,h2,h3,h4.1,h4.2,.inr ⟨T,oT,ts,fl,h5,h6,h7,h8,h9,h10⟩⟩
structure Air (B:Heap)(l:List Env)(e:Addr)(h:Heap):Prop where
 stays:B.StaysIn h
 new:B.get? e=none
 frames:h.FunFrames B l
section
variable {M:Model}{A:Around}{E:Value->Shared->Prop}{s:Shared}
theorem Z8f (o:Obj)(f:Array Value->Array Value):(o.mapFields f).dict=o.dict:=by
 obtain⟨c,d,dt,sl⟩:=o
 cases dt <;> rfl
theorem Zah {B:Heap}{env:Env}{outer:List Env}{L e:Addr}{oe:Obj}{vs:Array Value}{head:Value}{had:Bool}{Q:Unit->Shared->Prop}
  (fr:A.frames=some (env :: outer)) (fl:env.frame=some L) (a:Air B (env :: outer) e s.heap) (he:s.heap.get? e=some oe) (hd:oe.data=.fields vs) (hcx:vs[2]?=some .none)
  (q:∀ h',Air B (env :: outer) e h'->Zm4 B e oe.cls oe.dict (rawInt L) h'->s.heap.UpToSlots h'->Q () { s with heap:=h' }) :
  wpAny M A (do let f <-frameOf env; let pl <-entryPlaceOf L had; let b <-EntryCells.newEntry head f .none (rawInt L) .none pl; setField (.ref e) 1 b) Q E s:=by
 have hz2:2 < vs.size:=(Array.getElem?_eq_some_iff.mp hcx).1
 have hz:1 < vs.size:=by omega
 have nfr:e∉(env :: outer).filterMap (·.frame):=fun z=>by
  obtain⟨_,o,ho,hn⟩:=a.frames.mem z
  rw[he]at ho
  cases ho
  exact hn vs hd
 refine wpAny_bind (wpAny_frameOf_fun fr a.frames fl fun h1 so=>?_)
 refine wpAny_bind (wpAny_entryPlaceOf fun pl hpl=>?_)
 unfold EntryCells.newEntry newFields
 refine wpAny_bind (wpAny_newObj_type ?_ (hpl.sizeOk5 _ _ _ _ _))
 have he1:h1.get? e=some oe:=by rw[so.2.1 e nfr]; exact he
 have st1:B.StaysIn h1:=fun b o hb=>by
  rw[so.2.1 b fun z=>by rw[(a.frames.mem z).1]at hb; cases hb]
  exact a.stays b o hb
 generalize hrec:({ cls:=.type "traceback",dict:=none,data:=.fields ([head,.ref L,.none,rawInt L,.none]++(if pl.isEmpty then List.replicate 6 Value.none else pl)).toArray }:Obj)=rec
 have rdat:∃ ts:Array Value,rec.data=.fields ts/\ts[3]?=some (rawInt L):=by
  refine⟨([head,.ref L,.none,rawInt L,.none]++(if pl.isEmpty then List.replicate 6 Value.none else pl)).toArray,by rw[<-hrec],?_⟩
  simp
 obtain⟨ts,rd,r3⟩:=rdat
 have he2:=Y02 (h:=h1) rec he1
 refine wpAny_setField he2 hd hz ?_
 have nT:h1.objs.size≠e:=Nat.ne_of_gt (Y0c he1)
 have dat3:=Obj.data_mapFields hd (·.setIfInBounds 1 (Value.ref h1.objs.size))
 have he3:=Y1v (Obj.mapFields (·.setIfInBounds 1 (Value.ref h1.objs.size))) he2 (Obj.isFreed_of_fields dat3)
 have rnf:rec.isFreed=false:=Obj.isFreed_of_fields rd
 have hT3:((h1.push rec).update e (Obj.mapFields (·.setIfInBounds 1 (Value.ref h1.objs.size)))).get? h1.objs.size=some rec:=by
  rw[Y15 _ _ (Ne.symm nT)]; exact Y0b h1 rnf
 have keep:∀ b o,b≠e->h1.get? b=some o->((h1.push rec).update e (Obj.mapFields (·.setIfInBounds 1 (Value.ref h1.objs.size)))).get? b=some o:=fun b o nb hb=>by
  rw[Y15 _ _ (Ne.symm nb)]; exact Y02 _ hb
 have nrec:∀ b o,s.heap.get? b=some o->(∀ ws,o.data≠.fields ws)->b≠e:=fun b o hb hn z=>by
  rw[z,he]at hb
  cases hb
  exact hn vs hd
 refine q _ ⟨fun b o hb=>keep b o (fun z=>by rw[z,a.new]at hb; cases hb) (st1 b o hb),a.new,a.frames.of_keeps fun b o hb hn=>?_⟩ ?_ fun b o hb hn=>?_
 ·obtain⟨sl,e1⟩:=so.2.2 b o hb
  exact⟨_,keep b _ (nrec b o hb hn) e1,rfl⟩
 ·refine⟨_,_,h1.objs.size,rec,ts,he3,Obj.cls_mapFields _ _,Z8f _ _,⟨dat3,by rw[Array.getElem?_setIfInBounds_ne (by decide)]; exact hcx⟩,by simp[hz],st1.fresh,nT,hT3,rd,r3⟩
 ·obtain⟨sl,e1⟩:=so.2.2 b o hb
  exact⟨sl,keep b _ (nrec b o hb hn) e1⟩
theorem Zdu {B:Heap}{l:List Env}{e T:Addr}{oe oT:Obj}{vs ts:Array Value}{fl v:Value}(a:Air B l e s.heap)(he:s.heap.get? e=some oe)(hd:oe.data=.fields vs)(hcx:vs[2]?=some .none)(h1:vs[1]?=some (.ref T))(nT:B.get? T=none)(nTe:T≠e)
  (hT:s.heap.get? T=some oT) (hdT:oT.data=.fields ts) (h3:ts[3]?=some fl) {Q:Unit->Shared->Prop}
  (q:∀ h',Air B l e h'->h'.get? e=some oe->Zm4 B e oe.cls oe.dict v h'->s.heap.UpToSlots h'->Q () { s with heap:=h' }):wpAny M A (setField (.ref T) 3 v) Q E s:=by
 have z3:3 < ts.size:=(Array.getElem?_eq_some_iff.mp h3).1
 have other:∀ b,b≠T->(s.heap.update T (Obj.mapFields (·.setIfInBounds 3 v))).get? b=s.heap.get? b:=fun b nb=>Y15 _ _ (Ne.symm nb)
 have nrec:∀ b o,s.heap.get? b=some o->(∀ ws,o.data≠.fields ws)->b≠T:=fun b o hb hn z=>by
  rw[z,hT]at hb
  cases hb
  exact hn ts hdT
 have he':=(other e (Ne.symm nTe)).trans he
 refine wpAny_setField hT hdT z3 (q _ ⟨fun b o hb=>?_,a.new,a.frames.of_keeps fun b o hb hn=>⟨o,(other b (nrec b o hb hn)).trans hb,rfl⟩⟩ he' ?_ fun b o hb hn=>⟨o.slots,(other b (nrec b o hb hn)).trans hb⟩)
 ·exact (other b fun z=>by rw[z,nT]at hb; cases hb).trans (a.stays b o hb)
 ·exact⟨oe,vs,T,_,_,he',rfl,rfl,⟨hd,hcx⟩,h1,nT,nTe,Y1v _ hT (Obj.isFreed_of_fields (Obj.data_mapFields hdT _)),Obj.data_mapFields hdT _,by simp[z3]⟩
theorem Zeo {B:Heap}{env:Env}{outer:List Env}{L e:Addr}{C:Value}{d:Option Addr}{Q:Unit->Shared->Prop}(fr:A.frames=some (env :: outer))(fl:env.frame=some L)(a:Air B (env :: outer) e s.heap)(x:Zpa B e C d s.heap)
  (q:∀ h',Air B (env :: outer) e h'->Zm4 B e C d (rawInt L) h'->s.heap.UpToSlots h'->Q () { s with heap:=h' }):wpAny M A (noteFrame (.ref e) env) Q E s:=by
 obtain⟨oe,vs,he,rfl,rfl,hd,hz,hv⟩:=x
 unfold noteFrame
 simp only[fl]
 rcases hv with hv | ⟨T,oT,ts,f0,hv,nT,nTe,hT,hdT,h3⟩
 ·refine wpAny_bind (wpAny_field he hd hv ?_)
  rw[if_neg (by decide)]
  exact Zah fr fl a he hd hz q
 ·refine wpAny_bind (wpAny_field he hd hv ?_)
  rw[if_pos (show (Value.ref T != Value.none)=true from by simp)]
  refine wpAny_bind (wpAny_field hT hdT h3 ?_)
  by_cases e0:(f0 == rawInt L)=true
  ·rw[if_pos e0]
   have e1:f0=rawInt L:=by simpa using e0
   subst e1
   exact wpAny_pure (q s.heap a ⟨oe,vs,T,oT,ts,he,rfl,rfl,⟨hd,hz⟩,hv,nT,nTe,hT,hdT,h3⟩ (Heap.UpToSlots.refl _))
  ·rw[if_neg e0]
   refine wpAny_bind (Zdu a he hd hz hv nT nTe hT hdT h3 fun h1 a1 he1 _ u1=>?_)
   exact Zah (s:={ s with heap:=h1 }) fr fl a1 he1 hd hz fun h2 a2 x2 u2=>q h2 a2 x2 (u1.trans u2)
theorem Z4k {B:Heap}{l:List Env}{e:Addr}{C f0:Value}{d:Option Addr}{o:Option Addr}{Q:Unit->Shared->Prop}(a:Air B l e s.heap)(x:Zm4 B e C d f0 s.heap)
  (q:∀ h',Air B l e h'->Zm4 B e C d (o.elim .none fun f=>rawInt f) h'->s.heap.UpToSlots h'->Q () { s with heap:=h' }):wpAny M A (setFlight (.ref e) o) Q E s:=by
 obtain⟨oe,vs,T,oT,ts,he,rfl,rfl,⟨hd,hcx⟩,hv,nT,nTe,hT,hdT,h3⟩:=x
 unfold setFlight
 refine wpAny_bind (wpAny_field he hd hv ?_)
 rw[if_pos (show (Value.ref T != Value.none)=true from by simp)]
 exact Zdu a he hd hcx hv nT nTe hT hdT h3 fun h' a' _ x' u'=>q h' a' x' u'
theorem Air.tail {B:Heap}{env:Env}{outer:List Env}{e:Addr}{h:Heap}(a:Air B (env :: outer) e h):Air B outer e h:=⟨a.stays,a.new,a.frames.2.2⟩
theorem Z7j {B:Heap}{env:Env}{outer:List Env}{L e:Addr}{C:Value}{d:Option Addr}{Q:Unit->Shared->Prop}(fr:A.frames=some (env :: outer))(fl:env.frame=some L)(a:Air B (env :: outer) e s.heap)(x:Zpa B e C d s.heap)
  (q:∀ h',Air B outer e h'->Zpa B e C d h'->s.heap.UpToSlots h'->Q () { s with heap:=h' }):wpAny M A (leaving env (.ref e)) Q E s:=by
 unfold leaving
 refine wpAny_bind (Zeo fr fl a x fun h1 a1 x1 u1=>?_)
 exact Z4k (s:={ s with heap:=h1 }) a1 x1 fun h2 a2 x2 u2=>q h2 a2.tail x2.at (u1.trans u2)
end
structure UnB (fs:List Addr)(H H':Hp)(h B h':Heap):Prop where
 keep:∀ b o,h.get? b=some o->H b=none->b∉fs->B.get? b=some o
 slot:∀ b o,h.get? b=some o->H b=none->b∈fs->∃ sl,h'.get? b=some { o with slots:=sl }
 free:∀ b o,h.get? b=some o->H b=none->H' b=none
 there:∀ b o,h.get? b=some o->b∉fs->∃ o',B.get? b=some o'
 tups:∀ b xs,H b=some (.tup xs)->H' b=some (.tup xs)
 frzs:∀ b o u,H b=some (.frz o u)->H' b=some (.frz o u)
 tbls:∀ b ps,H b=some (.tbl ps)->∃ more,H' b=some (.tbl (ps++more))
structure Fly (P:Program)(w:World)(outer:List Env)(H:Hp)(s:Shared)(C:Value)(d:Option Addr)(H':Hp)(e:Addr)(s':Shared):Prop where
 os:s'.os=s.os
 bare:AllBare s'.gens
 ex:∃ B,Air B outer e s'.heap/\Zpa B e C d s'.heap/\HOk P w H' B/\UnB (frs outer) H H' s.heap B s'.heap
def CX1 (P:Program)(w:World):CXT:=fun outer H s E ev s'=>∃ e C d H',ev=.ref e/\Fly P w outer H s C d H' e s'/\E C d H'
abbrev vE:List Value:=[.type "ValueError",.type "Exception",.type "BaseException",.type "object"]
def Z8c (K:Y01)(C:Addr):Prop:=PySem.W.excIn K C vE "ValueError.__new__"=true
theorem Z8c.obj {K:Y01}{C:Addr}{h:Heap}(q:Z8c K C)(k:K.In h) :
  ∃ bm N nm qn bs hd sn sub ab col dd k0 k1 k2 k3 k5 mN,h.get? C=some (excClassObj nm qn C N bs bm hd sn sub ab col dd k0 k1 k2 k3 k5 "ValueError.__new__")/\h.Ns N mN/\mN "__init__"=none/\OwnTail h vE bm:=by
 unfold Z8c PySem.W.excIn at q
 split at q
 ·rename_i dd cd sl ho
  split at q
  ·rename_i C1 bm k0 k1 k2 k3 n k5 hm hs
   simp only[Bool.and_eq_true,beq_iff_eq,Bool.not_eq_true']at q
   obtain⟨⟨⟨⟨⟨e1,e2⟩,hdel⟩,ht⟩,hok⟩,hni⟩:=q
   subst e1 e2
   cases cd
   dsimp only at hm hdel hok hni
   subst hm hdel
   have esl:sl=#[k0,k1,k2,k3,some (.builtin "ValueError.__new__"),k5]:=by
    cases sl
    simp only at hs
    rw[hs]
   subst esl
   exact⟨bm,_,_,_,_,_,_,_,_,_,dd,k0,k1,k2,k3,k5,_,k _ _ ho,.of_isNs (PySem.W.isNs_of_in k hok),PySem.W.nsMap_none_of_in k hok hni,PySem.W.tail_of_in k ht⟩
  ·cases q
 ·cases q
def Zmz (X:Cx)(E:XK):Prop:=∀ (pins:List (Addr×Obj)) (σ:St) (H:Hp) (s:Shared) (h':Heap) (e:Addr) (C:Value) (args:List Value),Inv X pins σ H s->Heap.MadeExcOf s.heap h' e C args->E C none H->X.xe (.ref e) { s with heap:=h' }
def Zmx (ta:TA)(C:Addr)(E:XK):TS:=fun _ σ H=>ta σ H fun vs H1=>vs.length<=sizeLine/\E (.ref C) none H1
section
variable {X:Cx}{x:Str}{C:Addr}{e₀:Expr}{rest:List Expr}{ta:TA}{E:XK}{np cpos pos:Pos}
theorem Z6m (hc:X.calm=true)(hC:Z8c X.K C)(hg:Gl X x)(hm:X.mg x=some (.ref C))(ht:Zmz X E)(ha:PA X (e₀ :: rest) ta)(hdb:(x == ("__debug__":Str))=false:=by decide)
  (he:starEach (e₀ :: rest) X.env=(false,eval e₀ X.env) :: starEach rest X.env:=by rfl) (hpl:(backTo cpos (starEach rest X.env)).any (·.1)=false:=by rfl) :
  PS X (.Raise (some (.Call (.Name x np) (e₀ :: rest) [] cpos)) none pos) (Zmx ta C E):=by
 intro pins s σ H D I h
 obtain⟨bm,N,nm,qn,bs,hd,sn,sub,ab,col,dd,k0,k1,k2,k3,k5,mN,oC,nN,ni,TL⟩:=hC.obj I.mod.kin
 have FB:=PySem.F.excBase_ValueError
 refine wpAny_Raise_call_subT (C:=C) (nm:=nm) (q:=qn) (N:=N) (bs:=bs) (bm:=bm) (hdct:=hd) (sn:=sn) (sub:=sub) (ab:=ab) (col:=col) (dd:=dd) (k0:=k0) (k1:=k1) (k2:=k2) (k3:=k3) (k5:=k5)
  FB (mN:=mN) (TL.hasType FB.hasBase) (I.ok.hd hc) (by rw[he]; show (false || (backTo cpos (starEach rest X.env)).any (·.1))=false; rw[hpl]; rfl) ni (Z2y I hg hm ⟨rfl,?_⟩ hdb)
 have hA:=ha cpos pins s σ H _ I h
 rw[he]at hA ⊢
 refine Calls.evalArgs_plain (thn hA fun us s2 ⟨vs,H2,I2,r2,hz,q2⟩=>⟨rfl,by rw[<-r2.length]; exact hz,I2.bk _ _ oC,nN.keeps I2.bk,TL.keeps I2.bk,fun h' e hm=>ht pins σ H2 s2 h' e _ _ I2 hm q2⟩)
end
theorem Zeg {P:Program}{w:World}{H:Hp}{h:Heap}{l:List Addr}(x:HOk P w H h)(fr:∀ b∈l,H b=none):HOk P w H (PySem.W.hideAll h l):=fun b u e=>by
 refine (x b u e).stay (fun c v hc q=>Y2g _ q fun z=>?_) (fun _ q=>q) fun _ _ q=>q
 rcases hc with hc | hc
 ·rw[hc]at z
  rw[fr b z]at e; cases e
 ·rw[fr c z]at hc; cases hc
theorem UnB.un {fs:List Addr}{H H':Hp}{h B h':Heap}(u:UnB fs H H' h B h')(st:B.StaysIn h')(fr:∀ b∈fs,H b=none):Un fs [] H H' h h' where
 keep:=fun b o q n hb _=>st _ _ (u.keep b o q n hb)
 slot:=fun b o q n hb _=>u.slot b o q n hb
 free:=fun b o q n _=>u.free b o q n
 there:=fun b o q _=>by
  by_cases hb:b∈fs
  ·obtain⟨sl,e⟩:=u.slot b o q (fr b hb) hb
   exact⟨_,e⟩
  ·obtain⟨o',e⟩:=u.there b o q hb
   exact⟨o',st _ _ e⟩
 tups:=u.tups
 frzs:=u.frzs
 tbls:=u.tbls
section
variable {P:Program}{w:World}{K:Y01}{mg:Str->Option Value}{base:Heap}{N:List Str}{qual:Str}{scope:Scope}{f:Addr}{cd:Value}{A:Around}{outer:List Env}{s:Shared}{H:Hp}{E E':XK}
theorem Zjt {env:Env}{l:List Env}{L:Addr}(h:env.frame=some L):frs (env :: l)=L :: frs l:=by unfold frs; rw[List.filterMap_cons,h]
theorem UnB.after {X:Cx}{pins:List (Addr×Obj)}{σ:St}{Hc H':Hp}{sc:Shared}{B h' h2:Heap}{e:Addr}(I:Inv X pins σ Hc sc)(hex:X.ex=[])(hst:X.stack=X.env :: X.outer)(hfr:X.env.frame=some X.env.locals)
  (a:Air B X.stack e h') (u:UnB (frs X.stack) Hc H' sc.heap B h') (up:h'.UpToSlots h2):UnB (frs X.outer) X.H₀ H' X.s₀.heap B h2:=by
 have nex:∀ b:Addr,b∉X.ex:=fun b z=>by rw[hex]at z; cases z
 have efr:frs X.stack=X.env.locals :: frs X.outer:=by rw[hst,Zjt hfr]
 have old:∀ b o,X.s₀.heap.get? b=some o->b∉frs X.outer->b∉frs X.stack:=fun b o q hb z=>by
  rw[efr]at z
  rcases Y0j.mp z with z | z
  ·have l1:=Y0c q
   rw[z]at l1
   exact absurd (Y0h l1 I.ok.above) (Y1i _)
  ·exact hb z
 have inn:∀ b,b∈frs X.outer->b∈frs X.stack:=fun b hb=>by rw[efr]; exact Y0r _ hb
 exact {
  keep:=fun b o q n hb=>u.keep b o (I.base.keep b o q n hb (nex b)) (I.base.free b o q n (nex b)) (old b o q hb)
  slot:=fun b o q n hb=>by
   obtain⟨sl,e1⟩:=I.base.slot b o q n hb (nex b)
   obtain⟨sl2,e2⟩:=u.slot b _ e1 (I.base.free b o q n (nex b)) (inn b hb)
   obtain⟨_,o3,e3,nf⟩:=a.frames.mem (inn b hb)
   have:o3={ ({ o with slots:=sl }:Obj) with slots:=sl2 }:=by rw[e2]at e3; exact (Option.some.inj e3).symm
   subst this
   obtain⟨sl3,e4⟩:=up b _ e2 nf
   exact⟨sl3,e4⟩
  free:=fun b o q n=>by
   obtain⟨o1,e1⟩:=I.base.there b o q (nex b)
   exact u.free b o1 e1 (I.base.free b o q n (nex b))
  there:=fun b o q hb=>by
   obtain⟨o1,e1⟩:=I.base.there b o q (nex b)
   exact u.there b o1 e1 (old b o q hb)
  tups:=fun b xs q=>u.tups b xs (I.base.tups b xs q)
  frzs:=fun b o v q=>u.frzs b o v (I.base.frzs b o v q)
  tbls:=fun b ps q=>by
   obtain⟨m1,e1⟩:=I.base.tbls b ps q
   obtain⟨m2,e2⟩:=u.tbls b _ e1
   exact⟨m1++m2,by rw[e2,Array.append_assoc]⟩ }
theorem Ztf (hE:∀ C d H',E' C d H'->E C d H'):Zal (CX1 P w) (Zg4 (CX1 P w) P w K mg base N qual scope f cd A outer s H E) E':=by
 rintro pins σ Hc sc ev s' I ⟨e,C,d,H',rfl,fly,hq⟩
 obtain⟨B,a,x,hok,u⟩:=fly.ex
 refine Z7j (B:=B) (L:=s.heap.objs.size) I.ok.frames rfl a x fun h2 a2 x2 up=>?_
 exact⟨e,C,d,H',rfl,⟨fly.os.trans I.os,fly.bare,B,a2,x2,hok,UnB.after I rfl rfl rfl a u up⟩,hE _ _ _ hq⟩
theorem Zle {X:Cx}{pins:List (Addr×Obj)}{σ:St}{Hc:Hp}{sc:Shared}{h':Heap}{e:Addr}{C:Value}{args:List Value}(I:Inv X pins σ Hc sc)(m:Heap.MadeExcOf sc.heap h' e C args) :
  ∃ B,Air B X.stack e h'/\Zpa B e C none h'/\HOk X.prog X.w Hc B/\UnB (frs X.stack) Hc Hc sc.heap B h':=by
 have fr:=I.stkFree
 refine⟨PySem.W.hideAll sc.heap (frs X.stack),⟨fun b o q=>m.keeps _ _ (PySem.W.of_hideAll _ q),?_,?_⟩,?_,Zeg I.hok fr,?_⟩
 ·cases q:(PySem.W.hideAll sc.heap (frs X.stack)).get? e with
  | none=>rfl
  | some o=>
   have:=PySem.W.of_hideAll _ q
   rw[m.new]at this; cases this
 ·refine (PySem.W.funFrames_hide I.stack fun env he a ha=>List.mem_filterMap.mpr ⟨env,he,ha⟩).of_keeps fun b o q _=>⟨o,m.keeps _ _ q,rfl⟩
 ·obtain⟨t,he,_,_⟩:=m.there
  exact⟨_,_,he,rfl,rfl,rfl,by simp,.inl rfl⟩
 ·exact⟨fun b o q _ hb=>Y2g _ q hb,fun b o q _ _=>⟨o.slots,m.keeps _ _ q⟩,fun _ _ _ n=>n,fun b o q hb=>⟨o,Y2g _ q hb⟩,fun _ _ q=>q,fun _ _ _ q=>q,fun _ ps q=>⟨#[],by simpa using q⟩⟩
theorem Zde:Zmz (Zg4 (CX1 P w) P w K mg base N qual scope f cd A outer s H E) E:=by
 intro pins σ Hc sc h' e C args I m hq
 obtain⟨B,a,x,hok,u⟩:=Zle I m
 refine Z7j (s:={ sc with heap:=h' }) (B:=B) (L:=s.heap.objs.size) I.ok.frames rfl a x fun h2 a2 x2 up=>?_
 exact⟨e,C,none,Hc,rfl,⟨I.os,I.bare,B,a2,x2,hok,UnB.after I rfl rfl rfl a u up⟩,hq⟩
end
theorem Fun.ok1 {P:Program}{w:World}{K:Y01}{mg:Str->Option Value}{base:Heap}{x qual:Str}{st:Stmt}{f:Addr}{fd:FuncData}{N ps:List Str}{k:Nat}{sp:Sp}(F:Fun K x qual st f fd)(S:Z0n N ps (Z08 st))(len:∀ vs H Q E,sp vs H Q E->vs.length=ps.length)
  (hbody:∀ (cdv:Value) (A:Around) (outer:List Env) (s:Shared) (H:Hp) (vs:List V) (Q:VK) (E:XK),Z2d k (A.deeper (envOfC qual (Z08 st) s.heap.objs.size f cdv))->sp vs H Q E->
   ∃ t,PSs (Zg4 (CX1 P w) P w K mg base N qual (Z08 st) f cdv A outer s H E) (Z2n st) t/\t { nx:=fun _ H'=>Q .non H',rt:=Q } (start N vs) H):Z13 P w K mg base (CX1 P w) (k+1) f fd ps sp:=by
 obtain⟨oc,od,kV,doc,pm,an,cdv,ct,osl,rfl,lk,hcd⟩:=F.ex
 exact Zre lk hcd S len fun A outer s H vs Q E hr hsp=>hbody cdv A outer s H vs Q E hr hsp
abbrev Cx.tr (X:Cx)(pn:List (Addr×Obj))(W:Value->Shared->Prop):Cx:={ X with pn:=pn,xe:=W }
abbrev Cx.su (X:Cx)(pn:List (Addr×Obj))(e:Addr):Cx:={ X with A:=X.A.mark (some (.ref e)),calm:=false,pn:=pn,xe:=fun _ _=>False }
section
variable {X:Cx}{pins:List (Addr×Obj)}{σ:St}{H:Hp}{s:Shared}{W:Value->Shared->Prop}{e:Addr}
theorem Inv.tr (I:Inv X pins σ H s):Inv (X.tr (X.pn++pins) W) [] σ H s:=
 ⟨⟨I.ok.mod,I.ok.kind,I.ok.glob,I.ok.blt,I.ok.above,I.ok.inj,I.ok.has,I.ok.cab,I.ok.hd,I.ok.frames,I.ok.stk,I.ok.exf,I.ok.bs,I.ok.bsz,I.ok.noex,I.ok.exfs,I.ok.funs,I.ok.frf⟩,I.os,I.bare,I.base,I.loc,I.cell,I.free,I.freeC,fun p hp=>I.pin p (by simpa using hp),I.hok,I.len⟩
theorem Inv.untr {pins':List (Addr×Obj)}(I:Inv (X.tr (X.pn++pins) W) pins' σ H s):Inv X pins σ H s:=
 ⟨⟨I.ok.mod,I.ok.kind,I.ok.glob,I.ok.blt,I.ok.above,I.ok.inj,I.ok.has,I.ok.cab,I.ok.hd,I.ok.frames,I.ok.stk,I.ok.exf,I.ok.bs,I.ok.bsz,I.ok.noex,I.ok.exfs,I.ok.funs,I.ok.frf⟩,I.os,I.bare,I.base,I.loc,I.cell,I.free,I.freeC,fun p hp=>I.pin p (Y2c _ hp),I.hok,I.len⟩
theorem Inv.su (I:Inv X pins σ H s):Inv (X.su (X.pn++pins) e) [] σ H s:=
 ⟨⟨I.ok.mod,I.ok.kind,I.ok.glob,I.ok.blt,I.ok.above,I.ok.inj,I.ok.has,I.ok.cab,fun z=>(nomatch z),I.ok.frames,I.ok.stk,I.ok.exf,I.ok.bs,I.ok.bsz,I.ok.noex,I.ok.exfs,I.ok.funs,I.ok.frf⟩,I.os,I.bare,I.base,I.loc,I.cell,I.free,I.freeC,fun p hp=>I.pin p (by simpa using hp),I.hok,I.len⟩
theorem Inv.unsu (hc:X.calm=true)(hd:X.A.handled=none){pins':List (Addr×Obj)}(I:Inv (X.su (X.pn++pins) e) pins' σ H s):Inv X pins σ H s:=
 ⟨⟨I.ok.mod,I.ok.kind,I.ok.glob,I.ok.blt,I.ok.above,I.ok.inj,I.ok.has,I.ok.cab,fun _=>hd,I.ok.frames,I.ok.stk,I.ok.exf,I.ok.bs,I.ok.bsz,I.ok.noex,I.ok.exfs,I.ok.funs,I.ok.frf⟩,I.os,I.bare,I.base,I.loc,I.cell,I.free,I.freeC,fun p hp=>I.pin p (Y2c _ hp),I.hok,I.len⟩
theorem Z8z {M:Model}{A:Around}{E:Value->Shared->Prop}{j:Nat}{n:Str}{pos:Pos}{Q:Unit->Shared->Prop}(I:Inv X pins σ H s)(hN:X.N.Nodup)(hj:X.N[j]?=some n)(hx:X.env.scope.names.lookup n=some .local)
  (q:∀ s',Inv X pins (σ.set j none) H s'->Q () s'):wpAny M A (do bindName X.env n .none; unbindBehindTheSuite X.env n pos) Q E s:=by
 obtain⟨m,hn,hl⟩:=id I.loc
 have hcls:(X.env.scope.kind == .class || (X.env.scope.kind == .module && X.env.locals != X.env.globals))=false:=by rw[I.ok.kind]; rfl
 refine wpAny_nameGoes_keeps hx hn hcls fun h' v hn' hs=>?_
 obtain⟨oL,_,_,hoL,_⟩:=id hn
 have ne:∀ b o,X.s₀.heap.get? b=some o->b≠X.env.locals:=fun b o e=>Y0l (Y0h (Y0c e) I.ok.above)
 refine q _ ⟨I.ok,I.os,I.bare,⟨fun b o e n hb hx=>?_,fun b o e n hb hx=>?_,I.base.free,fun b o e hx=>?_,I.base.tups,I.base.frzs,I.base.tbls⟩,⟨_,hn',fun i y v' e1 e2 e3=>?_⟩,fun y c e=>?_,I.free,I.freeC,fun p hp=>?_,fun b ob e=>?_,by simpa using I.len⟩
 ·rw[hs.2 b (ne b o e)]; exact I.base.keep b o e n hb hx
 ·obtain⟨sl,e1⟩:=I.base.slot b o e n hb hx
  exact⟨sl,by rw[hs.2 b (ne b o e)]; exact e1⟩
 ·obtain⟨o',e1⟩:=I.base.there b o e hx
  exact⟨o',by rw[hs.2 b (ne b o e)]; exact e1⟩
 ·have hij:i≠j:=fun z=>by
   rw[z]at e2
   by_cases hlt:j < σ.length
   ·rw[Y2l hlt]at e2; cases e2
   ·rw[Y29 (by simpa using hlt)]at e2; cases e2
  rw[Y2d (Ne.symm hij)]at e2
  obtain⟨u',r',l'⟩:=hl i y v' e1 e2 e3
  refine⟨u',r',?_⟩
  rcases l' with ⟨k,e⟩ | ⟨k,c,e,z⟩
  ·have:y≠n:=fun z=>hij (Za1 hN e1 (z ▸ hj))
   exact .inl ⟨k,by simp[this,e]⟩
  ·exact .inr ⟨k,c,e,z.sameBut hs (I.cne y c e)⟩
 ·obtain⟨w',z⟩:=I.cell y c e
  exact⟨w',z.sameBut hs (I.cne y c e)⟩
 ·obtain⟨e,n,ne',nf,d⟩:=I.pin p hp
  exact⟨by rw[hs.2 p.1 ne']; exact e,n,ne',nf,d⟩
 ·refine (I.hok b ob e).stay (fun c w' hc q=>(hs.2 c ?_).trans q) (fun _ q=>q) fun _ _ q=>q
  intro z
  rcases hc with hc | hc
  ·rw[<-hc,z,I.free]at e; cases e
  ·rw[z,I.free]at hc; cases hc
def exO (e:Addr)(C:Value)(d:Option Addr):HO:=.ext fun h=>∃ o vs,h.get? e=some o/\o.cls=C/\o.dict=d/\o.data=.fields vs/\vs[2]?=some .none
theorem Zrm {P:Program}{w:World}{H:Hp}{h:Heap}{C:Value}{d:Option Addr}(x:∃ o vs,h.get? e=some o/\o.cls=C/\o.dict=d/\o.data=.fields vs/\vs[2]?=some .none):Z1g P w H h e (exO e C d):=by
 obtain⟨o,vs,h1,h2,h3,h4⟩:=id x
 exact⟨x,⟨o,h1⟩,fun g1 g2 ⟨o',vs',q1,q2⟩ k=>⟨o',vs',k _ q1,q2⟩⟩
end
theorem Zfz {M:Model}{A:Around}{E:Value->Shared->Prop}{s:Shared}{K:Y01}{e D:Addr}{o:Obj}{C:Value}{b:Bool}{Q:Bool->Shared->Prop}(k:K.In s.heap)(he:s.heap.get? e=some o)(hc:o.cls=C)
  (h1:PySem.W.typeIn K (.ref D)=some (.type "type")) (h2:(Y2n K D).isSome=true) (h3:Y0m K (.ref D) (.type "BaseException")=some true) (h4:Y0m K C (.ref D)=some b) (q:Q b s):wpAny M A (excMatches (.ref e) (.ref D)) Q E s:=by
 have L1:Y27 M s.heap (typeOf (.ref D)) (.type "type"):=PySem.W.looks_typeIn k h1
 have L2:Y27 M s.heap (isType (.ref D)) true:=by
  unfold Y2n at h2
  split at h2
  ·rename_i ho
   intro A' Q' E' s' kk z
   unfold isType loadHead
   exact wpAny_bind (wpAny_loadPart (kk _ _ (k _ _ ho)) (wpAny_pure z))
  ·cases h2
 have L3:Y27 M s.heap (isSubtype (.ref D) (.type "BaseException")) true:=Y2j k h3
 have L4:Y27 M s.heap (isSubtype C (.ref D)) b:=Y2j k h4
 have L5:Y27 M s.heap (typeOf (.ref e)) C:=hc ▸ (PySem.W.Looks.ld he).andThen .now
 have nt:=tc_notTuple
 unfold excMatches isInstance
 refine wpAny_bind (wpAny_bind (L1.at ?_))
 rw[nt]
 refine wpAny_pure ?_
 refine wpAny_bind (wpAny_pure ?_)
 dsimp only
 refine wpAny_bind ?_
 rw[Y2h]
 unfold isExcClass
 refine wpAny_bind (wpAny_bind (wpAny_bind (L2.at ?_)))
 rw[if_pos rfl]
 refine L3.at ?_
 refine wpAny_pure ?_
 dsimp only
 rw[List.forIn_nil]
 refine wpAny_pure ?_
 refine wpAny_bind (L5.at ?_)
 refine wpAny_bind ?_
 rw[Y2h]
 refine wpAny_bind (wpAny_bind (L4.at ?_))
 cases b with
 | true=>exact wpAny_pure (wpAny_pure (wpAny_pure q))
 | false=>
  refine wpAny_pure ?_
  dsimp only
  rw[List.forIn_nil]
  exact wpAny_pure (wpAny_pure q)
theorem Z1g.obj {P:Program}{w:World}{H:Hp}{h:Heap}{a:Addr}{o:HO}(x:Z1g P w H h a o):∃ ob,h.get? a=some ob:=by
 cases o with
 | lst xs=>obtain⟨_,_,_,_,e⟩:=x; exact⟨_,e⟩
 | tup xs=>obtain⟨_,_,_,ob,e,_⟩:=x; exact⟨_,e⟩
 | dK kvs=>obtain⟨_,_,_,_,o,_,_,e,_⟩:=x; exact⟨_,e⟩
 | dT kvs=>obtain⟨_,_,_,_,o,_,_,e,_⟩:=x; exact⟨_,e⟩
 | set S n=>obtain⟨o,_,_,_,e,_⟩:=x; exact⟨_,e⟩
 | ins C dx fs=>obtain⟨_,_,_,e,_⟩:=x; exact⟨_,e⟩
 | own y=>obtain⟨_,e⟩:=x; exact⟨_,e⟩
 | xd fs=>obtain⟨_,⟨_,_,_,e,_⟩,_⟩:=x; exact⟨_,e⟩
 | rng lo hi=>obtain⟨_,_,_,e⟩:=x; exact⟨_,e⟩
 | frz ob u=>obtain⟨e,_⟩:=x; exact⟨_,e⟩
 | tbl ps=>exact⟨_,(show h.get? a=some _ from x)⟩
 | met f y=>exact⟨_,(show h.get? a=some _ from x)⟩
 | ext φ=>obtain⟨_,⟨_,e⟩,_⟩:=x; exact⟨_,e⟩
structure Zfq (X:Cx)(pins:List (Addr×Obj))(σ:St)(H:Hp)(C:Value)(d:Option Addr)(e:Addr)(s:Shared):Prop where
 ex:∃ Hc sc B fl,Inv X pins σ Hc sc/\s.os=sc.os/\AllBare s.gens/\Air B X.stack e s.heap/\Zm4 B e C d fl s.heap/\HOk X.prog X.w H B/\UnB (frs X.stack) Hc H sc.heap B s.heap
section
variable {X:Cx}{pins:List (Addr×Obj)}{σ:St}{H:Hp}{C:Value}{d:Option Addr}{e:Addr}{s:Shared}
theorem UnB.up {fs:List Addr}{H H':Hp}{h B h1 h2:Heap}{l:List Env}{e:Addr}(u:UnB fs H H' h B h1)(a:Air B l e h1)(hl:frs l=fs)(up:h1.UpToSlots h2):UnB fs H H' h B h2:=
 ⟨u.keep,fun b o q n hb=>by
  obtain⟨sl,e1⟩:=u.slot b o q n hb
  obtain⟨_,o3,e3,nf⟩:=a.frames.mem (show b∈frs l by rw[hl]; exact hb)
  rw[e1]at e3
  cases e3
  obtain⟨sl2,e4⟩:=up b _ e1 nf
  exact⟨sl2,e4⟩,u.free,u.there,u.tups,u.frzs,u.tbls⟩
theorem Zfq.inv (x:Zfq X pins σ H C d e s):Inv X pins σ H s:=by
 obtain⟨Hc,sc,B,fl,I,ho,hb,a,_,hok,u⟩:=x.ex
 exact I.call' (ch:=[]) ho (u.un a.stays I.stkFree) (hok.kept a.stays) hb fun b z=>absurd z (by simp)
theorem Zfq.apart (x:Zfq X pins σ H C d e s):H e=none/\(∀ o,X.s₀.heap.get? e=some o->e∈X.ex)/\e≠X.env.locals/\(∀ y c,X.env.cells.lookup y=some c->c≠e)/\(∀ p∈X.pn++pins,p.1≠e):=by
 obtain⟨Hc,sc,B,fl,I,ho,hb,a,⟨oe,vs,T,oT,ts,he,_,_,⟨hd,_⟩,_⟩,hok,u⟩:=x.ex
 have nfr:e∉frs X.stack:=fun z=>by
  obtain⟨_,o,q,nf⟩:=a.frames.mem z
  rw[he]at q
  cases q
  exact nf _ hd
 have nsc:sc.heap.get? e=none:=by
  cases q:sc.heap.get? e with
  | none=>rfl
  | some o=>
   obtain⟨o',z⟩:=u.there e o q nfr
   rw[a.new]at z; cases z
 refine⟨?_,fun o q=>?_,fun z=>?_,fun y c q z=>?_,fun p hp z=>?_⟩
 ·cases q:H e with
  | none=>rfl
  | some o=>
   obtain⟨ob,z⟩:=(hok e o q).obj
   rw[a.new]at z; cases z
 ·by_cases hx:e∈X.ex
  ·exact hx
  ·obtain⟨o',z⟩:=I.base.there e o q hx
   rw[nsc]at z; cases z
 ·obtain⟨m,⟨o,_,_,q,_⟩,_⟩:=I.loc
  rw[<-z,nsc]at q; cases q
 ·obtain⟨v,o,q2,_⟩:=I.cell y c q
  rw[z,nsc]at q2; cases q2
 ·obtain⟨q,_⟩:=I.pin p hp
  rw[z,nsc]at q; cases q
theorem Zfq.track (x:Zfq X pins σ H C d e s):Inv X pins σ (upd H e (exO e C d)) s:=by
 have I:=x.inv
 obtain⟨n,old,nl,nc,np⟩:=x.apart
 have ob:∃ o vs,s.heap.get? e=some o/\o.cls=C/\o.dict=d/\o.data=.fields vs/\vs[2]?=some .none:=by
  obtain⟨_,_,_,_,_,_,_,_,⟨oe,vs,T,oT,ts,h1,h2,h3,⟨h4,h5⟩,_⟩,_⟩:=x.ex
  exact⟨oe,vs,h1,h2,h3,h4,h5⟩
 refine⟨I.ok,I.os,I.bare,⟨I.base.keep,I.base.slot,fun b o q nb hx=>?_,I.base.there,fun b xs q=>?_,fun b o v q=>?_,fun b ps q=>?_⟩,I.loc,I.cell,?_,fun y c q=>?_,fun p hp=>?_,fun b o q=>?_,I.len⟩
 ·have hbe:b≠e:=fun z=>by
   subst z
   exact hx (old o q)
  rw[Z05 hbe]; exact I.base.free b o q nb hx
 ·have q2:=I.base.tups b xs q
  rw[Z05 (Z06 q2 n)]; exact q2
 ·have q2:=I.base.frzs b o v q
  rw[Z05 (Z06 q2 n)]; exact q2
 ·obtain⟨m,q2⟩:=I.base.tbls b ps q
  exact⟨m,by rw[Z05 (Z06 q2 n)]; exact q2⟩
 ·rw[Z05 (Ne.symm nl)]; exact I.free
 ·rw[Z05 (nc y c q)]; exact I.freeC y c q
 ·obtain⟨q1,q2,q3⟩:=I.pin p hp
  exact⟨q1,by rw[Z05 (np p hp)]; exact q2,q3⟩
 ·by_cases hb:b=e
  ·subst hb
   rw[Z01]at q
   cases q
   exact Zrm ob
  ·rw[Z05 hb]at q
   exact (I.hok b o q).stay (fun _ _ _ z=>z) (fun c z=>by rw[Z05 (Z06 z n)]; exact z) fun c xs z=>by rw[Z05 (Z06 z n)]; exact z
end
abbrev TH:=Value->Option Addr->Z85->St->Hp->Prop
def PH (X:Cx)(hs:List ExceptHandler)(t:TH):Prop:=∀ (pins:List (Addr×Obj)) (s:Shared) (σ:St) (H:Hp) (D:Z85) (C:Value) (d:Option Addr) (e:Addr),Zfq X pins σ H C d e s->t C d D σ H->
 wpAny (model X.prog X.w) X.A (handleBy (.ref e) X.env hs) (SP X pins D) X.xe s
structure Zli (K:Y01)(D:Addr):Prop where
 ty:PySem.W.typeIn K (.ref D)=some (.type "type")
 cl:(Y2n K D).isSome=true
 ex:Y0m K (.ref D) (.type "BaseException")=some true
def hNil:TH:=fun _ _ _ _ _=>False
def Z85.go (D:Z85)(j:Nat):Z85:={ nx:=fun σ H=>D.nx (σ.set j none) H,rt:=D.rt,bk:=fun σ H=>D.bk (σ.set j none) H,ct:=fun σ H=>D.ct (σ.set j none) H }
def hAs (K:Y01)(A:Addr)(j:Nat)(ts:Addr->TS)(tr:TH):TH:=fun C d D σ H=>∃ b,Y0m K C (.ref A)=some b/\if b=true then ∀ e,H e=none->ts e (D.go j) (σ.set j (some (.ref e))) (upd H e (exO e C d)) else tr C d D σ H
section
variable {X:Cx}{x n:Str}{DA:Addr}{j:Nat}{b₀:Stmt}{suite:List Stmt}{ts:Addr->TS}{tr:TH}{np hpos pos:Pos}{rest:List ExceptHandler}
theorem Zm5:PH X [] hNil:=fun _ _ _ _ _ _ _ _ _ h=>h.elim
theorem Ztu (hc:X.calm=true)(hC:Zli X.K DA)(hg:Gl X x)(hm:X.mg x=some (.ref DA))(hN:X.N.Nodup)(hj:X.N[j]?=some n)(hx:X.env.scope.names.lookup n=some .local)(hs:∀ pn e,PSs (X.su pn e) (b₀ :: suite) (ts e))(hr:PH X rest tr)
  (hdb:(x == ("__debug__":Str))=false:=by decide):PH X (.ExceptHandler (some (.Name x np)) (some n) (b₀ :: suite) hpos :: rest) (hAs X.K DA j ts tr):=by
 intro pins s σ H D C d e hl h
 obtain⟨b,hb,h⟩:=h
 have I:=hl.inv
 have Is:Inv (X.su (X.pn++pins) e) [] σ H s:=I.su
 obtain⟨oe,vs,h1,h2,_⟩:∃ o vs,s.heap.get? e=some o/\o.cls=C/\o.dict=d/\o.data=.fields vs/\vs[2]?=some .none:=by
  obtain⟨_,_,_,_,_,_,_,_,⟨oe,vs,T,oT,ts,h1,h2,h3,⟨h4,h5⟩,_⟩,_⟩:=hl.ex
  exact⟨oe,vs,h1,h2,h3,h4,h5⟩
 refine wpAny_handleBy_cons (codeAny_handlers_test (Z2y Is hg hm ?_ hdb)) (by intro q; cases q)
 refine Zfz I.kIn h1 h2 hC.ty hC.cl hC.ex hb ?_
 cases b with
 | false=>exact hr pins s σ H D C d e hl (by simpa using h)
 | true=>
  have h:∀ e,H e=none->ts e (D.go j) (σ.set j (some (.ref e))) (upd H e (exO e C d)):=by simpa using h
  refine codeAny_handlers_suite_as ?_
  obtain⟨Hc,sc,B,f0,I0,ho,hbr,a,xo,hok,u⟩:=hl.ex
  refine Z4k (o:=none) a xo fun h2 a2 x2 up=>?_
  have hl2:Zfq X pins σ H C d e { s with heap:=h2 }:=⟨Hc,sc,B,_,I0,ho,hbr,a2,x2,hok,u.up a rfl up⟩
  have I2:Inv (X.su (X.pn++pins) e) [] σ (upd H e (exO e C d)) { s with heap:=h2 }:=hl2.track.su
  refine Z5j (X:=X.su (X.pn++pins) e) I2 hN hj (.inl hx) (v:=.ref e) rfl (fun s3 I3=>?_) (.inr hx)
  refine wpAny_mono (hs (X.pn++pins) e [] s3 _ _ (D.go j) I3 (h e hl.apart.1)) (fun f s4 hf=>?_) fun _ _ z=>z.elim
  have hd:=I.ok.hd hc
  cases f with
  | next=>
   obtain⟨σ4,H4,I4,q⟩:=hf
   exact Z8z (Inv.unsu hc hd I4) hN hj hx fun s5 I5=>⟨_,H4,I5,q⟩
  | brk=>
   obtain⟨σ4,H4,I4,q⟩:=hf
   exact Z8z (Inv.unsu hc hd I4) hN hj hx fun s5 I5=>⟨_,H4,I5,q⟩
  | cont=>
   obtain⟨σ4,H4,I4,q⟩:=hf
   exact Z8z (Inv.unsu hc hd I4) hN hj hx fun s5 I5=>⟨_,H4,I5,q⟩
  | ret uv=>
   obtain⟨v,σ4,H4,I4,rv,q⟩:=hf
   exact Z8z (Inv.unsu hc hd I4) hN hj hx fun s5 I5=>⟨v,_,H4,I5,rv,q⟩
end
def Z9f (CX:CXT)(X:Cx)(E:XK)(σ:St):Prop:=∀ (pins:List (Addr×Obj)) (H:Hp) (s:Shared) (e:Value) (s':Shared),Inv X pins σ H s->CX X.stack H s E e s'->X.xe e s'
def PE1 (X:Cx)(σ:St)(e:Expr)(t:TE):Prop:=∀ (pins:List (Addr×Obj)) (s:Shared) (H:Hp) (Q:VK),Inv X pins σ H s->t σ H Q->wpAny (model X.prog X.w) X.A (eval e X.env) (EP X pins σ Q) X.xe s
def PS1 (X:Cx)(σ:St)(st:Stmt)(t:TS):Prop:=∀ (pins:List (Addr×Obj)) (s:Shared) (H:Hp) (D:Z85),Inv X pins σ H s->t D σ H->wpAny (model X.prog X.w) X.A (exec st X.env) (SP X pins D) X.xe s
section
variable {X:Cx}{CX:CXT}{k:Nat}{f:Addr}{fd:FuncData}{ps:List Str}{sp:Sp}{dvs:List V}{ds:List Value}{E:XK}{x:Str}{p pos:Pos}{e:Expr}{es:List Expr}{t:TA}{te:TE}{σ:St}
theorem Z97 (F:Z13 X.prog X.w X.K X.mg X.base CX k f fd ps sp)(hr:Z2d k X.A)(hg:Gl X x)(hm:X.mg x=some (.ref f))(hk:Y25 X.K (.ref f)=true)(hb:Z6g X.K fd ps ds)(hd:Z1c dvs ds)(hx:Z9f CX X E σ)
  (ha:PA X (e :: es) t) (hdb:(x == ("__debug__":Str))=false:=by decide) (he:starEach (e :: es) X.env=(false,eval e X.env) :: starEach es X.env:=by rfl) (hpl:(backTo pos (starEach es X.env)).any (·.1)=false:=by rfl) :
  PE1 X σ (.Call (.Name x p) (e :: es) [] pos) (Z2p sp dvs E t):=by
 intro pins s H Q I h
 refine wpAny_Call_Name_kw (Z2y I hg hm ?_ hdb)
 refine PySem.W.callWith_K (h₀:=X.base) I.ok.mod.kin hk (thn (ha pos pins s σ H _ I h) fun us s1 ⟨vs,H1,I1,r,q⟩=>⟨I1.kIn,?_⟩) he hpl
 have r2:Z1c (vs++dvs) (us++ds):=r.append hd
 have hl:(us++ds).length=ps.length:=by rw[<-r2.length]; exact F.len _ _ _ _ q
 refine wpAny_call (codeAny_mono (F.run X.A X.stack s1 H1 ⟨us,[]⟩ (us++ds) (vs++dvs) Q E hr I1.env0 (hb s1 us I1.kIn hl) r2 q) fun r s' hq=>?_)
 cases r with
 | error ev=>exact hx pins H1 s1 ev s' I1 hq
 | ok fl=>
  cases fl with
  | ret u=>exact I1.after hq
  | next=>exact False.elim hq
  | brk=>exact False.elim hq
  | cont=>exact False.elim hq
theorem Znv {i:Nat}{pos':Pos}(hN:X.N.Nodup)(hi:X.N[i]?=some x)(hx:Loc X.env.scope x)(he:PE1 X σ e te)(hs:swapsWith e (some (.Name x pos')) pos.line X.env=pure false:=by rfl)
  (hf:X.fn x=true\/X.env.scope.names.lookup x=some .local:=by first | exact .inl rfl | exact .inr rfl | assumption):PS1 X σ (.Assign [.Name x pos'] e pos) (Zbn te (Z25 i)):=by
 intro pins s H D I h
 refine wpAny_Assign_Name (thn (he pins s H _ I h) fun v s1 ⟨y,H1,I1,r1,q1⟩=>?_) hs
 exact Z5j I1 hN hi hx r1 (fun s2 I2=>⟨_,H1,I2,q1⟩) hf
end
def tTry (tb:XK->TS)(th:TH):TS:=fun D σ H=>∃ E:XK,tb E D σ H/\∀ C d H',E C d H'->th C d D σ H'
theorem SP.untr {X:Cx}{pins:List (Addr×Obj)}{W:Value->Shared->Prop}{D:Z85}{f:Flow}{s:Shared}(h:SP (X.tr (X.pn++pins) W) [] D f s):SP X pins D f s:=by
 cases f with
 | next=>obtain⟨σ,H,I,q⟩:=h; exact⟨σ,H,I.untr,q⟩
 | brk=>obtain⟨σ,H,I,q⟩:=h; exact⟨σ,H,I.untr,q⟩
 | cont=>obtain⟨σ,H,I,q⟩:=h; exact⟨σ,H,I.untr,q⟩
 | ret u=>obtain⟨v,σ,H,I,r,q⟩:=h; exact⟨v,σ,H,I.untr,r,q⟩
theorem Zhr {X:Cx}{st:Stmt}{h₀:ExceptHandler}{hs:List ExceptHandler}{tb:XK->TS}{th:TH}{pos:Pos}(hst:X.stack=X.env :: X.outer)(hfr:X.env.frame=some X.env.locals)
  (hb:∀ E σ pn W,Z9f (CX1 X.prog X.w) (X.tr pn W) E σ->PS1 (X.tr pn W) σ st (tb E)) (hh:PH X (h₀ :: hs) th):PS X (.Try [st] (h₀ :: hs) [] [] pos) (tTry tb th):=by
 intro pins s σ H D I h
 obtain⟨E,hB,hH⟩:=h
 refine wpAny_Try_except ?_
 have pass:Z9f (CX1 X.prog X.w) (X.tr (X.pn++pins) (fun ev s₁=>wpAny (model X.prog X.w) X.A (noteFrame ev X.env) (fun _ s₂=>wpAny (model X.prog X.w) X.A (setFlight ev none) (fun _ s₃=>wpAny (model X.prog X.w) X.A (handleBy ev X.env (h₀ :: hs)) (SP X pins D) X.xe s₃) X.xe s₂) X.xe s₁)) E σ:=by
  rintro pins' Hc sc ev s' Ic ⟨e,C,d,H',rfl,fly,hq⟩
  obtain⟨B,a,x,hok,u⟩:=fly.ex
  have hfrm:X.A.frames=some (X.env :: X.outer):=by rw[I.ok.frames,hst]
  have a':Air B (X.env :: X.outer) e s'.heap:=by rw[<-hst]; exact a
  refine Zeo hfrm hfr a' x fun h1 a1 x1 u1=>?_
  refine Z4k (s:={ s' with heap:=h1 }) (o:=none) a1 x1 fun h2 a2 x2 u2=>?_
  have up:=u1.trans u2
  have hl:Zfq X pins σ H' C d e { s' with heap:=h2 }:=⟨Hc,sc,B,_,Ic.untr,fly.os,fly.bare,by rw[hst]; exact a2,x2,hok,u.up a rfl up⟩
  exact hh pins _ σ H' D C d e hl (hH C d H' hq)
 refine wpAny_execs_cons (wpAny_mono (hb E σ _ _ pass [] s H D I.tr hB) (fun f s1 hf=>?_) fun _ _ z=>z)
 cases f with
 | next=>exact wpAny_execs_nil (wpAny_execs_nil (SP.untr hf))
 | brk=>exact SP.untr hf
 | cont=>exact SP.untr hf
 | ret u=>exact SP.untr hf
structure Zmk (K:Y01)(D:Addr):Prop where
 ga:Y1h K (.ref D) "__getattribute__"=some (some (.builtin "BaseException.__getattribute__"))
 gt:Y1h K (.ref D) "__getattr__"=some none
 cl:(Y2n K D).isSome=true
 be:Y0m K (.ref D) (.type "BaseException")=some true
 ac:Y1h K (.ref D) "__class__"=some (some (.builtin "object.__class__"))
 sp:PySem.W.specialIn K (.builtin "object.__class__") "__get__"=some (some (.builtin "getset_descriptor.__get__"))
 tk:PySem.W.takesIn K (.builtin "object.__class__")=some true
 mo:PySem.W.mroIn K D (.type "object")=some true
section
variable {prog:Program}{w:World}{A:Around}{E:Value->Shared->Prop}{s:Shared}{K:Y01}{x D:Addr}{ox:Obj}{od:Option Obj}{name:Str}
theorem Zj5:(Value.builtin "BaseException.__getattribute__" == Value.builtin "object.__getattribute__")=false:=by decide +kernel
theorem Zh2 {tv:Value}{M:Model}{Q:Unit->Shared->Prop}(k:K.In s.heap)(c:Zmk K D)(I:PySem.W.InstAt s.heap x ox D od)(q:Q () s):wpAny M A (checkBuiltinCall "BaseException.__getattribute__" ⟨[.ref x,tv],[]⟩) Q E s:=by
 obtain⟨hh,g,dr,t,os⟩:=s
 have L0:=I.type (M:=M)
 have L1:=Y2j (M:=M) k c.be
 have hk:builtinKind "BaseException.__getattribute__"=some .slot:=by decide +kernel
 have hsp:splitId "BaseException.__getattribute__"=some ("BaseException","__getattribute__"):=by decide +kernel
 have ha:=PySem.F.args_bexc_ga (.ref x) tv
 simp only[checkBuiltinCall,hk,hsp]
 refine wpAny_bind ?_
 unfold isInstance
 refine wpAny_bind (L0.at ?_)
 refine L1.at ?_
 repeat (any_goals (first | assumption | wp_step))
theorem Zk0 {tk:Tok}{r:Builtin.ObjectAttr.Found}{Q:Fin->Shared->Prop}(k:K.In s.heap)(I:PySem.W.InstAt s.heap x ox D od)(hf:PySem.W.findObj K D od name=some r)
  (h:match r with
   | .value v=>Q (.done (.ret v)) s
   | .bind g a=>wpAny (model prog w) A (call g [a,.ref x,.ref D]) (fun v s'=>Q (.done (.ret v)) s') E s
   | .missing=>False):wpAny (model prog w) A (Builtin.«object.__getattribute__» ⟨[.ref x,.str name tk],[]⟩) Q E s:=by
 obtain⟨hh,g,dr,t,os⟩:=s
 have L0:=I.type (M:=model prog w)
 have L1:=PySem.W.looks_find (M:=model prog w) k I hf
 unfold Builtin.«object.__getattribute__»
 refine wpAny_bind (m:=slotArgs _ _ _) (wpAny_pure ?_)
 refine wpAny_bind (m:=Builtin.ObjectAttr.attrName _) (wpAny_pure ?_)
 refine wpAny_bind (L0.at (wpAny_bind (L1.at ?_)))
 cases r with
 | value v=>exact wpAny_pure h
 | missing=>exact h.elim
 | bind g a=>
  show wpAny _ _ (holding [a] (call g [a,.ref x,.ref D]) >>= ret) _ _ _
  exact wpAny_bind (wpAny_holding (wpAny_mono h (fun v s' z=>wpAny_pure z) fun _ _ z=>z))
theorem Zqq {tk:Tok}{fill expr:Bool}{r:Builtin.ObjectAttr.Found}{Q:Value->Shared->Prop}(k:K.In s.heap)(c:Zmk K D)(I:PySem.W.InstAt s.heap x ox D od)(hf:PySem.W.findObj K D od name=some r)
  (h:match r with
   | .value v=>PySem.W.handedIn v=true/\Q v s
   | .bind g a=>wpAny (model prog w) A.in1 (call g [a,.ref x,.ref D]) (fun v s'=>PySem.W.handedIn v=true/\Q v s') (fun _ _=>False) s
   | .missing=>False):wpAny (model prog w) A (getAttrBy (.ref x) (.str name tk) fill expr) Q E s:=by
 obtain⟨hh,g,dr,t,os⟩:=s
 have L0:=I.type (M:=model prog w)
 have L1:=PySem.W.looks_findIn (M:=model prog w) k c.ga
 have L2:=PySem.W.looks_findIn (M:=model prog w) k c.gt
 have fb:=PySem.F.attr_ValueError.ga.bind (.ref x)
 unfold getAttrBy
 refine wpAny_holding (wpAny_bind (L0.at (wpAny_bind (L1.at ?_))))
 show wpAny _ _ (if (onTheHeap (.ref D) && Value.builtin "BaseException.__getattribute__" == Value.builtin "object.__getattribute__")=true then _ else _) _ _ _
 rw[Zj5,Bool.and_false,if_neg (by decide)]
 unfold getAttrByItsOwn hookBefore
 refine wpAny_bind (L2.at ?_)
 have hx0:(expr && onTheHeap (Value.builtin "BaseException.__getattribute__"))=false:=by cases expr <;> rfl
 unfold callGetattribute
 rw[hx0,if_neg (by decide)]
 unfold boundAndCalled
 refine wpAny_bind (wpAny_attempt (wpAny_holding (wpAny_bind ?_)))
 rw[fb]
 refine wpAny_pure ?_
 refine wpAny_call (codeAny_call_builtin PySem.F.attr_ValueError.ga.plain PySem.F.entry_bexc_ga (Zh2 k c I ?_))
 refine Zk0 k I hf ?_
 cases r with
 | value v=>exact PySem.W.handed_on h.1 h.2
 | missing=>exact h
 | bind g a=>exact wpAny_mono h (fun v s' z=>PySem.W.handed_on z.1 z.2) fun _ _ z=>z.elim
theorem Z9k {a g:Value}(hc:(Y2n K D).isSome=true)(ha:Y1h K (.ref D) name=some (some a))(hg:PySem.W.specialIn K a "__get__"=some (some g))(ht:PySem.W.takesIn K a=some true):PySem.W.findObj K D od name=some (.bind g a):=by
 obtain⟨cd,hcd⟩:=Option.isSome_iff_exists.mp hc
 unfold PySem.W.findObj
 rw[hcd,Option.bind_some,ha,Option.bind_some]
 dsimp only
 rw[hg,Option.bind_some]
 dsimp only
 rw[ht,Option.bind_some]
theorem Zjh {Q:Option Value->Shared->Prop}(k:K.In s.heap)(c:Zmk K D)(I:PySem.W.InstAt s.heap x ox D od)(q:Q (some (.ref D)) { s with toks:=s.toks+1 }):wpAny (model prog w) A (getAttr? (.ref x) "__class__") Q E s:=by
 unfold getAttr? getAttrBy?
 refine wpAny_bind (wpAny_mkText (wpAny_bind (wpAny_attempt ?_)))
 refine Zqq (s:={ s with toks:=s.toks+1 }) k c I (Z9k c.cl c.ac c.sp c.tk) ?_
 exact wpAny_call (PySem.W.class_get (s:={ s with toks:=s.toks+1 }) k I c.mo ⟨rfl,wpAny_pure q⟩)
def ExIs (e:Addr)(D:Addr)(h:Heap):Prop:=∃ ox od,PySem.W.InstAt h e ox D od
theorem Zjv {e:Addr}(c:Zmk K D):PySem.W.KitX K (.ref e) (.ref D) (ExIs e D) where
 ty:=fun M h _ ⟨_,_,I⟩=>I.type
 it:=fun M h k _=>by
  obtain⟨cd,hcd⟩:=Option.isSome_iff_exists.mp c.cl
  unfold Y2n at hcd
  split at hcd
  ·rename_i ho
   intro A' Q' E' s' kk z
   unfold isType loadHead
   exact wpAny_bind (wpAny_loadPart (kk _ _ (k _ _ ho)) (wpAny_pure z))
  ·cases hcd
 ne:=fun h tp dd its n sl k htp=>by
  obtain⟨cd,hcd⟩:=Option.isSome_iff_exists.mp c.cl
  refine Bool.eq_false_iff.mpr fun q=>?_
  have e1:D=tp:=Value.ref.inj (beq_iff_eq.mp q)
  subst e1
  unfold Y2n at hcd
  split at hcd
  ·rename_i ho
   have z:=(k _ _ ho).symm.trans htp
   cases z
  ·cases hcd
 ca:=fun k ⟨_,_,I⟩ q=>Zjh k c I q
end
section
variable {X:Cx}
def clsV:V->Option Value
 | .ty n=>some (.type n)
 | .ref a=>some (.ref a)
 | _=>none
def Zm3 (K:Y01):List V->Hp->VK->Prop:=fun xs H Q=>∃ e c D t b,xs=[.ref e,c]/\clsV c=some t/\H e=some (exO e (.ref D) none)/\Zmk K D/\Y0o K (.ref D) t=some b/\Q (.bl b) H
theorem Z10:Z33 X (.builtin "isinstance") (Zm3 X.K):=by
 intro pins s σ H xs us Q I r h
 obtain⟨e,c,D,t,b,rfl,hc,he,hx,hk,q⟩:=h
 obtain⟨u,w',rfl,ru,rw'⟩:=Zh1 r
 cases ru
 have ew:w'=t:=by
  cases c with
  | ty n=>cases hc; exact rw'
  | ref a=>cases hc; exact rw'
  | _=>cases hc
 subst ew
 obtain⟨⟨o,vs,h1,h2,h3,h4,_⟩,_⟩:=I.hok e _ he
 have ii:PySem.W.InstAt s.heap e o D none:=⟨h1,h2,by unfold PySem.W.notCls; rw[h4],by rw[h3]; trivial⟩
 exact Y1o (Zjv hx) I.kIn ⟨_,_,ii⟩ hk (fun z=>nomatch z) fun tk=>⟨.bl b,H,I.tok tk,rfl,q⟩
end
section
variable {X:Cx}{o e:Expr}{es:List Expr}{to:TE}{t:TA}{name:Str}{id:String}{r:V->List V->Hp->VK->Prop}{apos cpos:Pos}
end
structure Z6q (K:Y01)(D:Addr):Prop where
 ty:PySem.W.typeIn K (.ref D)=some (.type "type")
 cl:PySem.W.isClsIn K D=true
 be:Y0m K (.ref D) (.type "BaseException")=some true
 ga:Y1h K (.ref D) "__getattribute__"=some (some (.builtin "BaseException.__getattribute__"))
 gt:Y1h K (.ref D) "__getattr__"=some none
 ac:Y1h K (.ref D) "__class__"=some (some (.builtin "object.__class__"))
 sp:PySem.W.specialIn K (.builtin "object.__class__") "__get__"=some (some (.builtin "getset_descriptor.__get__"))
 tk:PySem.W.takesIn K (.builtin "object.__class__")=some true
 mo:PySem.W.mroIn K D (.type "object")=some true
theorem Z6q.isCl {K:Y01}{D:Addr}(f:Z6q K D):(Y2n K D).isSome=true:=f.cl
theorem Z6q.h {K:Y01}{D:Addr}(f:Z6q K D):Zli K D:=⟨f.ty,f.isCl,f.be⟩
theorem Z6q.x {K:Y01}{D:Addr}(f:Z6q K D):Zmk K D:=⟨f.ga,f.gt,f.isCl,f.be,f.ac,f.sp,f.tk,f.mo⟩
theorem Z23 {K:Y01}{D A:Addr}{b:Bool}(f:Z6q K A)(h:Y0m K (.ref D) (.ref A)=some b)(n:b=true\/D≠A):Y0o K (.ref D) (.ref A)=some b:=by
 unfold Y0o
 by_cases e:D=A
 ·subst e
  rw[if_pos (by simp)]
  rcases n with n | n
  ·rw[n]
  ·exact absurd rfl n
 ·rw[if_neg (by simpa using e)]
  unfold PySem.W.kitCls
  dsimp only
  rw[if_pos (by rw[f.isCl,f.ty]; decide)]
  exact h
theorem Zqt {K:Y01}{D:Addr}{b:Bool}{T:String}(m:PySem.W.kitMeta T=true)(h:Y0m K (.ref D) (.type T)=some b):Y0o K (.ref D) (.type T)=some b:=by
 unfold Y0o
 rw[if_neg (by intro q; cases beq_iff_eq.mp q)]
 unfold PySem.W.kitCls
 dsimp only
 rw[if_pos m]
 exact h
theorem Z76:PySem.W.kitMeta "ValueError"=true:=by decide +kernel
theorem Z7l:bootBuiltins "ValueError"=some (.type "ValueError"):=by decide +kernel
def Zcy (K:Y01)(C f:Addr):Bool:=match K.lookup C with
 | some ⟨.type "type",_,.cls kl,z⟩=>(match kl.mro,z.toList with
  | .ref C2 :: tl,[_,_,_,_,some (.builtin made),_]=>(C2 == C && made == "ValueError.__new__") && (!kl.hasDel && kl.hasDict) && PySem.W.tailIn K vE tl && PySem.W.nsOkIn K kl.ns && Y0s K kl.ns "__init__" == some (some (.ref f))
  | _,_=>false)
 | _=>false
theorem Zfk {K:Y01}{h:Heap}{N:Addr}{n:Str}{v:Value}(X:K.In h)(ok:PySem.W.nsOkIn K N=true)(e:Y0s K N n=some (some v)):h.nsMap N n=some v:=by
 have G:h.Ns N (h.nsMap N):=.of_isNs (PySem.W.isNs_of_in X ok)
 obtain⟨o,es,ep,ho,hd,_,hf⟩:=G
 unfold Y0s at e
 split at e
 ·rename_i q
  have z:=X _ _ q
  rw[ho]at z
  cases z
  cases hd
  split at e
  ·rename_i he
   cases e
   rw[<-hf]
   unfold nsFind findBy
   rw[<-Array.find?_toList,he]
   rfl
  ·split at e <;> cases e
 ·cases e
theorem Z9j {K:Y01}{C f:Addr}{h:Heap}(q:Zcy K C f=true)(k:K.In h) :
  ∃ bm N nm qn bs sn sub ab col dd k0 k1 k2 k3 k5 mN,h.get? C=some (excClassObj nm qn C N bs bm true sn sub ab col dd k0 k1 k2 k3 k5 "ValueError.__new__")/\h.Ns N mN/\mN "__init__"=some (.ref f)/\OwnTail h vE bm:=by
 unfold Zcy at q
 split at q
 ·rename_i dd cd sl ho
  split at q
  ·rename_i C1 bm k0 k1 k2 k3 n k5 hm hs
   simp only[Bool.and_eq_true,beq_iff_eq,Bool.not_eq_true']at q
   obtain⟨⟨⟨⟨⟨e1,e2⟩,hdel,hdi⟩,ht⟩,hok⟩,hni⟩:=q
   subst e1 e2
   cases cd
   dsimp only at hm hdel hdi hok hni
   subst hm hdel hdi
   have esl:sl=#[k0,k1,k2,k3,some (.builtin "ValueError.__new__"),k5]:=by
    cases sl
    simp only at hs
    rw[hs]
   subst esl
   exact⟨bm,_,_,_,_,_,_,_,_,dd,k0,k1,k2,k3,k5,_,k _ _ ho,.of_isNs (PySem.W.isNs_of_in k hok),Zfk k hok hni,PySem.W.tail_of_in k ht⟩
  ·cases q
 ·cases q
theorem Zcv {h:Heap}{self:Value}{what:Str}{bmB tl:List Value}(T:OwnTail h bmB tl):refuseLoop self what tl=refuseLoop self what bmB:=by
 induction T with
 | base=>rfl
 | own _ _ _ _ ih=>rw[refuseLoop_ref,ih]
section
variable {prog:Program}{w:World}{A:Around}{E:Value->Shared->Prop}{s:Shared}{K:Y01}{C f e:Addr}
theorem Zna {o:Obj}{vs:Array Value}{name:Str}{v:Value}{Q:Unit->Shared->Prop}(X:K.In s.heap)(q:Zcy K C f=true)(he:s.heap.get? e=some o)(hc:o.cls=.ref C)(hd:o.dict=none)(hf:o.data=.fields vs)
  (hs:Y1h K (.ref C) "__setattr__"=some (some (.builtin "object.__setattr__"))) (hm:PySem.W.mroIn K C (.type "object")=some true) (hn:Y1h K (.ref C) name=some none)
  (h:∀ h' tk,h'.Ns1 s.heap.objs.size (fun y=>if y=name then some v else none)->h'.get? e=some { o with dict:=some s.heap.objs.size }->(∀ b ob,b≠e->s.heap.get? b=some ob->h'.get? b=some ob)->Q () { s with heap:=h',toks:=tk }) :
  wpAny (model prog w) A (setAttr (.ref e) name v) Q E s:=by
 obtain⟨bm,N,nm,qn,bs,sn,sub,ab,col,dd,k0,k1,k2,k3,k5,mN,oC,nN,ni,TL⟩:=Z9j q X
 have I:PySem.W.InstAt s.heap e o C none:=⟨he,hc,by unfold PySem.W.notCls; rw[hf],by rw[hd]; trivial⟩
 have SF:=PySem.F.store_object
 refine PySem.W.set_plain X I hs ?_
 have sub:Y27 (model prog w) s.heap (isInstance (.ref e) (.type "object")) true:=I.type.andThen (PySem.W.looks_mroIn X hm)
 refine codeAny_call_builtin SF.slot.plain SF.entry (@PySem.W.check_slot (model prog w) _ _ _ "object.__setattr__" "object" "__setattr__" (.ref e) [.str name s.toks,v] [] _ SF.kind SF.split sub (SF.args (.ref e) (.str name s.toks) v) ?_)
 rw[PySem.W.osa_eq,refuse_eq]
 have I1:=I.type (M:=model prog w)
 have I2:=PySem.W.looks_findIn (M:=model prog w) X hn
 obtain⟨hp,g,dr,tk,os⟩:=s
 dsimp only at *
 refine wpAny_bind (wpAny_bind (I1.at (wpAny_bind (wpAny_mroOf_exc oC ?_))))
 rw[refuseLoop_ref,Zcv TL,PySem.F.store_ValueError.passes]
 refine wpAny_pure (wpAny_bind (I1.at (wpAny_bind (I2.at ?_))))
 refine wpAny_bind (m:=Builtin.ObjectAttr.storeTaker? none) (wpAny_pure ?_)
 dsimp only
 unfold Builtin.ObjectAttr.storeInOwnDict
 refine wpAny_bind (m:=ownStreamTells _ _) (wpAny_pure ?_)
 rw[if_neg (show ¬ (Value.ref C == Value.type "module")=true by intro z; cases beq_iff_eq.mp z)]
 refine wpAny_bind ?_
 show wpAny _ _ (instanceDict e true) _ _ _
 unfold instanceDict
 refine wpAny_bind (wpAny_loadPart_at he ?_)
 obtain⟨oc,od,odt,osl⟩:=o
 dsimp only at hc hd hf
 subst hc hd hf
 dsimp only
 unfold classData
 refine wpAny_bind (wpAny_bind (wpAny_loadPart_at oC (wpAny_pure ?_)))
 rw[if_neg (by simp),if_neg (by simp[typeHasDict])]
 have hx1:=Y02 (h:=hp) { cls:=.type "dict",data:=.dict #[] } he
 have hxs:e≠hp.objs.size:=Y0l (Y0c he)
 refine wpAny_bind (wpAny_alloc (wpAny_bind (wpAny_update hx1 (wpAny_pure ?_))))
 dsimp only
 have hx2:=Y1v (fun o:Obj=>{ cls:=o.cls,dict:=some hp.objs.size,data:=o.data,slots:=o.slots }) hx1 rfl
 have hgd:((hp.push { cls:=.type "dict",data:=.dict #[] }).update e fun o=>{ cls:=o.cls,dict:=some hp.objs.size,data:=o.data,slots:=o.slots }).get? hp.objs.size=some { cls:=.type "dict",data:=.dict #[] }:=
  (Heap.get?_update_ne _ _ _ _ hxs.symm).trans (Heap.get?_push_at rfl rfl)
 unfold Builtin.ObjectAttr.storeInDict Builtin.ObjectAttr.newKeyGuard
 refine wpAny_bind (wpAny_pure (wpAny_bind (wpAny_nsSet1 (Heap.Ns1.of_empty ⟨_,#[],_,hgd,rfl,fun y hy=>absurd hy (by simp),fun _=>rfl⟩) fun h2 hn2 hs2=>?_)))
 obtain⟨oD,esD,epD,hoD,hdD,hcD⟩:=hn2.count (Within.cons name v Within.nil)
 refine wpAny_bind (wpAny_lookBehind hoD (by rw[hdD]; exact pastItsLine_dict (Y17 hcD (by rw[Y1d,List.length_nil,sizeLine_eq]; omega))) ?_)
 refine wpAny_pure (h _ _ hn2 ((hs2.2 e hxs).trans hx2) fun b ob nb hb=>?_)
 exact (hs2.2 b (Y0l (Y0c hb))).trans ((Heap.get?_update_ne _ _ _ _ nb).trans (Y02 _ hb))
theorem Zpf {o:Obj}{vs:Array Value}{v v0:Value}{Q:Value->Shared->Prop}(X:K.In s.heap)(q:Zcy K C f=true)(he:s.heap.get? e=some o)(hc:o.cls=.ref C)(hf:o.data=.fields vs)(hz:vs[0]?=some v0)
  (h:∀ h' t,h'.get? e=some { o with data:=.fields (vs.setIfInBounds 0 (.ref t)) }->(∀ b ob,b≠e->s.heap.get? b=some ob->h'.get? b=some ob)->Q .none { s with heap:=h' }) :
  wpAny (model prog w) A (call (.builtin "ValueError.__init__") [.ref e,v]) Q E s:=by
 obtain⟨bm,N,nm,qn,bs,sn,sub,ab,col,dd,k0,k1,k2,k3,k5,mN,oC,nN,ni,TL⟩:=Z9j q X
 have FB:=PySem.F.excBase_ValueError
 obtain⟨hp,g,dr,tk,os⟩:=s
 dsimp only at *
 refine wpAny_call (codeAny_call_builtin FB.init.plain FB.initEntry (wpAny_check_init_subT FB TL oC he hc ?_))
 have hlt:0 < vs.size:=(Array.getElem?_eq_some_iff.mp hz).1
 have he1:=Y02 (h:=hp) { cls:=.type "tuple",data:=.seq [v].toArray } he
 unfold Builtin.«BaseException.__init__»
 dsimp only
 rw[if_neg (by decide)]
 refine wpAny_bind (wpAny_newTuple ?_)
 refine wpAny_bind ?_
 show wpAny _ _ (field (.ref e) 0 >>= _) _ _ _
 refine wpAny_bind (wpAny_field he1 hf hz (wpAny_bind (wpAny_setField he1 hf hlt ?_)))
 have he2:=Y1v (Obj.mapFields (·.setIfInBounds 0 (Value.ref hp.objs.size))) he1 (Obj.isFreed_of_fields (Obj.data_mapFields hf _))
 have fin:∀ {x:Shared},x=⟨(hp.push { cls:=.type "tuple",data:=.seq [v].toArray }).update e (Obj.mapFields (·.setIfInBounds 0 (Value.ref hp.objs.size))),g,dr,tk,os⟩->Q .none x:=by
  rintro _ rfl
  refine h _ hp.objs.size ?_ fun b ob nb hb=>?_
  ·rw[he2]
   obtain⟨oc,od,odt,osl⟩:=o
   cases hf
   rfl
  ·exact (Y15 _ _ (Ne.symm nb)).trans (Y02 _ hb)
 cases v0 with
 | ref t0=>exact wpAny_letGo (wpAny_pure (fin rfl))
 | _=>exact wpAny_pure (wpAny_pure (fin rfl))
theorem Zkq {rest:List Value}{Q:Value->Shared->Prop}{bm bs:List Value}{N:Addr}{nm qn:Str}{sn:List Str}{sub:List Value}{ab:Bool}{col:Option Bool}{dd:Option Addr}{k0 k1 k2 k3 k5:Option Value}{mN:Str->Option Value}{fo:Obj}
  (oC:s.heap.get? C=some (excClassObj nm qn C N bs bm true sn sub ab col dd k0 k1 k2 k3 k5 "ValueError.__new__")) (nN:s.heap.Ns N mN) (ni:mN "__init__"=some (.ref f)) (TL:OwnTail s.heap vE bm) (hfo:s.heap.get? f=some fo) (hfc:fo.cls=.type "function") (hl:rest.length<=sizeLine)
  (h:∀ h' x,Heap.MadeExcOf s.heap h' x (.ref C) rest->wpAny (model prog w) (A.under (.builtin "type.__call__" ⟨.ref C :: rest,[]⟩)) (call (.ref f) (.ref x :: rest)) (fun r s2=>r=.none/\Q (.ref x) s2) E { s with heap:=h' }) :
  wpAny (model prog w) A (call (.ref C) rest) Q E s:=by
 have FB:=PySem.F.excBase_ValueError
 obtain⟨hp,g,dr,tk,os⟩:=s
 dsimp only at *
 have f1:=tc_lookup
 have f2:=tc_bind (.ref C)
 have hT:(⟨hp,g,dr,tk,os⟩:Shared).TypeIs (.ref C) "type":=⟨_,oC,rfl⟩
 refine wpAny_call (codeAny_of_tree ?_)
 show wpAny _ _ (callAny (.ref C) _) _ _ _
 repeat (any_goals (first | assumption | with_reducible refine wpAny_loadPart_at oC ?_ | wp_step))
 refine⟨rfl,codeAny_call_builtin_at (Code.quiet_builtin _ (by decide +kernel)) entry_typeCall (wpAny_check_type_call_sub oC ?_)⟩
 repeat (first | with_reducible refine wpAny_loadPart_at oC ?_ | with_reducible refine wpAny_madeBy_exc oC ?_ | wp_step)
 refine codeAny_call_builtin_code (Code.quiet_builtin _ FB.quiet) (wpAny_check_new_subT FB TL oC (codeAny_exc_new_subT FB TL oC ?_ hl))
 show wpAny _ _ _ _ _ (⟨(hp.push { cls:=.type "tuple",data:=.seq rest.toArray }).push { cls:=.ref C,data:=.fields #[.ref hp.objs.size,.none,.none,.none,.bool false,.none] },g,dr,tk,os⟩:Shared)
 generalize hh1:((hp.push { cls:=.type "tuple",data:=.seq rest.toArray }).push { cls:=.ref C,data:=.fields #[.ref hp.objs.size,.none,.none,.none,.bool false,.none] })=h1
 have kp:∀ b ob,hp.get? b=some ob->h1.get? b=some ob:=fun b ob hb=>by rw[<-hh1]; exact Y02 _ (Y02 _ hb)
 have hx:h1.get? (hp.objs.size+1)=some { cls:=.ref C,data:=.fields #[.ref hp.objs.size,.none,.none,.none,.bool false,.none] }:=by rw[<-hh1]; heap_get
 have ht:h1.get? hp.objs.size=some { cls:=.type "tuple",data:=.seq rest.toArray }:=by rw[<-hh1]; exact Y02 _ (Heap.get?_push_at rfl rfl)
 have oC1:=kp _ _ oC
 have hcC:(Value.ref C :: bm).contains (.ref C)=true:=by simp
 unfold isInstance
 repeat (first | with_reducible refine wpAny_loadPart_at hx ?_ | (with_reducible refine wpAny_isSubtype_exc oC1 ?_; rw[hcC]) | wp_step)
 show wpAny _ _ (typeLookup (.ref C) _) _ _ _
 refine wpAny_typeLookup_tail oC1 (nN.keeps kp) (TL.keeps kp) FB.mroIs FB.init.lookup ?_
 rw[ni]
 refine wpAny_holding (wpAny_bind ?_)
 unfold bindSpecial
 refine wpAny_bind (wpAny_typeOf (T:="function") ⟨_,kp _ _ hfo,hfc⟩ ?_)
 rw[if_pos (by decide)]
 refine wpAny_pure (wpAny_bind (wpAny_mono (h h1 (hp.objs.size+1) ⟨kp,Heap.get?_none_of_le (Nat.le_succ _),hp.objs.size,hx,Heap.get?_none_of_le (Y06 _),ht⟩) (fun r s2 hr=>?_) fun _ _ z=>z))
 obtain⟨rfl,hQ⟩:=hr
 wp_walk
 exact hQ
theorem Zi0 {x:Sem Value}{env:Env}{Q:Flow->Shared->Prop}(hh:A.handled=none)
  (h:wpAny (model prog w) A x (fun v s1=>∃ e0 o0 bm N nm qn bs sn sub ab col dd k0 k1 k2 k3 k5,v=.ref e0/\s1.heap.get? C=some (excClassObj nm qn C N bs bm true sn sub ab col dd k0 k1 k2 k3 k5 "ValueError.__new__")/\OwnTail s1.heap vE bm/\s1.heap.get? e0=some o0/\o0.cls=.ref C/\(∃ ws,o0.data=.fields ws/\ws[1]?=some .none)/\E (.ref e0) s1) E s) :
  wpAny (model prog w) A (raiseStmt env (some x) none) Q E s:=by
 unfold raiseStmt
 refine wpAny_bind (wpAny_mono h (fun v s1 hv=>?_) fun _ _ z=>z)
 obtain⟨e0,o0,bm,N,nm,qn,bs,sn,sub,ab,col,dd,k0,k1,k2,k3,k5,rfl,oC,TL,he,hc,⟨ws,hw,h1⟩,hE⟩:=hv
 have FB:=PySem.F.excBase_ValueError
 have hb:(Value.ref C :: bm).contains (.type "BaseException")=true:=by rw[List.contains_cons,TL.hasType FB.hasBase,Bool.or_true]
 obtain⟨hp,g,dr,tk,os⟩:=s1
 repeat (first | (with_reducible refine wpAny_loadPart_at he ?_; rw[hc]) | with_reducible refine wpAny_loadPart_at oC ?_ | (with_reducible refine wpAny_isSubtype_exc oC ?_; rw[hb]) | wp_step)
 rw[hw]
 refine wpAny_pure ?_
 rw[h1]
 refine wpAny_pure ?_
 rw[if_neg (by decide)]
 exact wpAny_pure (wpAny_raiseNew_none hh hE)
end
def exN (e:Addr)(C:Value)(d:Option Addr):HO:=.ext fun h=>∃ o vs,h.get? e=some o/\o.cls=C/\o.dict=d/\o.data=.fields vs/\vs[1]?=some .none/\vs[2]?=some .none
theorem Zi5 {P:Program}{w:World}{H:Hp}{h:Heap}{C:Value}{d:Option Addr}{e:Addr}(x:∃ o vs,h.get? e=some o/\o.cls=C/\o.dict=d/\o.data=.fields vs/\vs[1]?=some .none/\vs[2]?=some .none):Z1g P w H h e (exN e C d):=by
 obtain⟨o,vs,h1,h2⟩:=id x
 exact⟨x,⟨o,h1⟩,fun g1 g2 ⟨o',vs',q1,q2⟩ k=>⟨o',vs',k _ q1,q2⟩⟩
theorem Zqp {H:Hp}{a:Addr}{o:HO}(h:H a=some o):upd H a o=H:=by
 funext b
 unfold upd
 split
 ·rename_i e; rw[e,h]
 ·rfl
structure Zth (K:Y01)(S:Addr):Prop where
 rd:PySem.W.readsIn K S (.type "type")=true
 fc:PySem.W.findCls K (.ref S) (.type "type") "__init__"=some (.val (.builtin "ValueError.__init__"))
 sp:PySem.W.specialIn K (.ref S) "__getattribute__"=some (some (.builtin "type.__getattribute__"))
structure Zrv (K:Y01)(C f:Addr)(name:Str):Prop where
 ex:Zcy K C f=true
 sa:Y1h K (.ref C) "__setattr__"=some (some (.builtin "object.__setattr__"))
 mo:PySem.W.mroIn K C (.type "object")=some true
 na:Y1h K (.ref C) name=some none
 kp:Y25 K (.ref C)=true
 fn:PySem.W.typeIn K (.ref f)=some (.type "function")
def Zty (C:Addr)(ta:TA):TE:=fun σ H Q=>ta σ H fun vs H1=>∃ e v d,vs=[.ref e,v]/\H1 e=some (exN e (.ref C) d)/\Q .non H1
def Ztl (C:Addr)(ta tv:TE)(f:Str):TS:=fun D σ H=>tv σ H fun y H1=>ta σ H1 fun x H2=>∃ e,x=.ref e/\H2 e=some (exN e (.ref C) none)/\∀ dx,H2 dx=none->dx≠e->D.nx σ (upd (upd H2 dx (.xd [(f,y)])) e (exN e (.ref C) (some dx)))
section
variable {X:Cx}{C SA fI:Addr}{x name:Str}{e₀ o value:Expr}{es:List Expr}{ta tv:TE}{t:TA}{np apos pos pos':Pos}
theorem Znf {pl:Sem Bool}(q:Zcy X.K C fI=true)(S:Zth X.K SA)(hg:Gl X x)(hm:X.mg x=some (.ref SA))(ha:PA X (e₀ :: es) t)(hdb:(x == ("__debug__":Str))=false:=by decide)
  (hst:starEach (e₀ :: es) X.env=(false,eval e₀ X.env) :: starEach es X.env:=by rfl) (hpl:(backTo pos (starEach es X.env)).any (·.1)=false:=by rfl)
  (ht:eval (.Call (.Attribute (.Name x np) "__init__" apos) (e₀ :: es) [] pos) X.env=(do
   let ov <-eval (.Name x np) X.env
   standAt apos.atName
   let (g,first) <-holding [ov] (getMethod ov "__init__" pl)
   callWith pos g first (backTo pos (starEach (e₀ :: es) X.env)) (backToKw pos (keywordEach [] X.env))):=by rfl) :
  PE X (.Call (.Attribute (.Name x np) "__init__" apos) (e₀ :: es) [] pos) (Zty C t):=by
 intro pins s σ H Q I h
 refine PySem.W.methodCall_KW (pl:=pl) (Z2y I hg hm ?_ hdb) ht
 refine PySem.W.method_cls I.kIn S.sp (PySem.W.cls_value I.kIn S.rd S.fc rfl ?_)
 refine PyProof.Rows.callWith_builtin1 (thn (ha pos pins _ σ H _ (I.tok _) h) fun us s2 ⟨vs,H2,I2,r,e,v,d,ev,he,q2⟩=>?_) hst hpl
 subst ev
 obtain⟨u1,u2,rfl,r1,r2⟩:=Zh1 r
 obtain rfl:u1=Value.ref e:=r1
 obtain⟨⟨o,ws,h1,h2,h3,h4,h5,h6⟩,_⟩:=I2.hok e _ he
 have z1:1 < ws.size:=(Array.getElem?_eq_some_iff.mp h5).1
 have hz:ws[0]?=some ws[0]:=Array.getElem?_eq_getElem (by omega)
 refine Zpf I2.kIn q h1 h2 h4 hz fun h' t0 he' hk=>⟨.non,H2,?_,rfl,q2⟩
 have W:=I2.write (x:=e) (e:=e) (o:=exN e (.ref C) d) (t':=s2.toks) (h':=h') (by rw[he]; exact True.intro) (.inl rfl) hk ⟨_,he'⟩ (Zi5 ⟨_,_,he',h2,h3,rfl,by rw[Array.getElem?_setIfInBounds_ne (by decide)]; exact h5,by rw[Array.getElem?_setIfInBounds_ne (by decide)]; exact h6⟩)
 rw[Zqp he]at W
 exact W
theorem Zta {pins:List (Addr×Obj)}{σ:St}{H:Hp}{s:Shared}{h':Heap}{tk:Nat}{e:Addr}{u:Value}{y:V}(I:Inv X pins σ H s)(he:H e=some (exN e (.ref C) none))(ry:Z1p y u)
  (n1:h'.Ns1 s.heap.objs.size (fun z=>if z=name then some u else none)) (h1:∃ o vs,h'.get? e=some o/\o.cls=.ref C/\o.dict=some s.heap.objs.size/\o.data=.fields vs/\vs[1]?=some .none/\vs[2]?=some .none) (hk:∀ b ob,b≠e->s.heap.get? b=some ob->h'.get? b=some ob) :
  Inv X pins σ (upd (upd H s.heap.objs.size (.xd [(name,y)])) e (exN e (.ref C) (some s.heap.objs.size))) { s with heap:=h',toks:=tk }:=by
 have fr:H s.heap.objs.size=none:=I.hok.fresh (Y06 _)
 have ne:s.heap.objs.size≠e:=fun z=>by rw[z,he]at fr; cases fr
 have nd:∀ b ob,s.heap.get? b=some ob->b≠s.heap.objs.size:=fun b ob q=>Y0l (Y0c q)
 have oth:∀ b,b≠e->b≠s.heap.objs.size->(upd (upd H s.heap.objs.size (.xd [(name,y)])) e (exN e (.ref C) (some s.heap.objs.size))) b=H b:=fun b z1 z2=>by rw[Z05 z1,Z05 z2]
 have nn:∀ b u,H b=some u->b≠s.heap.objs.size:=fun b u q z=>by rw[z,fr]at q; cases q
 have nx:∀ b u,H b=some u->u≠exN e (.ref C) none->b≠e:=fun b u q z1 z=>by rw[z,he]at q; exact z1 (Option.some.inj q).symm
 refine I.un ⟨fun b ob q n _ _=>hk b ob (fun z=>by rw[z,he]at n; cases n) q,fun b ob q n _ _=>⟨ob.slots,hk b ob (fun z=>by rw[z,he]at n; cases n) q⟩,fun b ob q n _=>?_,fun b ob q _=>?_,fun b xs q=>?_,fun b o v q=>?_,fun b ps q=>?_⟩ fun b v q=>?_
 ·rw[oth b (fun z=>by rw[z,he]at n; cases n) (nd b ob q)]; exact n
 ·by_cases z:b=e
  ·obtain⟨o,_,q1,_⟩:=h1
   exact⟨o,by rw[z]; exact q1⟩
  ·exact⟨ob,hk b ob z q⟩
 ·rw[oth b (nx b _ q (fun z=>by cases z)) (nn b _ q)]; exact q
 ·rw[oth b (nx b _ q (fun z=>by cases z)) (nn b _ q)]; exact q
 ·exact⟨#[],by rw[oth b (nx b _ q (fun z=>by cases z)) (nn b _ q),q]; simp⟩
 ·by_cases ze:b=e
  ·subst ze
   rw[Z01]at q
   cases q
   exact Zi5 h1
  ·by_cases zd:b=s.heap.objs.size
   ·subst zd
    rw[Z05 ze,Z01]at q
    cases q
    refine⟨_,n1,fun f=>?_⟩
    show Zdf (List.lookup f [(name,y)]) _
    by_cases zf:f=name
    ·have hb:(f == name)=true:=beq_iff_eq.mpr zf
     simp only[List.lookup,hb,if_pos zf]
     exact ry
    ·have hb:(f == name)=false:=by simpa using zf
     simp only[List.lookup,hb,if_neg zf]
     trivial
   ·rw[oth b ze zd]at q
    refine (I.hok b v q).stay (fun c ob hc r=>hk c ob (fun z=>?_) r) (fun c r=>?_) fun c xs r=>?_
    ·rcases hc with hc | hc
     ·exact ze (hc.symm.trans z)
     ·exact nx c _ hc (fun z=>by cases z) z
    ·rw[oth c (nx c _ r (fun z=>by cases z)) (nn c _ r)]; exact r
    ·rw[oth c (nx c _ r (fun z=>by cases z)) (nn c _ r)]; exact r
theorem Zn0 (N:Zrv X.K C fI name)(ha:PE X o ta)(hv:PE X value tv)(hs:swapsWith value (some (.Attribute o name pos')) pos.line X.env=pure false):PS X (.Assign [.Attribute o name pos'] value pos) (Ztl C ta tv name):=by
 intro pins s σ H D I h
 refine plainObj_wpAny_Assign_Attribute (thn (hv pins s σ H _ I h) fun u s1 ⟨y,H1,I1,ry,q⟩=>thn (ha pins s1 σ H1 _ I1 q) fun ov s2 ⟨x,H2,I2,rx,e,ex,he,q2⟩=>?_) hs
 subst ex
 obtain rfl:ov=Value.ref e:=rx
 obtain⟨⟨o,ws,h1,h2,h3,h4,h5,h6⟩,_⟩:=I2.hok e _ he
 have fr:H2 s2.heap.objs.size=none:=I2.hok.fresh (Y06 _)
 refine Zna I2.kIn N.ex h1 h2 h3 h4 N.sa N.mo N.na fun h' tk n1 he' hk=>⟨σ,_,Zta I2 he ry n1 ⟨_,_,he',h2,rfl,h4,h5,h6⟩ hk,q2 _ fr fun z=>by rw[z,he]at fr; cases fr⟩
end
def unt (H:Hp)(e:Addr):Hp:=fun b=>if b=e then none else H b
theorem Zbx {H:Hp}{e b:Addr}(h:b≠e):unt H e b=H b:=by unfold unt; rw[if_neg h]
theorem Z6p {H:Hp}{e:Addr}:unt H e e=none:=by unfold unt; rw[if_pos rfl]
def Zgl (X:Cx)(E:XK):Prop:=∀ (pins:List (Addr×Obj)) (σ:St) (H H2:Hp) (s s2:Shared) (h1:Heap) (e:Addr) (C:Value) (d:Option Addr) (args:List Value),Inv X pins σ H s->Heap.MadeExcOf s.heap h1 e C args->Un (frs X.stack) [] (upd H e (exN e C none)) H2 h1 s2.heap->
 HOk X.prog X.w H2 s2.heap->Inv X pins σ H2 s2->H2 e=some (exN e C d)->s2.os=s.os->AllBare s2.gens->E C d (unt H2 e)->X.xe (.ref e) s2
theorem Ztb {X:Cx}{pins:List (Addr×Obj)}{σ:St}{H H2:Hp}{s s2:Shared}{h1:Heap}{e:Addr}{C:Value}{d:Option Addr}{args:List Value}(I:Inv X pins σ H s)(m:Heap.MadeExcOf s.heap h1 e C args)(u:Un (frs X.stack) [] (upd H e (exN e C none)) H2 h1 s2.heap)
  (hok:HOk X.prog X.w H2 s2.heap) (I2:Inv X pins σ H2 s2) (he:H2 e=some (exN e C d)):∃ B,Air B X.stack e s2.heap/\Zpa B e C d s2.heap/\HOk X.prog X.w (unt H2 e) B/\UnB (frs X.stack) H (unt H2 e) s.heap B s2.heap:=by
 have hn:H e=none:=by
  cases q:H e with
  | none=>rfl
  | some o=>
   obtain⟨ob,z⟩:=(I.hok e o q).obj
   rw[m.new]at z; cases z
 have old:∀ b ob,s.heap.get? b=some ob->b≠e:=fun b ob q z=>by rw[z,m.new]at q; cases q
 have hin:∀ b v,H b=some v->b≠e:=fun b v q z=>by rw[z,hn]at q; cases q
 have up:∀ b,b≠e->(upd H e (exN e C none)) b=H b:=fun b z=>Z05 z
 have keepT:∀ b v,H2 b=some v->v≠exN e C d->unt H2 e b=some v:=fun b v q z=>by
  rw[Zbx (fun w=>by rw[w,he]at q; exact z (Option.some.inj q).symm)]; exact q
 have hok2:HOk X.prog X.w (unt H2 e) s2.heap:=fun b v q=>by
  have nb:b≠e:=fun z=>by rw[z,Z6p]at q; cases q
  rw[Zbx nb]at q
  exact (hok b v q).stay (fun _ _ _ r=>r) (fun c r=>keepT c _ r (fun z=>by cases z)) fun c xs r=>keepT c _ r (fun z=>by cases z)
 refine⟨PySem.W.hideAll s2.heap (e :: frs X.stack),⟨fun b o q=>PySem.W.of_hideAll _ q,PySem.W.hideAll_none _ (.head _),PySem.W.funFrames_hide I2.stack fun env hv a ha=>.tail _ (List.mem_filterMap.mpr ⟨env,hv,ha⟩)⟩,?_,Zeg hok2 (fun b hb=>?_),?_⟩
 ·obtain⟨⟨o,vs,q1,q2,q3,q4,q5,q6⟩,_⟩:=hok e _ he
  exact⟨o,vs,q1,q2,q3,q4,q6,.inl q5⟩
 ·rcases Y0j.mp hb with z | z
  ·rw[z]; exact Z6p
  ·by_cases w:b=e
   ·rw[w]; exact Z6p
   ·rw[Zbx w]; exact I2.stkFree b z
 ·have nm:∀ b ob,s.heap.get? b=some ob->b∉frs X.stack->b∉e :: frs X.stack:=fun b ob q hb z=>(Y0j.mp z).elim (old b ob q) hb
  refine⟨fun b o q n hb=>?_,fun b o q n hb=>?_,fun b o q n=>?_,fun b o q hb=>?_,fun b xs q=>?_,fun b o v q=>?_,fun b ps q=>?_⟩
  ·exact Y2g _ (u.keep b o (m.keeps _ _ q) (by rw[up b (old b o q)]; exact n) hb (by simp)) (nm b o q hb)
  ·exact u.slot b o (m.keeps _ _ q) (by rw[up b (old b o q)]; exact n) hb (by simp)
  ·rw[Zbx (old b o q)]
   exact u.free b o (m.keeps _ _ q) (by rw[up b (old b o q)]; exact n) (by simp)
  ·obtain⟨o',z⟩:=u.there b o (m.keeps _ _ q) (by simp)
   exact⟨o',Y2g _ z (nm b o q hb)⟩
  ·exact keepT b _ (u.tups b xs (by rw[up b (hin b _ q)]; exact q)) (fun z=>by cases z)
  ·exact keepT b _ (u.frzs b o v (by rw[up b (hin b _ q)]; exact q)) (fun z=>by cases z)
  ·obtain⟨more,z⟩:=u.tbls b ps (by rw[up b (hin b _ q)]; exact q)
   exact⟨more,keepT b _ z (fun z=>by cases z)⟩
theorem Zov {P:Program}{w:World}{K:Y01}{mg:Str->Option Value}{base:Heap}{N:List Str}{qual:Str}{scope:Scope}{f:Addr}{cd:Value}{A:Around}{outer:List Env}{s:Shared}{H:Hp}{E:XK}:Zgl (Zg4 (CX1 P w) P w K mg base N qual scope f cd A outer s H E) E:=by
 intro pins σ Hc H2 sc s2 h1 e C d args I m u hok I2 he hos hb hq
 obtain⟨B,a,x,hok',u'⟩:=Ztb I m u hok I2 he
 refine Z7j (s:=s2) (B:=B) (L:=s.heap.objs.size) I.ok.frames rfl a x fun h2 a2 x2 up=>?_
 exact⟨e,C,d,_,rfl,⟨hos.trans I.os,hb,B,a2,x2,hok',UnB.after I rfl rfl rfl a u' up⟩,hq⟩
def Zdc (C:Addr)(name:Str)(ok:V->Prop):Sp:=fun vs H Q _=>∃ e v,vs=[.ref e,v]/\ok v/\H e=some (exN e (.ref C) none)/\∀ dx,H dx=none->dx≠e->Q .non (upd (upd H dx (.xd [(name,v)])) e (exN e (.ref C) (some dx)))
def Zoh (t:TA)(C:Addr)(name:Str)(ok:V->Prop)(E:XK):TS:=fun _ σ H=>t σ H fun vs H1=>∃ v,vs=[v]/\ok v/\∀ dx H2,H1 dx=none->H2=upd H1 dx (.xd [(name,v)])->E (.ref C) (some dx) H2
section
variable {X:Cx}{C fI:Addr}{x name p1 p2:Str}{e₀:Expr}{rest:List Expr}{t:TA}{E:XK}{np cpos pos:Pos}{k:Nat}{fd:FuncData}{ok:V->Prop}
theorem Zj2 (hc:X.calm=true)(N:Zrv X.K C fI name)(hg:Gl X x)(hm:X.mg x=some (.ref C))(F:Z13 X.prog X.w X.K X.mg X.base CX0 k fI fd [p1,p2] (Zdc C name ok))(hb:Z6g X.K fd [p1,p2] [])(hr:Z2d (k+1) X.A)(ht:Zgl X E)(ha:PA X (e₀ :: rest) t)
  (hdb:(x == ("__debug__":Str))=false:=by decide) (he:starEach (e₀ :: rest) X.env=(false,eval e₀ X.env) :: starEach rest X.env:=by rfl) (hpl:(backTo cpos (starEach rest X.env)).any (·.1)=false:=by rfl) :
  PS X (.Raise (some (.Call (.Name x np) (e₀ :: rest) [] cpos)) none pos) (Zoh t C name ok E):=by
 intro pins s σ H D I h
 rw[arm_exec_Raise]
 refine wpAny_bind (wpAny_standAt (Zi0 (C:=C) (I.ok.hd hc) (wpAny_bind (wpAny_mono (wpAny_Call_Name_kw (Z2y I hg hm ?_ hdb)) (fun v s3 h3=>wpAny_bind (wpAny_standAt (wpAny_pure h3))) fun _ _ z=>z))))
 refine PySem.W.callWith_K (h₀:=X.base) I.ok.mod.kin N.kp (thn (ha cpos pins s σ H _ I h) fun us s1 ⟨vs,H1,I1,r,v,ev,hok0,q⟩=>⟨I1.kIn,?_⟩) he hpl
 subst ev
 obtain⟨u,rfl,ru⟩:=Z3l r
 obtain⟨bm,N',nm,qn,bs,sn,sub,ab,col,dd,k0,k1,k2,k3,k5,mN,oC,nN,ni,TL⟩:=Z9j N.ex I1.kIn
 obtain⟨fo,hfo,hfc⟩:∃ fo,s1.heap.get? fI=some fo/\fo.cls=.type "function":=by
  have z:=N.fn
  unfold PySem.W.typeIn at z
  dsimp only at z
  obtain⟨fo,z1,z2⟩:=Option.map_eq_some_iff.mp z
  exact⟨fo,I1.kIn _ _ z1,z2⟩
 refine Zkq oC nN ni TL hfo hfc (by simp[sizeLine_eq]) fun h1 e m=>?_
 have hn:H1 e=none:=by
  cases z:H1 e with
  | none=>rfl
  | some o=>
   obtain⟨ob,w⟩:=(I1.hok e o z).obj
   rw[m.new]at w; cases w
 have old:∀ b ob,s1.heap.get? b=some ob->b≠e:=fun b ob q z=>by rw[z,m.new]at q; cases q
 have hin:∀ b v,H1 b=some v->b≠e:=fun b v q z=>by rw[z,hn]at q; cases q
 have I2:Inv X pins σ (upd H1 e (exN e (.ref C) none)) { s1 with heap:=h1 }:=by
  refine I1.un (t':=s1.toks) ⟨fun b ob q _ _ _=>m.keeps _ _ q,fun b ob q _ _ _=>⟨ob.slots,m.keeps _ _ q⟩,fun b ob q n _=>by rw[Z05 (old b ob q)]; exact n,fun b ob q _=>⟨ob,m.keeps _ _ q⟩,fun b xs q=>by rw[Z05 (hin b _ q)]; exact q,fun b o v q=>by rw[Z05 (hin b _ q)]; exact q,fun b ps q=>⟨#[],by rw[Z05 (hin b _ q),q]; simp⟩⟩ fun b w q=>?_
  by_cases ze:b=e
  ·subst ze
   rw[Z01]at q
   cases q
   obtain⟨t0,z,_,_⟩:=m.there
   exact Zi5 ⟨_,_,z,rfl,rfl,rfl,rfl,rfl⟩
  ·rw[Z05 ze]at q
   exact (I1.hok b w q).stay (fun c ob _ r=>m.keeps _ _ r) (fun c r=>by rw[Z05 (hin c _ r)]; exact r) fun c xs r=>by rw[Z05 (hin c _ r)]; exact r
 refine wpAny_call (codeAny_mono (F.run _ X.stack _ _ ⟨[.ref e,u],[]⟩ [.ref e,u] [.ref e,v] (fun w H2=>w=.non/\∃ dx,H1 dx=none/\dx≠e/\H2=upd (upd (upd H1 e (exN e (.ref C) none)) dx (.xd [(name,v)])) e (exN e (.ref C) (some dx))) E0 (hr.make C [u] []) (I2.env0.make C [u] []) (hb _ [.ref e,u] I2.kIn rfl) (.cons rfl (.cons ru .nil))
  ⟨e,v,rfl,hok0,Z01,fun dx hdx nd=>⟨rfl,dx,by rw[Z05 nd]at hdx; exact hdx,nd,rfl⟩⟩) fun r s' hq=>?_)
 cases r with
 | error e=>exact False.elim hq
 | ok fl=>
  cases fl with
  | next=>exact False.elim hq
  | brk=>exact False.elim hq
  | cont=>exact False.elim hq
  | ret uu=>
   obtain⟨vv,H2,hos,hbare,un,hok,rv,rfl,dx,hdx,nd,hH2⟩:=hq
   have euu:uu=.none:=rv
   subst euu
   have I3:Inv X pins σ H2 s':=I2.call' (ch:=[]) hos un hok hbare (fun b z=>absurd z (by simp))
   have he2:H2 e=some (exN e (.ref C) (some dx)):=by rw[hH2,Z01]
   obtain⟨bm',N2,nm',qn',bs',sn',sub',ab',col',dd',l0,l1,l2,l3,l5,mN',oC',_,_,TL'⟩:=Z9j N.ex I3.kIn
   obtain⟨⟨o,ws,q1,q2,q3,q4,q5,q6⟩,_⟩:=hok e _ he2
   refine⟨rfl,e,o,bm',N2,nm',qn',bs',sn',sub',ab',col',dd',l0,l1,l2,l3,l5,rfl,oC',TL',q1,q2,⟨ws,q4,q5⟩,?_⟩
   refine ht pins σ H1 H2 s1 s' h1 e (.ref C) (some dx) [u] I1 m un hok I3 he2 hos hbare (q dx _ hdx ?_)
   funext b
   rw[hH2]
   by_cases zb:b=e
   ·rw[zb,Z6p,Z05 (Ne.symm nd),hn]
   ·rw[Zbx zb,Z05 zb]
    by_cases zd:b=dx
    ·rw[zd,Z01,Z01]
    ·rw[Z05 zd,Z05 zb,Z05 zd]
end
section
variable {X:Cx}{e₀:Expr}{f:Str}{pos:Pos}{ta:TE}
end
end L2
namespace K1
open PySem L2 Sq
abbrev Zso:Stmt:=Zp6 Zai 0
def OkI (v:V):Prop:=∃ i:Int,v=.int i/\i.natAbs<=1000
theorem Zoe {m:Int}(h:m.natAbs<=1000):m.natAbs.log2 < 1000:=by
 by_cases z:m.natAbs=0
 ·rw[z]; decide
 ·exact (Nat.log2_lt z).mpr (Y2a h (by decide +kernel))
theorem Zoz (a b:Str):(a++b).length=a.length+b.length:=by
 show (a.cps++b.cps).size=_
 rw[Array.size_append]; rfl
theorem Zo4 {m:Int}(h:m.natAbs<=1000):m.natAbs.log2 < 1920:=by
 by_cases z:m.natAbs=0
 ·rw[z]; decide
 ·exact (Nat.log2_lt z).mpr (Y2a h (by decide +kernel))
section
variable {P:Program}{w:World}{K:Y01}{mg:Str->Option Value}{base:Heap}
theorem Zpr:Z0n ["self","square"] ["self","square"] (Z08 Zso):=⟨rfl,rfl,rfl,by decide +kernel,rfl,by decide +kernel,by decide +kernel⟩
theorem Zq4 {f C SA:Addr}{fd:FuncData}(N:Zrv K C f "square")(S:Zth K SA)(mS:mg "SheetError"=some (.ref SA))(F:Fun K "__init__" "NotTogether.__init__" Zso f fd):Z13 P w K mg base CX0 1 f fd ["self","square"] (Zdc C "square" OkI):=by
 refine F.ok Zpr (fun vs H Q E h=>?_) (fun cdv A outer s H vs Q E hr h=>?_)
 ·obtain⟨e,v,rfl,_⟩:=h; rfl
 ·obtain⟨e,v,rfl,⟨i,rfl,hi⟩,he,k⟩:=h
  refine⟨_,Z03 (Z1s (Znf N.ex S rfl mS (Z00 (pv 0) (Z00 (Zhe (.cons Z1b (.cons (Zg9 (pv 1)) .nil))) Z04)))) (Z07 (Zn0 N (pv 0) (pv 1) rfl)),?_⟩
  refine⟨_,rfl,_,rfl,?_,_,rfl,i,rfl,Zo4 hi,_,rfl,?_,e,_,_,rfl,he,?_⟩
  ·show ((Str.empty:Str)++Str.ofString "no path leads from square 0 to square ").length<=sizeLine
   decide +kernel
  ·have z1:(Str.ofString (toString i)).length<=1001:=by rw[ofString_length]; exact int_text_length_le (by decide) (Zoe hi)
   have z2:((Str.empty:Str)++Str.ofString "no path leads from square 0 to square ").length<=100:=by decide +kernel
   have z3:2000<=sizeLine:=by decide
   rw[Zoz]
   omega
  ·exact⟨_,rfl,_,rfl,e,rfl,he,fun dx h1 h2=>k dx h1 h2⟩
end
def XIs (K:Y01)(C:Addr)(name qual:Str)(st:Stmt)(p1 p2:Str):Prop:=∃ f fd,Zrv K C f name/\Fun K "__init__" qual st f fd/\Z6g K fd [p1,p2] []
theorem Zqe {K:Y01}{C f:Addr}{name qual p1 p2:Str}{st:Stmt}{oc:Value}{od an:Option Addr}{osl:Array (Option Value)}{kV doc pm cdv ct:Value}(i:Y1h K (.ref C) "__init__"=some (some (.ref f)))(ex:Zcy K C f=true)
  (sa:Y1h K (.ref C) "__setattr__"=some (some (.builtin "object.__setattr__"))) (mo:PySem.W.mroIn K C (.type "object")=some true) (na:Y1h K (.ref C) name=some none) (kp:Y25 K (.ref C)=true) (fn:PySem.W.typeIn K (.ref f)=some (.type "function"))
  (l:K.lookup f=some ⟨oc,od,.func (Y2f "__init__" qual (Z3y st) (Z2n st) (Z08 st) .none kV doc pm an cdv ct),osl⟩) (c:PySem.W.codeIn K cdv qual=true) (k:Y25 K (.ref f)=true)
  (b:∀ (kV doc pm:Value) (an:Option Addr) (cdv ct:Value) (us:List Value),us.length=([p1,p2]:List Str).length->bindArgs (Y2f "__init__" qual (Z3y st) (Z2n st) (Z08 st) .none kV doc pm an cdv ct) ⟨us,[]⟩=pure (([p1,p2]:List Str).zip us)):XIs K C name qual st p1 p2:=by
 have F:=Zmp l c k
 exact⟨f,_,⟨ex,sa,mo,na,kp,fn⟩,F,F.binds b⟩
def Zdz (K:Y01):Sp:=fun vs H Q _=>∃ (p:Addr) (r:List Nat) (c:Int),vs=[.ref p,.int c]/\SqL K H p (nv r)/\r.length<=36/\
 ∀ (H':Hp) (l:Addr) (t:List Nat),Z0d H H'->H l=none->H' l=some (.lst (nv t))->t.Perm r->Q (.ref l) H'
theorem Zgn {line left r:List Nat}{k y:Nat}(p:(line++left).Perm r)(e:left[k]?=some y):(line++[y]++left.eraseIdx k).Perm r:=by
 refine List.Perm.trans ?_ p
 rw[Y1l]
 refine List.Perm.append_left _ ?_
 have hk:k < left.length:=(Y03.mp e).1
 have hy:left[k]=y:=(Y03.mp e).2
 have h1:left=left.take k++left[k] :: left.drop (k+1):=by
  rw[<-Y26 hk,Y1x]
 rw[Y23]
 conv=>rhs; rw[h1,hy]
 exact (List.perm_middle (a:=y) (l₁:=left.take k) (l₂:=left.drop (k+1))).symm
section
variable {P:Program}{w:World}{K:Y01}{mg:Str->Option Value}{base:Heap}
abbrev nPk:List Str:=["_law_things","_law_number","_law_left","_law_told"]
theorem Zrq:Z0n nPk ["_law_things","_law_number"] (Z08 Z8a):=⟨rfl,rfl,rfl,by decide +kernel,rfl,by decide +kernel,by decide +kernel⟩
theorem Zhf {f:Addr}{fd:FuncData}(T:Bi mg)(F:Fn K mg "_law_picked" Z8a ["_law_things","_law_number"] f fd):Z13 P w K mg base CX0 1 f fd ["_law_things","_law_number"] (Zdz K):=by
 refine F.F.ok Zrq (fun vs H Q E h=>?_) (fun cdv A outer s H vs Q E hr h=>?_)
 ·obtain⟨p,r,c,rfl,_⟩:=h; rfl
 ·obtain⟨p,r,c,rfl,hp,hn,k⟩:=h
  refine⟨_,Z03 (Z0c (i:=2) Zrq.nd rfl (Or.inl rfl) (Z0q Z2l rfl T.list Z1r (Z00 (pv 0) Z04)))
   (Z03 (Z0c (i:=3) Zrq.nd rfl (Or.inl rfl) (Z1y Z04))
   (Z03 (Z0c (i:=1) Zrq.nd rfl (Or.inl rfl) (Z0l Z1d Z09 (Z0l Z1e (pv 1) Z09)))
   (Z03 (Z4h PassesOwn.never (Z0m Zn7 (Z0a Z0b (by rfl) T.len PySem.boot_len (Z00 (pv 2) Z04)) Z09 (Z0r _))
    (Z03 (Z0c (i:=1) Zrq.nd rfl (Or.inl rfl) (Z0l Z1e (Z0l Z7m (pv 1) Z09) Z09))
    (Z07 (Z1s (Z34 PySem.F.plainAttrs_list PySem.F.slot_list_append PySem.F.type_list_append Z11 (pv 3) (Z00
     (Z34 PySem.F.plainAttrs_list PySem.F.slot_list_pop PySem.F.type_list_pop Z9x (pv 2) (Z00 (Z0l Z1e (Z0l Z2a (pv 1) Z09) (Z0a Z0b (by rfl) T.len PySem.boot_len (Z00 (pv 2) Z04))) Z04)) Z04))))))
   (Z07 (Z0o (pv 3)))))),?_⟩
  refine⟨_,rfl,p,_,rfl,.inl hp,fun lf hlf=>?_⟩
  refine⟨Y0w _,fun ln hln=>?_⟩
  have nlnl:ln≠lf:=fun e=>by rw[e,Z01]at hln; cases hln
  have g1:H ln=none:=by rwa [Z05 nlnl]at hln
  refine⟨_,rfl,_,_,rfl,rfl,(by show (0:Int) < 2147483646; decide),_,_,rfl,rfl,?_⟩
  refine Z5m (fun σ H2=>∃ (num:Int) (line left:List Nat),σ=[some (.ref p),some (.int num),some (.ref lf),some (.ref ln)]/\Z0d H H2/\H2 lf=some (.lst (nv left))/\H2 ln=some (.lst (nv line))/\(line++left).Perm r)
   (fun _ H2=>match H2 lf with | some (.lst xs)=>xs.length | _=>0) ?_ ?_ ?_
  ·exact⟨_,[],r,rfl,Z02 (Z02 (Z0d.refl H) hlf) g1,by rw[Z05 nlnl.symm,Z01],Z01,List.Perm.refl _⟩
  ·rintro σ H2 ⟨num,line,left,rfl,s2,hlf2,hln2,hP⟩
   have hlen:line.length+left.length=r.length:=by have:=hP.length_eq; rwa [Y07]at this
   refine⟨_,rfl,lf,_,rfl,.inl (SqL.of hlf2),_,_,rfl,rfl,_,rfl,?_⟩
   rw[Z0k]
   refine Zgo (fun hgt=>?_) (fun hle=>?_)
   ·have hgt:(0:Int) < (left.length:Int):=of_decide_eq_true hgt
    have hpos:0 < left.length:=by omega
    refine⟨_,rfl,_,_,rfl,rfl,.inr ⟨by decide,by decide⟩,_,_,rfl,rfl,(by show (0:Int) < 2147483647; decide),?_⟩
    refine⟨_,rfl,.inl ⟨rfl,_,SqL.of hln2⟩,_,rfl,.inl ⟨rfl,_,SqL.of hlf2⟩,_,rfl,_,_,rfl,rfl,⟨by decide,by decide⟩,_,rfl,lf,_,rfl,.inl (SqL.of hlf2),_,_,rfl,rfl,?_,?_⟩
    ·rw[Z0k]; omega
    refine Zj7 hlf2 hpos (by omega) fun kx y hy=>?_
    have e3:(upd H2 lf (.lst (nv (left.eraseIdx kx)))) ln=some (.lst (nv line)):=by rw[Z05 nlnl]; exact hln2
    refine⟨ln,_,_,rfl,rfl,e3,?_,?_⟩
    ·rw[Z0k]; exact Z0j (by omega)
    have hk:=(Y03.mp hy).1
    have e4:(upd (upd H2 lf (.lst (nv (left.eraseIdx kx)))) ln (.lst (nv line++[V.int (y:Int)]))) lf=some (.lst (nv (left.eraseIdx kx))):=by rw[Z05 nlnl.symm,Z01]
    refine⟨⟨_,line++[y],left.eraseIdx kx,rfl,Z02 (Z02 s2 hlf) g1,e4,by rw[Z01,Z50],Zgn hP hy⟩,?_⟩
    rw[e4,hlf2]
    show (nv (left.eraseIdx kx)).length < (nv left).length
    rw[Z0k,Z0k,List.length_eraseIdx,if_pos hk]
    omega
   ·have hle:¬ (0:Int) < (left.length:Int):=fun z=>hle (decide_eq_true z)
    have hl0:left=[]:=List.length_eq_zero_iff.mp (by omega)
    subst hl0
    rw[Y1f]at hP
    exact⟨_,rfl,k H2 ln line s2 g1 hln2 hP⟩
  ·rintro σ H Q Q' h ⟨v,e1,p,ys,e3,sq,i,j,e4,e5,k,e6,q⟩
   exact⟨v,e1,p,ys,e3,sq,i,j,e4,e5,k,e6,h _ _ q⟩
end
end K1
namespace L2
open PySem PySem.Spec PyProof.Rows
section
variable {X:Cx}{o i value:Expr}{pos pos':Pos}{to ti tv:TE}
def Ztp (to ti tv:TE):TS:=fun D σ H=>tv σ H fun v H1=>to σ H1 fun x H2=>ti σ H2 fun y H3=>Zog x y v H3 fun H4=>D.nx σ H4
theorem Z3o (ho:PE X o to)(hi:PE X i ti)(hv:PE X value tv)(hs:swapsWith value (some (.Subscript o i pos')) pos.line X.env=pure false):PS X (.Assign [.Subscript o i pos'] value pos) (Ztp to ti tv):=by
 intro pins s σ H D I h
 refine wpAny_Assign_Subscript (thn (hv pins s σ H _ I h) fun r s1 ⟨v,H1,I1,rv,q1⟩=>thn (ho pins s1 σ H1 _ I1 q1) fun u s2 ⟨x,H2,I2,rx,q2⟩=>thn (hi pins s2 σ H2 _ I2 q2) fun iv s3 ⟨y,H3,I3,ry,q3⟩=>?_) hs
 exact thn (Ze1 pins s3 σ H3 x y v u iv r _ I3 rx ry rv q3) fun _ s4 ⟨H4,I4,q4⟩=>⟨σ,H4,I4,q4⟩
theorem PI.or {tg iter:Expr}{w1 w2:TI}(h1:PI X tg iter w1)(h2:PI X tg iter w2):PI X tg iter (fun σ H R=>w1 σ H R\/w2 σ H R):=by
 intro pins s σ H R I h
 rcases h with h | h
 ·exact h1 pins s σ H R I h
 ·exact h2 pins s σ H R I h
end
end L2
namespace K1
open PySem L2 Sq
theorem Zgs (xs:List Nat)(j x:Nat):(nv xs).set j (.int (x:Int))=nv (xs.set j x):=by
 unfold nv
 rw[List.map_set]
theorem Zit {n:Nat}{r bl:List Nat}(rr:Row n r)(hl:bl.length=n)(h:∀ k,k < n->bl[nx r k]?=some k):bl=back r:=by
 refine List.ext_getElem? fun x=>?_
 by_cases hx:x < n
 ·have e:=h (r.idxOf x) (rr.idx_lt hx)
  rw[rr.nx_idx hx]at e
  rw[e,rr.back.get hx,Z46 rr hx]
 ·rw[Y29 (by omega),Y29 (by rw[Ze4,rr.len]; omega)]
theorem Zpi (n:Nat):(List.replicate n true).all id=true:=by
 rw[List.all_eq_true]
 intro x hx
 rw[(List.mem_replicate.mp hx).2]; rfl
def Zb5:Sp:=fun vs H Q _=>∃ (p:Addr) (n:Nat) (r:List Nat),vs=[.ref p]/\H p=some (.tup (nv r))/\Row n r/\n<=36/\∀ (H':Hp) (l:Addr),Z0d H H'->H' l=some (.tup (nv (back r)))->Q (.ref l) H'
section
variable {P:Program}{w:World}{K:Y01}{mg:Str->Option Value}{base:Heap}
theorem Z5a:Z0n ["row","back","square","target"] ["row"] (Z08 Z5e):=⟨rfl,rfl,rfl,by decide +kernel,rfl,by decide +kernel,by decide +kernel⟩
theorem Zf4 {f:Addr}{fd:FuncData}(T:Bi mg)(F:Fn K mg "back_row" Z5e ["row"] f fd):Z13 P w K mg base CX0 1 f fd ["row"] Zb5:=by
 refine F.F.ok Z5a (fun vs H Q E h=>?_) (fun cdv A outer s H vs Q E hr h=>?_)
 ·obtain⟨p,n,r,rfl,_⟩:=h; rfl
 ·obtain⟨p,n,r,rfl,hp,rr,hn,k⟩:=h
  refine⟨_,Z03 (Z0c (i:=1) Z5a.nd rfl (Or.inl rfl) (Z0q Z2l rfl T.list Z1r (Z00 (pv 0) Z04)))
   (Z03 (Z1o PassesOwn.never rfl (Zkh rfl T.enum (Z00 (pv 0) Z04)) (Z3t rfl (Z0s (Z0i (i:=2) Z5a.nd rfl (Or.inl rfl)) (Z0s (Z0i (i:=3) Z5a.nd rfl (Or.inl rfl)) Z26)))
    (Z07 (Z3o (pv 1) (pv 3) (pv 2) rfl)))
   (Z07 (Z0o (Z0q Z1l rfl T.tuple Z1t (Z00 (pv 1) Z04))))),?_⟩
  refine⟨_,rfl,p,_,rfl,.inr (SqT.of hp),fun lb hlb=>?_⟩
  have s1:Z0d H (upd H lb (.lst (nv r))):=Z02 (Z0d.refl H) hlb
  refine⟨_,rfl,p,rfl,⟨_,SqT.of (s1 _ _ hp)⟩,Z8p (xs:=nv r) (fun i σ H2=>∃ o2 o3 bl,σ=[some (.ref p),some (.ref lb),o2,o3]/\Z0d H H2/\H2 lb=some (.lst (nv bl))/\bl.length=n/\∀ k,k < i->bl[nx r k]?=some k)
   ⟨_,_,r,rfl,s1,Z01,rr.len,fun k hk=>absurd hk (Y2i _)⟩ (fun i σ H2 _ ⟨_,_,_,_,s2,_⟩=>SqT.of (s2 _ _ hp)) ?_ ?_⟩
  ·rintro i x σ H2 T' hx hT ⟨o2,o3,bl,rfl,s2,h2,hbl,hall⟩
   obtain⟨y,hy,rfl⟩:=Z3e hx
   have hi:i < n:=by rw[<-rr.len]; exact (Y03.mp hy).1
   have ey:y=nx r i:=by have:=rr.get hi; rw[hy]at this; exact Option.some.inj this
   have hyn:y < n:=by rw[ey]; exact rr.nlt hi
   have h2':(upd H2 T' (Z42 T' [.int (i:Int),.int (y:Int)])) lb=some (.lst (nv bl)):=by rw[Z05 (Z06 h2 hT)]; exact h2
   refine⟨T',_,rfl,Z01,rfl,_,_,rfl,_,_,rfl,rfl,?_⟩
   refine⟨_,rfl,_,rfl,_,rfl,lb,_,_,y,rfl,rfl,h2',?_,?_⟩
   ·unfold ixN
    rw[if_pos (by omega),if_pos (by rw[Z0k,hbl]; omega)]
    simp
   refine⟨_,_,bl.set y i,rfl,Z02 (Z02 s2 (s2.free hT)) hlb,by rw[Z01,Zgs],by rw[Y19]; exact hbl,fun k hk=>?_⟩
   rcases Y0z k i with c | c
   ·have hne:y≠nx r k:=fun z=>by
     rw[ey]at z
     have:=rr.inj hi (by omega) z
     omega
    rw[Y2d hne]
    exact hall k c
   ·have:k=i:=by omega
    subst this
    rw[<-ey,Y2l (by rw[hbl]; exact hyn)]
  ·rintro σ H2 ⟨o2,o3,bl,rfl,s2,h2,hbl,hall⟩
   rw[Z0k,rr.len]at hall
   have e:=Zit rr hbl hall
   subst e
   refine⟨_,rfl,lb,_,rfl,.inl ⟨SqL.of h2,fun l hl=>k _ l (Z02 s2 (s2.free hl)) Z01⟩⟩
end
def sts (p0 p1 p2 p3:Addr):List (Key×V):=[(Sum.inr "r",.ref p0),(Sum.inr "l",.ref p1),(Sum.inr "u",.ref p2),(Sum.inr "d",.ref p3)]
def Zg8:Sp:=fun vs H Q _=>∃ (a:Addr) (n:Nat) (r u:List Nat),vs=[.ref a]/\Z7e H a r u/\Row n r/\Row n u/\n<=36/\∀ (H':Hp) (d p0 p1 p2 p3:Addr),Z0d H H'->H d=none->H' d=some (.dK (sts p0 p1 p2 p3))->
 H' p0=some (.tup (nv (rw4 r u 0)))->H' p1=some (.tup (nv (rw4 r u 1)))->H' p2=some (.tup (nv (rw4 r u 2)))->H' p3=some (.tup (nv (rw4 r u 3)))->Q (.ref d) H'
section
variable {P:Program}{w:World}{K:Y01}{mg:Str->Option Value}{base:Heap}
theorem Zn1:Z0n ["rows"] ["rows"] (Z08 Zay):=⟨rfl,rfl,rfl,by decide +kernel,rfl,by decide +kernel,by decide +kernel⟩
theorem Zpy (p0 p1 p2 p3:Addr):Z7c [] (sts p0 p1 p2 p3)=sts p0 p1 p2 p3:=by
 have n1:¬ ((Sum.inr ("r":Str):Key)=Sum.inr ("l":Str)):=by decide +kernel
 have n2:¬ ((Sum.inr ("r":Str):Key)=Sum.inr ("u":Str)):=by decide +kernel
 have n3:¬ ((Sum.inr ("r":Str):Key)=Sum.inr ("d":Str)):=by decide +kernel
 have n4:¬ ((Sum.inr ("l":Str):Key)=Sum.inr ("u":Str)):=by decide +kernel
 have n5:¬ ((Sum.inr ("l":Str):Key)=Sum.inr ("d":Str)):=by decide +kernel
 have n6:¬ ((Sum.inr ("u":Str):Key)=Sum.inr ("d":Str)):=by decide +kernel
 show Z58 (Z58 (Z58 (Z58 [] (Sum.inr ("r":Str):Key) (V.ref p0)) (Sum.inr ("l":Str):Key) (V.ref p1)) (Sum.inr ("u":Str):Key) (V.ref p2)) (Sum.inr ("d":Str):Key) (V.ref p3)=_
 rw[Z28 (kvs:=[]) _ rfl]
 rw[Z28 (k:=(Sum.inr ("l":Str):Key)) _ (by show Z2s [((Sum.inr ("r":Str):Key),V.ref p0)] _=none; rw[Z17 n1]; rfl)]
 rw[Z28 (k:=(Sum.inr ("u":Str):Key)) _ (by show Z2s [((Sum.inr ("r":Str):Key),V.ref p0),(Sum.inr ("l":Str),V.ref p1)] _=none; rw[Z17 n2,Z17 n4]; rfl)]
 rw[Z28 (k:=(Sum.inr ("d":Str):Key)) _ (by show Z2s [((Sum.inr ("r":Str):Key),V.ref p0),(Sum.inr ("l":Str),V.ref p1),(Sum.inr ("u":Str),V.ref p2)] _=none; rw[Z17 n3,Z17 n5,Z17 n6]; rfl)]
 rfl
theorem Zll {f fb:Addr}{fd fdb:FuncData}(F:Fn K mg "step_rows" Zay ["rows"] f fd)(FB:Fn K mg "back_row" Z5e ["row"] fb fdb)(GB:Z13 P w K mg base CX0 1 fb fdb ["row"] Zb5) :
  Z13 P w K mg base CX0 2 f fd ["rows"] Zg8:=by
 refine F.F.ok Zn1 (fun vs H Q E h=>?_) (fun cdv A outer s H vs Q E hr h=>?_)
 ·obtain⟨a,n,r,u,rfl,_⟩:=h; rfl
 ·obtain⟨a,n,r,u,rfl,⟨p,q,h1,h2,h3⟩,rr,ru,hn,k⟩:=h
  refine⟨_,Z07 (Z0o (Zin (Z5i Z1b (Z0t Z1h (pv 0) Z09 (fun _ _=>rfl)) (Z5i Z1b (Z0h GB hr rfl FB.m FB.F.kp FB.b .nil Z0z (Z00 (Z0t Z1h (pv 0) Z09 (fun _ _=>rfl)) Z04))
   (Z5i Z1b (Z0t Z1h (pv 0) Z09 (fun _ _=>rfl)) (Z5i Z1b (Z0h GB hr rfl FB.m FB.F.kp FB.b .nil Z0z (Z00 (Z0t Z1h (pv 0) Z09 (fun _ _=>rfl)) Z04)) Zjk)))) rfl rfl (by simp) (by decide))),?_⟩
  intro d hd
  have s0:Z0d H (upd H d (.dK [])):=Z02 (Z0d.refl H) hd
  refine⟨_,rfl,a,_,0,_,rfl,rfl,SqT.of (s0 _ _ h1),Z0f (j:=0) rfl,?_⟩
  refine⟨_,rfl,a,_,0,_,rfl,rfl,SqT.of (s0 _ _ h1),Z0f (j:=0) rfl,p,n,r,rfl,s0 _ _ h2,rr,hn,fun H1 l1 s1 hl1=>?_⟩
  have s01:=s0.trans s1
  refine⟨_,rfl,a,_,1,_,rfl,rfl,SqT.of (s01 _ _ h1),Z0f (j:=1) rfl,?_⟩
  refine⟨_,rfl,a,_,1,_,rfl,rfl,SqT.of (s01 _ _ h1),Z0f (j:=1) rfl,q,n,u,rfl,s01 _ _ h3,ru,hn,fun H2 l2 s2 hl2=>?_⟩
  have s02:=s01.trans s2
  have hd2:H2 d=some (.dK []):=s2 _ _ (s1 _ _ Z01)
  refine⟨hd2,sts p l1 q l2,rfl,by show 4<=15; decide,?_⟩
  rw[Zpy]
  have ne:∀ b ys,H2 b=some (.tup ys)->(upd H2 d (.dK (sts p l1 q l2))) b=some (.tup ys):=fun b ys e=>by
   rw[Z05 (Zh6 e hd2 (by intro z; cases z))]; exact e
  exact k _ d p l1 q l2 (Z02 s02 hd) hd Z01 (ne _ _ (s02 _ _ h2)) (ne _ _ (s2 _ _ hl1)) (ne _ _ (s02 _ _ h3)) (ne _ _ hl2)
end
def Zkj (c:Nat):Nat:=match c with
 | 0=>114
 | 1=>108
 | 2=>117
 | _=>100
def pth (p:List Nat):Str:=⟨(p.map Zkj).toArray⟩
theorem Zot:("":Str)=pth []:=by decide +kernel
theorem ltr0:("r":Str)=pth [0]:=by decide +kernel
theorem ltr1:("l":Str)=pth [1]:=by decide +kernel
theorem ltr2:("u":Str)=pth [2]:=by decide +kernel
theorem ltr3:("d":Str)=pth [3]:=by decide +kernel
theorem Zkc (p:List Nat)(c:Nat):pth p++pth [c]=pth (p++[c]):=by
 show Str.mk ((p.map Zkj).toArray++([c].map Zkj).toArray)=Str.mk _
 simp
theorem Zjp (p:List Nat):(pth p).length=p.length:=by
 show (p.map Zkj).toArray.size=_
 simp
theorem Zoj {p0 p1 p2 p3:Addr}{i:Nat}{k:Key}{v:V}(h:(sts p0 p1 p2 p3)[i]?=some (k,v)):i < 4/\k=Sum.inr (pth [i])/\∃ p,v=.ref p/\[p0,p1,p2,p3][i]?=some p:=by
 match i,h with
 | 0,h=>cases h; exact⟨by decide,by rw[<-ltr0],_,rfl,rfl⟩
 | 1,h=>cases h; exact⟨by decide,by rw[<-ltr1],_,rfl,rfl⟩
 | 2,h=>cases h; exact⟨by decide,by rw[<-ltr2],_,rfl,rfl⟩
 | 3,h=>cases h; exact⟨by decide,by rw[<-ltr3],_,rfl,rfl⟩
 | i+4,h=>cases h
def pd (F:List Nat)(P:List (List Nat)):List (Key×V):=(F.zip P).map fun xp=>((Sum.inl (xp.1:Int):Key),V.str (pth xp.2))
theorem Zq0 {F:List Nat}{P:List (List Nat)}(h:P.length=F.length):(pd F P).length=F.length:=by simp[pd,h]
theorem Zp8 {F:List Nat}{P:List (List Nat)}(h:P.length=F.length)(x:Nat)(p:List Nat):pd (F++[x]) (P++[p])=pd F P++[(Sum.inl (x:Int),V.str (pth p))]:=by
 unfold pd
 rw[List.zip_append h.symm,Y0p]; rfl
theorem Z9z:∀ {F:List Nat} {P:List (List Nat)},P.length=F.length->(pd F P).map (·.1)=F.map fun (n:Nat)=>(Sum.inl (n:Int):Key)
 | [],_,_=>rfl
 | x :: F,[],h=>by simp at h
 | x :: F,p :: P,h=>by
  show (Sum.inl (x:Int):Key) :: (pd F P).map (·.1)=_
  rw[Z9z (by simpa using h)]; rfl
theorem Zii {F:List Nat}{P:List (List Nat)}(h:P.length=F.length){y:Nat}(hy:y∉F):Z2s (pd F P) (Sum.inl (y:Int):Key)=none:=by
 cases e:Z2s (pd F P) (Sum.inl (y:Int):Key) with
 | none=>rfl
 | some v=>
  have:=Zp3 e
  rw[Z9z h]at this
  obtain⟨x,hx,ex⟩:=Y0f.mp this
  have:x=y:=by have:=Sum.inl.inj ex; omega
  exact absurd (this ▸ hx) hy
theorem Zcw:∀ {F:List Nat} {P:List (List Nat)},F.Nodup->∀ {i x:Nat} {p:List Nat},F[i]?=some x->P[i]?=some p->Z2s (pd F P) (Sum.inl (x:Int):Key)=some (.str (pth p))
 | [],_,_,i,x,p,hx,_=>by simp at hx
 | y :: F,[],_,i,x,p,_,hp=>by simp at hp
 | y :: F,q :: P,nd,0,x,p,hx,hp=>by
  simp at hx hp
  subst hx hp
  exact Z21 rfl
 | y :: F,q :: P,nd,i+1,x,p,hx,hp=>by
  have nd':=Y1r.mp nd
  have hx':F[i]?=some x:=by simpa using hx
  have hne:y≠x:=fun e=>nd'.1 (e ▸ Y0a hx')
  show Z2s ((((Sum.inl (y:Int):Key),V.str (pth q))) :: pd F P) _=_
  rw[Z17 (fun e=>hne (by have:=Sum.inl.inj e; omega))]
  exact Zcw nd'.2 hx' (by simpa using hp)
def Zcl:Sp:=fun vs H Q _=>∃ (a:Addr) (n:Nat) (r u:List Nat) (f:Nat),vs=[.ref a,.int (f:Int)]/\Z7e H a r u/\Row n r/\Row n u/\n<=36/\f < n/\
 ∀ (H':Hp) (d:Addr) (F:List Nat) (P:List (List Nat)),Z0d H H'->H d=none->H' d=some (.dK (pd F P))->Z6e n r u f F P->Q (.ref d) H'
def Zct (H:Hp)(r u:List Nat)(p0 p1 p2 p3:Addr):Prop:=∀ i p,[p0,p1,p2,p3][i]?=some p->H p=some (.tup (nv (rw4 r u i)))
def PIn (n:Nat)(r u:List Nat)(f:Nat)(a ds dp lf:Addr)(kk x:Nat)(p0 p1 p2 p3:Addr)(H:Hp)(o:Obj)(i:Nat)(σ:St)(H3:Hp):Prop:=
 ∃ (F1:List Nat) (P1:List (List Nat)) (o7 o8:Option V),σ=[some (.ref a),some (.int (f:Int)),some (.ref ds),some (.ref dp),some (.ref lf),some (.int (kk:Int)),some (.int (x:Int)),o7,o8]/\Z0d H H3/\H3 ds=some (.frz o (.dK (sts p0 p1 p2 p3)))/\Zct H3 r u p0 p1 p2 p3/\
  H3 dp=some (.dK (pd F1 P1))/\H3 lf=some (.lst (nv F1))/\Pth n r u f F1 P1 kk i/\F1[kk]?=some x
section
variable {P:Program}{w:World}{K:Y01}{mg:Str->Option Value}{base:Heap}
theorem Z3v:Z0n ["rows","first","steps","paths","found","done","here","letter","row"] ["rows","first"] (Z08 Z8t):=⟨rfl,rfl,rfl,by decide +kernel,rfl,by decide +kernel,by decide +kernel⟩
theorem Zlo {f fs:Addr}{fd fds:FuncData}(T:Bi mg)(F:Fn K mg "paths_from" Z8t ["rows","first"] f fd)(FS:Fn K mg "step_rows" Zay ["rows"] fs fds)(GS:Z13 P w K mg base CX0 2 fs fds ["rows"] Zg8) :
  Z13 P w K mg base CX0 3 f fd ["rows","first"] Zcl:=by
 refine F.F.ok Z3v (fun vs H Q E h=>?_) (fun cdv A outer s H vs Q E hr h=>?_)
 ·obtain⟨a,n,r,u,f,rfl,_⟩:=h; rfl
 ·obtain⟨a,n,r,u,f,rfl,hsh,rr,ru,hn,hf,k⟩:=h
  have hu:=Z83 hr
  refine⟨_,Z03 (Z0c (i:=2) Z3v.nd rfl (Or.inl rfl) (Z0h GS hr rfl FS.m FS.F.kp FS.b .nil Z0z (Z00 (pv 0) Z04)))
   (Z03 (Z0c (i:=3) Z3v.nd rfl (Or.inl rfl) (Zin (Z5i (pv 1) Z1b Zjk) rfl rfl (by simp) (by decide)))
   (Z03 (Z0c (i:=4) Z3v.nd rfl (Or.inl rfl) (Z1y (Z00 (pv 1) Z04)))
   (Z03 (Z0c (i:=5) Z3v.nd rfl (Or.inl rfl) Z09)
   (Z03 (Z4h PassesOwn.never (Z0m Zcq (pv 5) (Z0a Z0b (by rfl) T.len PySem.boot_len (Z00 (pv 4) Z04)) (Z0r _))
    (Z03 (Z0c (i:=6) Z3v.nd rfl (Or.inl rfl) (Z0t Z0v (pv 4) (pv 5) (fun _ _=>rfl)))
    (Z03 (Z1o PassesOwn.never rfl (Zke (pv 2)) (Zej rfl (Z0s (Z0i (i:=7) Z3v.nd rfl (Or.inl rfl)) (Z0s (Z0i (i:=8) Z3v.nd rfl (Or.inl rfl)) Z26)))
     (Z07 (Z1f (Zeu (Z5c hu (Z0t Z1h (pv 8) (pv 6) (fun _ _=>rfl)) (pv 3)))
      (Z03 (Z2x hu (pv 3) (Z0t Z1h (pv 8) (pv 6) (fun _ _=>rfl)) (Z0l Z0u (Z51 hu (pv 3) (pv 6) (fun _ _=>rfl)) (pv 7)) rfl)
      (Z07 (Z1s (Z34 PySem.F.plainAttrs_list PySem.F.slot_list_append PySem.F.type_list_append Z11 (pv 4) (Z00 (Z0t Z1h (pv 8) (pv 6) (fun _ _=>rfl)) Z04))))) Z0p)))
    (Z07 (Zqa (i:=5) Z3v.nd rfl (Or.inl rfl) Z09 Zr0)))))
   (Z07 (Z0o (pv 3))))))),?_⟩
  refine⟨_,rfl,a,n,r,u,rfl,hsh,rr,ru,hn,fun H1 ds p0 p1 p2 p3 s1 hds0 hds hp0 hp1 hp2 hp3=>?_⟩
  have rows1:Zct H1 r u p0 p1 p2 p3:=by
   intro i p hi
   match i,hi with
   | 0,hi=>cases hi; exact hp0
   | 1,hi=>cases hi; exact hp1
   | 2,hi=>cases hi; exact hp2
   | 3,hi=>cases hi; exact hp3
   | i+4,hi=>cases hi
  intro dp hdp
  refine⟨_,rfl,Z01,[((Sum.inl (f:Int):Key),V.str "")],rfl,by show 1<=15; decide,?_⟩
  have edp:Z7c [] [((Sum.inl (f:Int):Key),V.str "")]=pd [f] [[]]:=by
   show Z58 [] (Sum.inl (f:Int):Key) (V.str "")=_
   rw[Z28 (kvs:=[]) _ rfl,Zot]; rfl
  rw[edp]
  refine⟨_,rfl,(by show 1<=sizeLine; decide),fun lf hlf=>?_⟩
  have ndp:dp≠ds:=fun e=>by rw[e,hds]at hdp; cases hdp
  have g0:H1 lf=none:=by
   by_cases e:lf=dp
   ·rw[e]; exact hdp
   ·rw[Z05 e,Z05 e]at hlf; exact hlf
  have nlf:lf≠dp:=fun e=>by rw[e,Z01]at hlf; cases hlf
  have nls:lf≠ds:=fun e=>by rw[e,hds]at g0; cases g0
  have Hdp:H dp=none:=s1.free hdp
  have Hlf:H lf=none:=s1.free g0
  refine Z5m (fun σ H2=>∃ (F:List Nat) (P:List (List Nat)) (kk:Nat) (o6 o7 o8:Option V),σ=[some (.ref a),some (.int (f:Int)),some (.ref ds),some (.ref dp),some (.ref lf),some (.int (kk:Int)),o6,o7,o8]/\Z0d H H2/\Rd H2 ds (.dK (sts p0 p1 p2 p3))/\Zct H2 r u p0 p1 p2 p3/\
   H2 dp=some (.dK (pd F P))/\H2 lf=some (.lst (nv F))/\Pth n r u f F P kk 0) (fun σ _=>mu 5 σ) ?_ ?_ ?_
  ·refine⟨[f],[[]],0,_,_,_,rfl,Z02 (Z02 (Z02 s1 Hdp) Hdp) Hlf,.inl (by rw[Z05 nls.symm,Z05 ndp.symm,Z05 ndp.symm]; exact hds),fun i p hi=>?_,by rw[Z05 nlf.symm,Z01],Z01,Pth.start hf⟩
   have:=rows1 i p hi
   rw[Z05 (Z06 this g0),Z05 (Z06 this hdp),Z05 (Z06 this hdp)]
   exact this
  ·rintro σ H2 ⟨F,P',kk,o6,o7,o8,rfl,s2,hst,rows2,h2p,h2l,hP⟩
   refine⟨_,rfl,_,rfl,lf,_,rfl,.inl (SqL.of h2l),_,_,rfl,rfl,_,rfl,?_⟩
   rw[Z0k]
   refine Zgo (fun hlt=>?_) (fun hge=>?_)
   ·have hlt:(kk:Int) < (F.length:Int):=of_decide_eq_true hlt
    have hk:kk < F.length:=by omega
    have hx:F[kk]?=some F[kk]:=Y00 hk
    have hxn:F[kk] < n:=hP.lt _ (Y10 hk)
    refine⟨_,rfl,_,rfl,lf,_,_,_,rfl,rfl,SqL.of h2l,Z0f (Z14 hx),?_⟩
    have start:∀ (o:Obj) (H3:Hp),Z0d H H3->H3 ds=some (.frz o (.dK (sts p0 p1 p2 p3)))->Zct H3 r u p0 p1 p2 p3->H3 dp=some (.dK (pd F P'))->H3 lf=some (.lst (nv F))->PIn n r u f a ds dp lf kk F[kk] p0 p1 p2 p3 H o 0
      [some (.ref a),some (.int (f:Int)),some (.ref ds),some (.ref dp),some (.ref lf),some (.int (kk:Int)),some (.int (F[kk]:Int)),o7,o8] H3:=fun o H3 e1 e2 e3 e4 e5=>⟨F,P',_,_,rfl,e1,e2,e3,e4,e5,hP,hx⟩
    have turn:∀ (o:Obj) (i:Nat) (ky:Key) (v:V) (σ:St) (H3:Hp) (T':Addr),(sts p0 p1 p2 p3)[i]?=some (ky,v)->H3 T'=none->PIn n r u f a ds dp lf kk F[kk] p0 p1 p2 p3 H o i σ H3->∃ (F1:List Nat) (P1:List (List Nat)) (p:Addr),i < 4/\ky=Sum.inr (pth [i])/\v=.ref p/\
      (∃ o7 o8,σ=[some (.ref a),some (.int (f:Int)),some (.ref ds),some (.ref dp),some (.ref lf),some (.int (kk:Int)),some (.int (F[kk]:Int)),o7,o8])/\Z0d H (upd H3 T' (.tup [kV ky,v]))/\(upd H3 T' (.tup [kV ky,v])) ds=some (.frz o (.dK (sts p0 p1 p2 p3)))/\
      Zct (upd H3 T' (.tup [kV ky,v])) r u p0 p1 p2 p3/\(upd H3 T' (.tup [kV ky,v])) p=some (.tup (nv (rw4 r u i)))/\(upd H3 T' (.tup [kV ky,v])) dp=some (.dK (pd F1 P1))/\(upd H3 T' (.tup [kV ky,v])) lf=some (.lst (nv F1))/\Pth n r u f F1 P1 kk i/\F1[kk]?=some F[kk]:=by
     rintro o i ky v σ H3 T' hi hT ⟨F1,P1,o7,o8,rfl,e1,e2,e3,e4,e5,e6,e7⟩
     obtain⟨hi4,rfl,p,rfl,hpi⟩:=Zoj hi
     have hp3:=e3 i p hpi
     refine⟨F1,P1,p,hi4,rfl,rfl,⟨_,_,rfl⟩,Z02 e1 (e1.free hT),by rw[Z05 (Z06 e2 hT)]; exact e2,fun j q hq=>?_,by rw[Z05 (Z06 hp3 hT)]; exact hp3,by rw[Z05 (Z06 e4 hT)]; exact e4,by rw[Z05 (Z06 e5 hT)]; exact e5,e6,e7⟩
     have:=e3 j q hq
     rw[Z05 (Z06 this hT)]; exact this
    refine⟨_,rfl,ds,sts p0 p1 p2 p3,rfl,hst,fun o H3 h3s h3o=>?_⟩
    have hns:∀ b w',H2 b=some w'->(∀ o,w'≠.frz o (.dK (sts p0 p1 p2 p3)))->w'≠.dK (sts p0 p1 p2 p3)->H3 b=some w':=fun b w' e c1 c2=>by
     have hb:b≠ds:=fun z=>by
      subst z
      rcases hst with q | ⟨o',q⟩
      ·rw[e]at q; exact c2 (Option.some.inj q)
      ·rw[e]at q; exact c1 o' (Option.some.inj q)
     rw[h3o b hb]; exact e
    have e1:Z0d H H3:=fun b w' e=>by
     rw[h3o b (Z06 e hds0)]; exact s2 b w' e
    have e3:Zct H3 r u p0 p1 p2 p3:=fun i p hi=>hns _ _ (rows2 i p hi) (fun _ z=>nomatch z) (fun z=>nomatch z)
    have ndps:dp≠ds:=ndp
    have e4:H3 dp=some (.dK (pd F P')):=by rw[h3o dp ndps]; exact h2p
    have e5:H3 lf=some (.lst (nv F)):=by rw[h3o lf nls]; exact h2l
    refine Zgb (a:=ds) (kvs:=sts p0 p1 p2 p3) (o:=o) (PIn n r u f a ds dp lf kk F[kk] p0 p1 p2 p3 H o) (start o H3 e1 h3s e3 e4 e5) (fun i σ H4 _ ⟨_,_,_,_,_,_,e,_⟩=>e) ?_ ?_
    ·intro i ky v σ H4 T' hi hT hin
     obtain⟨F1,P1,p,hi4,rfl,rfl,⟨q7,q8,rfl⟩,f1,f2,f3,f4,f5,f6,f7,f8⟩:=turn o i ky v σ H4 T' hi hT hin
     generalize hH5:upd H4 T' (.tup [kV (Sum.inr (pth [i])),.ref p])=H5 at f1 f2 f3 f4 f5 f6 ⊢
     have f0:H5 T'=some (.tup [kV (Sum.inr (pth [i])),.ref p]):=by rw[<-hH5]; exact Z01
     have hrow:=Zd2 rr ru i
     have hk1:kk < F1.length:=(Y03.mp f8).1
     have hFl:=f7.flen
     refine⟨T',_,rfl,SqT.of f0,rfl,_,_,rfl,_,_,rfl,rfl,?_⟩
     refine⟨_,rfl,_,rfl,p,_,_,_,rfl,rfl,SqT.of f4,Z0f (Z14 (hrow.get hxn)),_,rfl,dp,_,rfl,Z6k.k (k:=(Sum.inl ((nx (rw4 r u i) F[kk]:Nat):Int):Key)) f5,_,rfl,?_⟩
     by_cases hy:nx (rw4 r u i) F[kk]∈F1
     ·obtain⟨j,hj,ej⟩:=Y0x.mp hy
      have hj1:F1[j]?=some (nx (rw4 r u i) F[kk]):=by rw[Y00 hj,ej]
      have hj2:j < P1.length:=by rw[f7.len]; exact hj
      rw[Zcw f7.nd hj1 (Y00 hj2)]
      refine Z2j ?_
      exact⟨F1,P1,_,_,rfl,f1,f2,f3,f5,f6,f7.old f8 hy,f8⟩
     ·rw[Zii f7.len hy]
      refine Z2m ?_
      have hk2:kk < P1.length:=by rw[f7.len]; exact hk1
      obtain⟨pk,hpk⟩:∃ pk,P1[kk]?=some pk:=⟨_,Y00 hk2⟩
      have hlen:=(f7.ok kk _ pk f8 hpk).2.1
      have hg:=Z6k.k (k:=(Sum.inl ((F[kk]:Nat):Int):Key)) f5
      rw[Zcw f7.nd f8 hpk]at hg
      refine⟨_,rfl,_,rfl,dp,_,rfl,hg,_,rfl,_,_,rfl,rfl,?_,?_⟩
      ·rw[Zjp,Zjp]
       exact Y1e (Z0j (by show pk.length+1<=1000; omega))
      refine⟨_,rfl,_,rfl,_,rfl,p,_,_,_,rfl,rfl,SqT.of f4,Z0f (Z14 (hrow.get hxn)),dp,_,rfl,Zc3.k (k:=(Sum.inl ((nx (rw4 r u i) F[kk]:Nat):Int):Key)) f5 (by rw[Zq0 f7.len]; exact Z0j (by omega)),?_⟩
      rw[Z28 _ (Zii f7.len hy),Zkc,<-Zp8 f7.len]
      generalize hH6:upd H5 dp (.dK (pd (F1++[nx (rw4 r u i) F[kk]]) (P1++[pk++[i]])))=H6
      have g1:Z0d H H6:=by rw[<-hH6]; exact Z02 f1 Hdp
      have g2:H6 ds=some (.frz o (.dK (sts p0 p1 p2 p3))):=by rw[<-hH6,Z05 ndp.symm]; exact f2
      have g3:Zct H6 r u p0 p1 p2 p3:=fun j q hq=>by
       have:=f3 j q hq
       rw[<-hH6,Z05 (Zh6 this f5 (by intro z; cases z))]; exact this
      have g4:H6 p=some (.tup (nv (rw4 r u i))):=by rw[<-hH6,Z05 (Zh6 f4 f5 (by intro z; cases z))]; exact f4
      have g5:H6 dp=some (.dK (pd (F1++[nx (rw4 r u i) F[kk]]) (P1++[pk++[i]]))):=by rw[<-hH6]; exact Z01
      have g6:H6 lf=some (.lst (nv F1)):=by rw[<-hH6,Z05 nlf]; exact f6
      refine⟨_,rfl,.inl ⟨rfl,_,SqL.of g6⟩,_,rfl,_,rfl,p,_,_,_,rfl,rfl,SqT.of g4,Z0f (Z14 (hrow.get hxn)),lf,_,_,rfl,rfl,g6,?_,?_⟩
      ·rw[Z0k]; exact Z0j (by omega)
      refine⟨_,_,_,_,rfl,Z02 g1 Hlf,by rw[Z05 nls.symm]; exact g2,fun j q hq=>?_,by rw[Z05 nlf.symm]; exact g5,by rw[Z01,Z50],f7.new rr ru hi4 f8 hpk hy,?_⟩
      ·have:=g3 j q hq
       rw[Z05 (Zh6 this g6 (by intro z; cases z))]; exact this
      ·rw[Y0t hk1]; exact f8
    ·rintro σ H4 ⟨F1,P1,q7,q8,rfl,f1,f2,f3,f5,f6,f7,f8⟩
     refine⟨_,rfl,_,_,rfl,rfl,⟨F1,P1,kk+1,_,_,_,rfl,f1,.inr ⟨o,f2⟩,f3,f5,f6,f7.next f8⟩,?_⟩
     show (100 - ((kk:Int)+1)).toNat < (100 - (kk:Int)).toNat
     have:=f7.flen
     have:=(Y03.mp f8).1
     omega
   ·have hge:¬ (kk:Int) < (F.length:Int):=fun z=>hge (decide_eq_true z)
    exact⟨_,rfl,k H2 dp F P' s2 Hdp h2p (hP.all (by omega))⟩
  ·rintro σ H Q Q' h ⟨v,e1,v',e2,p,ys,e3,sq,i,j,e4,e5,k,e6,q⟩
   exact⟨v,e1,v',e2,p,ys,e3,sq,i,j,e4,e5,k,e6,h _ _ q⟩
end
end K1
namespace Sq
def Con (r u:List Nat)(f x:Nat):Prop:=∃ p:List Nat,(∀ c∈p,c < 4)/\go r u f p=x
theorem Con.refl (r u:List Nat)(x:Nat):Con r u x x:=⟨[],by simp,rfl⟩
theorem Zq1 (r u:List Nat)(x:Nat)(p q:List Nat):go r u x (p++q)=go r u (go r u x p) q:=by unfold go; rw[List.foldl_append]
theorem Con.trans {r u:List Nat}{x y z:Nat}(h1:Con r u x y)(h2:Con r u y z):Con r u x z:=by
 obtain⟨p,a1,a2⟩:=h1
 obtain⟨q,b1,b2⟩:=h2
 exact⟨p++q,fun c hc=>(Y0n.mp hc).elim (a1 c) (b1 c),by rw[Zq1,a2,b2]⟩
theorem Con.step {r u:List Nat}(x c:Nat)(hc:c < 4):Con r u x (nx (rw4 r u c) x):=⟨[c],by simpa using hc,rfl⟩
def twn (c:Nat):Nat:=if c % 2=0 then c+1 else c - 1
theorem Zgv {n:Nat}{r u:List Nat}(rr:Row n r)(ru:Row n u){c x:Nat}(hc:c < 4)(hx:x < n):nx (rw4 r u (twn c)) (nx (rw4 r u c) x)=x:=by
 match c,hc with
 | 0,_=>show nx (back r) (nx r x)=x; rw[Z46 rr (rr.nlt hx),rr.idx_nx hx]
 | 1,_=>show nx r (nx (back r) x)=x; rw[Z46 rr hx,rr.nx_idx hx]
 | 2,_=>show nx (back u) (nx u x)=x; rw[Z46 ru (ru.nlt hx),ru.idx_nx hx]
 | 3,_=>show nx u (nx (back u) x)=x; rw[Z46 ru hx,ru.nx_idx hx]
theorem Con.symm {n:Nat}{r u:List Nat}(rr:Row n r)(ru:Row n u){x y:Nat}(hx:x < n)(h:Con r u x y):Con r u y x:=by
 obtain⟨p,h4,rfl⟩:=h
 induction p generalizing x with
 | nil=>exact Con.refl _ _ _
 | cons c p ih=>
  have hc:=h4 c (by simp)
  have h1:=ih ((Zd2 rr ru c).nlt hx) (fun y hy=>h4 y (by simp[hy]))
  have h2:Con r u (nx (rw4 r u c) x) x:=by
   have:twn c < 4:=by unfold twn; split <;> omega
   have e:=Con.step (r:=r) (u:=u) (nx (rw4 r u c) x) (twn c) this
   rw[Zgv rr ru hc hx]at e
   exact e
  exact h1.trans h2
theorem Z6e.con {n:Nat}{r u:List Nat}{f:Nat}{F:List Nat}{P:List (List Nat)}(h:Z6e n r u f F P){x:Nat}:x∈F↔Con r u f x:=by
 constructor
 ·intro hx
  obtain⟨i,hi,e⟩:=Y0x.mp hx
  have hP:i < P.length:=by rw[h.len]; exact hi
  obtain⟨g1,_,g3⟩:=h.ok i x _ (by rw[Y00 hi,e]) (Y00 hP)
  exact⟨_,g3,g1⟩
 ·rintro ⟨p,h4,rfl⟩
  have:∀ (p:List Nat) (y:Nat),y∈F->(∀ c∈p,c < 4)->go r u y p∈F:=by
   intro p
   induction p with
   | nil=>intro y hy _; exact hy
   | cons c p ih=>
    intro y hy h4
    exact ih _ (h.shut y hy c (h4 c (by simp))) (fun z hz=>h4 z (by simp[hz]))
  exact this p f h.hd h4
open Classical in
noncomputable def clsG (n:Nat) (r u:List Nat) (f:Nat):List Nat:=(Y04 n).filter fun x=>decide (Con r u f x)
theorem Z2f {n:Nat}{r u:List Nat}{f x:Nat}:x∈clsG n r u f↔x < n/\Con r u f x:=by
 unfold clsG; rw[Y14,Y08]; simp
theorem Z5x (n:Nat)(r u:List Nat)(f:Nat):(clsG n r u f).Nodup:=List.nodup_range.filter _
theorem Z3n (n:Nat)(r u:List Nat)(f:Nat):(clsG n r u f).Pairwise (·<=·):=(Z3a n).filter _
theorem Z6e.clsG {n:Nat}{r u:List Nat}{f:Nat}{F S:List Nat}{P:List (List Nat)}(h:Z6e n r u f F P)(p:S.Perm F)(so:S.Pairwise (·<=·)):S=clsG n r u f:=by
 refine Z1v (p.trans ((Y1c h.nd (Z5x _ _ _ _)).mpr fun x=>?_)) so (Z3n _ _ _ _)
 rw[Z2f,<-h.con]
 exact⟨fun hx=>⟨h.lt x hx,hx⟩,fun hx=>hx.2⟩
def Z43 (n:Nat)(r u:List Nat)(f:Nat):Prop:=∀ x,x < n->Con r u f x->f<=x
open Classical in
noncomputable def Z4t (n:Nat) (r u:List Nat) (i:Nat):List (List Nat):=((Y04 i).filter fun f=>decide (Z43 n r u f)).map (clsG n r u)
noncomputable def grp (n:Nat) (r u:List Nat):List (List Nat):=Z4t n r u n
theorem Zim {n:Nat}{r u:List Nat}{i:Nat}(h:Z43 n r u i):Z4t n r u (i+1)=Z4t n r u i++[clsG n r u i]:=by
 unfold Z4t; rw[Y1j,Y1n,Y0p]; simp[h]
theorem Zkb {n:Nat}{r u:List Nat}{i:Nat}(h:¬ Z43 n r u i):Z4t n r u (i+1)=Z4t n r u i:=by
 unfold Z4t; rw[Y1j,Y1n,Y0p]; simp[h]
theorem Zgp (n:Nat)(r u:List Nat)(i:Nat):(Z4t n r u i).length<=i:=by
 unfold Z4t; rw[Y09]; exact Y17 (Y1z _ _) (by simp)
theorem Z8s {n:Nat}{r u:List Nat}(rr:Row n r)(ru:Row n u){i:Nat}(hi:i < n):(∃ f,f < i/\Con r u f i)↔¬ Z43 n r u i:=by
 constructor
 ·rintro ⟨f,hf,hc⟩ hL
  have:=hL f (by omega) (hc.symm rr ru (by omega))
  omega
 ·intro h
  unfold Z43 at h
  have:∃ x,x < n/\Con r u i x/\x < i:=by
   apply Classical.byContradiction
   intro hn
   exact h fun x hx hc=>Nat.le_of_not_lt fun hlt=>hn ⟨x,hx,hc,hlt⟩
  obtain⟨x,hx,hc,hlt⟩:=this
  exact⟨x,hlt,hc.symm rr ru hi⟩
end Sq
namespace K1
open PySem L2 Sq
section
variable {P:Program}{w:World}{K:Y01}{mg:Str->Option Value}{base:Heap}
theorem Zr9:Z0n ["sheet"] ["sheet"] (Z08 Zfb):=⟨rfl,rfl,rfl,by decide +kernel,rfl,by decide +kernel,by decide +kernel⟩
theorem Zn3 {f:Addr}{fd:FuncData}(T:Bi mg)(F:Fn K mg "size" Zfb ["sheet"] f fd):Z13 P w K mg base CX0 1 f fd ["sheet"] Zjf:=by
 refine F.F.ok Zr9 (fun vs H Q E h=>?_) (fun cdv A outer s H vs Q E hr h=>?_)
 ·obtain⟨a,r,u,rfl,_⟩:=h; rfl
 ·obtain⟨a,r,u,rfl,⟨p,q,h1,h2,h3⟩,k⟩:=h
  refine⟨_,Z07 (Z0o (Z0a Z0b (by rfl) T.len PySem.boot_len (Z00 (Z0t Z1h (pv 0) Z09 (fun _ _=>rfl)) Z04))),?_⟩
  refine⟨_,rfl,a,_,0,_,rfl,rfl,SqT.of h1,Z0f (j:=0) rfl,p,_,rfl,.inr (SqT.of h2),?_⟩
  rw[Z0k]; exact k
end
def Za8 (M:List Nat):List (Key×V):=M.map fun (x:Nat)=>((Sum.inl (x:Int):Key),V.bl true)
theorem Z7f:∀ (M:List Nat) (y:Nat),Z2s (Za8 M) (Sum.inl (y:Int):Key)=if y∈M then some (.bl true) else none
 | [],y=>rfl
 | x :: M,y=>by
  show Z2s ((((Sum.inl (x:Int):Key),V.bl true)) :: Za8 M) _=_
  by_cases e:x=y
  ·subst e; rw[Z21 rfl,if_pos (by simp)]
  ·rw[Z17 (fun z=>e (by have:=Sum.inl.inj z; omega)),Z7f M y]
   by_cases h:y∈M
   ·rw[if_pos h,if_pos (by simp[h])]
   ·rw[if_neg h,if_neg (by simp[h]; exact fun z=>e z.symm)]
def Z5z (H:Hp)(gs:List Addr)(Ss:List (List Nat)):Prop:=gs.length=Ss.length/\∀ (j:Nat) (g:Addr) (S:List Nat),gs[j]?=some g->Ss[j]?=some S->H g=some (.lst (nv S))
def Zb6:Sp:=fun vs H Q _=>∃ (a:Addr) (n:Nat) (r u:List Nat),vs=[.ref a]/\Z7e H a r u/\Row n r/\Row n u/\n<=36/\
 ∀ (H':Hp) (l:Addr) (gs:List Addr),Z0d H H'->H l=none->(∀ g∈gs,H g=none/\g≠l)->gs.Nodup->H' l=some (.lst (gs.map V.ref))->Z5z H' gs (grp n r u)->Q (.ref l) H'
section
variable {P:Program}{w:World}{K:Y01}{mg:Str->Option Value}{base:Heap}
theorem Z3i:Z0n ["rows","told","seen","first","group","square"] ["rows"] (Z08 Z48):=⟨rfl,rfl,rfl,by decide +kernel,rfl,by decide +kernel,by decide +kernel⟩
set_option maxHeartbeats 1000000 in
theorem Zg1 {f fz fp:Addr}{fd fdz fdp:FuncData}(T:Bi mg)(F:Fn K mg "groups_of" Z48 ["rows"] f fd)(FZ:Fn K mg "size" Zfb ["sheet"] fz fdz)(GZ:Z13 P w K mg base CX0 1 fz fdz ["sheet"] Zjf)
  (FP:Fn K mg "paths_from" Z8t ["rows","first"] fp fdp) (GP:Z13 P w K mg base CX0 3 fp fdp ["rows","first"] Zcl):Z13 P w K mg base CX0 4 f fd ["rows"] Zb6:=by
 refine F.F.ok Z3i (fun vs H Q E h=>?_) (fun cdv A outer s H vs Q E hr h=>?_)
 ·obtain⟨a,n,r,u,rfl,_⟩:=h; rfl
 ·obtain⟨a,n,r,u,rfl,hsh,rr,ru,hn,k⟩:=h
  have hu:=Z83 hr
  have hr1:Z2d 1 _:=hr.mono (by decide)
  refine⟨_,Z03 (Z0c (i:=1) Z3i.nd rfl (Or.inl rfl) (Z1y Z04))
   (Z03 (Z0c (i:=2) Z3i.nd rfl (Or.inl rfl) Z2e)
   (Z03 (Z1o PassesOwn.never rfl (Z1n rfl T.range (Z00 (Z0h GZ hr1 rfl FZ.m FZ.F.kp FZ.b .nil Z0z (Z00 (pv 0) Z04)) Z04)) (Z0i (i:=3) Z3i.nd rfl (Or.inl rfl))
    (Z07 (Z1f (Zeu (Z5c hu (pv 3) (pv 2)))
     (Z03 (Z0c (i:=4) Z3i.nd rfl (Or.inl rfl) (Z0a (Z2b rfl) rfl T.sorted Z22 (Z00 (Z0h GP hr rfl FP.m FP.F.kp FP.b .nil Z0z (Z00 (pv 0) (Z00 (pv 3) Z04))) Z04)))
     (Z03 (Z1s (Z34 PySem.F.plainAttrs_list PySem.F.slot_list_append PySem.F.type_list_append Z11 (pv 1) (Z00 (pv 4) Z04)))
     (Z07 (Z1o PassesOwn.never rfl (Z1x (pv 4)) (Z0i (i:=5) Z3i.nd rfl (Or.inl rfl)) (Z07 (Z2x hu (pv 2) (pv 5) Zaf rfl)))))) Z0p)))
   (Z07 (Z0o (pv 1))))),?_⟩
  refine⟨Y0w _,fun lt hlt=>?_⟩
  intro dn hdn
  have s1:Z0d H (upd H lt (.lst [])):=Z02 (Z0d.refl H) hlt
  have Hdn:H dn=none:=s1.free hdn
  have s2:Z0d H (upd (upd H lt (.lst [])) dn (.dK [])):=Z02 s1 Hdn
  have nlt:lt≠dn:=fun e=>by rw[<-e,Z01]at hdn; cases hdn
  refine⟨_,rfl,a,r,u,rfl,hsh.same s2,(r.length:Int),rfl,by omega,by have:=rr.len; omega,?_⟩
  rw[Int.toNat_natCast,rr.len]
  refine Z2g (n:=n) (fun i σ H2=>∃ (o3 o4 o5:Option V) (gs:List Addr) (M:List Nat),σ=[some (.ref a),some (.ref lt),some (.ref dn),o3,o4,o5]/\Z0d H H2/\H2 lt=some (.lst (gs.map V.ref))/\H2 dn=some (.dK (Za8 M))/\
   (∀ g∈gs,H g=none/\g≠lt/\g≠dn)/\gs.Nodup/\Z5z H2 gs (Z4t n r u i)/\M.Nodup/\∀ x,x∈M↔x < n/\∃ f,f < i/\Con r u f x) ?_ ?_ ?_
  ·exact⟨_,_,_,[],[],rfl,s2,by rw[Z05 nlt,Z01]; rfl,Z01,by simp,by simp,⟨rfl,by simp⟩,by simp,fun x=>by simp⟩
  ·rintro i σ H2 hi ⟨o3,o4,o5,gs,M,rfl,e2,h2t,h2n,hfr,hnd,hls,hMn,hM⟩
   have hMl:M.length<=n:=by
    have:=Z16 M (Y04 n) hMn fun x hx=>Y08.mpr ((hM x).mp hx).1
    simpa using this
   have hgl:gs.length<=36:=by rw[hls.1]; have:=Zgp n r u i; omega
   refine⟨_,rfl,_,rfl,dn,_,rfl,Z6k.k (k:=(Sum.inl (0+(i:Int)):Key)) h2n,_,rfl,?_⟩
   rw[Int.zero_add,Z7f]
   by_cases hs:i∈M
   ·rw[if_pos hs]
    refine Z2j ?_
    have hnl:¬ Z43 n r u i:=(Z8s rr ru hi).mp ((hM i).mp hs).2
    refine⟨_,_,_,gs,M,rfl,e2,h2t,h2n,hfr,hnd,by rw[Zkb hnl]; exact hls,hMn,fun x=>?_⟩
    rw[hM x]
    constructor
    ·rintro ⟨hx,f,hf,hc⟩; exact⟨hx,f,by omega,hc⟩
    ·rintro ⟨hx,f,hf,hc⟩
     refine⟨hx,?_⟩
     rcases Y0z f i with c | c
     ·exact⟨f,c,hc⟩
     ·have:f=i:=by omega
      subst this
      obtain⟨_,f0,hf0,hc0⟩:=(hM f).mp hs
      exact⟨f0,hf0,hc0.trans hc⟩
   ·rw[if_neg hs]
    refine Z2m ?_
    have hL:Z43 n r u i:=Classical.byContradiction fun hnl=>hs ((hM i).mpr ⟨hi,(Z8s rr ru hi).mpr hnl⟩)
    refine⟨_,rfl,_,rfl,a,n,r,u,i,rfl,hsh.same e2,rr,ru,hn,hi,fun H3 dp F' P' e3 _ h3 hP=>?_⟩
    have hFl:F'.length<=n:=by
     have:=Z16 F' (Y04 n) hP.nd fun x hx=>Y08.mpr (hP.lt x hx)
     simpa using this
    refine⟨dp,F',rfl,.inr (.inr ⟨_,h3,Z9z hP.len⟩),by omega,fun g S hg pS sS=>?_⟩
    have eS:=hP.clsG pS sS
    subst eS
    have ngt:lt≠g:=Z06 (e3 _ _ h2t) hg
    have h4t:(upd H3 g (.lst (nv (clsG n r u i)))) lt=some (.lst (gs.map V.ref)):=by rw[Z05 ngt]; exact e3 _ _ h2t
    refine⟨_,rfl,.inl ⟨rfl,_,SqL.of h4t⟩,_,rfl,lt,_,_,rfl,rfl,h4t,by rw[Y09]; exact Z0j (by omega),?_⟩
    have e23:=e2.trans e3
    have Hg:H g=none:=e23.free hg
    have ndg:dn≠g:=Z06 (e3 _ _ h2n) hg
    have hgn:g∉gs:=fun hgm=>by
     obtain⟨j,hj,ej⟩:=Y0x.mp hgm
     have hj':j < (Z4t n r u i).length:=by rw[<-hls.1]; exact hj
     have:=e3 _ _ (hls.2 j g _ (by rw[Y00 hj,ej]) (Y00 hj'))
     rw[hg]at this; cases this
    have f1:Z0d H (upd (upd H3 g (.lst (nv (clsG n r u i)))) lt (.lst (gs.map V.ref++[.ref g]))):=Z02 (Z02 e23 Hg) hlt
    have f2:(upd (upd H3 g (.lst (nv (clsG n r u i)))) lt (.lst (gs.map V.ref++[.ref g]))) g=some (.lst (nv (clsG n r u i))):=by rw[Z05 ngt.symm,Z01]
    have f3:Z5z (upd (upd H3 g (.lst (nv (clsG n r u i)))) lt (.lst (gs.map V.ref++[.ref g]))) (gs++[g]) (Z4t n r u (i+1)):=by
     rw[Zim hL]
     refine⟨by rw[Y07,Y07,hls.1]; rfl,fun j g' S' hj hS=>?_⟩
     rcases Y0z j gs.length with c | c
     ·rw[Y0t c]at hj
      rw[Y0t (by rw[<-hls.1]; exact c)]at hS
      have q:=e3 _ _ (hls.2 j g' S' hj hS)
      obtain⟨_,n1,_⟩:=hfr g' (Y0a hj)
      rw[Z05 n1,Z05 (Z06 q hg)]
      exact q
     ·have hj2:j=gs.length:=by
       have:=(Y03.mp hj).1
       rw[Y07]at this
       simp at this
       omega
      subst hj2
      rw[Y0q (Y06 _)]at hj
      rw[Y0q (by rw[hls.1]; exact Y06 _),hls.1]at hS
      simp at hj hS
      subst hj hS
      exact f2
    have disj:∀ x∈clsG n r u i,x∉M:=fun x hx hxm=>by
     obtain⟨_,f0,hf0,hc0⟩:=(hM x).mp hxm
     obtain⟨hxn,hc⟩:=Z2f.mp hx
     have h1:=hc0.trans (hc.symm rr ru hi)
     exact hs ((hM i).mpr ⟨hi,f0,hf0,h1⟩)
    refine⟨_,rfl,g,rfl,⟨_,SqL.of f2⟩,Z4m (K:=K) (a:=g) (xs:=nv (clsG n r u i)) (fun j σ H4=>∃ o5,σ=[some (.ref a),some (.ref lt),some (.ref dn),some (.int (i:Int)),some (.ref g),o5]/\Z0d H H4/\H4 lt=some (.lst (gs.map V.ref++[.ref g]))/\H4 g=some (.lst (nv (clsG n r u i)))/\
      Z5z H4 (gs++[g]) (Z4t n r u (i+1))/\H4 dn=some (.dK (Za8 (M++(clsG n r u i).take j))))
     ⟨_,rfl,f1,Z01,f2,f3,by rw[Z05 nlt.symm,Z05 ndg,List.take_zero,Y1f]; exact e3 _ _ h2n⟩ (fun j σ H4 _ ⟨_,_,_,_,e,_⟩=>SqL.of e) ?_ ?_⟩
    ·rintro j x σ H4 hx ⟨o5,rfl,q1,q2,q3,q5,q4⟩
     obtain⟨y,hy,rfl⟩:=Z3e hx
     have hj:j < (clsG n r u i).length:=(Y03.mp hy).1
     have hyn:y∉M++(clsG n r u i).take j:=fun hm=>by
      rcases Y0n.mp hm with hm | hm
      ·exact disj y (Y0a hy) hm
      ·obtain⟨j',hj',e'⟩:=Y0x.mp hm
       rw[Y18]at hj'
       rw[List.getElem_take]at e'
       have ey:=(Y03.mp hy).2
       have:=Zha (Z5x n r u i) (show j' < (clsG n r u i).length by omega) hj (e'.trans ey.symm)
       omega
     have hlen:(Za8 (M++(clsG n r u i).take j)).length < sizeLine:=by
      have h1:(clsG n r u i).length<=n:=by unfold clsG; exact Y17 (Y1z _ _) (by simp)
      unfold Za8
      rw[Y09,Y07,Y18]
      exact Z0j (by omega)
     refine⟨_,rfl,_,rfl,dn,_,rfl,Zc3.k (k:=(Sum.inl (y:Int):Key)) q4 hlen,?_⟩
     have keepL:Z5z (upd H4 dn (.dK (Z58 (Za8 (M++(clsG n r u i).take j)) (Sum.inl (y:Int)) (.bl true)))) (gs++[g]) (Z4t n r u (i+1)):=⟨q5.1,fun j' g' S' a1 a2=>by
      have q:=q5.2 j' g' S' a1 a2
      have:g'≠dn:=by
       rcases Y0n.mp (Y0a a1) with hm | hm
       ·exact (hfr g' hm).2.2
       ·rw[Y0g.mp hm]; exact ndg.symm
      rw[Z05 this]; exact q⟩
     refine⟨_,rfl,Z02 q1 Hdn,by rw[Z05 nlt]; exact q2,by rw[Z05 ndg.symm]; exact q3,keepL,?_⟩
     have ht:(clsG n r u i).take (j+1)=(clsG n r u i).take j++[y]:=by rw[Y11,hy]; rfl
     rw[Z01,Z28 _ (by rw[Z7f,if_neg hyn]),ht,<-Y1l]
     unfold Za8
     rw[Y0p (l₁:=M++(clsG n r u i).take j)]; rfl
    ·rintro σ H4 ⟨o5,rfl,q1,q2,q3,q5,q4⟩
     rw[Z0k,Y1u]at q4
     refine⟨_,_,_,gs++[g],M++clsG n r u i,rfl,q1,by rw[q2,Y0p]; rfl,q4,fun g' hg'=>?_,?_,q5,?_,fun x=>?_⟩
     ·rcases Y0n.mp hg' with hm | hm
      ·exact hfr g' hm
      ·rw[Y0g.mp hm]; exact⟨Hg,ngt.symm,ndg.symm⟩
     ·exact Y1y.mpr ⟨hnd,by simp,fun x hx y hy=>by rw[Y0g.mp hy]; exact fun z=>hgn (z ▸ hx)⟩
     ·exact Y1y.mpr ⟨hMn,Z5x _ _ _ _,fun x hx y hy z=>disj y hy (z ▸ hx)⟩
     ·rw[Y0n,hM x,Z2f]
      constructor
      ·rintro (⟨hx,f0,hf0,hc⟩ | ⟨hx,hc⟩)
       ·exact⟨hx,f0,by omega,hc⟩
       ·exact⟨hx,i,by omega,hc⟩
      ·rintro ⟨hx,f0,hf0,hc⟩
       rcases Y0z f0 i with c | c
       ·exact .inl ⟨hx,f0,c,hc⟩
       ·have:f0=i:=by omega
        subst this
        exact .inr ⟨hx,hc⟩
  ·rintro σ H2 ⟨o3,o4,o5,gs,M,rfl,e2,h2t,h2n,hfr,hnd,hls,hMn,hM⟩
   exact⟨_,rfl,k H2 lt gs e2 hlt (fun g hg=>⟨(hfr g hg).1,(hfr g hg).2.1⟩) hnd h2t hls⟩
end
end K1
namespace L2
open PySem PySem.Spec PyProof.Rows
section
variable {X:Cx}
end
def Zmq (K:Y01)(l1 l2:Addr):It:=
 ⟨fun i H=>∃ xs ys x y,SqL K H l1 xs/\SqL K H l2 ys/\xs[i]?=some x/\ys[i]?=some y,
 fun i H x H'=>∃ T a b,H T=none/\x=.ref T/\(∀ xs,SqL K H l1 xs->xs[i]?=some a)/\(∀ ys,SqL K H l2 ys->ys[i]?=some b)/\H'=upd H T (Z42 T [a,b]),
 fun i H=>∃ xs ys,SqL K H l1 xs/\SqL K H l2 ys/\min xs.length ys.length=i⟩
abbrev ZSt (z TI TO i1 i2 l1 l2:Addr)(i:Nat)(h:Heap):Prop:=IsZip h z TI TO .none/\IsPair h TI (.ref i1) (.ref i2)/\(∃ a b,IsPair h TO a b)/\h.IsListIter i1 l1 i/\h.IsListIter i2 l2 i
theorem Zip {X:Cx}{pins:List (Addr×Obj)}{σ:St}{H:Hp}{s:Shared}(I:Inv X pins σ H s){a:Addr}{xs ys:List V}(h1:SqL X.K H a xs)(h2:SqL X.K H a ys):ys=xs:=I.list_inj h2 h1
theorem Zl6 {P:Program}{w:World}{K:Y01}{elts:List Expr}{k:Nat}{pos:Pos}(z TI TO i1 i2 l1 l2:Addr)(D:ZipApart z TI TO i1 i2 l1 l2) :
  Zjs P w K (.Tuple elts k pos) (Zmq K l1 l2) [z,TI,TO,i1,i2] z (ZSt z TI TO i1 i2 l1 l2) where
 mem:=by simp
 obj:=fun i h st b hb=>by
  obtain⟨hz,hTI,⟨a,b',hTO⟩,⟨o1,e1,c1,d1⟩,⟨o2,e2,c2,d2⟩⟩:=st
  simp at hb
  rcases hb with rfl | rfl | rfl | rfl | rfl
  ·exact⟨_,hz,fun v z=>nomatch z⟩
  ·exact⟨_,hTI,fun v z=>nomatch z⟩
  ·exact⟨_,hTO,fun v z=>nomatch z⟩
  ·exact⟨_,e1,fun v z=>by rw[d1]at z; cases z⟩
  ·exact⟨_,e2,fun v z=>by rw[d2]at z; cases z⟩
 keep:=fun i h h' st kp=>by
  obtain⟨hz,hTI,⟨a,b,hTO⟩,h1,h2⟩:=st
  exact⟨kp z (by simp) _ hz,kp TI (by simp) _ hTI,⟨a,b,kp TO (by simp) _ hTO⟩,h1.at fun o e=>kp i1 (by simp) o e,h2.at fun o e=>kp i2 (by simp) o e⟩
 item:=by
  intro X hP hw hK hc i pins s σ H E I hf st hg
  subst hP hw hK
  obtain⟨xs,ys,x,y,hx,hy,gx,gy⟩:=hg
  obtain⟨ix,rx,px,zx⟩:=I.list hx
  obtain⟨iy,ry,py,zy⟩:=I.list hy
  have lx:i < ix.toArray.size:=by
   have:=(Y03.mp gx).1
   rw[rx.length]at this; simpa using this
  have ly:i < iy.toArray.size:=by
   have:=(Y03.mp gy).1
   rw[ry.length]at this; simpa using this
  have W:=WalksT.zip2 (prog:=X.prog) (w:=X.w) (I.ok.hd hc) z TI TO i1 i2 l1 l2 D ix.toArray iy.toArray
  obtain⟨hz,hTI,hTO,h1,h2⟩:=id st
  refine W.item i s _ E (Nat.lt_min.mpr ⟨lx,ly⟩) ⟨hz,hTI,hTO,h1,h2,px.isList,py.isList⟩ fun T vals h' tk hPt hT htup hMid hk=>⟨.ref T,rfl,?_⟩
  refine W.go elts k pos i T _ _ E hMid fun h'' hSt hk2=>?_
  obtain⟨x',y',ex,ey,rfl⟩:=hPt
  obtain⟨u,hu,ru⟩:=rx.get gx
  obtain⟨v,hv,rv⟩:=ry.get gy
  have e1:x'=u:=by
   have:ix[i]?=some x':=by simpa using ex
   rw[hu]at this; exact (Option.some.inj this).symm
  have e2:y'=v:=by
   have:iy[i]?=some y':=by simpa using ey
   rw[hv]at this; exact (Option.some.inj this).symm
  subst e1 e2
  have htup2:IsTup h'' T #[x',y']:=by
   obtain⟨o,q1,q2⟩:=htup
   exact⟨o,hk2 T o (W.apart _ _ _ hMid) q1,q2⟩
  refine⟨.ref T,upd H T (Z42 T [x,y]),?_,rfl,⟨T,x,y,I.hok.fresh hT,rfl,fun zs hzs=>by rw[Zip I hx hzs]; exact gx,fun zs hzs=>by rw[Zip I hy hzs]; exact gy,rfl⟩,⟨hSt.1,hSt.2.1,hSt.2.2.1,hSt.2.2.2.1,hSt.2.2.2.2.1⟩,fun b hb=>?_⟩
  ·refine I.turnLaid (s:=s) (h':=h'') (t':=tk) hf hT (fun b ob hb q=>?_) (Zd8 ⟨by show 2<=sizeLine; decide,[x',y'],.cons ru (.cons rv .nil),htup2⟩)
   have hb':b∉[z,TO,i1,i2]:=fun z=>hb (by simp at z ⊢; rcases z with h | h | h | h <;> simp[h])
   exact hk2 b ob hb' (hk b ob hb' q)
  ·have hbT:b≠T:=fun zz=>by
    have:b < s.heap.objs.size:=by
     obtain⟨a,b',hTO⟩:=hTO
     obtain⟨o1,q1,_⟩:=h1
     obtain⟨o2,q2,_⟩:=h2
     simp at hb
     rcases hb with rfl | rfl | rfl | rfl | rfl
     ·exact Y0c hz
     ·exact Y0c hTI
     ·exact Y0c hTO
     ·exact Y0c q1
     ·exact Y0c q2
    exact absurd (Y0h this hT) (by rw[zz]; exact Y1i _)
   rw[Z05 hbT]; exact (hf b hb).1
 done:=by
  intro X hP hw hK hc i pins s σ H E I hf st hs
  subst hP hw hK
  obtain⟨xs,ys,hx,hy,hle⟩:=hs
  obtain⟨ix,rx,px,zx⟩:=I.list hx
  obtain⟨iy,ry,py,zy⟩:=I.list hy
  have W:=WalksT.zip2 (prog:=X.prog) (w:=X.w) (I.ok.hd hc) z TI TO i1 i2 l1 l2 D ix.toArray iy.toArray
  obtain⟨hz,hTI,hTO,h1,h2⟩:=id st
  have hi:i=min ix.toArray.size iy.toArray.size:=by rw[<-hle,rx.length,ry.length]; simp
  refine W.done s _ E (by rw[<-hi]; exact⟨hz,hTI,hTO,h1,h2,px.isList,py.isList⟩) fun h' tk hk=>⟨rfl,?_⟩
  exact I.turnedL hf fun b ob hb q=>hk b ob (fun z=>hb (by simp at z ⊢; rcases z with h | h | h | h <;> simp[h])) q
 self:=fun A i s Q E st h=>wpAny_pyIter_zip st.1 h
section
variable {X:Cx}{elts:List Expr}{k:Nat}{tpos:Pos}
def iZip (K:Y01)(ta:TA):TI:=fun σ H R=>ta σ H fun vs H1=>∃ a b,vs=[.ref a,.ref b]/\(∃ xs,SqL K H1 a xs)/\(∃ ys,SqL K H1 b ys)/\R (Zmq K a b) H1
theorem Zkw:bootBuiltins "zip"=some (.type "zip"):=by decide +kernel
theorem Zmg {l1 l2:Expr}{ta:TA}{p pos:Pos}(hg:Gl X "zip")(hm:X.mg "zip"=none)(ha:PA X [l1,l2] ta)(hs:starEach [l1,l2] X.env=[(false,eval l1 X.env),(false,eval l2 X.env)]:=by rfl)(hs2:starEach [l2] X.env=[(false,eval l2 X.env)]:=by rfl) :
  PI X (.Tuple elts k tpos) (.Call (.Name "zip" p) [l1,l2] [] pos) (iZip X.K ta):=by
 intro pins s σ H R I h
 refine Call_ (Z4x I hg hm Zkw (PyProof.Rows.callWith_type1 (thn (ha pos pins s σ H _ I h) fun us s1 ⟨vs,H1,I1,r1,q1⟩=>?_) (by rw[hs,hs2]) (by rw[hs2]; rfl)))
 obtain⟨a,b,rfl,⟨xs,hx⟩,⟨ys,hy⟩,q⟩:=q1
 obtain⟨u,v,rfl,ru,rv⟩:=Zh1 r1
 obtain rfl:u=Value.ref a:=ru
 obtain rfl:v=Value.ref b:=rv
 obtain⟨ix,rx,px,zx⟩:=I1.list hx
 obtain⟨iy,ry,py,zy⟩:=I1.list hy
 have ha:a < s1.heap.objs.size:=by obtain⟨o,ho,_⟩:=px.isList; exact Y0c ho
 have hb:b < s1.heap.objs.size:=by obtain⟨o,ho,_⟩:=py.isList; exact Y0c ho
 refine call_zip_2 px.isList py.isList fun h' q1 q2 q3 q4 q5 hsz hk=>?_
 refine wpAny_pyIter_zip q1 ?_
 have I2:Inv X pins σ H1 { s1 with heap:=h' }:=I1.kept (t':=s1.toks) hk
 have D:ZipApart (s1.heap.objs.size+4) (s1.heap.objs.size+2) (s1.heap.objs.size+3) s1.heap.objs.size (s1.heap.objs.size+1) a b:=by
  have ha':∀ k:Nat,a≠s1.heap.objs.size+k:=fun k=>Y0l (Y0h ha (Nat.le_add_right _ k))
  have hb':∀ k:Nat,b≠s1.heap.objs.size+k:=fun k=>Y0l (Y0h hb (Nat.le_add_right _ k))
  have nn:∀ i j:Nat,i≠j->s1.heap.objs.size+i≠s1.heap.objs.size+j:=fun i j h z=>h (Nat.add_left_cancel z)
  exact⟨nn 2 4 (by decide),nn 3 4 (by decide),nn 0 4 (by decide),nn 1 4 (by decide),nn 2 3 (by decide),nn 2 0 (by decide),nn 2 1 (by decide),nn 3 0 (by decide),nn 3 1 (by decide),nn 0 1 (by decide),ha' 4,ha' 3,ha' 0,ha' 1,hb' 4,hb' 3,hb' 0,hb' 1⟩
 refine⟨s1.heap.objs.size+4,[s1.heap.objs.size+4,s1.heap.objs.size+2,s1.heap.objs.size+3,s1.heap.objs.size,s1.heap.objs.size+1],_,_,H1,rfl,I2,Zl6 _ _ _ _ _ _ _ D,⟨q1,q2,⟨_,_,q3⟩,q4,q5⟩,fun c hc=>?_,q⟩
 have hle:s1.heap.objs.size<=c:=by
  simp at hc
  rcases hc with rfl | rfl | rfl | rfl | rfl <;> (show s1.heap.objs.size<=_; omega)
 exact I1.fpOk hle (I1.hok.fresh hle)
theorem Zph {K:Y01}{l1 l2:Addr}{xs ys:List V}{g:TG}{tb:TS}{D:Z85}{σ:St}{H:Hp}(hl:xs.length=ys.length)(Pv:Nat->St->Hp->Prop)(h0:Pv 0 σ H)(hL:∀ i σ H,Pv i σ H->SqL K H l1 xs/\SqL K H l2 ys)
  (hs:∀ i a b σ H T,xs[i]?=some a->ys[i]?=some b->H T=none->Pv i σ H->g (.ref T) σ (upd H T (Z42 T [a,b])) fun σ2 H2=>tb { D with nx:=Pv (i+1),ct:=Pv (i+1),bk:=D.nx } σ2 H2) (hd:∀ σ H,Pv xs.length σ H->D.nx σ H) :
  ∃ W:Nat->Nat->St->Hp->Prop,(∃ m,W 0 m σ H)/\∀ i m σ H,W i m σ H->
   ((Zmq K l1 l2).stop i H/\D.nx σ H)\/((Zmq K l1 l2).go i H/\∃ N:St->Hp->Prop,(∀ σ' H',N σ' H'->∃ m',m' < m/\W (i+1) m' σ' H')/\∀ x H',(Zmq K l1 l2).yld i H x H'->g x σ H' fun σ2 H2=>tb { D with nx:=N,ct:=N,bk:=D.nx } σ2 H2):=by
 refine⟨fun i m σ H=>m=xs.length - i/\i<=xs.length/\Pv i σ H,⟨xs.length,by simp,Y0w _,h0⟩,?_⟩
 rintro i m σ H ⟨rfl,hi,hp⟩
 obtain⟨q1,q2⟩:=hL i σ H hp
 by_cases hlt:i < xs.length
 ·have g1:xs[i]?=some xs[i]:=Y00 hlt
  have hlt2:i < ys.length:=by omega
  have g2:ys[i]?=some ys[i]:=Y00 hlt2
  refine .inr ⟨⟨_,_,_,_,q1,q2,g1,g2⟩,Pv (i+1),fun σ' H' p'=>⟨xs.length - (i+1),by omega,rfl,hlt,p'⟩,fun x H' y=>?_⟩
  obtain⟨T,a,b,hT,rfl,e1,e2,rfl⟩:=y
  exact hs i a b σ H T (e1 _ q1) (e2 _ q2) hT hp
 ·have e:i=xs.length:=by omega
  subst e
  exact .inl ⟨⟨_,_,q1,q2,by omega⟩,hd σ H hp⟩
end
theorem Zcd (ns:List Int):∀ n,n<=ns.length->preSum (fun i=>ns.getD i 0) n=(ns.take n).sum:=by
 intro n
 induction n with
 | zero=>intro _; simp[preSum]
 | succ n ih=>
  intro h
  have hn:n < ns.length:=by omega
  rw[Y11,Y00 hn,List.sum_append]
  show preSum (fun i=>ns.getD i 0) n+ns.getD n 0=_
  rw[ih (by omega)]
  simp[Y05,hn]
section
variable {X:Cx}
theorem Zkx:bootBuiltins "sum"=some (.builtin "sum"):=by decide +kernel
theorem Zif (hc:X.calm=true):Z33 X (.builtin "sum") (fun xs H Q=>∃ (p:Addr) (ns:List Int),xs=[.ref p]/\SqL X.K H p (ns.map V.int)/\Q (.int ns.sum) H):=by
 intro pins s σ H xs us Q I r h
 obtain⟨p,ns,rfl,hq,q⟩:=h
 obtain⟨u,rfl,ru⟩:=Z3l r
 obtain rfl:u=Value.ref p:=ru
 obtain⟨its,rv,pl,hz⟩:=I.list hq
 have hL:=pl.isList
 have hlt:p < s.heap.objs.size:=by obtain⟨o,ho,_⟩:=id hL; exact Y0c ho
 have hlen:its.length=ns.length:=by rw[<-rv.length]; simp
 refine call_sum_walkG (wpAny_pyIter_list hL ⟨s.heap.objs.size,_,_,its.toArray.size,_,_,fun i=>ns.getD i 0,rfl,Walks.list (A:=X.A.in1) (I.ok.hd hc) s.heap.objs.size p (Y0l hlt) its.toArray,⟨⟨_,Y0b _ rfl,rfl,rfl⟩,hL.push _⟩,fun b hb=>?_,fun i v hP=>?_,fun h' tk t' hk=>?_⟩)
 ·rw[Y1s]
  simp at hb
  rcases hb with rfl | rfl
  ·exact Y21 _
  ·exact Y13 hlt
 ·have hv:its[i]?=some v:=by simpa using hP
  have hi:i < ns.length:=by rw[<-hlen]; exact (Y03.mp hv).1
  have hb:(ns.map V.int)[i]?=some (.int ns[i]):=by simp[hi]
  obtain⟨u,hu,t,rfl⟩:=rv.get hb
  rw[hv]at hu; cases hu
  exact⟨t,by simp[Y05,hi]⟩
 ·refine⟨.int ns.sum,H,?_,⟨t',?_⟩,q⟩
  ·refine I.kept fun b o e=>hk b o (fun hb=>?_) (Y02 _ e)
   have:=Y0c e
   simp at hb
   rw[hb]at this
   exact Y1i _ this
  ·rw[Zcd _ _ (by rw[Y0i,hlen]; exact Y06 _),Y0i,hlen,Y1u]
end
theorem Zcm {prog:Program}{w:World}{A:Around}{R:Result->Shared->Prop}{s:Shared}{elt target iter cnd:Expr}{scope:Scope}{pos:Pos}{it acc:Value}{env:Env}(I:Nat->Shared->Prop)
  (turn:∀ n s,I n s->wpAny (model prog w) A (pyNext it) (fun r s₁=>match r with
   | none=>R (.ok .next) s₁
   | some v=>wpAny (model prog w) A (letOwnedTupleGo target it v) (fun _ s₀=>wpAny (model prog w) A (assign target env v) (fun _ s₂=>
     wpAny (model prog w) A (isTrue cnd env (eval cnd env)) (fun ok s₃=>if ok=true then
     wpAny (model prog w) A (eval elt env) (fun x s₄=>
       wpAny (model prog w) A (call (.builtin "list.append") [acc,x]) (fun _ s₅=>∃ m,m < n/\I m s₅) (notedBy (model prog w) A env fun e s'=>R (.error e) s') s₄) (notedBy (model prog w) A env fun e s'=>R (.error e) s') s₃
      else ∃ m,m < n/\I m s₃) (notedBy (model prog w) A env fun e s'=>R (.error e) s') s₂)
     (notedBy (model prog w) A env fun e s'=>R (.error e) s') s₀) (notedBy (model prog w) A env fun e s'=>R (.error e) s') s₁) (notedBy (model prog w) A env fun e s'=>R (.error e) s') s)
  (n:Nat) (h:I n s) :
  codeAny (model prog w) A (.compLoop (.ListComp elt [⟨target,iter,[cnd],0⟩] scope pos) 0 it acc env) R s:=by
 refine codeAny_loop rfl I (fun n s hI=>?_) n h
 show wpAny _ A ((compTurn (.ListComp elt [⟨target,iter,[cnd],0⟩] scope pos) 0 it acc env).onRaise (fun x=>do noteFrame x env; theTreesLotGoes x)) _ _ s
 refine wpAny_noted ?_
 rw[compTurn_list]
 refine wpAny_bind (wpAny_standAt (wpAny_bind (wpAny_mono (turn n s hI) (fun r s₁ h₁=>?_) fun _ _ h'=>h')))
 cases r with
 | none=>exact wpAny_pure h₁
 | some v=>
  refine wpAny_bind (wpAny_mono h₁ (fun _ s₀ h₀=>?_) fun _ _ h'=>h')
  refine wpAny_bind (wpAny_mono h₀ (fun _ s₂ h₂=>wpAny_bind (wpAny_tests_one (wpAny_mono h₂ (fun ok s₃ h₃=>?_) fun _ _ h'=>h'))) fun _ _ h'=>h')
  cases ok with
  | false=>exact wpAny_pure ⟨rfl,by simpa using h₃⟩
  | true=>
   have h₃:=(show wpAny _ _ _ _ _ _ from by simpa using h₃)
   exact wpAny_bind (wpAny_bind (wpAny_mono h₃ (fun x s₄ h₄=>wpAny_bind (wpAny_mono h₄ (fun _ s₅ h₅=>wpAny_pure (wpAny_pure ⟨rfl,h₅⟩)) fun _ _ h'=>h')) fun _ _ h'=>h'))
def Zo7 (wi:TI)(k:Nat)(pull:List Nat)(g:TG)(tt:TT)(te:TE):TE:=fun σ H Q=>wi σ H fun J H1=>∀ d,H1 d=none->
 ∃ W:Nat->Nat->St->Hp->Prop,(∃ m,W 0 m (bst k pull σ) (upd H1 d (.lst [])))/\∀ i m σ' H',W i m σ' H'->
  (J.stop i H'/\Q (.ref d) H')\/
  (J.go i H'/\∀ x H2,J.yld i H' x H2->g x σ' H2 fun σ3 H3=>tt σ3 H3 fun b H4=>if b=true then te σ3 H4 fun y H5=>∃ xs,H5 d=some (.lst xs)/\xs.length < sizeLine/\∃ m',m' < m/\W (i+1) m' σ3 (upd H5 d (.lst (xs++[y])))
   else ∃ m',m' < m/\W (i+1) m' σ3 H4)
section
variable {X:Cx}{elt tg iter cnd:Expr}{sc:Scope}{pos:Pos}{wi:TI}{g:TG}{tt:TT}{te:TE}{N:List Str}{names:List (Str×NameKind)}{N':List Str}{k:Nat}{pull:List Nat}
theorem Zih (hc:X.calm=true)(B:Zaz N names N' k pull sc)(hN:X.N=N)(hnm:X.env.scope.names=names)(hi:PI X tg iter wi)
  (hg:∀ cl C s₂ H₁ fp pins,PG (blk X sc cl C N' s₂ H₁ fp pins) tg g) (hcn:∀ cl C s₂ H₁ fp pins,PT (blk X sc cl C N' s₂ H₁ fp pins) cnd tt) (he:∀ cl C s₂ H₁ fp pins,PE (blk X sc cl C N' s₂ H₁ fp pins) elt te)
  (hs:∀ x,foldedSetIterable iter X.env x=pure x:=by intro _; rfl):PE X (.ListComp elt [⟨tg,iter,[cnd],0⟩] sc pos) (Zo7 wi k pull g tt te):=by
 intro pins s σ H Q I h
 rw[eval_ListComp]
 have hcells:∀ y∈sc.names,y.2=.free->∃ c,X.env.cells.lookup y.1=some c:=fun y hy hf=>I.ok.has y.1 (.inl (by
  show X.env.scope.names.lookup y.1=_
  rw[hnm]; exact B.fre y hy hf))
 obtain⟨cl,ecl,c1,_,c3⟩:=Z1u (env:=X.env) sc.names [] hcells (fun x c e=>nomatch e)
 rw[<-Z2o]at ecl
 refine wpAny_comprehension_free (use:=none) rfl hs ecl B.kind B.loc (thn (hi pins s σ H _ I h) fun xv s1 h1=>thn h1 fun itv s2 h2=>?_)
 obtain⟨it,fp,tn,J,H1,e,I2,T,st2,f2,hW⟩:=h2
 subst e
 have ho:∀ b∈fp,∃ o,s2.heap.get? b=some o:=fun b hb=>let ⟨o,e,_⟩:=T.obj _ _ st2 b hb; ⟨o,e⟩
 refine wpAny_newObj_type (wpAny_newFunctionEnv B.nocell (by intro y hy; simp at hy) (fun h₁ hns₁ hsb₁=>?_) B.kind)
 dsimp only at hns₁ hsb₁ ⊢
 rw[Y1s]at hns₁ hsb₁ ⊢
 have old:∀ b o,s2.heap.get? b=some o->h₁.get? b=some o:=fun b o e=>by
  have hlt:=Y0c e
  exact (hsb₁.2 b (Y0l (Y13 hlt))).trans (Y02 _ (Y02 _ e))
 have hd:h₁.get? s2.heap.objs.size=some { cls:=.type "list",data:=.seq ([]:List Value).toArray }:=
  (hsb₁.2 _ (Y0l (Y21 _))).trans (Y02 _ (Y0b _ rfl))
 have I4:=Z5g (tk:=s2.toks+([]:List (Str×Value)).length) B hN hnm I2 f2 ho c1 c3 hns₁ old hd
 have st4:tn 0 h₁:=T.keep _ _ _ st2 fun b _ o e=>old b o e
 obtain⟨W,⟨m0,w0⟩,turn⟩:=hW s2.heap.objs.size (I2.hok.fresh (Y06 _))
 have fr4:∀ b∈fp,(upd H1 s2.heap.objs.size (.lst [])) b=none:=fun b hb=>by
  obtain⟨o,e⟩:=ho b hb
  rw[Z05 (Y0l (Y0c e))]
  exact (f2 b hb).1
 have stat:∀ {H':Hp},(∀ b∈fp,H' b=none)->∀ b∈fp,Zaj (blk X sc cl (s2.heap.objs.size+1) N' s2 H1 fp pins) [] H' b:=fun hn b hb=>by
  refine⟨hn b hb,(I4.ok.exf b hb).1,I4.ok.exfs b hb,.inl hb,(I4.ok.exf b hb).2,fun p hp=>?_⟩
  have hp:p∈X.pn++pins:=by simpa [blk] using hp
  exact (f2 b hb).2.2.2.2.2 p hp
 have loop:∀ s₃:Shared,s₃={ s2 with heap:=h₁,toks:=s2.toks+([]:List (Str×Value)).length }->
   codeAny (model X.prog X.w) X.A (.compLoop (.ListComp elt [⟨tg,iter,[cnd],0⟩] sc pos) 0 (.ref it) (.ref s2.heap.objs.size) (compEnvC sc cl (s2.heap.objs.size+1) X.env))
    (compPost (model X.prog X.w) X.A X.xe none (EP X pins σ Q) (.ref s2.heap.objs.size) (s2.heap.objs.size+1)) s₃:=by
  rintro s₃ rfl
  refine Zcm (fun n s'=>∃ i σ' H',Inv (blk X sc cl (s2.heap.objs.size+1) N' s2 H1 fp pins) [] σ' H' s'/\tn i s'.heap/\(∀ b∈fp,H' b=none)/\W i n σ' H') ?_ m0 ⟨0,_,_,I4,st4,fr4,w0⟩
  rintro n s3 ⟨i,σ3,H3,I3,st3,fr3,w3⟩
  rcases turn i n σ3 H3 w3 with ⟨stop,q⟩ | ⟨go,step⟩
  ·refine thn (T.done (blk X sc cl (s2.heap.objs.size+1) N' s2 H1 fp pins) rfl rfl rfl hc i [] s3 σ3 H3 _ I3 (stat fr3) st3 stop) fun r s4 ⟨hr,I5⟩=>?_
   subst hr
   obtain⟨m,hn,_⟩:=id I5.loc
   refine⟨m,hn,fun h' hs'=>?_⟩
   have ne:∀ b o,s2.heap.get? b=some o->b≠s2.heap.objs.size+1:=fun b o e=>Y0l (Y13 (Y0c e))
   have U:Un (frs X.stack) fp H1 H3 s2.heap s4.heap:=I5.base
   have U':Un (frs X.stack) fp H1 H3 s2.heap h':=⟨fun b o e n hb hx=>(hs'.2 b (ne b o e)).trans (U.keep b o e n hb hx),fun b o e n hb hx=>by
     obtain⟨sl,z⟩:=U.slot b o e n hb hx
     exact⟨sl,(hs'.2 b (ne b o e)).trans z⟩,U.free,fun b o e hx=>by
     obtain⟨o',z⟩:=U.there b o e hx
     exact⟨o',(hs'.2 b (ne b o e)).trans z⟩,U.tups,U.frzs,U.tbls⟩
   have hok:HOk X.prog X.w H3 h':=HOk.but (C:=s2.heap.objs.size+1) I5.hok I5.free fun b o hb e=>(hs'.2 b hb).trans e
   refine⟨.ref s2.heap.objs.size,H3,I2.call' (s':={ s4 with heap:=h' }) I5.os U' hok I5.bare fun b hb=>?_,rfl,q⟩
   exact⟨(f2 b hb).2.2.2.1,(f2 b hb).2.1,(f2 b hb).2.2.2.2.1,(f2 b hb).2.2.2.2.2⟩
  ·refine thn (T.item (blk X sc cl (s2.heap.objs.size+1) N' s2 H1 fp pins) rfl rfl rfl hc i [] s3 σ3 H3 _ I3 (stat fr3) st3 go) fun r s4 ⟨u,hr,h4⟩=>?_
   subst hr
   refine thn h4 fun _ s5 ⟨x,H5,I5,r5,y5,st5,fr5⟩=>?_
   have I5':=I5.pinned (stat fr5) (T.obj _ _ st5)
   refine wpAny_mono (hg _ _ _ _ _ _ _ s5 σ3 H5 x u _ I5' r5 (step x H5 y5)) (fun _ s6 ⟨σ6,H6,I6,q6⟩=>?_) fun _ _ z=>z.elim
   refine wpAny_mono (hcn _ _ _ _ _ _ _ s6 σ6 H6 _ I6 q6) (fun ok s7 ⟨H7,I7,q7⟩=>?_) fun _ _ z=>z.elim
   cases ok with
   | false=>
    have q7:∃ m',m' < n/\W (i+1) m' σ6 H7:=by simpa using q7
    obtain⟨m',hm,w7⟩:=q7
    refine⟨m',hm,i+1,σ6,_,I7.unpinned,T.keep _ _ _ st5 fun b hb o e=>(I7.pin (b,o) (Y0k _ (Y0k _ (Z18 hb e)))).1,fun b hb=>?_,w7⟩
    obtain⟨o,e,_⟩:=T.obj _ _ st5 b hb
    exact (I7.pin (b,o) (Y0k _ (Y0k _ (Z18 hb e)))).2.1
   | true=>
    rw[if_pos rfl]at q7
    refine wpAny_mono (he _ _ _ _ _ _ _ s7 σ6 H7 _ I7 q7) (fun y s8 ⟨z,H8,I8,r8,xs,hx8,hz8,m',hm,w8⟩=>?_) fun _ _ z=>z.elim
    refine wpAny_mono (Z11 (X:=blk X sc cl (s2.heap.objs.size+1) N' s2 H1 fp pins) _ s8 σ6 H8 (.ref s2.heap.objs.size) [z] (.ref s2.heap.objs.size) [y] (fun _ H9=>H9=upd H8 s2.heap.objs.size (.lst (xs++[z]))) I8 rfl (.cons r8 .nil) ⟨_,xs,z,rfl,rfl,hx8,hz8,rfl⟩) (fun _ s9 ⟨_,H9,I9,_,e9⟩=>?_) fun _ _ z=>z.elim
    subst e9
    refine⟨m',hm,i+1,σ6,_,I9.unpinned,T.keep _ _ _ st5 fun b hb o e=>(I9.pin (b,o) (Y0k _ (Y0k _ (Z18 hb e)))).1,fun b hb=>?_,w8⟩
    obtain⟨o,e,_⟩:=T.obj _ _ st5 b hb
    exact (I9.pin (b,o) (Y0k _ (Y0k _ (Z18 hb e)))).2.1
 exact codeAny_compStart_list (loop _ rfl) (T.self _ 0 _ _ _ st4 (loop _ rfl))
end
section
variable {X:Cx}{elt tg iter:Expr}{sc:Scope}{pos py spos:Pos}{wi:TI}{g:TG}{te:TE}{N:List Str}{names:List (Str×NameKind)}{N':List Str}{k j:Nat}{pull:List Nat}{y:Str}
theorem Z7q (hc:X.calm=true)(hNd:X.N.Nodup)(hj:X.N[j]?=some y)(hy:X.env.scope.names.lookup y=some .local)(B:Zaz N names N' k pull sc)(hN:X.N=N)(hnm:X.env.scope.names=names)(hi:PI X tg iter wi)
  (hg:∀ cl C s₂ H₁ fp pins,PG (blk X sc cl C N' s₂ H₁ fp pins) tg g) (he:∀ cl C s₂ H₁ fp pins,PE (blk X sc cl C N' s₂ H₁ fp pins) elt te)
  (hs:∀ x,foldedSetIterable iter X.env x=pure x:=by intro _; rfl) (hsw:swapsWith (.ListComp elt [⟨tg,iter,[],0⟩] sc pos) (some (.Name y py)) spos.line X.env=pure true:=by rfl):PS X (.Assign [.Name y py] (.ListComp elt [⟨tg,iter,[],0⟩] sc pos) spos) (Zbn (Z82 wi k pull g te) (Z25 j)):=by
 intro pins s σ H D I h
 rw[exec_Assign_Name_used _ _ _ _ hsw]
 refine wpAny_bind (wpAny_standAt (wpAny_bind ?_))
 show wpAny _ X.A (do let _ <-comprehension (.ListComp elt [⟨tg,iter,[],0⟩] sc pos) sc X.env _ (newList []) false (eval iter X.env) (some (assign (.Name y py) X.env))) _ _ s
 have hcells:∀ y∈sc.names,y.2=.free->∃ c,X.env.cells.lookup y.1=some c:=fun y hy hf=>I.ok.has y.1 (.inl (by
  show X.env.scope.names.lookup y.1=_
  rw[hnm]; exact B.fre y hy hf))
 obtain⟨cl,ecl,c1,_,c3⟩:=Z1u (env:=X.env) sc.names [] hcells (fun x c e=>nomatch e)
 rw[<-Z2o]at ecl
 refine wpAny_bind (wpAny_mono (wpAny_comprehension_free (Q:=fun _ s'=>SP X pins D .next s') (use:=some (assign (.Name y py) X.env)) rfl hs ecl B.kind B.loc (thn (hi pins s σ H _ I h) fun xv s1 h1=>thn h1 fun itv s2 h2=>?_)) (fun _ s' hq=>wpAny_pure (wpAny_pure hq)) fun _ _ e=>e)
 obtain⟨it,fp,tn,J,H1,e,I2,T,st2,f2,hW⟩:=h2
 subst e
 have ho:∀ b∈fp,∃ o,s2.heap.get? b=some o:=fun b hb=>let ⟨o,e,_⟩:=T.obj _ _ st2 b hb; ⟨o,e⟩
 refine wpAny_newObj_type (wpAny_newFunctionEnv B.nocell (by intro y hy; simp at hy) (fun h₁ hns₁ hsb₁=>?_) B.kind)
 dsimp only at hns₁ hsb₁ ⊢
 rw[Y1s]at hns₁ hsb₁ ⊢
 have old:∀ b o,s2.heap.get? b=some o->h₁.get? b=some o:=fun b o e=>by
  have hlt:=Y0c e
  exact (hsb₁.2 b (Y0l (Y13 hlt))).trans (Y02 _ (Y02 _ e))
 have hd:h₁.get? s2.heap.objs.size=some { cls:=.type "list",data:=.seq ([]:List Value).toArray }:=
  (hsb₁.2 _ (Y0l (Y21 _))).trans (Y02 _ (Y0b _ rfl))
 have I4:=Z5g (tk:=s2.toks+([]:List (Str×Value)).length) B hN hnm I2 f2 ho c1 c3 hns₁ old hd
 have st4:tn 0 h₁:=T.keep _ _ _ st2 fun b _ o e=>old b o e
 obtain⟨W,⟨m0,w0⟩,turn⟩:=hW s2.heap.objs.size (I2.hok.fresh (Y06 _))
 have fr4:∀ b∈fp,(upd H1 s2.heap.objs.size (.lst [])) b=none:=fun b hb=>by
  obtain⟨o,e⟩:=ho b hb
  rw[Z05 (Y0l (Y0c e))]
  exact (f2 b hb).1
 have stat:∀ {H':Hp},(∀ b∈fp,H' b=none)->∀ b∈fp,Zaj (blk X sc cl (s2.heap.objs.size+1) N' s2 H1 fp pins) [] H' b:=fun hn b hb=>by
  refine⟨hn b hb,(I4.ok.exf b hb).1,I4.ok.exfs b hb,.inl hb,(I4.ok.exf b hb).2,fun p hp=>?_⟩
  have hp:p∈X.pn++pins:=by simpa [blk] using hp
  exact (f2 b hb).2.2.2.2.2 p hp
 have loop:∀ s₃:Shared,s₃={ s2 with heap:=h₁,toks:=s2.toks+([]:List (Str×Value)).length }->
   codeAny (model X.prog X.w) X.A (.compLoop (.ListComp elt [⟨tg,iter,[],0⟩] sc pos) 0 (.ref it) (.ref s2.heap.objs.size) (compEnvC sc cl (s2.heap.objs.size+1) X.env))
    (compPost (model X.prog X.w) X.A X.xe (some (assign (.Name y py) X.env)) (fun _ s'=>SP X pins D .next s') (.ref s2.heap.objs.size) (s2.heap.objs.size+1)) s₃:=by
  rintro s₃ rfl
  refine Z7u (fun n s'=>∃ i σ' H',Inv (blk X sc cl (s2.heap.objs.size+1) N' s2 H1 fp pins) [] σ' H' s'/\tn i s'.heap/\(∀ b∈fp,H' b=none)/\W i n σ' H') ?_ m0 ⟨0,_,_,I4,st4,fr4,w0⟩
  rintro n s3 ⟨i,σ3,H3,I3,st3,fr3,w3⟩
  rcases turn i n σ3 H3 w3 with ⟨stop,q⟩ | ⟨go,step⟩
  ·refine thn (T.done (blk X sc cl (s2.heap.objs.size+1) N' s2 H1 fp pins) rfl rfl rfl hc i [] s3 σ3 H3 _ I3 (stat fr3) st3 stop) fun r s4 ⟨hr,I5⟩=>?_
   subst hr
   obtain⟨m,hn,_⟩:=id I5.loc
   have U:Un (frs X.stack) fp H1 H3 s2.heap s4.heap:=I5.base
   have J5:Inv X pins σ H3 s4:=I2.call' (s':=s4) I5.os U I5.hok I5.bare fun b hb=>⟨(f2 b hb).2.2.2.1,(f2 b hb).2.1,(f2 b hb).2.2.2.2.1,(f2 b hb).2.2.2.2.2⟩
   obtain⟨g0,g1,_,g3,g4,g5⟩:Zaj X pins H3 (s2.heap.objs.size+1):=I2.fpOk (Nat.le_succ _) I5.free
   refine wpAny_assign_Name (Zbz J5 hNd hj (.inl hy) (v:=.ref s2.heap.objs.size) rfl (fun s5 K5 ⟨a,sb,ha⟩=>?_) (.inr hy))
   have hne:s2.heap.objs.size+1≠a:=fun z=>by
    rcases ha with ha | ha
    ·exact g1 (z.trans ha)
    ·exact g4 _ _ ha z.symm
   refine⟨m,hn.sameBut sb hne,fun h' hs'=>⟨_,H3,?_,q⟩⟩
   exact K5.turned (t':=s5.toks) (fun b o hb e=>(hs'.2 b hb).trans e) g0 g1 g3 g4 g5
  ·refine thn (T.item (blk X sc cl (s2.heap.objs.size+1) N' s2 H1 fp pins) rfl rfl rfl hc i [] s3 σ3 H3 _ I3 (stat fr3) st3 go) fun r s4 ⟨u,hr,h4⟩=>?_
   subst hr
   refine thn h4 fun _ s5 ⟨x,H5,I5,r5,y5,st5,fr5⟩=>?_
   have I5':=I5.pinned (stat fr5) (T.obj _ _ st5)
   refine wpAny_mono (hg _ _ _ _ _ _ _ s5 σ3 H5 x u _ I5' r5 (step x H5 y5)) (fun _ s6 ⟨σ6,H6,I6,q6⟩=>?_) fun _ _ z=>z.elim
   refine wpAny_mono (he _ _ _ _ _ _ _ s6 σ6 H6 _ I6 q6) (fun y s7 ⟨z,H7,I7,r7,xs,hx7,hz7,m',hm,w7⟩=>?_) fun _ _ z=>z.elim
   refine wpAny_mono (Z11 (X:=blk X sc cl (s2.heap.objs.size+1) N' s2 H1 fp pins) _ s7 σ6 H7 (.ref s2.heap.objs.size) [z] (.ref s2.heap.objs.size) [y] (fun _ H8=>H8=upd H7 s2.heap.objs.size (.lst (xs++[z]))) I7 rfl (.cons r7 .nil) ⟨_,xs,z,rfl,rfl,hx7,hz7,rfl⟩) (fun _ s8 ⟨_,H8,I8,_,e8⟩=>?_) fun _ _ z=>z.elim
   subst e8
   refine⟨m',hm,i+1,σ6,_,I8.unpinned,T.keep _ _ _ st5 fun b hb o e=>(I8.pin (b,o) (Y0k _ (Y0k _ (Z18 hb e)))).1,fun b hb=>?_,w7⟩
   obtain⟨o,e,_⟩:=T.obj _ _ st5 b hb
   exact (I8.pin (b,o) (Y0k _ (Y0k _ (Z18 hb e)))).2.1
 exact codeAny_compStart_list (loop _ rfl) (T.self _ 0 _ _ _ st4 (loop _ rfl))
end
end L2
namespace K1
open PySem L2 Sq
theorem Z74 {Hc:Hp}{m:Nat}{ta:TA}{te:TE}{pull:List Nat}{Q:VK}{σ:St}{rest:St}(g:Nat->Nat)(hj:∀ R:List V->Hp->Prop,R [.int (m:Int)] Hc->ta σ Hc R)(hb:bst 1 pull σ=none :: rest)
  (hte:∀ (i:Nat) (H:Hp) (R:VK),i < m->Z0d Hc H->R (.int (g i:Int)) H->te (some (.int (i:Int)) :: rest) H R) (hm:m<=1000)
  (k:∀ (H':Hp) (d:Addr),Z0d Hc H'->Hc d=none->H' d=some (.lst (nv ((Y04 m).map g)))->Q (.ref d) H') :
  Z82 (Zg0 ta) 1 pull (Z25 0) te σ Hc Q:=by
 refine hj _ ⟨(m:Int),rfl,by omega,by omega,fun d hd=>?_⟩
 rw[Int.toNat_natCast,hb]
 refine Z2z (J:=Itr 0 m) (Q:=fun d H'=>Q (.ref d) H') m (nv ((Y04 m).map g)) (by rw[Z0k]; simp) (fun i σ H9=>(∃ o,σ=o :: rest)/\Z0d Hc H9) ⟨⟨_,rfl⟩,Z02 (Z0d.refl _) hd⟩ ?_ ?_
 ·rintro i σ H9 hi ⟨⟨o,rfl⟩,s9⟩ hd9
  refine⟨hi,fun x H4 ⟨e1,e2⟩=>?_⟩
  subst e1 e2
  rw[show (0:Int)+(i:Int)=(i:Int) from by omega]
  refine hte i _ _ hi s9 ?_
  refine Z70 hi (by omega) hd9 (Z14 (by simp[hi])) ⟨⟨_,rfl⟩,Z02 s9 hd⟩
 ·rintro σ H9 ⟨⟨o,rfl⟩,s9⟩ hd9
  exact⟨Y06 _,k H9 d s9 hd hd9⟩
end K1
namespace Sq
theorem Z9l {n:Nat}{l l':List Nat}(hl:l.length=n)(hl':l'.length=n)(h:∀ i,i < n->nx l i=nx l' i):l=l':=by
 refine Y22 (by omega) fun i h1 h2=>?_
 have:=h i (by omega)
 simpa [nx,List.getD,Y00 h1,Y00 h2] using this
section
variable {n:Nat}{r f:List Nat}
theorem Zkr (hf:Row n f){i:Nat}(hi:i < n):nx f (nx (back f) i)=i:=by rw[Z46 hf hi]; exact hf.nx_idx hi
theorem Zq5 {l:List Nat}(hl:l.length=n)(lt:∀ i,i < n->nx l i < n)(inj:∀ i j,i < n->j < n->nx l i=nx l j->i=j):Row n l where
 len:=hl
 nd:=by
  refine Y1t.mpr fun i j hi hj hij e=>?_
  have:=inj i j (by omega) (by omega) (by simp[nx,List.getD,Y00 hi,Y00 hj,e])
  omega
 lt:=fun x hx=>by
  obtain⟨i,hi,e⟩:=Y0x.mp hx
  have:=lt i (by omega)
  rwa [show nx l i=x from by simp[nx,List.getD,Y00 hi,e]]at this
end
end Sq
namespace Sq
section
variable {n nb:Nat}{r u rb ub m m':List Nat}
end
end Sq
namespace Sq
theorem Z5p {f:List Nat}{x:Nat}(h:x < f.length):nx f x∈f:=by
 show f.getD x 0∈f
 rw[Y05,Y00 h]
 exact Y10 h
theorem Zag {f:List Nat}{v:Nat}(h:v∈f):∃ x,x < f.length/\nx f x=v:=by
 obtain⟨i,hi,e⟩:=Y0x.mp h
 exact⟨i,hi,by show f.getD i 0=v; rw[Y05,Y00 hi]; exact e⟩
theorem Zeh:∀ (l l':List Nat),l'.Nodup->(∀ x∈l',x∈l)->l.length<=l'.length->l.Nodup
 | [],_,_,_,_=>List.nodup_nil
 | a :: t,l',nd,h,hl=>by
  rw[Y1d]at hl
  have hn:a∉t:=fun ha=>by
   have:=Z16 l' t nd fun x hx=>(Y0j.mp (h x hx)).elim (fun e=>e ▸ ha) id
   omega
  refine Y1r.mpr ⟨hn,Zeh t (l'.erase a) (nd.erase a) (fun x hx=>?_) ?_⟩
  ·have hx':=(List.Nodup.mem_erase_iff nd).mp hx
   exact (Y0j.mp (h x hx'.2)).resolve_left hx'.1
  ·have:=List.length_erase (a:=a) (l:=l')
   rw[this]; split <;> omega
end Sq
namespace Sq
theorem Zam {α:Type}[DecidableEq α]:∀ (l l':List α),l'.Nodup->(∀ x∈l',x∈l)->l.length<=l'.length->l.Nodup
 | [],_,_,_,_=>List.nodup_nil
 | a :: t,l',nd,h,hl=>by
  rw[Y1d]at hl
  have hn:a∉t:=fun ha=>by
   have:=Z16 l' t nd fun x hx=>(Y0j.mp (h x hx)).elim (fun e=>e ▸ ha) id
   omega
  refine Y1r.mpr ⟨hn,Zam t (l'.erase a) (nd.erase a) (fun x hx=>?_) ?_⟩
  ·have hx':=(List.Nodup.mem_erase_iff nd).mp hx
   exact (Y0j.mp (h x hx'.2)).resolve_left hx'.1
  ·have:=List.length_erase (a:=a) (l:=l')
   rw[this]; split <;> omega
def Dj (a b:List Nat):Prop:=∀ ⦃x:Nat⦄,x∈a->x∈b->False
theorem Z7g {ps:List (List Nat)}(h:ps.flatten.Nodup):(∀ p∈ps,p.Nodup)/\ps.Pairwise Dj:=by
 obtain⟨h1,h2⟩:=List.pairwise_flatten.mp h
 exact⟨h1,h2.imp fun {a b} z x hx hy=>z x hx x hy rfl⟩
structure Bes (N:Nat)(r u:List Nat)(ps:List (List Nat)):Prop where
 lr:r.length=N
 lu:u.length=N
 flat:ps.flatten.Perm (Y04 N)
 eqs:∀ p∈ps,∃ rp up,Z4r p.length rp up/\∀ k,k < p.length->nx r (nx p k)=nx p (nx rp k)/\nx u (nx p k)=nx p (nx up k)
section
variable {N:Nat}{r u:List Nat}{ps:List (List Nat)}
theorem Bes.inn (h:Bes N r u ps){p:List Nat}(hp:p∈ps){x:Nat}(hx:x∈p):x < N:=
 Y08.mp (h.flat.mem_iff.mp (Y2b.mpr ⟨p,hp,hx⟩))
theorem Bes.part (h:Bes N r u ps){x:Nat}(hx:x < N):∃ p∈ps,x∈p:=Y2b.mp (h.flat.mem_iff.mpr (Y08.mpr hx))
theorem Z7n {N:Nat}{r:List Nat}(hl:r.length=N)(ho:∀ y,y < N->∃ x,x < N/\nx r x=y):Row N r:=by
 have sup:∀ y∈Y04 N,y∈r:=fun y hy=>by
  obtain⟨x,hx,e⟩:=ho y (Y08.mp hy)
  rw[<-e]; exact Z5p (by rw[hl]; exact hx)
 have nd:=Zeh r (Y04 N) Y0v sup (by rw[hl,Y0d]; exact Y06 _)
 exact⟨hl,nd,fun x hx=>Y08.mp (full Y0v sup (by rw[hl,Y0d]; exact Y06 _) x hx)⟩
theorem Bes.rr (h:Bes N r u ps):Row N r:=Z7n h.lr fun y hy=>by
 obtain⟨p,hp,hy'⟩:=h.part hy
 obtain⟨rp,up,hS,he⟩:=h.eqs p hp
 obtain⟨j,hj,e⟩:=Zag hy'
 obtain⟨k,hk,ek⟩:=hS.row.onto hj
 exact⟨nx p k,h.inn hp (Z5p hk),by rw[(he k hk).1,ek,e]⟩
theorem Bes.ru (h:Bes N r u ps):Row N u:=Z7n h.lu fun y hy=>by
 obtain⟨p,hp,hy'⟩:=h.part hy
 obtain⟨rp,up,hS,he⟩:=h.eqs p hp
 obtain⟨j,hj,e⟩:=Zag hy'
 obtain⟨k,hk,ek⟩:=hS.col.onto hj
 exact⟨nx p k,h.inn hp (Z5p hk),by rw[(he k hk).2,ek,e]⟩
theorem Bes.step (h:Bes N r u ps){p:List Nat}(hp:p∈ps){x:Nat}(hx:x∈p){c:Nat}(hc:c < 4):nx (rw4 r u c) x∈p:=by
 obtain⟨rp,up,hS,he⟩:=h.eqs p hp
 obtain⟨k,hk,e⟩:=Zag hx
 have key:∀ {r rp:List Nat},Row N r->Row p.length rp->(∀ k,k < p.length->nx r (nx p k)=nx p (nx rp k))->nx (back r) x∈p:=fun {r rp} R S q=>by
  obtain⟨j,hj,ej⟩:=S.onto hk
  have:=q j hj
  rw[ej,e]at this
  rw[<-this,Z46 R (R.nlt (h.inn hp (Z5p hj))),R.idx_nx (h.inn hp (Z5p hj))]
  exact Z5p hj
 match c,hc with
 | 0,_=>show nx r x∈p; rw[<-e,(he k hk).1]; exact Z5p (hS.row.nlt hk)
 | 1,_=>exact key h.rr hS.row fun k hk=>(he k hk).1
 | 2,_=>show nx u x∈p; rw[<-e,(he k hk).2]; exact Z5p (hS.col.nlt hk)
 | 3,_=>exact key h.ru hS.col fun k hk=>(he k hk).2
theorem Bes.con (h:Bes N r u ps){p:List Nat}(hp:p∈ps){x y:Nat}(hx:x∈p):Con r u x y↔y∈p:=by
 constructor
 ·rintro ⟨w,h4,rfl⟩
  induction w generalizing x with
  | nil=>exact hx
  | cons c w ih=>exact ih (h.step hp hx (h4 c (by simp))) fun z hz=>h4 z (by simp[hz])
 ·intro hy
  obtain⟨rp,up,hS,he⟩:=h.eqs p hp
  have all:∀ k,k < p.length->Con r u (nx p 0) (nx p k):=hS.conn (fun k=>Con r u (nx p 0) (nx p k)) (Con.refl _ _ _) fun k hk hc=>by
   refine⟨hc.trans ?_,hc.trans ?_⟩
   ·rw[<-(he k hk).1]; exact Con.step (nx p k) 0 (by decide)
   ·rw[<-(he k hk).2]; exact Con.step (nx p k) 2 (by decide)
  obtain⟨i,hi,ei⟩:=Zag hx
  obtain⟨j,hj,ej⟩:=Zag hy
  have h1:=all i hi
  have h2:=all j hj
  rw[ei]at h1
  rw[ej]at h2
  exact (h1.symm h.rr h.ru (h.inn hp (Z5p hS.pos))).trans h2
theorem Bes.ne (h:Bes N r u ps){p:List Nat}(hp:p∈ps):p≠[]:=fun e=>by
 obtain⟨rp,up,hS,_⟩:=h.eqs p hp
 have:=hS.pos
 rw[e]at this; exact absurd this (by decide)
theorem Bes.cls (h:Bes N r u ps){p S:List Nat}(hp:p∈ps)(pS:S.Perm p)(so:S.Pairwise (·<=·)){x:Nat}(hx:x∈p):S=clsG N r u x:=by
 have nd:p.Nodup:=by
  have:=h.flat.nodup_iff.mpr Y0v
  exact (Z7g this).1 p hp
 refine Z1v (pS.trans ((Y1c nd (Z5x _ _ _ _)).mpr fun y=>?_)) so (Z3n _ _ _ _)
 rw[Z2f,h.con hp hx]
 exact⟨fun hy=>⟨h.inn hp hy,hy⟩,fun hy=>hy.2⟩
theorem Z56 {n:Nat}{r u M:List Nat}:M∈grp n r u↔∃ f,f < n/\Z43 n r u f/\M=clsG n r u f:=by
 unfold grp Z4t
 rw[Y0f]
 constructor
 ·rintro ⟨f,hf,e⟩
  obtain⟨h1,h2⟩:=Y14.mp hf
  exact⟨f,Y08.mp h1,by simpa using h2,e.symm⟩
 ·rintro ⟨f,h1,h2,e⟩
  exact⟨f,Y14.mpr ⟨Y08.mpr h1,by simpa using h2⟩,e.symm⟩
theorem Z7k {n:Nat}{r u:List Nat}{f:Nat}(hf:f < n)(hL:Z43 n r u f):∃ t,clsG n r u f=f :: t:=by
 have hm:f∈clsG n r u f:=Z2f.mpr ⟨hf,Con.refl _ _ _⟩
 cases hc:clsG n r u f with
 | nil=>rw[hc]at hm; exact absurd hm (by simp)
 | cons a t=>
  have so:=Z3n n r u f
  rw[hc]at so hm
  have ha:a∈clsG n r u f:=by rw[hc]; simp
  have h1:=hL a (Z2f.mp ha).1 (Z2f.mp ha).2
  have h2:a<=f:=by
   rcases Y0j.mp hm with e | e
   ·omega
   ·exact (Y1g.mp so).1 f e
  exact⟨t,by rw[show a=f by omega]⟩
def hd0 (M:List Nat):Nat:=M.headD 0
theorem Z81 (n:Nat)(r u:List Nat):(grp n r u).map hd0=(Y04 n).filter (fun f=>@decide (Z43 n r u f) (Classical.propDecidable _)):=by
 unfold grp Z4t
 rw[Y0y]
 have:∀ l:List Nat,(∀ f∈l,f < n/\Z43 n r u f)->l.map (hd0 ∘ clsG n r u)=l:=fun l=>by
  induction l with
  | nil=>intro _; rfl
  | cons a l ih=>
   intro h
   obtain⟨t,e⟩:=Z7k (h a (by simp)).1 (h a (by simp)).2
   rw[Y0u,ih fun f hf=>h f (by simp[hf])]
   show hd0 (clsG n r u a) :: l=_
   rw[e]; rfl
 exact this _ fun f hf=>by
  obtain⟨h1,h2⟩:=Y14.mp hf
  exact⟨Y08.mp h1,by simpa using h2⟩
theorem Zdi (h:Bes N r u ps){p:List Nat}(hp:p∈ps):∃ f∈p,Z43 N r u f:=by
 have key:∀ (l:List Nat),l≠[]->∃ f∈l,∀ x∈l,f<=x:=fun l=>by
  induction l with
  | nil=>intro z; exact absurd rfl z
  | cons a l ih=>
   intro _
   cases l with
   | nil=>exact⟨a,by simp,fun x hx=>by simp at hx; omega⟩
   | cons b l=>
    obtain⟨f,hf,hl⟩:=ih (by simp)
    rcases Nat.le_total a f with c | c
    ·exact⟨a,by simp,fun x hx=>(Y0j.mp hx).elim (fun e=>by omega) fun e=>Y17 c (hl x e)⟩
    ·exact⟨f,Y0r _ hf,fun x hx=>(Y0j.mp hx).elim (fun e=>by omega) fun e=>hl x e⟩
 obtain⟨f,hf,hl⟩:=key p (h.ne hp)
 exact⟨f,hf,fun x _ hc=>hl x ((h.con hp hf).mp hc)⟩
theorem Bes.grp (h:Bes N r u ps){L:List (List Nat)}(hL:∀ M,M∈L↔∃ p∈ps,M.Perm p/\M.Pairwise (·<=·))(len:L.length=ps.length)(so:(L.map hd0).Pairwise (·<=·)):L=grp N r u:=by
 have mem:∀ M,M∈L↔M∈Sq.grp N r u:=fun M=>by
  rw[hL,Z56]
  constructor
  ·rintro ⟨p,hp,q1,q2⟩
   obtain⟨f,hf,hl⟩:=Zdi h hp
   exact⟨f,h.inn hp hf,hl,h.cls hp q1 q2 hf⟩
  ·rintro ⟨f,hf,hl,rfl⟩
   obtain⟨p,hp,hfp⟩:=h.part hf
   have nd:p.Nodup:=(Z7g (h.flat.nodup_iff.mpr Y0v)).1 p hp
   refine⟨p,hp,(Y1c (Z5x _ _ _ _) nd).mpr fun y=>?_,Z3n _ _ _ _⟩
   rw[Z2f,h.con hp hfp]
   exact⟨fun z=>z.2,fun z=>⟨h.inn hp z,z⟩⟩
 have hg:(Sq.grp N r u).Nodup:=by
  have:((Sq.grp N r u).map hd0).Nodup:=by rw[Z81]; exact List.nodup_range.filter _
  exact (Y1w.mp this).imp fun {a b} z e=>z (by rw[e])
 have psnd:ps.Nodup:=by
  have nd:=h.flat.nodup_iff.mpr Y0v
  have dj:=(Z7g nd).2
  refine List.Pairwise.imp_of_mem (fun {a b} ha hb z e=>?_) dj
  subst e
  obtain⟨x,hx⟩:=List.exists_mem_of_ne_nil a (h.ne ha)
  exact z hx hx
 have le:ps.length<=(Sq.grp N r u).length:=by
  have:∀ p∈ps,∃ M∈Sq.grp N r u,M.Perm p:=fun p hp=>by
   obtain⟨f,hf,hl⟩:=Zdi h hp
   have nd:p.Nodup:=(Z7g (h.flat.nodup_iff.mpr Y0v)).1 p hp
   refine⟨clsG N r u f,Z56.mpr ⟨f,h.inn hp hf,hl,rfl⟩,(Y1c (Z5x _ _ _ _) nd).mpr fun y=>?_⟩
   rw[Z2f,h.con hp hf]
   exact⟨fun z=>z.2,fun z=>⟨h.inn hp z,z⟩⟩
  have dj:=(Z7g (h.flat.nodup_iff.mpr Y0v)).2
  have key:∀ (qs:List (List Nat)) (G:List (List Nat)),qs.Pairwise Dj->(∀ q∈qs,q≠[])->(∀ q∈qs,∃ M∈G,M.Perm q)->qs.length<=G.length:=fun qs=>by
   induction qs with
   | nil=>intro G _ _ _; exact Y0w _
   | cons q qs ih=>
    intro G dj ne ex
    obtain⟨M,hM,pM⟩:=ex q (by simp)
    obtain⟨d1,d2⟩:=Y1g.mp dj
    have:=ih (G.erase M) d2 (fun z hz=>ne z (by simp[hz])) fun z hz=>by
     obtain⟨M',hM',pM'⟩:=ex z (by simp[hz])
     refine⟨M',(List.mem_erase_of_ne fun e=>?_).mpr hM',pM'⟩
     subst e
     obtain⟨x,hx⟩:=List.exists_mem_of_ne_nil z (ne z (by simp[hz]))
     exact d1 z hz (pM.mem_iff.mp (pM'.mem_iff.mpr hx)) hx
    rw[List.length_erase_of_mem hM]at this
    have:=Y2m hM
    rw[Y1d]; omega
  exact key ps _ dj (fun p hp=>h.ne hp) this
 have ge:(Sq.grp N r u).length<=L.length:=Z16 _ _ hg fun M hM=>(mem M).mpr hM
 have Lnd:L.Nodup:=Zam L (Sq.grp N r u) hg (fun M hM=>(mem M).mpr hM) (by omega)
 have pm:L.Perm (Sq.grp N r u):=(Y1c Lnd hg).mpr mem
 have hs:((Sq.grp N r u).map hd0).Pairwise (·<=·):=by rw[Z81]; exact (Z3a N).filter _
 have eh:L.map hd0=(Sq.grp N r u).map hd0:=Z1v (pm.map hd0) so hs
 have inj:∀ M∈Sq.grp N r u,∀ M'∈Sq.grp N r u,hd0 M=hd0 M'->M=M':=fun M hM M' hM' e=>by
  obtain⟨f,h1,h2,rfl⟩:=Z56.mp hM
  obtain⟨f',h1',h2',rfl⟩:=Z56.mp hM'
  obtain⟨t,e1⟩:=Z7k h1 h2
  obtain⟨t',e1'⟩:=Z7k h1' h2'
  rw[e1,e1']at e
  have:f=f':=e
  rw[this]
 refine Y22 (by simpa using congrArg List.length eh) fun i h1 h2=>?_
 refine inj _ ((mem _).mp (Y10 h1)) _ (Y10 h2) ?_
 have:=congrArg (fun l=>l[i]?) eh
 simpa [Y0e,Y00 h1,Y00 h2] using this
end
def off (Rs:List (List Nat×List Nat))(i:Nat):Nat:=((Rs.take i).map fun R=>R.1.length).sum
def prt (t:List Nat)(Rs:List (List Nat×List Nat))(i:Nat):List Nat:=(t.drop (off Rs i)).take ((Rs[i]?.map fun R=>R.1.length).getD 0)
section
variable {t:List Nat}{Rs:List (List Nat×List Nat)}{i:Nat}{R:List Nat×List Nat}
theorem Z5b (h:Rs[i]?=some R):off Rs (i+1)=off Rs i+R.1.length:=by
 unfold off
 rw[Y11,h,Y0p,List.sum_append]
 simp
theorem Z9y {i j:Nat}(h:i<=j):off Rs i<=off Rs j:=by
 unfold off
 obtain⟨d,rfl⟩:∃ d,j=i+d:=⟨j - i,by omega⟩
 rw[List.take_add,Y0p,List.sum_append]
 omega
theorem Zci {i:Nat}(h:Rs.length<=i):off Rs i=(Rs.map fun R=>R.1.length).sum:=by unfold off; rw[Y1m h]
theorem Zed (h:Rs[i]?=some R):prt t Rs i=(t.drop (off Rs i)).take R.1.length:=by unfold prt; rw[h]; rfl
theorem Zia (h:Rs[i]?=some R)(ht:t.length=(Rs.map fun R=>R.1.length).sum):(prt t Rs i).length=R.1.length:=by
 rw[Zed h,Y18,List.length_drop,ht]
 have hi:i < Rs.length:=(Y03.mp h).1
 have:=Z9y (Rs:=Rs) (show i+1<=Rs.length from hi)
 rw[Z5b h,Zci (Y06 _)]at this
 omega
theorem Zan (h:Rs[i]?=some R){k:Nat}(hk:k < R.1.length):nx (prt t Rs i) k=nx t (off Rs i+k):=by
 rw[Zed h]
 show ((t.drop (off Rs i)).take R.1.length).getD k 0=t.getD (off Rs i+k) 0
 rw[Y05,Y05,List.getElem?_take,if_pos hk,List.getElem?_drop]
theorem Zep:∀ i,i<=Rs.length->((Y04 i).map (prt t Rs)).flatten=t.take (off Rs i)
 | 0,_=>by unfold off; simp
 | i+1,hi=>by
  have h:Rs[i]?=some Rs[i]:=Y00 (by omega)
  rw[Y1j,Y0p,Y2k,Zep i (by omega),Z5b h,List.take_add]
  simp[Zed h]
theorem Zqg {N:Nat}{r u:List Nat}(rt:Row N t)(hN:(Rs.map fun R=>R.1.length).sum=N)(hS:∀ R∈Rs,Z4r R.1.length R.1 R.2)(lr:r.length=N)(lu:u.length=N)
  (eqs:∀ j R,Rs[j]?=some R->∀ k,k < R.1.length->nx r (nx t (off Rs j+k))=nx t (off Rs j+nx R.1 k)/\nx u (nx t (off Rs j+k))=nx t (off Rs j+nx R.2 k)) :
  Bes N r u ((Y04 Rs.length).map (prt t Rs)) where
 lr:=lr
 lu:=lu
 flat:=by
  rw[Zep _ (Y06 _),Zci (Y06 _),hN,Y1m (by rw[rt.len]; exact Y06 _)]
  exact rt.perm
 eqs p hp:=by
  obtain⟨j,hj,rfl⟩:=Y0f.mp hp
  have h:Rs[j]?=some (Rs[j]'(Y08.mp hj)):=Y00 _
  have hSj:=hS _ (Y0a h)
  have hl:=Zia (t:=t) h (by rw[rt.len,hN])
  refine⟨_,_,by rw[hl]; exact hSj,fun k hk=>?_⟩
  rw[hl]at hk
  obtain⟨e1,e2⟩:=eqs j _ h k hk
  rw[Zan h hk,Zan h (hSj.row.nlt hk),Zan h (hSj.col.nlt hk)]
  exact⟨e1,e2⟩
end
end Sq
namespace L2
open PySem PySem.Spec PyProof.Rows
section
variable {X:Cx}
end
section
variable {prog:Program}{w:World}{A:Around}{E:Value->Shared->Prop}
end
section
variable {X:Cx}
end
end L2
namespace L2
open PySem PySem.Spec PyProof.Rows PySem.W
def kev {α:Type}(lt:Nat->Nat->Bool):KasT α->α
 | .ret a=>a
 | .ask i j k=>kev lt (k (lt i j))
theorem Z60 {α:Type}(lt:Nat->Nat->Bool)(a:α):kev lt (.ret a)=a:=rfl
theorem Z3z {α:Type}(lt:Nat->Nat->Bool)(i j:Nat)(k:Bool->KasT α):kev lt (.ask i j k)=kev lt (k (lt i j)):=rfl
theorem Z2q {α β:Type}(lt:Nat->Nat->Bool):∀ (t:KasT α) (f:α->KasT β),kev lt (t.bind f)=kev lt (f (kev lt t))
 | .ret a,f=>by rw[KasT.bind]; rfl
 | .ask i j k,f=>by
  rw[KasT.bind,Z3z,Z3z]
  exact Z2q lt (k (lt i j)) f
variable (key:Nat->Nat)
abbrev kl:Nat->Nat->Bool:=fun i j=>decide (key i < key j)
theorem Zsg {i j:Nat}(h:key i < key j):kl key i j=true:=decide_eq_true h
theorem Zrb {i j:Nat}(h:¬ key i < key j):kl key i j=false:=decide_eq_false h
def ka (p:Array Nat)(t:Nat):Nat:=key (p.getD t 0)
theorem Zb9 {p q:Array Nat}{t s:Nat}(h:p[t]?=q[s]?):ka key p t=ka key q s:=by
 unfold ka
 rw[Array.getD_eq_getD_getElem?,Array.getD_eq_getD_getElem?,h]
def Srt (p:Array Nat)(m:Nat):Prop:=∀ t,t+1 < m->ka key p t<=ka key p (t+1)
def Dsc (p:Array Nat)(m:Nat):Prop:=∀ t,t+1 < m->ka key p (t+1)<=ka key p t
theorem Srt.le {p:Array Nat}{m:Nat}(h:Srt key p m){s:Nat}:∀ {t:Nat},s<=t->t < m->ka key p s<=ka key p t
 | 0,h1,_=>by (have:s=0:=(by omega); subst this; exact Y06 _)
 | t+1,h1,h2=>by
  rcases Y0z s (t+1) with c | c
  ·exact Y17 (Srt.le h (by omega) (by omega)) (h t h2)
  ·have:s=t+1:=by omega
   subst this; exact Y06 _
theorem Dsc.le {p:Array Nat}{m:Nat}(h:Dsc key p m){s:Nat}:∀ {t:Nat},s<=t->t < m->ka key p t<=ka key p s
 | 0,h1,_=>by (have:s=0:=(by omega); subst this; exact Y06 _)
 | t+1,h1,h2=>by
  rcases Y0z s (t+1) with c | c
  ·exact Y17 (h t h2) (Dsc.le h (by omega) (by omega))
  ·have:s=t+1:=by omega
   subst this; exact Y06 _
theorem Za2 (p:Array Nat):∀ (f i:Nat),1<=i->Srt key p i->i<=kev (kl key) (kas_asc p f i)/\kev (kl key) (kas_asc p f i)<=i+f/\Srt key p (kev (kl key) (kas_asc p f i))/\(kev (kl key) (kas_asc p f i) < i+f->ka key p (kev (kl key) (kas_asc p f i)) < ka key p (kev (kl key) (kas_asc p f i) - 1))
 | 0,i,h1,hs=>by
  rw[kas_asc]
  exact⟨Y06 _,Y06 _,hs,fun z=>absurd z (by rw[Z60]; omega)⟩
 | f+1,i,h1,hs=>by
  rw[kas_asc,Z3z]
  by_cases c:key (p.getD i 0) < key (p.getD (i - 1) 0)
  ·rw[Zsg key c,if_pos rfl,Z60]
   exact⟨Y06 _,by omega,hs,fun _=>c⟩
  ·rw[Zrb key c,if_neg (by decide)]
   have hs':Srt key p (i+1):=fun t ht=>by
    rcases Y0z (t+1) i with d | d
    ·exact hs t d
    ·have:t+1=i:=by omega
     have e:t=i - 1:=by omega
     subst e
     show key (p.getD (i - 1) 0)<=key (p.getD (i - 1+1) 0)
     rw[show i - 1+1=i from by omega]; omega
   obtain⟨a,b,c',d⟩:=Za2 p f (i+1) (by omega) hs'
   exact⟨by omega,by omega,c',fun z=>d (by omega)⟩
theorem Zcr {p:Array Nat}{i j:Nat}(hj:j<=p.size)(t:Nat):ka key (kas_rev p i j) t=if i<=t/\t < j then ka key p (i+j - 1 - t) else ka key p t:=by
 have:=getElem?_mirror_all (xs:=p) (i:=i) hj t
 by_cases c:i<=t/\t < j
 ·rw[if_pos c]
  rw[if_pos c]at this
  exact Zb9 key this
 ·rw[if_neg c]
  rw[if_neg c]at this
  exact Zb9 key this
theorem Z3b (p:Array Nat)(i j:Nat):(kas_rev p i j).size=p.size:=mirror_size p i j _
theorem Z38 (p:Array Nat)(i j:Nat):(kas_rev p i j).Perm p:=mirror_perm p i j _
theorem Z9h {p:Array Nat}{i j:Nat}(hj:j<=p.size)(h:∀ t,i<=t->t < j->ka key p t=ka key p i)(t:Nat):ka key (kas_rev p i j) t=ka key p t:=by
 rw[Zcr key hj]
 split
 ·next c=>rw[h t c.1 c.2,h (i+j - 1 - t) (by omega) (by omega)]
 ·rfl
theorem Z5n:∀ (f:Nat) (p:Array Nat) (i k:Nat),1<=i->i+f<=p.size->k+1<=i->Dsc key p i->(∀ t,i - (k+1)<=t->t < i->ka key p t=ka key p (i - 1))->
  ∃ q m k',kev (kl key) (kas_desc f p i k)=(q,m,k')/\q.Perm p/\q.size=p.size/\i<=m/\m<=i+f/\Dsc key q m/\k' + 1<=m/\(∀ t,m - (k' + 1)<=t->t < m->ka key q t=ka key q (m - 1))
 | 0,p,i,k,h1,hsz,hk,hd,he=>by
  rw[kas_desc]
  exact⟨p,i,k,rfl,Array.Perm.refl _,rfl,Y06 _,by omega,hd,hk,he⟩
 | f+1,p,i,k,h1,hsz,hk,hd,he=>by
  rw[kas_desc,Z3z]
  by_cases c:key (p.getD i 0) < key (p.getD (i - 1) 0)
  ·rw[Zsg key c,if_pos rfl]
   have step:∀ p':Array Nat,p'.size=p.size->(∀ t,ka key p' t=ka key p t)->Dsc key p' (i+1):=fun p' _ hp' t ht=>by
    rw[hp',hp']
    rcases Y0z (t+1) i with d | d
    ·exact hd t d
    ·have e:t=i - 1:=by omega
     subst e
     rw[show i - 1+1=i from by omega]
     exact Y1e c
   by_cases k0:k > 0
   ·rw[if_pos k0]
    have hl:∀ t,ka key (kas_rev p (i - (k+1)) i) t=ka key p t:=Z9h key (by omega) fun t t1 t2=>by rw[he t t1 t2,he (i - (k+1)) (Y06 _) (by omega)]
    obtain⟨q,m,k',e,pq,sq,a,b,d,g,h⟩:=Z5n f (kas_rev p (i - (k+1)) i) (i+1) 0 (by omega) (by rw[Z3b]; omega) (by omega) (step _ (Z3b _ _ _) hl) (fun t t1 t2=>by
     have:t=i:=by omega
     subst this; rfl)
    exact⟨q,m,k',e,pq.trans (Z38 _ _ _),by rw[sq,Z3b],by omega,by omega,d,g,h⟩
   ·rw[if_neg k0]
    obtain⟨q,m,k',e,pq,sq,a,b,d,g,h⟩:=Z5n f p (i+1) 0 (by omega) (by omega) (by omega) (step p rfl fun _=>rfl) (fun t t1 t2=>by
     have:t=i:=by omega
     subst this; rfl)
    exact⟨q,m,k',e,pq,sq,by omega,by omega,d,g,h⟩
  ·rw[Zrb key c,if_neg (by decide),Z3z]
   by_cases c2:key (p.getD (i - 1) 0) < key (p.getD i 0)
   ·rw[Zsg key c2,if_pos rfl,Z60]
    exact⟨p,i,k,rfl,Array.Perm.refl _,rfl,Y06 _,by omega,hd,hk,he⟩
   ·rw[Zrb key c2,if_neg (by decide)]
    have eq:ka key p i=ka key p (i - 1):=by show key (p.getD i 0)=key (p.getD (i - 1) 0); omega
    obtain⟨q,m,k',e,pq,sq,a,b,d,g,h⟩:=Z5n f p (i+1) (k+1) (by omega) (by omega) (by omega) (fun t ht=>by
     rcases Y0z (t+1) i with d | d
     ·exact hd t d
     ·have e:t=i - 1:=by omega
      subst e
      rw[show i - 1+1=i from by omega]
      exact Nat.le_of_eq eq) (fun t t1 t2=>by
     show ka key p t=ka key p i
     rcases Y0z t i with d | d
     ·rw[eq]; exact he t (by omega) d
     ·have:t=i:=by omega
      subst this; rfl)
    exact⟨q,m,k',e,pq,sq,by omega,by omega,d,g,h⟩
theorem Zav {m nrem:Nat}{p:Array Nat}(h1:1<=m)(hm:m<=nrem)(hn:nrem=p.size)(hd:Dsc key p m) :
  ∃ m' q,kev (kl key) (kas_tail3 m nrem p)=(m',q)/\q.Perm p/\q.size=p.size/\1<=m'/\m'<=nrem/\Srt key q m':=by
 unfold kas_tail3
 rw[Z2q,Z60]
 have hs:Srt key (kas_rev p 0 m) m:=fun t ht=>by
  rw[Zcr key (by omega),Zcr key (by omega),if_pos (by omega),if_pos (by omega)]
  exact Dsc.le key hd (by omega) (by omega)
 obtain⟨a,b,c,_⟩:=Za2 key (kas_rev p 0 m) (nrem - m) m h1 hs
 exact⟨_,_,rfl,Z38 _ _ _,Z3b _ _ _,by omega,by omega,c⟩
theorem Z5o {n nrem:Nat}{p:Array Nat}(h1:1<=n)(hn:n < nrem)(hz:nrem=p.size)(hd:Dsc key p (n+1)) :
  ∃ m' q,kev (kl key) (kas_descPart n nrem p)=(m',q)/\q.Perm p/\q.size=p.size/\1<=m'/\m'<=nrem/\Srt key q m':=by
 unfold kas_descPart
 rw[Z2q]
 obtain⟨q,m,k',e,pq,sq,a,b,d,g,h⟩:=Z5n key (nrem - (n+1)) p (n+1) 0 (by omega) (by omega) (by omega) hd (fun t t1 t2=>by
  have:t=n:=by omega
  subst this; rfl)
 rw[e]
 show ∃ m' q',kev (kl key) (if k' > 0 then kas_tail3 m nrem (kas_rev q (m - (k' + 1)) m) else kas_tail3 m nrem q)=(m',q')/\_
 by_cases k0:k' > 0
 ·rw[if_pos k0]
  have hl:∀ t,ka key (kas_rev q (m - (k' + 1)) m) t=ka key q t:=Z9h key (by omega) fun t t1 t2=>by rw[h t t1 t2,h (m - (k' + 1)) (Y06 _) (by omega)]
  obtain⟨m',q',e',p',s',a',b',c'⟩:=Zav key (m:=m) (nrem:=nrem) (p:=kas_rev q (m - (k' + 1)) m) (by omega) (by omega) (by rw[Z3b]; omega) (fun t ht=>by rw[hl,hl]; exact d t ht)
  exact⟨m',q',e',p'.trans ((Z38 _ _ _).trans pq),by rw[s',Z3b,sq],a',b',c'⟩
 ·rw[if_neg k0]
  obtain⟨m',q',e',p',s',a',b',c'⟩:=Zav key (m:=m) (nrem:=nrem) (p:=q) (by omega) (by omega) (by omega) d
  exact⟨m',q',e',p'.trans pq,by rw[s',sq],a',b',c'⟩
theorem Zfe {n:Nat}{p:Array Nat}(h1:1<=n)(hz:n=p.size) :
  ∃ m q,kev (kl key) (kas_count n p)=(m,q)/\q.Perm p/\q.size=p.size/\1<=m/\m<=n/\Srt key q m:=by
 unfold kas_count
 rw[Z2q]
 obtain⟨a,b,c,d⟩:=Za2 key p (n - 1) 1 (Y06 _) (fun t ht=>absurd ht (by omega))
 generalize kev (kl key) (kas_asc p (n - 1) 1)=m at a b c d
 show ∃ m' q,kev (kl key) (if (m == n)=true then KasT.ret (m,p) else if m > 1 then KasT.ask (p.getD 0 0) (p.getD (m - 1) 0) fun c=>if c=true then KasT.ret (m,p) else kas_descPart m n (kas_rev p 0 m) else kas_descPart m n p)=(m',q)/\_
 by_cases e:m=n
 ·rw[if_pos (by simpa using e),Z60]
  exact⟨m,p,rfl,Array.Perm.refl _,rfl,by omega,by omega,c⟩
 ·rw[if_neg (by simpa using e)]
  have dd:=d (by omega)
  by_cases m1:m > 1
  ·rw[if_pos m1,Z3z]
   by_cases q:key (p.getD 0 0) < key (p.getD (m - 1) 0)
   ·rw[Zsg key q,if_pos rfl,Z60]
    exact⟨m,p,rfl,Array.Perm.refl _,rfl,by omega,by omega,c⟩
   ·rw[Zrb key q,if_neg (by decide)]
    have eq:∀ t,t < m->ka key p t=ka key p 0:=fun t ht=>by
     have h2:=Srt.le key c (Y0w t) ht
     have h3:=Srt.le key c (show t<=m - 1 by omega) (by omega)
     have h4:¬ ka key p 0 < ka key p (m - 1):=q
     omega
    have hl:∀ t,ka key (kas_rev p 0 m) t=ka key p t:=Z9h key (by omega) fun t _ t2=>eq t t2
    obtain⟨m',q',e',p',s',a',b',c'⟩:=Z5o key (n:=m) (nrem:=n) (p:=kas_rev p 0 m) (by omega) (by omega) (by rw[Z3b]; omega) (fun t ht=>by
     rw[hl,hl]
     rcases Y0z (t+1) m with z | z
     ·rw[eq t (by omega),eq (t+1) z]; exact Y06 _
     ·have e5:t=m - 1:=by omega
      subst e5
      rw[show m - 1+1=m from by omega]; exact Y1e dd)
    exact⟨m',q',e',p'.trans (Z38 _ _ _),by rw[s',Z3b],a',b',c'⟩
  ·rw[if_neg m1]
   have em:m=1:=by omega
   subst em
   exact Z5o key (n:=1) (nrem:=n) (p:=p) (by omega) (by omega) hz (fun t ht=>by
    have:t=0:=by omega
    subst this
    exact Y1e dd)
theorem Z5u (p:Array Nat)(k:Nat)(hs:Srt key p k):∀ (f l r:Nat),r - l<=f->l<=r->r<=k->(∀ t,t < l->ka key p t<=ka key p k)->(∀ t,r<=t->t < k->ka key p k<=ka key p t)->
  kev (kl key) (kas_place p k f l r)<=k/\(∀ t,t < kev (kl key) (kas_place p k f l r)->ka key p t<=ka key p k)/\∀ t,kev (kl key) (kas_place p k f l r)<=t->t < k->ka key p k<=ka key p t
 | 0,l,r,hf,hlr,hr,h1,h2=>by
  have:l=r:=by omega
  subst this
  rw[kas_place]
  exact⟨hr,h1,h2⟩
 | f+1,l,r,hf,hlr,hr,h1,h2=>by
  rw[kas_place]
  by_cases c:l≥r
  ·have:l=r:=by omega
   subst this
   rw[if_pos c]
   exact⟨hr,h1,h2⟩
  ·rw[if_neg c,Z3z]
   by_cases q:key (p.getD k 0) < key (p.getD ((l+r) / 2) 0)
   ·rw[Zsg key q,if_pos rfl]
    exact Z5u p k hs f l ((l+r) / 2) (by omega) (by omega) (by omega) h1 fun t t1 t2=>Y17 (Y1e q) (Srt.le key hs t1 t2)
   ·rw[Zrb key q,if_neg (by decide)]
    exact Z5u p k hs f ((l+r) / 2+1) r (by omega) (by omega) hr (fun t ht=>Y17 (Srt.le key hs (show t<=(l+r) / 2 by omega) (by omega)) (Nat.le_of_not_lt q)) h2
theorem Z8x {p:Array Nat}{k l:Nat}(hk:k < p.size)(hl:l<=k)(t:Nat):ka key (bubble p k (k - l)) t=if t=l then ka key p k else if l < t/\t<=k then ka key p (t - 1) else ka key p t:=by
 have:=getElem?_bubble (xs:=p) hk (k - l) (by omega) t
 rw[show k - (k - l)=l from by omega]at this
 by_cases c:t=l
 ·rw[if_pos c]at this ⊢; exact Zb9 key this
 ·rw[if_neg c]at this ⊢
  by_cases d:l < t/\t<=k
  ·rw[if_pos d]at this ⊢; exact Zb9 key this
  ·rw[if_neg d]at this ⊢; exact Zb9 key this
theorem Zdr:∀ (f:Nat) (p:Array Nat) (i:Nat),i+f=p.size->Srt key p i->
  (kev (kl key) (kas_bin f p i)).Perm p/\Srt key (kev (kl key) (kas_bin f p i)) p.size
 | 0,p,i,hz,hs=>by
  rw[kas_bin]
  have:i=p.size:=by omega
  subst this
  exact⟨Array.Perm.refl _,hs⟩
 | f+1,p,i,hz,hs=>by
  rw[kas_bin,Z2q]
  obtain⟨a,b,c⟩:=Z5u key p i hs i 0 i (by omega) (by omega) (Y06 _) (fun t ht=>absurd ht (by omega)) (fun t t1 t2=>absurd t2 (by omega))
  generalize kev (kl key) (kas_place p i i 0 i)=l at a b c
  have hs':Srt key (bubble p i (i - l)) (i+1):=fun t ht=>by
   rw[Z8x key (by omega) a,Z8x key (by omega) a]
   by_cases e1:t=l
   ·rw[if_pos e1,if_neg (by omega),if_pos (by omega)]
    have:=c t (by omega) (by omega)
    simpa using this
   ·rw[if_neg e1]
    by_cases e2:l < t/\t<=i
    ·rw[if_pos e2,if_neg (by omega),if_pos (by omega)]
     have:=hs (t - 1) (by omega)
     rw[show t - 1+1=t from by omega]at this
     simpa using this
    ·rw[if_neg e2]
     by_cases e3:t+1=l
     ·rw[if_pos e3]; exact b t (by omega)
     ·rw[if_neg e3,if_neg (by omega)]; exact hs t (by omega)
  obtain⟨x,y⟩:=Zdr f (bubble p i (i - l)) (i+1) (by rw[bubble_size]; omega) hs'
  rw[bubble_size]at y
  exact⟨x.trans (bubble_perm _ _ _),y⟩
theorem Zjn {n:Nat}(h1:1<=n):(kev (kl key) (kas_sort n)).toList.Perm (Y04 n)/\(kev (kl key) (kas_sort n)).toList.Pairwise (fun i j=>key i<=key j):=by
 have hz:n=(Y04 n).toArray.size:=by simp
 obtain⟨m,q,e,pq,sq,a,b,c⟩:=Zfe key h1 hz
 have key':∀ q':Array Nat,q'.Perm (Y04 n).toArray->Srt key q' n->q'.toList.Perm (Y04 n)/\q'.toList.Pairwise (fun i j=>key i<=key j):=fun q' pq' sq'=>by
  have pl:q'.toList.Perm (Y04 n):=by simpa using pq'.toList
  refine⟨pl,Y1t.mpr fun i j hi hj hij=>?_⟩
  have hl:q'.toList.length=n:=by rw[pl.length_eq,Y0d]
  have:=Srt.le key sq' (Y1e hij) (by omega)
  unfold ka at this
  rw[Array.getD_eq_getD_getElem?,Array.getD_eq_getD_getElem?]at this
  have g:∀ t (ht:t < q'.toList.length),q'[t]?.getD 0=q'.toList[t]:=fun t ht=>by
   have ht':t < q'.size:=by simpa using ht
   rw[Array.getElem?_eq_getElem ht']; simp
  rw[g i hi,g j hj]at this
  exact this
 unfold kas_sort
 rw[Z2q,e]
 show (kev (kl key) (if m < n then kas_bin (n - max m 1) q (max m 1) else KasT.ret q)).toList.Perm _/\_
 by_cases hm:m < n
 ·rw[if_pos hm]
  have em:max m 1=m:=by omega
  rw[em]
  obtain⟨x,y⟩:=Zdr key (n - m) q m (by omega) c
  rw[show q.size=n from by omega]at y
  exact key' _ (x.trans pq) y
 ·rw[if_neg hm]
  have em:m=n:=by omega
  subst em
  exact key' _ pq c
def Pth {α:Type}(lt:Nat->Nat->Bool)(n:Nat):KasT α->Prop
 | .ret _=>True
 | .ask i j k=>i < n/\j < n/\Pth lt n (k (lt i j))
theorem Z4j {α β:Type}{lt:Nat->Nat->Bool}{n:Nat}:∀ (t:KasT α) (f:α->KasT β),Pth lt n t->Pth lt n (f (kev lt t))->Pth lt n (t.bind f)
 | .ret a,f,_,h=>by rw[KasT.bind]; exact h
 | .ask i j k,f,h1,h=>by
  rw[KasT.bind]
  exact⟨h1.1,h1.2.1,Z4j (k (lt i j)) f h1.2.2 h⟩
def Z3p (n:Nat)(p:Array Nat):Prop:=∀ i,p.getD i 0 < n
theorem Z3p.perm {n:Nat}{p q:Array Nat}(h:Z3p n p)(pq:q.Perm p):Z3p n q:=fun i=>by
 have h0:0 < n:=Y2a (Y0w _) (h 0)
 by_cases hi:i < q.size
 ·have hm:q[i]∈p:=pq.mem_iff.mp (Array.getElem_mem hi)
  obtain⟨j,hj,e⟩:=Array.mem_iff_getElem.mp hm
  have:=h j
  rw[Array.getD_eq_getD_getElem?,Array.getElem?_eq_getElem hj]at this
  rw[Array.getD_eq_getD_getElem?,Array.getElem?_eq_getElem hi,<-e]
  exact this
 ·rw[Array.getD_eq_getD_getElem?,Array.getElem?_eq_none (by omega)]; exact h0
variable {lt:Nat->Nat->Bool}{n:Nat}
theorem Zdd {p:Array Nat}(h:Z3p n p):∀ (f i:Nat),Pth lt n (kas_asc p f i)
 | 0,i=>by rw[kas_asc]; trivial
 | f+1,i=>by
  rw[kas_asc]
  refine⟨h _,h _,?_⟩
  dsimp only
  split
  ·trivial
  ·exact Zdd h f (i+1)
theorem Z6y {p:Array Nat}(h:Z3p n p):∀ (f k l r:Nat),Pth lt n (kas_place p k f l r)
 | 0,k,l,r=>by rw[kas_place]; trivial
 | f+1,k,l,r=>by
  rw[kas_place]
  split
  ·trivial
  ·refine⟨h _,h _,?_⟩
   dsimp only
   split
   ·exact Z6y h f k l _
   ·exact Z6y h f k _ r
theorem Zga:∀ (f:Nat) (p:Array Nat) (i:Nat),Z3p n p->Pth lt n (kas_bin f p i)
 | 0,p,i,_=>by rw[kas_bin]; trivial
 | f+1,p,i,h=>by
  rw[kas_bin]
  exact Z4j _ _ (Z6y h _ _ _ _) (Zga f _ _ (h.perm (bubble_perm _ _ _)))
theorem Z6o:∀ (f:Nat) (p:Array Nat) (i k:Nat),Z3p n p->Pth lt n (kas_desc f p i k)/\Z3p n (kev lt (kas_desc f p i k)).1
 | 0,p,i,k,h=>by rw[kas_desc]; exact⟨trivial,h⟩
 | f+1,p,i,k,h=>by
  have key:Pth lt n (if lt (p.getD i 0) (p.getD (i - 1) 0)=true then if k > 0 then kas_desc f (kas_rev p (i - (k+1)) i) (i+1) 0 else kas_desc f p (i+1) 0 else KasT.ask (p.getD (i - 1) 0) (p.getD i 0) fun d=>if d=true then KasT.ret (p,i,k) else kas_desc f p (i+1) (k+1))/\
    Z3p n (kev lt (if lt (p.getD i 0) (p.getD (i - 1) 0)=true then if k > 0 then kas_desc f (kas_rev p (i - (k+1)) i) (i+1) 0 else kas_desc f p (i+1) 0 else KasT.ask (p.getD (i - 1) 0) (p.getD i 0) fun d=>if d=true then KasT.ret (p,i,k) else kas_desc f p (i+1) (k+1))).1:=by
   by_cases c:lt (p.getD i 0) (p.getD (i - 1) 0)=true
   ·rw[if_pos c]
    by_cases d:k > 0
    ·rw[if_pos d]; exact Z6o f (kas_rev p (i - (k+1)) i) (i+1) 0 (h.perm (Z38 _ _ _))
    ·rw[if_neg d]; exact Z6o f p (i+1) 0 h
   ·rw[if_neg c,Z3z]
    have key2:Pth lt n (if lt (p.getD (i - 1) 0) (p.getD i 0)=true then KasT.ret (p,i,k) else kas_desc f p (i+1) (k+1))/\Z3p n (kev lt (if lt (p.getD (i - 1) 0) (p.getD i 0)=true then KasT.ret (p,i,k) else kas_desc f p (i+1) (k+1))).1:=by
     by_cases d:lt (p.getD (i - 1) 0) (p.getD i 0)=true
     ·rw[if_pos d]; exact⟨trivial,h⟩
     ·rw[if_neg d]; exact Z6o f p (i+1) (k+1) h
    exact⟨⟨h _,h _,key2.1⟩,key2.2⟩
  rw[kas_desc]
  exact⟨⟨h _,h _,key.1⟩,key.2⟩
theorem Ze8 {p:Array Nat}(h:Z3p n p)(m k:Nat):Pth lt n (kas_tail3 m k p)/\Z3p n (kev lt (kas_tail3 m k p)).2:=by
 unfold kas_tail3
 rw[Z2q]
 have h':=h.perm (Z38 p 0 m)
 exact⟨Z4j _ _ (Zdd h' _ _) trivial,h'⟩
theorem Z6f {p:Array Nat}(h:Z3p n p)(m k:Nat):Pth lt n (kas_descPart m k p)/\Z3p n (kev lt (kas_descPart m k p)).2:=by
 unfold kas_descPart
 rw[Z2q]
 obtain⟨a,b⟩:=Z6o (lt:=lt) (k - (m+1)) p (m+1) 0 h
 generalize he:kev lt (kas_desc (k - (m+1)) p (m+1) 0)=r at b
 have key:Pth lt n (if r.2.2 > 0 then kas_tail3 r.2.1 k (kas_rev r.1 (r.2.1 - (r.2.2+1)) r.2.1) else kas_tail3 r.2.1 k r.1)/\Z3p n (kev lt (if r.2.2 > 0 then kas_tail3 r.2.1 k (kas_rev r.1 (r.2.1 - (r.2.2+1)) r.2.1) else kas_tail3 r.2.1 k r.1)).2:=by
  by_cases c:r.2.2 > 0
  ·rw[if_pos c]; exact Ze8 (b.perm (Z38 _ _ _)) _ _
  ·rw[if_neg c]; exact Ze8 b _ _
 exact⟨Z4j _ _ a (by rw[he]; exact key.1),key.2⟩
theorem Zhn {p:Array Nat}(h:Z3p n p)(m:Nat):Pth lt n (kas_count m p)/\Z3p n (kev lt (kas_count m p)).2:=by
 unfold kas_count
 rw[Z2q]
 have key:∀ q:Nat,Pth lt n (if (q == m)=true then KasT.ret (q,p) else if q > 1 then KasT.ask (p.getD 0 0) (p.getD (q - 1) 0) fun c=>if c=true then KasT.ret (q,p) else kas_descPart q m (kas_rev p 0 q) else kas_descPart q m p)/\
   Z3p n (kev lt (if (q == m)=true then KasT.ret (q,p) else if q > 1 then KasT.ask (p.getD 0 0) (p.getD (q - 1) 0) fun c=>if c=true then KasT.ret (q,p) else kas_descPart q m (kas_rev p 0 q) else kas_descPart q m p)).2:=by
  intro q
  by_cases c1:(q == m)=true
  ·rw[if_pos c1]; exact⟨trivial,h⟩
  ·rw[if_neg c1]
   by_cases c2:q > 1
   ·rw[if_pos c2,Z3z]
    show (_/\_/\Pth lt n (if lt (p.getD 0 0) (p.getD (q - 1) 0)=true then _ else _))/\_
    by_cases c3:lt (p.getD 0 0) (p.getD (q - 1) 0)=true
    ·rw[if_pos c3]; exact⟨⟨h _,h _,trivial⟩,h⟩
    ·rw[if_neg c3]
     obtain⟨a,b⟩:=Z6f (lt:=lt) (h.perm (Z38 p 0 q)) q m
     exact⟨⟨h _,h _,a⟩,b⟩
   ·rw[if_neg c2]; exact Z6f h q m
 exact⟨Z4j _ _ (Zdd h _ _) (key _).1,(key _).2⟩
theorem Zjy {n:Nat}(h0:0 < n):Pth lt n (kas_sort n):=by
 have h:Z3p n (Y04 n).toArray:=fun i=>by
  rw[Array.getD_eq_getD_getElem?]
  by_cases hi:i < n
  ·simp[hi]
  ·simp[hi]; omega
 obtain⟨a,b⟩:=Zhn (lt:=lt) h n
 unfold kas_sort
 refine Z4j _ _ a ?_
 split
 ·exact Zga _ _ _ b
 ·trivial
theorem Zdk {α:Type}{cmp:Nat->Nat->(Bool->Shared->Prop)->Shared->Prop}{I:Shared->Prop}(hc:∀ i j (C:Bool->Shared->Prop) s,i < n->j < n->I s->(∀ s',I s'->C (lt i j) s')->cmp i j C s) :
  ∀ (t:KasT α) (G:α->Shared->Prop) (s:Shared),Pth lt n t->I s->(∀ s',I s'->G (kev lt t) s')->KasT.kasWp cmp t G s
 | .ret a,G,s,_,hi,hG=>by rw[KasT.kasWp]; exact hG s hi
 | .ask i j k,G,s,hp,hi,hG=>by
  rw[KasT.kasWp]
  exact hc i j _ s hp.1 hp.2.1 hi fun s' hi'=>Zdk hc (k (lt i j)) G s' hp.2.2 hi' hG
def Z1m (h:Heap)(a:Addr)(vs:List Value):Heap:=((h.update a (Obj.mapSeq fun x=>#[])).push (seqObj "tuple" vs.toArray 0)).push (seqObj "list" #[] 0)
theorem Zao {prog:Program}{w:World}{A:Around}{E:Value->Shared->Prop}{s:Shared}{a:Addr}{vs:List Value}{n:Nat}{P:PySem.Fin->Shared->Prop}(key:Nat->Nat)(κ:SortKind)
  (hs:s.heap.get? a=some (seqObj "list" vs.toArray n)) (h2:2<=vs.length) (h64:vs.length < 64)
  (hk:∀ (E':Value->Shared->Prop) (Q:SortKind->Shared->Prop) (tk:Nat),(∀ tk',Q κ { s with heap:=Z1m s.heap a vs,toks:=tk' })->wpAny (model prog w) A (keyKind' vs.toArray) Q E' { s with heap:=Z1m s.heap a vs,toks:=tk })
  (hc:∀ i j (C:Bool->Shared->Prop) (tk:Nat),i < vs.length->j < vs.length->(∀ tk',C (kl key i j) { s with heap:=Z1m s.heap a vs,toks:=tk' })->kas_ask prog w A κ vs i j C { s with heap:=Z1m s.heap a vs,toks:=tk })
  (h:∀ (p:List Nat) (tk:Nat),p.Perm (Y04 vs.length)->p.Pairwise (fun i j=>key i<=key j)->P (Fin.done (Flow.ret Value.none)) { s with heap:=sortedHeap s.heap a vs (p.map fun i=>vs.getD i Value.none).toArray,toks:=tk }) :
  wpAny (model prog w) A (Builtin.«list.sort» { pos:=[Value.ref a] }) P E s:=by
 rw[list_sort_plain]
 refine wpAny_bind (listItems_at hs rfl ?_)
 refine wpAny_bind (listUpdate_at hs rfl ?_ (by rw[Y0i]; exact Y1e (Z0j (by omega))) (by simp))
 have e1:∃ e,(s.heap.update a (Obj.mapSeq fun x=>#[])).get? a=some (seqObj "list" #[] e):=by
  have:=get?_update_seq hs (fun _=>#[])
  exact⟨_,this⟩
 obtain⟨e1,he1⟩:=e1
 refine wpAny_bind (seqEpoch_at he1 rfl ?_)
 refine wpAny_bind (wpAny_newTuple ?_ (by show vs.toArray.toList.length<=sizeLine; rw[List.toList_toArray]; exact Y1e (Z0j (by omega))))
 refine wpAny_bind (wpAny_newList ?_ (by simp))
 refine wpAny_holding ?_
 have hsz:¬ vs.toArray.size < 2:=by rw[Y0i]; omega
 dsimp only
 rw[if_neg hsz]
 refine wpAny_bind (hk E _ s.toks fun tk0=>?_)
 rw[if_neg hsz]
 have h0:0 < vs.length:=by omega
 have hw:=Zdk (lt:=kl key) (n:=vs.length) (cmp:=kas_ask prog w A κ vs) (I:=fun s'=>∃ tk,s'={ s with heap:=Z1m s.heap a vs,toks:=tk }) (fun i j C s' hi hj ⟨tk,e⟩ hC=>by
  subst e
  exact hc i j C tk hi hj fun tk'=>hC _ ⟨tk',rfl⟩) (kas_sort vs.length) (fun p s'=>p=kev (kl key) (kas_sort vs.length)/\∃ tk,s'={ s with heap:=Z1m s.heap a vs,toks:=tk }) { s with heap:=Z1m s.heap a vs,toks:=tk0 } (Zjy h0) ⟨tk0,rfl⟩ (fun s' h'=>⟨rfl,h'⟩)
 obtain⟨sp1,sp2⟩:=Zjn key (n:=vs.length) (by omega)
 refine wpAny_bind (thn (kat_run (ks:=vs) (vs:=vs) rfl h2 h64 (Q:=fun st s'=>Array.map (fun x=>x.snd) (arrOf st)=((kev (kl key) (kas_sort vs.length)).toList.map fun i=>vs.getD i Value.none).toArray/\failedOf st=none/\∃ tk,s'={ s with heap:=Z1m s.heap a vs,toks:=tk })
  (fun p st' s' hp harr hf ⟨ep,ht⟩=>⟨by rw[kat_snds rfl harr,ep],hf,ht⟩) hw) fun r s' ⟨ha,hf,tk,es⟩=>?_)
 subst es
 have hae:(Z1m s.heap a vs).get? a=some (seqObj "list" #[] e1):=by
  unfold Z1m
  exact Y02 _ (Y02 _ he1)
 refine wpAny_bind (seqEpoch_at hae rfl ?_)
 refine wpAny_bind (listUpdate_at hae rfl ?_ (by simp) (by
  rw[ha]
  simp only[Y0i,Y09]
  rw[show (kev (kl key) (kas_sort vs.length)).toList.length=vs.length from by rw[sp1.length_eq,Y0d]]
  have:=Z0j (n:=vs.length) (by omega)
  omega))
 rw[hf]
 dsimp only
 rw[if_neg (by simp)]
 rw[ha]
 exact wpAny_pure (h _ tk sp1 sp2)
theorem Ze5 {vs:List Value}{ns:List Int}(h:IntsAre vs ns)(i:Nat):(vs[i]?=none/\ns[i]?=none)\/∃ a t,vs[i]?=some (.int a t)/\ns[i]?=some a:=by
 induction h generalizing i with
 | nil=>exact .inl ⟨by simp,by simp⟩
 | cons a t _ ih=>
  cases i with
  | zero=>exact .inr ⟨a,t,by simp,by simp⟩
  | succ i=>simpa using ih i
theorem Zi1 {α:Type}{l:List α}{i:Nat}{a:α}(h:l[i]?=some a):l.drop i=a :: l.drop (i+1):=by
 obtain⟨hi,e⟩:=Y03.mp h
 rw[Y26 hi,e]
theorem Znq (l b:Addr)(items items2:Array Value)(n n2:Nat)(ns ms:List Int)(hi:IntsAre items.toList ns)(hj:IntsAre items2.toList ms):∀ (k i:Nat),i+k=items.size->
  Meets (Builtin.«list.__eq__.loop» ⟨[.ref l,.ref b,rawInt (i:Nat),rawInt 0],[]⟩) (fun A R s=>s.heap.get? l=some { cls:=.type "list",data:=.seq items n }/\s.heap.get? b=some { cls:=.type "list",data:=.seq items2 n2 }/\
   R (.ok (.ret (.bool (HT.lexLt (ns.drop i) (ms.drop i))))) s):=by
 intro k
 induction k with
 | zero=>
  intro i hk prog w A R s ⟨hl,hb,hR⟩
  unfold Builtin.«list.__eq__.loop»
  dsimp only [rawInt]
  refine wpAny_bind (listItems_at hl rfl (wpAny_bind (listItems_at hb rfl ?_)))
  rw[Int.toNat_natCast]
  have e1:items[i]?=none:=Array.getElem?_eq_none (by omega)
  rw[e1]
  refine wpAny_bind (listItems_at hl rfl (wpAny_bind (listItems_at hb rfl ?_)))
  show wpAny _ _ (ret (Value.bool (decide (items.size < items2.size)))) _ _ _
  have en:ns.drop i=[]:=List.drop_eq_nil_of_le (by rw[<-hi.length]; simp; omega)
  rw[en]at hR
  have ez:HT.lexLt [] (ms.drop i)=decide (items.size < items2.size):=by
   have el:ms.length=items2.size:=by rw[<-hj.length]; simp
   cases hd:ms.drop i with
   | nil=>
    have:=List.drop_eq_nil_iff.mp hd
    rw[HT.lexLt_nil_nil,decide_eq_false (by omega)]
   | cons y ys=>
    have:¬ ms.length<=i:=fun z=>by rw[List.drop_eq_nil_of_le z]at hd; cases hd
    rw[HT.lexLt_nil_cons,decide_eq_true (by omega)]
  rw[ez]at hR
  exact wpAny_pure hR
 | succ k ih=>
  intro i hk prog w A R s ⟨hl,hb,hR⟩
  unfold Builtin.«list.__eq__.loop»
  dsimp only [rawInt]
  refine wpAny_bind (listItems_at hl rfl (wpAny_bind (listItems_at hb rfl ?_)))
  rw[Int.toNat_natCast]
  have g1:=Ze5 hi i
  have g2:=Ze5 hj i
  simp only[Array.getElem?_toList]at g1 g2
  rcases g1 with ⟨g1,_⟩ | ⟨a,t,g1,g1'⟩
  ·have:=Array.getElem?_eq_none_iff.mp g1
   omega
  ·rw[g1]
   rw[Zi1 g1']at hR
   rcases g2 with ⟨g2,g2'⟩ | ⟨c,u,g2,g2'⟩
   ·rw[g2]
    refine wpAny_bind (listItems_at hl rfl (wpAny_bind (listItems_at hb rfl ?_)))
    show wpAny _ _ (ret (Value.bool (decide (items.size < items2.size)))) _ _ _
    have h1:=Array.getElem?_eq_none_iff.mp g2
    rw[List.drop_eq_nil_of_le (List.getElem?_eq_none_iff.mp g2'),HT.lexLt_cons_nil]at hR
    rw[decide_eq_false (by omega)]
    exact wpAny_pure hR
   ·rw[g2]
    rw[Zi1 g2',HT.lexLt_cons]at hR
    obtain⟨e,he,hiff⟩:=HT.eqAt_int A.in1 s a t c u
    refine wpAny_bind (he prog w _ _ ?_)
    cases e with
    | true=>
     rw[if_pos (hiff.mp rfl)]at hR
     rw[if_pos rfl]
     exact MeetsSeq.meets_again rfl MeetsSeq3.plain_eq_loop MeetsSeq3.entry_eq_loop (ih (i+1) (by omega)) prog w A R s ⟨hl,hb,hR⟩
    | false=>
     rw[if_neg (fun q=>absurd (hiff.mpr q) Bool.false_ne_true)]at hR
     rw[if_neg (by decide)]
     refine wpAny_bind (listItems_at hl rfl (wpAny_bind (listItems_at hb rfl ?_)))
     rw[g1,g2]
     dsimp only
     refine wpAny_bind (HT.rcLt_int A.in1 s a t c u prog w _ _ ?_)
     exact wpAny_pure hR
theorem Zbu (l b:Addr)(items items2:Array Value)(n n2:Nat)(ns ms:List Int)(hi:IntsAre items.toList ns)(hj:IntsAre items2.toList ms) :
  Meets (Builtin.«list.__lt__» ⟨[.ref l,.ref b],[]⟩) (fun A R s=>s.heap.get? l=some { cls:=.type "list",data:=.seq items n }/\s.heap.get? b=some { cls:=.type "list",data:=.seq items2 n2 }/\
   R (.ok (.ret (.bool (HT.lexLt ns ms)))) s):=by
 intro prog w A R s ⟨hl,hb,hR⟩
 have f2:=AutoSeq1.sub_list_list
 obtain⟨hp,g,d,tk,os⟩:=s
 wp_walk
 exact⟨plainId_quiet MeetsSeq3.plain_eq_loop _,codeAny_builtin MeetsSeq3.entry_eq_loop (by rw[Around.under_plainId MeetsSeq3.plain_eq_loop]; exact Znq l b items items2 n n2 ns ms hi hj items.size 0 (by omega) prog w A R _ ⟨hl,hb,hR⟩)⟩
theorem Zhp {prog:Program}{w:World}{A:Around}{E:Value->Shared->Prop}{s:Shared}{l b:Addr}{items items2:Array Value}{n n2:Nat}{ns ms:List Int}{Q:Bool->Shared->Prop}(hu:A.units < cLine)
  (hl:s.heap.get? l=some { cls:=.type "list",data:=.seq items n }) (hb:s.heap.get? b=some { cls:=.type "list",data:=.seq items2 n2 }) (hi:IntsAre items.toList ns) (hj:IntsAre items2.toList ms) (h:Q (HT.lexLt ns ms) s) :
  wpAny (model prog w) A (keyLt' oneType' (.ref l) (.ref b)) Q E s:=by
 rw[keyLt'_oneType,oneLt'_eq]
 dsimp only
 rw[if_pos rfl]
 refine wpAny_bind (wpAny_cRoomFor hu ?_)
 refine wpAny_bind (wpAny_callSpecialIfBound?_slot ⟨_,hl,rfl⟩ PySem.F.slot_list_lt ?_)
 refine call_meetsIn PySem.F.slot_list_lt ⟨_,hl,rfl⟩ PySem.F.entry_list_lt (PySem.F.args_list_lt_2 _ _) ((Zbu l b items items2 n n2 ns ms hi hj).inModel prog w) ⟨hl,hb,?_⟩
 show wpAny (model prog w) A (truthOfDropped (Value.bool (HT.lexLt ns ms))) Q E s
 exact wpAny_truthy_bool h
theorem Za3 {prog:Program}{w:World}{A:Around}{E:Value->Shared->Prop}{s:Shared}{a:Addr}{vs:List Value}{n:Nat}{P:PySem.Fin->Shared->Prop}
  (hs:s.heap.get? a=some (seqObj "list" vs.toArray n)) (h2:vs.length < 2)
  (h:P (Fin.done (Flow.ret Value.none)) { s with heap:=sortedHeap s.heap a vs vs.toArray }) :
  wpAny (model prog w) A (Builtin.«list.sort» { pos:=[Value.ref a] }) P E s:=by
 rw[list_sort_plain]
 refine wpAny_bind (listItems_at hs rfl ?_)
 refine wpAny_bind (listUpdate_at hs rfl ?_ (by rw[Y0i]; exact Y1e (Z0j (by omega))) (by simp))
 have e1:∃ e,(s.heap.update a (Obj.mapSeq fun x=>#[])).get? a=some (seqObj "list" #[] e):=⟨_,get?_update_seq hs (fun _=>#[])⟩
 obtain⟨e1,he1⟩:=e1
 refine wpAny_bind (seqEpoch_at he1 rfl ?_)
 refine wpAny_bind (wpAny_newTuple ?_ (by show vs.toArray.toList.length<=sizeLine; rw[List.toList_toArray]; exact Y1e (Z0j (by omega))))
 refine wpAny_bind (wpAny_newList ?_ (by simp))
 refine wpAny_holding ?_
 have hsz:vs.toArray.size < 2:=by rw[Y0i]; omega
 dsimp only
 rw[if_pos hsz]
 refine wpAny_bind (wpAny_pure ?_)
 rw[if_pos hsz]
 refine wpAny_bind (wpAny_pure ?_)
 have hae:(Z1m s.heap a vs).get? a=some (seqObj "list" #[] e1):=by
  unfold Z1m
  exact Y02 _ (Y02 _ he1)
 refine wpAny_bind (seqEpoch_at hae rfl ?_)
 have ha:Array.map (fun x:Keyed=>x.snd) (arrOf (SortSt.mk' general' (vs.toArray.zip vs.toArray) #[] 7 none))=vs.toArray:=by
  show Array.map (fun x:Keyed=>x.snd) (vs.toArray.zip vs.toArray)=vs.toArray
  rw[List.zip_toArray,List.map_toArray]
  congr 1
  exact List.map_snd_zip (Y06 _)
 refine wpAny_bind (listUpdate_at hae rfl ?_ (by simp) (by
  show (Array.map (fun x:Keyed=>x.snd) (arrOf (SortSt.mk' general' (vs.toArray.zip vs.toArray) #[] 7 none))).size<=sizeLine+1
  rw[ha,Y0i]
  have:=Z0j (n:=vs.length) (by omega)
  omega))
 have hf:failedOf (((),SortSt.mk' general' (vs.toArray.zip vs.toArray) #[] 7 none):Unit×SortSt).snd=none:=rfl
 rw[hf]
 dsimp only
 rw[if_neg (by simp)]
 refine wpAny_pure ?_
 rw[ha]
 exact h
def Ztk (lt:Nat->Nat->Bool)(n i:Nat):Nat:=((Y04 n).filter fun j=>lt j i).length
theorem Z8m {n:Nat}{p q:Nat->Bool}(h:∀ j,j < n->p j=true->q j=true):((Y04 n).filter p).length<=((Y04 n).filter q).length:=by
 induction n with
 | zero=>simp
 | succ n ih=>
  have h1:=ih fun j hj=>h j (by omega)
  have h2:=h n (by omega)
  rw[Y1j,Y1n,Y1n,Y07,Y07]
  by_cases c:p n=true
  ·rw[Y20 c,Y20 (h2 c)]; simp; exact h1
  ·rw[List.filter_cons_of_neg c]
   simp
   omega
theorem Zcf {n i:Nat}{p q:Nat->Bool}(hi:i < n)(h:∀ j,j < n->p j=true->q j=true)(hp:p i=false)(hq:q i=true):((Y04 n).filter p).length < ((Y04 n).filter q).length:=by
 induction n with
 | zero=>omega
 | succ n ih=>
  have h2:=h n (by omega)
  rw[Y1j,Y1n,Y1n,Y07,Y07]
  rcases Y0z i n with c | c
  ·have h1:=ih c fun j hj=>h j (by omega)
   by_cases c:p n=true
   ·rw[Y20 c,Y20 (h2 c)]; simp; exact h1
   ·rw[List.filter_cons_of_neg c]; simp; omega
  ·have:i=n:=by omega
   subst this
   have h1:=Z8m (n:=i) (p:=p) (q:=q) fun j hj=>h j (by omega)
   rw[List.filter_cons_of_neg (by rw[hp]; decide),Y20 hq]
   simp
   omega
theorem Zo9 {lt:Nat->Nat->Bool}{n:Nat}(ir:∀ i,lt i i=false)(tr:∀ i j k,lt i j=true->lt j k=true->lt i k=true)(nt:∀ i j k,lt i k=true->lt i j=true\/lt j k=true){i j:Nat}(hi:i < n)(hj:j < n) :
  kl (Ztk lt n) i j=lt i j:=by
 cases h:lt i j with
 | true=>
  exact decide_eq_true (Zcf hi (fun k _ hk=>tr k i j hk h) (ir i) h)
 | false=>
  refine decide_eq_false (Nat.not_lt.mpr (Z8m fun k _ hk=>?_))
  rcases nt k i j hk with z | z
  ·exact z
  ·rw[h]at z; cases z
theorem Zjo:∀ a:List Int,HT.lexLt a a=false
 | []=>rfl
 | x :: a=>by rw[HT.lexLt_cons,if_pos rfl]; exact Zjo a
theorem Zj3:∀ {a b c:List Int},HT.lexLt a b=true->HT.lexLt b c=true->HT.lexLt a c=true
 | [],_,[],_,h=>by cases ‹List Int› <;> simp[HT.lexLt]at h
 | [],_,_ :: _,_,_=>rfl
 | _ :: _,[],_,h,_=>by simp[HT.lexLt]at h
 | x :: a,y :: b,[],_,h=>by simp[HT.lexLt]at h
 | x :: a,y :: b,z :: c,h1,h2=>by
  rw[HT.lexLt_cons]at h1 h2 ⊢
  by_cases e1:x=y
  ·subst e1
   rw[if_pos rfl]at h1
   by_cases e2:x=z
   ·subst e2
    rw[if_pos rfl]at h2 ⊢
    exact Zj3 h1 h2
   ·rw[if_neg e2]at h2 ⊢; exact h2
  ·rw[if_neg e1]at h1
   have h1:=of_decide_eq_true h1
   by_cases e2:y=z
   ·subst e2
    rw[if_neg e1]; exact decide_eq_true h1
   ·rw[if_neg e2]at h2
    have h2:=of_decide_eq_true h2
    rw[if_neg (by omega)]; exact decide_eq_true (by omega)
theorem Zgw:∀ {a b:List Int},HT.lexLt a b=false->HT.lexLt b a=false->a=b
 | [],[],_,_=>rfl
 | [],_ :: _,h,_=>by simp[HT.lexLt]at h
 | _ :: _,[],_,h=>by simp[HT.lexLt]at h
 | x :: a,y :: b,h1,h2=>by
  rw[HT.lexLt_cons]at h1 h2
  by_cases e:x=y
  ·subst e
   rw[if_pos rfl]at h1 h2
   rw[Zgw h1 h2]
  ·rw[if_neg e]at h1
   rw[if_neg (fun z=>e z.symm)]at h2
   have h1:=of_decide_eq_false h1
   have h2:=of_decide_eq_false h2
   omega
theorem Zrp {a b c:List Int}(h:HT.lexLt a c=true):HT.lexLt a b=true\/HT.lexLt b c=true:=by
 cases h1:HT.lexLt a b with
 | true=>exact .inl rfl
 | false=>
  right
  cases h2:HT.lexLt b a with
  | true=>exact Zj3 h2 h
  | false=>rw[<-Zgw h1 h2]; exact h
theorem Zbq {h:Heap}{a b:Addr}{vs:List Value}{o:Obj}(hb:b≠a)(e:h.get? b=some o):(Z1m h a vs).get? b=some o:=by
 unfold Z1m
 exact Y02 _ (Y02 _ ((Y15 _ _ hb.symm).trans e))
theorem Z8h {prog:Program}{w:World}{A:Around}{E:Value->Shared->Prop}{s:Shared}{p:Addr}{vs:List Value}{Q:Value->Shared->Prop}(key:Nat->Nat)(κ:SortKind)(hL:s.heap.IsList p vs.toArray)(h64:vs.length < 64)(hh:A.handled=none)(hu:A.units+10 < cLine)
  (hk:2<=vs.length->∀ (A':Around) (E':Value->Shared->Prop) (R:SortKind->Shared->Prop) (s':Shared),A'.units+5 < cLine->(∀ b o,s.heap.get? b=some o->s'.heap.get? b=some o)->(∀ tk,R κ { s' with toks:=tk })->wpAny (model prog w) A' (keyKind' vs.toArray) R E' s')
  (hc:2<=vs.length->∀ (A':Around) i j (C:Bool->Shared->Prop) (s':Shared),A'.units+5 < cLine->(∀ b o,s.heap.get? b=some o->s'.heap.get? b=some o)->i < vs.length->j < vs.length->(∀ tk,C (kl key i j) { s' with toks:=tk })->kas_ask prog w A' κ vs i j C s')
  (h:∀ (h1 h2:Heap) (tk e:Nat) (π:List Nat),π.Perm (Y04 vs.length)->π.Pairwise (fun i j=>key i<=key j)->(∀ b o,s.heap.get? b=some o->h1.get? b=some o)->h2.get? h1.objs.size=some (seqObj "list" (π.map fun i=>vs.getD i Value.none).toArray e)->
   (∀ b o,h1.get? b=some o->h2.get? b=some o)->Q (.ref h1.objs.size) { s with heap:=h2,toks:=tk }) :
  wpAny (model prog w) A (call (.builtin "sorted") [.ref p]) Q E s:=by
 refine Calls.call_function_entry kind_sorted plain_sorted entry_sorted (args_sorted1 _) ?_
 unfold Builtin.«sorted»
 refine wpAny_bind (m:=checkCount "sorted" 1 1 _) (wpAny_pure ?_)
 have hz:vs.length<=sizeLine:=Y1e (Z0j (by omega))
 refine wpAny_bind (collect_list hL ?_ hz)
 generalize hh':(Heap.update _ _ _)=h'
 have hk':∀ b o,s.heap.get? b=some o->h'.get? b=some o:=fun b o e=>by
  rw[<-hh']
  exact (Y15 _ _ (Nat.ne_of_gt (Y0c e))).trans (Y02 _ e)
 refine wpAny_bind (wpAny_newList ?_ hz)
 have hD:(h'.push (seqObj "list" vs.toArray 0)).get? h'.objs.size=some (seqObj "list" vs.toArray 0):=Y0b _ rfl
 have old:∀ out b o,h'.get? b=some o->(sortedHeap (h'.push (seqObj "list" vs.toArray 0)) h'.objs.size vs out).get? b=some o:=fun out b o q1=>by
  have q2:=Y0c q1
  rw[sortedHeap_old (Y0l q2) (by rw[Y1s]; exact Y13 q2)]
  exact Y02 _ q1
 have mid:∀ b o,s.heap.get? b=some o->(Z1m (h'.push (seqObj "list" vs.toArray 0)) h'.objs.size vs).get? b=some o:=fun b o q1=>by
  have q2:=hk' b o q1
  exact Zbq (Y0l (Y0c q2)) (Y02 _ q2)
 rcases Y0z vs.length 2 with c | c
 ·refine wpAny_bind (wpAny_holding (wpAny_call_entry slot_list_sort ⟨_,Y0b _ rfl,rfl⟩ entry_list_sort (Za3 hD c ⟨_,rfl,?_⟩) (args_list_sort _)))
  obtain⟨e,he⟩:=sortedHeap_at (out:=vs.toArray) (n:=0) hD
  have eπ:((Y04 vs.length).map fun i=>vs.getD i Value.none)=vs:=by
   refine List.ext_getElem? fun i=>?_
   by_cases hi:i < vs.length
   ·simp[hi,Y05]
   ·simp[hi]
  refine wpAny_pure ⟨_,rfl,h h' _ s.toks e (Y04 vs.length) (List.Perm.refl _) ?_ hk' (by rw[eπ]; exact he) (old _)⟩
  refine Y1t.mpr fun i j hi hj hij=>?_
  rw[Y0d]at hi hj
  omega
 ·refine wpAny_bind (wpAny_holding (wpAny_call_entry slot_list_sort ⟨_,Y0b _ rfl,rfl⟩ entry_list_sort (Zao key κ hD c h64 (fun E' R tk hR=>hk c _ E' R _ ?_ mid hR) (fun i j C tk hi hj hC=>hc c _ i j C _ ?_ mid hi hj hC) (fun π tk p1 p2=>⟨_,rfl,?_⟩)) (args_list_sort _)))
  ·simp; omega
  ·simp; omega
  ·obtain⟨e,he⟩:=sortedHeap_at (out:=(π.map fun i=>vs.getD i Value.none).toArray) (n:=0) hD
   exact wpAny_pure ⟨_,rfl,h h' _ tk e π p1 p2 hk' he (old _)⟩
section
variable {X:Cx}
theorem Zbd:∀ {as:List Addr} {us:List Value},Z1c (as.map V.ref) us->us=as.map Value.ref
 | [],_,h=>by cases h; rfl
 | a :: as,_,h=>by
  cases h with
  | cons r t=>
   cases (show _=Value.ref a from r)
   rw[Zbd t]; rfl
theorem Zj9 (as:List Addr):Z1c (as.map V.ref) (as.map Value.ref):=by
 induction as with
 | nil=>exact .nil
 | cons a as ih=>exact .cons rfl ih
def Zhq (K:Y01):List V->Hp->VK->Prop:=fun xs H Q=>∃ (p:Addr) (as:List Addr) (Ms:List (List Int)),xs=[.ref p]/\SqL K H p (as.map V.ref)/\as.length < 64/\
 (∀ i,i < as.length->H (as.getD i 0)=some (.lst ((Ms.getD i []).map V.int)))/\
 ∀ (l:Addr) (π:List Nat),H l=none->π.Perm (Y04 as.length)->π.Pairwise (fun i j=>HT.lexLt (Ms.getD j []) (Ms.getD i [])=false)->Q (.ref l) (upd H l (.lst ((π.map fun i=>as.getD i 0).map V.ref)))
theorem Za4 (hc:X.calm=true)(hu:X.A.units+10 < cLine):Z33 X (.builtin "sorted") (Zhq X.K):=by
 intro pins s σ H xs us Q I rr h
 obtain⟨p,as,Ms,rfl,hq,h64,hM,q⟩:=h
 obtain⟨u,rfl,ru⟩:=Z3l rr
 obtain rfl:u=Value.ref p:=ru
 obtain⟨its,rv,pl,hz⟩:=I.list hq
 have ei:=Zbd rv
 subst ei
 have hlen:(as.map Value.ref).length=as.length:=Y09 ..
 have hget:∀ i,i < as.length->(as.map Value.ref).getD i Value.none=.ref (as.getD i 0):=fun i hi=>by
  simp[Y05,hi]
 let lt:Nat->Nat->Bool:=fun i j=>HT.lexLt (Ms.getD i []) (Ms.getD j [])
 have hkl:∀ i j,i < as.length->j < as.length->kl (Ztk lt as.length) i j=lt i j:=fun i j hi hj=>Zo9 (lt:=lt) (fun i=>Zjo (Ms.getD i [])) (fun i j k h1 h2=>Zj3 (b:=Ms.getD j []) h1 h2) (fun i j k h=>Zrp (b:=Ms.getD j []) h) hi hj
 have hobj:∀ i,i < as.length->∃ (items:List Value) (n:Nat),IntsAre items (Ms.getD i [])/\s.heap.get? (as.getD i 0)=some { cls:=.type "list",data:=.seq items.toArray n }:=fun i hi=>by
  obtain⟨_,its,n,r,e⟩:=(show Z1g X.prog X.w H s.heap (as.getD i 0) (.lst ((Ms.getD i []).map V.int)) from I.hok _ _ (hM i hi))
  exact⟨its,n,Z8k r,e⟩
 refine Z8h (Ztk lt as.length) oneType' pl.isList (by rw[hlen]; exact h64) (I.ok.hd hc) hu (fun c A' E' R s' _ hs hR=>?_) (fun c A' i j C s' hu' hs hi hj hC=>?_) (fun h1 h2 tk e π p1 p2 hk he hk2=>?_)
 ·refine kas_kind (T:=.type "list") c (fun v hv=>?_) rfl rfl (hR s'.toks)
  obtain⟨a,ha,rfl⟩:=Y0f.mp hv
  obtain⟨i,hi,ei⟩:=Y0x.mp ha
  obtain⟨items,n,_,ho⟩:=hobj i hi
  have ea:as.getD i 0=a:=by rw[Y05,Y00 hi,ei]; rfl
  rw[ea]at ho
  exact fun A'' Q'' E'' s'' hs'' q''=>wpAny_typeOf_ref (hs'' _ _ (hs _ _ ho)) q''
 ·rw[hlen]at hi hj
  unfold kas_ask
  rw[hget i hi,hget j hj]
  obtain⟨it1,n1,r1,o1⟩:=hobj i hi
  obtain⟨it2,n2,r2,o2⟩:=hobj j hj
  have hC:=hC s'.toks
  rw[hkl i j hi hj]at hC
  exact Zhp (by omega) (hs _ _ o1) (hs _ _ o2) r1 r2 hC
 ·rw[hlen]at p1
  have I1:Inv X pins σ H { s with heap:=h1,toks:=tk }:=I.kept hk
  have hl:(π.map fun i=>as.getD i 0).length < 64:=by rw[Y09,p1.length_eq,Y0d]; exact h64
  have hv:(π.map fun i=>(as.map Value.ref).getD i Value.none)=(π.map fun i=>as.getD i 0).map Value.ref:=by
   rw[Y0y]
   refine Y1p fun i hi=>?_
   exact hget i (Y08.mp (p1.mem_iff.mp hi))
  rw[hv]at he
  refine⟨.ref h1.objs.size,_,I1.laid (a:=h1.objs.size) (o:=.lst ((π.map fun i=>as.getD i 0).map V.ref)) (h':=h2) (t':=tk) hk2 (Y06 _) ⟨?_,_,e,Zj9 _,he⟩,rfl,q _ π (I1.hok.fresh (Y06 _)) p1 ?_⟩
  ·rw[Y09]; exact Y1e (Z0j (by omega))
  ·refine p2.imp_of_mem fun {i j} hi hj hij=>?_
   have hi:=Y08.mp (p1.mem_iff.mp hi)
   have hj:=Y08.mp (p1.mem_iff.mp hj)
   have:=hkl j i hj hi
   show lt j i=false
   rw[<-this]
   exact decide_eq_false (by omega)
end
end L2
namespace K1
open PySem L2 Sq
theorem Z6j:∀ xs:List Nat,PyData.depthAll (nd xs)=0
 | []=>rfl
 | x :: xs=>by show max 0 (PyData.depthAll (nd xs))=0; rw[Z6j xs]; rfl
def ld (r:List Nat):PyData:=.list (nd r)
theorem Zl9 {K:Y01}{H:Hp}{p:Addr}{r:List Nat}(h:SqL K H p (nv r)):Dt K H (.ref p) (ld r):=.lst h (Ze2 r)
theorem Zm9 (r r':List Nat):PyData.eqv (ld r) (ld r')=decide (r=r'):=Zes r r'
theorem Zf2 (r:List Nat):(ld r).canLay0=true:=Ze6 r
theorem Zdm (r:List Nat):(ld r).depth<=64:=by
 show PyData.depthAll (nd r)+1<=64
 rw[Z6j]; decide
theorem Zkp (r u:List Nat):(sd r u).depth<=64:=by
 show max (PyData.depthAll (nd r)+1) (max (PyData.depthAll (nd u)+1) 0)+1<=64
 rw[Z6j,Z6j]; decide
theorem Z59 {A:Around}{k:Nat}(hr:Z2d k A){d e:PyData}(h:d.depth<=64):A.units+min d.depth e.depth < cLine:=
 Y2a (Nat.add_le_add_left (Y17 (Nat.min_le_left _ _) h) _) hr.units
def But (l:Addr)(H H':Hp):Prop:=∀ b o,b≠l->H b=some o->H' b=some o
theorem Zfd {H:Hp}{a l:Addr}{xs ys:List V}(h:H a=some (.tup xs))(hl:H l=some (.lst ys)):a≠l:=fun e=>by rw[e,hl]at h; cases h
abbrev Zt1 (K:Y01):List V->Hp->VK->Prop:=fun xs H Q=>∃ p ys,xs=[.ref p]/\(SqL K H p ys\/SqT K H p ys)/\Q (.int ys.length) H
abbrev Zrw (K:Y01):TE:=tCB (Zt1 K) (Z0w (tOp (Zpx K) (Z1w 0) (tC (.int 0))) Z2t)
theorem Zor:(["_law_one"]:List Str).Nodup:=by decide +kernel
theorem Zpo {K:Y01}{Hc:Hp}{p:Addr}{xs:List V}{tl te:TE}{pull:List Nat}{Q:VK}{σ:St}{rest:St}(ys:List V)(hl:ys.length=xs.length)(hj:∀ R:VK,R (.ref p) Hc->tl σ Hc R)(hp:SqL K Hc p xs)(hb:bst 1 pull σ=none :: rest)
  (hte:∀ (i:Nat) (x y:V) (H:Hp) (R:VK),xs[i]?=some x->ys[i]?=some y->Z0d Hc H->R y H->te (some x :: rest) H R) (hn:xs.length<=1000)
  (k:∀ (H':Hp) (d:Addr),Z0d Hc H'->Hc d=none->H' d=some (.lst ys)->Q (.ref d) H') :
  Z82 (Zfi K tl) 1 pull (Z25 0) te σ Hc Q:=by
 refine hj _ ⟨p,rfl,⟨_,hp⟩,fun d hd=>?_⟩
 rw[hb]
 refine Z2z (Q:=fun d H'=>Q (.ref d) H') xs.length ys hl (fun i σ H3=>(∃ o,σ=o :: rest)/\Z0d Hc H3) ⟨⟨_,rfl⟩,Z02 (Z0d.refl _) hd⟩ ?_ ?_
 ·rintro i σ H3 hi ⟨⟨o,rfl⟩,s3⟩ hd3
  have hp3:=s3.seq hp
  have hg:xs[i]?=some xs[i]:=Y00 hi
  have hy':ys[i]?=some (ys[i]'(by omega)):=Y00 _
  refine⟨⟨_,_,hp3,hg⟩,fun y H4 ⟨e,hy⟩=>?_⟩
  subst e
  have hy:=hy _ hp3
  rw[hg]at hy
  cases hy
  refine hte i _ _ _ _ hg hy' s3 ?_
  exact Z70 hi hn hd3 hy' ⟨⟨_,rfl⟩,Z02 s3 hd⟩
 ·rintro σ H3 ⟨⟨o,rfl⟩,s3⟩ hd3
  exact⟨⟨_,s3.seq hp,Y06 _⟩,k H3 d s3 hd hd3⟩
theorem Zsh {A:Around}{k:Nat}(hr:Z2d k A):A.units+10 < cLine:=by
 have:=hr.units
 omega
theorem Zkm (m:List Nat):nv m=(m.map fun (x:Nat)=>(x:Int)).map V.int:=by rw[Y0y]; rfl
theorem Zri {a b:List Nat}(ha:a≠[])(hb:b≠[])(h:HT.lexLt (b.map fun (x:Nat)=>(x:Int)) (a.map fun (x:Nat)=>(x:Int))=false):hd0 a<=hd0 b:=by
 cases a with
 | nil=>exact absurd rfl ha
 | cons x a=>
  cases b with
  | nil=>exact absurd rfl hb
  | cons y b=>
   show x<=y
   rcases Y0z y x with c | c
   ·have:HT.lexLt ((y :: b).map fun (x:Nat)=>(x:Int)) ((x :: a).map fun (x:Nat)=>(x:Int))=true:=by
     rw[Y0u,Y0u,HT.lexLt_cons,if_neg (by omega),decide_eq_true (by omega)]
    rw[this]at h; cases h
   ·exact c
theorem Zr4 (t:List Nat){a n:Nat}(h:a+n<=t.length):Znc (nv t) (some (a:Int)) (some ((a:Int)+(n:Int)))=nv ((t.drop a).take n):=by
 unfold Znc
 have e:((a:Int)+(n:Int))=((a+n:Nat):Int):=by omega
 rw[e,HT.sIx_nat,HT.sIx_nat,Z0k,Nat.min_eq_left h,Nat.min_eq_left (show a<=t.length by omega),Nat.add_sub_cancel_left]
 show ((t.map _).drop a).take n=((t.drop a).take n).map _
 rw[<-List.map_drop,<-List.map_take]
def Zfu (H:Hp)(ss:List Addr)(Rs:List (List Nat×List Nat)):Prop:=ss.length=Rs.length/\∀ (j:Nat) (s:Addr) (R:List Nat×List Nat),ss[j]?=some s->Rs[j]?=some R->Z7e H s R.1 R.2
theorem Zfu.same {H H':Hp}{ss:List Addr}{Rs:List (List Nat×List Nat)}(e:Z0d H H')(h:Zfu H ss Rs):Zfu H' ss Rs:=⟨h.1,fun j s R h1 h2=>(h.2 j s R h1 h2).same e⟩
def But2 (a b:Addr)(H H':Hp):Prop:=∀ c o,c≠a->c≠b->H c=some o->H' c=some o
def Eqs (t:List Nat)(Rs:List (List Nat×List Nat))(i:Nat)(r u:List Nat):Prop:=∀ j R,j < i->Rs[j]?=some R->∀ k,k < R.1.length->nx r (nx t (off Rs j+k))=nx t (off Rs j+nx R.1 k)/\nx u (nx t (off Rs j+k))=nx t (off Rs j+nx R.2 k)
theorem Z9a {l:List Nat}{i v j:Nat}(h:i < l.length):nx (l.set i v) j=if j=i then v else nx l j:=by
 show (l.set i v).getD j 0=if j=i then v else l.getD j 0
 rw[Y05,Y05]
 by_cases e:j=i
 ·subst e; rw[if_pos rfl,Y2l h]; rfl
 ·rw[if_neg e,Y2d (fun z=>e z.symm)]
def Zsf (K:Y01):Sp:=fun vs H Q _=>∃ (p:Addr) (ss:List Addr) (Rs:List (List Nat×List Nat)) (c:Int),vs=[.ref p,.int c]/\SqL K H p (ss.map V.ref)/\Zfu H ss Rs/\(∀ R∈Rs,Z4r R.1.length R.1 R.2)/\(Rs.map fun R=>R.1.length).sum<=36/\ss.length<=36/\
 ∀ (H':Hp) (t pr pu l:Addr) (gs:List Addr) (r u:List Nat) (ps:List (List Nat)),Z0d H H'->H' t=some (.tup [.ref pr,.ref pu,.ref l])->H' pr=some (.lst (nv r))->H' pu=some (.lst (nv u))->H' l=some (.lst (gs.map V.ref))->Z5z H' gs (grp ((Rs.map fun R=>R.1.length).sum) r u)->
  Bes ((Rs.map fun R=>R.1.length).sum) r u ps->ps.length=Rs.length->H pr=none->H pu=none->H l=none->pr≠pu->Q (.ref t) H'
section
variable {P:Program}{w:World}{K:Y01}{mg:Str->Option Value}{base:Heap}
abbrev Zld:List Str:=["_law_sheets","_law_number","_law_many","_law_names","_law_right","_law_up","_law_parts","_law_at","_law_one","_law_part","_law_k","_law_name"]
theorem Z41:Z0n Zld ["_law_sheets","_law_number"] (Z08 Z4c):=⟨rfl,rfl,rfl,by decide +kernel,rfl,by decide +kernel,by decide +kernel⟩
theorem Zrh:(["_law_k"]:List Str).Nodup:=by decide +kernel
theorem Znb:(["_law_k"]:List Str).Nodup:=by decide +kernel
set_option maxHeartbeats 4000000 in
theorem Zs7 {f fp:Addr}{fd dp:FuncData}(T:Bi mg)(T_sum:mg "sum"=none)(F:Fn K mg "_law_beside" Z4c ["_law_sheets","_law_number"] f fd)(FP:Fn K mg "_law_picked" Z8a ["_law_things","_law_number"] fp dp)(GP:Z13 P w K mg base CX0 1 fp dp ["_law_things","_law_number"] (Zdz K)):Z13 P w K mg base CX0 2 f fd ["_law_sheets","_law_number"] (Zsf K):=by
 refine F.F.ok Z41 (fun vs H Q E h=>?_) (fun cdv A outer s H vs Q E hr h=>?_)
 ·obtain⟨p,ss,Rs,c,rfl,_⟩:=h; rfl
 ·obtain⟨p,ss,Rs,c,rfl,hp,hss,hSh,htot,hn36,k⟩:=h
  have hr1:Z2d 1 _:=hr.mono (by decide)
  refine⟨_,(Z03 (Z0c (i:=2) Z41.nd rfl (Or.inl rfl) (Z0a (Zif rfl) rfl T_sum Zkx (Z00 (Z2c (N:=Zld) (names:=(Z08 Z4c).names) (N':=["_law_one"]) (k:=1) (pull:=[]) (te:=Zrw K) rfl ⟨by rfl,by decide +kernel,by decide +kernel,by rfl,by decide +kernel,by decide +kernel⟩ rfl rfl (Z1x (pv 0)) (fun _ _ _ _ _ _=>Z0i (i:=0) Zor rfl (Or.inl rfl)) (fun _ _ _ _ _ _=>(Z0a Z0b rfl T.len PySem.boot_len (Z00 (Z0t Z1h (pv 0) Z09 (fun _ _=>rfl)) Z04)))) Z04)))
   (Z03 (Z0c (i:=3) Z41.nd rfl (Or.inl rfl) (Z0h GP hr rfl FP.m FP.F.kp FP.b .nil Z0z (Z00 (Z0q (Z40 rfl) rfl T.list Z1r (Z00 (Z0q Z55 rfl T.range PyProof.Rows.boot_range (Z00 (pv 2) Z04)) Z04)) (Z00 (pv 1) Z04))))
   (Z03 (Z7q (j:=4) (N:=Zld) (names:=(Z08 Z4c).names) (N':=["_law_k"]) (k:=1) (pull:=[]) (te:=(tC (.int 0))) rfl Z41.nd rfl rfl ⟨by rfl,by decide +kernel,by decide +kernel,by rfl,by decide +kernel,by decide +kernel⟩ rfl rfl (Z1n rfl T.range (Z00 (pv 2) Z04)) (fun _ _ _ _ _ _=>Z0i (i:=0) Znb rfl (Or.inl rfl)) (fun _ _ _ _ _ _=>Z09))
   (Z03 (Z7q (j:=5) (N:=Zld) (names:=(Z08 Z4c).names) (N':=["_law_k"]) (k:=1) (pull:=[]) (te:=(tC (.int 0))) rfl Z41.nd rfl rfl ⟨by rfl,by decide +kernel,by decide +kernel,by rfl,by decide +kernel,by decide +kernel⟩ rfl rfl (Z1n rfl T.range (Z00 (pv 2) Z04)) (fun _ _ _ _ _ _=>Z0i (i:=0) Zrh rfl (Or.inl rfl)) (fun _ _ _ _ _ _=>Z09))
   (Z03 (Z0c (i:=6) Z41.nd rfl (Or.inl rfl) (Z1y Z04))
   (Z03 (Z0c (i:=7) Z41.nd rfl (Or.inl rfl) Z09)
   (Z03 (Z1o PassesOwn.never rfl (Z1x (pv 0)) (Z0i (i:=8) Z41.nd rfl (Or.inl rfl)) (Z03 (Z0c (i:=9) Z41.nd rfl (Or.inl rfl) (Z20 Zn4 (pv 3) (Z1i (pv 7)) (Z1i (Z0l Z1d (pv 7) (Z0a Z0b rfl T.len PySem.boot_len (Z00 (Z0t Z1h (pv 8) Z09 (fun _ _=>rfl)) Z04))))))
   (Z03 (Z0c (i:=7) Z41.nd rfl (Or.inl rfl) (Z0l Z1d (pv 7) (Z0a Z0b rfl T.len PySem.boot_len (Z00 (Z0t Z1h (pv 8) Z09 (fun _ _=>rfl)) Z04))))
   (Z03 (Z1o PassesOwn.never rfl (Z5d rfl T.enum (Z00 (pv 9) Z04)) (Z3t rfl (Z0s (Z0i (i:=10) Z41.nd rfl (Or.inl rfl)) (Z0s (Z0i (i:=11) Z41.nd rfl (Or.inl rfl)) Z26))) (Z03 (Z3o (pv 4) (pv 11) (Z0t Z0v (pv 9) (Z0t Z1h (Z0t Z1h (pv 8) Z09 (fun _ _=>rfl)) (pv 10) (fun _ _=>rfl)) (fun _ _=>rfl)) rfl)
   (Z07 (Z3o (pv 5) (pv 11) (Z0t Z0v (pv 9) (Z0t Z1h (Z0t Z1h (pv 8) Z09 (fun _ _=>rfl)) (pv 10) (fun _ _=>rfl)) (fun _ _=>rfl)) rfl))))
   (Z07 (Z1s (Z34 PySem.F.plainAttrs_list PySem.F.slot_list_append PySem.F.type_list_append Z11 (pv 6) (Z00 (Z0a (Z2b rfl) rfl T.sorted Z22 (Z00 (pv 9) Z04)) Z04))))))))
   (Z07 (Z0o (Z3h (Z00 (pv 4) (Z00 (pv 5) (Z00 (Z0a (Za4 rfl (Zsh hr)) rfl T.sorted Z22 (Z00 (pv 6) Z04)) Z04))))))))))))),?_⟩
  have three:3<=sizeLine:=by decide
  obtain⟨hsl,hsA⟩:=hss
  obtain⟨N,hN⟩:∃ N,(Rs.map fun R=>R.1.length).sum=N:=⟨_,rfl⟩
  rw[hN]at htot k
  dsimp only [Zg5,Zdh,Zbn,tCB,Z0w,Z2t]
  refine Zpo (xs:=ss.map V.ref) (rest:=[]) ((Rs.map fun R=>((R.1.length:Nat):Int)).map V.int) (by simp[hsl]) (fun R hR=>⟨_,rfl,hR⟩) hp rfl (fun i x y H' R hx hy s' hR=>?_) (by rw[Y09]; omega) fun H1 d s1 _ hd1=>?_
  ·rw[Y0e]at hx
   obtain⟨b,hb,rfl⟩:=Option.map_eq_some_iff.mp hx
   rw[Y0e]at hy
   obtain⟨z,hz,rfl⟩:=Option.map_eq_some_iff.mp hy
   rw[Y0e]at hz
   obtain⟨Ri,hRi,rfl⟩:=Option.map_eq_some_iff.mp hz
   obtain⟨q1,q2,g1,g2,g3⟩:=(hsA i b Ri hb hRi).same s'
   exact⟨_,rfl,b,_,0,_,rfl,rfl,SqT.of g1,Z0f (j:=0) rfl,q1,_,rfl,.inr (SqT.of g2),by rw[Z0k]; exact hR⟩
  refine⟨d,_,rfl,SqL.of hd1,?_⟩
  have eN:(Rs.map fun R=>((R.1.length:Nat):Int)).sum=((N:Nat):Int):=by
   rw[<-hN]
   clear hsA hsl hSh htot hN k hd1
   induction Rs with
   | nil=>rfl
   | cons R Rs ih=>rw[Y0u,List.sum_cons,ih,Y0u,List.sum_cons]; omega
  rw[eN]
  refine⟨_,rfl,(N:Int),rfl,fun r0 hr0=>⟨r0,N,rfl,Z01,by omega,fun lf hlf=>?_⟩⟩
  have f0:=(Z02 (o:=.rng 0 (N:Int)) (Z0d.refl H1) hr0).free hlf
  refine⟨_,rfl,lf,Y04 N,c,rfl,SqL.of Z01,by rw[Y0d]; omega,fun H2 ln t s2 hln0 hln hperm=>?_⟩
  have s12:=(Z02 (o:=.lst (nv (Y04 N))) (Z02 (o:=.rng 0 (N:Int)) (Z0d.refl H1) hr0) f0).trans s2
  clear s2 f0 hlf hr0 hln0
  have s02:=s1.trans s12
  have rt:Row N t:=Row.of_perm hperm
  dsimp only [Z25,Zdh,Zbn]
  refine Z74 (m:=N) (rest:=[]) (fun _=>0) (fun R hR=>⟨_,rfl,hR⟩) rfl (fun i H' R hi s' hR=>hR) (by omega) fun H3 pr s3 hpr0 hpr=>?_
  refine Z74 (m:=N) (rest:=[]) (fun _=>0) (fun R hR=>⟨_,rfl,hR⟩) rfl (fun i H' R hi s' hR=>hR) (by omega) fun H4 pu s4 hpu0 hpu=>?_
  refine⟨Y0w _,fun lp hlp=>?_⟩
  have npu:pr≠pu:=Z06 hpr hpu0
  have hpu2:H2 pu=none:=s3.free hpu0
  have hpr4:=s4 _ _ hpr
  have nlp1:pr≠lp:=Z06 hpr4 hlp
  have nlp2:pu≠lp:=Z06 hpu hlp
  have hlp2:H2 lp=none:=(s3.trans s4).free hlp
  have s24:=s3.trans s4
  have hp2:=s02.seq hp
  have hsA2:Zfu H2 ss Rs:=Zfu.same s02 ⟨hsl,hsA⟩
  have repl:((Y04 N).map fun (_:Nat)=>(0:Nat)).length=N:=by simp
  refine⟨_,rfl,p,rfl,⟨_,(Z02 (o:=.lst []) s24 hlp2).seq hp2⟩,Z4m (K:=K) (a:=p) (xs:=ss.map V.ref) (fun i σ H5=>∃ (R U:List Nat) (gs:List Addr) (Ss:List (List Nat)) (o8 o9 o10 o11:Option V),
   σ=[some (.ref p),some (.int c),some (.int (N:Int)),some (.ref ln),some (.ref pr),some (.ref pu),some (.ref lp),some (.int ((off Rs i:Nat):Int)),o8,o9,o10,o11]/\Z0d H2 H5/\H5 pr=some (.lst (nv R))/\H5 pu=some (.lst (nv U))/\H5 lp=some (.lst (gs.map V.ref))/\
   R.length=N/\U.length=N/\gs.length=i/\Ss.length=i/\(∀ g∈gs,g≠pr/\g≠pu/\g≠lp)/\(∀ (j:Nat) (g:Addr) (S:List Nat),gs[j]?=some g->Ss[j]?=some S->H5 g=some (.lst (nv S)))/\(∀ (j:Nat) (S:List Nat),Ss[j]?=some S->S.Perm (prt t Rs j)/\S.Pairwise (·<=·))/\Eqs t Rs i R U) ?_ (fun i σ H5 _ ⟨_,_,_,_,_,_,_,_,_,s5,_⟩=>s5.seq hp2) ?_ ?_⟩
  ·refine⟨(Y04 N).map fun _=>0,(Y04 N).map fun _=>0,[],[],none,none,none,none,rfl,Z02 s24 hlp2,by rw[Z05 nlp1]; exact hpr4,by rw[Z05 nlp2]; exact hpu,Z01,repl,repl,rfl,rfl,fun g hg=>absurd hg (by simp),fun j g S h=>absurd h (by simp),fun j S h=>absurd h (by simp),fun j R hj=>absurd hj (Y2i _)⟩
  ·rintro i x σ H5 hx ⟨R,U,gs,Ss,o8,o9,o10,o11,rfl,s5,hpr5,hpu5,hlp5,lR,lU,lgs,lSs,hgs,hLs,hSs,hE⟩
   rw[Y0e]at hx
   obtain⟨b,hb,rfl⟩:=Option.map_eq_some_iff.mp hx
   have hi:i < Rs.length:=by rw[<-hsl]; exact (Y03.mp hb).1
   obtain⟨Ri,hRi⟩:∃ Ri,Rs[i]?=some Ri:=⟨_,Y00 hi⟩
   have hSi:=hSh Ri (Y0a hRi)
   have ha5:=(hsA2.2 i b Ri hb hRi).same s5
   obtain⟨q1,q2,g1,g2,g3⟩:=id ha5
   have hoff:off Rs i+Ri.1.length<=N:=by
    have:=Z9y (Rs:=Rs) (show i+1<=Rs.length from hi)
    rw[Z5b hRi,Zci (Y06 _),hN]at this
    exact this
   refine⟨_,rfl,_,rfl,_,rfl,_,rfl,_,rfl,b,_,0,_,rfl,rfl,SqT.of g1,Z0f (j:=0) rfl,q1,_,rfl,.inr (SqT.of g2),_,_,rfl,rfl,_,rfl,ln,_,rfl,SqL.of (s5 _ _ hln),fun lq hlq=>?_⟩
   have ecut:Znc (nv t) (some ((off Rs i:Nat):Int)) (some (((off Rs i:Nat):Int)+((nv Ri.1).length:Int)))=nv (prt t Rs i):=by
    rw[Z0k,Zr4 t (by rw[rt.len]; exact hoff),Zed hRi]
   rw[ecut]
   have s6:=Z02 (o:=.lst (nv (prt t Rs i))) (Z0d.refl H5) hlq
   have hlq6:(upd H5 lq (.lst (nv (prt t Rs i)))) lq=some (.lst (nv (prt t Rs i))):=Z01
   revert s6 hlq6
   generalize (upd H5 lq (.lst (nv (prt t Rs i))))=H6
   intro s6 hlq6
   have nq1:lq≠pr:=(Z06 hpr5 hlq).symm
   have nq2:lq≠pu:=(Z06 hpu5 hlq).symm
   refine⟨_,rfl,_,rfl,b,_,0,_,rfl,rfl,SqT.of (s6 _ _ g1),Z0f (j:=0) rfl,q1,_,rfl,.inr (SqT.of (s6 _ _ g2)),_,_,rfl,rfl,?_⟩
   have eat:((off Rs i:Nat):Int)+((nv Ri.1).length:Int)=((off Rs (i+1):Nat):Int):=by rw[Z0k,Z5b hRi]; omega
   dsimp only
   rw[eat]
   have plen:(prt t Rs i).length=Ri.1.length:=Zia hRi (by rw[rt.len,hN])
   have nb1:b≠pr:=Zfd g1 hpr5
   have nb2:b≠pu:=Zfd g1 hpu5
   have n11:q1≠pr:=Zfd g2 hpr5
   have n12:q1≠pu:=Zfd g2 hpu5
   have n21:q2≠pr:=Zfd g3 hpr5
   have n22:q2≠pu:=Zfd g3 hpu5
   refine⟨_,rfl,lq,rfl,⟨_,SqL.of hlq6⟩,Z8p (xs:=nv (prt t Rs i)) (fun k' σ H7=>∃ (R' U':List Nat) (o10 o11:Option V),
    σ=[some (.ref p),some (.int c),some (.int (N:Int)),some (.ref ln),some (.ref pr),some (.ref pu),some (.ref lp),some (.int ((off Rs (i+1):Nat):Int)),some (.ref b),some (.ref lq),o10,o11]/\But2 pr pu H6 H7/\H7 pr=some (.lst (nv R'))/\H7 pu=some (.lst (nv U'))/\
    R'.length=N/\U'.length=N/\Eqs t Rs i R' U'/\∀ k,k < k'->nx R' (nx t (off Rs i+k))=nx t (off Rs i+nx Ri.1 k)/\nx U' (nx t (off Rs i+k))=nx t (off Rs i+nx Ri.2 k)) ?_ (fun k' σ H7 _ ⟨_,_,_,_,_,b7,_⟩=>SqL.of (b7 _ _ nq1 nq2 hlq6)) ?_ ?_⟩
   ·exact⟨R,U,_,_,rfl,fun c o _ _ h=>h,s6 _ _ hpr5,s6 _ _ hpu5,lR,lU,hE,fun k hk=>absurd hk (Y2i _)⟩
   ·rintro k' v σ H7 T' hv hT ⟨R',U',o10,o11,rfl,b7,hpr7,hpu7,lR',lU',hE',hF⟩
    have hk:k' < Ri.1.length:=by
     have:=(Y03.mp hv).1
     rw[Z0k,plen]at this; exact this
    have hvn:(nv (prt t Rs i))[k']?=some (.int ((nx t (off Rs i+k'):Nat):Int)):=by
     rw[<-Zan hRi hk]
     refine Z14 ?_
     show _=some ((prt t Rs i).getD k' 0)
     rw[Y05,Y00 (by omega)]; rfl
    rw[hvn]at hv
    cases hv
    have pget:∀ {j:Nat},j < Ri.1.length->(nv (prt t Rs i))[j]?=some (.int ((nx t (off Rs i+j):Nat):Int)):=fun {j} hj=>by
     rw[<-Zan hRi hj]
     refine Z14 ?_
     show _=some ((prt t Rs i).getD j 0)
     rw[Y05,Y00 (by omega)]; rfl
    have uT:=Z02 (o:=Z42 T' [.int (k':Int),.int ((nx t (off Rs i+k'):Nat):Int)]) (Z0d.refl H7) hT
    refine⟨T',_,rfl,Z01,rfl,_,_,rfl,_,_,rfl,rfl,?_⟩
    revert uT
    generalize (upd H7 T' (Z42 T' [.int (k':Int),.int ((nx t (off Rs i+k'):Nat):Int)]))=H8
    intro uT
    have b8:But2 pr pu H6 H8:=fun c o h1 h2 h=>uT _ _ (b7 c o h1 h2 h)
    have hpr8:=uT _ _ hpr7
    have hpu8:=uT _ _ hpu7
    have hkN:off Rs i+k' < N:=by omega
    have hnm:nx t (off Rs i+k') < N:=rt.nlt hkN
    have v1:=hSi.row.nlt hk
    have v2:=hSi.col.nlt hk
    have g18:=b8 _ _ nb1 nb2 (s6 _ _ g1)
    have g28:=b8 _ _ n11 n12 (s6 _ _ g2)
    have g38:=b8 _ _ n21 n22 (s6 _ _ g3)
    have hlq8:=b8 _ _ nq1 nq2 hlq6
    refine⟨_,rfl,_,rfl,b,_,0,_,rfl,rfl,SqT.of g18,Z0f (j:=0) rfl,_,rfl,q1,_,_,_,rfl,rfl,SqT.of g28,Z0f (Z14 (hSi.row.get hk)),lq,_,_,_,rfl,rfl,SqL.of hlq8,Z0f (pget v1),_,rfl,_,rfl,pr,_,_,nx t (off Rs i+k'),rfl,rfl,hpr8,?_,?_⟩
    ·unfold ixN
     rw[if_pos (by omega),if_pos (by rw[Z0k,lR']; omega)]
     simp
    rw[Zgs]
    have g19:(upd H8 pr (.lst (nv (R'.set (nx t (off Rs i+k')) (nx t (off Rs i+nx Ri.1 k')))))) b=_:=(Z05 nb1).trans g18
    have g29:(upd H8 pr (.lst (nv (R'.set (nx t (off Rs i+k')) (nx t (off Rs i+nx Ri.1 k')))))) q2=_:=(Z05 n21).trans g38
    have hlq9:(upd H8 pr (.lst (nv (R'.set (nx t (off Rs i+k')) (nx t (off Rs i+nx Ri.1 k')))))) lq=_:=(Z05 nq1).trans hlq8
    have hpu9:(upd H8 pr (.lst (nv (R'.set (nx t (off Rs i+k')) (nx t (off Rs i+nx Ri.1 k')))))) pu=_:=(Z05 npu.symm).trans hpu8
    refine⟨_,rfl,_,rfl,b,_,1,_,rfl,rfl,SqT.of g19,Z0f (j:=1) rfl,_,rfl,q2,_,_,_,rfl,rfl,SqT.of g29,Z0f (Z14 (hSi.col.get hk)),lq,_,_,_,rfl,rfl,SqL.of hlq9,Z0f (pget v2),_,rfl,_,rfl,pu,_,_,nx t (off Rs i+k'),rfl,rfl,hpu9,?_,?_⟩
    ·unfold ixN
     rw[if_pos (by omega),if_pos (by rw[Z0k,lU']; omega)]
     simp
    rw[Zgs]
    refine⟨R'.set (nx t (off Rs i+k')) (nx t (off Rs i+nx Ri.1 k')),U'.set (nx t (off Rs i+k')) (nx t (off Rs i+nx Ri.2 k')),_,_,rfl,fun c o h1 h2 h=>by rw[Z05 h2,Z05 h1]; exact b8 c o h1 h2 h,by rw[Z05 npu,Z01],Z01,by rw[Y19]; exact lR',by rw[Y19]; exact lU',fun j R9 hj hR9 k9 hk9=>?_,fun k9 hk9=>?_⟩
    ·have h9:off Rs j+k9 < off Rs i:=by
      have:=Z9y (Rs:=Rs) (show j+1<=i from hj)
      rw[Z5b hR9]at this
      omega
     have ne:nx t (off Rs j+k9)≠nx t (off Rs i+k'):=fun z=>by
      have:=rt.inj (by omega) hkN z
      omega
     rw[Z9a (by rw[lR']; exact hnm),Z9a (by rw[lU']; exact hnm),if_neg ne,if_neg ne]
     exact hE' j R9 hj hR9 k9 hk9
    ·rw[Z9a (by rw[lR']; exact hnm),Z9a (by rw[lU']; exact hnm)]
     by_cases e:k9=k'
     ·subst e; rw[if_pos rfl,if_pos rfl]; exact⟨rfl,rfl⟩
     ·have ne:nx t (off Rs i+k9)≠nx t (off Rs i+k'):=fun z=>by
       have:=rt.inj (by omega) hkN z
       omega
      rw[if_neg ne,if_neg ne]
      exact hF k9 (by omega)
   ·rintro σ H7 ⟨R',U',o10,o11,rfl,b7,hpr7,hpu7,lR',lU',hE',hF⟩
    rw[Z0k,plen]at hF
    have hlp7:=b7 _ _ nlp1.symm nlp2.symm (s6 _ _ hlp5)
    have hlq7:=b7 _ _ nq1 nq2 hlq6
    refine⟨_,rfl,.inl ⟨rfl,_,SqL.of hlp7⟩,_,rfl,lq,prt t Rs i,rfl,.inl (SqL.of hlq7),by omega,fun g S hg pS sS=>?_⟩
    have ng1:g≠pr:=(Z06 hpr7 hg).symm
    have ng2:g≠pu:=(Z06 hpu7 hg).symm
    have ng3:g≠lp:=(Z06 hlp7 hg).symm
    refine⟨lp,_,_,rfl,rfl,by rw[Z05 ng3.symm]; exact hlp7,by rw[Y09]; exact Z0j (by omega),?_⟩
    have old:∀ a o,a≠pr->a≠pu->a≠lp->H6 a=some o->(upd (upd H7 g (.lst (nv S))) lp (.lst (gs.map V.ref++[.ref g]))) a=some o:=fun a o h1 h2 h3 h=>by
     have:=b7 a o h1 h2 h
     rw[Z05 h3,Z05 (Z06 this hg)]; exact this
    refine⟨R',U',gs++[g],Ss++[S],_,_,_,_,rfl,fun a o h=>?_,by rw[Z05 nlp1,Z05 ng1.symm]; exact hpr7,by rw[Z05 nlp2,Z05 ng2.symm]; exact hpu7,by rw[Z01,Y0p]; rfl,lR',lU',by rw[Y07,lgs]; rfl,by rw[Y07,lSs]; rfl,fun a ha=>?_,fun j a M h1 h2=>?_,fun j M h=>?_,fun j R9 hj hR9 k9 hk9=>?_⟩
    ·exact old a o (Z06 h hpr0) (Z06 h hpu2) (Z06 h hlp2) (s6 _ _ (s5 _ _ h))
    ·rcases Y0n.mp ha with h | h
     ·exact hgs a h
     ·rw[Y0g.mp h]; exact⟨ng1,ng2,ng3⟩
    ·rcases Y0z j i with c' | c'
     ·rw[Y0t (by omega)]at h1 h2
      obtain⟨m1,m2,m3⟩:=hgs a (Y0a h1)
      exact old a _ m1 m2 m3 (s6 _ _ (hLs j a M h1 h2))
     ·have hj:j=i:=by
       have:=(Y03.mp h1).1
       rw[Y07,lgs]at this
       simp at this; omega
      subst hj
      rw[Y0q (by omega),lgs,Nat.sub_self]at h1
      rw[Y0q (by omega),lSs,Nat.sub_self]at h2
      cases h1; cases h2
      rw[Z05 ng3,Z01]
    ·rcases Y0z j i with c' | c'
     ·rw[Y0t (by omega)]at h
      exact hSs j M h
     ·have hj:j=i:=by
       have:=(Y03.mp h).1
       rw[Y07,lSs]at this
       simp at this; omega
      subst hj
      rw[Y0q (by omega),lSs,Nat.sub_self]at h
      cases h
      exact⟨pS,sS⟩
    ·rcases Y0z j i with c' | c'
     ·exact hE' j R9 c' hR9 k9 hk9
     ·have hj:j=i:=by omega
      subst hj
      rw[hRi]at hR9
      cases hR9
      exact hF k9 hk9
  ·rintro σ H5 ⟨R,U,gs,Ss,o8,o9,o10,o11,rfl,s5,hpr5,hpu5,hlp5,lR,lU,lgs,lSs,hgs,hLs,hSs,hE⟩
   rw[Y09,hsl]at lgs lSs hE
   have hB:=Zqg rt hN hSh lR lU fun j R9 hR9 k9 hk9=>hE j R9 (Y03.mp hR9).1 hR9 k9 hk9
   refine⟨_,rfl,_,rfl,_,rfl,lp,gs,Ss.map fun S=>S.map fun (x:Nat)=>(x:Int),rfl,SqL.of hlp5,by omega,fun j hj=>?_,fun l π hl hπ hpw=>⟨three,fun tt htt=>?_⟩⟩
   ·have h1:gs[j]?=some gs[j]:=Y00 hj
    have h2:Ss[j]?=some (Ss[j]'(by omega)):=Y00 _
    have h3:=hLs j _ _ h1 h2
    rw[Y05,h1,Y05,Y0e,h2]
    rw[Zkm]at h3
    exact h3
   have hπl:∀ j∈π,j < Rs.length:=fun j hj=>by
    have:=Y08.mp (hπ.mem_iff.mp hj); omega
   have gS:∀ {j:Nat},j < Rs.length->∃ S,Ss[j]?=some S/\Ss.getD j []=S/\S.Perm (prt t Rs j)/\S.Pairwise (·<=·):=fun {j} hj=>by
    have h2:Ss[j]?=some (Ss[j]'(by omega)):=Y00 _
    exact⟨_,h2,by rw[Y05,h2]; rfl,hSs j _ h2⟩
   have eL:(π.map fun j=>Ss.getD j [])=grp N R U:=by
    refine hB.grp (fun M=>?_) (by rw[Y09,Y09,Y0d,hπ.length_eq,Y0d,lgs]) ?_
    ·rw[Y0f]
     constructor
     ·rintro ⟨j,hj,e⟩
      obtain⟨S,_,e2,e3,e4⟩:=gS (hπl j hj)
      rw[<-e,e2]
      exact⟨prt t Rs j,Y0f.mpr ⟨j,Y08.mpr (hπl j hj),rfl⟩,e3,e4⟩
     ·rintro ⟨q,hq,e3,e4⟩
      obtain⟨j,hj,rfl⟩:=Y0f.mp hq
      have hj:=Y08.mp hj
      obtain⟨S,_,e2,e5,e6⟩:=gS hj
      exact⟨j,hπ.mem_iff.mpr (Y08.mpr (by omega)),by rw[e2]; exact Z1v (e5.trans e3.symm) e6 e4⟩
    ·rw[Y0y]
     refine Y1w.mpr (List.Pairwise.imp_of_mem (fun {x y} hx hy hlt=>?_) hpw)
     obtain⟨S,h1,e1,p1,_⟩:=gS (hπl x hx)
     obtain⟨S',h1',e1',p1',_⟩:=gS (hπl y hy)
     have ne:∀ {j:Nat} {S:List Nat},j < Rs.length->S.Perm (prt t Rs j)->S≠[]:=fun {j S} hj pS e=>by
      rw[e]at pS
      exact hB.ne (Y0f.mpr ⟨j,Y08.mpr hj,rfl⟩) pS.symm.eq_nil
     rw[Y05,Y05,Y0e,Y0e,h1,h1']at hlt
     show hd0 (Ss.getD x [])<=hd0 (Ss.getD y [])
     rw[e1,e1']
     exact Zri (ne (hπl x hx) p1) (ne (hπl y hy) p1') hlt
   have sl:=Z02 (o:=.lst ((π.map fun i=>gs.getD i 0).map V.ref)) (Z0d.refl H5) hl
   have hl6:(upd H5 l (.lst ((π.map fun i=>gs.getD i 0).map V.ref))) l=some (.lst ((π.map fun i=>gs.getD i 0).map V.ref)):=Z01
   revert sl hl6 htt
   generalize (upd H5 l (.lst ((π.map fun i=>gs.getD i 0).map V.ref)))=H6
   intro htt sl hl6
   have st:=Z02 (o:=.tup [.ref pr,.ref pu,.ref l]) (Z0d.refl H6) htt
   refine k _ tt pr pu l (π.map fun i=>gs.getD i 0) R U _ (s02.trans (s5.trans (sl.trans st))) Z01 (st _ _ (sl _ _ hpr5)) (st _ _ (sl _ _ hpu5)) (st _ _ hl6) ⟨by rw[<-eL,Y09,Y09],fun j g S h1 h2=>?_⟩ hB (by rw[Y09,Y0d]) (s02.free hpr0) (s02.free hpu2) (s02.free (s5.free hl)) npu
   rw[<-eL,Y0e]at h2
   rw[Y0e]at h1
   obtain⟨j',hj',rfl⟩:=Option.map_eq_some_iff.mp h1
   rw[hj']at h2
   cases h2
   have hjl:=hπl j' (Y0a hj')
   have h3:gs[j']?=some (gs[j']'(by omega)):=Y00 _
   obtain⟨S,h4,e4,_⟩:=gS hjl
   dsimp only
   rw[Y05,h3,e4]
   exact st _ _ (sl _ _ (hLs j' _ _ h3 h4))
theorem Zrt:Z0n ["_law_script","_law_k"] ["_law_script","_law_k"] (Z08 Zf5):=⟨rfl,rfl,rfl,by decide +kernel,rfl,by decide +kernel,by decide +kernel⟩
theorem Zjd {f:Addr}{fd:FuncData}(T:Bi mg)(F:Fn K mg "_law_cell" Zf5 ["_law_script","_law_k"] f fd):Z13 P w K mg base CX0 1 f fd ["_law_script","_law_k"] (Zjg K):=by
 refine F.F.ok Zrt (fun vs H Q E h=>?_) (fun cdv A outer s H vs Q E hr h=>?_)
 ·obtain⟨a,ns,j,rfl,_⟩:=h; rfl
 ·obtain⟨a,ns,j,rfl,hS,h0,k⟩:=h
  refine⟨_,Z03 (Z1f (Z0m Zcq (pv 1) (Z0a Z0b (by rfl) T.len PySem.boot_len (Z00 (pv 0) Z04)) (Z0r _)) (Z07 (Z0o (Z0t Z0v (pv 0) (pv 1) (fun _ _=>rfl)))) Z0p)
   (Z07 (Z0o Z09)),?_⟩
  refine⟨_,rfl,_,rfl,a,_,rfl,.inl hS,_,_,rfl,rfl,_,rfl,?_⟩
  refine Zgo (fun hlt=>?_) (fun hge=>?_)
  ·have hlt:j < ((ns.map V.int).length:Int):=of_decide_eq_true hlt
   rw[Y09]at hlt
   have hj:j.toNat < ns.length:=by omega
   refine⟨_,rfl,_,rfl,a,_,j,_,rfl,rfl,hS,?_,k⟩
   have e:(ns.map V.int)[j.toNat]?=some (.int (ns.getD j.toNat 0)):=by simp[Y05,hj]
   have:=Z0f e
   rwa [Int.toNat_of_nonneg h0]at this
  ·have hge:¬ j < ((ns.map V.int).length:Int):=fun z=>hge (decide_eq_true z)
   rw[Y09]at hge
   have e:ns.getD j.toNat 0=0:=by rw[Y05,Y29 (by omega)]; rfl
   rw[e]at k
   exact k
theorem Zpv:Z0n ["thing","squares"] ["thing","squares"] (Z08 Zbs):=⟨rfl,rfl,rfl,by decide +kernel,rfl,by decide +kernel,by decide +kernel⟩
theorem Zsc:Z0n ["thing"] ["thing"] (Z08 Z36):=⟨rfl,rfl,rfl,by decide +kernel,rfl,by decide +kernel,by decide +kernel⟩
theorem Zoo {f:Addr}{fd:FuncData}(T:Bi mg)(F:Fn K mg "is_whole" Z36 ["thing"] f fd):Z13 P w K mg base CX0 1 f fd ["thing"] Zji:=by
 refine F.F.ok Zsc (fun vs H Q E h=>?_) (fun cdv A outer s H vs Q E hr h=>?_)
 ·obtain⟨i,rfl,_⟩:=h; rfl
 ·obtain⟨i,rfl,k⟩:=h
  refine⟨_,Z07 (Z0o (Ze7 (Z0a Z3x (by rfl) T.isin Z0x (Z00 (pv 0) (Z00 (Z7x (v:=.ty "int") (by rfl) T.int Zek rfl) Z04)))
   (Zeb (Zlx (Z0a Z3x (by rfl) T.isin Z0x (Z00 (pv 0) (Z00 (Z7x (v:=.ty "bool") (by rfl) T.bool Zb8 rfl) Z04))))))),?_⟩
  refine⟨_,rfl,_,_,_,_,rfl,.int i,Z75 K,_,rfl,?_⟩
  refine Z2m ?_
  exact⟨_,rfl,_,_,_,_,rfl,.int i,Z6a K,_,rfl,k⟩
theorem Znx {f fw:Addr}{fd fdw:FuncData}(T:Bi mg)(F:Fn K mg "is_square" Zbs ["thing","squares"] f fd)(FW:Fn K mg "is_whole" Z36 ["thing"] fw fdw):Z13 P w K mg base CX0 2 f fd ["thing","squares"] Zbr:=by
 have GW:Z13 P w K mg base CX0 1 fw fdw ["thing"] Zji:=Zoo T FW
 refine F.F.ok Zpv (fun vs H Q E h=>?_) (fun cdv A outer s H vs Q E hr h=>?_)
 ·obtain⟨i,n,rfl,_⟩:=h; rfl
 ·obtain⟨i,n,rfl,k⟩:=h
  refine⟨_,Z07 (Z0o (Ze7 (Z0h GW hr rfl FW.m FW.F.kp FW.b .nil Z0z (Z00 (pv 0) Z04)) (Zeb (Ze3 Zfs Zcq Z09 (pv 0) (pv 1))))),?_⟩
  refine⟨_,rfl,i,rfl,_,rfl,?_⟩
  refine Z2m ?_
  refine⟨_,rfl,_,_,rfl,rfl,_,rfl,?_⟩
  refine Zgo (fun h=>?_) (fun h=>?_)
  ·have h:0<=i:=of_decide_eq_true h
   refine⟨_,rfl,_,_,rfl,rfl,?_⟩
   have e:decide (0<=i/\i < n)=decide (i < n):=by simp[h]
   rw[e]at k; exact k
  ·have h:¬ 0<=i:=fun z=>h (decide_eq_true z)
   have e:decide (0<=i/\i < n)=false:=by simp[h]
   rw[e]at k; exact k
end
def Zhl (K:Y01):Sp:=fun vs H Q _=>∃ (a:Addr) (ns:List Int) (j:Int) (n:Nat),vs=[.ref a,.int j,.int (n:Int)]/\SqL K H a (ns.map V.int)/\0<=j/\1<=n/\n<=36/\
 ∀ (H':Hp) (l p q:Addr) (r u:List Nat),Z0d H H'->H' l=some (.lst [.ref p,.ref q])->H' p=some (.lst (nv r))->H' q=some (.lst (nv u))->Row n r->Row n u->Q (.ref l) H'
section
variable {P:Program}{w:World}{K:Y01}{mg:Str->Option Value}{base:Heap}
theorem Z3u:Z0n ["_law_script","_law_at","_law_many","_law_number","_law_told","_law_turn","_law_left","_law_line","_law_k","_law_cell_here"] ["_law_script","_law_at","_law_many"] (Z08 Zba):=⟨rfl,rfl,rfl,by decide +kernel,rfl,by decide +kernel,by decide +kernel⟩
theorem Zju {f fc:Addr}{fd fdc:FuncData}(T:Bi mg)(F:Fn K mg "_law_lines" Zba ["_law_script","_law_at","_law_many"] f fd)(FC:Fn K mg "_law_cell" Zf5 ["_law_script","_law_k"] fc fdc) :
  Z13 P w K mg base CX0 2 f fd ["_law_script","_law_at","_law_many"] (Zhl K):=by
 have GC:Z13 P w K mg base CX0 1 fc fdc ["_law_script","_law_k"] (Zjg K):=Zjd T FC
 refine F.F.ok Z3u (fun vs H Q E h=>?_) (fun cdv A outer s H vs Q E hr h=>?_)
 ·obtain⟨a,ns,j,n,rfl,_⟩:=h; rfl
 ·obtain⟨a,ns,j,n,rfl,hS,h0,hn1,hn,k⟩:=h
  refine⟨_,Z03 (Z0c (i:=3) Z3u.nd rfl (Or.inl rfl) (Z0l Z1d Z09 (Z0l Z1e (Z0h GC hr rfl FC.m FC.F.kp FC.b .nil Z0z (Z00 (pv 0) (Z00 (pv 1) Z04))) Z09)))
   (Z03 (Z0c (i:=4) Z3u.nd rfl (Or.inl rfl) (Z1y Z04))
   (Z03 (Z1o PassesOwn.never rfl (Z1n rfl T.range (Z00 Z09 Z04)) (Z0i (i:=5) Z3u.nd rfl (Or.inl rfl))
    (Z03 (Z0c (i:=6) Z3u.nd rfl (Or.inl rfl) (Z0q (Z40 rfl) rfl T.list Z1r (Z00 (Z0q Z55 rfl T.range PyProof.Rows.boot_range (Z00 (pv 2) Z04)) Z04)))
    (Z03 (Z0c (i:=7) Z3u.nd rfl (Or.inl rfl) (Z1y Z04))
    (Z03 (Z1o PassesOwn.never rfl (Z1n rfl T.range (Z00 (pv 2) Z04)) (Z0i (i:=8) Z3u.nd rfl (Or.inl rfl))
     (Z03 (Z0c (i:=9) Z3u.nd rfl (Or.inl rfl) (Z0h GC hr rfl FC.m FC.F.kp FC.b .nil Z0z (Z00 (pv 0) (Z00 (Z0l Z1d (Z0l Z1d (Z0l Z1d (pv 1) Z09) (Z0l Z7m (pv 5) (pv 2))) (pv 8)) Z04))))
     (Z03 (Z0c (i:=3) Z3u.nd rfl (Or.inl rfl) (Z0l Z1e (Z0l Z1d (Z0l Z7m (pv 3) Z09) (pv 9)) Z09))
     (Z07 (Z1s (Z34 PySem.F.plainAttrs_list PySem.F.slot_list_append PySem.F.type_list_append Z11 (pv 7) (Z00
      (Z34 PySem.F.plainAttrs_list PySem.F.slot_list_pop PySem.F.type_list_pop Z9x (pv 6) (Z00 (Z0l Z1e (Z0l Z2a (pv 3) Z09) (Z0a Z0b (by rfl) T.len PySem.boot_len (Z00 (pv 6) Z04))) Z04)) Z04)))))))
    (Z07 (Z1s (Z34 PySem.F.plainAttrs_list PySem.F.slot_list_append PySem.F.type_list_append Z11 (pv 4) (Z00 (pv 7) Z04))))))))
   (Z07 (Z0o (pv 4))))),?_⟩
  refine⟨_,rfl,_,rfl,a,ns,j,rfl,hS,h0,_,_,rfl,rfl,(by show (0:Int) < 2147483646; decide),_,_,rfl,rfl,?_⟩
  refine⟨Y0w _,fun l hl=>?_⟩
  refine⟨2,rfl,by decide,by decide,Z2g (n:=2) (fun t σ H2=>∃ (num:Int) (o5 o6 o7 o8 o9:Option V) (ps:List (Addr×List Nat)),σ=[some (.ref a),some (.int j),some (.int (n:Int)),some (.int num),some (.ref l),o5,o6,o7,o8,o9]/\Z0d H H2/\ps.length=t/\
   H2 l=some (.lst (ps.map fun p=>.ref p.1))/\∀ p∈ps,p.1≠l/\H2 p.1=some (.lst (nv p.2))/\Row n p.2) ?_ ?_ ?_⟩
  ·exact⟨_,_,_,_,_,_,[],rfl,Z02 (Z0d.refl H) hl,rfl,Z01,fun p hp=>nomatch hp⟩
  ·rintro t σ H2 ht ⟨num,o5,o6,o7,o8,o9,ps,rfl,s2,hps,h2l,hall⟩
   refine⟨_,rfl,(n:Int),rfl,fun r0 hr0=>⟨r0,n,rfl,Z01,by omega,fun lf hlf=>?_⟩⟩
   refine⟨Y0w _,fun ln hln=>?_⟩
   have nr0l:l≠r0:=Z06 h2l hr0
   have hH:∀ b,H2 b=none->H b=none:=fun b q=>s2.free q
   have f0:H2 lf=none:=by
    by_cases e:lf=r0
    ·rw[e]; exact hr0
    ·rwa [Z05 e]at hlf
   have nlfr:lf≠r0:=fun e=>by rw[e,Z01]at hlf; cases hlf
   have nlnl:ln≠lf:=fun e=>by rw[e,Z01]at hln; cases hln
   have g0:(upd H2 r0 (.rng 0 (n:Int))) ln=none:=by rwa [Z05 nlnl]at hln
   have nlnr:ln≠r0:=fun e=>by rw[e,Z01]at g0; cases g0
   have g1:H2 ln=none:=by rwa [Z05 nlnr]at g0
   have llf:l≠lf:=Z06 h2l f0
   have lln:l≠ln:=Z06 h2l g1
   refine⟨_,rfl,(n:Int),rfl,by omega,by omega,?_⟩
   rw[Int.toNat_natCast]
   refine Z2g (n:=n) (fun i σ H3=>∃ (num:Int) (o8 o9:Option V) (line left:List Nat),σ=[some (.ref a),some (.int j),some (.int (n:Int)),some (.int num),some (.ref l),some (.int (0+(t:Int))),some (.ref lf),some (.ref ln),o8,o9]/\
    (∀ b,b≠r0->b≠lf->b≠ln->H3 b=H2 b)/\H3 lf=some (.lst (nv left))/\H3 ln=some (.lst (nv line))/\line.length=i/\(line++left).Perm (Y04 n)) ?_ ?_ ?_
   ·refine⟨_,_,_,[],Y04 n,rfl,fun b c1 c2 c3=>by rw[Z05 c3,Z05 c2,Z05 c1],by rw[Z05 nlnl.symm,Z01],Z01,rfl,List.Perm.refl _⟩
   ·rintro i σ H3 hi ⟨num,o8,o9,line,left,rfl,same3,hlf3,hln3,hlen,hp⟩
    have hS3:SqL K H3 a (ns.map V.int):=by
     have hS2:=s2.seq hS
     rcases hS2 with (q | ⟨o,q⟩) | q
     ·exact .inl (.inl (by rw[same3 a (Z06 q hr0) (Z06 q f0) (Z06 q g1)]; exact q))
     ·exact .inl (.inr ⟨o,by rw[same3 a (Z06 q hr0) (Z06 q f0) (Z06 q g1)]; exact q⟩)
     ·exact .inr q
    have hleft:left.length=n - i:=by
     have:=hp.length_eq
     simp only[Y07,Y0d]at this
     omega
    have hpos:0 < left.length:=by omega
    refine⟨_,rfl,_,rfl,_,_,rfl,rfl,_,rfl,_,rfl,_,_,rfl,rfl,.inr ⟨by omega,by omega⟩,_,_,rfl,rfl,_,rfl,_,_,rfl,rfl,a,ns,_,rfl,hS3,?_,?_⟩
    ·have:(0:Int)<=(0+(t:Int)) * (n:Int):=Int.mul_nonneg (by omega) (by omega)
     omega
    refine⟨_,rfl,_,_,rfl,rfl,.inr ⟨by decide,by decide⟩,_,rfl,_,_,rfl,rfl,_,_,rfl,rfl,(by show (0:Int) < 2147483647; decide),?_⟩
    refine⟨_,rfl,.inl ⟨rfl,_,SqL.of hln3⟩,_,rfl,.inl ⟨rfl,_,SqL.of hlf3⟩,_,rfl,_,_,rfl,rfl,⟨by decide,by decide⟩,_,rfl,lf,_,rfl,.inl (SqL.of hlf3),_,_,rfl,rfl,?_,?_⟩
    ·rw[Z0k]; omega
    refine Zj7 hlf3 hpos (by omega) fun kx y hy=>?_
    have e3:(upd H3 lf (.lst (nv (left.eraseIdx kx)))) ln=some (.lst (nv line)):=by rw[Z05 nlnl]; exact hln3
    refine⟨ln,_,_,rfl,rfl,e3,?_,?_⟩
    ·rw[Z0k]; exact Z0j (by omega)
    refine⟨_,_,_,line++[y],left.eraseIdx kx,rfl,fun b c1 c2 c3=>?_,?_,?_,?_,Zlj hp hy⟩
    ·rw[Z05 c3,Z05 c2]; exact same3 b c1 c2 c3
    ·rw[Z05 nlnl.symm,Z01]
    ·rw[Z01,Z50]
    ·rw[Y07,hlen]; rfl
   ·rintro σ H3 ⟨num,o8,o9,line,left,rfl,same3,hlf3,hln3,hlen,hp⟩
    have hl0:left=[]:=by
     have:=hp.length_eq
     simp only[Y07,Y0d]at this
     exact List.length_eq_zero_iff.mp (by omega)
    have hrow:Row n line:=Row.of_perm (by rw[hl0,Y1f]at hp; exact hp)
    have hl3:H3 l=some (.lst (ps.map fun p=>.ref p.1)):=by rw[same3 l nr0l llf lln]; exact h2l
    refine⟨_,rfl,.inl ⟨rfl,_,SqL.of hl3⟩,_,rfl,l,_,_,rfl,rfl,hl3,?_,?_⟩
    ·rw[Y09]; exact Z0j (by omega)
    refine⟨_,_,_,_,_,_,ps++[(ln,line)],rfl,fun b o q=>?_,by rw[Y07,hps]; rfl,by rw[Z01,Y0p]; rfl,fun p hp'=>?_⟩
    ·have q2:=s2 b o q
     rw[Z05 (fun e=>by rw[e,hl]at q; cases q),same3 b (Z06 q2 hr0) (Z06 q2 f0) (Z06 q2 g1)]
     exact q2
    ·rcases Y0n.mp hp' with hp' | hp'
     ·obtain⟨c1,c2,c3⟩:=hall p hp'
      refine⟨c1,?_,c3⟩
      rw[Z05 c1,same3 p.1 (Z06 c2 hr0) (Z06 c2 f0) (Z06 c2 g1)]
      exact c2
     ·rw[Y0g.mp hp']
      exact⟨lln.symm,by rw[Z05 lln.symm]; exact hln3,hrow⟩
  ·rintro σ H2 ⟨num,o5,o6,o7,o8,o9,ps,rfl,s2,hps,h2l,hall⟩
   obtain⟨⟨p,r⟩,⟨q,u⟩,rfl⟩:=len2 hps
   have a1:=hall (p,r) (by simp)
   have a2:=hall (q,u) (by simp)
   exact⟨_,rfl,k H2 l p q r u s2 h2l a1.2.1 a2.2.1 a1.2.2 a2.2.2⟩
end
def Zps (K:Y01):Sp:=fun vs H Q _=>∃ (pr pu:Addr) (n:Nat) (r u:List Nat) (f:Nat),vs=[.ref pr,.ref pu,.int (f:Int)]/\Z44 K H pr r/\Z44 K H pu u/\Row n r/\Row n u/\f < n/\n<=36/\
 ∀ (H':Hp) (l:Addr) (M:List Nat),Z0d H H'->H l=none->H' l=some (.lst (nv M))->Z2w n r u f M->Q (.ref l) H'
section
variable {P:Program}{w:World}{K:Y01}{mg:Str->Option Value}{base:Heap}
theorem Z8j:Z0n ["_law_right","_law_up","_law_first","_law_met_here","_law_at","_law_square"] ["_law_right","_law_up","_law_first"] (Z08 Znm):=⟨rfl,rfl,rfl,by decide +kernel,rfl,by decide +kernel,by decide +kernel⟩
theorem Zrl {f:Addr}{fd:FuncData}(T:Bi mg)(F:Fn K mg "_law_met" Znm ["_law_right","_law_up","_law_first"] f fd):Z13 P w K mg base CX0 1 f fd ["_law_right","_law_up","_law_first"] (Zps K):=by
 refine F.F.ok Z8j (fun vs H Q E h=>?_) (fun cdv A outer s H vs Q E hr h=>?_)
 ·obtain⟨pr,pu,n,r,u,f,rfl,_⟩:=h; rfl
 ·obtain⟨pr,pu,n,r,u,f,rfl,hR,hU,rr,ru,hf,hn,k⟩:=h
  refine⟨_,Z03 (Z0c (i:=3) Z8j.nd rfl (Or.inl rfl) (Z1y (Z00 (pv 2) Z04)))
   (Z03 (Z0c (i:=4) Z8j.nd rfl (Or.inl rfl) Z09)
   (Z03 (Z4h PassesOwn.never (Z0m Zcq (pv 4) (Z0a Z0b (by rfl) T.len PySem.boot_len (Z00 (pv 3) Z04)) (Z0r _))
    (Z03 (Z1o PassesOwn.never rfl (Zez (Z3h (Z00 (Z0t Z6c (pv 0) (Z0t Z0v (pv 3) (pv 4) (fun _ _=>rfl)) (fun _ _=>rfl)) (Z00 (Z0t Z6c (pv 1) (Z0t Z0v (pv 3) (pv 4) (fun _ _=>rfl)) (fun _ _=>rfl)) Z04)))) (Z0i (i:=5) Z8j.nd rfl (Or.inl rfl))
     (Z07 (Z1f (Z0m Z69 (pv 5) (pv 3) rfl) (Z07 (Z1s (Z34 PySem.F.plainAttrs_list PySem.F.slot_list_append PySem.F.type_list_append Z11 (pv 3) (Z00 (pv 5) Z04)))) Z0p)))
    (Z07 (Z0c (i:=4) Z8j.nd rfl (Or.inl rfl) (Z0l Z1d (pv 4) Z09)))))
   (Z07 (Z0o (pv 3))))),?_⟩
  refine⟨_,rfl,(by show 1<=sizeLine; decide),fun l hl=>?_⟩
  refine Z5m (fun σ H2=>∃ (M:List Nat) (k:Nat) (o5:Option V),σ=[some (.ref pr),some (.ref pu),some (.int (f:Int)),some (.ref l),some (.int (k:Int)),o5]/\Z0d H H2/\H2 l=some (.lst (nv M))/\Met n r u f M k) (fun σ _=>mu 4 σ) ?_ ?_ ?_
  ·exact⟨[f],0,_,rfl,Z02 (Z0d.refl H) hl,Z01,Met.start hf⟩
  ·rintro σ H2 ⟨M,kk,o5,rfl,s2,h2l,hM⟩
   refine⟨_,rfl,_,rfl,l,_,rfl,.inl (SqL.of h2l),_,_,rfl,rfl,_,rfl,?_⟩
   rw[Z0k]
   refine Zgo (fun hlt=>?_) (fun hge=>?_)
   ·have hlt:(kk:Int) < (M.length:Int):=of_decide_eq_true hlt
    have hk:kk < M.length:=by omega
    have hx:M[kk]?=some M[kk]:=Y00 hk
    have hxn:M[kk] < n:=hM.lt _ (Y10 hk)
    have hMl:=hM.len
    refine⟨_,rfl,_,rfl,_,rfl,l,_,_,_,rfl,rfl,SqL.of h2l,Z0f (Z14 hx),Zd1 (hR.same s2) rr hxn ?_⟩
    refine⟨_,rfl,_,rfl,_,rfl,l,_,_,_,rfl,rfl,SqL.of h2l,Z0f (Z14 hx),Zd1 (hU.same s2) ru hxn ?_⟩
    refine⟨(by show 2<=sizeLine; decide),fun tp htp=>⟨tp,rfl,⟨_,SqT.of Z01⟩,?_⟩⟩
    have nlt:l≠tp:=Z06 h2l htp
    refine Zi7 (K:=K) (a:=tp) (xs:=[.int (nx r M[kk]:Int),.int (nx u M[kk]:Int)]) (fun i σ H3=>∃ (o5:Option V),σ=[some (.ref pr),some (.ref pu),some (.int (f:Int)),some (.ref l),some (.int (kk:Int)),o5]/\Z0d H H3/\H3 tp=some (.tup [.int (nx r M[kk]:Int),.int (nx u M[kk]:Int)])/\
     H3 l=some (.lst (nv (([nx r M[kk],nx u M[kk]].take i).foldl put M)))) ?_ ?_ ?_ ?_
    ·refine⟨_,rfl,Z02 s2 (s2.free htp),Z01,by rw[Z05 nlt]; exact h2l⟩
    ·rintro i σ H3 hi ⟨_,_,_,h3,_⟩
     exact SqT.of h3
    ·rintro i x σ H3 hi ⟨o5,rfl,s3,h3,h3l⟩
     obtain⟨y,ey,rfl⟩:=Z3e (xs:=[nx r M[kk],nx u M[kk]]) hi
     have hi2:i < 2:=(Y03.mp ey).1
     have hlen:=Z3w ([nx r M[kk],nx u M[kk]].take i) M
     have htk:([nx r M[kk],nx u M[kk]].take i).length<=2:=by rw[Y18]; exact Nat.min_le_right _ _
     have hfold:([nx r M[kk],nx u M[kk]].take (i+1)).foldl put M=put (([nx r M[kk],nx u M[kk]].take i).foldl put M) y:=by
      rw[Y11,ey,List.foldl_append]; rfl
     rw[hfold]
     generalize hM':([nx r M[kk],nx u M[kk]].take i).foldl put M=M' at h3l hlen
     refine⟨_,rfl,_,rfl,l,_,rfl,.inl (SqL.of h3l),rfl,Zil _,_,rfl,?_⟩
     show (if (!inV (.int (y:Int)) (nv M'))=true then _ else _)
     rw[Zmf]
     by_cases hy:y∈M'
     ·rw[decide_eq_true hy]
      refine Z2j ?_
      refine⟨_,rfl,s3,h3,?_⟩
      unfold put; rw[if_pos hy]; exact h3l
     ·rw[decide_eq_false hy]
      refine Z2m ?_
      refine⟨_,rfl,.inl ⟨rfl,_,SqL.of h3l⟩,_,rfl,l,_,_,rfl,rfl,h3l,?_,?_⟩
      ·rw[Z0k]; exact Z0j (by omega)
      refine⟨_,rfl,Z02 s3 hl,by rw[Z05 nlt.symm]; exact h3,?_⟩
      unfold put; rw[if_neg hy,Z01,Z50]
    ·rintro σ H3 ⟨o5,rfl,s3,h3,h3l⟩
     refine⟨_,rfl,_,_,rfl,rfl,⟨_,kk+1,_,rfl,s3,h3l,hM.step rr ru hx⟩,?_⟩
     show (100 - ((kk:Int)+1)).toNat < (100 - (kk:Int)).toNat
     omega
   ·have hge:¬ (kk:Int) < (M.length:Int):=fun z=>hge (decide_eq_true z)
    exact⟨_,rfl,k H2 l M s2 hl h2l (hM.all (by omega))⟩
  ·rintro σ H Q Q' h ⟨v,e1,v',e2,p,ys,e3,sq,i,j,e4,e5,k,e6,q⟩
   exact⟨v,e1,v',e2,p,ys,e3,sq,i,j,e4,e5,k,e6,h _ _ q⟩
end
def Zhj (K:Y01):Sp:=fun vs H Q _=>∃ (pr pu pm:Addr) (n:Nat) (r u S:List Nat),vs=[.ref pr,.ref pu,.ref pm]/\Z44 K H pr r/\Z44 K H pu u/\SqL K H pm (nv S)/\Row n r/\Row n u/\n<=36/\S.Nodup/\
 (∀ x∈S,x < n/\nx r x∈S/\nx u x∈S)/\∀ (H':Hp) (a:Addr),Z0d H H'->Z7e H' a (Z45 r S) (Z45 u S)->Q (.ref a) H'
def plc (S:List Nat)(i:Nat):List (Key×V):=(Y04 i).map fun k=>(Sum.inl ((S.getD k 0:Nat):Int),V.int (k:Int))
theorem Zer (S:List Nat)(i:Nat):plc S (i+1)=plc S i++[(Sum.inl ((S.getD i 0:Nat):Int),V.int (i:Int))]:=by
 unfold plc; rw[Y1j,Y0p]; rfl
theorem Zoi (S:List Nat)(i:Nat):(plc S i).length=i:=by simp[plc]
theorem Z9p {S:List Nat}(nd:S.Nodup):∀ {i:Nat},i<=S.length->∀ {x:Nat},x∈S->Z2s (plc S i) (Sum.inl (x:Int):Key)=if S.idxOf x < i then some (.int (S.idxOf x:Int)) else none
 | 0,_,x,hx=>rfl
 | i+1,hi,x,hx=>by
  have hlt:i < S.length:=hi
  have e0:S.getD i 0=S[i]:=by simp[Y05,hlt]
  have hidx:S.idxOf S[i]=i:=Z9c nd (Y00 hlt)
  have hnone:Z2s (plc S i) (Sum.inl ((S[i]:Nat):Int):Key)=none:=by
   rw[Z9p nd (by omega) (Y10 hlt),hidx,if_neg (Y1i _)]
  rw[Zer,e0,Z7v _ _ _ _ hnone]
  by_cases e:x=S[i]
  ·subst e
   rw[if_pos rfl,hidx,if_pos (Y21 _)]
  ·have e':¬ (Sum.inl (x:Int):Key)=Sum.inl ((S[i]:Nat):Int):=fun z=>e (by have:=Sum.inl.inj z; omega)
   rw[if_neg e',Z9p nd (by omega) hx]
   have hne:S.idxOf x≠i:=fun z=>e (by
    have:=Z73 hx
    rw[z,Y00 hlt]at this
    exact (Option.some.inj this).symm)
   by_cases h:S.idxOf x < i
   ·rw[if_pos h,if_pos (by omega)]
   ·rw[if_neg h,if_neg (by omega)]
section
variable {P:Program}{w:World}{K:Y01}{mg:Str->Option Value}{base:Heap}
theorem Z7w:Z0n ["_law_right","_law_up","_law_met_here","_law_place","_law_k","_law_square","_law_one"] ["_law_right","_law_up","_law_met_here"] (Z08 Z78):=⟨rfl,rfl,rfl,by decide +kernel,rfl,by decide +kernel,by decide +kernel⟩
theorem ndA1:(["_law_square","_law_place","_law_right"]:List Str).Nodup:=by decide +kernel
theorem ndA2:(["_law_square","_law_place","_law_up"]:List Str).Nodup:=by decide +kernel
theorem Zb4 {K:Y01}{Hc:Hp}{pm dp px:Addr}{x S:List Nat}{n:Nat}{Q:VK}{σ:St}{pull:List Nat}(h2:σ[2]?=some (some (.ref pm)))(hb:bst 1 pull σ=[none,some (.ref dp),some (.ref px)])
  (hp:Hc dp=some (.dK (plc S S.length))) (hx:Z44 K Hc px x) (hS:SqL K Hc pm (nv S)) (rx:Row n x) (nd:S.Nodup) (hn:S.length<=36) (hc:∀ y∈S,y < n/\nx x y∈S)
  (k:∀ (H':Hp) (d:Addr),Z0d Hc H'->H' d=some (.lst (nv (Z45 x S)))->Q (.ref d) H') :
  Z82 (Zfi K (Z1w 2)) 1 pull (Z25 0) (Zf6 (Z1w 1) (tOp (rIx K) (Z1w 2) (Z1w 0))) σ Hc Q:=by
 refine⟨_,h2,pm,rfl,⟨_,hS⟩,fun d hd=>?_⟩
 rw[hb]
 refine Z2z (Q:=fun d H'=>Q (.ref d) H') S.length (nv (Z45 x S)) (by rw[Z0k,Zap]) (fun i σ H3=>∃ o,σ=[o,some (.ref dp),some (.ref px)]/\Z0d Hc H3) ⟨_,rfl,Z02 (Z0d.refl _) hd⟩ ?_ ?_
 ·rintro i σ H3 hi ⟨o,rfl,s3⟩ hd3
  have hS3:=s3.seq hS
  refine⟨⟨_,_,hS3,Z14 (Y00 hi)⟩,fun y H4 ⟨e,hy⟩=>?_⟩
  subst e
  have hy:=hy _ hS3
  rw[Z14 (Y00 hi)]at hy
  cases hy
  have hm:S[i]∈S:=Y10 hi
  refine⟨_,rfl,_,rfl,_,rfl,Zd1 (hx.same s3) rx (hc _ hm).1 ?_⟩
  have hv:Z2s (plc S S.length) (Sum.inl ((nx x S[i]:Nat):Int):Key)=some (.int (S.idxOf (nx x S[i]):Int)):=by
   rw[Z9p nd (Y06 _) (hc _ hm).2,if_pos (Y1a (hc _ hm).2)]
  have hg:=Z6k.k (k:=(Sum.inl ((nx x S[i]:Nat):Int):Key)) (s3 _ _ hp)
  rw[hv]at hg
  refine⟨dp,_,rfl,hg,Z70 hi (by omega) hd3 (Z14 ?_) ⟨_,rfl,Z02 s3 hd⟩⟩
  unfold Z45
  rw[Y0e,Y00 hi]
  rfl
 ·rintro σ H3 ⟨o,rfl,s3⟩ hd3
  exact⟨⟨_,s3.seq hS,by rw[Z0k]; exact Y06 _⟩,k H3 d s3 hd3⟩
theorem Zkk {f:Addr}{fd:FuncData}(T:Bi mg)(F:Fn K mg "_law_among" Z78 ["_law_right","_law_up","_law_met_here"] f fd):Z13 P w K mg base CX0 1 f fd ["_law_right","_law_up","_law_met_here"] (Zhj K):=by
 refine F.F.ok Z7w (fun vs H Q E h=>?_) (fun cdv A outer s H vs Q E hr h=>?_)
 ·obtain⟨pr,pu,pm,n,r,u,S,rfl,_⟩:=h; rfl
 ·obtain⟨pr,pu,pm,n,r,u,S,rfl,hR,hU,hS,rr,ru,hn,nd,hcl,k⟩:=h
  have hu:=Z83 hr
  refine⟨_,Z03 (Z0c (i:=3) Z7w.nd rfl (Or.inr rfl) Z2e)
   (Z03 (Z1o PassesOwn.never rfl (Z5d rfl T.enum (Z00 (pv 2) Z04)) (Z3t rfl (Z0s (Z0i (i:=4) Z7w.nd rfl (Or.inl rfl)) (Z0s (Z0i (i:=5) Z7w.nd rfl (Or.inl rfl)) Z26)))
    (Z07 (Z2x hu (pv 3) (pv 5) (pv 4) rfl)))
   (Z03 (Z0c (i:=6) Z7w.nd rfl (Or.inl rfl) (Z0q Z1l rfl T.tuple Z1t (Z00
    (Z2c (N:=["_law_right","_law_up","_law_met_here","_law_place","_law_k","_law_square","_law_one"]) (names:=(Z08 Z78).names) (N':=["_law_square","_law_place","_law_right"]) (k:=1) (pull:=[3,0]) (te:=Zf6 (Z1w 1) (tOp (rIx K) (Z1w 2) (Z1w 0))) rfl
     ⟨by rfl,by decide +kernel,by decide +kernel,by rfl,by decide +kernel,by decide +kernel⟩ rfl rfl (Z1x (pv 2)) (fun _ _ _ _ _ _=>Z0i (i:=0) ndA1 rfl (Or.inl rfl)) (fun _ _ _ _ _ _=>Z51 hu (pv 1) (Z0t Z6c (pv 2) (pv 0) (fun _ _=>rfl)) (fun _ _=>rfl))) Z04)))
   (Z07 (Z0o (Z3h (Z00 (pv 6) (Z00 (Z0q Z1l rfl T.tuple Z1t (Z00
    (Z2c (N:=["_law_right","_law_up","_law_met_here","_law_place","_law_k","_law_square","_law_one"]) (names:=(Z08 Z78).names) (N':=["_law_square","_law_place","_law_up"]) (k:=1) (pull:=[3,1]) (te:=Zf6 (Z1w 1) (tOp (rIx K) (Z1w 2) (Z1w 0))) rfl
     ⟨by rfl,by decide +kernel,by decide +kernel,by rfl,by decide +kernel,by decide +kernel⟩ rfl rfl (Z1x (pv 2)) (fun _ _ _ _ _ _=>Z0i (i:=0) ndA2 rfl (Or.inl rfl)) (fun _ _ _ _ _ _=>Z51 hu (pv 1) (Z0t Z6c (pv 2) (pv 0) (fun _ _=>rfl)) (fun _ _=>rfl))) Z04)) Z04))))))),?_⟩
  have hSl:S.length<=n:=by
   have:=Z16 S (Y04 n) nd fun x hx=>Y08.mpr (hcl x hx).1
   simpa using this
  intro dp hdp
  have s1:Z0d H (upd H dp (.dK [])):=Z02 (Z0d.refl H) hdp
  refine⟨_,rfl,pm,rfl,⟨_,s1.seq hS⟩,Z8p (xs:=nv S) (fun i σ H2=>∃ o4 o5 o6,σ=[some (.ref pr),some (.ref pu),some (.ref pm),some (.ref dp),o4,o5,o6]/\Z0d H H2/\H2 dp=some (.dK (plc S i))) ⟨_,_,_,rfl,s1,Z01⟩ (fun i σ H2 _ ⟨_,_,_,_,s2,_⟩=>s2.seq hS) ?_ ?_⟩
  ·rintro i x σ H2 T hx hT ⟨o4,o5,o6,rfl,s2,h2⟩
   obtain⟨y,hy,rfl⟩:=Z3e hx
   have hi:i < S.length:=(Y03.mp hy).1
   have ey:S[i]=y:=(Y03.mp hy).2
   have ndp:dp≠T:=Z06 h2 hT
   have h2':(upd H2 T (Z42 T [.int (i:Int),.int (y:Int)])) dp=some (.dK (plc S i)):=by rw[Z05 ndp]; exact h2
   refine⟨T,_,rfl,Z01,rfl,_,_,rfl,_,_,rfl,rfl,?_⟩
   refine⟨_,rfl,_,rfl,_,rfl,dp,_,rfl,Zc3.k (k:=(Sum.inl (y:Int):Key)) h2' (by rw[Zoi]; exact Z0j (by omega)),?_⟩
   refine⟨_,_,_,rfl,Z02 (Z02 s2 (s2.free hT)) hdp,?_⟩
   have hnone:Z2s (plc S i) (Sum.inl (y:Int):Key)=none:=by
    rw[Z9p nd (by omega) (by rw[<-ey]; exact Y10 hi),Z9c nd hy,if_neg (Y1i _)]
   have e0:S.getD i 0=y:=by simp[Y05,hi,ey]
   rw[Z01,Z28 _ hnone,Zer,e0]
  ·rintro σ H2 ⟨o4,o5,o6,rfl,s2,h2⟩
   rw[Z0k]at h2
   dsimp only [Zdh,Zbn,tCB,Z0w]
   refine Zb4 rfl rfl h2 (hR.same s2) (s2.seq hS) rr nd (by omega) (fun y hy=>⟨(hcl y hy).1,(hcl y hy).2.1⟩) ?_
   intro H3 d3 s3 h3
   refine⟨d3,_,rfl,.inl ⟨SqL.of h3,fun t1 ht1=>?_⟩⟩
   have s3':Z0d H2 (upd H3 t1 (.tup (nv (Z45 r S)))):=Z02 s3 (s3.free ht1)
   have s4:Z0d H (upd H3 t1 (.tup (nv (Z45 r S)))):=s2.trans s3'
   refine⟨_,rfl,?_⟩
   dsimp only [Zdh,Zbn,tCB,Z0w]
   refine Zb4 rfl rfl (s3' _ _ h2) (hU.same s4) (s4.seq hS) ru nd (by omega) (fun y hy=>⟨(hcl y hy).1,(hcl y hy).2.2⟩) ?_
   intro H5 d5 s5 h5
   refine⟨d5,_,rfl,.inl ⟨SqL.of h5,fun t2 ht2=>?_⟩⟩
   have s6:Z0d (upd H3 t1 (.tup (nv (Z45 r S)))) (upd H5 t2 (.tup (nv (Z45 u S)))):=Z02 s5 (s5.free ht2)
   refine⟨by show 2<=sizeLine; decide,fun a ha=>k _ a ?_ ⟨t1,t2,Z01,?_,?_⟩⟩
   ·exact Z02 (s4.trans s6) ((s4.trans s6).free ha)
   ·have e1:=s6 t1 _ Z01
    rw[Z05 (Z06 e1 ha)]; exact e1
   ·have e2:(upd H5 t2 (.tup (nv (Z45 u S)))) t2=some (.tup (nv (Z45 u S))):=Z01
    rw[Z05 (Z06 e2 ha)]; exact e2
end
def Zec (K:Y01):Sp:=fun vs H Q _=>∃ (a:Addr) (ns:List Int) (j:Int) (n:Nat),vs=[.ref a,.int j,.int (n:Int)]/\SqL K H a (ns.map V.int)/\0<=j/\1<=n/\n<=36/\
 ∀ (H':Hp) (b:Addr) (m:Nat) (r u:List Nat),Z0d H H'->Z7e H' b r u->Z4r m r u->m<=n->Q (.ref b) H'
section
variable {P:Program}{w:World}{K:Y01}{mg:Str->Option Value}{base:Heap}
theorem Z9q:Z0n ["_law_script","_law_at","_law_many","_law_right","_law_up"] ["_law_script","_law_at","_law_many"] (Z08 Zbe):=⟨rfl,rfl,rfl,by decide +kernel,rfl,by decide +kernel,by decide +kernel⟩
theorem Zis {f fl fm fa:Addr}{fd fdl fdm fda:FuncData}(T:Bi mg)(F:Fn K mg "_law_sheet" Zbe ["_law_script","_law_at","_law_many"] f fd)
  (FL:Fn K mg "_law_lines" Zba ["_law_script","_law_at","_law_many"] fl fdl) (GL:Z13 P w K mg base CX0 2 fl fdl ["_law_script","_law_at","_law_many"] (Zhl K))
  (FM:Fn K mg "_law_met" Znm ["_law_right","_law_up","_law_first"] fm fdm) (GM:Z13 P w K mg base CX0 1 fm fdm ["_law_right","_law_up","_law_first"] (Zps K))
  (FA:Fn K mg "_law_among" Z78 ["_law_right","_law_up","_law_met_here"] fa fda) (GA:Z13 P w K mg base CX0 1 fa fda ["_law_right","_law_up","_law_met_here"] (Zhj K)) :
  Z13 P w K mg base CX0 3 f fd ["_law_script","_law_at","_law_many"] (Zec K):=by
 refine F.F.ok Z9q (fun vs H Q E h=>?_) (fun cdv A outer s H vs Q E hr h=>?_)
 ·obtain⟨a,ns,j,n,rfl,_⟩:=h; rfl
 ·obtain⟨a,ns,j,n,rfl,hS,h0,h1,hn,k⟩:=h
  have hr1:Z2d 1 _:=hr.mono (by decide)
  refine⟨_,Z03 (Zew (Z0h GL hr rfl FL.m FL.F.kp FL.b .nil Z0z (Z00 (pv 0) (Z00 (pv 1) (Z00 (pv 2) Z04)))) (Znh rfl (Z0s (Z0i (i:=3) Z9q.nd rfl (Or.inl rfl)) (Z0s (Z0i (i:=4) Z9q.nd rfl (Or.inl rfl)) Z26))))
   (Z07 (Z0o (Z0h GA hr1 rfl FA.m FA.F.kp FA.b .nil Z0z (Z00 (pv 3) (Z00 (pv 4) (Z00 (Z0a (Z2b rfl) rfl T.sorted Z22 (Z00 (Z0h GM hr1 rfl FM.m FM.F.kp FM.b .nil Z0z (Z00 (pv 3) (Z00 (pv 4) (Z00 Z09 Z04)))) Z04)) Z04)))))),?_⟩
  refine⟨_,rfl,_,rfl,_,rfl,a,ns,j,n,rfl,hS,h0,h1,hn,fun H1 l p q r u s1 hl hp hq rr ru=>?_⟩
  refine⟨l,_,_,rfl,SqL.of hl,_,_,rfl,_,_,rfl,rfl,?_⟩
  refine⟨_,rfl,_,rfl,_,rfl,_,rfl,p,q,n,r,u,0,rfl,.inl (SqL.of hp),.inl (SqL.of hq),rr,ru,h1,hn,fun H2 lm M s2 _ hm hM=>?_⟩
  have hMl:M.length<=n:=by
   have:=Z16 M (Y04 n) hM.nd fun x hx=>Y08.mpr (hM.lt x hx)
   simpa using this
  refine⟨lm,M,rfl,.inl (SqL.of hm),by omega,fun l2 S hl2 pS sS=>?_⟩
  have s3:Z0d H1 (upd H2 l2 (.lst (nv S))):=Z02 s2 (s2.free hl2)
  have hS':=hM.perm pS
  refine⟨p,q,l2,n,r,u,S,rfl,.inl (SqL.of (s3 _ _ hp)),.inl (SqL.of (s3 _ _ hq)),SqL.of Z01,rr,ru,hn,hS'.nd,fun x hx=>⟨hS'.lt x hx,hS'.shut x hx⟩,fun H4 b s4 hb=>?_⟩
  exact k H4 b S.length _ _ (s1.trans (s3.trans s4)) hb (Zcx hn rr ru hS' sS) (by rw[pS.length_eq]; exact hMl)
end
end K1
namespace L2
open PySem PySem.Spec PyProof.Rows
section
variable {prog:Program}{w:World}{A:Around}{E:Value->Shared->Prop}{s:Shared}{K:Type}[DecidableEq K]{knd:KeyKind prog w K}
end
section
variable {X:Cx}{pins:List (Addr×Obj)}{σ:St}{H:Hp}{s:Shared}{A:Around}{E:Value->Shared->Prop}{a:Addr}{v:V}{u r:Value}{kvs:List (Key×V)}{k:Key}
end
section
variable {X:Cx}{o e f:Expr}{apos cpos:Pos}{td ty tx:TE}
end
def XW (n:Nat)(Pv:Nat->List V->St->Hp->Prop)(d:Addr)(i m:Nat)(σ:St)(H:Hp):Prop:=m=n - i/\i<=n/\∃ xs,Pv i xs σ H/\H d=some (.lst xs)
def Zny (n:Nat)(Pv:Nat->List V->St->Hp->Prop)(d:Addr)(i:Nat)(σ3:St)(y:V)(H4:Hp):Prop:=∃ xs,H4 d=some (.lst xs)/\xs.length < sizeLine/\∃ m',m' < n - i/\XW n Pv d (i+1) m' σ3 (upd H4 d (.lst (xs++[y])))
def Zr6 (n:Nat)(Pv:Nat->List V->St->Hp->Prop)(d:Addr)(i:Nat)(σ3:St)(H4:Hp):Prop:=∃ m',m' < n - i/\XW n Pv d (i+1) m' σ3 H4
theorem Zk8 {n:Nat}{Pv:Nat->List V->St->Hp->Prop}{d:Addr}{i:Nat}{σ3:St}{y:V}{H4:Hp}{xs:List V}(hi:i < n)(hd:H4 d=some (.lst xs))(hl:xs.length<=1000)(hp:Pv (i+1) (xs++[y]) σ3 (upd H4 d (.lst (xs++[y])))):Zny n Pv d i σ3 y H4:=
 ⟨xs,hd,Z0j hl,n - (i+1),by omega,rfl,hi,_,hp,Z01⟩
theorem Zto {n:Nat}{Pv:Nat->List V->St->Hp->Prop}{d:Addr}{i:Nat}{σ3:St}{H4:Hp}{xs:List V}(hi:i < n)(hd:H4 d=some (.lst xs))(hp:Pv (i+1) xs σ3 H4):Zr6 n Pv d i σ3 H4:=
 ⟨n - (i+1),by omega,rfl,hi,_,hp,hd⟩
theorem Zd7 {J:It}{g:TG}{te:TE}{d:Addr}{σ0:St}{H1:Hp}{Q:Addr->Hp->Prop}(n:Nat)(Pv:Nat->List V->St->Hp->Prop)(h0:Pv 0 [] σ0 (upd H1 d (.lst [])))
  (go:∀ i xs σ H,i < n->Pv i xs σ H->H d=some (.lst xs)->J.go i H/\∀ x H2,J.yld i H x H2->g x σ H2 fun σ3 H3=>te σ3 H3 fun y H4=>Zny n Pv d i σ3 y H4)
  (stop:∀ xs σ H,Pv n xs σ H->H d=some (.lst xs)->J.stop n H/\Q d H) :
  ∃ W:Nat->Nat->St->Hp->Prop,(∃ m,W 0 m σ0 (upd H1 d (.lst [])))/\∀ i m σ' H',W i m σ' H'->
   (J.stop i H'/\Q d H')\/(J.go i H'/\∀ x H2,J.yld i H' x H2->g x σ' H2 fun σ3 H3=>te σ3 H3 fun y H4=>∃ xs,H4 d=some (.lst xs)/\xs.length < sizeLine/\∃ m',m' < m/\W (i+1) m' σ3 (upd H4 d (.lst (xs++[y])))):=by
 refine⟨XW n Pv d,⟨n,by simp,Y0w _,[],h0,Z01⟩,?_⟩
 rintro i m σ H ⟨rfl,hi,xs,p,hd⟩
 by_cases hlt:i < n
 ·exact .inr (go i xs σ H hlt p hd)
 ·have:i=n:=by omega
  subst this
  exact .inl (stop xs σ H p hd)
theorem Zgj {J:It}{g:TG}{tt:TT}{te:TE}{d:Addr}{σ0:St}{H1:Hp}{Q:Addr->Hp->Prop}(n:Nat)(Pv:Nat->List V->St->Hp->Prop)(h0:Pv 0 [] σ0 (upd H1 d (.lst [])))
  (go:∀ i xs σ H,i < n->Pv i xs σ H->H d=some (.lst xs)->J.go i H/\∀ x H2,J.yld i H x H2->g x σ H2 fun σ3 H3=>tt σ3 H3 fun b H4=>if b=true then te σ3 H4 fun y H5=>Zny n Pv d i σ3 y H5 else Zr6 n Pv d i σ3 H4)
  (stop:∀ xs σ H,Pv n xs σ H->H d=some (.lst xs)->J.stop n H/\Q d H) :
  ∃ W:Nat->Nat->St->Hp->Prop,(∃ m,W 0 m σ0 (upd H1 d (.lst [])))/\∀ i m σ' H',W i m σ' H'->
   (J.stop i H'/\Q d H')\/(J.go i H'/\∀ x H2,J.yld i H' x H2->g x σ' H2 fun σ3 H3=>tt σ3 H3 fun b H4=>if b=true then te σ3 H4 fun y H5=>∃ xs,H5 d=some (.lst xs)/\xs.length < sizeLine/\∃ m',m' < m/\W (i+1) m' σ3 (upd H5 d (.lst (xs++[y])))
    else ∃ m',m' < m/\W (i+1) m' σ3 H4):=by
 refine⟨XW n Pv d,⟨n,by simp,Y0w _,[],h0,Z01⟩,?_⟩
 rintro i m σ H ⟨rfl,hi,xs,p,hd⟩
 by_cases hlt:i < n
 ·exact .inr (go i xs σ H hlt p hd)
 ·have:i=n:=by omega
  subst this
  exact .inl (stop xs σ H p hd)
end L2
namespace K1
open PySem L2 Sq
def Zl4:Sp:=fun vs H Q _=>∃ (d:Addr) (kvs:List (Key×V)) (n:Nat) (g:Nat->Nat),vs=[.ref d]/\H d=some (.dK kvs)/\kvs.length=n/\n<=36/\(∀ i,i < n->Z2s kvs (Sum.inl (i:Int):Key)=some (.int (g i:Int)))/\∀ (H':Hp) (l:Addr),Z0d H H'->H l=none->H' l=some (.lst (nv ((Y04 n).map g)))->Q (.ref l) H'
section
variable {P:Program}{w:World}{K:Y01}{mg:Str->Option Value}{base:Heap}
theorem Zqh:Z0n ["told"] ["told"] (Z08 Z2r):=⟨rfl,rfl,rfl,by decide +kernel,rfl,by decide +kernel,by decide +kernel⟩
theorem Zpu:(["square","told"]:List Str).Nodup:=by decide +kernel
theorem Ztd {f:Addr}{fd:FuncData}(T:Bi mg)(F:Fn K mg "in_order" Z2r ["told"] f fd):Z13 P w K mg base CX0 1 f fd ["told"] Zl4:=by
 refine F.F.ok Zqh (fun vs H Q E h=>?_) (fun cdv A outer s H vs Q E hr h=>?_)
 ·obtain⟨d,kvs,n,g,rfl,_⟩:=h; rfl
 ·obtain⟨d,kvs,n,g,rfl,hd,hl,hn,hg,k⟩:=h
  have hu:=Z83 hr
  refine⟨_,Z07 (Z0o (Z2c (N:=["told"]) (names:=(Z08 Z2r).names) (N':=["square","told"]) (k:=1) (pull:=[0]) (te:=Zid (Z1w 1) (Z1w 0)) rfl ⟨by rfl,by decide +kernel,by decide +kernel,by rfl,by decide +kernel,by decide +kernel⟩ rfl rfl (Z1n rfl T.range (Z00 (Z0a Z80 rfl T.len PySem.boot_len (Z00 (pv 0) Z04)) Z04)) (fun _ _ _ _ _ _=>Z0i (i:=0) Zpu rfl (Or.inl rfl)) (fun _ _ _ _ _ _=>Zet hu (pv 1) (pv 0) ⟨rfl,rfl,rfl,rfl⟩))),?_⟩
  dsimp only [Znt]
  refine Z74 (m:=n) (rest:=[some (.ref d)]) g (fun R hR=>⟨_,rfl,d,kvs,rfl,hd,by rw[hl]; exact hR⟩) rfl (fun i H' R hi hs hR=>?_) (by omega) fun H5 e s5 he0 he=>k H5 e s5 he0 he
  exact⟨_,rfl,d,rfl,.inl ⟨kvs,.inl (hs _ _ hd)⟩,_,rfl,some (.int (g i:Int)),.inl ⟨kvs,Sum.inl (i:Int),.inl (hs _ _ hd),rfl,(hg i hi).symm⟩,hR⟩
end
def Zmn (K:Y01):Sp:=fun vs H Q _=>∃ (p:Addr) (n:Nat) (r:List Nat),vs=[.ref p]/\Z44 K H p r/\Row n r/\n<=36/\∀ H':Hp,Z0d H H'->Q (.bl true) H'
def Zjr (K:Y01)(H:Hp)(p:Addr)(r:List Nat):Prop:=SqL K H p (nv r)\/H p=some (.tup (nv r))
theorem Zjr.row {K:Y01}{H:Hp}{p:Addr}{r:List Nat}(h:Zjr K H p r):Z44 K H p r:=h.imp id SqT.of
theorem Zjr.same {K:Y01}{H H':Hp}{p:Addr}{r:List Nat}(e:Z0d H H')(h:Zjr K H p r):Zjr K H' p r:=h.imp e.seq (e _ _)
def Zb3 (K:Y01):Sp:=fun vs H Q _=>∃ (p q:Addr) (n:Nat) (r u:List Nat),vs=[.ref p,.ref q]/\Zjr K H p r/\Zjr K H q u/\Row n r/\Row n u/\1<=n/\n<=36/\∀ (H':Hp) (a:Addr),Z0d H H'->Z7e H' a r u->Q (.ref a) H'
abbrev Zsw (K:Y01):List V->Hp->VK->Prop:=fun xs H Q=>∃ p ys,xs=[.ref p]/\(SqL K H p ys\/SqT K H p ys)/\Q (.int (ys.length:Int)) H
theorem Zr8 {K:Y01}{Hc:Hp}{p:Addr}{r:List Nat}{n:Nat}{Q:VK}{σ:St}(h0:σ[0]?=some (some (.ref p)))(hb:bst 1 [0] σ=[none,some (.ref p)])(hp:Z44 K Hc p r)(rr:Row n r)(hn:n<=36)
  (k:∀ (H':Hp) (d:Addr),Z0d Hc H'->H' d=some (.lst ((List.replicate n true).map V.bl))->Q (.ref d) H') :
  Z82 (fun σ H R=>Zfi K (Z1w 0) σ H R\/Zt6 K (Z1w 0) σ H R) 1 [0] (Z25 0) (Z2p Zbr [] E0 (Z0w (Z1w 0) (Z0w (tCB (Zsw K) (Z0w (Z1w 1) Z2t)) Z2t))) σ Hc Q:=by
 have core:∀ (J:It),(∀ H3,Z0d Hc H3->(∀ i,i < n->J.go i H3/\∀ x H2,J.yld i H3 x H2->H2=H3/\x=.int (nx r i:Int))/\J.stop n H3)->∀ d,Hc d=none->
   ∃ W:Nat->Nat->St->Hp->Prop,(∃ m,W 0 m (bst 1 [0] σ) (upd Hc d (.lst [])))/\∀ i m σ' H',W i m σ' H'->
    (J.stop i H'/\Q (.ref d) H')\/(J.go i H'/\∀ x H2,J.yld i H' x H2->Z25 0 x σ' H2 fun σ3 H3=>Z2p Zbr [] E0 (Z0w (Z1w 0) (Z0w (tCB (Zsw K) (Z0w (Z1w 1) Z2t)) Z2t)) σ3 H3 fun y H4=>∃ xs,H4 d=some (.lst xs)/\xs.length < sizeLine/\∃ m',m' < m/\W (i+1) m' σ3 (upd H4 d (.lst (xs++[y])))):=by
  intro J hJ d hd
  rw[hb]
  refine Z2z (Q:=fun d H'=>Q (.ref d) H') n ((List.replicate n true).map V.bl) (by simp) (fun i σ H3=>∃ o,σ=[o,some (.ref p)]/\Z0d Hc H3) ⟨_,rfl,Z02 (Z0d.refl _) hd⟩ ?_ ?_
  ·rintro i σ H3 hi ⟨o,rfl,s3⟩ hd3
   obtain⟨g1,g2⟩:=(hJ H3 s3).1 i hi
   refine⟨g1,fun x H4 hy=>?_⟩
   obtain⟨e1,e2⟩:=g2 x H4 hy
   subst e1 e2
   refine⟨_,rfl,_,rfl,p,_,rfl,hp.same s3,_,_,rfl,?_⟩
   have hlt:=rr.nlt hi
   rw[Z0k,rr.len,decide_eq_true (by omega)]
   exact Z70 hi (by omega) hd3 (by simp[hi]) ⟨_,rfl,Z02 s3 hd⟩
  ·rintro σ H3 ⟨o,rfl,s3⟩ hd3
   exact⟨(hJ H3 s3).2,k H3 d s3 hd3⟩
 rcases id hp with h | h
 ·refine .inl ⟨_,h0,p,rfl,⟨_,h⟩,core _ fun H3 s3=>⟨fun i hi=>⟨⟨_,_,s3.seq h,Z14 (rr.get hi)⟩,fun x H2 ⟨e,hy⟩=>⟨e,?_⟩⟩,⟨_,s3.seq h,by rw[Z0k,rr.len]; exact Y06 _⟩⟩⟩
  have:=hy _ (s3.seq h)
  rw[Z14 (rr.get hi)]at this
  exact (Option.some.inj this).symm
 ·refine .inr ⟨_,h0,p,rfl,⟨_,h⟩,core _ fun H3 s3=>⟨fun i hi=>⟨⟨_,_,Z0d.tseq s3 h,Z14 (rr.get hi)⟩,fun x H2 ⟨e,hy⟩=>⟨e,?_⟩⟩,⟨_,Z0d.tseq s3 h,by rw[Z0k,rr.len]; exact Y06 _⟩⟩⟩
  have:=hy _ (Z0d.tseq s3 h)
  rw[Z14 (rr.get hi)]at this
  exact (Option.some.inj this).symm
section
variable {P:Program}{w:World}{K:Y01}{mg:Str->Option Value}{base:Heap}
theorem Zpp:Z0n ["row"] ["row"] (Z08 Z8e):=⟨rfl,rfl,rfl,by decide +kernel,rfl,by decide +kernel,by decide +kernel⟩
theorem ndT:(["thing","row"]:List Str).Nodup:=by decide +kernel
theorem Zpk {f fs:Addr}{fd fds:FuncData}(T:Bi mg)(F:Fn K mg "has_each_once" Z8e ["row"] f fd)(FS:Fn K mg "is_square" Zbs ["thing","squares"] fs fds)(GS:Z13 P w K mg base CX0 2 fs fds ["thing","squares"] Zbr) :
  Z13 P w K mg base CX0 3 f fd ["row"] (Zmn K):=by
 refine F.F.ok Zpp (fun vs H Q E h=>?_) (fun cdv A outer s H vs Q E hr h=>?_)
 ·obtain⟨p,n,r,rfl,_⟩:=h; rfl
 ·obtain⟨p,n,r,rfl,hp,rr,hn,k⟩:=h
  refine⟨_,Z03 (Z1f (Z8y (Z8u (Z0a (Z4w rfl) (by rfl) T.all Zen (Z00
     (Z2c (N:=["row"]) (names:=(Z08 Z8e).names) (N':=["thing","row"]) (k:=1) (pull:=[0]) (te:=Z2p Zbr [] E0 (Z0w (Z1w 0) (Z0w (tCB (Zsw K) (Z0w (Z1w 1) Z2t)) Z2t))) rfl
      ⟨by rfl,by decide +kernel,by decide +kernel,by rfl,by decide +kernel,by decide +kernel⟩ rfl rfl (PI.or (Z1x (pv 0)) (Zez (pv 0))) (fun _ _ _ _ _ _=>Z0i (i:=0) ndT rfl (Or.inl rfl))
      (fun _ _ _ _ _ _=>Z0h GS hr rfl FS.m FS.F.kp FS.b .nil Z0z (Z00 (pv 0) (Z00 (Z0a Z0b (by rfl) T.len PySem.boot_len (Z00 (pv 1) Z04)) Z04)))) Z04)))) (Z07 (Z0o Zaf)) Z0p)
   (Z07 (Z0o (Z6t Z3j (Z0a Z3q (by rfl) T.len PySem.boot_len (Z00 (Z0q (Z9w rfl) (by rfl) T.set Za0 (Z00 (pv 0) Z04)) Z04)) (Z0a Z0b (by rfl) T.len PySem.boot_len (Z00 (pv 0) Z04)) (Z0r _)))),?_⟩
  dsimp only [Zg5,Zdh,Ztt,Zsr,tB,tCB,Z0w]
  refine Zr8 rfl rfl hp rr hn fun H3 d s3 hd3=>?_
  refine⟨d,_,rfl,SqL.of hd3,_,rfl,?_⟩
  rw[Zpi]
  refine Z2j ?_
  refine⟨_,rfl,p,r,rfl,hp.same s3,by rw[rr.len]; omega,fun d2 S hd2=>?_⟩
  have s4:Z0d H (upd H3 d2 (.set S (Z3m r))):=Z02 s3 (s3.free hd2)
  refine⟨d2,S,_,rfl,Z01,_,rfl,p,_,rfl,hp.same s4,rfl,?_⟩
  have e:decide (V.int (Z3m r:Int)=V.int ((nv r).length:Int))=true:=decide_eq_true (by rw[Z7z rr.nd,Z0k])
  rw[e]
  exact k _ s4
theorem Zja:Z0n ["right","up"] ["right","up"] (Z08 Z37):=⟨rfl,rfl,rfl,by decide +kernel,rfl,by decide +kernel,by decide +kernel⟩
def Zmu (K:Y01):List V->Hp->VK->Prop:=fun xs H Q=>∃ p ys,xs=[.ref p]/\((SqL K H p ys/\∀ l,H l=none->Q (.ref l) (upd H l (.tup ys)))\/(SqT K H p ys/\Q (.ref p) H))
theorem Z7s {X:Cx}:Z33 X (.type "tuple") (Zmu X.K):=Z1l
theorem Zs4 {K:Y01}{H:Hp}{p:Addr}{r:List Nat}{Q:VK}(h:Zjr K H p r)(k:∀ (H':Hp) (l:Addr),Z0d H H'->H' l=some (.tup (nv r))->Q (.ref l) H') :
  Zmu K [.ref p] H Q:=by
 rcases h with h | h
 ·exact⟨p,_,rfl,.inl ⟨h,fun l hl=>k _ l (Z02 (Z0d.refl H) hl) Z01⟩⟩
 ·exact⟨p,_,rfl,.inr ⟨SqT.of h,k H p (Z0d.refl H) h⟩⟩
theorem Zf9 {f fe:Addr}{fd fde:FuncData}{tm:Tok}(T:Bi mg)(hm:mg "MOST_SQUARES"=some (.int 36 tm))(F:Fn K mg "checked_rows" Z37 ["right","up"] f fd)(FE:Fn K mg "has_each_once" Z8e ["row"] fe fde)(GE:Z13 P w K mg base CX0 3 fe fde ["row"] (Zmn K)) :
  Z13 P w K mg base CX0 4 f fd ["right","up"] (Zb3 K):=by
 refine F.F.ok Zja (fun vs H Q E h=>?_) (fun cdv A outer s H vs Q E hr h=>?_)
 ·obtain⟨p,q,n,r,u,rfl,_⟩:=h; rfl
 ·obtain⟨p,q,n,r,u,rfl,hp,hq,rr,ru,h1,hn,k⟩:=h
  refine⟨_,Z03 (Z1f (Z0m Z9v (Z0a Z0b (by rfl) T.len PySem.boot_len (Z00 (pv 0) Z04)) (Z0a Z0b (by rfl) T.len PySem.boot_len (Z00 (pv 1) Z04)) (Z0r _)) Z4d Z0p)
   (Z03 (Z1f (Z8y (Zdo Zfs Zfs Z09 (Z0a Z0b (by rfl) T.len PySem.boot_len (Z00 (pv 0) Z04)) (Z1a (v:=.int 36) (by rfl) hm ⟨_,rfl⟩))) Z4d Z0p)
   (Z03 (Z1f (Z8y (PW.pt (Zdg (Z8u (Z0h GE hr rfl FE.m FE.F.kp FE.b .nil Z0z (Z00 (pv 0) Z04))) (Z9i (Z8u (Z0h GE hr rfl FE.m FE.F.kp FE.b .nil Z0z (Z00 (pv 1) Z04))))))) Z4d Z0p)
   (Z07 (Z0o (Z3h (Z00 (Z0q Z7s (by rfl) T.tuple Z1t (Z00 (pv 0) Z04)) (Z00 (Z0q Z7s (by rfl) T.tuple Z1t (Z00 (pv 1) Z04)) Z04))))))),?_⟩
  refine⟨_,rfl,p,_,rfl,hp.row,_,rfl,q,_,rfl,hq.row,rfl,_,rfl,?_⟩
  refine Zn5 (by rw[Z0k,Z0k,rr.len,ru.len]) ?_
  refine⟨_,rfl,p,_,rfl,hp.row,_,_,rfl,rfl,_,rfl,?_⟩
  rw[Z0k,rr.len]
  have e1:decide ((1:Int)<=(n:Int))=true:=decide_eq_true (by omega)
  have e2:decide ((n:Int)<=36)=true:=decide_eq_true (by omega)
  rw[e1]
  refine Z2m ?_
  refine⟨_,_,rfl,rfl,_,rfl,?_⟩
  rw[e2]
  refine Z2j ?_
  refine⟨_,rfl,p,n,r,rfl,hp.row,rr,hn,fun H1 s1=>?_⟩
  refine⟨_,rfl,?_⟩
  refine Z2m ?_
  refine⟨_,rfl,q,n,u,rfl,hq.row.same s1,ru,hn,fun H2 s2=>?_⟩
  refine⟨_,rfl,?_⟩
  refine Z2j ?_
  have s12:=s1.trans s2
  refine⟨_,rfl,?_⟩
  dsimp only [Z2t,Z0w,tCB]
  refine Zs4 (hp.same s12) fun H3 t1 s3 h3=>?_
  refine⟨_,rfl,?_⟩
  dsimp only [Z2t,Z0w,tCB]
  refine Zs4 (hq.same (s12.trans s3)) fun H4 t2 s4 h4=>?_
  refine⟨by show 2<=sizeLine; decide,fun a ha=>k _ a (Z02 (s12.trans (s3.trans s4)) ((s12.trans (s3.trans s4)).free ha)) ⟨t1,t2,Z01,?_,?_⟩⟩
  ·have:=s4 _ _ h3
   rw[Z05 (Z06 this ha)]; exact this
  ·rw[Z05 (Z06 h4 ha)]; exact h4
end
def Z8g (j:Nat):List (Key×V):=(Y04 j).map fun (x:Nat)=>((Sum.inl (x:Int):Key),V.bl true)
theorem Zbg (j:Nat):Z8g (j+1)=Z8g j++[(Sum.inl (j:Int),V.bl true)]:=by
 unfold Z8g; rw[Y1j,Y0p]; rfl
theorem Zjz (j:Nat):(Z8g j).length=j:=by simp[Z8g]
theorem Z6n:∀ (j i:Nat),Z2s (Z8g j) (Sum.inl (i:Int):Key)=if i < j then some (.bl true) else none
 | 0,i=>rfl
 | j+1,i=>by
  have hn:Z2s (Z8g j) (Sum.inl (j:Int):Key)=none:=by rw[Z6n j j,if_neg (Y1i _)]
  rw[Zbg,Z7v _ _ _ _ hn]
  by_cases e:i=j
  ·subst e; rw[if_pos rfl,if_pos (Y21 _)]
  ·rw[if_neg (fun z=>e (by have:=Sum.inl.inj z; omega)),Z6n j i]
   by_cases h:i < j
   ·rw[if_pos h,if_pos (by omega)]
   ·rw[if_neg h,if_neg (by omega)]
def Zdv:Sp:=fun vs H Q _=>∃ (a:Addr) (n:Nat) (r u:List Nat),vs=[.ref a]/\Z7e H a r u/\Z4r n r u/\∀ (H':Hp) (l g:Addr),Z0d H H'->H' l=some (.lst [.ref g])->H' g=some (.lst (nv (Y04 n)))->Q (.ref l) H'
def Z7i (K:Y01):Sp:=fun vs H Q _=>∃ (p q:Addr) (n:Nat) (r u:List Nat),vs=[.ref p,.ref q]/\Zjr K H p r/\Zjr K H q u/\Z4r n r u/\∀ (H':Hp) (a:Addr),Z0d H H'->Z7e H' a r u->Q (.ref a) H'
section
variable {P:Program}{w:World}{K:Y01}{mg:Str->Option Value}{base:Heap}
theorem Z4o:Z0n ["rows","told","seen","first","group","square"] ["rows"] (Z08 Z48):=⟨rfl,rfl,rfl,by decide +kernel,rfl,by decide +kernel,by decide +kernel⟩
theorem Zhx {f fz fp:Addr}{fd fdz fdp:FuncData}(T:Bi mg)(F:Fn K mg "groups_of" Z48 ["rows"] f fd)(FZ:Fn K mg "size" Zfb ["sheet"] fz fdz)(GZ:Z13 P w K mg base CX0 1 fz fdz ["sheet"] Zjf)
  (FP:Fn K mg "paths_from" Z8t ["rows","first"] fp fdp) (GP:Z13 P w K mg base CX0 3 fp fdp ["rows","first"] Zcl):Z13 P w K mg base CX0 4 f fd ["rows"] Zdv:=by
 refine F.F.ok Z4o (fun vs H Q E h=>?_) (fun cdv A outer s H vs Q E hr h=>?_)
 ·obtain⟨a,n,r,u,rfl,_⟩:=h; rfl
 ·obtain⟨a,n,r,u,rfl,hsh,hS,k⟩:=h
  have hu:=Z83 hr
  have hr1:Z2d 1 _:=hr.mono (by decide)
  refine⟨_,Z03 (Z0c (i:=1) Z4o.nd rfl (Or.inl rfl) (Z1y Z04))
   (Z03 (Z0c (i:=2) Z4o.nd rfl (Or.inl rfl) Z2e)
   (Z03 (Z1o PassesOwn.never rfl (Z1n rfl T.range (Z00 (Z0h GZ hr1 rfl FZ.m FZ.F.kp FZ.b .nil Z0z (Z00 (pv 0) Z04)) Z04)) (Z0i (i:=3) Z4o.nd rfl (Or.inl rfl))
    (Z07 (Z1f (Zeu (Z5c hu (pv 3) (pv 2)))
     (Z03 (Z0c (i:=4) Z4o.nd rfl (Or.inl rfl) (Z0a (Z2b rfl) rfl T.sorted Z22 (Z00 (Z0h GP hr rfl FP.m FP.F.kp FP.b .nil Z0z (Z00 (pv 0) (Z00 (pv 3) Z04))) Z04)))
     (Z03 (Z1s (Z34 PySem.F.plainAttrs_list PySem.F.slot_list_append PySem.F.type_list_append Z11 (pv 1) (Z00 (pv 4) Z04)))
     (Z07 (Z1o PassesOwn.never rfl (Z1x (pv 4)) (Z0i (i:=5) Z4o.nd rfl (Or.inl rfl)) (Z07 (Z2x hu (pv 2) (pv 5) Zaf rfl)))))) Z0p)))
   (Z07 (Z0o (pv 1))))),?_⟩
  refine⟨Y0w _,fun lt hlt=>?_⟩
  intro dn hdn
  have s1:Z0d H (upd H lt (.lst [])):=Z02 (Z0d.refl H) hlt
  have Hdn:H dn=none:=s1.free hdn
  have s2:Z0d H (upd (upd H lt (.lst [])) dn (.dK [])):=Z02 s1 Hdn
  have nlt:lt≠dn:=fun e=>by rw[<-e,Z01]at hdn; cases hdn
  refine⟨_,rfl,a,r,u,rfl,hsh.same s2,(r.length:Int),rfl,by omega,by have:=hS.most; have:=hS.row.len; omega,?_⟩
  rw[Int.toNat_natCast,hS.row.len]
  refine Z2g (n:=n) (fun i σ H2=>∃ o3 o4 o5,σ=[some (.ref a),some (.ref lt),some (.ref dn),o3,o4,o5]/\Z0d H H2/\((i=0/\H2 lt=some (.lst [])/\H2 dn=some (.dK []))\/(1<=i/\∃ g,H2 lt=some (.lst [.ref g])/\H2 g=some (.lst (nv (Y04 n)))/\H2 dn=some (.dK (Z8g n))))) ?_ ?_ ?_
  ·exact⟨_,_,_,rfl,s2,.inl ⟨rfl,by rw[Z05 nlt,Z01],Z01⟩⟩
  ·rintro i σ H2 hi ⟨o3,o4,o5,rfl,e2,⟨rfl,h2t,h2n⟩ | ⟨h1i,g,h2t,h2g,h2n⟩⟩
   ·
    refine⟨_,rfl,_,rfl,dn,_,rfl,Z6k.k (k:=(Sum.inl (((0:Nat):Int)):Key)) h2n,_,rfl,?_⟩
    refine Z2m ?_
    refine⟨_,rfl,_,rfl,a,n,r,u,0,rfl,hsh.same e2,hS.row,hS.col,hS.most,hS.pos,fun H3 dp F P' e3 _ h3 hP=>?_⟩
    have rF:=hP.full hS
    refine⟨dp,F,rfl,.inr (.inr ⟨_,h3,Z9z hP.len⟩),by rw[rF.len]; have:=hS.most; omega,fun g S hg pS sS=>?_⟩
    have eS:S=Y04 n:=rF.sorted pS sS
    subst eS
    have ngt:lt≠g:=Z06 (e3 _ _ h2t) hg
    have h4t:(upd H3 g (.lst (nv (Y04 n)))) lt=some (.lst []):=by rw[Z05 ngt]; exact e3 _ _ h2t
    refine⟨_,rfl,.inl ⟨rfl,_,SqL.of h4t⟩,_,rfl,lt,_,_,rfl,rfl,h4t,by show 0 < sizeLine; decide,?_⟩
    have e23:=e2.trans e3
    have Hg:H g=none:=e23.free hg
    have ndg:dn≠g:=Z06 (e3 _ _ h2n) hg
    have f1:Z0d H (upd (upd H3 g (.lst (nv (Y04 n)))) lt (.lst ([]++[.ref g]))):=Z02 (Z02 e23 Hg) hlt
    have f2:(upd (upd H3 g (.lst (nv (Y04 n)))) lt (.lst ([]++[.ref g]))) g=some (.lst (nv (Y04 n))):=by rw[Z05 ngt.symm,Z01]
    refine⟨_,rfl,g,rfl,⟨_,SqL.of f2⟩,Z4m (K:=K) (a:=g) (xs:=nv (Y04 n)) (fun j σ H4=>∃ o5,σ=[some (.ref a),some (.ref lt),some (.ref dn),some (.int (0+((0:Nat):Int))),some (.ref g),o5]/\Z0d H H4/\H4 lt=some (.lst [.ref g])/\H4 g=some (.lst (nv (Y04 n)))/\H4 dn=some (.dK (Z8g j)))
     ⟨_,rfl,f1,Z01,f2,by rw[Z05 nlt.symm,Z05 ndg]; exact e3 _ _ h2n⟩ (fun j σ H4 _ ⟨_,_,_,_,e,_⟩=>SqL.of e) ?_ ?_⟩
    ·rintro j x σ H4 hx ⟨o5,rfl,q1,q2,q3,q4⟩
     obtain⟨y,hy,rfl⟩:=Z3e hx
     have hj:j < n:=by have:=(Y03.mp hy).1; simpa using this
     have ey:y=j:=by rw[Y1b hj]at hy; exact (Option.some.inj hy).symm
     subst ey
     refine⟨_,rfl,_,rfl,dn,_,rfl,Zc3.k (k:=(Sum.inl (y:Int):Key)) q4 (by rw[Zjz]; exact Z0j (by have:=hS.most; omega)),?_⟩
     refine⟨_,rfl,Z02 q1 Hdn,by rw[Z05 nlt]; exact q2,by rw[Z05 ndg.symm]; exact q3,?_⟩
     rw[Z01,Z28 _ (by rw[Z6n,if_neg (Y1i _)]),Zbg]
    ·rintro σ H4 ⟨o5,rfl,q1,q2,q3,q4⟩
     rw[Z0k,Y0d]at q4
     exact⟨_,_,_,rfl,q1,.inr ⟨Y06 _,g,q2,q3,q4⟩⟩
   ·refine⟨_,rfl,_,rfl,dn,_,rfl,Z6k.k (k:=(Sum.inl (0+(i:Int)):Key)) h2n,_,rfl,?_⟩
    have ev:Z2s (Z8g n) (Sum.inl (0+(i:Int)):Key)=some (.bl true):=by
     rw[Int.zero_add,Z6n,if_pos hi]
    rw[ev]
    refine Z2j ?_
    exact⟨_,_,_,rfl,e2,.inr ⟨by omega,g,h2t,h2g,h2n⟩⟩
  ·rintro σ H2 ⟨o3,o4,o5,rfl,e2,⟨e0,_⟩ | ⟨h1i,g,h2t,h2g,h2n⟩⟩
   ·have:=hS.pos; omega
   ·exact⟨_,rfl,k H2 lt g e2 h2t h2g⟩
theorem Z89:Z0n ["right","up","sheet","parts"] ["right","up"] (Z08 Z3c):=⟨rfl,rfl,rfl,by decide +kernel,rfl,by decide +kernel,by decide +kernel⟩
theorem Zfj {f fc fg:Addr}{fd fdc fdg:FuncData}(T:Bi mg)(F:Fn K mg "sheet_of" Z3c ["right","up"] f fd)(FC:Fn K mg "checked_rows" Z37 ["right","up"] fc fdc)(GC:Z13 P w K mg base CX0 4 fc fdc ["right","up"] (Zb3 K))
  (FG:Fn K mg "groups_of" Z48 ["rows"] fg fdg) (GG:Z13 P w K mg base CX0 4 fg fdg ["rows"] Zdv):Z13 P w K mg base CX0 5 f fd ["right","up"] (Z7i K):=by
 refine F.F.ok Z89 (fun vs H Q E h=>?_) (fun cdv A outer s H vs Q E hr h=>?_)
 ·obtain⟨p,q,n,r,u,rfl,_⟩:=h; rfl
 ·obtain⟨p,q,n,r,u,rfl,hp,hq,hS,k⟩:=h
  refine⟨_,Z03 (Z0c (i:=2) Z89.nd rfl (Or.inl rfl) (Z0h GC hr rfl FC.m FC.F.kp FC.b .nil Z0z (Z00 (pv 0) (Z00 (pv 1) Z04))))
   (Z03 (Z0c (i:=3) Z89.nd rfl (Or.inl rfl) (Z0h GG hr rfl FG.m FG.F.kp FG.b .nil Z0z (Z00 (pv 2) Z04)))
   (Z03 (Z1f (Z0m Zn7 (Z0a Z0b (by rfl) T.len PySem.boot_len (Z00 (pv 3) Z04)) Z09 (Z0r _)) Z4d Z0p)
   (Z07 (Z0o (pv 2))))),?_⟩
  refine⟨_,rfl,_,rfl,p,q,n,r,u,rfl,hp,hq,hS.row,hS.col,hS.pos,hS.most,fun H1 a s1 ha=>?_⟩
  refine⟨_,rfl,a,n,r,u,rfl,ha,hS,fun H2 l g s2 hl hg=>?_⟩
  refine⟨_,rfl,l,_,rfl,.inl (SqL.of hl),_,_,rfl,rfl,_,rfl,?_⟩
  refine Z2j ?_
  exact⟨_,rfl,k H2 a (s1.trans s2) (ha.same s2)⟩
end
end K1
namespace Sq
def it (w:List Nat)(x:Nat):Nat->Nat
 | 0=>x
 | i+1=>nx w (it w x i)
structure Cyc (w:List Nat)(x:Nat)(M:List Nat):Prop where
 pos:1<=M.length
 is:M=(Y04 M.length).map (it w x)
 back:it w x M.length=x
 new:∀ i,1<=i->i < M.length->it w x i≠x
theorem Cyc.unique {w:List Nat}{x:Nat}{M M':List Nat}(h:Cyc w x M)(h':Cyc w x M'):M=M':=by
 have e:M.length=M'.length:=by
  rcases Nat.lt_trichotomy M.length M'.length with c | c | c
  ·exact absurd h.back (h'.new _ h.pos c)
  ·exact c
  ·exact absurd h'.back (h.new _ h'.pos c)
 rw[h.is,h'.is,e]
section
variable {n:Nat}{w:List Nat}
theorem Zca (rw':Row n w){x:Nat}(hx:x < n):∀ i,it w x i < n
 | 0=>hx
 | i+1=>rw'.nlt (Zca rw' hx i)
theorem Zbb (rw':Row n w){x:Nat}(hx:x < n):∀ i j,it w x (i+j)=it w x i->it w x j=x
 | 0,j,h=>by simpa [it] using h
 | i+1,j,h=>by
  have e:it w x (i+1+j)=nx w (it w x (i+j)):=by rw[show i+1+j=(i+j)+1 from by omega]; rfl
  rw[e]at h
  exact Zbb rw' hx i j (rw'.inj (Zca rw' hx _) (Zca rw' hx _) h)
theorem Zev (rw':Row n w){x k:Nat}(hx:x < n)(h:∀ i,1<=i->i < k->it w x i≠x):((Y04 k).map (it w x)).Nodup:=by
 refine Y1w.mpr (List.Pairwise.imp_of_mem (R:=fun a b=>a < b) (fun {a b} ha hb hab e=>?_) List.pairwise_lt_range)
 have hb:=Y08.mp hb
 have:=Zbb rw' hx a (b - a) (by rw[show a+(b - a)=b from by omega]; exact e.symm)
 exact h (b - a) (by omega) (by omega) this
theorem Zmj (rw':Row n w){x k:Nat}(hx:x < n)(h:∀ i,1<=i->i < k->it w x i≠x):k<=n:=by
 have:=Z16 _ (Y04 n) (Zev rw' hx h) fun y hy=>by
  obtain⟨i,_,rfl⟩:=Y0f.mp hy
  exact Y08.mpr (Zca rw' hx i)
 simpa using this
theorem Cyc.nd (rw':Row n w){x:Nat}(hx:x < n){M:List Nat}(h:Cyc w x M):M.Nodup:=by
 rw[h.is]; exact Zev rw' hx h.new
theorem Cyc.get {x:Nat}{M:List Nat}(h:Cyc w x M){i:Nat}(hi:i < M.length):M[i]?=some (it w x i):=by
 rw[h.is]; simp[hi]
theorem Cyc.lt (rw':Row n w){x:Nat}(hx:x < n){M:List Nat}(h:Cyc w x M):∀ y∈M,y < n:=fun y hy=>by
 rw[h.is]at hy
 obtain⟨i,_,rfl⟩:=Y0f.mp hy
 exact Zca rw' hx i
theorem Cyc.next {x:Nat}{M:List Nat}(h:Cyc w x M){i y:Nat}(hi:M[i]?=some y):M[(i+1) % M.length]?=some (nx w y):=by
 have hl:=(Y03.mp hi).1
 have e:y=it w x i:=by have:=h.get hl; rw[hi]at this; exact Option.some.inj this
 subst e
 rcases Y0z (i+1) M.length with c | c
 ·rw[Nat.mod_eq_of_lt c,h.get c]; rfl
 ·have:i+1=M.length:=by omega
  rw[this,Nat.mod_self,h.get h.pos]
  have hb:=h.back
  rw[<-this]at hb
  show some x=some (nx w (it w x i))
  rw[show nx w (it w x i)=it w x (i+1) from rfl,hb]
theorem Zj1 (x:Nat)(i:Nat):∀ j,it w x (i+j)=it w (it w x i) j
 | 0=>rfl
 | j+1=>by show nx w (it w x (i+j))=nx w (it w (it w x i) j); rw[Zj1 x i j]
end
end Sq
namespace K1
open PySem L2 Sq
def Zgq (K:Y01):Sp:=fun vs H Q _=>∃ (p:Addr) (n:Nat) (r:List Nat) (x:Nat),vs=[.ref p,.int (x:Int)]/\Z44 K H p r/\Row n r/\x < n/\n<=36/\
 ∀ (H':Hp) (l:Addr) (M:List Nat),Z0d H H'->H l=none->H' l=some (.lst (nv M))->Cyc r x M->Q (.ref l) H'
def muL (l:Addr)(H:Hp):Nat:=match H l with
 | some (.lst xs)=>100 - xs.length
 | _=>0
theorem Zlt {l:Addr}{H:Hp}{xs:List V}(h:H l=some (.lst xs)):muL l H=100 - xs.length:=by unfold muL; rw[h]
theorem Zpg {M:List Nat}{k y:Nat}(hk:M.length=k+1)(h:M[k]?=some y):atI (nv M) (-1)=some (.int (y:Int)):=by
 unfold atI ixN
 rw[if_neg (by decide),if_pos (by rw[Z0k]; omega)]
 show (nv M)[((-1:Int)+((nv M).length:Int)).toNat]?=_
 rw[Z0k,hk,show ((-1:Int)+((k+1:Nat):Int)).toNat=k from by omega]
 exact Z14 h
theorem Zk2 {K:Y01}{x y:V}{H:Hp}{Q Q':VK}(h:∀ v H1,Q v H1->Q' v H1)(q:rIx K x y H Q):rIx K x y H Q':=by
 rcases q with ⟨a,xs,i,v,q1,q2,q3,q4,q⟩ | ⟨a,xs,i,v,q1,q2,q3,q4,q⟩ | ⟨z,i,v,q1,q2,q3,q4,q⟩
 ·exact .inl ⟨a,xs,i,v,q1,q2,q3,q4,h _ _ q⟩
 ·exact .inr (.inl ⟨a,xs,i,v,q1,q2,q3,q4,h _ _ q⟩)
 ·exact .inr (.inr ⟨z,i,v,q1,q2,q3,q4,h _ _ q⟩)
section
variable {P:Program}{w:World}{K:Y01}{mg:Str->Option Value}{base:Heap}
abbrev nCy:List Str:=["row","first","met"]
theorem scCy:Z0n nCy ["row","first"] (Z08 Z3k):=⟨rfl,rfl,rfl,by decide +kernel,rfl,by decide +kernel,by decide +kernel⟩
theorem Zpd {f:Addr}{fd:FuncData}(F:Fn K mg "cycle_from" Z3k ["row","first"] f fd):Z13 P w K mg base CX0 1 f fd ["row","first"] (Zgq K):=by
 refine F.F.ok scCy (fun vs H Q E h=>?_) (fun cdv A outer s H vs Q E hr h=>?_)
 ·obtain⟨p,n,r,x,rfl,_⟩:=h; rfl
 ·obtain⟨p,n,r,x,rfl,hp,rr,hx,hn,k⟩:=h
  refine⟨_,Z03 (Z0c (i:=2) scCy.nd rfl (Or.inl rfl) (Z1y (Z00 (pv 1) Z04)))
   (Z03 (Z4h PassesOwn.never (Z0m Z9v (Z0t Z6c (pv 0) (Z0t Z0v (pv 2) (Zqk Zlv Z09) (fun _ _=>rfl)) (fun _ _=>rfl)) (pv 1) (Z0r _))
    (Z07 (Z1s (Z34 PySem.F.plainAttrs_list PySem.F.slot_list_append PySem.F.type_list_append Z11 (pv 2) (Z00 (Z0t Z6c (pv 0) (Z0t Z0v (pv 2) (Zqk Zlv Z09) (fun _ _=>rfl)) (fun _ _=>rfl)) Z04)))))
   (Z07 (Z0o (pv 2)))),?_⟩
  refine⟨_,rfl,(by show 1<=sizeLine; decide),fun l hl=>?_⟩
  refine Z5m (fun σ H2=>∃ k,σ=[some (.ref p),some (.int (x:Int)),some (.ref l)]/\Z0d H H2/\H2 l=some (.lst (nv ((Y04 (k+1)).map (it r x))))/\∀ i,1<=i->i < k+1->it r x i≠x) (fun _ H=>muL l H) ?_ ?_ ?_
  ·exact⟨0,rfl,Z02 (Z0d.refl H) hl,Z01,fun i h1 h2=>absurd h2 (by omega)⟩
  ·rintro σ H2 ⟨kk,rfl,s2,h2,new⟩
   have hlen:=Zmj rr hx new
   have hM:((Y04 (kk+1)).map (it r x)).length=kk+1:=by simp
   have hlast:=Zpg hM (show ((Y04 (kk+1)).map (it r x))[kk]?=some (it r x kk) by simp)
   have hlt:=Zca rr hx kk
   refine⟨_,rfl,_,rfl,_,rfl,l,_,_,_,rfl,rfl,SqL.of h2,hlast,?_⟩
   refine Zd1 (hp.same s2) rr hlt ?_
   refine⟨_,rfl,rfl,_,rfl,?_⟩
   by_cases e:nx r (it r x kk)=x
   ·refine Zn5 (by rw[e]) ?_
    refine⟨_,rfl,k H2 l _ s2 hl h2 ⟨by rw[hM]; omega,by rw[hM],by rw[hM]; exact e,by rw[hM]; exact new⟩⟩
   ·rw[decide_eq_false (by intro z; have:=V.int.inj z; exact e (by omega))]
    refine Z2m ?_
    refine⟨_,rfl,.inl ⟨rfl,_,SqL.of h2⟩,_,rfl,_,rfl,_,rfl,l,_,_,_,rfl,rfl,SqL.of h2,hlast,?_⟩
    refine Zd1 (hp.same s2) rr hlt ?_
    refine⟨l,_,_,rfl,rfl,h2,by rw[Z0k,hM]; exact Z0j (by omega),?_⟩
    have e2:nv ((Y04 (kk+1)).map (it r x))++[.int ((nx r (it r x kk):Nat):Int)]=nv ((Y04 (kk+1+1)).map (it r x)):=by
     rw[Z50,Y1j (n:=kk+1),Y0p]; rfl
    rw[e2]
    refine⟨⟨kk+1,rfl,Z02 s2 hl,Z01,fun i h1 h2'=>?_⟩,?_⟩
    ·rcases Y0z i (kk+1) with c | c
     ·exact new i h1 c
     ·have:i=kk+1:=by omega
      subst this; exact e
    ·rw[Zlt Z01,Zlt h2,Z0k,Z0k,hM]
     simp; omega
  ·rintro σ H Q Q' h h2
   obtain⟨v,e1,v1,e2,v2,e3,q⟩:=h2
   refine⟨v,e1,v1,e2,v2,e3,?_⟩
   obtain⟨a,xs,i,v,q1,q2,q3,q4,q⟩:=q
   refine⟨a,xs,i,v,q1,q2,q3,q4,?_⟩
   exact Zk2 (fun x H1 ⟨v',e,q5,w',e',q6⟩=>⟨v',e,q5,w',e',h _ _ q6⟩) q
end
end K1
namespace Sq
def per (n:Nat)(w:List Nat)(x:Nat):Nat:=((Y04 n).find? fun k=>decide (it w x (k+1)=x)).getD 0+1
def cyc (n:Nat)(w:List Nat)(x:Nat):List Nat:=(Y04 (per n w x)).map (it w x)
def Z5t (n:Nat)(w:List Nat)(x:Nat):Bool:=decide (∀ y∈cyc n w x,x<=y)
def Z0g (n:Nat)(w:List Nat):List (List Nat):=((Y04 n).filter (Z5t n w)).map (cyc n w)
section
variable {n:Nat}{w:List Nat}
theorem Zma (rw':Row n w){x:Nat}(hx:x < n):it w x (per n w x)=x/\∀ i,1<=i->i < per n w x->it w x i≠x:=by
 unfold per
 cases h:(Y04 n).find? fun k=>decide (it w x (k+1)=x) with
 | none=>
  have:=List.find?_eq_none.mp h
  have:=Zmj (k:=n+1) rw' hx fun i h1 h2 e=>by
   refine this (i - 1) (Y08.mpr (by lia)) ?_
   rw[show i - 1+1=i from by lia]; exact decide_eq_true e
  lia
 | some k=>
  obtain⟨h1,as,bs,h2,h3⟩:=List.find?_eq_some_iff_append.mp h
  refine⟨of_decide_eq_true h1,fun i hi hlt e=>?_⟩
  have hlt:i < k+1:=hlt
  have hk:as.length=k:=by
   have hl:as.length < n:=by
    have:=congrArg List.length h2
    simp at this; lia
   have e1:(Y04 n)[as.length]?=some k:=by rw[h2]; simp
   rw[Y1b hl]at e1
   exact Option.some.inj e1
  have hi':i - 1 < as.length:=by lia
  have hl:as.length<=n:=by
   have:=congrArg List.length h2
   simp at this; lia
  have e2:as[i - 1]?=some (i - 1):=by
   have:(Y04 n)[i - 1]?=as[i - 1]?:=by rw[h2,Y0t hi']
   rw[<-this,Y1b (by lia)]
  have:=h3 (i - 1) (Y0a e2)
  rw[show i - 1+1=i from by lia,e]at this
  simp at this
theorem Z6r (n:Nat)(w:List Nat)(x:Nat):(cyc n w x).length=per n w x:=by simp[cyc]
theorem Z4v (rw':Row n w){x:Nat}(hx:x < n):Cyc w x (cyc n w x):=by
 obtain⟨h1,h2⟩:=Zma rw' hx
 refine⟨by rw[Z6r]; unfold per; lia,by rw[Z6r]; rfl,by rw[Z6r]; exact h1,by rw[Z6r]; exact h2⟩
theorem Cyc.eq (rw':Row n w){x:Nat}(hx:x < n){M:List Nat}(h:Cyc w x M):M=cyc n w x:=h.unique (Z4v rw' hx)
theorem Z4i (rw':Row n w){x:Nat}(hx:x < n):(cyc n w x)[0]?=some x:=(Z4v rw' hx).get (Z4v rw' hx).pos
theorem Zhs (rw':Row n w){x:Nat}(hx:x < n):∀ i,it w x i∈cyc n w x
 | 0=>Y0a (Z4i rw' hx)
 | i+1=>by
  obtain⟨j,hj,e⟩:=Y0x.mp (Zhs rw' hx i)
  have:=(Z4v rw' hx).next (i:=j) (y:=it w x i) (by rw[Y00 hj,e])
  exact Y0a this
theorem Ziy (rw':Row n w){x y:Nat}(h:y∈cyc n w x):∃ i,i < per n w x/\y=it w x i:=by
 obtain⟨i,hi,rfl⟩:=Y0f.mp h
 exact⟨i,Y08.mp hi,rfl⟩
theorem Z68 (rw':Row n w){x y:Nat}(hx:x < n)(h:y∈cyc n w x):y < n:=(Z4v rw' hx).lt rw' hx y h
theorem Zo2 (rw':Row n w){x:Nat}(hx:x < n){i:Nat}(hi:i<=per n w x):it w (it w x i) (per n w x - i)=x:=by
 rw[<-Zj1,show i+(per n w x - i)=per n w x from by lia]
 exact (Zma rw' hx).1
theorem Z95 (rw':Row n w){x y:Nat}(hx:x < n)(h:y∈cyc n w x):x∈cyc n w y:=by
 obtain⟨i,hi,rfl⟩:=Ziy rw' h
 have:=Zhs rw' (Zca rw' hx i) (per n w x - i)
 rwa [Zo2 rw' hx (Y1e hi)]at this
theorem Z87 (rw':Row n w){x y z:Nat}(hx:x < n)(h:y∈cyc n w x)(h':z∈cyc n w y):z∈cyc n w x:=by
 obtain⟨i,_,rfl⟩:=Ziy rw' h
 obtain⟨j,_,rfl⟩:=Ziy rw' h'
 rw[<-Zj1]
 exact Zhs rw' hx _
theorem Zei:∀ (l:List Nat),l≠[]->∃ m∈l,∀ y∈l,m<=y
 | [],h=>absurd rfl h
 | [a],_=>⟨a,by simp,by simp⟩
 | a :: b :: l,_=>by
  obtain⟨m,hm,h⟩:=Zei (b :: l) (by simp)
  rcases Y0z m a with c | c
  ·refine⟨m,Y0r _ hm,fun y hy=>?_⟩
   rcases Y0j.mp hy with e | hy
   ·rw[e]; lia
   ·exact h y hy
  ·refine⟨a,by simp,fun y hy=>?_⟩
   rcases Y0j.mp hy with e | hy
   ·rw[e]; lia
   ·have:=h y hy; lia
theorem Z4n {x:Nat}:Z5t n w x=true↔∀ y∈cyc n w x,x<=y:=decide_eq_true_iff
theorem Zdx (rw':Row n w){x:Nat}(hx:x < n):∃ l,l < n/\Z5t n w l=true/\x∈cyc n w l:=by
 obtain⟨m,hm,h⟩:=Zei (cyc n w x) (fun e=>by have:=Z4i rw' hx; rw[e]at this; simp at this)
 have hmn:=Z68 rw' hx hm
 exact⟨m,hmn,Z4n.mpr fun y hy=>h y (Z87 rw' hx hm hy),Z95 rw' hx hm⟩
theorem Z7d (rw':Row n w){x l l':Nat}(hl:l < n)(hl':l' < n)(h1:Z5t n w l=true)(h2:Z5t n w l'=true)(h:x∈cyc n w l)(h':x∈cyc n w l'):l=l':=by
 have a:=Z4n.mp h1 l' (Z87 rw' hl h (Z95 rw' hl' h'))
 have b:=Z4n.mp h2 l (Z87 rw' hl' h' (Z95 rw' hl h))
 lia
theorem Z1k (rw':Row n w):(Z0g n w).flatten.Perm (Y04 n):=by
 refine (Y1c ?_ Y0v).mpr fun x=>?_
 ·refine List.pairwise_flatten.mpr ⟨fun l hl=>?_,?_⟩
  ·obtain⟨x,hx,rfl⟩:=Y0f.mp hl
   have hx:=Y08.mp (Y14.mp hx).1
   exact (Z4v rw' hx).nd rw' hx
  ·refine Y1w.mpr ?_
   have:((Y04 n).filter (Z5t n w)).Pairwise (· < ·):=List.Pairwise.filter _ List.pairwise_lt_range
   refine this.imp_of_mem fun {a b} ha hb hab x hx y hy e=>?_
   obtain⟨a1,a2⟩:=Y14.mp ha
   obtain⟨b1,b2⟩:=Y14.mp hb
   subst e
   have:=Z7d rw' (Y08.mp a1) (Y08.mp b1) a2 b2 hx hy
   lia
 ·constructor
  ·intro h
   obtain⟨l,hl,hx⟩:=Y2b.mp h
   obtain⟨a,ha,rfl⟩:=Y0f.mp hl
   exact Y08.mpr (Z68 rw' (Y08.mp (Y14.mp ha).1) hx)
  ·intro h
   obtain⟨l,h1,h2,h3⟩:=Zdx rw' (Y08.mp h)
   exact Y2b.mpr ⟨_,Y0f.mpr ⟨l,Y14.mpr ⟨Y08.mpr h1,h2⟩,rfl⟩,h3⟩
end
end Sq
namespace L2
open PySem PySem.Spec PyProof.Rows
theorem Zj4 (val:Nat->Int):∀ n:Nat,argBest (fun i j=>decide (val i < val j)) n<=n/\∀ j,j<=n->val (argBest (fun i j=>decide (val i < val j)) n)<=val j
 | 0=>⟨Y06 _,fun j hj=>by (have:j=0:=(by omega); subst this; exact Int.le_refl _)⟩
 | n+1=>by
  obtain⟨h1,h2⟩:=Zj4 val n
  show (if decide (val (n+1) < val (argBest (fun i j=>decide (val i < val j)) n))=true then n+1 else argBest (fun i j=>decide (val i < val j)) n)<=n+1/\_
  show _/\∀ j,j<=n+1->val (if decide (val (n+1) < val (argBest (fun i j=>decide (val i < val j)) n))=true then n+1 else argBest (fun i j=>decide (val i < val j)) n)<=val j
  by_cases c:val (n+1) < val (argBest (fun i j=>decide (val i < val j)) n)
  ·rw[if_pos (decide_eq_true c)]
   refine⟨Y06 _,fun j hj=>?_⟩
   rcases Y0z j (n+1) with d | d
   ·have:=h2 j (by omega); omega
   ·have:j=n+1:=by omega
    subst this; exact Int.le_refl _
  ·rw[if_neg (by rw[decide_eq_true_iff]; exact c)]
   refine⟨by omega,fun j hj=>?_⟩
   rcases Y0z j (n+1) with d | d
   ·exact h2 j (by omega)
   ·have:j=n+1:=by omega
    subst this; omega
section
variable {X:Cx}
theorem Zk4:bootBuiltins "min"=some (.builtin "min"):=by decide +kernel
theorem Ziq (hc:X.calm=true):Z33 X (.builtin "min") (fun xs H Q=>∃ (p:Addr) (ns:List Int),xs=[.ref p]/\SqL X.K H p (ns.map V.int)/\ns≠[]/\∀ m,m∈ns->(∀ y∈ns,m<=y)->Q (.int m) H):=by
 intro pins s σ H xs us Q I r h
 obtain⟨p,ns,rfl,hq,hne,q⟩:=h
 obtain⟨u,rfl,ru⟩:=Z3l r
 obtain rfl:u=Value.ref p:=ru
 obtain⟨its,rv,pl,hz⟩:=I.list hq
 have hL:=pl.isList
 have hlt:p < s.heap.objs.size:=by obtain⟨o,ho,_⟩:=id hL; exact Y0c ho
 have hlen:its.length=ns.length:=by rw[<-rv.length]; simp
 have hpos:0 < ns.length:=List.length_pos_iff.mpr hne
 have hval:∀ i v,its.toArray[i]?=some v->∃ t,v=Value.int (ns.getD i 0) t:=fun i v hP=>by
  have hv:its[i]?=some v:=by simpa using hP
  have hi:i < ns.length:=by rw[<-hlen]; exact (Y03.mp hv).1
  have hb:(ns.map V.int)[i]?=some (.int ns[i]):=by simp[hi]
  obtain⟨u,hu,t,rfl⟩:=rv.get hb
  rw[hv]at hu; cases hu
  exact⟨t,by simp[Y05,hi]⟩
 refine call_min_walk (wpAny_pyIter_list hL ⟨s.heap.objs.size,_,_,its.toArray.size,_,_,_,rfl,Walks.list (A:=X.A.in1) (I.ok.hd hc) s.heap.objs.size p (Y0l hlt) its.toArray,⟨⟨_,Y0b _ rfl,rfl,rfl⟩,hL.push _⟩,fun b hb=>?_,by rw[Y0i]; omega,CmpOf.ints_lt (fun i=>ns.getD i 0) hval,fun v h' tk hP hk=>?_⟩)
 ·rw[Y1s]
  simp at hb
  rcases hb with rfl | rfl
  ·exact Y21 _
  ·exact Y13 hlt
 ·obtain⟨t,rfl⟩:=hval _ v hP
  obtain⟨b1,b2⟩:=Zj4 (fun i=>ns.getD i 0) (its.toArray.size - 1)
  rw[Y0i,hlen]at b1 b2 hP ⊢
  generalize argBest (fun i j=>decide (ns.getD i 0 < ns.getD j 0)) (ns.length - 1)=k at b1 b2 hP ⊢
  have hk':k < ns.length:=by omega
  refine⟨.int (ns.getD k 0),H,?_,⟨t,rfl⟩,q _ ?_ fun y hy=>?_⟩
  ·refine I.kept fun b o e=>hk b o (fun hb=>?_) (Y02 _ e)
   have:=Y0c e
   simp at hb
   rw[hb]at this
   exact Y1i _ this
  ·simp[Y05,hk']
  ·obtain⟨j,hj,rfl⟩:=Y0x.mp hy
   have:=b2 j (by omega)
   simpa [Y05,hj] using this
end
end L2
namespace K1
open PySem L2 Sq
def Z67 (H:Hp):List Addr->List (List Nat)->Prop
 | [],[]=>True
 | a :: as,M :: Ms=>H a=some (.lst (nv M))/\Z67 H as Ms
 | _,_=>False
theorem Z67.same {H H':Hp}(e:Z0d H H'):∀ {as:List Addr} {Ms:List (List Nat)},Z67 H as Ms->Z67 H' as Ms
 | [],[],_=>trivial
 | _ :: _,_ :: _,⟨h1,h2⟩=>⟨e _ _ h1,Z67.same e h2⟩
 | [],_ :: _,h=>h.elim
 | _ :: _,[],h=>h.elim
theorem Z67.len {H:Hp}:∀ {as:List Addr} {Ms:List (List Nat)},Z67 H as Ms->as.length=Ms.length
 | [],[],_=>rfl
 | _ :: as,_ :: Ms,⟨_,h2⟩=>by simp[Z67.len h2]
 | [],_ :: _,h=>h.elim
 | _ :: _,[],h=>h.elim
theorem Z67.get {H:Hp}:∀ {as:List Addr} {Ms:List (List Nat)},Z67 H as Ms->∀ {i:Nat} {a:Addr},as[i]?=some a->∃ M,Ms[i]?=some M/\H a=some (.lst (nv M))
 | [],[],_,i,a,h=>by simp at h
 | b :: as,M :: Ms,⟨h1,h2⟩,0,a,h=>by simp at h; subst h; exact⟨M,rfl,h1⟩
 | b :: as,M :: Ms,⟨h1,h2⟩,i+1,a,h=>by
  obtain⟨M',e1,e2⟩:=Z67.get h2 (i:=i) (a:=a) (by simpa using h)
  exact⟨M',by simpa using e1,e2⟩
 | [],_ :: _,h,_,_,_=>h.elim
 | _ :: _,[],h,_,_,_=>h.elim
theorem Z67.snoc {H:Hp}:∀ {as:List Addr} {Ms:List (List Nat)} {a:Addr} {M:List Nat},Z67 H as Ms->H a=some (.lst (nv M))->Z67 H (as++[a]) (Ms++[M])
 | [],[],_,_,_,h=>⟨h,trivial⟩
 | _ :: _,_ :: _,_,_,⟨h1,h2⟩,h=>⟨h1,Z67.snoc h2 h⟩
 | [],_ :: _,_,_,h,_=>h.elim
 | _ :: _,[],_,_,h,_=>h.elim
theorem Z67.updN {H:Hp}{d:Addr}{o o':HO}(hd:H d=some o'):∀ {as:List Addr} {Ms:List (List Nat)},Z67 H as Ms->(∀ a∈as,a≠d)->Z67 (upd H d o) as Ms
 | [],[],_,_=>trivial
 | a :: _,_ :: _,⟨h1,h2⟩,hn=>⟨by rw[Z05 (hn a (by simp))]; exact h1,Z67.updN hd h2 fun b hb=>hn b (by simp[hb])⟩
 | [],_ :: _,h,_=>h.elim
 | _ :: _,[],h,_=>h.elim
def rv (as:List Addr):List V:=as.map V.ref
theorem Zg6 (as:List Addr)(a:Addr):rv as++[.ref a]=rv (as++[a]):=by simp[rv]
theorem Zel (as:List Addr):(rv as).length=as.length:=by simp[rv]
theorem Zlz {as:List Addr}{i:Nat}{a:Addr}(h:as[i]?=some a):(rv as)[i]?=some (.ref a):=by simp[rv,h]
theorem Zqd (M:List Nat):nv M=(M.map fun (x:Nat)=>(x:Int)).map V.int:=by simp[nv]
def Zea (K:Y01):Sp:=fun vs H Q _=>∃ (p:Addr) (n:Nat) (r:List Nat),vs=[.ref p]/\Z44 K H p r/\Row n r/\n<=36/\
 ∀ (H':Hp) (l:Addr) (as:List Addr),Z0d H H'->H l=none->H' l=some (.lst (rv as))->(∀ a∈as,H a=none)->Z67 H' as (Z0g n r)->Q (.ref l) H'
theorem Ziw {n i:Nat}(hi:i < n):(Y04 n)[i]?=some i:=Y1b hi
section
variable {P:Program}{w:World}{K:Y01}{mg:Str->Option Value}{base:Heap}
abbrev nCs:List Str:=["row","found"]
theorem scCs:Z0n nCs ["row"] (Z08 Z4z):=⟨rfl,rfl,rfl,by decide +kernel,rfl,by decide +kernel,by decide +kernel⟩
theorem Ztg:(["first","row"]:List Str).Nodup:=by decide +kernel
theorem Zt8:(["cycle"]:List Str).Nodup:=by decide +kernel
theorem Zie {f fc:Addr}{fd fdc:FuncData}(T:Bi mg)(Tm:mg "min"=none)(F:Fn K mg "cycles" Z4z ["row"] f fd)(FC:Fn K mg "cycle_from" Z3k ["row","first"] fc fdc)(GC:Z13 P w K mg base CX0 1 fc fdc ["row","first"] (Zgq K)) :
  Z13 P w K mg base CX0 2 f fd ["row"] (Zea K):=by
 refine F.F.ok scCs (fun vs H Q E h=>?_) (fun cdv A outer s H vs Q E hr h=>?_)
 ·obtain⟨p,n,r,rfl,_⟩:=h; rfl
 ·obtain⟨p,n,r,rfl,hp,rr,hn,k⟩:=h
  refine⟨_,Z03 (Z7q (j:=1) (N:=nCs) (names:=(Z08 Z4z).names) (N':=["first","row"]) (k:=1) (pull:=[0]) (te:=Z2p (Zgq K) [] E0 (Z0w (Z1w 1) (Z0w (Z1w 0) Z2t))) rfl scCs.nd rfl rfl
     ⟨by rfl,by decide +kernel,by decide +kernel,by rfl,by decide +kernel,by decide +kernel⟩ rfl rfl (Z1n rfl T.range (Z00 (Z0a Z0b rfl T.len PySem.boot_len (Z00 (pv 0) Z04)) Z04)) (fun _ _ _ _ _ _=>Z0i (i:=0) Ztg rfl (Or.inl rfl))
     (fun _ _ _ _ _ _=>Z0h GC hr rfl FC.m FC.F.kp FC.b .nil Z0z (Z00 (pv 1) (Z00 (pv 0) Z04))))
   (Z07 (Z0o (Zih (N:=nCs) (names:=(Z08 Z4z).names) (N':=["cycle"]) (k:=1) (pull:=[]) (tt:=Znd (tOp rEq (tOp (Zop K) (Z1w 0) (tC (.int 0))) (tCB (fun xs H Q=>∃ (p:Addr) (ns:List Int),xs=[.ref p]/\SqL K H p (ns.map V.int)/\ns≠[]/\∀ m,m∈ns->(∀ y∈ns,m<=y)->Q (.int m) H) (Z0w (Z1w 0) Z2t)))) (te:=Z1w 0) rfl
     ⟨by rfl,by decide +kernel,by decide +kernel,by rfl,by decide +kernel,by decide +kernel⟩ rfl rfl (Z1x (pv 1)) (fun _ _ _ _ _ _=>Z0i (i:=0) Zt8 rfl (Or.inl rfl))
     (fun _ _ _ _ _ _=>Z0m Z3j (Z0t Z0v (pv 0) Z09 (fun _ _=>rfl)) (Z0a (Ziq rfl) rfl Tm Zk4 (Z00 (pv 0) Z04)) (Z0r _))
     (fun _ _ _ _ _ _=>pv 0)))),?_⟩
  refine⟨_,rfl,p,_,rfl,hp,(n:Int),by rw[Z0k,rr.len],by omega,by omega,fun d hd=>?_⟩
  rw[Int.toNat_natCast]
  show ∃ W:Nat->Nat->St->Hp->Prop,(∃ m,W 0 m [none,some (.ref p)] (upd H d (.lst [])))/\_
  refine Zd7 (J:=Itr 0 n) (Q:=fun d H'=>Z25 1 (.ref d) [some (.ref p),none] H' _) n (fun i xs σ H3=>∃ o as,σ=[o,some (.ref p)]/\Z0d H H3/\xs=rv as/\(∀ a∈as,H a=none/\a≠d)/\Z67 H3 as ((Y04 i).map (cyc n r))) ⟨_,[],rfl,Z02 (Z0d.refl _) hd,rfl,by simp,trivial⟩ ?_ ?_
  ·rintro i xs σ H3 hi ⟨o,as,rfl,s3,rfl,fr,hL⟩ hd3
   refine⟨hi,fun x H4 ⟨e1,e2⟩=>?_⟩
   subst e1 e2
   rw[show (0:Int)+(i:Int)=(i:Int) from by omega]
   refine⟨_,rfl,_,rfl,p,n,r,i,rfl,hp.same s3,rr,hi,hn,fun H5 l M s5 f5 hl hM=>?_⟩
   have eM:=hM.eq rr hi
   subst eM
   have hlen:=hL.len
   rw[Y09,Y0d]at hlen
   refine Zk8 hi (s5 _ _ hd3) (by rw[Zel]; omega) ⟨_,as++[l],rfl,Z02 (s3.trans s5) hd,Zg6 _ _,fun a ha=>?_,?_⟩
   ·rcases Y0n.mp ha with ha | ha
    ·exact fr a ha
    ·rw[Y0g.mp ha]
     exact⟨s3.free f5,fun e=>by rw[e,hd3]at f5; cases f5⟩
   ·have nd:∀ {a:Addr} {o:HO},H5 a=some o->a≠d->(upd H5 d (.lst (rv as++[.ref l]))) a=some o:=fun h hne=>by rw[Z05 hne]; exact h
    rw[Y1j,Y0p]
    have hld:l≠d:=fun e=>by rw[e,hd3]at f5; cases f5
    refine Z67.snoc ?_ (nd hl hld)
    have h5:=hL.same s5
    exact h5.updN (s5 _ _ hd3) fun a ha=>(fr a ha).2
  ·rintro xs σ H3 ⟨o,as,rfl,s3,rfl,fr,hL⟩ hd3
   refine⟨Y06 _,?_⟩
   have hlen:=hL.len
   rw[Y09,Y0d]at hlen
   refine⟨_,rfl,d,rfl,⟨_,SqL.of hd3⟩,fun e he=>?_⟩
   refine Zgj (σ0:=[none]) (Q:=fun d H'=>Q (.ref d) H') n (fun i xs σ H4=>∃ o bs,σ=[o]/\Z0d H3 H4/\xs=rv bs/\(∀ a∈bs,a∈as)/\Z67 H4 bs (((Y04 i).filter (Z5t n r)).map (cyc n r))) ⟨_,[],rfl,Z02 (Z0d.refl _) he,rfl,by simp,trivial⟩ ?_ ?_
   ·rintro i xs σ H4 hi ⟨o,bs,rfl,s4,rfl,sub,hB⟩ he4
    have ha:as[i]?=some (as[i]'(by omega)):=Y00 _
    generalize as[i]'(by omega)=a at ha
    obtain⟨M,hM,hA⟩:=hL.get ha
    rw[Y0e,Ziw hi]at hM
    have eM:cyc n r i=M:=Option.some.inj hM
    subst eM
    have hd4:=SqL.of (K:=K) (s4 _ _ hd3)
    refine⟨⟨_,_,hd4,Zlz ha⟩,fun y H5 ⟨e1,hy⟩=>?_⟩
    subst e1
    have hy:=hy _ hd4
    rw[Zlz ha]at hy
    cases hy
    have hA4:=s4 _ _ hA
    refine⟨_,rfl,a,_,0,_,rfl,rfl,SqL.of hA4,Z0f (j:=0) (Z14 (Z4i rr hi)),_,rfl,a,(cyc n r i).map fun (x:Nat)=>(x:Int),rfl,by rw[<-Zqd]; exact SqL.of hA4,?_,fun m hm hle=>?_⟩
    ·intro z
     have:=Z4i rr hi
     rw[List.map_eq_nil_iff.mp z]at this
     simp at this
    obtain⟨x,hx,rfl⟩:=Y0f.mp hm
    refine⟨rfl,_,rfl,?_⟩
    have hblen:=hB.len
    have hbl:bs.length<=36:=by
     rw[hblen,Y09]
     have:=Y1z (Z5t n r) (Y04 i)
     rw[Y0d]at this
     omega
    have hfs:(Y04 (i+1)).filter (Z5t n r)=(Y04 i).filter (Z5t n r)++[i].filter (Z5t n r):=by rw[Y1j,Y1n]
    by_cases e:i=x
    ·subst e
     rw[decide_eq_true rfl]
     refine Z2m ?_
     have hld:Z5t n r i=true:=Z4n.mpr fun y hy=>by
      have:=hle _ (Y0f.mpr ⟨y,hy,rfl⟩); omega
     refine⟨_,rfl,Zk8 hi he4 (by rw[Zel]; omega) ⟨_,bs++[a],rfl,Z02 s4 he,Zg6 _ _,fun b hb=>?_,?_⟩⟩
     ·rcases Y0n.mp hb with hb | hb
      ·exact sub b hb
      ·rw[Y0g.mp hb]; exact Y0a ha
     ·rw[hfs,Y20 hld,List.filter_nil,Y0p]
      refine Z67.snoc (hB.updN he4 ?_) ?_
      ·intro b hb z
       obtain⟨j,hj⟩:=List.getElem?_of_mem (sub b hb)
       obtain⟨M,_,hM⟩:=hL.get hj
       rw[z,he]at hM; cases hM
      ·rw[Z05 (fun z=>by rw[z,he]at hA; cases hA)]; exact hA4
    ·rw[decide_eq_false (by intro z; have:=V.int.inj z; omega)]
     refine Z2j ?_
     have hnl:¬ Z5t n r i=true:=fun z=>by
      have h1:=Z4n.mp z x hx
      have h2:=hle _ (Y0f.mpr ⟨i,Y0a (Z4i rr hi),rfl⟩)
      omega
     refine Zto hi he4 ⟨_,bs,rfl,s4,rfl,sub,?_⟩
     rw[hfs,List.filter_cons_of_neg hnl,List.filter_nil,Y1f]
     exact hB
   ·rintro xs σ H4 ⟨o,bs,rfl,s4,rfl,sub,hB⟩ he4
    refine⟨⟨_,SqL.of (s4 _ _ hd3),by rw[Zel,hlen]; exact Y06 _⟩,?_⟩
    exact k H4 e bs (s3.trans s4) (s3.free he) he4 (fun a ha=>(fr a (sub a ha)).1) hB
end
end K1
namespace Sq
open PySem
def sg (k:Nat):Nat:=if k < 10 then 48+k else 87+k
def txt (l:List Nat):Str:=⟨l.toArray⟩
theorem Zlh:(Str.ofString "0123456789abcdefghijklmnopqrstuvwxyz")=txt ((Y04 36).map sg):=by decide +kernel
theorem Z0e (l:List Nat):(txt l).length=l.length:=by simp[txt,Str.length]
theorem Z1j (a b:List Nat):txt a++txt b=txt (a++b):=Str.ext' (by rw[Str.cps_append]; simp[txt])
theorem Z7a (l:List Nat):(txt l).cps.toList=l:=by simp[txt]
theorem Zry (z:Str):txt z.cps.toList=z:=Str.ext' (by simp[txt])
theorem Zc8 {a b:List Nat}(h:txt a=txt b):a=b:=by rw[<-Z7a a,h,Z7a]
theorem Z5w (c:Nat):(⟨#[c]⟩:Str)=txt [c]:=rfl
theorem Z5y (l:List Nat)(i:Nat):(txt l).cps[i]?=l[i]?:=by simp[txt]
theorem Z90:(Str.ofString "")=txt []:=by decide +kernel
theorem Z3d:(Str.ofString " ")=txt [32]:=by decide +kernel
theorem Zrx {a b:Nat}(h:sg a=sg b):a=b:=by unfold sg at h; split at h <;> split at h <;> omega
theorem Zdq:∀ k∈Y04 36,Builtin.Str.occurrences (txt ((Y04 36).map sg)) (txt [sg k]) 0 36 1=[k]:=by decide +kernel
theorem Zhw:(txt ((Y04 36).map sg)).length=36:=by decide +kernel
theorem Ziz {k:Nat}(h:k < 36):(txt ((Y04 36).map sg)).cps[k]?=some (sg k):=by
 rw[Z5y,Y0e,Y1b h]; rfl
end Sq
namespace K1
open PySem L2 Sq
abbrev SG:Str:="0123456789abcdefghijklmnopqrstuvwxyz"
theorem Zfc:SG=txt ((Y04 36).map sg):=Zlh
theorem Zaq:SG.length=36:=by rw[Zfc]; exact Zhw
theorem Zig {k:Nat}(h:k < 36):atI SG.cps.toList (k:Int)=some (sg k):=by
 refine Z0f ?_
 have:=Ziz h
 rw[<-Zfc]at this
 rw[<-this]; simp
end K1
namespace L2
open PySem PySem.Spec PyProof.Rows
structure Z4q (k:Nat)(A:Around):Prop where
 dp:A.depth+3 * k+5 < recursionLimit
 un:A.units+16 * k+200 < cLine
theorem Z2d.u {k:Nat}{A:Around}(r:Z2d k A):Z4q k A:=⟨r.dp,r.un⟩
theorem Z4q.mono {j k:Nat}{A:Around}(r:Z4q k A)(h:j<=k):Z4q j A:=⟨by have:=r.dp; omega,by have:=r.un; omega⟩
theorem Z4q.deeper {k:Nat}{A:Around}(r:Z4q (k+1) A)(env:Env):Z4q k (A.deeper env):=
 ⟨by have:=r.dp; show A.depth+1+3 * k+5 < _; omega,by have:=r.un; show A.units+3+16 * k+200 < _; omega⟩
theorem Z4q.mark {k:Nat}{A:Around}(r:Z4q k A)(o:Option Value):Z4q k (A.mark o):=⟨r.dp,r.un⟩
theorem Z4q.depth {k:Nat}{A:Around}(r:Z4q k A):A.depth < recursionLimit:=by have:=r.dp; omega
structure Zl1 (P:Program)(w:World)(K:Y01)(mg:Str->Option Value)(base:Heap)(k:Nat)(f:Addr)(fd:FuncData)(ps:List Str)(sp:Sp):Prop where
 len:∀ vs H Q E,sp vs H Q E->vs.length=ps.length
 run:∀ (A:Around) (outer:List Env) (s:Shared) (H:Hp) (args:Args) (us:List Value) (vs:List V) (Q:VK) (E:XK),Z4q k A->Zml P w K mg base A outer s H->BindsTo s fd args (ps.zip us)->Z1c vs us->sp vs H Q E->
  codeAny (model P w) A (.call (.ref f) args) (CR CX0 outer P w H s Q E) s
section
variable {X:Cx}{k:Nat}{f C:Addr}{fd:FuncData}{ps:List Str}{sp:Sp}{dvs:List V}{ds:List Value}{E:XK}{x:Str}{p pos:Pos}{e:Expr}{es:List Expr}{t:TA}
theorem Zl8 (F:Zl1 X.prog X.w X.K X.mg X.base k f fd ps sp)(hr:Z4q k X.A)(hg:Gl X x)(hm:X.mg x=some (.ref f))(hk:Y25 X.K (.ref f)=true)(hb:Z6g X.K fd ps ds)(hd:Z1c dvs ds)
  (ha:PA X (e :: es) t) (hdb:(x == ("__debug__":Str))=false:=by decide) (he:starEach (e :: es) X.env=(false,eval e X.env) :: starEach es X.env:=by rfl) (hpl:(backTo pos (starEach es X.env)).any (·.1)=false:=by rfl) :
  PE X (.Call (.Name x p) (e :: es) [] pos) (Z2p sp dvs E t):=by
 intro pins s σ H Q I h
 refine wpAny_Call_Name_kw (Z2y I hg hm ?_ hdb)
 refine PySem.W.callWith_K (h₀:=X.base) I.ok.mod.kin hk (thn (ha pos pins s σ H _ I h) fun us s1 ⟨vs,H1,I1,r,q⟩=>⟨I1.kIn,?_⟩) he hpl
 have r2:Z1c (vs++dvs) (us++ds):=r.append hd
 have hl:(us++ds).length=ps.length:=by rw[<-r2.length]; exact F.len _ _ _ _ q
 refine wpAny_call (codeAny_mono (F.run X.A X.stack s1 H1 ⟨us,[]⟩ (us++ds) (vs++dvs) Q E hr I1.env0 (hb s1 us I1.kIn hl) r2 q) fun r s' hq=>?_)
 cases r with
 | error ev=>exact absurd hq (by intro z; exact z.elim)
 | ok fl=>
  cases fl with
  | ret u=>exact I1.after hq
  | next=>exact False.elim hq
  | brk=>exact False.elim hq
  | cont=>exact False.elim hq
end
abbrev cxU (P:Program)(w:World)(K:Y01)(mg:Str->Option Value)(base:Heap)(N:List Str)(qual:Str)(scope:Scope)(f:Addr)(cd:Value)(A:Around)(outer:List Env)(s:Shared)(H:Hp):Cx:=
 { Zg4 CX0 P w K mg base N qual scope f cd A outer s H E0 with calm:=false,xe:=fun _ _=>False }
theorem Fun.okU {P:Program}{w:World}{K:Y01}{mg:Str->Option Value}{base:Heap}{x qual:Str}{st:Stmt}{f:Addr}{fd:FuncData}{N ps:List Str}{k:Nat}{sp:Sp}(F:Fun K x qual st f fd)(S:Z0n N ps (Z08 st))(len:∀ vs H Q E,sp vs H Q E->vs.length=ps.length)
  (hbody:∀ (cdv:Value) (A:Around) (outer:List Env) (s:Shared) (H:Hp) (vs:List V) (Q:VK) (E:XK),Z4q k (A.deeper (envOfC qual (Z08 st) s.heap.objs.size f cdv))->sp vs H Q E->
   ∃ t,PSs (cxU P w K mg base N qual (Z08 st) f cdv A outer s H) (Z2n st) t/\t { nx:=fun _ H'=>Q .non H',rt:=Q } (start N vs) H):Zl1 P w K mg base (k+1) f fd ps sp:=by
 obtain⟨oc,od,kV,doc,pm,an,cdv,ct,osl,rfl,lk,hcd⟩:=F.ex
 refine⟨len,fun A outer s H args us vs Q E hr e0 hb r hsp=>?_⟩
 have hl:=len _ _ _ _ hsp
 have KX:K.In s.heap:=e0.mod.kin.keeps fun b o e=>(e0.bs b o e).1
 have lim:s.heap.NoLimit:=e0.mod.nolimit.keeps fun b o e=>(e0.bs b o e).1
 have hkind:∀ y∈ps.zip us,(Z08 st).names.lookup y.1=some .local\/((Z08 st).names.lookup y.1=some .cell/\((cellsFrom (s.heap.objs.size+1) (Z08 st).names []).lookup y.1).isSome=true):=fun ⟨n,v⟩ hy=>by
  rcases S.par n (List.of_mem_zip hy).1 with q | q
  ·exact .inl q
  ·exact .inr ⟨q,PySem.W.cellsFrom_some _ _ _ (.inl q)⟩
 refine codeAny_call_function hr.depth (KX _ _ lk) rfl S.co S.gen rfl (PySem.W.codeRec_of KX hcd) (hb _ _ _ _ ?_)
 refine wpAny_newFunctionEnv_cells S.kind hkind fun env he s1 z=>?_
 subst he
 refine⟨lim.keeps z.toInCall.keep,codeAny_func ?_⟩
 obtain⟨t,ht,hq⟩:=hbody cdv A outer s H vs Q E (hr.deeper _) hsp
 have I0:Inv (Zg4 CX0 P w K mg base N qual (Z08 st) f cdv { A with handled:=none } outer s H E0) [] (start N vs) H s1:=Zbc S rfl ⟨e0.frames,e0.mod,e0.bs,e0.bsz,e0.funs,e0.frf,e0.hok,e0.bare⟩ hl r z
 have I:Inv (cxU P w K mg base N qual (Z08 st) f cdv A outer s H) [] (start N vs) H s1:=
  ⟨⟨I0.ok.mod,I0.ok.kind,I0.ok.glob,I0.ok.blt,I0.ok.above,I0.ok.inj,I0.ok.has,I0.ok.cab,fun z=>(nomatch z),I0.ok.frames,I0.ok.stk,I0.ok.exf,I0.ok.bs,I0.ok.bsz,I0.ok.noex,I0.ok.exfs,I0.ok.funs,I0.ok.frf⟩,I0.os,I0.bare,I0.base,I0.loc,I0.cell,I0.free,I0.freeC,I0.pin,I0.hok,I0.len⟩
 refine wpAny_mono (ht [] s1 (start N vs) H _ I hq) (fun fl s' hs=>?_) fun e s' hs=>hs.elim
 have fin:∀ {σ':St} {H':Hp} {v:V} {u:Value},Inv (cxU P w K mg base N qual (Z08 st) f cdv A outer s H) [] σ' H' s'->Z1p v u->Q v H'->CE outer P w H s Q u s':=
  fun {σ' H' v u} J rv q=>⟨v,H',J.os,J.bare,J.base,J.hok,rv,q⟩
 cases fl with
 | ret u=>
  obtain⟨v,σ',H',J,rv,q⟩:=hs
  exact fin J rv q
 | next=>
  obtain⟨σ',H',J,q⟩:=hs
  exact fin (v:=V.non) (u:=Value.none) J rfl q
 | brk=>
  obtain⟨_,_,_,q⟩:=hs
  exact False.elim q
 | cont=>
  obtain⟨_,_,_,q⟩:=hs
  exact False.elim q
theorem Z9r:entryFor table "proto.unchain"=some Builtin.«proto.unchain»:=entryFor_of_tree (by kernel_rfl)
def Zhh (A:Around)(h:Heap):Prop:=∃ e o vs,A.handled=some (.ref e)/\h.get? e=some o/\o.data=.fields vs/\vs[2]?=some .none
section
variable {prog:Program}{w:World}{A:Around}{E:Value->Shared->Prop}{s:Shared}
theorem Z9d {α:Type}{a e:Addr}{oa oe:Obj}{vs ws:Array Value}{Q:α->Shared->Prop}(hh:A.handled=some (.ref e))(hne:e≠a)(ha:s.heap.get? a=some oa)(hda:oa.data=.fields vs)(hza:2 < vs.size)(he:s.heap.get? e=some oe)(hde:oe.data=.fields ws)(h2:ws[2]?=some .none)
  (q:E (.ref a) { s with heap:=s.heap.update a (Obj.mapFields (·.setIfInBounds 2 (.ref e))) }):wpAny (model prog w) A (raiseNew (α:=α) (.ref a)) Q E s:=by
 unfold raiseNew
 refine wpAny_bind (wpAny_handled ?_)
 rw[hh]
 dsimp only
 rw[if_pos (show (Value.ref e != Value.ref a)=true from by simpa using hne)]
 refine wpAny_bind (wpAny_holding (wpAny_runValue (codeAny_builtin Z9r ?_)))
 unfold Builtin.«proto.unchain»
 dsimp only
 refine wpAny_bind (wpAny_field he hde h2 ?_)
 rw[if_pos (by decide)]
 refine wpAny_bind (wpAny_pure ?_)
 refine wpAny_pure ?_
 dsimp only
 exact wpAny_bind (wpAny_setField ha hda hza (wpAny_throw q))
theorem Z79 {it:Addr}{x left step:Int}{Q:Option Value->Shared->Prop}(hh:Zhh A s.heap)(hit:IsRangeIter s.heap it x left step)(hleft:left<=0)
  (hQ:∀ h',Heap.ExtBut it s.heap h'->Q none { s with heap:=h' }):wpAny (model prog w) A (pyNext (.ref it)) Q E s:=by
 obtain⟨e,oe,ws,hh,he,hde,h2⟩:=hh
 have hT:s.TypeIs (.ref it) "range_iterator":=⟨_,hit,rfl⟩
 unfold pyNext
 refine wpAny_bind (wpAny_attempt (wpAny_callSpecial?_slot (name:=Str.ofString "__next__") hT F.slot_range_iterator_next
  (wpAny_call_entry F.slot_range_iterator_next hT F.entry_range_iterator_next ?_ (F.args_range_iterator_next_1 _))))
 show wpAny _ _ (field (.ref it) 0 >>= _) _ _ s
 refine wpAny_bind (wpAny_field hit rfl (x:=rawInt x) rfl ?_)
 show wpAny _ _ (field (.ref it) 1 >>= _) _ _ s
 refine wpAny_bind (wpAny_field hit rfl (x:=rawInt left) rfl ?_)
 show wpAny _ _ (field (.ref it) 2 >>= _) _ _ s
 refine wpAny_bind (wpAny_field hit rfl (x:=rawInt step) rfl ?_)
 show wpAny _ _ (if left<=0 then _ else _) _ _ s
 rw[if_pos hleft]
 refine wpAny_bind (wpAny_rule ?_)
 refine wpAny_bind ?_
 show wpAny _ _ (newExc (.type "StopIteration") [] >>= _) _ _ _
 refine wpAny_bind ?_
 simp only[newExc,newTuple]
 refine wpAny_bind (wpAny_newObj_type ?_ (by size_fits))
 refine wpAny_bind (m:=firstArgMember _ _) (wpAny_of_eq (a:=Value.none) (by first | rfl | (simp only[firstArgMember]; rfl)) ?_)
 refine wpAny_newObj_type ?_ (by size_fits)
 have he2:=Y02 (h:=s.heap.push _) { cls:=.type "StopIteration",data:=.fields (#[.ref s.heap.objs.size,.none,.none,.none,.bool false,.none]++ownMembersOf (.type "StopIteration") []) } (Y02 (h:=s.heap) { cls:=.type "tuple",data:=.seq #[] } he)
 refine Z9d (e:=e) hh (Y0l (Y0h (Y0c he) (by simp))) (Y0b _ rfl) rfl (by simp; omega) he2 hde h2 ?_
 refine wpAny_bind (wpAny_isInstance (T:="StopIteration") (b:=true) ⟨_,Y1v _ (Y0b _ rfl) rfl,rfl⟩ isSubtype_stop ?_)
 refine wpAny_pure (hQ _ fun b o hb e=>?_)
 have hlt:=Y0c e
 rw[Y15 _ _ (show (s.heap.push _).objs.size≠b from by rw[Y1s]; exact Nat.ne_of_gt (Y13 hlt))]
 exact Y02 _ (Y02 _ e)
end
structure Zqb (P:Program)(w:World)(K:Y01)(tg:Expr)(J:It)(fp:List Addr)(it:Addr)(tn:Nat->Heap->Prop):Prop where
 mem:it∈fp
 obj:∀ i h,tn i h->∀ b∈fp,∃ o,h.get? b=some o/\∀ v,o.data≠.cell v
 keep:∀ i h h',tn i h->(∀ b∈fp,∀ o,h.get? b=some o->h'.get? b=some o)->tn i h'
 item:∀ (X:Cx),X.prog=P->X.w=w->X.K=K->∀ (i:Nat) (pins:List (Addr×Obj)) (s:Shared) (σ:St) (H:Hp) (E:Value->Shared->Prop),Inv X pins σ H s->(∀ b∈fp,Zaj X pins H b)->tn i s.heap->J.go i H->
  wpAny (model P w) X.A (pyNext (.ref it)) (fun r s1=>∃ u,r=some u/\
   wpAny (model P w) X.A (letOwnedTupleGo tg (.ref it) u) (fun _ s2=>∃ x H',Inv X pins σ H' s2/\Z1p x u/\J.yld i H x H'/\tn (i+1) s2.heap/\∀ b∈fp,H' b=none) E s1) E s
 done:∀ (X:Cx),X.prog=P->X.w=w->X.K=K->∀ {eh:Addr},X.A.handled=some (.ref eh)->∀ (i:Nat) (pins:List (Addr×Obj)) (s:Shared) (σ:St) (H:Hp) (E:Value->Shared->Prop),Inv X pins σ H s->(∀ b∈fp,Zaj X pins H b)->tn i s.heap->(∃ C d,H eh=some (exO eh C d))->J.stop i H->
  wpAny (model P w) X.A (pyNext (.ref it)) (fun r s1=>r=none/\Inv X pins σ H s1) E s
 self:∀ (A:Around) (i:Nat) (s:Shared) (Q:Value->Shared->Prop) (E:Value->Shared->Prop),tn i s.heap->Q (.ref it) s->wpAny (model P w) A (pyIter (.ref it)) Q E s
theorem Zc7 {P:Program}{w:World}{K:Y01}{tg:Expr}(it:Addr)(lo:Int)(n:Nat):Zqb P w K tg (Itr lo n) [it] it (fun i h=>IsRangeIter h it (lo+(i:Nat) * 1) ((n:Int) - (i:Nat)) 1) where
 mem:=by simp
 obj:=(Z61 (P:=P) (w:=w) (K:=K) (tg:=tg) it lo n).obj
 keep:=(Z61 (P:=P) (w:=w) (K:=K) (tg:=tg) it lo n).keep
 item:=by
  intro X hP hw hK i pins s σ H E I hf st hg
  subst hP hw hK
  obtain⟨f0,f1,f2,f3,f4,f5⟩:=hf it (by simp)
  refine wpAny_pyNext_range_item st (by have:i < n:=hg; omega) fun h' hit' hs'=>?_
  have I1:Inv X pins σ H { s with heap:=h',toks:=s.toks+1 }:=I.turned (fun b o hb e=>hs'.extBut b o hb e) f0 f1 f3 f4 f5
  have st':IsRangeIter h' it (lo+((i+1:Nat):Int) * 1) ((n:Int) - ((i+1:Nat):Int)) 1:=by
   have e1:lo+((i+1:Nat):Int) * 1=lo+(i:Int) * 1+1:=by push_cast; omega
   have e2:(n:Int) - ((i+1:Nat):Int)=(n:Int) - (i:Int) - 1:=by push_cast; omega
   rw[e1,e2]; exact hit'
  refine⟨_,rfl,Zfx (s:={ s with heap:=h',toks:=s.toks+1 }) (n:="range_iterator") st' rfl rfl (by decide) ⟨.int (lo+i),H,I1,⟨s.toks,?_⟩,⟨rfl,rfl⟩,st',fun b hb=>(hf b hb).1⟩⟩
  rw[Int.mul_one]
 done:=by
  intro X hP hw hK eh hA i pins s σ H E I hf st hex hg
  subst hP hw hK
  obtain⟨f0,f1,f2,f3,f4,f5⟩:=hf it (by simp)
  obtain⟨C,d,hex⟩:=hex
  obtain⟨⟨o,vs,h1,_,_,h4,h5⟩,_⟩:=I.hok eh _ hex
  exact Z79 ⟨eh,o,vs,hA,h1,h4,h5⟩ st (by have:n<=i:=hg; omega) fun h' eb=>⟨rfl,I.turned (t':=s.toks) (fun b o hb e=>eb b o hb e) f0 f1 f3 f4 f5⟩
 self:=fun _ _ _ _ _ st h=>wpAny_pyIter_rangeiter st h
def PIEU (X:Cx)(pins:List (Addr×Obj))(σ:St)(tg:Expr)(R:It->Hp->Prop)(itv:Value)(s2:Shared):Prop:=
 ∃ (it:Addr) (fp:List Addr) (tn:Nat->Heap->Prop) (J:It) (H':Hp),itv=.ref it/\Inv X pins σ H' s2/\Zqb X.prog X.w X.K tg J fp it tn/\tn 0 s2.heap/\(∀ b∈fp,Zaj X pins H' b)/\R J H'
def Zm6 (eh:Addr)(wi:TI)(k:Nat)(pull:List Nat)(g:TG)(te:TE):TE:=fun σ H Q=>wi σ H fun J H1=>∀ d,H1 d=none->
 ∃ W:Nat->Nat->St->Hp->Prop,(∃ m,W 0 m (bst k pull σ) (upd H1 d (.lst [])))/\∀ i m σ' H',W i m σ' H'->
  (J.stop i H'/\(∃ C de,H' eh=some (exO eh C de))/\Q (.ref d) H')\/
  (J.go i H'/\∀ x H2,J.yld i H' x H2->g x σ' H2 fun σ3 H3=>te σ3 H3 fun y H4=>∃ xs,H4 d=some (.lst xs)/\xs.length < sizeLine/\∃ m',m' < m/\W (i+1) m' σ3 (upd H4 d (.lst (xs++[y]))))
section
variable {X:Cx}{elt tg a0:Expr}{sc:Scope}{pos p0 pos0:Pos}{ta:TA}{g:TG}{te:TE}{N:List Str}{names:List (Str×NameKind)}{N':List Str}{k:Nat}{pull:List Nat}
theorem Zhg {pins:List (Addr×Obj)}{σ:St}{H:Hp}{s:Shared}{R:It->Hp->Prop}{E:Value->Shared->Prop}{lo hi:Int}{t u v:Tok}{tk:Nat}(I:Inv X pins σ H s)(h1:-(2 ^ 62)<=lo)(h2:lo < 2 ^ 62)(h3:-(2 ^ 62)<=hi)(h4:hi < 2 ^ 62)
  (q:R (Itr lo (hi - lo).toNat) H):wpAny (model X.prog X.w) X.A (pyIter (.ref s.heap.objs.size)) (PIEU X pins σ tg R) E { s with heap:=s.heap.push { cls:=.type "range",data:=.fields #[.int lo t,.int hi u,.int 1 v] },toks:=tk }:=by
 refine wpAny_pyIter_range (IsRange.new ..) (small_one h1 h2 h3 h4) ?_
 have I1:Inv X pins σ H { s with heap:=s.heap.push { cls:=.type "range",data:=.fields #[.int lo t,.int hi u,.int 1 v] },toks:=tk }:=I.kept fun b o e=>Y02 _ e
 refine⟨(s.heap.push { cls:=.type "range",data:=.fields #[.int lo t,.int hi u,.int 1 v] }).objs.size,[(s.heap.push { cls:=.type "range",data:=.fields #[.int lo t,.int hi u,.int 1 v] }).objs.size],_,_,H,rfl,
  I1.kept (t':=tk) fun b o e=>Y02 _ e,Zc7 _ lo (hi - lo).toNat,?_,fun b hb=>?_,q⟩
 ·have e1:lo+((0:Nat):Int) * 1=lo:=by simp
  have e2:(((hi - lo).toNat:Nat):Int) - ((0:Nat):Int)=Builtin.Range.rangeSize lo hi 1:=by rw[rangeSize_one]; split <;> omega
  show IsRangeIter _ _ (lo+((0:Nat):Int) * 1) ((((hi - lo).toNat:Nat):Int) - ((0:Nat):Int)) 1
  rw[e1,e2]
  exact Y0b _ rfl
 ·have e:b=(s.heap.push { cls:=.type "range",data:=.fields #[.int lo t,.int hi u,.int 1 v] }).objs.size:=by simpa using hb
  subst e
  exact I1.fpOk (Y06 _) (I1.hok.fresh (Y06 _))
theorem Zfg (hg:Gl X "range")(hm:X.mg "range"=none)(ha:PA X [a0] ta)(hs:starEach [a0] X.env=[(false,eval a0 X.env)])(pins:List (Addr×Obj))(s:Shared)(σ:St)(H:Hp)(R:It->Hp->Prop)(I:Inv X pins σ H s)(h:Zg0 ta σ H R) :
  wpAny (model X.prog X.w) X.A (eval (.Call (.Name "range" p0) [a0] [] pos0) X.env) (fun v s1=>wpAny (model X.prog X.w) X.A (pyIter v) (PIEU X pins σ tg R) X.xe s1) X.xe s:=by
 refine Call_ (Z4x I hg hm boot_range (PyProof.Rows.callWith_type1 (thn (ha pos0 pins s σ H _ I h) fun us s1 ⟨vs,H1,I1,r1,q1⟩=>?_) hs rfl))
 obtain⟨j,e,q1,q2,q⟩:=q1
 subst e
 cases r1 with
 | cons r rr=>
  cases rr
  obtain⟨t,rfl⟩:=r
  exact call_range_1 (Zhg I1 (by omega) (by omega) q1 q2 (by simpa using q))
theorem Zku {eh:Addr}(hA:X.A.handled=some (.ref eh))(B:Zaz N names N' k pull sc)(hN:X.N=N)(hnm:X.env.scope.names=names)(hg0:Gl X "range")(hm0:X.mg "range"=none)(ha0:PA X [a0] ta)
  (hg:∀ cl C s₂ H₁ fp pins,PG (blk X sc cl C N' s₂ H₁ fp pins) tg g) (he:∀ cl C s₂ H₁ fp pins,PE (blk X sc cl C N' s₂ H₁ fp pins) elt te)
  (hs0:starEach [a0] X.env=[(false,eval a0 X.env)]:=by rfl)
  (hs:∀ x,foldedSetIterable (.Call (.Name "range" p0) [a0] [] pos0) X.env x=pure x:=by intro _; rfl):PE X (.ListComp elt [⟨tg,.Call (.Name "range" p0) [a0] [] pos0,[],0⟩] sc pos) (Zm6 eh (Zg0 ta) k pull g te):=by
 intro pins s σ H Q I h
 rw[eval_ListComp]
 have hcells:∀ y∈sc.names,y.2=.free->∃ c,X.env.cells.lookup y.1=some c:=fun y hy hf=>I.ok.has y.1 (.inl (by
  show X.env.scope.names.lookup y.1=_
  rw[hnm]; exact B.fre y hy hf))
 obtain⟨cl,ecl,c1,_,c3⟩:=Z1u (env:=X.env) sc.names [] hcells (fun x c e=>nomatch e)
 rw[<-Z2o]at ecl
 refine wpAny_comprehension_free (use:=none) rfl hs ecl B.kind B.loc (thn (Zfg (tg:=tg) hg0 hm0 ha0 hs0 pins s σ H _ I h) fun xv s1 h1=>thn h1 fun itv s2 h2=>?_)
 obtain⟨it,fp,tn,J,H1,e,I2,T,st2,f2,hW⟩:=h2
 subst e
 have ho:∀ b∈fp,∃ o,s2.heap.get? b=some o:=fun b hb=>let ⟨o,e,_⟩:=T.obj _ _ st2 b hb; ⟨o,e⟩
 refine wpAny_newObj_type (wpAny_newFunctionEnv B.nocell (by intro y hy; simp at hy) (fun h₁ hns₁ hsb₁=>?_) B.kind)
 dsimp only at hns₁ hsb₁ ⊢
 rw[Y1s]at hns₁ hsb₁ ⊢
 have old:∀ b o,s2.heap.get? b=some o->h₁.get? b=some o:=fun b o e=>by
  have hlt:=Y0c e
  exact (hsb₁.2 b (Y0l (Y13 hlt))).trans (Y02 _ (Y02 _ e))
 have hd:h₁.get? s2.heap.objs.size=some { cls:=.type "list",data:=.seq ([]:List Value).toArray }:=
  (hsb₁.2 _ (Y0l (Y21 _))).trans (Y02 _ (Y0b _ rfl))
 have I4:=Z5g (tk:=s2.toks+([]:List (Str×Value)).length) B hN hnm I2 f2 ho c1 c3 hns₁ old hd
 have st4:tn 0 h₁:=T.keep _ _ _ st2 fun b _ o e=>old b o e
 obtain⟨W,⟨m0,w0⟩,turn⟩:=hW s2.heap.objs.size (I2.hok.fresh (Y06 _))
 have fr4:∀ b∈fp,(upd H1 s2.heap.objs.size (.lst [])) b=none:=fun b hb=>by
  obtain⟨o,e⟩:=ho b hb
  rw[Z05 (Y0l (Y0c e))]
  exact (f2 b hb).1
 have stat:∀ {H':Hp},(∀ b∈fp,H' b=none)->∀ b∈fp,Zaj (blk X sc cl (s2.heap.objs.size+1) N' s2 H1 fp pins) [] H' b:=fun hn b hb=>by
  refine⟨hn b hb,(I4.ok.exf b hb).1,I4.ok.exfs b hb,.inl hb,(I4.ok.exf b hb).2,fun p hp=>?_⟩
  have hp:p∈X.pn++pins:=by simpa [blk] using hp
  exact (f2 b hb).2.2.2.2.2 p hp
 have loop:∀ s₃:Shared,s₃={ s2 with heap:=h₁,toks:=s2.toks+([]:List (Str×Value)).length }->
   codeAny (model X.prog X.w) X.A (.compLoop (.ListComp elt [⟨tg,.Call (.Name "range" p0) [a0] [] pos0,[],0⟩] sc pos) 0 (.ref it) (.ref s2.heap.objs.size) (compEnvC sc cl (s2.heap.objs.size+1) X.env))
    (compPost (model X.prog X.w) X.A X.xe none (EP X pins σ Q) (.ref s2.heap.objs.size) (s2.heap.objs.size+1)) s₃:=by
  rintro s₃ rfl
  refine Z7u (fun n s'=>∃ i σ' H',Inv (blk X sc cl (s2.heap.objs.size+1) N' s2 H1 fp pins) [] σ' H' s'/\tn i s'.heap/\(∀ b∈fp,H' b=none)/\W i n σ' H') ?_ m0 ⟨0,_,_,I4,st4,fr4,w0⟩
  rintro n s3 ⟨i,σ3,H3,I3,st3,fr3,w3⟩
  rcases turn i n σ3 H3 w3 with ⟨stop,⟨Ce,de,hex⟩,q⟩ | ⟨go,step⟩
  ·refine thn (T.done (blk X sc cl (s2.heap.objs.size+1) N' s2 H1 fp pins) rfl rfl rfl (eh:=eh) hA i [] s3 σ3 H3 _ I3 (stat fr3) st3 ⟨Ce,de,hex⟩ stop) fun r s4 ⟨hr,I5⟩=>?_
   subst hr
   obtain⟨m,hn,_⟩:=id I5.loc
   refine⟨m,hn,fun h' hs'=>?_⟩
   have ne:∀ b o,s2.heap.get? b=some o->b≠s2.heap.objs.size+1:=fun b o e=>Y0l (Y13 (Y0c e))
   have U:Un (frs X.stack) fp H1 H3 s2.heap s4.heap:=I5.base
   have U':Un (frs X.stack) fp H1 H3 s2.heap h':=⟨fun b o e n hb hx=>(hs'.2 b (ne b o e)).trans (U.keep b o e n hb hx),fun b o e n hb hx=>by
     obtain⟨sl,z⟩:=U.slot b o e n hb hx
     exact⟨sl,(hs'.2 b (ne b o e)).trans z⟩,U.free,fun b o e hx=>by
     obtain⟨o',z⟩:=U.there b o e hx
     exact⟨o',(hs'.2 b (ne b o e)).trans z⟩,U.tups,U.frzs,U.tbls⟩
   have hok:HOk X.prog X.w H3 h':=HOk.but (C:=s2.heap.objs.size+1) I5.hok I5.free fun b o hb e=>(hs'.2 b hb).trans e
   refine⟨.ref s2.heap.objs.size,H3,I2.call' (s':={ s4 with heap:=h' }) I5.os U' hok I5.bare fun b hb=>?_,rfl,q⟩
   exact⟨(f2 b hb).2.2.2.1,(f2 b hb).2.1,(f2 b hb).2.2.2.2.1,(f2 b hb).2.2.2.2.2⟩
  ·refine thn (T.item (blk X sc cl (s2.heap.objs.size+1) N' s2 H1 fp pins) rfl rfl rfl i [] s3 σ3 H3 _ I3 (stat fr3) st3 go) fun r s4 ⟨u,hr,h4⟩=>?_
   subst hr
   refine thn h4 fun _ s5 ⟨x,H5,I5,r5,y5,st5,fr5⟩=>?_
   have I5':=I5.pinned (stat fr5) (T.obj _ _ st5)
   refine wpAny_mono (hg _ _ _ _ _ _ _ s5 σ3 H5 x u _ I5' r5 (step x H5 y5)) (fun _ s6 ⟨σ6,H6,I6,q6⟩=>?_) fun _ _ z=>z.elim
   refine wpAny_mono (he _ _ _ _ _ _ _ s6 σ6 H6 _ I6 q6) (fun y s7 ⟨z,H7,I7,r7,xs,hx7,hz7,m',hm,w7⟩=>?_) fun _ _ z=>z.elim
   refine wpAny_mono (Z11 (X:=blk X sc cl (s2.heap.objs.size+1) N' s2 H1 fp pins) _ s7 σ6 H7 (.ref s2.heap.objs.size) [z] (.ref s2.heap.objs.size) [y] (fun _ H8=>H8=upd H7 s2.heap.objs.size (.lst (xs++[z]))) I7 rfl (.cons r7 .nil) ⟨_,xs,z,rfl,rfl,hx7,hz7,rfl⟩) (fun _ s8 ⟨_,H8,I8,_,e8⟩=>?_) fun _ _ z=>z.elim
   subst e8
   refine⟨m',hm,i+1,σ6,_,I8.unpinned,T.keep _ _ _ st5 fun b hb o e=>(I8.pin (b,o) (Y0k _ (Y0k _ (Z18 hb e)))).1,fun b hb=>?_,w7⟩
   obtain⟨o,e,_⟩:=T.obj _ _ st5 b hb
   exact (I8.pin (b,o) (Y0k _ (Y0k _ (Z18 hb e)))).2.1
 exact codeAny_compStart_list (loop _ rfl) (T.self _ 0 _ _ _ st4 (loop _ rfl))
end
section
variable {X:Cx}
theorem Z6v {v:Value}{o:Option Int}(p:IsPart v o):∃ q:Option (Int×Tok),v=partValue q/\q.map (·.1)=o:=by
 cases p with
 | none=>exact⟨none,rfl,rfl⟩
 | int i t=>exact⟨some (i,t),rfl,rfl⟩
def rSlS:V->Option Int->Option Int->Hp->VK->Prop:=fun x lo hi H Q=>∃ z:Str,x=.str z/\(StrLaws.sliceText z lo hi).length<=sizeLine/\Q (.str (StrLaws.sliceText z lo hi)) H
theorem Z4a:SlR X rSlS:=by
 intro pins s σ H x v vl vu lo hi sl Q I rx hs pl pu h
 obtain⟨z,rfl,hz,q⟩:=h
 obtain⟨t,rfl⟩:=rx
 obtain⟨l,rfl,el⟩:=Z6v pl
 obtain⟨u,rfl,eu⟩:=Z6v pu
 subst el eu
 refine⟨"str",_,F.slot_str_getitem.lookup,typeIs_str _ _ _,wpAny_getItem_str_slice (l:=l) (u:=u) (st:=none) hs rfl ?_⟩
 exact post_val_or_str ⟨hz,fun t' k=>⟨.str _,H,I.tok k,⟨_,rfl⟩,q⟩⟩
end
namespace RF
end RF
end L2
namespace L2
open PySem PySem.Spec PyProof.Rows Sq
section
variable {X:Cx}
end
theorem Zln (zs:List (List Nat)):Txt.join (txt []) (zs.map txt)=txt zs.flatten:=by
 show Builtin.Str.glued _ _=_
 rw[StrLaws.glued_eq_join]
 induction zs with
 | nil=>rfl
 | cons c l ih=>cases l with
  | nil=>show txt c=_; simp
  | cons d l=>
   show txt c++txt []++Str.join (txt []) ((d :: l).map txt)=_
   rw[ih,Z1j,Z1j]; simp
end L2
namespace L2
open PySem PySem.Spec PyProof.Rows
section
variable {X:Cx}{x:Str}{p pos:Pos}{e:Expr}{te:TE}{σ:St}{r:List V->Hp->VK->Prop}{id:String}
end
section
variable {X:Cx}
theorem Z94:MtM X "str.find" Ziv:=by
 intro pins s σ H x vs v us Q I rx rv h
 obtain⟨z,y,rfl,rfl,q⟩:=h
 obtain⟨t,rfl⟩:=rx
 obtain⟨u,rfl,t',rfl⟩:=rv.one
 exact SC.find ⟨.int _,H,I.tok _,⟨_,rfl⟩,q⟩
end
section
variable {X:Cx}{e:Expr}{lo hi:Option Expr}{st:Expr}{te:TE}{tl th ts:TO}{p2 pos:Pos}
def Z4g (z:Str)(l u k:Option Int):Str:=
 if (k.getD 1 == 1 && (Builtin.Str.strSliceIndices l u (k.getD 1) z.length).length == z.length)=true then z else ⟨((Builtin.Str.strSliceIndices l u (k.getD 1) z.length).filterMap (z.cps[·]?)).toArray⟩
def tSl3 (te:TE)(tl th ts:TO):TE:=fun σ H Q=>te σ H fun x H1=>tl σ H1 fun l H2=>th σ H2 fun u H3=>ts σ H3 fun k H4=>∃ z:Str,x=.str z/\(k.getD 1 == 0)=false/\(Z4g z l u k).length<=sizeLine/\Q (.str (Z4g z l u k)) H4
theorem Zby (he:PE X e te)(hl:PO X lo tl)(hu:PO X hi th)(hs:PO X (some st) ts):PE X (.Subscript e (.Slice lo hi (some st) p2) pos) (tSl3 te tl th ts):=by
 intro pins s σ H Q I h
 refine Subscript_ (thn (he pins s σ H _ I h) fun v s1 ⟨x,H1,I1,r1,q1⟩=>?_)
 refine wpAny_Slice (thn (hl pins s1 σ H1 _ I1 q1) fun vl s2 ⟨l,H2,I2,pl,q2⟩=>thn (hu pins s2 σ H2 _ I2 q2) fun vu s3 ⟨u,H3,I3,pu,q3⟩=>thn (hs pins s3 σ H3 _ I3 q3) fun vk s4 ⟨k,H4,I4,pk,z,ex,h0,hz,q4⟩=>?_)
 subst ex
 obtain⟨t,rfl⟩:=r1
 obtain⟨l',rfl,el⟩:=Z6v pl
 obtain⟨u',rfl,eu⟩:=Z6v pu
 obtain⟨k',rfl,ek⟩:=Z6v pk
 subst el eu ek
 have I5:Inv X pins σ H4 { s4 with heap:=s4.heap.push { cls:=.type "slice",data:=.fields #[partValue l',partValue u',partValue k'] } }:=I4.kept (t':=s4.toks) fun b ob q=>Y02 _ q
 show wpAny (model X.prog X.w) X.A (subscriptTail e (.Slice lo hi (some st) p2) (.str z t) (.ref s4.heap.objs.size)) (EP X pins σ Q) X.xe { s4 with heap:=s4.heap.push { cls:=.type "slice",data:=.fields #[partValue l',partValue u',partValue k'] } }
 refine tail_any (ops:=[.ref s4.heap.objs.size,.str z t]) (typeIs_str _ _ _) F.slot_str_getitem.lookup (wpAny_getItem_str_slice (l:=l') (u:=u') (st:=k') ⟨_,Y0b _ rfl,rfl,rfl⟩ h0 ?_) (by with_unfolding_all rfl)
 exact post_val_or_str ⟨hz,fun t' n=>⟨.str _,H4,I5.tok n,⟨_,rfl⟩,q4⟩⟩
theorem Zic {σ:St}(he:PE1 X σ e te):PS1 X σ (.Return (some e) pos) (Znt te):=by
 intro pins s H D I h
 exact wpAny_Return_some (thn (he pins s H _ I h) fun v s1 ⟨x,H1,I1,r1,q1⟩=>⟨x,σ,H1,I1,r1,q1⟩)
def hNv:TH:=fun _ _ _ _ _=>False
theorem Zlm {hs:List ExceptHandler}:PH X hs hNv:=by
 intro pins s σ H D C d e hl h
 exact h.elim
end
end L2
namespace Sq
open PySem
def sgn (c:Nat):Int:=if c∈(Y04 36).map sg then (((Y04 36).map sg).idxOf c:Int) else -1
theorem Zhi {k:Nat}(h:k < 36):sgn (sg k)=(k:Int):=by
 unfold sgn
 rw[if_pos (Y0f.mpr ⟨k,Y08.mpr h,rfl⟩)]
 have:∀ k∈Y04 36,((Y04 36).map sg).idxOf (sg k)=k:=by decide
 rw[this k (Y08.mpr h)]
theorem Zqc {c:Nat}(h:0<=sgn c):∃ k,k < 36/\c=sg k/\sgn c=(k:Int):=by
 unfold sgn at h
 by_cases m:c∈(Y04 36).map sg
 ·obtain⟨k,hk,e⟩:=Y0f.mp m
  have hk:=Y08.mp hk
  exact⟨k,hk,e.symm,by rw[<-e]; exact Zhi hk⟩
 ·rw[if_neg m]at h; exact absurd h (by decide)
end Sq
namespace Sq
open PySem L2
def btw (b:Nat)(xs:List Nat):List Nat:=b :: xs.flatMap fun x=>[sg x,b]
theorem Z98 (b:Nat):∀ xs:List Nat,(xs.flatMap fun x=>[sg x,b]).length=2 * xs.length
 | []=>rfl
 | x :: xs=>by rw[List.flatMap_cons,Y07,Z98 b xs]; show 2+2 * xs.length=2 * (xs.length+1); omega
theorem Z3g (b:Nat)(xs:List Nat):(btw b xs).length=1+2 * xs.length:=by
 show (xs.flatMap _).length+1=_
 rw[Z98]; omega
theorem Zds (b:Nat):∀ (xs:List Nat) (k:Nat),(xs.flatMap fun x=>[sg x,b])[2 * k]?=(xs[k]?).map sg
 | [],k=>by simp
 | x :: xs,0=>rfl
 | x :: xs,k+1=>by
  rw[List.flatMap_cons,Y0q (by show 2<=2 * (k+1); omega)]
  show (xs.flatMap _)[2 * (k+1) - 2]?=_
  rw[show 2 * (k+1) - 2=2 * k by omega,Zds b xs k]; rfl
theorem Z9e (b:Nat)(xs:List Nat)(k:Nat):(btw b xs)[1+2 * k]?=(xs[k]?).map sg:=by
 unfold btw
 rw[show 1+2 * k=2 * k+1 by omega,Y2e]
 exact Zds b xs k
theorem Zdp (b:Nat)(xs:List Nat):Z4g (txt (btw b xs)) (some 1) none (some 2)=txt (xs.map sg):=by
 have hl:(txt (btw b xs)).length=1+2 * xs.length:=by rw[Z0e,Z3g]
 have ix:Builtin.Str.strSliceIndices (some 1) none 2 (1+2 * xs.length)=(Y04 xs.length).map fun k=>1+2 * k:=by
  unfold Builtin.Str.strSliceIndices sliceRange
  have c1:max (0:Int) (min 1 ((1+2 * xs.length:Nat):Int))=1:=by omega
  simp only[show ((2:Int) > 0)=True from by simp,if_true,show ¬ ((1:Int) < 0) by decide,if_false,c1]
  have cnt:(if (1:Int) < ((1+2 * xs.length:Nat):Int) then (((1+2 * xs.length:Nat):Int) - 1+2 - 1) / 2 else 0).toNat=xs.length:=by
   split <;> omega
  rw[cnt]
  refine Y1p fun k _=>?_
  omega
 unfold Z4g
 rw[hl]
 show (if ((2:Int) == 1 && _)=true then _ else _)=_
 rw[if_neg (by simp)]
 show (⟨((Builtin.Str.strSliceIndices (some 1) none 2 (1+2 * xs.length)).filterMap _).toArray⟩:Str)=_
 rw[ix]
 show txt _=_
 congr 1
 rw[List.filterMap_map]
 have:((fun x=>(txt (btw b xs)).cps[x]?) ∘ fun k=>1+2 * k)=fun k=>(xs[k]?).map sg:=funext fun k=>by
  show (txt (btw b xs)).cps[1+2 * k]?=_
  rw[Z5y]; exact Z9e b xs k
 rw[this]
 refine List.ext_getElem? fun i=>?_
 have:∀ (n:Nat),n<=xs.length->(Y04 n).filterMap (fun k=>(xs[k]?).map sg)=(xs.take n).map sg:=fun n=>by
  induction n with
  | zero=>intro _; rfl
  | succ n ih=>
   intro h
   rw[Y1j,List.filterMap_append,ih (by omega),Y11,Y0p,Y00 (by omega)]
   have e:(List.filterMap (fun k=>Option.map sg xs[k]?) [n])=[sg xs[n]]:=by simp[Y00 (show n < xs.length by omega)]
   rw[e]; rfl
 rw[this xs.length (Y06 _),Y1u]
end Sq
namespace K1
open PySem L2 Sq
abbrev teB9:TE:=tOp (fun x y H Q=>∃ i j,x=.str i/\y=.str j/\i.length+j.length<=sizeLine/\Q (.str (i++j)) H) (tOp Zt2 (tC (.str SG)) (Z1w 0)) (Z1w 1)
def Zq3 (K:Y01):Sp:=fun vs H Q _=>∃ (b:Nat) (p:Addr) (xs:List Nat),vs=[.str (txt [b]),.ref p]/\H p=some (.lst (nv xs))/\(∀ x∈xs,x < 36)/\xs.length<=36/\∀ H':Hp,Z0d H H'->Q (.str (txt (btw b xs))) H'
section
variable {P:Program}{w:World}{K:Y01}{mg:Str->Option Value}{base:Heap}
abbrev n_bt:List Str:=["border","squares"]
theorem Zti:Z0n n_bt ["border","squares"] (Z08 Z4l):=⟨rfl,rfl,rfl,by decide +kernel,rfl,by decide +kernel,by decide +kernel⟩
theorem Zt4:(["square","border"]:List Str).Nodup:=by decide +kernel
theorem Zsx {f:Addr}{fd:FuncData}{tS:Tok}(C_SIGNS:mg "SIGNS"=some (.str SG tS))(F:Fn K mg "between" Z4l ["border","squares"] f fd):Z13 P w K mg base CX0 1 f fd ["border","squares"] (Zq3 K):=by
 refine F.F.ok Zti (fun vs H Q E h=>?_) (fun cdv A outer s H vs Q E hr h=>?_)
 ·obtain⟨b,p,xs,rfl,_⟩:=h; rfl
 ·obtain⟨b,p,xs,rfl,hp,hlt,hn,k⟩:=h
  have big:1000<=sizeLine:=by decide
  refine⟨_,Z07 (Z0o (Z0l Z0u (pv 0) (Z34 PySem.F.plainAttrs_str PySem.F.slot_str_join PySem.F.type_str_join Zo1 Z1b (Z00 (Z2c (N:=n_bt) (names:=(Z08 Z4l).names) (N':=["square","border"]) (k:=1) (pull:=[0]) (te:=teB9) rfl ⟨by rfl,by decide +kernel,by decide +kernel,by rfl,by decide +kernel,by decide +kernel⟩ rfl rfl (Z1x (pv 1)) (fun _ _ _ _ _ _=>Z0i (i:=0) Zt4 rfl (Or.inl rfl)) (fun _ _ _ _ _ _=>Z0l Z0u (Z0t Z8v (Z1a (v:=.str SG) (by rfl) C_SIGNS ⟨_,rfl⟩) (pv 0) (fun _ _=>rfl)) (pv 1))) Z04)))),?_⟩
  refine⟨_,rfl,rfl,?_⟩
  dsimp only [Z0w,Z2t]
  refine⟨_,rfl,p,rfl,⟨_,SqL.of hp⟩,fun d hd=>?_⟩
  refine Z2z (Q:=fun d H'=>Zrd K (.str (Str.ofString "")) [.ref d] H' _) xs.length ((xs.map fun x=>[sg x,b]).map fun z=>V.str (txt z)) (by simp) (fun i σ H3=>∃ o,σ=[o,some (.str (txt [b]))]/\Z0d H H3) ⟨_,rfl,Z02 (Z0d.refl _) hd⟩ ?_ ?_
  ·rintro i σ H3 hi ⟨o,rfl,s3⟩ hd3
   have hp3:=SqL.of (K:=K) (s3 _ _ hp)
   have hg:=Z14 (Y00 hi)
   refine⟨⟨_,_,hp3,hg⟩,fun y H4 ⟨e,hy⟩=>?_⟩
   subst e
   have hy:=hy _ hp3
   rw[hg]at hy
   cases hy
   refine⟨_,rfl,SG,_,sg xs[i],rfl,rfl,by rw[Zaq]; omega,Zig (hlt _ (Y10 hi)),_,rfl,_,_,rfl,rfl,by show 1+1<=_; omega,?_⟩
   refine Z70 hi (by omega) hd3 ?_ ⟨_,rfl,Z02 s3 hd⟩
   rw[Z5w,Z1j]
   simp[hi]
  ·rintro σ H3 ⟨o,rfl,s3⟩ hd3
   refine⟨⟨_,SqL.of (s3 _ _ hp),by rw[Z0k]; exact Y06 _⟩,?_⟩
   have hfl:(xs.map fun x=>[sg x,b]).flatten=xs.flatMap fun x=>[sg x,b]:=by rw[List.flatMap_def]
   refine⟨_,d,(xs.map fun x=>[sg x,b]).map txt,rfl,rfl,.inl (SqL.of (by rw[hd3]; simp[Y0y,Function.comp_def])),?_,?_⟩
   ·have e0:(Str.ofString "").length=0:=by decide
    rw[e0,Nat.mul_zero,Nat.add_zero]
    have e1:((((xs.map fun x=>[sg x,b]).map txt).map (·.length)).sum)=2 * xs.length:=by
     clear hd3 hd hp hlt hn hfl k
     induction xs with
     | nil=>rfl
     | cons a xs ih=>rw[Y0u,Y0u,Y0u,List.sum_cons,ih,Z0e]; show 2+2 * xs.length=2 * (xs.length+1); omega
    rw[e1]; omega
   ·rw[Z90,Zln,hfl]
    refine⟨_,_,rfl,rfl,by rw[Z0e,Z0e,Z98]; show 1+_<=_; omega,?_⟩
    rw[Z1j]
    exact k H3 s3
end
theorem Z9g {K:Y01}{Hc:Hp}{p:Addr}{r:List Nat}{j:Nat}{te:TE}{pull:List Nat}{Q:VK}{σ:St}{rest:St}(g:Nat->Nat)(hj:σ[j]?=some (some (.ref p)))(hp:Hc p=some (.lst (nv r)))(hb:bst 1 pull σ=none :: rest)
  (hte:∀ (x:Nat) (H:Hp) (R:VK),x∈r->Z0d Hc H->R (.int (g x:Int)) H->te (some (.int (x:Int)) :: rest) H R) (hn:r.length<=1000)
  (k:∀ (H':Hp) (d:Addr),Z0d Hc H'->Hc d=none->H' d=some (.lst (nv (r.map g)))->Q (.ref d) H') :
  Z82 (Zfi K (Z1w j)) 1 pull (Z25 0) te σ Hc Q:=by
 refine⟨_,hj,p,rfl,⟨_,SqL.of hp⟩,fun d hd=>?_⟩
 rw[hb]
 refine Z2z (Q:=fun d H'=>Q (.ref d) H') r.length (nv (r.map g)) (by rw[Z0k]; simp) (fun i σ H3=>(∃ o,σ=o :: rest)/\Z0d Hc H3) ⟨⟨_,rfl⟩,Z02 (Z0d.refl _) hd⟩ ?_ ?_
 ·rintro i σ H3 hi ⟨⟨o,rfl⟩,s3⟩ hd3
  have hp3:=SqL.of (K:=K) (s3 _ _ hp)
  have hg:=Z14 (Y00 hi)
  refine⟨⟨_,_,hp3,hg⟩,fun y H4 ⟨e,hy⟩=>?_⟩
  subst e
  have hy:=hy _ hp3
  rw[hg]at hy
  cases hy
  refine hte _ _ _ (Y10 hi) s3 ?_
  exact Z70 hi hn hd3 (Z14 (by simp[hi])) ⟨⟨_,rfl⟩,Z02 s3 hd⟩
 ·rintro σ H3 ⟨⟨o,rfl⟩,s3⟩ hd3
  exact⟨⟨_,SqL.of (s3 _ _ hp),by rw[Z0k]; exact Y06 _⟩,k H3 d s3 hd hd3⟩
section
end
def drM (u:List Nat)(Ms:List (List Nat)):List (List Nat):=Ms.flatMap fun M=>[btw 32 (M.map (nx u)),btw 124 M]
theorem Z5h:(Str.ofString "|")=txt [124]:=by decide +kernel
def tvs (zs:List (List Nat)):List V:=zs.map fun z=>V.str (txt z)
theorem Zdl {H:Hp}:∀ {as:List Addr} {Ms:List (List Nat)},Z67 H as Ms->as.length=Ms.length
 | [],[],_=>rfl
 | [],_ :: _,h=>h.elim
 | _ :: _,[],h=>h.elim
 | _ :: as,_ :: Ms,h=>by rw[Y1d,Y1d,Zdl h.2]
theorem Zij {H:Hp}:∀ {as:List Addr} {Ms:List (List Nat)} {i:Nat} {b:Addr},Z67 H as Ms->as[i]?=some b->∃ M,Ms[i]?=some M/\H b=some (.lst (nv M))
 | [],[],_,_,_,h=>by simp at h
 | [],_ :: _,_,_,h,_=>h.elim
 | _ :: _,[],_,_,h,_=>h.elim
 | a :: as,M :: Ms,0,b,h,e=>by cases e; exact⟨M,rfl,h.1⟩
 | a :: as,M :: Ms,i+1,b,h,e=>by
  rw[Y2e]at e
  obtain⟨M',h1,h2⟩:=Zij (i:=i) h.2 e
  exact⟨M',by rw[Y2e]; exact h1,h2⟩
def Zq8 (K:Y01):Sp:=fun vs H Q _=>∃ (a:Addr) (n:Nat) (r u:List Nat),vs=[.ref a]/\Z7e H a r u/\Row n r/\Row n u/\n<=36/\∀ (H':Hp) (l:Addr),Z0d H H'->H l=none->H' l=some (.lst (tvs (drM u (Z0g n r))))->Q (.ref l) H'
section
variable {P:Program}{w:World}{K:Y01}{mg:Str->Option Value}{base:Heap}
abbrev Zr7:List Str:=["sheet","texts","row"]
theorem Zgd:Z0n Zr7 ["sheet"] (Z08 Z8o):=⟨rfl,rfl,rfl,by decide +kernel,rfl,by decide +kernel,by decide +kernel⟩
theorem Zrn:(["square","sheet"]:List Str).Nodup:=by decide +kernel
set_option maxHeartbeats 2000000 in
theorem Zs1 {f fy fb:Addr}{fd dy db:FuncData}(F:Fn K mg "drawn" Z8o ["sheet"] f fd)(FY:Fn K mg "cycles" Z4z ["row"] fy dy)(GY:Z13 P w K mg base CX0 2 fy dy ["row"] (Zea K))
  (FB:Fn K mg "between" Z4l ["border","squares"] fb db) (GB:Z13 P w K mg base CX0 1 fb db ["border","squares"] (Zq3 K)):Z13 P w K mg base CX0 3 f fd ["sheet"] (Zq8 K):=by
 refine F.F.ok Zgd (fun vs H Q E h=>?_) (fun cdv A outer s H vs Q E hr h=>?_)
 ·obtain⟨a,n,r,u,rfl,_⟩:=h; rfl
 ·obtain⟨a,n,r,u,rfl,hsh,rr,ru,hn,k⟩:=h
  have hr1:Z2d 1 _:=hr.mono (by decide)
  have hr2:Z2d 2 _:=hr.mono (by decide)
  refine⟨_,(Z03 (Z0c (i:=1) Zgd.nd rfl (Or.inl rfl) (Z1y Z04))
   (Z03 (Z1o PassesOwn.never rfl (Z1x (Z0h GY hr2 rfl FY.m FY.F.kp FY.b .nil Z0z (Z00 (Z0t Z1h (pv 0) Z09 (fun _ _=>rfl)) Z04))) (Z0i (i:=2) Zgd.nd rfl (Or.inl rfl)) (Z03 (Z1s (Z34 PySem.F.plainAttrs_list PySem.F.slot_list_append PySem.F.type_list_append Z11 (pv 1) (Z00 (Z0h GB hr1 rfl FB.m FB.F.kp FB.b .nil Z0z (Z00 Z1b (Z00 (Z2c (N:=Zr7) (names:=(Z08 Z8o).names) (N':=["square","sheet"]) (k:=1) (pull:=[0]) (te:=tOp (Zpx K) (tOp (Zpx K) (Z1w 1) (tC (.int 1))) (Z1w 0)) rfl ⟨by rfl,by decide +kernel,by decide +kernel,by rfl,by decide +kernel,by decide +kernel⟩ rfl rfl (Z1x (pv 2)) (fun _ _ _ _ _ _=>Z0i (i:=0) Zrn rfl (Or.inl rfl)) (fun _ _ _ _ _ _=>Z0t Z1h (Z0t Z1h (pv 1) Z09 (fun _ _=>rfl)) (pv 0) (fun _ _=>rfl))) Z04))) Z04)))
   (Z07 (Z1s (Z34 PySem.F.plainAttrs_list PySem.F.slot_list_append PySem.F.type_list_append Z11 (pv 1) (Z00 (Z0h GB hr1 rfl FB.m FB.F.kp FB.b .nil Z0z (Z00 Z1b (Z00 (pv 2) Z04))) Z04))))))
   (Z07 (Z0o (pv 1))))),?_⟩
  obtain⟨p,q,h1,h2,h3⟩:=id hsh
  refine⟨Y0w _,fun l hl=>?_⟩
  have s1:Z0d H (upd H l (.lst [])):=Z02 (Z0d.refl H) hl
  have e1:(upd H l (.lst [])) l=some (.lst []):=Z01
  revert s1 e1
  generalize (upd H l (.lst []))=H1
  intro s1 e1
  dsimp only [Zdh,Zbn,Z25]
  refine⟨_,rfl,a,_,0,_,rfl,rfl,SqT.of (s1 _ _ h1),Z0f (j:=0) rfl,p,n,r,rfl,.inr (SqT.of (s1 _ _ h2)),rr,hn,fun H2 lc as s2 hlc0 hlc has hL=>?_⟩
  have e2:=s2 _ _ e1
  have nlc:lc≠l:=fun e=>by rw[e,e1]at hlc0; cases hlc0
  have nas:∀ c∈as,c≠l:=fun c hc e=>by have:=has c hc; rw[e,e1]at this; cases this
  have nsh:∀ {c:Addr} {o:HO},H c=some o->c≠l:=fun {c o} hc e=>by rw[e,hl]at hc; cases hc
  have hrl:∀ M∈Z0g n r,(∀ x∈M,x < n)/\M.length<=36:=fun M hM=>by
   obtain⟨x,hx,rfl⟩:=Y0f.mp hM
   have hxn:=Y08.mp (Y14.mp hx).1
   have c:=Z4v rr hxn
   refine⟨fun y hy=>Z68 rr hxn hy,?_⟩
   have:=Z16 (cyc n r x) (Y04 n) (c.nd rr hxn) fun y hy=>Y08.mpr (Z68 rr hxn hy)
   rw[Y0d]at this; omega
  have hM36:(Z0g n r).length<=36:=by
   unfold Z0g
   rw[Y09]
   have:=Y1z (Z5t n r) (Y04 n)
   rw[Y0d]at this; omega
  revert hL hrl hM36 k
  generalize Z0g n r=Ms
  intro k hL hrl hM36
  have hlM:=Zdl hL
  refine⟨lc,rfl,⟨_,SqL.of hlc⟩,?_⟩
  refine Z4m (K:=K) (a:=lc) (D:={ nx:=Znt (Z1w 1) { nx:=fun _ H'=>Q .non H',rt:=Q },rt:=Q }) (xs:=rv as) (fun i σ H3=>∃ o2,σ=[some (.ref a),some (.ref l),o2]/\But l H2 H3/\H3 l=some (.lst (tvs (drM u (Ms.take i))))) ⟨_,rfl,fun c o _ h=>h,e2⟩ (fun i σ H3 _ ⟨_,_,bt,_⟩=>SqL.of (bt _ _ nlc hlc)) ?_ ?_
  ·rintro i v σ H3 hv ⟨o2,rfl,bt,hl3⟩
   unfold rv at hv
   rw[Y0e]at hv
   obtain⟨b,hb,rfl⟩:=Option.map_eq_some_iff.mp hv
   obtain⟨M,hM,hb2⟩:=Zij hL hb
   have nb:=nas b (Y0a hb)
   obtain⟨hlt,hlen⟩:=hrl M (Y0a hM)
   have hi:i < Ms.length:=(Y03.mp hM).1
   have sn:drM u (Ms.take (i+1))=drM u (Ms.take i)++[btw 32 (M.map (nx u))]++[btw 124 M]:=by
    unfold drM
    rw[Y11,hM,Y24]
    simp
   have ll:(drM u (Ms.take i)).length<=72:=by
    have:∀ Ns:List (List Nat),(drM u Ns).length=2 * Ns.length:=fun Ns=>by
     unfold drM
     induction Ns with
     | nil=>rfl
     | cons N Ns ih=>rw[List.flatMap_cons,Y07,ih]; show 2+2 * Ns.length=2 * (Ns.length+1); omega
    rw[this,Y18]; omega
   rw[sn]
   revert hl3 ll
   generalize drM u (Ms.take i)=zs
   intro hl3 ll
   have kp:∀ {c:Addr} {o:HO},H c=some o->H3 c=some o:=fun {c o} hc=>bt _ _ (nsh hc) (s2 _ _ (s1 _ _ hc))
   have hb3:=bt _ _ nb hb2
   refine⟨_,rfl,.inl ⟨rfl,_,SqL.of hl3⟩,?_⟩
   dsimp only [Z0w,Z2t,Z2p,tC]
   refine Z9g (r:=M) (fun x=>nx u x) rfl hb3 rfl (fun z Hz R hz sz hR=>⟨_,rfl,a,_,1,_,rfl,rfl,SqT.of (sz _ _ (kp h1)),Z0f (j:=1) rfl,_,rfl,q,_,z,_,rfl,rfl,SqT.of (sz _ _ (kp h3)),Z0f (Z14 (ru.get (hlt z hz))),hR⟩) (by omega) fun H4 d s4 hd0 hd=>?_
   refine⟨32,d,M.map (nx u),by rw[<-Z3d]; rfl,hd,fun x hx=>?_,by rw[Y09]; exact hlen,fun H5 s5=>?_⟩
   ·obtain⟨y,hy,rfl⟩:=Y0f.mp hx
    exact Y0h (ru.nlt (hlt y hy)) hn
   have s45:=s4.trans s5
   have tl:∀ zs:List (List Nat),(tvs zs).length=zs.length:=fun zs=>by simp[tvs]
   refine⟨l,_,_,rfl,rfl,s45 _ _ hl3,by rw[tl]; exact Z0j (by omega),?_⟩
   have l6:(upd H5 l (.lst (tvs zs++[.str (txt (btw 32 (M.map (nx u))))]))) l=some (.lst (tvs (zs++[btw 32 (M.map (nx u))]))):=by rw[Z01]; simp[tvs]
   have b6:But l H3 (upd H5 l (.lst (tvs zs++[.str (txt (btw 32 (M.map (nx u))))]))):=fun c o hc h=>by rw[Z05 hc]; exact s45 _ _ h
   revert l6 b6
   generalize (upd H5 l (.lst (tvs zs++[.str (txt (btw 32 (M.map (nx u))))])))=H6
   intro l6 b6
   refine⟨_,rfl,.inl ⟨rfl,_,SqL.of l6⟩,_,rfl,124,b,M,by rw[<-Z5h]; rfl,b6 _ _ nb hb3,fun x hx=>Y0h (hlt x hx) hn,hlen,fun H7 s7=>?_⟩
   refine⟨l,_,_,rfl,rfl,s7 _ _ l6,by rw[tl,Y07]; exact Z0j (by show _+1<=1000; omega),?_⟩
   refine⟨_,rfl,fun c o hc h=>?_,?_⟩
   ·rw[Z05 hc]; exact s7 _ _ (b6 _ _ hc (bt _ _ hc h))
   ·rw[Z01]; simp[tvs]
  ·rintro σ H3 ⟨o2,rfl,bt,hl3⟩
   rw[Zel,hlM,Y1u]at hl3
   refine⟨_,rfl,k H3 l (fun c o hc=>bt _ _ (nsh hc) (s2 _ _ (s1 _ _ hc))) hl hl3⟩
end
def dkv (F:Nat->Nat)(P:List Nat):List (Key×V):=P.map fun (x:Nat)=>((Sum.inl (x:Int):Key),V.int (F x:Int))
theorem Z9n (F:Nat->Nat)(k:Nat):∀ P:List Nat,Z2s (dkv F P) (Sum.inl (k:Int):Key)=if k∈P then some (.int (F k:Int)) else none
 | []=>rfl
 | x :: P=>by
  show Z2s (((Sum.inl (x:Int):Key),V.int (F x:Int)) :: dkv F P) _=_
  by_cases e:x=k
  ·subst e; rw[Z21 rfl,if_pos (by simp)]
  ·rw[Z17 (fun z=>e (by have:(x:Int)=(k:Int):=Sum.inl.inj z; omega)),Z9n F k P]
   by_cases m:k∈P
   ·rw[if_pos m,if_pos (by simp[m])]
   ·rw[if_neg m,if_neg (by simp[m]; exact fun z=>e z.symm)]
theorem Zi9 {F:Nat->Nat}{P:List Nat}{x:Nat}(h:x∉P):Z58 (dkv F P) (Sum.inl (x:Int):Key) (V.int (F x:Int))=dkv F (P++[x]):=by
 rw[Z28 _ (by rw[Z9n,if_neg h])]
 unfold dkv; rw[Y0p]; rfl
theorem Z5q {n:Nat}{r M:List Nat}(rr:Row n r)(h:M∈Z0g n r):1<=M.length/\M.length<=n/\(∀ x∈M,x < n)/\∀ {i y:Nat},M[i]?=some y->M[(i+1) % M.length]?=some (nx r y):=by
 obtain⟨x,hx,rfl⟩:=Y0f.mp h
 have hxn:=Y08.mp (Y14.mp hx).1
 have c:=Z4v rr hxn
 have:=Z16 (cyc n r x) (Y04 n) (c.nd rr hxn) fun y hy=>Y08.mpr (Z68 rr hxn hy)
 rw[Y0d]at this
 exact⟨c.pos,this,fun y hy=>Z68 rr hxn hy,fun hi=>c.next hi⟩
def Zq7 (K:Y01):Sp:=fun vs H Q _=>∃ (pl:Addr) (ts:List Addr) (n:Nat) (r u:List Nat),vs=[.ref pl]/\H pl=some (.lst (ts.map V.ref))/\ts.length=(Z0g n r).length/\(∀ (i:Nat) (t:Addr) (M:List Nat),ts[i]?=some t->(Z0g n r)[i]?=some M->∃ pa pb,H t=some (.tup [.ref pa,.ref pb])/\H pa=some (.lst (nv (M.map (nx u))))/\H pb=some (.lst (nv M)))/\Z4r n r u/\
 ∀ (H':Hp) (a:Addr),Z0d H H'->Z7e H' a r u->Q (.ref a) H'
section
variable {P:Program}{w:World}{K:Y01}{mg:Str->Option Value}{base:Heap}
abbrev Zsz:List Str:=["pairs","right","up","pair","row","k","square","above"]
theorem Z5k:Z0n Zsz ["pairs"] (Z08 Z29):=⟨rfl,rfl,rfl,by decide +kernel,rfl,by decide +kernel,by decide +kernel⟩
set_option maxHeartbeats 4000000 in
theorem Zs5 {f:Addr}{fd:FuncData}{fo fi:Addr}{dfo dfi:FuncData}(T:Bi mg)(T_zip:mg "zip"=none)(FO:Fn K mg "sheet_of" Z3c ["right","up"] fo dfo)(GO:Z13 P w K mg base CX0 5 fo dfo ["right","up"] (Z7i K))(FI:Fn K mg "in_order" Z2r ["told"] fi dfi)(GI:Z13 P w K mg base CX0 1 fi dfi ["told"] Zl4)(F:Fn K mg "sheet_told" Z29 ["pairs"] f fd):Z13 P w K mg base CX0 6 f fd ["pairs"] (Zq7 K):=by
 refine F.F.ok Z5k (fun vs H Q E h=>?_) (fun cdv A outer s H vs Q E hr h=>?_)
 ·obtain⟨pl,ts,n,r,u,rfl,_⟩:=h; rfl
 ·obtain⟨pl,ts,n,r,u,rfl,hpl,hts,hT,hS,k⟩:=h
  have hu:=Z83 hr
  have hr5:Z2d 5 _:=hr.mono (by decide)
  have hr1:Z2d 1 _:=hr.mono (by decide)
  refine⟨_,(Z03 (Z0c (i:=1) Z5k.nd rfl (Or.inl rfl) Z2e)
   (Z03 (Z0c (i:=2) Z5k.nd rfl (Or.inl rfl) Z2e)
   (Z03 (Z1o PassesOwn.never rfl (Z1x (pv 0)) (Z0i (i:=3) Z5k.nd rfl (Or.inl rfl)) (Z03 (Z0c (i:=4) Z5k.nd rfl (Or.inl rfl) (Z0t Z1h (pv 3) Z09 (fun _ _=>rfl)))
   (Z03 (Z1o PassesOwn.never rfl (Z5d rfl T.enum (Z00 (pv 4) Z04)) (Z3t rfl (Z0s (Z0i (i:=5) Z5k.nd rfl (Or.inl rfl)) (Z0s (Z0i (i:=6) Z5k.nd rfl (Or.inl rfl)) Z26))) (Z07 (Z2x hu (pv 1) (pv 6) (Z0t Z0v (pv 4) (Z0l Z1e (Z0l Z1d (pv 5) Z09) (Z0a Z0b rfl T.len PySem.boot_len (Z00 (pv 4) Z04))) (fun _ _=>rfl)) rfl)))
   (Z07 (Z1o PassesOwn.never rfl (Zmg rfl T_zip (Z00 (pv 4) (Z00 (Z0t Z1h (pv 3) Z09 (fun _ _=>rfl)) Z04))) (Z3t rfl (Z0s (Z0i (i:=6) Z5k.nd rfl (Or.inl rfl)) (Z0s (Z0i (i:=7) Z5k.nd rfl (Or.inl rfl)) Z26))) (Z07 (Z2x hu (pv 2) (pv 6) (pv 7) rfl)))))))
   (Z07 (Zhr (tb:=fun _=>Znt (Z2p (Z7i K) [] E0 (Z0w (Z2p Zl4 [] E0 (Z0w (Z1w 1) Z2t)) (Z0w (Z2p Zl4 [] E0 (Z0w (Z1w 2) Z2t)) Z2t)))) rfl rfl (fun E' σ' pn W hx=>Zic (Z97 GO hr5 rfl FO.m FO.F.kp FO.b .nil (fun _ _ _ _ _ _ h=>h.elim) (Z00 (Z0h GI hr1 rfl FI.m FI.F.kp FI.b .nil Z0z (Z00 (pv 1) Z04)) (Z00 (Z0h GI hr1 rfl FI.m FI.F.kp FI.b .nil Z0z (Z00 (pv 2) Z04)) Z04)))) Zlm))))),?_⟩
  have rr:=hS.row
  have ru:=hS.col
  have hn:=hS.most
  refine fun d1 hd1=>?_
  refine fun d2 hd2=>?_
  have n12:d2≠d1:=by rintro rfl; rw[Z01]at hd2; cases hd2
  have d20:H d2=none:=by rw[Z05 n12]at hd2; exact hd2
  have s2:Z0d H (upd (upd H d1 (.dK [])) d2 (.dK [])):=Z02 (Z02 (Z0d.refl H) hd1) d20
  have e1:(upd (upd H d1 (.dK [])) d2 (.dK [])) d1=some (.dK (dkv (nx r) [])):=by rw[Z05 n12.symm,Z01]; rfl
  have e2:(upd (upd H d1 (.dK [])) d2 (.dK [])) d2=some (.dK (dkv (nx u) [])):=Z01
  revert s2 e1 e2
  generalize (upd (upd H d1 (.dK [])) d2 (.dK []))=H2
  intro s2 e1 e2
  have nd:(Z0g n r).flatten.Nodup:=(Z1k rr).nodup_iff.mpr Y0v
  have hro:=fun M (hM:M∈Z0g n r)=>Z5q rr hM
  have hper:=Z1k rr
  revert hts hT nd hro hper
  generalize Z0g n r=Ms
  intro hts hT nd hro hper
  have fl:(Ms.flatten).length=n:=by rw[hper.length_eq,Y0d]
  have pre:∀ j,((Ms.take j).flatten).length<=36:=fun j=>by
   have:=(Y1x j Ms)
   have:=congrArg (fun L=>L.flatten.length) this
   rw[Y2k,Y07,fl]at this
   omega
  have ln:∀ (F:Nat->Nat) (P:List Nat),(dkv F P).length=P.length:=fun F P=>by simp[dkv]
  refine⟨_,rfl,pl,rfl,⟨_,SqL.of (s2 _ _ hpl)⟩,Z4m (xs:=ts.map V.ref) (fun i σ H3=>∃ o3 o4 o5 o6 o7,σ=[some (.ref pl),some (.ref d1),some (.ref d2),o3,o4,o5,o6,o7]/\Z0d H H3/\H3 d1=some (.dK (dkv (nx r) (Ms.take i).flatten))/\H3 d2=some (.dK (dkv (nx u) (Ms.take i).flatten))) ⟨_,_,_,_,_,rfl,s2,e1,e2⟩ (fun i σ H3 _ ⟨_,_,_,_,_,_,s3,_⟩=>SqL.of (s3 _ _ hpl)) ?_ ?_⟩
  ·rintro i v σ H3 hv ⟨o3,o4,o5,o6,o7,rfl,s3,h31,h32⟩
   rw[Y0e]at hv
   obtain⟨t,htt,rfl⟩:=Option.map_eq_some_iff.mp hv
   have hi:i < Ms.length:=by rw[<-hts]; exact (Y03.mp htt).1
   obtain⟨M,hM⟩:∃ M,Ms[i]?=some M:=⟨_,Y00 hi⟩
   obtain⟨pa,pb,ht,hpa,hpb⟩:=hT i t M htt hM
   obtain⟨m1,m2,m3,m4⟩:=hro M (Y0a hM)
   have tk:(Ms.take (i+1)).flatten=(Ms.take i).flatten++M:=by rw[Y11,hM,Y2k]; simp
   have hPM:((Ms.take i).flatten++M).Nodup:=by
    rw[<-tk]
    have:=Y1x (i+1) Ms
    rw[<-this,Y2k]at nd
    exact (Y1y.mp nd).1
   have pl1:=pre (i+1)
   rw[tk]at pl1 ⊢
   revert h31 h32 hPM pl1
   generalize (Ms.take i).flatten=P
   intro h31 h32 hPM pl1
   have fresh:∀ {k y:Nat},M[k]?=some y->y∉P++M.take k:=fun {k y} hy hm=>by
    have hk:=(Y03.mp hy).1
    have e:P++M=(P++M.take k)++M.drop k:=by rw[Y1l,Y1x]
    rw[e]at hPM
    refine (Y1y.mp hPM).2.2 y hm y ?_ rfl
    rw[Y26 hk]
    simp[(Y03.mp hy).2]
   have tk1:∀ {k y:Nat},M[k]?=some y->P++M.take (k+1)=(P++M.take k)++[y]:=fun {k y} hy=>by rw[Y11,hy,Y1l]; rfl
   have lk:∀ k,(P++M.take k).length<=36:=fun k=>by rw[Y07,Y18]; rw[Y07]at pl1; omega
   refine⟨_,rfl,t,_,1,_,rfl,rfl,SqT.of (s3 _ _ ht),Z0f (j:=1) rfl,?_⟩
   refine⟨_,rfl,pb,rfl,⟨_,SqL.of (s3 _ _ hpb)⟩,Z8p (xs:=nv M) (fun k σ H4=>∃ o5 o6,σ=[some (.ref pl),some (.ref d1),some (.ref d2),some (.ref t),some (.ref pb),o5,o6,o7]/\Z0d H H4/\H4 d1=some (.dK (dkv (nx r) (P++M.take k)))/\H4 d2=some (.dK (dkv (nx u) P))) ⟨_,_,rfl,s3,by rw[List.take_zero,Y1f]; exact h31,h32⟩ (fun k σ H4 _ ⟨_,_,_,s4,_⟩=>SqL.of (s4 _ _ hpb)) ?_ ?_⟩
   ·rintro k x σ H4 T' hx hT' ⟨o5,o6,rfl,s4,h41,h42⟩
    obtain⟨y,hy,rfl⟩:=Z3e hx
    have hk:=(Y03.mp hy).1
    have s5:=Z02 (o:=Z42 T' [.int (k:Int),.int (y:Int)]) s4 (s4.free hT')
    have h51:(upd H4 T' (Z42 T' [.int (k:Int),.int (y:Int)])) d1=some (.dK (dkv (nx r) (P++M.take k))):=by rw[Z05 (Z06 h41 hT')]; exact h41
    have h52:(upd H4 T' (Z42 T' [.int (k:Int),.int (y:Int)])) d2=some (.dK (dkv (nx u) P)):=by rw[Z05 (Z06 h42 hT')]; exact h42
    refine⟨T',_,rfl,Z01,rfl,_,_,rfl,_,_,rfl,rfl,?_⟩
    revert s5 h51 h52
    generalize (upd H4 T' (Z42 T' [.int (k:Int),.int (y:Int)]))=H5
    intro s5 h51 h52
    have hj:((k:Int)+1) % (M.length:Int)=(((k+1) % M.length:Nat):Int):=rfl
    refine⟨_,rfl,_,rfl,_,_,rfl,rfl,_,rfl,pb,_,rfl,.inl (SqL.of (s5 _ _ hpb)),?_⟩
    rw[Z0k]
    refine⟨_,_,rfl,rfl,(by show (0:Int) < (M.length:Int); omega),pb,_,(((k+1) % M.length:Nat):Int),_,rfl,congrArg V.int hj,SqL.of (s5 _ _ hpb),Z0f (Z14 (m4 hy)),?_⟩
    refine⟨_,rfl,_,rfl,d1,_,rfl,Zc3.k (k:=(Sum.inl (y:Int):Key)) h51 (by rw[ln]; exact Z0j (by have:=lk k; omega)),?_⟩
    rw[Zi9 (fresh hy),<-tk1 hy]
    exact⟨_,_,rfl,Z02 s5 hd1,Z01,by rw[Z05 n12]; exact h52⟩
   ·rintro σ H4 ⟨o5,o6,rfl,s4,h41,h42⟩
    rw[Z0k,Y1u]at h41
    refine⟨_,rfl,_,rfl,t,_,0,_,rfl,rfl,SqT.of (s4 _ _ ht),Z0f (j:=0) rfl,pb,pa,rfl,⟨_,SqL.of (s4 _ _ hpb)⟩,⟨_,SqL.of (s4 _ _ hpa)⟩,?_⟩
    refine Zph (K:=K) (l1:=pb) (l2:=pa) (xs:=nv M) (ys:=nv (M.map (nx u))) (by rw[Z0k,Z0k,Y09]) (fun k σ H5=>∃ o6 o7,σ=[some (.ref pl),some (.ref d1),some (.ref d2),some (.ref t),some (.ref pb),o5,o6,o7]/\Z0d H H5/\H5 d1=some (.dK (dkv (nx r) (P++M)))/\H5 d2=some (.dK (dkv (nx u) (P++M.take k)))) ⟨_,_,rfl,s4,h41,by rw[List.take_zero,Y1f]; exact h42⟩ (fun k σ H5 ⟨_,_,_,s5,_⟩=>⟨SqL.of (s5 _ _ hpb),SqL.of (s5 _ _ hpa)⟩) ?_ ?_
    ·rintro k xa xb σ H5 T' hxa hxb hT' ⟨o6,o7,rfl,s5,h51,h52⟩
     obtain⟨y,hy,rfl⟩:=Z3e hxa
     obtain⟨y',hy',rfl⟩:=Z3e hxb
     obtain rfl:nx u y=y':=by rw[Y0e,hy]at hy'; exact Option.some.inj hy'
     have s6:=Z02 (o:=Z42 T' [.int (y:Int),.int (nx u y:Int)]) s5 (s5.free hT')
     have h61:(upd H5 T' (Z42 T' [.int (y:Int),.int (nx u y:Int)])) d1=some (.dK (dkv (nx r) (P++M))):=by rw[Z05 (Z06 h51 hT')]; exact h51
     have h62:(upd H5 T' (Z42 T' [.int (y:Int),.int (nx u y:Int)])) d2=some (.dK (dkv (nx u) (P++M.take k))):=by rw[Z05 (Z06 h52 hT')]; exact h52
     refine⟨T',_,rfl,Z01,rfl,_,_,rfl,_,_,rfl,rfl,?_⟩
     revert s6 h61 h62
     generalize (upd H5 T' (Z42 T' [.int (y:Int),.int (nx u y:Int)]))=H6
     intro s6 h61 h62
     refine⟨_,rfl,_,rfl,_,rfl,d2,_,rfl,Zc3.k (k:=(Sum.inl (y:Int):Key)) h62 (by rw[ln]; exact Z0j (by have:=lk k; omega)),?_⟩
     rw[Zi9 (fresh hy),<-tk1 hy]
     exact⟨_,_,rfl,Z02 s6 d20,by rw[Z05 n12.symm]; exact h61,Z01⟩
    ·rintro σ H5 ⟨o6,o7,rfl,s5,h51,h52⟩
     rw[Z0k,Y1u]at h52
     exact⟨_,_,_,_,_,rfl,s5,h51,h52⟩
  ·rintro σ H3 ⟨o3,o4,o5,o6,o7,rfl,s3,h31,h32⟩
   rw[Y09,hts,Y1u]at h31 h32
   have mem:∀ i,i < n->i∈Ms.flatten:=fun i hi=>hper.mem_iff.mpr (Y08.mpr hi)
   have mp:∀ {w:List Nat},Row n w->(Y04 n).map (nx w)=w:=fun {w} rw'=>by
    refine Y22 (by rw[Y09,Y0d,rw'.len]) fun i h1 h2=>?_
    rw[List.getElem_map,List.getElem_range]
    show w.getD i 0=_
    rw[Y05,Y00 h2]; rfl
   refine⟨fun _ _ _=>False,?_,fun _ _ _ h=>h.elim⟩
   refine⟨_,rfl,d1,_,n,nx r,rfl,h31,by rw[ln,fl],hn,fun i hi=>by rw[Z9n,if_pos (mem i hi)],fun H4 l1 s4 _ hl1=>?_⟩
   rw[mp rr]at hl1
   refine⟨_,rfl,d2,_,n,nx u,rfl,s4 _ _ h32,by rw[ln,fl],hn,fun i hi=>by rw[Z9n,if_pos (mem i hi)],fun H5 l2 s5 _ hl2=>?_⟩
   rw[mp ru]at hl2
   exact⟨l1,l2,n,r,u,rfl,.inl (SqL.of (s5 _ _ hl1)),.inl (SqL.of hl2),hS,fun H6 a s6 ha=>k H6 a (s3.trans (s4.trans (s5.trans s6))) ha⟩
end
theorem Znw {k:Nat}(h:k < 36):(match Builtin.Str.occurrences SG ⟨#[sg k]⟩ 0 SG.length 1 with | i :: _=>(i:Int) | []=>-1)=(k:Int):=by
 rw[Zaq,Zfc,Z5w,Zdq k (Y08.mpr h)]
def Zk5:Sp:=fun vs H Q _=>∃ (b:Nat) (xs:List Nat),vs=[.str (txt (btw b xs))]/\(∀ x∈xs,x < 36)/\xs.length<=36/\∀ (H':Hp) (l:Addr),Z0d H H'->H l=none->H' l=some (.lst (nv xs))->Q (.ref l) H'
section
variable {P:Program}{w:World}{K:Y01}{mg:Str->Option Value}{base:Heap}
theorem Zqi:Z0n ["text"] ["text"] (Z08 Z24):=⟨rfl,rfl,rfl,by decide +kernel,rfl,by decide +kernel,by decide +kernel⟩
theorem Zs8:(["sign"]:List Str).Nodup:=by decide +kernel
theorem Ztv {f:Addr}{fd:FuncData}{tS:Tok}(C_SIGNS:mg "SIGNS"=some (.str SG tS))(F:Fn K mg "squares_in" Z24 ["text"] f fd):Z13 P w K mg base CX0 1 f fd ["text"] Zk5:=by
 refine F.F.ok Zqi (fun vs H Q E h=>?_) (fun cdv A outer s H vs Q E hr h=>?_)
 ·obtain⟨b,xs,rfl,_⟩:=h; rfl
 ·obtain⟨b,xs,rfl,hlt,hn,k⟩:=h
  have big:1000<=sizeLine:=by decide
  refine⟨_,Z07 (Z0o (Z2c (N:=["text"]) (names:=(Z08 Z24).names) (N':=["sign"]) (k:=1) (pull:=[]) (te:=tBM K "str" Ziv (tC (.str SG)) (Z0w (Z1w 0) Z2t)) rfl ⟨by rfl,by decide +kernel,by decide +kernel,by rfl,by decide +kernel,by decide +kernel⟩ rfl rfl (Zmv (Zby (pv 0) (Z1i Z09) Z32 (Z1i Z09))) (fun _ _ _ _ _ _=>Z0i (i:=0) Zs8 rfl (Or.inl rfl)) (fun _ _ _ _ _ _=>Z34 PySem.F.plainAttrs_str PySem.F.slot_str_find PySem.F.type_str_find Z94 (Z1a (v:=.str SG) (by rfl) C_SIGNS ⟨_,rfl⟩) (Z00 (pv 0) Z04)))),?_⟩
  refine⟨_,rfl,_,rfl,_,rfl,txt (btw b xs),rfl,rfl,by rw[Zdp,Z0e,Y09]; omega,?_⟩
  rw[Zdp]
  refine⟨_,rfl,fun d hd=>?_⟩
  refine Z2z (Q:=fun d H'=>Q (.ref d) H') xs.length (nv xs) (Z0k xs) (fun i σ H3=>∃ o,σ=[o]/\Z0d H H3) ⟨none,rfl,Z02 (Z0d.refl _) hd⟩ ?_ ?_
  ·rintro i σ H3 hi ⟨o,rfl,s3⟩ hd3
   refine⟨by show i < (txt _).length; rw[Z0e,Y09]; exact hi,fun x H4 ⟨e,c,hc,ey⟩=>?_⟩
   subst e ey
   rw[Z5y,Y0e,Y00 hi]at hc
   obtain rfl:sg xs[i]=c:=Option.some.inj hc
   have hx:=hlt _ (Y10 hi)
   refine⟨rfl,_,rfl,SG,_,rfl,rfl,?_⟩
   exact Eq.mpr (congrArg (fun v=>Zkg xs.length (nv xs) (fun i σ H3=>∃ o,σ=[o]/\Z0d H H3) d i ([o].set 0 (some (V.str ⟨#[sg xs[i]]⟩))) (V.int v) H4) (Znw hx)) (Z70 hi (by omega) hd3 (Z14 (Y00 hi)) ⟨_,rfl,Z02 s3 hd⟩)
  ·rintro σ H3 ⟨o,rfl,s3⟩ hd3
   exact⟨by show (txt _).length=_; rw[Z0e,Y09],k H3 d s3 hd hd3⟩
end
end K1
namespace L2
open PySem PySem.Spec PyProof.Rows
def rgN (lo hi c:Int):Nat:=(Builtin.Range.rangeSize lo hi c).toNat
theorem Zks {lo hi c:Int}(hc:0 < c):Builtin.Range.rangeSize lo hi c=(rgN lo hi c:Int):=by
 unfold rgN
 have h0:0<=Builtin.Range.rangeSize lo hi c:=by
  unfold Builtin.Range.rangeSize
  rw[if_pos hc]
  split
  ·have:=Int.ediv_nonneg (a:=hi - lo - 1) (b:=c) (by omega) (by omega); omega
  ·omega
 omega
def Zsk (lo c:Int)(n:Nat):It:=⟨fun i _=>i < n,fun i H x H'=>H'=H/\x=.int (lo+i * c),fun i _=>n<=i⟩
theorem Zce {P:Program}{w:World}{K:Y01}{tg:Expr}(it:Addr)(lo c:Int)(n:Nat):Zjs P w K tg (Zsk lo c n) [it] it (fun i h=>IsRangeIter h it (lo+(i:Nat) * c) ((n:Int) - (i:Nat)) c) where
 mem:=by simp
 obj:=fun i h st b hb=>by
  have e:b=it:=by simpa using hb
  subst e
  exact⟨_,st,fun v z=>by
   have z':Data.fields _=Data.cell v:=z
   cases z'⟩
 keep:=fun i h h' st k=>k it (by simp) _ st
 item:=by
  intro X hP hw hK hc i pins s σ H E I hf st hg
  subst hP hw hK
  obtain⟨f0,f1,f2,f3,f4,f5⟩:=hf it (by simp)
  have W:=Walks.range (prog:=X.prog) (w:=X.w) (I.ok.hd hc) it lo c n
  refine W.item i s _ _ hg st fun v h' tk hv st' kk=>?_
  obtain⟨t,rfl⟩:=hv
  have I1:Inv X pins σ H { s with heap:=h',toks:=tk }:=I.turned (fun b o hb e=>kk b o (by simpa using hb) e) f0 f1 f3 f4 f5
  exact⟨_,rfl,Zfx (s:={ s with heap:=h',toks:=tk }) (n:="range_iterator") st' rfl rfl (by decide) ⟨.int (lo+i * c),H,I1,⟨t,rfl⟩,⟨rfl,rfl⟩,st',fun b hb=>(hf b hb).1⟩⟩
 done:=by
  intro X hP hw hK hc i pins s σ H E I hf st hg
  subst hP hw hK
  obtain⟨f0,f1,f2,f3,f4,f5⟩:=hf it (by simp)
  exact wpAny_pyNext_range_end (I.ok.hd hc) st (by have:n<=i:=hg; omega) fun h' eb=>⟨rfl,I.turned (t':=s.toks) (fun b o hb e=>eb b o hb e) f0 f1 f3 f4 f5⟩
 self:=fun _ _ _ _ _ st h=>wpAny_pyIter_rangeiter st h
section
variable {X:Cx}{tg:Expr}
def CRng (lo hi c:Int):Prop:=0<=lo/\lo<=1000000/\0<=hi/\hi<=1000000/\1<=c/\c<=1000000
theorem Zcs {lo hi c:Int}(h:CRng lo hi c):Builtin.Range.small lo hi c=true:=by
 obtain⟨h1,h2,h3,h4,h5,h6⟩:=h
 have hn:0<=Builtin.Range.rangeSize lo hi c/\Builtin.Range.rangeSize lo hi c<=1000001:=by
  unfold Builtin.Range.rangeSize
  rw[if_pos (by omega)]
  split
  ·have a1:=Int.ediv_nonneg (a:=hi - lo - 1) (b:=c) (by omega) (by omega)
   have a2:=Int.ediv_le_self c (show 0<=hi - lo - 1 by omega)
   omega
  ·omega
 unfold Builtin.Range.small
 simp only[Builtin.Range.rangeFitsLong,Bool.and_eq_true,Bool.or_eq_true,decide_eq_true_eq,beq_iff_eq,show c > 0 by omega,if_true]
 omega
def Znl (ta:TA):TI:=fun σ H R=>ta σ H fun vs H1=>∃ lo hi c:Int,vs=[.int lo,.int hi,.int c]/\CRng lo hi c/\R (Zsk lo c (rgN lo hi c)) H1
theorem Zae {a b c:Expr}{ta:TA}{p pos:Pos}(hg:Gl X "range")(hm:X.mg "range"=none)(ha:PA X [a,b,c] ta)(hs:starEach [a,b,c] X.env=[(false,eval a X.env),(false,eval b X.env),(false,eval c X.env)]:=by rfl)(hs2:starEach [b,c] X.env=[(false,eval b X.env),(false,eval c X.env)]:=by rfl) :
  PI X tg (.Call (.Name "range" p) [a,b,c] [] pos) (Znl ta):=by
 intro pins s σ H R I h
 refine Call_ (Z4x I hg hm boot_range (PyProof.Rows.callWith_type1 (thn (ha pos pins s σ H _ I h) fun us s1 ⟨vs,H1,I1,r1,q1⟩=>?_) (by rw[hs,hs2]) (by rw[hs2]; rfl)))
 obtain⟨lo,hi,cc,e,hC,q⟩:=q1
 subst e
 cases r1 with
 | cons r rr=>
  cases rr with
  | cons r' rr=>
   cases rr with
   | cons r'' rr=>
    cases rr
    obtain⟨t,rfl⟩:=r
    obtain⟨t',rfl⟩:=r'
    obtain⟨t'',rfl⟩:=r''
    obtain⟨c1,c2,c3,c4,c5,c6⟩:=id hC
    refine call_range_3 (by omega) ?_ (.inl (PyProof.noPylong_small (by omega)))
    refine wpAny_pyIter_range (IsRange.new ..) (Zcs hC) ?_
    have I2:Inv X pins σ H1 { s1 with heap:=s1.heap.push { cls:=.type "range",data:=.fields #[.int lo t,.int hi t',.int cc t''] },toks:=s1.toks }:=I1.kept fun b o e=>Y02 _ e
    refine⟨(s1.heap.push { cls:=.type "range",data:=.fields #[.int lo t,.int hi t',.int cc t''] }).objs.size,[(s1.heap.push { cls:=.type "range",data:=.fields #[.int lo t,.int hi t',.int cc t''] }).objs.size],_,_,H1,rfl,
     I2.kept (t':=s1.toks) fun b o e=>Y02 _ e,Zce _ lo cc (rgN lo hi cc),?_,fun b hb=>?_,q⟩
    ·show IsRangeIter _ _ (lo+((0:Nat):Int) * cc) (((rgN lo hi cc:Nat):Int) - ((0:Nat):Int)) cc
     rw[show lo+((0:Nat):Int) * cc=lo from by simp,show ((rgN lo hi cc:Nat):Int) - ((0:Nat):Int)=Builtin.Range.rangeSize lo hi cc from by rw[Zks (by omega)]; simp]
     exact Y0b _ rfl
    ·have e:b=(s1.heap.push { cls:=.type "range",data:=.fields #[.int lo t,.int hi t',.int cc t''] }).objs.size:=by simpa using hb
     subst e
     exact I2.fpOk (Y06 _) (I2.hok.fresh (Y06 _))
end
end L2
namespace K1
open PySem L2 Sq
theorem Zcb {Hc:Hp}{m:Nat}{ta:TA}{te:TE}{pull:List Nat}{Q:VK}{σ:St}{rest:St}(G:Nat->Addr->Hp->Prop)(mono:∀ i a H H',Z0d H H'->G i a H->G i a H')
  (stab:∀ i a H d (xs:List Addr) o,i < m->H d=some (.lst (xs.map V.ref))->G i a H->G i a (upd H d o)) (hj:∀ R:List V->Hp->Prop,R [.int 1,.int (2 * (m:Int)),.int 2] Hc->ta σ Hc R) (hb:bst 1 pull σ=none :: rest)
  (hte:∀ (i:Nat) (H:Hp) (R:VK),i < m->Z0d Hc H->(∀ (H':Hp) (a:Addr),Z0d H H'->G i a H'->R (.ref a) H')->te (some (.int (1+(i:Int) * 2)) :: rest) H R) (hm:m<=1000)
  (k:∀ (H':Hp) (d:Addr) (as:List Addr),Z0d Hc H'->Hc d=none->as.length=m->(∀ i,i < m->G i (as.getD i 0) H')->H' d=some (.lst (as.map V.ref))->Q (.ref d) H') :
  Z82 (Znl ta) 1 pull (Z25 0) te σ Hc Q:=by
 have em:rgN 1 (2 * (m:Int)) 2=m:=by
  unfold rgN Builtin.Range.rangeSize
  rw[if_pos (by decide)]
  split <;> omega
 refine hj _ ⟨1,2 * (m:Int),2,rfl,⟨by decide,by decide,by omega,by omega,by decide,by decide⟩,fun d hd=>?_⟩
 rw[em,hb]
 refine Zd7 (J:=Zsk 1 2 m) (Q:=fun d H'=>Q (.ref d) H') m (fun i xs σ H9=>(∃ o,σ=o :: rest)/\Z0d Hc H9/\∃ as:List Addr,xs=as.map V.ref/\as.length=i/\∀ j,j < i->G j (as.getD j 0) H9) ⟨⟨_,rfl⟩,Z02 (Z0d.refl _) hd,[],rfl,rfl,fun j h=>absurd h (Y2i _)⟩ ?_ ?_
 ·rintro i xs σ H9 hi ⟨⟨o,rfl⟩,s9,as,rfl,la,hG⟩ hd9
  refine⟨hi,fun x H4 ⟨e1,e2⟩=>?_⟩
  subst e1 e2
  refine hte i _ _ hi s9 fun H5 a s5 ga=>?_
  refine Zk8 hi (s5 _ _ hd9) (by rw[Y09]; omega) ⟨⟨_,rfl⟩,Z02 (s9.trans s5) hd,as++[a],by rw[Y0p]; rfl,by rw[Y07,la]; rfl,fun j hj=>?_⟩
  rcases Y0z j i with c | c
  ·have e:(as++[a]).getD j 0=as.getD j 0:=by rw[Y05,Y0t (by omega),Y05]
   rw[e]
   exact stab j _ _ d as _ (by omega) (s5 _ _ hd9) (mono _ _ _ _ s5 (hG j c))
  ·have e:j=i:=by omega
   subst e
   have e:(as++[a]).getD j 0=a:=by rw[Y05,Y0q (by omega),la,Nat.sub_self]; rfl
   rw[e]
   exact stab j _ _ d as _ hi (s5 _ _ hd9) ga
 ·rintro xs σ H9 ⟨⟨o,rfl⟩,s9,as,rfl,la,hG⟩ hd9
  exact⟨Y06 _,k H9 d as s9 hd la hG hd9⟩
abbrev teS9 (K:Y01):TE:=Zpc (Z0w (Z2p Zk5 [] E0 (Z0w (tOp (Zop K) (Z1w 1) (tOp (rI0 fun i j=>.int (i - j)) (Z1w 0) (tC (.int 1)))) Z2t)) (Z0w (Z2p Zk5 [] E0 (Z0w (tOp (Zop K) (Z1w 1) (Z1w 0)) Z2t)) Z2t))
theorem Z7r (u:List Nat):∀ Ms:List (List Nat),(drM u Ms).length=2 * Ms.length
 | []=>rfl
 | M :: Ms=>by
  show ([btw 32 (M.map (nx u)),btw 124 M]++drM u Ms).length=_
  rw[Y07,Z7r u Ms]; show 2+2 * Ms.length=2 * (Ms.length+1); omega
theorem Zio (u:List Nat):∀ {Ms:List (List Nat)} {i:Nat} {M:List Nat},Ms[i]?=some M->(drM u Ms)[2 * i]?=some (btw 32 (M.map (nx u)))/\(drM u Ms)[2 * i+1]?=some (btw 124 M)
 | [],i,M,h=>by simp at h
 | N :: Ms,0,M,h=>by cases h; exact⟨rfl,rfl⟩
 | N :: Ms,i+1,M,h=>by
  rw[Y2e]at h
  obtain⟨h1,h2⟩:=Zio u h
  have e:drM u (N :: Ms)=[btw 32 (N.map (nx u)),btw 124 N]++drM u Ms:=rfl
  rw[e]
  refine⟨?_,?_⟩
  ·rw[Y0q (by show 2<=_; omega)]
   show (drM u Ms)[2 * (i+1) - 2]?=_
   rw[show 2 * (i+1) - 2=2 * i by omega]; exact h1
  ·rw[Y0q (by show 2<=_; omega)]
   show (drM u Ms)[2 * (i+1)+1 - 2]?=_
   rw[show 2 * (i+1)+1 - 2=2 * i+1 by omega]; exact h2
theorem Zbi {u:List Nat}{Ms:List (List Nat)}(hM:∀ M∈Ms,∀ x∈M,x < 36/\nx u x < 36){z:List Nat}(h:z∈drM u Ms):∀ c∈z,c < 0x110000:=by
 obtain⟨M,hm,hz⟩:=List.mem_flatMap.mp h
 have bt:∀ (b:Nat) (xs:List Nat),b < 200->(∀ x∈xs,x < 36)->∀ c∈btw b xs,c < 0x110000:=fun b xs hb hx c hc=>by
  rcases Y0j.mp hc with rfl | hc
  ·omega
  ·obtain⟨x,hx',hc⟩:=List.mem_flatMap.mp hc
   have:=hx x hx'
   simp only[Y0j,List.not_mem_nil,or_false]at hc
   rcases hc with rfl | rfl
   ·unfold sg; split <;> omega
   ·omega
 simp only[Y0j,List.not_mem_nil,or_false]at hz
 rcases hz with rfl | rfl
 ·refine bt 32 _ (by decide) fun x hx=>?_
  obtain⟨y,hy,rfl⟩:=Y0f.mp hx
  exact (hM M hm y hy).2
 ·exact bt 124 _ (by decide) fun x hx=>(hM M hm x hx).1
theorem Z47 {K:Y01}{H:Hp}:∀ zs:List (List Nat),Z5s K H (tvs zs) (zs.map fun z=>PyData.str (txt z))
 | []=>.nil
 | z :: zs=>.cons (.str _) (Z47 zs)
theorem Z57 {zs:List (List Nat)}(h:∀ z∈zs,∀ c∈z,c < 0x110000):(PyData.list (zs.map fun z=>PyData.str (txt z))).canLay0=true:=by
 show PyData.canLayAll0 _=true
 induction zs with
 | nil=>rfl
 | cons z zs ih=>
  show ((PyData.str (txt z)).canLay0 && PyData.canLayAll0 (zs.map fun z=>PyData.str (txt z)))=true
  rw[ih fun y hy=>h y (by simp[hy])]
  have:(PyData.str (txt z)).canLay0=true:=by
   show ((txt z).cps.all fun c=>decide (c < 0x110000))=true
   rw[Array.all_eq_true_iff_forall_mem]
   intro c hc
   exact decide_eq_true (h z (by simp) c (by simpa [txt] using hc))
  rw[this]; rfl
theorem Z7t (zs:List (List Nat)):(PyData.list (zs.map fun z=>PyData.str (txt z))).depth<=64:=by
 have:∀ zs:List (List Nat),PyData.depthAll (zs.map fun z=>PyData.str (txt z))<=1:=fun zs=>by
  induction zs with
  | nil=>decide
  | cons z zs ih=>exact Nat.max_le.mpr ⟨by show 0<=1; decide,ih⟩
 exact Y17 (Nat.succ_le_succ (this zs)) (by decide)
theorem Zcu (zs:List (List Nat)):PyData.eqv (.list (zs.map fun z=>PyData.str (txt z))) (.list (zs.map fun z=>PyData.str (txt z)))=true:=by
 show PyData.eqvAll _ _=true
 induction zs with
 | nil=>rfl
 | cons z zs ih=>
  show (PyData.eqv (.str (txt z)) (.str (txt z)) && PyData.eqvAll _ _)=true
  rw[ih]
  have:PyData.eqv (.str (txt z)) (.str (txt z))=true:=by show (txt z == txt z)=true; simp
  rw[this]; rfl
section
variable {P:Program}{w:World}{K:Y01}{mg:Str->Option Value}{base:Heap}
abbrev Zss:List Str:=["rows","pairs","sheet"]
theorem Zhu:Z0n Zss ["rows"] (Z08 Zda):=⟨rfl,rfl,rfl,by decide +kernel,rfl,by decide +kernel,by decide +kernel⟩
theorem Zr5:(["k","rows"]:List Str).Nodup:=by decide +kernel
end
end K1
namespace Sq
def rk (n k:Nat)(r:List Nat):List (List Nat):=((Y04 k).filter (Z5t n r)).map (cyc n r)
theorem Znu {n k:Nat}{r:List Nat}(h:Z5t n r k=true):rk n (k+1) r=rk n k r++[cyc n r k]:=by
 unfold rk
 rw[Y1j,Y1n,Y0p]
 simp[h]
theorem Zm7 {n k:Nat}{r:List Nat}(h:Z5t n r k=false):rk n (k+1) r=rk n k r:=by
 unfold rk
 rw[Y1j,Y1n]
 simp[h]
theorem Zlw {n k:Nat}{r:List Nat}{x:Nat}:x∈(rk n k r).flatten↔∃ l,l < k/\Z5t n r l=true/\x∈cyc n r l:=by
 unfold rk
 rw[Y2b]
 constructor
 ·rintro ⟨M,hM,hx⟩
  obtain⟨l,hl,rfl⟩:=Y0f.mp hM
  obtain⟨h1,h2⟩:=Y14.mp hl
  exact⟨l,Y08.mp h1,h2,hx⟩
 ·rintro ⟨l,h1,h2,hx⟩
  exact⟨_,Y0f.mpr ⟨l,Y14.mpr ⟨Y08.mpr h1,h2⟩,rfl⟩,hx⟩
theorem Zk1 {n k:Nat}{r:List Nat}(rr:Row n r)(hk:k < n)(h:Z5t n r k=true){x:Nat}(hx:x∈cyc n r k):x∉(rk n k r).flatten:=fun hm=>by
 obtain⟨l,h1,h2,h3⟩:=Zlw.mp hm
 have:=Z7d rr (by omega) hk h2 h h3 hx
 omega
theorem Zff {n k:Nat}{r:List Nat}(rr:Row n r)(hk:k < n)(h:Z5t n r k=false):k∈(rk n k r).flatten:=by
 obtain⟨l,hl,h1,h2⟩:=Zdx rr hk
 have:=Z4n.mp h1 k h2
 have:l≠k:=fun e=>by rw[e,h]at h1; cases h1
 exact Zlw.mpr ⟨l,by omega,h1,h2⟩
theorem Zqm (n k:Nat)(r:List Nat):(rk n k r).length<=k:=by
 unfold rk
 rw[Y09]
 have:=Y1z (Z5t n r) (Y04 k)
 rwa [Y0d]at this
theorem Z9o (b:Nat):∀ xs:List Nat,(xs.flatMap fun x=>[b,sg x])++[b]=btw b xs
 | []=>rfl
 | x :: xs=>by
  have ih:=Z9o b xs
  show [b,sg x]++(xs.flatMap fun x=>[b,sg x])++[b]=_
  rw[Y1l,ih]; rfl
end Sq
namespace L2
open PySem PySem.Spec PyProof.Rows
section
variable {X:Cx}
end
theorem Zi4 {c:TT}{tb:TS}{D:Z85}{σ:St}{H:Hp}(Pv:Nat->St->Hp->Prop)(h0:∃ m,Pv m σ H)
  (hs:∀ m σ H,Pv m σ H->c σ H fun b H1=>if b=true then tb { D with nx:=fun σ' H'=>∃ m',m' < m/\Pv m' σ' H',ct:=fun σ' H'=>∃ m',m' < m/\Pv m' σ' H',bk:=D.nx } σ H1 else D.nx σ H1)
  (mono:∀ σ H Q Q',(∀ b H1,Q b H1->Q' b H1)->c σ H Q->c σ H Q'):Zh4 c tb D σ H:=by
 refine⟨Pv,h0,?_⟩
 rintro m σ H p
 refine mono σ H _ _ (fun b H1 q=>?_) (hs m σ H p)
 cases b with
 | true=>exact⟨_,fun σ' H' z=>z,q⟩
 | false=>exact q
end L2
namespace K1
open PySem L2 Sq
def Z9t:Sp:=fun vs H Q _=>vs=[]/\Q (.str SG) H
def dkb (P:List Nat):List (Key×V):=P.map fun (x:Nat)=>((Sum.inl (x:Int):Key),V.bl true)
theorem Zc9 (k:Nat):∀ P:List Nat,Z2s (dkb P) (Sum.inl (k:Int):Key)=if k∈P then some (.bl true) else none
 | []=>rfl
 | x :: P=>by
  show Z2s (((Sum.inl (x:Int):Key),V.bl true) :: dkb P) _=_
  by_cases e:x=k
  ·subst e; rw[Z21 rfl,if_pos (by simp)]
  ·rw[Z17 (fun z=>e (by have:(x:Int)=(k:Int):=Sum.inl.inj z; omega)),Zc9 k P]
   by_cases m:k∈P
   ·rw[if_pos m,if_pos (by simp[m])]
   ·rw[if_neg m,if_neg (by simp[m]; exact fun z=>e z.symm)]
theorem Zpj {P:List Nat}{x:Nat}(h:x∉P):Z58 (dkb P) (Sum.inl (x:Int):Key) (V.bl true)=dkb (P++[x]):=by
 rw[Z28 _ (by rw[Zc9,if_neg h])]
 unfold dkb; rw[Y0p]; rfl
theorem Zof (u:List Nat)(A B:List (List Nat)):drM u (A++B)=drM u A++drM u B:=by unfold drM; rw[Y24]
theorem Zni {n i:Nat}{r u:List Nat}(rr:Row n r)(hi:i < n)(hn:n<=36):∃ (M P:List Nat),(M=if Z5t n r i=true then cyc n r i else [])/\P=(rk n i r).flatten/\(∀ x∈M,x < n)/\M.length<=36/\(P++M).length<=36/\∃ sq:Nat->Nat,sq 0=i/\(∀ j,j < M.length->M[j]?=some (sq j))/\(∀ j,j < M.length->sq (j+1)=nx r (sq j))/\sq M.length∈P++M/\(∀ j,j < M.length->sq j∉P++M.take j)/\(rk n (i+1) r).flatten=P++M/\drM u (rk n (i+1) r)=drM u (rk n i r)++(if M=[] then [] else [btw 32 (M.map (nx u)),btw 124 M]):=by
 have sub:∀ j,j<=n->((rk n j r).flatten).length<=36:=fun j hj=>by
  have nd:(Z0g n r).flatten.Nodup:=(Z1k rr).nodup_iff.mpr Y0v
  have:(rk n j r).flatten.length<=(Z0g n r).flatten.length:=by
   have e:∃ B,Z0g n r=rk n j r++B:=by
    obtain⟨m,rfl⟩:∃ m,n=j+m:=⟨n - j,by omega⟩
    refine⟨(((Y04 m).map (j + ·)).filter (Z5t (j+m) r)).map (cyc (j+m) r),?_⟩
    unfold Z0g rk
    rw[List.range_add,Y1n,Y0p]
   obtain⟨B,e⟩:=e
   rw[e,Y2k,Y07]; omega
  rw[(Z1k rr).length_eq,Y0d]at this
  omega
 cases h:Z5t n r i with
 | true=>
  have c:=Z4v rr hi
  have hl:=Z6r n r i
  have e1:=Znu h
  have e2:(rk n (i+1) r).flatten=(rk n i r).flatten++cyc n r i:=by rw[e1,Y2k]; simp
  have s1:=sub (i+1) (by omega)
  rw[e2]at s1
  have c36:(cyc n r i).length<=36:=by rw[Y07]at s1; omega
  refine⟨cyc n r i,(rk n i r).flatten,by rw[if_pos rfl],rfl,fun x hx=>Z68 rr hi hx,c36,s1,it r i,rfl,fun j hj=>c.get hj,fun j hj=>rfl,?_,fun j hj hm=>?_,e2,?_⟩
  ·rw[c.back]
   exact Y0k _ (Y0a (Z4i rr hi))
  ·have hg:=c.get hj
   rcases Y0n.mp hm with g | g
   ·exact Zk1 rr hi h (Y0a hg) g
   ·have nd:=c.nd rr hi
    rw[<-Y1x j (cyc n r i)]at nd
    refine (Y1y.mp nd).2.2 _ g _ ?_ rfl
    rw[Y26 hj]
    simp[(Y03.mp hg).2]
  ·have ne:cyc n r i≠[]:=fun z=>by have:=c.pos; rw[z]at this; simp at this
   rw[e1,Zof,if_neg ne]; rfl
 | false=>
  refine⟨[],(rk n i r).flatten,by simp,rfl,by simp,by simp,by rw[Y1f]; exact sub i (by omega),fun _=>i,rfl,fun j hj=>by simp at hj,fun j hj=>by simp at hj,by rw[Y1f]; exact Zff rr hi h,fun j hj=>by simp at hj,by rw[Zm7 h,Y1f],by rw[Zm7 h,if_pos rfl,Y1f]⟩
section
variable {P:Program}{w:World}{K:Y01}{mg:Str->Option Value}{base:Heap}
end
end K1
namespace L2
open PySem PySem.Spec PyProof.Rows
section
variable {X:Cx}{x:Str}{DA:Addr}{b₀:Stmt}{suite:List Stmt}{ts:TS}{tr:TH}{np hpos pos:Pos}{rest:List ExceptHandler}
end
section
variable {X:Cx}{pins:List (Addr×Obj)}{σ:St}{H:Hp}{C:Value}{d:Option Addr}{e:Addr}{s:Shared}
theorem Zfq.push {o:Obj}(x:Zfq X pins σ H C d e s):Zfq X pins σ H C d e { s with heap:=s.heap.push o }:=by
 obtain⟨Hc,sc,B,fl,I,ho,hb,⟨a1,a2,a3⟩,⟨oe,vs,T,oT,ts,h1,h2,h3,h4,h5,h6,h7,h8,h9,h10⟩,hok,u⟩:=x.ex
 have k:∀ b q,s.heap.get? b=some q->(s.heap.push o).get? b=some q:=fun b q z=>Y02 _ z
 exact⟨Hc,sc,B,fl,I,ho,hb,⟨fun b q z=>k _ _ (a1 b q z),a2,a3.of_keeps fun b q z _=>⟨q,k _ _ z,rfl⟩⟩,⟨oe,vs,T,oT,ts,k _ _ h1,h2,h3,h4,h5,h6,h7,k _ _ h8,h9,h10⟩,hok,
  ⟨u.keep,fun b q z n m=>let ⟨sl,y⟩:=u.slot b q z n m; ⟨sl,k _ _ y⟩,u.free,u.there,u.tups,u.frzs,u.tbls⟩⟩
theorem Zd4 {M:Model}{A:Around}{E:Value->Shared->Prop}{s:Shared}{K:Y01}{e t D1 D2:Addr}{o:Obj}{C:Value}{b1 b2:Bool}{Q:Bool->Shared->Prop}{ot:Obj}{items:Array Value}{n:Nat}(k:K.In s.heap)(he:s.heap.get? e=some o)(hc:o.cls=C)
  (ht:s.heap.get? t=some ot) (htc:ot.cls=.type "tuple") (htd:ot.data=.seq items n) (hti:items.toList=[.ref D1,.ref D2])
  (x1:Zli K D1) (x2:Zli K D2) (h4:Y0m K C (.ref D1)=some b1) (h5:Y0m K C (.ref D2)=some b2) (q:Q (b1 || b2) s):wpAny M A (excMatches (.ref e) (.ref t)) Q E s:=by
 have LT:∀ {D:Addr},Zli K D->Y27 M s.heap (isType (.ref D)) true:=fun {D} x=>by
  have h2:=x.cl
  unfold Y2n at h2
  split at h2
  ·rename_i ho
   intro A' Q' E' s' kk z
   unfold isType loadHead
   exact wpAny_bind (wpAny_loadPart (kk _ _ (k _ _ ho)) (wpAny_pure z))
  ·cases h2
 have L3:∀ {D:Addr},Zli K D->Y27 M s.heap (isSubtype (.ref D) (.type "BaseException")) true:=fun x=>Y2j k x.ex
 have L4:Y27 M s.heap (isSubtype C (.ref D1)) b1:=Y2j k h4
 have L4':Y27 M s.heap (isSubtype C (.ref D2)) b2:=Y2j k h5
 have L5:Y27 M s.heap (typeOf (.ref e)) C:=hc ▸ (PySem.W.Looks.ld he).andThen .now
 have hT:s.TypeIs (.ref t) "tuple":=⟨ot,ht,htc⟩
 unfold excMatches
 refine wpAny_bind (wpAny_isInstance hT isSubtype_tuple_tuple ?_)
 rw[if_pos rfl]
 refine wpAny_bind (wpAny_seqItems ht htd (wpAny_bind (wpAny_pure ?_)))
 dsimp only [Option.getD]
 rw[hti]
 refine wpAny_bind ?_
 rw[Y2h]
 unfold isExcClass
 refine wpAny_bind (wpAny_bind (wpAny_bind ((LT x1).at ?_)))
 rw[if_pos rfl]
 refine (L3 x1).at ?_
 refine wpAny_pure ?_
 dsimp only
 rw[Y2h]
 refine wpAny_bind (wpAny_bind (wpAny_bind ((LT x2).at ?_)))
 rw[if_pos rfl]
 refine (L3 x2).at ?_
 refine wpAny_pure ?_
 dsimp only
 rw[List.forIn_nil]
 refine wpAny_pure ?_
 refine wpAny_bind (L5.at ?_)
 refine wpAny_bind ?_
 rw[Y2h]
 refine wpAny_bind (wpAny_bind (L4.at ?_))
 cases b1 with
 | true=>exact wpAny_pure (wpAny_pure (wpAny_pure q))
 | false=>
  refine wpAny_pure ?_
  dsimp only
  rw[Y2h]
  refine wpAny_bind (wpAny_bind (L4'.at ?_))
  cases b2 with
  | true=>exact wpAny_pure (wpAny_pure (wpAny_pure q))
  | false=>
   refine wpAny_pure ?_
   dsimp only
   rw[List.forIn_nil]
   exact wpAny_pure (wpAny_pure q)
end
def hNo2 (K:Y01)(A B:Addr)(ts:TS)(tr:TH):TH:=fun C d D σ H=>∃ b c,Y0m K C (.ref A)=some b/\Y0m K C (.ref B)=some c/\if (b || c)=true then ts D σ H else tr C d D σ H
section
variable {X:Cx}{x y:Str}{DA DB:Addr}{b₀:Stmt}{suite:List Stmt}{ts:TS}{tr:TH}{np np' hpos pos tpos:Pos}{rest:List ExceptHandler}{nk:Nat}
theorem Zq2 (hc:X.calm=true)(hC:Zli X.K DA)(hC':Zli X.K DB)(hg:Gl X x)(hg':Gl X y)(hm:X.mg x=some (.ref DA))(hm':X.mg y=some (.ref DB))(hs:∀ pn e,PSs (X.su pn e) (b₀ :: suite) ts)(hr:PH X rest tr)
  (hdb:(x == ("__debug__":Str))=false:=by decide) (hdb':(y == ("__debug__":Str))=false:=by decide)
  (h1:starEach [.Name x np,.Name y np'] X.env=(false,eval (.Name x np) X.env) :: starEach [.Name y np'] X.env:=by rfl) (h2:starEach [.Name y np'] X.env=(false,eval (.Name y np') X.env) :: starEach [] X.env:=by rfl) :
  PH X (.ExceptHandler (some (.Tuple [.Name x np,.Name y np'] nk tpos)) none (b₀ :: suite) hpos :: rest) (hNo2 X.K DA DB ts tr):=by
 intro pins s σ H D C d e hl h
 obtain⟨b,c,hb,hc',h⟩:=h
 have I:=hl.inv
 have Is:Inv (X.su (X.pn++pins) e) [] σ H s:=I.su
 obtain⟨oe,vs,q1,q2,_⟩:∃ o vs,s.heap.get? e=some o/\o.cls=C/\o.dict=d/\o.data=.fields vs/\vs[2]?=some .none:=by
  obtain⟨_,_,_,_,_,_,_,_,⟨oe,vs,T,oT,ts,h1,h2,h3,⟨h4,h5⟩,_⟩,_⟩:=hl.ex
  exact⟨oe,vs,h1,h2,h3,h4,h5⟩
 refine wpAny_handleBy_cons (codeAny_handlers_test (wpAny_Tuple_spliced ?_)) (by intro q; cases q)
 rw[h1,h2]
 refine Calls.spliced_cons (Z2y Is hg hm ?_ hdb)
 refine Calls.spliced_cons (Z2y Is hg' hm' ?_ hdb')
 refine Calls.spliced_nil ⟨by show 2<=sizeLine; decide,?_⟩
 have hl:=hl.push (o:={ cls:=Value.type "tuple",data:=Data.seq #[Value.ref DA,Value.ref DB] })
 have I:=hl.inv
 refine Zd4 (b1:=b) (b2:=c) I.kIn (Y02 _ q1) q2 (Y0b _ rfl) rfl rfl rfl hC hC' hb hc' ?_
 cases hbc:(b || c) with
 | false=>exact hr pins _ σ H D C d e hl (by rw[hbc]at h; simpa using h)
 | true=>
  have h:ts D σ H:=by rw[hbc]at h; simpa using h
  refine codeAny_handlers_suite ?_
  obtain⟨Hc,sc,B,f0,I0,ho,hbr,a,xo,hok,u⟩:=hl.ex
  refine Z4k (o:=none) a xo fun h2 a2 x2 up=>?_
  have hl2:Zfq X pins σ H C d e { s with heap:=h2 }:=⟨Hc,sc,B,_,I0,ho,hbr,a2,x2,hok,u.up a rfl up⟩
  have I2:Inv (X.su (X.pn++pins) e) [] σ H { s with heap:=h2 }:=hl2.inv.su
  refine wpAny_mono (hs (X.pn++pins) e [] _ _ _ D I2 h) (fun f s4 hf=>?_) fun _ _ z=>z.elim
  have hd:=I.ok.hd hc
  cases f with
  | next=>
   obtain⟨σ4,H4,I4,q⟩:=hf
   exact⟨_,H4,Inv.unsu hc hd I4,q⟩
  | brk=>
   obtain⟨σ4,H4,I4,q⟩:=hf
   exact⟨_,H4,Inv.unsu hc hd I4,q⟩
  | cont=>
   obtain⟨σ4,H4,I4,q⟩:=hf
   exact⟨_,H4,Inv.unsu hc hd I4,q⟩
  | ret uv=>
   obtain⟨v,σ4,H4,I4,rv,q⟩:=hf
   exact⟨v,_,H4,Inv.unsu hc hd I4,rv,q⟩
end
theorem Zs2 {h:Heap}{P:Program}{w:World}{a:Addr}{vs:List (Key×Value)}(x:h.DictOf (Z0y P w) a vs):∃ ep,h.DictAt (Z0y P w) a vs ep:=by
 obtain⟨o,es,ep,r⟩:=x
 exact⟨ep,o,es,r⟩
theorem Zbf {P:Program}{w:World}:∀ {kvs:List (Key×V)} {vs:List (Key×Value)},KV kvs vs->∀ {l:List Value},l.length=vs.length->(∀ (j:Nat) (v:Value),l[j]?=some v->∃ k x,vs[j]?=some (k,x)/\(Z0y P w).is k v=true)->Z1c (kvs.map fun kv=>kV kv.1) l
 | [],_,.nil,[],_,_=>.nil
 | [],_,.nil,_ :: _,h,_=>by simp at h
 | _ :: _,_,.cons _ _,[],h,_=>by simp at h
 | (k,y) :: kvs,_,.cons (b:=(k',x)) r t,v :: l,h,g=>by
  obtain⟨k2,x2,e,hk⟩:=g 0 v rfl
  have e:(k',x)=(k2,x2):=by simpa using e
  obtain⟨rfl,rfl⟩:=Prod.mk.inj e
  have r1:k=k':=r.1
  subst r1
  exact .cons (Z53 hk) (Zbf t (by simpa using h) fun j u hu=>by simpa using g (j+1) u (by simpa using hu))
theorem Zbt:∀ {kvs:List (Key×V)} {vs:List (Key×Value)},KV kvs vs->∀ {l:List Value},l.length=vs.length->(∀ (j:Nat) (v:Value),l[j]?=some v->∃ k,vs[j]?=some (k,v))->Z1c (kvs.map fun kv=>kv.2) l
 | [],_,.nil,[],_,_=>.nil
 | [],_,.nil,_ :: _,h,_=>by simp at h
 | _ :: _,_,.cons _ _,[],h,_=>by simp at h
 | (k,y) :: kvs,_,.cons (b:=(k',x)) r t,v :: l,h,g=>by
  obtain⟨k2,e⟩:=g 0 v rfl
  have e:(k',x)=(k2,v):=by simpa using e
  obtain⟨rfl,rfl⟩:=Prod.mk.inj e
  exact .cons r.2 (Zbt t (by simpa using h) fun j u hu=>by simpa using g (j+1) u (by simpa using hu))
def vvO (v d:Addr):HO:=.ext fun h=>h.IsValuesView v d
section
variable {X:Cx}
theorem Zfr (hc:X.calm=true):Z33 X (.type "list") (fun xs H Q=>∃ (d:Addr) (kvs:List (Key×V)),xs=[.ref d]/\H d=some (.dK kvs)/\∀ l,H l=none->Q (.ref l) (upd H l (.lst (kvs.map fun kv=>kV kv.1)))):=by
 intro pins s σ H xs us Q I r h
 obtain⟨d,kvs,rfl,hd,q⟩:=h
 obtain⟨u,rfl,ru⟩:=Z3l r
 obtain rfl:u=Value.ref d:=ru
 obtain⟨hz,lo,vs,rv,dd⟩:=Zfo I.hok hd
 obtain⟨ep,da⟩:=Zs2 dd
 have hl:kvs.length=vs.length:=rv.length
 refine PySem.W.kdl_call (PySem.W.kdl_dict (knd:=Z0y X.prog X.w) (kvs:=vs) (ep:=ep) lo) (I.ok.hd hc) da (by omega) fun h' tk acc c hk he hI=>?_
 refine⟨.ref s.heap.objs.size,_,I.laid (a:=s.heap.objs.size) (o:=.lst (kvs.map fun kv=>kV kv.1)) (h':=h') (t':=tk) hk (Y06 _) ⟨by rw[Y09]; exact hz,acc.toList,c,?_,by simpa using he⟩,rfl,q _ (I.hok.fresh (Y06 _))⟩
 obtain⟨hsz,hi⟩:=hI
 exact Zbf rv (by simpa using hsz) fun j v hj=>hi j v (by simpa using hj)
def Znr:V->List V->Hp->VK->Prop:=fun x vs H Q=>∃ (d:Addr) (kvs:List (Key×V)),x=.ref d/\vs=[]/\H d=some (.dK kvs)/\∀ v,H v=none->Q (.ref v) (upd H v (vvO v d))
theorem Zat:MtM X "dict.values" Znr:=by
 intro pins s σ H x vs v us Q I rx rv h
 obtain⟨d,kvs,rfl,rfl,hd,q⟩:=h
 cases rx
 have hus:=rv.zero
 subst hus
 obtain⟨hz,lo,vs,rv,dd⟩:=Zfo I.hok hd
 refine call_meetsIn PySem.F.slot_dict_values dd.typeIs PySem.F.entry_dict_values (PySem.F.args_dict_values_1 _) (meets_dict_values (Z0y X.prog X.w) d lo) ⟨⟨vs,dd⟩,?_⟩
 have hv:(s.heap.push { cls:=.type "dict_values",data:=.fields #[.ref d] }).IsValuesView s.heap.objs.size d:=⟨_,Y0b _ rfl,rfl,rfl⟩
 refine⟨.ref s.heap.objs.size,_,I.laid (a:=s.heap.objs.size) (o:=vvO s.heap.objs.size d) (t':=s.toks) (fun b u e=>Y02 _ e) (Y06 _) ?_,rfl,q _ (I.hok.fresh (Y06 _))⟩
 exact⟨hv,⟨_,Y0b _ rfl⟩,fun h1 h2 ⟨o,ho,r⟩ k=>⟨o,k _ ho,r⟩⟩
theorem Z8l (hc:X.calm=true):Z33 X (.type "list") (fun xs H Q=>∃ (v d:Addr) (kvs:List (Key×V)),xs=[.ref v]/\H v=some (vvO v d)/\H d=some (.dK kvs)/\∀ l,H l=none->Q (.ref l) (upd H l (.lst (kvs.map fun kv=>kv.2)))):=by
 intro pins s σ H xs us Q I r h
 obtain⟨v,d,kvs,rfl,hv,hd,q⟩:=h
 obtain⟨u,rfl,ru⟩:=Z3l r
 obtain rfl:u=Value.ref v:=ru
 obtain⟨hz,lo,vs,rv,dd⟩:=Zfo I.hok hd
 obtain⟨ep,da⟩:=Zs2 dd
 have hl:kvs.length=vs.length:=rv.length
 have hview:s.heap.IsValuesView v d:=(I.hok v _ hv).1
 refine PySem.W.kdl_call (PySem.W.kdl_values (knd:=Z0y X.prog X.w) (r:=v) (d:=d) (kvs:=vs) (ep:=ep)) (I.ok.hd hc) ⟨hview,da⟩ (by omega) fun h' tk acc c hk he hI=>?_
 refine⟨.ref s.heap.objs.size,_,I.laid (a:=s.heap.objs.size) (o:=.lst (kvs.map fun kv=>kv.2)) (h':=h') (t':=tk) hk (Y06 _) ⟨by rw[Y09]; exact hz,acc.toList,c,?_,by simpa using he⟩,rfl,q _ (I.hok.fresh (Y06 _))⟩
 obtain⟨hsz,hi⟩:=hI
 exact Zbt rv (by simpa using hsz) fun j v hj=>hi j v (by simpa using hj)
theorem Z6h {M:Model}{A:Around}{E:Value->Shared->Prop}{s:Shared}{env:Env}{o i:Expr}{pos':Pos}{v:Value}{Q:Unit->Shared->Prop}
  (h:wpAny M A (eval o env) (fun ov s₂=>wpAny M A (eval i env) (fun iv s₃=>wpAny M A (setItem ov iv v) Q E s₃) E s₂) E s):wpAny M A (assign (.Subscript o i pos') env v) Q E s:=fun Γ p hΓ=>by
 simp only[assign_Subscript,Sem.wp_bind',Sem.wp_holding,Sem.wp_cmd_standAt,Sem.wp_release,Sem.wp_pure']
 exact Sem.wp_mono M Γ _ (fun ov p₂ s₂ h₂=>Sem.wp_mono M Γ _ (fun iv _ s₃ h₃=>h₃ Γ _ hΓ) (fun _ _ _ h'=>h') _ _ (h₂ Γ p₂ hΓ)) (fun _ _ _ h'=>h') _ _ (h Γ _ hΓ)
def Ztz (to ti:TE):TG:=fun v σ H Q=>to σ H fun x H2=>ti σ H2 fun y H3=>Zog x y v H3 fun H4=>Q σ H4
theorem Z9b {o i:Expr}{to ti:TE}{pos':Pos}(ho:PE X o to)(hi:PE X i ti):PG X (.Subscript o i pos') (Ztz to ti):=by
 intro pins s σ H v u Q I r h
 refine Z6h (thn (ho pins s σ H _ I h) fun ov s2 ⟨x,H2,I2,rx,q2⟩=>thn (hi pins s2 σ H2 _ I2 q2) fun iv s3 ⟨y,H3,I3,ry,q3⟩=>?_)
 exact thn (Ze1 pins s3 σ H3 x y v ov iv u _ I3 rx ry r q3) fun _ s4 ⟨H4,I4,q4⟩=>⟨σ,H4,I4,q4⟩
end
theorem Zlg {K:Y01}{l1 l2:Addr}{xs ys:List V}{g:TG}{tb:TS}{D:Z85}{σ:St}{H:Hp}(Pv:Nat->St->Hp->Prop)(h0:Pv 0 σ H)(hL:∀ i σ H,Pv i σ H->SqL K H l1 xs/\SqL K H l2 ys)
  (hs:∀ i a b σ H T,xs[i]?=some a->ys[i]?=some b->H T=none->Pv i σ H->g (.ref T) σ (upd H T (Z42 T [a,b])) fun σ2 H2=>tb { D with nx:=Pv (i+1),ct:=Pv (i+1),bk:=D.nx } σ2 H2) (hd:∀ σ H,Pv (min xs.length ys.length) σ H->D.nx σ H) :
  ∃ W:Nat->Nat->St->Hp->Prop,(∃ m,W 0 m σ H)/\∀ i m σ H,W i m σ H->
   ((Zmq K l1 l2).stop i H/\D.nx σ H)\/((Zmq K l1 l2).go i H/\∃ N:St->Hp->Prop,(∀ σ' H',N σ' H'->∃ m',m' < m/\W (i+1) m' σ' H')/\∀ x H',(Zmq K l1 l2).yld i H x H'->g x σ H' fun σ2 H2=>tb { D with nx:=N,ct:=N,bk:=D.nx } σ2 H2):=by
 refine⟨fun i m σ H=>m=min xs.length ys.length - i/\i<=min xs.length ys.length/\Pv i σ H,⟨min xs.length ys.length,by simp,Y0w _,h0⟩,?_⟩
 rintro i m σ H ⟨rfl,hi,hp⟩
 obtain⟨q1,q2⟩:=hL i σ H hp
 by_cases hlt:i < min xs.length ys.length
 ·have l1':i < xs.length:=by omega
  have l2':i < ys.length:=by omega
  have g1:xs[i]?=some xs[i]:=Y00 l1'
  have g2:ys[i]?=some ys[i]:=Y00 l2'
  refine .inr ⟨⟨_,_,_,_,q1,q2,g1,g2⟩,Pv (i+1),fun σ' H' p'=>⟨min xs.length ys.length - (i+1),by omega,rfl,by omega,p'⟩,fun x H' y=>?_⟩
  obtain⟨T,a,b,hT,rfl,e1,e2,rfl⟩:=y
  exact hs i a b σ H T (e1 _ q1) (e2 _ q2) hT hp
 ·have e:i=min xs.length ys.length:=by omega
  exact .inl ⟨⟨xs,ys,q1,q2,e.symm⟩,hd σ H (e ▸ hp)⟩
def Zgf (z:Str):It:=⟨fun i _=>i < z.length,fun i H x H'=>∃ T c,H T=none/\x=.ref T/\z.cps[i]?=some c/\H'=upd H T (Z42 T [.int (i:Int),.str ⟨#[c]⟩]),fun i _=>z.length=i⟩
theorem Zl3 {P:Program}{w:World}{K:Y01}{elts:List Expr}{k:Nat}{pos:Pos}(e it:Addr)(hne:e≠it)(z:Str)(t:Tok):Zjs P w K (.Tuple elts k pos) (Zgf z) [e,it] e (fun i h=>(∃ old,IsEnum h e it i old)/\h.IsStrIter it (strIterType z) z t i):=by
 have W:∀ {A:Around},A.handled=none->∃ Mid,WalksT P w A e [e,it] [e,it] z.cps.size (fun i vals=>∃ tk x,(∃ c u,z.cps[i]?=some c/\x=Value.str ⟨#[c]⟩ u)/\vals=#[.int i tk,x]) (fun i h=>(∃ old,IsEnum h e it i old)/\h.IsStrIter it (strIterType z) z t i) Mid:=by
  intro A hh
  unfold strIterType
  split
  ·exact⟨_,WalksT.enumerateD (Draws.strAscii (A:=A.in1) hh it z t) e hne (by simpa using hne) (by simp)⟩
  ·exact⟨_,WalksT.enumerateD (Draws.strWide (A:=A.in1) hh it z t) e hne (by simpa using hne) (by simp)⟩
 refine⟨by simp,fun i h st b hb=>?_,fun i h h' st kp=>?_,?_,?_,fun A i s Q E st h=>?_⟩
 ·obtain⟨⟨old,he⟩,o,q1,q2,q3⟩:=st
  rcases Y0j.mp hb with rfl | hb
  ·exact⟨_,he,fun v z=>nomatch z⟩
  ·rw[Y0g.mp hb]; exact⟨o,q1,fun v z=>by rw[q3]at z; cases z⟩
 ·obtain⟨⟨old,he⟩,o,q1,q2⟩:=st
  exact⟨⟨old,kp e (by simp) _ he⟩,o,kp it (by simp) _ q1,q2⟩
 ·intro X hP hw hK hc i pins s σ H E I hf st hg
  subst hP hw
  obtain⟨Mid,W⟩:=W (I.ok.hd hc)
  obtain⟨old,he⟩:=id st.1
  obtain⟨oi,hoi,_⟩:=id st.2
  have hlt:i < z.cps.size:=hg
  refine W.item i s _ E hlt st fun T vals h' tk hPt hT htup hMid hk=>⟨.ref T,rfl,?_⟩
  refine W.go elts k pos i T _ _ E hMid fun h'' hSt hk2=>?_
  obtain⟨t',y',⟨c,u,hcu,rfl⟩,rfl⟩:=hPt
  have htup2:IsTup h'' T #[.int (i:Int) t',.str ⟨#[c]⟩ u]:=by
   obtain⟨o,q1,q2⟩:=htup
   exact⟨o,hk2 T o (W.apart _ _ _ hMid) q1,q2⟩
  refine⟨.ref T,upd H T (Z42 T [.int (i:Int),.str ⟨#[c]⟩]),?_,rfl,⟨T,c,I.hok.fresh hT,rfl,hcu,rfl⟩,hSt,fun b hb=>?_⟩
  ·exact I.turnLaid (s:=s) (h':=h'') (t':=tk) hf hT (fun b ob hb q=>hk2 b ob hb (hk b ob hb q)) (Zd8 ⟨by show 2<=sizeLine; decide,[.int (i:Int) t',.str ⟨#[c]⟩ u],.cons ⟨t',rfl⟩ (.cons ⟨u,rfl⟩ .nil),htup2⟩)
  ·have hbT:b≠T:=fun z=>by
    have:b < s.heap.objs.size:=by
     rcases Y0j.mp hb with rfl | hb
     ·exact Y0c he
     ·rw[Y0g.mp hb]; exact Y0c hoi
    exact absurd (Y0h this hT) (by rw[z]; exact Y1i _)
   rw[Z05 hbT]; exact (hf b hb).1
 ·intro X hP hw hK hc i pins s σ H E I hf st hs
  subst hP hw
  obtain⟨Mid,W⟩:=W (I.ok.hd hc)
  have hi:i=z.cps.size:=hs.symm
  refine W.done s _ E (by rw[<-hi]; exact st) fun h' tk hk=>⟨rfl,?_⟩
  exact I.turnedL hf hk
 ·obtain⟨⟨old,he⟩,_⟩:=st; exact wpAny_pyIter_enum he h
section
variable {X:Cx}{elts:List Expr}{k:Nat}{tpos:Pos}
def Zse (ta:TA):TI:=fun σ H R=>ta σ H fun vs H1=>∃ z,vs=[.str z]/\R (Zgf z) H1
theorem Zkl {l:Expr}{ta:TA}{p pos:Pos}(hg:Gl X "enumerate")(hm:X.mg "enumerate"=none)(ha:PA X [l] ta)(hs:starEach [l] X.env=[(false,eval l X.env)]:=by rfl) :
  PI X (.Tuple elts k tpos) (.Call (.Name "enumerate" p) [l] [] pos) (Zse ta):=by
 intro pins s σ H R I h
 refine Call_ (Z4x I hg hm Z77 (PyProof.Rows.callWith_type1 (thn (ha pos pins s σ H _ I h) fun us s1 ⟨vs,H1,I1,r1,q1⟩=>?_) hs rfl))
 obtain⟨z,rfl,q⟩:=q1
 obtain⟨u,rfl,ru⟩:=Z3l r1
 obtain⟨t,rfl⟩:=ru
 refine call_enumerate_str fun h' he hit hsz hk=>?_
 refine wpAny_pyIter_enum he ?_
 have I2:Inv X pins σ H1 { s1 with heap:=h' }:=I1.kept (t':=s1.toks) hk
 refine⟨s1.heap.objs.size+1,[s1.heap.objs.size+1,s1.heap.objs.size],_,_,H1,rfl,I2,Zl3 (s1.heap.objs.size+1) s1.heap.objs.size (Nat.succ_ne_self _) z t,⟨⟨_,he⟩,hit⟩,fun b hb=>?_,q⟩
 rcases Y0j.mp hb with rfl | hb
 ·exact I1.fpOk (Nat.le_succ _) (I1.hok.fresh (Nat.le_succ _))
 ·rw[Y0g.mp hb]; exact I1.fpOk (Y06 _) (I1.hok.fresh (Y06 _))
theorem Zpe {z:Str}{g:TG}{tb:TS}{D:Z85}{σ:St}{H:Hp}(Pv:Nat->St->Hp->Prop)(h0:Pv 0 σ H)
  (hs:∀ i c σ H T,z.cps[i]?=some c->H T=none->Pv i σ H->g (.ref T) σ (upd H T (Z42 T [.int (i:Int),.str ⟨#[c]⟩])) fun σ2 H2=>tb { D with nx:=Pv (i+1),ct:=Pv (i+1),bk:=D.nx } σ2 H2) (hd:∀ σ H,Pv z.length σ H->D.nx σ H) :
  ∃ W:Nat->Nat->St->Hp->Prop,(∃ m,W 0 m σ H)/\∀ i m σ H,W i m σ H->
   ((Zgf z).stop i H/\D.nx σ H)\/((Zgf z).go i H/\∃ N:St->Hp->Prop,(∀ σ' H',N σ' H'->∃ m',m' < m/\W (i+1) m' σ' H')/\∀ x H',(Zgf z).yld i H x H'->g x σ H' fun σ2 H2=>tb { D with nx:=N,ct:=N,bk:=D.nx } σ2 H2):=by
 refine⟨fun i m σ H=>m=z.length - i/\i<=z.length/\Pv i σ H,⟨z.length,by simp,Y0w _,h0⟩,?_⟩
 rintro i m σ H ⟨rfl,hi,hp⟩
 rcases Y0z i z.length with c | c
 ·refine .inr ⟨c,Pv (i+1),fun σ' H' q=>⟨z.length - (i+1),by omega,rfl,c,q⟩,?_⟩
  rintro x H' ⟨T,ch,hT,rfl,hc,rfl⟩
  exact hs i ch σ H T hc hT hp
 ·have e:i=z.length:=by omega
  exact .inl ⟨e.symm,hd σ H (e ▸ hp)⟩
end
end L2
namespace Sq
theorem Zau {n:Nat}{r M:List Nat}(rr:Row n r)(nd:M.Nodup)(lt:∀ x∈M,x < n)(sh:∀ x∈M,nx r x∈M){x:Nat}(hx:x∈M):nx (back r) x∈M:=by
 have ex:∃ y∈M,nx r y=x:=by
  apply Classical.byContradiction
  intro hn
  have hs:∀ z∈M.map (nx r),z∈M.erase x:=fun z hz=>by
   obtain⟨y,hy,rfl⟩:=Y0f.mp hz
   exact (List.mem_erase_of_ne fun e=>hn ⟨y,hy,e⟩).mpr (sh y hy)
  have nd2:(M.map (nx r)).Nodup:=by
   rw[List.nodup_iff_pairwise_ne,Y1w]
   refine nd.imp_of_mem fun {a b} ha hb hab e=>hab ?_
   have h1:=rr.idx_nx (lt a ha)
   have h2:=rr.idx_nx (lt b hb)
   rw[e]at h1
   exact h1.symm.trans h2
  have:=Z16 _ _ nd2 hs
  rw[Y09,List.length_erase_of_mem hx]at this
  have:=Y2m hx
  omega
 obtain⟨y,hy,rfl⟩:=ex
 rw[Z46 rr (rr.nlt (lt y hy)),rr.idx_nx (lt y hy)]
 exact hy
theorem Z2w.con {n:Nat}{r u M:List Nat}(rr:Row n r)(ru:Row n u)(h:Z2w n r u 0 M){x:Nat}:x∈M↔Con r u 0 x:=by
 constructor
 ·exact h.least (fun x=>Con r u 0 x) (Con.refl _ _ _) (fun x _ hc=>⟨hc.trans (Con.step x 0 (by decide)),hc.trans (Con.step x 2 (by decide))⟩) x
 ·rintro ⟨p,h4,rfl⟩
  have:∀ (p:List Nat) (y:Nat),y∈M->(∀ c∈p,c < 4)->go r u y p∈M:=by
   intro p
   induction p with
   | nil=>intro y hy _; exact hy
   | cons c p ih=>
    intro y hy h4
    refine ih _ ?_ (fun z hz=>h4 z (by simp[hz]))
    match c,h4 c (by simp) with
    | 0,_=>exact (h.shut y hy).1
    | 1,_=>exact Zau rr h.nd h.lt (fun z hz=>(h.shut z hz).1) hy
    | 2,_=>exact (h.shut y hy).2
    | 3,_=>exact Zau ru h.nd h.lt (fun z hz=>(h.shut z hz).2) hy
  exact this p 0 h.hd h4
def Zf8 (n:Nat)(M:List Nat):List Nat:=(Y04 n).filter fun x=>decide (x∉M)
theorem Z4f {n:Nat}{M:List Nat}{x:Nat}:x∈Zf8 n M↔x < n/\x∉M:=by unfold Zf8; rw[Y14,Y08]; simp
theorem Z6x (n:Nat)(M:List Nat):(Zf8 n M).Pairwise (·<=·):=(Z3a n).filter _
theorem Zlc {n:Nat}{r u M:List Nat}(rr:Row n r)(ru:Row n u)(hn:1<=n)(h:Z2w n r u 0 M) :
  (Zf8 n M=[]/\(grp n r u).length=1)\/∃ f t g t' gs,Zf8 n M=f :: t/\grp n r u=g :: (f :: t') :: gs/\f < n:=by
 have L0:Z43 n r u 0:=fun x _ _=>Y0w _
 have inL:∀ f,f < n->Z43 n r u f->f≠0->f∈Zf8 n M:=fun f hf hL h0=>by
  refine Z4f.mpr ⟨hf,fun hM=>h0 ?_⟩
  have:=hL 0 (by omega) ((h.con rr ru).mp hM |>.symm rr ru (by omega))
  omega
 have hh:=Z81 n r u
 generalize hfl:(Y04 n).filter (fun f=>@decide (Z43 n r u f) (Classical.propDecidable _))=Hd at hh
 have memH:∀ f,f∈Hd↔f < n/\Z43 n r u f:=fun f=>by rw[<-hfl,Y14,Y08]; simp
 have soH:Hd.Pairwise (· < ·):=by rw[<-hfl]; exact List.pairwise_lt_range.filter _
 cases hg:grp n r u with
 | nil=>
  rw[hg]at hh
  have:0∈Hd:=(memH 0).mpr ⟨hn,L0⟩
  rw[<-hh]at this
  exact absurd this (by simp)
 | cons g gs=>
  rw[hg,Y0u]at hh
  have h0:hd0 g=0:=by
   have:0∈Hd:=(memH 0).mpr ⟨hn,L0⟩
   rw[<-hh]at this soH
   rcases Y0j.mp this with e | e
   ·exact e.symm
   ·have:=(Y1g.mp soH).1 0 e
    omega
  cases hgs:gs with
  | nil=>
   refine .inl ⟨?_,rfl⟩
   subst hgs
   cases hl:Zf8 n M with
   | nil=>rfl
   | cons x t=>
    have hx:x∈Zf8 n M:=by rw[hl]; simp
    have hx':=Z4f.mp hx
    have Lx:Z43 n r u x:=fun y hy hc=>by
     have so:=Z6x n M
     rw[hl]at so
     have:y∈Zf8 n M:=Z4f.mpr ⟨hy,fun hM=>hx'.2 ((h.con rr ru).mpr (((h.con rr ru).mp hM).trans (hc.symm rr ru hx'.1)))⟩
     rw[hl]at this
     rcases Y0j.mp this with e | e
     ·omega
     ·exact (Y1g.mp so).1 y e
    have:x∈Hd:=(memH x).mpr ⟨hx'.1,Lx⟩
    rw[<-hh]at this
    have e:x=0:=by simpa [h0] using this
    rw[e]at hx'
    exact absurd h.hd hx'.2
  | cons g2 gs2=>
   subst hgs
   rw[Y0u]at hh
   have m2:hd0 g2∈Hd:=by rw[<-hh]; simp
   have m2':=(memH _).mp m2
   obtain⟨f,hf,hL,e2⟩:=Z56.mp (show g2∈grp n r u by rw[hg]; simp)
   obtain⟨t',e3⟩:=Z7k hf hL
   have ef:hd0 g2=f:=by rw[e2,e3]; rfl
   have fpos:f≠0:=by
    rw[<-hh]at soH
    have:=(Y1g.mp soH).1 (hd0 g2) (by simp)
    omega
   have fl:=inL f hf hL fpos
   cases hl:Zf8 n M with
   | nil=>rw[hl]at fl; exact absurd fl (by simp)
   | cons x t=>
    have hx:x∈Zf8 n M:=by rw[hl]; simp
    have hx':=Z4f.mp hx
    have so:=Z6x n M
    rw[hl]at so
    have Lx:Z43 n r u x:=fun y hy hc=>by
     have:y∈Zf8 n M:=Z4f.mpr ⟨hy,fun hM=>hx'.2 ((h.con rr ru).mpr (((h.con rr ru).mp hM).trans (hc.symm rr ru hx'.1)))⟩
     rw[hl]at this
     rcases Y0j.mp this with e | e
     ·omega
     ·exact (Y1g.mp so).1 y e
    have xH:x∈Hd:=(memH x).mpr ⟨hx'.1,Lx⟩
    have x0:x≠0:=fun e=>hx'.2 (e ▸ h.hd)
    rw[<-hh]at xH soH
    have fx:f<=x:=by
     rcases Y0j.mp xH with e | e
     ·omega
     ·rcases Y0j.mp e with e | e
      ·omega
      ·have:=(Y1g.mp (Y1g.mp soH).2).1 x e
       omega
    have xf:x<=f:=by
     rw[hl]at fl
     rcases Y0j.mp fl with e | e
     ·omega
     ·exact (Y1g.mp so).1 f e
    have e:x=f:=by omega
    refine .inr ⟨f,t,g,t',gs2,by rw[e],by rw[e2,e3],hf⟩
end Sq
namespace Sq
section
variable {n:Nat}{r u:List Nat}{a b:Nat}
end
end Sq
namespace Sq
end Sq
namespace Sq
open PySem L2
def pN (ps:List (Nat×Nat))(q:Nat×Nat):List (Nat×Nat):=if (ps.any fun p=>decide (p.1=q.1))=true then ps.map (fun p=>if p.1=q.1 then (p.1,q.2) else p) else ps++[q]
def fN (ps:List (Nat×Nat)):List (Nat×Nat):=ps.foldl pN []
theorem Zd6 {ps:List (Nat×Nat)}{x:Nat}:(ps.any fun p=>decide (p.1=x))=true↔x∈ps.map (·.1):=by
 rw[List.any_eq_true,Y0f]
 exact⟨fun ⟨p,h1,h2⟩=>⟨p,h1,of_decide_eq_true h2⟩,fun ⟨p,h1,h2⟩=>⟨p,h1,decide_eq_true h2⟩⟩
theorem Zoy (ps:List (Nat×Nat))(q:Nat×Nat):(pN ps q).map (·.1)=put (ps.map (·.1)) q.1:=by
 unfold pN put
 by_cases h:q.1∈ps.map (·.1)
 ·rw[if_pos (Zd6.mpr h),if_pos h,Y0y]
  refine Y1p fun p _=>?_
  show (if p.1=q.1 then (p.1,q.2) else p).1=p.1
  split <;> rfl
 ·rw[if_neg (fun z=>h (Zd6.mp z)),if_neg h,Y0p]; rfl
theorem Zax:∀ (qs ps:List (Nat×Nat)),(qs.foldl pN ps).map (·.1)=(qs.map (·.1)).foldl put (ps.map (·.1))
 | [],ps=>rfl
 | q :: qs,ps=>by rw[List.foldl_cons,Zax qs,Zoy]; rfl
theorem Z96 (qs:List (Nat×Nat)):(fN qs).map (·.1)=(qs.map (·.1)).foldl put []:=Zax qs []
theorem Zh9:∀ (l M:List Nat),M.Nodup->(l.foldl put M).Nodup
 | [],M,h=>h
 | x :: l,M,h=>Zh9 l _ (Zir h)
theorem Zex {x:Nat}:∀ (l M:List Nat),x∈l.foldl put M↔x∈M\/x∈l
 | [],M=>by simp
 | y :: l,M=>by rw[List.foldl_cons,Zex l,Z27,Y0j,or_assoc]
theorem Ztm (qs:List (Nat×Nat)):((fN qs).map (·.1)).Nodup:=by rw[Z96]; exact Zh9 _ _ List.nodup_nil
theorem Zhy {qs:List (Nat×Nat)}{x:Nat}:x∈(fN qs).map (·.1)↔x∈qs.map (·.1):=by rw[Z96,Zex]; simp
theorem Zt7 {ps:List (Nat×Nat)}{q p:Nat×Nat}(h:p∈pN ps q):p∈ps\/p=q:=by
 unfold pN at h
 split at h
 ·obtain⟨p',h1,h2⟩:=Y0f.mp h
  split at h2
  ·rename_i e; right; rw[<-h2,e]
  ·left; rw[<-h2]; exact h1
 ·rcases Y0n.mp h with h | h
  ·exact .inl h
  ·exact .inr (Y0g.mp h)
theorem Zh7:∀ {qs ps:List (Nat×Nat)} {p:Nat×Nat},p∈qs.foldl pN ps->p∈ps\/p∈qs
 | [],ps,p,h=>.inl h
 | q :: qs,ps,p,h=>by
  rw[List.foldl_cons]at h
  rcases Zh7 h with h | h
  ·rcases Zt7 h with h | h
   ·exact .inl h
   ·exact .inr (by rw[h]; exact Y1k)
  ·exact .inr (Y0r _ h)
theorem Zsu {qs:List (Nat×Nat)}{p:Nat×Nat}(h:p∈fN qs):p∈qs:=(Zh7 h).elim (fun z=>nomatch z) id
theorem Zj6 {qs:List (Nat×Nat)}(h:(qs.map (·.1)).Nodup):fN qs=qs:=by
 have:∀ (qs ps:List (Nat×Nat)),((ps++qs).map (·.1)).Nodup->qs.foldl pN ps=ps++qs:=by
  intro qs
  induction qs with
  | nil=>intro ps _; simp
  | cons q qs ih=>
   intro ps hn
   have hq:q.1∉ps.map (·.1):=fun hm=>by
    rw[Y0p,Y0u]at hn
    exact (Y1y.mp hn).2.2 q.1 hm q.1 Y1k rfl
   have e:pN ps q=ps++[q]:=by unfold pN; rw[if_neg (fun z=>hq (Zd6.mp z))]
   rw[List.foldl_cons,e,ih (ps++[q]) (by rw[Y1l]; exact hn),Y1l]; rfl
 have:=this qs [] (by simpa using h)
 rw[List.nil_append]at this
 exact this
theorem Zhm (qs:List (Nat×Nat))(q:Nat×Nat):fN (qs++[q])=pN (fN qs) q:=by unfold fN; rw[List.foldl_append]; rfl
theorem Zef {qs:List (Nat×Nat)}(h:∀ q∈qs,q.1 < 36):(fN qs).length<=36:=by
 have:=Z16 ((fN qs).map (·.1)) (Y04 36) (Ztm qs) fun x hx=>by
  obtain⟨q,hq,rfl⟩:=Y0f.mp (Zhy.mp hx)
  exact Y08.mpr (h q hq)
 rw[Y09,Y0d]at this
 exact this
def Zk7 (ps:List (Nat×Nat))(k:Nat):Nat:=((ps.find? fun p=>decide (p.1=k)).map (·.2)).getD 0
def Z8d (ps:List (Nat×Nat))(n:Nat):List Nat:=(Y04 n).map (Zk7 ps)
theorem Zng {ps:List (Nat×Nat)}(nd:(ps.map (·.1)).Nodup){p:Nat×Nat}(h:p∈ps):(ps.find? fun q=>decide (q.1=p.1))=some p:=by
 induction ps with
 | nil=>cases h
 | cons q ps ih=>
  rw[Y0u,Y1r]at nd
  by_cases e:q=p
  ·subst e; simp
  ·have hp:p∈ps:=by
    rcases Y0j.mp h with h | h
    ·exact absurd h.symm e
    ·exact h
   have hne:¬ q.1=p.1:=fun z=>nd.1 (by rw[z]; exact Y0f.mpr ⟨p,hp,rfl⟩)
   rw[Y28,decide_eq_false hne]
   exact ih nd.2 hp
theorem Zc4 {ps:List (Nat×Nat)}(nd:(ps.map (·.1)).Nodup){x y:Nat}(h:(x,y)∈ps):Zk7 ps x=y:=by
 unfold Zk7
 have:=Zng nd h
 dsimp only at this
 rw[this]; rfl
theorem Z4y {ps:List (Nat×Nat)}{n k:Nat}(h:k < n):nx (Z8d ps n) k=Zk7 ps k:=by
 show ((Y04 n).map (Zk7 ps)).getD k 0=_
 rw[Y05,Y0e,Y1b h]; rfl
theorem Zf1 {ps:List (Nat×Nat)}{n:Nat}(hp:(ps.map (·.1)).Perm (Y04 n))(nd2:(ps.map (·.2)).Nodup)(lt:∀ p∈ps,p.2 < n):Row n (Z8d ps n):=by
 have nd:(ps.map (·.1)).Nodup:=hp.nodup_iff.mpr Y0v
 have ex:∀ k,k < n->∃ p∈ps,p.1=k:=fun k hk=>by
  obtain⟨p,h1,h2⟩:=Y0f.mp (hp.mem_iff.mpr (Y08.mpr hk))
  exact⟨p,h1,h2⟩
 have vl:∀ p∈ps,Zk7 ps p.1=p.2:=fun p h=>Zc4 nd h
 refine Zq5 (by simp[Z8d]) (fun i hi=>?_) (fun i j hi hj e=>?_)
 ·rw[Z4y hi]
  obtain⟨p,h1,rfl⟩:=ex i hi
  rw[vl p h1]; exact lt p h1
 ·rw[Z4y hi,Z4y hj]at e
  obtain⟨p,h1,rfl⟩:=ex i hi
  obtain⟨q,h2,rfl⟩:=ex j hj
  rw[vl p h1,vl q h2]at e
  obtain⟨a,ha,ea⟩:=Y0x.mp h1
  obtain⟨b,hb,eb⟩:=Y0x.mp h2
  have:=(List.getElem?_inj (i:=a) (j:=b) (by rw[Y09]; exact ha) nd2).mp (by
   rw[Y0e,Y0e,Y00 ha,Y00 hb,ea,eb]
   exact congrArg some e)
  subst this
  rw[<-ea,<-eb]
theorem Z6b {S:List Nat}{n:Nat}(p:S.Perm (Y04 n))(o:S.Pairwise (·<=·)):S=Y04 n:=
 p.eq_of_pairwise (fun a b _ _ h1 h2=>Nat.le_antisymm h1 h2) o (List.pairwise_lt_range.imp fun h=>Y1e h)
def Z71 (B:List Nat):List (Nat×Nat):=(Y04 B.length).map fun i=>(B.getD i 0,B.getD ((i+1) % B.length) 0)
def upP (A B:List Nat):List (Nat×Nat):=(Y04 B.length).map fun i=>(B.getD i 0,A.getD i 0)
theorem Z8r (B:List Nat):(Y04 B.length).map (fun i=>B.getD i 0)=B:=by
 refine Y22 (by simp) fun i h1 h2=>?_
 simp[Y05,Y00 h2]
theorem Zbo (B:List Nat):(Z71 B).map (·.1)=B:=by unfold Z71; rw[Y0y]; exact Z8r B
theorem Zem (A B:List Nat):(upP A B).map (·.1)=B:=by unfold upP; rw[Y0y]; exact Z8r B
theorem Zka (B:List Nat):(Z71 B).length=B.length:=by simp[Z71]
theorem Zns (A B:List Nat):(upP A B).length=B.length:=by simp[upP]
theorem Zl7 {B:List Nat}{p:Nat×Nat}(h:p∈Z71 B):p.2∈B:=by
 obtain⟨i,hi,rfl⟩:=Y0f.mp h
 have hi:=Y08.mp hi
 have hm:(i+1) % B.length < B.length:=Nat.mod_lt _ (by omega)
 show B.getD _ 0∈B
 rw[Y05,Y00 hm]
 exact Y10 hm
abbrev Rws:=List (List Nat×List Nat)
def RP (rows:Rws):List (Nat×Nat):=rows.flatMap fun q=>Z71 q.2
def UP (rows:Rws):List (Nat×Nat):=rows.flatMap fun q=>upP q.1 q.2
theorem Z7p (rows:Rws):(RP rows).map (·.1)=(rows.map (·.2)).flatten:=by
 unfold RP
 rw[List.map_flatMap,<-List.flatMap_def]
 simp only[Zbo,List.flatMap_def,Y0y,Function.comp_def]
theorem Zjl (rows:Rws):(UP rows).map (·.1)=(rows.map (·.2)).flatten:=by
 unfold UP
 rw[List.map_flatMap]
 simp only[Zem,List.flatMap_def,Y0y,Function.comp_def]
theorem Zqo {rows:Rws}{p:Nat×Nat}(h:p∈RP rows):p.2∈(RP rows).map (·.1):=by
 rw[Z7p]
 obtain⟨q,hq,hp⟩:=List.mem_flatMap.mp h
 exact Y2b.mpr ⟨q.2,Y0f.mpr ⟨q,hq,rfl⟩,Zl7 hp⟩
theorem Zd0 (rows:Rws):(fN (RP rows)).map (·.1)=(fN (UP rows)).map (·.1):=by rw[Z96,Z96,Z7p,Zjl]
theorem Zqj (rows:Rws):(fN (RP rows)).length=(fN (UP rows)).length:=by
 have:=congrArg List.length (Zd0 rows)
 rwa [Y09,Y09]at this
def drT (u:List Nat)(Ms:List (List Nat)):List (List Nat):=Ms.flatMap fun M=>[btw 32 (M.map (nx u)),btw 124 M]
def Z1z (u:List Nat)(Ms:List (List Nat)):Rws:=Ms.map fun M=>(M.map (nx u),M)
theorem Zfn {r M:List Nat}(h:∀ {i y:Nat},M[i]?=some y->M[(i+1) % M.length]?=some (nx r y)):Z71 M=M.map fun x=>(x,nx r x):=by
 unfold Z71
 refine Y22 (by simp) fun i h1 h2=>?_
 have hi:i < M.length:=by simpa using h2
 have e:=h (Y00 hi)
 simp[Y05,Y00 hi,e]
theorem Zhd (u M:List Nat):upP (M.map (nx u)) M=M.map fun x=>(x,nx u x):=by
 unfold upP
 refine Y22 (by simp) fun i h1 h2=>?_
 have hi:i < M.length:=by simpa using h2
 simp[Y05,Y00 hi]
theorem Z4p {n:Nat}{r M:List Nat}(rr:Row n r)(h:M∈Z0g n r):1<=M.length/\(∀ x∈M,x < n)/\∀ {i y:Nat},M[i]?=some y->M[(i+1) % M.length]?=some (nx r y):=by
 obtain⟨x,hx,rfl⟩:=Y0f.mp h
 have hxn:=Y08.mp (Y14.mp hx).1
 have c:=Z4v rr hxn
 exact⟨c.pos,fun y hy=>Z68 rr hxn hy,fun hi=>c.next hi⟩
theorem Zt0 {n:Nat}{r:List Nat}(u:List Nat)(rr:Row n r):fN (RP (Z1z u (Z0g n r)))=(Z0g n r).flatten.map fun x=>(x,nx r x):=by
 have e:RP (Z1z u (Z0g n r))=(Z0g n r).flatten.map fun x=>(x,nx r x):=by
  unfold RP Z1z
  rw[List.flatMap_map,List.map_flatten,List.flatMap_def]
  congr 1
  exact Y1p fun M hM=>Zfn (Z4p rr hM).2.2
 rw[e]
 refine Zj6 ?_
 rw[Y0y]
 have:((fun x=>x.1) ∘ fun x=>(x,nx r x))=(id:Nat->Nat):=rfl
 rw[this,List.map_id]
 exact (Z1k rr).nodup_iff.mpr Y0v
theorem Ztq {n:Nat}{r:List Nat}(u:List Nat)(rr:Row n r):fN (UP (Z1z u (Z0g n r)))=(Z0g n r).flatten.map fun x=>(x,nx u x):=by
 have e:UP (Z1z u (Z0g n r))=(Z0g n r).flatten.map fun x=>(x,nx u x):=by
  unfold UP Z1z
  rw[List.flatMap_map,List.map_flatten,List.flatMap_def]
  congr 1
  exact Y1p fun M hM=>Zhd u M
 rw[e]
 refine Zj6 ?_
 rw[Y0y]
 have:((fun x=>x.1) ∘ fun x=>(x,nx u x))=(id:Nat->Nat):=rfl
 rw[this,List.map_id]
 exact (Z1k rr).nodup_iff.mpr Y0v
theorem Zol {b:Nat}{xs ys:List Nat}(hx:∀ x∈xs,x < 36)(hy:∀ y∈ys,y < 36)(h:btw b xs=btw b ys):xs=ys:=by
 have hl:xs.length=ys.length:=by have:=congrArg List.length h; rw[Z3g,Z3g]at this; omega
 refine Y22 hl fun k h1 h2=>?_
 have e:(btw b xs)[1+2 * k]?=(btw b ys)[1+2 * k]?:=by rw[h]
 rw[Z9e,Z9e,Y00 h1,Y00 h2]at e
 exact Zrx (Option.some.inj e)
def BtP (e:Nat)(z xs:List Nat):Prop:=z=btw e xs/\xs≠[]/\∀ x∈xs,x < 36
theorem BtP.uniq {e:Nat}{z xs ys:List Nat}(h:BtP e z xs)(h':BtP e z ys):xs=ys:=Zol h.2.2 h'.2.2 (h.1.symm.trans h'.1)
end Sq
namespace Sq
theorem Za6 (e:Nat):∀ (xs:List Nat) (k:Nat),k<=xs.length->(btw e xs)[2 * k]?=some e
 | xs,0,_=>rfl
 | [],k+1,h=>by simp at h
 | x :: xs,k+1,h=>by
  have ih:=Za6 e xs k (by simpa using h)
  show (e :: (sg x :: e :: xs.flatMap fun x=>[sg x,e]))[2 * k+2]?=_
  exact ih
theorem Zky (e:Nat)(xs:List Nat)(x:Nat):btw e (xs++[x])=btw e xs++[sg x,e]:=by
 unfold btw; rw[Y24]; rfl
structure Pre (e:Nat)(z:List Nat)(i:Nat)(xs:List Nat):Prop where
 eq:z.take i=(btw e xs).take i
 len:xs.length=i / 2
 lt:∀ x∈xs,x < 36
theorem Pre.zero (e:Nat)(z:List Nat):Pre e z 0 []:=⟨rfl,rfl,fun x hx=>nomatch hx⟩
theorem Pre.even {e i:Nat}{z xs:List Nat}(h:Pre e z i xs)(hi:i % 2=0)(hc:z[i]?=some e):Pre e z (i+1) xs:=by
 refine⟨?_,by rw[h.len]; omega,h.lt⟩
 have hb:(btw e xs)[i]?=some e:=by
  have:=Za6 e xs (i / 2) (by rw[h.len]; exact Y06 _)
  rwa [show 2 * (i / 2)=i by omega]at this
 rw[Y11,Y11,h.eq,hc,hb]
theorem Pre.odd {e i x:Nat}{z xs:List Nat}(h:Pre e z i xs)(hi:i % 2=1)(hc:z[i]?=some (sg x))(hx:x < 36):Pre e z (i+1) (xs++[x]):=by
 have hl:(btw e xs).length=i:=by rw[Z3g,h.len]; omega
 refine⟨?_,by rw[Y07,h.len]; show i / 2+1=_; omega,fun y hy=>?_⟩
 ·rw[Y11,h.eq,hc,Zky,Y1m (l:=btw e xs) (by omega),show i+1=(btw e xs).length+1 by omega,List.take_append,Y1m (by omega)]
  simp
 ·rcases Y0n.mp hy with q | q
  ·exact h.lt y q
  ·rw[Y0g.mp q]; exact hx
theorem Pre.all {e:Nat}{z xs:List Nat}(h:Pre e z z.length xs)(ho:z.length % 2=1)(h3:3<=z.length):BtP e z xs:=by
 have hl:(btw e xs).length=z.length:=by rw[Z3g,h.len]; omega
 refine⟨?_,fun q=>?_,h.lt⟩
 ·have:=h.eq
  rwa [Y1u,<-hl,Y1u]at this
 ·have:=h.len; rw[q]at this; simp at this; omega
theorem BtP.len {e:Nat}{z xs:List Nat}(h:BtP e z xs):z.length % 2=1/\3<=z.length:=by
 rw[h.1,Z3g]
 have:=List.length_pos_iff.mpr h.2.1
 omega
theorem BtP.even {e i c:Nat}{z xs:List Nat}(h:BtP e z xs)(hi:i % 2=0)(hc:z[i]?=some c):c=e:=by
 have hl:=(Y03.mp hc).1
 rw[h.1]at hc hl
 rw[Z3g]at hl
 have:=Za6 e xs (i / 2) (by omega)
 rw[show 2 * (i / 2)=i by omega,hc]at this
 exact Option.some.inj this
theorem BtP.odd {e i c:Nat}{z xs:List Nat}(h:BtP e z xs)(hi:i % 2=1)(hc:z[i]?=some c):∃ x,x < 36/\c=sg x:=by
 rw[h.1]at hc
 have:=Z9e e xs (i / 2)
 rw[show 1+2 * (i / 2)=i by omega,hc]at this
 cases q:xs[i / 2]? with
 | none=>rw[q]at this; cases this
 | some x=>
  rw[q]at this
  exact⟨x,h.2.2 x (Y0a q),Option.some.inj this⟩
end Sq
namespace Sq
def Z91 (T:List (List Nat))(n:Nat)(r u:List Nat):Prop:=Z4r n r u/\T=drT u (Z0g n r)
theorem Zjb (u:List Nat):∀ Ms:List (List Nat),(drT u Ms).length=2 * Ms.length
 | []=>rfl
 | M :: Ms=>by
  show ([btw 32 (M.map (nx u)),btw 124 M]++drT u Ms).length=_
  rw[Y07,Zjb u Ms]; show 2+2 * Ms.length=2 * (Ms.length+1); omega
theorem Zgg (u:List Nat):∀ {Ms:List (List Nat)} {i:Nat} {M:List Nat},Ms[i]?=some M->(drT u Ms)[2 * i]?=some (btw 32 (M.map (nx u)))/\(drT u Ms)[2 * i+1]?=some (btw 124 M)
 | [],i,M,h=>by simp at h
 | N :: Ms,0,M,h=>by cases h; exact⟨rfl,rfl⟩
 | N :: Ms,i+1,M,h=>by
  rw[Y2e]at h
  obtain⟨h1,h2⟩:=Zgg u h
  have e:drT u (N :: Ms)=[btw 32 (N.map (nx u)),btw 124 N]++drT u Ms:=rfl
  rw[e]
  refine⟨?_,?_⟩
  ·rw[Y0q (by show 2<=_; omega)]
   show (drT u Ms)[2 * (i+1) - 2]?=_
   rw[show 2 * (i+1) - 2=2 * i by omega]; exact h1
  ·rw[Y0q (by show 2<=_; omega)]
   show (drT u Ms)[2 * (i+1)+1 - 2]?=_
   rw[show 2 * (i+1)+1 - 2=2 * i+1 by omega]; exact h2
structure Z64 (T:List (List Nat))(i:Nat)(rows:Rws):Prop where
 len:rows.length=i
 rat:∀ (j:Nat) (A B:List Nat),rows[j]?=some (A,B)->∃ za zb,T[2 * j]?=some za/\T[2 * j+1]?=some zb/\BtP 32 za A/\BtP 124 zb B/\A.length=B.length
theorem Z64.nil (T:List (List Nat)):Z64 T 0 []:=⟨rfl,fun j A B h=>by simp at h⟩
theorem Z64.snoc {T:List (List Nat)}{i:Nat}{rows:Rws}{A B za zb:List Nat}(g:Z64 T i rows)(ha:T[2 * i]?=some za)(hb:T[2 * i+1]?=some zb)(pa:BtP 32 za A)(pb:BtP 124 zb B)(hl:A.length=B.length):Z64 T (i+1) (rows++[(A,B)]):=by
 refine⟨by rw[Y07,g.len]; rfl,fun j A' B' h=>?_⟩
 by_cases hj:j < rows.length
 ·rw[Y0t hj]at h; exact g.rat j A' B' h
 ·have hlj:=(Y03.mp h).1
  rw[Y07]at hlj
  have e:j=rows.length:=by simp at hlj; omega
  subst e
  have:(A,B)=(A',B'):=by simpa using h
  cases this
  rw[g.len]
  exact⟨za,zb,ha,hb,pa,pb,hl⟩
theorem Z64.lt {T:List (List Nat)}{i:Nat}{rows:Rws}(g:Z64 T i rows):∀ q∈rows,(∀ x∈q.1,x < 36)/\(∀ x∈q.2,x < 36)/\q.1.length=q.2.length/\q.2≠[]:=fun q hq=>by
 obtain⟨j,hj⟩:=List.mem_iff_getElem?.mp hq
 obtain⟨za,zb,_,_,pa,pb,hl⟩:=g.rat j q.1 q.2 hj
 exact⟨pa.2.2,pb.2.2,hl,pb.2.1⟩
theorem Z64.keys {T:List (List Nat)}{i:Nat}{rows:Rws}(g:Z64 T i rows):∀ x∈(rows.map (·.2)).flatten,x < 36:=fun x hx=>by
 obtain⟨B,hB,hx⟩:=Y2b.mp hx
 obtain⟨q,hq,rfl⟩:=Y0f.mp hB
 exact (g.lt q hq).2.1 x hx
theorem Zi3 {T:List (List Nat)}{n:Nat}{r u:List Nat}(d:Z91 T n r u){i:Nat}{M:List Nat}(h:(Z0g n r)[i]?=some M):T[2 * i]?=some (btw 32 (M.map (nx u)))/\T[2 * i+1]?=some (btw 124 M)/\BtP 32 (btw 32 (M.map (nx u))) (M.map (nx u))/\BtP 124 (btw 124 M) M:=by
 obtain⟨s,e⟩:=d
 obtain⟨h1,h2⟩:=Zgg u h
 obtain⟨p1,p2,_⟩:=Z4p s.row (Y0a h)
 have hm:=s.most
 have ne:M≠[]:=fun q=>by rw[q]at p1; simp at p1
 rw[e]
 refine⟨h1,h2,⟨rfl,by simpa using ne,fun x hx=>?_⟩,⟨rfl,ne,fun x hx=>Y0h (p2 x hx) hm⟩⟩
 obtain⟨y,hy,rfl⟩:=Y0f.mp hx
 exact Y0h (s.col.nlt (p2 y hy)) hm
theorem Zab {T:List (List Nat)}{n:Nat}{r u:List Nat}(d:Z91 T n r u):T.length=2 * (Z0g n r).length/\1<=(Z0g n r).length:=by
 obtain⟨s,e⟩:=d
 refine⟨by rw[e,Zjb],?_⟩
 have:=(Z1k s.row).length_eq
 rw[Y0d]at this
 cases q:Z0g n r with
 | nil=>rw[q]at this; simp at this; have:=s.pos; omega
 | cons M Ms=>simp
theorem Zjc {T:List (List Nat)}{n i:Nat}{r u:List Nat}{rows:Rws}(d:Z91 T n r u)(g:Z64 T i rows)(hi:2 * i=T.length):rows=Z1z u (Z0g n r):=by
 have hl:=(Zab d).1
 refine Y22 (by rw[g.len]; simp[Z1z]; omega) fun j h1 h2=>?_
 have hj:j < (Z0g n r).length:=by simpa [Z1z] using h2
 obtain⟨e1,e2,b1,b2⟩:=Zi3 d (Y00 hj)
 obtain⟨za,zb,q1,q2,pa,pb,_⟩:=g.rat j rows[j].1 rows[j].2 (Y00 h1)
 rw[e1]at q1; rw[e2]at q2
 cases q1; cases q2
 have x1:=pa.uniq b1
 have x2:=pb.uniq b2
 refine Prod.ext ?_ ?_
 ·rw[x1]; simp[Z1z]
 ·rw[x2]; simp[Z1z]
theorem Zjx {rows:Rws}{n:Nat}(hk:((fN (RP rows)).map (·.1)).Perm (Y04 n))(hu:((fN (UP rows)).map (·.2)).Perm (Y04 n))(hr:((fN (RP rows)).map (·.2)).Nodup):Row n (Z8d (fN (RP rows)) n)/\Row n (Z8d (fN (UP rows)) n):=by
 refine⟨Zf1 hk hr fun p hp=>?_,Zf1 (by rw[<-Zd0]; exact hk) (hu.nodup_iff.mpr Y0v) fun p hp=>?_⟩
 ·have:=Zqo (Zsu hp)
  exact Y08.mp (hk.mem_iff.mp (Zhy.mpr this))
 ·exact Y08.mp (hu.mem_iff.mp (Y0f.mpr ⟨p,hp,rfl⟩))
theorem Z6w {T:List (List Nat)}{n:Nat}{r u:List Nat}(d:Z91 T n r u):((fN (RP (Z1z u (Z0g n r)))).map (·.1)).Perm (Y04 n)/\((fN (UP (Z1z u (Z0g n r)))).map (·.2)).Perm (Y04 n)/\((fN (RP (Z1z u (Z0g n r)))).map (·.2)).Nodup/\Z8d (fN (RP (Z1z u (Z0g n r)))) n=r/\Z8d (fN (UP (Z1z u (Z0g n r)))) n=u:=by
 obtain⟨s,_⟩:=d
 have hp:=Z1k s.row
 have nd:(Z0g n r).flatten.Nodup:=hp.nodup_iff.mpr Y0v
 rw[Zt0 u s.row,Ztq u s.row]
 have k1:((Z0g n r).flatten.map fun x=>(x,nx r x)).map (·.1)=(Z0g n r).flatten:=by rw[Y0y]; exact List.map_id _
 have k2:((Z0g n r).flatten.map fun x=>(x,nx u x)).map (·.1)=(Z0g n r).flatten:=by rw[Y0y]; exact List.map_id _
 have v1:((Z0g n r).flatten.map fun x=>(x,nx r x)).map (·.2)=(Z0g n r).flatten.map (nx r):=by rw[Y0y]; rfl
 have v2:((Z0g n r).flatten.map fun x=>(x,nx u x)).map (·.2)=(Z0g n r).flatten.map (nx u):=by rw[Y0y]; rfl
 have mp:∀ {w:List Nat},Row n w->(Y04 n).map (nx w)=w:=fun {w} rw'=>by
  refine Y22 (by rw[Y09,Y0d,rw'.len]) fun i h1 h2=>?_
  rw[List.getElem_map,List.getElem_range]
  show w.getD i 0=_
  rw[Y05,Y00 h2]; rfl
 have pw:∀ {w:List Nat},Row n w->w.Perm (Y04 n):=fun {w} rw'=>(Y1c rw'.nd Y0v).mpr fun x=>by
  rw[Y08]
  refine⟨rw'.lt x,fun hx=>?_⟩
  have:=Zkr rw' hx
  have hb:=rw'.back.nlt hx
  have hg:=rw'.get hb
  rw[this]at hg
  exact Y0a hg
 refine⟨by rw[k1]; exact hp,?_,?_,?_,?_⟩
 ·rw[v2]
  have:=hp.map (nx u)
  rw[mp s.col]at this
  exact this.trans (pw s.col)
 ·rw[v1]
  have:=hp.map (nx r)
  rw[mp s.row]at this
  exact this.nodup_iff.mpr s.row.nd
 ·refine Z9l (n:=n) (by simp[Z8d]) s.row.len fun i hi=>?_
  rw[Z4y hi]
  exact Zc4 (by rw[k1]; exact nd) (Y0f.mpr ⟨i,hp.mem_iff.mpr (Y08.mpr hi),rfl⟩)
 ·refine Z9l (n:=n) (by simp[Z8d]) s.col.len fun i hi=>?_
  rw[Z4y hi]
  exact Zc4 (by rw[k2]; exact nd) (Y0f.mpr ⟨i,hp.mem_iff.mpr (Y08.mpr hi),rfl⟩)
theorem Zhc {n:Nat}{r u M:List Nat}(rr:Row n r)(ru:Row n u)(h1:1<=n)(h36:n<=36)(h:Z2w n r u 0 M)(hl:M.length=n):Z4r n r u:=by
 refine⟨h1,h36,rr,ru,fun T h0 sh x hx=>?_⟩
 have hm:x∈M:=by
  apply Classical.byContradiction
  intro hn
  have hnd:(x :: M).Nodup:=Y1r.mpr ⟨hn,h.nd⟩
  have:=Z16 (x :: M) (Y04 n) hnd fun y hy=>by
   rcases Y0j.mp hy with rfl | hy
   ·exact Y08.mpr hx
   ·exact Y08.mpr (h.lt y hy)
  rw[Y1d,Y0d]at this
  omega
 exact h.least T h0 sh x hm
end Sq
namespace Sq
open PySem L2
theorem Zpq {n:Nat}{r u:List Nat}{f:Nat}(rr:Row n r)(ru:Row n u)(hf:f < n):∃ M,Z2w n r u f M:=by
 have go:∀ d (M:List Nat) k,n+1 - k<=d->Met n r u f M k->∃ M,Z2w n r u f M:=by
  intro d
  induction d with
  | zero=>intro M k hk h; have:=h.len; have:=h.kle; exact⟨M,h.all (by omega)⟩
  | succ d ih=>
   intro M k hk h
   by_cases c:M.length<=k
   ·exact⟨M,h.all c⟩
   ·exact ih _ (k+1) (by omega) (h.step rr ru (Y00 (by omega)))
 exact go _ _ 0 (Y06 _) (Met.start hf)
theorem Zl2 (z:List Nat):∃ y:List Nat,Z4g (txt z) (some 1) none (some 2)=txt y/\y.length<=z.length:=by
 have hl:(txt z).length=z.length:=Z0e z
 have ix:∃ (c:Nat) (g:Nat->Nat),c<=z.length/\Builtin.Str.strSliceIndices (some 1) none 2 z.length=(Y04 c).map g:=by
  unfold Builtin.Str.strSliceIndices sliceRange
  refine⟨_,_,?_,rfl⟩
  simp only[show ((2:Int) > 0)=True from by simp,if_true,show ¬ ((1:Int) < 0) by decide,if_false]
  split <;> omega
 obtain⟨c,g,hc,ix⟩:=ix
 refine⟨((Y04 c).map g).filterMap fun i=>(txt z).cps[i]?,?_,?_⟩
 ·unfold Z4g
  rw[hl]
  show (if ((2:Int) == 1 && _)=true then _ else _)=_
  rw[if_neg (by simp)]
  show (⟨((Builtin.Str.strSliceIndices (some 1) none 2 z.length).filterMap _).toArray⟩:Str)=_
  rw[ix]; rfl
 ·refine Y17 (List.length_filterMap_le _ _) ?_
  rw[Y09,Y0d]; exact hc
theorem Zs9 (c:Nat):-1<=sgn c/\sgn c < 36:=by
 unfold sgn
 split
 ·rename_i h
  have:=Y1a h
  rw[Y09,Y0d]at this
  omega
 ·omega
theorem Zgt {n:Nat}{r u:List Nat}(rr:Row n r)(ru:Row n u)(h1:1<=n)(h36:n<=36)(hg:(grp n r u).length<=1):Z4r n r u:=by
 obtain⟨M,hM⟩:=Zpq (f:=0) rr ru h1
 rcases Zlc rr ru h1 hM with ⟨e,_⟩ | ⟨f,t,g,t',gs,_,e,_⟩
 ·refine⟨h1,h36,rr,ru,fun T h0 sh x hx=>hM.least T h0 sh x ?_⟩
  apply Classical.byContradiction
  intro hn
  have:x∈Zf8 n M:=Z4f.mpr ⟨hx,hn⟩
  rw[e]at this; cases this
 ·rw[e]at hg; simp at hg
theorem Z2i (z:List Nat)(lo hi:Option Int):∃ y:List Nat,StrLaws.sliceText (txt z) lo hi=txt y/\y.length<=z.length/\∀ c∈y,c∈z:=by
 have hl:(txt z).length=z.length:=Z0e z
 have ix:∃ (c:Nat) (g:Nat->Nat),c<=z.length/\Builtin.Str.strSliceIndices lo hi 1 z.length=(Y04 c).map g:=by
  unfold Builtin.Str.strSliceIndices sliceRange
  refine⟨_,_,?_,rfl⟩
  simp only[show ((1:Int) > 0)=True from by simp,if_true]
  cases lo <;> cases hi <;> dsimp only <;> (repeat' split) <;> omega
 obtain⟨c,g,hc,ix⟩:=ix
 unfold StrLaws.sliceText
 split
 ·exact⟨z,rfl,Y06 _,fun c h=>h⟩
 ·refine⟨((Y04 c).map g).filterMap fun i=>(txt z).cps[i]?,?_,?_,fun d hd=>?_⟩
  ·rw[hl]
   show (⟨((Builtin.Str.strSliceIndices lo hi 1 z.length).filterMap _).toArray⟩:Str)=_
   rw[ix]; rfl
  ·refine Y17 (List.length_filterMap_le _ _) ?_
   rw[Y09,Y0d]; exact hc
  ·obtain⟨i,_,hi⟩:=List.mem_filterMap.mp hd
   rw[Z5y]at hi
   exact Y0a hi
theorem Znz {T:List (List Nat)}{n:Nat}{r u:List Nat}(d:Z91 T n r u):Z64 T (Z0g n r).length (Z1z u (Z0g n r)):=by
 refine⟨by simp[Z1z],fun j A B h=>?_⟩
 have hj:j < (Z0g n r).length:=by have:=(Y03.mp h).1; simpa [Z1z] using this
 obtain⟨e1,e2,b1,b2⟩:=Zi3 d (Y00 hj)
 have e:(A,B)=((Z0g n r)[j].map (nx u),(Z0g n r)[j]):=by
  unfold Z1z at h
  rw[Y0e,Y00 hj]at h
  exact (Option.some.inj h).symm
 obtain⟨rfl,rfl⟩:=Prod.mk.inj e
 exact⟨_,_,e1,e2,b1,b2,by rw[Y09]⟩
theorem Znk {T:List (List Nat)}{n n':Nat}{r u r' u':List Nat}(d:Z91 T n r u)(d':Z91 T n' r' u'):r=r'/\u=u':=by
 have hl:=(Zab d).1
 have e:=Zjc d' (Znz d) (by omega)
 have a:=Z6w d
 have b:=Z6w d'
 rw[<-e]at b
 have hn:n=n':=by
  have h1:=a.1.length_eq
  have h2:=b.1.length_eq
  rw[Y0d]at h1 h2
  omega
 subst hn
 exact⟨a.2.2.2.1.symm.trans b.2.2.2.1,a.2.2.2.2.symm.trans b.2.2.2.2⟩
end Sq
namespace K1
open PySem L2 Sq
theorem Za5 (c:Nat):(match Builtin.Str.occurrences SG ⟨#[c]⟩ 0 SG.length 1 with | i :: _=>(i:Int) | []=>-1)=sgn c:=by
 have h:=StrLaws.found_one SG c
 by_cases m:c∈(Y04 36).map sg
 ·obtain⟨k,hk,e⟩:=Y0f.mp m
  have:=Zdq k hk
  rw[<-e,Zhi (Y08.mp hk),Zaq,Zfc,Z5w,this]
 ·have:(Builtin.Str.occurrences SG ⟨#[c]⟩ 0 SG.length 1)=[]:=by
   rw[Zfc,Z7a]at h
   rw[Zfc]
   cases q:Builtin.Str.occurrences (txt ((Y04 36).map sg)) ⟨#[c]⟩ 0 (txt ((Y04 36).map sg)).length 1 with
   | nil=>rfl
   | cons i t=>rw[q]at h; simp at h; exact absurd (Y0f.mpr (by obtain⟨a,h1,h2⟩:=h; exact⟨a,Y08.mpr h1,h2⟩)) m
  rw[this]; unfold sgn; rw[if_neg m]
theorem Zok (c:Nat):(Builtin.Str.occurrences SG ⟨#[c]⟩ 0 SG.length 1).isEmpty=decide (¬ 0<=sgn c):=by
 have h:=Za5 c
 cases q:Builtin.Str.occurrences SG ⟨#[c]⟩ 0 SG.length 1 with
 | nil=>
  rw[q]at h
  have h:(-1:Int)=sgn c:=h
  rw[decide_eq_true (by omega)]; rfl
 | cons i t=>
  rw[q]at h
  have h:(i:Int)=sgn c:=h
  rw[decide_eq_false (by omega)]; rfl
theorem Zs6 {c:Nat}(h:0<=sgn c):∃ x,x < 36/\c=sg x/\sgn c=(x:Int):=Zqc h
def Zm1:Sp:=fun vs H Q _=>∃ (z:List Nat) (e:Nat),vs=[.str (txt z),.str (txt [e])]/\z.length<=600/\(∀ xs,BtP e z xs->∀ (H':Hp) (l:Addr),Z0d H H'->H l=none->H' l=some (.lst (nv xs))->Q (.ref l) H')/\((∀ xs,¬ BtP e z xs)->∀ H':Hp,Z0d H H'->Q .non H')
section
variable {P:Program}{w:World}{K:Y01}{mg:Str->Option Value}{base:Heap}
abbrev Zqx:List Str:=["_law_text","_law_edge","_law_told","_law_k","_law_sign_here"]
theorem Z99:Z0n Zqx ["_law_text","_law_edge"] (Z08 Z4e):=⟨rfl,rfl,rfl,by decide +kernel,rfl,by decide +kernel,by decide +kernel⟩
set_option maxHeartbeats 1000000 in
theorem Zp4 {f:Addr}{fd:FuncData}{fs:Addr}{ds:FuncData}(T:Bi mg)(FS:Fn K mg "_law_signs" Z62 [] fs ds)(GS:Z13 P w K mg base CX0 1 fs ds [] Z9t)(F:Fn K mg "_law_squares" Z4e ["_law_text","_law_edge"] f fd):Z13 P w K mg base CX0 2 f fd ["_law_text","_law_edge"] Zm1:=by
 refine F.F.ok Z99 (fun vs H Q E h=>?_) (fun cdv A outer s H vs Q E hr h=>?_)
 ·obtain⟨z,e,rfl,_⟩:=h; rfl
 ·obtain⟨z,e,rfl,hz,k1,k2⟩:=h
  have hr1:Z2d 1 _:=hr.mono (by decide)
  refine⟨_,(Z03 (Z1f (PW.pt (Z8i (Z0m Z3j (Z0l Z1e (Z0a Z2k rfl T.len PySem.boot_len (Z00 (pv 0) Z04)) Z09) Z09 (Z0r _)) (Z66 (Z0m Zcq (Z0a Z2k rfl T.len PySem.boot_len (Z00 (pv 0) Z04)) Z09 (Z0r _))))) (Z07 (Z0o Z2u)) Z0p)
   (Z03 (Z0c (i:=2) Z99.nd rfl (Or.inl rfl) (Z1y Z04))
   (Z03 (Z1o PassesOwn.never rfl (Zkl rfl T.enum (Z00 (pv 0) Z04)) (Z3t rfl (Z0s (Z0i (i:=3) Z99.nd rfl (Or.inl rfl)) (Z0s (Z0i (i:=4) Z99.nd rfl (Or.inl rfl)) Z26))) (Z03 (Z1f (PW.pt (Zdg (Z0m Z3j (Z0l Z1e (pv 3) Z09) Z09 (Z0r _)) (Z9i (Z0m Z9v (pv 4) (pv 1) (Z0r _))))) (Z07 (Z0o Z2u)) Z0p)
   (Z03 (Z1f (PW.pt (Zdg (Z0m Z3j (Z0l Z1e (pv 3) Z09) Z09 (Z0r _)) (Z9i (Z0m Zad (pv 4) (Z9u GS hr1 rfl FS.m FS.F.kp FS.b .nil Z0z) (by with_unfolding_all rfl))))) (Z07 (Z0o Z2u)) Z0p)
   (Z07 (Z1f (Z0m Z3j (Z0l Z1e (pv 3) Z09) Z09 (Z0r _)) (Z07 (Z1s (Z34 PySem.F.plainAttrs_list PySem.F.slot_list_append PySem.F.type_list_append Z11 (pv 2) (Z00 (Z34 PySem.F.plainAttrs_str PySem.F.slot_str_find PySem.F.type_str_find Z94 (Z9u GS hr1 rfl FS.m FS.F.kp FS.b .nil Z0z) (Z00 (pv 4) Z04)) Z04)))) Z0p)))))
   (Z07 (Z0o (pv 2)))))),?_⟩
  have big:1000<=sizeLine:=by decide
  have md:∀ m:Nat,((m:Int) % 2)=((m % 2:Nat):Int):=fun m=>rfl
  refine⟨_,rfl,_,rfl,by rw[Z0e]; omega,?_⟩
  refine⟨_,_,rfl,rfl,(by show (0:Int) < 2; decide),rfl,_,rfl,?_⟩
  refine Zgo (fun h=>?_) (fun h=>?_)
  ·have h:=V.int.inj (of_decide_eq_true h)
   rw[Z0e,md]at h
   refine Z2m ?_
   exact k2 (fun xs hx=>by have:=hx.len.1; omega) H (Z0d.refl H)
  have hodd:z.length % 2=1:=by
   have h:¬ (((txt z).length:Int) % 2)=0:=fun q=>h (decide_eq_true (congrArg V.int q))
   rw[Z0e,md]at h; omega
  refine⟨_,rfl,_,rfl,by rw[Z0e]; omega,_,_,rfl,rfl,_,rfl,?_⟩
  refine Zgo (fun h3=>?_) (fun h3=>?_)
  ·have h3:=of_decide_eq_true h3
   rw[Z0e]at h3
   exact k2 (fun xs hx=>by have:=hx.len.2; omega) H (Z0d.refl H)
  have h3:3<=z.length:=by
   have h3:¬ ((txt z).length:Int) < 3:=fun q=>h3 (decide_eq_true q)
   rw[Z0e]at h3; omega
  refine⟨Y0w _,fun l hl=>?_⟩
  have s1:=Z02 (o:=.lst []) (Z0d.refl H) hl
  have e1:(upd H l (.lst [])) l=some (.lst (nv [])):=Z01
  generalize upd H l (.lst [])=H1 at s1 e1
  refine⟨_,rfl,txt z,rfl,?_⟩
  refine Zpe (fun i σ H3=>∃ o3 o4 xs,σ=[some (.str (txt z)),some (.str (txt [e])),some (.ref l),o3,o4]/\Z0d H H3/\H3 l=some (.lst (nv xs))/\Pre e z i xs) ⟨_,_,[],rfl,s1,e1,Pre.zero e z⟩ ?_ ?_
  ·rintro i c σ H3 T' hc hT' ⟨o3,o4,xs,rfl,s3,h3l,hP⟩
   rw[Z5y]at hc
   have hi:=(Y03.mp hc).1
   have s4:=Z02 (o:=Z42 T' [.int (i:Int),.str ⟨#[c]⟩]) s3 (s3.free hT')
   have h4l:(upd H3 T' (Z42 T' [.int (i:Int),.str ⟨#[c]⟩])) l=some (.lst (nv xs)):=by rw[Z05 (Z06 h3l hT')]; exact h3l
   refine⟨T',_,rfl,Z01,rfl,_,_,rfl,_,_,rfl,rfl,?_⟩
   revert s4 h4l
   generalize (upd H3 T' (Z42 T' [.int (i:Int),.str ⟨#[c]⟩]))=H4
   intro s4 h4l
   by_cases hp:i % 2=0
   ·have d0:decide (V.int ((i:Int) % 2)=V.int 0)=true:=decide_eq_true (by rw[md,hp]; rfl)
    have d1:decide (V.int ((i:Int) % 2)=V.int 1)=false:=decide_eq_false (fun q=>by have:=V.int.inj q; rw[md,hp]at this; cases this)
    refine⟨_,rfl,_,_,rfl,rfl,(by show (0:Int) < 2; decide),rfl,_,rfl,?_⟩
    rw[d0]
    refine Z2m ?_
    refine⟨_,rfl,_,rfl,rfl,_,rfl,?_⟩
    by_cases hce:c=e
    ·subst hce
     rw[decide_eq_true (by rw[Z5w])]
     refine Z2j ?_
     refine⟨_,rfl,_,_,rfl,rfl,(by show (0:Int) < 2; decide),rfl,_,rfl,?_⟩
     rw[d1]
     refine Z2j (Z2j ?_)
     refine⟨_,rfl,_,_,rfl,rfl,(by show (0:Int) < 2; decide),rfl,_,rfl,?_⟩
     rw[d1]
     refine Z2j ?_
     exact⟨_,_,xs,rfl,s4,h4l,hP.even hp hc⟩
    ·rw[decide_eq_false (fun q=>hce (by have:=Zc8 ((show V.str (txt [c])=V.str (txt [e]) from q) |> V.str.inj); simpa using this))]
     refine Z2m ?_
     exact k2 (fun ys hy=>hce (hy.even hp hc)) H4 s4
   ·have hp1:i % 2=1:=by omega
    have d0:decide (V.int ((i:Int) % 2)=V.int 0)=false:=decide_eq_false (fun q=>by have:=V.int.inj q; rw[md,hp1]at this; cases this)
    have d1:decide (V.int ((i:Int) % 2)=V.int 1)=true:=decide_eq_true (by rw[md,hp1]; rfl)
    refine⟨_,rfl,_,_,rfl,rfl,(by show (0:Int) < 2; decide),rfl,_,rfl,?_⟩
    rw[d0]
    refine Z2j (Z2j ?_)
    refine⟨_,rfl,_,_,rfl,rfl,(by show (0:Int) < 2; decide),rfl,_,rfl,?_⟩
    rw[d1]
    refine Z2m ?_
    refine⟨_,rfl,rfl,_,_,rfl,rfl,_,rfl,?_⟩
    rw[Zok]
    by_cases hsg:0<=sgn c
    ·obtain⟨x,hx,ec,es⟩:=Zs6 hsg
     rw[decide_eq_false (fun q=>q hsg)]
     refine Z2j ?_
     refine⟨_,rfl,_,_,rfl,rfl,(by show (0:Int) < 2; decide),rfl,_,rfl,?_⟩
     rw[d1]
     refine Z2m ?_
     refine⟨_,rfl,.inl ⟨rfl,_,SqL.of h4l⟩,rfl,rfl,_,rfl,SG,_,rfl,rfl,?_⟩
     refine⟨l,_,_,rfl,rfl,h4l,?_,?_⟩
     ·rw[Z0k,hP.len]; exact Z0j (by omega)
     refine⟨_,_,xs++[x],rfl,Z02 s4 hl,?_,hP.odd hp1 (by rw[hc,ec]) hx⟩
     rw[Z01]
     exact (congrArg (fun v=>some (HO.lst (nv xs++[V.int v]))) (Za5 c)).trans (by rw[es,Z50])
    ·rw[decide_eq_true hsg]
     refine Z2m ?_
     refine k2 (fun ys hy=>?_) H4 s4
     obtain⟨x,hx,ec⟩:=hy.odd hp1 hc
     exact hsg (by rw[ec,Zhi hx]; omega)
  ·rintro σ H3 ⟨o3,o4,xs,rfl,s3,h3l,hP⟩
   rw[Z0e]at hP
   exact⟨_,rfl,k1 xs (hP.all hodd h3) H3 l s3 hl h3l⟩
end
def Zdy:Sp:=fun vs H Q _=>∃ (z:List Nat),vs=[.str (txt z)]/\z.length<=600/\∀ (H':Hp) (l:Addr) (xs:List Int),Z0d H H'->H l=none->H' l=some (.lst (xs.map V.int))->xs.length<=600->(∀ x∈xs,-1<=x/\x < 36)->Q (.ref l) H'
section
variable {P:Program}{w:World}{K:Y01}{mg:Str->Option Value}{base:Heap}
theorem Zoa {f:Addr}{fd:FuncData}{tS:Tok}(C_SIGNS:mg "SIGNS"=some (.str SG tS))(F:Fn K mg "squares_in" Z24 ["text"] f fd):Z13 P w K mg base CX0 1 f fd ["text"] Zdy:=by
 refine F.F.ok Zqi (fun vs H Q E h=>?_) (fun cdv A outer s H vs Q E hr h=>?_)
 ·obtain⟨z,rfl,_⟩:=h; rfl
 ·obtain⟨z,rfl,hn,k⟩:=h
  have big:1000<=sizeLine:=by decide
  obtain⟨y,ey,hy⟩:=Zl2 z
  refine⟨_,Z07 (Z0o (Z2c (N:=["text"]) (names:=(Z08 Z24).names) (N':=["sign"]) (k:=1) (pull:=[]) (te:=tBM K "str" Ziv (tC (.str SG)) (Z0w (Z1w 0) Z2t)) rfl ⟨by rfl,by decide +kernel,by decide +kernel,by rfl,by decide +kernel,by decide +kernel⟩ rfl rfl (Zmv (Zby (pv 0) (Z1i Z09) Z32 (Z1i Z09))) (fun _ _ _ _ _ _=>Z0i (i:=0) Zs8 rfl (Or.inl rfl)) (fun _ _ _ _ _ _=>Z34 PySem.F.plainAttrs_str PySem.F.slot_str_find PySem.F.type_str_find Z94 (Z1a (v:=.str SG) (by rfl) C_SIGNS ⟨_,rfl⟩) (Z00 (pv 0) Z04)))),?_⟩
  refine⟨_,rfl,_,rfl,_,rfl,txt z,rfl,rfl,by rw[ey,Z0e]; omega,?_⟩
  rw[ey]
  refine⟨_,rfl,fun d hd=>?_⟩
  refine Z2z (Q:=fun d H'=>Q (.ref d) H') y.length ((y.map sgn).map V.int) (by simp) (fun i σ H3=>∃ o,σ=[o]/\Z0d H H3) ⟨none,rfl,Z02 (Z0d.refl _) hd⟩ ?_ ?_
  ·rintro i σ H3 hi ⟨o,rfl,s3⟩ hd3
   refine⟨by show i < (txt _).length; rw[Z0e]; exact hi,fun x H4 ⟨e,c,hc,ex⟩=>?_⟩
   subst e ex
   rw[Z5y]at hc
   refine⟨rfl,_,rfl,SG,_,rfl,rfl,?_⟩
   exact Eq.mpr (congrArg (fun v=>Zkg y.length ((y.map sgn).map V.int) (fun i σ H3=>∃ o,σ=[o]/\Z0d H H3) d i ([o].set 0 (some (V.str ⟨#[c]⟩))) (V.int v) H4) (Za5 c)) (Z70 hi (by omega) hd3 (by simp[hc]) ⟨_,rfl,Z02 s3 hd⟩)
  ·rintro σ H3 ⟨o,rfl,s3⟩ hd3
   refine⟨by show (txt _).length=_; rw[Z0e],k H3 d (y.map sgn) s3 hd hd3 (by rw[Y09]; omega) fun x hx=>?_⟩
   obtain⟨c,_,rfl⟩:=Y0f.mp hx
   exact Zs9 c
end
theorem Zfy {Hc:Hp}{m:Nat}{ta:TA}{te:TE}{pull:List Nat}{Q:VK}{σ:St}{rest:St}(g:Nat->V)(hj:∀ R:List V->Hp->Prop,R [.int (m:Int)] Hc->ta σ Hc R)(hb:bst 1 pull σ=none :: rest)
  (hte:∀ (i:Nat) (H:Hp) (R:VK),i < m->Z0d Hc H->R (g i) H->te (some (.int (i:Int)) :: rest) H R) (hm:m<=1000)
  (k:∀ (H':Hp) (d:Addr),Z0d Hc H'->Hc d=none->H' d=some (.lst ((Y04 m).map g))->Q (.ref d) H') :
  Z82 (Zg0 ta) 1 pull (Z25 0) te σ Hc Q:=by
 refine hj _ ⟨(m:Int),rfl,by omega,by omega,fun d hd=>?_⟩
 rw[Int.toNat_natCast,hb]
 refine Z2z (J:=Itr 0 m) (Q:=fun d H'=>Q (.ref d) H') m ((Y04 m).map g) (by simp) (fun i σ H9=>(∃ o,σ=o :: rest)/\Z0d Hc H9) ⟨⟨_,rfl⟩,Z02 (Z0d.refl _) hd⟩ ?_ ?_
 ·rintro i σ H9 hi ⟨⟨o,rfl⟩,s9⟩ hd9
  refine⟨hi,fun y H4 ⟨e1,e2⟩=>?_⟩
  subst e1 e2
  rw[show (0:Int)+(i:Int)=(i:Int) from by omega]
  refine hte i _ _ hi s9 ?_
  exact Z70 hi hm hd9 (by rw[Y0e,Y1b hi]; rfl) ⟨⟨_,rfl⟩,Z02 s9 hd⟩
 ·rintro σ H9 ⟨⟨o,rfl⟩,s9⟩ hd9
  exact⟨Y06 _,k H9 d s9 hd hd9⟩
def Zdt:Sp:=fun vs H Q _=>∃ (d:Addr) (kvs:List (Key×V)),vs=[.ref d]/\H d=some (.dK kvs)/\kvs.length<=100/\∀ (H':Hp) (l:Addr),Z0d H H'->H l=none->H' l=some (.lst ((Y04 kvs.length).map fun (i:Nat)=>(Z2s kvs (Sum.inl (i:Int):Key)).getD .non))->Q (.ref l) H'
section
variable {P:Program}{w:World}{K:Y01}{mg:Str->Option Value}{base:Heap}
theorem Zo5 {f:Addr}{fd:FuncData}(T:Bi mg)(F:Fn K mg "in_order" Z2r ["told"] f fd):Z13 P w K mg base CX0 1 f fd ["told"] Zdt:=by
 refine F.F.ok Zqh (fun vs H Q E h=>?_) (fun cdv A outer s H vs Q E hr h=>?_)
 ·obtain⟨d,kvs,rfl,_⟩:=h; rfl
 ·obtain⟨d,kvs,rfl,hd,hn,k⟩:=h
  have hu:=Z83 hr
  refine⟨_,Z07 (Z0o (Z2c (N:=["told"]) (names:=(Z08 Z2r).names) (N':=["square","told"]) (k:=1) (pull:=[0]) (te:=Zid (Z1w 1) (Z1w 0)) rfl ⟨by rfl,by decide +kernel,by decide +kernel,by rfl,by decide +kernel,by decide +kernel⟩ rfl rfl (Z1n rfl T.range (Z00 (Z0a Z80 rfl T.len PySem.boot_len (Z00 (pv 0) Z04)) Z04)) (fun _ _ _ _ _ _=>Z0i (i:=0) Zpu rfl (Or.inl rfl)) (fun _ _ _ _ _ _=>Zet hu (pv 1) (pv 0) ⟨rfl,rfl,rfl,rfl⟩))),?_⟩
  dsimp only [Znt]
  refine Zfy (m:=kvs.length) (rest:=[some (.ref d)]) (fun i=>(Z2s kvs (Sum.inl (i:Int):Key)).getD .non) (fun R hR=>⟨_,rfl,d,kvs,rfl,hd,hR⟩) rfl (fun i H' R hi hs hR=>?_) (by omega) fun H5 e s5 he0 he=>k H5 e s5 he0 he
  exact⟨_,rfl,d,rfl,.inl ⟨kvs,.inl (hs _ _ hd)⟩,_,rfl,_,.inl ⟨kvs,Sum.inl (i:Int),.inl (hs _ _ hd),rfl,rfl⟩,hR⟩
end
end K1
namespace L2
open PySem PySem.Spec PyProof.Rows
theorem Zey (val:Nat->Int)(i:Nat):∀ k,(firstMet val (i+k)).length<=(firstMet val i).length+k
 | 0=>Y06 _
 | k+1=>by
  have ih:=Zey val i k
  rw[show i+(k+1)=(i+k)+1 from rfl,firstMet_succ]
  unfold step_dedup
  split
  ·omega
  ·rw[Y07]; simp; omega
theorem Zb7 {r:List Nat}(h:¬ r.Nodup):Z3m r < r.length:=by
 have:∃ i j,i < j/\∃ (hj:j < r.length) (hi:i < r.length),r[i]=r[j]:=by
  apply Classical.byContradiction
  intro hn
  refine h (Y1t.mpr fun i j hi hj hij e=>hn ⟨i,j,hij,hj,hi,e⟩)
 obtain⟨i,j,hij,hj,hi,e⟩:=this
 unfold Z3m
 have v:∀ (k:Nat) (hk:k < r.length),(r.map fun (n:Nat)=>(n:Int)).getD k 0=(r[k]:Int):=fun k hk=>by simp[Y05,hk]
 have hany:(firstMet (fun i=>(r.map fun (n:Nat)=>(n:Int)).getD i 0) j).any (· == (r[j]:Int))=true:=by
  rw[firstMet_any,List.any_eq_true]
  refine⟨(r[i]:Int),Y0f.mpr ⟨i,Y08.mpr hij,v i hi⟩,?_⟩
  rw[e]; simp
 have hs:(firstMet (fun i=>(r.map fun (n:Nat)=>(n:Int)).getD i 0) (j+1)).length<=j:=by
  rw[firstMet_succ]
  unfold step_dedup
  rw[v j hj,if_pos hany]
  exact firstMet_length_le _ _
 have:=Zey (fun i=>(r.map fun (n:Nat)=>(n:Int)).getD i 0) (j+1) (r.length - (j+1))
 rw[show j+1+(r.length - (j+1))=r.length by omega]at this
 omega
end L2
namespace K1
open PySem L2 Sq
inductive Z3r (H:Hp):V->Prop
 | non:Z3r H .non
 | bl (b:Bool):Z3r H (.bl b)
 | int (i:Int):Z3r H (.int i)
 | str (s:Str):Z3r H (.str s)
 | lst {a:Addr} {xs:List V}:H a=some (.lst xs)->Z3r H (.ref a)
 | tup {a:Addr} {xs:List V}:H a=some (.tup xs)->Z3r H (.ref a)
theorem Z3r.same {H H':Hp}{x:V}(e:Z0d H H')(h:Z3r H x):Z3r H' x:=by
 cases h with
 | non=>exact .non
 | bl b=>exact .bl b
 | int i=>exact .int i
 | str s=>exact .str s
 | lst h=>exact .lst (e _ _ h)
 | tup h=>exact .tup (e _ _ h)
def sqV (n:Nat):V->Bool
 | .int i=>decide (0<=i/\i < (n:Int))
 | _=>false
theorem Zck (K:Y01):Y0o K (.type "NoneType") (.type "int")=some false:=by kernel_rfl
theorem Za9 (K:Y01):Y0o K (.type "bool") (.type "int")=some true:=by kernel_rfl
theorem Z93 (K:Y01):Y0o K (.type "bool") (.type "bool")=some true:=by kernel_rfl
theorem Zcp (K:Y01):Y0o K (.type "str") (.type "int")=some false:=by kernel_rfl
theorem Zb0 (K:Y01):Y0o K (.type "list") (.type "int")=some false:=by kernel_rfl
theorem Zcc (K:Y01):Y0o K (.type "tuple") (.type "int")=some false:=by kernel_rfl
def whV:V->Bool
 | .int _=>true
 | _=>false
def Zgr:Sp:=fun vs H Q _=>∃ (x:V),vs=[x]/\Z3r H x/\Q (.bl (whV x)) H
def Z8b:Sp:=fun vs H Q _=>∃ (x:V) (n:Nat),vs=[x,.int (n:Int)]/\Z3r H x/\Q (.bl (sqV n x)) H
section
variable {P:Program}{w:World}{K:Y01}{mg:Str->Option Value}{base:Heap}
theorem Zo8:Z0n ["thing","squares"] ["thing","squares"] (Z08 Zbs):=⟨rfl,rfl,rfl,by decide +kernel,rfl,by decide +kernel,by decide +kernel⟩
theorem Zpl:Z0n ["thing"] ["thing"] (Z08 Z36):=⟨rfl,rfl,rfl,by decide +kernel,rfl,by decide +kernel,by decide +kernel⟩
theorem Zkv {f:Addr}{fd:FuncData}(T:Bi mg)(F:Fn K mg "is_whole" Z36 ["thing"] f fd):Z13 P w K mg base CX0 1 f fd ["thing"] Zgr:=by
 refine F.F.ok Zpl (fun vs H Q E h=>?_) (fun cdv A outer s H vs Q E hr h=>?_)
 ·obtain⟨x,rfl,_⟩:=h; rfl
 ·obtain⟨x,rfl,hx,k⟩:=h
  refine⟨_,Z07 (Z0o (Ze7 (Z0a Z3x (by rfl) T.isin Z0x (Z00 (pv 0) (Z00 (Z7x (v:=.ty "int") (by rfl) T.int Zek rfl) Z04)))
   (Zeb (Zlx (Z0a Z3x (by rfl) T.isin Z0x (Z00 (pv 0) (Z00 (Z7x (v:=.ty "bool") (by rfl) T.bool Zb8 rfl) Z04))))))),?_⟩
  cases hx with
  | int i=>
   refine⟨_,rfl,_,_,_,_,rfl,.int i,Z75 K,_,rfl,?_⟩
   refine Z2m ?_
   exact⟨_,rfl,_,_,_,_,rfl,.int i,Z6a K,_,rfl,k⟩
  | bl b=>
   refine⟨_,rfl,_,_,_,_,rfl,.bl b,Za9 K,_,rfl,?_⟩
   refine Z2m ?_
   exact⟨_,rfl,_,_,_,_,rfl,.bl b,Z93 K,_,rfl,k⟩
  | non=>
   refine⟨_,rfl,_,_,_,_,rfl,.non,Zck K,_,rfl,?_⟩
   exact Z2j k
  | str z=>
   refine⟨_,rfl,_,_,_,_,rfl,.str z,Zcp K,_,rfl,?_⟩
   exact Z2j k
  | lst h=>
   refine⟨_,rfl,_,_,_,_,rfl,.lst h,Zb0 K,_,rfl,?_⟩
   exact Z2j k
  | tup h=>
   refine⟨_,rfl,_,_,_,_,rfl,.tup h,Zcc K,_,rfl,?_⟩
   exact Z2j k
theorem Zkz {f fw:Addr}{fd fdw:FuncData}(T:Bi mg)(F:Fn K mg "is_square" Zbs ["thing","squares"] f fd)(FW:Fn K mg "is_whole" Z36 ["thing"] fw fdw):Z13 P w K mg base CX0 2 f fd ["thing","squares"] Z8b:=by
 have GW:Z13 P w K mg base CX0 1 fw fdw ["thing"] Zgr:=Zkv T FW
 refine F.F.ok Zo8 (fun vs H Q E h=>?_) (fun cdv A outer s H vs Q E hr h=>?_)
 ·obtain⟨x,n,rfl,_⟩:=h; rfl
 ·obtain⟨x,n,rfl,hx,k⟩:=h
  refine⟨_,Z07 (Z0o (Ze7 (Z0h GW hr rfl FW.m FW.F.kp FW.b .nil Z0z (Z00 (pv 0) Z04)) (Zeb (Ze3 Zfs Zcq Z09 (pv 0) (pv 1))))),?_⟩
  refine⟨_,rfl,x,rfl,hx,_,rfl,?_⟩
  cases x with
  | int i=>
   refine Z2m ?_
   refine⟨_,rfl,_,_,rfl,rfl,_,rfl,?_⟩
   have k:Q (.bl (decide (0<=i/\i < (n:Int)))) H:=k
   refine Zgo (fun h=>?_) (fun h=>?_)
   ·have h:0<=i:=of_decide_eq_true h
    refine⟨_,rfl,_,_,rfl,rfl,?_⟩
    have e:decide (0<=i/\i < (n:Int))=decide (i < (n:Int)):=by simp[h]
    rw[e]at k; exact k
   ·have h:¬ 0<=i:=fun z=>h (decide_eq_true z)
    have e:decide (0<=i/\i < (n:Int))=false:=by simp[h]
    rw[e]at k; exact k
  | non=>exact Z2j k
  | bl b=>exact Z2j k
  | str z=>exact Z2j k
  | ref a=>exact Z2j k
  | _=>exact Z2j k
end
def Znj (K:Y01)(H:Hp)(p:Addr)(xs:List V):Prop:=SqL K H p xs\/SqT K H p xs
theorem Znj.same {K:Y01}{H H':Hp}{p:Addr}{xs:List V}(e:Z0d H H')(h:Znj K H p xs):Znj K H' p xs:=h.imp e.seq (Z0d.tseq e)
def Zpn (n:Nat)(xs:List V):Prop:=∃ r,xs=nv r/\Row n r
theorem Zmm {n:Nat}:∀ {xs:List V},xs.all (sqV n)=true->∃ r:List Nat,xs=nv r/\∀ y∈r,y < n
 | [],_=>⟨[],rfl,by simp⟩
 | x :: xs,h=>by
  rw[List.all_cons,Bool.and_eq_true]at h
  obtain⟨r,rfl,hr⟩:=Zmm h.2
  cases x with
  | int i=>
   have hi:0<=i/\i < (n:Int):=of_decide_eq_true h.1
   obtain⟨m,rfl⟩:=Int.eq_ofNat_of_zero_le hi.1
   refine⟨m :: r,rfl,fun y hy=>?_⟩
   rcases Y0j.mp hy with e | e
   ·subst e; omega
   ·exact hr y e
  | _=>exact absurd h.1 (by simp[sqV])
theorem Zk6 {n:Nat}{xs:List V}(h:Zpn n xs):xs.all (sqV n)=true:=by
 obtain⟨r,rfl,hr⟩:=h
 rw[List.all_eq_true]
 intro x hx
 obtain⟨m,hm,rfl⟩:=Y0f.mp hx
 have:=hr.lt m hm
 exact decide_eq_true (by omega)
def Zgi (K:Y01):Sp:=fun vs H Q _=>∃ (p:Addr) (xs:List V),vs=[.ref p]/\Znj K H p xs/\(∀ x∈xs,Z3r H x)/\xs.length<=500/\∀ (H':Hp) (b:Bool),Z0d H H'->(b=true↔Zpn xs.length xs)->Q (.bl b) H'
abbrev Zo6 (K:Y01):List V->Hp->VK->Prop:=fun xs H Q=>∃ p ys,xs=[.ref p]/\(SqL K H p ys\/SqT K H p ys)/\Q (.int (ys.length:Int)) H
theorem Zon {K:Y01}{Hc:Hp}{p:Addr}{xs:List V}{Q:VK}{σ:St}(h0:σ[0]?=some (some (.ref p)))(hb:bst 1 [0] σ=[none,some (.ref p)])(hp:Znj K Hc p xs)(ht:∀ x∈xs,Z3r Hc x)(hn:xs.length<=500)
  (k:∀ (H':Hp) (d:Addr),Z0d Hc H'->H' d=some (.lst ((xs.map (sqV xs.length)).map V.bl))->Q (.ref d) H') :
  Z82 (fun σ H R=>Zfi K (Z1w 0) σ H R\/Zt6 K (Z1w 0) σ H R) 1 [0] (Z25 0) (Z2p Z8b [] E0 (Z0w (Z1w 0) (Z0w (tCB (Zo6 K) (Z0w (Z1w 1) Z2t)) Z2t))) σ Hc Q:=by
 have core:∀ (J:It),(∀ H3,Z0d Hc H3->(∀ i (hi:i < xs.length),J.go i H3/\∀ x H2,J.yld i H3 x H2->H2=H3/\x=xs[i])/\J.stop xs.length H3)->∀ d,Hc d=none->
   ∃ W:Nat->Nat->St->Hp->Prop,(∃ m,W 0 m (bst 1 [0] σ) (upd Hc d (.lst [])))/\∀ i m σ' H',W i m σ' H'->
    (J.stop i H'/\Q (.ref d) H')\/(J.go i H'/\∀ x H2,J.yld i H' x H2->Z25 0 x σ' H2 fun σ3 H3=>Z2p Z8b [] E0 (Z0w (Z1w 0) (Z0w (tCB (Zo6 K) (Z0w (Z1w 1) Z2t)) Z2t)) σ3 H3 fun y H4=>∃ xs,H4 d=some (.lst xs)/\xs.length < sizeLine/\∃ m',m' < m/\W (i+1) m' σ3 (upd H4 d (.lst (xs++[y])))):=by
  intro J hJ d hd
  rw[hb]
  refine Z2z (Q:=fun d H'=>Q (.ref d) H') xs.length ((xs.map (sqV xs.length)).map V.bl) (by simp) (fun i σ H3=>∃ o,σ=[o,some (.ref p)]/\Z0d Hc H3) ⟨_,rfl,Z02 (Z0d.refl _) hd⟩ ?_ ?_
  ·rintro i σ H3 hi ⟨o,rfl,s3⟩ hd3
   obtain⟨g1,g2⟩:=(hJ H3 s3).1 i hi
   refine⟨g1,fun x H4 hy=>?_⟩
   obtain⟨e1,e2⟩:=g2 x H4 hy
   subst e1 e2
   refine⟨_,rfl,_,rfl,p,_,rfl,hp.same s3,xs[i],xs.length,rfl,(ht _ (Y10 hi)).same s3,?_⟩
   exact Z70 hi (by omega) hd3 (by simp[hi]) ⟨_,rfl,Z02 s3 hd⟩
  ·rintro σ H3 ⟨o,rfl,s3⟩ hd3
   exact⟨(hJ H3 s3).2,k H3 d s3 hd3⟩
 rcases id hp with h | h
 ·refine .inl ⟨_,h0,p,rfl,⟨_,h⟩,core _ fun H3 s3=>⟨fun i hi=>⟨⟨_,_,s3.seq h,Y00 hi⟩,fun x H2 ⟨e,hy⟩=>⟨e,?_⟩⟩,⟨_,s3.seq h,Y06 _⟩⟩⟩
  have:=hy _ (s3.seq h)
  rw[Y00 hi]at this
  exact (Option.some.inj this).symm
 ·refine .inr ⟨_,h0,p,rfl,⟨_,h⟩,core _ fun H3 s3=>⟨fun i hi=>⟨⟨_,_,Z0d.tseq s3 h,Y00 hi⟩,fun x H2 ⟨e,hy⟩=>⟨e,?_⟩⟩,⟨_,Z0d.tseq s3 h,Y06 _⟩⟩⟩
  have:=hy _ (Z0d.tseq s3 h)
  rw[Y00 hi]at this
  exact (Option.some.inj this).symm
section
variable {P:Program}{w:World}{K:Y01}{mg:Str->Option Value}{base:Heap}
theorem Zp7:Z0n ["row"] ["row"] (Z08 Z8e):=⟨rfl,rfl,rfl,by decide +kernel,rfl,by decide +kernel,by decide +kernel⟩
theorem ndTG:(["thing","row"]:List Str).Nodup:=by decide +kernel
theorem Zlb {f fs:Addr}{fd fds:FuncData}(T:Bi mg)(F:Fn K mg "has_each_once" Z8e ["row"] f fd)(FS:Fn K mg "is_square" Zbs ["thing","squares"] fs fds)(GS:Z13 P w K mg base CX0 2 fs fds ["thing","squares"] Z8b) :
  Z13 P w K mg base CX0 3 f fd ["row"] (Zgi K):=by
 refine F.F.ok Zp7 (fun vs H Q E h=>?_) (fun cdv A outer s H vs Q E hr h=>?_)
 ·obtain⟨p,xs,rfl,_⟩:=h; rfl
 ·obtain⟨p,xs,rfl,hp,ht,hn,k⟩:=h
  refine⟨_,Z03 (Z1f (Z8y (Z8u (Z0a (Z4w rfl) (by rfl) T.all Zen (Z00
     (Z2c (N:=["row"]) (names:=(Z08 Z8e).names) (N':=["thing","row"]) (k:=1) (pull:=[0]) (te:=Z2p Z8b [] E0 (Z0w (Z1w 0) (Z0w (tCB (Zo6 K) (Z0w (Z1w 1) Z2t)) Z2t))) rfl
      ⟨by rfl,by decide +kernel,by decide +kernel,by rfl,by decide +kernel,by decide +kernel⟩ rfl rfl (PI.or (Z1x (pv 0)) (Zez (pv 0))) (fun _ _ _ _ _ _=>Z0i (i:=0) ndTG rfl (Or.inl rfl))
      (fun _ _ _ _ _ _=>Z0h GS hr rfl FS.m FS.F.kp FS.b .nil Z0z (Z00 (pv 0) (Z00 (Z0a Z0b (by rfl) T.len PySem.boot_len (Z00 (pv 1) Z04)) Z04)))) Z04)))) (Z07 (Z0o Zaf)) Z0p)
   (Z07 (Z0o (Z6t Z3j (Z0a Z3q (by rfl) T.len PySem.boot_len (Z00 (Z0q (Z9w rfl) (by rfl) T.set Za0 (Z00 (pv 0) Z04)) Z04)) (Z0a Z0b (by rfl) T.len PySem.boot_len (Z00 (pv 0) Z04)) (Z0r _)))),?_⟩
  dsimp only [Zg5,Zdh,Ztt,Zsr,tB,tCB,Z0w]
  refine Zon rfl rfl hp ht hn fun H3 d s3 hd3=>?_
  refine⟨d,_,rfl,SqL.of hd3,_,rfl,?_⟩
  have eall:((xs.map (sqV xs.length)).all id)=xs.all (sqV xs.length):=by rw[List.all_map]; rfl
  rw[eall]
  cases ha:xs.all (sqV xs.length) with
  | false=>
   refine Z2m ?_
   refine k H3 false s3 ⟨fun z=>(by cases z),fun z=>?_⟩
   rw[Zk6 z]at ha; cases ha
  | true=>
   refine Z2j ?_
   obtain⟨r,er,hr'⟩:=Zmm ha
   have hrl:r.length=xs.length:=by rw[er,Z0k]
   have hp3:Znj K H3 p (nv r):=by rw[<-er]; exact hp.same s3
   refine⟨_,rfl,p,r,rfl,hp3,by omega,fun d2 S hd2=>?_⟩
   have s4:Z0d H (upd H3 d2 (.set S (Z3m r))):=Z02 s3 (s3.free hd2)
   refine⟨d2,S,_,rfl,Z01,_,rfl,p,_,rfl,hp.same s4,rfl,?_⟩
   refine k _ _ s4 ?_
   rw[decide_eq_true_iff]
   constructor
   ·intro z
    have z:=V.int.inj z
    have hnd:r.Nodup:=Classical.byContradiction fun hnn=>by have:=Zb7 hnn; omega
    exact⟨r,er,⟨hrl,hnd,hr'⟩⟩
   ·rintro ⟨r',e',hR⟩
    have:r'=r:=Zrc (e'.symm.trans er)
    subst this
    rw[Z7z hR.nd,hrl]
def Zjq (K:Y01)(H:Hp)(p:Addr)(xs:List V):Prop:=SqL K H p xs\/H p=some (.tup xs)
theorem Zjq.v {K:Y01}{H:Hp}{p:Addr}{xs:List V}(h:Zjq K H p xs):Znj K H p xs:=h.imp id SqT.of
theorem Zjq.same {K:Y01}{H H':Hp}{p:Addr}{xs:List V}(e:Z0d H H')(h:Zjq K H p xs):Zjq K H' p xs:=h.imp e.seq (e _ _)
def Zql (K:Y01):List V->Hp->VK->Prop:=fun xs H Q=>∃ p ys,xs=[.ref p]/\((SqL K H p ys/\∀ l,H l=none->Q (.ref l) (upd H l (.tup ys)))\/(SqT K H p ys/\Q (.ref p) H))
theorem Z7o {X:Cx}:Z33 X (.type "tuple") (Zql X.K):=Z1l
theorem tupG {K:Y01}{H:Hp}{p:Addr}{xs:List V}{Q:VK}(h:Zjq K H p xs)(k:∀ (H':Hp) (l:Addr),Z0d H H'->H' l=some (.tup xs)->Q (.ref l) H'):Zql K [.ref p] H Q:=by
 rcases h with h | h
 ·exact⟨p,_,rfl,.inl ⟨h,fun l hl=>k _ l (Z02 (Z0d.refl H) hl) Z01⟩⟩
 ·exact⟨p,_,rfl,.inr ⟨SqT.of h,k H p (Z0d.refl H) h⟩⟩
def Zrz (n:Nat)(xs ys:List V):Prop:=1<=n/\n<=36/\Zpn n xs/\Zpn n ys
def Z8q (K:Y01)(CS:Addr):Sp:=fun vs H Q E=>∃ (p q:Addr) (xs ys:List V),vs=[.ref p,.ref q]/\Zjq K H p xs/\Zjq K H q ys/\(∀ x∈xs,Z3r H x)/\(∀ y∈ys,Z3r H y)/\xs.length<=500/\ys.length<=500/\
 ((¬ ∃ n,Zrz n xs ys)->∀ H':Hp,Z0d H H'->E (.ref CS) none H')/\
 (∀ (n:Nat) (r u:List Nat),xs=nv r->ys=nv u->Row n r->Row n u->1<=n->n<=36->∀ (H':Hp) (a:Addr),Z0d H H'->Z7e H' a r u->Q (.ref a) H')
theorem Zf7:Z0n ["right","up"] ["right","up"] (Z08 Z37):=⟨rfl,rfl,rfl,by decide +kernel,rfl,by decide +kernel,by decide +kernel⟩
theorem Zd9 {f fe CS:Addr}{fd fde:FuncData}{tm:Tok}(T:Bi mg)(hC:Z8c K CS)(hCm:mg "NoSheet"=some (.ref CS))(hm:mg "MOST_SQUARES"=some (.int 36 tm))(F:Fn K mg "checked_rows" Z37 ["right","up"] f fd)(FE:Fn K mg "has_each_once" Z8e ["row"] fe fde)(GE:Z13 P w K mg base CX0 3 fe fde ["row"] (Zgi K)) :
  Z13 P w K mg base (CX1 P w) 4 f fd ["right","up"] (Z8q K CS):=by
 refine F.F.ok1 Zf7 (fun vs H Q E h=>?_) (fun cdv A outer s H vs Q E hr h=>?_)
 ·obtain⟨p,q,xs,ys,rfl,_⟩:=h; rfl
 ·obtain⟨p,q,xs,ys,rfl,hp,hq,tx,ty,lx,ly,kb,kg⟩:=h
  refine⟨_,Z03 (Z1f (Z0m Z9v (Z0a Z0b (by rfl) T.len PySem.boot_len (Z00 (pv 0) Z04)) (Z0a Z0b (by rfl) T.len PySem.boot_len (Z00 (pv 1) Z04)) (Z0r _)) (Z07 (Z6m rfl hC rfl hCm Zde (Z00 Z1b Z04))) Z0p)
   (Z03 (Z1f (Z8y (Zdo Zfs Zfs Z09 (Z0a Z0b (by rfl) T.len PySem.boot_len (Z00 (pv 0) Z04)) (Z1a (v:=.int 36) (by rfl) hm ⟨_,rfl⟩))) (Z07 (Z6m rfl hC rfl hCm Zde (Z00 (Zhe (.cons Z1b (.cons (Zg9 (Z1a (v:=.int 36) (by rfl) hm ⟨_,rfl⟩)) (.cons Z1b .nil)))) Z04))) Z0p)
   (Z03 (Z1f (Z8y (PW.pt (Zdg (Z8u (Z0h GE hr rfl FE.m FE.F.kp FE.b .nil Z0z (Z00 (pv 0) Z04))) (Z9i (Z8u (Z0h GE hr rfl FE.m FE.F.kp FE.b .nil Z0z (Z00 (pv 1) Z04))))))) (Z07 (Z6m rfl hC rfl hCm Zde (Z00 Z1b Z04))) Z0p)
   (Z07 (Z0o (Z3h (Z00 (Z0q Z7o (by rfl) T.tuple Z1t (Z00 (pv 0) Z04)) (Z00 (Z0q Z7o (by rfl) T.tuple Z1t (Z00 (pv 1) Z04)) Z04))))))),?_⟩
  have one:1<=sizeLine:=by decide
  have glen:∀ {n:Nat} {zs:List V},Zpn n zs->zs.length=n:=by rintro n zs ⟨r,rfl,hr⟩; rw[Z0k,hr.len]
  have far:(∀ n,1<=n->n<=36->Zpn n xs->False)->Zmx (Z0w (Zeq [tC (.str (Str.ofString "a sheet has 1 to ")),Zr3 (tC (.int 36)),tC (.str (Str.ofString " squares"))] Str.empty) Z2t) CS E { nx:=fun _ H'=>Q .non H',rt:=Q } [some (.ref p),some (.ref q)] H:=by
   intro hno
   refine⟨_,rfl,by decide +kernel,36,rfl,by decide +kernel,_,rfl,by decide +kernel,_,rfl,by decide +kernel,one,?_⟩
   exact kb (fun ⟨n,n1,n36,g1,_⟩=>hno n n1 n36 g1) H (Z0d.refl H)
  refine⟨_,rfl,p,_,rfl,hp.v,_,rfl,q,_,rfl,hq.v,rfl,_,rfl,?_⟩
  by_cases hl:xs.length=ys.length
  ·refine Zn5 (by rw[hl]) ?_
   refine⟨_,rfl,p,_,rfl,hp.v,_,_,rfl,rfl,_,rfl,?_⟩
   by_cases h1:1<=xs.length
   ·have e1:decide ((1:Int)<=(xs.length:Int))=true:=decide_eq_true (by omega)
    rw[e1]
    refine Z2m ?_
    refine⟨_,_,rfl,rfl,_,rfl,?_⟩
    by_cases h2:xs.length<=36
    ·have e2:decide ((xs.length:Int)<=36)=true:=decide_eq_true (by omega)
     rw[e2]
     refine Z2j ?_
     refine⟨_,rfl,p,xs,rfl,hp.v,tx,lx,fun H1 b1 s1 hb1=>?_⟩
     refine⟨_,rfl,?_⟩
     cases b1 with
     | false=>
      refine Z2j ?_
      refine Z2m ?_
      refine⟨one,kb (fun ⟨n,_,_,g1,_⟩=>?_) H1 s1⟩
      have:=hb1.mpr (by rw[glen g1]; exact g1)
      cases this
     | true=>
      refine Z2m ?_
      refine⟨_,rfl,q,ys,rfl,(hq.same s1).v,fun y hy=>(ty y hy).same s1,ly,fun H2 b2 s2 hb2=>?_⟩
      refine⟨_,rfl,?_⟩
      have s12:=s1.trans s2
      cases b2 with
      | false=>
       refine Z2m ?_
       refine⟨one,kb (fun ⟨n,_,_,_,g2⟩=>?_) H2 s12⟩
       have:=hb2.mpr (by rw[glen g2]; exact g2)
       cases this
      | true=>
       refine Z2j ?_
       obtain⟨r,er,Rr⟩:=hb1.mp rfl
       obtain⟨u,eu,Ru⟩:=hb2.mp rfl
       rw[<-hl]at Ru
       refine⟨_,rfl,?_⟩
       dsimp only [tCB,Z0w,Z2t]
       refine tupG (hp.same s12) fun H3 t1 s3 ht1=>?_
       refine⟨_,rfl,?_⟩
       try dsimp only [tCB,Z0w,Z2t]
       refine tupG (hq.same (s12.trans s3)) fun H4 t2 s4 ht2=>?_
       refine⟨by show 2<=sizeLine; decide,fun a ha=>?_⟩
       have s34:=s12.trans (s3.trans s4)
       have e3:=s4 _ _ ht1
       refine kg xs.length r u er eu Rr Ru h1 h2 _ a (Z02 s34 (s34.free ha)) ⟨t1,t2,Z01,?_,?_⟩
       ·rw[Z05 (Z06 e3 ha),e3,er]
       ·rw[Z05 (Z06 ht2 ha),ht2,eu]
    ·have e2:decide ((xs.length:Int)<=36)=false:=decide_eq_false (by omega)
     rw[e2]
     refine Z2m ?_
     exact far (fun n _ h36 g1=>h2 (by rw[glen g1]; exact h36))
   ·have e1:decide ((1:Int)<=(xs.length:Int))=false:=decide_eq_false (by omega)
    rw[e1]
    refine Z2j ?_
    refine⟨_,rfl,?_⟩
    refine Z2m ?_
    exact far (fun n hn1 _ g1=>h1 (by rw[glen g1]; exact hn1))
  ·have e0:decide (V.int (xs.length:Int)=V.int (ys.length:Int))=false:=decide_eq_false (fun z=>hl (by have:=V.int.inj z; omega))
   rw[e0]
   refine Z2m ?_
   exact⟨one,kb (fun ⟨n,_,_,g1,g2⟩=>hl (by rw[glen g1,glen g2])) H (Z0d.refl H)⟩
end
def Zp1 (K:Y01)(CN CT:Addr):Sp:=fun vs H Q E=>∃ (p q:Addr) (xs ys:List V),vs=[.ref p,.ref q]/\Zjq K H p xs/\Zjq K H q ys/\(∀ x∈xs,Z3r H x)/\(∀ y∈ys,Z3r H y)/\xs.length<=500/\ys.length<=500/\
 ((¬ ∃ n,Zrz n xs ys)->∀ H':Hp,Z0d H H'->E (.ref CN) none H')/\
 (∀ (n:Nat) (r u:List Nat),xs=nv r->ys=nv u->Row n r->Row n u->1<=n->n<=36->((grp n r u).length<=1->∀ (H':Hp) (a:Addr),Z0d H H'->Z7e H' a r u->Q (.ref a) H')/\
  ∀ g f0 t0 gs0,grp n r u=g :: (f0 :: t0) :: gs0->∀ (H':Hp) (dx:Addr),Z0d H H'->H' dx=some (.xd [("square",.int (f0:Int))])->E (.ref CT) (some dx) H')
section
variable {P:Program}{w:World}{K:Y01}{mg:Str->Option Value}{base:Heap}
abbrev Zsv:List Str:=["right","up","sheet","parts"]
theorem Zhk:Z0n Zsv ["right","up"] (Z08 Z3c):=⟨rfl,rfl,rfl,by decide +kernel,rfl,by decide +kernel,by decide +kernel⟩
theorem Zra {f fg fc:Addr}{fd dg dc:FuncData}{CN CT fI:Addr}{dI:FuncData}(T:Bi mg)(N:Zrv K CT fI "square")(mT:mg "NotTogether"=some (.ref CT))(bI:Z6g K dI ["self","square"] [])(GI:Z13 P w K mg base CX0 1 fI dI ["self","square"] (Zdc CT "square" OkI))(F:Fn K mg "sheet_of" Z3c ["right","up"] f fd)(FG:Fn K mg "groups_of" Z48 ["rows"] fg dg)(GG:Z13 P w K mg base CX0 4 fg dg ["rows"] Zb6)
  (FC:Fn K mg "checked_rows" Z37 ["right","up"] fc dc) (GC:Z13 P w K mg base (CX1 P w) 4 fc dc ["right","up"] (Z8q K CN)):Z13 P w K mg base (CX1 P w) 5 f fd ["right","up"] (Zp1 K CN CT):=by
 refine F.F.ok1 Zhk (fun vs H Q E h=>?_) (fun cdv A outer s H vs Q E hr h=>?_)
 ·obtain⟨p,q,xs,ys,rfl,_⟩:=h; rfl
 ·obtain⟨p,q,xs,ys,rfl,hp,hq,hx,hy,hlx,hly,k1,k2⟩:=h
  have hr2:Z2d 2 _:=hr.mono (by decide)
  have hr1:Z2d 1 _:=hr.mono (by decide)
  have hr4:Z2d 4 _:=hr.mono (by decide)
  refine⟨_,(Z03 (Z0c (i:=2) Zhk.nd rfl (Or.inl rfl) (Z0h GC hr4 rfl FC.m FC.F.kp FC.b .nil (Ztf fun _ _ _ z=>z) (Z00 (pv 0) (Z00 (pv 1) Z04))))
   (Z03 (Z0c (i:=3) Zhk.nd rfl (Or.inl rfl) (Z0h GG hr4 rfl FG.m FG.F.kp FG.b .nil Z0z (Z00 (pv 2) Z04)))
   (Z03 (Z1f (Z0m Zn7 (Z0a Z0b rfl T.len PySem.boot_len (Z00 (pv 3) Z04)) Z09 (Z0r _)) (Z07 (Zj2 rfl N rfl mT GI bI hr2 Zov (Z00 (Z0t Z0v (Z0t Z0v (pv 3) Z09 (fun _ _=>rfl)) Z09 (fun _ _=>rfl)) Z04))) Z0p)
   (Z07 (Z0o (pv 2)))))),?_⟩
  refine⟨_,rfl,_,rfl,p,q,xs,ys,rfl,hp,hq,hx,hy,hlx,hly,k1,fun n r u e1 e2 rr ru h1 h36 H1 a s1 ha=>?_⟩
  obtain⟨k2,k3⟩:=k2 n r u e1 e2 rr ru h1 h36
  refine⟨_,rfl,a,n,r,u,rfl,ha,rr,ru,h36,fun H2 l gs s2 hl hg nd hL hgs=>?_⟩
  refine⟨_,rfl,l,_,rfl,.inl (SqL.of hL),_,_,rfl,rfl,_,rfl,?_⟩
  have lg:gs.length=(grp n r u).length:=hgs.1
  by_cases c:(grp n r u).length<=1
  ·rw[decide_eq_false (by rw[Y09]; omega)]
   refine Z2j ?_
   exact⟨_,rfl,k2 c H2 a (s1.trans s2) (ha.same s2)⟩
  ·rw[decide_eq_true (by rw[Y09]; omega)]
   refine Z2m ?_
   obtain⟨g,f0,t0,gs0,eg⟩:∃ g f0 t0 gs0,grp n r u=g :: (f0 :: t0) :: gs0:=by
    match eg:grp n r u with
    | []=>rw[eg]at c; exact absurd (Y0w _) c
    | [g]=>rw[eg]at c; exact absurd (Y06 _) c
    | g :: [] :: gs0=>
     obtain⟨f1,hf1,hL1,e1⟩:=Z56.mp (show []∈grp n r u by rw[eg]; simp)
     obtain⟨t1,e2⟩:=Z7k hf1 hL1
     rw[e2]at e1; cases e1
    | g :: (f0 :: t0) :: gs0=>exact⟨g,f0,t0,gs0,rfl⟩
   have f36:f0 < n:=by
    obtain⟨f1,hf1,hL1,e1⟩:=Z56.mp (show (f0 :: t0)∈grp n r u by rw[eg]; simp)
    exact (Z2f.mp (show f0∈clsG n r u f1 by rw[<-e1]; simp)).1
   obtain⟨g0,g1,gr,egs⟩:∃ g0 g1 gr,gs=g0 :: g1 :: gr:=by
    match gs,lg with
    | [],z=>rw[eg]at z; simp at z
    | [_],z=>rw[eg]at z; simp at z
    | g0 :: g1 :: gr,_=>exact⟨g0,g1,gr,rfl⟩
   subst egs
   have hg1:=hgs.2 1 g1 (f0 :: t0) rfl (by rw[eg]; rfl)
   refine⟨_,rfl,l,_,1,_,rfl,rfl,SqL.of hL,Z0f (j:=1) rfl,g1,_,0,_,rfl,rfl,SqL.of hg1,Z0f (j:=0) rfl,_,rfl,⟨_,rfl,by omega⟩,fun dx H3 hdx e3=>?_⟩
   subst e3
   exact k3 g f0 t0 gs0 eg _ dx (Z02 (s1.trans s2) ((s1.trans s2).free hdx)) Z01
end
def Zc0 (kvs:List (Key×V)):Prop:=(kvs.map (·.1)).Nodup/\∀ kv∈kvs,(∃ i:Int,kv.1=Sum.inl i/\-1<=i/\i < 36)/\∃ j:Int,kv.2=.int j
theorem Zc0.nil:Zc0 []:=⟨List.nodup_nil,fun kv h=>nomatch h⟩
theorem Zc0.put {kvs:List (Key×V)}(h:Zc0 kvs){i:Int}(h1:-1<=i)(h2:i < 36)(j:Int):Zc0 (Z58 kvs (Sum.inl i) (.int j)):=by
 unfold Z58
 split
 ·refine⟨?_,fun kv hk=>?_⟩
  ·rw[Y0y]
   have:(kvs.map ((fun x=>x.1) ∘ fun kv=>if kv.1=Sum.inl i then (kv.1,V.int j) else kv))=kvs.map (·.1):=Y1p fun kv _=>by
    show (if kv.1=Sum.inl i then (kv.1,V.int j) else kv).1=kv.1
    split <;> rfl
   rw[this]; exact h.1
  ·obtain⟨kv',hk',rfl⟩:=Y0f.mp hk
   have q:=h.2 kv' hk'
   split
   ·exact⟨q.1,j,rfl⟩
   ·exact q
 ·rename_i hn
  refine⟨?_,fun kv hk=>?_⟩
  ·rw[Y0p]
   refine Y1y.mpr ⟨h.1,by simp,fun a ha b hb e=>?_⟩
   have hb:b=Sum.inl i:=by simpa using hb
   apply hn
   rw[List.any_eq_true]
   obtain⟨kv,hkv,rfl⟩:=Y0f.mp ha
   exact⟨kv,hkv,decide_eq_true (e.trans hb)⟩
  ·rcases Y0n.mp hk with q | q
   ·exact h.2 kv q
   ·rw[Y0g.mp q]; exact⟨⟨i,rfl,h1,h2⟩,j,rfl⟩
def kN (k:Key):Nat:=match k with
 | .inl i=>(i+1).toNat
 | .inr _=>0
theorem Zc0.len {kvs:List (Key×V)}(h:Zc0 kvs):kvs.length<=37:=by
 have hm:∀ x∈kvs.map (·.1),∃ i:Int,x=Sum.inl i/\-1<=i/\i < 36:=fun x hx=>by
  obtain⟨kv,hkv,rfl⟩:=Y0f.mp hx
  exact (h.2 kv hkv).1
 have nd:((kvs.map (·.1)).map kN).Nodup:=Y1w.mpr (List.Pairwise.imp_of_mem (fun {a b} ha hb hne e=>by
  obtain⟨i,rfl,i1,i2⟩:=hm a ha
  obtain⟨j,rfl,j1,j2⟩:=hm b hb
  have e:(i+1).toNat=(j+1).toNat:=e
  exact hne (by congr 1; omega)) h.1)
 have:=Z16 ((kvs.map (·.1)).map kN) (Y04 37) nd fun x hx=>by
  obtain⟨k,hk,rfl⟩:=Y0f.mp hx
  obtain⟨i,rfl,i1,i2⟩:=hm k hk
  exact Y08.mpr (by show (i+1).toNat < 37; omega)
 rw[Y09,Y09,Y0d]at this
 exact this
theorem Zc0.thing {kvs:List (Key×V)}(h:Zc0 kvs)(k:Key)(H:Hp):Z3r H ((Z2s kvs k).getD .non):=by
 unfold Z2s
 cases q:kvs.find? fun kv=>decide (kv.1=k) with
 | none=>exact .non
 | some kv=>
  obtain⟨_,j,e⟩:=h.2 kv (List.mem_of_find?_eq_some q)
  show Z3r H kv.2
  rw[e]; exact .int j
structure XC92 (K:Y01)(mg:Str->Option Value)(CN CT:Addr):Prop where
 fN:Z6q K CN
 fT:Z6q K CT
 mN:mg "NoSheet"=some (.ref CN)
 mT:mg "NotTogether"=some (.ref CT)
 nn:Y0m K (.ref CN) (.ref CN)=some true
 nt:Y0m K (.ref CN) (.ref CT)=some false
 tn:Y0m K (.ref CT) (.ref CN)=some false
 tt:Y0m K (.ref CT) (.ref CT)=some true
def Zmb (K:Y01):Sp:=fun vs H Q _=>∃ (pl:Addr) (ts:List Addr),vs=[.ref pl]/\H pl=some (.lst (ts.map V.ref))/\ts.length<=100/\(∀ t∈ts,∃ (pa pb:Addr) (xs ys:List Int),H t=some (.tup [.ref pa,.ref pb])/\H pa=some (.lst (xs.map V.int))/\H pb=some (.lst (ys.map V.int))/\∀ y∈ys,-1<=y/\y < 36)/\
 (∀ H':Hp,Z0d H H'->Q .non H')/\∀ (H':Hp) (a:Addr) (n:Nat) (r u:List Nat),Z0d H H'->Z4r n r u->Z7e H' a r u->Q (.ref a) H'
section
variable {P:Program}{w:World}{K:Y01}{mg:Str->Option Value}{base:Heap}
abbrev Zrf:List Str:=["pairs","right","up","pair","row","k","square","above"]
theorem Z3s:Z0n Zrf ["pairs"] (Z08 Z29):=⟨rfl,rfl,rfl,by decide +kernel,rfl,by decide +kernel,by decide +kernel⟩
set_option maxHeartbeats 1000000 in
theorem Zox {f:Addr}{fd:FuncData}{fo fi CN CT:Addr}{dfo dfi:FuncData}(T:Bi mg)(T_zip:mg "zip"=none)(C:XC92 K mg CN CT)(FO:Fn K mg "sheet_of" Z3c ["right","up"] fo dfo)(GO:Z13 P w K mg base (CX1 P w) 5 fo dfo ["right","up"] (Zp1 K CN CT))(FI:Fn K mg "in_order" Z2r ["told"] fi dfi)(GI:Z13 P w K mg base CX0 1 fi dfi ["told"] Zdt)(F:Fn K mg "sheet_told" Z29 ["pairs"] f fd):Z13 P w K mg base CX0 6 f fd ["pairs"] (Zmb K):=by
 refine F.F.ok Z3s (fun vs H Q E h=>?_) (fun cdv A outer s H vs Q E hr h=>?_)
 ·obtain⟨pl,ts,rfl,_⟩:=h; rfl
 ·obtain⟨pl,ts,rfl,hpl,hts,hT,k1,k2⟩:=h
  have hu:=Z83 hr
  have hr5:Z2d 5 _:=hr.mono (by decide)
  have hr1:Z2d 1 _:=hr.mono (by decide)
  refine⟨_,(Z03 (Z0c (i:=1) Z3s.nd rfl (Or.inl rfl) Z2e)
   (Z03 (Z0c (i:=2) Z3s.nd rfl (Or.inl rfl) Z2e)
   (Z03 (Z1o PassesOwn.never rfl (Z1x (pv 0)) (Z0i (i:=3) Z3s.nd rfl (Or.inl rfl)) (Z03 (Z0c (i:=4) Z3s.nd rfl (Or.inl rfl) (Z0t Z1h (pv 3) Z09 (fun _ _=>rfl)))
   (Z03 (Z1o PassesOwn.never rfl (Z5d rfl T.enum (Z00 (pv 4) Z04)) (Z3t rfl (Z0s (Z0i (i:=5) Z3s.nd rfl (Or.inl rfl)) (Z0s (Z0i (i:=6) Z3s.nd rfl (Or.inl rfl)) Z26))) (Z07 (Z2x hu (pv 1) (pv 6) (Z0t Z0v (pv 4) (Z0l Z1e (Z0l Z1d (pv 5) Z09) (Z0a Z0b rfl T.len PySem.boot_len (Z00 (pv 4) Z04))) (fun _ _=>rfl)) rfl)))
   (Z07 (Z1o PassesOwn.never rfl (Zmg rfl T_zip (Z00 (pv 4) (Z00 (Z0t Z1h (pv 3) Z09 (fun _ _=>rfl)) Z04))) (Z3t rfl (Z0s (Z0i (i:=6) Z3s.nd rfl (Or.inl rfl)) (Z0s (Z0i (i:=7) Z3s.nd rfl (Or.inl rfl)) Z26))) (Z07 (Z2x hu (pv 2) (pv 6) (pv 7) rfl)))))))
   (Z07 (Zhr (tb:=fun E=>Znt (Z2p (Zp1 K CN CT) [] E (Z0w (Z2p Zdt [] E0 (Z0w (Z1w 1) Z2t)) (Z0w (Z2p Zdt [] E0 (Z0w (Z1w 2) Z2t)) Z2t)))) rfl rfl (fun E' σ' pn W hx=>Zic (Z97 GO hr5 rfl FO.m FO.F.kp FO.b .nil hx (Z00 (Z0h GI hr1 rfl FI.m FI.F.kp FI.b .nil Z0z (Z00 (pv 1) Z04)) (Z00 (Z0h GI hr1 rfl FI.m FI.F.kp FI.b .nil Z0z (Z00 (pv 2) Z04)) Z04)))) (Zq2 rfl C.fN.h C.fT.h rfl rfl C.mN C.mT (fun pn e=>Z07 (Z0o Z2u)) Zm5)))))),?_⟩
  refine fun d1 hd1=>?_
  refine fun d2 hd2=>?_
  have n12:d2≠d1:=by rintro rfl; rw[Z01]at hd2; cases hd2
  have d20:H d2=none:=by rw[Z05 n12]at hd2; exact hd2
  have s2:Z0d H (upd (upd H d1 (.dK [])) d2 (.dK [])):=Z02 (Z02 (Z0d.refl H) hd1) d20
  have e1:(upd (upd H d1 (.dK [])) d2 (.dK [])) d1=some (.dK []):=by rw[Z05 n12.symm,Z01]
  have e2:(upd (upd H d1 (.dK [])) d2 (.dK [])) d2=some (.dK []):=Z01
  revert s2 e1 e2
  generalize (upd (upd H d1 (.dK [])) d2 (.dK []))=H2
  intro s2 e1 e2
  have kl:∀ {kvs:List (Key×V)},Zc0 kvs->kvs.length < sizeLine:=fun {kvs} h=>by have:=h.len; exact Z0j (by omega)
  refine⟨_,rfl,pl,rfl,⟨_,SqL.of (s2 _ _ hpl)⟩,Z4m (xs:=ts.map V.ref) (fun i σ H3=>∃ o3 o4 o5 o6 o7 k1 k2,σ=[some (.ref pl),some (.ref d1),some (.ref d2),o3,o4,o5,o6,o7]/\Z0d H H3/\H3 d1=some (.dK k1)/\H3 d2=some (.dK k2)/\Zc0 k1/\Zc0 k2) ⟨_,_,_,_,_,[],[],rfl,s2,e1,e2,Zc0.nil,Zc0.nil⟩ (fun i σ H3 _ ⟨_,_,_,_,_,_,_,_,s3,_⟩=>SqL.of (s3 _ _ hpl)) ?_ ?_⟩
  ·rintro i v σ H3 hv ⟨o3,o4,o5,o6,o7,ka,kb,rfl,s3,h31,h32,oka,okb⟩
   rw[Y0e]at hv
   obtain⟨t,htt,rfl⟩:=Option.map_eq_some_iff.mp hv
   obtain⟨pa,pb,xs,ys,ht,hpa,hpb,hys⟩:=hT t (Y0a htt)
   refine⟨_,rfl,t,_,1,_,rfl,rfl,SqT.of (s3 _ _ ht),Z0f (j:=1) rfl,?_⟩
   refine⟨_,rfl,pb,rfl,⟨_,SqL.of (s3 _ _ hpb)⟩,Z8p (xs:=ys.map V.int) (fun k σ H4=>∃ o5 o6 ka,σ=[some (.ref pl),some (.ref d1),some (.ref d2),some (.ref t),some (.ref pb),o5,o6,o7]/\Z0d H H4/\H4 d1=some (.dK ka)/\H4 d2=some (.dK kb)/\Zc0 ka) ⟨_,_,ka,rfl,s3,h31,h32,oka⟩ (fun k σ H4 _ ⟨_,_,_,_,s4,_⟩=>SqL.of (s4 _ _ hpb)) ?_ ?_⟩
   ·rintro k x σ H4 T' hx hT' ⟨o5,o6,ka,rfl,s4,h41,h42,oka⟩
    rw[Y0e]at hx
    obtain⟨y,hy,rfl⟩:=Option.map_eq_some_iff.mp hx
    have hk:=(Y03.mp hy).1
    have s5:=Z02 (o:=Z42 T' [.int (k:Int),.int y]) s4 (s4.free hT')
    have h51:(upd H4 T' (Z42 T' [.int (k:Int),.int y])) d1=some (.dK ka):=by rw[Z05 (Z06 h41 hT')]; exact h41
    have h52:(upd H4 T' (Z42 T' [.int (k:Int),.int y])) d2=some (.dK kb):=by rw[Z05 (Z06 h42 hT')]; exact h42
    refine⟨T',_,rfl,Z01,rfl,_,_,rfl,_,_,rfl,rfl,?_⟩
    revert s5 h51 h52
    generalize (upd H4 T' (Z42 T' [.int (k:Int),.int y]))=H5
    intro s5 h51 h52
    have hj:((k:Int)+1) % (ys.length:Int)=(((k+1) % ys.length:Nat):Int):=rfl
    have hm:(k+1) % ys.length < ys.length:=Nat.mod_lt _ (by omega)
    refine⟨_,rfl,_,rfl,_,_,rfl,rfl,_,rfl,pb,_,rfl,.inl (SqL.of (s5 _ _ hpb)),?_⟩
    rw[Y09]
    refine⟨_,_,rfl,rfl,(by show (0:Int) < (ys.length:Int); omega),pb,_,(((k+1) % ys.length:Nat):Int),.int ys[(k+1) % ys.length],rfl,congrArg V.int hj,SqL.of (s5 _ _ hpb),Z0f (by rw[Y0e,Y00 hm]; rfl),?_⟩
    obtain⟨y1,y2⟩:=hys y (Y0a hy)
    refine⟨_,rfl,_,rfl,d1,_,rfl,Zc3.k (k:=(Sum.inl y:Key)) h51 (kl oka),?_⟩
    exact⟨_,_,_,rfl,Z02 s5 hd1,Z01,by rw[Z05 n12]; exact h52,oka.put y1 y2 _⟩
   ·rintro σ H4 ⟨o5,o6,ka,rfl,s4,h41,h42,oka⟩
    refine⟨_,rfl,_,rfl,t,_,0,_,rfl,rfl,SqT.of (s4 _ _ ht),Z0f (j:=0) rfl,pb,pa,rfl,⟨_,SqL.of (s4 _ _ hpb)⟩,⟨_,SqL.of (s4 _ _ hpa)⟩,?_⟩
    refine Zlg (K:=K) (l1:=pb) (l2:=pa) (xs:=ys.map V.int) (ys:=xs.map V.int) (fun k σ H5=>∃ o6 o7 kb,σ=[some (.ref pl),some (.ref d1),some (.ref d2),some (.ref t),some (.ref pb),o5,o6,o7]/\Z0d H H5/\H5 d1=some (.dK ka)/\H5 d2=some (.dK kb)/\Zc0 kb) ⟨_,_,kb,rfl,s4,h41,h42,okb⟩ (fun k σ H5 ⟨_,_,_,_,s5,_⟩=>⟨SqL.of (s5 _ _ hpb),SqL.of (s5 _ _ hpa)⟩) ?_ ?_
    ·rintro k xa xb σ H5 T' hxa hxb hT' ⟨o6,o7,kb,rfl,s5,h51,h52,okb⟩
     rw[Y0e]at hxa hxb
     obtain⟨y,hy,rfl⟩:=Option.map_eq_some_iff.mp hxa
     obtain⟨x,hx,rfl⟩:=Option.map_eq_some_iff.mp hxb
     have s6:=Z02 (o:=Z42 T' [.int y,.int x]) s5 (s5.free hT')
     have h61:(upd H5 T' (Z42 T' [.int y,.int x])) d1=some (.dK ka):=by rw[Z05 (Z06 h51 hT')]; exact h51
     have h62:(upd H5 T' (Z42 T' [.int y,.int x])) d2=some (.dK kb):=by rw[Z05 (Z06 h52 hT')]; exact h52
     refine⟨T',_,rfl,Z01,rfl,_,_,rfl,_,_,rfl,rfl,?_⟩
     revert s6 h61 h62
     generalize (upd H5 T' (Z42 T' [.int y,.int x]))=H6
     intro s6 h61 h62
     obtain⟨y1,y2⟩:=hys y (Y0a hy)
     refine⟨_,rfl,_,rfl,_,rfl,d2,_,rfl,Zc3.k (k:=(Sum.inl y:Key)) h62 (kl okb),?_⟩
     exact⟨_,_,_,rfl,Z02 s6 d20,by rw[Z05 n12.symm]; exact h61,Z01,okb.put y1 y2 _⟩
    ·rintro σ H5 ⟨o6,o7,kb,rfl,s5,h51,h52,okb⟩
     exact⟨_,_,_,_,_,ka,kb,rfl,s5,h51,h52,oka,okb⟩
  ·rintro σ H3 ⟨o3,o4,o5,o6,o7,ka,kb,rfl,s3,h31,h32,oka,okb⟩
   refine⟨fun C' _ H'=>Z0d H H'/\(C'=.ref CN\/C'=.ref CT),?_,?_⟩
   ·have la:=oka.len
    have lb:=okb.len
    refine⟨_,rfl,d1,ka,rfl,h31,by omega,fun H4 l1 s4 _ hl1=>?_⟩
    refine⟨_,rfl,d2,kb,rfl,s4 _ _ h32,by omega,fun H5 l2 s5 _ hl2=>?_⟩
    have sH:=s3.trans (s4.trans s5)
    refine⟨l1,l2,_,_,rfl,.inl (SqL.of (s5 _ _ hl1)),.inl (SqL.of hl2),fun x hx=>?_,fun x hx=>?_,by rw[Y09,Y0d]; omega,by rw[Y09,Y0d]; omega,fun _ H' s'=>⟨sH.trans s',.inl rfl⟩,fun n r u _ _ rr ru h1 h36=>⟨fun hg H' a s' ha=>?_,fun g f0 t0 gs0 _ H' dx s' _=>⟨sH.trans s',.inr rfl⟩⟩⟩
    ·obtain⟨j,_,rfl⟩:=Y0f.mp hx
     exact oka.thing _ _
    ·obtain⟨j,_,rfl⟩:=Y0f.mp hx
     exact okb.thing _ _
    ·exact k2 H' a n r u (sH.trans s') (Zgt rr ru h1 h36 hg) ha
   ·rintro C' d' H' ⟨s',e | e⟩
    ·subst e
     exact⟨true,false,C.nn,C.nt,Z2m (k1 H' s')⟩
    ·subst e
     exact⟨false,true,C.tn,C.tt,Z2m (k1 H' s')⟩
end
def Zme:Sp:=fun vs H Q _=>∃ (pr pu:Addr) (kR kU:List (Key×V)) (n:Nat) (r u:List Nat) (f:Nat),vs=[.ref pr,.ref pu,.int (f:Int)]/\H pr=some (.dK kR)/\H pu=some (.dK kU)/\(∀ k,k < n->Z2s kR (Sum.inl (k:Int):Key)=some (.int (nx r k:Int)))/\(∀ k,k < n->Z2s kU (Sum.inl (k:Int):Key)=some (.int (nx u k:Int)))/\Row n r/\Row n u/\f < n/\n<=36/\
 ∀ (H':Hp) (l:Addr) (M:List Nat),Z0d H H'->H l=none->H' l=some (.lst (nv M))->Z2w n r u f M->Q (.ref l) H'
section
variable {P:Program}{w:World}{K:Y01}{mg:Str->Option Value}{base:Heap}
theorem Zn2 {f:Addr}{fd:FuncData}(T:Bi mg)(F:Fn K mg "_law_met" Znm ["_law_right","_law_up","_law_first"] f fd):Z13 P w K mg base CX0 1 f fd ["_law_right","_law_up","_law_first"] Zme:=by
 refine F.F.ok Z8j (fun vs H Q E h=>?_) (fun cdv A outer s H vs Q E hr h=>?_)
 ·obtain⟨pr,pu,kR,kU,n,r,u,f,rfl,_⟩:=h; rfl
 ·obtain⟨pr,pu,kR,kU,n,r,u,f,rfl,hR,hU,vR,vU,rr,ru,hf,hn,k⟩:=h
  have hu:=Z83 hr
  refine⟨_,Z03 (Z0c (i:=3) Z8j.nd rfl (Or.inl rfl) (Z1y (Z00 (pv 2) Z04)))
   (Z03 (Z0c (i:=4) Z8j.nd rfl (Or.inl rfl) Z09)
   (Z03 (Z4h PassesOwn.never (Z0m Zcq (pv 4) (Z0a Z0b (by rfl) T.len PySem.boot_len (Z00 (pv 3) Z04)) (Z0r _))
    (Z03 (Z1o PassesOwn.never rfl (Zez (Z3h (Z00 (Z51 hu (pv 0) (Z0t Z0v (pv 3) (pv 4) (fun _ _=>rfl)) (fun _ _=>rfl)) (Z00 (Z51 hu (pv 1) (Z0t Z0v (pv 3) (pv 4) (fun _ _=>rfl)) (fun _ _=>rfl)) Z04)))) (Z0i (i:=5) Z8j.nd rfl (Or.inl rfl))
     (Z07 (Z1f (Z0m Z69 (pv 5) (pv 3) rfl) (Z07 (Z1s (Z34 PySem.F.plainAttrs_list PySem.F.slot_list_append PySem.F.type_list_append Z11 (pv 3) (Z00 (pv 5) Z04)))) Z0p)))
    (Z07 (Z0c (i:=4) Z8j.nd rfl (Or.inl rfl) (Z0l Z1d (pv 4) Z09)))))
   (Z07 (Z0o (pv 3))))),?_⟩
  refine⟨_,rfl,(by show 1<=sizeLine; decide),fun l hl=>?_⟩
  refine Z5m (fun σ H2=>∃ (M:List Nat) (k:Nat) (o5:Option V),σ=[some (.ref pr),some (.ref pu),some (.int (f:Int)),some (.ref l),some (.int (k:Int)),o5]/\Z0d H H2/\H2 l=some (.lst (nv M))/\Met n r u f M k) (fun σ _=>mu 4 σ) ?_ ?_ ?_
  ·exact⟨[f],0,_,rfl,Z02 (Z0d.refl H) hl,Z01,Met.start hf⟩
  ·rintro σ H2 ⟨M,kk,o5,rfl,s2,h2l,hM⟩
   refine⟨_,rfl,_,rfl,l,_,rfl,.inl (SqL.of h2l),_,_,rfl,rfl,_,rfl,?_⟩
   rw[Z0k]
   refine Zgo (fun hlt=>?_) (fun hge=>?_)
   ·have hlt:(kk:Int) < (M.length:Int):=of_decide_eq_true hlt
    have hk:kk < M.length:=by omega
    have hx:M[kk]?=some M[kk]:=Y00 hk
    have hxn:M[kk] < n:=hM.lt _ (Y10 hk)
    have hMl:=hM.len
    have dgR:Z6k H2 pr (.int (M[kk]:Int)) (some (.int (nx r M[kk]:Int))):=by
     have q:=Z6k.k (k:=(Sum.inl (M[kk]:Int):Key)) (s2 _ _ hR)
     rw[vR _ hxn]at q; exact q
    have dgU:Z6k H2 pu (.int (M[kk]:Int)) (some (.int (nx u M[kk]:Int))):=by
     have q:=Z6k.k (k:=(Sum.inl (M[kk]:Int):Key)) (s2 _ _ hU)
     rw[vU _ hxn]at q; exact q
    refine⟨_,rfl,_,rfl,_,rfl,l,_,_,_,rfl,rfl,SqL.of h2l,Z0f (Z14 hx),pr,_,rfl,dgR,?_⟩
    refine⟨_,rfl,_,rfl,_,rfl,l,_,_,_,rfl,rfl,SqL.of h2l,Z0f (Z14 hx),pu,_,rfl,dgU,?_⟩
    refine⟨(by show 2<=sizeLine; decide),fun tp htp=>⟨tp,rfl,⟨_,SqT.of Z01⟩,?_⟩⟩
    have nlt:l≠tp:=Z06 h2l htp
    refine Zi7 (K:=K) (a:=tp) (xs:=[.int (nx r M[kk]:Int),.int (nx u M[kk]:Int)]) (fun i σ H3=>∃ (o5:Option V),σ=[some (.ref pr),some (.ref pu),some (.int (f:Int)),some (.ref l),some (.int (kk:Int)),o5]/\Z0d H H3/\H3 tp=some (.tup [.int (nx r M[kk]:Int),.int (nx u M[kk]:Int)])/\
     H3 l=some (.lst (nv (([nx r M[kk],nx u M[kk]].take i).foldl put M)))) ?_ ?_ ?_ ?_
    ·refine⟨_,rfl,Z02 s2 (s2.free htp),Z01,by rw[Z05 nlt]; exact h2l⟩
    ·rintro i σ H3 hi ⟨_,_,_,h3,_⟩
     exact SqT.of h3
    ·rintro i x σ H3 hi ⟨o5,rfl,s3,h3,h3l⟩
     obtain⟨y,ey,rfl⟩:=Z3e (xs:=[nx r M[kk],nx u M[kk]]) hi
     have hi2:i < 2:=(Y03.mp ey).1
     have hlen:=Z3w ([nx r M[kk],nx u M[kk]].take i) M
     have htk:([nx r M[kk],nx u M[kk]].take i).length<=2:=by rw[Y18]; exact Nat.min_le_right _ _
     have hfold:([nx r M[kk],nx u M[kk]].take (i+1)).foldl put M=put (([nx r M[kk],nx u M[kk]].take i).foldl put M) y:=by
      rw[Y11,ey,List.foldl_append]; rfl
     rw[hfold]
     generalize hM':([nx r M[kk],nx u M[kk]].take i).foldl put M=M' at h3l hlen
     refine⟨_,rfl,_,rfl,l,_,rfl,.inl (SqL.of h3l),rfl,Zil _,_,rfl,?_⟩
     show (if (!inV (.int (y:Int)) (nv M'))=true then _ else _)
     rw[Zmf]
     by_cases hy:y∈M'
     ·rw[decide_eq_true hy]
      refine Z2j ?_
      refine⟨_,rfl,s3,h3,?_⟩
      unfold put; rw[if_pos hy]; exact h3l
     ·rw[decide_eq_false hy]
      refine Z2m ?_
      refine⟨_,rfl,.inl ⟨rfl,_,SqL.of h3l⟩,_,rfl,l,_,_,rfl,rfl,h3l,?_,?_⟩
      ·rw[Z0k]; exact Z0j (by omega)
      refine⟨_,rfl,Z02 s3 hl,by rw[Z05 nlt.symm]; exact h3,?_⟩
      unfold put; rw[if_neg hy,Z01,Z50]
    ·rintro σ H3 ⟨o5,rfl,s3,h3,h3l⟩
     refine⟨_,rfl,_,_,rfl,rfl,⟨_,kk+1,_,rfl,s3,h3l,hM.step rr ru hx⟩,?_⟩
     show (100 - ((kk:Int)+1)).toNat < (100 - (kk:Int)).toNat
     omega
   ·have hge:¬ (kk:Int) < (M.length:Int):=fun z=>hge (decide_eq_true z)
    exact⟨_,rfl,k H2 l M s2 hl h2l (hM.all (by omega))⟩
  ·rintro σ H Q Q' h ⟨v,e1,v',e2,p,ys,e3,sq,i,j,e4,e5,k,e6,q⟩
   exact⟨v,e1,v',e2,p,ys,e3,sq,i,j,e4,e5,k,e6,h _ _ q⟩
end
def Zgy (K:Y01):Sp:=fun vs H Q _=>∃ (a p q:Addr) (rest:List V) (n:Nat) (r u:List Nat),vs=[.ref a]/\H a=some (.tup (.ref p :: .ref q :: rest))/\Z44 K H p r/\Z44 K H q u/\Row n r/\Row n u/\n<=36/\∀ (H':Hp) (l:Addr),Z0d H H'->H' l=some (.lst (tvs (drM u (Z0g n r))))->Q (.ref l) H'
section
variable {P:Program}{w:World}{K:Y01}{mg:Str->Option Value}{base:Heap}
abbrev Zqr:List Str:=["_law_sheet_here","_law_some","_law_told","_law_done","_law_first","_law_above","_law_below","_law_square"]
theorem Z2v:Z0n Zqr ["_law_sheet_here"] (Z08 Z63):=⟨rfl,rfl,rfl,by decide +kernel,rfl,by decide +kernel,by decide +kernel⟩
set_option maxHeartbeats 4000000 in
theorem Zo3 {f:Addr}{fd:FuncData}{fs:Addr}{ds:FuncData}(T:Bi mg)(FS:Fn K mg "_law_signs" Z62 [] fs ds)(GS:Z13 P w K mg base CX0 1 fs ds [] Z9t)(F:Fn K mg "_law_drawn" Z63 ["_law_sheet_here"] f fd):Z13 P w K mg base CX0 2 f fd ["_law_sheet_here"] (Zgy K):=by
 refine F.F.ok Z2v (fun vs H Q E h=>?_) (fun cdv A outer s H vs Q E hr h=>?_)
 ·obtain⟨a,p,q,rest,n,r,u,rfl,_⟩:=h; rfl
 ·obtain⟨a,p,q,rest,n,r,u,rfl,h1,h2,h3,rr,ru,hn,k⟩:=h
  have hu:=Z83 hr
  have hr1:Z2d 1 _:=hr.mono (by decide)
  refine⟨_,(Z03 (Z0c (i:=1) Z2v.nd rfl (Or.inl rfl) (Z9u GS hr1 rfl FS.m FS.F.kp FS.b .nil Z0z))
   (Z03 (Z0c (i:=2) Z2v.nd rfl (Or.inl rfl) (Z1y Z04))
   (Z03 (Z0c (i:=3) Z2v.nd rfl (Or.inl rfl) Z2e)
   (Z03 (Z1o PassesOwn.never rfl (Z1n rfl T.range (Z00 (Z0a Z0b rfl T.len PySem.boot_len (Z00 (Z0t Z1h (pv 0) Z09 (fun _ _=>rfl)) Z04)) Z04)) (Z0i (i:=4) Z2v.nd rfl (Or.inl rfl)) (Z03 (Z0c (i:=5) Z2v.nd rfl (Or.inl rfl) Z1b)
   (Z03 (Z0c (i:=6) Z2v.nd rfl (Or.inl rfl) Z1b)
   (Z03 (Z0c (i:=7) Z2v.nd rfl (Or.inl rfl) (pv 4))
   (Z03 (Z4h PassesOwn.never (Zeu (Z5c hu (pv 7) (pv 3))) (Z03 (Z2x hu (pv 3) (pv 7) Zaf rfl)
   (Z03 (Z0c (i:=5) Z2v.nd rfl (Or.inl rfl) (Z0l Z0u (Z0l Z0u (pv 5) Z1b) (Z0t Z8v (pv 1) (Z0t Z6c (Z0t Z1h (pv 0) Z09 (fun _ _=>rfl)) (pv 7) (fun _ _=>rfl)) (fun _ _=>rfl))))
   (Z03 (Z0c (i:=6) Z2v.nd rfl (Or.inl rfl) (Z0l Z0u (Z0l Z0u (pv 6) Z1b) (Z0t Z8v (pv 1) (pv 7) (fun _ _=>rfl))))
   (Z07 (Z0c (i:=7) Z2v.nd rfl (Or.inl rfl) (Z0t Z6c (Z0t Z1h (pv 0) Z09 (fun _ _=>rfl)) (pv 7) (fun _ _=>rfl))))))))
   (Z07 (Z1f (Z0m Z9v (pv 5) Z1b (Z0r _)) (Z07 (Z1s (Z34 PySem.F.plainAttrs_list PySem.F.slot_list_extend PySem.F.type_list_extend Zg7 (pv 2) (Z00 (Z1y (Z00 (Z0l Z0u (pv 5) Z1b) (Z00 (Z0l Z0u (pv 6) Z1b) Z04))) Z04)))) Z0p)))))))
   (Z07 (Z0o (pv 2))))))),?_⟩
  have big:1000<=sizeLine:=by decide
  refine⟨rfl,?_⟩
  refine⟨Y0w _,fun l hl=>?_⟩
  refine fun d hd=>?_
  have nld:l≠d:=fun e=>by rw[<-e,Z01]at hd; cases hd
  have d0:H d=none:=by rw[Z05 nld.symm]at hd; exact hd
  have s1:Z0d H (upd (upd H l (.lst [])) d (.dK [])):=Z02 (Z02 (Z0d.refl H) hl) d0
  have e1:(upd (upd H l (.lst [])) d (.dK [])) l=some (.lst (tvs (drM u (rk n 0 r)))):=by rw[Z05 nld,Z01]; rfl
  have e2:(upd (upd H l (.lst [])) d (.dK [])) d=some (.dK (dkb (rk n 0 r).flatten)):=Z01
  revert s1 e1 e2
  generalize (upd (upd H l (.lst [])) d (.dK []))=H1
  intro s1 e1 e2
  try dsimp only [Zdh,Zbn,Z25]
  refine⟨_,rfl,a,_,0,_,rfl,rfl,SqT.of (s1 _ _ h1),Z0f (j:=0) rfl,p,_,rfl,h2.same s1,(n:Int),by rw[Z0k,rr.len],by omega,by omega,?_⟩
  rw[Int.toNat_natCast]
  refine Z2g (n:=n) (fun i σ H3=>∃ o4 o5 o6 o7,σ=[some (.ref a),some (.str SG),some (.ref l),some (.ref d),o4,o5,o6,o7]/\Z0d H H3/\H3 l=some (.lst (tvs (drM u (rk n i r))))/\H3 d=some (.dK (dkb (rk n i r).flatten))) ⟨_,_,_,_,rfl,s1,e1,e2⟩ ?_ ?_
  ·rintro i σ H3 hi ⟨o4,o5,o6,o7,rfl,s3,h3l,h3d⟩
   rw[show (0:Int)+(i:Int)=(i:Int) from by omega]
   obtain⟨M,P,hM,hP,hMn,hMl,hPl,sq,sq0,sqj,sqn,sqe,hnew,hrk⟩:∃ (M P:List Nat),(M=if Z5t n r i=true then cyc n r i else [])/\P=(rk n i r).flatten/\(∀ x∈M,x < n)/\M.length<=36/\(P++M).length<=36/\∃ sq:Nat->Nat,sq 0=i/\(∀ j,j < M.length->M[j]?=some (sq j))/\(∀ j,j < M.length->sq (j+1)=nx r (sq j))/\sq M.length∈P++M/\(∀ j,j < M.length->sq j∉P++M.take j)/\(rk n (i+1) r).flatten=P++M/\drM u (rk n (i+1) r)=drM u (rk n i r)++(if M=[] then [] else [btw 32 (M.map (nx u)),btw 124 M]):=Zni rr hi hn
   subst hP
   clear hM
   have fl2:∀ (b:Nat) (g:Nat->Nat) (L:List Nat),(L.flatMap fun x=>[b,sg (g x)]).length=2 * L.length:=fun b g L=>by
    induction L with
    | nil=>rfl
    | cons y L ih=>rw[List.flatMap_cons,Y07,ih]; show 2+2 * L.length=2 * (L.length+1); omega
   have lkb:∀ L:List Nat,(dkb L).length=L.length:=fun L=>by simp[dkb]
   refine⟨_,rfl,?_⟩
   try dsimp only [Z25]
   rw[Z90]
   refine Zi4 (fun m σ H4=>∃ j,j<=M.length/\m=M.length - j/\σ=[some (.ref a),some (.str SG),some (.ref l),some (.ref d),some (.int (i:Int)),some (.str (txt ((M.take j).flatMap fun x=>[32,sg (nx u x)]))),some (.str (txt ((M.take j).flatMap fun x=>[124,sg x]))),some (.int (sq j:Int))]/\Z0d H H4/\H4 l=some (.lst (tvs (drM u (rk n i r))))/\H4 d=some (.dK (dkb ((rk n i r).flatten++M.take j)))) ?_ ?_ ?_
   ·exact⟨_,0,Y0w _,rfl,by rw[sq0]; rfl,s3,h3l,by rw[List.take_zero,Y1f]; exact h3d⟩
   ·rintro m σ H4 ⟨j,hj,em,rfl,s4,h4l,h4d⟩
    refine⟨_,rfl,_,rfl,d,_,rfl,Z6k.k (k:=(Sum.inl (sq j:Int):Key)) h4d,_,rfl,?_⟩
    rw[Zc9]
    by_cases hjl:j < M.length
    ·rw[if_neg (hnew j hjl)]
     refine Z2m ?_
     have hg:=sqj j hjl
     have hsn:sq j < n:=hMn _ (Y0a hg)
     have tk:M.take (j+1)=M.take j++[sq j]:=by rw[Y11,hg]; rfl
     have lt1:((rk n i r).flatten++M.take j).length<=36:=by rw[Y07,Y18]; rw[Y07]at hPl; omega
     have la:((M.take j).flatMap fun x=>[32,sg (nx u x)]).length<=72:=by rw[fl2,Y18]; omega
     have lb:((M.take j).flatMap fun x=>[124,sg x]).length<=72:=by have:=fl2 124 id (M.take j); simp only[id]at this; rw[this,Y18]; omega
     refine⟨_,rfl,_,rfl,d,_,rfl,Zc3.k (k:=(Sum.inl (sq j:Int):Key)) h4d (by rw[lkb]; exact Z0j (by omega)),?_⟩
     rw[Zpj (hnew j hjl),Y1l,<-tk]
     have s5:Z0d H (upd H4 d (.dK (dkb ((rk n i r).flatten++M.take (j+1))))):=Z02 s4 d0
     have h5d:(upd H4 d (.dK (dkb ((rk n i r).flatten++M.take (j+1))))) d=some (.dK (dkb ((rk n i r).flatten++M.take (j+1)))):=Z01
     have h5l:(upd H4 d (.dK (dkb ((rk n i r).flatten++M.take (j+1))))) l=some (.lst (tvs (drM u (rk n i r)))):=by rw[Z05 nld]; exact h4l
     revert s5 h5d h5l
     generalize (upd H4 d (.dK (dkb ((rk n i r).flatten++M.take (j+1)))))=H5
     intro s5 h5d h5l
     have su:nx u (sq j) < n:=ru.nlt hsn
     refine⟨_,rfl,_,_,rfl,rfl,by rw[Z3d,Z0e,Z0e]; show _+1<=_; omega,?_⟩
     rw[Z3d,Z1j]
     refine⟨_,rfl,_,rfl,a,_,1,_,rfl,rfl,SqT.of (s5 _ _ h1),Z0f (j:=1) rfl,_,rfl,Zd1 (h3.same s5) ru hsn ⟨SG,_,sg (nx u (sq j)),rfl,rfl,by rw[Zaq]; omega,Zig (by omega),?_⟩⟩
     refine⟨_,_,rfl,rfl,by rw[Z0e,Y07]; show _+1+1<=_; omega,?_⟩
     rw[Z5w,Z1j]
     try dsimp only [Z25]
     refine⟨_,rfl,_,_,rfl,rfl,by rw[Z5h,Z0e,Z0e]; show _+1<=_; omega,?_⟩
     rw[Z5h,Z1j]
     refine⟨_,rfl,_,rfl,SG,_,sg (sq j),rfl,rfl,by rw[Zaq]; omega,Zig (by omega),?_⟩
     refine⟨_,_,rfl,rfl,by rw[Z0e,Y07]; show _+1+1<=_; omega,?_⟩
     rw[Z5w,Z1j]
     try dsimp only [Z25]
     refine⟨_,rfl,a,_,0,_,rfl,rfl,SqT.of (s5 _ _ h1),Z0f (j:=0) rfl,_,rfl,Zd1 (h2.same s5) rr hsn ?_⟩
     refine⟨_,?_,j+1,hjl,rfl,?_,s5,h5l,h5d⟩
     ·omega
     ·rw[sqn j hjl,tk,Y24,Y24]
      simp
    ·have ej:j=M.length:=by omega
     subst ej
     rw[Y1u]at h4d ⊢
     rw[if_pos sqe]
     refine Z2j ?_
     have la:(M.flatMap fun x=>[32,sg (nx u x)]).length=2 * M.length:=fl2 32 (nx u) M
     have lb:(M.flatMap fun x=>[124,sg x]).length=2 * M.length:=fl2 124 id M
     refine⟨_,rfl,rfl,_,rfl,?_⟩
     try rw[Z90]
     by_cases hMe:M=[]
     ·subst hMe
      rw[show decide (V.str (txt (List.flatMap (fun x=>[32,sg (nx u x)]) ([]:List Nat)))=V.str (txt []))=true from decide_eq_true rfl]
      refine Z2j ?_
      refine⟨_,_,_,_,rfl,s4,?_,?_⟩
      ·rw[hrk.2,if_pos rfl,Y1f]; exact h4l
      ·rw[hrk.1]; exact h4d
     ·have hpos:0 < M.length:=List.length_pos_iff.mpr hMe
      rw[decide_eq_false (fun z=>by have:=congrArg List.length (Zc8 (V.str.inj z)); rw[la]at this; simp at this; omega)]
      refine Z2m ?_
      refine⟨_,rfl,.inl ⟨rfl,_,SqL.of h4l⟩,_,rfl,_,_,rfl,rfl,by rw[Z3d,Z0e,Z0e,la]; show _+1<=_; omega,?_⟩
      rw[Z3d,Z1j]
      refine⟨_,rfl,_,_,rfl,rfl,by rw[Z5h,Z0e,Z0e,lb]; show _+1<=_; omega,?_⟩
      rw[Z5h,Z1j]
      have b1:(M.flatMap fun x=>[32,sg (nx u x)])++[32]=btw 32 (M.map (nx u)):=by rw[<-Z9o,List.flatMap_map]
      have b2:(M.flatMap fun x=>[124,sg x])++[124]=btw 124 M:=Z9o 124 M
      rw[b1,b2]
      refine⟨by show 2<=sizeLine; decide,fun e he=>?_⟩
      have s5:=Z02 (o:=.lst [.str (txt (btw 32 (M.map (nx u)))),.str (txt (btw 124 M))]) (Z0d.refl H4) he
      have h5e:(upd H4 e (.lst [.str (txt (btw 32 (M.map (nx u)))),.str (txt (btw 124 M))])) e=some (.lst [.str (txt (btw 32 (M.map (nx u)))),.str (txt (btw 124 M))]):=Z01
      revert s5 h5e
      generalize (upd H4 e (.lst [.str (txt (btw 32 (M.map (nx u)))),.str (txt (btw 124 M))]))=H5
      intro s5 h5e
      refine⟨l,e,_,_,rfl,rfl,s5 _ _ h4l,h5e,?_,?_⟩
      ·have:=Z7r u (rk n i r)
       have:=Zqm n i r
       show (tvs (drM u (rk n i r))).length+2<=sizeLine
       have tl:(tvs (drM u (rk n i r))).length=(drM u (rk n i r)).length:=by simp[tvs]
       omega
      ·refine⟨_,_,_,_,rfl,Z02 (s4.trans s5) hl,?_,?_⟩
       ·rw[Z01,hrk.2,if_neg hMe]
        simp[tvs]
       ·rw[Z05 nld.symm,hrk.1]; exact s5 _ _ h4d
   ·rintro σ H Q Q' hQ ⟨v,e1,v',e2,a',o,e3,g,b,e4,h⟩
    exact⟨v,e1,v',e2,a',o,e3,g,b,e4,hQ _ _ h⟩
  ·rintro σ H3 ⟨o4,o5,o6,o7,rfl,s3,h3l,h3d⟩
   exact⟨_,rfl,k H3 l s3 h3l⟩
end
def dkp (ps:List (Nat×Nat)):List (Key×V):=ps.map fun p=>((Sum.inl (p.1:Int):Key),V.int (p.2:Int))
theorem Zi2 (x:Nat):∀ ps:List (Nat×Nat),((dkp ps).any fun kv=>decide (kv.1=(Sum.inl (x:Int):Key)))=(ps.any fun p=>decide (p.1=x))
 | []=>rfl
 | p :: ps=>by
  show (decide ((Sum.inl (p.1:Int):Key)=Sum.inl (x:Int)) || (dkp ps).any _)=(decide (p.1=x) || ps.any _)
  rw[Zi2 x ps]
  congr 1
  exact decide_eq_decide.mpr ⟨fun z=>by have:=Sum.inl.inj z; omega,fun z=>by rw[z]⟩
theorem Zgc (ps:List (Nat×Nat))(x y:Nat):Z58 (dkp ps) (Sum.inl (x:Int):Key) (.int (y:Int))=dkp (pN ps (x,y)):=by
 unfold Z58 pN
 rw[Zi2]
 dsimp only
 split
 ·unfold dkp
  rw[Y0y,Y0y]
  refine Y1p fun p _=>?_
  show (if (Sum.inl (p.1:Int):Key)=Sum.inl (x:Int) then _ else _)=_
  by_cases e:p.1=x
  ·rw[if_pos (by rw[e])]
   show _=((Sum.inl ((if p.1=x then (p.1,y) else p).1:Int):Key),V.int ((if p.1=x then (p.1,y) else p).2:Int))
   rw[if_pos e]
  ·rw[if_neg (fun z=>e (by have:=Sum.inl.inj z; omega))]
   show _=((Sum.inl ((if p.1=x then (p.1,y) else p).1:Int):Key),V.int ((if p.1=x then (p.1,y) else p).2:Int))
   rw[if_neg e]
 ·unfold dkp; rw[Y0p]; rfl
theorem Zgu (ps:List (Nat×Nat)):(dkp ps).length=ps.length:=by simp[dkp]
theorem Zl0 (ps:List (Nat×Nat)):((dkp ps).map fun kv=>kV kv.1)=nv (ps.map (·.1)):=by unfold dkp nv; rw[Y0y,Y0y]; rfl
theorem Ze0 (ps:List (Nat×Nat)):((dkp ps).map fun kv=>kv.2)=nv (ps.map (·.2)):=by unfold dkp nv; rw[Y0y,Y0y]; rfl
theorem Zho {ps:List (Nat×Nat)}{k:Nat}(h:k∈ps.map (·.1)):Z2s (dkp ps) (Sum.inl (k:Int):Key)=some (.int (Zk7 ps k:Int)):=by
 induction ps with
 | nil=>cases h
 | cons p ps ih=>
  by_cases e:p.1=k
  ·show Z2s (((Sum.inl (p.1:Int):Key),V.int (p.2:Int)) :: dkp ps) _=_
   rw[Z21 (by rw[e])]
   unfold Zk7
   rw[Y28,decide_eq_true e]; rfl
  ·show Z2s (((Sum.inl (p.1:Int):Key),V.int (p.2:Int)) :: dkp ps) _=_
   rw[Z17 (fun z=>e (by have:=Sum.inl.inj z; omega)),ih (by simpa [Ne.symm e] using h)]
   unfold Zk7
   rw[Y28,decide_eq_false e]
theorem Z9s:∀ A B:List (List Nat),PyData.eqv (.list (A.map fun z=>PyData.str (txt z))) (.list (B.map fun z=>PyData.str (txt z)))=decide (A=B)
 | [],[]=>rfl
 | [],_ :: _=>rfl
 | _ :: _,[]=>rfl
 | a :: A,b :: B=>by
  have ih:PyData.eqvAll (A.map fun z=>PyData.str (txt z)) (B.map fun z=>PyData.str (txt z))=decide (A=B):=Z9s A B
  show ((txt a == txt b) && PyData.eqvAll (A.map fun z=>PyData.str (txt z)) (B.map fun z=>PyData.str (txt z)))=_
  rw[ih]
  by_cases e:a=b
  ·subst e; simp
  ·have:(txt a == txt b)=false:=by simpa using fun z=>e (Zc8 z)
   rw[this]; simp[e]
def Zm0 (K:Y01):Sp:=fun vs H Q _=>∃ (pl:Addr) (X:List (List Nat)),vs=[.ref pl]/\H pl=some (.lst (tvs X))/\X.length<=100/\(∀ z∈X,z.length<=600/\∀ c∈z,c < 0x110000)/\
 (∀ n r u,Z91 X n r u->∀ (H':Hp) (a:Addr),Z0d H H'->Z7e H' a r u->Q (.ref a) H')/\((∀ n r u,¬ Z91 X n r u)->∀ H':Hp,Z0d H H'->Q .non H')
section
variable {P:Program}{w:World}{K:Y01}{mg:Str->Option Value}{base:Heap}
abbrev Zgm:List Str:=["_law_texts","_law_right","_law_up","_law_k","_law_above","_law_below","_law_at","_law_square","_law_names","_law_sheet_here"]
theorem Z3f:Z0n Zgm ["_law_texts"] (Z08 Z6u):=⟨rfl,rfl,rfl,by decide +kernel,rfl,by decide +kernel,by decide +kernel⟩
theorem Zlk:(["_law_k","_law_right"]:List Str).Nodup:=by decide +kernel
theorem Zla:(["_law_k","_law_up"]:List Str).Nodup:=by decide +kernel
set_option maxHeartbeats 1000000 in
theorem Zoq {f fq fm fw:Addr}{fd dq dm dw:FuncData}(T:Bi mg)(F:Fn K mg "_law_seen" Z6u ["_law_texts"] f fd)(FQ:Fn K mg "_law_squares" Z4e ["_law_text","_law_edge"] fq dq)(GQ:Z13 P w K mg base CX0 2 fq dq ["_law_text","_law_edge"] Zm1)
  (FM:Fn K mg "_law_met" Znm ["_law_right","_law_up","_law_first"] fm dm) (GM:Z13 P w K mg base CX0 1 fm dm ["_law_right","_law_up","_law_first"] Zme)
  (FW:Fn K mg "_law_drawn" Z63 ["_law_sheet_here"] fw dw) (GW:Z13 P w K mg base CX0 2 fw dw ["_law_sheet_here"] (Zgy K)):Z13 P w K mg base CX0 3 f fd ["_law_texts"] (Zm0 K):=by
 refine F.F.ok Z3f (fun vs H Q E h=>?_) (fun cdv A outer s H vs Q E hr h=>?_)
 ·obtain⟨pl,T',rfl,_⟩:=h; rfl
 ·obtain⟨pl,X,rfl,hpl,hX,hX2,k1,k2⟩:=h
  have hu:=Z83 hr
  have hr1:Z2d 1 _:=hr.mono (by decide)
  have hr2:Z2d 2 _:=hr.mono (by decide)
  refine⟨_,(Z03 (Z0c (i:=1) Z3f.nd rfl (Or.inr rfl) Z2e)
   (Z03 (Z0c (i:=2) Z3f.nd rfl (Or.inr rfl) Z2e)
   (Z03 (Z1f (PW.pt (Z8i (Z0m Z3j (Z0a Z0b rfl T.len PySem.boot_len (Z00 (pv 0) Z04)) Z09 (Z0r _)) (Z66 (Z0m Z3j (Z0l Z1e (Z0a Z0b rfl T.len PySem.boot_len (Z00 (pv 0) Z04)) Z09) Z09 (Z0r _))))) (Z07 (Z0o Z2u)) Z0p)
   (Z03 (Z1o PassesOwn.never rfl (Z1n rfl T.range (Z00 (Z0l Z2a (Z0a Z0b rfl T.len PySem.boot_len (Z00 (pv 0) Z04)) Z09) Z04)) (Z0i (i:=3) Z3f.nd rfl (Or.inl rfl)) (Z03 (Z0c (i:=4) Z3f.nd rfl (Or.inl rfl) (Z0h GQ hr2 rfl FQ.m FQ.F.kp FQ.b .nil Z0z (Z00 (Z0t Z0v (pv 0) (Z0l Z7m Z09 (pv 3)) (fun _ _=>rfl)) (Z00 Z1b Z04))))
   (Z03 (Z0c (i:=5) Z3f.nd rfl (Or.inl rfl) (Z0h GQ hr2 rfl FQ.m FQ.F.kp FQ.b .nil Z0z (Z00 (Z0t Z0v (pv 0) (Z0l Z1d (Z0l Z7m Z09 (pv 3)) Z09) (fun _ _=>rfl)) (Z00 Z1b Z04))))
   (Z03 (Z1f (PW.pt (Z8i (Z0m Zaa (pv 4) Z2u (Z0r _)) (Z8i (Z0m Zaa (pv 5) Z2u (Z0r _)) (Z66 (Z0m Z9v (Z0a Z0b rfl T.len PySem.boot_len (Z00 (pv 4) Z04)) (Z0a Z0b rfl T.len PySem.boot_len (Z00 (pv 5) Z04)) (Z0r _)))))) (Z07 (Z0o Z2u)) Z0p)
   (Z07 (Z1o PassesOwn.never rfl (Z5d rfl T.enum (Z00 (pv 5) Z04)) (Z3t rfl (Z0s (Z0i (i:=6) Z3f.nd rfl (Or.inl rfl)) (Z0s (Z0i (i:=7) Z3f.nd rfl (Or.inl rfl)) Z26))) (Z03 (Z2x hu (pv 1) (pv 7) (Z0t Z0v (pv 5) (Z0l Z1e (Z0l Z1d (pv 6) Z09) (Z0a Z0b rfl T.len PySem.boot_len (Z00 (pv 5) Z04))) (fun _ _=>rfl)) rfl)
   (Z07 (Z2x hu (pv 2) (pv 7) (Z0t Z0v (pv 4) (pv 6) (fun _ _=>rfl)) rfl)))))))))
   (Z03 (Z0c (i:=8) Z3f.nd rfl (Or.inl rfl) (Z0q (Z40 rfl) rfl T.list Z1r (Z00 (Z0q Z55 rfl T.range PyProof.Rows.boot_range (Z00 (Z0a Z80 rfl T.len PySem.boot_len (Z00 (pv 1) Z04)) Z04)) Z04)))
   (Z03 (Z1f (PW.pt (Z8i (Z0m Z6z (Z0a (Z2b rfl) rfl T.sorted Z22 (Z00 (Z0q (Zfr rfl) rfl T.list Z1r (Z00 (pv 1) Z04)) Z04)) (pv 8) (Z0r _)) (Z66 (Z0m Z6z (Z0a (Z2b rfl) rfl T.sorted Z22 (Z00 (Z0q (Z8l rfl) rfl T.list Z1r (Z00 (Zm8 PySem.F.plainAttrs_dict PySem.F.slot_dict_values PySem.F.type_dict_values Zat (pv 2)) Z04)) Z04)) (pv 8) (Z0r _))))) (Z07 (Z0o Z2u)) Z0p)
   (Z03 (Z1f (PW.pt (Z8i (Z0m Z9v (Z0a Z3q rfl T.len PySem.boot_len (Z00 (Z0q (Z9w rfl) rfl T.set Za0 (Z00 (Z0q (Z8l rfl) rfl T.list Z1r (Z00 (Zm8 PySem.F.plainAttrs_dict PySem.F.slot_dict_values PySem.F.type_dict_values Zat (pv 1)) Z04)) Z04)) Z04)) (Z0a Z0b rfl T.len PySem.boot_len (Z00 (pv 8) Z04)) (Z0r _)) (Z66 (Z0m Z9v (Z0a Z0b rfl T.len PySem.boot_len (Z00 (Z0h GM hr1 rfl FM.m FM.F.kp FM.b .nil Z0z (Z00 (pv 1) (Z00 (pv 2) (Z00 Z09 Z04)))) Z04)) (Z0a Z0b rfl T.len PySem.boot_len (Z00 (pv 8) Z04)) (Z0r _))))) (Z07 (Z0o Z2u)) Z0p)
   (Z03 (Z0c (i:=9) Z3f.nd rfl (Or.inl rfl) (Z3h (Z00 (Z0q Z1l rfl T.tuple Z1t (Z00 (Z2c (N:=Zgm) (names:=(Z08 Z6u).names) (N':=["_law_k","_law_right"]) (k:=1) (pull:=[1]) (te:=Zf6 (Z1w 1) (Z1w 0)) rfl ⟨by rfl,by decide +kernel,by decide +kernel,by rfl,by decide +kernel,by decide +kernel⟩ rfl rfl (Z1x (pv 8)) (fun _ _ _ _ _ _=>Z0i (i:=0) Zlk rfl (Or.inl rfl)) (fun _ _ _ _ _ _=>Z51 hu (pv 1) (pv 0) (fun _ _=>rfl))) Z04)) (Z00 (Z0q Z1l rfl T.tuple Z1t (Z00 (Z2c (N:=Zgm) (names:=(Z08 Z6u).names) (N':=["_law_k","_law_up"]) (k:=1) (pull:=[2]) (te:=Zf6 (Z1w 1) (Z1w 0)) rfl ⟨by rfl,by decide +kernel,by decide +kernel,by rfl,by decide +kernel,by decide +kernel⟩ rfl rfl (Z1x (pv 8)) (fun _ _ _ _ _ _=>Z0i (i:=0) Zla rfl (Or.inl rfl)) (fun _ _ _ _ _ _=>Z51 hu (pv 1) (pv 0) (fun _ _=>rfl))) Z04)) Z04))))
   (Z03 (Z1f (Z0m Z6z (Z0h GW hr2 rfl FW.m FW.F.kp FW.b .nil Z0z (Z00 (pv 9) Z04)) (pv 0) (Z0r _)) (Z07 (Z0o Z2u)) Z0p)
   (Z07 (Z0o (pv 9)))))))))))),?_⟩
  have big:1000<=sizeLine:=by decide
  have two:2<=sizeLine:=by decide
  have tl:∀ zs:List (List Nat),(tvs zs).length=zs.length:=fun zs=>by simp[tvs]
  have tg:∀ {i:Nat} {z:List Nat},X[i]?=some z->(tvs X)[i]?=some (.str (txt z)):=fun {i z} h=>by unfold tvs; rw[Y0e,h]; rfl
  refine fun d1 hd1=>?_
  refine fun d2 hd2=>?_
  have n12:d2≠d1:=by rintro rfl; rw[Z01]at hd2; cases hd2
  have d20:H d2=none:=by rw[Z05 n12]at hd2; exact hd2
  have s2:Z0d H (upd (upd H d1 (.dK [])) d2 (.dK [])):=Z02 (Z02 (Z0d.refl H) hd1) d20
  have e1:(upd (upd H d1 (.dK [])) d2 (.dK [])) d1=some (.dK (dkp (fN (RP [])))):=by rw[Z05 n12.symm,Z01]; rfl
  have e2:(upd (upd H d1 (.dK [])) d2 (.dK [])) d2=some (.dK (dkp (fN (UP [])))):=Z01
  revert s2 e1 e2
  generalize (upd (upd H d1 (.dK [])) d2 (.dK []))=H2
  intro s2 e1 e2
  refine⟨_,rfl,pl,_,rfl,.inl (SqL.of (s2 _ _ hpl)),rfl,_,rfl,?_⟩
  rw[tl]
  refine Zgo (fun h=>?_) (fun h0=>?_)
  ·have h:=V.int.inj (of_decide_eq_true h)
   refine Z2m ?_
   exact k2 (fun n r u d=>by have:=Zab d; omega) H2 s2
  have h0:X.length≠0:=fun q=>h0 (decide_eq_true (by rw[q]; rfl))
  have md:∀ m:Nat,((m:Int) % 2)=((m % 2:Nat):Int):=fun m=>rfl
  refine⟨_,rfl,pl,_,rfl,.inl (SqL.of (s2 _ _ hpl)),_,_,rfl,rfl,(by show (0:Int) < 2; decide),rfl,_,rfl,?_⟩
  refine Zgo (fun h=>?_) (fun h1=>?_)
  ·have h:=V.int.inj (of_decide_eq_true h)
   rw[tl,md]at h
   exact k2 (fun n r u d=>by have:=Zab d; omega) H2 s2
  have h1:X.length % 2=0:=by
   have h1:¬ (((tvs X).length:Int) % 2)=1:=fun q=>h1 (decide_eq_true (congrArg V.int q))
   rw[tl,md]at h1; omega
  obtain⟨m,hm⟩:∃ m,X.length=2 * m:=⟨X.length / 2,by omega⟩
  have hm1:1<=m:=by omega
  refine⟨_,rfl,pl,_,rfl,.inl (SqL.of (s2 _ _ hpl)),_,_,rfl,rfl,⟨by decide,by decide⟩,(m:Int),by rw[tl,hm]; show [V.int (((2 * m:Nat):Int) / 2)]=_; congr 2; omega,by omega,by omega,?_⟩
  rw[Int.toNat_natCast]
  refine Z2g (n:=m) (fun i σ H3=>∃ o3 o4 o5 o6 o7 rows,σ=[some (.ref pl),some (.ref d1),some (.ref d2),o3,o4,o5,o6,o7,none,none]/\Z0d H H3/\H3 d1=some (.dK (dkp (fN (RP rows))))/\H3 d2=some (.dK (dkp (fN (UP rows))))/\Z64 X i rows) ⟨_,_,_,_,_,[],rfl,s2,e1,e2,Z64.nil X⟩ ?_ ?_
  ·rintro i σ H3 hi ⟨o3,o4,o5,o6,o7,rows,rfl,s3,h31,h32,gr⟩
   rw[show (0:Int)+(i:Int)=(i:Int) from by omega]
   obtain⟨za,hza⟩:∃ z,X[2 * i]?=some z:=⟨_,Y00 (by omega)⟩
   obtain⟨zb,hzb⟩:∃ z,X[2 * i+1]?=some z:=⟨_,Y00 (by omega)⟩
   have i1:(2:Int) * (i:Int)=((2 * i:Nat):Int):=by omega
   have i2:(2:Int) * (i:Int)+1=((2 * i+1:Nat):Int):=by omega
   have dr:∀ n r u,Z91 X n r u->∃ A B,BtP 32 za A/\BtP 124 zb B/\A.length=B.length:=fun n r u d=>by
    have hl:=(Zab d).1
    obtain⟨M,hM⟩:∃ M,(Z0g n r)[i]?=some M:=⟨_,Y00 (by omega)⟩
    obtain⟨q1,q2,q3,q4⟩:=Zi3 d hM
    rw[hza]at q1; rw[hzb]at q2
    cases q1; cases q2
    exact⟨_,_,q3,q4,by rw[Y09]⟩
   have hpl3:=s3 _ _ hpl
   have cm:Zq6 2 (i:Int):=.inl ⟨by omega,by omega⟩
   refine⟨_,rfl,_,rfl,_,_,rfl,rfl,cm,pl,_,((2 * i:Nat):Int),_,rfl,congrArg V.int i1,SqL.of hpl3,Z0f (tg hza),za,32,by rw[<-Z3d]; rfl,(hX2 za (Y0a hza)).1,fun A pA H4 la s4 hla0 hla=>?_,fun nA H4 s4=>?_⟩
   rotate_left
   ·refine⟨_,rfl,_,rfl,_,_,rfl,rfl,cm,_,_,rfl,rfl,pl,_,((2 * i+1:Nat):Int),_,rfl,congrArg V.int i2,SqL.of (s4 _ _ hpl3),Z0f (tg hzb),zb,124,by rw[<-Z5h]; rfl,(hX2 zb (Y0a hzb)).1,fun B pB H5 lb s5 hlb0 hlb=>?_,fun nB H5 s5=>?_⟩
    ·refine⟨_,rfl,rfl,_,rfl,?_⟩
     rw[decide_eq_true rfl]
     refine Z2m (Z2m ?_)
     exact k2 (fun n r u d=>by obtain⟨A,B,q1,_⟩:=dr n r u d; exact nA A q1) H5 (s3.trans (s4.trans s5))
    ·refine⟨_,rfl,rfl,_,rfl,?_⟩
     rw[decide_eq_true rfl]
     refine Z2m (Z2m ?_)
     exact k2 (fun n r u d=>by obtain⟨A,B,q1,_⟩:=dr n r u d; exact nA A q1) H5 (s3.trans (s4.trans s5))
   refine⟨_,rfl,_,rfl,_,_,rfl,rfl,cm,_,_,rfl,rfl,pl,_,((2 * i+1:Nat):Int),_,rfl,congrArg V.int i2,SqL.of (s4 _ _ hpl3),Z0f (tg hzb),zb,124,by rw[<-Z5h]; rfl,(hX2 zb (Y0a hzb)).1,fun B pB H5 lb s5 hlb0 hlb=>?_,fun nB H5 s5=>?_⟩
   rotate_left
   ·refine⟨_,rfl,rfl,_,rfl,?_⟩
    rw[decide_eq_false (fun q=>by cases q)]
    refine Z2j ?_
    refine⟨_,rfl,rfl,_,rfl,?_⟩
    rw[decide_eq_true rfl]
    refine Z2m (Z2m ?_)
    exact k2 (fun n r u d=>by obtain⟨A,B,_,q1,_⟩:=dr n r u d; exact nB B q1) H5 (s3.trans (s4.trans s5))
   have hla5:=s5 _ _ hla
   refine⟨_,rfl,rfl,_,rfl,?_⟩
   rw[decide_eq_false (fun q=>by cases q)]
   refine Z2j ?_
   refine⟨_,rfl,rfl,_,rfl,?_⟩
   rw[decide_eq_false (fun q=>by cases q)]
   refine Z2j ?_
   refine⟨_,rfl,la,_,rfl,.inl (SqL.of hla5),_,rfl,lb,_,rfl,.inl (SqL.of hlb),rfl,_,rfl,?_⟩
   rw[Z0k,Z0k]
   by_cases hAB:A.length=B.length
   rotate_left
   ·rw[decide_eq_false (fun q=>hAB (by have:=V.int.inj q; omega))]
    refine Z2m ?_
    exact k2 (fun n r u d=>by obtain⟨A',B',q1,q2,q3⟩:=dr n r u d; rw[pA.uniq q1,pB.uniq q2]at hAB; exact hAB q3) H5 (s3.trans (s4.trans s5))
   rw[decide_eq_true (by rw[hAB])]
   refine Z2j ?_
   have hB36:=pB.2.2
   have hBl:B.length<=300:=by
    have q1:=(hX2 zb (Y0a hzb)).1
    have q2:=congrArg List.length pB.1
    rw[Z3g]at q2; omega
   have hBp:0 < B.length:=List.length_pos_iff.mpr pB.2.1
   have s35:=s3.trans (s4.trans s5)
   have h51:=(s4.trans s5) _ _ h31
   have h52:=(s4.trans s5) _ _ h32
   have lenR:∀ qs:List (Nat×Nat),(∀ q∈qs,q.1 < 36)->(dkp (fN qs)).length < sizeLine:=fun qs h=>by rw[Zgu]; have:=Zef h; exact Z0j (by omega)
   have kR:∀ k,∀ q∈RP rows++(Z71 B).take k,q.1 < 36:=fun k q hq=>by
    rcases Y0n.mp hq with q' | q'
    ·exact gr.keys _ (by rw[<-Z7p]; exact Y0f.mpr ⟨q,q',rfl⟩)
    ·exact hB36 _ (by have:q.1∈(Z71 B).map (·.1):=Y0f.mpr ⟨q,List.mem_of_mem_take q',rfl⟩; rw[Zbo]at this; exact this)
   have kU:∀ k,∀ q∈UP rows++(upP A B).take k,q.1 < 36:=fun k q hq=>by
    rcases Y0n.mp hq with q' | q'
    ·exact gr.keys _ (by rw[<-Zjl]; exact Y0f.mpr ⟨q,q',rfl⟩)
    ·exact hB36 _ (by have:q.1∈(upP A B).map (·.1):=Y0f.mpr ⟨q,List.mem_of_mem_take q',rfl⟩; rw[Zem]at this; exact this)
   refine⟨_,rfl,lb,rfl,⟨_,SqL.of hlb⟩,?_⟩
   refine Z8p (xs:=nv B) (fun k σ H6=>∃ o6 o7,σ=[some (.ref pl),some (.ref d1),some (.ref d2),some (.int (i:Int)),some (.ref la),some (.ref lb),o6,o7,none,none]/\Z0d H H6/\H6 la=some (.lst (nv A))/\H6 lb=some (.lst (nv B))/\H6 d1=some (.dK (dkp (fN (RP rows++(Z71 B).take k))))/\H6 d2=some (.dK (dkp (fN (UP rows++(upP A B).take k))))) ⟨_,_,rfl,s35,hla5,hlb,by rw[List.take_zero,Y1f]; exact h51,by rw[List.take_zero,Y1f]; exact h52⟩ (fun k σ H6 _ ⟨_,_,_,_,_,q,_⟩=>SqL.of q) ?_ ?_
   ·rintro k x σ H6 T6 hx hT6 ⟨o6,o7,rfl,s6,h6a,h6b,h61,h62⟩
    obtain⟨y,hy,rfl⟩:=Z3e hx
    have hk:=(Y03.mp hy).1
    have s7:=Z02 (o:=Z42 T6 [.int (k:Int),.int (y:Int)]) s6 (s6.free hT6)
    have h7:∀ {c:Addr} {o:HO},H6 c=some o->(upd H6 T6 (Z42 T6 [.int (k:Int),.int (y:Int)])) c=some o:=fun {c o} hc=>by rw[Z05 (Z06 hc hT6)]; exact hc
    have h7a:=h7 h6a
    have h7b:=h7 h6b
    have h71:=h7 h61
    have h72:=h7 h62
    refine⟨T6,_,rfl,Z01,rfl,_,_,rfl,_,_,rfl,rfl,?_⟩
    clear h7
    revert s7 h7a h7b h71 h72
    generalize (upd H6 T6 (Z42 T6 [.int (k:Int),.int (y:Int)]))=H7
    intro s7 h7a h7b h71 h72
    have hj:((k:Int)+1) % (B.length:Int)=(((k+1) % B.length:Nat):Int):=rfl
    have hmod:(k+1) % B.length < B.length:=Nat.mod_lt _ hBp
    obtain⟨y2,hy2⟩:∃ y2,B[(k+1) % B.length]?=some y2:=⟨_,Y00 hmod⟩
    obtain⟨a2,ha2⟩:∃ a2,A[k]?=some a2:=⟨_,Y00 (by omega)⟩
    have tR:(Z71 B).take (k+1)=(Z71 B).take k++[(y,y2)]:=by
     rw[Y11]
     have:(Z71 B)[k]?=some (y,y2):=by
      unfold Z71
      rw[Y0e,Y1b hk]
      simp[Y05,hy,hy2]
     rw[this]; rfl
    have tU:(upP A B).take (k+1)=(upP A B).take k++[(y,a2)]:=by
     rw[Y11]
     have:(upP A B)[k]?=some (y,a2):=by
      unfold upP
      rw[Y0e,Y1b hk]
      simp[Y05,hy,ha2]
     rw[this]; rfl
    refine⟨_,rfl,_,rfl,_,_,rfl,rfl,_,rfl,lb,_,rfl,.inl (SqL.of h7b),?_⟩
    rw[Z0k]
    refine⟨_,_,rfl,rfl,(by show (0:Int) < (B.length:Int); omega),lb,_,(((k+1) % B.length:Nat):Int),_,rfl,congrArg V.int hj,SqL.of h7b,Z0f (Z14 hy2),?_⟩
    refine⟨_,rfl,_,rfl,d1,_,rfl,Zc3.k (k:=(Sum.inl (y:Int):Key)) h71 (lenR _ (kR k)),?_⟩
    rw[Zgc,<-Zhm,Y1l,<-tR]
    have s8:Z0d H (upd H7 d1 (.dK (dkp (fN (RP rows++(Z71 B).take (k+1)))))):=Z02 s7 hd1
    have ne1:∀ {c:Addr} {ys:List V},H7 c=some (.lst ys)->c≠d1:=fun {c ys} hc q=>by rw[q,h71]at hc; cases hc
    have h8a:(upd H7 d1 (.dK (dkp (fN (RP rows++(Z71 B).take (k+1)))))) la=some (.lst (nv A)):=by rw[Z05 (ne1 h7a)]; exact h7a
    have h8b:(upd H7 d1 (.dK (dkp (fN (RP rows++(Z71 B).take (k+1)))))) lb=some (.lst (nv B)):=by rw[Z05 (ne1 h7b)]; exact h7b
    have h81:(upd H7 d1 (.dK (dkp (fN (RP rows++(Z71 B).take (k+1)))))) d1=some (.dK (dkp (fN (RP rows++(Z71 B).take (k+1))))):=Z01
    have h82:(upd H7 d1 (.dK (dkp (fN (RP rows++(Z71 B).take (k+1)))))) d2=some (.dK (dkp (fN (UP rows++(upP A B).take k)))):=by rw[Z05 n12]; exact h72
    clear ne1
    revert s8 h8a h8b h81 h82
    generalize (upd H7 d1 (.dK (dkp (fN (RP rows++(Z71 B).take (k+1))))))=H8
    intro s8 h8a h8b h81 h82
    refine⟨_,rfl,_,rfl,la,_,(k:Int),_,rfl,rfl,SqL.of h8a,Z0f (Z14 ha2),?_⟩
    refine⟨_,rfl,_,rfl,d2,_,rfl,Zc3.k (k:=(Sum.inl (y:Int):Key)) h82 (lenR _ (kU k)),?_⟩
    rw[Zgc,<-Zhm,Y1l,<-tU]
    have ne2:∀ {c:Addr} {ys:List V},H8 c=some (.lst ys)->c≠d2:=fun {c ys} hc q=>by rw[q,h82]at hc; cases hc
    exact⟨_,_,rfl,Z02 s8 d20,by rw[Z05 (ne2 h8a)]; exact h8a,by rw[Z05 (ne2 h8b)]; exact h8b,by rw[Z05 n12.symm]; exact h81,Z01⟩
   ·rintro σ H6 ⟨o6,o7,rfl,s6,h6a,h6b,h61,h62⟩
    rw[Z0k,Y1m (by rw[Zka]; exact Y06 _)]at h61
    rw[Z0k,Y1m (by rw[Zns]; exact Y06 _)]at h62
    have eR:RP (rows++[(A,B)])=RP rows++Z71 B:=by unfold RP; rw[Y24]; simp
    have eU:UP (rows++[(A,B)])=UP rows++upP A B:=by unfold UP; rw[Y24]; simp
    exact⟨_,_,_,_,_,rows++[(A,B)],rfl,s6,by rw[eR]; exact h61,by rw[eU]; exact h62,gr.snoc hza hzb pA pB hAB⟩
  ·rintro σ H3 ⟨o3,o4,o5,o6,o7,rows,rfl,s3,h31,h32,gr⟩
   have drr:∀ n r u,Z91 X n r u->rows=Z1z u (Z0g n r):=fun n r u d=>Zjc d gr hm.symm
   have hn36:(fN (RP rows)).length<=36:=Zef fun q hq=>gr.keys _ (by rw[<-Z7p]; exact Y0f.mpr ⟨q,hq,rfl⟩)
   have hnU:=Zqj rows
   have hn1:1<=(fN (RP rows)).length:=by
    obtain⟨q,hq⟩:∃ q,rows[0]?=some q:=⟨_,Y00 (by rw[gr.len]; omega)⟩
    obtain⟨_,_,_,ne⟩:=gr.lt q (Y0a hq)
    obtain⟨x,hx⟩:=List.exists_mem_of_ne_nil _ ne
    have:x∈(fN (RP rows)).map (·.1):=Zhy.mpr (by rw[Z7p]; exact Y2b.mpr ⟨q.2,Y0f.mpr ⟨q,Y0a hq,rfl⟩,hx⟩)
    have:=Y2m this
    rwa [Y09]at this
   generalize hN:(fN (RP rows)).length=N at *
   refine⟨_,rfl,d1,_,rfl,h31,?_⟩
   refine⟨(N:Int),by rw[Zgu,hN],fun rg hrg=>?_⟩
   have s4:=Z02 (o:=.rng 0 (N:Int)) (Z0d.refl H3) hrg
   have e4:(upd H3 rg (.rng 0 (N:Int))) rg=some (.rng 0 (N:Int)):=Z01
   generalize upd H3 rg (.rng 0 (N:Int))=H4 at s4 e4
   refine⟨rg,N,rfl,e4,by omega,fun l hl=>?_⟩
   have s5:=Z02 (o:=.lst (nv (Y04 N))) (Z0d.refl H4) hl
   have e5:(upd H4 l (.lst (nv (Y04 N)))) l=some (.lst (nv (Y04 N))):=Z01
   generalize upd H4 l (.lst (nv (Y04 N)))=H5 at s5 e5
   have s35:=s4.trans s5
   have h51:=s35 _ _ h31
   have h52:=s35 _ _ h32
   have sH5:=s3.trans s35
   have nof:∀ n r u,Z91 X n r u->n=N:=fun n r u d=>by
    have hp:=(Z6w d).1
    rw[<-drr n r u d]at hp
    have:=hp.length_eq
    rw[Y09,Y0d,hN]at this
    exact this.symm
   clear s4 e4 hrg
   refine⟨_,rfl,d1,_,rfl,h51,fun lk hlk=>?_⟩
   rw[Zl0]
   have s6:=Z02 (o:=.lst (nv ((fN (RP rows)).map (·.1)))) (Z0d.refl H5) hlk
   have e6:(upd H5 lk (.lst (nv ((fN (RP rows)).map (·.1))))) lk=some (.lst (nv ((fN (RP rows)).map (·.1)))):=Z01
   generalize upd H5 lk (.lst (nv ((fN (RP rows)).map (·.1))))=H6 at s6 e6
   refine⟨lk,_,rfl,.inl (SqL.of e6),by rw[Y09]; omega,fun ls S hls pS oS=>?_⟩
   have s7:=Z02 (o:=.lst (nv S)) (Z0d.refl H6) hls
   have e7:(upd H6 ls (.lst (nv S))) ls=some (.lst (nv S)):=Z01
   generalize upd H6 ls (.lst (nv S))=H7 at s7 e7
   have s57:=s6.trans s7
   refine⟨_,rfl,ld S,ld (Y04 N),Zl9 (SqL.of e7),Zl9 (SqL.of (s57 _ _ e5)),Zf2 _,Zf2 _,Z59 hr (Zdm _),_,rfl,?_⟩
   rw[if_pos rfl,Zm9]
   by_cases hS:S=Y04 N
   rotate_left
   ·rw[decide_eq_false hS]
    refine Z2m (Z2m ?_)
    refine k2 (fun n r u d=>hS ?_) H7 (sH5.trans s57)
    have hp:=(Z6w d).1
    rw[<-drr n r u d,nof n r u d]at hp
    exact Z6b (pS.trans hp) oS
   rw[decide_eq_true hS]
   refine Z2j ?_
   have hk:((fN (RP rows)).map (·.1)).Perm (Y04 N):=by rw[<-hS]; exact pS.symm
   clear pS oS e7 e6 s6 s7 hls hlk
   have sH7:=sH5.trans s57
   have h71:=s57 _ _ h51
   have h72:=s57 _ _ h52
   have e7:=s57 _ _ e5
   refine⟨_,rfl,.inr (.inr (.inl ⟨rfl,.inl ⟨_,h72⟩⟩)),d2,_,rfl,rfl,h72,fun vv hvv=>?_⟩
   have s8:=Z02 (o:=vvO vv d2) (Z0d.refl H7) hvv
   have e8:(upd H7 vv (vvO vv d2)) vv=some (vvO vv d2):=Z01
   generalize upd H7 vv (vvO vv d2)=H8 at s8 e8
   refine⟨vv,d2,_,rfl,e8,s8 _ _ h72,fun lk hlk=>?_⟩
   rw[Ze0]
   have s9:=Z02 (o:=.lst (nv ((fN (UP rows)).map (·.2)))) (Z0d.refl H8) hlk
   have e9:(upd H8 lk (.lst (nv ((fN (UP rows)).map (·.2))))) lk=some (.lst (nv ((fN (UP rows)).map (·.2)))):=Z01
   generalize upd H8 lk (.lst (nv ((fN (UP rows)).map (·.2))))=H9 at s9 e9
   refine⟨lk,_,rfl,.inl (SqL.of e9),by rw[Y09]; omega,fun ls S hls pS oS=>?_⟩
   have s10:=Z02 (o:=.lst (nv S)) (Z0d.refl H9) hls
   have e10:(upd H9 ls (.lst (nv S))) ls=some (.lst (nv S)):=Z01
   generalize upd H9 ls (.lst (nv S))=H10 at s10 e10
   have s710:=s8.trans (s9.trans s10)
   refine⟨_,rfl,ld S,ld (Y04 N),Zl9 (SqL.of e10),Zl9 (SqL.of (s710 _ _ e7)),Zf2 _,Zf2 _,Z59 hr (Zdm _),_,rfl,?_⟩
   rw[if_pos rfl,Zm9]
   by_cases hS:S=Y04 N
   rotate_left
   ·rw[decide_eq_false hS]
    refine Z2m ?_
    refine k2 (fun n r u d=>hS ?_) H10 (sH7.trans s710)
    have hp:=(Z6w d).2.1
    rw[<-drr n r u d,nof n r u d]at hp
    exact Z6b (pS.trans hp) oS
   rw[decide_eq_true hS]
   refine Z2j ?_
   have hkU:((fN (UP rows)).map (·.2)).Perm (Y04 N):=by rw[<-hS]; exact pS.symm
   clear pS oS e10 e9 e8 s8 s9 s10 hls hlk hvv
   have sH10:=sH7.trans s710
   have h101:=s710 _ _ h71
   have h102:=s710 _ _ h72
   have e10:=s710 _ _ e7
   clear h71 h72 h51 h52 h31 h32 e7 e5
   refine⟨_,rfl,.inr (.inr (.inl ⟨rfl,.inl ⟨_,h101⟩⟩)),d1,_,rfl,rfl,h101,fun vv hvv=>?_⟩
   have s11:=Z02 (o:=vvO vv d1) (Z0d.refl H10) hvv
   have e11:(upd H10 vv (vvO vv d1)) vv=some (vvO vv d1):=Z01
   generalize upd H10 vv (vvO vv d1)=H11 at s11 e11
   refine⟨vv,d1,_,rfl,e11,s11 _ _ h101,fun lk hlk=>?_⟩
   rw[Ze0]
   have s12:=Z02 (o:=.lst (nv ((fN (RP rows)).map (·.2)))) (Z0d.refl H11) hlk
   have e12:(upd H11 lk (.lst (nv ((fN (RP rows)).map (·.2))))) lk=some (.lst (nv ((fN (RP rows)).map (·.2)))):=Z01
   generalize upd H11 lk (.lst (nv ((fN (RP rows)).map (·.2))))=H12 at s12 e12
   refine⟨lk,(fN (RP rows)).map (·.2),rfl,.inl (SqL.of e12),by rw[Y09]; omega,fun st Sf hst=>?_⟩
   have s13:=Z02 (o:=.set Sf (Z3m ((fN (RP rows)).map (·.2)))) (Z0d.refl H12) hst
   have e13:(upd H12 st (.set Sf (Z3m ((fN (RP rows)).map (·.2))))) st=some (.set Sf (Z3m ((fN (RP rows)).map (·.2)))):=Z01
   generalize upd H12 st (.set Sf (Z3m ((fN (RP rows)).map (·.2))))=H13 at s13 e13
   have s1013:=s11.trans (s12.trans s13)
   refine⟨st,_,_,rfl,e13,?_⟩
   refine⟨_,rfl,l,_,rfl,.inl (SqL.of (s1013 _ _ e10)),rfl,_,rfl,?_⟩
   rw[Z0k,Y0d]
   have lv:((fN (RP rows)).map (·.2)).length=N:=by rw[Y09]; exact hN
   by_cases hnd:((fN (RP rows)).map (·.2)).Nodup
   rotate_left
   ·rw[decide_eq_false (fun q=>by have:=V.int.inj q; have:=Zb7 hnd; omega)]
    refine Z2m (Z2m ?_)
    refine k2 (fun n r u d=>hnd ?_) H13 (sH10.trans s1013)
    have hp:=(Z6w d).2.2.1
    rw[<-drr n r u d]at hp
    exact hp
   rw[decide_eq_true (by rw[Z7z hnd,lv])]
   refine Z2j ?_
   clear e13 e12 e11 s11 s12 s13 hst hlk hvv
   have sH13:=sH10.trans s1013
   have h131:=s1013 _ _ h101
   have h132:=s1013 _ _ h102
   have e13:=s1013 _ _ e10
   clear h101 h102 e10
   obtain⟨rr,ru⟩:=Zjx hk hkU hnd
   have hkm:∀ k,k < N->k∈(fN (RP rows)).map (·.1):=fun k hk'=>hk.mem_iff.mpr (Y08.mpr hk')
   have vR:∀ k,k < N->Z2s (dkp (fN (RP rows))) (Sum.inl (k:Int):Key)=some (.int (nx (Z8d (fN (RP rows)) N) k:Int)):=fun k hk'=>by rw[Zho (hkm k hk'),Z4y hk']
   have vU:∀ k,k < N->Z2s (dkp (fN (UP rows))) (Sum.inl (k:Int):Key)=some (.int (nx (Z8d (fN (UP rows)) N) k:Int)):=fun k hk'=>by rw[Zho (by rw[<-Zd0]; exact hkm k hk'),Z4y hk']
   have dsame:∀ n r u,Z91 X n r u->n=N/\Z8d (fN (RP rows)) N=r/\Z8d (fN (UP rows)) N=u:=fun n r u d=>by
    have hp:=(Z6w d).2.2.2
    have hn:=nof n r u d
    rw[<-drr n r u d,hn]at hp
    exact⟨hn,hp⟩
   have eR:Z8d (fN (RP rows)) N=(Y04 N).map fun k=>nx (Z8d (fN (RP rows)) N) k:=by
    refine Z9l (n:=N) rr.len (by simp) fun i hi=>?_
    show _=((Y04 N).map fun k=>nx (Z8d (fN (RP rows)) N) k).getD i 0
    rw[Y05,Y0e,Y1b hi]; rfl
   have eU:Z8d (fN (UP rows)) N=(Y04 N).map fun k=>nx (Z8d (fN (UP rows)) N) k:=by
    refine Z9l (n:=N) ru.len (by simp) fun i hi=>?_
    show _=((Y04 N).map fun k=>nx (Z8d (fN (UP rows)) N) k).getD i 0
    rw[Y05,Y0e,Y1b hi]; rfl
   generalize Z8d (fN (RP rows)) N=rr9 at *
   generalize Z8d (fN (UP rows)) N=uu9 at *
   refine⟨_,rfl,_,rfl,d1,d2,_,_,N,rr9,uu9,0,rfl,h131,h132,vR,vU,rr,ru,hn1,hn36,fun H14 lm M s14 hlm0 hlm hM=>?_⟩
   refine⟨lm,_,rfl,.inl (SqL.of hlm),_,rfl,l,_,rfl,.inl (SqL.of (s14 _ _ e13)),rfl,_,rfl,?_⟩
   rw[Z0k,Z0k,Y0d]
   by_cases hMl:M.length=N
   rotate_left
   ·rw[decide_eq_false (fun q=>hMl (by have:=V.int.inj q; omega))]
    refine Z2m ?_
    refine k2 (fun n r u d=>hMl ?_) H14 (sH13.trans s14)
    obtain⟨q1,q2,q3⟩:=dsame n r u d
    subst q1 q2 q3
    exact (hM.full d.1).len
   rw[decide_eq_true (by rw[hMl])]
   refine Z2j ?_
   have hSh:=Zhc rr ru hn1 hn36 hM hMl
   have sH14:=sH13.trans s14
   have h141:=s14 _ _ h131
   have h142:=s14 _ _ h132
   have e14:=s14 _ _ e13
   clear h131 h132 e13 hM hlm
   dsimp only [Zg5,Zdh,Zbn,Zpc,tCB,Z0w,Z2t]
   have dg:∀ {H':Hp} {x:Nat},Z0d H14 H'->x∈Y04 N->Z6k H' d1 (.int (x:Int)) (some (.int (nx rr9 x:Int))):=fun {H' x} sx hx=>by
    have q:=Z6k.k (k:=(Sum.inl (x:Int):Key)) (sx _ _ h141)
    rw[vR x (Y08.mp hx)]at q; exact q
   have dg':∀ {H':Hp} {x:Nat},Z0d H14 H'->x∈Y04 N->Z6k H' d2 (.int (x:Int)) (some (.int (nx uu9 x:Int))):=fun {H' x} sx hx=>by
    have q:=Z6k.k (k:=(Sum.inl (x:Int):Key)) (sx _ _ h142)
    rw[vU x (Y08.mp hx)]at q; exact q
   refine Z9g (r:=Y04 N) (fun x=>nx rr9 x) rfl e14 rfl (fun x H' R hx sx hR=>⟨_,rfl,_,rfl,d1,_,rfl,dg sx hx,hR⟩) (by rw[Y0d]; omega) fun H15 la s15 _ hla=>?_
   rw[<-eR]at hla
   refine⟨la,_,rfl,.inl ⟨SqL.of hla,fun t1 ht1=>?_⟩⟩
   have s16:=Z02 (o:=.tup (nv rr9)) (Z0d.refl H15) ht1
   have e16:(upd H15 t1 (.tup (nv rr9))) t1=some (.tup (nv rr9)):=Z01
   generalize upd H15 t1 (.tup (nv rr9))=H16 at s16 e16
   have s1416:=s15.trans s16
   refine Z9g (r:=Y04 N) (fun x=>nx uu9 x) rfl (s1416 _ _ e14) rfl (fun x H' R hx sx hR=>⟨_,rfl,_,rfl,d2,_,rfl,dg' (s1416.trans sx) hx,hR⟩) (by rw[Y0d]; omega) fun H17 lb s17 _ hlb=>?_
   rw[<-eU]at hlb
   refine⟨lb,_,rfl,.inl ⟨SqL.of hlb,fun t2 ht2=>?_⟩⟩
   have s18:=Z02 (o:=.tup (nv uu9)) (Z0d.refl H17) ht2
   have e18:(upd H17 t2 (.tup (nv uu9))) t2=some (.tup (nv uu9)):=Z01
   generalize upd H17 t2 (.tup (nv uu9))=H18 at s18 e18
   refine⟨two,fun t3 ht3=>?_⟩
   have s19:=Z02 (o:=.tup [.ref t1,.ref t2]) (Z0d.refl H18) ht3
   have e19:(upd H18 t3 (.tup [.ref t1,.ref t2])) t3=some (.tup [.ref t1,.ref t2]):=Z01
   generalize upd H18 t3 (.tup [.ref t1,.ref t2])=H19 at s19 e19
   have hA:=s19 _ _ (s18 _ _ (s17 _ _ e16))
   have hB:=s19 _ _ e18
   have sH19:=sH14.trans (s1416.trans (s17.trans (s18.trans s19)))
   refine⟨_,rfl,t3,t1,t2,[],N,rr9,uu9,rfl,e19,.inr (SqT.of hA),.inr (SqT.of hB),rr,ru,hn36,fun H20 ll s20 hll=>?_⟩
   have sH20:=sH19.trans s20
   have small:∀ M∈Z0g N rr9,∀ x∈M,x < 36/\nx uu9 x < 36:=fun M hM x hx=>by
    have:=(Z4p rr hM).2.1 x hx
    exact⟨by omega,Y0h (ru.nlt this) hn36⟩
   refine⟨_,rfl,.list ((drM uu9 (Z0g N rr9)).map fun z=>.str (txt z)),.list (X.map fun z=>.str (txt z)),.lst (SqL.of hll) (Z47 _),.lst (SqL.of (sH20 _ _ hpl)) (Z47 _),Z57 fun z hz=>Zbi small hz,Z57 fun z hz=>(hX2 z hz).2,Z59 hr (Z7t _),_,rfl,?_⟩
   rw[if_pos rfl,Z9s]
   by_cases hD:drM uu9 (Z0g N rr9)=X
   ·rw[decide_eq_true hD]
    refine Z2j ?_
    exact⟨_,rfl,k1 N rr9 uu9 ⟨hSh,hD.symm⟩ H20 t3 sH20 ⟨t1,t2,s20 _ _ e19,s20 _ _ hA,s20 _ _ hB⟩⟩
   ·rw[decide_eq_false hD]
    refine Z2m ?_
    refine k2 (fun n r u d=>hD ?_) H20 sH20
    obtain⟨q1,q2,q3⟩:=dsame n r u d
    subst q1 q2 q3
    exact d.2.symm
end
abbrev Zr1 (K:Y01):TE:=Zpc (Z0w (Z2p Zdy [] E0 (Z0w (tOp (Zop K) (Z1w 1) (tOp (rI0 fun i j=>.int (i - j)) (Z1w 0) (tC (.int 1)))) Z2t)) (Z0w (Z2p Zdy [] E0 (Z0w (tOp (Zop K) (Z1w 1) (Z1w 0)) Z2t)) Z2t))
theorem Zlp {K:Y01}{Hc:Hp}{pl:Addr}{X:List (List Nat)}{ta:TA}{pull:List Nat}{Q:VK}{σ:St}(hpl:Hc pl=some (.lst (tvs X)))(hX:X.length<=100)(hX2:∀ z∈X,z.length<=600/\∀ c∈z,c < 0x110000)(hj:σ[0]?=some (some (.ref pl)))(hb:bst 1 pull σ=[none,some (.ref pl)])
  (ha:∀ R:List V->Hp->Prop,R [.int 1,.int (X.length:Int),.int 2] Hc->ta σ Hc R)
  (k:∀ (H':Hp) (d:Addr) (as:List Addr),Z0d Hc H'->H' d=some (.lst (as.map V.ref))->as.length<=100->(∀ t∈as,∃ (pa pb:Addr) (xs ys:List Int),H' t=some (.tup [.ref pa,.ref pb])/\H' pa=some (.lst (xs.map V.int))/\H' pb=some (.lst (ys.map V.int))/\∀ y∈ys,-1<=y/\y < 36)->Q (.ref d) H') :
  Z82 (Znl ta) 1 pull (Z25 0) (Zr1 K) σ Hc Q:=by
 have two:2<=sizeLine:=by decide
 have em:rgN 1 (X.length:Int) 2=X.length / 2:=by
  unfold rgN Builtin.Range.rangeSize
  rw[if_pos (by decide)]
  split <;> omega
 have tg:∀ {i:Nat} {z:List Nat},X[i]?=some z->(tvs X)[i]?=some (.str (txt z)):=fun {i z} h=>by unfold tvs; rw[Y0e,h]; rfl
 refine ha _ ⟨1,(X.length:Int),2,rfl,⟨by decide,by decide,by omega,by omega,by decide,by decide⟩,fun d hd=>?_⟩
 rw[em,hb]
 refine Zd7 (J:=Zsk 1 2 (X.length / 2)) (Q:=fun d H'=>Q (.ref d) H') (X.length / 2) (fun i xs σ H9=>(∃ o,σ=[o,some (.ref pl)])/\Z0d Hc H9/\∃ as:List Addr,xs=as.map V.ref/\as.length=i/\∀ t∈as,∃ (pa pb:Addr) (xs ys:List Int),pa≠d/\pb≠d/\t≠d/\H9 t=some (.tup [.ref pa,.ref pb])/\H9 pa=some (.lst (xs.map V.int))/\H9 pb=some (.lst (ys.map V.int))/\∀ y∈ys,-1<=y/\y < 36) ⟨⟨_,rfl⟩,Z02 (Z0d.refl _) hd,[],rfl,rfl,fun t h=>nomatch h⟩ ?_ ?_
 ·rintro i xs σ H9 hi ⟨⟨o,rfl⟩,s9,as,rfl,la,hG⟩ hd9
  refine⟨hi,fun x H4 ⟨e1,e2⟩=>?_⟩
  subst e1 e2
  obtain⟨za,hza⟩:∃ z,X[2 * i]?=some z:=⟨_,Y00 (by omega)⟩
  obtain⟨zb,hzb⟩:∃ z,X[2 * i+1]?=some z:=⟨_,Y00 (by omega)⟩
  have i1:(1+(i:Int) * 2) - 1=((2 * i:Nat):Int):=by omega
  have i2:(1+(i:Int) * 2)=((2 * i+1:Nat):Int):=by omega
  have hp9:=s9 _ _ hpl
  refine⟨_,rfl,_,rfl,_,_,rfl,rfl,pl,_,((2 * i:Nat):Int),_,rfl,congrArg V.int i1,SqL.of hp9,Z0f (tg hza),za,rfl,(hX2 za (Y0a hza)).1,fun H2 pa xa s2 hpa0 hpa _ _=>?_⟩
  refine⟨_,rfl,_,rfl,pl,_,((2 * i+1:Nat):Int),_,rfl,congrArg V.int i2,SqL.of (s2 _ _ hp9),Z0f (tg hzb),zb,rfl,(hX2 zb (Y0a hzb)).1,fun H3 pb xb s3 hpb0 hpb _ hyb=>?_⟩
  refine⟨two,fun t ht=>?_⟩
  have s4:=Z02 (o:=.tup [.ref pa,.ref pb]) (Z0d.refl H3) ht
  have e4:(upd H3 t (.tup [.ref pa,.ref pb])) t=some (.tup [.ref pa,.ref pb]):=Z01
  generalize upd H3 t (.tup [.ref pa,.ref pb])=H4 at s4 e4
  have s24:=s2.trans (s3.trans s4)
  have hd4:=s24 _ _ hd9
  have n1:pa≠d:=fun e=>by rw[e,hd9]at hpa0; cases hpa0
  have n2:pb≠d:=fun e=>by rw[e,s2 _ _ hd9]at hpb0; cases hpb0
  have n3:t≠d:=fun e=>by rw[e,hd4]at e4; cases e4
  refine Zk8 hi hd4 (by rw[Y09]; omega) ⟨⟨_,rfl⟩,Z02 (s9.trans s24) hd,as++[t],by rw[Y0p]; rfl,by rw[Y07,la]; rfl,fun t' ht'=>?_⟩
  rcases Y0n.mp ht' with q | q
  ·obtain⟨pa',pb',xs',ys',m1,m2,m3,g1,g2,g3,g4⟩:=hG t' q
   exact⟨pa',pb',xs',ys',m1,m2,m3,by rw[Z05 m3]; exact s24 _ _ g1,by rw[Z05 m1]; exact s24 _ _ g2,by rw[Z05 m2]; exact s24 _ _ g3,g4⟩
  ·rw[Y0g.mp q]
   exact⟨pa,pb,xa,xb,n1,n2,n3,by rw[Z05 n3]; exact e4,by rw[Z05 n1]; exact s4 _ _ (s3 _ _ hpa),by rw[Z05 n2]; exact s4 _ _ hpb,hyb⟩
 ·rintro xs σ H9 ⟨⟨o,rfl⟩,s9,as,rfl,la,hG⟩ hd9
  refine⟨Y06 _,k H9 d as s9 hd9 (by omega) fun t ht=>?_⟩
  obtain⟨pa,pb,xs,ys,_,_,_,g⟩:=hG t ht
  exact⟨pa,pb,xs,ys,g⟩
def Zht (CD:Addr):Sp:=fun vs H Q E=>∃ (pl:Addr) (X:List (List Nat)),vs=[.ref pl]/\H pl=some (.lst (tvs X))/\X.length<=100/\(∀ z∈X,z.length<=600/\∀ c∈z,c < 0x110000)/\
 (∀ n r u,Z91 X n r u->∀ (H':Hp) (a:Addr),Z0d H H'->Z7e H' a r u->Q (.ref a) H')/\((∀ n r u,¬ Z91 X n r u)->∀ H':Hp,Z0d H H'->E (.ref CD) none H')
section
variable {P:Program}{w:World}{K:Y01}{mg:Str->Option Value}{base:Heap}
set_option maxHeartbeats 4000000 in
theorem Zn8 {f fq ft fw CD:Addr}{fd dq dt dw:FuncData}(T:Bi mg)(hC:Z8c K CD)(hCm:mg "NoDrawing"=some (.ref CD))(F:Fn K mg "seen" Zda ["rows"] f fd)(FQ:Fn K mg "squares_in" Z24 ["text"] fq dq)(GQ:Z13 P w K mg base CX0 1 fq dq ["text"] Zk5)(GQG:Z13 P w K mg base CX0 1 fq dq ["text"] Zdy)
  (FT:Fn K mg "sheet_told" Z29 ["pairs"] ft dt) (GT:Z13 P w K mg base CX0 6 ft dt ["pairs"] (Zq7 K)) (GTG:Z13 P w K mg base CX0 6 ft dt ["pairs"] (Zmb K))
  (FW:Fn K mg "drawn" Z8o ["sheet"] fw dw) (GW:Z13 P w K mg base CX0 3 fw dw ["sheet"] (Zq8 K)):Z13 P w K mg base (CX1 P w) 7 f fd ["rows"] (Zht CD):=by
 refine F.F.ok1 Zhu (fun vs H Q E h=>?_) (fun cdv A outer s H vs Q E hr h=>?_)
 ·obtain⟨pl,X,rfl,_⟩:=h; rfl
 ·obtain⟨pl,X,rfl,hpl,hX,hX2,k1,k2⟩:=h
  have hr1:Z2d 1 _:=hr.mono (by decide)
  have hr3:Z2d 3 _:=hr.mono (by decide)
  have hr6:Z2d 6 _:=hr.mono (by decide)
  by_cases hA:∃ n r u,Z91 X n r u
  ·obtain⟨n,r,u,hS,eX⟩:=hA
   have hpl:H pl=some (.lst (tvs (drM u (Z0g n r)))):=by rw[hpl,eX]; rfl
   have k:=fun H' a s ha=>k1 n r u ⟨hS,eX⟩ H' a s ha
   clear k1 k2 hX hX2
   refine⟨_,(Z03 (Z7q (j:=1) (N:=Zss) (names:=(Z08 Zda).names) (N':=["k","rows"]) (k:=1) (pull:=[0]) (te:=teS9 K) rfl Zhu.nd rfl rfl ⟨by rfl,by decide +kernel,by decide +kernel,by rfl,by decide +kernel,by decide +kernel⟩ rfl rfl (Zae rfl T.range (Z00 Z09 (Z00 (Z0a Z0b rfl T.len PySem.boot_len (Z00 (pv 0) Z04)) (Z00 Z09 Z04)))) (fun _ _ _ _ _ _=>Z0i (i:=0) Zr5 rfl (Or.inl rfl)) (fun _ _ _ _ _ _=>Z3h (Z00 (Z0h GQ hr1 rfl FQ.m FQ.F.kp FQ.b .nil Z0z (Z00 (Z0t Z0v (pv 1) (Z0l Zmt (pv 0) Z09) (fun _ _=>rfl)) Z04)) (Z00 (Z0h GQ hr1 rfl FQ.m FQ.F.kp FQ.b .nil Z0z (Z00 (Z0t Z0v (pv 1) (pv 0) (fun _ _=>rfl)) Z04)) Z04))))
    (Z03 (Z0c (i:=2) Zhu.nd rfl (Or.inl rfl) (Z0h GT hr6 rfl FT.m FT.F.kp FT.b .nil Z0z (Z00 (pv 1) Z04)))
    (Z03 (Z1f (PW.pt (Z8i (Z0m Zaa (pv 2) Z2u (Z0r _)) (Z66 (Z0m Z6z (Z0h GW hr3 rfl FW.m FW.F.kp FW.b .nil Z0z (Z00 (pv 2) Z04)) (pv 0) (Z0r _))))) Z4d Z0p)
    (Z07 (Z0o (pv 2)))))),?_⟩
   have rr:=hS.row
   have ru:=hS.col
   have hn:=hS.most
   have two:2<=sizeLine:=by decide
   have hro:=fun M (hM:M∈Z0g n r)=>Z5q rr hM
   have hM36:(Z0g n r).length<=36:=by
    unfold Z0g
    rw[Y09]
    have:=Y1z (Z5t n r) (Y04 n)
    rw[Y0d]at this; omega
   have hdl:(drM u (Z0g n r)).length=2 * (Z0g n r).length:=Z7r u _
   have tl:∀ zs:List (List Nat),(tvs zs).length=zs.length:=fun zs=>by simp[tvs]
   dsimp only [Zdh,Zbn,Z25]
   refine Zcb (m:=(Z0g n r).length) (rest:=[some (.ref pl)]) (fun i a H=>∃ M,(Z0g n r)[i]?=some M/\∃ pa pb,H a=some (.tup [.ref pa,.ref pb])/\H pa=some (.lst (nv (M.map (nx u))))/\H pb=some (.lst (nv M))) (fun i a H H' s ⟨M,hM,pa,pb,g1,g2,g3⟩=>⟨M,hM,pa,pb,s _ _ g1,s _ _ g2,s _ _ g3⟩) (fun i a H d xs o hi hd ⟨M,hM,pa,pb,g1,g2,g3⟩=>?_) (fun R hR=>⟨_,rfl,pl,_,rfl,.inl (SqL.of hpl),by rw[tl,hdl]; exact hR⟩) rfl (fun i H' R hi hs hR=>?_) (by omega) fun H1 d as s1 hd0 la hG hd=>?_
   ·have m1:=(hro M (Y0a hM)).1
    have nl:∀ {w:List Nat} {c:Addr},1<=w.length->H c=some (.lst (nv w))->c≠d:=fun {w c} hw e1 q=>by
     rw[q,hd]at e1
     match w,xs,hw,e1 with
     | _ :: _,[],_,e1=>cases e1
     | _ :: _,_ :: _,_,e1=>cases e1
    exact⟨M,hM,pa,pb,by rw[Z05 (fun q=>by rw[q,hd]at g1; cases g1)]; exact g1,by rw[Z05 (nl (by rw[Y09]; exact m1) g2)]; exact g2,by rw[Z05 (nl m1 g3)]; exact g3⟩
   ·obtain⟨M,hM⟩:∃ M,(Z0g n r)[i]?=some M:=⟨_,Y00 hi⟩
    obtain⟨m1,m2,m3,_⟩:=hro M (Y0a hM)
    obtain⟨q1,q2⟩:=Zio u hM
    have ga:(tvs (drM u (Z0g n r)))[2 * i]?=some (.str (txt (btw 32 (M.map (nx u))))):=by unfold tvs; rw[Y0e,q1]; rfl
    have gb:(tvs (drM u (Z0g n r)))[2 * i+1]?=some (.str (txt (btw 124 M))):=by unfold tvs; rw[Y0e,q2]; rfl
    have i1:(1+(i:Int) * 2) - 1=((2 * i:Nat):Int):=by omega
    have i2:(1+(i:Int) * 2)=((2 * i+1:Nat):Int):=by omega
    refine⟨_,rfl,_,rfl,_,_,rfl,rfl,pl,_,((2 * i:Nat):Int),_,rfl,congrArg V.int i1,SqL.of (hs _ _ hpl),Z0f ga,32,M.map (nx u),rfl,fun x hx=>?_,by rw[Y09]; omega,fun H2 pa s2 _ hpa=>?_⟩
    ·obtain⟨y,hy,rfl⟩:=Y0f.mp hx
     exact Y0h (ru.nlt (m3 y hy)) hn
    refine⟨_,rfl,_,rfl,pl,_,((2 * i+1:Nat):Int),_,rfl,congrArg V.int i2,SqL.of (s2 _ _ (hs _ _ hpl)),Z0f gb,124,M,rfl,fun x hx=>Y0h (m3 x hx) hn,by omega,fun H3 pb s3 _ hpb=>?_⟩
    refine⟨two,fun t ht=>?_⟩
    have s4:=Z02 (o:=.tup [.ref pa,.ref pb]) (Z0d.refl H3) ht
    exact hR _ t (s2.trans (s3.trans s4)) ⟨M,hM,pa,pb,Z01,s4 _ _ (s3 _ _ hpa),s4 _ _ hpb⟩
   try dsimp only [Zdh,Zbn,Z25]
   refine⟨_,rfl,d,as,n,r,u,rfl,hd,la,fun i t M h1 h2=>?_,hS,fun H2 a s2 ha=>?_⟩
   ·obtain⟨M',e,pa,pb,g⟩:=hG i (Y03.mp h2).1
    rw[h2]at e
    cases e
    have:as.getD i 0=t:=by rw[Y05,h1]; rfl
    rw[this]at g
    exact⟨pa,pb,g⟩
   try dsimp only
   refine⟨_,rfl,rfl,_,rfl,?_⟩
   rw[decide_eq_false (fun z=>by cases z)]
   refine Z2j ?_
   refine⟨_,rfl,a,n,r,u,rfl,ha,rr,ru,hn,fun H3 l s3 _ hl=>?_⟩
   have s13:=s1.trans (s2.trans s3)
   have small:∀ M∈Z0g n r,∀ x∈M,x < 36/\nx u x < 36:=fun M hM x hx=>by
    have:=(hro M hM).2.2.1 x hx
    exact⟨by omega,Y0h (ru.nlt this) hn⟩
   refine⟨_,rfl,.list ((drM u (Z0g n r)).map fun z=>.str (txt z)),.list ((drM u (Z0g n r)).map fun z=>.str (txt z)),.lst (SqL.of hl) (Z47 _),.lst (SqL.of (s13 _ _ hpl)) (Z47 _),?_,?_,Z59 hr ?_,_,rfl,?_⟩
   ·exact Z57 fun z hz=>Zbi small hz
   ·exact Z57 fun z hz=>Zbi small hz
   ·exact Z7t _
   ·show if (!PyData.eqv _ _)=true then _ else _
    rw[Zcu]
    refine Z2j ?_
    exact⟨_,rfl,k H3 a s13 (ha.same s3)⟩
  have k2:=k2 fun n r u d=>hA ⟨n,r,u,d⟩
  have two:2<=sizeLine:=by decide
  have tl:∀ zs:List (List Nat),(tvs zs).length=zs.length:=fun zs=>by simp[tvs]
  have tg:∀ {i:Nat} {z:List Nat},X[i]?=some z->(tvs X)[i]?=some (.str (txt z)):=fun {i z} h=>by unfold tvs; rw[Y0e,h]; rfl
  refine⟨_,(Z03 (Z7q (j:=1) (N:=Zss) (names:=(Z08 Zda).names) (N':=["k","rows"]) (k:=1) (pull:=[0]) (te:=Zr1 K) rfl Zhu.nd rfl rfl ⟨by rfl,by decide +kernel,by decide +kernel,by rfl,by decide +kernel,by decide +kernel⟩ rfl rfl (Zae rfl T.range (Z00 Z09 (Z00 (Z0a Z0b rfl T.len PySem.boot_len (Z00 (pv 0) Z04)) (Z00 Z09 Z04)))) (fun _ _ _ _ _ _=>Z0i (i:=0) Zr5 rfl (Or.inl rfl)) (fun _ _ _ _ _ _=>Z3h (Z00 (Z0h GQG hr1 rfl FQ.m FQ.F.kp FQ.b .nil Z0z (Z00 (Z0t Z0v (pv 1) (Z0l Zmt (pv 0) Z09) (fun _ _=>rfl)) Z04)) (Z00 (Z0h GQG hr1 rfl FQ.m FQ.F.kp FQ.b .nil Z0z (Z00 (Z0t Z0v (pv 1) (pv 0) (fun _ _=>rfl)) Z04)) Z04))))
   (Z03 (Z0c (i:=2) Zhu.nd rfl (Or.inl rfl) (Z0h GTG hr6 rfl FT.m FT.F.kp FT.b .nil Z0z (Z00 (pv 1) Z04)))
   (Z03 (Z1f (PW.pt (Z8i (Z0m Zaa (pv 2) Z2u (Z0r _)) (Z66 (Z0m Z6z (Z0h GW hr3 rfl FW.m FW.F.kp FW.b .nil Z0z (Z00 (pv 2) Z04)) (pv 0) (Z0r _))))) (Z07 (Z6m rfl hC rfl hCm Zde (Z00 Z1b Z04))) Z0p)
   (Z07 (Z0o (pv 2)))))),?_⟩
  dsimp only [Zdh,Zbn,Z25]
  refine Zlp hpl hX hX2 rfl rfl (fun R hR=>⟨_,rfl,pl,_,rfl,.inl (SqL.of hpl),by rw[tl]; exact hR⟩) fun H1 d as s1 hd hla hG=>?_
  try dsimp only [Zdh,Zbn,Z25]
  refine⟨_,rfl,d,as,rfl,hd,hla,hG,fun H2 s2=>?_,fun H2 a n r u s2 hS ha=>?_⟩
  ·refine⟨_,rfl,rfl,_,rfl,?_⟩
   rw[decide_eq_true rfl]
   refine Z2m (Z2m ?_)
   exact⟨by show 1<=sizeLine; decide,k2 H2 (s1.trans s2)⟩
  ·refine⟨_,rfl,rfl,_,rfl,?_⟩
   rw[decide_eq_false (fun z=>by cases z)]
   refine Z2j ?_
   have rr:=hS.row
   have ru:=hS.col
   have hn:=hS.most
   refine⟨_,rfl,a,n,r,u,rfl,ha,rr,ru,hn,fun H3 l s3 _ hl=>?_⟩
   have s13:=s1.trans (s2.trans s3)
   have small:∀ M∈Z0g n r,∀ x∈M,x < 36/\nx u x < 36:=fun M hM x hx=>by
    have:=(Z4p rr hM).2.1 x hx
    exact⟨by omega,Y0h (ru.nlt this) hn⟩
   refine⟨_,rfl,.list ((drM u (Z0g n r)).map fun z=>.str (txt z)),.list (X.map fun z=>.str (txt z)),.lst (SqL.of hl) (Z47 _),.lst (SqL.of (s13 _ _ hpl)) (Z47 _),Z57 fun z hz=>Zbi small hz,Z57 fun z hz=>(hX2 z hz).2,Z59 hr (Z7t _),_,rfl,?_⟩
   rw[if_pos rfl,Z9s]
   rw[decide_eq_false (fun e=>hA ⟨n,r,u,hS,e.symm⟩)]
   refine Z2m ?_
   exact⟨by show 1<=sizeLine; decide,k2 H3 s13⟩
end
end K1
namespace L2
open PySem PySem.Spec PyProof.Rows
section
variable {prog:Program}{w:World}{A:Around}{E:Value->Shared->Prop}{s:Shared}
end
section
variable {X:Cx}{tg:Expr}
end
end L2
namespace K1
open PySem L2 Sq
def tvC (ad:Nat->Addr)(i:Nat):Value:=if i=1 then .type "ValueError" else .ref (ad i)
structure XM (K:Y01)(mg:Str->Option Value)(ad:Nat->Addr):Prop where
 m0:mg "SheetError"=some (.ref (ad 0))
 m1:mg "ValueError"=none
 m2:mg "NoSquare"=some (.ref (ad 2))
 m3:mg "NoWord"=some (.ref (ad 3))
 m4:mg "NoDrawing"=some (.ref (ad 4))
 m5:mg "NoNumber"=some (.ref (ad 5))
 m6:mg "NoPlace"=some (.ref (ad 6))
 m7:mg "NoRow"=some (.ref (ad 7))
 m8:mg "NoRenumbering"=some (.ref (ad 8))
 m9:mg "NoSheet"=some (.ref (ad 9))
 m10:mg "NotTogether"=some (.ref (ad 10))
 m11:mg "NoTable"=some (.ref (ad 11))
 m12:mg "NoText"=some (.ref (ad 12))
 m13:mg "NothingDone"=some (.ref (ad 13))
 m14:mg "NoWay"=some (.ref (ad 14))
 m15:mg "TooMany"=some (.ref (ad 15))
structure XD (K:Y01)(ad:Nat->Addr)(D:Addr)(bs:Nat->Bool):Prop where
 x:Zmk K D
 k0:Y0o K (.ref D) (tvC ad 0)=some (bs 0)
 k1:Y0o K (.ref D) (tvC ad 1)=some (bs 1)
 k2:Y0o K (.ref D) (tvC ad 2)=some (bs 2)
 k3:Y0o K (.ref D) (tvC ad 3)=some (bs 3)
 k4:Y0o K (.ref D) (tvC ad 4)=some (bs 4)
 k5:Y0o K (.ref D) (tvC ad 5)=some (bs 5)
 k6:Y0o K (.ref D) (tvC ad 6)=some (bs 6)
 k7:Y0o K (.ref D) (tvC ad 7)=some (bs 7)
 k8:Y0o K (.ref D) (tvC ad 8)=some (bs 8)
 k9:Y0o K (.ref D) (tvC ad 9)=some (bs 9)
 k10:Y0o K (.ref D) (tvC ad 10)=some (bs 10)
 k11:Y0o K (.ref D) (tvC ad 11)=some (bs 11)
 k12:Y0o K (.ref D) (tvC ad 12)=some (bs 12)
 k13:Y0o K (.ref D) (tvC ad 13)=some (bs 13)
 k14:Y0o K (.ref D) (tvC ad 14)=some (bs 14)
 k15:Y0o K (.ref D) (tvC ad 15)=some (bs 15)
def mks (bs:Nat->Bool):List V:=(Y04 16).map fun i=>.bl (bs i)
def Zd3 (K:Y01)(ad:Nat->Addr):Sp:=fun vs H Q _=>∃ (e D:Addr) (bs:Nat->Bool),vs=[.ref e]/\H e=some (exO e (.ref D) none)/\XD K ad D bs/\∀ (H':Hp) (p:Addr),Z0d H H'->H' p=some (.lst (mks bs))->Q (.ref p) H'
theorem isx {K:Y01}{D e:Addr}{c:V}{t:Value}{b:Bool}{σ:St}{H:Hp}{Q:VK}(h0:σ[0]?=some (some (.ref e)))(he:H e=some (exO e (.ref D) none))(hx:Zmk K D)(hc:clsV c=some t)(hk:Y0o K (.ref D) t=some b)(q:Q (.bl b) H) :
  tCB (Zm3 K) (Z0w (Z1w 0) (Z0w (tC c) Z2t)) σ H Q:=⟨_,h0,e,c,D,t,b,rfl,hc,he,hx,hk,q⟩
section
variable {P:Program}{w:World}{K:Y01}{mg:Str->Option Value}{base:Heap}
theorem Z6s:Z0n ["_law_e","_law_marks_here"] ["_law_e"] (Z08 Zbj):=⟨rfl,rfl,rfl,by decide +kernel,rfl,by decide +kernel,by decide +kernel⟩
theorem Zjw {f:Addr}{fd:FuncData}{ad:Nat->Addr}(T:Bi mg)(C:XM K mg ad)(F:Fn K mg "_law_marks" Zbj ["_law_e"] f fd):Zl1 P w K mg base 1 f fd ["_law_e"] (Zd3 K ad):=by
 refine F.F.okU Z6s (fun vs H Q E h=>?_) (fun cdv A outer s H vs Q E hr h=>?_)
 ·obtain⟨e,D,bs,rfl,_⟩:=h; rfl
 ·obtain⟨e,D,bs,rfl,he,hD,k⟩:=h
  refine⟨_,Z03 (Z0c (i:=1) Z6s.nd rfl (Or.inl rfl) (Z1y (Z00 (Z0a Z10 (by rfl) T.isin Z0x (Z00 (pv 0) (Z00 (Z1a (v:=.ref (ad 0)) (by rfl) C.m0 rfl) Z04))) (Z00 (Z0a Z10 (by rfl) T.isin Z0x (Z00 (pv 0) (Z00 (Z7x (v:=.ty "ValueError") (by rfl) C.m1 Z7l rfl) Z04))) (Z00 (Z0a Z10 (by rfl) T.isin Z0x (Z00 (pv 0) (Z00 (Z1a (v:=.ref (ad 2)) (by rfl) C.m2 rfl) Z04))) (Z00 (Z0a Z10 (by rfl) T.isin Z0x (Z00 (pv 0) (Z00 (Z1a (v:=.ref (ad 3)) (by rfl) C.m3 rfl) Z04))) Z04))))))
   (Z03 (Z0c (i:=1) Z6s.nd rfl (Or.inl rfl) (Z0l Zdn (pv 1) (Z1y (Z00 (Z0a Z10 (by rfl) T.isin Z0x (Z00 (pv 0) (Z00 (Z1a (v:=.ref (ad 4)) (by rfl) C.m4 rfl) Z04))) (Z00 (Z0a Z10 (by rfl) T.isin Z0x (Z00 (pv 0) (Z00 (Z1a (v:=.ref (ad 5)) (by rfl) C.m5 rfl) Z04))) (Z00 (Z0a Z10 (by rfl) T.isin Z0x (Z00 (pv 0) (Z00 (Z1a (v:=.ref (ad 6)) (by rfl) C.m6 rfl) Z04))) (Z00 (Z0a Z10 (by rfl) T.isin Z0x (Z00 (pv 0) (Z00 (Z1a (v:=.ref (ad 7)) (by rfl) C.m7 rfl) Z04))) Z04)))))))
   (Z03 (Z0c (i:=1) Z6s.nd rfl (Or.inl rfl) (Z0l Zdn (pv 1) (Z1y (Z00 (Z0a Z10 (by rfl) T.isin Z0x (Z00 (pv 0) (Z00 (Z1a (v:=.ref (ad 8)) (by rfl) C.m8 rfl) Z04))) (Z00 (Z0a Z10 (by rfl) T.isin Z0x (Z00 (pv 0) (Z00 (Z1a (v:=.ref (ad 9)) (by rfl) C.m9 rfl) Z04))) (Z00 (Z0a Z10 (by rfl) T.isin Z0x (Z00 (pv 0) (Z00 (Z1a (v:=.ref (ad 10)) (by rfl) C.m10 rfl) Z04))) Z04))))))
   (Z03 (Z0c (i:=1) Z6s.nd rfl (Or.inl rfl) (Z0l Zdn (pv 1) (Z1y (Z00 (Z0a Z10 (by rfl) T.isin Z0x (Z00 (pv 0) (Z00 (Z1a (v:=.ref (ad 11)) (by rfl) C.m11 rfl) Z04))) (Z00 (Z0a Z10 (by rfl) T.isin Z0x (Z00 (pv 0) (Z00 (Z1a (v:=.ref (ad 12)) (by rfl) C.m12 rfl) Z04))) (Z00 (Z0a Z10 (by rfl) T.isin Z0x (Z00 (pv 0) (Z00 (Z1a (v:=.ref (ad 13)) (by rfl) C.m13 rfl) Z04))) Z04))))))
   (Z07 (Z0o (Z0l Zdn (pv 1) (Z1y (Z00 (Z0a Z10 (by rfl) T.isin Z0x (Z00 (pv 0) (Z00 (Z1a (v:=.ref (ad 14)) (by rfl) C.m14 rfl) Z04))) (Z00 (Z0a Z10 (by rfl) T.isin Z0x (Z00 (pv 0) (Z00 (Z1a (v:=.ref (ad 15)) (by rfl) C.m15 rfl) Z04))) Z04))))))))),?_⟩
  refine isx rfl he hD.x rfl hD.k0 ?_
  refine isx rfl he hD.x rfl hD.k1 ?_
  refine isx rfl he hD.x rfl hD.k2 ?_
  refine isx rfl he hD.x rfl hD.k3 ?_
  refine⟨by show 4<=sizeLine; decide,fun a0 f0=>?_⟩
  have s0:Z0d H (upd H a0 (.lst [.bl (bs 0),.bl (bs 1),.bl (bs 2),.bl (bs 3)])):=Z02 (Z0d.refl H) f0
  have l0:(upd H a0 (.lst [.bl (bs 0),.bl (bs 1),.bl (bs 2),.bl (bs 3)])) a0=some (.lst [.bl (bs 0),.bl (bs 1),.bl (bs 2),.bl (bs 3)]):=Z01
  revert s0 l0
  generalize (upd H a0 (.lst [.bl (bs 0),.bl (bs 1),.bl (bs 2),.bl (bs 3)]))=H0
  intro s0 l0
  refine⟨_,rfl,?_⟩
  refine isx rfl (s0 _ _ he) hD.x rfl hD.k4 ?_
  refine isx rfl (s0 _ _ he) hD.x rfl hD.k5 ?_
  refine isx rfl (s0 _ _ he) hD.x rfl hD.k6 ?_
  refine isx rfl (s0 _ _ he) hD.x rfl hD.k7 ?_
  refine⟨by show 4<=sizeLine; decide,fun a1 f1=>?_⟩
  refine⟨a0,a1,_,_,rfl,rfl,by rw[Z05 (Z06 l0 f1)]; exact l0,Z01,by show 8<=sizeLine; decide,fun c1 g1=>?_⟩
  have s1:Z0d H (upd (upd H0 a1 (.lst [.bl (bs 4),.bl (bs 5),.bl (bs 6),.bl (bs 7)])) c1 (.lst ([.bl (bs 0),.bl (bs 1),.bl (bs 2),.bl (bs 3)]++[.bl (bs 4),.bl (bs 5),.bl (bs 6),.bl (bs 7)]))):=Z02 (Z02 s0 (s0.free f1)) ((Z02 s0 (s0.free f1) (o:=.lst [.bl (bs 4),.bl (bs 5),.bl (bs 6),.bl (bs 7)])).free g1)
  have l1:(upd (upd H0 a1 (.lst [.bl (bs 4),.bl (bs 5),.bl (bs 6),.bl (bs 7)])) c1 (.lst ([.bl (bs 0),.bl (bs 1),.bl (bs 2),.bl (bs 3)]++[.bl (bs 4),.bl (bs 5),.bl (bs 6),.bl (bs 7)]))) c1=some (.lst ([.bl (bs 0),.bl (bs 1),.bl (bs 2),.bl (bs 3)]++[.bl (bs 4),.bl (bs 5),.bl (bs 6),.bl (bs 7)])):=Z01
  revert s1 l1
  show Z0d H (upd (upd H0 a1 (.lst [.bl (bs 4),.bl (bs 5),.bl (bs 6),.bl (bs 7)])) c1 (.lst ([.bl (bs 0),.bl (bs 1),.bl (bs 2),.bl (bs 3)]++[.bl (bs 4),.bl (bs 5),.bl (bs 6),.bl (bs 7)])))->_->_
  generalize (upd (upd H0 a1 (.lst [.bl (bs 4),.bl (bs 5),.bl (bs 6),.bl (bs 7)])) c1 (.lst ([.bl (bs 0),.bl (bs 1),.bl (bs 2),.bl (bs 3)]++[.bl (bs 4),.bl (bs 5),.bl (bs 6),.bl (bs 7)])))=H1
  intro s1 l1
  refine⟨_,rfl,?_⟩
  refine isx rfl (s1 _ _ he) hD.x rfl hD.k8 ?_
  refine isx rfl (s1 _ _ he) hD.x rfl hD.k9 ?_
  refine isx rfl (s1 _ _ he) hD.x rfl hD.k10 ?_
  refine⟨by show 3<=sizeLine; decide,fun a2 f2=>?_⟩
  refine⟨c1,a2,_,_,rfl,rfl,by rw[Z05 (Z06 l1 f2)]; exact l1,Z01,by show 11<=sizeLine; decide,fun c2 g2=>?_⟩
  have s2:Z0d H (upd (upd H1 a2 (.lst [.bl (bs 8),.bl (bs 9),.bl (bs 10)])) c2 (.lst (([.bl (bs 0),.bl (bs 1),.bl (bs 2),.bl (bs 3)]++[.bl (bs 4),.bl (bs 5),.bl (bs 6),.bl (bs 7)])++[.bl (bs 8),.bl (bs 9),.bl (bs 10)]))):=Z02 (Z02 s1 (s1.free f2)) ((Z02 s1 (s1.free f2) (o:=.lst [.bl (bs 8),.bl (bs 9),.bl (bs 10)])).free g2)
  have l2:(upd (upd H1 a2 (.lst [.bl (bs 8),.bl (bs 9),.bl (bs 10)])) c2 (.lst (([.bl (bs 0),.bl (bs 1),.bl (bs 2),.bl (bs 3)]++[.bl (bs 4),.bl (bs 5),.bl (bs 6),.bl (bs 7)])++[.bl (bs 8),.bl (bs 9),.bl (bs 10)]))) c2=some (.lst (([.bl (bs 0),.bl (bs 1),.bl (bs 2),.bl (bs 3)]++[.bl (bs 4),.bl (bs 5),.bl (bs 6),.bl (bs 7)])++[.bl (bs 8),.bl (bs 9),.bl (bs 10)])):=Z01
  revert s2 l2
  show Z0d H (upd (upd H1 a2 (.lst [.bl (bs 8),.bl (bs 9),.bl (bs 10)])) c2 (.lst (([.bl (bs 0),.bl (bs 1),.bl (bs 2),.bl (bs 3)]++[.bl (bs 4),.bl (bs 5),.bl (bs 6),.bl (bs 7)])++[.bl (bs 8),.bl (bs 9),.bl (bs 10)])))->_->_
  generalize (upd (upd H1 a2 (.lst [.bl (bs 8),.bl (bs 9),.bl (bs 10)])) c2 (.lst (([.bl (bs 0),.bl (bs 1),.bl (bs 2),.bl (bs 3)]++[.bl (bs 4),.bl (bs 5),.bl (bs 6),.bl (bs 7)])++[.bl (bs 8),.bl (bs 9),.bl (bs 10)])))=H2
  intro s2 l2
  refine⟨_,rfl,?_⟩
  refine isx rfl (s2 _ _ he) hD.x rfl hD.k11 ?_
  refine isx rfl (s2 _ _ he) hD.x rfl hD.k12 ?_
  refine isx rfl (s2 _ _ he) hD.x rfl hD.k13 ?_
  refine⟨by show 3<=sizeLine; decide,fun a3 f3=>?_⟩
  refine⟨c2,a3,_,_,rfl,rfl,by rw[Z05 (Z06 l2 f3)]; exact l2,Z01,by show 14<=sizeLine; decide,fun c3 g3=>?_⟩
  have s3:Z0d H (upd (upd H2 a3 (.lst [.bl (bs 11),.bl (bs 12),.bl (bs 13)])) c3 (.lst ((([.bl (bs 0),.bl (bs 1),.bl (bs 2),.bl (bs 3)]++[.bl (bs 4),.bl (bs 5),.bl (bs 6),.bl (bs 7)])++[.bl (bs 8),.bl (bs 9),.bl (bs 10)])++[.bl (bs 11),.bl (bs 12),.bl (bs 13)]))):=Z02 (Z02 s2 (s2.free f3)) ((Z02 s2 (s2.free f3) (o:=.lst [.bl (bs 11),.bl (bs 12),.bl (bs 13)])).free g3)
  have l3:(upd (upd H2 a3 (.lst [.bl (bs 11),.bl (bs 12),.bl (bs 13)])) c3 (.lst ((([.bl (bs 0),.bl (bs 1),.bl (bs 2),.bl (bs 3)]++[.bl (bs 4),.bl (bs 5),.bl (bs 6),.bl (bs 7)])++[.bl (bs 8),.bl (bs 9),.bl (bs 10)])++[.bl (bs 11),.bl (bs 12),.bl (bs 13)]))) c3=some (.lst ((([.bl (bs 0),.bl (bs 1),.bl (bs 2),.bl (bs 3)]++[.bl (bs 4),.bl (bs 5),.bl (bs 6),.bl (bs 7)])++[.bl (bs 8),.bl (bs 9),.bl (bs 10)])++[.bl (bs 11),.bl (bs 12),.bl (bs 13)])):=Z01
  revert s3 l3
  show Z0d H (upd (upd H2 a3 (.lst [.bl (bs 11),.bl (bs 12),.bl (bs 13)])) c3 (.lst ((([.bl (bs 0),.bl (bs 1),.bl (bs 2),.bl (bs 3)]++[.bl (bs 4),.bl (bs 5),.bl (bs 6),.bl (bs 7)])++[.bl (bs 8),.bl (bs 9),.bl (bs 10)])++[.bl (bs 11),.bl (bs 12),.bl (bs 13)])))->_->_
  generalize (upd (upd H2 a3 (.lst [.bl (bs 11),.bl (bs 12),.bl (bs 13)])) c3 (.lst ((([.bl (bs 0),.bl (bs 1),.bl (bs 2),.bl (bs 3)]++[.bl (bs 4),.bl (bs 5),.bl (bs 6),.bl (bs 7)])++[.bl (bs 8),.bl (bs 9),.bl (bs 10)])++[.bl (bs 11),.bl (bs 12),.bl (bs 13)])))=H3
  intro s3 l3
  refine⟨_,rfl,?_⟩
  refine isx rfl (s3 _ _ he) hD.x rfl hD.k14 ?_
  refine isx rfl (s3 _ _ he) hD.x rfl hD.k15 ?_
  refine⟨by show 2<=sizeLine; decide,fun a4 f4=>?_⟩
  refine⟨c3,a4,_,_,rfl,rfl,by rw[Z05 (Z06 l3 f4)]; exact l3,Z01,by show 16<=sizeLine; decide,fun c4 g4=>?_⟩
  have s4:Z0d H (upd (upd H3 a4 (.lst [.bl (bs 14),.bl (bs 15)])) c4 (.lst (((([.bl (bs 0),.bl (bs 1),.bl (bs 2),.bl (bs 3)]++[.bl (bs 4),.bl (bs 5),.bl (bs 6),.bl (bs 7)])++[.bl (bs 8),.bl (bs 9),.bl (bs 10)])++[.bl (bs 11),.bl (bs 12),.bl (bs 13)])++[.bl (bs 14),.bl (bs 15)]))):=Z02 (Z02 s3 (s3.free f4)) ((Z02 s3 (s3.free f4) (o:=.lst [.bl (bs 14),.bl (bs 15)])).free g4)
  exact k _ c4 s4 Z01
end
def bk (k i:Nat):Bool:=i == 0 || i == 1 || i == k
def md (k:Nat):List PyData:=(Y04 16).map fun i=>.bool (bk k i)
theorem Zly {K:Y01}{H:Hp}:∀ (bs:List Bool),Z5s K H (bs.map V.bl) (bs.map PyData.bool)
 | []=>.nil
 | b :: bs=>.cons (.bl b) (Zly bs)
theorem Zm2 {K:Y01}{H:Hp}{p:Addr}{k:Nat}(h:H p=some (.lst (mks (bk k)))):Dt K H (.ref p) (.list (md k)):=by
 refine .lst (SqL.of h) ?_
 have:=Zly (K:=K) (H:=H) ((Y04 16).map (bk k))
 rw[Y0y,Y0y]at this
 exact this
theorem Zsb:∀ k∈([4]:List Nat),(PyData.list (md k)).canLay0=true/\(PyData.list (md k)).depth<=64/\PyData.eqv (.list (md k)) (.list (md k))=true:=by decide +kernel
theorem Ztc:∀ k∈([4]:List Nat),∀ i∈Y04 16,inV (.int (0+(i:Int))) [.int 0,.int 1,.int (k:Int)]=bk k i:=by decide +kernel
def tMks (K:Y01)(ad:Nat->Addr)(A:Around)(e:Addr)(k:Int):TS:=
 Zbn (tOp (Zsj K A false) (Z2p (Zd3 K ad) [] E0 (Z0w (Z1w 3) Z2t)) (Zm6 e (Zg0 (Z0w (tC (.int 16)) Z2t)) 1 [] (Z25 0) (tOp (rIn K false) (Z1w 0) (Zpc (Z0w (tC (.int 0)) (Z0w (tC (.int 1)) (Z0w (tC (.int k)) Z2t))))))) (Z25 2)
theorem Zko {K:Y01}{ad:Nat->Addr}{A:Around}{e D:Addr}{k:Nat}{Dn:Z85}{σ:St}{H:Hp}(hk:k∈([4]:List Nat))(hu:A.units+64 < cLine)(he:H e=some (exO e (.ref D) none))(hD:XD K ad D (bk k))(h5:σ[3]?=some (some (.ref e)))(hb:bst 1 [] σ=[none])
  (q:∀ (H':Hp),Z0d H H'->Dn.nx (σ.set 2 (some (.bl true))) H'):tMks K ad A e (k:Int) Dn σ H:=by
 refine⟨_,h5,e,D,bk k,rfl,he,hD,fun H1 p s1 hp=>?_⟩
 refine⟨16,rfl,by decide,by decide,fun d hd=>?_⟩
 rw[hb]
 have hpd:p≠d:=Z06 hp hd
 refine Z2z (J:=Itr 0 (Int.toNat 16)) (g:=Z25 0) (te:=tOp (rIn K false) (Z1w 0) (Zpc (Z0w (tC (.int 0)) (Z0w (tC (.int 1)) (Z0w (tC (.int (k:Int))) Z2t))))) (Q:=fun d H'=>(∃ C de,H' e=some (exO e C de))/\Zsj K A false (.ref p) (.ref d) H' fun x H1=>Dn.nx (σ.set 2 (some x)) H1) 16 (mks (bk k)) rfl (fun i σ H3=>∃ o,σ=[o]/\Z0d H1 H3) ⟨_,rfl,Z02 (Z0d.refl _) hd⟩ ?_ ?_
 ·rintro i σ H3 hi ⟨o,rfl,s3⟩ hd3
  refine⟨hi,fun x H4 ⟨e1,e2⟩=>?_⟩
  subst e1 e2
  refine⟨_,rfl,by show 3<=sizeLine; decide,fun t ht=>?_⟩
  refine⟨t,_,rfl,.inr (SqT.of Z01),rfl,rfl,?_⟩
  have hdt:d≠t:=Z06 hd3 ht
  rw[if_neg (by decide),Ztc k hk i (Y08.mpr hi)]
  refine Z70 hi (by decide) (by rw[Z05 hdt]; exact hd3) ?_ ⟨_,rfl,Z02 (Z02 s3 (s3.free ht)) hd⟩
  show (mks (bk k))[i]?=_
  unfold mks
  rw[Y0e,Y1b hi]; rfl
 ·rintro σ' H3 ⟨o,rfl,s3⟩ hd3
  obtain⟨l1,l2,l3⟩:=Zsb k hk
  refine⟨Y06 _,⟨_,_,s3 _ _ (s1 _ _ he)⟩,.list (md k),.list (md k),Zm2 (s3 _ _ hp),Zm2 hd3,l1,l1,Y2a (Nat.add_le_add_left (Y17 (Nat.min_le_left _ _) l2) _) hu,?_⟩
  rw[if_neg (by decide),l3]
  exact q _ (s1.trans s3)
structure XA92 (K:Y01)(mg:Str->Option Value)(ad:Nat->Addr):Prop where
 M:XM K mg ad
 hD:Zli K (ad 4)
 dD:XD K ad (ad 4) (bk 4)
 dd:Y0m K (.ref (ad 4)) (.ref (ad 4))=some true
def Zmo:Sp:=fun vs H Q _=>∃ (pl:Addr) (X:List (List Nat)),vs=[.ref pl]/\H pl=some (.lst (tvs X))/\X.length<=100/\(∀ z∈X,z.length<=600/\∀ c∈z,c < 0x110000)/\
 (∀ n r u,Z91 X n r u->∀ (H':Hp) (t a:Addr),Z0d H H'->H' t=some (.tup [.ref a,.bl false])->Z7e H' a r u->Q (.ref t) H')/\((∀ n r u,¬ Z91 X n r u)->∀ (H':Hp) (t:Addr),Z0d H H'->H' t=some (.tup [.non,.bl true])->Q (.ref t) H')
section
variable {P:Program}{w:World}{K:Y01}{mg:Str->Option Value}{base:Heap}
abbrev Zmy:List Str:=["_law_texts","_law_found","_law_refused","_law_e"]
theorem Z5v:Z0n Zmy ["_law_texts"] (Z08 Z5f):=⟨rfl,rfl,rfl,by decide +kernel,rfl,by decide +kernel,by decide +kernel⟩
theorem Ztn:(["_law_k"]:List Str).Nodup:=by decide +kernel
set_option maxHeartbeats 2000000 in
theorem Zno {f fg fm:Addr}{fd fdg fdm:FuncData}{ad:Nat->Addr}(T:Bi mg)(C:XA92 K mg ad)(F:Fn K mg "_law_asked" Z5f ["_law_texts"] f fd)
  (FG:Fn K mg "seen" Zda ["rows"] fg fdg) (GG:Z13 P w K mg base (CX1 P w) 7 fg fdg ["rows"] (Zht (ad 4)))
  (FM:Fn K mg "_law_marks" Zbj ["_law_e"] fm fdm) (GM:Zl1 P w K mg base 1 fm fdm ["_law_e"] (Zd3 K ad)):Z13 P w K mg base CX0 8 f fd ["_law_texts"] Zmo:=by
 refine F.F.ok Z5v (fun vs H Q E h=>?_) (fun cdv A outer s H vs Q E hr h=>?_)
 ·obtain⟨pl,X,rfl,_⟩:=h; rfl
 ·obtain⟨pl,X,rfl,hpl,hX,hX2,k1,k2⟩:=h
  have hrU:∀ o,Z4q 1 ((A.deeper (PyProof.Rows.envOfC "_law_asked" (Z08 Z5f) s.heap.objs.size f cdv)).mark o):=fun o=>(hr.u.mono (by decide)).mark o
  have hu64:∀ o:Option Value,((A.deeper (PyProof.Rows.envOfC "_law_asked" (Z08 Z5f) s.heap.objs.size f cdv)).mark o).units+64 < cLine:=fun o=>hr.units
  refine⟨_,Z03 (Z0c (i:=1) Z5v.nd rfl (Or.inl rfl) Z2u)
   (Z03 (Z0c (i:=2) Z5v.nd rfl (Or.inl rfl) Zaf)
   (Z03 (Zhr (tb:=fun E'=>Zbn (Z2p (Zht (ad 4)) [] E' (Z0w (Z1w 0) Z2t)) (Z25 1)) rfl rfl
    (fun E' σ' pn W hx=>Znv (i:=1) Z5v.nd rfl (Or.inl rfl) (Z97 GG hr rfl FG.m FG.F.kp FG.b .nil hx (Z00 (pv 0) Z04)))
    (Ztu (j:=3) (ts:=fun e=>tMks K ad ((A.deeper (PyProof.Rows.envOfC "_law_asked" (Z08 Z5f) s.heap.objs.size f cdv)).mark (some (.ref e))) e 4) rfl C.hD rfl C.M.m4 Z5v.nd rfl rfl
     (fun pn e=>Z07 (Z0c (i:=2) Z5v.nd rfl (Or.inl rfl) (Z6t Zsa (Zl8 GM (hrU _) rfl FM.m FM.F.kp FM.b .nil (Z00 (pv 3) Z04))
      (Zku (eh:=e) (N:=Zmy) (names:=(Z08 Z5f).names) (N':=["_law_k"]) (k:=1) (pull:=[]) (te:=tOp (rIn K false) (Z1w 0) (Zpc (Z0w (tC (.int 0)) (Z0w (tC (.int 1)) (Z0w (tC (.int 4)) Z2t))))) rfl
       ⟨by rfl,by decide +kernel,by decide +kernel,by rfl,by decide +kernel,by decide +kernel⟩ rfl rfl rfl T.range (Z00 Z09 Z04) (fun _ _ _ _ _ _=>Z0i (i:=0) Ztn rfl (Or.inl rfl))
       (fun _ _ _ _ _ _=>Z6t Zgz (pv 0) (Z3h (Z00 Z09 (Z00 Z09 (Z00 Z09 Z04)))) (by with_unfolding_all rfl))) (Z0r _))))
    Zm5))
   (Z07 (Z0o (Z3h (Z00 (pv 1) (Z00 (pv 2) Z04))))))),?_⟩
  refine⟨fun C' d H'=>(∀ n r u,¬ Z91 X n r u)/\C'=.ref (ad 4)/\d=none/\Z0d H H',?_,?_⟩
  ·refine⟨_,rfl,pl,X,rfl,hpl,hX,hX2,fun n r u d H' a s' ha=>?_,fun hn H' s'=>⟨hn,rfl,rfl,s'⟩⟩
   refine⟨_,rfl,_,rfl,by show 2<=sizeLine; decide,fun t ht=>?_⟩
   have s2:=Z02 (o:=.tup [.ref a,.bl false]) (Z0d.refl H') ht
   exact k1 n r u d _ t a (s'.trans s2) Z01 (ha.same s2)
  ·rintro C' d H' ⟨hn,rfl,rfl,sh⟩
   refine⟨true,C.dd,?_⟩
   refine Z2m ?_
   intro e he
   refine Zko (k:=4) (by decide) (hu64 _) Z01 C.dD rfl rfl fun H2 s2=>?_
   refine⟨_,rfl,_,rfl,by show 2<=sizeLine; decide,fun t ht=>?_⟩
   have s3:Z0d H H2:=sh.trans ((Z02 (Z0d.refl _) he).trans s2)
   exact k2 hn _ t (Z02 s3 (s3.free ht)) Z01
end
end K1
namespace L2
open PySem PySem.Spec PyProof.Rows
section
variable {X:Cx}
end
section
variable {P:Program}{w:World}{K:Y01}{mg:Str->Option Value}{base:Heap}
end
theorem Z1q {c:Prop}[Decidable c]{A:Prop}{N:St->Hp->Prop}{σ:St}{H:Hp}(Pv:St->Hp->Prop)(h0:¬ c->Pv σ H)(hr:∀ σ H,Pv σ H->N σ H)(hA:(∀ σ H,Pv σ H->N σ H)->c->A):if c then A else N σ H:=by
 by_cases h:c
 ·rw[if_pos h]; exact hA hr h
 ·rw[if_neg h]; exact hr _ _ (h0 h)
end L2
namespace K1
open PySem L2 Sq
def Zft (b:Nat)(X:List (List Nat)):Prop:=∀ z∈X,1<=z.length/\z.length<=b/\∀ c∈z,c < 0x110000
theorem Z31 {n i:Nat}(h:i < n):ixN n (i:Int)=some i:=by
 unfold ixN
 rw[if_pos (by omega),if_pos (by omega)]; rfl
def Zmc (K:Y01):Sp:=fun vs H Q _=>∃ (pl:Addr) (κ c:Int) (X:List (List Nat)) (m:Nat),vs=[.ref pl,.int κ,.int c]/\H pl=some (.lst (tvs X))/\X.length=2 * m/\1<=m/\m<=36/\Zft 80 X/\∀ (H':Hp) (l:Addr) (Y:List (List Nat)),Z0d H H'->H' l=some (.lst (tvs Y))->Y.length=X.length->Zft 170 Y->Q (.ref l) H'
section
variable {P:Program}{w:World}{K:Y01}{mg:Str->Option Value}{base:Heap}
abbrev Zqw:List Str:=["_law_texts","_law_kind","_law_cell_here","_law_told","_law_many","_law_at","_law_other"]
theorem Z7y:Z0n Zqw ["_law_texts","_law_kind","_law_cell_here"] (Z08 Z2h):=⟨rfl,rfl,rfl,by decide +kernel,rfl,by decide +kernel,by decide +kernel⟩
set_option maxHeartbeats 2000000 in
theorem Zn6 {f:Addr}{fd:FuncData}(T:Bi mg)(F:Fn K mg "_law_row_changed" Z2h ["_law_texts","_law_kind","_law_cell_here"] f fd):Z13 P w K mg base CX0 1 f fd ["_law_texts","_law_kind","_law_cell_here"] (Zmc K):=by
 refine F.F.ok Z7y (fun vs H Q E h=>?_) (fun cdv A outer s H vs Q E hr h=>?_)
 ·obtain⟨pl,κ,c,X,m,rfl,_⟩:=h; rfl
 ·obtain⟨pl,κ,c,X,m,rfl,hpl,hm,hm1,hm36,hX,k⟩:=h
  refine⟨_,(Z03 (Z0c (i:=3) Z7y.nd rfl (Or.inl rfl) (Z0q Z2l rfl T.list Z1r (Z00 (pv 0) Z04)))
   (Z03 (Z0c (i:=4) Z7y.nd rfl (Or.inl rfl) (Z0l Z2a (Z0a Z0b rfl T.len PySem.boot_len (Z00 (pv 3) Z04)) Z09))
   (Z03 (Z0c (i:=5) Z7y.nd rfl (Or.inl rfl) (Z0l Z7m Z09 (Z0l Z1e (pv 2) (pv 4))))
   (Z03 (Z0c (i:=6) Z7y.nd rfl (Or.inl rfl) (Z0l Z7m Z09 (Z0l Z1e (Z0l Z2a (pv 2) Z09) (pv 4))))
   (Z03 (Z1f (Z0m Z3j (pv 1) Z09 (Z0r _)) (Z03 (Zew (Z3h (Z00 (Z0t Z0v (pv 3) (pv 6) (fun _ _=>rfl)) (Z00 (Z0t Z0v (pv 3) (pv 5) (fun _ _=>rfl)) Z04))) (Zej rfl (Z0s (Z9b (pv 3) (pv 5)) (Z0s (Z9b (pv 3) (pv 6)) Z26))))
   (Z07 (Zew (Z3h (Z00 (Z0t Z0v (pv 3) (Z0l Z1d (pv 6) Z09) (fun _ _=>rfl)) (Z00 (Z0t Z0v (pv 3) (Z0l Z1d (pv 5) Z09) (fun _ _=>rfl)) Z04))) (Zej rfl (Z0s (Z9b (pv 3) (Z0l Z1d (pv 5) Z09)) (Z0s (Z9b (pv 3) (Z0l Z1d (pv 6) Z09)) Z26)))))) Z0p)
   (Z03 (Z1f (Z0m Z3j (pv 1) Z09 (Z0r _)) (Z03 (Z3o (pv 3) (pv 5) (Z0l Z0u (Z0l Z0u (Z20 Z4a (Z0t Z0v (pv 3) (pv 5) (fun _ _=>rfl)) (Z1i Z09) Z32) (Z20 Z4a (Z20 Z4a (Z0t Z0v (pv 3) (pv 5) (fun _ _=>rfl)) (Z1i Z09) (Z1i Z09)) Z32 (Z1i Z09))) Z1b) rfl)
   (Z07 (Z3o (pv 3) (Z0l Z1d (pv 5) Z09) (Z0l Z0u (Z0l Z0u (Z20 Z4a (Z0t Z0v (pv 3) (Z0l Z1d (pv 5) Z09) (fun _ _=>rfl)) (Z1i Z09) Z32) (Z20 Z4a (Z0t Z0v (pv 3) (Z0l Z1d (pv 5) Z09) (fun _ _=>rfl)) (Z1i Z09) (Z1i Z09))) Z1b) rfl))) Z0p)
   (Z07 (Z0o (pv 3))))))))),?_⟩
  have big:1000<=sizeLine:=by decide
  have two:2<=sizeLine:=by decide
  have tl:∀ zs:List (List Nat),(tvs zs).length=zs.length:=fun zs=>by simp[tvs]
  refine⟨_,rfl,pl,_,rfl,.inl (SqL.of hpl),fun l hl=>?_⟩
  have s1:=Z02 (o:=.lst (tvs X)) (Z0d.refl H) hl
  have e1:(upd H l (.lst (tvs X))) l=some (.lst (tvs X)):=Z01
  generalize upd H l (.lst (tvs X))=H1 at s1 e1
  have em:((X.length:Int) / 2)=(m:Int):=by omega
  refine⟨_,rfl,l,_,rfl,.inl (SqL.of e1),_,_,rfl,rfl,⟨by decide,by decide⟩,?_⟩
  rw[tl]
  dsimp only
  rw[em]
  have hp:(0:Int) < (m:Int):=by omega
  obtain⟨a,ha⟩:∃ a:Nat,c % (m:Int)=(a:Int):=⟨(c % (m:Int)).toNat,(Int.toNat_of_nonneg (Int.emod_nonneg _ (by omega))).symm⟩
  have ham:a < m:=by have:=Int.emod_lt_of_pos c hp; omega
  obtain⟨b,hb⟩:∃ b:Nat,c / 36 % (m:Int)=(b:Int):=⟨(c / 36 % (m:Int)).toNat,(Int.toNat_of_nonneg (Int.emod_nonneg _ (by omega))).symm⟩
  have hbm:b < m:=by have:=Int.emod_lt_of_pos (c / 36) hp; omega
  have cm:∀ x:Nat,x < m->Zq6 2 (x:Int):=fun x hx=>.inl ⟨by omega,by omega⟩
  refine⟨_,rfl,_,rfl,_,_,rfl,rfl,hp,?_⟩
  dsimp only
  rw[ha]
  refine⟨_,_,rfl,rfl,cm a ham,?_⟩
  refine⟨_,rfl,_,_,rfl,rfl,⟨by decide,by decide⟩,_,rfl,_,_,rfl,rfl,hp,?_⟩
  dsimp only
  rw[hb]
  refine⟨_,_,rfl,rfl,cm b hbm,?_⟩
  have ea:(2:Int) * (a:Int)=((2 * a:Nat):Int):=by omega
  have eb:(2:Int) * (b:Int)=((2 * b:Nat):Int):=by omega
  have ea1:(2:Int) * (a:Int)+1=((2 * a+1:Nat):Int):=by omega
  have eb1:(2:Int) * (b:Int)+1=((2 * b+1:Nat):Int):=by omega
  dsimp only
  refine⟨_,rfl,rfl,_,rfl,?_⟩
  have tget:∀ {Y:List (List Nat)} {i:Nat} {z:List Nat},Y[i]?=some z->(tvs Y)[i]?=some (.str (txt z)):=fun {Y i z} h=>by unfold tvs; rw[Y0e,h]; rfl
  have tset:∀ (Y:List (List Nat)) (i:Nat) (z:List Nat),(tvs Y).set i (.str (txt z))=tvs (Y.set i z):=fun Y i z=>by unfold tvs; rw[List.map_set]
  have ok2:∀ {Y:List (List Nat)} {i:Nat} {z:List Nat},Zft 170 Y->(1<=z.length/\z.length<=170/\∀ c∈z,c < 0x110000)->Zft 170 (Y.set i z):=fun {Y i z} h1 h2 y hy=>by
   rcases List.mem_or_eq_of_mem_set hy with q | q
   ·exact h1 y q
   ·rw[q]; exact h2
  have ok8:∀ {Y:List (List Nat)} {i:Nat} {z:List Nat},Zft 80 Y->(1<=z.length/\z.length<=80/\∀ c∈z,c < 0x110000)->Zft 80 (Y.set i z):=fun {Y i z} h1 h2 y hy=>by
   rcases List.mem_or_eq_of_mem_set hy with q | q
   ·exact h1 y q
   ·rw[q]; exact h2
  refine Z1q (fun σ H2=>∃ Y,σ=[some (.ref pl),some (.int κ),some (.int c),some (.ref l),some (.int (m:Int)),some (.int (2 * (a:Int))),some (.int (2 * (b:Int)))]/\Z0d H H2/\H2 l=some (.lst (tvs Y))/\Y.length=X.length/\Zft 80 Y) (fun _=>⟨X,rfl,s1,e1,rfl,hX⟩) ?_ (fun rest _=>?_)
  rotate_left
  ·skip
   obtain⟨za1,hza1⟩:∃ z,X[2 * a]?=some z:=⟨_,Y00 (by skip; omega)⟩
   obtain⟨zb1,hzb1⟩:∃ z,X[2 * b]?=some z:=⟨_,Y00 (by skip; omega)⟩
   refine⟨_,rfl,_,rfl,l,_,((2 * b:Nat):Int),_,rfl,congrArg V.int eb,SqL.of e1,Z0f (tget hzb1),?_⟩
   refine⟨_,rfl,_,rfl,l,_,((2 * a:Nat):Int),_,rfl,congrArg V.int ea,SqL.of e1,Z0f (tget hza1),two,fun t1 ht1=>?_⟩
   have st1:=Z02 (o:=.tup [.str (txt zb1),.str (txt za1)]) (Z0d.refl H1) ht1
   have et1:(upd H1 t1 (.tup [.str (txt zb1),.str (txt za1)])) t1=some (.tup [.str (txt zb1),.str (txt za1)]):=Z01
   generalize upd H1 t1 (.tup [.str (txt zb1),.str (txt za1)])=Ht1 at st1 et1
   refine⟨t1,_,rfl,SqT.of et1,rfl,_,_,rfl,_,rfl,_,rfl,l,_,((2 * a:Nat):Int),2 * a,rfl,congrArg V.int ea,st1 _ _ e1,by rw[tl]; exact Z31 (by skip; omega),?_⟩
   rw[tset]
   refine⟨_,_,rfl,_,rfl,_,rfl,l,_,((2 * b:Nat):Int),2 * b,rfl,congrArg V.int eb,Z01,by rw[tl,Y19]; exact Z31 (by skip; omega),rfl,?_⟩
   rw[tset]
   have s3:Z0d H (upd (upd Ht1 l (.lst (tvs (X.set (2 * a) zb1)))) l (.lst (tvs ((X.set (2 * a) zb1).set (2 * b) za1)))):=Z02 (Z02 (s1.trans st1) hl) hl
   have e3:(upd (upd Ht1 l (.lst (tvs (X.set (2 * a) zb1)))) l (.lst (tvs ((X.set (2 * a) zb1).set (2 * b) za1)))) l=some (.lst (tvs ((X.set (2 * a) zb1).set (2 * b) za1))):=Z01
   have l3:((X.set (2 * a) zb1).set (2 * b) za1).length=X.length:=by rw[Y19,Y19]
   have ok3:Zft 80 ((X.set (2 * a) zb1).set (2 * b) za1):=ok8 (ok8 hX (hX _ (Y0a hzb1))) (hX _ (Y0a hza1))
   revert s3 e3 l3 ok3
   generalize (upd (upd Ht1 l (.lst (tvs (X.set (2 * a) zb1)))) l (.lst (tvs ((X.set (2 * a) zb1).set (2 * b) za1))))=H3
   generalize ((X.set (2 * a) zb1).set (2 * b) za1)=Z
   intro s3 e3 l3 ok3
   obtain⟨za2,hza2⟩:∃ z,Z[2 * a+1]?=some z:=⟨_,Y00 (by rw[l3]; omega)⟩
   obtain⟨zb2,hzb2⟩:∃ z,Z[2 * b+1]?=some z:=⟨_,Y00 (by rw[l3]; omega)⟩
   refine⟨_,rfl,_,rfl,_,_,rfl,rfl,l,_,((2 * b+1:Nat):Int),_,rfl,congrArg V.int eb1,SqL.of e3,Z0f (tget hzb2),?_⟩
   refine⟨_,rfl,_,rfl,_,_,rfl,rfl,l,_,((2 * a+1:Nat):Int),_,rfl,congrArg V.int ea1,SqL.of e3,Z0f (tget hza2),two,fun t2 ht2=>?_⟩
   have st2:=Z02 (o:=.tup [.str (txt zb2),.str (txt za2)]) (Z0d.refl H3) ht2
   have et2:(upd H3 t2 (.tup [.str (txt zb2),.str (txt za2)])) t2=some (.tup [.str (txt zb2),.str (txt za2)]):=Z01
   generalize upd H3 t2 (.tup [.str (txt zb2),.str (txt za2)])=Ht2 at st2 et2
   refine⟨t2,_,rfl,SqT.of et2,rfl,_,_,rfl,_,rfl,_,rfl,_,_,rfl,rfl,l,_,((2 * a+1:Nat):Int),2 * a+1,rfl,congrArg V.int ea1,st2 _ _ e3,by rw[tl]; exact Z31 (by rw[l3]; omega),?_⟩
   rw[tset]
   refine⟨_,_,rfl,_,rfl,_,rfl,_,_,rfl,rfl,l,_,((2 * b+1:Nat):Int),2 * b+1,rfl,congrArg V.int eb1,Z01,by rw[tl,Y19]; exact Z31 (by rw[l3]; omega),rfl,?_⟩
   rw[tset]
   refine rest _ _ ⟨(Z.set (2 * a+1) zb2).set (2 * b+1) za2,rfl,Z02 (Z02 (s3.trans st2) hl) hl,Z01,by rw[Y19,Y19,l3],ok8 (ok8 ok3 (ok3 _ (Y0a hzb2))) (ok3 _ (Y0a hza2))⟩
  rintro σ H2 ⟨Y,rfl,s2,e2,hYl,hY⟩
  refine⟨_,rfl,rfl,_,rfl,?_⟩
  refine Z1q (fun σ H3=>∃ Y,σ=[some (.ref pl),some (.int κ),some (.int c),some (.ref l),some (.int (m:Int)),some (.int (2 * (a:Int))),some (.int (2 * (b:Int)))]/\Z0d H H3/\H3 l=some (.lst (tvs Y))/\Y.length=X.length/\Zft 170 Y) (fun _=>⟨Y,rfl,s2,e2,hYl,fun z hz=>⟨(hY z hz).1,by have:=(hY z hz).2.1; omega,(hY z hz).2.2⟩⟩) ?_ (fun rest _=>?_)
  ·rintro σ H3 ⟨Y,rfl,s3,e3,hYl,hY⟩
   exact⟨_,rfl,k H3 l Y s3 e3 hYl hY⟩
  have hY170:Zft 170 Y:=fun z hz=>⟨(hY z hz).1,by have:=(hY z hz).2.1; omega,(hY z hz).2.2⟩
  obtain⟨za,hza⟩:∃ z,Y[2 * a]?=some z:=⟨_,Y00 (by rw[hYl]; omega)⟩
  obtain⟨zc,hzc⟩:∃ z,Y[2 * a+1]?=some z:=⟨_,Y00 (by rw[hYl]; omega)⟩
  obtain⟨q1,q2,q3⟩:=hY za (Y0a hza)
  obtain⟨p1,p2,p3⟩:=hY zc (Y0a hzc)
  obtain⟨y1,ey1,ly1,my1⟩:=Z2i za (some 2) none
  obtain⟨y2,ey2,ly2,my2⟩:=Z2i za (some 1) (some 3)
  obtain⟨y3,ey3,ly3,my3⟩:=Z2i y2 none (some 1)
  obtain⟨y4,ey4,ly4,my4⟩:=Z2i zc (some 2) none
  obtain⟨y5,ey5,ly5,my5⟩:=Z2i zc (some 1) (some 2)
  refine⟨_,rfl,_,rfl,l,_,((2 * a:Nat):Int),_,rfl,congrArg V.int ea,SqL.of e2,Z0f (tget hza),_,rfl,txt za,rfl,by rw[ey1,Z0e]; omega,?_⟩
  rw[ey1]
  refine⟨_,rfl,_,rfl,l,_,((2 * a:Nat):Int),_,rfl,congrArg V.int ea,SqL.of e2,Z0f (tget hza),_,rfl,_,rfl,txt za,rfl,by rw[ey2,Z0e]; omega,?_⟩
  rw[ey2]
  refine⟨_,rfl,txt y2,rfl,by rw[ey3,Z0e]; omega,?_⟩
  rw[ey3]
  refine⟨_,_,rfl,rfl,by rw[Z0e,Z0e]; omega,?_⟩
  rw[Z1j]
  refine⟨_,_,rfl,rfl,by rw[Z3d,Z0e,Z0e,Y07]; show _+1<=_; omega,?_⟩
  rw[Z3d,Z1j]
  refine⟨_,rfl,_,rfl,l,_,((2 * a:Nat):Int),2 * a,rfl,congrArg V.int ea,e2,by rw[tl]; exact Z31 (by rw[hYl]; omega),?_⟩
  rw[tset]
  have s4:Z0d H (upd H2 l (.lst (tvs (Y.set (2 * a) (y1++y3++[32]))))):=Z02 s2 hl
  have e4:(upd H2 l (.lst (tvs (Y.set (2 * a) (y1++y3++[32]))))) l=some (.lst (tvs (Y.set (2 * a) (y1++y3++[32])))):=Z01
  have l4:(Y.set (2 * a) (y1++y3++[32])).length=X.length:=by rw[Y19,hYl]
  have ok4:Zft 170 (Y.set (2 * a) (y1++y3++[32])):=ok2 hY170 ⟨by rw[Y07]; show 1<=_+1; omega,by rw[Y07,Y07]; show _+_+1<=_; omega,fun c hc=>by
   rcases Y0n.mp hc with q | q
   ·rcases Y0n.mp q with q | q
    ·exact q3 c (my1 c q)
    ·exact q3 c (my2 c (my3 c q))
   ·rw[Y0g.mp q]; decide⟩
  have g4:(Y.set (2 * a) (y1++y3++[32]))[2 * a+1]?=some zc:=by rw[Y2d (by omega)]; exact hzc
  revert s4 e4 l4 ok4 g4
  generalize (upd H2 l (.lst (tvs (Y.set (2 * a) (y1++y3++[32])))))=H4
  generalize (Y.set (2 * a) (y1++y3++[32]))=Z
  intro s4 e4 l4 ok4 g4
  refine⟨_,rfl,_,rfl,_,_,rfl,rfl,l,_,((2 * a+1:Nat):Int),_,rfl,congrArg V.int ea1,SqL.of e4,Z0f (tget g4),_,rfl,txt zc,rfl,by rw[ey4,Z0e]; omega,?_⟩
  rw[ey4]
  refine⟨_,rfl,_,rfl,_,_,rfl,rfl,l,_,((2 * a+1:Nat):Int),_,rfl,congrArg V.int ea1,SqL.of e4,Z0f (tget g4),_,rfl,_,rfl,txt zc,rfl,by rw[ey5,Z0e]; omega,?_⟩
  rw[ey5]
  refine⟨_,_,rfl,rfl,by rw[Z0e,Z0e]; omega,?_⟩
  rw[Z1j]
  refine⟨_,_,rfl,rfl,by rw[Z5h,Z0e,Z0e,Y07]; show _+1<=_; omega,?_⟩
  rw[Z5h,Z1j]
  refine⟨_,rfl,_,rfl,_,_,rfl,rfl,l,_,((2 * a+1:Nat):Int),2 * a+1,rfl,congrArg V.int ea1,e4,by rw[tl]; exact Z31 (by rw[l4]; omega),?_⟩
  rw[tset]
  exact rest _ _ ⟨_,rfl,Z02 s4 hl,Z01,by rw[Y19,l4],ok2 ok4 ⟨by rw[Y07]; show 1<=_+1; omega,by rw[Y07,Y07]; show _+_+1<=_; omega,fun c hc=>by
   rcases Y0n.mp hc with q | q
   ·rcases Y0n.mp q with q | q
    ·exact p3 c (my4 c q)
    ·exact p3 c (my5 c q)
   ·rw[Y0g.mp q]; decide⟩⟩
end
def Zmr:Sp:=fun vs H Q _=>∃ c:Int,vs=[.int c]/\∀ d:Nat,d < 0x110000->Q (.str (txt [d])) H
section
variable {P:Program}{w:World}{K:Y01}{mg:Str->Option Value}{base:Heap}
abbrev Zq9:List Str:=["_law_cell_here","_law_some"]
theorem Zc6:Z0n Zq9 ["_law_cell_here"] (Z08 Zjj):=⟨rfl,rfl,rfl,by decide +kernel,rfl,by decide +kernel,by decide +kernel⟩
theorem Zob {f:Addr}{fd:FuncData}(T:Bi mg)(F:Fn K mg "_law_sign" Zjj ["_law_cell_here"] f fd):Z13 P w K mg base CX0 1 f fd ["_law_cell_here"] Zmr:=by
 refine F.F.ok Zc6 (fun vs H Q E h=>?_) (fun cdv A outer s H vs Q E hr h=>?_)
 ·obtain⟨c,rfl,_⟩:=h; rfl
 ·obtain⟨c,rfl,k⟩:=h
  refine⟨_,(Z03 (Z0c (i:=1) Zc6.nd rfl (Or.inl rfl) Z1b)
   (Z03 (Z0c (i:=1) Zc6.nd rfl (Or.inl rfl) (Z0l Z0u (pv 1) Z1b))
   (Z07 (Z0o (Z0t Z8v (pv 1) (Z0l Z1e (pv 0) (Z0a Z2k rfl T.len PySem.boot_len (Z00 (pv 1) Z04))) (fun _ _=>rfl)))))),?_⟩
  have two:1000<=sizeLine:=by decide
  refine⟨_,rfl,_,_,rfl,rfl,by decide +kernel,?_⟩
  try dsimp only
  obtain⟨z,hz,hl,hcc⟩:∃ z:List Nat,(Str.ofString " !\"#$&'()*+,-./0123456789:;<=>?@ABCDEFGHIJKLMNOPQRSTUVWXYZ[\\]^_`"++Str.ofString "abcdefghijklmnopqrstuvwxyz{|}~")=txt z/\z.length=94/\∀ c∈z,c < 0x110000:=⟨_,(Zry _).symm,by decide +kernel,by decide +kernel⟩
  rw[hz]
  refine⟨_,rfl,_,rfl,_,rfl,txt z,rfl,by rw[Z0e]; omega,?_⟩
  rw[Z0e]
  obtain⟨j,hj⟩:∃ j:Nat,c % (z.length:Int)=(j:Int):=⟨(c % (z.length:Int)).toNat,(Int.toNat_of_nonneg (Int.emod_nonneg _ (by omega))).symm⟩
  have hjl:j < z.length:=by have:=Int.emod_lt_of_pos c (show (0:Int) < z.length by omega); omega
  refine⟨_,_,rfl,rfl,(by show (0:Int) < (z.length:Int); omega),txt z,_,z[j],rfl,rfl,by rw[Z0e]; omega,?_,k _ (hcc _ (Y10 hjl))⟩
  rw[hj,Z7a]
  exact Z0f (Y00 hjl)
end
end K1
namespace L2
open PySem PySem.Spec PyProof.Rows
section
variable {X:Cx}
theorem Zaw (l:Addr)(items:Array Value)(n:Nat)(x:Int)(u:Tok)(y:Value)(h0:0<=x)(h63:x < 2 ^ 63)(hs1:items.size<=sizeLine) :
  ∃ f:Array Value->Array Value,(∀ xs,x.toNat<=xs.size->f xs=(xs.extract 0 x.toNat).push y++xs.extract x.toNat)/\
  Meets (Builtin.«list.insert» ⟨[.ref l,.int x u,y],[]⟩) (fun _ R s=>s.heap.get? l=some { cls:=.type "list",dict:=none,data:=.seq items n,slots:=#[] }/\R (.ok (.ret Value.none)) { s with heap:=s.heap.update l (Obj.mapSeq f),toks:=s.toks }):=by
 refine⟨_,fun xs h=>?_,AutoSeq1.list_insert_list_int_val_1 l items n x u y (by rw[fitsIndex_both (by omega) h63]; exact Bool.false_ne_true) hs1⟩
 show (xs.extract 0 (if x < 0 then (x+(xs.size:Int)).toNat else min x.toNat xs.size)).push y++xs.extract (if x < 0 then (x+(xs.size:Int)).toNat else min x.toNat xs.size)=_
 rw[if_neg (by omega),Nat.min_eq_left h]
def Zpb:V->List V->Hp->VK->Prop:=fun x vs H Q=>∃ l xs y,∃ k:Int,x=.ref l/\vs=[.int k,y]/\H l=some (.lst xs)/\0<=k/\k<=(xs.length:Int)/\xs.length < sizeLine/\k < 2 ^ 63/\Q .non (upd H l (.lst (xs.take k.toNat++y :: xs.drop k.toNat)))
theorem Zh5:MtM X "list.insert" Zpb:=by
 intro pins s σ H x vs v us Q I rx rv h
 obtain⟨l,xs,y,k,rfl,rfl,hH,h0,hk,hz,h63,q⟩:=h
 cases rx
 obtain⟨u,us',rfl,ru,rv'⟩:∃ u us',us=u :: us'/\Z1p (.int k) u/\Z1c [y] us':=by
  cases rv with
  | cons a b=>exact⟨_,_,rfl,a,b⟩
 obtain⟨u2,rfl,ru2⟩:=rv'.one
 obtain⟨t,rfl⟩:=ru
 obtain⟨z,its,n,r,hl,e⟩:=I.lstM hH
 have hk':k.toNat<=its.toArray.size:=by rw[Y0i,<-hl]; omega
 obtain⟨f,hf,hm⟩:=Zaw l its.toArray n k t u2 h0 h63 (by rw[Y0i]; omega)
 refine call_meets F.slot_list_insert ⟨_,e,rfl⟩ F.entry_list_insert (F.args_list_insert_3 _ _ _) hm ⟨e,?_⟩
 refine⟨.non,_,I.lset (its':=its.take k.toNat++u2 :: its.drop k.toNat) hH e ?_ ((r.take k.toNat).append (.cons ru2 (r.drop k.toNat))) ?_,rfl,q⟩
 ·rw[hf _ hk']
  apply Array.ext'
  simp[Y1x]
  exact Y1m (by rw[List.length_drop]; exact Y06 _)
 ·rw[Y07,Y1d,Y18,List.length_drop]
  omega
end
end L2
namespace K1
open PySem L2 Sq
def TxB (X:List (List Nat)):Prop:=∀ z∈X,z.length<=600/\∀ c∈z,c < 0x110000
def Zlr (K:Y01):Sp:=fun vs H Q _=>∃ (pl:Addr) (κ c:Int) (X:List (List Nat)),vs=[.ref pl,.int κ,.int c]/\H pl=some (.lst (tvs X))/\1<=X.length/\X.length<=72/\Zft 170 X/\∀ (H':Hp) (l:Addr) (Y:List (List Nat)),Z0d H H'->H' l=some (.lst (tvs Y))->Y.length<=100->TxB Y->Q (.ref l) H'
section
variable {P:Program}{w:World}{K:Y01}{mg:Str->Option Value}{base:Heap}
abbrev Zqy:List Str:=["_law_texts","_law_kind","_law_cell_here","_law_told","_law_at","_law_text","_law_place","_law_sign_here"]
theorem Z4b:Z0n Zqy ["_law_texts","_law_kind","_law_cell_here"] (Z08 Z49):=⟨rfl,rfl,rfl,by decide +kernel,rfl,by decide +kernel,by decide +kernel⟩
set_option maxHeartbeats 4000000 in
theorem Zos {f fs:Addr}{fd ds:FuncData}(T:Bi mg)(F:Fn K mg "_law_changed" Z49 ["_law_texts","_law_kind","_law_cell_here"] f fd)(FS:Fn K mg "_law_sign" Zjj ["_law_cell_here"] fs ds)(GS:Z13 P w K mg base CX0 1 fs ds ["_law_cell_here"] Zmr):Z13 P w K mg base CX0 2 f fd ["_law_texts","_law_kind","_law_cell_here"] (Zlr K):=by
 refine F.F.ok Z4b (fun vs H Q E h=>?_) (fun cdv A outer s H vs Q E hr h=>?_)
 ·obtain⟨pl,κ,c,X,rfl,_⟩:=h; rfl
 ·obtain⟨pl,κ,c,X,rfl,hpl,hX1,hX72,hX,kk⟩:=h
  have hr1:Z2d 1 _:=hr.mono (by decide)
  refine⟨_,(Z03 (Z0c (i:=3) Z4b.nd rfl (Or.inl rfl) (Z0q Z2l rfl T.list Z1r (Z00 (pv 0) Z04)))
   (Z03 (Z0c (i:=4) Z4b.nd rfl (Or.inl rfl) (Z0l Z1e (pv 2) (Z0a Z0b rfl T.len PySem.boot_len (Z00 (pv 3) Z04))))
   (Z03 (Z0c (i:=5) Z4b.nd rfl (Or.inl rfl) (Z0t Z0v (pv 3) (pv 4) (fun _ _=>rfl)))
   (Z03 (Z0c (i:=6) Z4b.nd rfl (Or.inl rfl) (Z0l Z1e (Z0l Z2a (pv 2) Z09) (Z0l Z1d (Z0a Z2k rfl T.len PySem.boot_len (Z00 (pv 5) Z04)) Z09)))
   (Z03 (Z0c (i:=7) Z4b.nd rfl (Or.inl rfl) (Z0h GS hr1 rfl FS.m FS.F.kp FS.b .nil Z0z (Z00 (Z0l Z2a (pv 2) Z09) Z04)))
   (Z03 (Z1f (Z0m Z3j (Z0l Z1e (Z0l Z2a (pv 2) Z09) Z09) Z09 (Z0r _)) (Z07 (Z0c (i:=7) Z4b.nd rfl (Or.inl rfl) (Z0t Z8v (pv 5) (Z0l Z1e (Z0l Z2a (pv 2) Z09) (Z0a Z2k rfl T.len PySem.boot_len (Z00 (pv 5) Z04))) (fun _ _=>rfl)))) Z0p)
   (Z03 (Z1f (Z0m Z3j (pv 1) Z09 (Z0r _)) (Z07 (Z1s (Z34 PySem.F.plainAttrs_list PySem.F.slot_list_pop PySem.F.type_list_pop Z9x (pv 3) (Z00 (pv 4) Z04)))) Z0p)
   (Z03 (Z1f (Z0m Z3j (pv 1) Z09 (Z0r _)) (Z07 (Z1s (Z34 PySem.F.plainAttrs_list PySem.F.slot_list_insert PySem.F.type_list_insert Zh5 (pv 3) (Z00 (pv 4) (Z00 (pv 5) Z04))))) Z0p)
   (Z03 (Z1f (Z0m Z3j (pv 1) Z09 (Z0r _)) (Z07 (Z3o (pv 3) (pv 4) (Z0t Z0v (pv 3) (Z0l Z1e (Z0l Z2a (pv 2) Z09) (Z0a Z0b rfl T.len PySem.boot_len (Z00 (pv 3) Z04))) (fun _ _=>rfl)) rfl)) Z0p)
   (Z03 (Z1f (Z0m Z3j (pv 1) Z09 (Z0r _)) (Z07 (Z3o (pv 3) (pv 4) (Z0l Z0u (Z0l Z0u (Z20 Z4a (pv 5) Z32 (Z1i (pv 6))) (pv 7)) (Z20 Z4a (pv 5) (Z1i (pv 6)) Z32)) rfl)) Z0p)
   (Z03 (Z1f (Z0m Z3j (pv 1) Z09 (Z0r _)) (Z07 (Z3o (pv 3) (pv 4) (Z0l Z0u (Z20 Z4a (pv 5) Z32 (Z1i (pv 6))) (Z20 Z4a (pv 5) (Z1i (Z0l Z1d (pv 6) Z09)) Z32)) rfl)) Z0p)
   (Z03 (Z1f (Z0m Z3j (pv 1) Z09 (Z0r _)) (Z07 (Z3o (pv 3) (pv 4) (Z0l Z0u (Z0l Z0u (Z20 Z4a (pv 5) Z32 (Z1i (pv 6))) (pv 7)) (Z20 Z4a (pv 5) (Z1i (Z0l Z1d (pv 6) Z09)) Z32)) rfl)) Z0p)
   (Z03 (Z1f (Z0m Z3j (pv 1) Z09 (Z0r _)) (Z07 (Z0c (i:=3) Z4b.nd rfl (Or.inl rfl) (Z1y Z04))) Z0p)
   (Z07 (Z0o (pv 3)))))))))))))))),?_⟩
  have big:1000<=sizeLine:=by decide
  have tl:∀ zs:List (List Nat),(tvs zs).length=zs.length:=fun zs=>by simp[tvs]
  have tget:∀ {Y:List (List Nat)} {i:Nat} {z:List Nat},Y[i]?=some z->(tvs Y)[i]?=some (.str (txt z)):=fun {Y i z} h=>by unfold tvs; rw[Y0e,h]; rfl
  have tset:∀ (Y:List (List Nat)) (i:Nat) (z:List Nat),(tvs Y).set i (.str (txt z))=tvs (Y.set i z):=fun Y i z=>by unfold tvs; rw[List.map_set]
  have okS:∀ {Y:List (List Nat)} {i:Nat} {z:List Nat},TxB Y->(z.length<=600/\∀ c∈z,c < 0x110000)->TxB (Y.set i z):=fun {Y i z} h1 h2 y hy=>by
   rcases List.mem_or_eq_of_mem_set hy with q | q
   ·exact h1 y q
   ·rw[q]; exact h2
  refine⟨_,rfl,pl,_,rfl,.inl (SqL.of hpl),fun l hl=>?_⟩
  have s1:=Z02 (o:=.lst (tvs X)) (Z0d.refl H) hl
  have e1:(upd H l (.lst (tvs X))) l=some (.lst (tvs X)):=Z01
  generalize upd H l (.lst (tvs X))=H1 at s1 e1
  obtain⟨a,ha⟩:∃ a:Nat,c % (X.length:Int)=(a:Int):=⟨(c % (X.length:Int)).toNat,(Int.toNat_of_nonneg (Int.emod_nonneg _ (by omega))).symm⟩
  have hal:a < X.length:=by have:=Int.emod_lt_of_pos c (show (0:Int) < (X.length:Int) by omega); omega
  obtain⟨z,hza⟩:∃ z,X[a]?=some z:=⟨_,Y00 hal⟩
  obtain⟨z1,z2,z3⟩:=hX z (Y0a hza)
  refine⟨_,rfl,_,rfl,l,_,rfl,.inl (SqL.of e1),?_⟩
  rw[tl]
  refine⟨_,_,rfl,rfl,(by show (0:Int) < (X.length:Int); omega),?_⟩
  dsimp only
  rw[ha]
  refine⟨_,rfl,_,rfl,l,_,(a:Int),_,rfl,rfl,SqL.of e1,Z0f (tget hza),?_⟩
  obtain⟨j,hj⟩:∃ j:Nat,c / 72 % ((z.length:Int)+1)=(j:Int):=⟨(c / 72 % ((z.length:Int)+1)).toNat,(Int.toNat_of_nonneg (Int.emod_nonneg _ (by omega))).symm⟩
  refine⟨_,rfl,_,_,rfl,rfl,⟨by decide,by decide⟩,_,rfl,txt z,rfl,by rw[Z0e]; omega,?_⟩
  rw[Z0e]
  refine⟨_,_,rfl,rfl,_,_,rfl,rfl,(by show (0:Int) < (z.length:Int)+1; omega),?_⟩
  dsimp only
  rw[hj]
  refine⟨_,rfl,_,_,rfl,rfl,⟨by decide,by decide⟩,_,rfl,fun d0 hd0=>?_⟩
  refine⟨_,rfl,_,_,rfl,rfl,⟨by decide,by decide⟩,_,_,rfl,rfl,(by show (0:Int) < 3; decide),rfl,_,rfl,?_⟩
  refine Z1q (fun σ H2=>∃ d:Nat,d < 0x110000/\σ=[some (.ref pl),some (.int κ),some (.int c),some (.ref l),some (.int (a:Int)),some (.str (txt z)),some (.int (j:Int)),some (.str (txt [d]))]/\H2=H1) (fun _=>⟨d0,hd0,rfl,rfl⟩) ?_ (fun rest _=>?_)
  rotate_left
  ·obtain⟨b,hb⟩:∃ b:Nat,c / 16200 % (z.length:Int)=(b:Int):=⟨(c / 16200 % (z.length:Int)).toNat,(Int.toNat_of_nonneg (Int.emod_nonneg _ (by omega))).symm⟩
   have hbl:b < z.length:=by have:=Int.emod_lt_of_pos (c / 16200) (show (0:Int) < (z.length:Int) by omega); omega
   refine⟨_,rfl,_,rfl,_,_,rfl,rfl,⟨by decide,by decide⟩,_,rfl,txt z,rfl,by rw[Z0e]; omega,?_⟩
   rw[Z0e]
   refine⟨_,_,rfl,rfl,(by show (0:Int) < (z.length:Int); omega),txt z,_,z[b],rfl,rfl,by rw[Z0e]; omega,by rw[hb,Z7a]; exact Z0f (Y00 hbl),?_⟩
   exact rest _ _ ⟨z[b],z3 _ (Y10 hbl),rfl,rfl⟩
  rintro σ H2 ⟨d,hd,rfl,rfl⟩
  have hzB:z.length<=600/\∀ c∈z,c < 0x110000:=⟨by omega,z3⟩
  obtain⟨yT,eT,lT,mT⟩:=Z2i z none (some (j:Int))
  obtain⟨yF,eF,lF,mF⟩:=Z2i z (some (j:Int)) none
  obtain⟨yG,eG,lG,mG⟩:=Z2i z (some ((j:Int)+1)) none
  have hXB:TxB X:=fun y hy=>⟨by have:=(hX y hy).2.1; omega,(hX y hy).2.2⟩
  obtain⟨Y,hYe⟩:∃ Y,Y=X:=⟨X,rfl⟩
  have s2:=s1
  have e2:H2 l=some (.lst (tvs Y)):=by rw[hYe]; exact e1
  have hYl:Y.length<=73:=by rw[hYe]; omega
  have hYB:TxB Y:=by rw[hYe]; exact hXB
  have hYX:κ∉([]:List Int)->Y=X/\H l=none:=fun _=>⟨hYe,hl⟩
  clear hYe e1 s1 hl
  refine⟨_,rfl,rfl,_,rfl,?_⟩
  refine Z1q (fun σ H2=>∃ l Y,σ=[some (.ref pl),some (.int κ),some (.int c),some (.ref l),some (.int (a:Int)),some (.str (txt z)),some (.int (j:Int)),some (.str (txt [d]))]/\Z0d H H2/\H2 l=some (.lst (tvs Y))/\Y.length<=73/\TxB Y/\(κ∉([0]:List Int)->Y=X/\H l=none)) (fun hc=>⟨l,Y,rfl,s2,e2,hYl,hYB,fun hn=>hYX (fun q=>hn (Y0r _ q))⟩) ?_ (fun rest hc=>?_)
  rotate_left
  ·have hc:κ=0:=V.int.inj (of_decide_eq_true hc)
   obtain⟨rfl,hl0⟩:=hYX (by rw[hc]; decide)
   refine⟨_,rfl,.inl ⟨rfl,_,SqL.of e2⟩,_,rfl,l,_,(a:Int),a,_,rfl,rfl,e2,by omega,by omega,(Zd5 (by rw[tl]; exact Z31 hal)).1,tget hza,?_⟩
   rw[show (tvs Y).eraseIdx a=tvs (Y.eraseIdx a) by unfold tvs; rw[Y23,Y23,Y0p,List.map_take,List.map_drop]]
   exact rest _ _ ⟨l,_,rfl,Z02 s2 hl0,Z01,by have:=List.length_eraseIdx_le Y a; omega,(fun y hy=>hYB y (List.mem_of_mem_eraseIdx hy)),fun hn=>absurd (by simp[hc]) hn⟩
  clear hYX hYB hYl e2 s2
  clear Y l
  rintro σ H2 ⟨l,Y,rfl,s2,e2,hYl,hYB,hYX⟩
  refine⟨_,rfl,rfl,_,rfl,?_⟩
  refine Z1q (fun σ H2=>∃ l Y,σ=[some (.ref pl),some (.int κ),some (.int c),some (.ref l),some (.int (a:Int)),some (.str (txt z)),some (.int (j:Int)),some (.str (txt [d]))]/\Z0d H H2/\H2 l=some (.lst (tvs Y))/\Y.length<=73/\TxB Y/\(κ∉([1,0]:List Int)->Y=X/\H l=none)) (fun hc=>⟨l,Y,rfl,s2,e2,hYl,hYB,fun hn=>hYX (fun q=>hn (Y0r _ q))⟩) ?_ (fun rest hc=>?_)
  rotate_left
  ·have hc:κ=1:=V.int.inj (of_decide_eq_true hc)
   obtain⟨rfl,hl0⟩:=hYX (by rw[hc]; decide)
   refine⟨_,rfl,.inl ⟨rfl,_,SqL.of e2⟩,_,rfl,_,rfl,l,_,.str (txt z),(a:Int),rfl,rfl,e2,by omega,by rw[tl]; omega,by rw[tl]; exact Z0j (by omega),by omega,?_⟩
   rw[show (tvs Y).take (Int.toNat (a:Int))++V.str (txt z) :: (tvs Y).drop (Int.toNat (a:Int))=tvs (Y.take a++z :: Y.drop a) by unfold tvs; rw[Y0p,Y0u,List.map_take,List.map_drop]; rfl]
   exact rest _ _ ⟨l,_,rfl,Z02 s2 hl0,Z01,by rw[Y07,Y1d,Y18,List.length_drop]; omega,(fun y hy=>by
    rcases Y0n.mp hy with q | q
    ·exact hYB y (List.mem_of_mem_take q)
    ·rcases Y0j.mp q with q | q
     ·rw[q]; exact hzB
     ·exact hYB y (List.mem_of_mem_drop q)),fun hn=>absurd (by simp[hc]) hn⟩
  clear hYX hYB hYl e2 s2
  clear Y l
  rintro σ H2 ⟨l,Y,rfl,s2,e2,hYl,hYB,hYX⟩
  refine⟨_,rfl,rfl,_,rfl,?_⟩
  refine Z1q (fun σ H2=>∃ l Y,σ=[some (.ref pl),some (.int κ),some (.int c),some (.ref l),some (.int (a:Int)),some (.str (txt z)),some (.int (j:Int)),some (.str (txt [d]))]/\Z0d H H2/\H2 l=some (.lst (tvs Y))/\Y.length<=73/\TxB Y/\(κ∉([2,1,0]:List Int)->Y=X/\H l=none)) (fun hc=>⟨l,Y,rfl,s2,e2,hYl,hYB,fun hn=>hYX (fun q=>hn (Y0r _ q))⟩) ?_ (fun rest hc=>?_)
  rotate_left
  ·have hc:κ=2:=V.int.inj (of_decide_eq_true hc)
   obtain⟨rfl,hl0⟩:=hYX (by rw[hc]; decide)
   obtain⟨b,hb⟩:∃ b:Nat,c / 72 % (Y.length:Int)=(b:Int):=⟨(c / 72 % (Y.length:Int)).toNat,(Int.toNat_of_nonneg (Int.emod_nonneg _ (by omega))).symm⟩
   have hbl:b < Y.length:=by have:=Int.emod_lt_of_pos (c / 72) (show (0:Int) < (Y.length:Int) by omega); omega
   refine⟨_,rfl,_,rfl,_,_,rfl,rfl,⟨by decide,by decide⟩,_,rfl,l,_,rfl,.inl (SqL.of e2),?_⟩
   rw[tl]
   refine⟨_,_,rfl,rfl,(by show (0:Int) < (Y.length:Int); omega),l,_,(b:Int),_,rfl,congrArg V.int hb,SqL.of e2,Z0f (tget (Y00 hbl)),?_⟩
   refine⟨_,rfl,_,rfl,l,_,(a:Int),a,rfl,rfl,e2,by rw[tl]; exact Z31 hal,?_⟩
   rw[tset]
   exact rest _ _ ⟨l,_,rfl,Z02 s2 hl0,Z01,by rw[Y19]; omega,okS hYB (hYB _ (Y10 hbl)),fun hn=>absurd (by simp[hc]) hn⟩
  clear hYX hYB hYl e2 s2
  clear Y l
  rintro σ H2 ⟨l,Y,rfl,s2,e2,hYl,hYB,hYX⟩
  refine⟨_,rfl,rfl,_,rfl,?_⟩
  refine Z1q (fun σ H2=>∃ l Y,σ=[some (.ref pl),some (.int κ),some (.int c),some (.ref l),some (.int (a:Int)),some (.str (txt z)),some (.int (j:Int)),some (.str (txt [d]))]/\Z0d H H2/\H2 l=some (.lst (tvs Y))/\Y.length<=73/\TxB Y/\(κ∉([5,2,1,0]:List Int)->Y=X/\H l=none)) (fun hc=>⟨l,Y,rfl,s2,e2,hYl,hYB,fun hn=>hYX (fun q=>hn (Y0r _ q))⟩) ?_ (fun rest hc=>?_)
  rotate_left
  ·have hc:κ=5:=V.int.inj (of_decide_eq_true hc)
   obtain⟨rfl,hl0⟩:=hYX (by rw[hc]; decide)
   refine⟨_,rfl,_,rfl,_,rfl,txt z,rfl,by rw[eT,Z0e]; omega,?_⟩
   rw[eT]
   refine⟨_,rfl,?_⟩
   refine⟨_,_,rfl,rfl,by rw[Z0e,Z0e]; show _+1<=_; omega,?_⟩
   rw[Z1j]
   refine⟨_,rfl,_,rfl,_,rfl,txt z,rfl,by rw[eF,Z0e]; omega,?_⟩
   rw[eF]
   refine⟨_,_,rfl,rfl,by rw[Z0e,Z0e]; rw[Y07]; show _+1+_<=_; omega,?_⟩
   rw[Z1j]
   refine⟨_,rfl,_,rfl,l,_,(a:Int),a,rfl,rfl,e2,by rw[tl]; exact Z31 hal,?_⟩
   rw[tset]
   exact rest _ _ ⟨l,_,rfl,Z02 s2 hl0,Z01,by rw[Y19]; omega,okS hYB ⟨by rw[Y07,Y07]; show _+1+_<=_; omega,fun e he=>(by rcases Y0n.mp he with q | q; rcases Y0n.mp q with q | q; exact hzB.2 e (mT e q); rw[Y0g.mp q]; exact hd; exact hzB.2 e (mF e q))⟩,fun hn=>absurd (by simp[hc]) hn⟩
  clear hYX hYB hYl e2 s2
  clear Y l
  rintro σ H2 ⟨l,Y,rfl,s2,e2,hYl,hYB,hYX⟩
  refine⟨_,rfl,rfl,_,rfl,?_⟩
  refine Z1q (fun σ H2=>∃ l Y,σ=[some (.ref pl),some (.int κ),some (.int c),some (.ref l),some (.int (a:Int)),some (.str (txt z)),some (.int (j:Int)),some (.str (txt [d]))]/\Z0d H H2/\H2 l=some (.lst (tvs Y))/\Y.length<=73/\TxB Y/\(κ∉([6,5,2,1,0]:List Int)->Y=X/\H l=none)) (fun hc=>⟨l,Y,rfl,s2,e2,hYl,hYB,fun hn=>hYX (fun q=>hn (Y0r _ q))⟩) ?_ (fun rest hc=>?_)
  rotate_left
  ·have hc:κ=6:=V.int.inj (of_decide_eq_true hc)
   obtain⟨rfl,hl0⟩:=hYX (by rw[hc]; decide)
   refine⟨_,rfl,_,rfl,_,rfl,txt z,rfl,by rw[eT,Z0e]; omega,?_⟩
   rw[eT]
   refine⟨_,rfl,_,rfl,_,_,rfl,rfl,_,rfl,txt z,rfl,by rw[eG,Z0e]; omega,?_⟩
   rw[eG]
   refine⟨_,_,rfl,rfl,by rw[Z0e,Z0e]; omega,?_⟩
   rw[Z1j]
   refine⟨_,rfl,_,rfl,l,_,(a:Int),a,rfl,rfl,e2,by rw[tl]; exact Z31 hal,?_⟩
   rw[tset]
   exact rest _ _ ⟨l,_,rfl,Z02 s2 hl0,Z01,by rw[Y19]; omega,okS hYB ⟨by rw[Y07]; omega,fun e he=>(by rcases Y0n.mp he with q | q; exact hzB.2 e (mT e q); exact hzB.2 e (mG e q))⟩,fun hn=>absurd (by simp[hc]) hn⟩
  clear hYX hYB hYl e2 s2
  clear Y l
  rintro σ H2 ⟨l,Y,rfl,s2,e2,hYl,hYB,hYX⟩
  refine⟨_,rfl,rfl,_,rfl,?_⟩
  refine Z1q (fun σ H2=>∃ l Y,σ=[some (.ref pl),some (.int κ),some (.int c),some (.ref l),some (.int (a:Int)),some (.str (txt z)),some (.int (j:Int)),some (.str (txt [d]))]/\Z0d H H2/\H2 l=some (.lst (tvs Y))/\Y.length<=73/\TxB Y/\(κ∉([7,6,5,2,1,0]:List Int)->Y=X/\H l=none)) (fun hc=>⟨l,Y,rfl,s2,e2,hYl,hYB,fun hn=>hYX (fun q=>hn (Y0r _ q))⟩) ?_ (fun rest hc=>?_)
  rotate_left
  ·have hc:κ=7:=V.int.inj (of_decide_eq_true hc)
   obtain⟨rfl,hl0⟩:=hYX (by rw[hc]; decide)
   refine⟨_,rfl,_,rfl,_,rfl,txt z,rfl,by rw[eT,Z0e]; omega,?_⟩
   rw[eT]
   refine⟨_,rfl,?_⟩
   refine⟨_,_,rfl,rfl,by rw[Z0e,Z0e]; show _+1<=_; omega,?_⟩
   rw[Z1j]
   refine⟨_,rfl,_,rfl,_,_,rfl,rfl,_,rfl,txt z,rfl,by rw[eG,Z0e]; omega,?_⟩
   rw[eG]
   refine⟨_,_,rfl,rfl,by rw[Z0e,Z0e]; rw[Y07]; show _+1+_<=_; omega,?_⟩
   rw[Z1j]
   refine⟨_,rfl,_,rfl,l,_,(a:Int),a,rfl,rfl,e2,by rw[tl]; exact Z31 hal,?_⟩
   rw[tset]
   exact rest _ _ ⟨l,_,rfl,Z02 s2 hl0,Z01,by rw[Y19]; omega,okS hYB ⟨by rw[Y07,Y07]; show _+1+_<=_; omega,fun e he=>(by rcases Y0n.mp he with q | q; rcases Y0n.mp q with q | q; exact hzB.2 e (mT e q); rw[Y0g.mp q]; exact hd; exact hzB.2 e (mG e q))⟩,fun hn=>absurd (by simp[hc]) hn⟩
  clear hYX hYB hYl e2 s2
  clear Y l
  rintro σ H2 ⟨l,Y,rfl,s2,e2,hYl,hYB,hYX⟩
  refine⟨_,rfl,rfl,_,rfl,?_⟩
  refine Z1q (fun σ H2=>∃ l Y,σ=[some (.ref pl),some (.int κ),some (.int c),some (.ref l),some (.int (a:Int)),some (.str (txt z)),some (.int (j:Int)),some (.str (txt [d]))]/\Z0d H H2/\H2 l=some (.lst (tvs Y))/\Y.length<=73/\TxB Y/\(κ∉([8,7,6,5,2,1,0]:List Int)->Y=X/\H l=none)) (fun hc=>⟨l,Y,rfl,s2,e2,hYl,hYB,fun hn=>hYX (fun q=>hn (Y0r _ q))⟩) ?_ (fun rest hc=>?_)
  rotate_left
  ·have hc:κ=8:=V.int.inj (of_decide_eq_true hc)
   obtain⟨rfl,hl0⟩:=hYX (by rw[hc]; decide)
   refine⟨Y0w _,fun l9 hl9=>?_⟩
   exact rest _ _ ⟨l9,[],rfl,Z02 s2 (s2.free hl9),Z01,by show 0<=73; omega,(fun y hy=>nomatch hy),fun hn=>absurd (by simp[hc]) hn⟩
  clear hYX hYB hYl e2 s2
  clear Y l
  rintro σ H2 ⟨l,Y,rfl,s2,e2,hYl,hYB,hYX⟩
  exact⟨_,rfl,kk H2 l Y s2 e2 (by omega) hYB⟩
end
theorem dr80 {n:Nat}{r u:List Nat}(rr:Row n r)(ru:Row n u)(hn1:1<=n)(hn:n<=36):1<=(Z0g n r).length/\(Z0g n r).length<=36/\Zft 80 (drM u (Z0g n r)):=by
 refine⟨?_,?_,fun z hz=>?_⟩
 ·have:=(Z1k rr).length_eq
  rw[Y0d]at this
  cases q:Z0g n r with
  | nil=>rw[q]at this; simp at this; omega
  | cons M Ms=>simp
 ·unfold Z0g
  rw[Y09]
  have:=Y1z (Z5t n r) (Y04 n)
  rw[Y0d]at this; omega
 ·have small:∀ M∈Z0g n r,∀ x∈M,x < 36/\nx u x < 36:=fun M hM x hx=>by
   have:=(Z5q rr hM).2.2.1 x hx
   exact⟨by omega,Y0h (ru.nlt this) hn⟩
  have ok:=Zbi small hz
  obtain⟨M,hm,hz⟩:=List.mem_flatMap.mp hz
  obtain⟨m1,m2,_⟩:=Z5q rr hm
  simp only[Y0j,List.not_mem_nil,or_false]at hz
  rcases hz with e | e
  ·have:z.length=1+2 * M.length:=by rw[e,Z3g,Y09]
   exact⟨by omega,by omega,ok⟩
  ·have:z.length=1+2 * M.length:=by rw[e,Z3g]
   exact⟨by omega,by omega,ok⟩
def Zl5 (K:Y01):Sp:=fun vs H Q _=>∃ (a:Addr) (ns:List Int),vs=[.ref a]/\SqL K H a (ns.map V.int)/\∀ H':Hp,Q (.bl true) H'
section
variable {P:Program}{w:World}{K:Y01}{mg:Str->Option Value}{base:Heap}
theorem Zkt:Z0n [] [] (Z08 Z62):=⟨rfl,rfl,rfl,by decide +kernel,rfl,by decide +kernel,by decide +kernel⟩
theorem Zje {f:Addr}{fd:FuncData}(F:Fn K mg "_law_signs" Z62 [] f fd):Z13 P w K mg base CX0 1 f fd [] Z9t:=by
 refine F.F.ok Zkt (fun vs H Q E h=>?_) (fun cdv A outer s H vs Q E hr h=>?_)
 ·obtain⟨rfl,_⟩:=h; rfl
 ·obtain⟨rfl,k⟩:=h
  exact⟨_,Z07 (Z0o Z1b),k⟩
abbrev Zsm:List Str:=["_law_script","_law_first","_law_sheet_here","_law_parts","_law_texts","_law_kind","_law_due","_law_handed","_law_turn","_law_found","_law_refused"]
theorem Z35:Z0n Zsm ["_law_script"] (Z08 Zrg):=⟨rfl,rfl,rfl,by decide +kernel,rfl,by decide +kernel,by decide +kernel⟩
set_option maxHeartbeats 4000000 in
theorem Zs3 {f fc fs fb fx fr fh fn fa:Addr}{fd dc ds db dx dr dh dn da:FuncData}(T:Bi mg)(F:Fn K mg "law" Zrg ["_law_script"] f fd)(FC:Fn K mg "_law_cell" Zf5 ["_law_script","_law_k"] fc dc)(GC:Z13 P w K mg base CX0 1 fc dc ["_law_script","_law_k"] (Zjg K))
  (FS:Fn K mg "_law_sheet" Zbe ["_law_script","_law_at","_law_many"] fs ds) (GS:Z13 P w K mg base CX0 3 fs ds ["_law_script","_law_at","_law_many"] (Zec K))
  (FB:Fn K mg "_law_beside" Z4c ["_law_sheets","_law_number"] fb db) (GB:Z13 P w K mg base CX0 2 fb db ["_law_sheets","_law_number"] (Zsf K))
  (FX:Fn K mg "_law_drawn" Z63 ["_law_sheet_here"] fx dx) (GX:Z13 P w K mg base CX0 2 fx dx ["_law_sheet_here"] (Zgy K))
  (FR:Fn K mg "_law_row_changed" Z2h ["_law_texts","_law_kind","_law_cell_here"] fr dr) (GR:Z13 P w K mg base CX0 1 fr dr ["_law_texts","_law_kind","_law_cell_here"] (Zmc K))
  (FH:Fn K mg "_law_changed" Z49 ["_law_texts","_law_kind","_law_cell_here"] fh dh) (GH:Z13 P w K mg base CX0 2 fh dh ["_law_texts","_law_kind","_law_cell_here"] (Zlr K))
  (FN:Fn K mg "_law_seen" Z6u ["_law_texts"] fn dn) (GN:Z13 P w K mg base CX0 3 fn dn ["_law_texts"] (Zm0 K))
  (FA:Fn K mg "_law_asked" Z5f ["_law_texts"] fa da) (GA:Z13 P w K mg base CX0 8 fa da ["_law_texts"] Zmo):Z13 P w K mg base CX0 9 f fd ["_law_script"] (Zl5 K):=by
 refine F.F.ok Z35 (fun vs H Q E h=>?_) (fun cdv A outer s H vs Q E hr h=>?_)
 ·obtain⟨a,ns,rfl,_⟩:=h; rfl
 ·obtain⟨sc,ns,rfl,hS,k⟩:=h
  have hr1:Z2d 1 _:=hr.mono (by decide)
  have hr2:Z2d 2 _:=hr.mono (by decide)
  have hr3:Z2d 3 _:=hr.mono (by decide)
  have hr8:Z2d 8 _:=hr.mono (by decide)
  refine⟨_,(Z03 (Z0c (i:=1) Z35.nd rfl (Or.inl rfl) (Z0h GC hr1 rfl FC.m FC.F.kp FC.b .nil Z0z (Z00 (pv 0) (Z00 Z09 Z04))))
   (Z03 (Z0c (i:=2) Z35.nd rfl (Or.inl rfl) (Z0h GS hr3 rfl FS.m FS.F.kp FS.b .nil Z0z (Z00 (pv 0) (Z00 Z09 (Z00 (Z0l Z1d Z09 (Z0l Z1e (pv 1) Z09)) Z04)))))
   (Z03 (Z1f (Z0m Z3j (Z0l Z1e (Z0l Z2a (pv 1) Z09) Z09) Z09 (Z0r _)) (Z03 (Z0c (i:=3) Z35.nd rfl (Or.inl rfl) (Z1y (Z00 (Z0h GS hr3 rfl FS.m FS.F.kp FS.b .nil Z0z (Z00 (pv 0) (Z00 Z09 (Z00 (Z0l Z1d Z09 (Z0l Z1e (pv 1) Z09)) Z04)))) (Z00 (Z0h GS hr3 rfl FS.m FS.F.kp FS.b .nil Z0z (Z00 (pv 0) (Z00 Z09 (Z00 (Z0l Z1d Z09 (Z0l Z1e (Z0l Z2a (pv 1) Z09) Z09)) Z04)))) Z04))))
   (Z07 (Z0c (i:=2) Z35.nd rfl (Or.inl rfl) (Z0h GB hr2 rfl FB.m FB.F.kp FB.b .nil Z0z (Z00 (pv 3) (Z00 (Z0h GC hr1 rfl FC.m FC.F.kp FC.b .nil Z0z (Z00 (pv 0) (Z00 Z09 Z04))) Z04)))))) Z0p)
   (Z03 (Z0c (i:=4) Z35.nd rfl (Or.inl rfl) (Z0h GX hr2 rfl FX.m FX.F.kp FX.b .nil Z0z (Z00 (pv 2) Z04)))
   (Z03 (Z0c (i:=5) Z35.nd rfl (Or.inl rfl) (Z0l Z1e (Z0l Z2a (pv 1) Z09) Z09))
   (Z03 (Z0c (i:=4) Z35.nd rfl (Or.inl rfl) (Z0h GR hr1 rfl FR.m FR.F.kp FR.b .nil Z0z (Z00 (pv 4) (Z00 (pv 5) (Z00 (Z0h GC hr1 rfl FC.m FC.F.kp FC.b .nil Z0z (Z00 (pv 0) (Z00 Z09 Z04))) Z04)))))
   (Z03 (Z0c (i:=4) Z35.nd rfl (Or.inl rfl) (Z0h GH hr2 rfl FH.m FH.F.kp FH.b .nil Z0z (Z00 (pv 4) (Z00 (pv 5) (Z00 (Z0h GC hr1 rfl FC.m FC.F.kp FC.b .nil Z0z (Z00 (pv 0) (Z00 Z09 Z04))) Z04)))))
   (Z03 (Z0c (i:=6) Z35.nd rfl (Or.inl rfl) (Z0h GN hr3 rfl FN.m FN.F.kp FN.b .nil Z0z (Z00 (pv 4) Z04)))
   (Z03 (Z0c (i:=7) Z35.nd rfl (Or.inl rfl) (Z0q Z2l rfl T.list Z1r (Z00 (pv 4) Z04)))
   (Z03 (Z1o PassesOwn.never rfl (Z1n rfl T.range (Z00 Z09 Z04)) (Z0i (i:=8) Z35.nd rfl (Or.inl rfl)) (Z03 (Zew (Z0h GA hr8 rfl FA.m FA.F.kp FA.b .nil Z0z (Z00 (pv 7) Z04)) (Zej rfl (Z0s (Z0i (i:=9) Z35.nd rfl (Or.inl rfl)) (Z0s (Z0i (i:=10) Z35.nd rfl (Or.inl rfl)) Z26))))
   (Z07 (Z1f (PW.pt (Z8i (Z0m Z6z (pv 7) (pv 4) (Z0r _)) (Z8i (Z0m Z9v (pv 10) (Z6t Zaa (pv 6) Z2u (Z0r _)) (Z0r _)) (Z66 (Z0m Z6z (pv 9) (pv 6) (Z0r _)))))) (Z07 (Z0o Zaf)) Z0p))))
   (Z07 (Z0o Zaf)))))))))))),?_⟩
  have two:2<=sizeLine:=by decide
  refine⟨_,rfl,sc,ns,0,rfl,hS,by decide,?_⟩
  generalize ns.getD (0:Int).toNat 0=z
  obtain⟨n0,hn0⟩:∃ n:Nat,1+z % 36=(n:Int):=⟨(1+z % 36).toNat,by omega⟩
  obtain⟨n1,e1⟩:∃ n:Nat,1+z % 12=(n:Int):=⟨(1+z % 12).toNat,by omega⟩
  obtain⟨n2,e2⟩:∃ n:Nat,1+z / 108 % 12=(n:Int):=⟨(1+z / 108 % 12).toNat,by omega⟩
  refine⟨_,rfl,_,rfl,_,_,rfl,rfl,(by show (0:Int) < 36; decide),_,_,rfl,rfl,sc,ns,3,n0,by rw[<-hn0]; rfl,hS,by decide,by omega,by omega,fun H1 b nb rb ub s1 hb hSb hnb=>?_⟩
  try dsimp only
  refine⟨_,rfl,_,_,rfl,rfl,⟨by decide,by decide⟩,_,_,rfl,rfl,(by show (0:Int) < 3; decide),rfl,_,rfl,?_⟩
  refine Z1q (fun σ H5=>∃ (o3:Option V) (a p q:Addr) (rest:List V) (n:Nat) (r u:List Nat),σ=[some (.ref sc),some (.int z),some (.ref a),o3,none,none,none,none,none,none,none]/\Z0d H H5/\H5 a=some (.tup (.ref p :: .ref q :: rest))/\Z44 K H5 p r/\Z44 K H5 q u/\Row n r/\Row n u/\1<=n/\n<=36) (fun _=>?_) ?_ ?_
  ·obtain⟨p,q,h1,h2,h3⟩:=hb
   exact⟨none,b,p,q,[],nb,rb,ub,rfl,s1,h1,.inr (SqT.of h2),.inr (SqT.of h3),hSb.row,hSb.col,hSb.pos,hSb.most⟩
  rotate_left 1
  ·intro rest _
   refine⟨_,rfl,_,rfl,_,_,rfl,rfl,(by show (0:Int) < 12; decide),_,_,rfl,rfl,sc,ns,3,n1,by rw[<-e1]; rfl,s1.seq hS,by decide,by omega,by omega,fun H2 b1 m1 r1 u1 s2 hb1 hSh1 hle1=>?_⟩
   refine⟨_,rfl,_,rfl,_,_,rfl,rfl,⟨by decide,by decide⟩,_,_,rfl,rfl,(by show (0:Int) < 12; decide),_,_,rfl,rfl,sc,ns,23,n2,by rw[<-e2]; rfl,s2.seq (s1.seq hS),by decide,by omega,by omega,fun H3 b2 m2 r2 u2 s3 hb2 hSh2 hle2=>?_⟩
   refine⟨two,fun d hd0=>?_⟩
   have sd1:=Z02 (o:=.lst [.ref b1,.ref b2]) (Z0d.refl H3) hd0
   have hd1:(upd H3 d (.lst [.ref b1,.ref b2])) d=some (.lst [.ref b1,.ref b2]):=Z01
   revert sd1 hd1
   generalize (upd H3 d (.lst [.ref b1,.ref b2]))=H4
   intro sd1 hd1
   have s04:=s1.trans (s2.trans (s3.trans sd1))
   refine⟨_,rfl,_,rfl,sc,ns,1,rfl,s04.seq hS,by decide,?_⟩
   refine⟨d,[b1,b2],[(r1,u1),(r2,u2)],_,rfl,SqL.of hd1,⟨rfl,fun j s R h1 h2=>?_⟩,?_,?_,by show 2<=36; decide,fun H5 t pr pu l gs r u ps s5 ht hpr hpu hl hL hB hps f1 f2 f3 nru=>?_⟩
   ·match j,h1,h2 with
    | 0,h1,h2=>cases h1; cases h2; exact hb1.same (s3.trans sd1)
    | 1,h1,h2=>cases h1; cases h2; exact hb2.same sd1
    | j+2,h1,h2=>cases h1
   ·intro R hR
    rcases Y0j.mp hR with e | e
    ·rw[e]; show Z4r r1.length r1 u1; rw[hSh1.row.len]; exact hSh1
    ·rw[Y0g.mp e]; show Z4r r2.length r2 u2; rw[hSh2.row.len]; exact hSh2
   ·show r1.length+(r2.length+0)<=36
    rw[hSh1.row.len,hSh2.row.len]; omega
   have hN:(([(r1,u1),(r2,u2)]:List (List Nat×List Nat)).map fun R=>R.1.length).sum=m1+m2:=by
    show r1.length+(r2.length+0)=_
    rw[hSh1.row.len,hSh2.row.len]; rfl
   rw[hN]at hB
   have:=hSh1.pos
   exact rest _ _ ⟨_,t,pr,pu,[.ref l],m1+m2,r,u,rfl,s04.trans s5,ht,.inl (SqL.of hpr),.inl (SqL.of hpu),hB.rr,hB.ru,by omega,by omega⟩
  rintro σ H2 ⟨o3,a,p,q,rest,n,r,u,rfl,s2,ha,hp,hq,rr,ru,hn1,hn⟩
  refine⟨_,rfl,a,p,q,rest,n,r,u,rfl,ha,hp,hq,rr,ru,hn,fun H3 ld s3 hld=>?_⟩
  try dsimp only
  refine⟨_,rfl,_,_,rfl,rfl,⟨by decide,by decide⟩,_,_,rfl,rfl,(by show (0:Int) < 11; decide),?_⟩
  have s03:=s2.trans s3
  obtain⟨q1,q2,q3⟩:=dr80 rr ru hn1 hn
  refine⟨_,rfl,_,rfl,_,rfl,sc,ns,2,rfl,s03.seq hS,by decide,?_⟩
  refine⟨ld,_,_,_,(Z0g n r).length,rfl,hld,Z7r u _,q1,q2,q3,fun H4 l4 Y s4 hl4 hY hY2=>?_⟩
  have hYl:Y.length=2 * (Z0g n r).length:=by rw[hY,Z7r]
  have s04:=s03.trans s4
  try dsimp only
  refine⟨_,rfl,_,rfl,_,rfl,sc,ns,2,rfl,s04.seq hS,by decide,?_⟩
  refine⟨l4,_,_,Y,rfl,hl4,by omega,by omega,hY2,fun H5 l5 X s5 hl5 hXl hX=>?_⟩
  have tl:∀ zs:List (List Nat),(tvs zs).length=zs.length:=fun zs=>by simp[tvs]
  have lay:=Z57 (zs:=X) fun z hz=>(hX z hz).2
  clear hld hl4 q3 hY2 hp hq ha hS
  try dsimp only
  refine⟨_,rfl,l5,X,rfl,hl5,hXl,hX,fun n6 r6 u6 d6 H6 a6 s6 ha6=>?_,fun no H6 s6=>?_⟩
  ·try dsimp only
   refine⟨_,rfl,l5,tvs X,rfl,.inl (SqL.of (s6 _ _ hl5)),fun lh hlh=>?_⟩
   have s7:=Z02 (o:=.lst (tvs X)) (Z0d.refl H6) hlh
   have e7:(upd H6 lh (.lst (tvs X))) lh=some (.lst (tvs X)):=Z01
   revert s7 e7
   generalize (upd H6 lh (.lst (tvs X)))=H7
   intro s7 e7
   have f7:=s7 _ _ (s6 _ _ hl5)
   refine⟨2,rfl,by decide,by decide,?_⟩
   refine Z2g (n:=2) (fun i σ H9=>∃ o8 o9 o10,σ=[some (.ref sc),some (.int z),some (.ref a),o3,some (.ref l5),some (.int (z / 1296 % 11)),some (.ref a6),some (.ref lh),o8,o9,o10]/\Z0d H7 H9) ⟨_,_,_,rfl,Z0d.refl _⟩ ?_ ?_
   ·rintro i σ H8 hi ⟨o8,o9,o10,rfl,s8⟩
    have eqD:∀ {H':Hp},Z0d H8 H'->Dt K H' (.ref lh) (.list (X.map fun z=>.str (txt z)))/\Dt K H' (.ref l5) (.list (X.map fun z=>.str (txt z))):=fun {H'} s'=>⟨.lst (SqL.of (s' _ _ (s8 _ _ e7))) (Z47 _),.lst (SqL.of (s' _ _ (s8 _ _ f7))) (Z47 _)⟩
    refine⟨_,rfl,lh,X,rfl,s8 _ _ e7,hXl,hX,fun n9 r9 u9 d9 H9 t a9 s9 ht ha9=>?_,fun no=>absurd d6 (no _ _ _)⟩
    obtain⟨rfl,rfl⟩:=Znk d6 d9
    refine⟨t,_,rfl,SqT.of ht,rfl,_,_,rfl,_,_,rfl,rfl,?_⟩
    obtain⟨d1,d2⟩:=eqD s9
    refine⟨_,rfl,_,rfl,_,_,d1,d2,lay,lay,Z59 hr (Z7t _),_,rfl,?_⟩
    show if (!PyData.eqv _ _)=true then _ else _
    rw[Zcu]
    refine Z2j ?_
    refine⟨_,rfl,_,rfl,rfl,rfl,_,rfl,?_⟩
    refine Z2j ?_
    refine⟨_,rfl,_,rfl,_,_,ha9.dt,(ha6.same (s7.trans (s8.trans s9))).dt,Zmw _ _,Zmw _ _,Z59 hr (Zkp _ _),_,rfl,?_⟩
    show if (!PyData.eqv (sd _ _) (sd _ _))=true then _ else _
    rw[Zpz,decide_eq_true rfl,decide_eq_true rfl]
    refine Z2j ?_
    exact⟨_,_,_,rfl,s8.trans s9⟩
   ·rintro σ H9 ⟨o8,o9,o10,rfl,_⟩
    exact k _
  ·try dsimp only
   refine⟨_,rfl,l5,tvs X,rfl,.inl (SqL.of (s6 _ _ hl5)),fun lh hlh=>?_⟩
   have s7:=Z02 (o:=.lst (tvs X)) (Z0d.refl H6) hlh
   have e7:(upd H6 lh (.lst (tvs X))) lh=some (.lst (tvs X)):=Z01
   revert s7 e7
   generalize (upd H6 lh (.lst (tvs X)))=H7
   intro s7 e7
   have f7:=s7 _ _ (s6 _ _ hl5)
   refine⟨2,rfl,by decide,by decide,?_⟩
   refine Z2g (n:=2) (fun i σ H9=>∃ o8 o9 o10,σ=[some (.ref sc),some (.int z),some (.ref a),o3,some (.ref l5),some (.int (z / 1296 % 11)),some .non,some (.ref lh),o8,o9,o10]/\Z0d H7 H9) ⟨_,_,_,rfl,Z0d.refl _⟩ ?_ ?_
   ·rintro i σ H8 hi ⟨o8,o9,o10,rfl,s8⟩
    have eqD:∀ {H':Hp},Z0d H8 H'->Dt K H' (.ref lh) (.list (X.map fun z=>.str (txt z)))/\Dt K H' (.ref l5) (.list (X.map fun z=>.str (txt z))):=fun {H'} s'=>⟨.lst (SqL.of (s' _ _ (s8 _ _ e7))) (Z47 _),.lst (SqL.of (s' _ _ (s8 _ _ f7))) (Z47 _)⟩
    refine⟨_,rfl,lh,X,rfl,s8 _ _ e7,hXl,hX,fun n9 r9 u9 d9=>absurd d9 (no _ _ _),fun _ H9 t s9 ht=>?_⟩
    refine⟨t,_,rfl,SqT.of ht,rfl,_,_,rfl,_,_,rfl,rfl,?_⟩
    obtain⟨d1,d2⟩:=eqD s9
    refine⟨_,rfl,_,rfl,_,_,d1,d2,lay,lay,Z59 hr (Z7t _),_,rfl,?_⟩
    show if (!PyData.eqv _ _)=true then _ else _
    rw[Zcu]
    refine Z2j ?_
    refine⟨_,rfl,_,rfl,rfl,rfl,_,rfl,?_⟩
    refine Z2j ?_
    refine⟨_,rfl,_,rfl,_,_,.non,.non,rfl,rfl,Z59 hr (by decide),_,rfl,?_⟩
    refine Z2j ?_
    exact⟨_,_,_,rfl,s8.trans s9⟩
   ·rintro σ H9 ⟨o8,o9,o10,rfl,_⟩
    exact k _
end
end K1
def PySem.W.Fast.tw5165316073017628245:Nat:=0
def PySem.W.Fast.tw6739841657612317551:Nat:=0
def PySem.W.Fast.tw2572067019421580297:Nat:=0
def PySem.W.Fast.tw10326354637896938838:Nat:=0
def PySem.W.Fast.tw2630617281853065962:Nat:=0
def PySem.W.Fast.tw4182017743904982240:Nat:=0
def PySem.W.Fast.tw9434196920546761248:Nat:=0
def PySem.W.Fast.tw2509959582637243737:Nat:=0
def PySem.W.Fast.tw7226383202832937916:Nat:=0
def PySem.W.Fast.tw16516121502645440188:Nat:=0
def PySem.W.Fast.tw4708999938911263072:Nat:=0
def PySem.W.Fast.tw11150689941761858597:Nat:=0
def PySem.W.Fast.tw850847923605128062:Nat:=0
def PySem.W.Fast.tw14808229037161505074:Nat:=0
def PySem.W.Fast.tw14327234139342737839:Nat:=0
def PySem.W.Fast.tw17788498051384922419:Nat:=0
def PySem.W.Fast.tw3623573002167818779:Nat:=0
def PySem.W.Fast.tw17526679352283517286:Nat:=0
def PySem.W.Fast.tw16010119871266243729:Nat:=0
def PySem.W.Fast.tw9994766198311757331:Nat:=0
def PySem.W.Fast.tw17035978980517939709:Nat:=0
def PySem.W.Fast.tw3167218140594145008:Nat:=0
def PySem.W.Fast.tw15985360481522974456:Nat:=0
def PySem.W.Fast.tw7810834238439059831:Nat:=0
def PySem.W.Fast.tw5470954459269186485:Nat:=0
def PySem.W.Fast.tw4304565639834303042:Nat:=0
def PySem.W.Fast.tw13963222097714412172:Nat:=0
def PySem.W.Fast.tw3750048808663213439:Nat:=0
def PySem.W.Fast.tw10178865398498768739:Nat:=0
def PySem.W.Fast.tw14647213479404229233:Nat:=0
def PySem.W.Fast.tw11278570596894102216:Nat:=0
def PySem.W.Fast.tw7878138090520989067:Nat:=0
def PySem.W.Fast.tw6686486006908973326:Nat:=0
def PySem.W.Fast.tw9632584590051766254:Nat:=0
def PySem.W.Fast.tw10788248371208097718:Nat:=0
def PySem.W.Fast.tw2024980480832881306:Nat:=0
def PySem.W.Fast.tw4230977446918977875:Nat:=0
def PySem.W.Fast.tw12350092876261196113:Nat:=0
def PySem.W.Fast.tw11705793902655969123:Nat:=0
def PySem.W.Fast.tw13758884317965688051:Nat:=0
def PySem.W.Fast.tw2504337032267808857:Nat:=0
def PySem.W.Fast.tw9661292790399605682:Nat:=0
def PySem.W.Fast.tw16454026754625322413:Nat:=0
def PySem.W.Fast.tw3318954703135165153:Nat:=0
def PySem.W.Fast.tw17218931021558848250:Nat:=0
def PySem.W.Fast.tw6499561604442489089:Nat:=0
def PySem.W.Fast.tw1711873586580354148:Nat:=0
def PySem.W.Fast.tw980857988341665351:Nat:=0
def PySem.W.Fast.tw7402348758279969713:Nat:=0
def PySem.W.Fast.tw4468137735170808488:Nat:=0
def PySem.W.Fast.tw129417567093824714:Nat:=0
def PySem.W.Fast.tw12858194335737055724:Nat:=0
def PySem.W.Fast.tw17277118289589177699:Nat:=0
def PySem.W.Fast.tw14507968256425895668:Nat:=0
def PySem.W.Fast.tw10610533638428115310:Nat:=0
def PySem.W.Fast.tw6923002508107967134:Nat:=0
def PySem.W.Fast.tw12233551208613175290:Nat:=0
def PySem.W.Fast.tw8848688148893629268:Nat:=0
def PySem.W.Fast.tw13755798934556194906:Nat:=0
def PySem.W.Fast.tw571733115131313971:Nat:=0
def PySem.W.Fast.tw240133070135668303:Nat:=0
def PySem.W.Fast.tw17196676578540265515:Nat:=0
def PySem.W.Fast.tw17841975821828806502:Nat:=0
def PySem.W.Fast.tw8106834547337118666:Nat:=0
def PySem.W.Fast.tw59602874601170171:Nat:=0
def PySem.W.Fast.tw5207484860761696046:Nat:=0
def PySem.W.Fast.tw15133309252748232461:Nat:=0
def PySem.W.Fast.tw1441798017209220303:Nat:=0
def PySem.W.Fast.tw2521846602131265514:Nat:=0
def PySem.W.Fast.tw9171060099172708074:Nat:=0
def PySem.W.Fast.tw8372184976731588907:Nat:=0
def PySem.W.Fast.tw12454730965673131124:Nat:=0
def PySem.W.Fast.tw9711084033885548515:Nat:=0
def PySem.W.Fast.tw9330422773614782848:Nat:=0
def PySem.W.Fast.tw14770594894497229992:Nat:=0
def PySem.W.Fast.tw13714397520111897562:Nat:=0
def PySem.W.Fast.tw18213413035386038259:Nat:=0
def PySem.W.Fast.tw16292154957043829529:Nat:=0
def PySem.W.Fast.tw580299220225782615:Nat:=0
def PySem.W.Fast.tw3215944574195430898:Nat:=0
def PySem.W.Fast.tw294719666956639730:Nat:=0
def PySem.W.Fast.tw13697756903373704480:Nat:=0
def PySem.W.Fast.tw5837367972553528473:Nat:=0
def PySem.W.Fast.tw9084366217068853686:Nat:=0
def PySem.W.Fast.tw11913769530970328135:Nat:=0
def PySem.W.Fast.tw8604607508148188398:Nat:=0
def PySem.W.Fast.tw13368067307698992853:Nat:=0
def PySem.W.Fast.tw14964787945742573833:Nat:=0
def PySem.W.Fast.tw7505443204715402259:Nat:=0
def PySem.W.Fast.tw6889933896854661992:Nat:=0
def PySem.W.Fast.tw14206746598124368001:Nat:=0
def PySem.W.Fast.tw15514313919471130396:Nat:=0
def PySem.W.Fast.tw15112403809035585183:Nat:=0
def PySem.W.Fast.tw17309360554557949828:Nat:=0
def PySem.W.Fast.tw7114863449833312472:Nat:=0
def PySem.W.Fast.tw7882855478943729548:Nat:=0
def PySem.W.Fast.tw3730835113767809037:Nat:=0
def PySem.W.Fast.tw16674548956319249180:Nat:=0
def PySem.W.Fast.tw9579008309944619996:Nat:=0
def PySem.W.Fast.tw16581997778657004538:Nat:=0
def PySem.W.Fast.tw2066534752088756692:Nat:=0
def PySem.W.Fast.tw6110170795856015617:Nat:=0
def PySem.W.Fast.tw7198529728132579132:Nat:=0
def PySem.W.Fast.tw6679531994662094251:Nat:=0
def PySem.W.Fast.tw11830821712284142530:Nat:=0
def PySem.W.Fast.tw2012127389888186363:Nat:=0
def PySem.W.Fast.tw6027673128829637633:Nat:=0
def PySem.W.Fast.tw17885400926569022568:Nat:=0
def PySem.W.Fast.tw17751686530629243828:Nat:=0
def PySem.W.Fast.tw16495037798297897018:Nat:=0
def PySem.W.Fast.tw12254671382722271686:Nat:=0
def PySem.W.Fast.tw13900427312530566877:Nat:=0
def PySem.W.Fast.tw2429235053509824222:Nat:=0
def PySem.W.Fast.tw14200972930119502964:Nat:=0
def PySem.W.Fast.tw16835102963578996603:Nat:=0
def PySem.W.Fast.tw16136210388205574901:Nat:=0
def PySem.W.Fast.tw16250407374317445756:Nat:=0
def PySem.W.Fast.tw9708729112193318259:Nat:=0
def PySem.W.Fast.tw10753672371968576306:Nat:=0
def PySem.W.Fast.tw16469982112062143750:Nat:=0
def PySem.W.Fast.tw14048517315579779957:Nat:=0
def PySem.W.Fast.tw15198038960858395930:Nat:=0
def PySem.W.Fast.tw1039329846900632600:Nat:=0
def PySem.W.Fast.tw11392616364247487967:Nat:=0
def PySem.W.Fast.tw7952507502999442729:Nat:=0
def PySem.W.Fast.tw8347149601735836739:Nat:=0
def PySem.W.Fast.tw5815679069378601650:Nat:=0
def PySem.W.Fast.tw6511858205095880112:Nat:=0
def PySem.W.Fast.tw10597479403773899896:Nat:=0
def PySem.W.Fast.tw2879822724969556387:Nat:=0
def PySem.W.Fast.tw2839805274296035018:Nat:=0
def PySem.W.Fast.tw8672197602517465474:Nat:=0
def PySem.W.Fast.tw5524068988202102074:Nat:=0
def PySem.W.Fast.tw16265184840615129753:Nat:=0
def PySem.W.Fast.tw18075696720104298109:Nat:=0
def PySem.W.Fast.tw3714389969726016159:Nat:=0
def PySem.W.Fast.tw5977699176301913083:Nat:=0
namespace K1
open PySem L2 Sq
def Raw (K:Y01)(x:Str)(st:Stmt):Prop:=∃ f fd,Fun K x x st f fd/\Y0s K mainGlobals x=some (some (.ref f))/\∃ kV doc pm an cdv ct,fd=Y2f x x (Z3y st) (Z2n st) (Z08 st) .none kV doc pm an cdv ct
theorem Z12 {K:Y01}{x:Str}{st:Stmt}{f:Addr}{oc:Value}{od an:Option Addr}{osl:Array (Option Value)}{kV doc pm cdv ct:Value}(a:Y0s K mainGlobals x=some (some (.ref f)))
  (l:K.lookup f=some ⟨oc,od,.func (Y2f x x (Z3y st) (Z2n st) (Z08 st) .none kV doc pm an cdv ct),osl⟩) (c:PySem.W.codeIn K cdv x=true) (k:Y25 K (.ref f)=true):Raw K x st:=
 ⟨f,_,Zmp l c k,a,kV,doc,pm,an,cdv,ct,rfl⟩
theorem Raw.fn {K:Y01}{h:Heap}{mg:Str->Option Value}{x:Str}{st:Stmt}{ps:List Str}(X:K.In h)(G:h.Ns mainGlobals mg)(R:Raw K x st)
  (b:∀ (kV doc pm:Value) (an:Option Addr) (cdv ct:Value) (us:List Value),us.length=ps.length->bindArgs (Y2f x x (Z3y st) (Z2n st) (Z08 st) .none kV doc pm an cdv ct) ⟨us,[]⟩=pure (ps.zip us)):∃ f fd,Fn K mg x st ps f fd:=by
 obtain⟨f,fd,F,a,_⟩:=R
 exact⟨f,fd,F,F.binds b,Y16 X G a⟩
set_option maxHeartbeats 0 in
theorem Zsd {l:PySem.W.OpenLaw}{w:World}{K:Y01}{h:Heap}{mg:Str->Option Value}{fa:Addr}{t_MOST_SQUARES:Tok}{t_SIGNS:Tok}{C0:Addr}{C2:Addr}{C3:Addr}{C4:Addr}{C5:Addr}{C6:Addr}{C7:Addr}{C8:Addr}{C9:Addr}{C10:Addr}{C11:Addr}{C12:Addr}{C13:Addr}{C14:Addr}{C15:Addr}(X:K.In h)(G:h.Ns mainGlobals mg)(hfa:mg "law"=some (.ref fa))
  (R_sheet_of:Raw K "sheet_of" Z3c)
  (R_size:Raw K "size" Zfb)
  (R_back_row:Raw K "back_row" Z5e)
  (R_checked_rows:Raw K "checked_rows" Z37)
  (R_has_each_once:Raw K "has_each_once" Z8e)
  (R_is_whole:Raw K "is_whole" Z36)
  (R_is_square:Raw K "is_square" Zbs)
  (R_groups_of:Raw K "groups_of" Z48)
  (R_step_rows:Raw K "step_rows" Zay)
  (R_paths_from:Raw K "paths_from" Z8t)
  (R_cycle_from:Raw K "cycle_from" Z3k)
  (R_cycles:Raw K "cycles" Z4z)
  (R_drawn:Raw K "drawn" Z8o)
  (R_seen:Raw K "seen" Zda)
  (R_between:Raw K "between" Z4l)
  (R_squares_in:Raw K "squares_in" Z24)
  (R_sheet_told:Raw K "sheet_told" Z29)
  (R_in_order:Raw K "in_order" Z2r)
  (R__law_cell:Raw K "_law_cell" Zf5)
  (R__law_lines:Raw K "_law_lines" Zba)
  (R__law_met:Raw K "_law_met" Znm)
  (R__law_among:Raw K "_law_among" Z78)
  (R__law_sheet:Raw K "_law_sheet" Zbe)
  (R__law_picked:Raw K "_law_picked" Z8a)
  (R__law_beside:Raw K "_law_beside" Z4c)
  (R__law_signs:Raw K "_law_signs" Z62)
  (R__law_drawn:Raw K "_law_drawn" Z63)
  (R__law_sign:Raw K "_law_sign" Zjj)
  (R__law_row_changed:Raw K "_law_row_changed" Z2h)
  (R__law_changed:Raw K "_law_changed" Z49)
  (R__law_squares:Raw K "_law_squares" Z4e)
  (R__law_seen:Raw K "_law_seen" Z6u)
  (R__law_marks:Raw K "_law_marks" Zbj)
  (R__law_asked:Raw K "_law_asked" Z5f)
  (R_law:Raw K "law" Zrg)
  (c_MOST_SQUARES:Y0s K mainGlobals "MOST_SQUARES"=some (some (.int 36 t_MOST_SQUARES)))
  (c_SIGNS:Y0s K mainGlobals "SIGNS"=some (some (.str (Str.ofString "0123456789abcdefghijklmnopqrstuvwxyz") t_SIGNS)))
  (m_C0:Y0s K mainGlobals "SheetError"=some (some (.ref C0))) (f_C0:Z6q K C0)
  (m_C2:Y0s K mainGlobals "NoSquare"=some (some (.ref C2))) (f_C2:Z6q K C2)
  (m_C3:Y0s K mainGlobals "NoWord"=some (some (.ref C3))) (f_C3:Z6q K C3)
  (m_C4:Y0s K mainGlobals "NoDrawing"=some (some (.ref C4))) (f_C4:Z6q K C4)
  (m_C5:Y0s K mainGlobals "NoNumber"=some (some (.ref C5))) (f_C5:Z6q K C5)
  (m_C6:Y0s K mainGlobals "NoPlace"=some (some (.ref C6))) (f_C6:Z6q K C6)
  (m_C7:Y0s K mainGlobals "NoRow"=some (some (.ref C7))) (f_C7:Z6q K C7)
  (m_C8:Y0s K mainGlobals "NoRenumbering"=some (some (.ref C8))) (f_C8:Z6q K C8)
  (m_C9:Y0s K mainGlobals "NoSheet"=some (some (.ref C9))) (f_C9:Z6q K C9)
  (m_C10:Y0s K mainGlobals "NotTogether"=some (some (.ref C10))) (f_C10:Z6q K C10)
  (m_C11:Y0s K mainGlobals "NoTable"=some (some (.ref C11))) (f_C11:Z6q K C11)
  (m_C12:Y0s K mainGlobals "NoText"=some (some (.ref C12))) (f_C12:Z6q K C12)
  (m_C13:Y0s K mainGlobals "NothingDone"=some (some (.ref C13))) (f_C13:Z6q K C13)
  (m_C14:Y0s K mainGlobals "NoWay"=some (some (.ref C14))) (f_C14:Z6q K C14)
  (m_C15:Y0s K mainGlobals "TooMany"=some (some (.ref C15))) (f_C15:Z6q K C15)
  (e_C4:Z8c K C4)
  (e_C9:Z8c K C9)
  (s0:Y0m K (.ref C4) (.ref C0)=some true)
  (s1:Y0m K (.ref C4) (.type "ValueError")=some true)
  (s2:Y0m K (.ref C4) (.ref C2)=some false)
  (s3:Y0m K (.ref C4) (.ref C3)=some false)
  (s4:Y0m K (.ref C4) (.ref C4)=some true)
  (s5:Y0m K (.ref C4) (.ref C5)=some false)
  (s6:Y0m K (.ref C4) (.ref C6)=some false)
  (s7:Y0m K (.ref C4) (.ref C7)=some false)
  (s8:Y0m K (.ref C4) (.ref C8)=some false)
  (s9:Y0m K (.ref C4) (.ref C9)=some false)
  (s10:Y0m K (.ref C4) (.ref C10)=some false)
  (s11:Y0m K (.ref C4) (.ref C11)=some false)
  (s12:Y0m K (.ref C4) (.ref C12)=some false)
  (s13:Y0m K (.ref C4) (.ref C13)=some false)
  (s14:Y0m K (.ref C4) (.ref C14)=some false)
  (s15:Y0m K (.ref C4) (.ref C15)=some false)
  (s16:Y0m K (.ref C9) (.ref C9)=some true)
  (s17:Y0m K (.ref C9) (.ref C10)=some false)
  (s18:Y0m K (.ref C10) (.ref C9)=some false)
  (s19:Y0m K (.ref C10) (.ref C10)=some true)
  (n0:C4≠C2)
  (n1:C4≠C3)
  (n2:C4≠C5)
  (n3:C4≠C6)
  (n4:C4≠C7)
  (n5:C4≠C8)
  (n6:C4≠C9)
  (n7:C4≠C10)
  (n8:C4≠C11)
  (n9:C4≠C12)
  (n10:C4≠C13)
  (n11:C4≠C14)
  (n12:C4≠C15)
  (v_C10:XIs K C10 "square" "NotTogether.__init__" Zso "self" "square")
  (j_C0:Zth K C0)
  (z_len:Y0s K mainGlobals "len"=some none)
  (z_range:Y0s K mainGlobals "range"=some none)
  (z_list:Y0s K mainGlobals "list"=some none)
  (z_tuple:Y0s K mainGlobals "tuple"=some none)
  (z_isinstance:Y0s K mainGlobals "isinstance"=some none)
  (z_int:Y0s K mainGlobals "int"=some none)
  (z_bool:Y0s K mainGlobals "bool"=some none)
  (z_all:Y0s K mainGlobals "all"=some none)
  (z_set:Y0s K mainGlobals "set"=some none)
  (z_sorted:Y0s K mainGlobals "sorted"=some none)
  (z_enumerate:Y0s K mainGlobals "enumerate"=some none)
  (z_min:Y0s K mainGlobals "min"=some none)
  (z_zip:Y0s K mainGlobals "zip"=some none)
  (z_sum:Y0s K mainGlobals "sum"=some none)
  (z_ValueError:Y0s K mainGlobals "ValueError"=some none)
  : ∃ fd:FuncData,(∀ (s:Shared) (v:Value),BindsTo s fd ⟨[v],[]⟩ [("_law_script",v)])/\∀ base:Heap,K.In base->base.Ns mainGlobals mg->Z13 l.prog w K mg base CX0 9 fa fd ["_law_script"] (Zl5 K):=by
 have T:Bi mg:=⟨Y12 X G z_len,Y12 X G z_range,Y12 X G z_list,Y12 X G z_tuple,Y12 X G z_isinstance,Y12 X G z_int,Y12 X G z_bool,Y12 X G z_all,Y12 X G z_set,Y12 X G z_sorted,Y12 X G z_enumerate⟩
 have T_min:mg "min"=none:=Y12 X G z_min
 have T_zip:mg "zip"=none:=Y12 X G z_zip
 have T_sum:mg "sum"=none:=Y12 X G z_sum
 have T_ValueError:mg "ValueError"=none:=Y12 X G z_ValueError
 have C_MOST_SQUARES:=Y16 X G c_MOST_SQUARES
 have C_SIGNS:=Y16 X G c_SIGNS
 have M_C0:=Y16 X G m_C0
 have M_C2:=Y16 X G m_C2
 have M_C3:=Y16 X G m_C3
 have M_C4:=Y16 X G m_C4
 have M_C5:=Y16 X G m_C5
 have M_C6:=Y16 X G m_C6
 have M_C7:=Y16 X G m_C7
 have M_C8:=Y16 X G m_C8
 have M_C9:=Y16 X G m_C9
 have M_C10:=Y16 X G m_C10
 have M_C11:=Y16 X G m_C11
 have M_C12:=Y16 X G m_C12
 have M_C13:=Y16 X G m_C13
 have M_C14:=Y16 X G m_C14
 have M_C15:=Y16 X G m_C15
 obtain⟨fi_C10,di_C10,N_C10,FI_C10,B_C10⟩:=v_C10
 obtain⟨f_sheet_of,d_sheet_of,F_sheet_of⟩:=R_sheet_of.fn (ps:=["right","up"]) X G fun _ _ _ _ _ _ us hl=>match us,hl with | [_,_],_=>rfl
 obtain⟨f_size,d_size,F_size⟩:=R_size.fn (ps:=["sheet"]) X G fun _ _ _ _ _ _ us hl=>match us,hl with | [_],_=>rfl
 obtain⟨f_back_row,d_back_row,F_back_row⟩:=R_back_row.fn (ps:=["row"]) X G fun _ _ _ _ _ _ us hl=>match us,hl with | [_],_=>rfl
 obtain⟨f_checked_rows,d_checked_rows,F_checked_rows⟩:=R_checked_rows.fn (ps:=["right","up"]) X G fun _ _ _ _ _ _ us hl=>match us,hl with | [_,_],_=>rfl
 obtain⟨f_has_each_once,d_has_each_once,F_has_each_once⟩:=R_has_each_once.fn (ps:=["row"]) X G fun _ _ _ _ _ _ us hl=>match us,hl with | [_],_=>rfl
 obtain⟨f_is_whole,d_is_whole,F_is_whole⟩:=R_is_whole.fn (ps:=["thing"]) X G fun _ _ _ _ _ _ us hl=>match us,hl with | [_],_=>rfl
 obtain⟨f_is_square,d_is_square,F_is_square⟩:=R_is_square.fn (ps:=["thing","squares"]) X G fun _ _ _ _ _ _ us hl=>match us,hl with | [_,_],_=>rfl
 obtain⟨f_groups_of,d_groups_of,F_groups_of⟩:=R_groups_of.fn (ps:=["rows"]) X G fun _ _ _ _ _ _ us hl=>match us,hl with | [_],_=>rfl
 obtain⟨f_step_rows,d_step_rows,F_step_rows⟩:=R_step_rows.fn (ps:=["rows"]) X G fun _ _ _ _ _ _ us hl=>match us,hl with | [_],_=>rfl
 obtain⟨f_paths_from,d_paths_from,F_paths_from⟩:=R_paths_from.fn (ps:=["rows","first"]) X G fun _ _ _ _ _ _ us hl=>match us,hl with | [_,_],_=>rfl
 obtain⟨f_cycle_from,d_cycle_from,F_cycle_from⟩:=R_cycle_from.fn (ps:=["row","first"]) X G fun _ _ _ _ _ _ us hl=>match us,hl with | [_,_],_=>rfl
 obtain⟨f_cycles,d_cycles,F_cycles⟩:=R_cycles.fn (ps:=["row"]) X G fun _ _ _ _ _ _ us hl=>match us,hl with | [_],_=>rfl
 obtain⟨f_drawn,d_drawn,F_drawn⟩:=R_drawn.fn (ps:=["sheet"]) X G fun _ _ _ _ _ _ us hl=>match us,hl with | [_],_=>rfl
 obtain⟨f_seen,d_seen,F_seen⟩:=R_seen.fn (ps:=["rows"]) X G fun _ _ _ _ _ _ us hl=>match us,hl with | [_],_=>rfl
 obtain⟨f_between,d_between,F_between⟩:=R_between.fn (ps:=["border","squares"]) X G fun _ _ _ _ _ _ us hl=>match us,hl with | [_,_],_=>rfl
 obtain⟨f_squares_in,d_squares_in,F_squares_in⟩:=R_squares_in.fn (ps:=["text"]) X G fun _ _ _ _ _ _ us hl=>match us,hl with | [_],_=>rfl
 obtain⟨f_sheet_told,d_sheet_told,F_sheet_told⟩:=R_sheet_told.fn (ps:=["pairs"]) X G fun _ _ _ _ _ _ us hl=>match us,hl with | [_],_=>rfl
 obtain⟨f_in_order,d_in_order,F_in_order⟩:=R_in_order.fn (ps:=["told"]) X G fun _ _ _ _ _ _ us hl=>match us,hl with | [_],_=>rfl
 obtain⟨f__law_cell,d__law_cell,F__law_cell⟩:=R__law_cell.fn (ps:=["_law_script","_law_k"]) X G fun _ _ _ _ _ _ us hl=>match us,hl with | [_,_],_=>rfl
 obtain⟨f__law_lines,d__law_lines,F__law_lines⟩:=R__law_lines.fn (ps:=["_law_script","_law_at","_law_many"]) X G fun _ _ _ _ _ _ us hl=>match us,hl with | [_,_,_],_=>rfl
 obtain⟨f__law_met,d__law_met,F__law_met⟩:=R__law_met.fn (ps:=["_law_right","_law_up","_law_first"]) X G fun _ _ _ _ _ _ us hl=>match us,hl with | [_,_,_],_=>rfl
 obtain⟨f__law_among,d__law_among,F__law_among⟩:=R__law_among.fn (ps:=["_law_right","_law_up","_law_met_here"]) X G fun _ _ _ _ _ _ us hl=>match us,hl with | [_,_,_],_=>rfl
 obtain⟨f__law_sheet,d__law_sheet,F__law_sheet⟩:=R__law_sheet.fn (ps:=["_law_script","_law_at","_law_many"]) X G fun _ _ _ _ _ _ us hl=>match us,hl with | [_,_,_],_=>rfl
 obtain⟨f__law_picked,d__law_picked,F__law_picked⟩:=R__law_picked.fn (ps:=["_law_things","_law_number"]) X G fun _ _ _ _ _ _ us hl=>match us,hl with | [_,_],_=>rfl
 obtain⟨f__law_beside,d__law_beside,F__law_beside⟩:=R__law_beside.fn (ps:=["_law_sheets","_law_number"]) X G fun _ _ _ _ _ _ us hl=>match us,hl with | [_,_],_=>rfl
 obtain⟨f__law_signs,d__law_signs,F__law_signs⟩:=R__law_signs.fn (ps:=[]) X G fun _ _ _ _ _ _ us hl=>match us,hl with | [],_=>rfl
 obtain⟨f__law_drawn,d__law_drawn,F__law_drawn⟩:=R__law_drawn.fn (ps:=["_law_sheet_here"]) X G fun _ _ _ _ _ _ us hl=>match us,hl with | [_],_=>rfl
 obtain⟨f__law_sign,d__law_sign,F__law_sign⟩:=R__law_sign.fn (ps:=["_law_cell_here"]) X G fun _ _ _ _ _ _ us hl=>match us,hl with | [_],_=>rfl
 obtain⟨f__law_row_changed,d__law_row_changed,F__law_row_changed⟩:=R__law_row_changed.fn (ps:=["_law_texts","_law_kind","_law_cell_here"]) X G fun _ _ _ _ _ _ us hl=>match us,hl with | [_,_,_],_=>rfl
 obtain⟨f__law_changed,d__law_changed,F__law_changed⟩:=R__law_changed.fn (ps:=["_law_texts","_law_kind","_law_cell_here"]) X G fun _ _ _ _ _ _ us hl=>match us,hl with | [_,_,_],_=>rfl
 obtain⟨f__law_squares,d__law_squares,F__law_squares⟩:=R__law_squares.fn (ps:=["_law_text","_law_edge"]) X G fun _ _ _ _ _ _ us hl=>match us,hl with | [_,_],_=>rfl
 obtain⟨f__law_seen,d__law_seen,F__law_seen⟩:=R__law_seen.fn (ps:=["_law_texts"]) X G fun _ _ _ _ _ _ us hl=>match us,hl with | [_],_=>rfl
 obtain⟨f__law_marks,d__law_marks,F__law_marks⟩:=R__law_marks.fn (ps:=["_law_e"]) X G fun _ _ _ _ _ _ us hl=>match us,hl with | [_],_=>rfl
 obtain⟨f__law_asked,d__law_asked,F__law_asked⟩:=R__law_asked.fn (ps:=["_law_texts"]) X G fun _ _ _ _ _ _ us hl=>match us,hl with | [_],_=>rfl
 obtain⟨fL,dL,FL,aL,kV,doc,pm,an,cdv,ct,eL⟩:=R_law
 have bL:=FL.binds (ps:=["_law_script"]) fun _ _ _ _ _ _ us hl=>match us,hl with | [_],_=>rfl
 have e:=hfa.symm.trans (Y16 X G aL)
 cases e
 refine⟨dL,fun s v=>?_,fun base _ _=>?_⟩
 ·subst eL; exact .of_eq rfl
 ·have F_law:Fn K mg "law" Zrg ["_law_script"] fa dL:=⟨FL,bL,Y16 X G aL⟩
  have XM0:=(⟨M_C0,T_ValueError,M_C2,M_C3,M_C4,M_C5,M_C6,M_C7,M_C8,M_C9,M_C10,M_C11,M_C12,M_C13,M_C14,M_C15⟩:XM K mg (fun i=>match i with | 0=>C0 | 2=>C2 | 3=>C3 | 4=>C4 | 5=>C5 | 6=>C6 | 7=>C7 | 8=>C8 | 9=>C9 | 10=>C10 | 11=>C11 | 12=>C12 | 13=>C13 | 14=>C14 | 15=>C15 | _=>C0:Nat->Addr))
  have XD4:=(⟨f_C4.x,(Z23 f_C0 s0 (.inl rfl)),(Zqt Z76 s1),(Z23 f_C2 s2 (.inr n0)),(Z23 f_C3 s3 (.inr n1)),(Z23 f_C4 s4 (.inl rfl)),(Z23 f_C5 s5 (.inr n2)),(Z23 f_C6 s6 (.inr n3)),(Z23 f_C7 s7 (.inr n4)),(Z23 f_C8 s8 (.inr n5)),(Z23 f_C9 s9 (.inr n6)),(Z23 f_C10 s10 (.inr n7)),(Z23 f_C11 s11 (.inr n8)),(Z23 f_C12 s12 (.inr n9)),(Z23 f_C13 s13 (.inr n10)),(Z23 f_C14 s14 (.inr n11)),(Z23 f_C15 s15 (.inr n12))⟩:XD K (fun i=>match i with | 0=>C0 | 2=>C2 | 3=>C3 | 4=>C4 | 5=>C5 | 6=>C6 | 7=>C7 | 8=>C8 | 9=>C9 | 10=>C10 | 11=>C11 | 12=>C12 | 13=>C13 | 14=>C14 | 15=>C15 | _=>C0:Nat->Addr) C4 (bk 4))
  have XA:=(⟨XM0,f_C4.h,XD4,s4⟩:XA92 K mg (fun i=>match i with | 0=>C0 | 2=>C2 | 3=>C3 | 4=>C4 | 5=>C5 | 6=>C6 | 7=>C7 | 8=>C8 | 9=>C9 | 10=>C10 | 11=>C11 | 12=>C12 | 13=>C13 | 14=>C14 | 15=>C15 | _=>C0:Nat->Addr))
  have XC:=(⟨f_C9,f_C10,M_C9,M_C10,s16,s17,s18,s19⟩:XC92 K mg C9 C10)
  have G_cell:=Zjd (P:=l.prog) (w:=w) (base:=base) T F__law_cell
  have G_size:=Zn3 (P:=l.prog) (w:=w) (base:=base) T F_size
  have G_lines:=Zju (P:=l.prog) (w:=w) (base:=base) T F__law_lines F__law_cell
  have G_met:=Zrl (P:=l.prog) (w:=w) (base:=base) T F__law_met
  have G_metD:=Zn2 (P:=l.prog) (w:=w) (base:=base) T F__law_met
  have G_among:=Zkk (P:=l.prog) (w:=w) (base:=base) T F__law_among
  have G_sheet:=Zis T F__law_sheet F__law_lines G_lines F__law_met G_met F__law_among G_among
  have G_pick:=Zhf (P:=l.prog) (w:=w) (base:=base) T F__law_picked
  have G_bes:=Zs7 T T_sum F__law_beside F__law_picked G_pick
  have G_backRow:=Zf4 (P:=l.prog) (w:=w) (base:=base) T F_back_row
  have G_steps:=Zll F_step_rows F_back_row G_backRow
  have G_paths:=Zlo T F_paths_from F_step_rows G_steps
  have G_isSq:=Znx (P:=l.prog) (w:=w) (base:=base) T F_is_square F_is_whole
  have G_each:=Zpk T F_has_each_once F_is_square G_isSq
  have G_checked:=Zf9 T C_MOST_SQUARES F_checked_rows F_has_each_once G_each
  have G_groups:=Zhx T F_groups_of F_size G_size F_paths_from G_paths
  have G_sheetOf:=Zfj T F_sheet_of F_checked_rows G_checked F_groups_of G_groups
  have G_isSqG:=Zkz (P:=l.prog) (w:=w) (base:=base) T F_is_square F_is_whole
  have G_eachG:=Zlb T F_has_each_once F_is_square G_isSqG
  have G_checkedG:=Zd9 T e_C9 M_C9 C_MOST_SQUARES F_checked_rows F_has_each_once G_eachG
  have G_groupsG:=Zg1 T F_groups_of F_size G_size F_paths_from G_paths
  have G_nti:=Zq4 (P:=l.prog) (w:=w) (base:=base) N_C10 j_C0 M_C0 FI_C10
  have G_sox:=Zra T N_C10 M_C10 B_C10 G_nti F_sheet_of F_groups_of G_groupsG F_checked_rows G_checkedG
  have G_cyc:=Zpd (P:=l.prog) (w:=w) (base:=base) F_cycle_from
  have G_cycles:=Zie T T_min F_cycles F_cycle_from G_cyc
  have G_bt:=Zsx (P:=l.prog) (w:=w) (base:=base) C_SIGNS F_between
  have G_si:=Ztv (P:=l.prog) (w:=w) (base:=base) C_SIGNS F_squares_in
  have G_siG:=Zoa (P:=l.prog) (w:=w) (base:=base) C_SIGNS F_squares_in
  have G_io:=Ztd (P:=l.prog) (w:=w) (base:=base) T F_in_order
  have G_ioG:=Zo5 (P:=l.prog) (w:=w) (base:=base) T F_in_order
  have G_drw:=Zs1 F_drawn F_cycles G_cycles F_between G_bt
  have G_to:=Zs5 T T_zip F_sheet_of G_sheetOf F_in_order G_io F_sheet_told
  have G_toG:=Zox T T_zip XC F_sheet_of G_sox F_in_order G_ioG F_sheet_told
  have G_se:=Zn8 T e_C4 M_C4 F_seen F_squares_in G_si G_siG F_sheet_told G_to G_toG F_drawn G_drw
  have G_lsigns:=Zje (P:=l.prog) (w:=w) (base:=base) F__law_signs
  have G_ld:=Zo3 T F__law_signs G_lsigns F__law_drawn
  have G_sq:=Zp4 T F__law_signs G_lsigns F__law_squares
  have G_ls:=Zoq T F__law_seen F__law_squares G_sq F__law_met G_metD F__law_drawn G_ld
  have G_marks:=Zjw (P:=l.prog) (w:=w) (base:=base) T XM0 F__law_marks
  have G_as:=Zno T XA F__law_asked F_seen G_se F__law_marks G_marks
  have G_rc:=Zn6 (P:=l.prog) (w:=w) (base:=base) T F__law_row_changed
  have G_sg:=Zob (P:=l.prog) (w:=w) (base:=base) T F__law_sign
  have G_ch:=Zos T F__law_changed F__law_sign G_sg
  exact Zs3 T F_law F__law_cell G_cell F__law_sheet G_sheet F__law_beside G_bes F__law_drawn G_ld F__law_row_changed G_rc F__law_changed G_ch F__law_seen G_ls F__law_asked G_as
theorem walk {l:PySem.W.OpenLaw}{q:Program}{loose:List Str}{XP:(Str->Option Value)->Heap->Prop}{YP:World->Heap->Prop}{d:DefRec}{K:Params->Y01}(hn:l.most=some 63)(hdf:d.params.defaults=[])
  (hY:∀ (w:World) (h:Heap),YP w h->(K w.params).In h)
  (F:∀ (w:World) (mg:Str->Option Value) (fa:Addr) (h:Heap),(K w.params).In h->h.Ns mainGlobals mg->mg d.name=some (.ref fa)->
   ∃ fd:FuncData,(∀ (s:Shared) (u:Value),BindsTo s fd ⟨[u],[]⟩ [("_law_script",u)])/\∀ base:Heap,(K w.params).In base->base.Ns mainGlobals mg->Z13 l.prog w (K w.params) mg base CX0 9 fa fd ["_law_script"] (Zl5 (K w.params))) :
  PySem.W.WalkO q loose XP YP l.row.toRowW d [] (fun f vs=>PySem.call f vs):=
 L2.Zn9 (n:=63) (k:=9) (x:="_law_script") (CX:=fun _=>CX0) (sp:=fun w=>Zl5 (K w.params)) hn (by decide) hdf ⟨rfl,by decide,by decide⟩ hY F (fun _ _ a ns hl _ hS=>⟨a,ns,rfl,hS,fun _=>rfl⟩) fun _ _ _ _ _ z=>z
end K1
open PySem PySem.W PyProof.Rows
set_option maxRecDepth 100000 in
set_option maxHeartbeats 0 in
theorem PySem.Challenge.cw_squaresheet_k92_nothing_seen_holds : PySem.Challenge.rw_squaresheet_k92_nothing_seen.Holds := by
 w_on; o_law; k_head; (case hw=>w_witness2)
 k_fill
 refine K1.walk (l:=PySem.Challenge.rw_squaresheet_k92_nothing_seen) rfl rfl (fun w h Y=>PySem.W.kIn_of Y) ?F
 case F=>
  intro w mg fa h KX G hmg
  have R_sheet_of:K1.Raw (L2.KOf KX) "sheet_of" K1.Z3c:=by
   dsimp only [L2.KOf]
   refine' K1.Z12 ?a ?l ?c ?k
   (case a=>k_is); (case l=>k_is); (case c=>k_is); (case k=>k_is)
  have R_size:K1.Raw (L2.KOf KX) "size" K1.Zfb:=by
   dsimp only [L2.KOf]
   refine' K1.Z12 ?a ?l ?c ?k
   (case a=>k_is); (case l=>k_is); (case c=>k_is); (case k=>k_is)
  have R_back_row:K1.Raw (L2.KOf KX) "back_row" K1.Z5e:=by
   dsimp only [L2.KOf]
   refine' K1.Z12 ?a ?l ?c ?k
   (case a=>k_is); (case l=>k_is); (case c=>k_is); (case k=>k_is)
  have R_checked_rows:K1.Raw (L2.KOf KX) "checked_rows" K1.Z37:=by
   dsimp only [L2.KOf]
   refine' K1.Z12 ?a ?l ?c ?k
   (case a=>k_is); (case l=>k_is); (case c=>k_is); (case k=>k_is)
  have R_has_each_once:K1.Raw (L2.KOf KX) "has_each_once" K1.Z8e:=by
   dsimp only [L2.KOf]
   refine' K1.Z12 ?a ?l ?c ?k
   (case a=>k_is); (case l=>k_is); (case c=>k_is); (case k=>k_is)
  have R_is_whole:K1.Raw (L2.KOf KX) "is_whole" K1.Z36:=by
   dsimp only [L2.KOf]
   refine' K1.Z12 ?a ?l ?c ?k
   (case a=>k_is); (case l=>k_is); (case c=>k_is); (case k=>k_is)
  have R_is_square:K1.Raw (L2.KOf KX) "is_square" K1.Zbs:=by
   dsimp only [L2.KOf]
   refine' K1.Z12 ?a ?l ?c ?k
   (case a=>k_is); (case l=>k_is); (case c=>k_is); (case k=>k_is)
  have R_groups_of:K1.Raw (L2.KOf KX) "groups_of" K1.Z48:=by
   dsimp only [L2.KOf]
   refine' K1.Z12 ?a ?l ?c ?k
   (case a=>k_is); (case l=>k_is); (case c=>k_is); (case k=>k_is)
  have R_step_rows:K1.Raw (L2.KOf KX) "step_rows" K1.Zay:=by
   dsimp only [L2.KOf]
   refine' K1.Z12 ?a ?l ?c ?k
   (case a=>k_is); (case l=>k_is); (case c=>k_is); (case k=>k_is)
  have R_paths_from:K1.Raw (L2.KOf KX) "paths_from" K1.Z8t:=by
   dsimp only [L2.KOf]
   refine' K1.Z12 ?a ?l ?c ?k
   (case a=>k_is); (case l=>k_is); (case c=>k_is); (case k=>k_is)
  have R_cycle_from:K1.Raw (L2.KOf KX) "cycle_from" K1.Z3k:=by
   dsimp only [L2.KOf]
   refine' K1.Z12 ?a ?l ?c ?k
   (case a=>k_is); (case l=>k_is); (case c=>k_is); (case k=>k_is)
  have R_cycles:K1.Raw (L2.KOf KX) "cycles" K1.Z4z:=by
   dsimp only [L2.KOf]
   refine' K1.Z12 ?a ?l ?c ?k
   (case a=>k_is); (case l=>k_is); (case c=>k_is); (case k=>k_is)
  have R_drawn:K1.Raw (L2.KOf KX) "drawn" K1.Z8o:=by
   dsimp only [L2.KOf]
   refine' K1.Z12 ?a ?l ?c ?k
   (case a=>k_is); (case l=>k_is); (case c=>k_is); (case k=>k_is)
  have R_seen:K1.Raw (L2.KOf KX) "seen" K1.Zda:=by
   dsimp only [L2.KOf]
   refine' K1.Z12 ?a ?l ?c ?k
   (case a=>k_is); (case l=>k_is); (case c=>k_is); (case k=>k_is)
  have R_between:K1.Raw (L2.KOf KX) "between" K1.Z4l:=by
   dsimp only [L2.KOf]
   refine' K1.Z12 ?a ?l ?c ?k
   (case a=>k_is); (case l=>k_is); (case c=>k_is); (case k=>k_is)
  have R_squares_in:K1.Raw (L2.KOf KX) "squares_in" K1.Z24:=by
   dsimp only [L2.KOf]
   refine' K1.Z12 ?a ?l ?c ?k
   (case a=>k_is); (case l=>k_is); (case c=>k_is); (case k=>k_is)
  have R_sheet_told:K1.Raw (L2.KOf KX) "sheet_told" K1.Z29:=by
   dsimp only [L2.KOf]
   refine' K1.Z12 ?a ?l ?c ?k
   (case a=>k_is); (case l=>k_is); (case c=>k_is); (case k=>k_is)
  have R_in_order:K1.Raw (L2.KOf KX) "in_order" K1.Z2r:=by
   dsimp only [L2.KOf]
   refine' K1.Z12 ?a ?l ?c ?k
   (case a=>k_is); (case l=>k_is); (case c=>k_is); (case k=>k_is)
  have R__law_cell:K1.Raw (L2.KOf KX) "_law_cell" K1.Zf5:=by
   dsimp only [L2.KOf]
   refine' K1.Z12 ?a ?l ?c ?k
   (case a=>k_is); (case l=>k_is); (case c=>k_is); (case k=>k_is)
  have R__law_lines:K1.Raw (L2.KOf KX) "_law_lines" K1.Zba:=by
   dsimp only [L2.KOf]
   refine' K1.Z12 ?a ?l ?c ?k
   (case a=>k_is); (case l=>k_is); (case c=>k_is); (case k=>k_is)
  have R__law_met:K1.Raw (L2.KOf KX) "_law_met" K1.Znm:=by
   dsimp only [L2.KOf]
   refine' K1.Z12 ?a ?l ?c ?k
   (case a=>k_is); (case l=>k_is); (case c=>k_is); (case k=>k_is)
  have R__law_among:K1.Raw (L2.KOf KX) "_law_among" K1.Z78:=by
   dsimp only [L2.KOf]
   refine' K1.Z12 ?a ?l ?c ?k
   (case a=>k_is); (case l=>k_is); (case c=>k_is); (case k=>k_is)
  have R__law_sheet:K1.Raw (L2.KOf KX) "_law_sheet" K1.Zbe:=by
   dsimp only [L2.KOf]
   refine' K1.Z12 ?a ?l ?c ?k
   (case a=>k_is); (case l=>k_is); (case c=>k_is); (case k=>k_is)
  have R__law_picked:K1.Raw (L2.KOf KX) "_law_picked" K1.Z8a:=by
   dsimp only [L2.KOf]
   refine' K1.Z12 ?a ?l ?c ?k
   (case a=>k_is); (case l=>k_is); (case c=>k_is); (case k=>k_is)
  have R__law_beside:K1.Raw (L2.KOf KX) "_law_beside" K1.Z4c:=by
   dsimp only [L2.KOf]
   refine' K1.Z12 ?a ?l ?c ?k
   (case a=>k_is); (case l=>k_is); (case c=>k_is); (case k=>k_is)
  have R__law_signs:K1.Raw (L2.KOf KX) "_law_signs" K1.Z62:=by
   dsimp only [L2.KOf]
   refine' K1.Z12 ?a ?l ?c ?k
   (case a=>k_is); (case l=>k_is); (case c=>k_is); (case k=>k_is)
  have R__law_drawn:K1.Raw (L2.KOf KX) "_law_drawn" K1.Z63:=by
   dsimp only [L2.KOf]
   refine' K1.Z12 ?a ?l ?c ?k
   (case a=>k_is); (case l=>k_is); (case c=>k_is); (case k=>k_is)
  have R__law_sign:K1.Raw (L2.KOf KX) "_law_sign" K1.Zjj:=by
   dsimp only [L2.KOf]
   refine' K1.Z12 ?a ?l ?c ?k
   (case a=>k_is); (case l=>k_is); (case c=>k_is); (case k=>k_is)
  have R__law_row_changed:K1.Raw (L2.KOf KX) "_law_row_changed" K1.Z2h:=by
   dsimp only [L2.KOf]
   refine' K1.Z12 ?a ?l ?c ?k
   (case a=>k_is); (case l=>k_is); (case c=>k_is); (case k=>k_is)
  have R__law_changed:K1.Raw (L2.KOf KX) "_law_changed" K1.Z49:=by
   dsimp only [L2.KOf]
   refine' K1.Z12 ?a ?l ?c ?k
   (case a=>k_is); (case l=>k_is); (case c=>k_is); (case k=>k_is)
  have R__law_squares:K1.Raw (L2.KOf KX) "_law_squares" K1.Z4e:=by
   dsimp only [L2.KOf]
   refine' K1.Z12 ?a ?l ?c ?k
   (case a=>k_is); (case l=>k_is); (case c=>k_is); (case k=>k_is)
  have R__law_seen:K1.Raw (L2.KOf KX) "_law_seen" K1.Z6u:=by
   dsimp only [L2.KOf]
   refine' K1.Z12 ?a ?l ?c ?k
   (case a=>k_is); (case l=>k_is); (case c=>k_is); (case k=>k_is)
  have R__law_marks:K1.Raw (L2.KOf KX) "_law_marks" K1.Zbj:=by
   dsimp only [L2.KOf]
   refine' K1.Z12 ?a ?l ?c ?k
   (case a=>k_is); (case l=>k_is); (case c=>k_is); (case k=>k_is)
  have R__law_asked:K1.Raw (L2.KOf KX) "_law_asked" K1.Z5f:=by
   dsimp only [L2.KOf]
   refine' K1.Z12 ?a ?l ?c ?k
   (case a=>k_is); (case l=>k_is); (case c=>k_is); (case k=>k_is)
  have R_law:K1.Raw (L2.KOf KX) "law" K1.Zrg:=by
   dsimp only [L2.KOf]
   refine' K1.Z12 ?a ?l ?c ?k
   (case a=>k_is); (case l=>k_is); (case c=>k_is); (case k=>k_is)
  refine' K1.Zsd KX G hmg R_sheet_of R_size R_back_row R_checked_rows R_has_each_once R_is_whole R_is_square R_groups_of R_step_rows R_paths_from R_cycle_from R_cycles R_drawn R_seen R_between R_squares_in R_sheet_told R_in_order R__law_cell R__law_lines R__law_met R__law_among R__law_sheet R__law_picked R__law_beside R__law_signs R__law_drawn R__law_sign R__law_row_changed R__law_changed R__law_squares R__law_seen R__law_marks R__law_asked R_law ?c_MOST_SQUARES ?c_SIGNS ?m_C0 ?f_C0 ?m_C2 ?f_C2 ?m_C3 ?f_C3 ?m_C4 ?f_C4 ?m_C5 ?f_C5 ?m_C6 ?f_C6 ?m_C7 ?f_C7 ?m_C8 ?f_C8 ?m_C9 ?f_C9 ?m_C10 ?f_C10 ?m_C11 ?f_C11 ?m_C12 ?f_C12 ?m_C13 ?f_C13 ?m_C14 ?f_C14 ?m_C15 ?f_C15 ?e_C4 ?e_C9 ?s0 ?s1 ?s2 ?s3 ?s4 ?s5 ?s6 ?s7 ?s8 ?s9 ?s10 ?s11 ?s12 ?s13 ?s14 ?s15 ?s16 ?s17 ?s18 ?s19 ?n0 ?n1 ?n2 ?n3 ?n4 ?n5 ?n6 ?n7 ?n8 ?n9 ?n10 ?n11 ?n12 ?v_C10 ?j_C0 ?z_len ?z_range ?z_list ?z_tuple ?z_isinstance ?z_int ?z_bool ?z_all ?z_set ?z_sorted ?z_enumerate ?z_min ?z_zip ?z_sum ?z_ValueError
  (case c_MOST_SQUARES=>k_is); (case c_SIGNS=>k_is); (case m_C0=>k_is); (case f_C0=>(refine' ⟨?_,?_,?_,?_,?_,?_,?_,?_,?_⟩ <;> k_is)); (case m_C2=>k_is); (case f_C2=>(refine' ⟨?_,?_,?_,?_,?_,?_,?_,?_,?_⟩ <;> k_is)); (case m_C3=>k_is); (case f_C3=>(refine' ⟨?_,?_,?_,?_,?_,?_,?_,?_,?_⟩ <;> k_is)); (case m_C4=>k_is); (case f_C4=>(refine' ⟨?_,?_,?_,?_,?_,?_,?_,?_,?_⟩ <;> k_is)); (case m_C5=>k_is); (case f_C5=>(refine' ⟨?_,?_,?_,?_,?_,?_,?_,?_,?_⟩ <;> k_is)); (case m_C6=>k_is); (case f_C6=>(refine' ⟨?_,?_,?_,?_,?_,?_,?_,?_,?_⟩ <;> k_is)); (case m_C7=>k_is); (case f_C7=>(refine' ⟨?_,?_,?_,?_,?_,?_,?_,?_,?_⟩ <;> k_is)); (case m_C8=>k_is); (case f_C8=>(refine' ⟨?_,?_,?_,?_,?_,?_,?_,?_,?_⟩ <;> k_is)); (case m_C9=>k_is); (case f_C9=>(refine' ⟨?_,?_,?_,?_,?_,?_,?_,?_,?_⟩ <;> k_is)); (case m_C10=>k_is); (case f_C10=>(refine' ⟨?_,?_,?_,?_,?_,?_,?_,?_,?_⟩ <;> k_is)); (case m_C11=>k_is); (case f_C11=>(refine' ⟨?_,?_,?_,?_,?_,?_,?_,?_,?_⟩ <;> k_is)); (case m_C12=>k_is); (case f_C12=>(refine' ⟨?_,?_,?_,?_,?_,?_,?_,?_,?_⟩ <;> k_is)); (case m_C13=>k_is); (case f_C13=>(refine' ⟨?_,?_,?_,?_,?_,?_,?_,?_,?_⟩ <;> k_is)); (case m_C14=>k_is); (case f_C14=>(refine' ⟨?_,?_,?_,?_,?_,?_,?_,?_,?_⟩ <;> k_is)); (case m_C15=>k_is); (case f_C15=>(refine' ⟨?_,?_,?_,?_,?_,?_,?_,?_,?_⟩ <;> k_is)); (case e_C4=>(unfold L2.Z8c; k_exc)); (case e_C9=>(unfold L2.Z8c; k_exc)); (case s0=>k_is); (case s1=>k_is); (case s2=>k_is); (case s3=>k_is); (case s4=>k_is); (case s5=>k_is); (case s6=>k_is); (case s7=>k_is); (case s8=>k_is); (case s9=>k_is); (case s10=>k_is); (case s11=>k_is); (case s12=>k_is); (case s13=>k_is); (case s14=>k_is); (case s15=>k_is); (case s16=>k_is); (case s17=>k_is); (case s18=>k_is); (case s19=>k_is); (case n0=>decide); (case n1=>decide); (case n2=>decide); (case n3=>decide); (case n4=>decide); (case n5=>decide); (case n6=>decide); (case n7=>decide); (case n8=>decide); (case n9=>decide); (case n10=>decide); (case n11=>decide); (case n12=>decide); (case v_C10=>(refine' K1.Zqe ?i ?ex ?sa ?mo ?na ?kp ?fn ?l ?c ?k ?b; (case i=>k_is); (case ex=>kernel_rfl); (case sa=>k_is); (case mo=>k_is); (case na=>k_is); (case kp=>k_is); (case fn=>k_is); (case l=>k_is); (case c=>k_is); (case k=>k_is); (case b=>exact fun _ _ _ _ _ _ us hl=>match us,hl with | [_,_],_=>rfl))); (case j_C0=>(refine' ⟨?_,?_,?_⟩ <;> k_is)); (case z_len=>k_is); (case z_range=>k_is); (case z_list=>k_is); (case z_tuple=>k_is); (case z_isinstance=>k_is); (case z_int=>k_is); (case z_bool=>k_is); (case z_all=>k_is); (case z_set=>k_is); (case z_sorted=>k_is); (case z_enumerate=>k_is); (case z_min=>k_is); (case z_zip=>k_is); (case z_sum=>k_is); (case z_ValueError=>k_is)
#print axioms PySem.Challenge.cw_squaresheet_k92_nothing_seen_holds
