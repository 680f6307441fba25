import PyProof.Rows.All
import Wide.All
import OpenK.AllK
import Wide.FinOn
import Lean
import PyProof.EqAt
import PyProof.EqKinds
import PyProof.TupleCall
import PyProof.Draws
import PyProof.EnumMake
import PyProof.WalksEnum
import PyProof.TupleIter
import PyProof.NeData
import PyProof.WalksMore
import PyProof.Rows.StrJoin2
import PyProof.StrWalks
import PyProof.StrBlockH
import PyProof.StrLawsTight
import PyProof.Rows.StrItems
import OpenK.KOwn
import PyProof.NsDelKeeps
import PyProof.RulesAs
import PyProof.ExcAttrAll.ValueError
import KE.KSortAsk
import KE.KSortTup
import PyProof.ZipIter
import PyProof.SumWalkG
import PyProof.MinMaxWalk
import PyProof.WalkInts
import PyProof.StrLawsChain
import PyProof.StrOps
import PyProof.FitsBits
import PyProof.CompUse
import PyProof.MaxThree
import PySem.Challenge.RW_squaresheet_k39_whole_comes_back
open PySem.W renaming Frag->Y00,findIn->Y0u,mg_none_of->Y0w,nsIn->Y12,fnOf->Y1l,kia_one->Y1m,emptyDict->Y1p,keepIn->Y1s,kitOne->Y20,instObj->Y21
open List renaming getElem?_eq_getElem->Y01,getElem?_eq_some_iff->Y04,range->Y05,mem_range->Y06,length_map->Y08,mem_append_right->Y09,mem_append->Y0b,size_toArray->Y0c,mem_of_getElem?->Y0d,length_append->Y0e,mem_map->Y0f,pairwise_append->Y0h,getD_eq_getElem?_getD->Y0i,append_assoc->Y0l,mem_cons_of_mem->Y0m,mem_singleton->Y0n,length_range->Y0p,nodup_iff_pairwise_ne->Y0q,mem_filter->Y0r,pairwise_map->Y0t,mem_cons->Y0v,length_take->Y0x,map_append->Y0y,getElem?_append_left->Y0z,getElem?_map->Y10,map_cons->Y13,filter_append->Y14,idxOf_lt_length_of_mem->Y16,getElem?_append_right->Y17,length_cons->Y18,append_nil->Y19,range_succ->Y1a,mem_take_iff_getElem->Y1b,getElem?_drop->Y1c,length_filter_le->Y1e,lookup_cons->Y1f,nodup_range->Y1g,take_add_one->Y1i,filter_cons_of_pos->Y1j,mem_iff_getElem->Y1k,take_append_drop->Y1q,mem_iff_getElem?->Y1r,mem_cons_self->Y1t,pairwise_iff_getElem->Y1v,drop_eq_getElem_cons->Y1w,mem_append_left->Y1y,filter_cons_of_neg->Y1z,getElem?_set_self->Y22,getElem?_eq_none->Y24
open PySem.Heap renaming get?_push_of_some->Y02,lt_size->Y07,get?_push_size->Y0a,get?_update_other->Y15,size_push->Y1u
open Nat renaming le_refl->Y03,lt_of_lt_of_le->Y0g,lt_or_ge->Y0j,ne_of_lt->Y0k,le_trans->Y0o,zero_le->Y0s,le_of_lt->Y11,zero_add->Y1d,lt_succ_of_lt->Y1h,not_lt_zero->Y1n,add_assoc->Y1o,add_sub_cancel->Y1x,lt_irrefl->Y23
set_option Elab.async false
set_option linter.all false
set_option maxRecDepth 100000
namespace L2
open PySem PySem.Spec PyProof.Rows
abbrev Key:=Sum Int Str
def Z6N:Key->Value->Bool
 | .inl k,v=>Value.isInt k v
 | .inr x,v=>Value.isStrOf x v
def keyH (w:World):Key->Int
 | .inl k=>hashInt k
 | .inr x=>hashStr w x
theorem Z0Q:∀ {k:Key} {v:Value},Z6N k v=true->(∃ i t,k=Sum.inl i/\v=Value.int i t)\/(∃ x t,k=Sum.inr x/\v=Value.str x t)
 | .inl i,v,h=>by
  obtain⟨t,e⟩:=Value.isInt_shape (k:=i) (v:=v) h
  exact .inl ⟨i,t,rfl,e⟩
 | .inr x,v,h=>by
  obtain⟨t,e⟩:=Value.isStrOf_shape (x:=x) (v:=v) h
  exact .inr ⟨x,t,rfl,e⟩
theorem Z99 (i:Int)(t:Tok):Z6N (.inl i) (.int i t)=true:=by simp[Z6N,Value.isInt]
theorem Z85 (x:Str)(t:Tok):Z6N (.inr x) (.str x t)=true:=by simp[Z6N,Value.isStrOf]
theorem ZdB (a b:Int):decide ((Sum.inl a:Key)=Sum.inl b)=(a == b):=by
 by_cases e:a=b
 ·subst e; simp
 ·have h:¬ (Sum.inl a:Key)=Sum.inl b:=fun q=>e (Sum.inl.inj q)
  rw[decide_eq_false h]
  exact (beq_eq_false_iff_ne.mpr e).symm
theorem Zeg (a b:Str):decide ((Sum.inr a:Key)=Sum.inr b)=decide (a=b):=by
 by_cases e:a=b
 ·subst e; simp
 ·have h:¬ (Sum.inr a:Key)=Sum.inr b:=fun q=>e (Sum.inr.inj q)
  rw[decide_eq_false h,decide_eq_false e]
theorem Zei (a:Int)(b:Str):decide ((Sum.inl a:Key)=Sum.inr b)=false:=decide_eq_false (fun q=>nomatch q)
theorem Zd1 (a:Str)(b:Int):decide ((Sum.inr a:Key)=Sum.inl b)=false:=decide_eq_false (fun q=>nomatch q)
def Z0W (prog:Program)(w:World):PySem.KeyKind prog w Key where
 is:=Z6N
 hash:=keyH w
 inj:=fun v a b ha hb=>by
  rcases Z0Q ha with ⟨i,t,rfl,rfl⟩ | ⟨x,t,rfl,rfl⟩
  ·rcases Z0Q hb with ⟨j,u,rfl,e⟩ | ⟨y,u,rfl,e⟩
   ·injection e with e1 _; rw[e1]
   ·exact nomatch e
  ·rcases Z0Q hb with ⟨j,u,rfl,e⟩ | ⟨y,u,rfl,e⟩
   ·exact nomatch e
   ·injection e with e1 _; rw[e1]
 byValue:=fun k v h=>by
  rcases Z0Q h with ⟨i,t,rfl,rfl⟩ | ⟨x,t,rfl,rfl⟩ <;> rfl
 pyHash:=fun hv h=>by
  rcases Z0Q hv with ⟨i,t,rfl,rfl⟩ | ⟨x,t,rfl,rfl⟩
  ·exact wpAny_pyHash_int h
  ·exact wpAny_pyHash_str h
 eqBool:=fun hu hv h=>by
  rcases Z0Q hu with ⟨i,t,rfl,rfl⟩ | ⟨x,t,rfl,rfl⟩
  ·rcases Z0Q hv with ⟨j,u,rfl,rfl⟩ | ⟨y,u,rfl,rfl⟩
   ·rw[ZdB]at h; exact wpAny_eqBool_int h
   ·rw[Zei]at h; exact SeqAt.EqAt.int_str i t y u _ _ _ _ h
  ·rcases Z0Q hv with ⟨j,u,rfl,rfl⟩ | ⟨y,u,rfl,rfl⟩
   ·rw[Zd1]at h; exact SeqAt.EqAt.str_int x t j u _ _ _ _ h
   ·rw[Zeg]at h; exact wpAny_eqBool_str h
 «strs»:=fun k x t v h=>by
  rcases Z0Q h with ⟨i,u,rfl,e⟩ | ⟨y,u,rfl,e⟩
  ·exact nomatch e
  ·injection e with e1 _
   subst e1
   cases v <;> rfl
theorem Z49 (prog:Program)(w:World)(i:Int)(t:Tok):(Z0W prog w).is (.inl i) (.int i t)=true:=Z99 i t
theorem Z4v (prog:Program)(w:World)(x:Str)(t:Tok):(Z0W prog w).is (.inr x) (.str x t)=true:=Z85 x t
inductive V where
 | non | bl (b:Bool) | int (i:Int) | str (x:Str) | byt (b:Array UInt8) | flt (b:UInt64) | ref (a:Addr) | ty (n:String)
 deriving DecidableEq
def Z17:V->Value->Prop
 | .non,u=>u=Value.none
 | .bl b,u=>u=Value.bool b
 | .int i,u=>∃ t,u=Value.int i t
 | .str x,u=>∃ t,u=Value.str x t
 | .byt b,u=>∃ t,u=Value.bytes b t
 | .flt b,u=>∃ t,u=Value.float b t
 | .ref a,u=>u=Value.ref a
 | .ty n,u=>u=Value.type n
abbrev Z13:List V->List Value->Prop:=Paired Z17
theorem Z13.length {xs:List V}{us:List Value}(r:Z13 xs us):xs.length=us.length:=Paired.length r
theorem Z13.get:∀ {xs:List V} {us:List Value} {i:Nat} {x:V},Z13 xs us->xs[i]?=some x->∃ u,us[i]?=some u/\Z17 x u
 | _,_,_,_,.nil,e=>by simp at e
 | _,_,0,_,.cons r _,e=>by simp at e; subst e; exact⟨_,rfl,r⟩
 | _,_,i+1,x,.cons _ t,e=>by
  obtain⟨u,h1,h2⟩:=Z13.get (i:=i) (x:=x) t (by simpa using e)
  exact⟨u,by simpa using h1,h2⟩
theorem Z13.set {x:V}{u:Value}(r:Z17 x u):∀ {xs:List V} {us:List Value} (i:Nat),Z13 xs us->Z13 (xs.set i x) (us.set i u)
 | _,_,_,.nil=>.nil
 | _,_,0,.cons _ t=>.cons r t
 | _,_,i+1,.cons q t=>.cons q (Z13.set r i t)
theorem Z13.append:∀ {xs ys:List V} {us ws:List Value},Z13 xs us->Z13 ys ws->Z13 (xs++ys) (us++ws)
 | _,_,_,_,.nil,s=>s
 | _,_,_,_,.cons r t,s=>.cons r (Z13.append t s)
def Z6i:Option V->Option Value->Prop
 | some v,some u=>Z17 v u
 | none,none=>True
 | _,_=>False
def KV {κ:Type}:List (κ×V)->List (κ×Value)->Prop:=Paired fun (p:κ×V) (q:κ×Value)=>p.1=q.1/\Z17 p.2 q.2
def kV:Key->V
 | .inl i=>.int i
 | .inr x=>.str x
inductive HO where
 | lst (xs:List V)
 | tup (xs:List V)
 | dK (kvs:List (Key×V)) | dT (kvs:List (List Key×V))
 | set (S:Int->Bool) (n:Nat)
 | ins (C dx:Addr) (fs:List (Str×V))
 | own (x:Addr)
 | xd (fs:List (Str×V))
 | met (f x:Addr)
 | rng (lo hi:Int)
 | frz (o:Obj) (u:HO)
 | tbl (ps:Array Value)
 | ext (φ:Heap->Prop)
abbrev Hp:=Addr->Option HO
def upd (H:Hp)(a:Addr)(o:HO):Hp:=fun b=>if b=a then some o else H b
theorem Z06 {H:Hp}{a:Addr}{o:HO}:upd H a o a=some o:=by unfold upd; rw[if_pos rfl]
theorem Z0i {H:Hp}{a b:Addr}{o:HO}(h:b≠a):upd H a o b=H b:=by unfold upd; rw[if_neg h]
theorem ZfM {H:Hp}{a b:Addr}{o u:HO}(h:H a=some o)(h':H b=some u)(d:o≠u):a≠b:=by
 intro e; subst e; rw[h]at h'; exact d (Option.some.inj h')
theorem Z0s {H:Hp}{a b:Addr}{o:HO}(h:H a=some o)(h':H b=none):a≠b:=by
 intro e; subst e; rw[h]at h'; cases h'
section
variable (P:Program)(w:World)
def NoD (h:Heap)(a:Addr):Prop:=∃ o,h.get? a=some o/\o.dict=none
def Z1j (H:Hp)(h:Heap)(a:Addr):HO->Prop
 | .lst xs=>xs.length<=sizeLine/\∃ (its:List Value) (n:Nat),Z13 xs its/\h.get? a=some { cls:=.type "list",data:=.seq its.toArray n }
 | .tup xs=>(xs.length<=sizeLine/\NoD h a)/\∃ its:List Value,Z13 xs its/\IsTup h a its.toArray
 | .dK kvs=>kvs.length<=sizeLine/\(a == sysModules)=false/\∃ vs,KV kvs vs/\h.DictOf (Z0W P w) a vs
 | .dT kvs=>kvs.length<=sizeLine/\(a == sysModules)=false/\∃ xs:List (List Key×Addr×Value),
   Paired (fun (p:List Key×V) (q:List Key×Addr×Value)=>p.1=q.1/\H q.2.1=some (.tup (p.1.map kV))/\Z17 p.2 q.2.2) kvs xs/\
   ∃ o es ep,h.get? a=some o/\o.ExactDict/\o.data=.dict es ep/\es.toList=xs.map (entryOfKey (tupleKind (Z0W P w)))/\(xs.map (·.1)).Nodup
 | .set S n=>h.SetOf (intKind P w) a S n
 | .ins C dx fs=>H dx=some (.own a)/\fs.length<=1000/\dx≠a/\h.get? a=some (Y21 C dx)/\
   ∃ mA,h.Ns1 dx mA/\(∀ f,Z6i (fs.lookup f) (mA f))/\PySem.Within mA (fs.map (·.1))
 | .own _=>∃ o,h.get? a=some o
 | .xd fs=>∃ mA,h.Ns1 a mA/\∀ f,Z6i (fs.lookup f) (mA f)
 | .rng lo hi=>∃ t u v,h.get? a=some { cls:=.type "range",data:=.fields #[.int lo t,.int hi u,.int 1 v] }
 | .frz o u=>h.get? a=some o/\Z1j H h a u
 | .tbl ps=>h.get? a=some { cls:=.none,data:=.fields ps }
 | .met f x=>h.get? a=some (PySem.W.methodObj (.ref f) (.ref x))
 | .ext φ=>φ h/\(∃ o,h.get? a=some o)/\∀ h1 h2:Heap,φ h1->(∀ o,h1.get? a=some o->h2.get? a=some o)->φ h2
def HOk (H:Hp)(h:Heap):Prop:=∀ a o,H a=some o->Z1j P w H h a o
end
section
variable {P:Program}{w:World}{H H':Hp}{h h':Heap}{a:Addr}{o:HO}
theorem Z1j.lt (x:Z1j P w H h a o):a < h.objs.size:=by
 cases o with
 | lst xs=>obtain⟨_,_,_,_,e⟩:=x; exact Y07 e
 | tup xs=>obtain⟨_,_,_,p⟩:=x; exact p.lt
 | dK kvs=>obtain⟨_,_,_,_,o,_,_,e,_⟩:=x; exact Y07 e
 | dT kvs=>obtain⟨_,_,_,_,o,_,_,e,_⟩:=x; exact Y07 e
 | set S n=>obtain⟨o,_,_,_,e,_⟩:=x; exact Y07 e
 | ins C dx fs=>obtain⟨_,_,_,e,_⟩:=x; exact Y07 e
 | own y=>obtain⟨_,e⟩:=x; exact Y07 e
 | xd fs=>obtain⟨_,⟨_,_,_,e,_⟩,_⟩:=x; exact Y07 e
 | rng lo hi=>obtain⟨_,_,_,e⟩:=x; exact Y07 e
 | frz ob u=>obtain⟨e,_⟩:=x; exact Y07 e
 | tbl ps=>exact Y07 (show h.get? a=some _ from x)
 | met f y=>exact Y07 (show h.get? a=some _ from x)
 | ext φ=>obtain⟨_,⟨_,e⟩,_⟩:=x; exact Y07 e
theorem Paired.mapP {α β:Type}{F G:α->β->Prop}:∀ {l₁:List α} {l₂:List β},Paired F l₁ l₂->(∀ a b,F a b->G a b)->Paired G l₁ l₂
 | _,_,.nil,_=>.nil
 | _,_,.cons r t,f=>.cons (f _ _ r) (Paired.mapP t f)
theorem Z1j.stay (x:Z1j P w H h a o)(k:∀ b u,(b=a\/H b=some (.own a))->h.get? b=some u->h'.get? b=some u)
  (ho:∀ b,H b=some (.own a)->H' b=some (.own a)) (ht:∀ b xs,H b=some (.tup xs)->H' b=some (.tup xs)):Z1j P w H' h' a o:=by
 induction o with
 | lst xs=>obtain⟨z,its,n,r,e⟩:=x; exact⟨z,its,n,r,k _ _ (.inl rfl) e⟩
 | tup xs=>obtain⟨z,its,r,ob,e,c⟩:=x; exact⟨⟨z.1,z.2.imp fun _ q=>⟨k _ _ (.inl rfl) q.1,q.2⟩⟩,its,r,ob,k _ _ (.inl rfl) e,c⟩
 | dK kvs=>obtain⟨z,y,vs,r,ob,es,ep,e,c⟩:=x; exact⟨z,y,vs,r,ob,es,ep,k _ _ (.inl rfl) e,c⟩
 | dT kvs=>
  obtain⟨z,y,xs,r,ob,es,ep,e,c⟩:=x
  exact⟨z,y,xs,Paired.mapP r fun p q z=>⟨z.1,ht _ _ z.2.1,z.2.2⟩,ob,es,ep,k _ _ (.inl rfl) e,c⟩
 | set S n=>obtain⟨ob,es,ep,t,e,c⟩:=x; exact⟨ob,es,ep,t,k _ _ (.inl rfl) e,c⟩
 | ins C dx fs=>
  obtain⟨d,z,ne,e,mA,⟨od,es,ep,e2,c⟩,r⟩:=x
  exact⟨ho _ d,z,ne,k _ _ (.inl rfl) e,mA,⟨od,es,ep,k _ _ (.inr d) e2,c⟩,r⟩
 | own y=>obtain⟨ob,e⟩:=x; exact⟨ob,k _ _ (.inl rfl) e⟩
 | xd fs=>obtain⟨mA,⟨od,es,ep,e,c⟩,r⟩:=x; exact⟨mA,⟨od,es,ep,k _ _ (.inl rfl) e,c⟩,r⟩
 | rng lo hi=>obtain⟨t,u,v,e⟩:=x; exact⟨t,u,v,k _ _ (.inl rfl) e⟩
 | frz ob u ih=>obtain⟨e,q⟩:=x; exact⟨k _ _ (.inl rfl) e,ih q⟩
 | tbl ps=>
  have e:h.get? a=some { cls:=.none,data:=.fields ps }:=x
  show h'.get? a=some { cls:=.none,data:=.fields ps }
  exact k a _ (.inl rfl) e
 | met f y=>
  have e:h.get? a=some (PySem.W.methodObj (.ref f) (.ref y)):=x
  show h'.get? a=some (PySem.W.methodObj (.ref f) (.ref y))
  exact k a _ (.inl rfl) e
 | ext φ=>obtain⟨p,⟨o,e⟩,st⟩:=x; exact⟨st _ _ p fun o q=>k _ _ (.inl rfl) q,⟨o,k _ _ (.inl rfl) e⟩,st⟩
theorem HOk.lt (x:HOk P w H h)(e:H a=some o):a < h.objs.size:=(x a o e).lt
theorem HOk.fresh (x:HOk P w H h)(e:h.objs.size<=a):H a=none:=by
 cases q:H a with
 | none=>rfl
 | some u=>exact absurd (Y0g (x.lt q) e) (Y23 _)
theorem HOk.kept (x:HOk P w H h)(k:∀ b u,h.get? b=some u->h'.get? b=some u):HOk P w H h':=fun a o e=>
 (x a o e).stay (fun b u _ q=>k b u q) (fun _ q=>q) fun _ _ q=>q
theorem HOk.laid (x:HOk P w H h)(k:∀ b u,h.get? b=some u->h'.get? b=some u)(hp:h.objs.size<=a)(new:Z1j P w (upd H a o) h' a o):HOk P w (upd H a o) h':=fun b u e=>by
 have hn:=x.fresh hp
 by_cases hb:b=a
 ·subst hb; rw[Z06]at e; cases e; exact new
 ·rw[Z0i hb]at e
  exact (x b u e).stay (fun c v _ q=>k c v q) (fun c q=>by rw[Z0i (Z0s q hn)]; exact q) fun c xs q=>by rw[Z0i (Z0s q hn)]; exact q
end
def Rd (H:Hp)(a:Addr)(u:HO):Prop:=H a=some u\/∃ o,H a=some (.frz o u)
theorem Rd.ok {P:Program}{w:World}{H:Hp}{h:Heap}{a:Addr}{u:HO}(r:Rd H a u)(x:HOk P w H h):Z1j P w H h a u:=by
 rcases r with r | ⟨o,r⟩
 ·exact x a u r
 ·obtain⟨_,q⟩:=x a _ r
  exact q
def Mut:Option HO->Prop
 | some (.lst _)=>True
 | some (.dK _)=>True
 | some (.dT _)=>True
 | some (.set _ _)=>True
 | some (.ins _ _ _)=>True
 | some (.ext _)=>True
 | _=>False
section
variable {P:Program}{w:World}{H:Hp}{h h':Heap}{x e:Addr}{o':HO}
theorem HOk.write (ok:HOk P w H h)(mu:Mut (H x))(he:e=x\/H e=some (.own x))(k:∀ b u,b≠e->h.get? b=some u->h'.get? b=some u)(heo:∃ u,h'.get? e=some u)
  (new:Z1j P w (upd H x o') h' x o'):HOk P w (upd H x o') h':=fun b u q=>by
 have nown:∀ c y,H c=some (.own y)->c≠x:=fun c y r z=>by subst z; rw[r]at mu; exact mu
 have ntup:∀ c xs,H c=some (.tup xs)->c≠x:=fun c xs r z=>by subst z; rw[r]at mu; exact mu
 by_cases hb:b=x
 ·subst hb; rw[Z06]at q; cases q; exact new
 ·rw[Z0i hb]at q
  by_cases hbe:b=e
  ·have q':H b=some (.own x):=by
    rcases he with z | z
    ·exact absurd (hbe.trans z) hb
    ·rw[hbe]; exact z
   rw[q]at q'; cases q'
   obtain⟨v,hv⟩:=heo
   exact⟨v,by rw[hbe]; exact hv⟩
  ·refine (ok b u q).stay (fun c v hc r=>k c v ?_ r) (fun c r=>by rw[Z0i (nown c b r)]; exact r) fun c xs r=>by rw[Z0i (ntup c xs r)]; exact r
   rcases hc with rfl | hc
   ·exact hbe
   ·rintro rfl
    rcases he with z | z
    ·exact nown c b hc z
    ·rw[hc]at z; cases z; exact hb rfl
end
structure Un (fs ex:List Addr)(H H':Hp)(h h':Heap):Prop where
 keep:∀ b o,h.get? b=some o->H b=none->b∉fs->b∉ex->h'.get? b=some o
 slot:∀ b o,h.get? b=some o->H b=none->b∈fs->b∉ex->∃ sl,h'.get? b=some { o with slots:=sl }
 free:∀ b o,h.get? b=some o->H b=none->b∉ex->H' b=none
 there:∀ b o,h.get? b=some o->b∉ex->∃ o',h'.get? b=some o'
 tups:∀ b xs,H b=some (.tup xs)->H' b=some (.tup xs)
 frzs:∀ b o u,H b=some (.frz o u)->H' b=some (.frz o u)
 tbls:∀ b ps,H b=some (.tbl ps)->∃ more,H' b=some (.tbl (ps++more))
section
variable {fs fs' ex ex':List Addr}{H H1 H2:Hp}{h h1 h2 h':Heap}{a x e:Addr}{o:HO}
theorem Un.any (u:Un fs ex H H1 h h1){b:Addr}{ob:Obj}(q:h.get? b=some ob)(n:H b=none)(hx:b∉ex):∃ sl,h1.get? b=some { ob with slots:=sl }:=by
 by_cases hb:b∈fs
 ·exact u.slot b ob q n hb hx
 ·exact⟨ob.slots,u.keep b ob q n hb hx⟩
theorem Un.kept (k:∀ b u,h.get? b=some u->h'.get? b=some u):Un fs ex H H h h':=
 ⟨fun b ob q _ _ _=>k b ob q,fun b ob q _ _ _=>⟨ob.slots,k b ob q⟩,fun _ _ _ n _=>n,fun b ob q _=>⟨ob,k b ob q⟩,fun _ _ q=>q,fun _ _ _ q=>q,fun _ ps q=>⟨#[],by rw[q]; simp⟩⟩
theorem Un.refl:Un fs ex H H h h:=Un.kept fun _ _ q=>q
theorem Un.laid (k:∀ b u,h.get? b=some u->h'.get? b=some u)(hp:h.objs.size<=a)(hn:H a=none):Un fs ex H (upd H a o) h h' where
 keep:=fun b u q _ _ _=>k b u q
 slot:=fun b u q _ _ _=>⟨u.slots,k b u q⟩
 free:=fun b u q n _=>by rw[Z0i (Y0k (Y0g (Y07 q) hp))]; exact n
 there:=fun b u q _=>⟨u,k b u q⟩
 tups:=fun b xs q=>by rw[Z0i (Z0s q hn)]; exact q
 frzs:=fun b u xs q=>by rw[Z0i (Z0s q hn)]; exact q
 tbls:=fun b ps q=>⟨#[],by rw[Z0i (Z0s q hn),q]; simp⟩
theorem Un.write (mu:Mut (H x))(he:e=x\/H e=some (.own x))(k:∀ b u,b≠e->h.get? b=some u->h'.get? b=some u)(heo:∃ u,h'.get? e=some u):Un fs ex H (upd H x o) h h':=by
 have hx:∀ b,H b=none->b≠x:=fun b n z=>by subst z; rw[n]at mu; exact mu
 have hb:∀ b,H b=none->b≠e:=fun b n z=>by
  subst z
  rcases he with r | r
  ·exact hx b n r
  ·rw[n]at r; cases r
 have hm:∀ b u,H b=some u->¬ Mut (some u)->b≠x:=fun b u q nm z=>by subst z; rw[q]at mu; exact nm mu
 refine⟨fun b u q n _ _=>k b u (hb b n) q,fun b u q n _ _=>⟨u.slots,k b u (hb b n) q⟩,fun b u q n _=>by rw[Z0i (hx b n)]; exact n,fun b u q _=>?_,
  fun b xs q=>by rw[Z0i (hm b _ q fun z=>z)]; exact q,fun b u xs q=>by rw[Z0i (hm b _ q fun z=>z)]; exact q,fun b ps q=>⟨#[],by rw[Z0i (hm b _ q fun z=>z),q]; simp⟩⟩
 by_cases hbe:b=e
 ·subst hbe; exact heo
 ·exact⟨u,k b u hbe q⟩
end
def trk (h:Heap)(H:Hp):List Addr:=(Y05 h.objs.size).filter fun a=>(H a).isSome
def Za5 (h:Heap)(H:Hp):Heap:=PySem.W.hideAll h (trk h H)
theorem Z86 (h:Heap)(H:Hp):(Za5 h H).objs.size=h.objs.size:=PySem.W.hideAll_size _ _
theorem ZaE {h:Heap}{H:Hp}{b:Addr}{o:Obj}(e:h.get? b=some o)(n:H b=none):(Za5 h H).get? b=some o:=
 PySem.W.hideAll_get _ e fun hm=>by
  have q:(H b).isSome=true:=(Y0r.mp hm).2
  rw[n]at q; simp at q
theorem ZbI {h:Heap}{H:Hp}{b:Addr}{o:Obj}(e:(Za5 h H).get? b=some o):h.get? b=some o/\H b=none:=by
 have e':h.get? b=some o:=PySem.W.of_hideAll (trk h H) e
 refine⟨e',?_⟩
 cases q:H b with
 | none=>rfl
 | some x=>
  have hm:b∈trk h H:=Y0r.mpr ⟨Y06.mpr (Y07 e'),by simp[q]⟩
  have z:(Za5 h H).get? b=none:=PySem.W.hideAll_none (trk h H) hm
  rw[z]at e; cases e
structure Mod (K:Y00)(mg:Str->Option Value)(base:Heap):Prop where
 kin:K.In base
 glob:base.Ns mainGlobals mg
 blt:∃ mb,base.Ns builtinsNs mb/\∀ x:Str,x≠"__name__"->mb x=bootBuiltins x
 nolimit:base.NoLimit
structure Cx where
 prog:Program
 w:World
 K:Y00
 mg:Str->Option Value
 base:Heap
 A:Around
 N:List Str
 s₀:Shared
 H₀:Hp
 env:Env
 outer:List Env
 stack:List Env
 ex:List Addr
 fn:Str->Bool
 calm:Bool
 pn:List (Addr×Obj)
 xe:Value->Shared->Prop
def frs (l:List Env):List Addr:=l.filterMap (·.frame)
abbrev Cx.fs (X:Cx):List Addr:=frs X.outer
def Vis (sc:Scope)(x:Str):Prop:=sc.names.lookup x=some .local\/sc.names.lookup x=some .cell\/sc.names.lookup x=some .free
def Loc (sc:Scope)(x:Str):Prop:=sc.names.lookup x=some .local\/sc.names.lookup x=some .cell
def Look (env:Env)(h:Heap)(m:Str->Option Value)(x:Str)(u:Value):Prop:=
 (env.kindOf x=some .local/\m x=some u)\/((env.kindOf x=some .cell\/env.kindOf x=some .free)/\∃ c,env.cells.lookup x=some c/\h.IsCell c (some u))
structure Cx.Ok (X:Cx):Prop where
 mod:Mod X.K X.mg X.base
 kind:X.env.scope.kind=.function
 glob:X.env.globals=mainGlobals
 blt:X.env.builtins=builtinsNs
 above:X.s₀.heap.objs.size<=X.env.locals
 inj:∀ x y c,X.env.cells.lookup x=some c->X.env.cells.lookup y=some c->x=y
 has:∀ x,(X.env.kindOf x=some .cell\/X.env.kindOf x=some .free)->∃ c,X.env.cells.lookup x=some c
 cab:∀ x c,X.fn x=true->X.env.cells.lookup x=some c->X.s₀.heap.objs.size<=c
 hd:X.calm=true->X.A.handled=none
 frames:X.A.frames=some X.stack
 stk:X.stack=X.outer\/(X.stack=X.env :: X.outer/\X.env.frame=some X.env.locals)
 exf:∀ b∈X.ex,b≠X.env.locals/\∀ x c,X.env.cells.lookup x=some c->c≠b
 bs:∀ b o,X.base.get? b=some o->X.s₀.heap.get? b=some o/\X.H₀ b=none
 bsz:X.base.objs.size<=X.s₀.heap.objs.size
 noex:∀ b o,X.base.get? b=some o->b∉X.ex
 exfs:∀ b∈X.ex,b∉X.fs
 funs:X.s₀.heap.FunFrames X.base X.outer
 frf:∀ b∈X.fs,X.H₀ b=none
structure Inv (X:Cx)(pins:List (Addr×Obj))(σ:List (Option V))(H:Hp)(s:Shared):Prop where
 ok:X.Ok
 os:s.os=X.s₀.os
 bare:AllBare s.gens
 base:Un X.fs X.ex X.H₀ H X.s₀.heap s.heap
 loc:∃ m,s.heap.Ns X.env.locals m/\∀ (i:Nat) (x:Str) (v:V),X.N[i]?=some x->σ[i]?=some (some v)->Vis X.env.scope x->∃ u,Z17 v u/\Look X.env s.heap m x u
 cell:∀ x c,X.env.cells.lookup x=some c->∃ v,s.heap.IsCell c v
 free:H X.env.locals=none
 freeC:∀ x c,X.env.cells.lookup x=some c->H c=none
 pin:∀ p∈X.pn++pins,s.heap.get? p.1=some p.2/\H p.1=none/\p.1≠X.env.locals/\p.1∉X.fs/\∀ v,p.2.data≠.cell v
 hok:HOk X.prog X.w H s.heap
 len:σ.length=X.N.length
section
variable {X:Cx}{pins:List (Addr×Obj)}{σ:List (Option V)}{H H':Hp}{s:Shared}{h':Heap}
theorem Cx.Ok.nofr (ok:X.Ok){b:Addr}{o:Obj}(e:X.base.get? b=some o):b∉X.fs:=fun hb=>by
 have:=(ok.funs.mem hb).1
 rw[e]at this; cases this
theorem Inv.bs (I:Inv X pins σ H s):∀ b o,X.base.get? b=some o->s.heap.get? b=some o/\H b=none:=fun b o e=>
 ⟨I.base.keep b o (I.ok.bs b o e).1 (I.ok.bs b o e).2 (I.ok.nofr e) (I.ok.noex b o e),I.base.free b o (I.ok.bs b o e).1 (I.ok.bs b o e).2 (I.ok.noex b o e)⟩
theorem Inv.bk (I:Inv X pins σ H s):∀ b o,X.base.get? b=some o->s.heap.get? b=some o:=fun b o e=>(I.bs b o e).1
theorem Inv.mod (I:Inv X pins σ H s):Mod X.K X.mg X.base:=I.ok.mod
theorem Inv.kIn (I:Inv X pins σ H s):X.K.In s.heap:=I.ok.mod.kin.keeps I.bk
theorem Inv.lt (I:Inv X pins σ H s):X.env.locals < s.heap.objs.size:=let ⟨_,hn,_⟩:=I.loc; hn.lt
theorem Inv.sz (I:Inv X pins σ H s):X.s₀.heap.objs.size<=s.heap.objs.size:=Y0o I.ok.above (Y11 I.lt)
theorem Inv.nofs (I:Inv X pins σ H s){a:Addr}(h:s.heap.objs.size<=a):a∉X.fs:=fun hb=>by
 obtain⟨_,o,ho,_⟩:=I.ok.funs.mem hb
 exact absurd (Y0g (Y07 ho) (Y0o I.sz h)) (Y23 _)
theorem Inv.cne (I:Inv X pins σ H s):∀ x c,X.env.cells.lookup x=some c->c≠X.env.locals:=fun x c e z=>by
 obtain⟨v,o,ho,hd⟩:=I.cell x c e
 obtain⟨m,⟨o',es,ep,ho',hd',_⟩,_⟩:=I.loc
 rw[z,ho']at ho; cases ho; rw[hd']at hd; cases hd
theorem Inv.funs (I:Inv X pins σ H s):s.heap.FunFrames X.base X.outer:=by
 have all:∀ (l:List Env),(∀ b∈frs l,b∈X.fs)->X.s₀.heap.FunFrames X.base l->s.heap.FunFrames X.base l:=by
  intro l
  induction l with
  | nil=>intro _ _; trivial
  | cons env r ih=>
   intro hs hl
   obtain⟨hk,⟨L,o,hf,hn,ho,hd⟩,hr⟩:=hl
   have hL:L∈X.fs:=hs L (by unfold frs; rw[List.filterMap_cons,hf]; exact Y1t)
   obtain⟨sl,e⟩:=I.base.slot L o ho (I.ok.frf L hL) hL fun z=>I.ok.exfs L z hL
   exact⟨hk,⟨L,_,hf,hn,e,hd⟩,ih (fun b hb=>hs b (by unfold frs; rw[List.filterMap_cons,hf]; exact Y0m _ hb)) hr⟩
 exact all X.outer (fun _ hb=>hb) I.ok.funs
theorem Inv.stack (I:Inv X pins σ H s):s.heap.FunFrames X.base X.stack:=by
 rcases I.ok.stk with e | ⟨e,hf⟩
 ·rw[e]; exact I.funs
 ·rw[e]
  obtain⟨m,hn,_⟩:=I.loc
  refine .cons (by rw[I.ok.kind]; decide) hf hn ?_ I.funs
  exact Heap.get?_none_of_le (Y0o I.ok.bsz I.ok.above)
theorem Inv.stkSub (I:Inv X pins σ H s):∀ b∈frs X.stack,b∈X.env.locals :: X.fs:=fun b hb=>by
 rcases I.ok.stk with e | ⟨e,hf⟩
 ·rw[e]at hb; exact Y0m _ hb
 ·rw[e]at hb
  unfold frs at hb
  rw[List.filterMap_cons,hf]at hb
  exact hb
theorem Inv.stkFree (I:Inv X pins σ H s):∀ b∈frs X.stack,H b=none:=fun b hb=>by
 rcases Y0v.mp (I.stkSub b hb) with e | hb
 ·rw[e]; exact I.free
 ·obtain⟨_,o,ho,_⟩:=I.ok.funs.mem hb
  exact I.base.free b o ho (I.ok.frf b hb) fun z=>I.ok.exfs b z hb
theorem Inv.step {g':Array GenState}{t':Nat}{d':Drawn}{ch:List Addr}(I:Inv X pins σ H s)
  (hch:∀ b∈ch,(b∈X.ex\/X.s₀.heap.objs.size<=b)/\b≠X.env.locals/\(∀ x c,X.env.cells.lookup x=some c->c≠b)/\∀ p∈X.pn++pins,p.1≠b)
  (keep:∀ b o,b≠X.env.locals->b∉X.fs->b∉ch->s.heap.get? b=some o->H b=none->h'.get? b=some o)
  (slot:∀ b o,b≠X.env.locals->b∈X.fs->b∉ch->s.heap.get? b=some o->H b=none->∃ sl,h'.get? b=some { o with slots:=sl }) (free:∀ b o,b∉ch->s.heap.get? b=some o->H b=none->H' b=none)
  (there:∀ b o,b∉ch->s.heap.get? b=some o->∃ o',h'.get? b=some o')
  (tups:∀ b xs,H b=some (.tup xs)->H' b=some (.tup xs)) (frzs:∀ b o u,H b=some (.frz o u)->H' b=some (.frz o u)) (tbls:∀ b ps,H b=some (.tbl ps)->∃ more,H' b=some (.tbl (ps++more)))
  (ns:∀ m,s.heap.Ns X.env.locals m->h'.Ns X.env.locals m) (hok:HOk X.prog X.w H' h') (hg:AllBare g') :
  Inv X pins σ H' { s with heap:=h',gens:=g',drawn:=d',toks:=t' }:=by
 have neL:∀ b o,X.s₀.heap.get? b=some o->b≠X.env.locals:=fun b o e=>Y0k (Y0g (Y07 e) I.ok.above)
 have neC:∀ b o,X.s₀.heap.get? b=some o->b∉X.ex->b∉ch:=fun b o e hx hb=>by
  rcases (hch b hb).1 with z | z
  ·exact hx z
  ·exact absurd (Y0g (Y07 e) z) (Y23 _)
 have cellK:∀ x c,X.env.cells.lookup x=some c->∀ v,s.heap.IsCell c v->h'.IsCell c v:=fun x c e v ⟨o,ho,hd⟩=>by
  have nch:c∉ch:=fun z=>(hch c z).2.2.1 x c e rfl
  by_cases hc:c∈X.fs
  ·obtain⟨sl,q⟩:=slot c o (I.cne x c e) hc nch ho (I.freeC x c e)
   exact⟨_,q,hd⟩
  ·exact⟨o,keep c o (I.cne x c e) hc nch ho (I.freeC x c e),hd⟩
 refine⟨I.ok,I.os,hg,⟨fun b o e n hb hx=>?_,fun b o e n hb hx=>?_,fun b o e n hx=>?_,fun b o e hx=>?_,fun b xs e=>tups b xs (I.base.tups b xs e),fun b o xs e=>frzs b o xs (I.base.frzs b o xs e),fun b ps e=>?_⟩,?_,fun x c e=>?_,?_,fun x c e=>?_,fun p hp=>?_,hok,I.len⟩
 ·exact keep b o (neL b o e) hb (neC b o e hx) (I.base.keep b o e n hb hx) (I.base.free b o e n hx)
 ·obtain⟨sl,e1⟩:=I.base.slot b o e n hb hx
  obtain⟨sl',e2⟩:=slot b _ (neL b o e) hb (neC b o e hx) e1 (I.base.free b o e n hx)
  exact⟨sl',e2⟩
 ·obtain⟨o',e1⟩:=I.base.there b o e hx
  exact free b o' (neC b o e hx) e1 (I.base.free b o e n hx)
 ·obtain⟨o',e1⟩:=I.base.there b o e hx
  exact there b o' (neC b o e hx) e1
 ·obtain⟨m1,e1⟩:=I.base.tbls b ps e
  obtain⟨m2,e2⟩:=tbls b _ e1
  exact⟨m1++m2,by rw[e2,Array.append_assoc]⟩
 ·obtain⟨m,hn,hl⟩:=I.loc
  refine⟨m,ns m hn,fun i x v e1 e2 e3=>?_⟩
  obtain⟨u,r,l⟩:=hl i x v e1 e2 e3
  refine⟨u,r,?_⟩
  rcases l with l | ⟨k,c,e,z⟩
  ·exact .inl l
  ·exact .inr ⟨k,c,e,cellK x c e _ z⟩
 ·obtain⟨v,z⟩:=I.cell x c e
  exact⟨v,cellK x c e v z⟩
 ·obtain⟨m,⟨o,_,_,ho,_⟩,_⟩:=I.loc
  exact free _ o (fun z=>(hch _ z).2.1 rfl) ho I.free
 ·obtain⟨v,o,ho,hd⟩:=I.cell x c e
  exact free c o (fun z=>(hch c z).2.2.1 x c e rfl) ho (I.freeC x c e)
 ·obtain⟨e,n,ne,nf,d⟩:=I.pin p hp
  have nch:p.1∉ch:=fun z=>(hch p.1 z).2.2.2 p hp rfl
  exact⟨keep p.1 p.2 ne nf nch e n,free p.1 p.2 nch e n,ne,nf,d⟩
theorem Inv.un {t':Nat}(I:Inv X pins σ H s)(u:Un X.fs [] H H' s.heap h')(hok:HOk X.prog X.w H' h'):Inv X pins σ H' { s with heap:=h',toks:=t' }:=by
 obtain⟨m,⟨o,es,ep,ho,r⟩,_⟩:=id I.loc
 obtain⟨sl,hL⟩:=u.any ho I.free (by simp)
 exact I.step (g':=s.gens) (d':=s.drawn) (ch:=[]) (fun _ z=>nomatch z) (fun b o _ hb _ e n=>u.keep b o e n hb (by simp)) (fun b o _ hb _ e n=>u.slot b o e n hb (by simp)) (fun b o _ e n=>u.free b o e n (by simp)) (fun b o _ e=>u.there b o e (by simp)) u.tups u.frzs u.tbls (fun m' hm=>by
  obtain⟨o',es',ep',ho',r'⟩:=hm
  rw[ho]at ho'; cases ho'
  exact⟨_,es',ep',hL,r'⟩) hok I.bare
theorem Inv.call {g':Array GenState}{t':Nat}{d':Drawn}{ch:List Addr}(I:Inv X pins σ H s)(u:Un (frs X.stack) ch H H' s.heap h')(hok:HOk X.prog X.w H' h')(hg:AllBare g')
  (hch:∀ b∈ch,(b∈X.ex\/X.s₀.heap.objs.size<=b)/\b≠X.env.locals/\(∀ x c,X.env.cells.lookup x=some c->c≠b)/\∀ p∈X.pn++pins,p.1≠b) :
  Inv X pins σ H' { s with heap:=h',gens:=g',drawn:=d',toks:=t' }:=by
 obtain⟨m,⟨o,es,ep,ho,r⟩,_⟩:=id I.loc
 obtain⟨sl,hL⟩:=u.any ho I.free fun z=>(hch _ z).2.1 rfl
 exact I.step (ch:=ch) hch (fun b o hL hb hc e n=>u.keep b o e n (fun z=>(Y0v.mp (I.stkSub b z)).elim hL hb) hc) (fun b o _ _ hc e n=>u.any e n hc) (fun b o hc e n=>u.free b o e n hc) (fun b o hc e=>u.there b o e hc) u.tups u.frzs u.tbls (fun m' hm=>by
  obtain⟨o',es',ep',ho',r'⟩:=hm
  rw[ho]at ho'; cases ho'
  exact⟨_,es',ep',hL,r'⟩) hok hg
theorem Inv.turned {t':Nat}{it:Addr}(I:Inv X pins σ H s)(k:∀ b o,b≠it->s.heap.get? b=some o->h'.get? b=some o)(hn:H it=none)(hL:it≠X.env.locals)
  (h1:it∈X.ex\/X.s₀.heap.objs.size<=it) (h2:∀ x c,X.env.cells.lookup x=some c->c≠it) (h3:∀ p∈X.pn++pins,p.1≠it):Inv X pins σ H { s with heap:=h',toks:=t' }:=by
 have nit:∀ b u,H b=some u->b≠it:=fun b u e z=>by rw[z,hn]at e; cases e
 refine I.step (g':=s.gens) (d':=s.drawn) (ch:=[it]) (fun b hb=>?_) (fun b o _ _ hc e _=>k b o (fun z=>hc (by simp[z])) e) (fun b o _ _ hc e _=>⟨o.slots,k b o (fun z=>hc (by simp[z])) e⟩) (fun _ _ _ _ n=>n)
  (fun b o hc e=>⟨o,k b o (fun z=>hc (by simp[z])) e⟩) (fun _ _ e=>e) (fun _ _ _ e=>e) (fun b ps e=>⟨#[],by rw[e]; simp⟩) (fun m hm=>?_) (fun b u e=>?_) I.bare
 ·have e:b=it:=by simpa using hb
  subst e
  exact⟨h1,hL,h2,h3⟩
 ·obtain⟨o,es,ep,ho,r⟩:=hm
  exact⟨o,es,ep,k _ o (Ne.symm hL) ho,r⟩
 ·refine (I.hok b u e).stay (fun c v hc q=>k c v ?_ q) (fun _ q=>q) fun _ _ q=>q
  rcases hc with z | z
  ·rw[z]; exact nit b u e
  ·exact nit c _ z
theorem Inv.tok (I:Inv X pins σ H s)(t:Nat):Inv X pins σ H { s with toks:=t }:=I.un (h':=s.heap) (t':=t) Un.refl I.hok
theorem Inv.kept {t':Nat}(I:Inv X pins σ H s)(k:∀ b u,s.heap.get? b=some u->h'.get? b=some u):Inv X pins σ H { s with heap:=h',toks:=t' }:=I.un (Un.kept k) (I.hok.kept k)
theorem Inv.laid {a:Addr}{o:HO}{t':Nat}(I:Inv X pins σ H s)(k:∀ b u,s.heap.get? b=some u->h'.get? b=some u)(hp:s.heap.objs.size<=a)(new:Z1j X.prog X.w (upd H a o) h' a o) :
  Inv X pins σ (upd H a o) { s with heap:=h',toks:=t' }:=I.un (Un.laid k hp (I.hok.fresh hp)) (I.hok.laid k hp new)
theorem Inv.write {x e:Addr}{o:HO}{t':Nat}(I:Inv X pins σ H s)(mu:Mut (H x))(he:e=x\/H e=some (.own x))(k:∀ b u,b≠e->s.heap.get? b=some u->h'.get? b=some u)(heo:∃ u,h'.get? e=some u)
  (new:Z1j X.prog X.w (upd H x o) h' x o):Inv X pins σ (upd H x o) { s with heap:=h',toks:=t' }:=I.un (Un.write mu he k heo) (I.hok.write mu he k heo new)
theorem Inv.pins_of {pins':List (Addr×Obj)}(I:Inv X pins σ H s)(h:∀ p∈pins',s.heap.get? p.1=some p.2/\H p.1=none/\p.1≠X.env.locals/\p.1∉X.fs/\∀ v,p.2.data≠.cell v):Inv X pins' σ H s:=
 ⟨I.ok,I.os,I.bare,I.base,I.loc,I.cell,I.free,I.freeC,fun p hp=>(Y0b.mp hp).elim (fun z=>I.pin p (Y1y _ z)) (h p),I.hok,I.len⟩
theorem Z7d {N:List Str}(hN:N.Nodup){i j:Nat}{x:Str}(a:N[i]?=some x)(b:N[j]?=some x):i=j:=by
 obtain⟨h1,e1⟩:=Y04.mp a
 obtain⟨h2,e2⟩:=Y04.mp b
 exact (List.getElem_inj hN).mp (e1.trans e2.symm)
theorem Z68 {M:Model}{A:Around}{E:Value->Shared->Prop}{i:Nat}{x:Str}{v:V}{u:Value}{Q:Unit->Shared->Prop}(I:Inv X pins σ H s)(hN:X.N.Nodup)(hi:X.N[i]?=some x)(hx:Loc X.env.scope x)(r:Z17 v u)
  (h:∀ s',Inv X pins (σ.set i (some v)) H s'->(∃ a,Heap.SameBut a s.heap s'.heap/\(a=X.env.locals\/X.env.cells.lookup x=some a))->Q () s') (hf:X.fn x=true\/X.env.scope.names.lookup x=some .local:=by first | exact .inl rfl | exact .inr rfl | assumption):wpAny M A (storeName X.env x u) Q E s:=by
 obtain⟨m,hn,hl⟩:=id I.loc
 have hcls:(X.env.scope.kind == .class || (X.env.scope.kind == .module && X.env.locals != X.env.globals))=false:=by rw[I.ok.kind]; rfl
 have hiσ:i < σ.length:=by rw[I.len]; exact (Y04.mp hi).1
 have cne:=I.cne
 have tracked:∀ {a:Addr} {h':Heap},(∃ o,s.heap.get? a=some o/\H a=none)->Heap.SameBut a s.heap h'->HOk X.prog X.w H h':=fun {a h'} ha hs b ob e=>by
  obtain⟨_,_,hfree⟩:=ha
  refine (I.hok b ob e).stay (fun c w' hc q=>(hs.2 c ?_).trans q) (fun _ q=>q) fun _ _ q=>q
  rintro rfl
  rcases hc with rfl | hc
  ·rw[hfree]at e; cases e
  ·rw[hfree]at hc; cases hc
 rcases hx with hk | hk
 ·refine wpAny_storeName_local hk hn (fun h' hn' hs=>?_) hcls
  obtain⟨oL,_,_,hoL,_⟩:=id hn
  refine h _ ⟨I.ok,I.os,I.bare,⟨fun b o e n hb hx=>?_,fun b o e n hb hx=>?_,I.base.free,fun b o e hx=>?_,I.base.tups,I.base.frzs,I.base.tbls⟩,⟨_,hn',fun j y v' e1 e2 e3=>?_⟩,fun y c e=>?_,I.free,I.freeC,fun p hp=>?_,tracked ⟨oL,hoL,I.free⟩ hs,by simpa using I.len⟩ ⟨_,hs,.inl rfl⟩
  ·exact (hs.2 b (Y0k (Y0g (Y07 e) I.ok.above))).trans (I.base.keep b o e n hb hx)
  ·obtain⟨sl,e1⟩:=I.base.slot b o e n hb hx
   exact⟨sl,(hs.2 b (Y0k (Y0g (Y07 e) I.ok.above))).trans e1⟩
  ·obtain⟨o',e1⟩:=I.base.there b o e hx
   exact⟨o',(hs.2 b (Y0k (Y0g (Y07 e) I.ok.above))).trans e1⟩
  ·by_cases hj:j=i
   ·subst hj
    rw[hi]at e1; cases e1
    rw[Y22 hiσ]at e2
    cases e2
    exact⟨u,r,.inl ⟨hk,by simp⟩⟩
   ·rw[List.getElem?_set_ne (Ne.symm hj)]at e2
    obtain⟨u',r',q⟩:=hl j y v' e1 e2 e3
    refine⟨u',r',?_⟩
    rcases q with ⟨k,e⟩ | ⟨k,c,e,z⟩
    ·refine .inl ⟨k,?_⟩
     have:y≠x:=fun e=>hj (Z7d hN e1 (e ▸ hi))
     simp[this,e]
    ·exact .inr ⟨k,c,e,z.sameBut hs (cne y c e)⟩
  ·obtain⟨w',z⟩:=I.cell y c e
   exact⟨w',z.sameBut hs (cne y c e)⟩
  ·obtain⟨e,n,ne,nf,d⟩:=I.pin p hp
   exact⟨(hs.2 p.1 ne).trans e,n,ne,nf,d⟩
 ·have hfn:X.fn x=true:=by
   rcases hf with z | z
   ·exact z
   ·rw[z]at hk; cases hk
  obtain⟨c,hc⟩:=I.ok.has x (.inl hk)
  obtain⟨w',z⟩:=I.cell x c hc
  refine wpAny_storeName_cell I.ok.kind hk hc z (fun h' hc' hs=>?_)
  obtain⟨oc,hoc,hocd⟩:=id z
  refine h { s with heap:=h' } ⟨I.ok,I.os,I.bare,⟨fun b o e n hb hx=>?_,fun b o e n hb hx=>?_,I.base.free,fun b o e hx=>?_,I.base.tups,I.base.frzs,I.base.tbls⟩,⟨m,hn.sameBut hs (Ne.symm (cne x c hc)),fun j y v' e1 e2 e3=>?_⟩,fun y c' e=>?_,I.free,I.freeC,fun p hp=>?_,tracked ⟨oc,hoc,I.freeC x c hc⟩ hs,by simpa using I.len⟩ ⟨c,hs,.inr hc⟩
  ·exact (hs.2 b (Y0k (Y0g (Y07 e) (I.ok.cab x c hfn hc)))).trans (I.base.keep b o e n hb hx)
  ·obtain⟨sl,e1⟩:=I.base.slot b o e n hb hx
   exact⟨sl,(hs.2 b (Y0k (Y0g (Y07 e) (I.ok.cab x c hfn hc)))).trans e1⟩
  ·obtain⟨o',e1⟩:=I.base.there b o e hx
   exact⟨o',(hs.2 b (Y0k (Y0g (Y07 e) (I.ok.cab x c hfn hc)))).trans e1⟩
  ·by_cases hj:j=i
   ·subst hj
    rw[hi]at e1; cases e1
    rw[Y22 hiσ]at e2
    cases e2
    exact⟨u,r,.inr ⟨.inl hk,c,hc,hc'⟩⟩
   ·rw[List.getElem?_set_ne (Ne.symm hj)]at e2
    obtain⟨u',r',q⟩:=hl j y v' e1 e2 e3
    refine⟨u',r',?_⟩
    rcases q with q | ⟨k,c',e,z'⟩
    ·exact .inl q
    ·refine .inr ⟨k,c',e,z'.sameBut hs ?_⟩
     rintro rfl
     exact hj (Z7d hN e1 (I.ok.inj _ _ _ e hc ▸ hi))
  ·by_cases hcc:c'=c
   ·subst hcc; exact⟨_,hc'⟩
   ·obtain⟨w2,z2⟩:=I.cell y c' e
    exact⟨w2,z2.sameBut hs hcc⟩
  ·obtain⟨e,n,ne,nf,d⟩:=I.pin p hp
   refine⟨(hs.2 p.1 ?_).trans e,n,ne,nf,d⟩
   intro q
   rw[q,hoc]at e
   have q':oc=p.2:=Option.some.inj e
   exact d w' (by rw[<-q']; exact hocd)
theorem Z2Y {M:Model}{A:Around}{E:Value->Shared->Prop}{i:Nat}{x:Str}{v:V}{u:Value}{Q:Unit->Shared->Prop}(I:Inv X pins σ H s)(hN:X.N.Nodup)(hi:X.N[i]?=some x)(hx:Loc X.env.scope x)(r:Z17 v u)
  (h:∀ s',Inv X pins (σ.set i (some v)) H s'->Q () s') (hf:X.fn x=true\/X.env.scope.names.lookup x=some .local:=by first | exact .inl rfl | exact .inr rfl | assumption):wpAny M A (storeName X.env x u) Q E s:=
 Z68 I hN hi hx r (fun s' I' _=>h s' I') hf
theorem Inv.call' {s':Shared}{ch:List Addr}(I:Inv X pins σ H s)(ho:s'.os=s.os)(u:Un (frs X.stack) ch H H' s.heap s'.heap)(hok:HOk X.prog X.w H' s'.heap)(hg:AllBare s'.gens)
  (hch:∀ b∈ch,(b∈X.ex\/X.s₀.heap.objs.size<=b)/\b≠X.env.locals/\(∀ x c,X.env.cells.lookup x=some c->c≠b)/\∀ p∈X.pn++pins,p.1≠b):Inv X pins σ H' s':=by
 obtain⟨h',g',d',t',o'⟩:=s'
 have e:o'=s.os:=ho
 subst e
 exact I.call (g':=g') (t':=t') (d':=d') u hok hg hch
end
abbrev XK:=Value->Option Addr->Hp->Prop
abbrev St:=List (Option V)
abbrev VK:=V->Hp->Prop
abbrev TE:=St->Hp->VK->Prop
abbrev TT:=St->Hp->(Bool->Hp->Prop)->Prop
abbrev TA:=St->Hp->(List V->Hp->Prop)->Prop
structure Z8u where
 nx:St->Hp->Prop
 rt:VK
 bk:St->Hp->Prop:=fun _ _=>False
 ct:St->Hp->Prop:=fun _ _=>False
abbrev TS:=Z8u->St->Hp->Prop
def EP (X:Cx)(pins:List (Addr×Obj))(σ:St)(Q:VK)(u:Value)(s':Shared):Prop:=∃ v H',Inv X pins σ H' s'/\Z17 v u/\Q v H'
def TP (X:Cx)(pins:List (Addr×Obj))(σ:St)(Q:Bool->Hp->Prop)(b:Bool)(s':Shared):Prop:=∃ H',Inv X pins σ H' s'/\Q b H'
def AP (X:Cx)(pins:List (Addr×Obj))(σ:St)(Q:List V->Hp->Prop)(us:List Value)(s':Shared):Prop:=∃ vs H',Inv X pins σ H' s'/\Z13 vs us/\Q vs H'
def SP (X:Cx)(pins:List (Addr×Obj))(D:Z8u)(f:Flow)(s':Shared):Prop:=
 match f with
 | .next=>∃ σ' H',Inv X pins σ' H' s'/\D.nx σ' H'
 | .brk=>∃ σ' H',Inv X pins σ' H' s'/\D.bk σ' H'
 | .cont=>∃ σ' H',Inv X pins σ' H' s'/\D.ct σ' H'
 | .ret u=>∃ v σ' H',Inv X pins σ' H' s'/\Z17 v u/\D.rt v H'
def PE (X:Cx)(e:Expr)(t:TE):Prop:=
 ∀ (pins:List (Addr×Obj)) (s:Shared) (σ:St) (H:Hp) (Q:VK),Inv X pins σ H s->t σ H Q->wpAny (model X.prog X.w) X.A (eval e X.env) (EP X pins σ Q) X.xe s
def PT (X:Cx)(e:Expr)(t:TT):Prop:=
 ∀ (pins:List (Addr×Obj)) (s:Shared) (σ:St) (H:Hp) (Q:Bool->Hp->Prop),Inv X pins σ H s->t σ H Q->wpAny (model X.prog X.w) X.A (isTrue e X.env (eval e X.env)) (TP X pins σ Q) X.xe s
def PW (X:Cx)(e:Expr)(t:TT):Prop:=
 ∀ (whole:Sem Value) (pins:List (Addr×Obj)) (s:Shared) (σ:St) (H:Hp) (Q:Bool->Hp->Prop),Inv X pins σ H s->t σ H Q->wpAny (model X.prog X.w) X.A (isTrue e X.env whole) (TP X pins σ Q) X.xe s
theorem PW.pt {X:Cx}{e:Expr}{t:TT}(h:PW X e t):PT X e t:=h _
def PA (X:Cx)(es:List Expr)(t:TA):Prop:=
 ∀ (pos:Pos) (pins:List (Addr×Obj)) (s:Shared) (σ:St) (H:Hp) (Q:List V->Hp->Prop),Inv X pins σ H s->t σ H Q->wpAny (model X.prog X.w) X.A (spliced (backTo pos (starEach es X.env))) (AP X pins σ Q) X.xe s
def PS (X:Cx)(st:Stmt)(t:TS):Prop:=
 ∀ (pins:List (Addr×Obj)) (s:Shared) (σ:St) (H:Hp) (D:Z8u),Inv X pins σ H s->t D σ H->wpAny (model X.prog X.w) X.A (exec st X.env) (SP X pins D) X.xe s
def PSs (X:Cx)(st:List Stmt)(t:TS):Prop:=
 ∀ (pins:List (Addr×Obj)) (s:Shared) (σ:St) (H:Hp) (D:Z8u),Inv X pins σ H s->t D σ H->wpAny (model X.prog X.w) X.A (execs st X.env) (SP X pins D) X.xe s
theorem thn {α:Type}{t:Sem α}{Q Q':α->Shared->Prop}{M:Model}{A:Around}{E:Value->Shared->Prop}{s:Shared}(h:wpAny M A t Q E s)(hQ:∀ a s,Q a s->Q' a s):wpAny M A t Q' E s:=wpAny_mono h hQ fun _ _ x=>x
section
variable {X:Cx}
def Z12 (i:Nat):TE:=fun σ H Q=>∃ v,σ[i]?=some (some v)/\Q v H
def tC (v:V):TE:=fun _ H Q=>Q v H
theorem ZcT {i:Nat}{x:Str}{pos:Pos}(hN:X.N[i]?=some x)(hv:Vis X.env.scope x)(hd:(x == ("__debug__":Str))=false:=by decide)(hcd:(x == ("__classdict__":Str))=false:=by decide):PE X (.Name x pos) (Z12 i):=by
 intro pins s σ H Q I h
 obtain⟨v,e,h⟩:=h
 obtain⟨m,hn,hl⟩:=I.loc
 obtain⟨u,r,l⟩:=hl i x v hN e hv
 have fin:EP X pins σ Q u s:=⟨v,H,I,r,h⟩
 rcases l with ⟨hk,hm⟩ | ⟨hk,c,hc,hcell⟩
 ·exact wpAny_Name (wpAny_loadName_local I.ok.kind hk hn hm fin) hd
 ·rcases hk with hk | hk
  ·exact wpAny_Name (wpAny_loadName_cell I.ok.kind hk hc hcell fin) hd
  ·exact wpAny_Name (wpAny_loadName_free I.ok.kind hk hc hcell fin hcd) hd
theorem Z04 {i j pos}:PE X (.Constant (.int i) j pos) (tC (.int i)):=fun _ _ _ H _ I h=>wpAny_Constant_int ⟨.int i,H,I.tok _,⟨_,rfl⟩,h⟩
theorem Z6E {b j pos}:PE X (.Constant (.bool b) j pos) (tC (.bl b)):=fun _ _ _ H _ I h=>Constant_bool ⟨.bl b,H,I,rfl,h⟩
theorem Z3E {j pos}:PE X (.Constant .none j pos) (tC .non):=fun _ _ _ H _ I h=>Constant_none ⟨.non,H,I,rfl,h⟩
theorem Z1c {x j pos}:PE X (.Constant (.str x) j pos) (tC (.str x)):=fun _ _ _ H _ I h=>Calls.Constant_str ⟨.str x,H,I.tok _,⟨_,rfl⟩,h⟩
def Gl (X:Cx)(x:Str):Prop:=X.env.kindOf x=some .globalImplicit
theorem Z5d {E:Value->Shared->Prop}{pins:List (Addr×Obj)}{s:Shared}{σ:St}{H:Hp}{x:Str}{u:Value}{pos:Pos}{Q:Value->Shared->Prop}(I:Inv X pins σ H s)(hg:Gl X x)(hm:X.mg x=some u)(h:Q u s)
  (hd:(x == ("__debug__":Str))=false:=by decide):wpAny (model X.prog X.w) X.A (eval (.Name x pos) X.env) Q E s:=
 Calls.Name_function_global I.ok.kind hg (Calls.loadGlobal_global (by rw[I.ok.glob]; exact I.mod.glob.keeps I.bk) hm h) hd
theorem Z4T {E:Value->Shared->Prop}{pins:List (Addr×Obj)}{s:Shared}{σ:St}{H:Hp}{x:Str}{u:Value}{pos:Pos}{Q:Value->Shared->Prop}(I:Inv X pins σ H s)(hg:Gl X x)(hm:X.mg x=none)(hv:bootBuiltins x=some u)(h:Q u s)
  (hn:x≠"__name__":=by decide) (hd:(x == ("__debug__":Str))=false:=by decide):wpAny (model X.prog X.w) X.A (eval (.Name x pos) X.env) Q E s:=by
 obtain⟨mb,h1,h2⟩:=I.mod.blt
 exact Calls.Name_function_global I.ok.kind hg (Calls.loadGlobal_builtin (by rw[I.ok.glob]; exact I.mod.glob.keeps I.bk) hm (by rw[I.ok.blt]; exact h1.keeps I.bk) ((h2 x hn).trans hv) h) hd
theorem Z3W {x:Str}{v:V}{u:Value}{pos:Pos}(hg:Gl X x)(hm:X.mg x=some u)(r:Z17 v u)(hd:(x == ("__debug__":Str))=false:=by decide):PE X (.Name x pos) (tC v):=
 fun _ _ _ H _ I h=>Z5d I hg hm ⟨v,H,I,r,h⟩ hd
theorem Z2R {x:Str}{v:V}{u:Value}{pos:Pos}(hg:Gl X x)(hm:X.mg x=none)(hv:bootBuiltins x=some u)(r:Z17 v u)(hn:x≠"__name__":=by decide)(hd:(x == ("__debug__":Str))=false:=by decide):PE X (.Name x pos) (tC v):=
 fun _ _ _ H _ I h=>Z4T I hg hm hv ⟨v,H,I,r,h⟩ hn hd
variable {a b:Expr}{ta tb:TE}{pos:Pos}
def PC (X:Cx)(op:CmpOp)(a b:Expr)(t:TE):Prop:=
 ∀ (pins:List (Addr×Obj)) (s:Shared) (σ:St) (H:Hp) (Q:VK),Inv X pins σ H s->t σ H Q->
  wpAny (model X.prog X.w) X.A (eval a X.env) (fun v s₁=>wpAny (model X.prog X.w) X.A (eval b X.env) (fun u s₂=>wpAny (model X.prog X.w) X.A (compareOp op v u) (EP X pins σ Q) X.xe s₂) X.xe s₁) X.xe s
def tB (t:TE):TT:=fun σ H Q=>t σ H fun x H1=>∃ c,x=.bl c/\Q c H1
theorem Ze9 {op:CmpOp}{t:TE}(h:PC X op a b t)(h1:behindInMarks op b=false:=by first | exact nobehind _ (by decide) (by decide) | rfl):PE X (.Compare a [op] [b] pos) t:=fun pins s σ H Q I hw=>wpAny_Compare1 (h pins s σ H Q I hw) h1
theorem Z1D {e:Expr}{t:TE}(h:PE X e t)(he:∀ whole,isTrue e X.env whole=(do let v <-whole; standAt e.pos; holding [v] (truthy v)):=by intro _; rfl):PT X e (tB t):=by
 intro pins s σ H Q I hw
 refine isTrue_plain (thn (h pins s σ H _ I hw) fun v s1 ⟨x,H1,I1,r1,q1⟩=>?_) (he _)
 obtain⟨d,rfl,q⟩:=q1
 cases r1
 exact wpAny_truthy_bool ⟨H1,I1,q⟩
variable {tA tB':TT}{rest:List Expr}
def tAnd (t u:TT):TT:=fun σ H Q=>t σ H fun c H1=>if c=true then u σ H1 Q else Q false H1
def tOr (t u:TT):TT:=fun σ H Q=>t σ H fun c H1=>if c=true then Q true H1 else u σ H1 Q
def tNot (t:TT):TT:=fun σ H Q=>t σ H fun c H1=>Q (!c) H1
theorem Z1Z (ha:PT X a tA):PW X (.BoolOp .And [a] pos) tA:=by
 intro wh pins s σ H Q I h
 refine isTrue_and (thn (ha pins s σ H Q I h) fun c s1 e=>?_)
 cases c with
 | true=>exact isTrue_and_nil e
 | false=>exact e
theorem Z4c (ha:PT X a tA):PW X (.BoolOp .Or [a] pos) tA:=by
 intro wh pins s σ H Q I h
 refine isTrue_or (thn (ha pins s σ H Q I h) fun c s1 e=>?_)
 cases c with
 | false=>exact isTrue_or_nil e
 | true=>exact e
theorem Z2n (ha:PT X a tA)(hb:PW X (.BoolOp .And (b :: rest) pos) tB'):PW X (.BoolOp .And (a :: b :: rest) pos) (tAnd tA tB'):=by
 intro wh pins s σ H Q I h
 refine isTrue_and (thn (ha pins s σ H _ I h) fun c s1 ⟨H1,I1,q1⟩=>?_)
 cases c with
 | true=>exact hb wh pins s1 σ H1 Q I1 q1
 | false=>exact⟨H1,I1,q1⟩
theorem Z3L (ha:PT X a tA)(hb:PW X (.BoolOp .Or (b :: rest) pos) tB'):PW X (.BoolOp .Or (a :: b :: rest) pos) (tOr tA tB'):=by
 intro wh pins s σ H Q I h
 refine isTrue_or (thn (ha pins s σ H _ I h) fun c s1 ⟨H1,I1,q1⟩=>?_)
 cases c with
 | true=>exact⟨H1,I1,q1⟩
 | false=>exact hb wh pins s1 σ H1 Q I1 q1
theorem Z2K (ha:PT X a tA):PT X (.UnaryOp .Not a pos) (tNot tA):=by
 intro pins s σ H Q I h
 exact isTrue_not (ha pins s σ H (fun c H1=>Q (!c) H1) I h)
def Zfm (ta tb:TE):TE:=fun σ H Q=>ta σ H fun x H1=>∃ c,x=.bl c/\if c=true then tb σ H1 Q else Q (.bl false) H1
def tOrV (ta tb:TE):TE:=fun σ H Q=>ta σ H fun x H1=>∃ c,x=.bl c/\if c=true then Q (.bl true) H1 else tb σ H1 Q
def Zgq (ta:TE):TE:=fun σ H Q=>ta σ H fun x H1=>∃ c,x=.bl c/\Q (.bl (!c)) H1
theorem Z4S {op}{t:TE}(h:PE X a t):PE X (.BoolOp op [a] pos) t:=fun pins s σ H Q I hw=>BoolOp_one (h pins s σ H Q I hw)
theorem Z4F (ha:PE X a ta)(hb:PE X (.BoolOp .And (b :: rest) pos) tb):PE X (.BoolOp .And (a :: b :: rest) pos) (Zfm ta tb):=by
 intro pins s σ H Q I h
 refine BoolOp_and (thn (ha pins s σ H _ I h) fun v s1 ⟨x,H1,I1,r1,q1⟩=>?_)
 obtain⟨c,rfl,q1⟩:=q1
 cases r1
 refine wpAny_truthy_bool ?_
 cases c with
 | true=>exact hb pins s1 σ H1 Q I1 q1
 | false=>exact⟨.bl false,H1,I1,rfl,q1⟩
theorem ZfU (ha:PE X a ta)(hb:PE X (.BoolOp .Or (b :: rest) pos) tb):PE X (.BoolOp .Or (a :: b :: rest) pos) (tOrV ta tb):=by
 intro pins s σ H Q I h
 refine BoolOp_or (thn (ha pins s σ H _ I h) fun v s1 ⟨x,H1,I1,r1,q1⟩=>?_)
 obtain⟨c,rfl,q1⟩:=q1
 cases r1
 refine wpAny_truthy_bool ?_
 cases c with
 | false=>exact hb pins s1 σ H1 Q I1 q1
 | true=>exact⟨.bl true,H1,I1,rfl,q1⟩
theorem Zbl (ha:PE X a ta):PE X (.UnaryOp .Not a pos) (Zgq ta):=by
 intro pins s σ H Q I h
 refine UnaryOp_ (thn (ha pins s σ H _ I h) fun v s1 ⟨x,H1,I1,r1,q1⟩=>?_)
 obtain⟨c,rfl,q1⟩:=q1
 cases r1
 exact not_of (wpAny_truthy_bool ⟨.bl (!c),H1,I1,rfl,q1⟩)
def tIf (t:TT)(ta tb:TE):TE:=fun σ H Q=>t σ H fun c H1=>if c=true then ta σ H1 Q else tb σ H1 Q
theorem Z9O {c:Expr}(hc:PT X c tA)(ha:PE X a ta)(hb:PE X b tb):PE X (.IfExp c a b pos) (tIf tA ta tb):=by
 intro pins s σ H Q I h
 refine wpAny_IfExp (thn (hc pins s σ H _ I h) fun d s1 ⟨H1,I1,q1⟩=>?_)
 cases d with
 | true=>exact ha pins s1 σ H1 Q I1 q1
 | false=>exact hb pins s1 σ H1 Q I1 q1
end
def SqL (K:Y00)(H:Hp)(a:Addr)(xs:List V):Prop:=
 Rd H a (.lst xs)\/
  ∃ (o:Obj) (its:Array Value) (n:Nat),K.lookup a=some o/\o.cls=.type "list"/\o.dict=none/\o.data=.seq its n/\its.size<=sizeLine/\Z13 xs its.toList
def SqT (K:Y00)(H:Hp)(a:Addr)(xs:List V):Prop:=
 Rd H a (.tup xs)\/
  ∃ (o:Obj) (its:Array Value) (n:Nat),K.lookup a=some o/\o.cls=.type "tuple"/\o.data=.seq its n/\its.size<=sizeLine/\Z13 xs its.toList
def absV:Value->Option V
 | .none=>some .non
 | .bool b=>some (.bl b)
 | .int i _=>some (.int i)
 | .str x _=>some (.str x)
 | .bytes b _=>some (.byt b)
 | .float b _=>some (.flt b)
 | .ref a=>some (.ref a)
 | .type n=>some (.ty n)
 | _=>none
theorem Z17.abs {x:V}{u:Value}(r:Z17 x u):absV u=some x:=by
 cases x with
 | non=>cases r; rfl
 | bl _=>cases r; rfl
 | int _=>obtain⟨t,rfl⟩:=r; rfl
 | str _=>obtain⟨t,rfl⟩:=r; rfl
 | byt _=>obtain⟨t,rfl⟩:=r; rfl
 | flt _=>obtain⟨t,rfl⟩:=r; rfl
 | ref _=>cases r; rfl
 | ty _=>cases r; rfl
theorem Z17.inj {x y:V}{u:Value}(r:Z17 x u)(q:Z17 y u):x=y:=Option.some.inj (r.abs.symm.trans q.abs)
theorem Z13.inj:∀ {xs ys:List V} {us:List Value},Z13 xs us->Z13 ys us->xs=ys
 | _,_,_,.nil,.nil=>rfl
 | _,_,_,.cons r t,.cons r' t'=>by rw[r.inj r',Z13.inj t t']
section
variable {X:Cx}{pins:List (Addr×Obj)}{σ:St}{H:Hp}{s:Shared}{a:Addr}{xs ys:List V}
theorem SqL.of {K:Y00}(h:H a=some (.lst xs)):SqL K H a xs:=.inl (.inl h)
theorem SqT.of {K:Y00}(h:H a=some (.tup xs)):SqT K H a xs:=.inl (.inl h)
theorem Inv.list (I:Inv X pins σ H s)(h:SqL X.K H a xs):∃ its:List Value,Z13 xs its/\PlainL s.heap a its.toArray/\xs.length<=sizeLine:=by
 rcases h with h | ⟨o,its,n,hk,hc,hd,hs,hz,r⟩
 ·obtain⟨z,its,n,r,e⟩:=h.ok I.hok
  exact⟨its,r,⟨_,n,e,rfl,rfl,rfl⟩,z⟩
 ·refine⟨its.toList,r,⟨o,n,I.kIn a o hk,hc,hd,by simpa using hs⟩,?_⟩
  have e:=r.length
  simp only[Array.length_toList]at e
  lia
theorem Inv.tuple (I:Inv X pins σ H s)(h:SqT X.K H a xs):∃ its:List Value,Z13 xs its/\IsTup s.heap a its.toArray/\xs.length<=sizeLine:=by
 rcases h with h | ⟨o,its,n,hk,hc,hs,hz,r⟩
 ·obtain⟨z,its,r,p⟩:=h.ok I.hok
  exact⟨its,r,p,z.1⟩
 ·refine⟨its.toList,r,⟨o,I.kIn a o hk,hc,n,by simpa using hs⟩,?_⟩
  have e:=r.length
  simp only[Array.length_toList]at e
  lia
theorem Inv.list_inj (I:Inv X pins σ H s)(h:SqL X.K H a xs)(h':SqL X.K H a ys):xs=ys:=by
 obtain⟨its,r,⟨o,n,e,_,_,d⟩,_⟩:=I.list h
 obtain⟨its',r',⟨o',n',e',_,_,d'⟩,_⟩:=I.list h'
 rw[e]at e'; cases e'
 rw[d]at d'
 injection d' with d1 _
 have:its=its':=by simpa using congrArg Array.toList d1
 subst this
 exact r.inj r'
theorem Inv.tuple_inj (I:Inv X pins σ H s)(h:SqT X.K H a xs)(h':SqT X.K H a ys):xs=ys:=by
 obtain⟨its,r,⟨o,e,_,n,d⟩,_⟩:=I.tuple h
 obtain⟨its',r',⟨o',e',_,n',d'⟩,_⟩:=I.tuple h'
 rw[e]at e'; cases e'
 rw[d]at d'
 injection d' with d1 _
 have:its=its':=by simpa using congrArg Array.toList d1
 subst this
 exact r.inj r'
end
abbrev Cx.wish (X:Cx)(E:Value->Shared->Prop):Cx:={ X with xe:=E }
abbrev Cx.nox (X:Cx):Cx:=X.wish fun _ _=>False
theorem Cx.Ok.wish {X:Cx}(ok:X.Ok)(E:Value->Shared->Prop):(X.wish E).Ok:=
 ⟨ok.mod,ok.kind,ok.glob,ok.blt,ok.above,ok.inj,ok.has,ok.cab,ok.hd,ok.frames,ok.stk,ok.exf,ok.bs,ok.bsz,ok.noex,ok.exfs,ok.funs,ok.frf⟩
theorem Cx.Ok.unwish {X:Cx}{E:Value->Shared->Prop}(ok:(X.wish E).Ok):X.Ok:=
 ⟨ok.mod,ok.kind,ok.glob,ok.blt,ok.above,ok.inj,ok.has,ok.cab,ok.hd,ok.frames,ok.stk,ok.exf,ok.bs,ok.bsz,ok.noex,ok.exfs,ok.funs,ok.frf⟩
section
variable {X:Cx}{pins:List (Addr×Obj)}{σ:St}{H:Hp}{s:Shared}{E:Value->Shared->Prop}
theorem Inv.wish (I:Inv X pins σ H s)(E:Value->Shared->Prop):Inv (X.wish E) pins σ H s:=⟨I.ok.wish E,I.os,I.bare,I.base,I.loc,I.cell,I.free,I.freeC,I.pin,I.hok,I.len⟩
theorem Inv.unwish (I:Inv (X.wish E) pins σ H s):Inv X pins σ H s:=⟨I.ok.unwish,I.os,I.bare,I.base,I.loc,I.cell,I.free,I.freeC,I.pin,I.hok,I.len⟩
theorem SP.unwish {D:Z8u}{f:Flow}{s':Shared}(h:SP (X.wish E) pins D f s'):SP X pins D f s':=by
 cases f with
 | next=>obtain⟨σ',H',I,q⟩:=h; exact⟨σ',H',I.unwish,q⟩
 | brk=>obtain⟨σ',H',I,q⟩:=h; exact⟨σ',H',I.unwish,q⟩
 | cont=>obtain⟨σ',H',I,q⟩:=h; exact⟨σ',H',I.unwish,q⟩
 | ret u=>obtain⟨v,σ',H',I,r,q⟩:=h; exact⟨v,σ',H',I.unwish,r,q⟩
theorem PSs.nox {st:List Stmt}{t:TS}(h:PSs X.nox st t):PSs X st t:=fun pins s σ H D I hw=>
 wpAny_mono (h pins s σ H D (I.wish _) hw) (fun _ _ q=>q.unwish) fun _ _ z=>False.elim z
end
section
variable {X:Cx}{st:Stmt}{rest:List Stmt}{t u:TS}{e:Expr}{te:TE}{pos:Pos}
def ZaC:TS:=fun D σ H=>D.nx σ H
def Zag (t u:TS):TS:=fun D σ H=>t { D with nx:=u D } σ H
theorem Z0t:PSs X [] ZaC:=fun _ _ σ H _ I h=>wpAny_execs_nil ⟨σ,H,I,h⟩
theorem Z03 (h1:PS X st t)(h2:PSs X rest u):PSs X (st :: rest) (Zag t u):=by
 intro pins s σ H D I h
 refine wpAny_execs_cons (thn (h1 pins s σ H { D with nx:=u D } I h) fun f s1 q=>?_)
 cases f with
 | next=>
  obtain⟨σ',H',I',q⟩:=q
  exact h2 pins s1 σ' H' D I' q
 | ret v=>exact q
 | brk=>exact q
 | cont=>exact q
theorem Z07 (h1:PS X st t):PSs X [st] t:=by
 intro pins s σ H D I h
 refine wpAny_execs_cons (thn (h1 pins s σ H D I h) fun f s1 q=>?_)
 cases f with
 | next=>exact wpAny_execs_nil q
 | ret v=>exact q
 | brk=>exact q
 | cont=>exact q
theorem Inv.quiet {pins:List (Addr×Obj)}{σ:St}{H:Hp}{s:Shared}(I:Inv X pins σ H s):interactive X.env=false:=by simp[interactive,I.ok.kind]
def ZfJ (te:TE):TS:=fun D σ H=>te σ H fun _ H1=>D.nx σ H1
theorem Z1h (he:PE X e te)(hs:swapsWith e none pos.line X.env=pure false:=by rfl):PS X (.Expr e pos) (ZfJ te):=by
 intro pins s σ H D I h
 exact wpAny_Expr_any (thn (he pins s σ H _ I h) fun v s1 ⟨x,H1,I1,r1,q1⟩=>⟨σ,H1,I1,q1⟩) I.quiet hs
def Zal (te:TE):TS:=fun D σ H=>te σ H D.rt
theorem Z0l (he:PE X e te):PS X (.Return (some e) pos) (Zal te):=by
 intro pins s σ H D I h
 exact wpAny_Return_some (thn (he pins s σ H _ I h) fun v s1 ⟨x,H1,I1,r1,q1⟩=>⟨x,σ,H1,I1,r1,q1⟩)
def Zfa (c:TT)(t u:TS):TS:=fun D σ H=>c σ H fun b H1=>if b=true then t D σ H1 else u D σ H1
theorem Z0T {c:Expr}{a b:List Stmt}{tc:TT}(hc:PT X c tc)(ha:PSs X a t)(hb:PSs X b u):PS X (.If c a b pos) (Zfa tc t u):=by
 intro pins s σ H D I h
 refine wpAny_If (thn (hc pins s σ H _ I h) fun d s1 ⟨H1,I1,q1⟩=>?_)
 cases d with
 | true=>exact ha pins s1 σ H1 D I1 q1
 | false=>exact hb pins s1 σ H1 D I1 q1
end
abbrev TG:=V->St->Hp->(St->Hp->Prop)->Prop
abbrev TGs:=List V->St->Hp->(St->Hp->Prop)->Prop
def PG (X:Cx)(target:Expr)(t:TG):Prop:=
 ∀ (pins:List (Addr×Obj)) (s:Shared) (σ:St) (H:Hp) (v:V) (u:Value) (Q:St->Hp->Prop),Inv X pins σ H s->Z17 v u->t v σ H Q->
  wpAny (model X.prog X.w) X.A (assign target X.env u) (fun _ s'=>∃ σ' H',Inv X pins σ' H' s'/\Q σ' H') X.xe s
def PGs (X:Cx)(ts:List Expr)(t:TGs):Prop:=
 ∀ (pins:List (Addr×Obj)) (s:Shared) (σ:St) (H:Hp) (vs:List V) (us:List Value) (Q:St->Hp->Prop),Inv X pins σ H s->Z13 vs us->t vs σ H Q->
  wpAny (model X.prog X.w) X.A (assignInOrder ((assignEach ts X.env).map (·.2)) us) (fun _ s'=>∃ σ' H',Inv X pins σ' H' s'/\Q σ' H') X.xe s
abbrev TSet:=V->V->V->Hp->(Hp->Prop)->Prop
def PSet (X:Cx)(t:TSet):Prop:=
 ∀ (pins:List (Addr×Obj)) (s:Shared) (σ:St) (H:Hp) (o i v:V) (ov iv u:Value) (Q:Hp->Prop),Inv X pins σ H s->Z17 o ov->Z17 i iv->Z17 v u->t o i v H Q->
  wpAny (model X.prog X.w) X.A (setItem ov iv u) (fun _ s'=>∃ H',Inv X pins σ H' s'/\Q H') X.xe s
abbrev TIp:=V->V->Hp->VK->Prop
def PIp (X:Cx)(op:Operator)(t:TIp):Prop:=
 ∀ (pins:List (Addr×Obj)) (s:Shared) (σ:St) (H:Hp) (x y:V) (v u:Value) (Q:VK),Inv X pins σ H s->Z17 x v->Z17 y u->t x y H Q->
  wpAny (model X.prog X.w) X.A (inplaceOp op v u) (EP X pins σ Q) X.xe s
section
variable {X:Cx}{pos:Pos}
def Z2o (i:Nat):TG:=fun v σ H Q=>Q (σ.set i (some v)) H
theorem Z0u {i:Nat}{x:Str}(hN:X.N.Nodup)(hi:X.N[i]?=some x)(hx:Loc X.env.scope x)(hf:X.fn x=true\/X.env.scope.names.lookup x=some .local:=by first | exact .inl rfl | exact .inr rfl | assumption):PG X (.Name x pos) (Z2o i):=by
 intro pins s σ H v u Q I r h
 exact wpAny_assign_Name (Z2Y I hN hi hx r (fun s' I'=>⟨_,H,I',h⟩) hf)
def gNil:TGs:=fun vs σ H Q=>vs=[]/\Q σ H
def ZcY (t:TG)(u:TGs):TGs:=fun vs σ H Q=>∃ v r,vs=v :: r/\t v σ H fun σ' H'=>u r σ' H' Q
theorem Z2f:PGs X [] gNil:=by
 intro pins s σ H vs us Q I r h
 obtain⟨e,h⟩:=h
 subst e
 cases r
 exact assignInOrder_nil ⟨σ,H,I,h⟩
theorem Z0H {e:Expr}{es:List Expr}{t:TG}{u:TGs}(h1:PG X e t)(h2:PGs X es u)
  (hs:(assignEach (e :: es) X.env).map (·.2)=assign e X.env :: (assignEach es X.env).map (·.2):=by rfl):PGs X (e :: es) (ZcY t u):=by
 intro pins s σ H vs us Q I r h
 obtain⟨v,vr,e1,h⟩:=h
 subst e1
 cases r with
 | cons r rr=>
  rw[hs]
  refine assignInOrder_cons (thn (h1 pins s σ H _ _ _ I r h) fun _ s1 ⟨σ1,H1,I1,q1⟩=>?_)
  exact h2 pins s1 σ1 H1 _ _ Q I1 rr q1
def gTup (K:Y00)(n:Nat)(t:TGs):TG:=fun v σ H Q=>∃ a xs,v=.ref a/\SqT K H a xs/\xs.length=n/\t xs σ H Q
theorem Z3H {es:List Expr}{k:Nat}{t:TGs}{n:Nat}(hc:X.calm=true)(h:PGs X es t)
  (hn:(assignEach es X.env).length=n:=by rfl) (hst:(assignEach es X.env).findIdx? (·.1)=none:=by rfl):PG X (.Tuple es k pos) (gTup X.K n t):=by
 intro pins s σ H v u Q I r hw
 obtain⟨a,xs,e1,hq,hl,hw⟩:=hw
 subst e1
 cases r
 obtain⟨its,rv,ht,hz⟩:=I.tuple hq
 refine assign_Tuple_tuple (I.ok.hd hc) ht (by simp[hn,<-hl,rv.length]) hst fun h' hx=>?_
 have I1:Inv X pins σ H { s with heap:=h' }:=I.kept (t':=s.toks) fun b o e=>hx b o (Y0k (Y07 e)) e
 exact h pins _ σ H xs _ Q I1 (by simpa using rv) hw
def Zaf (te:TE)(g:TG):TS:=fun D σ H=>te σ H fun x H1=>g x σ H1 D.nx
theorem Z4b {tg e:Expr}{te:TE}{g:TG}(he:PE X e te)(hg:PG X tg g)(hs:swapsWithSole [tg] e pos.line X.env=pure false:=by rfl)(hw:swappedStores [tg] e X.env=pure none:=by rfl)
  (h1:(assignEach [tg] X.env).map (·.2)=[assign tg X.env]:=by rfl):PS X (.Assign [tg] e pos) (Zaf te g):=by
 intro pins s σ H D I h
 refine wpAny_Assign_stores (thn (he pins s σ H _ I h) fun v s1 ⟨x,H1,I1,r1,q1⟩=>?_) hs hw
 rw[h1]
 exact thn (hg pins s1 σ H1 x v _ I1 r1 q1) fun _ s2 q=>q
theorem Z0d {i:Nat}{x:Str}{e:Expr}{te:TE}{pos':Pos}(hN:X.N.Nodup)(hi:X.N[i]?=some x)(hx:Loc X.env.scope x)(he:PE X e te)(hs:swapsWith e (some (.Name x pos')) pos.line X.env=pure false:=by rfl)(hf:X.fn x=true\/X.env.scope.names.lookup x=some .local:=by first | exact .inl rfl | exact .inr rfl | assumption) :
  PS X (.Assign [.Name x pos'] e pos) (Zaf te (Z2o i)):=by
 intro pins s σ H D I h
 refine wpAny_Assign_Name (thn (he pins s σ H _ I h) fun v s1 ⟨y,H1,I1,r1,q1⟩=>?_) hs
 exact Z2Y I1 hN hi hx r1 (fun s2 I2=>⟨_,H1,I2,q1⟩) hf
def tPar (i j:Nat)(ta:TA):TS:=fun D σ H=>ta σ H fun vs H1=>∃ v w,vs=[v,w]/\D.nx ((σ.set i (some v)).set j (some w)) H1
theorem Zez {i j:Nat}{x y:Str}{a b:Expr}{ta:TA}{px py pt:Pos}{kt k2 pt2}(hc:X.calm=true)(hN:X.N.Nodup)(hi:X.N[i]?=some x)(hj:X.N[j]?=some y)(hij:i≠j)
  (hx:X.env.scope.names.lookup x=some .local) (hy:X.env.scope.names.lookup y=some .local) (ha:PA X [a,b] ta)
  (hw:swappedStores [.Tuple [.Name x px,.Name y py] kt pt] (.Tuple [a,b] k2 pt2) X.env=pure (some [x,y]))
  (hs:swapsWithSole [.Tuple [.Name x px,.Name y py] kt pt] (.Tuple [a,b] k2 pt2) pos.line X.env=pure false:=by rfl) :
  PS X (.Assign [.Tuple [.Name x px,.Name y py] kt pt] (.Tuple [a,b] k2 pt2) pos) (tPar i j ta):=by
 intro pins s σ H D I h
 rw[exec_Assign_arm]
 refine wpAny_bind (wpAny_standAt ?_)
 rw[hs]
 refine wpAny_bind (wpAny_pure ?_)
 rw[if_neg (by decide)]
 refine wpAny_bind (Tuple_ (thn (ha _ pins s σ H _ I h) fun us s1 ⟨vs,H1,I1,r1,q1⟩=>?_))
 obtain⟨v,w,e1,q1⟩:=q1
 subst e1
 obtain⟨u1,u2,rfl,rv,rw'⟩:∃ u1 u2,us=[u1,u2]/\Z17 v u1/\Z17 w u2:=by
  cases r1 with
  | cons p q=>
   cases q with
   | cons p' q'=>
    cases q'
    exact⟨_,_,rfl,p,p'⟩
 refine wpAny_newObj_type ?_ (by show 2<=sizeLine; decide)
 have I2:Inv X pins σ H1 { s1 with heap:=s1.heap.push { cls:=.type "tuple",data:=.seq [u1,u2].toArray } }:=I1.kept (t':=s1.toks) fun b o e=>Y02 _ e
 rw[hw]
 refine wpAny_bind (wpAny_pure ?_)
 show wpAny (model X.prog X.w) X.A (do rule "assign.swapped-stores"; let items <-unpackItems (.ref s1.heap.objs.size) 2 none; assignInOrder [fun v=>bindName X.env y v,fun v=>bindName X.env x v] items.reverse; pure Flow.next) _ _ _
 refine wpAny_bind (wpAny_rule (wpAny_bind (unpackItems_tuple (items:=#[u1,u2]) (I.ok.hd hc) (IsTup.new s1.heap _) fun h' hx'=>?_)))
 have I3:=I2.kept (h':=h') (t':=s1.toks) fun b o e=>hx' b o (Y0k (Y07 e)) e
 show wpAny _ _ (assignInOrder [fun v=>bindName X.env y v,fun v=>bindName X.env x v] [u2,u1] >>= fun _=>pure Flow.next) _ _ _
 refine wpAny_bind (assignInOrder_cons (wpAny_bindName (Z2Y I3 hN hj (.inl hy) rw' (fun s2 I4=>?_) (.inr hy))))
 refine assignInOrder_cons (wpAny_bindName (Z2Y I4 hN hi (.inl hx) rv (fun s3 I5=>assignInOrder_nil (wpAny_pure ?_)) (.inr hx)))
 rw[List.set_comm _ _ (Ne.symm hij)]at I5
 exact⟨_,H1,I5,q1⟩
def tAug (i:Nat)(te:TE)(ti:TIp):TS:=fun D σ H=>∃ x,σ[i]?=some (some x)/\te σ H fun y H1=>ti x y H1 fun z H2=>D.nx (σ.set i (some z)) H2
theorem ZaR {i:Nat}{x:Str}{e:Expr}{te:TE}{op:Operator}{ti:TIp}{pos':Pos}(hN:X.N.Nodup)(hi:X.N[i]?=some x)(hx:Loc X.env.scope x)(he:PE X e te)(ho:PIp X op ti)(hf:X.fn x=true\/X.env.scope.names.lookup x=some .local:=by first | exact .inl rfl | exact .inr rfl | assumption) :
  PS X (.AugAssign (.Name x pos') op e pos) (tAug i te ti):=by
 intro pins s σ H D I h
 obtain⟨v,e1,h⟩:=h
 obtain⟨m,hn,hl⟩:=I.loc
 have vis:Vis X.env.scope x:=by rcases hx with k | k; exact .inl k; exact .inr (.inl k)
 obtain⟨u,r,l⟩:=hl i x v hi e1 vis
 refine wpAny_AugAssign_Name ?_
 have go:wpAny (model X.prog X.w) X.A (eval e X.env) (fun w s₂=>wpAny (model X.prog X.w) X.A (inplaceOp op u w) (fun r s₃=>wpAny (model X.prog X.w) X.A (storeName X.env x r) (fun _=>SP X pins D .next) X.xe s₃) X.xe s₂) X.xe s:=by
  refine thn (he pins s σ H _ I h) fun w s1 ⟨y,H1,I1,r1,q1⟩=>?_
  refine thn (ho pins s1 σ H1 v y u w _ I1 r r1 q1) fun z s2 ⟨zv,H2,I2,r2,q2⟩=>?_
  exact Z2Y I2 hN hi hx r2 (fun s3 I3=>⟨_,H2,I3,q2⟩) hf
 rcases l with ⟨hk,hm⟩ | ⟨hk,c,hc,hcell⟩
 ·exact wpAny_loadName_local I.ok.kind hk hn hm go
 ·rcases hk with hk | hk
  ·exact wpAny_loadName_cell I.ok.kind hk hc hcell go
  ·rcases hx with k | k
   ·have:X.env.scope.names.lookup x=some .free:=hk
    rw[k]at this; cases this
   ·have:X.env.scope.names.lookup x=some .free:=hk
    rw[k]at this; cases this
def ipI (f:Int->Int->Int):TIp:=fun x y H Q=>∃ i j,x=.int i/\y=.int j/\Q (.int (f i j)) H
theorem ZaV:PIp X .Add (ipI fun i j=>i+j):=by
 intro pins s σ H x y v u Q I r1 r2 h
 obtain⟨i,j,e1,e2,q⟩:=h
 subst e1; subst e2
 obtain⟨t,rfl⟩:=r1
 obtain⟨t',rfl⟩:=r2
 exact iadd_int ⟨.int _,H,I.tok _,⟨_,rfl⟩,q⟩
def Zb5 (c:TT)(tb:TS):TS:=fun D σ H=>∃ W:Nat->St->Hp->Prop,(∃ m,W m σ H)/\∀ m σ H,W m σ H->
 c σ H fun b H1=>if b=true then ∃ N:St->Hp->Prop,(∀ σ' H',N σ' H'->∃ m',m' < m/\W m' σ' H')/\tb { D with nx:=N,ct:=N,bk:=D.nx } σ H1 else D.nx σ H1
theorem Z1v {c:Expr}{body:List Stmt}{tc:TT}{tb:TS}(hp:PassesOwn (model X.prog X.w) X.A X.env X.xe)(hc:PT X c tc)(hb:PSs X body tb):PS X (.While c body [] pos) (Zb5 tc tb):=by
 intro pins s σ H D I h
 obtain⟨W,⟨m0,w0⟩,turn⟩:=h
 refine wpAny_While (codeAny_whileLoop (fun n s'=>∃ σ' H',Inv X pins σ' H' s'/\W n σ' H') ?_ m0 ⟨σ,H,I,w0⟩)
 rintro n s1 ⟨σ1,H1,I1,w1⟩
 refine wpAny_passesOwn hp (thn (hc pins s1 σ1 H1 _ I1 (turn n σ1 H1 w1)) fun b s2 ⟨H2,I2,q2⟩=>?_)
 cases b with
 | true=>
  obtain⟨N,hN,q2⟩:=q2
  rw[if_pos rfl]
  refine wpAny_passesOwn hp (thn (hb pins s2 σ1 H2 _ I2 q2) fun f s3 q3=>?_)
  cases f with
  | next=>
   obtain⟨σ3,H3,I3,n3⟩:=q3
   obtain⟨m',hm,w3⟩:=hN σ3 H3 n3
   exact⟨m',hm,σ3,H3,I3,w3⟩
  | cont=>
   obtain⟨σ3,H3,I3,n3⟩:=q3
   obtain⟨m',hm,w3⟩:=hN σ3 H3 n3
   exact⟨m',hm,σ3,H3,I3,w3⟩
  | brk=>exact q3
  | ret v=>exact q3
 | false=>
  rw[if_neg Bool.false_ne_true]
  exact wpAny_execs_nil ⟨σ1,H2,I2,q2⟩
end
structure It where
 go:Nat->Hp->Prop
 yld:Nat->Hp->V->Hp->Prop
 stop:Nat->Hp->Prop
def Z7O (X:Cx)(pins:List (Addr×Obj))(H:Hp)(b:Addr):Prop:=
 H b=none/\b≠X.env.locals/\b∉X.fs/\(b∈X.ex\/X.s₀.heap.objs.size<=b)/\(∀ x c,X.env.cells.lookup x=some c->c≠b)/\∀ p∈X.pn++pins,p.1≠b
theorem Inv.fpOk {X:Cx}{pins:List (Addr×Obj)}{σ:St}{H H':Hp}{s:Shared}{b:Addr}(I:Inv X pins σ H s)(hb:s.heap.objs.size<=b)(hn:H' b=none):Z7O X pins H' b:=by
 refine⟨hn,Nat.ne_of_gt (Y0g I.lt hb),I.nofs hb,.inr (Y0o I.sz hb),fun x c e z=>?_,fun p hp z=>?_⟩
 ·obtain⟨v,q⟩:=I.cell x c e
  exact absurd (Y0g q.lt (by rw[z]; exact hb)) (Y23 _)
 ·exact absurd (Y0g (Y07 (I.pin p hp).1) (by rw[z]; exact hb)) (Y23 _)
structure Zes (P:Program)(w:World)(K:Y00)(tg:Expr)(J:It)(fp:List Addr)(it:Addr)(tn:Nat->Heap->Prop):Prop where
 mem:it∈fp
 obj:∀ i h,tn i h->∀ b∈fp,∃ o,h.get? b=some o/\∀ v,o.data≠.cell v
 keep:∀ i h h',tn i h->(∀ b∈fp,∀ o,h.get? b=some o->h'.get? b=some o)->tn i h'
 item:∀ (X:Cx),X.prog=P->X.w=w->X.K=K->X.calm=true->∀ (i:Nat) (pins:List (Addr×Obj)) (s:Shared) (σ:St) (H:Hp) (E:Value->Shared->Prop),Inv X pins σ H s->(∀ b∈fp,Z7O X pins H b)->tn i s.heap->J.go i H->
  wpAny (model P w) X.A (pyNext (.ref it)) (fun r s1=>∃ u,r=some u/\
   wpAny (model P w) X.A (letOwnedTupleGo tg (.ref it) u) (fun _ s2=>∃ x H',Inv X pins σ H' s2/\Z17 x u/\J.yld i H x H'/\tn (i+1) s2.heap/\∀ b∈fp,H' b=none) E s1) E s
 done:∀ (X:Cx),X.prog=P->X.w=w->X.K=K->X.calm=true->∀ (i:Nat) (pins:List (Addr×Obj)) (s:Shared) (σ:St) (H:Hp) (E:Value->Shared->Prop),Inv X pins σ H s->(∀ b∈fp,Z7O X pins H b)->tn i s.heap->J.stop i H->
  wpAny (model P w) X.A (pyNext (.ref it)) (fun r s1=>r=none/\Inv X pins σ H s1) E s
 self:∀ (A:Around) (i:Nat) (s:Shared) (Q:Value->Shared->Prop) (E:Value->Shared->Prop),tn i s.heap->Q (.ref it) s->wpAny (model P w) A (pyIter (.ref it)) Q E s
abbrev TI:=St->Hp->(It->Hp->Prop)->Prop
def PIE (X:Cx)(pins:List (Addr×Obj))(σ:St)(tg:Expr)(R:It->Hp->Prop)(itv:Value)(s2:Shared):Prop:=
 ∃ (it:Addr) (fp:List Addr) (tn:Nat->Heap->Prop) (J:It) (H':Hp),itv=.ref it/\Inv X pins σ H' s2/\Zes X.prog X.w X.K tg J fp it tn/\tn 0 s2.heap/\(∀ b∈fp,Z7O X pins H' b)/\R J H'
def PI (X:Cx)(tg iter:Expr)(wi:TI):Prop:=
 ∀ (pins:List (Addr×Obj)) (s:Shared) (σ:St) (H:Hp) (R:It->Hp->Prop),Inv X pins σ H s->wi σ H R->
  wpAny (model X.prog X.w) X.A (eval iter X.env) (fun v s1=>wpAny (model X.prog X.w) X.A (pyIter v) (PIE X pins σ tg R) X.xe s1) X.xe s
theorem Zbw {M:Model}{A:Around}{E:Value->Shared->Prop}{s:Shared}{tg:Expr}{it:Addr}{u:Value}{o:Obj}{n:String}{vs:Array Value}{Q:Unit->Shared->Prop}(ho:s.heap.get? it=some o)(hc:o.cls=.type n)(hd:o.data=.fields vs)
  (hn:["enumerate","zip","dict_itemiterator","dict_reverseitemiterator","odict_iterator","itertools.zip_longest","itertools.pairwise"].contains n=false) (hQ:Q () s):wpAny M A (letOwnedTupleGo tg (.ref it) u) Q E s:=by
 unfold letOwnedTupleGo
 cases tg <;> first
  | exact wpAny_pure hQ
  | (cases u <;> first
    | exact wpAny_pure hQ
    | (refine wpAny_bind (wpAny_load ho ?_); rw[hc,hd]; show wpAny M A (if (["enumerate","zip","dict_itemiterator","dict_reverseitemiterator","odict_iterator","itertools.zip_longest","itertools.pairwise"].contains n && vs[0]? == some (rawInt _))=true then _ else _) Q E s; rw[if_neg (by intro h; rw[hn,Bool.false_and]at h; cases h)]; exact wpAny_pure hQ))
def Itl (K:Y00)(a:Addr):It:=
 ⟨fun i H=>∃ xs x,SqL K H a xs/\xs[i]?=some x,fun i H x H'=>H'=H/\∀ xs,SqL K H a xs->xs[i]?=some x,fun i H=>∃ xs,SqL K H a xs/\xs.length<=i⟩
def Itt (K:Y00)(a:Addr):It:=
 ⟨fun i H=>∃ xs x,SqT K H a xs/\xs[i]?=some x,fun i H x H'=>H'=H/\∀ xs,SqT K H a xs->xs[i]?=some x,fun i H=>∃ xs,SqT K H a xs/\xs.length<=i⟩
def Itr (lo:Int)(n:Nat):It:=⟨fun i _=>i < n,fun i H x H'=>H'=H/\x=.int (lo+i),fun i _=>n<=i⟩
theorem Z84 {P:Program}{w:World}{K:Y00}{tg:Expr}(a it:Addr):Zes P w K tg (Itl K a) [it] it (fun i h=>h.IsListIter it a i) where
 mem:=by simp
 obj:=fun i h st b hb=>by
  have e:b=it:=by simpa using hb
  subst e
  obtain⟨o,e,c,d⟩:=st
  exact⟨o,e,fun v z=>by rw[d]at z; cases z⟩
 keep:=fun i h h' st k=>st.at fun o e=>k it (by simp) o e
 item:=by
  intro X hP hw hK hc i pins s σ H E I hf st hg
  subst hP hw hK
  obtain⟨xs,x,hq,hx⟩:=hg
  obtain⟨its,rv,p,hz⟩:=I.list hq
  obtain⟨u,hu,ru⟩:=rv.get hx
  obtain⟨f0,f1,f2,f3,f4,f5⟩:=hf it (by simp)
  refine wpAny_pyNext_list_item st p.isList (x:=u) (by simpa using hu) fun h' st' sb=>?_
  have I1:Inv X pins σ H { s with heap:=h' }:=I.turned (t':=s.toks) (fun b o hb e=>(sb.2 b hb).trans e) f0 f1 f3 f4 f5
  obtain⟨o,e,c,d⟩:=id st'
  exact⟨u,rfl,Zbw (s:={ s with heap:=h' }) e c d (by decide) ⟨x,H,I1,ru,⟨rfl,fun ys hy=>by rw[I.list_inj hy hq]; exact hx⟩,st',fun b hb=>(hf b hb).1⟩⟩
 done:=by
  intro X hP hw hK hc i pins s σ H E I hf st hg
  subst hP hw hK
  obtain⟨xs,hq,hx⟩:=hg
  obtain⟨its,rv,p,hz⟩:=I.list hq
  obtain⟨f0,f1,f2,f3,f4,f5⟩:=hf it (by simp)
  have hl:=rv.length
  exact wpAny_pyNext_list_end (I.ok.hd hc) st p.isList (by simp; lia) fun h' eb=>⟨rfl,I.turned (t':=s.toks) (fun b o hb e=>eb b o hb e) f0 f1 f3 f4 f5⟩
 self:=fun _ _ _ _ _ st h=>wpAny_pyIter_listiter st h
theorem Z7B {P:Program}{w:World}{K:Y00}{tg:Expr}(a it:Addr):Zes P w K tg (Itt K a) [it] it (fun i h=>h.IsTupleIter it a i) where
 mem:=by simp
 obj:=fun i h st b hb=>by
  have e:b=it:=by simpa using hb
  subst e
  obtain⟨o,e,c,d⟩:=st
  exact⟨o,e,fun v z=>by rw[d]at z; cases z⟩
 keep:=fun i h h' st k=>st.at fun o e=>k it (by simp) o e
 item:=by
  intro X hP hw hK hc i pins s σ H E I hf st hg
  subst hP hw hK
  obtain⟨xs,x,hq,hx⟩:=hg
  obtain⟨its,rv,p,hz⟩:=I.tuple hq
  obtain⟨u,hu,ru⟩:=rv.get hx
  obtain⟨f0,f1,f2,f3,f4,f5⟩:=hf it (by simp)
  refine wpAny_pyNext_tuple_item st (show s.heap.IsTuple a its.toArray from p) (x:=u) (by simpa using hu) fun h' st' sb=>?_
  have I1:Inv X pins σ H { s with heap:=h' }:=I.turned (t':=s.toks) (fun b o hb e=>(sb.2 b hb).trans e) f0 f1 f3 f4 f5
  obtain⟨o,e,c,d⟩:=id st'
  exact⟨u,rfl,Zbw (s:={ s with heap:=h' }) e c d (by decide) ⟨x,H,I1,ru,⟨rfl,fun ys hy=>by rw[I.tuple_inj hy hq]; exact hx⟩,st',fun b hb=>(hf b hb).1⟩⟩
 done:=by
  intro X hP hw hK hc i pins s σ H E I hf st hg
  subst hP hw hK
  obtain⟨xs,hq,hx⟩:=hg
  obtain⟨its,rv,p,hz⟩:=I.tuple hq
  obtain⟨f0,f1,f2,f3,f4,f5⟩:=hf it (by simp)
  have hl:=rv.length
  exact wpAny_pyNext_tuple_end (I.ok.hd hc) st (show s.heap.IsTuple a its.toArray from p) (by simp; lia) fun h' eb=>⟨rfl,I.turned (t':=s.toks) (fun b o hb e=>eb b o hb e) f0 f1 f3 f4 f5⟩
 self:=fun _ _ _ _ _ st h=>wpAny_pyIter_tupleiter st h
theorem Z7V {P:Program}{w:World}{K:Y00}{tg:Expr}(it:Addr)(lo:Int)(n:Nat):Zes P w K tg (Itr lo n) [it] it (fun i h=>IsRangeIter h it (lo+(i:Nat) * 1) ((n:Int) - (i:Nat)) 1) where
 mem:=by simp
 obj:=fun i h st b hb=>by
  have e:b=it:=by simpa using hb
  subst e
  exact⟨_,st,fun v z=>by
   have z':Data.fields _=Data.cell v:=z
   cases z'⟩
 keep:=fun i h h' st k=>k it (by simp) _ st
 item:=by
  intro X hP hw hK hc i pins s σ H E I hf st hg
  subst hP hw hK
  obtain⟨f0,f1,f2,f3,f4,f5⟩:=hf it (by simp)
  have W:=Walks.range (prog:=X.prog) (w:=X.w) (I.ok.hd hc) it lo 1 n
  refine W.item i s _ _ hg st fun v h' tk hv st' kk=>?_
  obtain⟨t,rfl⟩:=hv
  have I1:Inv X pins σ H { s with heap:=h',toks:=tk }:=I.turned (fun b o hb e=>kk b o (by simpa using hb) e) f0 f1 f3 f4 f5
  refine⟨_,rfl,Zbw (s:={ s with heap:=h',toks:=tk }) (n:="range_iterator") st' rfl rfl (by decide) ⟨.int (lo+i),H,I1,⟨t,?_⟩,⟨rfl,rfl⟩,st',fun b hb=>(hf b hb).1⟩⟩
  rw[Int.mul_one]
 done:=by
  intro X hP hw hK hc i pins s σ H E I hf st hg
  subst hP hw hK
  obtain⟨f0,f1,f2,f3,f4,f5⟩:=hf it (by simp)
  exact wpAny_pyNext_range_end (I.ok.hd hc) st (by have:n<=i:=hg; lia) fun h' eb=>⟨rfl,I.turned (t':=s.toks) (fun b o hb e=>eb b o hb e) f0 f1 f3 f4 f5⟩
 self:=fun _ _ _ _ _ st h=>wpAny_pyIter_rangeiter st h
section
variable {X:Cx}{tg:Expr}
def Z9r (K:Y00)(tl:TE):TI:=fun σ H R=>tl σ H fun x H1=>∃ a,x=.ref a/\(∃ xs,SqL K H1 a xs)/\R (Itl K a) H1
def ZfY (K:Y00)(tl:TE):TI:=fun σ H R=>tl σ H fun x H1=>∃ a,x=.ref a/\(∃ xs,SqT K H1 a xs)/\R (Itt K a) H1
theorem Z2k {l:Expr}{tl:TE}(hl:PE X l tl):PI X tg l (Z9r X.K tl):=by
 intro pins s σ H R I h
 refine thn (hl pins s σ H _ I h) fun v s1 ⟨x,H1,I1,r1,q1⟩=>?_
 obtain⟨a,e,⟨xs,hq⟩,q⟩:=q1
 subst e
 cases r1
 obtain⟨its,rv,p,hz⟩:=I1.list hq
 refine wpAny_pyIter_list p.isList ?_
 refine⟨s1.heap.objs.size,[s1.heap.objs.size],_,_,H1,rfl,I1.kept (t':=s1.toks) fun b o e=>Y02 _ e,Z84 a _,⟨_,Y0a _ rfl,rfl,rfl⟩,fun b hb=>?_,q⟩
 have e:b=s1.heap.objs.size:=by simpa using hb
 subst e
 exact I1.fpOk (Y03 _) (I1.hok.fresh (Y03 _))
theorem Z9p {l:Expr}{tl:TE}(hl:PE X l tl):PI X tg l (ZfY X.K tl):=by
 intro pins s σ H R I h
 refine thn (hl pins s σ H _ I h) fun v s1 ⟨x,H1,I1,r1,q1⟩=>?_
 obtain⟨a,e,⟨xs,hq⟩,q⟩:=q1
 subst e
 cases r1
 obtain⟨its,rv,p,hz⟩:=I1.tuple hq
 refine wpAny_pyIter_tuple (show s1.heap.IsTuple a its.toArray from p) ?_
 refine⟨s1.heap.objs.size,[s1.heap.objs.size],_,_,H1,rfl,I1.kept (t':=s1.toks) fun b o e=>Y02 _ e,Z7B a _,⟨_,Y0a _ rfl,rfl,rfl⟩,fun b hb=>?_,q⟩
 have e:b=s1.heap.objs.size:=by simpa using hb
 subst e
 exact I1.fpOk (Y03 _) (I1.hok.fresh (Y03 _))
theorem Z7z {pins:List (Addr×Obj)}{σ:St}{H:Hp}{s:Shared}{R:It->Hp->Prop}{E:Value->Shared->Prop}{lo hi:Int}{t u v:Tok}{tk:Nat}(I:Inv X pins σ H s)(h1:-(2 ^ 62)<=lo)(h2:lo < 2 ^ 62)(h3:-(2 ^ 62)<=hi)(h4:hi < 2 ^ 62)
  (q:R (Itr lo (hi - lo).toNat) H):wpAny (model X.prog X.w) X.A (pyIter (.ref s.heap.objs.size)) (PIE X pins σ tg R) E { s with heap:=s.heap.push { cls:=.type "range",data:=.fields #[.int lo t,.int hi u,.int 1 v] },toks:=tk }:=by
 refine wpAny_pyIter_range (IsRange.new ..) (small_one h1 h2 h3 h4) ?_
 have I1:Inv X pins σ H { s with heap:=s.heap.push { cls:=.type "range",data:=.fields #[.int lo t,.int hi u,.int 1 v] },toks:=tk }:=I.kept fun b o e=>Y02 _ e
 refine⟨(s.heap.push { cls:=.type "range",data:=.fields #[.int lo t,.int hi u,.int 1 v] }).objs.size,[(s.heap.push { cls:=.type "range",data:=.fields #[.int lo t,.int hi u,.int 1 v] }).objs.size],_,_,H,rfl,
  I1.kept (t':=tk) fun b o e=>Y02 _ e,Z7V _ lo (hi - lo).toNat,?_,fun b hb=>?_,q⟩
 ·have e1:lo+((0:Nat):Int) * 1=lo:=by simp
  have e2:(((hi - lo).toNat:Nat):Int) - ((0:Nat):Int)=Builtin.Range.rangeSize lo hi 1:=by rw[rangeSize_one]; split <;> lia
  show IsRangeIter _ _ (lo+((0:Nat):Int) * 1) ((((hi - lo).toNat:Nat):Int) - ((0:Nat):Int)) 1
  rw[e1,e2]
  exact Y0a _ rfl
 ·have e:b=(s.heap.push { cls:=.type "range",data:=.fields #[.int lo t,.int hi u,.int 1 v] }).objs.size:=by simpa using hb
  subst e
  exact I1.fpOk (Y03 _) (I1.hok.fresh (Y03 _))
def ZfD (ta:TA):TI:=fun σ H R=>ta σ H fun vs H1=>∃ j:Int,vs=[.int j]/\-(2 ^ 62)<=j/\j < 2 ^ 62/\R (Itr 0 j.toNat) H1
def ZfN (ta:TA):TI:=fun σ H R=>ta σ H fun vs H1=>∃ i j:Int,vs=[.int i,.int j]/\(-(2 ^ 62)<=i/\i < 2 ^ 62/\-(2 ^ 62)<=j/\j < 2 ^ 62)/\R (Itr i (j - i).toNat) H1
theorem Z1L {a:Expr}{ta:TA}{p pos:Pos}(hg:Gl X "range")(hm:X.mg "range"=none)(ha:PA X [a] ta)(hs:starEach [a] X.env=[(false,eval a X.env)]:=by rfl):PI X tg (.Call (.Name "range" p) [a] [] pos) (ZfD ta):=by
 intro pins s σ H R I h
 refine Call_ (Z4T I hg hm boot_range (PyProof.Rows.callWith_type1 (thn (ha pos pins s σ H _ I h) fun us s1 ⟨vs,H1,I1,r1,q1⟩=>?_) hs rfl))
 obtain⟨j,e,q1,q2,q⟩:=q1
 subst e
 cases r1 with
 | cons r rr=>
  cases rr
  obtain⟨t,rfl⟩:=r
  exact call_range_1 (Z7z I1 (by lia) (by lia) q1 q2 (by simpa using q))
theorem Z8z {a b:Expr}{ta:TA}{p pos:Pos}(hg:Gl X "range")(hm:X.mg "range"=none)(ha:PA X [a,b] ta)(hs:starEach [a,b] X.env=[(false,eval a X.env),(false,eval b X.env)]:=by rfl)(hs2:starEach [b] X.env=[(false,eval b X.env)]:=by rfl) :
  PI X tg (.Call (.Name "range" p) [a,b] [] pos) (ZfN ta):=by
 intro pins s σ H R I h
 refine Call_ (Z4T I hg hm boot_range (PyProof.Rows.callWith_type1 (thn (ha pos pins s σ H _ I h) fun us s1 ⟨vs,H1,I1,r1,q1⟩=>?_) (by rw[hs,hs2]) (by rw[hs2]; rfl)))
 obtain⟨i,j,e,⟨q1,q2,q3,q4⟩,q⟩:=q1
 subst e
 cases r1 with
 | cons r rr=>
  cases rr with
  | cons r' rr=>
   cases rr
   obtain⟨t,rfl⟩:=r
   obtain⟨t',rfl⟩:=r'
   exact call_range_2 (Z7z I1 q1 q2 q3 q4 q)
def tFor (wi:TI)(g:TG)(tb:TS):TS:=fun D σ H=>wi σ H fun J H1=>∃ W:Nat->Nat->St->Hp->Prop,(∃ m,W 0 m σ H1)/\∀ i m σ H,W i m σ H->
 (J.stop i H/\D.nx σ H)\/(J.go i H/\∃ N:St->Hp->Prop,(∀ σ' H',N σ' H'->∃ m',m' < m/\W (i+1) m' σ' H')/\∀ x H',J.yld i H x H'->g x σ H' fun σ2 H2=>tb { D with nx:=N,ct:=N,bk:=D.nx } σ2 H2)
def Z7A (fp:List Addr)(h:Heap):List (Addr×Obj):=fp.filterMap fun b=>(h.get? b).map fun o=>(b,o)
theorem Z10 {fp:List Addr}{h:Heap}{b:Addr}{o:Obj}(hb:b∈fp)(e:h.get? b=some o):(b,o)∈Z7A fp h:=List.mem_filterMap.mpr ⟨b,hb,by rw[e]; rfl⟩
theorem Z88 {fp:List Addr}{h:Heap}{p:Addr×Obj}(hp:p∈Z7A fp h):p.1∈fp/\h.get? p.1=some p.2:=by
 obtain⟨b,hb,e⟩:=List.mem_filterMap.mp hp
 cases q:h.get? b with
 | none=>rw[q]at e; cases e
 | some o=>
  rw[q]at e
  have e':(b,o)=p:=Option.some.inj e
  subst e'
  exact⟨hb,q⟩
theorem Inv.pinned {pins:List (Addr×Obj)}{σ:St}{H:Hp}{s:Shared}{fp:List Addr}(I:Inv X pins σ H s)(hf:∀ b∈fp,Z7O X pins H b)(ho:∀ b∈fp,∃ o,s.heap.get? b=some o/\∀ v,o.data≠.cell v):Inv X (pins++Z7A fp s.heap) σ H s:=
 I.pins_of fun p hp=>(Y0b.mp hp).elim (fun z=>I.pin p (Y09 _ z)) fun z=>by
  obtain⟨hb,e⟩:=Z88 z
  obtain⟨f0,f1,f2,_⟩:=hf p.1 hb
  obtain⟨o,e',d⟩:=ho p.1 hb
  rw[e]at e'; cases e'
  exact⟨e,f0,f1,f2,d⟩
theorem Inv.unpinned {pins pl:List (Addr×Obj)}{σ:St}{H:Hp}{s:Shared}(I:Inv X (pins++pl) σ H s):Inv X pins σ H s:=I.pins_of fun p hp=>I.pin p (Y09 _ (Y1y _ hp))
theorem Z2m {iter:Expr}{body:List Stmt}{wi:TI}{g:TG}{tb:TS}{pos:Pos}(hp:PassesOwn (model X.prog X.w) X.A X.env X.xe)(hc:X.calm=true)(hi:PI X tg iter wi)(hg:PG X tg g)(hb:PSs X body tb)
  (hs:∀ x,foldedSetIterable iter X.env x=pure x:=by intro _; rfl):PS X (.For tg iter body [] pos) (tFor wi g tb):=by
 intro pins s σ H D I h
 refine wpAny_For (thn (hi pins s σ H _ I h) fun v s1 h1=>thn h1 fun itv s2 h2=>?_) hs
 obtain⟨it,fp,tn,J,H2,e,I2,T,st2,f2,W,⟨m0,w0⟩,turn⟩:=h2
 subst e
 have stat:∀ {H':Hp},(∀ b∈fp,H' b=none)->∀ b∈fp,Z7O X pins H' b:=fun hn b hb=>⟨hn b hb,(f2 b hb).2⟩
 refine codeAny_forLoop_any (fun n s'=>∃ i σ' H',Inv X pins σ' H' s'/\tn i s'.heap/\(∀ b∈fp,H' b=none)/\W i n σ' H') ?_ m0 ⟨0,σ,H2,I2,st2,fun b hb=>(f2 b hb).1,w0⟩
 rintro n s3 ⟨i,σ3,H3,I3,st3,fr3,w3⟩
 rcases turn i n σ3 H3 w3 with ⟨stop,qn⟩ | ⟨go,N,hN,step⟩
 ·refine wpAny_passesOwn hp (thn (T.done X rfl rfl rfl hc i pins s3 σ3 H3 X.xe I3 (stat fr3) st3 stop) fun r s4 ⟨hr,I4⟩=>?_)
  subst hr
  exact wpAny_execs_nil ⟨σ3,H3,I4,qn⟩
 ·refine wpAny_passesOwn hp (thn (T.item X rfl rfl rfl hc i pins s3 σ3 H3 X.xe I3 (stat fr3) st3 go) fun r s4 ⟨u,hr,h4⟩=>?_)
  subst hr
  refine wpAny_passesOwn hp (thn h4 fun _ s5 ⟨x,H5,I5,r5,y5,st5,fr5⟩=>?_)
  have I5':=I5.pinned (stat fr5) (T.obj _ _ st5)
  refine wpAny_passesOwn hp (thn (hg _ s5 σ3 H5 x u _ I5' r5 (step x H5 y5)) fun _ s6 ⟨σ6,H6,I6,q6⟩=>?_)
  refine wpAny_passesOwn hp (thn (hb _ s6 σ6 H6 _ I6 q6) fun f s7 q7=>?_)
  have again:∀ {σ7:St} {H7:Hp},Inv X (pins++Z7A fp s5.heap) σ7 H7 s7->N σ7 H7->∃ m,m < n/\∃ i σ' H',Inv X pins σ' H' s7/\tn i s7.heap/\(∀ b∈fp,H' b=none)/\W i m σ' H':=fun {σ7 H7} I7 n7=>by
   obtain⟨m',hm,w7⟩:=hN σ7 H7 n7
   refine⟨m',hm,i+1,σ7,H7,I7.unpinned,T.keep _ _ _ st5 fun b hb o e=>(I7.pin (b,o) (Y09 _ (Y09 _ (Z10 hb e)))).1,fun b hb=>?_,w7⟩
   obtain⟨o,e,d⟩:=T.obj _ _ st5 b hb
   exact (I7.pin (b,o) (Y09 _ (Y09 _ (Z10 hb e)))).2.1
  cases f with
  | next=>obtain⟨σ7,H7,I7,n7⟩:=q7; exact again I7 n7
  | cont=>obtain⟨σ7,H7,I7,n7⟩:=q7; exact again I7 n7
  | brk=>obtain⟨σ7,H7,I7,q7⟩:=q7; exact⟨σ7,H7,I7.unpinned,q7⟩
  | ret v=>obtain⟨x7,σ7,H7,I7,r7,q7⟩:=q7; exact⟨x7,σ7,H7,I7.unpinned,r7,q7⟩
end
theorem Z3N {K:Y00}{a:Addr}{xs:List V}{g:TG}{tb:TS}{D:Z8u}{σ:St}{H:Hp}(Pv:Nat->St->Hp->Prop)(h0:Pv 0 σ H)(hl:∀ i σ H,i<=xs.length->Pv i σ H->SqL K H a xs)
  (hs:∀ i x σ H,xs[i]?=some x->Pv i σ H->g x σ H fun σ2 H2=>tb { D with nx:=Pv (i+1),ct:=Pv (i+1),bk:=D.nx } σ2 H2) (hd:∀ σ H,Pv xs.length σ H->D.nx σ H) :
  ∃ W:Nat->Nat->St->Hp->Prop,(∃ m,W 0 m σ H)/\∀ i m σ H,W i m σ H->
   ((Itl K a).stop i H/\D.nx σ H)\/((Itl K a).go i H/\∃ N:St->Hp->Prop,(∀ σ' H',N σ' H'->∃ m',m' < m/\W (i+1) m' σ' H')/\∀ x H',(Itl K a).yld i H x H'->g x σ H' fun σ2 H2=>tb { D with nx:=N,ct:=N,bk:=D.nx } σ2 H2):=by
 refine⟨fun i m σ H=>m=xs.length - i/\i<=xs.length/\Pv i σ H,⟨xs.length,by simp,Y0s _,h0⟩,?_⟩
 rintro i m σ H ⟨rfl,hi,p⟩
 have q:=hl i σ H hi p
 by_cases hlt:i < xs.length
 ·refine .inr ⟨⟨xs,xs[i],q,by simp[hlt]⟩,Pv (i+1),fun σ' H' p'=>⟨xs.length - (i+1),by lia,rfl,hlt,p'⟩,fun x H' y=>?_⟩
  obtain⟨e,y⟩:=y
  subst e
  exact hs i x σ _ (y xs q) p
 ·have e:i=xs.length:=by lia
  subst e
  exact .inl ⟨⟨xs,q,Y03 _⟩,hd σ H p⟩
theorem ZbT {K:Y00}{a:Addr}{xs:List V}{g:TG}{tb:TS}{D:Z8u}{σ:St}{H:Hp}(Pv:Nat->St->Hp->Prop)(h0:Pv 0 σ H)(hl:∀ i σ H,i<=xs.length->Pv i σ H->SqT K H a xs)
  (hs:∀ i x σ H,xs[i]?=some x->Pv i σ H->g x σ H fun σ2 H2=>tb { D with nx:=Pv (i+1),ct:=Pv (i+1),bk:=D.nx } σ2 H2) (hd:∀ σ H,Pv xs.length σ H->D.nx σ H) :
  ∃ W:Nat->Nat->St->Hp->Prop,(∃ m,W 0 m σ H)/\∀ i m σ H,W i m σ H->
   ((Itt K a).stop i H/\D.nx σ H)\/((Itt K a).go i H/\∃ N:St->Hp->Prop,(∀ σ' H',N σ' H'->∃ m',m' < m/\W (i+1) m' σ' H')/\∀ x H',(Itt K a).yld i H x H'->g x σ H' fun σ2 H2=>tb { D with nx:=N,ct:=N,bk:=D.nx } σ2 H2):=by
 refine⟨fun i m σ H=>m=xs.length - i/\i<=xs.length/\Pv i σ H,⟨xs.length,by simp,Y0s _,h0⟩,?_⟩
 rintro i m σ H ⟨rfl,hi,p⟩
 have q:=hl i σ H hi p
 by_cases hlt:i < xs.length
 ·refine .inr ⟨⟨xs,xs[i],q,by simp[hlt]⟩,Pv (i+1),fun σ' H' p'=>⟨xs.length - (i+1),by lia,rfl,hlt,p'⟩,fun x H' y=>?_⟩
  obtain⟨e,y⟩:=y
  subst e
  exact hs i x σ _ (y xs q) p
 ·have e:i=xs.length:=by lia
  subst e
  exact .inl ⟨⟨xs,q,Y03 _⟩,hd σ H p⟩
theorem Z23 {lo:Int}{n:Nat}{g:TG}{tb:TS}{D:Z8u}{σ:St}{H:Hp}(Pv:Nat->St->Hp->Prop)(h0:Pv 0 σ H)
  (hs:∀ i σ H,i < n->Pv i σ H->g (.int (lo+i)) σ H fun σ2 H2=>tb { D with nx:=Pv (i+1),ct:=Pv (i+1),bk:=D.nx } σ2 H2) (hd:∀ σ H,Pv n σ H->D.nx σ H) :
  ∃ W:Nat->Nat->St->Hp->Prop,(∃ m,W 0 m σ H)/\∀ i m σ H,W i m σ H->
   ((Itr lo n).stop i H/\D.nx σ H)\/((Itr lo n).go i H/\∃ N:St->Hp->Prop,(∀ σ' H',N σ' H'->∃ m',m' < m/\W (i+1) m' σ' H')/\∀ x H',(Itr lo n).yld i H x H'->g x σ H' fun σ2 H2=>tb { D with nx:=N,ct:=N,bk:=D.nx } σ2 H2):=by
 refine⟨fun i m σ H=>m=n - i/\i<=n/\Pv i σ H,⟨n,by simp,Y0s _,h0⟩,?_⟩
 rintro i m σ H ⟨rfl,hi,p⟩
 by_cases hlt:i < n
 ·refine .inr ⟨hlt,Pv (i+1),fun σ' H' p'=>⟨n - (i+1),by lia,rfl,hlt,p'⟩,fun x H' y=>?_⟩
  obtain⟨e,y⟩:=y
  subst e y
  exact hs i σ _ hlt p
 ·have e:i=n:=by lia
  subst e
  exact .inl ⟨Y03 _,hd σ H p⟩
theorem Z2b {c:TT}{tb:TS}{D:Z8u}{σ:St}{H:Hp}(Pv:St->Hp->Prop)(μ:St->Hp->Nat)(h0:Pv σ H)
  (hs:∀ σ H,Pv σ H->c σ H fun b H1=>if b=true then tb { D with nx:=fun σ' H'=>Pv σ' H'/\μ σ' H' < μ σ H,ct:=fun σ' H'=>Pv σ' H'/\μ σ' H' < μ σ H,bk:=D.nx } σ H1 else D.nx σ H1)
  (mono:∀ σ H Q Q',(∀ b H1,Q b H1->Q' b H1)->c σ H Q->c σ H Q'):Zb5 c tb D σ H:=by
 refine⟨fun m σ H=>m=μ σ H/\Pv σ H,⟨_,rfl,h0⟩,?_⟩
 rintro m σ H ⟨rfl,p⟩
 refine mono σ H _ _ (fun b H1 q=>?_) (hs σ H p)
 cases b with
 | true=>exact⟨_,fun σ' H' ⟨p',l⟩=>⟨_,l,rfl,p'⟩,q⟩
 | false=>exact q
abbrev R2:=V->V->Hp->VK->Prop
def OpR (X:Cx)(f:Value->Value->Sem Value)(r:R2):Prop:=
 ∀ (pins:List (Addr×Obj)) (s:Shared) (σ:St) (H:Hp) (x y:V) (v u:Value) (Q:VK),Inv X pins σ H s->Z17 x v->Z17 y u->r x y H Q->
  wpAny (model X.prog X.w) X.A (f v u) (EP X pins σ Q) X.xe s
def UnR (X:Cx)(f:Value->Sem Value)(r:V->Hp->VK->Prop):Prop:=
 ∀ (pins:List (Addr×Obj)) (s:Shared) (σ:St) (H:Hp) (x:V) (v:Value) (Q:VK),Inv X pins σ H s->Z17 x v->r x H Q->
  wpAny (model X.prog X.w) X.A (f v) (EP X pins σ Q) X.xe s
def Z2F (X:Cx)(f:Value)(r:List V->Hp->VK->Prop):Prop:=
 ∀ (pins:List (Addr×Obj)) (s:Shared) (σ:St) (H:Hp) (xs:List V) (us:List Value) (Q:VK),Inv X pins σ H s->Z13 xs us->r xs H Q->
  wpAny (model X.prog X.w) X.A (call f us) (EP X pins σ Q) X.xe s
def tOp (r:R2)(ta tb:TE):TE:=fun σ H Q=>ta σ H fun x H1=>tb σ H1 fun y H2=>r x y H2 Q
def tUn (r:V->Hp->VK->Prop)(ta:TE):TE:=fun σ H Q=>ta σ H fun x H1=>r x H1 Q
def rI (C:Int->Int->Prop)(g:Int->Int->V):R2:=fun x y H Q=>∃ i j,x=.int i/\y=.int j/\C i j/\Q (g i j) H
def rI0 (g:Int->Int->V):R2:=fun x y H Q=>∃ i j,x=.int i/\y=.int j/\Q (g i j) H
def rU (g:Int->V):V->Hp->VK->Prop:=fun x H Q=>∃ i,x=.int i/\Q (g i) H
section
variable {X:Cx}{a b c:Expr}{ta tb tc:TE}{pos:Pos}
theorem Zgl (ha:PE X a ta)(hb:PE X b tb){pins:List (Addr×Obj)}{s:Shared}{σ:St}{H:Hp}{R:V->V->Hp->Prop}(I:Inv X pins σ H s)
  (h:ta σ H fun x H1=>tb σ H1 fun y H2=>R x y H2) {Q:Value->Shared->Prop} {f:Value->Value->Sem Value}
  (hf:∀ v u s2 x y H2,Inv X pins σ H2 s2->Z17 x v->Z17 y u->R x y H2->wpAny (model X.prog X.w) X.A (f v u) Q X.xe s2) :
  wpAny (model X.prog X.w) X.A (eval a X.env) (fun v s₁=>wpAny (model X.prog X.w) X.A (eval b X.env) (fun u s₂=>wpAny (model X.prog X.w) X.A (f v u) Q X.xe s₂) X.xe s₁) X.xe s:=by
 refine thn (ha pins s σ H _ I h) fun v s1 ⟨x,H1,I1,r1,q1⟩=>?_
 refine thn (hb pins s1 σ H1 _ I1 q1) fun u s2 ⟨y,H2,I2,r2,q2⟩=>?_
 exact hf v u s2 x y H2 I2 r1 r2 q2
theorem Z0c {op:Operator}{r:R2}(ho:OpR X (binaryOp op) r)(ha:PE X a ta)(hb:PE X b tb):PE X (.BinOp a op b pos) (tOp r ta tb):=by
 intro pins s σ H Q I h
 exact wpAny_BinOp (Zgl ha hb I h fun v u s2 x y H2 I2 rx ry q=>ho pins s2 σ H2 x y v u Q I2 rx ry q)
theorem Z6n {op:UnaryOp}{r:V->Hp->VK->Prop}(ho:UnR X (unaryOp op) r)(ha:PE X a ta):PE X (.UnaryOp op a pos) (tUn r ta):=by
 intro pins s σ H Q I h
 exact UnaryOp_ (thn (ha pins s σ H _ I h) fun v s1 ⟨x,H1,I1,r1,q1⟩=>ho pins s1 σ H1 x v Q I1 r1 q1)
theorem opI {f:Value->Value->Sem Value}{C:Int->Int->Prop}{g:Int->Int->Int}
  (rule:∀ (i j:Int) (t u:Tok) (s:Shared) (Q:Value->Shared->Prop) (E:Value->Shared->Prop),C i j->Q (.int (g i j) s.toks) { s with toks:=s.toks+1 }->wpAny (model X.prog X.w) X.A (f (.int i t) (.int j u)) Q E s) :
  OpR X f (rI C fun i j=>.int (g i j)):=by
 intro pins s σ H x y v u Q I rx ry h
 obtain⟨i,j,rfl,rfl,hc,q⟩:=h
 obtain⟨t,rfl⟩:=rx
 obtain⟨t',rfl⟩:=ry
 exact rule i j t t' s _ _ hc ⟨.int (g i j),H,I.tok _,⟨_,rfl⟩,q⟩
theorem opI0 {f:Value->Value->Sem Value}{g:Int->Int->Int}
  (rule:∀ (i j:Int) (t u:Tok) (s:Shared) (Q:Value->Shared->Prop) (E:Value->Shared->Prop),Q (.int (g i j) s.toks) { s with toks:=s.toks+1 }->wpAny (model X.prog X.w) X.A (f (.int i t) (.int j u)) Q E s) :
  OpR X f (rI0 fun i j=>.int (g i j)):=by
 intro pins s σ H x y v u Q I rx ry h
 obtain⟨i,j,rfl,rfl,q⟩:=h
 obtain⟨t,rfl⟩:=rx
 obtain⟨t',rfl⟩:=ry
 exact rule i j t t' s _ _ ⟨.int (g i j),H,I.tok _,⟨_,rfl⟩,q⟩
theorem Zf9 {f:Value->Value->Sem Value}{g:Int->Int->Bool}
  (rule:∀ (i j:Int) (t u:Tok) (s:Shared) (Q:Value->Shared->Prop) (E:Value->Shared->Prop),Q (.bool (g i j)) s->wpAny (model X.prog X.w) X.A (f (.int i t) (.int j u)) Q E s) :
  OpR X f (rI0 fun i j=>.bl (g i j)):=by
 intro pins s σ H x y v u Q I rx ry h
 obtain⟨i,j,rfl,rfl,q⟩:=h
 obtain⟨t,rfl⟩:=rx
 obtain⟨t',rfl⟩:=ry
 exact rule i j t t' s _ _ ⟨.bl (g i j),H,I,rfl,q⟩
def CDiv (i j:Int):Prop:=0 < j/\j < 1073741824
def CPow (i j:Int):Prop:=0<=j/\j<=1000000/\i.natAbs < 2 ^ 64
def ZfV (i j:Int):Prop:=(-(2 ^ 64) < i/\i < 2 ^ 64)\/(-(2 ^ 64) < j/\j < 2 ^ 64)
theorem ZfV.ok {i j:Int}(h:ZfV i j):IntMulOk i j:=by
 rcases h with ⟨h1,h2⟩ | ⟨h1,h2⟩
 ·exact .of_left (intBits_le_64 h1 h2)
 ·exact .of_right (intBits_le_64 h1 h2)
theorem Z0I:OpR X (binaryOp .Add) (rI0 fun i j=>.int (i+j)):=opI0 fun _ _ _ _ _ _ _ q=>add_int q
theorem Z24:OpR X (binaryOp .Sub) (rI0 fun i j=>.int (i - j)):=opI0 fun _ _ _ _ _ _ _ q=>sub_int q
theorem Z1Q:OpR X (binaryOp .Mult) (rI ZfV fun i j=>.int (i * j)):=opI fun _ _ _ _ _ _ _ hc q=>mul_int q hc.ok
theorem Z16:OpR X (binaryOp .FloorDiv) (rI CDiv fun i j=>.int (i / j)):=opI fun i j _ _ _ _ _ hc q=>by
 have h1:(0:Int) < j:=hc.1
 have h2:j < 1073741824:=hc.2
 exact floordiv_int (by lia) (by rw[Int.fdiv_eq_ediv_of_nonneg i (by lia)]; exact q) (.inl (PyProof.noPylong_small (by lia)))
theorem Z0K:OpR X (binaryOp .Mod) (rI (fun _ j=>0 < j) fun i j=>.int (i % j)):=opI fun i j _ _ _ _ _ hc q=>by
 have h1:(0:Int) < j:=hc
 exact mod_int' (by lia) (by rw[Int.fmod_eq_emod_of_nonneg i (by lia)]; exact q)
theorem Zcc:OpR X (binaryOp .Mod) (rI (fun _ j=>j≠0) fun i j=>.int (i.fmod j)):=opI fun _ _ _ _ _ _ _ hc q=>mod_int' hc q
theorem Z6Q:OpR X (binaryOp .Pow) (rI CPow fun i j=>.int (i ^ j.toNat)):=opI fun _ _ _ _ _ _ _ hc q=>pow_int_small hc.1 hc.2.1 hc.2.2 q
theorem unI {f:Value->Sem Value}{g:Int->Int}
  (rule:∀ (i:Int) (t:Tok) (s:Shared) (Q:Value->Shared->Prop) (E:Value->Shared->Prop),Q (.int (g i) s.toks) { s with toks:=s.toks+1 }->wpAny (model X.prog X.w) X.A (f (.int i t)) Q E s) :
  UnR X f (rU fun i=>.int (g i)):=by
 intro pins s σ H x v Q I rx h
 obtain⟨i,rfl,q⟩:=h
 obtain⟨t,rfl⟩:=rx
 exact rule i t s _ _ ⟨.int (g i),H,I.tok _,⟨_,rfl⟩,q⟩
theorem Z4k:UnR X (unaryOp .USub) (rU fun i=>.int (-i)):=unI fun _ _ _ _ _ q=>neg_int q
end
def ZcK:V->V->Bool
 | .non,.non=>true | .non,.int _=>true | .int _,.non=>true | .non,.bl _=>true | .bl _,.non=>true | .non,.str _=>true | .str _,.non=>true
 | .int _,.int _=>true | .bl _,.bl _=>true | .str _,.str _=>true | .byt _,.byt _=>true
 | .int _,.str _=>true | .str _,.int _=>true | .bl _,.str _=>true | .str _,.bl _=>true
 | _,_=>false
def rEq:R2:=fun x y H Q=>ZcK x y=true/\Q (.bl (decide (x=y))) H
def rNe:R2:=fun x y H Q=>ZcK x y=true/\Q (.bl (!decide (x=y))) H
theorem Z8E {i j:Int}:decide (V.int i=V.int j)=(i == j):=by
 rw[Bool.eq_iff_iff]
 simp
theorem ZaT {i j:Bool}:decide (V.bl i=V.bl j)=(i == j):=by
 rw[Bool.eq_iff_iff]
 simp
theorem Z8Y {i j:Str}:decide (V.str i=V.str j)=(i == j):=by
 rw[Bool.eq_iff_iff]
 simp
theorem Z95 {i j:Array UInt8}:decide (V.byt i=V.byt j)=(i.toList == j.toList):=by
 rw[Bool.eq_iff_iff]
 cases i
 cases j
 simp
section
variable {X:Cx}{a b c:Expr}{ta tb tc:TE}{pos:Pos}
theorem Z0L {pins:List (Addr×Obj)}{σ:St}{H:Hp}{s:Shared}{Q:VK}{k k':Bool}(I:Inv X pins σ H s)(q:Q (.bl k) H)(e:k=k'):EP X pins σ Q (.bool k') s:=by
 subst e
 exact⟨.bl k,H,I,rfl,q⟩
theorem Z1k:OpR X (compareOp .Eq) rEq:=by
 intro pins s σ H x y v u Q I rx ry h
 obtain⟨hs,q⟩:=h
 cases x with
 | non=>
  cases rx
  cases y with
  | non=>cases ry; exact PySem.EqNone.eq_none_none (Z0L I q (by simp))
  | bl j=>cases ry; exact PySem.EqNone.eq_none_bool (Z0L I q (by simp))
  | int j=>obtain⟨t',rfl⟩:=ry; exact PySem.EqNone.eq_none_int (Z0L I q (by simp))
  | str j=>obtain⟨t',rfl⟩:=ry; exact PySem.EqNone.eq_none_str (Z0L I q (by simp))
  | _=>exact absurd (show false=true from hs) Bool.false_ne_true
 | bl i=>
  cases rx
  cases y with
  | non=>cases ry; exact PySem.EqNone.eq_bool_none (Z0L I q (by simp))
  | bl j=>cases ry; exact eq_bool (Z0L I q ZaT)
  | str j=>obtain⟨t',rfl⟩:=ry; exact PySem.EqMixed.eq_bool_str (Z0L I q (by simp))
  | _=>exact absurd (show false=true from hs) Bool.false_ne_true
 | int i=>
  obtain⟨t,rfl⟩:=rx
  cases y with
  | non=>cases ry; exact PySem.EqNone.eq_int_none (Z0L I q (by simp))
  | int j=>obtain⟨t',rfl⟩:=ry; exact eq_int (Z0L I q Z8E)
  | str j=>obtain⟨t',rfl⟩:=ry; exact PySem.EqMixed.eq_int_str (Z0L I q (by simp))
  | _=>exact absurd (show false=true from hs) Bool.false_ne_true
 | str i=>
  obtain⟨t,rfl⟩:=rx
  cases y with
  | non=>cases ry; exact PySem.EqNone.eq_str_none (Z0L I q (by simp))
  | bl j=>cases ry; exact PySem.EqMixed.eq_str_bool (Z0L I q (by simp))
  | int j=>obtain⟨t',rfl⟩:=ry; exact PySem.EqMixed.eq_str_int (Z0L I q (by simp))
  | str j=>obtain⟨t',rfl⟩:=ry; exact eq_str (Z0L I q Z8Y)
  | _=>exact absurd (show false=true from hs) Bool.false_ne_true
 | byt i=>
  obtain⟨t,rfl⟩:=rx
  cases y with
  | byt j=>obtain⟨t',rfl⟩:=ry; exact PySem.W.eq_bytes (Z0L I q Z95)
  | _=>exact absurd (show false=true from hs) Bool.false_ne_true
 | _=>cases y <;> exact absurd (show false=true from hs) Bool.false_ne_true
theorem Z3q:OpR X (compareOp .NotEq) rNe:=by
 intro pins s σ H x y v u Q I rx ry h
 obtain⟨hs,q⟩:=h
 cases x with
 | non=>
  cases rx
  cases y with
  | non=>cases ry; exact PySem.EqNone.ne_none_none (Z0L I q (by simp))
  | bl j=>cases ry; exact PySem.EqNone.ne_none_bool (Z0L I q (by simp))
  | int j=>obtain⟨t',rfl⟩:=ry; exact PySem.EqNone.ne_none_int (Z0L I q (by simp))
  | str j=>obtain⟨t',rfl⟩:=ry; exact PySem.EqNone.ne_none_str (Z0L I q (by simp))
  | _=>exact absurd (show false=true from hs) Bool.false_ne_true
 | bl i=>
  cases rx
  cases y with
  | non=>cases ry; exact PySem.EqNone.ne_bool_none (Z0L I q (by simp))
  | bl j=>cases ry; exact ne_bool (Z0L I q (congrArg not ZaT))
  | str j=>obtain⟨t',rfl⟩:=ry; exact PySem.EqMixed.ne_bool_str (Z0L I q (by simp))
  | _=>exact absurd (show false=true from hs) Bool.false_ne_true
 | int i=>
  obtain⟨t,rfl⟩:=rx
  cases y with
  | non=>cases ry; exact PySem.EqNone.ne_int_none (Z0L I q (by simp))
  | int j=>obtain⟨t',rfl⟩:=ry; exact ne_int (Z0L I q (congrArg not Z8E))
  | str j=>obtain⟨t',rfl⟩:=ry; exact PySem.EqMixed.ne_int_str (Z0L I q (by simp))
  | _=>exact absurd (show false=true from hs) Bool.false_ne_true
 | str i=>
  obtain⟨t,rfl⟩:=rx
  cases y with
  | non=>cases ry; exact PySem.EqNone.ne_str_none (Z0L I q (by simp))
  | bl j=>cases ry; exact PySem.EqMixed.ne_str_bool (Z0L I q (by simp))
  | int j=>obtain⟨t',rfl⟩:=ry; exact PySem.EqMixed.ne_str_int (Z0L I q (by simp))
  | str j=>obtain⟨t',rfl⟩:=ry; exact ne_str (Z0L I q (congrArg not Z8Y))
  | _=>exact absurd (show false=true from hs) Bool.false_ne_true
 | byt i=>
  obtain⟨t,rfl⟩:=rx
  cases y with
  | byt j=>obtain⟨t',rfl⟩:=ry; exact PySem.W.ne_bytes (Z0L I q (congrArg not Z95))
  | _=>exact absurd (show false=true from hs) Bool.false_ne_true
 | _=>cases y <;> exact absurd (show false=true from hs) Bool.false_ne_true
theorem Z3a:OpR X (compareOp .Lt) (rI0 fun i j=>.bl (decide (i < j))):=Zf9 fun _ _ _ _ _ _ _ q=>lt_int q
theorem ZbN:OpR X (compareOp .LtE) (rI0 fun i j=>.bl (decide (i<=j))):=Zf9 fun _ _ _ _ _ _ _ q=>le_int q
theorem Z53:OpR X (compareOp .Gt) (rI0 fun i j=>.bl (decide (j < i))):=Zf9 fun _ _ _ _ _ _ _ q=>gt_int q
theorem Zg3:OpR X (compareOp .GtE) (rI0 fun i j=>.bl (decide (j<=i))):=Zf9 fun _ _ _ _ _ _ _ q=>ge_int q
theorem Z9c:OpR X (compareOp .Is) (fun x y H Q=>y=.non/\Q (.bl (decide (x=.non))) H):=by
 intro pins s σ H x y v u Q I rx ry h
 obtain⟨rfl,q⟩:=h
 cases ry
 refine is_none_gen (Z0L I q ?_)
 cases x <;> first
  | (cases rx; rfl)
  | (obtain⟨t,rfl⟩:=rx; rfl)
theorem Zci:OpR X (compareOp .IsNot) (fun x y H Q=>y=.non/\Q (.bl (!decide (x=.non))) H):=by
 intro pins s σ H x y v u Q I rx ry h
 obtain⟨rfl,q⟩:=h
 cases ry
 refine isnot_none_gen (Z0L I q ?_)
 cases x <;> first
  | (cases rx; rfl)
  | (obtain⟨t,rfl⟩:=rx; rfl)
theorem Z0m (b:Expr){op:CmpOp}(h:op≠.In:=by decide)(h2:op≠.NotIn:=by decide):behindInMarks op b=false:=by
 have e1:(op == CmpOp.In)=false:=by cases op <;> first | rfl | exact absurd rfl h
 have e2:(op == CmpOp.NotIn)=false:=by cases op <;> first | rfl | exact absurd rfl h2
 cases b <;> simp[behindInMarks,e1,e2]
theorem Z1B {op:CmpOp}{r:R2}(ho:OpR X (compareOp op) r)(ha:PE X a ta)(hb:PE X b tb)(hm:behindInMarks op b=false):PE X (.Compare a [op] [b] pos) (tOp r ta tb):=by
 intro pins s σ H Q I h
 exact wpAny_Compare1 (Zgl ha hb I h fun v u s2 x y H2 I2 rx ry q=>ho pins s2 σ H2 x y v u Q I2 rx ry q) hm
def Z6B (t:TE):TT:=fun σ H Q=>t σ H fun x H'=>∃ k,x=.bl k/\Q k H'
theorem Z0h {op:CmpOp}{r:R2}(ho:OpR X (compareOp op) r)(ha:PE X a ta)(hb:PE X b tb)(hm:behindInMarks op b=false):PT X (.Compare a [op] [b] pos) (Z6B (tOp r ta tb)):=by
 intro pins s σ H Q I h
 refine wpAny_isTrue_Compare1 (thn (ha pins s σ H _ I h) fun v s1 ⟨x,H1,I1,r1,q1⟩=>thn (hb pins s1 σ H1 _ I1 q1) fun u s2 ⟨y,H2,I2,r2,q2⟩=>
  thn (ho pins s2 σ H2 x y v u _ I2 r1 r2 q2) fun c s3 ⟨z,H3,I3,r3,k,e,q3⟩=>?_) hm
 subst e
 cases r3
 exact wpAny_truthy_bool ⟨H3,I3,q3⟩
def Ze8 (r r':R2)(ta tb tc:TE):TE:=fun σ H Q=>ta σ H fun x H1=>tb σ H1 fun y H2=>r x y H2 fun z H3=>∃ k,z=.bl k/\
 (if k=true then tc σ H3 fun w' H4=>r' y w' H4 Q else Q (.bl false) H3)
theorem Z9Y {op op':CmpOp}{r r':R2}(ho:OpR X (compareOp op) r)(ho':OpR X (compareOp op') r')(ha:PE X a ta)(hb:PE X b tb)(hc:PE X c tc)
  (hm:lastMarks [op,op'] [b,c]=false:=by with_unfolding_all rfl):PE X (.Compare a [op,op'] [b,c] pos) (Ze8 r r' ta tb tc):=by
 intro pins s σ H Q I h
 refine Compare_chain (thn (ha pins s σ H _ I h) fun v s1 ⟨x,H1,I1,r1,q1⟩=>chain_link (thn (hb pins s1 σ H1 _ I1 q1) fun u s2 ⟨y,H2,I2,r2,q2⟩=>
  thn (ho pins s2 σ H2 x y v u _ I2 r1 r2 q2) fun d s3 ⟨z,H3,I3,r3,k,e,q3⟩=>?_)) hm
 subst e
 cases r3
 refine wpAny_truthy_bool ?_
 cases k with
 | false=>exact ite_ff ⟨.bl false,H3,I3,rfl,q3⟩
 | true=>exact ite_tt (chain_last (thn (hc pins s3 σ H3 _ I3 q3) fun w' s4 ⟨z',H4,I4,r4,q4⟩=>ho' pins s4 σ H4 y z' u w' Q I4 r2 r4 q4))
theorem Z5z:(sizeLine:Nat) < 2 ^ 63:=by rw[sizeLine_eq]; decide
theorem Z3J {x:V}{us:List Value}(r:Z13 [x] us):∃ u,us=[u]/\Z17 x u:=by
 cases r with
 | cons r1 r2=>cases r2; exact⟨_,rfl,r1⟩
theorem Zco {x y:V}{us:List Value}(r:Z13 [x,y] us):∃ u w',us=[u,w']/\Z17 x u/\Z17 y w':=by
 cases r with
 | cons r1 r2=>
  cases r2 with
  | cons r3 r4=>cases r4; exact⟨_,_,rfl,r1,r3⟩
theorem Z0O:Z2F X (.builtin "abs") (fun xs H Q=>∃ i,xs=[.int i]/\Q (.int (if i < 0 then -i else i)) H):=by
 intro pins s σ H xs us Q I r h
 obtain⟨i,rfl,q⟩:=h
 obtain⟨u,rfl,t,rfl⟩:=Z3J r
 exact call_abs_int fun u tk=>⟨.int (if i < 0 then -i else i),H,I.tok _,⟨_,rfl⟩,q⟩
theorem Z20 (hc:X.calm=true):Z2F X (.builtin "max") (fun xs H Q=>∃ i j,xs=[.int i,.int j]/\Q (.int (if j > i then j else i)) H):=by
 intro pins s σ H xs us Q I r h
 obtain⟨i,j,rfl,q⟩:=h
 obtain⟨u,w',rfl,⟨t,rfl⟩,⟨t',rfl⟩⟩:=Zco r
 refine max_two_ints (I.ok.hd hc) fun h' tk k=>⟨_,H,I.kept k,?_,q⟩
 by_cases hj:j > i
 ·rw[if_pos hj,if_pos hj]; exact⟨_,rfl⟩
 ·rw[if_neg hj,if_neg hj]; exact⟨_,rfl⟩
theorem Z3X:Z2F X (.type "int") (fun xs H Q=>(∃ i,xs=[.int i]/\Q (.int i) H)\/∃ k,xs=[.bl k]/\Q (.int (if k then 1 else 0)) H):=by
 intro pins s σ H xs us Q I r h
 rcases h with ⟨i,rfl,q⟩ | ⟨k,rfl,q⟩
 ·obtain⟨u,rfl,t,rfl⟩:=Z3J r
  exact call_int_int ⟨.int i,H,I,⟨_,rfl⟩,q⟩
 ·obtain⟨u,rfl,r1⟩:=Z3J r
  cases r1
  exact call_int_bool ⟨.int (if k then 1 else 0),H,I.tok _,⟨_,rfl⟩,q⟩
end
structure Zc0 (h:Heap)(x dx C:Addr)(mA:Str->Option Value):Prop where
 obj:h.get? x=some (Y21 C dx)
 ns:h.Ns1 dx mA
 ne:dx≠x
theorem Z9g {h:Heap}{dx:Addr}{mA:Str->Option Value}(n:h.Ns1 dx mA):∃ od,h.get? dx=some od/\∀ name,PySem.W.lookIn name od=some (mA name):=by
 obtain⟨o,es,ep,ho,hd,hk,_,hm⟩:=n
 refine⟨o,ho,fun name=>?_⟩
 have e:=hm name
 unfold nsFind findBy at e
 rw[<-Array.find?_toList]at e
 unfold PySem.W.lookIn
 rw[hd]
 dsimp only
 split
 ·rename_i y q
  rw[q]at e
  exact congrArg some e
 ·rename_i q
  rw[q]at e
  have a:es.toList.any (·.refKey)=false:=by
   rw[List.any_eq_false]
   intro y hy
   obtain⟨z,t,hkey⟩:=hk y (Array.mem_toList_iff.mp hy)
   simp[DictEntry.refKey,hkey]
  have a':¬ es.toList.any (·.refKey)=true:=by rw[a]; exact Bool.false_ne_true
  rw[if_neg a']
  exact congrArg some e
theorem Zc0.look {h:Heap}{x dx C:Addr}{mA:Str->Option Value}(I:Zc0 h x dx C mA):∃ od,PySem.W.InstAt h x (Y21 C dx) C (some od)/\∀ name,PySem.W.lookIn name od=some (mA name):=
 let ⟨od,ho,hl⟩:=Z9g I.ns
 ⟨od,⟨I.obj,rfl,rfl,ho⟩,hl⟩
section
variable {prog:Program}{w:World}{A:Around}{E:Value->Shared->Prop}{s:Shared}{K:Y00}{x dx C f:Addr}{mA:Str->Option Value}{name:Str}{v:Value}
theorem ZbZ {expr:Bool}{Q:Value->Shared->Prop}(X:K.In s.heap)(I:Zc0 s.heap x dx C mA)(hg:PySem.W.plainGet K C name=true)(hh:PySem.W.hasDictIn K C=true)
  (ha:Y0u K (.ref C) name=some none) (hv:mA name=some v) (hv':PySem.W.handedIn v=true) (h:Q v { s with toks:=s.toks+1 }) :
  wpAny (model prog w) A (getAttr (.ref x) name expr) Q E s:=by
 obtain⟨od,J,hl⟩:=I.look
 exact PySem.W.get_value X J (PySem.W.plainGet_of hg).1 (PySem.W.findObj_own hh ha rfl (by rw[hl,hv])) hv' h
theorem Zaa {pl:Sem Bool}{Q:Value×List Value->Shared->Prop}(X:K.In s.heap)(I:Zc0 s.heap x dx C mA)(hg:PySem.W.plainGet K C name=true)
  (hf:Y0u K (.ref C) name=some (some (.ref f))) (ht:PySem.W.isFn K (.ref f)=true) (hv:mA name=none) (h:Q (.ref f,[.ref x]) s) :
  wpAny (model prog w) A (getMethod (.ref x) name pl) Q E s:=by
 obtain⟨od,J,hl⟩:=I.look
 exact PySem.W.method_fn X J (PySem.W.plainGet_of hg).1 (PySem.W.plainGet_of hg).2 hf (beq_iff_eq.mp ht) (by show (PySem.W.lookIn name od).map (·.isSome)=some false; rw[hl,hv]; rfl) h
theorem ZbD {ns:List Str}{Q:Unit->Shared->Prop}(X:K.In s.heap)(I:Zc0 s.heap x dx C mA)
  (hs:Y0u K (.ref C) "__setattr__"=some (some (.builtin "object.__setattr__"))) (hp:PySem.W.plainOver K C=true) (ht:PySem.W.takerIn K C name=some none) (hh:PySem.W.hasDictIn K C=true)
  (hw:PySem.Within mA ns) (hsz:ns.length<=sizeLine)
  (h:∀ h',Zc0 h' x dx C (fun y=>if y=name then some v else mA y)->Heap.SameBut dx s.heap h'->Q () { s with heap:=h',toks:=s.toks+2 }) :
  wpAny (model prog w) A (setAttr (.ref x) name v) Q E s:=by
 obtain⟨od,J,hl⟩:=I.look
 refine PySem.W.set_plain X J hs (PySem.W.osa_open (s:={ s with toks:=s.toks+1 }) (r:=none) X J hp ht fun b=>?_)
 obtain⟨cd,hc,hd'⟩:=PySem.W.any_some hh
 have hx:s.heap.get? x=some ⟨.ref C,some dx,.plain,#[]⟩:=I.obj
 refine wpAny_bind (wpAny_pure (wpAny_bind (wpAny_bind (wpAny_loadPart hx (wpAny_bind (PySem.W.Looks.here (s:={ s with toks:=s.toks+1 }) (PySem.W.looks_clsIn X hc) ?_))))))
 rw[hd']
 refine wpAny_pure (a:=some dx) (wpAny_bind (wpAny_pure (wpAny_bind ?_)))
 refine wpAny_nsSet1 (s:={ s with toks:=s.toks+1 }) I.ns fun h' hn2 hs2=>?_
 obtain⟨oD,esD,epD,hoD,hdD,hcD⟩:=hn2.count (PySem.Within.cons name v hw)
 refine wpAny_bind (wpAny_lookBehind hoD (by rw[hdD]; exact pastItsLine_dict (Y0o hcD (by rw[Y18]; lia))) ?_)
 exact wpAny_pure (h _ ⟨(hs2.2 _ (Ne.symm I.ne)).trans I.obj,hn2,I.ne⟩ hs2)
theorem ZaD {R:Result->Shared->Prop}{vs:List Value}{kw:List (Str×Value)}(X:K.In s.heap)(hm:PySem.W.makesIn K C=true)
  (hi:Y0u K (.ref C) "__init__"=some (some (.ref f))) (hf:PySem.W.typeIn K (.ref f)=some (.type "function"))
  (h:codeAny (model prog w) (A.under (.builtin "type.__call__" ⟨.ref C :: vs,kw⟩)) (.call (.ref f) ⟨.ref (s.heap.objs.size+1) :: vs,kw⟩) (PySem.W.InitBack (s.heap.objs.size+1) R)
   { s with heap:=(s.heap.push Y1p).push (Y21 C s.heap.objs.size) }) :
  codeAny (model prog w) A (.call (.ref C) ⟨vs,kw⟩) R s:=by
 obtain⟨hh,g,d,t,os⟩:=s
 exact PySem.W.make_core (PySem.W.makes_of X hm) (PySem.W.looks_findIn X hi) (fun self=>PySem.W.bind_fn X self hf) (.inl rfl) h
end
def Z5o (f:Str)(v:V):List (Str×V)->List (Str×V)
 | []=>[(f,v)]
 | (g,x) :: r=>if g=f then (g,v) :: r else (g,x) :: Z5o f v r
theorem Z1f (f g:Str)(v:V):∀ fs:List (Str×V),(Z5o f v fs).lookup g=if g=f then some v else fs.lookup g
 | []=>by
  show List.lookup g [(f,v)]=_
  by_cases h:g=f
  ·have hb:(g == f)=true:=beq_iff_eq.mpr h
   simp only[List.lookup,hb,if_pos h]
  ·have hb:(g == f)=false:=beq_eq_false_iff_ne.mpr h
   simp only[List.lookup,hb,if_neg h]
 | (k,x) :: r=>by
  have ih:=Z1f f g v r
  rw[show Z5o f v ((k,x) :: r)=(if k=f then (k,v) :: r else (k,x) :: Z5o f v r) from rfl]
  by_cases hk:k=f
  ·rw[if_pos hk]
   by_cases h:g=k
   ·have hb:(g == k)=true:=beq_iff_eq.mpr h
    simp only[List.lookup,hb,if_pos (h.trans hk)]
   ·have hb:(g == k)=false:=beq_eq_false_iff_ne.mpr h
    simp only[List.lookup,hb,if_neg (fun e:g=f=>h (e.trans hk.symm))]
  ·rw[if_neg hk]
   by_cases h:g=k
   ·have hb:(g == k)=true:=beq_iff_eq.mpr h
    simp only[List.lookup,hb,if_neg (fun e:g=f=>hk (h.symm.trans e))]
   ·have hb:(g == k)=false:=beq_eq_false_iff_ne.mpr h
    simp only[List.lookup,hb]
    exact ih
theorem Z43 (f:Str)(v:V):∀ fs:List (Str×V),f∈(Z5o f v fs).map (·.1)/\∀ g,g∈fs.map (·.1)->g∈(Z5o f v fs).map (·.1)
 | []=>⟨by simp[Z5o],fun g h=>by simp at h⟩
 | (k,x) :: r=>by
  obtain⟨i1,i2⟩:=Z43 f v r
  rw[show Z5o f v ((k,x) :: r)=(if k=f then (k,v) :: r else (k,x) :: Z5o f v r) from rfl]
  by_cases hk:k=f
  ·rw[if_pos hk]
   subst hk
   exact⟨by simp,fun g h=>by simpa using h⟩
  ·rw[if_neg hk]
   refine⟨?_,fun g h=>?_⟩
   ·rw[Y13]
    exact Y0m _ i1
   ·rw[Y13]at h ⊢
    rcases Y0v.mp h with e | e
    ·exact Y0v.mpr (.inl e)
    ·exact Y0m _ (i2 g e)
theorem Z45 (f:Str)(v:V):∀ fs:List (Str×V),(Z5o f v fs).length<=fs.length+1
 | []=>by simp[Z5o]
 | (k,x) :: r=>by
  have ih:=Z45 f v r
  rw[show Z5o f v ((k,x) :: r)=(if k=f then (k,v) :: r else (k,x) :: Z5o f v r) from rfl]
  by_cases hk:k=f
  ·rw[if_pos hk,Y18,Y18]; lia
  ·rw[if_neg hk,Y18,Y18]; lia
theorem Z6i.some_of {v:V}{o:Option Value}(r:Z6i (some v) o):∃ u,o=some u/\Z17 v u:=by
 cases o with
 | none=>exact (show False from r).elim
 | some u=>exact⟨u,rfl,r⟩
theorem Z6i.none_of {o:Option Value}(r:Z6i none o):o=none:=by
 cases o with
 | none=>rfl
 | some u=>exact (show False from r).elim
theorem Z82 {v:V}{u:Value}(r:Z17 v u):PySem.W.handedIn u=true:=by
 cases v with
 | non=>cases (show u=Value.none from r); rfl
 | bl b=>cases (show u=Value.bool b from r); rfl
 | int i=>obtain⟨t,e⟩:=(show ∃ t,u=Value.int i t from r); cases e; rfl
 | str x=>obtain⟨t,e⟩:=(show ∃ t,u=Value.str x t from r); cases e; rfl
 | byt b=>obtain⟨t,e⟩:=(show ∃ t,u=Value.bytes b t from r); cases e; rfl
 | flt b=>obtain⟨t,e⟩:=(show ∃ t,u=Value.float b t from r); cases e; rfl
 | ref a=>cases (show u=Value.ref a from r); rfl
 | ty n=>cases (show u=Value.type n from r); rfl
section
variable {P:Program}{w:World}{H H':Hp}{h h':Heap}{a C dx:Addr}{fs fs':List (Str×V)}
theorem Z5f (hok:HOk P w H h)(e:H a=some (.ins C dx fs)):∃ mA,Zc0 h a dx C mA/\(∀ f,Z6i (fs.lookup f) (mA f))/\PySem.Within mA (fs.map (·.1))/\fs.length<=1000/\H dx=some (.own a):=by
 obtain⟨d,z,ne,ob,mA,n,r,q⟩:=(show Z1j P w H h a (.ins C dx fs) from hok a _ e)
 exact⟨mA,⟨ob,n,ne⟩,r,q,z,d⟩
end
structure Cls (K:Y00)(C:Addr):Prop where
 pg:PySem.W.plainGet K C Str.empty=true
 hd:PySem.W.hasDictIn K C=true
 po:PySem.W.plainOver K C=true
 sa:Y0u K (.ref C) "__setattr__"=some (some (.builtin "object.__setattr__"))
theorem Cls.get {K:Y00}{C:Addr}(c:Cls K C)(f:Str):PySem.W.plainGet K C f=true:=c.pg
def Z3G (K:Y00)(C:Addr)(f:Str):Prop:=Y0u K (.ref C) f=some none
theorem Z3G.taker {K:Y00}{C:Addr}{f:Str}(n:Z3G K C f):PySem.W.takerIn K C f=some none:=by
 unfold PySem.W.takerIn
 rw[show Y0u K (.ref C) f=some none from n]
 rfl
structure Zd3 (K:Y00)(C:Addr)(m:Str)(f:Addr):Prop where
 at_:Y0u K (.ref C) m=some (some (.ref f))
 fn:PySem.W.isFn K (.ref f)=true
 kp:Y1s K (.ref f)=true
section
variable {X:Cx}{pins:List (Addr×Obj)}{σ:St}{H:Hp}{s:Shared}{a C dx:Addr}{fs:List (Str×V)}{f:Str}{v:V}{A:Around}{E:Value->Shared->Prop}
theorem Z7E {b:Bool}{Q:Value->Shared->Prop}(I:Inv X pins σ H s)(e:H a=some (.ins C dx fs))(c:Cls X.K C)(n:Z3G X.K C f)(l:fs.lookup f=some v)
  (h:∀ u s',Inv X pins σ H s'->Z17 v u->Q u s'):wpAny (model X.prog X.w) A (getAttr (.ref a) f b) Q E s:=by
 obtain⟨mA,O,r,_,_,_⟩:=Z5f I.hok e
 obtain⟨u,hu,ru⟩:=Z6i.some_of (v:=v) (o:=mA f) (by rw[<-l]; exact r f)
 exact ZbZ I.kIn O (c.get f) c.hd n hu (Z82 ru) (h u _ (I.tok _) ru)
theorem Z4M {m:Str}{g:Addr}{pl:Sem Bool}{Q:Value×List Value->Shared->Prop}(I:Inv X pins σ H s)(e:H a=some (.ins C dx fs))(c:Cls X.K C)(k:Zd3 X.K C m g)(l:fs.lookup m=none)
  (h:Q (.ref g,[.ref a]) s):wpAny (model X.prog X.w) A (getMethod (.ref a) m pl) Q E s:=by
 obtain⟨mA,O,r,_,_,_⟩:=Z5f I.hok e
 have hn:mA m=none:=Z6i.none_of (by rw[<-l]; exact r m)
 exact Zaa I.kIn O (c.get m) k.at_ k.fn hn h
theorem Z7G {y:V}{u:Value}{Q:Unit->Shared->Prop}(I:Inv X pins σ H s)(e:H a=some (.ins C dx fs))(c:Cls X.K C)(n:Z3G X.K C f)(hl:fs.length < 1000)(ry:Z17 y u)
  (h:∀ s',Inv X pins σ (upd H a (.ins C dx (Z5o f y fs))) s'->Q () s'):wpAny (model X.prog X.w) A (setAttr (.ref a) f u) Q E s:=by
 obtain⟨mA,O,r,wi,_,ho⟩:=Z5f I.hok e
 have hz:(fs.map (·.1)).length<=sizeLine:=by rw[Y08,sizeLine_eq]; lia
 refine ZbD I.kIn O c.sa c.po n.taker c.hd wi hz fun h' O' sb=>h _ ?_
 have hd:∃ o,h'.get? dx=some o:=let ⟨o,_,_,e',_⟩:=O'.ns; ⟨o,e'⟩
 refine I.write (x:=a) (e:=dx) (by rw[e]; exact True.intro) (.inr ho) (fun b q hb z=>(sb.2 b hb).trans z) hd ?_
 refine⟨by rw[Z0i O.ne]; exact ho,?_,O.ne,O'.obj,_,O'.ns,fun g=>?_,fun g hg=>?_⟩
 ·have:=Z45 f y fs; lia
 ·show Z6i ((Z5o f y fs).lookup g) (if g=f then some u else mA g)
  rw[Z1f]
  by_cases q:g=f
  ·rw[if_pos q,if_pos q]; exact ry
  ·rw[if_neg q,if_neg q]; exact r g
 ·by_cases q:g=f
  ·rw[q]; exact (Z43 f y fs).1
  ·refine (Z43 f y fs).2 g (wi g fun z=>hg ?_)
   show (if g=f then some u else mA g)=none
   rw[if_neg q]; exact z
theorem Inv.made (I:Inv X pins σ H s):Inv X pins σ (upd (upd H s.heap.objs.size (.own (s.heap.objs.size+1))) (s.heap.objs.size+1) (.ins C s.heap.objs.size []))
  { s with heap:=(s.heap.push Y1p).push (Y21 C s.heap.objs.size) }:=by
 have e1:(s.heap.push Y1p).get? s.heap.objs.size=some Y1p:=Y0a s.heap rfl
 have e2:((s.heap.push Y1p).push (Y21 C s.heap.objs.size)).get? (s.heap.objs.size+1)=some (Y21 C s.heap.objs.size):=by
  have:=Y0a (s.heap.push Y1p) (o:=Y21 C s.heap.objs.size) rfl
  rwa [Y1u]at this
 have e3:(s.heap.push Y1p).Ns s.heap.objs.size (fun _=>none):=⟨Y1p,#[],_,e1,rfl,(fun e he=>absurd he (by simp)),fun _=>rfl⟩
 have I1:=I.laid (a:=s.heap.objs.size) (o:=.own (s.heap.objs.size+1)) (h':=s.heap.push Y1p) (t':=s.toks) (fun b u q=>Y02 _ q) (Y03 _) ⟨_,e1⟩
 refine I1.laid (a:=s.heap.objs.size+1) (o:=.ins C s.heap.objs.size []) (t':=s.toks) (fun b u q=>Y02 _ q) (Nat.le_of_eq (Y1u _ _)) ?_
 have ne:s.heap.objs.size≠s.heap.objs.size+1:=Y0k (Nat.lt_succ_self _)
 refine⟨by rw[Z0i ne,Z06],Y0s _,ne,e2,fun _=>none,(Heap.Ns1.of_empty e3).at fun o q=>Y02 _ q,fun _=>True.intro,fun y hy=>absurd rfl hy⟩
theorem Zbx {prog:Program}{w:World}{env:Env}{e:Expr}{f:Str}{pos:Pos}{s:Shared}{Q:Value->Shared->Prop}(hb:attributeBase e f env (eval e env)=eval e env)
  (h:wpAny (model prog w) A (eval e env) (fun o s₁=>wpAny (model prog w) A (getAttr o f true) Q E s₁) E s):wpAny (model prog w) A (eval (.Attribute e f pos) env) Q E s:=
 Attribute_any_ h (by rw[arm_eval_Attribute,hb])
end
def tFld (K:Y00)(ta:TE)(f:Str):TE:=fun σ H Q=>ta σ H fun x H1=>∃ a C dx fs v,x=.ref a/\H1 a=some (.ins C dx fs)/\Cls K C/\Z3G K C f/\fs.lookup f=some v/\Q v H1
def ZfI (K:Y00)(ta tv:TE)(f:Str):TS:=fun D σ H=>tv σ H fun y H1=>ta σ H1 fun x H2=>∃ a C dx fs,x=.ref a/\H2 a=some (.ins C dx fs)/\Cls K C/\Z3G K C f/\fs.length < 1000/\
 D.nx σ (upd H2 a (.ins C dx (Z5o f y fs)))
section
variable {X:Cx}{o e value:Expr}{f:Str}{pos pos' tpos:Pos}{ta tv:TE}
theorem Z1A (he:PE X e ta)(hb:attributeBase e f X.env (eval e X.env)=eval e X.env):PE X (.Attribute e f pos) (tFld X.K ta f):=by
 intro pins s σ H Q I h
 refine Zbx hb (thn (he pins s σ H _ I h) fun u s1 ⟨x,H1,I1,rx,a,C,dx,fs,v,ex,ea,c,n,l,q⟩=>?_)
 subst ex
 obtain rfl:u=Value.ref a:=rx
 exact Z7E I1 ea c n l fun u' s2 I2 ru=>⟨v,H1,I2,ru,q⟩
theorem Zb6 (ha:PE X o ta)(hv:PE X value tv)(hs:swapsWith value (some (.Attribute o f pos')) pos.line X.env=pure false):PS X (.Assign [.Attribute o f pos'] value pos) (ZfI X.K ta tv f):=by
 intro pins s σ H D I h
 refine plainObj_wpAny_Assign_Attribute (thn (hv pins s σ H _ I h) fun u s1 ⟨y,H1,I1,ry,q⟩=>thn (ha pins s1 σ H1 _ I1 q) fun ov s2 ⟨x,H2,I2,rx,a,C,dx,fs,ex,ea,c,n,l,q2⟩=>?_) hs
 subst ex
 obtain rfl:ov=Value.ref a:=rx
 exact Z7G I2 ea c n l ry fun s3 I3=>⟨σ,_,I3,q2⟩
end
section
variable {X:Cx}{pins:List (Addr×Obj)}{σ:St}{H:Hp}{s:Shared}{A:Around}{E:Value->Shared->Prop}{Q:Value->Shared->Prop}{c:Value}{b:Bool}
inductive Z7a (K:Y00) (H:Hp):V->Value->Prop where
 | non:Z7a K H .non (.type "NoneType")
 | bl (x:Bool):Z7a K H (.bl x) (.type "bool")
 | int (i:Int):Z7a K H (.int i) (.type "int")
 | str (x:Str):Z7a K H (.str x) (.type "str")
 | flt (x:UInt64):Z7a K H (.flt x) (.type "float")
 | lst {a:Addr} {xs:List V} (e:H a=some (.lst xs)):Z7a K H (.ref a) (.type "list")
 | frz {a:Addr} {o:Obj} {xs:List V} (e:H a=some (.frz o (.lst xs))):Z7a K H (.ref a) (.type "list")
 | tup {a:Addr} {xs:List V} (e:H a=some (.tup xs)):Z7a K H (.ref a) (.type "tuple")
 | dK {a:Addr} {kvs:List (Key×V)} (e:H a=some (.dK kvs)):Z7a K H (.ref a) (.type "dict")
 | dT {a:Addr} {kvs:List (List Key×V)} (e:H a=some (.dT kvs)):Z7a K H (.ref a) (.type "dict")
 | ins {a C dx:Addr} {fs:List (Str×V)} (e:H a=some (.ins C dx fs)) (cl:Cls K C) (ha:Y0u K (.ref C) "__class__"=some (some (.builtin "object.__class__")))
   (hn:PySem.W.specialIn K (.builtin "object.__class__") "__get__"=some (some (.builtin "getset_descriptor.__get__"))) (htk:PySem.W.takesIn K (.builtin "object.__class__")=some true)
   (hm:PySem.W.mroIn K C (.type "object")=some true):Z7a K H (.ref a) (.ref C)
theorem Z5E {x:V}{u t:Value}(I:Inv X pins σ H s)(rx:Z17 x u)(ty:Z7a X.K H x t)(e:Y20 X.K t c=some b)(h:∀ tk,Q (.bool b) { s with toks:=tk }) :
  wpAny (model X.prog X.w) A (call (.builtin "isinstance") [u,c]) Q E s:=by
 cases ty with
 | non=>cases (show u=Value.none from rx); exact Y1m PySem.W.kitx_none I.kIn True.intro e (fun z=>nomatch z) h
 | bl y=>cases (show u=Value.bool y from rx); exact Y1m PySem.W.kitx_bool I.kIn True.intro e (fun z=>nomatch z) h
 | int i=>obtain⟨t,q⟩:=(show ∃ t,u=Value.int i t from rx); cases q; exact Y1m PySem.W.kitx_int I.kIn True.intro e (fun z=>nomatch z) h
 | str y=>obtain⟨t,q⟩:=(show ∃ t,u=Value.str y t from rx); cases q; exact Y1m PySem.W.kitx_str I.kIn True.intro e (fun z=>nomatch z) h
 | flt y=>obtain⟨t,q⟩:=(show ∃ t,u=Value.float y t from rx); cases q; exact Y1m PySem.W.kitx_float I.kIn True.intro e (fun z=>nomatch z) h
 | @lst a xs ea=>
  cases (show u=Value.ref a from rx)
  obtain⟨_,_,n,_,h1⟩:=(show Z1j X.prog X.w H s.heap a (.lst xs) from I.hok a _ ea)
  exact Y1m PySem.W.kitx_list I.kIn ⟨_,h1,rfl⟩ e (fun z=>nomatch z) h
 | @frz a ob xs ea=>
  cases (show u=Value.ref a from rx)
  obtain⟨_,_,_,n,_,h1⟩:=(show Z1j X.prog X.w H s.heap a (.frz ob (.lst xs)) from I.hok a _ ea)
  exact Y1m PySem.W.kitx_list I.kIn ⟨_,h1,rfl⟩ e (fun z=>nomatch z) h
 | @tup a xs ea=>
  cases (show u=Value.ref a from rx)
  obtain⟨_,_,_,p⟩:=(show Z1j X.prog X.w H s.heap a (.tup xs) from I.hok a _ ea)
  obtain⟨o,h1,h2,_⟩:=p
  exact Y1m PySem.W.kitx_tuple I.kIn ⟨o,h1,h2⟩ e (fun z=>nomatch z) h
 | @dK a kvs ea=>
  cases (show u=Value.ref a from rx)
  obtain⟨_,_,vs,_,p⟩:=(show Z1j X.prog X.w H s.heap a (.dK kvs) from I.hok a _ ea)
  obtain⟨o,es,ep,h1,h2,_⟩:=p
  exact Y1m PySem.W.kitx_dict I.kIn ⟨o,h1,h2.1⟩ e (fun z=>nomatch z) h
 | @dT a kvs ea=>
  cases (show u=Value.ref a from rx)
  obtain⟨_,_,xs,_,o,es,ep,h1,h2,_⟩:=(show Z1j X.prog X.w H s.heap a (.dT kvs) from I.hok a _ ea)
  exact Y1m PySem.W.kitx_dict I.kIn ⟨o,h1,h2.1⟩ e (fun z=>nomatch z) h
 | @ins a C dx fs ea cl ha hn htk hm=>
  cases (show u=Value.ref a from rx)
  obtain⟨mA,O,_⟩:=Z5f I.hok ea
  obtain⟨od,J,_⟩:=O.look
  exact Y1m (PySem.W.kitx_own (cl.get _) cl.hd ha hn htk hm) I.kIn J e (fun z=>nomatch z) h
end
structure Z1g (k:Nat)(A:Around):Prop where
 hd:A.handled=none
 dp:A.depth+3 * k+5 < recursionLimit
 un:A.units+16 * k+200 < cLine
theorem Z1g.mono {j k:Nat}{A:Around}(r:Z1g k A)(h:j<=k):Z1g j A:=⟨r.hd,by have:=r.dp; lia,by have:=r.un; lia⟩
theorem Z1g.deeper {k:Nat}{A:Around}(r:Z1g (k+1) A)(env:Env):Z1g k (A.deeper env):=
 ⟨r.hd,by have:=r.dp; show A.depth+1+3 * k+5 < _; lia,by have:=r.un; show A.units+3+16 * k+200 < _; lia⟩
theorem Z7P {A:Around}{C:Addr}{us:List Value}{kw:List (Str×Value)}:(A.under (.builtin "type.__call__" ⟨.ref C :: us,kw⟩)).depth=A.depth+1:=by
 first | rfl | simp[Around.under,Code.weight,Code.isCreation,Code.isGuard,Code.isCaller,Code.frames,Code.isFrame,guardIds]
theorem Z7Z {A:Around}{C:Addr}{us:List Value}{kw:List (Str×Value)}:(A.under (.builtin "type.__call__" ⟨.ref C :: us,kw⟩)).units=A.units+1:=by
 first | rfl | simp[Around.under,Code.cUnits,Code.frames,Code.isFrame]
theorem Z1g.make {k:Nat}{A:Around}(r:Z1g (k+1) A)(C:Addr)(us:List Value)(kw:List (Str×Value)):Z1g k (A.under (.builtin "type.__call__" ⟨.ref C :: us,kw⟩)):=
 ⟨r.hd,by have:=r.dp; rw[Z7P]; lia,by have:=r.un; rw[Z7Z]; lia⟩
theorem Z1g.depth {k:Nat}{A:Around}(r:Z1g k A):A.depth < recursionLimit:=by have:=r.dp; lia
theorem Z1g.units {k:Nat}{A:Around}(r:Z1g k A):A.units+64 < cLine:=by have:=r.un; lia
def Z4E:TA:=fun _ H Q=>Q [] H
def Z0U (ta:TE)(tr:TA):TA:=fun σ H Q=>ta σ H fun x H1=>tr σ H1 fun xs H2=>Q (x :: xs) H2
section
variable {X:Cx}{e:Expr}{es:List Expr}{te:TE}{t:TA}{pos:Pos}
theorem Z05:PA X [] Z4E:=fun _ _ _ _ H Q I h=>Calls.spliced_nil ⟨[],H,I,.nil,h⟩
theorem Z00 (ha:PE X e te)(hr:PA X es t)(hs:starEach (e :: es) X.env=(false,eval e X.env) :: starEach es X.env:=by rfl):PA X (e :: es) (Z0U te t):=by
 intro pos pins s σ H Q I h
 rw[hs]
 show wpAny _ _ (spliced ((false,eval e X.env) :: backTo pos (starEach es X.env))) _ _ s
 refine Calls.spliced_cons (thn (ha pins s σ H _ I h) fun u s1 ⟨x,H1,I1,r1,q1⟩=>?_)
 exact thn (hr pos pins s1 σ H1 _ I1 q1) fun us s2 ⟨xs,H2,I2,r2,q2⟩=>⟨x :: xs,H2,I2,.cons r1 r2,q2⟩
def Z9B (t:TA):TE:=fun σ H Q=>t σ H fun xs H1=>xs.length<=sizeLine/\∀ p,H1 p=none->Q (.ref p) (upd H1 p (.tup xs))
def tLst (t:TA):TE:=fun σ H Q=>t σ H fun xs H1=>xs.length<=sizeLine/\∀ p,H1 p=none->Q (.ref p) (upd H1 p (.lst xs))
theorem Z0S {x1}(h:PA X es t):PE X (.Tuple es x1 pos) (Z9B t):=by
 intro pins s σ H Q I hq
 refine wpAny_Tuple_spliced (thn (h pos pins s σ H _ I hq) fun us s1 ⟨xs,H1,I1,r,z,q⟩=>⟨by rw[<-r.length]; exact z,?_⟩)
 have hf:H1 s1.heap.objs.size=none:=I1.hok.fresh (Y03 _)
 refine⟨.ref s1.heap.objs.size,upd H1 s1.heap.objs.size (.tup xs),I1.laid (t':=s1.toks) (fun b u e=>Y02 _ e) (Y03 _) ?_,rfl,q _ hf⟩
 exact⟨⟨z,_,Y0a _ rfl,rfl⟩,us,r,⟨_,Y0a _ rfl,rfl,_,rfl⟩⟩
theorem Z2u (h:PA X es t):PE X (.List es pos) (tLst t):=by
 intro pins s σ H Q I hq
 refine wpAny_List_spliced (thn (h pos pins s σ H _ I hq) fun us s1 ⟨xs,H1,I1,r,z,q⟩=>⟨by rw[<-r.length]; exact z,?_⟩)
 have hf:H1 s1.heap.objs.size=none:=I1.hok.fresh (Y03 _)
 refine⟨.ref s1.heap.objs.size,upd H1 s1.heap.objs.size (.lst xs),I1.laid (t':=s1.toks) (fun b u e=>Y02 _ e) (Y03 _) ?_,rfl,q _ hf⟩
 exact⟨z,us,0,r,Y0a _ rfl⟩
end
abbrev Sp:=List V->Hp->VK->XK->Prop
abbrev CXT:=List Env->Hp->Shared->XK->Value->Shared->Prop
structure ZcD (P:Program)(w:World)(K:Y00)(mg:Str->Option Value)(base:Heap)(A:Around)(outer:List Env)(s:Shared)(H:Hp):Prop where
 frames:A.frames=some outer
 mod:Mod K mg base
 bs:∀ b o,base.get? b=some o->s.heap.get? b=some o/\H b=none
 bsz:base.objs.size<=s.heap.objs.size
 funs:s.heap.FunFrames base outer
 frf:∀ b∈frs outer,H b=none
 hok:HOk P w H s.heap
 bare:AllBare s.gens
def CE (outer:List Env)(P:Program)(w:World)(H:Hp)(s:Shared)(Q:VK)(u:Value)(s':Shared):Prop:=
 ∃ v H',s'.os=s.os/\AllBare s'.gens/\Un (frs outer) [] H H' s.heap s'.heap/\HOk P w H' s'.heap/\Z17 v u/\Q v H'
def CR (CX:CXT)(outer:List Env)(P:Program)(w:World)(H:Hp)(s:Shared)(Q:VK)(E:XK)(r:Result)(s':Shared):Prop:=
 match r with
 | .ok (.ret u)=>CE outer P w H s Q u s'
 | .ok _=>False
 | .error e=>CX outer H s E e s'
structure Z0x (P:Program)(w:World)(K:Y00)(mg:Str->Option Value)(base:Heap)(CX:CXT)(k:Nat)(f:Addr)(fd:FuncData)(ps:List Str)(sp:Sp):Prop where
 len:∀ vs H Q E,sp vs H Q E->vs.length=ps.length
 run:∀ (A:Around) (outer:List Env) (s:Shared) (H:Hp) (args:Args) (us:List Value) (vs:List V) (Q:VK) (E:XK),Z1g k A->ZcD P w K mg base A outer s H->BindsTo s fd args (ps.zip us)->Z13 vs us->sp vs H Q E->
  codeAny (model P w) A (.call (.ref f) args) (CR CX outer P w H s Q E) s
theorem Z0x.imp {P:Program}{w:World}{K:Y00}{mg:Str->Option Value}{base:Heap}{CX:CXT}{k:Nat}{f:Addr}{fd:FuncData}{ps:List Str}{sp sp':Sp}(F:Z0x P w K mg base CX k f fd ps sp)
  (h:∀ vs H Q E,sp' vs H Q E->sp vs H Q E):Z0x P w K mg base CX k f fd ps sp':=
 ⟨fun vs H Q E q=>F.len vs H Q E (h _ _ _ _ q),fun A outer s H args us vs Q E hr he hb hv hs=>F.run A outer s H args us vs Q E hr he hb hv (h _ _ _ _ hs)⟩
theorem ZcD.make {P:Program}{w:World}{K:Y00}{mg:Str->Option Value}{base:Heap}{A:Around}{outer:List Env}{s:Shared}{H:Hp}(e:ZcD P w K mg base A outer s H)(C:Addr)(us:List Value)(kw:List (Str×Value)) :
  ZcD P w K mg base (A.under (.builtin "type.__call__" ⟨.ref C :: us,kw⟩)) outer s H:=⟨by first | exact e.frames | (simpa [Around.under,Code.envs,Code.isFrame,pushEnvs] using e.frames),e.mod,e.bs,e.bsz,e.funs,e.frf,e.hok,e.bare⟩
section
variable {X:Cx}{pins:List (Addr×Obj)}{σ:St}{H:Hp}{s s':Shared}
theorem Inv.env0 (I:Inv X pins σ H s):ZcD X.prog X.w X.K X.mg X.base X.A X.stack s H:=
 ⟨I.ok.frames,I.ok.mod,I.bs,Y0o I.ok.bsz I.sz,I.stack,I.stkFree,I.hok,I.bare⟩
theorem Inv.after {Q:VK}{u:Value}(I:Inv X pins σ H s)(h:CE X.stack X.prog X.w H s Q u s'):EP X pins σ Q u s':=by
 obtain⟨v,H',os,bare,un,hok,r,q⟩:=h
 obtain⟨hh,g,d,t,os'⟩:=s'
 obtain rfl:os'=s.os:=os
 exact⟨v,H',I.call (h':=hh) (g':=g) (d':=d) (t':=t) (ch:=[]) un hok bare (fun b z=>absurd z (by simp)),r,q⟩
end
def Z9J (sp:Sp)(dvs:List V)(E:XK)(t:TA):TE:=fun σ H Q=>t σ H fun vs H1=>sp (vs++dvs) H1 Q E
def Zdo (C:Addr)(m:Str)(sp:Sp)(dvs:List V)(E:XK)(ta:TE)(t:TA):TE:=fun σ H Q=>ta σ H fun x H1=>∃ a dx fs,x=.ref a/\H1 a=some (.ins C dx fs)/\fs.lookup m=none/\
 t σ H1 fun vs H2=>sp (x :: (vs++dvs)) H2 Q E
def Zao (C:Addr)(sp:Sp)(dvs:List V)(E:XK)(t:TA):TE:=fun σ H Q=>t σ H fun vs H1=>∀ x dx,H1 x=none->H1 dx=none->dx≠x->
 sp (.ref x :: (vs++dvs)) (upd (upd H1 dx (.own x)) x (.ins C dx [])) (fun v H2=>v=.non/\Q (.ref x) H2) E
def Z2s (K:Y00)(fd:FuncData)(ps:List Str)(ds:List Value):Prop:=
 ∀ (s:Shared) (us:List Value),K.In s.heap->(us++ds).length=ps.length->BindsTo s fd ⟨us,[]⟩ (ps.zip (us++ds))
theorem Z2s.all {K:Y00}{fd:FuncData}{ps:List Str}(h:∀ us:List Value,us.length=ps.length->bindArgs fd ⟨us,[]⟩=pure (ps.zip us)):Z2s K fd ps []:=fun s us _ hl=>by
 rw[Y19]at hl ⊢
 exact .of_eq (h us hl)
def Z34 (CX:CXT)(X:Cx)(E:XK):Prop:=∀ (pins:List (Addr×Obj)) (σ:St) (H:Hp) (s:Shared) (e:Value) (s':Shared),Inv X pins σ H s->CX X.stack H s E e s'->X.xe e s'
section
variable {X:Cx}{CX:CXT}{k:Nat}{f C:Addr}{fd:FuncData}{ps:List Str}{sp:Sp}{dvs:List V}{ds:List Value}{E:XK}{x m:Str}{p pos apos:Pos}{e o:Expr}{es:List Expr}{ta:TE}{t:TA}
theorem Z94 {pins:List (Addr×Obj)}{σ:St}{H:Hp}{s:Shared}{Q:VK}{us:List Value}{vs:List V}(F:Z0x X.prog X.w X.K X.mg X.base CX k f fd ps sp)(hr:Z1g k X.A)(hb:Z2s X.K fd ps ds)(hd:Z13 dvs ds)(hx:Z34 CX X E)
  (I:Inv X pins σ H s) (r:Z13 vs us) (h:sp (vs++dvs) H Q E):wpAny (model X.prog X.w) X.A (call (.ref f) us) (EP X pins σ Q) X.xe s:=by
 have r2:Z13 (vs++dvs) (us++ds):=r.append hd
 have hl:(us++ds).length=ps.length:=by rw[<-r2.length]; exact F.len _ _ _ _ h
 refine wpAny_call (codeAny_mono (F.run X.A X.stack s H ⟨us,[]⟩ (us++ds) (vs++dvs) Q E hr I.env0 (hb s us I.kIn hl) r2 h) fun r s' hq=>?_)
 cases r with
 | error e=>exact hx pins σ H s e s' I hq
 | ok fl=>
  cases fl with
  | ret u=>exact I.after hq
  | next=>exact False.elim hq
  | brk=>exact False.elim hq
  | cont=>exact False.elim hq
theorem Z0b (F:Z0x X.prog X.w X.K X.mg X.base CX k f fd ps sp)(hr:Z1g k X.A)(hg:Gl X x)(hm:X.mg x=some (.ref f))(hk:Y1s X.K (.ref f)=true)(hb:Z2s X.K fd ps ds)(hd:Z13 dvs ds)(hx:Z34 CX X E)
  (ha:PA X (e :: es) t) (hdb:(x == ("__debug__":Str))=false:=by decide) (he:starEach (e :: es) X.env=(false,eval e X.env) :: starEach es X.env:=by rfl) (hpl:(backTo pos (starEach es X.env)).any (·.1)=false:=by rfl) :
  PE X (.Call (.Name x p) (e :: es) [] pos) (Z9J sp dvs E t):=by
 intro pins s σ H Q I h
 refine wpAny_Call_Name_kw (Z5d I hg hm ?_ hdb)
 refine PySem.W.callWith_K (h₀:=X.base) I.ok.mod.kin hk (thn (ha pos pins s σ H _ I h) fun us s1 ⟨vs,H1,I1,r,q⟩=>⟨I1.kIn,?_⟩) he hpl
 exact Z94 F hr hb hd hx I1 r q
theorem Zcs {pl:Sem Bool}(he:PE X o ta)(c:Cls X.K C)(hm:Zd3 X.K C m f)(F:Z0x X.prog X.w X.K X.mg X.base CX k f fd ps sp)(hr:Z1g k X.A)(hb:Z2s X.K fd ps ds)(hd:Z13 dvs ds)(hx:Z34 CX X E)(ha:PA X (e :: es) t)
  (hst:starEach (e :: es) X.env=(false,eval e X.env) :: starEach es X.env:=by rfl) (hpl:(backTo pos (starEach es X.env)).any (·.1)=false:=by rfl)
  (ht:eval (.Call (.Attribute o m apos) (e :: es) [] pos) X.env=(do
   let ov <-eval o X.env
   standAt apos.atName
   let (f,first) <-holding [ov] (getMethod ov m pl)
   callWith pos f first (backTo pos (starEach (e :: es) X.env)) (backToKw pos (keywordEach [] X.env))):=by rfl) :
  PE X (.Call (.Attribute o m apos) (e :: es) [] pos) (Zdo C m sp dvs E ta t):=by
 intro pins s σ H Q I h
 refine PySem.W.methodCall_KW (pl:=pl) (thn (he pins s σ H _ I h) fun u s1 ⟨x,H1,I1,rx,a,dx,fs,ex,ea,l,q⟩=>?_) ht
 subst ex
 obtain rfl:u=Value.ref a:=rx
 refine Z4M I1 ea c hm l ?_
 refine PySem.W.callWith_K (first:=[.ref a]) (h₀:=X.base) I.ok.mod.kin hm.kp (thn (ha pos pins s1 σ H1 _ I1 q) fun us s2 ⟨vs,H2,I2,r,q2⟩=>⟨I2.kIn,?_⟩) hst hpl
 exact Z94 (us:=.ref a :: us) (vs:=.ref a :: vs) F hr hb hd hx I2 (.cons rfl r) q2
theorem Z9X {pl:Sem Bool}(he:PE X o ta)(c:Cls X.K C)(hm:Zd3 X.K C m f)(F:Z0x X.prog X.w X.K X.mg X.base CX k f fd ps sp)(hr:Z1g k X.A)(hb:Z2s X.K fd ps ds)(hd:Z13 dvs ds)(hx:Z34 CX X E)
  (ht:eval (.Call (.Attribute o m apos) [] [] pos) X.env=(do
   let ov <-eval o X.env
   standAt apos.atName
   let (f,first) <-holding [ov] (getMethod ov m pl)
   callWith pos f first (backTo pos (starEach [] X.env)) (backToKw pos (keywordEach [] X.env))):=by rfl) :
  PE X (.Call (.Attribute o m apos) [] [] pos) (Zdo C m sp dvs E ta Z4E):=by
 intro pins s σ H Q I h
 refine PySem.W.methodCall_KW (pl:=pl) (thn (he pins s σ H _ I h) fun u s1 ⟨x,H1,I1,rx,a,dx,fs,ex,ea,l,q⟩=>?_) ht
 subst ex
 obtain rfl:u=Value.ref a:=rx
 refine Z4M I1 ea c hm l ?_
 exact PySem.W.callWith_K0 (first:=[.ref a]) I1.kIn hm.kp (Z94 (us:=[.ref a]) (vs:=[.ref a]) F hr hb hd hx I1 (.cons rfl .nil) q)
structure Mk (K:Y00)(C f:Addr):Prop where
 makes:PySem.W.makesIn K C=true
 init:Y0u K (.ref C) "__init__"=some (some (.ref f))
 fn:PySem.W.isFn K (.ref f)=true
 kp:Y1s K (.ref C)=true
theorem Zab {pins:List (Addr×Obj)}{σ:St}{H:Hp}{s:Shared}{Q:VK}{us:List Value}{vs:List V}(M:Mk X.K C f)(F:Z0x X.prog X.w X.K X.mg X.base CX k f fd ps sp)(hr:Z1g (k+1) X.A)(hb:Z2s X.K fd ps ds)(hd:Z13 dvs ds)
  (hx:Z34 CX X E) (I:Inv X pins σ H s) (r:Z13 vs us)
  (h:∀ x dx,H x=none->H dx=none->dx≠x->sp (.ref x :: (vs++dvs)) (upd (upd H dx (.own x)) x (.ins C dx [])) (fun v H2=>v=.non/\Q (.ref x) H2) E) :
  wpAny (model X.prog X.w) X.A (call (.ref C) us) (EP X pins σ Q) X.xe s:=by
 have hq:=h (s.heap.objs.size+1) s.heap.objs.size (I.hok.fresh (Nat.le_succ _)) (I.hok.fresh (Y03 _)) (Y0k (Nat.lt_succ_self _))
 have I2:=Inv.made (C:=C) I
 have r2:Z13 (V.ref (s.heap.objs.size+1) :: (vs++dvs)) (Value.ref (s.heap.objs.size+1) :: (us++ds)):=.cons rfl (r.append hd)
 have hl:(Value.ref (s.heap.objs.size+1) :: us++ds).length=ps.length:=by
  have e:=r2.length
  rw[F.len _ _ _ _ hq]at e
  exact e.symm
 refine wpAny_call (ZaD (f:=f) I.kIn M.makes M.init (beq_iff_eq.mp M.fn) (codeAny_mono (F.run _ X.stack _ _ ⟨Value.ref (s.heap.objs.size+1) :: us,[]⟩ (Value.ref (s.heap.objs.size+1) :: (us++ds)) _ _ E (hr.make C us [])
  (I2.env0.make C us []) (hb _ (Value.ref (s.heap.objs.size+1) :: us) I2.kIn hl) r2 hq) fun r s' hq'=>?_))
 cases r with
 | error e=>exact hx pins σ _ _ e s' I2 hq'
 | ok fl=>
  cases fl with
  | ret u=>
   obtain⟨v,H',I3,rv,ev,q3⟩:=I2.after hq'
   subst ev
   exact⟨rv,⟨V.ref (s.heap.objs.size+1),H',I3,rfl,q3⟩⟩
  | next=>exact False.elim hq'
  | brk=>exact False.elim hq'
  | cont=>exact False.elim hq'
theorem Z2S (M:Mk X.K C f)(F:Z0x X.prog X.w X.K X.mg X.base CX k f fd ps sp)(hr:Z1g (k+1) X.A)(hg:Gl X x)(hm:X.mg x=some (.ref C))(hb:Z2s X.K fd ps ds)(hd:Z13 dvs ds)(hx:Z34 CX X E)
  (ha:PA X (e :: es) t) (hdb:(x == ("__debug__":Str))=false:=by decide) (he:starEach (e :: es) X.env=(false,eval e X.env) :: starEach es X.env:=by rfl) (hpl:(backTo pos (starEach es X.env)).any (·.1)=false:=by rfl) :
  PE X (.Call (.Name x p) (e :: es) [] pos) (Zao C sp dvs E t):=by
 intro pins s σ H Q I h
 refine wpAny_Call_Name_kw (Z5d I hg hm ?_ hdb)
 refine PySem.W.callWith_K (h₀:=X.base) I.ok.mod.kin M.kp (thn (ha pos pins s σ H _ I h) fun us s1 ⟨vs,H1,I1,r,q⟩=>⟨I1.kIn,?_⟩) he hpl
 exact Zab M F hr hb hd hx I1 r q
end
section
variable {X:Cx}{CX:CXT}{k:Nat}{f C:Addr}{fd:FuncData}{ps ks:List Str}{sp:Sp}{E:XK}{x m:Str}{p pos apos kpos:Pos}{e o:Expr}{es:List Expr}{kws:List Keyword}{te ta:TE}{t tk:TA}{nm:Option Str}
variable {g:List Value->List Value->List Value}{gV:List V->List V->List V}
end
structure Z0k (N P:List Str)(sc:Scope):Prop where
 kind:sc.kind=.function
 co:sc.isCoroutine=false
 gen:sc.isGenerator=false
 nd:N.Nodup
 pre:N.take P.length=P
 par:∀ x∈P,sc.names.lookup x=some .local\/sc.names.lookup x=some .cell
 nofree:∀ y∈sc.names,y.2≠.free
theorem Z5Y {kindOf:Str->Option NameKind}{x:Str}:∀ {binds:List (Str×Value)} {m:Str->Option Value},(∀ v,(x,v)∉binds)->bindL kindOf binds m x=m x
 | [],_,_=>rfl
 | (n,v) :: r,m,h=>by
  unfold bindL
  rw[Z5Y fun w hw=>h w (Y0m _ hw)]
  split
  ·have:x≠n:=by rintro rfl; exact h v Y1t
   simp[this]
  ·rfl
theorem Z63 {kindOf:Str->Option NameKind}{x:Str}:∀ {binds:List (Str×Value)} {m:Str->Option Value},(∀ v,(x,v)∉binds)->bindC kindOf binds m x=m x
 | [],_,_=>rfl
 | (n,v) :: r,m,h=>by
  unfold bindC
  rw[Z63 fun w hw=>h w (Y0m _ hw)]
  split
  ·rfl
  ·have:x≠n:=by rintro rfl; exact h v Y1t
   simp[this]
theorem Z5X {kindOf:Str->Option NameKind}{x:Str}{v:Value}:∀ {P:List Str} {vs:List Value} {i:Nat} {m:Str->Option Value},P.Nodup->P[i]?=some x->vs[i]?=some v->kindOf x=some .local->
  bindL kindOf (P.zip vs) m x=some v
 | [],_,_,_,_,h,_,_=>by simp at h
 | _ :: _,[],_,_,_,_,h,_=>by simp at h
 | p :: P,w :: vs,0,m,nd,h1,h2,hk=>by
  simp at h1 h2; subst h1; subst h2
  show bindL kindOf ((p,w) :: P.zip vs) m p=_
  unfold bindL
  rw[Z5Y fun v hv=>(List.nodup_cons.mp nd).1 (List.of_mem_zip hv).1,if_pos hk]
  simp
 | p :: P,w :: vs,i+1,m,nd,h1,h2,hk=>by
  show bindL kindOf ((p,w) :: P.zip vs) m x=_
  unfold bindL
  exact Z5X (i:=i) (List.nodup_cons.mp nd).2 (by simpa using h1) (by simpa using h2) hk
theorem Z5A {kindOf:Str->Option NameKind}{x:Str}{v:Value}:∀ {P:List Str} {vs:List Value} {i:Nat} {m:Str->Option Value},P.Nodup->P[i]?=some x->vs[i]?=some v->kindOf x≠some .local->
  bindC kindOf (P.zip vs) m x=some v
 | [],_,_,_,_,h,_,_=>by simp at h
 | _ :: _,[],_,_,_,_,h,_=>by simp at h
 | p :: P,w :: vs,0,m,nd,h1,h2,hk=>by
  simp at h1 h2; subst h1; subst h2
  show bindC kindOf ((p,w) :: P.zip vs) m p=_
  unfold bindC
  rw[Z63 fun v hv=>(List.nodup_cons.mp nd).1 (List.of_mem_zip hv).1,if_neg hk]
  simp
 | p :: P,w :: vs,i+1,m,nd,h1,h2,hk=>by
  show bindC kindOf ((p,w) :: P.zip vs) m x=_
  unfold bindC
  exact Z5A (i:=i) (List.nodup_cons.mp nd).2 (by simpa using h1) (by simpa using h2) hk
def start (N:List Str)(vs:List V):St:=vs.map some++List.replicate (N.length - vs.length) none
def Z9A (CX:CXT)(P:Program)(w:World)(K:Y00)(mg:Str->Option Value)(base:Heap)(N:List Str)(qual:Str)(scope:Scope)(f:Addr)(cd:Value)(A:Around)(outer:List Env)(s:Shared)(H:Hp)(E:XK):Cx where
 prog:=P
 w:=w
 K:=K
 mg:=mg
 base:=base
 A:=A.deeper (envOfC qual scope s.heap.objs.size f cd)
 N:=N
 s₀:=s
 H₀:=H
 env:=envOfC qual scope s.heap.objs.size f cd
 outer:=outer
 stack:=envOfC qual scope s.heap.objs.size f cd :: outer
 ex:=[]
 calm:=true
 fn:=fun _=>true
 pn:=[]
 xe:=fun e s'=>wpAny (model P w) (A.deeper (envOfC qual scope s.heap.objs.size f cd)) (leaving (envOfC qual scope s.heap.objs.size f cd) e) (fun _ s''=>CX outer H s E e s'') (fun e' s''=>CX outer H s E e' s'') s'
theorem Z72 {sc:Scope}{n:Nat}{x:Str}(h:sc.names.lookup x=some .cell):∃ c,(cellsFrom n sc.names []).lookup x=some c:=by
 have q:=PySem.W.cellsFrom_some sc.names n [] (.inl h)
 exact Option.isSome_iff_exists.mp q
theorem Z91 {CX:CXT}{P:Program}{w:World}{K:Y00}{mg:Str->Option Value}{base:Heap}{N ps:List Str}{qual:Str}{scope:Scope}{f:Addr}{cd:Value}{A:Around}{outer:List Env}{s s1:Shared}{H:Hp}{E:XK}{us:List Value}{vs:List V}
  (S:Z0k N ps scope) (hd:A.handled=none) (e0:ZcD P w K mg base A outer s H) (hl:vs.length=ps.length) (r:Z13 vs us)
  (x:InCallC s s.heap.objs.size (bindL (envOfC qual scope s.heap.objs.size f cd).kindOf (ps.zip us) fun _=>none) (cellsFrom (s.heap.objs.size+1) scope.names []) (bindC (envOfC qual scope s.heap.objs.size f cd).kindOf (ps.zip us) fun _=>none) s1) :
  Inv (Z9A CX P w K mg base N qual scope f cd A outer s H E) [] (start N vs) H s1:=by
 have hpl:ps.length<=N.length:=by have:=congrArg List.length S.pre; rw[Y0x]at this; lia
 obtain⟨h1,tk,rfl,hk⟩:=x.done
 have noA:∀ b:Addr,b∉(Z9A CX P w K mg base N qual scope f cd A outer s H E).ex:=fun b z=>absurd (show b∈([]:List Addr) from z) (by simp)
 refine⟨⟨e0.mod,S.kind,rfl,rfl,Y03 _,fun y z c h1 h2=>?_,fun y hy=>?_,fun y c _ h=>?_,fun _=>hd,Around.frames_deeper e0.frames,.inr ⟨rfl,rfl⟩,fun b z=>absurd z (noA b),e0.bs,e0.bsz,fun b _ _=>noA b,fun b z=>absurd z (noA b),e0.funs,e0.frf⟩,
  rfl,e0.bare,Un.kept hk,⟨_,x.toInCall.ns,fun i y v h1 h2 h3=>?_⟩,fun y c h=>⟨_,x.cell y c h⟩,e0.hok.fresh (Y03 _),fun y c h=>?_,fun p hp=>absurd (show p∈([]:List (Addr×Obj)) from hp) (by simp),e0.hok.kept hk,?_⟩
 ·exact name_of_addr x.apart (PySem.mem_of_lookup h1) (PySem.mem_of_lookup h2)
 ·have hy:scope.names.lookup y=some .cell\/scope.names.lookup y=some .free:=hy
  rcases hy with hy | hy
  ·exact Z72 hy
  ·exact absurd rfl (S.nofree _ (PySem.mem_of_lookup hy))
 ·exact Y11 (x.above y c (PySem.mem_of_lookup h))
 ·have hi:i < vs.length:=by
   unfold start at h2
   by_cases hi:i < vs.length
   ·exact hi
   ·rw[Y17 (by simpa using hi)]at h2
    rw[List.getElem?_replicate]at h2
    split at h2 <;> cases h2
  have ha:vs[i]?=some v:=by
   unfold start at h2
   rw[Y0z (by simpa using hi),Y10]at h2
   cases e:vs[i]? with
   | none=>rw[e]at h2; cases h2
   | some a=>rw[e]at h2; cases h2; rfl
  obtain⟨u,hu,rv⟩:=r.get ha
  have hp:ps[i]?=some y:=by
   rw[<-S.pre,List.getElem?_take_of_lt (by lia)]; exact h1
  have ndP:ps.Nodup:=by rw[<-S.pre]; exact S.nd.sublist (List.take_sublist _ _)
  refine⟨u,rv,?_⟩
  rcases S.par y (Y0d hp) with k | k
  ·exact .inl ⟨k,Z5X ndP hp hu k⟩
  ·obtain⟨c,e⟩:=Z72 (n:=s.heap.objs.size+1) k
   refine .inr ⟨.inl k,c,e,?_⟩
   have q:=x.cell y c e
   rw[Z5A ndP hp hu (by show scope.names.lookup y≠_; rw[k]; decide)]at q
   exact q
 ·exact e0.hok.fresh (Y11 (x.above y c (PySem.mem_of_lookup h)))
 ·unfold start
  show _=N.length
  rw[Y0e,Y08,List.length_replicate]
  lia
theorem Zcx {CX:CXT}{P:Program}{w:World}{K:Y00}{mg:Str->Option Value}{base:Heap}{k:Nat}{f:Addr}{name qual:Str}{params:Arguments}{body:List Stmt}{scope:Scope}{dV kV doc pm cdv ct oc:Value}{an od:Option Addr}
  {osl:Array (Option Value)} {N ps:List Str} {sp:Sp} (lk:K.lookup f=some ⟨oc,od,.func (Y1l name qual params body scope dV kV doc pm an cdv ct),osl⟩) (hcd:PySem.W.codeIn K cdv qual=true) (S:Z0k N ps scope)
  (len:∀ vs H Q E,sp vs H Q E->vs.length=ps.length)
  (hbody:∀ (A:Around) (outer:List Env) (s:Shared) (H:Hp) (vs:List V) (Q:VK) (E:XK),Z1g k (A.deeper (envOfC qual scope s.heap.objs.size f cdv))->sp vs H Q E->
   ∃ t,PSs (Z9A CX P w K mg base N qual scope f cdv A outer s H E) body t/\t { nx:=fun _ H'=>Q .non H',rt:=Q } (start N vs) H) :
  Z0x P w K mg base CX (k+1) f (Y1l name qual params body scope dV kV doc pm an cdv ct) ps sp:=by
 refine⟨len,fun A outer s H args us vs Q E hr e0 hb r hsp=>?_⟩
 have hl:=len _ _ _ _ hsp
 have KX:K.In s.heap:=e0.mod.kin.keeps fun b o e=>(e0.bs b o e).1
 have lim:s.heap.NoLimit:=e0.mod.nolimit.keeps fun b o e=>(e0.bs b o e).1
 have hkind:∀ y∈ps.zip us,scope.names.lookup y.1=some .local\/(scope.names.lookup y.1=some .cell/\((cellsFrom (s.heap.objs.size+1) scope.names []).lookup y.1).isSome=true):=fun ⟨n,v⟩ hy=>by
  rcases S.par n (List.of_mem_zip hy).1 with q | q
  ·exact .inl q
  ·exact .inr ⟨q,PySem.W.cellsFrom_some _ _ _ (.inl q)⟩
 refine codeAny_call_function hr.depth (KX _ _ lk) rfl S.co S.gen rfl (PySem.W.codeRec_of KX hcd) (hb _ _ _ _ ?_)
 refine wpAny_newFunctionEnv_cells S.kind hkind fun env he s1 x=>?_
 subst he
 refine⟨lim.keeps x.toInCall.keep,codeAny_func ?_⟩
 obtain⟨t,ht,hq⟩:=hbody A outer s H vs Q E (hr.deeper _) hsp
 have I:Inv (Z9A CX P w K mg base N qual scope f cdv A outer s H E) [] (start N vs) H s1:=Z91 S hr.hd e0 hl r x
 refine wpAny_mono (ht [] s1 (start N vs) H _ I hq) (fun fl s' hs=>?_) fun e s' hs=>hs
 have fin:∀ {σ':St} {H':Hp} {v:V} {u:Value},Inv (Z9A CX P w K mg base N qual scope f cdv A outer s H E) [] σ' H' s'->Z17 v u->Q v H'->CE outer P w H s Q u s':=
  fun {σ' H' v u} J rv q=>⟨v,H',J.os,J.bare,J.base,J.hok,rv,q⟩
 cases fl with
 | ret u=>
  obtain⟨v,σ',H',J,rv,q⟩:=hs
  exact fin J rv q
 | next=>
  obtain⟨σ',H',J,q⟩:=hs
  exact fin (v:=V.non) (u:=Value.none) J rfl q
 | brk=>
  obtain⟨_,_,_,q⟩:=hs
  exact False.elim q
 | cont=>
  obtain⟨_,_,_,q⟩:=hs
  exact False.elim q
section
variable {X:Cx}{x:Str}{p pos:Pos}{e:Expr}{es:List Expr}{t:TA}{id T:String}{r:List V->Hp->VK->Prop}
def tCB (r:List V->Hp->VK->Prop)(t:TA):TE:=fun σ H Q=>t σ H fun vs H1=>r vs H1 Q
theorem Z0e (hc:Z2F X (.builtin id) r)(hg:Gl X x)(hm:X.mg x=none)(hv:bootBuiltins x=some (.builtin id))(ha:PA X (e :: es) t)(hn:x≠"__name__":=by decide)(hdb:(x == ("__debug__":Str))=false:=by decide)
  (he:starEach (e :: es) X.env=(false,eval e X.env) :: starEach es X.env:=by rfl) (hpl:(backTo pos (starEach es X.env)).any (·.1)=false:=by rfl):PE X (.Call (.Name x p) (e :: es) [] pos) (tCB r t):=by
 intro pins s σ H Q I h
 refine wpAny_Call_Name_kw (Z4T I hg hm hv ?_ hn hdb)
 exact PyProof.Rows.callWith_builtin1 (thn (ha pos pins s σ H _ I h) fun us s1 ⟨vs,H1,I1,r1,q1⟩=>hc pins s1 σ H1 vs us Q I1 r1 q1) he hpl
theorem Z15 (hc:Z2F X (.type T) r)(hg:Gl X x)(hm:X.mg x=none)(hv:bootBuiltins x=some (.type T))(ha:PA X (e :: es) t)(hn:x≠"__name__":=by decide)(hdb:(x == ("__debug__":Str))=false:=by decide)
  (he:starEach (e :: es) X.env=(false,eval e X.env) :: starEach es X.env:=by rfl) (hpl:(backTo pos (starEach es X.env)).any (·.1)=false:=by rfl):PE X (.Call (.Name x p) (e :: es) [] pos) (tCB r t):=by
 intro pins s σ H Q I h
 refine wpAny_Call_Name_kw (Z4T I hg hm hv ?_ hn hdb)
 exact PyProof.Rows.callWith_type1 (thn (ha pos pins s σ H _ I h) fun us s1 ⟨vs,H1,I1,r1,q1⟩=>hc pins s1 σ H1 vs us Q I1 r1 q1) he hpl
end
end L2
namespace HT
open PySem PyProof.Rows
def lexLt:List Int->List Int->Bool
 | [],[]=>false
 | [],_ :: _=>true
 | _ :: _,[]=>false
 | x :: xs,y :: ys=>if x=y then lexLt xs ys else decide (x < y)
theorem lexLt_cons (x y:Int)(xs ys:List Int):lexLt (x :: xs) (y :: ys)=if x=y then lexLt xs ys else decide (x < y):=rfl
section
open PySem.SeqAt
open PySem.AutoSeq1 (wpAny_loadPart')
open PySem.MeetsSeq PySem.MeetsSeq2 PySem.MeetsSeq3
end
section
variable {prog:Program}{w:World}{A:Around}{E:Value->Shared->Prop}{s:Shared}
end
end HT
namespace L2
open PySem PySem.Spec PyProof.Rows
theorem Z7C {ns:List Int}:∀ {us:List Value},Z13 (ns.map V.int) us->IntsAre us ns:=by
 induction ns with
 | nil=>intro us r; rw[List.map_nil]at r; cases r; exact .nil
 | cons n ns ih=>
  intro us r
  rw[Y13]at r
  cases r with
  | cons r1 r2=>
   obtain⟨t,e⟩:=r1
   subst e
   exact .cons n t (ih r2)
section
variable {X:Cx}{e:Expr}{te:TE}{lo hi:Option Expr}{tl th:TO}{pos p2:Pos}
end
def ixN (n:Nat)(i:Int):Option Nat:=if 0<=i then (if i < n then some i.toNat else none) else if -(n:Int)<=i then some (i+n).toNat else none
def atI {α:Type}(xs:List α)(i:Int):Option α:=(ixN xs.length i).bind fun j=>xs[j]?
theorem Z8i {n:Nat}{i:Int}{j:Nat}(h:ixN n i=some j):seqIndex? i n=some j/\j < n/\-(n:Int)<=i/\i < n:=by
 unfold ixN at h
 by_cases h0:0<=i
 ·rw[if_pos h0]at h
  by_cases h1:i < n
  ·rw[if_pos h1]at h
   have e:i.toNat=j:=Option.some.inj h
   exact⟨by rw[seqIndex_of h0 h1,e],by lia,by lia,h1⟩
  ·rw[if_neg h1]at h; cases h
 ·rw[if_neg h0]at h
  by_cases h1:-(n:Int)<=i
  ·rw[if_pos h1]at h
   have e:(i+n).toNat=j:=Option.some.inj h
   exact⟨by rw[seqIndex_neg (by lia) h1,e],by lia,h1,by lia⟩
  ·rw[if_neg h1]at h; cases h
theorem Z6H {α:Type}{xs:List α}{i:Int}{v:α}(h:atI xs i=some v):∃ j,seqIndex? i xs.length=some j/\xs[j]?=some v/\j < xs.length/\-(xs.length:Int)<=i/\i < xs.length:=by
 unfold atI at h
 cases e:ixN xs.length i with
 | none=>rw[e]at h; cases h
 | some j=>
  rw[e]at h
  obtain⟨h1,h2,h3,h4⟩:=Z8i e
  exact⟨j,h1,h,h2,h3,h4⟩
theorem Z09 {α:Type}{xs:List α}{j:Nat}{v:α}(h:xs[j]?=some v):atI xs (j:Int)=some v:=by
 have hj:j < xs.length:=(Y04.mp h).1
 have e:ixN xs.length (j:Int)=some j:=by
  unfold ixN
  rw[if_pos (by lia),if_pos (by lia)]; simp
 unfold atI; rw[e]; exact h
def ZbJ (b:Expr):Prop:=∀ o i,subscripted b false o i=operate [o,i] (getItem o i)
def IxR (X:Cx)(r:R2):Prop:=
 ∀ (value slice:Expr) (pins:List (Addr×Obj)) (s:Shared) (σ:St) (H:Hp) (x y:V) (v u:Value) (Q:VK),Inv X pins σ H s->Z17 x v->Z17 y u->r x y H Q->
  subscripted slice false v u=operate [v,u] (getItem v u)->wpAny (model X.prog X.w) X.A (subscriptTail value slice v u) (EP X pins σ Q) X.xe s
def MtR (X:Cx)(id:String)(r:V->List V->Hp->VK->Prop):Prop:=
 ∀ (pins:List (Addr×Obj)) (s:Shared) (σ:St) (H:Hp) (x:V) (xs:List V) (v:Value) (us:List Value) (Q:VK),Inv X pins σ H s->Z17 x v->Z13 xs us->r x xs H Q->
  wpAny (model X.prog X.w) X.A (call (.builtin id) (v :: us)) (EP X pins σ Q) X.xe s
section
variable {X:Cx}{a b:Expr}{ta tb:TE}{pos:Pos}
theorem IxR.or {r r':R2}(h:IxR X r)(h':IxR X r'):IxR X (fun x y H Q=>r x y H Q\/r' x y H Q):=by
 intro value slice pins s σ H x y v u Q I rx ry q hs
 rcases q with q | q
 ·exact h value slice pins s σ H x y v u Q I rx ry q hs
 ·exact h' value slice pins s σ H x y v u Q I rx ry q hs
theorem Z0j {r:R2}(hr:IxR X r)(ha:PE X a ta)(hb:PE X b tb)(hs:ZbJ b):PE X (.Subscript a b pos) (tOp r ta tb):=by
 intro pins s σ H Q I h
 exact Subscript_ (Zgl ha hb I h fun v u s2 x y H2 I2 rx ry q=>hr a b pins s2 σ H2 x y v u Q I2 rx ry q (hs _ _))
def Zed (K:Y00):R2:=fun x y H Q=>∃ p xs i v,x=.ref p/\y=.int i/\SqL K H p xs/\atI xs i=some v/\Q v H
def Z59 (K:Y00):R2:=fun x y H Q=>∃ p xs i v,x=.ref p/\y=.int i/\SqT K H p xs/\atI xs i=some v/\Q v H
def rIxS:R2:=fun x y H Q=>∃ z i c,x=.str z/\y=.int i/\z.length<=sizeLine/\atI z.cps.toList i=some c/\Q (.str ⟨#[c]⟩) H
theorem Z0R:IxR X (Zed X.K):=by
 intro value slice pins s σ H x y v u Q I rx ry h hs
 obtain⟨p,xs,i,z,rfl,rfl,hq,he,q⟩:=h
 cases rx
 obtain⟨t,rfl⟩:=ry
 obtain⟨its,r,pl,hz⟩:=I.list hq
 obtain⟨j,h1,h2,h3,h4,h5⟩:=Z6H he
 obtain⟨w,ew,rw'⟩:=r.get h2
 have hl:=r.length
 have hn:=Z5z
 have fin:EP X pins σ Q w s:=⟨z,H,I,rw',q⟩
 by_cases h0:0<=i
 ·have hj:i.toNat=j:=by
   rw[seqIndex_of h0 h5]at h1
   exact Option.some.inj h1
  exact item_listR pl.isList h0 (by lia) (by rw[hj]; simpa using ew) fin hs
 ·have hj:(i+(its.toArray.size:Int)).toNat=j:=by
   rw[seqIndex_neg (by lia) h4]at h1
   rw[Y0c,<-hl]
   exact Option.some.inj h1
  exact subscriptTail_builtinR (x:=w) pl.isList.typeIs slot_list_getitem.lookup
   (wpAny_getItem_list_neg (Q:=fun r s'=>r=w/\EP X pins σ Q r s') pl.isList (by lia) (by rw[Y0c] <;> lia) (by lia) (by rw[hj]; simpa using ew) ⟨rfl,fin⟩) hs
theorem Z0f:IxR X (Z59 X.K):=by
 intro value slice pins s σ H x y v u Q I rx ry h hs
 obtain⟨p,xs,i,z,rfl,rfl,hq,he,q⟩:=h
 cases rx
 obtain⟨t,rfl⟩:=ry
 obtain⟨its,r,pl,hz⟩:=I.tuple hq
 obtain⟨j,h1,h2,h3,h4,h5⟩:=Z6H he
 obtain⟨w,ew,rw'⟩:=r.get h2
 have hl:=r.length
 have hn:=Z5z
 have fin:EP X pins σ Q w s:=⟨z,H,I,rw',q⟩
 exact subscriptTail_builtinR (x:=w) pl.typeIs slot_tuple_getitem.lookup
  (getItem_tuple (j:=j) (Q:=fun r s'=>r=w/\EP X pins σ Q r s') pl (by lia) (by lia) (by rw[Y0c,<-hl]; exact h1) (by simpa using ew) ⟨rfl,fin⟩) hs
theorem Z8b:IxR X rIxS:=by
 intro value slice pins s σ H x y v u Q I rx ry h hs
 obtain⟨z,i,c,rfl,rfl,hz,he,q⟩:=h
 obtain⟨t,rfl⟩:=rx
 obtain⟨t',rfl⟩:=ry
 obtain⟨j,h1,h2,h3,h4,h5⟩:=Z6H he
 have hl:z.cps.toList.length=z.length:=by simp[Str.length]
 rw[hl]at h1 h4 h5
 have hn:=Z5z
 exact tail_any (typeIs_str s z t) slot_str_getitem.lookup (getItem_str (c:=c) (by
  have e1:decide (i < -(2 ^ 63:Int))=false:=decide_eq_false (by lia)
  have e2:decide (i≥2 ^ 63)=false:=decide_eq_false (by lia)
  rw[e1,e2,Bool.or_false]) (by rw[h1]; simpa using h2) ⟨.str ⟨#[c]⟩,H,I.tok _,⟨_,rfl⟩,q⟩) hs
def rIx (K:Y00):R2:=fun x y H Q=>Zed K x y H Q\/Z59 K x y H Q\/rIxS x y H Q
theorem Z3B:IxR X (rIx X.K):=Z0R.or (Z0f.or Z8b)
theorem Z7I (its:List Value)(n j:Nat)(u:Value):Obj.mapSeq (·.setIfInBounds j u) { cls:=.type "list",data:=.seq its.toArray n }={ cls:=.type "list",data:=.seq (its.set j u).toArray n }:=by
 simp[Obj.mapSeq]
theorem Inv.lst {pins:List (Addr×Obj)}{σ:St}{H:Hp}{s:Shared}{p:Addr}{xs:List V}(I:Inv X pins σ H s)(h:H p=some (.lst xs)) :
  ∃ (its:List Value) (n:Nat),Z13 xs its/\s.heap.get? p=some { cls:=.type "list",data:=.seq its.toArray n }/\xs.length<=sizeLine:=by
 obtain⟨z,its,n,r,e⟩:=I.hok p _ h
 exact⟨its,n,r,e,z⟩
theorem Inv.lstUpd {pins:List (Addr×Obj)}{σ:St}{H:Hp}{s:Shared}{p:Addr}{xs ys:List V}{its its':List Value}{n n':Nat}{f:Obj->Obj}(I:Inv X pins σ H s)(h:H p=some (.lst xs))
  (ho:s.heap.get? p=some { cls:=.type "list",data:=.seq its.toArray n }) (hf:f { cls:=.type "list",data:=.seq its.toArray n }={ cls:=.type "list",data:=.seq its'.toArray n' }) (r:Z13 ys its') (hz:ys.length<=sizeLine) (t:Nat) :
  Inv X pins σ (upd H p (.lst ys)) { s with heap:=s.heap.update p f,toks:=t }:=by
 have e:(s.heap.update p f).get? p=some { cls:=.type "list",data:=.seq its'.toArray n' }:=by
  rw[Heap.get?_update_self f ho (by rw[hf] <;> rfl),hf]
 refine I.write (x:=p) (e:=p) (by rw[h]; trivial) (.inl rfl) (fun b u hb q=>(Y15 _ _ (Ne.symm hb)).trans q) ⟨_,e⟩ ?_
 exact⟨hz,its',n',r,e⟩
def ZeI:V->V->V->Hp->(Hp->Prop)->Prop:=fun o i v H Q=>∃ p xs k j,o=.ref p/\i=.int k/\H p=some (.lst xs)/\ixN xs.length k=some j/\Q (upd H p (.lst (xs.set j v)))
theorem Z9K:PSet X ZeI:=by
 intro pins s σ H o i v ov iv u Q I ro ri rv h
 obtain⟨p,xs,k,j,rfl,rfl,hp,hj,q⟩:=h
 cases ro
 obtain⟨t,rfl⟩:=ri
 obtain⟨its,n,r,ho,hz⟩:=I.lst hp
 obtain⟨h1,h2,h3,h4⟩:=Z8i hj
 have hl:=r.length
 have hn:=Z5z
 have I':Inv X pins σ (upd H p (.lst (xs.set j v))) { s with heap:=s.heap.update p (Obj.mapSeq (·.setIfInBounds j u)) }:=
  I.lstUpd hp ho (Z7I its n j u) (r.set rv j) (by rw[List.length_set]; exact hz) s.toks
 by_cases h0:0<=k
 ·have hk:k.toNat=j:=by
   rw[seqIndex_of h0 h4]at h1
   exact Option.some.inj h1
  exact PySem.W.ki_setAt ho h0 (by lia) (by rw[Y0c,<-hl]; exact h4) (by rw[hk]; exact⟨_,I',q⟩)
 ·have hk:(k+(its.toArray.size:Int)).toNat=j:=by
   rw[seqIndex_neg (by lia) h3]at h1
   rw[Y0c,<-hl]
   exact Option.some.inj h1
  exact PySem.W.ki_setBack ho (by lia) (by rw[Y0c,<-hl]; exact h3) (by lia) (by rw[hk]; exact⟨_,I',q⟩)
def Z4B:V->Bool
 | .non=>true
 | .bl _=>true
 | .int _=>true
 | .str _=>true
 | _=>false
def eqV:V->V->Bool
 | .non,.non=>true
 | .bl a,.bl b=>a == b
 | .bl a,.int b=>(if a then 1 else 0) == b
 | .int a,.bl b=>a == (if b then 1 else 0)
 | .int a,.int b=>a == b
 | .str a,.str b=>a == b
 | _,_=>false
theorem Zdf {A:Around}{s:Shared}{y x:V}{u v:Value}(ry:Z17 y u)(rx:Z17 x v)(fy:Z4B y=true)(fx:Z4B x=true):SeqAt.EqAt A s u v (eqV y x):=by
 cases y with
 | non=>
  cases ry
  cases x with
  | non=>cases rx; exact SeqAt.EqAt.same _
  | bl b=>cases rx; exact SeqAt.EqAt.none_bool b
  | int b=>obtain⟨t,rfl⟩:=rx; exact SeqAt.EqAt.none_int b t
  | str b=>obtain⟨t,rfl⟩:=rx; exact SeqAt.EqAt.none_str b t
  | _=>exact absurd (show false=true from fx) Bool.false_ne_true
 | bl a=>
  cases ry
  cases x with
  | non=>cases rx; exact SeqAt.EqAt.bool_none a
  | bl b=>cases rx; exact SeqAt.EqAt.bool_bool a b
  | int b=>obtain⟨t,rfl⟩:=rx; exact SeqAt.EqAt.bool_int a b t
  | str b=>obtain⟨t,rfl⟩:=rx; exact SeqAt.EqAt.bool_str a b t
  | _=>exact absurd (show false=true from fx) Bool.false_ne_true
 | int a=>
  obtain⟨t',rfl⟩:=ry
  cases x with
  | non=>cases rx; exact SeqAt.EqAt.int_none a t'
  | bl b=>cases rx; exact SeqAt.EqAt.int_bool a t' b
  | int b=>obtain⟨t,rfl⟩:=rx; exact SeqAt.EqAt.int_int a t' b t
  | str b=>obtain⟨t,rfl⟩:=rx; exact SeqAt.EqAt.int_str a t' b t
  | _=>exact absurd (show false=true from fx) Bool.false_ne_true
 | str a=>
  obtain⟨t',rfl⟩:=ry
  cases x with
  | non=>cases rx; exact SeqAt.EqAt.str_none a t'
  | bl b=>cases rx; exact SeqAt.EqAt.str_bool a t' b
  | int b=>obtain⟨t,rfl⟩:=rx; exact SeqAt.EqAt.str_int a t' b t
  | str b=>obtain⟨t,rfl⟩:=rx; exact SeqAt.EqAt.str_str a t' b t
  | _=>exact absurd (show false=true from fx) Bool.false_ne_true
 | _=>exact absurd (show false=true from fy) Bool.false_ne_true
def eqU (x:V)(u:Value):Bool:=match u with
 | .none=>eqV .non x
 | .bool b=>eqV (.bl b) x
 | .int i _=>eqV (.int i) x
 | .str z _=>eqV (.str z) x
 | _=>false
theorem ZaH {x y:V}{u:Value}(r:Z17 y u)(f:Z4B y=true):eqU x u=eqV y x:=by
 cases y with
 | non=>cases r; rfl
 | bl b=>cases r; rfl
 | int i=>obtain⟨t,rfl⟩:=r; rfl
 | str z=>obtain⟨t,rfl⟩:=r; rfl
 | _=>exact absurd (show false=true from f) Bool.false_ne_true
theorem Z4h {x:V}:∀ {xs:List V} {us:List Value},Z13 xs us->xs.all Z4B=true->us.any (eqU x)=xs.any fun y=>eqV y x
 | _,_,.nil,_=>rfl
 | y :: xs,u :: us,.cons r t,f=>by
  rw[List.all_cons,Bool.and_eq_true]at f
  rw[List.any_cons,List.any_cons,ZaH r f.1,Z4h t f.2]
theorem Z30 {A:Around}{s:Shared}{x:V}{v:Value}(rx:Z17 x v)(fx:Z4B x=true):∀ {xs:List V} {us:List Value},Z13 xs us->xs.all Z4B=true->∀ u∈us,SeqAt.EqAt A s u v (eqU x u)
 | _,_,.nil,_=>fun u hu=>by cases hu
 | y :: xs,u :: us,.cons r t,f=>fun u' hu=>by
  rw[List.all_cons,Bool.and_eq_true]at f
  rcases Y0v.mp hu with rfl | hu
  ·rw[ZaH r f.1]; exact Zdf r rx f.1 fx
  ·exact Z30 rx fx t f.2 u' hu
def inV (x:V)(xs:List V):Bool:=xs.any fun y=>eqV y x
def rIn (K:Y00)(neg:Bool):R2:=fun x y H Q=>∃ p xs,y=.ref p/\(SqL K H p xs\/SqT K H p xs)/\Z4B x=true/\xs.all Z4B=true/\Q (.bl (if neg then !inV x xs else inV x xs)) H
theorem Z8K:OpR X (compareOp .In) (rIn X.K false):=by
 intro pins s σ H x y v u Q I rx ry h
 obtain⟨p,xs,rfl,hq,fx,fs,q⟩:=h
 cases ry
 rcases hq with hq | hq
 ·obtain⟨its,r,pl,hz⟩:=I.list hq
  refine SeqAt.in_listAt (eqU x) pl.isList (fun w hw=>Z30 rx fx r fs w (by simpa using hw)) ⟨.bl _,H,I,rfl,?_⟩
  rw[show its.toArray.any (eqU x)=its.any (eqU x) by simp,Z4h r fs]
  exact q
 ·obtain⟨its,r,pl,hz⟩:=I.tuple hq
  refine SeqAt.in_tupleAt (eqU x) pl (fun w hw=>Z30 rx fx r fs w (by simpa using hw)) ⟨.bl _,H,I,rfl,?_⟩
  rw[show its.toArray.any (eqU x)=its.any (eqU x) by simp,Z4h r fs]
  exact q
theorem Z5R:OpR X (compareOp .NotIn) (rIn X.K true):=by
 intro pins s σ H x y v u Q I rx ry h
 obtain⟨p,xs,rfl,hq,fx,fs,q⟩:=h
 cases ry
 rcases hq with hq | hq
 ·obtain⟨its,r,pl,hz⟩:=I.list hq
  refine SeqAt.notIn_listAt (eqU x) pl.isList (fun w hw=>Z30 rx fx r fs w (by simpa using hw)) ⟨.bl _,H,I,rfl,?_⟩
  rw[show its.toArray.any (eqU x)=its.any (eqU x) by simp,Z4h r fs]
  exact q
 ·obtain⟨its,r,pl,hz⟩:=I.tuple hq
  refine SeqAt.notIn_tupleAt (eqU x) pl (fun w hw=>Z30 rx fx r fs w (by simpa using hw)) ⟨.bl _,H,I,rfl,?_⟩
  rw[show its.toArray.any (eqU x)=its.any (eqU x) by simp,Z4h r fs]
  exact q
theorem Z0p:Z2F X (.builtin "len") (fun xs H Q=>∃ p ys,xs=[.ref p]/\(SqL X.K H p ys\/SqT X.K H p ys)/\Q (.int ys.length) H):=by
 intro pins s σ H xs us Q I r h
 obtain⟨p,ys,rfl,hq,q⟩:=h
 obtain⟨u,rfl,rx⟩:=Z3J r
 cases rx
 have hn:=Z5z
 rcases hq with hq | hq
 ·obtain⟨its,r',pl,hz⟩:=I.list hq
  have hlen:=r'.length
  exact Calls.call_len_list pl.isList (by simp only[Y0c] <;> lia) ⟨.int ys.length,H,I.tok _,⟨s.toks+1,by rw[Y0c,hlen]⟩,q⟩
 ·obtain⟨its,r',pl,hz⟩:=I.tuple hq
  have hlen:=r'.length
  exact len_tuple pl (by simp only[Y0c] <;> lia) ⟨.int ys.length,H,I.tok _,⟨s.toks+1,by rw[Y0c,hlen]⟩,q⟩
theorem Z5Z:Z2F X (.type "list") (fun xs H Q=>∃ p ys,xs=[.ref p]/\(SqL X.K H p ys\/SqT X.K H p ys)/\∀ l,H l=none->Q (.ref l) (upd H l (.lst ys))):=by
 intro pins s σ H xs us Q I r h
 obtain⟨p,ys,rfl,hq,q⟩:=h
 obtain⟨u,rfl,rx⟩:=Z3J r
 cases rx
 have fin:∀ (its:List Value),Z13 ys its->ys.length<=sizeLine->∀ (h':Heap) (c':Nat),(∀ b o',s.heap.get? b=some o'->h'.get? b=some o')->
   h'.get? s.heap.objs.size=some { cls:=.type "list",dict:=none,data:=.seq its.toArray c',slots:=#[] }->EP X pins σ Q (.ref s.heap.objs.size) { s with heap:=h' }:=fun its r' hz h' c' kp e=>
  ⟨.ref s.heap.objs.size,_,I.laid (t':=s.toks) kp (Y03 _) (show Z1j X.prog X.w _ h' _ (.lst ys) from ⟨hz,its,c',r',e⟩),rfl,q _ (I.hok.fresh (Y03 _))⟩
 rcases hq with hq | hq
 ·obtain⟨its,r',pl,hz⟩:=I.list hq
  have hlen:=r'.length
  obtain⟨o,ho,hc,n,hd⟩:=pl.isList
  exact call_list_seq p (.inl rfl) ho hc hd (fun h' c' kp e=>fin its r' hz h' c' kp e) (by simp only[Y0c] <;> lia)
 ·obtain⟨its,r',pl,hz⟩:=I.tuple hq
  have hlen:=r'.length
  obtain⟨o,ho,hc,n,hd⟩:=pl
  exact call_list_seq p (.inr rfl) ho hc hd (fun h' c' kp e=>fin its r' hz h' c' kp e) (by simp only[Y0c] <;> lia)
theorem Z2l:Z2F X (.type "tuple") (fun xs H Q=>∃ p ys,xs=[.ref p]/\((SqL X.K H p ys/\∀ l,H l=none->Q (.ref l) (upd H l (.tup ys)))\/(SqT X.K H p ys/\Q (.ref p) H))):=by
 intro pins s σ H xs us Q I r h
 obtain⟨p,ys,rfl,h⟩:=h
 obtain⟨u,rfl,rx⟩:=Z3J r
 cases rx
 rcases h with ⟨hq,q⟩ | ⟨hq,q⟩
 ·obtain⟨its,r',pl,hz⟩:=I.list hq
  have hlen:=r'.length
  refine call_tuple_list pl.isList (fun h' kp=>?_) (by simp only[Y0c] <;> lia)
  have I1:Inv X pins σ H { s with heap:=h' }:=I.kept (t':=s.toks) kp
  have I2:Inv X pins σ (upd H h'.objs.size (.tup ys)) { s with heap:=h'.push { cls:=.type "tuple",data:=.seq its.toArray } }:=
   I1.laid (t':=s.toks) (fun b o e=>Y02 _ e) (Y03 _) (show Z1j X.prog X.w _ _ _ (.tup ys) from ⟨⟨hz,_,Y0a _ rfl,rfl⟩,its,r',IsTup.new _ _⟩)
  exact⟨.ref h'.objs.size,_,I2,rfl,q _ (I1.hok.fresh (Y03 _))⟩
 ·obtain⟨its,r',pl,hz⟩:=I.tuple hq
  exact call_tuple_same pl ⟨.ref p,H,I,rfl,q⟩
def tyV (K:Y00)(T:String)(x:V)(H:Hp):Prop:=match x with
 | .str _=>T="str"
 | .int _=>T="int"
 | .ref p=>(T="list"/\∃ xs,SqL K H p xs)\/(T="tuple"/\∃ o,K.lookup p=some o/\o.cls=.type "tuple"/\o.dict=none)\/
   (T="dict"/\((∃ kvs,H p=some (.dK kvs))\/∃ kvs,H p=some (.dT kvs)))\/(T="set"/\∃ S n,H p=some (.set S n))
 | _=>False
theorem Zey {pins:List (Addr×Obj)}{σ:St}{H:Hp}{s:Shared}{T:String}{x:V}{v:Value}(I:Inv X pins σ H s)(r:Z17 x v)(ty:tyV X.K T x H) :
  s.TypeIs v T/\∀ a,v=.ref a->∃ ob,s.heap.get? a=some ob/\ob.dict=none:=by
 cases x with
 | str z=>
  obtain⟨t,rfl⟩:=r
  cases (show T="str" from ty)
  exact⟨typeIs_str s z t,fun _ e=>nomatch e⟩
 | int i=>
  obtain⟨t,rfl⟩:=r
  cases (show T="int" from ty)
  exact⟨typeIs_int s i t,fun _ e=>nomatch e⟩
 | ref p=>
  cases r
  rcases ty with ⟨rfl,xs,hq⟩ | ⟨rfl,o,hk,hc,hd⟩ | ⟨rfl,hk⟩ | ⟨rfl,S,n,hk⟩
  ·obtain⟨its,_,pl,_⟩:=I.list hq
   refine⟨pl.isList.typeIs,fun a e=>?_⟩
   cases e
   obtain⟨o,n,e,c,hd,_⟩:=pl
   exact⟨o,e,hd⟩
  ·refine⟨⟨o,I.kIn p o hk,hc⟩,fun a e=>?_⟩
   cases e
   exact⟨o,I.kIn _ o hk,hd⟩
  ·have z:∃ o,s.heap.get? p=some o/\o.ExactDict:=by
    rcases hk with ⟨kvs,hk⟩ | ⟨kvs,hk⟩
    ·obtain⟨_,_,_,_,o,_,_,e,ex,_⟩:=I.hok p _ hk
     exact⟨o,e,ex⟩
    ·obtain⟨_,_,_,_,o,_,_,e,ex,_⟩:=I.hok p _ hk
     exact⟨o,e,ex⟩
   obtain⟨o,e,ex⟩:=z
   refine⟨⟨o,e,ex.1⟩,fun a e2=>?_⟩
   cases e2
   exact⟨o,e,ex.2.1⟩
  ·obtain⟨o,_,_,_,e,ex,_⟩:=I.hok p _ hk
   refine⟨⟨o,e,ex.1⟩,fun a e2=>?_⟩
   cases e2
   exact⟨o,e,ex.2.1⟩
 | _=>exact False.elim ty
def tBM (K:Y00)(T:String)(r:V->List V->Hp->VK->Prop)(to:TE)(t:TA):TE:=fun σ H Q=>to σ H fun x H1=>tyV K T x H1/\t σ H1 fun xs H2=>r x xs H2 Q
variable {o e:Expr}{es:List Expr}{to:TE}{t:TA}{name:Str}{apos cpos:Pos}{T id:String}{r:V->List V->Hp->VK->Prop}
theorem Z2H (pa:PlainAttrs T)(slot:Slot T name id)(hty:typeOf (.builtin id)=pure (.type "method_descriptor"))(hm:MtR X id r)(ho:PE X o to)(ha:PA X (e :: es) t)
  (hbase:attributeBase o name X.env (eval o X.env)=eval o X.env:=by rfl)
  (hfew:((backTo cpos (starEach (e :: es) X.env)).all (fun x=>!x.1) && (backToKw cpos (keywordEach [] X.env)).all (fun x=>x.1.isSome)
   && decide ((e :: es).length+([]:List Keyword).length+(if ([]:List Keyword).isEmpty then 0 else 1) < 30))=true:=by rfl)
  (hline:(apos.endLine == cpos.line)=true:=by rfl) (hs:starEach (e :: es) X.env=(false,eval e X.env) :: starEach es X.env:=by rfl) (hplain:(backTo cpos (starEach es X.env)).any (·.1)=false:=by rfl) :
  PE X (.Call (.Attribute o name apos) (e :: es) [] cpos) (tBM X.K T r to t):=by
 intro pins s σ H Q I h
 refine wpAny_Call_method_late hbase hfew hline rfl (thn (ho pins s σ H _ I h) fun v s1 ⟨x,H1,I1,r1,ty,q1⟩=>?_)
 obtain⟨h1,h2⟩:=Zey I1 r1 ty
 refine⟨T,id,pa,slot,hty,h1,h2,?_⟩
 have hA:=ha cpos pins s1 σ H1 _ I1 q1
 rw[hs]at hA ⊢
 refine Calls.callWith_builtin (by show (false || (backTo cpos (starEach es X.env)).any (·.1))=false; rw[hplain] <;> rfl) (Calls.evalArgs_plain ?_)
 exact thn hA fun us s2 ⟨vs,H2,I2,r2,q2⟩=>hm pins s2 σ H2 x vs v us Q I2 r1 r2 q2
end
def MtM (X:Cx)(id:String)(r:V->List V->Hp->VK->Prop):Prop:=
 ∀ (pins:List (Addr×Obj)) (s:Shared) (σ:St) (H:Hp) (x:V) (xs:List V) (v:Value) (us:List Value) (Q:VK),Inv X pins σ H s->Z17 x v->Z13 xs us->r x xs H Q->
  wpAny (model X.prog X.w) X.A (call (.builtin id) (v :: us)) (EP X pins σ Q) X.xe s
theorem Z13.one:∀ {x:V} {us:List Value},Z13 [x] us->∃ u,us=[u]/\Z17 x u
 | _,_,.cons r .nil=>⟨_,rfl,r⟩
theorem Z13.eraseIdx:∀ {xs:List V} {us:List Value} (i:Nat),Z13 xs us->Z13 (xs.eraseIdx i) (us.eraseIdx i)
 | _,_,_,.nil=>.nil
 | _,_,0,.cons _ t=>t
 | _,_,i+1,.cons r t=>.cons r (Z13.eraseIdx i t)
theorem Z5K {α:Type}:∀ (l:List α) (i:Nat),(l.eraseIdx i).length<=l.length
 | [],_=>Y03 _
 | _ :: _,0=>Nat.le_succ _
 | _ :: r,i+1=>Nat.succ_le_succ (Z5K r i)
section
variable {X:Cx}{pins:List (Addr×Obj)}{σ:St}{H:Hp}{s:Shared}{l b:Addr}{xs ys zs:List V}
theorem Inv.lset {its its':List Value}{n:Nat}{f:Array Value->Array Value}{t':Nat}(I:Inv X pins σ H s)(hH:H l=some (.lst xs))
  (e:s.heap.get? l=some { cls:=.type "list",data:=.seq its.toArray n }) (hf:f its.toArray=its'.toArray) (hv:Z13 ys its') (hz:ys.length<=sizeLine) :
  Inv X pins σ (upd H l (.lst ys)) { s with heap:=s.heap.update l (Obj.mapSeq f),toks:=t' }:=by
 have q:=PySem.IsL.update e f
 rw[hf]at q
 refine I.write (x:=l) (e:=l) (by rw[hH]; exact trivial) (.inl rfl) (fun b' u hb hu=>(Y15 s.heap (Obj.mapSeq f) (Ne.symm hb)).trans hu) ⟨_,q⟩ ?_
 exact⟨hz,its',_,hv,q⟩
theorem Inv.lnew {its:List Value}{t':Nat}(I:Inv X pins σ H s)(hv:Z13 ys its)(hz:ys.length<=sizeLine) :
  Inv X pins σ (upd H s.heap.objs.size (.lst ys)) { s with heap:=s.heap.push { cls:=.type "list",data:=.seq its.toArray },toks:=t' }:=
 I.laid (fun _ _ q=>Y02 _ q) (Y03 _) ⟨hz,its,0,hv,Y0a _ rfl⟩
theorem Inv.fresh (I:Inv X pins σ H s):H s.heap.objs.size=none:=I.hok.fresh (Y03 _)
theorem Inv.lstM (I:Inv X pins σ H s)(hH:H l=some (.lst xs)):xs.length<=sizeLine/\∃ (its:List Value) (n:Nat),Z13 xs its/\xs.length=its.length/\s.heap.get? l=some { cls:=.type "list",data:=.seq its.toArray n }:=by
 obtain⟨z,its,n,r,e⟩:=I.hok l _ hH
 exact⟨z,its,n,r,r.length,e⟩
end
section
variable {X:Cx}
def ZcF:V->List V->Hp->VK->Prop:=fun x vs H Q=>∃ l xs y,x=.ref l/\vs=[y]/\H l=some (.lst xs)/\xs.length < sizeLine/\Q .non (upd H l (.lst (xs++[y])))
theorem Z0M:MtM X "list.append" ZcF:=by
 intro pins s σ H x vs v us Q I rx rv h
 obtain⟨l,xs,y,rfl,rfl,hH,hz,q⟩:=h
 cases rx
 obtain⟨u,rfl,ru⟩:=rv.one
 obtain⟨z,its,n,r,hl,e⟩:=I.lstM hH
 refine call_meets F.slot_list_append ⟨_,e,rfl⟩ F.entry_list_append (F.args_list_append_2 _ _) (PySem.list_append l its.toArray n u (by rw[Y0c]; lia)) ⟨e,?_⟩
 refine⟨.non,_,I.lset (its':=its++[u]) hH e (by simp) (r.append (.cons ru .nil)) ?_,rfl,q⟩
 rw[Y0e,List.length_singleton]
 lia
def Zb0:V->List V->Hp->VK->Prop:=fun x vs H Q=>∃ l xs i k y,x=.ref l/\vs=[.int i]/\H l=some (.lst xs)/\-(2 ^ 63)<=i/\i < 2 ^ 63/\seqIndex? i xs.length=some k/\xs[k]?=some y/\Q y (upd H l (.lst (xs.eraseIdx k)))
theorem Z7f:MtM X "list.pop" Zb0:=by
 intro pins s σ H x vs v us Q I rx rv h
 obtain⟨l,xs,i,k,y,rfl,rfl,hH,h1,h2,hk,hy,q⟩:=h
 cases rx
 obtain⟨u,rfl,ru⟩:=rv.one
 obtain⟨t,rfl⟩:=ru
 obtain⟨z,its,n,r,hl,e⟩:=I.lstM hH
 obtain⟨w,hw,rw'⟩:=r.get hy
 refine call_meets F.slot_list_pop ⟨_,e,rfl⟩ F.entry_list_pop (F.args_list_pop_2 _ _)
  (MeetsSeq.list_pop_at l its.toArray n i t k w (fitsIndex_both h1 h2) (by rw[Y0c,<-hl]; exact hk) (by rw[<-Array.getElem?_toList]; exact hw) (by rw[Y0c]; lia)) ⟨e,?_⟩
 refine⟨y,_,I.lset (its':=its.eraseIdx k) hH e ?_ (r.eraseIdx k) ?_,rw',q⟩
 ·show its.toArray.eraseIdxIfInBounds k=(its.eraseIdx k).toArray
  rw[List.eraseIdxIfInBounds_toArray]
 ·have:=Z5K xs k
  lia
def rCat:R2:=fun x y H Q=>∃ l b xs zs,x=.ref l/\y=.ref b/\H l=some (.lst xs)/\H b=some (.lst zs)/\xs.length+zs.length<=sizeLine/\∀ p,H p=none->Q (.ref p) (upd H p (.lst (xs++zs)))
theorem Zep:OpR X (binaryOp .Add) rCat:=by
 intro pins s σ H x y v u Q I rx ry h
 obtain⟨l,b,xs,zs,rfl,rfl,hH,hB,hz,q⟩:=h
 cases rx
 cases ry
 obtain⟨z,its,n,r,hl,e⟩:=I.lstM hH
 obtain⟨z2,its2,n2,r2,hl2,e2⟩:=I.lstM hB
 refine PySem.P.add_list e e2 ?_ (by rw[Y0c,Y0c]; lia)
 have ea:its.toArray++its2.toArray=(its++its2).toArray:=by simp
 rw[ea]
 exact⟨.ref _,_,I.lnew (t':=s.toks) (r.append r2) (by rw[Y0e]; lia),rfl,q _ I.fresh⟩
end
section
variable {prog:Program}{w:World}{A:Around}{E:Value->Shared->Prop}{s:Shared}
end
section
variable {X:Cx}
end
section
variable {κ:Type}[DecidableEq κ]
def Z3P (kvs:List (κ×V))(k:κ):Option V:=(kvs.find? fun kv=>decide (kv.1=k)).map (·.2)
def Z4C (kvs:List (κ×V))(k:κ)(v:V):List (κ×V):=
 if (kvs.any fun kv=>decide (kv.1=k))=true then kvs.map (fun kv=>if kv.1=k then (kv.1,v) else kv) else kvs++[(k,v)]
theorem Z4Y {p:κ×V}{r:List (κ×V)}{k:κ}(e:p.1=k):Z3P (p :: r) k=some p.2:=by simp[Z3P,List.find?_cons,e]
theorem Z1G {p:κ×V}{r:List (κ×V)}{k:κ}(e:¬ p.1=k):Z3P (p :: r) k=Z3P r k:=by simp[Z3P,List.find?_cons,e]
theorem Z35 (k:κ):∀ kvs:List (κ×V),(kvs.any fun kv=>decide (kv.1=k))=(Z3P kvs k).isSome
 | []=>rfl
 | p :: r=>by
  rw[List.any_cons]
  by_cases e:p.1=k
  ·simp only[Z4Y e,decide_eq_true e,Bool.true_or,Option.isSome_some]
  ·rw[Z1G e,decide_eq_false e,Bool.false_or]; exact Z35 k r
theorem Z2P (kvs:List (κ×V))(k:κ)(v:V):(Z4C kvs k v).length<=kvs.length+1:=by
 unfold Z4C
 split
 ·rw[Y08]; lia
 ·rw[Y0e,Y18,List.length_nil]; lia
theorem Z2W {kvs:List (κ×V)}{k:κ}(v:V)(h:Z3P kvs k=none):Z4C kvs k v=kvs++[(k,v)]:=by
 unfold Z4C
 rw[Z35,h]
 exact if_neg (by decide)
theorem Z6i.isSome_eq {o:Option V}{u:Option Value}(r:Z6i o u):o.isSome=u.isSome:=by
 cases o with
 | none=>cases u with
  | none=>rfl
  | some _=>exact (show False from r).elim
 | some _=>cases u with
  | none=>exact (show False from r).elim
  | some _=>rfl
theorem KV.val {kvs:List (κ×V)}{vs:List (κ×Value)}(r:KV kvs vs)(k:κ):Z6i (Z3P kvs k) (valueAt vs k):=by
 unfold KV at r
 induction r with
 | nil=>exact True.intro
 | @cons p q ps qs h t ih=>
  obtain⟨h1,h2⟩:=h
  by_cases e:p.1=k
  ·have e':q.1=k:=h1.symm.trans e
   have b:valueAt (q :: qs) k=some q.2:=by simp[valueAt,List.find?_cons,e']
   rw[Z4Y e,b]; exact h2
  ·have e':¬ q.1=k:=fun z=>e (h1.trans z)
   have b:valueAt (q :: qs) k=valueAt qs k:=by simp[valueAt,List.find?_cons,e']
   rw[Z1G e,b]; exact ih
theorem KV.any {kvs:List (κ×V)}{vs:List (κ×Value)}(r:KV kvs vs)(k:κ):(kvs.any fun kv=>decide (kv.1=k))=vs.any fun kv=>decide (kv.1=k):=by
 unfold KV at r
 induction r with
 | nil=>rfl
 | cons h t ih=>rw[List.any_cons,List.any_cons,ih,h.1]
theorem KV.repl {kvs:List (κ×V)}{vs:List (κ×Value)}(r:KV kvs vs)(k:κ){y:V}{u:Value}(ry:Z17 y u) :
  KV (kvs.map fun kv=>if kv.1=k then (kv.1,y) else kv) (vs.map fun kv=>if kv.1=k then (kv.1,u) else kv):=by
 unfold KV at r ⊢
 induction r with
 | nil=>exact .nil
 | @cons p q ps qs h t ih=>
  rw[Y13,Y13]
  refine .cons ?_ ih
  obtain⟨h1,h2⟩:=h
  by_cases e:p.1=k
  ·rw[if_pos e,if_pos (h1.symm.trans e)]; exact⟨h1,ry⟩
  ·rw[if_neg e,if_neg (fun z=>e (h1.trans z))]; exact⟨h1,h2⟩
theorem KV.put {kvs:List (κ×V)}{vs:List (κ×Value)}(r:KV kvs vs)(k:κ){y:V}{u:Value}(ry:Z17 y u):KV (Z4C kvs k y) (stored vs k u):=by
 unfold Z4C stored
 rw[r.any k]
 by_cases e:(vs.any fun kv=>decide (kv.1=k))=true
 ·rw[if_pos e,if_pos e]; exact r.repl k ry
 ·rw[if_neg e,if_neg e]; exact Paired.snoc r ⟨rfl,ry⟩
theorem KV.keys {kvs:List (κ×V)}{vs:List (κ×Value)}(r:KV kvs vs):kvs.map (·.1)=vs.map (·.1):=by
 unfold KV at r
 induction r with
 | nil=>rfl
 | cons h t ih=>rw[Y13,Y13,ih,h.1]
theorem KV.length {kvs:List (κ×V)}{vs:List (κ×Value)}(r:KV kvs vs):kvs.length=vs.length:=Paired.length r
end
theorem Z8L {P:Program}{w:World}{k:Key}{u:Value}(r:Z17 (kV k) u):(Z0W P w).is k u=true:=by
 cases k with
 | inl i=>obtain⟨t,e⟩:=(show ∃ t,u=Value.int i t from r); subst e; exact Z49 P w i t
 | inr x=>obtain⟨t,e⟩:=(show ∃ t,u=Value.str x t from r); subst e; exact Z4v P w x t
theorem Z5U {P:Program}{w:World}:∀ {ks:List Key} {us:List Value},Z13 (ks.map kV) us->ItemsAre (Z0W P w) ks us
 | [],_,r=>by rw[List.map_nil]at r; cases r; exact .nil
 | k :: ks,_,r=>by
  rw[Y13]at r
  cases r with
  | cons h t=>exact .cons (Z8L h) (Z5U t)
abbrev KT (H:Hp):List (List Key×V)->List (List Key×Addr×Value)->Prop:=Paired fun p q=>p.1=q.1/\H q.2.1=some (.tup (p.1.map kV))/\Z17 p.2 q.2.2
theorem KT.val {H:Hp}{kvs:List (List Key×V)}{xs:List (List Key×Addr×Value)}(r:KT H kvs xs)(k:List Key):Z6i (Z3P kvs k) ((atKey xs k).map (·.2)):=by
 induction r with
 | nil=>exact True.intro
 | @cons p q ps qs h t ih=>
  obtain⟨h1,_,h2⟩:=h
  by_cases e:p.1=k
  ·have e':q.1=k:=h1.symm.trans e
   have b:atKey (q :: qs) k=some q.2:=by simp[atKey,List.find?_cons,e']
   rw[Z4Y e,b]; exact h2
  ·have e':¬ q.1=k:=fun z=>e (h1.trans z)
   have b:atKey (q :: qs) k=atKey qs k:=by simp[atKey,List.find?_cons,e']
   rw[Z1G e,b]; exact ih
theorem KT.repl {H:Hp}{kvs:List (List Key×V)}{xs:List (List Key×Addr×Value)}(r:KT H kvs xs)(k:List Key){y:V}{u:Value}(ry:Z17 y u) :
  KT H (kvs.map fun kv=>if kv.1=k then (kv.1,y) else kv) (xs.map (putAt k u)):=by
 induction r with
 | nil=>exact .nil
 | @cons p q ps qs h t ih=>
  rw[Y13,Y13]
  refine .cons ?_ ih
  obtain⟨h1,h2,h3⟩:=h
  unfold putAt
  by_cases e:p.1=k
  ·rw[if_pos e,if_pos (h1.symm.trans e)]; exact⟨h1,h2,ry⟩
  ·rw[if_neg e,if_neg (fun z=>e (h1.trans z))]; exact⟨h1,h2,h3⟩
theorem KT.put {H:Hp}{kvs:List (List Key×V)}{xs:List (List Key×Addr×Value)}(r:KT H kvs xs)(k:List Key){b:Addr}{y:V}{u:Value}(hb:H b=some (.tup (k.map kV)))(ry:Z17 y u) :
  KT H (Z4C kvs k y) (storedH xs k b u):=by
 have e:(kvs.any fun kv=>decide (kv.1=k))=(atKey xs k).isSome:=by
  rw[Z35,(r.val k).isSome_eq,Option.isSome_map]
 unfold Z4C storedH
 rw[e]
 by_cases q:(atKey xs k).isSome=true
 ·rw[if_pos q,if_pos q]; exact r.repl k ry
 ·rw[if_neg q,if_neg q]; exact Paired.snoc r ⟨rfl,hb,ry⟩
theorem KT.keeps {H H':Hp}{kvs:List (List Key×V)}{xs:List (List Key×Addr×Value)}(r:KT H kvs xs)(ht:∀ b ys,H b=some (.tup ys)->H' b=some (.tup ys)):KT H' kvs xs:=
 Paired.mapP r fun _ _ z=>⟨z.1,ht _ _ z.2.1,z.2.2⟩
section
variable {P:Program}{w:World}{H:Hp}{h:Heap}{a:Addr}
theorem ZeF {u:HO}(ok:HOk P w H h)(e:Rd H a u):Z1j P w H h a u:=e.ok ok
theorem Zat {kvs:List (Key×V)}(ok:HOk P w H h)(e:Rd H a (.dK kvs)):kvs.length<=sizeLine/\(a == sysModules)=false/\∃ vs,KV kvs vs/\h.DictOf (Z0W P w) a vs:=
 show Z1j P w H h a (.dK kvs) from ZeF ok e
theorem Zcl {kvs:List (Key×V)}(ok:HOk P w H h)(e:H a=some (.dK kvs)):kvs.length<=sizeLine/\(a == sysModules)=false/\∃ vs,KV kvs vs/\h.DictOf (Z0W P w) a vs:=Zat ok (.inl e)
theorem Z7o {ks:List Key}(ok:HOk P w H h)(e:H a=some (.tup (ks.map kV))):(tupleKind (Z0W P w)).is h ks a:=by
 obtain⟨_,its,r,o,h1,h2,n,h3⟩:=(show Z1j P w H h a (.tup (ks.map kV)) from ok a _ e)
 exact⟨o,its.toArray,n,h1,h2,h3,by simpa using Z5U r⟩
theorem Z9Q {kvs:List (List Key×V)}(ok:HOk P w H h)(e:Rd H a (.dT kvs)):kvs.length<=sizeLine/\(a == sysModules)=false/\
  ∃ xs,KT H kvs xs/\h.DictOfH (tupleKind (Z0W P w)) a xs:=by
 obtain⟨z,y,xs,r,o,es,ep,h1,h2,h3,h4,h5⟩:=(show Z1j P w H h a (.dT kvs) from ZeF ok e)
 refine⟨z,y,xs,r,o,es,ep,h1,h2,h3,h4,fun x hx=>?_,h5⟩
 have all:∀ {l:List (List Key×V)} {m:List (List Key×Addr×Value)},KT H l m->∀ x∈m,(tupleKind (Z0W P w)).is h x.1 x.2.1:=by
  intro l m q
  induction q with
  | nil=>intro x hx; exact nomatch hx
  | @cons p q ps qs hq t ih=>
   intro x hx
   rcases Y0v.mp hx with e | hx
   ·subst e
    exact Z7o ok (by rw[<-hq.1]; exact hq.2.1)
   ·exact ih x hx
 exact all r x hx
theorem ZfZ {kvs:List (List Key×V)}(ok:HOk P w H h)(e:H a=some (.dT kvs)):kvs.length<=sizeLine/\(a == sysModules)=false/\
  ∃ xs,KT H kvs xs/\h.DictOfH (tupleKind (Z0W P w)) a xs:=Z9Q ok (.inl e)
end
def Z7T (H:Hp)(a:Addr)(y:V)(r:Option V):Prop:=
 (∃ kvs k,Rd H a (.dK kvs)/\y=kV k/\r=Z3P kvs k)\/∃ kvs k b,Rd H a (.dT kvs)/\y=.ref b/\H b=some (.tup (k.map kV))/\r=Z3P kvs k
def Zea (H:Hp)(a:Addr)(y v:V)(H':Hp):Prop:=
 (∃ kvs k,H a=some (.dK kvs)/\y=kV k/\kvs.length < sizeLine/\H'=upd H a (.dK (Z4C kvs k v)))\/
 ∃ kvs k b,H a=some (.dT kvs)/\y=.ref b/\H b=some (.tup (k.map kV))/\kvs.length < sizeLine/\H'=upd H a (.dT (Z4C kvs k v))
theorem Z7T.k {H:Hp}{a:Addr}{kvs:List (Key×V)}{k:Key}(e:H a=some (.dK kvs)):Z7T H a (kV k) (Z3P kvs k):=.inl ⟨kvs,k,.inl e,rfl,rfl⟩
theorem Zea.k {H:Hp}{a:Addr}{kvs:List (Key×V)}{k:Key}{v:V}(e:H a=some (.dK kvs))(hl:kvs.length < sizeLine):Zea H a (kV k) v (upd H a (.dK (Z4C kvs k v))):=.inl ⟨kvs,k,e,rfl,hl,rfl⟩
section
variable {X:Cx}{pins:List (Addr×Obj)}{σ:St}{H:Hp}{s:Shared}{a:Addr}{y v:V}{u r:Value}{o:Option V}{A:Around}{E:Value->Shared->Prop}
theorem Inv.big (I:Inv X pins σ H s):sysModules < s.heap.objs.size:=by
 have h:mainGlobals < s.heap.objs.size:=(I.mod.glob.keeps I.bk).lt
 exact Nat.lt_trans (by decide) h
theorem Z9d {Q:Value->Shared->Prop}(hu:A.units+1 < cLine)(I:Inv X pins σ H s)(g:Z7T H a y (some v))(ry:Z17 y u)(h:∀ w' s',Inv X pins σ H s'->Z17 v w'->Q w' s') :
  wpAny (model X.prog X.w) A (getItem (.ref a) u) Q E s:=by
 rcases g with ⟨kvs,k,e,ey,l⟩ | ⟨kvs,k,b,e,ey,eb,l⟩
 ·subst ey
  obtain⟨z,hd,vs,rel,dd⟩:=Zat I.hok e
  obtain⟨w',hw,rw'⟩:=Z6i.some_of (v:=v) (o:=valueAt vs k) (by rw[l]; exact rel.val k)
  exact wpAny_getItem_of (Z8L ry) dd.mapOf hw (h w' _ (I.tok _) rw')
 ·subst ey
  cases (show u=Value.ref b from ry)
  obtain⟨z,hd,xs,rel,dd⟩:=Z9Q I.hok e
  obtain⟨w',hw,rw'⟩:=Z6i.some_of (v:=v) (o:=(atKey xs k).map (·.2)) (by rw[l]; exact rel.val k)
  obtain⟨p,hp,hp2⟩:=Option.map_eq_some_iff.mp hw
  refine wpAny_getItem_heap (tupleKind_room_in1 hu) (Z7o I.hok eb) dd hp ?_
  rw[hp2]
  exact h w' _ (I.tok _) rw'
theorem d_in {Q:Value->Shared->Prop}(hu:A.units+1 < cLine)(I:Inv X pins σ H s)(g:Z7T H a y o)(ry:Z17 y u)(h:∀ s',Inv X pins σ H s'->Q (.bool o.isSome) s') :
  wpAny (model X.prog X.w) A (compareOp .In u (.ref a)) Q E s:=by
 rcases g with ⟨kvs,k,e,ey,l⟩ | ⟨kvs,k,b,e,ey,eb,l⟩
 ·subst ey
  obtain⟨z,hd,vs,rel,dd⟩:=Zat I.hok e
  refine wpAny_in_of (Z8L ry) hd dd.mapOf ?_
  rw[<-(rel.val k).isSome_eq,<-l]
  exact h _ (I.tok _)
 ·subst ey
  cases (show u=Value.ref b from ry)
  obtain⟨z,hd,xs,rel,dd⟩:=Z9Q I.hok e
  refine wpAny_in_heap (tupleKind_room_in1 hu) (Z7o I.hok eb) hd dd ?_
  have q:=(rel.val k).isSome_eq
  rw[Option.isSome_map]at q
  rw[<-q,<-l]
  exact h _ (I.tok _)
theorem Z6M {h':Heap}{t':Nat}{ob:HO}(I:Inv X pins σ H s)(mu:Mut (H a))(hs:Heap.SameBut a s.heap h')(he:∃ q,h'.get? a=some q)(new:Z1j X.prog X.w (upd H a ob) h' a ob) :
  Inv X pins σ (upd H a ob) { s with heap:=h',toks:=t' }:=
 I.write (x:=a) (e:=a) mu (.inl rfl) (fun b q hb z=>(hs.2 b hb).trans z) he new
theorem Zb2 {P:Program}{w:World}{H':Hp}{h':Heap}{kvs:List (Key×V)}{vs:List (Key×Value)}(z:kvs.length<=sizeLine)(hd:(a == sysModules)=false)(rel:KV kvs vs)(dd:h'.DictOf (Z0W P w) a vs) :
  Z1j P w H' h' a (.dK kvs):=⟨z,hd,vs,rel,dd⟩
theorem Z87 {H':Hp}{Q:Unit->Shared->Prop}(hu:A.units+1 < cLine)(I:Inv X pins σ H s)(g:Zea H a y v H')(ry:Z17 y u)(rv:Z17 v r)(h:∀ s',Inv X pins σ H' s'->Q () s') :
  wpAny (model X.prog X.w) A (setItem (.ref a) u r) Q E s:=by
 rcases g with ⟨kvs,k,e,ey,l,eH⟩ | ⟨kvs,k,b,e,ey,eb,l,eH⟩
 ·subst ey eH
  obtain⟨z,hd,vs,rel,dd⟩:=Zcl I.hok e
  have hz:vs.length<=sizeLine:=by rw[<-rel.length]; exact z
  have hl:(Z4C kvs k v).length<=sizeLine:=by have:=Z2P kvs k v; lia
  refine wpAny_setItem_pairs (hsz:=hz) (Z8L ry) dd fun h' dd' hs=>h _ ?_
  have he:∃ q,h'.get? a=some q:=let ⟨q,_,_,hq,_⟩:=dd'; ⟨q,hq⟩
  exact Z6M I (by rw[e]; exact True.intro) hs he (Zb2 hl hd (rel.put k rv) dd')
 ·subst ey eH
  cases (show u=Value.ref b from ry)
  obtain⟨z,hd,xs,rel,dd⟩:=ZfZ I.hok e
  have hz:xs.length<=sizeLine:=by rw[<-Paired.length rel]; exact z
  have hl:(Z4C kvs k v).length<=sizeLine:=by have:=Z2P kvs k v; lia
  refine wpAny_setItem_heap (hsz:=hz) (tupleKind_room_in1 hu) (Z7o I.hok eb) dd fun h' dd' hs=>h _ ?_
  obtain⟨q,es,ep,hq,h2,h3,h4,_,h5⟩:=dd'
  refine Z6M I (by rw[e]; exact True.intro) hs ⟨q,hq⟩ ⟨hl,hd,_,(rel.put k eb rv).keeps fun c ys ec=>?_,q,es,ep,hq,h2,h3,h4,h5⟩
  rw[Z0i (ZfM ec e (fun z=>nomatch z))]
  exact ec
end
section
variable {X:Cx}{pins:List (Addr×Obj)}{σ:St}{H:Hp}{s:Shared}{a:Addr}{kvs:List (Key×V)}{k:Key}{u:Value}{A:Around}{E:Value->Shared->Prop}
end
def NoSl (i:Expr):Prop:=∀ ov iv,subscripted i false ov iv=operate [ov,iv] (getItem ov iv)
theorem Zcw {prog:Program}{w:World}{A:Around}{E:Value->Shared->Prop}{s:Shared}{env:Env}{value slice:Expr}{pos:Pos}{T id:String}{Q:Value->Shared->Prop}
  (hl:typeLookup (.type T) "__getitem__"=pure (some (.builtin id))) (hs:NoSl slice)
  (h:wpAny (model prog w) A (eval value env) (fun o s₁=>wpAny (model prog w) A (eval slice env) (fun i s₂=>s₂.TypeIs o T/\wpAny (model prog w) A (getItem o i) Q E s₂) E s₁) E s) :
  wpAny (model prog w) A (eval (.Subscript value slice pos) env) Q E s:=by
 refine Subscript_ (wpAny_mono h (fun o s₁ h₁=>wpAny_mono h₁ (fun i s₂ h₂=>?_) fun _ _ x=>x) fun _ _ x=>x)
 obtain⟨hT,h₂⟩:=h₂
 unfold subscriptTail
 refine wpAny_bind ?_
 rw[getitemInPython_of_ne hT.not_modules]
 refine wpAny_bind (wpAny_specialOf hT hl ?_)
 have fin:wpAny (model prog w) A (subscripted slice false o i) (fun r s₃=>wpAny (model prog w) A (letTemporaryGo value o r >>= fun _=>pure r) Q E s₃) E s₂:=by
  rw[hs o i]
  exact wpAny_operating (wpAny_mono h₂ (fun r s₃ h₃=>wpAny_bind (wpAny_letTemporaryGo (wpAny_pure h₃))) fun _ _ x=>x)
 first
  | exact wpAny_pure (wpAny_bind fin)
  | exact wpAny_bind (wpAny_pure (wpAny_bind fin))
  | exact wpAny_bind fin
theorem Z6I {X:Cx}{pins:List (Addr×Obj)}{σ:St}{H:Hp}{s:Shared}{a:Addr}{y:V}{o:Option V}(I:Inv X pins σ H s)(g:Z7T H a y o):s.TypeIs (.ref a) "dict":=by
 rcases g with ⟨kvs,k,e,_,_⟩ | ⟨kvs,k,b,e,_,_,_⟩
 ·obtain⟨_,_,vs,_,dd⟩:=Zat I.hok e
  exact dd.typeIs
 ·obtain⟨_,_,xs,_,dd⟩:=Z9Q I.hok e
  exact dd.typeIs
def Ze6 (td ty:TE):TE:=fun σ H Q=>td σ H fun x H1=>ty σ H1 fun y H2=>∃ a v,x=.ref a/\Z7T H2 a y (some v)/\Q v H2
def tDIn (ty td:TE):TE:=fun σ H Q=>ty σ H fun y H1=>td σ H1 fun x H2=>∃ a o,x=.ref a/\Z7T H2 a y o/\Q (.bl o.isSome) H2
def Zfn (td ty tv:TE):TS:=fun D σ H=>tv σ H fun v H1=>td σ H1 fun x H2=>ty σ H2 fun y H3=>∃ a H4,x=.ref a/\Zea H3 a y v H4/\D.nx σ H4
section
variable {X:Cx}{o i e value:Expr}{pos pos' tpos:Pos}{td ty tv:TE}
theorem Z8j (hu:X.A.units+1 < cLine)(ho:PE X o td)(hi:PE X i ty)(hs:NoSl i):PE X (.Subscript o i pos) (Ze6 td ty):=by
 intro pins s σ H Q I h
 refine Zcw PySem.F.slot_dict_getitem.lookup hs (thn (ho pins s σ H _ I h) fun u s1 ⟨x,H1,I1,rx,q1⟩=>thn (hi pins s1 σ H1 _ I1 q1) fun iv s2 ⟨y,H2,I2,ry,a,v,ex,g,q2⟩=>?_)
 subst ex
 obtain rfl:u=Value.ref a:=rx
 exact⟨Z6I I2 g,Z9d hu I2 g ry fun w' s3 I3 rw'=>⟨v,H2,I3,rw',q2⟩⟩
theorem Ze0 (hu:X.A.units+1 < cLine)(hi:PE X i ty)(ho:PE X o td):PC X .In i o (tDIn ty td):=by
 intro pins s σ H Q I h
 refine thn (hi pins s σ H _ I h) fun iv s1 ⟨y,H1,I1,ry,q1⟩=>thn (ho pins s1 σ H1 _ I1 q1) fun u s2 ⟨x,H2,I2,rx,a,ov,ex,g,q2⟩=>?_
 subst ex
 obtain rfl:u=Value.ref a:=rx
 exact d_in hu I2 g ry fun s3 I3=>⟨.bl ov.isSome,H2,I3,rfl,q2⟩
theorem ZcB (hu:X.A.units+1 < cLine)(ho:PE X o td)(hi:PE X i ty)(hv:PE X value tv)(hs:swapsWith value (some (.Subscript o i pos')) pos.line X.env=pure false) :
  PS X (.Assign [.Subscript o i pos'] value pos) (Zfn td ty tv):=by
 intro pins s σ H D I h
 refine wpAny_Assign_Subscript (thn (hv pins s σ H _ I h) fun r s1 ⟨v,H1,I1,rv,q1⟩=>thn (ho pins s1 σ H1 _ I1 q1) fun u s2 ⟨x,H2,I2,rx,q2⟩=>thn (hi pins s2 σ H2 _ I2 q2) fun iv s3 ⟨y,H3,I3,ry,a,H4,ex,g,q3⟩=>?_) hs
 subst ex
 obtain rfl:u=Value.ref a:=rx
 exact Z87 hu I3 g ry rv fun s4 I4=>⟨σ,H4,I4,q3⟩
end
theorem Z76 {P:Program}{w:World}{H:Hp}(h:Heap)(hb:sysModules < h.objs.size):Z1j P w H (h.push { cls:=.type "dict",data:=.dict #[] }) h.objs.size (.dK []):=
 ⟨Y0s _,beq_eq_false_iff_ne.mpr (Ne.symm (Y0k hb)),[],.nil,Heap.DictOf.new h⟩
def ZdK:TE:=fun _ H Q=>∀ p,H p=none->Q (.ref p) (upd H p (.dK []))
section
variable {X:Cx}{pos:Pos}
theorem Z9L:PE X (.Dict [] [] pos) ZdK:=fun pins s σ H Q I h=>
 wpAny_Dict_empty ⟨.ref s.heap.objs.size,_,I.laid (a:=s.heap.objs.size) (o:=.dK []) (t':=s.toks) (fun _ _ q=>Y02 _ q) (Y03 _) (Z76 s.heap I.big),rfl,h _ (I.hok.fresh (Y03 _))⟩
end
def Z8N:List (TE×TE)->St->Hp->(List (V×V)->Hp->Prop)->Prop
 | [],_,H,Q=>Q [] H
 | (tk,tv) :: r,σ,H,Q=>tk σ H fun x H1=>tv σ H1 fun y H2=>Z8N r σ H2 fun ps H3=>Q ((x,y) :: ps) H3
abbrev VV:List (V×V)->List (Value×Value)->Prop:=Paired fun p q=>Z17 p.1 q.1/\Z17 p.2 q.2
def PPs (X:Cx)(pos:Pos)(keys:List (Option Expr))(values:List Expr)(trs:List (TE×TE)):Prop:=
 ∀ (pins:List (Addr×Obj)) (s:Shared) (σ:St) (H:Hp) (Q:List (V×V)->Hp->Prop),Inv X pins σ H s->Z8N trs σ H Q->
  wpAny (model X.prog X.w) X.A (evalPairs (pairTrees keys values X.env pos)) (fun vs s'=>∃ ps H',Inv X pins σ H' s'/\VV ps vs/\Q ps H') X.xe s
theorem ZbE {X:Cx}{pos:Pos}:PPs X pos [] [] []:=fun pins s σ H Q I h=>pairTrees_nil_walk ⟨[],H,I,.nil,h⟩
theorem Z3S {X:Cx}{pos:Pos}{k v:Expr}{ks:List (Option Expr)}{vs:List Expr}{tk tv:TE}{trs:List (TE×TE)}(hk:PE X k tk)(hv:PE X v tv)(hr:PPs X pos ks vs trs) :
  PPs X pos (some k :: ks) (v :: vs) ((tk,tv) :: trs):=fun pins s σ H Q I h=>
 pairTrees_cons_walk (thn (hk pins s σ H _ I h) fun u s1 ⟨x,H1,I1,rx,q1⟩=>thn (hv pins s1 σ H1 _ I1 q1) fun w2 s2 ⟨y,H2,I2,ry,q2⟩=>
  thn (hr pins s2 σ H2 _ I2 q2) fun ws s3 ⟨ps,H3,I3,rel,q3⟩=>⟨(x,y) :: ps,H3,I3,.cons ⟨rx,ry⟩ rel,q3⟩)
def Z4J (kvs more:List (Key×V)):List (Key×V):=more.foldl (fun acc kv=>Z4C acc kv.1 kv.2) kvs
theorem KV.merge:∀ {more:List (Key×V)} {rs:List (Key×Value)} {kvs:List (Key×V)} {vs:List (Key×Value)},KV more rs->KV kvs vs->KV (Z4J kvs more) (merged vs rs):=by
 intro more rs kvs vs r
 unfold KV at r
 induction r generalizing kvs vs with
 | nil=>intro q; exact q
 | @cons p q ps qs h t ih=>
  intro r0
  have e:KV (Z4C kvs p.1 p.2) (stored vs q.1 q.2):=by
   have:=r0.put p.1 h.2
   rw[<-h.1]; exact this
  exact ih e
theorem Z33:∀ (more kvs:List (Key×V)),(Z4J kvs more).length<=kvs.length+more.length
 | [],kvs=>by show kvs.length<=kvs.length+0; lia
 | p :: r,kvs=>by
  have h1:=Z33 r (Z4C kvs p.1 p.2)
  have h2:=Z2P kvs p.1 p.2
  show (Z4J (Z4C kvs p.1 p.2) r).length<=_
  rw[Y18]; lia
theorem Z4G {P:Program}{w:World}:∀ {kvs:List (Key×V)} {ws:List (Value×Value)},VV (kvs.map fun kv=>(kV kv.1,kv.2)) ws->∃ rs,Carries (Z0W P w) ws rs/\KV kvs rs
 | [],_,r=>by rw[List.map_nil]at r; cases r; exact⟨[],True.intro,.nil⟩
 | p :: kvs,_,r=>by
  rw[Y13]at r
  cases r with
  | @cons a b as bs h t=>
   obtain⟨rs,c,q⟩:=Z4G (P:=P) (w:=w) t
   obtain⟨b1,b2⟩:=b
   exact⟨(p.1,b2) :: rs,⟨Z8L h.1,rfl,c⟩,.cons ⟨rfl,h.2⟩ q⟩
def Zg7 (trs:List (TE×TE)):TE:=fun σ H Q=>∀ p,H p=none->Z8N trs σ (upd H p (.dK [])) fun ps H2=>H2 p=some (.dK [])/\∃ kvs:List (Key×V),ps=kvs.map (fun kv=>(kV kv.1,kv.2))/\kvs.length<=15/\Q (.ref p) (upd H2 p (.dK (Z4J [] kvs)))
theorem Zcq {X:Cx}{pos:Pos}{keys:List (Option Expr)}{values:List Expr}{trs:List (TE×TE)}(h:PPs X pos keys values trs)(hall:keys.all (·.isSome)=true)(hl:keys.length=values.length)(h0:keys≠[])
  (h15:keys.length<=15):PE X (.Dict keys values pos) (Zg7 trs):=by
 intro pins s σ H Q I q
 have hn:=I.hok.fresh (Y03 s.heap.objs.size)
 have I1:=I.laid (a:=s.heap.objs.size) (o:=.dK []) (h':=s.heap.push { cls:=.type "dict",data:=.dict #[] }) (t':=s.toks) (fun _ _ q=>Y02 _ q) (Y03 _) (Z76 s.heap I.big)
 refine wpAny_Dict_walk (knd:=Z0W X.prog X.w) hall hl h0 h15 (thn (h pins _ σ _ _ I1 (q _ hn)) fun ws s2 ⟨ps,H2,I2,rel,e,kvs,ep,lk,q2⟩=>?_)
 subst ep
 obtain⟨rs,c,rk⟩:=Z4G (P:=X.prog) (w:=X.w) rel
 obtain⟨z,hd,vs0,r0,dd⟩:=Zcl I2.hok e
 cases r0
 refine⟨rs,c,dd,fun h' dd' hs=>⟨.ref s.heap.objs.size,_,?_,rfl,q2⟩⟩
 have hz:(Z4J [] kvs).length<=sizeLine:=by
  have h1:=Z33 kvs []
  rw[List.length_nil]at h1
  rw[sizeLine_eq]; lia
 have he:∃ q,h'.get? s.heap.objs.size=some q:=let ⟨q,_,_,hq,_⟩:=dd'; ⟨q,hq⟩
 exact Z6M I2 (by rw[e]; exact True.intro) hs he (Zb2 hz hd (rk.merge .nil) dd')
section
variable {X:Cx}{pins:List (Addr×Obj)}{σ:St}{H:Hp}{s:Shared}{a:Addr}{y d:V}{u r:Value}{o:Option V}{A:Around}{E:Value->Shared->Prop}
end
section
variable {X:Cx}{o e f:Expr}{apos cpos:Pos}{td ty tx:TE}
end
section
variable {X:Cx}{pins:List (Addr×Obj)}{σ:St}{H:Hp}{s:Shared}{a:Addr}{kvs:List (Key×V)}{A:Around}{E:Value->Shared->Prop}
end
section
variable {X:Cx}{pins:List (Addr×Obj)}{σ:St}{H:Hp}{s:Shared}{a:Addr}{y:V}{u:Value}{A:Around}{E:Value->Shared->Prop}
end
end L2
namespace Att
open PySem PySem.W PySem.Calls PyProof.Rows
theorem Z4o {P:Params}{h:Heap}:∀ (ns:List Int) (vs:List Value),WellAll P h vs (ns.map WData.int)->IntsAre vs ns:=by
 intro ns
 induction ns with
 | nil=>
  intro vs w
  rw[List.map_nil]at w
  cases w
  exact .nil
 | cons n ns ih=>
  intro vs w
  rw[Y13]at w
  cases w with
  | cons a b=>
   cases a
   exact .cons _ _ (ih _ b)
theorem Z81 {l:OpenLaw}{n:Nat}(hn:l.most=some n){P:Params}{h:Heap}{args:List WData}{vals:List Value}
  (hpre:l.row.toRowW.claim.pre args=true) (hwl:WellAll P h vals args) :
  ∃ a vs ns,vals=[Value.ref a]/\args=[WData.list (ns.map WData.int)]/\h.get? a=some { cls:=.type "list",data:=.seq vs.toArray }/\IntsAre vs ns/\ns.length<=n:=by
 have hsh:WShape.hasAll [] args [.list .int]=true:=(pre_splitW hpre).1
 have hc:l.pre.holds [] { args:=args }=true:=(pre_splitW hpre).2
 obtain⟨d,r,rfl,h1,h2⟩:=hasAllW_cons hsh
 obtain rfl:=hasAllW_nil h2
 obtain⟨xs,rfl,h3⟩:=hasW_list h1
 obtain⟨ns,rfl⟩:=items_int h3
 have hlen:ns.length<=n:=by
  unfold OpenLaw.pre at hc
  have h4:(WTm.not (.lt (.lit (.int (n:Int))) (.len (.arg 0)))).holds [] { args:=[.list (ns.map .int)] }=true:=by
   have h4:=(holds_andW hc).1
   rw[hn]at h4
   exact h4
  have h5:=condW_of h4 (w_not (w_lt w_lit (w_len_list (w_arg rfl))))
  rw[Y08]at h5
  refine Nat.le_of_not_lt fun q=>?_
  have q':(n:Int) < ((ns.length:Nat):Int):=by lia
  first
   | (rw[decide_eq_true q']at h5; exact absurd h5 (by decide))
   | (simp at h5; lia)
 cases hwl with
 | cons w1 w2=>
  cases w2
  cases w1 with
  | list ho hall=>exact⟨_,_,ns,rfl,rfl,ho,Z4o ns _ hall,hlen⟩
theorem Z9k (l:OpenLaw)(args:List WData):l.row.toRowW.claim.post args (.bool true) args=true:=
 postW_of (r:=l.row.toRowW) (X:=(true == true))
  (show WShape.has [] (.bool true) .bool=true by first | rfl | decide | simp[WShape.has,WShape.arms,WShape.armsAll])
  (show (WTm.eq .res (.lit (.bool true))).value [] { args:=args,res:=some (.bool true),after:=args }=some (.bool (true == true)) from w_eq_bool (w_res rfl) w_lit) rfl
theorem attach_call {l:OpenLaw}{n:Nat}{q:Program}{loose:List Str}{XP:(Str->Option Value)->Heap->Prop}{YP:World->Heap->Prop}{d:DefRec}
  (hn:l.most=some n) (hdf:d.params.defaults=[])
  (call:∀ (w:World) (s₀ s₁:Shared) (mg mb:Str->Option Value) (fa:Addr) (o:Obj) (pm cd doc:Value) (a:Addr) (vs:List Value) (ns:List Int),
   Ground q loose [] XP w s₀ mg mb s₁.heap->YP w s₁.heap->
   s₁.heap.get? fa=some o->o.data=.func (docDef d.name d.params d.body d.scope pm cd doc)->s₁.heap.CodeRec cd d.name->mg d.name=some (.ref fa)->
   s₁.heap.get? a=some { cls:=.type "list",data:=.seq vs.toArray }->IntsAre vs ns->ns.length<=n->s₁.gens=#[]->
   codeAny (model l.prog w) callerA (.call (.ref fa) ⟨[.ref a],[]⟩) (fun r s'=>r=.ok (.ret (.bool true))/\OldK s₁.heap s'.heap/\s'.os=s₁.os/\AllBare s'.gens) s₁) :
  WalkO q loose XP YP l.row.toRowW d [] (fun f vs=>PySem.call f vs):=by
 intro w s₀ s₁ mg mb G Y fa o pm cd doc dV kV ho hd hcd hD hmg hg args vals as hpre hlay hrd hwl hlo
 obtain rfl:dV=.none:=Dflts.none hD hdf
 obtain rfl:kV=.none:=Dflts.noKw hD
 obtain⟨a,vs,ns,rfl,rfl,hobj,hints,hlen⟩:=Z81 hn hpre hwl
 refine enter_call (codeAny_mono (call w s₀ s₁ mg mb fa o pm cd doc a vs ns G Y ho (fd_plain hd) hcd hmg hobj hints hlen hg) fun r s' hq=>?_)
 obtain⟨rfl,h2,h3,h4⟩:=hq
 exact⟨.inl ⟨.bool true,.bool true,[],rfl,fun _=>rfl,.bool true,Z9k l _,fun _=>⟨List.Pairwise.nil,fun _ hm=>(nomatch hm)⟩⟩,h2,h3,h4⟩
section
variable {prog:Program}{w:World}{A:Around}{E:Value->Shared->Prop}{s:Shared}{K:Frag}
end
end Att
namespace L2
open PySem PySem.Spec PyProof.Rows
theorem Z4a:∀ {vs:List Value} {ns:List Int},IntsAre vs ns->Z13 (ns.map V.int) vs
 | _,_,.nil=>.nil
 | _,_,.cons n t h=>.cons ⟨t,rfl⟩ (Z4a h)
def ZfX (H:Hp):Prop:=∀ b,H b=none\/∃ o xs,H b=some (.frz o (.lst xs))
theorem Zas {P:Program}{w:World}{K:Y00}{mg mb:Str->Option Value}{CX:CXT}{k:Nat}{fa a:Addr}{fd:FuncData}{x:Str}{sp:Sp}{s₁:Shared}{vs:List Value}{ns:List Int}
  (KX:K.In s₁.heap) (hns:s₁.heap.Ns mainGlobals mg) (hb:s₁.heap.Ns builtinsNs mb) (hbb:∀ x:Str,x≠"__name__"->mb x=bootBuiltins x) (hlim:s₁.heap.NoLimit) (hg:s₁.gens=#[])
  (ha:s₁.heap.get? a=some { cls:=.type "list",data:=.seq vs.toArray }) (hi:IntsAre vs ns) (hl:ns.length<=sizeLine) (hr:Z1g k callerA)
  (F:∀ base:Heap,K.In base->base.Ns mainGlobals mg->Z0x P w K mg base CX k fa fd [x] sp) (hbind:∀ (s:Shared) (u:Value),BindsTo s fd ⟨[u],[]⟩ [(x,u)])
  (hsp:∀ H:Hp,ZfX H->SqL K H a (ns.map V.int)->sp [.ref a] H (fun v _=>v=.bl true) fun _ _ _=>False)
  (hCX:∀ H e s',CX [] H s₁ (fun _ _ _=>False) e s'->False) :
  codeAny (model P w) callerA (.call (.ref fa) ⟨[.ref a],[]⟩) (fun r s'=>r=.ok (.ret (.bool true))/\OldK s₁.heap s'.heap/\s'.os=s₁.os/\AllBare s'.gens) s₁:=by
 have rv:=Z4a hi
 have lenV:=hi.length
 have core:∀ H:Hp,ZfX H->SqL K H a (ns.map V.int)->HOk P w H s₁.heap->(∀ b,H b≠none->b=a)->(H a≠none->K.lookup a=none)->
   codeAny (model P w) callerA (.call (.ref fa) ⟨[.ref a],[]⟩) (fun r s'=>r=.ok (.ret (.bool true))/\OldK s₁.heap s'.heap/\s'.os=s₁.os/\AllBare s'.gens) s₁:=by
  intro H hO hS hok hA hK
  have base_of:∀ {b:Addr} {o:Obj},s₁.heap.get? b=some o->H b=none->(Za5 s₁.heap H).get? b=some o:=fun e n=>ZaE e n
  have noA:∀ {b:Addr} {o:Obj} {es:Array DictEntry} {ep:Nat},s₁.heap.get? b=some o->o.data=.dict es ep->H b=none:=fun {b o es ep} e d=>by
   cases q:H b with
   | none=>rfl
   | some u=>
    have e':b=a:=hA b (by rw[q]; simp)
    subst e'
    rw[ha]at e; cases e
    have d':Data.seq vs.toArray _=Data.dict es ep:=d
    cases d'
  have nsK:∀ {b:Addr} {m:Str->Option Value},s₁.heap.Ns b m->(Za5 s₁.heap H).Ns b m:=fun {b m} ⟨o,es,ep,e,d,r⟩=>⟨o,es,ep,base_of e (noA e d),d,r⟩
  have hKb:K.In (Za5 s₁.heap H):=fun b o e=>base_of (KX b o e) (by
   cases q:H b with
   | none=>rfl
   | some u=>
    have e':b=a:=hA b (by rw[q]; simp)
    subst e'
    rw[hK (by rw[q]; simp)]at e; cases e)
  have hM:Mod K mg (Za5 s₁.heap H):=⟨hKb,nsK hns,⟨mb,nsK hb,hbb⟩,let ⟨mc,h1,h2⟩:=hlim; ⟨mc,nsK h1,h2⟩⟩
  have e0:ZcD P w K mg (Za5 s₁.heap H) callerA [] s₁ H:=⟨rfl,hM,fun b o e=>ZbI e,Nat.le_of_eq (Z86 _ _),trivial,fun b hb=>absurd (show b∈([]:List Addr) from hb) (by simp),hok,.of_eq hg⟩
  refine codeAny_mono ((F _ hKb (nsK hns)).run callerA [] s₁ H ⟨[.ref a],[]⟩ [.ref a] [.ref a] _ _ hr e0 (hbind s₁ (.ref a)) (.cons rfl .nil) (hsp H hO hS)) fun r s' h=>?_
  cases r with
  | error e=>exact (hCX H e s' h).elim
  | ok fl=>
   cases fl with
   | next=>exact False.elim h
   | brk=>exact False.elim h
   | cont=>exact False.elim h
   | ret u=>
    obtain⟨v,H',os,bare,un,hok',r',q⟩:=h
    have q':v=.bl true:=q
    subst q'
    obtain rfl:u=Value.bool true:=r'
    refine⟨rfl,OldK.of_keep fun b o e=>?_,os,bare⟩
    cases q:H b with
    | none=>exact un.keep b o e q (by intro z; exact absurd (show b∈([]:List Addr) from z) (by simp)) (by simp)
    | some u=>
     rcases hO b with z | ⟨ob,xs,z⟩
     ·rw[q]at z; cases z
     ·have z2:=un.frzs b ob _ z
      obtain⟨e1,_⟩:=hok b _ z
      obtain⟨e2,_⟩:=hok' b _ z2
      rw[e]at e1; cases e1
      exact e2
 cases hk:K.lookup a with
 | some o=>
  have e:=KX a o hk
  rw[ha]at e
  cases e
  refine core (fun _=>none) (fun _=>.inl rfl) (.inr ⟨_,vs.toArray,_,hk,rfl,rfl,rfl,by rw[Y0c,lenV]; exact hl,by simpa using rv⟩) (fun b u z=>by have z':(none:Option HO)=some u:=z; cases z') (fun b z=>absurd rfl z) fun z=>absurd rfl z
 | none=>
  refine core (fun b=>if b=a then some (.frz { cls:=.type "list",data:=.seq vs.toArray } (.lst (ns.map V.int))) else none) (fun b=>?_) (.inl (.inr ⟨{ cls:=.type "list",data:=.seq vs.toArray },if_pos rfl⟩)) (fun b u z=>?_) (fun b z=>?_) fun _=>hk
  ·by_cases hb:b=a
   ·exact .inr ⟨_,_,if_pos hb⟩
   ·exact .inl (if_neg hb)
  ·by_cases hb:b=a
   ·have z':=(if_pos hb).symm.trans z
    cases z'
    subst hb
    exact⟨ha,by rw[Y08]; exact hl,vs,_,rv,ha⟩
   ·have z':=(if_neg hb).symm.trans z
    cases z'
  ·by_cases hb:b=a
   ·exact hb
   ·exact absurd (if_neg hb) z
abbrev KOf {K:Y00}{h:Heap}(_:K.In h):Y00:=K
theorem ZbV {l:PySem.W.OpenLaw}{n k:Nat}{q:Program}{loose:List Str}{XP:(Str->Option Value)->Heap->Prop}{YP:World->Heap->Prop}{d:DefRec}{K:Params->Y00}{CX:World->CXT}{sp:World->Sp}{x:Str}
  (hn:l.most=some n) (hn2:n<=sizeLine) (hdf:d.params.defaults=[]) (hr:Z1g k callerA)
  (hY:∀ (w:World) (h:Heap),YP w h->(K w.params).In h)
  (F:∀ (w:World) (mg:Str->Option Value) (fa:Addr) (h:Heap),(K w.params).In h->h.Ns mainGlobals mg->mg d.name=some (.ref fa)->
   ∃ fd:FuncData,(∀ (s:Shared) (u:Value),BindsTo s fd ⟨[u],[]⟩ [(x,u)])/\
    ∀ base:Heap,(K w.params).In base->base.Ns mainGlobals mg->Z0x l.prog w (K w.params) mg base (CX w) k fa fd [x] (sp w))
  (hsp:∀ (w:World) (H:Hp) (a:Addr) (ns:List Int),ns.length<=n->ZfX H->SqL (K w.params) H a (ns.map V.int)->sp w [.ref a] H (fun v _=>v=.bl true) fun _ _ _=>False)
  (hCX:∀ (w:World) (H:Hp) (s:Shared) (e:Value) (s':Shared),CX w [] H s (fun _ _ _=>False) e s'->False) :
  PySem.W.WalkO q loose XP YP l.row.toRowW d [] (fun f vs=>PySem.call f vs):=by
 refine Att.attach_call hn hdf fun w s₀ s₁ mg mb fa o pm cd doc a vs ns G Y ho hd hcd hmg hobj hints hlen hg=>?_
 have KX:=hY w _ Y
 obtain⟨fd,hb,hF⟩:=F w mg fa _ KX G.T.g hmg
 exact Zas KX G.T.g G.T.b G.T.builtins G.T.nolimit hg hobj hints (Y0o hlen hn2) hr hF hb (fun H hO hS=>hsp w H a ns hlen hO hS) fun H e s'=>hCX w H s₁ e s'
def Z6D (s:Stmt)(j:Nat):Stmt:=match s with
 | .ClassDef _ _ _ body _ _ _ _ _ _ _=>body.getD j (.Pass ⟨0,0,0,0⟩)
 | _=>.Pass ⟨0,0,0,0⟩
def Z1r (s:Stmt):Arguments:=match s with
 | .FunctionDef _ a _ _ _ _ _ _ _ _=>a
 | _=>{ posonlyargs:=[],args:=[],vararg:=none,kwonlyargs:=[],kw_defaults:=[],kwarg:=none,defaults:=[] }
def Z1b (s:Stmt):List Stmt:=match s with
 | .FunctionDef _ _ b _ _ _ _ _ _ _=>b
 | _=>[]
def Z0a (s:Stmt):Scope:=match s with
 | .FunctionDef _ _ _ _ _ _ sc _ _ _=>sc
 | _=>{ kind:=.function,names:=[],isGenerator:=false,isCoroutine:=false }
abbrev CX0:CXT:=fun _ _ _ _ _ _=>False
abbrev E0:XK:=fun _ _ _=>False
theorem Z0r {X:Cx}:Z34 CX0 X E0:=fun _ _ _ _ _ _ _ h=>h.elim
structure Fun (K:Y00)(x qual:Str)(st:Stmt)(f:Addr)(fd:FuncData):Prop where
 ex:∃ (oc:Value) (od:Option Addr) (kV doc pm:Value) (an:Option Addr) (cdv ct:Value) (osl:Array (Option Value)),
  fd=Y1l x qual (Z1r st) (Z1b st) (Z0a st) .none kV doc pm an cdv ct/\K.lookup f=some ⟨oc,od,.func fd,osl⟩/\PySem.W.codeIn K cdv qual=true
 kp:Y1s K (.ref f)=true
section
variable {P:Program}{w:World}{K:Y00}{mg:Str->Option Value}{base:Heap}
theorem Fun.ok {x qual:Str}{st:Stmt}{f:Addr}{fd:FuncData}{N ps:List Str}{k:Nat}{sp:Sp}(F:Fun K x qual st f fd)(S:Z0k N ps (Z0a st))(len:∀ vs H Q E,sp vs H Q E->vs.length=ps.length)
  (hbody:∀ (cdv:Value) (A:Around) (outer:List Env) (s:Shared) (H:Hp) (vs:List V) (Q:VK) (E:XK),Z1g k (A.deeper (envOfC qual (Z0a st) s.heap.objs.size f cdv))->sp vs H Q E->
   ∃ t,PSs (Z9A CX0 P w K mg base N qual (Z0a st) f cdv A outer s H E).nox (Z1b st) t/\t { nx:=fun _ H'=>Q .non H',rt:=Q } (start N vs) H):Z0x P w K mg base CX0 (k+1) f fd ps sp:=by
 obtain⟨oc,od,kV,doc,pm,an,cdv,ct,osl,rfl,lk,hcd⟩:=F.ex
 refine Zcx lk hcd S len fun A outer s H vs Q E hr hsp=>?_
 obtain⟨t,h,q⟩:=hbody cdv A outer s H vs Q E hr hsp
 exact⟨t,h.nox,q⟩
theorem Fun.binds {x qual:Str}{st:Stmt}{f:Addr}{fd:FuncData}{ps:List Str}(F:Fun K x qual st f fd)
  (h:∀ (kV doc pm:Value) (an:Option Addr) (cdv ct:Value) (us:List Value),us.length=ps.length->bindArgs (Y1l x qual (Z1r st) (Z1b st) (Z0a st) .none kV doc pm an cdv ct) ⟨us,[]⟩=pure (ps.zip us)):Z2s K fd ps []:=by
 obtain⟨oc,od,kV,doc,pm,an,cdv,ct,osl,rfl,lk,hcd⟩:=F.ex
 exact .all (h kV doc pm an cdv ct)
theorem ZaF {x qual:Str}{st:Stmt}{f:Addr}{oc:Value}{od an:Option Addr}{osl:Array (Option Value)}{kV doc pm cdv ct:Value}(l:K.lookup f=some ⟨oc,od,.func (Y1l x qual (Z1r st) (Z1b st) (Z0a st) .none kV doc pm an cdv ct),osl⟩)
  (c:PySem.W.codeIn K cdv qual=true) (k:Y1s K (.ref f)=true):Fun K x qual st f (Y1l x qual (Z1r st) (Z1b st) (Z0a st) .none kV doc pm an cdv ct):=⟨⟨oc,od,kV,doc,pm,an,cdv,ct,osl,rfl,l,c⟩,k⟩
end
theorem Z9G {A:Around}{k:Nat}(hr:Z1g k A):A.units+1 < cLine:=Nat.lt_of_le_of_lt (Nat.add_le_add_left (by decide:1<=64) _) hr.units
theorem Z0A {n:Nat}(h:n<=1000):n < sizeLine:=Nat.lt_of_le_of_lt h (by decide)
section
variable {X:Cx}
theorem pv (i:Nat){x:Str}{pos:Pos}(hN:X.N[i]?=some x:=by rfl)(hv:Vis X.env.scope x:=by first | exact Or.inl rfl | exact Or.inr (Or.inl rfl) | exact Or.inr (Or.inr rfl))(hd:(x == ("__debug__":Str))=false:=by decide)
  (hcd:(x == ("__classdict__":Str))=false:=by decide):PE X (.Name x pos) (Z12 i):=ZcT hN hv hd hcd
end
theorem Z0Z {A B:Prop}(h:B):if false=true then A else B:=by
 rw[if_neg Bool.false_ne_true]
 exact h
theorem Z1u {A B:Prop}(h:A):if true=true then A else B:=by
 rw[if_pos rfl]
 exact h
theorem Z5m {c A B:Prop}[Decidable c](h1:c->A)(h2:¬ c->B):if c then A else B:=by
 by_cases h:c
 ·rw[if_pos h]
  exact h1 h
 ·rw[if_neg h]
  exact h2 h
theorem ZdD {c A B:Prop}[Decidable c](hc:c)(h:B):if (!decide c)=true then A else B:=by
 rw[decide_eq_true hc]
 exact Z0Z h
def Z0q (H H':Hp):Prop:=∀ b o,H b=some o->H' b=some o
theorem Z0q.refl (H:Hp):Z0q H H:=fun _ _ h=>h
theorem Z0q.trans {H H1 H2:Hp}(a:Z0q H H1)(b:Z0q H1 H2):Z0q H H2:=fun c o h=>b c o (a c o h)
theorem Z0q.free {H H':Hp}(e:Z0q H H'){l:Addr}(h:H' l=Option.none):H l=Option.none:=by
 cases q:H l with
 | none=>rfl
 | some o=>
  rw[e l o q]at h
  cases h
theorem Z0q.seq {K:Y00}{H H':Hp}{a:Addr}{xs:List V}(e:Z0q H H')(h:SqL K H a xs):SqL K H' a xs:=by
 rcases h with (h | ⟨o,h⟩) | h
 ·exact .inl (.inl (e _ _ h))
 ·exact .inl (.inr ⟨o,e _ _ h⟩)
 ·exact .inr h
section
variable {X:Cx}
end
section
variable {κ:Type}[DecidableEq κ]
theorem Zch {kvs:List (κ×V)}{k:κ}{v:V}(h:Z3P kvs k=some v):k∈kvs.map (·.1):=by
 have q:(kvs.any fun kv=>decide (kv.1=k))=true:=by
  rw[Z35,h]
  all_goals rfl
 obtain⟨p,hp,e⟩:=List.any_eq_true.mp q
 exact Y0f.mpr ⟨p,hp,of_decide_eq_true e⟩
end
theorem Z5B {prog:Program}{w:World}{A:Around}{R:Result->Shared->Prop}{s:Shared}{elt target iter:Expr}{scope:Scope}{pos:Pos}{it acc:Value}{env:Env}(I:Nat->Shared->Prop)
  (turn:∀ n s,I n s->wpAny (model prog w) A (pyNext it) (fun r s₁=>match r with
   | none=>R (.ok .next) s₁
   | some v=>wpAny (model prog w) A (letOwnedTupleGo target it v) (fun _ s₀=>wpAny (model prog w) A (assign target env v) (fun _ s₂=>
     wpAny (model prog w) A (eval elt env) (fun x s₄=>
       wpAny (model prog w) A (call (.builtin "list.append") [acc,x]) (fun _ s₅=>∃ m,m < n/\I m s₅) (notedBy (model prog w) A env fun e s'=>R (.error e) s') s₄) (notedBy (model prog w) A env fun e s'=>R (.error e) s') s₂)
     (notedBy (model prog w) A env fun e s'=>R (.error e) s') s₀) (notedBy (model prog w) A env fun e s'=>R (.error e) s') s₁) (notedBy (model prog w) A env fun e s'=>R (.error e) s') s)
  (n:Nat) (h:I n s) :
  codeAny (model prog w) A (.compLoop (.ListComp elt [⟨target,iter,[],0⟩] scope pos) 0 it acc env) R s:=by
 refine codeAny_loop rfl I (fun n s hI=>?_) n h
 show wpAny _ A ((compTurn (.ListComp elt [⟨target,iter,[],0⟩] scope pos) 0 it acc env).onRaise (fun x=>do noteFrame x env; theTreesLotGoes x)) _ _ s
 refine wpAny_noted ?_
 rw[compTurn_list]
 refine wpAny_bind (wpAny_standAt (wpAny_bind (wpAny_mono (turn n s hI) (fun r s₁ h₁=>?_) fun _ _ h'=>h')))
 cases r with
 | none=>exact wpAny_pure h₁
 | some v=>
  refine wpAny_bind (wpAny_mono h₁ (fun _ s₀ h₀=>?_) fun _ _ h'=>h')
  refine wpAny_bind (wpAny_mono h₀ (fun _ s₂ h₂=>wpAny_bind (wpAny_tests_nil ?_)) fun _ _ h'=>h')
  exact wpAny_bind (wpAny_bind (wpAny_mono h₂ (fun x s₄ h₄=>wpAny_bind (wpAny_mono h₄ (fun _ s₅ h₅=>wpAny_pure (wpAny_pure ⟨rfl,h₅⟩)) fun _ _ h'=>h')) fun _ _ h'=>h'))
theorem Z1l {env:Env}:∀ (names:List (Str×NameKind)) (cs:List (Str×Addr)),(∀ y∈names,y.2=.free->∃ c,env.cells.lookup y.1=some c)->(∀ x c,cs.lookup x=some c->env.cells.lookup x=some c)->
  ∃ cl,(forIn names cs (fun (x:Str×NameKind) (r:List (Str×Addr))=>if (x.2 == NameKind.free)=true then do let c <-cellOf env x.1; pure (ForInStep.yield ((x.1,c) :: r)) else pure (ForInStep.yield r)):Sem (List (Str×Addr)))=pure cl/\
   (∀ x c,cl.lookup x=some c->env.cells.lookup x=some c)/\(∀ x c,cs.lookup x=some c->cl.lookup x=some c)/\∀ y∈names,y.2=.free->∃ c,cl.lookup y.1=some c
 | [],cs,_,hcs=>⟨cs,by simp,hcs,fun _ _ h=>h,fun y hy=>nomatch hy⟩
 | (n,k) :: r,cs,h,hcs=>by
  by_cases hk:k=.free
  ·subst hk
   obtain⟨c,hc⟩:=h (n,.free) Y1t rfl
   have hcs':∀ x d,((n,c) :: cs).lookup x=some d->env.cells.lookup x=some d:=fun x d e=>by
    rw[Y1f]at e
    split at e
    ·rename_i q
     have q':x=n:=by simpa using q
     cases e; rw[q']; exact hc
    ·exact hcs x d e
   obtain⟨cl,e,h1,h2,h3⟩:=Z1l r ((n,c) :: cs) (fun y hy=>h y (Y0m _ hy)) hcs'
   refine⟨cl,?_,h1,fun x d hd=>?_,fun y hy hy2=>?_⟩
   ·rw[List.forIn_cons]
    simp only[cellOf,hc,beq_self_eq_true,if_true,pure_bind]
    exact e
   ·refine h2 x d ?_
    rw[Y1f]
    split
    ·rename_i q
     have q':x=n:=by simpa using q
     have:=hcs x d hd
     rw[q',hc]at this
     exact this
    ·exact hd
   ·rcases Y0v.mp hy with rfl | hy
    ·exact⟨c,h2 n c (by simp[Y1f])⟩
    ·exact h3 y hy hy2
  ·obtain⟨cl,e,h1,h2,h3⟩:=Z1l r cs (fun y hy=>h y (Y0m _ hy)) hcs
   refine⟨cl,?_,h1,h2,fun y hy hy2=>?_⟩
   ·have hk':(k == NameKind.free)=false:=by simpa using hk
    rw[List.forIn_cons]
    simp only[hk',Bool.false_eq_true,if_false,pure_bind]
    exact e
   ·rcases Y0v.mp hy with rfl | hy
    ·exact absurd hy2 hk
    ·exact h3 y hy hy2
theorem Z2a (scope:Scope)(env:Env):closureFor scope env=(forIn scope.names [] (fun (x:Str×NameKind) (r:List (Str×Addr))=>if (x.2 == NameKind.free)=true then do let c <-cellOf env x.1; pure (ForInStep.yield ((x.1,c) :: r)) else pure (ForInStep.yield r)):Sem (List (Str×Addr))):=by
 unfold closureFor
 simp
theorem Z1P {env:Env}(hk:env.scope.kind=.function):∀ {names:List (Str×NameKind)} {x:Str},names.lookup x=some .free->env.kindOf x=some .cell->
  (names.map fun (n,k)=>if (k == NameKind.free && env.scope.kind == .function && env.kindOf n == some .cell) then (n,NameKind.cell) else (n,k)).lookup x=some .cell
 | [],_,h,_=>by simp at h
 | (n,k) :: r,x,h,hc=>by
  have ih:=@Z1P env hk r x
  show List.lookup x ((if (k == NameKind.free && env.scope.kind == .function && env.kindOf n == some .cell)=true then (n,NameKind.cell) else (n,k)) :: _)=_
  cases hx:x == n with
  | true=>
   simp only[Y1f,hx]at h
   cases h
   have e:x=n:=by simpa using hx
   subst e
   simp[Y1f,hk,hc]
  | false=>
   simp only[Y1f,hx]at h
   by_cases hc':(k == NameKind.free && env.scope.kind == .function && env.kindOf n == some .cell)=true
   ·rw[if_pos hc']; simp only[Y1f,hx]; exact ih h hc
   ·rw[if_neg hc']; simp only[Y1f,hx]; exact ih h hc
theorem Z48 {env:Env}:∀ {names:List (Str×NameKind)} {x:Str},(∀ y∈names,y.2≠.cell)->
  ((names.map fun (n,k)=>if (k == NameKind.free && env.scope.kind == .function && env.kindOf n == some .cell) then (n,NameKind.cell) else (n,k)).lookup x=some .cell\/
  (names.map fun (n,k)=>if (k == NameKind.free && env.scope.kind == .function && env.kindOf n == some .cell) then (n,NameKind.cell) else (n,k)).lookup x=some .free)->(x,NameKind.free)∈names
 | [],_,_,h=>by simp at h
 | (n,k) :: r,x,hn,h=>by
  have ih:=@Z48 env r x fun y hy=>hn y (Y0m _ hy)
  have hk:k≠.cell:=hn (n,k) Y1t
  cases hx:x == n with
  | true=>
   have e:x=n:=by simpa using hx
   subst e
   by_cases hf:k=.free
   ·subst hf; exact Y1t
   ·have hf':¬ (k == NameKind.free && env.scope.kind == .function && env.kindOf x == some .cell)=true:=by simp[hf]
    simp only[Y13,if_neg hf',Y1f,beq_self_eq_true]at h
    rcases h with h | h
    ·exact absurd (Option.some.inj h) hk
    ·exact absurd (Option.some.inj h) hf
  | false=>
   refine Y0m _ (ih ?_)
   by_cases hc':(k == NameKind.free && env.scope.kind == .function && env.kindOf n == some .cell)=true
   ·simpa only [Y13,if_pos hc',Y1f,hx] using h
   ·simpa only [Y13,if_neg hc',Y1f,hx] using h
def blk (X:Cx)(sc:Scope)(cl:List (Str×Addr))(C:Addr)(N':List Str)(s₂:Shared)(H₁:Hp)(fp:List Addr)(pins:List (Addr×Obj)):Cx where
 prog:=X.prog
 w:=X.w
 K:=X.K
 mg:=X.mg
 base:=X.base
 A:=X.A
 N:=N'
 s₀:=s₂
 H₀:=H₁
 env:=compEnvC sc cl C X.env
 outer:=X.stack
 stack:=X.stack
 ex:=fp
 fn:=fun _=>false
 calm:=X.calm
 pn:=X.pn++pins
 xe:=fun _ _=>False
structure Z7i (N:List Str)(names:List (Str×NameKind))(N':List Str)(k:Nat)(pull:List Nat)(sc:Scope):Prop where
 kind:sc.kind=.function
 nocell:∀ y∈sc.names,y.2≠.cell
 loc:∀ y∈sc.names,y.2=.local->sc.names.lookup y.1=some .local
 len:N'.length=k+pull.length
 cap:∀ i∈Y05 pull.length,N'[k+i]?=N[pull.getD i 0]?/\∀ x∈(N'[k+i]?).toList,sc.names.lookup x=some .free
 fre:∀ y∈sc.names,y.2=.free->names.lookup y.1=some .cell
def bst (k:Nat)(pull:List Nat)(σ:St):St:=List.replicate k none++pull.map fun j=>σ.getD j none
theorem HOk.but {P:Program}{w:World}{H:Hp}{h h':Heap}{C:Addr}(x:HOk P w H h)(hn:H C=none)(k:∀ b o,b≠C->h.get? b=some o->h'.get? b=some o):HOk P w H h':=fun b u e=>by
 have nit:∀ b u,H b=some u->b≠C:=fun b u e z=>by rw[z,hn]at e; cases e
 refine (x b u e).stay (fun c v hc q=>k c v ?_ q) (fun _ q=>q) fun _ _ q=>q
 rcases hc with z | z
 ·rw[z]; exact nit b u e
 ·exact nit c _ z
def Z90 (wi:TI)(k:Nat)(pull:List Nat)(g:TG)(te:TE):TE:=fun σ H Q=>wi σ H fun J H1=>∀ d,H1 d=none->
 ∃ W:Nat->Nat->St->Hp->Prop,(∃ m,W 0 m (bst k pull σ) (upd H1 d (.lst [])))/\∀ i m σ' H',W i m σ' H'->
  (J.stop i H'/\Q (.ref d) H')\/
  (J.go i H'/\∀ x H2,J.yld i H' x H2->g x σ' H2 fun σ3 H3=>te σ3 H3 fun y H4=>∃ xs,H4 d=some (.lst xs)/\xs.length < sizeLine/\∃ m',m' < m/\W (i+1) m' σ3 (upd H4 d (.lst (xs++[y]))))
section
variable {X:Cx}{elt tg iter:Expr}{sc:Scope}{pos:Pos}{wi:TI}{g:TG}{te:TE}{N:List Str}{names:List (Str×NameKind)}{N':List Str}{k:Nat}{pull:List Nat}
theorem Z4f {pins:List (Addr×Obj)}{σ:St}{H1:Hp}{s2:Shared}{fp:List Addr}{cl:List (Str×Addr)}{h₁:Heap}{tk:Nat}(B:Z7i N names N' k pull sc)(hN:X.N=N)(hnm:X.env.scope.names=names)
  (I2:Inv X pins σ H1 s2) (f2:∀ b∈fp,Z7O X pins H1 b) (ho:∀ b∈fp,∃ o,s2.heap.get? b=some o)
  (c1:∀ x c,cl.lookup x=some c->X.env.cells.lookup x=some c) (c3:∀ y∈sc.names,y.2=.free->∃ c,cl.lookup y.1=some c)
  (hns:h₁.Ns (s2.heap.objs.size+1) (fun x=>([]:List (Str×Value)).reverse.lookup x))
  (hk:∀ b o,s2.heap.get? b=some o->h₁.get? b=some o) (hd:h₁.get? s2.heap.objs.size=some { cls:=.type "list",data:=.seq ([]:List Value).toArray }) :
  Inv (blk X sc cl (s2.heap.objs.size+1) N' s2 H1 fp pins) [] (bst k pull σ) (upd H1 s2.heap.objs.size (.lst [])) { s2 with heap:=h₁,toks:=tk }:=by
 have hfd:H1 s2.heap.objs.size=none:=I2.hok.fresh (Y03 _)
 have hfC:(upd H1 s2.heap.objs.size (.lst [])) (s2.heap.objs.size+1)=none:=by
  rw[Z0i (Nat.succ_ne_self _)]; exact I2.hok.fresh (Nat.le_succ _)
 have hlook:∀ x,(compEnvC sc cl (s2.heap.objs.size+1) X.env).kindOf x=some .cell\/(compEnvC sc cl (s2.heap.objs.size+1) X.env).kindOf x=some .free->(x,NameKind.free)∈sc.names:=fun x hx=>
  Z48 (env:=X.env) B.nocell hx
 have cellKind:∀ y∈sc.names,y.2=.free->X.env.kindOf y.1=some .cell:=fun y hy hf=>by
  show X.env.scope.names.lookup y.1=_
  rw[hnm]; exact B.fre y hy hf
 refine⟨⟨I2.ok.mod,B.kind,I2.ok.glob,I2.ok.blt,Nat.le_succ _,fun x y c e1 e2=>I2.ok.inj x y c (c1 x c e1) (c1 y c e2),fun x hx=>c3 _ (hlook x hx) rfl,(fun x c h _=>nomatch h),I2.ok.hd,I2.ok.frames,.inl rfl,fun b hb=>⟨?_,fun x c e=>?_⟩,I2.bs,Y0o I2.ok.bsz I2.sz,fun b o e hb=>?_,fun b hb hs=>?_,I2.stack,I2.stkFree⟩,
  rfl,I2.bare,Un.laid hk (Y03 _) hfd,⟨_,hns,fun i x v e1 e2 e3=>?_⟩,fun x c e=>?_,hfC,fun x c e=>?_,fun p hp=>?_,I2.hok.laid hk (Y03 _) ⟨Y0s _,[],0,.nil,hd⟩,?_⟩
 ·obtain⟨o,e⟩:=ho b hb
  exact Y0k (Y1h (Y07 e))
 ·exact (f2 b hb).2.2.2.2.1 x c (c1 x c e)
 ·rcases (f2 b hb).2.2.2.1 with z | z
  ·exact I2.ok.noex b o e z
  ·exact absurd (Y0g (Y07 e) (Y0o I2.ok.bsz z)) (Y23 _)
 ·rcases Y0v.mp (I2.stkSub b hs) with z | z
  ·exact (f2 b hb).2.1 z
  ·exact (f2 b hb).2.2.1 z
 ·
  have e2:(bst k pull σ)[i]?=some (some v):=e2
  unfold bst at e2
  by_cases hi:i < k
  ·rw[Y0z (by simpa using hi),List.getElem?_replicate,if_pos hi]at e2
   cases e2
  ·rw[Y17 (by simpa using hi),List.length_replicate,Y10]at e2
   cases ej:pull[i - k]? with
   | none=>rw[ej]at e2; cases e2
   | some j=>
    rw[ej]at e2
    have e2:σ.getD j none=some v:=Option.some.inj e2
    have hj:σ[j]?=some (some v):=by
     rw[Y0i]at e2
     cases q:σ[j]? with
     | none=>rw[q]at e2; cases e2
     | some z=>rw[q]at e2; simpa using e2
    have hil:i - k < pull.length:=(Y04.mp ej).1
    obtain⟨q1,q2⟩:=B.cap (i - k) (Y06.mpr hil)
    have ei:k+(i - k)=i:=by omega
    have ep:pull.getD (i - k) 0=j:=by rw[Y0i,ej]; rfl
    have e1:N'[i]?=some x:=e1
    rw[ei,ep,e1]at q1
    rw[ei,e1]at q2
    have hf:=q2 x (by simp)
    have hmem:=PySem.mem_of_lookup hf
    have hc:=cellKind (x,.free) hmem rfl
    obtain⟨m,hn,hl⟩:=I2.loc
    obtain⟨u,r,l⟩:=hl j x v (by rw[hN]; exact q1.symm) hj (.inr (.inl hc))
    refine⟨u,r,.inr ⟨.inl (Z1P I2.ok.kind hf hc),?_⟩⟩
    rcases l with ⟨hloc,_⟩ | ⟨_,c,ec,hcell⟩
    ·rw[hc]at hloc; cases hloc
    ·obtain⟨c',ec'⟩:=c3 (x,.free) hmem rfl
     have:=c1 x c' ec'
     rw[ec]at this
     cases this
     obtain⟨o,h1,h2⟩:=hcell
     exact⟨c,ec',o,hk c o h1,h2⟩
 ·obtain⟨v,o,h1,h2⟩:=I2.cell x c (c1 x c e)
  exact⟨v,o,hk c o h1,h2⟩
 ·obtain⟨v,o,h1,h2⟩:=I2.cell x c (c1 x c e)
  rw[Z0i (Y0k (Y07 h1))]
  exact I2.freeC x c (c1 x c e)
 ·have hp:p∈X.pn++pins:=by simpa [blk] using hp
  obtain⟨a1,a2,a3,a4,a5⟩:=I2.pin p hp
  have hlt:=Y07 a1
  refine⟨hk _ _ a1,by rw[Z0i (Y0k hlt)]; exact a2,?_,fun hs=>?_,a5⟩
  ·exact Y0k (Y1h hlt)
  ·rcases Y0v.mp (I2.stkSub p.1 hs) with z | z
   ·exact a3 z
   ·exact a4 z
 ·show (bst k pull σ).length=N'.length
  unfold bst
  rw[Y0e,List.length_replicate,Y08,B.len]
theorem Z5j (hc:X.calm=true)(B:Z7i N names N' k pull sc)(hN:X.N=N)(hnm:X.env.scope.names=names)(hi:PI X tg iter wi)
  (hg:∀ cl C s₂ H₁ fp pins,PG (blk X sc cl C N' s₂ H₁ fp pins) tg g) (he:∀ cl C s₂ H₁ fp pins,PE (blk X sc cl C N' s₂ H₁ fp pins) elt te)
  (hs:∀ x,foldedSetIterable iter X.env x=pure x:=by intro _; rfl):PE X (.ListComp elt [⟨tg,iter,[],0⟩] sc pos) (Z90 wi k pull g te):=by
 intro pins s σ H Q I h
 rw[eval_ListComp]
 have hcells:∀ y∈sc.names,y.2=.free->∃ c,X.env.cells.lookup y.1=some c:=fun y hy hf=>I.ok.has y.1 (.inl (by
  show X.env.scope.names.lookup y.1=_
  rw[hnm]; exact B.fre y hy hf))
 obtain⟨cl,ecl,c1,_,c3⟩:=Z1l (env:=X.env) sc.names [] hcells (fun x c e=>nomatch e)
 rw[<-Z2a]at ecl
 refine wpAny_comprehension_free (use:=none) rfl hs ecl B.kind B.loc (thn (hi pins s σ H _ I h) fun xv s1 h1=>thn h1 fun itv s2 h2=>?_)
 obtain⟨it,fp,tn,J,H1,e,I2,T,st2,f2,hW⟩:=h2
 subst e
 have ho:∀ b∈fp,∃ o,s2.heap.get? b=some o:=fun b hb=>let ⟨o,e,_⟩:=T.obj _ _ st2 b hb; ⟨o,e⟩
 refine wpAny_newObj_type (wpAny_newFunctionEnv B.nocell (by intro y hy; simp at hy) (fun h₁ hns₁ hsb₁=>?_) B.kind)
 dsimp only at hns₁ hsb₁ ⊢
 rw[Y1u]at hns₁ hsb₁ ⊢
 have old:∀ b o,s2.heap.get? b=some o->h₁.get? b=some o:=fun b o e=>by
  have hlt:=Y07 e
  exact (hsb₁.2 b (Y0k (Y1h hlt))).trans (Y02 _ (Y02 _ e))
 have hd:h₁.get? s2.heap.objs.size=some { cls:=.type "list",data:=.seq ([]:List Value).toArray }:=
  (hsb₁.2 _ (Y0k (Nat.lt_succ_self _))).trans (Y02 _ (Y0a _ rfl))
 have I4:=Z4f (tk:=s2.toks+([]:List (Str×Value)).length) B hN hnm I2 f2 ho c1 c3 hns₁ old hd
 have st4:tn 0 h₁:=T.keep _ _ _ st2 fun b _ o e=>old b o e
 obtain⟨W,⟨m0,w0⟩,turn⟩:=hW s2.heap.objs.size (I2.hok.fresh (Y03 _))
 have fr4:∀ b∈fp,(upd H1 s2.heap.objs.size (.lst [])) b=none:=fun b hb=>by
  obtain⟨o,e⟩:=ho b hb
  rw[Z0i (Y0k (Y07 e))]
  exact (f2 b hb).1
 have stat:∀ {H':Hp},(∀ b∈fp,H' b=none)->∀ b∈fp,Z7O (blk X sc cl (s2.heap.objs.size+1) N' s2 H1 fp pins) [] H' b:=fun hn b hb=>by
  refine⟨hn b hb,(I4.ok.exf b hb).1,I4.ok.exfs b hb,.inl hb,(I4.ok.exf b hb).2,fun p hp=>?_⟩
  have hp:p∈X.pn++pins:=by simpa [blk] using hp
  exact (f2 b hb).2.2.2.2.2 p hp
 have loop:∀ s₃:Shared,s₃={ s2 with heap:=h₁,toks:=s2.toks+([]:List (Str×Value)).length }->
   codeAny (model X.prog X.w) X.A (.compLoop (.ListComp elt [⟨tg,iter,[],0⟩] sc pos) 0 (.ref it) (.ref s2.heap.objs.size) (compEnvC sc cl (s2.heap.objs.size+1) X.env))
    (compPost (model X.prog X.w) X.A X.xe none (EP X pins σ Q) (.ref s2.heap.objs.size) (s2.heap.objs.size+1)) s₃:=by
  rintro s₃ rfl
  refine Z5B (fun n s'=>∃ i σ' H',Inv (blk X sc cl (s2.heap.objs.size+1) N' s2 H1 fp pins) [] σ' H' s'/\tn i s'.heap/\(∀ b∈fp,H' b=none)/\W i n σ' H') ?_ m0 ⟨0,_,_,I4,st4,fr4,w0⟩
  rintro n s3 ⟨i,σ3,H3,I3,st3,fr3,w3⟩
  rcases turn i n σ3 H3 w3 with ⟨stop,q⟩ | ⟨go,step⟩
  ·refine thn (T.done (blk X sc cl (s2.heap.objs.size+1) N' s2 H1 fp pins) rfl rfl rfl hc i [] s3 σ3 H3 _ I3 (stat fr3) st3 stop) fun r s4 ⟨hr,I5⟩=>?_
   subst hr
   obtain⟨m,hn,_⟩:=id I5.loc
   refine⟨m,hn,fun h' hs'=>?_⟩
   have ne:∀ b o,s2.heap.get? b=some o->b≠s2.heap.objs.size+1:=fun b o e=>Y0k (Y1h (Y07 e))
   have U:Un (frs X.stack) fp H1 H3 s2.heap s4.heap:=I5.base
   have U':Un (frs X.stack) fp H1 H3 s2.heap h':=⟨fun b o e n hb hx=>(hs'.2 b (ne b o e)).trans (U.keep b o e n hb hx),fun b o e n hb hx=>by
     obtain⟨sl,z⟩:=U.slot b o e n hb hx
     exact⟨sl,(hs'.2 b (ne b o e)).trans z⟩,U.free,fun b o e hx=>by
     obtain⟨o',z⟩:=U.there b o e hx
     exact⟨o',(hs'.2 b (ne b o e)).trans z⟩,U.tups,U.frzs,U.tbls⟩
   have hok:HOk X.prog X.w H3 h':=HOk.but (C:=s2.heap.objs.size+1) I5.hok I5.free fun b o hb e=>(hs'.2 b hb).trans e
   refine⟨.ref s2.heap.objs.size,H3,I2.call' (s':={ s4 with heap:=h' }) I5.os U' hok I5.bare fun b hb=>?_,rfl,q⟩
   exact⟨(f2 b hb).2.2.2.1,(f2 b hb).2.1,(f2 b hb).2.2.2.2.1,(f2 b hb).2.2.2.2.2⟩
  ·refine thn (T.item (blk X sc cl (s2.heap.objs.size+1) N' s2 H1 fp pins) rfl rfl rfl hc i [] s3 σ3 H3 _ I3 (stat fr3) st3 go) fun r s4 ⟨u,hr,h4⟩=>?_
   subst hr
   refine thn h4 fun _ s5 ⟨x,H5,I5,r5,y5,st5,fr5⟩=>?_
   have I5':=I5.pinned (stat fr5) (T.obj _ _ st5)
   refine wpAny_mono (hg _ _ _ _ _ _ _ s5 σ3 H5 x u _ I5' r5 (step x H5 y5)) (fun _ s6 ⟨σ6,H6,I6,q6⟩=>?_) fun _ _ z=>z.elim
   refine wpAny_mono (he _ _ _ _ _ _ _ s6 σ6 H6 _ I6 q6) (fun y s7 ⟨z,H7,I7,r7,xs,hx7,hz7,m',hm,w7⟩=>?_) fun _ _ z=>z.elim
   refine wpAny_mono (Z0M (X:=blk X sc cl (s2.heap.objs.size+1) N' s2 H1 fp pins) _ s7 σ6 H7 (.ref s2.heap.objs.size) [z] (.ref s2.heap.objs.size) [y] (fun _ H8=>H8=upd H7 s2.heap.objs.size (.lst (xs++[z]))) I7 rfl (.cons r7 .nil) ⟨_,xs,z,rfl,rfl,hx7,hz7,rfl⟩) (fun _ s8 ⟨_,H8,I8,_,e8⟩=>?_) fun _ _ z=>z.elim
   subst e8
   refine⟨m',hm,i+1,σ6,_,I8.unpinned,T.keep _ _ _ st5 fun b hb o e=>(I8.pin (b,o) (Y09 _ (Y09 _ (Z10 hb e)))).1,fun b hb=>?_,w7⟩
   obtain⟨o,e,_⟩:=T.obj _ _ st5 b hb
   exact (I8.pin (b,o) (Y09 _ (Y09 _ (Z10 hb e)))).2.1
 exact codeAny_compStart_list (loop _ rfl) (T.self _ 0 _ _ _ st4 (loop _ rfl))
end
end L2
namespace L2
open PySem
open AutoSeq1 (wpAny_loadPart')
section
variable {prog:Program}{w:World}{A:Around}{E:Value->Shared->Prop}{s:Shared}
theorem Z3t {it l:Addr}{i:Nat}{items}{x:Value}{Q:Value->Shared->Prop}(hit:s.heap.IsTupleIter it l i)
  (hl:s.heap.IsTuple l items) (hx:items[i]?=some x)
  (hQ:∀ h',h'.IsTupleIter it l (i+1)->Heap.SameBut it s.heap h'->Q x { s with heap:=h' }) :
  wpAny (model prog w) A (Builtin.SmallTypes.nextOf (.ref it)) Q E s:=by
 obtain⟨o,ho,hc,hd⟩:=id hit
 obtain⟨ol,hol,_,nl,hdl⟩:=hl
 unfold Builtin.SmallTypes.nextOf
 refine wpAny_bind (wpAny_callSpecial?_slot (name:=Str.ofString "__next__") hit.typeIs F.slot_tuple_iterator_next
  (wpAny_call_entry F.slot_tuple_iterator_next hit.typeIs F.entry_tuple_iterator_next ?_ (F.args_tuple_iterator_next_1 _)))
 show wpAny _ _ (field (.ref it) 0 >>= _) _ _ s
 refine wpAny_bind (wpAny_field ho hd (x:=.ref l) rfl ?_)
 show wpAny _ _ (if (Value.ref l == Value.none)=true then _ else _) _ _ s
 rw[if_neg (show ¬ ((Value.ref l == Value.none)=true) from Bool.false_ne_true)]
 show wpAny _ _ (field (.ref it) 1 >>= _) _ _ s
 refine wpAny_bind (wpAny_field ho hd (x:=.int i 0) rfl ?_)
 show wpAny _ _ (seqItems? (.ref l) >>= _) _ _ s
 refine wpAny_bind (wpAny_seqItems hol hdl ?_)
 simp only[Int.toNat_natCast,hx]
 refine wpAny_bind (wpAny_setField ho hd (by simp) (wpAny_pure ⟨x,rfl,wpAny_pure (hQ _ ?_ (Heap.SameBut.update ..))⟩))
 exact⟨_,Heap.get?_update_self _ ho (Obj.isFreed_of_fields (Obj.data_mapFields hd _)),(Obj.cls_mapFields ..).trans hc,by
  rw[Obj.data_mapFields hd]; simp[rawInt]⟩
theorem Z3K {it l:Addr}{i:Nat}{items}{Q:Value->Shared->Prop}(hh:A.handled=none)
  (hit:s.heap.IsTupleIter it l i) (hl:s.heap.IsTuple l items) (hx:items[i]?=none)
  (hE:∀ h' e,Heap.ExtBut it s.heap h'->(∃ o,h'.get? e=some o/\o.cls=.type "StopIteration")->E (.ref e) { s with heap:=h' }) :
  wpAny (model prog w) A (Builtin.SmallTypes.nextOf (.ref it)) Q E s:=by
 obtain⟨o,ho,hc,hd⟩:=id hit
 obtain⟨ol,hol,_,nl,hdl⟩:=hl
 unfold Builtin.SmallTypes.nextOf
 refine wpAny_bind (wpAny_callSpecial?_slot (name:=Str.ofString "__next__") hit.typeIs F.slot_tuple_iterator_next
  (wpAny_call_entry F.slot_tuple_iterator_next hit.typeIs F.entry_tuple_iterator_next ?_ (F.args_tuple_iterator_next_1 _)))
 show wpAny _ _ (field (.ref it) 0 >>= _) _ _ s
 refine wpAny_bind (wpAny_field ho hd (x:=.ref l) rfl ?_)
 show wpAny _ _ (if (Value.ref l == Value.none)=true then _ else _) _ _ s
 rw[if_neg (show ¬ ((Value.ref l == Value.none)=true) from Bool.false_ne_true)]
 show wpAny _ _ (field (.ref it) 1 >>= _) _ _ s
 refine wpAny_bind (wpAny_field ho hd (x:=.int i 0) rfl ?_)
 show wpAny _ _ (seqItems? (.ref l) >>= _) _ _ s
 refine wpAny_bind (wpAny_seqItems hol hdl ?_)
 simp only[Int.toNat_natCast,hx]
 refine wpAny_bind (wpAny_rule (wpAny_bind (wpAny_setField ho hd (by simp) ?_)))
 show wpAny _ _ (newExc (.type "StopIteration") [] >>= _) _ _ _
 refine wpAny_bind ?_
 simp only[newExc,newTuple]
 refine wpAny_bind (wpAny_newObj_type ?_ (by size_fits))
 refine wpAny_bind (m:=firstArgMember _ _) (wpAny_of_eq (a:=Value.none) (by first | rfl | (simp only[firstArgMember]; rfl)) ?_)
 refine wpAny_newObj_type ?_ (by size_fits)
 simp only[raiseNew]
 refine wpAny_bind (wpAny_handled ?_)
 first | rw[show A.in1.handled=none from hh] | rw[hh]
 refine wpAny_bind (wpAny_pure (wpAny_throw ?_))
 exact hE _ _ (((Heap.SameBut.update ..).extBut.push _).push _) ⟨_,Y0a _ rfl,rfl⟩
end
theorem Z6z {prog:Program}{w:World}{A:Around}(hh:A.handled=none)(it l:Addr)(hne:l≠it)(items:Array Value) :
  Draws prog w A it [it,l] items.size (fun i v=>items[i]?=some v) (fun i h=>h.IsTupleIter it l i/\h.IsTuple l items) where
 live:=fun _ _ st=>let ⟨⟨o,ho,_⟩,_⟩:=st; ⟨o,ho⟩
 frame:=fun _ _ _ st hk=>⟨let ⟨o,ho,r⟩:=st.1; ⟨o,hk it (by simp) o ho,r⟩,let ⟨o,ho,r⟩:=st.2; ⟨o,hk l (by simp) o ho,r⟩⟩
 item:=fun i s Q E hi st hQ=>by
  refine Z3t st.1 st.2 (x:=items[i]) (by simp[hi]) fun h' hit' hs'=>?_
  exact hQ _ h' s.toks (by simp[hi]) ⟨hit',let ⟨o,ho,r⟩:=st.2; ⟨o,(hs'.2 l hne).trans ho,r⟩⟩ hs'
 done:=fun s Q E st hE=>Z3K hh st.1 st.2 (by simp) hE
theorem Z2I (l:Addr)(items:Array Value)(o:Obj)(hc:o.cls=.type "tuple")(n:Nat)(hd:o.data=.seq items n) :
  Meets (Builtin.«enumerate.__new__» ⟨[.type "enumerate",.ref l],[]⟩) (fun _ R s=>s.heap.get? l=some o/\
   R (.ok (.ret (.ref (s.heap.push { cls:=.type "tuple_iterator",data:=.fields #[.ref l,.int 0 0] }).objs.size)))
    { s with heap:=(s.heap.push { cls:=.type "tuple_iterator",data:=.fields #[.ref l,.int 0 0] }).push { cls:=.type "enumerate",data:=.fields #[.none,.bool false,.ref s.heap.objs.size,rawInt 0,.none,.none] } }):=
 .of_wp fun prog w A R s h=>by
  obtain⟨hp,g,d,tk,os⟩:=s; obtain⟨hl,h⟩:=h
  have hsub:=sub_enumerate
  have hL:Heap.IsTuple (Shared.heap ⟨hp,g,d,tk,os⟩) l items:=⟨_,hl,hc,n,hd⟩
  wp_walk using wpAny_loadPart' hl
  refine wpAny_stack_any fun st=>wpAny_pure ?_
  split
  ·rename_i c _ _ _ _ _
   cases (c == Value.type "enumerate")
   ·wp_walk using wpAny_loadPart' hl,wpAny_pyIter_tuple hL
    exact⟨_,rfl,h⟩
   ·wp_walk using wpAny_loadPart' hl,wpAny_pyIter_tuple hL
    exact⟨_,rfl,h⟩
  ·wp_walk using wpAny_loadPart' hl,wpAny_pyIter_tuple hL
   exact⟨_,rfl,h⟩
theorem Z2G {prog:Program}{w:World}{A:Around}{E:Value->Shared->Prop}{s:Shared}{l:Addr}{items:Array Value}{Q:Value->Shared->Prop}(hL:s.heap.IsTuple l items)
  (h:∀ h',IsEnum h' (s.heap.objs.size+1) s.heap.objs.size 0 .none->h'.IsTupleIter s.heap.objs.size l 0->h'.objs.size=s.heap.objs.size+2->
   (∀ b o,s.heap.get? b=some o->h'.get? b=some o)->Q (.ref (s.heap.objs.size+1)) { s with heap:=h' }) :
  wpAny (model prog w) A (call (.type "enumerate") [.ref l]) Q E s:=by
 obtain⟨o,hl,hc,n,hd⟩:=hL
 refine callType_new F.called_enumerate (by decide) (F.typeCall_enumerate_1 _) (F.newCall_enumerate_1 _) (fun obj=>F.args_object_init_2 obj _) F.entry_enumerate_new
  (Z2I l items o hc n hd) ⟨hl,?_⟩
 have hz:(s.heap.push { cls:=.type "tuple_iterator",data:=.fields #[.ref l,.int 0 0] }).objs.size=s.heap.objs.size+1:=Y1u ..
 show _/\_
 rw[hz]
 have he:IsEnum ((s.heap.push { cls:=.type "tuple_iterator",data:=.fields #[.ref l,.int 0 0] }).push
   { cls:=.type "enumerate",data:=.fields #[.none,.bool false,.ref s.heap.objs.size,rawInt 0,.none,.none] }) (s.heap.objs.size+1) s.heap.objs.size 0 .none:=by
  have:=Y0a (s.heap.push { cls:=.type "tuple_iterator",data:=.fields #[.ref l,.int 0 0] })
   (o:={ cls:=.type "enumerate",data:=.fields #[.none,.bool false,.ref s.heap.objs.size,rawInt 0,.none,.none] }) rfl
  rw[hz]at this; exact this
 refine⟨⟨_,he,rfl⟩,h _ he ⟨_,Y02 _ (Y0a _ rfl),rfl,rfl⟩ (by rw[Y1u,hz]) fun b o x=>Y02 _ (Y02 _ x)⟩
end L2
namespace L2
open PySem PySem.Spec PyProof.Rows
section
variable {X:Cx}
theorem Z1i:Z2F X (.builtin "isinstance") (fun xs H Q=>∃ x c t b,xs=[x,.ty c]/\Z7a X.K H x t/\Y20 X.K t (.type c)=some b/\Q (.bl b) H):=by
 intro pins s σ H xs us Q I r h
 obtain⟨x,c,t,b,rfl,ty,e,q⟩:=h
 obtain⟨u,w',rfl,ru,rc⟩:=Zco r
 obtain rfl:w'=Value.type c:=rc
 exact Z5E I ru ty e fun tk=>⟨.bl b,H,I.tok _,rfl,q⟩
end
theorem Z4w (K:Y00):Y20 K (.type "int") (.type "int")=some true:=by kernel_rfl
theorem Z3C (K:Y00):Y20 K (.type "int") (.type "bool")=some false:=by kernel_rfl
mutual
inductive Dt (K:Y00) (H:Hp):V->PyData->Prop
 | non:Dt K H .non .none
 | bl (b:Bool):Dt K H (.bl b) (.bool b)
 | int (i:Int):Dt K H (.int i) (.int i)
 | str (x:Str):Dt K H (.str x) (.str x)
 | lst {a:Addr} {xs:List V} {ds:List PyData}:SqL K H a xs->Z4A K H xs ds->Dt K H (.ref a) (.list ds)
 | tup {a:Addr} {xs:List V} {ds:List PyData}:SqT K H a xs->Z4A K H xs ds->Dt K H (.ref a) (.tuple ds)
inductive Z4A (K:Y00) (H:Hp):List V->List PyData->Prop
 | nil:Z4A K H [] []
 | cons {x:V} {d:PyData} {xs:List V} {ds:List PyData}:Dt K H x d->Z4A K H xs ds->Z4A K H (x :: xs) (d :: ds)
end
section
variable {X:Cx}{pins:List (Addr×Obj)}{σ:St}{H:Hp}{s:Shared}
mutual
theorem Dt.reads (I:Inv X pins σ H s):∀ {x:V} {d:PyData} {u:Value},Dt X.K H x d->Z17 x u->∃ as,Reads s.heap u d as
 | _,_,_,.non,r=>by obtain rfl:=(show _=Value.none from r); exact⟨_,.none⟩
 | _,_,_,.bl b,r=>by obtain rfl:=(show _=Value.bool b from r); exact⟨_,.bool b⟩
 | _,_,_,.int i,r=>by obtain⟨t,rfl⟩:=r; exact⟨_,.int i t⟩
 | _,_,_,.str x,r=>by obtain⟨t,rfl⟩:=r; exact⟨_,.str x t⟩
 | _,_,_,@Dt.lst _ _ a xs ds hq ha,r=>by
  obtain rfl:=(show _=Value.ref a from r)
  obtain⟨its,rv,⟨o,n,h1,h2,h3,h4⟩,hz⟩:=I.list hq
  obtain⟨as,ra⟩:=Z4A.reads I ha rv
  exact⟨_,.list h1 h2 h4 (by simpa using ra)⟩
 | _,_,_,@Dt.tup _ _ a xs ds hq ha,r=>by
  obtain rfl:=(show _=Value.ref a from r)
  obtain⟨its,rv,⟨o,h1,h2,n,h3⟩,hz⟩:=I.tuple hq
  obtain⟨as,ra⟩:=Z4A.reads I ha rv
  exact⟨_,.tuple h1 h2 h3 (by simpa using ra)⟩
theorem Z4A.reads (I:Inv X pins σ H s):∀ {xs:List V} {ds:List PyData} {us:List Value},Z4A X.K H xs ds->Z13 xs us->∃ as,ReadsAll s.heap us ds as
 | _,_,_,.nil,r=>by cases r; exact⟨_,.nil⟩
 | _,_,_,.cons h t,r=>by
  cases r with
  | cons r rr=>
   obtain⟨a1,h1⟩:=Dt.reads I h r
   obtain⟨a2,h2⟩:=Z4A.reads I t rr
   exact⟨_,.cons h1 h2⟩
end
def rEqD (K:Y00)(A:Around)(neg:Bool):R2:=fun x y H Q=>∃ d e,Dt K H x d/\Dt K H y e/\d.canLay0=true/\e.canLay0=true/\A.units+min d.depth e.depth < cLine/\Q (.bl (if neg then !PyData.eqv d e else PyData.eqv d e)) H
theorem Zd8:OpR X (compareOp .Eq) (rEqD X.K X.A false):=by
 intro pins s σ H x y v u Q I rx ry h
 obtain⟨d,e,hd,he,c1,c2,hu,q⟩:=h
 obtain⟨as,ra⟩:=Dt.reads I hd rx
 obtain⟨bs,rb⟩:=Dt.reads I he ry
 exact SeqAt.compareEq_reads ra rb c1 c2 hu ⟨.bl _,H,I,rfl,q⟩
end
def nv (xs:List Nat):List V:=xs.map fun (n:Nat)=>V.int (n:Int)
theorem Z0z (xs:List Nat):(nv xs).length=xs.length:=by simp[nv]
theorem Z0J {xs:List Nat}{i:Nat}{x:Nat}(h:xs[i]?=some x):(nv xs)[i]?=some (.int (x:Int)):=by simp[nv,h]
theorem Z8h {xs:List Nat}{i:Nat}{v:V}(h:(nv xs)[i]?=some v):∃ x,xs[i]?=some x/\v=.int (x:Int):=by
 rw[nv,Y10]at h
 cases e:xs[i]? with
 | none=>rw[e]at h; cases h
 | some x=>rw[e]at h; exact⟨x,rfl,(Option.some.inj h).symm⟩
theorem Z2r (xs:List Nat)(x:Nat):nv xs++[.int (x:Int)]=nv (xs++[x]):=by simp[nv]
def Z5p (H:Hp)(a:Addr)(r u:List Nat):Prop:=∃ p q,H a=some (.tup [.ref p,.ref q])/\H p=some (.tup (nv r))/\H q=some (.tup (nv u))
theorem Z5p.same {H H':Hp}{a:Addr}{r u:List Nat}(e:Z0q H H')(h:Z5p H a r u):Z5p H' a r u:=by
 obtain⟨p,q,h1,h2,h3⟩:=h
 exact⟨p,q,e _ _ h1,e _ _ h2,e _ _ h3⟩
section
variable {prog:Program}{w:World}{A:Around}{E:Value->Shared->Prop}{s:Shared}
theorem Z6r {l:Addr}{vs:List Value}{Q:List Value->Shared->Prop}(hl:s.heap.IsTuple l vs.toArray)(hz:vs.length<=sizeLine)
  (h:∀ h',(∀ b o,s.heap.get? b=some o->h'.get? b=some o)->Q vs { s with heap:=h' }):wpAny (model prog w) A (collect (.ref l)) Q E s:=by
 obtain⟨o,ho,hc,n,hd⟩:=hl
 unfold collect
 refine wpAny_bind (wpAny_runValue (codeAny_builtin entry_proto_collect' ?_))
 show wpAny _ _ (do again (.builtin "list.__iadd__" ⟨[<-newList [],.ref l],[]⟩)) _ _ s
 refine wpAny_bind (wpAny_newList (wpAny_pure ⟨Code.quiet_builtin _ (by decide +kernel),codeAny_builtin entry_list_iadd' ?_⟩))
 have ho':(s.heap.push (seqObj "list" #[] 0)).get? l=some o:=Y02 _ ho
 show wpAny _ _ (Builtin.List.listExtendWith (.ref s.heap.objs.size) (.ref l) (.ref s.heap.objs.size)) _ _ { s with heap:=s.heap.push (seqObj "list" #[] 0) }
 unfold Builtin.List.listExtendWith
 refine wpAny_bind (wpAny_typeOf (T:="tuple") ⟨o,ho',hc⟩ ?_)
 rw[if_pos (show (Builtin.List.listSameRef (.ref s.heap.objs.size) (.ref l) || Value.type "tuple" == Value.type "list" || Value.type "tuple" == Value.type "tuple")=true by
  rw[show (Value.type "tuple" == Value.type "tuple")=true from rfl,Bool.or_true])]
 refine wpAny_bind (listItems_at ho' hd (wpAny_bind (listItems_at (xs:=#[]) (n:=0) (Y0a _ rfl) rfl ?_)))
 rw[if_neg (by simp)]
 refine wpAny_bind (listUpdate_at (xs:=#[]) (n:=0) (Y0a _ rfl) rfl ?_ (Y0s _) (by show (#[]++vs.toArray).size<=sizeLine+1; simp; omega))
 refine wpAny_pure ?_
 refine wpAny_bind (wpAny_load (get?_update_seq (Y0a _ rfl) _) ?_)
 show wpAny _ _ (pure ((#[]:Array Value)++vs.toArray).toList) Q E _
 rw[show ((#[]:Array Value)++vs.toArray).toList=vs by simp]
 exact wpAny_pure (h _ fun b o e=>(Y15 _ _ (Nat.ne_of_gt (Y07 e))).trans (Y02 _ e))
theorem Z9m {x:Value}{vs:List Value}{ns:List Int}{Q:Value->Shared->Prop}(hI:IntsAre vs ns)(h64:vs.length < 64)
  (hcol:∀ (A:Around) (R:List Value->Shared->Prop),A.handled=none->(∀ vs ns' h' tk,IntsAre vs ns'->ns'=ns->(∀ b o,s.heap.get? b=some o->h'.get? b=some o)->R vs { s with heap:=h',toks:=tk })->wpAny (model prog w) A (collect x) R E s)
  (hh:A.handled=none)
  (h:∀ (h1 h2:Heap) (tk e:Nat) (out:Array Value) (ns':List Int),IntsAre out.toList ns'->ns'.Perm ns->ns'.Pairwise (·<=·)->(∀ b o,s.heap.get? b=some o->h1.get? b=some o)->h2.get? h1.objs.size=some (seqObj "list" out e)->
   (∀ b o,h1.get? b=some o->h2.get? b=some o)->Q (.ref h1.objs.size) { s with heap:=h2,toks:=tk }) :
  wpAny (model prog w) A (call (.builtin "sorted") [x]) Q E s:=by
 refine Calls.call_function_entry kind_sorted plain_sorted entry_sorted (args_sorted1 _) ?_
 unfold Builtin.«sorted»
 refine wpAny_bind (m:=checkCount "sorted" 1 1 _) (wpAny_pure ?_)
 refine wpAny_bind (hcol _ _ (by simp[hh]) fun vs ms h' tk hI' e hk=>?_)
 subst e
 have hl:vs.length < 64:=by rw[hI'.length,<-hI.length]; exact h64
 refine wpAny_bind (wpAny_newList ?_)
 refine wpAny_bind (wpAny_holding (wpAny_call_entry slot_list_sort ⟨_,Y0a _ rfl,rfl⟩ entry_list_sort (list_sort_tree (Y0a _ rfl) hI' hl fun out ns' a1 a2 a3=>⟨_,rfl,?_⟩) (args_list_sort _)))
 obtain⟨e,he⟩:=sortedHeap_at (out:=out) (n:=0) (show (h'.push (seqObj "list" vs.toArray 0)).get? h'.objs.size=some (seqObj "list" vs.toArray 0) from Y0a _ rfl)
 have old:∀ b o,h'.get? b=some o->(sortedHeap (h'.push (seqObj "list" vs.toArray 0)) h'.objs.size vs out).get? b=some o:=fun b o q1=>by
  have q2:=Y07 q1
  rw[sortedHeap_old (Y0k q2) (by rw[Y1u]; exact Y1h q2)]
  exact Y02 _ q1
 exact wpAny_pure ⟨_,rfl,h _ _ _ _ out ns' a1 a2 a3 hk he old⟩
end
section
variable {X:Cx}{pins:List (Addr×Obj)}{σ:St}{H:Hp}{s:Shared}
theorem Inv.turnLaid {fp:List Addr}{T:Addr}{o:HO}{h':Heap}{t':Nat}(I:Inv X pins σ H s)(hf:∀ b∈fp,Z7O X pins H b)(hT:s.heap.objs.size<=T)
  (k:∀ b ob,b∉fp->s.heap.get? b=some ob->h'.get? b=some ob) (new:Z1j X.prog X.w (upd H T o) h' T o):Inv X pins σ (upd H T o) { s with heap:=h',toks:=t' }:=by
 have hn:H T=none:=I.hok.fresh hT
 have neT:∀ b ob,s.heap.get? b=some ob->b≠T:=fun b ob e=>Y0k (Y0g (Y07 e) hT)
 have nfp:∀ b u,H b=some u->b∉fp:=fun b u e hb=>by rw[(hf b hb).1]at e; cases e
 refine I.step (g':=s.gens) (d':=s.drawn) (ch:=fp) (fun b hb=>⟨(hf b hb).2.2.2.1,(hf b hb).2.1,(hf b hb).2.2.2.2.1,(hf b hb).2.2.2.2.2⟩) (fun b ob _ _ hc e _=>k b ob hc e) (fun b ob _ _ hc e _=>⟨ob.slots,k b ob hc e⟩)
  (fun b ob _ e n=>by rw[Z0i (neT b ob e)]; exact n) (fun b ob hc e=>⟨ob,k b ob hc e⟩) (fun b xs e=>by rw[Z0i (Z0s e hn)]; exact e) (fun b ob u e=>by rw[Z0i (Z0s e hn)]; exact e)
  (fun b ps e=>⟨#[],by rw[Z0i (Z0s e hn),e]; simp⟩) (fun m hm=>?_) (fun b u e=>?_) I.bare
 ·obtain⟨ob,es,ep,ho,r⟩:=hm
  exact⟨ob,es,ep,k _ ob (fun hb=>(hf _ hb).2.1 rfl) ho,r⟩
 ·by_cases hb:b=T
  ·subst hb; rw[Z06]at e; cases e; exact new
  ·rw[Z0i hb]at e
   refine (I.hok b u e).stay (fun c v hc q=>k c v ?_ q) (fun c q=>by rw[Z0i (Z0s q hn)]; exact q) fun c xs q=>by rw[Z0i (Z0s q hn)]; exact q
   rcases hc with z | z
   ·rw[z]; exact nfp b u e
   ·exact nfp c _ z
theorem Inv.turnedL {fp:List Addr}{h':Heap}{t':Nat}(I:Inv X pins σ H s)(hf:∀ b∈fp,Z7O X pins H b)(k:∀ b ob,b∉fp->s.heap.get? b=some ob->h'.get? b=some ob):Inv X pins σ H { s with heap:=h',toks:=t' }:=by
 have nfp:∀ b u,H b=some u->b∉fp:=fun b u e hb=>by rw[(hf b hb).1]at e; cases e
 refine I.step (g':=s.gens) (d':=s.drawn) (ch:=fp) (fun b hb=>⟨(hf b hb).2.2.2.1,(hf b hb).2.1,(hf b hb).2.2.2.2.1,(hf b hb).2.2.2.2.2⟩) (fun b ob _ _ hc e _=>k b ob hc e) (fun b ob _ _ hc e _=>⟨ob.slots,k b ob hc e⟩)
  (fun _ _ _ _ n=>n) (fun b ob hc e=>⟨ob,k b ob hc e⟩) (fun _ _ e=>e) (fun _ _ _ e=>e) (fun b ps e=>⟨#[],by rw[e]; simp⟩) (fun m hm=>?_) (fun b u e=>?_) I.bare
 ·obtain⟨ob,es,ep,ho,r⟩:=hm
  exact⟨ob,es,ep,k _ ob (fun hb=>(hf _ hb).2.1 rfl) ho,r⟩
 ·refine (I.hok b u e).stay (fun c v hc q=>k c v ?_ q) (fun _ q=>q) fun _ _ q=>q
  rcases hc with z | z
  ·rw[z]; exact nfp b u e
  ·exact nfp c _ z
end
def ZcH (T:Addr)(xs:List V):HO:=.ext fun h=>xs.length<=sizeLine/\∃ its:List Value,Z13 xs its/\IsTup h T its.toArray
theorem Zcr {P:Program}{w:World}{H:Hp}{h:Heap}{T:Addr}{xs:List V}(q:xs.length<=sizeLine/\∃ its:List Value,Z13 xs its/\IsTup h T its.toArray):Z1j P w H h T (ZcH T xs):=by
 obtain⟨z,its,r,o,e,c⟩:=id q
 exact⟨q,⟨o,e⟩,fun h1 h2 ⟨z',its',r',o',e',c'⟩ k=>⟨z',its',r',o',k _ e',c'⟩⟩
def Zfk (n:Nat)(t:TGs):TG:=fun v σ H Q=>∃ a xs,v=.ref a/\H a=some (ZcH a xs)/\xs.length=n/\t xs σ H Q
theorem Zbq {es:List Expr}{k:Nat}{t:TGs}{n:Nat}{pos:Pos}(hc:X.calm=true)(h:PGs X es t)
  (hn:(assignEach es X.env).length=n:=by rfl) (hst:(assignEach es X.env).findIdx? (·.1)=none:=by rfl):PG X (.Tuple es k pos) (Zfk n t):=by
 intro pins s σ H v u Q I r hw
 obtain⟨a,xs,e1,hq,hl,hw⟩:=hw
 subst e1
 cases r
 obtain⟨⟨hz,its,rv,ht⟩,_⟩:=I.hok a _ hq
 refine assign_Tuple_tuple (I.ok.hd hc) ht (by simp[hn,<-hl,rv.length]) hst fun h' hx=>?_
 have I1:Inv X pins σ H { s with heap:=h' }:=I.kept (t':=s.toks) fun b o e=>hx b o (Y0k (Y07 e)) e
 exact h pins _ σ H xs _ Q I1 (by simpa using rv) hw
def Zeb (sq:Hp->List V->Prop):It:=
 ⟨fun i H=>∃ xs x,sq H xs/\xs[i]?=some x,fun i H x H'=>∃ T y,H T=none/\x=.ref T/\(∀ xs,sq H xs->xs[i]?=some y)/\H'=upd H T (ZcH T [.int (i:Int),y]),fun i H=>∃ xs,sq H xs/\xs.length=i⟩
theorem ZaZ {h:Heap}{a b:Addr}{o u:Obj}(h1:h.get? a=some o)(h2:h.get? b=some u)(d:o.cls≠u.cls):a≠b:=by
 intro e; subst e; rw[h1]at h2; cases h2; exact d rfl
theorem Z8U {P:Program}{w:World}{K:Y00}{elts:List Expr}{k:Nat}{pos:Pos}(sq:Hp->List V->Prop)(isq:Heap->Array Value->Prop)(isit:Nat->Heap->Prop)(e it:Addr)
  (obj:∀ i h,isit i h->∃ o,h.get? it=some o/\∀ v,o.data≠.cell v) (keep:∀ i h h',isit i h->(∀ o,h.get? it=some o->h'.get? it=some o)->isit i h')
  (rd:∀ (X:Cx) (pins:List (Addr×Obj)) (σ:St) (H:Hp) (s:Shared) (xs:List V),X.K=K->Inv X pins σ H s->sq H xs->(∃ its:List Value,Z13 xs its/\isq s.heap its.toArray)/\∀ ys,sq H ys->ys=xs)
  (W:∀ (A:Around) (items:Array Value) (h:Heap) (i:Nat),A.handled=none->isq h items->isit i h->(∃ old,IsEnum h e it i old)->∃ fp Mid,WalksT P w A e fp [e,it] items.size (fun i vals=>∃ t x,items[i]?=some x/\vals=#[.int (i:Int) t,x])
   (fun i h=>(∃ old,IsEnum h e it i old)/\isit i h/\isq h items) Mid) :
  Zes P w K (.Tuple elts k pos) (Zeb sq) [e,it] e (fun i h=>(∃ old,IsEnum h e it i old)/\isit i h) where
 mem:=by simp
 obj:=fun i h st b hb=>by
  obtain⟨⟨old,he⟩,q⟩:=st
  rcases Y0v.mp hb with rfl | hb
  ·exact⟨_,he,fun v z=>nomatch z⟩
  ·rw[Y0n.mp hb]; exact obj i h q
 keep:=fun i h h' st kp=>⟨let ⟨old,he⟩:=st.1; ⟨old,kp e (by simp) _ he⟩,keep i h h' st.2 fun o q=>kp it (by simp) o q⟩
 item:=by
  intro X hP hw hK hc i pins s σ H E I hf st hg
  subst hP hw
  obtain⟨xs,x,hq,hx⟩:=hg
  obtain⟨⟨its,rv,hL⟩,inj⟩:=rd X pins σ H s xs hK I hq
  obtain⟨old,he⟩:=id st.1
  obtain⟨oi,hoi,_⟩:=obj _ _ st.2
  have hlt:i < its.toArray.size:=by
   have:=(Y04.mp hx).1
   rw[rv.length]at this; simpa using this
  obtain⟨fp,Mid,W⟩:=W X.A its.toArray s.heap i (I.ok.hd hc) hL st.2 st.1
  refine W.item i s _ E hlt ⟨st.1,st.2,hL⟩ fun T vals h' tk hPt hT htup hMid hk=>⟨.ref T,rfl,?_⟩
  refine W.go elts k pos i T _ _ E hMid fun h'' hSt hk2=>?_
  obtain⟨t,y',hy',rfl⟩:=hPt
  obtain⟨u,hu,ry⟩:=rv.get hx
  have e1:y'=u:=by
   have:its[i]?=some y':=by simpa using hy'
   rw[hu]at this; exact (Option.some.inj this).symm
  subst e1
  have htup2:IsTup h'' T #[.int (i:Int) t,y']:=by
   obtain⟨o,q1,q2⟩:=htup
   exact⟨o,hk2 T o (W.apart _ _ _ hMid) q1,q2⟩
  refine⟨.ref T,upd H T (ZcH T [.int (i:Int),x]),?_,rfl,⟨T,x,I.hok.fresh hT,rfl,fun zs hzs=>by rw[inj zs hzs]; exact hx,rfl⟩,⟨hSt.1,hSt.2.1⟩,fun b hb=>?_⟩
  ·exact I.turnLaid (s:=s) (h':=h'') (t':=tk) hf hT (fun b ob hb q=>hk2 b ob hb (hk b ob hb q)) (Zcr ⟨by show 2<=sizeLine; decide,[.int (i:Int) t,y'],.cons ⟨t,rfl⟩ (.cons ry .nil),htup2⟩)
  ·have hbT:b≠T:=fun z=>by
    have:b < s.heap.objs.size:=by
     rcases Y0v.mp hb with rfl | hb
     ·exact Y07 he
     ·rw[Y0n.mp hb]; exact Y07 hoi
    exact absurd (Y0g this hT) (by rw[z]; exact Y23 _)
   rw[Z0i hbT]; exact (hf b hb).1
 done:=by
  intro X hP hw hK hc i pins s σ H E I hf st hs
  subst hP hw
  obtain⟨xs,hq,hle⟩:=hs
  obtain⟨⟨its,rv,hL⟩,inj⟩:=rd X pins σ H s xs hK I hq
  obtain⟨fp,Mid,W⟩:=W X.A its.toArray s.heap i (I.ok.hd hc) hL st.2 st.1
  have hi:i=its.toArray.size:=by rw[<-hle,rv.length]; simp
  refine W.done s _ E (by rw[<-hi]; exact⟨st.1,st.2,hL⟩) fun h' tk hk=>⟨rfl,?_⟩
  exact I.turnedL hf hk
 self:=fun A i s Q E st h=>by obtain⟨⟨old,he⟩,_⟩:=st; exact wpAny_pyIter_enum he h
section
variable {X:Cx}{elts:List Expr}{k:Nat}{tpos:Pos}
def ZeA (K:Y00)(ta:TA):TI:=fun σ H R=>ta σ H fun vs H1=>∃ a,vs=[.ref a]/\(∃ xs,SqT K H1 a xs)/\R (Zeb fun H xs=>SqT K H a xs) H1
theorem Z8A:bootBuiltins "enumerate"=some (.type "enumerate"):=by decide +kernel
theorem Zau {l:Expr}{ta:TA}{p pos:Pos}(hg:Gl X "enumerate")(hm:X.mg "enumerate"=none)(ha:PA X [l] ta)(hs:starEach [l] X.env=[(false,eval l X.env)]:=by rfl) :
  PI X (.Tuple elts k tpos) (.Call (.Name "enumerate" p) [l] [] pos) (ZeA X.K ta):=by
 intro pins s σ H R I h
 refine Call_ (Z4T I hg hm Z8A (PyProof.Rows.callWith_type1 (thn (ha pos pins s σ H _ I h) fun us s1 ⟨vs,H1,I1,r1,q1⟩=>?_) hs rfl))
 obtain⟨a,rfl,⟨xs,hq⟩,q⟩:=q1
 obtain⟨u,rfl,ru⟩:=Z3J r1
 obtain rfl:u=Value.ref a:=ru
 obtain⟨its,rv,p,hz⟩:=I1.tuple hq
 refine Z2G (show s1.heap.IsTuple a its.toArray from p) fun h' he hit hsz hk=>?_
 refine wpAny_pyIter_enum he ?_
 have I2:Inv X pins σ H1 { s1 with heap:=h' }:=I1.kept (t':=s1.toks) hk
 refine⟨s1.heap.objs.size+1,[s1.heap.objs.size+1,s1.heap.objs.size],_,_,H1,rfl,I2,Z8U (fun H xs=>SqT X.K H a xs) (fun h its=>h.IsTuple a its) (fun i h=>h.IsTupleIter s1.heap.objs.size a i) (s1.heap.objs.size+1) s1.heap.objs.size ?_ ?_ ?_ ?_,⟨⟨_,he⟩,hit⟩,fun b hb=>?_,q⟩
 ·rintro i h ⟨o,q1,q2,q3⟩
  exact⟨o,q1,fun v z=>by rw[q3]at z; cases z⟩
 ·rintro i h h' ⟨o,q1,q2⟩ kp
  exact⟨o,kp o q1,q2⟩
 ·intro X' pins' σ' H' s' ys hK I' hq'
  rw[<-hK]at hq'
  obtain⟨its',rv',p',_⟩:=I'.tuple hq'
  exact⟨⟨its',rv',p'⟩,fun zs hz=>I'.tuple_inj (by rw[hK]; exact hz) hq'⟩
 ·intro A items h i hh hL hI hE
  obtain⟨old,hE⟩:=hE
  obtain⟨ol,hol,hcl,_⟩:=id hL
  obtain⟨oi,hoi,hci,_⟩:=id hI
  have hne:a≠s1.heap.objs.size:=ZaZ hol hoi (by rw[hcl,hci]; decide)
  have hne2:a≠s1.heap.objs.size+1:=ZaZ hol hE (by rw[hcl]; show Value.type "tuple"≠Value.type "enumerate"; decide)
  exact⟨_,_,WalksT.enumerateD (Z6z (A:=A.in1) hh s1.heap.objs.size a hne items) (s1.heap.objs.size+1) (Nat.succ_ne_self _) (fun hm=>(Y0v.mp hm).elim (Nat.succ_ne_self _) fun hm=>hne2 (Y0n.mp hm).symm) (by simp)⟩
 ·rcases Y0v.mp hb with rfl | hb
  ·exact I1.fpOk (Nat.le_succ _) (I1.hok.fresh (Nat.le_succ _))
  ·rw[Y0n.mp hb]; exact I1.fpOk (Y03 _) (I1.hok.fresh (Y03 _))
end
theorem Z6O {P:Program}{w:World}{k:Key}{u:Value}(h:(Z0W P w).is k u=true):Z17 (kV k) u:=by
 rcases Z0Q (show Z6N k u=true from h) with ⟨i,t,rfl,rfl⟩ | ⟨x,t,rfl,rfl⟩
 ·exact⟨t,rfl⟩
 ·exact⟨t,rfl⟩
section
variable {X:Cx}{elts:List Expr}{k:Nat}{tpos:Pos}
end
section
variable {X:Cx}
theorem Z4l:Z2F X (.type "range") (fun xs H Q=>∃ j:Int,xs=[.int j]/\∀ r,H r=none->Q (.ref r) (upd H r (.rng 0 j))):=by
 intro pins s σ H xs us Q I r h
 obtain⟨j,rfl,q⟩:=h
 obtain⟨u,rfl,t,rfl⟩:=Z3J r
 refine call_range_1 ⟨.ref s.heap.objs.size,_,I.laid (a:=s.heap.objs.size) (o:=.rng 0 j) (fun _ _ e=>Y02 _ e) (Y03 _) ⟨_,_,_,Y0a _ rfl⟩,rfl,q _ (I.hok.fresh (Y03 _))⟩
theorem Z31 (hc:X.calm=true):Z2F X (.type "list") (fun xs H Q=>∃ (r:Addr) (n:Nat),xs=[.ref r]/\H r=some (.rng 0 (n:Int))/\n<=1000/\∀ l,H l=none->Q (.ref l) (upd H l (.lst (nv (Y05 n))))):=by
 intro pins s σ H xs us Q I r h
 obtain⟨a,n,rfl,ha,hn,q⟩:=h
 obtain⟨u,rfl,ru⟩:=Z3J r
 obtain rfl:u=Value.ref a:=ru
 obtain⟨t,u',v',e⟩:=(show Z1j X.prog X.w H s.heap a (.rng 0 (n:Int)) from I.hok a _ ha)
 refine call_list_range (n:=n) (I.ok.hd hc) (show IsRange s.heap a 0 (n:Int) 1 t u' v' from e) (small_one (by decide) (by decide) (by lia) (by lia)) (by rw[rangeSize_one]; split <;> lia) (by lia) fun h' tk acc c hk hacc hI=>?_
 refine⟨.ref s.heap.objs.size,_,I.laid (a:=s.heap.objs.size) (o:=.lst (nv (Y05 n))) (h':=h') (t':=tk) hk (Y03 _) ⟨?_,acc.toList,c,?_,by simpa using hacc⟩,rfl,q _ (I.hok.fresh (Y03 _))⟩
 ·rw[Z0z,Y0p]; exact Y11 (Z0A hn)
 ·obtain⟨hsz,hi⟩:=hI
  have key:∀ (m:Nat) (l:List Value),l.length=m->(∀ (j:Nat) (v:Value),l[j]?=some v->∃ t,v=Value.int ((0:Int)+(j:Nat) * 1) t)->Z13 (nv (Y05 m)) l:=by
   intro m
   induction m with
   | zero=>intro l hl _; rw[List.length_eq_zero_iff.mp hl]; exact .nil
   | succ m ih=>
    intro l hl hv
    have hne:l≠[]:=by intro e; rw[e]at hl; simp at hl
    rw[<-List.dropLast_concat_getLast hne,Y1a]
    have e1:nv (Y05 m++[m])=nv (Y05 m)++nv [m]:=by simp[nv]
    rw[e1]
    refine Z13.append (ih l.dropLast (by simp[hl]) fun j v hj=>?_) (.cons ?_ .nil)
    ·have hjl:j < l.dropLast.length:=(Y04.mp hj).1
     refine hv j v ?_
     rw[List.getElem?_dropLast]at hj
     split at hj
     ·exact hj
     ·cases hj
    ·obtain⟨t,e⟩:=hv m (l.getLast hne) (by rw[List.getLast_eq_getElem,<-Y01]; congr 1; lia)
     exact⟨t,by rw[e]; congr 1; lia⟩
  exact key n acc.toList (by simpa using hsz) fun j v hj=>hi j v (by simpa using hj)
def Zcy (K:Y00)(H:Hp)(p:Addr)(r:List Nat):Prop:=SqL K H p (nv r)\/SqT K H p (nv r)\/∃ kvs,H p=some (.dK kvs)/\kvs.map (·.1)=r.map fun (n:Nat)=>Sum.inl (n:Int)
theorem Z4d:∀ {r:List Nat} {us:List Value},Z13 (nv r) us->IntsAre us (r.map fun (n:Nat)=>(n:Int)):=fun {r us} h=>Z7C (by rw[List.map_map]; exact h)
theorem Zc7 {ms:List Int}{r:List Nat}(p:ms.Perm (r.map fun (n:Nat)=>(n:Int)))(so:ms.Pairwise (·<=·)):∃ S:List Nat,ms=S.map (fun (n:Nat)=>(n:Int))/\S.Perm r/\S.Pairwise (·<=·):=by
 have hn:∀ m∈ms,0<=m:=fun m hm=>by
  obtain⟨n,_,rfl⟩:=Y0f.mp (p.mem_iff.mp hm)
  exact Int.natCast_nonneg n
 have e:ms=(ms.map Int.toNat).map fun (n:Nat)=>(n:Int):=by
  rw[List.map_map]
  conv=>lhs; rw[<-List.map_id ms]
  exact List.map_congr_left fun m hm=>by simp[Int.toNat_of_nonneg (hn m hm)]
 refine⟨ms.map Int.toNat,e,?_,?_⟩
 ·have:=p.map Int.toNat
  rw[List.map_map]at this
  have e2:r.map (Int.toNat ∘ fun (n:Nat)=>(n:Int))=r:=by
   conv=>rhs; rw[<-List.map_id r]
   exact List.map_congr_left fun m _=>by simp
  rw[e2]at this; exact this
 ·exact Y0t.mpr (so.imp_of_mem fun ha hb h=>by have:=hn _ ha; have:=hn _ hb; lia)
theorem Z5S {us:List Value}{S:List Nat}(h:IntsAre us (S.map fun (n:Nat)=>(n:Int))):Z13 (nv S) us:=by
 have:=Z4a h
 rw[List.map_map]at this
 exact this
def ZcA (K:Y00):List V->Hp->VK->Prop:=fun xs H Q=>∃ (p:Addr) (r:List Nat),xs=[.ref p]/\Zcy K H p r/\r.length < 64/\∀ l S,H l=none->S.Perm r->S.Pairwise (·<=·)->Q (.ref l) (upd H l (.lst (nv S)))
theorem Z6K (hc:X.calm=true):Z2F X (.builtin "sorted") (ZcA X.K):=by
 intro pins s σ H xs us Q I rr h
 obtain⟨p,r,rfl,src,h64,q⟩:=h
 obtain⟨u,rfl,ru⟩:=Z3J rr
 obtain rfl:u=Value.ref p:=ru
 have hh:=I.ok.hd hc
 have fin:∀ (vs:List Value),IntsAre vs (r.map fun (n:Nat)=>(n:Int))->
   (∀ (A:Around) (R:List Value->Shared->Prop),A.handled=none->(∀ vs ns' h' tk,IntsAre vs ns'->ns'=(r.map fun (n:Nat)=>(n:Int))->(∀ b o,s.heap.get? b=some o->h'.get? b=some o)->R vs { s with heap:=h',toks:=tk })->wpAny (model X.prog X.w) A (collect (.ref p)) R X.xe s)->
   wpAny (model X.prog X.w) X.A (call (.builtin "sorted") [.ref p]) (EP X pins σ Q) X.xe s:=by
  intro vs hI hcol
  refine Z9m hI (by rw[hI.length,Y08]; exact h64) hcol hh fun h1 h2 tk e out ns' a1 a2 a3 hk ho hk2=>?_
  obtain⟨S,rfl,pS,sS⟩:=Zc7 a2 a3
  have I1:Inv X pins σ H { s with heap:=h1,toks:=tk }:=I.kept hk
  have hlen:S.length < 64:=by rw[pS.length_eq]; exact h64
  refine⟨.ref h1.objs.size,_,I1.laid (a:=h1.objs.size) (o:=.lst (nv S)) (h':=h2) (t':=tk) hk2 (Y03 _) ⟨?_,out.toList,e,Z5S a1,by simpa using ho⟩,rfl,q _ S (I1.hok.fresh (Y03 _)) pS sS⟩
  rw[Z0z]; exact Y11 (Z0A (by lia))
 rcases src with hq | hq | ⟨kvs,hd,hkeys⟩
 ·obtain⟨its,rv,pl,hz⟩:=I.list hq
  refine fin its (Z4d rv) fun A R hA hR=>?_
  refine collect_list pl.isList (hR its _ _ s.toks (Z4d rv) rfl fun b o e=>?_) (by rw[<-rv.length]; exact hz)
  exact (Y15 _ _ (Nat.ne_of_gt (Y07 e))).trans (Y02 _ e)
 ·obtain⟨its,rv,pl,hz⟩:=I.tuple hq
  refine fin its (Z4d rv) fun A R hA hR=>?_
  exact Z6r (show s.heap.IsTuple p its.toArray from pl) (by rw[<-rv.length]; exact hz) fun h' hk=>hR its _ _ s.toks (Z4d rv) rfl hk
 ·obtain⟨z,hs,vs,rv,dd⟩:=Zcl I.hok hd
  obtain⟨ep,da⟩:=dd.dictAt
  have hks:vs.map (·.1)=r.map fun (n:Nat)=>Sum.inl (n:Int):=by rw[<-rv.keys]; exact hkeys
  have key:∀ (l:List Value),l.length=vs.length->(∀ (j:Nat) (v:Value),l[j]?=some v->∃ k x,vs[j]?=some (k,x)/\(Z0W X.prog X.w).is k v=true)->IntsAre l (r.map fun (n:Nat)=>(n:Int)):=by
   intro l hl hj
   refine Z4d ?_
   have hlr:l.length=r.length:=by rw[hl]; simpa using congrArg List.length hks
   have:∀ (r':List Nat) (l':List Value),l'.length=r'.length->(∀ (j:Nat) (v:Value),l'[j]?=some v->∃ n,r'[j]?=some n/\∃ t,v=Value.int (n:Int) t)->Z13 (nv r') l':=by
    intro r'
    induction r' with
    | nil=>intro l' hl _; rw[List.length_eq_zero_iff.mp hl]; exact .nil
    | cons n r' ih=>
     intro l' hl hj
     cases l' with
     | nil=>simp at hl
     | cons v l'=>
      obtain⟨m,em,t,ev⟩:=hj 0 v rfl
      simp at em
      subst em
      exact .cons ⟨t,ev⟩ (ih l' (by simpa using hl) fun j v hv=>by simpa using hj (j+1) v (by simpa using hv))
   refine this r l hlr fun j v hv=>?_
   obtain⟨k,x,e1,e2⟩:=hj j v hv
   have e3:(r.map fun (n:Nat)=>(Sum.inl (n:Int):Key))[j]?=some k:=by rw[<-hks,Y10,e1]; rfl
   rw[Y10]at e3
   cases en:r[j]? with
   | none=>rw[en]at e3; cases e3
   | some n=>
    rw[en]at e3
    have e4:(Sum.inl (n:Int):Key)=k:=Option.some.inj e3
    subst e4
    obtain⟨t,et⟩:=(show ∃ t,v=Value.int (n:Int) t from Z6O e2)
    exact⟨n,rfl,t,et⟩
  obtain⟨l0,hl0,hj0⟩:∃ l:List Value,l.length=vs.length/\∀ (j:Nat) (v:Value),l[j]?=some v->∃ k x,vs[j]?=some (k,x)/\(Z0W X.prog X.w).is k v=true:=by
   refine⟨vs.map fun kv=>match kv.1 with | Sum.inl i=>Value.int i 0 | Sum.inr x=>Value.str x 0,by simp,fun j v hv=>?_⟩
   rw[Y10]at hv
   cases e:vs[j]? with
   | none=>rw[e]at hv; cases hv
   | some kv=>
    rw[e]at hv
    obtain⟨k,x⟩:=kv
    refine⟨k,x,rfl,?_⟩
    cases k with
    | inl i=>cases hv; exact Z49 _ _ i 0
    | inr x=>cases hv; exact Z4v _ _ x 0
  refine fin l0 (key l0 hl0 hj0) fun A R hA hR=>?_
  refine PySem.W.kdu_collect (PySem.W.kdl_dict (knd:=Z0W X.prog X.w) (kvs:=vs) (ep:=ep) hs) hA da (by rw[<-rv.length]; exact z) fun h' tk acc hk hacc=>?_
  exact hR acc.toList _ h' tk (key acc.toList (by simpa using hacc.1) fun j v hv=>hacc.2 j v (by simpa using hv)) rfl hk
end
theorem ZdP {sq:Hp->List V->Prop}{xs:List V}{g:TG}{tb:TS}{D:Z8u}{σ:St}{H:Hp}(Pv:Nat->St->Hp->Prop)(h0:Pv 0 σ H)(hl:∀ i σ H,i<=xs.length->Pv i σ H->sq H xs)
  (hs:∀ i x σ H T,xs[i]?=some x->H T=none->Pv i σ H->g (.ref T) σ (upd H T (ZcH T [.int (i:Int),x])) fun σ2 H2=>tb { D with nx:=Pv (i+1),ct:=Pv (i+1),bk:=D.nx } σ2 H2) (hd:∀ σ H,Pv xs.length σ H->D.nx σ H) :
  ∃ W:Nat->Nat->St->Hp->Prop,(∃ m,W 0 m σ H)/\∀ i m σ H,W i m σ H->
   ((Zeb sq).stop i H/\D.nx σ H)\/((Zeb sq).go i H/\∃ N:St->Hp->Prop,(∀ σ' H',N σ' H'->∃ m',m' < m/\W (i+1) m' σ' H')/\∀ x H',(Zeb sq).yld i H x H'->g x σ H' fun σ2 H2=>tb { D with nx:=N,ct:=N,bk:=D.nx } σ2 H2):=by
 refine⟨fun i m σ H=>m=xs.length - i/\i<=xs.length/\Pv i σ H,⟨xs.length,by simp,Y0s _,h0⟩,?_⟩
 rintro i m σ H ⟨rfl,hi,p⟩
 have q:=hl i σ H hi p
 by_cases hlt:i < xs.length
 ·refine .inr ⟨⟨xs,xs[i],q,by simp[hlt]⟩,Pv (i+1),fun σ' H' p'=>⟨xs.length - (i+1),by omega,rfl,hlt,p'⟩,fun x H' y=>?_⟩
  obtain⟨T,z,hT,rfl,hz,rfl⟩:=y
  exact hs i z σ H T (hz xs q) hT p
 ·have e:i=xs.length:=by omega
  subst e
  exact .inl ⟨⟨xs,q,rfl⟩,hd σ H p⟩
def Zdj (n:Nat)(ys:List V)(Pv:Nat->St->Hp->Prop)(d:Addr)(i:Nat)(σ3:St)(y:V)(H4:Hp):Prop:=
 ∃ xs,H4 d=some (.lst xs)/\xs.length < sizeLine/\∃ m',m' < n - i/\m'=n - (i+1)/\i+1<=n/\Pv (i+1) σ3 (upd H4 d (.lst (xs++[y])))/\(upd H4 d (.lst (xs++[y]))) d=some (.lst (ys.take (i+1)))
theorem Zad {n:Nat}{ys:List V}{Pv:Nat->St->Hp->Prop}{d:Addr}{i:Nat}{σ3:St}{y:V}{H4:Hp}(hi:i < n)(hn:n<=1000)(hd:H4 d=some (.lst (ys.take i)))(hy:ys[i]?=some y)(hp:Pv (i+1) σ3 (upd H4 d (.lst (ys.take (i+1))))) :
  Zdj n ys Pv d i σ3 y H4:=by
 have e:ys.take (i+1)=ys.take i++[y]:=by rw[Y1i,hy]; rfl
 refine⟨_,hd,?_,n - (i+1),by omega,rfl,hi,by rw[<-e]; exact hp,by rw[Z06,e]⟩
 have:(ys.take i).length<=i:=by rw[Y0x]; exact Nat.min_le_left _ _
 exact Z0A (by omega)
theorem Z52 {J:It}{g:TG}{te:TE}{d:Addr}{σ0:St}{H1:Hp}{Q:Addr->Hp->Prop}(n:Nat)(ys:List V)(hy:ys.length=n)(Pv:Nat->St->Hp->Prop)(h0:Pv 0 σ0 (upd H1 d (.lst [])))
  (go:∀ i σ H,i < n->Pv i σ H->H d=some (.lst (ys.take i))->J.go i H/\∀ x H2,J.yld i H x H2->g x σ H2 fun σ3 H3=>te σ3 H3 fun y H4=>Zdj n ys Pv d i σ3 y H4)
  (stop:∀ σ H,Pv n σ H->H d=some (.lst ys)->J.stop n H/\Q d H) :
  ∃ W:Nat->Nat->St->Hp->Prop,(∃ m,W 0 m σ0 (upd H1 d (.lst [])))/\∀ i m σ' H',W i m σ' H'->
   (J.stop i H'/\Q d H')\/(J.go i H'/\∀ x H2,J.yld i H' x H2->g x σ' H2 fun σ3 H3=>te σ3 H3 fun y H4=>∃ xs,H4 d=some (.lst xs)/\xs.length < sizeLine/\∃ m',m' < m/\W (i+1) m' σ3 (upd H4 d (.lst (xs++[y])))):=by
 refine⟨fun i m σ H=>m=n - i/\i<=n/\Pv i σ H/\H d=some (.lst (ys.take i)),⟨n,by simp,Y0s _,h0,Z06⟩,?_⟩
 rintro i m σ H ⟨rfl,hi,p,hd⟩
 by_cases hlt:i < n
 ·exact .inr (go i σ H hlt p hd)
 ·have e:i=n:=by omega
  subst e
  rw[List.take_of_length_le (by omega)]at hd
  exact .inl (stop σ H p hd)
end L2
namespace Sq
theorem Z2v {α:Type}[DecidableEq α]:∀ (l l':List α),l.Nodup->(∀ x∈l,x∈l')->l.length<=l'.length
 | [],_,_,_=>Y0s _
 | a :: l,l',nd,h=>by
  have nd':=List.nodup_cons.mp nd
  have ha:a∈l':=h a Y1t
  have:=Z2v l (l'.erase a) nd'.2 fun x hx=>by
   have hne:x≠a:=fun e=>nd'.1 (e ▸ hx)
   exact (List.mem_erase_of_ne hne).mpr (h x (Y0m _ hx))
  rw[List.length_erase_of_mem ha]at this
  have:=List.length_pos_of_mem ha
  simp only[Y18]; lia
theorem full {α:Type}[DecidableEq α]{l l':List α}(nd:l.Nodup)(h:∀ x∈l,x∈l')(hl:l'.length<=l.length):∀ x∈l',x∈l:=fun x hx=>by
 refine Classical.byContradiction fun hn=>?_
 have h1:(x :: l).Nodup:=List.nodup_cons.mpr ⟨hn,nd⟩
 have h2:=Z2v (x :: l) l' h1 fun y hy=>by
  rcases Y0v.mp hy with rfl | hy
  ·exact hx
  ·exact h y hy
 simp only[Y18]at h2; lia
theorem Zbh {α:Type}{l:List α}(nd:l.Nodup){i j:Nat}(hi:i < l.length)(hj:j < l.length)(e:l[i]=l[j]):i=j:=by
 have h:=Y1v.mp nd
 rcases Nat.lt_trichotomy i j with c | c | c
 ·exact absurd e (h i j hi hj c)
 ·exact c
 ·exact absurd e.symm (h j i hj hi c)
structure Row (n:Nat)(r:List Nat):Prop where
 len:r.length=n
 nd:r.Nodup
 lt:∀ x∈r,x < n
abbrev nx (r:List Nat)(x:Nat):Nat:=r.getD x 0
section
variable {n:Nat}{r:List Nat}
theorem Row.get (h:Row n r){i:Nat}(hi:i < n):r[i]?=some (nx r i):=by
 have:i < r.length:=by rw[h.len]; exact hi
 simp[nx,List.getD,Y01 this]
theorem Row.mem (h:Row n r){i:Nat}(hi:i < n):nx r i∈r:=Y0d (h.get hi)
theorem Row.nlt (h:Row n r){i:Nat}(hi:i < n):nx r i < n:=h.lt _ (h.mem hi)
theorem Row.has (h:Row n r){x:Nat}(hx:x < n):x∈r:=by
 refine full h.nd (l':=Y05 n) (fun y hy=>Y06.mpr (h.lt y hy)) (by simp[h.len]) x (Y06.mpr hx)
theorem Row.inj (h:Row n r){i j:Nat}(hi:i < n)(hj:j < n)(e:nx r i=nx r j):i=j:=by
 have h1:i < r.length:=by rw[h.len]; exact hi
 have h2:j < r.length:=by rw[h.len]; exact hj
 have e':r[i]=r[j]:=by simpa [nx,List.getD,Y01 h1,Y01 h2] using e
 exact Zbh h.nd h1 h2 e'
theorem Row.idx_lt (h:Row n r){x:Nat}(hx:x < n):r.idxOf x < n:=by
 have:=Y16 (h.has hx)
 rwa [h.len]at this
theorem Row.nx_idx (h:Row n r){x:Nat}(hx:x < n):nx r (r.idxOf x)=x:=by
 have h1:=Y16 (h.has hx)
 simp[nx,List.getD,Y01 h1]
theorem Row.idx_nx (h:Row n r){i:Nat}(hi:i < n):r.idxOf (nx r i)=i:=
 h.inj (h.idx_lt (h.nlt hi)) hi (h.nx_idx (h.nlt hi))
theorem Row.of_perm {l:List Nat}(p:l.Perm (Y05 n)):Row n l where
 len:=by simpa using p.length_eq
 nd:=p.nodup_iff.mpr Y1g
 lt:=fun x hx=>Y06.mp (p.mem_iff.mp hx)
end
def back (r:List Nat):List Nat:=(Y05 r.length).map fun x=>r.idxOf x
theorem Z7m (r:List Nat):(back r).length=r.length:=by simp[back]
theorem Z8C {n:Nat}{r:List Nat}(h:Row n r){x:Nat}(hx:x < n):nx (back r) x=r.idxOf x:=by
 have:x < r.length:=by rw[h.len]; exact hx
 simp[nx,back,List.getD,this]
theorem Row.back {n:Nat}{r:List Nat}(h:Row n r):Row n (back r) where
 len:=by rw[Z7m,h.len]
 nd:=by
  refine Y0t.mpr (List.Pairwise.imp_of_mem (fun {a b} ha hb hne e=>hne ?_) (Y1g (n:=r.length)))
  rw[h.len]at ha hb
  have ha:=Y06.mp ha
  have hb:=Y06.mp hb
  rw[<-h.nx_idx ha,e,h.nx_idx hb]
 lt:=fun x hx=>by
  obtain⟨y,hy,rfl⟩:=Y0f.mp hx
  rw[h.len]at hy
  exact h.idx_lt (Y06.mp hy)
def Zg0 (n:Nat)(r u:List Nat)(T:Nat->Prop):Prop:=∀ x,x < n->T x->T (nx r x)/\T (nx u x)
structure Zcz (n:Nat)(r u:List Nat):Prop where
 pos:1<=n
 most:n<=36
 row:Row n r
 col:Row n u
 conn:∀ T:Nat->Prop,T 0->Zg0 n r u T->∀ x,x < n->T x
theorem Z77 {n:Nat}{line left:List Nat}{k:Nat}{y:Nat}(p:(line++left).Perm (Y05 n))(e:left[k]?=some y) :
  ((line++[y])++left.eraseIdx k).Perm (Y05 n):=by
 refine List.Perm.trans ?_ p
 rw[Y0l]
 refine List.Perm.append_left _ ?_
 have hk:k < left.length:=(Y04.mp e).1
 have hy:left[k]=y:=(Y04.mp e).2
 have h1:left=left.take k++left[k] :: left.drop (k+1):=by
  rw[<-Y1w hk,Y1q]
 rw[List.eraseIdx_eq_take_drop_succ]
 conv=>rhs; rw[h1,hy]
 exact (List.perm_middle (a:=y) (l₁:=left.take k) (l₂:=left.drop (k+1))).symm
structure Met (n:Nat)(r u:List Nat)(first:Nat)(M:List Nat)(k:Nat):Prop where
 nd:M.Nodup
 hd:first∈M
 lt:∀ x∈M,x < n
 kle:k<=M.length
 shut:∀ i x,i < k->M[i]?=some x->nx r x∈M/\nx u x∈M
 least:∀ T:Nat->Prop,T first->Zg0 n r u T->∀ x∈M,T x
theorem Met.len {n:Nat}{r u:List Nat}{first:Nat}{M:List Nat}{k:Nat}(h:Met n r u first M k):M.length<=n:=by
 have:=Z2v M (Y05 n) h.nd fun x hx=>Y06.mpr (h.lt x hx)
 simpa using this
theorem Met.start {n:Nat}{r u:List Nat}{first:Nat}(h:first < n):Met n r u first [first] 0 where
 nd:=by simp
 hd:=by simp
 lt:=fun x hx=>by rw[Y0n.mp hx]; exact h
 kle:=Y0s _
 shut:=fun i x hi=>absurd hi (Y1n _)
 least:=fun T h0 _ x hx=>by rw[Y0n.mp hx]; exact h0
def put (M:List Nat)(y:Nat):List Nat:=if y∈M then M else M++[y]
theorem Z1t {M:List Nat}{y x:Nat}:x∈put M y↔x∈M\/x=y:=by
 unfold put; split
 ·rename_i h; exact⟨.inl,fun q=>q.elim id fun e=>e ▸ h⟩
 ·simp
theorem Z6J {M:List Nat}{y x:Nat}{i:Nat}(h:M[i]?=some x):(put M y)[i]?=some x:=by
 unfold put; split
 ·exact h
 ·rw[Y0z (Y04.mp h).1]; exact h
theorem Z9w {M:List Nat}{y:Nat}:M.length<=(put M y).length:=by
 unfold put; split <;> simp
theorem Zbi {M:List Nat}{y:Nat}(h:M.Nodup):(put M y).Nodup:=by
 unfold put; split
 ·exact h
 ·rename_i hy; exact List.nodup_append.mpr ⟨h,by simp,fun a ha b hb e=>hy (by rw[Y0n.mp hb]at e; exact e ▸ ha)⟩
theorem Met.step {n:Nat}{r u:List Nat}{first:Nat}{M:List Nat}{k x:Nat}(h:Met n r u first M k)(hr:Row n r)(hu:Row n u)(hx:M[k]?=some x) :
  Met n r u first (put (put M (nx r x)) (nx u x)) (k+1) where
 nd:=Zbi (Zbi h.nd)
 hd:=Z1t.mpr (.inl (Z1t.mpr (.inl h.hd)))
 lt:=fun y hy=>by
  have hxn:=h.lt x (Y0d hx)
  rcases Z1t.mp hy with hy | rfl
  ·rcases Z1t.mp hy with hy | rfl
   ·exact h.lt y hy
   ·exact hr.nlt hxn
  ·exact hu.nlt hxn
 kle:=by
  have:=(Y04.mp hx).1
  have h1:=Z9w (M:=M) (y:=nx r x)
  have h2:=Z9w (M:=put M (nx r x)) (y:=nx u x)
  lia
 shut:=fun i y hi hy=>by
  have hk:=(Y04.mp hx).1
  have hi':i < M.length:=by lia
  have e:M[i]?=some M[i]:=Y01 hi'
  have e2:=Z6J (y:=nx u x) (Z6J (y:=nx r x) e)
  rw[hy]at e2
  have e3:y=M[i]:=Option.some.inj e2
  rw[<-e3]at e
  rcases Y0j i k with hlt | hge
  ·obtain⟨a,b⟩:=h.shut i y hlt e
   exact⟨Z1t.mpr (.inl (Z1t.mpr (.inl a))),Z1t.mpr (.inl (Z1t.mpr (.inl b)))⟩
  ·have:i=k:=by lia
   subst this
   rw[hx]at e
   cases e
   exact⟨Z1t.mpr (.inl (Z1t.mpr (.inr rfl))),Z1t.mpr (.inr rfl)⟩
 least:=fun T h0 hs y hy=>by
  have hxM:=Y0d hx
  have hxn:=h.lt x hxM
  have hT:=h.least T h0 hs x hxM
  rcases Z1t.mp hy with hy | rfl
  ·rcases Z1t.mp hy with hy | rfl
   ·exact h.least T h0 hs y hy
   ·exact (hs x hxn hT).1
  ·exact (hs x hxn hT).2
structure Z66 (n:Nat)(r u:List Nat)(first:Nat)(M:List Nat):Prop where
 nd:M.Nodup
 hd:first∈M
 lt:∀ x∈M,x < n
 shut:∀ x∈M,nx r x∈M/\nx u x∈M
 least:∀ T:Nat->Prop,T first->Zg0 n r u T->∀ x∈M,T x
theorem Met.all {n:Nat}{r u:List Nat}{first:Nat}{M:List Nat}{k:Nat}(h:Met n r u first M k)(hk:M.length<=k):Z66 n r u first M where
 nd:=h.nd
 hd:=h.hd
 lt:=h.lt
 shut:=fun x hx=>by
  obtain⟨i,hi,e⟩:=Y1k.mp hx
  exact h.shut i x (by lia) (by rw[Y01 hi,e])
 least:=h.least
theorem Z66.perm {n:Nat}{r u:List Nat}{first:Nat}{M S:List Nat}(h:Z66 n r u first M)(p:S.Perm M):Z66 n r u first S where
 nd:=p.nodup_iff.mpr h.nd
 hd:=p.mem_iff.mpr h.hd
 lt:=fun x hx=>h.lt x (p.mem_iff.mp hx)
 shut:=fun x hx=>⟨p.mem_iff.mpr (h.shut x (p.mem_iff.mp hx)).1,p.mem_iff.mpr (h.shut x (p.mem_iff.mp hx)).2⟩
 least:=fun T h0 hs x hx=>h.least T h0 hs x (p.mem_iff.mp hx)
def Z2E (r S:List Nat):List Nat:=S.map fun x=>S.idxOf (nx r x)
theorem Z5O (r S:List Nat):(Z2E r S).length=S.length:=by simp[Z2E]
theorem Z73 {r S:List Nat}{i:Nat}{x:Nat}(h:S[i]?=some x):nx (Z2E r S) i=S.idxOf (nx r x):=by
 simp[nx,Z2E,List.getD,h]
theorem Z8q {S:List Nat}(nd:S.Nodup){i x:Nat}(h:S[i]?=some x):S.idxOf x=i:=by
 obtain⟨hi,e⟩:=Y04.mp h
 have hm:x∈S:=Y0d h
 have h1:=Y16 hm
 have e1:S[S.idxOf x]=x:=List.getElem_idxOf h1
 exact Zbh nd h1 hi (e1.trans e.symm)
theorem Z4V {S:List Nat}{x:Nat}(h:x∈S):S[S.idxOf x]?=some x:=by
 have h1:=Y16 h
 rw[Y01 h1,List.getElem_idxOf h1]
theorem Z5H {n:Nat}{r S:List Nat}(hr:Row n r)(nd:S.Nodup)(lt:∀ x∈S,x < n)(cl:∀ x∈S,nx r x∈S):Row S.length (Z2E r S) where
 len:=Z5O r S
 nd:=by
  refine Y0t.mpr (List.Pairwise.imp_of_mem (fun {a b} ha hb hne e=>hne ?_) nd)
  have h1:=Z4V (cl a ha)
  rw[e,Z4V (cl b hb)]at h1
  exact hr.inj (lt a ha) (lt b hb) (Option.some.inj h1).symm
 lt:=fun x hx=>by
  obtain⟨y,hy,rfl⟩:=Y0f.mp hx
  exact Y16 (cl y hy)
theorem Z6x {n:Nat}{r u S:List Nat}(hn:n<=36)(hr:Row n r)(hu:Row n u)(h:Z66 n r u 0 S)(so:S.Pairwise (·<=·)):Zcz S.length (Z2E r S) (Z2E u S) where
 pos:=List.length_pos_of_mem h.hd
 most:=by
  have:=Z2v S (Y05 n) h.nd fun x hx=>Y06.mpr (h.lt x hx)
  simp only[Y0p]at this; lia
 row:=Z5H hr h.nd h.lt fun x hx=>(h.shut x hx).1
 col:=Z5H hu h.nd h.lt fun x hx=>(h.shut x hx).2
 conn:=fun T h0 hs i hi=>by
  have z:S[0]?=some 0:=by
   cases S with
   | nil=>exact absurd h.hd (by simp)
   | cons a S=>
    rcases Y0v.mp h.hd with e | hm
    ·simp[<-e]
    ·have:=(List.pairwise_cons.mp so).1 0 hm
     have:a=0:=by lia
     simp[this]
  have key:=h.least (fun x=>x∈S/\T (S.idxOf x)) ⟨h.hd,by rw[Z8q h.nd z]; exact h0⟩ fun x _ ⟨hx,t⟩=>by
   have hlt:=Y16 hx
   have:=hs (S.idxOf x) hlt t
   rw[Z73 (Z4V hx),Z73 (Z4V hx)]at this
   exact⟨⟨(h.shut x hx).1,this.1⟩,(h.shut x hx).2,this.2⟩
  have e:S[i]?=some S[i]:=Y01 hi
  have:=(key S[i] (List.getElem_mem hi)).2
  rwa [Z8q h.nd e]at this
end Sq
namespace Sq
variable {n:Nat}{r u:List Nat}{first:Nat}{F:List Nat}{P:List (List Nat)}{k j:Nat}
end Sq
namespace K1
open PySem L2
def top (i:Nat):Stmt:=PySem.Challenge.pw_squaresheet_k39_whole_comes_back.main.body.getD i (.Pass ⟨0,0,0,0⟩)
abbrev Z9o:Stmt:=top 7
abbrev Z2D:Stmt:=top 8
abbrev Z3e:Stmt:=top 9
abbrev Z8Q:Stmt:=top 10
abbrev Z21:Stmt:=top 11
abbrev Z2N:Stmt:=top 12
abbrev Z2X:Stmt:=top 14
abbrev Z2A:Stmt:=top 15
abbrev Z1m:Stmt:=top 16
abbrev Zcu:Stmt:=top 18
abbrev Z11:Stmt:=top 19
abbrev Z1H:Stmt:=top 22
abbrev Z22:Stmt:=top 23
abbrev Z2t:Stmt:=top 24
abbrev Z3h:Stmt:=top 25
abbrev Z0Y:Stmt:=top 26
abbrev Z46:Stmt:=top 27
abbrev Z3Z:Stmt:=top 28
abbrev Z32:Stmt:=top 29
abbrev Z1O:Stmt:=top 30
abbrev Z4e:Stmt:=top 31
abbrev Z1y:Stmt:=top 32
abbrev Z3b:Stmt:=top 33
abbrev Z5c:Stmt:=top 35
abbrev Z4s:Stmt:=top 36
abbrev Z9x:Stmt:=top 37
abbrev Z4n:Stmt:=top 38
abbrev Z1N:Stmt:=top 39
abbrev Z1s:Stmt:=top 40
abbrev Z4L:Stmt:=top 41
abbrev Z7L:Stmt:=top 42
abbrev Z2U:Stmt:=top 43
abbrev Z5M:Stmt:=top 44
abbrev Z3V:Stmt:=top 45
abbrev Z3k:Stmt:=top 46
abbrev Z4q:Stmt:=top 47
abbrev Z69:Stmt:=top 48
abbrev Z5q:Stmt:=top 49
abbrev Z44:Stmt:=top 50
abbrev Z2y:Stmt:=top 51
abbrev Z27:Stmt:=top 52
abbrev Z1d:Stmt:=top 53
abbrev Z3r:Stmt:=top 54
abbrev Z1J:Stmt:=top 55
abbrev Z2x:Stmt:=top 56
abbrev Z26:Stmt:=top 58
abbrev Z6e:Stmt:=top 59
abbrev Z1x:Stmt:=top 60
abbrev Z18:Stmt:=top 61
abbrev Z4U:Stmt:=top 62
abbrev Z2V:Stmt:=top 63
abbrev Z25:Stmt:=top 64
abbrev ZdJ:Stmt:=top 65
end K1
namespace K1
open PySem L2 Sq
structure Bi (mg:Str->Option Value):Prop where
 len:mg "len"=none
 range:mg "range"=none
 list:mg "list"=none
 tuple:mg "tuple"=none
 isin:mg "isinstance"=none
 int:mg "int"=none
 bool:mg "bool"=none
 all:mg "all"=none
 set:mg "set"=none
 sorted:mg "sorted"=none
 enum:mg "enumerate"=none
structure Fn (K:Y00)(mg:Str->Option Value)(x:Str)(st:Stmt)(ps:List Str)(f:Addr)(fd:FuncData):Prop where
 F:Fun K x x st f fd
 b:Z2s K fd ps []
 m:mg x=some (.ref f)
def Z3j (K:Y00)(H:Hp)(p:Addr)(r:List Nat):Prop:=SqL K H p (nv r)\/SqT K H p (nv r)
def Z3i:Sp:=fun vs H Q _=>∃ i:Int,vs=[.int i]/\Q (.bl true) H
def Zb1:Sp:=fun vs H Q _=>∃ (a:Addr) (r u:List Nat),vs=[.ref a]/\Z5p H a r u/\Q (.int (r.length:Int)) H
def Zbd:Sp:=fun vs H Q _=>∃ i n:Int,vs=[.int i,.int n]/\Q (.bl (decide (0<=i/\i < n))) H
theorem Z1z:bootBuiltins "isinstance"=some (.builtin "isinstance"):=by decide +kernel
theorem Z3g:bootBuiltins "int"=some (.type "int"):=by decide +kernel
theorem Z6b:bootBuiltins "bool"=some (.type "bool"):=by decide +kernel
theorem Z1I:bootBuiltins "tuple"=some (.type "tuple"):=by decide +kernel
theorem Z42:bootBuiltins "list"=some (.type "list"):=by decide +kernel
theorem Z40:bootBuiltins "sorted"=some (.builtin "sorted"):=by decide +kernel
theorem Z9U (xs:List Nat)(k:Nat):(nv xs).eraseIdx k=nv (xs.eraseIdx k):=by
 unfold nv
 induction xs generalizing k with
 | nil=>rfl
 | cons x xs ih=>cases k with
  | zero=>rfl
  | succ k=>simp only[Y13,List.eraseIdx_cons_succ,ih]
theorem Z08 {H H':Hp}{l:Addr}{o:HO}(e:Z0q H H')(h:H l=none):Z0q H (upd H' l o):=fun b u q=>by
 rw[Z0i (Z0s q h)]; exact e b u q
theorem Z9a {H:Hp}{lf:Addr}{left:List Nat}{x:Int}{Q:VK}(h:H lf=some (.lst (nv left)))(h0:0 < left.length)(h1:left.length<=36)
  (q:∀ (k y:Nat),left[k]?=some y->Q (.int (y:Int)) (upd H lf (.lst (nv (left.eraseIdx k))))):Zb0 (.ref lf) [.int (x % ((nv left).length:Int))] H Q:=by
 have hl:=Z0z left
 have a0:0<=x % ((nv left).length:Int):=Int.emod_nonneg _ (by omega)
 have a1:x % ((nv left).length:Int) < ((nv left).length:Int):=Int.emod_lt_of_pos _ (by omega)
 have a2:(x % ((nv left).length:Int)).toNat < left.length:=by omega
 have a3:left[(x % ((nv left).length:Int)).toNat]?=some left[(x % ((nv left).length:Int)).toNat]:=Y01 a2
 refine⟨lf,_,_,(x % ((nv left).length:Int)).toNat,_,rfl,rfl,h,by omega,by omega,seqIndex_of a0 a1,Z0J a3,?_⟩
 rw[Z9U]
 exact q _ _ a3
theorem Z0q.tseq {K:Y00}{H H':Hp}{a:Addr}{xs:List V}(e:Z0q H H')(h:SqT K H a xs):SqT K H' a xs:=by
 rcases h with (h | ⟨o,h⟩) | h
 ·exact .inl (.inl (e _ _ h))
 ·exact .inl (.inr ⟨o,e _ _ h⟩)
 ·exact .inr h
theorem Z3j.same {K:Y00}{H H':Hp}{p:Addr}{r:List Nat}(e:Z0q H H')(h:Z3j K H p r):Z3j K H' p r:=h.imp e.seq (Z0q.tseq e)
theorem Z6p {K:Y00}{H:Hp}{p:Addr}{r:List Nat}{n i:Nat}{Q:VK}(h:Z3j K H p r)(hr:Row n r)(hi:i < n)(q:Q (.int (nx r i:Int)) H):rIx K (.ref p) (.int (i:Int)) H Q:=by
 rcases h with h | h
 ·exact .inl ⟨p,_,_,_,rfl,rfl,h,Z09 (Z0J (hr.get hi)),q⟩
 ·exact .inr (.inl ⟨p,_,_,_,rfl,rfl,h,Z09 (Z0J (hr.get hi)),q⟩)
theorem Zcp (xs:List Nat):(nv xs).all Z4B=true:=by
 rw[List.all_eq_true]
 intro x hx
 obtain⟨n,_,rfl⟩:=Y0f.mp hx
 rfl
theorem ZdM (x:Nat)(xs:List Nat):inV (.int (x:Int)) (nv xs)=decide (x∈xs):=by
 unfold inV nv
 rw[List.any_map]
 apply Bool.eq_iff_iff.mpr
 rw[List.any_eq_true,decide_eq_true_iff]
 constructor
 ·rintro ⟨y,hy,e⟩
  have:(y:Int)=(x:Int):=by simpa [eqV,ZcK] using e
  have:y=x:=by omega
  rw[<-this]; exact hy
 ·intro h
  exact⟨x,h,by simp[eqV,ZcK]⟩
def mu (j:Nat)(σ:St):Nat:=match σ[j]? with
 | some (some (.int k))=>(100 - k).toNat
 | _=>0
theorem Z37:∀ (l M:List Nat),(l.foldl put M).length<=M.length+l.length
 | [],M=>Y03 _
 | x :: l,M=>by
  have h1:=Z37 l (put M x)
  have h2:(put M x).length<=M.length+1:=by unfold put; split <;> simp
  simp only[List.foldl_cons,Y18]; omega
end K1
namespace Sq
def sid (U a s:Int):Int:=if 0 < s then (U - a) / s else if s < 0 then a / -s else U
def ou (p U x:Int):Int:=if p < 0/\x=0 then U else x
def z0 (U x:Int):Int:=if x=U then 0 else x
def lo (p x:Int)(c:Nat):List Nat:=if p < 0/\x=0 then [c] else []
def li (U x:Int)(c:Nat):List Nat:=if x=U then [c] else []
structure WS where
 x:Int
 y:Int
 t:Int
 w:List Nat
def Z3x (p q U M:Int)(s:WS):Int:=min (min (sid U (ou p U s.x) p) (sid U (ou q U s.y) q)) (M - s.t)
def stp (p q U M:Int)(s:WS):WS:=⟨z0 U (ou p U s.x+p * Z3x p q U M s),z0 U (ou q U s.y+q * Z3x p q U M s),s.t+Z3x p q U M s,
 s.w++(lo p s.x 0++(lo q s.y 1++(li U (ou p U s.x+p * Z3x p q U M s) 2++li U (ou q U s.y+q * Z3x p q U M s) 3)))⟩
def ws (p q U M X Y:Int):Nat->WS
 | 0=>⟨X,Y,0,[]⟩
 | i+1=>stp p q U M (ws p q U M X Y i)
structure WIn (p q U M:Int)(s:WS):Prop where
 x0:0<=s.x
 x1:s.x < U
 y0:0<=s.y
 y1:s.y < U
 t0:0<=s.t
 t1:s.t<=M
 px:p≠0->p∣s.x
 qy:q≠0->q∣s.y
structure WOk (p q U:Int):Prop where
 u:0 < U
 n:¬ (p=0/\q=0)
 p:p≠0->p∣U
 q:q≠0->q∣U
theorem Zam {p U x:Int}(hU:0 < U)(h0:0<=x)(h1:x < U):0<=ou p U x/\ou p U x<=U:=by
 unfold ou; split <;> lia
theorem Z4K {p U x:Int}(hU:p∣U)(hx:p∣x):p∣ou p U x:=by
 unfold ou; split
 ·exact hU
 ·exact hx
theorem Z4W {p U x:Int}(hU:0 < U)(h0:0<=x)(h1:x < U)(dU:p≠0->p∣U)(dx:p≠0->p∣x):1<=sid U (ou p U x) p:=by
 unfold sid
 by_cases hp:0 < p
 ·rw[if_pos hp]
  have e:ou p U x=x:=by unfold ou; rw[if_neg (by lia)]
  rw[e]
  obtain⟨k,hk⟩:=Int.dvd_sub (dU (by lia)) (dx (by lia))
  rw[hk,Int.mul_ediv_cancel_left _ (by lia)]
  have:0 < p * k:=by lia
  exact Int.pos_of_mul_pos_right this (by lia)
 ·rw[if_neg hp]
  by_cases hn:p < 0
  ·rw[if_pos hn]
   have hpos:0 < ou p U x:=by unfold ou; split <;> lia
   obtain⟨k,hk⟩:=Z4K (dU (by lia)) (dx (by lia))
   have e:ou p U x=(-p) * (-k):=by rw[hk]; rw[Int.neg_mul_neg]
   rw[e,Int.mul_ediv_cancel_left _ (by lia)]
   rw[e]at hpos
   exact Int.pos_of_mul_pos_right hpos (by lia)
  ·rw[if_neg hn]; lia
theorem Z2M {p U x m:Int}(hU:0 < U)(h0:0<=x)(h1:x < U)(hm:1<=m)(hs:m<=sid U (ou p U x) p):0<=ou p U x+p * m/\ou p U x+p * m<=U/\(p<=0->ou p U x+p * m < U):=by
 unfold sid at hs
 have ho:=Zam (p:=p) hU h0 h1
 by_cases hp:0 < p
 ·rw[if_pos hp]at hs
  have:=Int.mul_le_of_le_ediv hp hs
  have e:m * p=p * m:=Int.mul_comm _ _
  have:0<=p * m:=Int.mul_nonneg (by lia) (by lia)
  refine⟨by lia,by lia,fun z=>by lia⟩
 ·rw[if_neg hp]at hs
  by_cases hn:p < 0
  ·rw[if_pos hn]at hs
   have h2:=Int.mul_le_of_le_ediv (show 0 < -p by lia) hs
   have e:m * -p=-(p * m):=by rw[Int.mul_neg,Int.mul_comm]
   have h3:1 * 1<=m * -p:=Int.mul_le_mul hm (by lia) (by lia) (by lia)
   refine⟨by lia,by lia,fun _=>by lia⟩
  ·have e:p=0:=by lia
   subst e
   have e2:ou 0 U x=x:=by unfold ou; rw[if_neg (by lia)]
   rw[e2,Int.zero_mul]
   exact⟨by lia,by lia,fun _=>by lia⟩
theorem Z9D {U x:Int}(hU:0 < U)(h0:0<=x)(h1:x<=U):0<=z0 U x/\z0 U x < U:=by
 unfold z0; split <;> lia
theorem Z7p {p U x:Int}(h:p∣x):p∣z0 U x:=by
 unfold z0; split
 ·exact Int.dvd_zero p
 ·exact h
theorem Z6R {p q U M:Int}{s:WS}(o:WOk p q U)(h:WIn p q U M s)(ht:s.t < M):1<=Z3x p q U M s:=by
 have a:=Z4W o.u h.x0 h.x1 o.p h.px
 have b:=Z4W o.u h.y0 h.y1 o.q h.qy
 unfold Z3x; lia
theorem Zbo {p q U M:Int}{s:WS}(o:WOk p q U)(h:WIn p q U M s)(ht:s.t < M):WIn p q U M (stp p q U M s)/\s.t < (stp p q U M s).t:=by
 have m1:=Z6R o h ht
 have ha:Z3x p q U M s<=sid U (ou p U s.x) p:=by unfold Z3x; lia
 have hb:Z3x p q U M s<=sid U (ou q U s.y) q:=by unfold Z3x; lia
 have hc:Z3x p q U M s<=M - s.t:=by unfold Z3x; lia
 obtain⟨a1,a2,_⟩:=Z2M o.u h.x0 h.x1 m1 ha
 obtain⟨b1,b2,_⟩:=Z2M o.u h.y0 h.y1 m1 hb
 have za:=Z9D o.u a1 a2
 have zb:=Z9D o.u b1 b2
 have:=h.t0
 refine⟨⟨za.1,za.2,zb.1,zb.2,?_,?_,fun hp=>?_,fun hq=>?_⟩,?_⟩
 ·show 0<=s.t+Z3x p q U M s; lia
 ·show s.t+Z3x p q U M s<=M; lia
 ·exact Z7p (Int.dvd_add (Z4K (o.p hp) (h.px hp)) (Int.dvd_mul_right p _))
 ·exact Z7p (Int.dvd_add (Z4K (o.q hq) (h.qy hq)) (Int.dvd_mul_right q _))
 ·show s.t < s.t+Z3x p q U M s; lia
def lt4 (r u:List Nat)(s c:Nat):Nat:=if c=0 then nx (back r) s else if c=1 then nx (back u) s else if c=2 then nx r s else nx u s
def Z1S (r u:List Nat)(w:List Nat)(s:Nat):Nat:=w.foldl (lt4 r u) s
theorem Z1W (r u w w':List Nat)(s:Nat):Z1S r u (w++w') s=Z1S r u w' (Z1S r u w s):=by unfold Z1S; rw[List.foldl_append]
theorem Z8p {n:Nat}{r u:List Nat}(hr:Row n r)(hu:Row n u){s:Nat}(hs:s < n)(c:Nat):lt4 r u s c < n:=by
 unfold lt4
 split
 ·exact hr.back.nlt hs
 split
 ·exact hu.back.nlt hs
 split
 ·exact hr.nlt hs
 ·exact hu.nlt hs
theorem Z3l {n:Nat}{r u:List Nat}(hr:Row n r)(hu:Row n u):∀ (w:List Nat) {s:Nat},s < n->Z1S r u w s < n
 | [],_,h=>h
 | c :: w,s,h=>Z3l hr hu w (Z8p hr hu h c)
theorem Z8r (r u:List Nat)(p x:Int)(s:Nat):Z1S r u (lo p x 0) s=if p < 0/\x=0 then nx (back r) s else s:=by
 unfold lo; split <;> rfl
theorem Z7u (r u:List Nat)(p x:Int)(s:Nat):Z1S r u (lo p x 1) s=if p < 0/\x=0 then nx (back u) s else s:=by
 unfold lo; split <;> rfl
theorem Z9y (r u:List Nat)(U x:Int)(s:Nat):Z1S r u (li U x 2) s=if x=U then nx r s else s:=by
 unfold li; split <;> rfl
theorem Z6Y (r u:List Nat)(U x:Int)(s:Nat):Z1S r u (li U x 3) s=if x=U then nx u s else s:=by
 unfold li; split <;> rfl
def c4 (c:Nat)(w:List Nat):Int:=(w.count c:Int)
theorem ZaL (c:Nat)(w w':List Nat):c4 c (w++w')=c4 c w+c4 c w':=by unfold c4; rw[List.count_append]; lia
theorem ZeR (c d:Nat)(p x:Int):c4 c (lo p x d)=if (p < 0/\x=0)/\d=c then 1 else 0:=by
 unfold lo c4
 by_cases h:p < 0/\x=0
 ·rw[if_pos h]
  by_cases e:d=c
  ·subst e; rw[if_pos ⟨h,rfl⟩]; simp
  ·rw[if_neg fun z=>e z.2]; simp[e]
 ·rw[if_neg h,if_neg fun z=>h z.1]; rfl
theorem ZdE (c d:Nat)(U x:Int):c4 c (li U x d)=if x=U/\d=c then 1 else 0:=by
 unfold li c4
 by_cases h:x=U
 ·rw[if_pos h]
  by_cases e:d=c
  ·subst e; rw[if_pos ⟨h,rfl⟩]; simp
  ·rw[if_neg fun z=>e z.2]; simp[e]
 ·rw[if_neg h,if_neg fun z=>h z.1]; rfl
theorem Zff {p q U M:Int}{s:WS}:(stp p q U M s).x+U * (c4 2 (stp p q U M s).w - c4 0 (stp p q U M s).w)=s.x+U * (c4 2 s.w - c4 0 s.w)+p * Z3x p q U M s:=by
 show z0 U (ou p U s.x+p * Z3x p q U M s)+U * (c4 2 (s.w++_) - c4 0 (s.w++_))=_
 simp only[ZaL,ZeR,ZdE]
 generalize Z3x p q U M s=m
 unfold z0 ou
 generalize c4 2 s.w=a
 generalize c4 0 s.w=b
 have e1:U * (a - b)=U * a - U * b:=Int.mul_sub _ _ _
 by_cases h:p < 0/\s.x=0
 ·by_cases k:U+p * m=U
  ·simp[h,k,Int.mul_sub,Int.mul_add]; lia
  ·simp[h,k,Int.mul_sub,Int.mul_add]; lia
 ·by_cases k:s.x+p * m=U
  ·simp[h,k,Int.mul_sub,Int.mul_add]; lia
  ·simp[h,k,Int.mul_sub,Int.mul_add]; lia
theorem Zg5 {p q U M:Int}{s:WS}:(stp p q U M s).y+U * (c4 3 (stp p q U M s).w - c4 1 (stp p q U M s).w)=s.y+U * (c4 3 s.w - c4 1 s.w)+q * Z3x p q U M s:=by
 show z0 U (ou q U s.y+q * Z3x p q U M s)+U * (c4 3 (s.w++_) - c4 1 (s.w++_))=_
 simp only[ZaL,ZeR,ZdE]
 generalize Z3x p q U M s=m
 unfold z0 ou
 generalize c4 3 s.w=a
 generalize c4 1 s.w=b
 by_cases h:q < 0/\s.y=0
 ·by_cases k:U+q * m=U
  ·simp[h,k,Int.mul_sub,Int.mul_add]; lia
  ·simp[h,k,Int.mul_sub,Int.mul_add]; lia
 ·by_cases k:s.y+q * m=U
  ·simp[h,k,Int.mul_sub,Int.mul_add]; lia
  ·simp[h,k,Int.mul_sub,Int.mul_add]; lia
theorem ws_x (p q U M X Y:Int):∀ i,(ws p q U M X Y i).x+U * (c4 2 (ws p q U M X Y i).w - c4 0 (ws p q U M X Y i).w)=X+p * (ws p q U M X Y i).t
 | 0=>by show X+U * (0 - 0)=X+p * 0; simp
 | i+1=>by
  have ih:=ws_x p q U M X Y i
  have h:=Zff (p:=p) (q:=q) (U:=U) (M:=M) (s:=ws p q U M X Y i)
  show (stp p q U M (ws p q U M X Y i)).x+U * (c4 2 (stp p q U M (ws p q U M X Y i)).w - c4 0 (stp p q U M (ws p q U M X Y i)).w)=X+p * ((ws p q U M X Y i).t+Z3x p q U M (ws p q U M X Y i))
  rw[h,ih,Int.mul_add]; lia
theorem ws_y (p q U M X Y:Int):∀ i,(ws p q U M X Y i).y+U * (c4 3 (ws p q U M X Y i).w - c4 1 (ws p q U M X Y i).w)=Y+q * (ws p q U M X Y i).t
 | 0=>by show Y+U * (0 - 0)=Y+q * 0; simp
 | i+1=>by
  have ih:=ws_y p q U M X Y i
  have h:=Zg5 (p:=p) (q:=q) (U:=U) (M:=M) (s:=ws p q U M X Y i)
  show (stp p q U M (ws p q U M X Y i)).y+U * (c4 3 (stp p q U M (ws p q U M X Y i)).w - c4 1 (stp p q U M (ws p q U M X Y i)).w)=Y+q * ((ws p q U M X Y i).t+Z3x p q U M (ws p q U M X Y i))
  rw[h,ih,Int.mul_add]; lia
end Sq
namespace Sq
theorem Z9s {p q U M X Y:Int}(o:WOk p q U)(h0:WIn p q U M ⟨X,Y,0,[]⟩):∀ i,(∀ j,j < i->(ws p q U M X Y j).t < M)->WIn p q U M (ws p q U M X Y i)
 | 0,_=>h0
 | i+1,h=>(Zbo o (Z9s o h0 i fun j hj=>h j (by lia)) (h i (by lia))).1
end Sq
namespace Sq
def Zak (r u:List Nat)(c:Nat):List Nat:=if c=0 then back r else if c=1 then back u else if c=2 then r else u
theorem Z7w (r u:List Nat)(s c:Nat):lt4 r u s c=nx (Zak r u c) s:=by
 unfold lt4 Zak
 split
 ·rfl
 split
 ·rfl
 split <;> rfl
theorem Z92 {n:Nat}{r u:List Nat}(hr:Row n r)(hu:Row n u)(c:Nat):Row n (Zak r u c):=by
 unfold Zak
 split
 ·exact hr.back
 split
 ·exact hu.back
 split
 ·exact hr
 ·exact hu
end Sq
namespace Sq
def Z9f (p q U M X Y:Int)(i:Nat):Prop:=(∀ j,j < i->(ws p q U M X Y j).t < M)/\(ws p q U M X Y i).t=M
theorem Z8n {p q U M X Y:Int}{i j:Nat}(h:Z9f p q U M X Y i)(g:Z9f p q U M X Y j):i=j:=by
 rcases Nat.lt_trichotomy i j with c | c | c
 ·have:=g.1 i c; rw[h.2]at this; omega
 ·exact c
 ·have:=h.1 j c; rw[g.2]at this; omega
theorem Zbv {p q U M X Y:Int}(o:WOk p q U)(h0:WIn p q U M ⟨X,Y,0,[]⟩):∃ i,Z9f p q U M X Y i:=by
 have:∀ (m i:Nat),(∀ j,j < i->(ws p q U M X Y j).t < M)->(M - (ws p q U M X Y i).t).toNat=m->∃ i,Z9f p q U M X Y i:=by
  intro m
  induction m using Nat.strongRecOn with
  | ind m ih=>
   intro i hi hm
   have wi:=Z9s o h0 i hi
   have t1:=wi.t1
   by_cases c:(ws p q U M X Y i).t < M
   ·have st:=(Zbo o wi c).2
    have e:ws p q U M X Y (i+1)=stp p q U M (ws p q U M X Y i):=rfl
    refine ih (M - (ws p q U M X Y (i+1)).t).toNat (by rw[e]; omega) (i+1) (fun j hj=>?_) rfl
    by_cases ej:j=i
    ·subst ej; exact c
    ·exact hi j (by omega)
   ·exact⟨i,hi,by omega⟩
 exact this _ 0 (fun j hj=>absurd hj (Y1n _)) rfl
theorem Zby {n:Nat}{r u:List Nat}(hr:Row n r)(hu:Row n u){s s':Nat}(h:s < n)(h':s' < n)(c:Nat)(e:lt4 r u s c=lt4 r u s' c):s=s':=by
 rw[Z7w,Z7w]at e
 exact (Z92 hr hu c).inj h h' e
theorem Z6W {n:Nat}{r u:List Nat}(hr:Row n r)(hu:Row n u):∀ (w:List Nat) {s s':Nat},s < n->s' < n->Z1S r u w s=Z1S r u w s'->s=s'
 | [],_,_,_,_,e=>e
 | c :: w,s,s',h,h',e=>Zby hr hu h h' c (Z6W hr hu w (Z8p hr hu h c) (Z8p hr hu h' c) e)
def orb (f:Nat->Nat)(s:Nat):Nat->Nat
 | 0=>s
 | k+1=>f (orb f s k)
theorem Z39 {n:Nat}{f:Nat->Nat}(hf:∀ s,s < n->f s < n){s:Nat}(h:s < n):∀ k,orb f s k < n
 | 0=>h
 | k+1=>hf _ (Z39 hf h k)
theorem Zck {n:Nat}{f:Nat->Nat}(hf:∀ s,s < n->f s < n)(inj:∀ s s',s < n->s' < n->f s=f s'->s=s'){s k:Nat}(h:s < n)(hk:∀ j,1<=j->j<=k->orb f s j≠s):k < n:=by
 have back:∀ i j,i < j->j<=k->orb f s i=orb f s j->False:=by
  intro i
  induction i with
  | zero=>intro j hij hj e; exact hk j (by omega) hj e.symm
  | succ i ih=>
   intro j hij hj e
   obtain⟨j',rfl⟩:∃ j',j=j' + 1:=⟨j - 1,by omega⟩
   exact ih j' (by omega) (by omega) (inj _ _ (Z39 hf h i) (Z39 hf h j') e)
 have nd:((Y05 (k+1)).map (orb f s)).Nodup:=by
  refine Y0t.mpr (List.Pairwise.imp_of_mem (fun {a b} ha hb hne e=>?_) (Y1g (n:=k+1)))
  have ha:=Y06.mp ha
  have hb:=Y06.mp hb
  rcases Nat.lt_trichotomy a b with c | c | c
  ·exact back a b c (by omega) e
  ·exact hne c
  ·exact back b a c (by omega) e.symm
 have:=Z2v _ (Y05 n) nd fun x hx=>by
  obtain⟨j,_,rfl⟩:=Y0f.mp hx
  exact Y06.mpr (Z39 hf h j)
 simp at this
 omega
end Sq
namespace Sq
section
variable {n:Nat}{r f:List Nat}
theorem Z8m (hf:Row n f){i:Nat}(hi:i < n):nx (back f) (nx f i)=i:=by rw[Z8C hf (hf.nlt hi)]; exact hf.idx_nx hi
theorem Z7l {l:List Nat}(hl:l.length=n)(lt:∀ i,i < n->nx l i < n)(inj:∀ i j,i < n->j < n->nx l i=nx l j->i=j):Row n l where
 len:=hl
 nd:=by
  refine Y1v.mpr fun i j hi hj hij e=>?_
  have:=inj i j (by lia) (by lia) (by simp[nx,List.getD,Y01 hi,Y01 hj,e])
  lia
 lt:=fun x hx=>by
  obtain⟨i,hi,e⟩:=Y1k.mp hx
  have:=lt i (by lia)
  rwa [show nx l i=x from by simp[nx,List.getD,Y01 hi,e]]at this
end
end Sq
namespace Sq
structure Spt where
 s:Nat
 x:Int
 y:Int
def rm (p q U m:Int)(a:Spt):Int:=min (min (sid U (ou p U a.x) p) (sid U (ou q U a.y) q)) m
def wd (p q U m:Int)(a:Spt):List Nat:=lo p a.x 0++(lo q a.y 1++(li U (ou p U a.x+p * rm p q U m a) 2++li U (ou q U a.y+q * rm p q U m a) 3))
def one (r u:List Nat)(p q U m:Int)(a:Spt):Spt:=⟨Z1S r u (wd p q U m a) a.s,z0 U (ou p U a.x+p * rm p q U m a),z0 U (ou q U a.y+q * rm p q U m a)⟩
def cr (F:List Nat)(a:Spt):Bool:=decide (a.x=0) && (decide (a.y=0) && decide (a.s∈F))
inductive Run (r u F:List Nat) (p q U:Int):Spt->Int->Spt->Prop
 | nil (a:Spt):cr F a=false->Run r u F p q U a 0 a
 | cons (a:Spt) (T:Int) (b:Spt):0 < T->cr F a=false->Run r u F p q U (one r u p q U T a) (T - rm p q U T a) b->Run r u F p q U a T b
inductive Hit (r u F:List Nat) (p q U:Int):Spt->Int->Int->Spt->Prop
 | here (a:Spt) (M:Int):0<=M->cr F a=true->Hit r u F p q U a M 0 a
 | cons (a:Spt) (M T:Int) (b:Spt):0 < M->cr F a=false->Hit r u F p q U (one r u p q U M a) (M - rm p q U M a) T b->Hit r u F p q U a M (T+rm p q U M a) b
structure SIn (n:Nat)(p q U:Int)(a:Spt):Prop where
 s:a.s < n
 x0:0<=a.x
 x1:a.x < U
 y0:0<=a.y
 y1:a.y < U
 px:p≠0->p∣a.x
 qy:q≠0->q∣a.y
section
variable {n:Nat}{r u F:List Nat}{p q U:Int}
theorem Z7n {m:Int}{a:Spt}(o:WOk p q U)(h:SIn n p q U a)(hm:0 < m):1<=rm p q U m a:=by
 have a1:=Z4W o.u h.x0 h.x1 o.p h.px
 have b1:=Z4W o.u h.y0 h.y1 o.q h.qy
 unfold rm; lia
theorem Z9j {m:Int}{a:Spt}:rm p q U m a<=m:=by unfold rm; lia
theorem Z7k {m:Int}{a:Spt}(hr:Row n r)(hu:Row n u)(o:WOk p q U)(h:SIn n p q U a)(hm:0 < m):SIn n p q U (one r u p q U m a):=by
 have m1:=Z7n o h hm
 have ha:rm p q U m a<=sid U (ou p U a.x) p:=by unfold rm; lia
 have hb:rm p q U m a<=sid U (ou q U a.y) q:=by unfold rm; lia
 obtain⟨a1,a2,_⟩:=Z2M o.u h.x0 h.x1 m1 ha
 obtain⟨b1,b2,_⟩:=Z2M o.u h.y0 h.y1 m1 hb
 have za:=Z9D o.u a1 a2
 have zb:=Z9D o.u b1 b2
 refine⟨Z3l hr hu _ h.s,za.1,za.2,zb.1,zb.2,fun hp=>?_,fun hq=>?_⟩
 ·exact Z7p (Int.dvd_add (Z4K (o.p hp) (h.px hp)) (Int.dvd_mul_right p _))
 ·exact Z7p (Int.dvd_add (Z4K (o.q hq) (h.qy hq)) (Int.dvd_mul_right q _))
theorem Zay {a b:Spt}{T:Int}(h:Run r u F p q U a T b):cr F a=false:=by cases h <;> assumption
theorem Z9P {a b:Spt}{T:Int}(hT:T=0)(h:Run r u F p q U a T b):b=a:=by
 cases h with
 | nil=>rfl
 | cons _ _ _ h0=>lia
theorem Zap {a b c:Spt}{T:Int}(h:Run r u F p q U a T b):Run r u F p q U a T c->b=c:=by
 induction h with
 | nil a h=>intro g; exact (Z9P rfl g).symm
 | cons a T b h0 _ _ ih=>
  intro g
  cases g with
  | nil=>lia
  | cons _ _ _ _ _ g=>exact ih g
theorem Zc6 {a b c:Spt}{M T:Int}(h:Hit r u F p q U a M T b):Run r u F p q U a M c->False:=by
 induction h with
 | here a M _ h=>intro g; rw[Zay g]at h; cases h
 | cons a M T b h0 _ _ ih=>
  intro g
  cases g with
  | nil=>lia
  | cons _ _ _ _ _ g=>exact ih g
theorem Z9R {x m:Int}{p:Int}(hU:0 < U)(h0:0<=x)(h1:x < U)(dU:p≠0->p∣U)(dx:p≠0->p∣x)(hm:1<=m)(hs:m < sid U (ou p U x) p) :
  (p≠0->ou p U x+p * m≠0/\ou p U x+p * m≠U)/\z0 U (ou p U x+p * m)=ou p U x+p * m/\(ou p U (ou p U x+p * m)=ou p U x+p * m)/\(p≠0->sid U (ou p U x+p * m) p=sid U (ou p U x) p - m)/\(∀ c,lo p (ou p U x+p * m) c=[])/\(∀ c,li U (ou p U x+p * m) c=[]):=by
 have ho:=Zam (p:=p) hU h0 h1
 have hin:=Z2M hU h0 h1 hm (Int.le_of_lt hs)
 have main:(p≠0->ou p U x+p * m≠0/\ou p U x+p * m≠U/\sid U (ou p U x+p * m) p=sid U (ou p U x) p - m):=fun hp=>by
  rcases Int.lt_or_gt_of_ne hp with hn | hpos
  ·obtain⟨k,hk⟩:=Z4K (U:=U) (dU hp) (dx hp)
   have e:ou p U x=(-p) * (-k):=by rw[hk,Int.neg_mul_neg]
   have e2:ou p U x+p * m=(-p) * (-k - m):=by rw[e,Int.mul_sub,Int.neg_mul p m]; lia
   unfold sid at hs ⊢
   rw[if_neg (by lia),if_pos hn]at hs
   rw[if_neg (by lia),if_pos hn,if_neg (by lia),if_pos hn]
   rw[e,Int.mul_ediv_cancel_left _ (by lia)]at hs
   have h3:=hin.2.2 (by lia)
   refine⟨fun z=>?_,by lia,?_⟩
   ·rw[e2]at z
    rcases Int.mul_eq_zero.mp z with g | g <;> lia
   ·rw[e2,Int.mul_ediv_cancel_left _ (by lia),e,Int.mul_ediv_cancel_left _ (by lia)]
  ·have e0:ou p U x=x:=by unfold ou; rw[if_neg (by lia)]
   obtain⟨k,hk⟩:=Int.dvd_sub (dU hp) (dx hp)
   unfold sid at hs ⊢
   rw[if_pos hpos]at hs
   rw[if_pos hpos,if_pos hpos]
   rw[e0]at hs hin ⊢
   rw[hk,Int.mul_ediv_cancel_left _ hp]at hs
   have e2:U - (x+p * m)=p * (k - m):=by rw[Int.mul_sub,<-hk]; lia
   have pm:0 < p * m:=Int.mul_pos hpos (by lia)
   refine⟨by lia,fun z=>?_,?_⟩
   ·have:p * (k - m)=0:=by omega
    rcases Int.mul_eq_zero.mp this with g | g <;> lia
   ·rw[e2,Int.mul_ediv_cancel_left _ hp,hk,Int.mul_ediv_cancel_left _ hp]
 have nU:ou p U x+p * m≠U:=by
  by_cases hp:p=0
  ·subst hp; have:=hin.2.2 (by lia); lia
  ·exact (main hp).2.1
 have n0:¬ (p < 0/\ou p U x+p * m=0):=fun z=>(main (by lia)).1 z.2
 refine⟨fun hp=>⟨(main hp).1,(main hp).2.1⟩,by unfold z0; rw[if_neg nU],by show (if p < 0/\ou p U x+p * m=0 then U else ou p U x+p * m)=_; rw[if_neg n0],fun hp=>(main hp).2.2,fun c=>by unfold lo; rw[if_neg n0],fun c=>by unfold li; rw[if_neg nU]⟩
theorem Z5x {x m p:Int}(hU:0 < U)(h0:0<=x)(h1:x < U)(hm:1<=m)(hs:m<=sid U (ou p U x) p) :
  ou (-p) U (z0 U (ou p U x+p * m))=ou p U x+p * m/\m<=sid U (ou p U x+p * m) (-p)/\z0 U (ou p U x)=x/\((-p < 0/\z0 U (ou p U x+p * m)=0)↔ou p U x+p * m=U)/\(ou p U x=U↔(p < 0/\x=0)):=by
 have ho:=Zam (p:=p) hU h0 h1
 obtain⟨i1,i2,i3⟩:=Z2M hU h0 h1 hm hs
 have zx:z0 U (ou p U x)=x:=by unfold z0 ou; split <;> split <;> lia
 have oU:ou p U x=U↔(p < 0/\x=0):=by unfold ou; split <;> lia
 unfold sid at hs
 by_cases hp:0 < p
 ·rw[if_pos hp]at hs
  have e0:ou p U x=x:=by unfold ou; rw[if_neg (by lia)]
  have pm:0 < p * m:=Int.mul_pos hp (by lia)
  have ez:z0 U (ou p U x+p * m)=if ou p U x+p * m=U then 0 else ou p U x+p * m:=rfl
  refine⟨?_,?_,zx,?_,oU⟩
  ·unfold ou; unfold ou at *; rw[ez]; split <;> split <;> lia
  ·unfold sid
   rw[if_neg (by lia),if_pos (by lia),Int.neg_neg]
   refine Int.le_ediv_of_mul_le hp ?_
   rw[Int.mul_comm]; lia
  ·rw[ez]; split <;> lia
 ·rw[if_neg hp]at hs
  have h3:=i3 (by lia)
  have ez:z0 U (ou p U x+p * m)=ou p U x+p * m:=by unfold z0; rw[if_neg (by lia)]
  refine⟨?_,?_,zx,?_,oU⟩
  ·rw[ez]; show (if -p < 0/\ou p U x+p * m=0 then U else ou p U x+p * m)=_; rw[if_neg (by lia)]
  ·by_cases hn:p < 0
   ·unfold sid
    rw[if_pos (by lia)]
    refine Int.le_ediv_of_mul_le (by lia) ?_
    have:m * -p=-(p * m):=by rw[Int.mul_neg,Int.mul_comm]
    lia
   ·have:p=0:=by lia
    subst this
    rw[if_neg (by lia)]at hs
    unfold sid
    rw[if_neg (by lia),if_neg (by lia)]
    exact hs
  ·rw[ez]; lia
def Za2 (n:Nat)(r u F:List Nat):Prop:=∀ s,s < n->s∉F->nx u (nx r (nx (back u) (nx (back r) s)))=s
def Z4y (r u:List Nat)(s:Nat)(w:WS):Spt:=⟨Z1S r u w.w s,w.x,w.y⟩
theorem Z7s {M:Int}{s:Nat}{w:WS}:Z4y r u s (stp p q U M w)=one r u p q U (M - w.t) (Z4y r u s w)/\(stp p q U M w).t=w.t+rm p q U (M - w.t) (Z4y r u s w):=by
 refine⟨?_,rfl⟩
 unfold Z4y stp one wd
 dsimp only
 rw[Z1W]
 rfl
theorem ZaK {M X Y:Int}{s i:Nat}(hf:∀ j,j < i->cr F (Z4y r u s (ws p q U M X Y j))=false/\(ws p q U M X Y j).t < M)(ht:(ws p q U M X Y i).t=M)(hc:cr F (Z4y r u s (ws p q U M X Y i))=false) :
  ∀ k,k<=i->Run r u F p q U (Z4y r u s (ws p q U M X Y (i - k))) (M - (ws p q U M X Y (i - k)).t) (Z4y r u s (ws p q U M X Y i))
 | 0,_=>by
  rw[Nat.sub_zero,ht,Int.sub_self]
  exact .nil _ hc
 | k+1,hk=>by
  have ih:=ZaK hf ht hc k (by lia)
  obtain⟨f1,f2⟩:=hf (i - (k+1)) (by lia)
  have e:ws p q U M X Y (i - k)=stp p q U M (ws p q U M X Y (i - (k+1))):=by
   rw[show i - k=(i - (k+1))+1 by lia]; rfl
  obtain⟨s1,s2⟩:=Z7s (r:=r) (u:=u) (p:=p) (q:=q) (U:=U) (M:=M) (s:=s) (w:=ws p q U M X Y (i - (k+1)))
  rw[e,s1,s2]at ih
  refine .cons _ _ _ (by lia) f1 ?_
  rwa [show M - ((ws p q U M X Y (i - (k+1))).t+rm p q U (M - (ws p q U M X Y (i - (k+1))).t) (Z4y r u s (ws p q U M X Y (i - (k+1)))))=M - (ws p q U M X Y (i - (k+1))).t - rm p q U (M - (ws p q U M X Y (i - (k+1))).t) (Z4y r u s (ws p q U M X Y (i - (k+1)))) by lia]at ih
theorem ZaI {M X Y:Int}{s i:Nat}(hf:∀ j,j < i->cr F (Z4y r u s (ws p q U M X Y j))=false/\(ws p q U M X Y j).t < M)(ht:(ws p q U M X Y i).t<=M)(hc:cr F (Z4y r u s (ws p q U M X Y i))=true) :
  ∀ k,k<=i->Hit r u F p q U (Z4y r u s (ws p q U M X Y (i - k))) (M - (ws p q U M X Y (i - k)).t) ((ws p q U M X Y i).t - (ws p q U M X Y (i - k)).t) (Z4y r u s (ws p q U M X Y i))
 | 0,_=>by
  rw[Nat.sub_zero,Int.sub_self]
  exact .here _ _ (by lia) hc
 | k+1,hk=>by
  have ih:=ZaI hf ht hc k (by lia)
  obtain⟨f1,f2⟩:=hf (i - (k+1)) (by lia)
  have e:ws p q U M X Y (i - k)=stp p q U M (ws p q U M X Y (i - (k+1))):=by
   rw[show i - k=(i - (k+1))+1 by lia]; rfl
  obtain⟨s1,s2⟩:=Z7s (r:=r) (u:=u) (p:=p) (q:=q) (U:=U) (M:=M) (s:=s) (w:=ws p q U M X Y (i - (k+1)))
  rw[e,s1,s2]at ih
  rw[show M - ((ws p q U M X Y (i - (k+1))).t+rm p q U (M - (ws p q U M X Y (i - (k+1))).t) (Z4y r u s (ws p q U M X Y (i - (k+1)))))=M - (ws p q U M X Y (i - (k+1))).t - rm p q U (M - (ws p q U M X Y (i - (k+1))).t) (Z4y r u s (ws p q U M X Y (i - (k+1)))) by lia]at ih
  have:=Hit.cons _ _ _ _ (by lia) f1 ih
  rwa [show (ws p q U M X Y i).t - ((ws p q U M X Y (i - (k+1))).t+rm p q U (M - (ws p q U M X Y (i - (k+1))).t) (Z4y r u s (ws p q U M X Y (i - (k+1)))))+rm p q U (M - (ws p q U M X Y (i - (k+1))).t) (Z4y r u s (ws p q U M X Y (i - (k+1))))=(ws p q U M X Y i).t - (ws p q U M X Y (i - (k+1))).t by lia]at this
end
end Sq
namespace Sq
abbrev Ev:=Int×Nat×Nat
def ltE (e f:Ev):Prop:=e.1 < f.1\/(e.1=f.1/\(e.2.1 < f.2.1\/(e.2.1=f.2.1/\e.2.2 < f.2.2)))
def mvE (r u:List Nat)(s c:Nat):Nat:=if c=114 then nx r s else if c=108 then nx (back r) s else if c=117 then nx u s else nx (back u) s
inductive Res where
 | there (s:Nat)
 | corner (s:Nat) (t:Int)
def Res.sh (d:Int):Res->Res
 | .there s=>.there s
 | .corner s t=>.corner s (t+d)
def Z2p (r u F:List Nat):List Ev->Nat->Res
 | [],s=>.there s
 | e :: es,s=>if e.2.1=1 then (if s∈F then .corner s e.1 else Z2p r u F es s) else Z2p r u F es (mvE r u s e.2.2)
def shE (d:Int)(e:Ev):Ev:=(e.1+d,e.2)
section
variable {n:Nat}{r u F:List Nat}{p q U:Int}
theorem Z56 (d:Int):∀ (L:List Ev) (s:Nat),Z2p r u F (L.map (shE d)) s=(Z2p r u F L s).sh d
 | [],s=>rfl
 | e :: L,s=>by
  show (if e.2.1=1 then (if s∈F then Res.corner s (e.1+d) else Z2p r u F (L.map (shE d)) s) else Z2p r u F (L.map (shE d)) (mvE r u s e.2.2))=(if e.2.1=1 then (if s∈F then Res.corner s e.1 else Z2p r u F L s) else Z2p r u F L (mvE r u s e.2.2)).sh d
  rw[Z56 d L,Z56 d L]
  split
  ·split <;> rfl
  ·rfl
def PE (p q U:Int)(a:Spt)(T:Int)(e:Ev):Prop:=
 (e.2=(0,114)/\0 < p/\0 < e.1/\e.1<=T/\U∣a.x+p * e.1)\/(e.2=(0,117)/\0 < q/\0 < e.1/\e.1<=T/\U∣a.y+q * e.1)\/
 (e.2=(2,108)/\p < 0/\0<=e.1/\e.1 < T/\U∣a.x+p * e.1)\/(e.2=(2,100)/\q < 0/\0<=e.1/\e.1 < T/\U∣a.y+q * e.1)\/
 (e.2=(1,99)/\0<=e.1/\e.1<=T/\U∣a.x+p * e.1/\U∣a.y+q * e.1)
def Lst (p q U:Int)(a:Spt)(T:Int)(L:List Ev):Prop:=L.Pairwise ltE/\∀ e,e∈L↔PE p q U a T e
theorem Zct (e:Ev):¬ ltE e e:=fun h=>by unfold ltE at h; lia
theorem Zan {e f:Ev}(h:ltE e f):¬ ltE f e:=fun g=>by unfold ltE at *; lia
theorem Z1F {a:Spt}{T:Int}{L L':List Ev}(h:Lst p q U a T L)(h':Lst p q U a T L'):L=L':=by
 have nd:∀ {L:List Ev},L.Pairwise ltE->L.Nodup:=fun h=>h.imp fun {a b} hab e=>by subst e; exact Zct _ hab
 have pm:L.Perm L':=(List.perm_ext_iff_of_nodup (nd h.1) (nd h'.1)).mpr fun e=>by rw[h.2,h'.2]
 exact pm.eq_of_pairwise (fun a b _ _ x y=>absurd y (Zan x)) h.1 h'.1
structure Sd (p U x x1 m:Int):Prop where
 s1:∀ t,U∣x1+p * (t - m)↔U∣x+p * t
 s2:p≠0->∀ t,0 < t->t < m->¬ U∣x+p * t
 s3:0 < p->(U∣x+p * m↔ou p U x+p * m=U)
 s4:U∣x↔x=0
theorem Z9z {U v:Int}(h0:0 < v)(h1:v < U):¬ U∣v:=fun h=>by have:=Int.le_of_dvd h0 h; lia
theorem Z3z {U v:Int}:U∣U+v↔U∣v:=⟨fun h=>by have:=Int.dvd_sub h (Int.dvd_refl U); rwa [show U+v - U=v by lia]at this,fun h=>Int.dvd_add (Int.dvd_refl U) h⟩
theorem side {x m:Int}{p:Int}(hU:0 < U)(h0:0<=x)(h1:x < U)(dU:p≠0->p∣U)(dx:p≠0->p∣x)(hm:1<=m)(hs:m<=sid U (ou p U x) p):Sd p U x (z0 U (ou p U x+p * m)) m:=by
 have ho:ou p U x=x\/ou p U x=U+x:=by unfold ou; split <;> lia
 obtain⟨i1,i2,i3⟩:=Z2M hU h0 h1 hm hs
 have od:∀ v:Int,U∣ou p U x+v↔U∣x+v:=fun v=>by
  rcases ho with e | e
  ·rw[e]
  ·rw[e,Int.add_assoc]; exact Z3z
 refine⟨fun t=>?_,fun hp t t0 t1 hd=>?_,fun hp=>?_,?_⟩
 ·have e1:U∣z0 U (ou p U x+p * m)+p * (t - m)↔U∣ou p U x+p * m+p * (t - m):=by
   unfold z0
   split
   ·rename_i e; rw[e,Int.zero_add]; exact Z3z.symm
   ·exact Iff.rfl
  rw[e1,show ou p U x+p * m+p * (t - m)=ou p U x+p * t by rw[Int.mul_sub]; lia]
  exact od _
 ·obtain⟨y1,_⟩:=Z9R hU h0 h1 dU dx (show 1<=t by lia) (by lia)
  obtain⟨j1,j2,_⟩:=Z2M hU h0 h1 (show 1<=t by lia) (show t<=sid U (ou p U x) p by lia)
  obtain⟨y1,y2⟩:=y1 hp
  exact Z9z (by lia) (by lia) ((od _).mpr hd)
 ·rw[<-od]
  have pm:0 < p * m:=Int.mul_pos hp (by lia)
  have o0:=(Zam (p:=p) hU h0 h1).1
  exact⟨fun h=>by have:=Int.le_of_dvd (by lia) h; lia,fun h=>by rw[h]; exact Int.dvd_refl U⟩
 ·refine⟨fun h=>?_,fun h=>by rw[h]; exact Int.dvd_zero U⟩
  rcases Int.lt_or_le 0 x with g | g
  ·exact absurd h (Z9z g h1)
  ·lia
def pre (p q:Int)(a:Spt):List Ev:=(if a.x=0/\a.y=0 then [(0,1,99)] else [])++((if q < 0/\a.y=0 then [(0,2,100)] else [])++(if p < 0/\a.x=0 then [(0,2,108)] else []))
def post (p q U m:Int)(a:Spt):List Ev:=(if ou p U a.x+p * m=U then [(m,0,114)] else [])++(if ou q U a.y+q * m=U then [(m,0,117)] else [])
theorem Z1M {A:Prop}[Decidable A]{e f:Ev}:e∈(if A then [f] else [])↔A/\e=f:=by
 split <;> simp[*]
theorem Z8O {a:Spt}{e:Ev}:e∈pre p q a↔((a.x=0/\a.y=0)/\e=(0,1,99))\/((q < 0/\a.y=0)/\e=(0,2,100))\/((p < 0/\a.x=0)/\e=(0,2,108)):=by
 unfold pre
 rw[Y0b,Y0b,Z1M,Z1M,Z1M]
theorem Z5k {a:Spt}{m:Int}{e:Ev}:e∈post p q U m a↔(ou p U a.x+p * m=U/\e=(m,0,114))\/(ou q U a.y+q * m=U/\e=(m,0,117)):=by
 unfold post
 rw[Y0b,Z1M,Z1M]
theorem Z4R {A:Prop}[Decidable A]{f:Ev}:(if A then [f] else []).Pairwise ltE:=by
 split
 ·exact List.pairwise_singleton _ _
 ·exact .nil
theorem Z3R {a:Spt}{T:Int}{L1:List Ev}(hr:Row n r)(hu:Row n u)(o:WOk p q U)(h:SIn n p q U a)(hT:0 < T)(h1:Lst p q U (one r u p q U T a) (T - rm p q U T a) L1) :
  Lst p q U a T (pre p q a++(post p q U (rm p q U T a) a++L1.map (shE (rm p q U T a)))):=by
 have m1:=Z7n o h hT
 have m2:rm p q U T a<=T:=Z9j
 have lx:rm p q U T a<=sid U (ou p U a.x) p:=by unfold rm; lia
 have ly:rm p q U T a<=sid U (ou q U a.y) q:=by unfold rm; lia
 have sx:=side o.u h.x0 h.x1 o.p h.px m1 lx
 have sy:=side o.u h.y0 h.y1 o.q h.qy m1 ly
 have x3:=(Z2M o.u h.x0 h.x1 m1 lx).2.2
 have y3:=(Z2M o.u h.y0 h.y1 m1 ly).2.2
 obtain⟨pw,me⟩:=h1
 have ex:(one r u p q U T a).x=z0 U (ou p U a.x+p * rm p q U T a):=rfl
 have ey:(one r u p q U T a).y=z0 U (ou q U a.y+q * rm p q U T a):=rfl
 generalize rm p q U T a=m at *
 have mS:∀ e:Ev,e∈L1.map (shE m)↔PE p q U (one r u p q U T a) (T - m) (e.1 - m,e.2):=fun e=>by
  rw[Y0f,<-me]
  exact⟨fun ⟨f,hf,he⟩=>by subst he; unfold shE; rw[show f.1+m - m=f.1 by lia]; exact hf,fun hf=>⟨_,hf,by unfold shE; rw[show e.1 - m+m=e.1 by lia]⟩⟩
 constructor
 ·rw[Y0h,Y0h]
  refine⟨?_,⟨?_,?_,?_⟩,?_⟩
  ·unfold pre
   rw[Y0h,Y0h]
   refine⟨Z4R,⟨Z4R,Z4R,fun e he f hf=>?_⟩,fun e he f hf=>?_⟩
   ·rw[Z1M]at he hf; rw[he.2,hf.2]; unfold ltE; simp
   ·rw[Y0b,Z1M,Z1M]at hf
    rw[Z1M]at he
    rw[he.2]
    rcases hf with hf | hf <;> rw[hf.2] <;> unfold ltE <;> simp
  ·unfold post
   rw[Y0h]
   refine⟨Z4R,Z4R,fun e he f hf=>?_⟩
   rw[Z1M]at he hf; rw[he.2,hf.2]; unfold ltE; simp
  ·refine Y0t.mpr (pw.imp fun {e f} hef=>?_)
   unfold ltE shE at *
   dsimp only
   lia
  ·intro e he f hf
   rw[mS]at hf
   have e1:e.1=m/\e.2.1=0/\e.2.2<=117:=by
    rcases Z5k.mp he with ⟨_,rfl⟩ | ⟨_,rfl⟩ <;> exact⟨rfl,rfl,by simp⟩
   have f1:m < f.1\/(m<=f.1/\1<=f.2.1):=by
    unfold PE at hf
    dsimp only at hf
    rcases hf with ⟨g,_,g1,_⟩ | ⟨g,_,g1,_⟩ | ⟨g,_,g1,_⟩ | ⟨g,_,g1,_⟩ | ⟨g,g1,_⟩ <;> rw[g] <;> lia
   unfold ltE
   lia
  ·intro e he f hf
   have e1:e.1=0:=by
    rcases Z8O.mp he with ⟨_,rfl⟩ | ⟨_,rfl⟩ | ⟨_,rfl⟩ <;> rfl
   have f1:m<=f.1:=by
    rcases Y0b.mp hf with hf | hf
    ·rcases Z5k.mp hf with ⟨_,rfl⟩ | ⟨_,rfl⟩ <;> exact Int.le_refl m
    ·rw[mS]at hf
     unfold PE at hf
     dsimp only at hf
     rcases hf with ⟨g,_,g1,_⟩ | ⟨g,_,g1,_⟩ | ⟨g,_,g1,_⟩ | ⟨g,_,g1,_⟩ | ⟨g,g1,_⟩ <;> lia
   unfold ltE
   lia
 ·rintro ⟨t,kc⟩
  rw[Y0b,Y0b,mS,Z8O,Z5k]
  have ax:=sx.s1 t
  have ay:=sy.s1 t
  have zx:U∣a.x+p * 0↔a.x=0:=by rw[Int.mul_zero,Int.add_zero]; exact sx.s4
  have zy:U∣a.y+q * 0↔a.y=0:=by rw[Int.mul_zero,Int.add_zero]; exact sy.s4
  rw[<-ex]at ax
  rw[<-ey]at ay
  unfold PE
  dsimp only
  rw[ax,ay]
  constructor
  ·rintro ((⟨g,e⟩ | ⟨g,e⟩ | ⟨g,e⟩) | (⟨g,e⟩ | ⟨g,e⟩) | hh)
   ·injection e with e1 e2; subst e1 e2
    exact .inr (.inr (.inr (.inr ⟨rfl,by lia,by lia,zx.mpr g.1,zy.mpr g.2⟩)))
   ·injection e with e1 e2; subst e1 e2
    exact .inr (.inr (.inr (.inl ⟨rfl,g.1,by lia,by lia,zy.mpr g.2⟩)))
   ·injection e with e1 e2; subst e1 e2
    exact .inr (.inr (.inl ⟨rfl,g.1,by lia,by lia,zx.mpr g.2⟩))
   ·injection e with e1 e2; subst e1 e2
    have hp:0 < p:=by
     rcases Int.lt_or_le 0 p with z | z
     ·exact z
     ·have:=x3 z; lia
    exact .inl ⟨rfl,hp,by lia,m2,(sx.s3 hp).mpr g⟩
   ·injection e with e1 e2; subst e1 e2
    have hq:0 < q:=by
     rcases Int.lt_or_le 0 q with z | z
     ·exact z
     ·have:=y3 z; lia
    exact .inr (.inl ⟨rfl,hq,by lia,m2,(sy.s3 hq).mpr g⟩)
   ·rcases hh with ⟨g,g0,g1,g2,g3⟩ | ⟨g,g0,g1,g2,g3⟩ | ⟨g,g0,g1,g2,g3⟩ | ⟨g,g0,g1,g2,g3⟩ | ⟨g,g1,g2,g3⟩
    ·exact .inl ⟨g,g0,by lia,by lia,g3⟩
    ·exact .inr (.inl ⟨g,g0,by lia,by lia,g3⟩)
    ·exact .inr (.inr (.inl ⟨g,g0,by lia,by lia,g3⟩))
    ·exact .inr (.inr (.inr (.inl ⟨g,g0,by lia,by lia,g3⟩)))
    ·exact .inr (.inr (.inr (.inr ⟨g,by lia,by lia,g3⟩)))
  ·rintro (⟨g,g0,g1,g2,g3⟩ | ⟨g,g0,g1,g2,g3⟩ | ⟨g,g0,g1,g2,g3⟩ | ⟨g,g0,g1,g2,g3⟩ | ⟨g,g1,g2,g3,g4⟩)
   ·rcases Int.lt_trichotomy t m with c | c | c
    ·exact absurd g3 (sx.s2 (by lia) t g1 c)
    ·subst c; exact .inr (.inl (.inl ⟨(sx.s3 g0).mp g3,by rw[g]⟩))
    ·exact .inr (.inr (.inl ⟨g,g0,by lia,by lia,g3⟩))
   ·rcases Int.lt_trichotomy t m with c | c | c
    ·exact absurd g3 (sy.s2 (by lia) t g1 c)
    ·subst c; exact .inr (.inl (.inr ⟨(sy.s3 g0).mp g3,by rw[g]⟩))
    ·exact .inr (.inr (.inr (.inl ⟨g,g0,by lia,by lia,g3⟩)))
   ·rcases Int.lt_or_le t m with c | c
    ·rcases Int.lt_or_le 0 t with z | z
     ·exact absurd g3 (sx.s2 (by lia) t z c)
     ·have:t=0:=by lia
      subst this
      exact .inl (.inr (.inr ⟨⟨g0,zx.mp g3⟩,by rw[g]⟩))
    ·exact .inr (.inr (.inr (.inr (.inl ⟨g,g0,by lia,by lia,g3⟩))))
   ·rcases Int.lt_or_le t m with c | c
    ·rcases Int.lt_or_le 0 t with z | z
     ·exact absurd g3 (sy.s2 (by lia) t z c)
     ·have:t=0:=by lia
      subst this
      exact .inl (.inr (.inl ⟨⟨g0,zy.mp g3⟩,by rw[g]⟩))
    ·exact .inr (.inr (.inr (.inr (.inr (.inl ⟨g,g0,by lia,by lia,g3⟩)))))
   ·rcases Int.lt_or_le t m with c | c
    ·rcases Int.lt_or_le 0 t with z | z
     ·by_cases hp:p=0
      ·exact absurd g4 (sy.s2 (fun hq=>o.n ⟨hp,hq⟩) t z c)
      ·exact absurd g3 (sx.s2 hp t z c)
     ·have:t=0:=by lia
      subst this
      exact .inl (.inl ⟨⟨zx.mp g3,zy.mp g4⟩,by rw[g]⟩)
    ·exact .inr (.inr (.inr (.inr (.inr (.inr ⟨g,by lia,by lia,g3,g4⟩)))))
theorem Z5h {a:Spt}(h:SIn n p q U a)(hU:0 < U):Lst p q U a 0 (if a.x=0/\a.y=0 then [(0,1,99)] else []):=by
 have z:∀ {x v:Int},0<=x->x < U->(U∣x+v * 0↔x=0):=fun {x v} h0 h1=>by
  rw[Int.mul_zero,Int.add_zero]
  refine⟨fun h=>?_,fun h=>by rw[h]; exact Int.dvd_zero U⟩
  rcases Int.lt_or_le 0 x with g | g
  ·exact absurd h (Z9z g h1)
  ·lia
 refine⟨Z4R,?_⟩
 rintro ⟨t,kc⟩
 rw[Z1M]
 unfold PE
 dsimp only
 constructor
 ·rintro ⟨g,e⟩
  injection e with e1 e2; subst e1 e2
  exact .inr (.inr (.inr (.inr ⟨rfl,by lia,by lia,(z h.x0 h.x1).mpr g.1,(z h.y0 h.y1).mpr g.2⟩)))
 ·rintro (⟨g,g0,g1,g2,g3⟩ | ⟨g,g0,g1,g2,g3⟩ | ⟨g,g0,g1,g2,g3⟩ | ⟨g,g0,g1,g2,g3⟩ | ⟨g,g1,g2,g3,g4⟩)
  ·lia
  ·lia
  ·lia
  ·lia
  ·have:t=0:=by lia
   subst this
   exact⟨⟨(z h.x0 h.x1).mp g3,(z h.y0 h.y1).mp g4⟩,by rw[g]⟩
theorem Z5r (hr:Row n r)(hu:Row n u)(o:WOk p q U):∀ (k:Nat) {a:Spt} {T:Int},SIn n p q U a->0<=T->T.toNat=k->∃ L,Lst p q U a T L:=by
 intro k
 induction k using Nat.strongRecOn with
 | ind k ih=>
  intro a T h h0 hk
  by_cases c:0 < T
  ·have m1:=Z7n o h c
   have m2:rm p q U T a<=T:=Z9j
   obtain⟨L1,h1⟩:=ih (T - rm p q U T a).toNat (by lia) (Z7k hr hu o h c) (by lia) rfl
   exact⟨_,Z3R hr hu o h c h1⟩
  ·have:T=0:=by lia
   subst this
   exact⟨_,Z5h h o.u⟩
theorem Z5W {a:Spt}{T:Int}{L:List Ev}(hr:Row n r)(hu:Row n u)(o:WOk p q U)(pl:Za2 n r u F)(h:SIn n p q U a)(hT:0 < T)(ha:cr F a=false) :
  Z2p r u F (pre p q a++(post p q U (rm p q U T a) a++L)) a.s=Z2p r u F L (one r u p q U T a).s:=by
 have m1:=Z7n o h hT
 have lx:rm p q U T a<=sid U (ou p U a.x) p:=by unfold rm; lia
 have ly:rm p q U T a<=sid U (ou q U a.y) q:=by unfold rm; lia
 obtain⟨_,_,_,x4,_⟩:=Z5x o.u h.x0 h.x1 m1 lx
 obtain⟨_,_,_,y4,_⟩:=Z5x o.u h.y0 h.y1 m1 ly
 have hs:=h.s
 have skip:∀ B:List Ev,Z2p r u F ((if a.x=0/\a.y=0 then [(0,1,99)] else [])++B) a.s=Z2p r u F B a.s:=fun B=>by
  by_cases c:a.x=0/\a.y=0
  ·rw[if_pos c]
   have nF:a.s∉F:=fun z=>by
    unfold cr at ha
    rw[decide_eq_true c.1,decide_eq_true c.2,decide_eq_true z]at ha
    cases ha
   show (if (1:Nat)=1 then (if a.s∈F then _ else Z2p r u F B a.s) else _)=_
   rw[if_pos rfl,if_neg nF]
  ·rw[if_neg c]; rfl
 have one':∀ {A:Prop} [Decidable A] {t:Int} {k c:Nat} {B:List Ev} {s:Nat},k≠1->Z2p r u F ((if A then [(t,k,c)] else [])++B) s=Z2p r u F B (if A then mvE r u s c else s):=fun {A _ t k c B s} hk=>by
  by_cases g:A
  ·rw[if_pos g,if_pos g]
   show (if k=1 then _ else Z2p r u F B (mvE r u s c))=_
   rw[if_neg hk]
  ·rw[if_neg g,if_neg g]; rfl
 unfold pre post
 rw[Y0l,skip,Y0l,one' (by decide),one' (by decide),Y0l,one' (by decide),one' (by decide)]
 congr 1
 show _=Z1S r u (wd p q U T a) a.s
 unfold wd
 rw[Z1W,Z1W,Z1W,Z8r,Z7u,Z9y,Z6Y]
 have e1:∀ s,mvE r u s 100=nx (back u) s:=fun s=>rfl
 have e2:∀ s,mvE r u s 108=nx (back r) s:=fun s=>rfl
 have e3:∀ s,mvE r u s 114=nx r s:=fun s=>rfl
 have e4:∀ s,mvE r u s 117=nx u s:=fun s=>rfl
 rw[e1,e2,e3,e4]
 have mid:(if p < 0/\a.x=0 then nx (back r) (if q < 0/\a.y=0 then nx (back u) a.s else a.s) else (if q < 0/\a.y=0 then nx (back u) a.s else a.s))=(if q < 0/\a.y=0 then nx (back u) (if p < 0/\a.x=0 then nx (back r) a.s else a.s) else (if p < 0/\a.x=0 then nx (back r) a.s else a.s)):=by
  by_cases A:p < 0/\a.x=0
  ·by_cases B:q < 0/\a.y=0
   ·rw[if_pos A,if_pos B,if_pos B,if_pos A]
    have nF:a.s∉F:=fun z=>by
     unfold cr at ha
     rw[decide_eq_true A.2,decide_eq_true B.2,decide_eq_true z]at ha
     cases ha
    have e:=pl _ hs nF
    have l1:=hu.back.nlt (hr.back.nlt hs)
    have e1:nx r (nx (back u) (nx (back r) a.s))=nx (back u) a.s:=by
     have:=congrArg (nx (back u)) e
     rwa [Z8m hu (hr.nlt l1)]at this
    have:=congrArg (nx (back r)) e1
    rw[Z8m hr l1]at this
    exact this.symm
   ·rw[if_pos A,if_neg B,if_neg B,if_pos A]
  ·rw[if_neg A,if_neg A]
 rw[mid]
theorem Z6Z {a b:Spt}{T:Int}(hr:Row n r)(hu:Row n u)(o:WOk p q U)(pl:Za2 n r u F)(h:Run r u F p q U a T b):∀ {L:List Ev},SIn n p q U a->0<=T->Lst p q U a T L->Z2p r u F L a.s=.there b.s:=by
 induction h with
 | nil a hf=>
  intro L hi _ hL
  rw[Z1F hL (Z5h hi o.u)]
  split
  ·rename_i c
   have nF:a.s∉F:=fun z=>by
    unfold cr at hf
    rw[decide_eq_true c.1,decide_eq_true c.2,decide_eq_true z]at hf
    cases hf
   show (if (1:Nat)=1 then (if a.s∈F then _ else Z2p r u F [] a.s) else _)=_
   rw[if_pos rfl,if_neg nF]; rfl
  ·rfl
 | cons a T b h0 hf h' ih=>
  intro L hi _ hL
  have hi1:=Z7k hr hu o hi h0
  have m2:rm p q U T a<=T:=Z9j
  obtain⟨L1,h1⟩:=Z5r hr hu o _ hi1 (show 0<=T - rm p q U T a by lia) rfl
  rw[Z1F hL (Z3R hr hu o hi h0 h1),Z5W hr hu o pl hi h0 hf,Z56,ih hi1 (by lia) h1]
  rfl
theorem Z7r {a b:Spt}{M T:Int}(hr:Row n r)(hu:Row n u)(o:WOk p q U)(pl:Za2 n r u F)(h:Hit r u F p q U a M T b):∀ {L:List Ev},SIn n p q U a->Lst p q U a M L->Z2p r u F L a.s=.corner b.s T:=by
 induction h with
 | here a M h0 hf=>
  intro L hi hL
  unfold cr at hf
  rw[Bool.and_eq_true,Bool.and_eq_true,decide_eq_true_iff,decide_eq_true_iff,decide_eq_true_iff]at hf
  have hd:∀ B:List Ev,Z2p r u F ([(0,1,99)]++B) a.s=.corner a.s 0:=fun B=>by
   show (if (1:Nat)=1 then (if a.s∈F then Res.corner a.s 0 else _) else _)=_
   rw[if_pos rfl,if_pos hf.2.2]
  by_cases c:0 < M
  ·have hi1:=Z7k hr hu o hi c
   have m2:rm p q U M a<=M:=Z9j
   obtain⟨L1,h1⟩:=Z5r hr hu o _ hi1 (show 0<=M - rm p q U M a by lia) rfl
   rw[Z1F hL (Z3R hr hu o hi c h1)]
   unfold pre
   rw[if_pos ⟨hf.1,hf.2.1⟩,Y0l]
   exact hd _
  ·have:M=0:=by lia
   subst this
   rw[Z1F hL (Z5h hi o.u),if_pos ⟨hf.1,hf.2.1⟩]
   exact hd []
 | cons a M T b h0 hf h' ih=>
  intro L hi hL
  have hi1:=Z7k hr hu o hi h0
  have m2:rm p q U M a<=M:=Z9j
  obtain⟨L1,h1⟩:=Z5r hr hu o _ hi1 (show 0<=M - rm p q U M a by lia) rfl
  rw[Z1F hL (Z3R hr hu o hi h0 h1),Z5W hr hu o pl hi h0 hf,Z56,ih hi1 h1]
  rfl
end
end Sq
namespace L2
open PySem PySem.Spec PyProof.Rows
section
variable {X:Cx}{tg:Expr}
def Zfq (te:TE):TE:=fun σ H Q=>te σ H fun x H1=>∃ i:Int,x=.int i/\i.natAbs.log2 < 1920/\Q (.str (toString i)) H1
theorem Z8e {e:Expr}{te:TE}{pos:Pos}(he:PE X e te):PE X (.FormattedValue e (-1) none pos) (Zfq te):=by
 intro pins s σ H Q I h
 refine wpAny_FormattedValue_plain (thn (he pins s σ H _ I h) fun v s1 ⟨x,H1,I1,r1,i,e,hz,q⟩=>?_)
 subst e
 obtain⟨t,rfl⟩:=r1
 exact wpAny_formatField_int hz ⟨.str (toString i),H1,I1.tok _,⟨_,rfl⟩,q⟩
def Z8R:List TE->Str->TE
 | [],acc=>fun _ H Q=>Q (.str acc) H
 | t :: ts,acc=>fun σ H Q=>t σ H fun x H1=>∃ y,x=.str y/\(acc++y).length<=sizeLine/\Z8R ts (acc++y) σ H1 Q
inductive Z5Q (X:Cx):List Expr->List TE->Prop
 | nil:Z5Q X [] []
 | cons {e:Expr} {t:TE} {es:List Expr} {ts:List TE}:PE X e t->Z5Q X es ts->Z5Q X (e :: es) (t :: ts)
theorem Z3D (env:Env):∀ es:List Expr,evalEach es env=es.map fun e=>eval e env
 | []=>rfl
 | e :: es=>by
  show eval e env :: evalEach es env=_
  rw[Z3D env es]; rfl
theorem Z74 {pins:List (Addr×Obj)}:∀ {es:List Expr} {ts:List TE} {acc:Str} {s:Shared} {σ:St} {H:Hp} {Q:VK},Z5Q X es ts->Inv X pins σ H s->acc.length<=sizeLine->Z8R ts acc σ H Q->
  Joins (model X.prog X.w) X.A X.xe (es.map fun e=>eval e X.env) acc (fun out s₁=>out.length<=sizeLine/\EP X pins σ Q (.str out s₁.toks) { s₁ with toks:=s₁.toks+1 }) s
 | [],_,acc,s,σ,H,Q,.nil,I,hz,h=>⟨hz,.str acc,H,I.tok _,⟨_,rfl⟩,h⟩
 | e :: es,_,acc,s,σ,H,Q,.cons h1 hr,I,hz,h=>by
  refine thn (h1 pins s σ H _ I h) fun v s1 ⟨x,H1,I1,r1,y,ex,hy,q⟩=>?_
  subst ex
  obtain⟨t,rfl⟩:=r1
  exact⟨y,t,rfl,hy,Z74 hr I1 hy q⟩
theorem ZcC {e1 e2:Expr}{es:List Expr}{ts:List TE}{pos:Pos}(h:Z5Q X (e1 :: e2 :: es) ts):PE X (.JoinedStr (e1 :: e2 :: es) pos) (Z8R ts Str.empty):=by
 intro pins s σ H Q I hw
 refine wpAny_JoinedStr ?_
 rw[Z3D]
 exact Z74 h I (by decide) hw
end
def ZcG (B:Heap)(e:Addr)(C:Value)(d:Option Addr)(h:Heap):Prop:=
 ∃ oe vs,h.get? e=some oe/\oe.cls=C/\oe.dict=d/\oe.data=.fields vs/\vs[2]?=some .none/\(vs[1]?=some .none\/∃ T oT ts fl,vs[1]?=some (.ref T)/\B.get? T=none/\T≠e/\h.get? T=some oT/\oT.data=.fields ts/\ts[3]?=some fl)
def ZbP (B:Heap)(e:Addr)(C:Value)(d:Option Addr)(fl:Value)(h:Heap):Prop:=
 ∃ oe vs T oT ts,h.get? e=some oe/\oe.cls=C/\oe.dict=d/\(oe.data=.fields vs/\vs[2]?=some .none)/\vs[1]?=some (.ref T)/\B.get? T=none/\T≠e/\h.get? T=some oT/\oT.data=.fields ts/\ts[3]?=some fl
theorem ZbP.at {B h:Heap}{e:Addr}{C fl:Value}{d:Option Addr}(x:ZbP B e C d fl h):ZcG B e C d h:=by
 obtain⟨oe,vs,T,oT,ts,h1,h2,h3,h4,h5,h6,h7,h8,h9,h10⟩:=x
 exact⟨oe,vs,h1,h2,h3,h4.1,h4.2,.inr ⟨T,oT,ts,fl,h5,h6,h7,h8,h9,h10⟩⟩
structure Air (B:Heap)(l:List Env)(e:Addr)(h:Heap):Prop where
 stays:B.StaysIn h
 new:B.get? e=none
 frames:h.FunFrames B l
section
variable {M:Model}{A:Around}{E:Value->Shared->Prop}{s:Shared}
theorem Z4D (o:Obj)(f:Array Value->Array Value):(o.mapFields f).dict=o.dict:=by
 obtain⟨c,d,dt,sl⟩:=o
 cases dt <;> rfl
theorem Z6c {B:Heap}{env:Env}{outer:List Env}{L e:Addr}{oe:Obj}{vs:Array Value}{head:Value}{had:Bool}{Q:Unit->Shared->Prop}
  (fr:A.frames=some (env :: outer)) (fl:env.frame=some L) (a:Air B (env :: outer) e s.heap) (he:s.heap.get? e=some oe) (hd:oe.data=.fields vs) (hcx:vs[2]?=some .none)
  (q:∀ h',Air B (env :: outer) e h'->ZbP B e oe.cls oe.dict (rawInt L) h'->s.heap.UpToSlots h'->Q () { s with heap:=h' }) :
  wpAny M A (do let f <-frameOf env; let pl <-entryPlaceOf L had; let b <-EntryCells.newEntry head f .none (rawInt L) .none pl; setField (.ref e) 1 b) Q E s:=by
 have hz2:2 < vs.size:=(Array.getElem?_eq_some_iff.mp hcx).1
 have hz:1 < vs.size:=by omega
 have nfr:e∉(env :: outer).filterMap (·.frame):=fun z=>by
  obtain⟨_,o,ho,hn⟩:=a.frames.mem z
  rw[he]at ho
  cases ho
  exact hn vs hd
 refine wpAny_bind (wpAny_frameOf_fun fr a.frames fl fun h1 so=>?_)
 refine wpAny_bind (wpAny_entryPlaceOf fun pl hpl=>?_)
 unfold EntryCells.newEntry newFields
 refine wpAny_bind (wpAny_newObj_type ?_ (hpl.sizeOk5 _ _ _ _ _))
 have he1:h1.get? e=some oe:=by rw[so.2.1 e nfr]; exact he
 have st1:B.StaysIn h1:=fun b o hb=>by
  rw[so.2.1 b fun z=>by rw[(a.frames.mem z).1]at hb; cases hb]
  exact a.stays b o hb
 generalize hrec:({ cls:=.type "traceback",dict:=none,data:=.fields ([head,.ref L,.none,rawInt L,.none]++(if pl.isEmpty then List.replicate 6 Value.none else pl)).toArray }:Obj)=rec
 have rdat:∃ ts:Array Value,rec.data=.fields ts/\ts[3]?=some (rawInt L):=by
  refine⟨([head,.ref L,.none,rawInt L,.none]++(if pl.isEmpty then List.replicate 6 Value.none else pl)).toArray,by rw[<-hrec],?_⟩
  simp
 obtain⟨ts,rd,r3⟩:=rdat
 have he2:=Y02 (h:=h1) rec he1
 refine wpAny_setField he2 hd hz ?_
 have nT:h1.objs.size≠e:=Nat.ne_of_gt (Y07 he1)
 have dat3:=Obj.data_mapFields hd (·.setIfInBounds 1 (Value.ref h1.objs.size))
 have he3:=Heap.get?_update_self (Obj.mapFields (·.setIfInBounds 1 (Value.ref h1.objs.size))) he2 (Obj.isFreed_of_fields dat3)
 have rnf:rec.isFreed=false:=Obj.isFreed_of_fields rd
 have hT3:((h1.push rec).update e (Obj.mapFields (·.setIfInBounds 1 (Value.ref h1.objs.size)))).get? h1.objs.size=some rec:=by
  rw[Y15 _ _ (Ne.symm nT)]; exact Y0a h1 rnf
 have keep:∀ b o,b≠e->h1.get? b=some o->((h1.push rec).update e (Obj.mapFields (·.setIfInBounds 1 (Value.ref h1.objs.size)))).get? b=some o:=fun b o nb hb=>by
  rw[Y15 _ _ (Ne.symm nb)]; exact Y02 _ hb
 have nrec:∀ b o,s.heap.get? b=some o->(∀ ws,o.data≠.fields ws)->b≠e:=fun b o hb hn z=>by
  rw[z,he]at hb
  cases hb
  exact hn vs hd
 refine q _ ⟨fun b o hb=>keep b o (fun z=>by rw[z,a.new]at hb; cases hb) (st1 b o hb),a.new,a.frames.of_keeps fun b o hb hn=>?_⟩ ?_ fun b o hb hn=>?_
 ·obtain⟨sl,e1⟩:=so.2.2 b o hb
  exact⟨_,keep b _ (nrec b o hb hn) e1,rfl⟩
 ·refine⟨_,_,h1.objs.size,rec,ts,he3,Obj.cls_mapFields _ _,Z4D _ _,⟨dat3,by rw[Array.getElem?_setIfInBounds_ne (by decide)]; exact hcx⟩,by simp[hz],st1.fresh,nT,hT3,rd,r3⟩
 ·obtain⟨sl,e1⟩:=so.2.2 b o hb
  exact⟨sl,keep b _ (nrec b o hb hn) e1⟩
theorem Z71 {B:Heap}{l:List Env}{e T:Addr}{oe oT:Obj}{vs ts:Array Value}{fl v:Value}(a:Air B l e s.heap)(he:s.heap.get? e=some oe)(hd:oe.data=.fields vs)(hcx:vs[2]?=some .none)(h1:vs[1]?=some (.ref T))(nT:B.get? T=none)(nTe:T≠e)
  (hT:s.heap.get? T=some oT) (hdT:oT.data=.fields ts) (h3:ts[3]?=some fl) {Q:Unit->Shared->Prop}
  (q:∀ h',Air B l e h'->h'.get? e=some oe->ZbP B e oe.cls oe.dict v h'->s.heap.UpToSlots h'->Q () { s with heap:=h' }):wpAny M A (setField (.ref T) 3 v) Q E s:=by
 have z3:3 < ts.size:=(Array.getElem?_eq_some_iff.mp h3).1
 have other:∀ b,b≠T->(s.heap.update T (Obj.mapFields (·.setIfInBounds 3 v))).get? b=s.heap.get? b:=fun b nb=>Y15 _ _ (Ne.symm nb)
 have nrec:∀ b o,s.heap.get? b=some o->(∀ ws,o.data≠.fields ws)->b≠T:=fun b o hb hn z=>by
  rw[z,hT]at hb
  cases hb
  exact hn ts hdT
 have he':=(other e (Ne.symm nTe)).trans he
 refine wpAny_setField hT hdT z3 (q _ ⟨fun b o hb=>?_,a.new,a.frames.of_keeps fun b o hb hn=>⟨o,(other b (nrec b o hb hn)).trans hb,rfl⟩⟩ he' ?_ fun b o hb hn=>⟨o.slots,(other b (nrec b o hb hn)).trans hb⟩)
 ·exact (other b fun z=>by rw[z,nT]at hb; cases hb).trans (a.stays b o hb)
 ·exact⟨oe,vs,T,_,_,he',rfl,rfl,⟨hd,hcx⟩,h1,nT,nTe,Heap.get?_update_self _ hT (Obj.isFreed_of_fields (Obj.data_mapFields hdT _)),Obj.data_mapFields hdT _,by simp[z3]⟩
theorem Z9E {B:Heap}{env:Env}{outer:List Env}{L e:Addr}{C:Value}{d:Option Addr}{Q:Unit->Shared->Prop}(fr:A.frames=some (env :: outer))(fl:env.frame=some L)(a:Air B (env :: outer) e s.heap)(x:ZcG B e C d s.heap)
  (q:∀ h',Air B (env :: outer) e h'->ZbP B e C d (rawInt L) h'->s.heap.UpToSlots h'->Q () { s with heap:=h' }):wpAny M A (noteFrame (.ref e) env) Q E s:=by
 obtain⟨oe,vs,he,rfl,rfl,hd,hz,hv⟩:=x
 unfold noteFrame
 simp only[fl]
 rcases hv with hv | ⟨T,oT,ts,f0,hv,nT,nTe,hT,hdT,h3⟩
 ·refine wpAny_bind (wpAny_field he hd hv ?_)
  rw[if_neg (by decide)]
  exact Z6c fr fl a he hd hz q
 ·refine wpAny_bind (wpAny_field he hd hv ?_)
  rw[if_pos (show (Value.ref T != Value.none)=true from by simp)]
  refine wpAny_bind (wpAny_field hT hdT h3 ?_)
  by_cases e0:(f0 == rawInt L)=true
  ·rw[if_pos e0]
   have e1:f0=rawInt L:=by simpa using e0
   subst e1
   exact wpAny_pure (q s.heap a ⟨oe,vs,T,oT,ts,he,rfl,rfl,⟨hd,hz⟩,hv,nT,nTe,hT,hdT,h3⟩ (Heap.UpToSlots.refl _))
  ·rw[if_neg e0]
   refine wpAny_bind (Z71 a he hd hz hv nT nTe hT hdT h3 fun h1 a1 he1 _ u1=>?_)
   exact Z6c (s:={ s with heap:=h1 }) fr fl a1 he1 hd hz fun h2 a2 x2 u2=>q h2 a2 x2 (u1.trans u2)
theorem Z7Q {B:Heap}{l:List Env}{e:Addr}{C f0:Value}{d:Option Addr}{o:Option Addr}{Q:Unit->Shared->Prop}(a:Air B l e s.heap)(x:ZbP B e C d f0 s.heap)
  (q:∀ h',Air B l e h'->ZbP B e C d (o.elim .none fun f=>rawInt f) h'->s.heap.UpToSlots h'->Q () { s with heap:=h' }):wpAny M A (setFlight (.ref e) o) Q E s:=by
 obtain⟨oe,vs,T,oT,ts,he,rfl,rfl,⟨hd,hcx⟩,hv,nT,nTe,hT,hdT,h3⟩:=x
 unfold setFlight
 refine wpAny_bind (wpAny_field he hd hv ?_)
 rw[if_pos (show (Value.ref T != Value.none)=true from by simp)]
 exact Z71 a he hd hcx hv nT nTe hT hdT h3 fun h' a' _ x' u'=>q h' a' x' u'
theorem Air.tail {B:Heap}{env:Env}{outer:List Env}{e:Addr}{h:Heap}(a:Air B (env :: outer) e h):Air B outer e h:=⟨a.stays,a.new,a.frames.2.2⟩
theorem Z60 {B:Heap}{env:Env}{outer:List Env}{L e:Addr}{C:Value}{d:Option Addr}{Q:Unit->Shared->Prop}(fr:A.frames=some (env :: outer))(fl:env.frame=some L)(a:Air B (env :: outer) e s.heap)(x:ZcG B e C d s.heap)
  (q:∀ h',Air B outer e h'->ZcG B e C d h'->s.heap.UpToSlots h'->Q () { s with heap:=h' }):wpAny M A (leaving env (.ref e)) Q E s:=by
 unfold leaving
 refine wpAny_bind (Z9E fr fl a x fun h1 a1 x1 u1=>?_)
 exact Z7Q (s:={ s with heap:=h1 }) a1 x1 fun h2 a2 x2 u2=>q h2 a2.tail x2.at (u1.trans u2)
end
structure UnB (fs:List Addr)(H H':Hp)(h B h':Heap):Prop where
 keep:∀ b o,h.get? b=some o->H b=none->b∉fs->B.get? b=some o
 slot:∀ b o,h.get? b=some o->H b=none->b∈fs->∃ sl,h'.get? b=some { o with slots:=sl }
 free:∀ b o,h.get? b=some o->H b=none->H' b=none
 there:∀ b o,h.get? b=some o->b∉fs->∃ o',B.get? b=some o'
 tups:∀ b xs,H b=some (.tup xs)->H' b=some (.tup xs)
 frzs:∀ b o u,H b=some (.frz o u)->H' b=some (.frz o u)
 tbls:∀ b ps,H b=some (.tbl ps)->∃ more,H' b=some (.tbl (ps++more))
structure Fly (P:Program)(w:World)(outer:List Env)(H:Hp)(s:Shared)(C:Value)(d:Option Addr)(H':Hp)(e:Addr)(s':Shared):Prop where
 os:s'.os=s.os
 bare:AllBare s'.gens
 ex:∃ B,Air B outer e s'.heap/\ZcG B e C d s'.heap/\HOk P w H' B/\UnB (frs outer) H H' s.heap B s'.heap
def CX1 (P:Program)(w:World):CXT:=fun outer H s E ev s'=>∃ e C d H',ev=.ref e/\Fly P w outer H s C d H' e s'/\E C d H'
abbrev vE:List Value:=[.type "ValueError",.type "Exception",.type "BaseException",.type "object"]
def Z3c (K:Y00)(C:Addr):Prop:=PySem.W.excIn K C vE "ValueError.__new__"=true
theorem Z3c.obj {K:Y00}{C:Addr}{h:Heap}(q:Z3c K C)(k:K.In h) :
  ∃ bm N nm qn bs hd sn sub ab col dd k0 k1 k2 k3 k5 mN,h.get? C=some (excClassObj nm qn C N bs bm hd sn sub ab col dd k0 k1 k2 k3 k5 "ValueError.__new__")/\h.Ns N mN/\mN "__init__"=none/\OwnTail h vE bm:=by
 unfold Z3c PySem.W.excIn at q
 split at q
 ·rename_i dd cd sl ho
  split at q
  ·rename_i C1 bm k0 k1 k2 k3 n k5 hm hs
   simp only[Bool.and_eq_true,beq_iff_eq,Bool.not_eq_true']at q
   obtain⟨⟨⟨⟨⟨e1,e2⟩,hdel⟩,ht⟩,hok⟩,hni⟩:=q
   subst e1 e2
   cases cd
   dsimp only at hm hdel hok hni
   subst hm hdel
   have esl:sl=#[k0,k1,k2,k3,some (.builtin "ValueError.__new__"),k5]:=by
    cases sl
    simp only at hs
    rw[hs]
   subst esl
   exact⟨bm,_,_,_,_,_,_,_,_,_,dd,k0,k1,k2,k3,k5,_,k _ _ ho,.of_isNs (PySem.W.isNs_of_in k hok),PySem.W.nsMap_none_of_in k hok hni,PySem.W.tail_of_in k ht⟩
  ·cases q
 ·cases q
def Zbe (X:Cx)(E:XK):Prop:=∀ (pins:List (Addr×Obj)) (σ:St) (H:Hp) (s:Shared) (h':Heap) (e:Addr) (C:Value) (args:List Value),Inv X pins σ H s->Heap.MadeExcOf s.heap h' e C args->E C none H->X.xe (.ref e) { s with heap:=h' }
def ZdU (ta:TA)(C:Addr)(E:XK):TS:=fun _ σ H=>ta σ H fun vs H1=>vs.length<=sizeLine/\E (.ref C) none H1
section
variable {X:Cx}{x:Str}{C:Addr}{e₀:Expr}{rest:List Expr}{ta:TA}{E:XK}{np cpos pos:Pos}
theorem Z3T (hc:X.calm=true)(hC:Z3c X.K C)(hg:Gl X x)(hm:X.mg x=some (.ref C))(ht:Zbe X E)(ha:PA X (e₀ :: rest) ta)(hdb:(x == ("__debug__":Str))=false:=by decide)
  (he:starEach (e₀ :: rest) X.env=(false,eval e₀ X.env) :: starEach rest X.env:=by rfl) (hpl:(backTo cpos (starEach rest X.env)).any (·.1)=false:=by rfl) :
  PS X (.Raise (some (.Call (.Name x np) (e₀ :: rest) [] cpos)) none pos) (ZdU ta C E):=by
 intro pins s σ H D I h
 obtain⟨bm,N,nm,qn,bs,hd,sn,sub,ab,col,dd,k0,k1,k2,k3,k5,mN,oC,nN,ni,TL⟩:=hC.obj I.mod.kin
 have FB:=PySem.F.excBase_ValueError
 refine wpAny_Raise_call_subT (C:=C) (nm:=nm) (q:=qn) (N:=N) (bs:=bs) (bm:=bm) (hdct:=hd) (sn:=sn) (sub:=sub) (ab:=ab) (col:=col) (dd:=dd) (k0:=k0) (k1:=k1) (k2:=k2) (k3:=k3) (k5:=k5)
  FB (mN:=mN) (TL.hasType FB.hasBase) (I.ok.hd hc) (by rw[he]; show (false || (backTo cpos (starEach rest X.env)).any (·.1))=false; rw[hpl]; rfl) ni (Z5d I hg hm ⟨rfl,?_⟩ hdb)
 have hA:=ha cpos pins s σ H _ I h
 rw[he]at hA ⊢
 refine Calls.evalArgs_plain (thn hA fun us s2 ⟨vs,H2,I2,r2,hz,q2⟩=>⟨rfl,by rw[<-r2.length]; exact hz,I2.bk _ _ oC,nN.keeps I2.bk,TL.keeps I2.bk,fun h' e hm=>ht pins σ H2 s2 h' e _ _ I2 hm q2⟩)
end
theorem Z9T {P:Program}{w:World}{H:Hp}{h:Heap}{l:List Addr}(x:HOk P w H h)(fr:∀ b∈l,H b=none):HOk P w H (PySem.W.hideAll h l):=fun b u e=>by
 refine (x b u e).stay (fun c v hc q=>PySem.W.hideAll_get _ q fun z=>?_) (fun _ q=>q) fun _ _ q=>q
 rcases hc with hc | hc
 ·rw[hc]at z
  rw[fr b z]at e; cases e
 ·rw[fr c z]at hc; cases hc
section
variable {P:Program}{w:World}{K:Y00}{mg:Str->Option Value}{base:Heap}{N:List Str}{qual:Str}{scope:Scope}{f:Addr}{cd:Value}{A:Around}{outer:List Env}{s:Shared}{H:Hp}{E E':XK}
theorem Zac {env:Env}{l:List Env}{L:Addr}(h:env.frame=some L):frs (env :: l)=L :: frs l:=by unfold frs; rw[List.filterMap_cons,h]
theorem UnB.after {X:Cx}{pins:List (Addr×Obj)}{σ:St}{Hc H':Hp}{sc:Shared}{B h' h2:Heap}{e:Addr}(I:Inv X pins σ Hc sc)(hex:X.ex=[])(hst:X.stack=X.env :: X.outer)(hfr:X.env.frame=some X.env.locals)
  (a:Air B X.stack e h') (u:UnB (frs X.stack) Hc H' sc.heap B h') (up:h'.UpToSlots h2):UnB (frs X.outer) X.H₀ H' X.s₀.heap B h2:=by
 have nex:∀ b:Addr,b∉X.ex:=fun b z=>by rw[hex]at z; cases z
 have efr:frs X.stack=X.env.locals :: frs X.outer:=by rw[hst,Zac hfr]
 have old:∀ b o,X.s₀.heap.get? b=some o->b∉frs X.outer->b∉frs X.stack:=fun b o q hb z=>by
  rw[efr]at z
  rcases Y0v.mp z with z | z
  ·have l1:=Y07 q
   rw[z]at l1
   exact absurd (Y0g l1 I.ok.above) (Y23 _)
  ·exact hb z
 have inn:∀ b,b∈frs X.outer->b∈frs X.stack:=fun b hb=>by rw[efr]; exact Y0m _ hb
 exact {
  keep:=fun b o q n hb=>u.keep b o (I.base.keep b o q n hb (nex b)) (I.base.free b o q n (nex b)) (old b o q hb)
  slot:=fun b o q n hb=>by
   obtain⟨sl,e1⟩:=I.base.slot b o q n hb (nex b)
   obtain⟨sl2,e2⟩:=u.slot b _ e1 (I.base.free b o q n (nex b)) (inn b hb)
   obtain⟨_,o3,e3,nf⟩:=a.frames.mem (inn b hb)
   have:o3={ ({ o with slots:=sl }:Obj) with slots:=sl2 }:=by rw[e2]at e3; exact (Option.some.inj e3).symm
   subst this
   obtain⟨sl3,e4⟩:=up b _ e2 nf
   exact⟨sl3,e4⟩
  free:=fun b o q n=>by
   obtain⟨o1,e1⟩:=I.base.there b o q (nex b)
   exact u.free b o1 e1 (I.base.free b o q n (nex b))
  there:=fun b o q hb=>by
   obtain⟨o1,e1⟩:=I.base.there b o q (nex b)
   exact u.there b o1 e1 (old b o q hb)
  tups:=fun b xs q=>u.tups b xs (I.base.tups b xs q)
  frzs:=fun b o v q=>u.frzs b o v (I.base.frzs b o v q)
  tbls:=fun b ps q=>by
   obtain⟨m1,e1⟩:=I.base.tbls b ps q
   obtain⟨m2,e2⟩:=u.tbls b _ e1
   exact⟨m1++m2,by rw[e2,Array.append_assoc]⟩ }
theorem Zcd (hE:∀ C d H',E' C d H'->E C d H'):Z34 (CX1 P w) (Z9A (CX1 P w) P w K mg base N qual scope f cd A outer s H E) E':=by
 rintro pins σ Hc sc ev s' I ⟨e,C,d,H',rfl,fly,hq⟩
 obtain⟨B,a,x,hok,u⟩:=fly.ex
 refine Z60 (B:=B) (L:=s.heap.objs.size) I.ok.frames rfl a x fun h2 a2 x2 up=>?_
 exact⟨e,C,d,H',rfl,⟨fly.os.trans I.os,fly.bare,B,a2,x2,hok,UnB.after I rfl rfl rfl a u up⟩,hE _ _ _ hq⟩
theorem Za7 {X:Cx}{pins:List (Addr×Obj)}{σ:St}{Hc:Hp}{sc:Shared}{h':Heap}{e:Addr}{C:Value}{args:List Value}(I:Inv X pins σ Hc sc)(m:Heap.MadeExcOf sc.heap h' e C args) :
  ∃ B,Air B X.stack e h'/\ZcG B e C none h'/\HOk X.prog X.w Hc B/\UnB (frs X.stack) Hc Hc sc.heap B h':=by
 have fr:=I.stkFree
 refine⟨PySem.W.hideAll sc.heap (frs X.stack),⟨fun b o q=>m.keeps _ _ (PySem.W.of_hideAll _ q),?_,?_⟩,?_,Z9T I.hok fr,?_⟩
 ·cases q:(PySem.W.hideAll sc.heap (frs X.stack)).get? e with
  | none=>rfl
  | some o=>
   have:=PySem.W.of_hideAll _ q
   rw[m.new]at this; cases this
 ·refine (PySem.W.funFrames_hide I.stack fun env he a ha=>List.mem_filterMap.mpr ⟨env,he,ha⟩).of_keeps fun b o q _=>⟨o,m.keeps _ _ q,rfl⟩
 ·obtain⟨t,he,_,_⟩:=m.there
  exact⟨_,_,he,rfl,rfl,rfl,by simp,.inl rfl⟩
 ·exact⟨fun b o q _ hb=>PySem.W.hideAll_get _ q hb,fun b o q _ _=>⟨o.slots,m.keeps _ _ q⟩,fun _ _ _ n=>n,fun b o q hb=>⟨o,PySem.W.hideAll_get _ q hb⟩,fun _ _ q=>q,fun _ _ _ q=>q,fun _ ps q=>⟨#[],by simpa using q⟩⟩
theorem Z79:Zbe (Z9A (CX1 P w) P w K mg base N qual scope f cd A outer s H E) E:=by
 intro pins σ Hc sc h' e C args I m hq
 obtain⟨B,a,x,hok,u⟩:=Za7 I m
 refine Z60 (s:={ sc with heap:=h' }) (B:=B) (L:=s.heap.objs.size) I.ok.frames rfl a x fun h2 a2 x2 up=>?_
 exact⟨e,C,none,Hc,rfl,⟨I.os,I.bare,B,a2,x2,hok,UnB.after I rfl rfl rfl a u up⟩,hq⟩
end
theorem Fun.ok1 {P:Program}{w:World}{K:Y00}{mg:Str->Option Value}{base:Heap}{x qual:Str}{st:Stmt}{f:Addr}{fd:FuncData}{N ps:List Str}{k:Nat}{sp:Sp}(F:Fun K x qual st f fd)(S:Z0k N ps (Z0a st))(len:∀ vs H Q E,sp vs H Q E->vs.length=ps.length)
  (hbody:∀ (cdv:Value) (A:Around) (outer:List Env) (s:Shared) (H:Hp) (vs:List V) (Q:VK) (E:XK),Z1g k (A.deeper (envOfC qual (Z0a st) s.heap.objs.size f cdv))->sp vs H Q E->
   ∃ t,PSs (Z9A (CX1 P w) P w K mg base N qual (Z0a st) f cdv A outer s H E) (Z1b st) t/\t { nx:=fun _ H'=>Q .non H',rt:=Q } (start N vs) H):Z0x P w K mg base (CX1 P w) (k+1) f fd ps sp:=by
 obtain⟨oc,od,kV,doc,pm,an,cdv,ct,osl,rfl,lk,hcd⟩:=F.ex
 exact Zcx lk hcd S len fun A outer s H vs Q E hr hsp=>hbody cdv A outer s H vs Q E hr hsp
section
variable {X:Cx}{pins:List (Addr×Obj)}{σ:St}{H:Hp}{s:Shared}{W:Value->Shared->Prop}{e:Addr}
end
section
variable {X:Cx}{pins:List (Addr×Obj)}{σ:St}{H:Hp}{C:Value}{d:Option Addr}{e:Addr}{s:Shared}
end
section
variable {X:Cx}{x n:Str}{DA:Addr}{j:Nat}{b₀:Stmt}{suite:List Stmt}{ts:Addr->TS}{tr:TH}{np hpos pos:Pos}{rest:List ExceptHandler}
end
section
variable {X:Cx}{CX:CXT}{k:Nat}{f:Addr}{fd:FuncData}{ps:List Str}{sp:Sp}{dvs:List V}{ds:List Value}{E:XK}{x:Str}{p pos:Pos}{e:Expr}{es:List Expr}{t:TA}{te:TE}{σ:St}
end
section
variable {prog:Program}{w:World}{A:Around}{E:Value->Shared->Prop}{s:Shared}{K:Y00}{x D:Addr}{ox:Obj}{od:Option Obj}{name:Str}
end
section
variable {X:Cx}
end
section
variable {X:Cx}{o e:Expr}{es:List Expr}{to:TE}{t:TA}{name:Str}{id:String}{r:V->List V->Hp->VK->Prop}{apos cpos:Pos}
theorem Z5u:∀ (r:List Nat) (j i:Nat),j < r.idxOf i->r[j]?≠some i
 | [],j,i,h=>by simp at h
 | a :: r,j,i,h=>by
  by_cases e:a=i
  ·subst e; simp at h
  ·cases j with
   | zero=>simp; exact e
   | succ j=>
    have h':j < r.idxOf i:=by
     rw[List.idxOf_cons]at h
     have:(a == i)=false:=by simpa using e
     rw[this]at h
     simp at h
     exact h
    simpa using Z5u r j i h'
end
structure Zga (K:Y00)(D:Addr):Prop where
 ty:PySem.W.typeIn K (.ref D)=some (.type "type")
 cl:PySem.W.isClsIn K D=true
 be:PySem.W.subIn K (.ref D) (.type "BaseException")=some true
 ga:Y0u K (.ref D) "__getattribute__"=some (some (.builtin "BaseException.__getattribute__"))
 gt:Y0u K (.ref D) "__getattr__"=some none
 ac:Y0u K (.ref D) "__class__"=some (some (.builtin "object.__class__"))
 sp:PySem.W.specialIn K (.builtin "object.__class__") "__get__"=some (some (.builtin "getset_descriptor.__get__"))
 tk:PySem.W.takesIn K (.builtin "object.__class__")=some true
 mo:PySem.W.mroIn K D (.type "object")=some true
section
variable {X:Cx}
end
section
variable {prog:Program}{w:World}{A:Around}{E:Value->Shared->Prop}
end
section
variable {X:Cx}
end
end L2
namespace L2
open PySem PySem.Spec PyProof.Rows PySem.W
variable (key:Nat->Nat)
abbrev kl:Nat->Nat->Bool:=fun i j=>decide (key i < key j)
variable {lt:Nat->Nat->Bool}{n:Nat}
def Z1e (h:Heap)(a:Addr)(vs:List Value):Heap:=((h.update a (Obj.mapSeq fun x=>#[])).push (seqObj "tuple" vs.toArray 0)).push (seqObj "list" #[] 0)
theorem Z4g {α:Type}{l:List α}{i:Nat}{a:α}(h:l[i]?=some a):l.drop i=a :: l.drop (i+1):=by
 obtain⟨hi,e⟩:=Y04.mp h
 rw[Y1w hi,e]
theorem Z4X {prog:Program}{w:World}{A:Around}{E:Value->Shared->Prop}{s:Shared}{a:Addr}{vs:List Value}{n:Nat}{P:PySem.Fin->Shared->Prop}
  (hs:s.heap.get? a=some (seqObj "list" vs.toArray n)) (h2:vs.length < 2)
  (h:P (Fin.done (Flow.ret Value.none)) { s with heap:=sortedHeap s.heap a vs vs.toArray }) :
  wpAny (model prog w) A (Builtin.«list.sort» { pos:=[Value.ref a] }) P E s:=by
 rw[list_sort_plain]
 refine wpAny_bind (listItems_at hs rfl ?_)
 refine wpAny_bind (listUpdate_at hs rfl ?_ (by rw[Y0c]; exact Y11 (Z0A (by omega))) (by simp))
 have e1:∃ e,(s.heap.update a (Obj.mapSeq fun x=>#[])).get? a=some (seqObj "list" #[] e):=⟨_,get?_update_seq hs (fun _=>#[])⟩
 obtain⟨e1,he1⟩:=e1
 refine wpAny_bind (seqEpoch_at he1 rfl ?_)
 refine wpAny_bind (wpAny_newTuple ?_ (by show vs.toArray.toList.length<=sizeLine; rw[List.toList_toArray]; exact Y11 (Z0A (by omega))))
 refine wpAny_bind (wpAny_newList ?_ (by simp))
 refine wpAny_holding ?_
 have hsz:vs.toArray.size < 2:=by rw[Y0c]; omega
 dsimp only
 rw[if_pos hsz]
 refine wpAny_bind (wpAny_pure ?_)
 rw[if_pos hsz]
 refine wpAny_bind (wpAny_pure ?_)
 have hae:(Z1e s.heap a vs).get? a=some (seqObj "list" #[] e1):=by
  unfold Z1e
  exact Y02 _ (Y02 _ he1)
 refine wpAny_bind (seqEpoch_at hae rfl ?_)
 have ha:Array.map (fun x:Keyed=>x.snd) (arrOf (SortSt.mk' general' (vs.toArray.zip vs.toArray) #[] 7 none))=vs.toArray:=by
  show Array.map (fun x:Keyed=>x.snd) (vs.toArray.zip vs.toArray)=vs.toArray
  rw[List.zip_toArray,List.map_toArray]
  congr 1
  exact List.map_snd_zip (Y03 _)
 refine wpAny_bind (listUpdate_at hae rfl ?_ (by simp) (by
  show (Array.map (fun x:Keyed=>x.snd) (arrOf (SortSt.mk' general' (vs.toArray.zip vs.toArray) #[] 7 none))).size<=sizeLine+1
  rw[ha,Y0c]
  have:=Z0A (n:=vs.length) (by omega)
  omega))
 have hf:failedOf (((),SortSt.mk' general' (vs.toArray.zip vs.toArray) #[] 7 none):Unit×SortSt).snd=none:=rfl
 rw[hf]
 dsimp only
 rw[if_neg (by simp)]
 refine wpAny_pure ?_
 rw[ha]
 exact h
def Zcj (lt:Nat->Nat->Bool)(n i:Nat):Nat:=((Y05 n).filter fun j=>lt j i).length
theorem Z4Q {n:Nat}{p q:Nat->Bool}(h:∀ j,j < n->p j=true->q j=true):((Y05 n).filter p).length<=((Y05 n).filter q).length:=by
 induction n with
 | zero=>simp
 | succ n ih=>
  have h1:=ih fun j hj=>h j (by omega)
  have h2:=h n (by omega)
  rw[Y1a,Y14,Y14,Y0e,Y0e]
  by_cases c:p n=true
  ·rw[Y1j c,Y1j (h2 c)]; simp; exact h1
  ·rw[Y1z c]
   simp
   omega
theorem Z6u {n i:Nat}{p q:Nat->Bool}(hi:i < n)(h:∀ j,j < n->p j=true->q j=true)(hp:p i=false)(hq:q i=true):((Y05 n).filter p).length < ((Y05 n).filter q).length:=by
 induction n with
 | zero=>omega
 | succ n ih=>
  have h2:=h n (by omega)
  rw[Y1a,Y14,Y14,Y0e,Y0e]
  rcases Y0j i n with c | c
  ·have h1:=ih c fun j hj=>h j (by omega)
   by_cases c:p n=true
   ·rw[Y1j c,Y1j (h2 c)]; simp; exact h1
   ·rw[Y1z c]; simp; omega
  ·have:i=n:=by omega
   subst this
   have h1:=Z4Q (n:=i) (p:=p) (q:=q) fun j hj=>h j (by omega)
   rw[Y1z (by rw[hp]; decide),Y1j hq]
   simp
   omega
theorem ZbB {lt:Nat->Nat->Bool}{n:Nat}(ir:∀ i,lt i i=false)(tr:∀ i j k,lt i j=true->lt j k=true->lt i k=true)(nt:∀ i j k,lt i k=true->lt i j=true\/lt j k=true){i j:Nat}(hi:i < n)(hj:j < n) :
  kl (Zcj lt n) i j=lt i j:=by
 cases h:lt i j with
 | true=>
  exact decide_eq_true (Z6u hi (fun k _ hk=>tr k i j hk h) (ir i) h)
 | false=>
  refine decide_eq_false (Nat.not_lt.mpr (Z4Q fun k _ hk=>?_))
  rcases nt k i j hk with z | z
  ·exact z
  ·rw[h]at z; cases z
theorem Z6v:∀ a:List Int,HT.lexLt a a=false
 | []=>rfl
 | x :: a=>by rw[HT.lexLt_cons,if_pos rfl]; exact Z6v a
theorem Z98:∀ {a b c:List Int},HT.lexLt a b=true->HT.lexLt b c=true->HT.lexLt a c=true
 | [],_,[],_,h=>by cases ‹List Int› <;> simp[HT.lexLt]at h
 | [],_,_ :: _,_,_=>rfl
 | _ :: _,[],_,h,_=>by simp[HT.lexLt]at h
 | x :: a,y :: b,[],_,h=>by simp[HT.lexLt]at h
 | x :: a,y :: b,z :: c,h1,h2=>by
  rw[HT.lexLt_cons]at h1 h2 ⊢
  by_cases e1:x=y
  ·subst e1
   rw[if_pos rfl]at h1
   by_cases e2:x=z
   ·subst e2
    rw[if_pos rfl]at h2 ⊢
    exact Z98 h1 h2
   ·rw[if_neg e2]at h2 ⊢; exact h2
  ·rw[if_neg e1]at h1
   have h1:=of_decide_eq_true h1
   by_cases e2:y=z
   ·subst e2
    rw[if_neg e1]; exact decide_eq_true h1
   ·rw[if_neg e2]at h2
    have h2:=of_decide_eq_true h2
    rw[if_neg (by omega)]; exact decide_eq_true (by omega)
theorem Z9q:∀ {a b:List Int},HT.lexLt a b=false->HT.lexLt b a=false->a=b
 | [],[],_,_=>rfl
 | [],_ :: _,h,_=>by simp[HT.lexLt]at h
 | _ :: _,[],_,h=>by simp[HT.lexLt]at h
 | x :: a,y :: b,h1,h2=>by
  rw[HT.lexLt_cons]at h1 h2
  by_cases e:x=y
  ·subst e
   rw[if_pos rfl]at h1 h2
   rw[Z9q h1 h2]
  ·rw[if_neg e]at h1
   rw[if_neg (fun z=>e z.symm)]at h2
   have h1:=of_decide_eq_false h1
   have h2:=of_decide_eq_false h2
   omega
theorem ZdF {a b c:List Int}(h:HT.lexLt a c=true):HT.lexLt a b=true\/HT.lexLt b c=true:=by
 cases h1:HT.lexLt a b with
 | true=>exact .inl rfl
 | false=>
  right
  cases h2:HT.lexLt b a with
  | true=>exact Z98 h2 h
  | false=>rw[<-Z9q h1 h2]; exact h
theorem Z5s {h:Heap}{a b:Addr}{vs:List Value}{o:Obj}(hb:b≠a)(e:h.get? b=some o):(Z1e h a vs).get? b=some o:=by
 unfold Z1e
 exact Y02 _ (Y02 _ ((Y15 _ _ hb.symm).trans e))
section
variable {X:Cx}
theorem Z5T:∀ {as:List Addr} {us:List Value},Z13 (as.map V.ref) us->us=as.map Value.ref
 | [],_,h=>by cases h; rfl
 | a :: as,_,h=>by
  cases h with
  | cons r t=>
   cases (show _=Value.ref a from r)
   rw[Z5T t]; rfl
theorem Z8o (as:List Addr):Z13 (as.map V.ref) (as.map Value.ref):=by
 induction as with
 | nil=>exact .nil
 | cons a as ih=>exact .cons rfl ih
end
end L2
namespace L2
open PySem PySem.Spec PyProof.Rows
section
variable {X:Cx}
def Z8l:V->List V->Hp->VK->Prop:=fun x vs H Q=>∃ (p:Addr) (r:List Nat) (i:Nat),x=.ref p/\vs=[.int (i:Int)]/\H p=some (.lst (nv r))/\i∈r/\Q (.int (r.idxOf i:Nat)) H
def eInt (i:Int):Value->Bool
 | .int m _=>m == i
 | _=>false
theorem Z61:MtR X "list.index" Z8l:=by
 intro pins s σ H x vs v us Q I rx rv h
 obtain⟨p,r,i,rfl,rfl,hp,hi,q⟩:=h
 cases rx
 obtain⟨u,rfl,t,rfl⟩:=rv.one
 obtain⟨z,its,n,r',hl,e⟩:=I.lstM hp
 have hlen:its.length=r.length:=by rw[<-r'.length,Z0z]
 have item:∀ (j:Nat) (hj:j < its.length),∃ (m:Nat) (t:Tok),r[j]?=some m/\its[j]=.int (m:Int) t:=fun j hj=>by
  have hj':j < r.length:=by rw[<-hlen]; exact hj
  obtain⟨u,hu,ru⟩:=r'.get (Z0J (Y01 hj'))
  rw[Y01 hj]at hu
  obtain⟨t,ht⟩:=ru
  exact⟨_,t,Y01 hj',(Option.some.inj hu).trans ht⟩
 have hil:=Y16 hi
 have hlt:r.idxOf i < its.length:=by rw[hlen]; exact hil
 have hz63:(sizeLine:Nat)<=2 ^ 62:=by decide
 refine call_meets PySem.F.slot_list_index ⟨_,e,rfl⟩ PySem.F.entry_list_index (PySem.F.args_list_index_2 _ _) (SeqAt.list_indexAt p its.toArray n none #[] (.int (i:Int) t) (eInt (i:Int)) (r.idxOf i) (by rw[Y0c]; exact hlt) (by
   have:nv r=nv r:=rfl
   have hl2:(nv r).length<=sizeLine:=z
   rw[Z0z]at hl2
   omega) ?_ (fun m hm hlt'=>?_)) ⟨e,fun y hy=>?_,?_⟩
 ·obtain⟨m,t',hm,ey⟩:=item _ hlt
  rw[List.getElem_toArray,ey]
  rw[Y01 hil,List.getElem_idxOf hil]at hm
  show ((m:Int) == (i:Int))=true
  rw[<-Option.some.inj hm]; simp
 ·have hm':m < its.length:=by simpa using hm
  obtain⟨k,t',hk,ey⟩:=item m hm'
  rw[List.getElem_toArray,ey]
  show ((k:Int) == (i:Int))=false
  have hne:k≠i:=fun z=>Z5u r m i hlt' (by rw[<-z]; exact hk)
  simp; omega
 ·have hy:y∈its:=by simpa using hy
  obtain⟨j,hj,ey⟩:=Y1k.mp hy
  obtain⟨m,t',_,e2⟩:=item j hj
  rw[<-ey,e2]
  exact SeqAt.EqAt.int_int (m:Int) t' (i:Int) t
 ·exact⟨.int (r.idxOf i:Nat),H,I.tok _,⟨_,rfl⟩,q⟩
end
section
variable {X:Cx}{elts:List Expr}{k:Nat}{tpos:Pos}
end
section
variable {X:Cx}
end
theorem Z8M (val:Nat->Int):∀ n:Nat,argBest (fun i j=>decide (val i < val j)) n<=n/\∀ j,j<=n->val (argBest (fun i j=>decide (val i < val j)) n)<=val j
 | 0=>⟨Y03 _,fun j hj=>by (have:j=0:=(by lia); subst this; exact Int.le_refl _)⟩
 | n+1=>by
  obtain⟨h1,h2⟩:=Z8M val n
  show (if decide (val (n+1) < val (argBest (fun i j=>decide (val i < val j)) n))=true then n+1 else argBest (fun i j=>decide (val i < val j)) n)<=n+1/\_
  show _/\∀ j,j<=n+1->val (if decide (val (n+1) < val (argBest (fun i j=>decide (val i < val j)) n))=true then n+1 else argBest (fun i j=>decide (val i < val j)) n)<=val j
  by_cases c:val (n+1) < val (argBest (fun i j=>decide (val i < val j)) n)
  ·rw[if_pos (decide_eq_true c)]
   refine⟨Y03 _,fun j hj=>?_⟩
   rcases Y0j j (n+1) with d | d
   ·have:=h2 j (by lia); lia
   ·have:j=n+1:=by lia
    subst this; exact Int.le_refl _
  ·rw[if_neg (by rw[decide_eq_true_iff]; exact c)]
   refine⟨by lia,fun j hj=>?_⟩
   rcases Y0j j (n+1) with d | d
   ·exact h2 j (by lia)
   ·have:j=n+1:=by lia
    subst this; lia
section
variable {X:Cx}
theorem Z5e:bootBuiltins "min"=some (.builtin "min"):=by decide +kernel
theorem Z5L (hc:X.calm=true):Z2F X (.builtin "min") (fun xs H Q=>∃ (p:Addr) (ns:List Int),xs=[.ref p]/\SqL X.K H p (ns.map V.int)/\ns≠[]/\∀ m,m∈ns->(∀ y∈ns,m<=y)->Q (.int m) H):=by
 intro pins s σ H xs us Q I r h
 obtain⟨p,ns,rfl,hq,hne,q⟩:=h
 obtain⟨u,rfl,ru⟩:=Z3J r
 obtain rfl:u=Value.ref p:=ru
 obtain⟨its,rv,pl,hz⟩:=I.list hq
 have hL:=pl.isList
 have hlt:p < s.heap.objs.size:=by obtain⟨o,ho,_⟩:=id hL; exact Y07 ho
 have hlen:its.length=ns.length:=by rw[<-rv.length]; simp
 have hpos:0 < ns.length:=List.length_pos_iff.mpr hne
 have hval:∀ i v,its.toArray[i]?=some v->∃ t,v=Value.int (ns.getD i 0) t:=fun i v hP=>by
  have hv:its[i]?=some v:=by simpa using hP
  have hi:i < ns.length:=by rw[<-hlen]; exact (Y04.mp hv).1
  have hb:(ns.map V.int)[i]?=some (.int ns[i]):=by simp[hi]
  obtain⟨u,hu,t,rfl⟩:=rv.get hb
  rw[hv]at hu; cases hu
  exact⟨t,by simp[Y0i,hi]⟩
 refine call_min_walk (wpAny_pyIter_list hL ⟨s.heap.objs.size,_,_,its.toArray.size,_,_,_,rfl,Walks.list (A:=X.A.in1) (I.ok.hd hc) s.heap.objs.size p (Y0k hlt) its.toArray,⟨⟨_,Y0a _ rfl,rfl,rfl⟩,hL.push _⟩,fun b hb=>?_,by rw[Y0c]; lia,CmpOf.ints_lt (fun i=>ns.getD i 0) hval,fun v h' tk hP hk=>?_⟩)
 ·rw[Y1u]
  simp at hb
  rcases hb with rfl | rfl
  ·exact Nat.lt_succ_self _
  ·exact Y1h hlt
 ·obtain⟨t,rfl⟩:=hval _ v hP
  obtain⟨b1,b2⟩:=Z8M (fun i=>ns.getD i 0) (its.toArray.size - 1)
  rw[Y0c,hlen]at b1 b2 hP ⊢
  generalize argBest (fun i j=>decide (ns.getD i 0 < ns.getD j 0)) (ns.length - 1)=k at b1 b2 hP ⊢
  have hk':k < ns.length:=by lia
  refine⟨.int (ns.getD k 0),H,?_,⟨t,rfl⟩,q _ ?_ fun y hy=>?_⟩
  ·refine I.kept fun b o e=>hk b o (fun hb=>?_) (Y02 _ e)
   have:=Y07 e
   simp at hb
   rw[hb]at this
   exact Y23 _ this
  ·simp[Y0i,hk']
  ·obtain⟨j,hj,rfl⟩:=Y1k.mp hy
   have:=b2 j (by lia)
   simpa [Y0i,hj] using this
end
end L2
namespace L2
open PySem PySem.Spec PyProof.Rows PySem.W
def Zgm (op:CmpOp)(A:Around)(s:Shared)(y x:Value)(b:Bool):Prop:=
 ∀ (prog:Program) (w:World) (E:Value->Shared->Prop) (Q:Value->Shared->Prop),Q (.bool b) s->wpAny (model prog w) A (richCompare op y x) Q E s
theorem Z7N (A:Around)(s:Shared)(a b:Int)(t u:Tok):Zgm .Lt A s (.int a t) (.int b u) (decide (a < b)):=fun prog w E Q h=>
 richCompare_gives (op:=.Lt) (typeIs_int s _ t) (typeIs_int s _ u) PySem.F.slot_int_lt PySem.F.entry_int_lt (PySem.F.args_int_lt_2 _ _) (gives_int_lt _ _ t u) (fun x=>nomatch x) h
section
variable {prog:Program}{w:World}{A:Around}{R:Result->Shared->Prop}{I:Addr}{fp wr:List Addr}{n:Nat}{P:Nat->Value->Prop}{St:Nat->Heap->Prop}{h0:Heap}
end
section
variable {prog:Program}{w:World}{A:Around}{E:Value->Shared->Prop}{s:Shared}
end
section
variable {X:Cx}
theorem Z7y {h:Heap}:∀ {as:List Addr} (F:Nat->Value),(∀ i,i < as.length->∃ (o:Obj) (xs:Array Value) (n:Nat),h.get? (as.getD i 0)=some o/\o.cls=.type "tuple"/\o.data=.seq xs n/\xs[0]?=some (F i))->KatTups h (as.map Value.ref) ((Y05 as.length).map F)
 | [],_,_=>KatTups.nil
 | a :: as,F,g=>by
  obtain⟨o,xs,n,h1,h2,h3,h4⟩:=g 0 (by simp)
  have ih:=Z7y (as:=as) (fun i=>F (i+1)) fun i hi=>by simpa using g (i+1) (by simpa using hi)
  rw[Y18,List.range_succ_eq_map,Y13,Y13,List.map_map]
  exact KatTups.cons (by simpa using h1) h2 h3 h4 ih
end
section
variable {prog:Program}{w:World}{A:Around}{E:Value->Shared->Prop}{s:Shared}{α β:Type}
def wpT (prog:Program)(w:World)(A:Around)(E:Value->Shared->Prop)(s:Shared){α:Type}(m:StateT SortSt Sem α)(Q:α->SortSt->Prop)(st:SortSt):Prop:=
 ∀ tk,kasC (model prog w) A E m (fun a st' s'=>(∃ tk',s'={ s with toks:=tk' })/\Q a st') st { s with toks:=tk }
theorem Z02 {a:α}{Q:α->SortSt->Prop}{st:SortSt}(h:Q a st):wpT prog w A E s (pure a:StateT SortSt Sem α) Q st:=fun tk=>kasC_pure ⟨⟨tk,rfl⟩,h⟩
theorem Z01 {m:StateT SortSt Sem α}{f:α->StateT SortSt Sem β}{Q:β->SortSt->Prop}{st:SortSt}(h:wpT prog w A E s m (fun a st'=>wpT prog w A E s (f a) Q st') st):wpT prog w A E s (m >>= f) Q st:=fun tk=>by
 refine kasC_bind ?_
 unfold kasC
 refine wpAny_mono (h tk) (fun r s' h'=>?_) fun _ _ e=>e
 obtain⟨⟨tk',rfl⟩,hq⟩:=h'
 exact hq tk'
theorem Z0B {m:StateT SortSt Sem α}{Q Q':α->SortSt->Prop}{st:SortSt}(h:wpT prog w A E s m Q st)(hq:∀ a st',Q a st'->Q' a st'):wpT prog w A E s m Q' st:=fun tk=>by
 unfold kasC
 exact wpAny_mono (h tk) (fun r _ h'=>⟨h'.1,hq _ _ h'.2⟩) fun _ _ e=>e
theorem Z1R {Q:SortSt->SortSt->Prop}{st:SortSt}(h:Q st st):wpT prog w A E s (get:StateT SortSt Sem SortSt) Q st:=fun tk=>kasC_get ⟨⟨tk,rfl⟩,h⟩
theorem Z0F {f:SortSt->SortSt}{Q:PUnit->SortSt->Prop}{st:SortSt}(h:Q ⟨⟩ (f st)):wpT prog w A E s (modify f:StateT SortSt Sem PUnit) Q st:=fun tk=>kasC_modify ⟨⟨tk,rfl⟩,h⟩
theorem Zbt {st':SortSt}{Q:PUnit->SortSt->Prop}{st:SortSt}(h:Q ⟨⟩ st'):wpT prog w A E s (set st':StateT SortSt Sem PUnit) Q st:=fun tk=>by
 unfold kasC
 rw[StateT.run_set]
 exact wpAny_pure ⟨⟨tk,rfl⟩,h⟩
theorem Z2c {r:String}{Q:Unit->SortSt->Prop}{st:SortSt}(h:Q () st):wpT prog w A E s (liftM (rule r):StateT SortSt Sem Unit) Q st:=fun tk=>kasC_lift (wpAny_rule ⟨⟨tk,rfl⟩,h⟩)
theorem Z41 (f:Nat->β->StateT SortSt Sem (ForInStep β))(I:List Nat->β->SortSt->Prop)(Q:β->SortSt->Prop)
  (hstep:∀ x rest b st,I (x :: rest) b st->wpT prog w A E s (f x b) (fun r st'=>match r with | .done b'=>Q b' st' | .yield b'=>I rest b' st') st)
  (hend:∀ b st,I [] b st->Q b st):∀ (l:List Nat) (b:β) (st:SortSt),I l b st->wpT prog w A E s (forIn l b f) Q st
 | [],b,st,h=>by rw[List.forIn_nil]; exact Z02 (hend _ _ h)
 | x :: rest,b,st,h=>by
  rw[List.forIn_cons]
  refine Z01 (Z0B (hstep x rest b st h) fun r st' h'=>?_)
  cases r with
  | done b'=>exact Z02 h'
  | yield b'=>exact Z41 f I Q hstep hend rest b' st' h'
theorem Z0n {a b:Nat}{f:Nat->β->StateT SortSt Sem (ForInStep β)}(I:Nat->β->SortSt->Prop){Q:β->SortSt->Prop}
  (hstep:∀ i c st,a<=i->i < b->I i c st->wpT prog w A E s (f i c) (fun r st'=>match r with | .done c'=>Q c' st' | .yield c'=>I (i+1) c' st') st)
  (hend:∀ c st,I (max a b) c st->Q c st) {c:β} {st:SortSt} (h:I a c st):wpT prog w A E s (forIn [a:b] c f) Q st:=by
 rw[Std.Legacy.Range.forIn_eq_forIn_range']
 have hsz:([a:b]:Std.Legacy.Range).size=b - a:=by simp[Std.Legacy.Range.size]
 show wpT prog w A E s (forIn (List.range' a ([a:b]:Std.Legacy.Range).size 1) c f) Q st
 rw[hsz]
 refine Z41 f (fun l c st=>∃ i,a<=i/\i<=max a b/\l=List.range' i (max a b - i) 1/\I i c st) Q ?_ ?_ _ c st ⟨a,Y03 _,by omega,by congr 1; omega,h⟩
 ·rintro x rest c st ⟨i,hai,hib,hl,hI⟩
  have hlt:i < max a b:=by
   rcases Y0j i (max a b) with h' | h'
   ·exact h'
   ·rw[show max a b - i=0 by omega]at hl; simp at hl
  obtain⟨n,hn⟩:∃ n,max a b - i=n+1:=⟨max a b - i - 1,by omega⟩
  rw[hn,List.range'_succ]at hl
  obtain⟨rfl,rfl⟩:=List.cons.inj hl
  refine Z0B (hstep x c st hai (by omega) hI) fun r st' h'=>?_
  cases r with
  | done c'=>exact h'
  | yield c'=>exact⟨x+1,by omega,by omega,by congr 1; omega,h'⟩
 ·rintro c st ⟨i,hai,hib,hl,hI⟩
  have:i=max a b:=by
   rcases Y0j i (max a b) with h' | h'
   ·obtain⟨n,hn⟩:∃ n,max a b - i=n+1:=⟨max a b - i - 1,by omega⟩
    rw[hn,List.range'_succ]at hl; simp at hl
   ·omega
  subst this; exact hend _ _ hI
structure SCx (prog:Program)(w:World)(A:Around)(s:Shared)(κ:SortKind)(it:List Keyed)(kv:Keyed->Nat):Prop where
 lt:∀ x y,x∈it->y∈it->∀ (C:Bool->Shared->Prop) tk,(∀ tk',C (decide (kv x < kv y)) { s with toks:=tk' })->wpAny (model prog w) A (keyLt' κ x.1 y.1) C (fun _ _=>False) { s with toks:=tk }
variable {κ:SortKind}{it:List Keyed}{kv:Keyed->Nat}
structure SSt (κ:SortKind)(it:List Keyed)(st:SortSt):Prop where
 kind:kindOf st=κ
 failed:failedOf st=none
 perm:(arrOf st).toList.Perm it
theorem Z62 {x y:Keyed}{Q:Option Bool->SortSt->Prop}{st:SortSt}(S:SCx prog w A s κ it kv)(hk:kindOf st=κ)(hx:x∈it)(hy:y∈it)(h:Q (some (decide (kv x < kv y))) st):wpT prog w A E s (lt' x y) Q st:=fun tk=>by
 rw[lt'_eq]
 refine kasC_bind (kasC_get ?_)
 rw[hk]
 refine kasC_bind (kasC_lift (wpAny_attempt (wpAny_mono (S.lt x y hx hy (fun c s'=>c=decide (kv x < kv y)/\∃ tk',s'={ s with toks:=tk' }) tk fun tk'=>⟨rfl,tk',rfl⟩) (fun c s' hc=>?_) fun _ _ hF=>hF.elim)))
 obtain⟨rfl,tk',rfl⟩:=hc
 exact kasC_pure ⟨⟨tk',rfl⟩,h⟩
theorem Z0g {arr:Array Keyed}{i:Nat}{x:Keyed}{Q:Keyed->SortSt->Prop}{st:SortSt}(e:arr[i]?=some x)(h:Q x st):wpT prog w A E s (elem' arr i) Q st:=by
 rw[elem'_eq,e]; exact Z02 h
def Z2h:Bool->Keyed->Array Keyed->Nat->Nat->Nat->StateT SortSt Sem (Option Nat):=sortPriv% PySem.Builtin.gallop
theorem Z7M (left:Bool)(key:Keyed)(arr:Array Keyed)(base n hint:Nat):Z2h left key arr base n hint=(do
 let beyond (i:Nat):StateT SortSt Sem (Option Bool):=do
  let x <-elem' arr (base+i)
  if left then lt' x key else return (<-lt' key x).map (!·)
 let mut lastofs:=0
 let mut ofs:=1
 let mut lo:=0
 let mut hi:=0
 let some right <-beyond hint | return none
 if right then
  let maxofs:=n - hint
  for _ in [0:n] do
   if ofs≥maxofs then break
   let some more <-beyond (hint+ofs) | return none
   if !more then break
   lastofs:=ofs
   ofs:=2 * ofs+1
  lo:=hint+lastofs+1
  hi:=hint+min ofs maxofs
 else
  let maxofs:=hint+1
  for _ in [0:n] do
   if ofs≥maxofs then break
   let some found <-beyond (hint - ofs) | return none
   if found then break
   lastofs:=ofs
   ofs:=2 * ofs+1
  lo:=hint+1 - min ofs maxofs
  hi:=hint - lastofs
 for _ in [0:n] do
  if lo≥hi then break
  let m:=lo+(hi - lo) / 2
  let some more <-beyond m | return none
  if more then lo:=m+1 else hi:=m
 return some hi):=rfl
theorem Z7Y {left:Bool}{key x:Keyed}{arr:Array Keyed}{i:Nat}{Q:Option Bool->SortSt->Prop}{st:SortSt}(S:SCx prog w A s κ it kv)(hk:kindOf st=κ)(hkey:key∈it)(e:arr[i]?=some x)(hx:x∈it)
  (h:Q (some (if left then decide (kv x < kv key) else !decide (kv key < kv x))) st):wpT prog w A E s (do
  let x <-elem' arr i
  if left then lt' x key else return (<-lt' key x).map (!·)) Q st:=by
 refine Z01 (Z0g e ?_)
 cases left with
 | true=>exact Z62 S hk hx hkey h
 | false=>exact Z01 (Z62 S hk hkey hx (Z02 h))
theorem Z7R {left:Bool}{key:Keyed}{arr:Array Keyed}{base n hint:Nat}{Q:Option Nat->SortSt->Prop}{st:SortSt}(S:SCx prog w A s κ it kv)(hk:kindOf st=κ)(hkey:key∈it)(f:Nat->Keyed)(B:Nat->Bool)(hf:∀ i,i < n->arr[base+i]?=some (f i)/\f i∈it)
  (hB:∀ i,i < n->B i=if left then decide (kv (f i) < kv key) else !decide (kv key < kv (f i))) (mono:∀ i j,i<=j->j < n->B j=true->B i=true) (hh:hint < n)
  (h:∀ k,k<=n->(∀ i,i < k->B i=true)->(∀ i,k<=i->i < n->B i=false)->Q (some k) st):wpT prog w A E s (Z2h left key arr base n hint) Q st:=by
 rw[Z7M]
 have ask:∀ {i:Nat} {R:Option Bool->SortSt->Prop},i < n->R (some (B i)) st->wpT prog w A E s (do
   let x <-elem' arr (base+i)
   if left then lt' x key else return (<-lt' key x).map (!·)) R st:=fun {i R} hi hR=>by
  obtain⟨e,m⟩:=hf i hi
  exact Z7Y S hk hkey e m (by rw[<-hB i hi]; exact hR)
 have up:∀ i j,i<=j->j < n->B i=false->B j=false:=fun i j h1 h2 h3=>by
  cases q:B j with
  | false=>rfl
  | true=>rw[mono i j h1 h2 q]at h3; exact h3
 dsimp only
 refine Z01 (ask hh ?_)
 cases q:B hint with
 | true=>
  dsimp only
  rw[if_pos rfl]
  refine Z01 (Z0B (Z0n (I:=fun x c st'=>st=st'/\∃ l o,c=(none,l,o)/\l < o/\x < o/\l < n - hint/\B (hint+l)=true) (Q:=fun c st'=>st=st'/\∃ l o,c=(none,l,o)/\l < o/\l < n - hint/\B (hint+l)=true/\(o≥n - hint\/B (hint+o)=false)) ?step ?fin ⟨rfl,0,1,rfl,by omega,by omega,by omega,q⟩) ?post)
  case step=>
   rintro x c st' _ hx ⟨rfl,l,o,rfl,h1,h2,h3,h4⟩
   dsimp only
   by_cases hge:o≥n - hint
   ·rw[if_pos hge]; exact Z02 ⟨rfl,l,o,rfl,h1,h3,h4,.inl hge⟩
   ·rw[if_neg hge]
    refine Z01 (ask (by omega) ?_)
    cases q2:B (hint+o) with
    | true=>exact Z02 ⟨rfl,o,2 * o+1,rfl,by omega,by omega,by omega,q2⟩
    | false=>exact Z02 ⟨rfl,l,o,rfl,h1,h3,h4,.inr q2⟩
  case fin=>
   rintro c st' ⟨rfl,l,o,rfl,h1,h2,h3,h4⟩
   exact⟨rfl,l,o,rfl,h1,h3,h4,.inl (by omega)⟩
  case post=>
   rintro c st' ⟨rfl,l,o,rfl,h1,h3,h4,h5⟩
   dsimp only
   refine Z01 (Z0B (Z0n (I:=fun x c st'=>st=st'/\∃ lo hi,c=(none,lo,hi)/\lo<=hi/\hi<=n/\hi - lo<=n - x/\(∀ i,i < lo->B i=true)/\(∀ i,hi<=i->i < n->B i=false)) (Q:=fun c st'=>st=st'/\∃ lo hi,c=(none,lo,hi)/\hi<=n/\(∀ i,i < hi->B i=true)/\(∀ i,hi<=i->i < n->B i=false)) ?step2 ?fin2 ⟨rfl,_,_,rfl,by omega,by omega,by omega,fun i hi=>mono i _ (by omega) (by omega) h4,fun i h6 h7=>by
    rcases h5 with h5 | h5
    ·omega
    ·exact up (hint+o) i (by omega) h7 h5⟩) ?post2)
   case post2=>
    rintro c st' ⟨rfl,lo,hi,rfl,h1,h2,h3⟩
    exact Z02 (h hi h1 h2 h3)
   case fin2=>
    rintro c st' ⟨rfl,lo,hi,rfl,h1,h2,h3,h4,h5⟩
    have:lo=hi:=by omega
    subst this
    exact⟨rfl,lo,lo,rfl,h2,h4,h5⟩
   case step2=>
    rintro x c st' _ hx ⟨rfl,lo,hi,rfl,h1,h2,h3,h4,h5⟩
    dsimp only
    by_cases hge:lo≥hi
    ·rw[if_pos hge]
     have:lo=hi:=by omega
     subst this
     exact Z02 ⟨rfl,lo,lo,rfl,h2,h4,h5⟩
    ·rw[if_neg hge]
     have hm:lo+(hi - lo) / 2 < n:=by omega
     refine Z01 (ask hm ?_)
     cases q2:B (lo+(hi - lo) / 2) with
     | true=>
      simp only[if_true]
      exact Z02 ⟨rfl,_,_,rfl,by omega,h2,by omega,fun i hi'=>mono i _ (by omega) hm q2,h5⟩
     | false=>
      simp only[Bool.false_eq_true,if_false]
      exact Z02 ⟨rfl,_,_,rfl,by omega,by omega,by omega,h4,fun i h6 h7=>up _ i h6 h7 q2⟩
 | false=>
  dsimp only
  rw[if_neg (by simp)]
  refine Z01 (Z0B (Z0n (I:=fun x c st'=>st=st'/\∃ l o,c=(none,l,o)/\l < o/\x < o/\l < hint+1/\B (hint - l)=false) (Q:=fun c st'=>st=st'/\∃ l o,c=(none,l,o)/\l < o/\l < hint+1/\B (hint - l)=false/\(o≥hint+1\/B (hint - o)=true)) ?step ?fin ⟨rfl,0,1,rfl,by omega,by omega,by omega,q⟩) ?post)
  case step=>
   rintro x c st' _ hx ⟨rfl,l,o,rfl,h1,h2,h3,h4⟩
   dsimp only
   by_cases hge:o≥hint+1
   ·rw[if_pos hge]; exact Z02 ⟨rfl,l,o,rfl,h1,h3,h4,.inl hge⟩
   ·rw[if_neg hge]
    refine Z01 (ask (by omega) ?_)
    cases q2:B (hint - o) with
    | true=>exact Z02 ⟨rfl,l,o,rfl,h1,h3,h4,.inr q2⟩
    | false=>exact Z02 ⟨rfl,o,2 * o+1,rfl,by omega,by omega,by omega,q2⟩
  case fin=>
   rintro c st' ⟨rfl,l,o,rfl,h1,h2,h3,h4⟩
   exact⟨rfl,l,o,rfl,h1,h3,h4,.inl (by omega)⟩
  case post=>
   rintro c st' ⟨rfl,l,o,rfl,h1,h3,h4,h5⟩
   dsimp only
   refine Z01 (Z0B (Z0n (I:=fun x c st'=>st=st'/\∃ lo hi,c=(none,lo,hi)/\lo<=hi/\hi<=n/\hi - lo<=n - x/\(∀ i,i < lo->B i=true)/\(∀ i,hi<=i->i < n->B i=false)) (Q:=fun c st'=>st=st'/\∃ lo hi,c=(none,lo,hi)/\hi<=n/\(∀ i,i < hi->B i=true)/\(∀ i,hi<=i->i < n->B i=false)) ?step2 ?fin2 ⟨rfl,_,_,rfl,by omega,by omega,by omega,fun i hi=>by
    rcases h5 with h5 | h5
    ·omega
    ·exact mono i (hint - o) (by omega) (by omega) h5,fun i h6 h7=>up (hint - l) i (by omega) h7 h4⟩) ?post2)
   case post2=>
    rintro c st' ⟨rfl,lo,hi,rfl,h1,h2,h3⟩
    exact Z02 (h hi h1 h2 h3)
   case fin2=>
    rintro c st' ⟨rfl,lo,hi,rfl,h1,h2,h3,h4,h5⟩
    have:lo=hi:=by omega
    subst this
    exact⟨rfl,lo,lo,rfl,h2,h4,h5⟩
   case step2=>
    rintro x c st' _ hx ⟨rfl,lo,hi,rfl,h1,h2,h3,h4,h5⟩
    dsimp only
    by_cases hge:lo≥hi
    ·rw[if_pos hge]
     have:lo=hi:=by omega
     subst this
     exact Z02 ⟨rfl,lo,lo,rfl,h2,h4,h5⟩
    ·rw[if_neg hge]
     have hm:lo+(hi - lo) / 2 < n:=by omega
     refine Z01 (ask hm ?_)
     cases q2:B (lo+(hi - lo) / 2) with
     | true=>
      simp only[if_true]
      exact Z02 ⟨rfl,_,_,rfl,by omega,h2,by omega,fun i hi'=>mono i _ (by omega) hm q2,h5⟩
     | false=>
      simp only[Bool.false_eq_true,if_false]
      exact Z02 ⟨rfl,_,_,rfl,by omega,by omega,by omega,h4,fun i h6 h7=>up _ i h6 h7 q2⟩
end
abbrev Sd (kv:Keyed->Nat)(l:List Keyed):Prop:=l.Pairwise (fun x y=>kv x<=kv y)
structure MJ (kv:Keyed->Nat)(a b out:List Keyed)(ia ib:Nat):Prop where
 perm:(out++(a.drop ia++b.drop ib)).Perm (a++b)
 srt:Sd kv out
 low:∀ x∈out,∀ y∈a.drop ia++b.drop ib,kv x<=kv y
section
variable {kv:Keyed->Nat}{a b out:List Keyed}{ia ib:Nat}{x:Keyed}
set_option maxHeartbeats 4000000 in
theorem Z54 (h:Sd kv a)(n:Nat):Sd kv (a.drop n):=h.sublist (List.drop_sublist n a)
set_option maxHeartbeats 4000000 in
theorem Z1Y (h:Sd kv a)(e:a[ia]?=some x):∀ y∈a.drop ia,kv x<=kv y:=fun y hy=>by
 have d:=Z54 h ia
 rw[Z4g e]at d hy
 rcases Y0v.mp hy with rfl | hy
 ·exact Y03 _
 ·exact (List.pairwise_cons.mp d).1 y hy
set_option maxHeartbeats 4000000 in
theorem MJ.takeA (h:MJ kv a b out ia ib)(sa:Sd kv a)(e:a[ia]?=some x)(hx:∀ y∈b.drop ib,kv x<=kv y):MJ kv a b (out++[x]) (ia+1) ib:=by
 have d:=Z4g e
 have hs:=Z1Y sa e
 obtain⟨p,s,l⟩:=h
 rw[d]at p l hs
 refine⟨?_,?_,?_⟩
 ·simpa using p
 ·refine Y0h.mpr ⟨s,List.pairwise_singleton ..,fun z hz y hy=>?_⟩
  rw[Y0n.mp hy]
  exact l z hz x (by simp)
 ·intro z hz y hy
  rcases Y0b.mp hz with hz | hz
  ·refine l z hz y ?_
   rcases Y0b.mp hy with hy | hy
   ·simp[hy]
   ·simp[hy]
  ·rw[Y0n.mp hz]
   rcases Y0b.mp hy with hy | hy
   ·exact hs y (Y0m _ hy)
   ·exact hx y hy
set_option maxHeartbeats 4000000 in
theorem MJ.takeB (h:MJ kv a b out ia ib)(sb:Sd kv b)(e:b[ib]?=some x)(hx:∀ y∈a.drop ia,kv x<=kv y):MJ kv a b (out++[x]) ia (ib+1):=by
 have d:=Z4g e
 have hs:=Z1Y sb e
 obtain⟨p,s,l⟩:=h
 rw[d]at p l hs
 refine⟨?_,?_,?_⟩
 ·refine List.Perm.trans ?_ p
  rw[Y0l]
  refine List.Perm.append_left out ?_
  show (x :: (a.drop ia++b.drop (ib+1))).Perm _
  exact List.perm_middle.symm
 ·refine Y0h.mpr ⟨s,List.pairwise_singleton ..,fun z hz y hy=>?_⟩
  rw[Y0n.mp hy]
  exact l z hz x (by simp)
 ·intro z hz y hy
  rcases Y0b.mp hz with hz | hz
  ·refine l z hz y ?_
   rcases Y0b.mp hy with hy | hy
   ·simp[hy]
   ·simp[hy]
  ·rw[Y0n.mp hz]
   rcases Y0b.mp hy with hy | hy
   ·exact hx y hy
   ·exact hs y (Y0m _ hy)
set_option maxHeartbeats 4000000 in
theorem MJ.takeAs (h:MJ kv a b out ia ib)(sa:Sd kv a):∀ k,(∀ i,i < k->∃ x,a[ia+i]?=some x/\∀ y∈b.drop ib,kv x<=kv y)->MJ kv a b (out++(a.drop ia).take k) (ia+k) ib
 | 0,_=>by simpa using h
 | k+1,hx=>by
  have ih:=MJ.takeAs h sa k fun i hi=>hx i (by lia)
  obtain⟨x,e,hy⟩:=hx k (by lia)
  have:=ih.takeA sa e hy
  have et:(a.drop ia).take (k+1)=(a.drop ia).take k++[x]:=by
   rw[Y1i,Y1c,e]; rfl
  rw[et,<-Y0l]
  exact this
set_option maxHeartbeats 4000000 in
theorem MJ.takeBs (h:MJ kv a b out ia ib)(sb:Sd kv b):∀ k,(∀ i,i < k->∃ x,b[ib+i]?=some x/\∀ y∈a.drop ia,kv x<=kv y)->MJ kv a b (out++(b.drop ib).take k) ia (ib+k)
 | 0,_=>by simpa using h
 | k+1,hx=>by
  have ih:=MJ.takeBs h sb k fun i hi=>hx i (by lia)
  obtain⟨x,e,hy⟩:=hx k (by lia)
  have:=ih.takeB sb e hy
  have et:(b.drop ib).take (k+1)=(b.drop ib).take k++[x]:=by
   rw[Y1i,Y1c,e]; rfl
  rw[et,<-Y0l]
  exact this
set_option maxHeartbeats 4000000 in
theorem MJ.endB (h:MJ kv a b out ia ib)(sa:Sd kv a)(e:ib=b.length):(out++a.drop ia++b.drop ib).Perm (a++b)/\Sd kv (out++a.drop ia++b.drop ib):=by
 obtain⟨p,s,l⟩:=h
 rw[Y0l]
 refine⟨p,?_⟩
 rw[e,List.drop_length]at l ⊢
 rw[Y19]at l ⊢
 exact Y0h.mpr ⟨s,Z54 sa ia,l⟩
set_option maxHeartbeats 4000000 in
theorem MJ.lastA (h:MJ kv a b out ia ib)(sb:Sd kv b)(sa:Sd kv a)(hx:∀ y∈b,∀ x∈a.drop ia,kv y<=kv x):(out++b.drop ib++a.drop ia).Perm (a++b)/\Sd kv (out++b.drop ib++a.drop ia):=by
 obtain⟨p,s,l⟩:=h
 rw[Y0l]
 refine⟨(List.Perm.append_left out List.perm_append_comm).trans p,?_⟩
 refine Y0h.mpr ⟨s,Y0h.mpr ⟨Z54 sb ib,Z54 sa ia,fun y hy x hx'=>hx y (List.mem_of_mem_drop hy) x hx'⟩,fun z hz y hy=>l z hz y ?_⟩
 rcases Y0b.mp hy with hy | hy
 ·exact Y09 _ hy
 ·exact Y1y _ hy
end
def Z1o:Nat->StateT SortSt Sem Unit:=sortPriv% PySem.Builtin.setMinGallop
set_option maxHeartbeats 4000000 in
theorem Z0N (g:Nat):Z1o g=modify fun s=>SortSt.mk' (kindOf s) (arrOf s) (pendingOf s) g (failedOf s):=rfl
def Z5a:Array Keyed->Array Keyed->StateT SortSt Sem (Array Keyed):=sortPriv% PySem.Builtin.mergeLo
set_option maxHeartbeats 4000000 in
theorem Z6m (a b:Array Keyed):Z5a a b=(do
 rule "list.sort.merge-lo"
 let total:=a.size+b.size
 let done (out:Array Keyed) (ia ib:Nat):=out++a.extract ia a.size++b.extract ib b.size
 let lastOfA (out:Array Keyed) (ia ib:Nat):=out++b.extract ib b.size++a.extract ia a.size
 let mut out:Array Keyed:=#[<-elem' b 0]
 let mut ia:=0
 let mut ib:=1
 if ib == b.size then return done out ia ib
 if ia+1 == a.size then return lastOfA out ia ib
 let mut minGallop:=gallopOf (<-get)
 for _ in [0:total] do
  let mut acount:=0
  let mut bcount:=0
  for _ in [0:total] do
   let some bWins <-lt' (<-elem' b ib) (<-elem' a ia) | return done out ia ib
   if bWins then
    out:=out.push (<-elem' b ib); ib:=ib+1; bcount:=bcount+1; acount:=0
    if ib == b.size then return done out ia ib
    if bcount≥minGallop then break
   else
    out:=out.push (<-elem' a ia); ia:=ia+1; acount:=acount+1; bcount:=0
    if ia+1 == a.size then return lastOfA out ia ib
    if acount≥minGallop then break
  rule "list.sort.gallop"
  minGallop:=minGallop+1
  for _ in [0:total] do
   if minGallop > 1 then minGallop:=minGallop - 1
   Z1o minGallop
   let some k <-Z2h false (<-elem' b ib) a ia (a.size - ia) 0 | return done out ia ib
   acount:=k
   if k > 0 then
    out:=out++a.extract ia (ia+k); ia:=ia+k
    if ia+1 == a.size then return lastOfA out ia ib
    if ia == a.size then return done out ia ib
   out:=out.push (<-elem' b ib); ib:=ib+1
   if ib == b.size then return done out ia ib
   let some k <-Z2h true (<-elem' a ia) b ib (b.size - ib) 0 | return done out ia ib
   bcount:=k
   if k > 0 then
    out:=out++b.extract ib (ib+k); ib:=ib+k
    if ib == b.size then return done out ia ib
   out:=out.push (<-elem' a ia); ia:=ia+1
   if ia+1 == a.size then return lastOfA out ia ib
   if acount < 7 && bcount < 7 then break
  minGallop:=minGallop+1
  Z1o minGallop
 unsupported "internal:list.sort.merge-bound"):=rfl
section
variable {prog:Program}{w:World}{A:Around}{E:Value->Shared->Prop}{s:Shared}{κ:SortKind}{it:List Keyed}{kv:Keyed->Nat}
def Z14 (st st':SortSt):Prop:=kindOf st'=kindOf st/\arrOf st'=arrOf st/\pendingOf st'=pendingOf st/\failedOf st'=failedOf st
set_option maxHeartbeats 4000000 in
theorem Z14.refl (st:SortSt):Z14 st st:=⟨rfl,rfl,rfl,rfl⟩
set_option maxHeartbeats 4000000 in
theorem Z14.trans {a b c:SortSt}(h:Z14 a b)(g:Z14 b c):Z14 a c:=⟨g.1.trans h.1,g.2.1.trans h.2.1,g.2.2.1.trans h.2.2.1,g.2.2.2.trans h.2.2.2⟩
set_option maxHeartbeats 4000000 in
theorem Z14.gal (st:SortSt)(g:Nat):Z14 st (SortSt.mk' (kindOf st) (arrOf st) (pendingOf st) g (failedOf st)):=⟨rfl,rfl,rfl,rfl⟩
set_option maxHeartbeats 4000000 in
theorem Z4Z (a:Array Keyed)(i:Nat):(a.extract i a.size).toList=a.toList.drop i:=by
 rw[Array.toList_extract]
 show (a.toList.drop i).take (a.size - i)=_
 rw[List.take_of_length_le]
 rw[List.length_drop]; simp
set_option maxHeartbeats 4000000 in
theorem Z2C (a:Array Keyed)(i k:Nat):(a.extract i (i+k)).toList=(a.toList.drop i).take k:=by
 rw[Array.toList_extract]
 show (a.toList.drop i).take (i+k - i)=_
 rw[Nat.add_sub_cancel_left]
set_option maxHeartbeats 4000000 in
theorem Z3f (a:Array Keyed){it:List Keyed}(ma:∀ x∈a.toList,x∈it){i:Nat}(h:i < a.size):∃ x,a[i]?=some x/\a.toList[i]?=some x/\x∈it:=by
 have e:a[i]?=some a[i]:=Array.getElem?_eq_getElem h
 have e':a.toList[i]?=some a[i]:=by rw[Array.getElem?_toList,e]
 exact⟨a[i],e,e',ma _ (Y0d e')⟩
set_option maxHeartbeats 4000000 in
theorem Z1p {left:Bool}{key:Keyed}{arr:Array Keyed}{base n hint:Nat}{Q:Option Nat->SortSt->Prop}{st:SortSt}(S:SCx prog w A s κ it kv)(hk:kindOf st=κ)(hkey:key∈it)(mem:∀ x∈arr.toList,x∈it)
  (srt:∀ i j x y,i<=j->j < n->arr.toList[base+i]?=some x->arr.toList[base+j]?=some y->kv x<=kv y) (hn:base+n<=arr.size) (hh:hint < n)
  (h:∀ k,k<=n->(∀ i x,i < k->arr.toList[base+i]?=some x->if left then kv x < kv key else kv x<=kv key)->(∀ i x,k<=i->i < n->arr.toList[base+i]?=some x->if left then kv key<=kv x else kv key < kv x)->Q (some k) st):wpT prog w A E s (Z2h left key arr base n hint) Q st:=by
 have at':∀ i,i < n->∃ x,arr[base+i]?=some x/\arr.toList[base+i]?=some x/\x∈it:=fun i hi=>Z3f arr mem (by lia)
 have fe:∀ {i x},arr.toList[base+i]?=some x->(arr.toList[base+i]?).getD key=x:=fun {i x} e=>by rw[e]; rfl
 refine Z7R S hk hkey (fun i=>(arr.toList[base+i]?).getD key) (fun i=>if left then decide (kv ((arr.toList[base+i]?).getD key) < kv key) else !decide (kv key < kv ((arr.toList[base+i]?).getD key))) (fun i hi=>?_) (fun i hi=>rfl) (fun i j hij hj hB=>?_) hh (fun k hkn g1 g2=>h k hkn (fun i x hi e=>?_) (fun i x hi hin e=>?_))
 ·obtain⟨x,e1,e2,m⟩:=at' i hi
  exact⟨by show _=some ((arr.toList[base+i]?).getD key); rw[fe e2]; exact e1,by show (arr.toList[base+i]?).getD key∈it; rw[fe e2]; exact m⟩
 ·obtain⟨x,_,ex,_⟩:=at' i (by lia)
  obtain⟨y,_,ey,_⟩:=at' j hj
  have:=srt i j x y hij hj ex ey
  simp only[fe ex,fe ey]at hB ⊢
  cases left <;> simp at hB ⊢ <;> lia
 ·have:=g1 i hi
  simp only[fe e]at this
  cases left <;> simp at this ⊢ <;> lia
 ·have:=g2 i hi hin
  simp only[fe e]at this
  cases left <;> simp at this ⊢ <;> lia
set_option maxHeartbeats 4000000 in
theorem Z1U {l:List Keyed}(h:Sd kv l){i j:Nat}{x y:Keyed}(hij:i<=j)(ex:l[i]?=some x)(ey:l[j]?=some y):kv x<=kv y:=by
 rcases Y0j i j with q | q
 ·obtain⟨h1,e1⟩:=Y04.mp ex
  obtain⟨h2,e2⟩:=Y04.mp ey
  have:=Y1v.mp h i j h1 h2 q
  rw[e1,e2]at this; exact this
 ·have:i=j:=by lia
  subst this
  rw[ex]at ey; cases ey; exact Y03 _
set_option maxHeartbeats 4000000 in
theorem Z6G {a b:Array Keyed}{Q:Array Keyed->SortSt->Prop}{st:SortSt}(S:SCx prog w A s κ it kv)(hk:kindOf st=κ)(ma:∀ x∈a.toList,x∈it)(mb:∀ x∈b.toList,x∈it)(sa:Sd kv a.toList)(sb:Sd kv b.toList)
  {b0 al:Keyed} (eb:b[0]?=some b0) (ea:a[a.size - 1]?=some al) (hf:∀ x∈a.toList,kv b0<=kv x) (hl:∀ y∈b.toList,kv y < kv al)
  (h:∀ out st',Z14 st st'->out.toList.Perm (a.toList++b.toList)->Sd kv out.toList->Q out st'):wpT prog w A E s (Z5a a b) Q st:=by
 rw[Z6m]
 refine Z01 (Z2c ?_)
 dsimp only
 refine Z01 (Z0g eb ?_)
 have hla:a.toList.length=a.size:=Array.length_toList
 have hlb:b.toList.length=b.size:=Array.length_toList
 have a1:1<=a.size:=by
  rcases Y0j 0 a.size with q | q
  ·exact q
  ·rw[Array.getElem?_eq_none (by lia)]at ea; cases ea
 have b1:1<=b.size:=by
  rcases Y0j 0 b.size with q | q
  ·exact q
  ·rw[Array.getElem?_eq_none (by lia)]at eb; cases eb
 have ga:∀ {i:Nat},i < a.size->_:=fun {i} hi=>Z3f a ma hi
 have gb:∀ {i:Nat},i < b.size->_:=fun {i} hi=>Z3f b mb hi
 have ea':a.toList[a.size - 1]?=some al:=by rw[Array.getElem?_toList,ea]
 have eb':b.toList[0]?=some b0:=by rw[Array.getElem?_toList,eb]
 have doneB:∀ {out:Array Keyed} {ia ib:Nat},MJ kv a.toList b.toList out.toList ia ib->ib=b.size->(out++a.extract ia a.size++b.extract ib b.size).toList.Perm (a.toList++b.toList)/\Sd kv (out++a.extract ia a.size++b.extract ib b.size).toList:=fun {out ia ib} hJ e=>by
  rw[Array.toList_append,Array.toList_append,Z4Z,Z4Z]
  exact hJ.endB sa (by lia)
 have lastA:∀ {out:Array Keyed} {ia ib:Nat},MJ kv a.toList b.toList out.toList ia ib->ia+1=a.size->(out++b.extract ib b.size++a.extract ia a.size).toList.Perm (a.toList++b.toList)/\Sd kv (out++b.extract ib b.size++a.extract ia a.size).toList:=fun {out ia ib} hJ e=>by
  rw[Array.toList_append,Array.toList_append,Z4Z,Z4Z]
  refine hJ.lastA sb sa fun y hy x hx=>?_
  have ei:ia=a.size - 1:=by lia
  rw[ei,Z4g ea']at hx
  rcases Y0v.mp hx with rfl | hx
  ·exact Y11 (hl y hy)
  ·rw[List.drop_eq_nil_of_le (by lia)]at hx; cases hx
 have J0:MJ kv a.toList b.toList (#[b0]:Array Keyed).toList 0 1:=by
  have z:MJ kv a.toList b.toList [] 0 0:=⟨by simp,List.Pairwise.nil,fun x hx=>by cases hx⟩
  exact z.takeB sb eb' (fun y hy=>hf y (by simpa using hy))
 by_cases c1:1=b.size
 ·rw[if_pos (by simpa using c1)]
  obtain⟨p1,p2⟩:=doneB J0 c1
  exact Z02 (h _ _ (Z14.refl st) p1 p2)
 rw[if_neg (by simpa using c1)]
 by_cases c2:0+1=a.size
 ·rw[if_pos (by simpa using c2)]
  obtain⟨p1,p2⟩:=lastA J0 c2
  exact Z02 (h _ _ (Z14.refl st) p1 p2)
 rw[if_neg (by simpa using c2)]
 refine Z01 (Z1R ?_)
 let LJ:Array Keyed->Nat->Nat->Nat->Prop:=fun out ia ib c0=>MJ kv a.toList b.toList out.toList ia ib/\ia+1 < a.size/\ib < b.size/\c0<=ia+ib
 let LG:Array Keyed->Prop:=fun z=>z.toList.Perm (a.toList++b.toList)/\Sd kv z.toList
 let LR:Option (Array Keyed)->Array Keyed->Nat->Nat->Nat->Prop:=fun r out ia ib c0=>(∃ z,r=some z/\LG z)\/(r=none/\LJ out ia ib c0)
 refine Z01 (Z0B (Z0n (I:=fun x c st'=>Z14 st st'/\∃ out ia ib g,c=(none,out,ia,ib,g)/\LJ out ia ib (x+1)) (Q:=fun c st'=>Z14 st st'/\∃ z out ia ib g,c=(some z,out,ia,ib,g)/\LG z) ?step ?fin ⟨Z14.refl st,_,_,_,_,rfl,J0,by lia,by lia,by lia⟩) ?post)
 case post=>
  rintro c st' ⟨hs,z,out,ia,ib,g,rfl,p1,p2⟩
  exact Z02 (h z st' hs p1 p2)
 case fin=>
  rintro c st' ⟨hs,out,ia,ib,g,rfl,hJ,i1,i2,i3⟩
  lia
 case step=>
  rintro x c st' _ hx ⟨hs,out,ia,ib,g,rfl,hJ,i1,i2,i3⟩
  dsimp only
  refine Z01 (Z0B (Z0n (I:=fun y c st'=>Z14 st st'/\∃ out ia ib ac bc,c=(none,out,ia,ib,ac,bc)/\LJ out ia ib (x+1+y)) (Q:=fun c st'=>Z14 st st'/\∃ r out ia ib ac bc,c=(r,out,ia,ib,ac,bc)/\LR r out ia ib (x+2)) ?step1 ?fin1 ⟨hs,_,_,_,_,_,rfl,hJ,i1,i2,i3⟩) ?post1)
  case step1=>
   rintro y c st1 _ hy ⟨hs1,out,ia,ib,ac,bc,rfl,hJ,i1,i2,i3⟩
   dsimp only
   obtain⟨yb,ey,ey',my⟩:=gb i2
   obtain⟨za,ez,ez',mz⟩:=ga (show ia < a.size by lia)
   refine Z01 (Z0g ey (Z01 (Z0g ez (Z01 (Z62 S (hs1.1.trans hk) my mz ?_)))))
   by_cases hw:kv yb < kv za
   ·rw[decide_eq_true hw]
    dsimp only
    rw[if_pos rfl]
    refine Z01 (Z0g ey ?_)
    have hJ':=hJ.takeB sb ey' (fun q hq=>Y11 (Y0g hw (Z1Y sa ez' q hq)))
    rw[<-Array.toList_push]at hJ'
    by_cases he:ib+1=b.size
    ·rw[if_pos (by simpa using he)]
     exact Z02 ⟨hs1,_,_,_,_,_,_,rfl,.inl ⟨_,rfl,doneB hJ' he⟩⟩
    ·rw[if_neg (by simpa using he)]
     split
     ·exact Z02 ⟨hs1,_,_,_,_,_,_,rfl,.inr ⟨rfl,hJ',i1,by lia,by lia⟩⟩
     ·exact Z02 ⟨hs1,_,_,_,_,_,rfl,hJ',i1,by lia,by lia⟩
   ·rw[decide_eq_false hw]
    dsimp only
    rw[if_neg (by simp)]
    refine Z01 (Z0g ez ?_)
    have hJ':=hJ.takeA sa ez' (fun q hq=>Y0o (Nat.le_of_not_lt hw) (Z1Y sb ey' q hq))
    rw[<-Array.toList_push]at hJ'
    by_cases he:ia+1+1=a.size
    ·rw[if_pos (by simpa using he)]
     exact Z02 ⟨hs1,_,_,_,_,_,_,rfl,.inl ⟨_,rfl,lastA hJ' he⟩⟩
    ·rw[if_neg (by simpa using he)]
     split
     ·exact Z02 ⟨hs1,_,_,_,_,_,_,rfl,.inr ⟨rfl,hJ',by lia,i2,by lia⟩⟩
     ·exact Z02 ⟨hs1,_,_,_,_,_,rfl,hJ',by lia,i2,by lia⟩
  case fin1=>
   rintro c st1 ⟨hs1,out,ia,ib,ac,bc,rfl,hJ,i1,i2,i3⟩
   exact⟨hs1,_,_,_,_,_,_,rfl,.inr ⟨rfl,hJ,i1,i2,by lia⟩⟩
  case post1=>
   rintro c st1 ⟨hs1,r,out,ia,ib,ac,bc,rfl,(⟨z,rfl,hz⟩ | ⟨rfl,hJ,i1,i2,i3⟩)⟩
   ·exact Z02 ⟨hs1,_,_,_,_,_,rfl,hz⟩
   dsimp only
   refine Z01 (Z2c ?_)
   refine Z01 (Z0B (Z0n (I:=fun y c st'=>Z14 st st'/\∃ out ia ib g ac bc,c=(none,out,ia,ib,g,ac,bc)/\LJ out ia ib (x+2)) (Q:=fun c st'=>Z14 st st'/\∃ r out ia ib g ac bc,c=(r,out,ia,ib,g,ac,bc)/\LR r out ia ib (x+2)) ?step2 ?fin2 ⟨hs1,_,_,_,_,_,_,rfl,hJ,i1,i2,i3⟩) ?post2)
   case fin2=>
    rintro c st1 ⟨hs1,out,ia,ib,g,ac,bc,rfl,hJ⟩
    exact⟨hs1,_,_,_,_,_,_,_,rfl,.inr ⟨rfl,hJ⟩⟩
   case post2=>
    rintro c st2 ⟨hs2,r,out,ia,ib,g,ac,bc,rfl,(⟨z,rfl,hz⟩ | ⟨rfl,hJ,i1,i2,i3⟩)⟩
    ·exact Z02 ⟨hs2,_,_,_,_,_,rfl,hz⟩
    dsimp only
    rw[Z0N]
    exact Z01 (Z0F (Z02 ⟨hs2.trans (Z14.gal _ _),_,_,_,_,rfl,hJ,i1,i2,i3⟩))
   case step2=>
    rintro y c st2 _ hy ⟨hs2,out,ia,ib,g,ac,bc,rfl,hJ,i1,i2,i3⟩
    dsimp only
    obtain⟨yb,ey,ey',my⟩:=gb i2
    by_cases hg1:g > 1
    ·rw[if_pos hg1]
     rw[Z0N]
     refine Z01 (Z0F ?_)
     refine Z01 (Z0g ey (Z01 (Z1p S (hs2.1.trans hk) my ma (fun i j x y h1 h2=>Z1U sa (by lia)) (by lia) (by lia) fun k hkn f1 f2=>?_)))
     have hs3:=hs2.trans (Z14.gal st2 (g - 1))
     revert hs3
     generalize (SortSt.mk' (kindOf st2) (arrOf st2) (pendingOf st2) (g - 1) (failedOf st2))=st3
     intro hs3
     dsimp only
     have kb:ia+k+1<=a.size:=by
      rcases Y0j (ia+k) a.size with q | q
      ·lia
      ·have h2:kv yb < kv al:=hl yb (Y0d ey')
       have:=f1 (a.size - 1 - ia) al (by lia) (by rw[show ia+(a.size - 1 - ia)=a.size - 1 by lia]; exact ea')
       simp at this; lia
     have hgt:∀ q∈a.toList.drop (ia+k),kv yb<=kv q:=fun q hq=>by
      obtain⟨j,e⟩:=Y1r.mp hq
      rw[Y1c,Y1o]at e
      have:=(Y04.mp e).1
      have:=f2 (k+j) q (by lia) (by lia) e
      simp at this; lia
     by_cases hk0:k > 0
     ·rw[if_pos hk0]
      have hJ2:=hJ.takeAs sa k (fun i hi=>by
       obtain⟨x,_,ex,_⟩:=ga (show ia+i < a.size by lia)
       have:=f1 i x hi ex
       simp at this
       exact⟨x,ex,fun q hq=>Y0o this (Z1Y sb ey' q hq)⟩)
      rw[<-Z2C,<-Array.toList_append]at hJ2
      obtain⟨ia2,hia2⟩:∃ n,n=ia+k:=⟨_,rfl⟩
      rw[<-hia2]at hJ2 hgt kb ⊢
      by_cases he1:ia2+1=a.size
      ·rw[if_pos (by simpa using he1)]
       exact Z02 ⟨hs3,_,_,_,_,_,_,_,rfl,.inl ⟨_,rfl,lastA hJ2 he1⟩⟩
      rw[if_neg (by simpa using he1),if_neg (by simp; lia)]
      refine Z01 (Z0g ey ?_)
      have hJ3:=hJ2.takeB sb ey' hgt
      rw[<-Array.toList_push]at hJ3
      by_cases he3:ib+1=b.size
      ·rw[if_pos (by simpa using he3)]
       exact Z02 ⟨hs3,_,_,_,_,_,_,_,rfl,.inl ⟨_,rfl,doneB hJ3 he3⟩⟩
      rw[if_neg (by simpa using he3)]
      obtain⟨z2,ez2,ez2',mz2⟩:=ga (show ia2 < a.size by lia)
      refine Z01 (Z0g ez2 (Z01 (Z1p S (hs3.1.trans hk) mz2 mb (fun i j x y h1 h2=>Z1U sb (by lia)) (by lia) (by lia) fun k2 hk2 f1 f2=>?_)))
      dsimp only
      have hz2:∀ q∈b.toList.drop (ib+1+k2),kv z2<=kv q:=fun q hq=>by
       obtain⟨j,e⟩:=Y1r.mp hq
       rw[Y1c,Y1o]at e
       have:=(Y04.mp e).1
       have:=f2 (k2+j) q (by lia) (by lia) e
       simpa using this
      by_cases hk20:k2 > 0
      ·rw[if_pos hk20]
       have hJ3':=hJ3.takeBs sb k2 (fun i hi=>by
        obtain⟨x,_,ex,_⟩:=gb (show ib+1+i < b.size by lia)
        have:=f1 i x hi ex
        simp only[if_true]at this
        exact⟨x,ex,fun q hq=>Y0o (Y11 this) (Z1Y sa ez2' q hq)⟩)
       rw[<-Z2C,<-Array.toList_append]at hJ3'
       by_cases he5:ib+1+k2=b.size
       ·rw[if_pos (by simpa using he5)]
        exact Z02 ⟨hs3,_,_,_,_,_,_,_,rfl,.inl ⟨_,rfl,doneB hJ3' he5⟩⟩
       rw[if_neg (by simpa using he5)]
       refine Z01 (Z0g ez2 ?_)
       have hJ4:=hJ3'.takeA sa ez2' hz2
       rw[<-Array.toList_push]at hJ4
       by_cases he4:ia2+1+1=a.size
       ·rw[if_pos (by simpa using he4)]
        exact Z02 ⟨hs3,_,_,_,_,_,_,_,rfl,.inl ⟨_,rfl,lastA hJ4 he4⟩⟩
       ·rw[if_neg (by simpa using he4)]
        split
        ·exact Z02 ⟨hs3,_,_,_,_,_,_,_,rfl,.inr ⟨rfl,hJ4,by lia,by lia,by lia⟩⟩
        ·exact Z02 ⟨hs3,_,_,_,_,_,_,rfl,hJ4,by lia,by lia,by lia⟩
      ·rw[if_neg hk20]
       have k20:k2=0:=by lia
       subst k20
       refine Z01 (Z0g ez2 ?_)
       have hJ4:=hJ3.takeA sa ez2' hz2
       rw[<-Array.toList_push]at hJ4
       by_cases he4:ia2+1+1=a.size
       ·rw[if_pos (by simpa using he4)]
        exact Z02 ⟨hs3,_,_,_,_,_,_,_,rfl,.inl ⟨_,rfl,lastA hJ4 he4⟩⟩
       ·rw[if_neg (by simpa using he4)]
        split
        ·exact Z02 ⟨hs3,_,_,_,_,_,_,_,rfl,.inr ⟨rfl,hJ4,by lia,by lia,by lia⟩⟩
        ·exact Z02 ⟨hs3,_,_,_,_,_,_,rfl,hJ4,by lia,by lia,by lia⟩
     ·rw[if_neg hk0]
      have k0:k=0:=by lia
      subst k0
      have hJ2:=hJ
      obtain⟨ia2,hia2⟩:∃ n,n=ia:=⟨_,rfl⟩
      rw[Nat.add_zero]at hgt
      rw[<-hia2]at hJ2 hgt ⊢
      refine Z01 (Z0g ey ?_)
      have hJ3:=hJ2.takeB sb ey' hgt
      rw[<-Array.toList_push]at hJ3
      by_cases he3:ib+1=b.size
      ·rw[if_pos (by simpa using he3)]
       exact Z02 ⟨hs3,_,_,_,_,_,_,_,rfl,.inl ⟨_,rfl,doneB hJ3 he3⟩⟩
      rw[if_neg (by simpa using he3)]
      obtain⟨z2,ez2,ez2',mz2⟩:=ga (show ia2 < a.size by lia)
      refine Z01 (Z0g ez2 (Z01 (Z1p S (hs3.1.trans hk) mz2 mb (fun i j x y h1 h2=>Z1U sb (by lia)) (by lia) (by lia) fun k2 hk2 f1 f2=>?_)))
      dsimp only
      have hz2:∀ q∈b.toList.drop (ib+1+k2),kv z2<=kv q:=fun q hq=>by
       obtain⟨j,e⟩:=Y1r.mp hq
       rw[Y1c,Y1o]at e
       have:=(Y04.mp e).1
       have:=f2 (k2+j) q (by lia) (by lia) e
       simpa using this
      by_cases hk20:k2 > 0
      ·rw[if_pos hk20]
       have hJ3':=hJ3.takeBs sb k2 (fun i hi=>by
        obtain⟨x,_,ex,_⟩:=gb (show ib+1+i < b.size by lia)
        have:=f1 i x hi ex
        simp only[if_true]at this
        exact⟨x,ex,fun q hq=>Y0o (Y11 this) (Z1Y sa ez2' q hq)⟩)
       rw[<-Z2C,<-Array.toList_append]at hJ3'
       by_cases he5:ib+1+k2=b.size
       ·rw[if_pos (by simpa using he5)]
        exact Z02 ⟨hs3,_,_,_,_,_,_,_,rfl,.inl ⟨_,rfl,doneB hJ3' he5⟩⟩
       rw[if_neg (by simpa using he5)]
       refine Z01 (Z0g ez2 ?_)
       have hJ4:=hJ3'.takeA sa ez2' hz2
       rw[<-Array.toList_push]at hJ4
       by_cases he4:ia2+1+1=a.size
       ·rw[if_pos (by simpa using he4)]
        exact Z02 ⟨hs3,_,_,_,_,_,_,_,rfl,.inl ⟨_,rfl,lastA hJ4 he4⟩⟩
       ·rw[if_neg (by simpa using he4)]
        split
        ·exact Z02 ⟨hs3,_,_,_,_,_,_,_,rfl,.inr ⟨rfl,hJ4,by lia,by lia,by lia⟩⟩
        ·exact Z02 ⟨hs3,_,_,_,_,_,_,rfl,hJ4,by lia,by lia,by lia⟩
      ·rw[if_neg hk20]
       have k20:k2=0:=by lia
       subst k20
       refine Z01 (Z0g ez2 ?_)
       have hJ4:=hJ3.takeA sa ez2' hz2
       rw[<-Array.toList_push]at hJ4
       by_cases he4:ia2+1+1=a.size
       ·rw[if_pos (by simpa using he4)]
        exact Z02 ⟨hs3,_,_,_,_,_,_,_,rfl,.inl ⟨_,rfl,lastA hJ4 he4⟩⟩
       ·rw[if_neg (by simpa using he4)]
        split
        ·exact Z02 ⟨hs3,_,_,_,_,_,_,_,rfl,.inr ⟨rfl,hJ4,by lia,by lia,by lia⟩⟩
        ·exact Z02 ⟨hs3,_,_,_,_,_,_,rfl,hJ4,by lia,by lia,by lia⟩
    ·rw[if_neg hg1]
     rw[Z0N]
     refine Z01 (Z0F ?_)
     refine Z01 (Z0g ey (Z01 (Z1p S (hs2.1.trans hk) my ma (fun i j x y h1 h2=>Z1U sa (by lia)) (by lia) (by lia) fun k hkn f1 f2=>?_)))
     have hs3:=hs2.trans (Z14.gal st2 g)
     revert hs3
     generalize (SortSt.mk' (kindOf st2) (arrOf st2) (pendingOf st2) g (failedOf st2))=st3
     intro hs3
     dsimp only
     have kb:ia+k+1<=a.size:=by
      rcases Y0j (ia+k) a.size with q | q
      ·lia
      ·have h2:kv yb < kv al:=hl yb (Y0d ey')
       have:=f1 (a.size - 1 - ia) al (by lia) (by rw[show ia+(a.size - 1 - ia)=a.size - 1 by lia]; exact ea')
       simp at this; lia
     have hgt:∀ q∈a.toList.drop (ia+k),kv yb<=kv q:=fun q hq=>by
      obtain⟨j,e⟩:=Y1r.mp hq
      rw[Y1c,Y1o]at e
      have:=(Y04.mp e).1
      have:=f2 (k+j) q (by lia) (by lia) e
      simp at this; lia
     by_cases hk0:k > 0
     ·rw[if_pos hk0]
      have hJ2:=hJ.takeAs sa k (fun i hi=>by
       obtain⟨x,_,ex,_⟩:=ga (show ia+i < a.size by lia)
       have:=f1 i x hi ex
       simp at this
       exact⟨x,ex,fun q hq=>Y0o this (Z1Y sb ey' q hq)⟩)
      rw[<-Z2C,<-Array.toList_append]at hJ2
      obtain⟨ia2,hia2⟩:∃ n,n=ia+k:=⟨_,rfl⟩
      rw[<-hia2]at hJ2 hgt kb ⊢
      by_cases he1:ia2+1=a.size
      ·rw[if_pos (by simpa using he1)]
       exact Z02 ⟨hs3,_,_,_,_,_,_,_,rfl,.inl ⟨_,rfl,lastA hJ2 he1⟩⟩
      rw[if_neg (by simpa using he1),if_neg (by simp; lia)]
      refine Z01 (Z0g ey ?_)
      have hJ3:=hJ2.takeB sb ey' hgt
      rw[<-Array.toList_push]at hJ3
      by_cases he3:ib+1=b.size
      ·rw[if_pos (by simpa using he3)]
       exact Z02 ⟨hs3,_,_,_,_,_,_,_,rfl,.inl ⟨_,rfl,doneB hJ3 he3⟩⟩
      rw[if_neg (by simpa using he3)]
      obtain⟨z2,ez2,ez2',mz2⟩:=ga (show ia2 < a.size by lia)
      refine Z01 (Z0g ez2 (Z01 (Z1p S (hs3.1.trans hk) mz2 mb (fun i j x y h1 h2=>Z1U sb (by lia)) (by lia) (by lia) fun k2 hk2 f1 f2=>?_)))
      dsimp only
      have hz2:∀ q∈b.toList.drop (ib+1+k2),kv z2<=kv q:=fun q hq=>by
       obtain⟨j,e⟩:=Y1r.mp hq
       rw[Y1c,Y1o]at e
       have:=(Y04.mp e).1
       have:=f2 (k2+j) q (by lia) (by lia) e
       simpa using this
      by_cases hk20:k2 > 0
      ·rw[if_pos hk20]
       have hJ3':=hJ3.takeBs sb k2 (fun i hi=>by
        obtain⟨x,_,ex,_⟩:=gb (show ib+1+i < b.size by lia)
        have:=f1 i x hi ex
        simp only[if_true]at this
        exact⟨x,ex,fun q hq=>Y0o (Y11 this) (Z1Y sa ez2' q hq)⟩)
       rw[<-Z2C,<-Array.toList_append]at hJ3'
       by_cases he5:ib+1+k2=b.size
       ·rw[if_pos (by simpa using he5)]
        exact Z02 ⟨hs3,_,_,_,_,_,_,_,rfl,.inl ⟨_,rfl,doneB hJ3' he5⟩⟩
       rw[if_neg (by simpa using he5)]
       refine Z01 (Z0g ez2 ?_)
       have hJ4:=hJ3'.takeA sa ez2' hz2
       rw[<-Array.toList_push]at hJ4
       by_cases he4:ia2+1+1=a.size
       ·rw[if_pos (by simpa using he4)]
        exact Z02 ⟨hs3,_,_,_,_,_,_,_,rfl,.inl ⟨_,rfl,lastA hJ4 he4⟩⟩
       ·rw[if_neg (by simpa using he4)]
        split
        ·exact Z02 ⟨hs3,_,_,_,_,_,_,_,rfl,.inr ⟨rfl,hJ4,by lia,by lia,by lia⟩⟩
        ·exact Z02 ⟨hs3,_,_,_,_,_,_,rfl,hJ4,by lia,by lia,by lia⟩
      ·rw[if_neg hk20]
       have k20:k2=0:=by lia
       subst k20
       refine Z01 (Z0g ez2 ?_)
       have hJ4:=hJ3.takeA sa ez2' hz2
       rw[<-Array.toList_push]at hJ4
       by_cases he4:ia2+1+1=a.size
       ·rw[if_pos (by simpa using he4)]
        exact Z02 ⟨hs3,_,_,_,_,_,_,_,rfl,.inl ⟨_,rfl,lastA hJ4 he4⟩⟩
       ·rw[if_neg (by simpa using he4)]
        split
        ·exact Z02 ⟨hs3,_,_,_,_,_,_,_,rfl,.inr ⟨rfl,hJ4,by lia,by lia,by lia⟩⟩
        ·exact Z02 ⟨hs3,_,_,_,_,_,_,rfl,hJ4,by lia,by lia,by lia⟩
     ·rw[if_neg hk0]
      have k0:k=0:=by lia
      subst k0
      have hJ2:=hJ
      obtain⟨ia2,hia2⟩:∃ n,n=ia:=⟨_,rfl⟩
      rw[Nat.add_zero]at hgt
      rw[<-hia2]at hJ2 hgt ⊢
      refine Z01 (Z0g ey ?_)
      have hJ3:=hJ2.takeB sb ey' hgt
      rw[<-Array.toList_push]at hJ3
      by_cases he3:ib+1=b.size
      ·rw[if_pos (by simpa using he3)]
       exact Z02 ⟨hs3,_,_,_,_,_,_,_,rfl,.inl ⟨_,rfl,doneB hJ3 he3⟩⟩
      rw[if_neg (by simpa using he3)]
      obtain⟨z2,ez2,ez2',mz2⟩:=ga (show ia2 < a.size by lia)
      refine Z01 (Z0g ez2 (Z01 (Z1p S (hs3.1.trans hk) mz2 mb (fun i j x y h1 h2=>Z1U sb (by lia)) (by lia) (by lia) fun k2 hk2 f1 f2=>?_)))
      dsimp only
      have hz2:∀ q∈b.toList.drop (ib+1+k2),kv z2<=kv q:=fun q hq=>by
       obtain⟨j,e⟩:=Y1r.mp hq
       rw[Y1c,Y1o]at e
       have:=(Y04.mp e).1
       have:=f2 (k2+j) q (by lia) (by lia) e
       simpa using this
      by_cases hk20:k2 > 0
      ·rw[if_pos hk20]
       have hJ3':=hJ3.takeBs sb k2 (fun i hi=>by
        obtain⟨x,_,ex,_⟩:=gb (show ib+1+i < b.size by lia)
        have:=f1 i x hi ex
        simp only[if_true]at this
        exact⟨x,ex,fun q hq=>Y0o (Y11 this) (Z1Y sa ez2' q hq)⟩)
       rw[<-Z2C,<-Array.toList_append]at hJ3'
       by_cases he5:ib+1+k2=b.size
       ·rw[if_pos (by simpa using he5)]
        exact Z02 ⟨hs3,_,_,_,_,_,_,_,rfl,.inl ⟨_,rfl,doneB hJ3' he5⟩⟩
       rw[if_neg (by simpa using he5)]
       refine Z01 (Z0g ez2 ?_)
       have hJ4:=hJ3'.takeA sa ez2' hz2
       rw[<-Array.toList_push]at hJ4
       by_cases he4:ia2+1+1=a.size
       ·rw[if_pos (by simpa using he4)]
        exact Z02 ⟨hs3,_,_,_,_,_,_,_,rfl,.inl ⟨_,rfl,lastA hJ4 he4⟩⟩
       ·rw[if_neg (by simpa using he4)]
        split
        ·exact Z02 ⟨hs3,_,_,_,_,_,_,_,rfl,.inr ⟨rfl,hJ4,by lia,by lia,by lia⟩⟩
        ·exact Z02 ⟨hs3,_,_,_,_,_,_,rfl,hJ4,by lia,by lia,by lia⟩
      ·rw[if_neg hk20]
       have k20:k2=0:=by lia
       subst k20
       refine Z01 (Z0g ez2 ?_)
       have hJ4:=hJ3.takeA sa ez2' hz2
       rw[<-Array.toList_push]at hJ4
       by_cases he4:ia2+1+1=a.size
       ·rw[if_pos (by simpa using he4)]
        exact Z02 ⟨hs3,_,_,_,_,_,_,_,rfl,.inl ⟨_,rfl,lastA hJ4 he4⟩⟩
       ·rw[if_neg (by simpa using he4)]
        split
        ·exact Z02 ⟨hs3,_,_,_,_,_,_,_,rfl,.inr ⟨rfl,hJ4,by lia,by lia,by lia⟩⟩
        ·exact Z02 ⟨hs3,_,_,_,_,_,_,rfl,hJ4,by lia,by lia,by lia⟩
end
structure MH (kv:Keyed->Nat)(a b out:List Keyed)(na nb:Nat):Prop where
 perm:(a.take na++b.take nb++out.reverse).Perm (a++b)
 srt:Sd kv out.reverse
 high:∀ x∈out,∀ y∈a.take na++b.take nb,kv y<=kv x
section
variable {kv:Keyed->Nat}{a b out:List Keyed}{na nb:Nat}{x:Keyed}
set_option maxHeartbeats 4000000 in
theorem Z58 {n:Nat}(e:a[n]?=some x):a.take (n+1)=a.take n++[x]:=by rw[Y1i,e]; rfl
set_option maxHeartbeats 4000000 in
theorem Z1X (h:Sd kv a){n:Nat}(e:a[n]?=some x):∀ y∈a.take (n+1),kv y<=kv x:=fun y hy=>by
 rw[Y1b]at hy
 obtain⟨i,hi,rfl⟩:=hy
 exact Z1U h (by lia) (Y01 (by lia)) e
set_option maxHeartbeats 4000000 in
theorem MH.takeA (h:MH kv a b out (na+1) nb)(sa:Sd kv a)(e:a[na]?=some x)(hx:∀ y∈b.take nb,kv y<=kv x):MH kv a b (out++[x]) na nb:=by
 have d:=Z58 e
 have hs:=Z1X sa e
 obtain⟨p,s,l⟩:=h
 rw[d]at p l hs
 refine⟨?_,?_,?_⟩
 ·refine List.Perm.trans ?_ p
  rw[List.reverse_append,Y0l,Y0l,Y0l]
  refine List.Perm.append_left _ ?_
  show (b.take nb++(x :: out.reverse)).Perm (x :: (b.take nb++out.reverse))
  exact List.perm_middle
 ·rw[List.reverse_append]
  show Sd kv (x :: out.reverse)
  refine List.pairwise_cons.mpr ⟨fun y hy=>l y (List.mem_reverse.mp hy) x (by simp),s⟩
 ·intro z hz y hy
  rcases Y0b.mp hz with hz | hz
  ·refine l z hz y ?_
   rcases Y0b.mp hy with hy | hy
   ·simp[hy]
   ·simp[hy]
  ·rw[Y0n.mp hz]
   rcases Y0b.mp hy with hy | hy
   ·exact hs y (Y1y _ hy)
   ·exact hx y hy
set_option maxHeartbeats 4000000 in
theorem MH.takeB (h:MH kv a b out na (nb+1))(sb:Sd kv b)(e:b[nb]?=some x)(hx:∀ y∈a.take na,kv y<=kv x):MH kv a b (out++[x]) na nb:=by
 have d:=Z58 e
 have hs:=Z1X sb e
 obtain⟨p,s,l⟩:=h
 rw[d]at p l hs
 refine⟨?_,?_,?_⟩
 ·have e2:a.take na++b.take nb++(out++[x]).reverse=a.take na++(b.take nb++[x])++out.reverse:=by simp
  rw[e2]; exact p
 ·rw[List.reverse_append]
  show Sd kv (x :: out.reverse)
  refine List.pairwise_cons.mpr ⟨fun y hy=>l y (List.mem_reverse.mp hy) x (by simp),s⟩
 ·intro z hz y hy
  rcases Y0b.mp hz with hz | hz
  ·refine l z hz y ?_
   rcases Y0b.mp hy with hy | hy
   ·simp[hy]
   ·simp[hy]
  ·rw[Y0n.mp hz]
   rcases Y0b.mp hy with hy | hy
   ·exact hx y hy
   ·exact hs y (Y1y _ hy)
set_option maxHeartbeats 4000000 in
theorem Z8B {l:List Keyed}{t d:Nat}(e:l[t+d]?=some x):((l.take (t+d+1)).drop t).reverse=x :: ((l.take (t+d)).drop t).reverse:=by
 have hl:=(Y04.mp e).1
 rw[Z58 e,List.drop_append_of_le_length (by rw[Y0x]; lia),List.reverse_append]; rfl
set_option maxHeartbeats 4000000 in
theorem MH.takeAs (sa:Sd kv a){t:Nat}:∀ (d:Nat) (out:List Keyed),MH kv a b out (t+d) nb->(∀ i,t<=i->i < t+d->∃ x,a[i]?=some x/\∀ y∈b.take nb,kv y<=kv x)->MH kv a b (out++((a.take (t+d)).drop t).reverse) t nb
 | 0,out,h,_=>by
  have:(a.take (t+0)).drop t=[]:=List.drop_eq_nil_of_le (by rw[Y0x]; lia)
  rw[this]; simpa using h
 | d+1,out,h,hx=>by
  obtain⟨x,e,hy⟩:=hx (t+d) (by lia) (by lia)
  have ih:=MH.takeAs sa d (out++[x]) (h.takeA sa e hy) fun i h1 h2=>hx i h1 (by lia)
  rw[Y0l]at ih
  show MH kv a b (out++((a.take (t+d+1)).drop t).reverse) t nb
  rw[Z8B e]
  exact ih
set_option maxHeartbeats 4000000 in
theorem MH.takeBs (sb:Sd kv b){t:Nat}:∀ (d:Nat) (out:List Keyed),MH kv a b out na (t+d)->(∀ i,t<=i->i < t+d->∃ x,b[i]?=some x/\∀ y∈a.take na,kv y<=kv x)->MH kv a b (out++((b.take (t+d)).drop t).reverse) na t
 | 0,out,h,_=>by
  have:(b.take (t+0)).drop t=[]:=List.drop_eq_nil_of_le (by rw[Y0x]; lia)
  rw[this]; simpa using h
 | d+1,out,h,hx=>by
  obtain⟨x,e,hy⟩:=hx (t+d) (by lia) (by lia)
  have ih:=MH.takeBs sb d (out++[x]) (h.takeB sb e hy) fun i h1 h2=>hx i h1 (by lia)
  rw[Y0l]at ih
  show MH kv a b (out++((b.take (t+d+1)).drop t).reverse) na t
  rw[Z8B e]
  exact ih
set_option maxHeartbeats 4000000 in
theorem Z6o (h:Sd kv a)(n:Nat):Sd kv (a.take n):=h.sublist (List.take_sublist n a)
set_option maxHeartbeats 4000000 in
theorem MH.endA (h:MH kv a b out na nb)(sb:Sd kv b)(e:na=0):(a.take na++b.take nb++out.reverse).Perm (a++b)/\Sd kv (a.take na++b.take nb++out.reverse):=by
 obtain⟨p,s,l⟩:=h
 refine⟨p,?_⟩
 subst e
 rw[List.take_zero,List.nil_append]at l ⊢
 exact Y0h.mpr ⟨Z6o sb nb,s,fun y hy x hx=>l x (List.mem_reverse.mp hx) y hy⟩
set_option maxHeartbeats 4000000 in
theorem MH.firstB (h:MH kv a b out na nb)(sb:Sd kv b)(sa:Sd kv a)(hx:∀ y∈b.take nb,∀ x∈a,kv y<=kv x):(b.take nb++a.take na++out.reverse).Perm (a++b)/\Sd kv (b.take nb++a.take na++out.reverse):=by
 obtain⟨p,s,l⟩:=h
 refine⟨(List.Perm.append_right out.reverse List.perm_append_comm).trans p,?_⟩
 refine Y0h.mpr ⟨Y0h.mpr ⟨Z6o sb nb,Z6o sa na,fun y hy x hx'=>hx y hy x (List.mem_of_mem_take hx')⟩,s,fun y hy x hx=>l x (List.mem_reverse.mp hx) y ?_⟩
 rcases Y0b.mp hy with hy | hy
 ·exact Y09 _ hy
 ·exact Y1y _ hy
end
def Z5g:Array Keyed->Array Keyed->StateT SortSt Sem (Array Keyed):=sortPriv% PySem.Builtin.mergeHi
set_option maxHeartbeats 4000000 in
theorem Z6q (a b:Array Keyed):Z5g a b=(do
 rule "list.sort.merge-hi"
 let total:=a.size+b.size
 let done (out:Array Keyed) (na nb:Nat):=a.extract 0 na++b.extract 0 nb++out.reverse
 let firstOfB (out:Array Keyed) (na nb:Nat):=b.extract 0 nb++a.extract 0 na++out.reverse
 let mut na:=a.size - 1
 let mut nb:=b.size
 let mut out:Array Keyed:=#[<-elem' a na]
 if na == 0 then return done out na nb
 if nb == 1 then return firstOfB out na nb
 let mut minGallop:=gallopOf (<-get)
 for _ in [0:total] do
  let mut acount:=0
  let mut bcount:=0
  for _ in [0:total] do
   let some aWins <-lt' (<-elem' b (nb - 1)) (<-elem' a (na - 1)) | return done out na nb
   if aWins then
    na:=na - 1; out:=out.push (<-elem' a na); acount:=acount+1; bcount:=0
    if na == 0 then return done out na nb
    if acount≥minGallop then break
   else
    nb:=nb - 1; out:=out.push (<-elem' b nb); bcount:=bcount+1; acount:=0
    if nb == 1 then return firstOfB out na nb
    if bcount≥minGallop then break
  rule "list.sort.gallop"
  minGallop:=minGallop+1
  for _ in [0:total] do
   if minGallop > 1 then minGallop:=minGallop - 1
   Z1o minGallop
   let some at_ <-Z2h false (<-elem' b (nb - 1)) a 0 na (na - 1) | return done out na nb
   let k:=na - at_
   acount:=k
   if k > 0 then
    out:=out++(a.extract at_ na).reverse; na:=at_
    if na == 0 then return done out na nb
   nb:=nb - 1; out:=out.push (<-elem' b nb)
   if nb == 1 then return firstOfB out na nb
   let some at_ <-Z2h true (<-elem' a (na - 1)) b 0 nb (nb - 1) | return done out na nb
   let k:=nb - at_
   bcount:=k
   if k > 0 then
    out:=out++(b.extract at_ nb).reverse; nb:=at_
    if nb == 1 then return firstOfB out na nb
    if nb == 0 then return done out na nb
   na:=na - 1; out:=out.push (<-elem' a na)
   if na == 0 then return done out na nb
   if acount < 7 && bcount < 7 then break
  minGallop:=minGallop+1
  Z1o minGallop
 unsupported "internal:list.sort.merge-bound"):=rfl
section
variable {prog:Program}{w:World}{A:Around}{E:Value->Shared->Prop}{s:Shared}{κ:SortKind}{it:List Keyed}{kv:Keyed->Nat}
set_option maxHeartbeats 4000000 in
theorem Z3M (a:Array Keyed)(n:Nat):(a.extract 0 n).toList=a.toList.take n:=by
 rw[Array.toList_extract]
 show (a.toList.drop 0).take (n - 0)=_
 rfl
set_option maxHeartbeats 4000000 in
theorem Z3m (a:Array Keyed)(t n:Nat):(a.extract t n).toList=(a.toList.take n).drop t:=by
 rw[Array.toList_extract]
 show (a.toList.drop t).take (n - t)=_
 rw[List.drop_take]
set_option maxHeartbeats 4000000 in
theorem Z6w {a b:Array Keyed}{Q:Array Keyed->SortSt->Prop}{st:SortSt}(S:SCx prog w A s κ it kv)(hk:kindOf st=κ)(ma:∀ x∈a.toList,x∈it)(mb:∀ x∈b.toList,x∈it)(sa:Sd kv a.toList)(sb:Sd kv b.toList)
  {b0 al:Keyed} (eb:b[0]?=some b0) (ea:a[a.size - 1]?=some al) (hf:∀ x∈a.toList,kv b0 < kv x) (hl:∀ y∈b.toList,kv y<=kv al)
  (h:∀ out st',Z14 st st'->out.toList.Perm (a.toList++b.toList)->Sd kv out.toList->Q out st'):wpT prog w A E s (Z5g a b) Q st:=by
 rw[Z6q]
 refine Z01 (Z2c ?_)
 dsimp only
 refine Z01 (Z0g ea ?_)
 have hla:a.toList.length=a.size:=Array.length_toList
 have hlb:b.toList.length=b.size:=Array.length_toList
 have a1:1<=a.size:=by
  rcases Y0j 0 a.size with q | q
  ·exact q
  ·rw[Array.getElem?_eq_none (by lia)]at ea; cases ea
 have b1:1<=b.size:=by
  rcases Y0j 0 b.size with q | q
  ·exact q
  ·rw[Array.getElem?_eq_none (by lia)]at eb; cases eb
 have ga:∀ {i:Nat},i < a.size->_:=fun {i} hi=>Z3f a ma hi
 have gb:∀ {i:Nat},i < b.size->_:=fun {i} hi=>Z3f b mb hi
 have ea':a.toList[a.size - 1]?=some al:=by rw[Array.getElem?_toList,ea]
 have eb':b.toList[0]?=some b0:=by rw[Array.getElem?_toList,eb]
 have doneA:∀ {out:Array Keyed} {na nb:Nat},MH kv a.toList b.toList out.toList na nb->na=0->(a.extract 0 na++b.extract 0 nb++out.reverse).toList.Perm (a.toList++b.toList)/\Sd kv (a.extract 0 na++b.extract 0 nb++out.reverse).toList:=fun {out na nb} hJ e=>by
  rw[Array.toList_append,Array.toList_append,Z3M,Z3M,Array.toList_reverse]
  exact hJ.endA sb e
 have firstB:∀ {out:Array Keyed} {na nb:Nat},MH kv a.toList b.toList out.toList na nb->nb=1->(b.extract 0 nb++a.extract 0 na++out.reverse).toList.Perm (a.toList++b.toList)/\Sd kv (b.extract 0 nb++a.extract 0 na++out.reverse).toList:=fun {out na nb} hJ e=>by
  rw[Array.toList_append,Array.toList_append,Z3M,Z3M,Array.toList_reverse]
  refine hJ.firstB sb sa fun y hy x hx=>?_
  subst e
  rw[Z58 eb',List.take_zero,List.nil_append]at hy
  rw[Y0n.mp hy]
  exact Y11 (hf x hx)
 obtain⟨n0,hn0⟩:∃ n,n=a.size - 1:=⟨_,rfl⟩
 have J0:MH kv a.toList b.toList (#[al]:Array Keyed).toList n0 b.size:=by
  have z:MH kv a.toList b.toList [] (n0+1) b.size:=⟨by rw[show n0+1=a.toList.length by lia,<-hlb,List.take_length,List.take_length]; simp,List.Pairwise.nil,fun x hx=>by cases hx⟩
  exact z.takeA sa (by rw[hn0]; exact ea') (fun y hy=>hl y (List.mem_of_mem_take hy))
 rw[<-hn0]
 by_cases c1:n0=0
 ·rw[if_pos (by simpa using c1)]
  obtain⟨p1,p2⟩:=doneA J0 c1
  exact Z02 (h _ _ (Z14.refl st) p1 p2)
 rw[if_neg (by simpa using c1)]
 by_cases c2:b.size=1
 ·rw[if_pos (by simpa using c2)]
  obtain⟨p1,p2⟩:=firstB J0 c2
  exact Z02 (h _ _ (Z14.refl st) p1 p2)
 rw[if_neg (by simpa using c2)]
 refine Z01 (Z1R ?_)
 let LJ:Array Keyed->Nat->Nat->Nat->Prop:=fun out na nb c0=>MH kv a.toList b.toList out.toList na nb/\1<=na/\na<=a.size/\2<=nb/\nb<=b.size/\na+nb+c0<=a.size+b.size
 let LG:Array Keyed->Prop:=fun z=>z.toList.Perm (a.toList++b.toList)/\Sd kv z.toList
 let LR:Option (Array Keyed)->Array Keyed->Nat->Nat->Nat->Prop:=fun r out na nb c0=>(∃ z,r=some z/\LG z)\/(r=none/\LJ out na nb c0)
 refine Z01 (Z0B (Z0n (I:=fun x c st'=>Z14 st st'/\∃ na nb out g,c=(none,na,nb,out,g)/\LJ out na nb (x+1)) (Q:=fun c st'=>Z14 st st'/\∃ z na nb out g,c=(some z,na,nb,out,g)/\LG z) ?step ?fin ⟨Z14.refl st,_,_,_,_,rfl,J0,by lia,by lia,by lia,by lia,by lia⟩) ?post)
 case post=>
  rintro c st' ⟨hs,z,na,nb,out,g,rfl,p1,p2⟩
  exact Z02 (h z st' hs p1 p2)
 case fin=>
  rintro c st' ⟨hs,na,nb,out,g,rfl,hJ,i1,i1',i2,i2',i3⟩
  lia
 case step=>
  rintro x c st' _ hx ⟨hs,na,nb,out,g,rfl,hJ,i1,i1',i2,i2',i3⟩
  dsimp only
  refine Z01 (Z0B (Z0n (I:=fun y c st'=>Z14 st st'/\∃ na nb out ac bc,c=(none,na,nb,out,ac,bc)/\LJ out na nb (x+1+y)) (Q:=fun c st'=>Z14 st st'/\∃ r na nb out ac bc,c=(r,na,nb,out,ac,bc)/\LR r out na nb (x+2)) ?step1 ?fin1 ⟨hs,_,_,_,_,_,rfl,hJ,i1,i1',i2,i2',i3⟩) ?post1)
  case step1=>
   rintro y c st1 _ hy ⟨hs1,na,nb,out,ac,bc,rfl,hJ,i1,i1',i2,i2',i3⟩
   dsimp only
   obtain⟨ma',rfl⟩:∃ m,na=m+1:=⟨na - 1,by lia⟩
   obtain⟨mb',rfl⟩:∃ m,nb=m+1:=⟨nb - 1,by lia⟩
   rw[Y1x,Y1x]
   obtain⟨yb,ey,ey',my⟩:=gb (show mb' < b.size by lia)
   obtain⟨za,ez,ez',mz⟩:=ga (show ma' < a.size by lia)
   refine Z01 (Z0g ey (Z01 (Z0g ez (Z01 (Z62 S (hs1.1.trans hk) my mz ?_)))))
   by_cases hw:kv yb < kv za
   ·rw[decide_eq_true hw]
    dsimp only
    rw[if_pos rfl]
    refine Z01 (Z0g ez ?_)
    have hJ':=hJ.takeA sa ez' (fun q hq=>Y0o (Z1X sb ey' q hq) (Y11 hw))
    rw[<-Array.toList_push]at hJ'
    by_cases he:ma'=0
    ·rw[if_pos (by simpa using he)]
     exact Z02 ⟨hs1,_,_,_,_,_,_,rfl,.inl ⟨_,rfl,doneA hJ' he⟩⟩
    ·rw[if_neg (by simpa using he)]
     split
     ·exact Z02 ⟨hs1,_,_,_,_,_,_,rfl,.inr ⟨rfl,hJ',by lia,by lia,by lia,by lia,by lia⟩⟩
     ·exact Z02 ⟨hs1,_,_,_,_,_,rfl,hJ',by lia,by lia,by lia,by lia,by lia⟩
   ·rw[decide_eq_false hw]
    dsimp only
    rw[if_neg (by simp)]
    refine Z01 (Z0g ey ?_)
    have hJ':=hJ.takeB sb ey' (fun q hq=>Y0o (Z1X sa ez' q hq) (Nat.le_of_not_lt hw))
    rw[<-Array.toList_push]at hJ'
    by_cases he:mb'=1
    ·rw[if_pos (by simpa using he)]
     exact Z02 ⟨hs1,_,_,_,_,_,_,rfl,.inl ⟨_,rfl,firstB hJ' he⟩⟩
    ·rw[if_neg (by simpa using he)]
     split
     ·exact Z02 ⟨hs1,_,_,_,_,_,_,rfl,.inr ⟨rfl,hJ',by lia,by lia,by lia,by lia,by lia⟩⟩
     ·exact Z02 ⟨hs1,_,_,_,_,_,rfl,hJ',by lia,by lia,by lia,by lia,by lia⟩
  case fin1=>
   rintro c st1 ⟨hs1,na,nb,out,ac,bc,rfl,hJ,i1,i1',i2,i2',i3⟩
   exact⟨hs1,_,_,_,_,_,_,rfl,.inr ⟨rfl,hJ,i1,i1',i2,i2',by lia⟩⟩
  case post1=>
   rintro c st1 ⟨hs1,r,na,nb,out,ac,bc,rfl,(⟨z,rfl,hz⟩ | ⟨rfl,hJ,i1,i1',i2,i2',i3⟩)⟩
   ·exact Z02 ⟨hs1,_,_,_,_,_,rfl,hz⟩
   dsimp only
   refine Z01 (Z2c ?_)
   refine Z01 (Z0B (Z0n (I:=fun y c st'=>Z14 st st'/\∃ na nb out g ac bc,c=(none,na,nb,out,g,ac,bc)/\LJ out na nb (x+2)) (Q:=fun c st'=>Z14 st st'/\∃ r na nb out g ac bc,c=(r,na,nb,out,g,ac,bc)/\LR r out na nb (x+2)) ?step2 ?fin2 ⟨hs1,_,_,_,_,_,_,rfl,hJ,i1,i1',i2,i2',i3⟩) ?post2)
   case fin2=>
    rintro c st1 ⟨hs1,na,nb,out,g,ac,bc,rfl,hJ⟩
    exact⟨hs1,_,_,_,_,_,_,_,rfl,.inr ⟨rfl,hJ⟩⟩
   case post2=>
    rintro c st2 ⟨hs2,r,na,nb,out,g,ac,bc,rfl,(⟨z,rfl,hz⟩ | ⟨rfl,hJ⟩)⟩
    ·exact Z02 ⟨hs2,_,_,_,_,_,rfl,hz⟩
    dsimp only
    rw[Z0N]
    exact Z01 (Z0F (Z02 ⟨hs2.trans (Z14.gal _ _),_,_,_,_,rfl,hJ⟩))
   case step2=>
    rintro y c st2 _ hy ⟨hs2,na,nb,out,g,ac,bc,rfl,hJ,i1,i1',i2,i2',i3⟩
    dsimp only
    obtain⟨mb',rfl⟩:∃ m,nb=m+1:=⟨nb - 1,by lia⟩
    simp only[Y1x]
    obtain⟨yb,ey,ey',my⟩:=gb (show mb' < b.size by lia)
    by_cases hg1:g > 1
    ·rw[if_pos hg1]
     rw[Z0N]
     refine Z01 (Z0F ?_)
     refine Z01 (Z0g ey (Z01 (Z1p S (hs2.1.trans hk) my ma (fun i j x y h1 h2=>Z1U sa (by lia)) (by lia) (by lia) fun k hkn f1 f2=>?_)))
     have hs3:=hs2.trans (Z14.gal st2 (g - 1))
     revert hs3
     generalize (SortSt.mk' (kindOf st2) (arrOf st2) (pendingOf st2) (g - 1) (failedOf st2))=st3
     intro hs3
     dsimp only
     have hgt:∀ q∈a.toList.take k,kv q<=kv yb:=fun q hq=>by
      rw[Y1b]at hq
      obtain⟨i,hi,rfl⟩:=hq
      have:=f1 i _ (by lia) (by rw[Y1d]; exact Y01 (by lia))
      simpa using this
     by_cases hk0:na - k > 0
     ·rw[if_pos hk0]
      obtain⟨d,hd⟩:∃ d,na=k+d:=⟨na - k,by lia⟩
      have hJ2:=MH.takeAs sa d _ (by rw[<-hd]; exact hJ) (fun i h1 h2=>by
       obtain⟨x,_,ex,_⟩:=ga (show i < a.size by lia)
       have:=f2 i x h1 (by lia) (by rw[Y1d]; exact ex)
       simp at this
       exact⟨x,ex,fun q hq=>Y0o (Z1X sb ey' q hq) (Y11 this)⟩)
      rw[<-hd,<-Z3m,<-Array.toList_reverse,<-Array.toList_append]at hJ2
      obtain⟨na2,hna2⟩:∃ n,n=k:=⟨_,rfl⟩
      rw[<-hna2]at hJ2 hgt ⊢
      by_cases he1:na2=0
      ·rw[if_pos (by simpa using he1)]
       exact Z02 ⟨hs3,_,_,_,_,_,_,_,rfl,.inl ⟨_,rfl,doneA hJ2 he1⟩⟩
      rw[if_neg (by simpa using he1)]
      refine Z01 (Z0g ey ?_)
      have hJ3:=hJ2.takeB sb ey' hgt
      rw[<-Array.toList_push]at hJ3
      by_cases he3:mb'=1
      ·rw[if_pos (by simpa using he3)]
       exact Z02 ⟨hs3,_,_,_,_,_,_,_,rfl,.inl ⟨_,rfl,firstB hJ3 he3⟩⟩
      rw[if_neg (by simpa using he3)]
      obtain⟨m2,rfl⟩:∃ m,na2=m+1:=⟨na2 - 1,by lia⟩
      simp only[Y1x]
      obtain⟨z2,ez2,ez2',mz2⟩:=ga (show m2 < a.size by lia)
      refine Z01 (Z0g ez2 (Z01 (Z1p S (hs3.1.trans hk) mz2 mb (fun i j x y h1 h2=>Z1U sb (by lia)) (by lia) (by lia) fun k2 hk2 f1 f2=>?_)))
      dsimp only
      have hz2:∀ q∈b.toList.take k2,kv q<=kv z2:=fun q hq=>by
       rw[Y1b]at hq
       obtain⟨i,hi,rfl⟩:=hq
       have:=f1 i _ (by lia) (by rw[Y1d]; exact Y01 (by lia))
       simp only[if_true]at this; lia
      have k21:1<=k2:=by
       rcases Y0j 0 k2 with q | q
       ·exact q
       ·have:=f2 0 b0 (by lia) (by lia) (by rw[Y1d]; exact eb')
        simp only[if_true]at this
        have:=hf z2 (Y0d ez2')
        lia
      by_cases hk20:mb' - k2 > 0
      ·rw[if_pos hk20]
       obtain⟨d2,hd2⟩:∃ d,mb'=k2+d:=⟨mb' - k2,by lia⟩
       have hJ3':=MH.takeBs sb d2 _ (by rw[<-hd2]; exact hJ3) (fun i h1 h2=>by
        obtain⟨x,_,ex,_⟩:=gb (show i < b.size by lia)
        have:=f2 i x h1 (by lia) (by rw[Y1d]; exact ex)
        simp only[if_true]at this
        exact⟨x,ex,fun q hq=>Y0o (Z1X sa ez2' q hq) this⟩)
       rw[<-hd2,<-Z3m,<-Array.toList_reverse,<-Array.toList_append]at hJ3'
       by_cases he5:k2=1
       ·rw[if_pos (by simpa using he5)]
        exact Z02 ⟨hs3,_,_,_,_,_,_,_,rfl,.inl ⟨_,rfl,firstB hJ3' he5⟩⟩
       rw[if_neg (by simpa using he5),if_neg (by simp; lia)]
       refine Z01 (Z0g ez2 ?_)
       have hJ4:=hJ3'.takeA sa ez2' hz2
       rw[<-Array.toList_push]at hJ4
       by_cases he4:m2=0
       ·rw[if_pos (by simpa using he4)]
        exact Z02 ⟨hs3,_,_,_,_,_,_,_,rfl,.inl ⟨_,rfl,doneA hJ4 he4⟩⟩
       ·rw[if_neg (by simpa using he4)]
        split
        ·exact Z02 ⟨hs3,_,_,_,_,_,_,_,rfl,.inr ⟨rfl,hJ4,by lia,by lia,by lia,by lia,by lia⟩⟩
        ·exact Z02 ⟨hs3,_,_,_,_,_,_,rfl,hJ4,by lia,by lia,by lia,by lia,by lia⟩
      ·rw[if_neg hk20]
       have k20:k2=mb':=by lia
       subst k20
       refine Z01 (Z0g ez2 ?_)
       have hJ4:=hJ3.takeA sa ez2' hz2
       rw[<-Array.toList_push]at hJ4
       by_cases he4:m2=0
       ·rw[if_pos (by simpa using he4)]
        exact Z02 ⟨hs3,_,_,_,_,_,_,_,rfl,.inl ⟨_,rfl,doneA hJ4 he4⟩⟩
       ·rw[if_neg (by simpa using he4)]
        split
        ·exact Z02 ⟨hs3,_,_,_,_,_,_,_,rfl,.inr ⟨rfl,hJ4,by lia,by lia,by lia,by lia,by lia⟩⟩
        ·exact Z02 ⟨hs3,_,_,_,_,_,_,rfl,hJ4,by lia,by lia,by lia,by lia,by lia⟩
     ·rw[if_neg hk0]
      have k0:k=na:=by lia
      subst k0
      have hJ2:=hJ
      obtain⟨na2,hna2⟩:∃ n,n=k:=⟨_,rfl⟩
      rw[<-hna2]at hJ2 hgt ⊢
      refine Z01 (Z0g ey ?_)
      have hJ3:=hJ2.takeB sb ey' hgt
      rw[<-Array.toList_push]at hJ3
      by_cases he3:mb'=1
      ·rw[if_pos (by simpa using he3)]
       exact Z02 ⟨hs3,_,_,_,_,_,_,_,rfl,.inl ⟨_,rfl,firstB hJ3 he3⟩⟩
      rw[if_neg (by simpa using he3)]
      obtain⟨m2,rfl⟩:∃ m,na2=m+1:=⟨na2 - 1,by lia⟩
      simp only[Y1x]
      obtain⟨z2,ez2,ez2',mz2⟩:=ga (show m2 < a.size by lia)
      refine Z01 (Z0g ez2 (Z01 (Z1p S (hs3.1.trans hk) mz2 mb (fun i j x y h1 h2=>Z1U sb (by lia)) (by lia) (by lia) fun k2 hk2 f1 f2=>?_)))
      dsimp only
      have hz2:∀ q∈b.toList.take k2,kv q<=kv z2:=fun q hq=>by
       rw[Y1b]at hq
       obtain⟨i,hi,rfl⟩:=hq
       have:=f1 i _ (by lia) (by rw[Y1d]; exact Y01 (by lia))
       simp only[if_true]at this; lia
      have k21:1<=k2:=by
       rcases Y0j 0 k2 with q | q
       ·exact q
       ·have:=f2 0 b0 (by lia) (by lia) (by rw[Y1d]; exact eb')
        simp only[if_true]at this
        have:=hf z2 (Y0d ez2')
        lia
      by_cases hk20:mb' - k2 > 0
      ·rw[if_pos hk20]
       obtain⟨d2,hd2⟩:∃ d,mb'=k2+d:=⟨mb' - k2,by lia⟩
       have hJ3':=MH.takeBs sb d2 _ (by rw[<-hd2]; exact hJ3) (fun i h1 h2=>by
        obtain⟨x,_,ex,_⟩:=gb (show i < b.size by lia)
        have:=f2 i x h1 (by lia) (by rw[Y1d]; exact ex)
        simp only[if_true]at this
        exact⟨x,ex,fun q hq=>Y0o (Z1X sa ez2' q hq) this⟩)
       rw[<-hd2,<-Z3m,<-Array.toList_reverse,<-Array.toList_append]at hJ3'
       by_cases he5:k2=1
       ·rw[if_pos (by simpa using he5)]
        exact Z02 ⟨hs3,_,_,_,_,_,_,_,rfl,.inl ⟨_,rfl,firstB hJ3' he5⟩⟩
       rw[if_neg (by simpa using he5),if_neg (by simp; lia)]
       refine Z01 (Z0g ez2 ?_)
       have hJ4:=hJ3'.takeA sa ez2' hz2
       rw[<-Array.toList_push]at hJ4
       by_cases he4:m2=0
       ·rw[if_pos (by simpa using he4)]
        exact Z02 ⟨hs3,_,_,_,_,_,_,_,rfl,.inl ⟨_,rfl,doneA hJ4 he4⟩⟩
       ·rw[if_neg (by simpa using he4)]
        split
        ·exact Z02 ⟨hs3,_,_,_,_,_,_,_,rfl,.inr ⟨rfl,hJ4,by lia,by lia,by lia,by lia,by lia⟩⟩
        ·exact Z02 ⟨hs3,_,_,_,_,_,_,rfl,hJ4,by lia,by lia,by lia,by lia,by lia⟩
      ·rw[if_neg hk20]
       have k20:k2=mb':=by lia
       subst k20
       refine Z01 (Z0g ez2 ?_)
       have hJ4:=hJ3.takeA sa ez2' hz2
       rw[<-Array.toList_push]at hJ4
       by_cases he4:m2=0
       ·rw[if_pos (by simpa using he4)]
        exact Z02 ⟨hs3,_,_,_,_,_,_,_,rfl,.inl ⟨_,rfl,doneA hJ4 he4⟩⟩
       ·rw[if_neg (by simpa using he4)]
        split
        ·exact Z02 ⟨hs3,_,_,_,_,_,_,_,rfl,.inr ⟨rfl,hJ4,by lia,by lia,by lia,by lia,by lia⟩⟩
        ·exact Z02 ⟨hs3,_,_,_,_,_,_,rfl,hJ4,by lia,by lia,by lia,by lia,by lia⟩
    ·rw[if_neg hg1]
     rw[Z0N]
     refine Z01 (Z0F ?_)
     refine Z01 (Z0g ey (Z01 (Z1p S (hs2.1.trans hk) my ma (fun i j x y h1 h2=>Z1U sa (by lia)) (by lia) (by lia) fun k hkn f1 f2=>?_)))
     have hs3:=hs2.trans (Z14.gal st2 g)
     revert hs3
     generalize (SortSt.mk' (kindOf st2) (arrOf st2) (pendingOf st2) g (failedOf st2))=st3
     intro hs3
     dsimp only
     have hgt:∀ q∈a.toList.take k,kv q<=kv yb:=fun q hq=>by
      rw[Y1b]at hq
      obtain⟨i,hi,rfl⟩:=hq
      have:=f1 i _ (by lia) (by rw[Y1d]; exact Y01 (by lia))
      simpa using this
     by_cases hk0:na - k > 0
     ·rw[if_pos hk0]
      obtain⟨d,hd⟩:∃ d,na=k+d:=⟨na - k,by lia⟩
      have hJ2:=MH.takeAs sa d _ (by rw[<-hd]; exact hJ) (fun i h1 h2=>by
       obtain⟨x,_,ex,_⟩:=ga (show i < a.size by lia)
       have:=f2 i x h1 (by lia) (by rw[Y1d]; exact ex)
       simp at this
       exact⟨x,ex,fun q hq=>Y0o (Z1X sb ey' q hq) (Y11 this)⟩)
      rw[<-hd,<-Z3m,<-Array.toList_reverse,<-Array.toList_append]at hJ2
      obtain⟨na2,hna2⟩:∃ n,n=k:=⟨_,rfl⟩
      rw[<-hna2]at hJ2 hgt ⊢
      by_cases he1:na2=0
      ·rw[if_pos (by simpa using he1)]
       exact Z02 ⟨hs3,_,_,_,_,_,_,_,rfl,.inl ⟨_,rfl,doneA hJ2 he1⟩⟩
      rw[if_neg (by simpa using he1)]
      refine Z01 (Z0g ey ?_)
      have hJ3:=hJ2.takeB sb ey' hgt
      rw[<-Array.toList_push]at hJ3
      by_cases he3:mb'=1
      ·rw[if_pos (by simpa using he3)]
       exact Z02 ⟨hs3,_,_,_,_,_,_,_,rfl,.inl ⟨_,rfl,firstB hJ3 he3⟩⟩
      rw[if_neg (by simpa using he3)]
      obtain⟨m2,rfl⟩:∃ m,na2=m+1:=⟨na2 - 1,by lia⟩
      simp only[Y1x]
      obtain⟨z2,ez2,ez2',mz2⟩:=ga (show m2 < a.size by lia)
      refine Z01 (Z0g ez2 (Z01 (Z1p S (hs3.1.trans hk) mz2 mb (fun i j x y h1 h2=>Z1U sb (by lia)) (by lia) (by lia) fun k2 hk2 f1 f2=>?_)))
      dsimp only
      have hz2:∀ q∈b.toList.take k2,kv q<=kv z2:=fun q hq=>by
       rw[Y1b]at hq
       obtain⟨i,hi,rfl⟩:=hq
       have:=f1 i _ (by lia) (by rw[Y1d]; exact Y01 (by lia))
       simp only[if_true]at this; lia
      have k21:1<=k2:=by
       rcases Y0j 0 k2 with q | q
       ·exact q
       ·have:=f2 0 b0 (by lia) (by lia) (by rw[Y1d]; exact eb')
        simp only[if_true]at this
        have:=hf z2 (Y0d ez2')
        lia
      by_cases hk20:mb' - k2 > 0
      ·rw[if_pos hk20]
       obtain⟨d2,hd2⟩:∃ d,mb'=k2+d:=⟨mb' - k2,by lia⟩
       have hJ3':=MH.takeBs sb d2 _ (by rw[<-hd2]; exact hJ3) (fun i h1 h2=>by
        obtain⟨x,_,ex,_⟩:=gb (show i < b.size by lia)
        have:=f2 i x h1 (by lia) (by rw[Y1d]; exact ex)
        simp only[if_true]at this
        exact⟨x,ex,fun q hq=>Y0o (Z1X sa ez2' q hq) this⟩)
       rw[<-hd2,<-Z3m,<-Array.toList_reverse,<-Array.toList_append]at hJ3'
       by_cases he5:k2=1
       ·rw[if_pos (by simpa using he5)]
        exact Z02 ⟨hs3,_,_,_,_,_,_,_,rfl,.inl ⟨_,rfl,firstB hJ3' he5⟩⟩
       rw[if_neg (by simpa using he5),if_neg (by simp; lia)]
       refine Z01 (Z0g ez2 ?_)
       have hJ4:=hJ3'.takeA sa ez2' hz2
       rw[<-Array.toList_push]at hJ4
       by_cases he4:m2=0
       ·rw[if_pos (by simpa using he4)]
        exact Z02 ⟨hs3,_,_,_,_,_,_,_,rfl,.inl ⟨_,rfl,doneA hJ4 he4⟩⟩
       ·rw[if_neg (by simpa using he4)]
        split
        ·exact Z02 ⟨hs3,_,_,_,_,_,_,_,rfl,.inr ⟨rfl,hJ4,by lia,by lia,by lia,by lia,by lia⟩⟩
        ·exact Z02 ⟨hs3,_,_,_,_,_,_,rfl,hJ4,by lia,by lia,by lia,by lia,by lia⟩
      ·rw[if_neg hk20]
       have k20:k2=mb':=by lia
       subst k20
       refine Z01 (Z0g ez2 ?_)
       have hJ4:=hJ3.takeA sa ez2' hz2
       rw[<-Array.toList_push]at hJ4
       by_cases he4:m2=0
       ·rw[if_pos (by simpa using he4)]
        exact Z02 ⟨hs3,_,_,_,_,_,_,_,rfl,.inl ⟨_,rfl,doneA hJ4 he4⟩⟩
       ·rw[if_neg (by simpa using he4)]
        split
        ·exact Z02 ⟨hs3,_,_,_,_,_,_,_,rfl,.inr ⟨rfl,hJ4,by lia,by lia,by lia,by lia,by lia⟩⟩
        ·exact Z02 ⟨hs3,_,_,_,_,_,_,rfl,hJ4,by lia,by lia,by lia,by lia,by lia⟩
     ·rw[if_neg hk0]
      have k0:k=na:=by lia
      subst k0
      have hJ2:=hJ
      obtain⟨na2,hna2⟩:∃ n,n=k:=⟨_,rfl⟩
      rw[<-hna2]at hJ2 hgt ⊢
      refine Z01 (Z0g ey ?_)
      have hJ3:=hJ2.takeB sb ey' hgt
      rw[<-Array.toList_push]at hJ3
      by_cases he3:mb'=1
      ·rw[if_pos (by simpa using he3)]
       exact Z02 ⟨hs3,_,_,_,_,_,_,_,rfl,.inl ⟨_,rfl,firstB hJ3 he3⟩⟩
      rw[if_neg (by simpa using he3)]
      obtain⟨m2,rfl⟩:∃ m,na2=m+1:=⟨na2 - 1,by lia⟩
      simp only[Y1x]
      obtain⟨z2,ez2,ez2',mz2⟩:=ga (show m2 < a.size by lia)
      refine Z01 (Z0g ez2 (Z01 (Z1p S (hs3.1.trans hk) mz2 mb (fun i j x y h1 h2=>Z1U sb (by lia)) (by lia) (by lia) fun k2 hk2 f1 f2=>?_)))
      dsimp only
      have hz2:∀ q∈b.toList.take k2,kv q<=kv z2:=fun q hq=>by
       rw[Y1b]at hq
       obtain⟨i,hi,rfl⟩:=hq
       have:=f1 i _ (by lia) (by rw[Y1d]; exact Y01 (by lia))
       simp only[if_true]at this; lia
      have k21:1<=k2:=by
       rcases Y0j 0 k2 with q | q
       ·exact q
       ·have:=f2 0 b0 (by lia) (by lia) (by rw[Y1d]; exact eb')
        simp only[if_true]at this
        have:=hf z2 (Y0d ez2')
        lia
      by_cases hk20:mb' - k2 > 0
      ·rw[if_pos hk20]
       obtain⟨d2,hd2⟩:∃ d,mb'=k2+d:=⟨mb' - k2,by lia⟩
       have hJ3':=MH.takeBs sb d2 _ (by rw[<-hd2]; exact hJ3) (fun i h1 h2=>by
        obtain⟨x,_,ex,_⟩:=gb (show i < b.size by lia)
        have:=f2 i x h1 (by lia) (by rw[Y1d]; exact ex)
        simp only[if_true]at this
        exact⟨x,ex,fun q hq=>Y0o (Z1X sa ez2' q hq) this⟩)
       rw[<-hd2,<-Z3m,<-Array.toList_reverse,<-Array.toList_append]at hJ3'
       by_cases he5:k2=1
       ·rw[if_pos (by simpa using he5)]
        exact Z02 ⟨hs3,_,_,_,_,_,_,_,rfl,.inl ⟨_,rfl,firstB hJ3' he5⟩⟩
       rw[if_neg (by simpa using he5),if_neg (by simp; lia)]
       refine Z01 (Z0g ez2 ?_)
       have hJ4:=hJ3'.takeA sa ez2' hz2
       rw[<-Array.toList_push]at hJ4
       by_cases he4:m2=0
       ·rw[if_pos (by simpa using he4)]
        exact Z02 ⟨hs3,_,_,_,_,_,_,_,rfl,.inl ⟨_,rfl,doneA hJ4 he4⟩⟩
       ·rw[if_neg (by simpa using he4)]
        split
        ·exact Z02 ⟨hs3,_,_,_,_,_,_,_,rfl,.inr ⟨rfl,hJ4,by lia,by lia,by lia,by lia,by lia⟩⟩
        ·exact Z02 ⟨hs3,_,_,_,_,_,_,rfl,hJ4,by lia,by lia,by lia,by lia,by lia⟩
      ·rw[if_neg hk20]
       have k20:k2=mb':=by lia
       subst k20
       refine Z01 (Z0g ez2 ?_)
       have hJ4:=hJ3.takeA sa ez2' hz2
       rw[<-Array.toList_push]at hJ4
       by_cases he4:m2=0
       ·rw[if_pos (by simpa using he4)]
        exact Z02 ⟨hs3,_,_,_,_,_,_,_,rfl,.inl ⟨_,rfl,doneA hJ4 he4⟩⟩
       ·rw[if_neg (by simpa using he4)]
        split
        ·exact Z02 ⟨hs3,_,_,_,_,_,_,_,rfl,.inr ⟨rfl,hJ4,by lia,by lia,by lia,by lia,by lia⟩⟩
        ·exact Z02 ⟨hs3,_,_,_,_,_,_,rfl,hJ4,by lia,by lia,by lia,by lia,by lia⟩
end
abbrev seg (L:List Keyed)(s n:Nat):List Keyed:=(L.drop s).take n
theorem Z29 (L:List Keyed)(s:Nat){n i:Nat}(h:i < n):(seg L s n)[i]?=L[s+i]?:=by
 unfold seg; rw[List.getElem?_take,if_pos h,Y1c]
theorem Z3o {L:List Keyed}{s n:Nat}{x:Keyed}(h:x∈seg L s n):∃ i,i < n/\L[s+i]?=some x:=by
 obtain⟨i,e⟩:=Y1r.mp h
 have hi:=(Y04.mp e).1
 unfold seg at hi
 rw[Y0x]at hi
 have:i < n:=by lia
 exact⟨i,this,by rw[<-Z29 L s this]; exact e⟩
theorem Z8P {L:List Keyed}{s n:Nat}{x:Keyed}(h:x∈seg L s n):x∈L:=List.mem_of_mem_drop (List.mem_of_mem_take h)
theorem Z50 (L:List Keyed)(s n:Nat)(h:s+n<=L.length):(seg L s n).length=n:=by
 unfold seg; rw[Y0x,List.length_drop]; lia
theorem Z2O (L:List Keyed)(s m n:Nat):seg L s (m+n)=seg L s m++seg L (s+m) n:=by
 unfold seg; rw[List.take_add,List.drop_drop]
theorem cut3 (L:List Keyed)(s n:Nat):L=L.take s++seg L s n++L.drop (s+n):=by
 unfold seg
 rw[Y0l,<-List.drop_drop,Y1q,Y1q]
theorem Z8W (a:Array Keyed)(s e:Nat):(a.extract s e).toList=seg a.toList s (e - s):=by
 rw[Array.toList_extract]
theorem Z6U {kv:Keyed->Nat}{L:List Keyed}{s n:Nat}(h:Sd kv (seg L s n)){i j:Nat}{x y:Keyed}(hij:i<=j)(hj:j < n)(ex:L[s+i]?=some x)(ey:L[s+j]?=some y):kv x<=kv y:=
 Z1U h hij (by rw[Z29 L s (by lia)]; exact ex) (by rw[Z29 L s hj]; exact ey)
theorem Z8G (o:Nat):∀ (M:List Keyed) (j:Nat) (arr:Array Keyed),o+j+M.length<=arr.size->((M.zipIdx j).foldl (fun a (p:Keyed×Nat)=>a.setIfInBounds (o+p.2) p.1) arr).toList=arr.toList.take (o+j)++M++arr.toList.drop (o+j+M.length)
 | [],j,arr,_=>by simp
 | x :: M,j,arr,h=>by
  have h:o+j+(M.length+1)<=arr.size:=h
  rw[List.zipIdx_cons,List.foldl_cons,Z8G o M (j+1) (arr.setIfInBounds (o+j) x) (by rw[Array.size_setIfInBounds]; lia)]
  rw[Array.toList_setIfInBounds]
  have hl:o+j < arr.toList.length:=by rw[Array.length_toList]; lia
  have e1:(arr.toList.set (o+j) x).take (o+(j+1))=arr.toList.take (o+j)++[x]:=by
   rw[<-Y1o,Y1i,Y22 hl,List.take_set,List.set_eq_of_length_le (by rw[Y0x]; lia)]; rfl
  have e2:(arr.toList.set (o+j) x).drop (o+(j+1)+M.length)=arr.toList.drop (o+j+(M.length+1)):=by
   rw[List.drop_set_of_lt (by lia)]
   congr 1; lia
  rw[e1,e2]
  simp
theorem Z6P (i:Nat):mergeAt' i=(do
 let s <-get
 let (some (sa,na,power),some (sb,nb,_)):=((pendingOf s)[i]?,(pendingOf s)[i+1]?) | unsupported "internal:list.sort.pending"
 set (setPending s (((pendingOf s).setIfInBounds i (sa,na+nb,power)).eraseIdxIfInBounds (i+1)))
 let some k <-Z2h false (<-elem' (arrOf s) sb) (arrOf s) sa na 0 | return false
 let (sa,na):=(sa+k,na - k)
 if na == 0 then return true
 let some nb <-Z2h true (<-elem' (arrOf s) (sa+na - 1)) (arrOf s) sb nb (nb - 1) | return false
 if nb == 0 then return true
 let x:=(arrOf s).extract sa sb
 let y:=(arrOf s).extract sb (sb+nb)
 let merged <-if na<=nb then Z5a x y else Z5g x y
 modify fun s=>setArr s (merged.toList.zipIdx.foldl (fun a (p,j)=>a.setIfInBounds (sa+j) p) (arrOf s))
 return (failedOf (<-get)).isNone):=rfl
section
variable {prog:Program}{w:World}{A:Around}{E:Value->Shared->Prop}{s:Shared}{κ:SortKind}{it:List Keyed}{kv:Keyed->Nat}
theorem Z6l {i sa na nb pw pw':Nat}{Q:Bool->SortSt->Prop}{st:SortSt}(S:SCx prog w A s κ it kv)(hst:SSt κ it st)(h1:(pendingOf st)[i]?=some (sa,na,pw))(h2:(pendingOf st)[i+1]?=some (sa+na,nb,pw'))(na1:1<=na)(nb1:1<=nb)(hz:sa+na+nb<=(arrOf st).toList.length)
  (sX:Sd kv (seg (arrOf st).toList sa na)) (sY:Sd kv (seg (arrOf st).toList (sa+na) nb))
  (h:∀ st' Z,SSt κ it st'->pendingOf st'=((pendingOf st).setIfInBounds i (sa,na+nb,pw)).eraseIdxIfInBounds (i+1)->(arrOf st').toList=(arrOf st).toList.take sa++Z++(arrOf st).toList.drop (sa+na+nb)->Z.length=na+nb->Sd kv Z->Q true st'):wpT prog w A E s (mergeAt' i) Q st:=by
 rw[Z6P]
 refine Z01 (Z1R ?_)
 rw[h1,h2]
 dsimp only
 refine Z01 (Zbt ?_)
 obtain⟨L,hL⟩:∃ L,L=(arrOf st).toList:=⟨_,rfl⟩
 rw[<-hL]at hz sX sY h
 have hsz:(arrOf st).size=L.length:=by rw[hL,Array.length_toList]
 have mem:∀ x∈(arrOf st).toList,x∈it:=fun x hx=>hst.perm.mem_iff.mp hx
 have hk0:kindOf (setPending st (((pendingOf st).setIfInBounds i (sa,na+nb,pw)).eraseIdxIfInBounds (i+1)))=κ:=hst.kind
 have hst1:SSt κ it (setPending st (((pendingOf st).setIfInBounds i (sa,na+nb,pw)).eraseIdxIfInBounds (i+1))):=⟨hst.kind,hst.failed,hst.perm⟩
 have hp1:pendingOf (setPending st (((pendingOf st).setIfInBounds i (sa,na+nb,pw)).eraseIdxIfInBounds (i+1)))=((pendingOf st).setIfInBounds i (sa,na+nb,pw)).eraseIdxIfInBounds (i+1):=rfl
 have ha1:(arrOf (setPending st (((pendingOf st).setIfInBounds i (sa,na+nb,pw)).eraseIdxIfInBounds (i+1)))).toList=L:=hL.symm
 revert hk0 hst1 hp1 ha1
 generalize (setPending st (((pendingOf st).setIfInBounds i (sa,na+nb,pw)).eraseIdxIfInBounds (i+1)))=st1
 intro hk0 hst1 hp1 ha1
 obtain⟨b0,eb0,eb0',mb0⟩:=Z3f (arrOf st) mem (show sa+na < (arrOf st).size by lia)
 rw[<-hL]at eb0'
 refine Z01 (Z0g eb0 (Z01 (Z1p S hk0 mb0 mem (fun i j x y q1 q2 e1 e2=>Z6U sX q1 q2 (by rw[hL]; exact e1) (by rw[hL]; exact e2)) (by lia) (by lia) fun k hkn f1 f2=>?_)))
 rw[<-hL]at f1 f2
 dsimp only
 have whole:seg L sa (na+nb)=seg L sa na++seg L (sa+na) nb:=Z2O L sa na nb
 have keep:Sd kv (seg L sa (na+nb))->Q true st1:=fun hs=>h st1 (seg L sa (na+nb)) hst1 hp1 (by rw[ha1]; have:=cut3 L sa (na+nb); rw[<-Y1o]at this; exact this) (Z50 L sa _ (by lia)) hs
 have lowX:∀ x∈seg L sa k,∀ y∈seg L (sa+na) nb,kv x<=kv y:=fun x hx y hy=>by
  obtain⟨i1,q1,e1⟩:=Z3o hx
  obtain⟨i2,q2,e2⟩:=Z3o hy
  have t1:=f1 i1 x q1 e1
  have t2:=Z6U sY (Y0s i2) q2 (by rw[Nat.add_zero]; exact eb0') e2
  simp at t1
  lia
 by_cases hka:na - k=0
 ·rw[if_pos (by simpa using hka)]
  refine Z02 (keep ?_)
  rw[whole]
  have ek:k=na:=by lia
  rw[ek]at lowX
  exact Y0h.mpr ⟨sX,sY,lowX⟩
 rw[if_neg (by simpa using hka)]
 have eidx:sa+k+(na - k) - 1=sa+(na - 1):=by lia
 rw[eidx]
 obtain⟨al,eal,eal',mal⟩:=Z3f (arrOf st) mem (show sa+(na - 1) < (arrOf st).size by lia)
 rw[<-hL]at eal'
 refine Z01 (Z0g eal (Z01 (Z1p S hk0 mal mem (fun i j x y q1 q2 e1 e2=>Z6U sY q1 q2 (by rw[hL]; exact e1) (by rw[hL]; exact e2)) (by lia) (by lia) fun m hmn g1 g2=>?_)))
 rw[<-hL]at g1 g2
 dsimp only
 have highY:∀ x∈seg L sa na,∀ y∈seg L (sa+na+m) (nb - m),kv x<=kv y:=fun x hx y hy=>by
  obtain⟨i1,q1,e1⟩:=Z3o hx
  obtain⟨i2,q2,e2⟩:=Z3o hy
  have t1:=Z6U sX (show i1<=na - 1 by lia) (by lia) e1 eal'
  rw[Y1o]at e2
  have t2:=g2 (m+i2) y (by lia) (by lia) e2
  simp at t2
  lia
 by_cases hmb:m=0
 ·rw[if_pos (by simpa using hmb)]
  refine Z02 (keep ?_)
  rw[whole]
  subst hmb
  rw[Nat.add_zero,Nat.sub_zero]at highY
  exact Y0h.mpr ⟨sX,sY,highY⟩
 rw[if_neg (by simpa using hmb)]
 have sX2:=sX
 rw[show na=k+(na - k) by lia,Z2O]at sX2
 have sY2:=sY
 rw[show nb=m+(nb - m) by lia,Z2O]at sY2
 obtain⟨sXa,sXb,sXc⟩:=Y0h.mp sX2
 obtain⟨sYa,sYb,sYc⟩:=Y0h.mp sY2
 have ex:((arrOf st).extract (sa+k) (sa+na)).toList=seg L (sa+k) (na - k):=by rw[Z8W,<-hL]; congr 1; lia
 have ey:((arrOf st).extract (sa+na) (sa+na+m)).toList=seg L (sa+na) m:=by rw[Z8W,<-hL]; congr 1; lia
 revert ex ey
 generalize ((arrOf st).extract (sa+k) (sa+na))=X
 generalize ((arrOf st).extract (sa+na) (sa+na+m))=Y
 intro ex ey
 have hXz:X.size=na - k:=by rw[<-Array.length_toList,ex,Z50 _ _ _ (by lia)]
 have hYz:Y.size=m:=by rw[<-Array.length_toList,ey,Z50 _ _ _ (by lia)]
 have mX:∀ x∈X.toList,x∈it:=fun x hx=>mem x (by rw[<-hL]; rw[ex]at hx; exact Z8P hx)
 have mY:∀ x∈Y.toList,x∈it:=fun x hx=>mem x (by rw[<-hL]; rw[ey]at hx; exact Z8P hx)
 have eY0:Y[0]?=some b0:=by rw[<-Array.getElem?_toList,ey,Z29 L (sa+na) (by lia),Nat.add_zero]; exact eb0'
 have eXl:X[X.size - 1]?=some al:=by rw[<-Array.getElem?_toList,ex,hXz,Z29 L (sa+k) (by lia),show sa+k+(na - k - 1)=sa+(na - 1) by lia]; exact eal'
 have hf:∀ x∈X.toList,kv b0 < kv x:=fun x hx=>by
  rw[ex]at hx
  obtain⟨i1,q1,e1⟩:=Z3o hx
  rw[Y1o]at e1
  have:=f2 (k+i1) x (by lia) (by lia) e1
  simpa using this
 have hl:∀ y∈Y.toList,kv y < kv al:=fun y hy=>by
  rw[ey]at hy
  obtain⟨i1,q1,e1⟩:=Z3o hy
  have:=g1 i1 y q1 e1
  simpa using this
 have fin:∀ (out:Array Keyed) (st2:SortSt),Z14 st1 st2->out.toList.Perm (X.toList++Y.toList)->Sd kv out.toList->wpT prog w A E s (do
   modify fun s=>setArr s (out.toList.zipIdx.foldl (fun a (p:Keyed×Nat)=>a.setIfInBounds (sa+k+p.2) p.1) (arrOf s))
   return (failedOf (<-get)).isNone) Q st2:=fun out st2 hs2 hp hs=>by
  refine Z01 (Z0F (Z01 (Z1R (Z02 ?_))))
  show Q (failedOf st2).isNone _
  rw[hs2.2.2.2,hst1.failed]
  have hol:out.toList.length=na - k+m:=by rw[hp.length_eq,Y0e,Array.length_toList,Array.length_toList,hXz,hYz]
  have e2:(arrOf st2).toList=L:=by rw[hs2.2.1]; exact ha1
  have ez:(out.toList.zipIdx.foldl (fun a (p:Keyed×Nat)=>a.setIfInBounds (sa+k+p.2) p.1) (arrOf st2)).toList=L.take (sa+k)++out.toList++L.drop (sa+k+out.toList.length):=by
   have:=Z8G (sa+k) out.toList 0 (arrOf st2) (by rw[<-Array.length_toList,e2]; lia)
   rw[Nat.add_zero,e2]at this
   exact this
  have ez2:L.take (sa+k)++out.toList++L.drop (sa+k+out.toList.length)=L.take sa++(seg L sa k++out.toList++seg L (sa+na+m) (nb - m))++L.drop (sa+na+nb):=by
   have q1:L.take (sa+k)=L.take sa++seg L sa k:=by rw[List.take_add]
   have q2:L.drop (sa+k+out.toList.length)=seg L (sa+na+m) (nb - m)++L.drop (sa+na+nb):=by
    rw[hol,show sa+k+(na - k+m)=sa+na+m by lia]
    have:=Y1q (nb - m) (L.drop (sa+na+m))
    rw[List.drop_drop,show sa+na+m+(nb - m)=sa+na+nb by lia]at this
    exact this.symm
   rw[q1,q2]; simp
  have hperm:(seg L sa k++out.toList++seg L (sa+na+m) (nb - m)).Perm (seg L sa (na+nb)):=by
   rw[whole]
   have w1:seg L sa na=seg L sa k++seg L (sa+k) (na - k):=by rw[<-Z2O]; congr 1; lia
   have w2:seg L (sa+na) nb=seg L (sa+na) m++seg L (sa+na+m) (nb - m):=by rw[<-Z2O]; congr 1; lia
   rw[w1,w2]
   rw[ex,ey]at hp
   have:=(List.Perm.append_left (seg L sa k) hp).append_right (seg L (sa+na+m) (nb - m))
   simpa using this
  refine h _ (seg L sa k++out.toList++seg L (sa+na+m) (nb - m)) ⟨hs2.1.trans hst1.kind,hs2.2.2.2.trans hst1.failed,?_⟩ (hs2.2.2.1.trans hp1) (ez.trans ez2) ?_ ?_
  ·show (out.toList.zipIdx.foldl (fun a (p:Keyed×Nat)=>a.setIfInBounds (sa+k+p.2) p.1) (arrOf st2)).toList.Perm it
   rw[ez,ez2]
   refine List.Perm.trans ?_ hst.perm
   rw[<-hL]
   have c:=cut3 L sa (na+nb)
   rw[<-Y1o]at c
   refine List.Perm.trans ?_ (List.Perm.of_eq c.symm)
   exact (List.Perm.append_left _ hperm).append_right _
  ·rw[hperm.length_eq,Z50 L sa _ (by lia)]
  ·have inO:∀ z∈out.toList,z∈seg L (sa+k) (na - k)\/z∈seg L (sa+na) m:=fun z hz=>by
    have:=hp.mem_iff.mp hz
    rw[ex,ey]at this
    exact Y0b.mp this
   have inY:∀ z,z∈seg L (sa+na) m\/z∈seg L (sa+na+m) (nb - m)->z∈seg L (sa+na) nb:=fun z hz=>by
    rw[show nb=m+(nb - m) by lia,Z2O]
    exact Y0b.mpr hz
   have inX:∀ z,z∈seg L (sa+k) (na - k)->z∈seg L sa na:=fun z hz=>by
    rw[show na=k+(na - k) by lia,Z2O]
    exact Y09 _ hz
   refine Y0h.mpr ⟨Y0h.mpr ⟨sXa,hs,fun x hx z hz=>?_⟩,sYb,fun x hx y hy=>?_⟩
   ·rcases inO z hz with q | q
    ·exact sXc x hx z q
    ·exact lowX x hx z (inY z (.inl q))
   ·rcases Y0b.mp hx with hx | hx
    ·exact lowX x hx y (inY y (.inr hy))
    ·rcases inO x hx with q | q
     ·exact highY x (inX x q) y hy
     ·exact sYc x q y hy
 split
 ·refine Z01 ?_
  exact Z6G S hk0 mX mY (by rw[ex]; exact sXb) (by rw[ey]; exact sYa) eY0 eXl (fun x hx=>Y11 (hf x hx)) hl fun out st2 a1 a2 a3=>fin out st2 a1 a2 a3
 ·refine Z01 ?_
  exact Z6w S hk0 mX mY (by rw[ex]; exact sXb) (by rw[ey]; exact sYa) eY0 eXl hf (fun y hy=>Y11 (hl y hy)) fun out st2 a1 a2 a3=>fin out st2 a1 a2 a3
end
def kvA (kv:Keyed->Nat)(xs:Array Keyed)(i:Nat):Nat:=match xs[i]? with | some p=>kv p | none=>0
section
variable {kv:Keyed->Nat}{xs ys:Array Keyed}
theorem Z2q {i j:Nat}(h:xs[i]?=ys[j]?):kvA kv xs i=kvA kv ys j:=by unfold kvA; rw[h]
theorem Z3Q {i:Nat}{x:Keyed}(h:xs[i]?=some x):kvA kv xs i=kv x:=by unfold kvA; rw[h]
theorem Z19 {i j:Nat}(hj:j<=xs.size)(k:Nat):kvA kv (mirror xs i j ((j - i) / 2)) k=if i<=k/\k < j then kvA kv xs (i+j - 1 - k) else kvA kv xs k:=by
 have e:=getElem?_mirror_all (i:=i) hj k
 by_cases h1:i<=k/\k < j
 ·rw[if_pos h1]at e ⊢; exact Z2q e
 ·rw[if_neg h1]at e ⊢; exact Z2q e
theorem Z0D {i j:Nat}(hj:j<=xs.size)(heq:∀ k,i<=k->k < j->kvA kv xs k=kvA kv xs (j - 1))(k:Nat):kvA kv (mirror xs i j ((j - i) / 2)) k=kvA kv xs k:=by
 rw[Z19 hj]
 split
 ·rw[heq _ (by lia) (by lia),heq k (by lia) (by lia)]
 ·rfl
theorem Z4P {src d:Nat}(hs:src < xs.size)(hd:d<=src)(k:Nat):kvA kv (bubble xs src d) k=if k=src - d then kvA kv xs src else if src - d < k/\k<=src then kvA kv xs (k - 1) else kvA kv xs k:=by
 have e:=getElem?_bubble hs d hd k
 by_cases h1:k=src - d
 ·rw[if_pos h1]at e ⊢; exact Z2q e
 ·rw[if_neg h1]at e ⊢
  by_cases h2:src - d < k/\k<=src
  ·rw[if_pos h2]at e ⊢; exact Z2q e
  ·rw[if_neg h2]at e ⊢; exact Z2q e
abbrev UpA (kv:Keyed->Nat)(lo:Nat)(xs:Array Keyed)(k:Nat):Prop:=∀ i j,i<=j->j < k->kvA kv xs (lo+i)<=kvA kv xs (lo+j)
abbrev DnA (kv:Keyed->Nat)(lo:Nat)(xs:Array Keyed)(k:Nat):Prop:=∀ i j,i<=j->j < k->kvA kv xs (lo+j)<=kvA kv xs (lo+i)
theorem Zdw {lo m:Nat}(h:UpA kv lo xs m):Sd kv (seg xs.toList lo m):=by
 refine Y1v.mpr fun i j hi hj hij=>?_
 have li:i < m:=by unfold seg at hi; rw[Y0x]at hi; lia
 have lj:j < m:=by unfold seg at hj; rw[Y0x]at hj; lia
 have ei:xs[lo+i]?=some (seg xs.toList lo m)[i]:=by rw[<-Array.getElem?_toList,<-Z29 xs.toList lo li]; exact Y01 hi
 have ej:xs[lo+j]?=some (seg xs.toList lo m)[j]:=by rw[<-Array.getElem?_toList,<-Z29 xs.toList lo lj]; exact Y01 hj
 have:=h i j (by lia) lj
 rw[Z3Q ei,Z3Q ej]at this
 exact this
end
section
variable {prog:Program}{w:World}{A:Around}{E:Value->Shared->Prop}{s:Shared}{κ:SortKind}{it:List Keyed}{kv:Keyed->Nat}
structure Kp (κ:SortKind)(it:List Keyed)(lo:Nat)(st st':SortSt):Prop where
 ok:SSt κ it st'
 pend:pendingOf st'=pendingOf st
 low:∀ t,t < lo->(arrOf st')[t]?=(arrOf st)[t]?
theorem SSt.size {st:SortSt}(h:SSt κ it st):(arrOf st).size=it.length:=by rw[<-Array.length_toList]; exact h.perm.length_eq
theorem Z1K {st:SortSt}{i j:Nat}{Q:Option Bool->SortSt->Prop}(S:SCx prog w A s κ it kv)(hst:SSt κ it st)(hi:i < it.length)(hj:j < it.length)(h:Q (some (decide (kvA kv (arrOf st) i < kvA kv (arrOf st) j))) st):wpT prog w A E s (ltAt' i j) Q st:=by
 have mem:∀ x∈(arrOf st).toList,x∈it:=fun x hx=>hst.perm.mem_iff.mp hx
 obtain⟨x,ex,_,mx⟩:=Z3f (arrOf st) mem (show i < (arrOf st).size by rw[hst.size]; exact hi)
 obtain⟨y,ey,_,my⟩:=Z3f (arrOf st) mem (show j < (arrOf st).size by rw[hst.size]; exact hj)
 rw[ltAt'_eq]
 refine Z01 (Z1R ?_)
 show wpT prog w A E s (do let x <-elem' (arrOf st) i; let y <-elem' (arrOf st) j; lt' x y) Q st
 refine Z01 (Z0g ex (Z01 (Z0g ey (Z62 S hst.kind mx my ?_))))
 rw[Z3Q ex,Z3Q ey]at h
 exact h
theorem Z2e {st:SortSt}{i j:Nat}{Q:Unit->SortSt->Prop}(h:Q () (setArr st (mirror (arrOf st) i j ((j - i) / 2)))):wpT prog w A E s (reverseSlice' i j) Q st:=by
 rw[reverseSlice'_eq]; exact Z0F h
theorem Kp.refl {lo:Nat}{st:SortSt}(h:SSt κ it st):Kp κ it lo st st:=⟨h,rfl,fun _ _=>rfl⟩
theorem Kp.rev {lo i j:Nat}{st st':SortSt}(h:Kp κ it lo st st')(hi:lo<=i)(hj:j<=(arrOf st').size):Kp κ it lo st (setArr st' (mirror (arrOf st') i j ((j - i) / 2))):=
 ⟨⟨h.ok.kind,h.ok.failed,(Array.perm_iff_toList_perm.mp (mirror_perm _ _ _ _)).trans h.ok.perm⟩,h.pend,fun t ht=>by
  show (mirror (arrOf st') i j ((j - i) / 2))[t]?=_
  rw[getElem?_mirror_all hj,if_neg (by lia)]; exact h.low t ht⟩
theorem Z6g {st:SortSt}{lo nrem:Nat}{Q:Option Nat->SortSt->Prop}(S:SCx prog w A s κ it kv)(hst:SSt κ it st)(hn:lo+nrem<=it.length)(h1:1<=nrem)
  (h:∀ m st',Kp κ it lo st st'->1<=m->m<=nrem->UpA kv lo (arrOf st') m->Q (some m) st'):wpT prog w A E s (countRun' lo nrem) Q st:=by
 rw[countRun'_eq]
 refine Z01 (Z0B (Z0n (I:=fun x c st'=>st=st'/\c=(none,x)/\UpA kv lo (arrOf st) x) (Q:=fun c st'=>st=st'/\∃ n,c=(none,n)/\1<=n/\n<=nrem/\UpA kv lo (arrOf st) n/\(n=nrem\/kvA kv (arrOf st) (lo+n) < kvA kv (arrOf st) (lo+n - 1))) ?step ?fin ⟨rfl,rfl,fun i j hij hj=>by have:i=j:=(by lia); subst this; exact Y03 _⟩) ?post)
 case step=>
  rintro x c st' hax hxn ⟨rfl,rfl,hs'⟩
  dsimp only
  refine Z01 (Z1K S hst (by lia) (by lia) ?_)
  by_cases hl:kvA kv (arrOf st) (lo+x) < kvA kv (arrOf st) (lo+x - 1)
  ·rw[decide_eq_true hl]
   simp only[if_true]
   exact Z02 ⟨rfl,x,rfl,hax,by lia,hs',.inr hl⟩
  ·rw[decide_eq_false hl]
   simp only[Bool.false_eq_true,if_false]
   refine Z02 ⟨rfl,rfl,fun i j hij hj=>?_⟩
   by_cases hjx:j < x
   ·exact hs' i j hij hjx
   ·have hj':j=x:=by lia
    subst hj'
    by_cases hi':i=j
    ·subst hi'; exact Y03 _
    ·have:=hs' i (j - 1) (by lia) (by lia)
     rw[show lo+(j - 1)=lo+j - 1 by lia]at this
     lia
 case fin=>
  rintro c st' ⟨rfl,rfl,hs'⟩
  rw[show max 1 nrem=nrem by lia]at hs' ⊢
  exact⟨rfl,nrem,rfl,h1,Y03 _,hs',.inl rfl⟩
 case post=>
  rintro c st' ⟨rfl,n,rfl,n1,n2,hsn,hor⟩
  dsimp only
  by_cases hnn:n=nrem
  ·rw[if_pos (by simpa using hnn)]
   exact Z02 (h n st (Kp.refl hst) n1 n2 hsn)
  rw[if_neg (by simpa using hnn)]
  have hlt:=hor.resolve_left hnn
  have hsz:=hst.size
  by_cases hgt:n > 1
  ·rw[if_pos hgt]
   refine Z01 (Z1K S hst (by lia) (by lia) ?_)
   by_cases hr:kvA kv (arrOf st) lo < kvA kv (arrOf st) (lo+n - 1)
   ·rw[decide_eq_true hr]
    simp only[if_true]
    exact Z02 (h n st (Kp.refl hst) n1 n2 hsn)
   ·rw[decide_eq_false hr]
    simp only[Bool.false_eq_true,if_false]
    have hall:∀ k,lo<=k->k < lo+n->kvA kv (arrOf st) k=kvA kv (arrOf st) (lo+n - 1):=fun k q1 q2=>by
     have a1:=hsn 0 (k - lo) (by lia) (by lia)
     have a2:=hsn (k - lo) (n - 1) (by lia) (by lia)
     rw[show lo+(k - lo)=k by lia]at a1 a2
     rw[show lo+(n - 1)=lo+n - 1 by lia]at a2
     rw[Nat.add_zero]at a1
     lia
    refine Z01 (Z2e ?_)
    have hKp:=(Kp.refl (lo:=lo) hst).rev (i:=lo) (j:=lo+n) (Y03 _) (by lia)
    have hDn:DnA kv lo (mirror (arrOf st) lo (lo+n) ((lo+n - lo) / 2)) (n+1):=fun i j hij hj=>by
     rw[Z0D (by lia) hall,Z0D (by lia) hall]
     by_cases hjn:j < n
     ·rw[hall (lo+i) (by lia) (by lia),hall (lo+j) (by lia) (by lia)]; exact Y03 _
     ·have hj':j=n:=by lia
      subst hj'
      by_cases hi':i=j
      ·subst hi'; exact Y03 _
      ·rw[hall (lo+i) (by lia) (by lia)]; lia
    revert hKp hDn
    generalize he:(setArr st (mirror (arrOf st) lo (lo+n) ((lo+n - lo) / 2)))=st1
    have he2:mirror (arrOf st) lo (lo+n) ((lo+n - lo) / 2)=arrOf st1:=by rw[<-he]
    rw[he2]
    intro hKp hDn
    clear he he2
    refine Z01 (Z2c ?_)
    refine Z01 (Z0B (Z0n (I:=fun x c st'=>∃ neq,c=(none,x,neq)/\Kp κ it lo st st'/\DnA kv lo (arrOf st') x/\neq+1<=x/\(∀ i,lo+x - (neq+1)<=i->i < lo+x->kvA kv (arrOf st') i=kvA kv (arrOf st') (lo+x - 1)))
     (Q:=fun c st'=>∃ m neq,c=(none,m,neq)/\Kp κ it lo st st'/\n+1<=m/\m<=nrem/\DnA kv lo (arrOf st') m/\neq+1<=m/\(∀ i,lo+m - (neq+1)<=i->i < lo+m->kvA kv (arrOf st') i=kvA kv (arrOf st') (lo+m - 1))) ?stepM ?finM ⟨0,rfl,hKp,hDn,by lia,fun i q1 q2=>by congr 1; lia⟩) ?postM)
    case stepM=>
     rintro x c st' hax hxn ⟨neq,rfl,hB',hs',hq,he⟩
     dsimp only
     have hsz':=hB'.ok.size
     refine Z01 (Z1K S hB'.ok (by lia) (by lia) ?_)
     by_cases hl:kvA kv (arrOf st') (lo+x) < kvA kv (arrOf st') (lo+x - 1)
     ·rw[decide_eq_true hl]
      simp only[if_true]
      have step1:∀ xs:Array Keyed,(∀ k,kvA kv xs k=kvA kv (arrOf st') k)->DnA kv lo xs (x+1):=fun xs hk i j hij hj=>by
       rw[hk,hk]
       by_cases hjx:j < x
       ·exact hs' i j hij hjx
       ·have hj':j=x:=by lia
        subst hj'
        by_cases hi':i=j
        ·subst hi'; exact Y03 _
        ·have:=hs' i (j - 1) (by lia) (by lia)
         rw[show lo+(j - 1)=lo+j - 1 by lia]at this
         lia
      by_cases hneq:neq > 0
      ·rw[if_pos hneq]
       exact Z01 (Z2e (Z02 ⟨0,rfl,hB'.rev (by lia) (by lia),step1 _ (Z0D (by lia) he),by lia,fun i q1 q2=>by congr 1; lia⟩))
      ·rw[if_neg hneq]
       exact Z02 ⟨0,rfl,hB',step1 _ (fun _=>rfl),by lia,fun i q1 q2=>by congr 1; lia⟩
     ·rw[decide_eq_false hl]
      simp only[Bool.false_eq_true,if_false]
      refine Z01 (Z1K S hB'.ok (by lia) (by lia) ?_)
      by_cases hg:kvA kv (arrOf st') (lo+x - 1) < kvA kv (arrOf st') (lo+x)
      ·rw[decide_eq_true hg]
       simp only[if_true]
       exact Z02 ⟨x,neq,rfl,hB',by lia,by lia,hs',hq,he⟩
      ·rw[decide_eq_false hg]
       simp only[Bool.false_eq_true,if_false]
       have heqx:kvA kv (arrOf st') (lo+x)=kvA kv (arrOf st') (lo+x - 1):=by lia
       refine Z02 ⟨neq+1,rfl,hB',fun i j hij hj=>?_,by lia,fun i q1 q2=>?_⟩
       ·by_cases hjx:j < x
        ·exact hs' i j hij hjx
        ·have hj':j=x:=by lia
         subst hj'
         by_cases hi':i=j
         ·subst hi'; exact Y03 _
         ·have:=hs' i (j - 1) (by lia) (by lia)
          rw[show lo+(j - 1)=lo+j - 1 by lia]at this
          lia
       ·rw[show lo+(x+1) - 1=lo+x by lia]
        by_cases hix:i=lo+x
        ·subst hix; rfl
        ·rw[heqx]; exact he i (by lia) (by lia)
    case finM=>
     rintro c st' ⟨neq,rfl,hB',hs',hq,he⟩
     rw[show max (n+1) nrem=nrem by lia]at hs' hq he ⊢
     exact⟨nrem,neq,rfl,hB',by lia,Y03 _,hs',hq,he⟩
    case postM=>
     rintro c st3 ⟨m,neq,rfl,hKp3,m1,m2,hDn3,hq,he⟩
     dsimp only
     have hsz3:=hKp3.ok.size
     by_cases hneq:neq > 0
     ·rw[if_pos hneq]
      refine Z01 (Z2e ?_)
      have hKp4:=hKp3.rev (i:=lo+m - (neq+1)) (j:=lo+m) (by lia) (by lia)
      have hDn4:DnA kv lo (mirror (arrOf st3) (lo+m - (neq+1)) (lo+m) ((lo+m - (lo+m - (neq+1))) / 2)) m:=fun i j hij hj=>by
       rw[Z0D (by lia) he,Z0D (by lia) he]; exact hDn3 i j hij hj
      revert hKp4 hDn4
      generalize he4:(setArr st3 (mirror (arrOf st3) (lo+m - (neq+1)) (lo+m) ((lo+m - (lo+m - (neq+1))) / 2)))=st4
      have he5:mirror (arrOf st3) (lo+m - (neq+1)) (lo+m) ((lo+m - (lo+m - (neq+1))) / 2)=arrOf st4:=by rw[<-he4]
      rw[he5]
      intro hKp4 hDn4
      clear he4 he5
      have hsz4:=hKp4.ok.size
      refine Z01 (Z2e ?_)
      have hKp5:=hKp4.rev (i:=lo) (j:=lo+m) (Y03 _) (by lia)
      have hUp5:UpA kv lo (mirror (arrOf st4) lo (lo+m) ((lo+m - lo) / 2)) m:=fun i j hij hj=>by
       rw[Z19 (by lia),Z19 (by lia),if_pos (by lia),if_pos (by lia),show lo+(lo+m) - 1 - (lo+i)=lo+(m - 1 - i) by lia,show lo+(lo+m) - 1 - (lo+j)=lo+(m - 1 - j) by lia]
       exact hDn4 _ _ (by lia) (by lia)
      revert hKp5 hUp5
      generalize he5:(setArr (st4) (mirror (arrOf st4) lo (lo+m) ((lo+m - lo) / 2)))=st5
      have he6:mirror (arrOf st4) lo (lo+m) ((lo+m - lo) / 2)=arrOf st5:=by rw[<-he5]
      rw[he6]
      intro hKp5 hUp5
      refine Z01 (Z0B (Z0n (I:=fun x c st'=>st5=st'/\c=(none,x)/\UpA kv lo (arrOf st5) x) (Q:=fun c st'=>st5=st'/\∃ n,c=(none,n)/\m<=n/\n<=nrem/\UpA kv lo (arrOf st5) n) ?stepN ?finN ⟨rfl,rfl,hUp5⟩) ?postN)
      case stepN=>
       rintro x c st' hax hxn ⟨rfl,rfl,hs'⟩
       dsimp only
       refine Z01 (Z1K S hKp5.ok (by lia) (by lia) ?_)
       by_cases hl:kvA kv (arrOf st5) (lo+x) < kvA kv (arrOf st5) (lo+x - 1)
       ·rw[decide_eq_true hl]
        simp only[if_true]
        exact Z02 ⟨rfl,x,rfl,hax,by lia,hs'⟩
       ·rw[decide_eq_false hl]
        simp only[Bool.false_eq_true,if_false]
        refine Z02 ⟨rfl,rfl,fun i j hij hj=>?_⟩
        by_cases hjx:j < x
        ·exact hs' i j hij hjx
        ·have hj':j=x:=by lia
         subst hj'
         by_cases hi':i=j
         ·subst hi'; exact Y03 _
         ·have:=hs' i (j - 1) (by lia) (by lia)
          rw[show lo+(j - 1)=lo+j - 1 by lia]at this
          lia
      case finN=>
       rintro c st' ⟨rfl,rfl,hs'⟩
       rw[show max m nrem=nrem by lia]at hs' ⊢
       exact⟨rfl,nrem,rfl,m2,Y03 _,hs'⟩
      case postN=>
       rintro c st' ⟨rfl,n9,rfl,q1,q2,q3⟩
       exact Z02 (h n9 st5 hKp5 (by lia) q2 q3)
     ·rw[if_neg hneq]
      have hKp4:=hKp3
      have hDn4:=hDn3
      have hsz4:=hKp4.ok.size
      refine Z01 (Z2e ?_)
      have hKp5:=hKp4.rev (i:=lo) (j:=lo+m) (Y03 _) (by lia)
      have hUp5:UpA kv lo (mirror (arrOf st3) lo (lo+m) ((lo+m - lo) / 2)) m:=fun i j hij hj=>by
       rw[Z19 (by lia),Z19 (by lia),if_pos (by lia),if_pos (by lia),show lo+(lo+m) - 1 - (lo+i)=lo+(m - 1 - i) by lia,show lo+(lo+m) - 1 - (lo+j)=lo+(m - 1 - j) by lia]
       exact hDn4 _ _ (by lia) (by lia)
      revert hKp5 hUp5
      generalize he5:(setArr (st3) (mirror (arrOf st3) lo (lo+m) ((lo+m - lo) / 2)))=st5
      have he6:mirror (arrOf st3) lo (lo+m) ((lo+m - lo) / 2)=arrOf st5:=by rw[<-he5]
      rw[he6]
      intro hKp5 hUp5
      refine Z01 (Z0B (Z0n (I:=fun x c st'=>st5=st'/\c=(none,x)/\UpA kv lo (arrOf st5) x) (Q:=fun c st'=>st5=st'/\∃ n,c=(none,n)/\m<=n/\n<=nrem/\UpA kv lo (arrOf st5) n) ?stepN ?finN ⟨rfl,rfl,hUp5⟩) ?postN)
      case stepN=>
       rintro x c st' hax hxn ⟨rfl,rfl,hs'⟩
       dsimp only
       refine Z01 (Z1K S hKp5.ok (by lia) (by lia) ?_)
       by_cases hl:kvA kv (arrOf st5) (lo+x) < kvA kv (arrOf st5) (lo+x - 1)
       ·rw[decide_eq_true hl]
        simp only[if_true]
        exact Z02 ⟨rfl,x,rfl,hax,by lia,hs'⟩
       ·rw[decide_eq_false hl]
        simp only[Bool.false_eq_true,if_false]
        refine Z02 ⟨rfl,rfl,fun i j hij hj=>?_⟩
        by_cases hjx:j < x
        ·exact hs' i j hij hjx
        ·have hj':j=x:=by lia
         subst hj'
         by_cases hi':i=j
         ·subst hi'; exact Y03 _
         ·have:=hs' i (j - 1) (by lia) (by lia)
          rw[show lo+(j - 1)=lo+j - 1 by lia]at this
          lia
      case finN=>
       rintro c st' ⟨rfl,rfl,hs'⟩
       rw[show max m nrem=nrem by lia]at hs' ⊢
       exact⟨rfl,nrem,rfl,m2,Y03 _,hs'⟩
      case postN=>
       rintro c st' ⟨rfl,n9,rfl,q1,q2,q3⟩
       exact Z02 (h n9 st5 hKp5 (by lia) q2 q3)
  ·rw[if_neg hgt]
   have hn1':n=1:=by lia
   subst hn1'
   have hKp:=Kp.refl (lo:=lo) hst
   have hDn:DnA kv lo (arrOf st) (1+1):=fun i j hij hj=>by
    by_cases hi':i=j
    ·subst hi'; exact Y03 _
    ·have hi0:i=0:=by lia
     have hj1:j=1:=by lia
     subst hi0; subst hj1
     rw[show lo+1 - 1=lo+0 by lia]at hlt
     lia
   refine Z01 (Z2c ?_)
   refine Z01 (Z0B (Z0n (I:=fun x c st'=>∃ neq,c=(none,x,neq)/\Kp κ it lo st st'/\DnA kv lo (arrOf st') x/\neq+1<=x/\(∀ i,lo+x - (neq+1)<=i->i < lo+x->kvA kv (arrOf st') i=kvA kv (arrOf st') (lo+x - 1)))
    (Q:=fun c st'=>∃ m neq,c=(none,m,neq)/\Kp κ it lo st st'/\1+1<=m/\m<=nrem/\DnA kv lo (arrOf st') m/\neq+1<=m/\(∀ i,lo+m - (neq+1)<=i->i < lo+m->kvA kv (arrOf st') i=kvA kv (arrOf st') (lo+m - 1))) ?stepM ?finM ⟨0,rfl,hKp,hDn,by lia,fun i q1 q2=>by congr 1; lia⟩) ?postM)
   case stepM=>
    rintro x c st' hax hxn ⟨neq,rfl,hB',hs',hq,he⟩
    dsimp only
    have hsz':=hB'.ok.size
    refine Z01 (Z1K S hB'.ok (by lia) (by lia) ?_)
    by_cases hl:kvA kv (arrOf st') (lo+x) < kvA kv (arrOf st') (lo+x - 1)
    ·rw[decide_eq_true hl]
     simp only[if_true]
     have step1:∀ xs:Array Keyed,(∀ k,kvA kv xs k=kvA kv (arrOf st') k)->DnA kv lo xs (x+1):=fun xs hk i j hij hj=>by
      rw[hk,hk]
      by_cases hjx:j < x
      ·exact hs' i j hij hjx
      ·have hj':j=x:=by lia
       subst hj'
       by_cases hi':i=j
       ·subst hi'; exact Y03 _
       ·have:=hs' i (j - 1) (by lia) (by lia)
        rw[show lo+(j - 1)=lo+j - 1 by lia]at this
        lia
     by_cases hneq:neq > 0
     ·rw[if_pos hneq]
      exact Z01 (Z2e (Z02 ⟨0,rfl,hB'.rev (by lia) (by lia),step1 _ (Z0D (by lia) he),by lia,fun i q1 q2=>by congr 1; lia⟩))
     ·rw[if_neg hneq]
      exact Z02 ⟨0,rfl,hB',step1 _ (fun _=>rfl),by lia,fun i q1 q2=>by congr 1; lia⟩
    ·rw[decide_eq_false hl]
     simp only[Bool.false_eq_true,if_false]
     refine Z01 (Z1K S hB'.ok (by lia) (by lia) ?_)
     by_cases hg:kvA kv (arrOf st') (lo+x - 1) < kvA kv (arrOf st') (lo+x)
     ·rw[decide_eq_true hg]
      simp only[if_true]
      exact Z02 ⟨x,neq,rfl,hB',by lia,by lia,hs',hq,he⟩
     ·rw[decide_eq_false hg]
      simp only[Bool.false_eq_true,if_false]
      have heqx:kvA kv (arrOf st') (lo+x)=kvA kv (arrOf st') (lo+x - 1):=by lia
      refine Z02 ⟨neq+1,rfl,hB',fun i j hij hj=>?_,by lia,fun i q1 q2=>?_⟩
      ·by_cases hjx:j < x
       ·exact hs' i j hij hjx
       ·have hj':j=x:=by lia
        subst hj'
        by_cases hi':i=j
        ·subst hi'; exact Y03 _
        ·have:=hs' i (j - 1) (by lia) (by lia)
         rw[show lo+(j - 1)=lo+j - 1 by lia]at this
         lia
      ·rw[show lo+(x+1) - 1=lo+x by lia]
       by_cases hix:i=lo+x
       ·subst hix; rfl
       ·rw[heqx]; exact he i (by lia) (by lia)
   case finM=>
    rintro c st' ⟨neq,rfl,hB',hs',hq,he⟩
    rw[show max (1+1) nrem=nrem by lia]at hs' hq he ⊢
    exact⟨nrem,neq,rfl,hB',by lia,Y03 _,hs',hq,he⟩
   case postM=>
    rintro c st3 ⟨m,neq,rfl,hKp3,m1,m2,hDn3,hq,he⟩
    dsimp only
    have hsz3:=hKp3.ok.size
    by_cases hneq:neq > 0
    ·rw[if_pos hneq]
     refine Z01 (Z2e ?_)
     have hKp4:=hKp3.rev (i:=lo+m - (neq+1)) (j:=lo+m) (by lia) (by lia)
     have hDn4:DnA kv lo (mirror (arrOf st3) (lo+m - (neq+1)) (lo+m) ((lo+m - (lo+m - (neq+1))) / 2)) m:=fun i j hij hj=>by
      rw[Z0D (by lia) he,Z0D (by lia) he]; exact hDn3 i j hij hj
     revert hKp4 hDn4
     generalize he4:(setArr st3 (mirror (arrOf st3) (lo+m - (neq+1)) (lo+m) ((lo+m - (lo+m - (neq+1))) / 2)))=st4
     have he5:mirror (arrOf st3) (lo+m - (neq+1)) (lo+m) ((lo+m - (lo+m - (neq+1))) / 2)=arrOf st4:=by rw[<-he4]
     rw[he5]
     intro hKp4 hDn4
     clear he4 he5
     have hsz4:=hKp4.ok.size
     refine Z01 (Z2e ?_)
     have hKp5:=hKp4.rev (i:=lo) (j:=lo+m) (Y03 _) (by lia)
     have hUp5:UpA kv lo (mirror (arrOf st4) lo (lo+m) ((lo+m - lo) / 2)) m:=fun i j hij hj=>by
      rw[Z19 (by lia),Z19 (by lia),if_pos (by lia),if_pos (by lia),show lo+(lo+m) - 1 - (lo+i)=lo+(m - 1 - i) by lia,show lo+(lo+m) - 1 - (lo+j)=lo+(m - 1 - j) by lia]
      exact hDn4 _ _ (by lia) (by lia)
     revert hKp5 hUp5
     generalize he5:(setArr (st4) (mirror (arrOf st4) lo (lo+m) ((lo+m - lo) / 2)))=st5
     have he6:mirror (arrOf st4) lo (lo+m) ((lo+m - lo) / 2)=arrOf st5:=by rw[<-he5]
     rw[he6]
     intro hKp5 hUp5
     refine Z01 (Z0B (Z0n (I:=fun x c st'=>st5=st'/\c=(none,x)/\UpA kv lo (arrOf st5) x) (Q:=fun c st'=>st5=st'/\∃ n,c=(none,n)/\m<=n/\n<=nrem/\UpA kv lo (arrOf st5) n) ?stepN ?finN ⟨rfl,rfl,hUp5⟩) ?postN)
     case stepN=>
      rintro x c st' hax hxn ⟨rfl,rfl,hs'⟩
      dsimp only
      refine Z01 (Z1K S hKp5.ok (by lia) (by lia) ?_)
      by_cases hl:kvA kv (arrOf st5) (lo+x) < kvA kv (arrOf st5) (lo+x - 1)
      ·rw[decide_eq_true hl]
       simp only[if_true]
       exact Z02 ⟨rfl,x,rfl,hax,by lia,hs'⟩
      ·rw[decide_eq_false hl]
       simp only[Bool.false_eq_true,if_false]
       refine Z02 ⟨rfl,rfl,fun i j hij hj=>?_⟩
       by_cases hjx:j < x
       ·exact hs' i j hij hjx
       ·have hj':j=x:=by lia
        subst hj'
        by_cases hi':i=j
        ·subst hi'; exact Y03 _
        ·have:=hs' i (j - 1) (by lia) (by lia)
         rw[show lo+(j - 1)=lo+j - 1 by lia]at this
         lia
     case finN=>
      rintro c st' ⟨rfl,rfl,hs'⟩
      rw[show max m nrem=nrem by lia]at hs' ⊢
      exact⟨rfl,nrem,rfl,m2,Y03 _,hs'⟩
     case postN=>
      rintro c st' ⟨rfl,n9,rfl,q1,q2,q3⟩
      exact Z02 (h n9 st5 hKp5 (by lia) q2 q3)
    ·rw[if_neg hneq]
     have hKp4:=hKp3
     have hDn4:=hDn3
     have hsz4:=hKp4.ok.size
     refine Z01 (Z2e ?_)
     have hKp5:=hKp4.rev (i:=lo) (j:=lo+m) (Y03 _) (by lia)
     have hUp5:UpA kv lo (mirror (arrOf st3) lo (lo+m) ((lo+m - lo) / 2)) m:=fun i j hij hj=>by
      rw[Z19 (by lia),Z19 (by lia),if_pos (by lia),if_pos (by lia),show lo+(lo+m) - 1 - (lo+i)=lo+(m - 1 - i) by lia,show lo+(lo+m) - 1 - (lo+j)=lo+(m - 1 - j) by lia]
      exact hDn4 _ _ (by lia) (by lia)
     revert hKp5 hUp5
     generalize he5:(setArr (st3) (mirror (arrOf st3) lo (lo+m) ((lo+m - lo) / 2)))=st5
     have he6:mirror (arrOf st3) lo (lo+m) ((lo+m - lo) / 2)=arrOf st5:=by rw[<-he5]
     rw[he6]
     intro hKp5 hUp5
     refine Z01 (Z0B (Z0n (I:=fun x c st'=>st5=st'/\c=(none,x)/\UpA kv lo (arrOf st5) x) (Q:=fun c st'=>st5=st'/\∃ n,c=(none,n)/\m<=n/\n<=nrem/\UpA kv lo (arrOf st5) n) ?stepN ?finN ⟨rfl,rfl,hUp5⟩) ?postN)
     case stepN=>
      rintro x c st' hax hxn ⟨rfl,rfl,hs'⟩
      dsimp only
      refine Z01 (Z1K S hKp5.ok (by lia) (by lia) ?_)
      by_cases hl:kvA kv (arrOf st5) (lo+x) < kvA kv (arrOf st5) (lo+x - 1)
      ·rw[decide_eq_true hl]
       simp only[if_true]
       exact Z02 ⟨rfl,x,rfl,hax,by lia,hs'⟩
      ·rw[decide_eq_false hl]
       simp only[Bool.false_eq_true,if_false]
       refine Z02 ⟨rfl,rfl,fun i j hij hj=>?_⟩
       by_cases hjx:j < x
       ·exact hs' i j hij hjx
       ·have hj':j=x:=by lia
        subst hj'
        by_cases hi':i=j
        ·subst hi'; exact Y03 _
        ·have:=hs' i (j - 1) (by lia) (by lia)
         rw[show lo+(j - 1)=lo+j - 1 by lia]at this
         lia
     case finN=>
      rintro c st' ⟨rfl,rfl,hs'⟩
      rw[show max m nrem=nrem by lia]at hs' ⊢
      exact⟨rfl,nrem,rfl,m2,Y03 _,hs'⟩
     case postN=>
      rintro c st' ⟨rfl,n9,rfl,q1,q2,q3⟩
      exact Z02 (h n9 st5 hKp5 (by lia) q2 q3)
theorem Kp.bub {lo src d:Nat}{st st':SortSt}(h:Kp κ it lo st st')(hs:src < (arrOf st').size)(hd:lo+d<=src):Kp κ it lo st (setArr st' (bubble (arrOf st') src d)):=
 ⟨⟨h.ok.kind,h.ok.failed,(Array.perm_iff_toList_perm.mp (bubble_perm _ _ _)).trans h.ok.perm⟩,h.pend,fun t ht=>by
  show (bubble (arrOf st') src d)[t]?=_
  rw[getElem?_bubble hs d (by lia),if_neg (by lia),if_neg (by lia)]; exact h.low t ht⟩
theorem Z4z {st:SortSt}{lo n ok:Nat}{Q:Bool->SortSt->Prop}(S:SCx prog w A s κ it kv)(hst:SSt κ it st)(hn:lo+n<=it.length)(hok:ok<=n)(hs:UpA kv lo (arrOf st) ok)
  (h:∀ st',Kp κ it lo st st'->UpA kv lo (arrOf st') n->Q true st'):wpT prog w A E s (binarySort' lo n ok) Q st:=by
 rw[binarySort'_eq]
 refine Z01 (Z0B (Z0n (I:=fun k c st'=>c=(none,())/\Kp κ it lo st st'/\UpA kv lo (arrOf st') (min k n)) (Q:=fun c st'=>c=(none,())/\Kp κ it lo st st'/\UpA kv lo (arrOf st') n) ?step ?fin ?init) ?post)
 case post=>
  rintro c st' ⟨rfl,hB',hs'⟩
  exact Z02 (h st' hB' hs')
 case init=>
  refine⟨rfl,Kp.refl hst,fun i j hij hj=>?_⟩
  by_cases h1:ok=0
  ·have:i=j:=by lia
   subst this; exact Y03 _
  ·exact hs i j hij (by lia)
 case fin=>
  rintro c st' ⟨hc,hB',hs'⟩
  refine⟨hc,hB',?_⟩
  rwa [show min (max (max ok 1) n) n=n by lia]at hs'
 case step=>
  rintro k c st' hak hkn ⟨rfl,hB',hs'⟩
  rw[show min k n=k by lia]at hs'
  have hk:lo+k < it.length:=by lia
  have hsz:=hB'.ok.size
  refine Z01 (Z0B (Z0n (I:=fun x c st''=>st'=st''/\∃ l r,c=(none,l,r)/\l<=r/\r<=k/\r - l<=k - x/\
    (∀ i,i < l->kvA kv (arrOf st') (lo+i)<=kvA kv (arrOf st') (lo+k))/\(∀ i,r<=i->i < k->kvA kv (arrOf st') (lo+k) < kvA kv (arrOf st') (lo+i)))
   (Q:=fun c st''=>st'=st''/\∃ l r,c=(none,l,r)/\l<=k/\
    (∀ i,i < l->kvA kv (arrOf st') (lo+i)<=kvA kv (arrOf st') (lo+k))/\(∀ i,l<=i->i < k->kvA kv (arrOf st') (lo+k) < kvA kv (arrOf st') (lo+i))) ?istep ?ifin ?iinit) ?ipost)
  case iinit=>exact⟨rfl,0,k,rfl,by lia,by lia,by lia,fun i hi=>by lia,fun i h1 h2=>by lia⟩
  case ifin=>
   rintro c st'' ⟨rfl,l,r,rfl,hlr,hrk,hm,hlo,hhi⟩
   have:l=r:=by lia
   subst this
   exact⟨rfl,l,l,rfl,hrk,hlo,hhi⟩
  case istep=>
   rintro x c st'' _ hxk ⟨rfl,l,r,rfl,hlr,hrk,hm,hlo,hhi⟩
   dsimp only
   by_cases hge:l≥r
   ·rw[if_pos hge]
    have:l=r:=by lia
    subst this
    exact Z02 ⟨rfl,l,l,rfl,hrk,hlo,hhi⟩
   ·rw[if_neg hge]
    refine Z01 (Z1K S hB'.ok hk (by lia) ?_)
    by_cases hless:kvA kv (arrOf st') (lo+k) < kvA kv (arrOf st') (lo+(l+r) / 2)
    ·rw[decide_eq_true hless]
     simp only[if_true]
     refine Z02 ⟨rfl,l,(l+r) / 2,rfl,by lia,by lia,by lia,hlo,fun i h1 h2=>?_⟩
     exact Y0g hless (hs' _ _ h1 h2)
    ·rw[decide_eq_false hless]
     simp only[Bool.false_eq_true,if_false]
     refine Z02 ⟨rfl,(l+r) / 2+1,r,rfl,by lia,by lia,by lia,fun i h1=>?_,hhi⟩
     have:=hs' i ((l+r) / 2) (by lia) (by lia)
     lia
  case ipost=>
   rintro c st'' ⟨rfl,l,r,rfl,hlk,hlo,hhi⟩
   show wpT prog w A E s (do moveDown' (lo+k) (lo+l); pure (ForInStep.yield (none,()))) _ _
   rw[moveDown'_eq]
   refine Z01 (Z0F (Z02 ⟨rfl,hB'.bub (by lia) (by lia),?_⟩))
   rw[show min (k+1) n=k+1 by lia]
   have hks:lo+k < (arrOf st').size:=by lia
   intro i j hij hj
   show kvA kv (bubble (arrOf st') (lo+k) (lo+k - (lo+l))) (lo+i)<=kvA kv (bubble (arrOf st') (lo+k) (lo+k - (lo+l))) (lo+j)
   rw[Z4P hks (by lia),Z4P hks (by lia),show lo+k - (lo+k - (lo+l))=lo+l by lia]
   have hs2:∀ p q,p<=q->q < k->kvA kv (arrOf st') (lo+p)<=kvA kv (arrOf st') (lo+q):=hs'
   have e1:∀ p,1<=p->lo+p - 1=lo+(p - 1):=fun p hp=>by lia
   have eq1:∀ p,(lo+p=lo+l)=(p=l):=fun p=>by simp
   have val:∀ p,p<=k->(if lo+p=lo+l then kvA kv (arrOf st') (lo+k) else if lo+l < lo+p/\lo+p<=lo+k then kvA kv (arrOf st') (lo+p - 1) else kvA kv (arrOf st') (lo+p))=if p=l then kvA kv (arrOf st') (lo+k) else if l < p then kvA kv (arrOf st') (lo+(p - 1)) else kvA kv (arrOf st') (lo+p):=fun p hp=>by
    by_cases c:p=l
    ·rw[if_pos (by lia),if_pos c]
    ·rw[if_neg (by lia),if_neg c]
     by_cases d:l < p
     ·rw[if_pos (by lia),if_pos d,show lo+p - 1=lo+(p - 1) by lia]
     ·rw[if_neg (by lia),if_neg d]
   rw[val i (by lia),val j (by lia)]
   by_cases ci:i=l
   ·rw[if_pos ci]
    by_cases cj:j=l
    ·rw[if_pos cj]; exact Y03 _
    ·rw[if_neg cj,if_pos (by lia)]
     exact Y11 (hhi _ (by lia) (by lia))
   ·rw[if_neg ci]
    by_cases cj:j=l
    ·rw[if_pos cj,if_neg (by lia)]
     exact hlo i (by lia)
    ·rw[if_neg cj]
     by_cases di:l < i
     ·rw[if_pos di,if_pos (by lia)]
      exact hs' _ _ (by lia) (by lia)
     ·rw[if_neg di]
      by_cases dj:l < j
      ·rw[if_pos dj]
       exact hs' _ _ (by lia) (by lia)
      ·rw[if_neg dj]
       exact hs' _ _ hij (by lia)
end
abbrev Pnd:=Nat×Nat×Nat
def Z0X (kv:Keyed->Nat)(L:List Keyed):Nat->List Pnd->Nat->Prop
 | s,[],e=>s=e
 | s,r :: ps,e=>r.1=s/\1<=r.2.1/\Sd kv (seg L s r.2.1)/\Z0X kv L (s+r.2.1) ps e
section
variable {kv:Keyed->Nat}{L L':List Keyed}
theorem Z0X.le:∀ {ps:List Pnd} {s e:Nat},Z0X kv L s ps e->s+ps.length<=e
 | [],s,e,h=>by cases h; simp
 | r :: ps,s,e,h=>by
  have:=h.2.2.2.le
  have:=h.2.1
  simp only[Y18]; lia
theorem Z0X.app:∀ {ps qs:List Pnd} {s e:Nat},Z0X kv L s (ps++qs) e↔∃ m,Z0X kv L s ps m/\Z0X kv L m qs e
 | [],qs,s,e=>⟨fun h=>⟨s,rfl,h⟩,fun ⟨m,h1,h2⟩=>by cases h1; exact h2⟩
 | r :: ps,qs,s,e=>by
  constructor
  ·rintro ⟨h1,h2,h3,h4⟩
   obtain⟨m,g1,g2⟩:=Z0X.app.mp h4
   exact⟨m,⟨h1,h2,h3,g1⟩,g2⟩
  ·rintro ⟨m,⟨h1,h2,h3,g1⟩,g2⟩
   exact⟨h1,h2,h3,Z0X.app.mpr ⟨m,g1,g2⟩⟩
theorem Z4i {s n:Nat}(h:∀ t,s<=t->t < s+n->L'[t]?=L[t]?):seg L' s n=seg L s n:=by
 refine List.ext_getElem? fun i=>?_
 by_cases hi:i < n
 ·rw[Z29 _ _ hi,Z29 _ _ hi]; exact h _ (by lia) (by lia)
 ·unfold seg; rw[List.getElem?_take,List.getElem?_take,if_neg hi,if_neg hi]
theorem Z0X.congr:∀ {ps:List Pnd} {s e:Nat},(∀ t,s<=t->t < e->L'[t]?=L[t]?)->Z0X kv L s ps e->Z0X kv L' s ps e
 | [],s,e,_,h=>h
 | r :: ps,s,e,hc,h=>by
  obtain⟨h1,h2,h3,h4⟩:=h
  have:=h4.le
  refine⟨h1,h2,?_,Z0X.congr (fun t q1 q2=>hc t (by lia) q2) h4⟩
  rw[Z4i fun t q1 q2=>hc t q1 (by lia)]; exact h3
theorem Z6k {sa n:Nat}{Z:List Keyed}(e:L'=L.take sa++Z++L.drop (sa+n))(hz:Z.length=n)(hl:sa+n<=L.length){t:Nat}(h:t < sa\/sa+n<=t):L'[t]?=L[t]?:=by
 rw[e]
 have h1:(L.take sa).length=sa:=by rw[Y0x]; lia
 rcases h with h | h
 ·rw[Y0l,Y0z (by lia),List.getElem?_take,if_pos h]
 ·rw[Y17 (by rw[Y0e]; lia),Y1c,Y0e,h1,hz]
  congr 1; lia
theorem ZbQ {sa n:Nat}{Z:List Keyed}(e:L'=L.take sa++Z++L.drop (sa+n))(hz:Z.length=n)(hl:sa+n<=L.length):seg L' sa n=Z:=by
 have h1:(L.take sa).length=sa:=by rw[Y0x]; lia
 unfold seg
 rw[e,Y0l,List.drop_append_of_le_length (by lia),List.drop_of_length_le (by lia),List.nil_append,List.take_append_of_le_length (by lia),List.take_of_length_le (by lia)]
end
section
variable {prog:Program}{w:World}{A:Around}{E:Value->Shared->Prop}{s:Shared}{κ:SortKind}{it:List Keyed}{kv:Keyed->Nat}
structure SI (κ:SortKind)(it:List Keyed)(kv:Keyed->Nat)(lo:Nat)(st:SortSt):Prop where
 ok:SSt κ it st
 le:lo<=it.length
 runs:Z0X kv (arrOf st).toList 0 (pendingOf st).toList lo
theorem Z3v {i lo:Nat}{Q:Bool->SortSt->Prop}{st:SortSt}(S:SCx prog w A s κ it kv)(h:SI κ it kv lo st)(hi:i+1 < (pendingOf st).size)
  (k:∀ st',SI κ it kv lo st'->(pendingOf st').size+1=(pendingOf st).size->(∀ t,lo<=t->(arrOf st').toList[t]?=(arrOf st).toList[t]?)->Q true st'):wpT prog w A E s (mergeAt' i) Q st:=by
 obtain⟨ps,hps⟩:∃ ps,ps=(pendingOf st).toList:=⟨_,rfl⟩
 have hlen:ps.length=(pendingOf st).size:=by rw[hps,Array.length_toList]
 have d1:ps.drop i=ps[i] :: ps.drop (i+1):=Y1w (by lia)
 have d2:ps.drop (i+1)=ps[i+1] :: ps.drop (i+1+1):=Y1w (by lia)
 have cut:ps=ps.take i++(ps[i] :: ps[i+1] :: ps.drop (i+1+1)):=by rw[<-d2,<-d1,Y1q]
 have e1:(pendingOf st)[i]?=some ps[i]:=by rw[<-Array.getElem?_toList,<-hps]; exact Y01 (by lia)
 have e2:(pendingOf st)[i+1]?=some ps[i+1]:=by rw[<-Array.getElem?_toList,<-hps]; exact Y01 (by lia)
 have hr:=h.runs
 have hit:(arrOf st).toList.length=it.length:=h.ok.perm.length_eq
 rw[<-hps]at hr
 have hpl:(ps.take i).length=i:=by rw[Y0x]; lia
 revert cut e1 e2
 generalize ps[i]=r1
 generalize ps[i+1]=r2
 generalize ps.take i=pre at hpl
 generalize ps.drop (i+1+1)=post
 intro cut e1 e2
 rw[cut]at hr
 obtain⟨sa',na,pw⟩:=r1
 obtain⟨sb',nb,pw'⟩:=r2
 obtain⟨sa,g1,q1,na1,sX,q2,nb1,sY,g2⟩:=Z0X.app.mp hr
 have q1:sa'=sa:=q1
 have q2:sb'=sa+na:=q2
 have na1:1<=na:=na1
 have nb1:1<=nb:=nb1
 have g2:Z0X kv (arrOf st).toList (sa+na+nb) post lo:=g2
 subst q1; subst q2
 have hb:sa' + na+nb+post.length<=lo:=g2.le
 have hle:=h.le
 refine Z6l S h.ok e1 e2 na1 nb1 (by lia) sX sY fun st' Z hst' hp' ha' hZ sZ=>?_
 have ha2:(arrOf st').toList=(arrOf st).toList.take sa'++Z++(arrOf st).toList.drop (sa' + (na+nb)):=by rw[<-Y1o]; exact ha'
 have hp2:(pendingOf st').toList=pre++((sa',na+nb,pw) :: post):=by
  rw[hp',Array.toList_eraseIdxIfInBounds,Array.toList_setIfInBounds,<-hps,cut,List.set_append_right _ _ (by lia),hpl,Nat.sub_self,List.set_cons_zero,List.eraseIdx_append_of_length_le (by lia),hpl,show i+1 - i=1 by lia]
  rfl
 refine k st' ⟨hst',hle,?_⟩ ?_ ?_
 ·rw[hp2]
  refine Z0X.app.mpr ⟨sa',g1.congr fun t _ q=>Z6k ha2 hZ (by lia) (.inl q),rfl,by show 1<=na+nb; lia,?_,?_⟩
  ·show Sd kv (seg (arrOf st').toList sa' (na+nb))
   rw[ZbQ ha2 hZ (by lia)]; exact sZ
  ·show Z0X kv (arrOf st').toList (sa' + (na+nb)) post lo
   rw[<-Y1o]
   exact g2.congr fun t q _=>Z6k ha2 hZ (by lia) (.inr (by lia))
 ·rw[<-hlen,<-Array.length_toList,hp2,cut]; simp; lia
 ·exact fun t ht=>Z6k ha2 hZ (by lia) (.inr (by lia))
theorem Z0X.modi {L:List Keyed}{f:Pnd->Pnd}(hf:∀ r,(f r).1=r.1/\(f r).2.1=r.2.1):∀ {ps:List Pnd} {i s e:Nat},Z0X kv L s ps e->Z0X kv L s (ps.modify i f) e
 | [],i,s,e,h=>by simpa using h
 | r :: ps,0,s,e,h=>by
  rw[List.modify_zero_cons]
  obtain⟨h1,h2,h3,h4⟩:=h
  obtain⟨f1,f2⟩:=hf r
  refine⟨f1.trans h1,by rw[f2]; exact h2,by rw[f2]; exact h3,by rw[f2]; exact h4⟩
 | r :: ps,i+1,s,e,h=>by
  rw[List.modify_succ_cons]
  obtain⟨h1,h2,h3,h4⟩:=h
  exact⟨h1,h2,h3,Z0X.modi hf h4⟩
theorem SI.push {lo n:Nat}{st:SortSt}(h:SI κ it kv lo st)(n1:1<=n)(hn:lo+n<=it.length)(hs:Sd kv (seg (arrOf st).toList lo n)):SI κ it kv (lo+n) (setPending st ((pendingOf st).push (lo,n,0))):=
 ⟨⟨h.ok.kind,h.ok.failed,h.ok.perm⟩,hn,by
  show Z0X kv (arrOf st).toList 0 ((pendingOf st).push (lo,n,0)).toList (lo+n)
  rw[Array.toList_push]
  exact Z0X.app.mpr ⟨lo,h.runs,rfl,n1,hs,rfl⟩⟩
theorem SI.modi {lo i:Nat}{st:SortSt}{f:Pnd->Pnd}(hf:∀ r,(f r).1=r.1/\(f r).2.1=r.2.1)(h:SI κ it kv lo st):SI κ it kv lo (setPending st ((pendingOf st).modify i f)):=
 ⟨⟨h.ok.kind,h.ok.failed,h.ok.perm⟩,h.le,by
  show Z0X kv (arrOf st).toList 0 ((pendingOf st).modify i f).toList lo
  rw[Array.toList_modify]
  exact h.runs.modi hf⟩
theorem SI.kept {lo:Nat}{st st':SortSt}(h:SI κ it kv lo st)(k:Kp κ it lo st st'):SI κ it kv lo st':=
 ⟨k.ok,h.le,by rw[k.pend]; exact h.runs.congr fun t _ ht=>by rw[Array.getElem?_toList,Array.getElem?_toList]; exact k.low t ht⟩
theorem Kp.trans {lo:Nat}{a b c:SortSt}(h:Kp κ it lo a b)(g:Kp κ it lo b c):Kp κ it lo a c:=⟨g.ok,g.pend.trans h.pend,fun t ht=>(g.low t ht).trans (h.low t ht)⟩
theorem Z5w {st:SortSt}{Q:Unit->SortSt->Prop}(S:SCx prog w A s κ it kv)(hst:SSt κ it st)(hp:pendingOf st=#[])(h2:2<=it.length)
  (h:∀ st',SSt κ it st'->Sd kv (arrOf st').toList->Q () st'):wpT prog w A E s sortRuns' Q st:=by
 rw[sortRuns'_eq]
 refine Z01 (Z1R ?_)
 dsimp only
 rw[hst.size]
 generalize minRun' it.length it.length 0=mr
 refine Z01 (Z0B (Z0n (I:=fun x c st'=>∃ lo,c=(none,lo)/\SI κ it kv lo st'/\x<=lo) (Q:=fun c st'=>c=(none,it.length)/\SI κ it kv it.length st') ?step ?fin ⟨0,rfl,⟨hst,Y0s _,by rw[hp]; rfl⟩,Y03 _⟩) ?post)
 case fin=>
  rintro c st' ⟨lo,rfl,hI,hx⟩
  have:lo=it.length:=by have:=hI.le; lia
  subst this
  exact⟨rfl,hI⟩
 case step=>
  rintro x c st' _ hx ⟨lo,rfl,hI,hxl⟩
  dsimp only
  by_cases hge:lo≥it.length
  ·rw[if_pos hge]
   have:lo=it.length:=by have:=hI.le; lia
   subst this
   exact Z02 ⟨rfl,hI⟩
  rw[if_neg hge]
  refine Z01 (Z6g S hI.ok (by lia) (by lia) fun m st2 hK m1 m2 hU=>?_)
  dsimp only
  by_cases hmr:m < mr
  ·rw[if_pos hmr]
   refine Z01 (Z2c ?_)
   refine Z01 (Z4z S hK.ok (by lia) (by lia) hU fun st3 hK3 hU3=>?_)
   simp only[Bool.not_true,Bool.false_eq_true,if_false]
   have hI3:=hI.kept (hK.trans hK3)
   have hS3:=Zdw hU3
   have n1:1<=min (it.length - lo) mr:=by lia
   refine Z01 (Z1R ?_)
   cases hbk:(pendingOf st3).back? with
   | none=>
    dsimp only
    exact Z01 (Z0F (Z02 ⟨_,rfl,hI3.push n1 (by lia) hS3,by lia⟩))
   | some r=>
    obtain⟨s1,n1',p1⟩:=r
    dsimp only
    refine Z01 (Z0B (Z0n (I:=fun x c st'=>c=(none,())/\SI κ it kv lo st'/\Sd kv (seg (arrOf st').toList lo (min (it.length - lo) mr))) (Q:=fun c st'=>c=(none,())/\SI κ it kv lo st'/\Sd kv (seg (arrOf st').toList lo (min (it.length - lo) mr))) ?stepI (fun c st' hh=>hh) ⟨rfl,hI3,hS3⟩) ?postI)
    case stepI=>
     rintro y c st5 _ hy ⟨rfl,hI5,hS5⟩
     refine Z01 (Z1R ?_)
     cases hm:(if (pendingOf st5).size > 1 then (pendingOf st5)[(pendingOf st5).size - 2]? else none) with
     | none=>exact Z02 ⟨rfl,hI5,hS5⟩
     | some r=>
      obtain⟨r1,r2,older⟩:=r
      dsimp only
      have hz:(pendingOf st5).size > 1:=by
       by_cases q:(pendingOf st5).size > 1
       ·exact q
       ·rw[if_neg q]at hm; cases hm
      split
      ·exact Z02 ⟨rfl,hI5,hS5⟩
      ·refine Z01 (Z3v S hI5 (by lia) fun st6 hI6 _ hc=>?_)
       simp only[Bool.not_true,Bool.false_eq_true,if_false]
       exact Z02 ⟨rfl,hI6,by rw[Z4i fun t q1 _=>hc t q1]; exact hS5⟩
    case postI=>
     rintro c st5 ⟨rfl,hI5,hS5⟩
     dsimp only
     refine Z01 (Z0F (Z01 (Z0F (Z02 ⟨_,rfl,SI.push (hI5.modi fun r=>⟨rfl,rfl⟩) n1 (by lia) hS5,by lia⟩))))
  ·rw[if_neg hmr]
   have hI3:=hI.kept hK
   have hS3:=Zdw hU
   have n1:=m1
   refine Z01 (Z1R ?_)
   cases hbk:(pendingOf st2).back? with
   | none=>
    dsimp only
    exact Z01 (Z0F (Z02 ⟨_,rfl,hI3.push n1 (by lia) hS3,by lia⟩))
   | some r=>
    obtain⟨s1,n1',p1⟩:=r
    dsimp only
    refine Z01 (Z0B (Z0n (I:=fun x c st'=>c=(none,())/\SI κ it kv lo st'/\Sd kv (seg (arrOf st').toList lo (m))) (Q:=fun c st'=>c=(none,())/\SI κ it kv lo st'/\Sd kv (seg (arrOf st').toList lo (m))) ?stepI (fun c st' hh=>hh) ⟨rfl,hI3,hS3⟩) ?postI)
    case stepI=>
     rintro y c st5 _ hy ⟨rfl,hI5,hS5⟩
     refine Z01 (Z1R ?_)
     cases hm:(if (pendingOf st5).size > 1 then (pendingOf st5)[(pendingOf st5).size - 2]? else none) with
     | none=>exact Z02 ⟨rfl,hI5,hS5⟩
     | some r=>
      obtain⟨r1,r2,older⟩:=r
      dsimp only
      have hz:(pendingOf st5).size > 1:=by
       by_cases q:(pendingOf st5).size > 1
       ·exact q
       ·rw[if_neg q]at hm; cases hm
      split
      ·exact Z02 ⟨rfl,hI5,hS5⟩
      ·refine Z01 (Z3v S hI5 (by lia) fun st6 hI6 _ hc=>?_)
       simp only[Bool.not_true,Bool.false_eq_true,if_false]
       exact Z02 ⟨rfl,hI6,by rw[Z4i fun t q1 _=>hc t q1]; exact hS5⟩
    case postI=>
     rintro c st5 ⟨rfl,hI5,hS5⟩
     dsimp only
     refine Z01 (Z0F (Z01 (Z0F (Z02 ⟨_,rfl,SI.push (hI5.modi fun r=>⟨rfl,rfl⟩) n1 (by lia) hS5,by lia⟩))))
 case post=>
  rintro c st' ⟨rfl,hI⟩
  dsimp only
  have hl0:=hI.runs.le
  rw[Array.length_toList]at hl0
  refine Z01 (Z0B (Z0n (I:=fun x c st'=>c=(none,())/\SI κ it kv it.length st'/\(pendingOf st').size+x<=it.length) (Q:=fun c st'=>c=(none,())/\SI κ it kv it.length st'/\(pendingOf st').size<=1) ?stepF ?finF ⟨rfl,hI,by lia⟩) ?postF)
  case stepF=>
   rintro y c st5 _ hy ⟨rfl,hI5,hc5⟩
   refine Z01 (Z1R ?_)
   by_cases hz:(pendingOf st5).size<=1
   ·rw[if_pos hz]; exact Z02 ⟨rfl,hI5,hz⟩
   rw[if_neg hz]
   try dsimp only
   refine Z01 (Z3v S hI5 ?_ fun st6 hI6 hz6 _=>?_)
   ·repeat' split
    all_goals lia
   ·simp only[Bool.not_true,Bool.false_eq_true,if_false]
    exact Z02 ⟨rfl,hI6,by lia⟩
  case finF=>
   rintro c st5 ⟨rfl,hI5,hc5⟩
   exact⟨rfl,hI5,by lia⟩
  case postF=>
   rintro c st5 ⟨rfl,hI5,hc5⟩
   refine Z02 (h st5 hI5.ok ?_)
   have hr:=hI5.runs
   have hlen:(pendingOf st5).toList.length<=1:=by rw[Array.length_toList]; exact hc5
   match hq:(pendingOf st5).toList,hlen with
   | [],_=>rw[hq]at hr; have:(0:Nat)=it.length:=hr; lia
   | [r],_=>
    rw[hq]at hr
    obtain⟨r1,r2,r3⟩:=r
    obtain⟨_,_,q3,q4⟩:=hr
    have q4:0+r2=it.length:=q4
    have q3:Sd kv (seg (arrOf st5).toList 0 r2):=q3
    unfold seg at q3
    rw[List.drop_zero,List.take_of_length_le (by rw[Array.length_toList,hI5.ok.size]; lia)]at q3
    exact q3
end
theorem Z64 (vs:List Value):∀ {xs:List Keyed},xs.Perm (vs.zip vs)->(xs.map Prod.snd).Perm vs/\∀ x∈xs,x.1=x.2/\x.1∈vs:=fun {xs} h=>by
 refine⟨?_,fun x hx=>mem_zip_self (h.mem_iff.mp hx)⟩
 have:=h.map Prod.snd
 rw[List.map_snd_zip (Y03 _)]at this
 exact this
theorem Z5l {prog:Program}{w:World}{A:Around}{E:Value->Shared->Prop}{s:Shared}{a:Addr}{vs:List Value}{n:Nat}{P:PySem.Fin->Shared->Prop}(kval:Value->Nat)(κ:SortKind)
  (hs:s.heap.get? a=some (seqObj "list" vs.toArray n)) (h2:2<=vs.length) (hz:vs.length<=1000)
  (hk:∀ (E':Value->Shared->Prop) (Q:SortKind->Shared->Prop) (tk:Nat),(∀ tk',Q κ { s with heap:=Z1e s.heap a vs,toks:=tk' })->wpAny (model prog w) A (keyKind' vs.toArray) Q E' { s with heap:=Z1e s.heap a vs,toks:=tk })
  (hc:∀ x y,x∈vs->y∈vs->∀ (C:Bool->Shared->Prop) (tk:Nat),(∀ tk',C (decide (kval x < kval y)) { s with heap:=Z1e s.heap a vs,toks:=tk' })->wpAny (model prog w) A (keyLt' κ x y) C (fun _ _=>False) { s with heap:=Z1e s.heap a vs,toks:=tk })
  (h:∀ (out:List Value) (tk:Nat),out.Perm vs->out.Pairwise (fun x y=>kval x<=kval y)->P (Fin.done (Flow.ret Value.none)) { s with heap:=sortedHeap s.heap a vs out.toArray,toks:=tk }) :
  wpAny (model prog w) A (Builtin.«list.sort» { pos:=[Value.ref a] }) P E s:=by
 rw[list_sort_plain]
 have big:1000<=sizeLine:=by decide
 refine wpAny_bind (listItems_at hs rfl ?_)
 refine wpAny_bind (listUpdate_at hs rfl ?_ (by rw[Y0c]; omega) (by simp))
 have e1:∃ e,(s.heap.update a (Obj.mapSeq fun x=>#[])).get? a=some (seqObj "list" #[] e):=by
  have:=get?_update_seq hs (fun _=>#[])
  exact⟨_,this⟩
 obtain⟨e1,he1⟩:=e1
 refine wpAny_bind (seqEpoch_at he1 rfl ?_)
 refine wpAny_bind (wpAny_newTuple ?_ (by show vs.toArray.toList.length<=sizeLine; rw[List.toList_toArray]; omega))
 refine wpAny_bind (wpAny_newList ?_ (by simp))
 refine wpAny_holding ?_
 have hsz:¬ vs.toArray.size < 2:=by rw[Y0c]; omega
 dsimp only
 rw[if_neg hsz]
 refine wpAny_bind (hk E _ s.toks fun tk0=>?_)
 rw[if_neg hsz]
 have hzip:(vs.toArray.zip vs.toArray).toList=vs.zip vs:=by simp
 have S:SCx prog w A { s with heap:=Z1e s.heap a vs } κ (vs.zip vs) (fun x=>kval x.1):=⟨fun x y hx hy C tk hC=>hc x.1 y.1 (mem_zip_self hx).2 (mem_zip_self hy).2 C tk hC⟩
 have run:=Z5w (E:=E) (st:=SortSt.mk' κ (vs.toArray.zip vs.toArray) #[] 7 none) (Q:=fun _ st'=>SSt κ (vs.zip vs) st'/\Sd (fun x=>kval x.1) (arrOf st').toList) S ⟨rfl,rfl,by rw[hzip]⟩ rfl (by simp; omega) (fun st' a1 a2=>⟨a1,a2⟩) tk0
 unfold kasC at run
 refine wpAny_bind (wpAny_mono run (fun r s' hr=>?_) fun _ _ e=>e)
 obtain⟨⟨⟩,st'⟩:=r
 obtain⟨⟨tk,rfl⟩,hst,hsd⟩:=hr
 dsimp only
 obtain⟨p1,p2⟩:=Z64 vs hst.perm
 have hout:(arrOf st').map (·.2)=((arrOf st').toList.map Prod.snd).toArray:=by
  apply Array.toList_inj.mp
  rw[Array.toList_map]
 have hpw:((arrOf st').toList.map Prod.snd).Pairwise (fun x y=>kval x<=kval y):=by
  refine Y0t.mpr ?_
  refine hsd.imp_of_mem fun {x y} hx hy hxy=>?_
  have q1:=(p2 x hx).1
  have q2:=(p2 y hy).1
  rw[<-q1,<-q2]; exact hxy
 have hae:(Z1e s.heap a vs).get? a=some (seqObj "list" #[] e1):=by
  unfold Z1e
  exact Y02 _ (Y02 _ he1)
 rw[hout]
 refine wpAny_bind (seqEpoch_at hae rfl ?_)
 refine wpAny_bind (listUpdate_at hae rfl ?_ (by simp) (by
  rw[Y0c,p1.length_eq]; omega))
 rw[hst.failed]
 dsimp only
 rw[if_neg (by simp)]
 exact wpAny_pure (h _ tk p1 hpw)
theorem Z3U {prog:Program}{w:World}{A:Around}{E:Value->Shared->Prop}{s:Shared}{p:Addr}{vs:List Value}{Q:Value->Shared->Prop}(kval:Value->Nat)(κ:SortKind)(hL:s.heap.IsList p vs.toArray)(hz:vs.length<=1000)(hh:A.handled=none)(hu:A.units+10 < cLine)
  (hk:2<=vs.length->∀ (A':Around) (E':Value->Shared->Prop) (R:SortKind->Shared->Prop) (s':Shared),A'.units+5 < cLine->(∀ b o,s.heap.get? b=some o->s'.heap.get? b=some o)->(∀ tk,R κ { s' with toks:=tk })->wpAny (model prog w) A' (keyKind' vs.toArray) R E' s')
  (hc:2<=vs.length->∀ (A':Around) x y (C:Bool->Shared->Prop) (s':Shared),A'.units+5 < cLine->(∀ b o,s.heap.get? b=some o->s'.heap.get? b=some o)->x∈vs->y∈vs->(∀ tk,C (decide (kval x < kval y)) { s' with toks:=tk })->wpAny (model prog w) A' (keyLt' κ x y) C (fun _ _=>False) s')
  (h:∀ (h1 h2:Heap) (tk e:Nat) (out:List Value),out.Perm vs->out.Pairwise (fun x y=>kval x<=kval y)->(∀ b o,s.heap.get? b=some o->h1.get? b=some o)->h2.get? h1.objs.size=some (seqObj "list" out.toArray e)->
   (∀ b o,h1.get? b=some o->h2.get? b=some o)->Q (.ref h1.objs.size) { s with heap:=h2,toks:=tk }) :
  wpAny (model prog w) A (call (.builtin "sorted") [.ref p]) Q E s:=by
 refine Calls.call_function_entry kind_sorted plain_sorted entry_sorted (args_sorted1 _) ?_
 unfold Builtin.«sorted»
 refine wpAny_bind (m:=checkCount "sorted" 1 1 _) (wpAny_pure ?_)
 have big:1000<=sizeLine:=by decide
 have hz':vs.length<=sizeLine:=by omega
 refine wpAny_bind (collect_list hL ?_ hz')
 generalize hh':(Heap.update _ _ _)=h'
 have hk':∀ b o,s.heap.get? b=some o->h'.get? b=some o:=fun b o e=>by
  rw[<-hh']
  exact (Y15 _ _ (Nat.ne_of_gt (Y07 e))).trans (Y02 _ e)
 refine wpAny_bind (wpAny_newList ?_ hz')
 have hD:(h'.push (seqObj "list" vs.toArray 0)).get? h'.objs.size=some (seqObj "list" vs.toArray 0):=Y0a _ rfl
 have old:∀ out b o,h'.get? b=some o->(sortedHeap (h'.push (seqObj "list" vs.toArray 0)) h'.objs.size vs out).get? b=some o:=fun out b o q1=>by
  have q2:=Y07 q1
  rw[sortedHeap_old (Y0k q2) (by rw[Y1u]; exact Y1h q2)]
  exact Y02 _ q1
 have mid:∀ b o,s.heap.get? b=some o->(Z1e (h'.push (seqObj "list" vs.toArray 0)) h'.objs.size vs).get? b=some o:=fun b o q1=>by
  have q2:=hk' b o q1
  exact Z5s (Y0k (Y07 q2)) (Y02 _ q2)
 rcases Y0j vs.length 2 with c | c
 ·refine wpAny_bind (wpAny_holding (wpAny_call_entry slot_list_sort ⟨_,Y0a _ rfl,rfl⟩ entry_list_sort (Z4X hD c ⟨_,rfl,?_⟩) (args_list_sort _)))
  obtain⟨e,he⟩:=sortedHeap_at (out:=vs.toArray) (n:=0) hD
  refine wpAny_pure ⟨_,rfl,h h' _ s.toks e vs (List.Perm.refl _) ?_ hk' he (old _)⟩
  refine Y1v.mpr fun i j hi hj hij=>?_
  omega
 ·refine wpAny_bind (wpAny_holding (wpAny_call_entry slot_list_sort ⟨_,Y0a _ rfl,rfl⟩ entry_list_sort (Z5l kval κ hD c hz (fun E' R tk hR=>hk c _ E' R _ ?_ mid hR) (fun x y hx hy C tk hC=>hc c _ x y C _ ?_ mid hx hy hC) (fun out tk p1 p2=>⟨_,rfl,?_⟩)) (args_list_sort _)))
  ·simp; omega
  ·simp; omega
  ·obtain⟨e,he⟩:=sortedHeap_at (out:=out.toArray) (n:=0) hD
   exact wpAny_pure ⟨_,rfl,h h' _ tk e out p1 p2 hk' he (old _)⟩
end L2
namespace Sq
open PySem
def txt (l:List Nat):Str:=⟨l.toArray⟩
end Sq
namespace L2
open PySem PySem.Spec PyProof.Rows PySem.W
abbrev EvT:=Int×Nat×Nat
def Z6j (e:EvT):List Int:=[e.1,(e.2.1:Int),(e.2.2:Int)]
def ch1 (c:Nat):Str:=⟨#[c]⟩
def evd (e:EvT):PyData:=.tuple [.int e.1,.int (e.2.1:Int),.str (ch1 e.2.2)]
theorem Z8g (e f:EvT):HT.lexLt (Z6j e) (Z6j f)=if e.1=f.1 then (if e.2.1=f.2.1 then (if e.2.2=f.2.2 then false else decide (e.2.2 < f.2.2)) else decide (e.2.1 < f.2.1)) else decide (e.1 < f.1):=by
 show HT.lexLt (e.1 :: (e.2.1:Int) :: (e.2.2:Int) :: []) (f.1 :: (f.2.1:Int) :: (f.2.2:Int) :: [])=_
 rw[HT.lexLt_cons,HT.lexLt_cons,HT.lexLt_cons]
 by_cases c1:e.1=f.1
 ·rw[if_pos c1,if_pos c1]
  by_cases c2:e.2.1=f.2.1
  ·rw[if_pos c2,if_pos (by omega)]
   by_cases c3:e.2.2=f.2.2
   ·rw[if_pos c3,if_pos (by omega)]; exact Z6v []
   ·rw[if_neg c3,if_neg (by omega)]; exact decide_eq_decide.mpr ⟨fun h=>by omega,fun h=>by omega⟩
  ·rw[if_neg c2,if_neg (by omega)]; exact decide_eq_decide.mpr ⟨fun h=>by omega,fun h=>by omega⟩
 ·rw[if_neg c1,if_neg c1]
theorem Zbj (a b:Nat):(ch1 a == ch1 b)=decide (a=b):=by
 by_cases h:a=b
 ·subst h; simp
 ·have:ch1 a≠ch1 b:=fun q=>h (by have:=congrArg (fun s:Str=>s.cps.toList) q; simpa [ch1] using this)
  rw[decide_eq_false h]; simpa using this
theorem ZeP (a b:Nat):decide ((ch1 a).cps.toList < (ch1 b).cps.toList)=decide (a < b):=by
 refine decide_eq_decide.mpr ?_
 show ([a]:List Nat) < [b]↔_
 rw[List.cons_lt_cons_iff]
 constructor
 ·rintro (h | ⟨_,h⟩)
  ·exact h
  ·exact absurd h (by simp)
 ·exact .inl
theorem Z5b {h:Heap}{x:Value}{e:EvT}{as:List Addr}(r:Reads h x (evd e) as):∃ (p:Addr) (o:Obj) (vs:Array Value) (n:Nat) (t t' t'':Tok),x=.ref p/\h.get? p=some o/\o.cls=.type "tuple"/\o.data=.seq vs n/\vs.toList=[.int e.1 t,.int (e.2.1:Int) t',.str (ch1 e.2.2) t'']:=by
 cases r with
 | tuple h1 h2 h3 h4=>
  rename_i p o vs n
  generalize hv:vs.toList=L at h4
  cases h4 with
  | cons r1 t1=>
   cases t1 with
   | cons r2 t2=>
    cases t2 with
    | cons r3 t3=>
     cases t3
     cases r1 with
     | int _ t=>
      cases r2 with
      | int _ t'=>
       cases r3 with
       | str _ t''=>exact⟨p,o,vs,n,t,t',t'',rfl,h1,h2,h3,hv⟩
theorem Zds {prog:Program}{w:World}{A:Around}{E:Value->Shared->Prop}{s:Shared}{x y:Value}{e f:EvT}{as bs:List Addr}{Q:Bool->Shared->Prop}(rx:Reads s.heap x (evd e) as)(ry:Reads s.heap y (evd f) bs)(hu:A.units+4 < cLine)
  (h:Q (HT.lexLt (Z6j e) (Z6j f)) s):wpAny (model prog w) A (keyLt' (tuples' true) x y) Q E s:=by
 obtain⟨p,o,vs,n,t1,t2,t3,rfl,g1,_,g3,gv⟩:=Z5b rx
 obtain⟨p',o',ws,n',t1',t2',t3',rfl,k1,_,k3,kv⟩:=Z5b ry
 refine kat_lt g1 g3 k1 k3 ?_
 have e1:vs.size=3:=by rw[<-Array.length_toList,gv]; rfl
 have e2:ws.size=3:=by rw[<-Array.length_toList,kv]; rfl
 rw[gv,kv,e1,e2]
 rw[Z8g]at h
 refine kat_cons (SeqAt.EqAt.int_int (A:=A) (s:=s) e.1 t1 f.1 t1' prog w _ _ (kat_go (fun q=>kat_yes ?_) (fun q=>kat_no ?_)))
 ·have ea:e.1=f.1:=eq_of_beq q
  rw[if_pos ea]at h
  refine kat_cons (SeqAt.EqAt.int_int (A:=A) (s:=s) (e.2.1:Int) t2 (f.2.1:Int) t2' prog w _ _ (kat_go (fun q=>kat_yes ?_) (fun q=>kat_no ?_)))
  ·have eb:e.2.1=f.2.1:=by have:=eq_of_beq q; omega
   rw[if_pos eb]at h
   refine kat_cons (SeqAt.EqAt.str_str (A:=A) (s:=s) (ch1 e.2.2) t3 (ch1 f.2.2) t3' prog w _ _ (kat_go (fun q=>kat_yes (kat_nil ?_)) (fun q=>kat_no ?_)))
   ·rw[Zbj]at q
    rw[if_pos (of_decide_eq_true q)]at h
    exact h
   ·rw[Zbj]at q
    rw[if_neg (of_decide_eq_false q)]at h
    show wpAny (model prog w) A (oneLt' false _ _) Q _ s
    refine kat_one _ _ (lt_str ?_)
    show Q (decide ((ch1 e.2.2).cps.toList < (ch1 f.2.2).cps.toList)) s
    rw[ZeP]; exact h
  ·have eb:¬ e.2.1=f.2.1:=fun z=>by rw[z]at q; simp at q
   rw[if_neg eb]at h
   show wpAny (model prog w) A (oneLt' false _ _) Q _ s
   refine kat_one _ _ (Z7N A s e.2.1 f.2.1 t2 t2' prog w _ _ ?_)
   have ed:decide ((e.2.1:Int) < (f.2.1:Int))=decide (e.2.1 < f.2.1):=decide_eq_decide.mpr ⟨fun h=>by omega,fun h=>by omega⟩
   rw[ed]; exact h
 ·have ea:¬ e.1=f.1:=fun z=>by rw[z]at q; simp at q
  rw[if_neg ea]at h
  show wpAny (model prog w) A (oneLt' true _ _) Q _ s
  exact oneLt_int h
theorem Zgf {K:Y00}{H:Hp}{x:Addr}{e:EvT}(h:H x=some (.tup [.int e.1,.int (e.2.1:Int),.str (ch1 e.2.2)])):Dt K H (.ref x) (evd e):=.tup (SqT.of h) (.cons (.int _) (.cons (.int _) (.cons (.str _) .nil)))
section
variable {X:Cx}
def Z9S (K:Y00):List V->Hp->VK->Prop:=fun xs H Q=>∃ (p:Addr) (as:List Addr) (T:Addr->EvT),xs=[.ref p]/\SqL K H p (as.map V.ref)/\as.length<=1000/\
 (∀ a∈as,H a=some (.tup [.int (T a).1,.int ((T a).2.1:Int),.str (ch1 (T a).2.2)]))/\
 ∀ (l:Addr) (out:List Addr),H l=none->out.Perm as->out.Pairwise (fun a b=>HT.lexLt (Z6j (T b)) (Z6j (T a))=false)->Q (.ref l) (upd H l (.lst (out.map V.ref)))
theorem Z65 (hc:X.calm=true)(hu:X.A.units+10 < cLine):Z2F X (.builtin "sorted") (Z9S X.K):=by
 intro pins s σ H xs us Q I rr h
 obtain⟨p,as,T,rfl,hq,hz,hB,q⟩:=h
 obtain⟨u,rfl,ru⟩:=Z3J rr
 obtain rfl:u=Value.ref p:=ru
 obtain⟨its,rv,pl,hz0⟩:=I.list hq
 have ei:=Z5T rv
 subst ei
 have hlen:(as.map Value.ref).length=as.length:=Y08 ..
 let lt:Nat->Nat->Bool:=fun i j=>HT.lexLt (Z6j (T (as.getD i 0))) (Z6j (T (as.getD j 0)))
 let ix:Addr->Nat:=fun a=>as.idxOf a
 have hix:∀ a∈as,ix a < as.length/\as.getD (ix a) 0=a:=fun a ha=>by
  have h1:as.idxOf a < as.length:=List.idxOf_lt_length_iff.mpr ha
  refine⟨h1,?_⟩
  show as.getD (as.idxOf a) 0=a
  rw[Y0i,Y01 h1,List.getElem_idxOf h1]; rfl
 let kval:Value->Nat:=fun v=>match v with | .ref a=>Zcj lt as.length (ix a) | _=>0
 have hkl:∀ a b,a∈as->b∈as->decide (kval (.ref a) < kval (.ref b))=HT.lexLt (Z6j (T a)) (Z6j (T b)):=fun a b ha hb=>by
  obtain⟨i1,i2⟩:=hix a ha
  obtain⟨j1,j2⟩:=hix b hb
  have:=ZbB (lt:=lt) (n:=as.length) (fun i=>Z6v _) (fun i j k h1 h2=>Z98 (b:=Z6j (T (as.getD j 0))) h1 h2) (fun i j k h=>ZdF (b:=Z6j (T (as.getD j 0))) h) i1 j1
  show decide (Zcj lt as.length (ix a) < Zcj lt as.length (ix b))=_
  have e:kl (Zcj lt as.length) (ix a) (ix b)=decide (Zcj lt as.length (ix a) < Zcj lt as.length (ix b)):=rfl
  rw[<-e,this]
  show HT.lexLt (Z6j (T (as.getD (ix a) 0))) (Z6j (T (as.getD (ix b) 0)))=_
  rw[i2,j2]
 have hrd:∀ a∈as,∃ ps,Reads s.heap (.ref a) (evd (T a)) ps:=fun a ha=>Dt.reads I (Zgf (hB a ha)) rfl
 have hfst:∀ i,∃ v:Value,i < as.length->∃ (t:Tok) (o:Obj) (xs:Array Value) (n:Nat),v=.int (T (as.getD i 0)).1 t/\s.heap.get? (as.getD i 0)=some o/\o.cls=.type "tuple"/\o.data=.seq xs n/\xs[0]?=some v:=fun i=>by
  by_cases hi:i < as.length
  ·have hm:as.getD i 0∈as:=by rw[Y0i,Y01 hi]; exact List.getElem_mem hi
   obtain⟨ps,r⟩:=hrd _ hm
   obtain⟨p',o,vs,n,t,t',t'',e,g1,g2,g3,gv⟩:=Z5b r
   injection e with e
   rw[<-e]at g1
   exact⟨.int (T (as.getD i 0)).1 t,fun _=>⟨t,o,vs,n,rfl,g1,g2,g3,by rw[<-Array.getElem?_toList,gv]; rfl⟩⟩
  ·exact⟨.none,fun z=>absurd z hi⟩
 refine Z3U kval (tuples' true) pl.isList (by rw[hlen]; exact hz) (I.ok.hd hc) hu (fun c A' E' R s' _ hs hR=>?_) (fun c A' x y C' s' hu' hs hx hy hC=>?_) (fun h1 h2 tk e out p1 p2 hk he hk2=>?_)
 ·let F:Nat->Value:=fun i=>Classical.choose (hfst i)
  have hF:∀ i,i < as.length->∃ (t:Tok) (o:Obj) (xs:Array Value) (n:Nat),F i=.int (T (as.getD i 0)).1 t/\s.heap.get? (as.getD i 0)=some o/\o.cls=.type "tuple"/\o.data=.seq xs n/\xs[0]?=some (F i):=fun i hi=>Classical.choose_spec (hfst i) hi
  refine kat_kind (T:=.type "int") (Z7y F fun i hi=>?_) (by simp; rw[hlen]at c; omega) (fun v hv=>?_) rfl (hR s'.toks)
  ·obtain⟨t,o,xs,n,_,g1,g2,g3,g4⟩:=hF i hi
   exact⟨o,xs,n,hs _ _ g1,g2,g3,g4⟩
  ·obtain⟨i,hi,rfl⟩:=Y0f.mp hv
   obtain⟨t,_,_,_,e,_⟩:=hF i (Y06.mp hi)
   rw[e]
   exact fun A'' Q'' E'' s'' hs'' q''=>wpAny_pure q''
 ·obtain⟨a,ha,rfl⟩:=Y0f.mp hx
  obtain⟨b,hb,rfl⟩:=Y0f.mp hy
  obtain⟨pa,ra⟩:=hrd a ha
  obtain⟨pb,rb⟩:=hrd b hb
  have hC:=hC s'.toks
  rw[hkl a b ha hb]at hC
  exact Zds (Reads.keeps hs ra) (Reads.keeps hs rb) (by omega) hC
 ·obtain⟨bs,hbs⟩:∃ bs:List Addr,out=bs.map Value.ref/\bs.Perm as:=by
   have:∀ (out:List Value),(∀ v∈out,∃ a,v=.ref a)->∃ bs:List Addr,out=bs.map Value.ref:=fun out=>by
    induction out with
    | nil=>intro _; exact⟨[],rfl⟩
    | cons v vs ih=>
     intro hv
     obtain⟨a,rfl⟩:=hv v (Y1t ..)
     obtain⟨bs,rfl⟩:=ih fun u hu=>hv u (Y0m _ hu)
     exact⟨a :: bs,rfl⟩
   obtain⟨bs,rfl⟩:=this out fun v hv=>by
    obtain⟨a,_,rfl⟩:=Y0f.mp (p1.mem_iff.mp hv)
    exact⟨a,rfl⟩
   have hinj:=p1.map (fun v:Value=>match v with | .ref a=>a | _=>0)
   rw[List.map_map,List.map_map]at hinj
   have e:((fun v:Value=>match v with | .ref a=>a | _=>0) ∘ Value.ref)=(id:Addr->Addr):=rfl
   rw[e,List.map_id,List.map_id]at hinj
   exact⟨bs,rfl,hinj⟩
  obtain⟨rfl,pb⟩:=hbs
  have I1:Inv X pins σ H { s with heap:=h1,toks:=tk }:=I.kept hk
  refine⟨.ref h1.objs.size,_,I1.laid (a:=h1.objs.size) (o:=.lst (bs.map V.ref)) (h':=h2) (t':=tk) hk2 (Y03 _) ⟨?_,_,e,Z8o _,he⟩,rfl,q _ bs (I1.hok.fresh (Y03 _)) pb ?_⟩
  ·rw[Y08,pb.length_eq]; have:1000<=sizeLine:=by decide
   omega
  ·have p3:=Y0t.mp p2
   refine p3.imp_of_mem fun {a b} ha hb hab=>?_
   have:=hkl b a (pb.mem_iff.mp hb) (pb.mem_iff.mp ha)
   rw[<-this]
   exact decide_eq_false (by omega)
end
end L2
namespace Sq
open PySem L2
def scE (c:Int)(e:Sq.Ev):Sq.Ev:=(c * e.1,e.2)
def Res.sc (c:Int):Res->Res
 | .there s=>.there s
 | .corner s t=>.corner s (c * t)
section
variable {n:Nat}{r u F:List Nat}{p q U:Int}
theorem Z3u (c:Int):∀ (L:List Sq.Ev) (s:Nat),Z2p r u F (L.map (scE c)) s=(Z2p r u F L s).sc c
 | [],s=>rfl
 | e :: L,s=>by
  show (if e.2.1=1 then (if s∈F then Res.corner s (c * e.1) else Z2p r u F (L.map (scE c)) s) else Z2p r u F (L.map (scE c)) (mvE r u s e.2.2))=(if e.2.1=1 then (if s∈F then Res.corner s e.1 else Z2p r u F L s) else Z2p r u F L (mvE r u s e.2.2)).sc c
  rw[Z3u c L,Z3u c L]
  split
  ·split <;> rfl
  ·rfl
theorem Zba {c x t':Int}(hc:0 < c)(hp:p≠0)(hU:p∣U)(hx:p∣x):c * U∣c * x+p * t'↔∃ t,t'=c * t/\U∣x+p * t:=by
 obtain⟨U',rfl⟩:=hU
 obtain⟨x',rfl⟩:=hx
 constructor
 ·rintro ⟨k,hk⟩
  have e:p * t'=p * (c * (U' * k - x')):=by
   have:p * t'=c * (p * U') * k - c * (p * x'):=by lia
   rw[this,Int.mul_sub,Int.mul_sub]
   congr 1
   ·ac_rfl
   ·ac_rfl
  refine⟨U' * k - x',Int.eq_of_mul_eq_mul_left hp e,k,?_⟩
  rw[Int.mul_sub,<-Int.mul_assoc]; lia
 ·rintro ⟨t,rfl,k,hk⟩
  refine⟨k,?_⟩
  have:c * (p * x')+p * (c * t)=c * (p * x' + p * t):=by rw[Int.mul_add]; congr 1; ac_rfl
  rw[this,hk]; ac_rfl
theorem Z5y {c t T:Int}(hc:0 < c):c * t<=c * T↔t<=T:=⟨fun h=>Int.le_of_mul_le_mul_left h hc,fun h=>Int.mul_le_mul_of_nonneg_left h (by lia)⟩
theorem Z7S {c t T:Int}(hc:0 < c):c * t < c * T↔t < T:=⟨fun h=>Int.lt_of_mul_lt_mul_left h (by lia),fun h=>Int.mul_lt_mul_of_pos_left h hc⟩
theorem Zfb {c t:Int}(hc:0 < c):0 < c * t↔0 < t:=by have:=Z7S (t:=0) (T:=t) hc; rwa [Int.mul_zero]at this
theorem Zcb {c t:Int}(hc:0 < c):0<=c * t↔0<=t:=by have:=Z5y (t:=0) (T:=t) hc; rwa [Int.mul_zero]at this
theorem Zdr {a:Spt}{T c:Int}{L:List Sq.Ev}(hc:0 < c)(o:WOk p q U)(h:SIn n p q U a)(hL:Lst p q U a T L):Lst p q (c * U) ⟨a.s,c * a.x,c * a.y⟩ (c * T) (L.map (scE c)):=by
 refine⟨?_,fun e'=>?_⟩
 ·refine Y0t.mpr (hL.1.imp fun {e f} hef=>?_)
  unfold ltE scE at *
  rcases hef with h1 | ⟨h1,h2⟩
  ·exact .inl ((Z7S hc).mpr h1)
  ·exact .inr ⟨by show c * e.1=c * f.1; rw[h1],h2⟩
 ·obtain⟨t',k⟩:=e'
  have ex:∀ (P:Prop),(∃ e,e∈L/\scE c e=(t',k))↔∃ t,t'=c * t/\PE p q U a T (t,k):=fun _=>by
   constructor
   ·rintro ⟨⟨t,k'⟩,m,e⟩
    have e:(c * t,k')=(t',k):=e
    injection e with e1 e2
    subst e1; subst e2
    exact⟨t,rfl,(hL.2 _).mp m⟩
   ·rintro ⟨t,rfl,m⟩
    exact⟨(t,k),(hL.2 _).mpr m,rfl⟩
  rw[Y0f,ex True]
  have dx:=fun (hp:p≠0) (t':Int)=>Zba (t':=t') (x:=a.x) hc hp (o.p hp) (h.px hp)
  have dy:=fun (hq:q≠0) (t':Int)=>Zba (p:=q) (t':=t') (x:=a.y) hc hq (o.q hq) (h.qy hq)
  have one:∀ {x v t:Int},U∣x+v * t->c * U∣c * x+v * (c * t):=fun {x v t} ⟨k,hk⟩=>⟨k,by
   have:c * x+v * (c * t)=c * (x+v * t):=by rw[Int.mul_add]; congr 1; ac_rfl
   rw[this,hk,Int.mul_assoc]⟩
  have two:∀ {x v t:Int},c * U∣c * x+v * (c * t)->U∣x+v * t:=fun {x v t} h=>by
   have:c * x+v * (c * t)=c * (x+v * t):=by rw[Int.mul_add]; congr 1; ac_rfl
   rw[this]at h
   exact Int.dvd_of_mul_dvd_mul_left (by lia) h
  unfold PE
  constructor
  ·rintro ⟨t,rfl,(⟨e,h1,h2,h3,h4⟩ | ⟨e,h1,h2,h3,h4⟩ | ⟨e,h1,h2,h3,h4⟩ | ⟨e,h1,h2,h3,h4⟩ | ⟨e,h2,h3,h4,h5⟩)⟩
   ·exact .inl ⟨e,h1,(Zfb hc).mpr h2,(Z5y hc).mpr h3,one h4⟩
   ·exact .inr (.inl ⟨e,h1,(Zfb hc).mpr h2,(Z5y hc).mpr h3,one h4⟩)
   ·exact .inr (.inr (.inl ⟨e,h1,(Zcb hc).mpr h2,(Z7S hc).mpr h3,one h4⟩))
   ·exact .inr (.inr (.inr (.inl ⟨e,h1,(Zcb hc).mpr h2,(Z7S hc).mpr h3,one h4⟩)))
   ·exact .inr (.inr (.inr (.inr ⟨e,(Zcb hc).mpr h2,(Z5y hc).mpr h3,one h4,one h5⟩)))
  ·rintro (⟨e,h1,h2,h3,h4⟩ | ⟨e,h1,h2,h3,h4⟩ | ⟨e,h1,h2,h3,h4⟩ | ⟨e,h1,h2,h3,h4⟩ | ⟨e,h2,h3,h4,h5⟩)
   ·obtain⟨t,rfl,g⟩:=(dx (by lia) _).mp h4
    exact⟨t,rfl,.inl ⟨e,h1,(Zfb hc).mp h2,(Z5y hc).mp h3,g⟩⟩
   ·obtain⟨t,rfl,g⟩:=(dy (by lia) _).mp h4
    exact⟨t,rfl,.inr (.inl ⟨e,h1,(Zfb hc).mp h2,(Z5y hc).mp h3,g⟩)⟩
   ·obtain⟨t,rfl,g⟩:=(dx (by lia) _).mp h4
    exact⟨t,rfl,.inr (.inr (.inl ⟨e,h1,(Zcb hc).mp h2,(Z7S hc).mp h3,g⟩))⟩
   ·obtain⟨t,rfl,g⟩:=(dy (by lia) _).mp h4
    exact⟨t,rfl,.inr (.inr (.inr (.inl ⟨e,h1,(Zcb hc).mp h2,(Z7S hc).mp h3,g⟩)))⟩
   ·by_cases hp:p=0
    ·have hq:q≠0:=fun z=>o.n ⟨hp,z⟩
     obtain⟨t,rfl,g⟩:=(dy hq _).mp h5
     exact⟨t,rfl,.inr (.inr (.inr (.inr ⟨e,(Zcb hc).mp h2,(Z5y hc).mp h3,two h4,g⟩)))⟩
    ·obtain⟨t,rfl,g⟩:=(dx hp _).mp h4
     exact⟨t,rfl,.inr (.inr (.inr (.inr ⟨e,(Zcb hc).mp h2,(Z5y hc).mp h3,g,two h5⟩)))⟩
end
def LnE (top bot by_ sc T:Int)(c0 c1:Nat)(e:Sq.Ev):Prop:=
 (0 < by_/\∃ m:Int,1<=m/\e=((m * bot - top) * sc,0,c0)/\e.1<=T)\/(by_ < 0/\∃ m:Int,0<=m/\e=((top+m * bot) * sc,2,c1)/\e.1 < T)
theorem ZeM {top bot p sc t:Int}(hb:0 < bot)(hs:0 < sc)(hp:0 < p):bot * sc * p∣top * sc * p+p * t↔∃ m:Int,t=(m * bot - top) * sc:=by
 constructor
 ·rintro ⟨m,hm⟩
  refine⟨m,?_⟩
  have e:p * t=p * ((m * bot - top) * sc):=by
   have:p * t=bot * sc * p * m - top * sc * p:=by lia
   rw[this,Int.sub_mul,Int.mul_sub]
   congr 1 <;> ac_rfl
  exact Int.eq_of_mul_eq_mul_left (by lia) e
 ·rintro ⟨m,rfl⟩
  refine⟨m,?_⟩
  rw[Int.sub_mul,Int.mul_sub]
  have e1:p * (m * bot * sc)=bot * sc * p * m:=by ac_rfl
  have e2:p * (top * sc)=top * sc * p:=by ac_rfl
  lia
theorem Zd9 {top bot p sc t:Int}(hb:0 < bot)(hs:0 < sc)(hp:p < 0):bot * sc * -p∣top * sc * -p+p * t↔∃ m:Int,t=(top+m * bot) * sc:=by
 obtain⟨k,rfl⟩:∃ k,p=-k:=⟨-p,by lia⟩
 rw[Int.neg_neg]
 constructor
 ·rintro ⟨m,hm⟩
  refine⟨-m,?_⟩
  have e:k * t=k * ((top + -m * bot) * sc):=by
   have h1:-k * t=-(k * t):=by rw[Int.neg_mul]
   have:k * t=top * sc * k - bot * sc * k * m:=by lia
   rw[this,Int.add_mul,Int.mul_add,Int.neg_mul,Int.neg_mul,Int.mul_neg,<-Int.sub_eq_add_neg]
   congr 1 <;> ac_rfl
  exact Int.eq_of_mul_eq_mul_left (by lia) e
 ·rintro ⟨m,rfl⟩
  refine⟨-m,?_⟩
  rw[Int.add_mul,Int.mul_add,Int.neg_mul,Int.neg_mul,Int.mul_neg]
  have e1:k * (m * bot * sc)=bot * sc * k * m:=by ac_rfl
  have e2:k * (top * sc)=top * sc * k:=by ac_rfl
  lia
theorem Z6V {top bot p sc mp t:Int}(hb:0 < bot)(hs:0 < sc)(h0:0<=top)(h1:top < bot)(hm:mp=if p=0 then 1 else (p.natAbs:Int)):bot * sc * mp∣top * sc * mp+p * t↔(0 < p/\∃ m:Int,t=(m * bot - top) * sc)\/(p < 0/\∃ m:Int,t=(top+m * bot) * sc)\/(p=0/\top=0):=by
 rcases Int.lt_trichotomy p 0 with g | g | g
 ·rw[if_neg (by lia),show ((p.natAbs:Nat):Int)=-p by lia]at hm
  rw[hm,Zd9 hb hs g]
  exact⟨fun h=>.inr (.inl ⟨g,h⟩),fun h=>by rcases h with ⟨q,_⟩ | ⟨_,h⟩ | ⟨q,_⟩ <;> first | exact h | lia⟩
 ·rw[if_pos g]at hm
  subst g
  rw[hm,Int.mul_one,Int.mul_one,Int.zero_mul,Int.add_zero]
  constructor
  ·intro h
   refine .inr (.inr ⟨rfl,?_⟩)
   have:=Int.dvd_of_mul_dvd_mul_right (show sc≠0 by lia) h
   rcases Int.lt_or_le 0 top with q | q
   ·have:=Int.le_of_dvd q this; lia
   ·lia
  ·rintro (⟨q,_⟩ | ⟨q,_⟩ | ⟨_,q⟩)
   ·lia
   ·lia
   ·rw[q,Int.zero_mul]; exact Int.dvd_zero _
 ·rw[if_neg (by lia),show ((p.natAbs:Nat):Int)=p by lia]at hm
  rw[hm,ZeM hb hs g]
  exact⟨fun h=>.inl ⟨g,h⟩,fun h=>by rcases h with ⟨_,h⟩ | ⟨q,_⟩ | ⟨q,_⟩ <;> first | exact h | lia⟩
theorem Zel {top bot sc m:Int}(hb:0 < bot)(hs:0 < sc)(h0:0<=top)(h1:top < bot):0 < (m * bot - top) * sc↔1<=m:=by
 have e:0 < (m * bot - top) * sc↔0 < m * bot - top:=by
  constructor
  ·intro h; rcases Int.lt_or_le 0 (m * bot - top) with q | q
   ·exact q
   ·have:=Int.mul_nonpos_of_nonpos_of_nonneg q (show 0<=sc by lia); lia
  ·intro h; exact Int.mul_pos h hs
 rw[e]
 constructor
 ·intro h
  rcases Int.lt_or_le 0 m with q | q
  ·exact q
  ·have:=Int.mul_nonpos_of_nonpos_of_nonneg q (show 0<=bot by lia); lia
 ·intro h
  have:=Int.mul_le_mul_of_nonneg_right h (show 0<=bot by lia)
  rw[Int.one_mul]at this; lia
theorem Zdd {top bot sc m:Int}(hb:0 < bot)(hs:0 < sc)(h0:0<=top)(h1:top < bot):0<=(top+m * bot) * sc↔0<=m:=by
 have e:0<=(top+m * bot) * sc↔0<=top+m * bot:=by
  constructor
  ·intro h; rcases Int.lt_or_le (top+m * bot) 0 with q | q
   ·have:=Int.mul_neg_of_neg_of_pos q hs; lia
   ·exact q
  ·intro h; exact Int.mul_nonneg h (by lia)
 rw[e]
 constructor
 ·intro h
  rcases Int.lt_or_le m 0 with q | q
  ·have:=Int.mul_le_mul_of_nonneg_right (show m<=-1 by lia) (show 0<=bot by lia)
   rw[Int.neg_mul,Int.one_mul]at this; lia
  ·exact q
 ·intro h
  have:=Int.mul_nonneg h (show 0<=bot by lia); lia
def WsE (top bot p sc:Int)(t:Int):Prop:=(0 < p/\∃ m:Int,t=(m * bot - top) * sc)\/(p < 0/\∃ m:Int,t=(top+m * bot) * sc)\/(p=0/\top=0)
abbrev m1 (p:Int):Int:=if p=0 then 1 else (p.natAbs:Int)
theorem Ze2 {xt xb yt yb p q T:Int}{s:Nat}{E:List Sq.Ev}(hxb:0 < xb)(hyb:0 < yb)(x0:0<=xt)(x1:xt < xb)(y0:0<=yt)(y1:yt < yb)(pw:E.Pairwise ltE)
  (hE:∀ e,e∈E↔LnE xt xb p (yb * m1 q) T 114 108 e\/LnE yt yb q (xb * m1 p) T 117 100 e\/(e.2=(1,99)/\0<=e.1/\e.1<=T/\WsE xt xb p (yb * m1 q) e.1/\WsE yt yb q (xb * m1 p) e.1)) :
  Lst p q (xb * (yb * m1 q) * m1 p) ⟨s,xt * (yb * m1 q) * m1 p,yt * (xb * m1 p) * m1 q⟩ T E:=by
 refine⟨pw,fun e=>?_⟩
 have mp0:∀ p:Int,0 < m1 p:=fun p=>by unfold m1; split <;> lia
 have sx:0 < yb * m1 q:=Int.mul_pos hyb (mp0 q)
 have sy:0 < xb * m1 p:=Int.mul_pos hxb (mp0 p)
 have eU:xb * (yb * m1 q) * m1 p=yb * (xb * m1 p) * m1 q:=by ac_rfl
 have dx:=fun t=>Z6V (t:=t) (p:=p) hxb sx x0 x1 rfl
 have dy:=fun t=>Z6V (t:=t) (p:=q) hyb sy y0 y1 rfl
 rw[hE]
 unfold PE
 dsimp only
 obtain⟨t,k⟩:=e
 have Dx:=dx t
 have Dy:=dy t
 rw[<-eU]at Dy
 have Ux:(xb * (yb * m1 q) * m1 p∣xt * (yb * m1 q) * m1 p+p * t)↔WsE xt xb p (yb * m1 q) t:=Dx
 have Uy:(xb * (yb * m1 q) * m1 p∣yt * (xb * m1 p) * m1 q+q * t)↔WsE yt yb q (xb * m1 p) t:=Dy
 dsimp only
 rw[Ux,Uy]
 have L1:∀ {top bot v sc:Int} {c0 c1:Nat},0 < bot->0 < sc->0<=top->top < bot->(LnE top bot v sc T c0 c1 (t,k)↔(k=(0,c0)/\0 < v/\0 < t/\t<=T/\WsE top bot v sc t)\/(k=(2,c1)/\v < 0/\0<=t/\t < T/\WsE top bot v sc t)):=fun {top bot v sc c0 c1} hb hs h0 h1=>by
  unfold LnE WsE
  constructor
  ·rintro (⟨g,m,hm,e,hT⟩ | ⟨g,m,hm,e,hT⟩)
   ·injection e with e1 e2
    exact .inl ⟨e2,g,by rw[e1]; exact (Zel hb hs h0 h1).mpr hm,hT,.inl ⟨g,m,e1⟩⟩
   ·injection e with e1 e2
    exact .inr ⟨e2,g,by rw[e1]; exact (Zdd hb hs h0 h1).mpr hm,hT,.inr (.inl ⟨g,m,e1⟩)⟩
  ·rintro (⟨e2,g,ht,hT,(⟨_,m,e⟩ | ⟨z,_⟩ | ⟨z,_⟩)⟩ | ⟨e2,g,ht,hT,(⟨z,_⟩ | ⟨_,m,e⟩ | ⟨z,_⟩)⟩)
   ·exact .inl ⟨g,m,by rw[e]at ht; exact (Zel hb hs h0 h1).mp ht,by rw[e2,e],hT⟩
   ·lia
   ·lia
   ·lia
   ·exact .inr ⟨g,m,by rw[e]at ht; exact (Zdd hb hs h0 h1).mp ht,by rw[e2,e],hT⟩
   ·lia
 rw[L1 hxb sx x0 x1,L1 hyb sy y0 y1]
 constructor
 ·rintro ((h | h) | (h | h) | h)
  ·exact .inl h
  ·exact .inr (.inr (.inl h))
  ·exact .inr (.inl h)
  ·exact .inr (.inr (.inr (.inl h)))
  ·exact .inr (.inr (.inr (.inr h)))
 ·rintro (h | h | h | h | h)
  ·exact .inl (.inl h)
  ·exact .inr (.inl (.inl h))
  ·exact .inl (.inr h)
  ·exact .inr (.inl (.inr h))
  ·exact .inr (.inr h)
theorem Z5v {L:List Sq.Ev}(nd:L.Nodup)(h:L.Pairwise (fun a b=>HT.lexLt (Z6j b) (Z6j a)=false)):L.Pairwise ltE:=by
 refine (List.pairwise_and_iff.mpr ⟨nd,h⟩).imp fun {a b} ⟨hn,hl⟩=>?_
 rw[Z8g]at hl
 unfold ltE
 obtain⟨a1,a2,a3⟩:=a
 obtain⟨b1,b2,b3⟩:=b
 dsimp only at *
 by_cases c1:b1=a1
 ·rw[if_pos c1]at hl
  by_cases c2:b2=a2
  ·rw[if_pos c2]at hl
   by_cases c3:b3=a3
   ·exact absurd (by rw[c1,c2,c3]) hn
   ·rw[if_neg c3]at hl
    have:=of_decide_eq_false hl
    exact .inr ⟨c1.symm,.inr ⟨c2.symm,by lia⟩⟩
  ·rw[if_neg c2]at hl
   have:=of_decide_eq_false hl
   exact .inr ⟨c1.symm,.inl (by lia)⟩
 ·rw[if_neg c1]at hl
  have:=of_decide_eq_false hl
  exact .inl (by lia)
end Sq
namespace L2
open PySem PySem.Spec PyProof.Rows
def Bt (n:Nat)(i:Int):Prop:=i.natAbs < 2 ^ n
theorem Bt.mono {n m:Nat}{i:Int}(h:Bt n i)(l:n<=m):Bt m i:=Y0g h (Nat.pow_le_pow_right (by decide) l)
theorem Bt.mul {n m:Nat}{i j:Int}(h:Bt n i)(g:Bt m j):Bt (n+m) (i * j):=by
 unfold Bt at *
 rw[Int.natAbs_mul,Nat.pow_add]
 exact Nat.mul_lt_mul'' h g
theorem Bt.add {n:Nat}{i j:Int}(h:Bt n i)(g:Bt n j):Bt (n+1) (i+j):=by
 unfold Bt at *
 rw[Nat.pow_succ]
 generalize (2:Nat) ^ n=k at h g ⊢
 omega
theorem Bt.neg {n:Nat}{i:Int}(h:Bt n i):Bt n (-i):=by unfold Bt at *; rwa [Int.natAbs_neg]
theorem Bt.sub {n:Nat}{i j:Int}(h:Bt n i)(g:Bt n j):Bt (n+1) (i - j):=by rw[Int.sub_eq_add_neg]; exact h.add g.neg
theorem Bt.le {n:Nat}{i j:Int}(h:Bt n j)(l:i.natAbs<=j.natAbs):Bt n i:=Nat.lt_of_le_of_lt l h
theorem Bt.log {n:Nat}{i:Int}(h:Bt n i)(h0:i≠0):i.natAbs.log2 < n:=(Nat.log2_lt (by omega)).mpr h
theorem Bt.bits {n:Nat}{i:Int}(h:Bt n i):Builtin.Int.intBits i<=n:=by
 unfold Builtin.Int.intBits
 by_cases e:(i == 0)=true
 ·rw[if_pos e]; exact Y0s _
 ·rw[if_neg e]; exact h.log (by simpa using e)
section
variable {X:Cx}
theorem Z0E:OpR X (binaryOp .Mult) (rI (fun i j=>Bt 4000 i/\Bt 4000 j) fun i j=>.int (i * j)):=opI fun _ _ _ _ _ _ _ hc q=>
 mul_int q (IntMulOk.of_bits (Y0o hc.1.bits (by decide)) (Y0o hc.2.bits (by decide)))
theorem Z1E:OpR X (binaryOp .FloorDiv) (rI (fun _ j=>j≠0/\Bt 4000 j) fun i j=>.int (i.fdiv j)):=opI fun i j _ _ _ _ _ hc q=>
 floordiv_int hc.1 q (.inl (PyProof.noPylong_of_log2 (Y0g (hc.2.log hc.1) (by decide))))
theorem Z5V:Z2F X (.builtin "isinstance") (fun xs H Q=>∃ x c t b,xs=[x,.ref c]/\Z7a X.K H x t/\Y20 X.K t (.ref c)=some b/\Q (.bl b) H):=by
 intro pins s σ H xs us Q I r h
 obtain⟨x,c,t,b,rfl,ty,e,q⟩:=h
 obtain⟨u,w',rfl,ru,rc⟩:=Zco r
 obtain rfl:w'=Value.ref c:=rc
 exact Z5E I ru ty e fun tk=>⟨.bl b,H,I.tok _,rfl,q⟩
end
structure Zf1 (K:Y00)(x qual:Str)(st:Stmt)(dV:Value)(f:Addr)(fd:FuncData):Prop where
 ex:∃ (oc:Value) (od:Option Addr) (kV doc pm:Value) (an:Option Addr) (cdv ct:Value) (osl:Array (Option Value)),
  fd=Y1l x qual (Z1r st) (Z1b st) (Z0a st) dV kV doc pm an cdv ct/\K.lookup f=some ⟨oc,od,.func fd,osl⟩/\PySem.W.codeIn K cdv qual=true
 kp:Y1s K (.ref f)=true
section
variable {P:Program}{w:World}{K:Y00}{mg:Str->Option Value}{base:Heap}
theorem Zf1.ok1 {x qual:Str}{st:Stmt}{dV:Value}{f:Addr}{fd:FuncData}{N ps:List Str}{k:Nat}{sp:Sp}(F:Zf1 K x qual st dV f fd)(S:Z0k N ps (Z0a st))(len:∀ vs H Q E,sp vs H Q E->vs.length=ps.length)
  (hbody:∀ (cdv:Value) (A:Around) (outer:List Env) (s:Shared) (H:Hp) (vs:List V) (Q:VK) (E:XK),Z1g k (A.deeper (envOfC qual (Z0a st) s.heap.objs.size f cdv))->sp vs H Q E->
   ∃ t,PSs (Z9A (CX1 P w) P w K mg base N qual (Z0a st) f cdv A outer s H E) (Z1b st) t/\t { nx:=fun _ H'=>Q .non H',rt:=Q } (start N vs) H):Z0x P w K mg base (CX1 P w) (k+1) f fd ps sp:=by
 obtain⟨oc,od,kV,doc,pm,an,cdv,ct,osl,rfl,lk,hcd⟩:=F.ex
 exact Zcx lk hcd S len fun A outer s H vs Q E hr hsp=>hbody cdv A outer s H vs Q E hr hsp
theorem ZbY {x qual:Str}{st:Stmt}{dV:Value}{f:Addr}{oc:Value}{od an:Option Addr}{osl:Array (Option Value)}{kV doc pm cdv ct:Value}(l:K.lookup f=some ⟨oc,od,.func (Y1l x qual (Z1r st) (Z1b st) (Z0a st) dV kV doc pm an cdv ct),osl⟩)
  (c:PySem.W.codeIn K cdv qual=true) (k:Y1s K (.ref f)=true):Zf1 K x qual st dV f (Y1l x qual (Z1r st) (Z1b st) (Z0a st) dV kV doc pm an cdv ct):=⟨⟨oc,od,kV,doc,pm,an,cdv,ct,osl,rfl,l,c⟩,k⟩
end
theorem Z3d {P:Program}{w:World}{X:Cx}:Z34 (CX1 P w) X E0:=by rintro _ _ _ _ _ _ _ ⟨_,_,_,_,_,_,z⟩; exact z.elim
structure MFn (K:Y00)(C:Addr)(m qual:Str)(st:Stmt)(ps:List Str)(f:Addr)(fd:FuncData):Prop where
 F:Fun K m qual st f fd
 b:Z2s K fd ps []
 m:Zd3 K C m f
section
variable {X:Cx}
theorem Z2B:bootBuiltins "max"=some (.builtin "max"):=by decide +kernel
end
section
variable {X:Cx}{o i value:Expr}{pos pos':Pos}{to ti tv:TE}
def Zgo (to ti tv:TE):TS:=fun D σ H=>tv σ H fun v H1=>to σ H1 fun x H2=>ti σ H2 fun y H3=>ZeI x y v H3 fun H4=>D.nx σ H4
theorem Z51 (ho:PE X o to)(hi:PE X i ti)(hv:PE X value tv)(hs:swapsWith value (some (.Subscript o i pos')) pos.line X.env=pure false):PS X (.Assign [.Subscript o i pos'] value pos) (Zgo to ti tv):=by
 intro pins s σ H D I h
 refine wpAny_Assign_Subscript (thn (hv pins s σ H _ I h) fun r s1 ⟨v,H1,I1,rv,q1⟩=>thn (ho pins s1 σ H1 _ I1 q1) fun u s2 ⟨x,H2,I2,rx,q2⟩=>thn (hi pins s2 σ H2 _ I2 q2) fun iv s3 ⟨y,H3,I3,ry,q3⟩=>?_) hs
 exact thn (Z9K pins s3 σ H3 x y v u iv r _ I3 rx ry rv q3) fun _ s4 ⟨H4,I4,q4⟩=>⟨σ,H4,I4,q4⟩
theorem PI.or {tg iter:Expr}{w1 w2:TI}(h1:PI X tg iter w1)(h2:PI X tg iter w2):PI X tg iter (fun σ H R=>w1 σ H R\/w2 σ H R):=by
 intro pins s σ H R I h
 rcases h with h | h
 ·exact h1 pins s σ H R I h
 ·exact h2 pins s σ H R I h
end
end L2
namespace K1
open PySem L2 Sq
theorem Z7t (xs:List Nat)(j x:Nat):(nv xs).set j (.int (x:Int))=nv (xs.set j x):=by
 unfold nv
 rw[List.map_set]
theorem Z67 {n:Nat}{r bl:List Nat}(rr:Row n r)(hl:bl.length=n)(h:∀ k,k < n->bl[nx r k]?=some k):bl=back r:=by
 refine List.ext_getElem? fun x=>?_
 by_cases hx:x < n
 ·have e:=h (r.idxOf x) (rr.idx_lt hx)
  rw[rr.nx_idx hx]at e
  rw[e,rr.back.get hx,Z8C rr hx]
 ·rw[Y24 (by omega),Y24 (by rw[Z7m,rr.len]; omega)]
abbrev evO (e:EvT):HO:=.tup [.int e.1,.int (e.2.1:Int),.str (ch1 e.2.2)]
def Z4j (H:Hp)(as:List Addr)(es:List EvT):Prop:=as.length=es.length/\∀ (i:Nat) (a:Addr) (e:EvT),as[i]?=some a->es[i]?=some e->H a=some (evO e)
theorem Z4j.snoc {H H':Hp}{as:List Addr}{es:List EvT}{t:Addr}{e:EvT}(h:Z4j H as es)(hk:∀ a∈as,H' a=H a)(ht:H' t=some (evO e)):Z4j H' (as++[t]) (es++[e]):=by
 refine⟨by rw[Y0e,Y0e,h.1]; rfl,fun i a x h1 h2=>?_⟩
 rcases Y0j i as.length with q | q
 ·rw[Y0z q]at h1
  rw[Y0z (by rw[<-h.1]; exact q)]at h2
  rw[hk a (Y0d h1)]; exact h.2 i a x h1 h2
 ·rw[Y17 q]at h1
  rw[Y17 (by rw[<-h.1]; exact q),<-h.1]at h2
  cases hi:i - as.length with
  | zero=>rw[hi]at h1 h2; cases h1; cases h2; exact ht
  | succ j=>rw[hi]at h1; simp at h1
theorem cnt1 {top bot sc T M:Int}{N:Nat}(hb:0 < bot)(hs:0 < sc)(h1:top < bot)(hT:T<=N * (bot * sc))(h:(M * bot - top) * sc<=T):M<=N:=by
 have h2:(M * bot - top) * sc<=((N:Int) * bot) * sc:=by rw[Int.mul_assoc]; lia
 have h3:=Int.le_of_mul_le_mul_right h2 hs
 rcases Int.lt_or_le (N:Int) M with q | q
 ·have:=Int.mul_le_mul_of_nonneg_right (show (N:Int)+1<=M by lia) (show 0<=bot by lia)
  rw[Int.add_mul,Int.one_mul]at this; lia
 ·exact q
theorem cnt2 {top bot sc T M:Int}{N:Nat}(hb:0 < bot)(hs:0 < sc)(h0:0<=top)(hT:T<=N * (bot * sc))(h:(top+M * bot) * sc < T):M < N:=by
 have h2:(top+M * bot) * sc < ((N:Int) * bot) * sc:=by rw[Int.mul_assoc]; lia
 have h3:=Int.lt_of_mul_lt_mul_right h2 (by lia)
 rcases Int.lt_or_le M (N:Int) with q | q
 ·exact q
 ·have:=Int.mul_le_mul_of_nonneg_right q (show 0<=bot by lia); lia
theorem Za9 {top bot sc x y:Int}(hb:0 < bot)(hs:0 < sc)(h:x<=y):(x * bot - top) * sc<=(y * bot - top) * sc:=by
 have:=Int.mul_le_mul_of_nonneg_right h (show 0<=bot by lia)
 exact Int.mul_le_mul_of_nonneg_right (by lia) (by lia)
theorem Zav {top bot sc x y:Int}(hb:0 < bot)(hs:0 < sc)(h:x<=y):(top+x * bot) * sc<=(top+y * bot) * sc:=by
 have:=Int.mul_le_mul_of_nonneg_right h (show 0<=bot by lia)
 exact Int.mul_le_mul_of_nonneg_right (by lia) (by lia)
theorem ZbO {top bot sc:Int}{i j:Nat}(hb:0 < bot)(hs:0 < sc)(h:(((i:Int)+1) * bot - top) * sc=(((j:Int)+1) * bot - top) * sc):i=j:=by
 have h2:=Int.eq_of_mul_eq_mul_right (by lia) h
 have h3:((i:Int)+1) * bot=((j:Int)+1) * bot:=by lia
 have:=Int.eq_of_mul_eq_mul_right (by lia) h3
 lia
theorem Zcm {top bot sc:Int}{i j:Nat}(hb:0 < bot)(hs:0 < sc)(h:(top+(i:Int) * bot) * sc=(top+(j:Int) * bot) * sc):i=j:=by
 have h2:=Int.eq_of_mul_eq_mul_right (by lia) h
 have h3:(i:Int) * bot=(j:Int) * bot:=by lia
 have:=Int.eq_of_mul_eq_mul_right (by lia) h3
 lia
theorem ZaQ {m:Nat}{f:Nat->EvT}(h:∀ i j,f i=f j->i=j):((Y05 m).map f).Nodup:=by
 refine Y0q.mpr (Y0t.mpr ?_)
 exact (Y0q.mp Y1g).imp fun {a b} hab e=>hab (h a b e)
def Zdl:Sp:=fun vs H Q _=>∃ (top bot by_ sc T:Int) (c0 c1 N:Nat),vs=[.int top,.int bot,.int by_,.int sc,.int T,.str (txt [c0,c1])]/\0 < bot/\0 < sc/\0<=top/\top < bot/\0<=T/\T<=N * (bot * sc)/\Bt 300 bot/\Bt 300 sc/\Bt 900 T/\N<=300/\
 ∀ (H':Hp) (l:Addr) (as:List Addr) (es:List EvT),Z0q H H'->H l=none->H' l=some (.lst (as.map V.ref))->Z4j H' as es->(∀ a∈as,H a=none)->es.Nodup->es.length<=N+1->(∀ e,e∈es↔LnE top bot by_ sc T c0 c1 e)->Q (.ref l) H'
section
variable {P:Program}{w:World}{K:Y00}{mg:Str->Option Value}{base:Heap}
abbrev Zgj:List Str:=["_law_top","_law_bottom","_law_by","_law_scale","_law_end","_law_letters","_law_events","_law_m"]
theorem Z4H:Z0k Zgj ["_law_top","_law_bottom","_law_by","_law_scale","_law_end","_law_letters"] (Z0a Z6e):=⟨rfl,rfl,rfl,by decide +kernel,rfl,by decide +kernel,by decide +kernel⟩
set_option maxHeartbeats 1000000 in
theorem ZeH {f:Addr}{fd:FuncData}(F:Fn K mg "_law_lines" Z6e ["_law_top","_law_bottom","_law_by","_law_scale","_law_end","_law_letters"] f fd):Z0x P w K mg base CX0 1 f fd ["_law_top","_law_bottom","_law_by","_law_scale","_law_end","_law_letters"] Zdl:=by
 refine F.F.ok Z4H (fun vs H Q E h=>?_) (fun cdv A outer s H vs Q E hr h=>?_)
 ·obtain⟨top,bot,by_,sc,T,c0,c1,N,rfl,_⟩:=h; rfl
 ·obtain⟨top,bot,by_,sc,T,c0,c1,N,rfl,hb,hs,h0,h1,hT0,hT,bb,bs,bT,hN,k⟩:=h
  refine⟨_,(Z03 (Z0d (i:=6) Z4H.nd rfl (Or.inl rfl) (Z2u Z05))
   (Z03 (Z0d (i:=7) Z4H.nd rfl (Or.inl rfl) Z04)
   (Z03 (Z1v PassesOwn.never (PW.pt (Z2n (Z0h Z53 (pv 2) Z04 (Z0m _)) (Z1Z (Z0h ZbN (Z0c Z0E (Z0c Z24 (Z0c Z0E (pv 7) (pv 1)) (pv 0)) (pv 3)) (pv 4) (Z0m _))))) (Z03 (Z1h (Z2H PySem.F.plainAttrs_list PySem.F.slot_list_append PySem.F.type_list_append Z0M (pv 6) (Z00 (Z0S (Z00 (Z0c Z0E (Z0c Z24 (Z0c Z0E (pv 7) (pv 1)) (pv 0)) (pv 3)) (Z00 Z04 (Z00 (Z0j Z8b (pv 5) Z04 (fun _ _=>rfl)) Z05)))) Z05)))
   (Z07 (Z0d (i:=7) Z4H.nd rfl (Or.inl rfl) (Z0c Z0I (pv 7) Z04)))))
   (Z03 (Z0d (i:=7) Z4H.nd rfl (Or.inl rfl) Z04)
   (Z03 (Z1v PassesOwn.never (PW.pt (Z2n (Z0h Z3a (pv 2) Z04 (Z0m _)) (Z1Z (Z0h Z3a (Z0c Z0E (Z0c Z0I (pv 0) (Z0c Z0E (pv 7) (pv 1))) (pv 3)) (pv 4) (Z0m _))))) (Z03 (Z1h (Z2H PySem.F.plainAttrs_list PySem.F.slot_list_append PySem.F.type_list_append Z0M (pv 6) (Z00 (Z0S (Z00 (Z0c Z0E (Z0c Z0I (pv 0) (Z0c Z0E (pv 7) (pv 1))) (pv 3)) (Z00 Z04 (Z00 (Z0j Z8b (pv 5) Z04 (fun _ _=>rfl)) Z05)))) Z05)))
   (Z07 (Z0d (i:=7) Z4H.nd rfl (Or.inl rfl) (Z0c Z0I (pv 7) Z04)))))
   (Z07 (Z0l (pv 6)))))))),?_⟩
  have three:3<=sizeLine:=by decide
  have bt:Bt 300 top:=by have:bot.natAbs < 2 ^ 300:=bb; show top.natAbs < 2 ^ 300; lia
  refine⟨Y0s _,fun l hl=>?_⟩
  have s1:=Z08 (o:=.lst []) (Z0q.refl H) hl
  have e1:(upd H l (.lst [])) l=some (.lst (([]:List Addr).map V.ref)):=Z06
  revert s1 e1
  generalize (upd H l (.lst []))=H1
  intro s1 e1
  rcases Int.lt_trichotomy by_ 0 with hby | hby | hby
  ·refine⟨fun _ σ Hq=>σ=[some (.int top),some (.int bot),some (.int by_),some (.int sc),some (.int T),some (.str (txt [c0,c1])),some (.ref l),some (.int 1)]/\H1=Hq,⟨0,rfl,rfl⟩,?_⟩
   rintro _ σ H7 ⟨rfl,rfl⟩
   refine⟨_,rfl,_,_,rfl,rfl,_,rfl,?_⟩
   rw[decide_eq_false (by lia)]
   refine Z0Z (Z0Z ?_)
   let Pv:Nat->St->Hp->Prop:=fun d σ H6=>∃ (m:Nat) (as:List Addr),σ=[some (.int top),some (.int bot),some (.int by_),some (.int sc),some (.int T),some (.str (txt [c0,c1])),some (.ref l),some (.int (m:Int))]/\Z0q H H6/\H6 l=some (.lst (as.map V.ref))/\Z4j H6 as ((Y05 m).map (fun j:Nat=>((top+(j:Int) * bot) * sc,2,c1)))/\(∀ a∈as,H a=none/\a≠l)/\m<=N/\(∀ j,j < m->(top+(j:Int) * bot) * sc < T)/\d+m=N
   refine⟨Pv,⟨N,0,[],rfl,s1,e1,⟨rfl,fun i a e h _=>by simp at h⟩,fun a h=>(by simp at h),Y0s _,fun j hj=>absurd hj (Y1n _),rfl⟩,?_⟩
   rintro d σ H6 ⟨m,as,rfl,s6,h6,hev,hfr,hmN,hall,hd⟩
   have bm:Bt 10 ((m:Int)):=by show ((m:Int)).natAbs < 2 ^ 10; lia
   have bmb:Bt 310 (((m:Int)) * bot):=bm.mul bb
   have bv:Bt 311 (top+(m:Int) * bot):=(bt.mono (by decide)).add bmb
   refine⟨_,rfl,_,_,rfl,rfl,_,rfl,?_⟩
   rw[decide_eq_true hby]
   refine Z1u ?_
   refine⟨_,rfl,_,rfl,_,rfl,_,_,rfl,rfl,⟨bm.mono (by decide),bb.mono (by decide)⟩,_,_,rfl,rfl,_,rfl,_,_,rfl,rfl,⟨bv.mono (by decide),bs.mono (by decide)⟩,_,rfl,_,_,rfl,rfl,_,rfl,?_⟩
   by_cases hc:(top+(m:Int) * bot) * sc < T
   ·rw[decide_eq_true hc]
    have hm1:m+1<=N:=by have:=cnt2 hb hs h0 hT hc; lia
    refine Z1u ⟨fun σ' H'=>∃ m',m' < d/\Pv m' σ' H',fun _ _ z=>z,?_⟩
    refine⟨_,rfl,.inl ⟨rfl,_,SqL.of h6⟩,_,rfl,_,rfl,_,rfl,_,_,rfl,rfl,⟨bm.mono (by decide),bb.mono (by decide)⟩,_,_,rfl,rfl,_,rfl,_,_,rfl,rfl,⟨bv.mono (by decide),bs.mono (by decide)⟩,?_⟩
    refine⟨_,rfl,txt [c0,c1],_,c1,rfl,rfl,by show 2<=sizeLine; decide,rfl,?_⟩
    refine⟨three,fun t ht=>?_⟩
    have hx:(fun j:Nat=>((top+(j:Int) * bot) * sc,2,c1)) m=((top+(m:Int) * bot) * sc,2,c1):=rfl
    have nt:t≠l:=fun z=>by rw[z,h6]at ht; cases ht
    have ht0:H t=none:=s6.free ht
    have s7:=Z08 (o:=evO ((top+(m:Int) * bot) * sc,2,c1)) s6 ht0
    refine⟨l,_,_,rfl,rfl,by rw[Z0i nt.symm]; exact h6,by rw[Y08,hev.1,Y08,Y0p]; exact Z0A (by lia),?_⟩
    refine⟨_,rfl,_,_,rfl,rfl,d - 1,by lia,m+1,as++[t],rfl,Z08 s7 hl,by rw[Z06]; simp,?_,?_,by lia,?_,by lia⟩
    ·rw[Y1a,Y0y,List.map_singleton]
     refine Z4j.snoc hev ?_ ?_
     ·intro a ha
      have n1:=(hfr a ha).2
      have n2:a≠t:=fun z=>by
       obtain⟨i,hi,e⟩:=Y1k.mp ha
       have:=hev.2 i a _ (by rw[Y01 hi,e]) (Y01 (by rw[<-hev.1]; exact hi))
       rw[z,ht]at this; cases this
      rw[Z0i n1,Z0i n2]
     ·rw[Z0i nt,Z06]; rfl
    ·intro a ha
     rcases Y0b.mp ha with ha | ha
     ·exact hfr a ha
     ·rw[Y0n.mp ha]; exact⟨ht0,nt⟩
    ·intro j hj
     rcases Y0j j m with q | q
     ·exact hall j q
     ·have:j=m:=by lia
      subst this
      exact hc
   ·rw[decide_eq_false hc]
    refine Z0Z ?_
    refine⟨_,rfl,?_⟩
    refine k H6 l as _ s6 hl h6 hev (fun a ha=>(hfr a ha).1) (ZaQ fun i j h=>Zcm hb hs (by simpa using congrArg Prod.fst h)) (by rw[Y08,Y0p]; lia) ?_
    intro e
    unfold LnE
    constructor
    ·intro he
     obtain⟨j,hj,rfl⟩:=Y0f.mp he
     exact .inr ⟨hby,j,by lia,rfl,hall j (Y06.mp hj)⟩
    ·rintro (⟨q,_⟩ | ⟨_,z,hz,rfl,hT'⟩)
     ·lia
     ·refine Y0f.mpr ⟨z.toNat,Y06.mpr ?_,by rw[Int.toNat_of_nonneg hz]⟩
      rcases Int.lt_or_le z m with q | q
      ·lia
      ·exact absurd (Int.lt_of_le_of_lt (Zav hb hs q) hT') hc
  ·refine⟨fun _ σ Hq=>σ=[some (.int top),some (.int bot),some (.int by_),some (.int sc),some (.int T),some (.str (txt [c0,c1])),some (.ref l),some (.int 1)]/\H1=Hq,⟨0,rfl,rfl⟩,?_⟩
   rintro _ σ H7 ⟨rfl,rfl⟩
   refine⟨_,rfl,_,_,rfl,rfl,_,rfl,?_⟩
   rw[decide_eq_false (by lia)]
   refine Z0Z (Z0Z ?_)
   refine⟨fun _ σ Hq=>σ=[some (.int top),some (.int bot),some (.int by_),some (.int sc),some (.int T),some (.str (txt [c0,c1])),some (.ref l),some (.int 0)]/\H1=Hq,⟨0,rfl,rfl⟩,?_⟩
   rintro _ σ H7 ⟨rfl,rfl⟩
   refine⟨_,rfl,_,_,rfl,rfl,_,rfl,?_⟩
   rw[decide_eq_false (by lia)]
   refine Z0Z (Z0Z ?_)
   refine⟨_,rfl,k H1 l [] [] s1 hl e1 ⟨rfl,fun i a e h _=>by simp at h⟩ (fun a h=>by simp at h) List.nodup_nil (by simp) fun e=>⟨fun h=>by simp at h,fun h=>?_⟩⟩
   rcases h with ⟨q,_⟩ | ⟨q,_⟩ <;> lia
  ·let Pv:Nat->St->Hp->Prop:=fun d σ H6=>∃ (m:Nat) (as:List Addr),σ=[some (.int top),some (.int bot),some (.int by_),some (.int sc),some (.int T),some (.str (txt [c0,c1])),some (.ref l),some (.int ((m:Int)+1))]/\Z0q H H6/\H6 l=some (.lst (as.map V.ref))/\Z4j H6 as ((Y05 m).map (fun j:Nat=>((((j:Int)+1) * bot - top) * sc,0,c0)))/\(∀ a∈as,H a=none/\a≠l)/\m<=N/\(∀ j,j < m->(((j:Int)+1) * bot - top) * sc<=T)/\d+m=N
   refine⟨Pv,⟨N,0,[],rfl,s1,e1,⟨rfl,fun i a e h _=>by simp at h⟩,fun a h=>(by simp at h),Y0s _,fun j hj=>absurd hj (Y1n _),rfl⟩,?_⟩
   rintro d σ H6 ⟨m,as,rfl,s6,h6,hev,hfr,hmN,hall,hd⟩
   have bm:Bt 10 ((m:Int)+1):=by show ((m:Int)+1).natAbs < 2 ^ 10; lia
   have bmb:Bt 310 (((m:Int)+1) * bot):=bm.mul bb
   have bv:Bt 311 (((m:Int)+1) * bot - top):=bmb.sub (bt.mono (by decide))
   refine⟨_,rfl,_,_,rfl,rfl,_,rfl,?_⟩
   rw[decide_eq_true hby]
   refine Z1u ?_
   refine⟨_,rfl,_,rfl,_,_,rfl,rfl,⟨bm.mono (by decide),bb.mono (by decide)⟩,_,rfl,_,_,rfl,rfl,_,rfl,_,_,rfl,rfl,⟨bv.mono (by decide),bs.mono (by decide)⟩,_,rfl,_,_,rfl,rfl,_,rfl,?_⟩
   by_cases hc:(((m:Int)+1) * bot - top) * sc<=T
   ·rw[decide_eq_true hc]
    have hm1:m+1<=N:=by have:=cnt1 hb hs h1 hT hc; lia
    refine Z1u ⟨fun σ' H'=>∃ m',m' < d/\Pv m' σ' H',fun _ _ z=>z,?_⟩
    refine⟨_,rfl,.inl ⟨rfl,_,SqL.of h6⟩,_,rfl,_,rfl,_,_,rfl,rfl,⟨bm.mono (by decide),bb.mono (by decide)⟩,_,rfl,_,_,rfl,rfl,_,rfl,_,_,rfl,rfl,⟨bv.mono (by decide),bs.mono (by decide)⟩,?_⟩
    refine⟨_,rfl,txt [c0,c1],_,c0,rfl,rfl,by show 2<=sizeLine; decide,rfl,?_⟩
    refine⟨three,fun t ht=>?_⟩
    have hx:(fun j:Nat=>((((j:Int)+1) * bot - top) * sc,0,c0)) m=((((m:Int)+1) * bot - top) * sc,0,c0):=rfl
    have nt:t≠l:=fun z=>by rw[z,h6]at ht; cases ht
    have ht0:H t=none:=s6.free ht
    have s7:=Z08 (o:=evO ((((m:Int)+1) * bot - top) * sc,0,c0)) s6 ht0
    refine⟨l,_,_,rfl,rfl,by rw[Z0i nt.symm]; exact h6,by rw[Y08,hev.1,Y08,Y0p]; exact Z0A (by lia),?_⟩
    refine⟨_,rfl,_,_,rfl,rfl,d - 1,by lia,m+1,as++[t],rfl,Z08 s7 hl,by rw[Z06]; simp,?_,?_,by lia,?_,by lia⟩
    ·rw[Y1a,Y0y,List.map_singleton]
     refine Z4j.snoc hev ?_ ?_
     ·intro a ha
      have n1:=(hfr a ha).2
      have n2:a≠t:=fun z=>by
       obtain⟨i,hi,e⟩:=Y1k.mp ha
       have:=hev.2 i a _ (by rw[Y01 hi,e]) (Y01 (by rw[<-hev.1]; exact hi))
       rw[z,ht]at this; cases this
      rw[Z0i n1,Z0i n2]
     ·rw[Z0i nt,Z06]; rfl
    ·intro a ha
     rcases Y0b.mp ha with ha | ha
     ·exact hfr a ha
     ·rw[Y0n.mp ha]; exact⟨ht0,nt⟩
    ·intro j hj
     rcases Y0j j m with q | q
     ·exact hall j q
     ·have:j=m:=by lia
      subst this
      exact hc
   ·rw[decide_eq_false hc]
    refine Z0Z ?_
    refine⟨fun _ σ Hq=>σ=[some (.int top),some (.int bot),some (.int by_),some (.int sc),some (.int T),some (.str (txt [c0,c1])),some (.ref l),some (.int 0)]/\H6=Hq,⟨0,rfl,rfl⟩,?_⟩
    rintro _ σ H7 ⟨rfl,rfl⟩
    refine⟨_,rfl,_,_,rfl,rfl,_,rfl,?_⟩
    rw[decide_eq_false (by lia)]
    refine Z0Z (Z0Z ?_)
    refine⟨_,rfl,?_⟩
    refine k H6 l as _ s6 hl h6 hev (fun a ha=>(hfr a ha).1) (ZaQ fun i j h=>ZbO hb hs (by simpa using congrArg Prod.fst h)) (by rw[Y08,Y0p]; lia) ?_
    intro e
    unfold LnE
    constructor
    ·intro he
     obtain⟨j,hj,rfl⟩:=Y0f.mp he
     exact .inl ⟨hby,j+1,by lia,rfl,hall j (Y06.mp hj)⟩
    ·rintro (⟨_,z,hz,rfl,hT'⟩ | ⟨q,_⟩)
     ·refine Y0f.mpr ⟨(z - 1).toNat,Y06.mpr ?_,by rw[Int.toNat_of_nonneg (by lia),Int.sub_add_cancel]⟩
      rcases Int.lt_or_le z (m+1) with q | q
      ·lia
      ·exact absurd (Int.le_trans (Za9 hb hs q) hT') hc
     ·lia
end
theorem Zf8 {i j:Int}:decide (V.int i=V.int j)=decide (i=j):=by
 refine decide_eq_decide.mpr ⟨fun h=>V.int.inj h,fun h=>by rw[h]⟩
def ZeK:Sp:=fun vs H Q _=>∃ (top bot by_ sc T:Int) (N:Nat),vs=[.int top,.int bot,.int by_,.int sc,.int T]/\0 < bot/\0 < sc/\0<=top/\top < bot/\0<=T/\T<=N * (bot * sc)/\Bt 300 bot/\Bt 300 sc/\Bt 900 T/\N<=300/\
 (∀ (H':Hp) (l:Addr) (ts:List Int),Z0q H H'->H l=none->H' l=some (.lst (ts.map V.int))->ts.Nodup->ts.length<=N+2->¬ (by_=0/\top=0)->(∀ t,t∈ts↔0<=t/\t<=T/\WsE top bot by_ sc t)->Q (.ref l) H')/\(by_=0->top=0->Q .non H)
section
variable {P:Program}{w:World}{K:Y00}{mg:Str->Option Value}{base:Heap}
abbrev Zgd:List Str:=["_law_top","_law_bottom","_law_by","_law_scale","_law_end","_law_times","_law_time"]
theorem Z6a:Z0k Zgd ["_law_top","_law_bottom","_law_by","_law_scale","_law_end"] (Z0a Z1x):=⟨rfl,rfl,rfl,by decide +kernel,rfl,by decide +kernel,by decide +kernel⟩
set_option maxHeartbeats 1000000 in
theorem Zet {f:Addr}{fd:FuncData}(F:Fn K mg "_law_whole_times" Z1x ["_law_top","_law_bottom","_law_by","_law_scale","_law_end"] f fd):Z0x P w K mg base CX0 1 f fd ["_law_top","_law_bottom","_law_by","_law_scale","_law_end"] ZeK:=by
 refine F.F.ok Z6a (fun vs H Q E h=>?_) (fun cdv A outer s H vs Q E hr h=>?_)
 ·obtain⟨top,bot,by_,sc,T,N,rfl,_⟩:=h; rfl
 ·obtain⟨top,bot,by_,sc,T,N,rfl,hb,hs,h0,h1,hT0,hT,bb,bs,bT,hN,k1,k2⟩:=h
  refine⟨_,(Z03 (Z0T (Z0h Z1k (pv 2) Z04 (Z0m _)) (Z07 (Z0l (Z9O (Z0h Z1k (pv 0) Z04 (Z0m _)) Z3E (Z2u Z05)))) Z0t)
   (Z03 (Z0d (i:=5) Z6a.nd rfl (Or.inl rfl) (Z2u Z05))
   (Z03 (Z0d (i:=6) Z6a.nd rfl (Or.inl rfl) (Z0c Z0E (pv 0) (pv 3)))
   (Z03 (Z0T (Z0h Z53 (pv 2) Z04 (Z0m _)) (Z07 (Z0d (i:=6) Z6a.nd rfl (Or.inl rfl) (Z6n Z4k (pv 6)))) Z0t)
   (Z03 (Z1v PassesOwn.never (Z0h ZbN (pv 6) (pv 4) (Z0m _)) (Z03 (Z0T (Z0h Zg3 (pv 6) Z04 (Z0m _)) (Z07 (Z1h (Z2H PySem.F.plainAttrs_list PySem.F.slot_list_append PySem.F.type_list_append Z0M (pv 5) (Z00 (pv 6) Z05)))) Z0t)
   (Z07 (Z0d (i:=6) Z6a.nd rfl (Or.inl rfl) (Z0c Z0I (pv 6) (Z0c Z0E (pv 1) (pv 3)))))))
   (Z07 (Z0l (pv 5)))))))),?_⟩
  have bt:Bt 300 top:=by have:bot.natAbs < 2 ^ 300:=bb; show top.natAbs < 2 ^ 300; lia
  refine⟨_,rfl,rfl,_,rfl,?_⟩
  rw[Zf8]
  by_cases e0:by_=0
  ·rw[decide_eq_true e0]
   refine Z1u ?_
   refine⟨_,rfl,rfl,_,rfl,?_⟩
   rw[Zf8]
   by_cases e1:top=0
   ·rw[decide_eq_true e1]
    refine Z1u ?_
    exact k2 e0 e1
   ·rw[decide_eq_false e1]
    refine Z0Z ?_
    refine⟨Y0s _,fun l hl=>k1 _ l [] (Z08 (Z0q.refl H) hl) hl Z06 List.nodup_nil (by simp) (fun z=>e1 z.2) fun t=>⟨fun h=>by simp at h,fun h=>?_⟩⟩
    rcases h.2.2 with ⟨q,_⟩ | ⟨q,_⟩ | ⟨_,q⟩
    ·lia
    ·lia
    ·exact absurd q e1
  rw[decide_eq_false e0]
  refine Z0Z ?_
  refine⟨Y0s _,fun l hl=>?_⟩
  have s1:=Z08 (o:=.lst []) (Z0q.refl H) hl
  have e1:(upd H l (.lst [])) l=some (.lst (([]:List Int).map V.int)):=Z06
  revert s1 e1
  generalize (upd H l (.lst []))=H1
  intro s1 e1
  refine⟨_,rfl,_,rfl,_,_,rfl,rfl,⟨bt.mono (by decide),bs.mono (by decide)⟩,?_⟩
  obtain⟨D,hDe⟩:∃ D,bot * sc=D:=⟨_,rfl⟩
  have hD:0 < D:=by rw[<-hDe]; exact Int.mul_pos hb hs
  have tD:0<=top * sc/\top * sc < D:=⟨Int.mul_nonneg h0 (by lia),by rw[<-hDe]; exact Int.mul_lt_mul_of_pos_right h1 hs⟩
  rw[hDe]at hT
  dsimp only
  refine⟨_,rfl,_,_,rfl,rfl,_,rfl,?_⟩
  by_cases hby:0 < by_
  ·rw[decide_eq_true hby]
   refine Z1u ?_
   refine⟨_,rfl,_,rfl,?_⟩
   dsimp only
   obtain⟨s0,hs0⟩:∃ s0,-(top * sc)=s0:=⟨_,rfl⟩
   rw[hs0]
   have s0D:-D < s0/\s0 < D:=by lia
   have hz:s0+((0:Nat):Int) * D=s0:=by simp
   let f:Nat->Int:=fun j=>s0+(j:Int) * D
   let Pv:Nat->St->Hp->Prop:=fun d σ H6=>∃ m:Nat,σ=[some (.int top),some (.int bot),some (.int by_),some (.int sc),some (.int T),some (.ref l),some (.int (s0+(m:Int) * D))]/\Z0q H H6/\H6 l=some (.lst ((((Y05 m).map f).filter fun t=>decide (0<=t)).map V.int))/\m<=N+1/\(∀ j,j < m->f j<=T)/\d+m=N+1
   refine⟨Pv,⟨N+1,0,by rw[hz]; rfl,s1,e1,Y0s _,fun j hj=>absurd hj (Y1n _),rfl⟩,?_⟩
   rintro d σ H6 ⟨m,rfl,s6,h6,hmN,hall,hd⟩
   refine⟨_,rfl,_,rfl,_,_,rfl,rfl,_,rfl,?_⟩
   by_cases hc:s0+(m:Int) * D<=T
   ·rw[decide_eq_true hc]
    have hm1:m<=N:=by
     have h2:(m:Int) * D < ((N:Int)+1) * D:=by rw[Int.add_mul,Int.one_mul]; lia
     have:=Int.lt_of_mul_lt_mul_right h2 (by lia); lia
    refine Z1u ⟨fun σ' H'=>∃ m',m' < d/\Pv m' σ' H',fun _ _ z=>z,?_⟩
    have stp:s0+(m:Int) * D+bot * sc=s0+((m+1:Nat):Int) * D:=by rw[hDe,Int.natCast_add,Int.add_mul]; show _=s0+((m:Int) * D+1 * D); lia
    have ex:(Y05 (m+1)).map f=(Y05 m).map f++[s0+(m:Int) * D]:=by rw[Y1a,Y0y]; rfl
    have hall':∀ j,j < m+1->f j<=T:=fun j hj=>by
     rcases Y0j j m with q | q
     ·exact hall j q
     ·have:j=m:=by lia
      subst this; exact hc
    refine⟨_,rfl,_,_,rfl,rfl,_,rfl,?_⟩
    by_cases hp:0<=s0+(m:Int) * D
    ·rw[decide_eq_true hp]
     refine Z1u ?_
     have len:((((Y05 m).map f).filter fun t=>decide (0<=t)).map V.int).length<=m:=by
      rw[Y08]
      have:=Y1e (fun t=>decide (0<=t)) ((Y05 m).map f)
      rw[Y08,Y0p]at this; exact this
     refine⟨_,rfl,.inl ⟨rfl,_,SqL.of h6⟩,_,rfl,l,_,_,rfl,rfl,h6,Z0A (by lia),?_⟩
     refine⟨_,rfl,_,rfl,_,rfl,_,_,rfl,rfl,⟨bb.mono (by decide),bs.mono (by decide)⟩,_,_,rfl,rfl,d - 1,by lia,m+1,by rw[<-stp]; rfl,Z08 s6 hl,?_,by lia,hall',by lia⟩
     rw[Z06,ex,Y14,Y0y]
     rw[show List.filter (fun t=>decide (0<=t)) [s0+(m:Int) * D]=[s0+(m:Int) * D] by rw[List.filter_cons,if_pos (decide_eq_true hp)]; rfl]; rfl
    ·rw[decide_eq_false hp]
     refine Z0Z ?_
     refine⟨_,rfl,_,rfl,_,rfl,_,_,rfl,rfl,⟨bb.mono (by decide),bs.mono (by decide)⟩,_,_,rfl,rfl,d - 1,by lia,m+1,by rw[<-stp]; rfl,s6,?_,by lia,hall',by lia⟩
     rw[h6,ex,Y14,Y0y]
     rw[show List.filter (fun t=>decide (0<=t)) [s0+(m:Int) * D]=[] by rw[List.filter_cons,if_neg (by simpa using hp)]; rfl]; simp
   ·rw[decide_eq_false hc]
    refine Z0Z ?_
    refine⟨_,rfl,k1 H6 l _ s6 hl h6 ?_ ?_ (by lia) fun t=>?_⟩
    ·refine Y0q.mpr (List.Pairwise.filter _ (Y0t.mpr ?_))
     refine (Y0q.mp Y1g).imp fun {a b} hab e=>hab ?_
     have e:s0+(a:Int) * D=s0+(b:Int) * D:=e
     have e2:(a:Int) * D=(b:Int) * D:=by lia
     have:=Int.eq_of_mul_eq_mul_right (by lia) e2
     lia
    ·have:=Y1e (fun t=>decide (0<=t)) ((Y05 m).map f)
     rw[Y08,Y0p]at this; lia
    ·rw[Y0r,Y0f]
     have ws:WsE top bot by_ sc t↔∃ z:Int,t=s0+z * D:=by
      unfold WsE
      constructor
      ·rintro (⟨_,z,rfl⟩ | ⟨q,_⟩ | ⟨q,_⟩)
       ·exact⟨z,by rw[Int.sub_mul,Int.mul_assoc,hDe]; lia⟩
       ·lia
       ·lia
      ·rintro ⟨z,rfl⟩
       exact .inl ⟨hby,z,by rw[Int.sub_mul,Int.mul_assoc,hDe]; lia⟩
     rw[ws]
     constructor
     ·rintro ⟨⟨j,hj,rfl⟩,h0'⟩
      exact⟨of_decide_eq_true h0',hall j (Y06.mp hj),j,rfl⟩
     ·rintro ⟨ht0,htT,z,rfl⟩
      have z0:0<=z:=by
       rcases Int.lt_or_le z 0 with q | q
       ·have:=Int.mul_le_mul_of_nonneg_right (show z<=-1 by lia) (show 0<=D by lia)
        rw[Int.neg_mul,Int.one_mul]at this; lia
       ·exact q
      refine⟨⟨z.toNat,Y06.mpr ?_,by show s0+(z.toNat:Int) * D=_; rw[Int.toNat_of_nonneg z0]⟩,decide_eq_true ht0⟩
      rcases Int.lt_or_le z m with q | q
      ·lia
      ·have:=Int.mul_le_mul_of_nonneg_right q (show 0<=D by lia); lia
  ·rw[decide_eq_false hby]
   refine Z0Z ?_
   obtain⟨s0,hs0⟩:∃ s0,top * sc=s0:=⟨_,rfl⟩
   rw[hs0]
   have s0D:-D < s0/\s0 < D:=by lia
   have hz:s0+((0:Nat):Int) * D=s0:=by simp
   let f:Nat->Int:=fun j=>s0+(j:Int) * D
   let Pv:Nat->St->Hp->Prop:=fun d σ H6=>∃ m:Nat,σ=[some (.int top),some (.int bot),some (.int by_),some (.int sc),some (.int T),some (.ref l),some (.int (s0+(m:Int) * D))]/\Z0q H H6/\H6 l=some (.lst ((((Y05 m).map f).filter fun t=>decide (0<=t)).map V.int))/\m<=N+1/\(∀ j,j < m->f j<=T)/\d+m=N+1
   refine⟨Pv,⟨N+1,0,by rw[hz]; rfl,s1,e1,Y0s _,fun j hj=>absurd hj (Y1n _),rfl⟩,?_⟩
   rintro d σ H6 ⟨m,rfl,s6,h6,hmN,hall,hd⟩
   refine⟨_,rfl,_,rfl,_,_,rfl,rfl,_,rfl,?_⟩
   by_cases hc:s0+(m:Int) * D<=T
   ·rw[decide_eq_true hc]
    have hm1:m<=N:=by
     have h2:(m:Int) * D < ((N:Int)+1) * D:=by rw[Int.add_mul,Int.one_mul]; lia
     have:=Int.lt_of_mul_lt_mul_right h2 (by lia); lia
    refine Z1u ⟨fun σ' H'=>∃ m',m' < d/\Pv m' σ' H',fun _ _ z=>z,?_⟩
    have stp:s0+(m:Int) * D+bot * sc=s0+((m+1:Nat):Int) * D:=by rw[hDe,Int.natCast_add,Int.add_mul]; show _=s0+((m:Int) * D+1 * D); lia
    have ex:(Y05 (m+1)).map f=(Y05 m).map f++[s0+(m:Int) * D]:=by rw[Y1a,Y0y]; rfl
    have hall':∀ j,j < m+1->f j<=T:=fun j hj=>by
     rcases Y0j j m with q | q
     ·exact hall j q
     ·have:j=m:=by lia
      subst this; exact hc
    refine⟨_,rfl,_,_,rfl,rfl,_,rfl,?_⟩
    by_cases hp:0<=s0+(m:Int) * D
    ·rw[decide_eq_true hp]
     refine Z1u ?_
     have len:((((Y05 m).map f).filter fun t=>decide (0<=t)).map V.int).length<=m:=by
      rw[Y08]
      have:=Y1e (fun t=>decide (0<=t)) ((Y05 m).map f)
      rw[Y08,Y0p]at this; exact this
     refine⟨_,rfl,.inl ⟨rfl,_,SqL.of h6⟩,_,rfl,l,_,_,rfl,rfl,h6,Z0A (by lia),?_⟩
     refine⟨_,rfl,_,rfl,_,rfl,_,_,rfl,rfl,⟨bb.mono (by decide),bs.mono (by decide)⟩,_,_,rfl,rfl,d - 1,by lia,m+1,by rw[<-stp]; rfl,Z08 s6 hl,?_,by lia,hall',by lia⟩
     rw[Z06,ex,Y14,Y0y]
     rw[show List.filter (fun t=>decide (0<=t)) [s0+(m:Int) * D]=[s0+(m:Int) * D] by rw[List.filter_cons,if_pos (decide_eq_true hp)]; rfl]; rfl
    ·rw[decide_eq_false hp]
     refine Z0Z ?_
     refine⟨_,rfl,_,rfl,_,rfl,_,_,rfl,rfl,⟨bb.mono (by decide),bs.mono (by decide)⟩,_,_,rfl,rfl,d - 1,by lia,m+1,by rw[<-stp]; rfl,s6,?_,by lia,hall',by lia⟩
     rw[h6,ex,Y14,Y0y]
     rw[show List.filter (fun t=>decide (0<=t)) [s0+(m:Int) * D]=[] by rw[List.filter_cons,if_neg (by simpa using hp)]; rfl]; simp
   ·rw[decide_eq_false hc]
    refine Z0Z ?_
    refine⟨_,rfl,k1 H6 l _ s6 hl h6 ?_ ?_ (by lia) fun t=>?_⟩
    ·refine Y0q.mpr (List.Pairwise.filter _ (Y0t.mpr ?_))
     refine (Y0q.mp Y1g).imp fun {a b} hab e=>hab ?_
     have e:s0+(a:Int) * D=s0+(b:Int) * D:=e
     have e2:(a:Int) * D=(b:Int) * D:=by lia
     have:=Int.eq_of_mul_eq_mul_right (by lia) e2
     lia
    ·have:=Y1e (fun t=>decide (0<=t)) ((Y05 m).map f)
     rw[Y08,Y0p]at this; lia
    ·rw[Y0r,Y0f]
     have ws:WsE top bot by_ sc t↔∃ z:Int,t=s0+z * D:=by
      unfold WsE
      constructor
      ·rintro (⟨q,_⟩ | ⟨_,z,rfl⟩ | ⟨q,_⟩)
       ·lia
       ·exact⟨z,by rw[Int.add_mul,Int.mul_assoc,hDe]; lia⟩
       ·lia
      ·rintro ⟨z,rfl⟩
       exact .inr (.inl ⟨by lia,z,by rw[Int.add_mul,Int.mul_assoc,hDe]; lia⟩)
     rw[ws]
     constructor
     ·rintro ⟨⟨j,hj,rfl⟩,h0'⟩
      exact⟨of_decide_eq_true h0',hall j (Y06.mp hj),j,rfl⟩
     ·rintro ⟨ht0,htT,z,rfl⟩
      have z0:0<=z:=by
       rcases Int.lt_or_le z 0 with q | q
       ·have:=Int.mul_le_mul_of_nonneg_right (show z<=-1 by lia) (show 0<=D by lia)
        rw[Int.neg_mul,Int.one_mul]at this; lia
       ·exact q
      refine⟨⟨z.toNat,Y06.mpr ?_,by show s0+(z.toNat:Int) * D=_; rw[Int.toNat_of_nonneg z0]⟩,decide_eq_true ht0⟩
      rcases Int.lt_or_le z m with q | q
      ·lia
      ·have:=Int.mul_le_mul_of_nonneg_right q (show 0<=D by lia); lia
end
end K1
namespace L2
open PySem PySem.Spec PyProof.Rows
theorem Z6t {prog:Program}{w:World}{A:Around}{R:Result->Shared->Prop}{s:Shared}{elt target iter cnd:Expr}{scope:Scope}{pos:Pos}{it acc:Value}{env:Env}(I:Nat->Shared->Prop)
  (turn:∀ n s,I n s->wpAny (model prog w) A (pyNext it) (fun r s₁=>match r with
   | none=>R (.ok .next) s₁
   | some v=>wpAny (model prog w) A (letOwnedTupleGo target it v) (fun _ s₀=>wpAny (model prog w) A (assign target env v) (fun _ s₂=>
     wpAny (model prog w) A (isTrue cnd env (eval cnd env)) (fun ok s₃=>if ok=true then
     wpAny (model prog w) A (eval elt env) (fun x s₄=>
       wpAny (model prog w) A (call (.builtin "list.append") [acc,x]) (fun _ s₅=>∃ m,m < n/\I m s₅) (notedBy (model prog w) A env fun e s'=>R (.error e) s') s₄) (notedBy (model prog w) A env fun e s'=>R (.error e) s') s₃
      else ∃ m,m < n/\I m s₃) (notedBy (model prog w) A env fun e s'=>R (.error e) s') s₂)
     (notedBy (model prog w) A env fun e s'=>R (.error e) s') s₀) (notedBy (model prog w) A env fun e s'=>R (.error e) s') s₁) (notedBy (model prog w) A env fun e s'=>R (.error e) s') s)
  (n:Nat) (h:I n s) :
  codeAny (model prog w) A (.compLoop (.ListComp elt [⟨target,iter,[cnd],0⟩] scope pos) 0 it acc env) R s:=by
 refine codeAny_loop rfl I (fun n s hI=>?_) n h
 show wpAny _ A ((compTurn (.ListComp elt [⟨target,iter,[cnd],0⟩] scope pos) 0 it acc env).onRaise (fun x=>do noteFrame x env; theTreesLotGoes x)) _ _ s
 refine wpAny_noted ?_
 rw[compTurn_list]
 refine wpAny_bind (wpAny_standAt (wpAny_bind (wpAny_mono (turn n s hI) (fun r s₁ h₁=>?_) fun _ _ h'=>h')))
 cases r with
 | none=>exact wpAny_pure h₁
 | some v=>
  refine wpAny_bind (wpAny_mono h₁ (fun _ s₀ h₀=>?_) fun _ _ h'=>h')
  refine wpAny_bind (wpAny_mono h₀ (fun _ s₂ h₂=>wpAny_bind (wpAny_tests_one (wpAny_mono h₂ (fun ok s₃ h₃=>?_) fun _ _ h'=>h'))) fun _ _ h'=>h')
  cases ok with
  | false=>exact wpAny_pure ⟨rfl,by simpa using h₃⟩
  | true=>
   have h₃:=(show wpAny _ _ _ _ _ _ from by simpa using h₃)
   exact wpAny_bind (wpAny_bind (wpAny_mono h₃ (fun x s₄ h₄=>wpAny_bind (wpAny_mono h₄ (fun _ s₅ h₅=>wpAny_pure (wpAny_pure ⟨rfl,h₅⟩)) fun _ _ h'=>h')) fun _ _ h'=>h'))
def Z6C (wi:TI)(k:Nat)(pull:List Nat)(g:TG)(tt:TT)(te:TE):TE:=fun σ H Q=>wi σ H fun J H1=>∀ d,H1 d=none->
 ∃ W:Nat->Nat->St->Hp->Prop,(∃ m,W 0 m (bst k pull σ) (upd H1 d (.lst [])))/\∀ i m σ' H',W i m σ' H'->
  (J.stop i H'/\Q (.ref d) H')\/
  (J.go i H'/\∀ x H2,J.yld i H' x H2->g x σ' H2 fun σ3 H3=>tt σ3 H3 fun b H4=>if b=true then te σ3 H4 fun y H5=>∃ xs,H5 d=some (.lst xs)/\xs.length < sizeLine/\∃ m',m' < m/\W (i+1) m' σ3 (upd H5 d (.lst (xs++[y])))
   else ∃ m',m' < m/\W (i+1) m' σ3 H4)
section
variable {X:Cx}{elt tg iter cnd:Expr}{sc:Scope}{pos:Pos}{wi:TI}{g:TG}{tt:TT}{te:TE}{N:List Str}{names:List (Str×NameKind)}{N':List Str}{k:Nat}{pull:List Nat}
theorem Z5N (hc:X.calm=true)(B:Z7i N names N' k pull sc)(hN:X.N=N)(hnm:X.env.scope.names=names)(hi:PI X tg iter wi)
  (hg:∀ cl C s₂ H₁ fp pins,PG (blk X sc cl C N' s₂ H₁ fp pins) tg g) (hcn:∀ cl C s₂ H₁ fp pins,PT (blk X sc cl C N' s₂ H₁ fp pins) cnd tt) (he:∀ cl C s₂ H₁ fp pins,PE (blk X sc cl C N' s₂ H₁ fp pins) elt te)
  (hs:∀ x,foldedSetIterable iter X.env x=pure x:=by intro _; rfl):PE X (.ListComp elt [⟨tg,iter,[cnd],0⟩] sc pos) (Z6C wi k pull g tt te):=by
 intro pins s σ H Q I h
 rw[eval_ListComp]
 have hcells:∀ y∈sc.names,y.2=.free->∃ c,X.env.cells.lookup y.1=some c:=fun y hy hf=>I.ok.has y.1 (.inl (by
  show X.env.scope.names.lookup y.1=_
  rw[hnm]; exact B.fre y hy hf))
 obtain⟨cl,ecl,c1,_,c3⟩:=Z1l (env:=X.env) sc.names [] hcells (fun x c e=>nomatch e)
 rw[<-Z2a]at ecl
 refine wpAny_comprehension_free (use:=none) rfl hs ecl B.kind B.loc (thn (hi pins s σ H _ I h) fun xv s1 h1=>thn h1 fun itv s2 h2=>?_)
 obtain⟨it,fp,tn,J,H1,e,I2,T,st2,f2,hW⟩:=h2
 subst e
 have ho:∀ b∈fp,∃ o,s2.heap.get? b=some o:=fun b hb=>let ⟨o,e,_⟩:=T.obj _ _ st2 b hb; ⟨o,e⟩
 refine wpAny_newObj_type (wpAny_newFunctionEnv B.nocell (by intro y hy; simp at hy) (fun h₁ hns₁ hsb₁=>?_) B.kind)
 dsimp only at hns₁ hsb₁ ⊢
 rw[Y1u]at hns₁ hsb₁ ⊢
 have old:∀ b o,s2.heap.get? b=some o->h₁.get? b=some o:=fun b o e=>by
  have hlt:=Y07 e
  exact (hsb₁.2 b (Y0k (Y1h hlt))).trans (Y02 _ (Y02 _ e))
 have hd:h₁.get? s2.heap.objs.size=some { cls:=.type "list",data:=.seq ([]:List Value).toArray }:=
  (hsb₁.2 _ (Y0k (Nat.lt_succ_self _))).trans (Y02 _ (Y0a _ rfl))
 have I4:=Z4f (tk:=s2.toks+([]:List (Str×Value)).length) B hN hnm I2 f2 ho c1 c3 hns₁ old hd
 have st4:tn 0 h₁:=T.keep _ _ _ st2 fun b _ o e=>old b o e
 obtain⟨W,⟨m0,w0⟩,turn⟩:=hW s2.heap.objs.size (I2.hok.fresh (Y03 _))
 have fr4:∀ b∈fp,(upd H1 s2.heap.objs.size (.lst [])) b=none:=fun b hb=>by
  obtain⟨o,e⟩:=ho b hb
  rw[Z0i (Y0k (Y07 e))]
  exact (f2 b hb).1
 have stat:∀ {H':Hp},(∀ b∈fp,H' b=none)->∀ b∈fp,Z7O (blk X sc cl (s2.heap.objs.size+1) N' s2 H1 fp pins) [] H' b:=fun hn b hb=>by
  refine⟨hn b hb,(I4.ok.exf b hb).1,I4.ok.exfs b hb,.inl hb,(I4.ok.exf b hb).2,fun p hp=>?_⟩
  have hp:p∈X.pn++pins:=by simpa [blk] using hp
  exact (f2 b hb).2.2.2.2.2 p hp
 have loop:∀ s₃:Shared,s₃={ s2 with heap:=h₁,toks:=s2.toks+([]:List (Str×Value)).length }->
   codeAny (model X.prog X.w) X.A (.compLoop (.ListComp elt [⟨tg,iter,[cnd],0⟩] sc pos) 0 (.ref it) (.ref s2.heap.objs.size) (compEnvC sc cl (s2.heap.objs.size+1) X.env))
    (compPost (model X.prog X.w) X.A X.xe none (EP X pins σ Q) (.ref s2.heap.objs.size) (s2.heap.objs.size+1)) s₃:=by
  rintro s₃ rfl
  refine Z6t (fun n s'=>∃ i σ' H',Inv (blk X sc cl (s2.heap.objs.size+1) N' s2 H1 fp pins) [] σ' H' s'/\tn i s'.heap/\(∀ b∈fp,H' b=none)/\W i n σ' H') ?_ m0 ⟨0,_,_,I4,st4,fr4,w0⟩
  rintro n s3 ⟨i,σ3,H3,I3,st3,fr3,w3⟩
  rcases turn i n σ3 H3 w3 with ⟨stop,q⟩ | ⟨go,step⟩
  ·refine thn (T.done (blk X sc cl (s2.heap.objs.size+1) N' s2 H1 fp pins) rfl rfl rfl hc i [] s3 σ3 H3 _ I3 (stat fr3) st3 stop) fun r s4 ⟨hr,I5⟩=>?_
   subst hr
   obtain⟨m,hn,_⟩:=id I5.loc
   refine⟨m,hn,fun h' hs'=>?_⟩
   have ne:∀ b o,s2.heap.get? b=some o->b≠s2.heap.objs.size+1:=fun b o e=>Y0k (Y1h (Y07 e))
   have U:Un (frs X.stack) fp H1 H3 s2.heap s4.heap:=I5.base
   have U':Un (frs X.stack) fp H1 H3 s2.heap h':=⟨fun b o e n hb hx=>(hs'.2 b (ne b o e)).trans (U.keep b o e n hb hx),fun b o e n hb hx=>by
     obtain⟨sl,z⟩:=U.slot b o e n hb hx
     exact⟨sl,(hs'.2 b (ne b o e)).trans z⟩,U.free,fun b o e hx=>by
     obtain⟨o',z⟩:=U.there b o e hx
     exact⟨o',(hs'.2 b (ne b o e)).trans z⟩,U.tups,U.frzs,U.tbls⟩
   have hok:HOk X.prog X.w H3 h':=HOk.but (C:=s2.heap.objs.size+1) I5.hok I5.free fun b o hb e=>(hs'.2 b hb).trans e
   refine⟨.ref s2.heap.objs.size,H3,I2.call' (s':={ s4 with heap:=h' }) I5.os U' hok I5.bare fun b hb=>?_,rfl,q⟩
   exact⟨(f2 b hb).2.2.2.1,(f2 b hb).2.1,(f2 b hb).2.2.2.2.1,(f2 b hb).2.2.2.2.2⟩
  ·refine thn (T.item (blk X sc cl (s2.heap.objs.size+1) N' s2 H1 fp pins) rfl rfl rfl hc i [] s3 σ3 H3 _ I3 (stat fr3) st3 go) fun r s4 ⟨u,hr,h4⟩=>?_
   subst hr
   refine thn h4 fun _ s5 ⟨x,H5,I5,r5,y5,st5,fr5⟩=>?_
   have I5':=I5.pinned (stat fr5) (T.obj _ _ st5)
   refine wpAny_mono (hg _ _ _ _ _ _ _ s5 σ3 H5 x u _ I5' r5 (step x H5 y5)) (fun _ s6 ⟨σ6,H6,I6,q6⟩=>?_) fun _ _ z=>z.elim
   refine wpAny_mono (hcn _ _ _ _ _ _ _ s6 σ6 H6 _ I6 q6) (fun ok s7 ⟨H7,I7,q7⟩=>?_) fun _ _ z=>z.elim
   cases ok with
   | false=>
    have q7:∃ m',m' < n/\W (i+1) m' σ6 H7:=by simpa using q7
    obtain⟨m',hm,w7⟩:=q7
    refine⟨m',hm,i+1,σ6,_,I7.unpinned,T.keep _ _ _ st5 fun b hb o e=>(I7.pin (b,o) (Y09 _ (Y09 _ (Z10 hb e)))).1,fun b hb=>?_,w7⟩
    obtain⟨o,e,_⟩:=T.obj _ _ st5 b hb
    exact (I7.pin (b,o) (Y09 _ (Y09 _ (Z10 hb e)))).2.1
   | true=>
    rw[if_pos rfl]at q7
    refine wpAny_mono (he _ _ _ _ _ _ _ s7 σ6 H7 _ I7 q7) (fun y s8 ⟨z,H8,I8,r8,xs,hx8,hz8,m',hm,w8⟩=>?_) fun _ _ z=>z.elim
    refine wpAny_mono (Z0M (X:=blk X sc cl (s2.heap.objs.size+1) N' s2 H1 fp pins) _ s8 σ6 H8 (.ref s2.heap.objs.size) [z] (.ref s2.heap.objs.size) [y] (fun _ H9=>H9=upd H8 s2.heap.objs.size (.lst (xs++[z]))) I8 rfl (.cons r8 .nil) ⟨_,xs,z,rfl,rfl,hx8,hz8,rfl⟩) (fun _ s9 ⟨_,H9,I9,_,e9⟩=>?_) fun _ _ z=>z.elim
    subst e9
    refine⟨m',hm,i+1,σ6,_,I9.unpinned,T.keep _ _ _ st5 fun b hb o e=>(I9.pin (b,o) (Y09 _ (Y09 _ (Z10 hb e)))).1,fun b hb=>?_,w8⟩
    obtain⟨o,e,_⟩:=T.obj _ _ st5 b hb
    exact (I9.pin (b,o) (Y09 _ (Y09 _ (Z10 hb e)))).2.1
 exact codeAny_compStart_list (loop _ rfl) (T.self _ 0 _ _ _ st4 (loop _ rfl))
end
section
variable {X:Cx}{elt tg iter:Expr}{sc:Scope}{pos py spos:Pos}{wi:TI}{g:TG}{te:TE}{N:List Str}{names:List (Str×NameKind)}{N':List Str}{k j:Nat}{pull:List Nat}{y:Str}
theorem Z9e (hc:X.calm=true)(hNd:X.N.Nodup)(hj:X.N[j]?=some y)(hy:X.env.scope.names.lookup y=some .local)(B:Z7i N names N' k pull sc)(hN:X.N=N)(hnm:X.env.scope.names=names)(hi:PI X tg iter wi)
  (hg:∀ cl C s₂ H₁ fp pins,PG (blk X sc cl C N' s₂ H₁ fp pins) tg g) (he:∀ cl C s₂ H₁ fp pins,PE (blk X sc cl C N' s₂ H₁ fp pins) elt te)
  (hs:∀ x,foldedSetIterable iter X.env x=pure x:=by intro _; rfl) (hsw:swapsWith (.ListComp elt [⟨tg,iter,[],0⟩] sc pos) (some (.Name y py)) spos.line X.env=pure true:=by rfl):PS X (.Assign [.Name y py] (.ListComp elt [⟨tg,iter,[],0⟩] sc pos) spos) (Zaf (Z90 wi k pull g te) (Z2o j)):=by
 intro pins s σ H D I h
 rw[exec_Assign_Name_used _ _ _ _ hsw]
 refine wpAny_bind (wpAny_standAt (wpAny_bind ?_))
 show wpAny _ X.A (do let _ <-comprehension (.ListComp elt [⟨tg,iter,[],0⟩] sc pos) sc X.env _ (newList []) false (eval iter X.env) (some (assign (.Name y py) X.env))) _ _ s
 have hcells:∀ y∈sc.names,y.2=.free->∃ c,X.env.cells.lookup y.1=some c:=fun y hy hf=>I.ok.has y.1 (.inl (by
  show X.env.scope.names.lookup y.1=_
  rw[hnm]; exact B.fre y hy hf))
 obtain⟨cl,ecl,c1,_,c3⟩:=Z1l (env:=X.env) sc.names [] hcells (fun x c e=>nomatch e)
 rw[<-Z2a]at ecl
 refine wpAny_bind (wpAny_mono (wpAny_comprehension_free (Q:=fun _ s'=>SP X pins D .next s') (use:=some (assign (.Name y py) X.env)) rfl hs ecl B.kind B.loc (thn (hi pins s σ H _ I h) fun xv s1 h1=>thn h1 fun itv s2 h2=>?_)) (fun _ s' hq=>wpAny_pure (wpAny_pure hq)) fun _ _ e=>e)
 obtain⟨it,fp,tn,J,H1,e,I2,T,st2,f2,hW⟩:=h2
 subst e
 have ho:∀ b∈fp,∃ o,s2.heap.get? b=some o:=fun b hb=>let ⟨o,e,_⟩:=T.obj _ _ st2 b hb; ⟨o,e⟩
 refine wpAny_newObj_type (wpAny_newFunctionEnv B.nocell (by intro y hy; simp at hy) (fun h₁ hns₁ hsb₁=>?_) B.kind)
 dsimp only at hns₁ hsb₁ ⊢
 rw[Y1u]at hns₁ hsb₁ ⊢
 have old:∀ b o,s2.heap.get? b=some o->h₁.get? b=some o:=fun b o e=>by
  have hlt:=Y07 e
  exact (hsb₁.2 b (Y0k (Y1h hlt))).trans (Y02 _ (Y02 _ e))
 have hd:h₁.get? s2.heap.objs.size=some { cls:=.type "list",data:=.seq ([]:List Value).toArray }:=
  (hsb₁.2 _ (Y0k (Nat.lt_succ_self _))).trans (Y02 _ (Y0a _ rfl))
 have I4:=Z4f (tk:=s2.toks+([]:List (Str×Value)).length) B hN hnm I2 f2 ho c1 c3 hns₁ old hd
 have st4:tn 0 h₁:=T.keep _ _ _ st2 fun b _ o e=>old b o e
 obtain⟨W,⟨m0,w0⟩,turn⟩:=hW s2.heap.objs.size (I2.hok.fresh (Y03 _))
 have fr4:∀ b∈fp,(upd H1 s2.heap.objs.size (.lst [])) b=none:=fun b hb=>by
  obtain⟨o,e⟩:=ho b hb
  rw[Z0i (Y0k (Y07 e))]
  exact (f2 b hb).1
 have stat:∀ {H':Hp},(∀ b∈fp,H' b=none)->∀ b∈fp,Z7O (blk X sc cl (s2.heap.objs.size+1) N' s2 H1 fp pins) [] H' b:=fun hn b hb=>by
  refine⟨hn b hb,(I4.ok.exf b hb).1,I4.ok.exfs b hb,.inl hb,(I4.ok.exf b hb).2,fun p hp=>?_⟩
  have hp:p∈X.pn++pins:=by simpa [blk] using hp
  exact (f2 b hb).2.2.2.2.2 p hp
 have loop:∀ s₃:Shared,s₃={ s2 with heap:=h₁,toks:=s2.toks+([]:List (Str×Value)).length }->
   codeAny (model X.prog X.w) X.A (.compLoop (.ListComp elt [⟨tg,iter,[],0⟩] sc pos) 0 (.ref it) (.ref s2.heap.objs.size) (compEnvC sc cl (s2.heap.objs.size+1) X.env))
    (compPost (model X.prog X.w) X.A X.xe (some (assign (.Name y py) X.env)) (fun _ s'=>SP X pins D .next s') (.ref s2.heap.objs.size) (s2.heap.objs.size+1)) s₃:=by
  rintro s₃ rfl
  refine Z5B (fun n s'=>∃ i σ' H',Inv (blk X sc cl (s2.heap.objs.size+1) N' s2 H1 fp pins) [] σ' H' s'/\tn i s'.heap/\(∀ b∈fp,H' b=none)/\W i n σ' H') ?_ m0 ⟨0,_,_,I4,st4,fr4,w0⟩
  rintro n s3 ⟨i,σ3,H3,I3,st3,fr3,w3⟩
  rcases turn i n σ3 H3 w3 with ⟨stop,q⟩ | ⟨go,step⟩
  ·refine thn (T.done (blk X sc cl (s2.heap.objs.size+1) N' s2 H1 fp pins) rfl rfl rfl hc i [] s3 σ3 H3 _ I3 (stat fr3) st3 stop) fun r s4 ⟨hr,I5⟩=>?_
   subst hr
   obtain⟨m,hn,_⟩:=id I5.loc
   have U:Un (frs X.stack) fp H1 H3 s2.heap s4.heap:=I5.base
   have J5:Inv X pins σ H3 s4:=I2.call' (s':=s4) I5.os U I5.hok I5.bare fun b hb=>⟨(f2 b hb).2.2.2.1,(f2 b hb).2.1,(f2 b hb).2.2.2.2.1,(f2 b hb).2.2.2.2.2⟩
   obtain⟨g0,g1,_,g3,g4,g5⟩:Z7O X pins H3 (s2.heap.objs.size+1):=I2.fpOk (Nat.le_succ _) I5.free
   refine wpAny_assign_Name (Z68 J5 hNd hj (.inl hy) (v:=.ref s2.heap.objs.size) rfl (fun s5 K5 ⟨a,sb,ha⟩=>?_) (.inr hy))
   have hne:s2.heap.objs.size+1≠a:=fun z=>by
    rcases ha with ha | ha
    ·exact g1 (z.trans ha)
    ·exact g4 _ _ ha z.symm
   refine⟨m,hn.sameBut sb hne,fun h' hs'=>⟨_,H3,?_,q⟩⟩
   exact K5.turned (t':=s5.toks) (fun b o hb e=>(hs'.2 b hb).trans e) g0 g1 g3 g4 g5
  ·refine thn (T.item (blk X sc cl (s2.heap.objs.size+1) N' s2 H1 fp pins) rfl rfl rfl hc i [] s3 σ3 H3 _ I3 (stat fr3) st3 go) fun r s4 ⟨u,hr,h4⟩=>?_
   subst hr
   refine thn h4 fun _ s5 ⟨x,H5,I5,r5,y5,st5,fr5⟩=>?_
   have I5':=I5.pinned (stat fr5) (T.obj _ _ st5)
   refine wpAny_mono (hg _ _ _ _ _ _ _ s5 σ3 H5 x u _ I5' r5 (step x H5 y5)) (fun _ s6 ⟨σ6,H6,I6,q6⟩=>?_) fun _ _ z=>z.elim
   refine wpAny_mono (he _ _ _ _ _ _ _ s6 σ6 H6 _ I6 q6) (fun y s7 ⟨z,H7,I7,r7,xs,hx7,hz7,m',hm,w7⟩=>?_) fun _ _ z=>z.elim
   refine wpAny_mono (Z0M (X:=blk X sc cl (s2.heap.objs.size+1) N' s2 H1 fp pins) _ s7 σ6 H7 (.ref s2.heap.objs.size) [z] (.ref s2.heap.objs.size) [y] (fun _ H8=>H8=upd H7 s2.heap.objs.size (.lst (xs++[z]))) I7 rfl (.cons r7 .nil) ⟨_,xs,z,rfl,rfl,hx7,hz7,rfl⟩) (fun _ s8 ⟨_,H8,I8,_,e8⟩=>?_) fun _ _ z=>z.elim
   subst e8
   refine⟨m',hm,i+1,σ6,_,I8.unpinned,T.keep _ _ _ st5 fun b hb o e=>(I8.pin (b,o) (Y09 _ (Y09 _ (Z10 hb e)))).1,fun b hb=>?_,w7⟩
   obtain⟨o,e,_⟩:=T.obj _ _ st5 b hb
   exact (I8.pin (b,o) (Y09 _ (Y09 _ (Z10 hb e)))).2.1
 exact codeAny_compStart_list (loop _ rfl) (T.self _ 0 _ _ _ st4 (loop _ rfl))
end
def XW (n:Nat)(Pv:Nat->List V->St->Hp->Prop)(d:Addr)(i m:Nat)(σ:St)(H:Hp):Prop:=m=n - i/\i<=n/\∃ xs,Pv i xs σ H/\H d=some (.lst xs)
def Zcn (n:Nat)(Pv:Nat->List V->St->Hp->Prop)(d:Addr)(i:Nat)(σ3:St)(y:V)(H4:Hp):Prop:=∃ xs,H4 d=some (.lst xs)/\xs.length < sizeLine/\∃ m',m' < n - i/\XW n Pv d (i+1) m' σ3 (upd H4 d (.lst (xs++[y])))
def Zex (n:Nat)(Pv:Nat->List V->St->Hp->Prop)(d:Addr)(i:Nat)(σ3:St)(H4:Hp):Prop:=∃ m',m' < n - i/\XW n Pv d (i+1) m' σ3 H4
theorem Zca {n:Nat}{Pv:Nat->List V->St->Hp->Prop}{d:Addr}{i:Nat}{σ3:St}{y:V}{H4:Hp}{xs:List V}(hi:i < n)(hd:H4 d=some (.lst xs))(hl:xs.length<=1000)(hp:Pv (i+1) (xs++[y]) σ3 (upd H4 d (.lst (xs++[y])))):Zcn n Pv d i σ3 y H4:=
 ⟨xs,hd,Z0A hl,n - (i+1),by omega,rfl,hi,_,hp,Z06⟩
theorem ZdV {n:Nat}{Pv:Nat->List V->St->Hp->Prop}{d:Addr}{i:Nat}{σ3:St}{H4:Hp}{xs:List V}(hi:i < n)(hd:H4 d=some (.lst xs))(hp:Pv (i+1) xs σ3 H4):Zex n Pv d i σ3 H4:=
 ⟨n - (i+1),by omega,rfl,hi,_,hp,hd⟩
theorem ZbH {J:It}{g:TG}{te:TE}{d:Addr}{σ0:St}{H1:Hp}{Q:Addr->Hp->Prop}(n:Nat)(Pv:Nat->List V->St->Hp->Prop)(h0:Pv 0 [] σ0 (upd H1 d (.lst [])))
  (go:∀ i xs σ H,i < n->Pv i xs σ H->H d=some (.lst xs)->J.go i H/\∀ x H2,J.yld i H x H2->g x σ H2 fun σ3 H3=>te σ3 H3 fun y H4=>Zcn n Pv d i σ3 y H4)
  (stop:∀ xs σ H,Pv n xs σ H->H d=some (.lst xs)->J.stop n H/\Q d H) :
  ∃ W:Nat->Nat->St->Hp->Prop,(∃ m,W 0 m σ0 (upd H1 d (.lst [])))/\∀ i m σ' H',W i m σ' H'->
   (J.stop i H'/\Q d H')\/(J.go i H'/\∀ x H2,J.yld i H' x H2->g x σ' H2 fun σ3 H3=>te σ3 H3 fun y H4=>∃ xs,H4 d=some (.lst xs)/\xs.length < sizeLine/\∃ m',m' < m/\W (i+1) m' σ3 (upd H4 d (.lst (xs++[y])))):=by
 refine⟨XW n Pv d,⟨n,by simp,Y0s _,[],h0,Z06⟩,?_⟩
 rintro i m σ H ⟨rfl,hi,xs,p,hd⟩
 by_cases hlt:i < n
 ·exact .inr (go i xs σ H hlt p hd)
 ·have:i=n:=by omega
  subst this
  exact .inl (stop xs σ H p hd)
theorem Z5t {J:It}{g:TG}{tt:TT}{te:TE}{d:Addr}{σ0:St}{H1:Hp}{Q:Addr->Hp->Prop}(n:Nat)(Pv:Nat->List V->St->Hp->Prop)(h0:Pv 0 [] σ0 (upd H1 d (.lst [])))
  (go:∀ i xs σ H,i < n->Pv i xs σ H->H d=some (.lst xs)->J.go i H/\∀ x H2,J.yld i H x H2->g x σ H2 fun σ3 H3=>tt σ3 H3 fun b H4=>if b=true then te σ3 H4 fun y H5=>Zcn n Pv d i σ3 y H5 else Zex n Pv d i σ3 H4)
  (stop:∀ xs σ H,Pv n xs σ H->H d=some (.lst xs)->J.stop n H/\Q d H) :
  ∃ W:Nat->Nat->St->Hp->Prop,(∃ m,W 0 m σ0 (upd H1 d (.lst [])))/\∀ i m σ' H',W i m σ' H'->
   (J.stop i H'/\Q d H')\/(J.go i H'/\∀ x H2,J.yld i H' x H2->g x σ' H2 fun σ3 H3=>tt σ3 H3 fun b H4=>if b=true then te σ3 H4 fun y H5=>∃ xs,H5 d=some (.lst xs)/\xs.length < sizeLine/\∃ m',m' < m/\W (i+1) m' σ3 (upd H5 d (.lst (xs++[y])))
    else ∃ m',m' < m/\W (i+1) m' σ3 H4):=by
 refine⟨XW n Pv d,⟨n,by simp,Y0s _,[],h0,Z06⟩,?_⟩
 rintro i m σ H ⟨rfl,hi,xs,p,hd⟩
 by_cases hlt:i < n
 ·exact .inr (go i xs σ H hlt p hd)
 ·have:i=n:=by omega
  subst this
  exact .inl (stop xs σ H p hd)
end L2
namespace K1
open PySem L2 Sq
theorem ZbA (x:Int)(xs:List Int):inV (.int x) (xs.map V.int)=decide (x∈xs):=by
 unfold inV
 rw[List.any_map]
 apply Bool.eq_iff_iff.mpr
 rw[List.any_eq_true,decide_eq_true_iff]
 constructor
 ·rintro ⟨y,hy,e⟩
  have:y=x:=by simpa [eqV,ZcK] using e
  rw[<-this]; exact hy
 ·intro h; exact⟨x,h,by simp[eqV,ZcK]⟩
theorem Za8 (xs:List Int):(xs.map V.int).all Z4B=true:=by
 rw[List.all_map,List.all_eq_true]; intro x _; rfl
theorem Zaj {K:Y00}{Hc:Hp}{a:Addr}{ts:List Int}{tl:TE}{tt:TT}{pull:List Nat}{Q:VK}{σ:St}{rest:St}(p:Int->Bool)(hj:∀ R:VK,R (.ref a) Hc->tl σ Hc R)(hp:Hc a=some (.lst (ts.map V.int)))(hb:bst 1 pull σ=none :: rest)
  (htt:∀ (t:Int) (H:Hp) (R:Bool->Hp->Prop),Z0q Hc H->R (p t) H->tt (some (.int t) :: rest) H R) (hm:ts.length<=1000)
  (k:∀ (H':Hp) (d:Addr),Z0q Hc H'->Hc d=none->H' d=some (.lst ((ts.filter p).map V.int))->Q (.ref d) H') :
  Z6C (Z9r K tl) 1 pull (Z2o 0) tt (Z12 0) σ Hc Q:=by
 refine hj _ ⟨a,rfl,⟨_,SqL.of hp⟩,fun d hd=>?_⟩
 rw[hb]
 refine Z5t (J:=Itl K a) (Q:=fun d H'=>Q (.ref d) H') ts.length (fun i xs σ H9=>(∃ o,σ=o :: rest)/\Z0q Hc H9/\xs=((ts.take i).filter p).map V.int) ⟨⟨_,rfl⟩,Z08 (Z0q.refl _) hd,rfl⟩ ?_ ?_
 ·rintro i xs σ H9 hi ⟨⟨o,rfl⟩,s9,rfl⟩ hd9
  have hq:=SqL.of (K:=K) (s9 _ _ hp)
  have hmi:(ts.map V.int)[i]?=some (.int ts[i]):=by rw[Y10,Y01 hi]; rfl
  refine⟨⟨_,_,hq,hmi⟩,fun y H4 ⟨e1,hy⟩=>?_⟩
  subst e1
  have hy:=hy _ hq
  rw[hmi]at hy
  cases hy
  refine htt ts[i] _ _ s9 ?_
  have el:((ts.take i).filter p).length<=i:=by have:=Y1e p (ts.take i); rw[Y0x]at this; lia
  have ef:(ts.take (i+1)).filter p=(ts.take i).filter p++[ts[i]].filter p:=by rw[Y1i,Y01 hi,Y14]; rfl
  cases e:p ts[i] with
  | true=>
   have e3:[ts[i]].filter p=[ts[i]]:=by simp[e]
   rw[if_pos rfl]
   refine⟨_,rfl,Zca hi hd9 (by rw[Y08]; lia) ⟨⟨_,rfl⟩,Z08 s9 hd,?_⟩⟩
   rw[ef,e3,Y0y]; rfl
  | false=>
   have e3:[ts[i]].filter p=[]:=by simp[e]
   rw[if_neg (by decide)]
   refine ZdV hi hd9 ⟨⟨_,rfl⟩,s9,?_⟩
   rw[ef,e3,Y19]
 ·rintro xs σ H9 ⟨⟨o,rfl⟩,s9,rfl⟩ hd9
  rw[List.take_length]at hd9
  exact⟨⟨_,SqL.of (s9 _ _ hp),by simp⟩,k H9 d s9 hd hd9⟩
def ZcJ (H:Hp)(v:V):Option (List Int)->Prop
 | none=>v=.non
 | some ts=>∃ l,v=.ref l/\H l=some (.lst (ts.map V.int))
def Zeu:Sp:=fun vs H Q _=>∃ (v1 v2:V) (o1 o2:Option (List Int)),vs=[v1,v2]/\ZcJ H v1 o1/\ZcJ H v2 o2/\¬ (o1=none/\o2=none)/\(∀ ts,o1=some ts->ts.Nodup/\ts.length<=400)/\(∀ ts,o2=some ts->ts.Nodup/\ts.length<=400)/\
 ∀ (H':Hp) (l:Addr) (ts:List Int),Z0q H H'->(.ref l=v1\/.ref l=v2\/H l=none)->H' l=some (.lst (ts.map V.int))->ts.Nodup->ts.length<=400->(∀ t,t∈ts↔(∀ x,o1=some x->t∈x)/\(∀ x,o2=some x->t∈x))->Q (.ref l) H'
section
variable {P:Program}{w:World}{K:Y00}{mg:Str->Option Value}{base:Heap}
abbrev Zec:List Str:=["_law_first","_law_second"]
theorem ZeT:Z0k Zec ["_law_first","_law_second"] (Z0a Z18):=⟨rfl,rfl,rfl,by decide +kernel,rfl,by decide +kernel,by decide +kernel⟩
theorem Zcv:(["_law_time","_law_second"]:List Str).Nodup:=by decide +kernel
set_option maxHeartbeats 1000000 in
theorem Zev {f:Addr}{fd:FuncData}(F:Fn K mg "_law_corner_times" Z18 ["_law_first","_law_second"] f fd):Z0x P w K mg base CX0 1 f fd ["_law_first","_law_second"] Zeu:=by
 refine F.F.ok ZeT (fun vs H Q E h=>?_) (fun cdv A outer s H vs Q E hr h=>?_)
 ·obtain⟨v1,v2,o1,o2,rfl,_⟩:=h; rfl
 ·obtain⟨v1,v2,o1,o2,rfl,t1,t2,hne,l1,l2,k⟩:=h
  refine⟨_,(Z03 (Z0T (Z0h Z9c (pv 0) Z3E (Z0m _)) (Z07 (Z0l (pv 1))) Z0t)
   (Z03 (Z0T (Z0h Z9c (pv 1) Z3E (Z0m _)) (Z07 (Z0l (pv 0))) Z0t)
   (Z07 (Z0l (Z5N (N:=Zec) (names:=(Z0a Z18).names) (N':=["_law_time","_law_second"]) (k:=1) (pull:=[1]) (tt:=Z6B (tOp (rIn K false) (Z12 0) (Z12 1))) (te:=Z12 0) rfl ⟨by rfl,by decide +kernel,by decide +kernel,by rfl,by decide +kernel,by decide +kernel⟩ rfl rfl (Z2k (pv 0)) (fun _ _ _ _ _ _=>Z0u (i:=0) Zcv rfl (Or.inl rfl)) (fun _ _ _ _ _ _=>Z0h Z8K (pv 0) (pv 1) (by with_unfolding_all rfl)) (fun _ _ _ _ _ _=>pv 0)))))),?_⟩
  refine⟨_,rfl,rfl,_,rfl,?_⟩
  cases o1 with
  | none=>
   obtain rfl:v1=.non:=t1
   rw[decide_eq_true rfl]
   refine Z1u ?_
   cases o2 with
   | none=>exact absurd ⟨rfl,rfl⟩ hne
   | some ts=>
    obtain⟨l,rfl,h⟩:=t2
    exact⟨_,rfl,k H l ts (Z0q.refl H) (.inr (.inl rfl)) h (l2 _ rfl).1 (l2 _ rfl).2 fun t=>⟨fun q=>⟨fun _ z=>(by cases z),fun _ z=>by cases z; exact q⟩,fun q=>q.2 _ rfl⟩⟩
  | some ts=>
   obtain⟨la,rfl,ha⟩:=t1
   rw[decide_eq_false (by intro z; cases z)]
   refine Z0Z ?_
   refine⟨_,rfl,rfl,_,rfl,?_⟩
   cases o2 with
   | none=>
    obtain rfl:v2=.non:=t2
    rw[decide_eq_true rfl]
    refine Z1u ?_
    exact⟨_,rfl,k H la ts (Z0q.refl H) (.inl rfl) ha (l1 _ rfl).1 (l1 _ rfl).2 fun t=>⟨fun q=>⟨fun _ z=>(by cases z; exact q),fun _ z=>by cases z⟩,fun q=>q.1 _ rfl⟩⟩
   | some us=>
    obtain⟨lb,rfl,hb⟩:=t2
    rw[decide_eq_false (by intro z; cases z)]
    refine Z0Z ?_
    obtain⟨n1,m1⟩:=l1 _ rfl
    show Z6C (Z9r K (Z12 0)) 1 [1] (Z2o 0) (Z6B (tOp (rIn K false) (Z12 0) (Z12 1))) (Z12 0) [some (.ref la),some (.ref lb)] H Q
    refine Zaj (K:=K) (rest:=[some (.ref lb)]) (fun t=>decide (t∈us)) (fun R hR=>⟨_,rfl,hR⟩) ha rfl (fun t H' R hs hR=>?_) (by lia) fun H' d s' hd0 hd=>?_
    ·refine⟨_,rfl,_,rfl,lb,_,rfl,.inl (SqL.of (hs _ _ hb)),rfl,Za8 us,_,rfl,?_⟩
     rw[if_neg (by decide),ZbA]; exact hR
    ·refine k H' d _ s' (.inr (.inr hd0)) hd ?_ ?_ fun t=>?_
     ·exact Y0q.mpr ((Y0q.mp n1).filter _)
     ·have:=Y1e (fun t=>decide (t∈us)) ts; lia
     ·rw[Y0r,decide_eq_true_iff]
      exact⟨fun q=>⟨fun _ z=>(by cases z; exact q.1),fun _ z=>by cases z; exact q.2⟩,fun q=>⟨q.1 _ rfl,q.2 _ rfl⟩⟩
end
def ZaP:Sp:=fun vs H Q _=>∃ (top bot by_ sc T:Int) (N:Nat),vs=[.int top,.int bot,.int by_,.int sc,.int T]/\0 < bot/\0 < sc/\0<=top/\top < bot/\0<=T/\T<=N * (bot * sc)/\Bt 300 bot/\Bt 300 sc/\Bt 900 T/\N<=300/\
 ∀ (H':Hp) (v:V) (o:Option (List Int)),Z0q H H'->ZcJ H' v o->(∀ l,v=.ref l->H l=none)->(o=none->by_=0/\top=0)->(∀ ts,o=some ts->ts.Nodup/\ts.length<=N+2/\∀ t,t∈ts↔0<=t/\t<=T/\WsE top bot by_ sc t)->Q v H'
theorem ZcJ.same {H H':Hp}{v:V}{o:Option (List Int)}(h:ZcJ H v o)(s:Z0q H H'):ZcJ H' v o:=by
 cases o with
 | none=>exact h
 | some ts=>obtain⟨l,e,h⟩:=h; exact⟨l,e,s _ _ h⟩
section
variable {P:Program}{w:World}{K:Y00}{mg:Str->Option Value}{base:Heap}
theorem ZcS {f:Addr}{fd:FuncData}{ps:List Str}{k:Nat}(G:Z0x P w K mg base CX0 k f fd ps ZeK):Z0x P w K mg base CX0 k f fd ps ZaP:=by
 refine G.imp fun vs H Q E h=>?_
 obtain⟨top,bot,by_,sc,T,N,rfl,a1,a2,a3,a4,a5,a6,a7,a8,a9,a10,kk⟩:=h
 exact⟨top,bot,by_,sc,T,N,rfl,a1,a2,a3,a4,a5,a6,a7,a8,a9,a10,fun H' l ts s hl h nd le hne me=>kk H' (.ref l) (some ts) s ⟨l,rfl,h⟩ (fun l' z=>by cases z; exact hl) (fun z=>by cases z) (fun ts' z=>by cases z; exact⟨nd,le,me⟩),fun z1 z2=>kk H .non none (Z0q.refl H) rfl (fun l' z=>by cases z) (fun _=>⟨z1,z2⟩) (fun ts z=>by cases z)⟩
end
end K1
namespace Sq
def it (w:List Nat)(x:Nat):Nat->Nat
 | 0=>x
 | i+1=>nx w (it w x i)
structure Cyc (w:List Nat)(x:Nat)(M:List Nat):Prop where
 pos:1<=M.length
 is:M=(Y05 M.length).map (it w x)
 back:it w x M.length=x
 new:∀ i,1<=i->i < M.length->it w x i≠x
theorem Cyc.unique {w:List Nat}{x:Nat}{M M':List Nat}(h:Cyc w x M)(h':Cyc w x M'):M=M':=by
 have e:M.length=M'.length:=by
  rcases Nat.lt_trichotomy M.length M'.length with c | c | c
  ·exact absurd h.back (h'.new _ h.pos c)
  ·exact c
  ·exact absurd h'.back (h.new _ h'.pos c)
 rw[h.is,h'.is,e]
section
variable {n:Nat}{w:List Nat}
theorem Z6d (rw':Row n w){x:Nat}(hx:x < n):∀ i,it w x i < n
 | 0=>hx
 | i+1=>rw'.nlt (Z6d rw' hx i)
theorem Z5P (rw':Row n w){x:Nat}(hx:x < n):∀ i j,it w x (i+j)=it w x i->it w x j=x
 | 0,j,h=>by simpa [it] using h
 | i+1,j,h=>by
  have e:it w x (i+1+j)=nx w (it w x (i+j)):=by rw[show i+1+j=(i+j)+1 from by lia]; rfl
  rw[e]at h
  exact Z5P rw' hx i j (rw'.inj (Z6d rw' hx _) (Z6d rw' hx _) h)
theorem Z75 (rw':Row n w){x k:Nat}(hx:x < n)(h:∀ i,1<=i->i < k->it w x i≠x):((Y05 k).map (it w x)).Nodup:=by
 refine Y0t.mpr (List.Pairwise.imp_of_mem (R:=fun a b=>a < b) (fun {a b} ha hb hab e=>?_) List.pairwise_lt_range)
 have hb:=Y06.mp hb
 have:=Z5P rw' hx a (b - a) (by rw[show a+(b - a)=b from by lia]; exact e.symm)
 exact h (b - a) (by lia) (by lia) this
theorem Z9v (rw':Row n w){x k:Nat}(hx:x < n)(h:∀ i,1<=i->i < k->it w x i≠x):k<=n:=by
 have:=Z2v _ (Y05 n) (Z75 rw' hx h) fun y hy=>by
  obtain⟨i,_,rfl⟩:=Y0f.mp hy
  exact Y06.mpr (Z6d rw' hx i)
 simpa using this
theorem Cyc.nd (rw':Row n w){x:Nat}(hx:x < n){M:List Nat}(h:Cyc w x M):M.Nodup:=by
 rw[h.is]; exact Z75 rw' hx h.new
theorem Cyc.get {x:Nat}{M:List Nat}(h:Cyc w x M){i:Nat}(hi:i < M.length):M[i]?=some (it w x i):=by
 rw[h.is]; simp[hi]
theorem Cyc.lt (rw':Row n w){x:Nat}(hx:x < n){M:List Nat}(h:Cyc w x M):∀ y∈M,y < n:=fun y hy=>by
 rw[h.is]at hy
 obtain⟨i,_,rfl⟩:=Y0f.mp hy
 exact Z6d rw' hx i
theorem Cyc.next {x:Nat}{M:List Nat}(h:Cyc w x M){i y:Nat}(hi:M[i]?=some y):M[(i+1) % M.length]?=some (nx w y):=by
 have hl:=(Y04.mp hi).1
 have e:y=it w x i:=by have:=h.get hl; rw[hi]at this; exact Option.some.inj this
 subst e
 rcases Y0j (i+1) M.length with c | c
 ·rw[Nat.mod_eq_of_lt c,h.get c]; rfl
 ·have:i+1=M.length:=by lia
  rw[this,Nat.mod_self,h.get h.pos]
  have hb:=h.back
  rw[<-this]at hb
  show some x=some (nx w (it w x i))
  rw[show nx w (it w x i)=it w x (i+1) from rfl,hb]
theorem Z8f (x:Nat)(i:Nat):∀ j,it w x (i+j)=it w (it w x i) j
 | 0=>rfl
 | j+1=>by show nx w (it w x (i+j))=nx w (it w (it w x i) j); rw[Z8f x i j]
end
end Sq
namespace Sq
def per (n:Nat)(w:List Nat)(x:Nat):Nat:=((Y05 n).find? fun k=>decide (it w x (k+1)=x)).getD 0+1
def cyc (n:Nat)(w:List Nat)(x:Nat):List Nat:=(Y05 (per n w x)).map (it w x)
def Z6S (n:Nat)(w:List Nat)(x:Nat):Bool:=decide (∀ y∈cyc n w x,x<=y)
def Z1T (n:Nat)(w:List Nat):List (List Nat):=((Y05 n).filter (Z6S n w)).map (cyc n w)
section
variable {n:Nat}{w:List Nat}
theorem Zbn (rw':Row n w){x:Nat}(hx:x < n):it w x (per n w x)=x/\∀ i,1<=i->i < per n w x->it w x i≠x:=by
 unfold per
 cases h:(Y05 n).find? fun k=>decide (it w x (k+1)=x) with
 | none=>
  have:=List.find?_eq_none.mp h
  have:=Z9v (k:=n+1) rw' hx fun i h1 h2 e=>by
   refine this (i - 1) (Y06.mpr (by lia)) ?_
   rw[show i - 1+1=i from by lia]; exact decide_eq_true e
  lia
 | some k=>
  obtain⟨h1,as,bs,h2,h3⟩:=List.find?_eq_some_iff_append.mp h
  refine⟨of_decide_eq_true h1,fun i hi hlt e=>?_⟩
  have hlt:i < k+1:=hlt
  have hk:as.length=k:=by
   have hl:as.length < n:=by
    have:=congrArg List.length h2
    simp at this; lia
   have e1:(Y05 n)[as.length]?=some k:=by rw[h2]; simp
   rw[List.getElem?_range hl]at e1
   exact Option.some.inj e1
  have hi':i - 1 < as.length:=by lia
  have hl:as.length<=n:=by
   have:=congrArg List.length h2
   simp at this; lia
  have e2:as[i - 1]?=some (i - 1):=by
   have:(Y05 n)[i - 1]?=as[i - 1]?:=by rw[h2,Y0z hi']
   rw[<-this,List.getElem?_range (by lia)]
  have:=h3 (i - 1) (Y0d e2)
  rw[show i - 1+1=i from by lia,e]at this
  simp at this
theorem Z4x (n:Nat)(w:List Nat)(x:Nat):(cyc n w x).length=per n w x:=by simp[cyc]
theorem Z36 (rw':Row n w){x:Nat}(hx:x < n):Cyc w x (cyc n w x):=by
 obtain⟨h1,h2⟩:=Zbn rw' hx
 refine⟨by rw[Z4x]; unfold per; lia,by rw[Z4x]; rfl,by rw[Z4x]; exact h1,by rw[Z4x]; exact h2⟩
theorem Cyc.eq (rw':Row n w){x:Nat}(hx:x < n){M:List Nat}(h:Cyc w x M):M=cyc n w x:=h.unique (Z36 rw' hx)
theorem Z2g (rw':Row n w){x:Nat}(hx:x < n):(cyc n w x)[0]?=some x:=(Z36 rw' hx).get (Z36 rw' hx).pos
theorem Z8w (rw':Row n w){x:Nat}(hx:x < n):∀ i,it w x i∈cyc n w x
 | 0=>Y0d (Z2g rw' hx)
 | i+1=>by
  obtain⟨j,hj,e⟩:=Y1k.mp (Z8w rw' hx i)
  have:=(Z36 rw' hx).next (i:=j) (y:=it w x i) (by rw[Y01 hj,e])
  exact Y0d this
theorem Z5D (rw':Row n w){x y:Nat}(h:y∈cyc n w x):∃ i,i < per n w x/\y=it w x i:=by
 obtain⟨i,hi,rfl⟩:=Y0f.mp h
 exact⟨i,Y06.mp hi,rfl⟩
theorem Z7e (rw':Row n w){x y:Nat}(hx:x < n)(h:y∈cyc n w x):y < n:=(Z36 rw' hx).lt rw' hx y h
theorem Zc9 (rw':Row n w){x:Nat}(hx:x < n){i:Nat}(hi:i<=per n w x):it w (it w x i) (per n w x - i)=x:=by
 rw[<-Z8f,show i+(per n w x - i)=per n w x from by lia]
 exact (Zbn rw' hx).1
theorem Z2i (rw':Row n w){x y:Nat}(hx:x < n)(h:y∈cyc n w x):x∈cyc n w y:=by
 obtain⟨i,hi,rfl⟩:=Z5D rw' h
 have:=Z8w rw' (Z6d rw' hx i) (per n w x - i)
 rwa [Zc9 rw' hx (Y11 hi)]at this
theorem Z28 (rw':Row n w){x y z:Nat}(hx:x < n)(h:y∈cyc n w x)(h':z∈cyc n w y):z∈cyc n w x:=by
 obtain⟨i,_,rfl⟩:=Z5D rw' h
 obtain⟨j,_,rfl⟩:=Z5D rw' h'
 rw[<-Z8f]
 exact Z8w rw' hx _
theorem Z7v:∀ (l:List Nat),l≠[]->∃ m∈l,∀ y∈l,m<=y
 | [],h=>absurd rfl h
 | [a],_=>⟨a,by simp,by simp⟩
 | a :: b :: l,_=>by
  obtain⟨m,hm,h⟩:=Z7v (b :: l) (by simp)
  rcases Y0j m a with c | c
  ·refine⟨m,Y0m _ hm,fun y hy=>?_⟩
   rcases Y0v.mp hy with e | hy
   ·rw[e]; lia
   ·exact h y hy
  ·refine⟨a,by simp,fun y hy=>?_⟩
   rcases Y0v.mp hy with e | hy
   ·rw[e]; lia
   ·have:=h y hy; lia
theorem Z1V {x:Nat}:Z6S n w x=true↔∀ y∈cyc n w x,x<=y:=decide_eq_true_iff
theorem Z7q (rw':Row n w){x:Nat}(hx:x < n):∃ l,l < n/\Z6S n w l=true/\x∈cyc n w l:=by
 obtain⟨m,hm,h⟩:=Z7v (cyc n w x) (fun e=>by have:=Z2g rw' hx; rw[e]at this; simp at this)
 have hmn:=Z7e rw' hx hm
 exact⟨m,hmn,Z1V.mpr fun y hy=>h y (Z28 rw' hx hm hy),Z2i rw' hx hm⟩
theorem Z6A (rw':Row n w){x l l':Nat}(hl:l < n)(hl':l' < n)(h1:Z6S n w l=true)(h2:Z6S n w l'=true)(h:x∈cyc n w l)(h':x∈cyc n w l'):l=l':=by
 have a:=Z1V.mp h1 l' (Z28 rw' hl h (Z2i rw' hl' h'))
 have b:=Z1V.mp h2 l (Z28 rw' hl' h' (Z2i rw' hl h))
 lia
theorem Z4m (rw':Row n w):(Z1T n w).flatten.Perm (Y05 n):=by
 refine (List.perm_ext_iff_of_nodup ?_ Y1g).mpr fun x=>?_
 ·refine List.pairwise_flatten.mpr ⟨fun l hl=>?_,?_⟩
  ·obtain⟨x,hx,rfl⟩:=Y0f.mp hl
   have hx:=Y06.mp (Y0r.mp hx).1
   exact (Z36 rw' hx).nd rw' hx
  ·refine Y0t.mpr ?_
   have:((Y05 n).filter (Z6S n w)).Pairwise (· < ·):=List.Pairwise.filter _ List.pairwise_lt_range
   refine this.imp_of_mem fun {a b} ha hb hab x hx y hy e=>?_
   obtain⟨a1,a2⟩:=Y0r.mp ha
   obtain⟨b1,b2⟩:=Y0r.mp hb
   subst e
   have:=Z6A rw' (Y06.mp a1) (Y06.mp b1) a2 b2 hx hy
   lia
 ·constructor
  ·intro h
   obtain⟨l,hl,hx⟩:=List.mem_flatten.mp h
   obtain⟨a,ha,rfl⟩:=Y0f.mp hl
   exact Y06.mpr (Z7e rw' (Y06.mp (Y0r.mp ha).1) hx)
  ·intro h
   obtain⟨l,h1,h2,h3⟩:=Z7q rw' (Y06.mp h)
   exact List.mem_flatten.mpr ⟨_,Y0f.mpr ⟨l,Y0r.mpr ⟨Y06.mpr h1,h2⟩,rfl⟩,h3⟩
end
end Sq
namespace Sq
end Sq
namespace Sq
end Sq
namespace Sq
theorem Z3s {n:Nat}{w M:List Nat}(h:M∈Z1T n w):∃ x,x < n/\Z6S n w x=true/\M=cyc n w x:=by
 obtain⟨l,hl,rfl⟩:=Y0f.mp h
 obtain⟨h1,h2⟩:=Y0r.mp hl
 exact⟨l,Y06.mp h1,h2,rfl⟩
end Sq
namespace K1
open PySem L2 Sq
def Z8x (K:Y00):Sp:=fun vs H Q _=>∃ (p:Addr) (n:Nat) (r:List Nat) (x:Nat),vs=[.ref p,.int (x:Int)]/\Z3j K H p r/\Row n r/\x < n/\n<=36/\
 ∀ (H':Hp) (l:Addr) (M:List Nat),Z0q H H'->H l=none->H' l=some (.lst (nv M))->Cyc r x M->Q (.ref l) H'
def muL (l:Addr)(H:Hp):Nat:=match H l with
 | some (.lst xs)=>100 - xs.length
 | _=>0
theorem Z6T {l:Addr}{H:Hp}{xs:List V}(h:H l=some (.lst xs)):muL l H=100 - xs.length:=by unfold muL; rw[h]
theorem Z9h {M:List Nat}{k y:Nat}(hk:M.length=k+1)(h:M[k]?=some y):atI (nv M) (-1)=some (.int (y:Int)):=by
 unfold atI ixN
 rw[if_neg (by decide),if_pos (by rw[Z0z]; lia)]
 show (nv M)[((-1:Int)+((nv M).length:Int)).toNat]?=_
 rw[Z0z,hk,show ((-1:Int)+((k+1:Nat):Int)).toNat=k from by lia]
 exact Z0J h
theorem Z9Z {K:Y00}{x y:V}{H:Hp}{Q Q':VK}(h:∀ v H1,Q v H1->Q' v H1)(q:rIx K x y H Q):rIx K x y H Q':=by
 rcases q with ⟨a,xs,i,v,q1,q2,q3,q4,q⟩ | ⟨a,xs,i,v,q1,q2,q3,q4,q⟩ | ⟨z,i,v,q1,q2,q3,q4,q⟩
 ·exact .inl ⟨a,xs,i,v,q1,q2,q3,q4,h _ _ q⟩
 ·exact .inr (.inl ⟨a,xs,i,v,q1,q2,q3,q4,h _ _ q⟩)
 ·exact .inr (.inr ⟨z,i,v,q1,q2,q3,q4,h _ _ q⟩)
section
variable {P:Program}{w:World}{K:Y00}{mg:Str->Option Value}{base:Heap}
abbrev nCy:List Str:=["row","first","met"]
theorem scCy:Z0k nCy ["row","first"] (Z0a Z21):=⟨rfl,rfl,rfl,by decide +kernel,rfl,by decide +kernel,by decide +kernel⟩
theorem Zbp {f:Addr}{fd:FuncData}(F:Fn K mg "cycle_from" Z21 ["row","first"] f fd):Z0x P w K mg base CX0 1 f fd ["row","first"] (Z8x K):=by
 refine F.F.ok scCy (fun vs H Q E h=>?_) (fun cdv A outer s H vs Q E hr h=>?_)
 ·obtain⟨p,n,r,x,rfl,_⟩:=h; rfl
 ·obtain⟨p,n,r,x,rfl,hp,rr,hx,hn,k⟩:=h
  refine⟨_,Z03 (Z0d (i:=2) scCy.nd rfl (Or.inl rfl) (Z2u (Z00 (pv 1) Z05)))
   (Z03 (Z1v PassesOwn.never (Z0h Z3q (Z0j Z3B (pv 0) (Z0j Z0R (pv 2) (Z6n Z4k Z04) (fun _ _=>rfl)) (fun _ _=>rfl)) (pv 1) (Z0m _))
    (Z07 (Z1h (Z2H PySem.F.plainAttrs_list PySem.F.slot_list_append PySem.F.type_list_append Z0M (pv 2) (Z00 (Z0j Z3B (pv 0) (Z0j Z0R (pv 2) (Z6n Z4k Z04) (fun _ _=>rfl)) (fun _ _=>rfl)) Z05)))))
   (Z07 (Z0l (pv 2)))),?_⟩
  refine⟨_,rfl,(by show 1<=sizeLine; decide),fun l hl=>?_⟩
  refine Z2b (fun σ H2=>∃ k,σ=[some (.ref p),some (.int (x:Int)),some (.ref l)]/\Z0q H H2/\H2 l=some (.lst (nv ((Y05 (k+1)).map (it r x))))/\∀ i,1<=i->i < k+1->it r x i≠x) (fun _ H=>muL l H) ?_ ?_ ?_
  ·exact⟨0,rfl,Z08 (Z0q.refl H) hl,Z06,fun i h1 h2=>absurd h2 (by lia)⟩
  ·rintro σ H2 ⟨kk,rfl,s2,h2,new⟩
   have hlen:=Z9v rr hx new
   have hM:((Y05 (kk+1)).map (it r x)).length=kk+1:=by simp
   have hlast:=Z9h hM (show ((Y05 (kk+1)).map (it r x))[kk]?=some (it r x kk) by simp)
   have hlt:=Z6d rr hx kk
   refine⟨_,rfl,_,rfl,_,rfl,l,_,_,_,rfl,rfl,SqL.of h2,hlast,?_⟩
   refine Z6p (hp.same s2) rr hlt ?_
   refine⟨_,rfl,rfl,_,rfl,?_⟩
   by_cases e:nx r (it r x kk)=x
   ·refine ZdD (by rw[e]) ?_
    refine⟨_,rfl,k H2 l _ s2 hl h2 ⟨by rw[hM]; lia,by rw[hM],by rw[hM]; exact e,by rw[hM]; exact new⟩⟩
   ·rw[decide_eq_false (by intro z; have:=V.int.inj z; exact e (by lia))]
    refine Z1u ?_
    refine⟨_,rfl,.inl ⟨rfl,_,SqL.of h2⟩,_,rfl,_,rfl,_,rfl,l,_,_,_,rfl,rfl,SqL.of h2,hlast,?_⟩
    refine Z6p (hp.same s2) rr hlt ?_
    refine⟨l,_,_,rfl,rfl,h2,by rw[Z0z,hM]; exact Z0A (by lia),?_⟩
    have e2:nv ((Y05 (kk+1)).map (it r x))++[.int ((nx r (it r x kk):Nat):Int)]=nv ((Y05 (kk+1+1)).map (it r x)):=by
     rw[Z2r,Y1a (n:=kk+1),Y0y]; rfl
    rw[e2]
    refine⟨⟨kk+1,rfl,Z08 s2 hl,Z06,fun i h1 h2'=>?_⟩,?_⟩
    ·rcases Y0j i (kk+1) with c | c
     ·exact new i h1 c
     ·have:i=kk+1:=by lia
      subst this; exact e
    ·rw[Z6T Z06,Z6T h2,Z0z,Z0z,hM]
     simp; lia
  ·rintro σ H Q Q' h h2
   obtain⟨v,e1,v1,e2,v2,e3,q⟩:=h2
   refine⟨v,e1,v1,e2,v2,e3,?_⟩
   obtain⟨a,xs,i,v,q1,q2,q3,q4,q⟩:=q
   refine⟨a,xs,i,v,q1,q2,q3,q4,?_⟩
   exact Z9Z (fun x H1 ⟨v',e,q5,w',e',q6⟩=>⟨v',e,q5,w',e',h _ _ q6⟩) q
end
def Z3I (H:Hp):List Addr->List (List Nat)->Prop
 | [],[]=>True
 | a :: as,M :: Ms=>H a=some (.lst (nv M))/\Z3I H as Ms
 | _,_=>False
theorem Z3I.same {H H':Hp}(e:Z0q H H'):∀ {as:List Addr} {Ms:List (List Nat)},Z3I H as Ms->Z3I H' as Ms
 | [],[],_=>trivial
 | _ :: _,_ :: _,⟨h1,h2⟩=>⟨e _ _ h1,Z3I.same e h2⟩
 | [],_ :: _,h=>h.elim
 | _ :: _,[],h=>h.elim
theorem Z3I.len {H:Hp}:∀ {as:List Addr} {Ms:List (List Nat)},Z3I H as Ms->as.length=Ms.length
 | [],[],_=>rfl
 | _ :: as,_ :: Ms,⟨_,h2⟩=>by simp[Z3I.len h2]
 | [],_ :: _,h=>h.elim
 | _ :: _,[],h=>h.elim
theorem Z3I.get {H:Hp}:∀ {as:List Addr} {Ms:List (List Nat)},Z3I H as Ms->∀ {i:Nat} {a:Addr},as[i]?=some a->∃ M,Ms[i]?=some M/\H a=some (.lst (nv M))
 | [],[],_,i,a,h=>by simp at h
 | b :: as,M :: Ms,⟨h1,h2⟩,0,a,h=>by simp at h; subst h; exact⟨M,rfl,h1⟩
 | b :: as,M :: Ms,⟨h1,h2⟩,i+1,a,h=>by
  obtain⟨M',e1,e2⟩:=Z3I.get h2 (i:=i) (a:=a) (by simpa using h)
  exact⟨M',by simpa using e1,e2⟩
 | [],_ :: _,h,_,_,_=>h.elim
 | _ :: _,[],h,_,_,_=>h.elim
theorem Z3I.snoc {H:Hp}:∀ {as:List Addr} {Ms:List (List Nat)} {a:Addr} {M:List Nat},Z3I H as Ms->H a=some (.lst (nv M))->Z3I H (as++[a]) (Ms++[M])
 | [],[],_,_,_,h=>⟨h,trivial⟩
 | _ :: _,_ :: _,_,_,⟨h1,h2⟩,h=>⟨h1,Z3I.snoc h2 h⟩
 | [],_ :: _,_,_,h,_=>h.elim
 | _ :: _,[],_,_,h,_=>h.elim
theorem Z3I.updN {H:Hp}{d:Addr}{o o':HO}(hd:H d=some o'):∀ {as:List Addr} {Ms:List (List Nat)},Z3I H as Ms->(∀ a∈as,a≠d)->Z3I (upd H d o) as Ms
 | [],[],_,_=>trivial
 | a :: _,_ :: _,⟨h1,h2⟩,hn=>⟨by rw[Z0i (hn a (by simp))]; exact h1,Z3I.updN hd h2 fun b hb=>hn b (by simp[hb])⟩
 | [],_ :: _,h,_=>h.elim
 | _ :: _,[],h,_=>h.elim
def rv (as:List Addr):List V:=as.map V.ref
theorem Z9b (as:List Addr)(a:Addr):rv as++[.ref a]=rv (as++[a]):=by simp[rv]
theorem Z5G (as:List Addr):(rv as).length=as.length:=by simp[rv]
theorem Z8H {as:List Addr}{i:Nat}{a:Addr}(h:as[i]?=some a):(rv as)[i]?=some (.ref a):=by simp[rv,h]
theorem ZeW (M:List Nat):nv M=(M.map fun (x:Nat)=>(x:Int)).map V.int:=by simp[nv]
def Z70 (K:Y00):Sp:=fun vs H Q _=>∃ (p:Addr) (n:Nat) (r:List Nat),vs=[.ref p]/\Z3j K H p r/\Row n r/\n<=36/\
 ∀ (H':Hp) (l:Addr) (as:List Addr),Z0q H H'->H l=none->H' l=some (.lst (rv as))->(∀ a∈as,H a=none)->Z3I H' as (Z1T n r)->Q (.ref l) H'
theorem Z9l {n i:Nat}(hi:i < n):(Y05 n)[i]?=some i:=List.getElem?_range hi
section
variable {P:Program}{w:World}{K:Y00}{mg:Str->Option Value}{base:Heap}
abbrev nCs:List Str:=["row","found"]
theorem scCs:Z0k nCs ["row"] (Z0a Z2N):=⟨rfl,rfl,rfl,by decide +kernel,rfl,by decide +kernel,by decide +kernel⟩
theorem Zgh:(["first","row"]:List Str).Nodup:=by decide +kernel
theorem Zg6:(["cycle"]:List Str).Nodup:=by decide +kernel
theorem Z8T {f fc:Addr}{fd fdc:FuncData}(T:Bi mg)(Tm:mg "min"=none)(F:Fn K mg "cycles" Z2N ["row"] f fd)(FC:Fn K mg "cycle_from" Z21 ["row","first"] fc fdc)(GC:Z0x P w K mg base CX0 1 fc fdc ["row","first"] (Z8x K)) :
  Z0x P w K mg base CX0 2 f fd ["row"] (Z70 K):=by
 refine F.F.ok scCs (fun vs H Q E h=>?_) (fun cdv A outer s H vs Q E hr h=>?_)
 ·obtain⟨p,n,r,rfl,_⟩:=h; rfl
 ·obtain⟨p,n,r,rfl,hp,rr,hn,k⟩:=h
  refine⟨_,Z03 (Z9e (j:=1) (N:=nCs) (names:=(Z0a Z2N).names) (N':=["first","row"]) (k:=1) (pull:=[0]) (te:=Z9J (Z8x K) [] E0 (Z0U (Z12 1) (Z0U (Z12 0) Z4E))) rfl scCs.nd rfl rfl
     ⟨by rfl,by decide +kernel,by decide +kernel,by rfl,by decide +kernel,by decide +kernel⟩ rfl rfl (Z1L rfl T.range (Z00 (Z0e Z0p rfl T.len PySem.boot_len (Z00 (pv 0) Z05)) Z05)) (fun _ _ _ _ _ _=>Z0u (i:=0) Zgh rfl (Or.inl rfl))
     (fun _ _ _ _ _ _=>Z0b GC hr rfl FC.m FC.F.kp FC.b .nil Z0r (Z00 (pv 1) (Z00 (pv 0) Z05))))
   (Z07 (Z0l (Z5N (N:=nCs) (names:=(Z0a Z2N).names) (N':=["cycle"]) (k:=1) (pull:=[]) (tt:=Z6B (tOp rEq (tOp (Zed K) (Z12 0) (tC (.int 0))) (tCB (fun xs H Q=>∃ (p:Addr) (ns:List Int),xs=[.ref p]/\SqL K H p (ns.map V.int)/\ns≠[]/\∀ m,m∈ns->(∀ y∈ns,m<=y)->Q (.int m) H) (Z0U (Z12 0) Z4E)))) (te:=Z12 0) rfl
     ⟨by rfl,by decide +kernel,by decide +kernel,by rfl,by decide +kernel,by decide +kernel⟩ rfl rfl (Z2k (pv 1)) (fun _ _ _ _ _ _=>Z0u (i:=0) Zg6 rfl (Or.inl rfl))
     (fun _ _ _ _ _ _=>Z0h Z1k (Z0j Z0R (pv 0) Z04 (fun _ _=>rfl)) (Z0e (Z5L rfl) rfl Tm Z5e (Z00 (pv 0) Z05)) (Z0m _))
     (fun _ _ _ _ _ _=>pv 0)))),?_⟩
  refine⟨_,rfl,p,_,rfl,hp,(n:Int),by rw[Z0z,rr.len],by lia,by lia,fun d hd=>?_⟩
  rw[Int.toNat_natCast]
  show ∃ W:Nat->Nat->St->Hp->Prop,(∃ m,W 0 m [none,some (.ref p)] (upd H d (.lst [])))/\_
  refine ZbH (J:=Itr 0 n) (Q:=fun d H'=>Z2o 1 (.ref d) [some (.ref p),none] H' _) n (fun i xs σ H3=>∃ o as,σ=[o,some (.ref p)]/\Z0q H H3/\xs=rv as/\(∀ a∈as,H a=none/\a≠d)/\Z3I H3 as ((Y05 i).map (cyc n r))) ⟨_,[],rfl,Z08 (Z0q.refl _) hd,rfl,by simp,trivial⟩ ?_ ?_
  ·rintro i xs σ H3 hi ⟨o,as,rfl,s3,rfl,fr,hL⟩ hd3
   refine⟨hi,fun x H4 ⟨e1,e2⟩=>?_⟩
   subst e1 e2
   rw[show (0:Int)+(i:Int)=(i:Int) from by lia]
   refine⟨_,rfl,_,rfl,p,n,r,i,rfl,hp.same s3,rr,hi,hn,fun H5 l M s5 f5 hl hM=>?_⟩
   have eM:=hM.eq rr hi
   subst eM
   have hlen:=hL.len
   rw[Y08,Y0p]at hlen
   refine Zca hi (s5 _ _ hd3) (by rw[Z5G]; lia) ⟨_,as++[l],rfl,Z08 (s3.trans s5) hd,Z9b _ _,fun a ha=>?_,?_⟩
   ·rcases Y0b.mp ha with ha | ha
    ·exact fr a ha
    ·rw[Y0n.mp ha]
     exact⟨s3.free f5,fun e=>by rw[e,hd3]at f5; cases f5⟩
   ·have nd:∀ {a:Addr} {o:HO},H5 a=some o->a≠d->(upd H5 d (.lst (rv as++[.ref l]))) a=some o:=fun h hne=>by rw[Z0i hne]; exact h
    rw[Y1a,Y0y]
    have hld:l≠d:=fun e=>by rw[e,hd3]at f5; cases f5
    refine Z3I.snoc ?_ (nd hl hld)
    have h5:=hL.same s5
    exact h5.updN (s5 _ _ hd3) fun a ha=>(fr a ha).2
  ·rintro xs σ H3 ⟨o,as,rfl,s3,rfl,fr,hL⟩ hd3
   refine⟨Y03 _,?_⟩
   have hlen:=hL.len
   rw[Y08,Y0p]at hlen
   refine⟨_,rfl,d,rfl,⟨_,SqL.of hd3⟩,fun e he=>?_⟩
   refine Z5t (σ0:=[none]) (Q:=fun d H'=>Q (.ref d) H') n (fun i xs σ H4=>∃ o bs,σ=[o]/\Z0q H3 H4/\xs=rv bs/\(∀ a∈bs,a∈as)/\Z3I H4 bs (((Y05 i).filter (Z6S n r)).map (cyc n r))) ⟨_,[],rfl,Z08 (Z0q.refl _) he,rfl,by simp,trivial⟩ ?_ ?_
   ·rintro i xs σ H4 hi ⟨o,bs,rfl,s4,rfl,sub,hB⟩ he4
    have ha:as[i]?=some (as[i]'(by lia)):=Y01 _
    generalize as[i]'(by lia)=a at ha
    obtain⟨M,hM,hA⟩:=hL.get ha
    rw[Y10,Z9l hi]at hM
    have eM:cyc n r i=M:=Option.some.inj hM
    subst eM
    have hd4:=SqL.of (K:=K) (s4 _ _ hd3)
    refine⟨⟨_,_,hd4,Z8H ha⟩,fun y H5 ⟨e1,hy⟩=>?_⟩
    subst e1
    have hy:=hy _ hd4
    rw[Z8H ha]at hy
    cases hy
    have hA4:=s4 _ _ hA
    refine⟨_,rfl,a,_,0,_,rfl,rfl,SqL.of hA4,Z09 (j:=0) (Z0J (Z2g rr hi)),_,rfl,a,(cyc n r i).map fun (x:Nat)=>(x:Int),rfl,by rw[<-ZeW]; exact SqL.of hA4,?_,fun m hm hle=>?_⟩
    ·intro z
     have:=Z2g rr hi
     rw[List.map_eq_nil_iff.mp z]at this
     simp at this
    obtain⟨x,hx,rfl⟩:=Y0f.mp hm
    refine⟨rfl,_,rfl,?_⟩
    have hblen:=hB.len
    have hbl:bs.length<=36:=by
     rw[hblen,Y08]
     have:=Y1e (Z6S n r) (Y05 i)
     rw[Y0p]at this
     lia
    have hfs:(Y05 (i+1)).filter (Z6S n r)=(Y05 i).filter (Z6S n r)++[i].filter (Z6S n r):=by rw[Y1a,Y14]
    by_cases e:i=x
    ·subst e
     rw[decide_eq_true rfl]
     refine Z1u ?_
     have hld:Z6S n r i=true:=Z1V.mpr fun y hy=>by
      have:=hle _ (Y0f.mpr ⟨y,hy,rfl⟩); lia
     refine⟨_,rfl,Zca hi he4 (by rw[Z5G]; lia) ⟨_,bs++[a],rfl,Z08 s4 he,Z9b _ _,fun b hb=>?_,?_⟩⟩
     ·rcases Y0b.mp hb with hb | hb
      ·exact sub b hb
      ·rw[Y0n.mp hb]; exact Y0d ha
     ·rw[hfs,Y1j hld,List.filter_nil,Y0y]
      refine Z3I.snoc (hB.updN he4 ?_) ?_
      ·intro b hb z
       obtain⟨j,hj⟩:=List.getElem?_of_mem (sub b hb)
       obtain⟨M,_,hM⟩:=hL.get hj
       rw[z,he]at hM; cases hM
      ·rw[Z0i (fun z=>by rw[z,he]at hA; cases hA)]; exact hA4
    ·rw[decide_eq_false (by intro z; have:=V.int.inj z; lia)]
     refine Z0Z ?_
     have hnl:¬ Z6S n r i=true:=fun z=>by
      have h1:=Z1V.mp z x hx
      have h2:=hle _ (Y0f.mpr ⟨i,Y0d (Z2g rr hi),rfl⟩)
      lia
     refine ZdV hi he4 ⟨_,bs,rfl,s4,rfl,sub,?_⟩
     rw[hfs,Y1z hnl,List.filter_nil,Y19]
     exact hB
   ·rintro xs σ H4 ⟨o,bs,rfl,s4,rfl,sub,hB⟩ he4
    refine⟨⟨_,SqL.of (s4 _ _ hd3),by rw[Z5G,hlen]; exact Y03 _⟩,?_⟩
    exact k H4 e bs (s3.trans s4) (s3.free he) he4 (fun a ha=>(fr a (sub a ha)).1) hB
end
end K1
namespace K1
open Sq
end K1
namespace K1
open PySem L2 Sq
def Z4p:Sp:=fun vs H Q _=>∃ (p:Addr) (n:Nat) (r:List Nat),vs=[.ref p]/\H p=some (.tup (nv r))/\Row n r/\n<=36/\∀ (H':Hp) (l:Addr),Z0q H H'->H' l=some (.tup (nv (back r)))->Q (.ref l) H'
section
variable {P:Program}{w:World}{K:Y00}{mg:Str->Option Value}{base:Heap}
theorem Z38:Z0k ["row","back","square","target"] ["row"] (Z0a Z2D):=⟨rfl,rfl,rfl,by decide +kernel,rfl,by decide +kernel,by decide +kernel⟩
theorem Z7K {f:Addr}{fd:FuncData}(T:Bi mg)(F:Fn K mg "back_row" Z2D ["row"] f fd):Z0x P w K mg base CX0 1 f fd ["row"] Z4p:=by
 refine F.F.ok Z38 (fun vs H Q E h=>?_) (fun cdv A outer s H vs Q E hr h=>?_)
 ·obtain⟨p,n,r,rfl,_⟩:=h; rfl
 ·obtain⟨p,n,r,rfl,hp,rr,hn,k⟩:=h
  refine⟨_,Z03 (Z0d (i:=1) Z38.nd rfl (Or.inl rfl) (Z15 Z5Z rfl T.list Z42 (Z00 (pv 0) Z05)))
   (Z03 (Z2m PassesOwn.never rfl (Zau rfl T.enum (Z00 (pv 0) Z05)) (Zbq rfl (Z0H (Z0u (i:=2) Z38.nd rfl (Or.inl rfl)) (Z0H (Z0u (i:=3) Z38.nd rfl (Or.inl rfl)) Z2f)))
    (Z07 (Z51 (pv 1) (pv 3) (pv 2) rfl)))
   (Z07 (Z0l (Z15 Z2l rfl T.tuple Z1I (Z00 (pv 1) Z05))))),?_⟩
  refine⟨_,rfl,p,_,rfl,.inr (SqT.of hp),fun lb hlb=>?_⟩
  have s1:Z0q H (upd H lb (.lst (nv r))):=Z08 (Z0q.refl H) hlb
  refine⟨_,rfl,p,rfl,⟨_,SqT.of (s1 _ _ hp)⟩,ZdP (xs:=nv r) (fun i σ H2=>∃ o2 o3 bl,σ=[some (.ref p),some (.ref lb),o2,o3]/\Z0q H H2/\H2 lb=some (.lst (nv bl))/\bl.length=n/\∀ k,k < i->bl[nx r k]?=some k)
   ⟨_,_,r,rfl,s1,Z06,rr.len,fun k hk=>absurd hk (Y1n _)⟩ (fun i σ H2 _ ⟨_,_,_,_,s2,_⟩=>SqT.of (s2 _ _ hp)) ?_ ?_⟩
  ·rintro i x σ H2 T' hx hT ⟨o2,o3,bl,rfl,s2,h2,hbl,hall⟩
   obtain⟨y,hy,rfl⟩:=Z8h hx
   have hi:i < n:=by rw[<-rr.len]; exact (Y04.mp hy).1
   have ey:y=nx r i:=by have:=rr.get hi; rw[hy]at this; exact Option.some.inj this
   have hyn:y < n:=by rw[ey]; exact rr.nlt hi
   have h2':(upd H2 T' (ZcH T' [.int (i:Int),.int (y:Int)])) lb=some (.lst (nv bl)):=by rw[Z0i (Z0s h2 hT)]; exact h2
   refine⟨T',_,rfl,Z06,rfl,_,_,rfl,_,_,rfl,rfl,?_⟩
   refine⟨_,rfl,_,rfl,_,rfl,lb,_,_,y,rfl,rfl,h2',?_,?_⟩
   ·unfold ixN
    rw[if_pos (by omega),if_pos (by rw[Z0z,hbl]; omega)]
    simp
   refine⟨_,_,bl.set y i,rfl,Z08 (Z08 s2 (s2.free hT)) hlb,by rw[Z06,Z7t],by rw[List.length_set]; exact hbl,fun k hk=>?_⟩
   rcases Y0j k i with c | c
   ·have hne:y≠nx r k:=fun z=>by
     rw[ey]at z
     have:=rr.inj hi (by omega) z
     omega
    rw[List.getElem?_set_ne hne]
    exact hall k c
   ·have:k=i:=by omega
    subst this
    rw[<-ey,Y22 (by rw[hbl]; exact hyn)]
  ·rintro σ H2 ⟨o2,o3,bl,rfl,s2,h2,hbl,hall⟩
   rw[Z0z,rr.len]at hall
   have e:=Z67 rr hbl hall
   subst e
   refine⟨_,rfl,lb,_,rfl,.inl ⟨SqL.of h2,fun l hl=>k _ l (Z08 s2 (s2.free hl)) Z06⟩⟩
end
theorem Z9I {K:Y00}{Hc:Hp}{p:Addr}{r:List Nat}{j:Nat}{te:TE}{pull:List Nat}{Q:VK}{σ:St}{rest:St}(g:Nat->Nat)(hj:σ[j]?=some (some (.ref p)))(hp:SqT K Hc p (nv r))(hb:bst 1 pull σ=none :: rest)
  (hte:∀ (x:Nat) (H:Hp) (R:VK),x∈r->Z0q Hc H->R (.int (g x:Int)) H->te (some (.int (x:Int)) :: rest) H R) (hn:r.length<=1000)
  (k:∀ (H':Hp) (d:Addr),Z0q Hc H'->Hc d=none->H' d=some (.lst (nv (r.map g)))->Q (.ref d) H') :
  Z90 (ZfY K (Z12 j)) 1 pull (Z2o 0) te σ Hc Q:=by
 refine⟨_,hj,p,rfl,⟨_,hp⟩,fun d hd=>?_⟩
 rw[hb]
 refine Z52 (Q:=fun d H'=>Q (.ref d) H') r.length (nv (r.map g)) (by rw[Z0z]; simp) (fun i σ H3=>(∃ o,σ=o :: rest)/\Z0q Hc H3) ⟨⟨_,rfl⟩,Z08 (Z0q.refl _) hd⟩ ?_ ?_
 ·rintro i σ H3 hi ⟨⟨o,rfl⟩,s3⟩ hd3
  have hp3:=Z0q.tseq s3 hp
  have hg:=Z0J (Y01 hi)
  refine⟨⟨_,_,hp3,hg⟩,fun y H4 ⟨e,hy⟩=>?_⟩
  subst e
  have hy:=hy _ hp3
  rw[hg]at hy
  cases hy
  refine hte _ _ _ (List.getElem_mem hi) s3 ?_
  exact Zad hi hn hd3 (Z0J (by simp[hi])) ⟨⟨_,rfl⟩,Z08 s3 hd⟩
 ·rintro σ H3 ⟨⟨o,rfl⟩,s3⟩ hd3
  exact⟨⟨_,Z0q.tseq s3 hp,by rw[Z0z]; exact Y03 _⟩,k H3 d s3 hd hd3⟩
def Z0w (r u:List Nat):List Nat:=(Y05 r.length).map fun k=>nx u (nx r (nx (back u) (nx (back r) k)))
theorem Z2T (r u:List Nat):(Z0w r u).length=r.length:=by simp[Z0w]
theorem Z2Z {n:Nat}{r u:List Nat}(rr:Row n r){k:Nat}(hk:k < n):nx (Z0w r u) k=nx u (nx r (nx (back u) (nx (back r) k))):=by
 have:k < r.length:=by rw[rr.len]; exact hk
 simp[nx,Z0w,List.getD,this]
theorem Z2w {n:Nat}{r u:List Nat}(rr:Row n r)(ru:Row n u):Row n (Z0w r u):=by
 refine Z7l (by rw[Z2T,rr.len]) (fun i hi=>?_) (fun i j hi hj e=>?_)
 ·rw[Z2Z rr hi]; exact ru.nlt (rr.nlt (ru.back.nlt (rr.back.nlt hi)))
 ·rw[Z2Z rr hi,Z2Z rr hj]at e
  have a:=rr.back.nlt hi
  have b:=rr.back.nlt hj
  exact rr.back.inj hi hj (ru.back.inj a b (rr.inj (ru.back.nlt a) (ru.back.nlt b) (ru.inj (rr.nlt (ru.back.nlt a)) (rr.nlt (ru.back.nlt b)) e)))
theorem Z97 {n:Nat}{r u:List Nat}(rr:Row n r):(back r).map (fun x=>nx u (nx r (nx (back u) x)))=Z0w r u:=by
 refine List.ext_getElem? fun i=>?_
 by_cases hi:i < n
 ·have h1:=rr.back.get hi
  have h2:(Z0w r u)[i]?=some (nx (Z0w r u) i):=by
   have:i < (Z0w r u).length:=by rw[Z2T,rr.len]; exact hi
   rw[Y01 this]; unfold nx; rw[Y0i,Y01 this]; rfl
  rw[h2,Y10,h1,Z2Z rr hi]; rfl
 ·have e1:=rr.len
  have e2:=rr.back.len
  rw[Y24 (by rw[Y08]; omega),Y24 (by rw[Z2T]; omega)]
def Zbc:Sp:=fun vs H Q _=>∃ (a:Addr) (n:Nat) (r u:List Nat),vs=[.ref a]/\Z5p H a r u/\Row n r/\Row n u/\n<=36/\∀ (H':Hp) (l:Addr),Z0q H H'->H l=none->H' l=some (.lst (nv (Z0w r u)))->Q (.ref l) H'
section
variable {P:Program}{w:World}{K:Y00}{mg:Str->Option Value}{base:Heap}
abbrev nTr:List Str:=["sheet","left","down"]
theorem ZfT:Z0k nTr ["sheet"] (Z0a Z2A):=⟨rfl,rfl,rfl,by decide +kernel,rfl,by decide +kernel,by decide +kernel⟩
theorem ndTr:(["square","sheet","down"]:List Str).Nodup:=by decide +kernel
theorem Zcg {f fb:Addr}{fd fdb:FuncData}(F:Fn K mg "turn_row" Z2A ["sheet"] f fd)(FB:Fn K mg "back_row" Z2D ["row"] fb fdb)(GB:Z0x P w K mg base CX0 1 fb fdb ["row"] Z4p) :
  Z0x P w K mg base CX0 5 f fd ["sheet"] Zbc:=by
 refine F.F.ok ZfT (fun vs H Q E h=>?_) (fun cdv A outer s H vs Q E hr h=>?_)
 ·obtain⟨a,n,r,u,rfl,_⟩:=h; rfl
 ·obtain⟨a,n,r,u,rfl,⟨p,q,h1,h2,h3⟩,rr,ru,hn,k⟩:=h
  have hr1:Z1g 1 _:=hr.mono (by decide)
  refine⟨_,Z03 (Z0d (i:=1) ZfT.nd rfl (Or.inl rfl) (Z0b GB hr1 rfl FB.m FB.F.kp FB.b .nil Z0r (Z00 (Z0j Z0f (pv 0) Z04 (fun _ _=>rfl)) Z05)))
   (Z03 (Z0d (i:=2) ZfT.nd rfl (Or.inr rfl) (Z0b GB hr1 rfl FB.m FB.F.kp FB.b .nil Z0r (Z00 (Z0j Z0f (pv 0) Z04 (fun _ _=>rfl)) Z05)))
   (Z07 (Z0l (Z5j (N:=nTr) (names:=(Z0a Z2A).names) (N':=["square","sheet","down"]) (k:=1) (pull:=[0,2]) (te:=tOp (Z59 K) (tOp (Z59 K) (Z12 1) (tC (.int 1))) (tOp (Z59 K) (tOp (Z59 K) (Z12 1) (tC (.int 0))) (tOp (Z59 K) (Z12 2) (Z12 0)))) rfl
    ⟨by rfl,by decide +kernel,by decide +kernel,by rfl,by decide +kernel,by decide +kernel⟩ rfl rfl (Z9p (pv 1)) (fun _ _ _ _ _ _=>Z0u (i:=0) ndTr rfl (Or.inl rfl))
    (fun _ _ _ _ _ _=>Z0j Z0f (Z0j Z0f (pv 1) Z04 (fun _ _=>rfl)) (Z0j Z0f (Z0j Z0f (pv 1) Z04 (fun _ _=>rfl)) (Z0j Z0f (pv 2) (pv 0) (fun _ _=>rfl)) (fun _ _=>rfl)) (fun _ _=>rfl)))))),?_⟩
  refine⟨_,rfl,a,_,0,_,rfl,rfl,SqT.of h1,Z09 (j:=0) rfl,p,n,r,rfl,h2,rr,hn,fun H1 l1 s1 hl1=>?_⟩
  refine⟨_,rfl,a,_,1,_,rfl,rfl,SqT.of (s1 _ _ h1),Z09 (j:=1) rfl,q,n,u,rfl,s1 _ _ h3,ru,hn,fun H2 l2 s2 hl2=>?_⟩
  have s12:=s1.trans s2
  refine Z9I (r:=back r) (rest:=[some (.ref a),some (.ref l2)]) (fun x=>nx u (nx r (nx (back u) x))) rfl (SqT.of (s2 _ _ hl1)) rfl (fun x H3 R hx s3 hR=>?_) (by rw[rr.back.len]; omega) fun H3 d s3 hd hd3=>?_
  ·have hx:=rr.back.lt x hx
   have s13:=s12.trans s3
   refine⟨_,rfl,a,_,1,_,rfl,rfl,SqT.of (s13 _ _ h1),Z09 (j:=1) rfl,?_⟩
   refine⟨_,rfl,a,_,0,_,rfl,rfl,SqT.of (s13 _ _ h1),Z09 (j:=0) rfl,?_⟩
   refine⟨_,rfl,_,rfl,l2,_,_,_,rfl,rfl,SqT.of (s3 _ _ hl2),Z09 (Z0J (ru.back.get hx)),?_⟩
   refine⟨p,_,_,_,rfl,rfl,SqT.of (s13 _ _ h2),Z09 (Z0J (rr.get (ru.back.nlt hx))),?_⟩
   exact⟨q,_,_,_,rfl,rfl,SqT.of (s13 _ _ h3),Z09 (Z0J (ru.get (rr.nlt (ru.back.nlt hx)))),hR⟩
  ·rw[Z97 rr]at hd3
   exact k H3 d (s12.trans s3) (by
    cases e:H d with
    | none=>rfl
    | some o=>have:=s12 _ _ e; rw[this]at hd; cases hd) hd3
end
def Z5J:Sp:=fun vs H Q _=>∃ (a:Addr) (n:Nat) (r u:List Nat),vs=[.ref a]/\Z5p H a r u/\Row n r/\Row n u/\n<=36/\
 ∀ (H':Hp) (l:Addr) (as:List Addr),Z0q H H'->H l=none->H' l=some (.lst (rv as))->(∀ a∈as,H a=none)->Z3I H' as (Z1T n (Z0w r u))->Q (.ref l) H'
section
variable {P:Program}{w:World}{K:Y00}{mg:Str->Option Value}{base:Heap}
theorem scCo:Z0k ["sheet"] ["sheet"] (Z0a Z2X):=⟨rfl,rfl,rfl,by decide +kernel,rfl,by decide +kernel,by decide +kernel⟩
theorem Z7H {f fc ft:Addr}{fd fdc fdt:FuncData}(F:Fn K mg "corners" Z2X ["sheet"] f fd)(FT:Fn K mg "turn_row" Z2A ["sheet"] ft fdt)(GT:Z0x P w K mg base CX0 5 ft fdt ["sheet"] Zbc)
  (FC:Fn K mg "cycles" Z2N ["row"] fc fdc) (GC:Z0x P w K mg base CX0 2 fc fdc ["row"] (Z70 K)):Z0x P w K mg base CX0 6 f fd ["sheet"] Z5J:=by
 refine F.F.ok scCo (fun vs H Q E h=>?_) (fun cdv A outer s H vs Q E hr h=>?_)
 ·obtain⟨a,n,r,u,rfl,_⟩:=h; rfl
 ·obtain⟨a,n,r,u,rfl,hsh,rr,ru,hn,k⟩:=h
  have hr2:Z1g 2 _:=hr.mono (by decide)
  refine⟨_,Z07 (Z0l (Z0b GC hr2 rfl FC.m FC.F.kp FC.b .nil Z0r (Z00 (Z0b GT hr rfl FT.m FT.F.kp FT.b .nil Z0r (Z00 (pv 0) Z05)) Z05))),?_⟩
  refine⟨_,rfl,a,n,r,u,rfl,hsh,rr,ru,hn,fun H1 l1 s1 _ hl1=>?_⟩
  exact⟨l1,n,_,rfl,.inl (SqL.of hl1),Z2w rr ru,hn,fun H2 l as s2 f2 hl fr hL=>k H2 l as (s1.trans s2) (s1.free f2) hl (fun a ha=>s1.free (fr a ha)) hL⟩
end
def ZcX:Sp:=fun vs H Q _=>∃ (q:Addr) (n x:Nat) (w:List Nat),vs=[.ref q,.int (x:Int)]/\H q=some (.lst (nv w))/\Row n w/\n<=36/\x < n/\
 ∀ (H':Hp) (l:Addr) (M:List Nat),Z0q H H'->H' l=some (.lst (nv M))->Cyc w x M->Q (.ref l) H'
section
variable {P:Program}{w:World}{K:Y00}{mg:Str->Option Value}{base:Heap}
abbrev ZfG:List Str:=["_law_later_here","_law_square","_law_met"]
theorem Zbg:Z0k ZfG ["_law_later_here","_law_square"] (Z0a Z4q):=⟨rfl,rfl,rfl,by decide +kernel,rfl,by decide +kernel,by decide +kernel⟩
set_option maxHeartbeats 600000 in
theorem ZdZ {f:Addr}{fd:FuncData}(F:Fn K mg "_law_round" Z4q ["_law_later_here","_law_square"] f fd):Z0x P w K mg base CX0 1 f fd ["_law_later_here","_law_square"] ZcX:=by
 refine F.F.ok Zbg (fun vs H Q E h=>?_) (fun cdv A outer s H vs Q E hr h=>?_)
 ·obtain⟨q,n,x,w,rfl,_⟩:=h; rfl
 ·obtain⟨q,n,x,w,rfl,hq,rl,hn,hx,k⟩:=h
  refine⟨_,(Z03 (Z0d (i:=2) Zbg.nd rfl (Or.inl rfl) (Z2u (Z00 (pv 1) Z05)))
   (Z03 (Z1v PassesOwn.never (Z0h Z3q (Z0j Z0R (pv 0) (Z0j Z0R (pv 2) (Z6n Z4k Z04) (fun _ _=>rfl)) (fun _ _=>rfl)) (pv 1) (Z0m _)) (Z07 (Z1h (Z2H PySem.F.plainAttrs_list PySem.F.slot_list_append PySem.F.type_list_append Z0M (pv 2) (Z00 (Z0j Z0R (pv 0) (Z0j Z0R (pv 2) (Z6n Z4k Z04) (fun _ _=>rfl)) (fun _ _=>rfl)) Z05)))))
   (Z07 (Z0l (pv 2))))),?_⟩
  refine⟨_,rfl,(by show 1<=sizeLine; decide),fun l hl1=>?_⟩
  refine Z2b (fun σ H5=>∃ k,σ=[some (.ref q),some (.int (x:Int)),some (.ref l)]/\Z0q H H5/\H5 l=some (.lst (nv ((Y05 (k+1)).map (it w x))))/\∀ i,1<=i->i < k+1->it w x i≠x) (fun _ H=>muL l H) ?_ ?_ ?_
  ·exact⟨0,rfl,Z08 (Z0q.refl H) hl1,Z06,fun i h1 h2=>absurd h2 (by lia)⟩
  ·rintro σ H5 ⟨kk,rfl,s5,h5,new⟩
   have hle:=Z9v rl hx new
   have hM:((Y05 (kk+1)).map (it w x)).length=kk+1:=by simp
   have hlast:=Z9h hM (show ((Y05 (kk+1)).map (it w x))[kk]?=some (it w x kk) by simp)
   have hlt:=Z6d rl hx kk
   have e5:=s5 _ _ hq
   refine⟨_,rfl,_,rfl,_,rfl,l,_,_,_,rfl,rfl,SqL.of h5,hlast,?_⟩
   refine⟨q,_,_,_,rfl,rfl,SqL.of e5,Z09 (Z0J (rl.get hlt)),?_⟩
   refine⟨_,rfl,rfl,_,rfl,?_⟩
   by_cases e:nx w (it w x kk)=x
   ·refine ZdD (by rw[e]) ?_
    have hC:Cyc w x ((Y05 (kk+1)).map (it w x)):=⟨by rw[hM]; lia,by rw[hM],by rw[hM]; exact e,by rw[hM]; exact new⟩
    exact⟨_,rfl,k H5 l _ s5 h5 hC⟩
   ·rw[decide_eq_false (by intro z; have:=V.int.inj z; exact e (by lia))]
    refine Z1u ?_
    refine⟨_,rfl,.inl ⟨rfl,_,SqL.of h5⟩,_,rfl,_,rfl,_,rfl,l,_,_,_,rfl,rfl,SqL.of h5,hlast,?_⟩
    refine⟨q,_,_,_,rfl,rfl,SqL.of e5,Z09 (Z0J (rl.get hlt)),?_⟩
    refine⟨l,_,_,rfl,rfl,h5,by rw[Z0z,hM]; exact Z0A (by lia),?_⟩
    have e2:nv ((Y05 (kk+1)).map (it w x))++[.int ((nx w (it w x kk):Nat):Int)]=nv ((Y05 (kk+1+1)).map (it w x)):=by
     rw[Z2r,Y1a (n:=kk+1),Y0y]; rfl
    rw[e2]
    refine⟨⟨kk+1,rfl,Z08 s5 hl1,Z06,fun i h1 h2'=>?_⟩,?_⟩
    ·rcases Y0j i (kk+1) with c | c
     ·exact new i h1 c
     ·have:i=kk+1:=by lia
      subst this; exact e
    ·rw[Z6T Z06,Z6T h5,Z0z,Z0z,hM]
     simp; lia
  ·rintro σ H Q Q' h ⟨v,e1,v1,e2,v2,e3,a,xs,i,v9,q1,q2,q3,q4,a',xs',i',v',q5,q6,q7,q8,w1,f1,f2,w2,f3,f4⟩
   exact⟨v,e1,v1,e2,v2,e3,a,xs,i,v9,q1,q2,q3,q4,a',xs',i',v',q5,q6,q7,q8,w1,f1,f2,w2,f3,h _ _ f4⟩
end
theorem Zaw {K:Y00}{Hc:Hp}{p:Addr}{r:List Nat}{j:Nat}{Q:VK}{σ:St}(hj:σ[j]?=some (some (.ref p)))(hp:Z3j K Hc p r)(hn:r.length<=36)
  (k:∀ (H':Hp) (d:Addr),Z0q Hc H'->Hc d=none->H' d=some (.lst (nv (List.replicate r.length 0)))->Q (.ref d) H') :
  Z90 (fun σ H R=>Z9r K (Z12 j) σ H R\/ZfY K (Z12 j) σ H R) 1 [] (Z2o 0) (tC (.int 0)) σ Hc Q:=by
 have core:∀ (J:It),(∀ H3,Z0q Hc H3->(∀ i,i < r.length->J.go i H3/\∀ x H2,J.yld i H3 x H2->H2=H3)/\J.stop r.length H3)->∀ d,Hc d=none->
   ∃ W:Nat->Nat->St->Hp->Prop,(∃ m,W 0 m (bst 1 [] σ) (upd Hc d (.lst [])))/\∀ i m σ' H',W i m σ' H'->
    (J.stop i H'/\Q (.ref d) H')\/(J.go i H'/\∀ x H2,J.yld i H' x H2->Z2o 0 x σ' H2 fun σ3 H3=>tC (.int 0) σ3 H3 fun y H4=>∃ xs,H4 d=some (.lst xs)/\xs.length < sizeLine/\∃ m',m' < m/\W (i+1) m' σ3 (upd H4 d (.lst (xs++[y])))):=by
  intro J hJ d hd
  refine Z52 (Q:=fun d H'=>Q (.ref d) H') r.length (nv (List.replicate r.length 0)) (by simp[nv]) (fun i σ H3=>∃ o,σ=[o]/\Z0q Hc H3) ⟨none,rfl,Z08 (Z0q.refl _) hd⟩ ?_ ?_
  ·rintro i σ H3 hi ⟨o,rfl,s3⟩ hd3
   obtain⟨g1,g2⟩:=(hJ H3 s3).1 i hi
   refine⟨g1,fun x H4 hy=>?_⟩
   have e1:=g2 x H4 hy
   subst e1
   dsimp only [Z2o,tC]
   exact Zad hi (by omega) hd3 (show (nv (List.replicate r.length 0))[i]?=some (.int 0) from Z0J (x:=0) (by simp[hi])) ⟨_,rfl,Z08 s3 hd⟩
  ·rintro σ H3 ⟨o,rfl,s3⟩ hd3
   exact⟨(hJ H3 s3).2,k H3 d s3 hd hd3⟩
 rcases id hp with h | h
 ·exact .inl ⟨_,hj,p,rfl,⟨_,h⟩,core _ fun H3 s3=>⟨fun i hi=>⟨⟨_,_,s3.seq h,Z0J (Y01 hi)⟩,fun x H2 ⟨e,_⟩=>e⟩,⟨_,s3.seq h,by rw[Z0z]; exact Y03 _⟩⟩⟩
 ·exact .inr ⟨_,hj,p,rfl,⟨_,h⟩,core _ fun H3 s3=>⟨fun i hi=>⟨⟨_,_,Z0q.tseq s3 h,Z0J (Y01 hi)⟩,fun x H2 ⟨e,_⟩=>e⟩,⟨_,Z0q.tseq s3 h,by rw[Z0z]; exact Y03 _⟩⟩⟩
theorem ndK1:(["_law_k"]:List Str).Nodup:=by decide +kernel
def Z6y (K:Y00):Sp:=fun vs H Q _=>∃ (p:Addr) (n:Nat) (r:List Nat),vs=[.ref p]/\Z3j K H p r/\Row n r/\n<=36/\∀ (H':Hp) (l:Addr),Z0q H H'->H l=none->H' l=some (.lst (nv (back r)))->Q (.ref l) H'
section
variable {P:Program}{w:World}{K:Y00}{mg:Str->Option Value}{base:Heap}
abbrev nBk:List Str:=["_law_row_here","_law_told","_law_k"]
theorem ZfA:Z0k nBk ["_law_row_here"] (Z0a Z3V):=⟨rfl,rfl,rfl,by decide +kernel,rfl,by decide +kernel,by decide +kernel⟩
theorem Z9V {f:Addr}{fd:FuncData}(T:Bi mg)(F:Fn K mg "_law_back" Z3V ["_law_row_here"] f fd):Z0x P w K mg base CX0 1 f fd ["_law_row_here"] (Z6y K):=by
 refine F.F.ok ZfA (fun vs H Q E h=>?_) (fun cdv A outer s H vs Q E hr h=>?_)
 ·obtain⟨p,n,r,rfl,_⟩:=h; rfl
 ·obtain⟨p,n,r,rfl,hp,rr,hn,k⟩:=h
  refine⟨_,Z03 (Z9e (j:=1) (N:=nBk) (names:=(Z0a Z3V).names) (N':=["_law_k"]) (k:=1) (pull:=[]) (te:=tC (.int 0)) rfl ZfA.nd rfl rfl
     ⟨by rfl,by decide +kernel,by decide +kernel,by rfl,by decide +kernel,by decide +kernel⟩ rfl rfl (PI.or (Z2k (pv 0)) (Z9p (pv 0))) (fun _ _ _ _ _ _=>Z0u (i:=0) ndK1 rfl (Or.inl rfl)) (fun _ _ _ _ _ _=>Z04))
   (Z03 (Z2m PassesOwn.never rfl (Z1L rfl T.range (Z00 (Z0e Z0p rfl T.len PySem.boot_len (Z00 (pv 0) Z05)) Z05)) (Z0u (i:=2) ZfA.nd rfl (Or.inl rfl))
    (Z07 (Z51 (pv 1) (Z0j Z3B (pv 0) (pv 2) (fun _ _=>rfl)) (pv 2) rfl)))
   (Z07 (Z0l (pv 1)))),?_⟩
  dsimp only [Zag,Zaf]
  refine Zaw rfl hp (by rw[rr.len]; omega) fun H1 l s1 hl0 hl=>?_
  rw[rr.len]at hl
  refine⟨_,rfl,p,_,rfl,hp.same s1,(n:Int),by rw[Z0z,rr.len],by omega,by omega,?_⟩
  rw[Int.toNat_natCast]
  refine Z23 (n:=n) (fun i σ H2=>∃ o2 bl,σ=[some (.ref p),some (.ref l),o2]/\Z0q H H2/\H2 l=some (.lst (nv bl))/\bl.length=n/\∀ k,k < i->bl[nx r k]?=some k)
   ⟨_,_,rfl,s1,hl,by simp,fun k hk=>absurd hk (Y1n _)⟩ ?_ ?_
  ·rintro i σ H2 hi ⟨o2,bl,rfl,s2,h2,hbl,hall⟩
   have hyn:=rr.nlt hi
   refine⟨_,rfl,_,rfl,_,rfl,_,rfl,?_⟩
   rw[show (0:Int)+(i:Int)=(i:Int) from by omega]
   refine Z6p (hp.same s2) rr hi ?_
   refine⟨l,_,_,nx r i,rfl,rfl,h2,?_,?_⟩
   ·unfold ixN
    rw[if_pos (by omega),if_pos (by rw[Z0z,hbl]; omega)]
    simp
   refine⟨_,bl.set (nx r i) i,rfl,Z08 s2 hl0,by rw[Z06,Z7t],by rw[List.length_set]; exact hbl,fun k hk=>?_⟩
   rcases Y0j k i with c | c
   ·have hne:nx r i≠nx r k:=fun z=>by
     have:=rr.inj hi (by omega) z
     omega
    rw[List.getElem?_set_ne hne]
    exact hall k c
   ·have:k=i:=by omega
    subst this
    rw[Y22 (by rw[hbl]; exact hyn)]
  ·rintro σ H2 ⟨o2,bl,rfl,s2,h2,hbl,hall⟩
   have e:=Z67 rr hbl hall
   subst e
   exact⟨_,rfl,k _ l s2 hl0 h2⟩
end
def Z8c (K:Y00):Sp:=fun vs H Q _=>∃ (a:Addr) (n:Nat) (r u:List Nat),vs=[.ref a]/\Z5p H a r u/\Row n r/\Row n u/\n<=36/\∀ (H':Hp) (l:Addr),Z0q H H'->H l=none->H' l=some (.lst (nv (Z0w r u)))->Q (.ref l) H'
section
variable {P:Program}{w:World}{K:Y00}{mg:Str->Option Value}{base:Heap}
abbrev nLat:List Str:=["_law_sheet_here","_law_left","_law_down"]
theorem ZbR:Z0k nLat ["_law_sheet_here"] (Z0a Z3k):=⟨rfl,rfl,rfl,by decide +kernel,rfl,by decide +kernel,by decide +kernel⟩
theorem Zfr:(["_law_k","_law_sheet_here","_law_down","_law_left"]:List Str).Nodup:=by decide +kernel
theorem Z9M {f fb:Addr}{fd fdb:FuncData}(T:Bi mg)(F:Fn K mg "_law_later" Z3k ["_law_sheet_here"] f fd)(FB:Fn K mg "_law_back" Z3V ["_law_row_here"] fb fdb)(GB:Z0x P w K mg base CX0 1 fb fdb ["_law_row_here"] (Z6y K)) :
  Z0x P w K mg base CX0 2 f fd ["_law_sheet_here"] (Z8c K):=by
 refine F.F.ok ZbR (fun vs H Q E h=>?_) (fun cdv A outer s H vs Q E hr h=>?_)
 ·obtain⟨a,n,r,u,rfl,_⟩:=h; rfl
 ·obtain⟨a,n,r,u,rfl,⟨p,q,h1,h2,h3⟩,rr,ru,hn,k⟩:=h
  refine⟨_,Z03 (Z0d (i:=1) ZbR.nd rfl (Or.inr rfl) (Z0b GB hr rfl FB.m FB.F.kp FB.b .nil Z0r (Z00 (Z0j Z0f (pv 0) Z04 (fun _ _=>rfl)) Z05)))
   (Z03 (Z0d (i:=2) ZbR.nd rfl (Or.inr rfl) (Z0b GB hr rfl FB.m FB.F.kp FB.b .nil Z0r (Z00 (Z0j Z0f (pv 0) Z04 (fun _ _=>rfl)) Z05)))
   (Z07 (Z0l (Z5j (N:=nLat) (names:=(Z0a Z3k).names) (N':=["_law_k","_law_sheet_here","_law_down","_law_left"]) (k:=1) (pull:=[0,2,1])
     (te:=tOp (Z59 K) (tOp (Z59 K) (Z12 1) (tC (.int 1))) (tOp (Z59 K) (tOp (Z59 K) (Z12 1) (tC (.int 0))) (tOp (Zed K) (Z12 2) (tOp (Zed K) (Z12 3) (Z12 0))))) rfl
     ⟨by rfl,by decide +kernel,by decide +kernel,by rfl,by decide +kernel,by decide +kernel⟩ rfl rfl (Z1L rfl T.range (Z00 (Z0e Z0p rfl T.len PySem.boot_len (Z00 (pv 1) Z05)) Z05)) (fun _ _ _ _ _ _=>Z0u (i:=0) Zfr rfl (Or.inl rfl))
     (fun _ _ _ _ _ _=>Z0j Z0f (Z0j Z0f (pv 1) Z04 (fun _ _=>rfl)) (Z0j Z0f (Z0j Z0f (pv 1) Z04 (fun _ _=>rfl)) (Z0j Z0R (pv 2) (Z0j Z0R (pv 3) (pv 0) (fun _ _=>rfl)) (fun _ _=>rfl)) (fun _ _=>rfl)) (fun _ _=>rfl)))))),?_⟩
  refine⟨_,rfl,a,_,0,_,rfl,rfl,SqT.of h1,Z09 (j:=0) rfl,p,n,r,rfl,.inr (SqT.of h2),rr,hn,fun H1 l1 s1 _ hl1=>?_⟩
  refine⟨_,rfl,a,_,1,_,rfl,rfl,SqT.of (s1 _ _ h1),Z09 (j:=1) rfl,q,n,u,rfl,.inr (SqT.of (s1 _ _ h3)),ru,hn,fun H2 l2 s2 _ hl2=>?_⟩
  have s02:=s1.trans s2
  have b1:=rr.back
  have b2:=ru.back
  refine⟨_,rfl,l1,_,rfl,.inl (SqL.of (s2 _ _ hl1)),(n:Int),by rw[Z0z,b1.len],by lia,by lia,fun d hd=>?_⟩
  rw[Int.toNat_natCast]
  show ∃ W:Nat->Nat->St->Hp->Prop,(∃ m,W 0 m [none,some (.ref a),some (.ref l2),some (.ref l1)] (upd H2 d (.lst [])))/\_
  refine Z52 (J:=Itr 0 n) (Q:=fun d H'=>Q (.ref d) H') n (nv (Z0w r u)) (by rw[Z0z,Z2T,rr.len]) (fun i σ H3=>∃ o,σ=[o,some (.ref a),some (.ref l2),some (.ref l1)]/\Z0q H2 H3) ⟨_,rfl,Z08 (Z0q.refl _) hd⟩ ?_ ?_
  ·rintro i σ H3 hi ⟨o,rfl,s3⟩ hd3
   have s03:=s02.trans s3
   refine⟨hi,fun x H4 ⟨e1,e2⟩=>?_⟩
   subst e1 e2
   rw[show (0:Int)+(i:Int)=(i:Int) from by lia]
   refine⟨_,rfl,a,_,1,_,rfl,rfl,SqT.of (s03 _ _ h1),Z09 (j:=1) rfl,?_⟩
   refine⟨_,rfl,a,_,0,_,rfl,rfl,SqT.of (s03 _ _ h1),Z09 (j:=0) rfl,?_⟩
   refine⟨_,rfl,_,rfl,_,rfl,l1,_,_,_,rfl,rfl,SqL.of (s3 _ _ (s2 _ _ hl1)),Z09 (Z0J (b1.get hi)),?_⟩
   refine⟨l2,_,_,_,rfl,rfl,SqL.of (s3 _ _ hl2),Z09 (Z0J (b2.get (b1.nlt hi))),?_⟩
   refine⟨p,_,_,_,rfl,rfl,SqT.of (s03 _ _ h2),Z09 (Z0J (rr.get (b2.nlt (b1.nlt hi)))),?_⟩
   refine⟨q,_,_,_,rfl,rfl,SqT.of (s03 _ _ h3),Z09 (Z0J (ru.get (rr.nlt (b2.nlt (b1.nlt hi))))),?_⟩
   refine Zad hi (by lia) hd3 (Z0J ?_) ⟨_,rfl,Z08 s3 hd⟩
   have:i < r.length:=by rw[rr.len]; exact hi
   simp[Z0w,this]
  ·rintro σ H3 ⟨o,rfl,s3⟩ hd3
   exact⟨Y03 _,k H3 d (s02.trans s3) (s02.free hd) hd3⟩
end
def Pr5 (H:Hp)(p:Addr)(t b:Int):Prop:=H p=some (.tup [.int t,.int b])
def ZdA:Sp:=fun vs H Q _=>∃ (c:Int),vs=[.int c]/\∀ (H':Hp) (x:Addr) (t b:Int),Z0q H H'->Pr5 H' x t b->0<=t->t < b->b<=1000000000->Q (.ref x) H'
section
variable {P:Program}{w:World}{K:Y00}{mg:Str->Option Value}{base:Heap}
abbrev Zfz:List Str:=["_law_cell_here","_law_bottom"]
theorem Z8F:Z0k Zfz ["_law_cell_here"] (Z0a Z5q):=⟨rfl,rfl,rfl,by decide +kernel,rfl,by decide +kernel,by decide +kernel⟩
theorem Zdq {f:Addr}{fd:FuncData}(F:Fn K mg "_law_part" Z5q ["_law_cell_here"] f fd):Z0x P w K mg base CX0 1 f fd ["_law_cell_here"] ZdA:=by
 refine F.F.ok Z8F (fun vs H Q E h=>?_) (fun cdv A outer s H vs Q E hr h=>?_)
 ·obtain⟨c,rfl,_⟩:=h; rfl
 ·obtain⟨c,rfl,k⟩:=h
  refine⟨_,(Z03 (Z0d (i:=1) Z8F.nd rfl (Or.inl rfl) (Z0c Z0I Z04 (Z0c Z0K (pv 0) Z04)))
   (Z03 (Z0T (Z0h Z1k (Z0c Z0K (Z0c Z16 (pv 0) Z04) Z04) Z04 (Z0m _)) (Z07 (Z0d (i:=1) Z8F.nd rfl (Or.inl rfl) (Z0c Z0I Z04 (Z0c Z0K (Z0c Z16 (pv 0) Z04) (Z0c Z6Q Z04 Z04))))) Z0t)
   (Z07 (Z0l (Z0S (Z00 (Z0c Z0K (Z0c Z16 (pv 0) Z04) (pv 1)) (Z00 (pv 1) Z05))))))),?_⟩
  have fin:∀ b:Int,0 < b->b<=1000000000->Zal (Z9B (Z0U (tOp (rI (fun _ j=>0 < j) fun i j=>.int (i % j)) (tOp (rI CDiv fun i j=>.int (i / j)) (Z12 0) (tC (.int 11))) (Z12 1)) (Z0U (Z12 1) Z4E))) { nx:=fun _ H'=>Q .non H',rt:=Q } [some (.int c),some (.int b)] H:=fun b b0 b1=>
   ⟨_,rfl,_,_,rfl,rfl,⟨by decide,by decide⟩,_,rfl,_,_,rfl,rfl,b0,_,rfl,by show 2<=sizeLine; decide,fun x hx=>k _ x _ b (Z08 (Z0q.refl H) hx) Z06 (Int.emod_nonneg _ (by omega)) (Int.emod_lt_of_pos _ b0) b1⟩
  refine⟨_,rfl,_,_,rfl,rfl,(by show (0:Int) < 6; decide),_,_,rfl,rfl,?_⟩
  refine⟨_,rfl,_,_,rfl,rfl,⟨by decide,by decide⟩,_,_,rfl,rfl,(by show (0:Int) < 5; decide),rfl,_,rfl,?_⟩
  refine Z5m (fun _=>?_) (fun _=>?_)
  ·refine⟨_,rfl,_,_,rfl,rfl,⟨by decide,by decide⟩,10,9,rfl,rfl,⟨by decide,by decide,by decide⟩,_,_,rfl,rfl,(by show (0:Int) < 10 ^ Int.toNat 9; decide),_,_,rfl,rfl,?_⟩
   have e9:(10:Int) ^ Int.toNat 9=1000000000:=by decide
   have f0:0<=c / 30 % 10 ^ Int.toNat 9:=Int.emod_nonneg _ (by decide)
   have f1:c / 30 % 10 ^ Int.toNat 9 < 10 ^ Int.toNat 9:=Int.emod_lt_of_pos _ (by decide)
   rw[e9]at f0 f1
   dsimp only
   rw[e9]
   exact fin _ (by omega) (by omega)
  ·exact fin _ (by omega) (by omega)
end
def Z2j (K:Y00):Sp:=fun vs H Q _=>∃ (a:Addr) (ns:List Int) (j:Int),vs=[.ref a,.int j]/\SqL K H a (ns.map V.int)/\0<=j/\j < 1000000/\∀ v:Int,Q (.int v) H
section
variable {P:Program}{w:World}{K:Y00}{mg:Str->Option Value}{base:Heap}
theorem Ze5:Z0k ["_law_script","_law_k"] ["_law_script","_law_k"] (Z0a Z5c):=⟨rfl,rfl,rfl,by decide +kernel,rfl,by decide +kernel,by decide +kernel⟩
theorem Z9N {f:Addr}{fd:FuncData}(T:Bi mg)(F:Fn K mg "_law_cell" Z5c ["_law_script","_law_k"] f fd):Z0x P w K mg base CX0 1 f fd ["_law_script","_law_k"] (Z2j K):=by
 refine F.F.ok Ze5 (fun vs H Q E h=>?_) (fun cdv A outer s H vs Q E hr h=>?_)
 ·obtain⟨a,ns,j,rfl,_⟩:=h; rfl
 ·obtain⟨a,ns,j,rfl,hS,h0,h1,k⟩:=h
  refine⟨_,Z03 (Z0T (Z0h Z3a (pv 1) (Z0e Z0p (by rfl) T.len PySem.boot_len (Z00 (pv 0) Z05)) (Z0m _)) (Z07 (Z0l (Z0c Z0K (Z0j Z0R (pv 0) (pv 1) (fun _ _=>rfl)) (Z0c Z6Q Z04 Z04)))) Z0t)
   (Z03 (Z0T (Z0h Z1k (Z0e Z0p (by rfl) T.len PySem.boot_len (Z00 (pv 0) Z05)) Z04 (Z0m _)) (Z07 (Z0l Z04)) Z0t)
   (Z07 (Z0l (Z0c Z0K (Z0c Z0I (Z0c Z1Q (Z0c Z0K (Z0j Z0R (pv 0) (Z0c Z0K (pv 1) (Z0e Z0p (by rfl) T.len PySem.boot_len (Z00 (pv 0) Z05))) (fun _ _=>rfl)) Z04) Z04)
    (Z0c Z1Q (Z0c Z1Q (pv 1) (pv 1)) Z04)) Z04)))),?_⟩
  refine⟨_,rfl,_,rfl,a,_,rfl,.inl hS,_,_,rfl,rfl,_,rfl,?_⟩
  have ix:∀ m:Nat,m < ns.length->atI (ns.map V.int) (m:Int)=some (.int (ns.getD m 0)):=fun m hm=>Z09 (by simp[Y0i,hm])
  refine Z5m (fun hlt=>?_) (fun hge=>?_)
  ·have hlt:j < ((ns.map V.int).length:Int):=of_decide_eq_true hlt
   rw[Y08]at hlt
   have e:=ix j.toNat (by lia)
   rw[Int.toNat_of_nonneg h0]at e
   exact⟨_,rfl,_,rfl,a,_,j,_,rfl,rfl,hS,e,_,_,rfl,rfl,⟨by decide,by decide,by decide⟩,_,_,rfl,rfl,(by show (0:Int) < 10 ^ (18:Int).toNat; decide),k _⟩
  ·refine⟨_,rfl,a,_,rfl,.inl hS,rfl,_,rfl,?_⟩
   refine Z5m (fun _=>k 0) (fun hne=>?_)
   rw[Y08]at hne
   have hpos:0 < ns.length:=by
    rcases Nat.eq_zero_or_pos ns.length with e | e
    ·exact absurd (decide_eq_true (by rw[e]; rfl)) hne
    ·exact e
   have hp:(0:Int) < ((ns.map V.int).length:Int):=by rw[Y08]; lia
   obtain⟨m,hm⟩:=Int.eq_ofNat_of_zero_le (Int.emod_nonneg j (show ((ns.map V.int).length:Int)≠0 by lia))
   have hml:m < ns.length:=by
    have:=Int.emod_lt_of_pos j hp
    rw[hm,Y08]at this
    lia
   refine⟨_,rfl,_,rfl,_,rfl,a,_,rfl,.inl hS,_,_,rfl,rfl,hp,?_⟩
   dsimp only
   rw[hm]
   refine⟨a,_,_,_,rfl,rfl,hS,ix m hml,_,_,rfl,rfl,(by show (0:Int) < 1000003; decide),_,_,rfl,rfl,.inr ⟨by decide,by decide⟩,?_⟩
   exact⟨_,rfl,_,rfl,_,_,rfl,rfl,.inl ⟨by lia,by lia⟩,_,_,rfl,rfl,.inr ⟨by decide,by decide⟩,_,_,rfl,rfl,_,_,rfl,rfl,(by show (0:Int) < 1000003; decide),k _⟩
end
def Pl5 (H:Hp)(l:Addr)(sq:Nat)(tx bx ty by_:Int):Prop:=∃ px py,H l=some (.tup [.int (sq:Int),.ref px,.ref py])/\Pr5 H px tx bx/\Pr5 H py ty by_
def ZeY (K:Y00):Sp:=fun vs H Q _=>∃ (sc:Addr) (ns:List Int) (j:Int) (n:Nat),vs=[.ref sc,.int j,.int (n:Int)]/\SqL K H sc (ns.map V.int)/\0<=j/\j < 1000/\1<=n/\
 ∀ (H':Hp) (l:Addr) (sq:Nat) (tx bx ty by_:Int),Z0q H H'->Pl5 H' l sq tx bx ty by_->sq < n->0<=tx->tx < bx->bx<=1000000000->0<=ty->ty < by_->by_<=1000000000->Q (.ref l) H'
section
variable {P:Program}{w:World}{K:Y00}{mg:Str->Option Value}{base:Heap}
abbrev Zfh:List Str:=["_law_script","_law_at","_law_many","_law_square"]
theorem Zb7:Z0k Zfh ["_law_script","_law_at","_law_many"] (Z0a Z44):=⟨rfl,rfl,rfl,by decide +kernel,rfl,by decide +kernel,by decide +kernel⟩
theorem ZdC {f fc fp:Addr}{fd dc dp:FuncData}(F:Fn K mg "_law_place" Z44 ["_law_script","_law_at","_law_many"] f fd)(FC:Fn K mg "_law_cell" Z5c ["_law_script","_law_k"] fc dc)(GC:Z0x P w K mg base CX0 1 fc dc ["_law_script","_law_k"] (Z2j K))
  (FP:Fn K mg "_law_part" Z5q ["_law_cell_here"] fp dp) (GP:Z0x P w K mg base CX0 1 fp dp ["_law_cell_here"] ZdA):Z0x P w K mg base CX0 2 f fd ["_law_script","_law_at","_law_many"] (ZeY K):=by
 refine F.F.ok Zb7 (fun vs H Q E h=>?_) (fun cdv A outer s H vs Q E hr h=>?_)
 ·obtain⟨sc,ns,j,n,rfl,_⟩:=h; rfl
 ·obtain⟨sc,ns,j,n,rfl,hS,j0,j1,hn,k⟩:=h
  have hr1:Z1g 1 _:=hr.mono (by decide)
  refine⟨_,(Z03 (Z0d (i:=3) Zb7.nd rfl (Or.inl rfl) (Z0c Z0K (Z0b GC hr1 rfl FC.m FC.F.kp FC.b .nil Z0r (Z00 (pv 0) (Z00 (pv 1) Z05))) (pv 2)))
   (Z07 (Z0l (Z0S (Z00 (pv 3) (Z00 (Z0b GP hr1 rfl FP.m FP.F.kp FP.b .nil Z0r (Z00 (Z0b GC hr1 rfl FC.m FC.F.kp FC.b .nil Z0r (Z00 (pv 0) (Z00 (Z0c Z0I (pv 1) Z04) Z05))) Z05)) (Z00 (Z0b GP hr1 rfl FP.m FP.F.kp FP.b .nil Z0r (Z00 (Z0b GC hr1 rfl FC.m FC.F.kp FC.b .nil Z0r (Z00 (pv 0) (Z00 (Z0c Z0I (pv 1) Z04) Z05))) Z05)) Z05))))))),?_⟩
  refine⟨_,rfl,_,rfl,sc,ns,j,rfl,hS,j0,by lia,fun v1=>?_⟩
  refine⟨_,rfl,_,_,rfl,rfl,(by show (0:Int) < (n:Int); lia),?_⟩
  obtain⟨sq,hsq⟩:=Int.eq_ofNat_of_zero_le (Int.emod_nonneg v1 (show (n:Int)≠0 by lia))
  have hlt:=Int.emod_lt_of_pos v1 (show (0:Int) < (n:Int) by lia)
  dsimp only
  rw[hsq]
  rw[hsq]at hlt
  refine⟨_,rfl,_,rfl,_,rfl,_,_,rfl,rfl,sc,ns,_,rfl,hS,by lia,by lia,fun v2=>?_⟩
  refine⟨_,rfl,fun H1 x tx bx s1 hx x0 x1 x2=>?_⟩
  refine⟨_,rfl,_,rfl,_,_,rfl,rfl,sc,ns,_,rfl,s1.seq hS,by lia,by lia,fun v3=>?_⟩
  refine⟨_,rfl,fun H2 y ty by_ s2 hy y0 y1 y2=>?_⟩
  refine⟨by show 3<=sizeLine; decide,fun l hl=>?_⟩
  have s3:=Z08 (o:=.tup [.int (sq:Int),.ref x,.ref y]) (Z0q.refl H2) hl
  exact k _ l sq tx bx ty by_ (s1.trans (s2.trans s3)) ⟨x,y,Z06,s3 _ _ (s2 _ _ hx),s3 _ _ hy⟩ (by lia) x0 x1 x2 y0 y1 y2
end
end K1
namespace Sq
def Z0y (n:Nat)(w:List Nat):List Nat:=((Z1T n w).filter fun M=>decide (1 < M.length)).flatten
def Z5i (n:Nat)(w:List Nat):List Nat:=(Y05 n).filter fun x=>!decide (nx w x=x)
theorem Z55 {α:Type}(p:List α->Bool):∀ l:List (List α),((l.filter p).flatten).Sublist l.flatten
 | []=>List.Sublist.refl _
 | a :: l=>by
  by_cases h:p a=true
  ·rw[Y1j h,List.flatten_cons,List.flatten_cons]
   exact List.Sublist.append_left (Z55 p l) a
  ·rw[Y1z h,List.flatten_cons]
   exact (Z55 p l).trans (List.sublist_append_right _ _)
section
variable {n:Nat}{w:List Nat}
theorem ZaU {x:Nat}(h:nx w x=x):∀ i,it w x i=x
 | 0=>rfl
 | i+1=>by show nx w (it w x i)=x; rw[ZaU h i,h]
theorem Z6f (rw':Row n w){l x:Nat}(hl:l < n)(hx:x∈cyc n w l):1 < (cyc n w l).length↔nx w x≠x:=by
 have hxn:=Z7e rw' hl hx
 constructor
 ·intro h e
  have hlx:l=x:=by
   obtain⟨i,_,rfl⟩:=Z5D rw' (Z2i rw' hl hx)
   exact ZaU e i
  subst hlx
  exact (Z36 rw' hl).new 1 (Y03 _) h e
 ·intro h
  have hp:=(Z36 rw' hl).pos
  rcases Y0j 1 (cyc n w l).length with c | c
  ·exact c
  ·have h1:(cyc n w l).length=1:=by lia
   have hb:=(Z36 rw' hl).back
   rw[h1]at hb
   obtain⟨i,hi,rfl⟩:=Z5D rw' hx
   rw[Z4x]at h1
   have:i=0:=by lia
   subst this
   exact absurd hb h
theorem Z2d (rw':Row n w):(Z0y n w).Perm (Z5i n w):=by
 have hp:=Z4m rw'
 have nd:(Z1T n w).flatten.Nodup:=hp.nodup_iff.mpr Y1g
 refine (List.perm_ext_iff_of_nodup (List.Nodup.sublist (Z55 _ _) nd) (List.Nodup.sublist List.filter_sublist Y1g)).mpr fun x=>?_
 constructor
 ·intro h
  obtain⟨M,hM,hx⟩:=List.mem_flatten.mp h
  obtain⟨h1,h2⟩:=Y0r.mp hM
  obtain⟨l,hl,rfl⟩:=Y0f.mp h1
  have hl:=Y06.mp (Y0r.mp hl).1
  have:=(Z6f rw' hl hx).mp (of_decide_eq_true h2)
  exact Y0r.mpr ⟨Y06.mpr (Z7e rw' hl hx),by show (!decide (nx w x=x))=true; rw[decide_eq_false this]; rfl⟩
 ·intro h
  obtain⟨h1,h2⟩:=Y0r.mp h
  have h2:nx w x≠x:=fun e=>by
   have h2:(!decide (nx w x=x))=true:=h2
   rw[decide_eq_true e]at h2; cases h2
  obtain⟨l,hl,hld,hx⟩:=Z7q rw' (Y06.mp h1)
  exact List.mem_flatten.mpr ⟨_,Y0r.mpr ⟨Y0f.mpr ⟨l,Y0r.mpr ⟨Y06.mpr hl,hld⟩,rfl⟩,decide_eq_true ((Z6f rw' hl hx).mpr h2)⟩,hx⟩
theorem Z8s (rw':Row n w):(Z0y n w).Nodup:=(Z2d rw').nodup_iff.mpr (List.Nodup.sublist List.filter_sublist Y1g)
theorem Z7D (rw':Row n w):(Z0y n w).length<=n:=by
 rw[(Z2d rw').length_eq]
 have:=Y1e (fun x=>!decide (nx w x=x)) (Y05 n)
 rwa [Y0p]at this
end
end Sq
namespace K1
open PySem L2 Sq
def ik (x:Nat):Key:=Sum.inl (x:Int)
def Z1C (n:Nat)(w:List Nat)(s:Nat)(v:V):Prop:=∃ M∈Z1T n w,s∈M/\v=.int ((M.getD 0 0:Nat):Int)
theorem Za1 {kvs:List (Key×V)}{k:Key}{v:V}(h:Z3P kvs k=some v):∃ kv∈kvs,kv.1=k/\kv.2=v:=by
 unfold Z3P at h
 cases e:kvs.find? (fun kv=>decide (kv.1=k)) with
 | none=>rw[e]at h; cases h
 | some kv=>
  rw[e]at h
  exact⟨kv,List.mem_of_find?_eq_some e,(by have:=List.find?_some e; simpa using this),Option.some.inj h⟩
def Z9i:Sp:=fun vs H Q _=>∃ (a:Addr) (n:Nat) (r u:List Nat),vs=[.ref a]/\Z5p H a r u/\Row n r/\Row n u/\n<=36/\
 ∀ (H':Hp) (d:Addr) (kvs:List (Key×V)),Z0q H H'->H d=none->H' d=some (.dK kvs)->kvs.map (·.1)=(Z0y n (Z0w r u)).map ik->(∀ kv∈kvs,∀ s:Nat,kv.1=ik s->Z1C n (Z0w r u) s kv.2)->Q (.ref d) H'
theorem Z7x {kvs:List (Key×V)}{F:List Nat}(h:kvs.map (·.1)=F.map ik){y:Nat}(hy:y∉F):Z3P kvs (ik y)=none:=by
 cases e:Z3P kvs (ik y) with
 | none=>rfl
 | some v=>
  have:=Zch e
  rw[h]at this
  obtain⟨x,hx,ex⟩:=Y0f.mp this
  have:x=y:=by have:=Sum.inl.inj ex; lia
  exact absurd (this ▸ hx) hy
section
variable {P:Program}{w:World}{K:Y00}{mg:Str->Option Value}{base:Heap}
abbrev nRs:List Str:=["sheet","least","corner","square"]
theorem Zfd:Z0k nRs ["sheet"] (Z0a Z1m):=⟨rfl,rfl,rfl,by decide +kernel,rfl,by decide +kernel,by decide +kernel⟩
set_option maxHeartbeats 2000000 in
theorem Zah {f fc:Addr}{fd fdc:FuncData}(T:Bi mg)(F:Fn K mg "rough_squares" Z1m ["sheet"] f fd)(FC:Fn K mg "corners" Z2X ["sheet"] fc fdc)(GC:Z0x P w K mg base CX0 6 fc fdc ["sheet"] Z5J) :
  Z0x P w K mg base CX0 7 f fd ["sheet"] Z9i:=by
 refine F.F.ok Zfd (fun vs H Q E h=>?_) (fun cdv A outer s H vs Q E hr h=>?_)
 ·obtain⟨a,n,r,u,rfl,_⟩:=h; rfl
 ·obtain⟨a,n,r,u,rfl,hsh,rr,ru,hn,k⟩:=h
  have hu:=Z9G hr
  refine⟨_,Z03 (Z0d (i:=1) Zfd.nd rfl (Or.inl rfl) Z9L)
   (Z03 (Z2m PassesOwn.never rfl (Z2k (Z0b GC hr rfl FC.m FC.F.kp FC.b .nil Z0r (Z00 (pv 0) Z05))) (Z0u (i:=2) Zfd.nd rfl (Or.inl rfl))
    (Z07 (Z0T (Z0h Z53 (Z0e Z0p rfl T.len PySem.boot_len (Z00 (pv 2) Z05)) Z04 (Z0m _))
     (Z07 (Z2m PassesOwn.never rfl (Z2k (pv 2)) (Z0u (i:=3) Zfd.nd rfl (Or.inl rfl))
      (Z07 (ZcB hu (pv 1) (pv 3) (Z0j Z0R (pv 2) Z04 (fun _ _=>rfl)) rfl)))) Z0t)))
   (Z07 (Z0l (pv 1)))),?_⟩
  intro d hd
  have s0:Z0q H (upd H d (.dK [])):=Z08 (Z0q.refl H) hd
  have rl:=Z2w rr ru
  refine⟨_,rfl,a,n,r,u,rfl,hsh.same s0,rr,ru,hn,fun H1 l as s1 fl hl fr hL=>?_⟩
  have e1:H1 d=some (.dK []):=s1 _ _ Z06
  have hlen:=hL.len
  have hnd:=Z8s rl
  have hrl:=Z7D rl
  have ndl:l≠d:=fun e=>by rw[e,Z06]at fl; cases fl
  refine⟨l,rfl,⟨_,SqL.of hl⟩,Z3N (K:=K) (a:=l) (xs:=rv as) (fun i σ H2=>∃ o2 o3 kvs,σ=[some (.ref a),some (.ref d),o2,o3]/\(∀ b o,b≠d->H1 b=some o->H2 b=some o)/\H2 d=some (.dK kvs)/\kvs.map (·.1)=((((Z1T n (Z0w r u)).take i).filter fun M=>decide (1 < M.length)).flatten).map ik/\(∀ kv∈kvs,∀ s:Nat,kv.1=ik s->Z1C n (Z0w r u) s kv.2)) ⟨_,_,[],rfl,fun _ _ _ h=>h,e1,rfl,fun kv h=>nomatch h⟩ (fun i σ H2 _ ⟨_,_,_,_,s2,_⟩=>SqL.of (s2 _ _ ndl hl)) ?_ ?_⟩
  ·rintro i x σ H2 hx ⟨o2,o3,kvs,rfl,s2,h2d,hk,hlv⟩
   have hi:i < as.length:=by
    have:=(Y04.mp hx).1
    rwa [Z5G]at this
   have ha:as[i]?=some as[i]:=Y01 hi
   generalize as[i]=b at ha
   rw[Z8H ha]at hx
   cases hx
   obtain⟨M,hM,hB⟩:=hL.get ha
   have nbd:b≠d:=fun e=>by
    have:=fr b (Y0d ha)
    rw[e,Z06]at this; cases this
   have hB2:=s2 _ _ nbd hB
   have hfl:(((Z1T n (Z0w r u)).take (i+1)).filter fun M=>decide (1 < M.length)).flatten=((((Z1T n (Z0w r u)).take i).filter fun M=>decide (1 < M.length)).flatten)++(if 1 < M.length then M else []):=by
    rw[Y1i,hM,Y14,List.flatten_append]
    congr 1
    by_cases c:1 < M.length
    ·simp[c]
    ·simp[c]
   have hsplit:Z0y n (Z0w r u)=((((Z1T n (Z0w r u)).take (i+1)).filter fun M=>decide (1 < M.length)).flatten)++((((Z1T n (Z0w r u)).drop (i+1)).filter fun M=>decide (1 < M.length)).flatten):=by
    unfold Z0y
    rw[<-List.flatten_append,<-Y14,Y1q]
   refine⟨_,rfl,b,_,rfl,.inl (SqL.of hB2),_,_,rfl,rfl,_,rfl,?_⟩
   rw[Z0z]
   refine Z5m (fun hgt=>?_) (fun hle=>?_)
   ·have hgt:(1:Int) < (M.length:Int):=of_decide_eq_true hgt
    have hgt':1 < M.length:=by lia
    rw[if_pos hgt']at hfl
    generalize hFe:(((Z1T n (Z0w r u)).take i).filter fun M=>decide (1 < M.length)).flatten=Fl at hk hfl
    rw[hfl]at hsplit
    have hnd2:(Fl++M).Nodup:=by rw[hsplit]at hnd; exact (List.nodup_append.mp hnd).1
    have hlen2:Fl.length+M.length<=36:=by
     have:=congrArg List.length hsplit
     rw[Y0e,Y0e]at this
     lia
    have h0:M[0]?=some (M[0]'(by lia)):=Y01 (by lia)
    refine⟨_,rfl,b,rfl,⟨_,SqL.of hB2⟩,Z3N (K:=K) (a:=b) (xs:=nv M) (fun j σ H3=>∃ o3 kvs,σ=[some (.ref a),some (.ref d),some (.ref b),o3]/\(∀ b o,b≠d->H1 b=some o->H3 b=some o)/\H3 d=some (.dK kvs)/\kvs.map (·.1)=(Fl++M.take j).map ik/\(∀ kv∈kvs,∀ s:Nat,kv.1=ik s->Z1C n (Z0w r u) s kv.2)) ⟨_,kvs,rfl,s2,h2d,by rw[List.take_zero,Y19]; exact hk,hlv⟩ (fun j σ H3 _ ⟨_,_,_,s3,_⟩=>SqL.of (s3 _ _ nbd hB)) ?_ ?_⟩
    ·rintro j v σ H3 hv ⟨o3,kvs3,rfl,s3,h3d,hk3,hlv3⟩
     obtain⟨y,hy,rfl⟩:=Z8h hv
     have hj:j < M.length:=(Y04.mp hy).1
     have hB3:=s3 _ _ nbd hB
     have hmt:M.take (j+1)=M.take j++[y]:=by rw[Y1i,hy]; rfl
     have hny:y∉Fl++M.take j:=by
      have e:Fl++M=(Fl++M.take j)++(y :: M.drop (j+1)):=by
       rw[Y0l]
       congr 1
       have e1:y=M[j]:=by rw[Y01 hj]at hy; exact (Option.some.inj hy).symm
       rw[e1,<-Y1w hj,Y1q]
      rw[e]at hnd2
      exact fun z=>(List.nodup_append.mp hnd2).2.2 y z y (by simp) rfl
     have hvn:=Z7x hk3 hny
     have hkl:kvs3.length=(Fl++M.take j).length:=by simpa using congrArg List.length hk3
     have hkl2:(Fl++M.take j).length<=36:=by rw[Y0e,Y0x]; lia
     refine⟨_,rfl,b,_,0,_,rfl,rfl,SqL.of hB3,Z09 (j:=0) (Z0J h0),_,rfl,_,rfl,d,_,rfl,Zea.k (k:=ik y) h3d (by rw[hkl]; exact Z0A (by lia)),?_⟩
     rw[Z2W _ hvn]
     refine⟨_,_,rfl,fun c o hc ho=>by rw[Z0i hc]; exact s3 c o hc ho,Z06,?_,fun kv hkv s' es=>?_⟩
     ·rw[Y0y,hk3,hmt]
      simp
     ·have hkv:kv∈kvs3\/kv=(ik y,.int ((M[0]'(by lia):Nat):Int)):=by simpa using hkv
      rcases hkv with hkv | rfl
      ·exact hlv3 kv hkv s' es
      ·have es:y=s':=by have:=Sum.inl.inj es; lia
       subst es
       refine⟨M,Y0d hM,Y0d hy,?_⟩
       rw[Y0i,h0]; rfl
    ·rintro σ H3 ⟨o3,kvs3,rfl,s3,h3d,hk3,hlv3⟩
     rw[Z0z,List.take_length]at hk3
     exact⟨_,_,_,rfl,s3,h3d,by rw[hfl]; exact hk3,hlv3⟩
   ·have hle:¬ (1:Int) < (M.length:Int):=fun z=>hle (decide_eq_true z)
    rw[if_neg (by lia),Y19]at hfl
    exact⟨_,_,kvs,rfl,s2,h2d,by rw[hfl]; exact hk,hlv⟩
  ·rintro σ H2 ⟨o2,o3,kvs,rfl,s2,h2d,hk,hlv⟩
   rw[Z5G,hlen,List.take_length]at hk
   exact⟨_,rfl,k H2 d kvs (fun b o ho=>s2 _ _ (fun e=>by rw[e,hd]at ho; cases ho) (s1 _ _ (s0 _ _ ho))) hd h2d hk hlv⟩
end
end K1
namespace Sq
theorem Z9F (a b:Int):Int.gcd b (a.fmod b)=Int.gcd a b:=by
 rw[Int.fmod_def,Int.gcd_sub_mul_left_right,Int.gcd_comm]
theorem ZbF {a b:Int}(h:b≠0):(a.fmod b).natAbs < b.natAbs:=by
 rcases Int.lt_trichotomy b 0 with l | l | l
 ·have h1:=Int.fmod_nonneg_of_pos (-a) (b:=-b) (by omega)
  have h2:=Int.fmod_lt_of_pos (-a) (b:=-b) (by omega)
  rw[Int.neg_fmod_neg]at h1 h2
  omega
 ·exact absurd l h
 ·have h1:=Int.fmod_nonneg_of_pos a l
  have h2:=Int.fmod_lt_of_pos a l
  omega
def dv (t b:Int):Int:=if b < 0 then -((Int.gcd t b:Nat):Int) else ((Int.gcd t b:Nat):Int)
def Z0C (t b:Int):Int:=t.fdiv (dv t b)
def Z0o (t b:Int):Int:=b.fdiv (dv t b)
theorem Z6L {t b:Int}(h:b≠0):0 < Int.gcd t b:=Int.gcd_pos_of_ne_zero_right t h
theorem ZcQ (t b:Int):(dv t b).natAbs=Int.gcd t b:=by unfold dv; split <;> omega
theorem Z9u {t b:Int}(h:b≠0):dv t b≠0:=by
 have:=Z6L (t:=t) h
 have:=ZcQ t b
 omega
theorem Z9C (t b:Int):dv t b∣t:=by
 have:((Int.gcd t b:Nat):Int)∣t:=Int.gcd_dvd_left t b
 unfold dv
 split
 ·exact Int.neg_dvd.mpr this
 ·exact this
theorem Za3 (t b:Int):dv t b∣b:=by
 have:((Int.gcd t b:Nat):Int)∣b:=Int.gcd_dvd_right t b
 unfold dv
 split
 ·exact Int.neg_dvd.mpr this
 ·exact this
theorem Z1w (t b:Int):Z0C t b * dv t b=t:=Int.fdiv_mul_cancel (Z9C t b)
theorem Z0V (t b:Int):Z0o t b * dv t b=b:=Int.fdiv_mul_cancel (Za3 t b)
theorem ZeV {x k:Int}(h:0 < k)(h2:0 < x * k):0 < x:=by
 rcases (show 0 < x\/x<=0 by omega) with l | l
 ·exact l
 ·have:=Int.mul_le_mul_of_nonneg_right l (Int.le_of_lt h)
  rw[Int.zero_mul]at this
  omega
theorem Z0G {t b:Int}(h:b≠0):0 < Z0o t b:=by
 have e:=Z0V t b
 have g:=Z6L (t:=t) h
 unfold dv at e
 by_cases hb:b < 0
 ·rw[if_pos hb]at e
  have:Z0o t b * ((Int.gcd t b:Nat):Int)=-b:=by rw[Int.mul_neg]at e; omega
  exact ZeV (k:=((Int.gcd t b:Nat):Int)) (by omega) (by omega)
 ·rw[if_neg hb]at e
  exact ZeV (k:=((Int.gcd t b:Nat):Int)) (by omega) (by omega)
theorem Z3n {x d:Int}(h:d≠0):x.natAbs<=(x * d).natAbs:=by
 rw[Int.natAbs_mul]
 exact Nat.le_mul_of_pos_right _ (by omega)
theorem Z8t {t b:Int}(h:b≠0):(Z0C t b).natAbs<=t.natAbs:=by
 have:=Z3n (x:=Z0C t b) (Z9u (t:=t) h)
 rwa [Z1w]at this
theorem Z8V {t b:Int}(h:b≠0):(Z0o t b).natAbs<=b.natAbs:=by
 have:=Z3n (x:=Z0o t b) (Z9u (t:=t) h)
 rwa [Z0V]at this
theorem Z3A {t b:Int}(h:0 < b):0 < dv t b:=by
 have:=Z6L (t:=t) (b:=b) (by omega)
 unfold dv; rw[if_neg (by omega)]; omega
theorem Z7b {t b k:Int}(h:0 < k):dv (t * k) (b * k)=dv t b * k:=by
 unfold dv
 rw[Int.gcd_mul_right]
 have e:((Int.gcd t b * k.natAbs:Nat):Int)=((Int.gcd t b:Nat):Int) * k:=by rw[Int.natCast_mul,Int.natAbs_of_nonneg (by omega)]
 rw[e]
 by_cases hb:b < 0
 ·have:b * k < 0:=Int.mul_neg_of_neg_of_pos hb h
  rw[if_pos this,if_pos hb,Int.neg_mul]
 ·have:¬ b * k < 0:=Int.not_lt.mpr (Int.mul_nonneg (by omega) (by omega))
  rw[if_neg this,if_neg hb]
theorem Z47 {t b k:Int}(hb:b≠0)(h:0 < k):Z0C (t * k) (b * k)=Z0C t b/\Z0o (t * k) (b * k)=Z0o t b:=by
 have hd:dv t b * k≠0:=Int.mul_ne_zero (Z9u hb) (by omega)
 constructor
 ·have e:=Z1w (t * k) (b * k)
  rw[Z7b h]at e
  have e2:Z0C t b * (dv t b * k)=t * k:=by rw[<-Int.mul_assoc,Z1w]
  exact Int.eq_of_mul_eq_mul_right hd (e.trans e2.symm)
 ·have e:=Z0V (t * k) (b * k)
  rw[Z7b h]at e
  have e2:Z0o t b * (dv t b * k)=b * k:=by rw[<-Int.mul_assoc,Z0V]
  exact Int.eq_of_mul_eq_mul_right hd (e.trans e2.symm)
theorem ZaJ {a b c d:Int}(hb:0 < b)(hd:0 < d)(h:a * d=c * b):Z0C a b=Z0C c d/\Z0o a b=Z0o c d:=by
 have h1:=Z47 (t:=a) (b:=b) (k:=d) (by omega) hd
 have h2:=Z47 (t:=c) (b:=d) (k:=b) (by omega) hb
 rw[h,Int.mul_comm b d]at h1
 exact⟨h1.1.symm.trans h2.1,h1.2.symm.trans h2.2⟩
theorem ZbC {a b:Int}(hb:0 < b):Z0C (Z0C a b) (Z0o a b)=Z0C a b/\Z0o (Z0C a b) (Z0o a b)=Z0o a b:=
 ZaJ (Z0G (by omega)) hb (by
  have e1:=Z1w a b
  have e2:=Z0V a b
  generalize Z0C a b=x at *; generalize Z0o a b=y at *; generalize dv a b=p at *
  subst e1 e2
  grind)
end Sq
namespace Sq
end Sq
namespace K1
open PySem L2 Sq
def Zfj:Sp:=fun vs H Q _=>∃ a b:Int,vs=[.int a,.int b]/\Q (.int ((Int.gcd a b:Nat):Int)) H
section
variable {P:Program}{w:World}{K:Y00}{mg:Str->Option Value}{base:Heap}
abbrev nCd:List Str:=["one","other","greater","lesser","left_over"]
theorem ZcI:Z0k nCd ["one","other"] (Z0a Z11):=⟨rfl,rfl,rfl,by decide +kernel,rfl,by decide +kernel,by decide +kernel⟩
theorem Z0P:bootBuiltins "abs"=some (.builtin "abs"):=by decide +kernel
theorem Zg1 {f:Addr}{fd:FuncData}(hA:mg "abs"=none)(F:Fn K mg "common_divisor" Z11 ["one","other"] f fd):Z0x P w K mg base CX0 1 f fd ["one","other"] Zfj:=by
 refine F.F.ok ZcI (fun vs H Q E h=>?_) (fun cdv A outer s H vs Q E hr h=>?_)
 ·obtain⟨a,b,rfl,_⟩:=h; rfl
 ·obtain⟨a,b,rfl,k⟩:=h
  refine⟨_,Z03 (Z0d (i:=2) ZcI.nd rfl (Or.inl rfl) (Z0e Z0O rfl hA Z0P (Z00 (pv 0) Z05)))
   (Z03 (Z0d (i:=3) ZcI.nd rfl (Or.inl rfl) (Z0e Z0O rfl hA Z0P (Z00 (pv 1) Z05)))
   (Z03 (Z1v PassesOwn.never (Z0h Z3q (pv 3) Z04 (Z0m _))
    (Z03 (Z0d (i:=4) ZcI.nd rfl (Or.inl rfl) (Z0c Z0K (pv 2) (pv 3)))
    (Z03 (Z0d (i:=2) ZcI.nd rfl (Or.inl rfl) (pv 3))
    (Z07 (Z0d (i:=3) ZcI.nd rfl (Or.inl rfl) (pv 4))))))
   (Z07 (Z0l (pv 2))))),?_⟩
  refine⟨_,rfl,_,rfl,_,rfl,_,rfl,?_⟩
  have abs:∀ i:Int,(if i < 0 then -i else i)=((i.natAbs:Nat):Int):=fun i=>by split <;> omega
  rw[abs a,abs b]
  refine Z2b (fun σ H'=>H'=H/\∃ (x y:Nat) (o:Option V),σ=[some (.int a),some (.int b),some (.int (x:Int)),some (.int (y:Int)),o]/\Nat.gcd x y=Int.gcd a b)
   (fun σ _=>match σ with | [_,_,_,some (.int y),_]=>y.natAbs | _=>0) ⟨rfl,_,_,none,rfl,rfl⟩ ?_ ?_
  ·rintro σ H' ⟨rfl,x,y,o,rfl,hg⟩
   refine⟨_,rfl,rfl,_,rfl,?_⟩
   refine Z5m (fun h=>?_) (fun h=>?_)
   ·have hy:(y:Int)≠0:=by simpa using h
    refine⟨_,rfl,_,rfl,_,_,rfl,rfl,(by show (0:Int) < (y:Int); omega),?_⟩
    refine⟨_,rfl,_,rfl,?_⟩
    refine⟨⟨rfl,y,x % y,some (.int ((x % y:Nat):Int)),by simp[Int.natCast_emod],?_⟩,?_⟩
    ·rw[<-hg,Nat.gcd_comm x y,Nat.gcd_rec y x,Nat.gcd_comm]
    ·show ((x:Int) % (y:Int)).natAbs < ((y:Int)).natAbs
     have:=Nat.mod_lt x (show 0 < y by omega)
     rw[<-Int.natCast_emod,Int.natAbs_natCast,Int.natAbs_natCast]; exact this
   ·have hy:(y:Int)=0:=by simpa using h
    have:y=0:=by omega
    subst this
    rw[Nat.gcd_zero_right]at hg
    refine⟨_,rfl,?_⟩
    rw[hg]; exact k
  ·rintro σ H' Q1 Q2 hq ⟨x,e1,e2,y,e3,e4⟩
   exact⟨x,e1,e2,y,e3,hq _ _ e4⟩
end
def sts (p0 p1 p2 p3:Addr):List (Key×V):=[(Sum.inr "r",.ref p0),(Sum.inr "l",.ref p1),(Sum.inr "u",.ref p2),(Sum.inr "d",.ref p3)]
theorem ZeO (p0 p1 p2 p3:Addr):Z4J [] (sts p0 p1 p2 p3)=sts p0 p1 p2 p3:=by
 have n1:¬ ((Sum.inr ("r":Str):Key)=Sum.inr ("l":Str)):=by decide +kernel
 have n2:¬ ((Sum.inr ("r":Str):Key)=Sum.inr ("u":Str)):=by decide +kernel
 have n3:¬ ((Sum.inr ("r":Str):Key)=Sum.inr ("d":Str)):=by decide +kernel
 have n4:¬ ((Sum.inr ("l":Str):Key)=Sum.inr ("u":Str)):=by decide +kernel
 have n5:¬ ((Sum.inr ("l":Str):Key)=Sum.inr ("d":Str)):=by decide +kernel
 have n6:¬ ((Sum.inr ("u":Str):Key)=Sum.inr ("d":Str)):=by decide +kernel
 show Z4C (Z4C (Z4C (Z4C [] (Sum.inr ("r":Str):Key) (V.ref p0)) (Sum.inr ("l":Str):Key) (V.ref p1)) (Sum.inr ("u":Str):Key) (V.ref p2)) (Sum.inr ("d":Str):Key) (V.ref p3)=_
 rw[Z2W (kvs:=[]) _ rfl]
 rw[Z2W (k:=(Sum.inr ("l":Str):Key)) _ (by show Z3P [((Sum.inr ("r":Str):Key),V.ref p0)] _=none; rw[Z1G n1]; rfl)]
 rw[Z2W (k:=(Sum.inr ("u":Str):Key)) _ (by show Z3P [((Sum.inr ("r":Str):Key),V.ref p0),(Sum.inr ("l":Str),V.ref p1)] _=none; rw[Z1G n2,Z1G n4]; rfl)]
 rw[Z2W (k:=(Sum.inr ("d":Str):Key)) _ (by show Z3P [((Sum.inr ("r":Str):Key),V.ref p0),(Sum.inr ("l":Str),V.ref p1),(Sum.inr ("u":Str),V.ref p2)] _=none; rw[Z1G n3,Z1G n5,Z1G n6]; rfl)]
 rfl
theorem Z6F {n s:Nat}{w M:List Nat}{v:V}(hw:Row n w)(hs:s < n)(hl:Z1C n w s v)(hM:Cyc w s M){m:Int}(hm:m∈M.map fun (x:Nat)=>(x:Int))(hle:∀ y∈M.map (fun (x:Nat)=>(x:Int)),m<=y):v=.int m:=by
 obtain⟨R,hR,sR,rfl⟩:=hl
 obtain⟨x,hx,lx,rfl⟩:=Z3s hR
 have eM:=hM.eq hw hs
 subst eM
 have e0:(cyc n w x).getD 0 0=x:=by rw[Y0i,Z2g hw hx]; rfl
 rw[e0]
 have xs:=Z2i hw hx sR
 obtain⟨m',hm',rfl⟩:=Y0f.mp hm
 have h1:=hle _ (Y0f.mpr ⟨x,xs,rfl⟩)
 have h2:=Z1V.mp lx m' (Z28 hw hx sR hm')
 congr 1
 lia
theorem Z9W {n s:Nat}{w:List Nat}(hw:Row n w)(hs:s < n):∃ v,Z1C n w s v:=by
 have h:s∈(Z1T n w).flatten:=(Z4m hw).mem_iff.mpr (Y06.mpr hs)
 obtain⟨M,hM,hsM⟩:=List.mem_flatten.mp h
 exact⟨_,M,hM,hsM,rfl⟩
def Z80 (H:Hp)(a:Addr):EvT:=match H a with
 | some (.tup [.int t,.int k,.str z])=>(t,k.toNat,z.cps.toList.headD 0)
 | _=>(0,0,0)
theorem Z6s {H:Hp}{a:Addr}{e:EvT}(h:H a=some (evO e)):Z80 H a=e:=by
 unfold Z80; rw[h]
 show (e.1,((e.2.1:Nat):Int).toNat,(ch1 e.2.2).cps.toList.headD 0)=e
 rw[Int.toNat_natCast]; rfl
theorem Z4j.map {H:Hp}{as:List Addr}{es:List EvT}(h:Z4j H as es):as.map (Z80 H)=es:=by
 refine List.ext_getElem? fun i=>?_
 rw[Y10]
 cases e:as[i]? with
 | none=>
  have:=List.getElem?_eq_none_iff.mp e
  exact (Y24 (by rw[<-h.1]; exact this)).symm
 | some a=>
  have hi:=(Y04.mp e).1
  have hj:i < es.length:=by rw[<-h.1]; exact hi
  have e2:es[i]?=some es[i]:=Y01 hj
  rw[e2]
  show some (Z80 H a)=_
  rw[Z6s (h.2 i a _ e e2)]
theorem Z7c {top bot by_ sc T:Int}{c0 c1:Nat}{e:Sq.Ev}(h:LnE top bot by_ sc T c0 c1 e):e.2.2=c0\/e.2.2=c1:=by
 rcases h with ⟨_,m,_,rfl,_⟩ | ⟨_,m,_,rfl,_⟩
 ·exact .inl rfl
 ·exact .inr rfl
theorem ZaB {tx bx p sx T ty by_ q sy:Int}{es1 es2:List EvT}{ts:List Int}(nd1:es1.Nodup)(nd2:es2.Nodup)(ndc:ts.Nodup)(me1:∀ e,e∈es1↔LnE tx bx p sx T 114 108 e)(me2:∀ e,e∈es2↔LnE ty by_ q sy T 117 100 e):(es1++es2++ts.map fun t=>((t,1,99):EvT)).Nodup:=by
 have nc:(ts.map fun t=>((t,1,99):EvT)).Nodup:=Y0q.mpr (Y0t.mpr ((Y0q.mp ndc).imp fun {a b} hab e=>hab (congrArg Prod.fst e)))
 refine List.nodup_append.mpr ⟨List.nodup_append.mpr ⟨nd1,nd2,fun a ha b hb e=>?_⟩,nc,fun a ha b hb e=>?_⟩
 ·have h1:=Z7c ((me1 a).mp ha)
  have h2:=Z7c ((me2 b).mp hb)
  rw[e]at h1; lia
 ·obtain⟨t,_,rfl⟩:=Y0f.mp hb
  rw[e]at ha
  rcases Y0b.mp ha with ha | ha
  ·have h1:=Z7c ((me1 _).mp ha)
   have h1:(99:Nat)=114\/(99:Nat)=108:=h1
   lia
  ·have h1:=Z7c ((me2 _).mp ha)
   have h1:(99:Nat)=117\/(99:Nat)=100:=h1
   lia
theorem Zf2 {tx bx p sx T ty by_ q sy:Int}{es1 es2:List EvT}{ts:List Int}(me1:∀ e,e∈es1↔LnE tx bx p sx T 114 108 e)(me2:∀ e,e∈es2↔LnE ty by_ q sy T 117 100 e)(tm:∀ t,t∈ts↔0<=t/\t<=T/\WsE tx bx p sx t/\WsE ty by_ q sy t)(e:EvT) :
  e∈(es1++es2++ts.map fun t=>((t,1,99):EvT))↔LnE tx bx p sx T 114 108 e\/LnE ty by_ q sy T 117 100 e\/(e.2=(1,99)/\0<=e.1/\e.1<=T/\WsE tx bx p sx e.1/\WsE ty by_ q sy e.1):=by
 rw[Y0b,Y0b,me1,me2,or_assoc]
 have:e∈ts.map (fun t=>((t,1,99):EvT))↔(e.2=(1,99)/\0<=e.1/\e.1<=T/\WsE tx bx p sx e.1/\WsE ty by_ q sy e.1):=by
  constructor
  ·intro h
   obtain⟨t,ht,rfl⟩:=Y0f.mp h
   exact⟨rfl,(tm t).mp ht⟩
  ·rintro ⟨h1,h2⟩
   obtain⟨t,k⟩:=e
   obtain rfl:k=(1,99):=h1
   exact Y0f.mpr ⟨t,(tm t).mpr h2,rfl⟩
 rw[this]
theorem Z4j.same {H H':Hp}{as:List Addr}{es:List EvT}(h:Z4j H as es)(s:Z0q H H'):Z4j H' as es:=⟨h.1,fun i a e h1 h2=>s _ _ (h.2 i a e h1 h2)⟩
theorem Z4j.app {H:Hp}{as bs:List Addr}{es fs:List EvT}(h:Z4j H as es)(g:Z4j H bs fs):Z4j H (as++bs) (es++fs):=by
 refine⟨by rw[Y0e,Y0e,h.1,g.1],fun i a x h1 h2=>?_⟩
 rcases Y0j i as.length with q | q
 ·rw[Y0z q]at h1
  rw[Y0z (by rw[<-h.1]; exact q)]at h2
  exact h.2 i a x h1 h2
 ·rw[Y17 q]at h1
  rw[Y17 (by rw[<-h.1]; exact q),<-h.1]at h2
  exact g.2 _ a x h1 h2
theorem Z4j.at {H:Hp}{as:List Addr}{es:List EvT}(h:Z4j H as es){a:Addr}(ha:a∈as):∃ e,H a=some (evO e):=by
 obtain⟨i,hi,e⟩:=Y1k.mp ha
 exact⟨_,h.2 i a _ (by rw[Y01 hi,e]) (Y01 (by rw[<-h.1]; exact hi))⟩
theorem Z7F {tx bx ty by_ p q sx sy T:Int}{o1 o2:Option (List Int)}{ts:List Int}(hne:¬ (p=0/\q=0))(i1:o1=none->p=0/\tx=0)(i2:o2=none->q=0/\ty=0)(f1:∀ x,o1=some x->∀ t,t∈x↔0<=t/\t<=T/\WsE tx bx p sx t)(f2:∀ x,o2=some x->∀ t,t∈x↔0<=t/\t<=T/\WsE ty by_ q sy t)
  (mec:∀ t,t∈ts↔(∀ x,o1=some x->t∈x)/\(∀ x,o2=some x->t∈x)) (t:Int):t∈ts↔0<=t/\t<=T/\WsE tx bx p sx t/\WsE ty by_ q sy t:=by
 rw[mec]
 cases o1 with
 | none=>
  obtain⟨e1,e2⟩:=i1 rfl
  cases o2 with
  | none=>exact absurd ⟨e1,(i2 rfl).1⟩ hne
  | some y=>
   have g:=f2 y rfl t
   exact⟨fun h=>let z:=g.mp (h.2 y rfl); ⟨z.1,z.2.1,.inr (.inr ⟨e1,e2⟩),z.2.2⟩,fun h=>⟨fun x z=>(by cases z),fun x z=>(by cases z; exact g.mpr ⟨h.1,h.2.1,h.2.2.2⟩)⟩⟩
 | some x=>
  have g:=f1 x rfl t
  cases o2 with
  | none=>
   obtain⟨e1,e2⟩:=i2 rfl
   exact⟨fun h=>let z:=g.mp (h.1 x rfl); ⟨z.1,z.2.1,z.2.2,.inr (.inr ⟨e1,e2⟩)⟩,fun h=>⟨fun x z=>(by cases z; exact g.mpr ⟨h.1,h.2.1,h.2.2.1⟩),fun x z=>(by cases z)⟩⟩
  | some y=>
   have g2:=f2 y rfl t
   exact⟨fun h=>let z:=g.mp (h.1 x rfl); ⟨z.1,z.2.1,z.2.2,(g2.mp (h.2 y rfl)).2.2⟩,fun h=>⟨fun x z=>(by cases z; exact g.mpr ⟨h.1,h.2.1,h.2.2.1⟩),fun x z=>(by cases z; exact g2.mpr ⟨h.1,h.2.1,h.2.2.2⟩)⟩⟩
theorem mx7 (p:Int):(if (if p < 0 then -p else p) > 1 then (if p < 0 then -p else p) else 1)=m1 p:=by
 unfold m1; repeat' split
 all_goals lia
def Za4:Sp:=fun vs H Q _=>∃ (a l:Addr) (n sq:Nat) (r u:List Nat) (tx bx ty by_ p q S:Int) (N:Nat),vs=[.ref a,.ref l,.int p,.int q,.int S]/\Z5p H a r u/\Row n r/\Row n u/\n<=36/\Pl5 H l sq tx bx ty by_/\sq < n/\0<=tx/\tx < bx/\0<=ty/\ty < by_/\Bt 60 bx/\Bt 60 by_/\p.natAbs<=60/\q.natAbs<=60/\¬ (p=0/\q=0)/\0<=S/\S * m1 p<=N/\S * m1 q<=N/\N<=240/\
 (∀ (H':Hp) (t:Addr) (s':Nat) (L:List Sq.Ev),Z0q H H'->Lst p q (bx * (by_ * m1 q) * m1 p) ⟨sq,tx * (by_ * m1 q) * m1 p,ty * (bx * m1 p) * m1 q⟩ (S * (bx * (by_ * m1 q) * m1 p)) L->Z2p r u (Z0y n (Z0w r u)) L sq=.there s'->H' t=some (.tup [.int (s':Int),.non,.int (bx * (by_ * m1 q) * m1 p)])->Q (.ref t) H')/\
 (∀ (H':Hp) (t:Addr) (b:Nat) (T:Int) (v:V) (L:List Sq.Ev),Z0q H H'->Lst p q (bx * (by_ * m1 q) * m1 p) ⟨sq,tx * (by_ * m1 q) * m1 p,ty * (bx * m1 p) * m1 q⟩ (S * (bx * (by_ * m1 q) * m1 p)) L->Z2p r u (Z0y n (Z0w r u)) L sq=.corner b T->Z1C n (Z0w r u) b v->H' t=some (.tup [v,.int T,.int (bx * (by_ * m1 q) * m1 p)])->Q (.ref t) H')
section
variable {P:Program}{w:World}{K:Y00}{mg:Str->Option Value}{base:Heap}
abbrev Zfv:List Str:=["_law_sheet_here","_law_place_here","_law_p","_law_q","_law_steps","_law_xt","_law_xb","_law_yt","_law_yb","_law_unit","_law_end","_law_by_x","_law_by_y","_law_events","_law_first","_law_time","_law_later_here","_law_lead","_law_square","_law_kind","_law_letter"]
theorem Z1n:Z0k Zfv ["_law_sheet_here","_law_place_here","_law_p","_law_q","_law_steps"] (Z0a Z4U):=⟨rfl,rfl,rfl,by decide +kernel,rfl,by decide +kernel,by decide +kernel⟩
set_option maxHeartbeats 4000000 in
theorem ZdL {f fl fw fc ft fb fr:Addr}{fd dl dw dc dt db dr:FuncData}(TB:Bi mg)(T_abs:mg "abs"=none)(T_max:mg "max"=none)(T_min:mg "min"=none)(F:Fn K mg "_law_gone" Z4U ["_law_sheet_here","_law_place_here","_law_p","_law_q","_law_steps"] f fd)(FL:Fn K mg "_law_lines" Z6e ["_law_top","_law_bottom","_law_by","_law_scale","_law_end","_law_letters"] fl dl)(GL:Z0x P w K mg base CX0 1 fl dl ["_law_top","_law_bottom","_law_by","_law_scale","_law_end","_law_letters"] Zdl)
  (FW:Fn K mg "_law_whole_times" Z1x ["_law_top","_law_bottom","_law_by","_law_scale","_law_end"] fw dw) (GW:Z0x P w K mg base CX0 1 fw dw ["_law_top","_law_bottom","_law_by","_law_scale","_law_end"] ZaP)
  (FC:Fn K mg "_law_corner_times" Z18 ["_law_first","_law_second"] fc dc) (GC:Z0x P w K mg base CX0 1 fc dc ["_law_first","_law_second"] Zeu)
  (FT:Fn K mg "_law_later" Z3k ["_law_sheet_here"] ft dt) (GT:Z0x P w K mg base CX0 2 ft dt ["_law_sheet_here"] (Z8c K))
  (FB:Fn K mg "_law_back" Z3V ["_law_row_here"] fb db) (GB:Z0x P w K mg base CX0 1 fb db ["_law_row_here"] (Z6y K))
  (FR:Fn K mg "_law_round" Z4q ["_law_later_here","_law_square"] fr dr) (GR:Z0x P w K mg base CX0 1 fr dr ["_law_later_here","_law_square"] ZcX):Z0x P w K mg base CX0 3 f fd ["_law_sheet_here","_law_place_here","_law_p","_law_q","_law_steps"] Za4:=by
 refine F.F.ok Z1n (fun vs H Q E h=>?_) (fun cdv A outer s H vs Q E hr h=>?_)
 ·obtain⟨a,l,n,sq,r,u,tx,bx,ty,by_,p,q,S,N,rfl,_⟩:=h; rfl
 ·obtain⟨a,l,n,sq,r,u,tx,bx,ty,by_,p,q,S,N,rfl,hsh,rr,ru,hn,hpl,hsq,x0,x1,y0,y1,bbx,bby,hp,hq,hne,S0,hNp,hNq,hN,k1,k2⟩:=h
  have hu:=Z9G hr
  have hu10:(A.deeper (PyProof.Rows.envOfC "_law_gone" (Z0a Z4U) s.heap.objs.size f cdv)).units+10 < cLine:=by have:=hr.units; lia
  have hr1:Z1g 1 _:=hr.mono (by decide)
  have hr2:Z1g 2 _:=hr.mono (by decide)
  refine⟨_,(Z03 (Z4b (Z0j Z0f (pv 1) Z04 (fun _ _=>rfl)) (Z3H rfl (Z0H (Z0u (i:=5) Z1n.nd rfl (Or.inl rfl)) (Z0H (Z0u (i:=6) Z1n.nd rfl (Or.inl rfl)) Z2f))))
   (Z03 (Z4b (Z0j Z0f (pv 1) Z04 (fun _ _=>rfl)) (Z3H rfl (Z0H (Z0u (i:=7) Z1n.nd rfl (Or.inl rfl)) (Z0H (Z0u (i:=8) Z1n.nd rfl (Or.inl rfl)) Z2f))))
   (Z03 (Z0d (i:=9) Z1n.nd rfl (Or.inl rfl) (Z0c Z0E (Z0c Z0E (Z0c Z0E (pv 6) (pv 8)) (Z0e (Z20 rfl) rfl T_max Z2B (Z00 Z04 (Z00 (Z0e Z0O rfl T_abs Z0P (Z00 (pv 2) Z05)) Z05)))) (Z0e (Z20 rfl) rfl T_max Z2B (Z00 Z04 (Z00 (Z0e Z0O rfl T_abs Z0P (Z00 (pv 3) Z05)) Z05)))))
   (Z03 (Z0d (i:=10) Z1n.nd rfl (Or.inl rfl) (Z0c Z0E (pv 4) (pv 9)))
   (Z03 (Z0d (i:=11) Z1n.nd rfl (Or.inl rfl) (Z0c Z0E (pv 8) (Z0e (Z20 rfl) rfl T_max Z2B (Z00 Z04 (Z00 (Z0e Z0O rfl T_abs Z0P (Z00 (pv 3) Z05)) Z05)))))
   (Z03 (Z0d (i:=12) Z1n.nd rfl (Or.inl rfl) (Z0c Z0E (pv 6) (Z0e (Z20 rfl) rfl T_max Z2B (Z00 Z04 (Z00 (Z0e Z0O rfl T_abs Z0P (Z00 (pv 2) Z05)) Z05)))))
   (Z03 (Z0d (i:=13) Z1n.nd rfl (Or.inl rfl) (Z0c Zep (Z0b GL hr1 rfl FL.m FL.F.kp FL.b .nil Z0r (Z00 (pv 5) (Z00 (pv 6) (Z00 (pv 2) (Z00 (pv 11) (Z00 (pv 10) (Z00 Z1c Z05))))))) (Z0b GL hr1 rfl FL.m FL.F.kp FL.b .nil Z0r (Z00 (pv 7) (Z00 (pv 8) (Z00 (pv 3) (Z00 (pv 12) (Z00 (pv 10) (Z00 Z1c Z05)))))))))
   (Z03 (Z0d (i:=14) Z1n.nd rfl (Or.inl rfl) (Z0b GW hr1 rfl FW.m FW.F.kp FW.b .nil Z0r (Z00 (pv 5) (Z00 (pv 6) (Z00 (pv 2) (Z00 (pv 11) (Z00 (pv 10) Z05)))))))
   (Z03 (Z2m PassesOwn.never rfl (Z2k (Z0b GC hr1 rfl FC.m FC.F.kp FC.b .nil Z0r (Z00 (pv 14) (Z00 (Z0b GW hr1 rfl FW.m FW.F.kp FW.b .nil Z0r (Z00 (pv 7) (Z00 (pv 8) (Z00 (pv 3) (Z00 (pv 12) (Z00 (pv 10) Z05)))))) Z05)))) (Z0u (i:=15) Z1n.nd rfl (Or.inl rfl)) (Z07 (Z1h (Z2H PySem.F.plainAttrs_list PySem.F.slot_list_append PySem.F.type_list_append Z0M (pv 13) (Z00 (Z0S (Z00 (pv 15) (Z00 Z04 (Z00 Z1c Z05)))) Z05)))))
   (Z03 (Z0d (i:=16) Z1n.nd rfl (Or.inl rfl) (Z0b GT hr2 rfl FT.m FT.F.kp FT.b .nil Z0r (Z00 (pv 0) Z05)))
   (Z03 (Z0d (i:=17) Z1n.nd rfl (Or.inl rfl) (Zcq (Z3S Z1c (Z0j Z0f (pv 0) Z04 (fun _ _=>rfl)) (Z3S Z1c (Z0b GB hr1 rfl FB.m FB.F.kp FB.b .nil Z0r (Z00 (Z0j Z0f (pv 0) Z04 (fun _ _=>rfl)) Z05)) (Z3S Z1c (Z0j Z0f (pv 0) Z04 (fun _ _=>rfl)) (Z3S Z1c (Z0b GB hr1 rfl FB.m FB.F.kp FB.b .nil Z0r (Z00 (Z0j Z0f (pv 0) Z04 (fun _ _=>rfl)) Z05)) ZbE)))) rfl rfl (by simp) (by decide)))
   (Z03 (Z0d (i:=18) Z1n.nd rfl (Or.inl rfl) (Z0j Z0f (pv 1) Z04 (fun _ _=>rfl)))
   (Z03 (Z2m PassesOwn.never rfl (Z2k (Z0e (Z65 rfl hu10) rfl TB.sorted Z40 (Z00 (pv 13) Z05))) (Z3H rfl (Z0H (Z0u (i:=15) Z1n.nd rfl (Or.inl rfl)) (Z0H (Z0u (i:=19) Z1n.nd rfl (Or.inl rfl)) (Z0H (Z0u (i:=20) Z1n.nd rfl (Or.inl rfl)) Z2f)))) (Z07 (Z0T (Z0h Z1k (pv 19) Z04 (Z0m _)) (Z07 (Z0T (Z0h Z3q (Z0j Z0R (pv 16) (pv 18) (fun _ _=>rfl)) (pv 18) (Z0m _)) (Z07 (Z0l (Z0S (Z00 (Z0e (Z5L rfl) rfl T_min Z5e (Z00 (Z0b GR hr1 rfl FR.m FR.F.kp FR.b .nil Z0r (Z00 (pv 16) (Z00 (pv 18) Z05))) Z05)) (Z00 (pv 15) (Z00 (pv 9) Z05)))))) Z0t)) (Z07 (Z0d (i:=18) Z1n.nd rfl (Or.inl rfl) (Z0j Z3B (Z8j hu (pv 17) (pv 20) (fun _ _=>rfl)) (pv 18) (fun _ _=>rfl)))))))
   (Z07 (Z0l (Z0S (Z00 (pv 18) (Z00 Z3E (Z00 (pv 9) Z05))))))))))))))))))),?_⟩
  obtain⟨px,py,hl,hpx,hpy⟩:=hpl
  have hpx:H px=some (.tup [.int tx,.int bx]):=hpx
  have hpy:H py=some (.tup [.int ty,.int by_]):=hpy
  have pbx:0 < bx:=by lia
  have pby:0 < by_:=by lia
  have mp0:0 < m1 p:=by unfold m1; split <;> lia
  have mq0:0 < m1 q:=by unfold m1; split <;> lia
  have bmp:Bt 6 (m1 p):=by show (m1 p).natAbs < 2 ^ 6; unfold m1; split <;> lia
  have bmq:Bt 6 (m1 q):=by show (m1 q).natAbs < 2 ^ 6; unfold m1; split <;> lia
  refine⟨_,rfl,l,_,1,_,rfl,rfl,SqT.of hl,Z09 (j:=1) rfl,px,_,rfl,SqT.of hpx,rfl,_,_,rfl,_,_,rfl,rfl,?_⟩
  refine⟨_,rfl,l,_,2,_,rfl,rfl,SqT.of hl,Z09 (j:=2) rfl,py,_,rfl,SqT.of hpy,rfl,_,_,rfl,_,_,rfl,rfl,?_⟩
  refine⟨_,rfl,_,rfl,_,_,rfl,rfl,⟨bbx.mono (by decide),bby.mono (by decide)⟩,_,rfl,_,rfl,_,_,rfl,?_⟩
  rw[mx7]
  refine⟨_,_,rfl,rfl,⟨Bt.mono (bbx.mul bby) (by decide),bmp.mono (by decide)⟩,_,rfl,_,rfl,_,_,rfl,?_⟩
  rw[mx7]
  refine⟨_,_,rfl,rfl,⟨Bt.mono ((bbx.mul bby).mul bmp) (by decide),bmq.mono (by decide)⟩,?_⟩
  dsimp only
  rw[show bx * by_ * m1 p * m1 q=bx * (by_ * m1 q) * m1 p by ac_rfl]
  have bsx:Bt 66 (by_ * m1 q):=bby.mul bmq
  have bsy:Bt 66 (bx * m1 p):=bbx.mul bmp
  have psx:0 < by_ * m1 q:=Int.mul_pos pby mq0
  have psy:0 < bx * m1 p:=Int.mul_pos pbx mp0
  have bU:Bt 132 (bx * (by_ * m1 q) * m1 p):=Bt.mono ((bbx.mul bsx).mul bmp) (by decide)
  have bS:Bt 10 S:=by
   have h1:S * 1<=S * m1 p:=Int.mul_le_mul_of_nonneg_left (by lia) S0
   show S.natAbs < 2 ^ 10; lia
  have bT:Bt 142 (S * (bx * (by_ * m1 q) * m1 p)):=bS.mul bU
  have pU:0 < bx * (by_ * m1 q) * m1 p:=Int.mul_pos (Int.mul_pos pbx psx) mp0
  have pT:0<=S * (bx * (by_ * m1 q) * m1 p):=Int.mul_nonneg S0 (by lia)
  have cx:S * (bx * (by_ * m1 q) * m1 p)<=N * (bx * (by_ * m1 q)):=by
   have h1:=Int.mul_le_mul_of_nonneg_right hNp (show 0<=bx * (by_ * m1 q) from Int.le_of_lt (Int.mul_pos pbx psx))
   have e:S * (bx * (by_ * m1 q) * m1 p)=S * m1 p * (bx * (by_ * m1 q)):=by ac_rfl
   rw[e]; exact h1
  have cy:S * (bx * (by_ * m1 q) * m1 p)<=N * (by_ * (bx * m1 p)):=by
   have h1:=Int.mul_le_mul_of_nonneg_right hNq (show 0<=by_ * (bx * m1 p) from Int.le_of_lt (Int.mul_pos pby psy))
   have e:S * (bx * (by_ * m1 q) * m1 p)=S * m1 q * (by_ * (bx * m1 p)):=by ac_rfl
   rw[e]; exact h1
  refine⟨_,rfl,_,rfl,_,_,rfl,rfl,⟨bS.mono (by decide),bU.mono (by decide)⟩,?_⟩
  refine⟨_,rfl,_,rfl,_,rfl,_,_,rfl,?_⟩
  rw[mx7]
  refine⟨_,_,rfl,rfl,⟨bby.mono (by decide),bmq.mono (by decide)⟩,?_⟩
  refine⟨_,rfl,_,rfl,_,rfl,_,_,rfl,?_⟩
  rw[mx7]
  refine⟨_,_,rfl,rfl,⟨bbx.mono (by decide),bmp.mono (by decide)⟩,?_⟩
  dsimp only
  have Ae:∃ a:Spt,a=⟨sq,tx * (by_ * m1 q) * m1 p,ty * (bx * m1 p) * m1 q⟩:=⟨_,rfl⟩
  have lst:=fun (E:List Sq.Ev) pw hE=>Ze2 (s:=sq) (p:=p) (q:=q) (T:=S * (bx * (by_ * m1 q) * m1 p)) (E:=E) pbx pby x0 x1 y0 y1 pw hE
  revert lst k1 k2 bU bT pT cx cy
  generalize bx * (by_ * m1 q) * m1 p=U
  generalize S * U=T
  generalize tx * (by_ * m1 q) * m1 p=XX
  generalize ty * (bx * m1 p) * m1 q=YY
  revert bsx bsy psx psy
  generalize by_ * m1 q=sx
  generalize bx * m1 p=sy
  intro bsx bsy psx psy k1 k2 bU bT pT cx cy lst
  refine⟨_,rfl,_,rfl,_,rfl,_,rfl,_,rfl,tx,bx,p,sx,T,114,108,N,rfl,pbx,psx,x0,x1,pT,cx,bbx.mono (by decide),bsx.mono (by decide),bT.mono (by decide),by lia,fun H1 l1 as1 es1 s1 hl10 hl1 ev1 fr1 nd1 le1 me1=>?_⟩
  refine⟨_,rfl,_,rfl,_,rfl,_,rfl,_,rfl,ty,by_,q,sy,T,117,100,N,rfl,pby,psy,y0,y1,pT,cy,bby.mono (by decide),bsy.mono (by decide),bT.mono (by decide),by lia,fun H2 l2 as2 es2 s2 hl20 hl2 ev2 fr2 nd2 le2 me2=>?_⟩
  refine⟨l1,l2,_,_,rfl,rfl,s2 _ _ hl1,hl2,by rw[Y08,Y08,ev1.1,ev2.1]; have:1000<=sizeLine:=(by decide); lia,fun le hle=>?_⟩
  have three:3<=sizeLine:=by decide
  have sE:=Z08 (o:=.lst (as1.map V.ref++as2.map V.ref)) (Z0q.refl H2) hle
  have eE:(upd H2 le (.lst (as1.map V.ref++as2.map V.ref))) le=some (.lst ((as1++as2).map V.ref)):=by rw[Z06,Y0y]
  have hle0:H le=none:=s1.free (s2.free hle)
  revert sE eE
  generalize (upd H2 le (.lst (as1.map V.ref++as2.map V.ref)))=H3
  intro sE eE
  have s03:=s1.trans (s2.trans sE)
  have evE:Z4j H3 (as1++as2) (es1++es2):=(ev1.same (s2.trans sE)).app (ev2.same sE)
  refine⟨_,rfl,_,rfl,_,rfl,_,rfl,_,rfl,tx,bx,p,sx,T,N,rfl,pbx,psx,x0,x1,pT,cx,bbx.mono (by decide),bsx.mono (by decide),bT.mono (by decide),by lia,fun H4 v1 o1 s4 t1 fr1' i1 f1=>?_⟩
  refine⟨_,rfl,_,rfl,_,rfl,_,rfl,_,rfl,_,rfl,ty,by_,q,sy,T,N,rfl,pby,psy,y0,y1,pT,cy,bby.mono (by decide),bsy.mono (by decide),bT.mono (by decide),by lia,fun H5 v2 o2 s5 t2 fr2' i2 f2=>?_⟩
  refine⟨v1,v2,o1,o2,rfl,t1.same s5,t2,fun z=>hne ⟨(i1 z.1).1,(i2 z.2).1⟩,fun ts z=>⟨(f1 ts z).1,by have:=(f1 ts z).2.1; lia⟩,fun ts z=>⟨(f2 ts z).1,by have:=(f2 ts z).2.1; lia⟩,fun H6 lc ts s6 frc hlc ndc lec mec=>?_⟩
  have s36:=s4.trans (s5.trans s6)
  have tm:∀ t,t∈ts↔0<=t/\t<=T/\WsE tx bx p sx t/\WsE ty by_ q sy t:=Z7F hne i1 i2 (fun x z=>(f1 x z).2.2) (fun x z=>(f2 x z).2.2) mec
  have s06:=s03.trans s36
  have nlc:lc≠le:=fun z=>by
   subst z
   rcases frc with z | z | z
   ·have:=fr1' _ z.symm; rw[eE]at this; cases this
   ·have:=fr2' _ z.symm; rw[s4 _ _ eE]at this; cases this
   ·rw[s5 _ _ (s4 _ _ eE)]at z; cases z
  refine⟨lc,rfl,⟨_,SqL.of hlc⟩,?_⟩
  refine Z3N (K:=K) (a:=lc) (xs:=ts.map V.int) (fun i σ H7=>∃ (o15:Option V) (ac:List Addr),σ=[some (.ref a),some (.ref l),some (.int p),some (.int q),some (.int S),some (.int tx),some (.int bx),some (.int ty),some (.int by_),some (.int U),some (.int T),some (.int sx),some (.int sy),some (.ref le),some v1,o15,none,none,none,none,none]/\Z0q H H7/\(∀ b ob,b≠le->H6 b=some ob->H7 b=some ob)/\H7 le=some (.lst ((as1++as2++ac).map V.ref))/\Z4j H7 (as1++as2++ac) (es1++es2++(ts.take i).map fun t=>((t,1,99):EvT))) ?_ ?_ ?_ ?_
  ·exact⟨_,[],rfl,s06,fun _ _ _ z=>z,by rw[Y19]; exact s36 _ _ eE,by rw[Y19,List.take_zero,List.map_nil,Y19]; exact evE.same s36⟩
  ·rintro i σ H7 _ ⟨o15,ac,rfl,s7,b7,h7,e7⟩
   exact SqL.of (b7 _ _ nlc hlc)
  ·rintro i x σ H7 hx ⟨o15,ac,rfl,s7,b7,h7,e7⟩
   rw[Y10]at hx
   cases hti:ts[i]? with
   | none=>rw[hti]at hx; cases hx
   | some t=>
    rw[hti]at hx
    cases hx
    have hil:=(Y04.mp hti).1
    have hal:(as1++as2++ac).length<=900:=by rw[e7.1]; simp; lia
    refine⟨_,rfl,.inl ⟨rfl,_,SqL.of h7⟩,_,rfl,three,fun tt htt=>?_⟩
    have nt:tt≠le:=fun z=>by rw[z,h7]at htt; cases htt
    have ht0:H tt=none:=s7.free htt
    refine⟨le,_,_,rfl,rfl,by rw[Z0i nt.symm]; exact h7,by rw[Y08]; exact Z0A (by lia),?_⟩
    refine⟨_,ac++[tt],rfl,Z08 (Z08 s7 ht0) hle0,fun b ob nb hb=>?_,by rw[Z06,<-Y0l]; simp,?_⟩
    ·rw[Z0i nb,Z0i (fun z=>by rw[z]at hb; rw[b7 _ _ nt hb]at htt; cases htt)]; exact b7 b ob nb hb
    ·rw[Y1i,hti]
     show Z4j _ _ (es1++es2++(ts.take i++[t]).map fun t=>((t,1,99):EvT))
     rw[show (es1++es2++(ts.take i++[t]).map fun t=>((t,1,99):EvT))=(es1++es2++(ts.take i).map fun t=>((t,1,99):EvT))++[((t,1,99):EvT)] by simp,show as1++as2++(ac++[tt])=(as1++as2++ac)++[tt] by simp]
     refine Z4j.snoc e7 (fun a' ha'=>?_) ?_
     ·obtain⟨e,he⟩:=e7.at ha'
      rw[Z0i (fun z=>by rw[z,h7]at he; cases he),Z0i (fun z=>by rw[z,htt]at he; cases he)]
     ·rw[Z0i nt,Z06]; rfl
  rintro σ H7 ⟨o15,ac,rfl,s7,b7,h7,e7⟩
  rw[Y08,List.take_length]at e7
  obtain⟨pa,qa,g1,g2,g3⟩:=id hsh
  refine⟨_,rfl,a,n,r,u,rfl,hsh.same s7,rr,ru,hn,fun H8 ll s8 hll0 hll=>?_⟩
  have s08:=s7.trans s8
  refine fun d hd=>?_
  have s0d:Z0q H8 (upd H8 d (.dK [])):=Z08 (Z0q.refl H8) hd
  refine⟨_,rfl,a,_,0,_,rfl,rfl,SqT.of (s0d _ _ (s08 _ _ g1)),Z09 (j:=0) rfl,?_⟩
  refine⟨_,rfl,a,_,0,_,rfl,rfl,SqT.of (s0d _ _ (s08 _ _ g1)),Z09 (j:=0) rfl,pa,n,r,rfl,.inr (SqT.of (s0d _ _ (s08 _ _ g2))),rr,hn,fun H9 lb1 s9 hlb10 hlb1=>?_⟩
  refine⟨_,rfl,a,_,1,_,rfl,rfl,SqT.of (s9 _ _ (s0d _ _ (s08 _ _ g1))),Z09 (j:=1) rfl,?_⟩
  refine⟨_,rfl,a,_,1,_,rfl,rfl,SqT.of (s9 _ _ (s0d _ _ (s08 _ _ g1))),Z09 (j:=1) rfl,qa,n,u,rfl,.inr (SqT.of (s9 _ _ (s0d _ _ (s08 _ _ g3)))),ru,hn,fun H10 lb2 s10 hlb20 hlb2=>?_⟩
  have hd2:H10 d=some (.dK []):=s10 _ _ (s9 _ _ Z06)
  refine⟨hd2,sts pa lb1 qa lb2,rfl,by show 4<=15; decide,?_⟩
  rw[ZeO]
  have ndd:∀ b ob,H10 b=some ob->b≠d->(upd H10 d (.dK (sts pa lb1 qa lb2))) b=some ob:=fun b ob e nb=>by rw[Z0i nb]; exact e
  have k8:Z0q H8 (upd H10 d (.dK (sts pa lb1 qa lb2))):=fun b ob e=>ndd b ob (s10 _ _ (s9 _ _ (s0d _ _ e))) (fun z=>by rw[z,hd]at e; cases e)
  have kd:(upd H10 d (.dK (sts pa lb1 qa lb2))) d=some (.dK (sts pa lb1 qa lb2)):=Z06
  have kb1:(upd H10 d (.dK (sts pa lb1 qa lb2))) lb1=some (.lst (nv (back r))):=ndd _ _ (s10 _ _ hlb1) (fun z=>by rw[z]at hlb1; rw[s9 _ _ Z06]at hlb1; cases hlb1)
  have kb2:(upd H10 d (.dK (sts pa lb1 qa lb2))) lb2=some (.lst (nv (back u))):=ndd _ _ hlb2 (fun z=>by rw[z,hd2]at hlb2; cases hlb2)
  revert k8 kd kb1 kb2
  generalize (upd H10 d (.dK (sts pa lb1 qa lb2)))=H11
  intro s11 kd kb1 kb2
  have s0:Z0q H H11:=s08.trans s11
  refine⟨_,rfl,l,_,0,_,rfl,rfl,SqT.of (s0 _ _ hl),Z09 (j:=0) rfl,?_⟩
  have ev11:=e7.same (s8.trans s11)
  have h11:=s11 _ _ (s8 _ _ h7)
  have hll1:=s11 _ _ hll
  have gpa:=s0 _ _ g2
  have gqa:=s0 _ _ g3
  clear e7 h7 hll hlb1 hlb2 ndd s0d hd2 hd
  obtain⟨as,hase⟩:∃ as,as=as1++as2++ac:=⟨_,rfl⟩
  obtain⟨es,hese⟩:∃ es,es=es1++es2++ts.map fun t=>((t,1,99):EvT):=⟨_,rfl⟩
  rw[<-hase,<-hese]at ev11
  rw[<-hase]at h11
  have hmap:as.map (Z80 H11)=es:=ev11.map
  have ndE:es.Nodup:=by rw[hese]; exact ZaB nd1 nd2 ndc me1 me2
  have mE:∀ e,e∈es↔LnE tx bx p sx T 114 108 e\/LnE ty by_ q sy T 117 100 e\/(e.2=(1,99)/\0<=e.1/\e.1<=T/\WsE tx bx p sx e.1/\WsE ty by_ q sy e.1):=by rw[hese]; exact Zf2 me1 me2 tm
  refine⟨_,rfl,le,as,Z80 H11,rfl,SqL.of h11,by rw[ev11.1,hese]; simp; lia,fun a' ha'=>?_,fun lo out hlo pm pw=>?_⟩
  ·obtain⟨e,he⟩:=ev11.at ha'; rw[Z6s he]; exact he
  have pL:(out.map (Z80 H11)).Perm es:=by rw[<-hmap]; exact pm.map _
  have hLst:=lst (out.map (Z80 H11)) (Z5v (pL.nodup_iff.mpr ndE) (Y0t.mpr pw)) (fun e=>by rw[pL.mem_iff]; exact mE e)
  have s12:=Z08 (o:=.lst (out.map V.ref)) (Z0q.refl H11) hlo
  have e12:(upd H11 lo (.lst (out.map V.ref))) lo=some (.lst (out.map V.ref)):=Z06
  have evL:∀ a'∈out,H11 a'=some (evO (Z80 H11 a')):=fun a' ha'=>by obtain⟨e,he⟩:=ev11.at (pm.mem_iff.mp ha'); rw[Z6s he]; exact he
  obtain⟨L,hLe⟩:∃ L,L=out.map (Z80 H11):=⟨_,rfl⟩
  rw[<-hLe]at hLst pL
  revert s12 e12
  generalize (upd H11 lo (.lst (out.map V.ref)))=H12
  intro s12 e12
  refine⟨lo,rfl,⟨_,SqL.of e12⟩,?_⟩
  have hrl:=Z2w rr ru
  have inF:∀ s,s < n->(s∈Z0y n (Z0w r u)↔nx (Z0w r u) s≠s):=fun s hs=>by
   rw[(Z2d hrl).mem_iff]
   unfold Z5i
   rw[Y0r,Y06]
   simp[hs]
  refine Z3N (K:=K) (a:=lo) (xs:=out.map V.ref) (fun i σ H13=>∃ (o15 o19 o20:Option V) (si:Nat),σ=[some (.ref a),some (.ref l),some (.int p),some (.int q),some (.int S),some (.int tx),some (.int bx),some (.int ty),some (.int by_),some (.int U),some (.int T),some (.int sx),some (.int sy),some (.ref le),some v1,o15,some (.ref ll),some (.ref d),some (.int (si:Int)),o19,o20]/\Z0q H12 H13/\si < n/\Z2p r u (Z0y n (Z0w r u)) (L.drop i) si=Z2p r u (Z0y n (Z0w r u)) L sq) ⟨_,_,_,sq,rfl,Z0q.refl _,hsq,by rw[List.drop_zero]⟩ ?_ ?_ ?_
  ·rintro i σ H13 _ ⟨o15,o19,o20,si,rfl,s13,_⟩
   exact SqL.of (s13 _ _ e12)
  ·rintro i x σ H13 hx ⟨o15,o19,o20,si,rfl,s13,hsi,hpr⟩
   rw[Y10]at hx
   cases hoi:out[i]? with
   | none=>rw[hoi]at hx; cases hx
   | some a'=>
    rw[hoi]at hx
    cases hx
    have ha':=evL a' (Y0d hoi)
    have hLi:L[i]?=some (Z80 H11 a'):=by rw[hLe,Y10,hoi]; rfl
    have hPE:=(hLst.2 _).mp (Y0d hLi)
    rw[Z4g hLi]at hpr
    clear hLi
    revert hPE hpr ha'
    generalize Z80 H11 a'=e
    intro hpr ha' hPE
    obtain⟨et,ek,ec⟩:=e
    have s1213:=s12.trans s13
    refine⟨a',_,rfl,SqT.of (s1213 _ _ ha'),rfl,_,_,rfl,_,_,rfl,_,_,rfl,rfl,?_⟩
    refine⟨_,rfl,rfl,_,rfl,?_⟩
    rw[Zf8]
    by_cases hk:ek=1
    ·rw[decide_eq_true (show ((ek:Nat):Int)=1 by lia)]
     refine Z1u ?_
     refine⟨_,rfl,_,rfl,ll,_,_,_,rfl,rfl,SqL.of (s1213 _ _ hll1),Z09 (Z0J (hrl.get hsi)),_,rfl,rfl,_,rfl,?_⟩
     rw[Zf8]
     have hpr1:(if si∈Z0y n (Z0w r u) then Res.corner si et else Z2p r u (Z0y n (Z0w r u)) (L.drop (i+1)) si)=Z2p r u (Z0y n (Z0w r u)) L sq:=by
      rw[<-hpr]
      show _=(if ek=1 then (if si∈Z0y n (Z0w r u) then Res.corner si et else Z2p r u (Z0y n (Z0w r u)) (L.drop (i+1)) si) else _)
      rw[if_pos hk]
     by_cases hF:nx (Z0w r u) si=si
     ·rw[decide_eq_true (show ((nx (Z0w r u) si:Nat):Int)=(si:Int) by rw[hF])]
      refine Z0Z ?_
      exact⟨_,_,_,si,rfl,s13,hsi,by rw[<-hpr1,if_neg (fun z=>(inF si hsi).mp z hF)]⟩
     ·rw[decide_eq_false (show ¬ ((nx (Z0w r u) si:Nat):Int)=(si:Int) by lia)]
      refine Z1u ?_
      refine⟨_,rfl,_,rfl,ll,n,si,Z0w r u,rfl,s1213 _ _ hll1,hrl,hn,hsi,fun H14 lr M s14 hM cM=>?_⟩
      refine⟨lr,M.map (fun (x:Nat)=>(x:Int)),rfl,SqL.of (by rw[List.map_map]; exact hM),(by intro z; have:=cM.1; rw[List.map_eq_nil_iff.mp z]at this; exact absurd this (by decide)),fun m hm hle=>?_⟩
      refine⟨_,rfl,_,rfl,three,fun t ht=>?_⟩
      rw[if_pos ((inF si hsi).mpr hF)]at hpr1
      obtain⟨v,hv⟩:=Z9W hrl hsi
      refine k2 _ t si et v L (Z08 (s0.trans (s1213.trans s14)) (s0.free ((s1213.trans s14).free ht))) hLst hpr1.symm hv ?_
      rw[Z06,Z6F hrl hsi hv cM hm hle]
    ·rw[decide_eq_false (show ¬ ((ek:Nat):Int)=1 by lia)]
     refine Z0Z ?_
     have hpr1:Z2p r u (Z0y n (Z0w r u)) (L.drop (i+1)) (mvE r u si ec)=Z2p r u (Z0y n (Z0w r u)) L sq:=by
      rw[<-hpr]
      show _=(if ek=1 then _ else Z2p r u (Z0y n (Z0w r u)) (L.drop (i+1)) (mvE r u si ec))
      rw[if_neg hk]
     have kd13:=s1213 _ _ kd
     have fin:∃ (row:List Nat) (pr:Addr),Z7T H13 d (.str (ch1 ec)) (some (.ref pr))/\Z3j K H13 pr row/\Row n row/\nx row si=mvE r u si ec:=by
      have hE:(ek,ec)=(0,114)\/(ek,ec)=(0,117)\/(ek,ec)=(2,108)\/(ek,ec)=(2,100)\/(ek,ec)=(1,99):=by
       rcases hPE with h | h | h | h | h
       ·exact .inl h.1
       ·exact .inr (.inl h.1)
       ·exact .inr (.inr (.inl h.1))
       ·exact .inr (.inr (.inr (.inl h.1)))
       ·exact .inr (.inr (.inr (.inr h.1)))
      have dg:∀ (k:Str) (v:V),Z3P (sts pa lb1 qa lb2) (Sum.inr k:Key)=some v->Z7T H13 d (.str k) (some v):=fun k v e=>by
       have q:=Z7T.k (k:=(Sum.inr k:Key)) kd13
       rw[e]at q; exact q
      rcases hE with h | h | h | h | h
      ·injection h with _ h; subst h
       exact⟨r,pa,dg _ _ (by with_unfolding_all rfl),.inr (SqT.of (s1213 _ _ gpa)),rr,rfl⟩
      ·injection h with _ h; subst h
       exact⟨u,qa,dg _ _ (by with_unfolding_all rfl),.inr (SqT.of (s1213 _ _ gqa)),ru,rfl⟩
      ·injection h with _ h; subst h
       exact⟨back r,lb1,dg _ _ (by with_unfolding_all rfl),.inl (SqL.of (s1213 _ _ kb1)),rr.back,rfl⟩
      ·injection h with _ h; subst h
       exact⟨back u,lb2,dg _ _ (by with_unfolding_all rfl),.inl (SqL.of (s1213 _ _ kb2)),ru.back,rfl⟩
      ·injection h with h _; exact absurd h hk
     obtain⟨row,pr,hdg,hra,hrw,hnx⟩:=fin
     refine⟨_,rfl,_,rfl,d,_,rfl,hdg,_,rfl,Z6p hra hrw hsi ?_⟩
     exact⟨_,_,_,nx row si,rfl,s13,hrw.nlt hsi,by rw[hnx]; exact hpr1⟩
  ·rintro σ H13 ⟨o15,o19,o20,si,rfl,s13,hsi,hpr⟩
   rw[Y08,show out.length=L.length by rw[hLe,Y08],List.drop_length]at hpr
   refine⟨_,rfl,_,rfl,three,fun t ht=>?_⟩
   have s1213:=s12.trans s13
   exact k1 _ t si L (Z08 (s0.trans s1213) (s0.free (s1213.free ht))) hLst hpr.symm Z06
end
abbrev Z4O:Stmt:=Z6D Zcu 0
theorem Zg2:¬ (("top":Str)="bottom"):=by decide +kernel
def ZbW (t b:Int):List (Str×V):=Z5o "bottom" (.int b) (Z5o "top" (.int t) [])
theorem Z2z (t b:Int):(ZbW t b).lookup ("top":Str)=some (.int t):=by
 unfold ZbW
 rw[Z1f,if_neg Zg2,Z1f,if_pos rfl]
theorem Z1q (t b:Int):(ZbW t b).lookup ("bottom":Str)=some (.int b):=by
 unfold ZbW
 rw[Z1f,if_pos rfl]
theorem Z8Z (t b:Int){m:Str}(h1:¬ m="bottom")(h2:¬ m="top"):(ZbW t b).lookup m=none:=by
 unfold ZbW
 rw[Z1f,if_neg h1,Z1f,if_neg h2]
 all_goals rfl
def Z4u (C:Addr)(H:Hp)(p:Addr)(t b:Int):Prop:=∃ dx,H p=some (.ins C dx (ZbW t b))
theorem Z4u.same {C p:Addr}{H H':Hp}{t b:Int}(h:Z4u C H p t b)(s:Z0q H H'):Z4u C H' p t b:=let ⟨dx,e⟩:=h; ⟨dx,s _ _ e⟩
structure PTx (K:Y00)(mg:Str->Option Value)(C:Addr):Prop where
 cl:Cls K C
 nT:Z3G K C "top"
 nB:Z3G K C "bottom"
 mgC:mg "Part"=some (.ref C)
 kt:Y20 K (.ref C) (.ref C)=some true
 ha:Y0u K (.ref C) "__class__"=some (some (.builtin "object.__class__"))
 hn:PySem.W.specialIn K (.builtin "object.__class__") "__get__"=some (some (.builtin "getset_descriptor.__get__"))
 htk:PySem.W.takesIn K (.builtin "object.__class__")=some true
 hm:PySem.W.mroIn K C (.type "object")=some true
theorem Zax {i B:Int}(hB:0 < B):Z0C i B / Z0o i B=i / B:=by
 have e1:=Z1w i B
 have e2:=Z0V i B
 have hd:=Z3A (t:=i) hB
 generalize Z0C i B=z at *; generalize Z0o i B=u at *; generalize dv i B=p at *
 have e3:i / B=z / u:=by rw[<-e1,<-e2,Int.mul_comm z p,Int.mul_comm u p,Int.mul_ediv_mul_of_pos _ _ hd]
 rw[e3]
end K1
namespace L2
open PySem PySem.Spec PyProof.Rows
variable {X:Cx}
theorem Zfx {x y z:V}{us:List Value}(r:Z13 [x,y,z] us):∃ u v w,us=[u,v,w]/\Z17 x u/\Z17 y v/\Z17 z w:=by
 cases r with
 | cons a r=>cases r with
  | cons b r=>cases r with
   | cons c r=>cases r; exact⟨_,_,_,rfl,a,b,c⟩
theorem Z8S (hc:X.calm=true):Z2F X (.builtin "min") (fun xs H Q=>∃ i j k:Int,xs=[.int i,.int j,.int k]/\Q (.int (min (min i j) k)) H):=by
 intro pins s σ H xs us Q I r h
 obtain⟨i,j,k,rfl,q⟩:=h
 obtain⟨u,v,w',rfl,⟨t,rfl⟩,⟨t',rfl⟩,⟨t'',rfl⟩⟩:=Zfx r
 refine min_three_ints (I.ok.hd hc) fun h' tk kk=>⟨.int (min (min i j) k),H,I.kept kk,?_,q⟩
 by_cases h1:j < i
 ·by_cases h2:k < j
  ·rw[if_pos h1,if_pos h2]; exact⟨_,by rw[show min (min i j) k=k by omega]⟩
  ·rw[if_pos h1,if_neg h2]; exact⟨_,by rw[show min (min i j) k=j by omega]⟩
 ·by_cases h2:k < i
  ·rw[if_neg h1,if_pos h2]; exact⟨_,by rw[show min (min i j) k=k by omega]⟩
  ·rw[if_neg h1,if_neg h2]; exact⟨_,by rw[show min (min i j) k=i by omega]⟩
end L2
namespace K1
open PySem L2 Sq
def mx1 (p:Int):Int:=((max p.natAbs 1:Nat):Int)
theorem Zb9 (p:Int):(if (1:Int) > (if p < 0 then -p else p) then 1 else (if p < 0 then -p else p))=mx1 p:=by
 unfold mx1
 by_cases h:p < 0
 ·rw[if_pos h]; split <;> lia
 ·rw[if_neg h]; split <;> lia
theorem Z2Q (p:Int):1<=mx1 p:=by unfold mx1; lia
theorem Z8k {p:Int}(h:p.natAbs<=60):mx1 p<=60:=by unfold mx1; lia
theorem Z57 {p:Int}(h:p≠0):p∣mx1 p:=by
 have e:mx1 p=(p.natAbs:Int):=by unfold mx1; lia
 rw[e]; exact Int.dvd_natAbs.mpr (Int.dvd_refl p)
def unU (bx by_ p q:Int):Int:=bx * by_ * mx1 p * mx1 q
theorem Z4t {bx by_ p q:Int}(x0:0 < bx)(y0:0 < by_)(n:¬ (p=0/\q=0)):WOk p q (unU bx by_ p q) where
 u:=Int.mul_pos (Int.mul_pos (Int.mul_pos x0 y0) (by have:=Z2Q p; lia)) (by have:=Z2Q q; lia)
 n:=n
 p:=fun h=>Int.dvd_mul_of_dvd_left (Int.dvd_mul_of_dvd_right (Z57 h))
 q:=fun h=>Int.dvd_mul_of_dvd_right (Z57 h)
def P3 (C:Addr)(H:Hp)(l:Addr)(sq:Nat)(tx bx ty by_:Int):Prop:=∃ px py,H l=some (.tup [.int (sq:Int),.ref px,.ref py])/\Z4u C H px tx bx/\Z4u C H py ty by_
def ZeU (C:Addr):Sp:=fun vs H Q _=>∃ (l:Addr) (sq:Nat) (tx bx ty by_ p q:Int),vs=[.ref l,.int p,.int q]/\P3 C H l sq tx bx ty by_/\Bt 60 bx/\Bt 60 by_/\p.natAbs<=60/\q.natAbs<=60/\Q (.int (unU bx by_ p q)) H
section
variable {P:Program}{w:World}{K:Y00}{mg:Str->Option Value}{base:Heap}
abbrev Zgn:List Str:=["place","p","q"]
theorem Zd6:Z0k Zgn ["place","p","q"] (Z0a Z3Z):=⟨rfl,rfl,rfl,by decide +kernel,rfl,by decide +kernel,by decide +kernel⟩
theorem Zdm {f:Addr}{fd:FuncData}{C:Addr}(T:PTx K mg C)(T_abs:mg "abs"=none)(T_max:mg "max"=none)(F:Fn K mg "unit_of" Z3Z ["place","p","q"] f fd):Z0x P w K mg base CX0 1 f fd ["place","p","q"] (ZeU C):=by
 refine F.F.ok Zd6 (fun vs H Q E h=>?_) (fun cdv A outer s H vs Q E hr h=>?_)
 ·obtain⟨l,sq,tx,bx,ty,by_,p,q,rfl,_⟩:=h; rfl
 ·obtain⟨l,sq,tx,bx,ty,by_,p,q,rfl,⟨px,py,h1,⟨dx,h2⟩,⟨dy,h3⟩⟩,hx,hy,hp,hq,k⟩:=h
  refine⟨_,(Z07 (Z0l (Z0c Z1Q (Z0c Z1Q (Z0c Z1Q (Z1A (Z0j Z0f (pv 0) Z04 (fun _ _=>rfl)) rfl) (Z1A (Z0j Z0f (pv 0) Z04 (fun _ _=>rfl)) rfl)) (Z0e (Z20 rfl) rfl T_max Z2B (Z00 (Z0e Z0O rfl T_abs Z0P (Z00 (pv 1) Z05)) (Z00 Z04 Z05)))) (Z0e (Z20 rfl) rfl T_max Z2B (Z00 (Z0e Z0O rfl T_abs Z0P (Z00 (pv 2) Z05)) (Z00 Z04 Z05)))))),?_⟩
  have e60:(2:Nat) ^ 60=1152921504606846976:=by decide
  have hx':bx.natAbs < 1152921504606846976:=hx
  have hmp:=Z2Q p
  have hmq:=Z2Q q
  have lp:=Z8k hp
  have lq:=Z8k hq
  refine⟨_,rfl,l,_,1,_,rfl,rfl,SqT.of h1,Z09 (j:=1) rfl,px,C,dx,_,_,rfl,h2,T.cl,T.nB,Z1q _ _,_,rfl,l,_,2,_,rfl,rfl,SqT.of h1,Z09 (j:=2) rfl,py,C,dy,_,_,rfl,h3,T.cl,T.nB,Z1q _ _,?_⟩
  refine⟨_,_,rfl,rfl,.inl ⟨by lia,by lia⟩,_,rfl,_,rfl,_,_,rfl,?_⟩
  rw[Zb9]
  refine⟨_,_,rfl,rfl,.inr ⟨by lia,by lia⟩,_,rfl,_,rfl,_,_,rfl,?_⟩
  rw[Zb9]
  exact⟨_,_,rfl,rfl,.inr ⟨by lia,by lia⟩,k⟩
end
theorem Zc1 {b:Int}(h0:0 < b)(h1:b < 1000000000000):Bt 60 b:=by
 show b.natAbs < 2 ^ 60
 have:(2:Nat) ^ 60=1152921504606846976:=by decide
 omega
theorem Z3Y {i B:Int}:Z0C i B * B=i * Z0o i B:=by
 have a:=Z1w i B
 have b:=Z0V i B
 generalize Z0C i B=z at *
 generalize Z0o i B=u at *
 generalize dv i B=d at *
 rw[<-a,<-b]
 rw[Int.mul_assoc z d u,Int.mul_comm u d]
def S3 (H:Hp)(l:Addr)(sq:Nat)(x y:Int):Prop:=H l=some (.tup [.int (sq:Int),.int x,.int y])
def atC (kvs:List (Key×V))(sq:Nat)(x y:Int):Bool:=decide (x=0) && (decide (y=0) && (Z3P kvs (ik sq)).isSome)
def Z9H:Sp:=fun vs H Q _=>∃ (l d:Addr) (kvs:List (Key×V)) (sq:Nat) (x y:Int),vs=[.ref l,.ref d]/\S3 H l sq x y/\H d=some (.dK kvs)/\Q (.bl (atC kvs sq x y)) H
theorem Z5n (x:Int):decide (V.int x=V.int 0)=decide (x=0):=by
 rw[decide_eq_decide]; exact⟨fun z=>V.int.inj z,fun z=>by rw[z]⟩
section
variable {P:Program}{w:World}{K:Y00}{mg:Str->Option Value}{base:Heap}
abbrev ZfQ:List Str:=["spot","rough"]
theorem Zdc:Z0k ZfQ ["spot","rough"] (Z0a Z1O):=⟨rfl,rfl,rfl,by decide +kernel,rfl,by decide +kernel,by decide +kernel⟩
theorem ZcR {f:Addr}{fd:FuncData}(F:Fn K mg "is_at_corner" Z1O ["spot","rough"] f fd):Z0x P w K mg base CX0 1 f fd ["spot","rough"] Z9H:=by
 refine F.F.ok Zdc (fun vs H Q E h=>?_) (fun cdv A outer s H vs Q E hr h=>?_)
 ·obtain⟨l,d,kvs,sq,x,y,rfl,_⟩:=h; rfl
 ·obtain⟨l,d,kvs,sq,x,y,rfl,h1,h2,k⟩:=h
  have hu:=Z9G hr
  refine⟨_,(Z07 (Z0l (Z4F (Z1B Z1k (Z0j Z0f (pv 0) Z04 (fun _ _=>rfl)) Z04 (Z0m _)) (Z4F (Z1B Z1k (Z0j Z0f (pv 0) Z04 (fun _ _=>rfl)) Z04 (Z0m _)) (Z4S (Ze9 (Ze0 hu (Z0j Z0f (pv 0) Z04 (fun _ _=>rfl)) (pv 1)))))))),?_⟩
  refine⟨_,rfl,l,_,1,_,rfl,rfl,SqT.of h1,Z09 (j:=1) rfl,rfl,_,rfl,?_⟩
  unfold atC at k
  rw[Z5n]
  cases hx:decide (x=0) with
  | false=>rw[hx]at k; exact Z0Z k
  | true=>
   rw[hx,Bool.true_and]at k
   refine Z1u ?_
   refine⟨_,rfl,l,_,2,_,rfl,rfl,SqT.of h1,Z09 (j:=2) rfl,rfl,_,rfl,?_⟩
   rw[Z5n]
   cases hy:decide (y=0) with
   | false=>rw[hy]at k; exact Z0Z k
   | true=>
    rw[hy,Bool.true_and]at k
    refine Z1u ?_
    exact⟨_,rfl,l,_,0,_,rfl,rfl,SqT.of h1,Z09 (j:=0) rfl,_,rfl,d,_,rfl,Z7T.k (k:=ik sq) h2,k⟩
end
def Zd4:Sp:=fun vs H Q _=>∃ (l bk b0 b1:Addr) (n sq:Nat) (x y p q U:Int) (r u:List Nat),vs=[.ref l,.int p,.int q,.ref bk,.int U]/\S3 H l sq x y/\H bk=some (.tup [.ref b0,.ref b1])/\H b0=some (.tup (nv (back r)))/\H b1=some (.tup (nv (back u)))/\Row n r/\Row n u/\sq < n/\
 ∀ (H':Hp) (t:Addr),Z0q H H'->S3 H' t (Z1S r u (lo p x 0++lo q y 1) sq) (ou p U x) (ou q U y)->Q (.ref t) H'
section
variable {P:Program}{w:World}{K:Y00}{mg:Str->Option Value}{base:Heap}
abbrev ZfK:List Str:=["spot","p","q","back","unit","square","x","y"]
theorem Z3y:Z0k ZfK ["spot","p","q","back","unit"] (Z0a Z4e):=⟨rfl,rfl,rfl,by decide +kernel,rfl,by decide +kernel,by decide +kernel⟩
theorem Zdy {f:Addr}{fd:FuncData}(F:Fn K mg "set_out" Z4e ["spot","p","q","back","unit"] f fd):Z0x P w K mg base CX0 1 f fd ["spot","p","q","back","unit"] Zd4:=by
 refine F.F.ok Z3y (fun vs H Q E h=>?_) (fun cdv A outer s H vs Q E hr h=>?_)
 ·obtain⟨l,bk,b0,b1,n,sq,x,y,p,q,U,r,u,rfl,_⟩:=h; rfl
 ·obtain⟨l,bk,b0,b1,n,sq,x,y,p,q,U,r,u,rfl,h1,hb,h2,h3,rr,ru,hs,k⟩:=h
  refine⟨_,(Z03 (Z0d (i:=5) Z3y.nd rfl (Or.inl rfl) (Z0j Z0f (pv 0) Z04 (fun _ _=>rfl)))
   (Z03 (Z0d (i:=6) Z3y.nd rfl (Or.inl rfl) (Z0j Z0f (pv 0) Z04 (fun _ _=>rfl)))
   (Z03 (Z0d (i:=7) Z3y.nd rfl (Or.inl rfl) (Z0j Z0f (pv 0) Z04 (fun _ _=>rfl)))
   (Z03 (Z0T (PW.pt (Z2n (Z0h Z3a (pv 1) Z04 (Z0m _)) (Z1Z (Z0h Z1k (pv 6) Z04 (Z0m _))))) (Z03 (Z0d (i:=5) Z3y.nd rfl (Or.inl rfl) (Z0j Z0f (Z0j Z0f (pv 3) Z04 (fun _ _=>rfl)) (pv 5) (fun _ _=>rfl)))
   (Z07 (Z0d (i:=6) Z3y.nd rfl (Or.inl rfl) (pv 4)))) Z0t)
   (Z03 (Z0T (PW.pt (Z2n (Z0h Z3a (pv 2) Z04 (Z0m _)) (Z1Z (Z0h Z1k (pv 7) Z04 (Z0m _))))) (Z03 (Z0d (i:=5) Z3y.nd rfl (Or.inl rfl) (Z0j Z0f (Z0j Z0f (pv 3) Z04 (fun _ _=>rfl)) (pv 5) (fun _ _=>rfl)))
   (Z07 (Z0d (i:=7) Z3y.nd rfl (Or.inl rfl) (pv 4)))) Z0t)
   (Z07 (Z0l (Z0S (Z00 (pv 5) (Z00 (pv 6) (Z00 (pv 7) Z05))))))))))),?_⟩
  refine⟨_,rfl,l,_,0,_,rfl,rfl,SqT.of h1,Z09 (j:=0) rfl,_,rfl,l,_,1,_,rfl,rfl,SqT.of h1,Z09 (j:=1) rfl,_,rfl,l,_,2,_,rfl,rfl,SqT.of h1,Z09 (j:=2) rfl,?_⟩
  rw[Z1W,Z8r,Z7u]at k
  have hs':(if p < 0/\x=0 then nx (back r) sq else sq) < n:=by
   split
   ·exact rr.back.nlt hs
   ·exact hs
  unfold ou at k
  have fin:∀ (sq':Nat) (x':Int),sq' < n->(∀ (H':Hp) (t:Addr),Z0q H H'->S3 H' t (if q < 0/\y=0 then nx (back u) sq' else sq') x' (if q < 0/\y=0 then U else y)->Q (.ref t) H')->
    Zag (Zfa (tAnd (Z6B (tOp (rI0 fun i j=>V.bl (decide (i < j))) (Z12 2) (tC (.int 0)))) (Z6B (tOp rEq (Z12 7) (tC (.int 0))))) (Zag (Zaf (tOp (Z59 K) (tOp (Z59 K) (Z12 3) (tC (.int 1))) (Z12 5)) (Z2o 5)) (Zaf (Z12 4) (Z2o 7))) ZaC) (Zal (Z9B (Z0U (Z12 5) (Z0U (Z12 6) (Z0U (Z12 7) Z4E))))) { nx:=fun _ H'=>Q .non H',rt:=Q } [some (.ref l),some (.int p),some (.int q),some (.ref bk),some (.int U),some (.int (sq':Int)),some (.int x'),some (.int y)] H:=fun sq' x' hs2 k2=>by
   refine⟨_,rfl,_,_,rfl,rfl,_,rfl,?_⟩
   have done:∀ (s3:Nat) (y':Int),(∀ (H':Hp) (t:Addr),Z0q H H'->S3 H' t s3 x' y'->Q (.ref t) H')->Zal (Z9B (Z0U (Z12 5) (Z0U (Z12 6) (Z0U (Z12 7) Z4E)))) { nx:=fun _ H'=>Q .non H',rt:=Q } [some (.ref l),some (.int p),some (.int q),some (.ref bk),some (.int U),some (.int (s3:Int)),some (.int x'),some (.int y')] H:=fun s3 y' k3=>⟨_,rfl,_,rfl,_,rfl,by show 3<=sizeLine; decide,fun t ht=>k3 _ t (Z08 (Z0q.refl H) ht) Z06⟩
   by_cases hq:q < 0
   ·rw[decide_eq_true hq]
    refine Z1u ?_
    refine⟨_,rfl,rfl,_,rfl,?_⟩
    rw[Z5n]
    by_cases hy:y=0
    ·rw[decide_eq_true hy]
     refine Z1u ?_
     rw[if_pos ⟨hq,hy⟩,if_pos ⟨hq,hy⟩]at k2
     refine⟨_,rfl,bk,_,1,_,rfl,rfl,SqT.of hb,Z09 (j:=1) rfl,_,rfl,b1,_,_,_,rfl,rfl,SqT.of h3,Z09 (Z0J (ru.back.get hs2)),_,rfl,?_⟩
     exact done _ _ k2
    ·rw[decide_eq_false hy]
     refine Z0Z ?_
     rw[if_neg (fun z=>hy z.2),if_neg (fun z=>hy z.2)]at k2
     exact done _ _ k2
   ·rw[decide_eq_false hq]
    refine Z0Z ?_
    refine Z0Z ?_
    rw[if_neg (fun z=>hq z.1),if_neg (fun z=>hq z.1)]at k2
    exact done _ _ k2
  refine⟨_,rfl,_,_,rfl,rfl,_,rfl,?_⟩
  by_cases hp:p < 0
  ·rw[decide_eq_true hp]
   refine Z1u ?_
   refine⟨_,rfl,rfl,_,rfl,?_⟩
   rw[Z5n]
   by_cases hx:x=0
   ·rw[decide_eq_true hx]
    refine Z1u ?_
    have hpx:p < 0/\x=0:=⟨hp,hx⟩
    rw[if_pos hpx]at hs'
    rw[if_pos hpx,if_pos hpx]at k
    refine⟨_,rfl,bk,_,0,_,rfl,rfl,SqT.of hb,Z09 (j:=0) rfl,_,rfl,b0,_,_,_,rfl,rfl,SqT.of h2,Z09 (Z0J (rr.back.get hs)),_,rfl,?_⟩
    exact fin _ _ hs' k
   ·rw[decide_eq_false hx]
    refine Z0Z ?_
    have hpx:¬ (p < 0/\x=0):=fun z=>hx z.2
    rw[if_neg hpx,if_neg hpx]at k
    exact fin _ _ hs k
  ·rw[decide_eq_false hp]
   refine Z0Z ?_
   refine Z0Z ?_
   have hpx:¬ (p < 0/\x=0):=fun z=>hp z.1
   rw[if_neg hpx,if_neg hpx]at k
   exact fin _ _ hs k
end
def ZeJ:Sp:=fun vs H Q _=>∃ (l a:Addr) (n sq:Nat) (x y U:Int) (r u:List Nat),vs=[.ref l,.ref a,.int U]/\S3 H l sq x y/\Z5p H a r u/\Row n r/\Row n u/\sq < n/\
 ∀ (H':Hp) (t:Addr),Z0q H H'->S3 H' t (Z1S r u (li U x 2++li U y 3) sq) (z0 U x) (z0 U y)->Q (.ref t) H'
theorem Z9t (x y:Int):decide (V.int x=V.int y)=decide (x=y):=by
 rw[decide_eq_decide]; exact⟨fun z=>V.int.inj z,fun z=>by rw[z]⟩
section
variable {P:Program}{w:World}{K:Y00}{mg:Str->Option Value}{base:Heap}
abbrev ZfS:List Str:=["spot","sheet","unit","square","x","y"]
theorem Z3w:Z0k ZfS ["spot","sheet","unit"] (Z0a Z3b):=⟨rfl,rfl,rfl,by decide +kernel,rfl,by decide +kernel,by decide +kernel⟩
theorem ZdR {f:Addr}{fd:FuncData}(F:Fn K mg "arrived" Z3b ["spot","sheet","unit"] f fd):Z0x P w K mg base CX0 1 f fd ["spot","sheet","unit"] ZeJ:=by
 refine F.F.ok Z3w (fun vs H Q E h=>?_) (fun cdv A outer s H vs Q E hr h=>?_)
 ·obtain⟨l,a,n,sq,x,y,U,r,u,rfl,_⟩:=h; rfl
 ·obtain⟨l,a,n,sq,x,y,U,r,u,rfl,h1,⟨a0,a1,hb,h2,h3⟩,rr,ru,hs,k⟩:=h
  refine⟨_,(Z03 (Z0d (i:=3) Z3w.nd rfl (Or.inl rfl) (Z0j Z0f (pv 0) Z04 (fun _ _=>rfl)))
   (Z03 (Z0d (i:=4) Z3w.nd rfl (Or.inl rfl) (Z0j Z0f (pv 0) Z04 (fun _ _=>rfl)))
   (Z03 (Z0d (i:=5) Z3w.nd rfl (Or.inl rfl) (Z0j Z0f (pv 0) Z04 (fun _ _=>rfl)))
   (Z03 (Z0T (Z0h Z1k (pv 4) (pv 2) (Z0m _)) (Z03 (Z0d (i:=3) Z3w.nd rfl (Or.inl rfl) (Z0j Z0f (Z0j Z0f (pv 1) Z04 (fun _ _=>rfl)) (pv 3) (fun _ _=>rfl)))
   (Z07 (Z0d (i:=4) Z3w.nd rfl (Or.inl rfl) Z04))) Z0t)
   (Z03 (Z0T (Z0h Z1k (pv 5) (pv 2) (Z0m _)) (Z03 (Z0d (i:=3) Z3w.nd rfl (Or.inl rfl) (Z0j Z0f (Z0j Z0f (pv 1) Z04 (fun _ _=>rfl)) (pv 3) (fun _ _=>rfl)))
   (Z07 (Z0d (i:=5) Z3w.nd rfl (Or.inl rfl) Z04))) Z0t)
   (Z07 (Z0l (Z0S (Z00 (pv 3) (Z00 (pv 4) (Z00 (pv 5) Z05))))))))))),?_⟩
  refine⟨_,rfl,l,_,0,_,rfl,rfl,SqT.of h1,Z09 (j:=0) rfl,_,rfl,l,_,1,_,rfl,rfl,SqT.of h1,Z09 (j:=1) rfl,_,rfl,l,_,2,_,rfl,rfl,SqT.of h1,Z09 (j:=2) rfl,?_⟩
  rw[Z1W,Z9y,Z6Y]at k
  unfold z0 at k
  have fin:∀ (sq':Nat) (x':Int),sq' < n->(∀ (H':Hp) (t:Addr),Z0q H H'->S3 H' t (if y=U then nx u sq' else sq') x' (if y=U then 0 else y)->Q (.ref t) H')->
    Zag (Zfa (Z6B (tOp rEq (Z12 5) (Z12 2))) (Zag (Zaf (tOp (Z59 K) (tOp (Z59 K) (Z12 1) (tC (.int 1))) (Z12 3)) (Z2o 3)) (Zaf (tC (.int 0)) (Z2o 5))) ZaC) (Zal (Z9B (Z0U (Z12 3) (Z0U (Z12 4) (Z0U (Z12 5) Z4E))))) { nx:=fun _ H'=>Q .non H',rt:=Q } [some (.ref l),some (.ref a),some (.int U),some (.int (sq':Int)),some (.int x'),some (.int y)] H:=fun sq' x' hs2 k2=>by
   have done:∀ (s3:Nat) (y':Int),(∀ (H':Hp) (t:Addr),Z0q H H'->S3 H' t s3 x' y'->Q (.ref t) H')->Zal (Z9B (Z0U (Z12 3) (Z0U (Z12 4) (Z0U (Z12 5) Z4E)))) { nx:=fun _ H'=>Q .non H',rt:=Q } [some (.ref l),some (.ref a),some (.int U),some (.int (s3:Int)),some (.int x'),some (.int y')] H:=fun s3 y' k3=>⟨_,rfl,_,rfl,_,rfl,by show 3<=sizeLine; decide,fun t ht=>k3 _ t (Z08 (Z0q.refl H) ht) Z06⟩
   refine⟨_,rfl,_,rfl,rfl,_,rfl,?_⟩
   rw[Z9t]
   by_cases hy:y=U
   ·rw[decide_eq_true hy]
    refine Z1u ?_
    rw[if_pos hy,if_pos hy]at k2
    refine⟨_,rfl,a,_,1,_,rfl,rfl,SqT.of hb,Z09 (j:=1) rfl,_,rfl,a1,_,_,_,rfl,rfl,SqT.of h3,Z09 (Z0J (ru.get hs2)),?_⟩
    exact done _ _ k2
   ·rw[decide_eq_false hy]
    refine Z0Z ?_
    rw[if_neg hy,if_neg hy]at k2
    exact done _ _ k2
  refine⟨_,rfl,_,rfl,rfl,_,rfl,?_⟩
  rw[Z9t]
  by_cases hx:x=U
  ·rw[decide_eq_true hx]
   refine Z1u ?_
   rw[if_pos hx,if_pos hx]at k
   refine⟨_,rfl,a,_,0,_,rfl,rfl,SqT.of hb,Z09 (j:=0) rfl,_,rfl,a0,_,_,_,rfl,rfl,SqT.of h2,Z09 (Z0J (rr.get hs)),?_⟩
   exact fin _ _ (rr.nlt hs) k
  ·rw[decide_eq_false hx]
   refine Z0Z ?_
   rw[if_neg hx,if_neg hx]at k
   exact fin _ _ hs k
end
def Zew (C:Addr):Sp:=fun vs H Q _=>∃ (p:Addr) (t b U:Int),vs=[.ref p,.int U]/\Z4u C H p t b/\0 < b/\Bt 60 b/\Bt 60 t/\Bt 1000 (U / b)/\Q (.int (t * (U / b))) H
section
variable {P:Program}{w:World}{K:Y00}{mg:Str->Option Value}{base:Heap}
abbrev ZfL:List Str:=["part","unit"]
theorem ZcU:Z0k ZfL ["part","unit"] (Z0a Z32):=⟨rfl,rfl,rfl,by decide +kernel,rfl,by decide +kernel,by decide +kernel⟩
theorem Zd2 {f:Addr}{fd:FuncData}{C:Addr}(T:PTx K mg C)(F:Fn K mg "in_units" Z32 ["part","unit"] f fd):Z0x P w K mg base CX0 1 f fd ["part","unit"] (Zew C):=by
 refine F.F.ok ZcU (fun vs H Q E h=>?_) (fun cdv A outer s H vs Q E hr h=>?_)
 ·obtain⟨p,t,b,U,rfl,_⟩:=h; rfl
 ·obtain⟨p,t,b,U,rfl,⟨dx,h1⟩,b0,hb,ht,hU,k⟩:=h
  refine⟨_,(Z07 (Z0l (Z0c Z0E (Z1A (pv 0) rfl) (Z0c Z1E (pv 1) (Z1A (pv 0) rfl))))),?_⟩
  refine⟨_,rfl,p,C,dx,_,_,rfl,h1,T.cl,T.nT,Z2z _ _,_,rfl,_,rfl,p,C,dx,_,_,rfl,h1,T.cl,T.nB,Z1q _ _,_,_,rfl,rfl,⟨by omega,hb.mono (by decide)⟩,?_⟩
  dsimp only
  rw[Int.fdiv_eq_ediv_of_nonneg _ (by omega)]
  exact⟨_,_,rfl,rfl,⟨ht.mono (by decide),hU.mono (by decide)⟩,k⟩
end
def Zen:Sp:=fun vs H Q _=>∃ (a s U:Int),vs=[.int a,.int s,.int U]/\s.natAbs<=60/\Q (.int (sid U a s)) H
section
variable {P:Program}{w:World}{K:Y00}{mg:Str->Option Value}{base:Heap}
abbrev Zfs:List Str:=["at","speed","unit"]
theorem ZdG:Z0k Zfs ["at","speed","unit"] (Z0a Z1y):=⟨rfl,rfl,rfl,by decide +kernel,rfl,by decide +kernel,by decide +kernel⟩
theorem Zdi {f:Addr}{fd:FuncData}(F:Fn K mg "ticks_to_side" Z1y ["at","speed","unit"] f fd):Z0x P w K mg base CX0 1 f fd ["at","speed","unit"] Zen:=by
 refine F.F.ok ZdG (fun vs H Q E h=>?_) (fun cdv A outer s H vs Q E hr h=>?_)
 ·obtain⟨a,s',U,rfl,_⟩:=h; rfl
 ·obtain⟨a,s',U,rfl,hs,k⟩:=h
  refine⟨_,(Z03 (Z0T (Z0h Z53 (pv 1) Z04 (Z0m _)) (Z07 (Z0l (Z0c Z16 (Z0c Z24 (pv 2) (pv 0)) (pv 1)))) Z0t)
   (Z03 (Z0T (Z0h Z3a (pv 1) Z04 (Z0m _)) (Z07 (Z0l (Z0c Z16 (pv 0) (Z6n Z4k (pv 1))))) Z0t)
   (Z07 (Z0l (pv 2))))),?_⟩
  unfold sid at k
  refine⟨_,rfl,_,_,rfl,rfl,_,rfl,?_⟩
  by_cases h1:0 < s'
  ·rw[if_pos h1]at k
   rw[decide_eq_true h1]
   refine Z1u ?_
   exact⟨_,rfl,_,rfl,_,_,rfl,rfl,_,rfl,_,_,rfl,rfl,⟨h1,by omega⟩,k⟩
  ·rw[if_neg h1]at k
   rw[decide_eq_false h1]
   refine Z0Z ?_
   refine⟨_,rfl,_,_,rfl,rfl,_,rfl,?_⟩
   by_cases h2:s' < 0
   ·rw[if_pos h2]at k
    rw[decide_eq_true h2]
    refine Z1u ?_
    exact⟨_,rfl,_,rfl,_,rfl,_,_,rfl,rfl,⟨by omega,by omega⟩,k⟩
   ·rw[if_neg h2]at k
    rw[decide_eq_false h2]
    refine Z0Z ?_
    exact⟨_,rfl,k⟩
end
def Z2L (C CN:Addr):Sp:=fun vs H Q E=>∃ (p dx:Addr) (t b:Int),vs=[.ref p,.int t,.int b]/\H p=some (.ins C dx [])/\Bt 4000 b/\(b=0->E (.ref CN) none H)/\
 (b≠0->∀ H':Hp,(∀ x,x≠p->H' x=H x)->Z4u C H' p (Z0C t b) (Z0o t b)->Q .non H')
theorem Zdz {C CN:Addr}{H:Hp}{t b:Int}{Q:VK}{E:XK}(hb:b≠0)(hB:Bt 4000 b)(k:∀ (H':Hp) (x:Addr),Z0q H H'->H x=none->Z4u C H' x (Z0C t b) (Z0o t b)->Q (.ref x) H')(x dx:Addr)(nx:H x=none)(ndx:H dx=none)(ne:dx≠x) :
  Z2L C CN [.ref x,.int t,.int b] (upd (upd H dx (.own x)) x (.ins C dx [])) (fun v H2=>v=.non/\Q (.ref x) H2) E:=by
 refine⟨x,dx,t,b,rfl,Z06,hB,fun e=>absurd e hb,fun _ H' s P=>⟨rfl,k H' x (fun c o e=>?_) nx P⟩⟩
 rw[s c (Z0s e nx),Z0i (Z0s e nx),Z0i (Z0s e ndx)]
 exact e
theorem Z3p {C CN x dx:Addr}{H:Hp}{t b:Int}{R:VK}{E:XK}(hb:b≠0)(hB:Bt 4000 b)(nx:H x=none)(ndx:H dx=none)(k:∀ H':Hp,Z0q H H'->Z4u C H' x (Z0C t b) (Z0o t b)->R .non H') :
  Z2L C CN [.ref x,.int t,.int b] (upd (upd H dx (.own x)) x (.ins C dx [])) R E:=by
 refine⟨x,dx,t,b,rfl,Z06,hB,fun e=>absurd e hb,fun _ H' s P=>k H' (fun c o e=>?_) P⟩
 rw[s c (Z0s e nx),Z0i (Z0s e nx),Z0i (Z0s e ndx)]
 exact e
section
variable {P:Program}{w:World}{K:Y00}{mg:Str->Option Value}{base:Heap}
abbrev nPi:List Str:=["self","top","bottom","divisor"]
theorem Zfp:Z0k nPi ["self","top","bottom"] (Z0a Z4O):=⟨rfl,rfl,rfl,by decide +kernel,rfl,by decide +kernel,by decide +kernel⟩
theorem ZbU {f fg C CN:Addr}{fd fdg:FuncData}{dV:Value}(T:PTx K mg C)(hC:Z3c K CN)(hN:mg "NoNumber"=some (.ref CN))(F:Zf1 K "__init__" "Part.__init__" Z4O dV f fd)
  (FG:Fn K mg "common_divisor" Z11 ["one","other"] fg fdg) (GG:Z0x P w K mg base CX0 1 fg fdg ["one","other"] Zfj):Z0x P w K mg base (CX1 P w) 2 f fd ["self","top","bottom"] (Z2L C CN):=by
 refine F.ok1 Zfp (fun vs H Q E h=>?_) (fun cdv A outer s H vs Q E hr h=>?_)
 ·obtain⟨p,dx,t,b,rfl,_⟩:=h; rfl
 ·obtain⟨p,dx,t,b,rfl,hp,hB,k1,k2⟩:=h
  refine⟨_,Z03 (Z0T (Z0h Z1k (pv 2) Z04 (Z0m _)) (Z07 (Z3T rfl hC rfl hN Z79 (Z00 Z1c Z05))) Z0t)
   (Z03 (Z0d (i:=3) Zfp.nd rfl (Or.inl rfl) (Z0b GG hr rfl FG.m FG.F.kp FG.b .nil Z0r (Z00 (pv 1) (Z00 (pv 2) Z05))))
   (Z03 (Z0T (Z0h Z3a (pv 2) Z04 (Z0m _)) (Z07 (Z0d (i:=3) Zfp.nd rfl (Or.inl rfl) (Z6n Z4k (pv 3)))) Z0t)
   (Z03 (Zb6 (pv 0) (Z0c Z1E (pv 1) (pv 3)) rfl)
   (Z07 (Zb6 (pv 0) (Z0c Z1E (pv 2) (pv 3)) rfl))))),?_⟩
  refine⟨_,rfl,rfl,_,rfl,?_⟩
  refine Z5m (fun h=>?_) (fun h=>?_)
  ·have:b=0:=by simpa using h
   exact⟨by show 1<=sizeLine; decide,k1 this⟩
  ·have hb:b≠0:=by simpa using h
   refine⟨_,rfl,_,rfl,t,b,rfl,?_⟩
   have hd:Bt 4000 (dv t b):=hB.le (by
    have e:=Z0V t b
    have:=Z0G (t:=t) hb
    have:(dv t b).natAbs<=(Z0o t b * dv t b).natAbs:=by rw[Int.mul_comm]; exact Z3n (by omega)
    rwa [e]at this)
   have rest:∀ d:Int,d=dv t b->ZfI K (Z12 0) (tOp (rI (fun _ j=>j≠0/\Bt 4000 j) fun i j=>.int (i.fdiv j)) (Z12 1) (Z12 3)) "top"
     { nx:=fun σ H'=>ZfI K (Z12 0) (tOp (rI (fun _ j=>j≠0/\Bt 4000 j) fun i j=>.int (i.fdiv j)) (Z12 2) (Z12 3)) "bottom" { nx:=fun _ H'=>Q .non H',rt:=Q } σ H',rt:=Q } [some (.ref p),some (.int t),some (.int b),some (.int d)] H:=by
    rintro d rfl
    refine⟨_,rfl,_,rfl,_,_,rfl,rfl,⟨Z9u hb,hd⟩,_,rfl,p,C,dx,[],rfl,hp,T.cl,T.nT,(by show 0 < 1000; decide),?_⟩
    refine⟨_,rfl,_,rfl,_,_,rfl,rfl,⟨Z9u hb,hd⟩,_,rfl,p,C,dx,_,rfl,Z06,T.cl,T.nB,(by show 1 < 1000; decide),?_⟩
    exact k2 hb _ (fun x hx=>by rw[Z0i hx,Z0i hx]) ⟨dx,Z06⟩
   refine⟨_,rfl,_,_,rfl,rfl,_,rfl,?_⟩
   refine Z5m (fun h2=>?_) (fun h2=>?_)
   ·have h2:b < 0:=by simpa using h2
    refine⟨_,rfl,_,rfl,?_⟩
    exact rest _ (by unfold dv; rw[if_pos h2])
   ·have h2:¬ b < 0:=by simpa using h2
    exact rest _ (by unfold dv; rw[if_neg h2])
end
theorem Z9n {bx by_ p q:Int}(x0:0 < bx):unU bx by_ p q / bx=by_ * mx1 p * mx1 q:=by
 have e:unU bx by_ p q=bx * (by_ * mx1 p * mx1 q):=by unfold unU; simp only[Int.mul_assoc]
 rw[e,Int.mul_ediv_cancel_left _ (by lia)]
theorem Z8d {bx by_ p q:Int}(y0:0 < by_):unU bx by_ p q / by_=bx * mx1 p * mx1 q:=by
 have e:unU bx by_ p q=by_ * (bx * mx1 p * mx1 q):=by unfold unU; simp only[<-Int.mul_assoc]; rw[Int.mul_comm by_ bx]
 rw[e,Int.mul_ediv_cancel_left _ (by lia)]
theorem ZaG {p:Int}(h:p.natAbs<=60):Bt 6 (mx1 p):=by
 have:=Z8k h; have:=Z2Q p
 show (mx1 p).natAbs < 2 ^ 6
 have:(2:Nat) ^ 6=64:=by decide
 lia
theorem Z8X {bx by_ p q:Int}(hx:Bt 60 bx)(hy:Bt 60 by_)(hp:p.natAbs<=60)(hq:q.natAbs<=60):Bt 200 (unU bx by_ p q):=Bt.mono (((hx.mul hy).mul (ZaG hp)).mul (ZaG hq)) (by decide)
def uX (tx bx by_ p q:Int):Int:=tx * (unU bx by_ p q / bx)
def uY (ty bx by_ p q:Int):Int:=ty * (unU bx by_ p q / by_)
theorem Zf6 {tx bx ty by_ p q M:Int}(x0:0<=tx)(x1:tx < bx)(y0:0<=ty)(y1:ty < by_)(hM:0<=M):WIn p q (unU bx by_ p q) M ⟨uX tx bx by_ p q,uY ty bx by_ p q,0,[]⟩:=by
 have hp:=Z2Q p
 have hq:=Z2Q q
 have pb:0 < bx:=by lia
 have py:0 < by_:=by lia
 have gx:0 < by_ * mx1 p * mx1 q:=Int.mul_pos (Int.mul_pos py (by lia)) (by lia)
 have gy:0 < bx * mx1 p * mx1 q:=Int.mul_pos (Int.mul_pos pb (by lia)) (by lia)
 have ex:unU bx by_ p q=bx * (by_ * mx1 p * mx1 q):=by unfold unU; simp only[Int.mul_assoc]
 have ey:unU bx by_ p q=by_ * (bx * mx1 p * mx1 q):=by unfold unU; simp only[<-Int.mul_assoc]; rw[Int.mul_comm by_ bx]
 refine⟨?_,?_,?_,?_,Int.le_refl _,hM,fun h=>?_,fun h=>?_⟩
 ·show 0<=uX tx bx by_ p q
  unfold uX; rw[Z9n pb]; exact Int.mul_nonneg x0 (by lia)
 ·show uX tx bx by_ p q < _
  unfold uX; rw[Z9n pb,ex]; exact Int.mul_lt_mul_of_pos_right x1 gx
 ·show 0<=uY ty bx by_ p q
  unfold uY; rw[Z8d py]; exact Int.mul_nonneg y0 (by lia)
 ·show uY ty bx by_ p q < _
  unfold uY; rw[Z8d py,ey]; exact Int.mul_lt_mul_of_pos_right y1 gy
 ·show p∣uX tx bx by_ p q
  unfold uX; rw[Z9n pb]
  exact Int.dvd_mul_of_dvd_right (Int.dvd_mul_of_dvd_left (Int.dvd_mul_of_dvd_right (Z57 h)))
 ·show q∣uY ty bx by_ p q
  unfold uY; rw[Z8d py]
  exact Int.dvd_mul_of_dvd_right (Int.dvd_mul_of_dvd_right (Z57 h))
def crn (F:List Nat)(s:Nat)(x y:Int):Bool:=decide (x=0) && (decide (y=0) && decide (s∈F))
theorem Z89 {kvs:List (Key×V)}{F:List Nat}(h:kvs.map (·.1)=F.map ik)(s:Nat)(x y:Int):atC kvs s x y=crn F s x y:=by
 unfold atC crn
 have e:(Z3P kvs (ik s)).isSome=decide (s∈F):=by
  by_cases hs:s∈F
  ·rw[decide_eq_true hs,<-Z35,List.any_eq_true]
   have:ik s∈kvs.map (·.1):=by rw[h]; exact Y0f.mpr ⟨s,hs,rfl⟩
   obtain⟨kv,hkv,e⟩:=Y0f.mp this
   exact⟨kv,hkv,decide_eq_true e⟩
  ·rw[decide_eq_false hs,Z7x h hs]; rfl
 rw[e]
abbrev W5 (tx bx ty by_ p q S:Int):Nat->WS:=ws p q (unU bx by_ p q) (S * unU bx by_ p q) (uX tx bx by_ p q) (uY ty bx by_ p q)
def ZbG (r u F:List Nat)(sq:Nat)(M:Int)(W:Nat->WS)(i:Nat):Prop:=∀ j,j < i->crn F (Z1S r u (W j).w sq) (W j).x (W j).y=false/\(W j).t < M
def End5 (C:Addr)(n sq:Nat)(r u:List Nat)(tx bx ty by_ p q S:Int)(H:Hp)(Q:VK):Prop:=
 (∀ (H':Hp) (t l':Addr) (i:Nat),Z0q H H'->ZbG r u (Z0y n (Z0w r u)) sq (S * unU bx by_ p q) (W5 tx bx ty by_ p q S) i->(W5 tx bx ty by_ p q S i).t=S * unU bx by_ p q->crn (Z0y n (Z0w r u)) (Z1S r u (W5 tx bx ty by_ p q S i).w sq) (W5 tx bx ty by_ p q S i).x (W5 tx bx ty by_ p q S i).y=false->
  H' t=some (.tup [.str (Str.ofString "there"),.ref l'])->P3 C H' l' (Z1S r u (W5 tx bx ty by_ p q S i).w sq) (Z0C (W5 tx bx ty by_ p q S i).x (unU bx by_ p q)) (Z0o (W5 tx bx ty by_ p q S i).x (unU bx by_ p q)) (Z0C (W5 tx bx ty by_ p q S i).y (unU bx by_ p q)) (Z0o (W5 tx bx ty by_ p q S i).y (unU bx by_ p q))->Q (.ref t) H')/\
 (∀ (H':Hp) (t pt:Addr) (i:Nat) (v:V),Z0q H H'->ZbG r u (Z0y n (Z0w r u)) sq (S * unU bx by_ p q) (W5 tx bx ty by_ p q S) i->crn (Z0y n (Z0w r u)) (Z1S r u (W5 tx bx ty by_ p q S i).w sq) (W5 tx bx ty by_ p q S i).x (W5 tx bx ty by_ p q S i).y=true->
  H' t=some (.tup [.str (Str.ofString "corner"),v,.ref pt])->Z1C n (Z0w r u) (Z1S r u (W5 tx bx ty by_ p q S i).w sq) v->Z4u C H' pt (Z0C (W5 tx bx ty by_ p q S i).t (unU bx by_ p q)) (Z0o (W5 tx bx ty by_ p q S i).t (unU bx by_ p q))->Q (.ref t) H')
def ZdW (C:Addr):Sp:=fun vs H Q _=>∃ (a l:Addr) (n sq:Nat) (r u:List Nat) (tx bx ty by_ p q S:Int),vs=[.ref a,.ref l,.int p,.int q,.int S]/\Z5p H a r u/\Row n r/\Row n u/\n<=36/\P3 C H l sq tx bx ty by_/\sq < n/\0<=tx/\tx < bx/\0<=ty/\ty < by_/\Bt 60 bx/\Bt 60 by_/\p.natAbs<=60/\q.natAbs<=60/\¬ (p=0/\q=0)/\0<=S/\S<=1000000/\End5 C n sq r u tx bx ty by_ p q S H Q
def muM (M:Int)(j:Nat)(σ:St):Nat:=match σ[j]? with
 | some (some (.int k))=>(M - k).toNat
 | _=>0
section
variable {P:Program}{w:World}{K:Y00}{mg:Str->Option Value}{base:Heap}
abbrev Zfi:List Str:=["sheet","place","p","q","steps","unit","rough","back","spot","ticks","room"]
theorem Z2J:Z0k Zfi ["sheet","place","p","q","steps"] (Z0a Z46):=⟨rfl,rfl,rfl,by decide +kernel,rfl,by decide +kernel,by decide +kernel⟩
set_option maxHeartbeats 1000000 in
theorem ZcO {f fu fr fb fn fc fs ft fa:Addr}{fd du dr db dn dc ds dt da:FuncData}{C CN fi:Addr}{di:FuncData}(TB:Bi mg)(T:PTx K mg C)(T_min:mg "min"=none)(M:Mk K C fi)(bI:Z2s K di ["self","top","bottom"] [])(GI:Z0x P w K mg base (CX1 P w) 2 fi di ["self","top","bottom"] (Z2L C CN))(F:Fn K mg "walked" Z46 ["sheet","place","p","q","steps"] f fd)(FU:Fn K mg "unit_of" Z3Z ["place","p","q"] fu du)(GU:Z0x P w K mg base CX0 1 fu du ["place","p","q"] (ZeU C))
  (FR:Fn K mg "rough_squares" Z1m ["sheet"] fr dr) (GR:Z0x P w K mg base CX0 7 fr dr ["sheet"] Z9i)
  (FB:Fn K mg "back_row" Z2D ["row"] fb db) (GB:Z0x P w K mg base CX0 1 fb db ["row"] Z4p)
  (FN:Fn K mg "in_units" Z32 ["part","unit"] fn dn) (GN:Z0x P w K mg base CX0 1 fn dn ["part","unit"] (Zew C))
  (FC:Fn K mg "is_at_corner" Z1O ["spot","rough"] fc dc) (GC:Z0x P w K mg base CX0 1 fc dc ["spot","rough"] Z9H)
  (FS:Fn K mg "set_out" Z4e ["spot","p","q","back","unit"] fs ds) (GS:Z0x P w K mg base CX0 1 fs ds ["spot","p","q","back","unit"] Zd4)
  (FT:Fn K mg "ticks_to_side" Z1y ["at","speed","unit"] ft dt) (GT:Z0x P w K mg base CX0 1 ft dt ["at","speed","unit"] Zen)
  (FA:Fn K mg "arrived" Z3b ["spot","sheet","unit"] fa da) (GA:Z0x P w K mg base CX0 1 fa da ["spot","sheet","unit"] ZeJ):Z0x P w K mg base CX0 8 f fd ["sheet","place","p","q","steps"] (ZdW C):=by
 refine F.F.ok Z2J (fun vs H Q E h=>?_) (fun cdv A outer s H vs Q E hr h=>?_)
 ·obtain⟨a,l,n,sq,r,u,tx,bx,ty,by_,p,q,S,rfl,_⟩:=h; rfl
 ·obtain⟨a,l,n,sq,r,u,tx,bx,ty,by_,p,q,S,rfl,hsh,rr,ru,hn,hl,hs,x0,x1,y0,y1,hbx,hby,hp,hq,hne,S0,S1,k1,k2⟩:=h
  have hr3:Z1g 3 _:=hr.mono (by decide)
  have hu:=Z9G hr
  have hr1:Z1g 1 _:=hr.mono (by decide)
  have hr7:Z1g 7 _:=hr.mono (by decide)
  refine⟨_,(Z03 (Z0d (i:=5) Z2J.nd rfl (Or.inl rfl) (Z0b GU hr1 rfl FU.m FU.F.kp FU.b .nil Z0r (Z00 (pv 1) (Z00 (pv 2) (Z00 (pv 3) Z05)))))
   (Z03 (Z0d (i:=6) Z2J.nd rfl (Or.inl rfl) (Z0b GR hr7 rfl FR.m FR.F.kp FR.b .nil Z0r (Z00 (pv 0) Z05)))
   (Z03 (Z0d (i:=7) Z2J.nd rfl (Or.inl rfl) (Z0S (Z00 (Z0b GB hr1 rfl FB.m FB.F.kp FB.b .nil Z0r (Z00 (Z0j Z0f (pv 0) Z04 (fun _ _=>rfl)) Z05)) (Z00 (Z0b GB hr1 rfl FB.m FB.F.kp FB.b .nil Z0r (Z00 (Z0j Z0f (pv 0) Z04 (fun _ _=>rfl)) Z05)) Z05))))
   (Z03 (Z0d (i:=8) Z2J.nd rfl (Or.inl rfl) (Z0S (Z00 (Z0j Z0f (pv 1) Z04 (fun _ _=>rfl)) (Z00 (Z0b GN hr1 rfl FN.m FN.F.kp FN.b .nil Z0r (Z00 (Z0j Z0f (pv 1) Z04 (fun _ _=>rfl)) (Z00 (pv 5) Z05))) (Z00 (Z0b GN hr1 rfl FN.m FN.F.kp FN.b .nil Z0r (Z00 (Z0j Z0f (pv 1) Z04 (fun _ _=>rfl)) (Z00 (pv 5) Z05))) Z05)))))
   (Z03 (Z0d (i:=9) Z2J.nd rfl (Or.inl rfl) Z04)
   (Z03 (Z1v PassesOwn.never (PW.pt (Z2n (Z0h Z3a (pv 9) (Z0c Z1Q (pv 4) (pv 5)) (Z0m _)) (Z1Z (Z2K (Z1D (Z0b GC hr1 rfl FC.m FC.F.kp FC.b .nil Z0r (Z00 (pv 8) (Z00 (pv 6) Z05)))))))) (Z03 (Z0d (i:=8) Z2J.nd rfl (Or.inl rfl) (Z0b GS hr1 rfl FS.m FS.F.kp FS.b .nil Z0r (Z00 (pv 8) (Z00 (pv 2) (Z00 (pv 3) (Z00 (pv 7) (Z00 (pv 5) Z05)))))))
   (Z03 (Z0d (i:=10) Z2J.nd rfl (Or.inl rfl) (Z0e (Z8S rfl) rfl T_min Z5e (Z00 (Z0b GT hr1 rfl FT.m FT.F.kp FT.b .nil Z0r (Z00 (Z0j Z0f (pv 8) Z04 (fun _ _=>rfl)) (Z00 (pv 2) (Z00 (pv 5) Z05)))) (Z00 (Z0b GT hr1 rfl FT.m FT.F.kp FT.b .nil Z0r (Z00 (Z0j Z0f (pv 8) Z04 (fun _ _=>rfl)) (Z00 (pv 3) (Z00 (pv 5) Z05)))) (Z00 (Z0c Z24 (Z0c Z1Q (pv 4) (pv 5)) (pv 9)) Z05)))))
   (Z03 (Z0d (i:=8) Z2J.nd rfl (Or.inl rfl) (Z0b GA hr1 rfl FA.m FA.F.kp FA.b .nil Z0r (Z00 (Z0S (Z00 (Z0j Z0f (pv 8) Z04 (fun _ _=>rfl)) (Z00 (Z0c Z0I (Z0j Z0f (pv 8) Z04 (fun _ _=>rfl)) (Z0c Z1Q (pv 2) (pv 10))) (Z00 (Z0c Z0I (Z0j Z0f (pv 8) Z04 (fun _ _=>rfl)) (Z0c Z1Q (pv 3) (pv 10))) Z05)))) (Z00 (pv 0) (Z00 (pv 5) Z05)))))
   (Z07 (ZaR (i:=9) Z2J.nd rfl (Or.inl rfl) (pv 10) ZaV))))))
   (Z03 (Z0T (Z1D (Z0b GC hr1 rfl FC.m FC.F.kp FC.b .nil Z0r (Z00 (pv 8) (Z00 (pv 6) Z05)))) (Z07 (Z0l (Z0S (Z00 Z1c (Z00 (Z8j hu (pv 6) (Z0j Z0f (pv 8) Z04 (fun _ _=>rfl)) (fun _ _=>rfl)) (Z00 (Z2S M GI hr3 rfl T.mgC bI .nil Z3d (Z00 (pv 9) (Z00 (pv 5) Z05))) Z05)))))) Z0t)
   (Z07 (Z0l (Z0S (Z00 Z1c (Z00 (Z0S (Z00 (Z0j Z0f (pv 8) Z04 (fun _ _=>rfl)) (Z00 (Z2S M GI hr3 rfl T.mgC bI .nil Z3d (Z00 (Z0j Z0f (pv 8) Z04 (fun _ _=>rfl)) (Z00 (pv 5) Z05))) (Z00 (Z2S M GI hr3 rfl T.mgC bI .nil Z3d (Z00 (Z0j Z0f (pv 8) Z04 (fun _ _=>rfl)) (Z00 (pv 5) Z05))) Z05)))) Z05)))))))))))),?_⟩
  have three:3<=sizeLine:=by decide
  have pbx:0 < bx:=by lia
  have pby:0 < by_:=by lia
  have o:=Z4t (p:=p) (q:=q) pbx pby hne
  have hUb:=Z8X hbx hby hp hq
  have btx:Bt 60 tx:=by have:bx.natAbs < 2 ^ 60:=hbx; show tx.natAbs < 2 ^ 60; lia
  have bty:Bt 60 ty:=by have:by_.natAbs < 2 ^ 60:=hby; show ty.natAbs < 2 ^ 60; lia
  have hM:0<=S * unU bx by_ p q:=Int.mul_nonneg S0 (by have:=o.u; lia)
  have in0:=Zf6 (p:=p) (q:=q) x0 x1 y0 y1 hM
  have wsin:=Z9s o in0
  have dv:∀ b:Int,0 < b->Bt 1000 (unU bx by_ p q / b):=fun b hb=>by
   have e1:=Int.ediv_nonneg (show 0<=unU bx by_ p q by have:=o.u; lia) (show 0<=b by lia)
   have e2:=Int.ediv_le_self b (show 0<=unU bx by_ p q by have:=o.u; lia)
   have:(unU bx by_ p q).natAbs < 2 ^ 200:=hUb
   exact Bt.mono (n:=200) (by show (unU bx by_ p q / b).natAbs < 2 ^ 200; lia) (by decide)
  refine⟨_,rfl,_,rfl,_,rfl,l,sq,tx,bx,ty,by_,p,q,rfl,hl,hbx,hby,hp,hq,?_⟩
  obtain⟨px,py,hl1,hl2,hl3⟩:=id hl
  generalize hUe:unU bx by_ p q=U at *
  refine⟨_,rfl,a,n,r,u,rfl,hsh,rr,ru,hn,fun H1 d kvs s1 hd0 hd hk hlv=>?_⟩
  obtain⟨a0,a1,ha,ha0,ha1⟩:=id (hsh.same s1)
  refine⟨_,rfl,a,_,0,_,rfl,rfl,SqT.of ha,Z09 (j:=0) rfl,a0,n,r,rfl,ha0,rr,hn,fun H2 b0 s2 hb0=>?_⟩
  refine⟨_,rfl,a,_,1,_,rfl,rfl,SqT.of (s2 _ _ ha),Z09 (j:=1) rfl,a1,n,u,rfl,s2 _ _ ha1,ru,hn,fun H3 b1 s3 hb1=>?_⟩
  refine⟨by show 2<=sizeLine; lia,fun bk hbk=>?_⟩
  have s4:=Z08 (o:=.tup [.ref b0,.ref b1]) (Z0q.refl H3) hbk
  have g4:(upd H3 bk (.tup [.ref b0,.ref b1])) bk=some (.tup [.ref b0,.ref b1]):=Z06
  generalize upd H3 bk (.tup [.ref b0,.ref b1])=H4 at s4 g4
  have sA:Z0q H H4:=s1.trans (s2.trans (s3.trans s4))
  have hd4:=s4 _ _ (s3 _ _ (s2 _ _ hd))
  refine⟨_,rfl,l,_,0,_,rfl,rfl,SqT.of (sA _ _ hl1),Z09 (j:=0) rfl,?_⟩
  refine⟨_,rfl,l,_,1,_,rfl,rfl,SqT.of (sA _ _ hl1),Z09 (j:=1) rfl,_,rfl,px,tx,bx,U,rfl,hl2.same sA,pbx,hbx,btx,dv bx pbx,?_⟩
  refine⟨_,rfl,l,_,2,_,rfl,rfl,SqT.of (sA _ _ hl1),Z09 (j:=2) rfl,_,rfl,py,ty,by_,U,rfl,hl3.same sA,pby,hby,bty,dv by_ pby,?_⟩
  refine⟨three,fun sp hsp=>?_⟩
  have s5:=Z08 (o:=.tup [.int (sq:Int),.int (tx * (U / bx)),.int (ty * (U / by_))]) (Z0q.refl H4) hsp
  have g5:S3 (upd H4 sp (.tup [.int (sq:Int),.int (tx * (U / bx)),.int (ty * (U / by_))])) sp sq (tx * (U / bx)) (ty * (U / by_)):=Z06
  generalize upd H4 sp (.tup [.int (sq:Int),.int (tx * (U / bx)),.int (ty * (U / by_))])=H5 at s5 g5
  have W0:W5 tx bx ty by_ p q S=ws p q U (S * U) (tx * (U / bx)) (ty * (U / by_)):=by
   subst hUe; rfl
  have wsin:∀ i,(∀ j,j < i->(W5 tx bx ty by_ p q S j).t < S * U)->WIn p q U (S * U) (W5 tx bx ty by_ p q S i):=by
   subst hUe; exact wsin
  have Wn:∀ i,W5 tx bx ty by_ p q S (i+1)=stp p q U (S * U) (W5 tx bx ty by_ p q S i):=fun i=>by subst hUe; rfl
  have g5:S3 H5 sp (Z1S r u (W5 tx bx ty by_ p q S 0).w sq) (W5 tx bx ty by_ p q S 0).x (W5 tx bx ty by_ p q S 0).y:=by rw[W0]; exact g5
  have t0:(W5 tx bx ty by_ p q S 0).t=0:=by rw[W0]; rfl
  clear W0 in0
  generalize W5 tx bx ty by_ p q S=W at *
  generalize hFe:Z0y n (Z0w r u)=F at *
  generalize hMe:S * U=MM at *
  refine Z2b (fun σ H6=>∃ (i:Nat) (sp:Addr) (o10:Option V),σ=[some (.ref a),some (.ref l),some (.int p),some (.int q),some (.int S),some (.int U),some (.ref d),some (.ref bk),some (.ref sp),some (.int (W i).t),o10]/\Z0q H4 H6/\S3 H6 sp (Z1S r u (W i).w sq) (W i).x (W i).y/\ZbG r u F sq MM W i) (fun σ _=>muM MM 9 σ) ?_ ?_ ?_
  ·exact⟨0,sp,_,by rw[t0]; rfl,s5,g5,fun j hj=>absurd hj (Y1n _)⟩
  ·rintro σ H6 ⟨i,sp,o10,rfl,s6,g6,fr⟩
   have wi:=wsin i fun j hj=>(fr j hj).2
   have hsq:=Z3l rr ru (W i).w hs
   have fin:∀ H7,Z0q H6 H7->(MM<=(W i).t\/crn F (Z1S r u (W i).w sq) (W i).x (W i).y=true)->Zag (Zfa (tB (Z9J Z9H [] E0 (Z0U (Z12 8) (Z0U (Z12 6) Z4E)))) (Zal (Z9B (Z0U (tC (.str (Str.ofString "corner"))) (Z0U (Ze6 (Z12 6) (tOp (Z59 K) (Z12 8) (tC (.int 0)))) (Z0U (Zao C (Z2L C CN) [] E0 (Z0U (Z12 9) (Z0U (Z12 5) Z4E))) Z4E))))) ZaC)
     (Zal (Z9B (Z0U (tC (.str (Str.ofString "there"))) (Z0U (Z9B (Z0U (tOp (Z59 K) (Z12 8) (tC (.int 0))) (Z0U (Zao C (Z2L C CN) [] E0 (Z0U (tOp (Z59 K) (Z12 8) (tC (.int 1))) (Z0U (Z12 5) Z4E))) (Z0U (Zao C (Z2L C CN) [] E0 (Z0U (tOp (Z59 K) (Z12 8) (tC (.int 2))) (Z0U (Z12 5) Z4E))) Z4E)))) Z4E)))) { nx:=fun _ H'=>Q .non H',rt:=Q } [some (.ref a),some (.ref l),some (.int p),some (.int q),some (.int S),some (.int U),some (.ref d),some (.ref bk),some (.ref sp),some (.int (W i).t),o10] H7:=by
    intro H7 s7 hend
    have g7:=s7 _ _ g6
    have hd7:=s7 _ _ (s6 _ _ hd4)
    have sH:=sA.trans (s6.trans s7)
    refine⟨_,rfl,_,rfl,sp,d,kvs,_,_,_,rfl,g7,hd7,_,rfl,?_⟩
    rw[Z89 hk]
    cases hc:crn F (Z1S r u (W i).w sq) (W i).x (W i).y with
    | true=>
     refine Z1u ?_
     obtain⟨v,hv⟩:∃ v,Z3P kvs (ik (Z1S r u (W i).w sq))=some v:=by
      have:=(Z89 hk (Z1S r u (W i).w sq) (W i).x (W i).y).trans hc
      unfold atC at this
      rw[Bool.and_eq_true,Bool.and_eq_true]at this
      exact Option.isSome_iff_exists.mp this.2.2
     have lv:Z1C n (Z0w r u) (Z1S r u (W i).w sq) v:=by
      obtain⟨kv,h1,h2,h3⟩:=Za1 hv
      rw[<-h3]; exact hlv kv h1 _ h2
     have dg:Z7T H7 d (.int ((Z1S r u (W i).w sq:Nat):Int)) (some v):=by rw[<-hv]; exact Z7T.k (k:=ik (Z1S r u (W i).w sq)) hd7
     refine⟨_,rfl,_,rfl,sp,_,0,_,rfl,rfl,SqT.of g7,Z09 (j:=0) rfl,d,v,rfl,dg,_,rfl,_,rfl,?_⟩
     intro x dx nx ndx ne
     refine Z3p (by have:=o.u; lia) (hUb.mono (by decide)) nx ndx fun H8 s8 p8=>⟨rfl,?_⟩
     refine⟨three,fun t ht=>?_⟩
     have s9:=Z08 (o:=.tup [.str (Str.ofString "corner"),v,.ref x]) (Z0q.refl H8) ht
     exact k2 _ t x i v (sH.trans (s8.trans s9)) fr hc Z06 lv (p8.same s9)
    | false=>
     refine Z0Z ?_
     have ht:(W i).t=MM:=by
      rcases hend with h | h
      ·have:=wi.t1; lia
      ·rw[hc]at h; cases h
     refine⟨_,rfl,sp,_,0,_,rfl,rfl,SqT.of g7,Z09 (j:=0) rfl,?_⟩
     refine⟨_,rfl,sp,_,1,_,rfl,rfl,SqT.of g7,Z09 (j:=1) rfl,_,rfl,?_⟩
     intro x dx nx ndx ne
     refine Z3p (by have:=o.u; lia) (hUb.mono (by decide)) nx ndx fun H8 s8 p8=>⟨rfl,?_⟩
     refine⟨_,rfl,sp,_,2,_,rfl,rfl,SqT.of (s8 _ _ g7),Z09 (j:=2) rfl,_,rfl,?_⟩
     intro x' dx' nx' ndx' ne'
     refine Z3p (by have:=o.u; lia) (hUb.mono (by decide)) nx' ndx' fun H9 s9 p9=>⟨rfl,?_⟩
     refine⟨three,fun l' hl'=>?_⟩
     have s10:=Z08 (o:=.tup [.int ((Z1S r u (W i).w sq:Nat):Int),.ref x,.ref x']) (Z0q.refl H9) hl'
     have g10:(upd H9 l' (.tup [.int ((Z1S r u (W i).w sq:Nat):Int),.ref x,.ref x'])) l'=some (.tup [.int ((Z1S r u (W i).w sq:Nat):Int),.ref x,.ref x']):=Z06
     have q1:=p8.same (s9.trans s10)
     have q2:=p9.same s10
     generalize upd H9 l' (.tup [.int ((Z1S r u (W i).w sq:Nat):Int),.ref x,.ref x'])=H10 at s10 g10 q1 q2
     refine⟨by show 2<=sizeLine; lia,fun t ht'=>?_⟩
     have s11:=Z08 (o:=.tup [.str (Str.ofString "there"),.ref l']) (Z0q.refl H10) ht'
     exact k1 _ t l' i (sH.trans (s8.trans (s9.trans (s10.trans s11)))) fr ht hc Z06 ⟨x,x',s11 _ _ g10,q1.same s11,q2.same s11⟩
   refine⟨_,rfl,_,rfl,_,rfl,_,_,rfl,rfl,.inl ⟨by lia,by lia⟩,_,_,rfl,rfl,_,rfl,?_⟩
   rw[hMe]
   by_cases ht:(W i).t < MM
   ·rw[decide_eq_true ht]
    refine Z1u ?_
    refine⟨_,rfl,_,rfl,sp,d,kvs,_,_,_,rfl,g6,s6 _ _ hd4,_,rfl,?_⟩
    rw[Z89 hk]
    cases hc:crn F (Z1S r u (W i).w sq) (W i).x (W i).y with
    | true=>
     refine Z0Z ?_
     exact fin H6 (Z0q.refl _) (.inr hc)
    | false=>
     refine Z1u ?_
     refine⟨_,rfl,_,rfl,_,rfl,_,rfl,_,rfl,sp,bk,b0,b1,n,_,_,_,p,q,U,r,u,rfl,g6,s6 _ _ g4,s6 _ _ (s4 _ _ (s3 _ _ hb0)),s6 _ _ (s4 _ _ hb1),rr,ru,hsq,fun H7 sp7 s7 g7=>?_⟩
     have hsq7:=Z3l rr ru (lo p (W i).x 0++lo q (W i).y 1) hsq
     refine⟨_,rfl,sp7,_,1,_,rfl,rfl,SqT.of g7,Z09 (j:=1) rfl,_,rfl,_,rfl,_,p,U,rfl,hp,?_⟩
     refine⟨_,rfl,sp7,_,2,_,rfl,rfl,SqT.of g7,Z09 (j:=2) rfl,_,rfl,_,rfl,_,q,U,rfl,hq,?_⟩
     refine⟨_,rfl,_,rfl,_,_,rfl,rfl,.inl ⟨by lia,by lia⟩,_,rfl,_,_,rfl,rfl,_,_,_,rfl,?_⟩
     rw[hMe]
     have er:min (min (sid U (ou p U (W i).x) p) (sid U (ou q U (W i).y) q)) (MM - (W i).t)=Z3x p q U MM (W i):=rfl
     rw[er]
     have rp:=Z6R o wi ht
     have wn:=Wn i
     unfold stp at wn
     generalize Z3x p q U MM (W i)=rm at *
     refine⟨_,rfl,sp7,_,0,_,rfl,rfl,SqT.of g7,Z09 (j:=0) rfl,?_⟩
     refine⟨_,rfl,sp7,_,1,_,rfl,rfl,SqT.of g7,Z09 (j:=1) rfl,_,rfl,_,rfl,_,_,rfl,rfl,.inl ⟨by lia,by lia⟩,_,_,rfl,rfl,?_⟩
     refine⟨_,rfl,sp7,_,2,_,rfl,rfl,SqT.of g7,Z09 (j:=2) rfl,_,rfl,_,rfl,_,_,rfl,rfl,.inl ⟨by lia,by lia⟩,_,_,rfl,rfl,?_⟩
     refine⟨three,fun l9 hl9=>?_⟩
     have s9:=Z08 (o:=.tup [.int ((Z1S r u (lo p (W i).x 0++lo q (W i).y 1) (Z1S r u (W i).w sq):Nat):Int),.int (ou p U (W i).x+p * rm),.int (ou q U (W i).y+q * rm)]) (Z0q.refl H7) hl9
     have g9:S3 (upd H7 l9 (.tup [.int ((Z1S r u (lo p (W i).x 0++lo q (W i).y 1) (Z1S r u (W i).w sq):Nat):Int),.int (ou p U (W i).x+p * rm),.int (ou q U (W i).y+q * rm)])) l9 (Z1S r u (lo p (W i).x 0++lo q (W i).y 1) (Z1S r u (W i).w sq)) (ou p U (W i).x+p * rm) (ou q U (W i).y+q * rm):=Z06
     have hsh9:=hsh.same (sA.trans (s6.trans (s7.trans s9)))
     refine⟨_,rfl,_,rfl,l9,a,n,_,_,_,U,r,u,rfl,g9,hsh9,rr,ru,hsq7,fun H10 sp10 s10 g10=>?_⟩
     refine⟨_,rfl,_,rfl,_,_,rfl,rfl,⟨i+1,sp10,_,by rw[wn]; rfl,s6.trans (s7.trans (s9.trans s10)),?_,fun j hj=>?_⟩,?_⟩
     ·rw[wn]
      show S3 _ _ (Z1S r u ((W i).w++(lo p (W i).x 0++(lo q (W i).y 1++(li U (ou p U (W i).x+p * rm) 2++li U (ou q U (W i).y+q * rm) 3)))) sq) _ _
      rw[Z1W,<-Y0l,Z1W]
      exact g10
     ·by_cases e:j=i
      ·subst e; exact⟨hc,ht⟩
      ·exact fr j (by lia)
     ·show (MM - ((W i).t+rm)).toNat < (MM - (W i).t).toNat
      lia
   ·rw[decide_eq_false ht]
    refine Z0Z ?_
    refine Z0Z ?_
    exact fin H6 (Z0q.refl _) (.inl (by lia))
  ·rintro σ H Q Q' h ⟨v,e1,v2,e2,v3,e3,i,j,e4,e5,c,i',j',e6,e7,b,e8,q⟩
   refine⟨v,e1,v2,e2,v3,e3,i,j,e4,e5,c,i',j',e6,e7,b,e8,?_⟩
   cases b with
   | true=>
    obtain⟨w1,f1,w2,f2,l',d',kvs',sq',x',y',f3,f4,f5,b',f6,q'⟩:=(q:tNot (tB (Z9J Z9H [] E0 (Z0U (Z12 8) (Z0U (Z12 6) Z4E)))) _ _ _)
    exact⟨w1,f1,w2,f2,l',d',kvs',sq',x',y',f3,f4,f5,b',f6,h _ _ q'⟩
   | false=>exact h _ _ q
end
abbrev Zf7:Stmt:=Z6D Zcu 6
def Zdv (C:Addr):Sp:=fun vs H Q _=>∃ (p:Addr) (t b:Int),vs=[.ref p]/\Z4u C H p t b/\0 < b/\Bt 1000 b/\Q (.int (t / b)) H
section
variable {P:Program}{w:World}{K:Y00}{mg:Str->Option Value}{base:Heap}
theorem scPo:Z0k ["self"] ["self"] (Z0a Zf7):=⟨rfl,rfl,rfl,by decide +kernel,rfl,by decide +kernel,by decide +kernel⟩
theorem ZcP {f C:Addr}{fd:FuncData}(T:PTx K mg C)(F:MFn K C "whole" "Part.whole" Zf7 ["self"] f fd):Z0x P w K mg base CX0 1 f fd ["self"] (Zdv C):=by
 refine F.F.ok scPo (fun vs H Q E h=>?_) (fun cdv A outer s H vs Q E hr h=>?_)
 ·obtain⟨p,t,b,rfl,_⟩:=h; rfl
 ·obtain⟨p,t,b,rfl,⟨dp,hp⟩,h1,h2,k⟩:=h
  refine⟨_,Z07 (Z0l (Z0c Z1E (Z1A (pv 0) rfl) (Z1A (pv 0) rfl))),?_⟩
  refine⟨_,rfl,p,C,dp,_,_,rfl,hp,T.cl,T.nT,Z2z _ _,_,rfl,p,C,dp,_,_,rfl,hp,T.cl,T.nB,Z1q _ _,_,_,rfl,rfl,⟨by omega,h2.mono (by decide)⟩,?_⟩
  rw[<-Int.fdiv_eq_ediv_of_nonneg t (by omega)]at k
  exact k
end
def ZeZ (C:Addr):Sp:=fun vs H Q _=>∃ (p:Addr) (t b:Int),vs=[.ref p]/\Z4u C H p t b/\0 < b/\Bt 1000 b/\Q (.bl (decide (t / b=0))) H
section
variable {P:Program}{w:World}{K:Y00}{mg:Str->Option Value}{base:Heap}
abbrev Zg9:List Str:=["part"]
theorem ZcN:Z0k Zg9 ["part"] (Z0a Z2t):=⟨rfl,rfl,rfl,by decide +kernel,rfl,by decide +kernel,by decide +kernel⟩
theorem Zdb {f:Addr}{fd:FuncData}{C fo:Addr}{do_:FuncData}(T:PTx K mg C)(FO:MFn K C "whole" "Part.whole" Zf7 ["self"] fo do_)(GO:Z0x P w K mg base CX0 1 fo do_ ["self"] (Zdv C))(F:Fn K mg "is_inside" Z2t ["part"] f fd):Z0x P w K mg base CX0 2 f fd ["part"] (ZeZ C):=by
 refine F.F.ok ZcN (fun vs H Q E h=>?_) (fun cdv A outer s H vs Q E hr h=>?_)
 ·obtain⟨p,t,b,rfl,_⟩:=h; rfl
 ·obtain⟨p,t,b,rfl,⟨dx,hp⟩,hb,hB,k⟩:=h
  have hr1:Z1g 1 _:=hr.mono (by decide)
  refine⟨_,(Z07 (Z0l (Z1B Z1k (Z9X (pv 0) T.cl FO.m GO hr1 FO.b .nil Z0r) Z04 (Z0m _)))),?_⟩
  refine⟨_,rfl,p,dx,_,rfl,hp,Z8Z _ _ (by decide +kernel) (by decide +kernel),p,t,b,rfl,⟨dx,hp⟩,hb,hB,rfl,?_⟩
  have e:decide (V.int (t / b)=V.int 0)=decide (t / b=0):=by
   rw[decide_eq_decide]
   exact⟨fun z=>V.int.inj z,fun z=>by rw[z]⟩
  show Q (.bl (decide (V.int (t / b)=V.int 0))) H
  rw[e]
  exact k
theorem ZeE:Z0k ["thing","squares"] ["thing","squares"] (Z0a Z8Q):=⟨rfl,rfl,rfl,by decide +kernel,rfl,by decide +kernel,by decide +kernel⟩
theorem Zda:Z0k ["thing"] ["thing"] (Z0a Z3e):=⟨rfl,rfl,rfl,by decide +kernel,rfl,by decide +kernel,by decide +kernel⟩
theorem Zc8 {f:Addr}{fd:FuncData}(T:Bi mg)(F:Fn K mg "is_whole" Z3e ["thing"] f fd):Z0x P w K mg base CX0 1 f fd ["thing"] Z3i:=by
 refine F.F.ok Zda (fun vs H Q E h=>?_) (fun cdv A outer s H vs Q E hr h=>?_)
 ·obtain⟨i,rfl,_⟩:=h; rfl
 ·obtain⟨i,rfl,k⟩:=h
  refine⟨_,Z07 (Z0l (Z4F (Z0e Z1i (by rfl) T.isin Z1z (Z00 (pv 0) (Z00 (Z2R (v:=.ty "int") (by rfl) T.int Z3g rfl) Z05)))
   (Z4S (Zbl (Z0e Z1i (by rfl) T.isin Z1z (Z00 (pv 0) (Z00 (Z2R (v:=.ty "bool") (by rfl) T.bool Z6b rfl) Z05))))))),?_⟩
  refine⟨_,rfl,_,_,_,_,rfl,.int i,Z4w K,_,rfl,?_⟩
  refine Z1u ?_
  exact⟨_,rfl,_,_,_,_,rfl,.int i,Z3C K,_,rfl,k⟩
theorem ZcE {f fw:Addr}{fd fdw:FuncData}(T:Bi mg)(F:Fn K mg "is_square" Z8Q ["thing","squares"] f fd)(FW:Fn K mg "is_whole" Z3e ["thing"] fw fdw):Z0x P w K mg base CX0 2 f fd ["thing","squares"] Zbd:=by
 have GW:Z0x P w K mg base CX0 1 fw fdw ["thing"] Z3i:=Zc8 T FW
 refine F.F.ok ZeE (fun vs H Q E h=>?_) (fun cdv A outer s H vs Q E hr h=>?_)
 ·obtain⟨i,n,rfl,_⟩:=h; rfl
 ·obtain⟨i,n,rfl,k⟩:=h
  refine⟨_,Z07 (Z0l (Z4F (Z0b GW hr rfl FW.m FW.F.kp FW.b .nil Z0r (Z00 (pv 0) Z05)) (Z4S (Z9Y ZbN Z3a Z04 (pv 0) (pv 1))))),?_⟩
  refine⟨_,rfl,i,rfl,_,rfl,?_⟩
  refine Z1u ?_
  refine⟨_,rfl,_,_,rfl,rfl,_,rfl,?_⟩
  refine Z5m (fun h=>?_) (fun h=>?_)
  ·have h:0<=i:=of_decide_eq_true h
   refine⟨_,rfl,_,_,rfl,rfl,?_⟩
   have e:decide (0<=i/\i < n)=decide (i < n):=by simp[h]
   rw[e]at k; exact k
  ·have h:¬ 0<=i:=fun z=>h (decide_eq_true z)
   have e:decide (0<=i/\i < n)=false:=by simp[h]
   rw[e]at k; exact k
theorem Zdh:Z0k ["sheet"] ["sheet"] (Z0a Z9o):=⟨rfl,rfl,rfl,by decide +kernel,rfl,by decide +kernel,by decide +kernel⟩
theorem Zc3 {f:Addr}{fd:FuncData}(T:Bi mg)(F:Fn K mg "size" Z9o ["sheet"] f fd):Z0x P w K mg base CX0 1 f fd ["sheet"] Zb1:=by
 refine F.F.ok Zdh (fun vs H Q E h=>?_) (fun cdv A outer s H vs Q E hr h=>?_)
 ·obtain⟨a,r,u,rfl,_⟩:=h; rfl
 ·obtain⟨a,r,u,rfl,⟨p,q,h1,h2,h3⟩,k⟩:=h
  refine⟨_,Z07 (Z0l (Z0e Z0p (by rfl) T.len PySem.boot_len (Z00 (Z0j Z0f (pv 0) Z04 (fun _ _=>rfl)) Z05))),?_⟩
  refine⟨_,rfl,a,_,0,_,rfl,rfl,SqT.of h1,Z09 (j:=0) rfl,p,_,rfl,.inr (SqT.of h2),?_⟩
  rw[Z0z]; exact k
end
def Zdp (C CP:Addr):Sp:=fun vs H Q E=>∃ (a l:Addr) (sq:Int) (px py:Addr) (tx bx ty by_:Int) (r u:List Nat),vs=[.ref a,.ref l]/\Z5p H a r u/\H l=some (.tup [.int sq,.ref px,.ref py])/\Z4u C H px tx bx/\Z4u C H py ty by_/\0 < bx/\0 < by_/\Bt 1000 bx/\Bt 1000 by_/\
 ((0<=sq/\sq < (r.length:Int)/\tx / bx=0/\ty / by_=0)->Q .non H)/\(¬ (0<=sq/\sq < (r.length:Int)/\tx / bx=0/\ty / by_=0)->E (.ref CP) none H)
section
variable {P:Program}{w:World}{K:Y00}{mg:Str->Option Value}{base:Heap}
abbrev Zfy:List Str:=["sheet","place"]
theorem Zeh:Z0k Zfy ["sheet","place"] (Z0a Z22):=⟨rfl,rfl,rfl,by decide +kernel,rfl,by decide +kernel,by decide +kernel⟩
theorem Zd0 {f fq fz fi:Addr}{fd dq dz di:FuncData}{C CP:Addr}(hC:Z3c K CP)(hCm:mg "NoPlace"=some (.ref CP))(F:Fn K mg "need_place" Z22 ["sheet","place"] f fd)(FQ:Fn K mg "is_square" Z8Q ["thing","squares"] fq dq)(GQ:Z0x P w K mg base CX0 2 fq dq ["thing","squares"] Zbd)
  (FZ:Fn K mg "size" Z9o ["sheet"] fz dz) (GZ:Z0x P w K mg base CX0 1 fz dz ["sheet"] Zb1)
  (FI:Fn K mg "is_inside" Z2t ["part"] fi di) (GI:Z0x P w K mg base CX0 2 fi di ["part"] (ZeZ C)):Z0x P w K mg base (CX1 P w) 3 f fd ["sheet","place"] (Zdp C CP):=by
 refine F.F.ok1 Zeh (fun vs H Q E h=>?_) (fun cdv A outer s H vs Q E hr h=>?_)
 ·obtain⟨a,l,sq,px,py,tx,bx,ty,by_,r,u,rfl,_⟩:=h; rfl
 ·obtain⟨a,l,sq,px,py,tx,bx,ty,by_,r,u,rfl,ha,hl,hx,hy,x0,y0,xB,yB,k1,k2⟩:=h
  have hr1:Z1g 1 _:=hr.mono (by decide)
  have hr2:Z1g 2 _:=hr.mono (by decide)
  refine⟨_,(Z07 (Z0T (Z2K (PW.pt (Z2n (Z1D (Z0b GQ hr2 rfl FQ.m FQ.F.kp FQ.b .nil Z0r (Z00 (Z0j Z0f (pv 1) Z04 (fun _ _=>rfl)) (Z00 (Z0b GZ hr1 rfl FZ.m FZ.F.kp FZ.b .nil Z0r (Z00 (pv 0) Z05)) Z05)))) (Z2n (Z1D (Z0b GI hr2 rfl FI.m FI.F.kp FI.b .nil Z0r (Z00 (Z0j Z0f (pv 1) Z04 (fun _ _=>rfl)) Z05))) (Z1Z (Z1D (Z0b GI hr2 rfl FI.m FI.F.kp FI.b .nil Z0r (Z00 (Z0j Z0f (pv 1) Z04 (fun _ _=>rfl)) Z05)))))))) (Z07 (Z3T rfl hC rfl hCm Z79 (Z00 Z1c Z05))) Z0t)),?_⟩
  refine⟨_,rfl,l,_,0,_,rfl,rfl,SqT.of hl,Z09 (j:=0) rfl,_,rfl,a,r,u,rfl,ha,sq,(r.length:Int),rfl,_,rfl,?_⟩
  refine Z5m (fun g=>?_) (fun g=>?_)
  ·have g:0<=sq/\sq < (r.length:Int):=of_decide_eq_true g
   refine⟨_,rfl,l,_,1,_,rfl,rfl,SqT.of hl,Z09 (j:=1) rfl,px,tx,bx,rfl,hx,x0,xB,_,rfl,?_⟩
   refine Z5m (fun g2=>?_) (fun g2=>?_)
   ·have g2:tx / bx=0:=of_decide_eq_true g2
    refine⟨_,rfl,l,_,2,_,rfl,rfl,SqT.of hl,Z09 (j:=2) rfl,py,ty,by_,rfl,hy,y0,yB,_,rfl,?_⟩
    by_cases g3:ty / by_=0
    ·rw[decide_eq_true g3]
     exact Z0Z (k1 ⟨g.1,g.2,g2,g3⟩)
    ·rw[decide_eq_false g3]
     refine Z1u ?_
     exact⟨by show 1<=sizeLine; decide,k2 fun z=>g3 z.2.2.2⟩
   ·refine Z1u ?_
    exact⟨by show 1<=sizeLine; decide,k2 fun z=>g2 (decide_eq_true z.2.2.1)⟩
  ·refine Z1u ?_
   exact⟨by show 1<=sizeLine; decide,k2 fun z=>g (decide_eq_true ⟨z.1,z.2.1⟩)⟩
end
def Way (p q:Int):Prop:=p.natAbs<=60/\q.natAbs<=60/\¬ (p=0/\q=0)
def ZeX (CN:Addr):Sp:=fun vs H Q E=>∃ p q:Int,vs=[.int p,.int q]/\(Way p q->Q .non H)/\(¬ Way p q->∀ H':Hp,Z0q H H'->E (.ref CN) none H')
section
variable {P:Program}{w:World}{K:Y00}{mg:Str->Option Value}{base:Heap}
abbrev Zgc:List Str:=["p","q"]
theorem Ze1:Z0k Zgc ["p","q"] (Z0a Z3h):=⟨rfl,rfl,rfl,by decide +kernel,rfl,by decide +kernel,by decide +kernel⟩
theorem ZcM {f:Addr}{fd:FuncData}{CN:Addr}{tk:Tok}(T_abs:mg "abs"=none)(hC:Z3c K CN)(hCm:mg "NoWay"=some (.ref CN))(C_FARTHEST:mg "FARTHEST"=some (.int 60 tk))(F:Fn K mg "need_way" Z3h ["p","q"] f fd):Z0x P w K mg base (CX1 P w) 1 f fd ["p","q"] (ZeX CN):=by
 refine F.F.ok1 Ze1 (fun vs H Q E h=>?_) (fun cdv A outer s H vs Q E hr h=>?_)
 ·obtain⟨p,q,rfl,_⟩:=h; rfl
 ·obtain⟨p,q,rfl,k1,k2⟩:=h
  refine⟨_,(Z07 (Z0T (PW.pt (Z3L (Z0h Z53 (Z0e Z0O rfl T_abs Z0P (Z00 (pv 0) Z05)) (Z3W (v:=.int 60) (by rfl) C_FARTHEST ⟨_,rfl⟩) (Z0m _)) (Z3L (Z0h Z53 (Z0e Z0O rfl T_abs Z0P (Z00 (pv 1) Z05)) (Z3W (v:=.int 60) (by rfl) C_FARTHEST ⟨_,rfl⟩) (Z0m _)) (Z4c (PW.pt (Z2n (Z0h Z1k (pv 0) Z04 (Z0m _)) (Z1Z (Z0h Z1k (pv 1) Z04 (Z0m _))))))))) (Z07 (Z3T rfl hC rfl hCm Z79 (Z00 (ZcC (.cons Z1c (.cons (Z8e (Z3W (v:=.int 60) (by rfl) C_FARTHEST ⟨_,rfl⟩)) (.cons Z1c (.cons (Z8e (Z3W (v:=.int 60) (by rfl) C_FARTHEST ⟨_,rfl⟩)) (.cons Z1c .nil)))))) Z05))) Z0t)),?_⟩
  have ab:∀ i:Int,(if i < 0 then -i else i)=(i.natAbs:Int):=fun i=>by split <;> omega
  refine⟨_,rfl,_,rfl,_,_,rfl,rfl,_,rfl,?_⟩
  rw[ab]
  by_cases hp:p.natAbs<=60
  ·rw[decide_eq_false (by omega)]
   refine Z0Z ?_
   refine⟨_,rfl,_,rfl,_,_,rfl,rfl,_,rfl,?_⟩
   rw[ab]
   by_cases hq:q.natAbs<=60
   ·rw[decide_eq_false (by omega)]
    refine Z0Z ?_
    refine⟨_,rfl,rfl,_,rfl,?_⟩
    by_cases e:p=0
    ·subst e
     refine Z1u ?_
     refine⟨_,rfl,rfl,_,rfl,?_⟩
     by_cases e2:q=0
     ·subst e2
      refine Z1u ?_
      refine⟨_,rfl,by decide,?_⟩
      refine⟨60,rfl,by decide,_,rfl,by decide,?_⟩
      refine⟨_,rfl,by decide,?_⟩
      refine⟨60,rfl,by decide,_,rfl,by decide,?_⟩
      refine⟨_,rfl,by decide,?_⟩
      exact⟨by show 1<=sizeLine; decide,k2 (fun ⟨_,_,z⟩=>z ⟨rfl,rfl⟩) _ (Z0q.refl _)⟩
     ·rw[decide_eq_false (fun z=>e2 (V.int.inj z))]
      refine Z0Z ?_
      exact k1 ⟨hp,hq,fun z=>e2 z.2⟩
    ·rw[decide_eq_false (fun z=>e (V.int.inj z))]
     refine Z0Z ?_
     refine Z0Z ?_
     exact k1 ⟨hp,hq,fun z=>e z.1⟩
   ·rw[decide_eq_true (by omega)]
    refine Z1u ?_
    refine⟨_,rfl,by decide,?_⟩
    refine⟨60,rfl,by decide,_,rfl,by decide,?_⟩
    refine⟨_,rfl,by decide,?_⟩
    refine⟨60,rfl,by decide,_,rfl,by decide,?_⟩
    refine⟨_,rfl,by decide,?_⟩
    exact⟨by show 1<=sizeLine; decide,k2 (fun ⟨_,z,_⟩=>hq z) _ (Z0q.refl _)⟩
  ·rw[decide_eq_true (by omega)]
   refine Z1u ?_
   refine⟨_,rfl,by decide,?_⟩
   refine⟨60,rfl,by decide,_,rfl,by decide,?_⟩
   refine⟨_,rfl,by decide,?_⟩
   refine⟨60,rfl,by decide,_,rfl,by decide,?_⟩
   refine⟨_,rfl,by decide,?_⟩
   exact⟨by show 1<=sizeLine; decide,k2 (fun ⟨z,_,_⟩=>hp z) _ (Z0q.refl _)⟩
end
end K1
namespace L2
open PySem PySem.Spec PyProof.Rows
section
variable {P:Program}{w:World}{K:Y00}{mg:Str->Option Value}{base:Heap}
end
end L2
namespace K1
open PySem L2 Sq
def ZfP (n:Nat)(sqi tx bx ty by_:Int):Prop:=0<=sqi/\sqi < (n:Int)/\tx / bx=0/\ty / by_=0
theorem div0 {t b:Int}(hb:0 < b)(h:t / b=0):0<=t/\t < b:=by
 have e:=Int.mul_ediv_add_emod t b
 rw[h,Int.mul_zero,Int.zero_add]at e
 have h1:=Int.emod_nonneg t (show b≠0 by omega)
 have h2:=Int.emod_lt_of_pos t hb
 omega
theorem Z4I {t b:Int}(hb:0 < b)(h0:0<=t)(h1:t < b):0<=Z0C t b/\Z0C t b < Z0o t b/\0 < Z0o t b/\(0 < t->0 < Z0C t b):=by
 have pb:=Z0G (t:=t) (b:=b) (by lia)
 have e:Z0C t b / Z0o t b=0:=by rw[Zax hb]; exact Int.ediv_eq_zero_of_lt h0 h1
 obtain⟨a1,a2⟩:=div0 pb e
 refine⟨a1,a2,pb,fun ht=>?_⟩
 have c:=Z3Y (i:=t) (B:=b)
 rcases Int.lt_or_le 0 (Z0C t b) with g | g
 ·exact g
 ·have z:Z0C t b=0:=by lia
  rw[z,Int.zero_mul]at c
  have:=Int.mul_pos ht pb
  lia
theorem ZaO {bx by_ p q:Int}:unU bx by_ p q=bx * (by_ * mx1 p * mx1 q):=by unfold unU; simp only[Int.mul_assoc]
theorem Zbb {bx by_ p q:Int}:unU bx by_ p q=by_ * (bx * mx1 p * mx1 q):=by unfold unU; simp only[<-Int.mul_assoc]; rw[Int.mul_comm by_ bx]
theorem Z7j {a b U k m:Int}(a0:0<=a)(a1:a < U)(b0:0<=b)(b1:b < U)(e:a+U * k=b+U * m):a=b:=by
 have h1:(a+U * k) % U=a:=by rw[Int.add_mul_emod_self_left]; exact Int.emod_eq_of_lt a0 a1
 have h2:(b+U * m) % U=b:=by rw[Int.add_mul_emod_self_left]; exact Int.emod_eq_of_lt b0 b1
 rw[<-h1,e,h2]
theorem Z7U {n s:Nat}{w:List Nat}{v v':V}(hw:Row n w)(h:Z1C n w s v)(h':Z1C n w s v'):v=v':=by
 obtain⟨R,hR,sR,rfl⟩:=h
 obtain⟨x,hx,lx,rfl⟩:=Z3s hR
 obtain⟨R',hR',sR',rfl⟩:=h'
 obtain⟨x',hx',lx',rfl⟩:=Z3s hR'
 have e0:∀ {x:Nat},x < n->(cyc n w x).getD 0 0=x:=fun {x} hx=>by rw[Y0i,Z2g hw hx]; rfl
 rw[e0 hx,e0 hx']
 have a1:=Z1V.mp lx x' (Z28 hw hx sR (Z2i hw hx' sR'))
 have a2:=Z1V.mp lx' x (Z28 hw hx' sR' (Z2i hw hx sR))
 congr 1
 lia
theorem Z93 {n s:Nat}{w:List Nat}{v:V}(h:Z1C n w s v):∃ m:Int,v=.int m:=let ⟨_,_,_,e⟩:=h; ⟨_,e⟩
theorem Zbm {n:Nat}{r u:List Nat}(rr:Row n r)(ru:Row n u):Za2 n r u (Z0y n (Z0w r u)):=fun s hs hF=>by
 rw[<-Z2Z rr hs]
 refine Decidable.byContradiction fun c=>hF ?_
 rw[(Z2d (Z2w rr ru)).mem_iff]
 unfold Z5i
 rw[Y0r,Y06]
 exact⟨hs,by simpa using c⟩
abbrev U6 (tx bx ty by_ p q:Int):Int:=unU (Z0o tx bx) (Z0o ty by_) p q
abbrev A6 (tx bx ty by_ p q:Int)(sq:Nat):Spt:=⟨sq,uX (Z0C tx bx) (Z0o tx bx) (Z0o ty by_) p q,uY (Z0C ty by_) (Z0o tx bx) (Z0o ty by_) p q⟩
theorem Zf0 {n sq:Nat}{tx bx ty by_ p q:Int}(hsq:sq < n)(x0:0<=tx)(x1:tx < bx)(y0:0<=ty)(y1:ty < by_):SIn n p q (U6 tx bx ty by_ p q) (A6 tx bx ty by_ p q sq):=by
 obtain⟨ax0,ax1,ax2,_⟩:=Z4I (show 0 < bx by lia) x0 x1
 obtain⟨ay0,ay1,ay2,_⟩:=Z4I (show 0 < by_ by lia) y0 y1
 have i:=Zf6 (p:=p) (q:=q) (M:=0) ax0 ax1 ay0 ay1 (by decide)
 exact⟨hsq,i.x0,i.x1,i.y0,i.y1,i.px,i.qy⟩
theorem Z7g {t b k U:Int}(hb:0 < b)(hU:0 < U)(hk:U=Z0o t b * k):Z0C (Z0C t b * k) U=Z0C t b/\Z0o (Z0C t b * k) U=Z0o t b:=by
 have pb:=Z0G (t:=t) (b:=b) (by lia)
 have k0:0 < k:=by
  rcases Int.lt_or_le 0 k with g | g
  ·exact g
  ·have:=Int.mul_nonneg_of_nonpos_of_nonpos (show -Z0o t b<=0 by lia) g
   rw[Int.neg_mul]at this
   lia
 rw[hk]
 obtain⟨e1,e2⟩:=Z47 (t:=Z0C t b) (b:=Z0o t b) (by lia) k0
 obtain⟨f1,f2⟩:=ZbC (a:=t) hb
 exact⟨by rw[e1,f1],by rw[e2,f2]⟩
theorem Zaz {C:Addr}{n sq:Nat}{r u:List Nat}{tx bx ty by_ p q S:Int}{H:Hp}{Q:VK}(rr:Row n r)(ru:Row n u)(hsq:sq < n)(S0:0<=S)(hw:Way p q)(x0:0<=tx)(x1:tx < bx)(y0:0<=ty)(y1:ty < by_)
  (k1:∀ (H':Hp) (t l':Addr) (s':Nat),Z0q H H'->H' t=some (.tup [.str (Str.ofString "there"),.ref l'])->P3 C H' l' s' (Z0C tx bx) (Z0o tx bx) (Z0C ty by_) (Z0o ty by_)->s' < n->
   Run r u (Z0y n (Z0w r u)) p q (U6 tx bx ty by_ p q) (A6 tx bx ty by_ p q sq) (S * U6 tx bx ty by_ p q) (A6 tx bx ty by_ p q s')->(∀ e,Z9f p q (U6 tx bx ty by_ p q) (S * U6 tx bx ty by_ p q) (uX (Z0C tx bx) (Z0o tx bx) (Z0o ty by_) p q) (uY (Z0C ty by_) (Z0o tx bx) (Z0o ty by_) p q) e->s'=Z1S r u (W5 (Z0C tx bx) (Z0o tx bx) (Z0C ty by_) (Z0o ty by_) p q S e).w sq)->Q (.ref t) H')
  (k2:∀ (H':Hp) (t pt:Addr) (v:V) (T:Int) (b:Spt),Z0q H H'->H' t=some (.tup [.str (Str.ofString "corner"),v,.ref pt])->Z1C n (Z0w r u) b.s v->Z4u C H' pt (Z0C T (U6 tx bx ty by_ p q)) (Z0o T (U6 tx bx ty by_ p q))->0<=T->T<=S * U6 tx bx ty by_ p q->
   Hit r u (Z0y n (Z0w r u)) p q (U6 tx bx ty by_ p q) (A6 tx bx ty by_ p q sq) (S * U6 tx bx ty by_ p q) T b->Q (.ref t) H') :
  End5 C n sq r u (Z0C tx bx) (Z0o tx bx) (Z0C ty by_) (Z0o ty by_) p q S H Q:=by
 have pbx:0 < bx:=by lia
 have pby:0 < by_:=by lia
 obtain⟨ax0,ax1,ax2,_⟩:=Z4I pbx x0 x1
 obtain⟨ay0,ay1,ay2,_⟩:=Z4I pby y0 y1
 have o:=Z4t (p:=p) (q:=q) ax2 ay2 hw.2.2
 have hU:=o.u
 have hM:0<=S * unU (Z0o tx bx) (Z0o ty by_) p q:=Int.mul_nonneg S0 (by lia)
 have in0:=Zf6 (p:=p) (q:=q) (M:=S * unU (Z0o tx bx) (Z0o ty by_) p q) ax0 ax1 ay0 ay1 hM
 constructor
 ·intro H' t l' i s fr ht hcr h1 h2
  have wi:=Z9s o in0 i fun j hj=>(fr j hj).2
  have run:=ZaK (r:=r) (u:=u) (F:=Z0y n (Z0w r u)) (s:=sq) (fun j hj=>⟨(fr j hj).1,(fr j hj).2⟩) ht hcr i (Y03 i)
  rw[Nat.sub_self]at run
  have ex:=ws_x p q (unU (Z0o tx bx) (Z0o ty by_) p q) (S * unU (Z0o tx bx) (Z0o ty by_) p q) (uX (Z0C tx bx) (Z0o tx bx) (Z0o ty by_) p q) (uY (Z0C ty by_) (Z0o tx bx) (Z0o ty by_) p q) i
  have ey:=ws_y p q (unU (Z0o tx bx) (Z0o ty by_) p q) (S * unU (Z0o tx bx) (Z0o ty by_) p q) (uX (Z0C tx bx) (Z0o tx bx) (Z0o ty by_) p q) (uY (Z0C ty by_) (Z0o tx bx) (Z0o ty by_) p q) i
  have gx:(W5 (Z0C tx bx) (Z0o tx bx) (Z0C ty by_) (Z0o ty by_) p q S i).x=uX (Z0C tx bx) (Z0o tx bx) (Z0o ty by_) p q:=by
   refine Z7j wi.x0 wi.x1 in0.x0 in0.x1 (m:=p * S) (ex.trans ?_)
   rw[show (ws p q (unU (Z0o tx bx) (Z0o ty by_) p q) (S * unU (Z0o tx bx) (Z0o ty by_) p q) (uX (Z0C tx bx) (Z0o tx bx) (Z0o ty by_) p q) (uY (Z0C ty by_) (Z0o tx bx) (Z0o ty by_) p q) i).t=_ from ht,<-Int.mul_assoc,Int.mul_comm (p * S)]
  have gy:(W5 (Z0C tx bx) (Z0o tx bx) (Z0C ty by_) (Z0o ty by_) p q S i).y=uY (Z0C ty by_) (Z0o tx bx) (Z0o ty by_) p q:=by
   refine Z7j wi.y0 wi.y1 in0.y0 in0.y1 (m:=q * S) (ey.trans ?_)
   rw[show (ws p q (unU (Z0o tx bx) (Z0o ty by_) p q) (S * unU (Z0o tx bx) (Z0o ty by_) p q) (uX (Z0C tx bx) (Z0o tx bx) (Z0o ty by_) p q) (uY (Z0C ty by_) (Z0o tx bx) (Z0o ty by_) p q) i).t=_ from ht,<-Int.mul_assoc,Int.mul_comm (q * S)]
  have e2:Z4y r u sq (W5 (Z0C tx bx) (Z0o tx bx) (Z0C ty by_) (Z0o ty by_) p q S i)=A6 tx bx ty by_ p q (Z1S r u (W5 (Z0C tx bx) (Z0o tx bx) (Z0C ty by_) (Z0o ty by_) p q S i).w sq):=by
   unfold Z4y A6; rw[gx,gy]
  rw[show Z4y r u sq (ws p q (unU (Z0o tx bx) (Z0o ty by_) p q) (S * unU (Z0o tx bx) (Z0o ty by_) p q) (uX (Z0C tx bx) (Z0o tx bx) (Z0o ty by_) p q) (uY (Z0C ty by_) (Z0o tx bx) (Z0o ty by_) p q) i)=_ from e2]at run
  have run:Run r u (Z0y n (Z0w r u)) p q (U6 tx bx ty by_ p q) (A6 tx bx ty by_ p q sq) (S * U6 tx bx ty by_ p q - 0) (A6 tx bx ty by_ p q (Z1S r u (W5 (Z0C tx bx) (Z0o tx bx) (Z0C ty by_) (Z0o ty by_) p q S i).w sq)):=run
  rw[Int.sub_zero]at run
  rw[gx,gy]at h2
  have lx:Z0C (uX (Z0C tx bx) (Z0o tx bx) (Z0o ty by_) p q) (unU (Z0o tx bx) (Z0o ty by_) p q)=Z0C tx bx/\Z0o (uX (Z0C tx bx) (Z0o tx bx) (Z0o ty by_) p q) (unU (Z0o tx bx) (Z0o ty by_) p q)=Z0o tx bx:=by
   unfold uX; rw[Z9n ax2]; exact Z7g pbx hU ZaO
  have ly:Z0C (uY (Z0C ty by_) (Z0o tx bx) (Z0o ty by_) p q) (unU (Z0o tx bx) (Z0o ty by_) p q)=Z0C ty by_/\Z0o (uY (Z0C ty by_) (Z0o tx bx) (Z0o ty by_) p q) (unU (Z0o tx bx) (Z0o ty by_) p q)=Z0o ty by_:=by
   unfold uY; rw[Z8d ay2]; exact Z7g pby hU Zbb
  rw[lx.1,lx.2,ly.1,ly.2]at h2
  exact k1 H' t l' _ s h1 h2 (Z3l rr ru _ hsq) run fun e he=>by rw[Z8n he ⟨fun j hj=>(fr j hj).2,ht⟩]
 ·intro H' t pt i v s fr hcr h1 lv hpt
  have wi:=Z9s o in0 i fun j hj=>(fr j hj).2
  have hit:=ZaI (r:=r) (u:=u) (F:=Z0y n (Z0w r u)) (s:=sq) (fun j hj=>⟨(fr j hj).1,(fr j hj).2⟩) wi.t1 hcr i (Y03 i)
  rw[Nat.sub_self]at hit
  have hit:Hit r u (Z0y n (Z0w r u)) p q (U6 tx bx ty by_ p q) (A6 tx bx ty by_ p q sq) (S * U6 tx bx ty by_ p q - 0) ((W5 (Z0C tx bx) (Z0o tx bx) (Z0C ty by_) (Z0o ty by_) p q S i).t - 0) (Z4y r u sq (W5 (Z0C tx bx) (Z0o tx bx) (Z0C ty by_) (Z0o ty by_) p q S i)):=hit
  rw[Int.sub_zero,Int.sub_zero]at hit
  exact k2 H' t pt v _ _ s h1 lv hpt wi.t0 wi.t1 hit
def Z6h (C:Addr)(H:Hp)(t:Addr)(n sq:Nat)(r u:List Nat)(tx bx ty by_ p q:Int):Prop:=
 ∃ f:Nat->Nat,f 0=sq/\(∀ j,f j < n)/\(∀ i j,f (i+1)=f (j+1)->f i=f j)/\
 ((∃ k:Nat,H t=some (.tup [.str (Str.ofString "back"),.int (k:Int)])/\1<=k/\f k=sq/\(∀ j,1<=j->j < k->f j≠sq)/\(∀ j,j < k->Run r u (Z0y n (Z0w r u)) p q (U6 tx bx ty by_ p q) (A6 tx bx ty by_ p q (f j)) (1 * U6 tx bx ty by_ p q) (A6 tx bx ty by_ p q (f (j+1)))))\/
 (∃ (k:Nat) (pt:Addr) (v:V) (T:Int) (b:Spt),H t=some (.tup [.str (Str.ofString "corner"),v,.ref pt])/\k < n/\Z1C n (Z0w r u) b.s v/\Z4u C H pt (Z0C (T+(k:Int) * U6 tx bx ty by_ p q) (U6 tx bx ty by_ p q)) (Z0o (T+(k:Int) * U6 tx bx ty by_ p q) (U6 tx bx ty by_ p q))/\0<=T/\T<=1 * U6 tx bx ty by_ p q/\(∀ j,1<=j->j<=k->f j≠sq)/\(∀ j,j < k->Run r u (Z0y n (Z0w r u)) p q (U6 tx bx ty by_ p q) (A6 tx bx ty by_ p q (f j)) (1 * U6 tx bx ty by_ p q) (A6 tx bx ty by_ p q (f (j+1))))/\
  Hit r u (Z0y n (Z0w r u)) p q (U6 tx bx ty by_ p q) (A6 tx bx ty by_ p q (f k)) (1 * U6 tx bx ty by_ p q) T b))
theorem Z6h.same {C:Addr}{H H':Hp}{t:Addr}{n sq:Nat}{r u:List Nat}{tx bx ty by_ p q:Int}(h:Z6h C H t n sq r u tx bx ty by_ p q)(s:Z0q H H'):Z6h C H' t n sq r u tx bx ty by_ p q:=by
 obtain⟨f,f0,f1,f2,h⟩:=h
 refine⟨f,f0,f1,f2,?_⟩
 rcases h with ⟨k,h1,h2⟩ | ⟨k,pt,v,T,b,h1,kn,h2,h3,h4⟩
 ·exact .inl ⟨k,s _ _ h1,h2⟩
 ·exact .inr ⟨k,pt,v,T,b,s _ _ h1,kn,h2,h3.same s,h4⟩
theorem Z83 {n:Nat}{g:Nat->Nat}(hg:∀ s,s < n->g s < n)(inj:∀ s s',s < n->s' < n->g s=g s'->s=s'){s:Nat}(h:s < n)(i j:Nat)(e:orb g s (i+1)=orb g s (j+1)):orb g s i=orb g s j:=inj _ _ (Z39 hg h i) (Z39 hg h j) e
theorem Z8D {R:Nat->Nat->Prop}{X:Nat->Prop}{f g:Nat->Nat}{k:Nat}(uq:∀ a b c,R a b->R a c->b=c)(xr:∀ a b,X a->R a b->False)(finj:∀ i j,f (i+1)=f (j+1)->f i=f j)(k1:1<=k)(fk:f k=f 0)(fm:∀ j,1<=j->j < k->f j≠f 0)(fr:∀ j,j < k->R (f j) (f (j+1)))(g0:g 0=f 1) :
  (∀ k':Nat,1<=k'->g k'=g 0->(∀ j,1<=j->j < k'->g j≠g 0)->(∀ j,j < k'->R (g j) (g (j+1)))->k'=k)/\(∀ k':Nat,(∀ j,1<=j->j<=k'->g j≠g 0)->(∀ j,j < k'->R (g j) (g (j+1)))->¬ X (g k')):=by
 have along:∀ (k':Nat),(∀ j,j < k'->R (g j) (g (j+1)))->∀ j,j<=k'->j+1<=k->g j=f (j+1):=fun k' gr j=>by
  induction j with
  | zero=>intro _ _; exact g0
  | succ j ih=>
   intro h1 h2
   have e:=ih (by lia) (by lia)
   have a:=gr j (by lia)
   rw[e]at a
   exact uq _ _ _ a (fr (j+1) (by lia))
 have round:∀ (k':Nat),(∀ j,j < k'->R (g j) (g (j+1)))->k<=k'->g k=g 0:=fun k' gr h=>by
  have e:=along k' gr (k - 1) (by lia) (by lia)
  rw[show k - 1+1=k by lia,fk]at e
  have a:=gr (k - 1) (by lia)
  rw[e,show k - 1+1=k by lia]at a
  rw[g0]
  exact uq _ _ _ a (fr 0 (by lia))
 refine⟨fun k' h1 gk gm gr=>?_,fun k' gm gr hx=>?_⟩
 ·rcases Nat.lt_trichotomy k' k with c | c | c
  ·have e:=along k' gr k' (Y03 _) (by lia)
   rw[gk,g0]at e
   exact absurd (finj 0 k' e).symm (fm k' h1 c)
  ·exact c
  ·exact absurd (round k' gr (by lia)) (gm k k1 c)
 ·rcases Y0j k' k with c | c
  ·have e:=along k' gr k' (Y03 _) (by lia)
   rw[e]at hx
   rcases Y0j (k' + 1) k with d | d
   ·exact xr _ _ hx (fr _ d)
   ·rw[show k' + 1=k by lia,fk]at hx
    exact xr _ _ hx (fr 0 (by lia))
  ·exact gm k k1 c (round k' gr c)
theorem Zc5 {r u F:List Nat}{p q U:Int}{a b:Spt}{M T:Int}(h:Hit r u F p q U a M T b):U∣a.x+p * T/\U∣a.y+q * T:=by
 have zz:∀ x:Int,U∣x - z0 U x:=fun x=>by
  unfold z0; split
  ·rename_i e; exact⟨1,by lia⟩
  ·exact⟨0,by lia⟩
 have oo:∀ p x:Int,U∣ou p U x - x:=fun p x=>by
  unfold ou; split
  ·rename_i e; exact⟨1,by lia⟩
  ·exact⟨0,by lia⟩
 induction h with
 | here a M _ hf=>
  unfold cr at hf
  rw[Bool.and_eq_true,Bool.and_eq_true,decide_eq_true_iff,decide_eq_true_iff]at hf
  rw[hf.1,hf.2.1,Int.mul_zero,Int.mul_zero]
  exact⟨⟨0,by lia⟩,⟨0,by lia⟩⟩
 | cons a M T b _ _ _ ih=>
  have hx:U∣z0 U (ou p U a.x+p * rm p q U M a)+p * T:=ih.1
  have hy:U∣z0 U (ou q U a.y+q * rm p q U M a)+q * T:=ih.2
  generalize rm p q U M a=m at *
  have key:∀ p x:Int,U∣z0 U (ou p U x+p * m)+p * T->U∣x+p * (T+m):=fun p x h=>by
   have h1:=zz (ou p U x+p * m)
   have h2:=oo p x
   obtain⟨a1,e1⟩:=h
   obtain⟨a2,e2⟩:=h1
   obtain⟨a3,e3⟩:=h2
   refine⟨a1+a2 - a3,?_⟩
   rw[Int.mul_sub,Int.mul_add,Int.mul_add,<-e1,<-e2,<-e3]; lia
  exact⟨key p a.x hx,key q a.y hy⟩
section
variable {P:Program}{w:World}{K:Y00}{mg:Str->Option Value}{base:Heap}
theorem Zbu:Z0k ["_law_found"] ["_law_found"] (Z0a Z4s):=⟨rfl,rfl,rfl,by decide +kernel,rfl,by decide +kernel,by decide +kernel⟩
theorem Zar {f:Addr}{fd:FuncData}(T:Bi mg)(F:Fn K mg "_law_whole" Z4s ["_law_found"] f fd):Z0x P w K mg base CX0 1 f fd ["_law_found"] Z3i:=by
 refine F.F.ok Zbu (fun vs H Q E h=>?_) (fun cdv A outer s H vs Q E hr h=>?_)
 ·obtain⟨i,rfl,_⟩:=h; rfl
 ·obtain⟨i,rfl,k⟩:=h
  refine⟨_,Z07 (Z0l (Z4F (Z0e Z1i (by rfl) T.isin Z1z (Z00 (pv 0) (Z00 (Z2R (v:=.ty "int") (by rfl) T.int Z3g rfl) Z05)))
   (Z4S (Zbl (Z0e Z1i (by rfl) T.isin Z1z (Z00 (pv 0) (Z00 (Z2R (v:=.ty "bool") (by rfl) T.bool Z6b rfl) Z05))))))),?_⟩
  refine⟨_,rfl,_,_,_,_,rfl,.int i,Z4w K,_,rfl,?_⟩
  refine Z1u ?_
  exact⟨_,rfl,_,_,_,_,rfl,.int i,Z3C K,_,rfl,k⟩
end
theorem ZdN {A:Around}{k:Nat}(hr:Z1g k A){d e:PyData}(h:d.depth<=64):A.units+min d.depth e.depth < cLine:=
 Nat.lt_of_le_of_lt (Nat.add_le_add_left (Y0o (Nat.min_le_left _ _) h) _) hr.units
def ZaX (C:Addr):Sp:=fun vs H Q _=>∃ (p:Addr) (t b:Int),vs=[.ref p]/\Z4u C H p t b/\0 < b/\∀ (H':Hp) (x:Addr),Z0q H H'->H x=none->H' x=some (.tup ([t,b].map V.int))->Q (.ref x) H'
section
variable {P:Program}{w:World}{K:Y00}{mg:Str->Option Value}{base:Heap}
theorem scPr:Z0k ["_law_found"] ["_law_found"] (Z0a Z69):=⟨rfl,rfl,rfl,by decide +kernel,rfl,by decide +kernel,by decide +kernel⟩
theorem ZbK {f fw C:Addr}{fd fdw:FuncData}(TB:Bi mg)(T:PTx K mg C)(F:Fn K mg "_law_pair" Z69 ["_law_found"] f fd)(FW:Fn K mg "_law_whole" Z4s ["_law_found"] fw fdw)(GW:Z0x P w K mg base CX0 1 fw fdw ["_law_found"] Z3i) :
  Z0x P w K mg base CX0 2 f fd ["_law_found"] (ZaX C):=by
 refine F.F.ok scPr (fun vs H Q E h=>?_) (fun cdv A outer s H vs Q E hr h=>?_)
 ·obtain⟨p,t,b,rfl,_⟩:=h; rfl
 ·obtain⟨p,t,b,rfl,⟨dp,hp⟩,hb,k⟩:=h
  refine⟨_,Z03 (Z0T (PW.pt (Z3L (Z2K (Z1D (Z0e Z5V rfl TB.isin Z1z (Z00 (pv 0) (Z00 (Z3W (v:=.ref C) rfl T.mgC rfl) Z05)))))
    (Z3L (Z2K (Z1D (Z0b GW hr rfl FW.m FW.F.kp FW.b .nil Z0r (Z00 (Z1A (pv 0) rfl) Z05)))) (Z4c (Z2K (Z1D (Z0b GW hr rfl FW.m FW.F.kp FW.b .nil Z0r (Z00 (Z1A (pv 0) rfl) Z05)))))))) (Z07 (Z0l Z3E)) Z0t)
   (Z03 (Z0T (Z0h Z3a (Z1A (pv 0) rfl) Z04 (Z0m _)) (Z07 (Z0l Z3E)) Z0t)
   (Z07 (Z0l (Z0S (Z00 (Z1A (pv 0) rfl) (Z00 (Z1A (pv 0) rfl) Z05)))))),?_⟩
  refine⟨_,rfl,_,_,_,_,rfl,.ins hp T.cl T.ha T.hn T.htk T.hm,T.kt,_,rfl,?_⟩
  refine Z0Z ?_
  refine⟨_,rfl,p,C,dp,_,_,rfl,hp,T.cl,T.nT,Z2z _ _,t,rfl,_,rfl,?_⟩
  refine Z0Z ?_
  refine⟨_,rfl,p,C,dp,_,_,rfl,hp,T.cl,T.nB,Z1q _ _,b,rfl,_,rfl,?_⟩
  refine Z0Z ?_
  refine⟨_,rfl,p,C,dp,_,_,rfl,hp,T.cl,T.nB,Z1q _ _,_,_,rfl,rfl,_,rfl,?_⟩
  rw[decide_eq_false (by omega)]
  refine Z0Z ?_
  refine⟨_,rfl,p,C,dp,_,_,rfl,hp,T.cl,T.nT,Z2z _ _,_,rfl,p,C,dp,_,_,rfl,hp,T.cl,T.nB,Z1q _ _,by show 2<=sizeLine; decide,fun x hx=>?_⟩
  exact k _ x (Z08 (Z0q.refl H) hx) hx Z06
end
def ZeB (C:Addr):Sp:=fun vs H Q _=>∃ (t pt:Addr) (sq:Int) (v:V) (top bot z u:Int),vs=[.ref t,.int sq,.int top,.int bot]/\H t=some (.tup [.str (Str.ofString "corner"),v,.ref pt])/\v=.int sq/\Z4u C H pt z u/\0 < u/\Bt 4000 z/\Bt 4000 u/\Bt 4000 top/\Bt 4000 bot/\z * bot=top * u/\∀ H':Hp,Z0q H H'->Q (.bl true) H'
theorem Z3O (K:Y00):Y20 K (.type "tuple") (.type "tuple")=some true:=by kernel_rfl
section
variable {P:Program}{w:World}{K:Y00}{mg:Str->Option Value}{base:Heap}
abbrev Zfu:List Str:=["_law_found","_law_square","_law_top","_law_bottom","_law_spent"]
theorem ZaM:Z0k Zfu ["_law_found","_law_square","_law_top","_law_bottom"] (Z0a Z26):=⟨rfl,rfl,rfl,by decide +kernel,rfl,by decide +kernel,by decide +kernel⟩
set_option maxHeartbeats 600000 in
theorem Zdt {f fw fp:Addr}{fd dw dp:FuncData}{C:Addr}(T:Bi mg)(F:Fn K mg "_law_is_corner" Z26 ["_law_found","_law_square","_law_top","_law_bottom"] f fd)(FW:Fn K mg "_law_whole" Z4s ["_law_found"] fw dw)(GW:Z0x P w K mg base CX0 1 fw dw ["_law_found"] Z3i)
  (FP:Fn K mg "_law_pair" Z69 ["_law_found"] fp dp) (GP:Z0x P w K mg base CX0 2 fp dp ["_law_found"] (ZaX C)):Z0x P w K mg base CX0 3 f fd ["_law_found","_law_square","_law_top","_law_bottom"] (ZeB C):=by
 refine F.F.ok ZaM (fun vs H Q E h=>?_) (fun cdv A outer s H vs Q E hr h=>?_)
 ·obtain⟨t,pt,sq,v,top,bot,z,u,rfl,_⟩:=h; rfl
 ·obtain⟨t,pt,sq,v,top,bot,z,u,rfl,ht,rfl,hp,u0,bz,bu,bt,bb,e,k⟩:=h
  have hr1:Z1g 1 _:=hr.mono (by decide)
  have hr2:Z1g 2 _:=hr.mono (by decide)
  refine⟨_,(Z03 (Z0T (PW.pt (Z3L (Z2K (Z1D (Z0e Z1i rfl T.isin Z1z (Z00 (pv 0) (Z00 (Z2R (v:=.ty "tuple") rfl T.tuple Z1I rfl) Z05))))) (Z3L (Z0h Z3q (Z0e Z0p rfl T.len PySem.boot_len (Z00 (pv 0) Z05)) Z04 (Z0m _)) (Z4c (Z0h Z3q (Z0j Z0f (pv 0) Z04 (fun _ _=>rfl)) Z1c (Z0m _)))))) (Z07 (Z0l Z6E)) Z0t)
   (Z03 (Z0d (i:=4) ZaM.nd rfl (Or.inl rfl) (Z0b GP hr2 rfl FP.m FP.F.kp FP.b .nil Z0r (Z00 (Z0j Z0f (pv 0) Z04 (fun _ _=>rfl)) Z05)))
   (Z03 (Z0T (PW.pt (Z3L (Z0h Z9c (pv 4) Z3E (Z0m _)) (Z3L (Z2K (Z1D (Z0b GW hr1 rfl FW.m FW.F.kp FW.b .nil Z0r (Z00 (Z0j Z0f (pv 0) Z04 (fun _ _=>rfl)) Z05)))) (Z4c (Z0h Z3q (Z0j Z0f (pv 0) Z04 (fun _ _=>rfl)) (pv 1) (Z0m _)))))) (Z07 (Z0l Z6E)) Z0t)
   (Z07 (Z0l (Z1B Z1k (Z0c Z0E (Z0j Z0f (pv 4) Z04 (fun _ _=>rfl)) (pv 3)) (Z0c Z0E (pv 2) (Z0j Z0f (pv 4) Z04 (fun _ _=>rfl))) (Z0m _))))))),?_⟩
  refine⟨_,rfl,_,_,_,_,rfl,.tup ht,Z3O K,_,rfl,Z0Z ?_⟩
  refine⟨_,rfl,t,_,rfl,.inr (SqT.of ht),rfl,_,rfl,Z0Z ?_⟩
  refine⟨_,rfl,t,_,0,_,rfl,rfl,SqT.of ht,Z09 (j:=0) rfl,rfl,_,rfl,?_⟩
  rw[decide_eq_true rfl]
  refine Z0Z ?_
  refine⟨_,rfl,t,_,2,_,rfl,rfl,SqT.of ht,Z09 (j:=2) rfl,pt,z,u,rfl,hp,u0,fun H1 a1 s1 _ ha1=>?_⟩
  have ht1:=s1 _ _ ht
  refine⟨_,rfl,rfl,_,rfl,?_⟩
  rw[decide_eq_false (fun z=>by cases z)]
  refine Z0Z ?_
  refine⟨_,rfl,t,_,1,_,rfl,rfl,SqT.of ht1,Z09 (j:=1) rfl,_,rfl,_,rfl,Z0Z ?_⟩
  refine⟨_,rfl,t,_,1,_,rfl,rfl,SqT.of ht1,Z09 (j:=1) rfl,_,rfl,rfl,_,rfl,?_⟩
  rw[decide_eq_true rfl]
  refine Z0Z ?_
  refine⟨_,rfl,a1,_,0,_,rfl,rfl,SqT.of ha1,Z09 (j:=0) rfl,_,rfl,_,_,rfl,rfl,⟨bz,bb⟩,?_⟩
  refine⟨_,rfl,_,rfl,a1,_,1,_,rfl,rfl,SqT.of ha1,Z09 (j:=1) rfl,_,_,rfl,rfl,⟨bt,bu⟩,rfl,?_⟩
  exact (congrArg (fun b=>Q (.bl b) H1) (decide_eq_true (congrArg V.int e))).mpr (k H1 s1)
end
theorem Z5F (p:Int):mx1 p=m1 p:=by
 unfold mx1 m1; split <;> lia
theorem ZfR (t b:Int):Z0C t b * b=t * Z0o t b:=by
 have h1:=Z1w t b
 have h2:=Z0V t b
 generalize Z0C t b=x at *
 generalize Z0o t b=y at *
 generalize dv t b=d at *
 rw[<-h1,<-h2]; ac_rfl
theorem Z8I {tx bx ty by_ p q T:Int}{n sq:Nat}{L:List Sq.Ev}(pbx:0 < bx)(pby:0 < by_)(hc:0 < dv tx bx * dv ty by_)(o:WOk p q (U6 tx bx ty by_ p q))(h:SIn n p q (U6 tx bx ty by_ p q) (A6 tx bx ty by_ p q sq))(hL:Lst p q (U6 tx bx ty by_ p q) (A6 tx bx ty by_ p q sq) (T * U6 tx bx ty by_ p q) L) :
  Lst p q (bx * (by_ * m1 q) * m1 p) ⟨sq,tx * (by_ * m1 q) * m1 p,ty * (bx * m1 p) * m1 q⟩ (T * (bx * (by_ * m1 q) * m1 p)) (L.map (scE (dv tx bx * dv ty by_))):=by
 have z:=Zdr hc o h hL
 have px:=Z0G (t:=tx) (show bx≠0 by lia)
 have py:=Z0G (t:=ty) (show by_≠0 by lia)
 have e1:=Z0V tx bx
 have e2:=Z0V ty by_
 have e3:=Z1w tx bx
 have e4:=Z1w ty by_
 have eX:uX (Z0C tx bx) (Z0o tx bx) (Z0o ty by_) p q=Z0C tx bx * (Z0o ty by_ * m1 p * m1 q):=by
  unfold uX unU
  rw[Z5F,Z5F,show Z0o tx bx * Z0o ty by_ * m1 p * m1 q=Z0o tx bx * (Z0o ty by_ * m1 p * m1 q) by ac_rfl,Int.mul_ediv_cancel_left _ (by lia)]
 have eY:uY (Z0C ty by_) (Z0o tx bx) (Z0o ty by_) p q=Z0C ty by_ * (Z0o tx bx * m1 p * m1 q):=by
  unfold uY unU
  rw[Z5F,Z5F,show Z0o tx bx * Z0o ty by_ * m1 p * m1 q=Z0o ty by_ * (Z0o tx bx * m1 p * m1 q) by ac_rfl,Int.mul_ediv_cancel_left _ (by lia)]
 have eU:U6 tx bx ty by_ p q=Z0o tx bx * Z0o ty by_ * m1 p * m1 q:=by unfold U6 unU; rw[Z5F,Z5F]
 have z2:Lst p q (dv tx bx * dv ty by_ * (Z0o tx bx * Z0o ty by_ * m1 p * m1 q)) ⟨sq,dv tx bx * dv ty by_ * (Z0C tx bx * (Z0o ty by_ * m1 p * m1 q)),dv tx bx * dv ty by_ * (Z0C ty by_ * (Z0o tx bx * m1 p * m1 q))⟩ (dv tx bx * dv ty by_ * (T * (Z0o tx bx * Z0o ty by_ * m1 p * m1 q))) (L.map (scE (dv tx bx * dv ty by_))):=by
  have z1:=z
  unfold A6 at z1
  rw[eX,eY,eU]at z1
  exact z1
 clear z eX eY eU hL h o
 revert z2
 generalize dv tx bx=d1 at *
 generalize dv ty by_=d2 at *
 generalize Z0o tx bx=b1 at *
 generalize Z0o ty by_=b2 at *
 generalize Z0C tx bx=t1 at *
 generalize Z0C ty by_=t2 at *
 intro z2
 rw[<-e1,<-e2,<-e3,<-e4]
 rw[show b1 * d1 * (b2 * d2 * m1 q) * m1 p=d1 * d2 * (b1 * b2 * m1 p * m1 q) by ac_rfl,show t1 * d1 * (b2 * d2 * m1 q) * m1 p=d1 * d2 * (t1 * (b2 * m1 p * m1 q)) by ac_rfl,show t2 * d2 * (b1 * d1 * m1 p) * m1 q=d1 * d2 * (t2 * (b1 * m1 p * m1 q)) by ac_rfl,show T * (d1 * d2 * (b1 * b2 * m1 p * m1 q))=d1 * d2 * (T * (b1 * b2 * m1 p * m1 q)) by ac_rfl]
 exact z2
theorem Zgi {t b:Int}(hb:0 < b):0 < dv t b/\dv t b<=b:=by
 have h1:=Z3A (t:=t) hb
 have h2:=Z0V t b
 have h3:=Z0G (t:=t) (show b≠0 by lia)
 have:=Int.mul_le_mul_of_nonneg_right (show 1<=Z0o t b by lia) (show 0<=dv t b by lia)
 rw[Int.one_mul,h2]at this
 exact⟨h1,this⟩
theorem Zde {t b:Int}{n:Nat}(h:Bt n b)(hb:0 < b):Bt n (dv t b):=h.le (by have:=Zgi (t:=t) hb; lia)
theorem Z4r {t b:Int}{n:Nat}(h:Bt n b)(hb:0 < b):Bt n (Z0o t b):=by
 have h1:=Z3A (t:=t) hb
 have h2:=Z0V t b
 have h3:=Z0G (t:=t) (show b≠0 by lia)
 have:=Int.mul_le_mul_of_nonneg_left (show 1<=dv t b by lia) (show 0<=Z0o t b by lia)
 rw[Int.mul_one,h2]at this
 exact h.le (by lia)
theorem Zcf {t b:Int}{n:Nat}(h:Bt n t)(hb:0 < b):Bt n (Z0C t b):=by
 have h1:=Z3A (t:=t) hb
 have h2:=Z1w t b
 refine h.le ?_
 have e:t.natAbs=(Z0C t b).natAbs * (dv t b).natAbs:=by rw[<-Int.natAbs_mul,h2]
 rw[e]
 exact Nat.le_mul_of_pos_right _ (by lia)
theorem Zai {tx bx ty by_ p q:Int}(pbx:0 < bx)(pby:0 < by_):bx * (by_ * m1 q) * m1 p=dv tx bx * dv ty by_ * U6 tx bx ty by_ p q:=by
 have e1:=Z0V tx bx
 have e2:=Z0V ty by_
 unfold U6 unU
 rw[Z5F,Z5F]
 generalize dv tx bx=d1 at *
 generalize dv ty by_=d2 at *
 generalize Z0o tx bx=b1 at *
 generalize Z0o ty by_=b2 at *
 rw[<-e1,<-e2]; ac_rfl
theorem goR {n s s':Nat}{a l:Addr}{r u:List Nat}{tx bx ty by_ p q:Int}{H:Hp}{Q:VK}{E:XK}(rr:Row n r)(ru:Row n u)(hn:n<=36)(hsh:Z5p H a r u)(hpl:Pl5 H l s tx bx ty by_)(hs:s < n)(x0:0<=tx)(x1:tx < bx)(y0:0<=ty)(y1:ty < by_)(bx12:bx < 1000000000000)(by12:by_ < 1000000000000)(hw:Way p q)
  (hR:Run r u (Z0y n (Z0w r u)) p q (U6 tx bx ty by_ p q) (A6 tx bx ty by_ p q s) (1 * U6 tx bx ty by_ p q) (A6 tx bx ty by_ p q s'))
  (k:∀ (H':Hp) (t:Addr),Z0q H H'->H' t=some (.tup [.int (s':Int),.non,.int (bx * (by_ * m1 q) * m1 p)])->Q (.ref t) H'):Za4 [.ref a,.ref l,.int p,.int q,.int 1] H Q E:=by
 obtain⟨hp,hq,hne⟩:=hw
 have pbx:0 < bx:=by lia
 have pby:0 < by_:=by lia
 have bbx:Bt 60 bx:=by show bx.natAbs < 2 ^ 60; lia
 have bby:Bt 60 by_:=by show by_.natAbs < 2 ^ 60; lia
 have hc:0 < dv tx bx * dv ty by_:=Int.mul_pos (Z3A pbx) (Z3A pby)
 have a6:=Zf0 (p:=p) (q:=q) hs x0 x1 y0 y1
 have o6:WOk p q (U6 tx bx ty by_ p q):=Z4t (Z0G (by lia)) (Z0G (by lia)) hne
 have T0:0<=1 * U6 tx bx ty by_ p q:=Int.mul_nonneg (by decide) (Int.le_of_lt o6.u)
 obtain⟨L0,hL0⟩:=Z5r rr ru o6 _ a6 T0 rfl
 have hsc:=Z8I pbx pby hc o6 a6 hL0
 have pl:=Zbm rr ru
 have mp60:m1 p<=60:=by unfold m1; split <;> lia
 have mq60:m1 q<=60:=by unfold m1; split <;> lia
 refine⟨a,l,n,s,r,u,tx,bx,ty,by_,p,q,1,60,rfl,hsh,rr,ru,hn,hpl,hs,x0,x1,y0,y1,bbx,bby,hp,hq,hne,by decide,by lia,by lia,by decide,fun H' t' s2 L s1 hL hpr ht=>?_,fun H' t' b T v L s1 hL hpr hv ht=>?_⟩
 ·rw[Z1F hL hsc,Z3u,Z6Z rr ru o6 pl hR a6 T0 hL0]at hpr
  have e:s'=s2:=by injection hpr
  subst e
  exact k H' t' s1 ht
 ·rw[Z1F hL hsc,Z3u,Z6Z rr ru o6 pl hR a6 T0 hL0]at hpr
  cases hpr
theorem goH {n s:Nat}{a l:Addr}{r u:List Nat}{tx bx ty by_ p q T':Int}{bb:Spt}{v':V}{H:Hp}{Q:VK}{E:XK}(rr:Row n r)(ru:Row n u)(hn:n<=36)(hsh:Z5p H a r u)(hpl:Pl5 H l s tx bx ty by_)(hs:s < n)(x0:0<=tx)(x1:tx < bx)(y0:0<=ty)(y1:ty < by_)(bx12:bx < 1000000000000)(by12:by_ < 1000000000000)(hw:Way p q)
  (hH:Hit r u (Z0y n (Z0w r u)) p q (U6 tx bx ty by_ p q) (A6 tx bx ty by_ p q s) (1 * U6 tx bx ty by_ p q) T' bb) (hv':Z1C n (Z0w r u) bb.s v')
  (k:∀ (H':Hp) (t:Addr),Z0q H H'->H' t=some (.tup [v',.int (dv tx bx * dv ty by_ * T'),.int (bx * (by_ * m1 q) * m1 p)])->Q (.ref t) H'):Za4 [.ref a,.ref l,.int p,.int q,.int 1] H Q E:=by
 obtain⟨hp,hq,hne⟩:=hw
 have pbx:0 < bx:=by lia
 have pby:0 < by_:=by lia
 have bbx:Bt 60 bx:=by show bx.natAbs < 2 ^ 60; lia
 have bby:Bt 60 by_:=by show by_.natAbs < 2 ^ 60; lia
 have hc:0 < dv tx bx * dv ty by_:=Int.mul_pos (Z3A pbx) (Z3A pby)
 have a6:=Zf0 (p:=p) (q:=q) hs x0 x1 y0 y1
 have o6:WOk p q (U6 tx bx ty by_ p q):=Z4t (Z0G (by lia)) (Z0G (by lia)) hne
 have T0:0<=1 * U6 tx bx ty by_ p q:=Int.mul_nonneg (by decide) (Int.le_of_lt o6.u)
 obtain⟨L0,hL0⟩:=Z5r rr ru o6 _ a6 T0 rfl
 have hsc:=Z8I pbx pby hc o6 a6 hL0
 have pl:=Zbm rr ru
 have mp60:m1 p<=60:=by unfold m1; split <;> lia
 have mq60:m1 q<=60:=by unfold m1; split <;> lia
 refine⟨a,l,n,s,r,u,tx,bx,ty,by_,p,q,1,60,rfl,hsh,rr,ru,hn,hpl,hs,x0,x1,y0,y1,bbx,bby,hp,hq,hne,by decide,by lia,by lia,by decide,fun H' t' s2 L s1 hL hpr ht=>?_,fun H' t' b T v L s1 hL hpr hv ht=>?_⟩
 ·rw[Z1F hL hsc,Z3u,Z7r rr ru o6 pl hH a6 hL0]at hpr
  cases hpr
 ·rw[Z1F hL hsc,Z3u,Z7r rr ru o6 pl hH a6 hL0]at hpr
  have e:bb.s=b/\dv tx bx * dv ty by_ * T'=T:=by injection hpr with e1 e2; exact⟨e1,e2⟩
  obtain⟨rfl,rfl⟩:=e
  have ev:=Z7U (Z2w rr ru) hv' hv
  subst ev
  exact k H' t' s1 ht
theorem Zc4 {r u F:List Nat}{tx bx ty by_ p q M T:Int}{s:Nat}{b:Spt}(pbx:0 < bx)(pby:0 < by_)(hne:¬ (p=0/\q=0))(h:Hit r u F p q (U6 tx bx ty by_ p q) (A6 tx bx ty by_ p q s) M T b):(q * tx * by_ - p * ty * bx) % (bx * by_)=0:=by
 obtain⟨h1,h2⟩:=Zc5 h
 have px:=Z0G (t:=tx) (b:=bx) (by lia)
 have py:=Z0G (t:=ty) (b:=by_) (by lia)
 have o:=Z4t (p:=p) (q:=q) px py hne
 have hU:0 < U6 tx bx ty by_ p q:=o.u
 have eX:(A6 tx bx ty by_ p q s).x * bx=tx * U6 tx bx ty by_ p q:=by
  show uX (Z0C tx bx) (Z0o tx bx) (Z0o ty by_) p q * bx=_
  unfold uX
  rw[Z9n px]
  have c:=ZfR tx bx
  have z:U6 tx bx ty by_ p q=Z0o tx bx * (Z0o ty by_ * mx1 p * mx1 q):=ZaO
  rw[z,Int.mul_assoc,Int.mul_comm _ bx,<-Int.mul_assoc,c,Int.mul_assoc]
 have eY:(A6 tx bx ty by_ p q s).y * by_=ty * U6 tx bx ty by_ p q:=by
  show uY (Z0C ty by_) (Z0o tx bx) (Z0o ty by_) p q * by_=_
  unfold uY
  rw[Z8d py]
  have c:=ZfR ty by_
  have z:U6 tx bx ty by_ p q=Z0o ty by_ * (Z0o tx bx * mx1 p * mx1 q):=Zbb
  rw[z,Int.mul_assoc,Int.mul_comm _ by_,<-Int.mul_assoc,c,Int.mul_assoc]
 generalize U6 tx bx ty by_ p q=U at *
 generalize (A6 tx bx ty by_ p q s).x=X at *
 generalize (A6 tx bx ty by_ p q s).y=Y at *
 obtain⟨k1,e1⟩:=h1
 obtain⟨k2,e2⟩:=h2
 refine Int.emod_eq_zero_of_dvd ⟨q * k1 - p * k2,?_⟩
 have z:U * (q * tx * by_ - p * ty * bx)=U * (bx * by_ * (q * k1 - p * k2)):=by
  have e3:q * (X+p * T) - p * (Y+q * T)=q * X - p * Y:=by
   rw[Int.mul_add,Int.mul_add,Int.mul_left_comm p q T]; lia
  have e4:q * X - p * Y=U * (q * k1 - p * k2):=by
   rw[<-e3,e1,e2,Int.mul_sub,Int.mul_left_comm q U,Int.mul_left_comm p U]
  have e5:U * (q * tx * by_)=bx * by_ * (q * X):=by
   have:U * (q * tx * by_)=(tx * U) * (q * by_):=by ac_rfl
   rw[this,<-eX]; ac_rfl
  have e6:U * (p * ty * bx)=bx * by_ * (p * Y):=by
   have:U * (p * ty * bx)=(ty * U) * (p * bx):=by ac_rfl
   rw[this,<-eY]; ac_rfl
  rw[Int.mul_sub,e5,e6,<-Int.mul_sub,e4]; ac_rfl
 exact Int.eq_of_mul_eq_mul_left (by lia) z
abbrev Ze3 (p q:Int):Prop:=Way p q/\Int.gcd p q=1
def Zdn (CN:Addr):Sp:=fun vs H Q E=>∃ p q:Int,vs=[.int p,.int q]/\(Ze3 p q->Q .non H)/\(¬ Ze3 p q->∀ H':Hp,Z0q H H'->E (.ref CN) none H')
section
variable {P:Program}{w:World}{K:Y00}{mg:Str->Option Value}{base:Heap}
abbrev Zge:List Str:=["p","q"]
theorem ZdO:Z0k Zge ["p","q"] (Z0a Z0Y):=⟨rfl,rfl,rfl,by decide +kernel,rfl,by decide +kernel,by decide +kernel⟩
theorem ZeN {f fn fc:Addr}{fd dn dc:FuncData}{CN:Addr}(hC:Z3c K CN)(hCm:mg "NoWay"=some (.ref CN))(F:Fn K mg "need_straight_way" Z0Y ["p","q"] f fd)(FN:Fn K mg "need_way" Z3h ["p","q"] fn dn)(GN:Z0x P w K mg base (CX1 P w) 1 fn dn ["p","q"] (ZeX CN))
  (FC:Fn K mg "common_divisor" Z11 ["one","other"] fc dc) (GC:Z0x P w K mg base CX0 1 fc dc ["one","other"] Zfj):Z0x P w K mg base (CX1 P w) 2 f fd ["p","q"] (Zdn CN):=by
 refine F.F.ok1 ZdO (fun vs H Q E h=>?_) (fun cdv A outer s H vs Q E hr h=>?_)
 ·obtain⟨p,q,rfl,_⟩:=h; rfl
 ·obtain⟨p,q,rfl,k1,k2⟩:=h
  have hr1:Z1g 1 _:=hr.mono (by decide)
  refine⟨_,(Z03 (Z1h (Z0b GN hr1 rfl FN.m FN.F.kp FN.b .nil (Zcd fun _ _ _ z=>z) (Z00 (pv 0) (Z00 (pv 1) Z05))))
   (Z07 (Z0T (Z0h Z53 (Z0b GC hr1 rfl FC.m FC.F.kp FC.b .nil Z0r (Z00 (pv 0) (Z00 (pv 1) Z05))) Z04 (Z0m _)) (Z07 (Z3T rfl hC rfl hCm Z79 (Z00 Z1c Z05))) Z0t))),?_⟩
  refine⟨_,rfl,_,rfl,p,q,rfl,fun hw=>?_,fun hw H' s'=>k2 (fun z=>hw z.1) H' s'⟩
  refine⟨_,rfl,_,rfl,p,q,rfl,_,_,rfl,rfl,_,rfl,?_⟩
  by_cases hg:Int.gcd p q=1
  ·rw[hg]
   refine Z0Z ?_
   exact k1 ⟨hw,hg⟩
  ·have h0:Int.gcd p q≠0:=fun z=>hw.2.2 (Int.gcd_eq_zero_iff.mp z)
   rw[decide_eq_true (by omega)]
   refine Z1u ?_
   exact⟨by show 1<=sizeLine; decide,k2 (fun z=>hg z.2) _ (Z0q.refl _)⟩
end
abbrev Zfe:Stmt:=Z6D Zcu 1
def Zd7 (C:Addr):Sp:=fun vs H Q _=>∃ (p q:Addr) (t b t2 b2:Int),vs=[.ref p,.ref q]/\Z4u C H p t b/\Z4u C H q t2 b2/\0 < b/\0 < b2/\Bt 1000 t/\Bt 1000 b/\Bt 1000 t2/\Bt 1000 b2/\
 ∀ (H':Hp) (x:Addr),Z0q H H'->H x=none->Z4u C H' x (Z0C (t * b2+t2 * b) (b * b2)) (Z0o (t * b2+t2 * b) (b * b2))->Q (.ref x) H'
section
variable {P:Program}{w:World}{K:Y00}{mg:Str->Option Value}{base:Heap}
theorem Zg8:Z0k ["self","other"] ["self","other"] (Z0a Zfe):=⟨rfl,rfl,rfl,by decide +kernel,rfl,by decide +kernel,by decide +kernel⟩
theorem ZbL {f fi C CN:Addr}{fd fdi:FuncData}(T:PTx K mg C)(M:Mk K C fi)(bI:Z2s K fdi ["self","top","bottom"] [])(GI:Z0x P w K mg base (CX1 P w) 2 fi fdi ["self","top","bottom"] (Z2L C CN))
  (F:MFn K C "plus" "Part.plus" Zfe ["self","other"] f fd):Z0x P w K mg base CX0 4 f fd ["self","other"] (Zd7 C):=by
 refine F.F.ok Zg8 (fun vs H Q E h=>?_) (fun cdv A outer s H vs Q E hr h=>?_)
 ·obtain⟨p,q,t,b,t2,b2,rfl,_⟩:=h; rfl
 ·obtain⟨p,q,t,b,t2,b2,rfl,⟨dp,hp⟩,⟨dq,hq⟩,p1,p2,h1,h2,h3,h4,k⟩:=h
  refine⟨_,Z07 (Z0l (Z2S M GI hr rfl T.mgC bI .nil Z3d (Z00 (Z0c Z0I (Z0c Z0E (Z1A (pv 0) rfl) (Z1A (pv 1) rfl)) (Z0c Z0E (Z1A (pv 1) rfl) (Z1A (pv 0) rfl))) (Z00 (Z0c Z0E (Z1A (pv 0) rfl) (Z1A (pv 1) rfl)) Z05)))),?_⟩
  refine⟨_,rfl,p,C,dp,_,_,rfl,hp,T.cl,T.nT,Z2z _ _,_,rfl,q,C,dq,_,_,rfl,hq,T.cl,T.nB,Z1q _ _,_,_,rfl,rfl,⟨h1.mono (by decide),h4.mono (by decide)⟩,_,rfl,q,C,dq,_,_,rfl,hq,T.cl,T.nT,Z2z _ _,_,rfl,p,C,dp,_,_,rfl,hp,T.cl,T.nB,Z1q _ _,_,_,rfl,rfl,⟨h3.mono (by decide),h2.mono (by decide)⟩,_,_,rfl,rfl,?_⟩
  refine⟨_,rfl,p,C,dp,_,_,rfl,hp,T.cl,T.nB,Z1q _ _,_,rfl,q,C,dq,_,_,rfl,hq,T.cl,T.nB,Z1q _ _,_,_,rfl,rfl,⟨h2.mono (by decide),h4.mono (by decide)⟩,?_⟩
  have hb:0 < b * b2:=Int.mul_pos p1 p2
  exact Zdz (by omega) ((h2.mul h4).mono (by decide)) k
end
def Zbz (C:Addr):Sp:=fun vs H Q _=>∃ (a l:Addr) (n sq:Nat) (r u:List Nat) (tx bx ty by_ p q:Int),vs=[.ref a,.ref l,.int p,.int q]/\Z5p H a r u/\Row n r/\Row n u/\n<=36/\P3 C H l sq (Z0C tx bx) (Z0o tx bx) (Z0C ty by_) (Z0o ty by_)/\sq < n/\0<=tx/\tx < bx/\0<=ty/\ty < by_/\Bt 60 (Z0o tx bx)/\Bt 60 (Z0o ty by_)/\Ze3 p q/\
 ∀ (H':Hp) (t:Addr),Z0q H H'->Z6h C H' t n sq r u tx bx ty by_ p q->Q (.ref t) H'
theorem Zce {t u:TT}{σ:St}{H:Hp}{R:Bool->Hp->Prop}(a b:Bool)(ht:∀ R:Bool->Hp->Prop,R a H->t σ H R)(hu:∀ R:Bool->Hp->Prop,R b H->u σ H R)(k:R (a || b) H):tOr t u σ H R:=by
 refine ht _ ?_
 cases a with
 | true=>exact k
 | false=>exact hu R k
theorem Zdk {t U:Int}{k:Nat}(hU:0 < U):Z0C (Z0C t U * Z0o (k:Int) 1+Z0C (k:Int) 1 * Z0o t U) (Z0o t U * Z0o (k:Int) 1)=Z0C (t+(k:Int) * U) U/\Z0o (Z0C t U * Z0o (k:Int) 1+Z0C (k:Int) 1 * Z0o t U) (Z0o t U * Z0o (k:Int) 1)=Z0o (t+(k:Int) * U) U:=by
 have p1:=Z0G (t:=t) (b:=U) (by lia)
 have p2:=Z0G (t:=(k:Int)) (b:=1) (by decide)
 have c1:=Z3Y (i:=t) (B:=U)
 have c2:=Z3Y (i:=(k:Int)) (B:=1)
 refine ZaJ (Int.mul_pos p1 p2) hU ?_
 generalize Z0C t U=z at *
 generalize Z0o t U=v at *
 generalize Z0C (k:Int) 1=z2 at *
 generalize Z0o (k:Int) 1=v2 at *
 rw[Int.mul_one]at c2
 subst c2
 have a1:(z * v2+(k:Int) * v2 * v) * U=(z * U) * v2+(k:Int) * v2 * v * U:=by rw[Int.add_mul,Int.mul_assoc z,Int.mul_comm v2 U,<-Int.mul_assoc]
 rw[a1,c1,Int.add_mul]
 congr 1
 ·rw[Int.mul_assoc]
 ·simp only[Int.mul_assoc,Int.mul_comm,Int.mul_left_comm]
section
variable {P:Program}{w:World}{K:Y00}{mg:Str->Option Value}{base:Heap}
abbrev Zfl:List Str:=["sheet","place","p","q","here","steps","told"]
theorem Z4N:Z0k Zfl ["sheet","place","p","q"] (Z0a Z1H):=⟨rfl,rfl,rfl,by decide +kernel,rfl,by decide +kernel,by decide +kernel⟩
set_option maxHeartbeats 1000000 in
theorem Zeo {f fn fs fv:Addr}{fd dn ds dv:FuncData}{C CP CY CN fi f1:Addr}{di d1:FuncData}{tk:Tok}(T:PTx K mg C)(M:Mk K C fi)(bJ:Z2s K di ["self","top","bottom"] [.int 1 tk])(GI:Z0x P w K mg base (CX1 P w) 2 fi di ["self","top","bottom"] (Z2L C CN))(F1:MFn K C "plus" "Part.plus" Zfe ["self","other"] f1 d1)(G1:Z0x P w K mg base CX0 4 f1 d1 ["self","other"] (Zd7 C))(F:Fn K mg "back_after" Z1H ["sheet","place","p","q"] f fd)(FN:Fn K mg "need_place" Z22 ["sheet","place"] fn dn)(GN:Z0x P w K mg base (CX1 P w) 3 fn dn ["sheet","place"] (Zdp C CP))
  (FS:Fn K mg "need_straight_way" Z0Y ["p","q"] fs ds) (GS:Z0x P w K mg base (CX1 P w) 2 fs ds ["p","q"] (Zdn CY))
  (FV:Fn K mg "walked" Z46 ["sheet","place","p","q","steps"] fv dv) (GV:Z0x P w K mg base CX0 8 fv dv ["sheet","place","p","q","steps"] (ZdW C)):Z0x P w K mg base (CX1 P w) 9 f fd ["sheet","place","p","q"] (Zbz C):=by
 refine F.F.ok1 Z4N (fun vs H Q E h=>?_) (fun cdv A outer s H vs Q E hr h=>?_)
 ·obtain⟨a,l,n,sq,r,u,tx,bx,ty,by_,p,q,rfl,_⟩:=h; rfl
 ·obtain⟨a,l,n,sq,r,u,tx,bx,ty,by_,p,q,rfl,ha,rr,ru,hn,hP,hsn,x0,x1,y0,y1,bX,bY,hw,kk⟩:=h
  have hr4:Z1g 4 _:=hr.mono (by decide)
  have hv1:Z13 [.int 1] [.int 1 tk]:=.cons ⟨_,rfl⟩ .nil
  have hr1:Z1g 1 _:=hr.mono (by decide)
  have hr2:Z1g 2 _:=hr.mono (by decide)
  have hr3:Z1g 3 _:=hr.mono (by decide)
  have hr8:Z1g 8 _:=hr.mono (by decide)
  refine⟨_,(Z03 (Z1h (Z0b GN hr3 rfl FN.m FN.F.kp FN.b .nil (Zcd fun _ _ _ z=>z) (Z00 (pv 0) (Z00 (pv 1) Z05))))
   (Z03 (Z1h (Z0b GS hr2 rfl FS.m FS.F.kp FS.b .nil (Zcd fun _ _ _ z=>z) (Z00 (pv 2) (Z00 (pv 3) Z05))))
   (PSs.nox (Z03 (Z0d (i:=4) Z4N.nd rfl (Or.inl rfl) (pv 1))
   (Z03 (Z0d (i:=5) Z4N.nd rfl (Or.inl rfl) Z04)
   (Z03 (Z1v PassesOwn.never (PW.pt (Z3L (Z0h Z1k (pv 5) Z04 (Z0m _)) (Z4c (Z0h Z3q (Z0j Z0f (pv 4) Z04 (fun _ _=>rfl)) (Z0j Z0f (pv 1) Z04 (fun _ _=>rfl)) (Z0m _))))) (Z03 (Z0d (i:=6) Z4N.nd rfl (Or.inl rfl) (Z0b GV hr8 rfl FV.m FV.F.kp FV.b .nil Z0r (Z00 (pv 0) (Z00 (pv 4) (Z00 (pv 2) (Z00 (pv 3) (Z00 Z04 Z05)))))))
   (Z03 (Z0T (Z0h Z1k (Z0j Z0f (pv 6) Z04 (fun _ _=>rfl)) Z1c (Z0m _)) (Z07 (Z0l (Z0S (Z00 Z1c (Z00 (Z0j Z0f (pv 6) Z04 (fun _ _=>rfl)) (Z00 (Zcs (Z0j Z0f (pv 6) Z04 (fun _ _=>rfl)) T.cl F1.m G1 hr4 F1.b .nil Z0r (Z00 (Z2S M GI hr3 rfl T.mgC bJ hv1 Z3d (Z00 (pv 5) Z05)) Z05)) Z05)))))) Z0t)
   (Z03 (Z0d (i:=4) Z4N.nd rfl (Or.inl rfl) (Z0j Z0f (pv 6) Z04 (fun _ _=>rfl)))
   (Z07 (ZaR (i:=5) Z4N.nd rfl (Or.inl rfl) Z04 ZaV))))))
   (Z07 (Z0l (Z0S (Z00 Z1c (Z00 (pv 5) Z05))))))))))),?_⟩
  have three:3<=sizeLine:=by decide
  obtain⟨px,py,hl,hx,hy⟩:=id hP
  obtain⟨gx0,gx1,p0,_⟩:=Z4I (show 0 < bx by lia) x0 x1
  obtain⟨gy0,gy1,p1,_⟩:=Z4I (show 0 < by_ by lia) y0 y1
  have good:ZfP n (sq:Int) (Z0C tx bx) (Z0o tx bx) (Z0C ty by_) (Z0o ty by_):=⟨by lia,by lia,Int.ediv_eq_zero_of_lt gx0 gx1,Int.ediv_eq_zero_of_lt gy0 gy1⟩
  refine⟨_,rfl,_,rfl,a,l,(sq:Int),px,py,_,_,_,_,r,u,rfl,ha,hl,hx,hy,p0,p1,bX.mono (by decide),bY.mono (by decide),fun _=>?_,fun g=>by rw[rr.len]at g; exact absurd good g⟩
  refine⟨_,rfl,_,rfl,p,q,rfl,fun _=>?_,fun z=>absurd hw z⟩
  have o:=Z4t (p:=p) (q:=q) p0 p1 hw.1.2.2
  have hM:0<=1 * unU (Z0o tx bx) (Z0o ty by_) p q:=by have:=o.u; lia
  have in0:=Zf6 (p:=p) (q:=q) gx0 gx1 gy0 gy1 hM
  obtain⟨e,he⟩:=Zbv o in0
  have hUb:=Z8X bX bY hw.1.1 hw.1.2.1
  obtain⟨g,hg⟩:∃ g:Nat->Nat,g=Z1S r u (W5 (Z0C tx bx) (Z0o tx bx) (Z0C ty by_) (Z0o ty by_) p q 1 e).w:=⟨_,rfl⟩
  have hlt:∀ s,s < n->g s < n:=fun s hs=>by rw[hg]; exact Z3l rr ru _ hs
  have inj:∀ s s',s < n->s' < n->g s=g s'->s=s':=fun s s' h h'=>by rw[hg]; exact Z6W rr ru _ h h'
  refine⟨_,rfl,?_⟩
  refine Z2b (fun σ H2=>∃ (k:Nat) (h:Addr) (o6:Option V),σ=[some (.ref a),some (.ref l),some (.int p),some (.int q),some (.ref h),some (.int (k:Int)),o6]/\Z0q H H2/\P3 C H2 h (orb g sq k) (Z0C tx bx) (Z0o tx bx) (Z0C ty by_) (Z0o ty by_)/\(∀ j,1<=j->j < k->orb g sq j≠sq)/\(∀ j,j < k->Run r u (Z0y n (Z0w r u)) p q (U6 tx bx ty by_ p q) (A6 tx bx ty by_ p q (orb g sq j)) (1 * U6 tx bx ty by_ p q) (A6 tx bx ty by_ p q (orb g sq (j+1))))) (fun σ _=>muM (n:Int) 5 σ) ?_ ?_ ?_
  ·exact⟨0,l,_,rfl,Z0q.refl H,hP,fun j h1 h2=>absurd h2 (Y1n _),fun j h2=>absurd h2 (Y1n _)⟩
  ·rintro σ H2 ⟨k,h,o6,rfl,s2,⟨qx,qy,g1,g2,g3⟩,hne,hfr⟩
   have hl2:=s2 _ _ hl
   have hok:=Z39 hlt hsn k
   refine Zce (decide ((k:Int)=0)) (!decide ((orb g sq k:Int)=(sq:Int))) (fun R hR=>⟨_,rfl,rfl,_,rfl,by rw[Z5n]; exact hR⟩) (fun R hR=>⟨_,rfl,h,_,0,_,rfl,rfl,SqT.of g1,Z09 (j:=0) rfl,_,rfl,l,_,0,_,rfl,rfl,SqT.of hl2,Z09 (j:=0) rfl,rfl,_,rfl,by rw[Z9t]; exact hR⟩) ?_
   by_cases hgo:k=0\/orb g sq k≠sq
   ·have e1:(decide ((k:Int)=0) || !decide ((orb g sq k:Int)=(sq:Int)))=true:=by
     rcases hgo with z | z
     ·rw[decide_eq_true (by lia)]; rfl
     ·rw[decide_eq_false (p:=((orb _ sq k:Nat):Int)=(sq:Int)) (by lia)]; simp
    rw[e1]
    refine Z1u ?_
    have hnk:∀ j,1<=j->j<=k->orb g sq j≠sq:=fun j j1 j2=>by
     by_cases ej:j=k
     ·subst ej
      rcases hgo with z | z
      ·lia
      ·exact z
     ·exact hne j j1 (by lia)
    have kn:k < n:=Zck hlt inj hsn hnk
    refine⟨_,rfl,_,rfl,_,rfl,_,rfl,a,h,n,_,r,u,_,_,_,_,p,q,1,rfl,ha.same s2,rr,ru,hn,⟨qx,qy,g1,g2,g3⟩,hok,gx0,gx1,gy0,gy1,bX,bY,hw.1.1,hw.1.2.1,hw.1.2.2,by decide,by decide,?_⟩
    refine Zaz rr ru hok (by decide) hw.1 x0 x1 y0 y1 (fun H3 t3 l3 s' s3 h3 p3 hs' hR hE=>?_) (fun H3 t3 pt v T bb s3 h3 lv p3 T0 T1 hH=>?_)
    ·have es:s'=orb g sq (k+1):=by rw[hE e he]; show _=g (orb g sq k); rw[hg]
     rw[es]at p3 hR
     refine⟨_,rfl,t3,_,0,_,rfl,rfl,SqT.of h3,Z09 (j:=0) rfl,rfl,_,rfl,?_⟩
     rw[decide_eq_false (show ¬ V.str (Str.ofString "there")=V.str (Str.ofString "corner") by decide +kernel)]
     refine Z0Z ?_
     refine⟨_,rfl,t3,_,1,_,rfl,rfl,SqT.of h3,Z09 (j:=1) rfl,?_⟩
     refine⟨_,rfl,_,_,rfl,rfl,⟨k+1,l3,_,rfl,s2.trans s3,p3,fun j j1 j2=>hnk j j1 (by lia),fun j j2=>?_⟩,?_⟩
     ·by_cases ej:j=k
      ·subst ej; exact hR
      ·exact hfr j (by lia)
     ·show ((n:Int) - ((k:Int)+1)).toNat < ((n:Int) - (k:Int)).toNat
      lia
    ·refine⟨_,rfl,t3,_,0,_,rfl,rfl,SqT.of h3,Z09 (j:=0) rfl,rfl,_,rfl,?_⟩
     rw[decide_eq_true rfl]
     refine Z1u ?_
     refine⟨_,rfl,t3,_,1,_,rfl,rfl,SqT.of h3,Z09 (j:=1) rfl,?_⟩
     obtain⟨dpt,hdp⟩:=id p3
     have o1:0 < U6 tx bx ty by_ p q:=o.u
     have lT:=Z8t (t:=T) (b:=U6 tx bx ty by_ p q) (by lia)
     have lB:=Z8V (t:=T) (b:=U6 tx bx ty by_ p q) (by lia)
     have hb200:(U6 tx bx ty by_ p q).natAbs < 2 ^ 200:=hUb
     have bT:Bt 1000 (Z0C T (U6 tx bx ty by_ p q)):=Bt.mono (n:=200) (by show (Z0C T _).natAbs < 2 ^ 200; lia) (by decide)
     have bB:Bt 1000 (Z0o T (U6 tx bx ty by_ p q)):=Bt.mono (n:=200) (by show (Z0o T _).natAbs < 2 ^ 200; lia) (by decide)
     have kT:=Z8t (t:=(k:Int)) (b:=1) (by decide)
     have kB:=Z8V (t:=(k:Int)) (b:=1) (by decide)
     have e60:(2:Nat) ^ 60=1152921504606846976:=by decide
     have bkT:Bt 1000 (Z0C (k:Int) 1):=Bt.mono (n:=60) (by show (Z0C (k:Int) 1).natAbs < 2 ^ 60; lia) (by decide)
     have bkB:Bt 1000 (Z0o (k:Int) 1):=Bt.mono (n:=60) (by show (Z0o (k:Int) 1).natAbs < 2 ^ 60; lia) (by decide)
     refine⟨_,rfl,t3,_,2,_,rfl,rfl,SqT.of h3,Z09 (j:=2) rfl,pt,dpt,_,rfl,hdp,Z8Z _ _ (by decide +kernel) (by decide +kernel),_,rfl,?_⟩
     intro x dx nx ndx ne
     refine Z3p (t:=(k:Int)) (b:=1) (by decide) (Bt.mono (n:=60) (by show (1:Int).natAbs < 2 ^ 60; decide) (by decide)) nx ndx fun H4 s4 p4=>⟨rfl,?_⟩
     refine⟨pt,x,_,_,_,_,rfl,p3.same s4,p4,Z0G (by lia),Z0G (by decide),bT,bB,bkT,bkB,fun H5 y s5 _ p5=>?_⟩
     rw[(Zdk o1).1,(Zdk o1).2]at p5
     refine⟨three,fun t6 ht6=>?_⟩
     have s6:=Z08 (o:=.tup [.str (Str.ofString "corner"),v,.ref y]) (Z0q.refl H5) ht6
     exact kk _ t6 (s2.trans (s3.trans (s4.trans (s5.trans s6)))) ⟨orb g sq,rfl,fun j=>Z39 hlt hsn j,Z83 hlt inj hsn,.inr ⟨k,y,v,T,bb,Z06,kn,lv,p5.same s6,T0,T1,hnk,hfr,hH⟩⟩
   ·have e1:(decide ((k:Int)=0) || !decide ((orb g sq k:Int)=(sq:Int)))=false:=by
     rw[decide_eq_false (p:=(k:Int)=0) (by lia),decide_eq_true (p:=((orb _ sq k:Nat):Int)=(sq:Int)) (by lia)]; rfl
    rw[e1]
    refine Z0Z ?_
    refine⟨_,rfl,by show 2<=sizeLine; decide,fun t ht=>?_⟩
    exact kk _ t (Z08 s2 (s2.free ht)) ⟨orb g sq,rfl,fun j=>Z39 hlt hsn j,Z83 hlt inj hsn,.inl ⟨k,Z06,by lia,by lia,hne,hfr⟩⟩
  ·rintro σ H Q Q' h' ⟨v,e1,e2,b,e3,q⟩
   refine⟨v,e1,e2,b,e3,?_⟩
   cases b with
   | true=>exact h' _ _ q
   | false=>
    rw[if_neg (by decide)]at q ⊢
    obtain⟨v1,f1,f2,f3,f4,f5,f6,f7,f8,f9,v2,c1,c2,c3,c4,c5,c6,c7,c8,c9,d1,b',d2,q'⟩:=q
    exact⟨v1,f1,f2,f3,f4,f5,f6,f7,f8,f9,v2,c1,c2,c3,c4,c5,c6,c7,c8,c9,d1,b',d2,h' _ _ q'⟩
end
def Zbr (C:Addr):Sp:=fun vs H Q _=>∃ (l:Addr) (sq:Nat) (tx bx ty by_:Int),vs=[.ref l]/\Pl5 H l sq tx bx ty by_/\0 < bx/\bx < 1000000000000/\0 < by_/\by_ < 1000000000000/\
 ∀ (H':Hp) (x:Addr),Z0q H H'->P3 C H' x sq (Z0C tx bx) (Z0o tx bx) (Z0C ty by_) (Z0o ty by_)->Q (.ref x) H'
section
variable {P:Program}{w:World}{K:Y00}{mg:Str->Option Value}{base:Heap}
abbrev Zgg:List Str:=["_law_place_here"]
theorem ZdS:Z0k Zgg ["_law_place_here"] (Z0a Z3r):=⟨rfl,rfl,rfl,by decide +kernel,rfl,by decide +kernel,by decide +kernel⟩
theorem ZdX {f:Addr}{fd:FuncData}{C CN fi:Addr}{di:FuncData}(T:PTx K mg C)(M:Mk K C fi)(bI:Z2s K di ["self","top","bottom"] [])(GI:Z0x P w K mg base (CX1 P w) 2 fi di ["self","top","bottom"] (Z2L C CN))(F:Fn K mg "_law_handed" Z3r ["_law_place_here"] f fd):Z0x P w K mg base CX0 4 f fd ["_law_place_here"] (Zbr C):=by
 refine F.F.ok ZdS (fun vs H Q E h=>?_) (fun cdv A outer s H vs Q E hr h=>?_)
 ·obtain⟨l,sq,tx,bx,ty,by_,rfl,_⟩:=h; rfl
 ·obtain⟨l,sq,tx,bx,ty,by_,rfl,⟨px,py,h1,h2,h3⟩,x0,x1,y0,y1,k⟩:=h
  have hr3:Z1g 3 _:=hr.mono (by decide)
  have hr1:Z1g 1 _:=hr.mono (by decide)
  refine⟨_,(Z07 (Z0l (Z0S (Z00 (Z0j Z0f (pv 0) Z04 (fun _ _=>rfl)) (Z00 (Z2S M GI hr3 rfl T.mgC bI .nil Z3d (Z00 (Z0j Z0f (Z0j Z0f (pv 0) Z04 (fun _ _=>rfl)) Z04 (fun _ _=>rfl)) (Z00 (Z0j Z0f (Z0j Z0f (pv 0) Z04 (fun _ _=>rfl)) Z04 (fun _ _=>rfl)) Z05))) (Z00 (Z2S M GI hr3 rfl T.mgC bI .nil Z3d (Z00 (Z0j Z0f (Z0j Z0f (pv 0) Z04 (fun _ _=>rfl)) Z04 (fun _ _=>rfl)) (Z00 (Z0j Z0f (Z0j Z0f (pv 0) Z04 (fun _ _=>rfl)) Z04 (fun _ _=>rfl)) Z05))) Z05)))))),?_⟩
  refine⟨_,rfl,l,_,0,_,rfl,rfl,SqT.of h1,Z09 (j:=0) rfl,?_⟩
  refine⟨_,rfl,l,_,1,_,rfl,rfl,SqT.of h1,Z09 (j:=1) rfl,px,_,0,_,rfl,rfl,SqT.of h2,Z09 (j:=0) rfl,_,rfl,l,_,1,_,rfl,rfl,SqT.of h1,Z09 (j:=1) rfl,px,_,1,_,rfl,rfl,SqT.of h2,Z09 (j:=1) rfl,?_⟩
  intro x dx nx ndx ne
  refine Z3p (by lia) ((Zc1 x0 x1).mono (by decide)) nx ndx fun H1 s1 p1=>⟨rfl,?_⟩
  refine⟨_,rfl,l,_,2,_,rfl,rfl,SqT.of (s1 _ _ h1),Z09 (j:=2) rfl,py,_,0,_,rfl,rfl,SqT.of (s1 _ _ h3),Z09 (j:=0) rfl,_,rfl,l,_,2,_,rfl,rfl,SqT.of (s1 _ _ h1),Z09 (j:=2) rfl,py,_,1,_,rfl,rfl,SqT.of (s1 _ _ h3),Z09 (j:=1) rfl,?_⟩
  intro x' dx' nx' ndx' ne'
  refine Z3p (by lia) ((Zc1 y0 y1).mono (by decide)) nx' ndx' fun H2 s2 p2=>⟨rfl,?_⟩
  refine⟨by show 3<=sizeLine; decide,fun t ht=>?_⟩
  have s3:=Z08 (o:=.tup [.int (sq:Int),.ref x,.ref x']) (Z0q.refl H2) ht
  exact k _ t (s1.trans (s2.trans s3)) ⟨x,x',Z06,p1.same (s2.trans s3),p2.same s3⟩
end
def Zeq (C:Addr):Sp:=fun vs H Q _=>∃ (a l t:Addr) (n sq s1:Nat) (r u:List Nat) (tx bx ty by_ p q:Int),vs=[.ref a,.ref l,.int p,.int q,.ref t]/\Z5p H a r u/\Row n r/\Row n u/\n<=36/\Pl5 H l s1 tx bx ty by_/\s1 < n/\0<=tx/\tx < bx/\0<=ty/\ty < by_/\bx < 1000000000000/\by_ < 1000000000000/\Ze3 p q/\Z6h C H t n sq r u tx bx ty by_ p q/\
 Run r u (Z0y n (Z0w r u)) p q (U6 tx bx ty by_ p q) (A6 tx bx ty by_ p q sq) (1 * U6 tx bx ty by_ p q) (A6 tx bx ty by_ p q s1)/\∀ H':Hp,Z0q H H'->Q (.bl true) H'
theorem ZaW (k:Nat):(PyData.tuple [.str (Str.ofString "back"),.int (k:Int)]).canLay0=true:=by
 show (PyData.canLay0 (.str (Str.ofString "back")) && (PyData.canLay0 (.int (k:Int)) && true))=true
 rw[show PyData.canLay0 (.str (Str.ofString "back"))=true by decide +kernel]
 rfl
theorem ZcZ (k:Nat):(PyData.tuple [.str (Str.ofString "back"),.int (k:Int)]).depth<=64:=by
 show max 0 (max 0 0)+1<=64
 decide
theorem Zbf {r u F:List Nat}{tx bx ty by_ p q M:Int}{a b c:Nat}(h:Run r u F p q (U6 tx bx ty by_ p q) (A6 tx bx ty by_ p q a) M (A6 tx bx ty by_ p q b))(g:Run r u F p q (U6 tx bx ty by_ p q) (A6 tx bx ty by_ p q a) M (A6 tx bx ty by_ p q c)):b=c:=congrArg Spt.s (Zap h g)
section
variable {P:Program}{w:World}{K:Y00}{mg:Str->Option Value}{base:Heap}
abbrev ZfO:List Str:=["_law_sheet_here","_law_place_here","_law_p","_law_q","_law_found"]
theorem ZdY:Z0k ZfO ["_law_sheet_here","_law_place_here","_law_p","_law_q","_law_found"] (Z0a Z25):=⟨rfl,rfl,rfl,by decide +kernel,rfl,by decide +kernel,by decide +kernel⟩
set_option maxHeartbeats 1000000 in
theorem ZeD {f fb fh:Addr}{fd db dh:FuncData}{C:Addr}(T:Bi mg)(F:Fn K mg "_law_same_back" Z25 ["_law_sheet_here","_law_place_here","_law_p","_law_q","_law_found"] f fd)(FB:Fn K mg "back_after" Z1H ["sheet","place","p","q"] fb db)(GB:Z0x P w K mg base (CX1 P w) 9 fb db ["sheet","place","p","q"] (Zbz C))
  (FH:Fn K mg "_law_handed" Z3r ["_law_place_here"] fh dh) (GH:Z0x P w K mg base CX0 4 fh dh ["_law_place_here"] (Zbr C)):Z0x P w K mg base CX0 10 f fd ["_law_sheet_here","_law_place_here","_law_p","_law_q","_law_found"] (Zeq C):=by
 refine F.F.ok ZdY (fun vs H Q E h=>?_) (fun cdv A outer s H vs Q E hr h=>?_)
 ·obtain⟨a,l,t,n,sq,s1,r,u,tx,bx,ty,by_,p,q,rfl,_⟩:=h; rfl
 ·obtain⟨a,l,t,n,sq,s1,r,u,tx,bx,ty,by_,p,q,rfl,hsh,rr,ru,hn,hP,hs1,x0,x1,y0,y1,bx12,by12,hw,hF,hR,kk⟩:=h
  have hr9:Z1g 9 _:=hr
  have hr1:Z1g 1 _:=hr.mono (by decide)
  have hr4:Z1g 4 _:=hr.mono (by decide)
  have hr9:Z1g 9 _:=hr.mono (by decide)
  refine⟨_,(Z03 (Z0T (PW.pt (Z3L (Z2K (Z1D (Z0e Z1i rfl T.isin Z1z (Z00 (pv 4) (Z00 (Z2R (v:=.ty "tuple") rfl T.tuple Z1I rfl) Z05))))) (Z4c (Z0h Z3q (Z0j Z0f (pv 4) Z04 (fun _ _=>rfl)) Z1c (Z0m _))))) (Z07 (Z0l Z6E)) Z0t)
   (Z07 (Z0l (Z1B Zd8 (Z0b GB hr9 rfl FB.m FB.F.kp FB.b .nil Z3d (Z00 (pv 0) (Z00 (Z0b GH hr4 rfl FH.m FH.F.kp FH.b .nil Z0r (Z00 (pv 1) Z05)) (Z00 (pv 2) (Z00 (pv 3) Z05))))) (pv 4) (Z0m _))))),?_⟩
  obtain⟨f,f0,f1,f2,hF⟩:=hF
  rcases hF with ⟨k,ht,k1,fk,fm,fr⟩ | ⟨k,pt,v,T',bb,ht,_⟩
  ·refine⟨_,rfl,_,_,_,_,rfl,.tup ht,Z3O K,_,rfl,Z0Z ?_⟩
   refine⟨_,rfl,t,_,0,_,rfl,rfl,SqT.of ht,Z09 (j:=0) rfl,rfl,_,rfl,?_⟩
   rw[decide_eq_true rfl]
   refine Z0Z ?_
   refine⟨_,rfl,_,rfl,l,s1,tx,bx,ty,by_,rfl,hP,by lia,bx12,by lia,by12,fun H1 hd q1 h3=>?_⟩
   have bbx:Bt 60 (Z0o tx bx):=Z4r (show bx.natAbs < 2 ^ 60 by lia) (by lia)
   have bby:Bt 60 (Z0o ty by_):=Z4r (show by_.natAbs < 2 ^ 60 by lia) (by lia)
   refine⟨_,rfl,_,rfl,a,hd,n,s1,r,u,tx,bx,ty,by_,p,q,rfl,hsh.same q1,rr,ru,hn,h3,hs1,x0,x1,y0,y1,bbx,bby,hw,fun H2 t2 q2 hG=>?_⟩
   obtain⟨g,g0,g1,g2,hG⟩:=hG
   have e1:s1=f 1:=by
    have z:=fr 0 (by lia)
    rw[f0]at z
    exact Zbf hR z
   have two:=Z8D (R:=fun a b=>Run r u (Z0y n (Z0w r u)) p q (U6 tx bx ty by_ p q) (A6 tx bx ty by_ p q a) (1 * U6 tx bx ty by_ p q) (A6 tx bx ty by_ p q b)) (X:=fun a=>∃ T b,Hit r u (Z0y n (Z0w r u)) p q (U6 tx bx ty by_ p q) (A6 tx bx ty by_ p q a) (1 * U6 tx bx ty by_ p q) T b) (f:=f) (g:=g) (k:=k) (fun a b c h1 h2=>Zbf h1 h2) (fun a b ⟨T,x,h1⟩ h2=>Zc6 h1 h2) f2 k1 (by rw[fk,f0]) (by rw[f0]; exact fm) fr (by rw[g0,e1])
   rcases hG with ⟨k',ht2,k1',gk,gm,gr⟩ | ⟨k',pt,v,T',bb,ht2,_,_,_,_,_,gm,gr,hH⟩
   ·obtain rfl:=two.1 k' k1' (by rw[gk,g0]) (by rw[g0]; exact gm) gr
    refine⟨_,rfl,.tuple [.str (Str.ofString "back"),.int (k':Int)],.tuple [.str (Str.ofString "back"),.int (k':Int)],.tup (SqT.of ht2) (.cons (.str _) (.cons (.int _) .nil)),.tup (SqT.of ((q1.trans q2) _ _ ht)) (.cons (.str _) (.cons (.int _) .nil)),ZaW k',ZaW k',ZdN hr (ZcZ k'),?_⟩
    have ee:PyData.eqv (.tuple [.str (Str.ofString "back"),.int (k':Int)]) (.tuple [.str (Str.ofString "back"),.int (k':Int)])=true:=by
     show ((Str.ofString "back" == Str.ofString "back") && (((k':Int) == (k':Int)) && true))=true
     simp
    rw[if_neg (by decide),ee]
    exact kk _ (q1.trans q2)
   ·exact absurd ⟨T',bb,hH⟩ (two.2 k' (by rw[g0]; exact gm) gr)
  ·refine⟨_,rfl,_,_,_,_,rfl,.tup ht,Z3O K,_,rfl,Z0Z ?_⟩
   refine⟨_,rfl,t,_,0,_,rfl,rfl,SqT.of ht,Z09 (j:=0) rfl,rfl,_,rfl,?_⟩
   rw[decide_eq_false (show ¬ V.str (Str.ofString "corner")=V.str (Str.ofString "back") by decide +kernel)]
   refine Z1u ?_
   exact kk _ (Z0q.refl _)
end
def Zf5:Sp:=fun vs H Q _=>∃ (t:Addr) (k:Nat),vs=[.ref t,.int (k:Int)]/\H t=some (.tup [.str (Str.ofString "back"),.int (k:Int)])/\Q (.bl true) H
section
variable {P:Program}{w:World}{K:Y00}{mg:Str->Option Value}{base:Heap}
abbrev ZfF:List Str:=["_law_found","_law_steps"]
theorem ZdI:Z0k ZfF ["_law_found","_law_steps"] (Z0a Z2V):=⟨rfl,rfl,rfl,by decide +kernel,rfl,by decide +kernel,by decide +kernel⟩
theorem ZdQ {f fw:Addr}{fd dw:FuncData}(T:Bi mg)(F:Fn K mg "_law_is_back" Z2V ["_law_found","_law_steps"] f fd)(FW:Fn K mg "_law_whole" Z4s ["_law_found"] fw dw)(GW:Z0x P w K mg base CX0 1 fw dw ["_law_found"] Z3i):Z0x P w K mg base CX0 2 f fd ["_law_found","_law_steps"] Zf5:=by
 refine F.F.ok ZdI (fun vs H Q E h=>?_) (fun cdv A outer s H vs Q E hr h=>?_)
 ·obtain⟨t,k,rfl,_⟩:=h; rfl
 ·obtain⟨t,k,rfl,ht,kk⟩:=h
  have hr1:Z1g 1 _:=hr.mono (by decide)
  refine⟨_,(Z03 (Z0T (PW.pt (Z3L (Z2K (Z1D (Z0e Z1i rfl T.isin Z1z (Z00 (pv 0) (Z00 (Z2R (v:=.ty "tuple") rfl T.tuple Z1I rfl) Z05))))) (Z3L (Z0h Z3q (Z0e Z0p rfl T.len PySem.boot_len (Z00 (pv 0) Z05)) Z04 (Z0m _)) (Z4c (Z0h Z3q (Z0j Z0f (pv 0) Z04 (fun _ _=>rfl)) Z1c (Z0m _)))))) (Z07 (Z0l Z6E)) Z0t)
   (Z07 (Z0l (Z4F (Z0b GW hr1 rfl FW.m FW.F.kp FW.b .nil Z0r (Z00 (Z0j Z0f (pv 0) Z04 (fun _ _=>rfl)) Z05)) (Z4S (Z1B Z1k (Z0j Z0f (pv 0) Z04 (fun _ _=>rfl)) (pv 1) (Z0m _))))))),?_⟩
  refine⟨_,rfl,_,_,_,_,rfl,.tup ht,Z3O K,_,rfl,Z0Z ?_⟩
  refine⟨_,rfl,t,_,rfl,.inr (SqT.of ht),rfl,_,rfl,Z0Z ?_⟩
  refine⟨_,rfl,t,_,0,_,rfl,rfl,SqT.of ht,Z09 (j:=0) rfl,rfl,_,rfl,?_⟩
  rw[decide_eq_true rfl]
  refine Z0Z ?_
  refine⟨_,rfl,t,_,1,_,rfl,rfl,SqT.of ht,Z09 (j:=1) rfl,_,rfl,_,rfl,?_⟩
  refine Z1u ?_
  refine⟨_,rfl,t,_,1,_,rfl,rfl,SqT.of ht,Z09 (j:=1) rfl,_,rfl,rfl,?_⟩
  exact (congrArg (fun b=>Q (.bl b) H) (decide_eq_true rfl)).mpr kk
end
def ZaS:Sp:=fun vs H Q _=>∃ a b:Int,vs=[.int a,.int b]/\Q (.int ((Int.gcd a b:Nat):Int)) H
section
variable {P:Program}{w:World}{K:Y00}{mg:Str->Option Value}{base:Heap}
theorem scPv:Z0k ["_law_one","_law_other"] ["_law_one","_law_other"] (Z0a Z2x):=⟨rfl,rfl,rfl,by decide +kernel,rfl,by decide +kernel,by decide +kernel⟩
theorem ZbS {f:Addr}{fd:FuncData}(hA:mg "abs"=none)(F:Fn K mg "_law_divisor" Z2x ["_law_one","_law_other"] f fd):Z0x P w K mg base CX0 1 f fd ["_law_one","_law_other"] ZaS:=by
 refine F.F.ok scPv (fun vs H Q E h=>?_) (fun cdv A outer s H vs Q E hr h=>?_)
 ·obtain⟨a,b,rfl,_⟩:=h; rfl
 ·obtain⟨a,b,rfl,k⟩:=h
  refine⟨_,Z03 (Z1v PassesOwn.never (Z0h Z3q (pv 1) Z04 (Z0m _))
    (Z07 (Zez (i:=0) (j:=1) rfl scPv.nd rfl rfl (by decide) rfl rfl (Z00 (pv 1) (Z00 (Z0c Zcc (pv 0) (pv 1)) Z05)) rfl)))
   (Z07 (Z0l (Z0e Z0O rfl hA Z0P (Z00 (pv 0) Z05)))),?_⟩
  refine Z2b (fun σ H'=>H'=H/\∃ (x y:Int),σ=[some (.int x),some (.int y)]/\Int.gcd x y=Int.gcd a b)
   (fun σ _=>match σ with | [_,some (.int y)]=>y.natAbs | _=>0) ⟨rfl,a,b,rfl,rfl⟩ ?_ ?_
  ·rintro σ H' ⟨rfl,x,y,rfl,hg⟩
   refine⟨_,rfl,rfl,_,rfl,?_⟩
   refine Z5m (fun h=>?_) (fun h=>?_)
   ·have hy:y≠0:=by simpa using h
    refine⟨_,rfl,_,rfl,_,rfl,_,_,rfl,rfl,hy,_,_,rfl,?_⟩
    refine⟨⟨rfl,y,x.fmod y,rfl,?_⟩,ZbF hy⟩
    rw[Z9F]; exact hg
   ·have hy:y=0:=by simpa using h
    subst hy
    rw[Int.gcd_zero_right]at hg
    refine⟨_,rfl,_,rfl,?_⟩
    rw[show (if x < 0 then -x else x)=((x.natAbs:Nat):Int) by split <;> omega,hg]; exact k
  ·rintro σ H' Q1 Q2 hq ⟨x,e1,e2,y,e3,e4⟩
   exact⟨x,e1,e2,y,e3,hq _ _ e4⟩
end
def Zek (K:Y00)(C:Addr)(m qual:Str)(st:Stmt):Prop:=∃ f fd,Fun K m qual st f fd/\Zd3 K C m f
theorem Z8a {K:Y00}{C:Addr}{m qual:Str}{st:Stmt}{f:Addr}{oc:Value}{od an:Option Addr}{osl:Array (Option Value)}{kV doc pm cdv ct:Value}(a:Y0u K (.ref C) m=some (some (.ref f)))(i:PySem.W.isFn K (.ref f)=true)
  (l:K.lookup f=some ⟨oc,od,.func (Y1l m qual (Z1r st) (Z1b st) (Z0a st) .none kV doc pm an cdv ct),osl⟩) (c:PySem.W.codeIn K cdv qual=true) (k:Y1s K (.ref f)=true):Zek K C m qual st:=
 ⟨f,_,ZaF l c k,a,i,k⟩
theorem Zek.fn {K:Y00}{C:Addr}{m qual:Str}{st:Stmt}{ps:List Str}(R:Zek K C m qual st)
  (b:∀ (kV doc pm:Value) (an:Option Addr) (cdv ct:Value) (us:List Value),us.length=ps.length->bindArgs (Y1l m qual (Z1r st) (Z1b st) (Z0a st) .none kV doc pm an cdv ct) ⟨us,[]⟩=pure (ps.zip us)):∃ f fd,MFn K C m qual st ps f fd:=by
 obtain⟨f,fd,F,M⟩:=R
 exact⟨f,fd,F,F.binds b,M⟩
structure PIn (K:Y00)(C:Addr)(f:Addr)(fd:FuncData):Prop where
 M:Mk K C f
 F:∃ dV,Zf1 K "__init__" "Part.__init__" Z4O dV f fd
 b:Z2s K fd ["self","top","bottom"] []
 b1:∃ tk,Z2s K fd ["self","top","bottom"] [.int 1 tk]
theorem ZcW {K:Y00}{C f Td:Addr}{oc tc:Value}{od an td:Option Addr}{osl tsl:Array (Option Value)}{kV doc pm cdv ct:Value}{tk:Tok}{tn:Nat}(mk:PySem.W.makesIn K C=true)(kc:Y1s K (.ref C)=true)
  (a:Y0u K (.ref C) "__init__"=some (some (.ref f))) (i:PySem.W.isFn K (.ref f)=true)
  (l:K.lookup f=some ⟨oc,od,.func (Y1l "__init__" "Part.__init__" (Z1r Z4O) (Z1b Z4O) (Z0a Z4O) (.ref Td) kV doc pm an cdv ct),osl⟩) (c:PySem.W.codeIn K cdv "Part.__init__"=true) (k:Y1s K (.ref f)=true)
  (t:K.lookup Td=some ⟨tc,td,.seq #[.int 1 tk] tn,tsl⟩):∃ fd,PIn K C f fd:=by
 refine⟨_,⟨mk,a,i,kc⟩,⟨_,ZbY l c k⟩,fun s us hK hl=>?_,tk,fun s us hK hl=>?_⟩
 ·have hl':us.length=3:=by simpa using hl
  match us,hl' with
  | [x,y,z],_=>exact PySem.W.binds_K hK rfl t rfl rfl rfl
 ·have hl':us.length=2:=by simpa using hl
  match us,hl' with
  | [x,y],_=>exact PySem.W.binds_K hK rfl t rfl rfl rfl
structure Zft (K:Y00)(C:Addr):Prop where
 pg:PySem.W.plainGet K C Str.empty=true
 hd:PySem.W.hasDictIn K C=true
 po:PySem.W.plainOver K C=true
 sa:Y0u K (.ref C) "__setattr__"=some (some (.builtin "object.__setattr__"))
 nT:Y0u K (.ref C) "top"=some none
 nB:Y0u K (.ref C) "bottom"=some none
 ha:Y0u K (.ref C) "__class__"=some (some (.builtin "object.__class__"))
 hn:PySem.W.specialIn K (.builtin "object.__class__") "__get__"=some (some (.builtin "getset_descriptor.__get__"))
 htk:PySem.W.takesIn K (.builtin "object.__class__")=some true
 hm:PySem.W.mroIn K C (.type "object")=some true
theorem ZbM (K:Y00)(C:Addr):Y20 K (.ref C) (.ref C)=some true:=by
 unfold Y20
 rw[if_pos (beq_self_eq_true _)]
theorem Zft.tx {K:Y00}{mg:Str->Option Value}{C:Addr}(h:Zft K C)(m:mg "Part"=some (.ref C)):PTx K mg C:=
 ⟨⟨h.pg,h.hd,h.po,h.sa⟩,h.nT,h.nB,m,ZbM K C,h.ha,h.hn,h.htk,h.hm⟩
def ZaA:Sp:=fun vs H Q _=>∃ (c:Int),vs=[.int c]/\∀ (H':Hp) (x:Addr) (p q:Int),Z0q H H'->H' x=some (.tup [.int p,.int q])->Way p q->Q (.ref x) H'
section
variable {P:Program}{w:World}{K:Y00}{mg:Str->Option Value}{base:Heap}
abbrev Zgb:List Str:=["_law_cell_here","_law_p","_law_q"]
theorem Z6X:Z0k Zgb ["_law_cell_here"] (Z0a Z1J):=⟨rfl,rfl,rfl,by decide +kernel,rfl,by decide +kernel,by decide +kernel⟩
theorem ZeC {f:Addr}{fd:FuncData}(F:Fn K mg "_law_direction" Z1J ["_law_cell_here"] f fd):Z0x P w K mg base CX0 1 f fd ["_law_cell_here"] ZaA:=by
 refine F.F.ok Z6X (fun vs H Q E h=>?_) (fun cdv A outer s H vs Q E hr h=>?_)
 ·obtain⟨c,rfl,_⟩:=h; rfl
 ·obtain⟨c,rfl,k⟩:=h
  refine⟨_,(Z03 (Z0d (i:=1) Z6X.nd rfl (Or.inl rfl) (Z0c Z24 (Z0c Z0K (pv 0) Z04) Z04))
   (Z03 (Z0d (i:=2) Z6X.nd rfl (Or.inl rfl) (Z0c Z24 (Z0c Z0K (Z0c Z16 (pv 0) Z04) Z04) Z04))
   (Z03 (Z0T (PW.pt (Z2n (Z0h Z1k (pv 1) Z04 (Z0m _)) (Z1Z (Z0h Z1k (pv 2) Z04 (Z0m _))))) (Z07 (Z0d (i:=2) Z6X.nd rfl (Or.inl rfl) Z04)) Z0t)
   (Z07 (Z0l (Z0S (Z00 (pv 1) (Z00 (pv 2) Z05)))))))),?_⟩
  have two:2<=sizeLine:=by decide
  refine⟨_,rfl,_,_,rfl,rfl,(by show (0:Int) < 11; decide),_,_,rfl,rfl,?_⟩
  refine⟨_,rfl,_,_,rfl,rfl,⟨by decide,by decide⟩,_,_,rfl,rfl,(by show (0:Int) < 11; decide),_,_,rfl,rfl,?_⟩
  dsimp only
  obtain⟨p,hp⟩:∃ x:Int,c % 11 - 5=x:=⟨_,rfl⟩
  obtain⟨q,hq⟩:∃ x:Int,c / 11 % 11 - 5=x:=⟨_,rfl⟩
  rw[hp,hq]
  refine⟨_,rfl,rfl,_,rfl,?_⟩
  rw[Z5n]
  by_cases e1:p=0
  ·rw[decide_eq_true e1]
   refine Z1u ?_
   refine⟨_,rfl,rfl,_,rfl,?_⟩
   rw[Z5n]
   by_cases e2:q=0
   ·rw[decide_eq_true e2]
    refine Z1u ?_
    exact⟨_,rfl,_,rfl,two,fun t ht=>k _ t p 1 (Z08 (Z0q.refl H) ht) Z06 ⟨by omega,by decide,by omega⟩⟩
   ·rw[decide_eq_false e2]
    refine Z0Z ?_
    exact⟨_,rfl,_,rfl,two,fun t ht=>k _ t p q (Z08 (Z0q.refl H) ht) Z06 ⟨by omega,by omega,by omega⟩⟩
  ·rw[decide_eq_false e1]
   refine Z0Z ?_
   refine Z0Z ?_
   exact⟨_,rfl,_,rfl,two,fun t ht=>k _ t p q (Z08 (Z0q.refl H) ht) Z06 ⟨by omega,by omega,by omega⟩⟩
abbrev ZfE:List Str:=["_law_cell_here","_law_p","_law_q"]
theorem Z78:Z0k ZfE ["_law_cell_here"] (Z0a Z1d):=⟨rfl,rfl,rfl,by decide +kernel,rfl,by decide +kernel,by decide +kernel⟩
theorem Zdu {f:Addr}{fd:FuncData}(F:Fn K mg "_law_any_direction" Z1d ["_law_cell_here"] f fd):Z0x P w K mg base CX0 1 f fd ["_law_cell_here"] ZaA:=by
 refine F.F.ok Z78 (fun vs H Q E h=>?_) (fun cdv A outer s H vs Q E hr h=>?_)
 ·obtain⟨c,rfl,_⟩:=h; rfl
 ·obtain⟨c,rfl,k⟩:=h
  refine⟨_,(Z03 (Z0d (i:=1) Z78.nd rfl (Or.inl rfl) (Z0c Z24 (Z0c Z0K (pv 0) Z04) Z04))
   (Z03 (Z0d (i:=2) Z78.nd rfl (Or.inl rfl) (Z0c Z24 (Z0c Z0K (Z0c Z16 (pv 0) Z04) Z04) Z04))
   (Z03 (Z0T (PW.pt (Z2n (Z0h Z1k (pv 1) Z04 (Z0m _)) (Z1Z (Z0h Z1k (pv 2) Z04 (Z0m _))))) (Z07 (Z0d (i:=2) Z78.nd rfl (Or.inl rfl) Z04)) Z0t)
   (Z07 (Z0l (Z0S (Z00 (pv 1) (Z00 (pv 2) Z05)))))))),?_⟩
  have two:2<=sizeLine:=by decide
  refine⟨_,rfl,_,_,rfl,rfl,(by show (0:Int) < 121; decide),_,_,rfl,rfl,?_⟩
  refine⟨_,rfl,_,_,rfl,rfl,⟨by decide,by decide⟩,_,_,rfl,rfl,(by show (0:Int) < 121; decide),_,_,rfl,rfl,?_⟩
  dsimp only
  obtain⟨p,hp⟩:∃ x:Int,c % 121 - 60=x:=⟨_,rfl⟩
  obtain⟨q,hq⟩:∃ x:Int,c / 121 % 121 - 60=x:=⟨_,rfl⟩
  rw[hp,hq]
  refine⟨_,rfl,rfl,_,rfl,?_⟩
  rw[Z5n]
  by_cases e1:p=0
  ·rw[decide_eq_true e1]
   refine Z1u ?_
   refine⟨_,rfl,rfl,_,rfl,?_⟩
   rw[Z5n]
   by_cases e2:q=0
   ·rw[decide_eq_true e2]
    refine Z1u ?_
    exact⟨_,rfl,_,rfl,two,fun t ht=>k _ t p 60 (Z08 (Z0q.refl H) ht) Z06 ⟨by omega,by decide,by omega⟩⟩
   ·rw[decide_eq_false e2]
    refine Z0Z ?_
    exact⟨_,rfl,_,rfl,two,fun t ht=>k _ t p q (Z08 (Z0q.refl H) ht) Z06 ⟨by omega,by omega,by omega⟩⟩
  ·rw[decide_eq_false e1]
   refine Z0Z ?_
   refine Z0Z ?_
   exact⟨_,rfl,_,rfl,two,fun t ht=>k _ t p q (Z08 (Z0q.refl H) ht) Z06 ⟨by omega,by omega,by omega⟩⟩
end
def Zdx:Sp:=fun vs H Q _=>∃ (c m:Int),vs=[.int c,.int m]/\0 < m/\m<=999999999999/\∀ (H':Hp) (x:Addr) (t b:Int),Z0q H H'->Pr5 H' x t b->0<=t->t < b->b<=m->Q (.ref x) H'
section
variable {P:Program}{w:World}{K:Y00}{mg:Str->Option Value}{base:Heap}
abbrev Zfo:List Str:=["_law_cell_here","_law_most","_law_bottom"]
theorem Zb8:Z0k Zfo ["_law_cell_here","_law_most"] (Z0a Z2y):=⟨rfl,rfl,rfl,by decide +kernel,rfl,by decide +kernel,by decide +kernel⟩
theorem Zdg {f:Addr}{fd:FuncData}(F:Fn K mg "_law_any_part" Z2y ["_law_cell_here","_law_most"] f fd):Z0x P w K mg base CX0 1 f fd ["_law_cell_here","_law_most"] Zdx:=by
 refine F.F.ok Zb8 (fun vs H Q E h=>?_) (fun cdv A outer s H vs Q E hr h=>?_)
 ·obtain⟨c,m,rfl,_⟩:=h; rfl
 ·obtain⟨c,m,rfl,m0,m1,k⟩:=h
  refine⟨_,(Z03 (Z0d (i:=2) Zb8.nd rfl (Or.inl rfl) (Z0c Z0I Z04 (Z0c Z0K (pv 0) (pv 1))))
   (Z07 (Z0l (Z0S (Z00 (Z0c Z0K (Z0c Z1E (pv 0) (pv 1)) (pv 2)) (Z00 (pv 2) Z05)))))),?_⟩
  have two:2<=sizeLine:=by decide
  refine⟨_,rfl,_,rfl,_,_,rfl,rfl,m0,_,_,rfl,rfl,?_⟩
  have e0:=Int.emod_nonneg c (show m≠0 by omega)
  have e1:=Int.emod_lt_of_pos c m0
  obtain⟨B,hB⟩:∃ x:Int,1+c % m=x:=⟨_,rfl⟩
  dsimp only
  rw[hB]
  refine⟨_,rfl,_,rfl,_,_,rfl,rfl,⟨by omega,(Zc1 m0 (by omega)).mono (by decide)⟩,_,rfl,_,_,rfl,rfl,(by show 0 < B; omega),_,rfl,two,fun t ht=>?_⟩
  exact k _ t _ _ (Z08 (Z0q.refl H) ht) Z06 (Int.emod_nonneg _ (by omega)) (Int.emod_lt_of_pos _ (by omega)) (by omega)
end
def Zej:Sp:=fun vs H Q _=>∃ (c m:Int) (n:Nat),vs=[.int c,.int (n:Int),.int m]/\1<=n/\n<=36/\0 < m/\m<=999999999999/\
 ∀ (H':Hp) (l:Addr) (sq:Nat) (tx bx ty by_:Int),Z0q H H'->Pl5 H' l sq tx bx ty by_->sq < n->0<=tx->tx < bx->bx<=m->0<=ty->ty < by_->by_<=m->Q (.ref l) H'
section
variable {P:Program}{w:World}{K:Y00}{mg:Str->Option Value}{base:Heap}
abbrev ZfB:List Str:=["_law_cell_here","_law_many","_law_most"]
theorem Zf4:Z0k ZfB ["_law_cell_here","_law_many","_law_most"] (Z0a Z27):=⟨rfl,rfl,rfl,by decide +kernel,rfl,by decide +kernel,by decide +kernel⟩
theorem Ze4 {f fp:Addr}{fd dp:FuncData}(F:Fn K mg "_law_any_place" Z27 ["_law_cell_here","_law_many","_law_most"] f fd)(FP:Fn K mg "_law_any_part" Z2y ["_law_cell_here","_law_most"] fp dp)(GP:Z0x P w K mg base CX0 1 fp dp ["_law_cell_here","_law_most"] Zdx):Z0x P w K mg base CX0 2 f fd ["_law_cell_here","_law_many","_law_most"] Zej:=by
 refine F.F.ok Zf4 (fun vs H Q E h=>?_) (fun cdv A outer s H vs Q E hr h=>?_)
 ·obtain⟨c,m,n,rfl,_⟩:=h; rfl
 ·obtain⟨c,m,n,rfl,n0,n1,m0,m1,k⟩:=h
  have hr1:Z1g 1 _:=hr.mono (by decide)
  refine⟨_,(Z07 (Z0l (Z0S (Z00 (Z0c Z0K (pv 0) (pv 1)) (Z00 (Z0b GP hr1 rfl FP.m FP.F.kp FP.b .nil Z0r (Z00 (Z0c Z1E (pv 0) (pv 1)) (Z00 (pv 2) Z05))) (Z00 (Z0b GP hr1 rfl FP.m FP.F.kp FP.b .nil Z0r (Z00 (Z0c Z1E (Z0c Z1E (Z0c Z1E (pv 0) (pv 1)) (pv 2)) (pv 2)) (Z00 (pv 2) Z05))) Z05)))))),?_⟩
  have three:3<=sizeLine:=by decide
  have n0':(0:Int) < (n:Int):=by omega
  refine⟨_,rfl,_,rfl,_,_,rfl,rfl,n0',?_⟩
  refine⟨_,rfl,_,rfl,_,_,rfl,rfl,⟨by omega,(Zc1 n0' (by omega)).mono (by decide)⟩,_,rfl,_,m,rfl,m0,m1,fun H1 x tx bx s1 hx x0 x1 x2=>?_⟩
  refine⟨_,rfl,_,rfl,_,_,rfl,rfl,⟨by omega,(Zc1 n0' (by omega)).mono (by decide)⟩,_,rfl,_,_,rfl,rfl,⟨by omega,(Zc1 m0 (by omega)).mono (by decide)⟩,_,rfl,_,_,rfl,rfl,⟨by omega,(Zc1 m0 (by omega)).mono (by decide)⟩,_,rfl,_,m,rfl,m0,m1,fun H2 y ty by_ s2 hy y0 y1 y2=>?_⟩
  refine⟨three,fun t ht=>?_⟩
  obtain⟨sq,hsq⟩:=Int.eq_ofNat_of_zero_le (Int.emod_nonneg c (show (n:Int)≠0 by omega))
  have hlt:=Int.emod_lt_of_pos c n0'
  have s3:=Z08 (o:=.tup [.int (c % (n:Int)),.ref x,.ref y]) (Z0q.refl H2) ht
  refine k _ t sq tx bx ty by_ (s1.trans (s2.trans s3)) ⟨x,y,?_,s3 _ _ (s2 _ _ hx),s3 _ _ hy⟩ (by omega) x0 x1 x2 y0 y1 y2
  rw[<-hsq]; exact Z06
end
def Zd5 (K:Y00):Sp:=fun vs H Q _=>∃ (a:Addr) (ns:List Int) (j:Int) (n:Nat),vs=[.ref a,.int j,.int (n:Int)]/\SqL K H a (ns.map V.int)/\0<=j/\j < 900000/\n<=36/\
 ∀ (H':Hp) (p:Addr) (r:List Nat),Z0q H H'->H p=none->H' p=some (.lst (nv r))->Row n r->Q (.ref p) H'
section
variable {P:Program}{w:World}{K:Y00}{mg:Str->Option Value}{base:Heap}
abbrev nRow:List Str:=["_law_script","_law_at","_law_many","_law_left","_law_row_here","_law_k"]
theorem Zaq:Z0k nRow ["_law_script","_law_at","_law_many"] (Z0a Z9x):=⟨rfl,rfl,rfl,by decide +kernel,rfl,by decide +kernel,by decide +kernel⟩
theorem ZeQ {f fc:Addr}{fd fdc:FuncData}(T:Bi mg)(F:Fn K mg "_law_row" Z9x ["_law_script","_law_at","_law_many"] f fd)(FC:Fn K mg "_law_cell" Z5c ["_law_script","_law_k"] fc fdc)(GC:Z0x P w K mg base CX0 1 fc fdc ["_law_script","_law_k"] (Z2j K)) :
  Z0x P w K mg base CX0 2 f fd ["_law_script","_law_at","_law_many"] (Zd5 K):=by
 refine F.F.ok Zaq (fun vs H Q E h=>?_) (fun cdv A outer s H vs Q E hr h=>?_)
 ·obtain⟨a,ns,j,n,rfl,_⟩:=h; rfl
 ·obtain⟨a,ns,j,n,rfl,hS,h0,hj,hn,k⟩:=h
  refine⟨_,Z03 (Z0d (i:=3) Zaq.nd rfl (Or.inl rfl) (Z15 (Z31 rfl) rfl T.list Z42 (Z00 (Z15 Z4l rfl T.range PyProof.Rows.boot_range (Z00 (pv 2) Z05)) Z05)))
   (Z03 (Z0d (i:=4) Zaq.nd rfl (Or.inl rfl) (Z2u Z05))
   (Z03 (Z2m PassesOwn.never rfl (Z1L rfl T.range (Z00 (pv 2) Z05)) (Z0u (i:=5) Zaq.nd rfl (Or.inl rfl))
    (Z07 (Z1h (Z2H PySem.F.plainAttrs_list PySem.F.slot_list_append PySem.F.type_list_append Z0M (pv 4) (Z00
     (Z2H PySem.F.plainAttrs_list PySem.F.slot_list_pop PySem.F.type_list_pop Z7f (pv 3) (Z00 (Z0c Z0K (Z0b GC hr rfl FC.m FC.F.kp FC.b .nil Z0r (Z00 (pv 0) (Z00 (Z0c Z0I (pv 1) (pv 5)) Z05))) (Z0e Z0p (by rfl) T.len PySem.boot_len (Z00 (pv 3) Z05))) Z05)) Z05)))))
   (Z07 (Z0l (pv 4))))),?_⟩
  refine⟨_,rfl,(n:Int),rfl,fun r0 hr0=>⟨r0,n,rfl,Z06,by lia,fun lf hlf=>?_⟩⟩
  refine⟨Y0s _,fun ln hln=>?_⟩
  have nlfr:lf≠r0:=fun e=>by rw[e,Z06]at hlf; cases hlf
  have f0:H lf=none:=by rwa [Z0i nlfr]at hlf
  have nlnl:ln≠lf:=fun e=>by rw[e,Z06]at hln; cases hln
  have g0:(upd H r0 (.rng 0 (n:Int))) ln=none:=by rwa [Z0i nlnl]at hln
  have nlnr:ln≠r0:=fun e=>by rw[e,Z06]at g0; cases g0
  have g1:H ln=none:=by rwa [Z0i nlnr]at g0
  refine⟨_,rfl,(n:Int),rfl,by lia,by lia,?_⟩
  rw[Int.toNat_natCast]
  refine Z23 (n:=n) (fun i σ H3=>∃ (o5:Option V) (line left:List Nat),σ=[some (.ref a),some (.int j),some (.int (n:Int)),some (.ref lf),some (.ref ln),o5]/\
   Z0q H H3/\H3 lf=some (.lst (nv left))/\H3 ln=some (.lst (nv line))/\line.length=i/\(line++left).Perm (Y05 n)) ?_ ?_ ?_
  ·refine⟨_,[],Y05 n,rfl,Z08 (Z08 (Z08 (Z0q.refl H) hr0) f0) g1,by rw[Z0i nlnl.symm,Z06],Z06,rfl,List.Perm.refl _⟩
  ·rintro i σ H3 hi ⟨o5,line,left,rfl,s3,hlf3,hln3,hlen,hp⟩
   have hleft:left.length=n - i:=by
    have:=hp.length_eq
    simp only[Y0e,Y0p]at this
    lia
   have hpos:0 < left.length:=by lia
   refine⟨_,rfl,.inl ⟨rfl,_,SqL.of hln3⟩,_,rfl,.inl ⟨rfl,_,SqL.of hlf3⟩,_,rfl,_,rfl,_,rfl,_,_,rfl,rfl,a,ns,_,rfl,s3.seq hS,by lia,by lia,fun v=>?_⟩
   refine⟨_,rfl,lf,_,rfl,.inl (SqL.of hlf3),_,_,rfl,rfl,?_,?_⟩
   ·rw[Z0z]; lia
   refine Z9a hlf3 hpos (by lia) fun kx y hy=>?_
   have e3:(upd H3 lf (.lst (nv (left.eraseIdx kx)))) ln=some (.lst (nv line)):=by rw[Z0i nlnl]; exact hln3
   refine⟨ln,_,_,rfl,rfl,e3,?_,?_⟩
   ·rw[Z0z]; exact Z0A (by lia)
   refine⟨_,line++[y],left.eraseIdx kx,rfl,Z08 (Z08 s3 f0) g1,?_,?_,?_,Z77 hp hy⟩
   ·rw[Z0i nlnl.symm,Z06]
   ·rw[Z06,Z2r]
   ·rw[Y0e,hlen]; rfl
  ·rintro σ H3 ⟨o5,line,left,rfl,s3,hlf3,hln3,hlen,hp⟩
   have hl0:left=[]:=by
    have:=hp.length_eq
    simp only[Y0e,Y0p]at this
    exact List.length_eq_zero_iff.mp (by lia)
   have hrow:Row n line:=Row.of_perm (by rw[hl0,Y19]at hp; exact hp)
   exact⟨_,rfl,k H3 ln line s3 g1 hln3 hrow⟩
end
def ZdH (K:Y00):Sp:=fun vs H Q _=>∃ (pr pu:Addr) (n:Nat) (r u:List Nat),vs=[.ref pr,.ref pu]/\Z3j K H pr r/\Z3j K H pu u/\Row n r/\Row n u/\1<=n/\n<=36/\
 ∀ (H':Hp) (a:Addr) (m:Nat) (r' u':List Nat),Z0q H H'->Z5p H' a r' u'->Zcz m r' u'->m<=n->Q (.ref a) H'
section
variable {P:Program}{w:World}{K:Y00}{mg:Str->Option Value}{base:Heap}
abbrev Zfw:List Str:=["_law_first","_law_second","_law_have","_law_at","_law_row_here","_law_kept"]
theorem Z7J:Z0k Zfw ["_law_first","_law_second"] (Z0a Z1s):=⟨rfl,rfl,rfl,by decide +kernel,rfl,by decide +kernel,by decide +kernel⟩
theorem ZfH:(["_law_k","_law_kept","_law_first"]:List Str).Nodup:=by decide +kernel
theorem ZfW:(["_law_k","_law_kept","_law_second"]:List Str).Nodup:=by decide +kernel
abbrev ZfC (K:Y00):TE:=tBM K "list" Z8l (Z12 1) (Z0U (tOp (rIx K) (Z12 2) (Z12 0)) Z4E)
theorem Zbk {K:Y00}{Hc:Hp}{pm px:Addr}{x S:List Nat}{n:Nat}{Q:VK}{σ:St}{pull:List Nat}(h2:σ[5]?=some (some (.ref pm)))(hb:bst 1 pull σ=[none,some (.ref pm),some (.ref px)])
  (hx:Z3j K Hc px x) (hS:Hc pm=some (.lst (nv S))) (rx:Row n x) (hn:S.length<=36) (hc:∀ y∈S,y < n/\nx x y∈S)
  (k:∀ (H':Hp) (d:Addr),Z0q Hc H'->H' d=some (.lst (nv (Z2E x S)))->Q (.ref d) H') :
  Z90 (Z9r K (Z12 5)) 1 pull (Z2o 0) (ZfC K) σ Hc Q:=by
 refine⟨_,h2,pm,rfl,⟨_,SqL.of hS⟩,fun d hd=>?_⟩
 rw[hb]
 refine Z52 (Q:=fun d H'=>Q (.ref d) H') S.length (nv (Z2E x S)) (by rw[Z0z,Z5O]) (fun i σ H3=>∃ o,σ=[o,some (.ref pm),some (.ref px)]/\Z0q Hc H3) ⟨_,rfl,Z08 (Z0q.refl _) hd⟩ ?_ ?_
 ·rintro i σ H3 hi ⟨o,rfl,s3⟩ hd3
  have hS3:=SqL.of (K:=K) (s3 _ _ hS)
  refine⟨⟨_,_,hS3,Z0J (Y01 hi)⟩,fun y H4 ⟨e,hy⟩=>?_⟩
  subst e
  have hy:=hy _ hS3
  rw[Z0J (Y01 hi)]at hy
  cases hy
  have hm:S[i]∈S:=List.getElem_mem hi
  refine⟨_,rfl,.inl ⟨rfl,_,hS3⟩,_,rfl,_,rfl,Z6p (hx.same s3) rx (hc _ hm).1 ?_⟩
  refine⟨pm,S,_,rfl,rfl,s3 _ _ hS,(hc _ hm).2,?_⟩
  refine Zad hi (by lia) hd3 (Z0J ?_) ⟨_,rfl,Z08 s3 hd⟩
  unfold Z2E
  rw[Y10,Y01 hi]
  rfl
 ·rintro σ H3 ⟨o,rfl,s3⟩ hd3
  exact⟨⟨_,SqL.of (s3 _ _ hS),by rw[Z0z]; exact Y03 _⟩,k H3 d s3 hd3⟩
theorem ZeS {f:Addr}{fd:FuncData}(T:Bi mg)(F:Fn K mg "_law_together" Z1s ["_law_first","_law_second"] f fd):Z0x P w K mg base CX0 1 f fd ["_law_first","_law_second"] (ZdH K):=by
 refine F.F.ok Z7J (fun vs H Q E h=>?_) (fun cdv A outer s H vs Q E hr h=>?_)
 ·obtain⟨pr,pu,n,r,u,rfl,_⟩:=h; rfl
 ·obtain⟨pr,pu,n,r,u,rfl,hR,hU,rr,ru,h1,hn,k⟩:=h
  refine⟨_,Z03 (Z0d (i:=2) Z7J.nd rfl (Or.inl rfl) (Z2u (Z00 Z04 Z05)))
   (Z03 (Z0d (i:=3) Z7J.nd rfl (Or.inl rfl) Z04)
   (Z03 (Z1v PassesOwn.never (Z0h Z3a (pv 3) (Z0e Z0p (by rfl) T.len PySem.boot_len (Z00 (pv 2) Z05)) (Z0m _))
    (Z03 (Z2m PassesOwn.never rfl (Z9p (Z0S (Z00 (pv 0) (Z00 (pv 1) Z05)))) (Z0u (i:=4) Z7J.nd rfl (Or.inl rfl))
     (Z07 (Z0T (Z0h Z5R (Z0j Z3B (pv 4) (Z0j Z0R (pv 2) (pv 3) (fun _ _=>rfl)) (fun _ _=>rfl)) (pv 2) rfl) (Z07 (Z1h (Z2H PySem.F.plainAttrs_list PySem.F.slot_list_append PySem.F.type_list_append Z0M (pv 2) (Z00 (Z0j Z3B (pv 4) (Z0j Z0R (pv 2) (pv 3) (fun _ _=>rfl)) (fun _ _=>rfl)) Z05)))) Z0t)))
    (Z07 (Z0d (i:=3) Z7J.nd rfl (Or.inl rfl) (Z0c Z0I (pv 3) Z04)))))
   (Z03 (Z0d (i:=5) Z7J.nd rfl (Or.inr rfl) (Z0e (Z6K rfl) rfl T.sorted Z40 (Z00 (pv 2) Z05)))
   (Z07 (Z0l (Z0S (Z00 (Z15 Z2l rfl T.tuple Z1I (Z00
    (Z5j (N:=Zfw) (names:=(Z0a Z1s).names) (N':=["_law_k","_law_kept","_law_first"]) (k:=1) (pull:=[5,0]) (te:=ZfC K) rfl
     ⟨by rfl,by decide +kernel,by decide +kernel,by rfl,by decide +kernel,by decide +kernel⟩ rfl rfl (Z2k (pv 5)) (fun _ _ _ _ _ _=>Z0u (i:=0) ZfH rfl (Or.inl rfl)) (fun _ _ _ _ _ _=>Z2H PySem.F.plainAttrs_list PySem.F.slot_list_index PySem.F.type_list_index Z61 (pv 1) (Z00 (Z0j Z3B (pv 2) (pv 0) (fun _ _=>rfl)) Z05))) Z05))
    (Z00 (Z15 Z2l rfl T.tuple Z1I (Z00
    (Z5j (N:=Zfw) (names:=(Z0a Z1s).names) (N':=["_law_k","_law_kept","_law_second"]) (k:=1) (pull:=[5,1]) (te:=ZfC K) rfl
     ⟨by rfl,by decide +kernel,by decide +kernel,by rfl,by decide +kernel,by decide +kernel⟩ rfl rfl (Z2k (pv 5)) (fun _ _ _ _ _ _=>Z0u (i:=0) ZfW rfl (Or.inl rfl)) (fun _ _ _ _ _ _=>Z2H PySem.F.plainAttrs_list PySem.F.slot_list_index PySem.F.type_list_index Z61 (pv 1) (Z00 (Z0j Z3B (pv 2) (pv 0) (fun _ _=>rfl)) Z05))) Z05)) Z05)))))))),?_⟩
  refine⟨(by show 1<=sizeLine; decide),fun l hl=>?_⟩
  refine Z2b (fun σ H2=>∃ (M:List Nat) (k:Nat) (o4:Option V),σ=[some (.ref pr),some (.ref pu),some (.ref l),some (.int (k:Int)),o4,none]/\Z0q H H2/\H2 l=some (.lst (nv M))/\Met n r u 0 M k) (fun σ _=>mu 3 σ) ?_ ?_ ?_
  ·exact⟨[0],0,_,rfl,Z08 (Z0q.refl H) hl,Z06,Met.start h1⟩
  ·rintro σ H2 ⟨M,kk,o4,rfl,s2,h2l,hM⟩
   refine⟨_,rfl,_,rfl,l,_,rfl,.inl (SqL.of h2l),_,_,rfl,rfl,_,rfl,?_⟩
   rw[Z0z]
   refine Z5m (fun hlt=>?_) (fun hge=>?_)
   ·have hlt:(kk:Int) < (M.length:Int):=of_decide_eq_true hlt
    have hk:kk < M.length:=by lia
    have hx:M[kk]?=some M[kk]:=Y01 hk
    have hxn:M[kk] < n:=hM.lt _ (List.getElem_mem hk)
    have hMl:=hM.len
    refine⟨_,rfl,_,rfl,(by show 2<=sizeLine; decide),fun tp htp=>⟨tp,rfl,⟨_,SqT.of Z06⟩,?_⟩⟩
    have nlt:l≠tp:=Z0s h2l htp
    refine ZbT (K:=K) (a:=tp) (xs:=[.ref pr,.ref pu]) (fun i σ H3=>∃ (o4:Option V),σ=[some (.ref pr),some (.ref pu),some (.ref l),some (.int (kk:Int)),o4,none]/\Z0q H H3/\H3 tp=some (.tup [.ref pr,.ref pu])/\
     H3 l=some (.lst (nv (([nx r M[kk],nx u M[kk]].take i).foldl put M)))) ?_ ?_ ?_ ?_
    ·refine⟨_,rfl,Z08 s2 (s2.free htp),Z06,by rw[Z0i nlt]; exact h2l⟩
    ·rintro i σ H3 hi ⟨_,_,_,h3,_⟩
     exact SqT.of h3
    ·rintro i x σ H3 hi ⟨o4,rfl,s3,h3,h3l⟩
     obtain⟨b,row,rfl,hrow,rrow,ey⟩:∃ b row,x=V.ref b/\Z3j K H b row/\Row n row/\[nx r M[kk],nx u M[kk]][i]?=some (nx row M[kk]):=by
      match i,hi with
      | 0,hi=>cases hi; exact⟨pr,r,rfl,hR,rr,rfl⟩
      | 1,hi=>cases hi; exact⟨pu,u,rfl,hU,ru,rfl⟩
      | i+2,hi=>cases hi
     have hlen:=Z37 ([nx r M[kk],nx u M[kk]].take i) M
     have htk:([nx r M[kk],nx u M[kk]].take i).length<=2:=by rw[Y0x]; exact Nat.min_le_right _ _
     have hfold:([nx r M[kk],nx u M[kk]].take (i+1)).foldl put M=put (([nx r M[kk],nx u M[kk]].take i).foldl put M) (nx row M[kk]):=by
      rw[Y1i,ey,List.foldl_append]; rfl
     rw[hfold]
     have hget:(([nx r M[kk],nx u M[kk]].take i).foldl put M)[kk]?=some M[kk]:=by
      have:∀ (l M':List Nat),M'[kk]?=some M[kk]->(l.foldl put M')[kk]?=some M[kk]:=by
       intro l
       induction l with
       | nil=>intro M' h; exact h
       | cons a l ih=>intro M' h; exact ih _ (Z6J h)
      exact this _ _ hx
     generalize hM':([nx r M[kk],nx u M[kk]].take i).foldl put M=M' at h3l hlen hget
     refine⟨_,rfl,_,rfl,_,rfl,l,_,_,_,rfl,rfl,SqL.of h3l,Z09 (Z0J hget),Z6p (hrow.same s3) rrow hxn ?_⟩
     refine⟨_,rfl,l,_,rfl,.inl (SqL.of h3l),rfl,Zcp _,_,rfl,?_⟩
     show (if (!inV (.int ((nx row M[kk]:Nat):Int)) (nv M'))=true then _ else _)
     rw[ZdM]
     by_cases hy:nx row M[kk]∈M'
     ·rw[decide_eq_true hy]
      refine Z0Z ?_
      refine⟨_,rfl,s3,h3,?_⟩
      unfold put; rw[if_pos hy]; exact h3l
     ·rw[decide_eq_false hy]
      refine Z1u ?_
      refine⟨_,rfl,.inl ⟨rfl,_,SqL.of h3l⟩,_,rfl,_,rfl,_,rfl,l,_,_,_,rfl,rfl,SqL.of h3l,Z09 (Z0J hget),Z6p (hrow.same s3) rrow hxn ?_⟩
      refine⟨l,_,_,rfl,rfl,h3l,?_,?_⟩
      ·rw[Z0z]; exact Z0A (by lia)
      refine⟨_,rfl,Z08 s3 hl,by rw[Z0i nlt.symm]; exact h3,?_⟩
      unfold put; rw[if_neg hy,Z06,Z2r]
    ·rintro σ H3 ⟨o4,rfl,s3,h3,h3l⟩
     refine⟨_,rfl,_,_,rfl,rfl,⟨_,kk+1,_,rfl,s3,h3l,hM.step rr ru hx⟩,?_⟩
     show (100 - ((kk:Int)+1)).toNat < (100 - (kk:Int)).toNat
     lia
   ·have hge:¬ (kk:Int) < (M.length:Int):=fun z=>hge (decide_eq_true z)
    have hA:=hM.all (by lia)
    have hMl:M.length<=n:=by
     have:=Z2v M (Y05 n) hA.nd fun x hx=>Y06.mpr (hA.lt x hx)
     simpa using this
    refine⟨_,rfl,l,M,rfl,.inl (SqL.of h2l),by lia,fun l2 S hl2 pS sS=>?_⟩
    have hS':=hA.perm pS
    have hSl:S.length<=n:=by rw[pS.length_eq]; exact hMl
    have s3:Z0q H (upd H2 l2 (.lst (nv S))):=Z08 s2 (s2.free hl2)
    have h3S:(upd H2 l2 (.lst (nv S))) l2=some (.lst (nv S)):=Z06
    revert s3 h3S
    generalize (upd H2 l2 (.lst (nv S)))=H3
    intro s3 h3S
    dsimp only [Zag,Zaf,tCB,Z0U,Z2o,Zal,Z9B]
    refine Zbk rfl rfl (hR.same s3) h3S rr (by lia) (fun y hy=>⟨hS'.lt y hy,(hS'.shut y hy).1⟩) ?_
    intro H4 d4 s4 h4
    refine⟨d4,_,rfl,.inl ⟨SqL.of h4,fun t1 ht1=>?_⟩⟩
    have s4':Z0q H3 (upd H4 t1 (.tup (nv (Z2E r S)))):=Z08 s4 (s4.free ht1)
    have s5:Z0q H (upd H4 t1 (.tup (nv (Z2E r S)))):=s3.trans s4'
    refine Zbk rfl rfl (hU.same s5) (s4' _ _ h3S) ru (by lia) (fun y hy=>⟨hS'.lt y hy,(hS'.shut y hy).2⟩) ?_
    intro H5 d5 s6 h5
    refine⟨d5,_,rfl,.inl ⟨SqL.of h5,fun t2 ht2=>?_⟩⟩
    have s7:Z0q (upd H4 t1 (.tup (nv (Z2E r S)))) (upd H5 t2 (.tup (nv (Z2E u S)))):=Z08 s6 (s6.free ht2)
    refine⟨by show 2<=sizeLine; decide,fun a ha=>k _ a S.length _ _ ?_ ⟨t1,t2,Z06,?_,?_⟩ (Z6x hn rr ru hS' sS) hSl⟩
    ·exact Z08 (s5.trans s7) ((s5.trans s7).free ha)
    ·have e1:=s7 t1 _ Z06
     rw[Z0i (Z0s e1 ha)]; exact e1
    ·have e2:(upd H5 t2 (.tup (nv (Z2E u S)))) t2=some (.tup (nv (Z2E u S))):=Z06
     rw[Z0i (Z0s e2 ha)]; exact e2
  ·rintro σ H Q Q' h ⟨v,e1,v',e2,p,ys,e3,sq,i,j,e4,e5,k,e6,q⟩
   exact⟨v,e1,v',e2,p,ys,e3,sq,i,j,e4,e5,k,e6,h _ _ q⟩
end
end K1
namespace Sq
theorem Z7W {n i:Nat}{g:Nat->Nat}(hi:i < n):nx ((Y05 n).map g) i=g i:=by simp[nx,List.getD,hi]
def toA (L:Nat)(k:Nat):Nat:=if k % L=L - 1 then k+1 - L else k+1
def toU (L n s:Nat)(k:Nat):Nat:=if k+L < n then k+L else (k+s) % L
def Z5I (L h:Nat):List Nat:=(Y05 (L * h)).map (toA L)
def above (L h s:Nat):List Nat:=(Y05 (L * h)).map (toU L (L * h) s)
theorem Z7X {L h:Nat}(h1:1<=L)(h6:L<=6):Row (L * h) (Z5I L h):=by
 refine Z7l (by simp[Z5I]) (fun i hi=>?_) (fun i j hi hj e=>?_)
 ·unfold Z5I
  rw[Z7W hi]; unfold toA
  have:L=1\/L=2\/L=3\/L=4\/L=5\/L=6:=by lia
  rcases this with rfl | rfl | rfl | rfl | rfl | rfl <;> split <;> lia
 ·unfold Z5I at e
  rw[Z7W hi,Z7W hj]at e; unfold toA at e
  have:L=1\/L=2\/L=3\/L=4\/L=5\/L=6:=by lia
  rcases this with rfl | rfl | rfl | rfl | rfl | rfl <;> split at e <;> split at e <;> lia
theorem Z8v {L h s:Nat}(h1:1<=L)(h6:L<=6)(hh:1<=h):Row (L * h) (above L h s):=by
 refine Z7l (by simp[above]) (fun i hi=>?_) (fun i j hi hj e=>?_)
 ·unfold above
  rw[Z7W hi]; unfold toU
  have:L=1\/L=2\/L=3\/L=4\/L=5\/L=6:=by lia
  rcases this with rfl | rfl | rfl | rfl | rfl | rfl <;> split <;> lia
 ·unfold above at e
  rw[Z7W hi,Z7W hj]at e; unfold toU at e
  have:L=1\/L=2\/L=3\/L=4\/L=5\/L=6:=by lia
  rcases this with rfl | rfl | rfl | rfl | rfl | rfl <;> split at e <;> split at e <;> lia
theorem ZaN {l:List Nat}{i v k:Nat}(hi:i < l.length):nx (l.set i v) k=if k=i then v else nx l k:=by
 simp only[nx,List.getD,List.getElem?_set]
 by_cases e:i=k
 ·subst e; simp[hi]
 ·have e':¬ k=i:=fun z=>e z.symm
  simp[e,e']
def swp (i j k:Nat):Nat:=if k=j then i else if k=i then j else k
theorem Z8y {n i j k:Nat}(hi:i < n)(hj:j < n)(hk:k < n):swp i j k < n:=by unfold swp; split <;> (try split) <;> lia
theorem Zc2 {i j a b:Nat}(h:swp i j a=swp i j b):a=b:=by
 unfold swp at h
 by_cases a1:a=j
 ·rw[if_pos a1]at h
  by_cases b1:b=j
  ·lia
  ·rw[if_neg b1]at h
   by_cases b2:b=i
   ·rw[if_pos b2]at h; lia
   ·rw[if_neg b2]at h; lia
 ·rw[if_neg a1]at h
  by_cases a2:a=i
  ·rw[if_pos a2]at h
   by_cases b1:b=j
   ·rw[if_pos b1]at h; lia
   ·rw[if_neg b1]at h
    by_cases b2:b=i
    ·lia
    ·rw[if_neg b2]at h; lia
  ·rw[if_neg a2]at h
   by_cases b1:b=j
   ·rw[if_pos b1]at h; lia
   ·rw[if_neg b1]at h
    by_cases b2:b=i
    ·rw[if_pos b2]at h; lia
    ·rw[if_neg b2]at h; lia
theorem Za0 {n:Nat}{l:List Nat}{i j:Nat}(h:Row n l)(hi:i < n)(hj:j < n):Row n ((l.set i (nx l j)).set j (nx l i)):=by
 have hl:=h.len
 have e:∀ k,nx ((l.set i (nx l j)).set j (nx l i)) k=nx l (swp i j k):=fun k=>by
  rw[ZaN (by rw[List.length_set]; lia),ZaN (by lia)]
  unfold swp
  split
  ·rfl
  ·split <;> rfl
 refine Z7l (by simp[hl]) (fun k hk=>?_) (fun a b ha hb hab=>?_)
 ·rw[e]; exact h.nlt (Z8y hi hj hk)
 ·rw[e,e]at hab
  exact Zc2 (h.inj (Z8y hi hj ha) (Z8y hi hj hb) hab)
end Sq
namespace K1
open PySem L2 Sq
def Z8J:Sp:=fun vs H Q _=>∃ (L h s:Nat),vs=[.int (L:Int),.int (h:Int),.int (s:Int)]/\1<=L/\L<=6/\1<=h/\L * h<=36/\
 ∀ (H':Hp) (t p q:Addr),Z0q H H'->H' t=some (.tup [.ref p,.ref q])->H p=none->H q=none->p≠q->H' p=some (.lst (nv (Z5I L h)))->H' q=some (.lst (nv (above L h s)))->Q (.ref t) H'
def Zb4 (K:Y00):Sp:=fun vs H Q _=>∃ (p a:Addr) (ns:List Int) (j:Int) (t n:Nat) (r:List Nat),vs=[.ref p,.ref a,.int j,.int (t:Int)]/\H p=some (.lst (nv r))/\(∀ H2:Hp,(∀ b o,b≠p->H b=some o->H2 b=some o)->SqL K H2 a (ns.map V.int))/\0<=j/\j < 1000/\t<=4/\Row n r/\1<=n/\n<=36/\
 ∀ (H':Hp) (r':List Nat),(∀ b o,b≠p->H b=some o->H' b=some o)->H' p=some (.lst (nv r'))->Row n r'->Q (.ref p) H'
section
variable {P:Program}{w:World}{K:Y00}{mg:Str->Option Value}{base:Heap}
abbrev nTo:List Str:=["_law_long","_law_high","_law_shift","_law_across","_law_above","_law_k"]
theorem Zfc:Z0k nTo ["_law_long","_law_high","_law_shift"] (Z0a Z4n):=⟨rfl,rfl,rfl,by decide +kernel,rfl,by decide +kernel,by decide +kernel⟩
theorem ZbX {L k:Nat}(h1:1<=L):(k:Int)+1 - (L:Int) * (if decide (V.int ((k:Int) % (L:Int))=V.int ((L:Int) - 1))=true then 1 else 0)=((toA L k:Nat):Int):=by
 have e:(k:Int) % (L:Int)=((k % L:Nat):Int):=by simp
 have hlt:k % L < L:=Nat.mod_lt _ h1
 have hle:k % L<=k:=Nat.mod_le _ _
 unfold toA
 by_cases c:k % L=L - 1
 ·rw[if_pos c,decide_eq_true (by rw[e,c]; congr 1; lia),if_pos rfl]; lia
 ·rw[if_neg c,decide_eq_false (by rw[e]; intro z; have:=V.int.inj z; lia),if_neg Bool.false_ne_true]; lia
theorem Za6 {f:Addr}{fd:FuncData}(T:Bi mg)(F:Fn K mg "_law_torus" Z4n ["_law_long","_law_high","_law_shift"] f fd):Z0x P w K mg base CX0 1 f fd ["_law_long","_law_high","_law_shift"] Z8J:=by
 refine F.F.ok Zfc (fun vs H Q E h=>?_) (fun cdv A outer s H vs Q E hr h=>?_)
 ·obtain⟨L,h,s,rfl,_⟩:=h; rfl
 ·obtain⟨L,h,sh,rfl,h1,h6,hh,hn,k⟩:=h
  refine⟨_,Z03 (Z0d (i:=3) Zfc.nd rfl (Or.inl rfl) (Z2u Z05))
   (Z03 (Z0d (i:=4) Zfc.nd rfl (Or.inl rfl) (Z2u Z05))
   (Z03 (Z2m PassesOwn.never rfl (Z1L rfl T.range (Z00 (Z0c Z1Q (pv 0) (pv 1)) Z05)) (Z0u (i:=5) Zfc.nd rfl (Or.inl rfl))
    (Z03 (Z1h (Z2H PySem.F.plainAttrs_list PySem.F.slot_list_append PySem.F.type_list_append Z0M (pv 3) (Z00 (Z0c Z24 (Z0c Z0I (pv 5) Z04) (Z0c Z1Q (pv 0) (Z15 Z3X rfl T.int Z3g (Z00 (Z1B Z1k (Z0c Z0K (pv 5) (pv 0)) (Z0c Z24 (pv 0) Z04) (Z0m _)) Z05)))) Z05)))
    (Z07 (Z0T (Z0h Z3a (Z0c Z0I (pv 5) (pv 0)) (Z0c Z1Q (pv 0) (pv 1)) (Z0m _))
     (Z07 (Z1h (Z2H PySem.F.plainAttrs_list PySem.F.slot_list_append PySem.F.type_list_append Z0M (pv 4) (Z00 (Z0c Z0I (pv 5) (pv 0)) Z05))))
     (Z07 (Z1h (Z2H PySem.F.plainAttrs_list PySem.F.slot_list_append PySem.F.type_list_append Z0M (pv 4) (Z00 (Z0c Z0K (Z0c Z0I (pv 5) (pv 2)) (pv 0)) Z05))))))))
   (Z07 (Z0l (Z0S (Z00 (pv 3) (Z00 (pv 4) Z05))))))),?_⟩
  refine⟨Y0s _,fun p hp=>⟨Y0s _,fun q hq=>?_⟩⟩
  have npq:p≠q:=fun e=>by rw[<-e,Z06]at hq; cases hq
  have hq0:H q=none:=by rwa [Z0i npq.symm]at hq
  have hmul:((L:Int) * (h:Int))=((L * h:Nat):Int):=by simp
  refine⟨_,rfl,_,rfl,_,_,rfl,rfl,.inl ⟨by lia,by lia⟩,(L:Int) * (h:Int),rfl,by rw[hmul]; lia,by rw[hmul]; lia,?_⟩
  rw[hmul,Int.toNat_natCast]
  refine Z23 (n:=L * h) (fun i σ H2=>∃ o5,σ=[some (.int (L:Int)),some (.int (h:Int)),some (.int (sh:Int)),some (.ref p),some (.ref q),o5]/\Z0q H H2/\H2 p=some (.lst (nv ((Y05 i).map (toA L))))/\H2 q=some (.lst (nv ((Y05 i).map (toU L (L * h) sh))))) ⟨_,rfl,Z08 (Z08 (Z0q.refl H) hp) hq0,by rw[Z0i npq,Z06]; rfl,Z06⟩ ?_ ?_
  ·rintro i σ H2 hi ⟨o5,rfl,s2,h2p,h2q⟩
   rw[show (0:Int)+(i:Int)=(i:Int) from by lia]
   have hl:∀ g:Nat->Nat,(nv ((Y05 i).map g)).length=i:=fun g=>by rw[Z0z]; simp
   refine⟨_,rfl,.inl ⟨rfl,_,SqL.of h2p⟩,_,rfl,_,_,rfl,rfl,_,rfl,_,rfl,_,rfl,_,_,rfl,rfl,by lia,_,rfl,_,_,rfl,rfl,rfl,.inr ⟨_,rfl,?_⟩⟩
   refine⟨_,_,rfl,rfl,.inl ⟨by lia,by lia⟩,_,_,rfl,rfl,p,_,_,rfl,rfl,h2p,by rw[hl]; exact Z0A (by lia),?_⟩
   dsimp only
   rw[ZbX h1,Z2r]
   have e1:(Y05 i).map (toA L)++[toA L i]=(Y05 (i+1)).map (toA L):=by rw[Y1a,Y0y]; rfl
   rw[e1]
   generalize hH3:upd H2 p (.lst (nv ((Y05 (i+1)).map (toA L))))=H3
   have s3:Z0q H H3:=by rw[<-hH3]; exact Z08 s2 hp
   have h3p:H3 p=some (.lst (nv ((Y05 (i+1)).map (toA L)))):=by rw[<-hH3]; exact Z06
   have h3q:H3 q=some (.lst (nv ((Y05 i).map (toU L (L * h) sh)))):=by rw[<-hH3,Z0i npq.symm]; exact h2q
   refine⟨_,rfl,_,rfl,_,_,rfl,rfl,_,rfl,_,rfl,_,_,rfl,rfl,.inl ⟨by lia,by lia⟩,_,_,rfl,rfl,_,rfl,?_⟩
   have e2:(Y05 i).map (toU L (L * h) sh)++[toU L (L * h) sh i]=(Y05 (i+1)).map (toU L (L * h) sh):=by rw[Y1a,Y0y]; rfl
   refine Z5m (fun hlt=>?_) (fun hge=>?_)
   ·have hlt:(i:Int)+(L:Int) < (L:Int) * (h:Int):=of_decide_eq_true hlt
    rw[hmul]at hlt
    have e3:(i:Int)+(L:Int)=((toU L (L * h) sh i:Nat):Int):=by unfold toU; rw[if_pos (by lia)]; lia
    refine⟨_,rfl,.inl ⟨rfl,_,SqL.of h3q⟩,_,rfl,_,rfl,_,_,rfl,rfl,q,_,_,rfl,rfl,h3q,by rw[hl]; exact Z0A (by lia),?_⟩
    dsimp only
    rw[e3,Z2r,e2]
    exact⟨_,rfl,Z08 s3 hq0,by rw[Z0i npq]; exact h3p,Z06⟩
   ·have hge:¬ (i:Int)+(L:Int) < (L:Int) * (h:Int):=fun z=>hge (decide_eq_true z)
    rw[hmul]at hge
    have e3:((i:Int)+(sh:Int)) % (L:Int)=((toU L (L * h) sh i:Nat):Int):=by unfold toU; rw[if_neg (by lia)]; simp
    refine⟨_,rfl,.inl ⟨rfl,_,SqL.of h3q⟩,_,rfl,_,rfl,_,_,rfl,rfl,_,rfl,_,_,rfl,rfl,by lia,q,_,_,rfl,rfl,h3q,by rw[hl]; exact Z0A (by lia),?_⟩
    dsimp only
    rw[e3,Z2r,e2]
    exact⟨_,rfl,Z08 s3 hq0,by rw[Z0i npq]; exact h3p,Z06⟩
  ·rintro σ H2 ⟨o5,rfl,s2,h2p,h2q⟩
   refine⟨_,rfl,_,rfl,by show 2<=sizeLine; decide,fun t ht=>?_⟩
   exact k _ t p q (Z08 s2 (s2.free ht)) Z06 hp hq0 npq (by rw[Z0i (Z0s h2p ht)]; exact h2p) (by rw[Z0i (Z0s h2q ht)]; exact h2q)
abbrev nEx:List Str:=["_law_row_here","_law_script","_law_at","_law_times","_law_k","_law_i","_law_j","_law_kept"]
theorem ZeL:Z0k nEx ["_law_row_here","_law_script","_law_at","_law_times"] (Z0a Z1N):=⟨rfl,rfl,rfl,by decide +kernel,rfl,by decide +kernel,by decide +kernel⟩
theorem ZaY {n i:Nat}(h:i < n):ixN n (i:Int)=some i:=by
 unfold ixN
 rw[if_pos (by lia),if_pos (by lia)]
 simp
theorem Zbs {f fc:Addr}{fd fdc:FuncData}(T:Bi mg)(F:Fn K mg "_law_exchanged" Z1N ["_law_row_here","_law_script","_law_at","_law_times"] f fd)
  (FC:Fn K mg "_law_cell" Z5c ["_law_script","_law_k"] fc fdc) (GC:Z0x P w K mg base CX0 1 fc fdc ["_law_script","_law_k"] (Z2j K)):Z0x P w K mg base CX0 2 f fd ["_law_row_here","_law_script","_law_at","_law_times"] (Zb4 K):=by
 refine F.F.ok ZeL (fun vs H Q E h=>?_) (fun cdv A outer s H vs Q E hr h=>?_)
 ·obtain⟨p,a,ns,j,t,n,r,rfl,_⟩:=h; rfl
 ·obtain⟨p,a,ns,j,t,n,r,rfl,hp,hS,j0,j1,ht,rr,n1,hn,k⟩:=h
  refine⟨_,Z03 (Z2m PassesOwn.never rfl (Z1L rfl T.range (Z00 (pv 3) Z05)) (Z0u (i:=4) ZeL.nd rfl (Or.inl rfl))
    (Z03 (Z0d (i:=5) ZeL.nd rfl (Or.inl rfl) (Z0c Z0K (Z0b GC hr rfl FC.m FC.F.kp FC.b .nil Z0r (Z00 (pv 1) (Z00 (Z0c Z0I (pv 2) (Z0c Z1Q Z04 (pv 4))) Z05))) (Z0e Z0p rfl T.len PySem.boot_len (Z00 (pv 0) Z05))))
    (Z03 (Z0d (i:=6) ZeL.nd rfl (Or.inl rfl) (Z0c Z0K (Z0b GC hr rfl FC.m FC.F.kp FC.b .nil Z0r (Z00 (pv 1) (Z00 (Z0c Z0I (Z0c Z0I (pv 2) (Z0c Z1Q Z04 (pv 4))) Z04) Z05))) (Z0e Z0p rfl T.len PySem.boot_len (Z00 (pv 0) Z05))))
    (Z03 (Z0d (i:=7) ZeL.nd rfl (Or.inl rfl) (Z0j Z0R (pv 0) (pv 5) (fun _ _=>rfl)))
    (Z03 (Z51 (pv 0) (pv 5) (Z0j Z0R (pv 0) (pv 6) (fun _ _=>rfl)) rfl)
    (Z07 (Z51 (pv 0) (pv 6) (pv 7) rfl)))))))
   (Z07 (Z0l (pv 0))),?_⟩
  refine⟨_,rfl,(t:Int),rfl,by lia,by lia,?_⟩
  rw[Int.toNat_natCast]
  refine Z23 (n:=t) (fun i σ H2=>∃ o4 o5 o6 o7 r',σ=[some (.ref p),some (.ref a),some (.int j),some (.int (t:Int)),o4,o5,o6,o7]/\(∀ b o,b≠p->H b=some o->H2 b=some o)/\H2 p=some (.lst (nv r'))/\Row n r') ⟨_,_,_,_,r,rfl,fun _ _ _ h=>h,hp,rr⟩ ?_ ?_
  ·rintro i σ H2 hi ⟨o4,o5,o6,o7,r',rfl,b2,h2p,rr'⟩
   rw[show (0:Int)+(i:Int)=(i:Int) from by lia]
   have hS2:=hS H2 b2
   have hlen:((nv r').length:Int)=(n:Int):=by rw[Z0z,rr'.len]
   refine⟨_,rfl,_,rfl,_,rfl,_,_,rfl,rfl,.inl ⟨by decide,by decide⟩,_,_,rfl,rfl,a,ns,_,rfl,hS2,by lia,by lia,fun z1=>?_⟩
   refine⟨_,rfl,p,_,rfl,.inl (SqL.of h2p),_,_,rfl,rfl,by lia,?_⟩
   refine⟨_,rfl,_,rfl,_,rfl,_,_,rfl,rfl,.inl ⟨by decide,by decide⟩,_,_,rfl,rfl,_,_,rfl,rfl,a,ns,_,rfl,hS2,by lia,by lia,fun z2=>?_⟩
   refine⟨_,rfl,p,_,rfl,.inl (SqL.of h2p),_,_,rfl,rfl,by lia,?_⟩
   obtain⟨x,hx⟩:=Int.eq_ofNat_of_zero_le (Int.emod_nonneg z1 (show ((nv r').length:Int)≠0 by lia))
   obtain⟨y,hy⟩:=Int.eq_ofNat_of_zero_le (Int.emod_nonneg z2 (show ((nv r').length:Int)≠0 by lia))
   have x1:x < n:=by have:=Int.emod_lt_of_pos z1 (show (0:Int) < ((nv r').length:Int) by lia); lia
   have y1:y < n:=by have:=Int.emod_lt_of_pos z2 (show (0:Int) < ((nv r').length:Int) by lia); lia
   dsimp only
   rw[hx,hy]
   refine⟨_,rfl,_,rfl,p,_,_,_,rfl,rfl,SqL.of h2p,Z09 (Z0J (rr'.get x1)),?_⟩
   refine⟨_,rfl,_,rfl,p,_,_,_,rfl,rfl,SqL.of h2p,Z09 (Z0J (rr'.get y1)),?_⟩
   refine⟨_,rfl,_,rfl,p,_,_,x,rfl,rfl,h2p,ZaY (by rw[Z0z,rr'.len]; exact x1),?_⟩
   rw[Z7t]
   refine⟨_,rfl,_,rfl,_,rfl,p,_,_,y,rfl,rfl,Z06,ZaY (by rw[Z0z,List.length_set,rr'.len]; exact y1),?_⟩
   rw[Z7t]
   refine⟨_,_,_,_,_,rfl,fun b o hb ho=>?_,Z06,Za0 rr' x1 y1⟩
   rw[Z0i hb,Z0i hb]; exact b2 b o hb ho
  ·rintro σ H2 ⟨o4,o5,o6,o7,r',rfl,b2,h2p,rr'⟩
   exact⟨_,rfl,k H2 r' b2 h2p rr'⟩
end
def Z96 (K:Y00):Sp:=fun vs H Q _=>∃ (a:Addr) (ns:List Int),vs=[.ref a]/\SqL K H a (ns.map V.int)/\∀ b:Bool,Q (.bl b) H
section
variable {P:Program}{w:World}{K:Y00}{mg:Str->Option Value}{base:Heap}
abbrev Zfg:List Str:=["_law_script"]
theorem Ze7:Z0k Zfg ["_law_script"] (Z0a Z4L):=⟨rfl,rfl,rfl,by decide +kernel,rfl,by decide +kernel,by decide +kernel⟩
theorem Zer {f:Addr}{fd:FuncData}(T:Bi mg)(F:Fn K mg "_law_free" Z4L ["_law_script"] f fd):Z0x P w K mg base CX0 1 f fd ["_law_script"] (Z96 K):=by
 refine F.F.ok Ze7 (fun vs H Q E h=>?_) (fun cdv A outer s H vs Q E hr h=>?_)
 ·obtain⟨a,ns,rfl,_⟩:=h; rfl
 ·obtain⟨a,ns,rfl,hS,k⟩:=h
  refine⟨_,(Z07 (Z0l (ZfU (Z1B Z1k (Z0e Z0p rfl T.len PySem.boot_len (Z00 (pv 0) Z05)) Z04 (Z0m _)) (Z4S (Z1B Z1k (Z0c Z0K (Z0j Z0R (pv 0) Z04 (fun _ _=>rfl)) Z04) Z04 (Z0m _)))))),?_⟩
  refine⟨_,rfl,a,_,rfl,.inl hS,rfl,_,rfl,?_⟩
  refine Z5m (fun _=>k true) (fun hne=>?_)
  rw[Y08]at hne
  have hpos:0 < ns.length:=by
   rcases Nat.eq_zero_or_pos ns.length with e | e
   ·exact absurd (decide_eq_true (by rw[e]; rfl)) hne
   ·exact e
  have ix:atI (ns.map V.int) 0=some (.int (ns.getD 0 0)):=Z09 (j:=0) (by simp[Y0i,hpos])
  exact⟨_,rfl,a,_,0,_,rfl,rfl,hS,ix,_,_,rfl,rfl,(by show (0:Int) < 2; decide),rfl,k _⟩
abbrev Zgp:List Str:=["_law_script","_law_k"]
theorem ZcV:Z0k Zgp ["_law_script","_law_k"] (Z0a Z7L):=⟨rfl,rfl,rfl,by decide +kernel,rfl,by decide +kernel,by decide +kernel⟩
theorem Zef {f:Addr}{fd:FuncData}(T:Bi mg)(F:Fn K mg "_law_raw" Z7L ["_law_script","_law_k"] f fd):Z0x P w K mg base CX0 1 f fd ["_law_script","_law_k"] (Z2j K):=by
 refine F.F.ok ZcV (fun vs H Q E h=>?_) (fun cdv A outer s H vs Q E hr h=>?_)
 ·obtain⟨a,ns,j,rfl,_⟩:=h; rfl
 ·obtain⟨a,ns,j,rfl,hS,h0,h1,k⟩:=h
  refine⟨_,(Z03 (Z0T (Z0h Z3a (pv 1) (Z0e Z0p rfl T.len PySem.boot_len (Z00 (pv 0) Z05)) (Z0m _)) (Z07 (Z0l (Z0c Z0K (Z0j Z0R (pv 0) (pv 1) (fun _ _=>rfl)) (Z0c Z6Q Z04 Z04)))) Z0t)
   (Z07 (Z0l Z04))),?_⟩
  refine⟨_,rfl,_,rfl,a,_,rfl,.inl hS,_,_,rfl,rfl,_,rfl,?_⟩
  refine Z5m (fun hlt=>?_) (fun hge=>k 0)
  have hlt:j < ((ns.map V.int).length:Int):=of_decide_eq_true hlt
  rw[Y08]at hlt
  have e:atI (ns.map V.int) (j.toNat:Int)=some (.int (ns.getD j.toNat 0)):=Z09 (by simp[Y0i,show j.toNat < ns.length by omega])
  rw[Int.toNat_of_nonneg h0]at e
  exact⟨_,rfl,_,rfl,a,_,j,_,rfl,rfl,hS,e,10,60,rfl,rfl,⟨by decide,by decide,by decide⟩,_,_,rfl,rfl,(by show (0:Int) < 10 ^ Int.toNat 60; decide),k _⟩
end
def ZdT:Sp:=fun vs H Q _=>∃ (z:Int) (n:Nat),vs=[.int z,.int (n:Int)]/\n<=36/\
 ∀ (H':Hp) (p:Addr) (r:List Nat),Z0q H H'->H p=none->H' p=some (.lst (nv r))->Row n r->Q (.ref p) H'
section
variable {P:Program}{w:World}{K:Y00}{mg:Str->Option Value}{base:Heap}
abbrev Zgk:List Str:=["_law_cell_here","_law_many","_law_left","_law_row_here","_law_k"]
theorem Z5C:Z0k Zgk ["_law_cell_here","_law_many"] (Z0a Z2U):=⟨rfl,rfl,rfl,by decide +kernel,rfl,by decide +kernel,by decide +kernel⟩
theorem ZeG {f:Addr}{fd:FuncData}(T:Bi mg)(F:Fn K mg "_law_digits" Z2U ["_law_cell_here","_law_many"] f fd):Z0x P w K mg base CX0 1 f fd ["_law_cell_here","_law_many"] ZdT:=by
 refine F.F.ok Z5C (fun vs H Q E h=>?_) (fun cdv A outer s H vs Q E hr h=>?_)
 ·obtain⟨z,n,rfl,_⟩:=h; rfl
 ·obtain⟨z,n,rfl,hn,k⟩:=h
  refine⟨_,(Z03 (Z0d (i:=2) Z5C.nd rfl (Or.inl rfl) (Z15 (Z31 rfl) rfl T.list Z42 (Z00 (Z15 Z4l rfl T.range PyProof.Rows.boot_range (Z00 (pv 1) Z05)) Z05)))
   (Z03 (Z0d (i:=3) Z5C.nd rfl (Or.inl rfl) (Z2u Z05))
   (Z03 (Z2m PassesOwn.never rfl (Z1L rfl T.range (Z00 (pv 1) Z05)) (Z0u (i:=4) Z5C.nd rfl (Or.inl rfl)) (Z03 (Z1h (Z2H PySem.F.plainAttrs_list PySem.F.slot_list_append PySem.F.type_list_append Z0M (pv 3) (Z00 (Z2H PySem.F.plainAttrs_list PySem.F.slot_list_pop PySem.F.type_list_pop Z7f (pv 2) (Z00 (Z0c Z0K (pv 0) (Z0e Z0p rfl T.len PySem.boot_len (Z00 (pv 2) Z05))) Z05)) Z05)))
   (Z07 (Z0d (i:=0) Z5C.nd rfl (Or.inl rfl) (Z0c Z16 (pv 0) (Z0c Z0I (Z0e Z0p rfl T.len PySem.boot_len (Z00 (pv 2) Z05)) Z04))))))
   (Z07 (Z0l (pv 3)))))),?_⟩
  refine⟨_,rfl,(n:Int),rfl,fun r0 hr0=>⟨r0,n,rfl,Z06,by lia,fun lf hlf=>?_⟩⟩
  refine⟨Y0s _,fun ln hln=>?_⟩
  have nlfr:lf≠r0:=fun e=>by rw[e,Z06]at hlf; cases hlf
  have f0:H lf=none:=by rwa [Z0i nlfr]at hlf
  have nlnl:ln≠lf:=fun e=>by rw[e,Z06]at hln; cases hln
  have g0:(upd H r0 (.rng 0 (n:Int))) ln=none:=by rwa [Z0i nlnl]at hln
  have nlnr:ln≠r0:=fun e=>by rw[e,Z06]at g0; cases g0
  have g1:H ln=none:=by rwa [Z0i nlnr]at g0
  refine⟨_,rfl,(n:Int),rfl,by lia,by lia,?_⟩
  rw[Int.toNat_natCast]
  refine Z23 (n:=n) (fun i σ H3=>∃ (z:Int) (o5:Option V) (line left:List Nat),σ=[some (.int z),some (.int (n:Int)),some (.ref lf),some (.ref ln),o5]/\
   Z0q H H3/\H3 lf=some (.lst (nv left))/\H3 ln=some (.lst (nv line))/\line.length=i/\(line++left).Perm (Y05 n)) ?_ ?_ ?_
  ·refine⟨_,_,[],Y05 n,rfl,Z08 (Z08 (Z08 (Z0q.refl H) hr0) f0) g1,by rw[Z0i nlnl.symm,Z06],Z06,rfl,List.Perm.refl _⟩
  ·rintro i σ H3 hi ⟨z,o5,line,left,rfl,s3,hlf3,hln3,hlen,hp⟩
   have hleft:left.length=n - i:=by
    have:=hp.length_eq
    simp only[Y0e,Y0p]at this
    lia
   have hpos:0 < left.length:=by lia
   refine⟨_,rfl,.inl ⟨rfl,_,SqL.of hln3⟩,_,rfl,.inl ⟨rfl,_,SqL.of hlf3⟩,_,rfl,_,rfl,lf,_,rfl,.inl (SqL.of hlf3),_,_,rfl,rfl,?_,?_⟩
   ·rw[Z0z]; lia
   refine Z9a hlf3 hpos (by lia) fun kx y hy=>?_
   have e3:(upd H3 lf (.lst (nv (left.eraseIdx kx)))) ln=some (.lst (nv line)):=by rw[Z0i nlnl]; exact hln3
   refine⟨ln,_,_,rfl,rfl,e3,?_,?_⟩
   ·rw[Z0z]; exact Z0A (by lia)
   have hel:(left.eraseIdx kx).length<=left.length:=by rw[List.length_eraseIdx]; split <;> lia
   have e4:(upd (upd H3 lf (.lst (nv (left.eraseIdx kx)))) ln (.lst (nv line++[.int (y:Int)]))) lf=some (.lst (nv (left.eraseIdx kx))):=by rw[Z0i nlnl.symm,Z06]
   refine⟨_,rfl,_,rfl,lf,_,rfl,.inl (SqL.of e4),_,_,rfl,rfl,_,_,rfl,rfl,⟨?_,?_⟩,?_⟩
   ·rw[Z0z]; lia
   ·rw[Z0z]; lia
   refine⟨_,_,line++[y],left.eraseIdx kx,rfl,Z08 (Z08 s3 f0) g1,e4,?_,?_,Z77 hp hy⟩
   ·rw[Z06,Z2r]
   ·rw[Y0e,hlen]; rfl
  ·rintro σ H3 ⟨z,o5,line,left,rfl,s3,hlf3,hln3,hlen,hp⟩
   have hl0:left=[]:=by
    have:=hp.length_eq
    simp only[Y0e,Y0p]at this
    exact List.length_eq_zero_iff.mp (by lia)
   have hrow:Row n line:=Row.of_perm (by rw[hl0,Y19]at hp; exact hp)
   exact⟨_,rfl,k H3 ln line s3 g1 hln3 hrow⟩
end
def Z7h (K:Y00):Sp:=fun vs H Q _=>∃ (a:Addr) (ns:List Int) (mo:Nat),vs=[.ref a,.int (mo:Int)]/\SqL K H a (ns.map V.int)/\6<=mo/\mo<=36/\
 ∀ (H':Hp) (b:Addr) (m:Nat) (r u:List Nat),Z0q H H'->Z5p H' b r u->Zcz m r u->m<=mo->Q (.ref b) H'
section
variable {P:Program}{w:World}{K:Y00}{mg:Str->Option Value}{base:Heap}
abbrev Zg4:List Str:=["_law_script","_law_most","_law_many","_law_cell_here","_law_long","_law_high","_law_across","_law_above"]
theorem Z3F:Z0k Zg4 ["_law_script","_law_most"] (Z0a Z5M):=⟨rfl,rfl,rfl,by decide +kernel,rfl,by decide +kernel,by decide +kernel⟩
set_option maxHeartbeats 2000000 in
theorem ZcL {f ff fr fg ft fc fw fn fe:Addr}{fd df dr dg dt dc dw dn de:FuncData}(F:Fn K mg "_law_sheet" Z5M ["_law_script","_law_most"] f fd)(FF:Fn K mg "_law_free" Z4L ["_law_script"] ff df)(GF:Z0x P w K mg base CX0 1 ff df ["_law_script"] (Z96 K))
  (FR:Fn K mg "_law_raw" Z7L ["_law_script","_law_k"] fr dr) (GR:Z0x P w K mg base CX0 1 fr dr ["_law_script","_law_k"] (Z2j K))
  (FG:Fn K mg "_law_digits" Z2U ["_law_cell_here","_law_many"] fg dg) (GG:Z0x P w K mg base CX0 1 fg dg ["_law_cell_here","_law_many"] ZdT)
  (FT:Fn K mg "_law_together" Z1s ["_law_first","_law_second"] ft dt) (GT:Z0x P w K mg base CX0 1 ft dt ["_law_first","_law_second"] (ZdH K))
  (FC:Fn K mg "_law_cell" Z5c ["_law_script","_law_k"] fc dc) (GC:Z0x P w K mg base CX0 1 fc dc ["_law_script","_law_k"] (Z2j K))
  (FW:Fn K mg "_law_row" Z9x ["_law_script","_law_at","_law_many"] fw dw) (GW:Z0x P w K mg base CX0 2 fw dw ["_law_script","_law_at","_law_many"] (Zd5 K))
  (FN:Fn K mg "_law_torus" Z4n ["_law_long","_law_high","_law_shift"] fn dn) (GN:Z0x P w K mg base CX0 1 fn dn ["_law_long","_law_high","_law_shift"] Z8J)
  (FE:Fn K mg "_law_exchanged" Z1N ["_law_row_here","_law_script","_law_at","_law_times"] fe de) (GE:Z0x P w K mg base CX0 2 fe de ["_law_row_here","_law_script","_law_at","_law_times"] (Zb4 K)):Z0x P w K mg base CX0 3 f fd ["_law_script","_law_most"] (Z7h K):=by
 refine F.F.ok Z3F (fun vs H Q E h=>?_) (fun cdv A outer s H vs Q E hr h=>?_)
 ·obtain⟨a,ns,mo,rfl,_⟩:=h; rfl
 ·obtain⟨a,ns,mo,rfl,hS,m6,m36,k⟩:=h
  have hr1:Z1g 1 _:=hr.mono (by decide)
  have hr2:Z1g 2 _:=hr.mono (by decide)
  refine⟨_,(Z03 (Z0T (Z1D (Z0b GF hr1 rfl FF.m FF.F.kp FF.b .nil Z0r (Z00 (pv 0) Z05))) (Z03 (Z0d (i:=2) Z3F.nd rfl (Or.inl rfl) (Z0c Z0I Z04 (Z0c Z0K (Z0c Z16 (Z0b GR hr1 rfl FR.m FR.F.kp FR.b .nil Z0r (Z00 (pv 0) (Z00 Z04 Z05))) Z04) (pv 1))))
   (Z07 (Z0l (Z0b GT hr1 rfl FT.m FT.F.kp FT.b .nil Z0r (Z00 (Z0b GG hr1 rfl FG.m FG.F.kp FG.b .nil Z0r (Z00 (Z0b GR hr1 rfl FR.m FR.F.kp FR.b .nil Z0r (Z00 (pv 0) (Z00 Z04 Z05))) (Z00 (pv 2) Z05))) (Z00 (Z0b GG hr1 rfl FG.m FG.F.kp FG.b .nil Z0r (Z00 (Z0b GR hr1 rfl FR.m FR.F.kp FR.b .nil Z0r (Z00 (pv 0) (Z00 Z04 Z05))) (Z00 (pv 2) Z05))) Z05)))))) Z0t)
   (Z03 (Z0d (i:=3) Z3F.nd rfl (Or.inl rfl) (Z0c Z16 (Z0b GC hr1 rfl FC.m FC.F.kp FC.b .nil Z0r (Z00 (pv 0) (Z00 Z04 Z05))) Z04))
   (Z03 (Z0T (Z0h Z1k (Z0c Z0K (pv 3) Z04) Z04 (Z0m _)) (Z03 (Z0d (i:=2) Z3F.nd rfl (Or.inl rfl) (Z0c Z0I Z04 (Z0c Z0K (Z0c Z16 (pv 3) Z04) (pv 1))))
   (Z07 (Z0l (Z0b GT hr1 rfl FT.m FT.F.kp FT.b .nil Z0r (Z00 (Z0b GW hr2 rfl FW.m FW.F.kp FW.b .nil Z0r (Z00 (pv 0) (Z00 Z04 (Z00 (pv 2) Z05)))) (Z00 (Z0b GW hr2 rfl FW.m FW.F.kp FW.b .nil Z0r (Z00 (pv 0) (Z00 (Z0c Z0I Z04 (pv 2)) (Z00 (pv 2) Z05)))) Z05)))))) Z0t)
   (Z03 (Z0d (i:=4) Z3F.nd rfl (Or.inl rfl) (Z0c Z0I Z04 (Z0c Z0K (Z0c Z16 (pv 3) Z04) Z04)))
   (Z03 (Z0d (i:=5) Z3F.nd rfl (Or.inl rfl) (Z0c Z0I Z04 (Z0c Z0K (Z0c Z16 (pv 3) Z04) (Z0c Z16 (pv 1) (pv 4)))))
   (Z03 (Z4b (Z0b GN hr1 rfl FN.m FN.F.kp FN.b .nil Z0r (Z00 (pv 4) (Z00 (pv 5) (Z00 (Z0c Z0K (Z0b GC hr1 rfl FC.m FC.F.kp FC.b .nil Z0r (Z00 (pv 0) (Z00 Z04 Z05))) (pv 4)) Z05)))) (Z3H rfl (Z0H (Z0u (i:=6) Z3F.nd rfl (Or.inl rfl)) (Z0H (Z0u (i:=7) Z3F.nd rfl (Or.inl rfl)) Z2f))))
   (Z07 (Z0l (Z0b GT hr1 rfl FT.m FT.F.kp FT.b .nil Z0r (Z00 (pv 6) (Z00 (Z0b GE hr2 rfl FE.m FE.F.kp FE.b .nil Z0r (Z00 (pv 7) (Z00 (pv 0) (Z00 Z04 (Z00 (Z0c Z0K (Z0c Z16 (pv 3) Z04) Z04) Z05))))) Z05))))))))))),?_⟩
  refine⟨_,rfl,a,ns,rfl,hS,fun fr=>⟨_,rfl,?_⟩⟩
  refine Z5m (fun _=>?_) (fun _=>?_)
  ·refine⟨_,rfl,a,ns,0,rfl,hS,by decide,by decide,fun z=>?_⟩
   refine⟨_,_,rfl,rfl,⟨by decide,by decide⟩,_,rfl,_,_,rfl,rfl,by lia,_,_,rfl,rfl,?_⟩
   obtain⟨n,hn⟩:∃ n:Nat,1+z / 2 % (mo:Int)=(n:Int):=⟨(1+z / 2 % (mo:Int)).toNat,by have:=Int.emod_nonneg (z / 2) (show (mo:Int)≠0 by lia); lia⟩
   have hlt:=Int.emod_lt_of_pos (z / 2) (show (0:Int) < (mo:Int) by lia)
   have hge:=Int.emod_nonneg (z / 2) (show (mo:Int)≠0 by lia)
   dsimp only
   rw[hn]
   refine⟨_,rfl,a,ns,1,rfl,hS,by decide,by decide,fun z1=>⟨_,rfl,z1,n,rfl,by lia,fun H1 p r s1 _ hp rr=>?_⟩⟩
   refine⟨_,rfl,a,ns,2,rfl,s1.seq hS,by decide,by decide,fun z2=>⟨_,rfl,z2,n,rfl,by lia,fun H2 q u s2 _ hq ru=>?_⟩⟩
   exact⟨p,q,n,r,u,rfl,.inl (SqL.of (s2 _ _ hp)),.inl (SqL.of hq),rr,ru,by lia,by lia,fun H3 b m r' u' s3 hb hSh hm=>k H3 b m r' u' (s1.trans (s2.trans s3)) hb hSh (by lia)⟩
  ·refine⟨_,rfl,a,ns,0,rfl,hS,by decide,by decide,fun z=>?_⟩
   refine⟨_,_,rfl,rfl,⟨by decide,by decide⟩,?_⟩
   dsimp only
   generalize z / 2=z
   refine⟨_,rfl,_,_,rfl,rfl,(by show (0:Int) < 2; decide),rfl,_,rfl,?_⟩
   refine Z5m (fun _=>?_) (fun _=>?_)
   ·refine⟨_,rfl,_,_,rfl,rfl,⟨by decide,by decide⟩,_,rfl,_,_,rfl,rfl,by lia,_,_,rfl,rfl,?_⟩
    obtain⟨n,hn⟩:∃ n:Nat,1+z / 2 % (mo:Int)=(n:Int):=⟨(1+z / 2 % (mo:Int)).toNat,by have:=Int.emod_nonneg (z / 2) (show (mo:Int)≠0 by lia); lia⟩
    have hlt:=Int.emod_lt_of_pos (z / 2) (show (0:Int) < (mo:Int) by lia)
    have hge:=Int.emod_nonneg (z / 2) (show (mo:Int)≠0 by lia)
    dsimp only
    rw[hn]
    refine⟨_,rfl,_,rfl,a,ns,1,n,rfl,hS,by decide,by decide,by lia,fun H1 p r s1 _ hp rr=>?_⟩
    refine⟨_,rfl,_,rfl,_,_,rfl,rfl,_,rfl,a,ns,_,n,rfl,s1.seq hS,by lia,by lia,by lia,fun H2 q u s2 _ hq ru=>?_⟩
    exact⟨p,q,n,r,u,rfl,.inl (SqL.of (s2 _ _ hp)),.inl (SqL.of hq),rr,ru,by lia,by lia,fun H3 b m r' u' s3 hb hSh hm=>k H3 b m r' u' (s1.trans (s2.trans s3)) hb hSh (by lia)⟩
   ·refine⟨_,rfl,_,_,rfl,rfl,⟨by decide,by decide⟩,_,_,rfl,rfl,(by show (0:Int) < 6; decide),_,_,rfl,rfl,?_⟩
    obtain⟨L,hL⟩:∃ L:Nat,1+z / 2 % 6=(L:Int):=⟨(1+z / 2 % 6).toNat,by lia⟩
    have L1:1<=L:=by lia
    have L6:L<=6:=by lia
    dsimp only
    rw[hL]
    have eq:(mo:Int) / (L:Int)=((mo / L:Nat):Int):=by simp
    have hq1:1<=mo / L:=Nat.div_pos (by lia) (by lia)
    refine⟨_,rfl,_,_,rfl,rfl,⟨by decide,by decide⟩,_,rfl,_,rfl,_,_,rfl,rfl,⟨by lia,by lia⟩,_,_,rfl,rfl,by rw[eq]; lia,_,_,rfl,rfl,?_⟩
    dsimp only
    rw[eq]
    obtain⟨h,hh⟩:∃ h:Nat,1+z / 12 % ((mo / L:Nat):Int)=(h:Int):=⟨(1+z / 12 % ((mo / L:Nat):Int)).toNat,by have:=Int.emod_nonneg (z / 12) (show ((mo / L:Nat):Int)≠0 by lia); lia⟩
    have hlt:=Int.emod_lt_of_pos (z / 12) (show (0:Int) < ((mo / L:Nat):Int) by lia)
    have hge:=Int.emod_nonneg (z / 12) (show ((mo / L:Nat):Int)≠0 by lia)
    rw[hh]
    have h1:1<=h:=by lia
    have h2:h<=mo / L:=by lia
    have hLh:L * h<=mo:=Y0o (Nat.mul_le_mul_left L h2) (Nat.mul_div_le mo L)
    refine⟨_,rfl,_,rfl,_,rfl,a,ns,1,rfl,hS,by decide,by decide,fun z1=>?_⟩
    refine⟨_,rfl,_,_,rfl,rfl,by lia,?_⟩
    obtain⟨sh,hsh⟩:=Int.eq_ofNat_of_zero_le (Int.emod_nonneg z1 (show (L:Int)≠0 by lia))
    dsimp only
    rw[hsh]
    refine⟨L,h,sh,rfl,L1,L6,h1,by lia,fun H1 t p q s1 ht hp0 hq0 npq hp hq=>?_⟩
    refine⟨t,_,rfl,SqT.of ht,rfl,_,_,rfl,_,_,rfl,rfl,?_⟩
    obtain⟨c,hc⟩:=Int.eq_ofNat_of_zero_le (show 0<=z / 72 % 4 by lia)
    have hS2:∀ H2:Hp,(∀ b o,b≠q->H1 b=some o->H2 b=some o)->SqL K H2 a (ns.map V.int):=fun H2 b2=>by
     rcases hS with (h | ⟨o,h⟩) | h
     ·exact .inl (.inl (b2 _ _ (fun e=>by rw[e,hq0]at h; cases h) (s1 _ _ h)))
     ·exact .inl (.inr ⟨o,b2 _ _ (fun e=>by rw[e,hq0]at h; cases h) (s1 _ _ h)⟩)
     ·exact .inr h
    refine⟨_,rfl,_,rfl,_,rfl,_,rfl,_,_,rfl,rfl,⟨by decide,by decide⟩,_,_,rfl,rfl,(by show (0:Int) < 4; decide),q,a,ns,2,c,L * h,_,by rw[<-hc]; rfl,hq,hS2,by decide,by decide,by lia,Z8v L1 L6 h1,by have:=Nat.mul_le_mul L1 h1; lia,by lia,fun H2 r' b2 hr' rr'=>?_⟩
    have hp2:=b2 _ _ npq hp
    refine⟨p,q,L * h,_,r',rfl,.inl (SqL.of hp2),.inl (SqL.of hr'),Z7X L1 L6,rr',by have:=Nat.mul_le_mul L1 h1; lia,by lia,fun H3 b m r2 u2 s3 hb hSh hm=>?_⟩
    refine k H3 b m r2 u2 (fun x o ho=>s3 _ _ (b2 _ _ (fun e=>by rw[e,hq0]at ho; cases ho) (s1 _ _ ho))) hb hSh (by lia)
end
theorem Zb3 {t rest:L2.TS}{D:Z8u}{σ:St}{H:Hp}(Pv:St->Hp->Prop)(h:∀ N:St->Hp->Prop,(∀ σ' H',Pv σ' H'->N σ' H')->t { D with nx:=N } σ H)(k:∀ σ' H',Pv σ' H'->rest D σ' H'):Zag t rest D σ H:=h _ k
def Zae (K:Y00):Sp:=fun vs H Q _=>∃ (a:Addr) (ns:List Int),vs=[.ref a]/\SqL K H a (ns.map V.int)/\∀ H':Hp,Q (.bl true) H'
abbrev Zem (C:Addr)(H7:Hp)(t:Addr)(n sq:Nat)(r u:List Nat)(tx bx ty by_ p q:Int)(f:Nat->Nat)(i:Nat):Prop:=
 ((∃ k:Nat,H7 t=some (.tup [.str (Str.ofString "back"),.int (k:Int)])/\1<=k/\i < k/\f k=sq/\(∀ j,1<=j->j < k->f j≠sq)/\(∀ j,j < k->Run r u (Z0y n (Z0w r u)) p q (U6 tx bx ty by_ p q) (A6 tx bx ty by_ p q (f j)) (1 * U6 tx bx ty by_ p q) (A6 tx bx ty by_ p q (f (j+1)))))\/
    (∃ (k:Nat) (pt:Addr) (v:V) (T':Int) (bb:Spt),H7 t=some (.tup [.str (Str.ofString "corner"),v,.ref pt])/\k < n/\i<=k/\Z1C n (Z0w r u) bb.s v/\Z4u C H7 pt (Z0C (T' + (k:Int) * U6 tx bx ty by_ p q) (U6 tx bx ty by_ p q)) (Z0o (T' + (k:Int) * U6 tx bx ty by_ p q) (U6 tx bx ty by_ p q))/\0<=T'/\T'<=1 * U6 tx bx ty by_ p q/\(∀ j,1<=j->j<=k->f j≠sq)/\(∀ j,j < k->Run r u (Z0y n (Z0w r u)) p q (U6 tx bx ty by_ p q) (A6 tx bx ty by_ p q (f j)) (1 * U6 tx bx ty by_ p q) (A6 tx bx ty by_ p q (f (j+1))))/\Hit r u (Z0y n (Z0w r u)) p q (U6 tx bx ty by_ p q) (A6 tx bx ty by_ p q (f k)) (1 * U6 tx bx ty by_ p q) T' bb))
section
variable {P:Program}{w:World}{K:Y00}{mg:Str->Option Value}{base:Heap}
abbrev Zgr:List Str:=["_law_script","_law_sheet_here","_law_place_here","_law_p","_law_q","_law_most","_law_by","_law_found","_law_square","_law_x","_law_y","_law_steps","_law_there","_law_time","_law_unit","_law_near"]
theorem Z1a:Z0k Zgr ["_law_script"] (Z0a ZdJ):=⟨rfl,rfl,rfl,by decide +kernel,rfl,by decide +kernel,by decide +kernel⟩
set_option maxHeartbeats 4000000 in
theorem Zf3 {f fs fp fc fq ff fr fa fl fx fb fh fg fi fe fk:Addr}{fd ds dp dc dq df dr da dl dx db dh dg di de dk:FuncData}{C:Addr}(T:Bi mg)(T_abs:mg "abs"=none)(F:Fn K mg "law" ZdJ ["_law_script"] f fd)(FS:Fn K mg "_law_sheet" Z5M ["_law_script","_law_most"] fs ds)(GS:Z0x P w K mg base CX0 3 fs ds ["_law_script","_law_most"] (Z7h K))
  (FP:Fn K mg "_law_place" Z44 ["_law_script","_law_at","_law_many"] fp dp) (GP:Z0x P w K mg base CX0 2 fp dp ["_law_script","_law_at","_law_many"] (ZeY K))
  (FC:Fn K mg "_law_cell" Z5c ["_law_script","_law_k"] fc dc) (GC:Z0x P w K mg base CX0 1 fc dc ["_law_script","_law_k"] (Z2j K))
  (FQ:Fn K mg "_law_direction" Z1J ["_law_cell_here"] fq dq) (GQ:Z0x P w K mg base CX0 1 fq dq ["_law_cell_here"] ZaA)
  (FF:Fn K mg "_law_free" Z4L ["_law_script"] ff df) (GF:Z0x P w K mg base CX0 1 ff df ["_law_script"] (Z96 K))
  (FR:Fn K mg "_law_raw" Z7L ["_law_script","_law_k"] fr dr) (GR:Z0x P w K mg base CX0 1 fr dr ["_law_script","_law_k"] (Z2j K))
  (FA:Fn K mg "_law_any_direction" Z1d ["_law_cell_here"] fa da) (GA:Z0x P w K mg base CX0 1 fa da ["_law_cell_here"] ZaA)
  (FL:Fn K mg "_law_any_place" Z27 ["_law_cell_here","_law_many","_law_most"] fl dl) (GL:Z0x P w K mg base CX0 2 fl dl ["_law_cell_here","_law_many","_law_most"] Zej)
  (FX:Fn K mg "_law_divisor" Z2x ["_law_one","_law_other"] fx dx) (GX:Z0x P w K mg base CX0 1 fx dx ["_law_one","_law_other"] ZaS)
  (FB:Fn K mg "back_after" Z1H ["sheet","place","p","q"] fb db) (GB:Z0x P w K mg base (CX1 P w) 9 fb db ["sheet","place","p","q"] (Zbz C))
  (FH:Fn K mg "_law_handed" Z3r ["_law_place_here"] fh dh) (GH:Z0x P w K mg base CX0 4 fh dh ["_law_place_here"] (Zbr C))
  (FG:Fn K mg "_law_gone" Z4U ["_law_sheet_here","_law_place_here","_law_p","_law_q","_law_steps"] fg dg) (GG:Z0x P w K mg base CX0 3 fg dg ["_law_sheet_here","_law_place_here","_law_p","_law_q","_law_steps"] Za4)
  (FI:Fn K mg "_law_is_corner" Z26 ["_law_found","_law_square","_law_top","_law_bottom"] fi di) (GI:Z0x P w K mg base CX0 3 fi di ["_law_found","_law_square","_law_top","_law_bottom"] (ZeB C))
  (FE:Fn K mg "_law_same_back" Z25 ["_law_sheet_here","_law_place_here","_law_p","_law_q","_law_found"] fe de) (GE:Z0x P w K mg base CX0 10 fe de ["_law_sheet_here","_law_place_here","_law_p","_law_q","_law_found"] (Zeq C))
  (FK:Fn K mg "_law_is_back" Z2V ["_law_found","_law_steps"] fk dk) (GK:Z0x P w K mg base CX0 2 fk dk ["_law_found","_law_steps"] Zf5):Z0x P w K mg base CX0 11 f fd ["_law_script"] (Zae K):=by
 refine F.F.ok Z1a (fun vs H Q E h=>?_) (fun cdv A outer s H vs Q E hr h=>?_)
 ·obtain⟨a,ns,rfl,_⟩:=h; rfl
 ·obtain⟨a,ns,rfl,hS,k⟩:=h
  have hr1:Z1g 1 _:=hr.mono (by decide)
  have hr10:Z1g 10 _:=hr.mono (by decide)
  have hr2:Z1g 2 _:=hr.mono (by decide)
  have hr3:Z1g 3 _:=hr.mono (by decide)
  have hr4:Z1g 4 _:=hr.mono (by decide)
  have hr9:Z1g 9 _:=hr.mono (by decide)
  refine⟨_,(Z03 (Z0d (i:=1) Z1a.nd rfl (Or.inl rfl) (Z0b GS hr3 rfl FS.m FS.F.kp FS.b .nil Z0r (Z00 (pv 0) (Z00 Z04 Z05))))
   (Z03 (Z0d (i:=2) Z1a.nd rfl (Or.inl rfl) (Z0b GP hr2 rfl FP.m FP.F.kp FP.b .nil Z0r (Z00 (pv 0) (Z00 Z04 (Z00 (Z0e Z0p rfl T.len PySem.boot_len (Z00 (Z0j Z0f (pv 1) Z04 (fun _ _=>rfl)) Z05)) Z05)))))
   (Z03 (Z4b (Z0b GQ hr1 rfl FQ.m FQ.F.kp FQ.b .nil Z0r (Z00 (Z0b GC hr1 rfl FC.m FC.F.kp FC.b .nil Z0r (Z00 (pv 0) (Z00 Z04 Z05))) Z05)) (Z3H rfl (Z0H (Z0u (i:=3) Z1a.nd rfl (Or.inl rfl)) (Z0H (Z0u (i:=4) Z1a.nd rfl (Or.inl rfl)) Z2f))))
   (Z03 (Z0T (Z1D (Z0b GF hr1 rfl FF.m FF.F.kp FF.b .nil Z0r (Z00 (pv 0) Z05))) (Z03 (Z4b (Z0b GA hr1 rfl FA.m FA.F.kp FA.b .nil Z0r (Z00 (Z0b GR hr1 rfl FR.m FR.F.kp FR.b .nil Z0r (Z00 (pv 0) (Z00 Z04 Z05))) Z05)) (Z3H rfl (Z0H (Z0u (i:=3) Z1a.nd rfl (Or.inl rfl)) (Z0H (Z0u (i:=4) Z1a.nd rfl (Or.inl rfl)) Z2f))))
   (Z03 (Z0d (i:=5) Z1a.nd rfl (Or.inl rfl) (Z0j Z0R (Z2u (Z00 (Z0c Z24 (Z0c Z6Q Z04 Z04) Z04) (Z00 Z04 (Z00 Z04 Z05)))) (Z0c Z0I (Z15 Z3X rfl T.int Z3g (Z00 (Z1B Z53 (Z0c Z0I (Z0e Z0O rfl T_abs Z0P (Z00 (pv 3) Z05)) (Z0e Z0O rfl T_abs Z0P (Z00 (pv 4) Z05))) Z04 (Z0m _)) Z05)) (Z15 Z3X rfl T.int Z3g (Z00 (Z1B Z53 (Z0c Z0I (Z0e Z0O rfl T_abs Z0P (Z00 (pv 3) Z05)) (Z0e Z0O rfl T_abs Z0P (Z00 (pv 4) Z05))) Z04 (Z0m _)) Z05))) (fun _ _=>rfl)))
   (Z07 (Z0d (i:=2) Z1a.nd rfl (Or.inl rfl) (Z0b GL hr2 rfl FL.m FL.F.kp FL.b .nil Z0r (Z00 (Z0b GR hr1 rfl FR.m FR.F.kp FR.b .nil Z0r (Z00 (pv 0) (Z00 Z04 Z05))) (Z00 (Z0e Z0p rfl T.len PySem.boot_len (Z00 (Z0j Z0f (pv 1) Z04 (fun _ _=>rfl)) Z05)) (Z00 (pv 5) Z05)))))))) Z0t)
   (Z03 (Z0d (i:=6) Z1a.nd rfl (Or.inl rfl) (Z0b GX hr1 rfl FX.m FX.F.kp FX.b .nil Z0r (Z00 (pv 3) (Z00 (pv 4) Z05))))
   (Z03 (Z0d (i:=3) Z1a.nd rfl (Or.inl rfl) (Z0c Z16 (pv 3) (pv 6)))
   (Z03 (Z0d (i:=4) Z1a.nd rfl (Or.inl rfl) (Z0c Z16 (pv 4) (pv 6)))
   (Z03 (Z0d (i:=7) Z1a.nd rfl (Or.inl rfl) (Z0b GB hr9 rfl FB.m FB.F.kp FB.b .nil Z3d (Z00 (pv 1) (Z00 (Z0b GH hr4 rfl FH.m FH.F.kp FH.b .nil Z0r (Z00 (pv 2) Z05)) (Z00 (pv 3) (Z00 (pv 4) Z05))))))
   (Z03 (Z4b (pv 2) (Z3H rfl (Z0H (Z0u (i:=8) Z1a.nd rfl (Or.inl rfl)) (Z0H (Z0u (i:=9) Z1a.nd rfl (Or.inl rfl)) (Z0H (Z0u (i:=10) Z1a.nd rfl (Or.inl rfl)) Z2f)))))
   (Z03 (Z2m PassesOwn.never rfl (Z8z rfl T.range (Z00 Z04 (Z00 (Z0c Z0I (Z0e Z0p rfl T.len PySem.boot_len (Z00 (Z0j Z0f (pv 1) Z04 (fun _ _=>rfl)) Z05)) Z04) Z05))) (Z0u (i:=11) Z1a.nd rfl (Or.inl rfl)) (Z03 (Z4b (Z0b GG hr3 rfl FG.m FG.F.kp FG.b .nil Z0r (Z00 (pv 1) (Z00 (Z0S (Z00 (pv 8) (Z00 (pv 9) (Z00 (pv 10) Z05)))) (Z00 (pv 3) (Z00 (pv 4) (Z00 Z04 Z05)))))) (Z3H rfl (Z0H (Z0u (i:=12) Z1a.nd rfl (Or.inl rfl)) (Z0H (Z0u (i:=13) Z1a.nd rfl (Or.inl rfl)) (Z0H (Z0u (i:=14) Z1a.nd rfl (Or.inl rfl)) Z2f)))))
   (Z03 (Z0T (Z0h Zci (pv 13) Z3E (Z0m _)) (Z03 (Z0T (Z0h Z3q (Z0c Z0K (Z0c Z24 (Z0c Z0E (Z0c Z0E (pv 4) (Z0j Z0f (pv 9) Z04 (fun _ _=>rfl))) (Z0j Z0f (pv 10) Z04 (fun _ _=>rfl))) (Z0c Z0E (Z0c Z0E (pv 3) (Z0j Z0f (pv 10) Z04 (fun _ _=>rfl))) (Z0j Z0f (pv 9) Z04 (fun _ _=>rfl)))) (Z0c Z0E (Z0j Z0f (pv 9) Z04 (fun _ _=>rfl)) (Z0j Z0f (pv 10) Z04 (fun _ _=>rfl)))) Z04 (Z0m _)) (Z07 (Z0l Z6E)) Z0t)
   (Z07 (Z0l (Z0b GI hr3 rfl FI.m FI.F.kp FI.b .nil Z0r (Z00 (pv 7) (Z00 (pv 12) (Z00 (Z0c Z0I (pv 13) (Z0c Z0E (Z0c Z24 (pv 11) Z04) (pv 14))) (Z00 (pv 14) Z05)))))))) Z0t)
   (Z03 (Z0d (i:=8) Z1a.nd rfl (Or.inl rfl) (pv 12))
   (Z03 (Z0d (i:=15) Z1a.nd rfl (Or.inl rfl) (Z1B Z3a (Z0c Z0I (Z0e Z0O rfl T_abs Z0P (Z00 (pv 3) Z05)) (Z0e Z0O rfl T_abs Z0P (Z00 (pv 4) Z05))) Z04 (Z0m _)))
   (Z03 (Z0T (PW.pt (Z2n (Z0h Z1k (pv 11) Z04 (Z0m _)) (Z2n (Z1D (pv 15)) (Z1Z (Z2K (Z1D (Z0b GE hr10 rfl FE.m FE.F.kp FE.b .nil Z0r (Z00 (pv 1) (Z00 (Z0S (Z00 (pv 8) (Z00 (pv 9) (Z00 (pv 10) Z05)))) (Z00 (pv 3) (Z00 (pv 4) (Z00 (pv 7) Z05)))))))))))) (Z07 (Z0l Z6E)) Z0t)
   (Z07 (Z0T (Z0h Z1k (pv 8) (Z0j Z0f (pv 2) Z04 (fun _ _=>rfl)) (Z0m _)) (Z07 (Z0l (Z0b GK hr2 rfl FK.m FK.F.kp FK.b .nil Z0r (Z00 (pv 7) (Z00 (pv 11) Z05))))) Z0t))))))))
   (Z07 (Z0l Z6E)))))))))))),?_⟩
  have two:3<=sizeLine:=by decide
  refine⟨_,rfl,a,ns,12,rfl,hS,by decide,by decide,fun H1 b n r u s1 hb hSh hm=>?_⟩
  obtain⟨rp,up,hb1,hb2,hb3⟩:=id hb
  have rr:=hSh.row
  have ru:=hSh.col
  have hpos:=hSh.pos
  refine⟨_,rfl,_,rfl,b,_,0,_,rfl,rfl,SqT.of hb1,Z09 (j:=0) rfl,rp,_,rfl,.inr (SqT.of hb2),a,ns,26,n,by rw[Z0z,rr.len]; rfl,s1.seq hS,by decide,by decide,hpos,fun H2 l sq tx bx ty by_ s2 hl hsq x0 x1 x2 y0 y1 y2=>?_⟩
  have sA:=s1.trans s2
  refine⟨_,rfl,a,ns,29,rfl,sA.seq hS,by decide,by decide,fun v=>?_⟩
  refine⟨_,rfl,fun H3 x p q s3 hx hw=>?_⟩
  refine⟨x,_,rfl,SqT.of hx,rfl,_,_,rfl,_,_,rfl,rfl,?_⟩
  have sB:=sA.trans s3
  dsimp only [Z2o,gNil,ZcY]
  refine Zb3 (fun σ H5=>∃ (l:Addr) (sq:Nat) (tx bx ty by_ p q:Int) (o5:Option V),σ=[some (.ref a),some (.ref b),some (.ref l),some (.int p),some (.int q),o5,none,none,none,none,none,none,none,none,none,none]/\Z0q H3 H5/\Pl5 H5 l sq tx bx ty by_/\sq < n/\0<=tx/\tx < bx/\bx < 1000000000000/\0<=ty/\ty < by_/\by_ < 1000000000000/\Way p q) (fun N hN=>?_) ?_
  ·refine⟨_,rfl,a,ns,rfl,sB.seq hS,fun bb=>⟨_,rfl,?_⟩⟩
   cases bb with
   | false=>
    refine Z0Z ?_
    obtain⟨px,py,g1,g2,g3⟩:=hl
    exact hN _ _ ⟨l,sq,tx,bx,ty,by_,p,q,none,rfl,Z0q.refl _,⟨px,py,s3 _ _ g1,s3 _ _ g2,s3 _ _ g3⟩,hsq,x0,x1,by lia,y0,y1,by lia,hw⟩
   | true=>
    refine Z1u ?_
    clear hw
    refine⟨_,rfl,a,ns,4,rfl,sB.seq hS,by decide,by decide,fun v3=>?_⟩
    refine⟨_,rfl,fun H4 x' p q s4 hx' hw=>?_⟩
    refine⟨x',_,rfl,SqT.of hx',rfl,_,_,rfl,_,_,rfl,rfl,?_⟩
    have sC:=sB.trans s4
    refine⟨10,12,rfl,rfl,⟨by decide,by decide,by decide⟩,_,_,rfl,rfl,two,fun l6 hl6=>?_⟩
    have s6:=Z08 (o:=.lst [.int (10 ^ Int.toNat 12 - 1),.int 60,.int 6]) (Z0q.refl _) hl6
    refine⟨_,rfl,_,rfl,_,rfl,_,rfl,_,_,rfl,rfl,_,_,rfl,rfl,.inr ⟨_,rfl,_,rfl,_,rfl,_,rfl,_,rfl,_,_,rfl,rfl,_,_,rfl,rfl,.inr ⟨_,rfl,_,_,rfl,rfl,?_⟩⟩⟩
    dsimp only
    generalize (if p < 0 then -p else p)+(if q < 0 then -q else q)=bo
    obtain⟨m,hat,m0,m1'⟩:∃ m:Int,atI [V.int (10 ^ Int.toNat 12 - 1),V.int 60,V.int 6] ((if decide (bo > 5)=true then 1 else 0)+(if decide (bo > 59)=true then 1 else 0))=some (.int m)/\0 < m/\m<=999999999999:=by
     by_cases c:bo > 5
     ·rw[if_pos (decide_eq_true c)]
      by_cases d:bo > 59
      ·rw[if_pos (decide_eq_true d)]; exact⟨6,rfl,by decide,by decide⟩
      ·rw[if_neg (by rw[decide_eq_false d]; decide)]; exact⟨60,rfl,by decide,by decide⟩
     ·rw[if_neg (by rw[decide_eq_false c]; decide),if_neg (by rw[decide_eq_false (show ¬ bo > 59 by lia)]; decide)]; exact⟨10 ^ Int.toNat 12 - 1,rfl,by decide,by decide⟩
    refine⟨l6,_,_,_,rfl,rfl,SqL.of Z06,hat,?_⟩
    refine⟨_,rfl,a,ns,3,rfl,(sC.trans s6).seq hS,by decide,by decide,fun v5=>?_⟩
    refine⟨_,rfl,b,_,0,_,rfl,rfl,SqT.of ((s2.trans (s3.trans (s4.trans s6))) _ _ hb1),Z09 (j:=0) rfl,rp,_,rfl,.inr (SqT.of ((s2.trans (s3.trans (s4.trans s6))) _ _ hb2)),?_⟩
    refine⟨_,rfl,v5,m,n,by rw[Z0z,rr.len]; rfl,hpos,by lia,m0,m1',fun H7 l sq tx bx ty by_ s7 hP hsq x0 x1 x2 y0 y1 y2=>?_⟩
    exact hN _ _ ⟨l,sq,tx,bx,ty,by_,p,q,_,rfl,s4.trans (s6.trans s7),hP,hsq,x0,x1,by lia,y0,y1,by lia,hw⟩
  rintro σ H5 ⟨l,sq,tx,bx,ty,by_,P0,Q0,o5,rfl,s5,hP,hsq,x0,x1,x2,y0,y1,y2,hw0⟩
  have hb5:=hb.same (s2.trans (s3.trans s5))
  refine⟨_,rfl,_,rfl,P0,Q0,rfl,?_⟩
  obtain⟨w1,w2,w3⟩:=id hw0
  have hg:0 < Int.gcd P0 Q0:=Int.gcd_pos_iff.mpr (by lia)
  have hg60:Int.gcd P0 Q0<=60:=by
   by_cases c:P0=0
   ·have:Q0≠0:=fun z=>w3 ⟨c,z⟩
    have:=Nat.le_of_dvd (by lia) (Int.natAbs_dvd_natAbs.mpr (Int.gcd_dvd_right P0 Q0))
    simp at this; lia
   ·have:=Nat.le_of_dvd (by lia) (Int.natAbs_dvd_natAbs.mpr (Int.gcd_dvd_left P0 Q0))
    simp at this; lia
  have hgg:=Int.gcd_ediv_gcd_ediv_gcd hg
  have n1:=Int.natAbs_ediv_le_natAbs P0 (Int.gcd P0 Q0:Int)
  have n2:=Int.natAbs_ediv_le_natAbs Q0 (Int.gcd P0 Q0:Int)
  obtain⟨g,hge⟩:∃ g:Int,(Int.gcd P0 Q0:Int)=g:=⟨_,rfl⟩
  rw[hge]at hgg n1 n2
  have g0:0 < g:=by lia
  have g60:g<=60:=by lia
  rw[hge]
  refine⟨_,rfl,_,rfl,_,_,rfl,rfl,⟨g0,by lia⟩,?_⟩
  refine⟨_,rfl,_,rfl,_,_,rfl,rfl,⟨g0,by lia⟩,?_⟩
  dsimp only
  obtain⟨p,hp⟩:∃ p:Int,P0 / g=p:=⟨_,rfl⟩
  obtain⟨q,hq⟩:∃ q:Int,Q0 / g=q:=⟨_,rfl⟩
  rw[hp,hq]at hgg
  rw[hp]at n1
  rw[hq]at n2
  have hw:Ze3 p q:=⟨⟨by lia,by lia,fun ⟨z1,z2⟩=>by rw[z1,z2]at hgg; exact absurd hgg (by decide)⟩,hgg⟩
  refine⟨_,rfl,_,rfl,l,sq,tx,bx,ty,by_,rfl,hP,by lia,x2,by lia,y2,fun H6 hd s6 h3=>?_⟩
  have bbx:Bt 60 (Z0o tx bx):=Z4r (show bx.natAbs < 2 ^ 60 by lia) (by lia)
  have bby:Bt 60 (Z0o ty by_):=Z4r (show by_.natAbs < 2 ^ 60 by lia) (by lia)
  refine⟨_,rfl,_,rfl,?_⟩
  dsimp only [Z4E,Y19,List.nil_append,List.cons_append]
  rw[hp,hq]
  refine⟨b,hd,n,sq,r,u,tx,bx,ty,by_,p,q,rfl,hb5.same s6,rr,ru,by lia,h3,hsq,x0,x1,y0,y1,bbx,bby,hw,fun H7 t s7 fnd=>?_⟩
  obtain⟨kx,ky,j1,j2,j3⟩:=id hP
  have s67:=s6.trans s7
  refine⟨_,rfl,l,_,rfl,SqT.of (s67 _ _ j1),rfl,_,_,rfl,_,_,rfl,_,_,rfl,rfl,?_⟩
  obtain⟨f,f0,f1,f2,hF⟩:=id fnd
  have hb7:=hb5.same s67
  have hb71:=(s2.trans (s3.trans (s5.trans s67))) _ _ hb1
  have hb72:=(s2.trans (s3.trans (s5.trans s67))) _ _ hb2
  refine⟨_,rfl,b,_,0,_,rfl,rfl,SqT.of hb71,Z09 (j:=0) rfl,rp,_,rfl,.inr (SqT.of hb72),?_⟩
  refine⟨_,_,rfl,rfl,1,(n:Int)+1,by rw[Z0z,rr.len],⟨by decide,by decide,by lia,by lia⟩,?_⟩
  rw[show ((n:Int)+1 - 1).toNat=n by lia]
  refine Z23 (n:=n) (fun i σ H'=>∃ o11 o12 o13 o14 o15,σ=[some (.ref a),some (.ref b),some (.ref l),some (.int p),some (.int q),o5,some (.int g),some (.ref t),some (.int (f i:Int)),some (.ref kx),some (.ref ky),o11,o12,o13,o14,o15]/\Z0q H7 H'/\Zem C H7 t n sq r u tx bx ty by_ p q f i) ?_ ?_ ?_
  ·refine⟨_,_,_,_,_,by rw[f0]; rfl,Z0q.refl _,?_⟩
   rcases hF with ⟨k,h1,h2,h3,h4,h5⟩ | ⟨k,pt,v,T',bb,h1,h2,h3,h4⟩
   ·exact .inl ⟨k,h1,h2,h2,h3,h4,h5⟩
   ·exact .inr ⟨k,pt,v,T',bb,h1,h2,Y0s _,h3,h4⟩
  ·rintro i σ H' hi ⟨o11,o12,o13,o14,o15,rfl,s',hI⟩
   have j1':=(s67.trans s') _ _ j2
   have j2':=(s67.trans s') _ _ j3
   have ht':∀ {o},H7 t=some o->H' t=some o:=fun h=>s' _ _ h
   refine⟨_,rfl,_,rfl,_,rfl,_,rfl,two,fun l8 hl8=>?_⟩
   have s8:=Z08 (o:=.tup [.int (f i:Int),.ref kx,.ref ky]) (Z0q.refl H') hl8
   have hP8:Pl5 (upd H' l8 (.tup [.int (f i:Int),.ref kx,.ref ky])) l8 (f i) tx bx ty by_:=⟨kx,ky,Z06,s8 _ _ j1',s8 _ _ j2'⟩
   refine⟨_,rfl,_,rfl,?_⟩
   have s78:=s'.trans s8
   generalize (upd H' l8 (.tup [.int (f i:Int),.ref kx,.ref ky]))=H8 at *
   dsimp only [tC,Z0U,Z4E,Y19,List.nil_append,List.cons_append]
   have hD:(Run r u (Z0y n (Z0w r u)) p q (U6 tx bx ty by_ p q) (A6 tx bx ty by_ p q (f i)) (1 * U6 tx bx ty by_ p q) (A6 tx bx ty by_ p q (f (i+1)))/\((f (i+1)=sq/\H7 t=some (.tup [.str (Str.ofString "back"),.int ((i+1:Nat):Int)]))\/(f (i+1)≠sq/\Zem C H7 t n sq r u tx bx ty by_ p q f (i+1))))\/(∃ (pt:Addr) (v:V) (T':Int) (bb:Spt),H7 t=some (.tup [.str (Str.ofString "corner"),v,.ref pt])/\i < n/\Z1C n (Z0w r u) bb.s v/\Z4u C H7 pt (Z0C (T' + (i:Int) * U6 tx bx ty by_ p q) (U6 tx bx ty by_ p q)) (Z0o (T' + (i:Int) * U6 tx bx ty by_ p q) (U6 tx bx ty by_ p q))/\0<=T'/\T'<=1 * U6 tx bx ty by_ p q/\Hit r u (Z0y n (Z0w r u)) p q (U6 tx bx ty by_ p q) (A6 tx bx ty by_ p q (f i)) (1 * U6 tx bx ty by_ p q) T' bb):=by
    rcases hI with ⟨k',h1,h2,h3,h4,h5,h6⟩ | ⟨k',pt,v,T',bb,h1,h2,h3,lv,hpt,T0,T1,h5,h6,hH⟩
    ·refine .inl ⟨h6 i h3,?_⟩
     rcases Y0j (i+1) k' with c | c
     ·exact .inr ⟨h5 _ (by lia) c,.inl ⟨k',h1,h2,c,h4,h5,h6⟩⟩
     ·have ek:k'=i+1:=by lia
      rw[ek]at h1 h4
      exact .inl ⟨h4,h1⟩
    ·rcases Y0j i k' with c | c
     ·exact .inl ⟨h6 i c,.inr ⟨h5 (i+1) (by lia) (by lia),.inr ⟨k',pt,v,T',bb,h1,h2,c,lv,hpt,T0,T1,h5,h6,hH⟩⟩⟩
     ·have ei:i=k':=by lia
      subst ei
      exact .inr ⟨pt,v,T',bb,h1,h2,lv,hpt,T0,T1,hH⟩
   clear hI
   rcases hD with ⟨hRi,hE⟩ | ⟨pt,v,T',bb,h1,h2,lv,hpt,T0,T1,hH⟩
   ·refine goR rr ru (by lia) (hb7.same s78) hP8 (f1 i) x0 x1 y0 y1 x2 y2 hw.1 hRi fun H9 t9 s9 ht9=>?_
    refine⟨t9,_,rfl,SqT.of ht9,rfl,_,_,rfl,_,_,rfl,_,_,rfl,rfl,?_⟩
    refine⟨_,rfl,rfl,_,rfl,?_⟩
    rw[decide_eq_true rfl]
    refine Z0Z ?_
    refine⟨_,rfl,?_⟩
    refine⟨_,rfl,_,rfl,_,rfl,_,rfl,_,_,rfl,rfl,_,_,rfl,rfl,?_⟩
    have l9:=(s67.trans (s78.trans s9)) _ _ j1
    dsimp only [Z2o]
    refine Zb3 (fun σ HA=>σ=[some (.ref a),some (.ref b),some (.ref l),some (.int p),some (.int q),o5,some (.int g),some (.ref t),some (.int (f (i+1):Int)),some (.ref kx),some (.ref ky),some (.int (1+(i:Int))),some (.int (f (i+1):Int)),some .non,some (.int (bx * (by_ * m1 q) * m1 p)),some (.bl (decide ((if p < 0 then -p else p)+(if q < 0 then -q else q) < 25)))]/\Z0q H9 HA) (fun N hN=>?_) ?_
    ·refine⟨_,rfl,rfl,_,rfl,?_⟩
     refine Z5m (fun e1=>?_) (fun _=>?_)
     ·have i0:i=0:=by
       have:=of_decide_eq_true e1
       injection this with this
       lia
      refine⟨_,rfl,_,rfl,?_⟩
      refine Z5m (fun _=>?_) (fun _=>?_)
      ·refine⟨_,rfl,_,rfl,_,rfl,_,rfl,two,fun lA hlA=>?_⟩
       have sA':=Z08 (o:=.tup [.int (f (i+1):Int),.ref kx,.ref ky]) (Z0q.refl H9) hlA
       refine⟨_,rfl,_,rfl,_,rfl,b,lA,t,n,sq,f (i+1),r,u,tx,bx,ty,by_,p,q,rfl,hb7.same (s78.trans (s9.trans sA')),rr,ru,by lia,⟨kx,ky,Z06,sA' _ _ (s9 _ _ (s8 _ _ j1')),sA' _ _ (s9 _ _ (s8 _ _ j2'))⟩,f1 _,x0,x1,y0,y1,x2,y2,hw,fnd.same (s78.trans (s9.trans sA')),by rw[i0,f0]at hRi; rw[i0]; exact hRi,fun HB sB'=>?_⟩
       refine⟨_,rfl,?_⟩
       refine Z0Z ?_
       exact hN _ _ ⟨rfl,sA'.trans sB'⟩
      ·exact hN _ _ ⟨rfl,Z0q.refl _⟩
     ·exact hN _ _ ⟨rfl,Z0q.refl _⟩
    rintro σ HA ⟨rfl,s10⟩
    refine⟨_,rfl,_,rfl,l,_,0,_,rfl,rfl,SqT.of (s10 _ _ l9),Z09 (j:=0) rfl,rfl,_,rfl,?_⟩
    ·rcases hE with ⟨e,h1⟩ | ⟨e,hI'⟩
     ·rw[e,decide_eq_true rfl]
      refine Z1u ?_
      refine⟨_,rfl,_,rfl,t,i+1,by show [V.ref t,V.int (1+(i:Int))]=[V.ref t,V.int ((i+1:Nat):Int)]; rw[show (1+(i:Int))=((i+1:Nat):Int) by lia],(s78.trans (s9.trans s10)) _ _ h1,k _⟩
     ·rw[decide_eq_false (show ¬ V.int (f (i+1):Int)=V.int (sq:Int) from fun z=>e (by injection z with z; lia))]
      refine Z0Z ?_
      exact⟨_,_,_,_,_,rfl,s78.trans (s9.trans s10),hI'⟩
   ·refine goH rr ru (by lia) (hb7.same s78) hP8 (f1 i) x0 x1 y0 y1 x2 y2 hw.1 hH lv fun H9 t9 s9 ht9=>?_
    obtain⟨mv,rfl⟩:=Z93 lv
    refine⟨t9,_,rfl,SqT.of ht9,rfl,_,_,rfl,_,_,rfl,_,_,rfl,rfl,?_⟩
    refine⟨_,rfl,rfl,_,rfl,?_⟩
    rw[decide_eq_false (fun z=>by cases z)]
    refine Z1u ?_
    have s79:=s78.trans s9
    have g1:=s9 _ _ (s8 _ _ j1')
    have g2:=s9 _ _ (s8 _ _ j2')
    have bp:Bt 60 p:=by show p.natAbs < 2 ^ 60; have:=hw.1.1; lia
    have bq:Bt 60 q:=by show q.natAbs < 2 ^ 60; have:=hw.1.2.1; lia
    have btx:Bt 60 tx:=by show tx.natAbs < 2 ^ 60; lia
    have bty:Bt 60 ty:=by show ty.natAbs < 2 ^ 60; lia
    have bBx:Bt 60 bx:=by show bx.natAbs < 2 ^ 60; lia
    have bBy:Bt 60 by_:=by show by_.natAbs < 2 ^ 60; lia
    refine⟨_,rfl,_,rfl,kx,_,0,_,rfl,rfl,SqT.of g1,Z09 (j:=0) rfl,_,_,rfl,rfl,⟨bq.mono (by decide),btx.mono (by decide)⟩,?_⟩
    refine⟨_,rfl,ky,_,1,_,rfl,rfl,SqT.of g2,Z09 (j:=1) rfl,_,_,rfl,rfl,⟨Bt.mono (bq.mul btx) (by decide),bBy.mono (by decide)⟩,?_⟩
    refine⟨_,rfl,_,rfl,ky,_,0,_,rfl,rfl,SqT.of g2,Z09 (j:=0) rfl,_,_,rfl,rfl,⟨bp.mono (by decide),bty.mono (by decide)⟩,?_⟩
    refine⟨_,rfl,kx,_,1,_,rfl,rfl,SqT.of g1,Z09 (j:=1) rfl,_,_,rfl,rfl,⟨Bt.mono (bp.mul bty) (by decide),bBx.mono (by decide)⟩,?_⟩
    refine⟨_,_,rfl,rfl,?_⟩
    refine⟨_,rfl,kx,_,1,_,rfl,rfl,SqT.of g1,Z09 (j:=1) rfl,?_⟩
    refine⟨_,rfl,ky,_,1,_,rfl,rfl,SqT.of g2,Z09 (j:=1) rfl,_,_,rfl,rfl,⟨bBx.mono (by decide),bBy.mono (by decide)⟩,?_⟩
    refine⟨_,_,rfl,rfl,Int.mul_pos (show 0 < bx by lia) (show 0 < by_ by lia),rfl,_,rfl,?_⟩
    dsimp only
    rw[decide_eq_true (show V.int ((q * tx * by_ - p * ty * bx) % (bx * by_))=V.int 0 by rw[Zc4 (show 0 < bx by lia) (show 0 < by_ by lia) hw.1.2.2 hH])]
    refine Z0Z ?_
    have eU:=Zai (p:=p) (q:=q) (tx:=tx) (ty:=ty) (show 0 < bx by lia) (show 0 < by_ by lia)
    have o6:WOk p q (U6 tx bx ty by_ p q):=Z4t (Z0G (by lia)) (Z0G (by lia)) hw.1.2.2
    have pU:=o6.u
    have bU:Bt 200 (U6 tx bx ty by_ p q):=Z8X (Z4r bBx (by lia)) (Z4r bBy (by lia)) hw.1.1 hw.1.2.1
    have bT:Bt 200 T':=Bt.le bU (by lia)
    have bd1:Bt 60 (dv tx bx):=Zde bBx (by lia)
    have bd2:Bt 60 (dv ty by_):=Zde bBy (by lia)
    have bi:Bt 60 (i:Int):=by show ((i:Int)).natAbs < 2 ^ 60; lia
    have bun:Bt 400 (bx * (by_ * m1 q) * m1 p):=by rw[eU]; exact Bt.mono ((bd1.mul bd2).mul bU) (by decide)
    have bTk:Bt 400 (T' + (i:Int) * U6 tx bx ty by_ p q):=Bt.mono (Bt.add (bT.mono (show 200<=260 by decide)) (bi.mul bU)) (by decide)
    refine⟨_,rfl,_,rfl,_,rfl,_,rfl,_,_,rfl,rfl,_,rfl,_,_,rfl,rfl,⟨?_,bun.mono (by decide)⟩,_,_,rfl,rfl,?_⟩
    ·show Bt 4000 (1+(i:Int) - 1); rw[show (1+(i:Int) - 1)=(i:Int) by lia]; exact bi.mono (by decide)
    refine⟨_,rfl,t,pt,mv,_,_,_,_,_,rfl,s79 _ _ h1,rfl,hpt.same s79,Z0G (by lia),(Zcf bTk pU).mono (by decide),(Z4r bU pU).mono (by decide),?_,bun.mono (by decide),?_,fun H2 s2=>k H2⟩
    ·rw[show (1+(i:Int) - 1)=(i:Int) by lia]
     exact Bt.mono (Bt.add (Bt.mono ((bd1.mul bd2).mul bT) (show 60+60+200<=460 by decide)) (bi.mul bun)) (by decide)
    ·rw[show (1+(i:Int) - 1)=(i:Int) by lia,eU]
     have z:=ZfR (T' + (i:Int) * U6 tx bx ty by_ p q) (U6 tx bx ty by_ p q)
     generalize Z0C (T' + (i:Int) * U6 tx bx ty by_ p q) (U6 tx bx ty by_ p q)=x at *
     generalize Z0o (T' + (i:Int) * U6 tx bx ty by_ p q) (U6 tx bx ty by_ p q)=y at *
     have e1:x * (dv tx bx * dv ty by_ * U6 tx bx ty by_ p q)=dv tx bx * dv ty by_ * (x * U6 tx bx ty by_ p q):=by ac_rfl
     have e2:dv tx bx * dv ty by_ * T' + (i:Int) * (dv tx bx * dv ty by_ * U6 tx bx ty by_ p q)=dv tx bx * dv ty by_ * (T' + (i:Int) * U6 tx bx ty by_ p q):=by rw[Int.mul_add]; congr 1; ac_rfl
     rw[e1,z,e2]; ac_rfl
  ·rintro σ H' ⟨o11,o12,o13,o14,o15,rfl,s',hI⟩
   exfalso
   rcases hI with ⟨k,h1,h2,h3,h4,h5,h6⟩ | ⟨k,pt,v,T',bb,h1,h2,h3,_⟩
   ·have nd:∀ i j,i < j->j<=n->j < k->f i=f j->False:=by
     intro i
     induction i with
     | zero=>intro j a1 a2 a3 e; rw[f0]at e; exact h5 j a1 a3 e.symm
     | succ i ih=>
      intro j a1 a2 a3 e
      obtain⟨j',rfl⟩:∃ j',j=j' + 1:=⟨j - 1,by lia⟩
      exact ih j' (by lia) (by lia) (by lia) (f2 _ _ e)
    have nd2:((Y05 (n+1)).map f).Nodup:=by
     refine Y0t.mpr (List.Pairwise.imp_of_mem (fun {a b} ha hb hne e=>?_) (Y1g (n:=n+1)))
     have ha:=Y06.mp ha
     have hb:=Y06.mp hb
     rcases Nat.lt_trichotomy a b with c | c | c
     ·exact nd a b c (by lia) (by lia) e
     ·exact hne c
     ·exact nd b a c (by lia) (by lia) e.symm
    have:=Z2v _ (Y05 n) nd2 fun x hx=>by
     obtain⟨j,_,rfl⟩:=Y0f.mp hx
     exact Y06.mpr (f1 j)
    simp at this
    lia
   ·lia
end
end K1
def PySem.W.Fast.tw2277455907581176110:Nat:=0
def PySem.W.Fast.tw14083657010135212475:Nat:=0
def PySem.W.Fast.tw15203706792719518474:Nat:=0
def PySem.W.Fast.tw5361847691327611243:Nat:=0
def PySem.W.Fast.tw11255520060718981910:Nat:=0
def PySem.W.Fast.tw1501228567477330887:Nat:=0
def PySem.W.Fast.tw6065711864669127774:Nat:=0
def PySem.W.Fast.tw11827995423647503173:Nat:=0
def PySem.W.Fast.tw2511560056645137425:Nat:=0
def PySem.W.Fast.tw13289192347349820523:Nat:=0
def PySem.W.Fast.tw3789043872370351560:Nat:=0
def PySem.W.Fast.tw17342065556281937323:Nat:=0
def PySem.W.Fast.tw13390833168260349383:Nat:=0
def PySem.W.Fast.tw10662927139367867332:Nat:=0
def PySem.W.Fast.tw331185244401245383:Nat:=0
def PySem.W.Fast.tw2131531780950116254:Nat:=0
def PySem.W.Fast.tw13715328607716207911:Nat:=0
def PySem.W.Fast.tw7603910379081210201:Nat:=0
def PySem.W.Fast.tw16833953203124643541:Nat:=0
def PySem.W.Fast.tw8082134460316821798:Nat:=0
def PySem.W.Fast.tw16540242678819310246:Nat:=0
def PySem.W.Fast.tw2680752606871516242:Nat:=0
def PySem.W.Fast.tw6265961688845550847:Nat:=0
def PySem.W.Fast.tw618798776760388357:Nat:=0
def PySem.W.Fast.tw4349225172309214936:Nat:=0
def PySem.W.Fast.tw10593357945150386030:Nat:=0
def PySem.W.Fast.tw17180187605974700168:Nat:=0
def PySem.W.Fast.tw3520879328777314521:Nat:=0
def PySem.W.Fast.tw9772270387405437453:Nat:=0
def PySem.W.Fast.tw3472551152840383630:Nat:=0
def PySem.W.Fast.tw1617344910787469580:Nat:=0
def PySem.W.Fast.tw9791450808959618167:Nat:=0
def PySem.W.Fast.tw870968156362533935:Nat:=0
def PySem.W.Fast.tw10664699848028428996:Nat:=0
def PySem.W.Fast.tw17758820420417626825:Nat:=0
def PySem.W.Fast.tw8630394066217823272:Nat:=0
def PySem.W.Fast.tw3602390503972476573:Nat:=0
def PySem.W.Fast.tw8288690547531011803:Nat:=0
def PySem.W.Fast.tw15168962671397240421:Nat:=0
def PySem.W.Fast.tw1780007308723063870:Nat:=0
def PySem.W.Fast.tw2718805312879804484:Nat:=0
def PySem.W.Fast.tw13185976334014797641:Nat:=0
def PySem.W.Fast.tw10370724162918463240:Nat:=0
def PySem.W.Fast.tw10410439043608494654:Nat:=0
def PySem.W.Fast.tw9612342278380754823:Nat:=0
def PySem.W.Fast.tw3183257894280638478:Nat:=0
def PySem.W.Fast.tw2522403562534875292:Nat:=0
def PySem.W.Fast.tw14084815215205481172:Nat:=0
def PySem.W.Fast.tw9601384668291934435:Nat:=0
def PySem.W.Fast.tw17965662505709459502:Nat:=0
def PySem.W.Fast.tw11910194093937923544:Nat:=0
def PySem.W.Fast.tw2869178749404577548:Nat:=0
def PySem.W.Fast.tw10729014593626429341:Nat:=0
def PySem.W.Fast.tw10077075042089174618:Nat:=0
def PySem.W.Fast.tw13291802288839949615:Nat:=0
def PySem.W.Fast.tw14046458911785292415:Nat:=0
def PySem.W.Fast.tw4859467853926511925:Nat:=0
def PySem.W.Fast.tw15464584651578717083:Nat:=0
def PySem.W.Fast.tw10887721612419235334:Nat:=0
def PySem.W.Fast.tw17740434319414855186:Nat:=0
def PySem.W.Fast.tw2045581629934388678:Nat:=0
def PySem.W.Fast.tw1463358698824429252:Nat:=0
def PySem.W.Fast.tw13039818260284802296:Nat:=0
def PySem.W.Fast.tw6461668859220690276:Nat:=0
def PySem.W.Fast.tw2772810489106191293:Nat:=0
def PySem.W.Fast.tw13381375911699046983:Nat:=0
def PySem.W.Fast.tw9704592100790471807:Nat:=0
def PySem.W.Fast.tw1599528627635759701:Nat:=0
def PySem.W.Fast.tw1481382975899535319:Nat:=0
def PySem.W.Fast.tw15410160070725422134:Nat:=0
def PySem.W.Fast.tw17905497693990130293:Nat:=0
def PySem.W.Fast.tw3178883345230474040:Nat:=0
def PySem.W.Fast.tw7009909686639640879:Nat:=0
def PySem.W.Fast.tw17612572716313333387:Nat:=0
def PySem.W.Fast.tw3509880593588666387:Nat:=0
def PySem.W.Fast.tw4493731557589371939:Nat:=0
def PySem.W.Fast.tw1455494597885967620:Nat:=0
def PySem.W.Fast.tw8622703878417447546:Nat:=0
def PySem.W.Fast.tw10788663044493307660:Nat:=0
def PySem.W.Fast.tw11363664590016013032:Nat:=0
def PySem.W.Fast.tw9330429415221980081:Nat:=0
def PySem.W.Fast.tw8430424313944938668:Nat:=0
def PySem.W.Fast.tw5743575021708970900:Nat:=0
def PySem.W.Fast.tw17678274886304480893:Nat:=0
def PySem.W.Fast.tw1917760008522788406:Nat:=0
def PySem.W.Fast.tw1689271824670180544:Nat:=0
def PySem.W.Fast.tw3586038535612483108:Nat:=0
def PySem.W.Fast.tw1907937284466143152:Nat:=0
def PySem.W.Fast.tw18010535064444319097:Nat:=0
def PySem.W.Fast.tw4545891639838437712:Nat:=0
def PySem.W.Fast.tw10616496026111458831:Nat:=0
def PySem.W.Fast.tw8773715830433086607:Nat:=0
def PySem.W.Fast.tw3137644698588849660:Nat:=0
def PySem.W.Fast.tw5466021486062385901:Nat:=0
def PySem.W.Fast.tw12771660206982650270:Nat:=0
def PySem.W.Fast.tw11901023310969460680:Nat:=0
def PySem.W.Fast.tw6327983708349805719:Nat:=0
def PySem.W.Fast.tw5148842095211338280:Nat:=0
def PySem.W.Fast.tw15897964163579016488:Nat:=0
def PySem.W.Fast.tw16533987238738587579:Nat:=0
def PySem.W.Fast.tw17094415008033418566:Nat:=0
def PySem.W.Fast.tw941833639422644641:Nat:=0
def PySem.W.Fast.tw17369007831635055848:Nat:=0
def PySem.W.Fast.tw13561254750435888460:Nat:=0
def PySem.W.Fast.tw6103497133470091604:Nat:=0
def PySem.W.Fast.tw14903697797595039367:Nat:=0
def PySem.W.Fast.tw11632907790938933320:Nat:=0
def PySem.W.Fast.tw17765064986286543057:Nat:=0
def PySem.W.Fast.tw13349833624010677835:Nat:=0
def PySem.W.Fast.tw6330091458624285612:Nat:=0
def PySem.W.Fast.tw14882650094281303041:Nat:=0
def PySem.W.Fast.tw12944847252557003554:Nat:=0
def PySem.W.Fast.tw10277630058615275651:Nat:=0
def PySem.W.Fast.tw12224118256322291153:Nat:=0
def PySem.W.Fast.tw7370167473888306585:Nat:=0
def PySem.W.Fast.tw3643615896492876872:Nat:=0
def PySem.W.Fast.tw15391301451038516193:Nat:=0
def PySem.W.Fast.tw14571378477176360893:Nat:=0
def PySem.W.Fast.tw1131133354345818621:Nat:=0
def PySem.W.Fast.tw10365701464054978615:Nat:=0
def PySem.W.Fast.tw7283074309945384048:Nat:=0
def PySem.W.Fast.tw13304353390347113750:Nat:=0
def PySem.W.Fast.tw10488427222472125067:Nat:=0
def PySem.W.Fast.tw8201238106350253822:Nat:=0
def PySem.W.Fast.tw12473831064453445037:Nat:=0
def PySem.W.Fast.tw17368907988319687096:Nat:=0
def PySem.W.Fast.tw9142164783941492242:Nat:=0
def PySem.W.Fast.tw8659130549788120720:Nat:=0
def PySem.W.Fast.tw16096056878232865497:Nat:=0
def PySem.W.Fast.tw7982826681025287914:Nat:=0
def PySem.W.Fast.tw11079415824970552873:Nat:=0
def PySem.W.Fast.tw14595388010475285130:Nat:=0
def PySem.W.Fast.tw3320276902612344152:Nat:=0
def PySem.W.Fast.tw13656800824364505682:Nat:=0
def PySem.W.Fast.tw13809893100474888558:Nat:=0
def PySem.W.Fast.tw9608435178411231046:Nat:=0
def PySem.W.Fast.tw7214223350107976363:Nat:=0
def PySem.W.Fast.tw17290181723457415196:Nat:=0
def PySem.W.Fast.tw11447274788693840594:Nat:=0
def PySem.W.Fast.tw11182841102132268352:Nat:=0
def PySem.W.Fast.tw15410676785167563704:Nat:=0
def PySem.W.Fast.tw12356876719651600195:Nat:=0
def PySem.W.Fast.tw16483520961298666953:Nat:=0
def PySem.W.Fast.tw13081382884405090406:Nat:=0
def PySem.W.Fast.tw14284692999475268128:Nat:=0
def PySem.W.Fast.tw16969901808903012830:Nat:=0
def PySem.W.Fast.tw9821096482716066607:Nat:=0
def PySem.W.Fast.tw15646622627105291413:Nat:=0
def PySem.W.Fast.tw9110955540612034333:Nat:=0
def PySem.W.Fast.tw1532293146563586566:Nat:=0
def PySem.W.Fast.tw4243440024236651207:Nat:=0
def PySem.W.Fast.tw7559242097546954766:Nat:=0
def PySem.W.Fast.tw8761124392779749922:Nat:=0
def PySem.W.Fast.tw5764641592090714977:Nat:=0
def PySem.W.Fast.tw17353003595066377680:Nat:=0
def PySem.W.Fast.tw9511673202602390051:Nat:=0
def PySem.W.Fast.tw13298456954296041518:Nat:=0
def PySem.W.Fast.tw8605800106124321142:Nat:=0
def PySem.W.Fast.tw4996310795317208068:Nat:=0
def PySem.W.Fast.tw9430411293008263416:Nat:=0
def PySem.W.Fast.tw3498506707617601716:Nat:=0
def PySem.W.Fast.tw11175072132770447357:Nat:=0
def PySem.W.Fast.tw52311426269773029:Nat:=0
def PySem.W.Fast.tw15056874698386201967:Nat:=0
def PySem.W.Fast.tw11730881957261108010:Nat:=0
def PySem.W.Fast.tw17210729923917518765:Nat:=0
def PySem.W.Fast.tw1381313348568714988:Nat:=0
def PySem.W.Fast.tw17652252775086567994:Nat:=0
def PySem.W.Fast.tw1316594079687630706:Nat:=0
def PySem.W.Fast.tw3601803486186509674:Nat:=0
def PySem.W.Fast.tw4967140365230224461:Nat:=0
def PySem.W.Fast.tw14697062571457991930:Nat:=0
def PySem.W.Fast.tw18411070177692392491:Nat:=0
def PySem.W.Fast.tw11355763432541007085:Nat:=0
def PySem.W.Fast.tw5925227154213711844:Nat:=0
def PySem.W.Fast.tw13312606690028847680:Nat:=0
def PySem.W.Fast.tw3554370596882101170:Nat:=0
def PySem.W.Fast.tw398135373966646923:Nat:=0
def PySem.W.Fast.tw5794622166549443538:Nat:=0
def PySem.W.Fast.tw16273567739184658474:Nat:=0
def PySem.W.Fast.tw10041234496556760046:Nat:=0
def PySem.W.Fast.tw1093874106724675970:Nat:=0
def PySem.W.Fast.tw17439858449061158477:Nat:=0
def PySem.W.Fast.tw7021194884564826289:Nat:=0
def PySem.W.Fast.tw12420038590760816946:Nat:=0
def PySem.W.Fast.tw7475746598649233085:Nat:=0
def PySem.W.Fast.tw6097145695848697896:Nat:=0
def PySem.W.Fast.tw17537689100448618258:Nat:=0
def PySem.W.Fast.tw10041689883345952473:Nat:=0
def PySem.W.Fast.tw8361703269309480932:Nat:=0
def PySem.W.Fast.tw10368387279761594945:Nat:=0
def PySem.W.Fast.tw9317953005845378352:Nat:=0
def PySem.W.Fast.tw9883553099052901126:Nat:=0
def PySem.W.Fast.tw14255216855685616535:Nat:=0
def PySem.W.Fast.tw14905661090989344595:Nat:=0
def PySem.W.Fast.tw16990974659261030990:Nat:=0
def PySem.W.Fast.tw6583520805591658996:Nat:=0
def PySem.W.Fast.tw6672078994420797631:Nat:=0
def PySem.W.Fast.tw16273089541154001411:Nat:=0
def PySem.W.Fast.tw1180368689859901571:Nat:=0
def PySem.W.Fast.tw8294479857010704582:Nat:=0
def PySem.W.Fast.tw13622522081007549501:Nat:=0
def PySem.W.Fast.tw4686292960870852139:Nat:=0
def PySem.W.Fast.tw945349242082852199:Nat:=0
def PySem.W.Fast.tw3037407944435912964:Nat:=0
def PySem.W.Fast.tw14787662033996946450:Nat:=0
def PySem.W.Fast.tw16388376963109710285:Nat:=0
def PySem.W.Fast.tw11064603777632396187:Nat:=0
def PySem.W.Fast.tw16227964393844372322:Nat:=0
def PySem.W.Fast.tw4326119291174788393:Nat:=0
def PySem.W.Fast.tw1530129205331921285:Nat:=0
def PySem.W.Fast.tw10479635874472295005:Nat:=0
def PySem.W.Fast.tw526553157314863398:Nat:=0
def PySem.W.Fast.tw17889892476265132508:Nat:=0
def PySem.W.Fast.tw12122769229990063634:Nat:=0
def PySem.W.Fast.tw17972533537026251922:Nat:=0
def PySem.W.Fast.tw9063519632519008420:Nat:=0
def PySem.W.Fast.tw10102230084425323008:Nat:=0
def PySem.W.Fast.tw5850764687547190880:Nat:=0
def PySem.W.Fast.tw11521532098397606627:Nat:=0
def PySem.W.Fast.tw2691356280383973640:Nat:=0
def PySem.W.Fast.tw7211887186400188193:Nat:=0
def PySem.W.Fast.tw15642294733860767547:Nat:=0
def PySem.W.Fast.tw7605990983571224086:Nat:=0
def PySem.W.Fast.tw11452799979935317727:Nat:=0
def PySem.W.Fast.tw15751843634835372727:Nat:=0
def PySem.W.Fast.tw7462852967614408528:Nat:=0
def PySem.W.Fast.tw13067808982085998687:Nat:=0
def PySem.W.Fast.tw6756132745894126147:Nat:=0
def PySem.W.Fast.tw13371754521875940651:Nat:=0
def PySem.W.Fast.tw6400499389827242750:Nat:=0
def PySem.W.Fast.tw16952161030924139219:Nat:=0
def PySem.W.Fast.tw11199559892386252897:Nat:=0
def PySem.W.Fast.tw12149295094007855309:Nat:=0
def PySem.W.Fast.tw251103685022613271:Nat:=0
def PySem.W.Fast.tw9549526804059749017:Nat:=0
def PySem.W.Fast.tw12605886605208698702:Nat:=0
def PySem.W.Fast.tw5605353252667207143:Nat:=0
def PySem.W.Fast.tw7090555034614880033:Nat:=0
def PySem.W.Fast.tw9383099169025385587:Nat:=0
def PySem.W.Fast.tw6547373192513544512:Nat:=0
def PySem.W.Fast.tw13545068237006110165:Nat:=0
def PySem.W.Fast.tw13366757688899274670:Nat:=0
def PySem.W.Fast.tw13467911933804679579:Nat:=0
def PySem.W.Fast.tw646311110726819565:Nat:=0
def PySem.W.Fast.tw7676475131276544229:Nat:=0
def PySem.W.Fast.tw9175491232157967312:Nat:=0
def PySem.W.Fast.tw18248504421354644467:Nat:=0
def PySem.W.Fast.tw13879829508027501487:Nat:=0
def PySem.W.Fast.tw6956560807448837966:Nat:=0
def PySem.W.Fast.tw17195316963268248720:Nat:=0
def PySem.W.Fast.tw6612593231135195582:Nat:=0
def PySem.W.Fast.tw14223867252630852667:Nat:=0
def PySem.W.Fast.tw9258639717761991459:Nat:=0
def PySem.W.Fast.tw13632789407017263815:Nat:=0
def PySem.W.Fast.tw4848271689474131269:Nat:=0
def PySem.W.Fast.tw1307501999235179046:Nat:=0
def PySem.W.Fast.tw88741126083020086:Nat:=0
def PySem.W.Fast.tw7931891192764156663:Nat:=0
def PySem.W.Fast.tw18214689762426957254:Nat:=0
def PySem.W.Fast.tw1983943013293240975:Nat:=0
def PySem.W.Fast.tw159280169123740690:Nat:=0
def PySem.W.Fast.tw2073911318512047105:Nat:=0
def PySem.W.Fast.tw4996933454463637061:Nat:=0
def PySem.W.Fast.tw7629026120711837806:Nat:=0
def PySem.W.Fast.tw133055352976573022:Nat:=0
def PySem.W.Fast.tw13845421630140216361:Nat:=0
def PySem.W.Fast.tw6322832575612075783:Nat:=0
def PySem.W.Fast.tw15938453958899446593:Nat:=0
def PySem.W.Fast.tw8689158960572152119:Nat:=0
def PySem.W.Fast.tw11412351006522565041:Nat:=0
def PySem.W.Fast.tw11337128581229119871:Nat:=0
def PySem.W.Fast.tw2062007046206633245:Nat:=0
def PySem.W.Fast.tw11651129116574246904:Nat:=0
def PySem.W.Fast.tw9886842535106829990:Nat:=0
def PySem.W.Fast.tw13160003805099487741:Nat:=0
def PySem.W.Fast.tw16540137600569407032:Nat:=0
def PySem.W.Fast.tw1143339713423541179:Nat:=0
def PySem.W.Fast.tw10924666288550072158:Nat:=0
def PySem.W.Fast.tw7009173369767022592:Nat:=0
def PySem.W.Fast.tw3645831865010242583:Nat:=0
def PySem.W.Fast.tw14349242152625031544:Nat:=0
def PySem.W.Fast.tw13967609061709106652:Nat:=0
def PySem.W.Fast.tw12980515475311709707:Nat:=0
def PySem.W.Fast.tw13805907742399234075:Nat:=0
def PySem.W.Fast.tw3503144871851246404:Nat:=0
def PySem.W.Fast.tw7181071098181820949:Nat:=0
def PySem.W.Fast.tw16457096005418014035:Nat:=0
def PySem.W.Fast.tw9491771042942935880:Nat:=0
def PySem.W.Fast.tw18092394146358565321:Nat:=0
def PySem.W.Fast.tw8020267526314040775:Nat:=0
def PySem.W.Fast.tw17453222522036952698:Nat:=0
def PySem.W.Fast.tw18046782763046869138:Nat:=0
def PySem.W.Fast.tw12987950739066948659:Nat:=0
def PySem.W.Fast.tw14852397290588673443:Nat:=0
def PySem.W.Fast.tw16380253445888793599:Nat:=0
def PySem.W.Fast.tw1639544940073024880:Nat:=0
def PySem.W.Fast.tw2731819515978249349:Nat:=0
def PySem.W.Fast.tw1738904687673177329:Nat:=0
def PySem.W.Fast.tw11377290102043331815:Nat:=0
def PySem.W.Fast.tw11597711777601950114:Nat:=0
def PySem.W.Fast.tw17694777477137335480:Nat:=0
def PySem.W.Fast.tw6633949973038221487:Nat:=0
def PySem.W.Fast.tw2166793606016533311:Nat:=0
def PySem.W.Fast.tw14202543180587597903:Nat:=0
def PySem.W.Fast.tw14272427984019820441:Nat:=0
def PySem.W.Fast.tw12455275399105006020:Nat:=0
def PySem.W.Fast.tw15354268456566699231:Nat:=0
def PySem.W.Fast.tw1165573265397224371:Nat:=0
def PySem.W.Fast.tw1569962579866812409:Nat:=0
def PySem.W.Fast.tw6355244497448669758:Nat:=0
def PySem.W.Fast.tw11244704026075261867:Nat:=0
def PySem.W.Fast.tw6441649799091841516:Nat:=0
def PySem.W.Fast.tw4858358994666343859:Nat:=0
def PySem.W.Fast.tw12494586097374665671:Nat:=0
def PySem.W.Fast.tw4131729512664725844:Nat:=0
def PySem.W.Fast.tw12442632492552495222:Nat:=0
def PySem.W.Fast.tw6595393322152598054:Nat:=0
def PySem.W.Fast.tw14930718659722959951:Nat:=0
def PySem.W.Fast.tw5338280821479446648:Nat:=0
def PySem.W.Fast.tw18000884780333093243:Nat:=0
def PySem.W.Fast.tw6585012322714721993:Nat:=0
namespace K1
open PySem L2 Sq
def Raw (K:Y00)(x:Str)(st:Stmt):Prop:=∃ f fd,Fun K x x st f fd/\Y12 K mainGlobals x=some (some (.ref f))/\∃ kV doc pm an cdv ct,fd=Y1l x x (Z1r st) (Z1b st) (Z0a st) .none kV doc pm an cdv ct
theorem Z0v {K:Y00}{x:Str}{st:Stmt}{f:Addr}{oc:Value}{od an:Option Addr}{osl:Array (Option Value)}{kV doc pm cdv ct:Value}(a:Y12 K mainGlobals x=some (some (.ref f)))
  (l:K.lookup f=some ⟨oc,od,.func (Y1l x x (Z1r st) (Z1b st) (Z0a st) .none kV doc pm an cdv ct),osl⟩) (c:PySem.W.codeIn K cdv x=true) (k:Y1s K (.ref f)=true):Raw K x st:=
 ⟨f,_,ZaF l c k,a,kV,doc,pm,an,cdv,ct,rfl⟩
theorem Raw.fn {K:Y00}{h:Heap}{mg:Str->Option Value}{x:Str}{st:Stmt}{ps:List Str}(X:K.In h)(G:h.Ns mainGlobals mg)(R:Raw K x st)
  (b:∀ (kV doc pm:Value) (an:Option Addr) (cdv ct:Value) (us:List Value),us.length=ps.length->bindArgs (Y1l x x (Z1r st) (Z1b st) (Z0a st) .none kV doc pm an cdv ct) ⟨us,[]⟩=pure (ps.zip us)):∃ f fd,Fn K mg x st ps f fd:=by
 obtain⟨f,fd,F,a,_⟩:=R
 exact⟨f,fd,F,F.binds b,PySem.W.mg_of X G a⟩
set_option maxHeartbeats 0 in
theorem Zee {l:PySem.W.OpenLaw}{w:World}{K:Y00}{h:Heap}{mg:Str->Option Value}{fa:Addr}{t_FARTHEST:Tok}{CL:Addr}{CY:Addr}{CN:Addr}{CP f_CP:Addr}(X:K.In h)(G:h.Ns mainGlobals mg)(hfa:mg "law"=some (.ref fa))
  (R_size:Raw K "size" Z9o)
  (R_back_row:Raw K "back_row" Z2D)
  (R_is_whole:Raw K "is_whole" Z3e)
  (R_is_square:Raw K "is_square" Z8Q)
  (R_cycle_from:Raw K "cycle_from" Z21)
  (R_cycles:Raw K "cycles" Z2N)
  (R_corners:Raw K "corners" Z2X)
  (R_turn_row:Raw K "turn_row" Z2A)
  (R_rough_squares:Raw K "rough_squares" Z1m)
  (R_common_divisor:Raw K "common_divisor" Z11)
  (R_back_after:Raw K "back_after" Z1H)
  (R_need_place:Raw K "need_place" Z22)
  (R_is_inside:Raw K "is_inside" Z2t)
  (R_need_way:Raw K "need_way" Z3h)
  (R_need_straight_way:Raw K "need_straight_way" Z0Y)
  (R_walked:Raw K "walked" Z46)
  (R_unit_of:Raw K "unit_of" Z3Z)
  (R_in_units:Raw K "in_units" Z32)
  (R_is_at_corner:Raw K "is_at_corner" Z1O)
  (R_set_out:Raw K "set_out" Z4e)
  (R_ticks_to_side:Raw K "ticks_to_side" Z1y)
  (R_arrived:Raw K "arrived" Z3b)
  (R__law_cell:Raw K "_law_cell" Z5c)
  (R__law_whole:Raw K "_law_whole" Z4s)
  (R__law_row:Raw K "_law_row" Z9x)
  (R__law_torus:Raw K "_law_torus" Z4n)
  (R__law_exchanged:Raw K "_law_exchanged" Z1N)
  (R__law_together:Raw K "_law_together" Z1s)
  (R__law_free:Raw K "_law_free" Z4L)
  (R__law_raw:Raw K "_law_raw" Z7L)
  (R__law_digits:Raw K "_law_digits" Z2U)
  (R__law_sheet:Raw K "_law_sheet" Z5M)
  (R__law_back:Raw K "_law_back" Z3V)
  (R__law_later:Raw K "_law_later" Z3k)
  (R__law_round:Raw K "_law_round" Z4q)
  (R__law_pair:Raw K "_law_pair" Z69)
  (R__law_part:Raw K "_law_part" Z5q)
  (R__law_place:Raw K "_law_place" Z44)
  (R__law_any_part:Raw K "_law_any_part" Z2y)
  (R__law_any_place:Raw K "_law_any_place" Z27)
  (R__law_any_direction:Raw K "_law_any_direction" Z1d)
  (R__law_handed:Raw K "_law_handed" Z3r)
  (R__law_direction:Raw K "_law_direction" Z1J)
  (R__law_divisor:Raw K "_law_divisor" Z2x)
  (R__law_is_corner:Raw K "_law_is_corner" Z26)
  (R__law_lines:Raw K "_law_lines" Z6e)
  (R__law_whole_times:Raw K "_law_whole_times" Z1x)
  (R__law_corner_times:Raw K "_law_corner_times" Z18)
  (R__law_gone:Raw K "_law_gone" Z4U)
  (R__law_is_back:Raw K "_law_is_back" Z2V)
  (R__law_same_back:Raw K "_law_same_back" Z25)
  (R_law:Raw K "law" ZdJ)
  (c_FARTHEST:Y12 K mainGlobals "FARTHEST"=some (some (.int 60 t_FARTHEST)))
  (m_CL:Y12 K mainGlobals "NoPlace"=some (some (.ref CL))) (f_CL:Zga K CL)
  (m_CY:Y12 K mainGlobals "NoWay"=some (some (.ref CY))) (f_CY:Zga K CY)
  (m_CN:Y12 K mainGlobals "NoNumber"=some (some (.ref CN))) (f_CN:Zga K CN)
  (e_CN:Z3c K CN)
  (e_CL:Z3c K CL)
  (e_CY:Z3c K CY)
  (m_CP:Y12 K mainGlobals "Part"=some (some (.ref CP))) (t_CP:Zft K CP) (i_CP:∃ fd,PIn K CP f_CP fd)
  (q_whole:Zek K CP "whole" "Part.whole" Zf7)
  (q_plus:Zek K CP "plus" "Part.plus" Zfe)
  (z_len:Y12 K mainGlobals "len"=some none)
  (z_range:Y12 K mainGlobals "range"=some none)
  (z_list:Y12 K mainGlobals "list"=some none)
  (z_tuple:Y12 K mainGlobals "tuple"=some none)
  (z_isinstance:Y12 K mainGlobals "isinstance"=some none)
  (z_int:Y12 K mainGlobals "int"=some none)
  (z_bool:Y12 K mainGlobals "bool"=some none)
  (z_all:Y12 K mainGlobals "all"=some none)
  (z_set:Y12 K mainGlobals "set"=some none)
  (z_sorted:Y12 K mainGlobals "sorted"=some none)
  (z_enumerate:Y12 K mainGlobals "enumerate"=some none)
  (z_abs:Y12 K mainGlobals "abs"=some none)
  (z_max:Y12 K mainGlobals "max"=some none)
  (z_min:Y12 K mainGlobals "min"=some none)
  : ∃ fd:FuncData,(∀ (s:Shared) (v:Value),BindsTo s fd ⟨[v],[]⟩ [("_law_script",v)])/\∀ base:Heap,K.In base->base.Ns mainGlobals mg->Z0x l.prog w K mg base CX0 11 fa fd ["_law_script"] (Zae K):=by
 have T:Bi mg:=⟨Y0w X G z_len,Y0w X G z_range,Y0w X G z_list,Y0w X G z_tuple,Y0w X G z_isinstance,Y0w X G z_int,Y0w X G z_bool,Y0w X G z_all,Y0w X G z_set,Y0w X G z_sorted,Y0w X G z_enumerate⟩
 have T_abs:mg "abs"=none:=Y0w X G z_abs
 have T_max:mg "max"=none:=Y0w X G z_max
 have T_min:mg "min"=none:=Y0w X G z_min
 have C_FARTHEST:=PySem.W.mg_of X G c_FARTHEST
 have M_CL:=PySem.W.mg_of X G m_CL
 have M_CY:=PySem.W.mg_of X G m_CY
 have M_CN:=PySem.W.mg_of X G m_CN
 have T_CP:=t_CP.tx (PySem.W.mg_of X G m_CP)
 obtain⟨d_CP,I_CP⟩:=i_CP
 obtain⟨dV_CP,D_CP⟩:=I_CP.F
 obtain⟨f_whole,d_whole,F_whole⟩:=q_whole.fn (ps:=["self"]) fun _ _ _ _ _ _ us hl=>match us,hl with | [_],_=>rfl
 obtain⟨f_plus,d_plus,F_plus⟩:=q_plus.fn (ps:=["self","other"]) fun _ _ _ _ _ _ us hl=>match us,hl with | [_,_],_=>rfl
 obtain⟨f_size,d_size,F_size⟩:=R_size.fn (ps:=["sheet"]) X G fun _ _ _ _ _ _ us hl=>match us,hl with | [_],_=>rfl
 obtain⟨f_back_row,d_back_row,F_back_row⟩:=R_back_row.fn (ps:=["row"]) X G fun _ _ _ _ _ _ us hl=>match us,hl with | [_],_=>rfl
 obtain⟨f_is_whole,d_is_whole,F_is_whole⟩:=R_is_whole.fn (ps:=["thing"]) X G fun _ _ _ _ _ _ us hl=>match us,hl with | [_],_=>rfl
 obtain⟨f_is_square,d_is_square,F_is_square⟩:=R_is_square.fn (ps:=["thing","squares"]) X G fun _ _ _ _ _ _ us hl=>match us,hl with | [_,_],_=>rfl
 obtain⟨f_cycle_from,d_cycle_from,F_cycle_from⟩:=R_cycle_from.fn (ps:=["row","first"]) X G fun _ _ _ _ _ _ us hl=>match us,hl with | [_,_],_=>rfl
 obtain⟨f_cycles,d_cycles,F_cycles⟩:=R_cycles.fn (ps:=["row"]) X G fun _ _ _ _ _ _ us hl=>match us,hl with | [_],_=>rfl
 obtain⟨f_corners,d_corners,F_corners⟩:=R_corners.fn (ps:=["sheet"]) X G fun _ _ _ _ _ _ us hl=>match us,hl with | [_],_=>rfl
 obtain⟨f_turn_row,d_turn_row,F_turn_row⟩:=R_turn_row.fn (ps:=["sheet"]) X G fun _ _ _ _ _ _ us hl=>match us,hl with | [_],_=>rfl
 obtain⟨f_rough_squares,d_rough_squares,F_rough_squares⟩:=R_rough_squares.fn (ps:=["sheet"]) X G fun _ _ _ _ _ _ us hl=>match us,hl with | [_],_=>rfl
 obtain⟨f_common_divisor,d_common_divisor,F_common_divisor⟩:=R_common_divisor.fn (ps:=["one","other"]) X G fun _ _ _ _ _ _ us hl=>match us,hl with | [_,_],_=>rfl
 obtain⟨f_back_after,d_back_after,F_back_after⟩:=R_back_after.fn (ps:=["sheet","place","p","q"]) X G fun _ _ _ _ _ _ us hl=>match us,hl with | [_,_,_,_],_=>rfl
 obtain⟨f_need_place,d_need_place,F_need_place⟩:=R_need_place.fn (ps:=["sheet","place"]) X G fun _ _ _ _ _ _ us hl=>match us,hl with | [_,_],_=>rfl
 obtain⟨f_is_inside,d_is_inside,F_is_inside⟩:=R_is_inside.fn (ps:=["part"]) X G fun _ _ _ _ _ _ us hl=>match us,hl with | [_],_=>rfl
 obtain⟨f_need_way,d_need_way,F_need_way⟩:=R_need_way.fn (ps:=["p","q"]) X G fun _ _ _ _ _ _ us hl=>match us,hl with | [_,_],_=>rfl
 obtain⟨f_need_straight_way,d_need_straight_way,F_need_straight_way⟩:=R_need_straight_way.fn (ps:=["p","q"]) X G fun _ _ _ _ _ _ us hl=>match us,hl with | [_,_],_=>rfl
 obtain⟨f_walked,d_walked,F_walked⟩:=R_walked.fn (ps:=["sheet","place","p","q","steps"]) X G fun _ _ _ _ _ _ us hl=>match us,hl with | [_,_,_,_,_],_=>rfl
 obtain⟨f_unit_of,d_unit_of,F_unit_of⟩:=R_unit_of.fn (ps:=["place","p","q"]) X G fun _ _ _ _ _ _ us hl=>match us,hl with | [_,_,_],_=>rfl
 obtain⟨f_in_units,d_in_units,F_in_units⟩:=R_in_units.fn (ps:=["part","unit"]) X G fun _ _ _ _ _ _ us hl=>match us,hl with | [_,_],_=>rfl
 obtain⟨f_is_at_corner,d_is_at_corner,F_is_at_corner⟩:=R_is_at_corner.fn (ps:=["spot","rough"]) X G fun _ _ _ _ _ _ us hl=>match us,hl with | [_,_],_=>rfl
 obtain⟨f_set_out,d_set_out,F_set_out⟩:=R_set_out.fn (ps:=["spot","p","q","back","unit"]) X G fun _ _ _ _ _ _ us hl=>match us,hl with | [_,_,_,_,_],_=>rfl
 obtain⟨f_ticks_to_side,d_ticks_to_side,F_ticks_to_side⟩:=R_ticks_to_side.fn (ps:=["at","speed","unit"]) X G fun _ _ _ _ _ _ us hl=>match us,hl with | [_,_,_],_=>rfl
 obtain⟨f_arrived,d_arrived,F_arrived⟩:=R_arrived.fn (ps:=["spot","sheet","unit"]) X G fun _ _ _ _ _ _ us hl=>match us,hl with | [_,_,_],_=>rfl
 obtain⟨f__law_cell,d__law_cell,F__law_cell⟩:=R__law_cell.fn (ps:=["_law_script","_law_k"]) X G fun _ _ _ _ _ _ us hl=>match us,hl with | [_,_],_=>rfl
 obtain⟨f__law_whole,d__law_whole,F__law_whole⟩:=R__law_whole.fn (ps:=["_law_found"]) X G fun _ _ _ _ _ _ us hl=>match us,hl with | [_],_=>rfl
 obtain⟨f__law_row,d__law_row,F__law_row⟩:=R__law_row.fn (ps:=["_law_script","_law_at","_law_many"]) X G fun _ _ _ _ _ _ us hl=>match us,hl with | [_,_,_],_=>rfl
 obtain⟨f__law_torus,d__law_torus,F__law_torus⟩:=R__law_torus.fn (ps:=["_law_long","_law_high","_law_shift"]) X G fun _ _ _ _ _ _ us hl=>match us,hl with | [_,_,_],_=>rfl
 obtain⟨f__law_exchanged,d__law_exchanged,F__law_exchanged⟩:=R__law_exchanged.fn (ps:=["_law_row_here","_law_script","_law_at","_law_times"]) X G fun _ _ _ _ _ _ us hl=>match us,hl with | [_,_,_,_],_=>rfl
 obtain⟨f__law_together,d__law_together,F__law_together⟩:=R__law_together.fn (ps:=["_law_first","_law_second"]) X G fun _ _ _ _ _ _ us hl=>match us,hl with | [_,_],_=>rfl
 obtain⟨f__law_free,d__law_free,F__law_free⟩:=R__law_free.fn (ps:=["_law_script"]) X G fun _ _ _ _ _ _ us hl=>match us,hl with | [_],_=>rfl
 obtain⟨f__law_raw,d__law_raw,F__law_raw⟩:=R__law_raw.fn (ps:=["_law_script","_law_k"]) X G fun _ _ _ _ _ _ us hl=>match us,hl with | [_,_],_=>rfl
 obtain⟨f__law_digits,d__law_digits,F__law_digits⟩:=R__law_digits.fn (ps:=["_law_cell_here","_law_many"]) X G fun _ _ _ _ _ _ us hl=>match us,hl with | [_,_],_=>rfl
 obtain⟨f__law_sheet,d__law_sheet,F__law_sheet⟩:=R__law_sheet.fn (ps:=["_law_script","_law_most"]) X G fun _ _ _ _ _ _ us hl=>match us,hl with | [_,_],_=>rfl
 obtain⟨f__law_back,d__law_back,F__law_back⟩:=R__law_back.fn (ps:=["_law_row_here"]) X G fun _ _ _ _ _ _ us hl=>match us,hl with | [_],_=>rfl
 obtain⟨f__law_later,d__law_later,F__law_later⟩:=R__law_later.fn (ps:=["_law_sheet_here"]) X G fun _ _ _ _ _ _ us hl=>match us,hl with | [_],_=>rfl
 obtain⟨f__law_round,d__law_round,F__law_round⟩:=R__law_round.fn (ps:=["_law_later_here","_law_square"]) X G fun _ _ _ _ _ _ us hl=>match us,hl with | [_,_],_=>rfl
 obtain⟨f__law_pair,d__law_pair,F__law_pair⟩:=R__law_pair.fn (ps:=["_law_found"]) X G fun _ _ _ _ _ _ us hl=>match us,hl with | [_],_=>rfl
 obtain⟨f__law_part,d__law_part,F__law_part⟩:=R__law_part.fn (ps:=["_law_cell_here"]) X G fun _ _ _ _ _ _ us hl=>match us,hl with | [_],_=>rfl
 obtain⟨f__law_place,d__law_place,F__law_place⟩:=R__law_place.fn (ps:=["_law_script","_law_at","_law_many"]) X G fun _ _ _ _ _ _ us hl=>match us,hl with | [_,_,_],_=>rfl
 obtain⟨f__law_any_part,d__law_any_part,F__law_any_part⟩:=R__law_any_part.fn (ps:=["_law_cell_here","_law_most"]) X G fun _ _ _ _ _ _ us hl=>match us,hl with | [_,_],_=>rfl
 obtain⟨f__law_any_place,d__law_any_place,F__law_any_place⟩:=R__law_any_place.fn (ps:=["_law_cell_here","_law_many","_law_most"]) X G fun _ _ _ _ _ _ us hl=>match us,hl with | [_,_,_],_=>rfl
 obtain⟨f__law_any_direction,d__law_any_direction,F__law_any_direction⟩:=R__law_any_direction.fn (ps:=["_law_cell_here"]) X G fun _ _ _ _ _ _ us hl=>match us,hl with | [_],_=>rfl
 obtain⟨f__law_handed,d__law_handed,F__law_handed⟩:=R__law_handed.fn (ps:=["_law_place_here"]) X G fun _ _ _ _ _ _ us hl=>match us,hl with | [_],_=>rfl
 obtain⟨f__law_direction,d__law_direction,F__law_direction⟩:=R__law_direction.fn (ps:=["_law_cell_here"]) X G fun _ _ _ _ _ _ us hl=>match us,hl with | [_],_=>rfl
 obtain⟨f__law_divisor,d__law_divisor,F__law_divisor⟩:=R__law_divisor.fn (ps:=["_law_one","_law_other"]) X G fun _ _ _ _ _ _ us hl=>match us,hl with | [_,_],_=>rfl
 obtain⟨f__law_is_corner,d__law_is_corner,F__law_is_corner⟩:=R__law_is_corner.fn (ps:=["_law_found","_law_square","_law_top","_law_bottom"]) X G fun _ _ _ _ _ _ us hl=>match us,hl with | [_,_,_,_],_=>rfl
 obtain⟨f__law_lines,d__law_lines,F__law_lines⟩:=R__law_lines.fn (ps:=["_law_top","_law_bottom","_law_by","_law_scale","_law_end","_law_letters"]) X G fun _ _ _ _ _ _ us hl=>match us,hl with | [_,_,_,_,_,_],_=>rfl
 obtain⟨f__law_whole_times,d__law_whole_times,F__law_whole_times⟩:=R__law_whole_times.fn (ps:=["_law_top","_law_bottom","_law_by","_law_scale","_law_end"]) X G fun _ _ _ _ _ _ us hl=>match us,hl with | [_,_,_,_,_],_=>rfl
 obtain⟨f__law_corner_times,d__law_corner_times,F__law_corner_times⟩:=R__law_corner_times.fn (ps:=["_law_first","_law_second"]) X G fun _ _ _ _ _ _ us hl=>match us,hl with | [_,_],_=>rfl
 obtain⟨f__law_gone,d__law_gone,F__law_gone⟩:=R__law_gone.fn (ps:=["_law_sheet_here","_law_place_here","_law_p","_law_q","_law_steps"]) X G fun _ _ _ _ _ _ us hl=>match us,hl with | [_,_,_,_,_],_=>rfl
 obtain⟨f__law_is_back,d__law_is_back,F__law_is_back⟩:=R__law_is_back.fn (ps:=["_law_found","_law_steps"]) X G fun _ _ _ _ _ _ us hl=>match us,hl with | [_,_],_=>rfl
 obtain⟨f__law_same_back,d__law_same_back,F__law_same_back⟩:=R__law_same_back.fn (ps:=["_law_sheet_here","_law_place_here","_law_p","_law_q","_law_found"]) X G fun _ _ _ _ _ _ us hl=>match us,hl with | [_,_,_,_,_],_=>rfl
 obtain⟨fL,dL,FL,aL,kV,doc,pm,an,cdv,ct,eL⟩:=R_law
 have bL:=FL.binds (ps:=["_law_script"]) fun _ _ _ _ _ _ us hl=>match us,hl with | [_],_=>rfl
 have e:=hfa.symm.trans (PySem.W.mg_of X G aL)
 cases e
 refine⟨dL,fun s v=>?_,fun base _ _=>?_⟩
 ·subst eL; exact .of_eq rfl
 ·have F_law:Fn K mg "law" ZdJ ["_law_script"] fa dL:=⟨FL,bL,PySem.W.mg_of X G aL⟩
  have G_cell:=Z9N (P:=l.prog) (w:=w) (base:=base) T F__law_cell
  have G_whole:=Zar (P:=l.prog) (w:=w) (base:=base) T F__law_whole
  have G_row:=ZeQ T F__law_row F__law_cell G_cell
  have G_tog:=ZeS (P:=l.prog) (w:=w) (base:=base) T F__law_together
  have G_torus:=Za6 (P:=l.prog) (w:=w) (base:=base) T F__law_torus
  have G_exch:=Zbs T F__law_exchanged F__law_cell G_cell
  have G_free:=Zer (P:=l.prog) (w:=w) (base:=base) T F__law_free
  have G_raw:=Zef (P:=l.prog) (w:=w) (base:=base) T F__law_raw
  have G_dig:=ZeG (P:=l.prog) (w:=w) (base:=base) T F__law_digits
  have G_sheet:=ZcL F__law_sheet F__law_free G_free F__law_raw G_raw F__law_digits G_dig F__law_together G_tog F__law_cell G_cell F__law_row G_row F__law_torus G_torus F__law_exchanged G_exch
  have G_cd:=Zg1 (P:=l.prog) (w:=w) (base:=base) T_abs F_common_divisor
  have G_init:=ZbU T_CP e_CN M_CN D_CP F_common_divisor G_cd
  have G_whl:=ZcP (P:=l.prog) (w:=w) (base:=base) T_CP F_whole
  have G_back:=Z7K (P:=l.prog) (w:=w) (base:=base) T F_back_row
  have G_size:=Zc3 (P:=l.prog) (w:=w) (base:=base) T F_size
  have G_isSq:=ZcE (P:=l.prog) (w:=w) (base:=base) T F_is_square F_is_whole
  have G_in:=Zdb T_CP F_whole G_whl F_is_inside
  have G_np:=Zd0 e_CL M_CL F_need_place F_is_square G_isSq F_size G_size F_is_inside G_in
  have G_nw:=ZcM (P:=l.prog) (w:=w) (base:=base) T_abs e_CY M_CY C_FARTHEST F_need_way
  have G_turn:=Zcg F_turn_row F_back_row G_back
  have G_cyc:=Zbp (P:=l.prog) (w:=w) (base:=base) F_cycle_from
  have G_cycles:=Z8T T T_min F_cycles F_cycle_from G_cyc
  have G_corners:=Z7H F_corners F_turn_row G_turn F_cycles G_cycles
  have G_rough:=Zah T F_rough_squares F_corners G_corners
  have G_uo:=Zdm (P:=l.prog) (w:=w) (base:=base) T_CP T_abs T_max F_unit_of
  have G_iu:=Zd2 (P:=l.prog) (w:=w) (base:=base) T_CP F_in_units
  have G_ic:=ZcR (P:=l.prog) (w:=w) (base:=base) F_is_at_corner
  have G_so:=Zdy (P:=l.prog) (w:=w) (base:=base) F_set_out
  have G_ts:=Zdi (P:=l.prog) (w:=w) (base:=base) F_ticks_to_side
  have G_ar:=ZdR (P:=l.prog) (w:=w) (base:=base) F_arrived
  have G_wd:=ZcO T T_CP T_min I_CP.M I_CP.b G_init F_walked F_unit_of G_uo F_rough_squares G_rough F_back_row G_back F_in_units G_iu F_is_at_corner G_ic F_set_out G_so F_ticks_to_side G_ts F_arrived G_ar
  have G_pr:=ZbK T T_CP F__law_pair F__law_whole G_whole
  have G_pa:=Zdq (P:=l.prog) (w:=w) (base:=base) F__law_part
  have G_pl:=ZdC F__law_place F__law_cell G_cell F__law_part G_pa
  have G_ha:=ZdX T_CP I_CP.M I_CP.b G_init F__law_handed
  have G_dr:=ZeC (P:=l.prog) (w:=w) (base:=base) F__law_direction
  have G_ad:=Zdu (P:=l.prog) (w:=w) (base:=base) F__law_any_direction
  have G_ap:=Zdg (P:=l.prog) (w:=w) (base:=base) F__law_any_part
  have G_al:=Ze4 F__law_any_place F__law_any_part G_ap
  have G_isc:=Zdt T F__law_is_corner F__law_whole G_whole F__law_pair G_pr
  have G_ln:=ZeH (P:=l.prog) (w:=w) (base:=base) F__law_lines
  have G_wt:=ZcS (Zet (P:=l.prog) (w:=w) (base:=base) F__law_whole_times)
  have G_ct:=Zev (P:=l.prog) (w:=w) (base:=base) F__law_corner_times
  have G_lback:=Z9V (P:=l.prog) (w:=w) (base:=base) T F__law_back
  have G_later:=Z9M T F__law_later F__law_back G_lback
  have G_ro:=ZdZ (P:=l.prog) (w:=w) (base:=base) F__law_round
  have G_go:=ZdL T T_abs T_max T_min F__law_gone F__law_lines G_ln F__law_whole_times G_wt F__law_corner_times G_ct F__law_later G_later F__law_back G_lback F__law_round G_ro
  have J:=I_CP.b1.choose_spec
  have G_plus:=ZbL T_CP I_CP.M I_CP.b G_init F_plus
  have G_nsw:=ZeN e_CY M_CY F_need_straight_way F_need_way G_nw F_common_divisor G_cd
  have G_ba:=Zeo T_CP I_CP.M J G_init F_plus G_plus F_back_after F_need_place G_np F_need_straight_way G_nsw F_walked G_wd
  have G_dv:=ZbS (P:=l.prog) (w:=w) (base:=base) T_abs F__law_divisor
  have G_ib:=ZdQ T F__law_is_back F__law_whole G_whole
  have G_sb:=ZeD T F__law_same_back F_back_after G_ba F__law_handed G_ha
  exact Zf3 T T_abs F_law F__law_sheet G_sheet F__law_place G_pl F__law_cell G_cell F__law_direction G_dr F__law_free G_free F__law_raw G_raw F__law_any_direction G_ad F__law_any_place G_al F__law_divisor G_dv F_back_after G_ba F__law_handed G_ha F__law_gone G_go F__law_is_corner G_isc F__law_same_back G_sb F__law_is_back G_ib
theorem walk {l:PySem.W.OpenLaw}{q:Program}{loose:List Str}{XP:(Str->Option Value)->Heap->Prop}{YP:World->Heap->Prop}{d:DefRec}{K:Params->Y00}(hn:l.most=some 63)(hdf:d.params.defaults=[])
  (hY:∀ (w:World) (h:Heap),YP w h->(K w.params).In h)
  (F:∀ (w:World) (mg:Str->Option Value) (fa:Addr) (h:Heap),(K w.params).In h->h.Ns mainGlobals mg->mg d.name=some (.ref fa)->
   ∃ fd:FuncData,(∀ (s:Shared) (u:Value),BindsTo s fd ⟨[u],[]⟩ [("_law_script",u)])/\∀ base:Heap,(K w.params).In base->base.Ns mainGlobals mg->Z0x l.prog w (K w.params) mg base CX0 11 fa fd ["_law_script"] (Zae (K w.params))) :
  PySem.W.WalkO q loose XP YP l.row.toRowW d [] (fun f vs=>PySem.call f vs):=
 L2.ZbV (n:=63) (k:=11) (x:="_law_script") (CX:=fun _=>CX0) (sp:=fun w=>Zae (K w.params)) hn (by decide) hdf ⟨rfl,by decide,by decide⟩ hY F (fun _ _ a ns hl _ hS=>⟨a,ns,rfl,hS,fun _=>rfl⟩) fun _ _ _ _ _ z=>z
end K1
open PySem PySem.W PyProof.Rows
set_option maxRecDepth 100000 in
set_option maxHeartbeats 0 in
theorem PySem.Challenge.cw_squaresheet_k39_whole_comes_back_holds : PySem.Challenge.rw_squaresheet_k39_whole_comes_back.Holds := by
 w_on; o_law; k_head; (case hw=>w_witness2)
 k_fill
 refine K1.walk (l:=PySem.Challenge.rw_squaresheet_k39_whole_comes_back) rfl rfl (fun w h Y=>PySem.W.kIn_of Y) ?F
 case F=>
  intro w mg fa h KX G hmg
  have R_size:K1.Raw (L2.KOf KX) "size" K1.Z9o:=by
   dsimp only [L2.KOf]
   refine' K1.Z0v ?a ?l ?c ?k
   (case a=>k_is); (case l=>k_is); (case c=>k_is); (case k=>k_is)
  have R_back_row:K1.Raw (L2.KOf KX) "back_row" K1.Z2D:=by
   dsimp only [L2.KOf]
   refine' K1.Z0v ?a ?l ?c ?k
   (case a=>k_is); (case l=>k_is); (case c=>k_is); (case k=>k_is)
  have R_is_whole:K1.Raw (L2.KOf KX) "is_whole" K1.Z3e:=by
   dsimp only [L2.KOf]
   refine' K1.Z0v ?a ?l ?c ?k
   (case a=>k_is); (case l=>k_is); (case c=>k_is); (case k=>k_is)
  have R_is_square:K1.Raw (L2.KOf KX) "is_square" K1.Z8Q:=by
   dsimp only [L2.KOf]
   refine' K1.Z0v ?a ?l ?c ?k
   (case a=>k_is); (case l=>k_is); (case c=>k_is); (case k=>k_is)
  have R_cycle_from:K1.Raw (L2.KOf KX) "cycle_from" K1.Z21:=by
   dsimp only [L2.KOf]
   refine' K1.Z0v ?a ?l ?c ?k
   (case a=>k_is); (case l=>k_is); (case c=>k_is); (case k=>k_is)
  have R_cycles:K1.Raw (L2.KOf KX) "cycles" K1.Z2N:=by
   dsimp only [L2.KOf]
   refine' K1.Z0v ?a ?l ?c ?k
   (case a=>k_is); (case l=>k_is); (case c=>k_is); (case k=>k_is)
  have R_corners:K1.Raw (L2.KOf KX) "corners" K1.Z2X:=by
   dsimp only [L2.KOf]
   refine' K1.Z0v ?a ?l ?c ?k
   (case a=>k_is); (case l=>k_is); (case c=>k_is); (case k=>k_is)
  have R_turn_row:K1.Raw (L2.KOf KX) "turn_row" K1.Z2A:=by
   dsimp only [L2.KOf]
   refine' K1.Z0v ?a ?l ?c ?k
   (case a=>k_is); (case l=>k_is); (case c=>k_is); (case k=>k_is)
  have R_rough_squares:K1.Raw (L2.KOf KX) "rough_squares" K1.Z1m:=by
   dsimp only [L2.KOf]
   refine' K1.Z0v ?a ?l ?c ?k
   (case a=>k_is); (case l=>k_is); (case c=>k_is); (case k=>k_is)
  have R_common_divisor:K1.Raw (L2.KOf KX) "common_divisor" K1.Z11:=by
   dsimp only [L2.KOf]
   refine' K1.Z0v ?a ?l ?c ?k
   (case a=>k_is); (case l=>k_is); (case c=>k_is); (case k=>k_is)
  have R_back_after:K1.Raw (L2.KOf KX) "back_after" K1.Z1H:=by
   dsimp only [L2.KOf]
   refine' K1.Z0v ?a ?l ?c ?k
   (case a=>k_is); (case l=>k_is); (case c=>k_is); (case k=>k_is)
  have R_need_place:K1.Raw (L2.KOf KX) "need_place" K1.Z22:=by
   dsimp only [L2.KOf]
   refine' K1.Z0v ?a ?l ?c ?k
   (case a=>k_is); (case l=>k_is); (case c=>k_is); (case k=>k_is)
  have R_is_inside:K1.Raw (L2.KOf KX) "is_inside" K1.Z2t:=by
   dsimp only [L2.KOf]
   refine' K1.Z0v ?a ?l ?c ?k
   (case a=>k_is); (case l=>k_is); (case c=>k_is); (case k=>k_is)
  have R_need_way:K1.Raw (L2.KOf KX) "need_way" K1.Z3h:=by
   dsimp only [L2.KOf]
   refine' K1.Z0v ?a ?l ?c ?k
   (case a=>k_is); (case l=>k_is); (case c=>k_is); (case k=>k_is)
  have R_need_straight_way:K1.Raw (L2.KOf KX) "need_straight_way" K1.Z0Y:=by
   dsimp only [L2.KOf]
   refine' K1.Z0v ?a ?l ?c ?k
   (case a=>k_is); (case l=>k_is); (case c=>k_is); (case k=>k_is)
  have R_walked:K1.Raw (L2.KOf KX) "walked" K1.Z46:=by
   dsimp only [L2.KOf]
   refine' K1.Z0v ?a ?l ?c ?k
   (case a=>k_is); (case l=>k_is); (case c=>k_is); (case k=>k_is)
  have R_unit_of:K1.Raw (L2.KOf KX) "unit_of" K1.Z3Z:=by
   dsimp only [L2.KOf]
   refine' K1.Z0v ?a ?l ?c ?k
   (case a=>k_is); (case l=>k_is); (case c=>k_is); (case k=>k_is)
  have R_in_units:K1.Raw (L2.KOf KX) "in_units" K1.Z32:=by
   dsimp only [L2.KOf]
   refine' K1.Z0v ?a ?l ?c ?k
   (case a=>k_is); (case l=>k_is); (case c=>k_is); (case k=>k_is)
  have R_is_at_corner:K1.Raw (L2.KOf KX) "is_at_corner" K1.Z1O:=by
   dsimp only [L2.KOf]
   refine' K1.Z0v ?a ?l ?c ?k
   (case a=>k_is); (case l=>k_is); (case c=>k_is); (case k=>k_is)
  have R_set_out:K1.Raw (L2.KOf KX) "set_out" K1.Z4e:=by
   dsimp only [L2.KOf]
   refine' K1.Z0v ?a ?l ?c ?k
   (case a=>k_is); (case l=>k_is); (case c=>k_is); (case k=>k_is)
  have R_ticks_to_side:K1.Raw (L2.KOf KX) "ticks_to_side" K1.Z1y:=by
   dsimp only [L2.KOf]
   refine' K1.Z0v ?a ?l ?c ?k
   (case a=>k_is); (case l=>k_is); (case c=>k_is); (case k=>k_is)
  have R_arrived:K1.Raw (L2.KOf KX) "arrived" K1.Z3b:=by
   dsimp only [L2.KOf]
   refine' K1.Z0v ?a ?l ?c ?k
   (case a=>k_is); (case l=>k_is); (case c=>k_is); (case k=>k_is)
  have R__law_cell:K1.Raw (L2.KOf KX) "_law_cell" K1.Z5c:=by
   dsimp only [L2.KOf]
   refine' K1.Z0v ?a ?l ?c ?k
   (case a=>k_is); (case l=>k_is); (case c=>k_is); (case k=>k_is)
  have R__law_whole:K1.Raw (L2.KOf KX) "_law_whole" K1.Z4s:=by
   dsimp only [L2.KOf]
   refine' K1.Z0v ?a ?l ?c ?k
   (case a=>k_is); (case l=>k_is); (case c=>k_is); (case k=>k_is)
  have R__law_row:K1.Raw (L2.KOf KX) "_law_row" K1.Z9x:=by
   dsimp only [L2.KOf]
   refine' K1.Z0v ?a ?l ?c ?k
   (case a=>k_is); (case l=>k_is); (case c=>k_is); (case k=>k_is)
  have R__law_torus:K1.Raw (L2.KOf KX) "_law_torus" K1.Z4n:=by
   dsimp only [L2.KOf]
   refine' K1.Z0v ?a ?l ?c ?k
   (case a=>k_is); (case l=>k_is); (case c=>k_is); (case k=>k_is)
  have R__law_exchanged:K1.Raw (L2.KOf KX) "_law_exchanged" K1.Z1N:=by
   dsimp only [L2.KOf]
   refine' K1.Z0v ?a ?l ?c ?k
   (case a=>k_is); (case l=>k_is); (case c=>k_is); (case k=>k_is)
  have R__law_together:K1.Raw (L2.KOf KX) "_law_together" K1.Z1s:=by
   dsimp only [L2.KOf]
   refine' K1.Z0v ?a ?l ?c ?k
   (case a=>k_is); (case l=>k_is); (case c=>k_is); (case k=>k_is)
  have R__law_free:K1.Raw (L2.KOf KX) "_law_free" K1.Z4L:=by
   dsimp only [L2.KOf]
   refine' K1.Z0v ?a ?l ?c ?k
   (case a=>k_is); (case l=>k_is); (case c=>k_is); (case k=>k_is)
  have R__law_raw:K1.Raw (L2.KOf KX) "_law_raw" K1.Z7L:=by
   dsimp only [L2.KOf]
   refine' K1.Z0v ?a ?l ?c ?k
   (case a=>k_is); (case l=>k_is); (case c=>k_is); (case k=>k_is)
  have R__law_digits:K1.Raw (L2.KOf KX) "_law_digits" K1.Z2U:=by
   dsimp only [L2.KOf]
   refine' K1.Z0v ?a ?l ?c ?k
   (case a=>k_is); (case l=>k_is); (case c=>k_is); (case k=>k_is)
  have R__law_sheet:K1.Raw (L2.KOf KX) "_law_sheet" K1.Z5M:=by
   dsimp only [L2.KOf]
   refine' K1.Z0v ?a ?l ?c ?k
   (case a=>k_is); (case l=>k_is); (case c=>k_is); (case k=>k_is)
  have R__law_back:K1.Raw (L2.KOf KX) "_law_back" K1.Z3V:=by
   dsimp only [L2.KOf]
   refine' K1.Z0v ?a ?l ?c ?k
   (case a=>k_is); (case l=>k_is); (case c=>k_is); (case k=>k_is)
  have R__law_later:K1.Raw (L2.KOf KX) "_law_later" K1.Z3k:=by
   dsimp only [L2.KOf]
   refine' K1.Z0v ?a ?l ?c ?k
   (case a=>k_is); (case l=>k_is); (case c=>k_is); (case k=>k_is)
  have R__law_round:K1.Raw (L2.KOf KX) "_law_round" K1.Z4q:=by
   dsimp only [L2.KOf]
   refine' K1.Z0v ?a ?l ?c ?k
   (case a=>k_is); (case l=>k_is); (case c=>k_is); (case k=>k_is)
  have R__law_pair:K1.Raw (L2.KOf KX) "_law_pair" K1.Z69:=by
   dsimp only [L2.KOf]
   refine' K1.Z0v ?a ?l ?c ?k
   (case a=>k_is); (case l=>k_is); (case c=>k_is); (case k=>k_is)
  have R__law_part:K1.Raw (L2.KOf KX) "_law_part" K1.Z5q:=by
   dsimp only [L2.KOf]
   refine' K1.Z0v ?a ?l ?c ?k
   (case a=>k_is); (case l=>k_is); (case c=>k_is); (case k=>k_is)
  have R__law_place:K1.Raw (L2.KOf KX) "_law_place" K1.Z44:=by
   dsimp only [L2.KOf]
   refine' K1.Z0v ?a ?l ?c ?k
   (case a=>k_is); (case l=>k_is); (case c=>k_is); (case k=>k_is)
  have R__law_any_part:K1.Raw (L2.KOf KX) "_law_any_part" K1.Z2y:=by
   dsimp only [L2.KOf]
   refine' K1.Z0v ?a ?l ?c ?k
   (case a=>k_is); (case l=>k_is); (case c=>k_is); (case k=>k_is)
  have R__law_any_place:K1.Raw (L2.KOf KX) "_law_any_place" K1.Z27:=by
   dsimp only [L2.KOf]
   refine' K1.Z0v ?a ?l ?c ?k
   (case a=>k_is); (case l=>k_is); (case c=>k_is); (case k=>k_is)
  have R__law_any_direction:K1.Raw (L2.KOf KX) "_law_any_direction" K1.Z1d:=by
   dsimp only [L2.KOf]
   refine' K1.Z0v ?a ?l ?c ?k
   (case a=>k_is); (case l=>k_is); (case c=>k_is); (case k=>k_is)
  have R__law_handed:K1.Raw (L2.KOf KX) "_law_handed" K1.Z3r:=by
   dsimp only [L2.KOf]
   refine' K1.Z0v ?a ?l ?c ?k
   (case a=>k_is); (case l=>k_is); (case c=>k_is); (case k=>k_is)
  have R__law_direction:K1.Raw (L2.KOf KX) "_law_direction" K1.Z1J:=by
   dsimp only [L2.KOf]
   refine' K1.Z0v ?a ?l ?c ?k
   (case a=>k_is); (case l=>k_is); (case c=>k_is); (case k=>k_is)
  have R__law_divisor:K1.Raw (L2.KOf KX) "_law_divisor" K1.Z2x:=by
   dsimp only [L2.KOf]
   refine' K1.Z0v ?a ?l ?c ?k
   (case a=>k_is); (case l=>k_is); (case c=>k_is); (case k=>k_is)
  have R__law_is_corner:K1.Raw (L2.KOf KX) "_law_is_corner" K1.Z26:=by
   dsimp only [L2.KOf]
   refine' K1.Z0v ?a ?l ?c ?k
   (case a=>k_is); (case l=>k_is); (case c=>k_is); (case k=>k_is)
  have R__law_lines:K1.Raw (L2.KOf KX) "_law_lines" K1.Z6e:=by
   dsimp only [L2.KOf]
   refine' K1.Z0v ?a ?l ?c ?k
   (case a=>k_is); (case l=>k_is); (case c=>k_is); (case k=>k_is)
  have R__law_whole_times:K1.Raw (L2.KOf KX) "_law_whole_times" K1.Z1x:=by
   dsimp only [L2.KOf]
   refine' K1.Z0v ?a ?l ?c ?k
   (case a=>k_is); (case l=>k_is); (case c=>k_is); (case k=>k_is)
  have R__law_corner_times:K1.Raw (L2.KOf KX) "_law_corner_times" K1.Z18:=by
   dsimp only [L2.KOf]
   refine' K1.Z0v ?a ?l ?c ?k
   (case a=>k_is); (case l=>k_is); (case c=>k_is); (case k=>k_is)
  have R__law_gone:K1.Raw (L2.KOf KX) "_law_gone" K1.Z4U:=by
   dsimp only [L2.KOf]
   refine' K1.Z0v ?a ?l ?c ?k
   (case a=>k_is); (case l=>k_is); (case c=>k_is); (case k=>k_is)
  have R__law_is_back:K1.Raw (L2.KOf KX) "_law_is_back" K1.Z2V:=by
   dsimp only [L2.KOf]
   refine' K1.Z0v ?a ?l ?c ?k
   (case a=>k_is); (case l=>k_is); (case c=>k_is); (case k=>k_is)
  have R__law_same_back:K1.Raw (L2.KOf KX) "_law_same_back" K1.Z25:=by
   dsimp only [L2.KOf]
   refine' K1.Z0v ?a ?l ?c ?k
   (case a=>k_is); (case l=>k_is); (case c=>k_is); (case k=>k_is)
  have R_law:K1.Raw (L2.KOf KX) "law" K1.ZdJ:=by
   dsimp only [L2.KOf]
   refine' K1.Z0v ?a ?l ?c ?k
   (case a=>k_is); (case l=>k_is); (case c=>k_is); (case k=>k_is)
  refine' K1.Zee KX G hmg R_size R_back_row R_is_whole R_is_square R_cycle_from R_cycles R_corners R_turn_row R_rough_squares R_common_divisor R_back_after R_need_place R_is_inside R_need_way R_need_straight_way R_walked R_unit_of R_in_units R_is_at_corner R_set_out R_ticks_to_side R_arrived R__law_cell R__law_whole R__law_row R__law_torus R__law_exchanged R__law_together R__law_free R__law_raw R__law_digits R__law_sheet R__law_back R__law_later R__law_round R__law_pair R__law_part R__law_place R__law_any_part R__law_any_place R__law_any_direction R__law_handed R__law_direction R__law_divisor R__law_is_corner R__law_lines R__law_whole_times R__law_corner_times R__law_gone R__law_is_back R__law_same_back R_law ?c_FARTHEST ?m_CL ?f_CL ?m_CY ?f_CY ?m_CN ?f_CN ?e_CN ?e_CL ?e_CY ?m_CP ?t_CP ?i_CP ?q_whole ?q_plus ?z_len ?z_range ?z_list ?z_tuple ?z_isinstance ?z_int ?z_bool ?z_all ?z_set ?z_sorted ?z_enumerate ?z_abs ?z_max ?z_min
  (case c_FARTHEST=>k_is); (case m_CL=>k_is); (case f_CL=>(refine' ⟨?_,?_,?_,?_,?_,?_,?_,?_,?_⟩ <;> k_is)); (case m_CY=>k_is); (case f_CY=>(refine' ⟨?_,?_,?_,?_,?_,?_,?_,?_,?_⟩ <;> k_is)); (case m_CN=>k_is); (case f_CN=>(refine' ⟨?_,?_,?_,?_,?_,?_,?_,?_,?_⟩ <;> k_is)); (case e_CN=>(unfold L2.Z3c; k_exc)); (case e_CL=>(unfold L2.Z3c; k_exc)); (case e_CY=>(unfold L2.Z3c; k_exc)); (case m_CP=>k_is); (case t_CP=>(refine' ⟨?_,?_,?_,?_,?_,?_,?_,?_,?_,?_⟩ <;> k_is)); (case i_CP=>(refine' K1.ZcW ?mk ?kc ?a ?i ?l ?c ?k ?t; (case mk=>k_is); (case kc=>k_is); (case a=>k_is); (case i=>k_is); (case l=>k_is); (case c=>k_is); (case k=>k_is); (case t=>k_is))); (case q_whole=>(refine' K1.Z8a ?a ?i ?l ?c ?k; (case a=>k_is); (case i=>k_is); (case l=>k_is); (case c=>k_is); (case k=>k_is))); (case q_plus=>(refine' K1.Z8a ?a ?i ?l ?c ?k; (case a=>k_is); (case i=>k_is); (case l=>k_is); (case c=>k_is); (case k=>k_is))); (case z_len=>k_is); (case z_range=>k_is); (case z_list=>k_is); (case z_tuple=>k_is); (case z_isinstance=>k_is); (case z_int=>k_is); (case z_bool=>k_is); (case z_all=>k_is); (case z_set=>k_is); (case z_sorted=>k_is); (case z_enumerate=>k_is); (case z_abs=>k_is); (case z_max=>k_is); (case z_min=>k_is)
#print axioms PySem.Challenge.cw_squaresheet_k39_whole_comes_back_holds
